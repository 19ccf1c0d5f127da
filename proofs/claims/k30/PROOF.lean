import PyProof.Rows.All
import Wide.All
import OpenK.AllK
import Wide.FinOn
import PySem.Challenge.RW_dotscreen_k30_handed
import Lean
import PyProof.EqAt
import PyProof.EqKinds
import PyProof.TupleCall
import PyProof.CompFree
import PyProof.StationsW
import PyProof.ExcClass3
import PyProof.Cells
import PyProof.PassesOwn
import PyProof.RangeIter
import PyProof.TableTree
import PyProof.ZipIter
import PyProof.Draws
import PyProof.TupleIter
import PyProof.EnumMake
import PyProof.EnumStmt
import KE.KDictList
import PyProof.Rows.SortWalk
import KE.KRevIter
import PyProof.CollectIter
import KE.KRevSl
import KE.KMinKey
import KE.KLam
import PyProof.DictIter
import PyProof.AttrMiss
import PyProof.IsiH_list
import PyProof.CollectWalk
import KE.KDictOf
import PyProof.DictCopy
import PyProof.FactsAll.tuple_1
import PyProof.FactsAll.dict_3
import PyProof.DictItems
import PySem.Str
import KE.IntBitsLaws
import PyProof.FitsBits
import PyProof.Rows.InDataRows
import KE.KNestM
open PySem renaming Value->aa,wpAny_bind->ae,Addr->af,Shared->ag,wpAny_pure->ah,wpAny->ai,Program->aj,model->ak,mainGlobals->ao,Builtin->aq,starEach->au,Around->ay,NameKind->az,Scope->aA,PyData->aD,tupleKind->aE,cellsFrom->aH,wpAny_truthy_bool->aI,wpAny_field->aK,wpAny_holding->aO,compareOp->aP,wpAny_seqItems->aR,wpAny_newObj_type->aS,wpAny_mono->aW,wpAny_Call_Name_kw->aX,wpAny_callSpecial?_slot->aY,attributeBase->aZ,binaryOp->ba,backTo->bj,wpAny_call_entry->bo,swapsWith->bp,wpAny_setField_rec->bq,sysModules->br,IsPair->bu,FuncData->bw,wpAny_passesOwn->bz,bootBuiltins->bE,behindInMarks->bF,wpAny_tryCatch->bI,keywordEach->bK,codeAny->bM,assignEach->bN,codeAny_builtin->bR,wpAny_standAt->bS,recursionLimit->bT,constantsAlone->bW,codeAny_call_builtin->bX,Paired->bY,swappedStores->b8,plainId_quiet->b9,foldedForSure->cf,letOwnedTupleGo->cy,holding->cz,wpAny_rule->cA,wpAny_letGo->cD,sliceBounds->cE,wpAny_typeOf->cO,wpAny_setField->cP,wpAny_dictEntries->cQ,foldedSetIterable->cT,codeAny_mono->cX,Keyword->c6,cLine->c7,pyNext->c8,call_meets->de,wpAny_updateSeq_pair->dg,sizeLine_eq->dh,backToKw->dw,wpAny_execs_nil->dz,rawInt->dB,IsZip->dG,ClassData->dN,tupleKind_room_in1->dO,reduceHash->dP,wpAny_pyIter_list->dZ,storedH->d8,argBest->eB,wpAny_onRaise->eD,wpAny_getItem_list_slice->eE,wpAny_comprehension_free->eF,assign->eL,wpAny_pyNext_tuple_item->eP,wpAny_pyNext_tuple_end->e8,wpAny_pyNext_list_item->fb,wpAny_pyIter_tupleiter->fe,wpAny_call->fg,wpAny_Name->fh,IsPart->fj,wpAny_updateSeq->fk,Draws->fw,wpAny_pyNext_list_end->fy,wpAny_notOrdered_dict->fA,wpAny_isTrue_Compare1->fB,builtinLookup_eq_fast->fF,wpAny_of_eq->fI,wpAny_loadName_local->fJ,newFunctionEnv->fK,CmpOp->fR,seqItems?->fU,callerA->fV,PassesOwn->fW,DictEntry->fY,wpAny_loadName_free->fZ,swapsWithSole->gf,evalPart_none->gj,assignInOrder->gm,wpAny_pyIter_tuple->gu,wpAny_Constant_int->gv,typeLookup->gw,sub_AttributeError->gx,getattributeRaised->gB,closureFor->gE,Result->gJ,wpAny_sequenceKey->gK,wpAny_pyIter_enum->gL,valueAt->gM,hashInt->gR,BindsTo->hU,wpAny_pyIter_zip->hX,wpAny_isInstance->hZ,wpAny_execs_cons->ia,noFill_tuple_add->ic,checkBuiltinCall->ig,seqIndex_of->ir,wpAny_specialOf->iz,typeLookup_type->iA,pushCells_keeps->iC,standAt->iJ,wpAny_bindName->iN,wpAny_Compare1->iO,typeIs_int->iQ,firstArgMember->i6,entryOfKey->i7,bindName->i9,bindL->ja,bindC->jb,atKey->jc,Code->jf,wpAny_attempt->jl,signature?_of->jq,seq_tuple_add->jr,methodCallPos->jv,intBits_le_64->jx,checkTypeCall->jA,call_list_seq->jB,Comprehension->jC,getMethod->jF,Arguments->jG,setItem->jI,pyIter->jK,isTrue->jN,cellOf->jQ,entryFor->kc,callWith->ke,GenState->kh,preSum->kx,argsOk->kG,Meets->lu
open PyProof.Rows renaming AllBare->dI,assignInOrder_cons->dY,envOfC->eK,subscriptTail_builtinR->fi,IsTup->fQ,IntsAre->fX,subscriptTail->gh,Constant_none->gp,seqObj->gA,args_tuple_getitem->gF,assignInOrder_nil->gX,get?_update_seq->iG,slicePart_none->iU,reads_tuple_at->iW,Subscript_->jd,tupleItemsOf_->jn,reads_list_at->jt
set_option maxHeartbeats 4000000
open PySem.Heap renaming get?_push_of_some->wa,lt_size->Xa,get?_push_size->Ub,size_push->Xh,get?_update_other->Xk,get?_update_self->wq,get?_none_of_le->XC
open Bool renaming and_eq_true->Wa,noConfusion->Vg,false_eq_true->Vh,false_ne_true->xj,or_eq_true->vn,not_eq_true'->wo,and_eq_true_iff->wx,eq_iff_iff->VA,true_eq_false->vD
open List renaming getElem?_eq_some_iff->xa,mem_cons->ua,getElem?_append_left->Ua,getElem?_eq_getElem->wb,size_toArray->Wb,getElem?_map->Xb,map_cons->ub,length_map->wc,lookup_cons->Wc,length_cons->Uc,replicate->Vc,mem_singleton->Xd,range->ud,not_mem_nil->Ud,getElem?_append_right->we,mem_map->ue,mem_of_getElem?->wf,map_map->Wf,mem_cons_of_mem->Uf,mem_append_right->Vf,nil_append->wg,mem_append->Wg,length_append->Xg,mem_cons_self->Wh,getD->uh,ext_getElem?->Uh,getD_eq_getElem?_getD->vh,map_append->Wi,take_succ_cons->Xi,append_assoc->ui,foldl_cons->wj,length_nil->Wj,mem_append_left->Xj,getElem?_set_self->Vj,eq_of_mem_replicate->vk,getElem?_set_ne->wl,getElem?_mapIdx->Wl,nodup_append->ul,nodup_cons->Ul,mem_flatMap->xm,mem_range->Xm,drop_zero->um,getElem?_take_of_lt->Wn,map_nil->xn,eq_nil_of_length_eq_zero->xo,getElem?_replicate->Xo,getElem?_cons_succ->uo,replicate_succ->Uo,length_pos_iff->vo,drop_succ_cons->Vo,all_eq_true->Wp,mapM_cons->xp,take_of_length_le->Up,length_replicate->Vp,getElem?_eq_none->Wq,reverse_cons->xq,length_take->Uq,getElem_mem->vq,map_reverse->Wr,append_nil->Xr,find?_cons->ur,flatten_cons->Xs,take_length->wt,lookup->Xt,getElem_of_mem->ut,getElem?_range->vt,drop_eq_getElem_cons->Vt,mem_or_eq_of_mem_set->wu,range_succ->xu,take_left'->Xu,take_zero->uu,range_succ_eq_map->Wv,any_cons->xv,sum_cons->Xv,filter_cons->uv,flatten_replicate_singleton->Uv,mem_iff_getElem?->vv,mem_filter->Vv,mem_of_mem_take->xx,filterMap_cons->Xx,length_reverse->Ux,length_flatMap->vx,flatMap_append->Vx,map->xy,getElem?_drop->vy,set_cons_succ->wz,take_add_one->Xz,getElem?_inj->uz,getElem?_zip_eq_some->Uz,length_drop->Vz,zipIdx_cons->wA,map_set->WA,mem_reverse->xA,of_mem_zip->UA,forIn_cons->vA,length->WB,length_singleton->XB,forIn_nil->UB,set_append_right->wC,getElem?_reverse->WC,length_filter_le->xC,getElem?_modify->UC,map_congr_left->WD,mem_filterMap->XD,any_map->UD,length_mapIdx->VD,drop_length->vF,cons_append->VF,foldl->wG
open Nat renaming le_refl->xb,ne_of_lt->Xc,lt_of_lt_of_le->Wd,le_trans->vf,lt_irrefl->Ui,lt_succ_self->Uj,pow_le_pow_right->xl,zero_le->wm,ne_of_gt->Um,lt_trans->Xn,mod_lt->Xp,le_of_eq->uq,mod_eq_of_lt->Vq,lt_succ_of_lt->Us,mul_comm->Vs,mul_mod->Vu,le_of_lt->ww,div_add_mod->xw,zero_add->Xw,sub_zero->vw,min_le_left->Vw,mul_le_mul_right->Wx,le_succ->Xy,add_mul->Uy,pow_succ->XA,lt_trichotomy->wF,le_of_not_lt->uF,le_add_right->UF
open PySem.W renaming findIn->xc,mg_none_of->We,keepIn->Xe,nsIn->Ue,mg_of->xf,fnOf->Xf,subIn->uf,emptyDict->xg,kitOne->Ug,codeIn->vg,instObj->xh,kia_one->Vi,plainGet->uj,typeIn->xk,hasDictIn->uk,makesIn->Uk,clsIn->Vk,plainOver->Xl,isFn->Vm,mroIn->Wo,kla_obj->Ur,specialIn->Uu,takesIn->Ww,plainGet_of->ux,lookIn->wy,callWith_K->Vy,methodObj->xz,makes_of->vz,takerIn->uA,cellsFrom_some->wB,kla_fn->vB,tabObj->VB,looks_findIn->uC,callWith_K0->VC,make_core->uE,kitx_list->UE,kitx_dict->vE,handedIn->xF
open Option renaming bind_eq_some_iff->uc,map_eq_some_iff->Vd,map_some->ug,bind_some->xi,getD_some->Wm,isSome_iff_exists->wn,bind_eq_bind->Ut,isSome_some->uD,toList_some->xE,isSome_map->VE,getD_none->XF
open Function renaming comp_def->vc,comp_apply->xr,comp->vC
open Int renaming eq_ofNat_of_zero_le->Ve,toNat_natCast->Xq,emod_lt_of_pos->Vr,mul_le_mul_of_nonneg_left->Ws,emod_nonneg->Wu,le_refl->uy,fdiv_eq_ediv_of_nonneg->Wz,le_ediv_iff_mul_le->xB,le_trans->wE,mul_comm->WE,natAbs_natCast->XE,add_mul->WF
open Array renaming length_toList->Vl,eq_empty_of_size_eq_zero->Uw,getElem?_toList->uB,toList_append->wD,toList->xD
open Prod renaming snd->Vn,fst->Wt,ext->Wy
set_option Elab.async false
set_option linter.all false
set_option maxRecDepth 100000
set_option genSizeOf false
set_option genSizeOfSpec false
set_option bootstrap.genMatcherCode false
def PySem.W.Fast.tw5335764926909344849:Nat:=0
def PySem.W.Fast.tw2081780831359811574:Nat:=0
def PySem.W.Fast.tw7345954109035494767:Nat:=0
def PySem.W.Fast.tw293623030129874516:Nat:=0
def PySem.W.Fast.tw5251311664331623543:Nat:=0
def PySem.W.Fast.tw1292588868601444835:Nat:=0
def PySem.W.Fast.tw6228210127390060077:Nat:=0
def PySem.W.Fast.tw6392365712051097715:Nat:=0
def PySem.W.Fast.tw3094502047673958956:Nat:=0
def PySem.W.Fast.tw10253926089296190080:Nat:=0
def PySem.W.Fast.tw14583264099453738208:Nat:=0
def PySem.W.Fast.tw15442144037960984640:Nat:=0
def PySem.W.Fast.tw16373533312614395395:Nat:=0
def PySem.W.Fast.tw4463660102299165599:Nat:=0
def PySem.W.Fast.tw8038357639576577561:Nat:=0
def PySem.W.Fast.tw4238230274771256698:Nat:=0
def PySem.W.Fast.tw15531344963620624115:Nat:=0
def PySem.W.Fast.tw3263273750833688914:Nat:=0
def PySem.W.Fast.tw12470132483100658850:Nat:=0
def PySem.W.Fast.tw15647381823054049531:Nat:=0
def PySem.W.Fast.tw13056042365991490635:Nat:=0
def PySem.W.Fast.tw3533539723925110398:Nat:=0
def PySem.W.Fast.tw15058898286158996311:Nat:=0
def PySem.W.Fast.tw488235534248691152:Nat:=0
def PySem.W.Fast.tw8344767222906159740:Nat:=0
def PySem.W.Fast.tw16012616278174769831:Nat:=0
def PySem.W.Fast.tw2351694058146254074:Nat:=0
def PySem.W.Fast.tw9462516045802124275:Nat:=0
def PySem.W.Fast.tw8473566020102114363:Nat:=0
def PySem.W.Fast.tw15616120773843555682:Nat:=0
def PySem.W.Fast.tw3937650646599829732:Nat:=0
def PySem.W.Fast.tw229194238228178808:Nat:=0
def PySem.W.Fast.tw5495992749568685492:Nat:=0
def PySem.W.Fast.tw9370926562960859663:Nat:=0
def PySem.W.Fast.tw6909141964490499421:Nat:=0
def PySem.W.Fast.tw13044371035341109717:Nat:=0
def PySem.W.Fast.tw13847342394969751714:Nat:=0
def PySem.W.Fast.tw8097040668440798538:Nat:=0
def PySem.W.Fast.tw16385088102325415092:Nat:=0
def PySem.W.Fast.tw4804985126647971931:Nat:=0
def PySem.W.Fast.tw16590799337977581160:Nat:=0
def PySem.W.Fast.tw9320657277887654144:Nat:=0
def PySem.W.Fast.tw12236276120549383163:Nat:=0
def PySem.W.Fast.tw12598604196784580671:Nat:=0
def PySem.W.Fast.tw6990767091791100575:Nat:=0
def PySem.W.Fast.tw2575095428860353950:Nat:=0
def PySem.W.Fast.tw6556093133389110001:Nat:=0
def PySem.W.Fast.tw7373224846664512863:Nat:=0
def PySem.W.Fast.tw433407584820958029:Nat:=0
def PySem.W.Fast.tw11771220644325527786:Nat:=0
def PySem.W.Fast.tw14145901956839185847:Nat:=0
def PySem.W.Fast.tw11521040616374728436:Nat:=0
def PySem.W.Fast.tw1477002409554579672:Nat:=0
def PySem.W.Fast.tw11199316052693386199:Nat:=0
def PySem.W.Fast.tw18161291665447675389:Nat:=0
def PySem.W.Fast.tw11001337983901751041:Nat:=0
def PySem.W.Fast.tw1630374980598597531:Nat:=0
def PySem.W.Fast.tw18264035378818564990:Nat:=0
def PySem.W.Fast.tw16141089368355265740:Nat:=0
def PySem.W.Fast.tw17980787043720904263:Nat:=0
def PySem.W.Fast.tw14165464323919337103:Nat:=0
def PySem.W.Fast.tw9893900870465462183:Nat:=0
def PySem.W.Fast.tw8571279938707682286:Nat:=0
def PySem.W.Fast.tw17392966031844709527:Nat:=0
def PySem.W.Fast.tw1477746786977000329:Nat:=0
def PySem.W.Fast.tw10249271588914142794:Nat:=0
def PySem.W.Fast.tw14194461813364014551:Nat:=0
def PySem.W.Fast.tw11673682762789820792:Nat:=0
def PySem.W.Fast.tw13772721091900887534:Nat:=0
def PySem.W.Fast.tw15689534720012886250:Nat:=0
def PySem.W.Fast.tw6144821546036891786:Nat:=0
def PySem.W.Fast.tw1831669845519649739:Nat:=0
def PySem.W.Fast.tw7128209597985101313:Nat:=0
def PySem.W.Fast.tw10401437217319496817:Nat:=0
def PySem.W.Fast.tw15285015925601634023:Nat:=0
def PySem.W.Fast.tw8342020773378000211:Nat:=0
def PySem.W.Fast.tw5540510472943960537:Nat:=0
def PySem.W.Fast.tw3228235431220115441:Nat:=0
def PySem.W.Fast.tw2871263300820883232:Nat:=0
def PySem.W.Fast.tw11596066423530012188:Nat:=0
def PySem.W.Fast.tw16503035227417962595:Nat:=0
def PySem.W.Fast.tw9462642211803999471:Nat:=0
def PySem.W.Fast.tw8291509902027366467:Nat:=0
def PySem.W.Fast.tw11642441646106250046:Nat:=0
def PySem.W.Fast.tw1921050762234155188:Nat:=0
def PySem.W.Fast.tw12931986924733306064:Nat:=0
def PySem.W.Fast.tw12837701291165237043:Nat:=0
def PySem.W.Fast.tw12472430863012948671:Nat:=0
def PySem.W.Fast.tw4072688362636029940:Nat:=0
def PySem.W.Fast.tw12857813546080574726:Nat:=0
def PySem.W.Fast.tw2465971856265310969:Nat:=0
def PySem.W.Fast.tw6043640024136679422:Nat:=0
def PySem.W.Fast.tw2560733922683556600:Nat:=0
def PySem.W.Fast.tw16172006762516315686:Nat:=0
def PySem.W.Fast.tw16357240978464407719:Nat:=0
def PySem.W.Fast.tw12259568335688390704:Nat:=0
def PySem.W.Fast.tw5741405271012832511:Nat:=0
def PySem.W.Fast.tw6521777535495164398:Nat:=0
def PySem.W.Fast.tw18330454942860789078:Nat:=0
def PySem.W.Fast.tw5289464982725163024:Nat:=0
def PySem.W.Fast.tw994572386037272208:Nat:=0
def PySem.W.Fast.tw8099766050052605035:Nat:=0
def PySem.W.Fast.tw17781973864605566972:Nat:=0
def PySem.W.Fast.tw15598030245092918642:Nat:=0
def PySem.W.Fast.tw3123118471200588104:Nat:=0
def PySem.W.Fast.tw1780306611437640255:Nat:=0
def PySem.W.Fast.tw11474588412695336430:Nat:=0
def PySem.W.Fast.tw14298627689129633687:Nat:=0
def PySem.W.Fast.tw2605410819445084798:Nat:=0
def PySem.W.Fast.tw379698855888042470:Nat:=0
def PySem.W.Fast.tw7498970215214253543:Nat:=0
def PySem.W.Fast.tw13690929345363817947:Nat:=0
def PySem.W.Fast.tw10059147894989377455:Nat:=0
def PySem.W.Fast.tw2658812650658406179:Nat:=0
def PySem.W.Fast.tw14693572825261791609:Nat:=0
def PySem.W.Fast.tw3566190374043705496:Nat:=0
def PySem.W.Fast.tw5356657945352383245:Nat:=0
def PySem.W.Fast.tw3141124715875208687:Nat:=0
def PySem.W.Fast.tw2424487803491120045:Nat:=0
def PySem.W.Fast.tw10611164922430770651:Nat:=0
def PySem.W.Fast.tw6245958190336176508:Nat:=0
def PySem.W.Fast.tw4965250555311461201:Nat:=0
def PySem.W.Fast.tw14870357061641776441:Nat:=0
def PySem.W.Fast.tw9806003772012512583:Nat:=0
def PySem.W.Fast.tw3496233341787249579:Nat:=0
def PySem.W.Fast.tw9805669914580034835:Nat:=0
def PySem.W.Fast.tw2279288799263784827:Nat:=0
def PySem.W.Fast.tw3589292305520756867:Nat:=0
def PySem.W.Fast.tw8619880693846234399:Nat:=0
def PySem.W.Fast.tw4942583372173734905:Nat:=0
def PySem.W.Fast.tw13530125023928955959:Nat:=0
def PySem.W.Fast.tw8217499656329184001:Nat:=0
def PySem.W.Fast.tw10450632253008272637:Nat:=0
def PySem.W.Fast.tw7423002212577579909:Nat:=0
def PySem.W.Fast.tw2311298108338644534:Nat:=0
def PySem.W.Fast.tw13965626202240244492:Nat:=0
def PySem.W.Fast.tw18446437161874633381:Nat:=0
def PySem.W.Fast.tw5242034149030727830:Nat:=0
def PySem.W.Fast.tw9742100604151376382:Nat:=0
def PySem.W.Fast.tw6040332894706471752:Nat:=0
def PySem.W.Fast.tw17262778294284607375:Nat:=0
def PySem.W.Fast.tw3297461877628243569:Nat:=0
def PySem.W.Fast.tw8435878287624280163:Nat:=0
def PySem.W.Fast.tw12099841053484580683:Nat:=0
def PySem.W.Fast.tw14530331109426233587:Nat:=0
def PySem.W.Fast.tw7443125271341716304:Nat:=0
def PySem.W.Fast.tw9485546862025286608:Nat:=0
def PySem.W.Fast.tw11268917364484672117:Nat:=0
def PySem.W.Fast.tw12192430595954539296:Nat:=0
def PySem.W.Fast.tw15556449382124488089:Nat:=0
def PySem.W.Fast.tw14244244442264860125:Nat:=0
def PySem.W.Fast.tw1970696404573237441:Nat:=0
def PySem.W.Fast.tw4840493009288507263:Nat:=0
def PySem.W.Fast.tw17364560190650860066:Nat:=0
def PySem.W.Fast.tw13183710067523028216:Nat:=0
def PySem.W.Fast.tw10979332001705776576:Nat:=0
def PySem.W.Fast.tw11245078205398127605:Nat:=0
def PySem.W.Fast.tw11416535434901861395:Nat:=0
def PySem.W.Fast.tw13339282405843419958:Nat:=0
def PySem.W.Fast.tw3636355234939829445:Nat:=0
def PySem.W.Fast.tw11252884443064502931:Nat:=0
def PySem.W.Fast.tw12291941917289891773:Nat:=0
def PySem.W.Fast.tw12664947487300961592:Nat:=0
def PySem.W.Fast.tw17310298013003075279:Nat:=0
def PySem.W.Fast.tw299918984370065756:Nat:=0
def PySem.W.Fast.tw17615744498580702056:Nat:=0
def PySem.W.Fast.tw2916174480844564154:Nat:=0
def PySem.W.Fast.tw15106179605109623129:Nat:=0
def PySem.W.Fast.tw8941695570841586592:Nat:=0
def PySem.W.Fast.tw13093317830648881653:Nat:=0
def PySem.W.Fast.tw9460714841227431277:Nat:=0
def PySem.W.Fast.tw1918031513485556528:Nat:=0
def PySem.W.Fast.tw11810712687428990966:Nat:=0
def PySem.W.Fast.tw7417635017496269349:Nat:=0
def PySem.W.Fast.tw741173610382746047:Nat:=0
def PySem.W.Fast.tw10633980071074747157:Nat:=0
def PySem.W.Fast.tw12321644768604945619:Nat:=0
def PySem.W.Fast.tw6621055062984046553:Nat:=0
def PySem.W.Fast.tw18211587639954751520:Nat:=0
def PySem.W.Fast.tw64418924754284752:Nat:=0
def PySem.W.Fast.tw8872812588184697264:Nat:=0
def PySem.W.Fast.tw2731487254208208940:Nat:=0
def PySem.W.Fast.tw9638372526764558899:Nat:=0
def PySem.W.Fast.tw9358187644648460874:Nat:=0
def PySem.W.Fast.tw3731272132921208745:Nat:=0
def PySem.W.Fast.tw8500252483841817734:Nat:=0
def PySem.W.Fast.tw8553785077500742438:Nat:=0
def PySem.W.Fast.tw14411471225121466348:Nat:=0
def PySem.W.Fast.tw15929179747731551755:Nat:=0
def PySem.W.Fast.tw14984035050930080120:Nat:=0
def PySem.W.Fast.tw7946805269464465487:Nat:=0
def PySem.W.Fast.tw8339361920128131358:Nat:=0
def PySem.W.Fast.tw5400317525804876012:Nat:=0
def PySem.W.Fast.tw11568821465353085317:Nat:=0
def PySem.W.Fast.tw8608381406819676550:Nat:=0
def PySem.W.Fast.tw16648981972721389083:Nat:=0
def PySem.W.Fast.tw7055632989348735095:Nat:=0
def PySem.W.Fast.tw15661940604759145767:Nat:=0
def PySem.W.Fast.tw346230867802644627:Nat:=0
def PySem.W.Fast.tw3569416485285594194:Nat:=0
def PySem.W.Fast.tw7363810916453958273:Nat:=0
def PySem.W.Fast.tw12244568477414201425:Nat:=0
def PySem.W.Fast.tw3313350104644136121:Nat:=0
def PySem.W.Fast.tw5543171473416542835:Nat:=0
def PySem.W.Fast.tw3764435880647831543:Nat:=0
def PySem.W.Fast.tw6971152833090916029:Nat:=0
def PySem.W.Fast.tw838497200512967595:Nat:=0
def PySem.W.Fast.tw17061836771166841491:Nat:=0
def PySem.W.Fast.tw11374695264626045013:Nat:=0
def PySem.W.Fast.tw4051626661162249389:Nat:=0
def PySem.W.Fast.tw4265813597622552934:Nat:=0
def PySem.W.Fast.tw979379056318704971:Nat:=0
def PySem.W.Fast.tw2949415620700719120:Nat:=0
def PySem.W.Fast.tw6057152077187562625:Nat:=0
def PySem.W.Fast.tw6257294750203607310:Nat:=0
def PySem.W.Fast.tw3037583525672675721:Nat:=0
def PySem.W.Fast.tw14914617105727001259:Nat:=0
def PySem.W.Fast.tw2617278397759009194:Nat:=0
def PySem.W.Fast.tw2922352069361541342:Nat:=0
def PySem.W.Fast.tw13361361973699940739:Nat:=0
def PySem.W.Fast.tw13213544449928049657:Nat:=0
def PySem.W.Fast.tw9223285667412234214:Nat:=0
def PySem.W.Fast.tw5005116125565889959:Nat:=0
def PySem.W.Fast.tw13700491083084898465:Nat:=0
def PySem.W.Fast.tw11008699919516408358:Nat:=0
def PySem.W.Fast.tw4153638951165638649:Nat:=0
def PySem.W.Fast.tw17304501277480501382:Nat:=0
def PySem.W.Fast.tw6189231713172542069:Nat:=0
def PySem.W.Fast.tw15877724038398730621:Nat:=0
def PySem.W.Fast.tw5136855528619883260:Nat:=0
def PySem.W.Fast.tw9681317677572723984:Nat:=0
def PySem.W.Fast.tw7330026763081120598:Nat:=0
def PySem.W.Fast.tw4526750679920566250:Nat:=0
def PySem.W.Fast.tw8990878159103218070:Nat:=0
def PySem.W.Fast.tw14443280593506313786:Nat:=0
def PySem.W.Fast.tw14140055684715361799:Nat:=0
def PySem.W.Fast.tw5103835146708954846:Nat:=0
def PySem.W.Fast.tw3303254250561533396:Nat:=0
def PySem.W.Fast.tw12844485738977033767:Nat:=0
def PySem.W.Fast.tw698862836595457000:Nat:=0
def PySem.W.Fast.tw12449001500456866291:Nat:=0
def PySem.W.Fast.tw9944053550621289706:Nat:=0
def PySem.W.Fast.tw8076439051181712118:Nat:=0
def PySem.W.Fast.tw11471551014422850432:Nat:=0
def PySem.W.Fast.tw4839035101971913890:Nat:=0
def PySem.W.Fast.tw17320816149794110444:Nat:=0
def PySem.W.Fast.tw6150242637433321490:Nat:=0
def PySem.W.Fast.tw6713662209225581671:Nat:=0
def PySem.W.Fast.tw3540010326727563959:Nat:=0
def PySem.W.Fast.tw14479472007584787288:Nat:=0
def PySem.W.Fast.tw3431750996342600688:Nat:=0
def PySem.W.Fast.tw12029101888491798564:Nat:=0
def PySem.W.Fast.tw13363960942100040371:Nat:=0
def PySem.W.Fast.tw9815802180408363278:Nat:=0
def PySem.W.Fast.tw2786919621994345557:Nat:=0
def PySem.W.Fast.tw18110121386600614443:Nat:=0
def PySem.W.Fast.tw5221098626442109474:Nat:=0
def PySem.W.Fast.tw13266605012482718122:Nat:=0
def PySem.W.Fast.tw1796042474812909392:Nat:=0
def PySem.W.Fast.tw4487069134854819023:Nat:=0
def PySem.W.Fast.tw7036402497192663090:Nat:=0
def PySem.W.Fast.tw1515398192354231573:Nat:=0
def PySem.W.Fast.tw5750659659558859440:Nat:=0
def PySem.W.Fast.tw524452230376634559:Nat:=0
def PySem.W.Fast.tw2036955420152855622:Nat:=0
def PySem.W.Fast.tw11756773034308988931:Nat:=0
def PySem.W.Fast.tw3548635360996210700:Nat:=0
def PySem.W.Fast.tw13868807931703409585:Nat:=0
def PySem.W.Fast.tw14468579264743189177:Nat:=0
def PySem.W.Fast.tw15092219589468360262:Nat:=0
def PySem.W.Fast.tw7260679975411316421:Nat:=0
def PySem.W.Fast.tw9121617338238948425:Nat:=0
def PySem.W.Fast.tw9140742947948739306:Nat:=0
def PySem.W.Fast.tw388963203853194198:Nat:=0
def PySem.W.Fast.tw10662882962837517347:Nat:=0
def PySem.W.Fast.tw8973581375520718928:Nat:=0
def PySem.W.Fast.tw13501356775025011126:Nat:=0
def PySem.W.Fast.tw1955477393088536031:Nat:=0
def PySem.W.Fast.tw2398771978327192213:Nat:=0
def PySem.W.Fast.tw16447825622769278733:Nat:=0
def PySem.W.Fast.tw4380360985653796977:Nat:=0
def PySem.W.Fast.tw13067020900899816105:Nat:=0
def PySem.W.Fast.tw4650877708426971648:Nat:=0
def PySem.W.Fast.tw15225063284991864163:Nat:=0
def PySem.W.Fast.tw5774922090294766944:Nat:=0
def PySem.W.Fast.tw12267591076967498520:Nat:=0
def PySem.W.Fast.tw13725131002719612063:Nat:=0
def PySem.W.Fast.tw6967888318619882917:Nat:=0
def PySem.W.Fast.tw3720000952421992915:Nat:=0
def PySem.W.Fast.tw2462704699727683963:Nat:=0
def PySem.W.Fast.tw5995063340173074426:Nat:=0
def PySem.W.Fast.tw7845279693035503158:Nat:=0
def PySem.W.Fast.tw7382132739515622152:Nat:=0
def PySem.W.Fast.tw7973972531658123790:Nat:=0
def PySem.W.Fast.tw4824503531543315102:Nat:=0
def PySem.W.Fast.tw17258703358178810194:Nat:=0
def PySem.W.Fast.tw176332747203507966:Nat:=0
def PySem.W.Fast.tw15323268175270047549:Nat:=0
def PySem.W.Fast.tw4122023957444412379:Nat:=0
def PySem.W.Fast.tw12424269131302502317:Nat:=0
def PySem.W.Fast.tw15738323214092512706:Nat:=0
def PySem.W.Fast.tw11511966135488786551:Nat:=0
def PySem.W.Fast.tw11286919602243383143:Nat:=0
def PySem.W.Fast.tw7214633334566059796:Nat:=0
def PySem.W.Fast.tw10291777473084530703:Nat:=0
def PySem.W.Fast.tw2643429697475406025:Nat:=0
def PySem.W.Fast.tw5661598089554079977:Nat:=0
def PySem.W.Fast.tw1074219631773122246:Nat:=0
def PySem.W.Fast.tw4372885260713015857:Nat:=0
def PySem.W.Fast.tw18077562595157893387:Nat:=0
def PySem.W.Fast.tw9557932925600521370:Nat:=0
def PySem.W.Fast.tw5511232757793550221:Nat:=0
def PySem.W.Fast.tw10557201653611979372:Nat:=0
def PySem.W.Fast.tw6066190705747763069:Nat:=0
def PySem.W.Fast.tw6583877054308121385:Nat:=0
def PySem.W.Fast.tw12444614879644182743:Nat:=0
def PySem.W.Fast.tw16760166808807779585:Nat:=0
def PySem.W.Fast.tw6437856945016380757:Nat:=0
def PySem.W.Fast.tw9103646957963816878:Nat:=0
def PySem.W.Fast.tw14652837968838785684:Nat:=0
def PySem.W.Fast.tw2102150840806365589:Nat:=0
def PySem.W.Fast.tw1762034826875287178:Nat:=0
def PySem.W.Fast.tw16537149120111274574:Nat:=0
def PySem.W.Fast.tw12477809945316368938:Nat:=0
def PySem.W.Fast.tw6589491443775625295:Nat:=0
def PySem.W.Fast.tw474299050619531969:Nat:=0
def PySem.W.Fast.tw17289902054085209666:Nat:=0
def PySem.W.Fast.tw8910515356535639811:Nat:=0
def PySem.W.Fast.tw13805449907073959464:Nat:=0
def PySem.W.Fast.tw5683644195650896316:Nat:=0
def PySem.W.Fast.tw3511943740583638267:Nat:=0
def PySem.W.Fast.tw10540450077188841906:Nat:=0
def PySem.W.Fast.tw4491452921695219470:Nat:=0
def PySem.W.Fast.tw5813648284909289184:Nat:=0
def PySem.W.Fast.tw844047380451016036:Nat:=0
def PySem.W.Fast.tw7691912864545393461:Nat:=0
def PySem.W.Fast.tw18319337407862875649:Nat:=0
def PySem.W.Fast.tw11610538362140320545:Nat:=0
def PySem.W.Fast.tw6307466252112236166:Nat:=0
def PySem.W.Fast.tw8307369475476319918:Nat:=0
def PySem.W.Fast.tw86325370038591890:Nat:=0
def PySem.W.Fast.tw9194729960825811413:Nat:=0
def PySem.W.Fast.tw6736496110487312784:Nat:=0
def PySem.W.Fast.tw8750154699601863643:Nat:=0
def PySem.W.Fast.tw923189859643274101:Nat:=0
def PySem.W.Fast.tw10352413994493694405:Nat:=0
def PySem.W.Fast.tw300781261250471830:Nat:=0
def PySem.W.Fast.tw14755790437431588678:Nat:=0
def PySem.W.Fast.tw15639332074673874616:Nat:=0
def PySem.W.Fast.tw16500999502613665744:Nat:=0
def PySem.W.Fast.tw12111427683786991797:Nat:=0
def PySem.W.Fast.tw13761699349147827927:Nat:=0
def PySem.W.Fast.tw1466310434217592958:Nat:=0
def PySem.W.Fast.tw3619502204272403920:Nat:=0
def PySem.W.Fast.tw8132708206754685398:Nat:=0
def PySem.W.Fast.tw1239923092918728077:Nat:=0
def PySem.W.Fast.tw5198682425593956062:Nat:=0
def PySem.W.Fast.tw2602597585116631210:Nat:=0
def PySem.W.Fast.tw13106088043341693946:Nat:=0
def PySem.W.Fast.tw13260584226264676946:Nat:=0
def PySem.W.Fast.tw14085856445634501354:Nat:=0
def PySem.W.Fast.tw16772553492244787366:Nat:=0
def PySem.W.Fast.tw15450264104892590290:Nat:=0
def PySem.W.Fast.tw14131862868579004831:Nat:=0
def PySem.W.Fast.tw1262490288777098671:Nat:=0
def PySem.W.Fast.tw7057805234744520550:Nat:=0
def PySem.W.Fast.tw5455525162875173718:Nat:=0
def PySem.W.Fast.tw3847757469819871116:Nat:=0
def PySem.W.Fast.tw7956272679936213751:Nat:=0
def PySem.W.Fast.tw15732569827959756478:Nat:=0
def PySem.W.Fast.tw1297707859388320915:Nat:=0
def PySem.W.Fast.tw14656431607057086855:Nat:=0
def PySem.W.Fast.tw4853504367302110148:Nat:=0
def PySem.W.Fast.tw13351882192168556273:Nat:=0
def PySem.W.Fast.tw7971536321716793195:Nat:=0
def PySem.W.Fast.tw8352452824086284286:Nat:=0
def PySem.W.Fast.tw13339391699033954501:Nat:=0
def PySem.W.Fast.tw4404813637255560177:Nat:=0
def PySem.W.Fast.tw362879665621240600:Nat:=0
def PySem.W.Fast.tw14883624500609184867:Nat:=0
def PySem.W.Fast.tw1666659264340644947:Nat:=0
def PySem.W.Fast.tw9590886873322262302:Nat:=0
def PySem.W.Fast.tw13948978898061652719:Nat:=0
def PySem.W.Fast.tw14765013259846975759:Nat:=0
def PySem.W.Fast.tw11872713387320649984:Nat:=0
def PySem.W.Fast.tw12274540706653683395:Nat:=0
def PySem.W.Fast.tw481468135541636836:Nat:=0
def PySem.W.Fast.tw7297224663504124132:Nat:=0
def PySem.W.Fast.tw11336915772266345516:Nat:=0
def PySem.W.Fast.tw1468600714053414748:Nat:=0
def PySem.W.Fast.tw17417944678498278849:Nat:=0
def PySem.W.Fast.tw11774224781819777774:Nat:=0
def PySem.W.Fast.tw12857545917339568830:Nat:=0
def PySem.W.Fast.tw16371872332710870430:Nat:=0
def PySem.W.Fast.tw3432313631958961751:Nat:=0
def PySem.W.Fast.tw11050135565801500160:Nat:=0
def PySem.W.Fast.tw18372049922286290007:Nat:=0
def PySem.W.Fast.tw2522573971553107949:Nat:=0
def PySem.W.Fast.tw5814495062276612362:Nat:=0
def PySem.W.Fast.tw14148958099628436827:Nat:=0
def PySem.W.Fast.tw6290545022098110622:Nat:=0
def PySem.W.Fast.tw9251057876037149840:Nat:=0
def PySem.W.Fast.tw3793470859346240342:Nat:=0
def PySem.W.Fast.tw3729186784622742424:Nat:=0
def PySem.W.Fast.tw3236253069092239718:Nat:=0
def PySem.W.Fast.tw10299543182896588930:Nat:=0
def PySem.W.Fast.tw12851720887491535006:Nat:=0
def PySem.W.Fast.tw5950910184645522443:Nat:=0
def PySem.W.Fast.tw7535888636129941002:Nat:=0
def PySem.W.Fast.tw1841520412650067810:Nat:=0
def PySem.W.Fast.tw8341396018652242944:Nat:=0
def PySem.W.Fast.tw13291401644463585872:Nat:=0
def PySem.W.Fast.tw9052648912506890648:Nat:=0
def PySem.W.Fast.tw12633979644558630557:Nat:=0
def PySem.W.Fast.tw9107811761165503606:Nat:=0
def PySem.W.Fast.tw12776251809860001173:Nat:=0
def PySem.W.Fast.tw16117563820332959763:Nat:=0
def PySem.W.Fast.tw3739180577717138941:Nat:=0
def PySem.W.Fast.tw5352295604530884001:Nat:=0
def PySem.W.Fast.tw12417218836839330773:Nat:=0
def PySem.W.Fast.tw5034410394469700485:Nat:=0
def PySem.W.Fast.tw5137258042230725304:Nat:=0
def PySem.W.Fast.tw11312367199450692322:Nat:=0
def PySem.W.Fast.tw15433372237648476778:Nat:=0
def PySem.W.Fast.tw4934494237907081822:Nat:=0
def PySem.W.Fast.tw11253697660049454083:Nat:=0
def PySem.W.Fast.tw15590059845289402448:Nat:=0
def PySem.W.Fast.tw14181210172463334142:Nat:=0
def PySem.W.Fast.tw6440820518900229255:Nat:=0
def PySem.W.Fast.tw13595456235081557613:Nat:=0
def PySem.W.Fast.tw7933928793913352698:Nat:=0
def PySem.W.Fast.tw10929671396568576473:Nat:=0
def PySem.W.Fast.tw13814695071103986881:Nat:=0
def PySem.W.Fast.tw8421164781871853595:Nat:=0
def PySem.W.Fast.tw13816692610495824400:Nat:=0
def PySem.W.Fast.tw1984435615714498014:Nat:=0
def PySem.W.Fast.tw15529690384514251555:Nat:=0
def PySem.W.Fast.tw9632891670115025276:Nat:=0
def PySem.W.Fast.tw6951876346230223808:Nat:=0
def PySem.W.Fast.tw14920105208702471084:Nat:=0
def PySem.W.Fast.tw7152578045152866310:Nat:=0
def PySem.W.Fast.tw14139063768220737539:Nat:=0
def PySem.W.Fast.tw3433346339953102431:Nat:=0
def PySem.W.Fast.tw4469970777817052719:Nat:=0
def PySem.W.Fast.tw1751289352692490209:Nat:=0
def PySem.W.Fast.tw4922487935753899095:Nat:=0
def PySem.W.Fast.tw3998888666211001439:Nat:=0
def PySem.W.Fast.tw10087528040844757591:Nat:=0
def PySem.W.Fast.tw14751689798989593156:Nat:=0
def PySem.W.Fast.tw6658083274089802423:Nat:=0
def PySem.W.Fast.tw3663008300782393439:Nat:=0
def PySem.W.Fast.tw12792900563736136836:Nat:=0
def PySem.W.Fast.tw2956165517718485226:Nat:=0
def PySem.W.Fast.tw6627791009131951752:Nat:=0
def PySem.W.Fast.tw8119619055605802369:Nat:=0
def PySem.W.Fast.tw1387688377914790734:Nat:=0
def PySem.W.Fast.tw10050402680546290509:Nat:=0
def PySem.W.Fast.tw11856253798347593985:Nat:=0
def PySem.W.Fast.tw18051896756553727742:Nat:=0
def PySem.W.Fast.tw6162384171481810132:Nat:=0
def PySem.W.Fast.tw301670105728810431:Nat:=0
def PySem.W.Fast.tw6169669922553024927:Nat:=0
def PySem.W.Fast.tw12705965383523631411:Nat:=0
def PySem.W.Fast.tw16016916107146878117:Nat:=0
def PySem.W.Fast.tw2849350975207804691:Nat:=0
def PySem.W.Fast.tw4426088126343289566:Nat:=0
def PySem.W.Fast.tw268770638178690892:Nat:=0
def PySem.W.Fast.tw5342664985312276957:Nat:=0
def PySem.W.Fast.tw6689491348669450746:Nat:=0
def PySem.W.Fast.tw1658224419609787673:Nat:=0
def PySem.W.Fast.tw10802095318191063389:Nat:=0
def PySem.W.Fast.tw13321122395874922348:Nat:=0
def PySem.W.Fast.tw5184082711212462023:Nat:=0
section
namespace L2
open PySem PySem.Spec PyProof.Rows
noncomputable abbrev Key:=Sum Int Str
noncomputable def rJ:Key->aa->Bool
 |.inl k,v=>aa.isInt k v
 |.inr x,v=>aa.isStrOf x v
noncomputable def Hi(w:World):Key->Int
 |.inl k=>gR k
 |.inr x=>hashStr w x
theorem Qk:∀{k:Key}{v:aa},rJ k v=true->(∃ i t,k=Sum.inl i/\v=aa.int i t)\/(∃ x t,k=Sum.inr x/\v=aa.str x t)
 |.inl i,v,h=>by
  obtain⟨t,e⟩:=aa.isInt_shape (k:=i) (v:=v) h;exact .inl ⟨i,t,rfl,e⟩
 |.inr x,v,h=>by
  obtain⟨t,e⟩:=aa.isStrOf_shape (x:=x) (v:=v) h;exact .inr ⟨x,t,rfl,e⟩
theorem zce(i:Int)(t:Tok):rJ (.inl i) (.int i t)=true:=by simp[rJ,aa.isInt]
theorem zcd(x:Str)(t:Tok):rJ (.inr x) (.str x t)=true:=by simp[rJ,aa.isStrOf]
theorem zdf(a b:Int):decide ((Sum.inl a:Key)=Sum.inl b)=(a==b):=by
 by_cases e:a=b
 ·subst e;simp
 ·have h:¬(Sum.inl a:Key)=Sum.inl b:=λq=>e (Sum.inl.inj q);rw[decide_eq_false h];exact(beq_eq_false_iff_ne.mpr e).symm
theorem Yc7(a b:Str):decide ((Sum.inr a:Key)=Sum.inr b)=decide (a=b):=by
 by_cases e:a=b
 ·subst e;simp
 ·have h:¬(Sum.inr a:Key)=Sum.inr b:=λq=>e (Sum.inr.inj q);rw[decide_eq_false h,decide_eq_false e]
theorem qc6(a:Int)(b:Str):decide ((Sum.inl a:Key)=Sum.inr b)=false:=decide_eq_false (λq=>nomatch q)
theorem Zdb(a:Str)(b:Int):decide ((Sum.inr a:Key)=Sum.inl b)=false:=decide_eq_false (λq=>nomatch q)
noncomputable def Qe(prog:aj)(w:World):PySem.KeyKind prog w Key where
 is:=rJ
 hash:=Hi w
 inj:=λv a b ha hb=>by
  rcases Qk ha with ⟨i,t,rfl,rfl⟩|⟨x,t,rfl,rfl⟩
  ·rcases Qk hb with ⟨j,u,rfl,e⟩|⟨y,u,rfl,e⟩
   ·injection e with e1 _;rw[e1]
   ·exact nomatch e
  ·rcases Qk hb with ⟨j,u,rfl,e⟩|⟨y,u,rfl,e⟩
   ·exact nomatch e
   ·injection e with e1 _;rw[e1]
 byValue:=λk v h=>by
  rcases Qk h with ⟨i,t,rfl,rfl⟩|⟨x,t,rfl,rfl⟩ <;> rfl
 pyHash:=λhv h=>by
  rcases Qk hv with ⟨i,t,rfl,rfl⟩|⟨x,t,rfl,rfl⟩
  ·exact wpAny_pyHash_int h
  ·exact wpAny_pyHash_str h
 eqBool:=λhu hv h=>by
  rcases Qk hu with ⟨i,t,rfl,rfl⟩|⟨x,t,rfl,rfl⟩
  ·rcases Qk hv with ⟨j,u,rfl,rfl⟩|⟨y,u,rfl,rfl⟩
   ·rw[zdf] at h;exact wpAny_eqBool_int h
   ·rw[qc6] at h;exact SeqAt.EqAt.int_str i t y u _ _ _ _ h
  ·rcases Qk hv with ⟨j,u,rfl,rfl⟩|⟨y,u,rfl,rfl⟩
   ·rw[Zdb] at h;exact SeqAt.EqAt.str_int x t j u _ _ _ _ h
   ·rw[Yc7] at h;exact wpAny_eqBool_str h
 «strs»:=λk x t v h=>by
  rcases Qk h with ⟨i,u,rfl,e⟩|⟨y,u,rfl,e⟩
  ·exact nomatch e
  ·injection e with e1 _
   subst e1;cases v <;> rfl
theorem zbC(prog:aj)(w:World)(i:Int)(t:Tok):(Qe prog w).is (.inl i) (.int i t)=true:=zce i t
theorem QbC(prog:aj)(w:World)(x:Str)(t:Tok):(Qe prog w).is (.inr x) (.str x t)=true:=zcd x t
inductive V where
 |bG|bl (b:Bool)|int (i:Int)|str (x:Str)|Be (b:Array UInt8)|oM (b:UInt64)|ref (a:af)|ty (n:String)
 deriving DecidableEq
noncomputable def RelV:V->aa->Prop
 |.bG,u=>u=aa.none
 |.bl b,u=>u=aa.bool b
 |.int i,u=>∃ t,u=aa.int i t
 |.str x,u=>∃ t,u=aa.str x t
 |.Be b,u=>∃ t,u=aa.bytes b t
 |.oM b,u=>∃ t,u=aa.float b t
 |.ref a,u=>u=aa.ref a
 |.ty n,u=>u=aa.type n
noncomputable abbrev Vals:List V->List aa->Prop:=bY RelV
theorem Vals.length{xs:List V}{us:List aa}(r:Vals xs us):xs.length=us.length:=bY.length r
theorem Vals.get:∀{xs:List V}{us:List aa}{i:Nat}{x:V},Vals xs us->xs[i]?=some x->∃ u,us[i]?=some u/\RelV x u
 |_,_,_,_,.nil,e=>by simp at e
 |_,_,0,_,.cons r _,e=>by simp at e;subst e;exact⟨_,rfl,r⟩
 |_,_,i+1,x,.cons _ t,e=>by
  obtain⟨u,h1,h2⟩:=Vals.get (i:=i) (x:=x) t (by simpa using e);exact⟨u,by simpa using h1,h2⟩
theorem Vals.set{x:V}{u:aa}(r:RelV x u):∀{xs:List V}{us:List aa}(i:Nat),Vals xs us->Vals (xs.set i x) (us.set i u)
 |_,_,_,.nil=>.nil
 |_,_,0,.cons _ t=>.cons r t
 |_,_,i+1,.cons q t=>.cons q (Vals.set r i t)
theorem Vals.append:∀{xs ys:List V}{us ws:List aa},Vals xs us->Vals ys ws->Vals (xs++ys) (us++ws)
 |_,_,_,_,.nil,s=>s
 |_,_,_,_,.cons r t,s=>.cons r (Vals.append t s)
theorem Vals.take:∀{xs:List V}{us:List aa}(n:Nat),Vals xs us->Vals (xs.take n) (us.take n)
 |_,_,0,_=>.nil
 |_,_,_+1,.nil=>.nil
 |_,_,n+1,.cons r t=>.cons r (Vals.take n t)
theorem Vals.drop:∀{xs:List V}{us:List aa}(n:Nat),Vals xs us->Vals (xs.drop n) (us.drop n)
 |_,_,0,r=>r
 |_,_,_+1,.nil=>.nil
 |_,_,n+1,.cons _ t=>Vals.drop n t
noncomputable def gY:Option V->Option aa->Prop
 |some v,some u=>RelV v u
 |none,none=>True
 |_,_=>False
noncomputable def KV{κ:Type}:List (κ×V)->List (κ×aa)->Prop:=bY λ(p:κ×V)(q:κ×aa)=>p.1=q.1/\RelV p.2 q.2
noncomputable def kV:Key->V
 |.inl i=>.int i
 |.inr x=>.str x
inductive HO where
 |lst (xs:List V)
 |tup (xs:List V)
 |dK (kvs:List (Key×V))|dT (kvs:List (List Key×V))
 |set (S:Int->Bool) (n:Nat)
 |ins (C dx:af) (fs:List (Str×V))
 |own (x:af)
 |xd (fs:List (Str×V))
 |met (f x:af)
 |GA (lo hi:Int)
 |eZ (o:Obj) (u:HO)
 |pb (ps:Array aa)
 |ext (φ:Heap->Prop)
noncomputable abbrev Hp:=af->Option HO
noncomputable def upd(H:Hp)(a:af)(o:HO):Hp:=λb=>if b=a then some o else H b
theorem zf{H:Hp}{a:af}{o:HO}:upd H a o a=some o:=by unfold upd;rw[if_pos rfl]
theorem Zd{H:Hp}{a b:af}{o:HO}(h:b≠a):upd H a o b=H b:=by unfold upd;rw[if_neg h]
theorem Oh{H:Hp}{a b:af}{o u:HO}(h:H a=some o)(h':H b=some u)(d:o≠u):a≠b:=by
 intro e;subst e;rw[h] at h';exact d (Option.some.inj h')
theorem qg{H:Hp}{a b:af}{o:HO}(h:H a=some o)(h':H b=none):a≠b:=by
 intro e;subst e;rw[h] at h';cases h'
section
variable (P:aj) (w:World)
noncomputable def bg(H:Hp)(h:Heap)(a:af):HO->Prop
 |.lst xs=>xs.length<=sizeLine/\∃(aB:List aa)(n:Nat),Vals xs aB/\h.get? a=some {cls:=.type "list",data:=.seq aB.toArray n}
 |.tup xs=>xs.length<=sizeLine/\∃ aB:List aa,Vals xs aB/\fQ h a aB.toArray
 |.dK kvs=>kvs.length<=sizeLine/\(a==br)=false/\∃ vs,KV kvs vs/\h.DictOf (Qe P w) a vs
 |.dT kvs=>kvs.length<=sizeLine/\(a==br)=false/\∃ xs:List (List Key×af×aa),
   bY (λ(p:List Key×V)(q:List Key×af×aa)=>p.1=q.1/\H q.2.1=some (.tup (p.1.map kV))/\RelV p.2 q.2.2) kvs xs /\
   ∃ o es ep,h.get? a=some o/\o.ExactDict/\o.data=.dict es ep/\es.toList=xs.map (i7 (aE (Qe P w)))/\(xs.map (·.1)).Nodup
 |.set S n=>h.SetOf (intKind P w) a S n
 |.ins C dx fs=>H dx=some (.own a)/\fs.length<=1000/\dx≠a/\h.get? a=some (xh C dx) /\
   ∃ mA,h.Ns1 dx mA/\(∀ f,gY (fs.lookup f) (mA f))/\PySem.Within mA (fs.map (·.1))
 |.own _=>∃ o,h.get? a=some o
 |.xd fs=>∃ mA,h.Ns1 a mA/\∀ f,gY (fs.lookup f) (mA f)
 |.GA lo hi=>∃ t u v,h.get? a=some {cls:=.type "range",data:=.fields #[.int lo t,.int hi u,.int 1 v]}
 |.eZ o u=>h.get? a=some o/\bg H h a u
 |.pb ps=>h.get? a=some {cls:=.none,data:=.fields ps}
 |.met f x=>h.get? a=some (xz (.ref f) (.ref x))
 |.ext φ=>φ h/\(∃ o,h.get? a=some o)/\∀ h1 h2:Heap,φ h1->(∀ o,h1.get? a=some o->h2.get? a=some o)->φ h2
noncomputable def fu(H:Hp)(h:Heap):Prop:=∀ a o,H a=some o->bg P w H h a o
end
section
variable {P:aj} {w:World} {H H':Hp} {h h':Heap} {a:af} {o:HO}
theorem bg.lt(x:bg P w H h a o):a<h.objs.size:=by
 cases o with
 |lst xs=>obtain⟨_,_,_,_,e⟩:=x;exact Xa e
 |tup xs=>obtain⟨_,_,_,p⟩:=x;exact p.lt
 |dK kvs=>obtain⟨_,_,_,_,o,_,_,e,_⟩:=x;exact Xa e
 |dT kvs=>obtain⟨_,_,_,_,o,_,_,e,_⟩:=x;exact Xa e
 |set S n=>obtain⟨o,_,_,_,e,_⟩:=x;exact Xa e
 |ins C dx fs=>obtain⟨_,_,_,e,_⟩:=x;exact Xa e
 |own y=>obtain⟨_,e⟩:=x;exact Xa e
 |xd fs=>obtain⟨_,⟨_,_,_,e,_⟩,_⟩:=x;exact Xa e
 |GA lo hi=>obtain⟨_,_,_,e⟩:=x;exact Xa e
 |eZ ob u=>obtain⟨e,_⟩:=x;exact Xa e
 |pb ps=>exact Xa (show h.get? a=some _ from x)
 |met f y=>exact Xa (show h.get? a=some _ from x)
 |ext φ=>obtain⟨_,⟨_,e⟩,_⟩:=x;exact Xa e
theorem bY.pK{α β:Type}{F G:α->β->Prop}:∀{l₁:List α}{l₂:List β},bY F l₁ l₂->(∀ a b,F a b->G a b)->bY G l₁ l₂
 |_,_,.nil,_=>.nil
 |_,_,.cons r t,f=>.cons (f _ _ r) (bY.pK t f)
theorem bg.iT(x:bg P w H h a o)(k:∀ b u,(b=a\/H b=some (.own a))->h.get? b=some u->h'.get? b=some u)
  (ho:∀ b,H b=some (.own a)->H' b=some (.own a)) (ht:∀ b xs,H b=some (.tup xs)->H' b=some (.tup xs)):bg P w H' h' a o:=by
 induction o with
 |lst xs=>obtain⟨z,aB,n,r,e⟩:=x;exact⟨z,aB,n,r,k _ _ (.inl rfl) e⟩
 |tup xs=>obtain⟨z,aB,r,ob,e,c⟩:=x;exact⟨z,aB,r,ob,k _ _ (.inl rfl) e,c⟩
 |dK kvs=>obtain⟨z,y,vs,r,ob,es,ep,e,c⟩:=x;exact⟨z,y,vs,r,ob,es,ep,k _ _ (.inl rfl) e,c⟩
 |dT kvs =>
  obtain⟨z,y,xs,r,ob,es,ep,e,c⟩:=x;exact⟨z,y,xs,bY.pK r λp q z=>⟨z.1,ht _ _ z.2.1,z.2.2⟩,ob,es,ep,k _ _ (.inl rfl) e,c⟩
 |set S n=>obtain⟨ob,es,ep,t,e,c⟩:=x;exact⟨ob,es,ep,t,k _ _ (.inl rfl) e,c⟩
 |ins C dx fs =>
  obtain⟨d,z,ne,e,mA,⟨od,es,ep,e2,c⟩,r⟩:=x;exact⟨ho _ d,z,ne,k _ _ (.inl rfl) e,mA,⟨od,es,ep,k _ _ (.inr d) e2,c⟩,r⟩
 |own y=>obtain⟨ob,e⟩:=x;exact⟨ob,k _ _ (.inl rfl) e⟩
 |xd fs=>obtain⟨mA,⟨od,es,ep,e,c⟩,r⟩:=x;exact⟨mA,⟨od,es,ep,k _ _ (.inl rfl) e,c⟩,r⟩
 |GA lo hi=>obtain⟨t,u,v,e⟩:=x;exact⟨t,u,v,k _ _ (.inl rfl) e⟩
 |eZ ob u ih=>obtain⟨e,q⟩:=x;exact⟨k _ _ (.inl rfl) e,ih q⟩
 |pb ps =>
  have e:h.get? a=some {cls:=.none,data:=.fields ps}:=x;show h'.get? a=some {cls:=.none,data:=.fields ps};exact k a _ (.inl rfl) e
 |met f y =>
  have e:h.get? a=some (xz (.ref f) (.ref y)):=x;show h'.get? a=some (xz (.ref f) (.ref y));exact k a _ (.inl rfl) e
 |ext φ=>obtain⟨p,⟨o,e⟩,st⟩:=x;exact⟨st _ _ p λo q=>k _ _ (.inl rfl) q,⟨o,k _ _ (.inl rfl) e⟩,st⟩
theorem fu.lt(x:fu P w H h)(e:H a=some o):a<h.objs.size:=(x a o e).lt
theorem fu.fresh(x:fu P w H h)(e:h.objs.size<=a):H a=none:=by
 cases q:H a with
 |none=>rfl
 |some u=>exact absurd (Wd (x.lt q) e) (Ui _)
theorem fu.kept(x:fu P w H h)(k:∀ b u,h.get? b=some u->h'.get? b=some u):fu P w H h':=λa o e =>
 (x a o e).iT (λb u _ q=>k b u q) (λ_ q=>q) λ_ _ q=>q
theorem fu.laid(x:fu P w H h)(k:∀ b u,h.get? b=some u->h'.get? b=some u)(hp:h.objs.size<=a)(new:bg P w (upd H a o) h' a o):fu P w (upd H a o) h':=λb u e=>by
 have hn:=x.fresh hp;by_cases hb:b=a
 ·subst hb;rw[zf] at e;cases e;exact new
 ·rw[Zd hb] at e;exact(x b u e).iT (λc v _ q=>k c v q) (λc q=>by rw[Zd (qg q hn)];exact q) λc xs q=>by rw[Zd (qg q hn)];exact q
end
noncomputable def Rd(H:Hp)(a:af)(u:HO):Prop:=H a=some u\/∃ o,H a=some (.eZ o u)
theorem Rd.of{H:Hp}{a:af}{u:HO}(h:H a=some u):Rd H a u:=.inl h
theorem Rd.ok{P:aj}{w:World}{H:Hp}{h:Heap}{a:af}{u:HO}(r:Rd H a u)(x:fu P w H h):bg P w H h a u:=by
 rcases r with r|⟨o,r⟩
 ·exact x a u r
 ·obtain⟨_,q⟩:=x a _ r;exact q
noncomputable def BI:Option HO->Prop
 |some (.lst _)=>True
 |some (.dK _)=>True
 |some (.dT _)=>True
 |some (.set _ _)=>True
 |some (.ins _ _ _)=>True
 |some (.ext _)=>True
 |_=>False
section
variable {P:aj} {w:World} {H:Hp} {h h':Heap} {x e:af} {o':HO}
theorem fu.write(ok:fu P w H h)(mu:BI (H x))(he:e=x\/H e=some (.own x))(k:∀ b u,b≠e->h.get? b=some u->h'.get? b=some u)(se:∃ u,h'.get? e=some u)
  (new:bg P w (upd H x o') h' x o'):fu P w (upd H x o') h':=λb u q=>by
 have mz:∀ c y,H c=some (.own y)->c≠x:=λc y r z=>by subst z;rw[r] at mu;exact mu
 have Hb:∀ c xs,H c=some (.tup xs)->c≠x:=λc xs r z=>by subst z;rw[r] at mu;exact mu
 by_cases hb:b=x
 ·subst hb;rw[zf] at q;cases q;exact new
 ·rw[Zd hb] at q;by_cases pZ:b=e
  ·have q':H b=some (.own x):=by
    rcases he with z|z
    ·exact absurd (pZ.trans z) hb
    ·rw[pZ];exact z
   rw[q] at q';cases q';obtain⟨v,hv⟩:=se;exact⟨v,by rw[pZ];exact hv⟩
  ·refine(ok b u q).iT (λc v hc r=>k c v ?_ r) (λc r=>by rw[Zd (mz c b r)];exact r) λc xs r=>by rw[Zd (Hb c xs r)];exact r
   rcases hc with rfl|hc
   ·exact pZ
   ·rintro rfl
    rcases he with z|z
    ·exact mz c b hc z
    ·rw[hc] at z;cases z;exact hb rfl
end
structure Un (fs ex:List af) (H H':Hp) (h h':Heap):Prop where
 keep:∀ b o,h.get? b=some o->H b=none->b∉fs->b∉ex->h'.get? b=some o
 slot:∀ b o,h.get? b=some o->H b=none->b∈fs->b∉ex->∃ sl,h'.get? b=some {o with slots:=sl}
 free:∀ b o,h.get? b=some o->H b=none->b∉ex->H' b=none
 there:∀ b o,h.get? b=some o->b∉ex->∃ o',h'.get? b=some o'
 jm:∀ b xs,H b=some (.tup xs)->H' b=some (.tup xs)
 i5:∀ b o u,H b=some (.eZ o u)->H' b=some (.eZ o u)
 jo:∀ b ps,H b=some (.pb ps)->∃ more,H' b=some (.pb (ps++more))
section
variable {fs Ds ex nW:List af} {H H1 H2:Hp} {h h1 h2 h':Heap} {a x e:af} {o:HO}
theorem Un.any(u:Un fs ex H H1 h h1){b:af}{ob:Obj}(q:h.get? b=some ob)(n:H b=none)(hx:b∉ex):∃ sl,h1.get? b=some {ob with slots:=sl}:=by
 by_cases hb:b∈fs
 ·exact u.slot b ob q n hb hx
 ·exact⟨ob.slots,u.keep b ob q n hb hx⟩
theorem Un.kept(k:∀ b u,h.get? b=some u->h'.get? b=some u):Un fs ex H H h h' :=
 ⟨λb ob q _ _ _=>k b ob q,λb ob q _ _ _=>⟨ob.slots,k b ob q⟩,λ_ _ _ n _=>n,λb ob q _=>⟨ob,k b ob q⟩,λ_ _ q=>q,λ_ _ _ q=>q,λ_ ps q=>⟨#[],by rw[q];simp⟩⟩
theorem Un.refl:Un fs ex H H h h:=Un.kept λ_ _ q=>q
theorem Un.laid(k:∀ b u,h.get? b=some u->h'.get? b=some u)(hp:h.objs.size<=a)(hn:H a=none):Un fs ex H (upd H a o) h h' where
 keep:=λb u q _ _ _=>k b u q
 slot:=λb u q _ _ _=>⟨u.slots,k b u q⟩
 free:=λb u q n _=>by rw[Zd (Xc (Wd (Xa q) hp))];exact n
 there:=λb u q _=>⟨u,k b u q⟩
 jm:=λb xs q=>by rw[Zd (qg q hn)];exact q
 i5:=λb u xs q=>by rw[Zd (qg q hn)];exact q
 jo:=λb ps q=>⟨#[],by rw[Zd (qg q hn),q];simp⟩
theorem Un.write(mu:BI (H x))(he:e=x\/H e=some (.own x))(k:∀ b u,b≠e->h.get? b=some u->h'.get? b=some u)(se:∃ u,h'.get? e=some u):Un fs ex H (upd H x o) h h':=by
 have hx:∀ b,H b=none->b≠x:=λb n z=>by subst z;rw[n] at mu;exact mu
 have hb:∀ b,H b=none->b≠e:=λb n z=>by
  subst z
  rcases he with r|r
  ·exact hx b n r
  ·rw[n] at r;cases r
 have hm:∀ b u,H b=some u->¬ BI (some u)->b≠x:=λb u q nm z=>by subst z;rw[q] at mu;exact nm mu
 refine⟨λb u q n _ _=>k b u (hb b n) q,λb u q n _ _=>⟨u.slots,k b u (hb b n) q⟩,λb u q n _=>by rw[Zd (hx b n)];exact n,λb u q _=>?_,
  λb xs q=>by rw[Zd (hm b _ q λz=>z)];exact q,λb u xs q=>by rw[Zd (hm b _ q λz=>z)];exact q,λb ps q=>⟨#[],by rw[Zd (hm b _ q λz=>z),q];simp⟩⟩
 by_cases pZ:b=e
 ·subst pZ;exact se
 ·exact⟨u,k b u pZ q⟩
end
noncomputable def Co(h:Heap)(H:Hp):List af:=(ud h.objs.size).filter λa=>(H a).isSome
noncomputable def m8(h:Heap)(H:Hp):Heap:=PySem.W.hideAll h (Co h H)
theorem zcg(h:Heap)(H:Hp):(m8 h H).objs.size=h.objs.size:=PySem.W.hideAll_size _ _
theorem qcn{h:Heap}{H:Hp}{b:af}{o:Obj}(e:h.get? b=some o)(n:H b=none):(m8 h H).get? b=some o :=
 PySem.W.hideAll_get _ e λhm=>by
  have q:(H b).isSome=true:=(Vv.mp hm).2;rw[n] at q;simp at q
theorem qcJ{h:Heap}{H:Hp}{b:af}{o:Obj}(e:(m8 h H).get? b=some o):h.get? b=some o/\H b=none:=by
 have e':h.get? b=some o:=PySem.W.of_hideAll (Co h H) e;refine⟨e',?_⟩;cases q:H b with
 |none=>rfl
 |some x =>
  have hm:b∈Co h H:=Vv.mpr ⟨Xm.mpr (Xa e'),by simp[q]⟩;have z:(m8 h H).get? b=none:=PySem.W.hideAll_none (Co h H) hm;rw[z] at e;cases e
structure Mod (K:PySem.W.Frag) (mg:Str->Option aa) (base:Heap):Prop where
 xJ:K.In base
 glob:base.Ns ao mg
 blt:∃ mb,base.Ns builtinsNs mb/\∀ x:Str,x≠"__name__"->mb x=bE x
 nolimit:base.NoLimit
structure Cx where
 prog:aj
 w:World
 K:PySem.W.Frag
 mg:Str->Option aa
 base:Heap
 A:ay
 N:List Str
 s₀:ag
 H₀:Hp
 env:Env
 outer:List Env
 stack:List Env
 ex:List af
 fn:Str->Bool
 calm:Bool
 pn:List (af×Obj)
 xe:aa->ag->Prop
noncomputable def lL(l:List Env):List af:=l.filterMap (·.frame)
noncomputable abbrev Cx.fs(X:Cx):List af:=lL X.outer
noncomputable def OO(sc:aA)(x:Str):Prop:=sc.names.lookup x=some .local\/sc.names.lookup x=some .cell\/sc.names.lookup x=some .free
noncomputable def Loc(sc:aA)(x:Str):Prop:=sc.names.lookup x=some .local\/sc.names.lookup x=some .cell
noncomputable def Look(env:Env)(h:Heap)(m:Str->Option aa)(x:Str)(u:aa):Prop :=
 (env.kindOf x=some .local/\m x=some u)\/((env.kindOf x=some .cell\/env.kindOf x=some .free)/\∃ c,env.cells.lookup x=some c/\h.IsCell c (some u))
structure Cx.Ok (X:Cx):Prop where
 mod:Mod X.K X.mg X.base
 kind:X.env.scope.kind=.function
 glob:X.env.globals=ao
 blt:X.env.builtins=builtinsNs
 above:X.s₀.heap.objs.size<=X.env.locals
 inj:∀ x y c,X.env.cells.lookup x=some c->X.env.cells.lookup y=some c->x=y
 has:∀ x,(X.env.kindOf x=some .cell\/X.env.kindOf x=some .free)->∃ c,X.env.cells.lookup x=some c
 IY:∀ x c,X.fn x=true->X.env.cells.lookup x=some c->X.s₀.heap.objs.size<=c
 hd:X.calm=true->X.A.handled=none
 frames:X.A.frames=some X.stack
 Gq:X.stack=X.outer\/(X.stack=X.env::X.outer/\X.env.frame=some X.env.locals)
 exf:∀ b∈X.ex,b≠X.env.locals/\∀ x c,X.env.cells.lookup x=some c->c≠b
 bs:∀ b o,X.base.get? b=some o->X.s₀.heap.get? b=some o/\X.H₀ b=none
 rD:X.base.objs.size<=X.s₀.heap.objs.size
 pI:∀ b o,X.base.get? b=some o->b∉X.ex
 AM:∀ b∈X.ex,b∉X.fs
 i4:X.s₀.heap.FunFrames X.base X.outer
 AK:∀ b∈X.fs,X.H₀ b=none
structure Inv (X:Cx) (pins:List (af×Obj)) (σ:List (Option V)) (H:Hp) (s:ag):Prop where
 ok:X.Ok
 os:s.os=X.s₀.os
 bare:dI s.gens
 base:Un X.fs X.ex X.H₀ H X.s₀.heap s.heap
 loc:∃ m,s.heap.Ns X.env.locals m/\∀(i:Nat)(x:Str)(v:V),X.N[i]?=some x->σ[i]?=some (some v)->OO X.env.scope x->∃ u,RelV v u/\Look X.env s.heap m x u
 cell:∀ x c,X.env.cells.lookup x=some c->∃ v,s.heap.IsCell c v
 free:H X.env.locals=none
 gV:∀ x c,X.env.cells.lookup x=some c->H c=none
 pin:∀ p∈X.pn++pins,s.heap.get? p.1=some p.2/\H p.1=none/\p.1≠X.env.locals/\p.1∉X.fs/\∀ v,p.2.data≠.cell v
 aU:fu X.prog X.w H s.heap
 len:σ.length=X.N.length
section
variable {X:Cx} {pins:List (af×Obj)} {σ:List (Option V)} {H H':Hp} {s:ag} {h':Heap}
theorem Cx.Ok.He(ok:X.Ok){b:af}{o:Obj}(e:X.base.get? b=some o):b∉X.fs:=λhb=>by
 have:=(ok.i4.mem hb).1;rw[e] at this;cases this
theorem Inv.bs(I:Inv X pins σ H s):∀ b o,X.base.get? b=some o->s.heap.get? b=some o/\H b=none:=λb o e =>
 ⟨I.base.keep b o (I.ok.bs b o e).1 (I.ok.bs b o e).2 (I.ok.He e) (I.ok.pI b o e),I.base.free b o (I.ok.bs b o e).1 (I.ok.bs b o e).2 (I.ok.pI b o e)⟩
theorem Inv.bk(I:Inv X pins σ H s):∀ b o,X.base.get? b=some o->s.heap.get? b=some o:=λb o e=>(I.bs b o e).1
theorem Inv.mod(I:Inv X pins σ H s):Mod X.K X.mg X.base:=I.ok.mod
theorem Inv.hV(I:Inv X pins σ H s):X.K.In s.heap:=I.ok.mod.xJ.keeps I.bk
theorem Inv.nolimit(I:Inv X pins σ H s):s.heap.NoLimit:=I.ok.mod.nolimit.keeps I.bk
theorem Inv.lt(I:Inv X pins σ H s):X.env.locals<s.heap.objs.size:=let ⟨_,hn,_⟩:=I.loc;hn.lt
theorem Inv.sz(I:Inv X pins σ H s):X.s₀.heap.objs.size<=s.heap.objs.size:=vf I.ok.above (ww I.lt)
theorem Inv.Hd(I:Inv X pins σ H s){a:af}(h:s.heap.objs.size<=a):a∉X.fs:=λhb=>by
 obtain⟨_,o,ho,_⟩:=I.ok.i4.mem hb;exact absurd (Wd (Xa ho) (vf I.sz h)) (Ui _)
theorem Inv.rp(I:Inv X pins σ H s):∀ x c,X.env.cells.lookup x=some c->c≠X.env.locals:=λx c e z=>by
 obtain⟨v,o,ho,hd⟩:=I.cell x c e;obtain⟨m,⟨o',es,ep,kr,AA,_⟩,_⟩:=I.loc;rw[z,kr] at ho;cases ho;rw[AA] at hd;cases hd
theorem Inv.i4(I:Inv X pins σ H s):s.heap.FunFrames X.base X.outer:=by
 have all:∀(l:List Env),(∀ b∈lL l,b∈X.fs)->X.s₀.heap.FunFrames X.base l->s.heap.FunFrames X.base l:=by
  intro l
  induction l with
  |nil=>intro _ _;trivial
  |cons env r ih =>
   intro hs hl;obtain⟨hk,⟨L,o,hf,hn,ho,hd⟩,hr⟩:=hl;have hL:L∈X.fs:=hs L (by unfold lL;rw[Xx,hf];exact Wh);obtain⟨sl,e⟩:=I.base.slot L o ho (I.ok.AK L hL) hL λz=>I.ok.AM L z hL;exact⟨hk,⟨L,_,hf,hn,e,hd⟩,ih (λb hb=>hs b (by unfold lL;rw[Xx,hf];exact Uf _ hb)) hr⟩
 exact all X.outer (λ_ hb=>hb) I.ok.i4
theorem Inv.stack(I:Inv X pins σ H s):s.heap.FunFrames X.base X.stack:=by
 rcases I.ok.Gq with e|⟨e,hf⟩
 ·rw[e];exact I.i4
 ·rw[e];obtain⟨m,hn,_⟩:=I.loc;refine .cons (by rw[I.ok.kind];decide) hf hn ?_ I.i4;exact XC (vf I.ok.rD I.ok.above)
theorem Inv.ib(I:Inv X pins σ H s):∀ b∈lL X.stack,b∈X.env.locals::X.fs:=λb hb=>by
 rcases I.ok.Gq with e|⟨e,hf⟩
 ·rw[e] at hb;exact Uf _ hb
 ·rw[e] at hb;unfold lL at hb;rw[Xx,hf] at hb;exact hb
theorem Inv.jH(I:Inv X pins σ H s):∀ b∈lL X.stack,H b=none:=λb hb=>by
 rcases ua.mp (I.ib b hb) with e|hb
 ·rw[e];exact I.free
 ·obtain⟨_,o,ho,_⟩:=I.ok.i4.mem hb;exact I.base.free b o ho (I.ok.AK b hb) λz=>I.ok.AM b z hb
theorem Inv.step{g':Array kh}{t':Nat}{d':Drawn}{ch:List af}(I:Inv X pins σ H s)
  (nh:∀ b∈ch,(b∈X.ex\/X.s₀.heap.objs.size<=b)/\b≠X.env.locals/\(∀ x c,X.env.cells.lookup x=some c->c≠b)/\∀ p∈X.pn++pins,p.1≠b)
  (keep:∀ b o,b≠X.env.locals->b∉X.fs->b∉ch->s.heap.get? b=some o->H b=none->h'.get? b=some o)
  (slot:∀ b o,b≠X.env.locals->b∈X.fs->b∉ch->s.heap.get? b=some o->H b=none->∃ sl,h'.get? b=some {o with slots:=sl}) (free:∀ b o,b∉ch->s.heap.get? b=some o->H b=none->H' b=none)
  (there:∀ b o,b∉ch->s.heap.get? b=some o->∃ o',h'.get? b=some o')
  (jm:∀ b xs,H b=some (.tup xs)->H' b=some (.tup xs)) (i5:∀ b o u,H b=some (.eZ o u)->H' b=some (.eZ o u)) (jo:∀ b ps,H b=some (.pb ps)->∃ more,H' b=some (.pb (ps++more)))
  (ns:∀ m,s.heap.Ns X.env.locals m->h'.Ns X.env.locals m) (aU:fu X.prog X.w H' h') (hg:dI g') :
  Inv X pins σ H' {s with heap:=h',gens:=g',drawn:=d',toks:=t'}:=by
 have MQ:∀ b o,X.s₀.heap.get? b=some o->b≠X.env.locals:=λb o e=>Xc (Wd (Xa e) I.ok.above);have CT:∀ b o,X.s₀.heap.get? b=some o->b∉X.ex->b∉ch:=λb o e hx hb=>by
  rcases(nh b hb).1 with z|z
  ·exact hx z
  ·exact absurd (Wd (Xa e) z) (Ui _)
 have cellK:∀ x c,X.env.cells.lookup x=some c->∀ v,s.heap.IsCell c v->h'.IsCell c v:=λx c e v ⟨o,ho,hd⟩=>by
  have wX:c∉ch:=λz=>(nh c z).2.2.1 x c e rfl;by_cases hc:c∈X.fs
  ·obtain⟨sl,q⟩:=slot c o (I.rp x c e) hc wX ho (I.gV x c e);exact⟨_,q,hd⟩
  ·exact⟨o,keep c o (I.rp x c e) hc wX ho (I.gV x c e),hd⟩
 refine⟨I.ok,I.os,hg,⟨λb o e n hb hx=>?_,λb o e n hb hx=>?_,λb o e n hx=>?_,λb o e hx=>?_,λb xs e=>jm b xs (I.base.jm b xs e),λb o xs e=>i5 b o xs (I.base.i5 b o xs e),λb ps e=>?_⟩,?_,λx c e=>?_,?_,λx c e=>?_,λp hp=>?_,aU,I.len⟩
 ·exact keep b o (MQ b o e) hb (CT b o e hx) (I.base.keep b o e n hb hx) (I.base.free b o e n hx)
 ·obtain⟨sl,e1⟩:=I.base.slot b o e n hb hx;obtain⟨Ct,e2⟩:=slot b _ (MQ b o e) hb (CT b o e hx) e1 (I.base.free b o e n hx);exact⟨Ct,e2⟩
 ·obtain⟨o',e1⟩:=I.base.there b o e hx;exact free b o' (CT b o e hx) e1 (I.base.free b o e n hx)
 ·obtain⟨o',e1⟩:=I.base.there b o e hx;exact there b o' (CT b o e hx) e1
 ·obtain⟨m1,e1⟩:=I.base.jo b ps e;obtain⟨m2,e2⟩:=jo b _ e1;exact⟨m1++m2,by rw[e2,Array.append_assoc]⟩
 ·obtain⟨m,hn,hl⟩:=I.loc;refine⟨m,ns m hn,λi x v e1 e2 e3=>?_⟩;obtain⟨u,r,l⟩:=hl i x v e1 e2 e3;refine⟨u,r,?_⟩
  rcases l with l|⟨k,c,e,z⟩
  ·exact .inl l
  ·exact .inr ⟨k,c,e,cellK x c e _ z⟩
 ·obtain⟨v,z⟩:=I.cell x c e;exact⟨v,cellK x c e v z⟩
 ·obtain⟨m,⟨o,_,_,ho,_⟩,_⟩:=I.loc;exact free _ o (λz=>(nh _ z).2.1 rfl) ho I.free
 ·obtain⟨v,o,ho,hd⟩:=I.cell x c e;exact free c o (λz=>(nh c z).2.2.1 x c e rfl) ho (I.gV x c e)
 ·obtain⟨e,n,ne,nf,d⟩:=I.pin p hp;have wX:p.1∉ch:=λz=>(nh p.1 z).2.2.2 p hp rfl;exact⟨keep p.1 p.2 ne nf wX e n,free p.1 p.2 wX e n,ne,nf,d⟩
theorem Inv.un{t':Nat}(I:Inv X pins σ H s)(u:Un X.fs [] H H' s.heap h')(aU:fu X.prog X.w H' h'):Inv X pins σ H' {s with heap:=h',toks:=t'}:=by
 obtain⟨m,⟨o,es,ep,ho,r⟩,_⟩:=id I.loc;obtain⟨sl,hL⟩:=u.any ho I.free (by simp);exact I.step (g':=s.gens) (d':=s.drawn) (ch:=[]) (λ_ z=>nomatch z) (λb o _ hb _ e n=>u.keep b o e n hb (by simp)) (λb o _ hb _ e n=>u.slot b o e n hb (by simp)) (λb o _ e n=>u.free b o e n (by simp)) (λb o _ e=>u.there b o e (by simp)) u.jm u.i5 u.jo (λm' hm=>by
  obtain⟨o',IF,IH,kr,r'⟩:=hm;rw[ho] at kr;cases kr;exact⟨_,IF,IH,hL,r'⟩) aU I.bare
theorem Inv.call{g':Array kh}{t':Nat}{d':Drawn}{ch:List af}(I:Inv X pins σ H s)(u:Un (lL X.stack) ch H H' s.heap h')(aU:fu X.prog X.w H' h')(hg:dI g')
  (nh:∀ b∈ch,(b∈X.ex\/X.s₀.heap.objs.size<=b)/\b≠X.env.locals/\(∀ x c,X.env.cells.lookup x=some c->c≠b)/\∀ p∈X.pn++pins,p.1≠b) :
  Inv X pins σ H' {s with heap:=h',gens:=g',drawn:=d',toks:=t'}:=by
 obtain⟨m,⟨o,es,ep,ho,r⟩,_⟩:=id I.loc;obtain⟨sl,hL⟩:=u.any ho I.free λz=>(nh _ z).2.1 rfl;exact I.step (ch:=ch) nh (λb o hL hb hc e n=>u.keep b o e n (λz=>(ua.mp (I.ib b z)).elim hL hb) hc) (λb o _ _ hc e n=>u.any e n hc) (λb o hc e n=>u.free b o e n hc) (λb o hc e=>u.there b o e hc) u.jm u.i5 u.jo (λm' hm=>by
  obtain⟨o',IF,IH,kr,r'⟩:=hm;rw[ho] at kr;cases kr;exact⟨_,IF,IH,hL,r'⟩) aU hg
theorem Inv.turned{t':Nat}{it:af}(I:Inv X pins σ H s)(k:∀ b o,b≠it->s.heap.get? b=some o->h'.get? b=some o)(hn:H it=none)(hL:it≠X.env.locals)
  (h1:it∈X.ex\/X.s₀.heap.objs.size<=it) (h2:∀ x c,X.env.cells.lookup x=some c->c≠it) (h3:∀ p∈X.pn++pins,p.1≠it):Inv X pins σ H {s with heap:=h',toks:=t'}:=by
 have MO:∀ b u,H b=some u->b≠it:=λb u e z=>by rw[z,hn] at e;cases e
 refine I.step (g':=s.gens) (d':=s.drawn) (ch:=[it]) (λb hb=>?_) (λb o _ _ hc e _=>k b o (λz=>hc (by simp[z])) e) (λb o _ _ hc e _=>⟨o.slots,k b o (λz=>hc (by simp[z])) e⟩) (λ_ _ _ _ n=>n)
  (λb o hc e=>⟨o,k b o (λz=>hc (by simp[z])) e⟩) (λ_ _ e=>e) (λ_ _ _ e=>e) (λb ps e=>⟨#[],by rw[e];simp⟩) (λm hm=>?_) (λb u e=>?_) I.bare
 ·have e:b=it:=by simpa using hb
  subst e;exact⟨h1,hL,h2,h3⟩
 ·obtain⟨o,es,ep,ho,r⟩:=hm;exact⟨o,es,ep,k _ o (Ne.symm hL) ho,r⟩
 ·refine(I.aU b u e).iT (λc v hc q=>k c v ?_ q) (λ_ q=>q) λ_ _ q=>q
  rcases hc with z|z
  ·rw[z];exact MO b u e
  ·exact MO c _ z
theorem Inv.tok(I:Inv X pins σ H s)(t:Nat):Inv X pins σ H {s with toks:=t}:=I.un (h':=s.heap) (t':=t) Un.refl I.aU
theorem Inv.kept{t':Nat}(I:Inv X pins σ H s)(k:∀ b u,s.heap.get? b=some u->h'.get? b=some u):Inv X pins σ H {s with heap:=h',toks:=t'}:=I.un (Un.kept k) (I.aU.kept k)
theorem Inv.laid{a:af}{o:HO}{t':Nat}(I:Inv X pins σ H s)(k:∀ b u,s.heap.get? b=some u->h'.get? b=some u)(hp:s.heap.objs.size<=a)(new:bg X.prog X.w (upd H a o) h' a o) :
  Inv X pins σ (upd H a o) {s with heap:=h',toks:=t'}:=I.un (Un.laid k hp (I.aU.fresh hp)) (I.aU.laid k hp new)
theorem Inv.write{x e:af}{o:HO}{t':Nat}(I:Inv X pins σ H s)(mu:BI (H x))(he:e=x\/H e=some (.own x))(k:∀ b u,b≠e->s.heap.get? b=some u->h'.get? b=some u)(se:∃ u,h'.get? e=some u)
  (new:bg X.prog X.w (upd H x o) h' x o):Inv X pins σ (upd H x o) {s with heap:=h',toks:=t'}:=I.un (Un.write mu he k se) (I.aU.write mu he k se new)
theorem Inv.pins_of{oB:List (af×Obj)}(I:Inv X pins σ H s)(h:∀ p∈oB,s.heap.get? p.1=some p.2/\H p.1=none/\p.1≠X.env.locals/\p.1∉X.fs/\∀ v,p.2.data≠.cell v):Inv X oB σ H s :=
 ⟨I.ok,I.os,I.bare,I.base,I.loc,I.cell,I.free,I.gV,λp hp=>(Wg.mp hp).elim (λz=>I.pin p (Xj _ z)) (h p),I.aU,I.len⟩
theorem Oy{N:List Str}(hN:N.Nodup){i j:Nat}{x:Str}(a:N[i]?=some x)(b:N[j]?=some x):i=j:=by
 obtain⟨h1,e1⟩:=xa.mp a;obtain⟨h2,e2⟩:=xa.mp b;exact(List.getElem_inj hN).mp (e1.trans e2.symm)
theorem qb9{M:Model}{A:ay}{E:aa->ag->Prop}{i:Nat}{x:Str}{v:V}{u:aa}{Q:Unit->ag->Prop}(I:Inv X pins σ H s)(hN:X.N.Nodup)(hi:X.N[i]?=some x)(hx:Loc X.env.scope x)(r:RelV v u)
  (h:∀ s',Inv X pins (σ.set i (some v)) H s'->(∃ a,Heap.SameBut a s.heap s'.heap/\(a=X.env.locals\/X.env.cells.lookup x=some a))->Q () s') (hf:X.fn x=true\/X.env.scope.names.lookup x=some .local:=by first|exact .inl rfl|exact .inr rfl|assumption):ai M A (storeName X.env x u) Q E s:=by
 obtain⟨m,hn,hl⟩:=id I.loc;have Ii:(X.env.scope.kind == .class||(X.env.scope.kind == .module&&X.env.locals != X.env.globals))=false:=by rw[I.ok.kind];rfl
 have Nh:i<σ.length:=by rw[I.len];exact(xa.mp hi).1
 have rp:=I.rp;have tracked:∀{a:af}{h':Heap},(∃ o,s.heap.get? a=some o/\H a=none)->Heap.SameBut a s.heap h'->fu X.prog X.w H h':=λ{a h'} ha hs b ob e=>by
  obtain⟨_,_,i3⟩:=ha;refine(I.aU b ob e).iT (λc w' hc q=>(hs.2 c ?_).trans q) (λ_ q=>q) λ_ _ q=>q;rintro rfl
  rcases hc with rfl|hc
  ·rw[i3] at e;cases e
  ·rw[i3] at hc;cases hc
 rcases hx with hk|hk
 ·refine wpAny_storeName_local hk hn (λh' hn' hs=>?_) Ii;obtain⟨oL,_,_,hoL,_⟩:=id hn;refine h _ ⟨I.ok,I.os,I.bare,⟨λb o e n hb hx=>?_,λb o e n hb hx=>?_,I.base.free,λb o e hx=>?_,I.base.jm,I.base.i5,I.base.jo⟩,⟨_,hn',λj y v' e1 e2 e3=>?_⟩,λy c e=>?_,I.free,I.gV,λp hp=>?_,tracked ⟨oL,hoL,I.free⟩ hs,by simpa using I.len⟩ ⟨_,hs,.inl rfl⟩
  ·exact(hs.2 b (Xc (Wd (Xa e) I.ok.above))).trans (I.base.keep b o e n hb hx)
  ·obtain⟨sl,e1⟩:=I.base.slot b o e n hb hx;exact⟨sl,(hs.2 b (Xc (Wd (Xa e) I.ok.above))).trans e1⟩
  ·obtain⟨o',e1⟩:=I.base.there b o e hx;exact⟨o',(hs.2 b (Xc (Wd (Xa e) I.ok.above))).trans e1⟩
  ·by_cases hj:j=i
   ·subst hj;rw[hi] at e1;cases e1;rw[Vj Nh] at e2;cases e2;exact⟨u,r,.inl ⟨hk,by simp⟩⟩
   ·rw[wl (Ne.symm hj)] at e2;obtain⟨u',r',q⟩:=hl j y v' e1 e2 e3;refine⟨u',r',?_⟩
    rcases q with ⟨k,e⟩|⟨k,c,e,z⟩
    ·refine .inl ⟨k,?_⟩;have:y≠x:=λe=>hj (Oy hN e1 (e ▸ hi));simp[this,e]
    ·exact .inr ⟨k,c,e,z.sameBut hs (rp y c e)⟩
  ·obtain⟨w',z⟩:=I.cell y c e;exact⟨w',z.sameBut hs (rp y c e)⟩
  ·obtain⟨e,n,ne,nf,d⟩:=I.pin p hp;exact⟨(hs.2 p.1 ne).trans e,n,ne,nf,d⟩
 ·have HZ:X.fn x=true:=by
   rcases hf with z|z
   ·exact z
   ·rw[z] at hk;cases hk
  obtain⟨c,hc⟩:=I.ok.has x (.inl hk);obtain⟨w',z⟩:=I.cell x c hc;refine wpAny_storeName_cell I.ok.kind hk hc z (λh' eg hs=>?_);obtain⟨oc,Na,HF⟩:=id z;refine h {s with heap:=h'} ⟨I.ok,I.os,I.bare,⟨λb o e n hb hx=>?_,λb o e n hb hx=>?_,I.base.free,λb o e hx=>?_,I.base.jm,I.base.i5,I.base.jo⟩,⟨m,hn.sameBut hs (Ne.symm (rp x c hc)),λj y v' e1 e2 e3=>?_⟩,λy c' e=>?_,I.free,I.gV,λp hp=>?_,tracked ⟨oc,Na,I.gV x c hc⟩ hs,by simpa using I.len⟩ ⟨c,hs,.inr hc⟩
  ·exact(hs.2 b (Xc (Wd (Xa e) (I.ok.IY x c HZ hc)))).trans (I.base.keep b o e n hb hx)
  ·obtain⟨sl,e1⟩:=I.base.slot b o e n hb hx;exact⟨sl,(hs.2 b (Xc (Wd (Xa e) (I.ok.IY x c HZ hc)))).trans e1⟩
  ·obtain⟨o',e1⟩:=I.base.there b o e hx;exact⟨o',(hs.2 b (Xc (Wd (Xa e) (I.ok.IY x c HZ hc)))).trans e1⟩
  ·by_cases hj:j=i
   ·subst hj;rw[hi] at e1;cases e1;rw[Vj Nh] at e2;cases e2;exact⟨u,r,.inr ⟨.inl hk,c,hc,eg⟩⟩
   ·rw[wl (Ne.symm hj)] at e2;obtain⟨u',r',q⟩:=hl j y v' e1 e2 e3;refine⟨u',r',?_⟩
    rcases q with q|⟨k,c',e,z'⟩
    ·exact .inl q
    ·refine .inr ⟨k,c',e,z'.sameBut hs ?_⟩;rintro rfl;exact hj (Oy hN e1 (I.ok.inj _ _ _ e hc ▸ hi))
  ·by_cases oJ:c'=c
   ·subst oJ;exact⟨_,eg⟩
   ·obtain⟨w2,z2⟩:=I.cell y c' e;exact⟨w2,z2.sameBut hs oJ⟩
  ·obtain⟨e,n,ne,nf,d⟩:=I.pin p hp;refine⟨(hs.2 p.1 ?_).trans e,n,ne,nf,d⟩;intro q;rw[q,Na] at e;have q':oc=p.2:=Option.some.inj e;exact d w' (by rw[<- q'];exact HF)
theorem JT{M:Model}{A:ay}{E:aa->ag->Prop}{i:Nat}{x:Str}{v:V}{u:aa}{Q:Unit->ag->Prop}(I:Inv X pins σ H s)(hN:X.N.Nodup)(hi:X.N[i]?=some x)(hx:Loc X.env.scope x)(r:RelV v u)
  (h:∀ s',Inv X pins (σ.set i (some v)) H s'->Q () s') (hf:X.fn x=true\/X.env.scope.names.lookup x=some .local:=by first|exact .inl rfl|exact .inr rfl|assumption):ai M A (storeName X.env x u) Q E s :=
 qb9 I hN hi hx r (λs' I' _=>h s' I') hf
theorem Inv.oQ{s':ag}{ch:List af}(I:Inv X pins σ H s)(ho:s'.os=s.os)(u:Un (lL X.stack) ch H H' s.heap s'.heap)(aU:fu X.prog X.w H' s'.heap)(hg:dI s'.gens)
  (nh:∀ b∈ch,(b∈X.ex\/X.s₀.heap.objs.size<=b)/\b≠X.env.locals/\(∀ x c,X.env.cells.lookup x=some c->c≠b)/\∀ p∈X.pn++pins,p.1≠b):Inv X pins σ H' s':=by
 obtain⟨h',g',d',t',o'⟩:=s';have e:o'=s.os:=ho;subst e;exact I.call (g':=g') (t':=t') (d':=d') u aU hg nh
end
noncomputable abbrev XK:=aa->Option af->Hp->Prop
noncomputable abbrev St:=List (Option V)
noncomputable abbrev VK:=V->Hp->Prop
noncomputable abbrev TE:=St->Hp->VK->Prop
noncomputable abbrev TT:=St->Hp->(Bool->Hp->Prop)->Prop
noncomputable abbrev TA:=St->Hp->(List V->Hp->Prop)->Prop
structure Ends where
 nx:St->Hp->Prop
 rt:VK
 bk:St->Hp->Prop:=λ_ _=>False
 ct:St->Hp->Prop:=λ_ _=>False
noncomputable abbrev TS:=Ends->St->Hp->Prop
noncomputable def EP(X:Cx)(pins:List (af×Obj))(σ:St)(Q:VK)(u:aa)(s':ag):Prop:=∃ v H',Inv X pins σ H' s'/\RelV v u/\Q v H'
noncomputable def TP(X:Cx)(pins:List (af×Obj))(σ:St)(Q:Bool->Hp->Prop)(b:Bool)(s':ag):Prop:=∃ H',Inv X pins σ H' s'/\Q b H'
noncomputable def AP(X:Cx)(pins:List (af×Obj))(σ:St)(Q:List V->Hp->Prop)(us:List aa)(s':ag):Prop:=∃ vs H',Inv X pins σ H' s'/\Vals vs us/\Q vs H'
noncomputable def SP(X:Cx)(pins:List (af×Obj))(D:Ends)(f:Flow)(s':ag):Prop :=
 match f with
 |.next=>∃ σ' H',Inv X pins σ' H' s'/\D.nx σ' H'
 |.brk=>∃ σ' H',Inv X pins σ' H' s'/\D.bk σ' H'
 |.cont=>∃ σ' H',Inv X pins σ' H' s'/\D.ct σ' H'
 |.ret u=>∃ v σ' H',Inv X pins σ' H' s'/\RelV v u/\D.rt v H'
noncomputable def PE(X:Cx)(e:Expr)(t:TE):Prop :=
 ∀(pins:List (af×Obj)) (s:ag) (σ:St) (H:Hp) (Q:VK),Inv X pins σ H s->t σ H Q->ai (ak X.prog X.w) X.A (eval e X.env) (EP X pins σ Q) X.xe s
noncomputable def PT(X:Cx)(e:Expr)(t:TT):Prop :=
 ∀(pins:List (af×Obj)) (s:ag) (σ:St) (H:Hp) (Q:Bool->Hp->Prop),Inv X pins σ H s->t σ H Q->ai (ak X.prog X.w) X.A (jN e X.env (eval e X.env)) (TP X pins σ Q) X.xe s
noncomputable def PW(X:Cx)(e:Expr)(t:TT):Prop :=
 ∀(whole:Sem aa)(pins:List (af×Obj)) (s:ag) (σ:St) (H:Hp) (Q:Bool->Hp->Prop),Inv X pins σ H s->t σ H Q->ai (ak X.prog X.w) X.A (jN e X.env whole) (TP X pins σ Q) X.xe s
theorem PW.pt{X:Cx}{e:Expr}{t:TT}(h:PW X e t):PT X e t:=h _
noncomputable def PA(X:Cx)(es:List Expr)(t:TA):Prop :=
 ∀(pos:Pos)(pins:List (af×Obj)) (s:ag) (σ:St) (H:Hp) (Q:List V->Hp->Prop),Inv X pins σ H s->t σ H Q->ai (ak X.prog X.w) X.A (spliced (bj pos (au es X.env))) (AP X pins σ Q) X.xe s
noncomputable def PS(X:Cx)(st:Stmt)(t:TS):Prop :=
 ∀(pins:List (af×Obj)) (s:ag) (σ:St) (H:Hp) (D:Ends),Inv X pins σ H s->t D σ H->ai (ak X.prog X.w) X.A (exec st X.env) (SP X pins D) X.xe s
noncomputable def gZ(X:Cx)(st:List Stmt)(t:TS):Prop :=
 ∀(pins:List (af×Obj)) (s:ag) (σ:St) (H:Hp) (D:Ends),Inv X pins σ H s->t D σ H->ai (ak X.prog X.w) X.A (execs st X.env) (SP X pins D) X.xe s
theorem bh{α:Type}{t:Sem α}{Q Q':α->ag->Prop}{M:Model}{A:ay}{E:aa->ag->Prop}{s:ag}(h:ai M A t Q E s)(hQ:∀ a s,Q a s->Q' a s):ai M A t Q' E s:=aW h hQ λ_ _ x=>x
section
variable {X:Cx}
theorem bin{a b:Expr}{ta tb:TE}(ha:PE X a ta)(hb:PE X b tb){pins:List (af×Obj)}{s:ag}{σ:St}{H:Hp}{R:V->V->Hp->Prop}(I:Inv X pins σ H s)(h:ta σ H λx H1=>tb σ H1 λy H2=>R x y H2)
  {α:Type} {Q:α->ag->Prop} {f:aa->aa->Sem α}
  (hf:∀ v u s2 x y H2,Inv X pins σ H2 s2->RelV x v->RelV y u->R x y H2->ai (ak X.prog X.w) X.A (f v u) Q X.xe s2) :
  ai (ak X.prog X.w) X.A (eval a X.env) (λv s₁=>ai (ak X.prog X.w) X.A (eval b X.env) (λu s₂=>ai (ak X.prog X.w) X.A (f v u) Q X.xe s₂) X.xe s₁) X.xe s:=by
 refine bh (ha pins s σ H _ I h) λv s1 ⟨x,H1,I1,r1,q1⟩=>?_;refine bh (hb pins s1 σ H1 _ I1 q1) λu s2 ⟨y,H2,I2,r2,q2⟩=>?_;exact hf v u s2 x y H2 I2 r1 r2 q2
noncomputable def F'(i:Nat):TE:=λσ H Q=>∃ v,σ[i]?=some (some v)/\Q v H
noncomputable def tC(v:V):TE:=λ_ H Q=>Q v H
theorem L9{i:Nat}{x:Str}{pos:Pos}(hN:X.N[i]?=some x)(hv:OO X.env.scope x)(hd:(x==("__debug__":Str))=false:=by decide)(jy:(x==("__classdict__":Str))=false:=by decide):PE X (.Name x pos) (F' i):=by
 intro pins s σ H Q I h;obtain⟨v,e,h⟩:=h;obtain⟨m,hn,hl⟩:=I.loc;obtain⟨u,r,l⟩:=hl i x v hN e hv;have fin:EP X pins σ Q u s:=⟨v,H,I,r,h⟩
 rcases l with ⟨hk,hm⟩|⟨hk,c,hc,j9⟩
 ·exact fh (fJ I.ok.kind hk hn hm fin) hd
 ·rcases hk with hk|hk
  ·exact fh (wpAny_loadName_cell I.ok.kind hk hc j9 fin) hd
  ·exact fh (fZ I.ok.kind hk hc j9 fin jy) hd
theorem K4{i j pos}:PE X (.Constant (.int i) j pos) (tC (.int i)):=λ_ _ _ H _ I h=>gv ⟨.int i,H,I.tok _,⟨_,rfl⟩,h⟩
theorem CH{b j pos}:PE X (.Constant (.bool b) j pos) (tC (.bl b)):=λ_ _ _ H _ I h=>Constant_bool ⟨.bl b,H,I,rfl,h⟩
theorem Qdp{j pos}:PE X (.Constant .none j pos) (tC .bG):=λ_ _ _ H _ I h=>gp ⟨.bG,H,I,rfl,h⟩
theorem qc9{x j pos}:PE X (.Constant (.str x) j pos) (tC (.str x)):=λ_ _ _ H _ I h=>Calls.Constant_str ⟨.str x,H,I.tok _,⟨_,rfl⟩,h⟩
noncomputable def Gl(X:Cx)(x:Str):Prop:=X.env.kindOf x=some .globalImplicit
theorem DO{E:aa->ag->Prop}{pins:List (af×Obj)}{s:ag}{σ:St}{H:Hp}{x:Str}{u:aa}{pos:Pos}{Q:aa->ag->Prop}(I:Inv X pins σ H s)(hg:Gl X x)(hm:X.mg x=some u)(h:Q u s)
  (hd:(x==("__debug__":Str))=false:=by decide):ai (ak X.prog X.w) X.A (eval (.Name x pos) X.env) Q E s :=
 Calls.Name_function_global I.ok.kind hg (Calls.loadGlobal_global (by rw[I.ok.glob];exact I.mod.glob.keeps I.bk) hm h) hd
theorem oW{E:aa->ag->Prop}{pins:List (af×Obj)}{s:ag}{σ:St}{H:Hp}{x:Str}{u:aa}{pos:Pos}{Q:aa->ag->Prop}(I:Inv X pins σ H s)(hg:Gl X x)(hm:X.mg x=none)(hv:bE x=some u)(h:Q u s)
  (hn:x≠"__name__":=by decide) (hd:(x==("__debug__":Str))=false:=by decide):ai (ak X.prog X.w) X.A (eval (.Name x pos) X.env) Q E s:=by
 obtain⟨mb,h1,h2⟩:=I.mod.blt;exact Calls.Name_function_global I.ok.kind hg (Calls.loadGlobal_builtin (by rw[I.ok.glob];exact I.mod.glob.keeps I.bk) hm (by rw[I.ok.blt];exact h1.keeps I.bk) ((h2 x hn).trans hv) h) hd
theorem OB{x:Str}{v:V}{u:aa}{pos:Pos}(hg:Gl X x)(hm:X.mg x=some u)(r:RelV v u)(hd:(x==("__debug__":Str))=false:=by decide):PE X (.Name x pos) (tC v) :=
 λ_ _ _ H _ I h=>DO I hg hm ⟨v,H,I,r,h⟩ hd
theorem ycT{x:Str}{v:V}{u:aa}{pos:Pos}(hg:Gl X x)(hm:X.mg x=none)(hv:bE x=some u)(r:RelV v u)(hn:x≠"__name__":=by decide)(hd:(x==("__debug__":Str))=false:=by decide):PE X (.Name x pos) (tC v) :=
 λ_ _ _ H _ I h=>oW I hg hm hv ⟨v,H,I,r,h⟩ hn hd
variable {a b:Expr} {ta tb:TE} {pos:Pos}
noncomputable def PC(X:Cx)(op:fR)(a b:Expr)(t:TE):Prop :=
 ∀(pins:List (af×Obj)) (s:ag) (σ:St) (H:Hp) (Q:VK),Inv X pins σ H s->t σ H Q ->
  ai (ak X.prog X.w) X.A (eval a X.env) (λv s₁=>ai (ak X.prog X.w) X.A (eval b X.env) (λu s₂=>ai (ak X.prog X.w) X.A (aP op v u) (EP X pins σ Q) X.xe s₂) X.xe s₁) X.xe s
theorem Ow(b:Expr){op:fR}(h:op≠.In)(h2:op≠.NotIn):bF op b=false:=by
 have e1:(op==fR.In)=false:=by cases op <;> first|rfl|exact absurd rfl h
 have e2:(op==fR.NotIn)=false:=by cases op <;> first|rfl|exact absurd rfl h2
 cases b <;> simp[bF,e1,e2]
noncomputable def Gi(ta:TE):TE:=λσ H Q=>ta σ H λx H1=>Q (.bl (decide (x=.bG))) H1
noncomputable def tU(ta:TE):TE:=λσ H Q=>ta σ H λx H1=>Q (.bl (!decide (x=.bG))) H1
theorem RelV.none_iff{x:V}{v:aa}(r:RelV x v):(v==aa.none)=decide (x=.bG):=by
 cases x with
 |bG=>cases r;rfl
 |bl _=>cases r;rfl
 |int _=>obtain⟨t,rfl⟩:=r;rfl
 |str _=>obtain⟨t,rfl⟩:=r;rfl
 |Be _=>obtain⟨t,rfl⟩:=r;rfl
 |oM _=>obtain⟨t,rfl⟩:=r;rfl
 |ref _=>cases r;rfl
 |ty _=>cases r;rfl
theorem K7{j pos'}(ha:PE X a ta):PC X .Is a (.Constant .none j pos') (Gi ta):=by
 intro pins s σ H Q I h;refine bh (ha pins s σ H _ I h) λv s1 ⟨x,H1,I1,r1,q1⟩=>?_;exact gp (is_none_gen ⟨.bl _,H1,I1,by rw[r1.none_iff];rfl,q1⟩)
theorem Lh{j pos'}(ha:PE X a ta):PC X .IsNot a (.Constant .none j pos') (tU ta):=by
 intro pins s σ H Q I h;refine bh (ha pins s σ H _ I h) λv s1 ⟨x,H1,I1,r1,q1⟩=>?_;exact gp (isnot_none_gen ⟨.bl _,H1,I1,by rw[r1.none_iff];rfl,q1⟩)
noncomputable def tB(t:TE):TT:=λσ H Q=>t σ H λx H1=>∃ c,x=.bl c/\Q c H1
theorem Jg{op:fR}{t:TE}(h:PC X op a b t)(h1:bF op b=false:=by first|exact Ow _ (by decide) (by decide)|rfl):PE X (.Compare a [op] [b] pos) t:=λpins s σ H Q I hw=>iO (h pins s σ H Q I hw) h1
theorem Ek{op:fR}{t:TE}(h:PC X op a b t)(h1:bF op b=false:=by first|exact Ow _ (by decide) (by decide)|rfl):PT X (.Compare a [op] [b] pos) (tB t):=by
 intro pins s σ H Q I hw;refine fB (bh (h pins s σ H _ I hw) λv s1 h1=>bh h1 λu s2 h2=>bh h2 λc s3 ⟨x,H1,I1,r1,q1⟩=>?_) h1;obtain⟨d,rfl,q⟩:=q1;cases r1;exact aI ⟨H1,I1,q⟩
theorem ydq{e:Expr}{t:TE}(h:PE X e t)(he:∀ whole,jN e X.env whole=(do let v<-whole;iJ e.pos;cz [v] (truthy v)):=by intro _;rfl):PT X e (tB t):=by
 intro pins s σ H Q I hw;refine isTrue_plain (bh (h pins s σ H _ I hw) λv s1 ⟨x,H1,I1,r1,q1⟩=>?_) (he _);obtain⟨d,rfl,q⟩:=q1;cases r1;exact aI ⟨H1,I1,q⟩
variable {tA Cq:TT} {rest:List Expr}
noncomputable def Gn(t u:TT):TT:=λσ H Q=>t σ H λc H1=>if c=true then u σ H1 Q else Q false H1
noncomputable def tOr(t u:TT):TT:=λσ H Q=>t σ H λc H1=>if c=true then Q true H1 else u σ H1 Q
noncomputable def Gg(t:TT):TT:=λσ H Q=>t σ H λc H1=>Q (!c) H1
theorem zcK(ha:PT X a tA):PW X (.BoolOp .And [a] pos) tA:=by
 intro wh pins s σ H Q I h;refine isTrue_and (bh (ha pins s σ H Q I h) λc s1 e=>?_);cases c with
 |true=>exact isTrue_and_nil e
 |false=>exact e
theorem Ydg(ha:PT X a tA):PW X (.BoolOp .Or [a] pos) tA:=by
 intro wh pins s σ H Q I h;refine isTrue_or (bh (ha pins s σ H Q I h) λc s1 e=>?_);cases c with
 |false=>exact isTrue_or_nil e
 |true=>exact e
theorem zc6(ha:PT X a tA)(hb:PW X (.BoolOp .And (b::rest) pos) Cq):PW X (.BoolOp .And (a::b::rest) pos) (Gn tA Cq):=by
 intro wh pins s σ H Q I h;refine isTrue_and (bh (ha pins s σ H _ I h) λc s1 ⟨H1,I1,q1⟩=>?_);cases c with
 |true=>exact hb wh pins s1 σ H1 Q I1 q1
 |false=>exact⟨H1,I1,q1⟩
theorem vK(ha:PT X a tA)(hb:PW X (.BoolOp .Or (b::rest) pos) Cq):PW X (.BoolOp .Or (a::b::rest) pos) (tOr tA Cq):=by
 intro wh pins s σ H Q I h;refine isTrue_or (bh (ha pins s σ H _ I h) λc s1 ⟨H1,I1,q1⟩=>?_);cases c with
 |true=>exact⟨H1,I1,q1⟩
 |false=>exact hb wh pins s1 σ H1 Q I1 q1
theorem zdd(ha:PT X a tA):PT X (.UnaryOp .Not a pos) (Gg tA):=by
 intro pins s σ H Q I h;exact isTrue_not (ha pins s σ H (λc H1=>Q (!c) H1) I h)
noncomputable def uG(ta tb:TE):TE:=λσ H Q=>ta σ H λx H1=>∃ c,x=.bl c/\if c=true then tb σ H1 Q else Q (.bl false) H1
noncomputable def Gf(ta tb:TE):TE:=λσ H Q=>ta σ H λx H1=>∃ c,x=.bl c/\if c=true then Q (.bl true) H1 else tb σ H1 Q
noncomputable def tT(ta:TE):TE:=λσ H Q=>ta σ H λx H1=>∃ c,x=.bl c/\Q (.bl (!c)) H1
theorem NG{op}{t:TE}(h:PE X a t):PE X (.BoolOp op [a] pos) t:=λpins s σ H Q I hw=>BoolOp_one (h pins s σ H Q I hw)
theorem Qdq(ha:PE X a ta)(hb:PE X (.BoolOp .And (b::rest) pos) tb):PE X (.BoolOp .And (a::b::rest) pos) (uG ta tb):=by
 intro pins s σ H Q I h;refine BoolOp_and (bh (ha pins s σ H _ I h) λv s1 ⟨x,H1,I1,r1,q1⟩=>?_);obtain⟨c,rfl,q1⟩:=q1;cases r1;refine aI ?_;cases c with
 |true=>exact hb pins s1 σ H1 Q I1 q1
 |false=>exact⟨.bl false,H1,I1,rfl,q1⟩
theorem vS(ha:PE X a ta)(hb:PE X (.BoolOp .Or (b::rest) pos) tb):PE X (.BoolOp .Or (a::b::rest) pos) (Gf ta tb):=by
 intro pins s σ H Q I h;refine BoolOp_or (bh (ha pins s σ H _ I h) λv s1 ⟨x,H1,I1,r1,q1⟩=>?_);obtain⟨c,rfl,q1⟩:=q1;cases r1;refine aI ?_;cases c with
 |false=>exact hb pins s1 σ H1 Q I1 q1
 |true=>exact⟨.bl true,H1,I1,rfl,q1⟩
theorem ydg(ha:PE X a ta):PE X (.UnaryOp .Not a pos) (tT ta):=by
 intro pins s σ H Q I h;refine UnaryOp_ (bh (ha pins s σ H _ I h) λv s1 ⟨x,H1,I1,r1,q1⟩=>?_);obtain⟨c,rfl,q1⟩:=q1;cases r1;exact not_of (aI ⟨.bl (!c),H1,I1,rfl,q1⟩)
noncomputable def tIf(t:TT)(ta tb:TE):TE:=λσ H Q=>t σ H λc H1=>if c=true then ta σ H1 Q else tb σ H1 Q
theorem QcF{c:Expr}(hc:PT X c tA)(ha:PE X a ta)(hb:PE X b tb):PE X (.IfExp c a b pos) (tIf tA ta tb):=by
 intro pins s σ H Q I h;refine wpAny_IfExp (bh (hc pins s σ H _ I h) λd s1 ⟨H1,I1,q1⟩=>?_);cases d with
 |true=>exact ha pins s1 σ H1 Q I1 q1
 |false=>exact hb pins s1 σ H1 Q I1 q1
end
noncomputable def fG(K:PySem.W.Frag)(H:Hp)(a:af)(xs:List V):Prop :=
 Rd H a (.lst xs) \/
  ∃(o:Obj)(aB:Array aa)(n:Nat),K.lookup a=some o/\o.cls=.type "list"/\o.dict=none/\o.data=.seq aB n/\aB.size<=sizeLine/\Vals xs aB.toList
noncomputable def gc(K:PySem.W.Frag)(H:Hp)(a:af)(xs:List V):Prop :=
 Rd H a (.tup xs) \/
  ∃(o:Obj)(aB:Array aa)(n:Nat),K.lookup a=some o/\o.cls=.type "tuple"/\o.data=.seq aB n/\aB.size<=sizeLine/\Vals xs aB.toList
noncomputable def Ja:aa->Option V
 |.none=>some .bG
 |.bool b=>some (.bl b)
 |.int i _=>some (.int i)
 |.str x _=>some (.str x)
 |.bytes b _=>some (.Be b)
 |.float b _=>some (.oM b)
 |.ref a=>some (.ref a)
 |.type n=>some (.ty n)
 |_=>none
theorem RelV.abs{x:V}{u:aa}(r:RelV x u):Ja u=some x:=by
 cases x with
 |bG=>cases r;rfl
 |bl _=>cases r;rfl
 |int _=>obtain⟨t,rfl⟩:=r;rfl
 |str _=>obtain⟨t,rfl⟩:=r;rfl
 |Be _=>obtain⟨t,rfl⟩:=r;rfl
 |oM _=>obtain⟨t,rfl⟩:=r;rfl
 |ref _=>cases r;rfl
 |ty _=>cases r;rfl
theorem RelV.inj{x y:V}{u:aa}(r:RelV x u)(q:RelV y u):x=y:=Option.some.inj (r.abs.symm.trans q.abs)
theorem Vals.inj:∀{xs ys:List V}{us:List aa},Vals xs us->Vals ys us->xs=ys
 |_,_,_,.nil,.nil=>rfl
 |_,_,_,.cons r t,.cons r' t'=>by rw[r.inj r',Vals.inj t t']
section
variable {X:Cx} {pins:List (af×Obj)} {σ:St} {H:Hp} {s:ag} {a:af} {xs ys:List V}
theorem fG.of{K:PySem.W.Frag}(h:H a=some (.lst xs)):fG K H a xs:=.inl (.inl h)
theorem gc.of{K:PySem.W.Frag}(h:H a=some (.tup xs)):gc K H a xs:=.inl (.inl h)
theorem Inv.list(I:Inv X pins σ H s)(h:fG X.K H a xs):∃ aB:List aa,Vals xs aB/\PlainL s.heap a aB.toArray/\xs.length<=sizeLine:=by
 rcases h with h|⟨o,aB,n,hk,hc,hd,hs,hz,r⟩
 ·obtain⟨z,aB,n,r,e⟩:=h.ok I.aU;exact⟨aB,r,⟨_,n,e,rfl,rfl,rfl⟩,z⟩
 ·refine⟨aB.toList,r,⟨o,n,I.hV a o hk,hc,hd,by simpa using hs⟩,?_⟩;have e:=r.length;simp only[Vl] at e
  lia
theorem Inv.tuple(I:Inv X pins σ H s)(h:gc X.K H a xs):∃ aB:List aa,Vals xs aB/\fQ s.heap a aB.toArray/\xs.length<=sizeLine:=by
 rcases h with h|⟨o,aB,n,hk,hc,hs,hz,r⟩
 ·obtain⟨z,aB,r,p⟩:=h.ok I.aU;exact⟨aB,r,p,z⟩
 ·refine⟨aB.toList,r,⟨o,I.hV a o hk,hc,n,by simpa using hs⟩,?_⟩;have e:=r.length;simp only[Vl] at e
  lia
theorem Inv.list_inj(I:Inv X pins σ H s)(h:fG X.K H a xs)(h':fG X.K H a ys):xs=ys:=by
 obtain⟨aB,r,⟨o,n,e,_,_,d⟩,_⟩:=I.list h;obtain⟨its',r',⟨o',n',e',_,_,d'⟩,_⟩:=I.list h';rw[e] at e';cases e';rw[d] at d';injection d' with d1 _
 have:aB=its':=by simpa using congrArg xD d1
 subst this;exact r.inj r'
theorem Inv.tuple_inj(I:Inv X pins σ H s)(h:gc X.K H a xs)(h':gc X.K H a ys):xs=ys:=by
 obtain⟨aB,r,⟨o,e,_,n,d⟩,_⟩:=I.tuple h;obtain⟨its',r',⟨o',e',_,n',d'⟩,_⟩:=I.tuple h';rw[e] at e';cases e';rw[d] at d';injection d' with d1 _
 have:aB=its':=by simpa using congrArg xD d1
 subst this;exact r.inj r'
end
section
variable {X:Cx} {st:Stmt} {rest:List Stmt} {t u:TS} {e:Expr} {te:TE} {pos:Pos}
noncomputable def NK:TS:=λD σ H=>D.nx σ H
noncomputable def Gb(t u:TS):TS:=λD σ H=>t {D with nx:=u D} σ H
theorem YcR:gZ X [] NK:=λ_ _ σ H _ I h=>dz ⟨σ,H,I,h⟩
theorem Ycl(h1:PS X st t)(h2:gZ X rest u):gZ X (st::rest) (Gb t u):=by
 intro pins s σ H D I h;refine ia (bh (h1 pins s σ H {D with nx:=u D} I h) λf s1 q=>?_);cases f with
 |next =>
  obtain⟨σ',H',I',q⟩:=q;exact h2 pins s1 σ' H' D I' q
 |ret v=>exact q
 |brk=>exact q
 |cont=>exact q
theorem qcR(h1:PS X st t):gZ X [st] t:=by
 intro pins s σ H D I h;refine ia (bh (h1 pins s σ H D I h) λf s1 q=>?_);cases f with
 |next=>exact dz q
 |ret v=>exact q
 |brk=>exact q
 |cont=>exact q
theorem ZcT:PS X (.Pass pos) NK:=λ_ _ σ H _ I h=>wpAny_Pass ⟨σ,H,I,h⟩
theorem Inv.quiet{pins:List (af×Obj)}{σ:St}{H:Hp}{s:ag}(I:Inv X pins σ H s):interactive X.env=false:=by simp[interactive,I.ok.kind]
noncomputable def tY(te:TE):TS:=λD σ H=>te σ H λ_ H1=>D.nx σ H1
theorem YcY(he:PE X e te)(hs:bp e none pos.line X.env=pure false:=by rfl):PS X (.Expr e pos) (tY te):=by
 intro pins s σ H D I h;exact wpAny_Expr_any (bh (he pins s σ H _ I h) λv s1 ⟨x,H1,I1,r1,q1⟩=>⟨σ,H1,I1,q1⟩) I.quiet hs
noncomputable def Gd(te:TE):TS:=λD σ H=>te σ H D.rt
theorem L8(he:PE X e te):PS X (.Return (some e) pos) (Gd te):=by
 intro pins s σ H D I h;exact wpAny_Return_some (bh (he pins s σ H _ I h) λv s1 ⟨x,H1,I1,r1,q1⟩=>⟨x,σ,H1,I1,r1,q1⟩)
noncomputable def Gj(c:TT)(t u:TS):TS:=λD σ H=>c σ H λb H1=>if b=true then t D σ H1 else u D σ H1
theorem vL{c:Expr}{a b:List Stmt}{tc:TT}(hc:PT X c tc)(ha:gZ X a t)(hb:gZ X b u):PS X (.If c a b pos) (Gj tc t u):=by
 intro pins s σ H D I h;refine wpAny_If (bh (hc pins s σ H _ I h) λd s1 ⟨H1,I1,q1⟩=>?_);cases d with
 |true=>exact ha pins s1 σ H1 D I1 q1
 |false=>exact hb pins s1 σ H1 D I1 q1
end
noncomputable abbrev TG:=V->St->Hp->(St->Hp->Prop)->Prop
noncomputable abbrev om:=List V->St->Hp->(St->Hp->Prop)->Prop
noncomputable def PG(X:Cx)(target:Expr)(t:TG):Prop :=
 ∀(pins:List (af×Obj)) (s:ag) (σ:St) (H:Hp) (v:V) (u:aa) (Q:St->Hp->Prop),Inv X pins σ H s->RelV v u->t v σ H Q ->
  ai (ak X.prog X.w) X.A (eL target X.env u) (λ_ s'=>∃ σ' H',Inv X pins σ' H' s'/\Q σ' H') X.xe s
noncomputable def nu(X:Cx)(ts:List Expr)(t:om):Prop :=
 ∀(pins:List (af×Obj)) (s:ag) (σ:St) (H:Hp) (vs:List V) (us:List aa) (Q:St->Hp->Prop),Inv X pins σ H s->Vals vs us->t vs σ H Q ->
  ai (ak X.prog X.w) X.A (gm ((bN ts X.env).map (·.2)) us) (λ_ s'=>∃ σ' H',Inv X pins σ' H' s'/\Q σ' H') X.xe s
noncomputable abbrev rK:=V->V->V->Hp->(Hp->Prop)->Prop
noncomputable def BG(X:Cx)(t:rK):Prop :=
 ∀(pins:List (af×Obj)) (s:ag) (σ:St) (H:Hp) (o i v:V) (ov iv u:aa) (Q:Hp->Prop),Inv X pins σ H s->RelV o ov->RelV i iv->RelV v u->t o i v H Q ->
  ai (ak X.prog X.w) X.A (jI ov iv u) (λ_ s'=>∃ H',Inv X pins σ H' s'/\Q H') X.xe s
section
variable {X:Cx} {pos:Pos}
noncomputable def Jt(i:Nat):TG:=λv σ H Q=>Q (σ.set i (some v)) H
theorem My{i:Nat}{x:Str}(hN:X.N.Nodup)(hi:X.N[i]?=some x)(hx:Loc X.env.scope x)(hf:X.fn x=true\/X.env.scope.names.lookup x=some .local:=by first|exact .inl rfl|exact .inr rfl|assumption):PG X (.Name x pos) (Jt i):=by
 intro pins s σ H v u Q I r h;exact wpAny_assign_Name (JT I hN hi hx r (λs' I'=>⟨_,H,I',h⟩) hf)
noncomputable def IC:om:=λvs σ H Q=>vs=[]/\Q σ H
noncomputable def AJ(t:TG)(u:om):om:=λvs σ H Q=>∃ v r,vs=v::r/\t v σ H λσ' H'=>u r σ' H' Q
theorem zcJ:nu X [] IC:=by
 intro pins s σ H vs us Q I r h;obtain⟨e,h⟩:=h;subst e;cases r;exact gX ⟨σ,H,I,h⟩
theorem YcA{e:Expr}{es:List Expr}{t:TG}{u:om}(h1:PG X e t)(h2:nu X es u)
  (hs:(bN (e::es) X.env).map (·.2)=eL e X.env::(bN es X.env).map (·.2):=by rfl):nu X (e::es) (AJ t u):=by
 intro pins s σ H vs us Q I r h;obtain⟨v,vr,e1,h⟩:=h;subst e1;cases r with
 |cons r rr =>
  rw[hs];refine dY (bh (h1 pins s σ H _ _ _ I r h) λ_ s1 ⟨σ1,H1,I1,q1⟩=>?_);exact h2 pins s1 σ1 H1 _ _ Q I1 rr q1
noncomputable def IA(K:PySem.W.Frag)(n:Nat)(t:om):TG:=λv σ H Q=>∃ a xs,v=.ref a/\gc K H a xs/\xs.length=n/\t xs σ H Q
theorem Zdl{es:List Expr}{k:Nat}{t:om}{n:Nat}(hc:X.calm=true)(h:nu X es t)
  (hn:(bN es X.env).length=n:=by rfl) (pQ:(bN es X.env).findIdx? (·.1)=none:=by rfl):PG X (.Tuple es k pos) (IA X.K n t):=by
 intro pins s σ H v u Q I r hw;obtain⟨a,xs,e1,hq,hl,hw⟩:=hw;subst e1;cases r;obtain⟨aB,rv,ht,hz⟩:=I.tuple hq;refine assign_Tuple_tuple (I.ok.hd hc) ht (by simp[hn,<- hl,rv.length]) pQ λh' hx=>?_;have I1:Inv X pins σ H {s with heap:=h'}:=I.kept (t':=s.toks) λb o e=>hx b o (Xc (Xa e)) e;exact h pins _ σ H xs _ Q I1 (by simpa using rv) hw
noncomputable def IB(to ti:TE)(t:rK):TG:=λv σ H Q=>to σ H λo H1=>ti σ H1 λi H2=>t o i v H2 λH3=>Q σ H3
theorem Ydk{o i:Expr}{to ti:TE}{t:rK}(ho:PE X o to)(hi:PE X i ti)(hs:BG X t)
  (ha:∀ v,eL (.Subscript o i pos) X.env v=(do
   let ov<-cz [v] (eval o X.env)
   let iv<-cz [v,ov] (eval i X.env)
   iJ pos
   cz [v,ov,iv] (jI ov iv v)
   release [v,ov,iv] []):=by intro _;rfl):PG X (.Subscript o i pos) (IB to ti t):=by
 intro pins s σ H v u Q I r h;rw[ha];refine ae (aO (bh (ho pins s σ H _ I h) λov s1 ⟨x,H1,I1,r1,q1⟩=>?_));refine ae (aO (bh (hi pins s1 σ H1 _ I1 q1) λiv s2 ⟨y,H2,I2,r2,q2⟩=>?_));refine ae (bS (ae (aO (bh (hs pins s2 σ H2 x y v ov iv u _ I2 r1 r2 r q2) λ_ s3 ⟨H3,I3,q3⟩=>?_))));exact wpAny_release ⟨σ,H3,I3,q3⟩
noncomputable def t9(te:TE)(g:TG):TS:=λD σ H=>te σ H λx H1=>g x σ H1 D.nx
theorem K6{tg e:Expr}{te:TE}{g:TG}(he:PE X e te)(hg:PG X tg g)(hs:gf [tg] e pos.line X.env=pure false:=by rfl)(hw:b8 [tg] e X.env=pure none:=by rfl)
  (h1:(bN [tg] X.env).map (·.2)=[eL tg X.env]:=by rfl):PS X (.Assign [tg] e pos) (t9 te g):=by
 intro pins s σ H D I h;refine wpAny_Assign_stores (bh (he pins s σ H _ I h) λv s1 ⟨x,H1,I1,r1,q1⟩=>?_) hs hw;rw[h1];exact bh (hg pins s1 σ H1 x v _ I1 r1 q1) λ_ s2 q=>q
noncomputable def Ge(i j:Nat)(ta:TA):TS:=λD σ H=>ta σ H λvs H1=>∃ v w,vs=[v,w]/\D.nx ((σ.set i (some v)).set j (some w)) H1
theorem Qc7{i j:Nat}{x y:Str}{a b:Expr}{ta:TA}{px py pt:Pos}{kt k2 lV}(hc:X.calm=true)(hN:X.N.Nodup)(hi:X.N[i]?=some x)(hj:X.N[j]?=some y)(Au:i≠j)
  (hx:X.env.scope.names.lookup x=some .local) (hy:X.env.scope.names.lookup y=some .local) (ha:PA X [a,b] ta)
  (hw:b8 [.Tuple [.Name x px,.Name y py] kt pt] (.Tuple [a,b] k2 lV) X.env=pure (some [x,y]))
  (hs:gf [.Tuple [.Name x px,.Name y py] kt pt] (.Tuple [a,b] k2 lV) pos.line X.env=pure false:=by rfl) :
  PS X (.Assign [.Tuple [.Name x px,.Name y py] kt pt] (.Tuple [a,b] k2 lV) pos) (Ge i j ta):=by
 intro pins s σ H D I h;rw[exec_Assign_arm];refine ae (bS ?_);rw[hs];refine ae (ah ?_);rw[if_neg (by decide)];refine ae (Tuple_ (bh (ha _ pins s σ H _ I h) λus s1 ⟨vs,H1,I1,r1,q1⟩=>?_));obtain⟨v,w,e1,q1⟩:=q1;subst e1;obtain⟨u1,u2,rfl,rv,uV⟩:∃ u1 u2,us=[u1,u2]/\RelV v u1/\RelV w u2:=by
  cases r1 with
  |cons p q =>
   cases q with
   |cons p' q' =>
    cases q';exact⟨_,_,rfl,p,p'⟩
 refine aS ?_ (by show 2<=sizeLine;decide);have I2:Inv X pins σ H1 {s1 with heap:=s1.heap.push {cls:=.type "tuple",data:=.seq [u1,u2].toArray}}:=I1.kept (t':=s1.toks) λb o e=>wa _ e;rw[hw];refine ae (ah ?_);show ai (ak X.prog X.w) X.A (do rule "assign.swapped-stores";let items<-unpackItems (.ref s1.heap.objs.size) 2 none;gm [λv=>i9 X.env y v,λv=>i9 X.env x v] items.reverse;pure Flow.next) _ _ _;refine ae (cA (ae (unpackItems_tuple (items:=#[u1,u2]) (I.ok.hd hc) (fQ.new s1.heap _) λh' jh=>?_)));have I3:=I2.kept (h':=h') (t':=s1.toks) λb o e=>jh b o (Xc (Xa e)) e;show ai _ _ (gm [λv=>i9 X.env y v,λv=>i9 X.env x v] [u2,u1] >>= λ_=>pure Flow.next) _ _ _;refine ae (dY (iN (JT I3 hN hj (.inl hy) uV (λs2 I4=>?_) (.inr hy))));refine dY (iN (JT I4 hN hi (.inl hx) rv (λs3 I5=>gX (ah ?_)) (.inr hx)));rw[List.set_comm _ _ (Ne.symm Au)] at I5;exact⟨_,H1,I5,q1⟩
end
section
variable {X:Cx} {pos:Pos}
noncomputable def Yda(c:TT)(tb:TS):TS:=λD σ H=>∃ W:Nat->St->Hp->Prop,(∃ m,W m σ H)/\∀ m σ H,W m σ H ->
 c σ H λb H1=>if b=true then ∃ N:St->Hp->Prop,(∀ σ' H',N σ' H'->∃ m',m'<m/\W m' σ' H')/\tb {D with nx:=N,ct:=N,bk:=D.nx} σ H1 else D.nx σ H1
theorem qcj{c:Expr}{body:List Stmt}{tc:TT}{tb:TS}(hp:fW (ak X.prog X.w) X.A X.env X.xe)(hc:PT X c tc)(hb:gZ X body tb):PS X (.While c body [] pos) (Yda tc tb):=by
 intro pins s σ H D I h;obtain⟨W,⟨m0,w0⟩,turn⟩:=h;refine wpAny_While (codeAny_whileLoop (λn s'=>∃ σ' H',Inv X pins σ' H' s'/\W n σ' H') ?_ m0 ⟨σ,H,I,w0⟩);rintro n s1 ⟨σ1,H1,I1,w1⟩;refine bz hp (bh (hc pins s1 σ1 H1 _ I1 (turn n σ1 H1 w1)) λb s2 ⟨H2,I2,q2⟩=>?_);cases b with
 |true =>
  obtain⟨N,hN,q2⟩:=q2;rw[if_pos rfl];refine bz hp (bh (hb pins s2 σ1 H2 _ I2 q2) λf s3 q3=>?_);cases f with
  |next =>
   obtain⟨σ3,H3,I3,n3⟩:=q3;obtain⟨m',hm,w3⟩:=hN σ3 H3 n3;exact⟨m',hm,σ3,H3,I3,w3⟩
  |cont =>
   obtain⟨σ3,H3,I3,n3⟩:=q3;obtain⟨m',hm,w3⟩:=hN σ3 H3 n3;exact⟨m',hm,σ3,H3,I3,w3⟩
  |brk=>exact q3
  |ret v=>exact q3
 |false =>
  rw[if_neg xj];exact dz ⟨σ1,H2,I2,q2⟩
end
structure It where
 go:Nat->Hp->Prop
 nv:Nat->Hp->V->Hp->Prop
 stop:Nat->Hp->Prop
noncomputable def yY(X:Cx)(pins:List (af×Obj))(H:Hp)(b:af):Prop :=
 H b=none/\b≠X.env.locals/\b∉X.fs/\(b∈X.ex\/X.s₀.heap.objs.size<=b)/\(∀ x c,X.env.cells.lookup x=some c->c≠b)/\∀ p∈X.pn++pins,p.1≠b
theorem Inv.jP{X:Cx}{pins:List (af×Obj)}{σ:St}{H H':Hp}{s:ag}{b:af}(I:Inv X pins σ H s)(hb:s.heap.objs.size<=b)(hn:H' b=none):yY X pins H' b:=by
 refine⟨hn,Um (Wd I.lt hb),I.Hd hb,.inr (vf I.sz hb),λx c e z=>?_,λp hp z=>?_⟩
 ·obtain⟨v,q⟩:=I.cell x c e;exact absurd (Wd q.lt (by rw[z];exact hb)) (Ui _)
 ·exact absurd (Wd (Xa (I.pin p hp).1) (by rw[z];exact hb)) (Ui _)
structure Turn (P:aj) (w:World) (K:PySem.W.Frag) (tg:Expr) (J:It) (fp:List af) (it:af) (tn:Nat->Heap->Prop):Prop where
 mem:it∈fp
 obj:∀ i h,tn i h->∀ b∈fp,∃ o,h.get? b=some o/\∀ v,o.data≠.cell v
 keep:∀ i h h',tn i h->(∀ b∈fp,∀ o,h.get? b=some o->h'.get? b=some o)->tn i h'
 item:∀(X:Cx),X.prog=P->X.w=w->X.K=K->X.calm=true->∀(i:Nat)(pins:List (af×Obj)) (s:ag) (σ:St) (H:Hp) (E:aa->ag->Prop),Inv X pins σ H s->(∀ b∈fp,yY X pins H b)->tn i s.heap->J.go i H ->
  ai (ak P w) X.A (c8 (.ref it)) (λr s1=>∃ u,r=some u /\
   ai (ak P w) X.A (cy tg (.ref it) u) (λ_ s2=>∃ x H',Inv X pins σ H' s2/\RelV x u/\J.nv i H x H'/\tn (i+1) s2.heap/\∀ b∈fp,H' b=none) E s1) E s
 done:∀(X:Cx),X.prog=P->X.w=w->X.K=K->X.calm=true->∀(i:Nat)(pins:List (af×Obj)) (s:ag) (σ:St) (H:Hp) (E:aa->ag->Prop),Inv X pins σ H s->(∀ b∈fp,yY X pins H b)->tn i s.heap->J.stop i H ->
  ai (ak P w) X.A (c8 (.ref it)) (λr s1=>r=none/\Inv X pins σ H s1) E s
 self:∀(A:ay)(i:Nat)(s:ag)(Q:aa->ag->Prop)(E:aa->ag->Prop),tn i s.heap->Q (.ref it) s->ai (ak P w) A (jK (.ref it)) Q E s
noncomputable abbrev TI:=St->Hp->(It->Hp->Prop)->Prop
noncomputable def Px(X:Cx)(pins:List (af×Obj))(σ:St)(tg:Expr)(R:It->Hp->Prop)(C3:aa)(s2:ag):Prop :=
 ∃(it:af)(fp:List af)(tn:Nat->Heap->Prop)(J:It)(H':Hp),C3=.ref it/\Inv X pins σ H' s2/\Turn X.prog X.w X.K tg J fp it tn/\tn 0 s2.heap/\(∀ b∈fp,yY X pins H' b)/\R J H'
noncomputable def PI(X:Cx)(tg iter:Expr)(wi:TI):Prop :=
 ∀(pins:List (af×Obj)) (s:ag) (σ:St) (H:Hp) (R:It->Hp->Prop),Inv X pins σ H s->wi σ H R ->
  ai (ak X.prog X.w) X.A (eval iter X.env) (λv s1=>ai (ak X.prog X.w) X.A (jK v) (Px X pins σ tg R) X.xe s1) X.xe s
theorem Ey {M:Model} {A:ay} {E:aa→ag→Prop} {s:ag} {tg:Expr} {it:af} {u:aa} {o:Obj} {n:String} {vs:Array aa} {Q:Unit→ag→Prop} (ho:s.heap.get? it=some o) (hc:o.cls=.type n) (hd:o.data=.fields vs)
    (hn:["enumerate","zip","dict_itemiterator","dict_reverseitemiterator","odict_iterator","itertools.zip_longest","itertools.pairwise"].contains n=false) (hQ:Q () s):ai M A (cy tg (.ref it) u) Q E s:=by
  unfold cy
  cases tg <;> first
    | exact ah hQ
    | (cases u <;> first
        | exact ah hQ
        | (refine ae (wpAny_load ho ?_)
           rw [hc,hd]
           show ai M A (if (["enumerate","zip","dict_itemiterator","dict_reverseitemiterator","odict_iterator","itertools.zip_longest","itertools.pairwise"].contains n&&vs[0]? == some (dB _))=true then _ else _) Q E s
           rw [if_neg (by intro h; rw [hn,Bool.false_and] at h; cases h)]
           exact ah hQ))
noncomputable def Pz(K:PySem.W.Frag)(a:af):It :=
 ⟨λi H=>∃ xs x,fG K H a xs/\xs[i]?=some x,λi H x H'=>H'=H/\∀ xs,fG K H a xs->xs[i]?=some x,λi H=>∃ xs,fG K H a xs/\xs.length<=i⟩
noncomputable def Py(K:PySem.W.Frag)(a:af):It :=
 ⟨λi H=>∃ xs x,gc K H a xs/\xs[i]?=some x,λi H x H'=>H'=H/\∀ xs,gc K H a xs->xs[i]?=some x,λi H=>∃ xs,gc K H a xs/\xs.length<=i⟩
noncomputable def D7(lo:Int)(n:Nat):It:=⟨λi _=>i<n,λi H x H'=>H'=H/\x=.int (lo+i),λi _=>n<=i⟩
theorem zch{P:aj}{w:World}{K:PySem.W.Frag}{tg:Expr}(a it:af):Turn P w K tg (Pz K a) [it] it (λi h=>h.IsListIter it a i) where
 mem:=by simp
 obj:=λi h st b hb=>by
  have e:b=it:=by simpa using hb
  subst e;obtain⟨o,e,c,d⟩:=st;exact⟨o,e,λv z=>by rw[d] at z;cases z⟩
 keep:=λi h h' st k=>st.at λo e=>k it (by simp) o e
 item:=by
  intro X hP hw hK hc i pins s σ H E I hf st hg;subst hP hw hK;obtain⟨xs,x,hq,hx⟩:=hg;obtain⟨aB,rv,p,hz⟩:=I.list hq;obtain⟨u,hu,ru⟩:=rv.get hx;obtain⟨f0,f1,f2,f3,f4,f5⟩:=hf it (by simp);refine fb st p.isList (x:=u) (by simpa using hu) λh' km sb=>?_;have I1:Inv X pins σ H {s with heap:=h'}:=I.turned (t':=s.toks) (λb o hb e=>(sb.2 b hb).trans e) f0 f1 f3 f4 f5;obtain⟨o,e,c,d⟩:=id km;exact⟨u,rfl,Ey (s:={s with heap:=h'}) e c d (by decide) ⟨x,H,I1,ru,⟨rfl,λys hy=>by rw[I.list_inj hy hq];exact hx⟩,km,λb hb=>(hf b hb).1⟩⟩
 done:=by
  intro X hP hw hK hc i pins s σ H E I hf st hg;subst hP hw hK;obtain⟨xs,hq,hx⟩:=hg;obtain⟨aB,rv,p,hz⟩:=I.list hq;obtain⟨f0,f1,f2,f3,f4,f5⟩:=hf it (by simp);have hl:=rv.length;exact fy (I.ok.hd hc) st p.isList (by simp;lia) λh' eb=>⟨rfl,I.turned (t':=s.toks) (λb o hb e=>eb b o hb e) f0 f1 f3 f4 f5⟩
 self:=λ_ _ _ _ _ st h=>wpAny_pyIter_listiter st h
theorem QbP{P:aj}{w:World}{K:PySem.W.Frag}{tg:Expr}(a it:af):Turn P w K tg (Py K a) [it] it (λi h=>h.IsTupleIter it a i) where
 mem:=by simp
 obj:=λi h st b hb=>by
  have e:b=it:=by simpa using hb
  subst e;obtain⟨o,e,c,d⟩:=st;exact⟨o,e,λv z=>by rw[d] at z;cases z⟩
 keep:=λi h h' st k=>st.at λo e=>k it (by simp) o e
 item:=by
  intro X hP hw hK hc i pins s σ H E I hf st hg;subst hP hw hK;obtain⟨xs,x,hq,hx⟩:=hg;obtain⟨aB,rv,p,hz⟩:=I.tuple hq;obtain⟨u,hu,ru⟩:=rv.get hx;obtain⟨f0,f1,f2,f3,f4,f5⟩:=hf it (by simp);refine eP st (show s.heap.IsTuple a aB.toArray from p) (x:=u) (by simpa using hu) λh' km sb=>?_;have I1:Inv X pins σ H {s with heap:=h'}:=I.turned (t':=s.toks) (λb o hb e=>(sb.2 b hb).trans e) f0 f1 f3 f4 f5;obtain⟨o,e,c,d⟩:=id km;exact⟨u,rfl,Ey (s:={s with heap:=h'}) e c d (by decide) ⟨x,H,I1,ru,⟨rfl,λys hy=>by rw[I.tuple_inj hy hq];exact hx⟩,km,λb hb=>(hf b hb).1⟩⟩
 done:=by
  intro X hP hw hK hc i pins s σ H E I hf st hg;subst hP hw hK;obtain⟨xs,hq,hx⟩:=hg;obtain⟨aB,rv,p,hz⟩:=I.tuple hq;obtain⟨f0,f1,f2,f3,f4,f5⟩:=hf it (by simp);have hl:=rv.length;exact e8 (I.ok.hd hc) st (show s.heap.IsTuple a aB.toArray from p) (by simp;lia) λh' eb=>⟨rfl,I.turned (t':=s.toks) (λb o hb e=>eb b o hb e) f0 f1 f3 f4 f5⟩
 self:=λ_ _ _ _ _ st h=>fe st h
theorem QbS{P:aj}{w:World}{K:PySem.W.Frag}{tg:Expr}(it:af)(lo:Int)(n:Nat):Turn P w K tg (D7 lo n) [it] it (λi h=>IsRangeIter h it (lo+(i:Nat)*1) ((n:Int)-(i:Nat)) 1) where
 mem:=by simp
 obj:=λi h st b hb=>by
  have e:b=it:=by simpa using hb
  subst e;exact⟨_,st,λv z=>by
   have z':Data.fields _=Data.cell v:=z;cases z'⟩
 keep:=λi h h' st k=>k it (by simp) _ st
 item:=by
  intro X hP hw hK hc i pins s σ H E I hf st hg;subst hP hw hK;obtain⟨f0,f1,f2,f3,f4,f5⟩:=hf it (by simp);have W:=Walks.range (prog:=X.prog) (w:=X.w) (I.ok.hd hc) it lo 1 n;refine W.item i s _ _ hg st λv h' tk hv km kk=>?_;obtain⟨t,rfl⟩:=hv;have I1:Inv X pins σ H {s with heap:=h',toks:=tk}:=I.turned (λb o hb e=>kk b o (by simpa using hb) e) f0 f1 f3 f4 f5;refine⟨_,rfl,Ey (s:={s with heap:=h',toks:=tk}) (n:="range_iterator") km rfl rfl (by decide) ⟨.int (lo+i),H,I1,⟨t,?_⟩,⟨rfl,rfl⟩,km,λb hb=>(hf b hb).1⟩⟩;rw[Int.mul_one]
 done:=by
  intro X hP hw hK hc i pins s σ H E I hf st hg;subst hP hw hK;obtain⟨f0,f1,f2,f3,f4,f5⟩:=hf it (by simp);exact wpAny_pyNext_range_end (I.ok.hd hc) st (by have:n<=i:=hg;lia) λh' eb=>⟨rfl,I.turned (t':=s.toks) (λb o hb e=>eb b o hb e) f0 f1 f3 f4 f5⟩
 self:=λ_ _ _ _ _ st h=>wpAny_pyIter_rangeiter st h
section
variable {X:Cx} {tg:Expr}
theorem qcF{pins:List (af×Obj)}{σ:St}{H:Hp}{s:ag}{R:It->Hp->Prop}{E:aa->ag->Prop}{lo hi:Int}{t u v:Tok}{tk:Nat}(I:Inv X pins σ H s)(h1:-(2^62)<=lo)(h2:lo<2^62)(h3:-(2^62)<=hi)(h4:hi<2^62)
  (q:R (D7 lo (hi-lo).toNat) H):ai (ak X.prog X.w) X.A (jK (.ref s.heap.objs.size)) (Px X pins σ tg R) E {s with heap:=s.heap.push {cls:=.type "range",data:=.fields #[.int lo t,.int hi u,.int 1 v]},toks:=tk}:=by
 refine wpAny_pyIter_range (IsRange.new ..) (small_one h1 h2 h3 h4) ?_;have I1:Inv X pins σ H {s with heap:=s.heap.push {cls:=.type "range",data:=.fields #[.int lo t,.int hi u,.int 1 v]},toks:=tk}:=I.kept λb o e=>wa _ e;refine⟨(s.heap.push {cls:=.type "range",data:=.fields #[.int lo t,.int hi u,.int 1 v]}).objs.size,[(s.heap.push {cls:=.type "range",data:=.fields #[.int lo t,.int hi u,.int 1 v]}).objs.size],_,_,H,rfl,
  I1.kept (t':=tk) λb o e=>wa _ e,QbS _ lo (hi-lo).toNat,?_,λb hb=>?_,q⟩
 ·have e1:lo+((0:Nat):Int)*1=lo:=by simp
  have e2:(((hi-lo).toNat:Nat):Int)-((0:Nat):Int)=aq.Range.rangeSize lo hi 1:=by rw[rangeSize_one];split <;> lia
  show IsRangeIter _ _ (lo+((0:Nat):Int)*1) ((((hi-lo).toNat:Nat):Int)-((0:Nat):Int)) 1;rw[e1,e2];exact Ub _ rfl
 ·have e:b=(s.heap.push {cls:=.type "range",data:=.fields #[.int lo t,.int hi u,.int 1 v]}).objs.size:=by simpa using hb
  subst e;exact I1.jP (xb _) (I1.aU.fresh (xb _))
noncomputable def Ad(ta:TA):TI:=λσ H R=>ta σ H λvs H1=>∃ j:Int,vs=[.int j]/\-(2^62)<=j/\j<2^62/\R (D7 0 j.toNat) H1
theorem zb9{a:Expr}{ta:TA}{p pos:Pos}(hg:Gl X "range")(hm:X.mg "range"=none)(ha:PA X [a] ta)(hs:au [a] X.env=[(false,eval a X.env)]:=by rfl):PI X tg (.Call (.Name "range" p) [a] [] pos) (Ad ta):=by
 intro pins s σ H R I h;refine Call_ (oW I hg hm boot_range (PyProof.Rows.callWith_type1 (bh (ha pos pins s σ H _ I h) λus s1 ⟨vs,H1,I1,r1,q1⟩=>?_) hs rfl));obtain⟨j,e,q1,q2,q⟩:=q1;subst e;cases r1 with
 |cons r rr =>
  cases rr;obtain⟨t,rfl⟩:=r;exact call_range_1 (qcF I1 (by lia) (by lia) q1 q2 (by simpa using q))
noncomputable def Gk(wi:TI)(g:TG)(tb:TS):TS:=λD σ H=>wi σ H λJ H1=>∃ W:Nat->Nat->St->Hp->Prop,(∃ m,W 0 m σ H1)/\∀ i m σ H,W i m σ H ->
 (J.stop i H/\D.nx σ H)\/(J.go i H/\∃ N:St->Hp->Prop,(∀ σ' H',N σ' H'->∃ m',m'<m/\W (i+1) m' σ' H')/\∀ x H',J.nv i H x H'->g x σ H' λσ2 H2=>tb {D with nx:=N,ct:=N,bk:=D.nx} σ2 H2)
noncomputable def sT(fp:List af)(h:Heap):List (af×Obj):=fp.filterMap λb=>(h.get? b).map λo=>(b,o)
theorem yu{fp:List af}{h:Heap}{b:af}{o:Obj}(hb:b∈fp)(e:h.get? b=some o):(b,o)∈sT fp h:=XD.mpr ⟨b,hb,by rw[e];rfl⟩
theorem Zb4{fp:List af}{h:Heap}{p:af×Obj}(hp:p∈sT fp h):p.1∈fp/\h.get? p.1=some p.2:=by
 obtain⟨b,hb,e⟩:=XD.mp hp;cases q:h.get? b with
 |none=>rw[q] at e;cases e
 |some o =>
  rw[q] at e;have e':(b,o)=p:=Option.some.inj e;subst e';exact⟨hb,q⟩
theorem Inv.pinned{pins:List (af×Obj)}{σ:St}{H:Hp}{s:ag}{fp:List af}(I:Inv X pins σ H s)(hf:∀ b∈fp,yY X pins H b)(ho:∀ b∈fp,∃ o,s.heap.get? b=some o/\∀ v,o.data≠.cell v):Inv X (pins++sT fp s.heap) σ H s :=
 I.pins_of λp hp=>(Wg.mp hp).elim (λz=>I.pin p (Vf _ z)) λz=>by
  obtain⟨hb,e⟩:=Zb4 z;obtain⟨f0,f1,f2,_⟩:=hf p.1 hb;obtain⟨o,e',d⟩:=ho p.1 hb;rw[e] at e';cases e';exact⟨e,f0,f1,f2,d⟩
theorem Inv.gN{pins pl:List (af×Obj)}{σ:St}{H:Hp}{s:ag}(I:Inv X (pins++pl) σ H s):Inv X pins σ H s:=I.pins_of λp hp=>I.pin p (Vf _ (Xj _ hp))
theorem zdl{iter:Expr}{body:List Stmt}{wi:TI}{g:TG}{tb:TS}{pos:Pos}(hp:fW (ak X.prog X.w) X.A X.env X.xe)(hc:X.calm=true)(hi:PI X tg iter wi)(hg:PG X tg g)(hb:gZ X body tb)
  (hs:∀ x,cT iter X.env x=pure x:=by intro _;rfl):PS X (.For tg iter body [] pos) (Gk wi g tb):=by
 intro pins s σ H D I h;refine wpAny_For (bh (hi pins s σ H _ I h) λv s1 h1=>bh h1 λC3 s2 h2=>?_) hs;obtain⟨it,fp,tn,J,H2,e,I2,T,kO,f2,W,⟨m0,w0⟩,turn⟩:=h2;subst e
 -- what stays true of tO kB objects through tO loop
 have pA:∀{H':Hp},(∀ b∈fp,H' b=none)->∀ b∈fp,yY X pins H' b:=λhn b hb=>⟨hn b hb,(f2 b hb).2⟩;refine codeAny_forLoop_any (λn s'=>∃ i σ' H',Inv X pins σ' H' s'/\tn i s'.heap/\(∀ b∈fp,H' b=none)/\W i n σ' H') ?_ m0 ⟨0,σ,H2,I2,kO,λb hb=>(f2 b hb).1,w0⟩;rintro n s3 ⟨i,σ3,H3,I3,LO,Nu,w3⟩
 rcases turn i n σ3 H3 w3 with ⟨stop,qn⟩|⟨go,N,hN,step⟩
 ·refine bz hp (bh (T.done X rfl rfl rfl hc i pins s3 σ3 H3 X.xe I3 (pA Nu) LO stop) λr s4 ⟨hr,I4⟩=>?_);subst hr;exact dz ⟨σ3,H3,I4,qn⟩
 ·refine bz hp (bh (T.item X rfl rfl rfl hc i pins s3 σ3 H3 X.xe I3 (pA Nu) LO go) λr s4 ⟨u,hr,h4⟩=>?_);subst hr;refine bz hp (bh h4 λ_ s5 ⟨x,H5,I5,r5,y5,Gr,fr5⟩=>?_);have I5':=I5.pinned (pA fr5) (T.obj _ _ Gr);refine bz hp (bh (hg _ s5 σ3 H5 x u _ I5' r5 (step x H5 y5)) λ_ s6 ⟨σ6,H6,I6,q6⟩=>?_);refine bz hp (bh (hb _ s6 σ6 H6 _ I6 q6) λf s7 q7=>?_);have again:∀{σ7:St}{H7:Hp},Inv X (pins++sT fp s5.heap) σ7 H7 s7->N σ7 H7->∃ m,m<n/\∃ i σ' H',Inv X pins σ' H' s7/\tn i s7.heap/\(∀ b∈fp,H' b=none)/\W i m σ' H':=λ{σ7 H7} I7 n7=>by
   obtain⟨m',hm,w7⟩:=hN σ7 H7 n7;refine⟨m',hm,i+1,σ7,H7,I7.gN,T.keep _ _ _ Gr λb hb o e=>(I7.pin (b,o) (Vf _ (Vf _ (yu hb e)))).1,λb hb=>?_,w7⟩;obtain⟨o,e,d⟩:=T.obj _ _ Gr b hb;exact(I7.pin (b,o) (Vf _ (Vf _ (yu hb e)))).2.1
  cases f with
  |next=>obtain⟨σ7,H7,I7,n7⟩:=q7;exact again I7 n7
  |cont=>obtain⟨σ7,H7,I7,n7⟩:=q7;exact again I7 n7
  |brk=>obtain⟨σ7,H7,I7,q7⟩:=q7;exact⟨σ7,H7,I7.gN,q7⟩
  |ret v=>obtain⟨x7,σ7,H7,I7,r7,q7⟩:=q7;exact⟨x7,σ7,H7,I7.gN,r7,q7⟩
end
noncomputable abbrev R2:=V->V->Hp->VK->Prop
noncomputable def cL(X:Cx)(f:aa->aa->Sem aa)(r:R2):Prop :=
 ∀(pins:List (af×Obj)) (s:ag) (σ:St) (H:Hp) (x y:V) (v u:aa) (Q:VK),Inv X pins σ H s->RelV x v->RelV y u->r x y H Q ->
  ai (ak X.prog X.w) X.A (f v u) (EP X pins σ Q) X.xe s
noncomputable def JU(X:Cx)(f:aa->Sem aa)(r:V->Hp->VK->Prop):Prop :=
 ∀(pins:List (af×Obj)) (s:ag) (σ:St) (H:Hp) (x:V) (v:aa) (Q:VK),Inv X pins σ H s->RelV x v->r x H Q ->
  ai (ak X.prog X.w) X.A (f v) (EP X pins σ Q) X.xe s
noncomputable def aN(X:Cx)(f:aa)(r:List V->Hp->VK->Prop):Prop :=
 ∀(pins:List (af×Obj)) (s:ag) (σ:St) (H:Hp) (xs:List V) (us:List aa) (Q:VK),Inv X pins σ H s->Vals xs us->r xs H Q ->
  ai (ak X.prog X.w) X.A (call f us) (EP X pins σ Q) X.xe s
noncomputable def Cp(r:R2)(ta tb:TE):TE:=λσ H Q=>ta σ H λx H1=>tb σ H1 λy H2=>r x y H2 Q
noncomputable def tUn(r:V->Hp->VK->Prop)(ta:TE):TE:=λσ H Q=>ta σ H λx H1=>r x H1 Q
noncomputable def rI(C:Int->Int->Prop)(g:Int->Int->V):R2:=λx y H Q=>∃ i j,x=.int i/\y=.int j/\C i j/\Q (g i j) H
noncomputable def oA(g:Int->Int->V):R2:=λx y H Q=>∃ i j,x=.int i/\y=.int j/\Q (g i j) H
noncomputable def rU(g:Int->V):V->Hp->VK->Prop:=λx H Q=>∃ i,x=.int i/\Q (g i) H
section
variable {X:Cx} {a b c:Expr} {ta tb tc:TE} {pos:Pos}
theorem rE(ha:PE X a ta)(hb:PE X b tb){pins:List (af×Obj)}{s:ag}{σ:St}{H:Hp}{R:V->V->Hp->Prop}(I:Inv X pins σ H s)
  (h:ta σ H λx H1=>tb σ H1 λy H2=>R x y H2) {Q:aa->ag->Prop} {f:aa->aa->Sem aa}
  (hf:∀ v u s2 x y H2,Inv X pins σ H2 s2->RelV x v->RelV y u->R x y H2->ai (ak X.prog X.w) X.A (f v u) Q X.xe s2) :
  ai (ak X.prog X.w) X.A (eval a X.env) (λv s₁=>ai (ak X.prog X.w) X.A (eval b X.env) (λu s₂=>ai (ak X.prog X.w) X.A (f v u) Q X.xe s₂) X.xe s₁) X.xe s:=by
 refine bh (ha pins s σ H _ I h) λv s1 ⟨x,H1,I1,r1,q1⟩=>?_;refine bh (hb pins s1 σ H1 _ I1 q1) λu s2 ⟨y,H2,I2,r2,q2⟩=>?_;exact hf v u s2 x y H2 I2 r1 r2 q2
theorem vT{op:Operator}{r:R2}(ho:cL X (ba op) r)(ha:PE X a ta)(hb:PE X b tb):PE X (.BinOp a op b pos) (Cp r ta tb):=by
 intro pins s σ H Q I h;exact wpAny_BinOp (rE ha hb I h λv u s2 x y H2 I2 rx ry q=>ho pins s2 σ H2 x y v u Q I2 rx ry q)
theorem Lb{op:UnaryOp}{r:V->Hp->VK->Prop}(ho:JU X (unaryOp op) r)(ha:PE X a ta):PE X (.UnaryOp op a pos) (tUn r ta):=by
 intro pins s σ H Q I h;exact UnaryOp_ (bh (ha pins s σ H _ I h) λv s1 ⟨x,H1,I1,r1,q1⟩=>ho pins s1 σ H1 x v Q I1 r1 q1)
theorem wI{f:aa->aa->Sem aa}{C:Int->Int->Prop}{g:Int->Int->Int}
  (rule:∀(i j:Int)(t u:Tok)(s:ag)(Q:aa->ag->Prop)(E:aa->ag->Prop),C i j->Q (.int (g i j) s.toks) {s with toks:=s.toks+1}->ai (ak X.prog X.w) X.A (f (.int i t) (.int j u)) Q E s) :
  cL X f (rI C λi j=>.int (g i j)):=by
 intro pins s σ H x y v u Q I rx ry h;obtain⟨i,j,rfl,rfl,hc,q⟩:=h;obtain⟨t,rfl⟩:=rx;obtain⟨t',rfl⟩:=ry;exact rule i j t t' s _ _ hc ⟨.int (g i j),H,I.tok _,⟨_,rfl⟩,q⟩
theorem wH{f:aa->aa->Sem aa}{g:Int->Int->Int}
  (rule:∀(i j:Int)(t u:Tok)(s:ag)(Q:aa->ag->Prop)(E:aa->ag->Prop),Q (.int (g i j) s.toks) {s with toks:=s.toks+1}->ai (ak X.prog X.w) X.A (f (.int i t) (.int j u)) Q E s) :
  cL X f (oA λi j=>.int (g i j)):=by
 intro pins s σ H x y v u Q I rx ry h;obtain⟨i,j,rfl,rfl,q⟩:=h;obtain⟨t,rfl⟩:=rx;obtain⟨t',rfl⟩:=ry;exact rule i j t t' s _ _ ⟨.int (g i j),H,I.tok _,⟨_,rfl⟩,q⟩
theorem nI{f:aa->aa->Sem aa}{g:Int->Int->Bool}
  (rule:∀(i j:Int)(t u:Tok)(s:ag)(Q:aa->ag->Prop)(E:aa->ag->Prop),Q (.bool (g i j)) s->ai (ak X.prog X.w) X.A (f (.int i t) (.int j u)) Q E s) :
  cL X f (oA λi j=>.bl (g i j)):=by
 intro pins s σ H x y v u Q I rx ry h;obtain⟨i,j,rfl,rfl,q⟩:=h;obtain⟨t,rfl⟩:=rx;obtain⟨t',rfl⟩:=ry;exact rule i j t t' s _ _ ⟨.bl (g i j),H,I,rfl,q⟩
noncomputable def Km(i j:Int):Prop:=0<j/\j<1073741824
noncomputable def Kl(i j:Int):Prop:=0<=j/\j<=1000000/\i.natAbs<2^64
theorem qde:cL X (ba .Add) (oA λi j=>.int (i+j)):=wH λ_ _ _ _ _ _ _ q=>add_int q
theorem Zdc:cL X (ba .Sub) (oA λi j=>.int (i-j)):=wH λ_ _ _ _ _ _ _ q=>sub_int q
theorem CN:cL X (ba .FloorDiv) (rI Km λi j=>.int (i/j)):=wI λi j _ _ _ _ _ hc q=>by
 have h1:(0:Int)<j:=hc.1;have h2:j<1073741824:=hc.2;exact floordiv_int (by lia) (by rw[Wz i (by lia)];exact q) (.inl (PyProof.noPylong_small (by lia)))
theorem yc9:cL X (ba .Mod) (rI (λ_ j=>0<j) λi j=>.int (i%j)):=wI λi j _ _ _ _ _ hc q=>by
 have h1:(0:Int)<j:=hc;exact mod_int' (by lia) (by rw[Int.fmod_eq_emod_of_nonneg i (by lia)];exact q)
theorem qdj:cL X (ba .Pow) (rI Kl λi j=>.int (i^j.toNat)):=wI λ_ _ _ _ _ _ _ hc q=>pow_int_small hc.1 hc.2.1 hc.2.2 q
theorem unI{f:aa->Sem aa}{g:Int->Int}
  (rule:∀(i:Int)(t:Tok)(s:ag)(Q:aa->ag->Prop)(E:aa->ag->Prop),Q (.int (g i) s.toks) {s with toks:=s.toks+1}->ai (ak X.prog X.w) X.A (f (.int i t)) Q E s) :
  JU X f (rU λi=>.int (g i)):=by
 intro pins s σ H x v Q I rx h;obtain⟨i,rfl,q⟩:=h;obtain⟨t,rfl⟩:=rx;exact rule i t s _ _ ⟨.int (g i),H,I.tok _,⟨_,rfl⟩,q⟩
theorem NJ:JU X (unaryOp .USub) (rU λi=>.int (-i)):=unI λ_ _ _ _ _ q=>neg_int q
end
section
variable {X:Cx} {a b c:Expr} {ta tb tc:TE} {pos:Pos}
theorem vZ:cL X (aP .Lt) (oA λi j=>.bl (decide (i<j))):=nI λ_ _ _ _ _ _ _ q=>lt_int q
theorem v7:cL X (aP .LtE) (oA λi j=>.bl (decide (i<=j))):=nI λ_ _ _ _ _ _ _ q=>le_int q
theorem v8:cL X (aP .Gt) (oA λi j=>.bl (decide (j<i))):=nI λ_ _ _ _ _ _ _ q=>gt_int q
theorem v9:cL X (aP .GtE) (oA λi j=>.bl (decide (j<=i))):=nI λ_ _ _ _ _ _ _ q=>ge_int q
theorem ZcX{op:fR}{r:R2}(ho:cL X (aP op) r)(ha:PE X a ta)(hb:PE X b tb)(hm:bF op b=false):PE X (.Compare a [op] [b] pos) (Cp r ta tb):=by
 intro pins s σ H Q I h;exact iO (rE ha hb I h λv u s2 x y H2 I2 rx ry q=>ho pins s2 σ H2 x y v u Q I2 rx ry q) hm
noncomputable def GQ(t:TE):TT:=λσ H Q=>t σ H λx H'=>∃ k,x=.bl k/\Q k H'
theorem YcU{op:fR}{r:R2}(ho:cL X (aP op) r)(ha:PE X a ta)(hb:PE X b tb)(hm:bF op b=false):PT X (.Compare a [op] [b] pos) (GQ (Cp r ta tb)):=by
 intro pins s σ H Q I h;refine fB (bh (ha pins s σ H _ I h) λv s1 ⟨x,H1,I1,r1,q1⟩=>bh (hb pins s1 σ H1 _ I1 q1) λu s2 ⟨y,H2,I2,r2,q2⟩ =>
  bh (ho pins s2 σ H2 x y v u _ I2 r1 r2 q2) λc s3 ⟨z,H3,I3,r3,k,e,q3⟩=>?_) hm
 subst e;cases r3;exact aI ⟨H3,I3,q3⟩
noncomputable def K5(r r':R2)(ta tb tc:TE):TE:=λσ H Q=>ta σ H λx H1=>tb σ H1 λy H2=>r x y H2 λz H3=>∃ k,z=.bl k /\
 (if k=true then tc σ H3 λw' H4=>r' y w' H4 Q else Q (.bl false) H3)
theorem ycF{op jL:fR}{r r':R2}(ho:cL X (aP op) r)(kr:cL X (aP jL) r')(ha:PE X a ta)(hb:PE X b tb)(hc:PE X c tc)
  (hm:lastMarks [op,jL] [b,c]=false:=by with_unfolding_all rfl):PE X (.Compare a [op,jL] [b,c] pos) (K5 r r' ta tb tc):=by
 intro pins s σ H Q I h;refine Compare_chain (bh (ha pins s σ H _ I h) λv s1 ⟨x,H1,I1,r1,q1⟩=>chain_link (bh (hb pins s1 σ H1 _ I1 q1) λu s2 ⟨y,H2,I2,r2,q2⟩ =>
  bh (ho pins s2 σ H2 x y v u _ I2 r1 r2 q2) λd s3 ⟨z,H3,I3,r3,k,e,q3⟩=>?_)) hm
 subst e;cases r3;refine aI ?_;cases k with
 |false=>exact ite_ff ⟨.bl false,H3,I3,rfl,q3⟩
 |true=>exact ite_tt (chain_last (bh (hc pins s3 σ H3 _ I3 q3) λw' s4 ⟨z',H4,I4,r4,q4⟩=>kr pins s4 σ H4 y z' u w' Q I4 r2 r4 q4))
theorem Zcl{op jL:fR}{r r':R2}(ho:cL X (aP op) r)(kr:cL X (aP jL) r')(ha:PE X a ta)(hb:PE X b tb)(hc:PE X c tc)
  (hm:lastMarks [op,jL] [b,c]=false:=by with_unfolding_all rfl):PT X (.Compare a [op,jL] [b,c] pos) (GQ (K5 r r' ta tb tc)):=by
 intro pins s σ H Q I h;refine isTrue_chain (bh (ha pins s σ H _ I h) λv s1 ⟨x,H1,I1,r1,q1⟩=>test_link (bh (hb pins s1 σ H1 _ I1 q1) λu s2 ⟨y,H2,I2,r2,q2⟩ =>
  bh (ho pins s2 σ H2 x y v u _ I2 r1 r2 q2) λd s3 ⟨z,H3,I3,r3,k,e,q3⟩=>?_)) hm
 subst e;cases r3;refine aI ?_;cases k with
 |false =>
  obtain⟨k',e',q'⟩:=q3;cases e';exact ite_ff ⟨H3,I3,q'⟩
 |true =>
  refine ite_tt (test_last (bh (hc pins s3 σ H3 _ I3 q3) λw' s4 ⟨z',H4,I4,r4,q4⟩=>bh (kr pins s4 σ H4 y z' u w' _ I4 r2 r4 q4) λd' s5 ⟨z2,H5,I5,r5,k2,e2,q5⟩=>?_));subst e2;cases r5;exact aI ⟨H5,I5,q5⟩
theorem DR:(sizeLine:Nat)<2^63:=by rw[dh];decide
theorem CD{x:V}{us:List aa}(r:Vals [x] us):∃ u,us=[u]/\RelV x u:=by
 cases r with
 |cons r1 r2=>cases r2;exact⟨_,rfl,r1⟩
theorem Mf{x y:V}{us:List aa}(r:Vals [x,y] us):∃ u w',us=[u,w']/\RelV x u/\RelV y w':=by
 cases r with
 |cons r1 r2 =>
  cases r2 with
  |cons r3 r4=>cases r4;exact⟨_,_,rfl,r1,r3⟩
theorem Yco:aN X (.builtin "abs") (λxs H Q=>∃ i,xs=[.int i]/\Q (.int (if i<0 then -i else i)) H):=by
 intro pins s σ H xs us Q I r h;obtain⟨i,rfl,q⟩:=h;obtain⟨u,rfl,t,rfl⟩:=CD r;exact call_abs_int λu tk=>⟨.int (if i<0 then -i else i),H,I.tok _,⟨_,rfl⟩,q⟩
theorem Zca(hc:X.calm=true):aN X (.builtin "max") (λxs H Q=>∃ i j,xs=[.int i,.int j]/\Q (.int (if j>i then j else i)) H):=by
 intro pins s σ H xs us Q I r h;obtain⟨i,j,rfl,q⟩:=h;obtain⟨u,w',rfl,⟨t,rfl⟩,⟨t',rfl⟩⟩:=Mf r;refine max_two_ints (I.ok.hd hc) λh' tk k=>⟨_,H,I.kept k,?_,q⟩;by_cases hj:j>i
 ·rw[if_pos hj,if_pos hj];exact⟨_,rfl⟩
 ·rw[if_neg hj,if_neg hj];exact⟨_,rfl⟩
theorem Yce(hc:X.calm=true):aN X (.builtin "min") (λxs H Q=>∃ i j,xs=[.int i,.int j]/\Q (.int (if j<i then j else i)) H):=by
 intro pins s σ H xs us Q I r h;obtain⟨i,j,rfl,q⟩:=h;obtain⟨u,w',rfl,⟨t,rfl⟩,⟨t',rfl⟩⟩:=Mf r;refine min_two_ints (I.ok.hd hc) λh' tk k=>⟨_,H,I.kept k,?_,q⟩;by_cases hj:j<i
 ·rw[if_pos hj,if_pos hj];exact⟨_,rfl⟩
 ·rw[if_neg hj,if_neg hj];exact⟨_,rfl⟩
end
structure kK (h:Heap) (x dx C:af) (mA:Str->Option aa):Prop where
 obj:h.get? x=some (xh C dx)
 ns:h.Ns1 dx mA
 ne:dx≠x
theorem zcf{h:Heap}{dx:af}{mA:Str->Option aa}(n:h.Ns1 dx mA):∃ od,h.get? dx=some od/\∀ name,wy name od=some (mA name):=by
 obtain⟨o,es,ep,ho,hd,hk,_,hm⟩:=n;refine⟨o,ho,λname=>?_⟩;have e:=hm name;unfold nsFind findBy at e;rw[<- Array.find?_toList] at e;unfold wy;rw[hd];dsimp only;split
 ·rename_i y q;rw[q] at e;exact congrArg some e
 ·rename_i q;rw[q] at e;have a:es.toList.any (·.refKey)=false:=by
   rw[List.any_eq_false];intro y hy;obtain⟨z,t,HV⟩:=hk y (Array.mem_toList_iff.mp hy);simp[fY.refKey,HV]
  have a':¬ es.toList.any (·.refKey)=true:=by rw[a];exact xj
  rw[if_neg a'];exact congrArg some e
theorem kK.look{h:Heap}{x dx C:af}{mA:Str->Option aa}(I:kK h x dx C mA):∃ od,PySem.W.InstAt h x (xh C dx) C (some od)/\∀ name,wy name od=some (mA name) :=
 let ⟨od,ho,hl⟩:=zcf I.ns
 ⟨od,⟨I.obj,rfl,rfl,ho⟩,hl⟩
section
variable {prog:aj} {w:World} {A:ay} {E:aa->ag->Prop} {s:ag} {K:PySem.W.Frag} {x dx C f:af} {mA:Str->Option aa} {name:Str} {v:aa}
theorem ycS{expr:Bool}{Q:aa->ag->Prop}(X:K.In s.heap)(I:kK s.heap x dx C mA)(hg:uj K C name=true)(hh:uk K C=true)
  (ha:xc K (.ref C) name=some none) (hv:mA name=some v) (hv':xF v=true) (h:Q v {s with toks:=s.toks+1}) :
  ai (ak prog w) A (getAttr (.ref x) name expr) Q E s:=by
 obtain⟨od,J,hl⟩:=I.look;exact PySem.W.get_value X J (ux hg).1 (PySem.W.findObj_own hh ha rfl (by rw[hl,hv])) hv' h
theorem zcj{pl:Sem Bool}{Q:aa×List aa->ag->Prop}(X:K.In s.heap)(I:kK s.heap x dx C mA)(hg:uj K C name=true)
  (hf:xc K (.ref C) name=some (some (.ref f))) (ht:Vm K (.ref f)=true) (hv:mA name=none) (h:Q (.ref f,[.ref x]) s) :
  ai (ak prog w) A (jF (.ref x) name pl) Q E s:=by
 obtain⟨od,J,hl⟩:=I.look;exact PySem.W.method_fn X J (ux hg).1 (ux hg).2 hf (beq_iff_eq.mp ht) (by show(wy name od).map (·.isSome)=some false;rw[hl,hv];rfl) h
theorem qcZ{ns:List Str}{Q:Unit->ag->Prop}(X:K.In s.heap)(I:kK s.heap x dx C mA)
  (hs:xc K (.ref C) "__setattr__"=some (some (.builtin "object.__setattr__"))) (hp:Xl K C=true) (ht:uA K C name=some none) (hh:uk K C=true)
  (hw:PySem.Within mA ns) (hsz:ns.length<=sizeLine)
  (h:∀ h',kK h' x dx C (λy=>if y=name then some v else mA y)->Heap.SameBut dx s.heap h'->Q () {s with heap:=h',toks:=s.toks+2}) :
  ai (ak prog w) A (setAttr (.ref x) name v) Q E s:=by
 obtain⟨od,J,hl⟩:=I.look;refine PySem.W.set_plain X J hs (PySem.W.osa_open (s:={s with toks:=s.toks+1}) (r:=none) X J hp ht λb=>?_);obtain⟨cd,hc,AA⟩:=PySem.W.any_some hh;have hx:s.heap.get? x=some ⟨.ref C,some dx,.plain,#[]⟩:=I.obj;refine ae (ah (ae (ae (wpAny_loadPart hx (ae (PySem.W.Looks.here (s:={s with toks:=s.toks+1}) (PySem.W.looks_clsIn X hc) ?_))))));rw[AA];refine ah (a:=some dx) (ae (ah (ae ?_)));refine wpAny_nsSet1 (s:={s with toks:=s.toks+1}) I.ns λh' Nc lK=>?_;obtain⟨oD,esD,epD,hoD,hdD,hcD⟩:=Nc.count (PySem.Within.cons name v hw);refine ae (wpAny_lookBehind hoD (by rw[hdD];exact pastItsLine_dict (vf hcD (by rw[Uc];lia))) ?_);exact ah (h _ ⟨(lK.2 _ (Ne.symm I.ne)).trans I.obj,Nc,I.ne⟩ lK)
theorem Zcq{R:gJ->ag->Prop}{vs:List aa}{kw:List (Str×aa)}(X:K.In s.heap)(hm:Uk K C=true)
  (hi:xc K (.ref C) "__init__"=some (some (.ref f))) (hf:xk K (.ref f)=some (.type "function"))
  (h:bM (ak prog w) (A.under (.builtin "type.__call__" ⟨.ref C::vs,kw⟩)) (.call (.ref f) ⟨.ref (s.heap.objs.size+1)::vs,kw⟩) (PySem.W.InitBack (s.heap.objs.size+1) R)
   {s with heap:=(s.heap.push xg).push (xh C s.heap.objs.size)}) :
  bM (ak prog w) A (.call (.ref C) ⟨vs,kw⟩) R s:=by
 obtain⟨hh,g,d,t,os⟩:=s;exact uE (vz X hm) (uC X hi) (λself=>PySem.W.bind_fn X self hf) (.inl rfl) h
theorem qb7{R:gJ->ag->Prop}(X:K.In s.heap)(hm:Uk K C=true)
  (hi:xc K (.ref C) "__init__"=some (some (.builtin "object.__init__")))
  (hb:∀ self,PySem.W.Looks (ak prog w) s.heap (bindSpecial (.builtin "object.__init__") self) (.builtin "object.__init__",[self]))
  (h:bM (ak prog w) (A.under (.builtin "type.__call__" ⟨[.ref C],[]⟩)) (.call (.builtin "object.__init__") ⟨[.ref (s.heap.objs.size+1)],[]⟩) (PySem.W.InitBack (s.heap.objs.size+1) R)
   {s with heap:=(s.heap.push xg).push (xh C s.heap.objs.size)}) :
  bM (ak prog w) A (.call (.ref C) ⟨[],[]⟩) R s:=by
 obtain⟨hh,g,d,t,os⟩:=s;exact uE (vz X hm) (uC X hi) hb (.inr ⟨rfl,rfl⟩) h
end
noncomputable def qO(f:Str)(v:V):List (Str×V)->List (Str×V)
 |[]=>[(f,v)]
 |(g,x)::r=>if g=f then(g,v)::r else(g,x)::qO f v r
theorem KZ(f g:Str)(v:V):∀ fs:List (Str×V),(qO f v fs).lookup g=if g=f then some v else fs.lookup g
 |[]=>by
  show Xt g [(f,v)]=_;by_cases h:g=f
  ·have hb:(g==f)=true:=beq_iff_eq.mpr h;simp only[Xt,hb,if_pos h]
  ·have hb:(g==f)=false:=beq_eq_false_iff_ne.mpr h;simp only[Xt,hb,if_neg h]
 |(k,x)::r=>by
  have ih:=KZ f g v r;rw[show qO f v ((k,x)::r)=(if k=f then(k,v)::r else(k,x)::qO f v r) from rfl];by_cases hk:k=f
  ·rw[if_pos hk];by_cases h:g=k
   ·have hb:(g==k)=true:=beq_iff_eq.mpr h;simp only[Xt,hb,if_pos (h.trans hk)]
   ·have hb:(g==k)=false:=beq_eq_false_iff_ne.mpr h;simp only[Xt,hb,if_neg (λe:g=f=>h (e.trans hk.symm))]
  ·rw[if_neg hk];by_cases h:g=k
   ·have hb:(g==k)=true:=beq_iff_eq.mpr h;simp only[Xt,hb,if_neg (λe:g=f=>hk (h.symm.trans e))]
   ·have hb:(g==k)=false:=beq_eq_false_iff_ne.mpr h;simp only[Xt,hb];exact ih
theorem EH(f:Str)(v:V):∀ fs:List (Str×V),f∈(qO f v fs).map (·.1)/\∀ g,g∈fs.map (·.1)->g∈(qO f v fs).map (·.1)
 |[]=>⟨by simp[qO],λg h=>by simp at h⟩
 |(k,x)::r=>by
  obtain⟨i1,i2⟩:=EH f v r;rw[show qO f v ((k,x)::r)=(if k=f then(k,v)::r else(k,x)::qO f v r) from rfl];by_cases hk:k=f
  ·rw[if_pos hk];subst hk;exact⟨by simp,λg h=>by simpa using h⟩
  ·rw[if_neg hk];refine⟨?_,λg h=>?_⟩
   ·rw[ub];exact Uf _ i1
   ·rw[ub] at h ⊢
    rcases ua.mp h with e|e
    ·exact ua.mpr (.inl e)
    ·exact Uf _ (i2 g e)
theorem KY(f:Str)(v:V):∀ fs:List (Str×V),(qO f v fs).length<=fs.length+1
 |[]=>by simp[qO]
 |(k,x)::r=>by
  have ih:=KY f v r;rw[show qO f v ((k,x)::r)=(if k=f then(k,v)::r else(k,x)::qO f v r) from rfl];by_cases hk:k=f
  ·rw[if_pos hk,Uc,Uc];lia
  ·rw[if_neg hk,Uc,Uc];lia
theorem gY.some_of{v:V}{o:Option aa}(r:gY (some v) o):∃ u,o=some u/\RelV v u:=by
 cases o with
 |none=>exact(show False from r).elim
 |some u=>exact⟨u,rfl,r⟩
theorem gY.none_of{o:Option aa}(r:gY none o):o=none:=by
 cases o with
 |none=>rfl
 |some u=>exact(show False from r).elim
theorem Zch{v:V}{u:aa}(r:RelV v u):xF u=true:=by
 cases v with
 |bG=>cases(show u=aa.none from r);rfl
 |bl b=>cases(show u=aa.bool b from r);rfl
 |int i=>obtain⟨t,e⟩:=(show ∃ t,u=aa.int i t from r);cases e;rfl
 |str x=>obtain⟨t,e⟩:=(show ∃ t,u=aa.str x t from r);cases e;rfl
 |Be b=>obtain⟨t,e⟩:=(show ∃ t,u=aa.bytes b t from r);cases e;rfl
 |oM b=>obtain⟨t,e⟩:=(show ∃ t,u=aa.float b t from r);cases e;rfl
 |ref a=>cases(show u=aa.ref a from r);rfl
 |ty n=>cases(show u=aa.type n from r);rfl
section
variable {P:aj} {w:World} {H H':Hp} {h h':Heap} {a C dx:af} {fs Ds:List (Str×V)}
theorem Cj(aU:fu P w H h)(e:H a=some (.ins C dx fs)):∃ mA,kK h a dx C mA/\(∀ f,gY (fs.lookup f) (mA f))/\PySem.Within mA (fs.map (·.1))/\fs.length<=1000/\H dx=some (.own a):=by
 obtain⟨d,z,ne,ob,mA,n,r,q⟩:=(show bg P w H h a (.ins C dx fs) from aU a _ e);exact⟨mA,⟨ob,n,ne⟩,r,q,z,d⟩
end
structure lN (K:PySem.W.Frag) (C:af):Prop where
 pg:uj K C Str.empty=true
 hd:uk K C=true
 po:Xl K C=true
 sa:xc K (.ref C) "__setattr__"=some (some (.builtin "object.__setattr__"))
theorem lN.get{K:PySem.W.Frag}{C:af}(c:lN K C)(f:Str):uj K C f=true:=c.pg
noncomputable def fP(K:PySem.W.Frag)(C:af)(f:Str):Prop:=xc K (.ref C) f=some none
theorem fP.tQ{K:PySem.W.Frag}{C:af}{f:Str}(n:fP K C f):uA K C f=some none:=by
 unfold uA;rw[show xc K (.ref C) f=some none from n];rfl
structure Meth (K:PySem.W.Frag) (C:af) (m:Str) (f:af):Prop where
 at_:xc K (.ref C) m=some (some (.ref f))
 fn:Vm K (.ref f)=true
 kp:Xe K (.ref f)=true
section
variable {X:Cx} {pins:List (af×Obj)} {σ:St} {H:Hp} {s:ag} {a C dx:af} {fs:List (Str×V)} {f:Str} {v:V} {A:ay} {E:aa->ag->Prop}
theorem ybU{b:Bool}{Q:aa->ag->Prop}(I:Inv X pins σ H s)(e:H a=some (.ins C dx fs))(c:lN X.K C)(n:fP X.K C f)(l:fs.lookup f=some v)
  (h:∀ u s',Inv X pins σ H s'->RelV v u->Q u s'):ai (ak X.prog X.w) A (getAttr (.ref a) f b) Q E s:=by
 obtain⟨mA,O,r,_,_,_⟩:=Cj I.aU e;obtain⟨u,hu,ru⟩:=gY.some_of (v:=v) (o:=mA f) (by rw[<- l];exact r f);exact ycS I.hV O (c.get f) c.hd n hu (Zch ru) (h u _ (I.tok _) ru)
theorem K1{m:Str}{g:af}{pl:Sem Bool}{Q:aa×List aa->ag->Prop}(I:Inv X pins σ H s)(e:H a=some (.ins C dx fs))(c:lN X.K C)(k:Meth X.K C m g)(l:fs.lookup m=none)
  (h:Q (.ref g,[.ref a]) s):ai (ak X.prog X.w) A (jF (.ref a) m pl) Q E s:=by
 obtain⟨mA,O,r,_,_,_⟩:=Cj I.aU e;have hn:mA m=none:=gY.none_of (by rw[<- l];exact r m);exact zcj I.hV O (c.get m) k.at_ k.fn hn h
theorem qbI{y:V}{u:aa}{Q:Unit->ag->Prop}(I:Inv X pins σ H s)(e:H a=some (.ins C dx fs))(c:lN X.K C)(n:fP X.K C f)(hl:fs.length<1000)(ry:RelV y u)
  (h:∀ s',Inv X pins σ (upd H a (.ins C dx (qO f y fs))) s'->Q () s'):ai (ak X.prog X.w) A (setAttr (.ref a) f u) Q E s:=by
 obtain⟨mA,O,r,wi,_,ho⟩:=Cj I.aU e;have hz:(fs.map (·.1)).length<=sizeLine:=by rw[wc,dh];lia
 refine qcZ I.hV O c.sa c.po n.tQ c.hd wi hz λh' O' sb=>h _ ?_;have hd:∃ o,h'.get? dx=some o:=let ⟨o,_,_,e',_⟩:=O'.ns;⟨o,e'⟩;refine I.write (x:=a) (e:=dx) (by rw[e];exact True.intro) (.inr ho) (λb q hb z=>(sb.2 b hb).trans z) hd ?_;refine⟨by rw[Zd O.ne];exact ho,?_,O.ne,O'.obj,_,O'.ns,λg=>?_,λg hg=>?_⟩
 ·have:=KY f y fs;lia
 ·show gY ((qO f y fs).lookup g) (if g=f then some u else mA g);rw[KZ];by_cases q:g=f
  ·rw[if_pos q,if_pos q];exact ry
  ·rw[if_neg q,if_neg q];exact r g
 ·by_cases q:g=f
  ·rw[q];exact(EH f y fs).1
  ·refine(EH f y fs).2 g (wi g λz=>hg ?_);show(if g=f then some u else mA g)=none;rw[if_neg q];exact z
theorem Inv.made(I:Inv X pins σ H s):Inv X pins σ (upd (upd H s.heap.objs.size (.own (s.heap.objs.size+1))) (s.heap.objs.size+1) (.ins C s.heap.objs.size []))
  {s with heap:=(s.heap.push xg).push (xh C s.heap.objs.size)}:=by
 have e1:(s.heap.push xg).get? s.heap.objs.size=some xg:=Ub s.heap rfl;have e2:((s.heap.push xg).push (xh C s.heap.objs.size)).get? (s.heap.objs.size+1)=some (xh C s.heap.objs.size):=by
  have:=Ub (s.heap.push xg) (o:=xh C s.heap.objs.size) rfl
  rwa [Xh] at this
 have e3:(s.heap.push xg).Ns s.heap.objs.size (λ_=>none):=⟨xg,#[],_,e1,rfl,(λe he=>absurd he (by simp)),λ_=>rfl⟩;have I1:=I.laid (a:=s.heap.objs.size) (o:=.own (s.heap.objs.size+1)) (h':=s.heap.push xg) (t':=s.toks) (λb u q=>wa _ q) (xb _) ⟨_,e1⟩;refine I1.laid (a:=s.heap.objs.size+1) (o:=.ins C s.heap.objs.size []) (t':=s.toks) (λb u q=>wa _ q) (uq (Xh _ _)) ?_;have ne:s.heap.objs.size≠s.heap.objs.size+1:=Xc (Uj _);refine⟨by rw[Zd ne,zf],wm _,ne,e2,λ_=>none,(Heap.Ns1.of_empty e3).at λo q=>wa _ q,λ_=>True.intro,λy hy=>absurd rfl hy⟩
theorem ZcY{prog:aj}{w:World}{env:Env}{e:Expr}{f:Str}{pos:Pos}{s:ag}{Q:aa->ag->Prop}(hb:aZ e f env (eval e env)=eval e env)
  (h:ai (ak prog w) A (eval e env) (λo s₁=>ai (ak prog w) A (getAttr o f true) Q E s₁) E s):ai (ak prog w) A (eval (.Attribute e f pos) env) Q E s :=
 Attribute_any_ h (by rw[arm_eval_Attribute,hb])
end
noncomputable def tX(K:PySem.W.Frag)(ta:TE)(f:Str):TE:=λσ H Q=>ta σ H λx H1=>∃ a C dx fs v,x=.ref a/\H1 a=some (.ins C dx fs)/\lN K C/\fP K C f/\fs.lookup f=some v/\Q v H1
noncomputable def Gw(K:PySem.W.Frag)(ta tv:TE)(f:Str):TS:=λD σ H=>tv σ H λy H1=>ta σ H1 λx H2=>∃ a C dx fs,x=.ref a/\H2 a=some (.ins C dx fs)/\lN K C/\fP K C f/\fs.length<1000 /\
 D.nx σ (upd H2 a (.ins C dx (qO f y fs)))
section
variable {X:Cx} {o e value:Expr} {f:Str} {pos pos' F7:Pos} {ta tv:TE}
theorem yda(he:PE X e ta)(hb:aZ e f X.env (eval e X.env)=eval e X.env):PE X (.Attribute e f pos) (tX X.K ta f):=by
 intro pins s σ H Q I h;refine ZcY hb (bh (he pins s σ H _ I h) λu s1 ⟨x,H1,I1,rx,a,C,dx,fs,v,ex,ea,c,n,l,q⟩=>?_);subst ex;obtain rfl:u=aa.ref a:=rx;exact ybU I1 ea c n l λu' s2 I2 ru=>⟨v,H1,I2,ru,q⟩
theorem Zdk(ha:PE X o ta)(hv:PE X value tv)(hs:bp value (some (.Attribute o f pos')) pos.line X.env=pure false):PS X (.Assign [.Attribute o f pos'] value pos) (Gw X.K ta tv f):=by
 intro pins s σ H D I h;refine plainObj_wpAny_Assign_Attribute (bh (hv pins s σ H _ I h) λu s1 ⟨y,H1,I1,ry,q⟩=>bh (ha pins s1 σ H1 _ I1 q) λov s2 ⟨x,H2,I2,rx,a,C,dx,fs,ex,ea,c,n,l,q2⟩=>?_) hs;subst ex;obtain rfl:ov=aa.ref a:=rx;exact qbI I2 ea c n l ry λs3 I3=>⟨σ,_,I3,q2⟩
end
section
variable {X:Cx} {pins:List (af×Obj)} {σ:St} {H:Hp} {s:ag} {A:ay} {E:aa->ag->Prop} {Q:aa->ag->Prop} {c:aa} {b:Bool}
inductive gG (K:PySem.W.Frag) (H:Hp):V->aa->Prop where
 |bG:gG K H .bG (.type "NoneType")
 |bl (x:Bool):gG K H (.bl x) (.type "bool")
 |int (i:Int):gG K H (.int i) (.type "int")
 |str (x:Str):gG K H (.str x) (.type "str")
 |oM (x:UInt64):gG K H (.oM x) (.type "float")
 |lst {a:af} {xs:List V} (e:H a=some (.lst xs)):gG K H (.ref a) (.type "list")
 |eZ {a:af} {o:Obj} {xs:List V} (e:H a=some (.eZ o (.lst xs))):gG K H (.ref a) (.type "list")
 |tup {a:af} {xs:List V} (e:H a=some (.tup xs)):gG K H (.ref a) (.type "tuple")
 |dK {a:af} {kvs:List (Key×V)} (e:H a=some (.dK kvs)):gG K H (.ref a) (.type "dict")
 |dT {a:af} {kvs:List (List Key×V)} (e:H a=some (.dT kvs)):gG K H (.ref a) (.type "dict")
 |ins {a C dx:af} {fs:List (Str×V)} (e:H a=some (.ins C dx fs)) (cl:lN K C) (ha:xc K (.ref C) "__class__"=some (some (.builtin "object.__class__")))
   (hn:Uu K (.builtin "object.__class__") "__get__"=some (some (.builtin "getset_descriptor.__get__"))) (M9:Ww K (.builtin "object.__class__")=some true)
   (hm:Wo K C (.type "object")=some true):gG K H (.ref a) (.ref C)
theorem ych{x:V}{u t:aa}(I:Inv X pins σ H s)(rx:RelV x u)(ty:gG X.K H x t)(e:Ug X.K t c=some b)(h:∀ tk,Q (.bool b) {s with toks:=tk}) :
  ai (ak X.prog X.w) A (call (.builtin "isinstance") [u,c]) Q E s:=by
 cases ty with
 |bG=>cases(show u=aa.none from rx);exact Vi PySem.W.kitx_none I.hV True.intro e (λz=>nomatch z) h
 |bl y=>cases(show u=aa.bool y from rx);exact Vi PySem.W.kitx_bool I.hV True.intro e (λz=>nomatch z) h
 |int i=>obtain⟨t,q⟩:=(show ∃ t,u=aa.int i t from rx);cases q;exact Vi PySem.W.kitx_int I.hV True.intro e (λz=>nomatch z) h
 |str y=>obtain⟨t,q⟩:=(show ∃ t,u=aa.str y t from rx);cases q;exact Vi PySem.W.kitx_str I.hV True.intro e (λz=>nomatch z) h
 |oM y=>obtain⟨t,q⟩:=(show ∃ t,u=aa.float y t from rx);cases q;exact Vi PySem.W.kitx_float I.hV True.intro e (λz=>nomatch z) h
 |@lst a xs ea =>
  cases(show u=aa.ref a from rx);obtain⟨_,_,n,_,h1⟩:=(show bg X.prog X.w H s.heap a (.lst xs) from I.aU a _ ea);exact Vi UE I.hV ⟨_,h1,rfl⟩ e (λz=>nomatch z) h
 |@eZ a ob xs ea =>
  cases(show u=aa.ref a from rx);obtain⟨_,_,_,n,_,h1⟩:=(show bg X.prog X.w H s.heap a (.eZ ob (.lst xs)) from I.aU a _ ea);exact Vi UE I.hV ⟨_,h1,rfl⟩ e (λz=>nomatch z) h
 |@tup a xs ea =>
  cases(show u=aa.ref a from rx);obtain⟨_,_,_,p⟩:=(show bg X.prog X.w H s.heap a (.tup xs) from I.aU a _ ea);obtain⟨o,h1,h2,_⟩:=p;exact Vi PySem.W.kitx_tuple I.hV ⟨o,h1,h2⟩ e (λz=>nomatch z) h
 |@dK a kvs ea =>
  cases(show u=aa.ref a from rx);obtain⟨_,_,vs,_,p⟩:=(show bg X.prog X.w H s.heap a (.dK kvs) from I.aU a _ ea);obtain⟨o,es,ep,h1,h2,_⟩:=p;exact Vi vE I.hV ⟨o,h1,h2.1⟩ e (λz=>nomatch z) h
 |@dT a kvs ea =>
  cases(show u=aa.ref a from rx);obtain⟨_,_,xs,_,o,es,ep,h1,h2,_⟩:=(show bg X.prog X.w H s.heap a (.dT kvs) from I.aU a _ ea);exact Vi vE I.hV ⟨o,h1,h2.1⟩ e (λz=>nomatch z) h
 |@ins a C dx fs ea cl ha hn M9 hm =>
  cases(show u=aa.ref a from rx);obtain⟨mA,O,_⟩:=Cj I.aU ea;obtain⟨od,J,_⟩:=O.look;exact Vi (PySem.W.kitx_own (cl.get _) cl.hd ha hn M9 hm) I.hV J e (λz=>nomatch z) h
end
structure dy (k:Nat) (A:ay):Prop where
 hd:A.handled=none
 dp:A.depth+3*k+5<bT
 un:A.units+16*k+200<c7
theorem dy.mono{j k:Nat}{A:ay}(r:dy k A)(h:j<=k):dy j A:=⟨r.hd,by have:=r.dp;lia,by have:=r.un;lia⟩
theorem dy.deeper{k:Nat}{A:ay}(r:dy (k+1) A)(env:Env):dy k (A.deeper env) :=
 ⟨r.hd,by have:=r.dp;show A.depth+1+3*k+5<_;lia,by have:=r.un;show A.units+3+16*k+200<_;lia⟩
theorem YbO{A:ay}{C:af}{us:List aa}{kw:List (Str×aa)}:(A.under (.builtin "type.__call__" ⟨.ref C::us,kw⟩)).depth=A.depth+1:=by
 first|rfl|simp[ay.under,jf.weight,jf.isCreation,jf.isGuard,jf.isCaller,jf.frames,jf.isFrame,guardIds]
theorem QbJ{A:ay}{C:af}{us:List aa}{kw:List (Str×aa)}:(A.under (.builtin "type.__call__" ⟨.ref C::us,kw⟩)).units=A.units+1:=by
 first|rfl|simp[ay.under,jf.cUnits,jf.frames,jf.isFrame]
theorem dy.make{k:Nat}{A:ay}(r:dy (k+1) A)(C:af)(us:List aa)(kw:List (Str×aa)):dy k (A.under (.builtin "type.__call__" ⟨.ref C::us,kw⟩)) :=
 ⟨r.hd,by have:=r.dp;rw[YbO];lia,by have:=r.un;rw[QbJ];lia⟩
theorem dy.depth{k:Nat}{A:ay}(r:dy k A):A.depth<bT:=by have:=r.dp;lia
noncomputable def tV:TA:=λ_ H Q=>Q [] H
noncomputable def t8(ta:TE)(tr:TA):TA:=λσ H Q=>ta σ H λx H1=>tr σ H1 λxs H2=>Q (x::xs) H2
section
variable {X:Cx} {e:Expr} {es:List Expr} {te:TE} {t:TA} {pos:Pos}
theorem vJ:PA X [] tV:=λ_ _ _ _ H Q I h=>Calls.spliced_nil ⟨[],H,I,.nil,h⟩
theorem sR(ha:PE X e te)(hr:PA X es t)(hs:au (e::es) X.env=(false,eval e X.env)::au es X.env:=by rfl):PA X (e::es) (t8 te t):=by
 intro pos pins s σ H Q I h;rw[hs];show ai _ _ (spliced ((false,eval e X.env)::bj pos (au es X.env))) _ _ s;refine Calls.spliced_cons (bh (ha pins s σ H _ I h) λu s1 ⟨x,H1,I1,r1,q1⟩=>?_);exact bh (hr pos pins s1 σ H1 _ I1 q1) λus s2 ⟨xs,H2,I2,r2,q2⟩=>⟨x::xs,H2,I2,.cons r1 r2,q2⟩
noncomputable def Ga(t:TA):TE:=λσ H Q=>t σ H λxs H1=>xs.length<=sizeLine/\∀ p,H1 p=none->Q (.ref p) (upd H1 p (.tup xs))
noncomputable def Gh(t:TA):TE:=λσ H Q=>t σ H λxs H1=>xs.length<=sizeLine/\∀ p,H1 p=none->Q (.ref p) (upd H1 p (.lst xs))
theorem zdn{x1}(h:PA X es t):PE X (.Tuple es x1 pos) (Ga t):=by
 intro pins s σ H Q I hq;refine wpAny_Tuple_spliced (bh (h pos pins s σ H _ I hq) λus s1 ⟨xs,H1,I1,r,z,q⟩=>⟨by rw[<- r.length];exact z,?_⟩);have hf:H1 s1.heap.objs.size=none:=I1.aU.fresh (xb _);refine⟨.ref s1.heap.objs.size,upd H1 s1.heap.objs.size (.tup xs),I1.laid (t':=s1.toks) (λb u e=>wa _ e) (xb _) ?_,rfl,q _ hf⟩;exact⟨z,us,r,⟨_,Ub _ rfl,rfl,_,rfl⟩⟩
theorem Qdc(h:PA X es t):PE X (.List es pos) (Gh t):=by
 intro pins s σ H Q I hq;refine wpAny_List_spliced (bh (h pos pins s σ H _ I hq) λus s1 ⟨xs,H1,I1,r,z,q⟩=>⟨by rw[<- r.length];exact z,?_⟩);have hf:H1 s1.heap.objs.size=none:=I1.aU.fresh (xb _);refine⟨.ref s1.heap.objs.size,upd H1 s1.heap.objs.size (.lst xs),I1.laid (t':=s1.toks) (λb u e=>wa _ e) (xb _) ?_,rfl,q _ hf⟩;exact⟨z,us,0,r,Ub _ rfl⟩
end
noncomputable abbrev Sp:=List V->Hp->VK->XK->Prop
noncomputable abbrev ly:=List Env->Hp->ag->XK->aa->ag->Prop
structure ki (P:aj) (w:World) (K:PySem.W.Frag) (mg:Str->Option aa) (base:Heap) (A:ay) (outer:List Env) (s:ag) (H:Hp):Prop where
 frames:A.frames=some outer
 mod:Mod K mg base
 bs:∀ b o,base.get? b=some o->s.heap.get? b=some o/\H b=none
 rD:base.objs.size<=s.heap.objs.size
 i4:s.heap.FunFrames base outer
 AK:∀ b∈lL outer,H b=none
 aU:fu P w H s.heap
 bare:dI s.gens
noncomputable def CE(outer:List Env)(P:aj)(w:World)(H:Hp)(s:ag)(Q:VK)(u:aa)(s':ag):Prop :=
 ∃ v H',s'.os=s.os/\dI s'.gens/\Un (lL outer) [] H H' s.heap s'.heap/\fu P w H' s'.heap/\RelV v u/\Q v H'
noncomputable def CR(CX:ly)(outer:List Env)(P:aj)(w:World)(H:Hp)(s:ag)(Q:VK)(E:XK)(r:gJ)(s':ag):Prop :=
 match r with
 |.ok (.ret u)=>CE outer P w H s Q u s'
 |.ok _=>False
 |.error e=>CX outer H s E e s'
structure fH (P:aj) (w:World) (K:PySem.W.Frag) (mg:Str->Option aa) (base:Heap) (CX:ly) (k:Nat) (f:af) (fd:bw) (ps:List Str) (sp:Sp):Prop where
 len:∀ vs H Q E,sp vs H Q E->vs.length=ps.length
 run:∀(A:ay)(outer:List Env)(s:ag)(H:Hp)(args:Args) (us:List aa) (vs:List V) (Q:VK) (E:XK),dy k A->ki P w K mg base A outer s H->hU s fd args (ps.zip us)->Vals vs us->sp vs H Q E ->
  bM (ak P w) A (.call (.ref f) args) (CR CX outer P w H s Q E) s
theorem fH.imp{P:aj}{w:World}{K:PySem.W.Frag}{mg:Str->Option aa}{base:Heap}{CX:ly}{k:Nat}{f:af}{fd:bw}{ps:List Str}{sp LU:Sp}(F:fH P w K mg base CX k f fd ps sp)
  (h:∀ vs H Q E,LU vs H Q E->sp vs H Q E):fH P w K mg base CX k f fd ps LU :=
 ⟨λvs H Q E q=>F.len vs H Q E (h _ _ _ _ q),λA outer s H args us vs Q E hr he hb hv hs=>F.run A outer s H args us vs Q E hr he hb hv (h _ _ _ _ hs)⟩
theorem ki.make{P:aj}{w:World}{K:PySem.W.Frag}{mg:Str->Option aa}{base:Heap}{A:ay}{outer:List Env}{s:ag}{H:Hp}(e:ki P w K mg base A outer s H)(C:af)(us:List aa)(kw:List (Str×aa)) :
  ki P w K mg base (A.under (.builtin "type.__call__" ⟨.ref C::us,kw⟩)) outer s H:=⟨by first|exact e.frames|(simpa[ay.under,jf.envs,jf.isFrame,pushEnvs] using e.frames),e.mod,e.bs,e.rD,e.i4,e.AK,e.aU,e.bare⟩
section
variable {X:Cx} {pins:List (af×Obj)} {σ:St} {H:Hp} {s s':ag}
theorem Inv.AO(I:Inv X pins σ H s):ki X.prog X.w X.K X.mg X.base X.A X.stack s H :=
 ⟨I.ok.frames,I.ok.mod,I.bs,vf I.ok.rD I.sz,I.stack,I.jH,I.aU,I.bare⟩
theorem Inv.after{Q:VK}{u:aa}(I:Inv X pins σ H s)(h:CE X.stack X.prog X.w H s Q u s'):EP X pins σ Q u s':=by
 obtain⟨v,H',os,bare,un,aU,r,q⟩:=h;obtain⟨hh,g,d,t,os'⟩:=s';obtain rfl:os'=s.os:=os;exact⟨v,H',I.call (h':=hh) (g':=g) (d':=d) (t':=t) (ch:=[]) un aU bare (λb z=>absurd z (by simp)),r,q⟩
end
noncomputable def Binds(K:PySem.W.Frag)(fd:bw)(ps:List Str)(ds:List aa):Prop :=
 ∀(s:ag)(us:List aa),K.In s.heap->(us++ds).length=ps.length->hU s fd ⟨us,[]⟩ (ps.zip (us++ds))
theorem Binds.all{K:PySem.W.Frag}{fd:bw}{ps:List Str}(h:∀ us:List aa,us.length=ps.length->bindArgs fd ⟨us,[]⟩=pure (ps.zip us)):Binds K fd ps []:=λs us _ hl=>by
 rw[Xr] at hl ⊢;exact .of_eq (h us hl)
noncomputable def Zdg(CX:ly)(X:Cx)(E:XK):Prop:=∀(pins:List (af×Obj)) (σ:St) (H:Hp) (s:ag) (e:aa) (s':ag),Inv X pins σ H s->CX X.stack H s E e s'->X.xe e s'
section
variable {X:Cx} {CX:ly} {k:Nat} {f C:af} {fd:bw} {ps:List Str} {sp:Sp} {dvs:List V} {ds:List aa} {E:XK} {x m:Str} {p pos apos:Pos} {e o:Expr} {es:List Expr} {ta:TE} {t:TA}
structure Mk (K:PySem.W.Frag) (C f:af):Prop where
 makes:Uk K C=true
 init:xc K (.ref C) "__init__"=some (some (.ref f))
 fn:Vm K (.ref f)=true
 kp:Xe K (.ref C)=true
end
structure hJ (N P:List Str) (sc:aA):Prop where
 kind:sc.kind=.function
 co:sc.isCoroutine=false
 gen:sc.isGenerator=false
 nd:N.Nodup
 pre:N.take P.length=P
 par:∀ x∈P,sc.names.lookup x=some .local\/sc.names.lookup x=some .cell
 pH:∀ y∈sc.names,y.2≠.free
theorem Lg{kindOf:Str->Option az}{x:Str}:∀{binds:List (Str×aa)} {m:Str->Option aa},(∀ v,(x,v)∉binds)->ja kindOf binds m x=m x
 |[],_,_=>rfl
 |(n,v)::r,m,h=>by
  unfold ja;rw[Lg λw hw=>h w (Uf _ hw)];split
  ·have:x≠n:=by rintro rfl;exact h v Wh
   simp[this]
  ·rfl
theorem K0{kindOf:Str->Option az}{x:Str}:∀{binds:List (Str×aa)} {m:Str->Option aa},(∀ v,(x,v)∉binds)->jb kindOf binds m x=m x
 |[],_,_=>rfl
 |(n,v)::r,m,h=>by
  unfold jb;rw[K0 λw hw=>h w (Uf _ hw)];split
  ·rfl
  ·have:x≠n:=by rintro rfl;exact h v Wh
   simp[this]
theorem ON{kindOf:Str->Option az}{x:Str}{v:aa}:∀{P:List Str}{vs:List aa}{i:Nat}{m:Str->Option aa},P.Nodup->P[i]?=some x->vs[i]?=some v->kindOf x=some .local ->
  ja kindOf (P.zip vs) m x=some v
 |[],_,_,_,_,h,_,_=>by simp at h
 |_::_,[],_,_,_,_,h,_=>by simp at h
 |p::P,w::vs,0,m,nd,h1,h2,hk=>by
  simp at h1 h2;subst h1;subst h2;show ja kindOf ((p,w)::P.zip vs) m p=_;unfold ja;rw[Lg λv hv=>(Ul.mp nd).1 (UA hv).1,if_pos hk];simp
 |p::P,w::vs,i+1,m,nd,h1,h2,hk=>by
  show ja kindOf ((p,w)::P.zip vs) m x=_;unfold ja;exact ON (i:=i) (Ul.mp nd).2 (by simpa using h1) (by simpa using h2) hk
theorem KA{kindOf:Str->Option az}{x:Str}{v:aa}:∀{P:List Str}{vs:List aa}{i:Nat}{m:Str->Option aa},P.Nodup->P[i]?=some x->vs[i]?=some v->kindOf x≠some .local ->
  jb kindOf (P.zip vs) m x=some v
 |[],_,_,_,_,h,_,_=>by simp at h
 |_::_,[],_,_,_,_,h,_=>by simp at h
 |p::P,w::vs,0,m,nd,h1,h2,hk=>by
  simp at h1 h2;subst h1;subst h2;show jb kindOf ((p,w)::P.zip vs) m p=_;unfold jb;rw[K0 λv hv=>(Ul.mp nd).1 (UA hv).1,if_neg hk];simp
 |p::P,w::vs,i+1,m,nd,h1,h2,hk=>by
  show jb kindOf ((p,w)::P.zip vs) m x=_;unfold jb;exact KA (i:=i) (Ul.mp nd).2 (by simpa using h1) (by simpa using h2) hk
noncomputable def start(N:List Str)(vs:List V):St:=vs.map some++Vc (N.length-vs.length) none
noncomputable def lQ(CX:ly)(P:aj)(w:World)(K:PySem.W.Frag)(mg:Str->Option aa)(base:Heap)(N:List Str)(qual:Str)(scope:aA)(f:af)(cd:aa)(A:ay)(outer:List Env)(s:ag)(H:Hp)(E:XK):Cx where
 prog:=P
 w:=w
 K:=K
 mg:=mg
 base:=base
 A:=A.deeper (eK qual scope s.heap.objs.size f cd)
 N:=N
 s₀:=s
 H₀:=H
 env:=eK qual scope s.heap.objs.size f cd
 outer:=outer
 stack:=eK qual scope s.heap.objs.size f cd::outer
 ex:=[]
 calm:=true
 fn:=λ_=>true
 pn:=[]
 xe:=λe s'=>ai (ak P w) (A.deeper (eK qual scope s.heap.objs.size f cd)) (leaving (eK qual scope s.heap.objs.size f cd) e) (λ_ uU=>CX outer H s E e uU) (λe' uU=>CX outer H s E e' uU) s'
theorem Kx{sc:aA}{n:Nat}{x:Str}(h:sc.names.lookup x=some .cell):∃ c,(aH n sc.names []).lookup x=some c:=by
 have q:=wB sc.names n [] (.inl h);exact wn.mp q
theorem ycd{CX:ly}{P:aj}{w:World}{K:PySem.W.Frag}{mg:Str->Option aa}{base:Heap}{N ps:List Str}{qual:Str}{scope:aA}{f:af}{cd:aa}{A:ay}{outer:List Env}{s s1:ag}{H:Hp}{E:XK}{us:List aa}{vs:List V}
  (S:hJ N ps scope) (hd:A.handled=none) (e0:ki P w K mg base A outer s H) (hl:vs.length=ps.length) (r:Vals vs us)
  (x:InCallC s s.heap.objs.size (ja (eK qual scope s.heap.objs.size f cd).kindOf (ps.zip us) λ_=>none) (aH (s.heap.objs.size+1) scope.names []) (jb (eK qual scope s.heap.objs.size f cd).kindOf (ps.zip us) λ_=>none) s1) :
  Inv (lQ CX P w K mg base N qual scope f cd A outer s H E) [] (start N vs) H s1:=by
 have cF:ps.length<=N.length:=by have:=congrArg WB S.pre;rw[Uq] at this;lia
 obtain⟨h1,tk,rfl,hk⟩:=x.done;have wV:∀ b:af,b∉(lQ CX P w K mg base N qual scope f cd A outer s H E).ex:=λb z=>absurd (show b∈([]:List af) from z) (by simp);refine⟨⟨e0.mod,S.kind,rfl,rfl,xb _,λy z c h1 h2=>?_,λy hy=>?_,λy c _ h=>?_,λ_=>hd,ay.frames_deeper e0.frames,.inr ⟨rfl,rfl⟩,λb z=>absurd z (wV b),e0.bs,e0.rD,λb _ _=>wV b,λb z=>absurd z (wV b),e0.i4,e0.AK⟩,
  rfl,e0.bare,Un.kept hk,⟨_,x.toInCall.ns,λi y v h1 h2 h3=>?_⟩,λy c h=>⟨_,x.cell y c h⟩,e0.aU.fresh (xb _),λy c h=>?_,λp hp=>absurd (show p∈([]:List (af×Obj)) from hp) (by simp),e0.aU.kept hk,?_⟩
 ·exact name_of_addr x.apart (PySem.mem_of_lookup h1) (PySem.mem_of_lookup h2)
 ·have hy:scope.names.lookup y=some .cell\/scope.names.lookup y=some .free:=hy
  rcases hy with hy|hy
  ·exact Kx hy
  ·exact absurd rfl (S.pH _ (PySem.mem_of_lookup hy))
 ·exact ww (x.above y c (PySem.mem_of_lookup h))
 ·have hi:i<vs.length:=by
   unfold start at h2;by_cases hi:i<vs.length
   ·exact hi
   ·rw[we (by simpa using hi)] at h2;rw[Xo] at h2;split at h2 <;> cases h2
  have ha:vs[i]?=some v:=by
   unfold start at h2;rw[Ua (by simpa using hi),Xb] at h2;cases e:vs[i]? with
   |none=>rw[e] at h2;cases h2
   |some a=>rw[e] at h2;cases h2;rfl
  obtain⟨u,hu,rv⟩:=r.get ha;have hp:ps[i]?=some y:=by
   rw[<- S.pre,Wn (by lia)];exact h1
  have MR:ps.Nodup:=by rw[<- S.pre];exact S.nd.sublist (List.take_sublist _ _)
  refine⟨u,rv,?_⟩
  rcases S.par y (wf hp) with k|k
  ·exact .inl ⟨k,ON MR hp hu k⟩
  ·obtain⟨c,e⟩:=Kx (n:=s.heap.objs.size+1) k;refine .inr ⟨.inl k,c,e,?_⟩;have q:=x.cell y c e;rw[KA MR hp hu (by show scope.names.lookup y≠_;rw[k];decide)] at q;exact q
 ·exact e0.aU.fresh (ww (x.above y c (PySem.mem_of_lookup h)))
 ·unfold start;show _=N.length;rw[Xg,wc,Vp]
  lia
theorem DV{CX:ly}{P:aj}{w:World}{K:PySem.W.Frag}{mg:Str->Option aa}{base:Heap}{k:Nat}{f:af}{name qual:Str}{params:jG}{body:List Stmt}{scope:aA}{dV kV doc pm dM ct oc:aa}{an od:Option af}
  {ju:Array (Option aa)} {N ps:List Str} {sp:Sp} (lk:K.lookup f=some ⟨oc,od,.func (Xf name qual params body scope dV kV doc pm an dM ct),ju⟩) (jy:vg K dM qual=true) (S:hJ N ps scope)
  (len:∀ vs H Q E,sp vs H Q E->vs.length=ps.length)
  (j':∀(A:ay)(outer:List Env)(s:ag)(H:Hp)(vs:List V) (Q:VK) (E:XK),dy k (A.deeper (eK qual scope s.heap.objs.size f dM))->sp vs H Q E ->
   ∃ t,gZ (lQ CX P w K mg base N qual scope f dM A outer s H E) body t/\t {nx:=λ_ H'=>Q .bG H',rt:=Q} (start N vs) H) :
  fH P w K mg base CX (k+1) f (Xf name qual params body scope dV kV doc pm an dM ct) ps sp:=by
 refine⟨len,λA outer s H args us vs Q E hr e0 hb r ko=>?_⟩;have hl:=len _ _ _ _ ko;have KX:K.In s.heap:=e0.mod.xJ.keeps λb o e=>(e0.bs b o e).1;have lim:s.heap.NoLimit:=e0.mod.nolimit.keeps λb o e=>(e0.bs b o e).1;have As:∀ y∈ps.zip us,scope.names.lookup y.1=some .local\/(scope.names.lookup y.1=some .cell/\((aH (s.heap.objs.size+1) scope.names []).lookup y.1).isSome=true):=λ⟨n,v⟩ hy=>by
  rcases S.par n (UA hy).1 with q|q
  ·exact .inl q
  ·exact .inr ⟨q,wB _ _ _ (.inl q)⟩
 refine codeAny_call_function hr.depth (KX _ _ lk) rfl S.co S.gen rfl (PySem.W.codeRec_of KX jy) (hb _ _ _ _ ?_);refine wpAny_newFunctionEnv_cells S.kind As λenv he s1 x=>?_;subst he;refine⟨lim.keeps x.toInCall.keep,codeAny_func ?_⟩;obtain⟨t,ht,hq⟩:=j' A outer s H vs Q E (hr.deeper _) ko;have I:Inv (lQ CX P w K mg base N qual scope f dM A outer s H E) [] (start N vs) H s1:=ycd S hr.hd e0 hl r x;refine aW (ht [] s1 (start N vs) H _ I hq) (λfl s' hs=>?_) λe s' hs=>hs;have fin:∀{σ':St}{H':Hp}{v:V}{u:aa},Inv (lQ CX P w K mg base N qual scope f dM A outer s H E) [] σ' H' s'->RelV v u->Q v H'->CE outer P w H s Q u s' :=
  λ{σ' H' v u} J rv q=>⟨v,H',J.os,J.bare,J.base,J.aU,rv,q⟩
 cases fl with
 |ret u =>
  obtain⟨v,σ',H',J,rv,q⟩:=hs;exact fin J rv q
 |next =>
  obtain⟨σ',H',J,q⟩:=hs;exact fin (v:=V.bG) (u:=aa.none) J rfl q
 |brk =>
  obtain⟨_,_,_,q⟩:=hs;exact False.elim q
 |cont =>
  obtain⟨_,_,_,q⟩:=hs;exact False.elim q
section
variable {X:Cx} {x:Str} {p pos:Pos} {e:Expr} {es:List Expr} {t:TA} {id T:String} {r:List V->Hp->VK->Prop}
noncomputable def LM(r:List V->Hp->VK->Prop)(t:TA):TE:=λσ H Q=>t σ H λvs H1=>r vs H1 Q
theorem G7(hc:aN X (.builtin id) r)(hg:Gl X x)(hm:X.mg x=none)(hv:bE x=some (.builtin id))(ha:PA X (e::es) t)(hn:x≠"__name__":=by decide)(ku:(x==("__debug__":Str))=false:=by decide)
  (he:au (e::es) X.env=(false,eval e X.env)::au es X.env:=by rfl) (cF:(bj pos (au es X.env)).any (·.1)=false:=by rfl):PE X (.Call (.Name x p) (e::es) [] pos) (LM r t):=by
 intro pins s σ H Q I h;refine aX (oW I hg hm hv ?_ hn ku);exact PyProof.Rows.callWith_builtin1 (bh (ha pos pins s σ H _ I h) λus s1 ⟨vs,H1,I1,r1,q1⟩=>hc pins s1 σ H1 vs us Q I1 r1 q1) he cF
theorem JS(hc:aN X (.type T) r)(hg:Gl X x)(hm:X.mg x=none)(hv:bE x=some (.type T))(ha:PA X (e::es) t)(hn:x≠"__name__":=by decide)(ku:(x==("__debug__":Str))=false:=by decide)
  (he:au (e::es) X.env=(false,eval e X.env)::au es X.env:=by rfl) (cF:(bj pos (au es X.env)).any (·.1)=false:=by rfl):PE X (.Call (.Name x p) (e::es) [] pos) (LM r t):=by
 intro pins s σ H Q I h;refine aX (oW I hg hm hv ?_ hn ku);exact PyProof.Rows.callWith_type1 (bh (ha pos pins s σ H _ I h) λus s1 ⟨vs,H1,I1,r1,q1⟩=>hc pins s1 σ H1 vs us Q I1 r1 q1) he cF
end
end L2
namespace HT
open PySem PyProof.Rows
theorem mq(A:ay)(s:ag)(a:Int)(t:Tok)(c:Int)(u:Tok)(prog:aj)(w:World)(E:aa->ag->Prop)(Q:aa->ag->Prop)(h:Q (.bool (decide (a<c))) s) :
  ai (ak prog w) A (richCompare .Lt (.int a t) (.int c u)) Q E s :=
 (PyProof.Rows.lt_int h:ai (ak prog w) A (aP .Lt (.int a t) (.int c u)) Q E s)
section
variable {prog:aj} {w:World} {A:ay} {E:aa->ag->Prop} {s:ag}
theorem oa{t b:af}{vs ws:List aa}{Q:aa->ag->Prop}(ht:fQ s.heap t vs.toArray)(hb:fQ s.heap b ws.toArray)(hv:vs≠[])
  (h1:ws=[]->Q (.ref t) s) (h2:ws≠[]->Q (.ref s.heap.objs.size) {s with heap:=s.heap.push {cls:=.type "tuple",data:=.seq (vs++ws).toArray}})
  (hsz:vs.length+ws.length<=sizeLine):ai (ak prog w) A (ba .Add (.ref t) (.ref b)) Q E s:=by
 obtain⟨⟨cls,dd,data,sl⟩,ho,hc,n,hd⟩:=id ht;obtain⟨⟨cls2,NB,data2,LV⟩,Dh,sf,n2,hd2⟩:=id hb;simp only at hc hd sf hd2;subst hc hd sf hd2;have e:vs.toArray++ws.toArray=(vs++ws).toArray:=by simp
 by_cases hw:ws=[]
 ·exact concat_meets ⟨_,ho,rfl⟩ ⟨_,Dh,rfl⟩ ic jr PySem.F.slot_tuple_add PySem.F.entry_tuple_add (PySem.F.args_tuple_add_2 _ _)
   (tuple_addW1 t b vs.toArray ws.toArray n n2 dd NB sl LV (by simpa using hv) (by simp[hw])) ⟨ho,Dh,h1 hw⟩
 ·refine concat_meets ⟨_,ho,rfl⟩ ⟨_,Dh,rfl⟩ ic jr PySem.F.slot_tuple_add PySem.F.entry_tuple_add (PySem.F.args_tuple_add_2 _ _)
   (tuple_addW2 t b vs.toArray ws.toArray n n2 dd NB sl LV (by simpa using hv) (by simpa using hw) (by rw[Wb,Wb];exact hsz)) ⟨ho,Dh,?_⟩
  rw[e];exact h2 hw
noncomputable def cx(n d:Nat):Option Int->Nat
 |none=>d
 |some v=>if v<0 then(v+(n:Int)).toNat else min v.toNat n
theorem ydo(n d:Nat)(hd:d<=n)(o:Option Int):cx n d o<=n:=by
 cases o with
 |none=>exact hd
 |some v =>
  show(if v<0 then(v+(n:Int)).toNat else min v.toNat n)<=n;by_cases hv:v<0
  ·rw[if_pos hv];lia
  ·rw[if_neg hv];exact Nat.min_le_right _ _
theorem Lj(v:Int)(n d:Nat):(if v<0 then max (v+(n:Int)) 0 else min v (n:Int))=((cx n d (some v):Nat):Int):=by
 show(if v<0 then max (v+(n:Int)) 0 else min v (n:Int))=(((if v<0 then(v+(n:Int)).toNat else min v.toNat n):Nat):Int);by_cases hv:v<0
 ·simp only[if_pos hv];lia
 ·simp only[if_neg hv];lia
theorem YbJ(lo hi:Option Int)(n:Nat):aq.Slice.sliceAdjust lo hi 1 (n:Int)=(((cx n 0 lo:Nat):Int),((cx n n hi:Nat):Int)):=by
 have h1:¬((1:Int)<0):=by lia
 unfold aq.Slice.sliceAdjust;simp only[h1,if_false];refine Wy ?_ ?_
 ·cases lo with
  |none=>rfl
  |some v=>exact Lj v n 0
 ·cases hi with
  |none=>rfl
  |some v=>exact Lj v n n
theorem ZbU(i j:Nat):aq.Slice.slicePlaces (i:Int) (j:Int) 1=j-i:=by
 unfold aq.Slice.slicePlaces;have h1:(1:Int)>0:=by lia
 simp only[h1,if_true,Int.ediv_one];split <;> lia
theorem OJ{v:aa}{o:Option Int}{Q:Option Int->ag->Prop}(p:fj v o)(h:Q o s):ai (ak prog w) A (aq.Slice.slicePartIndex v) Q E s:=by
 cases p with
 |none=>exact iU h
 |int i t=>exact slicePart_int h
theorem zR{sl:af}{vl vu:aa}{lo hi:Option Int}{n:Nat}{Q:Int×Int×Nat->ag->Prop}(hs:s.heap.IsSliceOf sl vl vu .none)(pl:fj vl lo)(pu:fj vu hi)
  (h:Q (((cx n 0 lo:Nat):Int),1,cx n n hi-cx n 0 lo) s):ai (ak prog w) A (aq.Slice.sliceApplied (.ref sl) (pure (n:Int))) Q E s:=by
 obtain⟨os,pS,nU,Az⟩:=id hs;unfold aq.Slice.sliceApplied aq.Slice.sliceFields;refine ae (ae (aK pS Az (x:=vl) rfl (ae (aK pS Az (x:=vu) rfl (ae (aK pS Az (x:=.none) rfl (ah ?_)))))));refine ae (iU ?_);show ai _ _ (if((1:Int)==0)=true then _ else _) _ _ s;rw[if_neg (by decide)];refine ae (OJ pl (ae (OJ pu (ae (ah ?_)))));show ai _ _ (match aq.Slice.sliceAdjust lo hi 1 (n:Int) with|(lo,hi)=>pure (lo,(1:Int),aq.Slice.slicePlaces lo hi 1)) _ _ s;rw[YbJ lo hi n];show ai _ _ (pure (((cx n 0 lo:Nat):Int),(1:Int),aq.Slice.slicePlaces ((cx n 0 lo:Nat):Int) ((cx n n hi:Nat):Int) 1)) _ _ s;rw[ZbU];exact ah h
theorem ycD(xs:Array aa)(i k:Nat):((ud k).filterMap λ(m:Nat)=>xs[((i:Int)+(m:Int)*1).toNat]?).toArray=((xs.toList.drop i).take k).toArray:=by
 have e:(λ(m:Nat)=>xs[((i:Int)+(m:Int)*1).toNat]?)=λm=>xs[i+m]?:=by
  funext m;have:((i:Int)+(m:Int)*1).toNat=i+m:=by lia
  rw[this]
 rw[e];have:=pick_run xs i k;rw[List.filterMap_map] at this;have e2:((λx=>xs[x]?)∘λx=>i+x)=λm=>xs[i+m]?:=rfl;rw[e2] at this;rw[this]
theorem gU{t sl:af}{items:Array aa}{vl vu:aa}{lo hi:Option Int}{Q:aa->ag->Prop}(ht:fQ s.heap t items)(hs:s.heap.IsSliceOf sl vl vu .none)(pl:fj vl lo)(pu:fj vu hi)
  (hw:¬(cx items.size 0 lo=0/\cx items.size items.size hi=items.size))
  (h:Q (.ref s.heap.objs.size) {s with heap:=s.heap.push {cls:=.type "tuple",data:=.seq ((items.toList.drop (cx items.size 0 lo)).take (cx items.size items.size hi-cx items.size 0 lo)).toArray}})
  (hsz:items.size<=sizeLine):ai (ak prog w) A (getItem (.ref t) (.ref sl)) Q E s:=by
 have kY:sizeOk (.seq ((items.toList.drop (cx items.size 0 lo)).take (cx items.size items.size hi-cx items.size 0 lo)).toArray):=by
  show((items.toList.drop (cx items.size 0 lo)).take (cx items.size items.size hi-cx items.size 0 lo)).toArray.size<=sizeLine;rw[Wb,Uq,Vz,Vl]
  lia
 have hj:cx items.size items.size hi<=items.size:=ydo _ _ (xb _) hi;obtain⟨os,pS,nU,Az⟩:=id hs;have Ir:s.TypeIs (.ref sl) "slice":=⟨os,pS,nU⟩;unfold getItem
 try with_reducible refine aO ?_
 first|refine ae (ah ?_)|skip
 refine ae (gK ht.typeIs (by decide) ?_);refine ae (aY (name:=Str.ofString "__getitem__") ht.typeIs PyProof.Rows.slot_tuple_getitem
  (bo PyProof.Rows.slot_tuple_getitem ht.typeIs entry_tuple_getitem ?_ (gF _ _)))
 show ai _ _ (aq.Tuple.tupleItemsOf (.ref t) >>= _) _ _ s;refine ae (jn ht ?_);refine ae (cO Ir ?_);rw[if_pos (by decide)];refine ae (zR hs pl pu ?_);have hno:¬((((cx items.size 0 lo:Nat):Int)==0&&(1:Int)==1&&(cx items.size items.size hi-cx items.size 0 lo)==items.size)=true):=by
  intro q;rw[Wa,Wa] at q;have q1:((cx items.size 0 lo:Nat):Int)=0:=eq_of_beq q.1.1;have q2:cx items.size items.size hi-cx items.size 0 lo=items.size:=eq_of_beq q.2;exact hw ⟨by lia,by lia⟩
 show ai _ _ (if(((cx items.size 0 lo:Nat):Int)==0&&(1:Int)==1&&(cx items.size items.size hi-cx items.size 0 lo)==items.size)=true then _ else _) _ _ s;rw[if_neg hno,ycD]
 first
  |exact ae (m:=aq.Tuple.tupleExact _) (aS (ah ⟨_,rfl,ah h⟩) kY)
  |exact ae (m:=aq.Tuple.tupleExact _) (aS (ae (ah (ah ⟨_,rfl,ah h⟩))) kY)
  |exact ae (ae (m:=aq.Tuple.tupleExact _) (aS (ah (ah ⟨_,rfl,ah h⟩)) kY))
  |exact ae (ae (m:=aq.Tuple.tupleExact _) (aS (ah ⟨_,rfl,ah h⟩) kY))
end
end HT
namespace L2
open PySem PySem.Spec PyProof.Rows
noncomputable abbrev TO:=St->Hp->(Option Int->Hp->Prop)->Prop
noncomputable def PO(X:Cx)(e:Option Expr)(t:TO):Prop :=
 ∀(pins:List (af×Obj)) (s:ag) (σ:St) (H:Hp) (Q:Option Int->Hp->Prop),Inv X pins σ H s->t σ H Q ->
  ai (ak X.prog X.w) X.A (evalPart e X.env) (λu s'=>∃ o H',Inv X pins σ H' s'/\fj u o/\Q o H') X.xe s
noncomputable def qcL:TO:=λ_ H Q=>Q none H
noncomputable def tS(t:TE):TO:=λσ H Q=>t σ H λx H1=>∃ i,x=.int i/\Q (some i) H1
section
variable {X:Cx} {e:Expr} {te:TE} {lo hi:Option Expr} {tl th:TO} {pos p2:Pos}
theorem QcH:PO X none qcL:=by
 intro pins s σ H Q I h;rw[gj];exact ah ⟨none,H,I,.none,h⟩
theorem NS(h:PE X e te):PO X (some e) (tS te):=by
 intro pins s σ H Q I hw;rw[evalPart_some];refine bh (h pins s σ H _ I hw) λu s1 ⟨x,H1,I1,r1,q1⟩=>?_;obtain⟨i,rfl,q⟩:=q1;obtain⟨t,rfl⟩:=r1;exact⟨some i,H1,I1,.int i t,q⟩
noncomputable def DQ(X:Cx)(r:V->Option Int->Option Int->Hp->VK->Prop):Prop :=
 ∀(pins:List (af×Obj)) (s:ag) (σ:St) (H:Hp) (x:V) (v vl vu:aa) (lo hi:Option Int) (sl:af) (Q:VK),Inv X pins σ H s->RelV x v->s.heap.IsSliceOf sl vl vu .none->fj vl lo->fj vu hi->r x lo hi H Q ->
  ∃ T id,gw (.type T) "__getitem__"=pure (some (.builtin id))/\s.TypeIs v T/\ai (ak X.prog X.w) X.A (getItem v (.ref sl)) (EP X pins σ Q) X.xe s
noncomputable def tSl(r:V->Option Int->Option Int->Hp->VK->Prop)(te:TE)(tl th:TO):TE:=λσ H Q=>te σ H λx H1=>tl σ H1 λl H2=>th σ H2 λu H3=>r x l u H3 Q
theorem Zcx{r:V->Option Int->Option Int->Hp->VK->Prop}(hr:DQ X r)(he:PE X e te)(hl:PO X lo tl)(hu:PO X hi th):PE X (.Subscript e (.Slice lo hi none p2) pos) (tSl r te tl th):=by
 intro pins s σ H Q I h;refine jd (bh (he pins s σ H _ I h) λv s1 ⟨x,H1,I1,r1,q1⟩=>?_);refine wpAny_Slice (bh (hl pins s1 σ H1 _ I1 q1) λvl s2 ⟨l,H2,I2,pl,q2⟩=>bh (hu pins s2 σ H2 _ I2 q2) λvu s3 ⟨u,H3,I3,pu,q3⟩=>?_);rw[gj];refine ah ?_;have I4:Inv X pins σ H3 {s3 with heap:=s3.heap.push {cls:=.type "slice",data:=.fields #[vl,vu,.none]}}:=I3.kept (t':=s3.toks) λb ob q=>wa _ q;obtain⟨T,id,hT,ht,hg⟩:=hr pins {s3 with heap:=s3.heap.push {cls:=.type "slice",data:=.fields #[vl,vu,.none]}} σ H3 x v vl vu l u s3.heap.objs.size Q I4 r1 (Heap.IsSliceOf.new ..) pl pu q3;show ai (ak X.prog X.w) X.A (gh e (.Slice lo hi none p2) v (.ref s3.heap.objs.size)) (EP X pins σ Q) X.xe {s3 with heap:=s3.heap.push {cls:=.type "slice",data:=.fields #[vl,vu,.none]}};exact tail_any (ops:=[.ref s3.heap.objs.size,v]) ht hT hg (by with_unfolding_all rfl)
noncomputable def oU(xs:List V)(lo hi:Option Int):List V:=(xs.drop (HT.cx xs.length 0 lo)).take (HT.cx xs.length xs.length hi-HT.cx xs.length 0 lo)
theorem LA(xs:List V)(lo hi:Option Int):(oU xs lo hi).length<=xs.length:=by
 unfold oU;rw[Uq,Vz]
 lia
noncomputable def GF(K:PySem.W.Frag):V->Option Int->Option Int->Hp->VK->Prop:=λx lo hi H Q=>∃ a xs,x=.ref a/\gc K H a xs /\
 ¬(HT.cx xs.length 0 lo=0/\HT.cx xs.length xs.length hi=xs.length)/\∀ p,H p=none->Q (.ref p) (upd H p (.tup (oU xs lo hi)))
theorem yc6:DQ X (GF X.K):=by
 intro pins s σ H x v vl vu lo hi sl Q I rx hs pl pu h;obtain⟨a,xs,rfl,hx,hw,q⟩:=h;cases rx;obtain⟨aB,r,ht,hz⟩:=I.tuple hx;have hlen:aB.toArray.size=xs.length:=by rw[Wb];exact r.length.symm
 refine⟨"tuple",_,PyProof.Rows.slot_tuple_getitem.lookup,ht.typeIs,?_⟩;refine HT.gU ht hs pl pu (by rw[hlen];exact hw) ?_ (by rw[hlen];exact hz);rw[hlen];refine⟨.ref s.heap.objs.size,_,I.laid (t':=s.toks) (o:=.tup (oU xs lo hi)) (λb ob q=>wa _ q) (xb _) ?_,rfl,q _ (I.aU.fresh (xb _))⟩;exact⟨vf (LA xs lo hi) hz,_,(r.drop (HT.cx xs.length 0 lo)).take (HT.cx xs.length xs.length hi-HT.cx xs.length 0 lo),fQ.new _ _⟩
noncomputable def u6(K:PySem.W.Frag):R2:=λx y H Q=>∃ a b xs ys,x=.ref a/\y=.ref b/\gc K H a xs/\gc K H b ys/\xs≠[]/\xs.length+ys.length<=sizeLine /\
 (ys=[]->Q (.ref a) H)/\(ys≠[]->∀ p,H p=none->Q (.ref p) (upd H p (.tup (xs++ys))))
theorem Vals.nil_iff{xs:List V}{us:List aa}(r:Vals xs us):us=[]↔xs=[]:=by
 cases r with
 |nil=>simp
 |cons _ _=>simp
theorem ycY:cL X (ba .Add) (u6 X.K):=by
 intro pins s σ H x y v u Q I rx ry h;obtain⟨a,b,xs,ys,rfl,rfl,ha,hb,hx,hz,q1,q2⟩:=h;cases rx;cases ry;obtain⟨aB,r1,p1,_⟩:=I.tuple ha;obtain⟨gP,r2,p2,_⟩:=I.tuple hb;refine HT.oa p1 p2 (λz=>hx (r1.nil_iff.mp z)) (λz=>⟨.ref a,H,I,rfl,q1 (r2.nil_iff.mp z)⟩) (λz=>?_) (by rw[<- r1.length,<- r2.length];exact hz);refine⟨.ref s.heap.objs.size,_,I.laid (t':=s.toks) (o:=.tup (xs++ys)) (λb ob q=>wa _ q) (xb _) ?_,rfl,q2 (λw=>z (r2.nil_iff.mpr w)) _ (I.aU.fresh (xb _))⟩;exact⟨by rw[Xg];exact hz,_,r1.append r2,fQ.new _ _⟩
end
noncomputable def r9(n:Nat)(i:Int):Option Nat:=if 0<=i then(if i<n then some i.toNat else none) else if -(n:Int)<=i then some (i+n).toNat else none
noncomputable def sC{α:Type}(xs:List α)(i:Int):Option α:=(r9 xs.length i).bind λj=>xs[j]?
theorem Ln{n:Nat}{i:Int}{j:Nat}(h:r9 n i=some j):seqIndex? i n=some j/\j<n/\-(n:Int)<=i/\i<n:=by
 unfold r9 at h;by_cases h0:0<=i
 ·rw[if_pos h0] at h;by_cases h1:i<n
  ·rw[if_pos h1] at h;have e:i.toNat=j:=Option.some.inj h;exact⟨by rw[ir h0 h1,e],by lia,by lia,h1⟩
  ·rw[if_neg h1] at h;cases h
 ·rw[if_neg h0] at h;by_cases h1:-(n:Int)<=i
  ·rw[if_pos h1] at h;have e:(i+n).toNat=j:=Option.some.inj h;exact⟨by rw[seqIndex_neg (by lia) h1,e],by lia,h1,by lia⟩
  ·rw[if_neg h1] at h;cases h
theorem Ph{α:Type}{xs:List α}{i:Int}{v:α}(h:sC xs i=some v):∃ j,seqIndex? i xs.length=some j/\xs[j]?=some v/\j<xs.length/\-(xs.length:Int)<=i/\i<xs.length:=by
 unfold sC at h;cases e:r9 xs.length i with
 |none=>rw[e] at h;cases h
 |some j =>
  rw[e] at h;obtain⟨h1,h2,h3,h4⟩:=Ln e;exact⟨j,h1,h,h2,h3,h4⟩
noncomputable def O9(b:Expr):Prop:=∀ o i,subscripted b false o i=operate [o,i] (getItem o i)
noncomputable def BK(X:Cx)(r:R2):Prop :=
 ∀(value slice:Expr)(pins:List (af×Obj)) (s:ag) (σ:St) (H:Hp) (x y:V) (v u:aa) (Q:VK),Inv X pins σ H s->RelV x v->RelV y u->r x y H Q ->
  subscripted slice false v u=operate [v,u] (getItem v u)->ai (ak X.prog X.w) X.A (gh value slice v u) (EP X pins σ Q) X.xe s
noncomputable def kL(X:Cx)(id:String)(r:V->List V->Hp->VK->Prop):Prop :=
 ∀(pins:List (af×Obj)) (s:ag) (σ:St) (H:Hp) (x:V) (xs:List V) (v:aa) (us:List aa) (Q:VK),Inv X pins σ H s->RelV x v->Vals xs us->r x xs H Q ->
  ai (ak X.prog X.w) X.A (call (.builtin id) (v::us)) (EP X pins σ Q) X.xe s
section
variable {X:Cx} {a b:Expr} {ta tb:TE} {pos:Pos}
theorem vU{r:R2}(hr:BK X r)(ha:PE X a ta)(hb:PE X b tb)(hs:O9 b):PE X (.Subscript a b pos) (Cp r ta tb):=by
 intro pins s σ H Q I h;exact jd (rE ha hb I h λv u s2 x y H2 I2 rx ry q=>hr a b pins s2 σ H2 x y v u Q I2 rx ry q (hs _ _))
noncomputable def GP(K:PySem.W.Frag):R2:=λx y H Q=>∃ p xs i v,x=.ref p/\y=.int i/\fG K H p xs/\sC xs i=some v/\Q v H
noncomputable def GL(K:PySem.W.Frag):R2:=λx y H Q=>∃ p xs i v,x=.ref p/\y=.int i/\gc K H p xs/\sC xs i=some v/\Q v H
theorem ZcW:BK X (GP X.K):=by
 intro value slice pins s σ H x y v u Q I rx ry h hs;obtain⟨p,xs,i,z,rfl,rfl,hq,he,q⟩:=h;cases rx;obtain⟨t,rfl⟩:=ry;obtain⟨aB,r,pl,hz⟩:=I.list hq;obtain⟨j,h1,h2,h3,h4,h5⟩:=Ph he;obtain⟨w,ew,uV⟩:=r.get h2;have hl:=r.length;have hn:=DR;have fin:EP X pins σ Q w s:=⟨z,H,I,uV,q⟩;by_cases h0:0<=i
 ·have hj:i.toNat=j:=by
   rw[ir h0 h5] at h1;exact Option.some.inj h1
  exact item_listR pl.isList h0 (by lia) (by rw[hj];simpa using ew) fin hs
 ·have hj:(i+(aB.toArray.size:Int)).toNat=j:=by
   rw[seqIndex_neg (by lia) h4] at h1;rw[Wb,<- hl];exact Option.some.inj h1
  exact fi (x:=w) pl.isList.typeIs slot_list_getitem.lookup
   (wpAny_getItem_list_neg (Q:=λr s'=>r=w/\EP X pins σ Q r s') pl.isList (by lia) (by rw[Wb] <;> lia) (by lia) (by rw[hj];simpa using ew) ⟨rfl,fin⟩) hs
theorem Ydm:BK X (GL X.K):=by
 intro value slice pins s σ H x y v u Q I rx ry h hs;obtain⟨p,xs,i,z,rfl,rfl,hq,he,q⟩:=h;cases rx;obtain⟨t,rfl⟩:=ry;obtain⟨aB,r,pl,hz⟩:=I.tuple hq;obtain⟨j,h1,h2,h3,h4,h5⟩:=Ph he;obtain⟨w,ew,uV⟩:=r.get h2;have hl:=r.length;have hn:=DR;have fin:EP X pins σ Q w s:=⟨z,H,I,uV,q⟩;exact fi (x:=w) pl.typeIs slot_tuple_getitem.lookup
  (getItem_tuple (j:=j) (Q:=λr s'=>r=w/\EP X pins σ Q r s') pl (by lia) (by lia) (by rw[Wb,<- hl];exact h1) (by simpa using ew) ⟨rfl,fin⟩) hs
theorem ZbV(aB:List aa)(n j:Nat)(u:aa):Obj.mapSeq (·.setIfInBounds j u) {cls:=.type "list",data:=.seq aB.toArray n}={cls:=.type "list",data:=.seq (aB.set j u).toArray n}:=by
 simp[Obj.mapSeq]
theorem Inv.lst{pins:List (af×Obj)}{σ:St}{H:Hp}{s:ag}{p:af}{xs:List V}(I:Inv X pins σ H s)(h:H p=some (.lst xs)) :
  ∃(aB:List aa)(n:Nat),Vals xs aB/\s.heap.get? p=some {cls:=.type "list",data:=.seq aB.toArray n}/\xs.length<=sizeLine:=by
 obtain⟨z,aB,n,r,e⟩:=I.aU p _ h;exact⟨aB,n,r,e,z⟩
theorem Inv.pL{pins:List (af×Obj)}{σ:St}{H:Hp}{s:ag}{p:af}{xs ys:List V}{aB its':List aa}{n n':Nat}{f:Obj->Obj}(I:Inv X pins σ H s)(h:H p=some (.lst xs))
  (ho:s.heap.get? p=some {cls:=.type "list",data:=.seq aB.toArray n}) (hf:f {cls:=.type "list",data:=.seq aB.toArray n}={cls:=.type "list",data:=.seq its'.toArray n'}) (r:Vals ys its') (hz:ys.length<=sizeLine) (t:Nat) :
  Inv X pins σ (upd H p (.lst ys)) {s with heap:=s.heap.update p f,toks:=t}:=by
 have e:(s.heap.update p f).get? p=some {cls:=.type "list",data:=.seq its'.toArray n'}:=by
  rw[wq f ho (by rw[hf] <;> rfl),hf]
 refine I.write (x:=p) (e:=p) (by rw[h];trivial) (.inl rfl) (λb u hb q=>(Xk _ _ (Ne.symm hb)).trans q) ⟨_,e⟩ ?_;exact⟨hz,its',n',r,e⟩
noncomputable def u0:V->V->V->Hp->(Hp->Prop)->Prop:=λo i v H Q=>∃ p xs k j,o=.ref p/\i=.int k/\H p=some (.lst xs)/\r9 xs.length k=some j/\Q (upd H p (.lst (xs.set j v)))
theorem qcA:BG X u0:=by
 intro pins s σ H o i v ov iv u Q I ro ri rv h;obtain⟨p,xs,k,j,rfl,rfl,hp,hj,q⟩:=h;cases ro;obtain⟨t,rfl⟩:=ri;obtain⟨aB,n,r,ho,hz⟩:=I.lst hp;obtain⟨h1,h2,h3,h4⟩:=Ln hj;have hl:=r.length;have hn:=DR;have I':Inv X pins σ (upd H p (.lst (xs.set j v))) {s with heap:=s.heap.update p (Obj.mapSeq (·.setIfInBounds j u))} :=
  I.pL hp ho (ZbV aB n j u) (r.set rv j) (by rw[List.length_set];exact hz) s.toks
 by_cases h0:0<=k
 ·have hk:k.toNat=j:=by
   rw[ir h0 h4] at h1;exact Option.some.inj h1
  exact PySem.W.ki_setAt ho h0 (by lia) (by rw[Wb,<- hl];exact h4) (by rw[hk];exact⟨_,I',q⟩)
 ·have hk:(k+(aB.toArray.size:Int)).toNat=j:=by
   rw[seqIndex_neg (by lia) h3] at h1;rw[Wb,<- hl];exact Option.some.inj h1
  exact PySem.W.ki_setBack ho (by lia) (by rw[Wb,<- hl];exact h3) (by lia) (by rw[hk];exact⟨_,I',q⟩)
theorem Qbr(lo hi:Option Int)(n:Nat):(cE lo hi none n).1=((HT.cx n 0 lo:Nat):Int)/\(cE lo hi none n).2.1=((HT.cx n n hi:Nat):Int)/\(cE lo hi none n).2.2=1:=by
 refine⟨?_,?_,rfl⟩
 ·cases lo with
  |none=>simp[cE,HT.cx]
  |some i =>
   simp only[cE,HT.cx,XF,show(1:Int)>0 by decide,if_true];by_cases h:i<0
   ·simp only[h,if_true] <;> lia
   ·simp only[h,if_false] <;> lia
 ·cases hi with
  |none=>simp[cE,HT.cx]
  |some i =>
   simp only[cE,HT.cx,XF,show(1:Int)>0 by decide,if_true];by_cases h:i<0
   ·simp only[h,if_true] <;> lia
   ·simp only[h,if_false] <;> lia
theorem za8(aB:List aa)(lo hi:Option Int):slicePick aB.toArray lo hi none=((aB.drop (HT.cx aB.length 0 lo)).take (HT.cx aB.length aB.length hi-HT.cx aB.length 0 lo)).toArray:=by
 obtain⟨h1,h2,h3⟩:=Qbr lo hi aB.toArray.size;unfold slicePick;rw[h1,h2,h3];simp only[sliceRange_one,pick_run,Wb] <;> rfl
noncomputable def GH(K:PySem.W.Frag):V->Option Int->Option Int->Hp->VK->Prop:=λx lo hi H Q=>∃ a xs,x=.ref a/\fG K H a xs/\∀ p,H p=none->Q (.ref p) (upd H p (.lst (oU xs lo hi)))
theorem Pa:DQ X (GH X.K):=by
 intro pins s σ H x v vl vu lo hi sl Q I rx hs pl pu h;obtain⟨a,xs,rfl,hx,q⟩:=h;cases rx;obtain⟨aB,r,ht,hz⟩:=I.list hx;have hlen:=r.length;refine⟨"list",_,slot_list_getitem.lookup,ht.isList.typeIs,?_⟩;refine eE ht.isList hs pl pu .none (by simp) ?_ (by rw[Wb] <;> lia);rw[za8,<- hlen];refine⟨.ref s.heap.objs.size,_,I.laid (t':=s.toks) (o:=.lst (oU xs lo hi)) (λb ob q=>wa _ q) (xb _) ?_,rfl,q _ (I.aU.fresh (xb _))⟩;exact⟨vf (LA xs lo hi) hz,_,0,(r.drop (HT.cx xs.length 0 lo)).take (HT.cx xs.length xs.length hi-HT.cx xs.length 0 lo),Ub _ rfl⟩
theorem ybe:aN X (.builtin "len") (λxs H Q=>∃ p ys,xs=[.ref p]/\(fG X.K H p ys\/gc X.K H p ys)/\Q (.int ys.length) H):=by
 intro pins s σ H xs us Q I r h;obtain⟨p,ys,rfl,hq,q⟩:=h;obtain⟨u,rfl,rx⟩:=CD r;cases rx;have hn:=DR
 rcases hq with hq|hq
 ·obtain⟨aB,r',pl,hz⟩:=I.list hq;have hlen:=r'.length;exact Calls.call_len_list pl.isList (by simp only[Wb] <;> lia) ⟨.int ys.length,H,I.tok _,⟨s.toks+1,by rw[Wb,hlen]⟩,q⟩
 ·obtain⟨aB,r',pl,hz⟩:=I.tuple hq;have hlen:=r'.length;exact len_tuple pl (by simp only[Wb] <;> lia) ⟨.int ys.length,H,I.tok _,⟨s.toks+1,by rw[Wb,hlen]⟩,q⟩
theorem zbl:aN X (.type "list") (λxs H Q=>∃ p ys,xs=[.ref p]/\(fG X.K H p ys\/gc X.K H p ys)/\∀ l,H l=none->Q (.ref l) (upd H l (.lst ys))):=by
 intro pins s σ H xs us Q I r h;obtain⟨p,ys,rfl,hq,q⟩:=h;obtain⟨u,rfl,rx⟩:=CD r;cases rx;have fin:∀(aB:List aa),Vals ys aB->ys.length<=sizeLine->∀(h':Heap)(c':Nat),(∀ b o',s.heap.get? b=some o'->h'.get? b=some o') ->
   h'.get? s.heap.objs.size=some {cls:=.type "list",dict:=none,data:=.seq aB.toArray c',slots:=#[]}->EP X pins σ Q (.ref s.heap.objs.size) {s with heap:=h'}:=λaB r' hz h' c' kp e =>
  ⟨.ref s.heap.objs.size,_,I.laid (t':=s.toks) kp (xb _) (show bg X.prog X.w _ h' _ (.lst ys) from⟨hz,aB,c',r',e⟩),rfl,q _ (I.aU.fresh (xb _))⟩
 rcases hq with hq|hq
 ·obtain⟨aB,r',pl,hz⟩:=I.list hq;have hlen:=r'.length;obtain⟨o,ho,hc,n,hd⟩:=pl.isList;exact jB p (.inl rfl) ho hc hd (λh' c' kp e=>fin aB r' hz h' c' kp e) (by simp only[Wb] <;> lia)
 ·obtain⟨aB,r',pl,hz⟩:=I.tuple hq;have hlen:=r'.length;obtain⟨o,ho,hc,n,hd⟩:=pl;exact jB p (.inr rfl) ho hc hd (λh' c' kp e=>fin aB r' hz h' c' kp e) (by simp only[Wb] <;> lia)
theorem qa3:aN X (.type "tuple") (λxs H Q=>∃ p ys,xs=[.ref p]/\((fG X.K H p ys/\∀ l,H l=none->Q (.ref l) (upd H l (.tup ys)))\/(gc X.K H p ys/\Q (.ref p) H))):=by
 intro pins s σ H xs us Q I r h;obtain⟨p,ys,rfl,h⟩:=h;obtain⟨u,rfl,rx⟩:=CD r;cases rx
 rcases h with ⟨hq,q⟩|⟨hq,q⟩
 ·obtain⟨aB,r',pl,hz⟩:=I.list hq;have hlen:=r'.length;refine call_tuple_list pl.isList (λh' kp=>?_) (by simp only[Wb] <;> lia);have I1:Inv X pins σ H {s with heap:=h'}:=I.kept (t':=s.toks) kp;have I2:Inv X pins σ (upd H h'.objs.size (.tup ys)) {s with heap:=h'.push {cls:=.type "tuple",data:=.seq aB.toArray}} :=
   I1.laid (t':=s.toks) (λb o e=>wa _ e) (xb _) (show bg X.prog X.w _ _ _ (.tup ys) from⟨hz,aB,r',fQ.new _ _⟩)
  exact⟨.ref h'.objs.size,_,I2,rfl,q _ (I1.aU.fresh (xb _))⟩
 ·obtain⟨aB,r',pl,hz⟩:=I.tuple hq;exact call_tuple_same pl ⟨.ref p,H,I,rfl,q⟩
noncomputable def Cm(K:PySem.W.Frag)(T:String)(x:V)(H:Hp):Prop:=match x with
 |.str _=>T="str"
 |.int _=>T="int"
 |.ref p=>(T="list"/\∃ xs,fG K H p xs)\/(T="tuple"/\∃ o,K.lookup p=some o/\o.cls=.type "tuple"/\o.dict=none) \/
   (T="dict"/\((∃ kvs,H p=some (.dK kvs))\/∃ kvs,H p=some (.dT kvs)))\/(T="set"/\∃ S n,H p=some (.set S n))
 |_=>False
theorem K8{pins:List (af×Obj)}{σ:St}{H:Hp}{s:ag}{T:String}{x:V}{v:aa}(I:Inv X pins σ H s)(r:RelV x v)(ty:Cm X.K T x H) :
  s.TypeIs v T/\∀ a,v=.ref a->∃ ob,s.heap.get? a=some ob/\ob.dict=none:=by
 cases x with
 |str z =>
  obtain⟨t,rfl⟩:=r;cases(show T="str" from ty);exact⟨typeIs_str s z t,λ_ e=>nomatch e⟩
 |int i =>
  obtain⟨t,rfl⟩:=r;cases(show T="int" from ty);exact⟨iQ s i t,λ_ e=>nomatch e⟩
 |ref p =>
  cases r
  rcases ty with ⟨rfl,xs,hq⟩|⟨rfl,o,hk,hc,hd⟩|⟨rfl,hk⟩|⟨rfl,S,n,hk⟩
  ·obtain⟨aB,_,pl,_⟩:=I.list hq;refine⟨pl.isList.typeIs,λa e=>?_⟩;cases e;obtain⟨o,n,e,c,hd,_⟩:=pl;exact⟨o,e,hd⟩
  ·refine⟨⟨o,I.hV p o hk,hc⟩,λa e=>?_⟩;cases e;exact⟨o,I.hV _ o hk,hd⟩
  ·have z:∃ o,s.heap.get? p=some o/\o.ExactDict:=by
    rcases hk with ⟨kvs,hk⟩|⟨kvs,hk⟩
    ·obtain⟨_,_,_,_,o,_,_,e,ex,_⟩:=I.aU p _ hk;exact⟨o,e,ex⟩
    ·obtain⟨_,_,_,_,o,_,_,e,ex,_⟩:=I.aU p _ hk;exact⟨o,e,ex⟩
   obtain⟨o,e,ex⟩:=z;refine⟨⟨o,e,ex.1⟩,λa e2=>?_⟩;cases e2;exact⟨o,e,ex.2.1⟩
  ·obtain⟨o,_,_,_,e,ex,_⟩:=I.aU p _ hk;refine⟨⟨o,e,ex.1⟩,λa e2=>?_⟩;cases e2;exact⟨o,e,ex.2.1⟩
 |_=>exact False.elim ty
noncomputable def Gm(K:PySem.W.Frag)(T:String)(r:V->List V->Hp->VK->Prop)(to:TE):TE:=λσ H Q=>to σ H λx H1=>Cm K T x H1/\r x [] H1 Q
noncomputable def tBM(K:PySem.W.Frag)(T:String)(r:V->List V->Hp->VK->Prop)(to:TE)(t:TA):TE:=λσ H Q=>to σ H λx H1=>Cm K T x H1/\t σ H1 λxs H2=>r x xs H2 Q
variable {o e:Expr} {es:List Expr} {to:TE} {t:TA} {name:Str} {apos fO:Pos} {T id:String} {r:V->List V->Hp->VK->Prop}
theorem Zdf(pa:PlainAttrs T)(slot:Slot T name id)(pP:typeOf (.builtin id)=pure (.type "method_descriptor"))(hm:kL X id r)(ho:PE X o to)
  (gQ:aZ o name X.env (eval o X.env)=eval o X.env:=by rfl) (cR:(apos.endLine==fO.line)=true:=by rfl):PE X (.Call (.Attribute o name apos) [] [] fO) (Gm X.K T r to):=by
 intro pins s σ H Q I h;refine wpAny_Call_method0_late gQ cR (bh (ho pins s σ H _ I h) λv s1 ⟨x,H1,I1,r1,ty,q1⟩=>?_);obtain⟨h1,h2⟩:=K8 I1 r1 ty;exact⟨T,id,pa,slot,pP,h1,h2,Calls.callWith_builtin rfl (PySem.evalArgs_none (hm pins s1 σ H1 x [] v [] Q I1 r1 .nil q1))⟩
theorem vV(pa:PlainAttrs T)(slot:Slot T name id)(pP:typeOf (.builtin id)=pure (.type "method_descriptor"))(hm:kL X id r)(ho:PE X o to)(ha:PA X (e::es) t)
  (gQ:aZ o name X.env (eval o X.env)=eval o X.env:=by rfl)
  (mG:((bj fO (au (e::es) X.env)).all (λx=>!x.1)&&(dw fO (bK [] X.env)).all (λx=>x.1.isSome)
   && decide ((e::es).length+([]:List c6).length+(if([]:List c6).isEmpty then 0 else 1)<30))=true:=by rfl)
  (cR:(apos.endLine==fO.line)=true:=by rfl) (hs:au (e::es) X.env=(false,eval e X.env)::au es X.env:=by rfl) (pR:(bj fO (au es X.env)).any (·.1)=false:=by rfl) :
  PE X (.Call (.Attribute o name apos) (e::es) [] fO) (tBM X.K T r to t):=by
 intro pins s σ H Q I h;refine wpAny_Call_method_late gQ mG cR rfl (bh (ho pins s σ H _ I h) λv s1 ⟨x,H1,I1,r1,ty,q1⟩=>?_);obtain⟨h1,h2⟩:=K8 I1 r1 ty;refine⟨T,id,pa,slot,pP,h1,h2,?_⟩;have hA:=ha fO pins s1 σ H1 _ I1 q1;rw[hs] at hA ⊢;refine Calls.callWith_builtin (by show(false||(bj fO (au es X.env)).any (·.1))=false;rw[pR] <;> rfl) (Calls.evalArgs_plain ?_);exact bh hA λus s2 ⟨vs,H2,I2,r2,q2⟩=>hm pins s2 σ H2 x vs v us Q I2 r1 r2 q2
end
noncomputable def BJ(X:Cx)(id:String)(r:V->List V->Hp->VK->Prop):Prop :=
 ∀(pins:List (af×Obj)) (s:ag) (σ:St) (H:Hp) (x:V) (xs:List V) (v:aa) (us:List aa) (Q:VK),Inv X pins σ H s->RelV x v->Vals xs us->r x xs H Q ->
  ai (ak X.prog X.w) X.A (call (.builtin id) (v::us)) (EP X pins σ Q) X.xe s
theorem Vals.one:∀{x:V}{us:List aa},Vals [x] us->∃ u,us=[u]/\RelV x u
 |_,_,.cons r .nil=>⟨_,rfl,r⟩
theorem Vals.zero:∀{us:List aa},Vals [] us->us=[]
 |_,.nil=>rfl
theorem Vals.dropLast{xs:List V}{us:List aa}(h:Vals xs us):Vals xs.dropLast us.dropLast:=by
 induction h with
 |nil=>exact .nil
 |cons r t ih =>
  cases t with
  |nil=>exact .nil
  |cons q t'=>exact .cons r ih
theorem Vals.reverse{xs:List V}{us:List aa}(h:Vals xs us):Vals xs.reverse us.reverse:=by
 induction h with
 |nil=>exact .nil
 |cons r t ih=>rw[xq,xq];exact Vals.append ih (.cons r .nil)
theorem Vals.rep{xs:List V}{us:List aa}(h:Vals xs us):∀ k:Nat,Vals (Vc k xs).flatten (Vc k us).flatten
 |0=>.nil
 |k+1=>by
  rw[Uo,Uo,Xs,Xs];exact Vals.append h (Vals.rep h k)
theorem ybP{α:Type}(l:List α):l.eraseIdx (l.length-1)=l.dropLast:=by
 induction l with
 |nil=>rfl
 |cons a r ih =>
  cases r with
  |nil=>rfl
  |cons b r =>
   have e:(a::b::r).length-1=((b::r).length-1)+1:=by
    have h1:(a::b::r).length=r.length+2:=rfl;have h2:(b::r).length=r.length+1:=rfl
    lia
   rw[e,List.eraseIdx_cons_succ,ih]
   all_goals rfl
theorem Pu(aB:List aa):∀(k:Nat)(acc:List aa),
  wG (λx1 x2=>x1++x2) acc.toArray (Vc k aB.toArray)=(acc++(Vc k aB).flatten).toArray
 |0,acc=>by simp
 |k+1,acc=>by
  have e:acc.toArray++aB.toArray=(acc++aB).toArray:=by simp
  have e2:(acc++aB)++(Vc k aB).flatten=acc++(Vc (k+1) aB).flatten:=by
   rw[Uo,Xs,ui]
  rw[<- e2,<- Pu aB k (acc++aB),<- e,Uo,wj]
section
variable {X:Cx} {pins:List (af×Obj)} {σ:St} {H:Hp} {s:ag} {l b:af} {xs ys zs:List V}
theorem Inv.mD{aB its':List aa}{n:Nat}{f:Array aa->Array aa}{t':Nat}(I:Inv X pins σ H s)(hH:H l=some (.lst xs))
  (e:s.heap.get? l=some {cls:=.type "list",data:=.seq aB.toArray n}) (hf:f aB.toArray=its'.toArray) (hv:Vals ys its') (hz:ys.length<=sizeLine) :
  Inv X pins σ (upd H l (.lst ys)) {s with heap:=s.heap.update l (Obj.mapSeq f),toks:=t'}:=by
 have q:=PySem.IsL.update e f;rw[hf] at q;refine I.write (x:=l) (e:=l) (by rw[hH];exact trivial) (.inl rfl) (λb' u hb hu=>(Xk s.heap (Obj.mapSeq f) (Ne.symm hb)).trans hu) ⟨_,q⟩ ?_;exact⟨hz,its',_,hv,q⟩
theorem Inv.w4{aB:List aa}{t':Nat}(I:Inv X pins σ H s)(hv:Vals ys aB)(hz:ys.length<=sizeLine) :
  Inv X pins σ (upd H s.heap.objs.size (.lst ys)) {s with heap:=s.heap.push {cls:=.type "list",data:=.seq aB.toArray},toks:=t'} :=
 I.laid (λ_ _ q=>wa _ q) (xb _) ⟨hz,aB,0,hv,Ub _ rfl⟩
theorem Inv.fresh(I:Inv X pins σ H s):H s.heap.objs.size=none:=I.aU.fresh (xb _)
theorem Inv.mC(I:Inv X pins σ H s)(hH:H l=some (.lst xs)):xs.length<=sizeLine/\∃(aB:List aa)(n:Nat),Vals xs aB/\xs.length=aB.length/\s.heap.get? l=some {cls:=.type "list",data:=.seq aB.toArray n}:=by
 obtain⟨z,aB,n,r,e⟩:=I.aU l _ hH;exact⟨z,aB,n,r,r.length,e⟩
theorem Mo{n:Nat}(h:n<=sizeLine):aq.List.listTooLong n=false:=by
 unfold aq.List.listTooLong;exact decide_eq_false (by lia)
end
section
variable {X:Cx}
noncomputable def YcN:V->List V->Hp->VK->Prop:=λx vs H Q=>∃ l xs y,x=.ref l/\vs=[y]/\H l=some (.lst xs)/\xs.length<sizeLine/\Q .bG (upd H l (.lst (xs++[y])))
theorem qcb:BJ X "list.append" YcN:=by
 intro pins s σ H x vs v us Q I rx rv h;obtain⟨l,xs,y,rfl,rfl,hH,hz,q⟩:=h;cases rx;obtain⟨u,rfl,ru⟩:=rv.one;obtain⟨z,aB,n,r,hl,e⟩:=I.mC hH;refine de F.slot_list_append ⟨_,e,rfl⟩ F.entry_list_append (F.args_list_append_2 _ _) (PySem.list_append l aB.toArray n u (by rw[Wb];lia)) ⟨e,?_⟩;refine⟨.bG,_,I.mD (its':=aB++[u]) hH e (by simp) (r.append (.cons ru .nil)) ?_,rfl,q⟩;rw[Xg,XB]
 lia
noncomputable def Cw:V->List V->Hp->VK->Prop:=λx vs H Q=>∃ l b xs zs,x=.ref l/\vs=[.ref b]/\H l=some (.lst xs)/\H b=some (.lst zs)/\xs.length+zs.length<=sizeLine/\Q .bG (upd H l (.lst (xs++zs)))
noncomputable def GI:V->List V->Hp->VK->Prop:=λx vs H Q=>∃ l xs y,x=.ref l/\vs=[]/\H l=some (.lst xs)/\xs[xs.length-1]?=some y/\Q y (upd H l (.lst xs.dropLast))
theorem Hf:BJ X "list.pop" GI:=by
 intro pins s σ H x vs v us Q I rx rv h;obtain⟨l,xs,y,rfl,rfl,hH,hy,q⟩:=h;cases rx;have Ai:=rv.zero;subst Ai;obtain⟨z,aB,n,r,hl,e⟩:=I.mC hH;obtain⟨u,hu,ru⟩:=r.get hy;have hy':aB.toArray[aB.toArray.size-1]?=some u:=by
  show aB.toArray[aB.length-1]?=some u;rw[<- uB,<- hl];exact hu
 refine de F.slot_list_pop ⟨_,e,rfl⟩ F.entry_list_pop (F.args_list_pop_1 _) (MeetsSeq.list_pop_last l aB.toArray n u hy' (by rw[Wb];lia)) ⟨e,?_⟩;refine⟨y,_,I.mD (its':=aB.dropLast) hH e ?_ r.dropLast ?_,ru,q⟩
 ·show aB.toArray.eraseIdxIfInBounds (aB.toArray.size-1)=aB.dropLast.toArray;rw[Wb,List.eraseIdxIfInBounds_toArray,ybP]
 ·rw[List.length_dropLast]
  lia
noncomputable def ycq:V->List V->Hp->VK->Prop:=λx vs H Q=>∃ l xs,x=.ref l/\vs=[]/\H l=some (.lst xs)/\Q .bG (upd H l (.lst xs.reverse))
theorem YbT:BJ X "list.reverse" ycq:=by
 intro pins s σ H x vs v us Q I rx rv h;obtain⟨l,xs,rfl,rfl,hH,q⟩:=h;cases rx;have Ai:=rv.zero;subst Ai;obtain⟨z,aB,n,r,hl,e⟩:=I.mC hH;refine de F.slot_list_reverse ⟨_,e,rfl⟩ F.entry_list_reverse (F.args_list_reverse_1 _) (AutoSeq1.list_reverse_list_0 l aB.toArray n (by rw[Wb];lia)) ⟨e,?_⟩;refine⟨.bG,_,I.mD (its':=aB.reverse) hH e (by simp) r.reverse ?_,rfl,q⟩;rw[Ux]
 lia
noncomputable def Ydl:V->List V->Hp->VK->Prop:=λx vs H Q=>∃ l xs,x=.ref l/\vs=[]/\H l=some (.lst xs)/\Q .bG (upd H l (.lst []))
theorem QcB:BJ X "list.clear" Ydl:=by
 intro pins s σ H x vs v us Q I rx rv h;obtain⟨l,xs,rfl,rfl,hH,q⟩:=h;cases rx;have Ai:=rv.zero;subst Ai;obtain⟨z,aB,n,r,hl,e⟩:=I.mC hH;refine de F.slot_list_clear ⟨_,e,rfl⟩ F.entry_list_clear (F.args_list_clear_1 _) (AutoSeq1.list_clear_list_0 l aB.toArray n (by rw[Wb];lia)) ⟨e,?_⟩;exact⟨.bG,_,I.mD (its':=[]) (ys:=[]) hH e rfl .nil (wm _),rfl,q⟩
theorem QcJ{α:Type}(xs:List α)(k:Nat):(Vc k xs).flatten.length=k*xs.length:=by
 induction k with
 |zero=>simp
 |succ k ih=>rw[Uo,Xs,Xg,ih,Nat.succ_mul,Nat.add_comm]
end
end L2
namespace PJ
open PySem PySem.W PySem.Calls PyProof.Rows
theorem yaI{P:Params}{h:Heap}:∀(ns:List Int)(vs:List aa),WellAll P h vs (ns.map WData.int)->fX vs ns:=by
 intro ns
 induction ns with
 |nil =>
  intro vs w;rw[xn] at w;cases w;exact .nil
 |cons n ns ih =>
  intro vs w;rw[ub] at w;cases w with
  |cons a b =>
   cases a;exact .cons _ _ (ih _ b)
theorem zcc{l:OpenLaw}{n:Nat}(hn:l.most=some n){P:Params}{h:Heap}{args:List WData}{vals:List aa}
  (nP:l.row.toRowW.claim.pre args=true) (Ht:WellAll P h vals args) :
  ∃ a vs ns,vals=[aa.ref a]/\args=[WData.list (ns.map WData.int)]/\h.get? a=some {cls:=.type "list",data:=.seq vs.toArray}/\fX vs ns/\ns.length<=n:=by
 have hsh:WShape.hasAll [] args [.list .int]=true:=(pre_splitW nP).1;have hc:l.pre.holds [] {args:=args}=true:=(pre_splitW nP).2;obtain⟨d,r,rfl,h1,h2⟩:=hasAllW_cons hsh;obtain rfl:=hasAllW_nil h2;obtain⟨xs,rfl,h3⟩:=hasW_list h1;obtain⟨ns,rfl⟩:=items_int h3;have hlen:ns.length<=n:=by
  unfold OpenLaw.pre at hc;have h4:(WTm.not (.lt (.lit (.int (n:Int))) (.len (.arg 0)))).holds [] {args:=[.list (ns.map .int)]}=true:=by
   have h4:=(holds_andW hc).1;rw[hn] at h4;exact h4
  have h5:=condW_of h4 (w_not (w_lt w_lit (w_len_list (w_arg rfl))));rw[wc] at h5;refine uF λq=>?_;have q':(n:Int)<((ns.length:Nat):Int):=by lia
  first
   |(rw[decide_eq_true q'] at h5;exact absurd h5 (by decide))
   |(simp at h5;lia)
 cases Ht with
 |cons w1 w2 =>
  cases w2;cases w1 with
  |list ho mJ=>exact⟨_,_,ns,rfl,rfl,ho,yaI ns _ mJ,hlen⟩
theorem Ycf(l:OpenLaw)(args:List WData):l.row.toRowW.claim.post args (.bool true) args=true :=
 postW_of (r:=l.row.toRowW) (X:=(true==true))
  (show WShape.has [] (.bool true) .bool=true by first|rfl|decide|simp[WShape.has,WShape.arms,WShape.armsAll])
  (show(WTm.eq .res (.lit (.bool true))).value [] {args:=args,res:=some (.bool true),after:=args}=some (.bool (true==true)) from w_eq_bool (w_res rfl) w_lit) rfl
theorem kg{l:OpenLaw}{n:Nat}{q:aj}{loose:List Str}{XP:(Str->Option aa)->Heap->Prop}{YP:World->Heap->Prop}{d:DefRec}
  (hn:l.most=some n) (Ic:d.params.defaults=[])
  (call:∀(w:World)(s₀ s₁:ag)(mg mb:Str->Option aa)(fa:af)(o:Obj) (pm cd doc:aa) (a:af) (vs:List aa) (ns:List Int),
   Ground q loose [] XP w s₀ mg mb s₁.heap->YP w s₁.heap ->
   s₁.heap.get? fa=some o->o.data=.func (docDef d.name d.params d.body d.scope pm cd doc)->s₁.heap.CodeRec cd d.name->mg d.name=some (.ref fa) ->
   s₁.heap.get? a=some {cls:=.type "list",data:=.seq vs.toArray}->fX vs ns->ns.length<=n->s₁.gens=#[] ->
   bM (ak l.prog w) fV (.call (.ref fa) ⟨[.ref a],[]⟩) (λr s'=>r=.ok (.ret (.bool true))/\OldK s₁.heap s'.heap/\s'.os=s₁.os/\dI s'.gens) s₁) :
  WalkO q loose XP YP l.row.toRowW d [] (λf vs=>PySem.call f vs):=by
 intro w s₀ s₁ mg mb G Y fa o pm cd doc dV kV ho hd jy hD nS hg args vals as nP hlay hrd Ht hlo;obtain rfl:dV=.none:=Dflts.none hD Ic;obtain rfl:kV=.none:=Dflts.noKw hD;obtain⟨a,vs,ns,rfl,rfl,pT,hints,hlen⟩:=zcc hn nP Ht;refine enter_call (cX (call w s₀ s₁ mg mb fa o pm cd doc a vs ns G Y ho (fd_plain hd) jy nS pT hints hlen hg) λr s' hq=>?_);obtain⟨rfl,h2,h3,h4⟩:=hq;exact⟨.inl ⟨.bool true,.bool true,[],rfl,λ_=>rfl,.bool true,Ycf l _,λ_=>⟨List.Pairwise.nil,λ_ hm=>(nomatch hm)⟩⟩,h2,h3,h4⟩
end PJ
namespace L2
open PySem PySem.Spec PyProof.Rows
theorem NQ:∀{vs:List aa}{ns:List Int},fX vs ns->Vals (ns.map V.int) vs
 |_,_,.nil=>.nil
 |_,_,.cons n t h=>.cons ⟨t,rfl⟩ (NQ h)
noncomputable abbrev bP{K:PySem.W.Frag}{h:Heap}(_:K.In h):PySem.W.Frag:=K
noncomputable def qX(s:Stmt)(j:Nat):Stmt:=match s with
 |.ClassDef _ _ _ body _ _ _ _ _ _ _=>body.getD j (.Pass ⟨0,0,0,0⟩)
 |_=>.Pass ⟨0,0,0,0⟩
noncomputable def Qi(s:Stmt):jG:=match s with
 |.FunctionDef _ a _ _ _ _ _ _ _ _=>a
 |_=>{posonlyargs:=[],args:=[],vararg:=none,kwonlyargs:=[],kw_defaults:=[],kwarg:=none,defaults:=[]}
noncomputable def Zg(s:Stmt):List Stmt:=match s with
 |.FunctionDef _ _ b _ _ _ _ _ _ _=>b
 |_=>[]
noncomputable def zc(s:Stmt):aA:=match s with
 |.FunctionDef _ _ _ _ _ _ sc _ _ _=>sc
 |_=>{kind:=.function,names:=[],isGenerator:=false,isCoroutine:=false}
noncomputable abbrev CX0:ly:=λ_ _ _ _ _ _=>False
noncomputable abbrev E0:XK:=λ_ _ _=>False
structure rO (K:PySem.W.Frag) (x qual:Str) (st:Stmt) (f:af) (fd:bw):Prop where
 ex:∃(oc:aa)(od:Option af)(kV doc pm:aa)(an:Option af)(dM ct:aa) (ju:Array (Option aa)),
  fd=Xf x qual (Qi st) (Zg st) (zc st) .none kV doc pm an dM ct/\K.lookup f=some ⟨oc,od,.func fd,ju⟩/\vg K dM qual=true
 kp:Xe K (.ref f)=true
section
variable {P:aj} {w:World} {K:PySem.W.Frag} {mg:Str->Option aa} {base:Heap}
theorem rO.binds{x qual:Str}{st:Stmt}{f:af}{fd:bw}{ps:List Str}(F:rO K x qual st f fd)
  (h:∀(kV doc pm:aa)(an:Option af)(dM ct:aa)(us:List aa),us.length=ps.length->bindArgs (Xf x qual (Qi st) (Zg st) (zc st) .none kV doc pm an dM ct) ⟨us,[]⟩=pure (ps.zip us)):Binds K fd ps []:=by
 obtain⟨oc,od,kV,doc,pm,an,dM,ct,ju,rfl,lk,jy⟩:=F.ex;exact .all (h kV doc pm an dM ct)
theorem yN{x qual:Str}{st:Stmt}{f:af}{oc:aa}{od an:Option af}{ju:Array (Option aa)}{kV doc pm dM ct:aa}(l:K.lookup f=some ⟨oc,od,.func (Xf x qual (Qi st) (Zg st) (zc st) .none kV doc pm an dM ct),ju⟩)
  (c:vg K dM qual=true) (k:Xe K (.ref f)=true):rO K x qual st f (Xf x qual (Qi st) (Zg st) (zc st) .none kV doc pm an dM ct):=⟨⟨oc,od,kV,doc,pm,an,dM,ct,ju,rfl,l,c⟩,k⟩
end
noncomputable def JV(H H':Hp):Prop:=∀ b o,H b=some o->H' b=some o
section
variable {κ:Type} [DecidableEq κ]
noncomputable def mP(kvs:List (κ×V))(k:κ):Option V:=(kvs.find? λkv=>decide (kv.1=k)).map (·.2)
noncomputable def zH(kvs:List (κ×V))(k:κ)(v:V):List (κ×V) :=
 if(kvs.any λkv=>decide (kv.1=k))=true then kvs.map (λkv=>if kv.1=k then(kv.1,v) else kv) else kvs++[(k,v)]
theorem Ew{p:κ×V}{r:List (κ×V)}{k:κ}(e:p.1=k):mP (p::r) k=some p.2:=by simp[mP,ur,e]
theorem Et{p:κ×V}{r:List (κ×V)}{k:κ}(e:¬ p.1=k):mP (p::r) k=mP r k:=by simp[mP,ur,e]
theorem J'(k:κ):∀ kvs:List (κ×V),(kvs.any λkv=>decide (kv.1=k))=(mP kvs k).isSome
 |[]=>rfl
 |p::r=>by
  rw[xv];by_cases e:p.1=k
  ·simp only[Ew e,decide_eq_true e,Bool.true_or,uD]
  ·rw[Et e,decide_eq_false e,Bool.false_or];exact J' k r
theorem qK(kvs:List (κ×V))(k:κ)(v:V):(zH kvs k v).length<=kvs.length+1:=by
 unfold zH;split
 ·rw[wc];lia
 ·rw[Xg,Uc,Wj];lia
theorem gY.isSome_eq{o:Option V}{u:Option aa}(r:gY o u):o.isSome=u.isSome:=by
 cases o with
 |none=>cases u with
  |none=>rfl
  |some _=>exact(show False from r).elim
 |some _=>cases u with
  |none=>exact(show False from r).elim
  |some _=>rfl
theorem KV.val{kvs:List (κ×V)}{vs:List (κ×aa)}(r:KV kvs vs)(k:κ):gY (mP kvs k) (gM vs k):=by
 unfold KV at r
 induction r with
 |nil=>exact True.intro
 |@cons p q ps qs h t ih =>
  obtain⟨h1,h2⟩:=h;by_cases e:p.1=k
  ·have e':q.1=k:=h1.symm.trans e;have b:gM (q::qs) k=some q.2:=by simp[gM,ur,e']
   rw[Ew e,b];exact h2
  ·have e':¬ q.1=k:=λz=>e (h1.trans z);have b:gM (q::qs) k=gM qs k:=by simp[gM,ur,e']
   rw[Et e,b];exact ih
theorem KV.any{kvs:List (κ×V)}{vs:List (κ×aa)}(r:KV kvs vs)(k:κ):(kvs.any λkv=>decide (kv.1=k))=vs.any λkv=>decide (kv.1=k):=by
 unfold KV at r
 induction r with
 |nil=>rfl
 |cons h t ih=>rw[xv,xv,ih,h.1]
theorem KV.pC{kvs:List (κ×V)}{vs:List (κ×aa)}(r:KV kvs vs)(k:κ){y:V}{u:aa}(ry:RelV y u) :
  KV (kvs.map λkv=>if kv.1=k then(kv.1,y) else kv) (vs.map λkv=>if kv.1=k then(kv.1,u) else kv):=by
 unfold KV at r ⊢
 induction r with
 |nil=>exact .nil
 |@cons p q ps qs h t ih =>
  rw[ub,ub];refine .cons ?_ ih;obtain⟨h1,h2⟩:=h;by_cases e:p.1=k
  ·rw[if_pos e,if_pos (h1.symm.trans e)];exact⟨h1,ry⟩
  ·rw[if_neg e,if_neg (λz=>e (h1.trans z))];exact⟨h1,h2⟩
theorem KV.put{kvs:List (κ×V)}{vs:List (κ×aa)}(r:KV kvs vs)(k:κ){y:V}{u:aa}(ry:RelV y u):KV (zH kvs k y) (stored vs k u):=by
 unfold zH stored;rw[r.any k];by_cases e:(vs.any λkv=>decide (kv.1=k))=true
 ·rw[if_pos e,if_pos e];exact r.pC k ry
 ·rw[if_neg e,if_neg e];exact bY.snoc r ⟨rfl,ry⟩
theorem KV.keys{kvs:List (κ×V)}{vs:List (κ×aa)}(r:KV kvs vs):kvs.map (·.1)=vs.map (·.1):=by
 unfold KV at r
 induction r with
 |nil=>rfl
 |cons h t ih=>rw[ub,ub,ih,h.1]
theorem KV.length{kvs:List (κ×V)}{vs:List (κ×aa)}(r:KV kvs vs):kvs.length=vs.length:=bY.length r
end
theorem CG{P:aj}{w:World}{k:Key}{u:aa}(r:RelV (kV k) u):(Qe P w).is k u=true:=by
 cases k with
 |inl i=>obtain⟨t,e⟩:=(show ∃ t,u=aa.int i t from r);subst e;exact zbC P w i t
 |inr x=>obtain⟨t,e⟩:=(show ∃ t,u=aa.str x t from r);subst e;exact QbC P w x t
theorem O6{P:aj}{w:World}:∀{ks:List Key}{us:List aa},Vals (ks.map kV) us->ItemsAre (Qe P w) ks us
 |[],_,r=>by rw[xn] at r;cases r;exact .nil
 |k::ks,_,r=>by
  rw[ub] at r;cases r with
  |cons h t=>exact .cons (CG h) (O6 t)
noncomputable abbrev KT(H:Hp):List (List Key×V)->List (List Key×af×aa)->Prop:=bY λp q=>p.1=q.1/\H q.2.1=some (.tup (p.1.map kV))/\RelV p.2 q.2.2
theorem KT.val{H:Hp}{kvs:List (List Key×V)}{xs:List (List Key×af×aa)}(r:KT H kvs xs)(k:List Key):gY (mP kvs k) ((jc xs k).map (·.2)):=by
 induction r with
 |nil=>exact True.intro
 |@cons p q ps qs h t ih =>
  obtain⟨h1,_,h2⟩:=h;by_cases e:p.1=k
  ·have e':q.1=k:=h1.symm.trans e;have b:jc (q::qs) k=some q.2:=by simp[jc,ur,e']
   rw[Ew e,b];exact h2
  ·have e':¬ q.1=k:=λz=>e (h1.trans z);have b:jc (q::qs) k=jc qs k:=by simp[jc,ur,e']
   rw[Et e,b];exact ih
theorem KT.pC{H:Hp}{kvs:List (List Key×V)}{xs:List (List Key×af×aa)}(r:KT H kvs xs)(k:List Key){y:V}{u:aa}(ry:RelV y u) :
  KT H (kvs.map λkv=>if kv.1=k then(kv.1,y) else kv) (xs.map (putAt k u)):=by
 induction r with
 |nil=>exact .nil
 |@cons p q ps qs h t ih =>
  rw[ub,ub];refine .cons ?_ ih;obtain⟨h1,h2,h3⟩:=h;unfold putAt;by_cases e:p.1=k
  ·rw[if_pos e,if_pos (h1.symm.trans e)];exact⟨h1,h2,ry⟩
  ·rw[if_neg e,if_neg (λz=>e (h1.trans z))];exact⟨h1,h2,h3⟩
theorem KT.put{H:Hp}{kvs:List (List Key×V)}{xs:List (List Key×af×aa)}(r:KT H kvs xs)(k:List Key){b:af}{y:V}{u:aa}(hb:H b=some (.tup (k.map kV)))(ry:RelV y u) :
  KT H (zH kvs k y) (d8 xs k b u):=by
 have e:(kvs.any λkv=>decide (kv.1=k))=(jc xs k).isSome:=by
  rw[J',(r.val k).isSome_eq,VE]
 unfold zH d8;rw[e];by_cases q:(jc xs k).isSome=true
 ·rw[if_pos q,if_pos q];exact r.pC k ry
 ·rw[if_neg q,if_neg q];exact bY.snoc r ⟨rfl,hb,ry⟩
theorem KT.keeps{H H':Hp}{kvs:List (List Key×V)}{xs:List (List Key×af×aa)}(r:KT H kvs xs)(ht:∀ b ys,H b=some (.tup ys)->H' b=some (.tup ys)):KT H' kvs xs :=
 bY.pK r λ_ _ z=>⟨z.1,ht _ _ z.2.1,z.2.2⟩
section
variable {P:aj} {w:World} {H:Hp} {h:Heap} {a:af}
theorem Mi{u:HO}(ok:fu P w H h)(e:Rd H a u):bg P w H h a u:=e.ok ok
theorem Eb{kvs:List (Key×V)}(ok:fu P w H h)(e:Rd H a (.dK kvs)):kvs.length<=sizeLine/\(a==br)=false/\∃ vs,KV kvs vs/\h.DictOf (Qe P w) a vs :=
 show bg P w H h a (.dK kvs) from Mi ok e
theorem JZ{kvs:List (Key×V)}(ok:fu P w H h)(e:H a=some (.dK kvs)):kvs.length<=sizeLine/\(a==br)=false/\∃ vs,KV kvs vs/\h.DictOf (Qe P w) a vs:=Eb ok (.inl e)
theorem BV{ks:List Key}(ok:fu P w H h)(e:H a=some (.tup (ks.map kV))):(aE (Qe P w)).is h ks a:=by
 obtain⟨_,aB,r,o,h1,h2,n,h3⟩:=(show bg P w H h a (.tup (ks.map kV)) from ok a _ e);exact⟨o,aB.toArray,n,h1,h2,h3,by simpa using O6 r⟩
theorem DW{kvs:List (List Key×V)}(ok:fu P w H h)(e:Rd H a (.dT kvs)):kvs.length<=sizeLine/\(a==br)=false /\
  ∃ xs,KT H kvs xs/\h.DictOfH (aE (Qe P w)) a xs:=by
 obtain⟨z,y,xs,r,o,es,ep,h1,h2,h3,h4,h5⟩:=(show bg P w H h a (.dT kvs) from Mi ok e);refine⟨z,y,xs,r,o,es,ep,h1,h2,h3,h4,λx hx=>?_,h5⟩;have all:∀{l:List (List Key×V)} {m:List (List Key×af×aa)},KT H l m->∀ x∈m,(aE (Qe P w)).is h x.1 x.2.1:=by
  intro l m q
  induction q with
  |nil=>intro x hx;exact nomatch hx
  |@cons p q ps qs hq t ih =>
   intro x hx
   rcases ua.mp hx with e|hx
   ·subst e;exact BV ok (by rw[<- hq.1];exact hq.2.1)
   ·exact ih x hx
 exact all r x hx
theorem Oe{kvs:List (List Key×V)}(ok:fu P w H h)(e:H a=some (.dT kvs)):kvs.length<=sizeLine/\(a==br)=false /\
  ∃ xs,KT H kvs xs/\h.DictOfH (aE (Qe P w)) a xs:=DW ok (.inl e)
end
noncomputable def BQ(H:Hp)(a:af)(y:V)(r:Option V):Prop :=
 (∃ kvs k,Rd H a (.dK kvs)/\y=kV k/\r=mP kvs k)\/∃ kvs k b,Rd H a (.dT kvs)/\y=.ref b/\H b=some (.tup (k.map kV))/\r=mP kvs k
noncomputable def mS(H:Hp)(a:af)(y v:V)(H':Hp):Prop :=
 (∃ kvs k,H a=some (.dK kvs)/\y=kV k/\kvs.length<sizeLine/\H'=upd H a (.dK (zH kvs k v))) \/
 ∃ kvs k b,H a=some (.dT kvs)/\y=.ref b/\H b=some (.tup (k.map kV))/\kvs.length<sizeLine/\H'=upd H a (.dT (zH kvs k v))
theorem mS.k{H:Hp}{a:af}{kvs:List (Key×V)}{k:Key}{v:V}(e:H a=some (.dK kvs))(hl:kvs.length<sizeLine):mS H a (kV k) v (upd H a (.dK (zH kvs k v))):=.inl ⟨kvs,k,e,rfl,hl,rfl⟩
section
variable {X:Cx} {pins:List (af×Obj)} {σ:St} {H:Hp} {s:ag} {a:af} {y v:V} {u r:aa} {o:Option V} {A:ay} {E:aa->ag->Prop}
theorem Inv.big(I:Inv X pins σ H s):br<s.heap.objs.size:=by
 have h:ao<s.heap.objs.size:=(I.mod.glob.keeps I.bk).lt;exact Xn (by decide) h
theorem QcN{Q:aa->ag->Prop}(hu:A.units+1<c7)(I:Inv X pins σ H s)(g:BQ H a y o)(ry:RelV y u)(h:∀ s',Inv X pins σ H s'->Q (.bool (!o.isSome)) s') :
  ai (ak X.prog X.w) A (aP .NotIn u (.ref a)) Q E s:=by
 rcases g with ⟨kvs,k,e,ey,l⟩|⟨kvs,k,b,e,ey,eb,l⟩
 ·subst ey;obtain⟨z,hd,vs,rel,dd⟩:=Eb I.aU e;refine wpAny_notIn_of (CG ry) hd dd.mapOf ?_;rw[<- (rel.val k).isSome_eq,<- l];exact h _ (I.tok _)
 ·subst ey;cases(show u=aa.ref b from ry);obtain⟨z,hd,xs,rel,dd⟩:=DW I.aU e;refine wpAny_notIn_heap (dO hu) (BV I.aU eb) hd dd ?_;have q:=(rel.val k).isSome_eq;rw[VE] at q;rw[<- q,<- l];exact h _ (I.tok _)
theorem CK{h':Heap}{t':Nat}{ob:HO}(I:Inv X pins σ H s)(mu:BI (H a))(hs:Heap.SameBut a s.heap h')(he:∃ q,h'.get? a=some q)(new:bg X.prog X.w (upd H a ob) h' a ob) :
  Inv X pins σ (upd H a ob) {s with heap:=h',toks:=t'} :=
 I.write (x:=a) (e:=a) mu (.inl rfl) (λb q hb z=>(hs.2 b hb).trans z) he new
theorem Kq{P:aj}{w:World}{H':Hp}{h':Heap}{kvs:List (Key×V)}{vs:List (Key×aa)}(z:kvs.length<=sizeLine)(hd:(a==br)=false)(rel:KV kvs vs)(dd:h'.DictOf (Qe P w) a vs) :
  bg P w H' h' a (.dK kvs):=⟨z,hd,vs,rel,dd⟩
theorem Qb9{H':Hp}{Q:Unit->ag->Prop}(hu:A.units+1<c7)(I:Inv X pins σ H s)(g:mS H a y v H')(ry:RelV y u)(rv:RelV v r)(h:∀ s',Inv X pins σ H' s'->Q () s') :
  ai (ak X.prog X.w) A (jI (.ref a) u r) Q E s:=by
 rcases g with ⟨kvs,k,e,ey,l,eH⟩|⟨kvs,k,b,e,ey,eb,l,eH⟩
 ·subst ey eH;obtain⟨z,hd,vs,rel,dd⟩:=JZ I.aU e;have hz:vs.length<=sizeLine:=by rw[<- rel.length];exact z
  have hl:(zH kvs k v).length<=sizeLine:=by have:=qK kvs k v;lia
  refine wpAny_setItem_pairs (hsz:=hz) (CG ry) dd λh' rj hs=>h _ ?_;have he:∃ q,h'.get? a=some q:=let ⟨q,_,_,hq,_⟩:=rj;⟨q,hq⟩;exact CK I (by rw[e];exact True.intro) hs he (Kq hl hd (rel.put k rv) rj)
 ·subst ey eH;cases(show u=aa.ref b from ry);obtain⟨z,hd,xs,rel,dd⟩:=Oe I.aU e;have hz:xs.length<=sizeLine:=by rw[<- bY.length rel];exact z
  have hl:(zH kvs k v).length<=sizeLine:=by have:=qK kvs k v;lia
  refine wpAny_setItem_heap (hsz:=hz) (dO hu) (BV I.aU eb) dd λh' rj hs=>h _ ?_;obtain⟨q,es,ep,hq,h2,h3,h4,_,h5⟩:=rj;refine CK I (by rw[e];exact True.intro) hs ⟨q,hq⟩ ⟨hl,hd,_,(rel.put k eb rv).keeps λc ys ec=>?_,q,es,ep,hq,h2,h3,h4,h5⟩;rw[Zd (Oh ec e (λz=>nomatch z))];exact ec
end
noncomputable def Mr(ty td:TE):TE:=λσ H Q=>ty σ H λy H1=>td σ H1 λx H2=>∃ a o,x=.ref a/\BQ H2 a y o/\Q (.bl (!o.isSome)) H2
noncomputable def uT(td ty tv:TE):TS:=λD σ H=>tv σ H λv H1=>td σ H1 λx H2=>ty σ H2 λy H3=>∃ a H4,x=.ref a/\mS H3 a y v H4/\D.nx σ H4
section
variable {X:Cx} {o i e value:Expr} {pos pos' F7:Pos} {td ty tv:TE}
theorem Ol(hu:X.A.units+1<c7)(hi:PE X i ty)(ho:PE X o td):PC X .NotIn i o (Mr ty td):=by
 intro pins s σ H Q I h;refine bh (hi pins s σ H _ I h) λiv s1 ⟨y,H1,I1,ry,q1⟩=>bh (ho pins s1 σ H1 _ I1 q1) λu s2 ⟨x,H2,I2,rx,a,ov,ex,g,q2⟩=>?_;subst ex;obtain rfl:u=aa.ref a:=rx;exact QcN hu I2 g ry λs3 I3=>⟨.bl (!ov.isSome),H2,I3,rfl,q2⟩
theorem QcV(hu:X.A.units+1<c7)(ho:PE X o td)(hi:PE X i ty)(hv:PE X value tv)(hs:bp value (some (.Subscript o i pos')) pos.line X.env=pure false) :
  PS X (.Assign [.Subscript o i pos'] value pos) (uT td ty tv):=by
 intro pins s σ H D I h;refine wpAny_Assign_Subscript (bh (hv pins s σ H _ I h) λr s1 ⟨v,H1,I1,rv,q1⟩=>bh (ho pins s1 σ H1 _ I1 q1) λu s2 ⟨x,H2,I2,rx,q2⟩=>bh (hi pins s2 σ H2 _ I2 q2) λiv s3 ⟨y,H3,I3,ry,a,H4,ex,g,q3⟩=>?_) hs;subst ex;obtain rfl:u=aa.ref a:=rx;exact Qb9 hu I3 g ry rv λs4 I4=>⟨σ,H4,I4,q3⟩
end
theorem ycr{P:aj}{w:World}{H:Hp}(h:Heap)(hb:br<h.objs.size):bg P w H (h.push {cls:=.type "dict",data:=.dict #[]}) h.objs.size (.dK []) :=
 ⟨wm _,beq_eq_false_iff_ne.mpr (Ne.symm (Xc hb)),[],.nil,Heap.DictOf.new h⟩
theorem Ld{P:aj}{w:World}{H:Hp}(h:Heap)(hb:br<h.objs.size):bg P w H (h.push {cls:=.type "dict",data:=.dict #[]}) h.objs.size (.dT []) :=
 ⟨wm _,beq_eq_false_iff_ne.mpr (Ne.symm (Xc hb)),[],.nil,_,#[],0,Ub _ rfl,⟨rfl,rfl,rfl⟩,rfl,rfl,List.nodup_nil⟩
noncomputable def qdc:TE:=λ_ H Q=>∀ p,H p=none->Q (.ref p) (upd H p (.dT []))
section
variable {X:Cx} {pos:Pos}
theorem QcC:PE X (.Dict [] [] pos) qdc:=λpins s σ H Q I h =>
 wpAny_Dict_empty ⟨.ref s.heap.objs.size,_,I.laid (a:=s.heap.objs.size) (o:=.dT []) (t':=s.toks) (λ_ _ q=>wa _ q) (xb _) (Ld s.heap I.big),rfl,h _ (I.aU.fresh (xb _))⟩
end
noncomputable def GY:List (TE×TE)->St->Hp->(List (V×V)->Hp->Prop)->Prop
 |[],_,H,Q=>Q [] H
 |(tk,tv)::r,σ,H,Q=>tk σ H λx H1=>tv σ H1 λy H2=>GY r σ H2 λps H3=>Q ((x,y)::ps) H3
noncomputable abbrev VV:List (V×V)->List (aa×aa)->Prop:=bY λp q=>RelV p.1 q.1/\RelV p.2 q.2
noncomputable def D4(X:Cx)(pos:Pos)(keys:List (Option Expr))(values:List Expr)(nz:List (TE×TE)):Prop :=
 ∀(pins:List (af×Obj)) (s:ag) (σ:St) (H:Hp) (Q:List (V×V)->Hp->Prop),Inv X pins σ H s->GY nz σ H Q ->
  ai (ak X.prog X.w) X.A (evalPairs (pairTrees keys values X.env pos)) (λvs s'=>∃ ps H',Inv X pins σ H' s'/\VV ps vs/\Q ps H') X.xe s
theorem zcR{X:Cx}{pos:Pos}:D4 X pos [] [] []:=λpins s σ H Q I h=>pairTrees_nil_walk ⟨[],H,I,.nil,h⟩
theorem Mm{X:Cx}{pos:Pos}{k v:Expr}{ks:List (Option Expr)}{vs:List Expr}{tk tv:TE}{nz:List (TE×TE)}(hk:PE X k tk)(hv:PE X v tv)(hr:D4 X pos ks vs nz) :
  D4 X pos (some k::ks) (v::vs) ((tk,tv)::nz):=λpins s σ H Q I h =>
 pairTrees_cons_walk (bh (hk pins s σ H _ I h) λu s1 ⟨x,H1,I1,rx,q1⟩=>bh (hv pins s1 σ H1 _ I1 q1) λw2 s2 ⟨y,H2,I2,ry,q2⟩ =>
  bh (hr pins s2 σ H2 _ I2 q2) λws s3 ⟨ps,H3,I3,rel,q3⟩=>⟨(x,y)::ps,H3,I3,.cons ⟨rx,ry⟩ rel,q3⟩)
noncomputable def rW(kvs more:List (Key×V)):List (Key×V):=more.foldl (λacc kv=>zH acc kv.1 kv.2) kvs
theorem KV.merge:∀{more:List (Key×V)} {rs:List (Key×aa)} {kvs:List (Key×V)} {vs:List (Key×aa)},KV more rs->KV kvs vs->KV (rW kvs more) (merged vs rs):=by
 intro more rs kvs vs r;unfold KV at r
 induction r generalizing kvs vs with
 |nil=>intro q;exact q
 |@cons p q ps qs h t ih =>
  intro r0;have e:KV (zH kvs p.1 p.2) (stored vs q.1 q.2):=by
   have:=r0.put p.1 h.2;rw[<- h.1];exact this
  exact ih e
theorem OH:∀(more kvs:List (Key×V)),(rW kvs more).length<=kvs.length+more.length
 |[],kvs=>by show kvs.length<=kvs.length+0;lia
 |p::r,kvs=>by
  have h1:=OH r (zH kvs p.1 p.2);have h2:=qK kvs p.1 p.2;show(rW (zH kvs p.1 p.2) r).length<=_;rw[Uc];lia
theorem Pk{P:aj}{w:World}:∀{kvs:List (Key×V)} {ws:List (aa×aa)},VV (kvs.map λkv=>(kV kv.1,kv.2)) ws->∃ rs,Carries (Qe P w) ws rs/\KV kvs rs
 |[],_,r=>by rw[xn] at r;cases r;exact⟨[],True.intro,.nil⟩
 |p::kvs,_,r=>by
  rw[ub] at r;cases r with
  |@cons a b as bs h t =>
   obtain⟨rs,c,q⟩:=Pk (P:=P) (w:=w) t;obtain⟨b1,b2⟩:=b;exact⟨(p.1,b2)::rs,⟨CG h.1,rfl,c⟩,.cons ⟨rfl,h.2⟩ q⟩
noncomputable def tZ(nz:List (TE×TE)):TE:=λσ H Q=>∀ p,H p=none->GY nz σ (upd H p (.dK [])) λps H2=>H2 p=some (.dK [])/\∃ kvs:List (Key×V),ps=kvs.map (λkv=>(kV kv.1,kv.2))/\kvs.length<=15/\Q (.ref p) (upd H2 p (.dK (rW [] kvs)))
theorem ZcI{X:Cx}{pos:Pos}{keys:List (Option Expr)}{values:List Expr}{nz:List (TE×TE)}(h:D4 X pos keys values nz)(mJ:keys.all (·.isSome)=true)(hl:keys.length=values.length)(h0:keys≠[])
  (h15:keys.length<=15):PE X (.Dict keys values pos) (tZ nz):=by
 intro pins s σ H Q I q;have hn:=I.aU.fresh (xb s.heap.objs.size);have I1:=I.laid (a:=s.heap.objs.size) (o:=.dK []) (h':=s.heap.push {cls:=.type "dict",data:=.dict #[]}) (t':=s.toks) (λ_ _ q=>wa _ q) (xb _) (ycr s.heap I.big);refine wpAny_Dict_walk (knd:=Qe X.prog X.w) mJ hl h0 h15 (bh (h pins _ σ _ _ I1 (q _ hn)) λws s2 ⟨ps,H2,I2,rel,e,kvs,ep,lk,q2⟩=>?_);subst ep;obtain⟨rs,c,rk⟩:=Pk (P:=X.prog) (w:=X.w) rel;obtain⟨z,hd,vs0,r0,dd⟩:=JZ I2.aU e;cases r0;refine⟨rs,c,dd,λh' rj hs=>⟨.ref s.heap.objs.size,_,?_,rfl,q2⟩⟩;have hz:(rW [] kvs).length<=sizeLine:=by
  have h1:=OH kvs [];rw[Wj] at h1;rw[dh];lia
 have he:∃ q,h'.get? s.heap.objs.size=some q:=let ⟨q,_,_,hq,_⟩:=rj;⟨q,hq⟩;exact CK I2 (by rw[e];exact True.intro) hs he (Kq hz hd (rk.merge .nil) rj)
structure M1 (X:Cx) (o:Expr) (m:Str) (apos:Pos) (e:Expr) (fO:Pos):Prop where
 base:aZ o m X.env (eval o X.env)=eval o X.env
 few:((bj fO (au [e] X.env)).all (λx=>!x.1)&&(dw fO (bK [] X.env)).all (λx=>x.1.isSome)
  && decide (([e]:List Expr).length+([]:List c6).length+(if([]:List c6).isEmpty then 0 else 1)<30))=true
 line:(apos.endLine==fO.line)=true
 trees:bj fO (au [e] X.env)=[(false,eval e X.env)]
noncomputable def PB(H:Hp)(a:af):Prop:=(∃ kvs,Rd H a (.dK kvs))\/∃ kvs,Rd H a (.dT kvs)
theorem Zdn{X:Cx}{pins:List (af×Obj)}{σ:St}{H:Hp}{s:ag}{a:af}(I:Inv X pins σ H s)(d:PB H a) :
  s.TypeIs (.ref a) "dict"/\(∀ b,aa.ref a=.ref b->∃ ob,s.heap.get? b=some ob/\ob.dict=none)/\(a==br)=false:=by
 rcases d with ⟨kvs,e⟩|⟨kvs,e⟩
 ·obtain⟨_,hd,vs,_,dd⟩:=Eb I.aU e;refine⟨dd.typeIs,λb q=>?_,hd⟩;cases q;obtain⟨ob,_,_,h1,h2,_⟩:=dd;exact⟨ob,h1,h2.2.1⟩
 ·obtain⟨_,hd,xs,_,dd⟩:=DW I.aU e;refine⟨dd.typeIs,λb q=>?_,hd⟩;cases q;obtain⟨ob,_,_,h1,h2,_⟩:=dd;exact⟨ob,h1,h2.2.1⟩
end L2
end
section
namespace M3
open PySem
open Sem (wp)
noncomputable def Zf(env:Env):List (Str×az)->List (Str×af)->List (Str×af)
 |[],cs=>cs
 |(n,k)::r,cs=>Zf env r (if(k == .free)=true then(n,(env.cells.lookup n).getD 0)::cs else cs)
theorem KU(env:Env):∀(names:List (Str×az)) (cs:List (Str×af)),(∀ y∈names,y.2=.free->∃ c,env.cells.lookup y.1=some c) ->
  (forIn names cs λ(y:Str×az)(r:List (Str×af))=>if(y.2 == .free)=true then do let c<-jQ env y.1;pure (ForInStep.yield ((y.1,c)::r)) else pure (ForInStep.yield r):Sem (List (Str×af)))=pure (Zf env names cs)
 |[],cs,_=>rfl
 |(n,k)::r,cs,h=>by
  have ih:=λgb=>KU env r gb λy hy=>h y (Uf _ hy);rw[vA];by_cases hk:(k == .free)=true
  ·obtain⟨c,e⟩:=h (n,k) Wh (by simpa using hk);have e':jQ env n=pure c:=by unfold jQ;rw[e]
   show(if(k == .free)=true then _ else _) >>= _=_;rw[if_pos hk];show(jQ env n >>= λc=>_) >>= _=_;rw[e'];show(forIn r ((n,c)::cs) _:Sem _)=_;rw[ih];show _=pure (Zf env r (if(k == .free)=true then(n,(env.cells.lookup n).getD 0)::cs else cs));rw[if_pos hk,e];rfl
  ·show(if(k == .free)=true then _ else _) >>= _=_;rw[if_neg hk];show(forIn r cs _:Sem _)=_;rw[ih];show _=pure (Zf env r (if(k == .free)=true then(n,(env.cells.lookup n).getD 0)::cs else cs));rw[if_neg hk]
theorem ML{env:Env}{scope:aA}(h:∀ y∈scope.names,y.2=.free->∃ c,env.cells.lookup y.1=some c):gE scope env=pure (Zf env scope.names []):=by
 have q:=KU env scope.names [] h;unfold gE;have e:∀(t:Sem (List (Str×af))),t=pure (Zf env scope.names [])->(t >>= λr=>pure r)=pure (Zf env scope.names []):=λt z=>by rw[z];rfl
 refine e _ (Eq.trans ?_ q)
 congr 1
end M3
end
section
namespace M3
open PySem
open Sem (wp)
section
variable {prog:aj} {w:World} {A:ay} {R:gJ->ag->Prop} {s:ag}
noncomputable abbrev OX(ifs:List Expr)(env:Env):Sem Bool:=forIn ifs true λc r=>if r=true then do let ok<-jN c env (eval c env);pure (ForInStep.yield ok) else pure (ForInStep.yield r)
theorem Qcf{elt target iter:Expr}{ifs:List Expr}{scope:aA}{pos:Pos}{it acc:aa}{env:Env}(I:Nat->ag->Prop)
  (turn:∀ n s,I n s->ai (ak prog w) A (c8 it) (λr s1=>match r with
   |none=>R (.ok .next) s1
   |some v=>ai (ak prog w) A (cy target it v) (λ_ s2=>ai (ak prog w) A (eL target env v) (λ_ s3 =>
     ai (ak prog w) A (OX ifs env) (λok s4=>if ok=true then ai (ak prog w) A (eval elt env) (λx s5 =>
       ai (ak prog w) A (call (.builtin "list.append") [acc,x]) (λ_ s6=>∃ m,m<n/\I m s6) (λ_ _=>False) s5) (λ_ _=>False) s4
      else ∃ m,m<n/\I m s4) (λ_ _=>False) s3) (λ_ _=>False) s2) (λ_ _=>False) s1) (λ_ _=>False) s)
  (n:Nat) (h:I n s):bM (ak prog w) A (.compLoop (.ListComp elt [⟨target,iter,ifs,0⟩] scope pos) 0 it acc env) R s:=by
 refine codeAny_loop rfl I (λn s hI=>?_) n h;show ai _ A ((compTurn (.ListComp elt [⟨target,iter,ifs,0⟩] scope pos) 0 it acc env).onRaise (λx=>do noteFrame x env;theTreesLotGoes x)) _ _ s;refine wpAny_noted ?_;rw[compTurn_list];refine ae (bS (ae (aW (turn n s hI) (λr s1 h1=>?_) λ_ _ z=>z.elim)));cases r with
 |none=>exact ah h1
 |some v =>
  refine ae (aW h1 (λ_ s2 h2=>?_) λ_ _ z=>z.elim);refine ae (aW h2 (λ_ s3 h3=>ae (aW h3 (λok s4 h4=>?_) λ_ _ z=>z.elim)) λ_ _ z=>z.elim);cases ok with
  |false=>exact ah ⟨rfl,h4⟩
  |true =>
   refine ae (ae (aW h4 (λx s5 h5=>?_) λ_ _ z=>z.elim));exact ae (aW h5 (λ_ s6 h6=>ah (ah ⟨rfl,h6⟩)) λ_ _ z=>z.elim)
end
noncomputable abbrev oj(C t:af)(tb:aa):Obj:={cls:=.ref C,data:=.fields #[.ref t,tb,.none,.none,.bool false,.none]}
inductive Tb (h:Heap) (x:af):aa->Prop where
 |no:Tb h x .none
 |at {T:af} {o:Obj} {ts:Array aa} (ne:T≠x) (ho:h.get? T=some o) (hd:o.data=.fields ts) (h3:ts[3]?=some .none):Tb h x (.ref T)
structure lj (fs:List af) (x:af) (tb:aa) (h h':Heap):Prop where
 keep:∀ b o,b∉fs->b≠x->aa.ref b≠tb->h.get? b=some o->h'.get? b=some o
 slot:∀ b o,b∈fs->b≠x->aa.ref b≠tb->h.get? b=some o->∃ sl,h'.get? b=some {o with slots:=sl}
section
variable {M:Model} {A:ay} {E:aa->ag->Prop} {s:ag}
theorem Lx{base:Heap}{env:Env}{outer:List Env}{L x C t:af}{head LL:aa}{had:Bool}{Q:Unit->ag->Prop}
  (Dk:A.frames=some (env::outer)) (hl:s.heap.FunFrames base (env::outer)) (hf:env.frame=some L) (he:s.heap.get? x=some (oj C t LL))
  (h:∀ h' T,(∀ b o,b∉(env::outer).filterMap (·.frame)->b≠x->s.heap.get? b=some o->h'.get? b=some o) ->
   (∀ b o,b∈(env::outer).filterMap (·.frame)->s.heap.get? b=some o->∃ sl,h'.get? b=some {o with slots:=sl}) ->
   h'.get? x=some (oj C t (.ref T))->Tb h' x (.ref T)->s.heap.objs.size<=T->Q () {s with heap:=h'}) :
  ai M A (do let a<-frameOf env;let pl<-entryPlaceOf L had;let b<-EntryCells.newEntry head a .none (dB L) .none pl;setField (.ref x) 1 b) (λ_ s'=>ai M A (setFlight (.ref x) none) Q E s') E s:=by
 have hx:x∉(env::outer).filterMap (·.frame):=λhm=>by
  obtain⟨_,o,ho,nf⟩:=hl.mem hm;rw[he] at ho;cases ho;exact nf _ rfl
 refine ae (wpAny_frameOf_fun Dk hl hf λh1 k1=>?_);refine ae (wpAny_entryPlaceOf λpl cF=>?_);unfold EntryCells.newEntry newFields;refine ae (aS ?_ (cF.sizeOk5 _ _ _ _ _));generalize pY:([head,aa.ref L,aa.none,dB L,aa.none]++(if pl.isEmpty=true then Vc 6 aa.none else pl))=cells;have len:3<cells.length:=by rw[<- pY];simp only[Xg,Uc,Wj];lia
 have e1:h1.get? x=some (oj C t LL):=(k1.2.1 x hx).trans he;have e2:=wa {cls:=.type "traceback",dict:=none,data:=.fields cells.toArray} e1;have neT:x≠h1.objs.size:=Xc (Xa e1);refine cP e2 rfl (by simp) ?_;have e3:=wq (Obj.mapFields (·.setIfInBounds 1 (aa.ref h1.objs.size))) e2 (Obj.isFreed_of_fields (Obj.data_mapFields rfl _));have e4:((h1.push {cls:=.type "traceback",dict:=none,data:=.fields cells.toArray}).update x (Obj.mapFields (·.setIfInBounds 1 (aa.ref h1.objs.size)))).get? h1.objs.size=some {cls:=.type "traceback",dict:=none,data:=.fields cells.toArray} :=
  (Xk _ _ neT).trans (Ub h1 rfl)
 unfold setFlight;refine ae (aK e3 (vs:=#[.ref t,.ref h1.objs.size,.none,.none,.bool false,.none]) (x:=.ref h1.objs.size) rfl rfl ?_);rw[if_pos (show(aa.ref h1.objs.size != aa.none)=true from by simp)];refine cP e4 rfl (by simpa using len) ?_;have e5:=wq (Obj.mapFields (·.setIfInBounds 3 ((none:Option af).elim aa.none λf=>dB f))) e4 (Obj.isFreed_of_fields (Obj.data_mapFields rfl _));have sz:h1.objs.size=s.heap.objs.size:=k1.1;have other:∀ b o,b≠x->h1.get? b=some o->(((h1.push {cls:=.type "traceback",dict:=none,data:=.fields cells.toArray}).update x (Obj.mapFields (·.setIfInBounds 1 (aa.ref h1.objs.size)))).update h1.objs.size (Obj.mapFields (·.setIfInBounds 3 ((none:Option af).elim aa.none λf=>dB f)))).get? b=some o:=λb o nb eb=>by
  rw[Xk _ _ (Um (Xa eb)),Xk _ _ (Ne.symm nb)];exact wa _ eb
 refine h _ h1.objs.size (λb o hb nb eb=>other b o nb ((k1.2.1 b hb).trans eb)) (λb o hb eb=>?_) ?_ (.at (Ne.symm neT) e5 (Obj.data_mapFields rfl _) ?_) (uq sz.symm)
 ·obtain⟨sl,q⟩:=k1.2.2 b o eb;exact⟨sl,other b _ (λz=>hx (z ▸ hb)) q⟩
 ·rw[Xk _ _ (Ne.symm neT)];exact e3
 ·simp[Array.getElem?_setIfInBounds,len]
theorem ycb{base:Heap}{env:Env}{outer:List Env}{L x C t:af}{tb:aa}{Q:Unit->ag->Prop}
  (Dk:A.frames=some (env::outer)) (hl:s.heap.FunFrames base (env::outer)) (hf:env.frame=some L) (he:s.heap.get? x=some (oj C t tb)) (ht:Tb s.heap x tb)
  (h:∀ h' T,lj ((env::outer).filterMap (·.frame)) x tb s.heap h'->h'.get? x=some (oj C t (.ref T))->Tb h' x (.ref T)->s.heap.objs.size<=T->Q () {s with heap:=h'}) :
  ai M A (leaving env (.ref x)) Q E s:=by
 unfold leaving noteFrame;simp only[hf];refine ae (ae (aK he rfl (x:=tb) rfl ?_));cases ht with
 |no =>
  rw[if_neg (by decide)];exact Lx Dk hl hf he λh' T k1 k2 e1 e2 e3=>h h' T ⟨λb o hb nb _ eb=>k1 b o hb nb eb,λb o hb _ _ eb=>k2 b o hb eb⟩ e1 e2 e3
 |@«at» T o ts ne ho hd h3 =>
  rw[if_pos (show(aa.ref T != aa.none)=true from by simp)];refine ae (aK ho hd h3 ?_);rw[if_neg (show ¬((aa.none==dB L)=true) from by simp[dB])];refine ae (cP ho hd (Array.getElem?_eq_some_iff.mp h3).1 ?_);have other:∀ b,b≠T->(s.heap.update T (Obj.mapFields (·.setIfInBounds 3 aa.none))).get? b=s.heap.get? b:=λb nb=>Xk _ _ (Ne.symm nb);have Hc:∀ b o,s.heap.get? b=some o->(∀ vs,o.data≠.fields vs)->b≠T:=λb o eb nf z=>by
   rw[z,ho] at eb;cases eb;exact nf ts hd
  refine Lx (s:={s with heap:=s.heap.update T (Obj.mapFields (·.setIfInBounds 3 aa.none))}) Dk (hl.of_keeps λb o eb nf=>⟨o,(other b (Hc b o eb nf)).trans eb,rfl⟩) hf ((other x (Ne.symm ne)).trans he)
   λh' T' k1 k2 e1 e2 e3=>h h' T' ⟨λb o hb nb nt eb=>k1 b o hb nb ((other b λz=>nt (z ▸ rfl)).trans eb),λb o hb _ nt eb=>k2 b o hb ((other b λz=>nt (z ▸ rfl)).trans eb)⟩ e1 e2 ?_
  have NA:(s.heap.update T (Obj.mapFields (·.setIfInBounds 3 aa.none))).objs.size<=T':=e3;rw[Heap.size_after_update] at NA;exact NA
end
end M3
end
section
namespace M3
open PySem
open Sem (wp)
end M3
end
section
namespace M3
open PySem
open Sem (wp)
section
variable {prog:aj} {w:World} {A:ay} {E:aa->ag->Prop} {s:ag}
theorem Yau{r l:af}{i:Nat}{items:Array aa}{x:aa}{Q:aa->ag->Prop}(ri:s.heap.IsTupleIter r l i)(hl:s.heap.IsTuple l items)(hx:items[i]?=some x)
  (hQ:∀ h',h'.IsTupleIter r l (i+1)->Heap.SameBut r s.heap h'->Q x {s with heap:=h'}):ai (ak prog w) A (aq.SmallTypes.nextOf (.ref r)) Q E s:=by
 obtain⟨o,ho,hc,hd⟩:=id ri;obtain⟨ol,HE,_,nl,Ib⟩:=hl;unfold aq.SmallTypes.nextOf;apply ae;refine aY (name:=Str.ofString "__next__") ri.typeIs F.slot_tuple_iterator_next (bo F.slot_tuple_iterator_next ri.typeIs F.entry_tuple_iterator_next ?_ (F.args_tuple_iterator_next_1 _));show ai _ _ (field (.ref r) 0 >>= _) _ _ s;apply ae;apply aK ho hd (x:=.ref l) rfl;show ai _ _ (if(aa.ref l==aa.none)=true then _ else _) _ _ s;rw[if_neg (λz:(aa.ref l==aa.none)=true=>absurd z xj)];show ai _ _ (field (.ref r) 1 >>= _) _ _ s;apply ae;apply aK ho hd (x:=.int i 0) rfl;show ai _ _ (fU (.ref l) >>= _) _ _ s;apply ae;apply aR HE Ib;simp only[Xq,hx];apply ae;refine cP ho hd (by simp) (ah ⟨x,rfl,ah (hQ _ ⟨_,wq _ ho (Obj.isFreed_of_fields (Obj.data_mapFields hd _)),(Obj.cls_mapFields ..).trans hc,?_⟩ (Heap.SameBut.update ..))⟩);rw[Obj.data_mapFields hd];simp[dB]
theorem ZaD{r l:af}{i:Nat}{items:Array aa}{Q:aa->ag->Prop}(hh:A.handled=none)(ri:s.heap.IsTupleIter r l i)(hl:s.heap.IsTuple l items)(hx:items[i]?=none)
  (hE:∀ h' e,Heap.ExtBut r s.heap h'->(∃ o,h'.get? e=some o/\o.cls=.type "StopIteration")->E (.ref e) {s with heap:=h'}):ai (ak prog w) A (aq.SmallTypes.nextOf (.ref r)) Q E s:=by
 obtain⟨o,ho,hc,hd⟩:=id ri;obtain⟨ol,HE,_,nl,Ib⟩:=hl;unfold aq.SmallTypes.nextOf;apply ae;refine aY (name:=Str.ofString "__next__") ri.typeIs F.slot_tuple_iterator_next (bo F.slot_tuple_iterator_next ri.typeIs F.entry_tuple_iterator_next ?_ (F.args_tuple_iterator_next_1 _));show ai _ _ (field (.ref r) 0 >>= _) _ _ s;apply ae;apply aK ho hd (x:=.ref l) rfl;show ai _ _ (if(aa.ref l==aa.none)=true then _ else _) _ _ s;rw[if_neg (λz:(aa.ref l==aa.none)=true=>absurd z xj)];show ai _ _ (field (.ref r) 1 >>= _) _ _ s;apply ae;apply aK ho hd (x:=.int i 0) rfl;show ai _ _ (fU (.ref l) >>= _) _ _ s;apply ae;apply aR HE Ib;simp only[Xq,hx];apply ae;apply cA;apply ae;refine cP ho hd (by simp) ?_;show ai _ _ (newExc (.type "StopIteration") [] >>= _) _ _ _;apply ae;simp only[newExc,newTuple];apply ae;refine aS ?_ (by size_fits);refine ae (m:=i6 _ _) (fI (a:=aa.none) (by first|rfl|(unfold i6;rfl)) (aS ?_ (by size_fits)));refine wpAny_raiseNew_none (by first|exact hh|(show A.in1.handled=_;exact hh)) (hE _ _ ((((Heap.SameBut.update ..).extBut).push _).push _) ⟨_,Ub _ rfl,rfl⟩)
theorem qbO(hh:A.handled=none)(r l:af)(ji:l≠r)(items:Array aa) :
  fw prog w A r [r,l] items.size (λi v=>items[i]?=some v) (λi h=>h.IsTupleIter r l i/\h.IsTuple l items) where
 live:=λ_ _ st=>let ⟨o,ho,_⟩:=st.1;⟨o,ho⟩
 frame:=λ_ _ _ st hk=>let ⟨⟨o,e,c⟩,⟨u,f,d⟩⟩:=st;⟨⟨o,hk r (by simp) o e,c⟩,⟨u,hk l (by simp) u f,d⟩⟩
 item:=λi s Q E hi st hQ=>Yau st.1 st.2 (x:=items[i]) (by simp[hi]) λh' a b=>hQ _ h' s.toks (by simp[hi]) ⟨a,let ⟨u,f,d⟩:=st.2;⟨u,b.extBut l u ji f,d⟩⟩ b
 done:=λs Q E st hE=>ZaD hh st.1 st.2 (by simp) hE
structure sM (z TI TO i1 i2:af) (k9 k8:List af):Prop where
 F8:TI≠z
 ox:TO≠z
 tN:TI≠TO
 LK:TI≠i1
 LJ:TI≠i2
 z1:z∉k9
 z2:z∉k8
 t1:TO∉k9
 t2:TO∉k8
 m1:i1∈k9
 m2:i2∈k8
 a1:i1∉k8
 a2:i2∉k9
variable {z TI TO i1 i2:af} {k9 k8:List af} {n1 n2 k:Nat} {P1 P2:Nat->aa->Prop} {S1 S2:Nat->Heap->Prop} {a b:aa}
theorem Qch{Q:aa->ag->Prop}(Z:sM z TI TO i1 i2 k9 k8)(D1:fw prog w A i1 k9 n1 P1 S1)(D2:fw prog w A i2 k8 n2 P2 S2)(hz:dG s.heap z TI TO .none)(hI:bu s.heap TI (.ref i1) (.ref i2))(hO:bu s.heap TO a b)
  (s1:S1 k s.heap) (s2:S2 k s.heap) (k1:k<n1) (k2:k<n2)
  (hQ:∀ x y h' tk,P1 k x->P2 k y->dG h' z TI TO (dB s.heap.objs.size)->bu h' TO x y->S1 (k+1) h'->S2 (k+1) h'->bu h' s.heap.objs.size x y->h'.objs.size=s.heap.objs.size+1 ->
   (∀ c o,c≠z->c≠TO->c≠i1->c≠i2->s.heap.get? c=some o->h'.get? c=some o)->Q (.ref s.heap.objs.size) {s with heap:=h',toks:=tk}) :
  ai (ak prog w) A (aq.«zip.__next__» ⟨[.ref z],[]⟩) (λfin s'=>∃ v,fin=.done (.ret v)/\Q v s') E s:=by
 have C2:i1≠z:=λe=>Z.z1 (e ▸ Z.m1);have Hl:i2≠z:=λe=>Z.z2 (e ▸ Z.m2);have Hn:i1≠TO:=λe=>Z.t1 (e ▸ Z.m1);have C7:i2≠TO:=λe=>Z.t2 (e ▸ Z.m2);have i12:i1≠i2:=λe=>Z.a1 (e ▸ Z.m2);show ai _ _ (field (.ref z) 2 >>= _) _ _ _;apply ae;apply aK hz rfl (x:=.bool false) rfl;show ai _ _ (field (.ref z) 3 >>= _) _ _ _;apply ae;apply aK hz rfl (x:=.ref TI) rfl;apply ae;apply aR hI rfl;show ai _ _ (aq.SmallTypes.ownedTupleIsFree (.ref z) >>= _) _ _ _;apply ae;unfold aq.SmallTypes.ownedTupleIsFree;apply ae;apply aK hz rfl (x:=.none) rfl;apply ah;simp only[if_true];apply ae;apply cA;apply ae;apply aK hz rfl (x:=.ref TO) rfl;apply ae;refine bq hz (by simp) λh1 y1 g1=>?_;replace y1:dG h1 z TI TO .ellipsis:=y1;apply ae;simp only[wA,List.zipIdx_nil,vA,UB];apply ae;apply ae;apply eD;show ai _ _ (aq.SmallTypes.nextOf (.ref i1) >>= _) _ _ _;apply ae;refine D1.item k _ _ _ k1 (D1.frame _ _ _ s1 λc hc o e=>g1.extBut c o (λq=>Z.z1 (q ▸ hc)) e) λx h2 t2 px q2 g2=>ah ?_;have o2:bu h2 TO a b:=g2.extBut _ _ (Ne.symm Hn) (g1.extBut _ _ Z.ox hO);apply ae;apply aR o2 rfl;apply ae;refine dg o2 λh3 o3 g3=>ae (cD (ah ?_));replace o3:bu h3 TO x b:=o3;apply ae;apply ae;apply eD;show ai _ _ (aq.SmallTypes.nextOf (.ref i2) >>= _) _ _ _;apply ae;refine D2.item k _ _ _ k2 (D2.frame _ _ _ s2 λc hc o e=>g3.extBut c o (λq=>Z.t2 (q ▸ hc)) (g2.extBut c o (λq=>Z.a1 (q ▸ hc)) (g1.extBut c o (λq=>Z.z2 (q ▸ hc)) e))) λy h4 t4 py q4 g4=>ah ?_;have o4:bu h4 TO x b:=g4.extBut _ _ (Ne.symm C7) o3;apply ae;apply aR o4 rfl;apply ae;refine dg o4 λh5 o5 g5=>ae (cD (ah (ah ?_)));replace o5:bu h5 TO x y:=o5;apply ae;apply aR o5 rfl;apply ae;refine wpAny_newTuple ?_;have sz:h5.objs.size=s.heap.objs.size:=by rw[g5.1,g4.1,g3.1,g2.1,g1.1]
 have y5:dG h5 z TI TO .ellipsis:=g5.extBut _ _ (Ne.symm Z.ox) (g4.extBut _ _ (Ne.symm Hl) (g3.extBut _ _ (Ne.symm Z.ox) (g2.extBut _ _ (Ne.symm C2) y1)));have c5:∀ c o,c≠z->c≠TO->c≠i1->c≠i2->s.heap.get? c=some o->h5.get? c=some o:=λc o c1 c2 c3 c4 e=>g5.extBut _ _ c2 (g4.extBut _ _ c4 (g3.extBut _ _ c2 (g2.extBut _ _ c3 (g1.extBut _ _ c1 e))));have r1:S1 (k+1) h5:=D1.frame _ _ _ q2 λc hc o e=>g5.extBut c o (λq=>Z.t1 (q ▸ hc)) (g4.extBut c o (λq=>Z.a2 (q ▸ hc)) (g3.extBut c o (λq=>Z.t1 (q ▸ hc)) e));have r2:S2 (k+1) h5:=D2.frame _ _ _ q4 λc hc o e=>g5.extBut c o (λq=>Z.t2 (q ▸ hc)) e;have lz:z<h5.objs.size:=Xa y5;show ai _ _ (aq.SmallTypes.ownedTupleHandOut (.ref z) (.ref h5.objs.size) >>= _) _ _ _;apply ae;unfold aq.SmallTypes.ownedTupleHandOut;have y6:dG (h5.push {cls:=.type "tuple",data:=.seq #[x,y]}) z TI TO .ellipsis:=wa _ y5;apply ae;refine bq y6 (by simp) λh7 y7 g7=>?_;replace y7:dG h7 z TI TO (dB h5.objs.size):=y7;refine bq y7 (by simp) λh8 y8 g8=>?_;replace y8:dG h8 z TI TO (dB h5.objs.size):=y8;have up:∀ c o,c≠z->h5.get? c=some o->h8.get? c=some o:=λc o c1 e=>g8.extBut _ _ c1 (g7.extBut _ _ c1 (wa _ e));have p8:bu h8 h5.objs.size x y:=g8.extBut _ _ (Um lz) (g7.extBut _ _ (Um lz) (Ub _ rfl));have n8:h8.objs.size=h5.objs.size+1:=by rw[g8.1,g7.1,Xh]
 rw[sz] at y8 p8 n8;refine ah ⟨_,rfl,?_⟩;show Q (.ref h5.objs.size) _;rw[sz];exact hQ x y h8 t4 px py y8 (up _ _ Z.ox o5) (D1.frame _ _ _ r1 λc hc o e=>up c o (λq=>Z.z1 (q ▸ hc)) e) (D2.frame _ _ _ r2 λc hc o e=>up c o (λq=>Z.z2 (q ▸ hc)) e) p8 n8 λc o c1 c2 c3 c4 e=>up c o c1 (c5 c o c1 c2 c3 c4 e)
theorem Qco{Q:Fin->ag->Prop}(Z:sM z TI TO i1 i2 k9 k8)(D1:fw prog w A i1 k9 n1 P1 S1)(D2:fw prog w A i2 k8 n2 P2 S2)(hz:dG s.heap z TI TO .none)(hI:bu s.heap TI (.ref i1) (.ref i2))(hO:bu s.heap TO a b)
  (s1:S1 k s.heap) (s2:S2 k s.heap) (hk:k=n1\/(k<n1/\k=n2))
  (hE:∀ h' e,(∀ c o,c≠z->c≠TO->c≠i1->c≠i2->s.heap.get? c=some o->h'.get? c=some o)->(∃ o,h'.get? e=some o/\o.cls=.type "StopIteration")->∀ tk,E (.ref e) {s with heap:=h',toks:=tk}) :
  ai (ak prog w) A (aq.«zip.__next__» ⟨[.ref z],[]⟩) Q E s:=by
 have C2:i1≠z:=λe=>Z.z1 (e ▸ Z.m1);have Hl:i2≠z:=λe=>Z.z2 (e ▸ Z.m2);have Hn:i1≠TO:=λe=>Z.t1 (e ▸ Z.m1);have C7:i2≠TO:=λe=>Z.t2 (e ▸ Z.m2);show ai _ _ (field (.ref z) 2 >>= _) _ _ _;apply ae;apply aK hz rfl (x:=.bool false) rfl;show ai _ _ (field (.ref z) 3 >>= _) _ _ _;apply ae;apply aK hz rfl (x:=.ref TI) rfl;apply ae;apply aR hI rfl;show ai _ _ (aq.SmallTypes.ownedTupleIsFree (.ref z) >>= _) _ _ _;apply ae;unfold aq.SmallTypes.ownedTupleIsFree;apply ae;apply aK hz rfl (x:=.none) rfl;apply ah;simp only[if_true];apply ae;apply cA;apply ae;apply aK hz rfl (x:=.ref TO) rfl;apply ae;refine bq hz (by simp) λh1 y1 g1=>?_;replace y1:dG h1 z TI TO .ellipsis:=y1;apply ae;simp only[wA,List.zipIdx_nil,vA,UB];apply ae;apply ae;apply eD;show ai _ _ (aq.SmallTypes.nextOf (.ref i1) >>= _) _ _ _;apply ae;have f1:S1 k h1:=D1.frame _ _ _ s1 λc hc o e=>g1.extBut c o (λq=>Z.z1 (q ▸ hc)) e
 rcases hk with hk|⟨k1,hk⟩
 ·refine D1.done _ _ _ (hk ▸ f1) λh2 e g2 he=>?_;obtain⟨oe,e1,e2⟩:=he;have y2:dG h2 z TI TO .ellipsis:=g2 _ _ (Ne.symm C2) y1;have ez:e≠z:=λq=>by subst q;rw[y2] at e1;cases e1;simp at e2
  exact bq y2 (by simp) λh3 _ g3=>hE h3 e (λc o c1 _ c3 _ q=>g3.extBut _ _ c1 (g2 _ _ c3 (g1.extBut _ _ c1 q))) ⟨oe,g3.extBut _ _ ez e1,e2⟩ _
 ·refine D1.item k _ _ _ k1 f1 λx h2 t2 px q2 g2=>ah ?_;have o2:bu h2 TO a b:=g2.extBut _ _ (Ne.symm Hn) (g1.extBut _ _ Z.ox hO);apply ae;apply aR o2 rfl;apply ae;refine dg o2 λh3 o3 g3=>ae (cD (ah ?_));apply ae;apply ae;apply eD;show ai _ _ (aq.SmallTypes.nextOf (.ref i2) >>= _) _ _ _;apply ae;have f2:S2 k h3:=D2.frame _ _ _ s2 λc hc o e=>g3.extBut c o (λq=>Z.t2 (q ▸ hc)) (g2.extBut c o (λq=>Z.a1 (q ▸ hc)) (g1.extBut c o (λq=>Z.z2 (q ▸ hc)) e));refine D2.done _ _ _ (hk ▸ f2) λh4 e g4 he=>?_;obtain⟨oe,e1,e2⟩:=he;have y4:dG h4 z TI TO .ellipsis:=g4 _ _ (Ne.symm Hl) (g3.extBut _ _ (Ne.symm Z.ox) (g2.extBut _ _ (Ne.symm C2) y1));have ez:e≠z:=λq=>by subst q;rw[y4] at e1;cases e1;simp at e2
  exact bq y4 (by simp) λh5 _ g5=>hE h5 e (λc o c1 c2 c3 c4 q=>g5.extBut _ _ c1 (g4 _ _ c4 (g3.extBut _ _ c2 (g2.extBut _ _ c3 (g1.extBut _ _ c1 q))))) ⟨oe,g5.extBut _ _ ez e1,e2⟩ _
end
end M3
end
section
namespace M3
open PySem
open Sem (wp)
noncomputable def cJ(h:Heap)(tup:Bool)(l:af)(xs:Array aa):Prop:=if tup=true then h.IsTuple l xs else h.IsList l xs
noncomputable def dF(h:Heap)(tup:Bool)(r l:af)(k:Nat):Prop:=if tup=true then h.IsTupleIter r l k else h.IsListIter r l k
noncomputable abbrev dD(tup:Bool)(l:af):Obj:={cls:=.type (if tup=true then "tuple_iterator" else "list_iterator"),data:=.fields #[.ref l,.int 0 0]}
theorem cJ.keeps{h h':Heap}{tup:Bool}{l:af}{xs:Array aa}(x:cJ h tup l xs)(k:∀ o,h.get? l=some o->h'.get? l=some o):cJ h' tup l xs:=by
 cases tup with
 |true=>obtain⟨o,e,c⟩:=(show h.IsTuple l xs from x);exact(show h'.IsTuple l xs from⟨o,k o e,c⟩)
 |false=>exact(show h'.IsList l xs from Heap.IsList.at (show h.IsList l xs from x) k)
theorem cJ.lt{h:Heap}{tup:Bool}{l:af}{xs:Array aa}(x:cJ h tup l xs):l<h.objs.size:=by
 cases tup with
 |true=>obtain⟨o,e,c⟩:=(show h.IsTuple l xs from x);exact Xa e
 |false=>obtain⟨o,e,c⟩:=(show h.IsList l xs from x);exact Xa e
theorem dF.keeps{h h':Heap}{tup:Bool}{r l:af}{k:Nat}(x:dF h tup r l k)(q:∀ o,h.get? r=some o->h'.get? r=some o):dF h' tup r l k:=by
 cases tup with
 |true=>obtain⟨o,e,c⟩:=(show h.IsTupleIter r l k from x);exact(show h'.IsTupleIter r l k from⟨o,q o e,c⟩)
 |false=>obtain⟨o,e,c⟩:=(show h.IsListIter r l k from x);exact(show h'.IsListIter r l k from⟨o,q o e,c⟩)
theorem dF.new{h:Heap}{tup:Bool}{r l:af}(e:h.get? r=some (dD tup l)):dF h tup r l 0:=by
 cases tup with
 |true=>exact(show h.IsTupleIter r l 0 from⟨_,e,rfl,rfl⟩)
 |false=>exact(show h.IsListIter r l 0 from⟨_,e,rfl,rfl⟩)
theorem dF.obj{h:Heap}{tup:Bool}{r l:af}{k:Nat}(x:dF h tup r l k):∃ o,h.get? r=some o/\∀ v,o.data≠.cell v:=by
 cases tup with
 |true=>obtain⟨o,e,c,d⟩:=(show h.IsTupleIter r l k from x);exact⟨o,e,λv z=>by rw[d] at z;cases z⟩
 |false=>obtain⟨o,e,c,d⟩:=(show h.IsListIter r l k from x);exact⟨o,e,λv z=>by rw[d] at z;cases z⟩
section
variable {prog:aj} {w:World} {A:ay} {E:aa->ag->Prop} {s:ag}
theorem Yn{tup:Bool}{l:af}{xs:Array aa}{Q:aa->ag->Prop}(x:cJ s.heap tup l xs)(h:Q (.ref s.heap.objs.size) {s with heap:=s.heap.push (dD tup l)}):ai (ak prog w) A (jK (.ref l)) Q E s:=by
 cases tup with
 |true=>exact gu (show s.heap.IsTuple l xs from x) h
 |false=>exact dZ (show s.heap.IsList l xs from x) h
theorem yO(hh:A.handled=none)(tup:Bool)(r l:af)(ji:l≠r)(items:Array aa) :
  fw prog w A r [r,l] items.size (λi v=>items[i]?=some v) (λi h=>dF h tup r l i/\cJ h tup l items):=by
 cases tup with
 |true=>exact qbO hh r l ji items
 |false=>exact fw.list hh r l ji items
end
theorem qb4(b1 b2:Bool)(l1 l2:af)(xs ys:Array aa) :
  lu (aq.«zip.__new__» ⟨[.type "zip",.ref l1,.ref l2],[]⟩) (λ_ R s=>cJ s.heap b1 l1 xs/\cJ s.heap b2 l2 ys /\
   ∀ h5,h5=((((s.heap.push (dD b1 l1)).push (dD b2 l2)).push {cls:=.type "tuple",data:=.seq #[.ref s.heap.objs.size,.ref (s.heap.push (dD b1 l1)).objs.size]}).push {cls:=.type "tuple",data:=.seq #[.none,.none]}).push
    {cls:=.type "zip",data:=.fields #[.none,.bool false,.bool false,.ref ((s.heap.push (dD b1 l1)).push (dD b2 l2)).objs.size,.ref (((s.heap.push (dD b1 l1)).push (dD b2 l2)).push {cls:=.type "tuple",data:=.seq #[.ref s.heap.objs.size,.ref (s.heap.push (dD b1 l1)).objs.size]}).objs.size]} ->
   R (.ok (.ret (.ref ((((s.heap.push (dD b1 l1)).push (dD b2 l2)).push {cls:=.type "tuple",data:=.seq #[.ref s.heap.objs.size,.ref (s.heap.push (dD b1 l1)).objs.size]}).push {cls:=.type "tuple",data:=.seq #[.none,.none]}).objs.size))) {s with heap:=h5}) :=
 .of_wp λprog w A R s h=>by
  obtain⟨hp,g,d,tk,os⟩:=s;obtain⟨x1,x2,h⟩:=h;have Al:=sub_zip;have y1:cJ (ag.heap ⟨hp,g,d,tk,os⟩) b1 l1 xs:=x1;have y2:cJ (ag.heap ⟨hp.push (dD b1 l1),g,d,tk,os⟩) b2 l2 ys:=cJ.keeps x2 λo e=>wa _ e
  wp_walk using Yn y1,Yn y2
  exact⟨_,rfl,h _ rfl⟩
section
variable {prog:aj} {w:World} {A:ay} {E:aa->ag->Prop} {s:ag}
theorem qcu{b1 b2:Bool}{l1 l2:af}{xs ys:Array aa}{Q:aa->ag->Prop}(x1:cJ s.heap b1 l1 xs)(x2:cJ s.heap b2 l2 ys)
  (h:∀ h',dG h' (s.heap.objs.size+4) (s.heap.objs.size+2) (s.heap.objs.size+3) .none->bu h' (s.heap.objs.size+2) (.ref s.heap.objs.size) (.ref (s.heap.objs.size+1))->bu h' (s.heap.objs.size+3) .none .none ->
   dF h' b1 s.heap.objs.size l1 0->dF h' b2 (s.heap.objs.size+1) l2 0->(∀ c o,s.heap.get? c=some o->h'.get? c=some o)->Q (.ref (s.heap.objs.size+4)) {s with heap:=h'}) :
  ai (ak prog w) A (call (.type "zip") [.ref l1,.ref l2]) Q E s:=by
 refine callType_new F.called_zip (by decide) (F.typeCall_zip_2 _ _) (F.newCall_zip_2 _ _) (λobj=>F.args_object_init_3 obj _ _) F.entry_zip_new (qb4 b1 b2 l1 l2 xs ys) ⟨x1,x2,λh5 e5=>?_⟩;have n1:(s.heap.push (dD b1 l1)).objs.size=s.heap.objs.size+1:=Xh ..;have n2:((s.heap.push (dD b1 l1)).push (dD b2 l2)).objs.size=s.heap.objs.size+2:=by rw[Xh,n1]
 have n3:(((s.heap.push (dD b1 l1)).push (dD b2 l2)).push {cls:=.type "tuple",data:=.seq #[.ref s.heap.objs.size,.ref (s.heap.push (dD b1 l1)).objs.size]}).objs.size=s.heap.objs.size+3:=by rw[Xh,n2]
 have n4:((((s.heap.push (dD b1 l1)).push (dD b2 l2)).push {cls:=.type "tuple",data:=.seq #[.ref s.heap.objs.size,.ref (s.heap.push (dD b1 l1)).objs.size]}).push {cls:=.type "tuple",data:=.seq #[.none,.none]}).objs.size=s.heap.objs.size+4:=by rw[Xh,n3]
 have q5:dG h5 ((((s.heap.push (dD b1 l1)).push (dD b2 l2)).push {cls:=.type "tuple",data:=.seq #[.ref s.heap.objs.size,.ref (s.heap.push (dD b1 l1)).objs.size]}).push {cls:=.type "tuple",data:=.seq #[.none,.none]}).objs.size ((s.heap.push (dD b1 l1)).push (dD b2 l2)).objs.size (((s.heap.push (dD b1 l1)).push (dD b2 l2)).push {cls:=.type "tuple",data:=.seq #[.ref s.heap.objs.size,.ref (s.heap.push (dD b1 l1)).objs.size]}).objs.size .none:=by rw[e5];exact Ub _ rfl
 have q4:bu h5 (((s.heap.push (dD b1 l1)).push (dD b2 l2)).push {cls:=.type "tuple",data:=.seq #[.ref s.heap.objs.size,.ref (s.heap.push (dD b1 l1)).objs.size]}).objs.size .none .none:=by rw[e5];exact wa _ (Ub _ rfl)
 have q3:bu h5 ((s.heap.push (dD b1 l1)).push (dD b2 l2)).objs.size (.ref s.heap.objs.size) (.ref (s.heap.push (dD b1 l1)).objs.size):=by rw[e5];exact wa _ (wa _ (Ub _ rfl))
 have q2:h5.get? (s.heap.push (dD b1 l1)).objs.size=some (dD b2 l2):=by rw[e5];exact wa _ (wa _ (wa _ (Ub _ rfl)))
 have q1:h5.get? s.heap.objs.size=some (dD b1 l1):=by rw[e5];exact wa _ (wa _ (wa _ (wa _ (Ub _ rfl))))
 show _/\_;rw[n2,n3,n4] at q5;rw[n2,n1] at q3;rw[n3] at q4;rw[n1] at q2;rw[n4];exact⟨⟨_,q5,rfl⟩,h _ q5 q3 q4 (.new q1) (.new q2) λc o e=>by rw[e5];exact wa _ (wa _ (wa _ (wa _ (wa _ e))))⟩
variable {z TI TO i1 i2:af} {k9 k8:List af} {n1 n2 k:Nat} {P1 P2:Nat->aa->Prop} {S1 S2:Nat->Heap->Prop} {a b:aa}
theorem ZaL{Q:Option aa->ag->Prop}(Z:sM z TI TO i1 i2 k9 k8)(D1:fw prog w A.in1 i1 k9 n1 P1 S1)(D2:fw prog w A.in1 i2 k8 n2 P2 S2)(hz:dG s.heap z TI TO .none)(hI:bu s.heap TI (.ref i1) (.ref i2))(hO:bu s.heap TO a b)
  (s1:S1 k s.heap) (s2:S2 k s.heap) (k1:k<n1) (k2:k<n2)
  (hQ:∀ x y h' tk,P1 k x->P2 k y->dG h' z TI TO (dB s.heap.objs.size)->bu h' TO x y->S1 (k+1) h'->S2 (k+1) h'->bu h' s.heap.objs.size x y->h'.objs.size=s.heap.objs.size+1 ->
   (∀ c o,c≠z->c≠TO->c≠i1->c≠i2->s.heap.get? c=some o->h'.get? c=some o)->Q (some (.ref s.heap.objs.size)) {s with heap:=h',toks:=tk}) :
  ai (ak prog w) A (c8 (.ref z)) Q E s:=by
 have ty:s.TypeIs (.ref z) "zip":=⟨_,hz,rfl⟩;unfold c8;refine ae (jl (aY (name:=Str.ofString "__next__") ty F.slot_zip_next (bo F.slot_zip_next ty F.entry_zip_next ?_ (F.args_zip_next_1 _))));exact Qch Z D1 D2 hz hI hO s1 s2 k1 k2 λx y h' tk p1 p2 e1 e2 e3 e4 e5 e6 e7=>ah (hQ x y h' tk p1 p2 e1 e2 e3 e4 e5 e6 e7)
theorem YaO{Q:Option aa->ag->Prop}(Z:sM z TI TO i1 i2 k9 k8)(D1:fw prog w A.in1 i1 k9 n1 P1 S1)(D2:fw prog w A.in1 i2 k8 n2 P2 S2)(hz:dG s.heap z TI TO .none)(hI:bu s.heap TI (.ref i1) (.ref i2))(hO:bu s.heap TO a b)
  (s1:S1 k s.heap) (s2:S2 k s.heap) (hk:k=n1\/(k<n1/\k=n2))
  (hQ:∀ h' tk,(∀ c o,c≠z->c≠TO->c≠i1->c≠i2->s.heap.get? c=some o->h'.get? c=some o)->Q none {s with heap:=h',toks:=tk}) :
  ai (ak prog w) A (c8 (.ref z)) Q E s:=by
 have ty:s.TypeIs (.ref z) "zip":=⟨_,hz,rfl⟩;unfold c8;refine ae (jl (aY (name:=Str.ofString "__next__") ty F.slot_zip_next (bo F.slot_zip_next ty F.entry_zip_next ?_ (F.args_zip_next_1 _))));refine Qco Z D1 D2 hz hI hO s1 s2 hk λh' e kk ho tk=>?_;obtain⟨o,e1,e2⟩:=ho;exact ae (hZ (T:="StopIteration") (b:=true) ⟨o,e1,e2⟩ isSubtype_stop (ah (hQ h' tk kk)))
end
end M3
end
section
namespace M3
open PySem
open Sem (wp)
end M3
end
section
namespace L3
open PySem PySem.Spec PyProof.Rows L2 M3
section
variable {X:Cx} {pins:List (af×Obj)} {σ:L2.St} {H:Hp} {s:ag}
theorem Zcd{P:aj}{w:World}{h:Heap}{D:af}{o:HO}(ok:fu P w H h)(hn:H D=none)(new:bg P w (upd H D o) h D o):fu P w (upd H D o) h:=λb u e=>by
 by_cases hb:b=D
 ·subst hb;rw[zf] at e;cases e;exact new
 ·rw[Zd hb] at e;exact(ok b u e).iT (λ_ _ _ q=>q) (λc q=>by rw[Zd (qg q hn)];exact q) λc xs q=>by rw[Zd (qg q hn)];exact q
theorem JG{D:af}{o:HO}(I:Inv X pins σ H s)(f:yY X pins H D)(h0:X.s₀.heap.objs.size<=D)(new:bg X.prog X.w (upd H D o) s.heap D o):Inv X pins σ (upd H D o) s:=by
 obtain⟨f0,f1,f2,f3,f4,f5⟩:=f;refine⟨I.ok,I.os,I.bare,⟨I.base.keep,I.base.slot,λb u e n hx=>?_,I.base.there,λb xs e=>?_,λb u xs e=>?_,λb ps e=>?_⟩,I.loc,I.cell,?_,λx c e=>?_,λp hp=>?_,Zcd I.aU f0 new,I.len⟩
 ·rw[Zd (Xc (Wd (Xa e) h0))];exact I.base.free b u e n hx
 ·have q:=I.base.jm b xs e;rw[Zd (qg q f0)];exact q
 ·have q:=I.base.i5 b u xs e;rw[Zd (qg q f0)];exact q
 ·obtain⟨m,q⟩:=I.base.jo b ps e;exact⟨m,by rw[Zd (qg q f0)];exact q⟩
 ·rw[Zd (Ne.symm f1)];exact I.free
 ·rw[Zd (f4 x c e)];exact I.gV x c e
 ·obtain⟨e1,e2,e3,e4,e5⟩:=I.pin p hp;exact⟨e1,by rw[Zd (f5 p hp)];exact e2,e3,e4,e5⟩
end
noncomputable def ZG(sc:aA)(N:List Str)(cs:aA)(N':List Str)(bZ:Nat)(js:List Nat):Bool :=
 cs.kind == .function&&cs.names.all (λy=>y.2 != .cell||cs.names.lookup y.1==some .cell)&&cs.names.all (λy=>y.2 != .free||(sc.names.lookup y.1==some .cell||sc.names.lookup y.1==some .free)) &&
 cs.names.all (λy=>y.2 != .local||cs.names.lookup y.1==some .local)&&(N'.drop bZ).all (λx=>cs.names.lookup x==some .free)&&decide ((N'.drop bZ).map some=js.map (λj=>N[j]?))&&decide (bZ<=N'.length)
structure iq (sc:aA) (N:List Str) (cs:aA) (N':List Str) (bZ:Nat) (js:List Nat):Prop where
 kind:cs.kind=.function
 cel:∀ y∈cs.names,y.2=.cell->cs.names.lookup y.1=some .cell
 free:∀ y∈cs.names,y.2=.free->sc.names.lookup y.1=some .cell\/sc.names.lookup y.1=some .free
 locs:∀ y∈cs.names,y.2=.local->cs.names.lookup y.1=some .local
 frees:∀ x∈N'.drop bZ,cs.names.lookup x=some .free
 at_:(N'.drop bZ).map some=js.map (λj=>N[j]?)
 bZ:bZ<=N'.length
theorem iq.of{sc:aA}{N:List Str}{cs:aA}{N':List Str}{bZ:Nat}{js:List Nat}(h:ZG sc N cs N' bZ js=true):iq sc N cs N' bZ js:=by
 simp only[ZG,Wa,Wp,decide_eq_true_eq,vn,beq_iff_eq,bne_iff_ne,ne_eq] at h;obtain⟨⟨⟨⟨⟨⟨h1,h2⟩,h3⟩,h4⟩,h5⟩,h6⟩,h7⟩:=h;exact⟨h1,λy hy e=>(h2 y hy).resolve_left λz=>z e,λy hy e=>(h3 y hy).resolve_left λz=>z e,λy hy e=>(h4 y hy).resolve_left λz=>z e,h5,h6,h7⟩
theorem ZI{names:List (Str×az)}{x:Str}{k:az}(h:names.lookup x=some k):(x,k)∈names:=PySem.mem_of_lookup h
theorem KO{env:Env}:∀{names:List (Str×az)} {x:Str},
  ((names.map λ(n,k)=>if(k==az.free&&env.scope.kind == .function&&env.kindOf n==some .cell) then(n,az.cell) else(n,k)).lookup x=some .cell \/
   (names.map λ(n,k)=>if(k==az.free&&env.scope.kind == .function&&env.kindOf n==some .cell) then(n,az.cell) else(n,k)).lookup x=some .free)->names.lookup x=some .free\/names.lookup x=some .cell
 |[],_,h=>by simp at h
 |(n,k)::r,x,h=>by
  have ih:=@KO env r x;rw[ub] at h;by_cases hb:(k==az.free&&env.scope.kind == .function&&env.kindOf n==some .cell)=true
  ·have hkf:k=.free:=by
    simp only[Wa,beq_iff_eq] at hb;exact hb.1.1
   simp only[hb,if_true] at h;cases hx:x==n with
   |true=>simp only[Wc,hx];rw[hkf];exact .inl rfl
   |false =>
    simp only[Wc,hx] at h ⊢;exact ih h
  ·simp only[hb,Vh,if_false] at h;cases hx:x==n with
   |true =>
    simp only[Wc,hx] at h ⊢;exact h.symm
   |false =>
    simp only[Wc,hx] at h ⊢;exact ih h
theorem QX{env:Env}:∀{names:List (Str×az)} {x:Str},names.lookup x=some .free ->
  ((names.map λ(n,k)=>if(k==az.free&&env.scope.kind == .function&&env.kindOf n==some .cell) then(n,az.cell) else(n,k)).lookup x=some .cell \/
   (names.map λ(n,k)=>if(k==az.free&&env.scope.kind == .function&&env.kindOf n==some .cell) then(n,az.cell) else(n,k)).lookup x=some .free)
 |[],_,h=>by simp at h
 |(n,k)::r,x,h=>by
  have ih:=@QX env r x;rw[ub];cases hx:x==n with
  |true =>
   simp only[Wc,hx] at h;cases h;by_cases hb:((az.free:az)==az.free&&env.scope.kind == .function&&env.kindOf n==some .cell)=true
   ·simp only[hb,if_true,Wc,hx];simp
   ·simp only[hb,Vh,if_false,Wc,hx];simp
  |false =>
   simp only[Wc,hx] at h;by_cases hb:(k==az.free&&env.scope.kind == .function&&env.kindOf n==some .cell)=true
   ·simp only[hb,if_true,Wc,hx];exact ih h
   ·simp only[hb,Vh,if_false,Wc,hx];exact ih h
theorem ZA{env:Env}:∀(names:List (Str×az)) (cs:List (Str×af)) {x:Str} {c:af},(∀ y∈names,y.2=.free->∃ c,env.cells.lookup y.1=some c)->(∀ x c,cs.lookup x=some c->env.cells.lookup x=some c) ->
  (Zf env names cs).lookup x=some c->env.cells.lookup x=some c
 |[],cs,x,c,_,nU,h=>nU x c h
 |(n,k)::r,cs,x,c,hn,nU,h=>by
  refine ZA r _ (λy hy=>hn y (Uf _ hy)) (λx' c' h'=>?_) h;by_cases hk:(k == .free)=true
  ·rw[if_pos hk] at h';obtain⟨c0,e0⟩:=hn (n,k) Wh (by simpa using hk);cases hx:x'==n with
   |true =>
    simp only[Wc,hx] at h';cases h';rw[beq_iff_eq.mp hx,e0];rfl
   |false =>
    simp only[Wc,hx] at h';exact nU x' c' h'
  ·rw[if_neg hk] at h';exact nU x' c' h'
theorem Q3{env:Env}:∀(names:List (Str×az)) (cs:List (Str×af)) {x:Str},(∃ c,cs.lookup x=some c)->∃ c,(Zf env names cs).lookup x=some c
 |[],cs,x,h=>h
 |(n,k)::r,cs,x,h=>by
  refine Q3 r _ ?_;by_cases hk:(k == .free)=true
  ·rw[if_pos hk];cases hx:x==n with
   |true=>exact⟨(env.cells.lookup n).getD 0,by simp only[Wc,hx]⟩
   |false =>
    obtain⟨c,e⟩:=h;exact⟨c,by simp only[Wc,hx];exact e⟩
  ·rw[if_neg hk];exact h
theorem qN{env:Env}:∀(names:List (Str×az)) (cs:List (Str×af)) {x:Str},(x,az.free)∈names->∃ c,(Zf env names cs).lookup x=some c
 |[],_,_,h=>nomatch h
 |(n,k)::r,cs,x,h=>by
  rcases ua.mp h with e|h
  ·cases e;refine Q3 r _ ?_;rw[if_pos (by decide)];exact⟨(env.cells.lookup n).getD 0,by simp only[Wc,beq_self_eq_true]⟩
  ·exact qN r _ h
theorem EC:∀(names:List (Str×az)) (n n0:Nat) (acc:List (Str×af)) {x:Str},n0<=n->(∃ c,acc.lookup x=some c/\n0<=c)->∃ c,(aH n names acc).lookup x=some c/\n0<=c
 |[],_,_,_,_,_,h=>h
 |(y,k)::r,n,n0,acc,x,hn,h=>by
  unfold aH;split
  ·refine EC r (n+1) n0 _ (by lia) ?_;cases hx:x==y with
   |true=>exact⟨n,by simp only[Wc,hx],hn⟩
   |false =>
    obtain⟨c,e,l⟩:=h;exact⟨c,by simp only[Wc,hx];exact e,l⟩
  ·exact EC r n n0 acc hn h
theorem DJ:∀(names:List (Str×az)) (n:Nat) (acc:List (Str×af)) {x:Str},(x,az.cell)∈names->∃ c,(aH n names acc).lookup x=some c/\n<=c
 |[],_,_,_,h=>nomatch h
 |(y,k)::r,n,acc,x,h=>by
  unfold aH
  rcases ua.mp h with e|h
  ·cases e;rw[if_pos (by decide)];exact EC r (n+1) n _ (by lia) ⟨n,by simp only[Wc,beq_self_eq_true],xb _⟩
  ·split
   ·obtain⟨c,e,l⟩:=DJ r (n+1) ((y,n)::acc) h;exact⟨c,e,by lia⟩
   ·exact DJ r n acc h
theorem DF:∀(names:List (Str×az)) (n:Nat) (acc:List (Str×af)) {x:Str},(x,az.cell)∉names->(aH n names acc).lookup x=acc.lookup x
 |[],_,_,_,_=>rfl
 |(y,k)::r,n,acc,x,h=>by
  unfold aH;split
  ·rename_i hk;rw[DF r (n+1) _ λz=>h (Uf _ z)];have:(x==y)=false:=by
    rw[beq_eq_false_iff_ne];intro e;subst e;have:k=.cell:=by simpa using hk
    subst this;exact h Wh
   simp only[Wc,this]
  ·exact DF r n acc λz=>h (Uf _ z)
theorem B0:∀(names:List (Str×az)) (n:Nat) (acc:List (Str×af)) {x:Str} {c:af},(aH n names acc).lookup x=some c->acc.lookup x=some c\/n<=c
 |[],_,_,_,_,h=>.inl h
 |(y,k)::r,n,acc,x,c,h=>by
  unfold aH at h;split at h
  ·rcases B0 r (n+1) _ h with e|e
   ·cases hx:x==y with
    |true=>simp only[Wc,hx] at e;cases e;exact .inr (xb _)
    |false=>simp only[Wc,hx] at e;exact .inl e
   ·exact .inr (by lia)
  ·exact B0 r n acc h
theorem Ji:∀(names:List (Str×az)) (n:Nat) (acc:List (Str×af)),(∀ x c,acc.lookup x=some c->c<n)->(∀ x y c,acc.lookup x=some c->acc.lookup y=some c->x=y) ->
  ∀ x y c,(aH n names acc).lookup x=some c->(aH n names acc).lookup y=some c->x=y
 |[],_,_,_,hi=>hi
 |(z,k)::r,n,acc,hb,hi=>by
  unfold aH;split
  ·refine Ji r (n+1) _ (λx c e=>?_) λx y c e1 e2=>?_
   ·cases hx:x==z with
    |true=>simp only[Wc,hx] at e;cases e;exact Uj _
    |false=>simp only[Wc,hx] at e;exact Us (hb x c e)
   ·cases hx:x==z with
    |true =>
     simp only[Wc,hx] at e1;cases e1;cases hy:y==z with
     |true=>rw[beq_iff_eq.mp hx,beq_iff_eq.mp hy]
     |false=>simp only[Wc,hy] at e2;exact absurd (hb y _ e2) (Ui _)
    |false =>
     simp only[Wc,hx] at e1;cases hy:y==z with
     |true=>simp only[Wc,hy] at e2;cases e2;exact absurd (hb x _ e1) (Ui _)
     |false=>simp only[Wc,hy] at e2;exact hi x y c e1 e2
  ·exact Ji r n acc hb hi
theorem Ec:∀(names:List (Str×az)) (h:Heap) (acc:List (Str×af)),(∀ x c,acc.lookup x=some c->∃ v,h.IsCell c v)->∀ x c,(aH h.objs.size names acc).lookup x=some c->∃ v,(pushCells h names).IsCell c v
 |[],_,_,hc=>hc
 |(y,k)::r,h,acc,hc=>by
  unfold aH pushCells;split
  ·have:=Ec r (h.push {cls:=.type "cell",data:=.cell none}) ((y,h.objs.size)::acc) λx c e=>by
    cases hx:x==y with
    |true=>simp only[Wc,hx] at e;cases e;exact⟨none,_,Ub _ rfl,rfl⟩
    |false =>
     simp only[Wc,hx] at e;obtain⟨v,q⟩:=hc x c e;exact⟨v,q.keeps λb o e=>wa _ e⟩
   rwa [Xh] at this
  ·exact Ec r h acc hc
theorem qa7{M:Model}{A:ay}{E:aa->ag->Prop}{s:ag}{scope:aA}{globals:af}{closure:List (Str×af)}{qual:Str}{func:Option af}{code:aa}{env:Env}{builtins:af}{Q:Env->ag->Prop}
  (hQ:∀ h',h'.Ns s.heap.objs.size (λ_=>none)->(∀ b o,s.heap.get? b=some o->h'.get? b=some o) ->
   ((∀ x c,closure.lookup x=some c->∃ v,s.heap.IsCell c v)->∀ x c,(aH (s.heap.objs.size+1) scope.names closure).lookup x=some c->∃ v,h'.IsCell c v) ->
   Q (newEnv scope s.heap.objs.size globals (aH (s.heap.objs.size+1) scope.names closure) qual func code (some env) builtins) {s with heap:=h'}) :
  ai M A (fK scope globals closure [] qual func code (some env) builtins) Q E s:=by
 simp only[fK,uD,if_true];refine ae (wpAny_alloc ?_);refine ae (wpAny_layCells _ (λname kind cells=>by cases hkc:kind==az.cell <;> simp[hkc]) _ _ _ _ ?_);rw[show({s with heap:=s.heap.push {cls:=.type "dict",data:=.dict #[]}}:ag).heap.objs.size=s.heap.objs.size+1 from Xh ..];refine ae (ah (ah (hQ _ ?_ ?_ ?_)))
 ·exact(Heap.Ns.new s.heap (.type "dict")).keeps (iC _ _)
 ·exactλb o e=>iC _ _ b o (wa _ e)
 ·intro hc;have:=Ec scope.names (s.heap.push {cls:=.type "dict",data:=.dict #[]}) closure λx c e=>let ⟨v,q⟩:=hc x c e;⟨v,q.keeps λb o e=>wa _ e⟩
  rwa [Xh] at this
noncomputable def ie(X:Cx)(cs:aA)(N':List Str)(C:af)(s3:ag)(H:Hp)(ex:List af):Cx :=
 {X with N:=N',s₀:=s3,H₀:=H,env:=compEnvC cs (aH (C+1) cs.names (Zf X.env cs.names [])) C X.env,outer:=X.stack,stack:=X.stack,ex:=ex,fn:=λx=>cs.names.lookup x==some .cell,xe:=λ_ _=>False}
noncomputable def stC(bZ:Nat)(js:List Nat)(σ:L2.St):L2.St:=Vc bZ none++js.map λj=>(σ[j]?).join
section
variable {X:Cx} {pins:List (af×Obj)} {σ:L2.St} {H:Hp} {s3:ag}
theorem zbJ{cs:aA}{N':List Str}{bZ:Nat}{js:List Nat}{ex:List af}{h1:Heap}{tk:Nat}(I:Inv X pins σ H s3)(ok:iq X.env.scope X.N cs N' bZ js)(hex:∀ b∈ex,yY X pins H b/\b<s3.heap.objs.size)
  (oG:h1.Ns s3.heap.objs.size λ_=>none) (hk:∀ b o,s3.heap.get? b=some o->h1.get? b=some o)
  (iF:(∀ x c,(Zf X.env cs.names []).lookup x=some c->∃ v,s3.heap.IsCell c v)->∀ x c,(aH (s3.heap.objs.size+1) cs.names (Zf X.env cs.names [])).lookup x=some c->∃ v,h1.IsCell c v) :
  Inv (ie X cs N' s3.heap.objs.size s3 H ex) [] (stC bZ js σ) H {s3 with heap:=h1,toks:=tk}:=by
 have hfc:∀ y∈cs.names,y.2=.free->∃ c,X.env.cells.lookup y.1=some c:=λy hy e=>I.ok.has y.1 (ok.free y hy e);have lk:∀{x c},(Zf X.env cs.names []).lookup x=some c->X.env.cells.lookup x=some c:=λ{x c} h=>ZA cs.names [] hfc (λ_ _ z=>by simp at z) h;have clt:∀{x c},X.env.cells.lookup x=some c->c<s3.heap.objs.size:=λ{x c} e=>let ⟨v,q⟩:=I.cell x c e;q.lt;have cl2:=iF λx c e=>I.cell x c (lk e);have LQ:∀{x c},(aH (s3.heap.objs.size+1) cs.names (Zf X.env cs.names [])).lookup x=some c->X.env.cells.lookup x=some c\/s3.heap.objs.size+1<=c:=λ{x c} e=>(B0 cs.names _ _ e).imp lk id;have mz:∀{x},cs.names.lookup x=some .free->(x,az.cell)∉cs.names:=λ{x} e z=>by have:=ok.cel _ z rfl;rw[e] at this;cases this
 refine⟨⟨I.ok.mod,ok.kind,I.ok.glob,I.ok.blt,xb _,λx y c e1 e2=>Ji cs.names _ _ (λx c e=>Us (clt (lk e))) (λx y c e1 e2=>I.ok.inj x y c (lk e1) (lk e2)) x y c e1 e2,λx hx=>?_,λx c z e=>?_,I.ok.hd,I.ok.frames,.inl rfl,λb hb=>?_,I.bs,vf I.ok.rD I.sz,λb o e hb=>?_,λb hb=>?_,I.stack,I.jH⟩,
  rfl,I.bare,Un.kept hk,⟨_,oG,λi x v e1 e2 e3=>?_⟩,λx c e=>cl2 x c e,I.aU.fresh (xb _),λx c e=>(LQ e).elim (λq=>I.gV x c q) λq=>I.aU.fresh (by lia),λp hp=>?_,I.aU.kept hk,?_⟩
 ·rcases KO hx with hx|hx
  ·rw[show ∀ n,(ie X cs N' s3.heap.objs.size s3 H ex).env.cells.lookup x=(aH (s3.heap.objs.size+1) cs.names (Zf X.env cs.names [])).lookup x fromλ_=>rfl]
   ·rw[DF _ _ _ (mz hx)];exact qN cs.names [] (ZI hx)
   ·exact 0
  ·obtain⟨c,e,_⟩:=DJ cs.names (s3.heap.objs.size+1) (Zf X.env cs.names []) (ZI hx);exact⟨c,e⟩
 ·have z':cs.names.lookup x=some .cell:=by simpa using(show(cs.names.lookup x==some .cell)=true from z)
  obtain⟨c',e',l⟩:=DJ cs.names (s3.heap.objs.size+1) (Zf X.env cs.names []) (ZI z');have:c=c':=by
   have e2:(aH (s3.heap.objs.size+1) cs.names (Zf X.env cs.names [])).lookup x=some c:=e;rw[e'] at e2;exact(Option.some.inj e2).symm
  rw[this];exact Nat.le_of_succ_le l
 ·obtain⟨⟨_,_,_,_,f4,_⟩,lt⟩:=hex b hb;refine⟨Xc lt,λx c e=>?_⟩
  rcases LQ e with q|q
  ·exact f4 x c q
  ·exact Um (Xn lt q)
 ·obtain⟨⟨_,_,_,f3,_,_⟩,_⟩:=hex b hb
  rcases f3 with f3|f3
  ·exact I.ok.pI b o e f3
  ·exact absurd (Wd (Xa e) (vf I.ok.rD f3)) (Ui _)
 ·obtain⟨⟨_,f1,f2,_,_,_⟩,_⟩:=hex b hb;intro z
  rcases ua.mp (I.ib b z) with e|e
  ·exact f1 e
  ·exact f2 e
 ·-- a name around, by aB cell
  have hi:¬ i<bZ:=λhi=>by
   unfold stC at e2;rw[Ua (by simpa using hi),Xo,if_pos hi] at e2;cases e2
  have gD:(N'.drop bZ)[i-bZ]?=some x:=by
   rw[vy];have q:bZ+(i-bZ)=i:=by lia
   rw[q];exact e1
  have i3:=ok.frees x (wf gD);have eN:(js.map λj=>X.N[j]?)[i-bZ]?=some (some x):=by rw[<- ok.at_,Xb,gD];rfl
  unfold stC at e2;rw[we (by simpa using uF hi),Vp,Xb] at e2;rw[Xb] at eN;cases ej:js[i-bZ]? with
  |none=>rw[ej] at e2;cases e2
  |some j =>
   rw[ej] at e2 eN;have rh:(σ[j]?).join=some v:=Option.some.inj e2;have eN':X.N[j]?=some x:=Option.some.inj eN;have eσ:σ[j]?=some (some v):=by
    cases q:σ[j]? with
    |none=>rw[q] at rh;cases rh
    |some u=>rw[q] at rh;exact congrArg some rh
   have Ah:X.env.scope.names.lookup x=some .cell\/X.env.scope.names.lookup x=some .free:=ok.free (x,.free) (ZI i3) rfl;obtain⟨m,hn,hl⟩:=I.loc;obtain⟨u,r,l⟩:=hl j x v eN' eσ (.inr Ah);refine⟨u,r,.inr ⟨QX i3,?_⟩⟩
   rcases l with ⟨k,_⟩|⟨_,c,ec,z⟩
   ·rcases Ah with q|q
    ·rw[show X.env.kindOf x=X.env.scope.names.lookup x from rfl,q] at k;cases k
    ·rw[show X.env.kindOf x=X.env.scope.names.lookup x from rfl,q] at k;cases k
   ·obtain⟨c',Ny⟩:=qN (env:=X.env) cs.names [] (ZI i3);have:=lk Ny;rw[ec] at this;cases this;obtain⟨o,ho,hd⟩:=z;refine⟨c,?_,o,hk c o ho,hd⟩;show(aH (s3.heap.objs.size+1) cs.names (Zf X.env cs.names [])).lookup x=some c;rw[DF _ _ _ (mz i3)];exact Ny
 ·have nR:p∈X.pn:=by
   have oF:p∈X.pn++[]:=hp;rw[Xr] at oF;exact oF
  obtain⟨e1,e2,e3,e4,e5⟩:=I.pin p (Xj _ nR);refine⟨hk _ _ e1,e2,Xc (Xa e1),λz=>?_,e5⟩
  rcases ua.mp (I.ib p.1 z) with e|e
  ·exact e3 e
  ·exact e4 e
 ·have q:=congrArg WB ok.at_;rw[wc,wc,Vz] at q;unfold stC;show _=N'.length;rw[Xg,Vp,wc];have:=ok.bZ
  lia
end
section
variable {X:Cx}
noncomputable def l6(X:Cx)(ifs:List Expr)(t:TT):Prop:=∀(pins:List (af×Obj)) (s:ag) (σ:L2.St) (H:Hp) (Q:Bool->Hp->Prop),Inv X pins σ H s->t σ H Q->ai (ak X.prog X.w) X.A (OX ifs X.env) (TP X pins σ Q) X.xe s
noncomputable def F9:TT:=λ_ H Q=>Q true H
theorem YcI:l6 X [] F9:=λpins s σ H Q I h=>wpAny_tests_nil ⟨H,I,h⟩
theorem ycX{c:Expr}{t:TT}(h:PT X c t):l6 X [c] t:=λpins s σ H Q I hw=>wpAny_tests_one (h pins s σ H Q I hw)
noncomputable def BR(J:It)(bZ:Nat)(js:List Nat)(g:TG)(tc:TT)(te:TE)(σ:L2.St)(H:Hp)(Q:VK):Prop :=
 ∃ W:Nat->Nat->List V->L2.St->Hp->Prop,(∃ m,W 0 m [] (stC bZ js σ) H)/\∀ i m acc σ' H',W i m acc σ' H' ->
  (J.stop i H'/\∀ D,H' D=none->Q (.ref D) (upd H' D (.lst acc))) \/
  (J.go i H'/\∀ x H2,J.nv i H' x H2->g x σ' H2 λσ2 H3=>tc σ2 H3 λb H4 =>
   if b=true then te σ2 H4 λy H5=>acc.length<sizeLine/\∃ m',m'<m/\W (i+1) m' (acc++[y]) σ2 H5 else ∃ m',m'<m/\W (i+1) m' acc σ2 H4)
noncomputable def GR(wi:TI)(bZ:Nat)(js:List Nat)(g:TG)(tc:TT)(te:TE):TE:=λσ H Q=>wi σ H λJ H1=>BR J bZ js g tc te σ H1 Q
theorem Yp{Y:Cx}{pins:List (af×Obj)}{σ:L2.St}{H:Hp}{s:ag}{b:af}{o:Obj}(I:Inv Y pins σ H s)(h:(b,o)∈pins):s.heap.get? b=some o/\H b=none :=
 let z:=I.pin (b,o) (Vf _ h);⟨z.1,z.2.1⟩
noncomputable def NN(X:Cx)(J:It)(fp:List af)(it:af)(tn:Nat->Heap->Prop):Prop :=
 ∀(Y:Cx),Y.prog=X.prog->Y.w=X.w->Y.K=X.K->Y.calm=X.calm->Y.A=X.A->Y.pn=X.pn->∀(i:Nat)(pins:List (af×Obj)) (s:ag) (σ:L2.St) (H:Hp) (E:aa->ag->Prop),Inv Y pins σ H s->(∀ b∈fp,yY Y pins H b)->tn i s.heap->J.stop i H ->
  ai (ak X.prog X.w) X.A (c8 (.ref it)) (λr s1=>r=none/\Inv Y pins σ H s1) E s
noncomputable def K9(X:Cx)(tg:Expr)(J:It)(fp:List af)(it:af)(tn:Nat->Heap->Prop):Prop :=
 ∀(Y:Cx),Y.prog=X.prog->Y.w=X.w->Y.K=X.K->Y.calm=X.calm->Y.A=X.A->∀(i:Nat)(pins:List (af×Obj)) (s:ag) (σ:L2.St) (H:Hp) (E:aa->ag->Prop),Inv Y pins σ H s->(∀ b∈fp,yY Y pins H b)->tn i s.heap->J.go i H ->
  ai (ak X.prog X.w) X.A (c8 (.ref it)) (λr s1=>∃ u,r=some u /\
   ai (ak X.prog X.w) X.A (cy tg (.ref it) u) (λ_ s2=>∃ x H',Inv Y pins σ H' s2/\RelV x u/\J.nv i H x H'/\tn (i+1) s2.heap/\∀ b∈fp,H' b=none) E s1) E s
theorem Lz{elt iter tg:Expr}{ifs:List Expr}{cs:aA}{pos:Pos}{N':List Str}{bZ:Nat}{js:List Nat}{g:TG}{tc:TT}{te:TE}{pins:List (af×Obj)}{σ:L2.St}{H2:Hp}{s2:ag}{it:af}{fp:List af}{tn:Nat->Heap->Prop}{J:It}{Q:VK}
  {RR:aa->af->gJ->ag->Prop} {E:aa->ag->Prop}
  (ok:iq X.env.scope X.N cs N' bZ js) (hg:∀ C s3 H ex,PG (ie X cs N' C s3 H ex) tg g) (nT:∀ C s3 H ex,l6 (ie X cs N' C s3 H ex) ifs tc) (jO:∀ C s3 H ex,PE (ie X cs N' C s3 H ex) elt te)
  (I2:Inv X pins σ H2 s2) (mem:it∈fp) (obj:∀ i h,tn i h->∀ b∈fp,∃ o,h.get? b=some o/\∀ v,o.data≠.cell v) (keep:∀ i h h',tn i h->(∀ b∈fp,∀ o,h.get? b=some o->h'.get? b=some o)->tn i h')
  (item:K9 X tg J fp it tn) (done:NN X J fp it tn) (self:∀(A:ay)(i:Nat)(s:ag)(Q:aa->ag->Prop)(E:aa->ag->Prop),tn i s.heap->Q (.ref it) s->ai (ak X.prog X.w) A (jK (.ref it)) Q E s)
  (kO:tn 0 s2.heap) (f2:∀ b∈fp,yY X pins H2 b) (W:Nat->Nat->List V->L2.St->Hp->Prop) (w0:∃ m,W 0 m [] (stC bZ js σ) H2)
  (turn:∀ i m acc σ' H',W i m acc σ' H'->(J.stop i H'/\∀ D,H' D=none->Q (.ref D) (upd H' D (.lst acc))) \/
   (J.go i H'/\∀ x H2,J.nv i H' x H2->g x σ' H2 λσ2 H3=>tc σ2 H3 λb H4 =>
    if b=true then te σ2 H4 λy H5=>acc.length<sizeLine/\∃ m',m'<m/\W (i+1) m' (acc++[y]) σ2 H5 else ∃ m',m'<m/\W (i+1) m' acc σ2 H4))
  (fin:∀(D C:af)(acc:List V)(H':Hp)(s6:ag),Inv X pins σ (upd H' D (.lst acc)) s6->yY X pins (upd H' D (.lst acc)) C->X.s₀.heap.objs.size<=C->(∃ m,s6.heap.Ns C m)->Q (.ref D) (upd H' D (.lst acc))->RR (.ref D) C (.ok .next) s6) :
  ai (ak X.prog X.w) X.A (newList []) (λacc s3=>ai (ak X.prog X.w) X.A (fK cs X.env.globals (Zf X.env cs.names []) [] X.env.qual none .none (some X.env)) (λBc s4 =>
   bM (ak X.prog X.w) X.A (.compStart (.ListComp elt [⟨tg,iter,ifs,0⟩] cs pos) 0 (.ref it) acc {Bc with scope:=relabel cs X.env}) (RR acc Bc.locals) s4) E s3) E s2:=by
 refine aS (qa7 λh1 oG hup iF=>?_);obtain⟨s3,nX⟩:∃ s3:ag,s3={s2 with heap:=s2.heap.push {cls:=.type "list",dict:=none,data:=.seq ([]:List aa).toArray}}:=⟨_,rfl⟩;have I3:Inv X pins σ H2 s3:=by rw[nX];exact I2.kept (t':=s2.toks) λb o e=>wa _ e
 have Cr:s3.heap.objs.size=s2.heap.objs.size+1:=by rw[nX];exact Xh ..
 have gD3:s3.heap.get? s2.heap.objs.size=some {cls:=.type "list",dict:=none,data:=.seq ([]:List aa).toArray}:=by rw[nX];exact Ub _ rfl
 have LH:∀ b o,s2.heap.get? b=some o->s3.heap.get? b=some o:=λb o e=>by rw[nX];exact wa _ e
 have es4:∀ tk,({s2 with heap:=h1,toks:=tk}:ag)={s3 with heap:=h1,toks:=tk}:=λtk=>by rw[nX]
 have HG:h1.Ns s3.heap.objs.size λ_=>none:=by rw[nX];exact oG
 have Ck:∀ b o,s3.heap.get? b=some o->h1.get? b=some o:=by rw[nX];exact hup
 have Ij:(∀ x c,(Zf X.env cs.names []).lookup x=some c->∃ v,s3.heap.IsCell c v)->∀ x c,(aH (s3.heap.objs.size+1) cs.names (Zf X.env cs.names [])).lookup x=some c->∃ v,h1.IsCell c v:=by rw[nX];exact iF
 generalize hD:s2.heap.objs.size=D at *;have fD:yY X pins H2 D:=I2.jP (uq hD) (I2.aU.fresh (uq hD));have LN:X.s₀.heap.objs.size<=D:=hD ▸ I2.sz;have CW:∀ b∈fp,b<D:=λb hb=>let ⟨o,e,_⟩:=obj 0 _ kO b hb;hD ▸ Xa e;have hex:∀ b∈D::fp,yY X pins H2 b/\b<s3.heap.objs.size:=λb hb=>by
  rcases ua.mp hb with e|hb
  ·subst e;exact⟨fD,by rw[Cr];exact Uj _⟩
  ·exact⟨f2 b hb,by rw[Cr];exact Us (CW b hb)⟩
 obtain⟨C,hC⟩:∃ C,C=s3.heap.objs.size:=⟨_,rfl⟩;have I4:∀ tk,Inv (ie X cs N' C s3 H2 (D::fp)) [] (stC bZ js σ) H2 {s3 with heap:=h1,toks:=tk}:=λtk=>by rw[hC];exact zbJ I3 ok hex HG Ck Ij
 have DC:D≠C:=by rw[hC,Cr];exact Xc (Uj _)
 -- tO kB objects, and tO list, in tO block
 have Dt:∀{pl:List (af×Obj)} {H':Hp} {b:af},b∈D::fp->H' b=none->(∀ p∈pl,p.1≠b)->yY (ie X cs N' C s3 H2 (D::fp)) pl H' b:=λ{pl H' b} hb hn hp=>by
  obtain⟨⟨g0,g1,g2,g3,g4,g5⟩,lt⟩:=hex b hb;refine⟨hn,hC ▸ Xc lt,λz=>?_,.inl hb,λx c e=>?_,λp nR=>?_⟩
  ·rcases ua.mp (I3.ib b z) with e|e
   ·exact g1 e
   ·exact g2 e
  ·rcases B0 cs.names _ _ e with q|q
   ·exact g4 x c (ZA cs.names [] (λy hy e=>I3.ok.has y.1 (ok.free y hy e)) (λ_ _ z=>by simp at z) q)
   ·exact Um (Xn (hC ▸ lt) q)
  ·rcases Wg.mp nR with z|z
   ·exact g5 p (Xj _ z)
   ·exact hp p z
 have lp:∀ tk,bM (ak X.prog X.w) X.A (.compLoop (.ListComp elt [⟨tg,iter,ifs,0⟩] cs pos) 0 (.ref it) (.ref D) (ie X cs N' C s3 H2 (D::fp)).env) (RR (.ref D) C) {s3 with heap:=h1,toks:=tk}:=λtk=>by
  obtain⟨m0,w0⟩:=w0;refine Qcf (λn s=>∃ i acc ys k σ' H',Inv (ie X cs N' C s3 H2 (D::fp)) [] σ' H' s/\tn i s.heap/\(∀ b∈fp,H' b=none)/\H' D=none/\s.heap.get? D=some {cls:=.type "list",data:=.seq ys k}/\Vals acc ys.toList/\acc.length<=sizeLine/\W i n acc σ' H') ?_ m0
   ⟨0,[],#[],0,_,_,I4 tk,keep _ _ _ kO λb hb o e=>Ck b o (LH b o e),λb hb=>(f2 b hb).1,fD.1,Ck _ _ gD3,.nil,wm _,w0⟩
  rintro n s5 ⟨i,acc,ys,k,σ5,H5,I5,t5,n5,d5,g5,v5,l5,w5⟩;have Ki:=I5.pinned (fp:=[D]) (λb hb=>by obtain rfl:=Xd.mp hb;exact Dt Wh d5 λp hp=>nomatch hp) (λb hb=>by obtain rfl:=Xd.mp hb;exact⟨_,g5,λv z=>nomatch z⟩);have HD:sT [D] s5.heap=[(D,{cls:=.type "list",data:=.seq ys k})]:=by simp[sT,g5]
  rw[HD,wg] at Ki;have Nv:∀ b∈fp,yY (ie X cs N' C s3 H2 (D::fp)) [(D,{cls:=.type "list",data:=.seq ys k})] H5 b:=λb hb=>Dt (Uf _ hb) (n5 b hb) λp hp=>by
   obtain rfl:=Xd.mp hp;exact Um (CW b hb)
  rcases turn i n acc σ5 H5 w5 with ⟨stop,qf⟩|⟨go,step⟩
  ·refine bh (done (ie X cs N' C s3 H2 (D::fp)) rfl rfl rfl rfl rfl rfl i _ s5 σ5 H5 _ Ki Nv t5 stop) λr s6 ⟨hr,I6⟩=>?_;subst hr;obtain⟨g6,d6⟩:=Yp I6 (Xd.mpr rfl);have IX:Inv X pins σ H5 s6:=I3.oQ (ch:=D::fp) I6.os I6.base I6.aU I6.bare λb hb=>by
    obtain⟨⟨_,e1,_,e3,e4,e5⟩,_⟩:=hex b hb;exact⟨e3,e1,e4,e5⟩
   obtain⟨_,e1,e2,e3,e4,e5⟩:=fD;have IXD:=JG (o:=.lst acc) IX ⟨d6,e1,e2,e3,e4,e5⟩ LN ⟨l5,ys.toList,k,v5,by simpa using g6⟩;have fC:yY X pins (upd H5 D (.lst acc)) C:=by
    have hn:(upd H5 D (.lst acc)) C=none:=by rw[Zd (Ne.symm DC)];exact I6.free
    have z:=I3.jP (b:=C) (uq hC.symm) (I3.aU.fresh (uq hC.symm));exact⟨hn,z.2⟩
   obtain⟨m,hm,_⟩:=I6.loc;exact fin D C acc H5 s6 IXD fC (vf LN (by rw[hC,Cr];exact Xy _)) ⟨m,hm⟩ (qf D d6)
  ·refine bh (item (ie X cs N' C s3 H2 (D::fp)) rfl rfl rfl rfl rfl i _ s5 σ5 H5 _ Ki Nv t5 go) λr s6 ⟨u,hr,h6⟩=>?_;subst hr;refine bh h6 λ_ s7 ⟨x,H7,I7,r7,y7,t7,n7⟩=>?_;obtain⟨g7,d7⟩:=Yp I7 (Xd.mpr rfl);have I7p:=I7.pinned (fp:=fp) (λb hb=>Dt (Uf _ hb) (n7 b hb) λp hp=>by obtain rfl:=Xd.mp hp;exact Um (CW b hb)) (obj _ _ t7);refine bh (hg _ _ _ _ _ s7 σ5 H7 x u _ I7p r7 (step x H7 y7)) λ_ s8 ⟨σ8,H8,I8,q8⟩=>?_;refine bh (nT _ _ _ _ _ s8 σ8 H8 _ I8 q8) λb s9 ⟨H9,I9,q9⟩=>?_;cases b with
   |false =>
    rw[if_neg xj] at q9 ⊢;obtain⟨m',hm,w9⟩:=q9;obtain⟨g9,d9⟩:=Yp I9 (Xj _ (Xd.mpr rfl));refine⟨m',hm,i+1,acc,ys,k,σ8,H9,I9.pins_of (λp hp=>nomatch hp),keep _ _ _ t7 λb hb o e=>(Yp I9 (Vf _ (yu hb e))).1,λb hb=>?_,d9,g9,v5,l5,w9⟩;obtain⟨o,e,_⟩:=obj _ _ t7 b hb;exact(Yp I9 (Vf _ (yu hb e))).2
   |true =>
    rw[if_pos rfl] at q9 ⊢;refine bh (jO _ _ _ _ _ s9 σ8 H9 _ I9 q9) λyv Cu ⟨y,D9,D8,r10,lt,m',hm,w10⟩=>?_;obtain⟨g10,IQ⟩:=Yp D8 (Xj _ (Xd.mpr rfl));have t10:tn (i+1) Cu.heap:=keep _ _ _ t7 λb hb o e=>(Yp D8 (Vf _ (yu hb e))).1;have n10:∀ b∈fp,D9 b=none:=λb hb=>by
     obtain⟨o,e,_⟩:=obj _ _ t7 b hb;exact(Yp D8 (Vf _ (yu hb e))).2
    have Kj:Inv (ie X cs N' C s3 H2 (D::fp)) [] σ8 D9 Cu:=D8.pins_of λp hp=>nomatch hp;have lys:ys.size=acc.length:=by have:=v5.length;simp at this;lia
    refine wpAny_list_append_plain (hsz:=by lia) (show Cu.heap.PlainList D ys from⟨k,g10⟩) λh11 p11 uM=>?_;obtain⟨_,a1,a2,a3,a4,a5⟩:=Dt (pl:=[]) (H':=D9) (b:=D) Wh IQ λp hp=>nomatch hp;obtain⟨k11,ID⟩:=p11;refine⟨m',hm,i+1,acc++[y],ys.push yv,k11,σ8,D9,Kj.turned (t':=Cu.toks) (it:=D) (λb o hb e=>(uM.2 b hb).trans e) IQ a1 a3 a4 a5,keep _ _ _ t10 λb hb o e=>(uM.2 b (Xc (CW b hb))).trans e,n10,IQ,ID,?_,by rw[Xg,XB];exact lt,w10⟩;rw[Array.toList_push];exact v5.append (.cons r10 .nil)
 have R1:∀ tk,bM (ak X.prog X.w) X.A (.compStart (.ListComp elt [⟨tg,iter,ifs,0⟩] cs pos) 0 (.ref it) (.ref D) (ie X cs N' C s3 H2 (D::fp)).env) (RR (.ref D) C) {s3 with heap:=h1,toks:=tk}:=λtk =>
  codeAny_compStart_list (lp tk) (self _ 0 _ _ _ (keep _ _ _ kO λb hb o e=>Ck b o (LH b o e)) (lp tk))
 have R2:=R1 s2.toks;rw[<- es4] at R2;subst hD;rw[hC,nX] at R2;exact R2
end
section
variable {X:Cx} {pins:List (af×Obj)} {σ:L2.St} {H:Hp} {s:ag} {h':Heap}
theorem qv{t':Nat}{ch:List af}(I:Inv X pins σ H s)(f:∀ b∈ch,yY X pins H b)(k:∀ b o,b∉ch->s.heap.get? b=some o->h'.get? b=some o):Inv X pins σ H {s with heap:=h',toks:=t'}:=by
 have nt:∀ b u,H b=some u->b∉ch:=λb u e z=>by
  have q:=(f b z).1;rw[e] at q;cases q
 refine I.step (g':=s.gens) (d':=s.drawn) (ch:=ch) (λb hb=>?_) (λb o _ _ hc e _=>k b o hc e) (λb o _ _ hc e _=>⟨o.slots,k b o hc e⟩) (λ_ _ _ _ n=>n) (λb o hc e=>⟨o,k b o hc e⟩) (λ_ _ e=>e) (λ_ _ _ e=>e) (λb ps e=>⟨#[],by rw[e];simp⟩) (λm hm=>?_) (λb u e=>?_) I.bare
 ·obtain⟨_,f1,f2,f3,f4,f5⟩:=f b hb;exact⟨f3,f1,f4,f5⟩
 ·obtain⟨o,es,ep,ho,r⟩:=hm;exact⟨o,es,ep,k _ o (λz=>(f _ z).2.1 rfl) ho,r⟩
 ·refine(I.aU b u e).iT (λc v hc q=>k c v ?_ q) (λ_ q=>q) λ_ _ q=>q
  rcases hc with z|z
  ·rw[z];exact nt b u e
  ·exact nt c _ z
noncomputable def gH(K:PySem.W.Frag)(H:Hp)(b:Bool)(a:af)(xs:List V):Prop:=if b=true then gc K H a xs else fG K H a xs
theorem yr{b:Bool}{a:af}{xs:List V}(I:Inv X pins σ H s)(h:gH X.K H b a xs):∃ aB:List aa,Vals xs aB/\cJ s.heap b a aB.toArray/\xs.length<=sizeLine:=by
 cases b with
 |false=>obtain⟨aB,r,p,z⟩:=I.list (show fG X.K H a xs from h);exact⟨aB,r,p.isList,z⟩
 |true=>obtain⟨aB,r,p,z⟩:=I.tuple (show gc X.K H a xs from h);exact⟨aB,r,p,z⟩
theorem JO{b:Bool}{a:af}{xs ys:List V}(I:Inv X pins σ H s)(h:gH X.K H b a xs)(h':gH X.K H b a ys):xs=ys:=by
 cases b with
 |false=>exact I.list_inj (show fG X.K H a xs from h) h'
 |true=>exact I.tuple_inj (show gc X.K H a xs from h) h'
noncomputable def Kh(K:PySem.W.Frag)(b1 b2:Bool)(a1 a2:af):It :=
 ⟨λi H=>∃ xs ys,gH K H b1 a1 xs/\gH K H b2 a2 ys/\i<xs.length/\i<ys.length,
 λi H x H'=>∃ T x1 y1,x=.ref T/\H T=none/\H'=upd H T (.tup [x1,y1])/\(∀ xs,gH K H b1 a1 xs->xs[i]?=some x1)/\(∀ ys,gH K H b2 a2 ys->ys[i]?=some y1),
 λi H=>∃ xs ys,gH K H b1 a1 xs/\gH K H b2 a2 ys/\(i=xs.length\/(i<xs.length/\i=ys.length))⟩
theorem qk{A:ay}(h:A.handled=none):A.in1.handled=none:=h
theorem ycv{P:aj}{w:World}{K:PySem.W.Frag}{es:List Expr}{kt:Nat}{pt:Pos}{b1 b2:Bool}{a1 a2 z TI TO i1 i2:af}(Z:∀ m,(∀ a∈[a1,a2],a<m)->(∀ a∈[z,TI,TO,i1,i2],m<=a)->sM z TI TO i1 i2 [i1,a1] [i2,a2])
  (m:Nat) (h1:∀ a∈[a1,a2],a<m) (h2:∀ a∈[z,TI,TO,i1,i2],m<=a) :
  Turn P w K (.Tuple es kt pt) (Kh K b1 b2 a1 a2) [z,TI,TO,i1,i2] z (λi h=>dG h z TI TO .none/\bu h TI (.ref i1) (.ref i2)/\(∃ a b,bu h TO a b)/\dF h b1 i1 a1 i/\dF h b2 i2 a2 i) where
 mem:=by simp
 obj:=λi h ⟨e1,e2,⟨a,b,e3⟩,e4,e5⟩ c hc=>by
  simp only[ua,Ud,or_false] at hc
  rcases hc with rfl|rfl|rfl|rfl|rfl
  ·exact⟨_,e1,λv q=>nomatch q⟩
  ·exact⟨_,e2,λv q=>nomatch q⟩
  ·exact⟨_,e3,λv q=>nomatch q⟩
  ·exact e4.obj
  ·exact e5.obj
 keep:=λi h h' ⟨e1,e2,⟨a,b,e3⟩,e4,e5⟩ k=>⟨k z (by simp) _ e1,k TI (by simp) _ e2,⟨a,b,k TO (by simp) _ e3⟩,e4.keeps λo e=>k i1 (by simp) o e,e5.keeps λo e=>k i2 (by simp) o e⟩
 item:=by
  intro X hP hw hK hc i pins s σ H E I hf ⟨e1,e2,⟨a,b,e3⟩,e4,e5⟩ hg;subst hP hw hK;obtain⟨xs,ys,q1,q2,l1,l2⟩:=hg;obtain⟨iE,v1,p1,_⟩:=yr I q1;obtain⟨gP,v2,p2,_⟩:=yr I q2;have ZZ:=Z m h1 h2;have n1:a1≠i1:=Xc (Wd (h1 a1 (by simp)) (h2 i1 (by simp)));have n2:a2≠i2:=Xc (Wd (h1 a2 (by simp)) (h2 i2 (by simp)));have D1:=yO (prog:=X.prog) (w:=X.w) (qk (I.ok.hd hc)) b1 i1 a1 n1 iE.toArray;have D2:=yO (prog:=X.prog) (w:=X.w) (qk (I.ok.hd hc)) b2 i2 a2 n2 gP.toArray;have HQ:=v1.length;have HP:=v2.length;refine ZaL ZZ D1 D2 e1 e2 e3 ⟨e4,p1⟩ ⟨e5,p2⟩ (by simp;lia) (by simp;lia) λx y g tk px py f1 f2 f3 f4 f5 f6 f7=>⟨_,rfl,?_⟩;refine wpAny_letOwnedTupleGo_zip (s:={s with heap:=g,toks:=tk}) f1 λg' f8 f9=>?_;obtain⟨x1,Af⟩:∃ x1,xs[i]?=some x1:=⟨xs[i],by simp[l1]⟩;obtain⟨y1,M8⟩:∃ y1,ys[i]?=some y1:=⟨ys[i],by simp[l2]⟩;obtain⟨u1,Hu,r1⟩:=v1.get Af;obtain⟨u2,hu2,r2⟩:=v2.get M8;have ex:x=u1:=by have z:iE.toArray[i]?=some x:=px;simp[Hu] at z;exact z.symm
  have ey:y=u2:=by have z:gP.toArray[i]?=some y:=py;simp[hu2] at z;exact z.symm
  subst ex ey;have zlt:z≠s.heap.objs.size:=Xc (Xa e1);have I1:Inv X pins σ H {s with heap:=g',toks:=tk}:=qv (ch:=[z,TI,TO,i1,i2]) I hf λc o eg e=>by
   simp only[ua,Ud,or_false,not_or] at eg;exact(f9.2 c eg.1).trans (f7 c o eg.1 eg.2.2.1 eg.2.2.2.1 eg.2.2.2.2 e)
  have fT:=I.jP (b:=s.heap.objs.size) (xb _) (I.aU.fresh (xb _));have gT:g'.get? s.heap.objs.size=some {cls:=.type "tuple",data:=.seq #[x,y]}:=(f9.2 _ (Ne.symm zlt)).trans f5;have I2:Inv X pins σ (upd H s.heap.objs.size (.tup [x1,y1])) {s with heap:=g',toks:=tk}:=JG I1 fT I.sz ⟨by show 2<=sizeLine;decide,[x,y],.cons r1 (.cons r2 .nil),⟨_,gT,rfl,_,rfl⟩⟩;have kz:∀ c∈[TI,TO,i1,i2],c≠z:=λc eg=>by
   simp only[ua,Ud,or_false] at eg
   rcases eg with rfl|rfl|rfl|rfl
   ·exact ZZ.F8
   ·exact ZZ.ox
   ·exactλq=>ZZ.z1 (q ▸ ZZ.m1)
   ·exactλq=>ZZ.z2 (q ▸ ZZ.m2)
  refine⟨.ref s.heap.objs.size,_,I2,rfl,⟨_,x1,y1,rfl,fT.1,rfl,λzs hz=>by rw[JO I hz q1];exact Af,λzs hz=>by rw[JO I hz q2];exact M8⟩,
   ⟨f8,(f9.2 TI (kz TI (by simp))).trans (f7 TI _ ZZ.F8 ZZ.tN ZZ.LK ZZ.LJ e2),⟨x,y,(f9.2 TO (kz TO (by simp))).trans f2⟩,f3.1.keeps λo e=>(f9.2 i1 (kz i1 (by simp))).trans e,f4.1.keeps λo e=>(f9.2 i2 (kz i2 (by simp))).trans e⟩,λc eg=>?_⟩
  have lt:c<s.heap.objs.size:=by
   simp only[ua,Ud,or_false] at eg
   rcases eg with rfl|rfl|rfl|rfl|rfl
   ·exact Xa e1
   ·exact Xa e2
   ·exact Xa e3
   ·exact let ⟨o,e,_⟩:=e4.obj;Xa e
   ·exact let ⟨o,e,_⟩:=e5.obj;Xa e
  rw[Zd (Xc lt)];exact(hf c eg).1
 done:=by
  intro X hP hw hK hc i pins s σ H E I hf ⟨e1,e2,⟨a,b,e3⟩,e4,e5⟩ hg;subst hP hw hK;obtain⟨xs,ys,q1,q2,hk⟩:=hg;obtain⟨iE,v1,p1,_⟩:=yr I q1;obtain⟨gP,v2,p2,_⟩:=yr I q2;have ZZ:=Z m h1 h2;have n1:a1≠i1:=Xc (Wd (h1 a1 (by simp)) (h2 i1 (by simp)));have n2:a2≠i2:=Xc (Wd (h1 a2 (by simp)) (h2 i2 (by simp)));have D1:=yO (prog:=X.prog) (w:=X.w) (qk (I.ok.hd hc)) b1 i1 a1 n1 iE.toArray;have D2:=yO (prog:=X.prog) (w:=X.w) (qk (I.ok.hd hc)) b2 i2 a2 n2 gP.toArray;have HQ:=v1.length;have HP:=v2.length;refine YaO ZZ D1 D2 e1 e2 e3 ⟨e4,p1⟩ ⟨e5,p2⟩ (by simp;lia) λg tk k=>⟨rfl,?_⟩;exact qv (ch:=[z,TI,TO,i1,i2]) I hf λc o eg e=>by
   simp only[ua,Ud,or_false,not_or] at eg;exact k c o eg.1 eg.2.2.1 eg.2.2.2.1 eg.2.2.2.2 e
 self:=λ_ _ _ _ _ st h=>hX st.1 h
end
section
variable {X:Cx}
theorem Lo{tg:Expr}{J:It}{fp:List af}{it:af}{tn:Nat->Heap->Prop}(hc:X.calm=true)(T:Turn X.prog X.w X.K tg J fp it tn):K9 X tg J fp it tn :=
 λY e1 e2 e3 e4 e5 i pins s σ H E I f t g=>by
  have q:=T.item Y e1 e2 e3 (e4.trans hc) i pins s σ H E I f t g;rw[e5] at q;exact q
theorem NR{tg:Expr}{J:It}{fp:List af}{it:af}{tn:Nat->Heap->Prop}(hc:X.calm=true)(T:Turn X.prog X.w X.K tg J fp it tn):NN X J fp it tn :=
 λY e1 e2 e3 e4 e5 _ i pins s σ H E I f t g=>by
  have q:=T.done Y e1 e2 e3 (e4.trans hc) i pins s σ H E I f t g;rw[e5] at q;exact q
variable {elt iter tg:Expr} {ifs:List Expr} {cs:aA} {pos:Pos} {wi:TI} {g:TG} {tc:TT} {te:TE}
theorem ycR(N':List Str)(bZ:Nat)(js:List Nat)(aU:ZG X.env.scope X.N cs N' bZ js=true)(hc:X.calm=true)(hi:PI X tg iter wi)(hg:∀ C s3 H ex,PG (ie X cs N' C s3 H ex) tg g)(nT:∀ C s3 H ex,l6 (ie X cs N' C s3 H ex) ifs tc)
  (jO:∀ C s3 H ex,PE (ie X cs N' C s3 H ex) elt te) (hs:∀ x,cT iter X.env x=pure x:=by intro _;rfl):PE X (.ListComp elt [⟨tg,iter,ifs,0⟩] cs pos) (GR wi bZ js g tc te):=by
 intro pins s σ H Q I h;have ok:=iq.of aU;rw[eval_ListComp];refine eF (use:=none) rfl hs (ML λy hy e=>I.ok.has y.1 (ok.free y hy e)) ok.kind ok.locs (bh (hi pins s σ H _ I h) λv s1 h1=>bh h1 λC3 s2 h2=>?_);obtain⟨it,fp,tn,J,H2,e,I2,T,kO,f2,W,w0,turn⟩:=h2;subst e;refine Lz (Q:=Q) (RR:=λacc C=>compPost (ak X.prog X.w) X.A X.xe none (EP X pins σ Q) acc C) ok hg nT jO I2 T.mem T.obj T.keep (Lo hc T) (NR hc T) T.self kO f2 W w0 turn λD C acc H' s6 IX fC zC hm q=>?_;obtain⟨m,hm⟩:=hm;refine⟨m,hm,λh' sb=>⟨.ref D,_,?_,rfl,q⟩⟩;exact qv (t':=s6.toks) (ch:=[C]) IX (λb hb=>by obtain rfl:=Xd.mp hb;exact fC) λb o hb e=>(sb.2 b λz=>hb (by simp[z])).trans e
theorem qcU{i:Nat}{x:Str}{pos' uI:Pos}(hN:X.N.Nodup)(Dj:X.N[i]?=some x)(hx:Loc X.env.scope x)(N':List Str)(bZ:Nat)(js:List Nat)(aU:ZG X.env.scope X.N cs N' bZ js=true)(hc:X.calm=true)(hi:PI X tg iter wi)
  (hg:∀ C s3 H ex,PG (ie X cs N' C s3 H ex) tg g) (nT:∀ C s3 H ex,l6 (ie X cs N' C s3 H ex) ifs tc) (jO:∀ C s3 H ex,PE (ie X cs N' C s3 H ex) elt te)
  (Ak:bp (.ListComp elt [⟨tg,iter,ifs,0⟩] cs pos) (some (.Name x pos')) uI.line X.env=pure true:=by rfl) (hs:∀ x,cT iter X.env x=pure x:=by intro _;rfl)
  (hf:X.fn x=true\/X.env.scope.names.lookup x=some .local:=by first|exact .inl rfl|exact .inr rfl|assumption) :
  PS X (.Assign [.Name x pos'] (.ListComp elt [⟨tg,iter,ifs,0⟩] cs pos) uI) (t9 (GR wi bZ js g tc te) (Jt i)):=by
 intro pins s σ H D0 I h;have ok:=iq.of aU;rw[exec_Assign_Name_used _ _ _ _ Ak];refine ae (bS (ae ?_));show ai _ X.A (do let _<-comprehension (.ListComp elt [⟨tg,iter,ifs,0⟩] cs pos) cs X.env _ (newList []) false (eval iter X.env) (some (eL (.Name x pos') X.env))) _ _ s;refine ae (aW (eF (use:=some (eL (.Name x pos') X.env)) (Q:=λ_ s'=>SP X pins D0 .next s') rfl hs (ML λy hy e=>I.ok.has y.1 (ok.free y hy e)) ok.kind ok.locs (bh (hi pins s σ H _ I h) λv s1 h1=>bh h1 λC3 s2 h2=>?_))
  (λ_ s' hq=>ah (ah hq)) λ_ _ e=>e)
 obtain⟨it,fp,tn,J,H2,e,I2,T,kO,f2,W,w0,turn⟩:=h2;subst e;refine Lz (Q:=λv H'=>Jt i v σ H' D0.nx) (RR:=λacc C=>compPost (ak X.prog X.w) X.A X.xe (some (eL (.Name x pos') X.env)) (λ_ s'=>SP X pins D0 .next s') acc C) ok hg nT jO I2 T.mem T.obj T.keep (Lo hc T) (NR hc T) T.self kO f2 W w0 turn λD C acc H' s6 IX fC zC hm q=>?_;obtain⟨m,hm⟩:=hm;obtain⟨oC,esC,epC,gC,dC,rC⟩:=id hm;have nc:∀ v,oC.data≠.cell v:=λv z=>by rw[dC] at z;cases z
 have IXp:=IX.pinned (fp:=[C]) (λb hb=>by obtain rfl:=Xd.mp hb;exact fC) (λb hb=>by obtain rfl:=Xd.mp hb;exact⟨oC,gC,nc⟩);show ai (ak X.prog X.w) X.A (eL (.Name x pos') X.env (.ref D)) _ X.xe s6;refine bh (My hN Dj hx hf _ s6 σ _ (.ref D) (.ref D) _ IXp rfl q) λ_ s7 ⟨σ7,H7,I7,q7⟩=>?_;obtain⟨g7,d7⟩:=Yp I7 (Vf _ (yu (Xd.mpr rfl) gC));refine⟨m,⟨oC,esC,epC,g7,dC,rC⟩,λh' sb=>⟨σ7,H7,?_,q7⟩⟩;obtain⟨_,c1,c2,c3,c4,c5⟩:=fC;exact qv (t':=s7.toks) (ch:=[C]) I7.gN (λb hb=>by obtain rfl:=Xd.mp hb;exact⟨d7,c1,c2,c3,c4,c5⟩) λb o hb e=>(sb.2 b λz=>hb (by simp[z])).trans e
theorem yD{a b:Nat}(h:a<b\/b<a):a≠b:=by lia
theorem rQ{a b c:Nat}(h1:a≠b)(h2:a≠c):(a:af)∉([b,c]:List af):=by
 simp only[ua,Ud,or_false,not_or];exact⟨h1,h2⟩
theorem ZcZ(n a1 a2:Nat)(h1:a1<n)(h2:a2<n):sM (n+4) (n+2) (n+3) n (n+1) [n,a1] [n+1,a2] where
 F8:=yD (a:=n+2) (b:=n+4) (by lia)
 ox:=yD (a:=n+3) (b:=n+4) (by lia)
 tN:=yD (a:=n+2) (b:=n+3) (by lia)
 LK:=yD (a:=n+2) (b:=n) (by lia)
 LJ:=yD (a:=n+2) (b:=n+1) (by lia)
 z1:=rQ (yD (by lia)) (yD (by lia))
 z2:=rQ (yD (by lia)) (yD (by lia))
 t1:=rQ (yD (by lia)) (yD (by lia))
 t2:=rQ (yD (by lia)) (yD (by lia))
 m1:=by simp
 m2:=by simp
 a1:=rQ (yD (by lia)) (yD (by lia))
 a2:=rQ (yD (by lia)) (yD (by lia))
theorem Iy{n b:Nat}(h:(b:af)∈([n+4,n+2,n+3,n,n+1]:List af)):n<=b:=by
 simp only[ua,Ud,or_false] at h
 rcases h with h|h|h|h|h <;> (have h':b=_:=h;rw[h'];first|exact UF _ _|exact xb _)
theorem Nq{n b:Nat}(h:(b:af)∈([n+1,n]:List af)):n<=b:=by
 simp only[ua,Ud,or_false] at h
 rcases h with h|h <;> (have h':b=_:=h;rw[h'];first|exact UF _ _|exact xb _)
noncomputable def Ac(K:PySem.W.Frag)(ta:TA):TI:=λσ H R=>ta σ H λvs H1=>∃ b1 b2 a1 a2,vs=[.ref a1,.ref a2]/\(∃ xs,gH K H1 b1 a1 xs)/\(∃ ys,gH K H1 b2 a2 ys)/\R (Kh K b1 b2 a1 a2) H1
theorem Zc7{a b:Expr}{ta:TA}{p pos:Pos}{es:List Expr}{kt:Nat}{pt:Pos}(hg:Gl X "zip")(hm:X.mg "zip"=none)(ha:PA X [a,b] ta)(hs:au [a,b] X.env=[(false,eval a X.env),(false,eval b X.env)]:=by rfl)(lK:au [b] X.env=[(false,eval b X.env)]:=by rfl) :
  PI X (.Tuple es kt pt) (.Call (.Name "zip" p) [a,b] [] pos) (Ac X.K ta):=by
 intro pins s σ H R I h;refine Call_ (oW I hg hm boot_zip (PyProof.Rows.callWith_type1 (bh (ha pos pins s σ H _ I h) λus s1 ⟨vs,H1,I1,r1,q1⟩=>?_) (by rw[hs,lK]) (by rw[lK];rfl)));obtain⟨b1,b2,a1,a2,e,⟨xs,h1⟩,⟨ys,h2⟩,q⟩:=q1;subst e;cases r1 with
 |cons r rr =>
  cases rr with
  |cons r' rr =>
   cases rr;obtain rfl:_=aa.ref a1:=r;obtain rfl:_=aa.ref a2:=r';obtain⟨iE,v1,p1,_⟩:=yr I1 h1;obtain⟨gP,v2,p2,_⟩:=yr I1 h2;have l1:=p1.lt;have l2:=p2.lt;refine qcu p1 p2 λg f1 f2 f3 f4 f5 f6=>?_;refine hX f1 ?_;refine⟨s1.heap.objs.size+4,[s1.heap.objs.size+4,s1.heap.objs.size+2,s1.heap.objs.size+3,s1.heap.objs.size,s1.heap.objs.size+1],_,_,H1,rfl,I1.kept (t':=s1.toks) f6,ycv (b1:=b1) (b2:=b2) (a1:=a1) (a2:=a2) (λ_ _ _=>ZcZ _ a1 a2 l1 l2) s1.heap.objs.size (λa Dn=>?_) (λa Dn=>Iy Dn),⟨f1,f2,⟨_,_,f3⟩,f4,f5⟩,λb hb=>I1.jP (Iy hb) (I1.aU.fresh (Iy hb)),q⟩;simp only[ua,Ud,or_false] at Dn
   rcases Dn with rfl|rfl <;> assumption
end
noncomputable def jT(P:aj)(w:World):ly:=λouter H s E e s'=>∃ x C t tb H',e=.ref x/\s'.os=s.os/\dI s'.gens/\Un (lL outer) [] H H' s.heap s'.heap/\fu P w H' s'.heap/\s'.heap.get? x=some (oj C t tb)/\Tb s'.heap x tb /\
 H' x=none/\s.heap.get? x=none/\(∀ T,tb=.ref T->H' T=none/\s.heap.get? T=none)/\E (.ref C) none H'
structure rP (X:Cx) (pins:List (af×Obj)) (H:Hp) (b:af):Prop where
 un:H b=none
 loc:b≠X.env.locals
 fs:b∉X.fs
 new:X.s₀.heap.get? b=none
 cell:∀ x c,X.env.cells.lookup x=some c->c≠b
 pin:∀ p∈X.pn++pins,p.1≠b
noncomputable def Ez(X:Cx)(E:XK):Prop:=∀(pins:List (af×Obj)) (σ:L2.St) (H:Hp) (s:ag) (x C t:af) (tb:aa),Inv X pins σ H s->s.heap.get? x=some (oj C t tb)->Tb s.heap x tb->rP X pins H x->(∀ T,tb=.ref T->rP X pins H T)->E (.ref C) none H->X.xe (.ref x) s
section
variable {X:Cx} {pins:List (af×Obj)} {σ:L2.St} {H H':Hp} {s:ag}
theorem Ml{b:af}(I:Inv X pins σ H s)(hx:X.ex=[])(hb:s.heap.get? b=none)(hn:H' b=none):rP X pins H' b:=by
 have al:∀{c o},s.heap.get? c=some o->c≠b:=λ{c o} e z=>by rw[z,hb] at e;cases e
 refine⟨hn,λz=>?_,λz=>?_,?_,λx c e=>?_,λp hp=>al (I.pin p hp).1⟩
 ·obtain⟨m,⟨o,_,_,e,_⟩,_⟩:=I.loc;exact al e z.symm
 ·obtain⟨_,o,e,_⟩:=I.i4.mem z;exact al e rfl
 ·cases q:X.s₀.heap.get? b with
  |none=>rfl
  |some o =>
   obtain⟨o',e⟩:=I.base.there b o q (by rw[hx];exactλz=>nomatch z);exact absurd rfl (al e)
 ·obtain⟨v,o,e,_⟩:=I.cell x c e;exact al e
theorem qcg{E:XK}(hx:X.ex=[])(T:Ez X E):Zdg (jT X.prog X.w) X E:=by
 intro pins σ H s e s' I h;obtain⟨x,C,t,tb,H',rfl,os,bare,un,aU,e1,e2,e3,e4,e5,q⟩:=h;have I':Inv X pins σ H' s':=I.oQ (ch:=[]) os un aU bare λb z=>nomatch z;exact T pins σ H' s' x C t tb I' e1 e2 (Ml I hx e4 e3) (λT' z=>Ml I hx (e5 T' z).2 (e5 T' z).1) q
theorem Yb7{P:aj}{w:World}{h h':Heap}{fs:List af}{x:af}{tb:aa}(ok:fu P w H h)(n:lj fs x tb h h')(hf:∀ b∈fs,H b=none)(hx:H x=none)(ht:∀ T,tb=.ref T->H T=none):fu P w H h':=λb u e=>by
 have go:∀ c v,H c≠none->h.get? c=some v->h'.get? c=some v:=λc v hc q=>n.keep c v (λz=>hc (hf c z)) (λz=>hc (z ▸ hx)) (λz=>hc (ht c z.symm)) q;refine(ok b u e).iT (λc v hc q=>go c v ?_ q) (λ_ q=>q) λ_ _ q=>q
 rcases hc with z|z
 ·rw[z,e];exactλz=>nomatch z
 ·rw[z];exactλz=>nomatch z
theorem KS{h h':Heap}{fs:List af}{x:af}{tb:aa}{b:af}{o:Obj}(n:lj fs x tb h h')(h1:b≠x)(h2:aa.ref b≠tb)(e:h.get? b=some o):∃ sl,h'.get? b=some {o with slots:=sl}:=by
 by_cases z:b∈fs
 ·exact n.slot b o z h1 h2 e
 ·exact⟨o.slots,n.keep b o z h1 h2 e⟩
theorem Zcj{fs Ds ex:List af}{H0:Hp}{h0 h h':Heap}{x:af}{tb:aa}(u:Un fs ex H0 H h0 h)(n:lj Ds x tb h h')(hx:h0.get? x=none)(ht:∀ T,tb=.ref T->h0.get? T=none)(hs:∀ b o,h0.get? b=some o->b∉fs->b∉Ds):Un fs ex H0 H h0 h':=by
 have ne:∀ b o,h0.get? b=some o->b≠x/\aa.ref b≠tb:=λb o e=>⟨λz=>(by rw[z,hx] at e;cases e),λz=>(by rw[ht b z.symm] at e;cases e)⟩;refine⟨λb o e q hb jh=>n.keep b o (hs b o e hb) (ne b o e).1 (ne b o e).2 (u.keep b o e q hb jh),λb o e q hb jh=>?_,u.free,λb o e jh=>?_,u.jm,u.i5,u.jo⟩
 ·obtain⟨sl,z⟩:=u.slot b o e q hb jh;obtain⟨Ct,z'⟩:=KS n (ne b o e).1 (ne b o e).2 z;exact⟨Ct,z'⟩
 ·obtain⟨o',z⟩:=u.there b o e jh;obtain⟨Ct,z'⟩:=KS n (ne b o e).1 (ne b o e).2 z;exact⟨_,z'⟩
theorem zcb(I:Inv X pins σ H s){b:af}{o:Obj}(e:X.s₀.heap.get? b=some o)(hb:b∉X.fs):b∉lL X.stack:=λz=>by
 rcases ua.mp (I.ib b z) with y|y
 ·exact absurd (Wd (Xa e) I.ok.above) (by rw[y];exact Ui _)
 ·exact hb y
end
theorem MJ{P:aj}{w:World}{K:PySem.W.Frag}{mg:Str->Option aa}{base:Heap}{N:List Str}{qual:Str}{scope:aA}{f:af}{cd:aa}{A:ay}{outer:List Env}{s0:ag}{H0:Hp}{E:XK} :
  Ez (lQ (jT P w) P w K mg base N qual scope f cd A outer s0 H0 E) E:=by
 intro pins σ H s x C t tb I e1 e2 fx ft q;refine ycb (env:=eK qual scope s0.heap.objs.size f cd) (outer:=outer) (L:=s0.heap.objs.size) I.ok.frames I.stack rfl e1 e2 λh' T n g1 g2 g3=>?_;refine⟨x,C,t,.ref T,H,rfl,I.os,I.bare,Zcj I.base n fx.new (λT z=>(ft T z).new) λb o e hb=>zcb I e hb,Yb7 I.aU n I.jH fx.un λT z=>(ft T z).un,g1,g2,fx.un,fx.new,λT' z=>?_,q⟩;cases z;exact⟨I.aU.fresh g3,XC (vf I.sz g3)⟩
theorem QcX{P:aj}{w:World}{K:PySem.W.Frag}{mg:Str->Option aa}{base:Heap}{N:List Str}{qual:Str}{scope:aA}{f:af}{cd:aa}{A:ay}{outer:List Env}{s0:ag}{H0:Hp}{E:XK}{CX:ly} :
  fW (ak P w) (lQ CX P w K mg base N qual scope f cd A outer s0 H0 E).A (lQ CX P w K mg base N qual scope f cd A outer s0 H0 E).env (lQ CX P w K mg base N qual scope f cd A outer s0 H0 E).xe:=fW.leaving
abbrev bmV:List aa:=[.type "ValueError",.type "Exception",.type "BaseException",.type "object"]
noncomputable def l9(K:PySem.W.Frag)(C:af):Prop:=PySem.W.excIn K C bmV "ValueError.__new__"=true
noncomputable def CF(K:PySem.W.Frag)(C:af):List aa:=match K.lookup C with
 |some ⟨_,_,.cls cd,_⟩=>cd.mro.tail
 |_=>[]
structure BN (K:PySem.W.Frag) (C:af):Prop where
 q:l9 K C
 ga:xc K (.ref C) "__getattribute__"=some (some (.builtin "BaseException.__getattribute__"))
 gt:xc K (.ref C) "__getattr__"=some none
 cl:xc K (.ref C) "__class__"=some (some (.builtin "object.__class__"))
 gn:Uu K (.builtin "object.__class__") "__get__"=some (some (.builtin "getset_descriptor.__get__"))
 tk:Ww K (.builtin "object.__class__")=some true
 mo:Wo K C (.type "object")=some true
 ci:(Vk K C).isSome=true
section
variable {X:Cx} {pins pl:List (af×Obj)} {σ σ0:L2.St} {H:Hp} {s:ag} {E:XK}
noncomputable def yy(CX:ly)(X:Cx)(σ:L2.St)(E:XK):Prop:=∀(pins:List (af×Obj)) (H:Hp) (s:ag) (e:aa) (s':ag),Inv X pins σ H s->CX X.stack H s E e s'->X.xe e s'
end
section
variable {X:Cx} {CX:ly} {k:Nat} {f C:af} {fd:bw} {ps:List Str} {sp:Sp} {dvs:List V} {ds:List aa} {E:XK} {x m:Str} {p pos apos:Pos} {e o:Expr} {es:List Expr} {ta:TE} {t:TA} {σ0:L2.St}
theorem Jw{pins:List (af×Obj)}{H:Hp}{s:ag}{Q:VK}{us:List aa}{vs:List V}(F:fH X.prog X.w X.K X.mg X.base CX k f fd ps sp)(hr:dy k X.A)(hb:Binds X.K fd ps ds)(hd:Vals dvs ds)(hx:yy CX X σ0 E)
  (I:Inv X pins σ0 H s) (r:Vals vs us) (h:sp (vs++dvs) H Q E):ai (ak X.prog X.w) X.A (call (.ref f) us) (EP X pins σ0 Q) X.xe s:=by
 have r2:Vals (vs++dvs) (us++ds):=r.append hd;have hl:(us++ds).length=ps.length:=by rw[<- r2.length];exact F.len _ _ _ _ h
 refine fg (cX (F.run X.A X.stack s H ⟨us,[]⟩ (us++ds) (vs++dvs) Q E hr I.AO (hb s us I.hV hl) r2 h) λr s' hq=>?_);cases r with
 |error e=>exact hx pins H s e s' I hq
 |ok fl =>
  cases fl with
  |ret u=>exact I.after hq
  |next=>exact False.elim hq
  |brk=>exact False.elim hq
  |cont=>exact False.elim hq
noncomputable def OT(σ0:L2.St)(sp:Sp)(dvs:List V)(E:XK)(t:TA):TE:=λσ H Q=>σ=σ0/\t σ H λvs H1=>sp (vs++dvs) H1 Q E
theorem qcC(F:fH X.prog X.w X.K X.mg X.base CX k f fd ps sp)(hr:dy k X.A)(hg:Gl X x)(hm:X.mg x=some (.ref f))(hk:Xe X.K (.ref f)=true)(hb:Binds X.K fd ps ds)(hd:Vals dvs ds)(hx:yy CX X σ0 E)
  (ha:PA X (e::es) t) (ku:(x==("__debug__":Str))=false:=by decide) (he:au (e::es) X.env=(false,eval e X.env)::au es X.env:=by rfl) (cF:(bj pos (au es X.env)).any (·.1)=false:=by rfl) :
  PE X (.Call (.Name x p) (e::es) [] pos) (OT σ0 sp dvs E t):=by
 intro pins s σ H Q I h;obtain⟨rfl,h⟩:=h;refine aX (DO I hg hm ?_ ku);refine Vy (h₀:=X.base) I.ok.mod.xJ hk (bh (ha pos pins s σ H _ I h) λus s1 ⟨vs,H1,I1,r,q⟩=>⟨I1.hV,?_⟩) he cF;exact Jw F hr hb hd hx I1 r q
theorem ycc{pins:List (af×Obj)}{H:Hp}{s:ag}{Q:VK}{us:List aa}{vs:List V}(M:Mk X.K C f)(F:fH X.prog X.w X.K X.mg X.base CX k f fd ps sp)(hr:dy (k+1) X.A)(hb:Binds X.K fd ps ds)(hd:Vals dvs ds)
  (hx:yy CX X σ0 E) (I:Inv X pins σ0 H s) (r:Vals vs us)
  (h:∀ x dx,H x=none->H dx=none->dx≠x->sp (.ref x::(vs++dvs)) (upd (upd H dx (.own x)) x (.ins C dx [])) (λv H2=>v=.bG/\Q (.ref x) H2) E) :
  ai (ak X.prog X.w) X.A (call (.ref C) us) (EP X pins σ0 Q) X.xe s:=by
 have hq:=h (s.heap.objs.size+1) s.heap.objs.size (I.aU.fresh (Xy _)) (I.aU.fresh (xb _)) (Xc (Uj _));have I2:=Inv.made (C:=C) I;have r2:Vals (V.ref (s.heap.objs.size+1)::(vs++dvs)) (aa.ref (s.heap.objs.size+1)::(us++ds)):=.cons rfl (r.append hd);have hl:(aa.ref (s.heap.objs.size+1)::us++ds).length=ps.length:=by
  have e:=r2.length;rw[F.len _ _ _ _ hq] at e;exact e.symm
 refine fg (Zcq (f:=f) I.hV M.makes M.init (beq_iff_eq.mp M.fn) (cX (F.run _ X.stack _ _ ⟨aa.ref (s.heap.objs.size+1)::us,[]⟩ (aa.ref (s.heap.objs.size+1)::(us++ds)) _ _ E (hr.make C us [])
  (I2.AO.make C us []) (hb _ (aa.ref (s.heap.objs.size+1)::us) I2.hV hl) r2 hq) λr s' An=>?_))
 cases r with
 |error e=>exact hx pins _ _ e s' I2 An
 |ok fl =>
  cases fl with
  |ret u =>
   obtain⟨v,H',I3,rv,ev,q3⟩:=I2.after An;subst ev;exact⟨rv,⟨V.ref (s.heap.objs.size+1),H',I3,rfl,q3⟩⟩
  |next=>exact False.elim An
  |brk=>exact False.elim An
  |cont=>exact False.elim An
noncomputable def K2(σ0:L2.St)(C:af)(sp:Sp)(dvs:List V)(E:XK)(t:TA):TE:=λσ H Q=>σ=σ0/\t σ H λvs H1=>∀ x dx,H1 x=none->H1 dx=none->dx≠x ->
 sp (.ref x::(vs++dvs)) (upd (upd H1 dx (.own x)) x (.ins C dx [])) (λv H2=>v=.bG/\Q (.ref x) H2) E
theorem Ycs(M:Mk X.K C f)(F:fH X.prog X.w X.K X.mg X.base CX k f fd ps sp)(hr:dy (k+1) X.A)(hg:Gl X x)(hm:X.mg x=some (.ref C))(hb:Binds X.K fd ps ds)(hd:Vals dvs ds)(hx:yy CX X σ0 E)
  (ha:PA X (e::es) t) (ku:(x==("__debug__":Str))=false:=by decide) (he:au (e::es) X.env=(false,eval e X.env)::au es X.env:=by rfl) (cF:(bj pos (au es X.env)).any (·.1)=false:=by rfl) :
  PE X (.Call (.Name x p) (e::es) [] pos) (K2 σ0 C sp dvs E t):=by
 intro pins s σ H Q I h;obtain⟨rfl,h⟩:=h;refine aX (DO I hg hm ?_ ku);refine Vy (h₀:=X.base) I.ok.mod.xJ M.kp (bh (ha pos pins s σ H _ I h) λus s1 ⟨vs,H1,I1,r,q⟩=>⟨I1.hV,?_⟩) he cF;exact ycc M F hr hb hd hx I1 r q
end
structure oq (K:PySem.W.Frag) (x qual:Str) (st:Stmt) (f:af) (fd:bw):Prop where
 ex:∃(oc:aa)(od:Option af)(dV kV doc pm:aa)(an:Option af)(dM ct:aa) (ju:Array (Option aa)),
  fd=Xf x qual (Qi st) (Zg st) (zc st) dV kV doc pm an dM ct/\K.lookup f=some ⟨oc,od,.func fd,ju⟩/\vg K dM qual=true
 kp:Xe K (.ref f)=true
theorem ZcK{K:PySem.W.Frag}{x qual:Str}{st:Stmt}{f:af}{oc:aa}{od an:Option af}{ju:Array (Option aa)}{dV kV doc pm dM ct:aa}(l:K.lookup f=some ⟨oc,od,.func (Xf x qual (Qi st) (Zg st) (zc st) dV kV doc pm an dM ct),ju⟩)
  (c:vg K dM qual=true) (k:Xe K (.ref f)=true):oq K x qual st f (Xf x qual (Qi st) (Zg st) (zc st) dV kV doc pm an dM ct):=⟨⟨oc,od,dV,kV,doc,pm,an,dM,ct,ju,rfl,l,c⟩,k⟩
structure BB (k:Nat) (A:ay) (x:af):Prop where
 hd:A.handled=some (.ref x)
 dp:A.depth+3*k+5<bT
 un:A.units+16*k+200<c7
structure BM (P:aj) (w:World) (K:PySem.W.Frag) (mg:Str->Option aa) (base:Heap) (k:Nat) (f:af) (fd:bw) (ps:List Str) (sp:af->af->Sp):Prop where
 len:∀ x C vs H Q E,sp x C vs H Q E->vs.length=ps.length
 run:∀(x C t T:af)(A:ay)(outer:List Env)(s:ag)(H:Hp) (args:Args) (us:List aa) (vs:List V) (Q:VK),BB k A x->ki P w K mg base A outer s H->s.heap.get? x=some (oj C t (.ref T))->H x=none->hU s fd args (ps.zip us)->Vals vs us->sp x C vs H Q E0 ->
  bM (ak P w) A (.call (.ref f) args) (CR CX0 outer P w H s Q E0) s
theorem Y9{prog:aj}{w:World}{A:ay}(hh:A.handled=none)(b:Bool)(I ax:af)(ji:ax≠I)(items:Array aa) :
  Walks prog w A I [I,ax] [I] items.size (λi v=>items[i]?=some v) (λi h=>dF h b I ax i/\cJ h b ax items):=by
 cases b with
 |false=>exact Walks.list hh I ax ji items
 |true =>
  exact{
   sub:=λb hb=>by simp at hb;simp[hb]
   frame:=λ_ _ _ st hk=>⟨st.1.keeps λo e=>hk I (by simp) o e,st.2.keeps λo e=>hk ax (by simp) o e⟩
   item:=λi s Q E hi st hQ=>by
    refine eP (show s.heap.IsTupleIter I ax i from st.1) (show s.heap.IsTuple ax items from st.2) (x:=items[i]) (by simp[hi]) λh' a sb=>?_;exact hQ _ h' s.toks (by simp[hi]) ⟨a,st.2.keeps λo e=>sb.extBut ax o ji e⟩ λb o hb e=>sb.extBut b o (λz=>hb (by simp[z])) e
   done:=λs Q E st hQ=>e8 hh (show s.heap.IsTupleIter I ax items.size from st.1) (show s.heap.IsTuple ax items from st.2) (by simp) λh' he=>hQ h' s.toks λb o hb e=>he b o (λz=>hb (by simp[z])) e
   self:=λ_ _ _ _ st hQ=>fe (show Heap.IsTupleIter _ I ax _ from st.1) hQ}
theorem ZJ{ns:List Int}{us:List aa}(r:Vals (ns.map V.int) us){i:Nat}{v:aa}(h:us.toArray[i]?=some v):∃ t,v=.int (ns.getD i 0) t:=by
 have h':us[i]?=some v:=by simpa using h
 have lt:i<us.length:=(xa.mp h').1;have hl:=r.length;rw[wc] at hl;obtain⟨u,hu,ru⟩:=r.get (i:=i) (x:=.int (ns.getD i 0)) (by rw[Xb,wb (by lia),vh,wb (by lia)];rfl);rw[hu] at h';cases h';exact ru
theorem qcO{bs:List Bool}{us:List aa}(r:Vals (bs.map V.bl) us){i:Nat}{v:aa}(h:us.toArray[i]?=some v):v=.bool (bs.getD i true):=by
 have h':us[i]?=some v:=by simpa using h
 have lt:i<us.length:=(xa.mp h').1;have hl:=r.length;rw[wc] at hl;obtain⟨u,hu,ru⟩:=r.get (i:=i) (x:=.bl (bs.getD i true)) (by rw[Xb,wb (by lia),vh,wb (by lia)];rfl);rw[hu] at h';cases h';exact ru
theorem Pr(ns:List Int):∀ k,k<=ns.length->kx (λi=>ns.getD i 0) k=(ns.take k).sum
 |0,_=>by simp[kx]
 |k+1,h=>by
  have e:ns.take (k+1)=ns.take k++[ns.getD k 0]:=by
   rw[List.take_succ_eq_append_getElem (by lia),vh,wb (by lia)];rfl
  show kx (λi=>ns.getD i 0) k+ns.getD k 0=_;rw[Pr ns k (by lia),e,List.sum_append,Xv,List.sum_nil,Int.add_zero]
theorem ZcF(bs:List Bool):(ud bs.length).all (λi=>bs.getD i true)=bs.all id:=by
 rw[VA,Wp,Wp];constructor
 ·intro h x hx;obtain⟨i,hi,e⟩:=ut hx;have:=h i (Xm.mpr hi);rw[vh,wb hi] at this;rw[<- e];exact this
 ·intro h i hi;rw[vh,wb (Xm.mp hi)];exact h _ (vq _)
theorem Jd(val:Nat->Int)(bt:Nat->Nat->Bool)(hb:∀ i j,bt i j=decide (val i<val j)):∀ k,eB bt k<=k/\∀ j,j<=k->val (eB bt k)<=val j
 |0=>⟨xb _,λj hj=>by
  have:j=0:=by lia
  subst this;exact uy _⟩
 |k+1=>by
  obtain⟨h1,h2⟩:=Jd val bt hb k;show(if bt (k+1) (eB bt k) then k+1 else eB bt k)<=k+1/\∀ j,j<=k+1->val (if bt (k+1) (eB bt k) then k+1 else eB bt k)<=val j;rw[hb];by_cases c:val (k+1)<val (eB bt k)
  ·simp only[c,decide_true,if_true];refine⟨xb _,λj hj=>?_⟩;by_cases e:j=k+1
   ·rw[e];exact uy _
   ·have:=h2 j (by lia);lia
  ·simp only[c,decide_false,Vh,if_false];refine⟨by lia,λj hj=>?_⟩;by_cases e:j=k+1
   ·rw[e];lia
   ·exact h2 j (by lia)
theorem YcK(val:Nat->Int)(bt:Nat->Nat->Bool)(hb:∀ i j,bt i j=decide (val j<val i)):∀ k,eB bt k<=k/\∀ j,j<=k->val j<=val (eB bt k):=λk=>by
 have h:=Jd (λi=>- val i) bt (λi j=>by rw[hb];congr 1;apply propext;constructor <;> intro h <;> lia) k;exact⟨h.1,λj hj=>by have:=h.2 j hj;lia⟩
section
variable {X:Cx}
noncomputable def uZ(K:PySem.W.Frag):List V->Hp->VK->Prop:=λxs H Q=>∃(b:Bool)(a:af)(ns:List Int),xs=[.ref a]/\gH K H b a (ns.map V.int)/\Q (.int ns.sum) H
noncomputable def u9(K:PySem.W.Frag):List V->Hp->VK->Prop:=λxs H Q=>∃(b:Bool)(a:af)(bs:List Bool),xs=[.ref a]/\gH K H b a (bs.map V.bl)/\Q (.bl (bs.all id)) H
noncomputable def u4(K:PySem.W.Frag):List V->Hp->VK->Prop:=λxs H Q=>∃(b:Bool)(a:af)(ns:List Int),xs=[.ref a]/\gH K H b a (ns.map V.int)/\ns≠[]/\∀ m,m∈ns->(∀ k∈ns,m<=k)->Q (.int m) H
noncomputable def u5(K:PySem.W.Frag):List V->Hp->VK->Prop:=λxs H Q=>∃(b:Bool)(a:af)(ns:List Int),xs=[.ref a]/\gH K H b a (ns.map V.int)/\ns≠[]/\∀ m,m∈ns->(∀ k∈ns,k<=m)->Q (.int m) H
theorem ZX{a:af}{us:List aa}(r:Vals [V.ref a] us):us=[aa.ref a]:=by
 cases r with
 |cons r rr =>
  cases rr;obtain rfl:_=aa.ref a:=r;rfl
theorem GS{s:ag}{a:af}(h:a<s.heap.objs.size)(o:Obj):∀ b∈[s.heap.objs.size,a],b<(s.heap.push o).objs.size:=λb hb=>by
 rw[Xh];simp only[ua,Ud,or_false] at hb
 rcases hb with e|e
 ·rw[e];exact Uj _
 ·rw[e];exact Us h
theorem zcz(hc:X.calm=true):aN X (.builtin "sum") (uZ X.K):=by
 intro pins s σ H xs us Q I r h;obtain⟨b,a,ns,rfl,hq,q⟩:=h;obtain rfl:=ZX r;obtain⟨aB,v,p,_⟩:=yr I hq;have lt:=p.lt;refine call_sum_walkG (Yn p ⟨s.heap.objs.size,[s.heap.objs.size,a],[s.heap.objs.size],aB.toArray.size,_,_,λi=>ns.getD i 0,rfl,Y9 (qk (I.ok.hd hc)) b _ a (Xc lt) aB.toArray,⟨.new (Ub _ rfl),p.keeps λo e=>wa _ e⟩,GS lt _,λi u hu=>ZJ v hu,λh' tk t' k=>?_⟩);have hl:=v.length;rw[wc] at hl;have e:kx (λi=>ns.getD i 0) aB.toArray.size=ns.sum:=by rw[Wb,<- hl,Pr ns _ (xb _),wt]
 rw[e];exact⟨.int ns.sum,H,I.kept (t':=tk) (λc o e=>k c o (λz=>absurd (Xa e) (by simp at z;rw[z];exact Ui _)) (wa _ e)),⟨t',rfl⟩,q⟩
theorem ycj(hc:X.calm=true):aN X (.builtin "all") (u9 X.K):=by
 intro pins s σ H xs us Q I r h;obtain⟨b,a,bs,rfl,hq,q⟩:=h;obtain rfl:=ZX r;obtain⟨aB,v,p,_⟩:=yr I hq;have lt:=p.lt;refine call_all_walk (Yn p ⟨s.heap.objs.size,[s.heap.objs.size,a],[s.heap.objs.size],aB.toArray.size,_,_,λi=>bs.getD i true,rfl,Y9 (qk (I.ok.hd hc)) b _ a (Xc lt) aB.toArray,⟨.new (Ub _ rfl),p.keeps λo e=>wa _ e⟩,λi u s' Q' E' hu hQ=>?_,λh' tk k=>?_⟩)
 ·rw[qcO v hu];exact aI hQ
 have hl:=v.length;rw[wc] at hl;rw[Wb,<- hl,ZcF];exact⟨.bl _,H,I.kept (t':=tk) (λc o e=>k c o (λz=>absurd (Xa e) (by simp at z;rw[z];exact Ui _)) (wa _ e)),rfl,q⟩
theorem Oj{ns:List Int}{i:Nat}(h:i<ns.length):ns.getD i 0∈ns:=by
 rw[vh,wb h];exact vq _
theorem MF{ns:List Int}{k:Int}(h:k∈ns):∃ i,i<ns.length/\ns.getD i 0=k:=by
 obtain⟨i,hi,e⟩:=ut h;exact⟨i,hi,by rw[vh,wb hi];exact e⟩
theorem Yca(hc:X.calm=true):aN X (.builtin "min") (u4 X.K):=by
 intro pins s σ H xs us Q I r h;obtain⟨b,a,ns,rfl,hq,ne,q⟩:=h;obtain rfl:=ZX r;obtain⟨aB,v,p,_⟩:=yr I hq;have lt:=p.lt;have hl:=v.length;rw[wc] at hl;have pos:0<ns.length:=vo.mpr ne;refine call_min_walk (Yn p ⟨s.heap.objs.size,[s.heap.objs.size,a],[s.heap.objs.size],aB.toArray.size,_,_,λi j=>decide (ns.getD i 0<ns.getD j 0),rfl,Y9 (qk (I.ok.hd hc)) b _ a (Xc lt) aB.toArray,⟨.new (Ub _ rfl),p.keeps λo e=>wa _ e⟩,GS lt _,by simp;lia,λi j vi vj s' Q' E' hi hj hQ=>?_,λu h' tk hu k=>?_⟩)
 ·obtain⟨t1,rfl⟩:=ZJ v hi;obtain⟨t2,rfl⟩:=ZJ v hj;exact lt_int hQ
 obtain⟨t,rfl⟩:=ZJ v hu;obtain⟨b1,b2⟩:=Jd (λi=>ns.getD i 0) _ (λ_ _=>rfl) (aB.toArray.size-1);rw[Wb] at b1 b2 ⊢;refine⟨.int _,H,I.kept (t':=tk) (λc o e=>k c o (λz=>absurd (Xa e) (by simp at z;rw[z];exact Ui _)) (wa _ e)),⟨t,rfl⟩,q _ (Oj (by lia)) λm hm=>?_⟩;obtain⟨i,hi,e⟩:=MF hm;rw[<- e];exact b2 i (by lia)
theorem zci(hc:X.calm=true):aN X (.builtin "max") (u5 X.K):=by
 intro pins s σ H xs us Q I r h;obtain⟨b,a,ns,rfl,hq,ne,q⟩:=h;obtain rfl:=ZX r;obtain⟨aB,v,p,_⟩:=yr I hq;have lt:=p.lt;have hl:=v.length;rw[wc] at hl;have pos:0<ns.length:=vo.mpr ne;refine call_max_walk (Yn p ⟨s.heap.objs.size,[s.heap.objs.size,a],[s.heap.objs.size],aB.toArray.size,_,_,λi j=>decide (ns.getD j 0<ns.getD i 0),rfl,Y9 (qk (I.ok.hd hc)) b _ a (Xc lt) aB.toArray,⟨.new (Ub _ rfl),p.keeps λo e=>wa _ e⟩,GS lt _,by simp;lia,λi j vi vj s' Q' E' hi hj hQ=>?_,λu h' tk hu k=>?_⟩)
 ·obtain⟨t1,rfl⟩:=ZJ v hi;obtain⟨t2,rfl⟩:=ZJ v hj;exact gt_int hQ
 obtain⟨t,rfl⟩:=ZJ v hu;obtain⟨b1,b2⟩:=YcK (λi=>ns.getD i 0) _ (λ_ _=>rfl) (aB.toArray.size-1);rw[Wb] at b1 b2 ⊢;refine⟨.int _,H,I.kept (t':=tk) (λc o e=>k c o (λz=>absurd (Xa e) (by simp at z;rw[z];exact Ui _)) (wa _ e)),⟨t,rfl⟩,q _ (Oj (by lia)) λm hm=>?_⟩;obtain⟨i,hi,e⟩:=MF hm;rw[<- e];exact b2 i (by lia)
noncomputable def rA:V->Option aa
 |.ty n=>some (.type n)
 |.ref a=>some (.ref a)
 |_=>none
theorem qcq{x:V}{c u:aa}(h:rA x=some c)(r:RelV x u):u=c:=by
 cases x with
 |ty n=>cases h;exact r
 |ref a=>cases h;exact r
 |_=>cases h
noncomputable def L6(K:PySem.W.Frag):List V->Hp->VK->Prop:=λxs H Q=>∃ x cv t c b,xs=[x,cv]/\rA cv=some c/\gG K H x t/\Ug K t c=some b/\Q (.bl b) H
theorem QcL:aN X (.builtin "isinstance") (L6 X.K):=by
 intro pins s σ H xs us Q I r h;obtain⟨x,cv,t,c,b,rfl,e,ty,k,q⟩:=h;cases r with
 |cons r rr =>
  cases rr with
  |cons r' rr =>
   cases rr;have:=qcq e r';subst this;exact ych I r ty k λtk=>⟨.bl b,H,I.tok tk,rfl,q⟩
end
noncomputable def IE(C x:af):Heap->Prop:=λh=>∃ t T,h.get? x=some (oj C t (.ref T))
section
variable {X:Cx}
theorem ZcU{P:aj}{w:World}{k:Key}{u:aa}(r:(Qe P w).is k u=true):RelV (kV k) u:=by
 rcases Qk (show rJ k u=true from r) with ⟨i,t,rfl,rfl⟩|⟨x,t,rfl,rfl⟩
 ·exact⟨t,rfl⟩
 ·exact⟨t,rfl⟩
theorem LC{P:aj}{w:World}:∀(kvs:List (Key×V)) (us:List aa),us.length=kvs.length->(∀(j:Nat)(v:aa),us[j]?=some v->∃ kv:Key×V,kvs[j]?=some kv/\(Qe P w).is kv.1 v=true)->Vals (kvs.map λkv=>kV kv.1) us
 |[],[],_,_=>.nil
 |[],_::_,e,_=>by simp at e
 |_::_,[],e,_=>by simp at e
 |kv::kvs,u::us,e,h=>by
  obtain⟨kv',e',r⟩:=h 0 u rfl;cases e';exact .cons (ZcU r) (LC kvs us (by simpa using e) λj v ev=>h (j+1) v ev)
noncomputable def Zc8:List V->Hp->VK->Prop:=λxs H Q=>∃ a kvs,xs=[.ref a]/\H a=some (.dK kvs)/\∀ l,H l=none->Q (.ref l) (upd H l (.lst (kvs.map λkv=>kV kv.1)))
theorem qbQ(hc:X.calm=true):aN X (.type "list") Zc8:=by
 intro pins s σ H xs us Q I r h;obtain⟨a,kvs,rfl,hq,q⟩:=h;obtain rfl:=ZX r;obtain⟨z,hd,vs,rel,dd⟩:=JZ I.aU hq;obtain⟨o,es,ep,h1,h2,h3,h4⟩:=id dd;have da:s.heap.DictAt (Qe X.prog X.w) a vs ep:=⟨o,es,h1,h2,h3,h4⟩;refine PySem.W.kdl_call (PySem.W.kdl_dict hd) (I.ok.hd hc) da (by rw[<- rel.length];exact z) λh' tk acc c keep HX items=>?_;have hl:=rel.length;refine⟨.ref s.heap.objs.size,_,I.laid (t':=tk) keep (xb _) (show bg X.prog X.w _ h' _ (.lst (kvs.map λkv=>kV kv.1)) from⟨by rw[wc];exact z,acc.toList,c,?_,by simpa using HX⟩),rfl,q _ (I.aU.fresh (xb _))⟩;refine LC (P:=X.prog) (w:=X.w) kvs acc.toList (by rw[Vl,items.1];exact hl.symm) λj v e=>?_;obtain⟨k,x,e1,e2⟩:=items.2 j v (by rw[<- uB];exact e);have hk:=rel.keys;have e3:(kvs.map (·.1))[j]?=some k:=by rw[hk,Xb,e1];rfl
 rw[Xb] at e3;cases e4:kvs[j]? with
 |none=>rw[e4] at e3;cases e3
 |some kv=>rw[e4] at e3;cases e3;exact⟨kv,rfl,e2⟩
theorem Mw:∀{ns:List Int}{us:List aa},Vals (ns.map V.int) us->fX us ns
 |[],_,r=>by cases r;exact .nil
 |n::ns,_,r=>by
  rw[ub] at r;cases r with
  |cons h t=>obtain⟨t',rfl⟩:=(show ∃ t,_=aa.int n t from h);exact .cons n t' (Mw t)
theorem Lc:∀{ns:List Int}{us:List aa},fX us ns->Vals (ns.map V.int) us
 |_,_,.nil=>.nil
 |_,_,.cons n t h=>.cons ⟨t,rfl⟩ (Lc h)
noncomputable def zcN(K:PySem.W.Frag):List V->Hp->VK->Prop:=λxs H Q=>∃(a:af)(ns:List Int),xs=[.ref a]/\fG K H a (ns.map V.int)/\ns.length<64/\∀ mw:List Int,mw.Perm ns->mw.Pairwise (·<=·)->∀ l,H l=none->Q (.ref l) (upd H l (.lst (mw.map V.int)))
theorem Ybw:aN X (.builtin "sorted") (zcN X.K):=by
 intro pins s σ H xs us Q I r h;obtain⟨a,ns,rfl,hq,h64,q⟩:=h;obtain rfl:=ZX r;obtain⟨aB,v,pl,hz⟩:=I.list hq;have hl:=v.length;rw[wc] at hl;obtain⟨o,ho,iF,n,hd⟩:=pl.isList;refine sorted_ints (vs:=aB) (ns:=ns) ⟨o,ho,iF,n,hd⟩ (Mw v) (by lia) λout mw hi hp ho=>?_;obtain⟨e,he⟩:=sortedAll_at s.heap aB out;have hlp:=hp.length_eq;refine⟨.ref (s.heap.objs.size+1),_,I.laid (t':=s.toks) (λb u e=>sortedAll_old e) (Xy _) (show bg X.prog X.w _ _ _ (.lst (mw.map V.int)) from⟨by rw[wc,dh];lia,out.toList,e,Lc hi,by simpa[gA] using he⟩),rfl,q mw hp ho _ (I.aU.fresh (Xy _))⟩
end
noncomputable def Src(K:PySem.W.Frag)(mg:Str->Option aa)(x:Str)(st:Stmt)(ps:List Str):Prop:=∃ f fd,oq K x x st f fd/\Binds K fd ps []/\mg x=some (.ref f)
noncomputable def tE(P:aj)(w:World)(K:PySem.W.Frag)(mg:Str->Option aa)(base:Heap)(x:Str)(k:Nat)(ps:List Str)(sp:Sp):Prop :=
 ∃ f fd,fH P w K mg base (jT P w) k f fd ps sp/\Binds K fd ps []/\Xe K (.ref f)=true/\mg x=some (.ref f)
section
variable {P:aj} {w:World} {K:PySem.W.Frag} {mg:Str->Option aa} {base:Heap} {x:Str} {ps:List Str} {sp:Sp}
noncomputable abbrev cxD(P:aj)(w:World)(K:PySem.W.Frag)(mg:Str->Option aa)(base:Heap)(N:List Str)(x:Str)(st:Stmt)(f:af)(cd:aa)(A:ay)(outer:List Env)(s:ag)(H:Hp)(E:XK):Cx :=
 lQ (jT P w) P w K mg base N x (zc st) f cd A outer s H E
theorem Zda{st:Stmt}{N:List Str}{k:Nat}(S:Src K mg x st ps)(sc:hJ N ps (zc st))(len:∀ vs H Q E,sp vs H Q E->vs.length=ps.length)
  (j':∀(f:af)(dM:aa)(A:ay)(outer:List Env)(s:ag) (H:Hp) (vs:List V) (Q:VK) (E:XK),dy k (A.deeper (eK x (zc st) s.heap.objs.size f dM))->sp vs H Q E ->
   ∃ t,gZ (cxD P w K mg base N x st f dM A outer s H E) (Zg st) t/\t {nx:=λ_ H'=>Q .bG H',rt:=Q} (start N vs) H):tE P w K mg base x (k+1) ps sp:=by
 obtain⟨f,fd,F,b,m⟩:=S;refine⟨f,fd,?_,b,F.kp,m⟩;obtain⟨oc,od,dV,kV,doc,pm,an,dM,ct,ju,rfl,lk,jy⟩:=F.ex;exact DV lk jy sc len λA outer s H vs Q E hr ko=>j' f dM A outer s H vs Q E hr ko
end
section
variable {X:Cx} {k:Nat} {ps:List Str} {sp:Sp} {E:XK} {x:Str} {p pos:Pos} {e:Expr} {es:List Expr} {t:TA} {σ0:L2.St}
theorem qcc(d:tE X.prog X.w X.K X.mg X.base x k ps sp)(hr:dy k X.A)(hg:Gl X x)(hx:yy (jT X.prog X.w) X σ0 E)(ha:PA X (e::es) t)(ku:(x==("__debug__":Str))=false:=by decide)
  (he:au (e::es) X.env=(false,eval e X.env)::au es X.env:=by rfl) (cF:(bj pos (au es X.env)).any (·.1)=false:=by rfl):PE X (.Call (.Name x p) (e::es) [] pos) (OT σ0 sp [] E t):=by
 obtain⟨f,fd,F,b,kp,m⟩:=d;exact qcC F hr hg m kp b .nil hx ha ku he cF
end
section
variable {X:Cx} {tg:Expr}
noncomputable def mR(K:PySem.W.Frag)(b:Bool)(a:af):It:=if b=true then Py K a else Pz K a
noncomputable def M6(K:PySem.W.Frag)(tl:TE):TI:=λσ H R=>tl σ H λx H1=>∃ b a,x=.ref a/\(∃ xs,gH K H1 b a xs)/\R (mR K b a) H1
theorem vR{l:Expr}{tl:TE}(hl:PE X l tl):PI X tg l (M6 X.K tl):=by
 intro pins s σ H R I h;refine bh (hl pins s σ H _ I h) λv s1 ⟨x,H1,I1,r1,q1⟩=>?_;obtain⟨b,a,e,⟨xs,hq⟩,q⟩:=q1;subst e;cases r1;cases b with
 |false =>
  obtain⟨aB,rv,p,hz⟩:=I1.list (show fG X.K H1 a xs from hq);refine dZ p.isList ?_;refine⟨s1.heap.objs.size,[s1.heap.objs.size],_,_,H1,rfl,I1.kept (t':=s1.toks) λb o e=>wa _ e,zch a _,⟨_,Ub _ rfl,rfl,rfl⟩,λb hb=>?_,q⟩;obtain rfl:=Xd.mp hb;exact I1.jP (xb _) (I1.aU.fresh (xb _))
 |true =>
  obtain⟨aB,rv,p,hz⟩:=I1.tuple (show gc X.K H1 a xs from hq);refine gu (show s1.heap.IsTuple a aB.toArray from p) ?_;refine⟨s1.heap.objs.size,[s1.heap.objs.size],_,_,H1,rfl,I1.kept (t':=s1.toks) λb o e=>wa _ e,QbP a _,⟨_,Ub _ rfl,rfl,rfl⟩,λb hb=>?_,q⟩;obtain rfl:=Xd.mp hb;exact I1.jP (xb _) (I1.aU.fresh (xb _))
end
theorem mR.go{K:PySem.W.Frag}{b:Bool}{a:af}{i:Nat}{H:Hp}{xs:List V}(h:gH K H b a xs)(hi:i<xs.length):(mR K b a).go i H:=by
 cases b with
 |false=>exact⟨xs,xs[i],h,by simp[hi]⟩
 |true=>exact⟨xs,xs[i],h,by simp[hi]⟩
theorem mR.stop{K:PySem.W.Frag}{b:Bool}{a:af}{H:Hp}{xs:List V}(h:gH K H b a xs):(mR K b a).stop xs.length H:=by
 cases b with
 |false=>exact⟨xs,h,xb _⟩
 |true=>exact⟨xs,h,xb _⟩
theorem mR.nv{K:PySem.W.Frag}{b:Bool}{a:af}{i:Nat}{H H':Hp}{xs:List V}{x:V}(h:gH K H b a xs)(y:(mR K b a).nv i H x H'):H'=H/\xs[i]?=some x:=by
 cases b with
 |false=>exact⟨y.1,y.2 xs h⟩
 |true=>exact⟨y.1,y.2 xs h⟩
noncomputable def Ks(P:aj)(w:World)(K:PySem.W.Frag)(mg:Str->Option aa)(base:Heap)(x:Str)(C:af)(k:Nat)(ps:List Str)(sp:Sp):Prop :=
 ∃ f fd,Mk K C f/\fH P w K mg base (jT P w) k f fd ps sp/\Binds K fd ps []/\mg x=some (.ref C)
section
variable {X:Cx} {k:Nat} {ps:List Str} {sp:Sp} {E:XK} {x:Str} {C:af} {p pos:Pos} {e:Expr} {es:List Expr} {t:TA} {σ0:L2.St}
theorem Zcf(d:Ks X.prog X.w X.K X.mg X.base x C k ps sp)(hr:dy (k+1) X.A)(hg:Gl X x)(hx:yy (jT X.prog X.w) X σ0 E)(ha:PA X (e::es) t)(ku:(x==("__debug__":Str))=false:=by decide)
  (he:au (e::es) X.env=(false,eval e X.env)::au es X.env:=by rfl) (cF:(bj pos (au es X.env)).any (·.1)=false:=by rfl):PE X (.Call (.Name x p) (e::es) [] pos) (K2 σ0 C sp [] E t):=by
 obtain⟨f,fd,M,F,b,m⟩:=d;exact Ycs M F hr hg m b .nil hx ha ku he cF
end
section
variable {X:Cx} (K:PySem.W.Frag)
noncomputable def GK(K:PySem.W.Frag):List V->Hp->VK->Prop:=λxs H Q=>∃ p ys,xs=[.ref p]/\(fG K H p ys\/gc K H p ys)/\Q (.int ys.length) H
noncomputable def GJ(K:PySem.W.Frag):List V->Hp->VK->Prop:=λxs H Q=>∃ p ys,xs=[.ref p]/\(fG K H p ys\/gc K H p ys)/\∀ l,H l=none->Q (.ref l) (upd H l (.lst ys))
noncomputable def GD(K:PySem.W.Frag):List V->Hp->VK->Prop:=λxs H Q=>∃ p ys,xs=[.ref p]/\((fG K H p ys/\∀ l,H l=none->Q (.ref l) (upd H l (.tup ys)))\/(gc K H p ys/\Q (.ref p) H))
theorem xQ(h:X.K=K:=by rfl):aN X (.builtin "len") (GK K):=h ▸ ybe
theorem Qdo(h:X.K=K:=by rfl):aN X (.type "list") (GJ K):=h ▸ zbl
theorem ZcJ(h:X.K=K:=by rfl):aN X (.type "tuple") (GD K):=h ▸ qa3
theorem xN(c:X.calm=true:=by rfl)(h:X.K=K:=by rfl):aN X (.builtin "sum") (uZ K):=h ▸ zcz c
theorem k_all(c:X.calm=true:=by rfl)(h:X.K=K:=by rfl):aN X (.builtin "all") (u9 K):=h ▸ ycj c
theorem xO(c:X.calm=true:=by rfl)(h:X.K=K:=by rfl):aN X (.builtin "min") (u4 K):=h ▸ Yca c
theorem xP(c:X.calm=true:=by rfl)(h:X.K=K:=by rfl):aN X (.builtin "max") (u5 K):=h ▸ zci c
theorem xR(h:X.K=K:=by rfl):aN X (.builtin "isinstance") (L6 K):=h ▸ QcL
noncomputable def GN(K:PySem.W.Frag):R2:=λx y H Q=>∃ b p xs i v,x=.ref p/\y=.int i/\gH K H b p xs/\sC xs i=some v/\Q v H
theorem Hk(h:X.K=K:=by rfl):BK X (GN K):=by
 subst h;intro value slice pins s σ H x y v u Q I rx ry hq hs;obtain⟨b,p,xs,i,z,e1,e2,hq,ha,q⟩:=hq;cases b with
 |false=>exact ZcW value slice pins s σ H x y v u Q I rx ry ⟨p,xs,i,z,e1,e2,hq,ha,q⟩ hs
 |true=>exact Ydm value slice pins s σ H x y v u Q I rx ry ⟨p,xs,i,z,e1,e2,hq,ha,q⟩ hs
theorem xS{e:Expr}{f:Str}{pos:Pos}{ta:TE}(he:PE X e ta)(hb:aZ e f X.env (eval e X.env)=eval e X.env:=by rfl)(h:X.K=K:=by rfl):PE X (.Attribute e f pos) (tX K ta f):=h ▸ yda he hb
theorem Hj{tg l:Expr}{tl:TE}(hl:PE X l tl)(h:X.K=K:=by rfl):PI X tg l (M6 K tl):=h ▸ vR hl
theorem xM{a b:Expr}{ta:TA}{p pos:Pos}{es:List Expr}{kt:Nat}{pt:Pos}(hg:Gl X "zip")(hm:X.mg "zip"=none)(ha:PA X [a,b] ta)(hs:au [a,b] X.env=[(false,eval a X.env),(false,eval b X.env)]:=by rfl)(lK:au [b] X.env=[(false,eval b X.env)]:=by rfl)(h:X.K=K:=by rfl) :
  PI X (.Tuple es kt pt) (.Call (.Name "zip" p) [a,b] [] pos) (Ac K ta):=h ▸ Zc7 hg hm ha hs lK
end
end L3
end
section
namespace L3
open PySem PySem.Spec PyProof.Rows L2 M3
noncomputable def Ma(P:aj)(w:World)(K:PySem.W.Frag)(mg:Str->Option aa)(base:Heap)(x:Str)(k:Nat)(ps:List Str)(sp:af->af->Sp):Prop :=
 ∃ f fd,BM P w K mg base k f fd ps sp/\Binds K fd ps []/\Xe K (.ref f)=true/\mg x=some (.ref f)
end L3
end
section
namespace L2
open PySem PySem.Spec PyProof.Rows
section
variable {X:Cx} {tg:Expr}
noncomputable def Qcz:V->List V->Hp->VK->Prop:=λx vs H Q=>∃ l b xs zs,x=.ref l/\vs=[.ref b]/\H l=some (.lst xs)/\Rd H b (.lst zs)/\xs.length+zs.length<=sizeLine/\Q .bG (upd H l (.lst (xs++zs)))
theorem ybI:BJ X "list.extend" Qcz:=by
 intro pins s σ H x vs v us Q I rx rv h;obtain⟨l,b,xs,zs,rfl,rfl,hH,hB,hz,q⟩:=h;cases rx;obtain⟨u,rfl,ru⟩:=rv.one;cases ru;obtain⟨z,aB,n,r,hl,e⟩:=I.mC hH;obtain⟨z2,gP,n2,r2,e2⟩:=hB.ok I.aU;have HP:=r2.length;have hsz:aB.toArray.size+gP.toArray.size<=sizeLine:=by rw[Wb,Wb];lia
 have mE:¬(!aB.toArray.isEmpty&&aq.List.listTooLong (aB.toArray.size+gP.toArray.size))=true:=by
  rw[Mo hsz,Bool.and_false];exact xj
 refine de F.slot_list_extend ⟨_,e,rfl⟩ F.entry_list_extend (F.args_list_extend_2 _ _)
  (AutoSeq1.list_extend_list_list_0 l aB.toArray n b gP.toArray n2 mE (by rw[Wb];lia) (by lia)) ⟨e,e2,?_⟩
 refine⟨.bG,_,I.mD (its':=aB++gP) hH e (by simp) (r.append r2) ?_,rfl,q⟩;rw[Xg]
 lia
end
end L2
end
section
namespace L3
open PySem PySem.Spec PyProof.Rows L2 M3
theorem yZ{prog:aj}{w:World}{A:ay}{E:aa->ag->Prop}{s:ag}{env:Env}{o:Expr}{name:Str}{apos pos:Pos}{args:List Expr}{Q:aa->ag->Prop}
  (gQ:aZ o name env (eval o env)=eval o env)
  (mG:((bj pos (au args env)).all (λx=>!x.1)&&(dw pos (bK [] env)).all (λx=>x.1.isSome)&&decide (args.length+([]:List c6).length+(if([]:List c6).isEmpty then 0 else 1)<30))=true)
  (cR:(apos.endLine==pos.line)=true)
  (h:ai (ak prog w) A (eval o env) (λov s₁=>∀ pl,ai (ak prog w) A (jF ov name pl) (λfx s₂=>ai (ak prog w) A (ke pos fx.1 fx.2 (bj pos (au args env)) (dw pos (bK [] env))) Q E s₂) E s₁) E s) :
  ai (ak prog w) A (eval (.Call (.Attribute o name apos) args [] pos) env) Q E s:=by
 rw[arm_eval_Call,gQ];refine ae (aW h (λov s₁ h₁=>?_) λ_ _ e=>e);refine ae (bS ?_);have Ax:methodCallForm (args.length+([]:List c6).length) (bj pos (au args env)) (dw pos (bK [] env))=true:=mG;have HC:jv true o env apos pos=pure pos:=by unfold jv;simp[cR]
 unfold methodCall;rw[Ax];refine ae (aO (aW (h₁ _) (λfx s₂ h₂=>?_) λ_ _ e=>e));exact ae (fI HC h₂)
section
variable {X:Cx} {k:Nat} {E:XK} {x m:Str} {p pos apos:Pos} {e o:Expr} {es:List Expr} {ta:TE} {t:TA} {σ0:L2.St}
noncomputable def OU(P:aj)(w:World)(K:PySem.W.Frag)(mg:Str->Option aa)(base:Heap)(k:Nat)(C:af)(m:Str)(sp:Sp):Prop :=
 lN K C/\∃ f fd ps,Meth K C m f/\fH P w K mg base (jT P w) k f fd ps sp/\Binds K fd ps []
noncomputable def N8(X:Cx)(k:Nat)(σ0:L2.St)(m:Str)(E:XK)(ta:TE)(t:TA):TE:=λσ H Q=>σ=σ0/\ta σ H λx H1=>∃ a C dx fs sp,x=.ref a/\H1 a=some (.ins C dx fs)/\fs.lookup m=none/\OU X.prog X.w X.K X.mg X.base k C m sp /\
 t σ H1 λvs H2=>sp (x::vs) H2 Q E
theorem Ycx(he:PE X o ta)(hr:dy k X.A)(hx:yy (jT X.prog X.w) X σ0 E)(ha:PA X (e::es) t)
  (pQ:au (e::es) X.env=(false,eval e X.env)::au es X.env) (cF:(bj pos (au es X.env)).any (·.1)=false)
  (gQ:aZ o m X.env (eval o X.env)=eval o X.env) (mG:((bj pos (au (e::es) X.env)).all (λx=>!x.1)&&(dw pos (bK [] X.env)).all (λx=>x.1.isSome)&&decide ((e::es).length+([]:List c6).length+(if([]:List c6).isEmpty then 0 else 1)<30))=true) (cR:(apos.endLine==pos.line)=true) :
  PE X (.Call (.Attribute o m apos) (e::es) [] pos) (N8 X k σ0 m E ta t):=by
 intro pins s σ H Q I h;obtain⟨rfl,h⟩:=h;refine yZ gQ mG cR (bh (he pins s σ H _ I h) λu s1 ⟨x,H1,I1,rx,a,C,dx,fs,sp,ex,ea,l,⟨c,f,fd,ps,hm,F,hb⟩,q⟩ pl=>?_);subst ex;obtain rfl:u=aa.ref a:=rx;refine K1 I1 ea c hm l ?_;refine Vy (first:=[.ref a]) (h₀:=X.base) I.ok.mod.xJ hm.kp (bh (ha pos pins s1 σ H1 _ I1 q) λus s2 ⟨vs,H2,I2,r,q2⟩=>⟨I2.hV,?_⟩) pQ cF;exact Jw (us:=.ref a::us) (vs:=.ref a::vs) (dvs:=[]) F hr hb .nil hx I2 (.cons rfl r) (by rw[Xr];exact q2)
theorem qb8(he:PE X o ta)(hr:dy k X.A)(hx:yy (jT X.prog X.w) X σ0 E)
  (gQ:aZ o m X.env (eval o X.env)=eval o X.env) (cR:(apos.endLine==pos.line)=true) :
  PE X (.Call (.Attribute o m apos) [] [] pos) (N8 X k σ0 m E ta tV):=by
 intro pins s σ H Q I h;obtain⟨rfl,h⟩:=h;refine yZ gQ (by rfl) cR (bh (he pins s σ H _ I h) λu s1 ⟨x,H1,I1,rx,a,C,dx,fs,sp,ex,ea,l,⟨c,f,fd,ps,hm,F,hb⟩,q⟩ pl=>?_);subst ex;obtain rfl:u=aa.ref a:=rx;refine K1 I1 ea c hm l ?_;exact VC (first:=[.ref a]) I1.hV hm.kp (Jw (us:=[.ref a]) (vs:=[.ref a]) (dvs:=[]) F hr hb .nil hx I1 (.cons rfl .nil) (by rw[Xr];exact q))
structure D6 (K:PySem.W.Frag) (C:af):Prop where
 makes:Uk K C=true
 init:xc K (.ref C) "__init__"=some (some (.builtin "object.__init__"))
 kp:Xe K (.ref C)=true
theorem Qce{C:af}{pins:List (af×Obj)}{σ:L2.St}{H:Hp}{s:ag}{Q:VK}(M:D6 X.K C)(I:Inv X pins σ H s)
  (h:∀ x dx,H x=none->H dx=none->dx≠x->Q (.ref x) (upd (upd H dx (.own x)) x (.ins C dx []))):ai (ak X.prog X.w) X.A (call (.ref C) []) (EP X pins σ Q) X.xe s:=by
 have hq:=h (s.heap.objs.size+1) s.heap.objs.size (I.aU.fresh (Xy _)) (I.aU.fresh (xb _)) (Xc (Uj _));have I2:=Inv.made (C:=C) I;have Y:=vz (M:=ak X.prog X.w) I.hV M.makes;have hx:((s.heap.push xg).push (xh C s.heap.objs.size)).get? (s.heap.objs.size+1)=some (xh C s.heap.objs.size):=by
  have:=Ub (s.heap.push xg) (o:=xh C s.heap.objs.size) rfl
  rwa [Xh] at this
 refine fg (qb7 I.hV M.makes M.init (λself=>PySem.W.Looks.of_pure (PySem.W.oi_bind self)) ?_);have t1:PySem.W.Looks (ak X.prog X.w) ((s.heap.push xg).push (xh C s.heap.objs.size)) (typeOf (.ref (s.heap.objs.size+1))) (.ref C):=(PySem.W.Looks.ld hx).andThen .now;have t2:PySem.W.Looks (ak X.prog X.w) ((s.heap.push xg).push (xh C s.heap.objs.size)) (isInstance (.ref (s.heap.objs.size+1)) (.type "object")) true:=t1.andThen (Y.top.keeps λb o e=>wa _ (wa _ e));refine bX PySem.W.oi_plain PySem.W.entry_oi (@PySem.W.check_slot (ak X.prog X.w) _ _ _ "object.__init__" "object" "__init__" (.ref (s.heap.objs.size+1)) [] [] _ PySem.W.oi_kind PySem.W.oi_split t2 (PySem.W.oi_args (.ref (s.heap.objs.size+1))) ?_);rw[PySem.W.oi_run];exact ah (And.intro rfl ⟨V.ref (s.heap.objs.size+1),_,I2,rfl,hq⟩)
noncomputable def ydj(C:af):TE:=λσ H Q=>∀ x dx,H x=none->H dx=none->dx≠x->Q (.ref x) (upd (upd H dx (.own x)) x (.ins C dx []))
theorem zca{C:af}(M:D6 X.K C)(hg:Gl X x)(hm:X.mg x=some (.ref C))(ku:(x==("__debug__":Str))=false):PE X (.Call (.Name x p) [] [] pos) (ydj C):=by
 intro pins s σ H Q I h;refine aX (DO I hg hm ?_ ku);exact VC I.hV M.kp (Qce M I h)
noncomputable def tR(K:PySem.W.Frag)(te:TE)(ts:TO):TE:=λσ H Q=>te σ H λx H1=>ts σ H1 λst H2=>st=some (-1)/\∃ a xs,x=.ref a/\fG K H2 a xs/\∀ q,H2 q=none->Q (.ref q) (upd H2 q (.lst xs.reverse))
theorem qcN{te:TE}{ts:TO}{st:Expr}{p2:Pos}(he:PE X e te)(hs:PO X (some st) ts):PE X (.Subscript e (.Slice none none (some st) p2) pos) (tR X.K te ts):=by
 intro pins s σ H Q I h;refine jd (bh (he pins s σ H _ I h) λv s1 ⟨x,H1,I1,r1,q1⟩=>?_);refine wpAny_Slice ?_;rw[gj];refine ah (ah (bh (hs pins s1 σ H1 _ I1 q1) λvs s3 ⟨z,H3,I3,pz,q3⟩=>?_));obtain⟨rfl,a,xs,rfl,hx,q⟩:=q3;cases r1;have I4:Inv X pins σ H3 {s3 with heap:=s3.heap.push {cls:=.type "slice",data:=.fields #[.none,.none,vs]}}:=I3.kept (t':=s3.toks) λb ob q=>wa _ q;obtain⟨aB,r,ht,hz⟩:=I4.list hx;have hlen:aB.toArray.size=xs.length:=by rw[Wb];exact r.length.symm
 show ai (ak X.prog X.w) X.A (gh e (.Slice none none (some st) p2) (.ref a) (.ref s3.heap.objs.size)) (EP X pins σ Q) X.xe {s3 with heap:=s3.heap.push {cls:=.type "slice",data:=.fields #[.none,.none,vs]}};refine tail_any (ops:=[.ref a,.ref s3.heap.objs.size]) ht.isList.typeIs slot_list_getitem.lookup ?_ (by rfl);refine eE ht.isList (Heap.IsSliceOf.new ..) .none .none pz (by decide) ?_ (by rw[hlen];exact hz);rw[PySem.W.krv_pick];refine⟨.ref _,_,I4.laid (t':=s3.toks) (o:=.lst xs.reverse) (λb ob q=>wa _ q) (xb _) ?_,rfl,q _ (I4.aU.fresh (xb _))⟩;refine⟨by rw[Ux];exact hz,aB.reverse,0,r.reverse,?_⟩;have:=Ub (s3.heap.push {cls:=.type "slice",data:=.fields #[.none,.none,vs]}) (o:={cls:=.type "list",data:=.seq aB.reverse.toArray}) rfl;simpa using this
end
end L3
end
section
namespace L3
open PySem PySem.Spec PyProof.Rows L2 M3
noncomputable def rG(kf:Int->Int)(b k:Int):Int:=if kf k<kf b then k else b
section
variable {prog:aj} {w:World} {A:ay} {E:aa->ag->Prop} {s:ag} {q I S:af} {fp:List af} {St:Nat->Heap->Prop} {vs:Array aa} {ns:List Int} {kf:Int->Int} {g:Heap} {R:gJ->ag->Prop}
noncomputable def sY(I S:af)(g h:Heap):Prop:=∀ b o,b≠I->b≠S->g.get? b=some o->h.get? b=some o
noncomputable def Jb(prog:aj)(w:World)(A:ay)(s:ag)(q I S:af)(g:Heap)(kf:Int->Int)(ns:List Int):Prop :=
 ∀(n:Int)(t:Tok)(h:Heap)(tk:Nat),n∈ns->sY I S g h->ai (ak prog w) A.in1 (call (.ref q) [.int n t])
  (λu s'=>∃ h' iR t',u=.int (kf n) t'/\s'={s with heap:=h',toks:=iR}/\∀ b o,h.get? b=some o->h'.get? b=some o) (λ_ _=>False) {s with heap:=h,toks:=tk}
theorem yce(W:Walks prog w A.in1 I fp [I] vs.size (λi v=>vs[i]?=some v) St)(Dp:S∉fp)(sg:S≠I)(hlen:vs.size=ns.length)(hv:∀(i:Nat)(v:aa),vs[i]?=some v->∃ n t,ns[i]?=some n/\v=aa.int n t)
  (turn:Jb prog w A s q I S g kf ns) {best:Int} (hR:∀ t h' iR,sY I S g h'->R (.ok (.ret (.int best t))) {s with heap:=h',toks:=iR}) :
  ∀(r j:Nat)(h:Heap)(tk:Nat)(b:Int)(tv tb:Tok) (c:Nat),ns.length-j=r->j<=ns.length->sY I S g h->h.get? S=some (gA "list" #[.int b tv,.int (kf b) tb] c)->St j h->best=(ns.drop j).foldl (rG kf) b ->
   bM (ak prog w) A (.builtin "min.loop" ⟨[.ref I,.ref q,.ref S],[]⟩) R {s with heap:=h,toks:=tk}:=by
 have j8:(toString "min"++toString ".loop":String)="min.loop":=by decide
 intro r
 induction r with
 |zero =>
  intro j h tk b tv tb c hr hj kp hS st hb;have ej:j=ns.length:=by lia
  refine bR PySem.F.entry_min_loop ?_;rw[ay.under_plainId PySem.F.plain_min_loop _];show ai _ A.in1 (fU (.ref S) >>= _) _ _ _;refine ae (aR hS rfl ?_);show ai _ A.in1 (tryCatch (c8 (.ref I)) _ >>= _) _ _ _;refine ae (bI (W.done _ _ _ (by rw[hlen,<- ej];exact st) λh' iR jj=>?_));have AH:=jj S _ (by simpa using sg) hS;show ai _ A.in1 (updateSeq S (λ_=>#[]) >>= _) _ _ _;refine ae ?_;refine fk AH rfl (ae (cD (ah ?_)));have eb:best=b:=by rw[hb,ej];simp
  subst eb;have s1:=Heap.SameBut.update h' S (Obj.mapSeq λ_=>(#[]:Array aa));exact hR tv _ _ λx o n1 n2 e=>s1.extBut x o n2 (jj x o (by simpa using n1) (kp x o n1 n2 e))
 |succ r ih =>
  intro j h tk b tv tb c hr hj kp hS st hb;have kZ:j<ns.length:=by lia
  refine bR PySem.F.entry_min_loop ?_;rw[ay.under_plainId PySem.F.plain_min_loop _];show ai _ A.in1 (fU (.ref S) >>= _) _ _ _;refine ae (aR hS rfl ?_);show ai _ A.in1 (tryCatch (c8 (.ref I)) _ >>= _) _ _ _;refine ae (bI (W.item j _ _ _ (by rw[hlen];exact kZ) st λv h' iR hP km jj=>?_));obtain⟨n,t,en,rfl⟩:=hv j v hP;have AH:=jj S _ (by simpa using sg) hS;have xH:sY I S g h':=λx o n1 n2 e=>jj x o (by simpa using n1) (kp x o n1 n2 e);show ai _ A.in1 (tryCatch (cz [.int n t] (call (.ref q) [.int n t])) _ >>= _) _ _ _;refine ae (bI (aO (aW (turn n t h' iR (wf en) xH) (λx uU he=>?_) λ_ _ hF=>hF.elim)));obtain⟨h2,LI,t2,rfl,rfl,k2⟩:=he;have sj:=k2 _ _ AH;have kO:St (j+1) h2:=W.frame _ _ _ km λx _ o e=>k2 x o e;have pM:sY I S g h2:=λx o n1 n2 e=>k2 x o (xH x o n1 n2 e);have AQ:ns.drop j=n::ns.drop (j+1):=by
   rw[Vt kZ]
   congr 1
   exact Option.some.inj ((wb kZ).symm.trans en)
  rw[AQ,wj] at hb;show ai _ A.in1 (tryCatch (cz [.int n t,.int (kf n) t2] (richCompare .Lt (.int (kf n) t2) (.int (kf b) tb) >>= _)) _ >>= _) _ _ _;refine ae (bI (aO (ae (HT.mq _ _ _ _ _ _ _ _ _ _ ?_))));refine ae (aO (aI ?_));refine ae (cD (ah ?_));by_cases jE:kf n<kf b
  ·have s1:=Heap.SameBut.update h2 S (Obj.mapSeq λ_=>#[.int n t,.int (kf n) t2]);obtain⟨c2,sf⟩:∃ c2,(h2.update S (Obj.mapSeq λ_=>#[.int n t,.int (kf n) t2])).get? S=some (gA "list" #[.int n t,.int (kf n) t2] c2):=⟨_,iG sj λ_=>#[.int n t,.int (kf n) t2]⟩;simp only[jE,decide_true,if_true];refine ae ?_;refine fk sj rfl (ae (cD ?_));rw[j8];refine ah ⟨b9 PySem.F.plain_min_loop _,ih (j+1) _ _ n t t2 c2 (by lia) kZ (λx o n1 n2 e=>s1.extBut x o n2 (pM x o n1 n2 e)) sf (W.frame _ _ _ kO λx hx o e=>s1.extBut x o (λz=>Dp (z ▸ hx)) e) ?_⟩;rw[hb,rG,if_pos jE]
  ·simp only[jE,decide_false,Vh,if_false];refine ae (cD ?_);rw[j8];refine ah ⟨b9 PySem.F.plain_min_loop _,ih (j+1) _ _ b tv tb c (by lia) kZ pM sj kO ?_⟩;rw[hb,rG,if_neg jE]
theorem Yb9{tup:Bool}{l:af}{n0:Int}{Q:aa->ag->Prop}(hh:A.handled=none)(hl:cJ s.heap tup l vs)(hlen:vs.size=(n0::ns).length)(hv:∀(i:Nat)(v:aa),vs[i]?=some v->∃ n t,(n0::ns)[i]?=some n/\v=aa.int n t)
  (turn:Jb prog w A s q s.heap.objs.size (s.heap.push (dD tup l)).objs.size s.heap kf (n0::ns))
  (hQ:∀ t h' iR,(∀ b o,s.heap.get? b=some o->h'.get? b=some o)->Q (.int (ns.foldl (rG kf) n0) t) {s with heap:=h',toks:=iR}) :
  ai (ak prog w) A (call (.builtin "min") [.ref l] [(Str.ofString "key",.ref q)]) Q E s:=by
 have j8:(toString "min"++toString ".loop":String)="min.loop":=by decide
 have HM:l<s.heap.objs.size:=hl.lt;refine kmk_tree PySem.F.kind_min PySem.F.plain_min PySem.F.entry_min (kmk_min_key _ _) ?_;show ai _ A.in1 (aq.Builtins.bindParams "min" ["key","default"] 0 ⟨[],[(Str.ofString "key",.ref q)]⟩ >>= _) _ _ s;refine ae (fI (show aq.Builtins.bindParams "min" ["key","default"] 0 ⟨[],[(Str.ofString "key",.ref q)]⟩=pure [some (.ref q),none] from rfl) ?_);refine ae (ah ?_);refine ae (Yn hl ?_);refine ae (wpAny_newList ?_ (wm _));rw[j8];refine ah ⟨b9 PySem.F.plain_min_loop _,?_⟩;generalize hI:s.heap.objs.size=I at turn HM ⊢;generalize hS:(s.heap.push (dD tup l)).objs.size=S at turn ⊢;have eS:S=I+1:=by rw[<- hS,<- hI];exact size_push' ..
 have Iu:I<S:=by rw[eS];exact Uj _
 have HN:l≠I:=Xc HM;have hlS:l≠S:=Xc (Xn HM Iu);have sg:S≠I:=Um Iu;have Dp:S∉[I,l]:=by simp;exact⟨sg,Ne.symm hlS⟩
 have old:∀ b o,s.heap.get? b=some o->b≠I/\b≠S:=λb o e=>by
  have z:=Xa e;rw[hI] at z;exact⟨Xc z,Xc (Xn z Iu)⟩
 have gI:((s.heap.push (dD tup l)).push (gA "list" #[] 0)).get? I=some (dD tup l):=by
  refine wa _ ?_;rw[<- hI];exact Ub _ rfl
 have gS:((s.heap.push (dD tup l)).push (gA "list" #[] 0)).get? S=some (gA "list" #[] 0):=by
  rw[<- hS];exact Ub _ rfl
 have gk:∀ b o,s.heap.get? b=some o->((s.heap.push (dD tup l)).push (gA "list" #[] 0)).get? b=some o:=λb o e=>wa _ (wa _ e);have W:=Y9 (prog:=prog) (w:=w) (A:=A.in1) hh tup I l HN vs;refine bR PySem.F.entry_min_loop ?_;rw[ay.under_plainId PySem.F.plain_min_loop _];show ai _ A.in1 (fU (.ref S) >>= _) _ _ _;refine ae (aR gS rfl ?_);show ai _ A.in1 (tryCatch (c8 (.ref I)) _ >>= _) _ _ _;refine ae (bI (W.item 0 _ _ _ (by rw[hlen];simp) ⟨dF.new gI,hl.keeps λo e=>gk l o e⟩ λv h' iR hP km jj=>?_));obtain⟨n,t,en,rfl⟩:=hv 0 v hP;obtain rfl:n0=n:=by simpa using en
 have AH:=jj S _ (by simpa using sg) gS;have xH:sY I S s.heap h':=λx o n1 n2 e=>jj x o (by simpa using n1) (gk x o e);show ai _ A.in1 (tryCatch (cz [.int n0 t] (call (.ref q) [.int n0 t])) _ >>= _) _ _ _;refine ae (bI (aO (aW (turn n0 t h' iR (Wh) xH) (λx uU he=>?_) λ_ _ hF=>hF.elim)));obtain⟨h2,LI,t2,rfl,rfl,k2⟩:=he;have sj:=k2 _ _ AH;have s1:=Heap.SameBut.update h2 S (Obj.mapSeq λ_=>#[.int n0 t,.int (kf n0) t2]);obtain⟨c2,sf⟩:∃ c2,(h2.update S (Obj.mapSeq λ_=>#[.int n0 t,.int (kf n0) t2])).get? S=some (gA "list" #[.int n0 t,.int (kf n0) t2] c2):=⟨_,iG sj λ_=>#[.int n0 t,.int (kf n0) t2]⟩;show ai _ A.in1 (updateSeq S (λ_=>#[.int n0 t,.int (kf n0) t2]) >>= _) _ _ _;refine ae ?_;refine fk sj rfl ?_;rw[j8];have kO:=W.frame _ _ _ (W.frame _ _ _ km λx _ o e=>k2 x o e) λx hx o e=>s1.extBut x o (λz=>Dp (z ▸ hx)) e;refine ah ⟨b9 PySem.F.plain_min_loop _,yce (best:=ns.foldl (rG kf) n0) W Dp sg hlen hv turn (λt h' iR k=>hQ t h' iR λb o e=>k b o (old b o e).1 (old b o e).2 e) _ 1 _ _ n0 t t2 c2 rfl (by simp) (λx o n1 n2 e=>s1.extBut x o n2 (k2 x o (xH x o n1 n2 e))) sf kO (by simp)⟩
end
noncomputable abbrev nC:Str:="ink"
noncomputable abbrev QF:Str:="want"
noncomputable abbrev yB(pa:Pos):jG:=⟨[],[⟨nC,none,pa⟩],none,[],[],none,[]⟩
noncomputable abbrev zB(p1 p2 p3 p4 p5:Pos):Expr:=.Call (.Name "abs" p1) [.BinOp (.Name QF p2) .Sub (.Name nC p3) p4] [] p5
noncomputable abbrev fm:aA:={kind:=.function,names:=[(nC,.local),(QF,.free),("abs",.globalImplicit)],isGenerator:=false,isCoroutine:=false,more:=[]}
noncomputable def oi(i:Int):Int:=if i<0 then -i else i
section
variable {prog:aj} {w:World} {A:ay} {s:ag} {q I S c' cw:af} {ns:List Int} {g:Heap} {qual:Str} {pa p1 p2 p3 p4 p5:Pos} {pm jz:aa} {wv:Int} {tw:Tok} {mg mb:Str->Option aa}
theorem Qcp(j6:A.depth<bT)(hq:g.get? q=some (Ur "<lambda>" qual (yB pa) (zB p1 p2 p3 p4 p5) fm [(QF,cw)] pm c' jz))(jy:g.CodeRec (.ref c') qual)(AB:g.IsCell cw (some (.int wv tw)))
  (pV:g.NoLimit) (nS:g.Ns ao mg) (hmb:g.Ns builtinsNs mb) (ha:mg "abs"=none) (hb:mb "abs"=some (.builtin "abs")) (hI:g.objs.size<=I) (hS:g.objs.size<=S) :
  Jb prog w A s q I S g (λn=>oi (wv-n)) ns:=by
 intro n t h tk _ kp;have kp:∀ b o,g.get? b=some o->h.get? b=some o:=λb o e=>kp b o (Xc (Wd (Xa e) hI)) (Xc (Wd (Xa e) hS)) e;refine fg (PySem.W.kla_callFunE (s:={s with heap:=h,toks:=tk}) (fd:=vB "<lambda>" qual (yB pa) (zB p1 p2 p3 p4 p5) fm [(QF,cw)] pm (.ref c') jz) j6 (kp _ _ hq) rfl rfl rfl rfl (jy.keeps kp) ?_);rw[show bindArgs (vB "<lambda>" qual (yB pa) (zB p1 p2 p3 p4 p5) fm [(QF,cw)] pm (.ref c') jz) ⟨[.int n t],[]⟩=pure [(nC,.int n t)] from rfl];refine ah (wpAny_newFunctionEnv (show ∀ y∈fm.names,y.2≠.cell by decide) (λy hy=>by rw[Xd.mp hy];rfl) (λh₁ oG M'=>⟨(pV.keeps kp).fresh _ M',?_⟩) rfl);have Ng:∀ b o,h.get? b=some o->h₁.get? b=some o:=λb o e=>M'.extBut b o (Xc (Xa e)) (wa _ e);have HR:∀ b o,g.get? b=some o->h₁.get? b=some o:=λb o e=>Ng b o (kp b o e);refine PySem.W.kla_codeExpr ?_;refine aX (Calls.Name_function_global rfl rfl (Calls.loadGlobal_builtin (nS.keeps HR) ha (hmb.keeps HR) hb ?_) (by decide));refine PyProof.Rows.callWith_builtin1 ?_;refine Calls.spliced_cons ?_;refine wpAny_BinOp ?_;have ecw:h₁.IsCell cw (some (.int wv tw)):=let ⟨o,e,d⟩:=AB;⟨o,HR _ _ e,d⟩;refine fh (fZ rfl rfl rfl ecw ?_ (by decide)) (by decide);refine fh (fJ rfl rfl oG (v:=.int n t) rfl ?_) (by decide);refine sub_int ?_;refine Calls.spliced_nil ?_;exact call_abs_int λu tk=>⟨_,_,_,rfl,rfl,Ng⟩
end
end L3
end
section
namespace L3
open PySem PySem.Spec PyProof.Rows L2 M3
noncomputable def YL(P:af)(lp:Pos)(oc:Option af):Heap->Prop:=λh=>∃ ps:Array aa,h.get? P=some (VB ps)/\TriplesOk ps.toList/\codeAmong lp ps.toList=oc.map aa.ref
noncomputable def l7(c':af)(q:Str):Heap->Prop:=λh=>h.CodeRec (.ref c') q
noncomputable def Mg(H:Hp)(P:af)(lp:Pos)(q:Str):Prop:=H P=some (.ext (YL P lp none))\/∃ c',c'≠P/\H P=some (.ext (YL P lp (some c')))/\H c'=some (.ext (l7 c' q))
noncomputable def BW(H:Hp)(P:af)(lp:Pos)(q:Str)(H2:Hp):Prop:=H2=H\/∃ c',H P=some (.ext (YL P lp none))/\H c'=none/\H2=upd (upd H c' (.ext (l7 c' q))) P (.ext (YL P lp (some c')))
structure jR (mg:Str->Option aa) (base:Heap) (c P:af):Prop where
 code:PySem.W.CodeHd base c P
 bmain:∃ bm ob,mg "__builtins__"=some (.ref bm)/\bm≠builtinsNs/\base.get? bm=some ob/\ob.cls=.type "module"/\ob.dict=some builtinsNs/\ob.data=.plain
theorem JA{P:aj}{w:World}{H:Hp}{h:Heap}{T:af}{lp:Pos}{oc:Option af}(x:YL T lp oc h):bg P w H h T (.ext (YL T lp oc)):=by
 obtain⟨ps,e,r⟩:=id x;exact⟨x,⟨_,e⟩,λh1 h2 ⟨ps,e,r⟩ k=>⟨ps,k _ e,r⟩⟩
theorem QcR{P:aj}{w:World}{H:Hp}{h:Heap}{c':af}{q:Str}(x:l7 c' q h):bg P w H h c' (.ext (l7 c' q)):=by
 obtain⟨c,oc,vs,tq,e0,e,r⟩:=id x;cases e0;exact⟨x,⟨_,e⟩,λh1 h2 ⟨c,oc,vs,tq,e0,e,r⟩ k=>by cases e0;exact⟨c',oc,vs,tq,rfl,k _ e,r⟩⟩
section
variable {X:Cx} {pins:List (af×Obj)} {σ:L2.St} {H:Hp} {s:ag} {h':Heap} {P c':af} {lp:Pos} {q:Str}
theorem zcZ{t':Nat}(I:Inv X pins σ H s)(hP:H P=some (.ext (YL P lp none)))(hx:Heap.ExtBut P s.heap h')(hc:s.heap.objs.size<=c')(cd:l7 c' q h')(tb:YL P lp (some c') h') :
  Inv X pins σ (upd (upd H c' (.ext (l7 c' q))) P (.ext (YL P lp (some c')))) {s with heap:=h',toks:=t'}:=by
 have AE:H c'=none:=I.aU.fresh hc;have r6:∀ b u,H b=some u->(∀ φ,u≠HO.ext φ)->b≠P:=λb u e n z=>by
  rw[z,hP] at e;cases e;exact n _ rfl
 have neN:∀ b,H b=none->b≠P:=λb e z=>by rw[z,hP] at e;cases e
 have wW:∀ b u,H b=some u->b≠c':=λb u e z=>by rw[z,AE] at e;cases e
 have hcP:c'≠P:=neN _ AE;have same:∀ b,b≠P->b≠c'->upd (upd H c' (.ext (l7 c' q))) P (.ext (YL P lp (some c'))) b=H b:=λb n1 n2=>by rw[Zd n1,Zd n2]
 refine I.un ⟨λb o e n _ _=>hx b o (neN b n) e,λb o e n _ _=>⟨o.slots,hx b o (neN b n) e⟩,λb o e n _=>?_,λb o e _=>?_,λb xs e=>?_,λb o u e=>?_,λb ps e=>⟨#[],?_⟩⟩ λb u e=>?_
 ·rw[same b (neN b n) λz=>absurd (Xa e) (by rw[z];exact Nat.not_lt.mpr hc)];exact n
 ·by_cases hb:b=P
  ·obtain⟨ps,e1,_⟩:=tb;exact⟨_,by rw[hb];exact e1⟩
  ·exact⟨o,hx b o hb e⟩
 ·rw[same b (r6 b _ e λφ z=>nomatch z) (wW b _ e)];exact e
 ·rw[same b (r6 b _ e λφ z=>nomatch z) (wW b _ e)];exact e
 ·rw[same b (r6 b _ e λφ z=>nomatch z) (wW b _ e),e];simp
 ·by_cases hb:b=P
  ·subst hb;rw[zf] at e;cases e;exact JA tb
  ·rw[Zd hb] at e;by_cases jE:b=c'
   ·subst jE;rw[zf] at e;cases e;exact QcR cd
   ·rw[Zd jE] at e;refine(I.aU b u e).iT (λc v hc q=>hx c v ?_ q) (λc z=>?_) λc xs z=>?_
    ·rcases hc with z|z
     ·rw[z];exact hb
     ·exact r6 c _ z λφ z=>nomatch z
    ·rw[same c (r6 c _ z λφ z=>nomatch z) (wW c _ z)];exact z
    ·rw[same c (r6 c _ z λφ z=>nomatch z) (wW c _ z)];exact z
theorem zbw{env:Env}{cw:af}(h:env.cells.lookup QF=some cw):gE fm env=pure [(QF,cw)]:=by
 unfold gE jQ;simp[h]
noncomputable def tW(K:PySem.W.Frag)(P:af)(lp:Pos)(q:Str)(j:Nat)(te:TE):TE:=λσ H Q=>te σ H λx H1=>∃(b:Bool)(a:af)(n0:Int)(ns:List Int)(wv:Int),x=.ref a/\gH K H1 b a ((n0::ns).map V.int)/\σ[j]?=some (some (.int wv))/\Mg H1 P lp q /\
 ∀ H2,BW H1 P lp q H2->Q (.int (ns.foldl (rG λk=>oi (wv-k)) n0)) H2
noncomputable abbrev K'(e:Expr)(vQ pa p1 p2 p3 p4 p5 lp pk pc:Pos):Expr:=.Call (.Name "min" vQ) [e] [⟨some "key",.Lambda (yB pa) (zB p1 p2 p3 p4 p5) fm lp,pk⟩] pc
theorem zcp{b:Bool}{a f cw:af}{n0 wv:Int}{ns:List Int}{qual:Str}{pa p1 p2 p3 p4 p5:Pos}{pm jz:aa}{Q:VK}(I:Inv X pins σ H s)(mI:X.calm=true)(j6:X.A.depth<bT)(HL:X.mg "abs"=none)
  (hq:s.heap.get? f=some (Ur "<lambda>" qual (yB pa) (zB p1 p2 p3 p4 p5) fm [(QF,cw)] pm c' jz)) (jy:s.heap.CodeRec (.ref c') qual) {tw:Tok} (AB:s.heap.IsCell cw (some (.int wv tw)))
  (sq:gH X.K H b a ((n0::ns).map V.int)) (h:Q (.int (ns.foldl (rG λk=>oi (wv-k)) n0)) H) :
  ai (ak X.prog X.w) X.A (call (.builtin "min") [.ref a] [(Str.ofString "key",.ref f)]) (EP X pins σ Q) X.xe s:=by
 obtain⟨aB,rv,si,hz⟩:=yr I sq;obtain⟨mb,hb1,hb2⟩:=I.mod.blt;have hl:=rv.length;refine Yb9 (kf:=λk=>oi (wv-k)) (ns:=ns) (n0:=n0) (I.ok.hd mI) si (by simp at hl ⊢;lia) (λi v e=>?_) (Qcp j6 hq jy AB I.nolimit (I.mod.glob.keeps I.bk) (hb1.keeps I.bk) HL ((hb2 _ (by decide)).trans rfl) (xb _) (ww (by rw[size_push'];exact Uj _))) λt h' iR k=>⟨.int _,H,I.kept k,⟨_,rfl⟩,h⟩;have e':aB[i]?=some v:=by simpa using e
 have hi:i<(n0::ns).length:=by
  have:=(xa.mp e').1;rw[wc] at hl
  lia
 obtain⟨u,hu,rx⟩:=rv.get (i:=i) (x:=V.int (n0::ns)[i]) (by rw[Xb,wb hi];rfl);rw[e'] at hu;cases hu;obtain⟨t,rfl⟩:=rx;exact⟨_,t,wb hi,rfl⟩
theorem YcJ{K:PySem.W.Frag}{H2:Hp}{b:Bool}{a:af}{xs:List V}(sq:gH K H b a xs)(k:∀ b u,H b=some u->(∀ φ,u≠HO.ext φ)->H2 b=some u):gH K H2 b a xs:=by
 cases b with
 |false =>
  rcases(show fG K H a xs from sq) with (e|⟨o,e⟩)|z
  ·exact(show fG K H2 a xs from .inl (.inl (k _ _ e λφ z=>nomatch z)))
  ·exact(show fG K H2 a xs from .inl (.inr ⟨o,k _ _ e λφ z=>nomatch z⟩))
  ·exact(show fG K H2 a xs from .inr z)
 |true =>
  rcases(show gc K H a xs from sq) with (e|⟨o,e⟩)|z
  ·exact(show gc K H2 a xs from .inl (.inl (k _ _ e λφ z=>nomatch z)))
  ·exact(show gc K H2 a xs from .inl (.inr ⟨o,k _ _ e λφ z=>nomatch z⟩))
  ·exact(show gc K H2 a xs from .inr z)
theorem ycV{e:Expr}{te:TE}{c:af}{j:Nat}{vQ pa p1 p2 p3 p4 p5 pk pc:Pos}(he:PE X e te)(hg:Gl X "min")(hm:X.mg "min"=none)(HL:X.mg "abs"=none)(mI:X.calm=true)(j6:X.A.depth<bT)
  (oI:X.env.code=.ref c) (L:jR X.mg X.base c P) (hN:X.N[j]?=some QF) (hk:X.env.kindOf QF=some .cell) (hs:au [e] X.env=[(false,eval e X.env)]:=by rfl) :
  PE X (K' e vQ pa p1 p2 p3 p4 p5 lp pk pc) (tW X.K P lp (X.env.qual++"<lambda>") j te):=by
 intro pins s σ H Q I h;refine aX (oW I hg hm rfl ?_);refine callWith_kw (rest:=[]) ?_ (by rw[hs];rfl) (by rw[hs];rfl);rw[hs];refine Calls.spliced_cons (bh (he pins s σ H _ I h) λu s1 ⟨x,H1,I1,r1,b,a,n0,ns,wv,ex,sq,ew,tok,q1⟩=>Calls.spliced_nil ?_);subst ex;obtain rfl:u=.ref a:=r1;refine wpAny_evalAll_cons (ae ?_);refine PySem.W.kla_eval rfl ?_
 -- tO cell of want
 obtain⟨m,hn,hl⟩:=id I1.loc;obtain⟨uw,rw_,lw⟩:=hl j QF (.int wv) hN ew (.inr (.inl hk));obtain⟨tw,rfl⟩:=rw_
 rcases lw with ⟨jj,_⟩|⟨_,cw,AB,j9⟩
 ·rw[hk] at jj;cases jj
 have iF:=zbw AB;obtain⟨bm,ob,b1,b2,b3,b4,b5,b6⟩:=L.bmain;have Aw:=I1.mod.glob.keeps I1.bk;have ni:=I1.bk _ _ b3;have C:=L.code.keeps I1.bk;have fin:∀{s2:ag}{H2:Hp}{f c':af}{pm jz:aa},Inv X pins σ H2 s2->BW H1 P lp (X.env.qual++"<lambda>") H2->gH X.K H2 b a ((n0::ns).map V.int) ->
   s2.heap.get? f=some (Ur "<lambda>" (X.env.qual++"<lambda>") (yB pa) (zB p1 p2 p3 p4 p5) fm [(QF,cw)] pm c' jz)->s2.heap.CodeRec (.ref c') (X.env.qual++"<lambda>")->s2.heap.IsCell cw (some (.int wv tw)) ->
   ai (ak X.prog X.w) X.A (iJ pc >>= λ_=>pure (aa.ref f)) (λv s₁=>ai (ak X.prog X.w) X.A (evalAll []) (λvs s₂=>ai (ak X.prog X.w) X.A (call (.builtin "min") [.ref a] ([Str.ofString "key"].zip (v::vs))) (EP X pins σ Q) X.xe s₂) X.xe s₁) X.xe s2:=λ{s2 H2 f c' pm jz} I2 nx sq2 hq jy Ih =>
  ae (bS (ah (wpAny_evalAll_nil (zcp I2 mI j6 HL hq jy Ih sq2 (q1 _ nx)))))
 rcases tok with hP|⟨c',hcP,hP,eg⟩
 ·obtain⟨⟨ps,e1,e2,e3⟩,_⟩:=I1.aU P _ hP;have hgP:ao≠P:=λq=>by
   obtain⟨o,es,ep,e,hd,_⟩:=Aw;rw[q,e1] at e;cases e;cases hd
  have Im:bm≠P:=λq=>by
   rw[q,e1] at ni;cases ni;cases b4
  have Io:bm≠ao:=λq=>by
   obtain⟨o,es,ep,e,hd,_⟩:=Aw;rw[q,e] at ni;cases ni;rw[hd] at b6;cases b6
  refine PySem.W.kla_makeFunction (mg:=X.mg) iF I1.ok.glob Aw oI C e1 e2 e3 hgP ⟨bm,ob,b1,b2,Io,Im,ni,b4,b5,b6⟩ λc' jz h' tk hx Ni kZ Hz Hv=>?_;have jh:Heap.ExtBut P s1.heap (h'.push (Ur "<lambda>" (X.env.qual++"<lambda>") (yB pa) (zB p1 p2 p3 p4 p5) fm [(QF,cw)] ((X.mg "__name__").getD .none) c' jz)):=λb o n e=>wa _ (hx b o n e);have cd:l7 c' (X.env.qual++"<lambda>") (h'.push (Ur "<lambda>" (X.env.qual++"<lambda>") (yB pa) (zB p1 p2 p3 p4 p5) fm [(QF,cw)] ((X.mg "__name__").getD .none) c' jz)):=Hz.keeps λb o e=>wa _ e;have tb:YL P lp (some c') (h'.push (Ur "<lambda>" (X.env.qual++"<lambda>") (yB pa) (zB p1 p2 p3 p4 p5) fm [(QF,cw)] ((X.mg "__name__").getD .none) c' jz)) :=
   ⟨_,wa _ Hv,by rw[wD];exact TriplesOk_snoc _ _ _ _ e2,by rw[wD];exact codeAmong_snoc _ e2 e3⟩
  have AE:H1 c'=none:=I1.aU.fresh Ni;have I2:=zcZ (t':=tk) I1 hP jh Ni cd tb;refine fin I2 (.inr ⟨c',hP,AE,rfl⟩) ?_ (Ub _ rfl) cd ?_
  ·refine YcJ sq λb u e n=>?_;rw[Zd λz=>by rw[z,hP] at e;cases e;exact n _ rfl,Zd λz=>by rw[z,AE] at e;cases e];exact e
  ·obtain⟨o,e,d⟩:=j9;refine⟨o,jh _ _ (λq=>?_) e,d⟩;rw[q,e1] at e;cases e;cases d
 ·obtain⟨⟨ps,e1,e2,e3⟩,_⟩:=I1.aU P _ hP;obtain⟨cd,_⟩:=I1.aU c' _ eg;have Im:bm≠P:=λq=>by
   rw[q,e1] at ni;cases ni;cases b4
  have Io:bm≠ao:=λq=>by
   obtain⟨o,es,ep,e,hd,_⟩:=Aw;rw[q,e] at ni;cases ni;rw[hd] at b6;cases b6
  refine PySem.W.kla_makeFunctionHit (mg:=X.mg) iF I1.ok.glob Aw oI C e1 e2 e3 ⟨bm,ob,b1,b2,Io,Im,ni,b4,b5,b6⟩ λjz h' tk hk hsz=>?_;have jj:∀ b o,s1.heap.get? b=some o->(h'.push {cls:=.type "function",data:=.func (vB "<lambda>" (X.env.qual++"<lambda>") (yB pa) (zB p1 p2 p3 p4 p5) fm [(QF,cw)] ((X.mg "__name__").getD .none) (.ref c') jz)}).get? b=some o:=λb o e=>wa _ (hk b o e);obtain⟨o,e,d⟩:=j9;exact fin (I1.kept (t':=tk) jj) (.inl rfl) sq (Ub _ rfl) (Heap.CodeRec.keeps cd jj) ⟨o,jj _ _ e,d⟩
end
end L3
end
section
namespace L3
open PySem PySem.Spec PyProof.Rows L2 M3
theorem Ex{α β:Type}{F:α->β->Prop}:∀{l₁:List α}{l₂:List β},bY F l₁ l₂->l₁.length=l₂.length
 |_,_,.nil=>rfl
 |_,_,.cons r t=>by simp[Ex t]
end L3
end
section
namespace L3
open PySem PySem.Spec PyProof.Rows L2 M3
theorem zcu:gw (.type "list") "__getattr__"=pure none:=by rw[iA,fF];kernel_rfl
theorem ZbO:gw (.type "list") "keys"=pure none:=by rw[iA,fF];kernel_rfl
section
variable {prog:aj} {w:World} {A:ay} {h:Heap} {g:Array kh} {d:Drawn} {t:Nat} {os:OsState} {a:af} {aB:Array aa} {n:Nat}
noncomputable abbrev tD(aB:Array aa)(n:Nat):Obj:={cls:=.type "list",data:=.seq aB n}
theorem QcE{E:aa->ag->Prop}{tk:Tok}{Q:Fin->ag->Prop}(hx:h.get? a=some (tD aB n))(hh:A.handled=none)
  (hE:∀ h' iR e,Heap.NewAttrErr h h' e (.ref a) "keys"->E (.ref e) ⟨h',g,d,iR,os⟩) :
  ai (ak prog w) A (aq.«object.__getattribute__» ⟨[.ref a,.str "keys" tk],[]⟩) Q E ⟨h,g,d,t,os⟩:=by
 have hT:(⟨h,g,d,t,os⟩:ag).TypeIs (.ref a) "list":=⟨_,hx,rfl⟩;have f1:=ZbO;unfold aq.«object.__getattribute__»
 repeat (any_goals (first|assumption|wp_step))
 exact wpAny_raiseAttrError hh hE (attrMsg_fits (by decide +kernel) (by decide +kernel))
theorem ycO{tk:Tok}{R:gJ->ag->Prop}(hx:h.get? a=some (tD aB n))(hh:A.handled=none)
  (hR:∀ h' iR e,Heap.NewAttrErr h h' e (.ref a) "keys"->R (.error (.ref e)) ⟨h',g,d,iR,os⟩) :
  bM (ak prog w) A (.call (.builtin "list.__getattribute__") ⟨[.ref a,.str "keys" tk],[]⟩) R ⟨h,g,d,t,os⟩ :=
 bX PySem.F.slot_list_getattribute.plain PySem.F.entry_list_ga (PySem.F.slot_list_getattribute.check _ _ _ _ _ _ _ _ (show(⟨h,g,d,t,os⟩:ag).TypeIs (.ref a) "list" from⟨_,hx,rfl⟩) (PySem.F.args_list_getattribute_2 _ _) (QcE hx hh hR))
theorem xI{E:aa->ag->Prop}{Q:aa->ag->Prop}{tk:Tok}(hx:h.get? a=some (tD aB n))(hh:A.handled=none)
  (hE:∀ h' iR e,Heap.NewAttrErr h h' e (.ref a) "keys"->E (.ref e) ⟨h',g,d,iR,os⟩) :
  ai (ak prog w) A (getAttrBy (.ref a) (.str "keys" tk) false) Q E ⟨h,g,d,t,os⟩:=by
 have hT:(⟨h,g,d,t,os⟩:ag).TypeIs (.ref a) "list":=⟨_,hx,rfl⟩;have f2:=PySem.F.slot_list_getattribute.lookup;have f3:=PySem.F.slot_list_getattribute.bind (.ref a);have f4:=zcu
 repeat (any_goals (first|assumption|wp_step))
 refine ycO hx hh λh' iR e ne=>?_;obtain⟨t',u',he⟩:=ne.there;have f5:=gx;show ai _ _ (gB _ _ _ _ _ _ _) _ _ _;unfold gB
 repeat (any_goals (first|assumption|wp_step))
 exact hE _ _ _ ne
theorem ycQ{E:aa->ag->Prop}{Q:Option aa->ag->Prop}(hx:h.get? a=some (tD aB n))(hh:A.handled=none)
  (hQ:∀ h' iR,(∀ b o,h.get? b=some o->h'.get? b=some o)->Q none ⟨h',g,d,iR,os⟩) :
  ai (ak prog w) A (getAttr? (.ref a) "keys") Q E ⟨h,g,d,t,os⟩:=by
 have f5:=gx;unfold getAttr? getAttrBy?
 repeat (any_goals (first|assumption|with_reducible apply xI hx hh|wp_step))
 intro h' iR e ne;obtain⟨t',u',he⟩:=ne.there
 repeat (any_goals (first|assumption|wp_step))
 exact hQ _ _ ne.keeps
end
theorem CJ:plainId "dict.update.loop"=true:=by decide +kernel
theorem KG:kc table "dict.update.loop"=some aq.«dict.update.loop»:=entryFor_of_fast (by kernel_rfl)
noncomputable def zm(ps:List (List Key×af×aa))(xs:List (List Key×af×aa)):List (List Key×af×aa):=ps.foldl (λacc p=>d8 acc p.1 p.2.1 p.2.2) xs
theorem Zbz{K:Type} [DecidableEq K] (xs:List (K×af×aa))(k:K)(a:af)(v:aa):(d8 xs k a v).length<=xs.length+1:=by
 unfold d8;split <;> simp
theorem Pj:∀(ps xs:List (List Key×af×aa)),(zm ps xs).length<=xs.length+ps.length
 |[],xs=>by simp[zm]
 |p::ps,xs=>by
  have h1:=Pj ps (d8 xs p.1 p.2.1 p.2.2);have h2:=Zbz xs p.1 p.2.1 p.2.2;show(zm ps (d8 xs p.1 p.2.1 p.2.2)).length<=_;simp only[Uc];lia
section
variable {prog:aj} {w:World} {A:ay} {R:gJ->ag->Prop} {D I l:af} {items:Array aa} {h₀:Heap}
noncomputable def Zc0(prog:aj)(w:World)(h:Heap)(items:Array aa)(ps:List (List Key×af×aa)):Prop :=
 ∀(i:Nat)(v:aa),items[i]?=some v->∃ T p,v=.ref T/\ps[i]?=some p/\fQ h T #[.ref p.2.1,p.2.2]/\(aE (Qe prog w)).is h p.1 p.2.1
theorem Mp{h h':Heap}{xs:List (List Key×af×aa)}{i:Nat}(x:h.DictOfH (aE (Qe prog w)) D xs)(AI:D≠I)(st:h.IsListIter I l i)(sb:∀ b o,b≠I->h.get? b=some o->h'.get? b=some o):h'.DictOfH (aE (Qe prog w)) D xs:=by
 obtain⟨o,es,ep,e1,e2,e3,e4,e5,e6⟩:=x;refine⟨o,es,ep,sb D o AI e1,e2,e3,e4,λy hy=>?_,e6⟩;obtain⟨o',aB,n,k1,k2,k3⟩:=e5 y hy;refine⟨o',aB,n,sb _ _ (λe=>?_) k1,k2,k3⟩;obtain⟨o2,q1,q2,_⟩:=st;rw[e,q1] at k1;cases k1;rw[q2] at k2;exact absurd k2 (by decide)
theorem Za3(ps:List (List Key×af×aa))(i:Nat)(p:List Key×af×aa)(h:ps[i]?=some p):zm (ps.take (i+1)) []=d8 (zm (ps.take i) []) p.1 p.2.1 p.2.2:=by
 unfold zm;rw[Xz,h];simp
theorem Zcs(hu:A.units+2<c7)(hh:A.handled=none)(ps:List (List Key×af×aa))(hps:ps.length=items.size)(hz:items.size<sizeLine)(AI:D≠I)(HN:l≠I)(hlD:l≠D)
  (xK:∀ h',(∀ b o,b≠D->b≠I->h₀.get? b=some o->h'.get? b=some o)->Zc0 prog w h' items ps) :
  ∀(m i:Nat)(s:ag)(t:Tok),items.size-i=m->i<=items.size->s.heap.IsListIter I l i->s.heap.IsList l items->(∀ b o,b≠D->b≠I->h₀.get? b=some o->s.heap.get? b=some o) ->
  s.heap.DictOfH (aE (Qe prog w)) D (zm (ps.take i) []) ->
  (∀ h' tk,h'.DictOfH (aE (Qe prog w)) D (zm ps [])->(∀ b o,b≠D->b≠I->h₀.get? b=some o->h'.get? b=some o)->R (.ok (.ret .none)) {s with heap:=h',toks:=tk}) ->
  bM (ak prog w) A (.builtin "dict.update.loop" ⟨[.ref D,.ref I,.int i t,.none],[]⟩) R s:=by
 intro m
 induction m with
 |zero =>
  intro i s t hm hi st hl hk hd hR;have jk:i=items.size:=by lia
  refine bR KG ?_;rw[ay.under_plainId CJ _];show ai _ A.in1 (c8 (.ref I) >>= _) _ _ s;refine ae (fy hh st hl (by simp[jk]) λh' eb=>?_);show ai _ _ (aq.Dict.addKeywords D [] >>= _) _ _ _;refine ae (ah (ah (hR h' _ ?_ λb o h1 h2 e=>eb b o h2 (hk b o h1 h2 e))));have:=Mp hd AI st eb
  rwa [jk,<- hps,wt] at this
 |succ m ih =>
  intro i s t hm hi st hl hk hd hR;have kZ:i<items.size:=by lia
  refine bR KG ?_;rw[ay.under_plainId CJ _];show ai _ A.in1 (c8 (.ref I) >>= _) _ _ s;refine ae (fb st hl (x:=items[i]) (by simp[kZ]) λh' km sb=>?_);have jj:∀ b o,b≠D->b≠I->h₀.get? b=some o->h'.get? b=some o:=λb o h1 h2 e=>(sb.2 b h2).trans (hk b o h1 h2 e);obtain⟨T,p,e1,e2,e3,e4⟩:=xK h' jj i items[i] (by simp[kZ]);have AA:=Mp hd AI st sb.extBut;obtain⟨oT,t1,t2,tn,t3⟩:=e3;have hlen:(zm (ps.take i) []).length<=sizeLine:=by
   have:=Pj (ps.take i) [];simp only[Wj,Uq] at this
   lia
  rw[e1];show ai _ _ (cz _ _ >>= _) _ _ _;refine ae (aO ?_);refine ae (bI (ae (cO (T:="tuple") ⟨oT,t1,t2⟩ ?_)));rw[if_pos (by decide)];refine ae (aR t1 t3 (ah ?_));show ai _ _ (cz [aa.ref p.2.1,p.2.2] (dictSet D (.ref p.2.1) p.2.2)) _ _ _;refine aO (wpAny_dictSet_heap (knd:=aE (Qe prog w)) (dO (by lia)) e4 AA (λsx Ig pB=>?_) hlen);refine ah ⟨b9 CJ _,?_⟩;have HW:∀ b o,b≠D->b≠I->h₀.get? b=some o->sx.get? b=some o:=λb o h1 h2 e=>(pB.2 b h1).trans (jj b o h1 h2 e);refine ih (i+1) _ _ (by lia) kZ (km.at λo e=>(pB.2 I (Ne.symm AI)).trans e) (hl.at λo e=>(pB.2 l hlD).trans ((sb.2 l HN).trans e)) HW (by rw[Za3 ps i p e2];exact Ig) λh3 tk hd3 hk3=>hR h3 tk hd3 hk3
end
section
variable {X:Cx}
noncomputable def JE(H:Hp):List V->List (List Key×V)->Prop:=bY λv kv=>∃ T K,v=V.ref T/\H T=some (.tup [.ref K,kv.2])/\H K=some (.tup (kv.1.map kV))
noncomputable def yA(jw kvs:List (List Key×V)):List (List Key×V):=jw.foldl (λacc kv=>zH acc kv.1 kv.2) kvs
theorem MG:∀(jw kvs:List (List Key×V)),(yA jw kvs).length<=kvs.length+jw.length
 |[],kvs=>by simp[yA]
 |p::jw,kvs=>by
  have h1:=MG jw (zH kvs p.1 p.2);have h2:=qK kvs p.1 p.2;show(yA jw (zH kvs p.1 p.2)).length<=_;simp only[Uc];lia
theorem Mn{P:aj}{w:World}{H:Hp}{h:Heap}(ok:fu P w H h):∀{vs:List V}{jw:List (List Key×V)} {us:List aa},JE H vs jw->Vals vs us ->
  ∃ ps,KT H jw ps/\ps.length=us.length/\∀(i:Nat)(v:aa),us[i]?=some v->∃ T p,v=.ref T/\ps[i]?=some p/\fQ h T #[.ref p.2.1,p.2.2]/\(aE (Qe P w)).is h p.1 p.2.1
 |_,_,_,.nil,.nil=>⟨[],.nil,rfl,λi v e=>by simp at e⟩
 |_,_,_,.cons (a:=v) (b:=kv) hv tv,.cons (b:=u) hu tu=>by
  obtain⟨ps,k1,k2,k3⟩:=Mn ok tv tu;obtain⟨T,K,rfl,hT,hK⟩:=hv;obtain rfl:u=aa.ref T:=hu;obtain⟨_,aB,r,o,e1,e2,n,e3⟩:=ok T _ hT
  rcases aB with _|⟨x,_|⟨y,_|⟨z,aB⟩⟩⟩
  ·cases r
  ·cases r with|cons _ t=>cases t
  ·cases r with
   |cons hx t=>cases t with
    |cons hy t =>
     obtain rfl:x=aa.ref K:=hx;refine⟨(kv.1,K,y)::ps,.cons ⟨rfl,hK,hy⟩ k1,by simp[k2],λi v e=>?_⟩;cases i with
     |zero=>simp at e;subst e;exact⟨T,_,rfl,rfl,⟨o,e1,e2,n,by simpa using e3⟩,BV ok hK⟩
     |succ i=>simpa using k3 i v (by simpa using e)
  ·cases r with|cons _ t=>cases t with|cons _ t=>cases t
theorem ydk{H:Hp}{jw:List (List Key×V)}{ps:List (List Key×af×aa)}(k:KT H jw ps):∀{kvs:List (List Key×V)} {xs:List (List Key×af×aa)},KT H kvs xs->KT H (yA jw kvs) (zm ps xs):=by
 induction k with
 |nil=>intro kvs xs r;exact r
 |@cons p q as bs h t ih =>
  intro kvs xs r;have e:=r.put p.1 (b:=q.2.1) h.2.1 h.2.2;show KT H (yA as (zH kvs p.1 p.2)) (zm bs (d8 xs q.1 q.2.1 q.2.2));rw[<- h.1];exact ih e
noncomputable def Ydh:List V->Hp->VK->Prop:=λxs H Q=>∃ a vs jw,xs=[.ref a]/\Rd H a (.lst vs)/\JE H vs jw/\jw.length<sizeLine/\∀ p o,H p=none->Q (.ref p) (upd H p (.eZ o (.dT (yA jw []))))
theorem qbG(hc:X.calm=true)(hu:X.A.units+3<c7):aN X (.type "dict") Ydh:=by
 intro pins s σ H xs us Q I r h;obtain⟨a,vs,jw,rfl,ha,pv,hz,q⟩:=h;obtain rfl:=ZX r;obtain⟨_,aB,n,rv,hg⟩:=ha.ok I.aU;obtain⟨ps,k1,k2,k3⟩:=Mn I.aU pv rv;have hh:=I.ok.hd hc;have hlk:jw.length=ps.length:=Ex k1;have MW:a<s.heap.objs.size:=Xa hg;refine callType_codes (Q₁:=λobj s₁=>obj=.ref s.heap.objs.size/\s₁={s with heap:=s.heap.push {cls:=.type "dict",data:=.dict #[]}}) PySem.F.kt_called_dict (PySem.F.kt_typeCall_dict_1 _) PySem.F.entry_dict_init (kt_code_dict_new _ ⟨rfl,rfl⟩) ?_;rintro obj s₁ ⟨rfl,rfl⟩;obtain⟨_,Hw,xs0,r0,oD,es0,ep0,d1,d2,d3,d4,d5⟩:=Ld (P:=X.prog) (w:=X.w) (H:=H) s.heap I.big;cases r0;generalize oF:s.heap.push {cls:=.type "dict",data:=.dict #[]}=h1 at d1;have HY:h1.get? a=some (tD aB.toArray n):=by rw[<- oF];exact wa _ hg
 have sz1:h1.objs.size=s.heap.objs.size+1:=by rw[<- oF];simp
 have kp1:∀ b o,s.heap.get? b=some o->h1.get? b=some o:=λb o e=>by rw[<- oF];exact wa _ e
 refine⟨⟨oD,d1,d2.1⟩,PySem.F.args_dict_init_2 _ _,?_⟩;unfold aq.«dict.__init__»;refine ae ?_;unfold aq.Dict.selfAndRest;refine ae (fA ⟨oD,d1,d2.1⟩ ?_);show ai _ _ (pure (s.heap.objs.size,[aa.ref a])) _ _ _;refine ah ?_;show ai _ _ (aq.Dict.updateFrom "dict.__init__" s.heap.objs.size (.ref a) [] .none) _ _ _;unfold aq.Dict.updateFrom;refine ae (cO (T:="list") ⟨_,HY,rfl⟩ ?_);rw[if_pos (by decide)];refine ae (ycQ HY hh λh2 LI pM=>?_);have hg2:=pM _ _ HY;rw[if_pos (by decide)];refine ae (cA ?_);refine ae (dZ (items:=aB.toArray) ⟨_,hg2,rfl,n,rfl⟩ ?_);refine ah ⟨b9 CJ _,?_⟩;generalize Df:h2.push {cls:=.type "list_iterator",data:=.fields #[.ref a,.int 0 0]}=h3;have MY:∀ b o,h2.get? b=some o->h3.get? b=some o:=λb o e=>by rw[<- Df];exact wa _ e
 have kp:∀ b o,s.heap.get? b=some o->h3.get? b=some o:=λb o e=>MY _ _ (pM _ _ (kp1 _ _ e));have CY:s.heap.objs.size<h2.objs.size:=Xa (pM _ _ d1);refine Zcs (A:=X.A.in1) (D:=s.heap.objs.size) (I:=h2.objs.size) (l:=a) (items:=aB.toArray) (h₀:=s.heap) (by show X.A.units+1+2<c7;lia) hh ps (by simp[k2]) (by rw[Wb,<- k2,<- hlk];exact hz) (Xc CY) (Xc (Xn MW CY)) (Xc MW)
  (λh' kk i v e=>?_) aB.toArray.size 0 _ (0:Tok) (by simp) (wm _) ?_ ?_ ?_ ?_ λh' tk hd hk=>?_
 ·obtain⟨T,p,e1,e2,⟨oT,t1,t2⟩,oK,iK,nK,q1,q2⟩:=k3 i v (by simpa using e);have up:∀ b o,s.heap.get? b=some o->h'.get? b=some o:=λb o e=>kk b o (Xc (Xa e)) (Xc (Xn (Xa e) CY)) e;exact⟨T,p,e1,e2,⟨oT,up _ _ t1,t2⟩,oK,iK,nK,up _ _ q1,q2⟩
 ·exact⟨_,by rw[<- Df];exact Ub _ rfl,rfl,rfl⟩
 ·exact⟨_,kp _ _ hg,rfl,n,rfl⟩
 ·exactλb o _ _ e=>kp _ _ e
 ·refine⟨oD,es0,ep0,MY _ _ (pM _ _ d1),d2,d3,?_,λx hx=>?_,?_⟩
  ·simpa[zm] using d4
  ·simp[zm] at hx
  ·simp[zm]
 ·obtain⟨o,es,ep,e1,e2,e3,e4,e5,e6⟩:=hd;have up:∀ b o,s.heap.get? b=some o->h'.get? b=some o:=λb o e=>hk b o (Xc (Xa e)) (Xc (Xn (Xa e) CY)) e;have fr:H s.heap.objs.size=none:=I.aU.fresh (xb _);refine⟨rfl,.ref s.heap.objs.size,_,I.laid (a:=s.heap.objs.size) (o:=.eZ o (.dT (yA jw []))) (t':=tk) up (xb _) ⟨e1,?_⟩,rfl,q _ o fr⟩;refine⟨?_,Hw,zm ps [],?_,o,es,ep,e1,e2,e3,e4,e6⟩
  ·have:=MG jw [];simp only[Wj] at this
   lia
  ·exact(ydk k1 (kvs:=[]) (xs:=[]) .nil).keeps λb ys e=>by rw[Zd (qg e fr)];exact e
end
end L3
end
section
namespace L3
open PySem PySem.Spec PyProof.Rows L2 M3
noncomputable def Nk:Nat:=11400714785074694791
noncomputable def sk:Nat:=14029467366897019727
noncomputable def Dq:Nat:=2870177450012600261
noncomputable def Iw:Nat:=839798700976720815
noncomputable def hM:Nat:=18446744073709551616
noncomputable def sF(x:Nat):Nat:=((x*2147483648)%hM+x/8589934592)*Nk%hM
noncomputable def hI1:Nat:=614540362697595703
theorem YcZ:Nk*hI1%hM=1:=by decide +kernel
theorem qcK:sk*Iw%hM=1:=by decide +kernel
theorem Zbx{p i x y:Nat}(hi:p*i%hM=1)(h:x*p%hM=y*p%hM):x%hM=y%hM:=by
 have e:∀ z,(z*p%hM)*i%hM=z%hM:=λz=>by
  rw[Vu (z*p%hM),Nat.mod_mod,<- Vu,Nat.mul_assoc,Vu,hi];simp
 rw[<- e x,<- e y,h]
theorem Od{x:Nat}(hx:x<hM):(x*2147483648)%hM+x/8589934592=(x%8589934592)*2147483648+x/8589934592:=by
 have e:x*2147483648=(x%8589934592)*2147483648+hM*(x/8589934592):=by unfold hM;lia
 rw[e,Nat.add_mul_mod_self_left,Vq];unfold hM;lia
theorem qb5{x y:Nat}(hx:x<hM)(hy:y<hM)(h:sF x=sF y):x=y:=by
 have:=Zbx YcZ h;rw[Od hx,Od hy] at this;have q1:x/8589934592<2147483648:=by unfold hM at hx;lia
 have q2:y/8589934592<2147483648:=by unfold hM at hy;lia
 have r1:x%8589934592<8589934592:=Xp _ (by lia);have r2:y%8589934592<8589934592:=Xp _ (by lia);have x1:=xw x 8589934592;have y1:=xw y 8589934592;generalize x/8589934592=q at *;generalize y/8589934592=q' at *;generalize x%8589934592=r at *;generalize y%8589934592=r' at *;rw[Vq (by unfold hM;lia),Vq (by unfold hM;lia)] at this;omega
noncomputable def oh(a:Nat):Nat:=sF ((Dq+a*sk)%hM)
noncomputable def lh(a b:Nat):Nat:=sF ((oh a+b*sk)%hM)
noncomputable def l8(z:Nat):Nat:=(z+(2 ^^^ (Dq ^^^ 3527539)))%hM
noncomputable def hG(a:Nat):Nat:=oh a*Iw%hM
noncomputable def Yz:Nat:=64
theorem Ll:∀ a<Yz,∀ c<Yz,a≠c->Yz<=(hG a+(hM-hG c))%hM:=by decide +kernel
theorem EA:∀ a<Yz,∀ b<Yz,l8 (lh a b)≠hM-1:=by decide +kernel
theorem Ycp{a b c d:Nat}(ha:a<Yz)(hb:b<Yz)(hc:c<Yz)(hd:d<Yz)(h:lh a b=lh c d):a=c/\b=d:=by
 have hm:0<hM:=by decide
 have h1:=qb5 (Xp _ hm) (Xp _ hm) h;have h2:(hG a+b)%hM=(hG c+d)%hM:=by
  have e:∀ u v,((oh u+v*sk)%hM*Iw)%hM=(hG u+v)%hM:=λu v=>by
   rw[Vu,Nat.mod_mod,<- Vu,Uy,Nat.add_mod,Nat.mul_assoc,Vu v,qcK];unfold hG;simp[Nat.add_mod]
  rw[<- e,<- e,h1]
 by_cases Dm:a=c
 ·refine⟨Dm,?_⟩;rw[Dm] at h2;have:hG c<hM:=Xp _ hm;unfold hM Yz at *
  lia
 ·exfalso;have q1:=Ll a ha c hc Dm;have q2:=Ll c hc a ha (Ne.symm Dm);have l1:hG a<hM:=Xp _ hm;have l2:hG c<hM:=Xp _ hm;generalize hG a=x at *;generalize hG c=y at *;unfold hM Yz at *
  lia
theorem qA:∀ a<Yz,gR (a:Int)=(a:Int):=by decide +kernel
noncomputable def o8(m p1 p2 p5 q u v:Nat)(hashes:List Int):Int :=
 let acc:=hashes.foldl (init:=p5) λacc h =>
  let acc:=(acc+(h%(m:Int)).toNat*p2)%m
  let acc:=(acc*u)%m+acc/v
  (acc*p1)%m
 let acc:=(acc+(hashes.length ^^^ q))%m
 if acc==m-1 then 1546275796 else if acc<2^63 then acc else(acc:Int)-m
noncomputable def JY(m p1 u v x:Nat):Nat:=((x*u)%m+x/v)*p1%m
noncomputable def sZ(m p1 p2 p5 u v a b:Nat):Nat:=JY m p1 u v ((JY m p1 u v ((p5+(a%m)*p2)%m)+(b%m)*p2)%m)
theorem Qc9(hs:List Int):aq.Tuple.tupleHashOf hs=o8 (2^64) 11400714785074694791 14029467366897019727 2870177450012600261 (2870177450012600261 ^^^ 3527539) (2^31) (2^33) hs:=rfl
theorem ycA(m p1 p2 p5 q u v a b:Nat):o8 m p1 p2 p5 q u v [(a:Int),(b:Int)]=if(sZ m p1 p2 p5 u v a b+(2 ^^^ q))%m=m-1 then 1546275796 else if(sZ m p1 p2 p5 u v a b+(2 ^^^ q))%m<2^63 then(((sZ m p1 p2 p5 u v a b+(2 ^^^ q))%m:Nat):Int) else(((sZ m p1 p2 p5 u v a b+(2 ^^^ q))%m:Nat):Int)-(m:Int):=by
 have e:∀ x:Nat,((x:Int)%(m:Int)).toNat=x%m:=λx=>by
  rw[<- Int.natCast_emod,Xq]
 simp only[o8,sZ,JY,wj,List.foldl_nil,beq_iff_eq,Uc,Wj,e,Xw,Nat.reduceAdd];rfl
theorem vM:(2^64:Nat)=hM:=by decide +kernel
theorem vP:(2^31:Nat)=2147483648:=by decide +kernel
theorem vO:(2^33:Nat)=8589934592:=by decide +kernel
theorem vN:(2^63:Nat)=9223372036854775808:=by decide +kernel
noncomputable def sO(a b:Nat):Nat:=l8 (sF ((sF ((Dq+(a%hM)*sk)%hM)+(b%hM)*sk)%hM))
theorem Zcb(a b:Nat):aq.Tuple.tupleHashOf [(a:Int),(b:Int)]=if sO a b=hM-1 then 1546275796 else if sO a b<9223372036854775808 then(sO a b:Int) else(sO a b:Int)-(hM:Int):=by
 have h:=ycA (2^64) 11400714785074694791 14029467366897019727 2870177450012600261 (2870177450012600261 ^^^ 3527539) (2^31) (2^33) a b;rw[<- Qc9,vM,vP,vO,vN] at h;exact h
noncomputable def DU(a b:Nat):Int:=if l8 (lh a b)<9223372036854775808 then(l8 (lh a b):Int) else(l8 (lh a b):Int)-(hM:Int)
theorem MC{a b:Nat}(ha:a<Yz)(hb:b<Yz):aq.Tuple.tupleHashOf [(a:Int),(b:Int)]=DU a b:=by
 have l:Yz<hM:=by decide
 rw[Zcb];have e:sO a b=l8 (lh a b):=by
  unfold sO lh oh;rw[Vq (Xn ha l),Vq (Xn hb l)]
 rw[e];rw[if_neg (EA a ha b hb)];rfl
theorem Ycb{a b c d:Nat}(ha:a<Yz)(hb:b<Yz)(hc:c<Yz)(hd:d<Yz)(h:dP (DU a b)=dP (DU c d)):a=c/\b=d:=by
 have n1:=EA a ha b hb;have n2:=EA c hc d hd;have l1:l8 (lh a b)<hM:=Xp _ (by decide);have l2:l8 (lh c d)<hM:=Xp _ (by decide);have r:∀ z:Nat,z<hM->z≠hM-1->dP (if z<9223372036854775808 then(z:Int) else(z:Int)-(hM:Int))=if z<9223372036854775808 then(z:Int) else(z:Int)-(hM:Int):=λz l n=>by
  unfold hM at *;unfold dP;split
  ·rw[if_pos (by simp;lia),if_neg (by simp)]
  ·rw[if_pos (by simp;lia),if_neg (by simp;lia)]
 unfold DU at h;rw[r _ l1 n1,r _ l2 n2] at h;have e:l8 (lh a b)=l8 (lh c d):=by
  unfold hM at *;split at h <;> split at h <;> lia
 refine Ycp ha hb hc hd ?_;have s1:lh a b<hM:=Xp _ (by decide);have s2:lh c d<hM:=Xp _ (by decide);unfold l8 at e;generalize (2 ^^^ (Dq ^^^ 3527539))=k at e;unfold hM at *
 lia
noncomputable def ED(k:Int×Int):Prop:=(0<=k.1/\k.1<64)/\0<=k.2/\k.2<64
theorem Qcr{P:aj}{w:World}{k k':Int×Int}(h1:ED k)(h2:ED k')(h:(aE (Qe P w)).hash [(Sum.inl k.1:Key),Sum.inl k.2]=(aE (Qe P w)).hash [(Sum.inl k'.1:Key),Sum.inl k'.2]):k=k':=by
 obtain⟨a,b⟩:=k;obtain⟨c,d⟩:=k';obtain⟨⟨a0,a1⟩,b0,b1⟩:=h1;obtain⟨⟨c0,c1⟩,d0,d1⟩:=h2;simp only at a0 a1 b0 b1 c0 c1 d0 d1;obtain⟨a,rfl⟩:=Ve a0;obtain⟨b,rfl⟩:=Ve b0;obtain⟨c,rfl⟩:=Ve c0;obtain⟨d,rfl⟩:=Ve d0;have la:a<Yz:=by unfold Yz;lia
 have lb:b<Yz:=by unfold Yz;lia
 have lc:c<Yz:=by unfold Yz;lia
 have ld:d<Yz:=by unfold Yz;lia
 have h:dP (aq.Tuple.tupleHashOf [gR a,gR b])=dP (aq.Tuple.tupleHashOf [gR c,gR d]):=h;rw[qA a la,qA b lb,qA c lc,qA d ld,MC la lb,MC lc ld] at h;obtain⟨rfl,rfl⟩:=Ycb la lb lc ld h;rfl
end L3
end
section
namespace L3
open PySem PySem.Spec PyProof.Rows L2 M3
theorem Lr{α:Type}(f:α->Int):∀(l:List α)(c:Int),(l.map f).Nodup->(l.filter λx=>f x==c).length<=1
 |[],_,_=>by simp
 |x::l,c,h=>by
  rw[ub,Ul] at h;have ih:=Lr f l c h.2;by_cases e:f x=c
  ·have z:(l.filter λx=>f x==c)=[]:=by
    rw[List.filter_eq_nil_iff];intro y hy q;exact h.1 (ue.mpr ⟨y,hy,by rw[e];simpa using q⟩)
   simp[uv,e,z]
  ·simp[uv,e];exact ih
section
variable {prog:aj} {w:World} {A:ay} {E:aa->ag->Prop} {s:ag} {K:Type} [DecidableEq K] {knd:KeyKind prog w K}
theorem ZbD{a:af}{Q:Bool->ag->Prop}(hT:s.TypeIs (.ref a) "tuple")(h:Q false s):ai (ak prog w) A (aq.Dict.quietEq (.ref a)) Q E s:=by
 unfold aq.Dict.quietEq;refine ae (iz hT PySem.F.slot_tuple_eq.lookup ?_);exact ah h
theorem ZcS{id:String}{d:af}{o:Obj}{es:Array fY}{ep:Nat}{xs:List (List K×af×aa)}{Q:Array fY->ag->Prop}(ho:s.heap.get? d=some o)(hd:o.data=.dict es ep)
  (he:es.toList=xs.map (i7 (aE knd))) (his:∀ x∈xs,(aE knd).is s.heap x.1 x.2.1) (hn:(xs.map λx=>(aE knd).hash x.1).Nodup) (h:Q es s) :
  ai (ak prog w) A (aq.Dict.entriesForEmpty id d) Q E s:=by
 unfold aq.Dict.entriesForEmpty;refine ae (cQ ho hd (ae ?_));rw[<- Array.forIn_toList];have pX:∀ c:Int,¬(es.filter λe=>e.hash==c).size>1:=λc q=>by
  have h1:(es.filter λe=>e.hash==c).size=(es.toList.filter λe=>e.hash==c).length:=by rw[<- Array.toList_filter,Vl]
  have h2:=Lr (λe:fY=>e.hash) es.toList c (by rw[he,Wf];exact hn)
  lia
 refine wpAny_forIn_list _ (λrest _ s'=>s'=s/\∀ e∈rest,∃ x∈xs,e=i7 (aE knd) x) _ ?_ ?_ _ _ ⟨rfl,λe hm=>?_⟩
 ·rintro e rest b s' ⟨rfl,hr⟩;obtain⟨x,hx,rfl⟩:=hr e (Wh);obtain⟨ok,ik,nk,k1,k2,k3⟩:=his x hx;refine ae (ZbD ⟨ok,k1,k2⟩ ?_);rw[if_pos (by rfl)];rw[if_neg (pX _)];exact ah ⟨rfl,λe he=>hr e (Uf _ he)⟩
 ·rintro b s' ⟨rfl,_⟩;exact ah h
 ·rw[he] at hm;obtain⟨x,hx,rfl⟩:=ue.mp hm;exact⟨x,hx,rfl⟩
theorem Qb8{nm:String}{d o:af}{xs more:List (List K×af×aa)}{Q:Unit->ag->Prop}(hdo:d≠o)(hoS:(o==br)=false)
  (hd:s.heap.DictOfH (aE knd) d xs) (ho:s.heap.DictOfH (aE knd) o more) (hz:more.length<=sizeLine) (hn:(more.map λx=>(aE knd).hash x.1).Nodup) (hx:xs=[]\/more=[])
  (hQ:∀ h',h'.DictOfH (aE knd) d (if more=[] then xs else more)->Heap.SameBut d s.heap h'->Q () {s with heap:=h'}) :
  ai (ak prog w) A (aq.Dict.mergeDict nm d o) Q E s:=by
 obtain⟨od,esd,epd,d1,d2,d3,d4,d5,d6⟩:=id hd;obtain⟨oo,AN,epo,o1,o2,o3,o4,o5,o6⟩:=id ho;have hlen:AN.size=more.length:=by rw[<- Vl,o4,wc]
 unfold aq.Dict.mergeDict;rw[if_neg (by simpa using hdo)];unfold aq.Dict.showsAll;rw[if_neg (by rw[hoS];exact xj)];refine ae (ah ?_);refine ae (cQ o1 o3 ?_);by_cases hm:more=[]
 ·subst hm;obtain rfl:AN=#[]:=by
   apply Uw;rw[hlen];rfl
  rw[if_neg (by simp)];refine ae (wpAny_dictEpoch o1 o3 ?_);refine ae (cQ o1 o3 ?_);have hq:=hQ s.heap (by rw[if_pos rfl];exact hd) (Heap.SameBut.refl _ _);refine ae ?_;rw[Std.Legacy.Range.forIn_eq_forIn_range'];simp only[Std.Legacy.Range.size,Wb,Wj,vw,Nat.add_sub_cancel,Nat.div_one,List.range'_zero,UB];exact ah (ah hq)
 ·obtain rfl:xs=[]:=hx.resolve_right hm;have he:esd=#[]:=by
   apply Uw;rw[<- Vl,d4];rfl
  subst he;have mJ:(decide (AN.size<=8)&&AN.all λe=>(keyPart e.key).isSome)=false:=by
   rw[Bool.and_eq_false_iff]
   right
   rw[<- Array.all_toList,o4];cases more with
   |nil=>exact absurd rfl hm
   |cons x r=>rfl
  simp only[mJ];rw[if_pos (by rfl)];refine ae (cQ d1 d3 ?_);rw[if_pos (by rfl)];refine ae (ZcS o1 o3 o4 o5 hn ?_);have ji:AN.isEmpty=false:=by
   rw[Array.isEmpty_eq_false_iff];intro z;rw[z] at hlen;exact hm (List.length_eq_zero_iff.mp (by simpa using hlen.symm))
  rw[if_pos (by rw[ji];rfl)];refine ae (wpAny_updateDictKeysTo d1 d3 (ah (hQ _ ?_ (Heap.SameBut.update ..))) (by lia));rw[if_neg hm];refine⟨_,_,epd+1,wq _ d1 (Obj.isFreed_of_dict (Obj.data_mapDictKeys d3 _)),d2.mapDictKeys _,Obj.data_mapDictKeys d3 _,o4,λx hx=>?_,o6⟩;exact(aE knd).keeps (o5 x hx) d1 d3 (Heap.SameBut.update ..)
end
theorem yb8:typeOf (.builtin "dict.update")=pure (.type "method_descriptor"):=by
 show builtinType _=_;rw[builtinType_eq_fast]
 kernel_rfl
theorem qbU:kc table "dict.update"=some aq.«dict.update»:=entryFor_of_tree (by kernel_rfl)
theorem qce(u v:aa):kG "dict.update" ⟨[u,v],[]⟩:=by
 unfold kG;rw[jq (id:="dict.update") (n:="etadpu".toList) (o:="tcid".toList) (by kernel_rfl) PySem.F.owner_dict]
 kernel_rfl
section
variable {X:Cx} {pins:List (af×Obj)} {σ:L2.St} {H:Hp} {s:ag} {a b:af} {A:ay} {E:aa->ag->Prop}
theorem YcE{kvs more:List (List Key×V)}{Q:aa->ag->Prop}(I:Inv X pins σ H s)(ea:H a=some (.dT kvs))(eb:Rd H b (.dT more))(ji:a≠b)(hx:kvs=[]\/more=[])
  (hn:(more.map λx=>(aE (Qe X.prog X.w)).hash x.1).Nodup) (h:∀ s',Inv X pins σ (upd H a (.dT (if more=[] then kvs else more))) s'->Q .none s') :
  ai (ak X.prog X.w) A (call (.builtin "dict.update") [.ref a,.ref b]) Q E s:=by
 obtain⟨za,ha,xs,ra,da⟩:=Oe I.aU ea;obtain⟨zb,hb,ys,rb,db⟩:=DW I.aU eb;have hl:=Ex rb;have hk:∀(l:List (List Key×V)) (m:List (List Key×af×aa)),KT H l m->(m.map λx=>(aE (Qe X.prog X.w)).hash x.1)=l.map λx=>(aE (Qe X.prog X.w)).hash x.1:=by
  intro l m r
  induction r with
  |nil=>rfl
  |cons h t ih=>rw[ub,ub,ih,h.1]
 have e1:xs=[]\/ys=[]:=by
  rcases hx with rfl|rfl
  ·left;cases ra;rfl
  ·right;cases rb;rfl
 refine bo PySem.F.slot_dict_update da.typeIs qbU ?_ (qce _ _);unfold aq.«dict.update»;refine ae ?_;unfold aq.Dict.selfAndRest;refine ae (fA da.typeIs ?_);show ai _ _ (pure (a,[aa.ref b])) _ _ s;refine ah ?_;show ai _ _ (aq.Dict.updateFrom "dict.update" a (.ref b) [] .none) _ _ s;unfold aq.Dict.updateFrom;refine ae (cO db.typeIs ?_);rw[if_neg (by decide)];refine ae ?_;unfold aq.Dict.merge;refine ae ?_;unfold aq.Dict.readDirectly;refine ae (hZ db.typeIs isSubtype_dict_dict ?_);simp only[Bool.not_true,Vh,if_false];refine ae (iz db.typeIs PySem.F.slot_dict_iter.lookup (ah ?_));simp only[beq_self_eq_true,if_true];refine ae (ah ?_);refine Qb8 (knd:=Qe X.prog X.w) ji hb da db (by rw[<- hl];exact zb) (by rw[hk _ _ rb];exact hn) e1 λh' dd hs=>?_;show ai _ _ (aq.Dict.addKeywords a [] >>= _) _ _ _;refine ae (ah (ah ⟨_,rfl,h _ ?_⟩));obtain⟨q,es,ep,hq,h2,h3,h4,_,h5⟩:=dd;have kt:KT H (if more=[] then kvs else more) (if ys=[] then xs else ys):=by
  by_cases z:more=[]
  ·have z2:ys=[]:=by subst z;cases rb;rfl
   rw[if_pos z,if_pos z2];exact ra
  ·have z2:ys≠[]:=λz3=>z (by subst z3;cases rb;rfl);rw[if_neg z,if_neg z2];exact rb
 refine CK (t':=s.toks) I (by rw[ea];exact True.intro) hs ⟨q,hq⟩ ⟨by split <;> assumption,ha,_,kt.keeps λc ys ec=>?_,q,es,ep,hq,h2,h3,h4,h5⟩;rw[Zd (Oh ec ea (λz=>nomatch z))];exact ec
end
noncomputable def t6(X:Cx)(td ty:TE):TE:=λσ H Q=>td σ H λx H1=>∃ a,x=.ref a/\PB H1 a/\ty σ H1 λy H2=>∃ b kvs more,y=.ref b/\H2 a=some (.dT kvs)/\Rd H2 b (.dT more)/\a≠b/\(kvs=[]\/more=[]) /\
 (more.map λx=>(aE (Qe X.prog X.w)).hash x.1).Nodup/\Q .bG (upd H2 a (.dT (if more=[] then kvs else more)))
theorem zcW{X:Cx}{o e:Expr}{apos fO:Pos}{td ty:TE}(ho:PE X o td)(he:PE X e ty)(m:M1 X o "update" apos e fO):PE X (.Call (.Attribute o "update" apos) [e] [] fO) (t6 X td ty):=by
 intro pins s σ H Q I h;refine wpAny_Call_method m.base m.few m.line PySem.F.plainAttrs_dict PySem.F.slot_dict_update yb8 (bh (ho pins s σ H _ I h) λu s1 ⟨x,H1,I1,rx,a,ex,d,q1⟩=>?_);subst ex;obtain rfl:u=aa.ref a:=rx;obtain⟨t1,t2,_⟩:=Zdn I1 d;refine⟨t1,t2,?_⟩;rw[m.trees];refine Calls.callWith_builtin rfl (Calls.evalArgs_plain (Calls.spliced_cons (bh (he pins s1 σ H1 _ I1 q1) λiv s2 ⟨y,H2,I2,ry,b,kvs,more,ey,ea,eb,ji,hx,hn,q2⟩=>Calls.spliced_nil ?_)));subst ey;obtain rfl:iv=aa.ref b:=ry;exact YcE I2 ea eb ji hx hn λs3 I3=>⟨.bG,_,I3,rfl,q2⟩
end L3
end
section
namespace M3
open PySem
open Sem (wp)
noncomputable abbrev lX(t:Tok):List (Str×aa):=[("start",.int 1 t)]
theorem ybA(tup:Bool)(l:af)(xs:Array aa)(t:Tok) :
  lu (aq.«enumerate.__new__» ⟨[.type "enumerate",.ref l],lX t⟩) (λ_ R s=>(cJ s.heap tup l xs/\∃ o,s.heap.get? l=some o) /\
   ∀ h2,h2=(s.heap.push (dD tup l)).push {cls:=.type "enumerate",data:=.fields #[.none,.bool false,.ref s.heap.objs.size,dB 1,.none,.none]} ->
   R (.ok (.ret (.ref (s.heap.push (dD tup l)).objs.size))) {s with heap:=h2}) :=
 .of_wp λprog w A R s h=>by
  obtain⟨hp,g,d,tk,os⟩:=s;obtain⟨⟨x1,o,ho⟩,h⟩:=h;have Al:=sub_enumerate;have kr:Heap.get? (ag.heap ⟨hp,g,d,tk,os⟩) l=some o:=ho;have y1:cJ (ag.heap ⟨hp,g,d,tk,os⟩) tup l xs:=x1
  wp_walk using wpAny_loadPart' kr
  refine wpAny_stack_any λst=>ah ?_;split
  ·rename_i c _ _ _ _ _;cases(c==aa.type "enumerate")
   ·wp_walk using wpAny_loadPart' kr,Yn y1
    exact⟨_,rfl,h _ rfl⟩
   ·wp_walk using wpAny_loadPart' kr,Yn y1
    exact⟨_,rfl,h _ rfl⟩
  ·wp_walk using wpAny_loadPart' kr,Yn y1
   exact⟨_,rfl,h _ rfl⟩
theorem Qcw(a:aa)(t:Tok):jA "enumerate" ⟨[a],lX t⟩=pure ():=by kernel_rfl
theorem Ycq(a:aa)(t:Tok):ig "enumerate.__new__" ⟨[.type "enumerate",a],lX t⟩=pure ():=by kernel_rfl
theorem Ycn(o a:aa)(t:Tok):kG "object.__init__" ⟨[o,a],lX t⟩:=by
 unfold kG;rw[jq (id:="object.__init__") (n:="__tini__".toList) (o:="tcejbo".toList) (by kernel_rfl) F.owner_object]
 kernel_rfl
theorem Qcb{T newId:String}{self:aa}{rest:List aa}{t:Tok}(hl:gw (.type T) "__init__"=pure (some (.builtin "object.__init__")))
  (hm:Bind.madeBy (.type T)=pure (some newId)) (ji:(some newId != some "object.__new__")=true) :
  lu (aq.«object.__init__» ⟨self::rest,lX t⟩) (λ_ R s=>s.TypeIs self T/\R (.ok (.ret .none)) s):=by
 refine lu.of_wp λprog w A R s ⟨hT,hq⟩=>?_;cases rest <;> (repeat (any_goals (first|assumption|wp_step))) <;> exact⟨_,rfl,hq⟩
section
variable {prog:aj} {w:World} {A:ay} {E:aa->ag->Prop} {s:ag}
theorem ZcE{T newId:String}{Bn:aq}{v:aa}{t:Tok}{S:Spec}{Q:aa->ag->Prop}(ft:TypeCalled T newId "object.__init__")(ji:(some newId != some "object.__new__")=true)
  (hct:jA T ⟨[v],lX t⟩=pure ()) (Dl:ig newId ⟨[.type T,v],lX t⟩=pure ()) (rg:kc table newId=some Bn) (g:lu (Bn ⟨[.type T,v],lX t⟩) S)
  (h:S A.in1 (wants (λobj s₁=>s₁.TypeIs obj T/\Q obj s₁) E) s):ai (ak prog w) A (call (.type T) [v] (lX t)) Q E s:=by
 obtain⟨c,tl,hmro⟩:=ft.mro;have Nd:=ft.made;have Al:=ft.sub;refine fg (codeAny_of_tree ?_);show ai _ _ (callAny (.type T) _) _ _ _;refine ah ⟨jf.quiet_builtin _ (by decide +kernel),bR F.entry_type_call ?_⟩;rw[ay.under_plain (weight_type_call_type T [v] (lX t)) (units_type_call_type T [v] (lX t))];have h1:=ft.notType;have h2:=ft.canCreate
 repeat (any_goals (first|assumption|wp_step))
 refine cX (bX ft.plain rg (fI Dl (g prog w A.in1 _ s h))) λr s₁ hr=>?_;cases r with
 |error e=>exact hr
 |ok fl =>
  cases fl with
  |ret obj =>
   obtain⟨hT,hq⟩:=hr;have hli:=ft.init.lookup;have hbi:=ft.init.bind obj
   repeat (any_goals (first|assumption|wp_step))
   refine cX (bX ft.init.plain F.entry_object_init (ft.init.check _ _ _ _ _ _ _ _ hT (Ycn obj v t) (Qcb (t:=t) ft.init.lookup ft.made ji prog w A.in1 (wants (λr s₂=>r=.none/\Q obj s₂) E) s₁ ⟨hT,rfl,hq⟩))) λr₂ s₂ Hx=>?_;cases r₂ with
   |error e=>exact Hx
   |ok fl₂ =>
    cases fl₂ with
    |ret r =>
     obtain⟨rfl,hq⟩:=Hx
     repeat (any_goals (first|assumption|wp_step))
    |_=>exact Hx.elim
  |_=>exact hr.elim
theorem QbV{tup:Bool}{l:af}{xs:Array aa}{t:Tok}{Q:aa->ag->Prop}(x1:cJ s.heap tup l xs)
  (h:∀ h',IsEnum h' (s.heap.objs.size+1) s.heap.objs.size 1 .none->dF h' tup s.heap.objs.size l 0->(∀ b o,s.heap.get? b=some o->h'.get? b=some o)->Q (.ref (s.heap.objs.size+1)) {s with heap:=h'}) :
  ai (ak prog w) A (call (.type "enumerate") [.ref l] (lX t)) Q E s:=by
 have ho:∃ o,s.heap.get? l=some o:=by
  cases tup with
  |true=>obtain⟨o,e,_⟩:=(show s.heap.IsTuple l xs from x1);exact⟨o,e⟩
  |false=>obtain⟨o,e,_⟩:=(show s.heap.IsList l xs from x1);exact⟨o,e⟩
 refine ZcE F.called_enumerate (by decide) (Qcw _ _) (Ycq _ _) F.entry_enumerate_new (ybA tup l xs t) ⟨⟨x1,ho⟩,λh2 e2=>?_⟩;have n1:(s.heap.push (dD tup l)).objs.size=s.heap.objs.size+1:=Xh ..;have q2:IsEnum h2 (s.heap.push (dD tup l)).objs.size s.heap.objs.size 1 .none:=by rw[e2];exact Ub _ rfl
 have q1:h2.get? s.heap.objs.size=some (dD tup l):=by rw[e2];exact wa _ (Ub _ rfl)
 rw[n1] at q2;show _/\_;rw[n1];exact⟨⟨_,q2,rfl⟩,h _ q2 (.new q1) λb o e=>by rw[e2];exact wa _ (wa _ e)⟩
theorem Zb9{M:Model}{env:Env}{pos kp:Pos}{T:String}{e ve:Expr}{name:Str}{Q:aa->ag->Prop}(hs:au [e] env=[(false,eval e env)])
  (h:ai M A (eval e env) (λv s₁=>ai M A (eval ve env) (λu s₂=>ai M A (call (.type T) [v] [(name,u)]) Q E s₂) E s₁) E s) :
  ai M A (ke pos (.type T) [] (bj pos (au [e] env)) (dw pos (bK [⟨some name,ve,kp⟩] env))) Q E s:=by
 have hb:bj pos (au [e] env)=(false,eval e env)::[]:=by rw[hs];rfl
 unfold ke;rw[hb];refine ae (aO (PyProof.Rows.evalArgs_kwB rfl (Calls.spliced_cons (aW h (λv s₁ h₁=>Calls.spliced_nil (PyProof.Rows.kws_cons (aW h₁ (λu s₂ h₂=>PyProof.Rows.kws_nil (ae (bS ?_))) λ_ _ x=>x))) λ_ _ x=>x))));refine ae (ah ?_);exact ae (aW h₂ (λr s₂ hr=>ae (aO (wpAny_point (ah hr)))) λ_ _ x=>x)
end
end M3
namespace L3
open PySem PySem.Spec PyProof.Rows L2 M3
theorem qcw{prog:aj}{w:World}{A:ay}{it:af}{fp:List af}{n:Nat}{P:Nat->aa->Prop}{St:Nat->Heap->Prop}(D:fw prog w A it fp n P St) :
  fw prog w A it fp (n+1) (λi v=>P (i-1) v) (λi h=>0<i/\St (i-1) h) where
 live:=λi h st=>D.live _ h st.2
 frame:=λi h h' st k=>⟨st.1,D.frame _ h h' st.2 k⟩
 item:=λi s Q E hi st hQ=>D.item (i-1) s Q E (by have:=st.1;lia) st.2 λx h' tk px km sb=>hQ x h' tk px ⟨Nat.succ_pos _,by rw[show i+1-1=i-1+1 from by have:=st.1;lia];exact km⟩ sb
 done:=λs Q E st hE=>D.done s Q E st.2 hE
noncomputable def rN(K:PySem.W.Frag)(b:Bool)(a:af):It :=
 ⟨λi H=>∃ xs,gH K H b a xs/\i<xs.length,
 λi H x H'=>∃ T x1,x=.ref T/\H T=none/\H'=upd H T (.tup [.int ((i+1:Nat):Int),x1])/\(∀ xs,gH K H b a xs->xs[i]?=some x1),
 λi H=>∃ xs,gH K H b a xs/\i=xs.length⟩
theorem YbU{P:aj}{w:World}{K:PySem.W.Frag}{es:List Expr}{kt:Nat}{pt:Pos}{b:Bool}{a e it:af}(h1:a≠it)(h2:a≠e)(h3:e≠it) :
  Turn P w K (.Tuple es kt pt) (rN K b a) [e,it] e (λi h=>(∃ old,IsEnum h e it ((i+1:Nat):Int) old)/\dF h b it a i) where
 mem:=by simp
 obj:=λi h ⟨⟨old,e1⟩,e2⟩ c hc=>by
  simp only[ua,Ud,or_false] at hc
  rcases hc with rfl|rfl
  ·exact⟨_,e1,λv q=>nomatch q⟩
  ·exact e2.obj
 keep:=λi h h' ⟨⟨old,e1⟩,e2⟩ k=>⟨⟨old,k e (by simp) _ e1⟩,e2.keeps λo q=>k it (by simp) o q⟩
 item:=by
  intro X hP hw hK hc i pins s σ H E I hf ⟨⟨old,e1⟩,e2⟩ hg;subst hP hw hK;obtain⟨xs,q1,l1⟩:=hg;obtain⟨iE,v1,p1,_⟩:=yr I q1;have D1:=yO (prog:=X.prog) (w:=X.w) (qk (I.ok.hd hc)) b it a h1 iE.toArray;have HQ:=v1.length;refine wpAny_pyNext_enum_itemD (qcw D1) e1 ⟨Nat.succ_pos _,e2,p1⟩ (by simp;lia) h3 (by simp[h3,Ne.symm h2]) λx g tk px f1 f2 f3 f4 f5=>⟨_,rfl,?_⟩;refine wpAny_letOwnedTupleGo_enum (s:={s with heap:=g,toks:=tk+1}) f1 λg' f6 f7=>?_;obtain⟨x1,Af⟩:∃ x1,xs[i]?=some x1:=⟨xs[i],by simp[l1]⟩;obtain⟨u1,Hu,r1⟩:=v1.get Af;have ex:x=u1:=by have z:iE.toArray[i]?=some x:=px;simp[Hu] at z;exact z.symm
  subst ex;have elt:e≠s.heap.objs.size:=Xc (Xa e1);have I1:Inv X pins σ H {s with heap:=g',toks:=tk+1}:=qv (ch:=[e,it]) I hf λc o eg q=>by
   simp only[ua,Ud,or_false,not_or] at eg;exact(f7.2 c eg.1).trans (f5 c o eg.1 eg.2 q)
  have fT:=I.jP (b:=s.heap.objs.size) (xb _) (I.aU.fresh (xb _));have gT:g'.get? s.heap.objs.size=some {cls:=.type "tuple",data:=.seq #[.int ((i+1:Nat):Int) tk,x]}:=(f7.2 _ (Ne.symm elt)).trans f3;have I2:Inv X pins σ (upd H s.heap.objs.size (.tup [.int ((i+1:Nat):Int),x1])) {s with heap:=g',toks:=tk+1}:=JG I1 fT I.sz ⟨by show 2<=sizeLine;decide,[.int ((i+1:Nat):Int) tk,x],.cons ⟨_,rfl⟩ (.cons r1 .nil),⟨_,gT,rfl,_,rfl⟩⟩;refine⟨.ref s.heap.objs.size,_,I2,rfl,⟨_,x1,rfl,fT.1,rfl,λzs hz=>by rw[JO I hz q1];exact Af⟩,⟨⟨_,by have q:=f6;exact q⟩,f2.2.1.keeps λo q=>(f7.2 it (Ne.symm h3)).trans q⟩,λc eg=>?_⟩;have lt:c<s.heap.objs.size:=by
   simp only[ua,Ud,or_false] at eg
   rcases eg with rfl|rfl
   ·exact Xa e1
   ·exact let ⟨o,q,_⟩:=e2.obj;Xa q
  rw[Zd (Xc lt)];exact(hf c eg).1
 done:=by
  intro X hP hw hK hc i pins s σ H E I hf ⟨⟨old,e1⟩,e2⟩ hg;subst hP hw hK;obtain⟨xs,q1,hk⟩:=hg;obtain⟨iE,v1,p1,_⟩:=yr I q1;have D1:=yO (prog:=X.prog) (w:=X.w) (qk (I.ok.hd hc)) b it a h1 iE.toArray;have HQ:=v1.length;refine wpAny_pyNext_enum_endD D1 e1 (by rw[show iE.toArray.size=i from by simp;lia];exact⟨e2,p1⟩) λg k=>⟨rfl,?_⟩;exact qv (t':=s.toks) (ch:=[e,it]) I hf λc o eg q=>by
   simp only[ua,Ud,or_false,not_or] at eg;exact k c o eg.2 q
 self:=λ_ _ _ _ _ st h=>let ⟨_,e1⟩:=st.1;gL e1 h
noncomputable abbrev CB(a:Expr)(j:Nat)(p cp kp pos:Pos):Expr:=.Call (.Name "enumerate" p) [a] [⟨some "start",.Constant (.int 1) j cp,kp⟩] pos
noncomputable def Qdi(K:PySem.W.Frag)(te:TE):TI:=λσ H R=>te σ H λv H1=>∃ b a,v=.ref a/\(∃ xs,gH K H1 b a xs)/\R (rN K b a) H1
theorem Zck{X:Cx}{a:Expr}{te:TE}{j:Nat}{p cp kp pos:Pos}{es:List Expr}{kt:Nat}{pt:Pos}(hg:Gl X "enumerate")(hm:X.mg "enumerate"=none)(ha:PE X a te)(hs:au [a] X.env=[(false,eval a X.env)]) :
  PI X (.Tuple es kt pt) (CB a j p cp kp pos) (Qdi X.K te):=by
 intro pins s σ H R I h;refine aX (oW I hg hm boot_enumerate ?_);refine Zb9 hs (bh (ha pins s σ H _ I h) λu s1 ⟨v,H1,I1,r1,b,l,e,⟨xs,h1⟩,q⟩=>gv ?_);subst e;obtain rfl:u=aa.ref l:=r1;have I2:=I1.tok (s1.toks+1);obtain⟨iE,v1,p1,_⟩:=yr I2 h1;have l1:=p1.lt;refine QbV p1 λg f1 f2 f3=>?_;refine gL f1 ?_;exact⟨s1.heap.objs.size+1,[s1.heap.objs.size+1,s1.heap.objs.size],_,_,H1,rfl,I2.kept (t':=s1.toks+1) f3,YbU (b:=b) (a:=l) (Xc l1) (Xc (Us l1)) (Um (Uj _)),⟨⟨_,f1⟩,f2⟩,λc hc=>I2.jP (Nq hc) (I2.aU.fresh (Nq hc)),q⟩
end L3
end
section
namespace L3
open PySem PySem.Spec PyProof.Rows L2 M3
end L3
end
section
namespace MP
open PySem
inductive FV where
 |bG|bl (b:Bool)|int (i:Int)|str (s:Str)
 |tup (xs:List FV)|lst (xs:List FV)|obj (c:String) (ns:List String) (vs:List FV)|dj (ns:List Int)|tab (kvs:List ((Int×Int)×Int))|c9 (ks:List (Int×Int))
inductive MV where
 |f (x:FV)|ref (a:Nat)|tup (xs:List MV)|exc (c:String)
inductive Cell where
 |lst (xs:List MV)|obj (c:String) (fs:List (String×MV))|iH (ks:List Int)|tab (kvs:List ((Int×Int)×Int))|c9 (ks:List (Int×Int))|code|dead
noncomputable abbrev MH:=List Cell
noncomputable abbrev aF:=List (Option MV)
inductive R (α:Type) where
 |ok (x:α) (h:MH)|exc (c:String) (h:MH)|stuck
noncomputable abbrev RD{γ δ:Sort _}(_k:γ->δ)(τ:Type):Type:=τ
namespace R
noncomputable def bind{α β:Type}(r:R α)(k:α->MH->R β):RD k (R β):=match r with
 |.ok x h=>k x h
 |.exc c h=>.exc c h
 |.stuck=>.stuck
variable {α β:Type}
@[simp] theorem aJ{x:α}{h:MH}{k:α->MH->R β}:(R.ok x h).bind k=k x h:=id rfl
@[simp] theorem mN{c:String}{h:MH}{k:α->MH->R β}:(R.exc c h:R α).bind k=.exc c h:=id rfl
@[simp] theorem kF{k:α->MH->R β}:(R.stuck:R α).bind k=.stuck:=id rfl
end R
noncomputable def opt{α β:Type}(o:Option α)(k:α->R β):RD k (R β):=match o with
 |some x=>k x
 |none=>.stuck
@[simp] theorem qc{α β:Type}{x:α}{k:α->R β}:opt (some x) k=k x:=id rfl
@[simp] theorem vY{α β:Type}{k:α->R β}:opt none k=.stuck:=id rfl
noncomputable def Yx:MV->Bool
 |.f .bG=>true
 |_=>false
noncomputable def zj:List MV->Option (List FV)
 |[]=>some []
 |.f x::r=>(zj r).map (x::·)
 |_::_=>none
noncomputable def yh(xs:List MV):MV:=match zj xs with
 |some ys=>.f (.tup ys)
 |none=>.tup xs
noncomputable def Zw(fz:Bool)(xs:List MV)(h:MH):R MV:=match fz with
 |true=>opt (zj xs) λys=>.ok (.f (.lst ys)) h
 |false=>.ok (.ref h.length) (h++[.lst xs])
noncomputable def yc(h:MH)(a:Nat):Option (List MV):=match h[a]? with
 |some (.lst xs)=>some xs
 |_=>none
noncomputable def qb(h:MH):MV->Option (List MV)
 |.f (.tup xs)=>some (xs.map .f)
 |.f (.lst xs)=>some (xs.map .f)
 |.f (.dj ns)=>some (ns.map λi=>.f (.int i))
 |.tup xs=>some xs
 |.ref a=>yc h a
 |_=>none
noncomputable def listOf(h:MH):MV->Option (List MV)
 |.f (.lst xs)=>some (xs.map .f)
 |.ref a=>yc h a
 |_=>none
noncomputable def Yk:MV->Option (List MV)
 |.f (.tup xs)=>some (xs.map .f)
 |.tup xs=>some xs
 |_=>none
noncomputable def Qd:MV->Option Int
 |.f (.int i)=>some i
 |_=>none
noncomputable def YJ:MV->Option Bool
 |.f (.bl b)=>some b
 |_=>none
@[simp] noncomputable def Qg:List MV->Option (List Int)
 |[]=>some []
 |.f (.int i)::r=>(Qg r).map (i::·)
 |_::_=>none
@[simp] noncomputable def qu:List MV->Option (List Bool)
 |[]=>some []
 |.f (.bl i)::r=>(qu r).map (i::·)
 |_::_=>none
noncomputable def yn(h:MH):Nat->MV->Option FV
 |0,_=>none
 |_+1,.f x=>some x
 |n+1,.tup xs=>(xs.mapM (yn h n)).map .tup
 |n+1,.ref a=>(yc h a).bind λxs=>(xs.mapM (yn h n)).map .lst
 |_+1,.exc _=>none
noncomputable def yJ(h:MH)(v:MV):Option FV:=yn h 5 v
noncomputable def Qn(h:MH):Nat->MV->List Nat
 |0,_=>[]
 |_+1,.f _=>[]
 |n+1,.tup xs=>xs.flatMap (Qn h n)
 |n+1,.ref a=>a::((yc h a).getD []).flatMap (Qn h n)
 |_+1,.exc _=>[]
noncomputable def kill(as:List Nat)(h:MH):MH:=h.mapIdx λi c=>if i∈as then .dead else c
noncomputable def QL(v:MV)(h:MH):R MV:=opt (yJ h v) λx=>.ok (.f x) (kill (Qn h 5 v) h)
noncomputable def rR(x:Str):Bool:=x.cps.all (· < 0x110000)
noncomputable def cb:Nat->FV->Bool
 |_+1,.bG=>true
 |_+1,.bl _=>true
 |_+1,.int _=>true
 |_+1,.str s=>rR s
 |n+1,.tup xs=>xs.all (cb n)
 |n+1,.lst xs=>xs.all (cb n)
 |_,_=>false
mutual
noncomputable def fL:FV->FV->Bool
 |.bG,.bG=>true
 |.bl a,.bl b=>a==b
 |.bl a,.int j=>(if a then 1 else 0)==j
 |.int i,.bl b=>i==(if b then 1 else 0)
 |.int a,.int b=>a==b
 |.str a,.str b=>a==b
 |.tup xs,.tup ys=>kI xs ys
 |.lst xs,.lst ys=>kI xs ys
 |_,_=>false
noncomputable def kI:List FV->List FV->Bool
 |[],[]=>true
 |x::xs,y::ys=>fL x y&&kI xs ys
 |_,_=>false
end
noncomputable def jX(x y:FV):Option Bool:=if cb 8 x=true/\cb 8 y=true then some (fL x y) else none
noncomputable def pO(x:FV)(ys:List FV):Option Bool:=if cb 8 x=true/\ys.all (cb 8)=true then some (ys.any λy=>fL y x) else none
inductive BO where
 |add|sub|mul|fdiv|mod|pow
inductive CO where
 |lt|le|gt|ge|eq|ne|iZ|rZ
noncomputable def big:Nat:=2^4096
noncomputable def zK(i j:Int):Prop:=i.natAbs<2^64\/j.natAbs<2^64\/(i.natAbs<big/\j.natAbs<big)
noncomputable def rV(i j:Int):Prop:=0<j/\(j<1073741824\/j.natAbs<big)
open Classical in
noncomputable def qM:BO->Int->Int->Option Int
 |.add,i,j=>some (i+j)
 |.sub,i,j=>some (i-j)
 |.mul,i,j=>if zK i j then some (i*j) else none
 |.fdiv,i,j=>if rV i j then some (i/j) else none
 |.mod,i,j=>if 0<j then some (i%j) else none
 |.pow,i,j=>if 0<=j/\j<=1000000/\i.natAbs<2^64 then some (i^j.toNat) else none
noncomputable def aG:Nat:=4194304
open Classical in
noncomputable def yf(fz:Bool)(op:BO)(x y:MV)(h:MH):R MV:=match Qd x,Qd y with
 |some i,some j=>opt (qM op i j) λk=>.ok (.f (.int k)) h
 |none,some j=>match op with
  |.mul=>opt (listOf h x) λxs=>if -(2^63)<=j/\j<2^63/\xs.length*j.toNat<=aG then Zw fz (Vc j.toNat xs).flatten h else .stuck
  |_=>.stuck
 |none,none=>match op with
  |.add=>match Yk x,Yk y with
   |some xs,some ys=>if xs≠[]/\xs.length+ys.length<=aG then .ok (yh (xs++ys)) h else .stuck
   |_,_=>opt (listOf h x) λxs=>opt (listOf h y) λys=>if xs.length+ys.length<=aG then Zw fz (xs++ys) h else .stuck
  |_=>.stuck
 |_,_=>.stuck
noncomputable def rL:CO->Int->Int->Option Bool
 |.lt,i,j=>some (decide (i<j))
 |.le,i,j=>some (decide (i<=j))
 |.gt,i,j=>some (decide (j<i))
 |.ge,i,j=>some (decide (j<=i))
 |_,_,_=>none
noncomputable def yI(op:CO)(x y:MV)(h:MH):Option Bool:=match op with
 |.eq=>(yJ h x).bind λa=>(yJ h y).bind λb=>jX a b
 |.ne=>(yJ h x).bind λa=>(yJ h y).bind λb=>(jX a b).map (!·)
 |.iZ=>(yJ h x).bind λa=>(qb h y).bind λys=>(ys.mapM (yJ h)).bind λbs=>pO a bs
 |.rZ=>(yJ h x).bind λa=>(qb h y).bind λys=>(ys.mapM (yJ h)).bind λbs=>(pO a bs).map (!·)
 |op=>(Qd x).bind λi=>(Qd y).bind λj=>rL op i j
noncomputable def jM(n:Nat)(i:Int):Option Nat:=if 0<=i then(if i<n then some i.toNat else none) else if -(n:Int)<=i then some (i+n).toNat else none
noncomputable def cK(xs:List MV)(i:Int):Option MV:=(jM xs.length i).bind λj=>xs[j]?
noncomputable def lD(n d:Nat):Option Int->Nat
 |none=>d
 |some i=>if i<0 then(i+(n:Int)).toNat else min i.toNat n
noncomputable def ZY(xs:List MV)(lo hi:Option Int):List MV:=(xs.drop (lD xs.length 0 lo)).take (lD xs.length xs.length hi-lD xs.length 0 lo)
noncomputable def yW(fz:Bool)(x:MV)(lo hi:Option Int)(h:MH):R MV:=match Yk x with
 |some xs=>.ok (yh (ZY xs lo hi)) h
 |none=>opt (qb h x) λxs=>Zw fz (ZY xs lo hi) h
noncomputable def mY(n:String)(v:MV):List (String×MV)->List (String×MV)
 |[]=>[(n,v)]
 |(k,x)::r=>if k=n then(k,v)::r else(k,x)::mY n v r
inductive Tg where
 |nm (i:Nat)|tp (ts:List Tg)
inductive ME where
 |var (i:Nat)|cI (i:Int)|cB (b:Bool)|cN|cS (s:Str)
 |glob (x:String)
 |bin (fz:Bool) (op:BO) (a b:ME)|neg (a:ME)
 |cmp (op:CO) (a b:ME)|chain (op jL:CO) (a b c:ME)
 |xV (a:ME)|nJ (a:ME)
 |and (es:List ME)|or (es:List ME)|not (a:ME)|ite (c a b:ME)
 |tup (es:List ME)|lst (fz:Bool) (es:List ME)
 |sub (a i:ME)|slice (fz:Bool) (a:ME) (lo hi:Option ME)
 |fld (a:ME) (n:String)
 |call (f:String) (es:List ME)|make (fz:Bool) (c:String) (es:List ME)|kA (o:ME) (m:String) (es:List ME)
 |blt (fz:Bool) (n:String) (es:List ME)
 |kC (a:ME) (t:String)
 |iy (a b:ME)|jZ (a:ME)|kS (a b:ME)
 |nN|CV (a:ME)|nL (o e:ME)|nM (a d:ME)
 |nE (fz:Bool) (a:ME)
 |lm (m:String) (o:ME) (es:List ME)
 |comp (fz:Bool) (elt:ME) (tg:Tg) (it:String) (src:List ME) (cond:Option ME) (bZ:Nat) (js:List Nat)
 |eZ (e:ME)
inductive MS where
 |set (tg:Tg) (e:ME)
 |eG (o i e:ME)
 |gy (o:ME) (n:String) (e:ME)
 |nG (o k:ME)|par (i j:Nat) (a b:ME)
 |expr (e:ME)
 |ret (e:ME)
 |ite (c:ME) (a b:List MS)
 |for_ (tg:Tg) (it:String) (src:List ME) (body:List MS)
 |while_ (c:ME) (body:List MS)
 |pass|ij
 |nV (i:Nat)
structure a7 where
 np:Nat
 ns:Nat
 body:List MS
structure Prog where
 defs:String->Option a7
 dE:String->Option FV
 meths:String->String->Option String
 subs:String->String->Option Bool
 iw:String->String->Bool
 kD:String->Bool
 word:String->String->Option Str
 words:String->Bool
 kN:String->String->Option Bool:=λ_ _=>none
 lF:String->Bool:=λ_=>false
 xt:Bool:=false
 sA:String->List Int->Bool:=λ_ _=>false
 mB:String->Bool:=λ_=>false
 turns:Nat
@[simp] noncomputable def rH(n:String):List String->List FV->Option FV
 |m::ns,v::vs=>if n=m then some v else rH n ns vs
 |_,_=>none
noncomputable def lg(ok:String->String->Bool)(n:String)(v:MV)(h:MH):Option MV:=match v with
 |.f (.obj c ns vs)=>if ok c n=true then(rH n ns vs).map .f else none
 |.ref a=>match h[a]? with
  |some (.obj c fs)=>if ok c n=true then fs.lookup n else none
  |_=>none
 |_=>none
noncomputable def lC(m:String)(v:MV)(h:MH):Option String:=match v with
 |.f (.obj c ns _)=>if m∈ns then none else some c
 |.ref a=>match h[a]? with
  |some (.obj c fs)=>if m∈fs.map Wt then none else some c
  |_=>none
 |_=>none
noncomputable def excOf:MV->Option String
 |.exc c=>some c
 |_=>none
@[simp] theorem qds(c:String):excOf (.exc c)=some c:=rfl
noncomputable def qQ(sub:String->String->Option Bool)(h:MH)(v:MV)(t:String):Option Bool:=match v with
 |.f .bG=>some false
 |.f (.bl _)=>some (decide (t="bool")||decide (t="int"))
 |.f (.int _)=>some (decide (t="int"))
 |.f (.str _)=>some (decide (t="str"))
 |.f (.tup _)=>some (decide (t="tuple"))
 |.f (.tab _)=>none
 |.f (.c9 _)=>none
 |.f (.lst _)=>some (decide (t="list"))
 |.f (.obj c _ _)=>sub c t
 |.f (.dj _)=>none
 |.tup _=>some (decide (t="tuple"))
 |.ref a=>match h[a]? with
  |some (.lst _)=>some (decide (t="list"))
  |some (.obj c _)=>sub c t
  |_=>none
 |.exc _=>none
noncomputable def w8(x:MV)(h:MH):Option (List MV):=match x with
 |.ref a=>yc h a
 |_=>none
noncomputable def Lm(xs:List MV)(i:Int)(y:MV):List MV:=let k:=lD xs.length 0 (some i);xs.take k++y::xs.drop k
noncomputable def ye(h:MH)(a:Nat)(xs:List MV):MH:=h.set a (.lst xs)
open Classical in
noncomputable def kU(m:String)(o:MV)(as:List MV)(h:MH):R MV:=match o with
 |.ref a=>opt (yc h a) λxs=>match m,as with
  |"append",[y]=>if xs.length<aG then .ok (.f .bG) (ye h a (xs++[y])) else .stuck
  |"extend",[z]=>opt (listOf h z) λys=>if xs.length+ys.length<=aG then .ok (.f .bG) (ye h a (xs++ys)) else .stuck
  |"insert",[u,y]=>opt (Qd u) λi=>if xs.length<aG/\-(2^63)<=i/\i<2^63 then .ok (.f .bG) (ye h a (Lm xs i y)) else .stuck
  |"reverse",[]=>.ok (.f .bG) (ye h a xs.reverse)
  |"clear",[]=>.ok (.f .bG) (ye h a [])
  |"pop",[]=>opt (xs[xs.length-1]?) λy=>.ok y (ye h a (xs.take (xs.length-1)))
  |"pop",[u]=>opt (Qd u) λi=>opt (jM xs.length i) λk=>opt (xs[k]?) λy=>if -(2^63)<=i/\i<2^63 then .ok y (ye h a (xs.take k++xs.drop (k+1))) else .stuck
  |_,_=>.stuck
 |_=>.stuck
noncomputable def nr:Int->List Int->Int
 |m,[]=>m
 |m,x::r=>nr (if x<m then x else m) r
noncomputable def mZ:Int->List Int->Int
 |m,[]=>m
 |m,x::r=>mZ (if x>m then x else m) r
noncomputable def qm(fz:Bool)(n:String)(as:List MV)(h:MH):R MV:=match n,as with
 |"len",[v]=>opt (qb h v) λxs=>.ok (.f (.int xs.length)) h
 |"sum",[v]=>opt ((qb h v).bind Qg) λxs=>.ok (.f (.int xs.sum)) h
 |"all",[v]=>opt ((qb h v).bind qu) λxs=>.ok (.f (.bl (xs.all id))) h
 |"min",[v]=>opt ((qb h v).bind Qg) λxs=>match xs with | []=>.stuck|x::r=>.ok (.f (.int (nr x r))) h
 |"max",[v]=>opt ((qb h v).bind Qg) λxs=>match xs with | []=>.stuck|x::r=>.ok (.f (.int (mZ x r))) h
 |"min",[u,v]=>opt (Qd u) λi=>opt (Qd v) λj=>.ok (.f (.int (if j<i then j else i))) h
 |"max",[u,v]=>opt (Qd u) λi=>opt (Qd v) λj=>.ok (.f (.int (if j>i then j else i))) h
 |"abs",[v]=>opt (Qd v) λi=>.ok (.f (.int (if i<0 then -i else i))) h
 |"int",[v]=>match YJ v with
  |some b=>.ok (.f (.int (if b then 1 else 0))) h
  |none=>opt (Qd v) λi=>.ok (.f (.int i)) h
 |"tuple",[v]=>opt (qb h v) λxs=>.ok (yh xs) h
 |"list",[v]=>opt (qb h v) λxs=>Zw fz xs h
 |"divmod",[u,v]=>opt (Qd u) λi=>opt (Qd v) λj=>if 0<j/\j<1073741824 then .ok (.f (.tup [.int (i/j),.int (i%j)])) h else .stuck
 |_,_=>.stuck
noncomputable def mr(ns:List Int):List Int:=ns.mergeSort (λa b=>decide (a<=b))
theorem O0:∀{a b:List Int},a.Perm b->a.Pairwise (·<=·)->b.Pairwise (·<=·)->a=b
 |[],b,p,_,_=>(List.Perm.nil_eq p)
 |x::a,b,p,h,k=>by
  cases b with
  |nil=>exact absurd p.symm.nil_eq (by simp)
  |cons y b =>
   rw[List.pairwise_cons] at h k;have e:x=y:=by
    have h1:x∈y::b:=p.mem_iff.mp (by simp);have h2:y∈x::a:=p.mem_iff.mpr (by simp)
    rcases ua.mp h1 with e|m1
    ·exact e
    ·rcases ua.mp h2 with e|m2
     ·exact e.symm
     ·have:=h.1 y m2;have:=k.1 x m1;lia
   subst e;rw[O0 (List.Perm.cons_inv p) h.2 k.2]
theorem GZ(ns:List Int):(mr ns).Perm ns:=List.mergeSort_perm _ _
theorem NW(ns:List Int):(mr ns).Pairwise (·<=·):=by
 have:=List.pairwise_mergeSort (le:=λa b:Int=>decide (a<=b)) (by intro a b c h k;simp at *;lia) (by intro a b;simp;lia) ns;exact this.imp (by intro a b h;simpa using h)
theorem Qcl{ns mw:List Int}(p:mw.Perm ns)(h:mw.Pairwise (·<=·)):mw=mr ns:=O0 (p.trans (GZ ns).symm) h (NW ns)
noncomputable def YC(ks:List Int)(k:Int):List Int:=if k∈ks then ks else ks++[k]
noncomputable def oS(h:MH)(v:MV):Option (List Int):=match v with
 |.ref a=>match h[a]? with
  |some (.iH ks)=>some ks
  |_=>none
 |_=>none
noncomputable def iy(n:Nat)(x y:MV)(h:MH):R MV:=opt (Qd x) λi=>opt (Qd y) λj=>opt (oS h (.ref n)) λks=>if ks=[] then .ok (.ref n) (h.set n (.iH (YC (YC [] i) j))) else .stuck
noncomputable def jZ(v:MV)(h:MH):R MV:=opt (oS h v) λks=>if ks.length<64 then .ok (.ref h.length) (h++[.lst ((mr ks).map λi=>.f (.int i))]) else .stuck
noncomputable def NC(h:MH)(v:MV):Option (List ((Int×Int)×Int)):=match v with
 |.ref a=>match h[a]? with
  |some (.tab kvs)=>some kvs
  |_=>none
 |.f (.tab kvs)=>some kvs
 |_=>none
noncomputable def BF(v:MV):Option (Int×Int):=match Yk v with
 |some [.f (.int a),.f (.int b)]=>some (a,b)
 |_=>none
noncomputable def ZH(ks:List (Int×Int))(k:Int×Int):List (Int×Int):=if k∈ks then ks else ks++[k]
noncomputable def sP(v:MV):Option (Int×Int):=match Yk v with
 |some [p,.f (.bl true)]=>BF p
 |_=>none
noncomputable def BX(x:MV)(h:MH):R MV:=match x with
 |.ref i=>opt (yc h i) λxs=>opt (xs.mapM sP) λks=>if xs.length<1000000 then .ok (.f (.c9 (ks.foldl ZH []))) h else .stuck
 |_=>.stuck
noncomputable def Q7(h:MH)(v:MV):Option (List (Int×Int)):=match v with
 |.ref a=>match h[a]? with
  |some (.c9 ks)=>some ks
  |_=>none
 |.f (.c9 ks)=>some ks
 |_=>none
noncomputable def Q5(k:Int×Int):Bool:=decide ((0<=k.1/\k.1<64)/\0<=k.2/\k.2<64)
noncomputable def BZ(x y:MV)(h:MH):R MV:=match x,y with
 |.ref i,.f (.c9 iD)=>opt (Q7 h (.ref i)) λks=>if(ks=[]\/iD=[])/\iD.all Q5=true/\iD.Nodup then .ok (.f .bG) (h.set i (.c9 (if iD=[] then ks else iD))) else .stuck
 |_,_=>.stuck
noncomputable def rT(x y:MV)(h:MH):R MV:=opt (BF x) λk=>opt (Q7 h y) λks=>.ok (.f (.bl (decide (k∉ks)))) h
noncomputable def Zo(w:Int)(n:Int)(r:List Int):Int:=r.foldl (λb k=>if(if w-k<0 then -(w-k) else w-k)<(if w-b<0 then -(w-b) else w-b) then k else b) n
noncomputable def mV(x y:MV)(h:MH):R MV:=opt (Qd x) λw=>opt (qb h y) λvs=>opt (Qg vs) λns=>match ns with
 |n::r=>match (h[0]?:Option Cell) with
  |some .code=>.ok (.f (.int (Zo w n r))) h
  |_=>.stuck
 |[]=>.stuck
mutual
@[simp] noncomputable def yK:Tg->MV->aF->Option aF
 |.nm i,v,σ=>some (σ.set i (some v))
 |.tp ts,v,σ=>(Yk v).bind λvs=>YH ts vs σ
@[simp] noncomputable def YH:List Tg->List MV->aF->Option aF
 |[],[],σ=>some σ
 |t::ts,v::vs,σ=>(yK t v σ).bind λσ'=>YH ts vs σ'
 |_,_,_=>none
end
noncomputable abbrev qD:=List (Nat×List MV)
noncomputable def aV(g:qD)(h:MH):Prop:=∀ p∈g,yc h p.1=some p.2
noncomputable def Zc(h:MH):MV->qD
 |.ref a=>match yc h a with
  |some xs=>[(a,xs)]
  |none=>[]
 |_=>[]
noncomputable def GB(lo hi st:Int):Nat:=if lo<hi then((hi-lo-1)/st+1).toNat else 0
noncomputable def eU(it:String)(as:List MV)(h:MH):Option (List MV×qD):=match it,as with
 |"seq",[v]=>(qb h v).map λxs=>(xs,Zc h v)
 |"range",[u]=>(Qd u).bind λn=>if -(2^62)<=n/\n<2^62 then some ((ud n.toNat).map λ(k:Nat)=>.f (.int k),[]) else none
 |"range",[u,v]=>(Qd u).bind λa=>(Qd v).bind λb=>if -(2^62)<=a/\a<2^62/\-(2^62)<=b/\b<2^62 then some ((ud (b-a).toNat).map λ(k:Nat)=>.f (.int (a+k)),[]) else none
 |"range",[u,v,w]=>(Qd u).bind λa=>(Qd v).bind λb=>(Qd w).bind λs=>if -(2^30)<=a/\a<2^30/\-(2^30)<=b/\b<2^30/\0<s/\s<2^30 then some ((ud (GB a b s)).map λ(k:Nat)=>.f (.int (a+k*s)),[]) else none
 |"zip",[u,v]=>(qb h u).bind λxs=>(qb h v).map λys=>((xs.zip ys).map λp=>yh [p.1,p.2],Zc h u++Zc h v)
 |"keys",[.f (.tab kvs)]=>some (kvs.map λkv=>.f (.tup [.int kv.1.1,.int kv.1.2]),[])
 |"items",[.f (.tab kvs)]=>some (kvs.map λkv=>.f (.tup [.tup [.int kv.1.1,.int kv.1.2],.int kv.2]),[])
 |"enumerate",[v]=>(qb h v).map λxs=>(xs.mapIdx λk x=>yh [.f (.int k),x],Zc h v)
 |"enum1",[v]=>(qb h v).map λxs=>(xs.mapIdx λk x=>yh [.f (.int ((k+1:Nat):Int)),x],Zc h v)
 |_,_=>none
inductive RS where
 |next (σ:aF) (h:MH)|ret (v:MV) (h:MH)|brk (σ:aF) (h:MH)|cnt (σ:aF) (h:MH)|exc (c:String) (h:MH)|stuck
namespace RS
noncomputable def bind(r:RS)(k:aF->MH->RS):RD k RS:=match r with
 |.next σ h=>k σ h
 |.ret v h=>.ret v h
 |.brk σ h=>.brk σ h
 |.cnt σ h=>.cnt σ h
 |.exc c h=>.exc c h
 |.stuck=>.stuck
@[simp] theorem lM{σ:aF}{h:MH}{k:aF->MH->RS}:(RS.next σ h).bind k=k σ h:=id rfl
@[simp] theorem Bj{v:MV}{h:MH}{k:aF->MH->RS}:(RS.ret v h).bind k=.ret v h:=id rfl
@[simp] theorem Bl{σ:aF}{h:MH}{k:aF->MH->RS}:(RS.brk σ h).bind k=.brk σ h:=id rfl
@[simp] theorem Bk{σ:aF}{h:MH}{k:aF->MH->RS}:(RS.cnt σ h).bind k=.cnt σ h:=id rfl
@[simp] theorem mN{c:String}{h:MH}{k:aF->MH->RS}:(RS.exc c h).bind k=.exc c h:=id rfl
@[simp] theorem kF{k:aF->MH->RS}:(RS.stuck).bind k=.stuck:=id rfl
noncomputable def turn(r:RS)(k:aF->MH->RS):RD k RS:=match r with
 |.next σ h=>k σ h
 |.cnt σ h=>k σ h
 |.brk σ h=>.next σ h
 |.ret v h=>.ret v h
 |.exc c h=>.exc c h
 |.stuck=>.stuck
@[simp] theorem jD{σ:aF}{h:MH}{k:aF->MH->RS}:(RS.next σ h).turn k=k σ h:=id rfl
@[simp] theorem tL{σ:aF}{h:MH}{k:aF->MH->RS}:(RS.cnt σ h).turn k=k σ h:=id rfl
@[simp] theorem tM{σ:aF}{h:MH}{k:aF->MH->RS}:(RS.brk σ h).turn k=.next σ h:=id rfl
@[simp] theorem tJ{v:MV}{h:MH}{k:aF->MH->RS}:(RS.ret v h).turn k=.ret v h:=id rfl
@[simp] theorem tK{c:String}{h:MH}{k:aF->MH->RS}:(RS.exc c h).turn k=.exc c h:=id rfl
@[simp] theorem qda{k:aF->MH->RS}:(RS.stuck).turn k=.stuck:=id rfl
end RS
noncomputable def RS.kE(k:String->MH->RS)(r:RS):RD k RS:=match r with
 |.exc c h=>k c h
 |r=>r
noncomputable def R.st{α:Type}(r:R α)(k:α->MH->RS):RD k RS:=match r with
 |.ok x h=>k x h
 |.exc c h=>.exc c h
 |.stuck=>.stuck
@[simp] theorem R.st_ok{α:Type}{x:α}{h:MH}{k:α->MH->RS}:(R.ok x h).st k=k x h:=id rfl
@[simp] theorem R.st_exc{α:Type}{c:String}{h:MH}{k:α->MH->RS}:(R.exc c h:R α).st k=.exc c h:=id rfl
@[simp] theorem R.st_stuck{α:Type}{k:α->MH->RS}:(R.stuck:R α).st k=.stuck:=id rfl
noncomputable def QE{α:Type}(o:Option α)(k:α->RS):RD k RS:=match o with
 |some x=>k x
 |none=>.stuck
@[simp] theorem G8{α:Type}{x:α}{k:α->RS}:QE (some x) k=k x:=id rfl
@[simp] theorem qdx{α:Type}{k:α->RS}:QE none k=.stuck:=id rfl
open Classical in
noncomputable def qL(g:qD)(bd:MV->aF->MH->RS):List MV->aF->MH->RS
 |[],σ,h=>if aV g h then .next σ h else .stuck
 |x::r,σ,h=>if aV g h then(bd x σ h).turn λσ1 h1=>qL g bd r σ1 h1 else .stuck
open Classical in
noncomputable def Zi(g:qD)(bd:MV->aF->MH->R (Option MV×aF)):List MV->List MV->aF->MH->R (List MV)
 |[],acc,σ,h=>if aV g h then .ok acc h else .stuck
 |x::r,acc,σ,h=>if aV g h/\acc.length<aG then(bd x σ h).bind λp h1=>Zi g bd r (match p.1 with|some y=>acc++[y]|none=>acc) p.2 h1 else .stuck
noncomputable def stM(bZ:Nat)(js:List Nat)(σ:aF):aF:=Vc bZ none++js.map λj=>(σ[j]?).join
noncomputable def zI(c:aF->MH->R MV)(bd:aF->MH->RS):Nat->aF->MH->RS
 |0,_,_=>.stuck
 |n+1,σ,h=>(c σ h).st λv h1=>QE (YJ v) λb=>if b=true then(bd σ h1).turn λσ2 h2=>zI c bd n σ2 h2 else .next σ h1
noncomputable def calm{α:Type}(r:R α):R α:=match r with
 |.ok x h=>.ok x h
 |_=>.stuck
@[simp] theorem Dx{α:Type}{x:α}{h:MH}:calm (R.ok x h)=.ok x h:=id rfl
noncomputable def Zm(tg:Tg)(ex:aF->MH->RS):MV->aF->MH->RS:=λx σ h=>QE (yK tg x σ) λσ2=>ex σ2 h
noncomputable def zk(tg:Tg)(tc:aF->MH->R Bool)(te:aF->MH->R MV):MV->aF->MH->R (Option MV×aF):=λx σ h =>
 opt (yK tg x σ) λσ2=>(calm (tc σ2 h)).bind λk h2=>if k=true then(calm (te σ2 h2)).bind λy h3=>.ok (some y,σ2) h3 else .ok (none,σ2) h2
noncomputable def je:Cell->Prop
 |.lst xs=>∃ ys:List FV,xs=ys.map MV.f
 |.obj _ fs=>∃ ys:List (String×FV),fs=ys.map λp=>(p.1,MV.f p.2)
 |.iH _=>True
 |.tab _=>True
 |.c9 _=>True
 |.code=>True
 |.dead=>True
noncomputable def bJ(h h':MH):Prop:=h.length<=h'.length/\∀ i c,i<h.length->h'[i]?=some c->h[i]?=some c\/je c
open Classical in
noncomputable def zg(h:MH)(v:MV)(h':MH):R MV:=if bJ h h' then(match v with
 |.f x=>.ok (.f x) (h'.take h.length)
 |.ref a=>if h.length<=a then(match yc h' a with
   |some xs=>match zj xs with
    |some _=>.ok (.ref h.length) (h'.take h.length++[.lst xs])
    |none=>.ok v h'
   |none=>.ok v h') else .ok v h'
 |v=>.ok v h') else .ok v h'
open Classical in
noncomputable def Y8(h:MH)(c:String)(h':MH):R MV:=if bJ h h' then .exc c (h'.take h.length) else .exc c h'
section
variable (P:Prog) (W:String->List MV->MH->R MV)
open Classical in
noncomputable def YF(fz:Bool)(c:String)(as:List MV)(h:MH):R MV :=
 (match P.meths c "__init__" with
  |some f=>W f (.ref h.length::as) (h++[Cell.obj c []])
  |none=>match as with | []=>R.ok (MV.f FV.bG) (h++[Cell.obj c []])|_=>.stuck).bind λv (h1:MH)=>if Yx v=false then .stuck else
 match fz with
 |true=>match h1[h.length]? with
  |some (Cell.obj c' fs)=>opt (zj (fs.map Vn)) λvs=>if bJ h h1 then R.ok (MV.f (FV.obj c' (fs.map Wt) vs)) (h1.take h.length) else .stuck
  |_=>.stuck
 |false=>R.ok (MV.ref h.length) h1
mutual
@[simp] noncomputable def qa:ME->aF->MH->R MV
 |.var i,σ,h=>opt ((σ[i]?).join) λv=>.ok v h
 |.cI i,_,h=>.ok (.f (.int i)) h
 |.cB b,_,h=>.ok (.f (.bl b)) h
 |.cN,_,h=>.ok (.f .bG) h
 |.cS s,_,h=>.ok (.f (.str s)) h
 |.glob x,_,h=>opt (P.dE x) λv=>.ok (.f v) h
 |.bin fz op a b,σ,h=>(qa a σ h).bind λx h1=>(qa b σ h1).bind λy h2=>yf fz op x y h2
 |.neg a,σ,h=>(qa a σ h).bind λx h1=>opt (Qd x) λi=>.ok (.f (.int (-i))) h1
 |.cmp op a b,σ,h=>(qa a σ h).bind λx h1=>(qa b σ h1).bind λy h2=>opt (yI op x y h2) λb=>.ok (.f (.bl b)) h2
 |.chain op jL a b c,σ,h=>(qa a σ h).bind λx h1=>(qa b σ h1).bind λy h2=>opt (yI op x y h2) λk =>
   if k=true then(qa c σ h2).bind λz h3=>opt (yI jL y z h3) λk=>.ok (.f (.bl k)) h3 else .ok (.f (.bl false)) h2
 |.xV a,σ,h=>(qa a σ h).bind λx h1=>.ok (.f (.bl (Yx x))) h1
 |.nJ a,σ,h=>(qa a σ h).bind λx h1=>.ok (.f (.bl (!Yx x))) h1
 |.and es,σ,h=>Qt es σ h
 |.or es,σ,h=>qE es σ h
 |.not a,σ,h=>(qa a σ h).bind λx h1=>opt (YJ x) λk=>.ok (.f (.bl (!k))) h1
 |.ite c a b,σ,h=>(qa c σ h).bind λx h1=>opt (YJ x) λk=>if k=true then qa a σ h1 else qa b σ h1
 |.tup es,σ,h=>(yg es σ h).bind λxs h1=>.ok (yh xs) h1
 |.lst fz es,σ,h=>(yg es σ h).bind λxs h1=>Zw fz xs h1
 |.sub a i,σ,h=>(qa a σ h).bind λx h1=>(qa i σ h1).bind λy h2=>opt (qb h2 x) λxs=>opt (Qd y) λk=>opt (cK xs k) λv=>.ok v h2
 |.slice fz a lo hi,σ,h=>(qa a σ h).bind λx h1=>(tm lo σ h1).bind λl h2=>(tm hi σ h2).bind λu h3=>yW fz x l u h3
 |.fld a n,σ,h=>(qa a σ h).bind λx h1=>opt (lg P.iw n x h1) λv=>.ok v h1
 |.call f es,σ,h=>(yg es σ h).bind λxs h1=>W f xs h1
 |.make fz c es,σ,h=>(yg es σ h).bind λxs h1=>YF P W fz c xs h1
 |.kA o m es,σ,h=>(qa o σ h).bind λx h1=>opt (lC m x h1) λc=>opt (P.meths c m) λf=>(yg es σ h1).bind λxs h2=>W f (x::xs) h2
 |.blt fz n es,σ,h=>(yg es σ h).bind λxs h1=>qm fz n xs h1
 |.kC a t,σ,h=>(qa a σ h).bind λx h1=>opt (qQ P.subs h1 x t) λk=>.ok (.f (.bl k)) h1
 |.nE fz a,σ,h=>(qa a σ h).bind λx h1=>opt (listOf h1 x) λxs=>Zw fz xs.reverse h1
 |.iy a b,σ,h=>(qa a σ (h++[.iH []])).bind λx h1=>(qa b σ h1).bind λy h2=>iy h.length x y h2
 |.jZ a,σ,h=>(qa a σ h).bind λx h1=>jZ x h1
 |.nN,_,h=>.ok (.ref h.length) (h++[.c9 []])
 |.CV a,σ,h=>(qa a σ h).bind λx h1=>BX x h1
 |.nL o e,σ,h=>(qa o σ h).bind λx h1=>opt (Q7 h1 x) λ_=>(qa e σ h1).bind λy h2=>BZ x y h2
 |.nM a d,σ,h=>(qa a σ h).bind λx h1=>(qa d σ h1).bind λy h2=>rT x y h2
 |.kS a b,σ,h=>(qa a σ h).bind λx h1=>(qa b σ h1).bind λy h2=>mV x y h2
 |.lm m o es,σ,h=>(qa o σ h).bind λx h1=>opt (w8 x h1) λ_=>(yg es σ h1).bind λxs h2=>kU m x xs h2
 |.comp fz elt tg it src cond bZ js,σ,h=>(yg src σ h).bind λxs h1=>opt (eU it xs h1) λp =>
   (Zi p.2 (zk tg (tF cond) (qa elt)) p.1 [] (stM bZ js σ) h1).bind λacc h3=>Zw fz acc h3
 |.eZ e,σ,h=>(qa e σ h).bind λx h1=>QL x h1
@[simp] noncomputable def Qt:List ME->aF->MH->R MV
 |[],_,_=>.stuck
 |[e],σ,h=>qa e σ h
 |e::e'::r,σ,h=>(qa e σ h).bind λx h1=>opt (YJ x) λk=>if k=true then Qt (e'::r) σ h1 else .ok (.f (.bl false)) h1
@[simp] noncomputable def qE:List ME->aF->MH->R MV
 |[],_,_=>.stuck
 |[e],σ,h=>qa e σ h
 |e::e'::r,σ,h=>(qa e σ h).bind λx h1=>opt (YJ x) λk=>if k=true then .ok (.f (.bl true)) h1 else qE (e'::r) σ h1
@[simp] noncomputable def yg:List ME->aF->MH->R (List MV)
 |[],_,h=>.ok [] h
 |e::es,σ,h=>(qa e σ h).bind λx h1=>(yg es σ h1).bind λxs h2=>.ok (x::xs) h2
@[simp] noncomputable def tm:Option ME->aF->MH->R (Option Int)
 |none,_,h=>.ok none h
 |some e,σ,h=>(qa e σ h).bind λx h1=>opt (Qd x) λi=>.ok (some i) h1
@[simp] noncomputable def tF:Option ME->aF->MH->R Bool
 |none,_,h=>.ok true h
 |some e,σ,h=>(qa e σ h).bind λx h1=>opt (YJ x) λk=>.ok k h1
end
mutual
@[simp] noncomputable def qw:MS->aF->MH->RS
 |.set tg e,σ,h=>(qa P W e σ h).st λv h1=>QE (yK tg v σ) λσ1=>.next σ1 h1
 |.eG o i e,σ,h=>(qa P W e σ h).st λv h1=>(qa P W o σ h1).st λx h2=>(qa P W i σ h2).st λy h3 =>
   match x with
   |.ref a=>QE (yc h3 a) λxs=>QE (Qd y) λk=>QE (jM xs.length k) λj=>.next σ (ye h3 a (xs.set j v))
   |_=>.stuck
 |.nG o k,σ,h=>(qa P W o σ h).st λx h1=>(qa P W k σ h1).st λy h2=>QE (Qd y) λi=>match x with
  |.ref a=>QE (oS h2 (.ref a)) λks=>if ks.length<1000000 then .next σ (h2.set a (.iH (YC ks i))) else .stuck
  |_=>.stuck
 |.par i j a b,σ,h=>(yg P W [a,b] σ h).st λxs h1=>match xs with
  |[v,w]=>.next ((σ.set i (some v)).set j (some w)) h1
  |_=>.stuck
 |.gy o n e,σ,h=>(qa P W e σ h).st λv h1=>(qa P W o σ h1).st λx h2=>match x with
   |.ref a=>match h2[a]? with
    |some (.obj c fs)=>if P.iw c n=true/\fs.length<100 then .next σ (h2.set a (.obj c (mY n v fs))) else .stuck
    |_=>.stuck
   |_=>.stuck
 |.expr e,σ,h=>(qa P W e σ h).st λ_ h1=>.next σ h1
 |.ret e,σ,h=>(qa P W e σ h).st λv h1=>.ret v h1
 |.ite c a b,σ,h=>(qa P W c σ h).st λv h1=>QE (YJ v) λk=>if k=true then Qa a σ h1 else Qa b σ h1
 |.for_ tg it src body,σ,h=>(yg P W src σ h).st λxs h1=>QE (eU it xs h1) λp =>
   qL p.2 (Zm tg (Qa body)) p.1 σ h1
 |.while_ c body,σ,h=>zI (qa P W c) (Qa body) P.turns σ h
 |.pass,σ,h=>.next σ h
 |.ij,_,_=>.stuck
 |.nV i,σ,h=>QE ((σ[i]?).join) λv=>(QL v h).st λx h1=>.next (σ.set i (some x)) h1
noncomputable def Qa:List MS->aF->MH->RS
 |[],σ,h=>.next σ h
 |s::r,σ,h=>(qw s σ h).bind (Qa r)
end
end
noncomputable def yb(h:MH)(r:RS):R MV:=match r with
 |.next _ h'=>zg h (.f .bG) h'
 |.ret v h'=>zg h v h'
 |.exc c h'=>Y8 h c h'
 |_=>.stuck
noncomputable def run(P:Prog):Nat->String->List MV->MH->R MV
 |0,_,_,_=>.stuck
 |n+1,f,as,h=>opt (P.defs f) λd=>if as.length=d.np then yb h (Qa P (run P n) d.body (as.map some++Vc (d.ns-d.np) none) h) else .stuck
end MP
end
section
namespace MP
open PySem
noncomputable abbrev I(i:Int):MV:=.f (.int i)
noncomputable abbrev B(b:Bool):MV:=.f (.bl b)
@[simp] theorem Mj{α:Type}(g:α->FV):∀ xs:List α,zj (xs.map λx=>MV.f (g x))=some (xs.map g)
 |[]=>rfl
 |x::r=>by simp[zj,Mj g r]
@[simp] theorem ZQ:∀ xs:List FV,zj (xs.map MV.f)=some xs
 |[]=>rfl
 |x::r=>by simp[zj,ZQ r]
@[simp] theorem Qdw{α:Type}(g:α->FV)(xs:List α):zj (xs.map (MV.f∘g))=some (xs.map g):=Mj g xs
@[simp] theorem QbH{α:Type}(g:α->Int):∀ xs:List α,Qg (xs.map λx=>MV.f (.int (g x)))=some (xs.map g)
 |[]=>rfl
 |x::r=>by simp[Qg,QbH g r]
@[simp] theorem zD:∀ xs:List Int,Qg (xs.map (MV.f∘FV.int))=some xs
 |[]=>rfl
 |x::r=>by
  show Option.map _ (Qg (r.map (MV.f∘FV.int)))=_;rw[zD r];rfl
@[simp] theorem Qb7{α:Type}(g:α->Bool):∀ xs:List α,qu (xs.map λx=>MV.f (.bl (g x)))=some (xs.map g)
 |[]=>rfl
 |x::r=>by simp[qu,Qb7 g r]
@[simp] theorem Ydb(xs:List FV):yh (xs.map MV.f)=.f (.tup xs):=by simp[yh]
@[simp] theorem Jk{α:Type}(g:α->FV)(xs:List α):yh (xs.map (MV.f∘g))=.f (.tup (xs.map g)):=by simp[yh]
@[simp] theorem Qdt{α:Type}(g:α->FV)(xs:List α):yh (xs.map λx=>MV.f (g x))=.f (.tup (xs.map g)):=by simp[yh]
@[simp] theorem ydv(x y:FV):yh [.f x,.f y]=.f (.tup [x,y]):=rfl
@[simp] theorem Zdv:yh []=.f (.tup []):=rfl
@[simp] theorem qdr(x:FV):yh [.f x]=.f (.tup [x]):=rfl
@[simp] theorem Yh(xs:List FV)(h:MH):Zw true (xs.map MV.f) h=.ok (.f (.lst xs)) h:=by simp[Zw]
@[simp] theorem YaY{α:Type}(g:α->FV)(xs:List α)(h:MH):Zw true (xs.map (MV.f∘g)) h=.ok (.f (.lst (xs.map g))) h:=by simp[Zw]
@[simp] theorem ycH{α:Type}(g:α->FV)(xs:List α)(h:MH):Zw true (xs.map λx=>MV.f (g x)) h=.ok (.f (.lst (xs.map g))) h:=by simp[Zw]
@[simp] theorem ZcH(h:MH):Zw true [] h=.ok (.f (.lst [])) h:=rfl
@[simp] theorem zcn(x:FV)(r:List MV)(h:MH):Zw true (.f x::r) h=opt (zj r) λys=>.ok (.f (.lst (x::ys))) h:=by
 simp only[Zw,zj];cases zj r <;> rfl
@[simp] theorem YR(xs:List MV)(h:MH):Zw false xs h=.ok (.ref h.length) (h++[.lst xs]):=rfl
@[simp] theorem zdg(P:Prog)(W:String->List MV->MH->R MV)(σ:aF)(h:MH):Qa P W [] σ h=.next σ h:=by simp only[Qa]
@[simp] theorem Qc4(P:Prog)(W:String->List MV->MH->R MV)(s:MS)(r:List MS)(σ:aF)(h:MH):Qa P W (s::r) σ h=(qw P W s σ h).bind (Qa P W r):=by simp only[Qa]
section
variable {h:MH}
@[simp] theorem AL(ok:String->String->Bool)(n c:String)(ns:List String)(vs:List FV):lg ok n (.f (.obj c ns vs)) h=if ok c n=true then(rH n ns vs).map .f else none:=rfl
@[simp] theorem C1(a:Nat):w8 (.ref a) h=yc h a:=rfl
@[simp] theorem Qcc:Yx (.f .bG)=true:=rfl
@[simp] theorem Qds(s:Str):Yx (.f (.str s))=false:=rfl
@[simp] theorem ydt(s:Int):Yx (.f (.int s))=false:=rfl
@[simp] theorem xU(s:Bool):Yx (.f (.bl s))=false:=rfl
@[simp] theorem Zdx(s:List FV):Yx (.f (.tup s))=false:=rfl
@[simp] theorem Qdx(s:List FV):Yx (.f (.lst s))=false:=rfl
@[simp] theorem zdw(c:String)(ns:List String)(s:List FV):Yx (.f (.obj c ns s))=false:=rfl
@[simp] theorem zdv(s:Nat):Yx (.ref s)=false:=rfl
@[simp] theorem qdp(s:List MV):Yx (.tup s)=false:=rfl
@[simp] theorem qdu(xs:List FV):qb h (.f (.tup xs))=some (xs.map .f):=rfl
@[simp] theorem Zdt(xs:List FV):qb h (.f (.lst xs))=some (xs.map .f):=rfl
@[simp] theorem ydu(ns:List Int):qb h (.f (.dj ns))=some (ns.map λi=>MV.f (.int i)):=rfl
@[simp] theorem qdt(ns:List Int):Yk (.f (.dj ns))=none:=rfl
@[simp] theorem zdh(xs:List MV):qb h (.tup xs)=some xs:=rfl
@[simp] theorem Ydv(a:Nat):qb h (.ref a)=yc h a:=rfl
@[simp] theorem uJ(n:String)(v:MV):mY n v []=[(n,v)]:=rfl
@[simp] theorem Qdu(n k:String)(v x:MV)(r:List (String×MV)):mY n v ((k,x)::r)=if k=n then(k,v)::r else(k,x)::mY n v r:=rfl
@[simp] theorem Zdq(xs:List FV):listOf h (.f (.tup xs))=none:=rfl
@[simp] theorem qdm(xs:List FV):listOf h (.f (.lst xs))=some (xs.map .f):=rfl
@[simp] theorem zdr(a:Nat):listOf h (.ref a)=yc h a:=rfl
@[simp] theorem zds(xs:List FV):Yk (.f (.tup xs))=some (xs.map .f):=rfl
@[simp] theorem Qdk(xs:List MV):Yk (.tup xs)=some xs:=rfl
@[simp] theorem Ydr(xs:List FV):Yk (.f (.lst xs))=none:=rfl
@[simp] theorem Zdw(a:Nat):Yk (.ref a)=none:=rfl
@[simp] theorem ydr(i:Int):Qd (.f (.int i))=some i:=rfl
@[simp] theorem Ydt(xs:List FV):Qd (.f (.tup xs))=none:=rfl
@[simp] theorem Zds(xs:List FV):Qd (.f (.lst xs))=none:=rfl
@[simp] theorem yds(a:Nat):Qd (.ref a)=none:=rfl
@[simp] theorem Dy(b:Bool):YJ (.f (.bl b))=some b:=rfl
@[simp] theorem ydw(i j:Int):rL .lt i j=some (decide (i<j)):=rfl
@[simp] theorem qdw(i j:Int):rL .le i j=some (decide (i<=j)):=rfl
@[simp] theorem Qdr(i j:Int):rL .gt i j=some (decide (j<i)):=rfl
@[simp] theorem Ydw(i j:Int):rL .ge i j=some (decide (j<=i)):=rfl
@[simp] theorem IT(x y:MV):yI .lt x y h=(Qd x).bind λi=>(Qd y).bind λj=>some (decide (i<j)):=rfl
@[simp] theorem IU(x y:MV):yI .le x y h=(Qd x).bind λi=>(Qd y).bind λj=>some (decide (i<=j)):=rfl
@[simp] theorem cmp_gt(x y:MV):yI .gt x y h=(Qd x).bind λi=>(Qd y).bind λj=>some (decide (j<i)):=rfl
@[simp] theorem IV(x y:MV):yI .ge x y h=(Qd x).bind λi=>(Qd y).bind λj=>some (decide (j<=i)):=rfl
@[simp] theorem IL(x:FV):yJ h (.f x)=some x:=rfl
@[simp] theorem A'(x y:FV):yI .eq (.f x) (.f y) h=jX x y:=rfl
@[simp] theorem A9(x y:FV):yI .ne (.f x) (.f y) h=(jX x y).map (!·):=rfl
@[simp] theorem Dc(n:Nat):cb (n+1) .bG=true:=rfl
@[simp] theorem Ho(n:Nat)(b:Bool):cb (n+1) (.bl b)=true:=rfl
@[simp] theorem De(n:Nat)(i:Int):cb (n+1) (.int i)=true:=rfl
@[simp] theorem C'(n:Nat)(s:Str):cb (n+1) (.str s)=rR s:=rfl
@[simp] theorem C9(n:Nat)(xs:List FV):cb (n+1) (.tup xs)=xs.all (cb n):=rfl
@[simp] theorem Dd(n:Nat)(xs:List FV):cb (n+1) (.lst xs)=xs.all (cb n):=rfl
@[simp] theorem Oq(i j:Int):fL (.int i) (.int j)=(i==j):=by simp[fL]
@[simp] theorem Dw(i j:Str):fL (.str i) (.str j)=(i==j):=by simp[fL]
@[simp] theorem KH(xs ys:List FV):fL (.tup xs) (.tup ys)=kI xs ys:=by simp[fL]
@[simp] theorem OA(xs ys:List FV):fL (.lst xs) (.lst ys)=kI xs ys:=by simp[fL]
@[simp] theorem Dv(i j:Int):jX (.int i) (.int j)=some (i==j):=by simp[jX]
theorem ZcQ(i j:Str)(a:rR i=true)(b:rR j=true):jX (.str i) (.str j)=some (i==j):=by simp[jX,a,b]
theorem Q8{α:Type} [DecidableEq α] (g:α->FV)(hg:∀ a b,fL (g a) (g b)=decide (a=b)):∀ xs ys:List α,kI (xs.map g) (ys.map g)=decide (xs=ys)
 |[],[]=>by simp[kI]
 |[],_::_=>by simp[kI]
 |_::_,[]=>by simp[kI]
 |x::xs,y::ys=>by simp[kI,hg,Q8 g hg xs ys]
@[simp] theorem DA(fz:Bool)(i j:Int):yf fz .add (.f (.int i)) (.f (.int j)) h=.ok (.f (.int (i+j))) h:=rfl
@[simp] theorem Dz(fz:Bool)(i j:Int):yf fz .sub (.f (.int i)) (.f (.int j)) h=.ok (.f (.int (i-j))) h:=rfl
theorem Qq(fz:Bool)(i j:Int)(c:zK i j):yf fz .mul (.f (.int i)) (.f (.int j)) h=.ok (.f (.int (i*j))) h:=by simp[yf,qM,c]
theorem Zh(fz:Bool)(i j:Int)(c:rV i j):yf fz .fdiv (.f (.int i)) (.f (.int j)) h=.ok (.f (.int (i/j))) h:=by simp[yf,qM,c]
theorem qe(fz:Bool)(i j:Int)(c:0<j):yf fz .mod (.f (.int i)) (.f (.int j)) h=.ok (.f (.int (i%j))) h:=by simp[yf,qM,c]
theorem Ed(fz:Bool)(i j:Int)(c:0<=j/\j<=1000000/\i.natAbs<2^64):yf fz .pow (.f (.int i)) (.f (.int j)) h=.ok (.f (.int (i^j.toNat))) h:=by simp[yf,qM,c]
@[simp] theorem Bg(fz:Bool)(v:MV):qm fz "len" [v] h=opt (qb h v) λxs=>.ok (.f (.int xs.length)) h:=rfl
@[simp] theorem Bf(fz:Bool)(v:MV):qm fz "sum" [v] h=opt ((qb h v).bind Qg) λxs=>.ok (.f (.int xs.sum)) h:=rfl
@[simp] theorem Bh(fz:Bool)(v:MV):qm fz "all" [v] h=opt ((qb h v).bind qu) λxs=>.ok (.f (.bl (xs.all id))) h:=rfl
@[simp] theorem zS(fz:Bool)(v:MV):qm fz "tuple" [v] h=opt (qb h v) λxs=>.ok (yh xs) h:=rfl
@[simp] theorem Qdv(fz:Bool)(v:MV):qm fz "list" [v] h=opt (qb h v) λxs=>Zw fz xs h:=rfl
@[simp] theorem Ydx(fz:Bool)(i j:Int):qm fz "min" [.f (.int i),.f (.int j)] h=.ok (.f (.int (if j<i then j else i))) h:=rfl
@[simp] theorem qdv(fz:Bool)(i j:Int):qm fz "max" [.f (.int i),.f (.int j)] h=.ok (.f (.int (if j>i then j else i))) h:=rfl
@[simp] theorem Bi(fz:Bool)(i:Int):qm fz "abs" [.f (.int i)] h=.ok (.f (.int (if i<0 then -i else i))) h:=rfl
@[simp] theorem Ydu(fz:Bool)(i:Int):qm fz "int" [.f (.int i)] h=.ok (.f (.int i)) h:=rfl
@[simp] theorem Zdr(fz:Bool)(b:Bool):qm fz "int" [.f (.bl b)] h=.ok (.f (.int (if b then 1 else 0))) h:=rfl
end
@[simp] theorem C4{α:Type}(c:Prop) [Decidable c] (x y:α)(h:MH):(if c then R.ok x h else R.ok y h)=R.ok (if c then x else y) h:=by split <;> rfl
@[simp] theorem M4(c:Prop) [Decidable c] (x y:FV):(if c then MV.f x else MV.f y)=MV.f (if c then x else y):=by split <;> rfl
@[simp] theorem Hm(c:Prop) [Decidable c] (x y:Bool):(if c then FV.bl x else FV.bl y)=FV.bl (if c then x else y):=by split <;> rfl
@[simp] theorem ite_int(c:Prop) [Decidable c] (x y:Int):(if c then FV.int x else FV.int y)=FV.int (if c then x else y):=by split <;> rfl
theorem zr(xs:List MV)(k:Nat):cK xs (k:Int)=xs[k]?:=by
 unfold cK jM;by_cases h:k<xs.length
 ·simp[h]
 ·simp[h]
theorem qR(xs:List MV)(i:Int)(h:0<=i):cK xs i=xs[i.toNat]?:=by
 have:=zr xs i.toNat
 rwa [Int.toNat_of_nonneg h] at this
@[simp] theorem Bm(x:MV)(xs:List MV):cK (x::xs) 0=some x:=by have:=zr (x::xs) 0;simpa using this
@[simp] theorem DD(x y:MV)(xs:List MV):cK (x::y::xs) 1=some y:=by have:=zr (x::y::xs) 1;simpa using this
@[simp] theorem DB(x y z:MV)(xs:List MV):cK (x::y::z::xs) 2=some z:=by have:=zr (x::y::z::xs) 2;simpa using this
noncomputable def sq(b:Bool)(xs:List FV):FV:=if b=true then .tup xs else .lst xs
@[simp] theorem uL(h:MH)(b:Bool)(xs:List FV):qb h (.f (sq b xs))=some (xs.map .f):=by cases b <;> rfl
@[simp] theorem Ydn(h:MH)(b:Bool)(xs:List FV):Zc h (.f (sq b xs))=[]:=rfl
noncomputable def sQ:List Int->Int
 |[]=>0
 |x::r=>nr x r
noncomputable def Br:List Int->Int
 |[]=>0
 |x::r=>mZ x r
theorem J4:∀(r:List Int)(m:Int),nr m r<=m/\∀ v∈r,nr m r<=v
 |[],m=>⟨uy _,λv hv=>by simp at hv⟩
 |x::r,m=>by
  obtain⟨a,b⟩:=J4 r (if x<m then x else m);simp only[nr];refine⟨by split at a <;> rename_i hc <;> simp only[hc,if_true,if_false] <;> lia,λv hv=>?_⟩
  rcases ua.mp hv with rfl|hv
  ·split at a <;> rename_i hc <;> simp only[hc,if_true,if_false] <;> lia
  ·exact b v hv
theorem Pg:∀(r:List Int)(m:Int),nr m r=m\/nr m r∈r
 |[],m=>.inl rfl
 |x::r,m=>by
  simp only[nr]
  rcases Pg r (if x<m then x else m) with e|e
  ·rw[e];split
   ·exact .inr (by simp)
   ·exact .inl rfl
  ·exact .inr (by simp[e])
theorem Jv:∀(r:List Int)(m:Int),m<=mZ m r/\∀ v∈r,v<=mZ m r
 |[],m=>⟨uy _,λv hv=>by simp at hv⟩
 |x::r,m=>by
  obtain⟨a,b⟩:=Jv r (if x>m then x else m);simp only[mZ];refine⟨by split at a <;> rename_i hc <;> simp only[hc,if_true,if_false] <;> lia,λv hv=>?_⟩
  rcases ua.mp hv with rfl|hv
  ·split at a <;> rename_i hc <;> simp only[hc,if_true,if_false] <;> lia
  ·exact b v hv
theorem Pd:∀(r:List Int)(m:Int),mZ m r=m\/mZ m r∈r
 |[],m=>.inl rfl
 |x::r,m=>by
  simp only[mZ]
  rcases Pd r (if x>m then x else m) with e|e
  ·rw[e];split
   ·exact .inr (by simp)
   ·exact .inl rfl
  ·exact .inr (by simp[e])
theorem Kg{r:List Int}(h:r≠[]):sQ r∈r:=by
 cases r with
 |nil=>exact absurd rfl h
 |cons x r=>rcases Pg r x with e|e <;> simp[sQ,e]
theorem KL{r:List Int}(h:r≠[]):Br r∈r:=by
 cases r with
 |nil=>exact absurd rfl h
 |cons x r=>rcases Pd r x with e|e <;> simp[Br,e]
theorem QcI{r:List Int}{v:Int}(h:v∈r):sQ r<=v:=by
 cases r with
 |nil=>simp at h
 |cons x r =>
  rcases ua.mp h with rfl|h
  ·exact(J4 r v).1
  ·exact(J4 r x).2 v h
theorem ycN{r:List Int}{v:Int}(h:v∈r):v<=Br r:=by
 cases r with
 |nil=>simp at h
 |cons x r =>
  rcases ua.mp h with rfl|h
  ·exact(Jv r v).1
  ·exact(Jv r x).2 v h
theorem KJ(fz:Bool)(h:MH)(v:MV)(ns:List Int)(e:(qb h v).bind Qg=some ns)(ne:ns≠[]):qm fz "min" [v] h=.ok (I (sQ ns)) h:=by
 cases ns with
 |nil=>exact absurd rfl ne
 |cons x r=>show opt ((qb h v).bind Qg) _=_;rw[e];rfl
theorem YcD(fz:Bool)(h:MH)(v:MV)(ns:List Int)(e:(qb h v).bind Qg=some ns)(ne:ns≠[]):qm fz "max" [v] h=.ok (I (Br ns)) h:=by
 cases ns with
 |nil=>exact absurd rfl ne
 |cons x r=>show opt ((qb h v).bind Qg) _=_;rw[e];rfl
theorem zi(h t:MH)(xs:List MV):yc (h++.lst xs::t) h.length=some xs:=by simp[yc]
theorem zbR{h t:MH}{a:Nat}{xs:List MV}(e:yc h a=some xs):yc (h++t) a=some xs:=by
 unfold yc at *;cases q:h[a]? with
 |none=>rw[q] at e;cases e
 |some c=>rw[Ua (xa.mp q).1,q];rw[q] at e;exact e
theorem zp(h t:MH)(xs ys:List MV):ye (h++.lst xs::t) h.length ys=h++.lst ys::t:=by simp[ye]
theorem tG(h:MH)(n:Nat):∀ xs:List FV,(xs.map MV.f).mapM (yn h (n+1))=some xs
 |[]=>rfl
 |x::r=>by simp[xp,tG h n r,yn]
theorem QbG(h:MH)(n:Nat):∀ xs:List FV,(xs.map MV.f).flatMap (Qn h (n+1))=[]
 |[]=>rfl
 |x::r=>by simp[Qn]
theorem G5(h t:MH)(as:List Nat)(ha:∀ a∈as,h.length<=a):∃ t',kill as (h++t)=h++t':=by
 refine⟨(t.mapIdx λi c=>if i+h.length∈as then .dead else c),?_⟩;unfold kill;rw[List.mapIdx_append]
 congr 1
 ·refine Uh λi=>?_;rw[Wl];cases q:h[i]? with
  |none=>rfl
  |some c =>
   have hi:=(xa.mp q).1;have:i∉as:=λz=>by have:=ha i z;lia
   simp[this]
theorem EU(h:MH)(a:Nat)(xs:List FV)(e:yc h a=some (xs.map .f)):QL (.ref a) h=.ok (.f (.lst xs)) (kill [a] h):=by
 simp only[QL,yJ,yn,e,xi,tG,ug,qc,Qn,Wm,QbG]
theorem DP(h t:MH)(xs:List FV):∃ t',QL (.ref h.length) (h++.lst (xs.map .f)::t)=.ok (.f (.lst xs)) (h++t'):=by
 obtain⟨t',e⟩:=G5 h (.lst (xs.map .f)::t) [h.length] (by simp);exact⟨t',by rw[EU _ _ xs (zi h t _),e]⟩
@[simp] theorem Nt(h:MH)(x:FV):QL (.f x) h=.ok (.f x) h:=by
 have:kill [] h=h:=by unfold kill;refine Uh λi=>?_;rw[Wl];cases h[i]? <;> rfl
 simp[QL,yJ,yn,Qn,this]
@[simp] theorem Qde(k:String->MH->RS)(c:String)(h:MH):RS.kE k (.exc c h)=k c h:=id rfl
@[simp] theorem yc2(k:String->MH->RS)(σ:aF)(h:MH):RS.kE k (.next σ h)=.next σ h:=id rfl
@[simp] theorem Zdh(k:String->MH->RS)(v:MV)(h:MH):RS.kE k (.ret v h)=.ret v h:=id rfl
theorem bJ.refl(h:MH):bJ h h:=⟨xb _,λi c _ e=>.inl e⟩
theorem bJ.app(h t:MH):bJ h (h++t):=⟨by simp,λi c hi e=>.inl (by rw[Ua hi] at e;exact e)⟩
theorem bJ.cons{c c':Cell}{h h':MH}(t:bJ h h')(e:c'=c\/je c'):bJ (c::h) (c'::h'):=by
 refine⟨by have:=t.1;simp;lia,λi d hi q=>?_⟩;cases i with
 |zero =>
  simp at q;subst q;rcases e with e|e
  ·left;simp[e]
  ·exact .inr e
 |succ i=>simp at q hi ⊢;exact t.2 i d hi q
@[simp] theorem yc7(h:MH)(x:FV):zg h (.f x) h=.ok (.f x) h:=by simp[zg,bJ.refl]
@[simp] theorem Zdu(h t:MH)(x:FV):zg h (.f x) (h++t)=.ok (.f x) h:=by simp[zg,bJ.app]
@[simp] theorem xG(h:MH)(k k':Int)(x:FV):zg (.lst [I k]::h) (.f x) (.lst [I k']::h)=.ok (.f x) (.lst [I k']::h):=by
 simp[zg,bJ.cons (bJ.refl h) (.inr ⟨[.int k'],rfl⟩:Cell.lst [I k']=Cell.lst [I k]\/je (.lst [I k']))]
@[simp] theorem ZcL(h t:MH)(k k':Int)(x:FV):zg (.lst [I k]::h) (.f x) (.lst [I k']::(h++t))=.ok (.f x) (.lst [I k']::h):=by
 simp[zg,bJ.cons (bJ.app h t) (.inr ⟨[.int k'],rfl⟩:Cell.lst [I k']=Cell.lst [I k]\/je (.lst [I k']))]
@[simp] theorem Yc4(h:MH)(c:String):Y8 h c h=.exc c h:=by simp[Y8,bJ.refl]
@[simp] theorem Ydd(h t:MH)(c:String):Y8 h c (h++t)=.exc c h:=by simp[Y8,bJ.app]
@[simp] theorem Qc3(h:MH)(σ:aF)(h':MH):yb h (.next σ h')=zg h (.f .bG) h':=id rfl
@[simp] theorem Qc8(h:MH)(v:MV)(h':MH):yb h (.ret v h')=zg h v h':=id rfl
@[simp] theorem qdi(h:MH)(c:String)(h':MH):yb h (.exc c h')=Y8 h c h':=id rfl
@[simp] theorem ZC(h:MH):aV [] h:=λp hp=>by simp at hp
@[simp] theorem zdt(h:MH)(x:FV):Zc h (.f x)=[]:=rfl
@[simp] theorem qc2(h:MH)(x:List MV):Zc h (.tup x)=[]:=rfl
theorem J6(bd:MV->aF->MH->RS)(x:MV)(r:List MV)(σ:aF)(h:MH):qL [] bd (x::r) σ h=(bd x σ h).turn λσ1 h1=>qL [] bd r σ1 h1:=by simp[qL]
@[simp] theorem C6(h:MH)(v:MV):eU "seq" [v] h=(qb h v).map λxs=>(xs,Zc h v):=rfl
theorem ym(h:MH)(n:Int)(c:-(2^62)<=n/\n<2^62):eU "range" [.f (.int n)] h=some ((ud n.toNat).map λ(k:Nat)=>I k,[]):=if_pos c
@[simp] theorem C5(h:MH)(u v:MV):eU "zip" [u,v] h=(qb h u).bind λxs=>(qb h v).map λys=>((xs.zip ys).map λp=>yh [p.1,p.2],Zc h u++Zc h v):=rfl
@[simp] theorem xT(h:MH)(v:MV):eU "enumerate" [v] h=(qb h v).map λxs=>(xs.mapIdx λk x=>yh [.f (.int k),x],Zc h v):=rfl
@[simp] theorem ydb(n:Nat):(((n:Int)+1=0)=False):=eq_false (by lia)
@[simp] theorem Zc2(n:Nat):(((n:Int)+1==0)=false):=beq_false_of_ne (by lia)
theorem Zz{α:Type}{bd:MV->aF->MH->R (Option MV×aF)}{h:MH}{e g:α->MV}{caps:aF}:∀(ys:List α)(acc:List MV)(z:Option MV),acc.length+ys.length<=aG ->
  (∀ y∈ys,∀ z,∃ z',bd (e y) (z::caps) h=.ok (some (g y),z'::caps) h)->Zi [] bd (ys.map e) acc (z::caps) h=.ok (acc++ys.map g) h
 |[],acc,z,_,_=>by simp[Zi]
 |y::r,acc,z,hl,hb=>by
  obtain⟨z',e'⟩:=hb y (by simp) z;simp only[Uc] at hl;have:=Zz (bd:=bd) (h:=h) (e:=e) (g:=g) (caps:=caps) r (acc++[g y]) z' (by simp;lia) (λy hy z=>hb y (by simp[hy]) z);simp[Zi,e',this]
  lia
theorem Qv{α:Type}{bd:MV->aF->MH->R (Option MV×aF)}{h:MH}{e g:α->MV}{caps:aF}:∀(ys:List α)(acc:List MV)(z w:Option MV),acc.length+ys.length<=aG ->
  (∀ y∈ys,∀ z w,∃ z' w',bd (e y) (z::w::caps) h=.ok (some (g y),z'::w'::caps) h)->Zi [] bd (ys.map e) acc (z::w::caps) h=.ok (acc++ys.map g) h
 |[],acc,z,w,_,_=>by simp[Zi]
 |y::r,acc,z,w,hl,hb=>by
  obtain⟨z',w',e'⟩:=hb y (by simp) z w;simp only[Uc] at hl;have:=Qv (bd:=bd) (h:=h) (e:=e) (g:=g) (caps:=caps) r (acc++[g y]) z' w' (by simp;lia) (λy hy z=>hb y (by simp[hy]) z);simp[Zi,e',this]
  lia
theorem QO{α β:Type}{bd:MV->aF->MH->RS}{e:α->MV}{st:β->aF}{hp:β->MH}{f:β->α->β}:∀(ys:List α)(b:β),
  (∀ y∈ys,∀ b,bd (e y) (st b) (hp b)=.next (st (f b y)) (hp (f b y)))->qL [] bd (ys.map e) (st b) (hp b)=.next (st (ys.foldl f b)) (hp (ys.foldl f b))
 |[],b,_=>by simp[qL]
 |y::r,b,hb=>by
  simp only[ub,J6,hb y (by simp) b,RS.jD,wj];exact QO r (f b y) λy hy b=>hb y (by simp[hy]) b
theorem J9{α β:Type}{bd:MV->aF->MH->RS}{e:α->MV}{st:β->aF}{hp:β->MH}{f:β->α->β}(Pb:β->Prop):∀(ys:List α)(b:β),Pb b ->
  (∀ y∈ys,∀ b,Pb b->bd (e y) (st b) (hp b)=.next (st (f b y)) (hp (f b y))/\Pb (f b y))->qL [] bd (ys.map e) (st b) (hp b)=.next (st (ys.foldl f b)) (hp (ys.foldl f b))/\Pb (ys.foldl f b)
 |[],b,p,_=>⟨by simp[qL],p⟩
 |y::r,b,p,hb=>by
  obtain⟨e1,p1⟩:=hb y (by simp) b p;simp only[ub,J6,e1,RS.jD,wj];exact J9 Pb r (f b y) p1 λy hy b=>hb y (by simp[hy]) b
theorem Kb{α:Type}{bd:MV->aF->MH->RS}{e:α->MV}(Pv:Nat->aF->MH->Prop):∀(ys:List α)(i:Nat)(σ:aF)(h:MH),Pv i σ h ->
  (∀ j y σ h,ys[j]?=some y->Pv (i+j) σ h->∃ σ' h',bd (e y) σ h=.next σ' h'/\Pv (i+j+1) σ' h')->∃ σ' h',qL [] bd (ys.map e) σ h=.next σ' h'/\Pv (i+ys.length) σ' h'
 |[],i,σ,h,p,_=>⟨σ,h,by simp[qL],p⟩
 |y::r,i,σ,h,p,hb=>by
  obtain⟨σ1,h1,e1,p1⟩:=hb 0 y σ h rfl p;obtain⟨σ2,h2,e2,p2⟩:=Kb (bd:=bd) (e:=e) Pv r (i+1) σ1 h1 p1 (λj y σ h hj pj=>by
   have:=hb (j+1) y σ h (by simpa using hj) (by rw[show i+(j+1)=i+1+j by lia];exact pj)
   rwa [show i+(j+1)+1=i+1+j+1 by lia] at this)
  refine⟨σ2,h2,by simp[J6,e1,e2],?_⟩
  rwa [show i+(y::r).length=i+1+r.length by simp;lia]
end MP
end
section
namespace SD
open PySem PySem.Spec PyProof.Rows L2 L3 M3 MP
structure Tx where
 adr:String->af
 K:PySem.W.Frag
 cd:af:=0
 tb:af:=0
 lp:Pos:=⟨0,0,0,0⟩
 lq:Str:=Str.ofString ""
instance:CoeFun Tx (λ_=>String->af):=⟨Tx.adr⟩
noncomputable def Bz(K:PySem.W.Frag)(a:af)(ns:List Int):Prop:=∃(o:Obj)(aB:Array aa)(n:Nat),K.lookup a=some o/\o.cls=.type "list"/\o.dict=none/\o.data=.seq aB n/\aB.size<=sizeLine/\Vals (ns.map V.int) aB.toList
noncomputable def bc(μ:List af)(h:MH)(b:af):Prop:=∃(i:Nat)(c:Cell),μ[i]?=some b/\h[i]?=some c/\c≠Cell.dead
section
variable (ct:Tx)
mutual
noncomputable def RF(L:af->Prop)(H:Hp):FV->V->Prop
 |.bG,v=>v=.bG
 |.bl b,v=>v=.bl b
 |.int i,v=>v=.int i
 |.str x,v=>v=.str x
 |.tup xs,v=>∃ a vs,v=.ref a/\¬ L a/\H a=some (.tup vs)/\fq L H xs vs
 |.lst xs,v=>∃ a vs,v=.ref a/\¬ L a/\Rd H a (.lst vs)/\fq L H xs vs
 |.obj c ns xs,v=>∃ a dx fs,v=.ref a/\¬ L a/\H a=some (.ins (ct c) dx fs)/\fs.map Wt=ns.map Str.ofString/\fq L H xs (fs.map Vn)
 |.tab kvs,v=>∃ a o,v=.ref a/\¬ L a/\H a=some (.eZ o (.dT (kvs.map λkv=>([(Sum.inl kv.1.1:Key),Sum.inl kv.1.2],V.int kv.2))))
 |.c9 ks,v=>∃ a o,v=.ref a/\¬ L a/\H a=some (.eZ o (.dT (ks.map λk=>([(Sum.inl k.1:Key),Sum.inl k.2],V.bl true))))
 |.dj ns,v=>∃ a,v=.ref a/\((¬ L a/\∃ o,H a=some (.eZ o (.lst (ns.map V.int))))\/Bz ct.K a ns)
noncomputable def fq(L:af->Prop)(H:Hp):List FV->List V->Prop
 |[],vs=>vs=[]
 |x::xs,vs=>∃ v r,vs=v::r/\RF L H x v/\fq L H xs r
end
mutual
noncomputable def RV(μ:List af)(L:af->Prop)(H:Hp):MV->V->Prop
 |.f x,v=>RF ct L H x v
 |.ref i,v=>∃ b,μ[i]?=some b/\v=.ref b
 |.tup xs,v=>∃ a vs,v=.ref a/\¬ L a/\H a=some (.tup vs)/\aC μ L H xs vs
 |.exc c,v=>∃ a,v=.ref a/\¬ L a/\H a=some (.ext (IE (ct c) a))
noncomputable def aC(μ:List af)(L:af->Prop)(H:Hp):List MV->List V->Prop
 |[],vs=>vs=[]
 |x::xs,vs=>∃ v r,vs=v::r/\RV μ L H x v/\aC μ L H xs r
end
noncomputable def bO(μ:List af)(L:af->Prop)(H:Hp)(b:af):Cell->Prop
 |.lst xs=>∃ vs,H b=some (.lst vs)/\aC ct μ L H xs vs
 |.obj c fs=>∃ dx gs,H b=some (.ins (ct c) dx gs)/\gs.map Wt=fs.map (λp=>Str.ofString p.1)/\aC ct μ L H (fs.map Vn) (gs.map Vn)
 |.iH ks=>H b=some (.dK (ks.map λk=>((Sum.inl k:Key),V.bl true)))
 |.tab kvs=>H b=some (.dT (kvs.map λkv=>([(Sum.inl kv.1.1:Key),Sum.inl kv.1.2],V.int kv.2)))
 |.c9 ks=>H b=some (.dT (ks.map λk=>([(Sum.inl k.1:Key),Sum.inl k.2],V.bl true)))
 |.code=>b=ct.tb/\(H b=some (.ext (YL b ct.lp none))\/∃ c',c'≠b/\¬ L c'/\H b=some (.ext (YL b ct.lp (some c')))/\H c'=some (.ext (l7 c' ct.lq)))
 |.dead=>True
structure Rel (μ:List af) (h:MH) (H:Hp):Prop where
 len:μ.length=h.length
 nd:μ.Nodup
 has:∀ b∈μ,∃ o,H b=some o
 cells:∀(i:Nat)(b:af)(c:Cell),μ[i]?=some b->h[i]?=some c->bO ct μ (bc μ h) H b c
end
structure Ext (μ:List af) (h:MH) (H:Hp) (μ':List af) (h':MH) (H':Hp):Prop where
 pre:∃ ν,μ'=μ++ν
 keep:∀ b o,H b=some o->¬ bc μ h b->H' b=some o
 j5:∀ b,bc μ' h' b->bc μ h b\/H b=none
theorem Ext.refl(μ:List af)(h:MH)(H:Hp):Ext μ h H μ h H:=⟨⟨[],by simp⟩,λ_ _ e _=>e,λ_ l=>.inl l⟩
theorem Ext.trans{μ μ1 μ2:List af}{h h1 h2:MH}{H H1 H2:Hp}(a:Ext μ h H μ1 h1 H1)(b:Ext μ1 h1 H1 μ2 h2 H2):Ext μ h H μ2 h2 H2:=by
 obtain⟨ν,e⟩:=a.pre;obtain⟨ν',e'⟩:=b.pre;refine⟨⟨ν++ν',by rw[e',e,ui]⟩,λc o q n=>?_,λc l=>?_⟩
 ·refine b.keep c o (a.keep c o q n) λl=>?_
  rcases a.j5 c l with z|z
  ·exact n z
  ·rw[q] at z;cases z
 ·rcases b.j5 c l with z|z
  ·exact a.j5 c z
  ·by_cases n:bc μ h c
   ·exact .inl n
   ·cases q:H c with
    |none=>exact .inr rfl
    |some o=>rw[a.keep c o q n] at z;cases z
theorem Rd.keep{H H':Hp}{a:af}{u:HO}(k:∀ o,H a=some o->H' a=some o)(r:Rd H a u):Rd H' a u:=r.elim (λe=>.inl (k _ e)) λ⟨o,e⟩=>.inr ⟨o,k _ e⟩
theorem Rd.some{H:Hp}{a:af}{u:HO}(r:Rd H a u):∃ o,H a=some o:=r.elim (λe=>⟨_,e⟩) λ⟨_,e⟩=>⟨_,e⟩
section
variable {ct:Tx}
structure Let (L:af->Prop) (H:Hp) (L':af->Prop) (H':Hp):Prop where
 keep:∀ b o,H b=some o->¬ L b->H' b=some o
 j5:∀ b o,H b=some o->¬ L b->¬ L' b
theorem Ext.let{μ μ':List af}{h h':MH}{H H':Hp}(e:Ext μ h H μ' h' H'):Let (bc μ h) H (bc μ' h') H' :=
 ⟨e.keep,λb o q n l=>(e.j5 b l).elim n λz=>by rw[q] at z;cases z⟩
mutual
theorem RF.to{L L':af->Prop}{H H':Hp}(l:Let L H L' H'):∀{x:FV}{v:V},RF ct L H x v->RF ct L' H' x v
 |.bG,_,r=>by simpa only[RF] using r
 |.bl _,_,r=>by simpa only[RF] using r
 |.int _,_,r=>by simpa only[RF] using r
 |.str _,_,r=>by simpa only[RF] using r
 |.tup xs,v,r=>by
  simp only[RF] at r ⊢;obtain⟨a,vs,e,n,rd,q⟩:=r;exact⟨a,vs,e,l.j5 a _ rd n,l.keep a _ rd n,fq.to l q⟩
 |.lst xs,v,r=>by
  simp only[RF] at r ⊢;obtain⟨a,vs,e,n,rd,q⟩:=r;obtain⟨o,ho⟩:=Rd.some rd;exact⟨a,vs,e,l.j5 a o ho n,Rd.keep (λo e=>l.keep a o e n) rd,fq.to l q⟩
 |.obj c ns xs,v,r=>by
  simp only[RF] at r ⊢;obtain⟨a,dx,fs,e,n,ho,q1,q⟩:=r;exact⟨a,dx,fs,e,l.j5 a _ ho n,l.keep a _ ho n,q1,fq.to l q⟩
 |.tab kvs,v,r=>by
  simp only[RF] at r ⊢;obtain⟨a,o,e,n,q⟩:=r;exact⟨a,o,e,l.j5 a _ q n,l.keep a _ q n⟩
 |.c9 ks,v,r=>by
  simp only[RF] at r ⊢;obtain⟨a,o,e,n,q⟩:=r;exact⟨a,o,e,l.j5 a _ q n,l.keep a _ q n⟩
 |.dj ns,v,r=>by
  simp only[RF] at r ⊢;obtain⟨a,e,q⟩:=r;exact⟨a,e,q.imp (λ⟨n,o,h⟩=>⟨l.j5 a _ h n,o,l.keep a _ h n⟩) id⟩
theorem fq.to{L L':af->Prop}{H H':Hp}(l:Let L H L' H'):∀{xs:List FV}{vs:List V},fq ct L H xs vs->fq ct L' H' xs vs
 |[],_,r=>by simpa only[fq] using r
 |x::xs,vs,r=>by
  simp only[fq] at r ⊢;obtain⟨v,t,e,q1,q2⟩:=r;exact⟨v,t,e,RF.to l q1,fq.to l q2⟩
end
mutual
theorem RV.to{μ ν:List af}{L L':af->Prop}{H H':Hp}(l:Let L H L' H'):∀{x:MV}{v:V},RV ct μ L H x v->RV ct (μ++ν) L' H' x v
 |.f x,v,r=>by simp only[RV] at r ⊢;exact RF.to l r
 |.ref i,v,r=>by
  simp only[RV] at r ⊢;obtain⟨b,e,q⟩:=r;exact⟨b,by rw[Ua (xa.mp e).1];exact e,q⟩
 |.tup xs,v,r=>by
  simp only[RV] at r ⊢;obtain⟨a,vs,e,n,rd,q⟩:=r;exact⟨a,vs,e,l.j5 a _ rd n,l.keep a _ rd n,aC.to l q⟩
 |.exc _,v,r=>by
  simp only[RV] at r ⊢;obtain⟨a,e,n,q⟩:=r;exact⟨a,e,l.j5 a _ q n,l.keep a _ q n⟩
theorem aC.to{μ ν:List af}{L L':af->Prop}{H H':Hp}(l:Let L H L' H'):∀{xs:List MV}{vs:List V},aC ct μ L H xs vs->aC ct (μ++ν) L' H' xs vs
 |[],_,r=>by simpa only[aC] using r
 |x::xs,vs,r=>by
  simp only[aC] at r ⊢;obtain⟨v,t,e,q1,q2⟩:=r;exact⟨v,t,e,RV.to l q1,aC.to l q2⟩
end
theorem RV.ext{μ μ':List af}{h h':MH}{H H':Hp}{x:MV}{v:V}(e:Ext μ h H μ' h' H')(r:RV ct μ (bc μ h) H x v):RV ct μ' (bc μ' h') H' x v:=by
 obtain⟨ν,q⟩:=e.pre;subst q;exact RV.to e.let r
theorem aC.ext{μ μ':List af}{h h':MH}{H H':Hp}{x:List MV}{v:List V}(e:Ext μ h H μ' h' H')(r:aC ct μ (bc μ h) H x v):aC ct μ' (bc μ' h') H' x v:=by
 obtain⟨ν,q⟩:=e.pre;subst q;exact aC.to e.let r
theorem aC.length{μ:List af}{L:af->Prop}{H:Hp}:∀{xs:List MV}{vs:List V},aC ct μ L H xs vs->vs.length=xs.length
 |[],_,r=>by simp only[aC] at r;simp[r]
 |x::xs,vs,r=>by
  simp only[aC] at r;obtain⟨v,t,e,_,q⟩:=r;simp[e,aC.length q]
theorem aC.get{μ:List af}{L:af->Prop}{H:Hp}:∀{xs:List MV}{vs:List V}{i:Nat}{x:MV},aC ct μ L H xs vs->xs[i]?=some x->∃ v,vs[i]?=some v/\RV ct μ L H x v
 |[],_,_,_,_,e=>by simp at e
 |x::xs,vs,0,y,r,e=>by
  simp only[aC] at r;obtain⟨v,t,q,r1,_⟩:=r;simp at e;subst e;exact⟨v,by simp[q],r1⟩
 |x::xs,vs,i+1,y,r,e=>by
  simp only[aC] at r;obtain⟨v,t,q,_,r2⟩:=r;obtain⟨u,h1,h2⟩:=aC.get (i:=i) r2 (by simpa using e);exact⟨u,by simp[q,h1],h2⟩
theorem aC.get'{μ:List af}{L:af->Prop}{H:Hp}{xs:List MV}{vs:List V}{i:Nat}{v:V}(r:aC ct μ L H xs vs)(e:vs[i]?=some v):∃ x,xs[i]?=some x/\RV ct μ L H x v:=by
 have hl:=r.length;have hi:i<xs.length:=by rw[<- hl];exact(xa.mp e).1
 obtain⟨u,h1,h2⟩:=r.get (i:=i) (x:=xs[i]) (by simp[hi]);rw[e] at h1;cases h1;exact⟨_,by simp[hi],h2⟩
theorem aC.cons{μ:List af}{L:af->Prop}{H:Hp}{x:MV}{v:V}{xs:List MV}{vs:List V}(a:RV ct μ L H x v)(b:aC ct μ L H xs vs):aC ct μ L H (x::xs) (v::vs):=by
 simp only[aC];exact⟨v,vs,rfl,a,b⟩
theorem aC.nil{μ:List af}{L:af->Prop}{H:Hp}:aC ct μ L H [] []:=by simp only[aC]
theorem aC.append{μ:List af}{L:af->Prop}{H:Hp}:∀{xs ys:List MV}{vs ws:List V},aC ct μ L H xs vs->aC ct μ L H ys ws->aC ct μ L H (xs++ys) (vs++ws)
 |[],_,_,_,r,s=>by simp only[aC] at r;subst r;exact s
 |x::xs,ys,vs,ws,r,s=>by
  simp only[aC] at r;obtain⟨v,t,rfl,r1,r2⟩:=r;exact aC.cons r1 (aC.append r2 s)
theorem aC.take{μ:List af}{L:af->Prop}{H:Hp}:∀(n:Nat){xs:List MV}{vs:List V},aC ct μ L H xs vs->aC ct μ L H (xs.take n) (vs.take n)
 |0,_,_,_=>aC.nil
 |n+1,[],_,r=>by simp only[aC] at r;subst r;exact aC.nil
 |n+1,x::xs,vs,r=>by
  simp only[aC] at r;obtain⟨v,t,rfl,r1,r2⟩:=r;exact aC.cons r1 (aC.take n r2)
theorem aC.drop{μ:List af}{L:af->Prop}{H:Hp}:∀(n:Nat){xs:List MV}{vs:List V},aC ct μ L H xs vs->aC ct μ L H (xs.drop n) (vs.drop n)
 |0,_,_,r=>r
 |n+1,[],_,r=>by simp only[aC] at r;subst r;exact aC.nil
 |n+1,x::xs,vs,r=>by
  simp only[aC] at r;obtain⟨v,t,rfl,r1,r2⟩:=r;exact aC.drop n r2
theorem aC.set{μ:List af}{L:af->Prop}{H:Hp}{y:MV}{u:V}(q:RV ct μ L H y u):∀(n:Nat){xs:List MV}{vs:List V},aC ct μ L H xs vs->aC ct μ L H (xs.set n y) (vs.set n u)
 |_,[],_,r=>by simp only[aC] at r;subst r;exact aC.nil
 |0,x::xs,vs,r=>by
  simp only[aC] at r;obtain⟨v,t,rfl,r1,r2⟩:=r;exact aC.cons q r2
 |n+1,x::xs,vs,r=>by
  simp only[aC] at r;obtain⟨v,t,rfl,r1,r2⟩:=r;exact aC.cons r1 (aC.set q n r2)
theorem aC.wJ{μ:List af}{L:af->Prop}{H:Hp}:∀{xs:List FV}{vs:List V},fq ct L H xs vs->aC ct μ L H (xs.map MV.f) vs
 |[],_,r=>by simp only[fq] at r;subst r;exact aC.nil
 |x::xs,vs,r=>by
  simp only[fq] at r;obtain⟨v,t,rfl,r1,r2⟩:=r;exact aC.cons (by simp only[RV];exact r1) (aC.wJ r2)
theorem aC.toF{μ:List af}{L:af->Prop}{H:Hp}:∀{xs:List MV}{ys:List FV}{vs:List V},zj xs=some ys->aC ct μ L H xs vs->fq ct L H ys vs
 |[],ys,vs,e,r=>by simp[zj] at e;subst e;simp only[aC] at r;subst r;simp only[fq]
 |.f x::xs,ys,vs,e,r=>by
  simp only[zj,Vd] at e;obtain⟨zs,e1,rfl⟩:=e;simp only[aC] at r;obtain⟨v,t,rfl,r1,r2⟩:=r;simp only[fq];exact⟨v,t,rfl,by simpa only[RV] using r1,aC.toF e1 r2⟩
 |.ref _::_,_,_,e,_=>by simp[zj] at e
 |.tup _::_,_,_,e,_=>by simp[zj] at e
 |.exc _::_,_,_,e,_=>by simp[zj] at e
end
section
variable {ct:Tx}
structure a8 (ct:Tx) (μ:List af) (h:MH) (H:Hp) (σ:L2.St) (σs:aF):Prop where
 len:σ.length=σs.length
 at_:∀(i:Nat)(m:MV),σs[i]?=some (some m)->∃ v,σ[i]?=some (some v)/\RV ct μ (bc μ h) H m v
theorem a8.ext{μ μ':List af}{h h':MH}{H H':Hp}{σ:L2.St}{σs:aF}(e:Ext μ h H μ' h' H')(r:a8 ct μ h H σ σs):a8 ct μ' h' H' σ σs :=
 ⟨r.len,λi m q=>let ⟨v,a,b⟩:=r.at_ i m q;⟨v,a,b.ext e⟩⟩
theorem a8.set{μ:List af}{h:MH}{H:Hp}{σ:L2.St}{σs:aF}{m:MV}{v:V}(i:Nat)(r:a8 ct μ h H σ σs)(q:RV ct μ (bc μ h) H m v):a8 ct μ h H (σ.set i (some v)) (σs.set i (some m)):=by
 refine⟨by simp[r.len],λj m' e=>?_⟩;by_cases hj:i=j
 ·subst hj;have hi:i<σs.length:=by
   have:=(xa.mp e).1;simpa using this
  rw[Vj hi] at e;cases e;exact⟨v,by rw[Vj (by rw[r.len];exact hi)],q⟩
 ·rw[wl hj] at e;obtain⟨u,a,b⟩:=r.at_ j m' e;exact⟨u,by rw[wl hj];exact a,b⟩
noncomputable def Po{α:Type}(ct:Tx)(E:XK)(r:R α)(μ:List af)(h:MH)(H:Hp)(k:α->List af->MH->Hp->Prop):Prop:=match r with
 |.ok x h'=>∀ μ' H',Ext μ h H μ' h' H'->Rel ct μ' h' H'->k x μ' h' H'
 |.exc c h'=>∀ μ' H',Ext μ h H μ' h' H'->Rel ct μ' h' H'->E (.ref (ct c)) none H'
 |.stuck=>False
section
variable {α β:Type} {E:XK} {μ μ1:List af} {h h1:MH} {H H1:Hp}
theorem Po.start{r:R α}{k:α->List af->MH->Hp->Prop}(e:Ext μ h H μ1 h1 H1)(p:Po ct E r μ h H k):Po ct E r μ1 h1 H1 k:=by
 cases r with
 |ok x h'=>exactλμ' H' e' r'=>p μ' H' (e.trans e') r'
 |exc c h'=>exactλμ' H' e' r'=>p μ' H' (e.trans e') r'
 |stuck=>exact p
theorem Po.bind{r:R α}{g:α->MH->R β}{k:β->List af->MH->Hp->Prop}(p:Po ct E (r.bind g) μ h H k):Po ct E r μ h H λx μ1 h1 H1=>Ext μ h H μ1 h1 H1/\Rel ct μ1 h1 H1/\Po ct E (g x h1) μ1 h1 H1 k:=by
 cases r with
 |ok x h'=>exactλμ' H' e' r'=>⟨e',r',Po.start (r:=g x h') e' p⟩
 |exc c h'=>exact p
 |stuck=>exact p
theorem Po.imp{r:R α}{k k':α->List af->MH->Hp->Prop}(p:Po ct E r μ h H k)(f:∀ x μ1 h1 H1,k x μ1 h1 H1->k' x μ1 h1 H1):Po ct E r μ h H k':=by
 cases r with
 |ok x h'=>exactλμ' H' e' r'=>f _ _ _ _ (p μ' H' e' r')
 |exc c h'=>exact p
 |stuck=>exact p
theorem Po.opt{o:Option α}{g:α->R β}{k:β->List af->MH->Hp->Prop}(p:Po ct E (opt o g) μ h H k):∃ x,o=some x/\Po ct E (g x) μ h H k:=by
 cases o with
 |none=>exact p.elim
 |some x=>exact⟨x,rfl,p⟩
theorem Po.now{x:α}{k:α->List af->MH->Hp->Prop}(rel:Rel ct μ h H)(p:Po ct E (.ok x h) μ h H k):k x μ h H:=p μ H (Ext.refl _ _ _) rel
theorem Po.wU{x:α}{h':MH}{k:α->List af->MH->Hp->Prop}(p:Po ct E (.ok x h') μ h H k){μ':List af}{H':Hp}(e:Ext μ h H μ' h' H')(rel:Rel ct μ' h' H'):k x μ' h' H':=p μ' H' e rel
end
noncomputable def kV(ct:Tx)(Q:VK):MV->List af->MH->Hp->Prop:=λm μ h H=>∀ v,RV ct μ (bc μ h) H m v->Q v H
noncomputable def kVs(ct:Tx)(Q:List V->Hp->Prop):List MV->List af->MH->Hp->Prop:=λm μ h H=>∀ v,aC ct μ (bc μ h) H m v->Q v H
section
variable (ct) (Ra:L2.St->Prop) (E:XK)
noncomputable def lE(ev:aF->MH->R MV):TE:=λσ H Q=>∃ μ h σs,Rel ct μ h H/\a8 ct μ h H σ σs/\Ra σ/\Po ct E (ev σs h) μ h H (kV ct Q)
noncomputable def lT(ev:aF->MH->R Bool):TT:=λσ H Q=>∃ μ h σs,Rel ct μ h H/\a8 ct μ h H σ σs/\Ra σ/\Po ct E (ev σs h) μ h H λb _ _ H'=>Q b H'
noncomputable def lA(ev:aF->MH->R (List MV)):TA:=λσ H Q=>∃ μ h σs,Rel ct μ h H/\a8 ct μ h H σ σs/\Ra σ/\Po ct E (ev σs h) μ h H (kVs ct Q)
noncomputable def lO(ev:aF->MH->R (Option Int)):TO:=λσ H Q=>∃ μ h σs,Rel ct μ h H/\a8 ct μ h H σ σs/\Ra σ/\Po ct E (ev σs h) μ h H λb _ _ H'=>Q b H'
end
section
variable {Ra:L2.St->Prop} {E:XK} {μ:List af} {h:MH} {H:Hp} {σ:L2.St} {σs:aF} {β:Type}
theorem lE.mk{ev:aF->MH->R MV}{g:MV->MH->R β}{k:β->List af->MH->Hp->Prop}{Q:VK}(rel:Rel ct μ h H)(aM:a8 ct μ h H σ σs)(ra:Ra σ)(p:Po ct E ((ev σs h).bind g) μ h H k)
  (f:∀ m v μ1 h1 H1,Ext μ h H μ1 h1 H1->Rel ct μ1 h1 H1->a8 ct μ1 h1 H1 σ σs->RV ct μ1 (bc μ1 h1) H1 m v->Po ct E (g m h1) μ1 h1 H1 k->Q v H1):lE ct Ra E ev σ H Q :=
 ⟨μ,h,σs,rel,aM,ra,(Po.bind p).imp λm μ1 h1 H1 ⟨e1,r1,p1⟩ v rv=>f m v μ1 h1 H1 e1 r1 (aM.ext e1) rv p1⟩
theorem lT.mk{ev:aF->MH->R Bool}{g:Bool->MH->R β}{k:β->List af->MH->Hp->Prop}{Q:Bool->Hp->Prop}(rel:Rel ct μ h H)(aM:a8 ct μ h H σ σs)(ra:Ra σ)(p:Po ct E ((ev σs h).bind g) μ h H k)
  (f:∀ m μ1 h1 H1,Ext μ h H μ1 h1 H1->Rel ct μ1 h1 H1->a8 ct μ1 h1 H1 σ σs->Po ct E (g m h1) μ1 h1 H1 k->Q m H1):lT ct Ra E ev σ H Q :=
 ⟨μ,h,σs,rel,aM,ra,(Po.bind p).imp λm μ1 h1 H1 ⟨e1,r1,p1⟩=>f m μ1 h1 H1 e1 r1 (aM.ext e1) p1⟩
theorem lA.mk{ev:aF->MH->R (List MV)}{g:List MV->MH->R β}{k:β->List af->MH->Hp->Prop}{Q:List V->Hp->Prop}(rel:Rel ct μ h H)(aM:a8 ct μ h H σ σs)(ra:Ra σ)(p:Po ct E ((ev σs h).bind g) μ h H k)
  (f:∀ m v μ1 h1 H1,Ext μ h H μ1 h1 H1->Rel ct μ1 h1 H1->a8 ct μ1 h1 H1 σ σs->aC ct μ1 (bc μ1 h1) H1 m v->Po ct E (g m h1) μ1 h1 H1 k->Q v H1):lA ct Ra E ev σ H Q :=
 ⟨μ,h,σs,rel,aM,ra,(Po.bind p).imp λm μ1 h1 H1 ⟨e1,r1,p1⟩ v rv=>f m v μ1 h1 H1 e1 r1 (aM.ext e1) rv p1⟩
theorem lO.mk{ev:aF->MH->R (Option Int)}{g:Option Int->MH->R β}{k:β->List af->MH->Hp->Prop}{Q:Option Int->Hp->Prop}(rel:Rel ct μ h H)(aM:a8 ct μ h H σ σs)(ra:Ra σ)(p:Po ct E ((ev σs h).bind g) μ h H k)
  (f:∀ m μ1 h1 H1,Ext μ h H μ1 h1 H1->Rel ct μ1 h1 H1->a8 ct μ1 h1 H1 σ σs->Po ct E (g m h1) μ1 h1 H1 k->Q m H1):lO ct Ra E ev σ H Q :=
 ⟨μ,h,σs,rel,aM,ra,(Po.bind p).imp λm μ1 h1 H1 ⟨e1,r1,p1⟩=>f m μ1 h1 H1 e1 r1 (aM.ext e1) p1⟩
end
section
variable {μ:List af} {h:MH} {H:Hp}
theorem bc.has(rel:Rel ct μ h H){b:af}(l:bc μ h b):∃ o,H b=some o:=let ⟨i,_,e,_,_⟩:=l;rel.has b (wf e)
theorem Rel.fresh(rel:Rel ct μ h H){p:af}(hp:H p=none):p∉μ:=λz=>by obtain⟨o,e⟩:=rel.has p z;rw[hp] at e;cases e
theorem Ext.new(rel:Rel ct μ h H){p:af}(hp:H p=none)(o:HO):Ext μ h H μ h (upd H p o) :=
 ⟨⟨[],by simp⟩,λb u e _=>by rw[Zd (qg e hp)];exact e,λb l=>.inl l⟩
theorem bO.to{μ ν:List af}{L L':af->Prop}{H H':Hp}{b:af}{c:Cell}(l:Let L H L' H')(kb:c≠.dead->H' b=H b)(r:bO ct μ L H b c):bO ct (μ++ν) L' H' b c:=by
 cases c with
 |lst xs =>
  obtain⟨vs,e,q⟩:=r;exact⟨vs,by rw[kb (λz=>nomatch z)];exact e,aC.to l q⟩
 |obj c fs =>
  obtain⟨dx,gs,e,q1,q⟩:=r;exact⟨dx,gs,by rw[kb (λz=>nomatch z)];exact e,q1,aC.to l q⟩
 |iH ks=>exact(kb (λz=>nomatch z)).trans r
 |tab ks=>exact(kb (λz=>nomatch z)).trans r
 |c9 ks=>exact(kb (λz=>nomatch z)).trans r
 |code =>
  obtain⟨e,r⟩:=r;have kb:=kb (λz=>nomatch z);refine⟨e,r.elim (λr=>.inl (kb.trans r)) λ⟨c',n1,n2,r1,r2⟩=>.inr ⟨c',n1,l.j5 _ _ r2 n2,kb.trans r1,l.keep _ _ r2 n2⟩⟩
 |dead=>trivial
theorem Rel.new(rel:Rel ct μ h H){p:af}(hp:H p=none)(o:HO):Rel ct μ h (upd H p o):=by
 refine⟨rel.len,rel.nd,λb hb=>?_,λi b c e1 e2=>?_⟩
 ·obtain⟨u,e⟩:=rel.has b hb;exact⟨u,by rw[Zd (qg e hp)];exact e⟩
 ·have:=bO.to (ν:=[]) (Ext.new rel hp o).let (b:=b) (λ_=>by
   obtain⟨u,e⟩:=rel.has b (wf e1);exact Zd (qg e hp)) (rel.cells i b c e1 e2)
  simpa using this
theorem bc.app{μ:List af}{h:MH}(hl:μ.length=h.length){p b:af}{c:Cell}(l:bc (μ++[p]) (h++[c]) b):bc μ h b\/b=p:=by
 obtain⟨i,d,e1,e2,nd⟩:=l;by_cases hi:i<μ.length
 ·rw[Ua hi] at e1;rw[Ua (by lia)] at e2;exact .inl ⟨i,d,e1,e2,nd⟩
 ·rw[we (by lia)] at e1;have:i-μ.length=0:=by
   have:=(xa.mp e1).1;simp at this;lia
  rw[this] at e1;simp at e1;exact .inr e1.symm
theorem Ext.cell(rel:Rel ct μ h H){p:af}(hp:H p=none)(c:Cell)(o:HO):Ext μ h H (μ++[p]) (h++[c]) (upd H p o) :=
 ⟨⟨[p],rfl⟩,λb u e _=>by rw[Zd (qg e hp)];exact e,λb l=>(bc.app rel.len l).imp id λe=>by rw[e];exact hp⟩
theorem Rel.cell(rel:Rel ct μ h H){p:af}(hp:H p=none){c:Cell}{o:HO}(q:bO ct (μ++[p]) (bc (μ++[p]) (h++[c])) (upd H p o) p c):Rel ct (μ++[p]) (h++[c]) (upd H p o):=by
 have hn:=rel.fresh hp;refine⟨by simp[rel.len],?_,λb hb=>?_,λi b d e1 e2=>?_⟩
 ·rw[ul];exact⟨rel.nd,by simp,λa ha b hb e=>by simp at hb;subst hb;subst e;exact hn ha⟩
 ·rcases Wg.mp hb with hb|hb
  ·obtain⟨u,e⟩:=rel.has b hb;exact⟨u,by rw[Zd (qg e hp)];exact e⟩
  ·simp at hb;subst hb;exact⟨o,zf⟩
 ·by_cases hi:i<μ.length
  ·rw[Ua hi] at e1;rw[Ua (by have:=rel.len;lia)] at e2;exact bO.to (Ext.cell rel hp c o).let (λ_=>by
    obtain⟨u,e⟩:=rel.has b (wf e1);exact Zd (qg e hp)) (rel.cells i b d e1 e2)
  ·rw[we (by lia)] at e1;rw[we (by have:=rel.len;lia)] at e2;have:i-μ.length=0:=by
    have:=(xa.mp e1).1;simp at this;lia
   have h2:i-h.length=0:=by rw[<- rel.len];exact this
   rw[this] at e1;rw[h2] at e2;simp at e1 e2;subst e1;subst e2;exact q
theorem bc.set{i:Nat}{c c':Cell}{b:af}(e:h[i]?=some c)(hc:c≠.dead)(l:bc μ (h.set i c') b):bc μ h b:=by
 obtain⟨j,d,e1,e2,nd⟩:=l;by_cases hj:i=j
 ·subst hj;exact⟨i,c,e1,e,hc⟩
 ·rw[wl hj] at e2;exact⟨j,d,e1,e2,nd⟩
theorem Ext.set(rel:Rel ct μ h H){i:Nat}{b:af}{c:Cell}(e1:μ[i]?=some b)(e2:h[i]?=some c)(hc:c≠.dead)(c':Cell)(o:HO):Ext μ h H μ (h.set i c') (upd H b o) :=
 ⟨⟨[],by simp⟩,λd u e n=>by rw[Zd (λ(z:d=b)=>n (by rw[z];exact⟨i,c,e1,e2,hc⟩))];exact e,λd l=>.inl (bc.set e2 hc l)⟩
theorem Rel.set(rel:Rel ct μ h H){i:Nat}{b:af}{c:Cell}(e1:μ[i]?=some b)(e2:h[i]?=some c)(hc:c≠.dead){c':Cell}{o:HO}(q:bO ct μ (bc μ (h.set i c')) (upd H b o) b c'):Rel ct μ (h.set i c') (upd H b o):=by
 refine⟨by simp[rel.len],rel.nd,λd hd=>?_,λj d u q1 q2=>?_⟩
 ·by_cases ku:d=b
  ·exact⟨o,by rw[ku];exact zf⟩
  ·obtain⟨u,e⟩:=rel.has d hd;exact⟨u,by rw[Zd ku];exact e⟩
 ·by_cases hj:i=j
  ·subst hj;rw[e1] at q1;cases q1;rw[Vj (xa.mp e2).1] at q2;cases q2;exact q
  ·rw[wl hj] at q2;have ne:d≠b:=λz=>by
    subst z;exact hj ((uz (xa.mp e1).1 rel.nd).mp (e1.trans q1.symm))
   have:=bO.to (ν:=[]) (Ext.set rel e1 e2 hc c' o).let (b:=d) (λ_=>Zd ne) (rel.cells j d u q1 q2);simpa using this
end
end
section
variable {ct:Tx}
section
variable {μ:List af} {h:MH} {H:Hp}
theorem EX{as:List Nat}{i:Nat}{c:Cell}(e:(kill as h)[i]?=some c):(i∈as/\c=.dead)\/(i∉as/\h[i]?=some c):=by
 unfold kill at e;rw[Wl] at e;cases q:h[i]? with
 |none=>rw[q] at e;cases e
 |some d =>
  rw[q] at e;by_cases hi:i∈as
  ·simp[hi] at e;exact .inl ⟨hi,e.symm⟩
  ·simp[hi] at e;subst e;exact .inr ⟨hi,rfl⟩
theorem bc.kill{as:List Nat}{b:af}(l:bc μ (kill as h) b):bc μ h b:=by
 obtain⟨i,c,e1,e2,nd⟩:=l
 rcases EX e2 with ⟨_,z⟩|⟨_,z⟩
 ·exact absurd z nd
 ·exact⟨i,c,e1,z,nd⟩
theorem Ext.kill(as:List Nat):Ext μ h H μ (kill as h) H:=⟨⟨[],by simp⟩,λ_ _ e _=>e,λb l=>.inl l.kill⟩
theorem Rel.kill(rel:Rel ct μ h H)(as:List Nat):Rel ct μ (kill as h) H:=by
 refine⟨by rw[rel.len];simp[MP.kill],rel.nd,rel.has,λi b c e1 e2=>?_⟩
 rcases EX e2 with ⟨_,z⟩|⟨_,z⟩
 ·subst z;trivial
 ·have:=bO.to (ν:=[]) (Ext.kill (H:=H) as).let (b:=b) (λ_=>rfl) (rel.cells i b c e1 z);simpa using this
theorem YU{i:Nat}{xs:List MV}(e:yc h i=some xs):h[i]?=some (.lst xs):=by
 unfold yc at e;split at e
 next q=>cases e;exact q
 next=>cases e
theorem Rel.lst(rel:Rel ct μ h H){i:Nat}{xs:List MV}(e:yc h i=some xs):∃ b vs,μ[i]?=some b/\H b=some (.lst vs)/\aC ct μ (bc μ h) H xs vs:=by
 have e2:=YU e;have hi:i<μ.length:=by rw[rel.len];exact(xa.mp e2).1
 obtain⟨vs,q1,q2⟩:=rel.cells i μ[i] (.lst xs) (by simp[hi]) e2;exact⟨_,vs,by simp[hi],q1,q2⟩
theorem zcA{as:List Nat}(rel:Rel ct μ h H){i:Nat}{b:af}(e:μ[i]?=some b)(hi:i∈as):¬ bc μ (MP.kill as h) b:=λ⟨j,c,e1,e2,nd⟩=>by
 have:i=j:=(uz (xa.mp e).1 rel.nd).mp (e.trans e1.symm);subst this
 rcases EX e2 with ⟨_,z⟩|⟨z,_⟩
 ·exact nd z
 ·exact z hi
theorem Kd{as:List Nat}{g:MV->Option FV}:∀{xs:List MV}{ys:List FV}{vs:List V},xs.mapM g=some ys->aC ct μ (bc μ h) H xs vs ->
  (∀ x∈xs,∀ y v,g x=some y->RV ct μ (bc μ h) H x v->RF ct (bc μ (MP.kill as h)) H y v)->fq ct (bc μ (MP.kill as h)) H ys vs
 |[],ys,vs,e,r,_=>by
  simp at e;subst e;simp only[aC] at r;subst r;simp only[fq]
 |x::xs,ys,vs,e,r,f=>by
  simp only[xp,Ut,uc,Option.pure_def,Option.some.injEq] at e;obtain⟨y,e1,zs,e2,rfl⟩:=e;simp only[aC] at r;obtain⟨v,t,rfl,r1,r2⟩:=r;simp only[fq];exact⟨v,t,rfl,f x (by simp) y v e1 r1,Kd e2 r2 λz hz=>f z (by simp[hz])⟩
theorem Jz(rel:Rel ct μ h H){as:List Nat}:∀(n:Nat)(m:MV)(x:FV)(v:V),(∀ a∈Qn h n m,a∈as)->yn h n m=some x->RV ct μ (bc μ h) H m v->RF ct (bc μ (MP.kill as h)) H x v
 |0,m,x,v,_,e,_=>by simp[yn] at e
 |n+1,.f y,x,v,_,e,r=>by
  simp[yn] at e;subst e;simp only[RV] at r;exact RF.to (Ext.kill (H:=H) as).let r
 |n+1,.tup xs,x,v,hs,e,r=>by
  simp only[yn,Vd] at e;obtain⟨ys,e1,rfl⟩:=e;simp only[RV] at r;obtain⟨a,vs,rfl,na,rd,q⟩:=r;simp only[RF];refine⟨a,vs,rfl,λl=>na l.kill,rd,Kd e1 q λz hz y u ez ru=>Jz rel n z y u (λa ha=>hs a ?_) ez ru⟩;simp only[Qn,xm];exact⟨z,hz,ha⟩
 |n+1,.ref i,x,v,hs,e,r=>by
  simp only[yn,uc,Vd] at e;obtain⟨xs,e0,ys,e1,rfl⟩:=e;simp only[RV] at r;obtain⟨b,eb,rfl⟩:=r;obtain⟨b',vs,iM,hb,q⟩:=rel.lst e0;rw[eb] at iM;cases iM;simp only[RF];refine⟨b,vs,rfl,zcA rel eb (hs i (by simp[Qn])),.inl hb,Kd e1 q λz hz y u ez ru=>Jz rel n z y u (λa ha=>hs a ?_) ez ru⟩;simp only[Qn,e0,Wm,ua,xm];exact .inr ⟨z,hz,ha⟩
 |n+1,.exc _,x,v,_,e,_=>by simp[yn] at e
theorem OV{E:XK}{m:MV}{v:V}{k:MV->List af->MH->Hp->Prop}(rel:Rel ct μ h H)(r:RV ct μ (bc μ h) H m v)(p:Po ct E (QL m h) μ h H k) :
  ∃ x h',Ext μ h H μ h' H/\Rel ct μ h' H/\RV ct μ (bc μ h') H (.f x) v/\k (.f x) μ h' H:=by
 unfold QL at p;obtain⟨x,e,p⟩:=p.opt;refine⟨x,_,Ext.kill _,rel.kill _,?_,p.wU (Ext.kill _) (rel.kill _)⟩;simp only[RV];exact Jz rel 5 m x v (λa ha=>ha) e r
end
mutual
noncomputable def mU(n:Nat):MV->Prop
 |.ref i=>i<n
 |.tup xs=>fS n xs
 |_=>True
noncomputable def fS(n:Nat):List MV->Prop
 |[]=>True
 |x::xs=>mU n x/\fS n xs
end
mutual
theorem RV.mO{μ:List af}{L:af->Prop}{H:Hp}:∀{m:MV}{v:V},RV ct μ L H m v->mU μ.length m
 |.f _,_,_=>by simp only[mU]
 |.ref i,v,r=>by
  simp only[RV] at r;obtain⟨b,e,_⟩:=r;simp only[mU];exact(xa.mp e).1
 |.tup xs,v,r=>by
  simp only[RV] at r;obtain⟨a,vs,_,_,_,q⟩:=r;simp only[mU];exact aC.mO q
 |.exc _,_,_=>by simp only[mU]
theorem aC.mO{μ:List af}{L:af->Prop}{H:Hp}:∀{xs:List MV}{vs:List V},aC ct μ L H xs vs->fS μ.length xs
 |[],_,_=>by simp only[fS]
 |x::xs,vs,r=>by
  simp only[aC] at r;obtain⟨v,t,_,r1,r2⟩:=r;simp only[fS];exact⟨RV.mO r1,aC.mO r2⟩
end
mutual
theorem RV.cut{μ ν:List af}{L L':af->Prop}{H:Hp}(l:∀ b,L' b->L b):∀{m:MV}{v:V},mU μ.length m->RV ct (μ++ν) L H m v->RV ct μ L' H m v
 |.f x,v,_,r=>by simp only[RV] at r ⊢;exact RF.to ⟨λ_ _ e _=>e,λb _ _ n z=>n (l b z)⟩ r
 |.ref i,v,b,r=>by
  simp only[RV] at r ⊢;simp only[mU] at b;obtain⟨c,e,q⟩:=r;rw[Ua b] at e;exact⟨c,e,q⟩
 |.tup xs,v,b,r=>by
  simp only[RV] at r ⊢;simp only[mU] at b;obtain⟨a,vs,e,n,rd,q⟩:=r;exact⟨a,vs,e,λz=>n (l a z),rd,aC.cut l b q⟩
 |.exc _,v,_,r=>by
  simp only[RV] at r ⊢;obtain⟨a,e,n,q⟩:=r;exact⟨a,e,λz=>n (l a z),q⟩
theorem aC.cut{μ ν:List af}{L L':af->Prop}{H:Hp}(l:∀ b,L' b->L b):∀{xs:List MV}{vs:List V},fS μ.length xs->aC ct (μ++ν) L H xs vs->aC ct μ L' H xs vs
 |[],vs,_,r=>by simpa only[aC] using r
 |x::xs,vs,b,r=>by
  simp only[aC] at r ⊢;simp only[fS] at b;obtain⟨v,t,e,r1,r2⟩:=r;exact⟨v,t,e,RV.cut l b.1 r1,aC.cut l b.2 r2⟩
end
theorem fS.flat(n:Nat):∀ ys:List FV,fS n (ys.map MV.f)
 |[]=>by simp only[xn,fS]
 |y::ys=>by simp only[ub,fS,mU];exact⟨trivial,fS.flat n ys⟩
noncomputable def Jy(n:Nat):Cell->Prop
 |.lst xs=>fS n xs
 |.obj _ fs=>fS n (fs.map Vn)
 |.iH _=>True
 |.tab _=>True
 |.c9 _=>True
 |.code=>True
 |.dead=>True
theorem bO.mO{μ:List af}{L:af->Prop}{H:Hp}{b:af}{c:Cell}(r:bO ct μ L H b c):Jy μ.length c:=by
 cases c with
 |lst xs=>obtain⟨vs,_,q⟩:=r;exact q.mO
 |obj c fs=>obtain⟨dx,gs,_,_,q⟩:=r;exact q.mO
 |iH ks=>trivial
 |tab ks=>trivial
 |c9 ks=>trivial
 |code=>trivial
 |dead=>trivial
theorem je.mO{n:Nat}{c:Cell}(r:je c):Jy n c:=by
 cases c with
 |lst xs=>obtain⟨ys,rfl⟩:=r;exact fS.flat n ys
 |obj c fs =>
  obtain⟨ys,rfl⟩:=r;show fS n _;rw[Wf];have:=fS.flat n (ys.map Vn);rw[Wf] at this;exact this
 |iH ks=>trivial
 |tab ks=>trivial
 |c9 ks=>trivial
 |code=>trivial
 |dead=>trivial
theorem bO.cut{μ ν:List af}{L L':af->Prop}{H:Hp}{b:af}{c:Cell}(l:∀ b,L' b->L b)(k:Jy μ.length c)(r:bO ct (μ++ν) L H b c):bO ct μ L' H b c:=by
 cases c with
 |lst xs=>obtain⟨vs,e,q⟩:=r;exact⟨vs,e,aC.cut l k q⟩
 |obj c fs=>obtain⟨dx,gs,e,q1,q⟩:=r;exact⟨dx,gs,e,q1,aC.cut l k q⟩
 |iH ks=>exact r
 |tab ks=>exact r
 |c9 ks=>exact r
 |code=>exact⟨r.1,r.2.imp id λ⟨c',n1,n2,r⟩=>⟨c',n1,λz=>n2 (l _ z),r⟩⟩
 |dead=>trivial
theorem Lp:∀{xs:List MV}{ys:List FV},zj xs=some ys->xs=ys.map MV.f
 |[],ys,e=>by simp[zj] at e;subst e;rfl
 |.f x::xs,ys,e=>by
  simp only[zj,Vd] at e;obtain⟨zs,e1,rfl⟩:=e;rw[Lp e1];rfl
 |.ref _::_,_,e=>by simp[zj] at e
 |.tup _::_,_,e=>by simp[zj] at e
 |.exc _::_,_,e=>by simp[zj] at e
section
variable {μ ν:List af} {h h':MH} {H H':Hp}
theorem bc.cut(hl:μ.length=h.length){b:af}(l:bc μ (h'.take h.length) b):bc (μ++ν) h' b:=by
 obtain⟨i,c,e1,e2,nd⟩:=l;have hi:i<μ.length:=(xa.mp e1).1;rw[Wn (by lia)] at e2;exact⟨i,c,by rw[Ua hi];exact e1,e2,nd⟩
theorem Ext.cut(hl:μ.length=h.length)(e:Ext μ h H (μ++ν) h' H'):Ext μ h H μ (h'.take h.length) H':=⟨⟨[],by simp⟩,e.keep,λb l=>e.j5 b (bc.cut hl l)⟩
theorem Rel.cut(rel:Rel ct μ h H)(t:bJ h h')(bL:Rel ct (μ++ν) h' H'):Rel ct μ (h'.take h.length) H':=by
 refine⟨by rw[rel.len,Uq];have:=t.1;lia,(ul.mp bL.nd).1,λb hb=>bL.has b (Xj _ hb),λi b c e1 e2=>?_⟩;have hi:i<μ.length:=(xa.mp e1).1;have mF:i<h.length:=by rw[<- rel.len];exact hi
 rw[Wn mF] at e2;refine bO.cut (λb l=>bc.cut rel.len l) ?_ (bL.cells i b c (by rw[Ua hi];exact e1) e2)
 rcases t.2 i c mF e2 with q|q
 ·exact(rel.cells i b c e1 q).mO
 ·exact je.mO q
theorem O3{E:XK}{m:MV}{v:V}{Q:VK}(rel:Rel ct μ h H)(e:Ext μ h H (μ++ν) h' H')(bL:Rel ct (μ++ν) h' H')(r:RV ct (μ++ν) (bc (μ++ν) h') H' m v)(p:Po ct E (zg h m h') μ h H (kV ct Q)):Q v H':=by
 unfold zg at p;split at p
 next t =>
  cases m with
  |f x =>
   refine p μ H' (Ext.cut rel.len e) (rel.cut t bL) v ?_;exact RV.cut (λb l=>bc.cut rel.len l) (by simp only[mU]) r
  |ref a =>
   dsimp only at p;split at p
   next ha =>
    split at p
    next xs ex =>
     split at p
     next ys ey =>
      simp only[RV] at r;obtain⟨b,eb,rfl⟩:=r;obtain⟨b',vs,iM,hb,q⟩:=bL.lst ex;rw[eb] at iM;cases iM;have rc:=rel.cut t bL;have ec:=Ext.cut rel.len e;have nb:b∉μ:=λz=>by
       obtain⟨j,hj,ej⟩:=ut z;have:j=a:=(uz (by simp;lia) bL.nd).mp (by rw[Ua hj,eb];simp[hj,ej]);have:=rel.len
       lia
      have lv:∀ d,bc (μ++[b]) (h'.take h.length++[.lst xs]) d->bc (μ++ν) h' d:=λd l=>by
       rcases bc.app (by rw[rc.len]) l with l|l
       ·exact bc.cut rel.len l
       ·subst l;exact⟨a,.lst xs,eb,YU ex,λz=>nomatch z⟩
      have fl:fq ct (bc (μ++ν) h') H' ys vs:=aC.toF ey q;have LG:xs=ys.map MV.f:=Lp ey;refine p (μ++[b]) H' ⟨⟨[b],rfl⟩,e.keep,λd l=>e.j5 d (lv d l)⟩ ?_ (.ref b) ?_
      ·refine⟨by simp[rc.len],?_,λd hd=>?_,λi d c e1 e2=>?_⟩
       ·rw[ul];exact⟨rc.nd,by simp,λx hx y hy z=>by simp at hy;subst hy;subst z;exact nb hx⟩
       ·rcases Wg.mp hd with hd|hd
        ·exact rc.has d hd
        ·simp at hd;subst hd;exact⟨_,hb⟩
       ·by_cases hi:i<μ.length
        ·rw[Ua hi] at e1;rw[Ua (by rw[<- rc.len];exact hi)] at e2;have c0:=rc.cells i d c e1 e2;have mF:i<h.length:=by rw[<- rel.len];exact hi
         have rh:=e2;rw[Wn mF] at rh;have c1:=bL.cells i d c (by rw[Ua hi];exact e1) rh;exact bO.to (ν:=[b]) (L:=bc (μ++[b]) (h'.take h.length++[.lst xs])) ⟨λ_ _ e _=>e,λ_ _ _ n=>n⟩ (λ_=>rfl) (bO.cut lv c0.mO c1)
        ·rw[we (by lia)] at e1;rw[we (by rw[<- rc.len];lia)] at e2;have z:i-μ.length=0:=by
          have:=(xa.mp e1).1;simp at this;lia
         have z2:i-(h'.take h.length).length=0:=by rw[<- rc.len];exact z
         rw[z] at e1;rw[z2] at e2;simp at e1 e2;subst e1;subst e2;refine⟨vs,hb,?_⟩;rw[LG];rw[LG] at lv;exact aC.wJ (fq.to ⟨λ_ _ e _=>e,λd _ _ n l=>n (lv d l)⟩ fl)
      ·simp only[RV];exact⟨b,by rw[<- rel.len];simp,rfl⟩
     next=>exact p (μ++ν) H' e bL v r
    next=>exact p (μ++ν) H' e bL v r
   next=>exact p (μ++ν) H' e bL v r
  |tup xs=>exact p (μ++ν) H' e bL v r
  |exc c=>exact p (μ++ν) H' e bL v r
 next=>exact p (μ++ν) H' e bL v r
theorem zb6{E:XK}{c:String}{k:MV->List af->MH->Hp->Prop}(rel:Rel ct μ h H)(e:Ext μ h H (μ++ν) h' H')(bL:Rel ct (μ++ν) h' H')(p:Po ct E (Y8 h c h') μ h H k):E (.ref (ct c)) none H':=by
 unfold Y8 at p;split at p
 next t=>exact p μ H' (Ext.cut rel.len e) (rel.cut t bL)
 next=>exact p (μ++ν) H' e bL
end
end
section
variable {ct:Tx} {X:Cx} {E:XK}
section
variable {μ:List af} {h:MH} {L:af->Prop} {H:Hp} {m:MV} {v:V}
theorem Yi{i:Int}(e:Qd m=some i):m=.f (.int i):=by
 unfold Qd at e;split at e
 next=>cases e;rfl
 next=>cases e
theorem CL{i:Bool}(e:YJ m=some i):m=.f (.bl i):=by
 unfold YJ at e;split at e
 next=>cases e;rfl
 next=>cases e
theorem Qo{i:Int}(r:RV ct μ L H (.f (.int i)) v):v=.int i:=by simpa only[RV,RF] using r
theorem sH{i:Bool}(r:RV ct μ L H (.f (.bl i)) v):v=.bl i:=by simpa only[RV,RF] using r
theorem zu(i:Int):RV ct μ L H (.f (.int i)) (.int i):=by simp only[RV,RF]
theorem YE(i:Bool):RV ct μ L H (.f (.bl i)) (.bl i):=by simp only[RV,RF]
theorem zc9(i:Str):RV ct μ L H (.f (.str i)) (.str i):=by simp only[RV,RF]
theorem rX:RV ct μ L H (.f .bG) .bG:=by simp only[RV,RF]
theorem zv{xs:List MV}(rel:Rel ct μ h H)(e:MP.listOf h m=some xs)(r:RV ct μ (bc μ h) H m v):∃ a vs,v=.ref a/\Rd H a (.lst vs)/\aC ct μ (bc μ h) H xs vs:=by
 unfold MP.listOf at e;split at e
 next ys =>
  cases e;simp only[RV,RF] at r;obtain⟨a,vs,e1,_,rd,q⟩:=r;exact⟨a,vs,e1,rd,aC.wJ q⟩
 next i =>
  obtain⟨b,vs,e1,e2,q⟩:=rel.lst e;simp only[RV] at r;obtain⟨b',e3,rfl⟩:=r;rw[e1] at e3;cases e3;exact⟨b,vs,rfl,.inl e2,q⟩
 next=>cases e
theorem qC{xs:List MV}(e:Yk m=some xs)(r:RV ct μ L H m v):∃ a vs,v=.ref a/\¬ L a/\H a=some (.tup vs)/\aC ct μ L H xs vs:=by
 unfold Yk at e;split at e
 next ys =>
  cases e;simp only[RV,RF] at r;obtain⟨a,vs,e1,n,rd,q⟩:=r;exact⟨a,vs,e1,n,rd,aC.wJ q⟩
 next ys =>
  cases e;simp only[RV] at r;exact r
 next=>cases e
theorem ZD{xs:List MV}(e:qb h m=some xs):Yk m=some xs\/MP.listOf h m=some xs\/∃ ns,m=.f (.dj ns)/\xs=ns.map λi=>MV.f (.int i):=by
 unfold qb at e;split at e
 next=>exact .inl e
 next=>exact .inr (.inl e)
 next ns=>cases e;exact .inr (.inr ⟨ns,rfl,rfl⟩)
 next=>exact .inl e
 next=>exact .inr (.inl e)
 next=>cases e
noncomputable def sU(ct:Tx)(H:Hp)(b:Bool)(a:af)(vs:List V):Prop:=gH ct.K H b a vs
theorem sU.s{K:PySem.W.Frag}{b:Bool}{a:af}{vs:List V}(hK:K=ct.K)(q:sU ct H b a vs):gH K H b a vs:=by rw[hK];exact q
theorem sW{L:af->Prop}:∀ ns:List Int,aC ct μ L H (ns.map λi=>MV.f (.int i)) (ns.map V.int)
 |[]=>by simp only[xn,aC]
 |i::ns=>by
  simp only[ub,aC];exact⟨.int i,_,rfl,zu i,sW ns⟩
theorem DT{L:af->Prop}{a:af}{ns:List Int}(q:(¬ L a/\∃ o,H a=some (.eZ o (.lst (ns.map V.int))))\/Bz ct.K a ns):fG ct.K H a (ns.map V.int):=q.elim (λ⟨_,o,e⟩=>.inl (.inr ⟨o,e⟩)) .inr
theorem qB{xs:List MV}(rel:Rel ct μ h H)(e:qb h m=some xs)(r:RV ct μ (bc μ h) H m v):∃ b a vs,v=.ref a/\sU ct H b a vs/\aC ct μ (bc μ h) H xs vs:=by
 rcases ZD e with e|e|⟨ns,rfl,rfl⟩
 ·obtain⟨a,vs,q1,_,q2,q3⟩:=qC e r;exact⟨true,a,vs,q1,gc.of q2,q3⟩
 ·obtain⟨a,vs,q1,q2,q3⟩:=zv rel e r;exact⟨false,a,vs,q1,.inl q2,q3⟩
 ·simp only[RV,RF] at r;obtain⟨a,rfl,q⟩:=r;exact⟨false,a,_,rfl,DT q,sW ns⟩
theorem BC(rel:Rel ct μ h H){p:af}(hp:H p=none):¬ bc μ h p:=λl=>by obtain⟨o,e⟩:=bc.has rel l;rw[hp] at e;cases e
theorem QG{fz:Bool}{xs:List MV}{vs:List V}{Q:VK}(rel:Rel ct μ h H)(r:aC ct μ (bc μ h) H xs vs)(p:Po ct E (Zw fz xs h) μ h H (kV ct Q)):∀ a,H a=none->Q (.ref a) (upd H a (.lst vs)):=by
 intro a ha;cases fz with
 |true =>
  obtain⟨ys,e,p⟩:=Po.opt (o:=zj xs) (g:=λys=>R.ok (MV.f (.lst ys)) h) p;refine p μ _ (Ext.new rel ha _) (rel.new ha _) _ ?_;simp only[RV,RF];exact⟨a,vs,rfl,BC rel ha,.inl zf,fq.to (Ext.new rel ha _).let (aC.toF e r)⟩
 |false =>
  refine p (μ++[a]) _ (Ext.cell rel ha _ _) (rel.cell ha ?_) _ ?_
  ·exact⟨vs,zf,aC.to (Ext.cell rel ha _ _).let r⟩
  ·simp only[RV];exact⟨a,by rw[<- rel.len];simp,rfl⟩
theorem YQ{xs:List MV}{vs:List V}{a:af}(n:¬ L a)(rd:H a=some (.tup vs))(r:aC ct μ L H xs vs):RV ct μ L H (yh xs) (.ref a):=by
 unfold yh;split
 next ys e =>
  simp only[RV,RF];exact⟨a,vs,rfl,n,rd,aC.toF e r⟩
 next =>
  simp only[RV];exact⟨a,vs,rfl,n,rd,r⟩
theorem Bu{xs:List MV}{vs:List V}{Q:VK}(rel:Rel ct μ h H)(r:aC ct μ (bc μ h) H xs vs)(p:Po ct E (.ok (yh xs) h) μ h H (kV ct Q)):∀ a,H a=none->Q (.ref a) (upd H a (.tup vs)):=by
 intro a ha;refine p μ _ (Ext.new rel ha _) (rel.new ha _) _ (YQ (BC rel ha) zf ?_);have:=aC.to (ν:=[]) (Ext.new rel ha (.tup vs)).let r;simpa using this
end
noncomputable def r2(ct:Tx)(E:XK)(g:MV->MV->MH->R MV):R2:=λx y H Q=>∃ μ h mx my,Rel ct μ h H/\RV ct μ (bc μ h) H mx x/\RV ct μ (bc μ h) H my y/\Po ct E (g mx my h) μ h H (kV ct Q)
theorem Mv{i:Int}(h:i.natAbs<MP.big):aq.Int.intBits i<=2^20:=by
 refine intBits_le_iff.mpr (Wd h ?_);exact xl (by decide) (by decide)
theorem zc0:cL X (ba .Mult) (rI zK λi j=>.int (i*j)):=wI λi j _ _ _ _ _ hc q=>by
 refine mul_int q ?_
 rcases hc with c|c|⟨c,d⟩
 ·exact .of_left (jx (by lia) (by lia))
 ·exact .of_right (jx (by lia) (by lia))
 ·exact .of_bits (Mv c) (Mv d)
theorem zcv:cL X (ba .FloorDiv) (rI rV λi j=>.int (i/j)):=wI λi j _ _ _ _ _ hc q=>by
 have h1:(0:Int)<j:=hc.1;refine floordiv_int (by lia) (by rw[Wz i (by lia)];exact q) (.inl (PyProof.noPylong_of_log2 ?_));have:j.natAbs≠0:=by lia
 rcases hc.2 with c|c
 ·have:j.natAbs.log2<30:=(Nat.log2_lt (by lia)).mpr (by lia)
  lia
 ·have:j.natAbs.log2<4096:=(Nat.log2_lt (by lia)).mpr c
  lia
noncomputable def u7:R2:=λx y H Q=>∃ l b xs zs,x=.ref l/\y=.ref b/\Rd H l (.lst xs)/\Rd H b (.lst zs)/\xs.length+zs.length<=sizeLine/\∀ p,H p=none->Q (.ref p) (upd H p (.lst (xs++zs)))
theorem yc0:cL X (ba .Add) u7:=by
 intro pins s σ H x y v u Q I rx ry h;obtain⟨l,b,xs,zs,rfl,rfl,hH,hB,hz,q⟩:=h;cases rx;cases ry;obtain⟨z,aB,n,r,e⟩:=hH.ok I.aU;obtain⟨z2,gP,n2,r2,e2⟩:=hB.ok I.aU;have hl:=r.length;have HP:=r2.length;refine PySem.P.add_list e e2 ?_ (by rw[Wb,Wb];lia);have ea:aB.toArray++gP.toArray=(aB++gP).toArray:=by simp
 rw[ea];exact⟨.ref _,_,I.w4 (t':=s.toks) (r.append r2) (by rw[Xg];lia),rfl,q _ I.fresh⟩
end
theorem YO:MP.aG<=sizeLine:=by decide
section
variable {ct:Tx} {X:Cx} {E:XK}
noncomputable def CU:BO->Operator
 |.add=>.Add | .sub=>.Sub | .mul=>.Mult | .fdiv=>.FloorDiv | .mod=>.Mod | .pow=>.Pow
theorem cL.imp{f:aa->aa->Sem aa}{r r':R2}(o:cL X f r)(k:∀ x y H Q,r' x y H Q->r x y H Q):cL X f r':=λpins s σ H x y v u Q I rx ry q=>o pins s σ H x y v u Q I rx ry (k _ _ _ _ q)
theorem cL.rY{f:aa->aa->Sem aa}{r r':R2}(o:cL X f r)(o':cL X f r'):cL X f λx y H Q=>r x y H Q\/r' x y H Q:=λpins s σ H x y v u Q I rx ry q=>q.elim (o pins s σ H x y v u Q I rx ry) (o' pins s σ H x y v u Q I rx ry)
theorem sJ{fz:Bool}{op:BO}{x y:V}{H:Hp}{Q:VK}(q:r2 ct E (yf fz op) x y H Q):(∃ i j k,x=.int i/\y=.int j/\qM op i j=some k/\Q (.int k) H) \/
  ∃ μ h mx my,Qd mx=none/\Rel ct μ h H/\RV ct μ (bc μ h) H mx x/\RV ct μ (bc μ h) H my y/\Po ct E (yf fz op mx my h) μ h H (kV ct Q):=by
 obtain⟨μ,h,mx,my,rel,rx,ry,p⟩:=q;cases ex:Qd mx with
 |none=>exact .inr ⟨μ,h,mx,my,ex,rel,rx,ry,p⟩
 |some i =>
  have:=Yi ex;subst this;cases ey:Qd my with
  |none =>
   unfold yf at p;rw[ex,ey] at p;exact p.elim
  |some j =>
   have:=Yi ey;subst this;unfold yf at p;rw[ex,ey] at p;obtain⟨k,e,p⟩:=Po.opt p;refine .inl ⟨i,j,k,Qo rx,Qo ry,e,?_⟩;exact p.now rel _ (zu k)
theorem Zc6(fz:Bool):cL X (ba .Sub) (r2 ct E (yf fz .sub)):=cL.imp Zdc λx y H Q q=>by
 rcases sJ q with ⟨i,j,k,e1,e2,e3,q⟩|⟨μ,h,mx,my,ex,rel,rx,ry,p⟩
 ·cases e3;exact⟨i,j,e1,e2,q⟩
 ·exfalso;unfold yf at p;rw[ex] at p;cases ey:Qd my <;> rw[ey] at p <;> exact p.elim
theorem YcX(fz:Bool):cL X (ba .FloorDiv) (r2 ct E (yf fz .fdiv)):=cL.imp zcv λx y H Q q=>by
 rcases sJ q with ⟨i,j,k,e1,e2,e3,q⟩|⟨μ,h,mx,my,ex,rel,rx,ry,p⟩
 ·simp only[qM] at e3;split at e3
  next c=>cases e3;exact⟨i,j,e1,e2,c,q⟩
  next=>cases e3
 ·exfalso;unfold yf at p;rw[ex] at p;cases ey:Qd my <;> rw[ey] at p <;> exact p.elim
theorem Zdp(fz:Bool):cL X (ba .Mod) (r2 ct E (yf fz .mod)):=cL.imp yc9 λx y H Q q=>by
 rcases sJ q with ⟨i,j,k,e1,e2,e3,q⟩|⟨μ,h,mx,my,ex,rel,rx,ry,p⟩
 ·simp only[qM] at e3;split at e3
  next c=>cases e3;exact⟨i,j,e1,e2,c,q⟩
  next=>cases e3
 ·exfalso;unfold yf at p;rw[ex] at p;cases ey:Qd my <;> rw[ey] at p <;> exact p.elim
theorem zdk(fz:Bool):cL X (ba .Pow) (r2 ct E (yf fz .pow)):=cL.imp qdj λx y H Q q=>by
 rcases sJ q with ⟨i,j,k,e1,e2,e3,q⟩|⟨μ,h,mx,my,ex,rel,rx,ry,p⟩
 ·simp only[qM] at e3;split at e3
  next c=>cases e3;exact⟨i,j,e1,e2,⟨c.1,c.2.1,c.2.2⟩,q⟩
  next=>cases e3
 ·exfalso;unfold yf at p;rw[ex] at p;cases ey:Qd my <;> rw[ey] at p <;> exact p.elim
noncomputable def u3:R2:=λx y H Q=>∃ l k xs,x=.ref l/\y=.int k/\Rd H l (.lst xs)/\-(2^63)<=k/\k<2^63/\xs.length*k.toNat<=sizeLine/\∀ p,H p=none->Q (.ref p) (upd H p (.lst (Vc k.toNat xs).flatten))
theorem ycK:cL X (ba .Mult) u3:=by
 intro pins s σ H x y v u Q I rx ry h;obtain⟨l,k,xs,rfl,rfl,hH,h1,h2,hz,q⟩:=h;cases rx;obtain⟨t,rfl⟩:=ry;obtain⟨z,aB,n,r,e⟩:=hH.ok I.aU;have hl:=r.length;have hlen:aB.toArray.size*k.toNat<=sizeLine:=by rw[Wb,<- hl];exact hz
 have Il:¬ aB.toArray.size*k.toNat>(2^63-1)/8:=by
  have:(sizeLine:Nat)<=(2^63-1)/8:=by decide
  lia
 have Ia:¬(!aq.List.listFitsIndex k)=true:=by
  rw[fitsIndex_both h1 h2];exact xj
 have mE:¬ aq.List.listTooLong (aB.toArray.size*k.toNat)=true:=by
  rw[Mo hlen];exact xj
 have HH:wG (λx1 x2=>x1++x2) #[] (Vc (if aB.toArray.isEmpty=true then 0 else k.toNat) aB.toArray)=(Vc k.toNat aB).flatten.toArray:=by
  have f0:∀ m:Nat,wG (λx1 x2=>x1++x2) #[] (Vc m aB.toArray)=(Vc m aB).flatten.toArray:=λm=>by
   have:=Pu aB m [];rw[wg] at this;exact this
  rw[f0];cases aB with
  |nil=>simp
  |cons a r'=>rw[if_neg (by simp)]
 refine wpAny_binaryOp_repeat_ref (T:="list") (U:="int") (by decide) ⟨_,e,rfl⟩ (λs'=>iQ s' k t) noFill_list_mul F.fills_int_mul F.slot_int_rmul repeat_list F.slot_int_index.lookup
  (de F.slot_int_rmul (iQ s k t) F.entry_int_rmul (F.args_int_rmul_2 _ _) (int___rmul___int_list k t l aB.toArray n)
   ⟨e,rfl,⟨_,e,rfl⟩,de F.slot_list_mul ⟨_,e,rfl⟩ F.entry_list_mul (F.args_list_mul_2 _ _) (AutoListH.list___mul___list_int_3 l aB.toArray n k t Ia Il mE) ⟨e,?_⟩⟩)
 rw[HH];exact⟨.ref _,_,I.w4 (t':=s.toks) (r.rep k.toNat) (by rw[QcJ,Vs];exact hz),rfl,q _ I.fresh⟩
theorem aC.rep{μ:List af}{L:af->Prop}{H:Hp}{xs:List MV}{vs:List V}(r:aC ct μ L H xs vs):∀ n:Nat,aC ct μ L H (Vc n xs).flatten (Vc n vs).flatten
 |0=>by simpa using aC.nil
 |n+1=>by simp only[Uo,Xs];exact r.append (aC.rep r n)
theorem ydi(fz:Bool):cL X (ba .Mult) (r2 ct E (yf fz .mul)):=cL.imp (cL.rY zc0 ycK) λx y H Q q=>by
 rcases sJ q with ⟨i,j,k,e1,e2,e3,q⟩|⟨μ,h,mx,my,ex,rel,rx,ry,p⟩
 ·simp only[qM] at e3;split at e3
  next c=>cases e3;exact .inl ⟨i,j,e1,e2,c,q⟩
  next=>cases e3
 ·unfold yf at p;rw[ex] at p;cases ey:Qd my with
  |none=>rw[ey] at p;exact p.elim
  |some j =>
   rw[ey] at p;have:=Yi ey;subst this;obtain⟨xs,e,p⟩:=Po.opt p;obtain⟨a,vs,rfl,rd,rs⟩:=zv rel e rx;split at p
   next c =>
    have hl:=rs.length
    right
    refine⟨a,j,vs,rfl,Qo ry,rd,c.1,c.2.1,?_,QG rel (rs.rep _) p⟩;rw[hl];exact vf c.2.2 YO
   next=>exact p.elim
theorem Yc6(fz:Bool):cL X (ba .Add) (r2 ct E (yf fz .add)):=cL.imp (cL.rY qde (cL.rY ycY yc0)) λx y H Q q=>by
 rcases sJ q with ⟨i,j,k,e1,e2,e3,q⟩|⟨μ,h,mx,my,ex,rel,rx,ry,p⟩
 ·cases e3;exact .inl ⟨i,j,e1,e2,q⟩
 ·unfold yf at p;rw[ex] at p;cases ey:Qd my with
  |some j=>rw[ey] at p;exact p.elim
  |none =>
   rw[ey] at p;dsimp only at p
   right
   split at p
   next xs ys e1 e2 =>
    split at p
    next c =>
     obtain⟨a,vs,rfl,n1,Cv,r1⟩:=qC e1 rx;obtain⟨b,ws,rfl,n2,GC,r2⟩:=qC e2 ry;have h1:=r1.length;have h2:=r2.length;refine .inl ⟨a,b,vs,ws,rfl,rfl,.inl (.inl Cv),.inl (.inl GC),λz=>c.1 (xo (by rw[<- h1,z];rfl)),by rw[h1,h2];exact vf c.2 YO,λz=>?_,λz=>Bu rel (r1.append r2) p⟩;have:ys=[]:=xo (by rw[<- h2,z];rfl);subst this;rw[Xr] at p;exact p.now rel _ (YQ n1 Cv r1)
    next=>exact p.elim
   next =>
    obtain⟨xs,e1,p⟩:=Po.opt p;obtain⟨ys,e2,p⟩:=Po.opt p;split at p
    next c =>
     obtain⟨a,vs,rfl,Cv,r1⟩:=zv rel e1 rx;obtain⟨b,ws,rfl,GC,r2⟩:=zv rel e2 ry;have h1:=r1.length;have h2:=r2.length;exact .inr ⟨a,b,vs,ws,rfl,rfl,Cv,GC,by rw[h1,h2];exact vf c YO,QG rel (r1.append r2) p⟩
    next=>exact p.elim
theorem ydd(fz:Bool):∀ op:BO,cL X (ba (CU op)) (r2 ct E (yf fz op))
 |.add=>Yc6 fz | .sub=>Zc6 fz | .mul=>ydi fz | .fdiv=>YcX fz | .mod=>Zdp fz | .pow=>zdk fz
end
mutual
noncomputable def eY:FV->aD
 |.bG=>.none
 |.bl b=>.bool b
 |.int i=>.int i
 |.str s=>.str s
 |.tup xs=>.tuple (Qx xs)
 |.lst xs=>.list (Qx xs)
 |.obj _ _ _=>.none
 |.dj _=>.none
 |.tab _=>.none
 |.c9 _=>.none
noncomputable def Qx:List FV->List aD
 |[]=>[]
 |x::xs=>eY x::Qx xs
end
theorem Pf:∀ xs:List FV,Qx xs=xs.map eY
 |[]=>by simp[Qx]
 |x::xs=>by simp[Qx,Pf xs]
section
variable {ct:Tx} {X:Cx} {E:XK}
theorem D3{n:Nat}:∀ xs:List FV,(∀ x∈xs,(eY x).canLay0=true/\(eY x).depth<=n)->aD.canLayAll0 (Qx xs)=true/\aD.depthAll (Qx xs)<=n
 |[],_=>by simp[Qx,aD.canLayAll0,aD.depthAll]
 |x::xs,f=>by
  have h1:=f x (by simp);have h2:=D3 xs λy hy=>f y (by simp[hy]);simp only[Qx,aD.canLayAll0,aD.depthAll,h1.1,h2.1,Bool.and_self,true_and];have a1:=h1.2;have a2:=h2.2
  lia
theorem tH:∀(n:Nat)(x:FV),cb n x=true->(eY x).canLay0=true/\(eY x).depth<=n
 |0,x,e=>by cases x <;> simp[cb] at e
 |n+1,.bG,_=>by simp[eY,aD.canLay0,aD.depth]
 |n+1,.bl _,_=>by simp[eY,aD.canLay0,aD.depth]
 |n+1,.int _,_=>by simp[eY,aD.canLay0,aD.depth]
 |n+1,.str s,e=>by
  have e':aD.strOk s=true:=e;simp[eY,aD.canLay0,aD.depth,e']
 |n+1,.tup xs,e=>by
  have q:=D3 (n:=n) xs λx hx=>tH n x (by simp[cb] at e;exact e x hx);have q2:=q.2;simp only[eY,aD.canLay0,aD.depth,q.1,true_and]
  lia
 |n+1,.lst xs,e=>by
  have q:=D3 (n:=n) xs λx hx=>tH n x (by simp[cb] at e;exact e x hx);have q2:=q.2;simp only[eY,aD.canLay0,aD.depth,q.1,true_and]
  lia
 |n+1,.obj _ _ _,e=>by simp[cb] at e
 |n+1,.dj _,e=>by simp[cb] at e
 |n+1,.tab _,e=>by simp[cb] at e
 |n+1,.c9 _,e=>by simp[cb] at e
theorem DH{x:FV}(e:cb 8 x=true):SeqAt.shaped (eY x)=true:=by
 have:=tH 8 x e;unfold SeqAt.shaped;rw[this.1,Bool.true_and];exact decide_eq_true (by have:=this.2;lia)
mutual
theorem Cd:∀(n:Nat)(x y:FV),cb n x=true->cb n y=true->aD.eqv (eY x) (eY y)=fL x y
 |0,x,_,e,_=>by cases x <;> simp[cb] at e
 |n+1,.tup xs,.tup ys,e,e'=>by
  simp only[eY,aD.eqv,fL];exact EB n xs ys (by simpa[cb] using e) (by simpa[cb] using e')
 |n+1,.lst xs,.lst ys,e,e'=>by
  simp only[eY,aD.eqv,fL];exact EB n xs ys (by simpa[cb] using e) (by simpa[cb] using e')
 |n+1,.bG,y,e,e'=>by cases y <;> simp_all [cb,eY,aD.eqv,fL]
 |n+1,.bl _,y,e,e'=>by cases y <;> simp_all [cb,eY,aD.eqv,fL]
 |n+1,.int _,y,e,e'=>by cases y <;> simp_all [cb,eY,aD.eqv,fL]
 |n+1,.str _,y,e,e'=>by cases y <;> simp_all [cb,eY,aD.eqv,fL]
 |n+1,.tup _,.bG,e,e'=>by simp[eY,aD.eqv,fL]
 |n+1,.tup _,.bl _,e,e'=>by simp[eY,aD.eqv,fL]
 |n+1,.tup _,.int _,e,e'=>by simp[eY,aD.eqv,fL]
 |n+1,.tup _,.str _,e,e'=>by simp[eY,aD.eqv,fL]
 |n+1,.tup _,.lst _,e,e'=>by simp[eY,aD.eqv,fL]
 |n+1,.tup _,.obj _ _ _,e,e'=>by simp[cb] at e'
 |n+1,.tup _,.dj _,e,e'=>by simp[cb] at e'
 |n+1,.tup _,.tab _,e,e'=>by simp[cb] at e'
 |n+1,.tup _,.c9 _,e,e'=>by simp[cb] at e'
 |n+1,.lst _,.bG,e,e'=>by simp[eY,aD.eqv,fL]
 |n+1,.lst _,.bl _,e,e'=>by simp[eY,aD.eqv,fL]
 |n+1,.lst _,.int _,e,e'=>by simp[eY,aD.eqv,fL]
 |n+1,.lst _,.str _,e,e'=>by simp[eY,aD.eqv,fL]
 |n+1,.lst _,.tup _,e,e'=>by simp[eY,aD.eqv,fL]
 |n+1,.lst _,.obj _ _ _,e,e'=>by simp[cb] at e'
 |n+1,.lst _,.dj _,e,e'=>by simp[cb] at e'
 |n+1,.lst _,.tab _,e,e'=>by simp[cb] at e'
 |n+1,.lst _,.c9 _,e,e'=>by simp[cb] at e'
 |n+1,.obj _ _ _,_,e,_=>by simp[cb] at e
 |n+1,.dj _,_,e,_=>by simp[cb] at e
 |n+1,.tab _,_,e,_=>by simp[cb] at e
 |n+1,.c9 _,_,e,_=>by simp[cb] at e
theorem EB:∀(n:Nat)(xs ys:List FV),(∀ x∈xs,cb n x=true)->(∀ y∈ys,cb n y=true)->aD.eqvAll (Qx xs) (Qx ys)=kI xs ys
 |n,[],[],_,_=>by simp[Qx,aD.eqvAll,kI]
 |n,[],_::_,_,_=>by simp[Qx,aD.eqvAll,kI]
 |n,_::_,[],_,_=>by simp[Qx,aD.eqvAll,kI]
 |n,x::xs,y::ys,e,e'=>by
  simp only[Qx,aD.eqvAll,kI];rw[Cd n x y (e x (by simp)) (e' y (by simp)),EB n xs ys (λz hz=>e z (by simp[hz])) (λz hz=>e' z (by simp[hz]))]
end
mutual
theorem qP{P:aj}{w:World}{L:af->Prop}{H:Hp}{hp:Heap}(aU:fu P w H hp):∀(n:Nat)(x:FV)(v:V)(u:aa),cb n x=true->RF ct L H x v->RelV v u->∃ as,Reads hp u (eY x) as
 |0,x,_,_,e,_,_=>by cases x <;> simp[cb] at e
 |n+1,.bG,v,u,_,r,q=>by simp only[RF] at r;subst r;cases q;exact⟨_,.none⟩
 |n+1,.bl _,v,u,_,r,q=>by simp only[RF] at r;subst r;cases q;exact⟨_,.bool _⟩
 |n+1,.int _,v,u,_,r,q=>by simp only[RF] at r;subst r;obtain⟨t,rfl⟩:=q;exact⟨_,.int _ _⟩
 |n+1,.str _,v,u,_,r,q=>by simp only[RF] at r;subst r;obtain⟨t,rfl⟩:=q;exact⟨_,.str _ _⟩
 |n+1,.tup xs,v,u,e,r,q=>by
  simp only[RF] at r;obtain⟨a,vs,rfl,_,rd,rs⟩:=r;cases q;obtain⟨z,aB,rv,o,e1,e2,k,e3⟩:=(Rd.of rd).ok aU;obtain⟨as,ra⟩:=QC aU n xs vs aB (by simpa[cb] using e) rs rv;exact⟨as,iW e1 e2 e3 ra⟩
 |n+1,.lst xs,v,u,e,r,q=>by
  simp only[RF] at r;obtain⟨a,vs,rfl,_,rd,rs⟩:=r;cases q;obtain⟨z,aB,k,rv,e1⟩:=rd.ok aU;obtain⟨as,ra⟩:=QC aU n xs vs aB (by simpa[cb] using e) rs rv;exact⟨_,jt e1 rfl rfl ra⟩
 |n+1,.obj _ _ _,_,_,e,_,_=>by simp[cb] at e
 |n+1,.dj _,_,_,e,_,_=>by simp[cb] at e
 |n+1,.tab _,_,_,e,_,_=>by simp[cb] at e
 |n+1,.c9 _,_,_,e,_,_=>by simp[cb] at e
theorem QC{P:aj}{w:World}{L:af->Prop}{H:Hp}{hp:Heap}(aU:fu P w H hp):∀(n:Nat)(xs:List FV)(vs:List V)(us:List aa),(∀ x∈xs,cb n x=true)->fq ct L H xs vs->Vals vs us->∃ as,ReadsAll hp us (Qx xs) as
 |n,[],vs,us,_,r,q=>by simp only[fq] at r;subst r;cases q;exact⟨[],by simpa only[Qx] using ReadsAll.nil⟩
 |n,x::xs,vs,us,e,r,q=>by
  simp only[fq] at r;obtain⟨v,t,rfl,r1,r2⟩:=r;cases q with
  |cons q1 q2 =>
   obtain⟨as,h1⟩:=qP aU n x v _ (e x (by simp)) r1 q1;obtain⟨bs,h2⟩:=QC aU n xs t _ (λz hz=>e z (by simp[hz])) r2 q2;exact⟨as++bs,by simp only[Qx];exact .cons h1 h2⟩
end
noncomputable abbrev CS:af->Prop:=λ_=>False
section
variable {μ:List af} {h:MH} {H:Hp}
theorem Cg{g:MV->Option FV}:∀{xs:List MV}{ys:List FV}{vs:List V},xs.mapM g=some ys->aC ct μ (bc μ h) H xs vs ->
  (∀ x∈xs,∀ y v,g x=some y->RV ct μ (bc μ h) H x v->RF ct CS H y v)->fq ct CS H ys vs
 |[],ys,vs,e,r,_=>by
  simp at e;subst e;simp only[aC] at r;subst r;simp only[fq]
 |x::xs,ys,vs,e,r,f=>by
  simp only[xp,Ut,uc,Option.pure_def,Option.some.injEq] at e;obtain⟨y,e1,zs,e2,rfl⟩:=e;simp only[aC] at r;obtain⟨v,t,rfl,r1,r2⟩:=r;simp only[fq];exact⟨v,t,rfl,f x (by simp) y v e1 r1,Cg e2 r2 λz hz=>f z (by simp[hz])⟩
theorem Yv(rel:Rel ct μ h H):∀(n:Nat)(m:MV)(x:FV)(v:V),yn h n m=some x->RV ct μ (bc μ h) H m v->RF ct CS H x v
 |0,m,x,v,e,_=>by simp[yn] at e
 |n+1,.f y,x,v,e,r=>by
  simp[yn] at e;subst e;simp only[RV] at r;exact RF.to ⟨λ_ _ e _=>e,λ_ _ _ _ z=>z⟩ r
 |n+1,.tup xs,x,v,e,r=>by
  simp only[yn,Vd] at e;obtain⟨ys,e1,rfl⟩:=e;simp only[RV] at r;obtain⟨a,vs,rfl,na,rd,q⟩:=r;simp only[RF];exact⟨a,vs,rfl,λz=>z,rd,Cg e1 q λz hz y u ez ru=>Yv rel n z y u ez ru⟩
 |n+1,.ref i,x,v,e,r=>by
  simp only[yn,uc,Vd] at e;obtain⟨xs,e0,ys,e1,rfl⟩:=e;simp only[RV] at r;obtain⟨b,eb,rfl⟩:=r;obtain⟨b',vs,iM,hb,q⟩:=rel.lst e0;rw[eb] at iM;cases iM;simp only[RF];exact⟨b,vs,rfl,λz=>z,.inl hb,Cg e1 q λz hz y u ez ru=>Yv rel n z y u ez ru⟩
 |n+1,.exc _,x,v,e,_=>by simp[yn] at e
end
noncomputable def lB:CO->fR
 |.lt=>.Lt | .le=>.LtE | .gt=>.Gt | .ge=>.GtE | .eq=>.Eq | .ne=>.NotEq | .iZ=>.In | .rZ=>.NotIn
noncomputable def nj(ct:Tx)(op:CO):R2:=λx y H Q=>∃ μ h mx my b,Rel ct μ h H/\RV ct μ (bc μ h) H mx x/\RV ct μ (bc μ h) H my y/\yI op mx my h=some b/\Q (.bl b) H
theorem B5{op:CO}{x y:V}{H:Hp}{Q:VK}(ho:∀ mx my h,yI op mx my h=(Qd mx).bind λi=>(Qd my).bind λj=>rL op i j)(q:nj ct op x y H Q):∃ i j b,x=.int i/\y=.int j/\rL op i j=some b/\Q (.bl b) H:=by
 obtain⟨μ,h,mx,my,b,rel,rx,ry,e,q⟩:=q;rw[ho] at e;simp only[uc] at e;obtain⟨i,e1,j,e2,e3⟩:=e;have:=Yi e1;subst this;have:=Yi e2;subst this;exact⟨i,j,b,Qo rx,Qo ry,e3,q⟩
theorem wL:cL X (aP .Lt) (nj ct .lt):=cL.imp vZ λx y H Q q=>by
 obtain⟨i,j,b,e1,e2,e3,q⟩:=B5 (λ_ _ _=>rfl) q;cases e3;exact⟨i,j,e1,e2,q⟩
theorem wM:cL X (aP .LtE) (nj ct .le):=cL.imp v7 λx y H Q q=>by
 obtain⟨i,j,b,e1,e2,e3,q⟩:=B5 (λ_ _ _=>rfl) q;cases e3;exact⟨i,j,e1,e2,q⟩
theorem wO:cL X (aP .Gt) (nj ct .gt):=cL.imp v8 λx y H Q q=>by
 obtain⟨i,j,b,e1,e2,e3,q⟩:=B5 (λ_ _ _=>rfl) q;cases e3;exact⟨i,j,e1,e2,q⟩
theorem wQ:cL X (aP .GtE) (nj ct .ge):=cL.imp v9 λx y H Q q=>by
 obtain⟨i,j,b,e1,e2,e3,q⟩:=B5 (λ_ _ _=>rfl) q;cases e3;exact⟨i,j,e1,e2,q⟩
theorem Ox{x y:FV}{b:Bool}(e:jX x y=some b):cb 8 x=true/\cb 8 y=true/\fL x y=b:=by
 unfold jX at e;split at e
 next c=>cases e;exact⟨c.1,c.2,rfl⟩
 next=>cases e
theorem wR(hu:X.A.units+65<c7):cL X (aP .Eq) (nj ct .eq):=by
 intro pins s σ H x y v u Q I rx ry q;obtain⟨μ,h,mx,my,b,rel,r1,r2,e,q⟩:=q;simp only[yI,uc] at e;obtain⟨a,e1,c,e2,e3⟩:=e;obtain⟨d1,d2,e4⟩:=Ox e3;obtain⟨as,ra⟩:=qP I.aU 8 a x v d1 (Yv rel 5 mx a x e1 r1) rx;obtain⟨bs,rb⟩:=qP I.aU 8 c y u d2 (Yv rel 5 my c y e2 r2) ry;refine eq_dataH ra rb (DH d1) (DH d2) (by lia) ?_;rw[Cd 8 a c d1 d2,e4];exact⟨.bl b,H,I,rfl,q⟩
theorem wK(hu:X.A.units+65<c7):cL X (aP .NotEq) (nj ct .ne):=by
 intro pins s σ H x y v u Q I rx ry q;obtain⟨μ,h,mx,my,b,rel,r1,r2,e,q⟩:=q;simp only[yI,uc,Vd] at e;obtain⟨a,e1,c,e2,b',e3,rfl⟩:=e;obtain⟨d1,d2,e4⟩:=Ox e3;obtain⟨as,ra⟩:=qP I.aU 8 a x v d1 (Yv rel 5 mx a x e1 r1) rx;obtain⟨bs,rb⟩:=qP I.aU 8 c y u d2 (Yv rel 5 my c y e2 r2) ry;refine ne_dataH ra rb (DH d1) (DH d2) (by lia) ?_;rw[Cd 8 a c d1 d2,e4];exact⟨.bl _,H,I,rfl,q⟩
end
end SD
end
section
namespace HT
open PySem PyProof.Rows
section
variable {prog:aj} {w:World} {A:ay} {E:aa->ag->Prop} {s:ag}
theorem f'{t sl:af}{items:Array aa}{vl vu:aa}{lo hi:Option Int}{Q:aa->ag->Prop}(ht:fQ s.heap t items)(hs:s.heap.IsSliceOf sl vl vu .none)(pl:fj vl lo)(pu:fj vu hi)
  (hw:cx items.size 0 lo=0/\cx items.size items.size hi=items.size) (h:Q (.ref t) s):ai (ak prog w) A (getItem (.ref t) (.ref sl)) Q E s:=by
 obtain⟨os,pS,nU,Az⟩:=id hs;have Ir:s.TypeIs (.ref sl) "slice":=⟨os,pS,nU⟩;unfold getItem
 try with_reducible refine aO ?_
 first|refine ae (ah ?_)|skip
 refine ae (gK ht.typeIs (by decide) ?_);refine ae (aY (name:=Str.ofString "__getitem__") ht.typeIs PyProof.Rows.slot_tuple_getitem
  (bo PyProof.Rows.slot_tuple_getitem ht.typeIs entry_tuple_getitem ?_ (gF _ _)))
 show ai _ _ (aq.Tuple.tupleItemsOf (.ref t) >>= _) _ _ s;refine ae (jn ht ?_);refine ae (cO Ir ?_);rw[if_pos (by decide)];refine ae (zR hs pl pu ?_);have Hr:(((cx items.size 0 lo:Nat):Int)==0&&(1:Int)==1&&(cx items.size items.size hi-cx items.size 0 lo)==items.size)=true:=by
  rw[hw.1,hw.2];simp
 show ai _ _ (if(((cx items.size 0 lo:Nat):Int)==0&&(1:Int)==1&&(cx items.size items.size hi-cx items.size 0 lo)==items.size)=true then _ else _) _ _ s;rw[if_pos Hr];unfold aq.Tuple.tupleIsExact;refine ae (ae (cO ht.typeIs (ah ?_)));rw[if_pos (by decide)]
 first
  |exact ae (cA (ae (ah (ah ⟨_,rfl,ah h⟩))))
  |exact ae (cA (ah ⟨_,rfl,ah h⟩))
  |exact ae (cA (ae (ah ⟨_,rfl,ah h⟩)))
end
end HT
namespace SD
open PySem PySem.Spec PyProof.Rows L2 L3 M3 MP
section
variable {ct:Tx} {X:Cx} {E:XK}
theorem Ycz{x:FV}{ys:List FV}{b:Bool}(e:pO x ys=some b):cb 8 x=true/\(∀ y∈ys,cb 8 y=true)/\ys.any (λy=>fL y x)=b:=by
 unfold pO at e;split at e
 next c=>cases e;exact⟨c.1,by simpa using c.2,rfl⟩
 next=>cases e
theorem zcY{x:FV}{ys:List FV}(hx:cb 8 x=true)(hy:∀ y∈ys,cb 8 y=true):(Qx ys).any (λy=>aD.eqv y (eY x))=ys.any λy=>fL y x:=by
 rw[Pf,UD]
 induction ys with
 |nil=>rfl
 |cons y ys ih =>
  simp only[xv,xr];rw[Cd 8 y x (hy y (by simp)) hx,ih λz hz=>hy z (by simp[hz])]
theorem OM{μ:List af}{h:MH}{H:Hp}{mx my:MV}{ys:List MV}{a:FV}{bs:List FV}{x y:V}{v u:aa}{b:Bool}{pins:List (af×Obj)}{σ:L2.St}{s:ag}(hK:X.K=ct.K)(I:Inv X pins σ H s)(rel:Rel ct μ h H)(rx:RelV x v)(ry:RelV y u)
  (r1:RV ct μ (bc μ h) H mx x) (r2:RV ct μ (bc μ h) H my y) (e1:yJ h mx=some a) (e2:qb h my=some ys) (e3:ys.mapM (yJ h)=some bs) (e4:pO a bs=some b) :
  (∃ as sD,(Reads s.heap u (.list (Qx bs)) as\/Reads s.heap u (.tuple (Qx bs)) as)/\Reads s.heap v (eY a) sD)/\aD.canLayAll0 (Qx bs)=true/\(eY a).canLay0=true/\aD.depthAll (Qx bs)<=8/\(Qx bs).any (λy=>aD.eqv y (eY a))=b:=by
 obtain⟨d1,d2,e5⟩:=Ycz e4;obtain⟨sD,ra⟩:=qP I.aU 8 a x v d1 (Yv rel 5 mx a x e1 r1) rx;obtain⟨k,p,vs,rfl,sq,rs⟩:=qB rel e2 r2;cases ry;have rf:fq ct CS H bs vs:=Cg e3 rs λz hz y u ez ru=>Yv rel 5 z y u ez ru;have ll:=D3 (n:=8) bs λy hy=>tH 8 y (d2 y hy);refine⟨?_,ll.1,(tH 8 a d1).1,ll.2,by rw[zcY d1 d2];exact e5⟩;cases k with
 |true =>
  obtain⟨aB,rv,⟨o,q1,q2,n,q3⟩,_⟩:=I.tuple (show gc X.K H p vs from sq.s hK);obtain⟨as,rb⟩:=QC I.aU 8 bs vs aB d2 rf rv;exact⟨as,sD,.inr (iW q1 q2 q3 rb),ra⟩
 |false =>
  obtain⟨aB,rv,⟨o,n,q1,q2,_,q3⟩,_⟩:=I.list (show fG X.K H p vs from sq.s hK);obtain⟨as,rb⟩:=QC I.aU 8 bs vs aB d2 rf rv;exact⟨_,sD,.inl (jt q1 q2 q3 rb),ra⟩
theorem wN(hK:X.K=ct.K)(hu:X.A.units+65<c7):cL X (aP .In) (nj ct .iZ):=by
 intro pins s σ H x y v u Q I rx ry q;obtain⟨μ,h,mx,my,b,rel,r1,r2,e,q⟩:=q;simp only[yI,uc] at e;obtain⟨a,e1,ys,e2,bs,e3,e4⟩:=e;obtain⟨⟨as,sD,rb,ra⟩,l1,l2,l3,e5⟩:=OM hK I rel rx ry r1 r2 e1 e2 e3 e4
 rcases rb with rb|rb
 ·exact SeqAt.in_list_reads rb ra l1 l2 (by have:=Vw (aD.depthAll (Qx bs)) (eY a).depth;lia) (by rw[e5];exact⟨.bl b,H,I,rfl,q⟩)
 ·exact SeqAt.in_tuple_reads rb ra l1 l2 (by have:=Vw (aD.depthAll (Qx bs)) (eY a).depth;lia) (by rw[e5];exact⟨.bl b,H,I,rfl,q⟩)
theorem qdo(hK:X.K=ct.K)(hu:X.A.units+65<c7):cL X (aP .NotIn) (nj ct .rZ):=by
 intro pins s σ H x y v u Q I rx ry q;obtain⟨μ,h,mx,my,b,rel,r1,r2,e,q⟩:=q;simp only[yI,uc,Vd] at e;obtain⟨a,e1,ys,e2,bs,e3,b',e4,rfl⟩:=e;obtain⟨⟨as,sD,rb,ra⟩,l1,l2,l3,e5⟩:=OM hK I rel rx ry r1 r2 e1 e2 e3 e4
 rcases rb with rb|rb
 ·exact SeqAt.notIn_list_reads rb ra l1 l2 (by have:=Vw (aD.depthAll (Qx bs)) (eY a).depth;lia) (by rw[e5];exact⟨.bl _,H,I,rfl,q⟩)
 ·exact SeqAt.notIn_tuple_reads rb ra l1 l2 (by have:=Vw (aD.depthAll (Qx bs)) (eY a).depth;lia) (by rw[e5];exact⟨.bl _,H,I,rfl,q⟩)
theorem sL(hK:X.K=ct.K)(hu:X.A.units+65<c7):∀ op:CO,cL X (aP (lB op)) (nj ct op)
 |.lt=>wL | .le=>wM | .gt=>wO | .ge=>wQ | .eq=>wR hu | .ne=>wK hu | .iZ=>wN hK hu | .rZ=>qdo hK hu
theorem OQ(n:Nat)(i:Int):jM n i=r9 n i:=rfl
noncomputable def GO(ct:Tx):R2:=λx y H Q=>∃ μ h mx k xs m,Rel ct μ h H/\RV ct μ (bc μ h) H mx x/\y=.int k/\qb h mx=some xs/\cK xs k=some m/\∀ v,RV ct μ (bc μ h) H m v->Q v H
theorem ZcN(hK:X.K=ct.K):BK X (GO ct):=by
 intro value slice pins s σ H x y v u Q I rx ry q hs;obtain⟨μ,h,mx,k,xs,m,rel,r,rfl,e1,e2,q⟩:=q;obtain⟨b,a,vs,rfl,sq,rs⟩:=qB rel e1 r;unfold cK at e2;rw[uc] at e2;obtain⟨j,e3,e4⟩:=e2;obtain⟨w,ew,rw_⟩:=rs.get e4;refine Hk X.K rfl value slice pins s σ H (.ref a) (.int k) v u Q I rx ry ⟨b,a,vs,k,w,rfl,rfl,sq.s hK,?_,q w rw_⟩ hs;unfold sC;rw[rs.length,<- OQ,e3];exact ew
theorem GV{μ:List af}{L:af->Prop}{H:Hp}{xs:List MV}{vs:List V}(r:aC ct μ L H xs vs)(lo hi:Option Int):aC ct μ L H (ZY xs lo hi) (oU vs lo hi):=by
 unfold ZY oU;rw[r.length];exact(r.drop _).take _
noncomputable def GG(ct:Tx)(E:XK)(fz:Bool):V->Option Int->Option Int->Hp->VK->Prop:=λx lo hi H Q=>∃ μ h m,Rel ct μ h H/\RV ct μ (bc μ h) H m x/\Po ct E (yW fz m lo hi h) μ h H (kV ct Q)
theorem qcY(hK:X.K=ct.K)(fz:Bool):DQ X (GG ct E fz):=by
 intro pins s σ H x v vl vu lo hi sl Q I rx hs pl pu q;obtain⟨μ,h,m,rel,r,p⟩:=q;unfold yW at p;split at p
 next xs e =>
  obtain⟨a,vs,rfl,n,rd,rs⟩:=qC e r;by_cases hw:HT.cx vs.length 0 lo=0/\HT.cx vs.length vs.length hi=vs.length
  ·cases rx;obtain⟨aB,rv,ht,hz⟩:=I.tuple (show gc X.K H a vs from .inl (.inl rd));have hlen:aB.toArray.size=vs.length:=by rw[Wb];exact rv.length.symm
   refine⟨"tuple",_,PyProof.Rows.slot_tuple_getitem.lookup,ht.typeIs,HT.f' ht hs pl pu (by rw[hlen];exact hw) ?_⟩;have hc:ZY xs lo hi=xs:=by
    have hl:=rs.length;unfold ZY;show(xs.drop (HT.cx xs.length 0 lo)).take (HT.cx xs.length xs.length hi-HT.cx xs.length 0 lo)=xs;rw[<- hl,hw.1,hw.2,um,vw,hl,wt]
   rw[hc] at p;exact⟨.ref a,H,I,rfl,p.now rel _ (YQ n rd rs)⟩
  ·exact yc6 pins s σ H (.ref a) v vl vu lo hi sl Q I rx hs pl pu ⟨a,vs,rfl,.inl (.inl rd),hw,Bu rel (GV rs lo hi) p⟩
 next e =>
  obtain⟨xs,e1,p⟩:=Po.opt p
  rcases ZD e1 with e2|e2|⟨ns,rfl,rfl⟩
  ·rw[e] at e2;cases e2
  ·obtain⟨a,vs,rfl,rd,rs⟩:=zv rel e2 r;exact Pa pins s σ H (.ref a) v vl vu lo hi sl Q I rx hs pl pu ⟨a,vs,rfl,.inl rd,QG rel (GV rs lo hi) p⟩
  ·simp only[RV,RF] at r;obtain⟨a,rfl,q⟩:=r;exact Pa pins s σ H (.ref a) v vl vu lo hi sl Q I rx hs pl pu ⟨a,_,rfl,by rw[hK];exact DT q,QG rel (GV (sW ns) lo hi) p⟩
end
section
variable {ct:Tx} {X:Cx} {E:XK}
theorem aN.imp{f:aa}{r r':List V->Hp->VK->Prop}(o:aN X f r)(k:∀ xs H Q,r' xs H Q->r xs H Q):aN X f r':=λpins s σ H xs us Q I rv q=>o pins s σ H xs us Q I rv (k _ _ _ q)
theorem aN.rY{f:aa}{r r':List V->Hp->VK->Prop}(o:aN X f r)(o':aN X f r'):aN X f λxs H Q=>r xs H Q\/r' xs H Q:=λpins s σ H xs us Q I rv q=>q.elim (o pins s σ H xs us Q I rv) (o' pins s σ H xs us Q I rv)
noncomputable def rB(ct:Tx)(E:XK)(fz:Bool)(n:String):List V->Hp->VK->Prop:=λvs H Q=>∃ μ h ms,Rel ct μ h H/\aC ct μ (bc μ h) H ms vs/\Po ct E (qm fz n ms h) μ h H (kV ct Q)
theorem zy{μ:List af}{L:af->Prop}{H:Hp}{m:MV}{vs:List V}(r:aC ct μ L H [m] vs):∃ v,vs=[v]/\RV ct μ L H m v:=by
 simp only[aC] at r;obtain⟨v,t,rfl,r1,rfl⟩:=r;exact⟨v,rfl,r1⟩
theorem Bs{μ:List af}{L:af->Prop}{H:Hp}{m m':MV}{vs:List V}(r:aC ct μ L H [m,m'] vs):∃ v v',vs=[v,v']/\RV ct μ L H m v/\RV ct μ L H m' v':=by
 simp only[aC] at r;obtain⟨v,t,rfl,r1,v',t',rfl,r2,rfl⟩:=r;exact⟨v,v',rfl,r1,r2⟩
theorem BE{μ:List af}{L:af->Prop}{H:Hp}:∀{xs:List MV}{ns:List Int}{vs:List V},Qg xs=some ns->aC ct μ L H xs vs->vs=ns.map V.int
 |[],ns,vs,e,r=>by simp[Qg] at e;subst e;simp only[aC] at r;subst r;rfl
 |.f (.int i)::xs,ns,vs,e,r=>by
  simp only[Qg,Vd] at e;obtain⟨ms,e1,rfl⟩:=e;simp only[aC] at r;obtain⟨v,t,rfl,r1,r2⟩:=r;rw[Qo r1,BE e1 r2];rfl
 |.f .bG::_,_,_,e,_=>by simp[Qg] at e
 |.f (.bl _)::_,_,_,e,_=>by simp[Qg] at e
 |.f (.str _)::_,_,_,e,_=>by simp[Qg] at e
 |.f (.tup _)::_,_,_,e,_=>by simp[Qg] at e
 |.f (.lst _)::_,_,_,e,_=>by simp[Qg] at e
 |.f (.obj _ _ _)::_,_,_,e,_=>by simp[Qg] at e
 |.f (.dj _)::_,_,_,e,_=>by simp[Qg] at e
 |.f (.tab _)::_,_,_,e,_=>by simp[Qg] at e
 |.f (.c9 _)::_,_,_,e,_=>by simp[Qg] at e
 |.ref _::_,_,_,e,_=>by simp[Qg] at e
 |.tup _::_,_,_,e,_=>by simp[Qg] at e
 |.exc _::_,_,_,e,_=>by simp[Qg] at e
theorem NY{μ:List af}{L:af->Prop}{H:Hp}:∀{xs:List MV}{ns:List Bool}{vs:List V},qu xs=some ns->aC ct μ L H xs vs->vs=ns.map V.bl
 |[],ns,vs,e,r=>by simp[qu] at e;subst e;simp only[aC] at r;subst r;rfl
 |.f (.bl i)::xs,ns,vs,e,r=>by
  simp only[qu,Vd] at e;obtain⟨ms,e1,rfl⟩:=e;simp only[aC] at r;obtain⟨v,t,rfl,r1,r2⟩:=r;rw[sH r1,NY e1 r2];rfl
 |.f .bG::_,_,_,e,_=>by simp[qu] at e
 |.f (.int _)::_,_,_,e,_=>by simp[qu] at e
 |.f (.str _)::_,_,_,e,_=>by simp[qu] at e
 |.f (.tup _)::_,_,_,e,_=>by simp[qu] at e
 |.f (.lst _)::_,_,_,e,_=>by simp[qu] at e
 |.f (.obj _ _ _)::_,_,_,e,_=>by simp[qu] at e
 |.f (.dj _)::_,_,_,e,_=>by simp[qu] at e
 |.f (.tab _)::_,_,_,e,_=>by simp[qu] at e
 |.f (.c9 _)::_,_,_,e,_=>by simp[qu] at e
 |.ref _::_,_,_,e,_=>by simp[qu] at e
 |.tup _::_,_,_,e,_=>by simp[qu] at e
 |.exc _::_,_,_,e,_=>by simp[qu] at e
theorem sU.len{H:Hp}{K:PySem.W.Frag}{b:Bool}{a:af}{vs:List V}(hK:K=ct.K)(q:sU ct H b a vs):fG K H a vs\/gc K H a vs:=by
 subst hK;cases b with
 |false=>exact .inl q
 |true=>exact .inr q
theorem ydh(hK:X.K=ct.K)(fz:Bool):aN X (.builtin "len") (rB ct E fz "len"):=aN.imp (xQ X.K) λvs H Q q=>by
 obtain⟨μ,h,ms,rel,r0,p⟩:=q
 rcases ms with _|⟨m,_|⟨m2,ms⟩⟩
 ·exact p.elim
 ·obtain⟨v,rfl,rm⟩:=zy r0;obtain⟨xs,e,p⟩:=Po.opt p;obtain⟨b,a,ws,rfl,sq,rs⟩:=qB rel e rm;exact⟨a,ws,rfl,sq.len hK,by rw[rs.length];exact p.now rel _ (zu _)⟩
 ·exact p.elim
theorem Ydq(hK:X.K=ct.K)(fz:Bool)(hc:X.calm=true):aN X (.builtin "sum") (rB ct E fz "sum"):=aN.imp (xN X.K hc) λvs H Q q=>by
 obtain⟨μ,h,ms,rel,r0,p⟩:=q
 rcases ms with _|⟨m,_|⟨m2,ms⟩⟩
 ·exact p.elim
 ·obtain⟨v,rfl,rm⟩:=zy r0;obtain⟨ns,e,p⟩:=Po.opt p;rw[uc] at e;obtain⟨xs,e1,e2⟩:=e;obtain⟨b,a,ws,rfl,sq,rs⟩:=qB rel e1 rm;have:=BE e2 rs;subst this;exact⟨b,a,ns,rfl,sq.s hK,p.now rel _ (zu _)⟩
 ·exact p.elim
theorem Ydo(hK:X.K=ct.K)(fz:Bool)(hc:X.calm=true):aN X (.builtin "all") (rB ct E fz "all"):=aN.imp (k_all X.K hc) λvs H Q q=>by
 obtain⟨μ,h,ms,rel,r0,p⟩:=q
 rcases ms with _|⟨m,_|⟨m2,ms⟩⟩
 ·exact p.elim
 ·obtain⟨v,rfl,rm⟩:=zy r0;obtain⟨ns,e,p⟩:=Po.opt p;rw[uc] at e;obtain⟨xs,e1,e2⟩:=e;obtain⟨b,a,ws,rfl,sq,rs⟩:=qB rel e1 rm;have:=NY e2 rs;subst this;exact⟨b,a,ns,rfl,sq.s hK,p.now rel _ (YE _)⟩
 ·exact p.elim
theorem ydc(hK:X.K=ct.K)(fz:Bool)(hc:X.calm=true):aN X (.builtin "min") (rB ct E fz "min"):=aN.imp (aN.rY (xO X.K hc) (Yce hc)) λvs H Q q=>by
 obtain⟨μ,h,ms,rel,r0,p⟩:=q
 rcases ms with _|⟨m,_|⟨m2,_|⟨m3,ms⟩⟩⟩
 ·exact p.elim
 ·left
  obtain⟨v,rfl,rm⟩:=zy r0;obtain⟨ns,e,p⟩:=Po.opt p;rw[uc] at e;obtain⟨xs,e1,e2⟩:=e;obtain⟨b,a,ws,rfl,sq,rs⟩:=qB rel e1 rm;have:=BE e2 rs;subst this;cases ns with
  |nil=>exact p.elim
  |cons n ns =>
   refine⟨b,a,n::ns,rfl,sq.s hK,by simp,λk hk hl=>?_⟩;have:k=nr n ns:=by
    have a1:=hl _ (Kg (r:=n::ns) (by simp));have a2:=QcI (r:=n::ns) hk;exact Int.le_antisymm a1 a2
   subst this;exact p.now rel _ (zu _)
 ·right
  obtain⟨v,v',rfl,rm,uY⟩:=Bs r0;obtain⟨i,e,p⟩:=Po.opt p;obtain⟨j,e',p⟩:=Po.opt p;have:=Yi e;subst this;have:=Yi e';subst this;rw[Qo rm,Qo uY];exact⟨i,j,rfl,p.now rel _ (zu _)⟩
 ·exact p.elim
theorem ydp(hK:X.K=ct.K)(fz:Bool)(hc:X.calm=true):aN X (.builtin "max") (rB ct E fz "max"):=aN.imp (aN.rY (xP X.K hc) (Zca hc)) λvs H Q q=>by
 obtain⟨μ,h,ms,rel,r0,p⟩:=q
 rcases ms with _|⟨m,_|⟨m2,_|⟨m3,ms⟩⟩⟩
 ·exact p.elim
 ·left
  obtain⟨v,rfl,rm⟩:=zy r0;obtain⟨ns,e,p⟩:=Po.opt p;rw[uc] at e;obtain⟨xs,e1,e2⟩:=e;obtain⟨b,a,ws,rfl,sq,rs⟩:=qB rel e1 rm;have:=BE e2 rs;subst this;cases ns with
  |nil=>exact p.elim
  |cons n ns =>
   refine⟨b,a,n::ns,rfl,sq.s hK,by simp,λk hk hl=>?_⟩;have:k=mZ n ns:=by
    have a1:=hl _ (KL (r:=n::ns) (by simp));have a2:=ycN (r:=n::ns) hk;exact Int.le_antisymm a2 a1
   subst this;exact p.now rel _ (zu _)
 ·right
  obtain⟨v,v',rfl,rm,uY⟩:=Bs r0;obtain⟨i,e,p⟩:=Po.opt p;obtain⟨j,e',p⟩:=Po.opt p;have:=Yi e;subst this;have:=Yi e';subst this;rw[Qo rm,Qo uY];exact⟨i,j,rfl,p.now rel _ (zu _)⟩
 ·exact p.elim
theorem Yc8(fz:Bool):aN X (.builtin "abs") (rB ct E fz "abs"):=aN.imp Yco λvs H Q q=>by
 obtain⟨μ,h,ms,rel,r0,p⟩:=q
 rcases ms with _|⟨m,_|⟨m2,ms⟩⟩
 ·exact p.elim
 ·obtain⟨v,rfl,rm⟩:=zy r0;obtain⟨i,e,p⟩:=Po.opt p;have:=Yi e;subst this;rw[Qo rm];exact⟨i,rfl,p.now rel _ (zu _)⟩
 ·exact p.elim
theorem ycC(hK:X.K=ct.K)(fz:Bool):aN X (.type "tuple") (rB ct E fz "tuple"):=aN.imp (ZcJ X.K) λvs H Q q=>by
 obtain⟨μ,h,ms,rel,r0,p⟩:=q
 rcases ms with _|⟨m,_|⟨m2,ms⟩⟩
 ·exact p.elim
 ·obtain⟨v,rfl,rm⟩:=zy r0;obtain⟨xs,e,p⟩:=Po.opt p
  rcases ZD e with e|e|⟨ns,rfl,rfl⟩
  ·obtain⟨a,ws,rfl,n,rd,rs⟩:=qC e rm;exact⟨a,ws,rfl,.inr ⟨.inl (.inl rd),p.now rel _ (YQ n rd rs)⟩⟩
  ·obtain⟨a,ws,rfl,rd,rs⟩:=zv rel e rm;exact⟨a,ws,rfl,.inl ⟨.inl rd,Bu rel rs p⟩⟩
  ·simp only[RV,RF] at rm;obtain⟨a,rfl,q⟩:=rm;exact⟨a,_,rfl,.inl ⟨by rw[hK];exact DT q,Bu rel (sW ns) p⟩⟩
 ·exact p.elim
theorem zcS(hK:X.K=ct.K)(fz:Bool):aN X (.type "list") (rB ct E fz "list"):=aN.imp (Qdo X.K) λvs H Q q=>by
 obtain⟨μ,h,ms,rel,r0,p⟩:=q
 rcases ms with _|⟨m,_|⟨m2,ms⟩⟩
 ·exact p.elim
 ·obtain⟨v,rfl,rm⟩:=zy r0;obtain⟨xs,e,p⟩:=Po.opt p;obtain⟨b,a,ws,rfl,sq,rs⟩:=qB rel e rm;exact⟨a,ws,rfl,sq.len hK,QG rel rs p⟩
 ·exact p.elim
noncomputable def rS(ct:Tx)(E:XK)(m:String):V->List V->Hp->VK->Prop:=λx vs H Q=>∃ μ h mo ms,Rel ct μ h H/\RV ct μ (bc μ h) H mo x/\aC ct μ (bc μ h) H ms vs/\Po ct E (kU m mo ms h) μ h H (kV ct Q)
theorem kL.imp{id:String}{r r':V->List V->Hp->VK->Prop}(o:kL X id r)(k:∀ x xs H Q,r' x xs H Q->r x xs H Q):kL X id r':=λpins s σ H x xs v us Q I rx rv q=>o pins s σ H x xs v us Q I rx rv (k _ _ _ _ q)
theorem B9{m:String}{mo:MV}{ms:List MV}{μ:List af}{h:MH}{H:Hp}{x:V}{k:MV->List af->MH->Hp->Prop}(rel:Rel ct μ h H)(r:RV ct μ (bc μ h) H mo x)(p:Po ct E (kU m mo ms h) μ h H k) :
  ∃ i b xs vs,mo=.ref i/\x=.ref b/\μ[i]?=some b/\yc h i=some xs/\H b=some (.lst vs)/\aC ct μ (bc μ h) H xs vs:=by
 cases mo with
 |ref i =>
  obtain⟨xs,e,_⟩:=Po.opt p;obtain⟨b,vs,e1,e2,q⟩:=rel.lst e;simp only[RV] at r;obtain⟨b',e3,rfl⟩:=r;rw[e1] at e3;cases e3;exact⟨i,b,xs,vs,rfl,rfl,e1,e,e2,q⟩
 |f _=>exact p.elim
 |tup _=>exact p.elim
 |exc _=>exact p.elim
theorem CC{μ:List af}{h:MH}{H:Hp}{i:Nat}{b:af}{xs ys:List MV}{vs:List V}{m:MV}{v:V}{Q:VK}(rel:Rel ct μ h H)(e1:μ[i]?=some b)(e:yc h i=some xs)(r:aC ct μ (bc μ h) H ys vs)(rv:RV ct μ (bc μ h) H m v)
  (p:Po ct E (.ok m (ye h i ys)) μ h H (kV ct Q)):Q v (upd H b (.lst vs)):=by
 have e2:=YU e;have ex:=Ext.set (H:=H) rel e1 e2 (λz=>nomatch z) (.lst ys) (.lst vs);refine p μ _ ex (rel.set e1 e2 (λz=>nomatch z) ⟨vs,zf,?_⟩) v (rv.ext ex);exact aC.ext ex r
theorem Qb6:kL X "list.append" (rS ct E "append"):=kL.imp qcb λx ws H Q q=>by
 obtain⟨μ,h,mo,ms,rel,r,rs,p⟩:=q;obtain⟨i,b,xs,vs,rfl,rfl,e1,e,hb,q⟩:=B9 rel r p
 rcases ms with _|⟨m,_|⟨m2,ms⟩⟩
 ·obtain⟨_,_,p⟩:=Po.opt p;exact p.elim
 ·obtain⟨v,rfl,rm⟩:=zy rs;obtain⟨_,e',p⟩:=Po.opt p;rw[e] at e';cases e';change Po ct E (if xs.length<MP.aG then _ else _) μ h H (kV ct Q) at p;split at p
  next c=>exact⟨b,vs,v,rfl,rfl,hb,by rw[q.length];exact Wd c YO,CC rel e1 e (q.append (aC.cons rm aC.nil)) rX p⟩
  next=>exact p.elim
 ·obtain⟨_,_,p⟩:=Po.opt p;exact p.elim
theorem qbH:kL X "list.reverse" (rS ct E "reverse"):=kL.imp YbT λx ws H Q q=>by
 obtain⟨μ,h,mo,ms,rel,r,rs,p⟩:=q;obtain⟨i,b,xs,vs,rfl,rfl,e1,e,hb,q⟩:=B9 rel r p
 rcases ms with _|⟨m,ms⟩
 ·simp only[aC] at rs;subst rs;obtain⟨_,e',p⟩:=Po.opt p;rw[e] at e';cases e';refine⟨b,vs,rfl,rfl,hb,CC rel e1 e (ys:=xs.reverse) ?_ rX p⟩;clear p e hb
  induction xs generalizing vs with
  |nil=>simp only[aC] at q;subst q;exact aC.nil
  |cons x xs ih =>
   simp only[aC] at q;obtain⟨v,t,rfl,r1,r2⟩:=q;simp only[xq];exact(ih t r2).append (aC.cons r1 aC.nil)
 ·obtain⟨_,_,p⟩:=Po.opt p;exact p.elim
theorem qcm:kL X "list.clear" (rS ct E "clear"):=kL.imp QcB λx ws H Q q=>by
 obtain⟨μ,h,mo,ms,rel,r,rs,p⟩:=q;obtain⟨i,b,xs,vs,rfl,rfl,e1,e,hb,q⟩:=B9 rel r p
 rcases ms with _|⟨m,ms⟩
 ·simp only[aC] at rs;subst rs;obtain⟨_,e',p⟩:=Po.opt p;rw[e] at e';cases e';exact⟨b,vs,rfl,rfl,hb,CC rel e1 e aC.nil rX p⟩
 ·obtain⟨_,_,p⟩:=Po.opt p;exact p.elim
theorem zb7:kL X "list.extend" (rS ct E "extend"):=kL.imp ybI λx ws H Q q=>by
 obtain⟨μ,h,mo,ms,rel,r,rs,p⟩:=q;obtain⟨i,b,xs,vs,rfl,rfl,e1,e,hb,q⟩:=B9 rel r p
 rcases ms with _|⟨m,_|⟨m2,ms⟩⟩
 ·obtain⟨_,_,p⟩:=Po.opt p;exact p.elim
 ·obtain⟨v,rfl,rm⟩:=zy rs;obtain⟨_,e',p⟩:=Po.opt p;rw[e] at e';cases e';change Po ct E (opt (listOf h m) λys=>if xs.length+ys.length<=MP.aG then .ok (.f .bG) (ye h i (xs++ys)) else .stuck) μ h H (kV ct Q) at p;obtain⟨ys,e3,p2⟩:=Po.opt p;obtain⟨a,ws,rfl,rd,L4⟩:=zv rel e3 rm;split at p2
  next c=>exact⟨b,a,vs,ws,rfl,rfl,hb,rd,by rw[q.length,L4.length];exact vf c YO,CC rel e1 e (q.append L4) rX p2⟩
  next=>exact p2.elim
 ·obtain⟨_,_,p⟩:=Po.opt p;exact p.elim
end
noncomputable def Ya:Expr->Bool
 |.Starred ..=>false
 |.Slice ..=>false
 |.Set ..=>false
 |_=>true
noncomputable def Yj:Expr->Bool
 |.Call (.Name x _) [] [] _=>!(x==("super":Str))
 |_=>true
noncomputable def ZM(cs sc:aA):aA :=
 {cs with names:=cs.names.map λ(n,k)=>if(k==az.free&&sc.kind == .function&&sc.names.lookup n==some .cell) then(n,az.cell) else(n,k)}
noncomputable def gl(sc:aA)(x:Str):Bool:=sc.names.lookup x==some .globalImplicit&&!(x==("__debug__":Str))&&decide (x≠("__name__":Str))
noncomputable def ny(sc:aA)(x:Str):Bool:=(sc.names.lookup x==some .local||sc.names.lookup x==some .cell||sc.names.lookup x==some .free)&&!(x==("__debug__":Str))&&!(x==("__classdict__":Str))
noncomputable def pq(lo:Str->Bool)(sc:aA)(x:Str):Bool:=sc.names.lookup x==some .local||(lo x&&sc.names.lookup x==some .cell)
noncomputable abbrev pE:Str->Bool:=λ_=>true
noncomputable abbrev pG(cs:aA):Str->Bool:=λx=>cs.names.lookup x==some .cell
mutual
noncomputable def qG(lo:Str->Bool)(N:List Str)(sc:aA):Tg->Expr->Bool
 |.nm i,.Name x _=>N[i]? == some x&&pq lo sc x
 |.tp ts,.Tuple es _ _=>mX lo N sc ts es
 |_,_=>false
noncomputable def mX(lo:Str->Bool)(N:List Str)(sc:aA):List Tg->List Expr->Bool
 |[],[]=>true
 |t::ts,e::es=>qG lo N sc t e&&mX lo N sc ts es
 |_,_=>false
end
mutual
noncomputable def lU:Tg->Expr->List Str
 |.nm _,.Name x _=>[x]
 |.tp ts,.Tuple es _ _=>tP ts es
 |_,_=>[]
noncomputable def tP:List Tg->List Expr->List Str
 |t::ts,e::es=>lU t e++tP ts es
 |_,_=>[]
end
noncomputable def OZ:Expr->Bool
 |.Tuple ..=>true
 |_=>false
noncomputable def eu:List String:=["len","sum","all","min","max","abs"]
noncomputable def dH:List String:=["tuple","list"]
noncomputable def iL:List String:=["append","extend"]
noncomputable def gO:List String:=["reverse","clear"]
noncomputable def bx:List String:=["dict","list","tuple","str","int","bool"]
noncomputable def yG:Expr->List Expr
 |.Call (.Name _ _) as [] _=>as
 |_=>[]
noncomputable def oX(tg:Expr)(it:String):Expr->Bool
 |.Call (.Name x _) as [] _=>(it == "range"&&as.length==1||it == "zip"&&OZ tg&&as.length==2||it == "enumerate"&&false&&as.length==1)&&x==Str.ofString it
 |_=>false
noncomputable def iX:ME->Bool
 |.eZ _=>false
 |.ite _ _ _=>false
 |_=>true
noncomputable def tj:Expr->Bool
 |.Constant (.bool true) _ _=>true
 |_=>false
noncomputable def sN{α:Type}:List α->Option (α×α)
 |[a,b]=>some (a,b)
 |_=>none
noncomputable def vG{α:Type}:List α->Option α
 |[a]=>some a
 |_=>none
noncomputable def Jh:Expr->Option (Expr×Expr)
 |.Dict ks vs _=>(sN ks).bind λk=>(sN vs).bind λv=>if tj v.1&&tj v.2 then k.1.bind λx=>k.2.map λy=>(x,y) else none
 |_=>none
noncomputable def rF:Expr->Option (Str×Expr)
 |.Call (.Name x _) as [] _=>(vG as).map λa=>(x,a)
 |_=>none
noncomputable def Bt(e:Expr):Option (Str×Str×Expr):=(rF e).bind λp=>(rF p.2).map λq=>(p.1,q.1,q.2)
noncomputable def nO:Expr->Bool
 |.UnaryOp .USub (.Constant (.int 1) _ _) _=>true
 |_=>false
noncomputable def EF:Expr->Option Expr
 |.Subscript x (.Slice none none (some st) _) _=>if nO st then some x else none
 |_=>none
noncomputable def JD:Option FV->Bool
 |some (.int _)=>true
 |_=>false
noncomputable def OW:List c6->Bool
 |[⟨some k,.Constant (.int 1) _ _,_⟩]=>k==("start":Str)
 |_=>false
noncomputable def ZO:Expr->Option Expr
 |.Call (.Name x _) as ks _=>if x==("enumerate":Str)&&OW ks then vG as else none
 |_=>none
noncomputable def pF(t:Expr)(sc:aA)(iter:Expr):Bool:=OZ t&&gl sc "enumerate"&&(ZO iter).isSome
noncomputable def ou(iter:Expr):Expr:=(ZO iter).getD iter
noncomputable def zdu:Expr->Option Expr
 |.Call (.Attribute l n ap) [] [] cp=>if n==("items":Str)&&Yj l&&(ap.endLine==cp.line) then some l else none
 |_=>none
section
variable (Pm:Prog)
mutual
noncomputable def yq(me:ME)(N:List Str)(sc:aA)(e:Expr):Bool:=match me,e with
 |.var i,.Name x _=>N[i]? == some x&&ny sc x
 |.cI i,.Constant (.int j) _ _=>i==j
 |.cB b,.Constant (.bool c) _ _=>b==c
 |.cN,.Constant .none _ _=>true
 |.cS s,.Constant (.str x) _ _=>s==x
 |.bin _ op a b,.BinOp l o r _=>o==CU op&&(Ya l&&yq a N sc l)&&(Ya r&&yq b N sc r)
 |.neg a,.UnaryOp .USub x _=>(Ya x&&yq a N sc x)
 |.cmp op a b,.Compare l [o] [r] _=>o==lB op&&(Ya l&&yq a N sc l)&&(Ya r&&yq b N sc r)
 |.chain op jL a b c,.Compare l [o,o'] [m,r] _=>o==lB op&&o'==lB jL&&(Ya l&&yq a N sc l)&&(Ya m&&yq b N sc m)&&(Ya r&&yq c N sc r)
 |.xV a,.Compare l [.Is] [.Constant .none _ _] _=>(Ya l&&yq a N sc l)
 |.nJ a,.Compare l [.IsNot] [.Constant .none _ _] _=>(Ya l&&yq a N sc l)
 |.and es,.BoolOp .And vs _=>es.all iX&&zo es N sc vs
 |.or es,.BoolOp .Or vs _=>es.all iX&&zo es N sc vs
 |.not a,.UnaryOp .Not x _=>iX a&&(Ya x&&yq a N sc x)
 |.ite c a b,.IfExp t x y _=>iX c&&(Ya t&&yq c N sc t)&&(Ya x&&yq a N sc x)&&(Ya y&&yq b N sc y)
 |.tup es,.Tuple vs _ _=>decide (vs.length<1000)&&zo es N sc vs
 |.lst _ es,.List vs _=>decide (vs.length<1000)&&zo es N sc vs
 |.sub a i,.Subscript x y _=>(Ya x&&yq a N sc x)&&(Ya y&&yq i N sc y)
 |.slice _ a lo hi,.Subscript x (.Slice l u none _) _=>(Ya x&&yq a N sc x)&&tx lo N sc l&&tx hi N sc u
 |.fld a n,.Attribute x m _=>m==Str.ofString n&&Yj x&&(Ya x&&yq a N sc x)
 |.glob g,.Name x _=>x==Str.ofString g&&gl sc x&&JD (Pm.dE g)
 |.kA o m es,.Call (.Attribute x n ap) vs [] cp=>n==Str.ofString m&&decide (m≠"__init__")&&Yj x&&(ap.endLine==cp.line)&&(Ya x&&yq o N sc x)&&zo es N sc vs&&decide (vs.length<30)
 |.call f es,.Call (.Name x _) (v::vs) [] _=>x==Str.ofString f&&gl sc x&&!(f.toList.contains '.')&&(Pm.defs f).isSome&&zo es N sc (v::vs)
 |.make _ c es,.Call (.Name x _) (v::vs) [] _=>x==Str.ofString c&&gl sc x&&(Pm.meths c "__init__").isSome&&zo es N sc (v::vs)
 |.make _ c [],.Call (.Name x _) [] [] _=>x==Str.ofString c&&gl sc x&&Pm.mB c&&(Pm.meths c "__init__").isNone
 |.blt _ n es,.Call (.Name x _) (v::vs) [] _=>x==Str.ofString n&&gl sc x&&(eu.contains n||dH.contains n)&&zo es N sc (v::vs)
 |.kC a t,.Call (.Name x _) [v,.Name y _] [] _=>x==("isinstance":Str)&&gl sc x&&y==Str.ofString t&&gl sc y&&(bx.contains t||(Pm.subs t t).isSome)&&(Ya v&&yq a N sc v)
 |.nE _ a,e=>match Bt e with
  |some (x,y,v)=>false
  |none=>match EF e with
   |some v=>Ya v&&yq a N sc v
   |none=>false
 |.iy a b,e=>match Jh e with
  |some (x,y)=>(Ya x&&yq a N sc x)&&(Ya y&&yq b N sc y)
  |none=>false
 |.jZ a,e=>match Bt e with
  |some (x,y,v)=>x==("sorted":Str)&&gl sc x&&y==("list":Str)&&gl sc y&&(Ya v&&yq a N sc v)
  |none=>false
 |.nN,.Dict [] [] _=>true
 |.CV a,.Call (.Name x _) [v] [] _=>x==("dict":Str)&&gl sc x&&(Ya v&&yq a N sc v)
 |.nL a b,.Call (.Attribute x n ap) [v] [] cp=>n==("update":Str)&&Yj x&&(ap.endLine==cp.line)&&(Ya x&&yq a N sc x)&&(Ya v&&yq b N sc v)
 |.nM a b,.Compare l [.NotIn] [r] _=>(Ya l&&yq a N sc l)&&(Ya r&&yq b N sc r)
 |.lm m o es,.Call (.Attribute x n ap) vs [] cp=>n==Str.ofString m&&Yj x&&(ap.endLine==cp.line)&&(Ya x&&yq o N sc x)&&zo es N sc vs&&(if vs.isEmpty then gO.contains m else iL.contains m&&decide (vs.length<30))
 |.comp _ elt tg it src cond bZ js,.ListComp x [⟨t,iter,ifs,a⟩] cs _ =>
   let N':=lU tg t++js.filterMap λj=>N[j]?
   (a==0)&&Ya iter&&ZG sc N cs N' bZ js&&decide N'.Nodup&&qG (pG cs) N' (ZM cs sc) tg t&&(Ya x&&yq elt N' (ZM cs sc) x)&&n6 cond N' (ZM cs sc) ifs &&
    (if it == "seq" then lP src N sc iter else if it == "enum1" then pF t sc iter&&lP src N sc (ou iter) else oX t it iter&&gl sc (Str.ofString it)&&zo src N sc (yG iter))
 |.eZ m,e=>(Ya e&&yq m N sc e)
 |_,_=>false
noncomputable def zo(lW:List ME)(N:List Str)(sc:aA)(es:List Expr):Bool:=match lW,es with
 |[],[]=>true
 |m::ms,e::es=>(Ya e&&yq m N sc e)&&zo ms N sc es
 |_,_=>false
noncomputable def lP(lW:List ME)(N:List Str)(sc:aA)(e:Expr):Bool:=match lW with
 |[m]=>(Ya e&&yq m N sc e)
 |_=>false
noncomputable def tx(mo:Option ME)(N:List Str)(sc:aA)(eo:Option Expr):Bool:=match mo,eo with
 |none,none=>true
 |some m,some e=>(Ya e&&yq m N sc e)
 |_,_=>false
noncomputable def n6(mo:Option ME)(N:List Str)(sc:aA)(es:List Expr):Bool:=match mo,es with
 |none,[]=>true
 |some m,[e]=>iX m&&(Ya e&&yq m N sc e)
 |_,_=>false
end
noncomputable def Yf(me:ME)(N:List Str)(sc:aA)(e:Expr):Bool:=Ya e&&yq Pm me N sc e
end
noncomputable def kQ(ct:Tx)(W:List MV->MH->R MV):Sp:=λvs H Q E=>∃ μ h ms,Rel ct μ h H/\aC ct μ (bc μ h) H ms vs/\Po ct E (W ms h) μ h H (kV ct Q)
structure oV (K:PySem.W.Frag) (C:af):Prop where
 cl:lN K C
 ha:xc K (.ref C) "__class__"=some (some (.builtin "object.__class__"))
 hn:Uu K (.builtin "object.__class__") "__get__"=some (some (.builtin "getset_descriptor.__get__"))
 tk:Ww K (.builtin "object.__class__")=some true
 hm:Wo K C (.type "object")=some true
noncomputable def LS(ct:Tx)(Pm:Prog)(wd:String):af->af->Sp:=λx C vs H Q _=>vs=[.ref x]/\∃ c s,C=ct c/\Pm.word wd c=some s/\∀ H',JV H H'->Q (.str s) H'
structure Txt (P:aj) (w:World) (K:PySem.W.Frag) (mg:Str->Option aa) (base:Heap) (Pm:Prog) (ct:Tx) (n:Nat):Prop where
 defs:∀ f d,Pm.defs f=some d->f.toList.contains '.'=false->∃ ps,tE P w K mg base (Str.ofString f) (2*n) ps (kQ ct (run Pm n f))
 kX:∀ c f,Pm.meths c "__init__"=some f->∃ ps,Ks P w K mg base (Str.ofString c) (ct c) (2*n) ps (kQ ct (run Pm n f))
 ip:∀ x∈eu++dH++bx++["range","zip","enumerate","isinstance","sorted","reversed"],mg (Str.ofString x)=none
 iw:∀ c f,Pm.iw c f=true->lN K (ct c)/\fP K (ct c) (Str.ofString f)
 cls:∀ c t b,Pm.subs c t=some b->oV K (ct c)
 md:∀ c t b,Pm.subs c t=some b->bx.contains t=false->mg (Str.ofString t)=some (.ref (ct t))/\Ug K (.ref (ct c)) (.ref (ct t))=some b
 nA:∀ c t b,Pm.subs c t=some b->bx.contains t=true->Ug K (.ref (ct c)) (.type t)=some b
 Cn:∀ t c b,Pm.subs c t=some b->bx.contains t=false->∀ T∈["NoneType","bool","int","str","list","tuple"],Ug K (.type T) (.ref (ct t))=some false
 kD:∀ c,Pm.kD c=true->l9 K (ct c)/\mg (Str.ofString c)=some (.ref (ct c))
 words:∀ wd,Pm.words wd=true->l9 K (ct "DotError")/\mg "DotError"=some (.ref (ct "DotError"))/\(∃ ps,Ma P w K mg base (Str.ofString wd) 1 ps (LS ct Pm wd)) /\
  ∀ c s,Pm.word wd c=some s->l9 K (ct c)/\(CF K (ct c)).contains (.ref (ct "DotError"))=true
 lF:∀ t,Pm.lF t=true->(if t="ValueError" then mg "ValueError"=none else mg (Str.ofString t)=some (.ref (ct t)))
 xs:∀ c t b,Pm.kN c t=some b->BN K (ct c)/\Ug K (.ref (ct c)) (if t="ValueError" then .type "ValueError" else .ref (ct t))=some b
 sA:∀ f ds,Pm.sA f ds=true->∃ ps fa fd gW,fH P w K mg base (jT P w) (2*n) fa fd ps (kQ ct (run Pm n f))/\Binds K fd ps gW/\Vals (ds.map V.int) gW/\Xe K (.ref fa)=true/\mg (Str.ofString f)=some (.ref fa)
 oZ:Pm.xt=true->l9 K (ct "DotError")/\mg "DotError"=some (.ref (ct "DotError"))/\∀ c b,Pm.kN c c=some b->l9 K (ct c)/\(CF K (ct c)).contains (.ref (ct "DotError"))=true
 meths:∀ c m f,Pm.meths c m=some f->m≠"__init__"->OU P w K mg base (2*n) (ct c) (Str.ofString m) (kQ ct (run Pm n f))
 mB:∀ c,Pm.mB c=true->D6 K (ct c)/\mg (Str.ofString c)=some (.ref (ct c))
 dE:∀ x i,Pm.dE x=some (.int i)->∃ t,mg (Str.ofString x)=some (.int i t)
structure Cc (X:Cx) (Pm:Prog) (ct:Tx) (n:Nat) (Ra:L2.St->Prop) (E:XK) (N:List Str) (sc:aA):Prop where
 txt:Txt X.prog X.w X.K X.mg X.base Pm ct n
 calm:X.calm=true
 room:dy (2*n+1) X.A
 CM:∀ σ,Ra σ->yy (jT X.prog X.w) X σ E
 nm:X.N=N
 sc:X.env.scope=sc
 nd:X.N.Nodup
 hK:X.K=ct.K
section
variable {ct:Tx} {X:Cx} {E:XK} {Pm:Prog} {n:Nat} {Ra:L2.St->Prop} {N:List Str} {sc:aA}
theorem Cc.units(c:Cc X Pm ct n Ra E N sc):X.A.units+65<c7:=by have:=c.room.un;lia
theorem zP{x:Str}(hs:X.env.scope=sc)(h:gl sc x=true):Gl X x/\(x==("__debug__":Str))=false/\x≠"__name__":=by
 unfold gl at h;simp only[Wa,beq_iff_eq,wo,decide_eq_true_eq] at h;refine⟨?_,h.1.2,h.2⟩;show X.env.scope.names.lookup x=_;rw[hs];exact h.1.1
theorem yi{e:Expr}{es:List Expr}{env:Env}(h:Ya e=true):au (e::es) env=(false,eval e env)::au es env:=by
 cases e <;> first|rfl|(simp[Ya] at h)
theorem YI{e:Expr}(h:Ya e=true)(op:fR):bF op e=false:=by
 cases e <;> first|rfl|(simp[Ya] at h)
theorem Zcw{e:Expr}(h:Ya e=true):O9 e:=by
 intro o i;cases e <;> first|rfl|(simp[Ya] at h)
theorem QW{e:Expr}{env:Env}(h:Ya e=true):∀ x,cT e env x=pure x:=by
 intro x;cases e <;> first|rfl|(simp[Ya] at h)
theorem qy{e:Expr}{f:Str}{env:Env}{w:Sem aa}(h:Yj e=true):aZ e f env w=w:=by
 cases e with
 |Call g as ks p =>
  cases g with
  |Name x q =>
   cases as with
   |nil =>
    cases ks with
    |nil =>
     have h':(x==("super":Str))=false:=by simpa[Yj] using h
     have e1:(x != ("super":Str))=true:=by simp[bne,h']
     unfold aZ;simp only[e1,Bool.true_or,if_true]
    |cons _ _=>rfl
   |cons _ _=>rfl
  |_=>rfl
 |_=>rfl
theorem Yl{me:ME}{e:Expr}(h:Yf Pm me N sc e=true):Ya e=true:=by
 unfold Yf at h;exact(wx.mp h).1
theorem ze{me:ME}{e:Expr}(h:Yf Pm me N sc e=true):yq Pm me N sc e=true:=by
 unfold Yf at h;exact(wx.mp h).2
theorem ff{P:Prop}(h:false=true):P:=Vg h
theorem QbN{m:ME}{ms:List ME}{e:Expr}{es:List Expr}(h:zo Pm (m::ms) N sc (e::es)=true):Yf Pm m N sc e=true/\zo Pm ms N sc es=true:=wx.mp (show(Yf Pm m N sc e&&zo Pm ms N sc es)=true from h)
theorem Zp{env:Env}:∀{es:List Expr},(∀ e∈es,Ya e=true)->au es env=es.map λe=>(false,eval e env)
 |[],_=>rfl
 |e::es,h=>by
  rw[yi (h e (by simp)),Zp λx hx=>h x (by simp[hx])];rfl
theorem zA{env:Env}{pos:Pos}{es:List Expr}(h:∀ e∈es,Ya e=true):(bj pos (au es env)).any (·.1)=false:=by
 rw[Zp h];unfold bj;rw[Wf,UD]
 induction es with
 |nil=>rfl
 |cons e es ih=>simp[vC]
theorem PE.imp{e:Expr}{t t':TE}(p:PE X e t)(k:∀ σ H Q,t' σ H Q->t σ H Q):PE X e t':=λpins s σ H Q I h=>p pins s σ H Q I (k σ H Q h)
theorem PT.imp{e:Expr}{t t':TT}(p:PT X e t)(k:∀ σ H Q,t' σ H Q->t σ H Q):PT X e t':=λpins s σ H Q I h=>p pins s σ H Q I (k σ H Q h)
theorem PW.imp{e:Expr}{t t':TT}(p:PW X e t)(k:∀ σ H Q,t' σ H Q->t σ H Q):PW X e t':=λwh pins s σ H Q I h=>p wh pins s σ H Q I (k σ H Q h)
theorem PA.imp{es:List Expr}{t t':TA}(p:PA X es t)(k:∀ σ H Q,t' σ H Q->t σ H Q):PA X es t':=λpos pins s σ H Q I h=>p pos pins s σ H Q I (k σ H Q h)
theorem PS.imp{e:Stmt}{t t':TS}(p:PS X e t)(k:∀ D σ H,t' D σ H->t D σ H):PS X e t':=λpins s σ H D I h=>p pins s σ H D I (k D σ H h)
theorem gZ.imp{e:List Stmt}{t t':TS}(p:gZ X e t)(k:∀ D σ H,t' D σ H->t D σ H):gZ X e t':=λpins s σ H D I h=>p pins s σ H D I (k D σ H h)
noncomputable def lG(ct:Tx)(tg:Tg):TG:=λv σ H Q=>∃ μ h σs m σs',Rel ct μ h H/\a8 ct μ h H σ σs/\RV ct μ (bc μ h) H m v/\yK tg m σs=some σs'/\∀ σ',a8 ct μ h H σ' σs'->Q σ' H
noncomputable def lGs(ct:Tx)(tgs:List Tg):om:=λvs σ H Q=>∃ μ h σs ms σs',Rel ct μ h H/\a8 ct μ h H σ σs/\aC ct μ (bc μ h) H ms vs/\YH tgs ms σs=some σs'/\∀ σ',a8 ct μ h H σ' σs'->Q σ' H
theorem PG.imp{e:Expr}{t t':TG}(p:PG X e t)(k:∀ v σ H Q,t' v σ H Q->t v σ H Q):PG X e t':=λpins s σ H v u Q I r h=>p pins s σ H v u Q I r (k v σ H Q h)
theorem nu.imp{e:List Expr}{t t':om}(p:nu X e t)(k:∀ v σ H Q,t' v σ H Q->t v σ H Q):nu X e t':=λpins s σ H v u Q I r h=>p pins s σ H v u Q I r (k v σ H Q h)
theorem EI{lo:Str->Bool}{t:Tg}{e:Expr}(h:qG lo N sc t e=true):∀(es:List Expr)(env:Env),bN (e::es) env=(false,eL e env)::bN es env:=by
 intro es env;cases t with
 |nm i=>cases e <;> first|rfl|(simp[qG] at h)
 |tp ts=>cases e <;> first|rfl|(simp[qG] at h)
theorem Lw{lo:Str->Bool}{env:Env}:∀{ts:List Tg}{es:List Expr},mX lo N sc ts es=true->(bN es env).length=ts.length/\(bN es env).findIdx? (·.1)=none
 |[],[],_=>⟨rfl,rfl⟩
 |[],_::_,h=>by simp[mX] at h
 |_::_,[],h=>by simp[mX] at h
 |t::ts,e::es,h=>by
  simp only[mX,Wa] at h;obtain⟨h1,h2⟩:=Lw (env:=env) h.2;rw[EI h.1 es env];exact⟨by simp[h1],by rw[List.findIdx?_cons];simp[h2]⟩
theorem Pn:∀{ts:List Tg}{ms:List MV}{σs σs':aF},YH ts ms σs=some σs'->ms.length=ts.length
 |[],[],_,_,_=>rfl
 |[],_::_,_,_,e=>by simp[YH] at e
 |_::_,[],_,_,e=>by simp[YH] at e
 |t::ts,m::ms,σs,σs',e=>by
  simp only[YH,uc] at e;obtain⟨σ1,_,e2⟩:=e;simp[Pn e2]
mutual
theorem sG{lo:Str->Bool}(hN:X.N=N)(hs:X.env.scope=sc)(nd:X.N.Nodup)(hc:X.calm=true)(hf:∀ x,lo x=true->X.fn x=true):∀(t:Tg)(e:Expr),qG lo N sc t e=true->PG X e (lG ct t)
 |.nm i,e,h=>by
  cases e with
  |Name x p =>
   simp only[qG,pq,Wa,beq_iff_eq,vn] at h;obtain⟨h1,h2⟩:=h;have hi:X.N[i]?=some x:=by rw[hN];exact h1
   have hk:Loc X.env.scope x:=by
    rw[hs]
    rcases h2 with h2|⟨_,h2⟩
    ·exact .inl h2
    ·exact .inr h2
   have hf':X.fn x=true\/X.env.scope.names.lookup x=some .local:=by
    rw[hs]
    rcases h2 with h2|⟨hl,h2⟩
    ·exact .inr h2
    ·exact .inl (hf x hl)
   refine PG.imp (My nd hi hk hf') λv σ H Q q=>?_;obtain⟨μ,hh,σs,m,σs',rel,aM,r,e,k⟩:=q;simp[yK] at e;subst e;exact k _ (aM.set i r)
  |_=>simp[qG] at h
 |.tp ts,e,h=>by
  cases e with
  |Tuple es k p =>
   simp only[qG] at h;obtain⟨h1,h2⟩:=Lw (env:=X.env) h;refine PG.imp (Zdl hc (LX hN hs nd hc hf ts es h) h1 h2) λv σ H Q q=>?_;obtain⟨μ,hh,σs,m,σs',rel,aM,r,e,k⟩:=q;simp only[yK,uc] at e;obtain⟨ms,e1,e2⟩:=e;obtain⟨a,vs,rfl,_,rd,rs⟩:=qC e1 r;exact⟨a,vs,rfl,.inl (.inl rd),by rw[rs.length];exact Pn e2,μ,hh,σs,ms,σs',rel,aM,rs,e2,k⟩
  |_=>simp[qG] at h
theorem LX{lo:Str->Bool}(hN:X.N=N)(hs:X.env.scope=sc)(nd:X.N.Nodup)(hc:X.calm=true)(hf:∀ x,lo x=true->X.fn x=true):∀(ts:List Tg)(es:List Expr),mX lo N sc ts es=true->nu X es (lGs ct ts)
 |[],es,h=>by
  cases es with
  |nil =>
   refine nu.imp zcJ λv σ H Q q=>?_;obtain⟨μ,hh,σs,ms,σs',rel,aM,rs,e,k⟩:=q;cases ms with
   |nil =>
    simp only[aC] at rs;subst rs;simp[YH] at e;subst e;exact⟨rfl,k _ aM⟩
   |cons m ms=>simp[YH] at e
  |cons e es=>simp[mX] at h
 |t::ts,es,h=>by
  cases es with
  |nil=>simp[mX] at h
  |cons e es =>
   simp only[mX,Wa] at h;refine nu.imp (YcA (sG hN hs nd hc hf t e h.1) (LX hN hs nd hc hf ts es h.2) (by rw[EI h.1 es X.env];rfl)) λv σ H Q q=>?_;obtain⟨μ,hh,σs,ms,σs',rel,aM,rs,e,k⟩:=q;cases ms with
   |nil=>simp[YH] at e
   |cons m ms =>
    simp only[YH,uc] at e;obtain⟨σ1,e1,e2⟩:=e;simp only[aC] at rs;obtain⟨v1,vr,rfl,r1,r2⟩:=rs;exact⟨v1,vr,rfl,μ,hh,σs,m,σ1,rel,aM,r1,e1,λσ' iB=>⟨μ,hh,σ1,ms,σs',rel,iB,r2,e2,k⟩⟩
end
end
section
variable {ct:Tx} {X:Cx} {E:XK} {Pm:Prog} {n:Nat} {Ra:L2.St->Prop} {N:List Str} {sc:aA}
theorem PI.imp{tg e:Expr}{t t':TI}(p:PI X tg e t)(k:∀ σ H Q,t' σ H Q->t σ H Q):PI X tg e t':=λpins s σ H Q I h=>p pins s σ H Q I (k σ H Q h)
noncomputable def Wk(ct:Tx)(J:It)(items:List MV)(g:qD)(μ1:List af)(h1:MH)(H1:Hp):Prop:=∀(i:Nat) μ h H,Ext μ1 h1 H1 μ h H->Rel ct μ h H->aV g h ->
 (i<items.length->J.go i H/\∀ x H2,J.nv i H x H2->∃ m,items[i]?=some m/\Ext μ h H μ h H2/\Rel ct μ h H2/\RV ct μ (bc μ h) H2 m x)/\(i=items.length->J.stop i H)
noncomputable def Bv(ct:Tx)(b:Bool)(a:af)(items:List MV)(g:qD)(μ1:List af)(h1:MH)(H1:Hp):Prop:=∀ μ h H,Ext μ1 h1 H1 μ h H->Rel ct μ h H->aV g h->∃ vs,sU ct H b a vs/\aC ct μ (bc μ h) H items vs
theorem BD{μ:List af}{h:MH}{H:Hp}{m:MV}{v:V}{items:List MV}(rel:Rel ct μ h H)(e:qb h m=some items)(r:RV ct μ (bc μ h) H m v):∃ b a,v=.ref a/\Bv ct b a items (Zc h m) μ h H:=by
 cases m with
 |f x =>
  rcases ZD e with e'|e'|⟨ns,e',rfl⟩
  ·obtain⟨a,vs,rfl,na,rd,rs⟩:=qC e' r;exact⟨true,a,rfl,λμ' h' H' ex _ _=>⟨vs,gc.of (ex.keep a _ rd na),rs.ext ex⟩⟩
  ·cases x with
   |lst xs =>
    simp only[RV,RF] at r;obtain⟨a,vs,rfl,na,rd,rs⟩:=r;cases e';exact⟨false,a,rfl,λμ' h' H' ex _ _=>⟨vs,.inl (Rd.keep (λo q=>ex.keep a o q na) rd),(aC.wJ (μ:=μ) rs).ext ex⟩⟩
   |_=>cases e'
  ·cases e';simp only[RV,RF] at r;obtain⟨a,rfl,q⟩:=r;exact⟨false,a,rfl,λμ' h' H' ex _ _=>⟨_,DT (L:=bc μ' h') (q.imp (λ⟨n,o,e⟩=>⟨ex.let.j5 a _ e n,o,ex.keep a _ e n⟩) id),sW ns⟩⟩
 |tup xs =>
  rcases ZD e with e'|e'|⟨ns,e',_⟩
  ·obtain⟨a,vs,rfl,na,rd,rs⟩:=qC e' r;exact⟨true,a,rfl,λμ' h' H' ex _ _=>⟨vs,gc.of (ex.keep a _ rd na),rs.ext ex⟩⟩
  ·cases e'
  ·cases e'
 |ref i =>
  have e0:yc h i=some items:=e;simp only[RV] at r;obtain⟨b,eb,rfl⟩:=r;refine⟨false,b,rfl,λμ' h' H' ex bL g=>?_⟩;have g':yc h' i=some items:=g (i,items) (by simp[Zc,e0]);obtain⟨b',vs,iM,hb,rs⟩:=bL.lst g';obtain⟨ν,rfl⟩:=ex.pre;rw[Ua (xa.mp eb).1,eb] at iM;cases iM;exact⟨vs,fG.of hb,rs⟩
 |exc c=>cases e
theorem aV.left{g g':qD}{h:MH}(k:aV (g++g') h):aV g h:=λp hp=>k p (Xj _ hp)
theorem aV.right{g g':qD}{h:MH}(k:aV (g++g') h):aV g' h:=λp hp=>k p (Vf _ hp)
theorem zdm{K:PySem.W.Frag}(hK:K=ct.K){b:Bool}{a:af}{items:List MV}{g:qD}{μ1:List af}{h1:MH}{H1:Hp}(st:Bv ct b a items g μ1 h1 H1):Wk ct (mR K b a) items g μ1 h1 H1:=by
 intro i μ h H ex rel gd;obtain⟨vs,sq,rs⟩:=st μ h H ex rel gd;have hl:=rs.length;refine⟨λhi=>⟨mR.go (sq.s hK) (by lia),λx H2 y=>?_⟩,λhi=>?_⟩
 ·obtain⟨rfl,e⟩:=mR.nv (sq.s hK) y;obtain⟨m,em,rm⟩:=rs.get' e;exact⟨m,em,Ext.refl _ _ _,rel,rm⟩
 ·rw[hi,<- hl];exact mR.stop (sq.s hK)
theorem qdg{K:PySem.W.Frag}(hK:K=ct.K){b1 b2:Bool}{a1 a2:af}{xs ys:List MV}{g g':qD}{μ1:List af}{h1:MH}{H1:Hp}(s1:Bv ct b1 a1 xs g μ1 h1 H1)(s2:Bv ct b2 a2 ys g' μ1 h1 H1) :
  Wk ct (Kh K b1 b2 a1 a2) ((xs.zip ys).map λp=>yh [p.1,p.2]) (g++g') μ1 h1 H1:=by
 intro i μ h H ex rel gd;obtain⟨vs,sq,rs⟩:=s1 μ h H ex rel (aV.left gd);obtain⟨ws,Gs,L5⟩:=s2 μ h H ex rel (aV.right gd);have hl:=rs.length;have sd:=L5.length;refine⟨λhi=>?_,λhi=>?_⟩
 ·simp only[wc,List.length_zip] at hi;refine⟨⟨vs,ws,sq.s hK,Gs.s hK,by lia,by lia⟩,λx H2 y=>?_⟩;obtain⟨T,x1,y1,rfl,hT,rfl,e1,e2⟩:=y;obtain⟨m1,IJ,r1⟩:=rs.get' (e1 vs (sq.s hK));obtain⟨m2,em2,r2⟩:=L5.get' (e2 ws (Gs.s hK));have sy:=Ext.new rel hT (.tup [x1,y1]);refine⟨yh [m1,m2],?_,sy,rel.new hT _,YQ (BC rel hT) zf (aC.cons (r1.ext sy) (aC.cons (r2.ext sy) aC.nil))⟩;simp only[Xb,Uz,Vd];exact⟨(m1,m2),⟨IJ,em2⟩,rfl⟩
 ·simp only[wc,List.length_zip] at hi;refine⟨vs,ws,sq.s hK,Gs.s hK,?_⟩
  lia
theorem Qdj{lo:Int}{k:Nat}{μ1:List af}{h1:MH}{H1:Hp}(f:Nat->Int)(hf:∀ i:Nat,f i=lo+i):Wk ct (D7 lo k) ((ud k).map λi=>MV.f (.int (f i))) [] μ1 h1 H1:=by
 intro i μ h H ex rel gd;refine⟨λhi=>?_,λhi=>?_⟩
 ·have mF:i<k:=by simpa using hi
  refine⟨mF,λx H2 y=>?_⟩;obtain⟨rfl,rfl⟩:=y;refine⟨.f (.int (f i)),by simp[mF],Ext.refl _ _ _,rel,?_⟩;rw[hf];exact zu _
 ·have mF:i=k:=by simpa using hi
  exact uq mF.symm
noncomputable def lI(ct:Tx)(Ra:L2.St->Prop)(E:XK)(ev:aF->MH->R (List MV))(it:String):TI:=λσ H R=>∃ μ h σs,Rel ct μ h H/\a8 ct μ h H σ σs/\Ra σ /\
 Po ct E (ev σs h) μ h H λxs μ1 h1 H1=>∃ items g,eU it xs h1=some (items,g)/\Rel ct μ1 h1 H1/\∀ J,Wk ct J items g μ1 h1 H1->R J H1
theorem Zdo(hK:X.K=ct.K){tg e:Expr}{ev:aF->MH->R MV}(h:PE X e (lE ct Ra E ev)):PI X tg e (lI ct Ra E (λσ hh=>(ev σ hh).bind λx h1=>.ok [x] h1) "seq"):=PI.imp (Hj X.K h) λσ H Q q=>by
 obtain⟨μ,hh,σs,rel,aM,ra,p⟩:=q;refine lE.mk rel aM ra p λm v μ1 h1 H1 ex av aT rv p1=>?_;obtain⟨items,g,e1,_,k⟩:=p1.now av;simp only[eU,Vd,Prod.mk.injEq] at e1;obtain⟨xs,e2,rfl,rfl⟩:=e1;obtain⟨b,a,rfl,st⟩:=BD av e2 rv;obtain⟨vs,sq,_⟩:=st μ1 h1 H1 (Ext.refl _ _ _) av (λp hp=>by
  cases m with
  |ref i =>
   have e0:yc h1 i=some xs:=e2;simp[Zc,e0] at hp;subst hp;exact e0
  |f _=>simp[Zc] at hp
  |tup _=>simp[Zc] at hp
  |exc _=>simp[Zc] at hp)
 exact⟨b,a,rfl,⟨vs,sq.s hK⟩,k _ (zdm hK st)⟩
theorem Cf{h1:MH}{m:MV}{xs:List MV}(e2:qb h1 m=some xs):aV (Zc h1 m) h1:=λp hp=>by
 cases m with
 |ref i =>
  have e0:yc h1 i=some xs:=e2;simp[Zc,e0] at hp;subst hp;exact e0
 |f _=>simp[Zc] at hp
 |tup _=>simp[Zc] at hp
 |exc _=>simp[Zc] at hp
theorem Yct{tg:Expr}{es:List Expr}{p pos:Pos}{ev:aF->MH->R (List MV)}(hg:Gl X "range")(hm:X.mg "range"=none)(ha:PA X es (lA ct Ra E ev))(cF:∀ e∈es,Ya e=true)(hl:es.length=1)(hn:∀ σ h xs h',ev σ h=.ok xs h'->xs.length=es.length) :
  PI X tg (.Call (.Name "range" p) es [] pos) (lI ct Ra E ev "range"):=by
 rcases es with _|⟨a,_|⟨b,_|⟨c,_|⟨d,es⟩⟩⟩⟩
 ·simp at hl
 ·refine PI.imp (zb9 hg hm ha (Zp cF)) λσ H Q q=>?_;obtain⟨μ,hh,σs,rel,aM,ra,p⟩:=q;refine⟨μ,hh,σs,rel,aM,ra,?_⟩;cases er:ev σs hh with
  |exc c h'=>rw[er] at p;exact p
  |stuck=>rw[er] at p;exact p
  |ok xs h' =>
   rw[er] at p;have hx:=hn _ _ _ _ er;intro μ' H' ex bL vs eQ;obtain⟨items,g,e1,_,k⟩:=p μ' H' ex bL
   rcases xs with _|⟨m,_|⟨m2,xs⟩⟩
   ·simp at hx
   ·obtain⟨v,rfl,rm⟩:=zy eQ;simp only[eU,uc] at e1;obtain⟨j,e2,e3⟩:=e1;have:=Yi e2;subst this;split at e3
    next c =>
     simp only[Option.some.injEq,Prod.mk.injEq] at e3;obtain⟨rfl,rfl⟩:=e3;rw[Qo rm];exact⟨j,rfl,c.1,c.2,k _ (Qdj _ λi=>by simp)⟩
    next=>cases e3
   ·simp at hx
 ·simp at hl
 ·simp at hl
 ·simp at hl
theorem Zde(hK:X.K=ct.K){a b:Expr}{es:List Expr}{kt:Nat}{pt p pos:Pos}{ev:aF->MH->R (List MV)}(hg:Gl X "zip")(hm:X.mg "zip"=none)(ha:PA X [a,b] (lA ct Ra E ev))(cF:∀ e∈[a,b],Ya e=true)(hn:∀ σ h xs h',ev σ h=.ok xs h'->xs.length=2) :
  PI X (.Tuple es kt pt) (.Call (.Name "zip" p) [a,b] [] pos) (lI ct Ra E ev "zip"):=by
 refine PI.imp (xM X.K hg hm ha (Zp cF) (Zp λe he=>cF e (by simp at he;simp[he]))) λσ H Q q=>?_;obtain⟨μ,hh,σs,rel,aM,ra,p⟩:=q;refine⟨μ,hh,σs,rel,aM,ra,?_⟩;cases er:ev σs hh with
 |exc c h'=>rw[er] at p;exact p
 |stuck=>rw[er] at p;exact p
 |ok xs h' =>
  rw[er] at p;have hx:=hn _ _ _ _ er;intro μ' H' ex bL vs eQ;obtain⟨items,g,e1,_,k⟩:=p μ' H' ex bL
  rcases xs with _|⟨m,_|⟨m2,_|⟨m3,xs⟩⟩⟩
  ·simp at hx
  ·simp at hx
  ·obtain⟨v,v',rfl,rm,uY⟩:=Bs eQ;simp only[eU,uc,Vd,Prod.mk.injEq] at e1;obtain⟨us,e2,ws,e3,rfl,rfl⟩:=e1;obtain⟨b1,a1,rfl,s1⟩:=BD bL e2 rm;obtain⟨b2,a2,rfl,s2⟩:=BD bL e3 uY;obtain⟨F5,q1,_⟩:=s1 _ _ _ (Ext.refl _ _ _) bL (Cf e2);obtain⟨vs2,q2,_⟩:=s2 _ _ _ (Ext.refl _ _ _) bL (Cf e3);exact⟨b1,b2,a1,a2,rfl,⟨F5,q1.s hK⟩,⟨vs2,q2.s hK⟩,k _ (qdg hK s1 s2)⟩
  ·simp at hx
end
theorem YG{a b:String}(h:Str.ofString a=Str.ofString b):a=b:=by
 rw[Str.ofString_eq_toList,Str.ofString_eq_toList] at h;injection h with h
 have h2:a.toList.map Char.toNat=b.toList.map Char.toNat:=by simpa using congrArg xD h
 have h3:a.toList=b.toList:=by
  refine(List.map_inj_right λx y e=>?_).mp h2;exact Char.ext (UInt32.toNat_inj.mp e)
 exact String.ext h3
section
variable {ct:Tx} {X:Cx} {E:XK} {Pm:Prog} {n:Nat} {Ra:L2.St->Prop} {N:List Str} {sc:aA}
noncomputable def fE(ev:aF->MH->R MV):aF->MH->R Bool:=λσ h=>(ev σ h).bind λx h1=>opt (YJ x) λk=>.ok k h1
theorem N9{ev:aF->MH->R MV}{σ:L2.St}{H:Hp}{Q:Bool->Hp->Prop}(q:lT ct Ra E (fE ev) σ H Q):lE ct Ra E ev σ H λx H'=>∃ k,x=.bl k/\Q k H':=by
 obtain⟨μ,h,σs,rel,aM,ra,p⟩:=q;refine lE.mk rel aM ra p λm v μ1 h1 H1 ex av aT rv p1=>?_;obtain⟨k,e,p2⟩:=Po.opt p1;have:=CL e;subst this;exact⟨k,sH rv,p2.now av⟩
theorem Bx{e:Expr}{t:TE}{ev:aF->MH->R MV}(p:PE X e t)(pt:PT X e (GQ t))(k:∀ σ H Q,lE ct Ra E ev σ H Q->t σ H Q):PE X e (lE ct Ra E ev)/\PT X e (lT ct Ra E (fE ev)) :=
 ⟨PE.imp p k,PT.imp pt λσ H Q q=>k σ H _ (N9 q)⟩
theorem Ze{e:Expr}{ev:aF->MH->R MV}(p:PE X e (lE ct Ra E ev))(he:∀ whole,jN e X.env whole=(do let v<-whole;iJ e.pos;cz [v] (truthy v)):=by intro _;rfl):PE X e (lE ct Ra E ev)/\PT X e (lT ct Ra E (fE ev)) :=
 ⟨p,PT.imp (ydq p he) λσ H Q q=>N9 q⟩
section
variable {ea eb ec:aF->MH->R MV} {a b c:Expr} {pos:Pos}
theorem DI{v:V}{x:FV}(h:PE X a (tC v))(r:∀ μ L H,RV ct μ L H (.f x) v):PE X a (lE ct Ra E λ_ h=>.ok (.f x) h):=PE.imp h λσ H Q q=>by
 obtain⟨μ,hh,σs,rel,aM,ra,p⟩:=q;exact p.now rel v (r _ _ _)
theorem AR{i:Nat}{x:Str}(hN:X.N[i]?=some x)(hv:ny X.env.scope x=true):PE X (.Name x pos) (lE ct Ra E λσ h=>opt ((σ[i]?).join) λv=>.ok v h):=by
 unfold ny at hv;simp only[Wa,vn,beq_iff_eq,wo] at hv;refine PE.imp (L9 hN (by rcases hv.1.1 with (h|h)|h;exact .inl h;exact .inr (.inl h);exact .inr (.inr h)) hv.1.2 hv.2) λσ H Q q=>?_;obtain⟨μ,hh,σs,rel,aM,ra,p⟩:=q;obtain⟨m,e,p⟩:=Po.opt p;have e':σs[i]?=some (some m):=by
  cases q:σs[i]? with
  |none=>rw[q] at e;cases e
  |some z=>rw[q] at e;exact congrArg some e
 obtain⟨v,e2,rv⟩:=aM.at_ i m e';exact⟨v,e2,p.now rel v rv⟩
theorem A7(fz:Bool)(op:BO)(ha:PE X a (lE ct Ra E ea))(hb:PE X b (lE ct Ra E eb)):PE X (.BinOp a (CU op) b pos) (lE ct Ra E λσ h=>(ea σ h).bind λx h1=>(eb σ h1).bind λy h2=>yf fz op x y h2) :=
 PE.imp (vT (ydd (ct:=ct) (E:=E) fz op) ha hb) λσ H Q q=>by
  obtain⟨μ,h,σs,rel,aM,ra,p⟩:=q;exact lE.mk rel aM ra p λm v μ1 h1 H1 ex av aT rv p1=>lE.mk av aT ra p1 λm2 v2 μ2 h2 H2 dJ a9 dA jg p2=>⟨μ2,h2,m,m2,a9,rv.ext dJ,jg,p2⟩
theorem AX(ha:PE X a (lE ct Ra E ea)):PE X (.UnaryOp .USub a pos) (lE ct Ra E λσ h=>(ea σ h).bind λx h1=>opt (Qd x) λi=>.ok (.f (.int (-i))) h1) :=
 PE.imp (Lb NJ ha) λσ H Q q=>by
  obtain⟨μ,h,σs,rel,aM,ra,p⟩:=q;refine lE.mk rel aM ra p λm v μ1 h1 H1 ex av aT rv p1=>?_;obtain⟨i,e,p2⟩:=Po.opt p1;have:=Yi e;subst this;exact⟨i,Qo rv,p2.now av _ (zu _)⟩
theorem A5(hK:X.K=ct.K)(op:CO)(hu:X.A.units+65<c7)(ha:PE X a (lE ct Ra E ea))(hb:PE X b (lE ct Ra E eb))(hp:Ya b=true) :
  PE X (.Compare a [lB op] [b] pos) (lE ct Ra E λσ h=>(ea σ h).bind λx h1=>(eb σ h1).bind λy h2=>opt (yI op x y h2) λk=>.ok (.f (.bl k)) h2) /\
  PT X (.Compare a [lB op] [b] pos) (lT ct Ra E (fE λσ h=>(ea σ h).bind λx h1=>(eb σ h1).bind λy h2=>opt (yI op x y h2) λk=>.ok (.f (.bl k)) h2)) :=
 Bx (ZcX (sL (ct:=ct) hK hu op) ha hb (YI hp _)) (YcU (sL (ct:=ct) hK hu op) ha hb (YI hp _)) λσ H Q q=>by
  obtain⟨μ,h,σs,rel,aM,ra,p⟩:=q;refine lE.mk rel aM ra p λm v μ1 h1 H1 ex av aT rv p1=>lE.mk av aT ra p1 λm2 v2 μ2 h2 H2 dJ a9 dA jg p2=>?_;obtain⟨k,e,p3⟩:=Po.opt p2;exact⟨μ2,h2,m,m2,k,a9,rv.ext dJ,jg,e,p3.now a9 _ (YE _)⟩
theorem qcW(hK:X.K=ct.K)(op jL:CO)(hu:X.A.units+65<c7)(ha:PE X a (lE ct Ra E ea))(hb:PE X b (lE ct Ra E eb))(hc:PE X c (lE ct Ra E ec))(hp:Ya c=true) :
  PE X (.Compare a [lB op,lB jL] [b,c] pos) (lE ct Ra E λσ h=>(ea σ h).bind λx h1=>(eb σ h1).bind λy h2=>opt (yI op x y h2) λk=>if k=true then(ec σ h2).bind λz h3=>opt (yI jL y z h3) λk=>.ok (.f (.bl k)) h3 else .ok (.f (.bl false)) h2) /\
  PT X (.Compare a [lB op,lB jL] [b,c] pos) (lT ct Ra E (fE λσ h=>(ea σ h).bind λx h1=>(eb σ h1).bind λy h2=>opt (yI op x y h2) λk=>if k=true then(ec σ h2).bind λz h3=>opt (yI jL y z h3) λk=>.ok (.f (.bl k)) h3 else .ok (.f (.bl false)) h2)) :=
 Bx (ycF (sL (ct:=ct) hK hu op) (sL (ct:=ct) hK hu jL) ha hb hc (YI hp _)) (Zcl (sL (ct:=ct) hK hu op) (sL (ct:=ct) hK hu jL) ha hb hc (YI hp _)) λσ H Q q=>by
  obtain⟨μ,h,σs,rel,aM,ra,p⟩:=q;refine lE.mk rel aM ra p λm v μ1 h1 H1 ex av aT rv p1=>lE.mk av aT ra p1 λm2 v2 μ2 h2 H2 dJ a9 dA jg p2=>?_;obtain⟨k,e,p3⟩:=Po.opt p2;refine⟨μ2,h2,m,m2,k,a9,rv.ext dJ,jg,e,k,rfl,?_⟩;cases k with
  |false=>exact p3.now a9 _ (YE _)
  |true =>
   refine lE.mk a9 dA ra p3 λm3 v3 μ3 h3 H3 gi eI mj uW p4=>?_;obtain⟨k',e',p5⟩:=Po.opt p4;exact⟨μ3,h3,m2,m3,k',eI,jg.ext gi,uW,e',p5.now eI _ (YE _)⟩
theorem EG{μ:List af}{L:af->Prop}{H:Hp}{m:MV}{v:V}(r:RV ct μ L H m v):Yx m=decide (v=.bG):=by
 cases m with
 |f x =>
  cases x with
  |bG=>simp only[RV,RF] at r;subst r;rfl
  |bl _=>simp only[RV,RF] at r;subst r;rfl
  |int _=>simp only[RV,RF] at r;subst r;rfl
  |str _=>simp only[RV,RF] at r;subst r;rfl
  |tup _=>simp only[RV,RF] at r;obtain⟨_,_,rfl,_⟩:=r;rfl
  |lst _=>simp only[RV,RF] at r;obtain⟨_,_,rfl,_⟩:=r;rfl
  |obj _ _ _=>simp only[RV,RF] at r;obtain⟨_,_,_,rfl,_⟩:=r;rfl
  |dj _=>simp only[RV,RF] at r;obtain⟨_,rfl,_⟩:=r;rfl
  |tab _=>simp only[RV,RF] at r;obtain⟨_,_,rfl,_⟩:=r;rfl
  |c9 _=>simp only[RV,RF] at r;obtain⟨_,_,rfl,_⟩:=r;rfl
 |ref _=>simp only[RV] at r;obtain⟨_,_,rfl⟩:=r;rfl
 |tup _=>simp only[RV] at r;obtain⟨_,_,rfl,_⟩:=r;rfl
 |exc _=>simp only[RV] at r;obtain⟨_,rfl,_⟩:=r;rfl
theorem A1{j:Nat}{p2:Pos}(ha:PE X a (lE ct Ra E ea)) :
  PE X (.Compare a [.Is] [.Constant .none j p2] pos) (lE ct Ra E λσ h=>(ea σ h).bind λx h1=>.ok (.f (.bl (Yx x))) h1) /\
  PT X (.Compare a [.Is] [.Constant .none j p2] pos) (lT ct Ra E (fE λσ h=>(ea σ h).bind λx h1=>.ok (.f (.bl (Yx x))) h1)) :=
 Bx (Jg (K7 ha)) (Ek (K7 ha)) λσ H Q q=>by
  obtain⟨μ,h,σs,rel,aM,ra,p⟩:=q;refine lE.mk rel aM ra p λm v μ1 h1 H1 ex av aT rv p1=>?_;rw[<- EG rv];exact p1.now av _ (YE _)
theorem qc8{j:Nat}{p2:Pos}(ha:PE X a (lE ct Ra E ea)) :
  PE X (.Compare a [.IsNot] [.Constant .none j p2] pos) (lE ct Ra E λσ h=>(ea σ h).bind λx h1=>.ok (.f (.bl (!Yx x))) h1) /\
  PT X (.Compare a [.IsNot] [.Constant .none j p2] pos) (lT ct Ra E (fE λσ h=>(ea σ h).bind λx h1=>.ok (.f (.bl (!Yx x))) h1)) :=
 Bx (Jg (Lh ha)) (Ek (Lh ha)) λσ H Q q=>by
  obtain⟨μ,h,σs,rel,aM,ra,p⟩:=q;refine lE.mk rel aM ra p λm v μ1 h1 H1 ex av aT rv p1=>?_;rw[<- EG rv];exact p1.now av _ (YE _)
theorem AW(ha:PE X a (lE ct Ra E ea))(ta:PT X a (lT ct Ra E (fE ea))) :
  PE X (.UnaryOp .Not a pos) (lE ct Ra E λσ h=>(ea σ h).bind λx h1=>opt (YJ x) λk=>.ok (.f (.bl (!k))) h1) /\
  PT X (.UnaryOp .Not a pos) (lT ct Ra E (fE λσ h=>(ea σ h).bind λx h1=>opt (YJ x) λk=>.ok (.f (.bl (!k))) h1)):=by
 refine⟨PE.imp (ydg ha) λσ H Q q=>?_,PT.imp (zdd ta) λσ H Q q=>?_⟩
 ·obtain⟨μ,h,σs,rel,aM,ra,p⟩:=q;refine lE.mk rel aM ra p λm v μ1 h1 H1 ex av aT rv p1=>?_;obtain⟨k,e,p2⟩:=Po.opt p1;have:=CL e;subst this;exact⟨k,sH rv,p2.now av _ (YE _)⟩
 ·obtain⟨μ,h,σs,rel,aM,ra,p⟩:=q;refine⟨μ,h,σs,rel,aM,ra,?_⟩;dsimp only[fE] at p ⊢;cases er:ea σs h with
  |stuck=>rw[er] at p;exact p
  |exc c h'=>rw[er] at p;exact p
  |ok x h' =>
   rw[er] at p;simp only[R.aJ] at p ⊢;cases eb:YJ x with
   |none=>rw[eb] at p;exact p
   |some k =>
    rw[eb] at p;exact p
theorem A0(tc:PT X c (lT ct Ra E (fE ec)))(ha:PE X a (lE ct Ra E ea))(hb:PE X b (lE ct Ra E eb)) :
  PE X (.IfExp c a b pos) (lE ct Ra E λσ h=>(ec σ h).bind λx h1=>opt (YJ x) λk=>if k=true then ea σ h1 else eb σ h1) :=
 PE.imp (QcF tc ha hb) λσ H Q q=>by
  obtain⟨μ,h,σs,rel,aM,ra,p⟩:=q;have p':Po ct E ((fE ec σs h).bind λk h1=>if k=true then ea σs h1 else eb σs h1) μ h H (kV ct Q):=by
   dsimp only[fE] at p ⊢;cases er:ec σs h with
   |stuck=>rw[er] at p;exact p
   |exc c h'=>rw[er] at p;exact p
   |ok x h' =>
    rw[er] at p;simp only[R.aJ] at p ⊢;cases eb:YJ x with
    |none=>rw[eb] at p;exact p
    |some k=>rw[eb] at p;exact p
  refine lT.mk rel aM ra p' λk μ1 h1 H1 ex av aT p1=>?_;cases k with
  |true=>exact⟨μ1,h1,σs,av,aT,ra,p1⟩
  |false=>exact⟨μ1,h1,σs,av,aT,ra,p1⟩
theorem A3(ha:PE X a (lE ct Ra E ea)):PE X a (lE ct Ra E λσ h=>(ea σ h).bind λx h1=>QL x h1):=PE.imp ha λσ H Q q=>by
 obtain⟨μ,h,σs,rel,aM,ra,p⟩:=q;refine lE.mk rel aM ra p λm v μ1 h1 H1 ex av aT rv p1=>?_;obtain⟨x,h',nW,bL,rv',k⟩:=OV av rv p1;exact k v rv'
theorem AU(hK:X.K=ct.K)(ha:PE X a (lE ct Ra E ea))(hb:PE X b (lE ct Ra E eb))(hp:Ya b=true) :
  PE X (.Subscript a b pos) (lE ct Ra E λσ h=>(ea σ h).bind λx h1=>(eb σ h1).bind λy h2=>opt (qb h2 x) λxs=>opt (Qd y) λk=>opt (cK xs k) λv=>.ok v h2) :=
 PE.imp (vU (ZcN (ct:=ct) hK) ha hb (Zcw hp)) λσ H Q q=>by
  obtain⟨μ,h,σs,rel,aM,ra,p⟩:=q;refine lE.mk rel aM ra p λm v μ1 h1 H1 ex av aT rv p1=>lE.mk av aT ra p1 λm2 v2 μ2 h2 H2 dJ a9 dA jg p2=>?_;obtain⟨xs,e1,p3⟩:=Po.opt p2;obtain⟨k,e2,p4⟩:=Po.opt p3;obtain⟨w,e3,p5⟩:=Po.opt p4;have:=Yi e2;subst this;exact⟨μ2,h2,m,k,xs,w,a9,rv.ext dJ,Qo jg,e1,e3,p5.now a9⟩
end
end
section
variable {ct:Tx} {X:Cx} {E:XK} {Pm:Prog} {n:Nat} {Ra:L2.St->Prop} {N:List Str} {sc:aA}
noncomputable def Bo(ct:Tx)(X:Cx)(Ra:L2.St->Prop)(E:XK)(Pm:Prog)(n:Nat):List ME->List Expr->Prop
 |[],[]=>True
 |m::ms,e::es=>(Ya e=true/\PE X e (lE ct Ra E (qa Pm (run Pm n) m))/\(iX m=true->PT X e (lT ct Ra E (fE (qa Pm (run Pm n) m)))))/\Bo ct X Ra E Pm n ms es
 |_,_=>False
theorem Bo.pa:∀{ms:List ME}{es:List Expr},Bo ct X Ra E Pm n ms es->PA X es (lA ct Ra E (yg Pm (run Pm n) ms))
 |[],[],_=>PA.imp vJ λσ H Q q=>by
  obtain⟨μ,h,σs,rel,aM,ra,p⟩:=q;simp only[yg] at p;exact p.now rel [] aC.nil
 |[],_::_,b=>b.elim
 |_::_,[],b=>b.elim
 |m::ms,e::es,b=>PA.imp (sR b.1.2.1 (Bo.pa b.2) (yi b.1.1)) λσ H Q q=>by
  obtain⟨μ,h,σs,rel,aM,ra,p⟩:=q;simp only[yg] at p;refine lE.mk rel aM ra p λm' v μ1 h1 H1 ex av aT rv p1=>?_;refine lA.mk av aT ra p1 λms' vs μ2 h2 H2 dJ a9 dA eQ p2=>?_;exact p2.now a9 _ (aC.cons (rv.ext dJ) eQ)
theorem Bo.plain:∀{ms:List ME}{es:List Expr},Bo ct X Ra E Pm n ms es->∀ e∈es,Ya e=true
 |[],[],_,e,he=>by simp at he
 |[],_::_,b,_,_=>b.elim
 |_::_,[],b,_,_=>b.elim
 |m::ms,e::es,b,x,hx=>by
  rcases ua.mp hx with rfl|hx
  ·exact b.1.1
  ·exact Bo.plain b.2 x hx
theorem Bo.length:∀{ms:List ME}{es:List Expr},Bo ct X Ra E Pm n ms es->ms.length=es.length
 |[],[],_=>rfl
 |[],_::_,b=>b.elim
 |_::_,[],b=>b.elim
 |m::ms,e::es,b=>by simp[Bo.length b.2]
theorem yR{W:String->List MV->MH->R MV}:∀{ms:List ME}{σ:aF}{h:MH}{xs:List MV}{h':MH},yg Pm W ms σ h=.ok xs h'->xs.length=ms.length
 |[],σ,h,xs,h',e=>by simp only[yg,R.ok.injEq] at e;simp[<- e.1]
 |m::ms,σ,h,xs,h',e=>by
  simp only[yg] at e;cases e1:qa Pm W m σ h with
  |stuck=>rw[e1] at e;cases e
  |exc c h2=>rw[e1] at e;cases e
  |ok x h1 =>
   rw[e1] at e;simp only[R.aJ] at e;cases e2:yg Pm W ms σ h1 with
   |stuck=>rw[e2] at e;cases e
   |exc c h2=>rw[e2] at e;cases e
   |ok ys h2 =>
    rw[e2] at e;simp only[R.aJ,R.ok.injEq] at e;rw[<- e.1,Uc,Uc,yR e2]
theorem Kv{pos:Pos}:∀{ms:List ME}{es:List Expr},Bo ct X Ra E Pm n ms es->ms.all iX=true->PE X (.BoolOp .And es pos) (lE ct Ra E (Qt Pm (run Pm n) ms))/\PW X (.BoolOp .And es pos) (lT ct Ra E (fE (Qt Pm (run Pm n) ms)))
 |[],[],_,_=>⟨λpins s σ H Q I q=>by
   obtain⟨μ,h,σs,rel,aM,ra,p⟩:=q;simp only[Qt] at p;exact p.elim,λwh pins s σ H Q I q=>by
   obtain⟨μ,h,σs,rel,aM,ra,p⟩:=q;simp only[fE,Qt] at p;exact p.elim⟩
 |[],_::_,b,_=>b.elim
 |_::_,[],b,_=>b.elim
 |[m],[e],b,ht=>by
  simp at ht;refine⟨PE.imp (NG b.1.2.1) λσ H Q q=>?_,PW.imp (zcK (b.1.2.2 ht)) λσ H Q q=>?_⟩
  ·simpa only[Qt] using q
  ·have:Qt Pm (run Pm n) [m]=qa Pm (run Pm n) m:=by funext σ h;simp only[Qt]
   rw[this] at q;exact q
 |[m],_::_::_,b,_=>b.2.elim
 |_::_::_,[_],b,_=>b.2.elim
 |m::m'::ms,e::e'::es,b,ht=>by
  have Aj:iX m=true/\(m'::ms).all iX=true:=by simpa using ht
  obtain⟨i1,i2⟩:=Kv (ms:=m'::ms) (es:=e'::es) (pos:=pos) b.2 Aj.2;refine⟨PE.imp (Qdq b.1.2.1 i1) λσ H Q q=>?_,PW.imp (zc6 (b.1.2.2 Aj.1) i2) λσ H Q q=>?_⟩
  ·obtain⟨μ,h,σs,rel,aM,ra,p⟩:=q;simp only[Qt] at p;refine lE.mk rel aM ra p λx v μ1 h1 H1 ex av aT rv p1=>?_;obtain⟨k,ek,p2⟩:=Po.opt p1;have:=CL ek;subst this;refine⟨k,sH rv,?_⟩;cases k with
   |true=>exact⟨μ1,h1,σs,av,aT,ra,p2⟩
   |false=>exact p2.now av _ (YE _)
  ·obtain⟨μ,h,σs,rel,aM,ra,p⟩:=q;have p':Po ct E ((fE (qa Pm (run Pm n) m) σs h).bind λk h1=>if k=true then fE (Qt Pm (run Pm n) (m'::ms)) σs h1 else .ok false h1) μ h H (λb _ _ H'=>Q b H'):=by
    simp only[fE,Qt] at p ⊢;cases er:qa Pm (run Pm n) m σs h with
    |stuck=>rw[er] at p;exact p
    |exc c h'=>rw[er] at p;exact p
    |ok x h' =>
     rw[er] at p;simp only[R.aJ] at p ⊢;cases eb:YJ x with
     |none=>rw[eb] at p;exact p
     |some k =>
      rw[eb] at p;cases k with
      |true=>exact p
      |false=>exact p
   refine lT.mk rel aM ra p' λk μ1 h1 H1 ex av aT p1=>?_;cases k with
   |true=>exact⟨μ1,h1,σs,av,aT,ra,p1⟩
   |false=>exact p1.now av
theorem AV{pos:Pos}:∀{ms:List ME}{es:List Expr},Bo ct X Ra E Pm n ms es->ms.all iX=true->PE X (.BoolOp .Or es pos) (lE ct Ra E (qE Pm (run Pm n) ms))/\PW X (.BoolOp .Or es pos) (lT ct Ra E (fE (qE Pm (run Pm n) ms)))
 |[],[],_,_=>⟨λpins s σ H Q I q=>by
   obtain⟨μ,h,σs,rel,aM,ra,p⟩:=q;simp only[qE] at p;exact p.elim,λwh pins s σ H Q I q=>by
   obtain⟨μ,h,σs,rel,aM,ra,p⟩:=q;simp only[fE,qE] at p;exact p.elim⟩
 |[],_::_,b,_=>b.elim
 |_::_,[],b,_=>b.elim
 |[m],[e],b,ht=>by
  simp at ht;refine⟨PE.imp (NG b.1.2.1) λσ H Q q=>?_,PW.imp (Ydg (b.1.2.2 ht)) λσ H Q q=>?_⟩
  ·simpa only[qE] using q
  ·have:qE Pm (run Pm n) [m]=qa Pm (run Pm n) m:=by funext σ h;simp only[qE]
   rw[this] at q;exact q
 |[m],_::_::_,b,_=>b.2.elim
 |_::_::_,[_],b,_=>b.2.elim
 |m::m'::ms,e::e'::es,b,ht=>by
  have Aj:iX m=true/\(m'::ms).all iX=true:=by simpa using ht
  obtain⟨i1,i2⟩:=AV (ms:=m'::ms) (es:=e'::es) (pos:=pos) b.2 Aj.2;refine⟨PE.imp (vS b.1.2.1 i1) λσ H Q q=>?_,PW.imp (vK (b.1.2.2 Aj.1) i2) λσ H Q q=>?_⟩
  ·obtain⟨μ,h,σs,rel,aM,ra,p⟩:=q;simp only[qE] at p;refine lE.mk rel aM ra p λx v μ1 h1 H1 ex av aT rv p1=>?_;obtain⟨k,ek,p2⟩:=Po.opt p1;have:=CL ek;subst this;refine⟨k,sH rv,?_⟩;cases k with
   |false=>exact⟨μ1,h1,σs,av,aT,ra,p2⟩
   |true=>exact p2.now av _ (YE _)
  ·obtain⟨μ,h,σs,rel,aM,ra,p⟩:=q;have p':Po ct E ((fE (qa Pm (run Pm n) m) σs h).bind λk h1=>if k=true then .ok true h1 else fE (qE Pm (run Pm n) (m'::ms)) σs h1) μ h H (λb _ _ H'=>Q b H'):=by
    simp only[fE,qE] at p ⊢;cases er:qa Pm (run Pm n) m σs h with
    |stuck=>rw[er] at p;exact p
    |exc c h'=>rw[er] at p;exact p
    |ok x h' =>
     rw[er] at p;simp only[R.aJ] at p ⊢;cases eb:YJ x with
     |none=>rw[eb] at p;exact p
     |some k =>
      rw[eb] at p;cases k with
      |true=>exact p
      |false=>exact p
   refine lT.mk rel aM ra p' λk μ1 h1 H1 ex av aT p1=>?_;cases k with
   |false=>exact⟨μ1,h1,σs,av,aT,ra,p1⟩
   |true=>exact p1.now av
section
variable {ea:aF->MH->R MV} {es:List Expr} {ev:aF->MH->R (List MV)} {a:Expr} {pos:Pos}
theorem AS{k:Nat}(ha:PA X es (lA ct Ra E ev))(hl:∀ σ h xs h',ev σ h=.ok xs h'->xs.length<=sizeLine):PE X (.Tuple es k pos) (lE ct Ra E λσ h=>(ev σ h).bind λxs h1=>.ok (yh xs) h1):=PE.imp (zdn ha) λσ H Q q=>by
 obtain⟨μ,h,σs,rel,aM,ra,p⟩:=q;refine⟨μ,h,σs,rel,aM,ra,?_⟩;dsimp only at p;cases er:ev σs h with
 |stuck=>rw[er] at p;exact p
 |exc c h'=>rw[er] at p;exact p
 |ok xs h' =>
  rw[er] at p;intro μ1 H1 ex av vs eQ;exact⟨by rw[eQ.length];exact hl _ _ _ _ er,Bu av eQ (Po.start ex p)⟩
theorem AZ(fz:Bool)(ha:PA X es (lA ct Ra E ev))(hl:∀ σ h xs h',ev σ h=.ok xs h'->xs.length<=sizeLine):PE X (.List es pos) (lE ct Ra E λσ h=>(ev σ h).bind λxs h1=>Zw fz xs h1):=PE.imp (Qdc ha) λσ H Q q=>by
 obtain⟨μ,h,σs,rel,aM,ra,p⟩:=q;refine⟨μ,h,σs,rel,aM,ra,?_⟩;dsimp only at p;cases er:ev σs h with
 |stuck=>rw[er] at p;exact p
 |exc c h'=>rw[er] at p;exact p
 |ok xs h' =>
  rw[er] at p;intro μ1 H1 ex av vs eQ;exact⟨by rw[eQ.length];exact hl _ _ _ _ er,QG av eQ (Po.start ex p)⟩
theorem PO.imp{e:Option Expr}{t t':TO}(p:PO X e t)(k:∀ σ H Q,t' σ H Q->t σ H Q):PO X e t':=λpins s σ H Q I h=>p pins s σ H Q I (k σ H Q h)
theorem ycI(hK:X.K=ct.K)(fz:Bool){lo hi:Option Expr}{el eh:aF->MH->R (Option Int)}{p2:Pos}(ha:PE X a (lE ct Ra E ea))(hl:PO X lo (lO ct Ra E el))(hh:PO X hi (lO ct Ra E eh)) :
  PE X (.Subscript a (.Slice lo hi none p2) pos) (lE ct Ra E λσ h=>(ea σ h).bind λx h1=>(el σ h1).bind λl h2=>(eh σ h2).bind λu h3=>yW fz x l u h3) :=
 PE.imp (Zcx (qcY (ct:=ct) (E:=E) hK fz) ha hl hh) λσ H Q q=>by
  obtain⟨μ,h,σs,rel,aM,ra,p⟩:=q;refine lE.mk rel aM ra p λm v μ1 h1 H1 ex av aT rv p1=>?_;refine lO.mk av aT ra p1 λl μ2 h2 H2 dJ a9 dA p2=>?_;refine lO.mk a9 dA ra p2 λu μ3 h3 H3 gi eI mj p3=>?_;exact⟨μ3,h3,m,eI,(rv.ext dJ).ext gi,p3⟩
theorem Mx{L:af->Prop}{H:Hp}{f:String}:∀{ns:List String}{xs:List FV}{fs:List (Str×V)} {x:FV},fs.map Wt=ns.map Str.ofString->fq ct L H xs (fs.map Vn)->rH f ns xs=some x->∃ v,fs.lookup (Str.ofString f)=some v/\RF ct L H x v
 |[],_,_,_,_,_,e=>by simp[rH] at e
 |_::_,[],_,_,_,_,e=>by simp[rH] at e
 |m::ns,y::xs,fs,x,h1,h2,e=>by
  cases fs with
  |nil=>simp at h1
  |cons p fs =>
   obtain⟨k,u⟩:=p;simp only[ub,List.cons.injEq] at h1;simp only[ub,fq] at h2;obtain⟨v,r,Ag,r1,r2⟩:=h2;simp only[List.cons.injEq] at Ag;obtain⟨rfl,rfl⟩:=Ag;simp only[rH] at e;by_cases hf:f=m
   ·subst hf;simp at e;subst e;exact⟨u,by simp[Wc,h1.1],r1⟩
   ·rw[if_neg hf] at e;obtain⟨w,q1,q2⟩:=Mx h1.2 r2 e;refine⟨w,?_,q2⟩;have:(Str.ofString f==k)=false:=by
     rw[h1.1];exact beq_false_of_ne λz=>hf (YG z)
    simp[Wc,this,q1]
theorem Ot{μ:List af}{L:af->Prop}{H:Hp}{f:String}:∀{fs:List (String×MV)} {gs:List (Str×V)} {m:MV},gs.map Wt=fs.map (λp=>Str.ofString p.1)->aC ct μ L H (fs.map Vn) (gs.map Vn)->fs.lookup f=some m->∃ v,gs.lookup (Str.ofString f)=some v/\RV ct μ L H m v
 |[],_,_,_,_,e=>by simp at e
 |(k,y)::fs,gs,m,h1,h2,e=>by
  cases gs with
  |nil=>simp at h1
  |cons p gs =>
   obtain⟨k',u⟩:=p;simp only[ub,List.cons.injEq] at h1;simp only[ub,aC] at h2;obtain⟨v,r,Ag,r1,r2⟩:=h2;simp only[List.cons.injEq] at Ag;obtain⟨rfl,rfl⟩:=Ag;by_cases hf:f=k
   ·subst hf;simp[Wc] at e;subst e;exact⟨u,by simp[Wc,h1.1],r1⟩
   ·have hb:(f==k)=false:=beq_false_of_ne hf;simp[Wc,hb] at e;obtain⟨w,q1,q2⟩:=Ot h1.2 r2 e;refine⟨w,?_,q2⟩;have:(Str.ofString f==k')=false:=by
     rw[h1.1];exact beq_false_of_ne λz=>hf (YG z)
    simp[Wc,this,q1]
theorem Rel.obj{μ:List af}{h:MH}{H:Hp}(rel:Rel ct μ h H){i:Nat}{c:String}{fs:List (String×MV)}(e:h[i]?=some (.obj c fs)):∃ b dx gs,μ[i]?=some b/\H b=some (.ins (ct c) dx gs)/\gs.map Wt=fs.map (λp=>Str.ofString p.1)/\aC ct μ (bc μ h) H (fs.map Vn) (gs.map Vn):=by
 have hi:i<μ.length:=by rw[rel.len];exact(xa.mp e).1
 obtain⟨dx,gs,q1,q2,q3⟩:=rel.cells i μ[i] _ (by simp[hi]) e;exact⟨_,dx,gs,by simp[hi],q1,q2,q3⟩
theorem A4{f:String}(T:Txt X.prog X.w X.K X.mg X.base Pm ct n)(ha:PE X a (lE ct Ra E ea))(hn:Yj a=true):PE X (.Attribute a (Str.ofString f) pos) (lE ct Ra E λσ h=>(ea σ h).bind λx h1=>opt (lg Pm.iw f x h1) λv=>.ok v h1) :=
 PE.imp (xS X.K ha (qy hn)) λσ H Q q=>by
  obtain⟨μ,h,σs,rel,aM,ra,p⟩:=q;refine lE.mk rel aM ra p λm v μ1 h1 H1 ex av aT rv p1=>?_;obtain⟨w,e,p2⟩:=Po.opt p1;unfold lg at e;split at e
  next c ns xs =>
   split at e
   next ok =>
    simp only[Vd] at e;obtain⟨x,e1,rfl⟩:=e;simp only[RV,RF] at rv;obtain⟨b,dx,fs,rfl,nl,hb,q1,q2⟩:=rv;obtain⟨u,e2,ru⟩:=Mx q1 q2 e1;obtain⟨t1,t2⟩:=T.iw c f ok;exact⟨b,ct c,dx,fs,u,rfl,hb,t1,t2,e2,p2.now av u (by simp only[RV];exact ru)⟩
   next=>cases e
  next i =>
   split at e
   next c fs ec =>
    split at e
    next ok =>
     simp only[RV] at rv;obtain⟨b,eb,rfl⟩:=rv;obtain⟨b',dx,gs,iM,hb,q1,q2⟩:=av.obj ec;rw[eb] at iM;cases iM;obtain⟨u,e2,ru⟩:=Ot q1 q2 e;obtain⟨t1,t2⟩:=T.iw c f ok;exact⟨b,ct c,dx,gs,u,rfl,hb,t1,t2,e2,p2.now av u ru⟩
    next=>cases e
   next=>cases e
  next=>cases e
end
end
section
variable {ct:Tx} {X:Cx} {E:XK} {Pm:Prog} {n:Nat} {Ra:L2.St->Prop} {N:List Str} {sc:aA}
section
variable {ea:aF->MH->R MV} {v:Expr} {es:List Expr} {ev:aF->MH->R (List MV)} {a:Expr} {p pos:Pos}
theorem Ydj{f:String}{d:a7}(c:Cc X Pm ct n Ra E N sc)(hd:Pm.defs f=some d)(eJ:f.toList.contains '.'=false)(hg:gl sc (Str.ofString f)=true)(ha:PA X (v::es) (lA ct Ra E ev))(cF:∀ e∈v::es,Ya e=true) :
  PE X (.Call (.Name (Str.ofString f) p) (v::es) [] pos) (lE ct Ra E λσ h=>(ev σ h).bind λxs h1=>run Pm n f xs h1):=by
 obtain⟨g1,g2,g3⟩:=zP c.sc hg;obtain⟨ps,D⟩:=c.txt.defs f d hd eJ;intro pins s σ H Q I q;obtain⟨μ,h,σs,rel,aM,ra,p⟩:=q;refine qcc (σ0:=σ) D (c.room.mono (by lia)) g1 (c.CM σ ra) ha g2 (yi (cF v (by simp))) (zA λe he=>cF e (by simp[he])) pins s σ H Q I ⟨rfl,?_⟩;refine lA.mk rel aM ra p λms vs μ1 h1 H1 ex av aT eQ p1=>?_;exact⟨μ1,h1,ms,av,by simpa using eQ,p1⟩
theorem zdo(fz:Bool){cn f:String}(c:Cc X Pm ct n Ra E N sc)(hi:Pm.meths cn "__init__"=some f)(hg:gl sc (Str.ofString cn)=true)(ha:PA X (v::es) (lA ct Ra E ev))(cF:∀ e∈v::es,Ya e=true) :
  PE X (.Call (.Name (Str.ofString cn) p) (v::es) [] pos) (lE ct Ra E λσ h=>(ev σ h).bind λxs h1=>YF Pm (run Pm n) fz cn xs h1):=by
 obtain⟨g1,g2,g3⟩:=zP c.sc hg;obtain⟨ps,D⟩:=c.txt.kX cn f hi;intro pins s σ H Q I q;obtain⟨μ,h,σs,rel,aM,ra,p⟩:=q;refine Zcf (σ0:=σ) D c.room g1 (c.CM σ ra) ha g2 (yi (cF v (by simp))) (zA λe he=>cF e (by simp[he])) pins s σ H Q I ⟨rfl,?_⟩;refine lA.mk rel aM ra p λms vs μ1 h1 H1 ex av aT eQ p1=>?_;intro x dx hx Ay ji;have jh:upd H1 dx (.own x) x=none:=by rw[Zd (Ne.symm ji)];exact hx
 have gD:=Ext.new av Ay (.own x);have a9:=av.new Ay (.own x);have dJ:=Ext.cell a9 jh (.obj cn []) (.ins (ct cn) dx []);have eI:Rel ct (μ1++[x]) (h1++[.obj cn []]) (upd (upd H1 dx (.own x)) x (.ins (ct cn) dx [])):=a9.cell jh ⟨dx,[],zf,rfl,aC.nil⟩;have gi:=gD.trans dJ;refine⟨μ1++[x],h1++[.obj cn []],.ref h1.length::ms,eI,aC.cons ?_ (by simpa using eQ.ext gi),?_⟩
 ·simp only[RV];exact⟨x,by rw[<- av.len];simp,rfl⟩
 ·unfold YF at p1;rw[hi] at p1;dsimp only at p1;cases er:run Pm n f (.ref h1.length::ms) (h1++[.obj cn []]) with
  |stuck=>rw[er] at p1;exact p1.elim
  |exc c h2=>rw[er] at p1;exactλμ2 H2 jW jJ=>p1 μ2 H2 (gi.trans jW) jJ
  |ok m h2 =>
   rw[er] at p1;simp only[R.aJ] at p1;intro μ2 H2 jW jJ u ru;have pU:Yx m=true:=by
    cases em:Yx m with
    |true=>rfl
    |false=>rw[em] at p1;simp only[if_true] at p1;exact p1.elim
   rw[pU] at p1;simp only[vD,if_false] at p1;rw[EG ru] at pU;refine⟨of_decide_eq_true pU,?_⟩;have ext:=gi.trans jW;obtain⟨ν,eν⟩:=jW.pre;rw[ui] at eν;subst eν;have Ae:(μ1++([x]++ν))[h1.length]?=some x:=by rw[<- av.len];simp
   cases fz with
   |false=>exact p1 _ H2 ext jJ _ (by simp only[RV];exact⟨x,Ae,rfl⟩)
   |true =>
    dsimp only at p1;split at p1
    next c' fs ec =>
     obtain⟨ys,ey,p4⟩:=Po.opt p1;split at p4
     next t =>
      obtain⟨b,IK,gs,eb,hb,q1,q2⟩:=jJ.obj ec;rw[Ae] at eb;cases eb;have nx:x∉μ1:=av.fresh hx;refine p4 μ1 H2 (Ext.cut av.len ext) (av.cut t jJ) (.ref x) ?_;simp only[RV,RF];refine⟨x,IK,gs,rfl,λl=>?_,hb,?_,?_⟩
      ·obtain⟨i,_,e1,_,_⟩:=l;exact nx (wf e1)
      ·rw[q1,Wf];rfl
      ·exact fq.to ⟨λ_ _ e _=>e,λb _ _ nl l=>nl (bc.cut av.len l)⟩ (aC.toF ey q2)
     next=>exact p4.elim
    next=>exact p1.elim
theorem sX(fz:Bool){id:String}(c:Cc X Pm ct n Ra E N sc)(hx:id∈eu)(hg:gl sc (Str.ofString id)=true)(hb:bE (Str.ofString id)=some (.builtin id))(hr:aN X (.builtin id) (rB ct E fz id))(ha:PA X (v::es) (lA ct Ra E ev))(cF:∀ e∈v::es,Ya e=true) :
  PE X (.Call (.Name (Str.ofString id) p) (v::es) [] pos) (lE ct Ra E λσ h=>(ev σ h).bind λxs h1=>qm fz id xs h1):=by
 obtain⟨g1,g2,g3⟩:=zP c.sc hg;have hm:=c.txt.ip id (by simp[hx]);refine PE.imp (G7 hr g1 hm hb ha g3 g2 (yi (cF v (by simp))) (zA λe he=>cF e (by simp[he]))) λσ H Q q=>?_;obtain⟨μ,h,σs,rel,aM,ra,p⟩:=q;exact lA.mk rel aM ra p λms vs μ1 h1 H1 ex av aT eQ p1=>⟨μ1,h1,ms,av,eQ,p1⟩
theorem L7(fz:Bool){id:String}(c:Cc X Pm ct n Ra E N sc)(hx:id∈dH)(hg:gl sc (Str.ofString id)=true)(hb:bE (Str.ofString id)=some (.type id))(hr:aN X (.type id) (rB ct E fz id))(ha:PA X (v::es) (lA ct Ra E ev))(cF:∀ e∈v::es,Ya e=true) :
  PE X (.Call (.Name (Str.ofString id) p) (v::es) [] pos) (lE ct Ra E λσ h=>(ev σ h).bind λxs h1=>qm fz id xs h1):=by
 obtain⟨g1,g2,g3⟩:=zP c.sc hg;have hm:=c.txt.ip id (by simp[hx]);refine PE.imp (JS hr g1 hm hb ha g3 g2 (yi (cF v (by simp))) (zA λe he=>cF e (by simp[he]))) λσ H Q q=>?_;obtain⟨μ,h,σs,rel,aM,ra,p⟩:=q;exact lA.mk rel aM ra p λms vs μ1 h1 H1 ex av aT eQ p1=>⟨μ1,h1,ms,av,eQ,p1⟩
theorem A6(fz:Bool){id:String}(c:Cc X Pm ct n Ra E N sc)(hx:id∈eu\/id∈dH)(hg:gl sc (Str.ofString id)=true)(ha:PA X (v::es) (lA ct Ra E ev))(cF:∀ e∈v::es,Ya e=true) :
  PE X (.Call (.Name (Str.ofString id) p) (v::es) [] pos) (lE ct Ra E λσ h=>(ev σ h).bind λxs h1=>qm fz id xs h1):=by
 rcases hx with hx|hx
 ·have jh:=hx;simp only[eu,ua,Ud,or_false] at jh
  rcases jh with rfl|rfl|rfl|rfl|rfl|rfl
  ·exact sX fz c hx hg (by decide +kernel) (ydh c.hK fz) ha cF
  ·exact sX fz c hx hg (by decide +kernel) (Ydq c.hK fz c.calm) ha cF
  ·exact sX fz c hx hg (by decide +kernel) (Ydo c.hK fz c.calm) ha cF
  ·exact sX fz c hx hg (by decide +kernel) (ydc c.hK fz c.calm) ha cF
  ·exact sX fz c hx hg (by decide +kernel) (ydp c.hK fz c.calm) ha cF
  ·exact sX fz c hx hg (by decide +kernel) (Yc8 fz) ha cF
 ·have jh:=hx;simp only[dH,ua,Ud,or_false] at jh
  rcases jh with rfl|rfl
  ·exact L7 fz c hx hg (by decide +kernel) (ycC c.hK fz) ha cF
  ·exact L7 fz c hx hg (by decide +kernel) (zcS c.hK fz) ha cF
theorem ycu{t:String}(h:t∈bx):bE (Str.ofString t)=some (.type t):=by
 simp only[bx,ua,Ud,or_false] at h
 rcases h with rfl|rfl|rfl|rfl|rfl|rfl <;> decide +kernel
end
end
noncomputable def bb(T U:String):Bool:=decide (U=T)||(decide (T="bool")&&decide (U="int"))
theorem zdj{K:PySem.W.Frag}{T U:String}(h:T∈["NoneType","bool","int","str","list","tuple"])(h':U∈bx):Ug K (.type T) (.type U)=some (bb T U):=by
 simp only[bx,ua,Ud,or_false] at h h'
 rcases h with rfl|rfl|rfl|rfl|rfl|rfl <;> rcases h' with rfl|rfl|rfl|rfl|rfl|rfl <;> rfl
section
variable {ct:Tx} {X:Cx} {E:XK} {Pm:Prog} {n:Nat} {Ra:L2.St->Prop} {N:List Str} {sc:aA}
noncomputable def Q4(h:MH):MV->Option String
 |.f .bG=>some "NoneType"
 |.f (.bl _)=>some "bool"
 |.f (.int _)=>some "int"
 |.f (.str _)=>some "str"
 |.f (.tup _)=>some "tuple"
 |.f (.lst _)=>some "list"
 |.tup _=>some "tuple"
 |.ref a=>match h[a]? with
  |some (.lst _)=>some "list"
  |_=>none
 |_=>none
theorem KI{h:MH}{m:MV}{T:String}(e:Q4 h m=some T):T∈["NoneType","bool","int","str","list","tuple"]:=by
 unfold Q4 at e;split at e
 all_goals first|(cases e;simp;done)|skip
 ·split at e
  next=>cases e;simp
  next=>cases e
 ·cases e
theorem qcV{K:PySem.W.Frag}{μ:List af}{h:MH}{H:Hp}{m:MV}{v:V}{T:String}(rel:Rel ct μ h H)(e:Q4 h m=some T)(r:RV ct μ (bc μ h) H m v):gG K H v (.type T):=by
 unfold Q4 at e;split at e
 next=>cases e;simp only[RV,RF] at r;subst r;exact .bG
 next=>cases e;simp only[RV,RF] at r;subst r;exact .bl _
 next=>cases e;simp only[RV,RF] at r;subst r;exact .int _
 next=>cases e;simp only[RV,RF] at r;subst r;exact .str _
 next=>cases e;simp only[RV,RF] at r;obtain⟨_,_,rfl,_,hb,_⟩:=r;exact .tup hb
 next =>
  cases e;simp only[RV,RF] at r;obtain⟨_,_,rfl,_,hb,_⟩:=r
  rcases hb with hb|⟨o,hb⟩
  ·exact .lst hb
  ·exact .eZ hb
 next=>cases e;simp only[RV] at r;obtain⟨_,_,rfl,_,hb,_⟩:=r;exact .tup hb
 next i =>
  split at e
  next xs q =>
   cases e;simp only[RV] at r;obtain⟨b,eb,rfl⟩:=r;obtain⟨b',vs,iM,hb,_⟩:=rel.lst (show yc h i=some xs by unfold yc;rw[q]);rw[eb] at iM;cases iM;exact .lst hb
  next=>cases e
 next=>cases e
theorem zcU{subs:String->String->Option Bool}{h:MH}{m:MV}{t T:String}{b:Bool}(e:Q4 h m=some T)(q:qQ subs h m t=some b)(hn:t≠"NoneType"):b=bb T t:=by
 unfold Q4 at e;split at e
 next=>cases e;cases q;simp[bb,hn]
 next=>cases e;cases q;simp[bb]
 next=>cases e;cases q;simp[bb]
 next=>cases e;cases q;simp[bb]
 next=>cases e;cases q;simp[bb]
 next=>cases e;cases q;simp[bb]
 next=>cases e;cases q;simp[bb]
 next i =>
  split at e
  next xs w =>
   cases e;simp only[qQ,w,Option.some.injEq] at q;rw[<- q];simp[bb]
  next=>cases e
 next=>cases e
theorem Zdj{μ:List af}{h:MH}{H:Hp}{m:MV}{v:V}{t:String}{b:Bool}(T:Txt X.prog X.w X.K X.mg X.base Pm ct n)(rel:Rel ct μ h H)(r:RV ct μ (bc μ h) H m v)(q:qQ Pm.subs h m t=some b)(ht:bx.contains t=true\/(Pm.subs t t).isSome=true) :
  ∃ tv,gG X.K H v tv/\Ug X.K tv (if bx.contains t=true then .type t else .ref (ct t))=some b:=by
 cases ek:Q4 h m with
 |some Tn =>
  refine⟨.type Tn,qcV rel ek r,?_⟩;by_cases hb:bx.contains t=true
  ·rw[if_pos hb];have hm:t∈bx:=by simpa using hb
   have hn:t≠"NoneType":=by
    rintro rfl;simp[bx] at hm
   rw[zcU ek q hn];exact zdj (KI ek) hm
  ·rw[if_neg hb];have jE:bx.contains t=false:=by simpa using hb
   obtain⟨b0,e0⟩:=wn.mp (ht.resolve_left hb);have hk:=T.Cn t t b0 e0 jE Tn (KI ek);rw[hk];have hm:t∉bx:=by simpa using jE
   simp only[bx,ua,Ud,or_false,not_or] at hm;unfold Q4 at ek;split at ek
   next=>cases ek;cases q;rfl
   next=>cases ek;cases q;simp[hm]
   next=>cases ek;cases q;simp[hm]
   next=>cases ek;cases q;simp[hm]
   next=>cases ek;cases q;simp[hm]
   next=>cases ek;cases q;simp[hm]
   next=>cases ek;cases q;simp[hm]
   next i =>
    split at ek
    next xs w =>
     simp only[qQ,w,Option.some.injEq] at q;rw[<- q];simp[hm]
    next=>cases ek
   next=>cases ek
 |none =>
  have obj:∃ c a dx fs,v=.ref a/\H a=some (.ins (ct c) dx fs)/\Pm.subs c t=some b:=by
   cases m with
   |f x =>
    cases x with
    |obj c ns vs =>
     simp only[RV,RF] at r;obtain⟨a,dx,fs,rfl,_,hb,_⟩:=r;exact⟨c,a,dx,fs,rfl,hb,q⟩
    |dj _=>cases q
    |tab _=>cases q
    |c9 _=>cases q
    |_=>simp[Q4] at ek
   |tup _=>simp[Q4] at ek
   |exc _=>cases q
   |ref i =>
    simp only[qQ] at q;split at q
    next xs w=>simp[Q4,w] at ek
    next c fs w =>
     obtain⟨a,dx,gs,ea,hb,_⟩:=rel.obj w;simp only[RV] at r;obtain⟨a',Nz,rfl⟩:=r;rw[ea] at Nz;cases Nz;exact⟨c,a,dx,gs,rfl,hb,q⟩
    next=>cases q
  obtain⟨c,a,dx,fs,rfl,hb,q⟩:=obj;have C:=T.cls c t b q;refine⟨.ref (ct c),.ins hb C.cl C.ha C.hn C.tk C.hm,?_⟩;by_cases hb:bx.contains t=true
  ·rw[if_pos hb];exact T.nA c t b q hb
  ·rw[if_neg hb];exact(T.md c t b q (by simpa using hb)).2
section
variable {ea:aF->MH->R MV} {v:Expr} {es:List Expr} {ev:aF->MH->R (List MV)} {a:Expr} {p p2 pos:Pos}
theorem A2{t:String}(c:Cc X Pm ct n Ra E N sc)(ht:bx.contains t=true\/(Pm.subs t t).isSome=true)(hg:gl sc "isinstance"=true)(hgt:gl sc (Str.ofString t)=true)(ha:PE X a (lE ct Ra E ea))(hp:Ya a=true) :
  PE X (.Call (.Name "isinstance" p) [a,.Name (Str.ofString t) p2] [] pos) (lE ct Ra E λσ h=>(ea σ h).bind λx h1=>opt (qQ Pm.subs h1 x t) λk=>.ok (.f (.bl k)) h1):=by
 obtain⟨g1,g2,g3⟩:=zP c.sc hg;obtain⟨k1,k2,k3⟩:=zP c.sc hgt;have hm:X.mg "isinstance"=none:=c.txt.ip "isinstance" (by simp);have tyE:∃ cv,rA cv=some (if bx.contains t=true then .type t else .ref (ct t))/\PE X (.Name (Str.ofString t) p2) (tC cv):=by
  by_cases hb:bx.contains t=true
  ·rw[if_pos hb];have Di:t∈bx:=by simpa using hb
   exact⟨.ty t,rfl,ycT (v:=.ty t) k1 (c.txt.ip t (by simp[Di])) (ycu Di) rfl k3 k2⟩
  ·rw[if_neg hb];obtain⟨b0,e0⟩:=wn.mp (ht.resolve_left hb);exact⟨.ref (ct t),rfl,OB (v:=.ref (ct t)) k1 (c.txt.md t t b0 e0 (by simpa using hb)).1 rfl k2⟩
 obtain⟨cv,ecv,pe⟩:=tyE;refine PE.imp (G7 (xR X.K) g1 hm boot_isinstance (sR ha (sR pe vJ (by rfl)) (yi hp)) g3 g2 (yi hp) (by rfl)) λσ H Q q=>?_;obtain⟨μ,h,σs,rel,aM,ra,p⟩:=q;refine lE.mk rel aM ra p λm w μ1 h1 H1 ex av aT rv p1=>?_;obtain⟨k,e,p2⟩:=Po.opt p1;obtain⟨tv,ty,kit⟩:=Zdj c.txt av rv e ht;exact⟨w,cv,tv,_,k,rfl,ecv,ty,kit,p2.now av _ (YE _)⟩
theorem Ko{K:PySem.W.Frag}{mo:MV}{xs:List MV}{μ:List af}{h:MH}{H:Hp}{x:V}(rel:Rel ct μ h H)(r:RV ct μ (bc μ h) H mo x)(e:w8 mo h=some xs):Cm K "list" x H:=by
 cases mo with
 |ref i =>
  obtain⟨b,vs,e1,e2,q⟩:=rel.lst (show yc h i=some xs from e);simp only[RV] at r;obtain⟨b',e3,rfl⟩:=r;rw[e1] at e3;cases e3;exact .inl ⟨rfl,vs,fG.of e2⟩
 |f _=>cases e
 |tup _=>cases e
 |exc _=>cases e
theorem EV{env : Env}{cp : Pos}{es : List Expr}(h : ∀ e∈es, Ya e=true)(hl : es.length<30) : ((bj cp (au es env)).all (λx => !x.1)&&(dw cp (bK [] env)).all (λx => x.1.isSome)
   && decide (es.length+([]:List c6).length+(if([]:List c6).isEmpty then 0 else 1)<30))=true:=by
 rw[Zp h];have h1:(bj cp (es.map λe=>(false,eval e env))).all (λx=>!x.1)=true:=by
  unfold bj;rw[Wf,List.all_map]
  induction es with
  |nil=>rfl
  |cons e es ih=>simp[vC]
 rw[h1];simp[bK,dw];exact hl
theorem Mh{m id:String}{ap cp:Pos}(slot:Slot "list" (Str.ofString m) id)(pP:typeOf (.builtin id)=pure (.type "method_descriptor"))(hr:kL X id (rS ct E m))(ho:PE X a (lE ct Ra E ea))(hn:Yj a=true)(ha:PA X (v::es) (lA ct Ra E ev))(cF:∀ e∈v::es,Ya e=true)
  (hl:(v::es).length<30) (cR:(ap.endLine==cp.line)=true):PE X (.Call (.Attribute a (Str.ofString m) ap) (v::es) [] cp) (lE ct Ra E λσ h=>(ea σ h).bind λx h1=>opt (w8 x h1) λ_=>(ev σ h1).bind λxs h2=>kU m x xs h2) :=
 PE.imp (vV PySem.F.plainAttrs_list slot pP hr ho ha (qy hn) (EV cF hl) cR (yi (cF v (by simp))) (zA λe he=>cF e (by simp[he]))) λσ H Q q=>by
  obtain⟨μ,h,σs,rel,aM,ra,p⟩:=q;refine lE.mk rel aM ra p λm' w μ1 h1 H1 ex av aT rv p1=>?_;obtain⟨xs,gD,p2⟩:=Po.opt p1;refine⟨Ko av rv gD,?_⟩;exact lA.mk av aT ra p2 λms vs μ2 h2 H2 dJ a9 dA eQ p3=>⟨μ2,h2,m',ms,a9,rv.ext dJ,eQ,p3⟩
theorem Kw{m id:String}{ap cp:Pos}(slot:Slot "list" (Str.ofString m) id)(pP:typeOf (.builtin id)=pure (.type "method_descriptor"))(hr:kL X id (rS ct E m))(ho:PE X a (lE ct Ra E ea))(hn:Yj a=true)
  (cR:(ap.endLine==cp.line)=true):PE X (.Call (.Attribute a (Str.ofString m) ap) [] [] cp) (lE ct Ra E λσ h=>(ea σ h).bind λx h1=>opt (w8 x h1) λ_=>(R.ok [] h1).bind λxs h2=>kU m x xs h2) :=
 PE.imp (Zdf PySem.F.plainAttrs_list slot pP hr ho (qy hn) cR) λσ H Q q=>by
  obtain⟨μ,h,σs,rel,aM,ra,p⟩:=q;refine lE.mk rel aM ra p λm' w μ1 h1 H1 ex av aT rv p1=>?_;obtain⟨xs,gD,p2⟩:=Po.opt p1;exact⟨Ko av rv gD,μ1,h1,m',[],av,rv,aC.nil,p2⟩
theorem EK{h:MH}{v:MV}{ks:List Int}(e:oS h v=some ks):∃ i,v=.ref i/\h[i]?=some (.iH ks):=by
 cases v with
 |ref i =>
  simp only[oS] at e;split at e
  next iD w=>cases e;exact⟨i,rfl,w⟩
  next=>cases e
 |f _=>cases e
 |tup _=>cases e
 |exc _=>cases e
noncomputable abbrev mM(ks:List Int):List (Key×V):=ks.map λk=>((Sum.inl k:Key),V.bl true)
theorem Ke(ks:List Int)(k:Int):zH (mM ks) (Sum.inl k:Key) (V.bl true)=mM (YC ks k):=by
 unfold zH YC mM;have e:((ks.map λk=>((Sum.inl k:Key),V.bl true)).any λkv=>decide (kv.1=Sum.inl k))=decide (k∈ks):=by
  rw[UD]
  induction ks with
  |nil=>rfl
  |cons a ks ih =>
   rw[xv,ih];by_cases h:a=k
   ·subst h;simp
   ·have h':¬ k=a:=λz=>h z.symm;simp[h,h']
 rw[e];by_cases h:k∈ks
 ·simp only[h,decide_true,if_true,Wf];refine WD λa _=>?_;simp only[vC];split <;> rfl
 ·simp[h]
theorem YcW{b:Expr}{eb:aF->MH->R MV}{k1 k2:Nat}(ha:PE X a (lE ct Ra E ea))(hb:PE X b (lE ct Ra E eb)) :
  PE X (.Dict [some a,some b] [.Constant (.bool true) k1 p,.Constant (.bool true) k2 p2] pos) (lE ct Ra E λσ h=>(ea σ (h++[.iH []])).bind λx h1=>(eb σ h1).bind λy h2=>iy h.length x y h2):=by
 refine PE.imp (ZcI (Mm ha CH (Mm hb CH zcR)) rfl rfl (by simp) (by simp)) λσ H Q q d hd=>?_;obtain⟨μ,h,σs,rel,aM,ra,pp⟩:=q;have Du:=Ext.cell rel hd (.iH []) (.dK []);have pD:Rel ct (μ++[d]) (h++[.iH []]) (upd H d (.dK [])):=rel.cell hd zf;refine lE.mk pD (aM.ext Du) ra (Po.start Du pp) λm w μ1 h1 H1 gD av aT m7 p1=>?_;refine lE.mk av aT ra p1 λm2 w2 μ2 h2 H2 dJ a9 dA jg p2=>?_;obtain⟨i,e1,p3⟩:=Po.opt p2;obtain⟨j,e2,p4⟩:=Po.opt p3;obtain⟨ks,e3,p5⟩:=Po.opt p4;split at p5
 next hk =>
  subst hk;obtain⟨i',ei,hc⟩:=EK e3;cases ei;have:=Yi e1;subst this;have:=Yi e2;subst this;have hm:μ2[h.length]?=some d:=by
   obtain⟨ν,e⟩:=gD.pre;obtain⟨ν',e'⟩:=dJ.pre;rw[e',e,<- rel.len];simp
  have hH:H2 d=some (.dK []):=a9.cells _ _ _ hm hc;refine⟨hH,[((Sum.inl i:Key),V.bl true),((Sum.inl j:Key),V.bl true)],?_,by simp,?_⟩
  ·rw[Qo (m7.ext dJ),Qo jg];rfl
  ·have gi:=Ext.set (H:=H2) a9 hm hc (λz=>nomatch z) (.iH (YC (YC [] i) j)) (.dK (mM (YC (YC [] i) j)));have e4:rW [] [((Sum.inl i:Key),V.bl true),((Sum.inl j:Key),V.bl true)]=mM (YC (YC [] i) j):=by
    rw[<- Ke,<- Ke];rfl
   rw[e4];exact p5 μ2 _ gi (a9.set hm hc (λz=>nomatch z) zf) (.ref d) (by simp only[RV];exact⟨d,hm,rfl⟩)
 next=>exact p5.elim
theorem Zc9{p3 p4:Pos}(c:Cc X Pm ct n Ra E N sc)(hg:gl sc "sorted"=true)(hgl:gl sc "list"=true)(ha:PE X a (lE ct Ra E ea))(hp:Ya a=true) :
  PE X (.Call (.Name "sorted" p) [.Call (.Name "list" p2) [a] [] p3] [] pos) (lE ct Ra E λσ h=>(ea σ h).bind λx h1=>jZ x h1):=by
 obtain⟨g1,g2,g3⟩:=zP c.sc hg;obtain⟨k1,k2,k3⟩:=zP c.sc hgl;have hm:X.mg "sorted"=none:=c.txt.ip "sorted" (by simp);have Di:X.mg "list"=none:=c.txt.ip "list" (by simp[dH,bx]);refine PE.imp (G7 Ybw g1 hm (by decide +kernel) (sR (JS (qbQ c.calm) k1 Di (by decide +kernel) (sR ha vJ (yi hp)) k3 k2 (yi hp) (by rfl)) vJ (by rfl)) g3 g2 (by rfl) (by rfl)) λσ H Q q=>?_;obtain⟨μ,h,σs,rel,aM,ra,pp⟩:=q;refine lE.mk rel aM ra pp λm w μ1 h1 H1 ex av aT rv p1=>?_;obtain⟨ks,e,p2⟩:=Po.opt p1;split at p2
 next hk =>
  obtain⟨i,rfl,hc⟩:=EK e;simp only[RV] at rv;obtain⟨b,eb,rfl⟩:=rv;have hH:H1 b=some (.dK (mM ks)):=av.cells _ _ _ eb hc;refine⟨b,mM ks,rfl,hH,λl hl=>?_⟩;refine⟨l,ks,rfl,fG.of (by rw[zf,Wf];rfl),hk,λmw pm pw l' sd=>?_⟩;have:=Qcl pm pw;subst this;have dJ:=Ext.new av hl (.lst ((mM ks).map λkv=>L2.kV kv.1));have a9:=av.new hl (.lst ((mM ks).map λkv=>L2.kV kv.1));exact QG (fz:=false) a9 (sW _) (Po.start dJ p2) l' sd
 next=>exact p2.elim
noncomputable abbrev kP(k:Int×Int):List Key:=[Sum.inl k.1,Sum.inl k.2]
theorem pN{k l:Int×Int}:kP k=kP l↔k=l:=by
 constructor
 ·intro h;simp only[kP,List.cons.injEq,Sum.inl.injEq,and_true] at h;exact Wy h.1 h.2
 ·rintro rfl;rfl
theorem Qdm(k l:Int×Int):decide (kP k=kP l)=decide (k=l):=by
 by_cases h:k=l
 ·subst h;simp
 ·have h':¬ kP k=kP l:=λz=>h (pN.mp z);rw[decide_eq_false h,decide_eq_false h']
theorem Ee{μ:List af}{L:af->Prop}{H:Hp}{y:MV}{v:V}{k:Int×Int}(r:RV ct μ L H y v)(e:BF y=some k):∃ p,v=.ref p/\¬ L p/\H p=some (.tup ((kP k).map L2.kV)):=by
 unfold BF at e;split at e
 next a b w =>
  cases e;cases y with
  |f x =>
   cases x with
   |tup xs =>
    simp only[Yk,Option.some.injEq] at w
    rcases xs with _|⟨x,_|⟨y,_|⟨z,zs⟩⟩⟩ <;> simp at w
    obtain⟨rfl,rfl⟩:=w;simp only[RV,RF,fq] at r;obtain⟨p,vs,rfl,n,hp,v1,r1,rfl,rfl,v2,r2,rfl,rfl,rfl⟩:=r;exact⟨p,rfl,n,hp⟩
   |_=>simp[Yk] at w
  |tup xs =>
   simp only[Yk,Option.some.injEq] at w;subst w;simp only[RV,aC,RF] at r;obtain⟨p,vs,rfl,n,hp,v1,r1,rfl,rfl,v2,r2,rfl,rfl,rfl⟩:=r;exact⟨p,rfl,n,hp⟩
  |ref _=>simp[Yk] at w
  |exc _=>simp[Yk] at w
 next=>cases e
theorem aC.rev{μ:List af}{L:af->Prop}{H:Hp}:∀{xs:List MV}{vs:List V},aC ct μ L H xs vs->aC ct μ L H xs.reverse vs.reverse
 |[],vs,r=>by simp only[aC] at r;subst r;exact aC.nil
 |x::xs,vs,r=>by
  simp only[aC] at r;obtain⟨v,t,rfl,r1,r2⟩:=r;rw[xq,xq];exact(aC.rev r2).append (aC.cons r1 aC.nil)
theorem ydf(fz:Bool){st:Expr}{p2:Pos}(c:Cc X Pm ct n Ra E N sc)(hs:nO st=true)(ha:PE X a (lE ct Ra E ea)) :
  PE X (.Subscript a (.Slice none none (some st) p2) pos) (lE ct Ra E λσ h=>(ea σ h).bind λx h1=>opt (MP.listOf h1 x) λxs=>Zw fz xs.reverse h1):=by
 have pQ:∃ p3 p4 k,st=.UnaryOp .USub (.Constant (.int 1) k p3) p4:=by
  unfold nO at hs;split at hs
  ·exact⟨_,_,_,rfl⟩
  ·cases hs
 obtain⟨p3,p4,k,rfl⟩:=pQ;refine PE.imp (qcN ha (NS (Lb NJ K4))) λσ H Q q=>?_;obtain⟨μ,h,σs,rel,aM,ra,pp⟩:=q;refine lE.mk rel aM ra pp λm w μ1 h1 H1 ex av aT rv p1=>?_;obtain⟨xs,e,p2⟩:=Po.opt p1;obtain⟨b,vs,rfl,rd,rs⟩:=zv av e rv;exact⟨1,rfl,-1,rfl,rfl,b,vs,rfl,.inl rd,λl hl=>QG av rs.rev p2 l hl⟩
theorem EW{m:String}:∀{ns:List String}{gs:List (Str×V)},gs.map Wt=ns.map Str.ofString->m∉ns->gs.lookup (Str.ofString m)=none
 |[],[],_,_=>rfl
 |[],_::_,e,_=>by simp at e
 |_::_,[],e,_=>by simp at e
 |k::ns,(k',u)::gs,e,h=>by
  simp only[ub,List.cons.injEq] at e;have:(Str.ofString m==k')=false:=by
   rw[e.1];exact beq_false_of_ne λz=>h (by have:=YG z;subst this;exact Wh)
  rw[Wc,this];exact EW e.2 λz=>h (Uf _ z)
theorem Ms{μ:List af}{h:MH}{H:Hp}{m c:String}{x:MV}{v:V}(rel:Rel ct μ h H)(r:RV ct μ (bc μ h) H x v)(e:lC m x h=some c):∃ b dx fs,v=.ref b/\H b=some (.ins (ct c) dx fs)/\fs.lookup (Str.ofString m)=none:=by
 unfold lC at e;split at e
 next c' ns xs =>
  split at e
  next=>cases e
  next no =>
   cases e;simp only[RV,RF] at r;obtain⟨b,dx,fs,rfl,nl,hb,q1,q2⟩:=r;exact⟨b,dx,fs,rfl,hb,EW q1 no⟩
 next i =>
  split at e
  next c' fs ec =>
   split at e
   next=>cases e
   next no =>
    cases e;simp only[RV] at r;obtain⟨b,eb,rfl⟩:=r;obtain⟨b',dx,gs,iM,hb,q1,q2⟩:=rel.obj ec;rw[eb] at iM;cases iM;exact⟨b,dx,gs,rfl,hb,EW (by rw[q1,Wf];rfl) no⟩
  next=>cases e
 next=>cases e
theorem zcX{m:String}{ap cp:Pos}(c:Cc X Pm ct n Ra E N sc)(hm:m≠"__init__")(ho:PE X a (lE ct Ra E ea))(hn:Yj a=true)(ha:PA X (v::es) (lA ct Ra E ev))(cF:∀ e∈v::es,Ya e=true)
  (hl:(v::es).length<30) (cR:(ap.endLine==cp.line)=true) :
  PE X (.Call (.Attribute a (Str.ofString m) ap) (v::es) [] cp) (lE ct Ra E λσ h=>(ea σ h).bind λx h1=>opt (lC m x h1) λk=>opt (Pm.meths k m) λf=>(ev σ h1).bind λxs h2=>run Pm n f (x::xs) h2):=by
 intro pins s σ H Q I q;obtain⟨μ,h,σs,rel,aM,ra,p⟩:=q;refine Ycx (k:=2*n) (σ0:=σ) ho (c.room.mono (by lia)) (c.CM σ ra) ha (yi (cF v (by simp))) (zA λe he=>cF e (by simp[he])) (qy hn) (EV cF hl) cR pins s σ H Q I ⟨rfl,?_⟩;refine lE.mk rel aM ra p λm' w μ1 h1 H1 ex av aT rv p1=>?_;obtain⟨cn,ec,p2⟩:=Po.opt p1;obtain⟨f,ef,p3⟩:=Po.opt p2;obtain⟨b,dx,fs,rfl,hb,l⟩:=Ms av rv ec;refine⟨b,ct cn,dx,fs,kQ ct (run Pm n f),rfl,hb,l,c.txt.meths cn m f ef hm,?_⟩;refine lA.mk av aT ra p3 λms vs μ2 h2 H2 dJ a9 dA eQ p4=>?_;exact⟨μ2,h2,m'::ms,a9,aC.cons (rv.ext dJ) eQ,p4⟩
theorem YcQ{m:String}{ap cp:Pos}(c:Cc X Pm ct n Ra E N sc)(hm:m≠"__init__")(ho:PE X a (lE ct Ra E ea))(hn:Yj a=true)(cR:(ap.endLine==cp.line)=true) :
  PE X (.Call (.Attribute a (Str.ofString m) ap) [] [] cp) (lE ct Ra E λσ h=>(ea σ h).bind λx h1=>opt (lC m x h1) λk=>opt (Pm.meths k m) λf=>(R.ok [] h1).bind λxs h2=>run Pm n f (x::xs) h2):=by
 intro pins s σ H Q I q;obtain⟨μ,h,σs,rel,aM,ra,p⟩:=q;refine qb8 (k:=2*n) (σ0:=σ) ho (c.room.mono (by lia)) (c.CM σ ra) (qy hn) cR pins s σ H Q I ⟨rfl,?_⟩;refine lE.mk rel aM ra p λm' w μ1 h1 H1 ex av aT rv p1=>?_;obtain⟨cn,ec,p2⟩:=Po.opt p1;obtain⟨f,ef,p3⟩:=Po.opt p2;obtain⟨b,dx,fs,rfl,hb,l⟩:=Ms av rv ec;exact⟨b,ct cn,dx,fs,kQ ct (run Pm n f),rfl,hb,l,c.txt.meths cn m f ef hm,μ1,h1,[m'],av,aC.cons rv aC.nil,p3⟩
theorem ZcM(fz:Bool){cn:String}(c:Cc X Pm ct n Ra E N sc)(hk:Pm.mB cn=true)(hi:Pm.meths cn "__init__"=none)(hg:gl sc (Str.ofString cn)=true) :
  PE X (.Call (.Name (Str.ofString cn) p) [] [] pos) (lE ct Ra E λσ h=>(R.ok [] h).bind λxs h1=>YF Pm (run Pm n) fz cn xs h1):=by
 obtain⟨g1,g2,g3⟩:=zP c.sc hg;obtain⟨M,mg⟩:=c.txt.mB cn hk;refine PE.imp (zca M g1 mg g2) λσ H Q q=>?_;obtain⟨μ,h,σs,av,aM,ra,p1⟩:=q;intro x dx hx Ay ji;have jh:upd H dx (.own x) x=none:=by rw[Zd (Ne.symm ji)];exact hx
 have gD:=Ext.new av Ay (.own x);have a9:=av.new Ay (.own x);have dJ:=Ext.cell a9 jh (.obj cn []) (.ins (ct cn) dx []);have eI:Rel ct (μ++[x]) (h++[.obj cn []]) (upd (upd H dx (.own x)) x (.ins (ct cn) dx [])):=a9.cell jh ⟨dx,[],zf,rfl,aC.nil⟩;have ext:=gD.trans dJ;have Ae:(μ++[x])[h.length]?=some x:=by rw[<- av.len];simp
 have p2:Po ct E (YF Pm (run Pm n) fz cn [] h) μ h H (λm μ' h' H'=>∀ v,RV ct μ' (bc μ' h') H' m v->Q v H'):=p1;unfold YF at p2;rw[hi] at p2;simp only[R.aJ,Qcc,vD,if_false] at p2;cases fz with
 |false=>exact p2 _ _ ext eI _ (by simp only[RV];exact⟨x,Ae,rfl⟩)
 |true =>
  dsimp only at p2;split at p2
  next c' fs ec =>
   obtain⟨ys,ey,p4⟩:=Po.opt p2;split at p4
   next t =>
    obtain⟨b,IK,gs,eb,hb,q1,q2⟩:=eI.obj ec;rw[Ae] at eb;cases eb;have nx:x∉μ:=av.fresh hx;refine p4 μ _ (Ext.cut av.len ext) (av.cut t eI) (.ref x) ?_;simp only[RV,RF];refine⟨x,IK,gs,rfl,λl=>?_,hb,?_,?_⟩
    ·obtain⟨i,_,e1,_,_⟩:=l;exact nx (wf e1)
    ·rw[q1,Wf];rfl
    ·exact fq.to ⟨λ_ _ e _=>e,λb _ _ nl l=>nl (bc.cut av.len l)⟩ (aC.toF ey q2)
   next=>exact p4.elim
  next=>exact p2.elim
theorem Qdg{g:String}{i:Int}(c:Cc X Pm ct n Ra E N sc)(hv:Pm.dE g=some (.int i))(hg:gl sc (Str.ofString g)=true):PE X (.Name (Str.ofString g) pos) (lE ct Ra E λσ h=>opt (Pm.dE g) λv=>.ok (.f v) h):=by
 obtain⟨g1,g2,g3⟩:=zP c.sc hg;obtain⟨t,mg⟩:=c.txt.dE g i hv;refine PE.imp (OB (v:=.int i) g1 mg ⟨t,rfl⟩ g2) λσ H Q q=>?_;obtain⟨μ,h,σs,rel,aM,ra,p⟩:=q;simp only[hv,qc] at p;exact p.now rel _ (zu _)
theorem Po.calm{α:Type}{r:R α}{μ:List af}{h:MH}{H:Hp}{k:α->List af->MH->Hp->Prop}(p:Po ct E (MP.calm r) μ h H k):Po ct E0 r μ h H k:=by
 cases r with
 |ok x h'=>exact p
 |exc c h'=>exact p.elim
 |stuck=>exact p.elim
theorem l6.imp{ifs:List Expr}{t t':TT}(p:l6 X ifs t)(k:∀ σ H Q,t' σ H Q->t σ H Q):l6 X ifs t':=λpins s σ H Q I h=>p pins s σ H Q I (k σ H Q h)
theorem Yb4{μ:List af}{h:MH}{H:Hp}{σ:L2.St}{σs:aF}(bZ:Nat)(js:List Nat)(r:a8 ct μ h H σ σs):a8 ct μ h H (stC bZ js σ) (stM bZ js σs):=by
 refine⟨by simp[L3.stC,MP.stM],λi m e=>?_⟩;unfold MP.stM at e;by_cases hi:i<bZ
 ·rw[Ua (by simpa using hi),Xo,if_pos hi] at e;cases e
 ·rw[we (by simpa using hi),Vp,Xb] at e;cases ej:js[i-bZ]? with
  |none=>rw[ej] at e;cases e
  |some j =>
   rw[ej] at e;simp only[ug,Option.some.injEq] at e;have e':σs[j]?=some (some m):=by
    cases q:σs[j]? with
    |none=>rw[q] at e;cases e
    |some z=>rw[q] at e;exact congrArg some e
   obtain⟨v,ev,rv⟩:=r.at_ j m e';refine⟨v,?_,rv⟩;unfold L3.stC;rw[we (by simpa using hi),Vp,Xb,ej];simp[ev]
theorem Lf(fz:Bool){bZ:Nat}{js:List Nat}{it:String}{t:Tg}{es:aF->MH->R (List MV)}{tc:aF->MH->R Bool}{te:aF->MH->R MV}(σ:L2.St)(H:Hp)(Q:VK)
  (q:lE ct Ra E (λσ h=>(es σ h).bind λxs h1=>opt (eU it xs h1) λp=>(Zi p.2 (zk t tc te) p.1 [] (MP.stM bZ js σ) h1).bind λacc h3=>Zw fz acc h3) σ H Q) :
  GR (lI ct Ra E es it) bZ js (lG ct t) (lT ct (λ_=>True) E0 tc) (lE ct (λ_=>True) E0 te) σ H Q:=by
 obtain⟨μ,h,σs,rel,aM,ra,p⟩:=q;refine⟨μ,h,σs,rel,aM,ra,(Po.bind p).imp λxs μ1 h1 H1 ⟨gD,av,p1⟩=>?_⟩;obtain⟨⟨items,g⟩,e1,p2⟩:=Po.opt p1;refine⟨items,g,e1,av,λJ wk=>?_⟩;dsimp only at p2;refine⟨λi m acc σ' H'=>∃ μ' h' σs' j4,m=items.length-i/\i<=items.length/\Ext μ1 h1 H1 μ' h' H'/\Rel ct μ' h' H'/\a8 ct μ' h' H' σ' σs'/\aC ct μ' (bc μ' h') H' j4 acc /\
  Po ct E ((Zi g (zk t tc te) (items.drop i) j4 σs' h').bind λacc h3=>Zw fz acc h3) μ' h' H' (kV ct Q),?_,?_⟩
 ·exact⟨items.length,μ1,h1,stM bZ js σs,[],by simp,wm _,Ext.refl _ _ _,av,Yb4 bZ js (aM.ext gD),aC.nil,by simpa using p2⟩
 ·rintro i m acc σ' H' ⟨μ',h',σs',j4,rfl,mF,ex,bL,iB,nF,p3⟩;by_cases lt:i<items.length
  ·right
   have ed:items.drop i=items[i]::items.drop (i+1):=Vt lt;rw[ed] at p3;simp only[Zi] at p3;split at p3
   next gd =>
    obtain⟨w1,_⟩:=wk i μ' h' H' ex bL gd.1;obtain⟨go,yl⟩:=w1 lt;refine⟨go,λx H2 y=>?_⟩;obtain⟨mx,em,dJ,a9,rx⟩:=yl x H2 y;have II:mx=items[i]:=by simpa[lt] using em.symm
    subst II;have p4:=Po.start dJ p3;unfold zk at p4;cases eb:yK t items[i] σs' with
    |none=>rw[eb] at p4;exact p4.elim
    |some σ2s =>
     rw[eb] at p4;simp only[qc] at p4;refine⟨μ',h',σs',items[i],σ2s,a9,iB.ext dJ,rx,eb,λσ2 dA=>?_⟩;have p5:Po ct E ((MP.calm (tc σ2s h')).bind λk h2=>(if k=true then(MP.calm (te σ2s h2)).bind λy h3=>R.ok (some y,σ2s) h3 else R.ok (none,σ2s) h2).bind λp h1=>(Zi g (zk t tc te) (items.drop (i+1)) (match p.1 with|some y=>j4++[y]|none=>j4) p.2 h1).bind λacc h3=>Zw fz acc h3) μ' h' H2 (kV ct Q):=by
      cases er:MP.calm (tc σ2s h') with
      |stuck=>rw[er] at p4;exact p4
      |exc c sx=>rw[er] at p4;exact p4
      |ok k sx =>
       rw[er] at p4;simp only[R.aJ] at p4 ⊢;cases k with
       |false=>exact p4
       |true =>
        simp only[if_true] at p4 ⊢;cases p9:MP.calm (te σ2s sx) with
        |stuck=>rw[p9] at p4;exact p4
        |exc c h3=>rw[p9] at p4;exact p4
        |ok y h3=>rw[p9] at p4;exact p4
     refine⟨μ',h',σ2s,a9,dA,trivial,Po.calm ((Po.bind p5).imp λk μ3 h3 H3 ⟨gi,eI,p6⟩=>?_)⟩;cases k with
     |false =>
      simp only[Vh,if_false,R.aJ] at p6 ⊢;exact⟨items.length-(i+1),by lia,μ3,h3,σ2s,j4,rfl,lt,(ex.trans dJ).trans gi,eI,dA.ext gi,(nF.ext dJ).ext gi,p6⟩
     |true =>
      simp only[if_true] at p6 ⊢;have p7:Po ct E ((MP.calm (te σ2s h3)).bind λy h4=>(Zi g (zk t tc te) (items.drop (i+1)) (j4++[y]) σ2s h4).bind λacc h5=>Zw fz acc h5) μ3 h3 H3 (kV ct Q):=by
       cases p9:MP.calm (te σ2s h3) with
       |stuck=>rw[p9] at p6;exact p6
       |exc c h4=>rw[p9] at p6;exact p6
       |ok y h4=>rw[p9] at p6;exact p6
      refine⟨μ3,h3,σ2s,eI,dA.ext gi,trivial,Po.calm ((Po.bind p7).imp λy μ4 h4 H4 ⟨jW,jJ,p8⟩ w rw_=>?_)⟩;refine⟨by rw[nF.length];exact Wd gd.2 YO,items.length-(i+1),by lia,μ4,h4,σ2s,j4++[y],rfl,lt,((ex.trans dJ).trans gi).trans jW,jJ,(dA.ext gi).ext jW,?_,p8⟩;exact(((nF.ext dJ).ext gi).ext jW).append (aC.cons rw_ aC.nil)
   next=>exact p3.elim
  ·left
   have Av:i=items.length:=by lia
   subst Av;rw[vF] at p3;simp only[Zi] at p3;split at p3
   next gd =>
    obtain⟨_,w2⟩:=wk items.length μ' h' H' ex bL gd;exact⟨w2 rfl,λD hD=>QG bL nF p3 D hD⟩
   next=>exact p3.elim
theorem Qdl(fz:Bool){elt iter tg:Expr}{ifs:List Expr}{cs:aA}{N':List Str}{bZ:Nat}{js:List Nat}{it:String}{t:Tg}{es:aF->MH->R (List MV)}{tc:aF->MH->R Bool}{te:aF->MH->R MV}(aU:ZG X.env.scope X.N cs N' bZ js=true)(hc:X.calm=true)
  (hi:PI X tg iter (lI ct Ra E es it)) (hg:∀ C s3 H ex,PG (ie X cs N' C s3 H ex) tg (lG ct t)) (nT:∀ C s3 H ex,l6 (ie X cs N' C s3 H ex) ifs (lT ct (λ_=>True) E0 tc)) (jO:∀ C s3 H ex,PE (ie X cs N' C s3 H ex) elt (lE ct (λ_=>True) E0 te)) (cF:Ya iter=true) :
  PE X (.ListComp elt [⟨tg,iter,ifs,0⟩] cs pos) (lE ct Ra E λσ h=>(es σ h).bind λxs h1=>opt (eU it xs h1) λp=>(Zi p.2 (zk t tc te) p.1 [] (stM bZ js σ) h1).bind λacc h3=>Zw fz acc h3):=by
 exact PE.imp (ycR N' bZ js aU hc hi hg nT jO (QW cF)) (Lf fz)
end
end
end SD
end
section
namespace SD
open PySem PySem.Spec PyProof.Rows L2 L3 M3 MP
section
variable {ct:Tx} {X:Cx} {E:XK} {Pm:Prog} {n:Nat} {Ra:L2.St->Prop} {N:List Str} {sc:aA}
noncomputable abbrev qz(ks:List (Int×Int)):List (List Key×V):=ks.map λk=>(kP k,V.bl true)
theorem Ou(ks:List (Int×Int))(k:Int×Int):((qz ks).any λkv=>decide (kv.1=kP k))=decide (k∈ks):=by
 induction ks with
 |nil=>rfl
 |cons a r ih =>
  show(decide (kP a=kP k)||(qz r).any λkv=>decide (kv.1=kP k))=_;rw[ih,Qdm];by_cases h:a=k
  ·subst h;simp
  ·simp[h,Ne.symm h]
theorem qco(ks:List (Int×Int))(k:Int×Int):zH (qz ks) (kP k) (V.bl true)=qz (ZH ks k):=by
 unfold zH ZH;rw[Ou];by_cases h:k∈ks
 ·rw[if_pos (by simpa using h),if_pos h,qz,Wf]
  congr 1
  funext p;show(if kP p=kP k then(kP p,V.bl true) else(kP p,V.bl true))=_;split <;> rfl
 ·rw[if_neg (by simpa using h),if_neg h,qz,qz,Wi];rfl
theorem N7:∀(ks acc:List (Int×Int)),yA (qz ks) (qz acc)=qz (ks.foldl ZH acc)
 |[],acc=>rfl
 |k::ks,acc=>by
  show yA (qz ks) (zH (qz acc) (kP k) (V.bl true))=_;rw[qco];exact N7 ks (ZH acc k)
theorem Ycj(ks:List (Int×Int))(k:Int×Int):(mP (qz ks) (kP k)).isSome=decide (k∈ks):=by
 rw[<- Ou,J']
theorem Pe{k:Int×Int}(h:Q5 k=true):ED k:=by
 unfold Q5 at h;simp at h;exact⟨⟨h.1.1,h.1.2⟩,h.2.1,h.2.2⟩
theorem Lv{P:aj}{w:World}:∀(ks:List (Int×Int)),ks.all Q5=true->ks.Nodup->(ks.map λk=>(aE (Qe P w)).hash (kP k)).Nodup
 |[],_,_=>by simp
 |k::ks,h,n=>by
  rw[List.all_cons,Wa] at h;rw[Ul] at n;rw[ub,Ul];refine⟨λm=>?_,Lv ks h.2 n.2⟩;obtain⟨k',hk,e⟩:=ue.mp m;have:=Qcr (Pe (Wp.mp h.2 k' hk)) (Pe h.1) e;exact n.1 (this ▸ hk)
theorem zcC{μ:List af}{L:af->Prop}{H:Hp}{y:MV}{v:V}{k:Int×Int}(r:RV ct μ L H y v)(e:sP y=some k):∃ T K,v=.ref T/\H T=some (.tup [.ref K,V.bl true])/\H K=some (.tup ((kP k).map L2.kV)):=by
 unfold sP at e;split at e
 next q w =>
  cases y with
  |f x =>
   cases x with
   |tup xs =>
    simp only[Yk,Option.some.injEq] at w
    rcases xs with _|⟨x,_|⟨y,_|⟨z,zs⟩⟩⟩ <;> simp at w
    obtain⟨rfl,rfl⟩:=w;simp only[RV,RF,fq] at r;obtain⟨p,vs,rfl,n,hp,v1,r1,rfl,h1,v2,r2,rfl,rfl,rfl⟩:=r;obtain⟨K,rfl,_,hK⟩:=Ee (y:=MV.f x) (μ:=μ) (L:=L) (H:=H) (by simp only[RV];exact h1) e;exact⟨p,K,rfl,hp,hK⟩
   |_=>simp[Yk] at w
  |tup xs =>
   simp only[Yk,Option.some.injEq] at w;subst w;simp only[RV,aC,RF] at r;obtain⟨p,vs,rfl,n,hp,v1,r1,rfl,h1,v2,r2,rfl,rfl,rfl⟩:=r;obtain⟨K,rfl,_,hK⟩:=Ee h1 e;exact⟨p,K,rfl,hp,hK⟩
  |ref _=>simp[Yk] at w
  |exc _=>simp[Yk] at w
 next=>cases e
theorem LB{μ:List af}{L:af->Prop}{H:Hp}:∀{xs:List MV}{vs:List V}{ks:List (Int×Int)},aC ct μ L H xs vs->xs.mapM sP=some ks->JE H vs (qz ks)
 |[],vs,ks,r,e=>by
  simp only[aC] at r;subst r;simp at e;subst e;exact .nil
 |x::xs,vs,ks,r,e=>by
  simp only[aC] at r;obtain⟨v,r',rfl,h1,h2⟩:=r;simp only[xp,Ut,uc] at e;obtain⟨k,e1,iD,e2,e3⟩:=e;cases e3;obtain⟨T,K,q⟩:=zcC h1 e1;exact .cons ⟨T,K,q⟩ (LB h2 e2)
theorem KC{h:MH}{i:Nat}{ks:List (Int×Int)}(e:Q7 h (.ref i)=some ks):h[i]?=some (.c9 ks):=by
 simp only[Q7] at e;split at e
 next iD w=>cases e;exact w
 next=>cases e
theorem Md{μ:List af}{h:MH}{H:Hp}{x:MV}{v:V}{ks:List (Int×Int)}(rel:Rel ct μ h H)(r:RV ct μ (bc μ h) H x v)(e:Q7 h x=some ks):∃ a,v=.ref a/\Rd H a (.dT (qz ks)):=by
 cases x with
 |ref i =>
  simp only[RV] at r;obtain⟨b,eb,rfl⟩:=r;exact⟨b,rfl,.inl (rel.cells _ _ _ eb (KC e))⟩
 |f y =>
  cases y with
  |c9 ks =>
   cases e;simp only[RV,RF] at r;obtain⟨a,o,rfl,_,ha⟩:=r;exact⟨a,rfl,.inr ⟨o,ha⟩⟩
  |_=>cases e
 |tup _=>cases e
 |exc _=>cases e
section
variable {ea eb:aF->MH->R MV} {a b:Expr} {p p2 pos:Pos}
theorem Qc6:PE X (.Dict [] [] pos) (lE ct Ra E λ_ h=>.ok (.ref h.length) (h++[.c9 []])):=by
 refine PE.imp QcC λσ H Q q d hd=>?_;obtain⟨μ,h,σs,rel,aM,ra,pp⟩:=q;have Du:=Ext.cell rel hd (.c9 []) (.dT []);have pD:Rel ct (μ++[d]) (h++[.c9 []]) (upd H d (.dT [])):=rel.cell hd zf;exact(Po.start Du pp).now pD _ (by simp only[RV];exact⟨d,by rw[<- rel.len];simp,rfl⟩)
theorem AY(c:Cc X Pm ct n Ra E N sc)(hg:gl sc "dict"=true)(ha:PE X a (lE ct Ra E ea))(hp:Ya a=true) :
  PE X (.Call (.Name "dict" p) [a] [] pos) (lE ct Ra E λσ h=>(ea σ h).bind λx h1=>BX x h1):=by
 obtain⟨k1,k2,k3⟩:=zP c.sc hg;have hm:X.mg "dict"=none:=c.txt.ip "dict" (by simp[bx]);refine PE.imp (JS (qbG c.calm (by have:=c.units;lia)) k1 hm (by decide +kernel) (sR ha vJ (yi hp)) k3 k2 (yi hp) (by rfl)) λσ H Q q=>?_;obtain⟨μ,h,σs,rel,aM,ra,pp⟩:=q;refine lE.mk rel aM ra pp λm w μ1 h1 H1 ex av aT rv p1=>?_;cases m with
 |ref i =>
  obtain⟨xs,e1,p2⟩:=Po.opt p1;obtain⟨ks,e2,p3⟩:=Po.opt p2;split at p3
  next hl =>
   simp only[RV] at rv;obtain⟨b,eb,rfl⟩:=rv;have hc:h1[i]?=some (.lst xs):=by
    simp only[yc] at e1;split at e1
    next w=>cases e1;exact w
    next=>cases e1
   obtain⟨vs,hb,eQ⟩:=(show bO ct μ1 (bc μ1 h1) H1 b (.lst xs) from av.cells _ _ _ eb hc);have pv:=LB eQ e2;have hlen:ks.length=xs.length:=by
    clear p1 p2 p3 pv hc hl e1 eQ
    induction xs generalizing ks with
    |nil=>simp at e2;subst e2;rfl
    |cons x xs ih =>
     simp only[xp,Ut,uc] at e2;obtain⟨k,_,iD,e3,e4⟩:=e2;cases e4;simp[ih _ e3]
   refine⟨b,vs,qz ks,rfl,.inl hb,pv,by rw[wc,hlen,dh];lia,λq o hq=>?_⟩;have e5:yA (qz ks) []=qz (ks.foldl ZH []):=N7 ks [];rw[e5];refine p3 μ1 _ (Ext.new av hq _) (av.new hq _) _ ?_;simp only[RV,RF];exact⟨q,o,rfl,BC av hq,zf⟩
  next=>exact p3.elim
 |f _=>exact p1.elim
 |tup _=>exact p1.elim
 |exc _=>exact p1.elim
theorem zda{ap cp:Pos}(ha:PE X a (lE ct Ra E ea))(hb:PE X b (lE ct Ra E eb))(hn:Yj a=true)(cF:Ya b=true)(cR:(ap.endLine==cp.line)=true) :
  PE X (.Call (.Attribute a "update" ap) [b] [] cp) (lE ct Ra E λσ h=>(ea σ h).bind λx h1=>opt (Q7 h1 x) λ_=>(eb σ h1).bind λy h2=>BZ x y h2):=by
 have nQ:∀ e∈[b],Ya e=true:=λe he=>by rw[Xd.mp he];exact cF
 refine PE.imp (zcW ha hb ⟨qy hn,EV nQ (by simp),cR,by rw[Zp nQ];rfl⟩) λσ H Q q=>?_;obtain⟨μ,h,σs,rel,aM,ra,pp⟩:=q;refine lE.mk rel aM ra pp λm w μ1 h1 H1 gD av aT m7 p1=>?_;obtain⟨ks0,e0,p2⟩:=Po.opt p1;obtain⟨c,rfl,rd0⟩:=Md av m7 e0;refine⟨c,rfl,.inr ⟨_,rd0⟩,?_⟩;refine lE.mk av aT ra p2 λm2 w2 μ2 h2 H2 dJ a9 dA jg p3=>?_;have uX:=m7.ext dJ;cases m with
 |ref i =>
  cases m2 with
  |f y =>
   cases y with
   |c9 iD =>
    obtain⟨ks,e1,p4⟩:=Po.opt p3;split at p4
    next hq =>
     obtain⟨h1',Np,h3'⟩:=hq;simp only[RV] at uX;obtain⟨c',ec,ecc⟩:=uX;cases ecc;have hc:=KC e1;have hH:H2 c=some (.dT (qz ks)):=a9.cells _ _ _ ec hc;simp only[RV,RF] at jg;obtain⟨d,o,rfl,nd,hd⟩:=jg;have e6:(if qz iD=[] then qz ks else qz iD)=qz (if iD=[] then ks else iD):=by
      by_cases z:iD=[]
      ·subst z;rfl
      ·rw[if_neg z,if_neg (by intro q;exact z (List.map_eq_nil_iff.mp q))]
     refine⟨d,qz ks,qz iD,rfl,hH,.inr ⟨o,hd⟩,λz=>?_,?_,?_,?_⟩
     ·rw[z,hd] at hH;cases hH
     ·rcases h1' with z|z
      ·left;rw[z];rfl
      ·right;rw[z];rfl
     ·rw[Wf];exact Lv iD Np h3'
     ·rw[e6];have jW:=Ext.set (H:=H2) a9 ec hc (λz=>nomatch z) (.c9 (if iD=[] then ks else iD)) (.dT (qz (if iD=[] then ks else iD)));have jJ:=a9.set (c':=.c9 (if iD=[] then ks else iD)) (o:=.dT (qz (if iD=[] then ks else iD))) ec hc (λz=>nomatch z) zf;exact p4.wU jW jJ _ (by simp only[RV,RF])
    next=>exact p4.elim
   |_=>exact p3.elim
  |ref _=>exact p3.elim
  |tup _=>exact p3.elim
  |exc _=>exact p3.elim
 |f _=>cases m2 <;> exact p3.elim
 |tup _=>cases m2 <;> exact p3.elim
 |exc _=>cases m2 <;> exact p3.elim
theorem yde(hu:X.A.units+65<c7)(ha:PE X a (lE ct Ra E ea))(hb:PE X b (lE ct Ra E eb))(hp:Ya b=true) :
  PE X (.Compare a [.NotIn] [b] pos) (lE ct Ra E λσ h=>(ea σ h).bind λx h1=>(eb σ h1).bind λy h2=>rT x y h2) /\
  PT X (.Compare a [.NotIn] [b] pos) (lT ct Ra E (fE λσ h=>(ea σ h).bind λx h1=>(eb σ h1).bind λy h2=>rT x y h2)):=by
 have main:∀ σ H Q,lE ct Ra E (λσ h=>(ea σ h).bind λx h1=>(eb σ h1).bind λy h2=>rT x y h2) σ H Q->Mr (lE ct Ra E ea) (lE ct Ra E eb) σ H Q:=λσ H Q q=>by
  obtain⟨μ,h,σs,rel,aM,ra,pp⟩:=q;refine lE.mk rel aM ra pp λm w μ1 h1 H1 gD av aT m7 p1=>?_;refine lE.mk av aT ra p1 λm2 w2 μ2 h2 H2 dJ a9 dA jg p2=>?_;obtain⟨k,e1,p3⟩:=Po.opt p2;obtain⟨ks,e2,p4⟩:=Po.opt p3;obtain⟨c,rfl,rd⟩:=Md a9 jg e2;obtain⟨q,rfl,_,hq⟩:=Ee (m7.ext dJ) e1;refine⟨c,_,rfl,.inr ⟨_,kP k,q,rd,rfl,hq,rfl⟩,?_⟩;rw[Ycj];have e3:(!decide (k∈ks))=decide (k∉ks):=by by_cases z:k∈ks <;> simp[z]
  rw[e3];exact p4.now a9 _ (YE _)
 have jE:bF .NotIn b=false:=YI hp _;exact Bx (Jg (Ol (by lia) ha hb) jE) (Ek (Ol (by lia) ha hb) jE) main
theorem Qcm{K:PySem.W.Frag}(hK:K=ct.K){b:Bool}{a:af}{xs:List MV}{g:qD}{μ1:List af}{h1:MH}{H1:Hp}(s1:Bv ct b a xs g μ1 h1 H1):Wk ct (rN K b a) (xs.mapIdx λk x=>yh [.f (.int ((k+1:Nat):Int)),x]) g μ1 h1 H1:=by
 intro i μ h H ex rel gd;obtain⟨vs,sq,rs⟩:=s1 μ h H ex rel gd;have hl:=rs.length;refine⟨λhi=>?_,λhi=>?_⟩
 ·simp only[VD] at hi;refine⟨⟨vs,sq.s hK,by lia⟩,λx H2 y=>?_⟩;obtain⟨T,x1,rfl,hT,rfl,e1⟩:=y;obtain⟨m1,IJ,r1⟩:=rs.get' (e1 vs (sq.s hK));have sy:=Ext.new rel hT (.tup [.int ((i+1:Nat):Int),x1]);refine⟨yh [.f (.int ((i+1:Nat):Int)),m1],?_,sy,rel.new hT _,YQ (BC rel hT) zf (aC.cons (zu _) (aC.cons (r1.ext sy) aC.nil))⟩;rw[Wl,IJ];rfl
 ·simp only[VD] at hi;exact⟨vs,sq.s hK,by lia⟩
theorem zcD(hK:X.K=ct.K){es:List Expr}{kt j:Nat}{pt cp kp:Pos}{ev:aF->MH->R MV}(hg:Gl X "enumerate")(hm:X.mg "enumerate"=none)(ha:PE X a (lE ct Ra E ev))(cF:Ya a=true) :
  PI X (.Tuple es kt pt) (CB a j p cp kp pos) (lI ct Ra E (λσ hh=>(ev σ hh).bind λx h1=>.ok [x] h1) "enum1"):=by
 have nQ:∀ e∈[a],Ya e=true:=λe he=>by rw[Xd.mp he];exact cF
 refine PI.imp (hK ▸ Zck hg hm ha (Zp nQ)) λσ H Q q=>?_;obtain⟨μ,hh,σs,rel,aM,ra,p⟩:=q;refine lE.mk rel aM ra p λm v μ1 h1 H1 ex av aT rv p1=>?_;obtain⟨items,g,e1,_,k⟩:=p1.now av;simp only[eU,Vd,Prod.mk.injEq] at e1;obtain⟨us,e2,rfl,rfl⟩:=e1;obtain⟨b1,a1,rfl,s1⟩:=BD av e2 rv;obtain⟨F5,q1,_⟩:=s1 _ _ _ (Ext.refl _ _ _) av (Cf e2);exact⟨b1,a1,rfl,⟨F5,q1.s rfl⟩,k _ (Qcm rfl s1)⟩
end
end
section
variable {ct:Tx} {Pm:Prog} {n:Nat}
section
variable {X:Cx} {E:XK} {Ra:L2.St->Prop} {N:List Str} {sc:aA}
theorem yd{e:Expr}{ev oN:aF->MH->R MV}(p:PE X e (lE ct Ra E ev))(h:∀ σ hh,oN σ hh=ev σ hh):PE X e (lE ct Ra E oN):=by
 have:oN=ev:=funext λσ=>funext λhh=>h σ hh;rw[this];exact p
theorem Qr{e:Expr}{ev oN:aF->MH->R MV}(p:PE X e (lE ct Ra E ev)/\PT X e (lT ct Ra E (fE ev)))(h:∀ σ hh,oN σ hh=ev σ hh):PE X e (lE ct Ra E oN)/\PT X e (lT ct Ra E (fE oN)):=by
 have:oN=ev:=funext λσ=>funext λhh=>h σ hh;rw[this];exact p
theorem Cc.comp{cs:aA}{N':List Str}(c:Cc X Pm ct n Ra E N sc)(nd:N'.Nodup)(C:af)(s3:ag)(H:Hp)(ex:List af):Cc (ie X cs N' C s3 H ex) Pm ct n (λ_=>True) E0 N' (ZM cs sc) :=
 ⟨c.txt,c.calm,c.room,λσ _ pins H s e s' I ⟨_,_,_,_,_,_,_,_,_,_,_,_,_,_,_,q⟩=>q.elim,rfl,by rw[<- c.sc];rfl,nd,c.hK⟩
noncomputable def Sd(X:Cx)(ct:Tx)(Pm:Prog)(n:Nat)(Ra:L2.St->Prop)(E:XK)(me:ME)(e:Expr):Prop :=
 PE X e (lE ct Ra E (qa Pm (run Pm n) me))/\(iX me=true->PT X e (lT ct Ra E (fE (qa Pm (run Pm n) me))))
theorem Sd.of{me:ME}{e:Expr}(h:PE X e (lE ct Ra E (qa Pm (run Pm n) me))/\PT X e (lT ct Ra E (fE (qa Pm (run Pm n) me)))):Sd X ct Pm n Ra E me e:=⟨h.1,λ_=>h.2⟩
theorem Kt{ms:List ME}{es:List Expr}(b:Bo ct X Ra E Pm n ms es)(hl:es.length<1000):∀ σ h xs h',yg Pm (run Pm n) ms σ h=.ok xs h'->xs.length<=sizeLine:=λσ h xs h' e=>by
 rw[yR e,b.length];exact vf (ww hl) (by decide)
end
end
end SD
end
section
namespace SD
open PySem PySem.Spec PyProof.Rows L2 L3 M3 MP
variable {ct:Tx} {Pm:Prog} {n:Nat}
theorem J1{X:Cx}{E:XK}{Ra:L2.St->Prop}{N:List Str}{sc:aA}{it:String}{t iter:Expr}{ms:List ME}(c:Cc X Pm ct n Ra E N sc)(k1:oX t it iter=true)(k2:gl sc (Str.ofString it)=true)(b:Bo ct X Ra E Pm n ms (yG iter)) :
  PI X t iter (lI ct Ra E (yg Pm (run Pm n) ms) it):=by
 obtain⟨g1,g2,g3⟩:=zP c.sc k2;unfold oX at k1;split at k1
 next x p as p2 =>
  simp only[Wa,vn,beq_iff_eq] at k1;obtain⟨k1,rfl⟩:=k1;have b':Bo ct X Ra E Pm n ms as:=b
  rcases k1 with (⟨rfl,ha⟩|⟨⟨rfl,ht⟩,ha⟩)|⟨⟨rfl,ht⟩,ha⟩
  ·have hl:=b'.length;have hm:X.mg "range"=none:=c.txt.ip "range" (by simp);exact Yct g1 hm b'.pa b'.plain ha λσ h xs h' e=>by rw[yR e,hl]
  ·cases t with
   |Tuple es k pt =>
    have hm:X.mg "zip"=none:=c.txt.ip "zip" (by simp)
    rcases as with _|⟨u,_|⟨v,_|⟨w,as⟩⟩⟩
    ·simp at ha
    ·simp at ha
    ·exact Zde c.hK g1 hm b'.pa b'.plain λσ h xs h' e=>by rw[yR e,b'.length];rfl
    ·simp at ha
   |_=>exact Vg ht
  ·exact Vg ht
 next=>exact Vg k1
theorem Oz{e:Expr}(h:tj e=true):∃ k p,e=.Constant (.bool true) k p:=by
 cases e with
 |Constant c k p =>
  cases c with
  |bool b=>cases b with
   |true=>exact⟨k,p,rfl⟩
   |false=>exact ff h
  |_=>exact ff h
 |_=>exact ff h
theorem GU{α:Type}{l:List α}{p:α×α}(h:sN l=some p):l=[p.1,p.2]:=by
 rcases l with _|⟨a,_|⟨b,_|⟨c,l⟩⟩⟩
 ·exact nomatch h
 ·exact nomatch h
 ·cases h;rfl
 ·exact nomatch h
theorem Jc{α:Type}{l:List α}{p:α}(h:vG l=some p):l=[p]:=by
 rcases l with _|⟨a,_|⟨b,l⟩⟩
 ·exact nomatch h
 ·cases h;rfl
 ·exact nomatch h
theorem QcA{e a:Expr}(h:ZO e=some a):∃ j p cp kp pos,e=CB a j p cp kp pos:=by
 unfold ZO at h;split at h
 next x p as ks pos =>
  split at h
  next w =>
   rw[Wa] at w;obtain⟨w1,w2⟩:=w;have:=Jc h;subst this;unfold OW at w2;split at w2
   next k j cp kp =>
    have e1:x=("enumerate":Str):=by simpa using w1
    have e2:k=("start":Str):=by simpa using w2
    subst e1;subst e2;exact⟨j,p,cp,kp,pos,rfl⟩
   next=>cases w2
  next=>cases h
 next=>cases h
theorem yb6{e x y:Expr}(h:Jh e=some (x,y)):∃ k1 p1 k2 p2 p,e=.Dict [some x,some y] [.Constant (.bool true) k1 p1,.Constant (.bool true) k2 p2] p:=by
 cases e with
 |Dict ks vs p =>
  have h:((sN ks).bind λk=>(sN vs).bind λv=>if tj v.1&&tj v.2 then k.1.bind λx=>k.2.map λy=>(x,y) else none)=some (x,y):=h;obtain⟨⟨a,b⟩,e1,h⟩:=uc.mp h;obtain⟨⟨u,v⟩,e2,h⟩:=uc.mp h;split at h
  next hb =>
   simp only[Wa] at hb;obtain⟨k1,p1,e3⟩:=Oz hb.1;obtain⟨k2,p2,e4⟩:=Oz hb.2;dsimp only at e3 e4 h;obtain⟨x',rfl,h⟩:=uc.mp h;obtain⟨y',rfl,h⟩:=Vd.mp h;cases h;subst e3;subst e4;exact⟨k1,p1,k2,p2,p,by rw[GU e1,GU e2]⟩
  next=>cases h
 |_=>exact nomatch h
theorem NZ{e v:Expr}{x:Str}(h:rF e=some (x,v)):∃ p q,e=.Call (.Name x p) [v] [] q:=by
 cases e with
 |Call g as ks q =>
  cases g with
  |Name z p =>
   cases ks with
   |nil =>
    have h:((vG as).map λa=>(z,a))=some (x,v):=h;obtain⟨a,e1,h⟩:=Vd.mp h;cases h;exact⟨p,q,by rw[Jc e1]⟩
   |cons _ _=>exact nomatch h
  |_=>exact nomatch h
 |_=>exact nomatch h
theorem ZbM{e v:Expr}{x y:Str}(h:Bt e=some (x,y,v)):∃ p1 p2 p3 p,e=.Call (.Name x p1) [.Call (.Name y p2) [v] [] p3] [] p:=by
 obtain⟨⟨x',v'⟩,e1,h⟩:=uc.mp h;obtain⟨⟨y',w⟩,e2,h⟩:=Vd.mp h;cases h;obtain⟨p1,p,rfl⟩:=NZ e1;obtain⟨p2,p3,rfl⟩:=NZ e2;exact⟨p1,p2,p3,p,rfl⟩
mutual
theorem sB:∀(me:ME){X:Cx}{E:XK}{Ra:L2.St->Prop}{N:List Str} {sc:aA} (c:Cc X Pm ct n Ra E N sc) (e:Expr),Yf Pm me N sc e=true->Sd X ct Pm n Ra E me e
 |.var i,X,E,Ra,N,sc,c,e,h=>by
  have h:=ze h;cases e with
  |Name x p =>
   have h:(N[i]? == some x&&ny sc x)=true:=h;simp only[Wa,beq_iff_eq] at h;exact Sd.of (Ze (yd (AR (by rw[c.nm];exact h.1) (by rw[c.sc];exact h.2)) λσ hh=>by simp only[qa]))
  |_=>exact ff h
 |.cI i,X,E,Ra,N,sc,c,e,h=>by
  have h:=ze h;cases e with
  |Constant k j p =>
   cases k with
   |int z =>
    have hz:i=z:=by simpa using(show(i==z)=true from h)
    subst hz;exact Sd.of (Ze (yd (DI K4 λ_ _ _=>zu _) λσ hh=>by simp only[qa]))
   |_=>exact ff h
  |_=>exact ff h
 |.cB i,X,E,Ra,N,sc,c,e,h=>by
  have h:=ze h;cases e with
  |Constant k j p =>
   cases k with
   |bool z =>
    have hz:i=z:=by simpa using(show(i==z)=true from h)
    subst hz;exact Sd.of (Ze (yd (DI CH λ_ _ _=>YE _) λσ hh=>by simp only[qa]))
   |_=>exact ff h
  |_=>exact ff h
 |.cN,X,E,Ra,N,sc,c,e,h=>by
  have h:=ze h;cases e with
  |Constant k j p =>
   cases k with
   |none =>
    exact Sd.of (Ze (yd (DI Qdp λ_ _ _=>rX) λσ hh=>by simp only[qa]))
   |_=>exact ff h
  |_=>exact ff h
 |.cS i,X,E,Ra,N,sc,c,e,h=>by
  have h:=ze h;cases e with
  |Constant k j p =>
   cases k with
   |str z =>
    have hz:i=z:=by simpa using(show(i==z)=true from h)
    subst hz;exact Sd.of (Ze (yd (DI qc9 λ_ _ _=>zc9 _) λσ hh=>by simp only[qa]))
   |_=>exact ff h
  |_=>exact ff h
 |.glob g,X,E,Ra,N,sc,c,e,h=>by
  have h:=ze h;cases e with
  |Name x p =>
   have h:(x==Str.ofString g&&gl sc x&&JD (Pm.dE g))=true:=h;simp only[Wa,beq_iff_eq] at h;obtain⟨⟨rfl,h1⟩,h2⟩:=h;have hv:∃ i,Pm.dE g=some (.int i):=by
    unfold JD at h2;split at h2
    ·exact⟨_,by assumption⟩
    ·cases h2
   obtain⟨i,hv⟩:=hv;exact Sd.of (Ze (yd (Qdg c hv h1) λσ hh=>by simp only[qa]))
  |_=>exact ff h
 |.bin fz op a b,X,E,Ra,N,sc,c,e,h=>by
  have h:=ze h;cases e with
  |BinOp l o r p =>
   have h:(o==CU op&&Yf Pm a N sc l&&Yf Pm b N sc r)=true:=h;simp only[Wa,beq_iff_eq] at h;obtain⟨⟨rfl,h1⟩,h2⟩:=h;exact Sd.of (Ze (yd (A7 fz op (sB a c l h1).1 (sB b c r h2).1) λσ hh=>by simp only[qa]))
  |_=>exact ff h
 |.neg a,X,E,Ra,N,sc,c,e,h=>by
  have h:=ze h;cases e with
  |UnaryOp o x p =>
   cases o with
   |USub=>exact Sd.of (Ze (yd (AX (sB a c x (show Yf Pm a N sc x=true from h)).1) λσ hh=>by simp only[qa]))
   |_=>exact ff h
  |_=>exact ff h
 |.cmp op a b,X,E,Ra,N,sc,c,e,h=>by
  have h:=ze h;cases e with
  |Compare l os rs p =>
   rcases os with _|⟨o,_|⟨o2,os⟩⟩
   ·exact ff h
   ·rcases rs with _|⟨r,_|⟨r2,rs⟩⟩
    ·exact ff h
    ·have h:(o==lB op&&Yf Pm a N sc l&&Yf Pm b N sc r)=true:=h;simp only[Wa,beq_iff_eq] at h;obtain⟨⟨rfl,h1⟩,h2⟩:=h;exact Sd.of (Qr (A5 c.hK op c.units (sB a c l h1).1 (sB b c r h2).1 (Yl h2)) λσ hh=>by simp only[qa])
    ·exact ff h
   ·exact ff h
  |_=>exact ff h
 |.chain op MM a b d,X,E,Ra,N,sc,c,e,h=>by
  have h:=ze h;cases e with
  |Compare l os rs p =>
   rcases os with _|⟨o,_|⟨o2,_|⟨o3,os⟩⟩⟩
   ·exact ff h
   ·exact ff h
   ·rcases rs with _|⟨m,_|⟨r,_|⟨r2,rs⟩⟩⟩
    ·exact ff h
    ·exact ff h
    ·have h:(o==lB op&&o2==lB MM&&Yf Pm a N sc l&&Yf Pm b N sc m&&Yf Pm d N sc r)=true:=h;simp only[Wa,beq_iff_eq] at h;obtain⟨⟨⟨⟨rfl,rfl⟩,h1⟩,h2⟩,h3⟩:=h;exact Sd.of (Qr (qcW c.hK op MM c.units (sB a c l h1).1 (sB b c m h2).1 (sB d c r h3).1 (Yl h3)) λσ hh=>by simp only[qa])
    ·exact ff h
   ·exact ff h
  |_=>exact ff h
 |.xV a,X,E,Ra,N,sc,c,e,h=>by
  have h:=ze h;cases e with
  |Compare l os rs p =>
   rcases os with _|⟨o,_|⟨o2,os⟩⟩
   ·exact ff h
   ·cases o with
    |Is =>
     rcases rs with _|⟨r,_|⟨r2,rs⟩⟩
     ·exact ff h
     ·cases r with
      |Constant k j p2 =>
       cases k with
       |none =>
        have h:Yf Pm a N sc l=true:=h;exact Sd.of (Qr (A1 (sB a c l h).1) λσ hh=>by simp only[qa])
       |_=>exact ff h
      |_=>exact ff h
     ·cases r with
      |Constant k j p2=>cases k <;> exact ff h
      |_=>exact ff h
    |_=>exact ff h
   ·cases o <;> exact ff h
  |_=>exact ff h
 |.nJ a,X,E,Ra,N,sc,c,e,h=>by
  have h:=ze h;cases e with
  |Compare l os rs p =>
   rcases os with _|⟨o,_|⟨o2,os⟩⟩
   ·exact ff h
   ·cases o with
    |IsNot =>
     rcases rs with _|⟨r,_|⟨r2,rs⟩⟩
     ·exact ff h
     ·cases r with
      |Constant k j p2 =>
       cases k with
       |none =>
        have h:Yf Pm a N sc l=true:=h;exact Sd.of (Qr (qc8 (sB a c l h).1) λσ hh=>by simp only[qa])
       |_=>exact ff h
      |_=>exact ff h
     ·cases r with
      |Constant k j p2=>cases k <;> exact ff h
      |_=>exact ff h
    |_=>exact ff h
   ·cases o <;> exact ff h
  |_=>exact ff h
 |.and es,X,E,Ra,N,sc,c,e,h=>by
  have h:=ze h;cases e with
  |BoolOp o vs p =>
   cases o with
   |And =>
    have h:(es.all iX&&zo Pm es N sc vs)=true:=h;rw[Wa] at h;obtain⟨i1,i2⟩:=Kv (pos:=p) (kR es c vs h.2) h.1;exact Sd.of (Qr ⟨i1,i2.pt⟩ λσ hh=>by simp only[qa])
   |_=>exact ff h
  |_=>exact ff h
 |.or es,X,E,Ra,N,sc,c,e,h=>by
  have h:=ze h;cases e with
  |BoolOp o vs p =>
   cases o with
   |Or =>
    have h:(es.all iX&&zo Pm es N sc vs)=true:=h;rw[Wa] at h;obtain⟨i1,i2⟩:=AV (pos:=p) (kR es c vs h.2) h.1;exact Sd.of (Qr ⟨i1,i2.pt⟩ λσ hh=>by simp only[qa])
   |_=>exact ff h
  |_=>exact ff h
 |.not a,X,E,Ra,N,sc,c,e,h=>by
  have h:=ze h;cases e with
  |UnaryOp o x p =>
   cases o with
   |Not =>
    have h:(iX a&&Yf Pm a N sc x)=true:=h;rw[Wa] at h;obtain⟨i1,i2⟩:=sB a c x h.2;exact Sd.of (Qr (AW i1 (i2 h.1)) λσ hh=>by simp only[qa])
   |_=>exact ff h
  |_=>exact ff h
 |.ite d a b,X,E,Ra,N,sc,c,e,h=>by
  have h:=ze h;cases e with
  |IfExp t x y p =>
   have h:(iX d&&Yf Pm d N sc t&&Yf Pm a N sc x&&Yf Pm b N sc y)=true:=h;simp only[Wa] at h;obtain⟨⟨⟨h0,h1⟩,h2⟩,h3⟩:=h;exact⟨yd (A0 ((sB d c t h1).2 h0) (sB a c x h2).1 (sB b c y h3).1) λσ hh=>by simp only[qa],λz=>Vg z⟩
  |_=>exact ff h
 |.tup es,X,E,Ra,N,sc,c,e,h=>by
  have h:=ze h;cases e with
  |Tuple vs k p =>
   have h:(decide (vs.length<1000)&&zo Pm es N sc vs)=true:=h;rw[Wa] at h;have b:=kR es c vs h.2;exact Sd.of (Ze (yd (AS b.pa (Kt b (of_decide_eq_true h.1))) λσ hh=>by simp only[qa]))
  |_=>exact ff h
 |.lst fz es,X,E,Ra,N,sc,c,e,h=>by
  have h:=ze h;cases e with
  |List vs p =>
   have h:(decide (vs.length<1000)&&zo Pm es N sc vs)=true:=h;rw[Wa] at h;have b:=kR es c vs h.2;exact Sd.of (Ze (yd (AZ fz b.pa (Kt b (of_decide_eq_true h.1))) λσ hh=>by simp only[qa]))
  |_=>exact ff h
 |.sub a i,X,E,Ra,N,sc,c,e,h=>by
  have h:=ze h;cases e with
  |Subscript x y p =>
   have h:(Yf Pm a N sc x&&Yf Pm i N sc y)=true:=h;rw[Wa] at h;exact Sd.of (Ze (yd (AU c.hK (sB a c x h.1).1 (sB i c y h.2).1 (Yl h.2)) λσ hh=>by simp only[qa]))
  |_=>exact ff h
 |.slice fz a lo hi,X,E,Ra,N,sc,c,e,h=>by
  have h:=ze h;cases e with
  |Subscript x y p =>
   cases y with
   |Slice l u st p2 =>
    cases st with
    |none =>
     have h:(Yf Pm a N sc x&&tx Pm lo N sc l&&tx Pm hi N sc u)=true:=h;simp only[Wa] at h;obtain⟨⟨h1,h2⟩,h3⟩:=h;exact Sd.of (Ze (yd (ycI c.hK fz (sB a c x h1).1 (LY lo c l h2) (LY hi c u h3)) λσ hh=>by simp only[qa]))
    |some _=>exact ff h
   |_=>exact ff h
  |_=>exact ff h
 |.fld a f,X,E,Ra,N,sc,c,e,h=>by
  have h:=ze h;cases e with
  |Attribute x m p =>
   have h:(m==Str.ofString f&&Yj x&&Yf Pm a N sc x)=true:=h;simp only[Wa,beq_iff_eq] at h;obtain⟨⟨rfl,h1⟩,h2⟩:=h;exact Sd.of (Ze (yd (A4 c.txt (sB a c x h2).1 h1) λσ hh=>by simp only[qa]))
  |_=>exact ff h
 |.call f es,X,E,Ra,N,sc,c,e,h=>by
  have h:=ze h;cases e with
  |Call g as ks p =>
   cases g with
   |Name x p2 =>
    cases as with
    |nil=>exact ff h
    |cons v vs =>
     cases ks with
     |cons _ _=>exact ff h
     |nil =>
      have h:(x==Str.ofString f&&gl sc x&&!(f.toList.contains '.')&&(Pm.defs f).isSome&&zo Pm es N sc (v::vs))=true:=h;simp only[Wa,beq_iff_eq,wo] at h;obtain⟨⟨⟨⟨rfl,h1⟩,h2⟩,h3⟩,h4⟩:=h;obtain⟨d,hd⟩:=wn.mp h3;have b:=kR es c (v::vs) h4;exact Sd.of (Ze (yd (Ydj c hd h2 h1 b.pa b.plain) λσ hh=>by simp only[qa]))
   |_=>exact ff h
  |_=>exact ff h
 |.make fz cn es,X,E,Ra,N,sc,c,e,h=>by
  have h:=ze h;cases e with
  |Call g as ks p =>
   cases g with
   |Name x p2 =>
    cases as with
    |nil =>
     cases ks with
     |cons _ _=>cases es <;> exact ff h
     |nil =>
      cases es with
      |cons _ _=>exact ff h
      |nil =>
       have h:(x==Str.ofString cn&&gl sc x&&Pm.mB cn&&(Pm.meths cn "__init__").isNone)=true:=h;simp only[Wa,beq_iff_eq,Option.isNone_iff_eq_none] at h;obtain⟨⟨⟨rfl,h1⟩,h3⟩,h4⟩:=h;exact Sd.of (Ze (yd (ZcM fz c h3 h4 h1) λσ hh=>by simp only[qa,yg]))
    |cons v vs =>
     cases ks with
     |cons _ _=>exact ff h
     |nil =>
      have h:(x==Str.ofString cn&&gl sc x&&(Pm.meths cn "__init__").isSome&&zo Pm es N sc (v::vs))=true:=h;simp only[Wa,beq_iff_eq] at h;obtain⟨⟨⟨rfl,h1⟩,h3⟩,h4⟩:=h;obtain⟨d,hd⟩:=wn.mp h3;have b:=kR es c (v::vs) h4;exact Sd.of (Ze (yd (zdo fz c hd h1 b.pa b.plain) λσ hh=>by simp only[qa]))
   |_=>exact ff h
  |_=>exact ff h
 |.kA o m es,X,E,Ra,N,sc,c,e,h=>by
  have h:=ze h;cases e with
  |Call g as ks p =>
   cases g with
   |Attribute x nm ap =>
    cases ks with
    |cons _ _=>exact ff h
    |nil =>
     have h:(nm==Str.ofString m&&decide (m≠"__init__")&&Yj x&&(ap.endLine==p.line)&&Yf Pm o N sc x&&zo Pm es N sc as&&decide (as.length<30))=true:=h;simp only[Wa,beq_iff_eq,decide_eq_true_eq] at h;obtain⟨⟨⟨⟨⟨⟨rfl,h0⟩,h1⟩,h2⟩,h3⟩,h4⟩,h5⟩:=h;have b:=kR es c as h4;have ho:=(sB o c x h3).1;have hl:(ap.endLine==p.line)=true:=by simpa using h2
     cases as with
     |nil =>
      cases es with
      |cons _ _=>exact b.elim
      |nil=>exact Sd.of (Ze (yd (YcQ c h0 ho h1 hl) λσ hh=>by simp only[qa,yg]))
     |cons v vs=>exact Sd.of (Ze (yd (zcX c h0 ho h1 b.pa b.plain h5 hl) λσ hh=>by simp only[qa]))
   |_=>exact ff h
  |_=>exact ff h
 |.blt fz id es,X,E,Ra,N,sc,c,e,h=>by
  have h:=ze h;cases e with
  |Call g as ks p =>
   cases g with
   |Name x p2 =>
    cases as with
    |nil=>exact ff h
    |cons v vs =>
     cases ks with
     |cons _ _=>exact ff h
     |nil =>
      have h:(x==Str.ofString id&&gl sc x&&(eu.contains id||dH.contains id)&&zo Pm es N sc (v::vs))=true:=h;simp only[Wa,beq_iff_eq,vn] at h;obtain⟨⟨⟨rfl,h1⟩,h2⟩,h4⟩:=h;have b:=kR es c (v::vs) h4;exact Sd.of (Ze (yd (A6 fz c (by simpa using h2) h1 b.pa b.plain) λσ hh=>by simp only[qa]))
   |_=>exact ff h
  |_=>exact ff h
 |.kC a t,X,E,Ra,N,sc,c,e,h=>by
  have h:=ze h;cases e with
  |Call g as ks p =>
   cases g with
   |Name x p2 =>
    rcases as with _|⟨v,_|⟨y,_|⟨z,as⟩⟩⟩
    ·exact ff h
    ·exact ff h
    ·cases y with
     |Name y p3 =>
      cases ks with
      |nil =>
       have h:(x==("isinstance":Str)&&gl sc x&&y==Str.ofString t&&gl sc y&&(bx.contains t||(Pm.subs t t).isSome)&&Yf Pm a N sc v)=true:=h;simp only[Wa,beq_iff_eq,vn] at h;obtain⟨⟨⟨⟨⟨rfl,h1⟩,rfl⟩,h2⟩,h3⟩,h4⟩:=h;exact Sd.of (Ze (yd (A2 c h3 h1 h2 (sB a c v h4).1 (Yl h4)) λσ hh=>by simp only[qa]))
      |cons _ _=>exact ff h
     |_=>exact ff h
    ·cases y <;> exact ff h
   |_=>exact ff h
  |_=>exact ff h
 |.iy a b,X,E,Ra,N,sc,c,e,h=>by
  replace h:=ze h;replace h:(match Jh e with|some (x,y)=>Yf Pm a N sc x&&Yf Pm b N sc y|none=>false)=true:=h;split at h
  next x y w =>
   obtain⟨k1,p1,k2,p2,p,rfl⟩:=yb6 w;simp only[Wa] at h;exact Sd.of (Ze (yd (YcW (sB a c x h.1).1 (sB b c y h.2).1) λσ hh=>by simp only[qa]))
  next=>exact ff h
 |.nE fz a,X,E,Ra,N,sc,c,e,h=>by
  replace h:=ze h;replace h:(match Bt e with|some (x,y,v)=>false|none=>match EF e with|some v=>Yf Pm a N sc v|none=>false)=true:=h;split at h
  next x y v w=>exact ff h
  next =>
   split at h
   next v w =>
    have hw:∃ st p2 p,e=.Subscript v (.Slice none none (some st) p2) p/\nO st=true:=by
     unfold EF at w;split at w
     ·split at w
      ·cases w;exact⟨_,_,_,rfl,by assumption⟩
      ·cases w
     ·cases w
    obtain⟨st,p2,p,rfl,pQ⟩:=hw;exact Sd.of (Ze (yd (ydf fz c pQ (sB a c v h).1) λσ hh=>by simp only[qa]))
   next=>exact ff h
 |.jZ a,X,E,Ra,N,sc,c,e,h=>by
  replace h:=ze h;replace h:(match Bt e with|some (x,y,v)=>x==("sorted":Str)&&gl sc x&&y==("list":Str)&&gl sc y&&Yf Pm a N sc v|none=>false)=true:=h;split at h
  next x y v w =>
   obtain⟨p1,p2,p3,p,rfl⟩:=ZbM w;simp only[Wa,beq_iff_eq] at h;obtain⟨⟨⟨⟨rfl,h1⟩,rfl⟩,h2⟩,h3⟩:=h;exact Sd.of (Ze (yd (Zc9 (p4:=p) c h1 h2 (sB a c v h3).1 (Yl h3)) λσ hh=>by simp only[qa]))
  next=>exact ff h
 |.nN,X,E,Ra,N,sc,c,e,h=>by
  replace h:=ze h;cases e with
  |Dict ks vs p =>
   cases ks with
   |nil =>
    cases vs with
    |nil=>exact Sd.of (Ze (yd Qc6 λσ hh=>by simp only[qa]))
    |cons _ _=>exact ff h
   |cons _ _=>exact ff h
  |_=>exact ff h
 |.CV a,X,E,Ra,N,sc,c,e,h=>by
  replace h:=ze h;cases e with
  |Call f as ks p =>
   cases f with
   |Name x np =>
    rcases as with _|⟨v,_|⟨v2,as⟩⟩
    ·exact ff h
    ·cases ks with
     |nil =>
      replace h:(x==("dict":Str)&&gl sc x&&Yf Pm a N sc v)=true:=h;simp only[Wa,beq_iff_eq] at h;obtain⟨⟨rfl,h1⟩,h2⟩:=h;exact Sd.of (Ze (yd (AY c h1 (sB a c v h2).1 (Yl h2)) λσ hh=>by simp only[qa]))
     |cons _ _=>exact ff h
    ·exact ff h
   |_=>exact ff h
  |_=>exact ff h
 |.nL a b,X,E,Ra,N,sc,c,e,h=>by
  replace h:=ze h;cases e with
  |Call f as ks p =>
   cases f with
   |Attribute x n ap =>
    rcases as with _|⟨v,_|⟨v2,as⟩⟩
    ·exact ff h
    ·cases ks with
     |nil =>
      replace h:(n==("update":Str)&&Yj x&&(ap.endLine==p.line)&&Yf Pm a N sc x&&Yf Pm b N sc v)=true:=h;simp only[Wa,beq_iff_eq] at h;obtain⟨⟨⟨⟨rfl,h1⟩,h2⟩,h3⟩,h4⟩:=h;exact Sd.of (Ze (yd (zda (sB a c x h3).1 (sB b c v h4).1 h1 (Yl h4) (by simpa using h2)) λσ hh=>by simp only[qa]))
     |cons _ _=>exact ff h
    ·exact ff h
   |_=>exact ff h
  |_=>exact ff h
 |.nM a b,X,E,Ra,N,sc,c,e,h=>by
  replace h:=ze h;cases e with
  |Compare l os rs p =>
   rcases os with _|⟨o,_|⟨o2,os⟩⟩
   ·exact ff h
   ·rcases rs with _|⟨r,_|⟨r2,rs⟩⟩
    ·cases o <;> exact ff h
    ·cases o with
     |NotIn =>
      replace h:(Yf Pm a N sc l&&Yf Pm b N sc r)=true:=h;simp only[Wa] at h;exact Sd.of (Qr (yde c.units (sB a c l h.1).1 (sB b c r h.2).1 (Yl h.2)) λσ hh=>by simp only[qa])
     |_=>exact ff h
    ·cases o <;> exact ff h
   ·cases o <;> exact ff h
  |_=>exact ff h
 |.kS a b,X,E,Ra,N,sc,c,e,h=>by
  replace h:=ze h;cases e <;> exact ff h
 |.lm m o es,X,E,Ra,N,sc,c,e,h=>by
  have h:=ze h;cases e with
  |Call g as ks p =>
   cases g with
   |Attribute x nm ap =>
    cases ks with
    |cons _ _=>exact ff h
    |nil =>
     have h:(nm==Str.ofString m&&Yj x&&(ap.endLine==p.line)&&Yf Pm o N sc x&&zo Pm es N sc as&&(if as.isEmpty then gO.contains m else iL.contains m&&decide (as.length<30)))=true:=h;simp only[Wa,beq_iff_eq] at h;obtain⟨⟨⟨⟨⟨rfl,h1⟩,h2⟩,h3⟩,h4⟩,h5⟩:=h;have b:=kR es c as h4;have ho:=(sB o c x h3).1;have hl:(ap.endLine==p.line)=true:=by simpa using h2
     cases as with
     |nil =>
      cases es with
      |cons _ _=>exact b.elim
      |nil =>
       have Dr:m∈gO:=by simpa using h5
       simp only[gO,ua,Ud,or_false] at Dr
       rcases Dr with rfl|rfl
       ·exact Sd.of (Ze (yd (Kw PySem.F.slot_list_reverse PySem.F.type_list_reverse qbH ho h1 hl) λσ hh=>by simp only[qa,yg]))
       ·exact Sd.of (Ze (yd (Kw PySem.F.slot_list_clear PySem.F.type_list_clear qcm ho h1 hl) λσ hh=>by simp only[qa,yg]))
     |cons v vs =>
      have Dr:m∈iL/\(v::vs).length<30:=by simpa using h5
      obtain⟨h6,h7⟩:=Dr;simp only[iL,ua,Ud,or_false] at h6
      rcases h6 with rfl|rfl
      ·exact Sd.of (Ze (yd (Mh PySem.F.slot_list_append PySem.F.type_list_append Qb6 ho h1 b.pa b.plain h7 hl) λσ hh=>by simp only[qa]))
      ·exact Sd.of (Ze (yd (Mh PySem.F.slot_list_extend PySem.F.type_list_extend zb7 ho h1 b.pa b.plain h7 hl) λσ hh=>by simp only[qa]))
   |_=>exact ff h
  |_=>exact ff h
 |.comp fz elt tg it src cond bZ js,X,E,Ra,N,sc,c,e,h=>by
  have h:=ze h;cases e with
  |ListComp x gs cs p =>
   rcases gs with _|⟨⟨t,iter,ifs,a⟩,_|⟨g2,gs⟩⟩
   ·exact ff h
   ·have h:((a==0)&&Ya iter&&ZG sc N cs (lU tg t++js.filterMap λj=>N[j]?) bZ js&&decide (lU tg t++js.filterMap λj=>N[j]?).Nodup&&qG (pG cs) (lU tg t++js.filterMap λj=>N[j]?) (ZM cs sc) tg t&&Yf Pm elt (lU tg t++js.filterMap λj=>N[j]?) (ZM cs sc) x&&n6 Pm cond (lU tg t++js.filterMap λj=>N[j]?) (ZM cs sc) ifs&&(if it == "seq" then lP Pm src N sc iter else if it == "enum1" then pF t sc iter&&lP Pm src N sc (ou iter) else oX t it iter&&gl sc (Str.ofString it)&&zo Pm src N sc (yG iter)))=true:=h;simp only[Wa,beq_iff_eq,decide_eq_true_eq] at h;obtain⟨⟨⟨⟨⟨⟨⟨ha,h1⟩,h2⟩,h3⟩,h4⟩,h5⟩,h6⟩,h7⟩:=h;subst ha;have hi:PI X t iter (lI ct Ra E (yg Pm (run Pm n) src) it):=by
     split at h7
     next hs =>
      subst hs;exact Gy src c t iter h7
     next hs =>
      split at h7
      next lK =>
       subst lK;simp only[Wa] at h7;exact Gx src c t iter h7.1 h7.2
      next =>
       simp only[Wa] at h7;obtain⟨⟨k1,k2⟩,k3⟩:=h7;exact J1 c k1 k2 (kR src c (yG iter) k3)
    exact Sd.of (Ze (yd (Qdl fz (by rw[c.sc,c.nm];exact h2) c.calm hi (λC s3 H ex=>sG rfl (c.comp h3 C s3 H ex).sc h3 c.calm (λ_ z=>z) tg t h4) (λC s3 H ex=>LZ cond (c.comp h3 C s3 H ex) ifs h6) (λC s3 H ex=>(sB elt (c.comp h3 C s3 H ex) x h5).1) h1) λσ hh=>by simp only[qa]))
   ·exact ff h
  |_=>exact ff h
 |.eZ m,X,E,Ra,N,sc,c,e,h=>by
  have h:=ze h;have h':Yf Pm m N sc e=true:=h;exact⟨yd (A3 (sB m c e h').1) λσ hh=>by simp only[qa],λz=>Vg z⟩
theorem kR:∀(lW:List ME){X:Cx}{E:XK}{Ra:L2.St->Prop}{N:List Str} {sc:aA} (c:Cc X Pm ct n Ra E N sc) (es:List Expr),zo Pm lW N sc es=true->Bo ct X Ra E Pm n lW es
 |[],X,E,Ra,N,sc,c,es,h=>by
  cases es with
  |nil=>trivial
  |cons e es=>exact ff h
 |m::ms,X,E,Ra,N,sc,c,es,h=>by
  cases es with
  |nil=>exact ff h
  |cons e es =>
   have h:=QbN h;exact⟨⟨Yl h.1,sB m c e h.1⟩,kR ms c es h.2⟩
theorem Gy:∀(lW:List ME){X:Cx}{E:XK}{Ra:L2.St->Prop}{N:List Str} {sc:aA} (c:Cc X Pm ct n Ra E N sc) (t e:Expr),lP Pm lW N sc e=true->PI X t e (lI ct Ra E (yg Pm (run Pm n) lW) "seq")
 |[],X,E,Ra,N,sc,c,t,e,h=>ff h
 |[m],X,E,Ra,N,sc,c,t,e,h=>by
  have h:Yf Pm m N sc e=true:=h;have:=Zdo c.hK (tg:=t) (sB m c e h).1;have e2:yg Pm (run Pm n) [m]=λσ hh=>(qa Pm (run Pm n) m σ hh).bind λx h1=>.ok [x] h1:=by
   funext σ hh;simp only[yg] <;> rfl
  rw[e2];exact this
 |_::_::_,X,E,Ra,N,sc,c,t,e,h=>ff h
theorem Gx:∀(lW:List ME){X:Cx}{E:XK}{Ra:L2.St->Prop}{N:List Str} {sc:aA} (c:Cc X Pm ct n Ra E N sc) (t e:Expr),pF t sc e=true->lP Pm lW N sc (ou e)=true->PI X t e (lI ct Ra E (yg Pm (run Pm n) lW) "enum1")
 |[],X,E,Ra,N,sc,c,t,e,h0,h=>ff h
 |[m],X,E,Ra,N,sc,c,t,e,h0,h=>by
  unfold pF at h0;simp only[Wa] at h0;obtain⟨⟨h1,h2⟩,h3⟩:=h0;obtain⟨k1,k2,k3⟩:=zP c.sc h2;cases hf:ZO e with
  |none=>rw[hf] at h3;cases h3
  |some a =>
   obtain⟨j,p,cp,kp,pos,rfl⟩:=QcA hf;have ea:ou (CB a j p cp kp pos)=a:=by unfold ou;rw[hf];rfl
   rw[ea] at h;have h:Yf Pm m N sc a=true:=h;cases t with
   |Tuple es k pt =>
    have:=zcD (p:=p) (pos:=pos) (es:=es) (kt:=k) (pt:=pt) (j:=j) (cp:=cp) (kp:=kp) c.hK k1 (c.txt.ip "enumerate" (by simp)) (sB m c a h).1 (Yl h);have e2:yg Pm (run Pm n) [m]=λσ hh=>(qa Pm (run Pm n) m σ hh).bind λx h1=>.ok [x] h1:=by
     funext σ hh;simp only[yg] <;> rfl
    rw[e2];exact this
   |_=>exact ff h1
 |_::_::_,X,E,Ra,N,sc,c,t,e,h0,h=>ff h
theorem LY:∀(mo:Option ME){X:Cx}{E:XK}{Ra:L2.St->Prop}{N:List Str} {sc:aA} (c:Cc X Pm ct n Ra E N sc) (eo:Option Expr),tx Pm mo N sc eo=true->PO X eo (lO ct Ra E (tm Pm (run Pm n) mo))
 |none,X,E,Ra,N,sc,c,eo,h=>by
  cases eo with
  |none =>
   refine PO.imp QcH λσ H Q q=>?_;obtain⟨μ,hh,σs,rel,aM,ra,p⟩:=q;simp only[tm] at p;exact p.now rel
  |some e=>exact ff h
 |some m,X,E,Ra,N,sc,c,eo,h=>by
  cases eo with
  |none=>exact ff h
  |some e =>
   have h:Yf Pm m N sc e=true:=h;refine PO.imp (NS (sB m c e h).1) λσ H Q q=>?_;obtain⟨μ,hh,σs,rel,aM,ra,p⟩:=q;simp only[tm] at p;refine lE.mk rel aM ra p λx v μ1 h1 H1 ex av aT rv p1=>?_;obtain⟨i,e,p2⟩:=Po.opt p1;have:=Yi e;subst this;exact⟨i,Qo rv,p2.now av⟩
theorem LZ:∀(mo:Option ME){X:Cx}{E:XK}{Ra:L2.St->Prop}{N:List Str} {sc:aA} (c:Cc X Pm ct n Ra E N sc) (es:List Expr),n6 Pm mo N sc es=true->l6 X es (lT ct Ra E (tF Pm (run Pm n) mo))
 |none,X,E,Ra,N,sc,c,es,h=>by
  cases es with
  |nil =>
   refine l6.imp YcI λσ H Q q=>?_;obtain⟨μ,hh,σs,rel,aM,ra,p⟩:=q;simp only[tF] at p;exact p.now rel
  |cons e es=>exact ff h
 |some m,X,E,Ra,N,sc,c,es,h=>by
  rcases es with _|⟨e,_|⟨e2,es⟩⟩
  ·exact ff h
  ·have h:(iX m&&Yf Pm m N sc e)=true:=h;rw[Wa] at h;have e2:tF Pm (run Pm n) (some m)=fE (qa Pm (run Pm n) m):=by
    funext σ hh;simp only[tF,fE]
   rw[e2];exact ycX ((sB m c e h.2).2 h.1)
  ·exact ff h
end
end SD
end
section
namespace SD
open PySem PySem.Spec PyProof.Rows L2 L3 M3 MP
noncomputable def eX(ct:Tx)(E:XK)(r:RS)(μ:List af)(h:MH)(H:Hp)(D:Ends):Prop:=match r with
 |.next σ' h'=>∀ μ' H' σ,Ext μ h H μ' h' H'->Rel ct μ' h' H'->a8 ct μ' h' H' σ σ'->D.nx σ H'
 |.ret m h'=>∀ μ' H' v,Ext μ h H μ' h' H'->Rel ct μ' h' H'->RV ct μ' (bc μ' h') H' m v->D.rt v H'
 |.brk σ' h'=>∀ μ' H' σ,Ext μ h H μ' h' H'->Rel ct μ' h' H'->a8 ct μ' h' H' σ σ'->D.bk σ H'
 |.cnt σ' h'=>∀ μ' H' σ,Ext μ h H μ' h' H'->Rel ct μ' h' H'->a8 ct μ' h' H' σ σ'->D.ct σ H'
 |.exc c h'=>∀ μ' H',Ext μ h H μ' h' H'->Rel ct μ' h' H'->E (.ref (ct c)) none H'
 |.stuck=>False
noncomputable def lS(ct:Tx)(Ra:L2.St->Prop)(E:XK)(ex:aF->MH->RS):TS:=λD σ H=>∃ μ h σs,Rel ct μ h H/\a8 ct μ h H σ σs/\Ra σ/\eX ct E (ex σs h) μ h H D
section
variable {ct:Tx} {Pm:Prog} {n:Nat} {X:Cx} {E:XK} {Ra:L2.St->Prop} {N:List Str} {sc:aA}
section
variable {μ μ1:List af} {h h1:MH} {H H1:Hp} {D:Ends} {α:Type}
theorem eX.start{r:RS}(e:Ext μ h H μ1 h1 H1)(p:eX ct E r μ h H D):eX ct E r μ1 h1 H1 D:=by
 cases r with
 |next σ' h'=>exactλμ' H' σ e' r' q=>p μ' H' σ (e.trans e') r' q
 |ret m h'=>exactλμ' H' v e' r' q=>p μ' H' v (e.trans e') r' q
 |brk σ' h'=>exactλμ' H' σ e' r' q=>p μ' H' σ (e.trans e') r' q
 |cnt σ' h'=>exactλμ' H' σ e' r' q=>p μ' H' σ (e.trans e') r' q
 |exc c h'=>exactλμ' H' e' r'=>p μ' H' (e.trans e') r'
 |stuck=>exact p
theorem eX.st{r:R α}{k:α->MH->RS}(p:eX ct E (r.st k) μ h H D):Po ct E r μ h H λx μ1 h1 H1=>Ext μ h H μ1 h1 H1/\Rel ct μ1 h1 H1/\eX ct E (k x h1) μ1 h1 H1 D:=by
 cases r with
 |ok x h'=>exactλμ' H' e' r'=>⟨e',r',eX.start (r:=k x h') e' p⟩
 |exc c h'=>exact p
 |stuck=>exact p
theorem eX.opt{o:Option α}{k:α->RS}(p:eX ct E (QE o k) μ h H D):∃ x,o=some x/\eX ct E (k x) μ h H D:=by
 cases o with
 |none=>exact p.elim
 |some x=>exact⟨x,rfl,p⟩
end
section
variable {μ:List af} {h:MH} {H:Hp} {σ:L2.St} {σs:aF} {D:Ends}
theorem lE.st{ev:aF->MH->R MV}{k:MV->MH->RS}{Q:VK}(rel:Rel ct μ h H)(aM:a8 ct μ h H σ σs)(ra:Ra σ)(p:eX ct E ((ev σs h).st k) μ h H D)
  (f:∀ m v μ1 h1 H1,Ext μ h H μ1 h1 H1->Rel ct μ1 h1 H1->a8 ct μ1 h1 H1 σ σs->RV ct μ1 (bc μ1 h1) H1 m v->eX ct E (k m h1) μ1 h1 H1 D->Q v H1):lE ct Ra E ev σ H Q :=
 ⟨μ,h,σs,rel,aM,ra,(eX.st p).imp λm μ1 h1 H1 ⟨e1,r1,p1⟩ v rv=>f m v μ1 h1 H1 e1 r1 (aM.ext e1) rv p1⟩
theorem lA.st{ev:aF->MH->R (List MV)}{k:List MV->MH->RS}{Q:List V->Hp->Prop}(rel:Rel ct μ h H)(aM:a8 ct μ h H σ σs)(ra:Ra σ)(p:eX ct E ((ev σs h).st k) μ h H D)
  (f:∀ m v μ1 h1 H1,Ext μ h H μ1 h1 H1->Rel ct μ1 h1 H1->a8 ct μ1 h1 H1 σ σs->aC ct μ1 (bc μ1 h1) H1 m v->eX ct E (k m h1) μ1 h1 H1 D->Q v H1):lA ct Ra E ev σ H Q :=
 ⟨μ,h,σs,rel,aM,ra,(eX.st p).imp λm μ1 h1 H1 ⟨e1,r1,p1⟩ v rv=>f m v μ1 h1 H1 e1 r1 (aM.ext e1) rv p1⟩
end
structure Cs (X:Cx) (Pm:Prog) (ct:Tx) (n:Nat) (E:XK) (N:List Str) (sc:aA):Prop where
 cc:Cc X Pm ct n (λ_=>True) E N sc
 ex:X.ex=[]
 own:fW (ak X.prog X.w) X.A X.env X.xe
 tk:Ez X E
 fn:∀ x,X.fn x=true
 kd:X.env.scope.kind=.function
 Gq:X.stack=X.env::X.outer
 fr:X.env.frame=some X.env.locals
section
variable {ea eb ec:aF->MH->R MV} {a b c:Expr} {pos p2:Pos}
noncomputable def mQ:Expr->Bool
 |.ListComp ..=>true
 |.SetComp ..=>true
 |.DictComp ..=>true
 |_=>false
theorem Jn{e:Expr}{t:Option Expr}{l:Nat}{env:Env}(h:mQ e=false):bp e t l env=pure false:=by
 cases e <;> first|rfl|(simp[mQ] at h)
theorem NM{e t:Expr}{l:Nat}{env:Env}(h1:∀ x gs cs p,bp (.ListComp x gs cs p) (some t) l env=pure false)(h2:∀ x gs cs p,bp (.SetComp x gs cs p) (some t) l env=pure false)(h3:∀ x y gs cs p,bp (.DictComp x y gs cs p) (some t) l env=pure false):bp e (some t) l env=pure false:=by
 cases hl:mQ e with
 |false=>exact Jn hl
 |true =>
  cases e with
  |ListComp x gs cs p=>exact h1 _ _ _ _
  |SetComp x gs cs p=>exact h2 _ _ _ _
  |DictComp x y gs cs p=>exact h3 _ _ _ _ _
  |_=>exact Vg (show false=true from hl)
theorem uH{x:Expr}{gs:List jC}{cs:aA}{p:Pos}{t:Expr}{l:Nat}{env:Env}(h:∀ x p,t≠.Name x p):bp (.ListComp x gs cs p) (some t) l env=pure false:=by
 cases t with
 |Name x p=>exact absurd rfl (h x p)
 |_=>rfl
theorem yc8(ha:PE X a (lE ct Ra E ea))(hl:mQ a=false):PS X (.Expr a pos) (lS ct Ra E λσ h=>(ea σ h).st λ_ h1=>.next σ h1):=PS.imp (YcY ha (Jn hl)) λD σ H q=>by
 obtain⟨μ,h,σs,rel,aM,ra,p⟩:=q;exact lE.st rel aM ra p λm v μ1 h1 H1 ex av aT rv p1=>p1 μ1 H1 σ (Ext.refl _ _ _) av aT
theorem uO(ha:PE X a (lE ct Ra E ea)):PS X (.Return (some a) pos) (lS ct Ra E λσ h=>(ea σ h).st λv h1=>.ret v h1):=PS.imp (L8 ha) λD σ H q=>by
 obtain⟨μ,h,σs,rel,aM,ra,p⟩:=q;exact lE.st rel aM ra p λm v μ1 h1 H1 ex av aT rv p1=>p1 μ1 H1 v (Ext.refl _ _ _) av rv
theorem Gv{x y:List Stmt}{ex ey:aF->MH->RS}(tc:PT X c (lT ct Ra E (fE ec)))(hx:gZ X x (lS ct Ra E ex))(hy:gZ X y (lS ct Ra E ey)) :
  PS X (.If c x y pos) (lS ct Ra E λσ h=>(ec σ h).st λv h1=>QE (YJ v) λk=>if k=true then ex σ h1 else ey σ h1):=PS.imp (vL tc hx hy) λD σ H q=>by
 obtain⟨μ,h,σs,rel,aM,ra,p⟩:=q;have p':eX ct E ((fE ec σs h).st λk h1=>if k=true then ex σs h1 else ey σs h1) μ h H D:=by
  dsimp only[fE] at p ⊢;cases er:ec σs h with
  |stuck=>rw[er] at p;exact p
  |exc c h'=>rw[er] at p;exact p
  |ok x h' =>
   rw[er] at p;simp only[R.aJ,R.st_ok] at p ⊢;cases eb:YJ x with
   |none=>rw[eb] at p;exact p.elim
   |some k=>rw[eb] at p;exact p
 refine⟨μ,h,σs,rel,aM,ra,(eX.st p').imp λk μ1 h1 H1 ⟨gD,av,p1⟩=>?_⟩;cases k with
 |true=>exact⟨μ1,h1,σs,av,aM.ext gD,ra,p1⟩
 |false=>exact⟨μ1,h1,σs,av,aM.ext gD,ra,p1⟩
theorem uN{tg:Tg}(c:Cs X Pm ct n E N sc)(ht:qG pE N sc tg b=true)(ha:PE X a (lE ct (λ_=>True) E ea))(hs:bp a (some b) pos.line X.env=pure false)(hw:b8 [b] a X.env=pure none) :
  PS X (.Assign [b] a pos) (lS ct (λ_=>True) E λσ h=>(ea σ h).st λv h1=>QE (yK tg v σ) λσ1=>.next σ1 h1):=by
 refine PS.imp (K6 ha (sG (ct:=ct) c.cc.nm c.cc.sc c.cc.nd c.cc.calm (λx _=>c.fn x) tg b ht) hs hw (by rw[EI ht [] X.env];rfl)) λD σ H q=>?_;obtain⟨μ,h,σs,rel,aM,ra,p⟩:=q;refine lE.st rel aM ra p λm v μ1 h1 H1 ex av aT rv p1=>?_;obtain⟨σ1,e,p2⟩:=eX.opt p1;exact⟨μ1,h1,σs,m,σ1,av,aT,rv,e,λσ' iB=>p2 μ1 H1 σ' (Ext.refl _ _ _) av iB⟩
theorem qbT{o i : Expr}{env : Env}(hp : Ya i=true) : ∀ v, eL (.Subscript o i pos) env v=(do
   let ov<-cz [v] (eval o env)
   let iv<-cz [v,ov] (eval i env)
   iJ pos
   cz [v,ov,iv] (jI ov iv v)
   release [v,ov,iv] []):=by
 intro v;cases i <;> first|rfl|(simp[Ya] at hp)
theorem Qcv{o i:Expr}(ha:PE X a (lE ct Ra E ea))(ho:PE X o (lE ct Ra E eb))(hi:PE X i (lE ct Ra E ec))(hp:Ya i=true) :
  PS X (.Assign [.Subscript o i p2] a pos) (lS ct Ra E λσ h=>(ea σ h).st λv h1=>(eb σ h1).st λx h2=>(ec σ h2).st λy h3 =>
   match x with
   |.ref a=>QE (yc h3 a) λxs=>QE (Qd y) λk=>QE (jM xs.length k) λj=>.next σ (ye h3 a (xs.set j v))
   |_=>.stuck):=by
 refine PS.imp (K6 ha (Ydk ho hi qcA (qbT hp)) (show gf [Expr.Subscript o i p2] a pos.line X.env=pure false from NM (e:=a) (t:=.Subscript o i p2) (l:=pos.line) (env:=X.env) (λ_ _ _ _=>rfl) (λ_ _ _ _=>rfl) (λ_ _ _ _ _=>rfl)) (by cases a <;> rfl) rfl) λD σ H q=>?_;obtain⟨μ,h,σs,rel,aM,ra,p⟩:=q;refine lE.st rel aM ra p λm v μ1 h1 H1 gD av aT rv p1=>?_;refine lE.st av aT ra p1 λm2 v2 μ2 h2 H2 dJ a9 dA jg p2=>?_;refine lE.st a9 dA ra p2 λm3 v3 μ3 h3 H3 gi eI mj uW p3=>?_;cases m2 with
 |ref i0 =>
  obtain⟨xs,e1,p4⟩:=eX.opt p3;obtain⟨k,e2,p5⟩:=eX.opt p4;obtain⟨j,e3,p6⟩:=eX.opt p5;have:=Yi e2;subst this;obtain⟨b',vs,iM,hb,rs⟩:=eI.lst e1;have mf:=jg.ext gi;simp only[RV] at mf;obtain⟨b0,nY,rfl⟩:=mf;rw[iM] at nY;cases nY;have e4:=YU e1;have jW:=Ext.set (H:=H3) eI iM e4 (λz=>nomatch z) (.lst (xs.set j m)) (.lst (vs.set j v));refine⟨b',vs,k,j,rfl,Qo uW,hb,by rw[rs.length,<- OQ];exact e3,?_⟩;refine p6 μ3 _ σ jW (eI.set iM e4 (λz=>nomatch z) ⟨_,zf,?_⟩) (mj.ext jW);exact aC.set (((rv.ext dJ).ext gi).ext jW) j (rs.ext jW)
 |f _=>exact p3.elim
 |tup _=>exact p3.elim
 |exc _=>exact p3.elim
theorem zc8{o i:Expr}{k1:Nat}{p1:Pos}(hu:X.A.units+65<c7)(ho:PE X o (lE ct Ra E eb))(hi:PE X i (lE ct Ra E ec)) :
  PS X (.Assign [.Subscript o i p2] (.Constant (.bool true) k1 p1) pos) (lS ct Ra E λσ h=>(eb σ h).st λx h1=>(ec σ h1).st λy h2=>QE (Qd y) λj=>match x with
   |.ref a=>QE (oS h2 (.ref a)) λks=>if ks.length<1000000 then .next σ (h2.set a (.iH (YC ks j))) else .stuck
   |_=>.stuck):=by
 refine PS.imp (QcV (by lia) ho hi CH rfl) λD σ H q=>?_;obtain⟨μ,h,σs,rel,aM,ra,p⟩:=q;refine lE.st rel aM ra p λm2 v2 μ2 h2 H2 dJ a9 dA jg p2=>?_;refine lE.st a9 dA ra p2 λm3 v3 μ3 h3 H3 gi eI mj uW p3=>?_;obtain⟨k,e2,p4⟩:=eX.opt p3;have:=Yi e2;subst this;cases m2 with
 |ref i0 =>
  obtain⟨ks,e1,p5⟩:=eX.opt p4;split at p5
  next hk =>
   obtain⟨i',ei,hc⟩:=EK e1;cases ei;have mf:=jg.ext gi;simp only[RV] at mf;obtain⟨b0,nY,rfl⟩:=mf;have hH:H3 b0=some (.dK (mM ks)):=eI.cells _ _ _ nY hc;have jW:=Ext.set (H:=H3) eI nY hc (λz=>nomatch z) (.iH (YC ks k)) (.dK (mM (YC ks k)));refine⟨b0,_,rfl,by rw[Qo uW];exact mS.k (k:=Sum.inl k) hH (by rw[wc,dh];lia),?_⟩;rw[Ke];exact p5 μ3 _ σ jW (eI.set nY hc (λz=>nomatch z) zf) (mj.ext jW)
  next=>exact p5.elim
 |f _=>exact p4.elim
 |tup _=>exact p4.elim
 |exc _=>exact p4.elim
theorem Mt{μ:List af}{L:af->Prop}{H:Hp}{f:String}{m:MV}{v:V}(r:RV ct μ L H m v):∀{fs:List (String×MV)} {gs:List (Str×V)},gs.map Wt=fs.map (λp=>Str.ofString p.1)->aC ct μ L H (fs.map Vn) (gs.map Vn) ->
  (qO (Str.ofString f) v gs).map Wt=(mY f m fs).map (λp=>Str.ofString p.1)/\aC ct μ L H ((mY f m fs).map Vn) ((qO (Str.ofString f) v gs).map Vn)
 |[],gs,h1,h2=>by
  cases gs with
  |nil=>exact⟨rfl,aC.cons r aC.nil⟩
  |cons p gs=>simp at h1
 |(k,y)::fs,gs,h1,h2=>by
  cases gs with
  |nil=>simp at h1
  |cons p gs =>
   obtain⟨k',u⟩:=p;simp only[ub,List.cons.injEq] at h1;obtain⟨rfl,h3⟩:=h1;simp only[ub,aC] at h2;obtain⟨w,t,e,q1,q2⟩:=h2;cases e;unfold qO mY;by_cases hk:k=f
   ·subst hk;rw[if_pos rfl,if_pos rfl];exact⟨by simp[h3],by simp only[ub];exact aC.cons r q2⟩
   ·rw[if_neg hk,if_neg (λz=>hk (YG z))];obtain⟨i1,i2⟩:=Mt (f:=f) r h3 q2;exact⟨by simp[i1],by simp only[ub];exact aC.cons q1 i2⟩
theorem YcB{o:Expr}{f:String}(T:Txt X.prog X.w X.K X.mg X.base Pm ct n)(ha:PE X a (lE ct Ra E ea))(ho:PE X o (lE ct Ra E eb)) :
  PS X (.Assign [.Attribute o (Str.ofString f) p2] a pos) (lS ct Ra E λσ h=>(ea σ h).st λv h1=>(eb σ h1).st λx h2=>match x with
   |.ref a=>match h2[a]? with
    |some (.obj c fs)=>if Pm.iw c f=true/\fs.length<100 then .next σ (h2.set a (.obj c (mY f v fs))) else .stuck
    |_=>.stuck
   |_=>.stuck):=by
 refine PS.imp (Zdk ho ha (NM (λ_ _ _ _=>rfl) (λ_ _ _ _=>rfl) (λ_ _ _ _ _=>rfl))) λD σ H q=>?_;obtain⟨μ,h,σs,rel,aM,ra,p⟩:=q;refine lE.st rel aM ra p λm v μ1 h1 H1 gD av aT rv p1=>?_;refine lE.st av aT ra p1 λm2 v2 μ2 h2 H2 dJ a9 dA jg p2=>?_;cases m2 with
 |ref i0 =>
  dsimp only at p2;split at p2
  next c fs ec =>
   split at p2
   next ok =>
    obtain⟨ok1,ok2⟩:=ok;obtain⟨b,dx,gs,eb,hb,q1,q2⟩:=a9.obj ec;simp only[RV] at jg;obtain⟨b0,nY,rfl⟩:=jg;rw[eb] at nY;cases nY;obtain⟨t1,t2⟩:=T.iw c f ok1;have hl:gs.length=fs.length:=by have:=congrArg WB q1;simpa using this
    have gi:=Ext.set (H:=H2) a9 eb ec (λz=>nomatch z) (.obj c (mY f m fs)) (.ins (ct c) dx (qO (Str.ofString f) v gs));refine⟨b,ct c,dx,gs,rfl,hb,t1,t2,by lia,?_⟩;obtain⟨s1,s2⟩:=Mt (f:=f) ((rv.ext dJ).ext gi) q1 (q2.ext gi);exact p2 μ2 _ σ gi (a9.set eb ec (λz=>nomatch z) ⟨dx,_,zf,s1,s2⟩) (dA.ext gi)
   next=>exact p2.elim
  next=>exact p2.elim
 |f _=>exact p2.elim
 |tup _=>exact p2.elim
 |exc _=>exact p2.elim
end
end
end SD
end
section
namespace SD
open PySem PySem.Spec PyProof.Rows L2 L3 M3 MP
section
variable {ct:Tx} {Pm:Prog} {n:Nat} {X:Cx} {E:XK} {N:List Str} {sc:aA}
noncomputable abbrev yes:L2.St->Prop:=λ_=>True
section
variable {ea eb ec:aF->MH->R MV} {a b c:Expr} {pos p2:Pos}
theorem Og{st:Stmt}{rest:List Stmt}{ex ey:aF->MH->RS}(h1:PS X st (lS ct yes E ex))(h2:gZ X rest (lS ct yes E ey)):gZ X (st::rest) (lS ct yes E λσ h=>(ex σ h).bind λσ1 h1=>ey σ1 h1):=gZ.imp (Ycl h1 h2) λD σ H q=>by
 obtain⟨μ,h,σs,rel,aM,ra,p⟩:=q;refine⟨μ,h,σs,rel,aM,ra,?_⟩;dsimp only at p;cases er:ex σs h with
 |next σ' h' =>
  rw[er] at p;intro μ' H' σv e1 r1 q1;exact⟨μ',h',σ',r1,q1,trivial,eX.start e1 p⟩
 |ret m h'=>rw[er] at p;exact p
 |brk σ' h'=>rw[er] at p;exact p
 |cnt σ' h'=>rw[er] at p;exact p
 |exc c h'=>rw[er] at p;exact p
 |stuck=>rw[er] at p;exact p
theorem uQ:gZ X [] (lS ct yes E λσ h=>.next σ h):=gZ.imp YcR λD σ H q=>by
 obtain⟨μ,h,σs,rel,aM,ra,p⟩:=q;exact p μ H σ (Ext.refl _ _ _) rel aM
theorem Qdb:PS X (.Pass pos) (lS ct yes E λσ h=>.next σ h):=PS.imp ZcT λD σ H q=>by
 obtain⟨μ,h,σs,rel,aM,ra,p⟩:=q;exact p μ H σ (Ext.refl _ _ _) rel aM
theorem uS{tg:Tg}{t iter:Expr}{body:List Stmt}{it:String}{ev:aF->MH->R (List MV)}{ex:aF->MH->RS}(c:Cs X Pm ct n E N sc)(hi:PI X t iter (lI ct yes E ev it))(ht:qG pE N sc tg t=true)(hb:gZ X body (lS ct yes E ex))(cF:Ya iter=true) :
  PS X (.For t iter body [] pos) (lS ct yes E λσ h=>(ev σ h).st λxs h1=>QE (eU it xs h1) λp=>qL p.2 (Zm tg ex) p.1 σ h1):=by
 refine PS.imp (zdl c.own c.cc.calm hi (sG (ct:=ct) c.cc.nm c.cc.sc c.cc.nd c.cc.calm (λx _=>c.fn x) tg t ht) hb (QW cF)) λD σ H q=>?_;obtain⟨μ,h,σs,rel,aM,ra,p⟩:=q;refine⟨μ,h,σs,rel,aM,ra,(eX.st p).imp λxs μ1 h1 H1 ⟨gD,av,p1⟩=>?_⟩;obtain⟨⟨items,g⟩,e1,p2⟩:=eX.opt p1;refine⟨items,g,e1,av,λJ wk=>?_⟩;dsimp only at p2;refine⟨λi m σ' H'=>∃ μ' h' σs',m=items.length-i/\i<=items.length/\Ext μ1 h1 H1 μ' h' H'/\Rel ct μ' h' H'/\a8 ct μ' h' H' σ' σs'/\eX ct E (qL g (Zm tg ex) (items.drop i) σs' h') μ' h' H' D,?_,?_⟩
 ·exact⟨items.length,μ1,h1,σs,by simp,wm _,Ext.refl _ _ _,av,aM.ext gD,by simpa using p2⟩
 ·rintro i m σ' H' ⟨μ',h',σs',rfl,mF,dJ,bL,iB,p3⟩;by_cases lt:i<items.length
  ·right
   have ed:items.drop i=items[i]::items.drop (i+1):=Vt lt;rw[ed] at p3;simp only[qL] at p3;split at p3
   next gd =>
    obtain⟨w1,_⟩:=wk i μ' h' H' dJ bL gd;obtain⟨go,yl⟩:=w1 lt;refine⟨go,λσ2 H2=>∃ μ2 h2 σ2s,Ext μ1 h1 H1 μ2 h2 H2/\Rel ct μ2 h2 H2/\a8 ct μ2 h2 H2 σ2 σ2s/\eX ct E (qL g (Zm tg ex) (items.drop (i+1)) σ2s h2) μ2 h2 H2 D,λσ2 H2 ⟨μ2,h2,σ2s,e2,r2,q2,p4⟩=>⟨items.length-(i+1),by lia,μ2,h2,σ2s,rfl,lt,e2,r2,q2,p4⟩,λx H2 y=>?_⟩;obtain⟨mx,em,gi,a9,rx⟩:=yl x H2 y;have II:mx=items[i]:=by simpa[lt] using em.symm
    subst II;have p4:=eX.start gi p3;unfold Zm at p4;cases eb:yK tg items[i] σs' with
    |none=>rw[eb] at p4;exact p4.elim
    |some σ2s =>
     rw[eb] at p4;simp only[G8] at p4;refine⟨μ',h',σs',items[i],σ2s,a9,iB.ext gi,rx,eb,λσ2 dA=>?_⟩;refine⟨μ',h',σ2s,a9,dA,trivial,?_⟩;cases er:ex σ2s h' with
     |next σ3 h3 =>
      rw[er] at p4;intro μ3 H3 σv e3 r3 q3;exact⟨μ3,h3,σ3,(dJ.trans gi).trans e3,r3,q3,eX.start e3 p4⟩
     |cnt σ3 h3 =>
      rw[er] at p4;intro μ3 H3 σv e3 r3 q3;exact⟨μ3,h3,σ3,(dJ.trans gi).trans e3,r3,q3,eX.start e3 p4⟩
     |brk σ3 h3=>rw[er] at p4;exact p4
     |ret m h3=>rw[er] at p4;exact p4
     |exc c h3=>rw[er] at p4;exact p4
     |stuck=>rw[er] at p4;exact p4
   next=>exact p3.elim
  ·left
   have Av:i=items.length:=by lia
   subst Av;rw[vF] at p3;simp only[qL] at p3;split at p3
   next gd =>
    obtain⟨_,w2⟩:=wk items.length μ' h' H' dJ bL gd;exact⟨w2 rfl,p3 μ' H' σ' (Ext.refl _ _ _) bL iB⟩
   next=>exact p3.elim
theorem QcO{body:List Stmt}{ex:aF->MH->RS}(c':Cs X Pm ct n E N sc)(tc:PT X c (lT ct yes E (fE ec)))(hb:gZ X body (lS ct yes E ex))(k:Nat) :
  PS X (.While c body [] pos) (lS ct yes E λσ h=>zI ec ex k σ h):=by
 refine PS.imp (qcj c'.own tc hb) λD σ H q=>?_;obtain⟨μ,h,σs,rel,aM,ra,p⟩:=q;refine⟨λm σ' H'=>∃ μ' h' σs',Rel ct μ' h' H'/\a8 ct μ' h' H' σ' σs'/\eX ct E (zI ec ex m σs' h') μ' h' H' D,⟨k,μ,h,σs,rel,aM,p⟩,?_⟩;rintro m σ' H' ⟨μ',h',σs',bL,iB,p1⟩;cases m with
 |zero=>exact p1.elim
 |succ m =>
  simp only[zI] at p1;have p2:eX ct E ((fE ec σs' h').st λb h1=>if b=true then(ex σs' h1).turn λσ2 h2=>zI ec ex m σ2 h2 else .next σs' h1) μ' h' H' D:=by
   dsimp only[fE];cases er:ec σs' h' with
   |stuck=>rw[er] at p1;exact p1
   |exc c h'=>rw[er] at p1;exact p1
   |ok x h' =>
    rw[er] at p1;simp only[R.aJ,R.st_ok] at p1 ⊢;cases eb:YJ x with
    |none=>rw[eb] at p1;exact p1.elim
    |some k=>rw[eb] at p1;exact p1
  refine⟨μ',h',σs',bL,iB,trivial,(eX.st p2).imp λb μ1 h1 H1 ⟨gD,av,p3⟩=>?_⟩;cases b with
  |false=>exact p3 μ1 H1 σ' (Ext.refl _ _ _) av (iB.ext gD)
  |true =>
   simp only[if_true] at p3 ⊢;refine⟨λσ2 H2=>∃ μ2 h2 σ2s,Rel ct μ2 h2 H2/\a8 ct μ2 h2 H2 σ2 σ2s/\eX ct E (zI ec ex m σ2s h2) μ2 h2 H2 D,λσ2 H2 q2=>⟨m,by lia,q2⟩,μ1,h1,σs',av,iB.ext gD,trivial,?_⟩;cases er:ex σs' h1 with
   |next σ3 h3 =>
    rw[er] at p3;intro μ3 H3 σv e3 r3 q3;exact⟨μ3,h3,σ3,r3,q3,eX.start e3 p3⟩
   |cnt σ3 h3 =>
    rw[er] at p3;intro μ3 H3 σv e3 r3 q3;exact⟨μ3,h3,σ3,r3,q3,eX.start e3 p3⟩
   |brk σ3 h3=>rw[er] at p3;exact p3
   |ret m h3=>rw[er] at p3;exact p3
   |exc c h3=>rw[er] at p3;exact p3
   |stuck=>rw[er] at p3;exact p3
theorem uR{i:Nat}{rest:List Stmt}{ey:aF->MH->RS}(h2:gZ X rest (lS ct yes E ey)):gZ X rest (lS ct yes E λσ h=>(QE ((σ[i]?).join) λv=>(QL v h).st λx h1=>.next (σ.set i (some x)) h1).bind λσ1 h1=>ey σ1 h1):=gZ.imp h2 λD σ H q=>by
 obtain⟨μ,h,σs,rel,aM,ra,p⟩:=q;dsimp only at p;cases e:(σs[i]?).join with
 |none=>rw[e] at p;exact p.elim
 |some m =>
  rw[e] at p;simp only[G8] at p;have e':σs[i]?=some (some m):=by
   cases q:σs[i]? with
   |none=>rw[q] at e;cases e
   |some z=>rw[q] at e;exact congrArg some e
  obtain⟨v,ev,rv⟩:=aM.at_ i m e';cases ef:QL m h with
  |stuck=>rw[ef] at p;exact p.elim
  |exc c h' =>
   unfold QL at ef;cases ed:yJ h m with
   |none=>rw[ed] at ef;cases ef
   |some x=>rw[ed] at ef;cases ef
  |ok x h' =>
   rw[ef] at p;simp only[R.st_ok,RS.lM] at p;have po:Po ct E (QL m h) μ h H λy μ1 h1 H1=>y=x/\h1=h':=by rw[ef];exactλμ' H' _ _=>⟨rfl,rfl⟩
   obtain⟨y,sx,gD,av,m7,rfl,rfl⟩:=OV rel rv po;refine⟨μ,sx,σs.set i (some (.f y)),av,?_,trivial,eX.start gD p⟩;have r2:=(aM.ext gD).set i m7;have:σ.set i (some v)=σ:=by
    apply Uh;intro j;by_cases hj:i=j
    ·subst hj;rw[Vj (xa.mp ev).1,ev]
    ·rw[wl hj]
   rw[this] at r2;exact r2
end
end
end SD
end
section
namespace SD
open PySem PySem.Spec PyProof.Rows L2 L3 M3 MP
noncomputable def Gp(sc cs:aA)(t:Str)(tp vp:Pos):Bool:=sc.names.lookup t==some .local&&tp.line==vp.line&&!(cs.names.any λ(n,k)=>n==t&&(k == .local||k == .cell))
theorem Ov{env:Env}(kd:env.scope.kind=.function)(e:Expr)(gs:List jC)(cs:aA)(vp:Pos)(t:Str)(tp:Pos)(l:Nat):bp (.ListComp e gs cs vp) (some (.Name t tp)) l env=pure (Gp env.scope cs t tp vp):=by
 have hb:(env.blockKind==ScopeKind.function)=true:=by
  unfold Env.blockKind;rw[kd];rfl
 show(pure (env.blockKind == .function&&env.kindOf t==some .local&&tp.line==vp.line&&!(cs.names.any λ(n,k)=>n==t&&(k == .local||k == .cell))):Sem Bool)=_;rw[hb,Bool.true_and];rfl
noncomputable def nH(i j:Nat)(N:List Str)(sc:aA)(x y:Str)(px py:Pos)(u v:Expr):Bool :=
 N[i]? == some x&&N[j]? == some y&&!(x==y)&&sc.names.lookup x==some .local&&sc.names.lookup y==some .local&&py.line==px.line&&!(cf 8 u&&cf 8 v)&&!(bW 8 u&&bW 8 v)
noncomputable def o7:List Expr->Option (Str×Pos×Str×Pos)
 |[.Name x px,.Name y py]=>some (x,px,y,py)
 |_=>none
noncomputable def BY:Expr->Option (List Expr)
 |.Tuple es _ _=>some es
 |_=>none
noncomputable def Ci:Stmt->Option ((Str×Pos×Str×Pos)×Expr×Expr)
 |.Assign ts v _=>(vG ts).bind λt=>(BY t).bind λes=>(BY v).bind λvs=>(o7 es).bind λp=>(sN vs).map λq=>(p,q)
 |_=>none
theorem Oi{e:Expr}{es:List Expr}(h:BY e=some es):∃ k p,e=.Tuple es k p:=by
 unfold BY at h;split at h
 next k p=>cases h;exact⟨k,p,rfl⟩
 next=>cases h
theorem Yc0{es:List Expr}{x y:Str}{px py:Pos}(h:o7 es=some (x,px,y,py)):es=[.Name x px,.Name y py]:=by
 unfold o7 at h;split at h
 next=>cases h;rfl
 next=>cases h
theorem ZbH{st:Stmt}{x y:Str}{px py:Pos}{u v:Expr}(h:Ci st=some ((x,px,y,py),u,v)):∃ kt pt k2 lV pos,st=.Assign [.Tuple [.Name x px,.Name y py] kt pt] (.Tuple [u,v] k2 lV) pos:=by
 unfold Ci at h;split at h
 next ts v pos =>
  simp only[uc,Vd,Prod.mk.injEq] at h;obtain⟨t,h1,es,h2,vs,h3,p,h4,q,h5,h6⟩:=h;obtain⟨h6,h7⟩:=h6;subst h6;obtain⟨k,pt,rfl⟩:=Oi h2;obtain⟨k2,lV,rfl⟩:=Oi h3;have e1:=Jc h1;have e2:=Yc0 h4;have e3:=GU h5;subst e1;subst e2;subst e3;subst h7;exact⟨k,pt,k2,lV,pos,rfl⟩
 next=>cases h
theorem Zcz{env:Env}{x y:Str}{px py pt lV:Pos}{u v:Expr}{kt k2:Nat}(kd:env.scope.kind=.function)(hx:env.kindOf x=some .local)(hy:env.kindOf y=some .local)(ji:(x==y)=false)(hl:(py.line==px.line)=true)
  (hf:(cf 8 u&&cf 8 v)=false) (hc:(bW 8 u&&bW 8 v)=false) (hu:Ya u=true) (hv:Ya v=true) :
  b8 [.Tuple [.Name x px,.Name y py] kt pt] (.Tuple [u,v] k2 lV) env=pure (some [x,y]):=by
 have hb:(env.blockKind != ScopeKind.function)=false:=by
  unfold Env.blockKind;rw[kd];rfl
 have Ap:x≠y:=by simpa using ji
 have sd:py.line=px.line:=by simpa using hl
 unfold b8;have cF:(Expr.Name x px).pos=px:=rfl;simp[hb,hx,hy,sd,cF,List.eraseDups_cons,Ap,Ne.symm Ap];have h1:¬(cf 8 u=true/\cf 8 v=true):=λz=>by rw[z.1,z.2] at hf;cases hf
 have h2:¬(bW 8 u=true/\bW 8 v=true):=λz=>by rw[z.1,z.2] at hc;cases hc
 rw[if_neg h1,if_neg h2,if_neg];intro z
 rcases z with z|z
 ·cases u <;> first|(exact Vg hu)|(exact Vg z)
 ·cases v <;> first|(exact Vg hv)|(exact Vg z)
noncomputable def B':Expr->Option Str
 |.Name x _=>some x
 |_=>none
noncomputable def qcQ:Expr->Option (Str×Str)
 |.Call f [a] [] _=>(B' f).bind λz=>(B' a).map λn=>(z,n)
 |_=>none
noncomputable def Bp:Stmt->Option (Str×Str×Str)
 |.Assign [t] v _=>(B' t).bind λy=>(qcQ v).map λq=>(y,q.1,q.2)
 |_=>none
noncomputable def Ie(bd:List Stmt):ExceptHandler->Option (List Stmt×Str×Str×Str×Str×Str)
 |.ExceptHandler (some t) (some nm) [s] _=>(B' t).bind λx=>(Bp s).map λq=>(bd,x,nm,q)
 |_=>none
noncomputable def Eh:ME->Bool
 |.comp ..=>true
 |_=>false
noncomputable def Cz:Expr->Expr->Bool
 |.Tuple ..,.Tuple ..=>true
 |_,_=>false
section
variable (Pm:Prog)
mutual
noncomputable def Bb(ms:MS)(N:List Str)(sc:aA)(st:Stmt):Bool:=match ms,st with
 |.expr e,.Expr v _=>!(mQ v)&&Yf Pm e N sc v
 |.ite c a b,.If t x y _=>iX c&&Yf Pm c N sc t&&NI a N sc x&&NI b N sc y
 |_,_=>false
noncomputable def NI(r8:List MS)(N:List Str)(sc:aA)(iS:List Stmt):Bool:=match r8 with
 |[]=>iS.isEmpty
 |m::ms=>match iS with
  |[st]=>ms.isEmpty&&Bb m N sc st
  |_=>false
end
mutual
noncomputable def DX(ms:MS)(N:List Str)(sc:aA)(st:Stmt):Bool:=match ms,st with
 |.set tg e,.Assign [t] v _=>qG pE N sc tg t&&Yf Pm e N sc v&&!(Cz t v)&&(if mQ v then Eh e else true)
 |.eG o i e,.Assign [.Subscript x y _] v _=>Yf Pm e N sc v&&Yf Pm o N sc x&&Yf Pm i N sc y
 |.par i j a b,st=>match Ci st with
  |some ((x,px,y,py),u,v)=>nH i j N sc x y px py u v&&Yf Pm a N sc u&&Yf Pm b N sc v
  |none=>false
 |.gy o n e,.Assign [.Attribute x m _] v _=>m==Str.ofString n&&Yf Pm e N sc v&&Yf Pm o N sc x
 |.nG o k,.Assign [.Subscript x y _] (.Constant (.bool b) _ _) _=>b&&Yf Pm o N sc x&&Yf Pm k N sc y
 |.expr e,.Expr v _=>!(mQ v)&&Yf Pm e N sc v
 |.ret e,.Return (some v) _=>Yf Pm e N sc v
 |.ite c a b,.If t x y _=>iX c&&Yf Pm c N sc t&&yH a N sc x&&yH b N sc y
 |.for_ tg it src body,.For t iter bd [] _=>Ya iter&&qG pE N sc tg t&&yH body N sc bd &&
   (if it == "seq" then lP Pm src N sc iter else if it == "keys" then false else if it == "items" then false else if it == "enum1" then pF t sc iter&&lP Pm src N sc (ou iter) else oX t it iter&&gl sc (Str.ofString it)&&zo Pm src N sc (yG iter))
 |.while_ c body,.While t bd [] _=>iX c&&Yf Pm c N sc t&&yH body N sc bd
 |.ij,_=>true
 |.pass,.Pass _=>true
 |_,_=>false
noncomputable def yH(r8:List MS)(N:List Str)(sc:aA)(iS:List Stmt):Bool:=match r8 with
 |[]=>iS.isEmpty
 |.nV _::ms=>yH ms N sc iS
 |m::ms=>match iS with
  |st::iS=>DX m N sc st&&yH ms N sc iS
  |[]=>false
end
end
section
variable {ct:Tx} {Pm:Prog} {n:Nat}
section
variable {X:Cx} {E:XK} {N:List Str} {sc:aA}
theorem uP{i j:Nat}{x y:Str}{px py pt lV pos:Pos}{u v:Expr}{kt k2:Nat}{ev:aF->MH->R (List MV)}(c:Cs X Pm ct n E N sc)(hb:nH i j N sc x y px py u v=true)(ha:PA X [u,v] (lA ct (λ_=>True) E ev))(hu:Ya u=true)(hv:Ya v=true) :
  PS X (.Assign [.Tuple [.Name x px,.Name y py] kt pt] (.Tuple [u,v] k2 lV) pos) (lS ct (λ_=>True) E λσ h=>(ev σ h).st λxs h1=>match xs with
   |[v,w]=>.next ((σ.set i (some v)).set j (some w)) h1
   |_=>.stuck):=by
 unfold nH at hb;simp only[Wa,beq_iff_eq,wo] at hb;obtain⟨⟨⟨⟨⟨⟨⟨h1,h2⟩,h3⟩,h4⟩,h5⟩,h6⟩,h7⟩,h8⟩:=hb;have Au:i≠j:=λz=>by
  subst z;rw[h1] at h2;cases h2;simp at h3
 have e4:X.env.scope.names.lookup x=some .local:=by rw[c.cc.sc];exact h4
 have e5:X.env.scope.names.lookup y=some .local:=by rw[c.cc.sc];exact h5
 refine PS.imp (Qc7 c.cc.calm c.cc.nd (by rw[c.cc.nm];exact h1) (by rw[c.cc.nm];exact h2) Au e4 e5 ha (Zcz c.kd e4 e5 h3 (by simpa using h6) h7 h8 hu hv)) λD σ H q=>?_;obtain⟨μ,h,σs,rel,aM,ra,p⟩:=q;refine lA.st rel aM ra p λm w μ1 h1 H1 ex av aT rv p1=>?_
 rcases m with _|⟨a,_|⟨b,_|⟨d,m⟩⟩⟩
 ·exact p1.elim
 ·exact p1.elim
 ·obtain⟨va,vb,rfl,r1,r2⟩:=Bs rv;exact⟨va,vb,rfl,p1 μ1 H1 _ (Ext.refl _ _ _) av ((aT.set i r1).set j r2)⟩
 ·exact p1.elim
theorem zq{st:Stmt}{ex nW:aF->MH->RS}{Ra:L2.St->Prop}(p:PS X st (lS ct Ra E ex))(h:∀ σ hh,nW σ hh=ex σ hh):PS X st (lS ct Ra E nW):=by
 have:nW=ex:=funext λσ=>funext λhh=>h σ hh;rw[this];exact p
theorem DN{st:List Stmt}{ex nW:aF->MH->RS}{Ra:L2.St->Prop}(p:gZ X st (lS ct Ra E ex))(h:∀ σ hh,nW σ hh=ex σ hh):gZ X st (lS ct Ra E nW):=by
 have:nW=ex:=funext λσ=>funext λhh=>h σ hh;rw[this];exact p
theorem Qda(fz:Bool){i:Nat}{x:Str}{elt iter tg:Expr}{ifs:List Expr}{cs:aA}{N':List Str}{bZ:Nat}{js:List Nat}{it:String}{t:Tg}{es:aF->MH->R (List MV)}{tc:aF->MH->R Bool}{te:aF->MH->R MV}{pos tp vp:Pos}(c:Cs X Pm ct n E N sc)(Dj:X.N[i]?=some x)(hx:Loc X.env.scope x)
  (aU:ZG X.env.scope X.N cs N' bZ js=true) (hi:PI X tg iter (lI ct yes E es it)) (hg:∀ C s3 H ex,PG (ie X cs N' C s3 H ex) tg (lG ct t)) (nT:∀ C s3 H ex,l6 (ie X cs N' C s3 H ex) ifs (lT ct (λ_=>True) E0 tc)) (jO:∀ C s3 H ex,PE (ie X cs N' C s3 H ex) elt (lE ct (λ_=>True) E0 te)) (cF:Ya iter=true)
  (Ak:bp (.ListComp elt [⟨tg,iter,ifs,0⟩] cs vp) (some (.Name x tp)) pos.line X.env=pure true) :
  PS X (.Assign [.Name x tp] (.ListComp elt [⟨tg,iter,ifs,0⟩] cs vp) pos) (lS ct yes E λσ h=>((es σ h).bind λxs h1=>opt (eU it xs h1) λp=>(Zi p.2 (zk t tc te) p.1 [] (MP.stM bZ js σ) h1).bind λacc h3=>Zw fz acc h3).st λv h1=>QE (yK (.nm i) v σ) λσ1=>.next σ1 h1):=by
 refine PS.imp (qcU c.cc.nd Dj hx N' bZ js aU c.cc.calm hi hg nT jO Ak (QW cF) (.inl (c.fn x))) λD σ H q=>?_;obtain⟨μ,h,σs,rel,aM,ra,p⟩:=q;refine Lf fz σ H _ (lE.st (ev:=λσ h=>(es σ h).bind λxs h1=>opt (eU it xs h1) λp=>(Zi p.2 (zk t tc te) p.1 [] (MP.stM bZ js σ) h1).bind λacc h3=>Zw fz acc h3) rel aM ra p λm v μ1 h1 H1 ex av aT rv p1=>?_);obtain⟨σ1,e,p2⟩:=eX.opt p1;simp only[yK,Option.some.injEq] at e;subst e;exact p2 μ1 H1 _ (Ext.refl _ _ _) av (aT.set i rv)
theorem YbC{t v:Expr}{env:Env}{lo:Str->Bool}{tg:Tg}(ht:qG lo N sc tg t=true)(hv:Cz t v=false):b8 [t] v env=pure none:=by
 cases tg with
 |nm i =>
  cases t with
  |Name x p=>cases v <;> rfl
  |_=>simp[qG] at ht
 |tp ts =>
  cases t with
  |Tuple es k p=>cases v <;> first|rfl|(exact Vg hv)
  |_=>simp[qG] at ht
theorem Ydc{tg:Tg}{me:ME}{t v:Expr}{pos:Pos}(c:Cs X Pm ct n E N sc)(h1:qG pE N sc tg t=true)(h2:Yf Pm me N sc v=true)(h3:Cz t v=false)(h4:(if mQ v=true then Eh me else true)=true) :
  PS X (.Assign [t] v pos) (lS ct yes E λσ h=>(qa Pm (run Pm n) me σ h).st λv h1=>QE (yK tg v σ) λσ1=>.next σ1 h1):=by
 by_cases hs:bp v (some t) pos.line X.env=pure false
 ·exact uN c h1 (sB me c.cc v h2).1 hs (YbC h1 h3)
 ·cases hl:mQ v with
  |false=>exact absurd (Jn hl) hs
  |true =>
   rw[hl] at h4;cases me with
   |comp fz elt o9 it src cond bZ js =>
    have Np:=h2;have h:=ze h2;cases v with
    |ListComp x gs cs p =>
     rcases gs with _|⟨⟨t',iter,ifs,a⟩,_|⟨g2,gs⟩⟩
     ·exact ff h
     ·have h:((a==0)&&Ya iter&&ZG sc N cs (lU o9 t'++js.filterMap λj=>N[j]?) bZ js&&decide (lU o9 t'++js.filterMap λj=>N[j]?).Nodup&&qG (pG cs) (lU o9 t'++js.filterMap λj=>N[j]?) (ZM cs sc) o9 t'&&Yf Pm elt (lU o9 t'++js.filterMap λj=>N[j]?) (ZM cs sc) x&&n6 Pm cond (lU o9 t'++js.filterMap λj=>N[j]?) (ZM cs sc) ifs&&(if it == "seq" then lP Pm src N sc iter else if it == "enum1" then pF t' sc iter&&lP Pm src N sc (ou iter) else oX t' it iter&&gl sc (Str.ofString it)&&zo Pm src N sc (yG iter)))=true:=h;simp only[Wa,beq_iff_eq,decide_eq_true_eq] at h;obtain⟨⟨⟨⟨⟨⟨⟨ha,k1⟩,k2⟩,k3⟩,k4⟩,k5⟩,k6⟩,k7⟩:=h;subst ha;have hi:PI X t' iter (lI ct yes E (yg Pm (run Pm n) src) it):=by
       split at k7
       next hs=>subst hs;exact Gy src c.cc t' iter k7
       next hs =>
        split at k7
        next lK =>
         subst lK;simp only[Wa] at k7;exact Gx src c.cc t' iter k7.1 k7.2
        next =>
         simp only[Wa] at k7;exact J1 c.cc k7.1.1 k7.1.2 (kR src c.cc (yG iter) k7.2)
      cases t with
      |Name y tp =>
       cases tg with
       |nm i =>
        simp only[qG,pq,Wa,beq_iff_eq,vn] at h1;rw[Ov c.kd] at hs;have Ak:Gp X.env.scope cs y tp p=true:=by
         cases e:Gp X.env.scope cs y tp p with
         |true=>rfl
         |false=>rw[e] at hs;exact absurd rfl hs
        have hx:Loc X.env.scope y:=by
         rw[c.cc.sc]
         rcases h1.2 with z|⟨_,z⟩
         ·exact .inl z
         ·exact .inr z
        refine zq (Qda fz (tp:=tp) c (by rw[c.cc.nm];exact h1.1) hx (by rw[c.cc.sc,c.cc.nm];exact k2) hi (λC s3 H ex=>sG rfl (c.cc.comp k3 C s3 H ex).sc k3 c.cc.calm (λ_ z=>z) o9 t' k4) (λC s3 H ex=>LZ cond (c.cc.comp k3 C s3 H ex) ifs k6) (λC s3 H ex=>(sB elt (c.cc.comp k3 C s3 H ex) x k5).1) k1 (by rw[Ov c.kd,Ak])) λσ hh=>?_;simp only[qa]
       |tp ts=>simp[qG] at h1
      |_=>exact absurd (uH (by intro x p z;cases z)) hs
     ·exact ff h
    |_=>first|exact Vg hl|exact ff h
   |_=>exact Vg h4
end
theorem Qdf{X:Cx}{E:XK}{N:List Str}{sc:aA}{i j:Nat}{a b:ME}(c:Cs X Pm ct n E N sc)(st:Stmt)(h:DX Pm (.par i j a b) N sc st=true):PS X st (lS ct yes E (qw Pm (run Pm n) (.par i j a b))):=by
 replace h:(match Ci st with
  |some ((x,px,y,py),u,v)=>nH i j N sc x y px py u v&&Yf Pm a N sc u&&Yf Pm b N sc v
  |none=>false)=true:=h
 split at h
 next x px y py u w e =>
  obtain⟨kt,pt,k2,lV,pos,rfl⟩:=ZbH e;simp only[Wa] at h;obtain⟨⟨h1,h2⟩,h3⟩:=h;have hb:=kR [a,b] c.cc [u,w] (by show(Yf Pm a N sc u&&(Yf Pm b N sc w&&true))=true;simp[h2,h3]);exact zq (uP c h1 hb.pa (Yl h2) (Yl h3)) λσ hh=>by simp only[qw] <;> rfl
 next=>exact ff h
mutual
theorem sS:∀(ms:MS){X:Cx}{E:XK}{N:List Str}{sc:aA} (c:Cs X Pm ct n E N sc) (st:Stmt),DX Pm ms N sc st=true->PS X st (lS ct yes E (qw Pm (run Pm n) ms))
 |.set tg e,X,E,N,sc,c,st,h=>by
  cases st with
  |Assign ts v p =>
   rcases ts with _|⟨t,_|⟨t2,ts⟩⟩
   ·exact ff h
   ·have h:(qG pE N sc tg t&&Yf Pm e N sc v&&!(Cz t v)&&(if mQ v then Eh e else true))=true:=h;simp only[Wa,wo] at h;obtain⟨⟨⟨h1,h2⟩,h3⟩,h4⟩:=h;exact zq (Ydc c h1 h2 h3 h4) λσ hh=>by simp only[qw]
   ·exact ff h
  |_=>exact ff h
 |.eG o i e,X,E,N,sc,c,st,h=>by
  cases st with
  |Assign ts v p =>
   rcases ts with _|⟨t,_|⟨t2,ts⟩⟩
   ·exact ff h
   ·cases t with
    |Subscript x y p2 =>
     have h:(Yf Pm e N sc v&&Yf Pm o N sc x&&Yf Pm i N sc y)=true:=h;simp only[Wa] at h;obtain⟨⟨h1,h2⟩,h3⟩:=h;exact zq (Qcv (sB e c.cc v h1).1 (sB o c.cc x h2).1 (sB i c.cc y h3).1 (Yl h3)) λσ hh=>by simp only[qw] <;> rfl
    |_=>exact ff h
   ·cases t <;> exact ff h
  |_=>exact ff h
 |.nG o k,X,E,N,sc,c,st,h=>by
  cases st with
  |Assign ts v p =>
   rcases ts with _|⟨t,_|⟨t2,ts⟩⟩
   ·exact ff h
   ·cases t with
    |Subscript x y p2 =>
     cases v with
     |Constant kk j p3 =>
      cases kk with
      |bool b =>
       have h:(b&&Yf Pm o N sc x&&Yf Pm k N sc y)=true:=h;simp only[Wa] at h;obtain⟨⟨rfl,h2⟩,h3⟩:=h;exact zq (zc8 c.cc.units (sB o c.cc x h2).1 (sB k c.cc y h3).1) λσ hh=>by simp only[qw] <;> rfl
      |_=>exact ff h
     |_=>exact ff h
    |_=>exact ff h
   ·cases t <;> exact ff h
  |_=>exact ff h
 |.ij,X,E,N,sc,c,st,h=>λpins s σ H D I q=>by
  obtain⟨μ,hh,σs,rel,aM,ra,p⟩:=q;simp only[qw] at p;exact p.elim
 |.par i j a b,X,E,N,sc,c,st,h=>Qdf c st h
 |.gy o f e,X,E,N,sc,c,st,h=>by
  cases st with
  |Assign ts v p =>
   rcases ts with _|⟨t,_|⟨t2,ts⟩⟩
   ·exact ff h
   ·cases t with
    |Attribute x m p2 =>
     have h:(m==Str.ofString f&&Yf Pm e N sc v&&Yf Pm o N sc x)=true:=h;simp only[Wa,beq_iff_eq] at h;obtain⟨⟨rfl,h2⟩,h3⟩:=h;exact zq (YcB c.cc.txt (sB e c.cc v h2).1 (sB o c.cc x h3).1) λσ hh=>by simp only[qw] <;> rfl
    |_=>exact ff h
   ·cases t <;> exact ff h
  |_=>exact ff h
 |.expr e,X,E,N,sc,c,st,h=>by
  cases st with
  |Expr v p =>
   have h:(!(mQ v)&&Yf Pm e N sc v)=true:=h;simp only[Wa,wo] at h;exact zq (yc8 (sB e c.cc v h.2).1 h.1) λσ hh=>by simp only[qw]
  |_=>exact ff h
 |.ret e,X,E,N,sc,c,st,h=>by
  cases st with
  |Return v p =>
   cases v with
   |some v=>exact zq (uO (sB e c.cc v (show Yf Pm e N sc v=true from h)).1) λσ hh=>by simp only[qw]
   |none=>exact ff h
  |_=>exact ff h
 |.ite d a b,X,E,N,sc,c,st,h=>by
  cases st with
  |If t x y p =>
   have h:(iX d&&Yf Pm d N sc t&&yH Pm a N sc x&&yH Pm b N sc y)=true:=h;simp only[Wa] at h;obtain⟨⟨⟨h0,h1⟩,h2⟩,h3⟩:=h;exact zq (Gv ((sB d c.cc t h1).2 h0) (oz a c x h2) (oz b c y h3)) λσ hh=>by simp only[qw]
  |_=>exact ff h
 |.for_ tg it src body,X,E,N,sc,c,st,h=>by
  cases st with
  |For t iter bd oe p =>
   cases oe with
   |cons _ _=>exact ff h
   |nil =>
    have h:(Ya iter&&qG pE N sc tg t&&yH Pm body N sc bd&&(if it == "seq" then lP Pm src N sc iter else if it == "keys" then false else if it == "items" then false else if it == "enum1" then pF t sc iter&&lP Pm src N sc (ou iter) else oX t it iter&&gl sc (Str.ofString it)&&zo Pm src N sc (yG iter)))=true:=h;simp only[Wa] at h;obtain⟨⟨⟨h1,h2⟩,h3⟩,h4⟩:=h;have hi:PI X t iter (lI ct yes E (yg Pm (run Pm n) src) it):=by
     split at h4
     next hs =>
      have Am:it="seq":=by simpa using hs
      subst Am;exact Gy src c.cc t iter h4
     next hs =>
      split at h4
      next lK =>
       have Am:it="keys":=by simpa using lK
       subst Am;exact ff h4
      next =>
       split at h4
       next hs4 =>
        exact ff h4
       next =>
       split at h4
       next hs3 =>
        have Am:it="enum1":=by simpa using hs3
        subst Am;simp only[Wa] at h4;exact Gx src c.cc t iter h4.1 h4.2
       next =>
        simp only[Wa] at h4;exact J1 c.cc h4.1.1 h4.1.2 (kR src c.cc (yG iter) h4.2)
    exact zq (uS c hi h2 (oz body c bd h3) h1) λσ hh=>by simp only[qw]
  |_=>exact ff h
 |.while_ d body,X,E,N,sc,c,st,h=>by
  cases st with
  |While t bd oe p =>
   cases oe with
   |cons _ _=>exact ff h
   |nil =>
    have h:(iX d&&Yf Pm d N sc t&&yH Pm body N sc bd)=true:=h;simp only[Wa] at h;obtain⟨⟨h0,h1⟩,h2⟩:=h;exact zq (QcO c ((sB d c.cc t h1).2 h0) (oz body c bd h2) Pm.turns) λσ hh=>by simp only[qw]
  |_=>exact ff h
 |.pass,X,E,N,sc,c,st,h=>by
  cases st with
  |Pass p=>exact zq Qdb λσ hh=>by simp only[qw]
  |_=>exact ff h
 |.nV i,X,E,N,sc,c,st,h=>by
  exact ff h
theorem oz:∀(r8:List MS){X:Cx}{E:XK}{N:List Str}{sc:aA} (c:Cs X Pm ct n E N sc) (iS:List Stmt),yH Pm r8 N sc iS=true->gZ X iS (lS ct yes E (Qa Pm (run Pm n) r8))
 |[],X,E,N,sc,c,iS,h=>by
  cases iS with
  |nil=>exact DN uQ λσ hh=>by simp only[Qa]
  |cons _ _=>exact ff h
 |m::ms,X,E,N,sc,c,iS,h=>by
  cases m with
  |nV i=>exact DN (uR (i:=i) (oz ms c iS h)) λσ hh=>by simp only[Qa,qw]
  |ij =>
   cases iS with
   |nil=>exact ff h
   |cons st iS =>
    have h2:yH Pm ms N sc iS=true:=h;exact DN (Og (sS .ij c st rfl) (oz ms c iS h2)) λσ hh=>by simp only[Qa]
  |_ =>
   cases iS with
   |nil=>exact ff h
   |cons st iS =>
    first
    |(have h:(DX Pm _ N sc st&&yH Pm ms N sc iS)=true:=h;simp only[Wa] at h;exact DN (Og (sS _ c st h.1) (oz ms c iS h.2)) λσ hh=>by simp only[Qa])
    |exact ff h
end
end
end SD
end
section
namespace SD
open PySem PySem.Spec PyProof.Rows L2 L3 M3 MP
noncomputable def qi(Pm:Prog)(d:a7)(N ps:List Str)(st:Stmt):Bool :=
 (zc st).kind == .function&&!(zc st).isCoroutine&&!(zc st).isGenerator&&decide N.Nodup&&decide (N.take ps.length=ps)&&ps.all (λx=>(zc st).names.lookup x==some .local||(zc st).names.lookup x==some .cell) &&
  (zc st).names.all (λy=>y.2 != .free)&&d.np==ps.length&&d.ns==N.length&&yH Pm d.body N (zc st) (Zg st)
section
variable {P:aj} {w:World} {K:PySem.W.Frag} {mg:Str->Option aa} {base:Heap} {Pm:Prog} {ct:Tx} {n:Nat} {d:a7} {N ps:List Str} {st:Stmt} {f:String}
theorem QR(h:qi Pm d N ps st=true):hJ N ps (zc st)/\d.np=ps.length/\d.ns=N.length/\yH Pm d.body N (zc st) (Zg st)=true:=by
 unfold qi at h;simp only[Wa,beq_iff_eq,wo,decide_eq_true_eq,Wp,vn,bne_iff_ne,ne_eq] at h;obtain⟨⟨⟨⟨⟨⟨⟨⟨⟨h1,h2⟩,h3⟩,h4⟩,h5⟩,h6⟩,h7⟩,h8⟩,h9⟩,h10⟩:=h;exact⟨⟨h1,h2,h3,h4,h5,h6,h7⟩,h8,h9,h10⟩
theorem Pc{ms:List MV}{h:MH}{r:R MV}(hd:Pm.defs f=some d)(e:MP.run Pm (n+1) f ms h=r)(hr:r≠.stuck):ms.length=d.np/\r=yb h (Qa Pm (MP.run Pm n) d.body (ms.map some++Vc (d.ns-d.np) none) h):=by
 simp only[MP.run,hd,qc] at e;split at e
 next c=>exact⟨c,e.symm⟩
 next=>exact absurd e.symm hr
theorem Ca(hd:Pm.defs f=some d)(hn:d.np=ps.length):∀ vs H Q E,kQ ct (MP.run Pm (n+1) f) vs H Q E->vs.length=ps.length:=by
 intro vs H Q E ⟨μ,h,ms,rel,eQ,p⟩;cases er:MP.run Pm (n+1) f ms h with
 |stuck=>rw[er] at p;exact p.elim
 |ok x h'=>rw[eQ.length,(Pc hd er (λz=>nomatch z)).1,hn]
 |exc c h'=>rw[eQ.length,(Pc hd er (λz=>nomatch z)).1,hn]
theorem Je(T:Txt P w K mg base Pm ct n)(hK:K=ct.K)(hd:Pm.defs f=some d)(hb:qi Pm d N ps st=true)(qual:Str)(fa:af)(dM:aa)(A:ay)(outer:List Env)(s:ag)(H:Hp)(vs:List V)(Q:VK)(E:XK)
  (hr:dy (2*n+1) (A.deeper (eK qual (zc st) s.heap.objs.size fa dM))) (ko:kQ ct (MP.run Pm (n+1) f) vs H Q E) :
  ∃ t,gZ (lQ (jT P w) P w K mg base N qual (zc st) fa dM A outer s H E) (Zg st) t/\t {nx:=λ_ H'=>Q .bG H',rt:=Q} (L2.start N vs) H:=by
 obtain⟨S,hn,hs,hc⟩:=QR hb;have cs:Cs (lQ (jT P w) P w K mg base N qual (zc st) fa dM A outer s H E) Pm ct n E N (zc st) :=
  ⟨⟨T,rfl,hr,λσ _ pins H s e s' I h=>qcg rfl MJ pins σ H s e s' I h,rfl,rfl,S.nd,hK⟩,rfl,QcX,MJ,λ_=>rfl,S.kind,rfl,rfl⟩
 refine⟨_,oz d.body cs (Zg st) hc,?_⟩;obtain⟨μ,h,ms,rel,eQ,p⟩:=ko;have hlen:=Ca hd hn vs H Q E ⟨μ,h,ms,rel,eQ,p⟩;have Ar:ms.length=d.np:=by rw[<- eQ.length,hlen,hn]
 refine⟨μ,h,ms.map some++Vc (d.ns-d.np) none,rel,?_,trivial,?_⟩
 ·refine⟨by unfold L2.start;simp[eQ.length,Ar,hs],λi m e=>?_⟩;by_cases hi:i<ms.length
  ·rw[Ua (by simpa using hi),Xb] at e;cases em:ms[i]? with
   |none=>rw[em] at e;cases e
   |some m' =>
    rw[em] at e;simp only[ug,Option.some.injEq] at e;subst e;obtain⟨v,ev,rv⟩:=eQ.get em;refine⟨v,?_,rv⟩;unfold L2.start;rw[Ua (by rw[wc,eQ.length];exact hi),Xb,ev];rfl
  ·rw[we (by simpa using hi),Xo] at e;split at e <;> cases e
 ·have er:MP.run Pm (n+1) f ms h=yb h (Qa Pm (MP.run Pm n) d.body (ms.map some++Vc (d.ns-d.np) none) h):=by
   simp only[MP.run,hd,qc,if_pos Ar]
  rw[er] at p;cases ex:Qa Pm (MP.run Pm n) d.body (ms.map some++Vc (d.ns-d.np) none) h with
  |next σ' h' =>
   rw[ex] at p;intro μ' H' σ e1 r1 q1;obtain⟨ν,rfl⟩:=e1.pre;exact O3 rel e1 r1 rX p
  |ret m h' =>
   rw[ex] at p;intro μ' H' v e1 r1 rv;obtain⟨ν,rfl⟩:=e1.pre;exact O3 rel e1 r1 rv p
  |exc c h' =>
   rw[ex] at p;intro μ' H' e1 r1;obtain⟨ν,rfl⟩:=e1.pre;exact zb6 rel e1 r1 p
  |brk σ' h'=>rw[ex] at p;exact p.elim
  |cnt σ' h'=>rw[ex] at p;exact p.elim
  |stuck=>rw[ex] at p;exact p.elim
theorem qch(T:Txt P w K mg base Pm ct n)(hK:K=ct.K)(S:Src K mg (Str.ofString f) st ps)(hd:Pm.defs f=some d)(hb:qi Pm d N ps st=true):tE P w K mg base (Str.ofString f) (2*(n+1)) ps (kQ ct (MP.run Pm (n+1) f)) :=
 Zda (k:=2*n+1) S (QR hb).1 (Ca hd (QR hb).2.1) λfa dM A outer s H vs Q E hr ko=>Je T hK hd hb _ fa dM A outer s H vs Q E hr ko
theorem JR{x qual:Str}{fa:af}{fd:bw}(T:Txt P w K mg base Pm ct n)(hK:K=ct.K)(F:rO K x qual st fa fd)(hd:Pm.defs f=some d)(hb:qi Pm d N ps st=true):fH P w K mg base (jT P w) (2*(n+1)) fa fd ps (kQ ct (MP.run Pm (n+1) f)):=by
 obtain⟨oc,od,kV,doc,pm,an,dM,jz,ju,rfl,lk,jy⟩:=F.ex;exact DV (k:=2*n+1) lk jy (QR hb).1 (Ca hd (QR hb).2.1) λA outer s H vs Q E hr ko=>Je T hK hd hb _ fa dM A outer s H vs Q E hr ko
theorem Qcd{x qual:Str}{fa:af}{fd:bw}(T:Txt P w K mg base Pm ct n)(hK:K=ct.K)(F:oq K x qual st fa fd)(hd:Pm.defs f=some d)(hb:qi Pm d N ps st=true):fH P w K mg base (jT P w) (2*(n+1)) fa fd ps (kQ ct (MP.run Pm (n+1) f)):=by
 obtain⟨oc,od,dV,kV,doc,pm,an,dM,jz,ju,rfl,lk,jy⟩:=F.ex;exact DV (k:=2*n+1) lk jy (QR hb).1 (Ca hd (QR hb).2.1) λA outer s H vs Q E hr ko=>Je T hK hd hb _ fa dM A outer s H vs Q E hr ko
end
theorem ln0{α:Type}{us:List α}(h:us.length=0):us=[]:=xo h
theorem w6{α:Type}{n:Nat}{us:List α}(h:us.length=n+1):∃ a vs,us=a::vs/\vs.length=n:=by
 cases us with
 |nil=>cases h
 |cons a vs=>exact⟨a,vs,rfl,Nat.succ.inj h⟩
theorem m9{α:Type}{us:List α}(h:us.length=1):∃ a,us=[a]:=by obtain⟨a,vs,rfl,h2⟩:=w6 h;rw[ln0 h2];exact⟨a,rfl⟩
theorem ln2{α:Type}{us:List α}(h:us.length=2):∃ a b,us=[a,b]:=by obtain⟨a,vs,rfl,h2⟩:=w6 h;obtain⟨b,rfl⟩:=m9 h2;exact⟨a,b,rfl⟩
theorem kT{α:Type}{us:List α}(h:us.length=3):∃ a b c,us=[a,b,c]:=by obtain⟨a,vs,rfl,h2⟩:=w6 h;obtain⟨b,c,rfl⟩:=ln2 h2;exact⟨a,b,c,rfl⟩
theorem CZ{α:Type}{us:List α}(h:us.length=4):∃ a b c d,us=[a,b,c,d]:=by obtain⟨a,vs,rfl,h2⟩:=w6 h;obtain⟨b,c,d,rfl⟩:=kT h2;exact⟨a,b,c,d,rfl⟩
theorem Hg{α:Type}{us:List α}(h:us.length=5):∃ a b c d e,us=[a,b,c,d,e]:=by obtain⟨a,vs,rfl,h2⟩:=w6 h;obtain⟨b,c,d,e,rfl⟩:=CZ h2;exact⟨a,b,c,d,e,rfl⟩
noncomputable def BS(P:String->a7->Prop):List (String×a7)->Prop
 |[]=>True
 |p::r=>P p.1 p.2/\BS P r
theorem MI{P:String->a7->Prop}{f:String}{d:a7}:∀{L:List (String×a7)},BS P L->L.lookup f=some d->P f d
 |[],_,h=>by cases h
 |(g,e)::r,⟨a,b⟩,h=>by
  rw[Wc] at h;cases hb:f==g with
  |true =>
   rw[hb] at h;cases h;rw[show f=g by simpa using hb];exact a
  |false =>
   rw[hb] at h;exact MI b h
noncomputable def Cb(K:PySem.W.Frag)(mg:Str->Option aa)(Pm:Prog)(ct:Tx)(f:String)(ps:List Str):Prop :=
 ∀(P:aj)(w:World)(base:Heap)(n:Nat),K.In base->(ct.cd≠0->jR mg base ct.cd ct.tb)->tE P w K mg base (Str.ofString f) (2*(n+1)) ps (kQ ct (MP.run Pm (n+1) f))
structure Text (K:PySem.W.Frag) (mg:Str->Option aa) (Pm:Prog) (ct:Tx):Prop where
 hK:K=ct.K
 defs:∀ f d,Pm.defs f=some d->f.toList.contains '.'=false->∃ st N ps,Src K mg (Str.ofString f) st ps/\(qi Pm d N ps st=true\/Cb K mg Pm ct f ps)
 kX:∀ c f,Pm.meths c "__init__"=some f->∃ d st N ps fa fd x qual,Pm.defs f=some d/\Mk K (ct c) fa/\rO K x qual st fa fd/\Binds K fd ps []/\mg (Str.ofString c)=some (.ref (ct c))/\qi Pm d N ps st=true
 ip:∀ x∈eu++dH++bx++["range","zip","enumerate","isinstance","sorted","reversed"],mg (Str.ofString x)=none
 iw:∀ c f,Pm.iw c f=true->lN K (ct c)/\fP K (ct c) (Str.ofString f)
 cls:∀ c t b,Pm.subs c t=some b->oV K (ct c)
 md:∀ c t b,Pm.subs c t=some b->bx.contains t=false->mg (Str.ofString t)=some (.ref (ct t))/\Ug K (.ref (ct c)) (.ref (ct t))=some b
 nA:∀ c t b,Pm.subs c t=some b->bx.contains t=true->Ug K (.ref (ct c)) (.type t)=some b
 Cn:∀ t c b,Pm.subs c t=some b->bx.contains t=false->∀ T∈["NoneType","bool","int","str","list","tuple"],Ug K (.type T) (.ref (ct t))=some false
 kD:∀ c,Pm.kD c=true->l9 K (ct c)/\mg (Str.ofString c)=some (.ref (ct c))
 words:∀ wd,Pm.words wd=true->l9 K (ct "DotError")/\mg "DotError"=some (.ref (ct "DotError"))/\(∀(P:aj)(w:World)(base:Heap),∃ ps,Ma P w K mg base (Str.ofString wd) 1 ps (LS ct Pm wd)) /\
  ∀ c s,Pm.word wd c=some s->l9 K (ct c)/\(CF K (ct c)).contains (.ref (ct "DotError"))=true
 lF:∀ t,Pm.lF t=true->(if t="ValueError" then mg "ValueError"=none else mg (Str.ofString t)=some (.ref (ct t)))
 xs:∀ c t b,Pm.kN c t=some b->BN K (ct c)/\Ug K (.ref (ct c)) (if t="ValueError" then .type "ValueError" else .ref (ct t))=some b
 sA:∀ f ds,Pm.sA f ds=true->∃ d st N ps fa fd gW,Pm.defs f=some d/\oq K (Str.ofString f) (Str.ofString f) st fa fd/\Binds K fd ps gW/\Vals (ds.map V.int) gW/\mg (Str.ofString f)=some (.ref fa)/\qi Pm d N ps st=true
 meths:∀ c m f,Pm.meths c m=some f->m≠"__init__"->lN K (ct c)/\∃ d st N ps fa fd x qual,Pm.defs f=some d/\Meth K (ct c) (Str.ofString m) fa/\rO K x qual st fa fd/\Binds K fd ps []/\qi Pm d N ps st=true
 mB:∀ c,Pm.mB c=true->D6 K (ct c)/\mg (Str.ofString c)=some (.ref (ct c))
 dE:∀ x i,Pm.dE x=some (.int i)->∃ t,mg (Str.ofString x)=some (.int i t)
 oZ:Pm.xt=true->l9 K (ct "DotError")/\mg "DotError"=some (.ref (ct "DotError"))/\∀ c b,Pm.kN c c=some b->l9 K (ct c)/\(CF K (ct c)).contains (.ref (ct "DotError"))=true
theorem oy{ct:Tx}{Pm:Prog}{f:String}{vs:List V}{H:Hp}{Q:VK}{E:XK}(h:kQ ct (MP.run Pm 0 f) vs H Q E):False:=by
 obtain⟨μ,h,ms,rel,eQ,p⟩:=h;exact p
theorem Bw{P:aj}{w:World}{K:PySem.W.Frag}{mg:Str->Option aa}{base:Heap}{Pm:Prog}{ct:Tx}(T:Text K mg Pm ct)(kb:K.In base)(lb:ct.cd≠0->jR mg base ct.cd ct.tb):∀ n,Txt P w K mg base Pm ct n
 |0=>⟨λf d hd eJ=>by
   obtain⟨st,N,ps,⟨fa,fd,F,b,m⟩,hb⟩:=T.defs f d hd eJ;exact⟨ps,fa,fd,⟨λvs H Q E h=>(oy h).elim,λA outer s H args us vs Q E _ _ _ _ h=>(oy h).elim⟩,b,F.kp,m⟩,
  λc f hi=>by
   obtain⟨d,st,N,ps,fa,fd,x,qual,hd,M,F,b,m,hb⟩:=T.kX c f hi;exact⟨ps,fa,fd,M,⟨λvs H Q E h=>(oy h).elim,λA outer s H args us vs Q E _ _ _ _ h=>(oy h).elim⟩,b,m⟩,
  T.ip,T.iw,T.cls,T.md,T.nA,T.Cn,T.kD,λwd hw=>let ⟨a,b,c,d⟩:=T.words wd hw;⟨a,b,c P w base,d⟩,T.lF,T.xs,λf ds hf=>let ⟨d,st,N,ps,fa,fd,gW,hd,F,b,vd,m,hb⟩:=T.sA f ds hf;⟨ps,fa,fd,gW,⟨λvs H Q E h=>(oy h).elim,λA outer s H args us vs Q E _ _ _ _ h=>(oy h).elim⟩,b,vd,F.kp,m⟩,T.oZ,λc m f hm hi=>by
   obtain⟨cl,d,st,N,ps,fa,fd,x,qual,hd,M,F,b,hb⟩:=T.meths c m f hm hi;exact⟨cl,fa,fd,ps,M,⟨λvs H Q E h=>(oy h).elim,λA outer s H args us vs Q E _ _ _ _ h=>(oy h).elim⟩,b⟩,T.mB,T.dE⟩
 |n+1=>⟨λf d hd eJ=>by
   obtain⟨st,N,ps,S,hb⟩:=T.defs f d hd eJ;exact⟨ps,hb.elim (λhb=>qch (Bw T kb lb n) T.hK S hd hb) λhp=>hp P w base n kb lb⟩,
  λc f hi=>by
   obtain⟨d,st,N,ps,fa,fd,x,qual,hd,M,F,b,m,hb⟩:=T.kX c f hi;exact⟨ps,fa,fd,M,JR (Bw T kb lb n) T.hK F hd hb,b,m⟩,
  T.ip,T.iw,T.cls,T.md,T.nA,T.Cn,T.kD,λwd hw=>let ⟨a,b,c,d⟩:=T.words wd hw;⟨a,b,c P w base,d⟩,T.lF,T.xs,λf ds hf=>let ⟨d,st,N,ps,fa,fd,gW,hd,F,b,vd,m,hb⟩:=T.sA f ds hf;⟨ps,fa,fd,gW,Qcd (Bw T kb lb n) T.hK F hd hb,b,vd,F.kp,m⟩,T.oZ,λc m f hm hi=>by
   obtain⟨cl,d,st,N,ps,fa,fd,x,qual,hd,M,F,b,hb⟩:=T.meths c m f hm hi;exact⟨cl,fa,fd,ps,M,JR (Bw T kb lb n) T.hK F hd hb,b⟩,T.mB,T.dE⟩
end SD
end
section
namespace SD
open PySem PySem.Spec PyProof.Rows L2 L3 M3 MP
section
variable {K:PySem.W.Frag} {t C:af} {cd:dN}
theorem yt{b:Bool}(s0:uf K (.ref t) (.ref t)=some true)(ci:Vk K C=some cd)(ty:xk K (.ref C)=some (.type "type"))(s:uf K (.ref t) (.ref C)=some b):Ug K (.ref t) (.ref C)=some b:=by
 unfold Ug PySem.W.kitCls;by_cases ne:(aa.ref t==aa.ref C)=true
 ·have e':aa.ref t=aa.ref C:=eq_of_beq ne;rw[if_pos ne];rw[e'] at s0 s;rw[s0] at s;exact s
 rw[if_neg ne];show(if((Vk K C).isSome&&xk K (.ref C)==some (.type "type"))=true then uf K (.ref t) (.ref C) else none)=some b;rw[ci,ty,if_pos (by rfl),s]
theorem yE{T:String}(m:uf K (.type T) (.ref C)=some false)(ci:Vk K C=some cd)(ty:xk K (.ref C)=some (.type "type")):Ug K (.type T) (.ref C)=some false:=by
 unfold Ug PySem.W.kitCls;rw[if_neg (λe=>by have e':aa.type T=aa.ref C:=eq_of_beq e;cases e')];show(if((Vk K C).isSome&&xk K (.ref C)==some (.type "type"))=true then uf K (.type T) (.ref C) else none)=some false;rw[ci,ty,if_pos (by rfl),m]
theorem qt(C:af):∀ T∈["NoneType","bool","int","str","list","tuple"],uf K (.type T) (.ref C)=some false:=by
 intro T hT;simp only[ua,Ud,or_false] at hT
 rcases hT with rfl|rfl|rfl|rfl|rfl|rfl <;> rfl
end
theorem aL{K:PySem.W.Frag}{h:Heap}{mg:Str->Option aa}{x:Str}{st:Stmt}{ps:List Str}{f:af}{oc:aa}{od an:Option af}{ju:Array (Option aa)}{kV doc pm dM ct:aa}(X:K.In h)(G:h.Ns ao mg)
  (hb:∀(kV doc pm:aa)(an:Option af)(dM ct:aa)(us:List aa),us.length=ps.length->bindArgs (Xf x x (Qi st) (Zg st) (zc st) .none kV doc pm an dM ct) ⟨us,[]⟩=pure (ps.zip us))
  (a:Ue K ao x=some (some (.ref f))) (l:K.lookup f=some ⟨oc,od,.func (Xf x x (Qi st) (Zg st) (zc st) .none kV doc pm an dM ct),ju⟩)
  (c:vg K dM x=true) (k:Xe K (.ref f)=true):Src K mg x st ps :=
 ⟨f,_,ZcK (st:=st) l c k,(yN (st:=st) l c k).binds hb,xf X G a⟩
end SD
end
section
namespace SD
open PySem PySem.Spec PyProof.Rows L2 L3 M3 MP
noncomputable def Ce(H:Hp)(tb:af)(lp:Pos):Prop:=H tb=some (.ext (YL tb lp none))/\∀ b,b≠tb->H b=none\/∃ o xs,H b=some (.eZ o (.lst xs))
noncomputable def QT(tb:af)(lp:Pos):VK:=λv H'=>v=.bl true/\∃ oc,H' tb=some (.ext (YL tb lp oc))
theorem zb5{P:aj}{w:World}{K:PySem.W.Frag}{mg mb:Str->Option aa}{CX:ly}{k:Nat}{fa a:af}{fd:bw}{x:Str}{sp:Sp}{s₁:ag}{vs:List aa}{ns:List Int}{cd tb:af}{lp:Pos}
  (KX:K.In s₁.heap) (oG:s₁.heap.Ns ao mg) (hb:s₁.heap.Ns builtinsNs mb) (hbb:∀ x:Str,x≠"__name__"->mb x=bE x) (pV:s₁.heap.NoLimit) (hg:s₁.gens=#[])
  (ha:s₁.heap.get? a=some {cls:=.type "list",data:=.seq vs.toArray}) (hi:fX vs ns) (hl:ns.length<=sizeLine) (hr:dy k fV)
  (L:jR mg s₁.heap cd tb) (ht:s₁.heap.get? tb=some (VB #[])) (hK:K.lookup tb=none)
  (F:∀ base:Heap,K.In base->base.Ns ao mg->jR mg base cd tb->fH P w K mg base CX k fa fd [x] sp) (AF:∀(s:ag)(u:aa),hU s fd ⟨[u],[]⟩ [(x,u)])
  (ko:∀ H:Hp,Ce H tb lp->fG K H a (ns.map V.int)->sp [.ref a] H (QT tb lp) λ_ _ _=>False)
  (hCX:∀ H e s',CX [] H s₁ (λ_ _ _=>False) e s'->False) :
  bM (ak P w) fV (.call (.ref fa) ⟨[.ref a],[]⟩) (λr s'=>r=.ok (.ret (.bool true))/\OldK s₁.heap s'.heap/\s'.os=s₁.os/\dI s'.gens) s₁:=by
 have rv:=NQ hi;have Hh:=hi.length;have Nj:a≠tb:=λz=>by rw[z,ht] at ha;cases ha
 have core:∀ H:Hp,Ce H tb lp->fG K H a (ns.map V.int)->fu P w H s₁.heap->(∀ b,H b≠none->b=a\/b=tb)->(H a≠none->K.lookup a=none) ->
   bM (ak P w) fV (.call (.ref fa) ⟨[.ref a],[]⟩) (λr s'=>r=.ok (.ret (.bool true))/\OldK s₁.heap s'.heap/\s'.os=s₁.os/\dI s'.gens) s₁:=by
  intro H hO hS aU hA hKa;have base_of:∀{b:af}{o:Obj},s₁.heap.get? b=some o->H b=none->(m8 s₁.heap H).get? b=some o:=λe n=>qcn e n;have MN:∀{b:af}{o:Obj},s₁.heap.get? b=some o->o.cls≠.type "list"->o.cls≠.none->H b=none:=λ{b o} e c1 c2=>by
   cases q:H b with
   |none=>rfl
   |some u =>
    rcases hA b (by rw[q];simp) with e'|e'
    ·subst e';rw[ha] at e;cases e;exact absurd rfl c1
    ·subst e';rw[ht] at e;cases e;exact absurd rfl c2
  have wV:∀{b:af}{o:Obj}{es:Array fY}{ep:Nat},s₁.heap.get? b=some o->o.data=.dict es ep->H b=none:=λ{b o es ep} e d=>by
   cases q:H b with
   |none=>rfl
   |some u =>
    rcases hA b (by rw[q];simp) with e'|e'
    ·subst e';rw[ha] at e;cases e;have d':Data.seq vs.toArray _=Data.dict es ep:=d;cases d'
    ·subst e';rw[ht] at e;cases e;cases d
  have CQ:∀{b:af}{m:Str->Option aa},s₁.heap.Ns b m->(m8 s₁.heap H).Ns b m:=λ{b m} ⟨o,es,ep,e,d,r⟩=>⟨o,es,ep,base_of e (wV e d),d,r⟩;have Nl:K.In (m8 s₁.heap H):=λb o e=>base_of (KX b o e) (by
   cases q:H b with
   |none=>rfl
   |some u =>
    rcases hA b (by rw[q];simp) with e'|e'
    ·subst e';rw[hKa (by rw[q];simp)] at e;cases e
    ·subst e';rw[hK] at e;cases e)
  have hM:Mod K mg (m8 s₁.heap H):=⟨Nl,CQ oG,⟨mb,CQ hb,hbb⟩,let ⟨mc,h1,h2⟩:=pV;⟨mc,CQ h1,h2⟩⟩;have hL:jR mg (m8 s₁.heap H) cd tb:=by
   obtain⟨⟨o,vs',file,tf,flags,tg,pO,text,tt,e1,e2,r⟩,bm,ob,b1,b2,b3,b4,r2⟩:=L;refine⟨⟨o,vs',file,tf,flags,tg,pO,text,tt,base_of e1 (MN e1 (by rw[e2];simp) (by rw[e2];simp)),e2,r⟩,bm,ob,b1,b2,base_of b3 (MN b3 (by rw[b4];simp) (by rw[b4];simp)),b4,r2⟩
  have e0:ki P w K mg (m8 s₁.heap H) fV [] s₁ H:=⟨rfl,hM,λb o e=>qcJ e,uq (zcg _ _),trivial,λb hb=>absurd (show b∈([]:List af) from hb) (by simp),aU,.of_eq hg⟩;refine cX ((F _ Nl (CQ oG) hL).run fV [] s₁ H ⟨[.ref a],[]⟩ [.ref a] [.ref a] _ _ hr e0 (AF s₁ (.ref a)) (.cons rfl .nil) (ko H hO hS)) λr s' h=>?_;cases r with
  |error e=>exact(hCX H e s' h).elim
  |ok fl =>
   cases fl with
   |next=>exact False.elim h
   |brk=>exact False.elim h
   |cont=>exact False.elim h
   |ret u =>
    obtain⟨v,H',os,bare,un,Ao,r',q',oc,Hv⟩:=h;subst q';obtain rfl:u=aa.bool true:=r';obtain⟨⟨ps,ep,_⟩,_⟩:=Ao tb _ Hv;have keep:∀ b o,b≠tb->s₁.heap.get? b=some o->s'.heap.get? b=some o:=λb o n e=>by
     cases q:H b with
     |none=>exact un.keep b o e q (by intro z;exact absurd (show b∈([]:List af) from z) (by simp)) (by simp)
     |some u =>
      rcases hO.2 b n with z|⟨ob,xs,z⟩
      ·rw[q] at z;cases z
      ·have z2:=un.i5 b ob _ z;obtain⟨e1,_⟩:=aU b _ z;obtain⟨e2,_⟩:=Ao b _ z2;rw[e] at e1;cases e1;exact e2
    refine⟨rfl,⟨λb o e=>?_,λb o e=>?_⟩,os,bare⟩
    ·by_cases hb:b=tb
     ·subst hb;rw[ht] at e;cases e;exact .inr (.inl ⟨(L.code.tab ht).isCodeTable,rfl,#[],ps,rfl,by rw[ep];simp⟩)
     ·exact .inl (keep b o hb e)
    ·by_cases hb:b=tb
     ·subst hb;exact⟨_,ep⟩
     ·exact⟨o,keep b o hb e⟩
 have tok:YL tb lp none s₁.heap:=⟨#[],ht,trivial,rfl⟩;cases hk:K.lookup a with
 |some o =>
  have e:=KX a o hk;rw[ha] at e;cases e;refine core (λb=>if b=tb then some (.ext (YL tb lp none)) else none) ⟨if_pos rfl,λb n=>.inl (if_neg n)⟩ (.inr ⟨_,vs.toArray,_,hk,rfl,rfl,rfl,by rw[Wb,Hh];exact hl,by simpa using rv⟩) (λb u z=>?_) (λb z=>?_) λz=>absurd (if_neg Nj) z
  ·by_cases hb:b=tb
   ·have z':=(if_pos hb).symm.trans z;cases z';subst hb;exact JA tok
   ·have z':=(if_neg hb).symm.trans z;cases z'
  ·by_cases hb:b=tb
   ·exact .inr hb
   ·exact absurd (if_neg hb) z
 |none =>
  refine core (λb=>if b=tb then some (.ext (YL tb lp none)) else if b=a then some (.eZ {cls:=.type "list",data:=.seq vs.toArray} (.lst (ns.map V.int))) else none) ⟨if_pos rfl,λb n=>?_⟩ (.inl (.inr ⟨{cls:=.type "list",data:=.seq vs.toArray},(if_neg Nj).trans (if_pos rfl)⟩)) (λb u z=>?_) (λb z=>?_) λ_=>hk
  ·by_cases hb:b=a
   ·exact .inr ⟨_,_,(if_neg n).trans (if_pos hb)⟩
   ·exact .inl ((if_neg n).trans (if_neg hb))
  ·by_cases hb:b=tb
   ·have z':=(if_pos hb).symm.trans z;cases z';subst hb;exact JA tok
   ·have z:=(if_neg hb).symm.trans z;by_cases hb:b=a
    ·have z':=(if_pos hb).symm.trans z;cases z';subst hb;exact⟨ha,by rw[wc];exact hl,vs,_,rv,ha⟩
    ·have z':=(if_neg hb).symm.trans z;cases z'
  ·by_cases hb:b=tb
   ·exact .inr hb
   ·by_cases jE:b=a
    ·exact .inl jE
    ·exact absurd ((if_neg hb).trans (if_neg jE)) z
noncomputable def JC(K:PySem.W.Frag)(tb:af)(lp:Pos):Sp:=λvs H Q E=>∃(a:af)(ns:List Int),vs=[.ref a]/\ns.length<=63/\Ce H tb lp/\fG K H a (ns.map V.int)/\Q=QT tb lp/\E=λ_ _ _=>False
theorem tI{l:PySem.W.OpenLaw}{q:aj}{loose:List Str}{XP:(Str->Option aa)->Heap->Prop}{YP:World->Heap->Prop}{d:DefRec}{K:Params->PySem.W.Frag}{k:Nat}{cd tb:af}{lp:Pos}(hn:l.most=some 63)(Ic:d.params.defaults=[])(hr:dy k fV)
  (hY:∀(w:World)(h:Heap),YP w h->(K w.params).In h) (hT:∀(w:World)(h:Heap),YP w h->h.get? tb=some (VB #[])) (hC:∀(w:World)(h:Heap),(K w.params).In h->PySem.W.CodeHd h cd tb) (hK:∀ w:World,(K w.params).lookup tb=none)
  (F:∀(w:World)(mg:Str->Option aa)(fa:af)(h:Heap),(K w.params).In h->h.Ns ao mg->mg d.name=some (.ref fa) ->
   ∃ fd:bw,(∀(s:ag)(u:aa),hU s fd ⟨[u],[]⟩ [("_law_script",u)])/\∀ base:Heap,(K w.params).In base->base.Ns ao mg->jR mg base cd tb->fH l.prog w (K w.params) mg base (jT l.prog w) k fa fd ["_law_script"] (JC (K w.params) tb lp)) :
  PySem.W.WalkO q loose XP YP l.row.toRowW d [] (λf vs=>PySem.call f vs):=by
 refine PJ.kg hn Ic λw s₀ s₁ mg mb fa o pm dM doc a vs ns G Y ho hd jy nS pT hints hlen hg=>?_;have KX:=hY w _ Y;obtain⟨fd,hb,hF⟩:=F w mg fa _ KX G.T.g nS;exact zb5 (lp:=lp) KX G.T.g G.T.b G.T.builtins G.T.nolimit hg pT hints (vf hlen (by decide)) hr ⟨hC w _ KX,G.T.bmain⟩ (hT w _ Y) (hK w) hF hb (λH hO hS=>⟨a,ns,rfl,hlen,hO,hS,rfl,rfl⟩) λH e s' ⟨_,_,_,_,_,_,_,_,_,_,_,_,_,_,_,z⟩=>z
end SD
end
section
namespace SD
open PySem PySem.Spec PyProof.Rows L2 L3 M3 MP
noncomputable abbrev Oc:aA:={kind:=.function,names:=[("want",.cell),("inks",.local),("min",.globalImplicit)],isGenerator:=false,isCoroutine:=false,more:=[]}
noncomputable abbrev OY:a7:=⟨2,2,[.ret (.kS (.var 0) (.var 1))]⟩
theorem ZcO:hJ ["want","inks"] ["want","inks"] Oc:=⟨rfl,rfl,rfl,by decide,rfl,by decide,by decide⟩
theorem qb6{x y:MV}{h h':MH}{v:MV}(e:mV x y h=.ok v h'):∃ w n0 ns vs,x=.f (.int w)/\qb h y=some vs/\Qg vs=some (n0::ns)/\h[0]?=some Cell.code/\v=.f (.int (Zo w n0 ns))/\h'=h:=by
 unfold mV at e;cases e1:Qd x with
 |none=>rw[e1] at e;cases e
 |some w =>
  rw[e1,qc] at e;have:=Yi e1;subst this;cases e2:qb h y with
  |none=>rw[e2] at e;cases e
  |some vs =>
   rw[e2,qc] at e;cases e3:Qg vs with
   |none=>rw[e3] at e;cases e
   |some ns =>
    rw[e3,qc] at e;cases ns with
    |nil=>cases e
    |cons n0 ns =>
     simp only at e;split at e
     next w0=>cases e;exact⟨w,n0,ns,vs,rfl,rfl,e3,w0,rfl,rfl⟩
     next=>cases e
theorem Zce{x y:MV}{h h':MH}{c:String}(e:mV x y h=.exc c h'):False:=by
 unfold mV at e;cases e1:Qd x with
 |none=>rw[e1] at e;cases e
 |some w =>
  rw[e1,qc] at e;cases e2:qb h y with
  |none=>rw[e2] at e;cases e
  |some vs =>
   rw[e2,qc] at e;cases e3:Qg vs with
   |none=>rw[e3] at e;cases e
   |some ns =>
    rw[e3,qc] at e;cases ns with
    |nil=>cases e
    |cons n0 ns =>
     simp only at e;split at e
     next w0=>cases e
     next=>cases e
theorem YcM{h:MH}{x:FV}:zg h (.f x) h=.ok (.f x) h:=by
 unfold zg;rw[if_pos ⟨xb _,λi c _ e=>.inl e⟩];simp
theorem DG{Pm:Prog}{n:Nat}{ms:List MV}{h:MH}{r:R MV}(hd:Pm.defs "nearest_ink"=some OY)(e:MP.run Pm (n+1) "nearest_ink" ms h=r)(hr:r≠.stuck) :
  ∃ m1 w n0 ns vs,ms=[.f (.int w),m1]/\qb h m1=some vs/\Qg vs=some (n0::ns)/\h[0]?=some Cell.code/\r=.ok (.f (.int (Zo w n0 ns))) h:=by
 simp only[MP.run,hd,qc] at e;split at e
 next hl =>
  match ms,hl with
  |[m0,m1],_ =>
   have e':yb h ((mV m0 m1 h).st λv h1=>.ret v h1)=r:=by
    rw[<- e];simp[Qa];cases mV m0 m1 h <;> rfl
   cases ev:mV m0 m1 h with
   |stuck=>rw[ev] at e';exact absurd e'.symm hr
   |exc c h'=>exact(Zce ev).elim
   |ok v h' =>
    obtain⟨w,n0,ns,vs,rfl,e1,e2,e3,rfl,rfl⟩:=qb6 ev;rw[ev] at e';exact⟨m1,w,n0,ns,vs,rfl,e1,e2,e3,e'.symm.trans YcM⟩
 next=>exact absurd e.symm hr
theorem zcs{h:MH}(h0:h[0]?=some Cell.code):h.set 0 Cell.code=h:=by
 cases h with
 |nil=>rfl
 |cons c r=>simp at h0;subst h0;rfl
theorem ycm{ct:Tx}{μ:List af}{h:MH}{H H2:Hp}(rel:Rel ct μ h H)(h0:h[0]?=some Cell.code)(nx:BW H ct.tb ct.lp ct.lq H2):Ext μ h H μ h H2/\Rel ct μ h H2:=by
 rcases nx with rfl|⟨c',hP,hc,rfl⟩
 ·exact⟨Ext.refl _ _ _,rel⟩
 ·have hi:0<μ.length:=by rw[rel.len];exact(xa.mp h0).1
  have e0:μ[0]?=some μ[0]:=by simp[hi]
  obtain⟨eb,_⟩:=rel.cells 0 _ _ e0 h0;have nc:c'≠ct.tb:=λz=>by rw[z,hP] at hc;cases hc
  have nl:¬ bc μ (h.set 0 Cell.code) c':=λl=>by
   obtain⟨u,z⟩:=bc.has rel (bc.set (h:=h) h0 (λz=>nomatch z) l);rw[hc] at z;cases z
  have av:=rel.new hc (.ext (l7 c' ct.lq));have gD:=Ext.new rel hc (.ext (l7 c' ct.lq));have dJ:=Ext.set av e0 h0 (λz=>nomatch z) .code (.ext (YL ct.tb ct.lp (some c')));have a9:=av.set (c':=.code) (o:=.ext (YL ct.tb ct.lp (some c'))) e0 h0 (λz=>nomatch z) ⟨eb,.inr ⟨c',by rw[eb];exact nc,nl,by rw[zf,eb],by rw[Zd (by rw[eb];exact nc),zf]⟩⟩;rw[zcs h0,eb] at dJ a9;exact⟨gD.trans dJ,a9⟩
theorem ZcP{K:PySem.W.Frag}{mg:Str->Option aa}{Pm:Prog}{ct:Tx}{st:Stmt}{fa:af}{oc kV doc pm jz:aa}{od an:Option af}{ju:Array (Option aa)}{pr pi vQ pa p1 p2 p3 p4 p5 pk pc:Pos}
  (j':Zg st=[.Return (some (K' (.Name "inks" pi) vQ pa p1 p2 p3 p4 p5 ct.lp pk pc)) pr]) (hsc:zc st=Oc)
  (lk:K.lookup fa=some ⟨oc,od,.func (Xf "nearest_ink" "nearest_ink" (Qi st) (Zg st) (zc st) .none kV doc pm an (.ref ct.cd) jz),ju⟩) (jy:vg K (.ref ct.cd) "nearest_ink"=true) (kp:Xe K (.ref fa)=true) (nS:mg "nearest_ink"=some (.ref fa))
  (hb:Binds K (Xf "nearest_ink" "nearest_ink" (Qi st) (Zg st) (zc st) .none kV doc pm an (.ref ct.cd) jz) ["want","inks"] []) (hd:Pm.defs "nearest_ink"=some OY) (HJ:mg "min"=none) (Iq:mg "abs"=none)
  (Nf:ct.lq=("nearest_ink":Str)++".<locals>."++"<lambda>") (Ik:ct.cd≠0) (hK:K=ct.K):Cb K mg Pm ct "nearest_ink" ["want","inks"]:=by
 intro P w base n kb lb;have L:=lb Ik;rw[j',hsc] at lk hb;refine⟨fa,_,DV (k:=2*n+1) (N:=["want","inks"]) lk jy ZcO ?_ λA outer s H vs Q E hr ko=>?_,hb,kp,nS⟩
 ·rintro vs H Q E ⟨μ,h,ms,rel,eQ,p⟩;cases er:MP.run Pm (n+1) "nearest_ink" ms h with
  |stuck=>rw[er] at p;exact p.elim
  |ok x h'=>obtain⟨_,_,_,_,_,rfl,_⟩:=DG hd er (λz=>nomatch z);rw[eQ.length];rfl
  |exc c h'=>obtain⟨_,_,_,_,_,rfl,_⟩:=DG hd er (λz=>nomatch z);rw[eQ.length];rfl
 ·refine⟨_,qcR (L8 (ycV (P:=ct.tb) (lp:=ct.lp) (c:=ct.cd) (j:=0) (L9 (i:=1) rfl (.inl rfl)) rfl HJ Iq rfl hr.depth rfl L rfl rfl)),?_⟩;obtain⟨μ,h,ms,rel,eQ,p⟩:=ko;cases er:MP.run Pm (n+1) "nearest_ink" ms h with
  |stuck=>rw[er] at p;exact p.elim
  |exc c h'=>obtain⟨_,_,_,_,_,_,_,_,_,z⟩:=DG hd er (λz=>nomatch z);cases z
  |ok x h' =>
   obtain⟨m1,wv,n0,ns,us,rfl,e1,e2,e3,z⟩:=DG hd er (λz=>nomatch z);cases z;rw[er] at p;obtain⟨v0,v1,rfl,r0,r1⟩:=Bs eQ;have:=Qo r0;subst this;obtain⟨b,a,rfl,iT⟩:=BD rel e1 r1;obtain⟨xs,sq,rxs⟩:=iT μ h H (Ext.refl _ _ _) rel (Cf e1);have:=BE e2 rxs;subst this;have hi:0<μ.length:=by rw[rel.len];exact(xa.mp e3).1
   have e0:μ[0]?=some μ[0]:=by simp[hi]
   obtain⟨eb,tb⟩:=rel.cells 0 _ _ e0 e3;rw[eb] at tb;refine⟨.ref a,rfl,b,a,n0,ns,wv,rfl,by rw[hK];exact sq,rfl,?_,λH2 nx=>?_⟩
   ·show Mg H ct.tb ct.lp (("nearest_ink":Str)++".<locals>."++"<lambda>");rw[<- Nf];exact tb.imp id λ⟨c',n1,_,r⟩=>⟨c',n1,r⟩
   ·have nx:BW H ct.tb ct.lp ct.lq H2:=by rw[Nf];exact nx
    obtain⟨ex,a9⟩:=ycm rel e3 nx;exact p μ H2 ex a9 _ (zu _)
theorem qcX{K:PySem.W.Frag}{ct:Tx}{Pm:Prog}{n:Nat}{H:Hp}{a:af}{ns:List Int}(hK:K=ct.K)(hO:Ce H ct.tb ct.lp)(hS:fG K H a (ns.map V.int))(main:∃ h,MP.run Pm n "law" [.f (.dj ns)] [.code]=.ok (.f (.bl true)) (.code::h)) :
  kQ ct (MP.run Pm n "law") [.ref a] H (QT ct.tb ct.lp) λ_ _ _=>False:=by
 subst hK;refine⟨[ct.tb],[.code],[.f (.dj ns)],⟨rfl,by simp,λb hb=>⟨.ext (YL ct.tb ct.lp none),by rw[Xd.mp hb];exact hO.1⟩,λi b c e1 e2=>?_⟩,aC.cons ?_ aC.nil,?_⟩
 ·cases i with
  |zero =>
   simp at e1 e2;subst e1;subst e2;exact⟨rfl,.inl hO.1⟩
  |succ i=>simp at e1
 ·simp only[RV,RF];refine⟨a,rfl,?_⟩
  rcases hS with (e|⟨o,e⟩)|e
  ·by_cases ha:a=ct.tb
   ·rw[ha,hO.1] at e;cases e
   ·rcases hO.2 a ha with z|⟨o,xs,z⟩
    ·rw[z] at e;cases e
    ·rw[z] at e;cases e
  ·refine .inl ⟨λ⟨i,c,e1,_⟩=>?_,o,e⟩;cases i with
   |zero =>
    simp at e1;rw[<- e1,hO.1] at e;cases e
   |succ i=>simp at e1
  ·exact .inr e
 ·obtain⟨h,e⟩:=main;rw[e];intro μ' H' ex rel v rv;obtain⟨ν,rfl⟩:=ex.pre;obtain⟨_,tb⟩:=rel.cells 0 ct.tb .code rfl rfl;exact⟨sH rv,tb.elim (λz=>⟨_,z⟩) λ⟨c',_,_,z,_⟩=>⟨_,z⟩⟩
theorem YcH{P:aj}{w:World}{K:PySem.W.Frag}{mg:Str->Option aa}{base:Heap}{Pm:Prog}{ct:Tx}{n:Nat}{d:a7}{N ps:List Str}{st:Stmt}{fa:af}{fd:bw}(T:Text K mg Pm ct)(kb:K.In base)(lb:jR mg base ct.cd ct.tb)(F:rO K "law" "law" st fa fd)(hd:Pm.defs "law"=some d)(hb:qi Pm d N ps st=true)
  (main:∀ ns:List Int,ns.length<=63->∃ h,MP.run Pm (n+1) "law" [.f (.dj ns)] [.code]=.ok (.f (.bl true)) (.code::h)):fH P w K mg base (jT P w) (2*(n+1)) fa fd ps (JC K ct.tb ct.lp) :=
 (JR (Bw T kb (λ_=>lb) n) T.hK F hd hb).imp λvs H Q E ⟨a,ns,e1,hl,hO,hS,e2,e3⟩=>by
  subst e1;subst e2;subst e3;exact qcX T.hK hO hS (main ns hl)
theorem lJ{K:PySem.W.Frag}{h:Heap}{f cd tb:af}{oc dV kV doc pm jz:aa}{od an dc:Option af}{ju sc:Array (Option aa)}{st:Stmt}{vs:Array aa}{file:Str}{tf:Tok}{fl t:Int}{tg tt:Tok}{b:Bool}(X:K.In h)(_:Ue K ao "nearest_ink"=some (some (.ref f)))
  (_:K.lookup f=some ⟨oc,od,.func (Xf "nearest_ink" "nearest_ink" (Qi st) (Zg st) (zc st) dV kV doc pm an (.ref cd) jz),ju⟩) (lc:K.lookup cd=some ⟨.type "code",dc,.fields vs,sc⟩) (e11:vs[11]?=some (.ref tb)) (e18:vs.getD 18 .none=.str file tf) (e7:vs.getD 7 .none=.int fl tg)
  (e9:vs.getD 9 .none=.bool b) (e10:vs.getD 10 .none=.int t tt) (ne:cd≠tb):PySem.W.CodeHd h cd tb:=by
 have ID:vs.getD 11 .none=.ref tb:=by rw[Array.getD_eq_getD_getElem?,e11];rfl
 exact⟨_,vs,file,tf,fl,tg,b,t,tt,X cd _ lc,rfl,rfl,e11,ID,e18,e7,e9,e10,ne⟩
end SD
end
section
namespace MP
open PySem
noncomputable def ZV:a7:=⟨1,1,[.ret (.blt true "tuple" [.comp true (.blt true "tuple" [.var 0]) (.nm 0) "seq" [.var 0] none 1 []])]⟩
noncomputable def yX:a7:=⟨3,4,[.ite (.cmp .lt (.var 2) (.cI 1)) [.ret (.cS "the greatest number is below 1")] [],.ite (.or [.cmp .eq (.blt true "len" [.var 0]) (.cI 0),.cmp .eq (.blt true "len" [.sub (.var 0) (.cI 0)]) (.cI 0)]) [.ret (.cS "there are no cells")] [],.for_ (.nm 3) "seq" [.var 0] [.ite (.cmp .ne (.blt true "len" [.var 3]) (.blt true "len" [.sub (.var 0) (.cI 0)])) [.ret (.cS "the rows' lengths differ")] [],.ite (.or [.cmp .lt (.blt true "min" [.var 3]) (.var 1),.cmp .gt (.blt true "max" [.var 3]) (.var 2)]) [.ret (.cS "a number is below the least or above the greatest")] []],.ret (.cN)]⟩
noncomputable def bQ:a7:=⟨2,4,[.set (.nm 2) (.lst false []),.for_ (.nm 3) "range" [.var 0] [.expr (.lm "extend" (.var 2) [.comp true (.tup [.var 1,.var 0]) (.nm 0) "range" [.var 1] none 1 [3]])],.ret (.var 2)]⟩
noncomputable def qp:a7:=⟨3,5,[.set (.nm 3) (.call "own_rows" [.var 2]),.set (.nm 4) (.call "fault_of" [.var 3,.cI 0,.var 1]),.ite (.nJ (.var 4)) [.ij] [],.gy (.var 0) "most" (.var 1),.gy (.var 0) "rows" (.var 3)]⟩
noncomputable def DE:a7:=⟨1,1,[.ret (.blt true "len" [.fld (.var 0) "rows"])]⟩
noncomputable def DK:a7:=⟨1,1,[.ret (.blt true "len" [.sub (.fld (.var 0) "rows") (.cI 0)])]⟩
noncomputable def eV:a7:=⟨1,1,[.ret (.tup [.call "high" [.var 0],.call "wide" [.var 0]])]⟩
noncomputable def YW:a7:=⟨2,2,[.ret (.and [.chain .le .lt (.cI 0) (.sub (.var 1) (.cI 0)) (.call "high" [.var 0]),.chain .le .lt (.cI 0) (.sub (.var 1) (.cI 1)) (.call "wide" [.var 0])])]⟩
noncomputable def QH:a7:=⟨2,2,[.ite (.not (.call "has_cell" [.var 0,.var 1])) [.ij] []]⟩
noncomputable def dQ:a7:=⟨2,2,[.expr (.call "ask_cell" [.var 0,.var 1]),.ret (.sub (.sub (.fld (.var 0) "rows") (.sub (.var 1) (.cI 0))) (.sub (.var 1) (.cI 1)))]⟩
noncomputable def dU:a7:=⟨2,2,[.ite (.or [.cmp .lt (.var 0) (.cI 1),.cmp .lt (.var 1) (.cI 1)]) [.ij] []]⟩
noncomputable def YA:a7:=⟨2,5,[.set (.nm 2) (.comp false (.blt false "list" [.var 0]) (.nm 0) "seq" [.fld (.var 0) "rows"] none 1 []),.for_ (.tp [.nm 3,.nm 4]) "seq" [.var 1] [.eG (.sub (.var 2) (.sub (.var 3) (.cI 0))) (.sub (.var 3) (.cI 1)) (.var 4)],.ret (.make true "Picture" [.fld (.var 0) "most",.eZ (.var 2)])]⟩
noncomputable def dR:a7:=⟨3,3,[.ret (.call "with_shades" [.make true "Picture" [.var 0,.bin true .mul (.lst true [.bin true .mul (.lst true [.cI 0]) (.sub (.var 1) (.cI 1))]) (.sub (.var 1) (.cI 0))],.var 2])]⟩
noncomputable def dW:a7:=⟨2,2,[.expr (.call "ask_rising" [.var 0]),.ite (.cmp .ne (.sub (.var 0) (.neg (.cI 1))) (.var 1)) [.ij] []]⟩
noncomputable def cV:a7:=⟨1,3,[.ite (.cmp .lt (.blt true "len" [.var 0]) (.cI 2)) [.ij] [],.ite (.cmp .ne (.sub (.var 0) (.cI 0)) (.cI 0)) [.ij] [],.for_ (.tp [.nm 1,.nm 2]) "zip" [.slice true (.var 0) none (some (.neg (.cI 1))),.slice true (.var 0) (some (.cI 1)) none] [.ite (.cmp .ge (.var 1) (.var 2)) [.ij] []]]⟩
noncomputable def cU:a7:=⟨1,1,[.ite (.or [.cmp .lt (.blt true "sum" [.var 0]) (.cI 1),.cmp .lt (.blt true "min" [.var 0]) (.cI 0)]) [.ij] []]⟩
noncomputable def fN:a7:=⟨4,4,[.ret (.call "dots_of" [.var 0,.eZ (.call "ledger" [.var 0,.var 1,.var 2,.var 3])])]⟩
noncomputable def eW:a7:=⟨2,2,[.ret (.call "laid_out" [.fld (.var 0) "most",.call "size_of" [.var 0],.comp true (.tup [.var 0,.var 2]) (.tp [.nm 0,.nm 1,.nm 2,.nm 3,.nm 4]) "seq" [.var 1] none 5 []])]⟩
noncomputable def fM:a7:=⟨4,7,[.expr (.call "ask_shares" [.var 2]),.expr (.call "ask_inks" [.var 3,.fld (.var 0) "most"]),.set (.nm 4) (.call "size_of" [.var 0]),.set (.nm 5) (.lst false []),.for_ (.nm 6) "seq" [.eZ (.kA (.var 1) "order" [.sub (.var 4) (.cI 0),.sub (.var 4) (.cI 1)])] [.expr (.lm "append" (.var 5) [.call "entry_behind" [.var 5,.var 6,.call "shade_at" [.var 0,.var 6],.var 2,.var 3]])],.ret (.var 5)]⟩
noncomputable def a6:a7:=⟨5,8,[.set (.nm 5) (.ite (.cmp .gt (.blt true "len" [.var 0]) (.cI 0)) (.sub (.sub (.var 0) (.neg (.cI 1))) (.glob "ODD")) (.cI 0)),.for_ (.tp [.nm 6,.nm 7]) "enum1" [.slice true (.var 3) none (some (.blt true "len" [.var 0]))] [.set (.nm 5) (.bin true .add (.var 5) (.bin true .mul (.var 7) (.sub (.sub (.var 0) (.neg (.var 6))) (.glob "LEFT"))))],.ret (.call "entry_of" [.var 1,.var 2,.var 5,.blt true "sum" [.var 3],.var 4])]⟩
noncomputable def dS:a7:=⟨5,7,[.set (.nm 5) (.bin true .fdiv (.var 2) (.var 3)),.set (.nm 6) (.call "nearest_ink" [.bin true .add (.var 1) (.var 5),.var 4]),.ret (.tup [.var 0,.var 5,.var 6,.bin true .sub (.bin true .add (.var 1) (.var 5)) (.var 6),.bin true .mod (.var 2) (.var 3)])]⟩
noncomputable def df:a7:=⟨2,2,[.ret (.kS (.var 0) (.var 1))]⟩
noncomputable def dt:a7:=⟨3,3,[.expr (.call "ask_size" [.var 1,.var 2]),.ret (.call "cells_by_rows" [.var 1,.var 2])]⟩
noncomputable def bV:a7:=⟨3,6,[.expr (.call "ask_size" [.var 1,.var 2]),.set (.nm 3) (.lst false []),.for_ (.nm 4) "range" [.var 1] [.set (.nm 5) (.comp true (.tup [.var 1,.var 0]) (.nm 0) "range" [.var 2] none 1 [4]),.expr (.lm "extend" (.var 3) [.ite (.cmp .eq (.bin true .mod (.var 4) (.cI 2)) (.cI 1)) (.nE true (.var 5)) (.var 5)])],.ret (.var 3)]⟩
noncomputable def bD:a7:=⟨3,3,[.expr (.call "ask_size" [.var 1,.var 2]),.ret (.comp false (.tup [.var 1,.var 0]) (.tp [.nm 0,.nm 1]) "seq" [.eZ (.call "cells_by_rows" [.var 2,.var 1])] none 2 [])]⟩
noncomputable def bC:a7:=⟨3,4,[.expr (.call "ask_size" [.var 1,.var 2]),.set (.nm 3) (.cI 1),.while_ (.or [.cmp .lt (.var 3) (.var 1),.cmp .lt (.var 3) (.var 2)]) [.set (.nm 3) (.bin true .mul (.cI 2) (.var 3))],.ret (.comp false (.tup [.var 0,.var 1]) (.tp [.nm 0,.nm 1]) "seq" [.call "folded_cells" [.var 3]] (some (.and [.cmp .lt (.var 0) (.var 2),.cmp .lt (.var 1) (.var 3)])) 2 [1,2])]⟩
noncomputable def bf:a7:=⟨3,3,[.gy (.var 0) "way" (.var 1),.gy (.var 0) "mask" (.CV (.comp false (.tup [.var 0,.cB true]) (.nm 0) "seq" [.var 2] none 1 []))]⟩
noncomputable def bB:a7:=⟨3,6,[.set (.nm 3) (.call "ways_within" [.var 0]),.set (.nm 4) (.nN),.for_ (.nm 5) "seq" [.slice true (.var 3) none (some (.neg (.cI 1)))] [.expr (.nL (.var 4) (.fld (.var 5) "mask"))],.ret (.comp false (.var 0) (.nm 0) "seq" [.eZ (.kA (.sub (.var 3) (.neg (.cI 1))) "order" [.var 1,.var 2])] (some (.nM (.var 0) (.var 1))) 1 [4])]⟩
noncomputable def cg:a7:=⟨1,2,[.set (.nm 1) (.lst false [.var 0]),.while_ (.kC (.sub (.var 1) (.neg (.cI 1))) "MaskedWay") [.expr (.lm "append" (.var 1) [.fld (.sub (.var 1) (.neg (.cI 1))) "way"])],.ret (.eZ (.var 1))]⟩
noncomputable def bU:a7:=⟨1,3,[.set (.nm 1) (.lst true [.tup [.cI 0,.cI 0]]),.set (.nm 2) (.cI 1),.while_ (.cmp .lt (.var 2) (.var 0)) [.set (.nm 1) (.call "folded_once" [.var 1,.var 2]),.set (.nm 2) (.bin true .mul (.cI 2) (.var 2))],.ret (.var 1)]⟩
noncomputable def cj:a7:=⟨2,6,[.set (.nm 2) (.comp true (.tup [.var 1,.var 0]) (.tp [.nm 0,.nm 1]) "seq" [.var 0] none 2 []),.set (.nm 3) (.comp true (.tup [.bin true .add (.var 2) (.var 0),.var 1]) (.tp [.nm 0,.nm 1]) "seq" [.var 0] none 2 [1]),.set (.nm 4) (.comp true (.tup [.bin true .add (.var 2) (.var 0),.bin true .add (.var 2) (.var 1)]) (.tp [.nm 0,.nm 1]) "seq" [.var 0] none 2 [1]),.set (.nm 5) (.comp true (.tup [.bin true .sub (.bin true .sub (.var 2) (.cI 1)) (.var 1),.bin true .sub (.bin true .sub (.bin true .mul (.cI 2) (.var 2)) (.cI 1)) (.var 0)]) (.tp [.nm 0,.nm 1]) "seq" [.var 0] none 2 [1]),.ret (.bin true .add (.bin true .add (.bin true .add (.var 2) (.var 3)) (.var 4)) (.var 5))]⟩
noncomputable def qJ:a7:=⟨2,4,[.eG (.var 1) (.cI 0) (.bin true .add (.sub (.var 1) (.cI 0)) (.cI 1)),.set (.nm 2) (.ite (.cmp .gt (.blt true "len" [.var 0]) (.cI 0)) (.sub (.var 0) (.bin true .mod (.sub (.var 1) (.cI 0)) (.blt true "len" [.var 0]))) (.cI 0)),.set (.nm 3) (.bin true .mod (.bin true .mul (.bin true .add (.bin true .add (.bin true .mod (.var 2) (.cI 2147483647)) (.bin true .mul (.bin true .mul (.sub (.var 1) (.cI 0)) (.sub (.var 1) (.cI 0))) (.cI 7919))) (.cI 11)) (.cI 48271)) (.cI 2147483647)),.ret (.bin true .mod (.bin true .mul (.var 3) (.var 3)) (.cI 1999999973))]⟩
noncomputable def cW:a7:=⟨3,5,[.set (.nm 3) (.call "_law_next" [.var 0,.var 1]),.set (.nm 4) (.ite (.cmp .gt (.blt true "len" [.var 0]) (.cI 0)) (.sub (.var 0) (.bin true .mod (.sub (.var 1) (.cI 0)) (.blt true "len" [.var 0]))) (.cI 0)),.ite (.cmp .gt (.bin true .mod (.var 3) (.cI 5)) (.cI 0)) [.ret (.bin true .mod (.bin true .fdiv (.var 3) (.cI 5)) (.var 2))] [],.ret (.bin true .mod (.bin true .add (.bin true .mod (.var 4) (.bin true .pow (.cI 10) (.cI 25))) (.bin true .mul (.var 3) (.bin true .pow (.cI 10) (.cI 14)))) (.bin true .pow (.cI 10) (.cI 25)))]⟩
noncomputable def cq:a7:=⟨5,11,[.set (.nm 5) (.call "_law_next" [.var 0,.var 1]),.set (.nm 6) (.lst true [.cI 0,.var 2,.bin true .fdiv (.var 2) (.cI 2),.bin true .mod (.bin true .fdiv (.var 5) (.cI 3)) (.bin true .add (.var 2) (.cI 1))]),.set (.nm 7) (.lst false []),.for_ (.nm 8) "range" [.var 3] [.set (.nm 9) (.lst false []),.for_ (.nm 10) "range" [.var 4] [.ite (.cmp .eq (.bin true .mod (.var 5) (.cI 3)) (.cI 0)) [.expr (.lm "append" (.var 9) [.sub (.var 6) (.cI 3)])] [.ite (.cmp .eq (.bin true .mod (.var 5) (.cI 3)) (.cI 1)) [.expr (.lm "append" (.var 9) [.sub (.var 6) (.bin true .mod (.call "_law_next" [.var 0,.var 1]) (.cI 4))])] [.expr (.lm "append" (.var 9) [.bin true .mod (.bin true .add (.bin true .mul (.call "_law_next" [.var 0,.var 1]) (.cI 7919)) (.var 5)) (.bin true .add (.var 2) (.cI 1))])]]],.expr (.lm "append" (.var 7) [.var 9])],.ret (.var 7)]⟩
noncomputable def cH:a7:=⟨2,2,[.ite (.or [.kC (.var 1) "list",.kC (.var 1) "tuple"]) [.ite (.or [.cmp .ne (.kC (.var 0) "list") (.kC (.var 1) "list"),.cmp .ne (.kC (.var 0) "tuple") (.kC (.var 1) "tuple")]) [.ret (.cB false)] [],.ret (.and [.cmp .eq (.blt true "len" [.var 0]) (.blt true "len" [.var 1]),.blt true "all" [.comp true (.call "_law_same" [.var 0,.var 1]) (.tp [.nm 0,.nm 1]) "zip" [.var 0,.var 1] none 2 []]])] [],.ite (.xV (.var 1)) [.ret (.xV (.var 0))] [],.ite (.kC (.var 1) "str") [.ret (.and [.kC (.var 0) "str",.cmp .eq (.var 0) (.var 1)])] [],.ret (.and [.kC (.var 0) "int",.not (.kC (.var 0) "bool"),.cmp .eq (.var 0) (.var 1)])]⟩
noncomputable def dk:a7:=⟨2,3,[.set (.nm 2) (.call "_law_next" [.var 0,.var 1]),.ret (.sub (.lst true [.cI 1,.cI 2,.cI 3,.cI 255,.cI 9,.bin true .add (.cI 1) (.bin true .mod (.bin true .fdiv (.var 2) (.cI 7)) (.cI 40)),.bin true .add (.bin true .add (.cI 1) (.call "_law_great" [.var 0,.var 1,.cI 999])) (.bin true .pow (.cI 10) (.cI 24))]) (.bin true .mod (.var 2) (.cI 7)))]⟩
noncomputable def dm:a7:=⟨3,7,[.set (.nm 3) (.call "_law_next" [.var 0,.var 1]),.set (.nm 4) (.iy (.cI 0) (.var 2)),.for_ (.nm 5) "range" [.bin true .mod (.var 3) (.cI 5)] [.set (.nm 6) (.call "_law_next" [.var 0,.var 1]),.nG (.var 4) (.sub (.lst true [.bin true .mod (.bin true .mul (.var 6) (.cI 7919)) (.bin true .add (.var 2) (.cI 1)),.bin true .fdiv (.var 2) (.cI 2),.bin true .fdiv (.var 2) (.bin true .add (.var 5) (.cI 2))]) (.bin true .mod (.var 6) (.cI 3)))],.ret (.eZ (.jZ (.var 4)))]⟩
noncomputable def ck:a7:=⟨2,5,[.set (.nm 2) (.call "_law_next" [.var 0,.var 1]),.set (.nm 3) (.lst false []),.for_ (.nm 4) "range" [.sub (.lst true [.cI 1,.cI 2,.cI 3,.cI 4,.cI 2,.cI 6]) (.bin true .mod (.var 2) (.cI 6))] [.ite (.cmp .eq (.bin true .mod (.bin true .fdiv (.var 2) (.cI 6)) (.cI 5)) (.cI 0)) [.expr (.lm "append" (.var 3) [.call "_law_great" [.var 0,.var 1,.cI 9]])] [.expr (.lm "append" (.var 3) [.sub (.lst true [.cI 7,.cI 3,.cI 5,.cI 1,.cI 0,.cI 2,.cI 16]) (.bin true .mod (.bin true .add (.bin true .add (.bin true .fdiv (.var 2) (.cI 30)) (.bin true .mul (.var 4) (.var 4))) (.var 4)) (.cI 7))])]],.ite (.cmp .eq (.blt true "sum" [.var 3]) (.cI 0)) [.eG (.var 3) (.bin true .mod (.bin true .fdiv (.var 2) (.cI 500)) (.blt true "len" [.var 3])) (.bin true .add (.cI 1) (.bin true .mod (.bin true .fdiv (.var 2) (.cI 5000)) (.cI 4)))] [],.ret (.eZ (.var 3))]⟩
noncomputable def cG:a7:=⟨3,6,[.set (.nm 3) (.call "_law_next" [.var 0,.var 1]),.set (.nm 4) (.sub (.lst true [.cI 1,.cI 2,.cI 3,.cI 5,.cI 8,.bin true .add (.cI 1) (.bin true .mod (.bin true .fdiv (.var 3) (.cI 6)) (.cI 12))]) (.bin true .mod (.var 3) (.cI 6))),.set (.nm 5) (.bin true .add (.cI 1) (.bin true .mod (.bin true .fdiv (.var 3) (.cI 100)) (.blt true "max" [.cI 1,.bin true .fdiv (.var 2) (.var 4)]))),.ite (.cmp .eq (.bin true .mod (.bin true .fdiv (.var 3) (.cI 7000)) (.cI 2)) (.cI 0)) [.ret (.tup [.var 5,.var 4])] [],.ret (.tup [.var 4,.var 5])]⟩
noncomputable def aQ:a7:=⟨3,8,[.set (.nm 3) (.call "_law_next" [.var 0,.var 1]),.set (.nm 4) (.sub (.lst true [.make true "Way" [],.make true "FroWay" [],.make true "ColumnWay" [],.make true "FoldedWay" []]) (.bin true .mod (.var 3) (.cI 4))),.ite (.and [.cmp .eq (.bin true .mod (.var 3) (.cI 4)) (.cI 3),.cmp .gt (.blt true "max" [.var 2]) (.cI 16)]) [.set (.nm 4) (.make true "FroWay" [])] [],.ite (.cmp .gt (.bin true .mod (.bin true .fdiv (.var 3) (.cI 4)) (.cI 3)) (.cI 0)) [.ret (.var 4)] [],.set (.nm 5) (.lst false []),.for_ (.nm 6) "range" [.bin true .mod (.bin true .fdiv (.var 3) (.cI 12)) (.cI 7)] [.set (.nm 7) (.call "_law_next" [.var 0,.var 1]),.expr (.lm "append" (.var 5) [.tup [.bin true .mod (.var 7) (.bin true .add (.sub (.var 2) (.cI 0)) (.cI 1)),.bin true .mod (.bin true .fdiv (.var 7) (.cI 50)) (.sub (.var 2) (.cI 1))]])],.ite (.cmp .eq (.bin true .mod (.bin true .fdiv (.var 3) (.cI 100)) (.cI 9)) (.cI 0)) [.set (.nm 5) (.kA (.var 4) "order" [.sub (.var 2) (.cI 0),.sub (.var 2) (.cI 1)])] [],.ret (.make true "MaskedWay" [.var 4,.eZ (.var 5)])]⟩
noncomputable def dr:a7:=⟨2,6,[.set (.tp [.nm 2,.nm 3,.nm 4]) (.call "_law_plain_case" [.var 0,.var 1]),.set (.nm 5) (.call "_law_way" [.var 0,.var 1,.tup [.blt true "len" [.var 3],.blt true "len" [.sub (.var 3) (.cI 0)]]]),.ret (.tup [.var 2,.var 3,.var 5,.call "_law_shares" [.var 0,.var 1],.var 4])]⟩
noncomputable def dX:a7:=⟨2,4,[.set (.nm 2) (.sub (.var 0) (.cI 0)),.for_ (.nm 3) "seq" [.slice true (.var 0) (some (.cI 1)) none] [.ite (.cmp .lt (.blt true "abs" [.bin true .sub (.var 1) (.var 3)]) (.blt true "abs" [.bin true .sub (.var 1) (.var 2)])) [.set (.nm 2) (.var 3)] []],.ret (.var 2)]⟩
noncomputable def cu:a7:=⟨4,13,[.set (.nm 4) (.lst false []),.set (.nm 5) (.lst false []),.set (.nm 6) (.cI 0),.for_ (.nm 7) "seq" [.var 1] [.set (.nm 8) (.var 6),.for_ (.nm 9) "range" [.blt true "min" [.blt true "len" [.var 2],.blt true "len" [.var 5]]] [.set (.nm 8) (.bin true .add (.var 8) (.bin true .mul (.sub (.var 2) (.var 9)) (.sub (.var 5) (.bin true .sub (.bin true .sub (.blt true "len" [.var 5]) (.cI 1)) (.var 9)))))],.set (.nm 10) (.bin true .fdiv (.var 8) (.blt true "sum" [.var 2])),.set (.nm 6) (.bin true .sub (.var 8) (.bin true .mul (.var 10) (.blt true "sum" [.var 2]))),.set (.nm 11) (.bin true .add (.sub (.sub (.var 0) (.sub (.var 7) (.cI 0))) (.sub (.var 7) (.cI 1))) (.var 10)),.set (.nm 12) (.call "_law_ink" [.var 3,.var 11]),.expr (.lm "append" (.var 5) [.bin true .sub (.var 11) (.var 12)]),.expr (.lm "append" (.var 4) [.tup [.var 7,.var 10,.var 12,.bin true .sub (.var 11) (.var 12),.var 6]])],.ret (.eZ (.var 4))]⟩
noncomputable def dn:a7:=⟨2,8,[.set (.nm 2) (.comp false (.comp false (.cI 0) (.nm 0) "seq" [.var 0] none 1 []) (.nm 0) "seq" [.var 0] none 1 []),.for_ (.tp [.nm 3,.nm 4,.nm 5,.nm 6,.nm 7]) "seq" [.var 1] [.eG (.sub (.var 2) (.sub (.var 3) (.cI 0))) (.sub (.var 3) (.cI 1)) (.var 5)],.ret (.blt true "tuple" [.comp true (.blt true "tuple" [.var 0]) (.nm 0) "seq" [.var 2] none 1 []])]⟩
noncomputable def bA:a7:=⟨2,10,[.set (.nm 2) (.call "_law_most" [.var 0,.var 1]),.set (.nm 3) (.call "_law_size" [.var 0,.var 1,.cI 60]),.set (.nm 4) (.call "_law_shades" [.var 0,.var 1,.var 2,.sub (.var 3) (.cI 0),.sub (.var 3) (.cI 1)]),.set (.nm 5) (.call "_law_inks" [.var 0,.var 1,.var 2]),.for_ (.nm 6) "range" [.bin true .mod (.call "_law_next" [.var 0,.var 1]) (.cI 6)] [.set (.nm 7) (.call "_law_next" [.var 0,.var 1]),.set (.nm 8) (.bin true .mod (.var 7) (.bin true .sub (.blt true "len" [.var 5]) (.cI 1))),.set (.nm 9) (.bin true .sub (.bin true .add (.bin true .fdiv (.bin true .add (.sub (.var 5) (.var 8)) (.sub (.var 5) (.bin true .add (.var 8) (.cI 1)))) (.cI 2)) (.bin true .mod (.bin true .fdiv (.var 7) (.cI 100)) (.cI 3))) (.cI 1)),.eG (.sub (.var 4) (.bin true .mod (.bin true .fdiv (.var 7) (.cI 300)) (.sub (.var 3) (.cI 0)))) (.bin true .mod (.bin true .fdiv (.var 7) (.cI 20000)) (.sub (.var 3) (.cI 1))) (.blt true "max" [.cI 0,.blt true "min" [.var 2,.var 9]])],.ret (.tup [.var 2,.eZ (.var 4),.var 5])]⟩
noncomputable def i8:a7:=⟨1,14,[.set (.nm 1) (.lst false [.cI 0]),.set (.tp [.nm 2,.nm 3,.nm 4,.nm 5,.nm 6]) (.call "_law_case" [.var 0,.var 1]),.set (.nm 7) (.make true "Picture" [.var 2,.var 3]),.set (.nm 8) (.call "_law_ledger" [.var 3,.eZ (.kA (.var 4) "order" [.blt true "len" [.var 3],.blt true "len" [.sub (.var 3) (.cI 0)]]),.var 5,.var 6]),.par 9 10 (.blt false "list" [.var 5]) (.blt false "list" [.var 6]),.set (.nm 11) (.call "handed" [.var 7,.var 4,.var 9,.var 10]),.for_ (.nm 12) "range" [.cI 2] [.set (.nm 13) (.call "ledger" [.var 7,.var 4,.var 9,.var 10]),.ite (.or [.not (.call "_law_same" [.var 13,.var 8]),.cmp .ne (.var 9) (.var 5),.cmp .ne (.var 10) (.var 6)]) [.ret (.cB false)] [],.expr (.lm "append" (.var 13) [.tup [.tup [.cI 0,.cI 0],.cI 0,.cI 0,.cI 0,.cI 0]]),.expr (.lm "reverse" (.var 13) [])],.expr (.lm "append" (.var 9) [.cI 5]),.expr (.lm "clear" (.var 10) []),.ite (.not (.call "_law_same" [.eZ (.call "ledger" [.var 7,.var 4,.blt true "tuple" [.var 5],.blt true "tuple" [.var 6]]),.var 8])) [.ret (.cB false)] [],.ite (.cmp .ne (.fld (.call "handed" [.var 7,.var 4,.blt true "tuple" [.var 5],.blt true "tuple" [.var 6]]) "rows") (.fld (.var 11) "rows")) [.ret (.cB false)] [],.ite (.or [.not (.kC (.var 11) "Picture"),.not (.call "_law_same" [.fld (.var 11) "most",.var 2])]) [.ret (.cB false)] [],.ret (.and [.call "_law_same" [.fld (.var 11) "rows",.call "_law_dots" [.var 3,.var 8]],.cmp .eq (.fld (.var 7) "rows") (.blt true "tuple" [.comp true (.blt true "tuple" [.var 0]) (.nm 0) "seq" [.var 3] none 1 []])])]⟩
noncomputable def oO:List (String×a7):=[("own_rows",ZV),("fault_of",yX),("cells_by_rows",bQ),("Picture.__init__",qp),("high",DE),("wide",DK),("size_of",eV),("has_cell",YW),("ask_cell",QH),("shade_at",dQ),("ask_size",dU),("with_shades",YA),("laid_out",dR),("ask_inks",dW),("ask_rising",cV),("ask_shares",cU),("handed",fN),("dots_of",eW),("ledger",fM),("entry_behind",a6),("entry_of",dS),("nearest_ink",df),("Way.order",dt),("FroWay.order",bV),("ColumnWay.order",bD),("FoldedWay.order",bC),("MaskedWay.__init__",bf),("MaskedWay.order",bB),("ways_within",cg),("folded_cells",bU),("folded_once",cj),("_law_next",qJ),("_law_great",cW),("_law_shades",cq),("_law_same",cH),("_law_most",dk),("_law_inks",dm),("_law_shares",ck),("_law_size",cG),("_law_way",aQ),("_law_case",dr),("_law_ink",dX),("_law_ledger",cu),("_law_dots",dn),("_law_plain_case",bA),("law",i8)]
noncomputable def prog:Prog where
 defs:=λf=>oO.lookup f
 dE:=λx=>match x with
  |"LEFT"=>some (.int 3)
  |"ODD"=>some (.int 4)
  |_=>none
 meths:=λc m=>match c,m with
  |"Picture","__init__"=>some "Picture.__init__"
  |"Way","order"=>some "Way.order"
  |"FroWay","order"=>some "FroWay.order"
  |"ColumnWay","order"=>some "ColumnWay.order"
  |"FoldedWay","order"=>some "FoldedWay.order"
  |"MaskedWay","__init__"=>some "MaskedWay.__init__"
  |"MaskedWay","order"=>some "MaskedWay.order"
  |_,_=>none
 subs:=λc d=>match c,d with
  |"Picture","Picture"=>some true
  |"Picture","MaskedWay"=>some false
  |"Way","Picture"=>some false
  |"Way","MaskedWay"=>some false
  |"FroWay","Picture"=>some false
  |"FroWay","MaskedWay"=>some false
  |"ColumnWay","Picture"=>some false
  |"ColumnWay","MaskedWay"=>some false
  |"FoldedWay","Picture"=>some false
  |"FoldedWay","MaskedWay"=>some false
  |"MaskedWay","Picture"=>some false
  |"MaskedWay","MaskedWay"=>some true
  |_,_=>none
 iw:=λc n=>match c,n with
  |"Picture","most"=>true
  |"Picture","rows"=>true
  |"MaskedWay","way"=>true
  |"MaskedWay","mask"=>true
  |_,_=>false
 mB:=λc=>match c with
  |"Way"=>true
  |"FroWay"=>true
  |"ColumnWay"=>true
  |"FoldedWay"=>true
  |_=>false
 word:=λw c=>match w,c with
  |_,_=>none
 words:=λw=>match w with
  |_=>false
 kD:=λc=>match c with
  |_=>false
 turns:=1000000
@[simp] theorem QcQ:prog.defs "own_rows"=some ZV:=rfl
@[simp] theorem QcK:prog.defs "fault_of"=some yX:=rfl
@[simp] theorem Zas:prog.defs "cells_by_rows"=some bQ:=rfl
@[simp] theorem ybC:prog.defs "Picture.__init__"=some qp:=rfl
@[simp] theorem vX:prog.defs "high"=some DE:=rfl
@[simp] theorem vW:prog.defs "wide"=some DK:=rfl
@[simp] theorem ZbB:prog.defs "size_of"=some eV:=rfl
@[simp] theorem ycZ:prog.defs "has_cell"=some YW:=rfl
@[simp] theorem zcQ:prog.defs "ask_cell"=some QH:=rfl
@[simp] theorem ybg:prog.defs "shade_at"=some dQ:=rfl
@[simp] theorem Zbp:prog.defs "ask_size"=some dU:=rfl
@[simp] theorem ZaH:prog.defs "with_shades"=some YA:=rfl
@[simp] theorem zbf:prog.defs "laid_out"=some dR:=rfl
@[simp] theorem Zbk:prog.defs "ask_inks"=some dW:=rfl
@[simp] theorem ya2:prog.defs "ask_rising"=some cV:=rfl
@[simp] theorem qa2:prog.defs "ask_shares"=some cU:=rfl
@[simp] theorem qbN:prog.defs "handed"=some fN:=rfl
@[simp] theorem YbD:prog.defs "dots_of"=some eW:=rfl
@[simp] theorem QbM:prog.defs "ledger"=some fM:=rfl
@[simp] theorem yaB:prog.defs "entry_behind"=some a6:=rfl
@[simp] theorem Qbj:prog.defs "entry_of"=some dS:=rfl
@[simp] theorem QaK:prog.defs "nearest_ink"=some df:=rfl
@[simp] theorem Za6:prog.defs "Way.order"=some dt:=rfl
@[simp] theorem QaD:prog.defs "FroWay.order"=some bV:=rfl
@[simp] theorem qag:prog.defs "ColumnWay.order"=some bD:=rfl
@[simp] theorem Zag:prog.defs "FoldedWay.order"=some bC:=rfl
@[simp] theorem zT:prog.defs "MaskedWay.__init__"=some bf:=rfl
@[simp] theorem zag:prog.defs "MaskedWay.order"=some bB:=rfl
@[simp] theorem yaH:prog.defs "ways_within"=some cg:=rfl
@[simp] theorem Zay:prog.defs "folded_cells"=some bU:=rfl
@[simp] theorem YaJ:prog.defs "folded_once"=some cj:=rfl
@[simp] theorem za6:prog.defs "_law_next"=some qJ:=rfl
@[simp] theorem qaP:prog.defs "_law_great"=some cW:=rfl
@[simp] theorem YaI:prog.defs "_law_shades"=some cq:=rfl
@[simp] theorem Ya4:prog.defs "_law_same"=some cH:=rfl
@[simp] theorem qa4:prog.defs "_law_most"=some dk:=rfl
@[simp] theorem Za4:prog.defs "_law_inks"=some dm:=rfl
@[simp] theorem qaI:prog.defs "_law_shares"=some ck:=rfl
@[simp] theorem Za7:prog.defs "_law_size"=some cG:=rfl
@[simp] theorem Ybs:prog.defs "_law_way"=some aQ:=rfl
@[simp] theorem za5:prog.defs "_law_case"=some dr:=rfl
@[simp] theorem qbm:prog.defs "_law_ink"=some dX:=rfl
@[simp] theorem zaH:prog.defs "_law_ledger"=some cu:=rfl
@[simp] theorem Qa5:prog.defs "_law_dots"=some dn:=rfl
@[simp] theorem zah:prog.defs "_law_plain_case"=some bA:=rfl
@[simp] theorem ycU:prog.defs "law"=some i8:=rfl
@[simp] theorem qcG:prog.iw "Picture" "most"=true:=rfl
@[simp] theorem zcG:prog.iw "Picture" "rows"=true:=rfl
@[simp] theorem zb2:prog.subs "Picture" "Picture"=some true:=rfl
@[simp] theorem YbG:prog.subs "Picture" "MaskedWay"=some false:=rfl
@[simp] theorem zcH:prog.subs "Way" "Picture"=some false:=rfl
@[simp] theorem Zci:prog.subs "Way" "MaskedWay"=some false:=rfl
@[simp] theorem yb5:prog.subs "FroWay" "Picture"=some false:=rfl
@[simp] theorem QbT:prog.subs "FroWay" "MaskedWay"=some false:=rfl
@[simp] theorem zbG:prog.subs "ColumnWay" "Picture"=some false:=rfl
@[simp] theorem qbu:prog.subs "ColumnWay" "MaskedWay"=some false:=rfl
@[simp] theorem ZbG:prog.subs "FoldedWay" "Picture"=some false:=rfl
@[simp] theorem Qbu:prog.subs "FoldedWay" "MaskedWay"=some false:=rfl
@[simp] theorem yci:prog.iw "MaskedWay" "way"=true:=rfl
@[simp] theorem qcf:prog.iw "MaskedWay" "mask"=true:=rfl
@[simp] theorem ybG:prog.subs "MaskedWay" "Picture"=some false:=rfl
@[simp] theorem Ybu:prog.subs "MaskedWay" "MaskedWay"=some true:=rfl
@[simp] theorem QbU:prog.meths "Picture" "__init__"=some "Picture.__init__":=rfl
@[simp] theorem zc5:prog.meths "Way" "order"=some "Way.order":=rfl
@[simp] theorem zcr:prog.meths "FroWay" "order"=some "FroWay.order":=rfl
@[simp] theorem zbY:prog.meths "ColumnWay" "order"=some "ColumnWay.order":=rfl
@[simp] theorem Zb0:prog.meths "FoldedWay" "order"=some "FoldedWay.order":=rfl
@[simp] theorem qbB:prog.meths "MaskedWay" "__init__"=some "MaskedWay.__init__":=rfl
@[simp] theorem zb3:prog.meths "MaskedWay" "order"=some "MaskedWay.order":=rfl
@[simp] theorem Iz:prog.dE "LEFT"=some (.int 3):=rfl
@[simp] theorem Nr:prog.dE "ODD"=some (.int 4):=rfl
theorem Zb(n:Nat)(f:String)(as:List MV)(h:MH):run prog (n+1) f as h=opt (prog.defs f) λd=>if as.length=d.np then yb h (Qa prog (run prog n) d.body (as.map some++Vc (d.ns-d.np) none) h) else .stuck:=rfl
theorem zaw(n:Nat)(a0 a1:MV)(h:MH):run prog (n+1) "cells_by_rows" [a0,a1] h=yb h (Qa prog (run prog n) bQ.body [some a0,some a1,none,none] h):=by rw[Zb,Zas];rfl
theorem Qbv(n:Nat)(a0:MV)(h:MH):run prog (n+1) "size_of" [a0] h=yb h (Qa prog (run prog n) eV.body [some a0] h):=by rw[Zb,ZbB];rfl
theorem Ybl(n:Nat)(a0 a1:MV)(h:MH):run prog (n+1) "shade_at" [a0,a1] h=yb h (Qa prog (run prog n) dQ.body [some a0,some a1] h):=by rw[Zb,ybg];rfl
theorem Ybe(n:Nat)(a0 a1:MV)(h:MH):run prog (n+1) "ask_size" [a0,a1] h=yb h (Qa prog (run prog n) dU.body [some a0,some a1] h):=by rw[Zb,Zbp];rfl
theorem zbj(n:Nat)(a0 a1 a2:MV)(h:MH):run prog (n+1) "laid_out" [a0,a1,a2] h=yb h (Qa prog (run prog n) dR.body [some a0,some a1,some a2] h):=by rw[Zb,zbf];rfl
theorem ybp(n:Nat)(a0 a1:MV)(h:MH):run prog (n+1) "ask_inks" [a0,a1] h=yb h (Qa prog (run prog n) dW.body [some a0,some a1] h):=by rw[Zb,Zbk];rfl
theorem ZaT(n:Nat)(a0:MV)(h:MH):run prog (n+1) "ask_rising" [a0] h=yb h (Qa prog (run prog n) cV.body [some a0,none,none] h):=by rw[Zb,ya2];rfl
theorem zaZ(n:Nat)(a0:MV)(h:MH):run prog (n+1) "ask_shares" [a0] h=yb h (Qa prog (run prog n) cU.body [some a0] h):=by rw[Zb,qa2];rfl
theorem ybR(n:Nat)(a0 a1 a2 a3:MV)(h:MH):run prog (n+1) "handed" [a0,a1,a2,a3] h=yb h (Qa prog (run prog n) fN.body [some a0,some a1,some a2,some a3] h):=by rw[Zb,qbN];rfl
theorem Ybv(n:Nat)(a0 a1:MV)(h:MH):run prog (n+1) "dots_of" [a0,a1] h=yb h (Qa prog (run prog n) eW.body [some a0,some a1] h):=by rw[Zb,YbD];rfl
theorem YbH(n:Nat)(a0 a1 a2 a3:MV)(h:MH):run prog (n+1) "ledger" [a0,a1,a2,a3] h=yb h (Qa prog (run prog n) fM.body [some a0,some a1,some a2,some a3,none,none,none] h):=by rw[Zb,QbM];rfl
theorem zaB(n:Nat)(a0 a1 a2 a3 a4:MV)(h:MH):run prog (n+1) "entry_behind" [a0,a1,a2,a3,a4] h=yb h (Qa prog (run prog n) a6.body [some a0,some a1,some a2,some a3,some a4,none,none,none] h):=by rw[Zb,yaB];rfl
theorem qbl(n:Nat)(a0 a1 a2 a3 a4:MV)(h:MH):run prog (n+1) "entry_of" [a0,a1,a2,a3,a4] h=yb h (Qa prog (run prog n) dS.body [some a0,some a1,some a2,some a3,some a4,none,none] h):=by rw[Zb,Qbj];rfl
theorem qaH(n:Nat)(a0 a1:MV)(h:MH):run prog (n+1) "nearest_ink" [a0,a1] h=yb h (Qa prog (run prog n) df.body [some a0,some a1] h):=by rw[Zb,QaK];rfl
theorem Qa3(n:Nat)(a0 a1 a2:MV)(h:MH):run prog (n+1) "Way.order" [a0,a1,a2] h=yb h (Qa prog (run prog n) dt.body [some a0,some a1,some a2] h):=by rw[Zb,Za6];rfl
theorem zaz(n:Nat)(a0 a1 a2:MV)(h:MH):run prog (n+1) "FroWay.order" [a0,a1,a2] h=yb h (Qa prog (run prog n) bV.body [some a0,some a1,some a2,none,none,none] h):=by rw[Zb,QaD];rfl
theorem Qag(n:Nat)(a0 a1 a2:MV)(h:MH):run prog (n+1) "ColumnWay.order" [a0,a1,a2] h=yb h (Qa prog (run prog n) bD.body [some a0,some a1,some a2] h):=by rw[Zb,qag];rfl
theorem Yag(n:Nat)(a0 a1 a2:MV)(h:MH):run prog (n+1) "FoldedWay.order" [a0,a1,a2] h=yb h (Qa prog (run prog n) bC.body [some a0,some a1,some a2,none] h):=by rw[Zb,Zag];rfl
theorem YX(n:Nat)(a0 a1 a2:MV)(h:MH):run prog (n+1) "MaskedWay.__init__" [a0,a1,a2] h=yb h (Qa prog (run prog n) bf.body [some a0,some a1,some a2] h):=by rw[Zb,zT];rfl
theorem yag(n:Nat)(a0 a1 a2:MV)(h:MH):run prog (n+1) "MaskedWay.order" [a0,a1,a2] h=yb h (Qa prog (run prog n) bB.body [some a0,some a1,some a2,none,none,none] h):=by rw[Zb,zag];rfl
theorem qaK(n:Nat)(a0:MV)(h:MH):run prog (n+1) "ways_within" [a0] h=yb h (Qa prog (run prog n) cg.body [some a0,none] h):=by rw[Zb,yaH];rfl
theorem YaD(n:Nat)(a0:MV)(h:MH):run prog (n+1) "folded_cells" [a0] h=yb h (Qa prog (run prog n) bU.body [some a0,none,none] h):=by rw[Zb,Zay];rfl
theorem QaJ(n:Nat)(a0 a1:MV)(h:MH):run prog (n+1) "folded_once" [a0,a1] h=yb h (Qa prog (run prog n) cj.body [some a0,some a1,none,none,none,none] h):=by rw[Zb,YaJ];rfl
theorem QaT(n:Nat)(a0 a1 a2:MV)(h:MH):run prog (n+1) "_law_great" [a0,a1,a2] h=yb h (Qa prog (run prog n) cW.body [some a0,some a1,some a2,none,none] h):=by rw[Zb,qaP];rfl
theorem yaJ(n:Nat)(a0 a1 a2 a3 a4:MV)(h:MH):run prog (n+1) "_law_shades" [a0,a1,a2,a3,a4] h=yb h (Qa prog (run prog n) cq.body [some a0,some a1,some a2,some a3,some a4,none,none,none,none,none,none] h):=by rw[Zb,YaI];rfl
theorem N2(n:Nat)(a0 a1:MV)(h:MH):run prog (n+1) "_law_same" [a0,a1] h=yb h (Qa prog (run prog n) cH.body [some a0,some a1] h):=by rw[Zb,Ya4];rfl
theorem ya5(n:Nat)(a0 a1:MV)(h:MH):run prog (n+1) "_law_most" [a0,a1] h=yb h (Qa prog (run prog n) dk.body [some a0,some a1,none] h):=by rw[Zb,qa4];rfl
theorem Ya7(n:Nat)(a0 a1 a2:MV)(h:MH):run prog (n+1) "_law_inks" [a0,a1,a2] h=yb h (Qa prog (run prog n) dm.body [some a0,some a1,some a2,none,none,none,none] h):=by rw[Zb,Za4];rfl
theorem zaI(n:Nat)(a0 a1:MV)(h:MH):run prog (n+1) "_law_shares" [a0,a1] h=yb h (Qa prog (run prog n) ck.body [some a0,some a1,none,none,none] h):=by rw[Zb,qaI];rfl
theorem N3(n:Nat)(a0 a1 a2:MV)(h:MH):run prog (n+1) "_law_size" [a0,a1,a2] h=yb h (Qa prog (run prog n) cG.body [some a0,some a1,some a2,none,none,none] h):=by rw[Zb,Za7];rfl
theorem Ybr(n:Nat)(a0 a1 a2:MV)(h:MH):run prog (n+1) "_law_way" [a0,a1,a2] h=yb h (Qa prog (run prog n) aQ.body [some a0,some a1,some a2,none,none,none,none,none] h):=by rw[Zb,Ybs];rfl
theorem Za8(n:Nat)(a0 a1:MV)(h:MH):run prog (n+1) "_law_case" [a0,a1] h=yb h (Qa prog (run prog n) dr.body [some a0,some a1,none,none,none,none] h):=by rw[Zb,za5];rfl
theorem zbi(n:Nat)(a0 a1:MV)(h:MH):run prog (n+1) "_law_ink" [a0,a1] h=yb h (Qa prog (run prog n) dX.body [some a0,some a1,none,none] h):=by rw[Zb,qbm];rfl
theorem ZaJ(n:Nat)(a0 a1 a2 a3:MV)(h:MH):run prog (n+1) "_law_ledger" [a0,a1,a2,a3] h=yb h (Qa prog (run prog n) cu.body [some a0,some a1,some a2,some a3,none,none,none,none,none,none,none,none,none] h):=by rw[Zb,zaH];rfl
theorem Qa4(n:Nat)(a0 a1:MV)(h:MH):run prog (n+1) "_law_dots" [a0,a1] h=yb h (Qa prog (run prog n) dn.body [some a0,some a1,none,none,none,none,none,none] h):=by rw[Zb,Qa5];rfl
theorem Qaf(n:Nat)(a0 a1:MV)(h:MH):run prog (n+1) "_law_plain_case" [a0,a1] h=yb h (Qa prog (run prog n) bA.body [some a0,some a1,none,none,none,none,none,none,none,none] h):=by rw[Zb,zah];rfl
theorem ycM(n:Nat)(a0:MV)(h:MH):run prog (n+1) "law" [a0] h=yb h (Qa prog (run prog n) i8.body [some a0,none,none,none,none,none,none,none,none,none,none,none,none,none] h):=by rw[Zb,ycU];rfl
noncomputable def ya(b:Bool)(r:List Int):FV:=sq b (r.map .int)
noncomputable def Qb(b1 b2:Bool)(rows:List (List Int)):FV:=sq b1 (rows.map (ya b2))
noncomputable def Qj(most:Int)(rows:List (List Int)):FV:=.obj "Picture" ["most","rows"] [.int most,Qb true true rows]
structure Good (most:Int) (rows:List (List Int)):Prop where
 m1:1<=most
 ne:rows≠[]
 len:∃ n:Nat,0<n/\∀ r∈rows,r.length=n
 sh:∀ r∈rows,∀ v∈r,0<=v/\v<=most
 sz:rows.length<=1000
theorem Yd:aG=4194304:=rfl
section
variable (h:MH)
theorem bJ.obj(c:String)(fs:List (String×FV))(ds:MH):bJ (h++[.obj c []]) (h++.obj c (fs.map λp=>(p.1,MV.f p.2))::ds):=by
 refine⟨by simp,λi d hi e=>?_⟩;by_cases hl:i<h.length
 ·rw[Ua hl] at e ⊢;exact .inl e
 ·have:i=h.length:=by simp at hi;lia
  subst this;simp at e;subst e;exact .inr ⟨fs,rfl⟩
end
noncomputable def Qu(rows:List (List Int))(i j:Nat)(v:Int):List (List Int):=rows.modify i (·.set j v)
noncomputable def qF(r:List Int):Cell:=.lst (r.map λi=>.f (.int i))
section
variable (h:MH)
theorem Mq(bd:MV->aF->MH->R (Option MV×aF))(e:List Int->MV)(hb:∀ r z h,∃ z',bd (e r) [z] h=.ok (some (.ref h.length),[z']) (h++[qF r])):∀(rows:List (List Int)) (acc:List MV) (z:Option MV) (h:MH),acc.length+rows.length<=aG ->
  Zi [] bd (rows.map e) acc [z] h=.ok (acc++(ud rows.length).map λi=>MV.ref (h.length+i)) (h++rows.map qF)
 |[],acc,z,h,_=>by simp[Zi]
 |r::rows,acc,z,h,hl=>by
  obtain⟨z',e1⟩:=hb r z h;simp only[Uc] at hl;have ih:=Mq bd e hb rows (acc++[.ref h.length]) z' (h++[qF r]) (by simp;lia);simp only[ub,Zi,ZC,true_and,e1,R.aJ,ih,Xg,Uc,Wj];rw[if_pos (by lia)]
  congr 1
  ·simp[Wv,vc];intro a _
   lia
  ·simp
noncomputable def own(h:MH)(rows:List (List Int)):MH:=h++(rows.map qF++[.lst ((ud rows.length).map λi=>MV.ref (h.length+i))])
theorem vI(rows:List (List Int)):yc (own h rows) (h.length+rows.length)=some ((ud rows.length).map λi=>MV.ref (h.length+i)):=by
 unfold own yc;rw[we (by lia),we (by simp)];simp
theorem By(rows:List (List Int))(i:Nat)(r:List Int)(e:rows[i]?=some r):yc (own h rows) (h.length+i)=some (r.map λi=>.f (.int i)):=by
 have hi:=(xa.mp e).1;unfold own yc;rw[we (by lia),Ua (by simp;lia)];simp[e,qF]
theorem Lq(rows:List (List Int))(i j:Nat)(r:List Int)(v:Int)(e:rows[i]?=some r):ye (own h rows) (h.length+i) ((r.map λi=>MV.f (.int i)).set j (I v))=own h (Qu rows i j v):=by
 have hi:=(xa.mp e).1;unfold own ye Qu;rw[wC _ _ (by lia),List.set_append_left _ _ (by simp;lia)]
 congr 2
 ·rw[show h.length+i-h.length=i by lia];apply Uh;intro k;rw[List.getElem?_set,Xb,Xb,UC];by_cases hk:i=k
  ·subst hk;simp[hi,e,qF,WA];rw[wb hi] at e;simp at e;rw[e]
  ·simp[hk]
 ·simp
theorem zcE(rows:List (List Int)):yJ (own h rows) (.ref (h.length+rows.length))=some (Qb false false rows):=by
 have hr:∀ m (xs:List Nat),(∀ i∈xs,i<rows.length)->(xs.map λi=>MV.ref (h.length+i)).mapM (yn (own h rows) (m+2))=some (xs.map λi=>ya false (rows.getD i [])):=by
  intro m xs
  induction xs with
  |nil=>intro _;rfl
  |cons x xs ih =>
   intro hx;have Hs:=hx x (by simp);have e:rows[x]?=some (rows.getD x []):=by simp[uh,Hs]
   have e1:yn (own h rows) (m+2) (.ref (h.length+x))=some (ya false (rows.getD x [])):=by
    simp only[yn,By h rows x _ e,xi];have:(xy (λi=>MV.f (FV.int i)) (rows.getD x []))=((rows.getD x []).map FV.int).map MV.f:=by simp
    rw[this,tG];rfl
   simp only[ub,xp,e1,ih λi hi=>hx i (by simp[hi])];rfl
 unfold yJ;simp only[yn,vI,xi];rw[hr 2 _ (by simp)];simp only[ug,Qb,sq,Option.some.injEq]
 congr 1
 apply Uh;intro k;by_cases hk:k<rows.length
 ·simp[hk,uh]
 ·simp[hk]
theorem Yb6(rows:List (List Int)):∀ a∈Qn (own h rows) 5 (.ref (h.length+rows.length)),h.length<=a:=by
 intro a ha;simp only[Qn,vI,Wm,ua,xm,ue,Xm] at ha
 rcases ha with rfl|⟨m,⟨i,hi,rfl⟩,ha⟩
 ·lia
 ·have e:rows[i]?=some (rows[i]):=by simp[hi]
  simp only[Qn,By h rows i _ e,Wm,ua,xm,ue] at ha
  rcases ha with rfl|⟨m,⟨i,_,rfl⟩,ha⟩
  ·lia
  ·simp[Qn] at ha
theorem ycP(rows:List (List Int)):∃ t',QL (.ref (h.length+rows.length)) (own h rows)=.ok (.f (Qb false false rows)) (h++t'):=by
 obtain⟨t',e⟩:=G5 h (rows.map qF++[.lst ((ud rows.length).map λi=>MV.ref (h.length+i))]) (Qn (own h rows) 5 (.ref (h.length+rows.length))) (Yb6 h rows);refine⟨t',?_⟩;unfold QL;rw[zcE,qc];unfold own at e ⊢;rw[e]
noncomputable abbrev Zv(p:Int×Int):FV:=.tup [.int p.1,.int p.2]
noncomputable abbrev oR(p:(Int×Int)×Int):FV:=.tup [Zv p.1,.int p.2]
noncomputable def ql(rows:List (List Int))(ps:List ((Int×Int)×Int)):List (List Int):=ps.foldl (λrows p=>Qu rows p.1.1.toNat p.1.2.toNat p.2) rows
noncomputable def BL(rows:List (List Int))(p:Int×Int):Prop:=0<=p.1/\p.1<rows.length/\0<=p.2/\∀ r∈rows,p.2<r.length
theorem yz(rows:List (List Int))(i j:Nat)(v:Int):(Qu rows i j v).length=rows.length:=by simp[Qu]
theorem Qz{rows:List (List Int)}{i j:Nat}{v:Int}{r:List Int}(hr:r∈Qu rows i j v):r∈rows\/∃ r0∈rows,r=r0.set j v:=by
 unfold Qu at hr;obtain⟨k,hk⟩:=vv.mp hr;rw[UC] at hk;cases e:rows[k]? with
 |none=>rw[e] at hk;simp at hk
 |some r0 =>
  rw[e] at hk;have jj:(if i=k then r0.set j v else r0)=r:=by simpa using hk
  have hm:=wf e;split at jj
  ·exact .inr ⟨r0,hm,jj.symm⟩
  ·exact .inl (jj ▸ hm)
theorem ZbT{most:Int}{rows:List (List Int)}{i j:Nat}{v:Int}(g:Good most rows)(h0:0<=v)(h1:v<=most):Good most (Qu rows i j v):=by
 obtain⟨m1,ne,⟨w,w0,hw⟩,sh,sz⟩:=g;refine⟨m1,λe=>ne (xo (by rw[<- yz rows i j v,e];rfl)),⟨w,w0,λr hr=>?_⟩,λr hr x hx=>?_,by rw[yz];exact sz⟩
 ·rcases Qz hr with hr|⟨r0,j7,rfl⟩
  ·exact hw r hr
  ·simp[hw r0 j7]
 ·rcases Qz hr with hr|⟨r0,j7,rfl⟩
  ·exact sh r hr x hx
  ·rcases wu hx with hx|hx
   ·exact sh r0 j7 x hx
   ·subst hx;exact⟨h0,h1⟩
theorem yb9{rows:List (List Int)}{i j:Nat}{v:Int}{p:Int×Int}(h:BL rows p):BL (Qu rows i j v) p:=by
 refine⟨h.1,by rw[yz];exact h.2.1,h.2.2.1,λr hr=>?_⟩
 rcases Qz hr with hr|⟨r0,j7,rfl⟩
 ·exact h.2.2.2 r hr
 ·simp;exact h.2.2.2 r0 j7
theorem KD{α β γ:Type}(F:β×γ->α->β×γ)(G:β->α->β)(Nm:∀ b a,(F b a).1=G b.1 a):∀(xs:List α)(z:β×γ),(xs.foldl F z).1=xs.foldl G z.1
 |[],z=>rfl
 |x::xs,z=>by rw[wj,wj,KD F G Nm xs,Nm]
end
@[simp] theorem Bd(xs:List MV)(t:MH):yc (.lst xs::t) 0=some xs:=rfl
@[simp] theorem qdb(xs ys:List MV)(t:MH):ye (.lst xs::t) 0 ys=.lst ys::t:=rfl
noncomputable def oY(ns:List Int)(k:Int):Int:=if ns=[] then 0 else ns.getD (k%ns.length).toNat 0
noncomputable def j3(ns:List Int)(k:Int):Int:=((oY ns k%2147483647+k*k*7919+11)*48271%2147483647)*((oY ns k%2147483647+k*k*7919+11)*48271%2147483647)%1999999973
theorem Yt(ns:List Int)(k:Int):0<=j3 ns k/\j3 ns k<1999999973:=⟨Wu _ (by decide),Vr _ (by decide)⟩
noncomputable abbrev atC(k:Int):Cell:=.lst [I k]
theorem qq{i j:Int}(h:j.natAbs<2^64):zK i j:=.inr (.inl h)
section
variable {h:MH}
@[simp] theorem qc7(a:Nat)(y:MV):kU "append" (.ref a) [y] h=opt (yc h a) λxs=>if xs.length<aG then .ok (.f .bG) (ye h a (xs++[y])) else .stuck:=rfl
@[simp] theorem qdq(a:Nat)(i:Int)(y:MV):kU "insert" (.ref a) [.f (.int i),y] h=opt (yc h a) λxs=>if xs.length<aG/\-(2^63)<=i/\i<2^63 then .ok (.f .bG) (ye h a (Lm xs i y)) else .stuck:=rfl
end
theorem qbJ{bd:MV->aF->MH->RS}(N:Nat)(Pv:Nat->aF->MH->Prop)(σ:aF)(h:MH)(h0:Pv 0 σ h)
  (step:∀ i σ h,i<N->Pv i σ h->∃ σ' h',bd (I i) σ h=.next σ' h'/\Pv (i+1) σ' h'):∃ σ' h',qL [] bd ((ud N).map λ(k:Nat)=>I k) σ h=.next σ' h'/\Pv N σ' h':=by
 have:=Kb (bd:=bd) (e:=λk:Nat=>I k) Pv (ud N) 0 σ h h0 (λj y σ h hj pj=>by
  have hl:j<N:=by have:=(xa.mp hj).1;simpa using this
  have hy:y=j:=by rw[vt hl] at hj;exact(Option.some.inj hj).symm
  subst hy;simp only[Xw] at pj ⊢;exact step y σ h hl pj)
 simpa using this
noncomputable def Own(h g:MH)(xs:List MV):Prop:=∃ t,g=h++.lst xs::t
namespace Own
variable {h g:MH} {xs:List MV}
theorem new(h:MH):Own h (h++[.lst xs]) xs:=⟨[],rfl⟩
theorem cell(o:Own h g xs)(c:Cell):yc (c::g) (h.length+1)=some xs:=by
 obtain⟨t,rfl⟩:=o;have:=zi (c::h) t xs;simpa using this
end Own
theorem mod_lt(i j:Int)(hj:0<j):0<=i%j/\i%j<j:=⟨Wu _ (by lia),Vr _ hj⟩
theorem Jr(ns:List Int)(hn:ns≠[])(k:Int):cK (ns.map λi=>MV.f (.int i)) (k%ns.length)=some (I (oY ns k)):=by
 have hl:0<ns.length:=vo.mpr hn;have h0:0<=k%(ns.length:Int):=Wu _ (by lia);have h1:k%(ns.length:Int)<ns.length:=Vr _ (by lia);rw[qR _ _ h0,Xb,wb (by lia)];simp[oY,hn,uh,wb (show(k%(ns.length:Int)).toNat<ns.length by lia)]
noncomputable def Nx(r:RS)(P:aF->MH->Prop):Prop:=∃ σ h,r=.next σ h/\P σ h
noncomputable def cY(r:R MV)(P:MV->MH->Prop):Prop:=∃ v h,r=.ok v h/\P v h
@[simp] theorem D5(σ:aF)(h:MH)(P:aF->MH->Prop):Nx (.next σ h) P↔P σ h:=⟨λ⟨_,_,e,p⟩=>by cases e;exact p,λp=>⟨_,_,rfl,p⟩⟩
@[simp] theorem JW(v:MV)(h:MH)(P:MV->MH->Prop):cY (.ok v h) P↔P v h:=⟨λ⟨_,_,e,p⟩=>by cases e;exact p,λp=>⟨_,_,rfl,p⟩⟩
section
variable {bd:MV->aF->MH->RS} {σ:aF} {h:MH} {k:aF->MH->RS}
theorem Yq{Q:RS->Prop}(N:Nat)(Pv:Nat->aF->MH->Prop)(h0:Pv 0 σ h)(step:∀ i σ h,i<N->Pv i σ h->∀ Q:aF->MH->Prop,(∀ σ h,Pv (i+1) σ h->Q σ h)->Nx (bd (I i) σ h) Q)
  (fin:∀ σ' h',Pv N σ' h'->Q (k σ' h')):Q ((qL [] bd ((ud N).map λ(k:Nat)=>I k) σ h).bind k):=by
 obtain⟨σ',h',e,p⟩:=qbJ N Pv σ h h0 λi σ h hi p=>step i σ h hi p _ λ_ _ x=>x;rw[e];exact fin σ' h' p
theorem O2{α:Type}{e:α->MV}{Q:RS->Prop}(ys:List α)(Pv:Nat->aF->MH->Prop)(h0:Pv 0 σ h)(step:∀ i y σ h,ys[i]?=some y->Pv i σ h->∀ Q:aF->MH->Prop,(∀ σ h,Pv (i+1) σ h->Q σ h)->Nx (bd (e y) σ h) Q)
  (fin:∀ σ' h',Pv ys.length σ' h'->Q (k σ' h')):Q ((qL [] bd (ys.map e) σ h).bind k):=by
 obtain⟨σ',h',e,p⟩:=Kb (bd:=bd) (e:=e) Pv ys 0 σ h h0 (λj y σ h hj pj=>by simp only[Xw] at pj ⊢;exact step j y σ h hj pj _ λ_ _ x=>x);rw[e];exact fin σ' h' (by simpa using p)
end
theorem cY.of{r:R MV}{P:MV->MH->Prop}(k:∀ Q:MV->MH->Prop,(∀ v h,P v h->Q v h)->cY r Q):cY r P:=k P λ_ _ x=>x
theorem zb8(c:Cell)(g:MH)(d:Cell):kill [g.length+1] (c::(g++[d]))=c::(g++[.dead]):=by
 unfold kill;refine Uh λi=>?_;rw[Wl];cases i with
 |zero=>simp
 |succ i =>
  simp only[uo,Xd]
  rcases wF i g.length with hi|hi|hi
  ·rw[Ua hi,Ua hi];have:¬ i+1=g.length+1:=by lia
   simp only[this,if_false];cases g[i]? <;> rfl
  ·subst hi;simp
  ·rw[Wq (by simp;lia),Wq (by simp;lia)];rfl
theorem Ycu(c:Cell)(g:MH)(ys:List FV):QL (.ref (g.length+1)) (c::(g++[.lst (ys.map .f)]))=.ok (.f (.lst ys)) (c::(g++[.dead])):=by
 rw[EU _ _ ys ((Own.new (xs:=ys.map .f) g).cell c),zb8]
section
variable {h:MH} (sub:String->String->Option Bool) (t:String)
@[simp] theorem xZ:qQ sub h (.f .bG) t=some false:=rfl
@[simp] theorem C8(b:Bool):qQ sub h (.f (.bl b)) t=some (decide (t="bool")||decide (t="int")):=rfl
@[simp] theorem Ab(i:Int):qQ sub h (.f (.int i)) t=some (decide (t="int")):=rfl
@[simp] theorem xX(s:Str):qQ sub h (.f (.str s)) t=some (decide (t="str")):=rfl
@[simp] theorem xW(xs:List FV):qQ sub h (.f (.tup xs)) t=some (decide (t="tuple")):=rfl
@[simp] theorem Aa(xs:List FV):qQ sub h (.f (.lst xs)) t=some (decide (t="list")):=rfl
@[simp] theorem xY(c:String)(ns:List String)(xs:List FV):qQ sub h (.f (.obj c ns xs)) t=sub c t:=rfl
end
noncomputable def M5:Nat->FV->Bool
 |_+1,.bG=>true
 |_+1,.int _=>true
 |_+1,.str s=>rR s
 |n+1,.tup xs=>decide (xs.length<=aG)&&xs.all (M5 n)
 |n+1,.lst xs=>decide (xs.length<=aG)&&xs.all (M5 n)
 |_,_=>false
noncomputable def isQ:Nat->FV->Bool
 |_+1,.int _=>true
 |_+1,.str s=>rR s
 |n+1,.tup xs=>decide (xs.length<=aG)&&xs.all (isQ n)
 |n+1,.lst xs=>decide (xs.length<=aG)&&xs.all (isQ n)
 |_,_=>false
theorem yct(b1 b2:Bool)(rows:List (List Int))(h1:rows.length<=1000)(h2:∀ r∈rows,r.length<=1000):isQ 3 (Qb b1 b2 rows)=true:=by
 have hz:(1000:Nat)<=aG:=by decide
 have hr:∀ r∈rows,isQ 2 (ya b2 r)=true:=λr hr=>by
  have:=vf (h2 r hr) hz;cases b2 <;> simp[ya,sq,isQ,this]
 have:=vf h1 hz;cases b1 <;> simp[Qb,sq,isQ,this] <;> exact hr
@[simp] theorem IG(a b:Bool):jX (.bl a) (.bl b)=some (a==b):=by simp[jX,fL]
theorem B4{α:Type}:∀ xs:List α,xs.zip xs=xs.map λx=>(x,x)
 |[]=>rfl
 |x::r=>by simp[B4 r]
theorem IS(xs:List MV)(i:Int)(h0:0<=i)(h1:i<=xs.length):ZY xs none (some i)=xs.take i.toNat:=by
 have e:lD xs.length xs.length (some i)=i.toNat:=by simp only[lD];rw[if_neg (by lia)];lia
 simp only[ZY,e];simp[lD]
theorem Qdn(xs:List MV)(i:Int)(h0:0<=i)(h1:i<=xs.length):ZY xs (some i) none=xs.drop i.toNat:=by
 have e:lD xs.length 0 (some i)=i.toNat:=by simp only[lD];rw[if_neg (by lia)];lia
 simp only[ZY,e];exact Up (by simp[lD])
structure Drawn (most:Int) (rows:List (List Int)) (i j:Nat):Prop where
 len:rows.length=i
 lH:∀ r∈rows,r.length=j
 sh:∀ r∈rows,∀ v∈r,0<=v/\v<=most
theorem Drawn.snoc{most:Int}{rows:List (List Int)}{i j:Nat}{r:List Int}(d:Drawn most rows i j)(hr:r.length=j/\∀ v∈r,0<=v/\v<=most):Drawn most (rows++[r]) (i+1) j :=
 ⟨by simp[d.len],λx hx=>by
  rcases Wg.mp hx with hx|hx
  ·exact d.lH x hx
  ·simp at hx;subst hx;exact hr.1,λx hx=>by
  rcases Wg.mp hx with hx|hx
  ·exact d.sh x hx
  ·simp at hx;subst hx;exact hr.2⟩
theorem B8(xs:List MV)(i:Int)(h0:0<=i)(h1:i<xs.length):∃ v∈xs,cK xs i=some v:=by
 rw[qR xs i h0,wb (by lia)];exact⟨_,vq (by lia),rfl⟩
theorem Drawn.good{most:Int}{rows:List (List Int)}{i j:Nat}(d:Drawn most rows i j)(hm:1<=most)(hi:1<=i)(Av:i<=1000)(hj:1<=j):Good most rows :=
 ⟨hm,λe=>by have:=d.len;rw[e] at this;simp at this;lia,⟨j,hj,d.lH⟩,d.sh,by rw[d.len];exact Av⟩
end MP
end
section
namespace MP
open PySem
section
variable {h:MH}
@[simp] theorem zdb(a:Nat)(z:MV):kU "extend" (.ref a) [z] h=opt (yc h a) λxs=>opt (listOf h z) λys=>if xs.length+ys.length<=aG then .ok (.f .bG) (ye h a (xs++ys)) else .stuck:=rfl
@[simp] theorem C0(a:Nat):kU "pop" (.ref a) [] h=opt (yc h a) λxs=>opt (xs[xs.length-1]?) λy=>.ok y (ye h a (xs.take (xs.length-1))):=rfl
@[simp] theorem Yds(a:Nat)(i:Int):kU "pop" (.ref a) [.f (.int i)] h=opt (yc h a) λxs=>opt (jM xs.length i) λk=>opt (xs[k]?) λy=>if -(2^63)<=i/\i<2^63 then .ok y (ye h a (xs.take k++xs.drop (k+1))) else .stuck:=rfl
end
theorem qcv{α β:Type}{bd:MV->aF->MH->RS}{σ:aF}{h:MH}{k:aF->MH->RS}{Q:RS->Prop}{e:α->MV}(ys:List α)(b:β)(st:β->aF)(hp:β->MH)(f:β->α->β)(h1:σ=st b)(h2:h=hp b)
  (step:∀ y∈ys,∀ b,bd (e y) (st b) (hp b)=.next (st (f b y)) (hp (f b y))) (fin:Q (k (st (ys.foldl f b)) (hp (ys.foldl f b)))):Q ((qL [] bd (ys.map e) σ h).bind k):=by
 subst h1;subst h2;rw[QO ys b step];exact fin
theorem Ly{c:aF->MH->R MV}{bd:aF->MH->RS}(N:Nat)(Pv:Nat->aF->MH->Prop)(step:∀ i σ h,i<N->Pv i σ h->∃ h1 σ' h',c σ h=.ok (B true) h1/\bd σ h1=.next σ' h'/\Pv (i+1) σ' h')
  (fin:∀ σ h,Pv N σ h->c σ h=.ok (B false) h):∀(fuel i:Nat)(σ:aF)(h:MH),i<=N->N<fuel+i->Pv i σ h->∃ σ' h',zI c bd fuel σ h=.next σ' h'/\Pv N σ' h'
 |0,i,σ,h,h1,h2,_=>by lia
 |fuel+1,i,σ,h,h1,h2,p=>by
  by_cases hi:i=N
  ·subst hi;exact⟨σ,h,by simp[zI,fin σ h p],p⟩
  ·obtain⟨h1,σ',h',e1,e2,p'⟩:=step i σ h (by lia) p;obtain⟨σ2,h2,e3,p2⟩:=Ly N Pv step fin fuel (i+1) σ' h' (by lia) (by lia) p';exact⟨σ2,h2,by simp[zI,e1,e2,e3],p2⟩
theorem JQ{c:aF->MH->R MV}{bd:aF->MH->RS}{σ:aF}{h:MH}{k:aF->MH->RS}{Q:RS->Prop}{fuel:Nat}(N:Nat)(Pv:Nat->aF->MH->Prop)(hf:N<fuel)(h0:Pv 0 σ h)
  (step:∀ i σ h,i<N->Pv i σ h->c σ h=.ok (B true) h/\∀ Q:aF->MH->Prop,(∀ σ h,Pv (i+1) σ h->Q σ h)->Nx (bd σ h) Q)
  (fin:∀ σ h,Pv N σ h->c σ h=.ok (B false) h) (go:∀ σ h,Pv N σ h->Q (k σ h)):Q ((zI c bd fuel σ h).bind k):=by
 obtain⟨σ',h',e,p⟩:=Ly (c:=c) (bd:=bd) N Pv (λi σ h hi p=>by
  obtain⟨e1,st⟩:=step i σ h hi p;obtain⟨σ',h',e2,p'⟩:=st _ λ_ _ x=>x;exact⟨h,σ',h',e1,e2,p'⟩) fin fuel 0 σ h (wm _) (by lia) h0
 rw[e];exact go σ' h' p
section
variable {most:Int} {rows r1 r2:List (List Int)} {H W:Nat}
theorem Drawn.cons(d:Drawn most rows H W)(hH:1<=H):∃ r rs,rows=r::rs/\r.length=W/\rs.length+1=H:=by
 cases rows with
 |nil=>have:=d.len;simp at this;lia
 |cons r rs=>exact⟨r,rs,rfl,d.lH r (by simp),by have:=d.len;simpa using this⟩
end
theorem ycy{α β:Type}(f:α->FV)(g:β->FV)(xs:List α)(ys:List β):xy (λp:MV×MV=>yh [p.1,p.2]) ((xs.map (MV.f∘f)).zip (ys.map (MV.f∘g)))=(xs.zip ys).map λp=>MV.f (.tup [f p.1,g p.2]):=by
 rw[List.zip_map,Wf];rfl
theorem N5{a:Nat}{xs:List MV}{h:MH}(e:yc h a=some xs):aV [(a,xs)] h:=λp hp=>by simp at hp;subst hp;exact e
theorem N4{α:Type}{bd:MV->aF->MH->R (Option MV×aF)}{h:MH}{G:qD}{e g:α->MV}{caps:aF}(hg:aV G h):∀(ys:List α)(acc:List MV)(z:Option MV),acc.length+ys.length<=aG ->
  (∀ y∈ys,∀ z,∃ z',bd (e y) (z::caps) h=.ok (some (g y),z'::caps) h)->Zi G bd (ys.map e) acc (z::caps) h=.ok (acc++ys.map g) h
 |[],acc,z,_,_=>by simp[Zi,hg]
 |y::r,acc,z,hl,hb=>by
  obtain⟨z',e1⟩:=hb y (by simp) z;simp only[Uc] at hl;have ih:=N4 (bd:=bd) (e:=e) (g:=g) (caps:=caps) hg r (acc++[g y]) z' (by simp;lia) λy hy=>hb y (by simp[hy]);simp only[ub,Zi,hg,true_and,e1,R.aJ,ih];rw[if_pos (by lia)];simp
noncomputable abbrev Za(p:Nat×Nat):FV:=.tup [.int p.1,.int p.2]
theorem J2(b:Bool)(r r':List Int):fL (ya b r) (ya b r')=decide (r=r'):=by
 cases b
 ·simp only[ya,sq,Vh,if_false,OA];exact Q8 FV.int (λa b=>by simp[Oq];rw[VA];simp) r r'
 ·simp only[ya,sq,if_true,KH];exact Q8 FV.int (λa b=>by simp[Oq];rw[VA];simp) r r'
theorem J3(n:Nat)(b:Bool)(r:List Int):cb (n+2) (ya b r)=true:=by
 cases b <;> simp[ya,sq]
theorem NO(n:Nat)(b1 b2:Bool)(rows:List (List Int)):cb (n+3) (Qb b1 b2 rows)=true:=by
 cases b1 <;> simp[Qb,sq,J3]
theorem NV(b1 b2:Bool)(rows iV:List (List Int)):jX (Qb b1 b2 rows) (Qb b1 b2 iV)=some (decide (rows=iV)):=by
 have e:fL (Qb b1 b2 rows) (Qb b1 b2 iV)=decide (rows=iV):=by
  cases b1
  ·simp only[Qb,sq,Vh,if_false,OA];exact Q8 (ya b2) (J2 b2) rows iV
  ·simp only[Qb,sq,if_true,KH];exact Q8 (ya b2) (J2 b2) rows iV
 unfold jX;rw[if_pos ⟨NO 5 b1 b2 rows,NO 5 b1 b2 iV⟩,e]
theorem QcU(b:Bool)(r r':List Int):jX (ya b r) (ya b r')=some (decide (r=r')):=by
 unfold jX;rw[if_pos ⟨J3 6 b r,J3 6 b r'⟩,J2]
theorem Pw{α:Type}{bd:MV->aF->MH->R (Option MV×aF)}{h:MH}{G:qD}{e g:α->MV}{caps:aF}(hg:aV G h):∀(ys:List α)(acc:List MV)(z w:Option MV),acc.length+ys.length<=aG ->
  (∀ y∈ys,∀ z w,∃ z' w',bd (e y) (z::w::caps) h=.ok (some (g y),z'::w'::caps) h)->Zi G bd (ys.map e) acc (z::w::caps) h=.ok (acc++ys.map g) h
 |[],acc,z,w,_,_=>by simp[Zi,hg]
 |y::r,acc,z,w,hl,hb=>by
  obtain⟨z',w',e1⟩:=hb y (by simp) z w;simp only[Uc] at hl;have ih:=Pw (bd:=bd) (e:=e) (g:=g) (caps:=caps) hg r (acc++[g y]) z' w' (by simp;lia) λy hy=>hb y (by simp[hy]);simp only[ub,Zi,hg,true_and,e1,R.aJ,ih];rw[if_pos (by lia)];simp
structure iI (most:Int) (aw:List Int):Prop where
 up:aw.Pairwise (· < ·)
 iZ:∀ v∈aw,0<=v/\v<=most
 z:0∈aw
 m:most∈aw
 sz:aw.length<=50
theorem NL{aw:List Int}(up:aw.Pairwise (· < ·)){i j:Nat}(h:i<j)(hj:j<aw.length):aw.getD i 0<aw.getD j 0:=by
 have:=(List.pairwise_iff_getElem.mp up) i j (by lia) hj h;simpa[uh,hj,show i<aw.length by lia] using this
theorem Ku{aw:List Int}(up:aw.Pairwise (· < ·)){i j:Nat}(h:i<=j)(hj:j<aw.length):aw.getD i 0<=aw.getD j 0:=by
 by_cases e:i=j
 ·subst e;exact uy _
 ·exact Int.le_of_lt (NL up (by lia) hj)
theorem NH{aw:List Int}{v:Int}(h:v∈aw):∃ i,i<aw.length/\aw.getD i 0=v:=by
 obtain⟨i,hi,e⟩:=ut h;exact⟨i,hi,by simp[uh,hi,e]⟩
theorem Oa{aw:List Int}{i:Nat}(h:i<aw.length):aw.getD i 0∈aw:=by simp[uh,h]
namespace iI
variable {most:Int} {aw:List Int} (K:iI most aw)
include K
theorem pos:0<aw.length:=List.length_pos_of_mem K.z
theorem head:aw.getD 0 0=0:=by
 obtain⟨i,hi,e⟩:=NH K.z;have h1:=Ku K.up (wm i) hi;have h2:=K.iZ _ (Oa K.pos)
 lia
theorem last:aw.getD (aw.length-1) 0=most:=by
 have hp:=K.pos;obtain⟨i,hi,e⟩:=NH K.m;have h1:=Ku K.up (show i<=aw.length-1 by lia) (by lia);have h2:=K.iZ _ (Oa (show aw.length-1<aw.length by lia))
 lia
theorem two(h:1<=most):2<=aw.length:=by
 have hp:=K.pos;by_cases c:aw.length=1
 ·have:=K.head;have l:=K.last;rw[c] at l;simp only[Nat.sub_self] at l;lia
 ·lia
end iI
end MP
namespace MP
open PySem
theorem iY{ks:List Int}{k x:Int}:x∈YC ks k↔x∈ks\/x=k:=by
 unfold YC;split
 ·next h=>exact⟨.inl,λe=>e.elim id λz=>z ▸ h⟩
 ·simp
structure jS (most:Int) (ks:List Int) (n:Nat):Prop where
 nd:ks.Nodup
 iZ:∀ v∈ks,0<=v/\v<=most
 z:0∈ks
 m:most∈ks
 sz:ks.length<=n
theorem jS.start{most:Int}(h:1<=most):jS most (YC (YC [] 0) most) 2:=by
 have e:YC (YC [] 0) most=[0,most]:=by simp[YC,show ¬ most=0 by lia]
 rw[e];exact⟨by simp;lia,by simp;lia,by simp,by simp,by simp⟩
theorem jS.add{most:Int}{ks:List Int}{n:Nat}(d:jS most ks n){k:Int}(h:0<=k/\k<=most):jS most (YC ks k) (n+1):=by
 refine⟨?_,λv hv=>?_,iY.mpr (.inl d.z),iY.mpr (.inl d.m),?_⟩
 ·unfold YC;split
  ·exact d.nd
  ·next hn=>exact ul.mpr ⟨d.nd,by simp,λa ha b hb=>by simp at hb;subst hb;exactλe=>hn (e ▸ ha)⟩
 ·rcases iY.mp hv with hv|rfl
  ·exact d.iZ v hv
  ·exact h
 ·unfold YC;have:=d.sz;split
  ·lia
  ·simp;lia
theorem jS.aw{most:Int}{ks:List Int}{n:Nat}(d:jS most ks n)(hn:n<=50):iI most (mr ks):=by
 have p:=GZ ks;have nd:(mr ks).Nodup:=p.nodup_iff.mpr d.nd;refine⟨?_,λv hv=>d.iZ v (p.mem_iff.mp hv),p.mem_iff.mpr d.z,p.mem_iff.mpr d.m,by rw[p.length_eq];have:=d.sz;lia⟩;have le:=NW ks;exact(List.pairwise_and_iff.mpr ⟨le,nd⟩).imp λh=>by have:=h.1;have:=h.2;lia
theorem O7{α:Type}{bd:MV->aF->MH->R (Option MV×aF)}{h:MH}{G:qD}{e g:α->MV}{t:α->Bool}{caps:aF}(hg:aV G h):∀(ys:List α)(acc:List MV)(z:Option MV),acc.length+ys.length<=aG ->
  (∀ y∈ys,∀ z,∃ z',bd (e y) (z::caps) h=.ok (if t y=true then some (g y) else none,z'::caps) h)->Zi G bd (ys.map e) acc (z::caps) h=.ok (acc++(ys.filter t).map g) h
 |[],acc,z,_,_=>by simp[Zi,hg]
 |y::r,acc,z,hl,hb=>by
  obtain⟨z',e'⟩:=hb y (by simp) z;simp only[Uc] at hl;have ih:=λBq (sd:Bq.length+r.length<=aG)=>O7 (bd:=bd) (e:=e) (g:=g) (t:=t) (caps:=caps) hg r Bq z' sd (λy hy z=>hb y (by simp[hy]) z);cases ht:t y with
  |true =>
   simp[ht] at e';simp[Zi,hg,e',ih (acc++[g y]) (by simp;lia),ht]
   lia
  |false =>
   simp[ht] at e';simp[Zi,hg,e',ih acc (by lia),ht]
   lia
structure cC (h:MH) (iv:MV) (aw:List Int):Prop where
 q:qb h iv=some (aw.map (MV.f∘FV.int))
 g:aV (Zc h iv) h
theorem cC.row(h:MH)(b:Bool)(aw:List Int):cC h (.f (ya b aw)) aw:=⟨by simp[ya],by intro p hp;exact absurd hp (by simp[ya])⟩
theorem cC.ref{h:MH}{a:Nat}{aw:List Int}(e:yc h a=some (aw.map (MV.f∘FV.int))):cC h (.ref a) aw:=⟨e,by
 have:Zc h (.ref a)=[(a,aw.map (MV.f∘FV.int))]:=by simp[Zc,e]
 rw[this];exact N5 e⟩
theorem cC.app{h:MH}{iv:MV}{aw:List Int}(v:cC h iv aw)(t:MH):cC (h++t) iv aw:=by
 cases iv with
 |f x =>
  refine⟨?_,λp hp=>?_⟩
  ·have:=v.q;cases x <;> first|exact this|(simp[qb] at this)
  ·cases x <;> simp[Zc] at hp
 |ref a=>exact cC.ref (zbR v.q)
 |tup xs=>exact⟨v.q,λp hp=>by simp[Zc] at hp⟩
 |exc c=>exact absurd v.q (by simp[qb])
theorem YcV{iv:MV}{xs:List MV}(h:MH)(e:Yk iv=some xs):qb h iv=some xs:=by
 cases iv with
 |f x=>cases x <;> first|exact e|(simp[Yk] at e)
 |ref a=>simp[Yk] at e
 |tup ys=>exact e
 |exc c=>simp[Yk] at e
theorem cC.slice{h:MH}{iv:MV}{aw:List Int}(v:cC h iv aw){lo hi:Option Int}{l:List Int}(e:ZY (aw.map (MV.f∘FV.int)) lo hi=l.map (MV.f∘FV.int)):∃ b,yW true iv lo hi h=.ok (.f (ya b l)) h:=by
 unfold yW;cases et:Yk iv with
 |some xs =>
  have:=YcV h et;rw[v.q] at this;cases this;exact⟨true,by simp only[e,Jk];rfl⟩
 |none =>
  exact⟨false,by simp only[v.q,qc,e,YaY];rfl⟩
theorem Qbl(aw:List Int)(h2:1<=aw.length):ZY (aw.map (MV.f∘FV.int)) none (some (-1))=(aw.take (aw.length-1)).map (MV.f∘FV.int):=by
 simp only[ZY,lD,wc,um,vw];rw[if_pos (by decide),show((-1:Int)+(aw.length:Int)).toNat=aw.length-1 by lia];simp[List.map_take]
theorem ZcD(aw:List Int)(h2:1<=aw.length):ZY (aw.map (MV.f∘FV.int)) (some 1) none=(aw.drop 1).map (MV.f∘FV.int):=by
 have:=Qdn (aw.map (MV.f∘FV.int)) 1 (by decide) (by simp;lia);rw[this];simp[List.map_drop]
theorem KW{α:Type}{G:qD}{bd:MV->aF->MH->R (Option MV×aF)}{h:MH}{e g:α->MV}(hg:aV G h)(Iv:aF->Prop):∀(ys:List α)(acc:List MV)(σ:aF),Iv σ->acc.length+ys.length<=aG ->
  (∀ y∈ys,∀ σ,Iv σ->∃ σ',bd (e y) σ h=.ok (some (g y),σ') h/\Iv σ')->Zi G bd (ys.map e) acc σ h=.ok (acc++ys.map g) h
 |[],acc,σ,_,_,_=>by simp[Zi,hg]
 |y::r,acc,σ,i0,hl,hb=>by
  obtain⟨σ',e1,i1⟩:=hb y (by simp) σ i0;simp only[Uc] at hl;have ih:=KW (bd:=bd) (e:=e) (g:=g) hg Iv r (acc++[g y]) σ' i1 (by simp;lia) λy hy=>hb y (by simp[hy]);simp only[ub,Zi,hg,true_and,e1,R.aJ,ih];rw[if_pos (by lia)];simp
noncomputable def PD(c:String)(r:RS)(P:aF->MH->Prop)(X:MH->Prop):Prop:=(∃ σ h,r=.next σ h/\P σ h)\/∃ h,r=.exc c h/\X h
noncomputable def PF(c:String)(r:R MV)(P:MV->MH->Prop)(X:MH->Prop):Prop:=(∃ v h,r=.ok v h/\P v h)\/∃ h,r=.exc c h/\X h
@[simp] theorem BP(c:String)(σ:aF)(h:MH)(P:aF->MH->Prop)(X:MH->Prop):PD c (.next σ h) P X↔P σ h:=⟨λz=>by rcases z with ⟨_,_,e,p⟩|⟨_,e,_⟩ <;> cases e;exact p,λp=>.inl ⟨_,_,rfl,p⟩⟩
@[simp] theorem D'(c:String)(h:MH)(P:aF->MH->Prop)(X:MH->Prop):PD c (.exc c h) P X↔X h:=⟨λz=>by rcases z with ⟨_,_,e,_⟩|⟨_,e,p⟩ <;> cases e;exact p,λp=>.inr ⟨_,rfl,p⟩⟩
@[simp] theorem Kk(c:String)(v:MV)(h:MH)(P:MV->MH->Prop)(X:MH->Prop):PF c (.ok v h) P X↔P v h:=⟨λz=>by rcases z with ⟨_,_,e,p⟩|⟨_,e,_⟩ <;> cases e;exact p,λp=>.inl ⟨_,_,rfl,p⟩⟩
@[simp] theorem Ea(c:String)(h:MH)(P:MV->MH->Prop)(X:MH->Prop):PF c (.exc c h) P X↔X h:=⟨λz=>by rcases z with ⟨_,_,e,_⟩|⟨_,e,p⟩ <;> cases e;exact p,λp=>.inr ⟨_,rfl,p⟩⟩
noncomputable def qj(H W:Nat):List (Nat×Nat):=(ud H).flatMap λr=>(ud W).map λc=>(r,c)
noncomputable def QS(H W:Nat):List (Nat×Nat):=(ud H).flatMap λr=>(ud W).map λc=>(r,if r%2=0 then c else W-1-c)
noncomputable def zY(H W:Nat):List (Nat×Nat):=(qj W H).map λp=>(p.2,p.1)
theorem QP(H W:Nat):(qj H W).length=H*W:=by
 unfold qj;rw[vx];simp only[wc,List.length_range]
 induction H with
 |zero=>simp
 |succ H ih=>rw[xu,Wi,List.sum_append,ih,Uy];simp
theorem Lk(H W:Nat):(QS H W).length=H*W:=by
 rw[<- QP H W];unfold QS qj;rw[vx,vx];simp
theorem zco(H W:Nat):(zY H W).length=H*W:=by unfold zY;rw[wc,QP,Vs]
theorem qbS(H W:Nat)(hW:1<=W):(ud (H*W)).map (λk=>(k/W,k%W))=qj H W:=by
 unfold qj
 induction H with
 |zero=>simp
 |succ H ih =>
  rw[Uy,Nat.one_mul,List.range_add,Wi,ih,xu,Vx,Wf]
  congr 1
  simp only[List.flatMap_cons,List.flatMap_nil,Xr];refine WD λj hj=>?_;have hj:=Xm.mp hj;simp only[xr,Prod.mk.injEq];rw[Vs H W,Nat.mul_add_div (by lia),Nat.mul_add_mod,Nat.div_eq_of_lt hj,Vq hj];exact⟨by lia,rfl⟩
theorem qca(H W:Nat):(qj H W).map (λp=>(p.1,if p.1%2=0 then p.2 else W-1-p.2))=QS H W:=by
 unfold qj QS;rw[List.map_flatMap]
 congr 1
 funext r;rw[Wf];rfl
theorem qci(r W:Nat):((ud W).map λc=>(r,c)).reverse=(ud W).map λc=>(r,W-1-c):=by
 apply List.ext_getElem
 ·simp
 ·intro i h1 h2;simp at h1 h2;rw[List.getElem_reverse];simp
theorem rM(a b:Cell)(h t:MH)(xs:List MV):yc (a::b::(h++.lst xs::t)) (h.length+2)=some xs:=by
 have:=zi (a::b::h) t xs;simpa using this
theorem sI(a b:Cell)(h t:MH)(xs ys:List MV):ye (a::b::(h++.lst xs::t)) (h.length+2) ys=a::b::(h++.lst ys::t):=by
 have:=zp (a::b::h) t xs ys;simpa using this
noncomputable def Zr(b n:Nat):List MV:=(ud n).map λi=>MV.ref (b+i)
noncomputable abbrev ma(r:List Int):Cell:=.lst (r.map λi=>MV.f (.int i))
noncomputable def Ys(b:Nat)(h:MH)(rows:List (List Int)):MH:=h++.lst (Zr (h.length+b+1) rows.length)::rows.map ma
theorem YbP(b n:Nat):Zr b n++[.ref (b+n)]=Zr b (n+1):=by simp[Zr,xu]
theorem Zb6(b n:Nat)(hn:0<n):zj (Zr b n)=none:=by
 cases n with
 |zero=>lia
 |succ n=>simp[Zr,Wv,zj]
theorem ybJ{h h':MH}{a b n:Nat}(e:yc h' a=some (Zr b n))(hn:0<n):zg h (.ref a) h'=.ok (.ref a) h':=by
 unfold zg;split
 ·simp only[e,Zb6 b n hn];split <;> rfl
 ·rfl
theorem Jo(c d:Cell)(h:MH)(rows:List (List Int))(i:Nat)(r:List Int)(hr:rows[i]?=some r):yc (c::d::Ys 2 h rows) (h.length+3+i)=some (r.map λi=>MV.f (.int i)):=by
 unfold yc Ys;rw[show h.length+3+i=(h.length+1+i)+2 by lia];simp only[uo];rw[we (by lia),show h.length+1+i-h.length=i+1 by lia];simp only[uo,Xb,hr,ug]
theorem zcF(c d:Cell)(h:MH)(rows:List (List Int))(i:Nat)(r':List Int)(hi:i<rows.length):ye (c::d::Ys 2 h rows) (h.length+3+i) (r'.map λi=>MV.f (.int i))=c::d::Ys 2 h (rows.set i r'):=by
 unfold ye Ys;rw[show h.length+3+i=(h.length+1+i)+2 by lia];simp only[wz];rw[wC _ _ (by lia),show h.length+1+i-h.length=i+1 by lia];simp[WA]
theorem DY(c d:Cell)(h:MH)(rows:List (List Int)):yc (c::d::Ys 2 h rows) (h.length+2)=some (Zr (h.length+3) rows.length):=rM c d h _ _
theorem Zb5(c d:Cell)(h:MH)(rows:List (List Int)):yJ (c::d::Ys 2 h rows) (.ref (h.length+2))=some (Qb false false rows):=by
 have hr:∀(m:Nat)(is:List Nat),(∀ i∈is,i<rows.length)->(is.map λi=>MV.ref (h.length+3+i)).mapM (yn (c::d::Ys 2 h rows) (m+2))=some (is.map λi=>ya false (rows.getD i [])):=by
  intro m is hx
  induction is with
  |nil=>rfl
  |cons x xs ih =>
   have Hs:=hx x (by simp);have e:rows[x]?=some (rows.getD x []):=by simp[uh,Hs]
   have e1:yn (c::d::Ys 2 h rows) (m+2) (.ref (h.length+3+x))=some (ya false (rows.getD x [])):=by
    simp only[yn,Jo c d h rows x _ e,xi];have:(xy (λi=>MV.f (FV.int i)) (rows.getD x []))=((rows.getD x []).map FV.int).map MV.f:=by simp
    rw[this,tG];rfl
   simp only[ub,xp,e1,ih λi hi=>hx i (by simp[hi])];rfl
 unfold yJ;simp only[yn,DY,xi];rw[Zr,hr 2 _ (by simp)];simp only[ug,Qb,sq,Option.some.injEq]
 congr 1
 apply Uh;intro k;by_cases hk:k<rows.length
 ·simp[hk,uh]
 ·simp[hk]
theorem zbL(c d:Cell)(h:MH)(rows:List (List Int)):∀ a∈Qn (c::d::Ys 2 h rows) 5 (.ref (h.length+2)),(c::d::h).length<=a:=by
 intro a ha;simp only[Qn,DY,Wm,Zr,ua,xm,ue,Xm] at ha
 rcases ha with rfl|⟨m,⟨i,hi,rfl⟩,ha⟩
 ·simp
 ·have e:rows[i]?=some (rows[i]):=by simp[hi]
  simp only[Qn,Jo c d h rows i _ e,Wm,ua,xm,ue] at ha
  rcases ha with rfl|⟨m,⟨i,_,rfl⟩,ha⟩
  ·simp;lia
  ·simp[Qn] at ha
theorem Zcr(c d:Cell)(h:MH)(rows:List (List Int)):∃ t',QL (.ref (h.length+2)) (c::d::Ys 2 h rows)=.ok (.f (Qb false false rows)) (c::d::(h++t')):=by
 obtain⟨t',e⟩:=G5 (c::d::h) (.lst (Zr (h.length+3) rows.length)::rows.map ma) (Qn (c::d::Ys 2 h rows) 5 (.ref (h.length+2))) (zbL c d h rows);refine⟨t',?_⟩;unfold QL;rw[Zb5,qc];have e2:c::d::Ys 2 h rows=(c::d::h)++(.lst (Zr (h.length+3) rows.length)::rows.map ma):=rfl;rw[e2] at e ⊢;rw[e];rfl
theorem trC(k k':Int)(h t:MH):bJ (.code::atC k::h) (.code::atC k'::(h++t)):=⟨by simp,λi c hi e=>by
 rcases i with _|_|i
 ·exact .inl e
 ·simp at e;subst e;exact .inr ⟨[.int k'],rfl⟩
 ·simp only[Uc] at hi;exact .inl (by simpa[Ua (show i<h.length by lia)] using e)⟩
theorem sV(k k':Int)(h t:MH)(x:FV):zg (.code::atC k::h) (.f x) (.code::atC k'::(h++t))=.ok (.f x) (.code::atC k'::h):=by
 simp[zg,trC]
theorem vH(k k':Int)(h:MH)(x:FV):zg (.code::atC k::h) (.f x) (.code::atC k'::h)=.ok (.f x) (.code::atC k'::h):=by
 have:=sV k k' h [] x;simpa using this
theorem ZP(a b:Cell)(g:MH)(ys:List FV):QL (.ref (g.length+2)) (a::b::(g++[.lst (ys.map .f)]))=.ok (.f (.lst ys)) (a::b::(g++[.dead])):=by
 have:=Ycu a (b::g) ys;simpa using this
theorem Qdd(a b:Cell)(g t:MH)(ks:List Int):oS (a::b::(g++.iH ks::t)) (.ref (g.length+2))=some ks:=by simp[oS]
theorem uK(a b:Cell)(g t:MH)(c d:Cell):(a::b::(g++c::t)).set (g.length+2) d=a::b::(g++d::t):=by simp
end MP
end
section
namespace MP
open PySem
section
variable (n:Nat) (h:MH)
theorem Zq(ns:List Int)(k:Int)(hk:0<=k)(lZ:k<1000000):run prog (n+1) "_law_next" [.f (.dj ns),.ref 1] (.code::atC k::h)=.ok (I (j3 ns (k+1))) (.code::atC (k+1)::h):=by
 have m1:zK (k+1) (k+1):=qq (by lia);have m2:∀ x,zK x 7919:=λx=>qq (by decide);have m3:∀ x,zK x 48271:=λx=>qq (by decide);have m4:∀ x:Int,zK (x%2147483647) (x%2147483647):=λx=>qq (by have:=Wu x (show(2147483647:Int)≠0 by decide);have:=Vr x (show(0:Int)<2147483647 by decide);lia);have c1:∀ j:Int,yc (.code::atC j::h) 1=some [I j]:=λj=>rfl;have s1:∀(j:Int)(ys:List MV),ye (.code::atC j::h) 1 ys=.code::.lst ys::h:=λj ys=>rfl;have tr:bJ (.code::atC k::h) (.code::atC (k+1)::h):=⟨by simp,λi c hi e=>by
  rcases i with _|_|i
  ·exact .inl e
  ·simp at e;subst e;exact .inr ⟨[.int (k+1)],rfl⟩
  ·exact .inl (by simpa using e)⟩
 simp only[Zb,za6,qc,qJ];by_cases hn:ns=[]
 ·subst hn;simp[Qq,qe,m1,m2,m3,m4,jM,j3,oY,c1,s1,zg,tr]
 ·have hl:0<ns.length:=vo.mpr hn;have e1:cK (ns.map λi=>MV.f (.int i)) ((k+1)%ns.length)=some (I (oY ns (k+1))):=Jr ns hn (k+1);simp[Qq,qe,m1,m2,m3,m4,jM,j3,hl,e1,c1,s1,zg,tr]
theorem N6(ns:List Int)(k room:Int)(hk:0<=k)(lZ:k<1000000)(hr:0<room):∃ v:Int,0<=v/\(v<room\/v<10000000000000000000000000)/\run prog (n+2) "_law_great" [.f (.dj ns),.ref 1,I room] (.code::atC k::h)=.ok (I v) (.code::atC (k+1)::h):=by
 have N:=Zq n h ns k hk lZ;have hd:=Yt ns (k+1);generalize j3 ns (k+1)=x at N hd;have hp:∀ hh,yf true .pow (I 10) (I 25) hh=.ok (I 10000000000000000000000000) hh:=λhh=>Ed true 10 25 (by decide);have Dg:∀ hh,yf true .pow (I 10) (I 14) hh=.ok (I 100000000000000) hh:=λhh=>Ed true 10 14 (by decide);have m5:rV x 5:=⟨by decide,.inl (by decide)⟩;have mu:zK x 100000000000000:=.inl (by lia);have c1:∀ j:Int,yc (.code::atC j::h) 1=some [I j]:=λj=>rfl;have tr:bJ (.code::atC k::h) (.code::atC (k+1)::h):=⟨by simp,λi c hi e=>by
  rcases i with _|_|i
  ·exact .inl e
  ·simp at e;subst e;exact .inr ⟨[.int (k+1)],rfl⟩
  ·exact .inl (by simpa using e)⟩
 rw[QaT];simp only[cW];by_cases c:0<x%5
 ·have:=mod_lt (x/5) room hr;refine⟨x/5%room,this.1,.inl this.2,?_⟩;by_cases hn:ns=[]
  ·subst hn;simp[N,qe,Zh,m5,c,hr,zg,tr]
  ·have hl:0<ns.length:=vo.mpr hn;simp[N,qe,Zh,m5,c,hr,hl,Jr ns hn (k+1),c1,zg,tr]
 ·by_cases hn:ns=[]
  ·subst hn;have:=mod_lt (0%10000000000000000000000000+x*100000000000000) 10000000000000000000000000 (by decide);refine⟨_,this.1,.inr this.2,?_⟩;simp[N,qe,Qq,mu,c,hp,Dg,zg,tr]
  ·have hl:0<ns.length:=vo.mpr hn;have:=mod_lt (oY ns (k+1)%10000000000000000000000000+x*100000000000000) 10000000000000000000000000 (by decide);refine⟨_,this.1,.inr this.2,?_⟩;simp[N,qe,Qq,mu,c,hp,Dg,hl,Jr ns hn (k+1),c1,zg,tr]
end
end MP
end
section
namespace MP
open PySem
section
variable (n:Nat) (h:MH)
theorem QcD(ns:List Int)(k:Int)(hk:0<=k)(lZ:k+1<1000000):∃ c:Int,1<=c/\c<=100000000000000000000000000/\run prog (n+3) "_law_most" [.f (.dj ns),.ref 1] (.code::atC k::h)=.ok (I c) (.code::atC (k+1+1)::h):=by
 have N:=Zq (n+1) h ns k hk (by lia);obtain⟨g,g0,g1,G⟩:=N6 n h ns (k+1) 999 (by lia) (by lia) (by decide);have hd:=Yt ns (k+1);generalize j3 ns (k+1)=x at N hd;have d7:∀ hh,yf true .fdiv (I x) (I 7) hh=.ok (I (x/7)) hh:=λhh=>Zh _ _ _ ⟨by decide,.inl (by decide)⟩;have h7:=mod_lt x 7 (by decide);have hp:∀ hh,yf true .pow (I 10) (I 24) hh=.ok (I 1000000000000000000000000) hh:=λhh=>Ed true 10 24 (by decide);obtain⟨c,c1,c2,e⟩:∃ c:Int,1<=c/\c<=100000000000000000000000000/\cK [I 1,I 2,I 3,I 255,I 9,I (1+x/7%40),I (1+g+1000000000000000000000000)] (x%7)=some (I c):=by
  obtain⟨w,hw,e⟩:=B8 [I 1,I 2,I 3,I 255,I 9,I (1+x/7%40),I (1+g+1000000000000000000000000)] _ h7.1 (by simpa using h7.2);simp only[ua,Ud,or_false] at hw
  rcases hw with rfl|rfl|rfl|rfl|rfl|rfl|rfl
  all_goals exact⟨_,by lia,by lia,e⟩
 refine⟨c,c1,c2,?_⟩;rw[ya5];simp only[dk];simp[N,d7,qe,G,hp,zj,e,vH]
theorem qcr(ns:List Int)(k:Int)(hk:0<=k)(lZ:k<1000000):∃ H W:Nat,1<=H/\H<=60/\1<=W/\W<=60/\H*W<=60/\run prog (n+2) "_law_size" [.f (.dj ns),.ref 1,I 60] (.code::atC k::h)=.ok (.f (.tup [.int H,.int W])) (.code::atC (k+1)::h):=by
 have N:=Zq n h ns k hk lZ;have hd:=Yt ns (k+1);generalize j3 ns (k+1)=x at N hd;have d6:∀ hh,yf true .fdiv (I x) (I 6) hh=.ok (I (x/6)) hh:=λhh=>Zh _ _ _ ⟨by decide,.inl (by decide)⟩;have nZ:∀ hh,yf true .fdiv (I x) (I 100) hh=.ok (I (x/100)) hh:=λhh=>Zh _ _ _ ⟨by decide,.inl (by decide)⟩;have oP:∀ hh,yf true .fdiv (I x) (I 7000) hh=.ok (I (x/7000)) hh:=λhh=>Zh _ _ _ ⟨by decide,.inl (by decide)⟩;have h6:=mod_lt x 6 (by decide);obtain⟨a,a1,a2,e⟩:∃ a:Int,1<=a/\a<=12/\cK [I 1,I 2,I 3,I 5,I 8,I (1+x/6%12)] (x%6)=some (I a):=by
  obtain⟨w,hw,e⟩:=B8 [I 1,I 2,I 3,I 5,I 8,I (1+x/6%12)] _ h6.1 (by simpa using h6.2);simp only[ua,Ud,or_false] at hw
  rcases hw with rfl|rfl|rfl|rfl|rfl|rfl
  all_goals exact⟨_,by lia,by lia,e⟩
 have da:∀ hh,yf true .fdiv (I 60) (I a) hh=.ok (I (60/a)) hh:=λhh=>Zh _ _ _ ⟨by lia,.inl (by lia)⟩;have q1:5<=60/a:=by rw[xB (by lia)];lia
 have q2:a*(60/a)<=60:=Int.mul_ediv_self_le (by lia);have mx:∀ hh,qm true "max" [I 1,I (60/a)] hh=.ok (I (60/a)) hh:=λhh=>by
  simp[qm];lia
 have mm:∀ hh,yf true .mod (I (x/100)) (I (60/a)) hh=.ok (I (x/100%(60/a))) hh:=λhh=>qe _ _ _ (by lia);have hb:=mod_lt (x/100) (60/a) (by lia);generalize x/100%(60/a)=b at mm hb;have AG:a*(1+b)<=60:=wE (Ws (by lia) (by lia)) q2;have Ip:1+b<=60:=by
  have:1*(1+b)<=a*(1+b):=Int.mul_le_mul_of_nonneg_right a1 (by lia)
  lia
 obtain⟨A,rfl⟩:=Ve (show 0<=a by lia);obtain⟨B,hB⟩:=Ve (show 0<=1+b by lia);rw[hB] at AG Ip;have Nn:A*B<=60:=by exact_mod_cast AG
 by_cases c:x/7000%2=0
 ·refine⟨B,A,by lia,by lia,by lia,by lia,by rw[Vs];exact Nn,?_⟩;rw[N3];simp only[cG];simp[N,d6,nZ,oP,qe,zj,e,da,mx,mm,hB,c,yh,vH]
 ·refine⟨A,B,by lia,by lia,by lia,by lia,Nn,?_⟩;rw[N3];simp only[cG];simp[N,d6,nZ,oP,qe,zj,e,da,mx,mm,hB,c,yh,vH]
theorem Zco(ns:List Int)(k most:Int)(hk:0<=k)(lZ:k+10<1000000)(hm:1<=most) :
  cY (run prog (n+2) "_law_inks" [.f (.dj ns),.ref 1,I most] (.code::atC k::h)) λv h'=>∃(aw:List Int)(kk:Int),iI most aw/\aw.length<=8/\k<=kk/\kk<=k+7/\v=.f (ya false aw)/\h'=.code::atC kk::h:=by
 refine cY.of λQ hQ=>?_;have N:=Zq n h ns k hk (by lia);have hd:=Yt ns (k+1);generalize j3 ns (k+1)=x at N hd;have h5:=mod_lt x 5 (by decide);obtain⟨T,hT⟩:=Ve h5.1;have m5:∀ hh,yf true .mod (I x) (I 5) hh=.ok (I (x%5)) hh:=λhh=>qe _ _ _ (by decide);have d2:∀ hh,yf true .fdiv (I most) (I 2) hh=.ok (I (most/2)) hh:=λhh=>Zh _ _ _ ⟨by decide,.inl (by decide)⟩;rw[Ya7];simp only[dm];have IW:=λa b ks=>Qdd a b h [] ks;have LP:=λa b c d=>uK a b h [] c d;simp[N,iy,IW,LP,m5,hT,ym _ (T:Int) (by lia)];refine Yq (Q:=λr=>cY (yb _ r) _) T (λi σ hh=>∃(ks:List Int)(z5 z6:Option MV),jS most ks (2+i)/\hh=.code::atC (k+1+(i:Int))::(h++[.iH ks])/\σ=[some (.f (.dj ns)),some (.ref 1),some (I most),some (I x),some (.ref (h.length+2)),z5,z6]) ?_ ?_ ?_
 ·exact⟨_,none,none,jS.start hm,by simp,rfl⟩
 ·rintro i σ hh oH ⟨ks,z5,z6,d,rfl,rfl⟩ Q hQ;have N:=Zq n (h++[.iH ks]) ns (k+1+i) (by lia) (by lia);have hd:=Yt ns (k+1+i+1);generalize j3 ns (k+1+i+1)=y at N hd;have bm:∀ hh,yf true .mod (I (y*7919)) (I (most+1)) hh=.ok (I (y*7919%(most+1))) hh:=λhh=>qe _ _ _ (by lia);have hv:=mod_lt (y*7919) (most+1) (by lia);have pJ:zK y 7919:=qq (by decide);have di:∀ hh,yf true .fdiv (I most) (I ((i:Int)+2)) hh=.ok (I (most/((i:Int)+2))) hh:=λhh=>Zh _ _ _ ⟨by lia,.inl (by lia)⟩;have q0:0<=most/((i:Int)+2):=Int.ediv_nonneg (by lia) (by lia);have q1:most/((i:Int)+2)<=most:=Int.ediv_le_self _ (by lia);have h3:=mod_lt y 3 (by decide);obtain⟨v,v0,v1,ev⟩:∃ v:Int,0<=v/\v<=most/\cK [I (y*7919%(most+1)),I (most/2),I (most/((i:Int)+2))] (y%3)=some (I v):=by
   obtain⟨w,hw,e⟩:=B8 [I (y*7919%(most+1)),I (most/2),I (most/((i:Int)+2))] _ h3.1 (by simpa using h3.2);simp only[ua,Ud,or_false] at hw
   rcases hw with rfl|rfl|rfl
   all_goals exact⟨_,by lia,by lia,e⟩
  have cl:=IW .code (atC (k+1+(i:Int)+1)) ks;have sl:ks.length<1000000:=by have:=d.sz;lia
  have st:=LP .code (atC (k+1+(i:Int)+1)) (.iH ks) (.iH (YC ks v));simp only[wz] at st;simp[Zm,N,bm,Qq,qe,pJ,d2,di,zj,ev,cl,sl,st];exact hQ _ _ ⟨YC ks v,_,_,d.add ⟨v0,v1⟩,by simp;lia,rfl⟩
 ·rintro σ hh ⟨ks,z5,z6,d,rfl,rfl⟩;have cl:=IW .code (atC (k+1+(T:Int))) ks;have sl:ks.length<64:=by have:=d.sz;lia
  have F:=ZP .code (atC (k+1+(T:Int))) (h++[.iH ks]) ((mr ks).map FV.int);have er:FV.lst ((mr ks).map FV.int)=ya false (mr ks):=rfl;have lv:=sV k (k+1+(T:Int)) h [.iH ks,.dead] (ya false (mr ks));simp only[Wf] at F;simp[jZ,cl,sl,vc] at F ⊢;simp[F,er,lv];have hs:=d.sz;exact hQ _ _ ⟨mr ks,_,d.aw (by lia),by rw[(GZ ks).length_eq];lia,by lia,by lia,rfl,rfl⟩
end
end MP
end
section
namespace MP
open PySem
section
variable (n:Nat) (h:MH)
theorem qbR(ns:List Int)(k:Int)(most:Int)(I0 J0:Nat)(hk:0<=k)(lZ:k+1+(I0*J0:Nat)<1000000)(hm:1<=most)(hi:I0<=1000)(Dj:1<=I0)(hj:J0<=1000) :
  cY (run prog (n+2) "_law_shades" [.f (.dj ns),.ref 1,I most,I I0,I J0] (.code::atC k::h)) λv h'=>∃ rows kk,Drawn most rows I0 J0/\k<=kk/\kk<=k+1+(I0*J0:Nat)/\v=.ref (h.length+2)/\h'=.code::atC kk::Ys 2 h rows:=by
 refine cY.of λQ hQ=>?_;have N0:=Zq n h ns k hk (by lia);have hd:=Yt ns (k+1);generalize j3 ns (k+1)=x at N0 hd;have m3:rV x 3:=⟨by decide,.inl (by decide)⟩;have m2:rV most 2:=⟨by decide,.inl (by decide)⟩;have mp:0<most+1:=by lia
 have hs:=mod_lt (x/3) (most+1) mp;generalize hf:(x/3)%(most+1)=f3 at hs;rw[yaJ];simp only[cq];simp[N0,Zh,Qq,qe,m3,m2,mp,hf,zj,ym _ (I0:Int) (by lia)];refine Yq (Q:=λr=>cY (yb _ r) _) I0 (λi σ hh=>∃ kk rows z8 z9 kM,k+1<=kk/\kk<=k+1+(i*J0:Nat)/\Drawn most rows i J0/\hh=.code::atC kk::Ys 2 h rows /\
  σ=[some (.f (.dj ns)),some (.ref 1),some (I most),some (I I0),some (I J0),some (I x),some (.f (.lst [.int 0,.int most,.int (most/2),.int f3])),some (.ref (h.length+2)),z8,z9,kM]) ⟨k+1,[],none,none,none,by lia,by simp,⟨rfl,by simp,by simp⟩,by simp[Ys,Zr],rfl⟩ ?_ ?_
 ·rintro i σ hh oH ⟨kk,rows,z8,z9,kM,hk1,hkk,d,rfl,rfl⟩ Q hQ;have Au:(i+1)*J0<=I0*J0:=Wx _ oH;rw[Uy] at Au;have hrl:rows.length<aG:=by rw[Yd,d.len];lia
  have hG:Ys 2 h rows=Ys 2 h rows:=rfl;have lG:(Ys 2 h rows).length=h.length+1+rows.length:=by simp[Ys];lia
  simp[Zm,ym _ (J0:Int) (by lia)];refine Yq (Q:=λr=>Nx r _) J0 (λj σ hh=>∃ kj r kM,kk<=kj/\kj<=kk+(j:Int)/\(r.length=j/\∀ v∈r,0<=v/\v<=most)/\hh=.code::atC kj::(Ys 2 h rows++[ma r]) /\
   σ=[some (.f (.dj ns)),some (.ref 1),some (I most),some (I I0),some (I J0),some (I x),some (.f (.lst [.int 0,.int most,.int (most/2),.int f3])),some (.ref (h.length+2)),some (I i),some (.ref ((Ys 2 h rows).length+2)),kM]) ⟨kk,[],kM,by lia,by simp,⟨rfl,by simp⟩,by simp,rfl⟩ ?_ ?_
  ·rintro j σ hh hjl ⟨kj,r,kM,HU,hkj,⟨oE,HB⟩,rfl,rfl⟩ Q hQ;generalize hg:Ys 2 h rows=g at *;have N:=Zq n (g++[ma r]) ns kj (by lia) (by lia);have hd2:=Yt ns (kj+1);generalize j3 ns (kj+1)=y at N hd2;have hl:r.length<aG:=by rw[Yd];lia
   have c0:=rM .code (atC kj) g [] (r.map λi=>MV.f (.int i));have c1:=rM .code (atC (kj+1)) g [] (r.map λi=>MV.f (.int i));have s0:=λys=>sI .code (atC kj) g [] (r.map λi=>MV.f (.int i)) ys;have s1:=λys=>sI .code (atC (kj+1)) g [] (r.map λi=>MV.f (.int i)) ys;have pJ:zK y 7919:=qq (by decide);have app:∀ v,(0<=v/\v<=most)->∀ w∈r++[v],0<=w/\w<=most:=λv hv w hw=>by
    rcases Wg.mp hw with hw|hw
    ·exact HB w hw
    ·simp at hw;subst hw;exact hv
   by_cases a1:x%3=0
   ·have e3:cK [I 0,I most,I (most/2),I f3] 3=some (I f3):=rfl;simp[Zm,qe,a1,c0,e3,hl,s0];exact hQ _ _ ⟨kj,r++[f3],_,by lia,by lia,⟨by simp[oE],app f3 (by lia)⟩,by simp,rfl⟩
   ·by_cases a2:x%3=1
    ·have h4:=mod_lt y 4 (by decide);obtain⟨v,hv,ev⟩:∃ v:Int,(0<=v/\v<=most)/\cK [I 0,I most,I (most/2),I f3] (y%4)=some (I v):=by
      have:y%4=0\/y%4=1\/y%4=2\/y%4=3:=by lia
      rcases this with e|e|e|e <;> rw[e]
      ·exact⟨0,by lia,rfl⟩
      ·exact⟨most,by lia,rfl⟩
      ·exact⟨most/2,by lia,rfl⟩
      ·exact⟨f3,by lia,rfl⟩
     simp[Zm,qe,a2,c0,N,c1,ev,hl,s1];exact hQ _ _ ⟨kj+1,r++[v],_,by lia,by lia,⟨by simp[oE],app v hv⟩,by simp,rfl⟩
    ·have hv:=mod_lt (y*7919+x) (most+1) mp;generalize hvv:(y*7919+x)%(most+1)=v at hv;simp[Zm,qe,Qq,a1,a2,c0,N,c1,pJ,mp,hvv,hl,s1];exact hQ _ _ ⟨kj+1,r++[v],_,by lia,by lia,⟨by simp[oE],app v (by lia)⟩,by simp,rfl⟩
  ·rintro σ hh ⟨kj,r,kM,HU,hkj,⟨oE,HB⟩,rfl,rfl⟩;have c0:yc (.code::atC kj::(Ys 2 h rows++[ma r])) (h.length+2)=some (Zr (h.length+3) rows.length):=by
    have:=rM .code (atC kj) h (rows.map ma++[ma r]) (Zr (h.length+3) rows.length);simpa[Ys] using this
   have s0:ye (.code::atC kj::(Ys 2 h rows++[ma r])) (h.length+2) (Zr (h.length+3) rows.length++[.ref ((Ys 2 h rows).length+2)])=.code::atC kj::Ys 2 h (rows++[r]):=by
    have:=sI .code (atC kj) h (rows.map ma++[ma r]) (Zr (h.length+3) rows.length) (Zr (h.length+3) rows.length++[.ref ((Ys 2 h rows).length+2)]);have e2:Zr (h.length+3) rows.length++[.ref ((Ys 2 h rows).length+2)]=Zr (h.length+3) (rows.length+1):=by
     rw[<- YbP,lG]
     congr 3
     lia
    rw[e2] at this ⊢;simpa[Ys] using this
   have Hy:(Zr (h.length+3) rows.length).length<aG:=by simpa[Zr] using hrl
   simp[c0,Hy,s0];exact hQ _ _ ⟨kj,rows++[r],_,_,_,by lia,by rw[Uy];lia,d.snoc ⟨oE,HB⟩,rfl,rfl⟩
 ·rintro σ hh ⟨kk,rows,z8,z9,kM,hk1,hkk,d,rfl,rfl⟩;have lv:=ybJ (h:=.code::atC k::h) (DY .code (atC kk) h rows) (by rw[d.len];lia);simp[lv];exact hQ _ _ ⟨rows,kk,d,by lia,by lia,rfl,rfl⟩
theorem Drawn.set{most:Int}{rows:List (List Int)}{i j a b:Nat}{v:Int}(d:Drawn most rows i j)(hv:0<=v/\v<=most):Drawn most (Qu rows a b v) i j:=by
 refine⟨by rw[yz,d.len],λr hr=>?_,λr hr w hw=>?_⟩
 ·rcases Qz hr with hr|⟨r0,j7,rfl⟩
  ·exact d.lH r hr
  ·simp[d.lH r0 j7]
 ·rcases Qz hr with hr|⟨r0,j7,rfl⟩
  ·exact d.sh r hr w hw
  ·rcases wu hw with hw|rfl
   ·exact d.sh r0 j7 w hw
   ·exact hv
theorem ZaQ(ns:List Int)(k:Int)(hk:0<=k)(lZ:k+1000<1000000) :
  cY (run prog (n+4) "_law_plain_case" [.f (.dj ns),.ref 1] (.code::atC k::h)) λv h'=>∃ most rows aw kk H W,1<=most/\most<=100000000000000000000000000/\1<=H/\H<=60/\1<=W/\W<=60/\H*W<=60/\Drawn most rows H W/\iI most aw/\aw.length<=8/\k<=kk/\kk<=k+200 /\
   v=.f (.tup [.int most,Qb false false rows,ya false aw])/\h'=.code::atC kk::h:=by
 refine cY.of λQ hQ=>?_;obtain⟨most,m1,m2,M⟩:=QcD n h ns k hk (by lia);obtain⟨H,W,h1,h2,w1,w2,hw,S⟩:=qcr (n+1) h ns (k+1+1) (by lia) (by lia);obtain⟨v,h',S2,rows,kk,d,k1,k2,rfl,rfl⟩:=qbR (n+1) h ns (k+1+1+1) most H W (by lia) (by lia) m1 (by lia) h1 (by lia);obtain⟨v,h',S3,aw,k3,K,il,k4,k5,rfl,rfl⟩:=Zco (n+1) (Ys 2 h rows) ns kk most (by lia) (by lia) m1;have N:=Zq (n+2) (Ys 2 h rows) ns k3 (by lia) (by lia);have hd:=Yt ns (k3+1);generalize j3 ns (k3+1)=x at N hd;have h6:=mod_lt x 6 (by decide);obtain⟨T,hT⟩:=Ve h6.1;have m6:∀ hh,yf true .mod (I x) (I 6) hh=.ok (I (x%6)) hh:=λhh=>qe _ _ _ (by decide);have il2:2<=aw.length:=by
  rcases aw with _|⟨a,_|⟨b,r⟩⟩
  ·simp at *;exact absurd K.z (by simp)
  ·have z:=K.z;have m:=K.m;simp at z m;lia
  ·simp
 rw[Qaf];simp only[bA];simp[M,S,S2,S3,N,m6,hT,ym _ (T:Int) (by lia)];refine Yq (Q:=λr=>cY (yb _ r) _) T (λi σ hh=>∃ rows z6 z7 z8 z9,Drawn most rows H W/\hh=.code::atC (k3+1+(i:Int))::Ys 2 h rows/\σ=[some (.f (.dj ns)),some (.ref 1),some (I most),some (.f (.tup [.int H,.int W])),some (.ref (h.length+2)),some (.f (ya false aw)),z6,z7,z8,z9]) ⟨rows,none,none,none,none,d,by simp,rfl⟩ ?_ ?_
 ·rintro i σ hh oH ⟨rows,z6,z7,z8,z9,d,rfl,rfl⟩ Q hQ;have N:=Zq (n+2) (Ys 2 h rows) ns (k3+1+i) (by lia) (by lia);have hd:=Yt ns (k3+1+i+1);generalize j3 ns (k3+1+i+1)=y at N hd;have dv:∀ j:Int,0<j->j<1073741824->∀ hh,yf true .fdiv (I y) (I j) hh=.ok (I (y/j)) hh:=λj a b hh=>Zh _ _ _ ⟨a,.inl b⟩;have nZ:=dv 100 (by decide) (by decide);have IP:=dv 300 (by decide) (by decide);have rl:=dv 20000 (by decide) (by decide);have mi:∀ hh,yf true .mod (I y) (I ((aw.length:Int)-1)) hh=.ok (I (y%((aw.length:Int)-1))) hh:=λhh=>qe _ _ _ (by lia);have ho:=mod_lt y ((aw.length:Int)-1) (by lia);generalize y%((aw.length:Int)-1)=o at mi ho;have mH:∀ hh,yf true .mod (I (y/300)) (I (H:Int)) hh=.ok (I (y/300%(H:Int))) hh:=λhh=>qe _ _ _ (by lia);have mW:∀ hh,yf true .mod (I (y/20000)) (I (W:Int)) hh=.ok (I (y/20000%(W:Int))) hh:=λhh=>qe _ _ _ (by lia);have hH:=mod_lt (y/300) (H:Int) (by lia);have hW:=mod_lt (y/20000) (W:Int) (by lia);generalize y/300%(H:Int)=a at mH hH;generalize y/20000%(W:Int)=b at mW hW;obtain⟨A,rfl⟩:=Ve hH.1;obtain⟨B,rfl⟩:=Ve hW.1;obtain⟨O,rfl⟩:=Ve ho.1;have a1:cK ((aw.map FV.int).map MV.f) (O:Int)=some (I (aw.getD O 0)):=by
   rw[qR _ _ (by lia)];simp[uh,wb (show O<aw.length by lia)]
  have a2:cK ((aw.map FV.int).map MV.f) ((O:Int)+1)=some (I (aw.getD (O+1) 0)):=by
   rw[qR _ _ (by lia),show((O:Int)+1).toNat=O+1 by lia];simp[uh,wb (show O+1<aw.length by lia)]
  simp only[Wf] at a1 a2;generalize aw.getD O 0=q1 at a1;generalize aw.getD (O+1) 0=q2 at a2;have dq:∀ hh,yf true .fdiv (I (q1+q2)) (I 2) hh=.ok (I ((q1+q2)/2)) hh:=λhh=>Zh _ _ _ ⟨by decide,.inl (by decide)⟩;generalize HK:(q1+q2)/2+y/100%3-1=mid;obtain⟨v,v0,v1,ev⟩:∃ v:Int,0<=v/\v<=most/\(if 0<(if mid<most then mid else most) then(if mid<most then mid else most) else 0)=v:=by
   refine⟨_,?_,?_,rfl⟩ <;> split <;> split <;> lia
  obtain⟨row,eA⟩:∃ row,rows[A]?=some row:=⟨_,wb (show A<rows.length by rw[d.len];lia)⟩;have lA:row.length=W:=d.lH _ (wf eA);have tp:=DY .code (atC (k3+1+(i:Int)+1)) h rows;have ar:cK (Zr (h.length+3) rows.length) (A:Int)=some (.ref (h.length+3+A)):=by
   rw[qR _ _ (by lia)];simp[Zr,show A<rows.length by rw[d.len];lia]
  have cr:=Jo .code (atC (k3+1+(i:Int)+1)) h rows A _ eA;have ix:jM W (B:Int)=some B:=by simp[jM];lia
  have sr:=zcF .code (atC (k3+1+(i:Int)+1)) h rows A (row.set B v) (by rw[d.len];lia);rw[WA] at sr;have es:rows.set A (row.set B v)=Qu rows A B v:=by
   unfold Qu;rw[List.modify_eq_set,eA];rfl
  rw[es] at sr;simp[Zm,N,nZ,IP,rl,mi,mH,mW,ya,sq,a1,a2,dq,qe,HK,ev,tp,ar,cr,lA,ix,sr];exact hQ _ _ ⟨Qu rows A B v,_,_,_,_,d.set ⟨v0,v1⟩,by simp;lia,rfl⟩
 ·rintro σ hh ⟨rows,z6,z7,z8,z9,d,rfl,rfl⟩;obtain⟨t',F⟩:=Zcr .code (atC (k3+1+(T:Int))) h rows;have lv:=sV k (k3+1+(T:Int)) h t' (.tup [.int most,Qb false false rows,ya false aw]);simp[F,yh,zj,lv];exact hQ _ _ ⟨most,rows,aw,_,H,W,m1,m2,h1,h2,w1,w2,hw,d,K,il,by lia,by lia,rfl,rfl⟩
end
section
variable (n:Nat) (h:MH)
theorem qbk(b1 b2:Bool)(rows:List (List Int))(hl:rows.length<=aG):run prog (n+1) "own_rows" [.f (Qb b1 b2 rows)] h=.ok (.f (Qb true true rows)) h:=by
 simp[Zb,ZV,eU,Qb,stM];rw[Zz (e:=MV.f∘ya b2) (g:=MV.f∘ya true) rows [] none (by simpa using hl) (λy _ z=>⟨_,by simp[zk,ya];exact⟨rfl,rfl⟩⟩)];simp[Qb,ya,sq]
theorem yaQ(most:Int)(rows:List (List Int))(g:Good most rows):run prog (n+1) "fault_of" [.f (Qb true true rows),I 0,I most] h=.ok (.f .bG) h:=by
 obtain⟨m1,ne,⟨w,w0,hw⟩,sh,sz⟩:=g;cases rows with
 |nil=>exact absurd rfl ne
 |cons r0 rs =>
  have j7:=hw r0 (by simp);have e1:¬ most<1:=by lia
  have e2:r0≠[]:=by intro e;subst e;simp at j7;lia
  have e7:qb h (.f (ya true r0))=some (r0.map (MV.f∘FV.int)):=by simp[ya]
  simp[Zb,yX,e1,Qb,e7,e2];rw[<- xr (f:=MV.f) (g:=ya true),<- ub (f:=MV.f∘ya true),QO (e:=MV.f∘ya true) (st:=λz=>[some (.f (sq true (ya true r0::rs.map (ya true)))),some (I 0),some (I most),z]) (hp:=λ_=>h) (f:=λ_ r=>some (.f (ya true r))) _ none]
  ·simp
  ·intro r hr z;have e3:=hw r hr;have e4:r≠[]:=by intro e;subst e;simp at e3;lia
   have e5:¬ sQ r<0:=by have:=sh r hr _ (Kg e4);lia
   have e6:¬ most<Br r:=by have:=sh r hr _ (KL e4);lia
   have q1:=KJ true h (.f (ya true r)) r (by simp[ya]) e4;have q2:=YcD true h (.f (ya true r)) r (by simp[ya]) e4;have q3:qb h (.f (ya true r))=some (r.map (MV.f∘FV.int)):=by simp[ya]
   simp[Zm,q1,q2,q3,e5,e6,e7,e3,j7]
theorem YaA(most:Int)(b1 b2:Bool)(rows:List (List Int))(g:Good most rows):run prog (n+2) "Picture.__init__" [.ref h.length,I most,.f (Qb b1 b2 rows)] (h++[.obj "Picture" []]) =
  .ok (.f .bG) (h++[.obj "Picture" [("most",I most),("rows",.f (Qb true true rows))]]):=by
 have hz:rows.length<=aG:=vf g.sz (by decide);have t:=bJ.obj h "Picture" [("most",.int most),("rows",Qb true true rows)] [];simp only[ub,xn] at t;simp[Zb n.succ,qp,qbk _ _ b1 b2 rows hz,yaQ _ _ most rows g,zg,t];exact Up (by simp)
theorem zU(most:Int)(b1 b2:Bool)(rows:List (List Int))(g:Good most rows):YF prog (run prog (n+2)) true "Picture" [I most,.f (Qb b1 b2 rows)] h=.ok (.f (Qj most rows)) h:=by
 simp[YF,YaA n h most b1 b2 rows g,bJ.app,Qj,zj]
theorem Mu(m:Int)(rows:List (List Int)):run prog (n+1) "high" [.f (Qj m rows)] h=.ok (I rows.length) h:=by
 simp[Zb,DE,Qj,Qb]
theorem O4(m:Int)(r:List Int)(rows:List (List Int)):run prog (n+1) "wide" [.f (Qj m (r::rows))] h=.ok (I r.length) h:=by
 simp[Zb,DK,Qj,Qb,ya]
end
theorem y0(h:MH):yb h .stuck=.stuck:=rfl
section
variable (n:Nat) (h:MH)
theorem Mz(m i j:Int)(r:List Int)(rows:List (List Int)):run prog (n+2) "has_cell" [.f (Qj m (r::rows)),.f (.tup [.int i,.int j])] h=.ok (B (decide (0<=i/\i<rows.length+1/\0<=j/\j<r.length))) h:=by
 simp[Zb n.succ,YW,Mu,O4,Bool.and_assoc]
theorem qbi(m i j:Int)(r:List Int)(rows:List (List Int)):run prog (n+3) "ask_cell" [.f (Qj m (r::rows)),.f (.tup [.int i,.int j])] h =
  if 0<=i/\i<rows.length+1/\0<=j/\j<r.length then .ok (.f .bG) h else .stuck:=by
 by_cases c:0<=i/\i<rows.length+1/\0<=j/\j<r.length
 ·rw[if_pos c];simp[Zb n.succ.succ,QH,Mz,c]
 ·rw[if_neg c];have:=Mz n h m i j r rows;rw[decide_eq_false c] at this;simp[Zb n.succ.succ,QH,this,y0]
end
end MP
end
section
namespace MP
open PySem
theorem Jm(h:MH)(a:Nat)(xs:List FV):kU "extend" (.ref a) [.f (.lst xs)] h=opt (yc h a) λys=>if ys.length+xs.length<=aG then .ok (.f .bG) (ye h a (ys++xs.map .f)) else .stuck:=by
 have:kU "extend" (.ref a) [.f (.lst xs)] h=opt (yc h a) λys=>opt (listOf h (.f (.lst xs))) λzs=>if ys.length+zs.length<=aG then .ok (.f .bG) (ye h a (ys++zs)) else .stuck:=rfl;rw[this];cases yc h a with
 |none=>rfl
 |some ys=>simp
section
variable (n:Nat) (h:MH)
theorem B7(xs:List FV):zg h (.ref h.length) (h++[.lst (xs.map .f)])=.ok (.ref h.length) (h++[.lst (xs.map .f)]):=by
 have cl:=zi h [] (xs.map MV.f);have tr:=bJ.app h [.lst (xs.map MV.f)];have ef:=ZQ xs;generalize xs.map MV.f=M at *;simp[zg,cl,tr,ef]
theorem ZK(H W:Nat)(mK:H*W<=100000)(hW:W<=10000)(hH:H<=10000):run prog (n+1) "cells_by_rows" [I H,I W] h=.ok (.ref h.length) (h++[.lst (((qj H W).map Za).map .f)]):=by
 suffices cY (run prog (n+1) "cells_by_rows" [I H,I W] h) λv h'=>v=.ref h.length/\h'=h++[.lst (((qj H W).map Za).map .f)] by
  obtain⟨v,h',e,rfl,rfl⟩:=this;exact e
 refine cY.of λQ hQ=>?_;rw[zaw];simp only[bQ];simp[ym _ (H:Int) (by lia)];refine Yq (Q:=λr=>cY (yb _ r) _) H (λi σ hh=>∃(z3:Option MV),hh=h++[.lst (((qj i W).map Za).map .f)]/\σ=[some (I H),some (I W),some (.ref h.length),z3]) ⟨none,by simp[qj],rfl⟩ ?_ ?_
 ·rintro i σ hh oH ⟨z3,rfl,rfl⟩ Q hQ;have nx:((qj (i+1) W).map Za).map MV.f=((qj i W).map Za).map MV.f++(((ud W).map λc=>Za (i,c)).map MV.f):=by
   unfold qj;rw[xu,Vx,Wi,Wi];simp[vc]
  simp only[nx] at hQ;have ml:(((qj i W).map Za).map MV.f).length+((ud W).map λc=>Za (i,c)).length<=aG:=by
   have:i*W<=H*W:=Wx _ (by lia);simp[QP,Yd];lia
  generalize ((qj i W).map Za).map MV.f=M at *;have cl:=zi h [] M;have st:=λys=>zp h [] M ys;simp[Zm,cl,ym _ (W:Int) (by lia),MP.stM];rw[Zz (e:=λk:Nat=>I k) (g:=λc=>MV.f (Za (i,c))) (ud W) [] none (by simp[Yd];lia) (λc _ z=>⟨some (I c),by simp[zk]⟩)];have e2:(ud W).map (λc=>MV.f (Za (i,c)))=((ud W).map λc=>Za (i,c)).map MV.f:=by simp[vc]
  simp only[wg,R.aJ,e2,Yh];generalize (ud W).map (λc=>Za (i,c))=L at *;simp[Jm,cl,ml,st];exact hQ _ _ ⟨_,rfl,rfl⟩
 ·rintro σ hh ⟨z3,rfl,rfl⟩;have lv:=B7 h ((qj H W).map Za);generalize ((qj H W).map Za).map MV.f=M at *;simp[lv];exact hQ _ _ ⟨rfl,rfl⟩
theorem OL(m:Int)(rows:List (List Int))(hr:rows≠[]):run prog (n+2) "size_of" [.f (Qj m rows)] h=.ok (.f (.tup [.int rows.length,.int (rows.headD []).length])) h:=by
 cases rows with
 |nil=>exact absurd rfl hr
 |cons r rs =>
  have a:=Mu n h m (r::rs);have b:=O4 n h m r rs;rw[Qbv];simp only[eV];simp at a b;simp[a,b]
theorem ybh(m:Int)(rows:List (List Int))(H W:Nat)(d:Drawn m rows H W)(i j:Nat)(hi:i<H)(hj:j<W)(r:List Int)(v:Int)(er:rows[i]?=some r)(ev:r[j]?=some v):run prog (n+4) "shade_at" [.f (Qj m rows),.f (.tup [.int i,.int j])] h=.ok (I v) h:=by
 obtain⟨r0,rs,e0,j7,hrs⟩:=d.cons (by lia);have A:=qbi n h m i j r0 rs;rw[if_pos (by lia),<- e0] at A;have p1:lg prog.iw "rows" (.f (Qj m rows)) h=some (.f (Qb true true rows)):=by simp[Qj]
 have q1:qb h (.f (Qb true true rows))=some (rows.map (MV.f∘ya true)):=by simp[Qb]
 have a1:cK (rows.map (MV.f∘ya true)) (i:Int)=some (.f (ya true r)):=by rw[zr,Xb,er];rfl
 have q2:qb h (.f (ya true r))=some (r.map (MV.f∘FV.int)):=by simp[ya]
 have a2:cK (r.map (MV.f∘FV.int)) (j:Int)=some (I v):=by rw[zr,Xb,ev];rfl
 rw[Ybl];simp only[dQ];simp[A,p1,q1,a1,q2,a2]
theorem yaV(most:Int)(iv:MV)(aw:List Int)(V:cC h iv aw)(K:iI most aw)(h1:1<=most):run prog (n+1) "ask_rising" [iv] h=.ok (.f .bG) h:=by
 have h2:=K.two h1;have q:=V.q;have a0:cK (aw.map (MV.f∘FV.int)) 0=some (I 0):=by
  have:=zr (aw.map (MV.f∘FV.int)) 0;change cK _ (0:Int)=_ at this;rw[this,Xb,wb (by lia)];have e:=K.head;simp only[uh,wb (show 0<aw.length by lia),Wm] at e;simp[e]
 obtain⟨b1,s1⟩:=V.slice (Qbl aw (by lia));obtain⟨b2,s2⟩:=V.slice (ZcD aw (by lia));have qr:∀ b r,qb h (.f (ya b r))=some (r.map (MV.f∘FV.int)):=λb r=>by simp[ya]
 have g1:∀ b r,Zc h (.f (ya b r))=[]:=λb r=>by simp[ya]
 have hz:∀ p:Int×Int,p∈(aw.take (aw.length-1)).zip (aw.drop 1)->p.1<p.2:=by
  rintro⟨a,b⟩ hp;obtain⟨i,hi⟩:=vv.mp hp;rw[Uz] at hi;obtain⟨e1,e2⟩:=hi;simp only at e1 e2;have l1:=(xa.mp e1).1;rw[Uq] at l1;rw[Wn (by lia)] at e1;rw[vy] at e2;have:=NL K.up (show i<1+i by lia) (by lia);simpa[uh,e1,e2] using this
 generalize aw.take (aw.length-1)=l1 at *;generalize aw.drop 1=l2 at *;rw[ZaT];simp only[cV];simp[q,show ¬((aw.length:Int)<2) by lia,a0,s1,s2,qr,g1,ycy];rw[QO (e:=λp:Int×Int=>MV.f (.tup [.int p.1,.int p.2])) (st:=λz=>[some iv,z.1,z.2]) (hp:=λ_=>h) (f:=λ_ p=>(some (I p.1),some (I p.2))) _ (none,none)]
 ·simp
 ·rintro⟨a,b⟩ hp z;have AG:a<b:=hz (a,b) hp;simp[Zm,show ¬ b<=a by lia]
theorem Qbe(most:Int)(iv:MV)(aw:List Int)(V:cC h iv aw)(K:iI most aw)(h1:1<=most):run prog (n+2) "ask_inks" [iv,I most] h=.ok (.f .bG) h:=by
 have h2:=K.two h1;have R:=yaV n h most iv aw V K h1;have q:=V.q;have a1:cK (aw.map (MV.f∘FV.int)) (-1)=some (I most):=by
  have e:=K.last;have hl:aw.length-1<aw.length:=by lia
  simp only[uh,wb hl,Wm] at e;unfold cK jM;rw[if_neg (by decide),if_pos (by simp;lia)];simp only[xi,wc,Xb];rw[show((-1:Int)+(aw.length:Int)).toNat=aw.length-1 by lia,wb hl];simp[e]
 rw[ybp];simp only[dW];simp[R,q,a1]
theorem zaL(most:Int)(rows:List (List Int))(b:Bool)(ps:List ((Int×Int)×Int))(g:Good most rows)(hp:∀ p∈ps,BL rows p.1/\0<=p.2/\p.2<=most) :
  run prog (n+3) "with_shades" [.f (Qj most rows),.f (sq b (ps.map oR))] h=.ok (.f (Qj most (ql rows ps))) h/\Good most (ql rows ps):=by
 have hz:rows.length<=aG:=vf g.sz (by decide);simp only[Zb n.succ.succ,ZaH,qc,YA];simp[Qj,Qb,MP.stM];rw[Mq _ (MV.f∘ya true) (λr z h=>⟨some (.f (ya true r)),by simp[zk,ya,qF]⟩) rows [] none h (by simpa using hz)];simp only[R.aJ,YR,R.st_ok,wg];have eo:(h++rows.map qF)++[.lst ((ud rows.length).map λi=>MV.ref (h.length+i))]=own h rows:=by simp[own]
 have el:(h++rows.map qF).length=h.length+rows.length:=by simp
 rw[eo,el];have L:=J9 (bd:=Zm (.tp [.nm 3,.nm 4]) (Qa prog (run prog (n+1+1)) [MS.eG ((ME.var 2).sub ((ME.var 3).sub (ME.cI 0))) ((ME.var 3).sub (ME.cI 1)) (ME.var 4)])) (e:=MV.f∘oR)
  (st:=λb':List (List Int)×Option MV×Option MV=>[some (MV.f (FV.obj "Picture" ["most","rows"] [FV.int most,sq true (xy (ya true) rows)])),some (MV.f (sq b (xy oR ps))),some (MV.ref (WB h+rows.length)),b'.2.1,b'.2.2]) (hp:=λb'=>own h b'.1)
  (f:=λb' p=>(Qu b'.1 p.1.1.toNat p.1.2.toNat p.2,some (.f (Zv p.1)),some (I p.2))) (λb'=>b'.1.length=rows.length/\(∀ p,BL rows p->BL b'.1 p)/\Good most b'.1) ps (rows,none,none) ⟨rfl,λ_ h=>h,g⟩ (λp hpm b' jE=>by
   obtain⟨hl,jk,hg⟩:=jE;obtain⟨oF,Dg,Df⟩:=hp p hpm;have hi:=jk p.1 oF;have kZ:p.1.1.toNat<b'.1.length:=by have:=hi.1;have:=hi.2.1;lia
   have er:b'.1[p.1.1.toNat]?=some b'.1[p.1.1.toNat]:=by simp[kZ]
   have hj:=hi.2.2.2 _ (wf er);have e1:cK ((ud rows.length).map λi=>MV.ref (h.length+i)) p.1.1=some (.ref (h.length+p.1.1.toNat)):=by
    rw[qR _ _ hi.1];rw[Xb,vt (by lia)];rfl
   have e2:jM b'.1[p.1.1.toNat].length p.1.2=some p.1.2.toNat:=by
    unfold jM;rw[if_pos hi.2.2.1,if_pos hj]
   have ht:=vI h b'.1;rw[hl] at ht;refine⟨?_,by rw[yz];exact hl,λq hq=>yb9 (jk q hq),ZbT hg Dg Df⟩;simp[Zm,ht,e1,By h b'.1 _ _ er,e2];exact Lq h b'.1 _ _ _ p.2 er)
 obtain⟨L1,L2⟩:=L;have iu:(ps.foldl (λ(b':List (List Int)×Option MV×Option MV) p=>(Qu b'.1 p.1.1.toNat p.1.2.toNat p.2,some (.f (Zv p.1)),some (I p.2))) (rows,none,none)).1=ql rows ps:=by
  unfold ql;exact KD _ _ (λb p=>rfl) ps _
 refine⟨?_,?_⟩
 ·have hl:=L2.1;rw[iu] at hl;obtain⟨t',ef⟩:=ycP h (ql rows ps);rw[hl] at ef;have g2:Good most (ql rows ps):=by rw[<- iu];exact L2.2.2
  have mk:=zU n (h++t') most false false (ql rows ps) g2;simp only[Qb,Qj] at mk ef;simp;rw[L1];simp[iu,ef,mk]
 ·rw[<- iu];exact L2.2.2
theorem zck(want:Int)(iv:MV)(n0:Int)(ns:List Int)(V:cC (.code::h) iv (n0::ns)):run prog (n+1) "nearest_ink" [I want,iv] (.code::h)=.ok (I (Zo want n0 ns)) (.code::h):=by
 have q:=V.q;simp only[ub] at q;have e:Qg (MV.f (.int n0)::ns.map (MV.f∘FV.int))=some (n0::ns):=by
  exact zD (n0::ns)
 have e2:mV (I want) iv (.code::h)=.ok (I (Zo want n0 ns)) (.code::h):=by
  simp only[mV,Qd,qc,q,xr,e];rfl
 have lv:zg (.code::h) (I (Zo want n0 ns)) (.code::h)=.ok (I (Zo want n0 ns)) (.code::h):=by
  unfold zg;rw[if_pos ⟨xb _,λi c _ e=>.inl e⟩];simp
 rw[qaH];simp only[df];simp[e2,lv]
theorem Yb5(cv:FV)(j0 mL whole:Int)(iv:MV)(n0:Int)(ns:List Int)(V:cC (.code::h) iv (n0::ns))(hw:0<whole)(hb:whole.natAbs<big) :
  run prog (n+2) "entry_of" [.f cv,I j0,I mL,I whole,iv] (.code::h)=.ok (.f (.tup [cv,.int (mL/whole),.int (Zo (j0+mL/whole) n0 ns),.int (j0+mL/whole-Zo (j0+mL/whole) n0 ns),.int (mL%whole)])) (.code::h):=by
 have N:=zck n h (j0+mL/whole) iv n0 ns V;have d1:∀ hh,yf true .fdiv (I mL) (I whole) hh=.ok (I (mL/whole)) hh:=λhh=>Zh _ _ _ ⟨hw,.inr hb⟩;have d2:∀ hh,yf true .mod (I mL) (I whole) hh=.ok (I (mL%whole)) hh:=λhh=>qe _ _ _ hw;have lv:∀ x,zg (.code::h) (.f x) (.code::h)=.ok (.f x) (.code::h):=λx=>by
  unfold zg;rw[if_pos ⟨xb _,λi c _ e=>.inl e⟩];simp
 rw[qbl];simp only[dS];simp[N,d1,d2,yh,zj,lv]
end
end MP
end
section
namespace MP
open PySem
noncomputable def jY(w k:Int):Int:=if w-k<0 then -(w-k) else w-k
theorem Om(w:Int):∀(r:List Int)(n:Int),Zo w n r∈n::r
 |[],n=>by simp[Zo]
 |k::r,n=>by
  have e:Zo w n (k::r)=Zo w (if jY w k<jY w n then k else n) r:=rfl;rw[e];have:=Om w r (if jY w k<jY w n then k else n)
  rcases ua.mp this with h|h
  ·rw[h];split <;> simp
  ·simp[h]
theorem Ka(w:Int):∀(r:List Int)(n:Int),∀ x∈n::r,jY w (Zo w n r)<=jY w x
 |[],n,x,hx=>by simp at hx;subst hx;simp[Zo]
 |k::r,n,x,hx=>by
  have e:Zo w n (k::r)=Zo w (if jY w k<jY w n then k else n) r:=rfl;rw[e];have ih:=Ka w r (if jY w k<jY w n then k else n);have h0:=ih _ (Wh)
  rcases ua.mp hx with rfl|hx
  ·refine wE h0 ?_;split <;> lia
  ·rcases ua.mp hx with rfl|hx
   ·refine wE h0 ?_;split <;> lia
   ·exact ih x (by simp[hx])
noncomputable def bH(rows:List (List Int))(p:Int×Int):Int:=(rows.getD p.1.toNat []).getD p.2.toNat 0
theorem Cy{most:Int}{rows:List (List Int)}{H W:Nat}(d:Drawn most rows H W){p:Int×Int}(h:0<=p.1/\p.1<H/\0<=p.2/\p.2<W):∃ r,rows[p.1.toNat]?=some r/\r[p.2.toNat]?=some (bH rows p)/\0<=bH rows p/\bH rows p<=most:=by
 have l1:p.1.toNat<rows.length:=by rw[d.len];lia
 have e1:rows[p.1.toNat]?=some rows[p.1.toNat]:=wb l1;have hm:=vq l1;have l2:p.2.toNat<(rows[p.1.toNat]).length:=by rw[d.lH _ hm];lia
 have e2:=wb l2;have es:bH rows p=(rows[p.1.toNat])[p.2.toNat]:=by simp[bH,uh,e1,e2]
 exact⟨_,e1,by rw[es];exact e2,by rw[es];exact d.sh _ hm _ (vq l2)⟩
theorem Z9{i:Int}(h0:-(2^200)<i)(h1:i<2^200):i.natAbs<big:=by
 have:(2:Nat)^200<=big:=xl (by decide) (by decide)
 lia
theorem Qcu(c:Cell)(g:MH)(d:Cell)(t:MH):kill [g.length+1] (c::(g++d::t))=c::(g++.dead::t):=by
 unfold kill;refine Uh λi=>?_;rw[Wl];cases i with
 |zero=>simp
 |succ i =>
  simp only[uo,Xd]
  rcases wF i g.length with hi|hi|hi
  ·rw[Ua hi,Ua hi];have:¬ i+1=g.length+1:=by lia
   simp only[this,if_false];cases g[i]? <;> rfl
  ·subst hi;simp
  ·rw[we (by lia),we (by lia)];obtain⟨m,hm⟩:∃ m,i-g.length=m+1:=⟨i-g.length-1,by lia⟩;rw[hm];have:¬ i+1=g.length+1:=by lia
   simp only[uo,this,if_false];cases t[m]? <;> rfl
theorem Jx(c:Cell)(g:MH)(ys:List FV)(t:MH):QL (.ref (g.length+1)) (c::(g++.lst (ys.map .f)::t))=.ok (.f (.lst ys)) (c::(g++.dead::t)):=by
 rw[EU _ _ ys (by have:=zi (c::g) t (ys.map MV.f);simpa using this),Qcu]
end MP
end
section
namespace MP
open PySem
theorem DZ{α:Type}{P:List α->Prop}(h0:P [])(hs:∀ l a,P l->P (l++[a]))(l:List α):P l:=by
 have:∀ l:List α,P l.reverse:=λl=>by
  induction l with
  |nil=>exact h0
  |cons a l ih=>rw[xq];exact hs _ _ ih
 have:=this l.reverse
 rwa [List.reverse_reverse] at this
structure Ent where
 p:Int×Int
 got:Int
 fo:Int
 left:Int
 odd:Int
noncomputable def Ye(e:Ent):FV:=.tup [Zv e.p,.int e.got,.int e.fo,.int e.left,.int e.odd]
noncomputable def yw(sh L:List Int):Int:=((sh.zip L).map λp=>p.1*p.2).sum
noncomputable def yQ(es:List Ent):Int:=match es.getLast? with|some e=>e.odd|none=>0
noncomputable def Yr(sh:List Int)(es:List Ent):Int:=yQ es+yw sh (es.map (·.left)).reverse
noncomputable def ky(sh:List Int)(n0:Int)(ns:List Int)(x:Int)(es:List Ent)(p:Int×Int):Ent :=
 ⟨p,Yr sh es/sh.sum,Zo (x+Yr sh es/sh.sum) n0 ns,x+Yr sh es/sh.sum-Zo (x+Yr sh es/sh.sum) n0 ns,Yr sh es%sh.sum⟩
noncomputable def Yc(sh:List Int)(n0:Int)(ns:List Int)(f:Int×Int->Int)(ps:List (Int×Int)):List Ent:=ps.foldl (λes p=>es++[ky sh n0 ns (f p) es p]) []
theorem Qy(sh:List Int)(n0:Int)(ns:List Int)(f:Int×Int->Int)(ps:List (Int×Int))(p:Int×Int) :
  Yc sh n0 ns f (ps++[p])=Yc sh n0 ns f ps++[ky sh n0 ns (f p) (Yc sh n0 ns f ps) p]:=by simp[Yc]
theorem ZR(sh:List Int)(n0:Int)(ns:List Int)(f:Int×Int->Int)(ps:List (Int×Int)):(Yc sh n0 ns f ps).length=ps.length :=
 DZ (P:=λps=>(Yc sh n0 ns f ps).length=ps.length) rfl (λl a ih=>by rw[Qy];simp[ih]) ps
theorem KN(sh:List Int)(n0:Int)(ns:List Int)(f:Int×Int->Int)(ps:List (Int×Int)):(Yc sh n0 ns f ps).map (·.p)=ps :=
 DZ (P:=λps=>(Yc sh n0 ns f ps).map (·.p)=ps) rfl (λl a ih=>by rw[Qy,Wi,ih];rfl) ps
theorem Ycg(sh:List Int)(n0:Int)(ns:List Int)(f:Int×Int->Int)(ps:List (Int×Int)):∀ e∈Yc sh n0 ns f ps,e.fo∈n0::ns :=
 DZ (P:=λps=>∀ e∈Yc sh n0 ns f ps,e.fo∈n0::ns) (by simp[Yc]) (λl a ih e he=>by
  rw[Qy] at he
  rcases Wg.mp he with he|he
  ·exact ih e he
  ·rw[Xd.mp he];exact Om _ _ _) ps
structure kJ (sh:List Int):Prop where
 nn:∀ x∈sh,0<=x/\x<2^100
 one:1<=sh.sum
 len:sh.length<=10
structure lx (most:Int) (sh:List Int) (es:List Ent):Prop where
 l:∀ e∈es,-most<=e.left/\e.left<=most
 o:0<=yQ es/\yQ es<sh.sum
theorem DS:∀(l:List Int),(∀ x∈l,0<=x)->0<=l.sum
 |[],_=>by simp
 |y::r,h=>by
  have h1:=h y (by simp);have h2:=DS r λz hz=>h z (by simp[hz]);rw[Xv];lia
theorem OC{most:Int}(hm:0<=most):∀(sh L:List Int),(∀ x∈sh,0<=x)->(∀ l∈L,-most<=l/\l<=most)->-(sh.sum*most)<=yw sh L/\yw sh L<=sh.sum*most
 |[],L,_,_=>by simp[yw]
 |x::sh,[],hs,hl=>by
  have:0<=(x::sh).sum*most:=Int.mul_nonneg (DS _ hs) hm;simp[yw];simp at this;lia
 |x::sh,l::L,hs,hl=>by
  have ih:=OC hm sh L (λz hz=>hs z (by simp[hz])) (λz hz=>hl z (by simp[hz]));have hx:=hs x (by simp);have h1:=hl l (by simp);have e1:x*l<=x*most:=Ws h1.2 hx;have e2:x*(-most)<=x*l:=Ws h1.1 hx;have e3:yw (x::sh) (l::L)=x*l+yw sh L:=by simp[yw]
  have e4:(x::sh).sum*most=x*most+sh.sum*most:=by rw[Xv,WF]
  have e5:x*(-most)=-(x*most):=Int.mul_neg ..;rw[e3,e4];lia
theorem Kp{most:Int}{sh:List Int}{es:List Ent}(hm:0<=most)(s:kJ sh)(w:lx most sh es):-most<=Yr sh es/sh.sum/\Yr sh es/sh.sum<=most:=by
 have h1:=OC hm sh (es.map (·.left)).reverse (λx hx=>(s.nn x hx).1) (λl hl=>by
  obtain⟨e,he,rfl⟩:=ue.mp (xA.mp hl);exact w.l e he)
 have h2:=w.o;have h3:=s.one;unfold Yr;constructor
 ·rw[xB (by lia)];have:-most*sh.sum=-(sh.sum*most):=by rw[Int.neg_mul,WE]
  lia
 ·have:(yQ es+yw sh (es.map (·.left)).reverse)/sh.sum<most+1:=by
   rw[Int.ediv_lt_iff_lt_mul (by lia)];have:(most+1)*sh.sum=sh.sum*most+sh.sum:=by rw[WF,WE];lia
   lia
  lia
theorem JF(es:List Ent)(e:Ent):yQ (es++[e])=e.odd:=by simp[yQ]
theorem lx.next{most:Int}{sh:List Int}{es:List Ent}{n0:Int}{ns:List Int}{x:Int}{p:Int×Int}(hm:0<=most)(s:kJ sh)(w:lx most sh es)(z:(0:Int)∈n0::ns)(m:most∈n0::ns)(hx:0<=x/\x<=most) :
  lx most sh (es++[ky sh n0 ns x es p]):=by
 have g:=Kp hm s w;refine⟨λe he=>?_,?_⟩
 ·rcases Wg.mp he with he|he
  ·exact w.l e he
  ·rw[Xd.mp he];show -most<=x+Yr sh es/sh.sum-Zo (x+Yr sh es/sh.sum) n0 ns/\x+Yr sh es/sh.sum-Zo (x+Yr sh es/sh.sum) n0 ns<=most;generalize Yr sh es/sh.sum=q at *;have b0:=Ka (x+q) ns n0 0 z;have b1:=Ka (x+q) ns n0 most m;generalize Zo (x+q) n0 ns=b at *;unfold jY at b0 b1;split at b0 <;> split at b0 <;> split at b1 <;> split at b1 <;> lia
 ·rw[JF];have h3:=s.one;exact⟨Wu _ (by lia),Vr _ (by lia)⟩
theorem lx.nil{most:Int}{sh:List Int}(s:kJ sh):lx most sh []:=⟨by simp,by have:=s.one;simp[yQ];lia⟩
theorem lx.all{most:Int}{sh:List Int}{n0:Int}{ns:List Int}{f:Int×Int->Int}(hm:0<=most)(s:kJ sh)(z:(0:Int)∈n0::ns)(m:most∈n0::ns)(ps:List (Int×Int))(hx:∀ p∈ps,0<=f p/\f p<=most):lx most sh (Yc sh n0 ns f ps):=by
 revert hx
 refine DZ (P:=λps=>(∀ p∈ps,0<=f p/\f p<=most)->lx most sh (Yc sh n0 ns f ps)) (λ_=>lx.nil s) (λl a ih hx=>?_) ps;rw[Qy];exact lx.next hm s (ih λp hp=>hx p (by simp[hp])) z m (hx a (by simp))
theorem Oo{sh:List Int}(s:kJ sh):sh.sum<2^110:=by
 have key:∀ l:List Int,(∀ x∈l,0<=x/\x<2^100)->l.sum<=l.length*2^100:=by
  intro l
  induction l with
  |nil=>simp
  |cons x l ih =>
   intro h;have h1:=h x (by simp);have h2:=ih λy hy=>h y (by simp[hy]);rw[Xv,Uc];push_cast;rw[WF]
   lia
 have h1:=key sh s.nn;have h2:=s.len
 lia
end MP
namespace MP
theorem NX(xs:List MV)(k:Nat)(hk:k<xs.length):cK xs (-((k:Int)+1))=xs.reverse[k]?:=by
 unfold cK jM;rw[if_neg (by lia),if_pos (by lia)];rw[WC hk];simp only[xi]
 congr 1
 lia
theorem Kz(M:List Int):∀(sh L:List Int)(k:Nat)(z:Int),M.drop k=L->((sh.take L.length).zipIdx k).foldl (λd p=>d+p.1*M.getD p.2 0) z=z+yw sh L
 |[],L,k,z,_=>by simp[yw]
 |x::sh,[],k,z,_=>by simp[yw]
 |x::sh,l::L,k,z,h=>by
  have e1:M.drop (k+1)=L:=by rw[<- List.drop_drop,h];rfl
  have e2:M.getD k 0=l:=by
   have:=congrArg (λq:List Int=>q[0]?) h;simp only[vy,Nat.add_zero,List.getElem?_cons_zero] at this;simp[uh,this]
  rw[Uc,Xi,wA,wj,Kz M sh L (k+1) _ e1,e2];simp[yw];lia
theorem Zb8(b:Bool)(l:List Int)(h:MH):eU "enum1" [.f (ya b l)] h=some (l.zipIdx.map (λp=>MV.f (.tup [.int ((p.2+1:Nat):Int),.int p.1])),[]):=by
 have q:qb h (.f (ya b l))=some (l.map (MV.f∘FV.int)):=by cases b <;> simp[ya]
 have g:Zc h (.f (ya b l))=[]:=by cases b <;> simp[ya]
 simp only[eU,q,ug,g,Option.some.injEq,Prod.mk.injEq,and_true];apply Uh;intro i;rw[Wl,Xb,Xb,List.getElem?_zipIdx];cases l[i]? with
 |none=>rfl
 |some x=>simp[yh,zj]
theorem Zcy(xs:List Int)(n:Nat):ZY (xs.map (MV.f∘FV.int)) none (some (n:Int))=(xs.take n).map (MV.f∘FV.int):=by
 simp only[ZY,lD,if_neg (show ¬((n:Int)<0) by lia),um,vw,Xq,wc];rw[List.map_take];by_cases h:n<=xs.length
 ·rw[Nat.min_eq_left h]
 ·rw[Nat.min_eq_right (by lia),Up (by simp),Up (by simp;lia)]
end MP
namespace MP
theorem ycf(g t:MH)(xs:List FV):zg g (.ref g.length) (g++.lst (xs.map .f)::t)=.ok (.ref g.length) (g++[.lst (xs.map .f)]):=by
 have cl:=zi g t (xs.map MV.f);have tr:bJ g (g++.lst (xs.map MV.f)::t):=bJ.app g _;have ef:=ZQ xs;generalize xs.map MV.f=M at *;have tk:(g++Cell.lst M::t).take g.length=g:=by rw[Xu];rfl
 unfold zg;rw[if_pos tr];simp only;rw[if_pos (by simp),cl];simp only[ef,tk]
noncomputable def cZ(c:Nat×Nat):Int×Int:=((c.1:Int),(c.2:Int))
theorem IZ(c:Nat×Nat):Zv (cZ c)=Za c:=rfl
end MP
namespace MP
theorem ZT(g t:MH)(x:FV):zg g (.f x) (g++t)=.ok (.f x) g:=by
 have tr:bJ g (g++t):=bJ.app g _;unfold zg;rw[if_pos tr];simp
noncomputable def Yg(c:String):FV:=.obj c [] []
section
variable (n:Nat) (h:MH)
theorem ZB(a b:Int):run prog (n+1) "ask_size" [I a,I b] h=if 1<=a/\1<=b then .ok (.f .bG) h else .stuck:=by
 rw[Ybe];simp only[dU];by_cases c:1<=a
 ·by_cases c2:1<=b
  ·have e1:¬ a<1:=by lia
   have e2:¬ b<1:=by lia
   simp[c,c2,e1,e2]
  ·have e1:¬ a<1:=by lia
   have e2:b<1:=by lia
   simp[c2,e1,e2,y0]
 ·have e1:a<1:=by lia
  simp[c,e1,y0]
section
variable (w:MV) (H W:Nat) (h1:1<=H) (h2:1<=W) (mK:H*W<=100000) (hW:W<=10000) (hH:H<=10000)
include h1 h2 mK hW hH
theorem za2:run prog (n+2) "Way.order" [w,I H,I W] h=.ok (.ref h.length) (h++[.lst (((qj H W).map Za).map .f)]):=by
 have A:=ZB n h H W;rw[if_pos (by lia)] at A;have C:=ZK n h H W mK hW hH;have lv:=B7 h ((qj H W).map Za);generalize ((qj H W).map Za).map MV.f=M at *;rw[Qa3];simp only[dt];simp[A,C,lv]
theorem Ya3:run prog (n+2) "FroWay.order" [w,I H,I W] h=.ok (.ref h.length) (h++[.lst (((QS H W).map Za).map .f)]):=by
 suffices cY (run prog (n+2) "FroWay.order" [w,I H,I W] h) λv h'=>v=.ref h.length/\h'=h++[.lst (((QS H W).map Za).map .f)] by
  obtain⟨v,h',e,rfl,rfl⟩:=this;exact e
 refine cY.of λQ hQ=>?_;have A:=ZB n h H W;rw[if_pos (by lia)] at A;rw[zaz];simp only[bV];simp[A,ym _ (H:Int) (by lia)];refine Yq (Q:=λr=>cY (yb _ r) _) H (λi σ hh=>∃(z4 z5:Option MV),hh=h++[.lst (((QS i W).map Za).map .f)]/\σ=[some w,some (I H),some (I W),some (.ref h.length),z4,z5]) ⟨none,none,by simp[QS],rfl⟩ ?_ ?_
 ·rintro i σ hh oH ⟨z4,z5,rfl,rfl⟩ Q hQ;have nx:((QS (i+1) W).map Za).map MV.f=((QS i W).map Za).map MV.f++(((ud W).map λc=>Za (i,if i%2=0 then c else W-1-c)).map MV.f):=by
   unfold QS;rw[xu,Vx,Wi,Wi];simp[vc]
  simp only[nx] at hQ;have ml:(((QS i W).map Za).map MV.f).length+W<=aG:=by
   have:i*W<=H*W:=Wx _ (by lia);simp[Lk,Yd];lia
  generalize ((QS i W).map Za).map MV.f=M at *;have cl:=zi h [] M;have st:=λys=>zp h [] M ys;have m2:∀ hh,yf true .mod (I i) (I 2) hh=.ok (I ((i:Int)%2)) hh:=λhh=>qe _ _ _ (by decide);have hL:((ud W).map λc=>Za (i,c)).length=W:=by simp
  have eR:((ud W).map λc=>Za (i,c)).reverse=(ud W).map λc=>Za (i,W-1-c):=by
   have:=congrArg (xy Za) (qci i W);rw[Wr,Wf,Wf] at this;exact this
  simp[Zm,cl,ym _ (W:Int) (by lia),MP.stM];rw[Zz (e:=λk:Nat=>I k) (g:=λc=>MV.f (Za (i,c))) (ud W) [] none (by simp[Yd];lia) (λc _ z=>⟨some (I c),by simp[zk]⟩)];have e2:(ud W).map (λc=>MV.f (Za (i,c)))=((ud W).map λc=>Za (i,c)).map MV.f:=by simp[vc]
  simp only[wg,R.aJ,e2,Yh];by_cases c:i%2=0
  ·have ci:¬((i:Int)%2=1):=by lia
   simp only[c,if_true] at hQ;generalize (ud W).map (λc=>Za (i,c))=L at *;simp[m2,ci,Jm,cl,hL,ml,st];exact hQ _ _ ⟨_,_,rfl,rfl⟩
  ·have ci:((i:Int)%2=1):=by lia
   simp only[c,if_false] at hQ;rw[<- eR] at hQ;generalize (ud W).map (λc=>Za (i,c))=L at *;have hLR:L.reverse.length=W:=by simp[hL]
   have eM:(L.map MV.f).reverse=L.reverse.map MV.f:=by rw[Wr]
   generalize L.reverse=LR at *;simp[m2,ci,eM,Jm,cl,hLR,ml,st];exact hQ _ _ ⟨_,_,rfl,rfl⟩
 ·rintro σ hh ⟨z4,z5,rfl,rfl⟩;have lv:=B7 h ((QS H W).map Za);generalize ((QS H W).map Za).map MV.f=M at *;simp[lv];exact hQ _ _ ⟨rfl,rfl⟩
theorem za4:run prog (n+2) "ColumnWay.order" [w,I H,I W] h=.ok (.ref h.length) (h++[.lst (((zY H W).map Za).map .f)]):=by
 suffices cY (run prog (n+2) "ColumnWay.order" [w,I H,I W] h) λv h'=>v=.ref h.length/\h'=h++[.lst (((zY H W).map Za).map .f)] by
  obtain⟨v,h',e,rfl,rfl⟩:=this;exact e
 refine cY.of λQ hQ=>?_;have A:=ZB n h H W;rw[if_pos (by lia)] at A;have C:=ZK n h W H (by rw[Vs];exact mK) hH hW;obtain⟨t',F⟩:=DP h [] ((qj W H).map Za);have gz:(qj W H).length<=aG:=by rw[QP,Vs,Yd];lia
 have eC:(qj W H).map (λp=>MV.f (Za (p.2,p.1)))=((zY H W).map Za).map MV.f:=by unfold zY;simp[vc]
 have hq:∀ hh,qb hh (.f (.lst ((qj W H).map Za)))=some ((qj W H).map λp=>MV.f (Za p)):=λhh=>by simp[vc]
 have gq:∀ hh,Zc hh (.f (.lst ((qj W H).map Za)))=[]:=λhh=>rfl;have lv:zg h (.ref (h++t').length) (h++t'++[.lst (((zY H W).map Za).map .f)])=.ok (.ref h.length) (h++[.lst (((zY H W).map Za).map .f)]):=by
  have cl:=zi (h++t') [] (((zY H W).map Za).map MV.f);have tr:bJ h (h++t'++[.lst (((zY H W).map Za).map MV.f)]):=by rw[ui];exact bJ.app h _
  have ef:=ZQ ((zY H W).map Za);generalize ((zY H W).map Za).map MV.f=M at *;have tk:(h++t'++[Cell.lst M]).take h.length=h:=by rw[ui,Xu];rfl
  unfold zg;rw[if_pos tr];simp only;rw[if_pos (by simp),cl];simp only[ef,tk]
 generalize hvl:FV.lst ((qj W H).map Za)=vl at *;generalize hvm:((qj W H).map Za).map MV.f=vm at *;rw[Qag];simp only[bD];simp[A,C,F,hq,gq,MP.stM];rw[Qv (e:=λp:Nat×Nat=>MV.f (Za p)) (g:=λp=>MV.f (Za (p.2,p.1))) (caps:=[]) (qj W H) [] none none (by simpa using gz) (λp _ z w=>⟨some (I p.1),some (I p.2),by simp[zk]⟩)];simp only[wg,R.aJ,eC,YR,ui] at lv ⊢;generalize ((zY H W).map Za).map MV.f=M at *;simp at lv;simp[lv];exact hQ _ _ ⟨rfl,rfl⟩
end
theorem CI(W:String->List MV->MH->R MV)(c:String)(hi:prog.meths c "__init__"=none):YF prog W true c [] h=.ok (.f (Yg c)) h:=by
 simp[YF,hi,zj,bJ.app,Yg]
end
end MP
end
section
namespace MP
open PySem
noncomputable def Qf(H W:Nat):List (List Int):=Vc H (Vc W 0)
section
variable (n:Nat) (h:MH)
theorem zbn(most:Int)(H W:Nat)(hm:1<=most)(h1:1<=H)(h2:H<=1000)(w1:1<=W)(w2:W<=1000)(b:Bool)(ps:List ((Int×Int)×Int))(hp:∀ p∈ps,(0<=p.1.1/\p.1.1<H/\0<=p.1.2/\p.1.2<W)/\0<=p.2/\p.2<=most) :
  run prog (n+4) "laid_out" [I most,.f (.tup [.int H,.int W]),.f (sq b (ps.map oR))] h=.ok (.f (Qj most (ql (Qf H W) ps))) h:=by
 have g:Good most (Qf H W):=by
  refine⟨hm,by simp[Qf];lia,⟨W,w1,λr hr=>by rw[vk hr];simp⟩,λr hr v hv=>?_,by simp[Qf];lia⟩;rw[vk hr] at hv;rw[vk hv];lia
 have WS:=(zaL n h most (Qf H W) b ps g (λp nR=>⟨⟨(hp p nR).1.1,by simpa[Qf] using(hp p nR).1.2.1,(hp p nR).1.2.2.1,λr hr=>by rw[vk hr];simpa using(hp p nR).1.2.2.2⟩,(hp p nR).2⟩)).1;have mk:=zU (n+1) h most false false (Qf H W) g;have b1:∀ hh,yf true .mul (.f (.lst [.int 0])) (I (W:Int)) hh=.ok (.f (ya false (Vc W 0))) hh:=λhh=>by
  have c:-(2^63)<=(W:Int)/\(W:Int)<2^63/\1*(W:Int).toNat<=aG:=⟨by lia,by lia,by rw[Yd];lia⟩;have e:(Vc W [MV.f (.int 0)]).flatten=((Vc W (0:Int)).map FV.int).map MV.f:=by
   rw[Uv];simp
  unfold yf;simp only[Qd,listOf,qc,ub,xn,Uc,Wj,Xw];rw[if_pos c,Xq,e,Yh];rfl
 have b2:∀ hh,yf true .mul (.f (.lst [ya false (Vc W 0)])) (I (H:Int)) hh=.ok (.f (Qb false false (Qf H W))) hh:=λhh=>by
  have c:-(2^63)<=(H:Int)/\(H:Int)<2^63/\1*(H:Int).toNat<=aG:=⟨by lia,by lia,by rw[Yd];lia⟩;have e:(Vc H [MV.f (ya false (Vc W 0))]).flatten=((Qf H W).map (ya false)).map MV.f:=by
   rw[Uv];simp[Qf]
  unfold yf;simp only[Qd,listOf,qc,ub,xn,Uc,Wj,Xw];rw[if_pos c,Xq,e,Yh];rfl
 rw[zbj];simp only[dR];have a0:cK [I (H:Int),I (W:Int)] 0=some (I (H:Int)):=rfl;have a1:cK [I (H:Int),I (W:Int)] 1=some (I (W:Int)):=rfl;generalize ya false (Vc W 0)=z at *;generalize Qb false false (Qf H W)=zz at *;generalize sq b (ps.map oR)=pp at *;generalize Qj most (Qf H W)=p0 at *;simp[a0,a1,b1,b2,zj,mk,WS]
theorem ZaI(iv:MV)(xs:List Int)(V:cC h iv xs)(hs:1<=xs.sum)(h0:∀ x∈xs,0<=x):run prog (n+1) "ask_shares" [iv] h=.ok (.f .bG) h:=by
 have ne:xs≠[]:=by rintro rfl;simp at hs
 have e1:¬ xs.sum<1:=by lia
 have e2:¬ sQ xs<0:=by have:=h0 _ (Kg ne);lia
 have q:=V.q;have q1:=KJ true h iv xs (by rw[q];exact zD xs) ne;rw[zaZ];simp only[cU];simp[q,e1,q1,e2]
theorem QbQ(a:Nat)(es:List Ent)(p:Int×Int)(x most:Int)(iv jV:MV)(sh:List Int)(n0:Int)(ns:List Int)(ce:yc (.code::h) a=some (es.map λe=>.f (Ye e)))(V:cC (.code::h) iv sh)(V2:cC (.code::h) jV (n0::ns))
  (s:kJ sh) (w:lx most sh es) (hm:0<=most/\most<2^100):run prog (n+3) "entry_behind" [.ref a,.f (Zv p),I x,iv,jV] (.code::h)=.ok (.f (Ye (ky sh n0 ns x es p))) (.code::h):=by
 obtain⟨b,sl⟩:=V.slice (Zcy sh es.length);have q:=V.q;have E1:=Yb5 n h (Zv p) x (Yr sh es) sh.sum jV n0 ns V2 (by have:=s.one;lia) (Z9 (by have:=s.one;lia) (by have:=Oo s;lia));have it:=Zb8 b (sh.take es.length) (.code::h)
 suffices cY (run prog (n+3) "entry_behind" [.ref a,.f (Zv p),I x,iv,jV] (.code::h)) λv h'=>v=.f (Ye (ky sh n0 ns x es p))/\h'=.code::h by
  obtain⟨v,h',e,rfl,rfl⟩:=this;exact e
 refine cY.of λQ hQ=>?_;rw[zaB];simp only[a6];have lv:∀ y,zg (.code::h) (.f y) (.code::h)=.ok (.f y) (.code::h):=λy=>by
  unfold zg;rw[if_pos ⟨xb _,λi c _ e=>.inl e⟩];simp
 have go:cY (yb (.code::h) (Qa prog (run prog (n+2)) (a6.body.drop 1) [some (.ref a),some (.f (Zv p)),some (I x),some iv,some jV,some (I (yQ es)),none,none] (.code::h))) Q:=by
  simp only[a6,Vo,um];simp[ce,sl,it];refine qcv (Q:=λr=>cY (yb _ r) _) (e:=λp:Int×Nat=>MV.f (.tup [.int ((p.2+1:Nat):Int),.int p.1])) ((sh.take es.length).zipIdx) (yQ es,(none:Option MV),(none:Option MV)) (λb=>[some (.ref a),some (.f (Zv p)),some (I x),some iv,some jV,some (I b.1),b.2.1,b.2.2]) (λ_=>.code::h)
   (λb y=>(b.1+y.1*(es.map (·.left)).reverse.getD y.2 0,some (I ((y.2+1:Nat):Int)),some (I y.1))) rfl rfl ?_ ?_
  ·rintro⟨y,k⟩ hy ⟨d,z1,z2⟩;have hk:=List.mem_zipIdx_iff_getElem?.mp hy;simp only[wm,vw] at hk;have HS:k<es.length:=by
    have:=(xa.mp hk).1;simp at this;lia
   have M7:y∈sh:=xx (wf hk);have og:=NX (es.map λe=>MV.f (Ye e)) k (by simpa using HS);obtain⟨e,he⟩:∃ e,es.reverse[k]?=some e:=⟨es.reverse[k]'(by simpa using HS),by simp[HS]⟩;have pW:e∈es:=xA.mp (wf he);rw[<- Wr,Xb,he] at og;have gd:(es.map (·.left)).reverse.getD k 0=e.left:=by
    rw[uh,<- Wr,Xb,he];rfl
   have a3:cK [MV.f (Zv e.p),I e.got,I e.fo,I e.left,I e.odd] 3=some (I e.left):=rfl;have mu:zK y e.left:=.inr (.inr ⟨Z9 (by have:=s.nn y M7;lia) (by have:=s.nn y M7;lia),Z9 (by have:=w.l e pW;lia) (by have:=w.l e pW;lia)⟩);simp only[ug] at og;simp only[gd];have nk:-((k:Int)+1)=-1 + -(k:Int):=by lia
   have sE:∀ hh,qb hh (.f (Ye e))=some [MV.f (Zv e.p),I e.got,I e.fo,I e.left,I e.odd]:=λ_=>rfl;simp[Zm,ce,og,sE,a3,Qq,mu]
  ·have e1:=Kz (es.map (·.left)).reverse sh (es.map (·.left)).reverse 0 (yQ es) rfl;have ff:∀(l:List (Int×Nat)) (b:Int×Option MV×Option MV),(l.foldl (λb y=>(b.1+y.1*(es.map (·.left)).reverse.getD y.2 0,some (I ((y.2+1:Nat):Int)),some (I y.1))) b).1=l.foldl (λd p=>d+p.1*(es.map (·.left)).reverse.getD p.2 0) b.1:=by
    intro l
    induction l with
    |nil=>intro b;rfl
    |cons y l ih=>intro b;exact ih _
   have e2:=ff ((sh.take es.length).zipIdx) (yQ es,(none:Option MV),(none:Option MV));simp only[Ux,wc] at e1;rw[e1] at e2;generalize (sh.take es.length).zipIdx.foldl (λ(b:Int×Option MV×Option MV) y=>(b.1+y.1*(es.map (·.left)).reverse.getD y.2 0,some (I ((y.2+1:Nat):Int)),some (I y.1))) (yQ es,none,none)=fin at *;obtain⟨d,z1,z2⟩:=fin;simp only at e2;have e3:d=Yr sh es:=e2;subst e3;simp[q,E1,lv];exact hQ _ _ ⟨rfl,rfl⟩
 rcases List.eq_nil_or_concat es with rfl|⟨l,e,rfl⟩
 ·simp only[a6,Vo,um] at go;simp[ce,yQ] at go ⊢;exact go
 ·have og:=NX ((l++[e]).map λe=>MV.f (Ye e)) 0 (by simp);rw[<- Wr,Xb] at og;simp only[List.concat_eq_append] at *;have sE:∀ hh,qb hh (.f (Ye e))=some [MV.f (Zv e.p),I e.got,I e.fo,I e.left,I e.odd]:=λ_=>rfl;simp at og;have a4:cK [MV.f (Zv e.p),I e.got,I e.fo,I e.left,I e.odd] 4=some (I e.odd):=rfl;simp only[a6,Vo,um,JF] at go;simp only[Qa,qw,qa];simp[ce,og,a4,sE] at go ⊢;exact go
theorem Qbg(most:Int)(rows:List (List Int))(H W:Nat)(d:Drawn most rows H W)(hm:1<=most)(h1:1<=H)(h2:H<=1000)(w1:1<=W)(w2:W<=1000)(es:List Ent)(hl:es.length<=10000)
  (jk:∀ e∈es,0<=e.p.1/\e.p.1<H/\0<=e.p.2/\e.p.2<W) (hi:∀ e∈es,0<=e.fo/\e.fo<=most) :
  run prog (n+5) "dots_of" [.f (Qj most rows),.f (.lst (es.map Ye))] h=.ok (.f (Qj most (ql (Qf H W) (es.map λe=>(e.p,e.fo))))) h:=by
 have hr:rows≠[]:=by rintro rfl;have:=d.len;simp at this;lia
 have hw:(rows.headD []).length=W:=by
  cases rows with
  |nil=>exact absurd rfl hr
  |cons r rs=>exact d.lH r (by simp)
 have S:=OL (n+2) h most rows hr;rw[d.len,hw] at S;have L:=zbn n h most H W hm h1 h2 w1 w2 false (es.map λe=>(e.p,e.fo)) (λq hq=>by
  obtain⟨e,he,rfl⟩:=ue.mp hq;exact⟨jk e he,hi e he⟩)
 have p1:lg prog.iw "most" (.f (Qj most rows)) h=some (I most):=by simp[Qj]
 rw[Ybv];simp only[eW];generalize Qj most rows=pc at *;generalize ql (Qf H W) (es.map λe=>(e.p,e.fo))=so at *;simp[p1,S,eU,MP.stM,vc];rw[KW (ZC _) (λσ=>∃ z0 z1 z2 z3 z4,σ=[z0,z1,z2,z3,z4]) (e:=λe:Ent=>MV.f (Ye e)) (g:=λe=>MV.f (oR (e.p,e.fo))) es [] _ ⟨none,none,none,none,none,rfl⟩ (by simp[Yd];lia) (by
  rintro e he σ ⟨z0,z1,z2,z3,z4,rfl⟩;refine⟨[some (.f (Zv e.p)),some (I e.got),some (I e.fo),some (I e.left),some (I e.odd)],?_,_,_,_,_,_,rfl⟩;simp[zk,Ye,yh,zj])]
 have e3:(es.map λe=>MV.f (oR (e.p,e.fo)))=((es.map λe=>(e.p,e.fo)).map oR).map MV.f:=by simp
 rw[wg,R.aJ,e3,Yh];simp only[sq] at L;simp at L ⊢;simp[L]
noncomputable def l4(w:FV)(H W:Nat)(cs:List (Nat×Nat)):Prop:=∃ c ns vs f,w=.obj c ns vs/\"order"∉ns/\prog.meths c "order"=some f/\∀ n h,run prog (n+6) f [.f w,I H,I W] h=.ok (.ref h.length) (h++[.lst ((cs.map Za).map .f)])
theorem EL(most:Int)(rows:List (List Int))(H W:Nat)(d:Drawn most rows H W)(hm:1<=most)(lY:most<2^100)(h1:1<=H)(w1:1<=W)(w:FV)(cs:List (Nat×Nat))(wr:l4 w H W cs)(hc:∀ c∈cs,c.1<H/\c.2<W)(iF:cs.length<=10000)
  (iv jV:MV) (sh:List Int) (n0:Int) (ns:List Int) (V:cC (.code::h) iv sh) (V2:cC (.code::h) jV (n0::ns)) (s:kJ sh) (K:iI most (n0::ns)) (z:(0:Int)∈n0::ns) (m:most∈n0::ns) :
  run prog (n+7) "ledger" [.f (Qj most rows),.f w,iv,jV] (.code::h)=.ok (.ref (h.length+1)) (.code::(h++[.lst ((Yc sh n0 ns (bH rows) (cs.map cZ)).map λe=>.f (Ye e))])):=by
 suffices cY (run prog (n+7) "ledger" [.f (Qj most rows),.f w,iv,jV] (.code::h)) λv h'=>v=.ref (h.length+1)/\h'=.code::(h++[.lst ((Yc sh n0 ns (bH rows) (cs.map cZ)).map λe=>.f (Ye e))]) by
  obtain⟨v,h',e,rfl,rfl⟩:=this;exact e
 refine cY.of λQ hQ=>?_;have hr:rows≠[]:=by rintro rfl;have:=d.len;simp at this;lia
 have hw:(rows.headD []).length=W:=by
  cases rows with
  |nil=>exact absurd rfl hr
  |cons r rs=>exact d.lH r (by simp)
 have A:=ZaI (n+5) (.code::h) iv sh V s.one (λx hx=>(s.nn x hx).1);have B1:=Qbe (n+4) (.code::h) most jV (n0::ns) V2 K hm;have S:=OL (n+4) (.code::h) most rows hr;rw[d.len,hw] at S;obtain⟨c,fn,fv,f,rfl,no,mo,ord⟩:=wr;have O:=ord n (.code::(h++[.lst []]));have F:=Jx .code (h++[.lst []]) (cs.map Za) [];have p1:lg prog.iw "most" (.f (Qj most rows)) (.code::h)=some (I most):=by simp[Qj]
 have SH:∀(t:MH)(c:Nat×Nat),c∈cs->run prog (n+6) "shade_at" [.f (Qj most rows),.f (Za c)] (.code::(h++t))=.ok (I (bH rows (cZ c))) (.code::(h++t)):=λt c ng=>by
  have oJ:=hc c ng;obtain⟨r,e1,e2,_⟩:=Cy d (p:=cZ c) ⟨by simp[cZ],by simp[cZ];lia,by simp[cZ],by simp[cZ];lia⟩;exact ybh (n+2) _ most rows H W d c.1 c.2 oJ.1 oJ.2 r _ (by simpa[cZ] using e1) (by simpa[cZ] using e2)
 generalize Qj most rows=pc at *;have cm:∀ hh,lC "order" (.f (.obj c fn fv)) hh=some c:=λhh=>by simp[lC,no]
 have a0:cK [I (H:Int),I (W:Int)] 0=some (I (H:Int)):=rfl;have a1:cK [I (H:Int),I (W:Int)] 1=some (I (W:Int)):=rfl;generalize hwv:FV.obj c fn fv=wv at *;rw[YbH];simp only[fM];simp at O F;simp[A,p1,B1,S,a0,a1,cm,mo,O,F];refine O2 (Q:=λr=>cY (yb _ r) _) (e:=MV.f∘Za) cs (λi σ hh=>∃ z6:Option MV,hh=.code::(h++[.lst ((Yc sh n0 ns (bH rows) ((cs.take i).map cZ)).map λe=>.f (Ye e)),.dead])/\σ=[some (.f pc),some (.f wv),some iv,some jV,some (.f (.tup [.int H,.int W])),some (.ref (h.length+1)),z6]) ⟨none,by simp[Yc],rfl⟩ ?_ ?_
 ·rintro i c σ hh AD ⟨z6,rfl,rfl⟩ Q hQ;have ng:=wf AD;have E:Yc sh n0 ns (bH rows) ((cs.take (i+1)).map cZ)=Yc sh n0 ns (bH rows) ((cs.take i).map cZ)++[ky sh n0 ns (bH rows (cZ c)) (Yc sh n0 ns (bH rows) ((cs.take i).map cZ)) (cZ c)]:=by
   rw[Xz,AD];simp only[xE,Wi,ub,xn];exact Qy ..
  have ok:=lx.all (f:=bH rows) (by lia) s z m ((cs.take i).map cZ) (λp hp=>by
   obtain⟨c',eg,rfl⟩:=ue.mp hp;have oJ:=hc c' (xx eg);obtain⟨r,_,_,q⟩:=Cy d (p:=cZ c') ⟨by simp[cZ],by simp[cZ];lia,by simp[cZ],by simp[cZ];lia⟩;exact q)
  have el:(Yc sh n0 ns (bH rows) ((cs.take i).map cZ)).length<=10000:=by
   rw[ZR];simp;lia
  simp only[E] at hQ;generalize Yc sh n0 ns (bH rows) ((cs.take i).map cZ)=es at *;have sh1:=SH [.lst (es.map λe=>.f (Ye e)),.dead] c ng;have ce:yc (.code::(h++[.lst (es.map λe=>.f (Ye e)),.dead])) (h.length+1)=some (es.map λe=>.f (Ye e)):=by
   have:=zi (.code::h) [.dead] (es.map λe=>MV.f (Ye e));simpa using this
  have st:∀ ys,ye (.code::(h++[.lst (es.map λe=>.f (Ye e)),.dead])) (h.length+1) ys=.code::(h++[.lst ys,.dead]):=λys=>by
   have:=zp (.code::h) [.dead] (es.map λe=>MV.f (Ye e)) ys;simpa using this
  have Va:cC (.code::(h++[.lst (es.map λe=>.f (Ye e)),.dead])) iv sh:=V.app [.lst (es.map λe=>.f (Ye e)),.dead];have Vb:cC (.code::(h++[.lst (es.map λe=>.f (Ye e)),.dead])) jV (n0::ns):=V2.app [.lst (es.map λe=>.f (Ye e)),.dead];have BH:=QbQ (n+3) (h++[.lst (es.map λe=>.f (Ye e)),.dead]) (h.length+1) es (cZ c) (bH rows (cZ c)) most iv jV sh n0 ns ce Va Vb s ok ⟨by lia,lY⟩;have ea:(es.map λe=>MV.f (Ye e))++[MV.f (Ye (ky sh n0 ns (bH rows (cZ c)) es (cZ c)))]=(es++[ky sh n0 ns (bH rows (cZ c)) es (cZ c)]).map λe=>MV.f (Ye e):=by simp
  have ml:(es.map λe=>MV.f (Ye e)).length<aG:=by rw[Yd,wc];lia
  rw[IZ] at BH;simp only[<- ea] at hQ;generalize bH rows (cZ c)=x at *;generalize Ye (ky sh n0 ns x es (cZ c))=en at *;generalize (es.map λe=>MV.f (Ye e))=M at *;generalize Dl:Za c=cn at *;simp[Zm,ce,Dl,sh1,BH,ml,st];exact hQ _ _ ⟨_,rfl,rfl⟩
 ·rintro σ hh ⟨z6,rfl,rfl⟩;rw[wt];have lv:=ycf (.code::h) [.dead] ((Yc sh n0 ns (bH rows) (cs.map cZ)).map Ye);rw[Wf] at lv;simp only[vc] at lv;generalize ((Yc sh n0 ns (bH rows) (cs.map cZ)).map λe=>MV.f (Ye e))=M at *;simp at lv;simp[lv];exact hQ _ _ ⟨rfl,rfl⟩
end
end MP
end
section
namespace MP
open PySem
noncomputable def ow(cs:List (Nat×Nat))(m:Nat):List (Nat×Nat) :=
 cs.map (λc=>(c.2,c.1))++cs.map (λc=>(m+c.1,c.2))++cs.map (λc=>(m+c.1,m+c.2))++cs.map (λc=>(m-1-c.2,2*m-1-c.1))
noncomputable def Zj:Nat->List (Nat×Nat)
 |0=>[(0,0)]
 |k+1=>ow (Zj k) (2^k)
theorem G6:∀(k:Nat),∀ c∈Zj k,c.1<2^k/\c.2<2^k
 |0,c,h=>by
  simp[Zj] at h;subst h;simp
 |k+1,c,h=>by
  have ih:=G6 k;have p:2^(k+1)=2*2^k:=by rw[XA,Vs]
  have q:0<2^k:=Nat.two_pow_pos k;rw[p];simp only[Zj,ow,Wg,ue] at h
  rcases h with ((⟨d,hd,rfl⟩|⟨d,hd,rfl⟩)|⟨d,hd,rfl⟩)|⟨d,hd,rfl⟩ <;> (have:=ih d hd;simp only;lia)
theorem B6:∀ k:Nat,(Zj k).length=4^k
 |0=>rfl
 |k+1=>by
  simp only[Zj,ow,Xg,wc,B6 k,XA]
  lia
theorem YcT(H W:Nat)(hH:H<=16)(hW:W<=16):∃ k,k<=4/\H<=2^k/\W<=2^k/\∀ i,i<k->2^i<H\/2^i<W:=by
 by_cases h0:H<=1/\W<=1
 ·exact⟨0,by lia,by simpa using h0.1,by simpa using h0.2,λi hi=>by lia⟩
 by_cases h1:H<=2/\W<=2
 ·refine⟨1,by lia,by simpa using h1.1,by simpa using h1.2,λi hi=>?_⟩;obtain rfl:i=0:=by lia
  simp;lia
 by_cases h2:H<=4/\W<=4
 ·refine⟨2,by lia,by simpa using h2.1,by simpa using h2.2,λi hi=>?_⟩;have:i=0\/i=1:=by lia
  rcases this with rfl|rfl <;> simp <;> lia
 by_cases h3:H<=8/\W<=8
 ·refine⟨3,by lia,by simpa using h3.1,by simpa using h3.2,λi hi=>?_⟩;have:i=0\/i=1\/i=2:=by lia
  rcases this with rfl|rfl|rfl <;> simp <;> lia
 ·refine⟨4,by lia,by simpa using hH,by simpa using hW,λi hi=>?_⟩;have:i=0\/i=1\/i=2\/i=3:=by lia
  rcases this with rfl|rfl|rfl|rfl <;> simp <;> lia
theorem Z1{α:Type}{G:qD}{bd:MV->aF->MH->R (Option MV×aF)}{h:MH}{e g:α->MV}{t:α->Bool}(hg:aV G h)(Iv:aF->Prop):∀(ys:List α)(acc:List MV)(σ:aF),Iv σ->acc.length+ys.length<=aG ->
  (∀ y∈ys,∀ σ,Iv σ->∃ σ',bd (e y) σ h=.ok (if t y=true then some (g y) else none,σ') h/\Iv σ')->Zi G bd (ys.map e) acc σ h=.ok (acc++(ys.filter t).map g) h
 |[],acc,σ,_,_,_=>by simp[Zi,hg]
 |y::r,acc,σ,iv,hl,hb=>by
  obtain⟨σ',e',MZ⟩:=hb y (by simp) σ iv;simp only[Uc] at hl;have c:aV G h/\acc.length<aG:=⟨hg,by lia⟩;rw[ub,Zi,if_pos c,e',R.aJ];by_cases ht:t y=true
  ·simp only[ht,if_true];rw[Z1 hg Iv r _ σ' MZ (by simp;lia) λz hz=>hb z (by simp[hz])];simp[uv,ht]
  ·simp only[ht];have:=Z1 hg Iv r acc σ' MZ (by lia) λz hz=>hb z (by simp[hz]);simp only[Vh,if_false] at this ⊢;rw[this];simp[uv,ht]
theorem YbN{ks:List (Int×Int)}(h:ks.Nodup)(k:Int×Int):(ZH ks k).Nodup:=by
 unfold ZH;split
 ·exact h
 next n =>
  rw[ul];refine⟨h,by simp,λa ha b hb=>?_⟩;rw[Xd.mp hb]
  exactλe=>n (e ▸ ha)
theorem ZcC{ks:List (Int×Int)}{k x:Int×Int}:x∈ZH ks k↔x∈ks\/x=k:=by
 unfold ZH;split
 next m=>exact⟨.inl,λh=>h.elim id λe=>e ▸ m⟩
 next=>simp
theorem OK:∀(ms ks:List (Int×Int)),ks.Nodup->(ms.foldl ZH ks).Nodup
 |[],ks,h=>h
 |m::ms,ks,h=>OK ms _ (YbN h m)
theorem Pt:∀(ms ks:List (Int×Int)) (x:Int×Int),x∈ms.foldl ZH ks↔x∈ks\/x∈ms
 |[],ks,x=>by simp
 |m::ms,ks,x=>by
  rw[wj,Pt ms,ZcC];simp[or_assoc]
theorem DM{H W:Nat}{c:Nat×Nat}(h:c∈qj H W):c.1<H/\c.2<W:=by
 unfold qj at h;simp only[xm,ue,Xm] at h;obtain⟨r,hr,c',hc,rfl⟩:=h;exact⟨hr,hc⟩
theorem QcP{H W:Nat}{c:Nat×Nat}(h:c∈QS H W):c.1<H/\c.2<W:=by
 unfold QS at h;simp only[xm,ue,Xm] at h;obtain⟨r,hr,c',hc,rfl⟩:=h;refine⟨hr,?_⟩;simp only;split <;> lia
theorem ZcV{H W:Nat}{c:Nat×Nat}(h:c∈zY H W):c.1<H/\c.2<W:=by
 unfold zY at h;obtain⟨d,hd,rfl⟩:=ue.mp h;have:=DM hd;exact⟨this.2,this.1⟩
theorem KR(P:Prog)(W:String->List MV->MH->R MV):∀(a b:List MS)(σ:aF)(h:MH),Qa P W (a++b) σ h=(Qa P W a σ h).bind (Qa P W b)
 |[],b,σ,h=>by simp[Qa]
 |s::a,b,σ,h=>by
  rw[VF,Qa,Qa];cases e:qw P W s σ h with
  |next σ' h'=>simp[KR P W a b σ' h']
  |_=>simp
end MP
namespace MP
theorem NU:∀(l:List Int),(∀ x∈l,0<=x)->∀ y∈l,1<=y->1<=l.sum
 |[],_,y,hy,_=>by simp at hy
 |x::l,h,y,hy,h1=>by
  have h2:=DS l λz hz=>h z (by simp[hz]);have h3:=h x (by simp);rw[Xv]
  rcases ua.mp hy with rfl|hy
  ·lia
  ·have:=NU l (λz hz=>h z (by simp[hz])) y hy h1
   lia
end MP
namespace MP
theorem O8:∀(sh L:List Int)(j:Nat),j<sh.length->j<L.length->yw (sh.take (j+1)) L=yw (sh.take j) L+sh.getD j 0*L.getD j 0
 |[],L,j,h,_=>by simp at h
 |x::sh,[],j,_,h=>by simp at h
 |x::sh,l::L,0,_,_=>by simp[yw]
 |x::sh,l::L,j+1,h1,h2=>by
  have ih:=O8 sh L j (by simpa using h1) (by simpa using h2);have e:∀ s,yw (x::s) (l::L)=x*l+yw s L:=λs=>by simp[yw]
  rw[Xi,Xi,e,e,ih];simp only[List.getD_cons_succ]
  lia
theorem Ky:∀(sh L:List Int),yw (sh.take (min sh.length L.length)) L=yw sh L
 |[],L=>by simp[yw]
 |x::sh,[]=>by simp[yw]
 |x::sh,l::L=>by
  have ih:=Ky sh L;have e:∀ s,yw (x::s) (l::L)=x*l+yw s L:=λs=>by simp[yw]
  rw[Uc,Uc,Nat.succ_min_succ,Xi,e,e,ih]
end MP
namespace MP
theorem Pp{α:Type}(bd:MV->aF->MH->R (Option MV×aF))(e:α->MV)(c:α->List Int):∀(ys:List α),(∀ r∈ys,∀ z h,∃ z',bd (e r) [z] h=.ok (some (.ref h.length),[z']) (h++[qF (c r)]))->∀(acc:List MV)(z:Option MV)(h:MH),acc.length+ys.length<=aG ->
  Zi [] bd (ys.map e) acc [z] h=.ok (acc++(ud ys.length).map λi=>MV.ref (h.length+i)) (h++(ys.map c).map qF)
 |[],hb,acc,z,h,_=>by simp[Zi]
 |r::ys,hb,acc,z,h,hl=>by
  obtain⟨z',e1⟩:=hb r (by simp) z h;simp only[Uc] at hl;have ih:=Pp bd e c ys (λy hy=>hb y (by simp[hy])) (acc++[.ref h.length]) z' (h++[qF (c r)]) (by simp;lia);simp only[ub,Zi,ZC,true_and,e1,R.aJ,ih,Xg,Uc,Wj];rw[if_pos (by lia)]
  congr 1
  ·simp[Wv,vc];intro a _
   lia
  ·simp
end MP
end
section
namespace MP
open PySem
section
variable (n:Nat) (h:MH)
theorem QaH(cs:List (Nat×Nat))(m:Nat)(hc:∀ c∈cs,c.1<m/\c.2<m)(hl:cs.length<=100000)(hm:m<=1000000):run prog (n+1) "folded_once" [.f (.lst (cs.map Za)),I m] h=.ok (.f (.lst ((ow cs m).map Za))) h:=by
 have q:qb h (.f (.lst (cs.map Za)))=some (cs.map λc=>MV.f (Za c)):=by simp[vc]
 have g:Zc h (.f (.lst (cs.map Za)))=[]:=rfl;have it:eU "seq" [.f (.lst (cs.map Za))] h=some (cs.map λc=>MV.f (Za c),[]):=by simp only[eU,q,ug,g]
 have sz:cs.length<=aG:=by rw[Yd];lia
 have mu2:∀ hh,yf true .mul (I 2) (I (m:Int)) hh=.ok (I (2*(m:Int))) hh:=λhh=>Qq _ _ _ (qq (by lia));have N1:∀ f:Nat×Nat->Nat×Nat,Zw true (cs.map λc=>MV.f (Za (f c))) h=.ok (.f (.lst ((cs.map f).map Za))) h:=λf=>by
  have:=Yh (cs.map λc=>Za (f c)) (h:=h);simpa[vc] using this
 have BA:∀ a b:List (Nat×Nat),a.length+b.length<=aG->yf true .add (.f (.lst (a.map Za))) (.f (.lst (b.map Za))) h=.ok (.f (.lst ((a++b).map Za))) h:=λa b AG=>by
  have:=Yh ((a++b).map Za) (h:=h);simp only[yf,Qd,Yk,listOf,qc,wc];rw[if_pos AG,<- Wi,<- Wi];exact this
 have B1:=BA (cs.map λc=>(c.2,c.1)) (cs.map λc=>(m+c.1,c.2)) (by simp[Yd];lia);have B2:=BA (cs.map (λc=>(c.2,c.1))++cs.map (λc=>(m+c.1,c.2))) (cs.map λc=>(m+c.1,m+c.2)) (by simp[Yd];lia);have B3:=BA (cs.map (λc=>(c.2,c.1))++cs.map (λc=>(m+c.1,c.2))++cs.map (λc=>(m+c.1,m+c.2))) (cs.map λc=>(m-1-c.2,2*m-1-c.1)) (by simp[Yd];lia);have n1:=N1 λc=>(c.2,c.1);have n2:=N1 λc=>(m+c.1,c.2);have n3:=N1 λc=>(m+c.1,m+c.2);have n4:=N1 λc=>(m-1-c.2,2*m-1-c.1);have e0:ow cs m=cs.map (λc=>(c.2,c.1))++cs.map (λc=>(m+c.1,c.2))++cs.map (λc=>(m+c.1,m+c.2))++cs.map (λc=>(m-1-c.2,2*m-1-c.1)):=rfl;rw[<- e0] at B3;generalize ow cs m=out at *;generalize iF:FV.lst (cs.map Za)=cl at *;rw[QaJ];simp only[cj];simp[it,MP.stM];rw[Qv (e:=λc=>MV.f (Za c)) (g:=λc=>MV.f (Za (c.2,c.1))) (caps:=[]) cs [] none none (by simpa using sz) (λc _ z w=>⟨some (I c.1),some (I c.2),by simp[zk]⟩)];simp only[wg,R.aJ,n1];simp[it,MP.stM];rw[Qv (e:=λc=>MV.f (Za c)) (g:=λc=>MV.f (Za (m+c.1,c.2))) (caps:=[some (I m)]) cs [] none none (by simpa using sz) (λc _ z w=>⟨some (I c.1),some (I c.2),by simp[zk]⟩)];simp only[wg,R.aJ,n2];simp[it,MP.stM];rw[Qv (e:=λc=>MV.f (Za c)) (g:=λc=>MV.f (Za (m+c.1,m+c.2))) (caps:=[some (I m)]) cs [] none none (by simpa using sz) (λc _ z w=>⟨some (I c.1),some (I c.2),by simp[zk]⟩)];simp only[wg,R.aJ,n3];simp[it,MP.stM];rw[Qv (e:=λc=>MV.f (Za c)) (g:=λc=>MV.f (Za (m-1-c.2,2*m-1-c.1))) (caps:=[some (I m)]) cs [] none none (by simpa using sz) (λc ng z w=>⟨some (I c.1),some (I c.2),by
  have:=hc c ng;have e1:((m-1-c.2:Nat):Int)=(m:Int)-1-c.2:=by lia
  have e2:((2*m-1-c.1:Nat):Int)=2*(m:Int)-1-c.1:=by lia
  simp[zk,mu2,e1,e2]⟩)]
 simp only[wg,R.aJ,n4];simp at B1 B2 B3;simp[B1,B2,B3]
theorem zaC(k:Nat)(hk:k<=6):run prog (n+2) "folded_cells" [I ((2^k:Nat):Int)] h=.ok (.f (.lst ((Zj k).map Za))) h:=by
 suffices cY (run prog (n+2) "folded_cells" [I ((2^k:Nat):Int)] h) λv h'=>v=.f (.lst ((Zj k).map Za))/\h'=h by
  obtain⟨v,h',e,rfl,rfl⟩:=this;exact e
 refine cY.of λQ hQ=>?_;rw[YaD];simp only[bU];simp[zj,yh];refine JQ (Q:=λr=>cY (yb _ r) _) k (λi σ hh=>hh=h/\σ=[some (I ((2^k:Nat):Int)),some (.f (.lst ((Zj i).map Za))),some (I ((2^i:Nat):Int))]) (by show k<1000000;lia) ⟨rfl,by simp[Zj]⟩ ?_ ?_ ?_
 ·rintro i σ hh hi ⟨rfl,rfl⟩;have hp:2^i<2^k:=Nat.pow_lt_pow_right (by lia) hi;have hp6:2^k<=2^6:=xl (by lia) hk;have F:=QaH n hh (Zj i) (2^i) (G6 i) (by rw[B6];have:4^i<=4^6:=xl (by lia) (by lia);lia) (by lia);have ee:ow (Zj i) (2^i)=Zj (i+1):=rfl;have p2:(2:Int)*((2^i:Nat):Int)=((2^(i+1):Nat):Int):=by rw[XA];push_cast;lia
  have mu:∀ hh,yf true .mul (I 2) (I ((2^i:Nat):Int)) hh=.ok (I ((2^(i+1):Nat):Int)) hh:=λhh=>by
   have:=Qq true 2 ((2^i:Nat):Int) (h:=hh) (qq (by rw[XE];lia));rw[p2] at this;exact this
  have lt:((2^i:Nat):Int)<((2^k:Nat):Int):=by exact_mod_cast hp
  rw[ee] at F;generalize (((2^(i+1):Nat):Int))=b2 at *;generalize (((2^i:Nat):Int))=b at *;generalize (((2^k:Nat):Int))=bk at *;generalize (Zj (i+1)).map Za=L2 at *;generalize (Zj i).map Za=L1 at *;refine⟨by simp[lt],λQ hQ=>?_⟩;simp[F,mu];exact hQ _ _ ⟨rfl,rfl⟩
 ·rintro σ hh ⟨rfl,rfl⟩;simp
 ·rintro σ hh ⟨rfl,rfl⟩;generalize (Zj k).map Za=L at *;simp;exact hQ _ _ ⟨rfl,rfl⟩
theorem QaZ(w:MV)(H W:Nat)(h1:1<=H)(h2:1<=W)(hH:H<=16)(hW:W<=16):∃ k,k<=4/\∀ n h,run prog (n+3) "FoldedWay.order" [w,I H,I W] h=.ok (.ref h.length) (h++[.lst ((((Zj k).filter λc=>decide (c.1<H)&&decide (c.2<W)).map Za).map .f)]):=by
 obtain⟨k,hk,kH,kW,kl⟩:=YcT H W hH hW;refine⟨k,hk,λn h=>?_⟩
 suffices cY (run prog (n+3) "FoldedWay.order" [w,I H,I W] h) λv h'=>v=.ref h.length/\h'=h++[.lst ((((Zj k).filter λc=>decide (c.1<H)&&decide (c.2<W)).map Za).map .f)] by
  obtain⟨v,h',e,rfl,rfl⟩:=this;exact e
 refine cY.of λQ hQ=>?_;have A:=ZB (n+1) h H W;rw[if_pos (by lia)] at A;rw[Yag];simp only[bC];simp[A];refine JQ (Q:=λr=>cY (yb _ r) _) k (λi σ hh=>hh=h/\σ=[some w,some (I H),some (I W),some (I ((2^i:Nat):Int))]) (by show k<1000000;lia) ⟨rfl,by simp⟩ ?_ ?_ ?_
 ·rintro i σ hh hi ⟨rfl,rfl⟩;have hp6:2^i<=2^6:=xl (by lia) (by lia);have p2:(2:Int)*((2^i:Nat):Int)=((2^(i+1):Nat):Int):=by rw[XA];push_cast;lia
  have mu:∀ hh,yf true .mul (I 2) (I ((2^i:Nat):Int)) hh=.ok (I ((2^(i+1):Nat):Int)) hh:=λhh=>by
   have:=Qq true 2 ((2^i:Nat):Int) (h:=hh) (qq (by rw[XE];lia));rw[p2] at this;exact this
  have or1:((2^i:Nat):Int)<(H:Int)\/((2^i:Nat):Int)<(W:Int):=by
   rcases kl i hi with q|q
   ·left;exact_mod_cast q
   ·right;exact_mod_cast q
  generalize (((2^(i+1):Nat):Int))=b2 at *;generalize (((2^i:Nat):Int))=b at *;refine⟨?_,λQ hQ=>?_⟩
  ·by_cases c:b<(H:Int)
   ·simp[c]
   ·have c2:b<(W:Int):=or1.resolve_left c;simp[c,c2]
  ·simp[mu];exact hQ _ _ ⟨rfl,rfl⟩
 ·rintro σ hh ⟨rfl,rfl⟩;have l1:¬((2^k:Nat):Int)<(H:Int):=by lia
  have l2:¬((2^k:Nat):Int)<(W:Int):=by lia
  generalize (((2^k:Nat):Int))=b at *;simp[l1,l2]
 ·rintro σ hh ⟨rfl,rfl⟩;have C:=zaC n hh k (by lia);have it:eU "seq" [.f (.lst ((Zj k).map Za))] hh=some ((Zj k).map λc=>MV.f (Za c),[]):=by
   have q:qb hh (.f (.lst ((Zj k).map Za)))=some ((Zj k).map λc=>MV.f (Za c)):=by simp[vc]
   have g:Zc hh (.f (.lst ((Zj k).map Za)))=[]:=rfl;simp only[eU,q,ug,g]
  have sz:(Zj k).length<=aG:=by rw[B6,Yd];have:4^k<=4^4:=xl (by lia) (by lia);lia
  have lv:=B7 hh (((Zj k).filter λc=>decide (c.1<H)&&decide (c.2<W)).map Za);generalize (((2^k:Nat):Int))=b at *;generalize iF:FV.lst ((Zj k).map Za)=cl at *;simp[C,it,MP.stM];rw[Z1 (ZC _) (λσ=>∃ z0 z1,σ=[z0,z1,some (I H),some (I W)]) (e:=λc=>MV.f (Za c)) (g:=λc=>MV.f (Za c)) (t:=λc=>decide (c.1<H)&&decide (c.2<W)) (Zj k) [] _ ⟨none,none,rfl⟩ (by simpa using sz) (by
   rintro c ng σ ⟨z0,z1,rfl⟩;refine⟨[some (I c.1),some (I c.2),some (I H),some (I W)],?_,_,_,rfl⟩;by_cases q1:c.1<H
   ·by_cases q2:c.2<W
    ·simp[zk,q1,q2]
    ·simp[zk,q1,q2]
   ·simp[zk,q1])]
  have e2:((Zj k).filter λc=>decide (c.1<H)&&decide (c.2<W)).map (λc=>MV.f (Za c))=(((Zj k).filter λc=>decide (c.1<H)&&decide (c.2<W)).map Za).map MV.f:=by simp[vc]
  rw[wg,R.aJ,e2];generalize (((Zj k).filter λc=>decide (c.1<H)&&decide (c.2<W)).map Za).map MV.f=M at *;simp[lv];exact hQ _ _ ⟨rfl,rfl⟩
end
end MP
end
section
namespace MP
open PySem
end MP
end
section
namespace MP
open PySem
end MP
end
section
namespace MP
open PySem
end MP
end
section
namespace MP
open PySem
end MP
end
section
namespace MP
open PySem
end MP
end
section
namespace MP
open PySem
theorem Zn{α β:Type}{f:α->β}:∀{l:List α},(∀ a∈l,∀ b∈l,f a=f b->a=b)->l.Nodup->(l.map f).Nodup
 |[],_,_=>by simp
 |a::l,h,n=>by
  rw[Ul] at n;rw[ub,Ul];refine⟨λm=>?_,Zn (λx hx y hy=>h x (by simp[hx]) y (by simp[hy])) n.2⟩;obtain⟨b,hb,e⟩:=ue.mp m;have:=h b (by simp[hb]) a (by simp) e;exact n.1 (this ▸ hb)
theorem Z3(H W:Nat)(hW:1<=W):(qj H W).Nodup:=by
 rw[<- qbS H W hW];refine Zn (λa _ b _ e=>?_) List.nodup_range;simp only[Prod.mk.injEq] at e;have h1:=xw a W;have h2:=xw b W;rw[e.1,e.2] at h1
 lia
theorem ybM(H W:Nat)(hW:1<=W):(QS H W).Nodup:=by
 rw[<- qca H W];refine Zn (λa ha b hb e=>?_) (Z3 H W hW);have h1:=DM ha;have h2:=DM hb;obtain⟨a1,a2⟩:=a;obtain⟨b1,b2⟩:=b;simp only[Prod.mk.injEq] at e h1 h2 ⊢;obtain⟨rfl,e⟩:=e;refine⟨rfl,?_⟩;split at e <;> lia
theorem ybV(H W:Nat)(hH:1<=H):(zY H W).Nodup:=by
 unfold zY;refine Zn (λa _ b _ e=>?_) (Z3 W H hH);simp only[Prod.mk.injEq] at e;exact Wy e.2 e.1
theorem Pq:∀ k,(Zj k).Nodup
 |0=>by simp[Zj]
 |k+1=>by
  have ih:=Pq k;have iZ:=G6 k;have q:0<2^k:=Nat.two_pow_pos k;simp only[Zj,ow];generalize 2^k=m at *;generalize Zj k=cs at *;have n1:(cs.map λc=>(c.2,c.1)).Nodup:=Zn (λa _ b _ e=>by simp only[Prod.mk.injEq] at e;exact Wy e.2 e.1) ih;have n2:(cs.map λc=>(m+c.1,c.2)).Nodup:=Zn (λa _ b _ e=>by simp only[Prod.mk.injEq] at e;exact Wy (by lia) e.2) ih;have n3:(cs.map λc=>(m+c.1,m+c.2)).Nodup:=Zn (λa _ b _ e=>by simp only[Prod.mk.injEq] at e;exact Wy (by lia) (by lia)) ih;have n4:(cs.map λc=>(m-1-c.2,2*m-1-c.1)).Nodup:=Zn (λa ha b hb e=>by
   have h1:=iZ a ha;have h2:=iZ b hb;simp only[Prod.mk.injEq] at e;exact Wy (by lia) (by lia)) ih
  refine ul.mpr ⟨ul.mpr ⟨ul.mpr ⟨n1,n2,?_⟩,n3,?_⟩,n4,?_⟩
  ·intro x hx y hy e;obtain⟨a,ha,rfl⟩:=ue.mp hx;obtain⟨b,hb,rfl⟩:=ue.mp hy;have h1:=iZ a ha;simp only[Prod.mk.injEq] at e
   lia
  ·intro x hx y hy e;obtain⟨b,hb,rfl⟩:=ue.mp hy;have h2:=iZ b hb
   rcases Wg.mp hx with hx|hx
   ·obtain⟨a,ha,rfl⟩:=ue.mp hx;have h1:=iZ a ha;simp only[Prod.mk.injEq] at e
    lia
   ·obtain⟨a,ha,rfl⟩:=ue.mp hx;have h1:=iZ a ha;simp only[Prod.mk.injEq] at e
    lia
  ·intro x hx y hy e;obtain⟨b,hb,rfl⟩:=ue.mp hy;have h2:=iZ b hb
   rcases Wg.mp hx with hx|hx
   ·rcases Wg.mp hx with hx|hx
    ·obtain⟨a,ha,rfl⟩:=ue.mp hx;have h1:=iZ a ha;simp only[Prod.mk.injEq] at e
     lia
    ·obtain⟨a,ha,rfl⟩:=ue.mp hx;have h1:=iZ a ha;simp only[Prod.mk.injEq] at e
     lia
   ·obtain⟨a,ha,rfl⟩:=ue.mp hx;have h1:=iZ a ha;simp only[Prod.mk.injEq] at e
    lia
end MP
namespace MP
end MP
end
section
namespace MP
open PySem
noncomputable def BU(c:String):Prop:=c="Way"\/c="FroWay"\/c="ColumnWay"\/c="FoldedWay"
noncomputable def zt(w:FV)(ks:List (Int×Int)):FV:=.obj "MaskedWay" ["way","mask"] [w,.c9 ks]
section
variable (n:Nat) (h:MH)
theorem Qcg{c:String}(hc:BU c):prog.subs c "MaskedWay"=some false:=by
 rcases hc with rfl|rfl|rfl|rfl <;> rfl
theorem qaG(c:String)(hc:BU c)(ks:List (Int×Int)):run prog (n+1) "ways_within" [.f (zt (Yg c) ks)] h=.ok (.f (.lst [zt (Yg c) ks,Yg c])) h:=by
 suffices cY (run prog (n+1) "ways_within" [.f (zt (Yg c) ks)] h) λv h'=>v=.f (.lst [zt (Yg c) ks,Yg c])/\h'=h by
  obtain⟨v,h',e,rfl,rfl⟩:=this;exact e
 refine cY.of λQ hQ=>?_;have i1:∀ hh,qQ prog.subs hh (.f (zt (Yg c) ks)) "MaskedWay"=some true:=λhh=>rfl;have i2:∀ hh,qQ prog.subs hh (.f (Yg c)) "MaskedWay"=some false:=λhh=>Qcg hc;have f1:∀ hh,lg prog.iw "way" (.f (zt (Yg c) ks)) hh=some (.f (Yg c)):=λhh=>by simp[lg,zt]
 have F:=DP h [] [zt (Yg c) ks,Yg c];generalize hmv:zt (Yg c) ks=mv at *;generalize hwv:Yg c=wv at *;have cl:∀ M,yc (h++[.lst M]) h.length=some M:=λM=>zi h [] M;have st:∀ M ys,ye (h++[.lst M]) h.length ys=h++[.lst ys]:=λM ys=>zp h [] M ys;have a1:cK [MV.f mv] (-1)=some (.f mv):=rfl;have a2:cK [MV.f mv,MV.f wv] (-1)=some (.f wv):=rfl;rw[qaK];simp only[cg];simp;refine JQ (Q:=λr=>cY (yb _ r) _) 1 (λi σ hh=>σ=[some (.f mv),some (.ref h.length)]/\hh=h++[.lst (if i=0 then[.f mv] else[.f mv,.f wv])]) (by show 1<1000000;lia) ⟨rfl,by simp⟩ ?_ ?_ ?_
 ·rintro i σ hh hi ⟨rfl,rfl⟩;obtain rfl:i=0:=by lia
  refine⟨by simp[cl,a1,i1],λQ hQ=>?_⟩;simp[cl,a1,f1,st,Yd];exact hQ _ _ ⟨rfl,by simp⟩
 ·rintro σ hh ⟨rfl,rfl⟩;simp[cl,a2,i2]
 ·rintro σ hh ⟨rfl,rfl⟩;obtain⟨t',F⟩:=F;have lv:=ZT h t' (.lst [mv,wv]);simp at F;simp[F,lv];exact hQ _ _ ⟨rfl,rfl⟩
theorem Za0(c f:String)(hc:BU c)(mo:prog.meths c "order"=some f)(H W:Nat)(cs:List (Nat×Nat))(hl:cs.length<=100000)(O:∀ n h,run prog (n+4) f [.f (Yg c),I H,I W] h=.ok (.ref h.length) (h++[.lst ((cs.map Za).map .f)]))
  (ks:List (Int×Int)) (sm:ks.all Q5=true) (nd:ks.Nodup):run prog (n+5) "MaskedWay.order" [.f (zt (Yg c) ks),I H,I W] h=.ok (.ref h.length) (h++[.lst (((cs.filter λc=>decide (cZ c∉ks)).map Za).map .f)]):=by
 suffices cY (run prog (n+5) "MaskedWay.order" [.f (zt (Yg c) ks),I H,I W] h) λv h'=>v=.ref h.length/\h'=h++[.lst (((cs.filter λc=>decide (cZ c∉ks)).map Za).map .f)] by
  obtain⟨v,h',e,rfl,rfl⟩:=this;exact e
 refine cY.of λQ hQ=>?_;have WW:=qaG (n+3) h c hc ks;have f1:∀ hh,lg prog.iw "mask" (.f (zt (Yg c) ks)) hh=some (.f (.c9 ks)):=λhh=>by simp[lg,zt]
 have cm:∀ hh,lC "order" (.f (Yg c)) hh=some c:=λhh=>by simp[lC,Yg]
 generalize zt (Yg c) ks=mv at *;generalize Yg c=wv at *;have sl:∀ hh,yW true (.f (.lst [mv,wv])) none (some (-1)) hh=.ok (.f (.lst [mv])) hh:=λhh=>rfl;have a2:cK [MV.f mv,MV.f wv] (-1)=some (.f wv):=rfl;have c0:Q7 (h++[.c9 []]) (.ref h.length)=some []:=by simp[Q7]
 have up:BZ (.ref h.length) (.f (.c9 ks)) (h++[.c9 []])=.ok (.f .bG) (h++[.c9 ks]):=by
  simp only[BZ,c0,qc];rw[if_pos (by refine⟨?_,sm,nd⟩;simp)]
  congr 1
  by_cases z:ks=[]
  ·subst z;simp
  ·simp[z]
 have O1:=O n (h++[Cell.c9 ks]);obtain⟨t',F⟩:=DP (h++[Cell.c9 ks]) [] (cs.map Za);have it:∀ hh,eU "seq" [.f (.lst (cs.map Za))] hh=some (cs.map λc=>MV.f (Za c),[]):=λhh=>by
  have q:qb hh (.f (.lst (cs.map Za)))=some (cs.map λc=>MV.f (Za c)):=by simp[vc]
  have g:Zc hh (.f (.lst (cs.map Za)))=[]:=rfl;simp only[eU,q,ug,g]
 have cM:Q7 ((h++[Cell.c9 ks])++t') (.ref h.length)=some ks:=by simp[Q7]
 have sz:cs.length<=aG:=by rw[Yd];lia
 have lv:zg h (.ref ((h++[Cell.c9 ks])++t').length) (((h++[Cell.c9 ks])++t')++[.lst (((cs.filter λc=>decide (cZ c∉ks)).map Za).map .f)])=.ok (.ref h.length) (h++[.lst (((cs.filter λc=>decide (cZ c∉ks)).map Za).map .f)]):=by
  have cl:=zi ((h++[Cell.c9 ks])++t') [] (((cs.filter λc=>decide (cZ c∉ks)).map Za).map MV.f);have tr:bJ h (((h++[Cell.c9 ks])++t')++[.lst (((cs.filter λc=>decide (cZ c∉ks)).map Za).map MV.f)]):=by rw[ui,ui];exact bJ.app h _
  have ef:=ZQ ((cs.filter λc=>decide (cZ c∉ks)).map Za);generalize ((cs.filter λc=>decide (cZ c∉ks)).map Za).map MV.f=M at *;have tk:(((h++[Cell.c9 ks])++t')++[Cell.lst M]).take h.length=h:=by rw[ui,ui,Xu];rfl
  unfold zg;rw[if_pos tr];simp only;rw[if_pos (by simp),cl];simp only[ef,tk]
 generalize iF:FV.lst (cs.map Za)=cl at *;have s1:∀ hh,eU "seq" [.f (.lst [mv])] hh=some ([.f mv],[]):=λhh=>rfl;rw[yag];simp only[bB];simp at O1 F cM lv;simp[WW,sl,s1,qL,Zm,f1,c0,up,a2,cm,mo,O1,F,it,MP.stM];have rZ:∀ c:Nat×Nat,rT (.f (Za c)) (.ref h.length) (h++Cell.c9 ks::t')=.ok (.f (.bl (decide (cZ c∉ks)))) (h++Cell.c9 ks::t'):=λc=>by
  have e:BF (.f (Za c))=some (cZ c):=rfl;simp only[rT,e,cM,qc]
 rw[O7 (ZC _) (e:=λc=>MV.f (Za c)) (g:=λc=>MV.f (Za c)) (t:=λc=>decide (cZ c∉ks)) (caps:=[some (.ref h.length)]) cs [] none (by simpa using sz) (λc _ z=>⟨some (.f (Za c)),by
  have nc:=rZ c;generalize Za c=cn at nc;by_cases q:cZ c∈ks
  ·simp[q] at nc;simp[zk,nc,q]
  ·simp[q] at nc;simp[zk,nc,q]⟩)]
 have e2:(cs.filter λc=>decide (cZ c∉ks)).map (λc=>MV.f (Za c))=((cs.filter λc=>decide (cZ c∉ks)).map Za).map MV.f:=by simp[vc]
 rw[wg,R.aJ,e2];simp at hQ ⊢;rw[lv];simpa using hQ
theorem Qa7(w:FV)(ms:List (Nat×Nat))(hl:ms.length<=1000):run prog (n+1) "MaskedWay.__init__" [.ref h.length,.f w,.f (.lst (ms.map Za))] (h++[.obj "MaskedWay" []]) =
  .ok (.f .bG) (h++[.obj "MaskedWay" [("way",.f w),("mask",.f (.c9 ((ms.map cZ).foldl ZH [])))]]):=by
 have it:∀ hh,eU "seq" [.f (.lst (ms.map Za))] hh=some (ms.map λc=>MV.f (Za c),[]):=λhh=>by
  have q:qb hh (.f (.lst (ms.map Za)))=some (ms.map λc=>MV.f (Za c)):=by simp[vc]
  have g:Zc hh (.f (.lst (ms.map Za)))=[]:=rfl;simp only[eU,q,ug,g]
 have sz:ms.length<=aG:=by rw[Yd];lia
 have mm:∀ l:List (Nat×Nat),(l.map λc=>MV.f (.tup [Za c,.bl true])).mapM sP=some (l.map cZ):=by
  intro l
  induction l with
  |nil=>rfl
  |cons c l ih =>
   have e:sP (MV.f (.tup [Za c,.bl true]))=some (cZ c):=rfl;rw[ub,xp,e,ih];rfl
 have mo:∀ g:MH,BX (.ref g.length) (g++[.lst (ms.map λc=>MV.f (.tup [Za c,.bl true]))])=.ok (.f (.c9 ((ms.map cZ).foldl ZH []))) (g++[.lst (ms.map λc=>MV.f (.tup [Za c,.bl true]))]):=λg=>by
  have cl:=zi g [] (ms.map λc=>MV.f (.tup [Za c,.bl true]));simp only[BX,cl,qc,mm];rw[if_pos (by rw[wc];lia)]
 have t:=bJ.obj h "MaskedWay" [("way",w),("mask",.c9 ((ms.map cZ).foldl ZH []))] [.lst (ms.map λc=>MV.f (.tup [Za c,.bl true]))];have m1:=mo (h++[.obj "MaskedWay" [("way",.f w)]]);generalize (ms.map cZ).foldl ZH []=ks at *;generalize iF:FV.lst (ms.map Za)=cl at *;rw[YX];simp only[bf];simp[it,MP.stM];rw[Zz (e:=λc=>MV.f (Za c)) (g:=λc=>MV.f (.tup [Za c,.bl true])) ms [] none (by simpa using sz) (λc _ z=>⟨some (.f (Za c)),by simp[zk,yh,zj]⟩)];simp only[wg,R.aJ,YR];generalize (ms.map λc=>MV.f (.tup [Za c,.bl true]))=M at *;have tk:∀(a b:Cell),(h++[a,b]).take (h.length+1)=h++[a]:=λa b=>by rw[show h++[a,b]=(h++[a])++[b] by simp,Xu (by simp)]
 simp at m1 t;simp[m1,zg,t,tk]
theorem Le(w:FV)(ms:List (Nat×Nat))(hl:ms.length<=1000):YF prog (run prog (n+1)) true "MaskedWay" [.f w,.f (.lst (ms.map Za))] h=.ok (.f (zt w ((ms.map cZ).foldl ZH []))) h:=by
 have R:=Qa7 n h w ms hl;generalize (ms.map cZ).foldl ZH []=ks at *;generalize FV.lst (ms.map Za)=cl at *;simp[YF,R,bJ.app,zt,zj]
end
section
variable (H W:Nat) (h1:1<=H) (h2:1<=W) (mK:H*W<=60) (hH:H<=60) (hW:W<=60)
include h1 h2 mK hH hW
noncomputable def eO(c:String)(H W:Nat)(cs:List (Nat×Nat)):Prop:=BU c/\∃ f,prog.meths c "order"=some f/\(∀ n h,run prog (n+4) f [.f (Yg c),I H,I W] h=.ok (.ref h.length) (h++[.lst ((cs.map Za).map .f)]))/\(∀ p∈cs,p.1<H/\p.2<W)/\cs.length<=300/\cs.Nodup
theorem ZbN:eO "Way" H W (qj H W):=⟨.inl rfl,"Way.order",rfl,λn h=>za2 (n+2) h _ H W h1 h2 (by lia) (by lia) (by lia),λp hp=>DM hp,by rw[QP];lia,Z3 H W h2⟩
theorem yca:eO "FroWay" H W (QS H W):=⟨.inr (.inl rfl),"FroWay.order",rfl,λn h=>Ya3 (n+2) h _ H W h1 h2 (by lia) (by lia) (by lia),λp hp=>QcP hp,by rw[Lk];lia,ybM H W h2⟩
theorem qcd:eO "ColumnWay" H W (zY H W):=⟨.inr (.inr (.inl rfl)),"ColumnWay.order",rfl,λn h=>za4 (n+2) h _ H W h1 h2 (by lia) (by lia) (by lia),λp hp=>ZcV hp,by rw[zco];lia,ybV H W h1⟩
theorem QbR(a:H<=16)(b:W<=16):∃ cs,eO "FoldedWay" H W cs:=by
 obtain⟨k,hk,O⟩:=QaZ (.f (Yg "FoldedWay")) H W h1 h2 a b;refine⟨_,.inr (.inr (.inr rfl)),"FoldedWay.order",rfl,λn h=>O (n+1) h,λp hp=>?_,?_,(Pq k).filter _⟩
 ·have:=(Vv.mp hp).2;simpa using this
 ·have l1:=xC (λc:Nat×Nat=>decide (c.1<H)&&decide (c.2<W)) (Zj k);rw[B6] at l1;have:4^k<=4^4:=xl (by lia) hk
  lia
end
theorem eO.F4{c:String}{H W:Nat}{cs:List (Nat×Nat)}(p:eO c H W cs):l4 (Yg c) H W cs:=by
 obtain⟨_,f,mo,O,_⟩:=p;exact⟨c,[],[],f,rfl,by simp,mo,λn h=>O (n+2) h⟩
theorem eO.wY{c:String}{H W:Nat}{cs:List (Nat×Nat)}(p:eO c H W cs)(ks:List (Int×Int))(sm:ks.all Q5=true)(nd:ks.Nodup):l4 (zt (Yg c) ks) H W (cs.filter λc=>decide (cZ c∉ks)):=by
 obtain⟨pc,f,mo,O,_,hl,_⟩:=p;exact⟨"MaskedWay",_,_,"MaskedWay.order",rfl,by simp,rfl,λn h=>Za0 (n+1) h c f pc mo H W cs (by lia) O ks sm nd⟩
end MP
end
section
namespace MP
open PySem
section
variable (n:Nat) (h:MH)
theorem ybs(ns:List Int)(k:Int)(H W:Nat)(h1:1<=H)(h2:1<=W)(hH:H<=60)(hW:W<=60)(hk:0<=k)(lZ:k+10<1000000)(x:Int)(hx:0<=x)(c:String)(cs:List (Nat×Nat))(pw:eO c H W cs)(k0:Int)(hk0:k0<=k) :
  cY (yb (.code::atC k0::h) (Qa prog (run prog (n+4)) (aQ.body.drop 3) [some (.f (.dj ns)),some (.ref 1),some (.f (.tup [.int H,.int W])),some (I x),some (.f (Yg c)),none,none,none] (.code::atC k::h))) λv h' =>
   ∃ w gb kk,k<=kk/\kk<=k+7/\v=.f w/\h'=.code::atC kk::h/\l4 w H W gb/\(∀ p∈gb,p.1<H/\p.2<W)/\gb.length<=300/\gb.Nodup:=by
 refine cY.of λQ hQ=>?_;have m4:∀ hh,yf true .fdiv (I x) (I 4) hh=.ok (I (x/4)) hh:=λhh=>Zh _ _ _ ⟨by decide,.inl (by decide)⟩;have m12:∀ hh,yf true .fdiv (I x) (I 12) hh=.ok (I (x/12)) hh:=λhh=>Zh _ _ _ ⟨by decide,.inl (by decide)⟩;have wZ:∀ hh,yf true .fdiv (I x) (I 100) hh=.ok (I (x/100)) hh:=λhh=>Zh _ _ _ ⟨by decide,.inl (by decide)⟩;have d3:∀ hh,yf true .mod (I (x/4)) (I 3) hh=.ok (I (x/4%3)) hh:=λhh=>qe _ _ _ (by decide);have d7:∀ hh,yf true .mod (I (x/12)) (I 7) hh=.ok (I (x/12%7)) hh:=λhh=>qe _ _ _ (by decide);have d9:∀ hh,yf true .mod (I (x/100)) (I 9) hh=.ok (I (x/100%9)) hh:=λhh=>qe _ _ _ (by decide);have wr:=pw.F4;obtain⟨pc,f,mo,O,jk,iF,Nb⟩:=id pw;have cm:∀ hh,lC "order" (.f (Yg c)) hh=some c:=λhh=>by simp[lC,Yg]
 have a0:cK [I (H:Int),I (W:Int)] 0=some (I (H:Int)):=rfl;have a1:cK [I (H:Int),I (W:Int)] 1=some (I (W:Int)):=rfl;have h7:=mod_lt (x/12) 7 (by decide);obtain⟨T,hT⟩:=Ve h7.1;simp only[aQ,Vo,um];by_cases q:0<x/4%3
 ·have lv:=vH k0 k h (Yg c);generalize Yg c=wv at *;simp[m4,d3,q,lv];exact hQ _ _ ⟨wv,cs,k,by lia,by lia,rfl,rfl,wr,jk,iF,Nb⟩
 ·simp[m4,d3,q,m12,d7,hT,ym _ (T:Int) (by lia)];refine Yq (Q:=λr=>cY (yb _ r) _) T (λi σ hh=>∃(ms:List (Nat×Nat)) (z6 z7:Option MV),(∀ p∈ms,p.1<64/\p.2<64)/\ms.length=i/\hh=.code::atC (k+(i:Int))::(h++[.lst ((ms.map Za).map .f)]) /\
   σ=[some (.f (.dj ns)),some (.ref 1),some (.f (.tup [.int H,.int W])),some (I x),some (.f (Yg c)),some (.ref (h.length+2)),z6,z7]) ⟨[],none,none,by simp,rfl,by simp,rfl⟩ ?_ ?_
  ·rintro i σ hh oH ⟨ms,z6,z7,HI,Ar,rfl,rfl⟩ Q hQ;have N:=Zq (n+3) (h++[.lst ((ms.map Za).map .f)]) ns (k+i) (by lia) (by lia);have hd:=Yt ns (k+i+1);generalize j3 ns (k+i+1)=y at N hd;have e1:=mod_lt y ((H:Int)+1) (by lia);have e2:=mod_lt (y/50) (W:Int) (by lia);have b1:∀ hh,yf true .mod (I y) (I ((H:Int)+1)) hh=.ok (I (y%((H:Int)+1))) hh:=λhh=>qe _ _ _ (by lia);have b2:∀ hh,yf true .mod (I (y/50)) (I (W:Int)) hh=.ok (I (y/50%(W:Int))) hh:=λhh=>qe _ _ _ (by lia);have b3:∀ hh,yf true .fdiv (I y) (I 50) hh=.ok (I (y/50)) hh:=λhh=>Zh _ _ _ ⟨by decide,.inl (by decide)⟩;obtain⟨u,hu⟩:=Ve e1.1;obtain⟨v,hv⟩:=Ve e2.1;rw[hu] at b1 e1;rw[hv] at b2 e2;have ml:((ms.map Za).map MV.f).length<aG:=by simp[Yd];lia
   have ea:(ms.map Za).map MV.f++[MV.f (.tup [.int (u:Int),.int (v:Int)])]=((ms++[(u,v)]).map Za).map MV.f:=by simp[Za]
   have c0:=rM .code (atC (k+(i:Int)+1)) h [] ((ms.map Za).map .f);have s0:=λys=>sI .code (atC (k+(i:Int)+1)) h [] ((ms.map Za).map .f) ys;have nk:k+((i+1:Nat):Int)=k+(i:Int)+1:=by lia
   have ka:=hQ [some (.f (.dj ns)),some (.ref 1),some (.f (.tup [.int H,.int W])),some (I x),some (.f (Yg c)),some (.ref (h.length+2)),some (I i),some (I y)] (.code::atC (k+(i:Int)+1)::(h++[.lst (((ms++[(u,v)]).map Za).map .f)])) ⟨ms++[(u,v)],_,_,λp hp=>by
    rcases Wg.mp hp with hp|hp
    ·exact HI p hp
    ·rw[Xd.mp hp];simp only;lia,by simp[Ar],by rw[nk],rfl⟩
   rw[<- ea] at ka;generalize (ms.map Za).map MV.f=M at *;generalize Yg c=wv at *;simp[Zm,N,a0,a1,b1,b2,b3,yh,zj,c0,ml,s0];exact ka
  ·rintro σ hh ⟨ms,z6,z7,HI,Ar,rfl,rfl⟩;have small:∀ l:List (Nat×Nat),(∀ p∈l,p.1<64/\p.2<64)->((l.map cZ).foldl ZH []).all Q5=true:=λl hl=>by
    rw[Wp];intro q hq;rw[Pt] at hq
    rcases hq with hq|hq
    ·exact absurd hq (by simp)
    ·obtain⟨p,hp,rfl⟩:=ue.mp hq;have:=hl p hp;simp[Q5,cZ];lia
   have res:∀ l:List (Nat×Nat),(∀ p∈l,p.1<64/\p.2<64)->∃ gb,l4 (zt (Yg c) ((l.map cZ).foldl ZH [])) H W gb/\(∀ p∈gb,p.1<H/\p.2<W)/\gb.length<=300/\gb.Nodup:=λl hl =>
    ⟨_,pw.wY _ (small l hl) (OK _ _ (by simp)),λp hp=>jk p (Vv.mp hp).1,vf (xC _ _) iF,Nb.filter _⟩
   have F1:=ZP .code (atC (k+(T:Int))) h (ms.map Za);have MK:=Le (n+3) (.code::atC (k+(T:Int))::(h++[.dead])) (Yg c) ms (by lia);have O1:=O n (.code::atC (k+(T:Int))::(h++[.lst ((ms.map Za).map .f)]));have F2:=ZP .code (atC (k+(T:Int))) (h++[.lst ((ms.map Za).map .f)]) (cs.map Za);have MK2:=Le (n+3) (.code::atC (k+(T:Int))::(h++[.lst ((ms.map Za).map .f),.dead])) (Yg c) cs (by lia);obtain⟨r1,R1⟩:=res ms HI;obtain⟨r2,R2⟩:=res cs (λp hp=>by have:=jk p hp;lia);have MU:=sV k0 (k+(T:Int)) h [.dead] (zt (Yg c) ((ms.map cZ).foldl ZH []));have MT:=sV k0 (k+(T:Int)) h [.lst ((ms.map Za).map .f),.dead] (zt (Yg c) ((cs.map cZ).foldl ZH []));generalize zt (Yg c) ((ms.map cZ).foldl ZH [])=v1 at *;generalize zt (Yg c) ((cs.map cZ).foldl ZH [])=v2 at *;generalize (ms.map Za).map MV.f=M at *;generalize (cs.map Za).map MV.f=M2 at *;generalize ms.map Za=L at *;generalize cs.map Za=L2 at *;generalize Yg c=wv at *;simp at F1 F2 O1 MU MT;by_cases q9:x/100%9=0
   ·simp[wZ,d9,q9,cm,mo,a0,a1,O1,F2,MK2,MT];exact hQ _ _ ⟨v2,r2,_,by lia,by lia,rfl,rfl,R2⟩
   ·simp[wZ,d9,q9,F1,MK,MU];exact hQ _ _ ⟨v1,r1,_,by lia,by lia,rfl,rfl,R1⟩
theorem zcO(ns:List Int)(k:Int)(H W:Nat)(h1:1<=H)(h2:1<=W)(mK:H*W<=60)(hH:H<=60)(hW:W<=60)(hk:0<=k)(lZ:k+12<1000000) :
  cY (run prog (n+5) "_law_way" [.f (.dj ns),.ref 1,.f (.tup [.int H,.int W])] (.code::atC k::h)) λv h' =>
   ∃ w gb kk,k<=kk/\kk<=k+8/\v=.f w/\h'=.code::atC kk::h/\l4 w H W gb/\(∀ p∈gb,p.1<H/\p.2<W)/\gb.length<=300/\gb.Nodup:=by
 have N:=Zq (n+3) h ns k hk (by lia);have hd:=Yt ns (k+1);generalize j3 ns (k+1)=x at N hd;have main:∀ c cs,eO c H W cs->cY (yb (.code::atC k::h) (Qa prog (run prog (n+4)) (aQ.body.drop 3) [some (.f (.dj ns)),some (.ref 1),some (.f (.tup [.int H,.int W])),some (I x),some (.f (Yg c)),none,none,none] (.code::atC (k+1)::h))) λv h' =>
   ∃ w gb kk,k<=kk/\kk<=k+8/\v=.f w/\h'=.code::atC kk::h/\l4 w H W gb/\(∀ p∈gb,p.1<H/\p.2<W)/\gb.length<=300/\gb.Nodup:=λc cs pw=>by
  obtain⟨v,h',e,w,gb,kk,q1,q2,q3⟩:=ybs n h ns (k+1) H W h1 h2 hH hW (by lia) (by lia) x (by lia) c cs pw k (by lia);exact⟨v,h',e,w,gb,kk,by lia,by lia,q3⟩
 have k1:∀ hh,YF prog (run prog (n+4)) true "Way" [] hh=.ok (.f (Yg "Way")) hh:=λhh=>CI hh _ "Way" rfl;have k2:∀ hh,YF prog (run prog (n+4)) true "FroWay" [] hh=.ok (.f (Yg "FroWay")) hh:=λhh=>CI hh _ "FroWay" rfl;have k3:∀ hh,YF prog (run prog (n+4)) true "ColumnWay" [] hh=.ok (.f (Yg "ColumnWay")) hh:=λhh=>CI hh _ "ColumnWay" rfl;have k4:∀ hh,YF prog (run prog (n+4)) true "FoldedWay" [] hh=.ok (.f (Yg "FoldedWay")) hh:=λhh=>CI hh _ "FoldedWay" rfl;have d4:∀ hh,yf true .mod (I x) (I 4) hh=.ok (I (x%4)) hh:=λhh=>qe _ _ _ (by decide);have mx:∀ hh,qm true "max" [.f (.tup [.int H,.int W])] hh=.ok (I (if(W:Int)>H then(W:Int) else H)) hh:=λhh=>rfl;have m1:=main "Way" _ (ZbN H W h1 h2 mK hH hW);have m2:=main "FroWay" _ (yca H W h1 h2 mK hH hW);have m3:=main "ColumnWay" _ (qcd H W h1 h2 mK hH hW);rw[Ybr];have hb:aQ.body=aQ.body.take 3++aQ.body.drop 3:=(List.take_append_drop 3 _).symm;have mh:∀ c,Qa prog (run prog (n+4)) (aQ.body.take 3) [some (.f (.dj ns)),some (.ref 1),some (.f (.tup [.int H,.int W])),none,none,none,none,none] (.code::atC k::h)=.next [some (.f (.dj ns)),some (.ref 1),some (.f (.tup [.int H,.int W])),some (I x),some (.f (Yg c)),none,none,none] (.code::atC (k+1)::h)->cY (yb (.code::atC k::h) (Qa prog (run prog (n+4)) (aQ.body.drop 3) [some (.f (.dj ns)),some (.ref 1),some (.f (.tup [.int H,.int W])),some (I x),some (.f (Yg c)),none,none,none] (.code::atC (k+1)::h))) (λv h' =>
   ∃ w gb kk,k<=kk/\kk<=k+8/\v=.f w/\h'=.code::atC kk::h/\l4 w H W gb/\(∀ p∈gb,p.1<H/\p.2<W)/\gb.length<=300/\gb.Nodup)->cY (yb (.code::atC k::h) (Qa prog (run prog (n+4)) aQ.body [some (.f (.dj ns)),some (.ref 1),some (.f (.tup [.int H,.int W])),none,none,none,none,none] (.code::atC k::h))) (λv h' =>
   ∃ w gb kk,k<=kk/\kk<=k+8/\v=.f w/\h'=.code::atC kk::h/\l4 w H W gb/\(∀ p∈gb,p.1<H/\p.2<W)/\gb.length<=300/\gb.Nodup):=λc e r=>by
  rw[hb,KR,e];exact r
 have h4:=mod_lt x 4 (by decide);have cs4:x%4=0\/x%4=1\/x%4=2\/x%4=3:=by lia
 have at0:cK [MV.f (Yg "Way"),MV.f (Yg "FroWay"),MV.f (Yg "ColumnWay"),MV.f (Yg "FoldedWay")] 0=some (.f (Yg "Way")):=rfl;have og:cK [MV.f (Yg "Way"),MV.f (Yg "FroWay"),MV.f (Yg "ColumnWay"),MV.f (Yg "FoldedWay")] 1=some (.f (Yg "FroWay")):=rfl;have at2:cK [MV.f (Yg "Way"),MV.f (Yg "FroWay"),MV.f (Yg "ColumnWay"),MV.f (Yg "FoldedWay")] 2=some (.f (Yg "ColumnWay")):=rfl;have NF:cK [MV.f (Yg "Way"),MV.f (Yg "FroWay"),MV.f (Yg "ColumnWay"),MV.f (Yg "FoldedWay")] 3=some (.f (Yg "FoldedWay")):=rfl
 rcases cs4 with c|c|c|c
 ·refine mh "Way" ?_ m1;simp only[aQ,Xi,uu];simp[N,k1,k2,k3,k4,zj,d4,c,at0]
 ·refine mh "FroWay" ?_ m2;simp only[aQ,Xi,uu];simp[N,k1,k2,k3,k4,zj,d4,c,og]
 ·refine mh "ColumnWay" ?_ m3;simp only[aQ,Xi,uu];simp[N,k1,k2,k3,k4,zj,d4,c,at2]
 ·by_cases big:(16:Int)<(if(W:Int)>H then(W:Int) else H)
  ·refine mh "FroWay" ?_ m2;generalize (if(W:Int)>H then(W:Int) else(H:Int))=mm at *;simp only[aQ,Xi,uu];simp[N,k1,k2,k3,k4,zj,d4,c,NF,mx,big]
  ·obtain⟨cs,pf⟩:=QbR H W h1 h2 mK hH hW (by split at big <;> lia) (by split at big <;> lia);refine mh "FoldedWay" ?_ (main "FoldedWay" cs pf);generalize (if(W:Int)>H then(W:Int) else(H:Int))=mm at *;simp only[aQ,Xi,uu];simp[N,k1,k2,k3,k4,zj,d4,c,NF,mx,big]
theorem qbL(ns:List Int)(k:Int)(hk:0<=k)(lZ:k+12<1000000) :
  cY (run prog (n+3) "_law_shares" [.f (.dj ns),.ref 1] (.code::atC k::h)) λv h'=>∃ sh kk,kJ sh/\k<=kk/\kk<=k+8/\v=.f (ya false sh)/\h'=.code::atC kk::h:=by
 refine cY.of λQ hQ=>?_;have N:=Zq (n+1) h ns k hk (by lia);have hd:=Yt ns (k+1);generalize j3 ns (k+1)=x at N hd;have h6:=mod_lt x 6 (by decide);obtain⟨T,T1,T2,eT⟩:∃ T:Nat,1<=T/\T<=6/\cK [I 1,I 2,I 3,I 4,I 2,I 6] (x%6)=some (I (T:Int)):=by
  have:x%6=0\/x%6=1\/x%6=2\/x%6=3\/x%6=4\/x%6=5:=by lia
  rcases this with e|e|e|e|e|e <;> rw[e]
  ·exact⟨1,by lia,by lia,rfl⟩
  ·exact⟨2,by lia,by lia,rfl⟩
  ·exact⟨3,by lia,by lia,rfl⟩
  ·exact⟨4,by lia,by lia,rfl⟩
  ·exact⟨2,by lia,by lia,rfl⟩
  ·exact⟨6,by lia,by lia,rfl⟩
 have d6:∀ hh,yf true .fdiv (I x) (I 6) hh=.ok (I (x/6)) hh:=λhh=>Zh _ _ _ ⟨by decide,.inl (by decide)⟩;have d30:∀ hh,yf true .fdiv (I x) (I 30) hh=.ok (I (x/30)) hh:=λhh=>Zh _ _ _ ⟨by decide,.inl (by decide)⟩;have IM:∀ hh,yf true .fdiv (I x) (I 500) hh=.ok (I (x/500)) hh:=λhh=>Zh _ _ _ ⟨by decide,.inl (by decide)⟩;have A8:∀ hh,yf true .fdiv (I x) (I 5000) hh=.ok (I (x/5000)) hh:=λhh=>Zh _ _ _ ⟨by decide,.inl (by decide)⟩;have m6:∀ hh,yf true .mod (I x) (I 6) hh=.ok (I (x%6)) hh:=λhh=>qe _ _ _ (by decide);have m5:∀ hh,yf true .mod (I (x/6)) (I 5) hh=.ok (I (x/6%5)) hh:=λhh=>qe _ _ _ (by decide);have m4:∀ hh,yf true .mod (I (x/5000)) (I 4) hh=.ok (I (x/5000%4)) hh:=λhh=>qe _ _ _ (by decide);rw[zaI];simp only[ck];simp[N,m6,zj,eT,ym _ (T:Int) (by lia)];refine Yq (Q:=λr=>cY (yb _ r) _) T (λi σ hh=>∃(sh:List Int)(kk:Int)(z4:Option MV),(∀ y∈sh,0<=y/\y<2^100)/\sh.length=i/\k+1<=kk/\kk<=k+1+(i:Int)/\hh=.code::atC kk::(h++[.lst (sh.map (MV.f∘FV.int))]) /\
  σ=[some (.f (.dj ns)),some (.ref 1),some (I x),some (.ref (h.length+2)),z4]) ⟨[],k+1,none,by simp,rfl,by lia,by simp,by simp,rfl⟩ ?_ ?_
 ·rintro i σ hh oH ⟨sh,kk,z4,hs,hl,k1,k2,rfl,rfl⟩ Q hQ;have ml:(sh.map (MV.f∘FV.int)).length<aG:=by simp[Yd];lia
  have app:∀ v:Int,0<=v->v<2^100->∀ y∈sh++[v],0<=y/\y<2^100:=λv v0 v1 y hy=>by
   rcases Wg.mp hy with hy|hy
   ·exact hs y hy
   ·rw[Xd.mp hy];exact⟨v0,v1⟩
  have ea:∀ v:Int,sh.map (MV.f∘FV.int)++[I v]=(sh++[v]).map (MV.f∘FV.int):=λv=>by simp
  have c0:=λj=>rM .code (atC j) h [] (sh.map (MV.f∘FV.int));have s0:=λj ys=>sI .code (atC j) h [] (sh.map (MV.f∘FV.int)) ys;by_cases c:x/6%5=0
  ·obtain⟨g,g0,g1,G⟩:=N6 n (h++[.lst (sh.map (MV.f∘FV.int))]) ns kk 9 (by lia) (by lia) (by decide);have ka:=hQ [some (.f (.dj ns)),some (.ref 1),some (I x),some (.ref (h.length+2)),some (I i)] (.code::atC (kk+1)::(h++[.lst ((sh++[g]).map (MV.f∘FV.int))])) ⟨sh++[g],kk+1,_,app g g0 (by lia),by simp[hl],by lia,by push_cast;lia,rfl,rfl⟩;rw[<- ea] at ka;generalize sh.map (MV.f∘FV.int)=M at *;simp[Zm,d6,m5,c,c0,G,ml,s0];exact ka
  ·have b1:∀ hh,yf true .mul (I i) (I i) hh=.ok (I ((i:Int)*i)) hh:=λhh=>Qq _ _ _ (qq (by lia));have b7:∀(y:Int) hh,yf true .mod (I y) (I 7) hh=.ok (I (y%7)) hh:=λy hh=>qe _ _ _ (by decide);have h7:=mod_lt (x/30+(i:Int)*i+i) 7 (by decide);obtain⟨v,v0,v1,ev⟩:∃ v:Int,0<=v/\v<2^100/\cK [I 7,I 3,I 5,I 1,I 0,I 2,I 16] ((x/30+(i:Int)*i+i)%7)=some (I v):=by
    obtain⟨w,hw,e⟩:=B8 [I 7,I 3,I 5,I 1,I 0,I 2,I 16] _ h7.1 (by simpa using h7.2);simp only[ua,Ud,or_false] at hw
    rcases hw with rfl|rfl|rfl|rfl|rfl|rfl|rfl
    all_goals exact⟨_,by lia,by lia,e⟩
   have ka:=hQ [some (.f (.dj ns)),some (.ref 1),some (I x),some (.ref (h.length+2)),some (I i)] (.code::atC kk::(h++[.lst ((sh++[v]).map (MV.f∘FV.int))])) ⟨sh++[v],kk,_,app v v0 v1,by simp[hl],by lia,by push_cast;lia,rfl,rfl⟩;rw[<- ea] at ka;generalize sh.map (MV.f∘FV.int)=M at *;simp[Zm,d6,m5,c,c0,d30,b1,b7,zj,ev,ml,s0];exact ka
 ·rintro σ hh ⟨sh,kk,z4,hs,hl,k1,k2,rfl,rfl⟩;have c0:=rM .code (atC kk) h [] (sh.map (MV.f∘FV.int));have s0:=λys=>sI .code (atC kk) h [] (sh.map (MV.f∘FV.int)) ys;have su:qm true "sum" [.ref (h.length+2)] (.code::atC kk::(h++[.lst (sh.map (MV.f∘FV.int))]))=.ok (I sh.sum) (.code::atC kk::(h++[.lst (sh.map (MV.f∘FV.int))])):=by
   simp only[qm,qb,c0,xi,zD,qc]
  have ln:qm true "len" [.ref (h.length+2)] (.code::atC kk::(h++[.lst (sh.map (MV.f∘FV.int))]))=.ok (I (T:Int)) (.code::atC kk::(h++[.lst (sh.map (MV.f∘FV.int))])):=by
   simp only[qm,qb,c0,qc,wc,hl]
  have fin:∀ l:List Int,kJ l->cY (yb (.code::atC k::h) (Qa prog (run prog (n+2)) [.ret (.eZ (.var 3))] [some (.f (.dj ns)),some (.ref 1),some (I x),some (.ref (h.length+2)),z4] (.code::atC kk::(h++[.lst (l.map (MV.f∘FV.int))])))) Q:=λl ol=>by
   have F:=ZP .code (atC kk) h (l.map FV.int);rw[Wf] at F;have lv:=sV k kk h [.dead] (ya false l);have er:FV.lst (l.map FV.int)=ya false l:=rfl;rw[er] at F;generalize l.map (MV.f∘FV.int)=M at *;simp[Qa,F,lv];exact hQ _ _ ⟨l,kk,ol,by lia,by lia,rfl,rfl⟩
  by_cases c:sh.sum=0
  ·have hT:0<(T:Int):=by lia
   have mT:∀ hh,yf true .mod (I (x/500)) (I (T:Int)) hh=.ok (I (x/500%(T:Int))) hh:=λhh=>qe _ _ _ hT;have hj:=mod_lt (x/500) (T:Int) hT;have h4:=mod_lt (x/5000) 4 (by decide);obtain⟨j,ej⟩:=Ve hj.1;rw[ej] at mT hj;have ix:jM (sh.map (MV.f∘FV.int)).length (j:Int)=some j:=by
    unfold jM;rw[if_pos (by lia),if_pos (by simp;lia)];simp
   have es:(sh.map (MV.f∘FV.int)).set j (I (1+x/5000%4))=(sh.set j (1+x/5000%4)).map (MV.f∘FV.int):=by rw[WA];rfl
   have ok:kJ (sh.set j (1+x/5000%4)):=by
    have nn:∀ y∈sh.set j (1+x/5000%4),0<=y/\y<2^100:=λy hy=>by
     rcases wu hy with hy|rfl
     ·exact hs y hy
     ·lia
    refine⟨nn,NU _ (λy hy=>(nn y hy).1) (1+x/5000%4) ?_ (by lia),by simp;lia⟩;exact vv.mpr ⟨j,Vj (by lia)⟩
   have f1:=fin _ ok;rw[<- es] at f1;generalize sh.map (MV.f∘FV.int)=M at *;simp[su,c,ln,IM,A8,mT,m4,c0,ix,s0];exact f1
  ·have ok:kJ sh:=⟨hs,by have:=DS sh λy hy=>(hs y hy).1;lia,by lia⟩;have f1:=fin _ ok;generalize sh.map (MV.f∘FV.int)=M at *;simp[su,c];exact f1
end
end MP
end
section
namespace MP
open PySem
section
variable (n:Nat) (h:MH)
theorem ZcR(n0:Int)(ns:List Int)(want:Int)(hl:ns.length<=1000):run prog (n+1) "_law_ink" [.f (ya false (n0::ns)),I want] h=.ok (I (Zo want n0 ns)) h:=by
 have q:qb h (.f (ya false (n0::ns)))=some (I n0::ns.map (MV.f∘FV.int)):=by simp[ya]
 have a0:cK (I n0::ns.map (MV.f∘FV.int)) 0=some (I n0):=by
  have:=zr (I n0::ns.map (MV.f∘FV.int)) 0;change cK _ (0:Int)=_ at this;rw[this];rfl
 have sl:yW true (.f (ya false (n0::ns))) (some 1) none h=.ok (.f (ya false ns)) h:=by
  have c:ZY ((n0::ns).map (MV.f∘FV.int)) (some 1) none=(ns.map FV.int).map MV.f:=by
   simp[ZY,lD];rw[Up (by simp)]
  unfold yW;have t0:Yk (.f (ya false (n0::ns)))=none:=rfl;rw[t0];simp only[q,qc];rw[ub] at c;simp only[xr] at c;rw[c,Yh];rfl
 have q2:qb h (.f (ya false ns))=some (ns.map (MV.f∘FV.int)):=by simp[ya]
 have ab:∀ i j:Int,(if i-j<0 then -(i-j) else i-j)=jY i j:=λi j=>rfl;generalize hx:ya false (n0::ns)=x at *;rw[zbi];simp only[dX];have g0:Zc h (.f (ya false ns))=[]:=by simp[ya]
 generalize ya false ns=y at *;simp[q,a0,sl,eU,q2,g0];rw[QO (e:=MV.f∘FV.int) (st:=λz:Int×Option MV=>[some (.f x),some (I want),some (I z.1),z.2]) (hp:=λ_=>h) (f:=λz k=>(if jY want k<jY want z.1 then k else z.1,some (I k))) ns (n0,none)]
 ·have e:∀(ns:List Int)(z:Int×Option MV),(ns.foldl (λz k=>(if jY want k<jY want z.1 then k else z.1,some (I k))) z).1=Zo want z.1 ns:=by
   intro ns
   induction ns with
   |nil=>intro z;rfl
   |cons k r ih=>intro z;rw[wj,ih];rfl
  have:=e ns (n0,none);simp[this]
 ·rintro k hk z;by_cases c:jY want k<jY want z.1
  ·simp[Zm,ab,c]
  ·simp[Zm,ab,c]
end
theorem yP(n:Nat)(h:MH):∀(d:Nat)(x:FV),isQ d x=true->run prog (n+d) "_law_same" [.f x,.f x] h=.ok (B true) h
 |0,x,e=>by cases x <;> simp[isQ] at e
 |d+1,x,e=>by
  rw[show n+(d+1)=(n+d)+1 from rfl,N2];simp only[cH];cases x with
  |bG=>simp[isQ] at e
  |bl b=>simp[isQ] at e
  |int i=>simp
  |str s=>simp[isQ] at e;simp[ZcQ _ _ e e]
  |tup xs =>
   simp[isQ] at e;simp[B4,vc,MP.stM];rw[Qv (e:=λx=>MV.f (.tup [x,x])) (g:=λ_=>B true) (caps:=[]) xs [] none none (by simpa using e.1) (λy hy z w=>⟨some (.f y),some (.f y),by simp[zk,yP n h d y (e.2 y hy)]⟩)];simp[vc]
  |lst xs =>
   simp[isQ] at e;simp[B4,vc,MP.stM];rw[Qv (e:=λx=>MV.f (.tup [x,x])) (g:=λ_=>B true) (caps:=[]) xs [] none none (by simpa using e.1) (λy hy z w=>⟨some (.f y),some (.f y),by simp[zk,yP n h d y (e.2 y hy)]⟩)];simp[vc]
  |obj c ns vs=>simp[isQ] at e
  |dj ns=>simp[isQ] at e
  |tab ns=>simp[isQ] at e
  |c9 ns=>simp[isQ] at e
end MP
end
section
namespace MP
open PySem
section
variable (n:Nat) (h:MH)
theorem ZcG(ns:List Int)(k:Int)(hk:0<=k)(lZ:k+2000<1000000) :
  cY (run prog (n+6) "_law_case" [.f (.dj ns),.ref 1] (.code::atC k::h)) λv h'=>∃ most rows aw sh w cs kk H W,1<=most/\most<=100000000000000000000000000/\1<=H/\H<=60/\1<=W/\W<=60/\H*W<=60/\Drawn most rows H W/\iI most aw/\aw.length<=8/\kJ sh/\l4 w H W cs/\(∀ p∈cs,p.1<H/\p.2<W)/\cs.length<=300/\k<=kk/\kk<=k+300 /\
   v=.f (.tup [.int most,Qb false false rows,w,ya false sh,ya false aw])/\h'=.code::atC kk::h:=by
 refine cY.of λQ hQ=>?_;obtain⟨v,h',PC,most,rows,aw,k1,H,W,m1,m2,h1,h2,w1,w2,hw,d,K,il,kk1,kk2,rfl,rfl⟩:=ZaQ (n+1) h ns k hk (by lia);obtain⟨v,h',WY,w,cs,k2,kk3,kk4,rfl,rfl,wr,jk,iF⟩:=zcO n h ns k1 H W h1 w1 hw h2 w2 (by lia) (by lia);obtain⟨v,h',SH,sh,k3,so,kk5,kk6,rfl,rfl⟩:=qbL (n+2) h ns k2 (by lia) (by lia);have hr:rows≠[]:=by rintro rfl;have:=d.len;simp at this;lia
 obtain⟨r0,rs,er⟩:∃ r0 rs,rows=r0::rs:=by
  cases rows with
  |nil=>exact absurd rfl hr
  |cons a b=>exact⟨a,b,rfl⟩
 have e1:r0.length=W:=d.lH r0 (by rw[er];simp);have e2:rows.length=H:=d.len;have ln:∀ hh,qm true "len" [.f (Qb false false rows)] hh=.ok (I (H:Int)) hh:=λhh=>by simp[Qb,sq,e2]
 have q1:∀ hh,qb hh (.f (Qb false false rows))=some (rows.map (MV.f∘ya false)):=λhh=>by simp[Qb]
 have a0:cK (rows.map (MV.f∘ya false)) 0=some (.f (ya false r0)):=by
  have S0:=zr (rows.map (MV.f∘ya false)) 0;change cK _ (0:Int)=_ at S0;rw[S0,er];rfl
 have lr:∀ hh,qm true "len" [.f (ya false r0)] hh=.ok (I (W:Int)) hh:=λhh=>by simp[ya,sq,e1]
 have lv:=vH k k3 h (.tup [.int most,Qb false false rows,w,ya false sh,ya false aw]);have ka:=hQ (.f (.tup [.int most,Qb false false rows,w,ya false sh,ya false aw])) (.code::atC k3::h) ⟨most,rows,aw,sh,w,cs,k3,H,W,m1,m2,h1,h2,w1,w2,hw,d,K,il,so,wr,jk,iF.1,by lia,by lia,rfl,rfl⟩;generalize (rows.map (MV.f∘ya false))=R0 at *;generalize Qb false false rows=rv at *;generalize ya false sh=sv at *;generalize ya false aw=iv at *;generalize ya false r0=r0v at *;rw[Za8];simp only[dr];simp[PC,ln,q1,a0,lr,yh,zj,WY,SH,lv];exact ka
end
end MP
end
section
namespace MP
open PySem
section
variable (n:Nat) (h:MH)
theorem QcM(most:Int)(rows:List (List Int))(H W:Nat)(d:Drawn most rows H W)(hm:1<=most)(lY:most<2^100)(cs:List (Nat×Nat))(hc:∀ c∈cs,c.1<H/\c.2<W)(iF:cs.length<=300)(sh:List Int)(n0:Int)(ns:List Int)(s:kJ sh)(oH:ns.length<=100)(z:(0:Int)∈n0::ns)(m:most∈n0::ns) :
  run prog (n+2) "_law_ledger" [.f (Qb false false rows),.f (.lst (cs.map Za)),.f (ya false sh),.f (ya false (n0::ns))] h=.ok (.f (.lst ((Yc sh n0 ns (bH rows) (cs.map cZ)).map Ye))) h:=by
 suffices cY (run prog (n+2) "_law_ledger" [.f (Qb false false rows),.f (.lst (cs.map Za)),.f (ya false sh),.f (ya false (n0::ns))] h) λv h'=>v=.f (.lst ((Yc sh n0 ns (bH rows) (cs.map cZ)).map Ye))/\h'=h by
  obtain⟨v,h',e,rfl,rfl⟩:=this;exact e
 refine cY.of λQ hQ=>?_;have it:∀ hh,eU "seq" [.f (.lst (cs.map Za))] hh=some (cs.map λc=>MV.f (Za c),[]):=λhh=>by
  have q:qb hh (.f (.lst (cs.map Za)))=some (cs.map λc=>MV.f (Za c)):=by simp[vc]
  have g:Zc hh (.f (.lst (cs.map Za)))=[]:=rfl;simp only[eU,q,ug,g]
 have INK:=λhh want=>ZcR n hh n0 ns want (by lia);have qs:∀ hh,qb hh (.f (ya false sh))=some (sh.map (MV.f∘FV.int)):=λhh=>by simp[ya]
 have ls:∀ hh,qm true "len" [.f (ya false sh)] hh=.ok (I (sh.length:Int)) hh:=λhh=>by simp[ya,sq]
 have ss:∀ hh,qm true "sum" [.f (ya false sh)] hh=.ok (I sh.sum) hh:=λhh=>by
  simp only[qm,qs,xi,zD,qc]
 have qr:∀ hh,qb hh (.f (Qb false false rows))=some (rows.map (MV.f∘ya false)):=λhh=>by simp[Qb]
 have RC:∀ c∈cs,∃ r,cK (rows.map (MV.f∘ya false)) (c.1:Int)=some (.f (ya false r))/\(∀ hh,qb hh (.f (ya false r))=some (r.map (MV.f∘FV.int)))/\cK (r.map (MV.f∘FV.int)) (c.2:Int)=some (I (bH rows (cZ c))):=λc ng=>by
  have oJ:=hc c ng;obtain⟨r,e1,e2,_⟩:=Cy d (p:=cZ c) ⟨by simp[cZ],by simp[cZ];lia,by simp[cZ],by simp[cZ];lia⟩;refine⟨r,?_,λhh=>by simp[ya],?_⟩
  ·rw[zr,Xb,show rows[c.1]?=some r by simpa[cZ] using e1];rfl
  ·rw[zr,Xb,show r[c.2]?=some (bH rows (cZ c)) by simpa[cZ] using e2];rfl
 have w0:=s.one;have ws:=Oo s;generalize ya false (n0::ns)=inv at *;generalize hsv:ya false sh=sv at *;generalize Qb false false rows=rv at *;generalize hcl2:FV.lst (cs.map Za)=Ba at *;rw[ZaJ];simp only[cu];simp[it];refine O2 (Q:=λr=>cY (yb _ r) _) (e:=λc=>MV.f (Za c)) cs (λi σ hh=>∃(z7 z8 z9 kM ot jU:Option MV),hh=h++[.lst ((Yc sh n0 ns (bH rows) ((cs.take i).map cZ)).map λe=>.f (Ye e)),.lst ((Yc sh n0 ns (bH rows) ((cs.take i).map cZ)).map λe=>I e.left)] /\
  σ=[some (.f rv),some (.f Ba),some (.f sv),some (.f inv),some (.ref h.length),some (.ref (h.length+1)),some (I (yQ (Yc sh n0 ns (bH rows) ((cs.take i).map cZ)))),z7,z8,z9,kM,ot,jU]) ⟨none,none,none,none,none,none,by simp[Yc],by simp[Yc,yQ]⟩ ?_ ?_
 ·rintro i c σ hh AD ⟨z7,z8,z9,kM,ot,jU,rfl,rfl⟩ Q hQ;have ng:=wf AD;have E:Yc sh n0 ns (bH rows) ((cs.take (i+1)).map cZ)=Yc sh n0 ns (bH rows) ((cs.take i).map cZ)++[ky sh n0 ns (bH rows (cZ c)) (Yc sh n0 ns (bH rows) ((cs.take i).map cZ)) (cZ c)]:=by
   rw[Xz,AD];simp only[xE,Wi,ub,xn];exact Qy ..
  have ok:=lx.all (f:=bH rows) (by lia) s z m ((cs.take i).map cZ) (λp hp=>by
   obtain⟨c',eg,rfl⟩:=ue.mp hp;have oJ:=hc c' (xx eg);obtain⟨r,_,_,q⟩:=Cy d (p:=cZ c') ⟨by simp[cZ],by simp[cZ];lia,by simp[cZ],by simp[cZ];lia⟩;exact q)
  have el:(Yc sh n0 ns (bH rows) ((cs.take i).map cZ)).length<=300:=by
   rw[ZR];simp;lia
  obtain⟨r,ra,rq,rc⟩:=RC c ng;simp only[E] at hQ;generalize Yc sh n0 ns (bH rows) ((cs.take i).map cZ)=es at *;have gl:=Kp (by lia) s ok;have lc:yc (h++[.lst (es.map λe=>.f (Ye e)),.lst (es.map λe=>I e.left)]) (h.length+1)=some (es.map λe=>I e.left):=by
   have:=zi (h++[.lst (es.map λe=>MV.f (Ye e))]) [] (es.map λe=>I e.left);simpa using this
  have ll:qm true "len" [.ref (h.length+1)] (h++[.lst (es.map λe=>.f (Ye e)),.lst (es.map λe=>I e.left)])=.ok (I (es.length:Int)) (h++[.lst (es.map λe=>.f (Ye e)),.lst (es.map λe=>I e.left)]):=by
   simp only[qm,qb,lc,qc,wc]
  have mn:∀ hh,qm true "min" [I (sh.length:Int),I (es.length:Int)] hh=.ok (I ((min sh.length es.length:Nat):Int)) hh:=λhh=>by
   simp only[qm,Qd,qc]
   congr 3
   split <;> lia
  simp[Zm,ls,ll,mn,ym _ ((min sh.length es.length:Nat):Int) (by lia)];have L0:(es.map (·.left)).reverse.length=es.length:=by simp
  refine Yq (Q:=λr=>Nx r _) (min sh.length es.length) (λj σ hh=>∃(z9:Option MV),hh=h++[.lst (es.map λe=>.f (Ye e)),.lst (es.map λe=>I e.left)]/\σ=[some (.f rv),some (.f Ba),some (.f sv),some (.f inv),some (.ref h.length),some (.ref (h.length+1)),some (I (yQ es)),some (.f (Za c)),some (I (yQ es+yw (sh.take j) (es.map (·.left)).reverse)),z9,kM,ot,jU]) ⟨z9,rfl,by simp[yw]⟩ ?_ ?_
  ·rintro j σ hh hj ⟨z9,rfl,rfl⟩ Q hQ;have j1:j<sh.length:=by lia
   have j2:j<es.length:=by lia
   have e1:=O8 sh (es.map (·.left)).reverse j j1 (by rw[L0];exact j2);obtain⟨e,he⟩:∃ e,es.reverse[j]?=some e:=⟨es.reverse[j]'(by simpa using j2),by simp[j2]⟩;have pW:e∈es:=xA.mp (wf he);have gd:(es.map (·.left)).reverse.getD j 0=e.left:=by
    rw[uh,<- Wr,Xb,he];rfl
   have ash:cK (sh.map (MV.f∘FV.int)) (j:Int)=some (I (sh.getD j 0)):=by
    rw[zr,Xb,wb j1];simp[uh,j1]
   have al:cK (es.map λe=>I e.left) ((es.length:Int)-1-j)=some (I e.left):=by
    have e0:((es.length:Int)-1-j)=((es.length-1-j:Nat):Int):=by lia
    rw[e0,zr,Xb];have:=he;rw[WC j2] at this;rw[this];rfl
   have LW:sh.getD j 0∈sh:=by simp[uh,j1]
   have mu:zK (sh.getD j 0) e.left:=.inr (.inr ⟨Z9 (by have:=s.nn _ LW;lia) (by have:=s.nn _ LW;lia),Z9 (by have:=ok.l e pW;lia) (by have:=ok.l e pW;lia)⟩);rw[gd] at e1;simp only[e1] at hQ;generalize yw (sh.take j) (es.map (·.left)).reverse=du at *;generalize sh.getD j 0=y at *;have ka:=hQ [some (.f rv),some (.f Ba),some (.f sv),some (.f inv),some (.ref h.length),some (.ref (h.length+1)),some (I (yQ es)),some (.f (Za c)),some (I (yQ es+du+y*e.left)),some (I j),kM,ot,jU] _ ⟨_,rfl,by rw[Int.add_assoc]⟩;generalize (es.map λe=>I e.left)=M2 at *;generalize (es.map λe=>MV.f (Ye e))=M1 at *;simp[Zm,qs,ash,ll,lc,al,Qq,mu];exact ka
  ·rintro σ hh ⟨z9,rfl,rfl⟩;have ea:=Ky sh (es.map (·.left)).reverse;rw[L0] at ea;rw[ea];have du:yQ es+yw sh (es.map (·.left)).reverse=Yr sh es:=rfl;rw[du];have b1:∀ hh,yf true .fdiv (I (Yr sh es)) (I sh.sum) hh=.ok (I (Yr sh es/sh.sum)) hh:=λhh=>Zh _ _ _ ⟨by lia,.inr (Z9 (by lia) (by lia))⟩;have mu:zK (Yr sh es/sh.sum) sh.sum:=.inr (.inr ⟨Z9 (by lia) (by lia),Z9 (by lia) (by lia)⟩);have b2:∀ hh,yf true .mul (I (Yr sh es/sh.sum)) (I sh.sum) hh=.ok (I (Yr sh es/sh.sum*sh.sum)) hh:=λhh=>Qq _ _ _ mu;have od:Yr sh es-Yr sh es/sh.sum*sh.sum=Yr sh es%sh.sum:=by rw[Int.emod_def,WE]
   have ac0:cK [I (c.1:Int),I (c.2:Int)] 0=some (I (c.1:Int)):=rfl;have ac1:cK [I (c.1:Int),I (c.2:Int)] 1=some (I (c.2:Int)):=rfl;have sc:∀ hh,qb hh (.f (Za c))=some [I (c.1:Int),I (c.2:Int)]:=λhh=>rfl;have fc:yc (h++[.lst (es.map λe=>.f (Ye e)),.lst ((es.map λe=>I e.left)++[I (ky sh n0 ns (bH rows (cZ c)) es (cZ c)).left])]) h.length=some (es.map λe=>.f (Ye e)):=zi h _ _;have s1:∀ ys,ye (h++[.lst (es.map λe=>.f (Ye e)),.lst (es.map λe=>I e.left)]) (h.length+1) ys=h++[.lst (es.map λe=>.f (Ye e)),.lst ys]:=λys=>by
    have:=zp (h++[.lst (es.map λe=>MV.f (Ye e))]) [] (es.map λe=>I e.left) ys;simpa using this
   have s2:∀ M ys,ye (h++[.lst (es.map λe=>.f (Ye e)),.lst M]) h.length ys=h++[.lst ys,.lst M]:=λM ys=>zp h _ _ _;have ml1:(es.map λe=>MV.f (Ye e)).length<aG:=by rw[Yd,wc];lia
   have ml2:(es.map λe=>I e.left).length<aG:=by rw[Yd,wc];lia
   have ka:=hQ [some (.f rv),some (.f Ba),some (.f sv),some (.f inv),some (.ref h.length),some (.ref (h.length+1)),some (I (Yr sh es%sh.sum)),some (.f (Za c)),some (I (Yr sh es)),z9,some (I (Yr sh es/sh.sum)),some (I (bH rows (cZ c)+Yr sh es/sh.sum)),some (I (Zo (bH rows (cZ c)+Yr sh es/sh.sum) n0 ns))]
    (h++[.lst ((es.map λe=>.f (Ye e))++[.f (Ye (ky sh n0 ns (bH rows (cZ c)) es (cZ c)))]),.lst ((es.map λe=>I e.left)++[I (ky sh n0 ns (bH rows (cZ c)) es (cZ c)).left])]) ⟨_,_,_,_,_,_,by simp,by rw[JF];rfl⟩
   have em:Ye (ky sh n0 ns (bH rows (cZ c)) es (cZ c))=.tup [Za c,.int (Yr sh es/sh.sum),.int (Zo (bH rows (cZ c)+Yr sh es/sh.sum) n0 ns),.int (bH rows (cZ c)+Yr sh es/sh.sum-Zo (bH rows (cZ c)+Yr sh es/sh.sum) n0 ns),.int (Yr sh es%sh.sum)]:=rfl;have Nw:(ky sh n0 ns (bH rows (cZ c)) es (cZ c)).left=bH rows (cZ c)+Yr sh es/sh.sum-Zo (bH rows (cZ c)+Yr sh es/sh.sum) n0 ns:=rfl;rw[em,Nw] at ka;rw[Nw] at fc;generalize (es.map λe=>I e.left)=M2 at *;generalize (es.map λe=>MV.f (Ye e))=M1 at *;generalize Dl:Za c=cn at *;generalize bH rows (cZ c)=x at *;generalize (rows.map (MV.f∘ya false))=R0 at *;generalize (r.map (MV.f∘FV.int))=R1 at *;generalize ya false r=r1 at *;simp[ss,b1,b2,od,qr,sc,ac0,ac1,ra,rq,rc,INK,lc,ml2,s1,yh,zj,fc,ml1,s2];exact ka
 ·rintro σ hh ⟨z7,z8,z9,kM,ot,jU,rfl,rfl⟩;rw[wt];obtain⟨t',F⟩:=DP h [.lst ((Yc sh n0 ns (bH rows) (cs.map cZ)).map λe=>I e.left)] ((Yc sh n0 ns (bH rows) (cs.map cZ)).map Ye);rw[Wf] at F;simp only[vc] at F;have lv:=ZT h t' (.lst ((Yc sh n0 ns (bH rows) (cs.map cZ)).map Ye));generalize ((Yc sh n0 ns (bH rows) (cs.map cZ)).map λe=>MV.f (Ye e))=M at *;generalize ((Yc sh n0 ns (bH rows) (cs.map cZ)).map λe=>I e.left)=M2 at *;generalize ((Yc sh n0 ns (bH rows) (cs.map cZ)).map Ye)=M3 at *;simp[F,lv];exact hQ _ _ ⟨rfl,rfl⟩
end
end MP
end
section
namespace MP
open PySem
section
variable (n:Nat) (h:MH)
theorem Ych(most:Int)(rows:List (List Int))(H W:Nat)(d:Drawn most rows H W)(h1:1<=H)(hH:H<=60)(hW:W<=60)(es:List Ent)(jk:∀ e∈es,0<=e.p.1/\e.p.1<H/\0<=e.p.2/\e.p.2<W) :
  run prog (n+1) "_law_dots" [.f (Qb false false rows),.f (.lst (es.map Ye))] h=.ok (.f (Qb true true (ql (Qf H W) (es.map λe=>(e.p,e.fo))))) h:=by
 have it:∀ hh,eU "seq" [.f (Qb false false rows)] hh=some (rows.map (MV.f∘ya false),[]):=λhh=>by simp[eU,Qb]
 have C7:∀ r hh,eU "seq" [.f (ya false r)] hh=some (r.map (MV.f∘FV.int),[]):=λr hh=>by simp[eU,ya]
 have it3:∀ hh,eU "seq" [.f (.lst (es.map Ye))] hh=some (es.map λe=>MV.f (Ye e),[]):=λhh=>by
  have q:qb hh (.f (.lst (es.map Ye)))=some (es.map λe=>MV.f (Ye e)):=by simp[vc]
  have g:Zc hh (.f (.lst (es.map Ye)))=[]:=rfl;simp only[eU,q,ug,g]
 have hz:rows.length<=aG:=by rw[d.len,Yd];lia
 have ez:rows.map (λr=>r.map λ_=>(0:Int))=Qf H W:=by
  unfold Qf;rw[<- d.len];apply Uh;intro i;rw[Xb,Xo];by_cases hi:i<rows.length
  ·rw[if_pos hi,wb hi];have:=d.lH rows[i] (vq hi);simp[List.map_const',this]
  ·rw[if_neg hi,Wq (by lia)];rfl
 generalize hrv:Qb false false rows=rv at *;generalize hev:FV.lst (es.map Ye)=ev at *;rw[Qa4];simp only[dn];simp[it,MP.stM];rw[Pp _ (MV.f∘ya false) (λr=>r.map λ_=>(0:Int)) rows (λr hr z h=>⟨some (.f (ya false r)),by
  have hl:r.length<=aG:=by rw[d.lH r hr,Yd];lia
  have C:=Zz (bd:=zk (.nm 0) (λ(_:aF)(h:MH)=>R.ok true h) (λ(_:aF)(h:MH)=>R.ok (I 0) h)) (h:=h) (e:=MV.f∘FV.int) (g:=λ_=>I 0) (caps:=[]) r [] none (by simpa using hl) (λc _ z=>⟨some (I c),by simp[zk]⟩);have e0:r.map (λ_=>MV.f (.int 0))=(r.map λ_=>(0:Int)).map λi=>MV.f (.int i):=by simp
  simp[zk,C7,MP.stM,C,qF]⟩) [] none h (by simpa using hz)]
 simp only[R.aJ,YR,R.st_ok,wg];rw[ez];have zl:(Qf H W).length=rows.length:=by rw[d.len];simp[Qf]
 have zw:∀ r∈Qf H W,r.length=W:=λr hr=>by rw[vk hr];simp
 have eo:(h++(Qf H W).map qF)++[.lst ((ud rows.length).map λi=>MV.ref (h.length+i))]=own h (Qf H W):=by rw[<- zl];simp[own]
 have el:(h++(Qf H W).map qF).length=h.length+rows.length:=by simp[zl]
 rw[eo,el];have oE:rows.length=H:=d.len;rw[oE];rw[oE] at zl;have L:=J9 (bd:=Zm (.tp [.nm 3,.nm 4,.nm 5,.nm 6,.nm 7]) (Qa prog (run prog n) [MS.eG ((ME.var 2).sub ((ME.var 3).sub (ME.cI 0))) ((ME.var 3).sub (ME.cI 1)) (ME.var 5)])) (e:=λe=>MV.f (Ye e))
  (st:=λb':List (List Int)×Option MV×Option MV×Option MV×Option MV×Option MV=>[some (MV.f rv),some (MV.f ev),some (MV.ref (h.length+H)),b'.2.1,b'.2.2.1,b'.2.2.2.1,b'.2.2.2.2.1,b'.2.2.2.2.2]) (hp:=λb'=>own h b'.1)
  (f:=λb' e=>(Qu b'.1 e.p.1.toNat e.p.2.toNat e.fo,some (.f (Zv e.p)),some (I e.got),some (I e.fo),some (I e.left),some (I e.odd))) (λb'=>b'.1.length=H/\∀ r∈b'.1,r.length=W) es (Qf H W,none,none,none,none,none) ⟨zl,zw⟩ (λe pW b' jE=>by
   obtain⟨hl,hw⟩:=jE;obtain⟨p1,p2,p3,p4⟩:=jk e pW;have kZ:e.p.1.toNat<b'.1.length:=by lia
   have er:b'.1[e.p.1.toNat]?=some b'.1[e.p.1.toNat]:=by simp[kZ]
   have hj:=hw _ (wf er);have e1:cK ((ud H).map λi=>MV.ref (h.length+i)) e.p.1=some (.ref (h.length+e.p.1.toNat)):=by
    rw[qR _ _ p1];rw[Xb,vt (by lia)];rfl
   have e2:jM b'.1[e.p.1.toNat].length e.p.2=some e.p.2.toNat:=by
    unfold jM;rw[if_pos p3,if_pos (by rw[hj];exact p4)]
   have ht:=vI h b'.1;rw[hl] at ht;have sE:Yk (.f (Ye e))=some [MV.f (Zv e.p),I e.got,I e.fo,I e.left,I e.odd]:=rfl;refine⟨?_,by rw[yz];exact hl,λr hr=>?_⟩
   ·simp[Zm,sE,ht,e1,By h b'.1 _ _ er,e2];exact Lq h b'.1 _ _ _ e.fo er
   ·rcases Qz hr with hr|⟨r0,j7,rfl⟩
    ·exact hw r hr
    ·simp;exact hw r0 j7)
 obtain⟨L1,L2⟩:=L;have iu:(es.foldl (λ(b':List (List Int)×Option MV×Option MV×Option MV×Option MV×Option MV) e=>(Qu b'.1 e.p.1.toNat e.p.2.toNat e.fo,some (MV.f (Zv e.p)),some (I e.got),some (I e.fo),some (I e.left),some (I e.odd))) (Qf H W,none,none,none,none,none)).1=ql (Qf H W) (es.map λe=>(e.p,e.fo)):=by
  have key:∀(l:List Ent)(b:List (List Int)×Option MV×Option MV×Option MV×Option MV×Option MV),(l.foldl (λ(b':List (List Int)×Option MV×Option MV×Option MV×Option MV×Option MV) e=>(Qu b'.1 e.p.1.toNat e.p.2.toNat e.fo,some (MV.f (Zv e.p)),some (I e.got),some (I e.fo),some (I e.left),some (I e.odd))) b).1=ql b.1 (l.map λe=>(e.p,e.fo)):=by
   intro l
   induction l with
   |nil=>intro b;rfl
   |cons e l ih=>intro b;rw[wj,ih];rfl
  exact key es _
 rw[iu] at L2;obtain⟨L2l,L2w⟩:=L2;generalize hfin:(es.foldl (λ(b':List (List Int)×Option MV×Option MV×Option MV×Option MV×Option MV) e=>(Qu b'.1 e.p.1.toNat e.p.2.toNat e.fo,some (MV.f (Zv e.p)),some (I e.got),some (I e.fo),some (I e.left),some (I e.odd))) (Qf H W,none,none,none,none,none))=fin at *;obtain⟨made,z3,z4,z5,z6,z7⟩:=fin;simp only at iu L1;subst iu;generalize ql (Qf H W) (es.map λe=>(e.p,e.fo))=made at *;have ht:=vI h made;rw[L2l] at ht;have q:qb (own h made) (.ref (h.length+H))=some ((ud H).map λi=>MV.ref (h.length+i)):=ht;have gg:aV (Zc (own h made) (.ref (h.length+H))) (own h made):=by
  intro p hp;simp[Zc,ht] at hp;subst hp;exact ht
 have tr:bJ h (own h made):=by unfold own;exact bJ.app h _
 have tk:(own h made).take h.length=h:=by unfold own;rw[Xu];rfl
 have lv:∀ x,zg h (.f x) (own h made)=.ok (.f x) h:=λx=>by
  unfold zg;rw[if_pos tr];simp[tk]
 have Gz:∀ i,i<H->qm true "tuple" [.ref (h.length+i)] (own h made)=.ok (.f (ya true (made.getD i []))) (own h made):=λi hi=>by
  have e1:made[i]?=some (made.getD i []):=by simp[uh,show i<made.length by lia]
  have q1:qb (own h made) (.ref (h.length+i))=some ((made.getD i []).map λi=>.f (.int i)):=By h made i _ e1;rw[zS,q1,qc];show R.ok (yh ((made.getD i []).map (MV.f∘FV.int))) _=_;rw[Jk];rfl
 simp[it3];rw[L1];simp[q,eU,MP.stM];rw[N4 gg (e:=λi:Nat=>MV.ref (h.length+i)) (g:=λi=>MV.f (ya true (made.getD i []))) (caps:=[]) (ud H) [] none (by simp[Yd];lia) (λi hi z=>⟨some (.ref (h.length+i)),by
  have:=Gz i (Xm.mp hi);simp[zk,this]⟩)]
 have e3:(ud H).map (λi=>MV.f (ya true (made.getD i [])))=(made.map (ya true)).map MV.f:=by
  apply Uh;intro i;rw[Xb,Xb,Xb];by_cases hi:i<H
  ·rw[vt hi,wb (by lia)];simp[uh,show i<made.length by lia]
  ·rw[Wq (by simp;lia),Wq (by lia)];rfl
 rw[wg,R.aJ,e3,Yh];have tt:∀ hh,qm true "tuple" [.f (.lst (made.map (ya true)))] hh=.ok (.f (Qb true true made)) hh:=λhh=>by
  rw[zS];simp[Qb,sq,yh]
 generalize Qb true true made=out at *;generalize FV.lst (made.map (ya true))=ml at *;simp[tt,lv]
end
end MP
end
section
namespace MP
open PySem
section
variable (n:Nat) (h:MH)
theorem Pl(most:Int)(rows:List (List Int))(H W:Nat)(d:Drawn most rows H W)(hm:1<=most)(lY:most<2^100)(h1:1<=H)(h2:H<=1000)(w1:1<=W)(w2:W<=1000)(w:FV)(cs:List (Nat×Nat))(wr:l4 w H W cs)(hc:∀ c∈cs,c.1<H/\c.2<W)(iF:cs.length<=10000)
  (iv jV:MV) (sh:List Int) (n0:Int) (ns:List Int) (V:cC (.code::h) iv sh) (V2:cC (.code::h) jV (n0::ns)) (s:kJ sh) (K:iI most (n0::ns)) (z:(0:Int)∈n0::ns) (m:most∈n0::ns) (hi:∀ q∈n0::ns,0<=q/\q<=most) :
  run prog (n+8) "handed" [.f (Qj most rows),.f w,iv,jV] (.code::h)=.ok (.f (Qj most (ql (Qf H W) ((Yc sh n0 ns (bH rows) (cs.map cZ)).map λe=>(e.p,e.fo))))) (.code::h):=by
 have L:=EL n h most rows H W d hm lY h1 w1 w cs wr hc iF iv jV sh n0 ns V V2 s K z m;have F:=Jx .code h ((Yc sh n0 ns (bH rows) (cs.map cZ)).map Ye) [];have D:=Qbg (n+2) (.code::(h++[.dead])) most rows H W d hm h1 h2 w1 w2 (Yc sh n0 ns (bH rows) (cs.map cZ)) (by rw[ZR];simp;lia) (λe he=>by
  have this:e.p∈(Yc sh n0 ns (bH rows) (cs.map cZ)).map (λe:Ent=>e.p):=ue.mpr ⟨e,he,rfl⟩;rw[KN] at this;obtain⟨c,eg,hp⟩:=ue.mp this;have:=hc c eg;rw[<- hp];simp[cZ];lia) (λe he=>hi _ (Ycg sh n0 ns (bH rows) (cs.map cZ) e he))
 rw[Wf] at F;simp only[vc] at F;have lv:=ZT (.code::h) [.dead] (Qj most (ql (Qf H W) ((Yc sh n0 ns (bH rows) (cs.map cZ)).map λe=>(e.p,e.fo))));generalize ((Yc sh n0 ns (bH rows) (cs.map cZ)).map λe=>MV.f (Ye e))=M at *;generalize ((Yc sh n0 ns (bH rows) (cs.map cZ)).map Ye)=M2 at *;generalize Qj most (ql (Qf H W) ((Yc sh n0 ns (bH rows) (cs.map cZ)).map λe=>(e.p,e.fo)))=out at *;generalize Qj most rows=pc at *;rw[ybR];simp only[fN];simp at F D lv L;simp[L,F,D,lv]
end
section
variable (n:Nat) (h:MH)
theorem ZcB{a:Nat}{xs:List MV}(e:yc h a=some xs)(t:String):qQ prog.subs h (.ref a) t=some (decide (t="list")):=by
 unfold yc at e;split at e
 ·next w=>simp[qQ,w]
 ·cases e
theorem Zbo(d:Nat)(a:Nat)(xs:List FV)(e:yc h a=some (xs.map .f))(hl:xs.length<=aG)(hq:∀ x∈xs,isQ d x=true):run prog (n+d+1) "_law_same" [.ref a,.f (.lst xs)] h=.ok (B true) h:=by
 have i1:=ZcB h e;have gr:Zc h (.ref a)=[(a,xs.map .f)]:=by simp[Zc,e]
 have zs:xy (λp:MV×MV=>yh [p.1,p.2]) ((xs.map MV.f).zip (xs.map MV.f))=xs.map λi=>MV.f (.tup [i,i]):=by
  rw[B4,Wf,Wf];rfl
 have gk:=N5 e;have q:qb h (.f (.lst xs))=some (xs.map .f):=rfl;have ln:(xs.map MV.f).length=xs.length:=by simp
 have iv:∀ t,qQ prog.subs h (.f (.lst xs)) t=some (decide (t="list")):=λt=>rfl;have gq:Zc h (.f (.lst xs))=[]:=rfl;generalize hv:FV.lst xs=v at *;generalize hm:xs.map MV.f=M at *;rw[N2];simp only[cH];simp[i1,iv,e,q,gr,gq,ln,zs,MP.stM];rw[Pw gk (e:=λi=>MV.f (.tup [i,i])) (g:=λ_=>B true) (caps:=[]) xs [] none none (by simpa using hl) (λi hi z w=>⟨some (.f i),some (.f i),by simp[zk,yP n h d i (hq i hi)]⟩)];simp[vc]
end
end MP
end
section
namespace MP
open PySem
theorem Qca(h:MH)(a:Nat)(xs:List Int)(e:yc h a=some (xs.map (MV.f∘FV.int))):yJ h (.ref a)=some (ya false xs):=by
 have m:(xs.map (MV.f∘FV.int)).mapM (yn h 4)=some (xs.map FV.int):=by
  have:=tG h 3 (xs.map FV.int)
  rwa [Wf] at this
 simp only[yJ,yn,e,xi,m,ug];rfl
theorem NT(h:MH)(a:Nat)(xs:List Int)(e:yc h a=some (xs.map (MV.f∘FV.int))):yI .ne (.ref a) (.f (ya false xs)) h=some false:=by
 have d:=Qca h a xs e;have d2:yJ h (.f (ya false xs))=some (ya false xs):=rfl;have q:=QcU false xs xs;simp only[yI,d,d2,xi,q];simp
theorem Li(e:Ent):isQ 3 (Ye e)=true:=by simp[isQ,Ye,Yd]
section
theorem ycW(n:Nat)(ns:List Int)(most:Int)(rows:List (List Int))(H W:Nat)(d:Drawn most rows H W)(hm:1<=most)(lY:most<2^100)(h1:1<=H)(w1:1<=W)(w:FV)(cs:List (Nat×Nat))(wr:l4 w H W cs)(hc:∀ c∈cs,c.1<H/\c.2<W)(iF:cs.length<=300)
  (sh:List Int) (n0:Int) (is:List Int) (s:kJ sh) (K:iI most (n0::is)) (z:(0:Int)∈n0::is) (m:most∈n0::is) (k:Int) (rv:FV) (ot jU lR:Option MV) (g:MH) :
  ∃ F6 g',Qa prog (run prog (n+8)) [.set (.nm 13) (.call "ledger" [.var 7,.var 4,.var 9,.var 10]),.ite (.or [.not (.call "_law_same" [.var 13,.var 8]),.cmp .ne (.var 9) (.var 5),.cmp .ne (.var 10) (.var 6)]) [.ret (.cB false)] [],.expr (.lm "append" (.var 13) [.tup [.tup [.cI 0,.cI 0],.cI 0,.cI 0,.cI 0,.cI 0]]),.expr (.lm "reverse" (.var 13) [])]
   [some (.f (.dj ns)),some (.ref 1),some (I most),some (.f rv),some (.f w),some (.f (ya false sh)),some (.f (ya false (n0::is))),some (.f (Qj most rows)),some (.f (.lst ((Yc sh n0 is (bH rows) (cs.map cZ)).map Ye))),some (.ref 3),some (.ref 4),ot,jU,lR] (.code::([atC k,.dead,.lst (sh.map (MV.f∘FV.int)),.lst ((n0::is).map (MV.f∘FV.int))]++g)) =
   .next [some (.f (.dj ns)),some (.ref 1),some (I most),some (.f rv),some (.f w),some (.f (ya false sh)),some (.f (ya false (n0::is))),some (.f (Qj most rows)),some (.f (.lst ((Yc sh n0 is (bH rows) (cs.map cZ)).map Ye))),some (.ref 3),some (.ref 4),ot,jU,F6] (.code::([atC k,.dead,.lst (sh.map (MV.f∘FV.int)),.lst ((n0::is).map (MV.f∘FV.int))]++g')):=by
 have L:=EL (n+1) ([atC k,.dead,.lst (sh.map (MV.f∘FV.int)),.lst ((n0::is).map (MV.f∘FV.int))]++g) most rows H W d hm lY h1 w1 w cs wr hc (by lia) (.ref 3) (.ref 4) sh n0 is (cC.ref rfl) (cC.ref rfl) s K z m;have el:(Yc sh n0 is (bH rows) (cs.map cZ)).length<=300:=by rw[ZR];simp;lia
 generalize Yc sh n0 is (bH rows) (cs.map cZ)=es at *;have lz:(es.map λe=>MV.f (Ye e)).length<aG:=by rw[Yd,wc];lia
 have e1:(es.map λe=>MV.f (Ye e))=(es.map Ye).map MV.f:=by simp[vc]
 have ce:=zi (.code::([atC k,.dead,.lst (sh.map (MV.f∘FV.int)),.lst ((n0::is).map (MV.f∘FV.int))]++g)) [] (es.map λe=>MV.f (Ye e));have S:=Zbo (n+4) (.code::([atC k,.dead,.lst (sh.map (MV.f∘FV.int)),.lst ((n0::is).map (MV.f∘FV.int))]++g)++[.lst (es.map λe=>MV.f (Ye e))]) 3 _ (es.map Ye) (by rw[<- e1];exact ce) (by rw[Yd,wc];lia) (λx hx=>by
  obtain⟨e,_,rfl⟩:=ue.mp hx;exact Li e)
 have c1:=NT (.code::([atC k,.dead,.lst (sh.map (MV.f∘FV.int)),.lst ((n0::is).map (MV.f∘FV.int))]++g)++[.lst (es.map λe=>MV.f (Ye e))]) 3 sh rfl;have c2:=NT (.code::([atC k,.dead,.lst (sh.map (MV.f∘FV.int)),.lst ((n0::is).map (MV.f∘FV.int))]++g)++[.lst (es.map λe=>MV.f (Ye e))]) 4 (n0::is) rfl;have st:=λM ys=>zp (.code::([atC k,.dead,.lst (sh.map (MV.f∘FV.int)),.lst ((n0::is).map (MV.f∘FV.int))]++g)) [] M ys;have ND:=λM=>zi (.code::([atC k,.dead,.lst (sh.map (MV.f∘FV.int)),.lst ((n0::is).map (MV.f∘FV.int))]++g)) [] M;refine⟨some (.ref (g.length+1+1+1+1+1)),g++[.lst ((es.map λe=>MV.f (Ye e))++[MV.f (.tup [.tup [.int 0,.int 0],.int 0,.int 0,.int 0,.int 0])]).reverse],?_⟩;generalize hM:(es.map λe=>MV.f (Ye e))=M at *;generalize FV.lst (es.map Ye)=lv at *;generalize sh.map (MV.f∘FV.int)=Gu at *;generalize (n0::is).map (MV.f∘FV.int)=Hq at *;generalize ya false sh=sv at *;generalize ya false (n0::is)=iv at *;generalize Qj most rows=pc at *;simp at L S c1 c2 st ND;have m7:∀(h:MH)(a:Nat),kU "reverse" (.ref a) [] h=opt (yc h a) λxs=>.ok (.f .bG) (ye h a xs.reverse):=λ_ _=>rfl;simp[Qa,L,S,c1,c2,st,ND,lz,yh,zj,m7]
theorem nD(n:Nat)(ns:List Int)(hl:ns.length<=63):run prog (n+9) "law" [.f (.dj ns)] [.code]=.ok (B true) [.code]:=by
 suffices cY (run prog (n+9) "law" [.f (.dj ns)] [.code]) λv h'=>v=B true/\h'=[.code] by
  obtain⟨v,h',e,rfl,rfl⟩:=this;exact e
 refine cY.of λQ hQ=>?_;obtain⟨v,h',CA,most,rows,aw,sh,w,cs,k,H,W,m1,m2,h1,h2,w1,w2,hw,d,K,il,so,wr,jk,iF,kk1,kk2,rfl,rfl⟩:=ZcG (n+2) [] ns 0 (by lia) (by lia);obtain⟨n0,is,rfl⟩:∃ n0 is,aw=n0::is:=by
  cases aw with
  |nil=>exact absurd K.z (by simp)
  |cons a b=>exact⟨a,b,rfl⟩
 have g:Good most rows:=d.good m1 h1 (by lia) w1;have MK:=zU (n+6) (.code::atC k::[]) most false false rows g;have hz:=K.z;have Aq:=K.m;have lY:most<2^100:=by lia
 have hr:rows≠[]:=by rintro rfl;have:=d.len;simp at this;lia
 obtain⟨r0,rs,er⟩:∃ r0 rs,rows=r0::rs:=by
  cases rows with
  |nil=>exact absurd rfl hr
  |cons a b=>exact⟨a,b,rfl⟩
 have e1:r0.length=W:=d.lH r0 (by rw[er];simp);have e2:rows.length=H:=d.len;have ln:∀ hh,qm true "len" [.f (Qb false false rows)] hh=.ok (I (H:Int)) hh:=λhh=>by simp[Qb,sq,e2]
 have q1:∀ hh,qb hh (.f (Qb false false rows))=some (rows.map (MV.f∘ya false)):=λhh=>by simp[Qb]
 have a0:cK (rows.map (MV.f∘ya false)) 0=some (.f (ya false r0)):=by
  have S0:=zr (rows.map (MV.f∘ya false)) 0;change cK _ (0:Int)=_ at S0;rw[S0,er];rfl
 have lr:∀ hh,qm true "len" [.f (ya false r0)] hh=.ok (I (W:Int)) hh:=λhh=>by simp[ya,sq,e1]
 have TB:∀(jU lR:Option MV)(g:MH),cY (yb [.code] (Qa prog (run prog (n+8)) (i8.body.drop 7) [some (.f (.dj ns)),some (.ref 1),some (I most),some (.f (Qb false false rows)),some (.f w),some (.f (ya false sh)),some (.f (ya false (n0::is))),some (.f (Qj most rows)),some (.f (.lst ((Yc sh n0 is (bH rows) (cs.map cZ)).map Ye))),some (.ref 3),some (.ref 4),some (.f (Qj most (ql (Qf H W) ((Yc sh n0 is (bH rows) (cs.map cZ)).map λe=>(e.p,e.fo))))),jU,lR] (.code::([atC k,.dead,.lst (sh.map (MV.f∘FV.int)),.lst ((n0::is).map (MV.f∘FV.int))]++g)))) Q:=by
  intro jU lR g;have LT:=EL (n+1) ([atC k,.dead,.lst (sh.map (MV.f∘FV.int)++[I 5]),.lst []]++g) most rows H W d m1 lY h1 w1 w cs wr jk (by lia) (.f (ya true sh)) (.f (ya true (n0::is))) sh n0 is (cC.row _ _ _) (cC.row _ _ _) so K hz Aq;have F:=Jx .code ([atC k,.dead,.lst (sh.map (MV.f∘FV.int)++[I 5]),.lst []]++g) ((Yc sh n0 is (bH rows) (cs.map cZ)).map Ye) [];have e0:((Yc sh n0 is (bH rows) (cs.map cZ)).map Ye).map MV.f=(Yc sh n0 is (bH rows) (cs.map cZ)).map λe=>MV.f (Ye e):=by simp[vc]
  rw[e0] at F;have HT:=Pl n ([atC k,.dead,.lst (sh.map (MV.f∘FV.int)++[I 5]),.lst []]++g++[.dead]) most rows H W d m1 lY h1 (by lia) w1 (by lia) w cs wr jk (by lia) (.f (ya true sh)) (.f (ya true (n0::is))) sh n0 is (cC.row _ _ _) (cC.row _ _ _) so K hz Aq K.iZ;have el:(Yc sh n0 is (bH rows) (cs.map cZ)).length<=300:=by rw[ZR];simp;lia
  have q4:isQ 4 (.lst ((Yc sh n0 is (bH rows) (cs.map cZ)).map Ye))=true:=by
   simp only[isQ,wc,Wa,decide_eq_true_eq,Wp];refine⟨by rw[Yd];lia,λx hx=>?_⟩;obtain⟨e,_,rfl⟩:=ue.mp hx;exact Li e
  have S1:=yP (n+4) (.code::([atC k,.dead,.lst (sh.map (MV.f∘FV.int)++[I 5]),.lst []]++g++[.dead])) 4 _ q4;have S2:=yP (n+7) (.code::([atC k,.dead,.lst (sh.map (MV.f∘FV.int)++[I 5]),.lst []]++g++[.dead])) 1 (.int most) rfl;have DL:=Ych (n+7) (.code::([atC k,.dead,.lst (sh.map (MV.f∘FV.int)++[I 5]),.lst []]++g++[.dead])) most rows H W d h1 h2 w2 (Yc sh n0 is (bH rows) (cs.map cZ)) (λe he=>by
   have this:e.p∈(Yc sh n0 is (bH rows) (cs.map cZ)).map (λe:Ent=>e.p):=ue.mpr ⟨e,he,rfl⟩;rw[KN] at this;obtain⟨c,eg,hp⟩:=ue.mp this;have:=jk c eg;rw[<- hp];simp[cZ];lia)
  have zF:∀(ps:List ((Int×Int)×Int)) (R:List (List Int)),R.length=H->(∀ r∈R,r.length=W)->(ql R ps).length=H/\∀ r∈ql R ps,r.length=W:=by
   intro ps
   induction ps with
   |nil=>intro R a b;exact⟨a,b⟩
   |cons p ps ih =>
    intro R a b;refine ih (Qu R p.1.1.toNat p.1.2.toNat p.2) (by rw[yz];exact a) λr hr=>?_
    rcases Qz hr with hr|⟨r0,j7,rfl⟩
    ·exact b r hr
    ·simp;exact b r0 j7
  have zl:=zF ((Yc sh n0 is (bH rows) (cs.map cZ)).map λe=>(e.p,e.fo)) (Qf H W) (by simp[Qf]) (λr hr=>by rw[vk hr];simp);generalize hso:ql (Qf H W) ((Yc sh n0 is (bH rows) (cs.map cZ)).map λe=>(e.p,e.fo))=nB at *;have q3:isQ 3 (Qb true true nB)=true:=yct true true _ (by lia) (λr hr=>by have:=zl.2 r hr;lia);have S3:=yP (n+5) (.code::([atC k,.dead,.lst (sh.map (MV.f∘FV.int)++[I 5]),.lst []]++g++[.dead])) 3 _ q3;have p1:∀ hh,lg prog.iw "rows" (.f (Qj most nB)) hh=some (.f (Qb true true nB)):=λhh=>by simp[Qj]
  have p2:∀ hh,lg prog.iw "most" (.f (Qj most nB)) hh=some (I most):=λhh=>by simp[Qj]
  have p3:∀ hh,lg prog.iw "rows" (.f (Qj most rows)) hh=some (.f (Qb true true rows)):=λhh=>by simp[Qj]
  have iP:∀ hh,qQ prog.subs hh (.f (Qj most nB)) "Picture"=some true:=λhh=>by simp[Qj]
  have EQ:jX (Qb true true nB) (Qb true true nB)=some true:=by rw[NV];simp
  have PH:jX (Qb true true rows) (Qb true true rows)=some true:=by rw[NV];simp
  have t1:∀(l:List Int) hh,qm true "tuple" [.f (ya false l)] hh=.ok (.f (ya true l)) hh:=λl hh=>by
   have q:qb hh (.f (ya false l))=some (l.map (MV.f∘FV.int)):=by simp[ya]
   rw[zS,q,qc,Jk];rfl
  have it:∀ hh,eU "seq" [.f (Qb false false rows)] hh=some (rows.map (MV.f∘ya false),[]):=λhh=>by simp[eU,Qb]
  have tt:∀ hh,qm true "tuple" [.f (.lst (rows.map (ya true)))] hh=.ok (.f (Qb true true rows)) hh:=λhh=>by
   rw[zS];simp[Qb,sq,yh]
  have rz:rows.length<=aG:=by rw[e2,Yd];lia
  have CP:∀ hh,Zi [] (zk (.nm 0) (λ(_:aF)(h:MH)=>R.ok true h) (λσ h=>(yg prog (run prog (n+8)) [.var 0] σ h).bind λxs h1=>qm true "tuple" xs h1)) (rows.map (MV.f∘ya false)) [] [none] hh=.ok ((rows.map (ya true)).map MV.f) hh:=λhh=>by
   rw[Zz (e:=MV.f∘ya false) (g:=MV.f∘ya true) (caps:=[]) rows [] none (by simpa using rz) (λr _ z=>⟨some (.f (ya false r)),by simp[zk,t1]⟩)];simp
  have c3:∀(x y:List MV)(t:MH),yc (.code::atC k::.dead::.lst x::.lst y::t) 3=some x:=λ_ _ _=>rfl;have s3:∀(x y ys:List MV)(t:MH),ye (.code::atC k::.dead::.lst x::.lst y::t) 3 ys=.code::atC k::.dead::.lst ys::.lst y::t:=λ_ _ _ _=>rfl;have c4:∀(x y:List MV)(t:MH),yc (.code::atC k::.dead::.lst x::.lst y::t) 4=some y:=λ_ _ _=>rfl;have s4:∀(x y ys:List MV)(t:MH),ye (.code::atC k::.dead::.lst x::.lst y::t) 4 ys=.code::atC k::.dead::.lst x::.lst ys::t:=λ_ _ _ _=>rfl;have cl1:∀(h:MH)(a:Nat),kU "clear" (.ref a) [] h=opt (yc h a) λxs=>.ok (.f .bG) (ye h a []):=λ_ _=>rfl;have shl:(sh.map (MV.f∘FV.int)).length<aG:=by have:=so.len;simp[Yd];lia
  have ts:=t1 sh;have ti:=t1 (n0::is);have nlT:∀ hh,Zw true ((rows.map (ya true)).map MV.f) hh=.ok (.f (.lst (rows.map (ya true)))) hh:=λhh=>Yh _ hh;have lvE:∀(x:FV)(t:MH),zg [.code] (.f x) (.code::t)=.ok (.f x) [.code]:=λx t=>ZT [.code] t x;clear K wr d hso q3 q4 zl zF MK CA e0;generalize ((Yc sh n0 is (bH rows) (cs.map cZ)).map λe=>MV.f (Ye e))=M0 at *;generalize FV.lst ((Yc sh n0 is (bH rows) (cs.map cZ)).map Ye)=lv at *;generalize sh.map (MV.f∘FV.int)=Gu at *;generalize (n0::is).map (MV.f∘FV.int)=Hq at *;generalize ya false sh=sv at *;generalize ya false (n0::is)=iv at *;generalize ya true sh=svt at *;generalize ya true (n0::is)=ivt at *;generalize Qj most rows=pc at *;generalize Qj most nB=ph at *;generalize Qb true true nB=rt at *;generalize Qb true true rows=rt2 at *;generalize hR0:(rows.map (MV.f∘ya false))=R0 at *;generalize hR1:(rows.map (ya true)).map MV.f=R1 at *;generalize FV.lst (rows.map (ya true))=r1v at *;generalize Qb false false rows=rv at *;simp only[i8,Vo,um];simp at LT F HT S1 S2 S3 DL;simp[Qa,c3,s3,c4,s4,cl1,shl,ts,ti,LT,F,S1,HT,p1,p2,p3,EQ,PH,iP,S2,DL,S3,it,MP.stM];simp only[yg,qa] at CP;simp[CP,nlT,tt,PH,lvE];exact hQ _ _ ⟨rfl,rfl⟩
 have OR:=wr;obtain⟨c,fn,fv,f,ew,no,mo,ord⟩:=OR;have cm:∀ hh,lC "order" (.f w) hh=some c:=λhh=>by rw[ew];simp[lC,no]
 have O:=ord (n+2) (.code::atC k::[]);have F:=ZP .code (atC k) [] (cs.map Za);have LD:=QcM (n+6) (.code::atC k::[.dead]) most rows H W d m1 lY cs jk iF sh n0 is so (by simp at il;lia) hz Aq;have HA:=Pl n ([atC k,.dead,.lst (sh.map (MV.f∘FV.int)),.lst ((n0::is).map (MV.f∘FV.int))]) most rows H W d m1 lY h1 (by lia) w1 (by lia) w cs wr jk (by lia) (.ref 3) (.ref 4) sh n0 is (cC.ref rfl) (cC.ref rfl) so K hz Aq K.iZ;have TU:=λjU lR g=>ycW n ns most rows H W d m1 lY h1 w1 w cs wr jk iF sh n0 is so K hz Aq k (Qb false false rows) (some (.f (Qj most (ql (Qf H W) ((Yc sh n0 is (bH rows) (cs.map cZ)).map λe=>(e.p,e.fo)))))) jU lR g;have l1:∀ hh:MH,qm false "list" [.f (ya false sh)] hh=.ok (.ref hh.length) (hh++[.lst (sh.map (MV.f∘FV.int))]):=λhh=>by
  have q:qb hh (.f (ya false sh))=some (sh.map (MV.f∘FV.int)):=by simp[ya]
  simp only[qm,q,qc];rfl
 have l2:∀ hh:MH,qm false "list" [.f (ya false (n0::is))] hh=.ok (.ref hh.length) (hh++[.lst ((n0::is).map (MV.f∘FV.int))]):=λhh=>by
  have q:qb hh (.f (ya false (n0::is)))=some ((n0::is).map (MV.f∘FV.int)):=by simp[ya]
  simp only[qm,q,qc];rfl
 rw[ycM];simp only[i8,Vo,um] at TB ⊢;generalize Qj most (ql (Qf H W) ((Yc sh n0 is (bH rows) (cs.map cZ)).map λe=>(e.p,e.fo)))=hd at *;generalize FV.lst ((Yc sh n0 is (bH rows) (cs.map cZ)).map Ye)=lv at *;generalize sh.map (MV.f∘FV.int)=Gu at *;generalize (n0::is).map (MV.f∘FV.int)=Hq at *;generalize ya false sh=sv at *;generalize ya false (n0::is)=iv at *;generalize Qj most rows=pc at *;generalize (rows.map (MV.f∘ya false))=R0 at *;generalize Qb false false rows=rv at *;generalize ya false r0=r0v at *;generalize (cs.map Za).map MV.f=M at *;generalize FV.lst (cs.map Za)=Ba at *;simp at O F;simp[CA,MK,ln,q1,a0,lr,cm,mo,O,F,LD,l1,l2,HA,ym _ (2:Int) (by lia)];refine Yq (Q:=λr=>cY (yb _ r) _) 2 (λi σ hh=>∃(jU lR:Option MV)(g:MH),hh=.code::([atC k,.dead,.lst Gu,.lst Hq]++g)/\σ=[some (.f (.dj ns)),some (.ref 1),some (I most),some (.f rv),some (.f w),some (.f sv),some (.f iv),some (.f pc),some (.f lv),some (.ref 3),some (.ref 4),some (.f hd),jU,lR]) ⟨none,none,[],by simp,rfl⟩ ?_ ?_
 ·rintro i σ hh hi ⟨jU,lR,g,rfl,rfl⟩ Q hQ;obtain⟨F6,g',e⟩:=TU (some (I i)) lR g;have ka:=hQ _ _ ⟨some (I i),F6,g',rfl,rfl⟩;unfold Zm;simp only[yK,G8,wz,List.set_cons_zero];rw[e];simpa using ka
 ·rintro σ hh ⟨jU,lR,g,rfl,rfl⟩;exact TB jU lR g
end
end MP
end
section
namespace SD
open PySem L2 L3 M3 MP PyProof.Rows
noncomputable def top(i:Nat):Stmt:=PySem.Challenge.pw_dotscreen_k30_handed.main.body.getD i (.Pass ⟨0,0,0,0⟩)
noncomputable abbrev JK:Stmt:=top 8
theorem zbK:qi prog ZV ["rows"] ["rows"] JK=true:=by decide +kernel
noncomputable abbrev Em:Stmt:=top 9
theorem YbQ:qi prog yX ["rows","least","greatest","row"] ["rows","least","greatest"] Em=true:=by decide +kernel
noncomputable abbrev zE:Stmt:=top 10
theorem YaH:qi prog bQ ["high","wide","cells","row"] ["high","wide"] zE=true:=by decide +kernel
noncomputable abbrev Ql:Stmt:=qX (top 12) 0
theorem Yai:qi prog qp ["self","most","rows","kept","fault"] ["self","most","rows"] Ql=true:=by decide +kernel
noncomputable abbrev J5:Stmt:=top 13
theorem zdi:qi prog DE ["picture"] ["picture"] J5=true:=by decide +kernel
noncomputable abbrev EE:Stmt:=top 14
theorem Ydf:qi prog DK ["picture"] ["picture"] EE=true:=by decide +kernel
noncomputable abbrev Ha:Stmt:=top 15
theorem ycg:qi prog eV ["picture"] ["picture"] Ha=true:=by decide +kernel
noncomputable abbrev JI:Stmt:=top 16
theorem zbU:qi prog YW ["picture","cell"] ["picture","cell"] JI=true:=by decide +kernel
noncomputable abbrev En:Stmt:=top 17
theorem ZbL:qi prog QH ["picture","cell"] ["picture","cell"] En=true:=by decide +kernel
noncomputable abbrev J8:Stmt:=top 18
theorem YbR:qi prog dQ ["picture","cell"] ["picture","cell"] J8=true:=by decide +kernel
noncomputable abbrev ER:Stmt:=top 19
theorem ZbS:qi prog dU ["high","wide"] ["high","wide"] ER=true:=by decide +kernel
noncomputable abbrev zO:Stmt:=top 20
theorem qa6:qi prog YA ["picture","pairs","rows","cell","shade"] ["picture","pairs"] zO=true:=by decide +kernel
noncomputable abbrev JL:Stmt:=top 21
theorem YbV:qi prog dR ["most","size","pairs"] ["most","size","pairs"] JL=true:=by decide +kernel
noncomputable abbrev EN:Stmt:=top 23
theorem zbM:qi prog dW ["inks","most"] ["inks","most"] EN=true:=by decide +kernel
noncomputable abbrev ZU:Stmt:=top 24
theorem qbp:qi prog cV ["inks","lesser","greater"] ["inks"] ZU=true:=by decide +kernel
noncomputable abbrev zW:Stmt:=top 28
theorem Ybj:qi prog cU ["shares"] ["shares"] zW=true:=by decide +kernel
noncomputable abbrev JP:Stmt:=top 29
theorem Yci:qi prog fN ["picture","way","shares","inks"] ["picture","way","shares","inks"] JP=true:=by decide +kernel
noncomputable abbrev Jp:Stmt:=top 30
theorem Zcg:qi prog eW ["picture","entries"] ["picture","entries"] Jp=true:=by decide +kernel
noncomputable abbrev Eu:Stmt:=top 31
theorem ycs:qi prog fM ["picture","way","shares","inks","size","entries","cell"] ["picture","way","shares","inks"] Eu=true:=by decide +kernel
noncomputable abbrev qH:Stmt:=top 32
theorem qaQ:qi prog a6 ["entries","cell","shade","shares","inks","due","back","share"] ["entries","cell","shade","shares","inks"] qH=true:=by decide +kernel
noncomputable abbrev JH:Stmt:=top 33
theorem ZbI:qi prog dS ["cell","shade","due","whole","inks","got","ink"] ["cell","shade","due","whole","inks"] JH=true:=by decide +kernel
noncomputable abbrev Zl:Stmt:=top 34
noncomputable abbrev yC:Stmt:=qX (top 36) 0
theorem Zby:qi prog dt ["self","high","wide"] ["self","high","wide"] yC=true:=by decide +kernel
noncomputable abbrev Zs:Stmt:=qX (top 37) 0
theorem qaS:qi prog bV ["self","high","wide","cells","row","line"] ["self","high","wide"] Zs=true:=by decide +kernel
noncomputable abbrev Ym:Stmt:=qX (top 38) 0
theorem Zar:qi prog bD ["self","high","wide"] ["self","high","wide"] Ym=true:=by decide +kernel
noncomputable abbrev Qm:Stmt:=qX (top 39) 0
theorem yau:qi prog bC ["self","high","wide","side"] ["self","high","wide"] Qm=true:=by decide +kernel
noncomputable abbrev yj:Stmt:=qX (top 40) 0
theorem Yad:qi prog bf ["self","way","mask"] ["self","way","mask"] yj=true:=by decide +kernel
noncomputable abbrev zn:Stmt:=qX (top 40) 1
theorem qau:qi prog bB ["self","high","wide","ways","left_out","way"] ["self","high","wide"] zn=true:=by decide +kernel
noncomputable abbrev QK:Stmt:=top 41
theorem ya7:qi prog cg ["way","ways"] ["way"] QK=true:=by decide +kernel
noncomputable abbrev zJ:Stmt:=top 42
theorem YaZ:qi prog bU ["side","cells","reached"] ["side"] zJ=true:=by decide +kernel
noncomputable abbrev YM:Stmt:=top 43
theorem Za5:qi prog cj ["cells","side","first","second","third","fourth"] ["cells","side"] YM=true:=by decide +kernel
noncomputable abbrev Q1:Stmt:=top 45
theorem qbC:qi prog qJ ["_law_script","_law_at","_law_cell","_law_m"] ["_law_script","_law_at"] Q1=true:=by decide +kernel
noncomputable abbrev qT:Stmt:=top 46
theorem Zbs:qi prog cW ["_law_script","_law_at","_law_room","_law_m","_law_cell"] ["_law_script","_law_at","_law_room"] qT=true:=by decide +kernel
noncomputable abbrev QN:Stmt:=top 47
theorem Ya6:qi prog cq ["_law_script","_law_at","_law_most_here","_law_high_count","_law_wide_count","_law_m","_law_few","_law_rows","_law_r","_law_row","_law_c"] ["_law_script","_law_at","_law_most_here","_law_high_count","_law_wide_count"] QN=true:=by decide +kernel
noncomputable abbrev JM:Stmt:=top 48
theorem yby:qi prog cH ["_law_found","_law_due"] ["_law_found","_law_due"] JM=true:=by decide +kernel
noncomputable abbrev Z6:Stmt:=top 49
theorem Ybx:qi prog dk ["_law_script","_law_at","_law_m"] ["_law_script","_law_at"] Z6=true:=by decide +kernel
noncomputable abbrev Q0:Stmt:=top 50
theorem ZbE:qi prog dm ["_law_script","_law_at","_law_most_here","_law_m","_law_met","_law_k","_law_n"] ["_law_script","_law_at","_law_most_here"] Q0=true:=by decide +kernel
noncomputable abbrev zN:Stmt:=top 51
theorem za7:qi prog ck ["_law_script","_law_at","_law_m","_law_shares_here","_law_k"] ["_law_script","_law_at"] zN=true:=by decide +kernel
noncomputable abbrev G4:Stmt:=top 52
theorem ybx:qi prog cG ["_law_script","_law_at","_law_most_cells","_law_m","_law_high_count","_law_wide_count"] ["_law_script","_law_at","_law_most_cells"] G4=true:=by decide +kernel
noncomputable abbrev G1:Stmt:=top 53
theorem QbI:qi prog aQ ["_law_script","_law_at","_law_size_here","_law_m","_law_way_here","_law_mask","_law_k","_law_n"] ["_law_script","_law_at","_law_size_here"] G1=true:=by decide +kernel
noncomputable abbrev YY:Stmt:=top 54
theorem zbA:qi prog dr ["_law_script","_law_at","_law_most_here","_law_rows","_law_inks_here","_law_way_here"] ["_law_script","_law_at"] YY=true:=by decide +kernel
noncomputable abbrev JJ:Stmt:=top 55
theorem ybS:qi prog dX ["_law_inks_here","_law_want","_law_best","_law_ink_here"] ["_law_inks_here","_law_want"] JJ=true:=by decide +kernel
noncomputable abbrev zL:Stmt:=top 56
theorem ya3:qi prog cu ["_law_rows","_law_cells","_law_shares_here","_law_inks_here","_law_found","_law_lefts","_law_odd","_law_cell","_law_due","_law_k","_law_got","_law_want","_law_ink_here"] ["_law_rows","_law_cells","_law_shares_here","_law_inks_here"] zL=true:=by decide +kernel
noncomputable abbrev zZ:Stmt:=top 57
theorem ZbC:qi prog dn ["_law_rows","_law_ledger_rows","_law_made","_law_cell","_law_got","_law_ink_here","_law_left","_law_odd"] ["_law_rows","_law_ledger_rows"] zZ=true:=by decide +kernel
noncomputable abbrev Zy:Stmt:=top 58
theorem zar:qi prog bA ["_law_script","_law_at","_law_most_here","_law_size_here","_law_rows","_law_inks_here","_law_k","_law_m","_law_one","_law_middle"] ["_law_script","_law_at"] Zy=true:=by decide +kernel
noncomputable abbrev nq:Stmt:=top 59
theorem Me:qi prog i8 ["_law_script","_law_at","_law_most_here","_law_rows","_law_way_here","_law_shares_here","_law_inks_here","_law_picture","_law_due","_law_told_shares","_law_told_inks","_law_dots_here","_law_turn","_law_found"] ["_law_script"] nq=true:=by decide +kernel
end SD
end
section
namespace SD
open PySem PySem.Spec PyProof.Rows L2 L3 M3 MP
noncomputable def rn(K:PySem.W.Frag)(qd Zt zh Qc zd Yb n9 pd:af):Tx:=⟨(λs=>match s with
  |"Picture"=>qd
  |"Way"=>Zt
  |"FroWay"=>zh
  |"ColumnWay"=>Qc
  |"FoldedWay"=>zd
  |"MaskedWay"=>Yb
  |_=>0),K,n9,pd,⟨109,25,109,52⟩,("nearest_ink":Str)++".<locals>."++"<lambda>"⟩
theorem all_mk{l:PySem.W.OpenLaw}{w:World}{K:PySem.W.Frag}{h:Heap}{mg:Str->Option aa}{fa:af}{qd:af}{QbK:dN}{Zt:af}{qdn:dN}{zh:af}{Qb4:dN}{Qc:af}{ybl:dN}{zd:af}{Qbp:dN}{Yb:af}{zbe:dN}{YK:af}{qbr Ybt:Option af}{Qbq:Array (Option aa)}{Zbt Zbj zbk zbg Lu Zbg:aa}{YB:af}{YaR zaO:Option af}{za1:Array (Option aa)}{yaN YaS qaY ZaX KQ YaQ:aa}{QA:af}{qaN ZaW:Option af}{ZaZ:Array (Option aa)}{ZaY zaQ qaU ZaN Y3 qa0:aa}{Qs:af}{yaw zat:Option af}{qat:Array (Option aa)}{yar Qap Qau yax QJ qap:aa}{Yo:af}{Qaa y3:Option af}{YZ:Array (Option aa)}{Y7 QZ Y1 qY YD zad:aa}{qo:af}{yad Z8:Option af}{Z7:Array (Option aa)}{Qad Z0 Q6 zab QB Qab:aa}{yo:af}{Y4 Y5:Option af}{Zab:Array (Option aa)}{zac Zaa y9 Z4 QD Y0:aa}{QcS:Tok}{Zdd:Tok}{Ef n9 pd:af}{zcP zcI:Option af}{qcP:Array (Option aa)}{QcY ycL QcT YcS QcW:aa}{Ju:af}{ydn OP:Option af}{Yde:Array (Option aa)}{qdh Kn OS K3 GX Mb:aa}(X:K.In h)(G:h.Ns ao mg)(hfa:mg "law"=some (.ref fa))
  (EM:Src K mg "own_rows" JK ["rows"]) (EO:Src K mg "fault_of" Em ["rows","least","greatest"]) (ZE:Src K mg "cells_by_rows" zE ["high","wide"]) (JB:Src K mg "high" J5 ["picture"]) (Ei:Src K mg "wide" EE ["picture"]) (Jj:Src K mg "size_of" Ha ["picture"]) (G0:Src K mg "has_cell" JI ["picture","cell"]) (Eo:Src K mg "ask_cell" En ["picture","cell"]) (Es:Src K mg "shade_at" J8 ["picture","cell"]) (Jl:Src K mg "ask_size" ER ["high","wide"]) (QM:Src K mg "with_shades" zO ["picture","pairs"]) (EJ:Src K mg "laid_out" JL ["most","size","pairs"]) (Ep:Src K mg "ask_inks" EN ["inks","most"]) (qS:Src K mg "ask_rising" ZU ["inks"]) (yU:Src K mg "ask_shares" zW ["shares"]) (Js:Src K mg "handed" JP ["picture","way","shares","inks"]) (G9:Src K mg "dots_of" Jp ["picture","entries"]) (Kc:Src K mg "ledger" Eu ["picture","way","shares","inks"]) (QI:Src K mg "entry_behind" qH ["entries","cell","shade","shares","inks"]) (G2:Src K mg "entry_of" JH ["cell","shade","due","whole","inks"]) (zM:Src K mg "nearest_ink" Zl ["want","inks"]) (yM:Src K mg "ways_within" QK ["way"]) (qI:Src K mg "folded_cells" zJ ["side"]) (ZL:Src K mg "folded_once" YM ["cells","side"]) (Q2:Src K mg "_law_next" Q1 ["_law_script","_law_at"]) (YV:Src K mg "_law_great" qT ["_law_script","_law_at","_law_room"]) (ZN:Src K mg "_law_shades" QN ["_law_script","_law_at","_law_most_here","_law_high_count","_law_wide_count"]) (ET:Src K mg "_law_same" JM ["_law_found","_law_due"]) (ES:Src K mg "_law_most" Z6 ["_law_script","_law_at"]) (G3:Src K mg "_law_inks" Q0 ["_law_script","_law_at","_law_most_here"]) (yL:Src K mg "_law_shares" zN ["_law_script","_law_at"]) (JN:Src K mg "_law_size" G4 ["_law_script","_law_at","_law_most_cells"]) (J7:Src K mg "_law_way" G1 ["_law_script","_law_at","_law_size_here"]) (Y2:Src K mg "_law_case" YY ["_law_script","_law_at"]) (Er:Src K mg "_law_ink" JJ ["_law_inks_here","_law_want"]) (YN:Src K mg "_law_ledger" zL ["_law_rows","_law_cells","_law_shares_here","_law_inks_here"]) (qZ:Src K mg "_law_dots" zZ ["_law_rows","_law_ledger_rows"]) (zx:Src K mg "_law_plain_case" Zy ["_law_script","_law_at"]) (JX:Src K mg "law" nq ["_law_script"])
  (Of:Ue K ao "abs"=some none)
  (z_all:Ue K ao "all"=some none)
  (zc7:Ue K ao "bool"=some none)
  (qdf:Ue K ao "dict"=some none)
  (z_divmod:Ue K ao "divmod"=some none)
  (Zbv:Ue K ao "enumerate"=some none)
  (z_int:Ue K ao "int"=some none)
  (zbp:Ue K ao "isinstance"=some none)
  (z_len:Ue K ao "len"=some none)
  (Kr:Ue K ao "list"=some none)
  (z_max:Ue K ao "max"=some none)
  (La:Ue K ao "min"=some none)
  (qcM:Ue K ao "range"=some none)
  (zbV:Ue K ao "reversed"=some none)
  (Zct:Ue K ao "sorted"=some none)
  (z_str:Ue K ao "str"=some none)
  (z_sum:Ue K ao "sum"=some none)
  (OD:Ue K ao "tuple"=some none)
  (z_zip:Ue K ao "zip"=some none)
  (gn:Uu K (.builtin "object.__class__") "__get__"=some (some (.builtin "getset_descriptor.__get__")))
  (tk:Ww K (.builtin "object.__class__")=some true)
  (Zu:Ue K ao "Picture"=some (some (.ref qd)))
  (Zk:Vk K qd=some QbK)
  (yk:xk K (.ref qd)=some (.type "type"))
  (qV:uj K qd Str.empty=true)
  (yT:uk K qd=true)
  (QV:Xl K qd=true)
  (qU:xc K (.ref qd) "__setattr__"=some (some (.builtin "object.__setattr__")))
  (OI:xc K (.ref qd) "__class__"=some (some (.builtin "object.__class__")))
  (MD:Wo K qd (.type "object")=some true)
  (zaV:xc K (.ref qd) "most"=some none)
  (ZaS:xc K (.ref qd) "rows"=some none)
  (Zdm:Ue K ao "Way"=some (some (.ref Zt)))
  (ci_Way:Vk K Zt=some qdn)
  (ty_Way:xk K (.ref Zt)=some (.type "type"))
  (Eg:uj K Zt Str.empty=true)
  (GW:uk K Zt=true)
  (Jf:Xl K Zt=true)
  (Ej:xc K (.ref Zt) "__setattr__"=some (some (.builtin "object.__setattr__")))
  (Mc:xc K (.ref Zt) "__class__"=some (some (.builtin "object.__class__")))
  (Ob:Wo K Zt (.type "object")=some true)
  (yb7:Ue K ao "FroWay"=some (some (.ref zh)))
  (ydx:Vk K zh=some Qb4)
  (zdx:xk K (.ref zh)=some (.type "type"))
  (G':uj K zh Str.empty=true)
  (El:uk K zh=true)
  (Kf:Xl K zh=true)
  (Jq:xc K (.ref zh) "__setattr__"=some (some (.builtin "object.__setattr__")))
  (O5:xc K (.ref zh) "__class__"=some (some (.builtin "object.__class__")))
  (NP:Wo K zh (.type "object")=some true)
  (qbh:Ue K ao "ColumnWay"=some (some (.ref Qc)))
  (YcO:Vk K Qc=some ybl)
  (QcZ:xk K (.ref Qc)=some (.type "type"))
  (zX:uj K Qc Str.empty=true)
  (ZW:uk K Qc=true)
  (YS:Xl K Qc=true)
  (QU:xc K (.ref Qc) "__setattr__"=some (some (.builtin "object.__setattr__")))
  (OE:xc K (.ref Qc) "__class__"=some (some (.builtin "object.__class__")))
  (OG:Wo K Qc (.type "object")=some true)
  (Zbu:Ue K ao "FoldedWay"=some (some (.ref zd)))
  (ycJ:Vk K zd=some Qbp)
  (YcL:xk K (.ref zd)=some (.type "type"))
  (qW:uj K zd Str.empty=true)
  (yV:uk K zd=true)
  (YT:Xl K zd=true)
  (ZS:xc K (.ref zd) "__setattr__"=some (some (.builtin "object.__setattr__")))
  (OF:xc K (.ref zd) "__class__"=some (some (.builtin "object.__class__")))
  (MA:Wo K zd (.type "object")=some true)
  (Qp:Ue K ao "MaskedWay"=some (some (.ref Yb)))
  (qh:Vk K Yb=some zbe)
  (Qh:xk K (.ref Yb)=some (.type "type"))
  (Yw:uj K Yb Str.empty=true)
  (Qw:uk K Yb=true)
  (yx:Xl K Yb=true)
  (Zx:xc K (.ref Yb) "__setattr__"=some (some (.builtin "object.__setattr__")))
  (KP:xc K (.ref Yb) "__class__"=some (some (.builtin "object.__class__")))
  (Ls:Wo K Yb (.type "object")=some true)
  (QaI:xc K (.ref Yb) "way"=some none)
  (Qaz:xc K (.ref Yb) "mask"=some none)
  (Yu:uf K (.ref qd) (.ref qd)=some true)
  (Z5:uf K (.ref qd) (.ref Yb)=some false)
  (ZaP:uf K (.ref Zt) (.ref qd)=some false)
  (LF:uf K (.ref Zt) (.ref Zt)=some true)
  (QaC:uf K (.ref Zt) (.ref Yb)=some false)
  (yas:uf K (.ref zh) (.ref qd)=some false)
  (QQ:uf K (.ref zh) (.ref zh)=some true)
  (qaf:uf K (.ref zh) (.ref Yb)=some false)
  (Y6:uf K (.ref Qc) (.ref qd)=some false)
  (Yy:uf K (.ref Qc) (.ref Qc)=some true)
  (yS:uf K (.ref Qc) (.ref Yb)=some false)
  (QY:uf K (.ref zd) (.ref qd)=some false)
  (qx:uf K (.ref zd) (.ref zd)=some true)
  (zV:uf K (.ref zd) (.ref Yb)=some false)
  (Zad:uf K (.ref Yb) (.ref qd)=some false)
  (yp:uf K (.ref Yb) (.ref Yb)=some true)
  (ybN:Uk K qd=true)
  (YbI:Xe K (.ref qd)=true)
  (ybQ:xc K (.ref qd) "__init__"=some (some (.ref YK)))
  (zbS:Vm K (.ref YK)=true)
  (QbL:K.lookup YK=some ⟨Zbt,qbr,.func (Xf "__init__" "Picture.__init__" (Qi Ql) (Zg Ql) (zc Ql) .none Zbj zbk zbg Ybt Lu Zbg),Qbq⟩)
  (ZbQ:vg K Lu "Picture.__init__"=true)
  (ybH:Xe K (.ref YK)=true)
  (zbt:Uk K Yb=true)
  (Zbr:Xe K (.ref Yb)=true)
  (Ybp:xc K (.ref Yb) "__init__"=some (some (.ref YB)))
  (zbm:Vm K (.ref YB)=true)
  (qbf:K.lookup YB=some ⟨yaN,YaR,.func (Xf "__init__" "MaskedWay.__init__" (Qi yj) (Zg yj) (zc yj) .none YaS qaY ZaX zaO KQ YaQ),za1⟩)
  (Qbs:vg K KQ "MaskedWay.__init__"=true)
  (ybr:Xe K (.ref YB)=true)
  (Ybn:xc K (.ref Zt) "order"=some (some (.ref QA)))
  (Zbi:Vm K (.ref QA)=true)
  (Zbm:K.lookup QA=some ⟨ZaY,qaN,.func (Xf "order" "Way.order" (Qi yC) (Zg yC) (zc yC) .none zaQ qaU ZaN ZaW Y3 qa0),ZaZ⟩)
  (Qbm:vg K Y3 "Way.order"=true)
  (MB:Xe K (.ref QA)=true)
  (qaJ:xc K (.ref zh) "order"=some (some (.ref Qs)))
  (YaK:Vm K (.ref Qs)=true)
  (yaK:K.lookup Qs=some ⟨yar,yaw,.func (Xf "order" "FroWay.order" (Qi Zs) (Zg Zs) (zc Zs) .none Qap Qau yax zat QJ qap),qat⟩)
  (QaG:vg K QJ "FroWay.order"=true)
  (zQ:Xe K (.ref Qs)=true)
  (Yan:xc K (.ref Qc) "order"=some (some (.ref Yo)))
  (Yap:Vm K (.ref Yo)=true)
  (qak:K.lookup Yo=some ⟨Y7,Qaa,.func (Xf "order" "ColumnWay.order" (Qi Ym) (Zg Ym) (zc Ym) .none QZ Y1 qY y3 YD zad),YZ⟩)
  (Zam:vg K YD "ColumnWay.order"=true)
  (ZF:Xe K (.ref Yo)=true)
  (qaj:xc K (.ref zd) "order"=some (some (.ref qo)))
  (Zao:Vm K (.ref qo)=true)
  (qan:K.lookup qo=some ⟨Qad,yad,.func (Xf "order" "FoldedWay.order" (Qi Qm) (Zg Qm) (zc Qm) .none Z0 Q6 zab Z8 QB Qab),Z7⟩)
  (Qal:vg K QB "FoldedWay.order"=true)
  (zG:Xe K (.ref qo)=true)
  (Zan:xc K (.ref Yb) "order"=some (some (.ref yo)))
  (Qao:Vm K (.ref yo)=true)
  (Zap:K.lookup yo=some ⟨zac,Y4,.func (Xf "order" "MaskedWay.order" (Qi zn) (Zg zn) (zc zn) .none Zaa y9 Z4 Y5 QD Y0),Zab⟩)
  (Qak:vg K QD "MaskedWay.order"=true)
  (yF:Xe K (.ref yo)=true)
  (ydl:Uk K Zt=true)
  (zdp:Xe K (.ref Zt)=true)
  (Ydp:xc K (.ref Zt) "__init__"=some (some (.builtin "object.__init__")))
  (yb4:Uk K zh=true)
  (Qb5:Xe K (.ref zh)=true)
  (Zcc:xc K (.ref zh) "__init__"=some (some (.builtin "object.__init__")))
  (qbo:Uk K Qc=true)
  (zbo:Xe K (.ref Qc)=true)
  (ybn:xc K (.ref Qc) "__init__"=some (some (.builtin "object.__init__")))
  (Zbq:Uk K zd=true)
  (ybf:Xe K (.ref zd)=true)
  (Qbh:xc K (.ref zd) "__init__"=some (some (.builtin "object.__init__")))
  (YcP:Ue K ao "LEFT"=some (some (.int 3 QcS)))
  (Ydi:Ue K ao "ODD"=some (some (.int 4 Zdd)))
  (an:Ue K ao "nearest_ink"=some (some (.ref Ef)))
  (ln:K.lookup Ef=some ⟨QcY,zcP,.func (Xf "nearest_ink" "nearest_ink" (Qi Zl) (Zg Zl) (zc Zl) .none ycL QcT YcS zcI (.ref n9) QcW),qcP⟩)
  (kn:vg K (.ref n9) "nearest_ink"=true)
  (MX:Xe K (.ref Ef)=true)
  (c0n:n9≠0)
  (al:Ue K ao "law"=some (some (.ref Ju)))
  (ll:K.lookup Ju=some ⟨qdh,ydn,.func (Xf "law" "law" (Qi nq) (Zg nq) (zc nq) .none Kn OS K3 OP GX Mb),Yde⟩)
  (kl:vg K GX "law"=true)
  (kq:Xe K (.ref Ju)=true) :
  ∃ fd:bw,(∀(s:ag)(v:aa),hU s fd ⟨[v],[]⟩ [("_law_script",v)])/\∀ base:Heap,K.In base->base.Ns ao mg->jR mg base n9 pd->fH l.prog w K mg base (jT l.prog w) 18 fa fd ["_law_script"] (JC K pd ⟨109,25,109,52⟩):=by
 have e:=hfa.symm.trans (xf X G al);cases e;have F_Picture:=yN (st:=Ql) QbL ZbQ ybH;have zbP:=F_Picture.binds (ps:=["self","most","rows"]) λ_ _ _ _ _ _ us hl=>by obtain⟨_,_,_,rfl⟩:=kT hl;rfl
 have F_MaskedWay:=yN (st:=yj) qbf Qbs ybr;have qbq:=F_MaskedWay.binds (ps:=["self","way","mask"]) λ_ _ _ _ _ _ us hl=>by obtain⟨_,_,_,rfl⟩:=kT hl;rfl
 have F_m_Way_order:=yN (st:=yC) Zbm Qbm MB;have YaU:=F_m_Way_order.binds (ps:=["self","high","wide"]) λ_ _ _ _ _ _ us hl=>by obtain⟨_,_,_,rfl⟩:=kT hl;rfl
 have F_m_FroWay_order:=yN (st:=Zs) yaK QaG zQ;have qas:=F_m_FroWay_order.binds (ps:=["self","high","wide"]) λ_ _ _ _ _ _ us hl=>by obtain⟨_,_,_,rfl⟩:=kT hl;rfl
 have F_m_ColumnWay_order:=yN (st:=Ym) qak Zam ZF;have Q9:=F_m_ColumnWay_order.binds (ps:=["self","high","wide"]) λ_ _ _ _ _ _ us hl=>by obtain⟨_,_,_,rfl⟩:=kT hl;rfl
 have F_m_FoldedWay_order:=yN (st:=Qm) qan Qal zG;have yab:=F_m_FoldedWay_order.binds (ps:=["self","high","wide"]) λ_ _ _ _ _ _ us hl=>by obtain⟨_,_,_,rfl⟩:=kT hl;rfl
 have F_m_MaskedWay_order:=yN (st:=zn) Zap Qak yF;have Z2:=F_m_MaskedWay_order.binds (ps:=["self","high","wide"]) λ_ _ _ _ _ _ us hl=>by obtain⟨_,_,_,rfl⟩:=kT hl;rfl
 have Fl:=yN (st:=nq) ll kl kq;have PN:Cb K mg prog (rn K qd Zt zh Qc zd Yb n9 pd) "nearest_ink" ["want","inks"]:=ZcP (st:=Zl) rfl rfl ln kn MX (xf X G an) ((yN (st:=Zl) ln kn MX).binds (ps:=["want","inks"]) λ_ _ _ _ _ _ us hl=>by obtain⟨_,_,rfl⟩:=ln2 hl;rfl) rfl (We X G La) (We X G Of) rfl c0n rfl;have T:Text K mg prog (rn K qd Zt zh Qc zd Yb n9 pd):=by
  refine⟨rfl,?_,?_,?_,?_,?_,?_,?_,?_,?_,?_,?_,?_,?_,?_,?_,?_,?_⟩
  ·exactλf d hd eJ=>MI (L:=oO) (P:=λf d=>f.toList.contains '.'=false->∃ st N ps,Src K mg (Str.ofString f) st ps/\(qi prog d N ps st=true\/Cb K mg prog (rn K qd Zt zh Qc zd Yb n9 pd) f ps)) (by
   refine⟨?_,?_,?_,?_,?_,?_,?_,?_,?_,?_,?_,?_,?_,?_,?_,?_,?_,?_,?_,?_,?_,?_,?_,?_,?_,?_,?_,?_,?_,?_,?_,?_,?_,?_,?_,?_,?_,?_,?_,?_,?_,?_,?_,?_,?_,?_,trivial⟩
   ·exactλ_=>⟨_,_,_,EM,.inl zbK⟩
   ·exactλ_=>⟨_,_,_,EO,.inl YbQ⟩
   ·exactλ_=>⟨_,_,_,ZE,.inl YaH⟩
   ·exactλeJ=>absurd eJ (by decide)
   ·exactλ_=>⟨_,_,_,JB,.inl zdi⟩
   ·exactλ_=>⟨_,_,_,Ei,.inl Ydf⟩
   ·exactλ_=>⟨_,_,_,Jj,.inl ycg⟩
   ·exactλ_=>⟨_,_,_,G0,.inl zbU⟩
   ·exactλ_=>⟨_,_,_,Eo,.inl ZbL⟩
   ·exactλ_=>⟨_,_,_,Es,.inl YbR⟩
   ·exactλ_=>⟨_,_,_,Jl,.inl ZbS⟩
   ·exactλ_=>⟨_,_,_,QM,.inl qa6⟩
   ·exactλ_=>⟨_,_,_,EJ,.inl YbV⟩
   ·exactλ_=>⟨_,_,_,Ep,.inl zbM⟩
   ·exactλ_=>⟨_,_,_,qS,.inl qbp⟩
   ·exactλ_=>⟨_,_,_,yU,.inl Ybj⟩
   ·exactλ_=>⟨_,_,_,Js,.inl Yci⟩
   ·exactλ_=>⟨_,_,_,G9,.inl Zcg⟩
   ·exactλ_=>⟨_,_,_,Kc,.inl ycs⟩
   ·exactλ_=>⟨_,_,_,QI,.inl qaQ⟩
   ·exactλ_=>⟨_,_,_,G2,.inl ZbI⟩
   ·exactλ_=>⟨_,[],_,zM,.inr PN⟩
   ·exactλeJ=>absurd eJ (by decide)
   ·exactλeJ=>absurd eJ (by decide)
   ·exactλeJ=>absurd eJ (by decide)
   ·exactλeJ=>absurd eJ (by decide)
   ·exactλeJ=>absurd eJ (by decide)
   ·exactλeJ=>absurd eJ (by decide)
   ·exactλ_=>⟨_,_,_,yM,.inl ya7⟩
   ·exactλ_=>⟨_,_,_,qI,.inl YaZ⟩
   ·exactλ_=>⟨_,_,_,ZL,.inl Za5⟩
   ·exactλ_=>⟨_,_,_,Q2,.inl qbC⟩
   ·exactλ_=>⟨_,_,_,YV,.inl Zbs⟩
   ·exactλ_=>⟨_,_,_,ZN,.inl Ya6⟩
   ·exactλ_=>⟨_,_,_,ET,.inl yby⟩
   ·exactλ_=>⟨_,_,_,ES,.inl Ybx⟩
   ·exactλ_=>⟨_,_,_,G3,.inl ZbE⟩
   ·exactλ_=>⟨_,_,_,yL,.inl za7⟩
   ·exactλ_=>⟨_,_,_,JN,.inl ybx⟩
   ·exactλ_=>⟨_,_,_,J7,.inl QbI⟩
   ·exactλ_=>⟨_,_,_,Y2,.inl zbA⟩
   ·exactλ_=>⟨_,_,_,Er,.inl ybS⟩
   ·exactλ_=>⟨_,_,_,YN,.inl ya3⟩
   ·exactλ_=>⟨_,_,_,qZ,.inl ZbC⟩
   ·exactλ_=>⟨_,_,_,zx,.inl zar⟩
   ·exactλ_=>⟨_,_,_,JX,.inl Me⟩) hd eJ
  ·intro c f hi;simp only[prog] at hi;split at hi
   ·cases hi;exact⟨_,_,_,_,_,_,_,_,rfl,⟨ybN,ybQ,zbS,YbI⟩,F_Picture,zbP,xf X G Zu,Yai⟩
   ·rename_i z;exact absurd z (by decide)
   ·rename_i z;exact absurd z (by decide)
   ·rename_i z;exact absurd z (by decide)
   ·rename_i z;exact absurd z (by decide)
   ·cases hi;exact⟨_,_,_,_,_,_,_,_,rfl,⟨zbt,Ybp,zbm,Zbr⟩,F_MaskedWay,qbq,xf X G Qp,Yad⟩
   ·rename_i z;exact absurd z (by decide)
   ·cases hi
  ·intro x hx;simp only[eu,dH,bx,VF,wg,ua,Ud,or_false] at hx
   rcases hx with rfl|rfl|rfl|rfl|rfl|rfl|rfl|rfl|rfl|rfl|rfl|rfl|rfl|rfl|rfl|rfl|rfl|rfl|rfl|rfl
   ·exact We X G z_len
   ·exact We X G z_sum
   ·exact We X G z_all
   ·exact We X G La
   ·exact We X G z_max
   ·exact We X G Of
   ·exact We X G OD
   ·exact We X G Kr
   ·exact We X G qdf
   ·exact We X G Kr
   ·exact We X G OD
   ·exact We X G z_str
   ·exact We X G z_int
   ·exact We X G zc7
   ·exact We X G qcM
   ·exact We X G z_zip
   ·exact We X G Zbv
   ·exact We X G zbp
   ·exact We X G Zct
   ·exact We X G zbV
  ·intro c f hf;simp only[prog] at hf;split at hf
   ·exact⟨⟨qV,yT,QV,qU⟩,zaV⟩
   ·exact⟨⟨qV,yT,QV,qU⟩,ZaS⟩
   ·exact⟨⟨Yw,Qw,yx,Zx⟩,QaI⟩
   ·exact⟨⟨Yw,Qw,yx,Zx⟩,Qaz⟩
   ·cases hf
  ·intro c t b hs;simp only[prog] at hs;split at hs
   ·exact⟨⟨qV,yT,QV,qU⟩,OI,gn,tk,MD⟩
   ·exact⟨⟨qV,yT,QV,qU⟩,OI,gn,tk,MD⟩
   ·exact⟨⟨Eg,GW,Jf,Ej⟩,Mc,gn,tk,Ob⟩
   ·exact⟨⟨Eg,GW,Jf,Ej⟩,Mc,gn,tk,Ob⟩
   ·exact⟨⟨G',El,Kf,Jq⟩,O5,gn,tk,NP⟩
   ·exact⟨⟨G',El,Kf,Jq⟩,O5,gn,tk,NP⟩
   ·exact⟨⟨zX,ZW,YS,QU⟩,OE,gn,tk,OG⟩
   ·exact⟨⟨zX,ZW,YS,QU⟩,OE,gn,tk,OG⟩
   ·exact⟨⟨qW,yV,YT,ZS⟩,OF,gn,tk,MA⟩
   ·exact⟨⟨qW,yV,YT,ZS⟩,OF,gn,tk,MA⟩
   ·exact⟨⟨Yw,Qw,yx,Zx⟩,KP,gn,tk,Ls⟩
   ·exact⟨⟨Yw,Qw,yx,Zx⟩,KP,gn,tk,Ls⟩
   ·cases hs
  ·intro c t b hs ht;simp only[prog] at hs;split at hs
   ·cases hs;exact⟨xf X G Zu,yt Yu Zk yk Yu⟩
   ·cases hs;exact⟨xf X G Qp,yt Yu qh Qh Z5⟩
   ·cases hs;exact⟨xf X G Zu,yt LF Zk yk ZaP⟩
   ·cases hs;exact⟨xf X G Qp,yt LF qh Qh QaC⟩
   ·cases hs;exact⟨xf X G Zu,yt QQ Zk yk yas⟩
   ·cases hs;exact⟨xf X G Qp,yt QQ qh Qh qaf⟩
   ·cases hs;exact⟨xf X G Zu,yt Yy Zk yk Y6⟩
   ·cases hs;exact⟨xf X G Qp,yt Yy qh Qh yS⟩
   ·cases hs;exact⟨xf X G Zu,yt qx Zk yk QY⟩
   ·cases hs;exact⟨xf X G Qp,yt qx qh Qh zV⟩
   ·cases hs;exact⟨xf X G Zu,yt yp Zk yk Zad⟩
   ·cases hs;exact⟨xf X G Qp,yt yp qh Qh yp⟩
   ·cases hs
  ·intro c t b hs ht;simp only[prog] at hs;split at hs
   ·exact absurd ht (by decide)
   ·exact absurd ht (by decide)
   ·exact absurd ht (by decide)
   ·exact absurd ht (by decide)
   ·exact absurd ht (by decide)
   ·exact absurd ht (by decide)
   ·exact absurd ht (by decide)
   ·exact absurd ht (by decide)
   ·exact absurd ht (by decide)
   ·exact absurd ht (by decide)
   ·exact absurd ht (by decide)
   ·exact absurd ht (by decide)
   ·cases hs
  ·intro t c b hs ht TT l0;simp only[prog] at hs;split at hs
   ·exact yE (qt _ TT l0) Zk yk
   ·exact yE (qt _ TT l0) qh Qh
   ·exact yE (qt _ TT l0) Zk yk
   ·exact yE (qt _ TT l0) qh Qh
   ·exact yE (qt _ TT l0) Zk yk
   ·exact yE (qt _ TT l0) qh Qh
   ·exact yE (qt _ TT l0) Zk yk
   ·exact yE (qt _ TT l0) qh Qh
   ·exact yE (qt _ TT l0) Zk yk
   ·exact yE (qt _ TT l0) qh Qh
   ·exact yE (qt _ TT l0) Zk yk
   ·exact yE (qt _ TT l0) qh Qh
   ·cases hs
  ·exactλc hc=>nomatch (show false=true from hc)
  ·intro wd hw;simp only[prog] at hw;cases hw
  ·exactλt ht=>nomatch (show false=true from ht)
  ·exactλc t b hs=>nomatch (show none=some b from hs)
  ·exactλf ds h=>nomatch (show false=true from h)
  ·intro c m f hm hi;simp only[prog] at hm;split at hm
   ·exact absurd (by rfl) hi
   ·cases hm;exact⟨⟨Eg,GW,Jf,Ej⟩,_,_,_,_,_,_,_,_,rfl,⟨Ybn,Zbi,MB⟩,F_m_Way_order,YaU,Zby⟩
   ·cases hm;exact⟨⟨G',El,Kf,Jq⟩,_,_,_,_,_,_,_,_,rfl,⟨qaJ,YaK,zQ⟩,F_m_FroWay_order,qas,qaS⟩
   ·cases hm;exact⟨⟨zX,ZW,YS,QU⟩,_,_,_,_,_,_,_,_,rfl,⟨Yan,Yap,ZF⟩,F_m_ColumnWay_order,Q9,Zar⟩
   ·cases hm;exact⟨⟨qW,yV,YT,ZS⟩,_,_,_,_,_,_,_,_,rfl,⟨qaj,Zao,zG⟩,F_m_FoldedWay_order,yab,yau⟩
   ·exact absurd (by rfl) hi
   ·cases hm;exact⟨⟨Yw,Qw,yx,Zx⟩,_,_,_,_,_,_,_,_,rfl,⟨Zan,Qao,yF⟩,F_m_MaskedWay_order,Z2,qau⟩
   ·cases hm
  ·intro c hc;simp only[prog] at hc;split at hc
   ·exact⟨⟨ydl,Ydp,zdp⟩,xf X G Zdm⟩
   ·exact⟨⟨yb4,Zcc,Qb5⟩,xf X G yb7⟩
   ·exact⟨⟨qbo,ybn,zbo⟩,xf X G qbh⟩
   ·exact⟨⟨Zbq,Qbh,ybf⟩,xf X G Zbu⟩
   ·cases hc
  ·intro x i hx;simp only[prog] at hx;split at hx
   ·cases hx;exact⟨_,xf X G YcP⟩
   ·cases hx;exact⟨_,xf X G Ydi⟩
   ·cases hx
  ·exactλh=>nomatch (show false=true from h)
 exact⟨Xf "law" "law" (Qi nq) (Zg nq) (zc nq) .none Kn OS K3 OP GX Mb,λs v=>.of_eq rfl,λbase kb _ lb=>YcH (n:=8) T kb lb Fl rfl Me (λns hl=>⟨[],MP.nD 0 ns hl⟩)⟩
end SD
open PySem PySem.W PyProof.Rows L2 L3 M3 SD
set_option maxRecDepth 100000 in
set_option maxHeartbeats 0 in
theorem PySem.Challenge.cw_dotscreen_k30_handed_holds : PySem.Challenge.rw_dotscreen_k30_handed.Holds := by
 w_on;o_law;k_head;(case hw=>w_witness2)
 k_fill
 refine' SD.tI (l:=PySem.Challenge.rw_dotscreen_k30_handed) (k:=18) (lp:=⟨109,25,109,52⟩) rfl rfl ⟨rfl,by decide,by decide⟩ (λw h Y=>PySem.W.km_in_of Y) ?T ?C ?K ?F
 (case C =>
  intro w h KX;refine' SD.lJ (st:=Zl) KX ?a ?l ?lc ?e11 ?e18 ?e7 ?e9 ?e10 ?ne
  (case a=>k_is);(case l=>k_is);(case lc=>k_is);(case e11=>rfl);(case e18=>rfl);(case e7=>rfl);(case e9=>rfl);(case e10=>rfl);(case ne=>decide))
 (case T=>intro w h Y;exact PySem.W.km_tabs_of Y _ (by decide))
 (case K=>intro w;kernel_rfl)
 case F =>
  intro w mg fa h KX G nS;have EM:Src (L2.bP KX) mg "own_rows" JK ["rows"]:=by
   dsimp only[L2.bP];refine' SD.aL KX G (λ_ _ _ _ _ _ us hl=>by obtain⟨_,rfl⟩:=SD.m9 hl;rfl) ?a ?l ?c ?k
   (case a|l|c|k=>k_is)
  have EO:Src (L2.bP KX) mg "fault_of" Em ["rows","least","greatest"]:=by
   dsimp only[L2.bP];refine' SD.aL KX G (λ_ _ _ _ _ _ us hl=>by obtain⟨_,_,_,rfl⟩:=SD.kT hl;rfl) ?a ?l ?c ?k
   (case a|l|c|k=>k_is)
  have ZE:Src (L2.bP KX) mg "cells_by_rows" zE ["high","wide"]:=by
   dsimp only[L2.bP];refine' SD.aL KX G (λ_ _ _ _ _ _ us hl=>by obtain⟨_,_,rfl⟩:=SD.ln2 hl;rfl) ?a ?l ?c ?k
   (case a|l|c|k=>k_is)
  have JB:Src (L2.bP KX) mg "high" J5 ["picture"]:=by
   dsimp only[L2.bP];refine' SD.aL KX G (λ_ _ _ _ _ _ us hl=>by obtain⟨_,rfl⟩:=SD.m9 hl;rfl) ?a ?l ?c ?k
   (case a|l|c|k=>k_is)
  have Ei:Src (L2.bP KX) mg "wide" EE ["picture"]:=by
   dsimp only[L2.bP];refine' SD.aL KX G (λ_ _ _ _ _ _ us hl=>by obtain⟨_,rfl⟩:=SD.m9 hl;rfl) ?a ?l ?c ?k
   (case a|l|c|k=>k_is)
  have Jj:Src (L2.bP KX) mg "size_of" Ha ["picture"]:=by
   dsimp only[L2.bP];refine' SD.aL KX G (λ_ _ _ _ _ _ us hl=>by obtain⟨_,rfl⟩:=SD.m9 hl;rfl) ?a ?l ?c ?k
   (case a|l|c|k=>k_is)
  have G0:Src (L2.bP KX) mg "has_cell" JI ["picture","cell"]:=by
   dsimp only[L2.bP];refine' SD.aL KX G (λ_ _ _ _ _ _ us hl=>by obtain⟨_,_,rfl⟩:=SD.ln2 hl;rfl) ?a ?l ?c ?k
   (case a|l|c|k=>k_is)
  have Eo:Src (L2.bP KX) mg "ask_cell" En ["picture","cell"]:=by
   dsimp only[L2.bP];refine' SD.aL KX G (λ_ _ _ _ _ _ us hl=>by obtain⟨_,_,rfl⟩:=SD.ln2 hl;rfl) ?a ?l ?c ?k
   (case a|l|c|k=>k_is)
  have Es:Src (L2.bP KX) mg "shade_at" J8 ["picture","cell"]:=by
   dsimp only[L2.bP];refine' SD.aL KX G (λ_ _ _ _ _ _ us hl=>by obtain⟨_,_,rfl⟩:=SD.ln2 hl;rfl) ?a ?l ?c ?k
   (case a|l|c|k=>k_is)
  have Jl:Src (L2.bP KX) mg "ask_size" ER ["high","wide"]:=by
   dsimp only[L2.bP];refine' SD.aL KX G (λ_ _ _ _ _ _ us hl=>by obtain⟨_,_,rfl⟩:=SD.ln2 hl;rfl) ?a ?l ?c ?k
   (case a|l|c|k=>k_is)
  have QM:Src (L2.bP KX) mg "with_shades" zO ["picture","pairs"]:=by
   dsimp only[L2.bP];refine' SD.aL KX G (λ_ _ _ _ _ _ us hl=>by obtain⟨_,_,rfl⟩:=SD.ln2 hl;rfl) ?a ?l ?c ?k
   (case a|l|c|k=>k_is)
  have EJ:Src (L2.bP KX) mg "laid_out" JL ["most","size","pairs"]:=by
   dsimp only[L2.bP];refine' SD.aL KX G (λ_ _ _ _ _ _ us hl=>by obtain⟨_,_,_,rfl⟩:=SD.kT hl;rfl) ?a ?l ?c ?k
   (case a|l|c|k=>k_is)
  have Ep:Src (L2.bP KX) mg "ask_inks" EN ["inks","most"]:=by
   dsimp only[L2.bP];refine' SD.aL KX G (λ_ _ _ _ _ _ us hl=>by obtain⟨_,_,rfl⟩:=SD.ln2 hl;rfl) ?a ?l ?c ?k
   (case a|l|c|k=>k_is)
  have qS:Src (L2.bP KX) mg "ask_rising" ZU ["inks"]:=by
   dsimp only[L2.bP];refine' SD.aL KX G (λ_ _ _ _ _ _ us hl=>by obtain⟨_,rfl⟩:=SD.m9 hl;rfl) ?a ?l ?c ?k
   (case a|l|c|k=>k_is)
  have yU:Src (L2.bP KX) mg "ask_shares" zW ["shares"]:=by
   dsimp only[L2.bP];refine' SD.aL KX G (λ_ _ _ _ _ _ us hl=>by obtain⟨_,rfl⟩:=SD.m9 hl;rfl) ?a ?l ?c ?k
   (case a|l|c|k=>k_is)
  have Js:Src (L2.bP KX) mg "handed" JP ["picture","way","shares","inks"]:=by
   dsimp only[L2.bP];refine' SD.aL KX G (λ_ _ _ _ _ _ us hl=>by obtain⟨_,_,_,_,rfl⟩:=SD.CZ hl;rfl) ?a ?l ?c ?k
   (case a|l|c|k=>k_is)
  have G9:Src (L2.bP KX) mg "dots_of" Jp ["picture","entries"]:=by
   dsimp only[L2.bP];refine' SD.aL KX G (λ_ _ _ _ _ _ us hl=>by obtain⟨_,_,rfl⟩:=SD.ln2 hl;rfl) ?a ?l ?c ?k
   (case a|l|c|k=>k_is)
  have Kc:Src (L2.bP KX) mg "ledger" Eu ["picture","way","shares","inks"]:=by
   dsimp only[L2.bP];refine' SD.aL KX G (λ_ _ _ _ _ _ us hl=>by obtain⟨_,_,_,_,rfl⟩:=SD.CZ hl;rfl) ?a ?l ?c ?k
   (case a|l|c|k=>k_is)
  have QI:Src (L2.bP KX) mg "entry_behind" qH ["entries","cell","shade","shares","inks"]:=by
   dsimp only[L2.bP];refine' SD.aL KX G (λ_ _ _ _ _ _ us hl=>by obtain⟨_,_,_,_,_,rfl⟩:=SD.Hg hl;rfl) ?a ?l ?c ?k
   (case a|l|c|k=>k_is)
  have G2:Src (L2.bP KX) mg "entry_of" JH ["cell","shade","due","whole","inks"]:=by
   dsimp only[L2.bP];refine' SD.aL KX G (λ_ _ _ _ _ _ us hl=>by obtain⟨_,_,_,_,_,rfl⟩:=SD.Hg hl;rfl) ?a ?l ?c ?k
   (case a|l|c|k=>k_is)
  have zM:Src (L2.bP KX) mg "nearest_ink" Zl ["want","inks"]:=by
   dsimp only[L2.bP];refine' SD.aL KX G (λ_ _ _ _ _ _ us hl=>by obtain⟨_,_,rfl⟩:=SD.ln2 hl;rfl) ?a ?l ?c ?k
   (case a|l|c|k=>k_is)
  have yM:Src (L2.bP KX) mg "ways_within" QK ["way"]:=by
   dsimp only[L2.bP];refine' SD.aL KX G (λ_ _ _ _ _ _ us hl=>by obtain⟨_,rfl⟩:=SD.m9 hl;rfl) ?a ?l ?c ?k
   (case a|l|c|k=>k_is)
  have qI:Src (L2.bP KX) mg "folded_cells" zJ ["side"]:=by
   dsimp only[L2.bP];refine' SD.aL KX G (λ_ _ _ _ _ _ us hl=>by obtain⟨_,rfl⟩:=SD.m9 hl;rfl) ?a ?l ?c ?k
   (case a|l|c|k=>k_is)
  have ZL:Src (L2.bP KX) mg "folded_once" YM ["cells","side"]:=by
   dsimp only[L2.bP];refine' SD.aL KX G (λ_ _ _ _ _ _ us hl=>by obtain⟨_,_,rfl⟩:=SD.ln2 hl;rfl) ?a ?l ?c ?k
   (case a|l|c|k=>k_is)
  have Q2:Src (L2.bP KX) mg "_law_next" Q1 ["_law_script","_law_at"]:=by
   dsimp only[L2.bP];refine' SD.aL KX G (λ_ _ _ _ _ _ us hl=>by obtain⟨_,_,rfl⟩:=SD.ln2 hl;rfl) ?a ?l ?c ?k
   (case a|l|c|k=>k_is)
  have YV:Src (L2.bP KX) mg "_law_great" qT ["_law_script","_law_at","_law_room"]:=by
   dsimp only[L2.bP];refine' SD.aL KX G (λ_ _ _ _ _ _ us hl=>by obtain⟨_,_,_,rfl⟩:=SD.kT hl;rfl) ?a ?l ?c ?k
   (case a|l|c|k=>k_is)
  have ZN:Src (L2.bP KX) mg "_law_shades" QN ["_law_script","_law_at","_law_most_here","_law_high_count","_law_wide_count"]:=by
   dsimp only[L2.bP];refine' SD.aL KX G (λ_ _ _ _ _ _ us hl=>by obtain⟨_,_,_,_,_,rfl⟩:=SD.Hg hl;rfl) ?a ?l ?c ?k
   (case a|l|c|k=>k_is)
  have ET:Src (L2.bP KX) mg "_law_same" JM ["_law_found","_law_due"]:=by
   dsimp only[L2.bP];refine' SD.aL KX G (λ_ _ _ _ _ _ us hl=>by obtain⟨_,_,rfl⟩:=SD.ln2 hl;rfl) ?a ?l ?c ?k
   (case a|l|c|k=>k_is)
  have ES:Src (L2.bP KX) mg "_law_most" Z6 ["_law_script","_law_at"]:=by
   dsimp only[L2.bP];refine' SD.aL KX G (λ_ _ _ _ _ _ us hl=>by obtain⟨_,_,rfl⟩:=SD.ln2 hl;rfl) ?a ?l ?c ?k
   (case a|l|c|k=>k_is)
  have G3:Src (L2.bP KX) mg "_law_inks" Q0 ["_law_script","_law_at","_law_most_here"]:=by
   dsimp only[L2.bP];refine' SD.aL KX G (λ_ _ _ _ _ _ us hl=>by obtain⟨_,_,_,rfl⟩:=SD.kT hl;rfl) ?a ?l ?c ?k
   (case a|l|c|k=>k_is)
  have yL:Src (L2.bP KX) mg "_law_shares" zN ["_law_script","_law_at"]:=by
   dsimp only[L2.bP];refine' SD.aL KX G (λ_ _ _ _ _ _ us hl=>by obtain⟨_,_,rfl⟩:=SD.ln2 hl;rfl) ?a ?l ?c ?k
   (case a|l|c|k=>k_is)
  have JN:Src (L2.bP KX) mg "_law_size" G4 ["_law_script","_law_at","_law_most_cells"]:=by
   dsimp only[L2.bP];refine' SD.aL KX G (λ_ _ _ _ _ _ us hl=>by obtain⟨_,_,_,rfl⟩:=SD.kT hl;rfl) ?a ?l ?c ?k
   (case a|l|c|k=>k_is)
  have J7:Src (L2.bP KX) mg "_law_way" G1 ["_law_script","_law_at","_law_size_here"]:=by
   dsimp only[L2.bP];refine' SD.aL KX G (λ_ _ _ _ _ _ us hl=>by obtain⟨_,_,_,rfl⟩:=SD.kT hl;rfl) ?a ?l ?c ?k
   (case a|l|c|k=>k_is)
  have Y2:Src (L2.bP KX) mg "_law_case" YY ["_law_script","_law_at"]:=by
   dsimp only[L2.bP];refine' SD.aL KX G (λ_ _ _ _ _ _ us hl=>by obtain⟨_,_,rfl⟩:=SD.ln2 hl;rfl) ?a ?l ?c ?k
   (case a|l|c|k=>k_is)
  have Er:Src (L2.bP KX) mg "_law_ink" JJ ["_law_inks_here","_law_want"]:=by
   dsimp only[L2.bP];refine' SD.aL KX G (λ_ _ _ _ _ _ us hl=>by obtain⟨_,_,rfl⟩:=SD.ln2 hl;rfl) ?a ?l ?c ?k
   (case a|l|c|k=>k_is)
  have YN:Src (L2.bP KX) mg "_law_ledger" zL ["_law_rows","_law_cells","_law_shares_here","_law_inks_here"]:=by
   dsimp only[L2.bP];refine' SD.aL KX G (λ_ _ _ _ _ _ us hl=>by obtain⟨_,_,_,_,rfl⟩:=SD.CZ hl;rfl) ?a ?l ?c ?k
   (case a|l|c|k=>k_is)
  have qZ:Src (L2.bP KX) mg "_law_dots" zZ ["_law_rows","_law_ledger_rows"]:=by
   dsimp only[L2.bP];refine' SD.aL KX G (λ_ _ _ _ _ _ us hl=>by obtain⟨_,_,rfl⟩:=SD.ln2 hl;rfl) ?a ?l ?c ?k
   (case a|l|c|k=>k_is)
  have zx:Src (L2.bP KX) mg "_law_plain_case" Zy ["_law_script","_law_at"]:=by
   dsimp only[L2.bP];refine' SD.aL KX G (λ_ _ _ _ _ _ us hl=>by obtain⟨_,_,rfl⟩:=SD.ln2 hl;rfl) ?a ?l ?c ?k
   (case a|l|c|k=>k_is)
  have JX:Src (L2.bP KX) mg "law" nq ["_law_script"]:=by
   dsimp only[L2.bP];refine' SD.aL KX G (λ_ _ _ _ _ _ us hl=>by obtain⟨_,rfl⟩:=SD.m9 hl;rfl) ?a ?l ?c ?k
   (case a|l|c|k=>k_is)
  refine' SD.all_mk KX G nS EM EO ZE JB Ei Jj G0 Eo Es Jl QM EJ Ep qS yU Js G9 Kc QI G2 zM yM qI ZL Q2 YV ZN ET ES G3 yL JN J7 Y2 Er YN qZ zx JX  ?x0 ?x1 ?x2 ?x3 ?x4 ?x5 ?x6 ?x7 ?x8 ?x9 ?x10 ?x11 ?x12 ?x13 ?x14 ?x15 ?x16 ?x17 ?x18 ?x19 ?x20 ?x21 ?x22 ?x23 ?x24 ?x25 ?x26 ?x27 ?x28 ?x29 ?x30 ?x31 ?x32 ?x33 ?x34 ?x35 ?x36 ?x37 ?x38 ?x39 ?x40 ?x41 ?x42 ?x43 ?x44 ?x45 ?x46 ?x47 ?x48 ?x49 ?x50 ?x51 ?x52 ?x53 ?x54 ?x55 ?x56 ?x57 ?x58 ?x59 ?x60 ?x61 ?x62 ?x63 ?x64 ?x65 ?x66 ?x67 ?x68 ?x69 ?x70 ?x71 ?x72 ?x73 ?x74 ?x75 ?x76 ?x77 ?x78 ?x79 ?x80 ?x81 ?x82 ?x83 ?x84 ?x85 ?x86 ?x87 ?x88 ?x89 ?x90 ?x91 ?x92 ?x93 ?x94 ?x95 ?x96 ?x97 ?x98 ?x99 ?F3 ?F0 ?FZ ?FY ?FX ?FW ?FU ?FT ?FR ?FQ ?FP ?FO ?FN ?FL ?FK ?FJ ?FI ?FH ?FG ?FF ?FE ?FD ?FC ?FA ?Fz ?Fy ?Fx ?Fw ?Fv ?Fu ?Ft ?Fs ?Fq ?Fp ?Fo ?Fn ?Fm ?Fj ?Fi ?Fh ?Fg ?Ff ?Fe ?Fd ?Fc ?Fb ?E9 ?E8 ?E7 ?E6 ?E5 ?E4 ?x152 ?E3 ?E2 ?EZ ?EY
  (case x0|x1|x2|x3|x4|x5|x6|x7|x8|x9|x10|x11|x12|x13|x14|x15|x16|x17|x18|x19|x20|x21|x22|x23|x24|x25|x26|x27|x28|x29|x30|x31|x32|x33|x34|x35|x36|x37|x38|x39|x40|x41|x42|x43|x44|x45|x46|x47|x48|x49|x50|x51|x52|x53|x54|x55|x56|x57|x58|x59|x60|x61|x62|x63|x64|x65|x66|x67|x68|x69|x70|x71|x72|x73|x74|x75|x76|x77|x78|x79|x80|x81|x82|x83|x84|x85|x86|x87|x88|x89|x90|x91|x92|x93|x94|x95|x96|x97|x98|x99|F3|F0|FZ|FY|FX|FW|FU|FT|FR|FQ|FP|FO|FN|FL|FK|FJ|FI|FH|FG|FF|FE|FD|FC|FA|Fz|Fy|Fx|Fw|Fv|Fu|Ft|Fs|Fq|Fp|Fo|Fn|Fm|Fj|Fi|Fh|Fg|Ff|Fe|Fd|Fc|Fb|E9|E8|E7|E6|E5|E4|E3|E2|EZ|EY=>k_is)
  (case x152=>decide)
end