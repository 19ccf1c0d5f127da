import PyProof.Rows.All
import Wide.All
import OpenK.AllK
import Wide.FinOn
import PySem.Challenge.RW_dotscreen_k31_never_lost
import Lean
import PyProof.EqAt
import PyProof.EqKinds
import PyProof.TupleCall
import PyProof.CompFree
import PyProof.StationsW
import PyProof.ExcClass3
import PyProof.Cells
import PyProof.PassesOwn
import PyProof.RangeIter
import PyProof.TableTree
import PyProof.ZipIter
import PyProof.Draws
import PyProof.TupleIter
import PyProof.EnumMake
import PyProof.EnumStmt
import KE.KDictList
import PyProof.Rows.SortWalk
import KE.KRevIter
import PyProof.CollectIter
import KE.KRevSl
import KE.KMinKey
import KE.KLam
import PyProof.DictIter
import PyProof.AttrMiss
import PyProof.IsiH_list
import PyProof.CollectWalk
import KE.KDictOf
import PyProof.DictCopy
import PyProof.FactsAll.tuple_1
import PyProof.FactsAll.dict_3
import PyProof.DictItems
import PySem.Str
import KE.IntBitsLaws
import PyProof.FitsBits
import PyProof.Rows.InDataRows
import KE.KNestM
open PySem renaming Value->aa,wpAny_bind->ab,Addr->ae,Shared->af,wpAny_pure->ag,wpAny->ah,Program->aj,model->ak,mainGlobals->ao,Builtin->aq,starEach->au,Around->aw,NameKind->ay,Scope->az,PyData->aB,tupleKind->aD,cellsFrom->aE,wpAny_truthy_bool->aG,wpAny_field->aH,wpAny_holding->aK,compareOp->aL,wpAny_seqItems->aQ,wpAny_mono->aS,wpAny_Call_Name_kw->aT,wpAny_callSpecial?_slot->aU,wpAny_newObj_type->aW,binaryOp->a7,attributeBase->a9,backTo->bh,wpAny_call_entry->bj,swapsWith->bo,wpAny_setField_rec->bp,sysModules->bq,IsPair->br,FuncData->bu,wpAny_passesOwn->bx,bootBuiltins->bD,behindInMarks->bE,wpAny_tryCatch->bF,keywordEach->bG,codeAny->bJ,assignEach->bK,codeAny_builtin->bO,recursionLimit->bQ,codeAny_call_builtin->bT,Paired->bU,wpAny_standAt->bW,plainId_quiet->bX,letOwnedTupleGo->cg,holding->ck,wpAny_letGo->cq,sliceBounds->cu,wpAny_typeOf->cC,wpAny_setField->cD,wpAny_dictEntries->cE,foldedSetIterable->cG,codeAny_mono->cO,Keyword->cP,cLine->cR,wpAny_rule->cT,pyNext->cU,wpAny_updateSeq_pair->cY,sizeLine_eq->c6,backToKw->dh,wpAny_execs_nil->dk,rawInt->dr,IsZip->dA,ClassData->dG,tupleKind_room_in1->dH,reduceHash->dI,wpAny_pyIter_list->dS,storedH->dU,argBest->dX,wpAny_onRaise->dY,wpAny_getItem_list_slice->dZ,wpAny_comprehension_free->d8,assign->eD,wpAny_pyNext_tuple_item->eG,wpAny_pyNext_tuple_end->eO,wpAny_pyNext_list_item->eP,wpAny_pyIter_tupleiter->eQ,wpAny_call->eU,wpAny_Name->eV,IsPart->eX,wpAny_updateSeq->eY,Draws->fg,wpAny_pyNext_list_end->fh,wpAny_notOrdered_dict->fi,wpAny_isTrue_Compare1->fj,builtinLookup_eq_fast->fo,wpAny_of_eq->fw,wpAny_loadName_local->fy,newFunctionEnv->fB,CmpOp->fH,seqItems?->fJ,callerA->fK,PassesOwn->fL,DictEntry->fN,wpAny_loadName_free->fO,swappedStores->fV,evalPart_none->fZ,wpAny_pyIter_tuple->gc,wpAny_Constant_int->gf,typeLookup->gg,sub_AttributeError->gh,getattributeRaised->gu,closureFor->gx,call_meets->gy,Result->gE,wpAny_sequenceKey->gG,wpAny_pyIter_enum->gH,valueAt->gJ,hashInt->gN,BindsTo->gX,wpAny_pyIter_zip->hJ,wpAny_isInstance->hU,wpAny_execs_cons->hV,noFill_tuple_add->hZ,checkBuiltinCall->ib,seqIndex_of->ij,wpAny_specialOf->iq,typeLookup_type->ir,pushCells_keeps->iy,standAt->iD,wpAny_Compare1->iJ,typeIs_int->iL,firstArgMember->iZ,entryOfKey->i3,bindL->i4,bindC->i5,atKey->i6,Code->i9,wpAny_attempt->jc,swapsWithSole->jg,signature?_of->jh,seq_tuple_add->ji,methodCallPos->jl,intBits_le_64->jn,checkTypeCall->jt,call_list_seq->ju,Comprehension->jv,getMethod->jy,Arguments->jA,setItem->jC,pyIter->jE,isTrue->jH,cellOf->jK,entryFor->j2,callWith->j4,GenState->j6,preSum->kh,argsOk->ku,Meets->kO
open PyProof.Rows renaming AllBare->dD,envOfC->eB,subscriptTail_builtinR->eW,IntsAre->fM,subscriptTail->fW,IsTup->f',Constant_none->gb,seqObj->gj,args_tuple_getitem->gA,get?_update_seq->iB,slicePart_none->iP,reads_tuple_at->iQ,Subscript_->i7,tupleItemsOf_->je,reads_list_at->jj
set_option maxHeartbeats 4000000
open PySem.Heap renaming get?_push_of_some->wa,lt_size->Ua,get?_push_size->xb,size_push->Xh,get?_update_other->Uj,get?_update_self->Vp,get?_none_of_le->UC
open Bool renaming and_eq_true->Wa,false_ne_true->xi,noConfusion->Wj,false_eq_true->Vk,or_eq_true->Xn,not_eq_true'->Wq,and_eq_true_iff->Ux,true_eq_false->wE
open List renaming getElem?_eq_getElem->xa,getElem?_eq_some_iff->Xa,mem_cons->ua,getElem?_append_left->va,map_cons->Wb,lookup_cons->Xb,size_toArray->Ub,getElem?_map->wc,length_map->xc,mem_singleton->Xc,replicate->uc,not_mem_nil->Vc,mem_map->Wd,range->Xd,length_cons->ud,getElem?_append_right->Ud,mem_of_getElem?->Ue,map_map->wf,mem_cons_of_mem->Wf,mem_append_right->xf,mem_append->Xf,nil_append->uf,getD_eq_getElem?_getD->Uf,mem_cons_self->Ug,length_append->vg,getD->Vg,append_assoc->uh,map_append->Uh,ext_getElem?->vh,mem_append_left->Xi,getElem?_set_ne->ui,getElem_mem->wj,mem_range->xj,getElem?_set_self->Xj,take_of_length_le->Vj,nodup_cons->uk,length_nil->Uk,getElem?_take_of_lt->vk,eq_of_mem_replicate->wl,getElem?_mapIdx->xl,nodup_append->Ul,foldl_cons->Vl,take_succ_cons->Wm,mem_flatMap->Xm,append_nil->wn,sum_cons->wo,eq_nil_of_length_eq_zero->Wo,getElem?_cons_succ->xo,replicate_succ->Xo,length_pos_iff->uo,length_take->Uo,all_eq_true->vo,mapM_cons->Vo,map_nil->xp,length_replicate->Up,drop_zero->xq,take_length->uq,getElem?_replicate->vq,find?_cons->Vq,reverse_cons->Vr,flatten_cons->Ws,getElem?_eq_none->Vs,map_reverse->Xt,any_cons->ut,lookup->Ut,length->vt,getElem_of_mem->wu,drop_succ_cons->Xu,drop_eq_getElem_cons->uu,getElem?_zip_eq_some->Uu,mem_or_eq_of_mem_set->Vu,range_succ->Wv,getElem?_drop->uv,take_zero->Uv,zipIdx_cons->ww,filter_cons->Ww,flatten_replicate_singleton->xw,mem_iff_getElem?->Xw,mem_filter->Uw,getElem?_modify->vx,take_left'->wy,mem_of_mem_take->Wy,filterMap_cons->xy,getElem?_range->uy,length_flatMap->Uy,flatMap_append->vy,mem_zipIdx_iff_getElem?->wz,take_add_one->wA,getElem?_inj->WA,length_drop->XA,map_set->uA,map->UA,mem_reverse->vA,getElem?_modify_eq->wB,of_mem_zip->xB,forIn_cons->XB,range_succ_eq_map->UB,length_singleton->vB,forIn_nil->VB,set_append_right->xC,length_filter_le->XC,take_append_drop->uC,length_reverse->WD,map_congr_left->XD,mem_filterMap->UD,any_map->VD,length_mapIdx->WE,set_cons_succ->xE,drop_length->wG,cons_append->WG,foldl->xG
open Nat renaming le_refl->wb,ne_of_lt->vb,lt_of_lt_of_le->Uc,le_trans->vf,lt_irrefl->Vh,lt_succ_self->Vi,pow_le_pow_right->Xl,zero_le->um,ne_of_gt->Um,lt_trans->xn,mod_lt->Wp,le_of_eq->Xq,mod_eq_of_lt->Uq,lt_succ_of_lt->Xs,mul_comm->Us,mul_mod->Vv,le_of_lt->vw,div_add_mod->wx,zero_add->Wx,sub_zero->Xx,min_le_left->ux,mul_le_mul_right->Vx,le_succ->Wz,add_mul->Xz,pow_succ->VA,lt_trichotomy->WF,le_of_not_lt->vF,le_add_right->VF
open PySem.W renaming findIn->ub,keepIn->we,mg_none_of->We,nsIn->Xe,fnOf->Ve,emptyDict->Vf,kitOne->Wg,codeIn->xg,subIn->Xg,mg_of->ug,instObj->Wh,kia_one->Wi,plainGet->Ui,typeIn->uj,hasDictIn->xk,makesIn->Xk,clsIn->Wl,plainOver->ul,isFn->Vm,mroIn->Vn,kla_obj->Wr,specialIn->vv,takesIn->Vw,plainGet_of->Xy,lookIn->Vy,callWith_K->Uz,methodObj->Vz,makes_of->xA,takerIn->WB,cellsFrom_some->uB,kla_fn->wC,tabObj->WC,looks_findIn->vC,callWith_K0->wD,make_core->UE,kitx_list->vE,kitx_dict->VE,handedIn->uF
open Option renaming bind_eq_some_iff->Wc,map_eq_some_iff->Vd,map_some->wg,bind_some->xh,getD_some->xm,isSome_iff_exists->Wn,bind_eq_bind->Wu,isSome_some->vD,isSome_map->wF,getD_none->UF
open Function renaming comp_def->vc,comp_apply->xu,comp->VC
open Int renaming eq_ofNat_of_zero_le->ue,emod_lt_of_pos->Xp,toNat_natCast->wq,emod_nonneg->xr,mul_le_mul_of_nonneg_right->Xr,le_ediv_iff_mul_le->ur,mul_le_mul_of_nonneg_left->Ur,mul_comm->wt,add_mul->Vt,le_refl->xz,mul_add->uz,fdiv_eq_ediv_of_nonneg->vz,le_trans->XE,natAbs_natCast->uE,neg_mul->xF,one_mul->XF
open Array renaming length_toList->wm,eq_empty_of_size_eq_zero->xx,toList_append->xD,toList->uD
open Prod renaming snd->vn,fst->Wt,ext->Xv
set_option Elab.async false
set_option linter.all false
set_option maxRecDepth 100000
def PySem.W.Fast.tw4055264725010233553:Nat:=0
def PySem.W.Fast.tw7810587489169357962:Nat:=0
def PySem.W.Fast.tw6200030363180469020:Nat:=0
def PySem.W.Fast.tw9963304983604789456:Nat:=0
def PySem.W.Fast.tw9250620985765809566:Nat:=0
def PySem.W.Fast.tw6203993022346084649:Nat:=0
def PySem.W.Fast.tw17928116866755290208:Nat:=0
def PySem.W.Fast.tw8516955595669935850:Nat:=0
def PySem.W.Fast.tw10127922171069621759:Nat:=0
def PySem.W.Fast.tw4845362491472135651:Nat:=0
def PySem.W.Fast.tw3604819717741183631:Nat:=0
def PySem.W.Fast.tw6190680862079029955:Nat:=0
def PySem.W.Fast.tw10532102962407414003:Nat:=0
def PySem.W.Fast.tw6456057559712703946:Nat:=0
def PySem.W.Fast.tw3915220648044916121:Nat:=0
def PySem.W.Fast.tw5558305362357024435:Nat:=0
def PySem.W.Fast.tw16639374777294212333:Nat:=0
def PySem.W.Fast.tw6892289721709643800:Nat:=0
def PySem.W.Fast.tw13279724562854282052:Nat:=0
def PySem.W.Fast.tw13247406260606925894:Nat:=0
def PySem.W.Fast.tw6239191246596456585:Nat:=0
def PySem.W.Fast.tw7314431447318117754:Nat:=0
def PySem.W.Fast.tw9241135345192820119:Nat:=0
def PySem.W.Fast.tw16375308357613325148:Nat:=0
def PySem.W.Fast.tw10189860423160133001:Nat:=0
def PySem.W.Fast.tw9168869073417630864:Nat:=0
def PySem.W.Fast.tw8964445349697021300:Nat:=0
def PySem.W.Fast.tw4219136128669670391:Nat:=0
def PySem.W.Fast.tw981872059007580601:Nat:=0
def PySem.W.Fast.tw13092327282200882204:Nat:=0
def PySem.W.Fast.tw8081065957951176684:Nat:=0
def PySem.W.Fast.tw3224107186143364687:Nat:=0
def PySem.W.Fast.tw14061580737358616444:Nat:=0
def PySem.W.Fast.tw11514216034677273358:Nat:=0
def PySem.W.Fast.tw15009947164895809814:Nat:=0
def PySem.W.Fast.tw7611953123551823405:Nat:=0
def PySem.W.Fast.tw9053348243805621970:Nat:=0
def PySem.W.Fast.tw17632941438033952196:Nat:=0
def PySem.W.Fast.tw8860954920482969139:Nat:=0
def PySem.W.Fast.tw10147872211164061076:Nat:=0
def PySem.W.Fast.tw2162563951764299208:Nat:=0
def PySem.W.Fast.tw13008963246446834149:Nat:=0
def PySem.W.Fast.tw956154806059122267:Nat:=0
def PySem.W.Fast.tw16066111679762348165:Nat:=0
def PySem.W.Fast.tw8514907289957307197:Nat:=0
def PySem.W.Fast.tw9894653264727141448:Nat:=0
def PySem.W.Fast.tw14356498152811878104:Nat:=0
def PySem.W.Fast.tw12518502673651621449:Nat:=0
def PySem.W.Fast.tw8048936464686321902:Nat:=0
def PySem.W.Fast.tw613390911347259542:Nat:=0
def PySem.W.Fast.tw12938620344073078682:Nat:=0
def PySem.W.Fast.tw12369460154421793817:Nat:=0
def PySem.W.Fast.tw8963700599156797333:Nat:=0
def PySem.W.Fast.tw1771304809070337472:Nat:=0
def PySem.W.Fast.tw14173331127959450447:Nat:=0
def PySem.W.Fast.tw14228322597461836059:Nat:=0
def PySem.W.Fast.tw11426319282285808283:Nat:=0
def PySem.W.Fast.tw18362311716789350728:Nat:=0
def PySem.W.Fast.tw11121202163610383382:Nat:=0
def PySem.W.Fast.tw18127703033206401712:Nat:=0
def PySem.W.Fast.tw8522971489360370946:Nat:=0
def PySem.W.Fast.tw14978166977229970912:Nat:=0
def PySem.W.Fast.tw14897603290342557020:Nat:=0
def PySem.W.Fast.tw8659645783279211666:Nat:=0
def PySem.W.Fast.tw8419721952332069492:Nat:=0
def PySem.W.Fast.tw11840836789128736969:Nat:=0
def PySem.W.Fast.tw9898134745248008796:Nat:=0
def PySem.W.Fast.tw1450618800932592323:Nat:=0
def PySem.W.Fast.tw869514299338923208:Nat:=0
def PySem.W.Fast.tw1533450744694702813:Nat:=0
def PySem.W.Fast.tw14805243299079932536:Nat:=0
def PySem.W.Fast.tw10891720505639430358:Nat:=0
def PySem.W.Fast.tw2716711346763233336:Nat:=0
def PySem.W.Fast.tw13685467238099843065:Nat:=0
def PySem.W.Fast.tw163878281716024470:Nat:=0
def PySem.W.Fast.tw11798242954693809329:Nat:=0
def PySem.W.Fast.tw10935534918718827152:Nat:=0
def PySem.W.Fast.tw10058075940981432878:Nat:=0
def PySem.W.Fast.tw10420584422981018389:Nat:=0
def PySem.W.Fast.tw11465869376702123120:Nat:=0
def PySem.W.Fast.tw11209741254415630714:Nat:=0
def PySem.W.Fast.tw10077827514993199366:Nat:=0
def PySem.W.Fast.tw17132685562623365808:Nat:=0
def PySem.W.Fast.tw11193378538305681264:Nat:=0
def PySem.W.Fast.tw7821237222245296681:Nat:=0
def PySem.W.Fast.tw1338684149882691756:Nat:=0
def PySem.W.Fast.tw7364032690434925416:Nat:=0
def PySem.W.Fast.tw16017273129985939471:Nat:=0
def PySem.W.Fast.tw8958800913419652840:Nat:=0
def PySem.W.Fast.tw15367056291483438254:Nat:=0
def PySem.W.Fast.tw6833967658435304338:Nat:=0
def PySem.W.Fast.tw13186866143358078516:Nat:=0
def PySem.W.Fast.tw304148123666335766:Nat:=0
def PySem.W.Fast.tw8766114434815407723:Nat:=0
def PySem.W.Fast.tw14126486658882587260:Nat:=0
def PySem.W.Fast.tw1104154295094573990:Nat:=0
def PySem.W.Fast.tw9201284035358643746:Nat:=0
def PySem.W.Fast.tw4119894032004992379:Nat:=0
def PySem.W.Fast.tw484469346262848166:Nat:=0
def PySem.W.Fast.tw4913752197412686958:Nat:=0
def PySem.W.Fast.tw3980514941704196769:Nat:=0
def PySem.W.Fast.tw8344309568928502449:Nat:=0
def PySem.W.Fast.tw11533919456757596112:Nat:=0
def PySem.W.Fast.tw15460605920320967814:Nat:=0
def PySem.W.Fast.tw13471977451766424604:Nat:=0
def PySem.W.Fast.tw8545312462281730057:Nat:=0
def PySem.W.Fast.tw3732956600393796737:Nat:=0
def PySem.W.Fast.tw11850839857723016390:Nat:=0
def PySem.W.Fast.tw17028745266921727253:Nat:=0
def PySem.W.Fast.tw16806609702330808375:Nat:=0
def PySem.W.Fast.tw11851201900532395456:Nat:=0
def PySem.W.Fast.tw8399361930750923690:Nat:=0
def PySem.W.Fast.tw6774419798412065742:Nat:=0
def PySem.W.Fast.tw1548565679230545267:Nat:=0
def PySem.W.Fast.tw11960116292755704896:Nat:=0
def PySem.W.Fast.tw7378097092134373038:Nat:=0
def PySem.W.Fast.tw12548572051093081798:Nat:=0
def PySem.W.Fast.tw10127402132450287854:Nat:=0
def PySem.W.Fast.tw9521420236400188465:Nat:=0
def PySem.W.Fast.tw10599476886043033672:Nat:=0
def PySem.W.Fast.tw4490603539000519752:Nat:=0
def PySem.W.Fast.tw15311990076830301691:Nat:=0
def PySem.W.Fast.tw4360802842089728897:Nat:=0
def PySem.W.Fast.tw9361785621447629030:Nat:=0
def PySem.W.Fast.tw3446697836918527223:Nat:=0
def PySem.W.Fast.tw15323504508640545405:Nat:=0
def PySem.W.Fast.tw9264729457891950873:Nat:=0
def PySem.W.Fast.tw18253258537816025163:Nat:=0
def PySem.W.Fast.tw18062306653720187407:Nat:=0
def PySem.W.Fast.tw17279253270312876055:Nat:=0
def PySem.W.Fast.tw11317221893047994822:Nat:=0
def PySem.W.Fast.tw4805868294612157408:Nat:=0
def PySem.W.Fast.tw7201855081102350550:Nat:=0
def PySem.W.Fast.tw4462913886404632438:Nat:=0
def PySem.W.Fast.tw6075012390760143045:Nat:=0
def PySem.W.Fast.tw2372750286428091060:Nat:=0
def PySem.W.Fast.tw4897317707545083771:Nat:=0
def PySem.W.Fast.tw5841267469252308822:Nat:=0
def PySem.W.Fast.tw14874881992507653245:Nat:=0
def PySem.W.Fast.tw1061513337946625043:Nat:=0
def PySem.W.Fast.tw13427873861457127199:Nat:=0
def PySem.W.Fast.tw7194384956941831081:Nat:=0
def PySem.W.Fast.tw1047358905419514946:Nat:=0
def PySem.W.Fast.tw5628544343778930336:Nat:=0
def PySem.W.Fast.tw2991091249845793553:Nat:=0
def PySem.W.Fast.tw10922736440798838692:Nat:=0
def PySem.W.Fast.tw4777664698649336321:Nat:=0
def PySem.W.Fast.tw1987074415916324975:Nat:=0
def PySem.W.Fast.tw4083087799816501322:Nat:=0
def PySem.W.Fast.tw1528045296642352348:Nat:=0
def PySem.W.Fast.tw5397553005589906452:Nat:=0
def PySem.W.Fast.tw17483598960757281907:Nat:=0
def PySem.W.Fast.tw3417399863852603535:Nat:=0
def PySem.W.Fast.tw7495979427987583436:Nat:=0
def PySem.W.Fast.tw10975797537805381910:Nat:=0
def PySem.W.Fast.tw14587342961913183562:Nat:=0
def PySem.W.Fast.tw3578787062526328060:Nat:=0
def PySem.W.Fast.tw11981197686078478644:Nat:=0
def PySem.W.Fast.tw7279892468540376305:Nat:=0
def PySem.W.Fast.tw2688523328892855644:Nat:=0
def PySem.W.Fast.tw15104091398812427670:Nat:=0
def PySem.W.Fast.tw4960942259690725481:Nat:=0
def PySem.W.Fast.tw10686429136124916459:Nat:=0
def PySem.W.Fast.tw10729262648846018701:Nat:=0
def PySem.W.Fast.tw14247063987770469717:Nat:=0
def PySem.W.Fast.tw2643679380253904477:Nat:=0
def PySem.W.Fast.tw15686062517731932998:Nat:=0
def PySem.W.Fast.tw2843301113328669165:Nat:=0
def PySem.W.Fast.tw501994443500795533:Nat:=0
def PySem.W.Fast.tw17522320465432519386:Nat:=0
def PySem.W.Fast.tw8709196597165773618:Nat:=0
def PySem.W.Fast.tw11842986282449021597:Nat:=0
def PySem.W.Fast.tw8133765601479636350:Nat:=0
def PySem.W.Fast.tw13571532842986100187:Nat:=0
def PySem.W.Fast.tw552406313233380909:Nat:=0
def PySem.W.Fast.tw4574599953826231246:Nat:=0
def PySem.W.Fast.tw9386380404115341718:Nat:=0
def PySem.W.Fast.tw18116521080878503574:Nat:=0
def PySem.W.Fast.tw7360404909623915830:Nat:=0
def PySem.W.Fast.tw1012277296791603698:Nat:=0
def PySem.W.Fast.tw4205575794636631935:Nat:=0
def PySem.W.Fast.tw4545602742360605413:Nat:=0
def PySem.W.Fast.tw6562764722908854124:Nat:=0
def PySem.W.Fast.tw3749440017555507424:Nat:=0
def PySem.W.Fast.tw10057291030051382773:Nat:=0
def PySem.W.Fast.tw13173377504428606096:Nat:=0
def PySem.W.Fast.tw15082191214223215214:Nat:=0
def PySem.W.Fast.tw864463907247628588:Nat:=0
def PySem.W.Fast.tw17388543840432175809:Nat:=0
def PySem.W.Fast.tw6445177289761459618:Nat:=0
def PySem.W.Fast.tw11890022910506500958:Nat:=0
def PySem.W.Fast.tw1799746517238125557:Nat:=0
def PySem.W.Fast.tw686672274943354499:Nat:=0
def PySem.W.Fast.tw6783178381905728347:Nat:=0
def PySem.W.Fast.tw10066819742034418593:Nat:=0
def PySem.W.Fast.tw8470960563582212956:Nat:=0
def PySem.W.Fast.tw4827190664508366574:Nat:=0
def PySem.W.Fast.tw9423367724464759371:Nat:=0
def PySem.W.Fast.tw8090290531710957416:Nat:=0
def PySem.W.Fast.tw5637282124792504512:Nat:=0
def PySem.W.Fast.tw1492018735720190221:Nat:=0
def PySem.W.Fast.tw15114582805013108264:Nat:=0
def PySem.W.Fast.tw5827190035991979478:Nat:=0
def PySem.W.Fast.tw5423401873585616919:Nat:=0
def PySem.W.Fast.tw12861941598073418193:Nat:=0
def PySem.W.Fast.tw3371789835233703048:Nat:=0
def PySem.W.Fast.tw13227477514498872190:Nat:=0
def PySem.W.Fast.tw13242362032675158750:Nat:=0
def PySem.W.Fast.tw3985558168833024069:Nat:=0
def PySem.W.Fast.tw12896020132974602950:Nat:=0
def PySem.W.Fast.tw8088973345996624971:Nat:=0
def PySem.W.Fast.tw3594886432450332765:Nat:=0
def PySem.W.Fast.tw15438484692059296827:Nat:=0
def PySem.W.Fast.tw15137837494185073255:Nat:=0
def PySem.W.Fast.tw10364510025776187471:Nat:=0
def PySem.W.Fast.tw2970093534924542338:Nat:=0
def PySem.W.Fast.tw7820643168775767846:Nat:=0
def PySem.W.Fast.tw1727663371308333713:Nat:=0
def PySem.W.Fast.tw3225764073778716789:Nat:=0
def PySem.W.Fast.tw9735704890025389508:Nat:=0
def PySem.W.Fast.tw1299085022492372695:Nat:=0
def PySem.W.Fast.tw13522884454525908883:Nat:=0
def PySem.W.Fast.tw7346248687203231981:Nat:=0
def PySem.W.Fast.tw3906166463690058342:Nat:=0
def PySem.W.Fast.tw17000092885120667119:Nat:=0
def PySem.W.Fast.tw10651324505981944777:Nat:=0
def PySem.W.Fast.tw8537762555875880850:Nat:=0
def PySem.W.Fast.tw8932604921914534986:Nat:=0
def PySem.W.Fast.tw2024952095141685512:Nat:=0
def PySem.W.Fast.tw3853809651174446305:Nat:=0
def PySem.W.Fast.tw583550012136940849:Nat:=0
def PySem.W.Fast.tw3935387730613272302:Nat:=0
def PySem.W.Fast.tw2434909664968117037:Nat:=0
def PySem.W.Fast.tw2474104622224996022:Nat:=0
def PySem.W.Fast.tw9812032103468168913:Nat:=0
def PySem.W.Fast.tw10494480444887142089:Nat:=0
def PySem.W.Fast.tw9171797312960083622:Nat:=0
def PySem.W.Fast.tw454703390938573785:Nat:=0
def PySem.W.Fast.tw7330792187345012839:Nat:=0
def PySem.W.Fast.tw5481886379077865653:Nat:=0
def PySem.W.Fast.tw12411944692371110297:Nat:=0
def PySem.W.Fast.tw783205140727189170:Nat:=0
def PySem.W.Fast.tw13111639080234969740:Nat:=0
def PySem.W.Fast.tw11868619661911759441:Nat:=0
def PySem.W.Fast.tw5589202309950074737:Nat:=0
def PySem.W.Fast.tw9461848454288794515:Nat:=0
def PySem.W.Fast.tw1112544642988232078:Nat:=0
def PySem.W.Fast.tw9811927461072679804:Nat:=0
def PySem.W.Fast.tw15412850423867732955:Nat:=0
def PySem.W.Fast.tw3889230350484518906:Nat:=0
def PySem.W.Fast.tw1379127808040809166:Nat:=0
def PySem.W.Fast.tw10561934112454856887:Nat:=0
def PySem.W.Fast.tw11356487508134715045:Nat:=0
def PySem.W.Fast.tw9298906969299453985:Nat:=0
def PySem.W.Fast.tw18392921297661199303:Nat:=0
def PySem.W.Fast.tw17404620217165116535:Nat:=0
def PySem.W.Fast.tw7030475146765238329:Nat:=0
def PySem.W.Fast.tw1364456726435441266:Nat:=0
def PySem.W.Fast.tw13256641997356597876:Nat:=0
def PySem.W.Fast.tw7915966429133701460:Nat:=0
def PySem.W.Fast.tw18406482208498383205:Nat:=0
def PySem.W.Fast.tw4462572718677879144:Nat:=0
def PySem.W.Fast.tw6657646329170929284:Nat:=0
def PySem.W.Fast.tw8098167244984526213:Nat:=0
def PySem.W.Fast.tw2746381911335495516:Nat:=0
def PySem.W.Fast.tw14829426234453182717:Nat:=0
def PySem.W.Fast.tw2678785575136678445:Nat:=0
def PySem.W.Fast.tw14115827102801951323:Nat:=0
def PySem.W.Fast.tw5959663741000181070:Nat:=0
def PySem.W.Fast.tw11825688092961053852:Nat:=0
def PySem.W.Fast.tw16480309325832982985:Nat:=0
def PySem.W.Fast.tw7764038416459122009:Nat:=0
def PySem.W.Fast.tw2678149418993952260:Nat:=0
def PySem.W.Fast.tw4009080676450763551:Nat:=0
def PySem.W.Fast.tw16748662229830084230:Nat:=0
def PySem.W.Fast.tw16072637817905549027:Nat:=0
def PySem.W.Fast.tw5867358499185303735:Nat:=0
def PySem.W.Fast.tw83599465646149872:Nat:=0
def PySem.W.Fast.tw8340290415624123152:Nat:=0
def PySem.W.Fast.tw10905317184668633940:Nat:=0
def PySem.W.Fast.tw11191295609369127336:Nat:=0
def PySem.W.Fast.tw4070069426892383009:Nat:=0
def PySem.W.Fast.tw9634961769104125187:Nat:=0
def PySem.W.Fast.tw11964566018381757979:Nat:=0
def PySem.W.Fast.tw18340255783101177760:Nat:=0
def PySem.W.Fast.tw8200091870965879485:Nat:=0
def PySem.W.Fast.tw10803323658002472063:Nat:=0
def PySem.W.Fast.tw15614050062501089757:Nat:=0
def PySem.W.Fast.tw16011861771452669693:Nat:=0
def PySem.W.Fast.tw13444462058081786051:Nat:=0
def PySem.W.Fast.tw4071434145048958906:Nat:=0
def PySem.W.Fast.tw8288040942039627229:Nat:=0
def PySem.W.Fast.tw403430211195709489:Nat:=0
def PySem.W.Fast.tw9649978230557047389:Nat:=0
def PySem.W.Fast.tw16122845237365034592:Nat:=0
def PySem.W.Fast.tw7280669545843447228:Nat:=0
def PySem.W.Fast.tw1430204100553305708:Nat:=0
def PySem.W.Fast.tw16090964896187648525:Nat:=0
def PySem.W.Fast.tw1783378654366304167:Nat:=0
def PySem.W.Fast.tw5895651043650915960:Nat:=0
def PySem.W.Fast.tw16990938104077064833:Nat:=0
def PySem.W.Fast.tw1254402413042870189:Nat:=0
def PySem.W.Fast.tw14473471558981053199:Nat:=0
def PySem.W.Fast.tw11883356815832664506:Nat:=0
def PySem.W.Fast.tw6576133323791704732:Nat:=0
def PySem.W.Fast.tw10762907708149997110:Nat:=0
def PySem.W.Fast.tw16351102677133294955:Nat:=0
def PySem.W.Fast.tw8491168993064479318:Nat:=0
def PySem.W.Fast.tw8187768168268082048:Nat:=0
def PySem.W.Fast.tw7778752454376372033:Nat:=0
def PySem.W.Fast.tw14440732548108409:Nat:=0
def PySem.W.Fast.tw16644809313416022895:Nat:=0
def PySem.W.Fast.tw13353914503915389600:Nat:=0
def PySem.W.Fast.tw11699717936557940643:Nat:=0
def PySem.W.Fast.tw14513096916106462686:Nat:=0
def PySem.W.Fast.tw13935339006758138789:Nat:=0
def PySem.W.Fast.tw17288829962001776822:Nat:=0
def PySem.W.Fast.tw17604322235631527354:Nat:=0
def PySem.W.Fast.tw12194497221319437455:Nat:=0
def PySem.W.Fast.tw4172645458229998057:Nat:=0
def PySem.W.Fast.tw3579359998861251684:Nat:=0
def PySem.W.Fast.tw10497804411876552081:Nat:=0
def PySem.W.Fast.tw2535245695220210146:Nat:=0
def PySem.W.Fast.tw2061573706109910576:Nat:=0
def PySem.W.Fast.tw12587453765056567538:Nat:=0
def PySem.W.Fast.tw2881450520870949316:Nat:=0
def PySem.W.Fast.tw17440022997505304018:Nat:=0
def PySem.W.Fast.tw3160436971248459903:Nat:=0
def PySem.W.Fast.tw3775532329461811133:Nat:=0
section
namespace L2
open PySem PySem.Spec PyProof.Rows
noncomputable abbrev Key:=Sum Int Str
noncomputable def rj:Key->aa->Bool
 |.inl k,v=>aa.isInt k v
 |.inr x,v=>aa.isStrOf x v
noncomputable def GX(w:World):Key->Int
 |.inl k=>gN k
 |.inr x=>hashStr w x
theorem Zk:∀{k:Key}{v:aa},rj k v=true->(∃ i t,k=Sum.inl i/\v=aa.int i t)\/(∃ x t,k=Sum.inr x/\v=aa.str x t)
 |.inl i,v,h=>by
  obtain⟨t,e⟩:=aa.isInt_shape (k:=i) (v:=v) h;exact .inl ⟨i,t,rfl,e⟩
 |.inr x,v,h=>by
  obtain⟨t,e⟩:=aa.isStrOf_shape (x:=x) (v:=v) h;exact .inr ⟨x,t,rfl,e⟩
theorem zb8(i:Int)(t:Tok):rj (.inl i) (.int i t)=true:=by simp[rj,aa.isInt]
theorem ycf(x:Str)(t:Tok):rj (.inr x) (.str x t)=true:=by simp[rj,aa.isStrOf]
theorem Ydl(a b:Int):decide ((Sum.inl a:Key)=Sum.inl b)=(a==b):=by
 by_cases e:a=b
 ·subst e;simp
 ·have h:¬(Sum.inl a:Key)=Sum.inl b:=λq=>e (Sum.inl.inj q);rw[decide_eq_false h];exact(beq_eq_false_iff_ne.mpr e).symm
theorem zdd(a b:Str):decide ((Sum.inr a:Key)=Sum.inr b)=decide (a=b):=by
 by_cases e:a=b
 ·subst e;simp
 ·have h:¬(Sum.inr a:Key)=Sum.inr b:=λq=>e (Sum.inr.inj q);rw[decide_eq_false h,decide_eq_false e]
theorem yda(a:Int)(b:Str):decide ((Sum.inl a:Key)=Sum.inr b)=false:=decide_eq_false (λq=>nomatch q)
theorem zdf(a:Str)(b:Int):decide ((Sum.inr a:Key)=Sum.inl b)=false:=decide_eq_false (λq=>nomatch q)
noncomputable def ye(prog:aj)(w:World):PySem.KeyKind prog w Key where
 is:=rj
 hash:=GX w
 inj:=λv a b ha hb=>by
  rcases Zk ha with ⟨i,t,rfl,rfl⟩|⟨x,t,rfl,rfl⟩
  ·rcases Zk hb with ⟨j,u,rfl,e⟩|⟨y,u,rfl,e⟩
   ·injection e with e1 _;rw[e1]
   ·exact nomatch e
  ·rcases Zk hb with ⟨j,u,rfl,e⟩|⟨y,u,rfl,e⟩
   ·exact nomatch e
   ·injection e with e1 _;rw[e1]
 byValue:=λk v h=>by
  rcases Zk h with ⟨i,t,rfl,rfl⟩|⟨x,t,rfl,rfl⟩ <;> rfl
 pyHash:=λhv h=>by
  rcases Zk hv with ⟨i,t,rfl,rfl⟩|⟨x,t,rfl,rfl⟩
  ·exact wpAny_pyHash_int h
  ·exact wpAny_pyHash_str h
 eqBool:=λhu hv h=>by
  rcases Zk hu with ⟨i,t,rfl,rfl⟩|⟨x,t,rfl,rfl⟩
  ·rcases Zk hv with ⟨j,u,rfl,rfl⟩|⟨y,u,rfl,rfl⟩
   ·rw[Ydl] at h;exact wpAny_eqBool_int h
   ·rw[yda] at h;exact SeqAt.EqAt.int_str i t y u _ _ _ _ h
  ·rcases Zk hv with ⟨j,u,rfl,rfl⟩|⟨y,u,rfl,rfl⟩
   ·rw[zdf] at h;exact SeqAt.EqAt.str_int x t j u _ _ _ _ h
   ·rw[zdd] at h;exact wpAny_eqBool_str h
 «strs»:=λk x t v h=>by
  rcases Zk h with ⟨i,u,rfl,e⟩|⟨y,u,rfl,e⟩
  ·exact nomatch e
  ·injection e with e1 _
   subst e1;cases v <;> rfl
theorem Qbz(prog:aj)(w:World)(i:Int)(t:Tok):(ye prog w).is (.inl i) (.int i t)=true:=zb8 i t
theorem Qbw(prog:aj)(w:World)(x:Str)(t:Tok):(ye prog w).is (.inr x) (.str x t)=true:=ycf x t
inductive V where
 |bI|bl (b:Bool)|int (i:Int)|str (x:Str)|A1 (b:Array UInt8)|ow (b:UInt64)|ref (a:ae)|ty (n:String)
 deriving DecidableEq
noncomputable def RelV:V->aa->Prop
 |.bI,u=>u=aa.none
 |.bl b,u=>u=aa.bool b
 |.int i,u=>∃ t,u=aa.int i t
 |.str x,u=>∃ t,u=aa.str x t
 |.A1 b,u=>∃ t,u=aa.bytes b t
 |.ow b,u=>∃ t,u=aa.float b t
 |.ref a,u=>u=aa.ref a
 |.ty n,u=>u=aa.type n
noncomputable abbrev Vals:List V->List aa->Prop:=bU RelV
theorem Vals.length{xs:List V}{us:List aa}(r:Vals xs us):xs.length=us.length:=bU.length r
theorem Vals.get:∀{xs:List V}{us:List aa}{i:Nat}{x:V},Vals xs us->xs[i]?=some x->∃ u,us[i]?=some u/\RelV x u
 |_,_,_,_,.nil,e=>by simp at e
 |_,_,0,_,.cons r _,e=>by simp at e;subst e;exact⟨_,rfl,r⟩
 |_,_,i+1,x,.cons _ t,e=>by
  obtain⟨u,h1,h2⟩:=Vals.get (i:=i) (x:=x) t (by simpa using e);exact⟨u,by simpa using h1,h2⟩
theorem Vals.set{x:V}{u:aa}(r:RelV x u):∀{xs:List V}{us:List aa}(i:Nat),Vals xs us->Vals (xs.set i x) (us.set i u)
 |_,_,_,.nil=>.nil
 |_,_,0,.cons _ t=>.cons r t
 |_,_,i+1,.cons q t=>.cons q (Vals.set r i t)
theorem Vals.append:∀{xs ys:List V}{us ws:List aa},Vals xs us->Vals ys ws->Vals (xs++ys) (us++ws)
 |_,_,_,_,.nil,s=>s
 |_,_,_,_,.cons r t,s=>.cons r (Vals.append t s)
theorem Vals.take:∀{xs:List V}{us:List aa}(n:Nat),Vals xs us->Vals (xs.take n) (us.take n)
 |_,_,0,_=>.nil
 |_,_,_+1,.nil=>.nil
 |_,_,n+1,.cons r t=>.cons r (Vals.take n t)
theorem Vals.drop:∀{xs:List V}{us:List aa}(n:Nat),Vals xs us->Vals (xs.drop n) (us.drop n)
 |_,_,0,r=>r
 |_,_,_+1,.nil=>.nil
 |_,_,n+1,.cons _ t=>Vals.drop n t
noncomputable def gU:Option V->Option aa->Prop
 |some v,some u=>RelV v u
 |none,none=>True
 |_,_=>False
noncomputable def KV{κ:Type}:List (κ×V)->List (κ×aa)->Prop:=bU λ(p:κ×V)(q:κ×aa)=>p.1=q.1/\RelV p.2 q.2
noncomputable def kV:Key->V
 |.inl i=>.int i
 |.inr x=>.str x
inductive HO where
 |lst (xs:List V)
 |tup (xs:List V)
 |dK (kvs:List (Key×V))|dT (kvs:List (List Key×V))
 |set (S:Int->Bool) (n:Nat)
 |ins (C dx:ae) (fs:List (Str×V))
 |own (x:ae)
 |xd (fs:List (Str×V))
 |met (f x:ae)
 |F5 (lo hi:Int)
 |e8 (o:Obj) (u:HO)
 |oQ (ps:Array aa)
 |ext (φ:Heap->Prop)
noncomputable abbrev Hp:=ae->Option HO
noncomputable def upd(H:Hp)(a:ae)(o:HO):Hp:=λb=>if b=a then some o else H b
theorem qe{H:Hp}{a:ae}{o:HO}:upd H a o a=some o:=by unfold upd;rw[if_pos rfl]
theorem Zc{H:Hp}{a b:ae}{o:HO}(h:b≠a):upd H a o b=H b:=by unfold upd;rw[if_neg h]
theorem KC{H:Hp}{a b:ae}{o u:HO}(h:H a=some o)(h':H b=some u)(d:o≠u):a≠b:=by
 intro e;subst e;rw[h] at h';exact d (Option.some.inj h')
theorem yg{H:Hp}{a b:ae}{o:HO}(h:H a=some o)(h':H b=none):a≠b:=by
 intro e;subst e;rw[h] at h';cases h'
section
variable (P:aj) (w:World)
noncomputable def bf(H:Hp)(h:Heap)(a:ae):HO->Prop
 |.lst xs=>xs.length<=sizeLine/\∃(aA:List aa)(n:Nat),Vals xs aA/\h.get? a=some {cls:=.type "list",data:=.seq aA.toArray n}
 |.tup xs=>xs.length<=sizeLine/\∃ aA:List aa,Vals xs aA/\f' h a aA.toArray
 |.dK kvs=>kvs.length<=sizeLine/\(a==bq)=false/\∃ vs,KV kvs vs/\h.DictOf (ye P w) a vs
 |.dT kvs=>kvs.length<=sizeLine/\(a==bq)=false/\∃ xs:List (List Key×ae×aa),
   bU (λ(p:List Key×V)(q:List Key×ae×aa)=>p.1=q.1/\H q.2.1=some (.tup (p.1.map kV))/\RelV p.2 q.2.2) kvs xs /\
   ∃ o es ep,h.get? a=some o/\o.ExactDict/\o.data=.dict es ep/\es.toList=xs.map (i3 (aD (ye P w)))/\(xs.map (·.1)).Nodup
 |.set S n=>h.SetOf (intKind P w) a S n
 |.ins C dx fs=>H dx=some (.own a)/\fs.length<=1000/\dx≠a/\h.get? a=some (Wh C dx) /\
   ∃ mA,h.Ns1 dx mA/\(∀ f,gU (fs.lookup f) (mA f))/\PySem.Within mA (fs.map (·.1))
 |.own _=>∃ o,h.get? a=some o
 |.xd fs=>∃ mA,h.Ns1 a mA/\∀ f,gU (fs.lookup f) (mA f)
 |.F5 lo hi=>∃ t u v,h.get? a=some {cls:=.type "range",data:=.fields #[.int lo t,.int hi u,.int 1 v]}
 |.e8 o u=>h.get? a=some o/\bf H h a u
 |.oQ ps=>h.get? a=some {cls:=.none,data:=.fields ps}
 |.met f x=>h.get? a=some (Vz (.ref f) (.ref x))
 |.ext φ=>φ h/\(∃ o,h.get? a=some o)/\∀ h1 h2:Heap,φ h1->(∀ o,h1.get? a=some o->h2.get? a=some o)->φ h2
noncomputable def fe(H:Hp)(h:Heap):Prop:=∀ a o,H a=some o->bf P w H h a o
end
section
variable {P:aj} {w:World} {H H':Hp} {h h':Heap} {a:ae} {o:HO}
theorem bf.lt(x:bf P w H h a o):a<h.objs.size:=by
 cases o with
 |lst xs=>obtain⟨_,_,_,_,e⟩:=x;exact Ua e
 |tup xs=>obtain⟨_,_,_,p⟩:=x;exact p.lt
 |dK kvs=>obtain⟨_,_,_,_,o,_,_,e,_⟩:=x;exact Ua e
 |dT kvs=>obtain⟨_,_,_,_,o,_,_,e,_⟩:=x;exact Ua e
 |set S n=>obtain⟨o,_,_,_,e,_⟩:=x;exact Ua e
 |ins C dx fs=>obtain⟨_,_,_,e,_⟩:=x;exact Ua e
 |own y=>obtain⟨_,e⟩:=x;exact Ua e
 |xd fs=>obtain⟨_,⟨_,_,_,e,_⟩,_⟩:=x;exact Ua e
 |F5 lo hi=>obtain⟨_,_,_,e⟩:=x;exact Ua e
 |e8 ob u=>obtain⟨e,_⟩:=x;exact Ua e
 |oQ ps=>exact Ua (show h.get? a=some _ from x)
 |met f y=>exact Ua (show h.get? a=some _ from x)
 |ext φ=>obtain⟨_,⟨_,e⟩,_⟩:=x;exact Ua e
theorem bU.pb{α β:Type}{F G:α->β->Prop}:∀{l₁:List α}{l₂:List β},bU F l₁ l₂->(∀ a b,F a b->G a b)->bU G l₁ l₂
 |_,_,.nil,_=>.nil
 |_,_,.cons r t,f=>.cons (f _ _ r) (bU.pb t f)
theorem bf.iO(x:bf P w H h a o)(k:∀ b u,(b=a\/H b=some (.own a))->h.get? b=some u->h'.get? b=some u)
  (ho:∀ b,H b=some (.own a)->H' b=some (.own a)) (ht:∀ b xs,H b=some (.tup xs)->H' b=some (.tup xs)):bf P w H' h' a o:=by
 induction o with
 |lst xs=>obtain⟨z,aA,n,r,e⟩:=x;exact⟨z,aA,n,r,k _ _ (.inl rfl) e⟩
 |tup xs=>obtain⟨z,aA,r,ob,e,c⟩:=x;exact⟨z,aA,r,ob,k _ _ (.inl rfl) e,c⟩
 |dK kvs=>obtain⟨z,y,vs,r,ob,es,ep,e,c⟩:=x;exact⟨z,y,vs,r,ob,es,ep,k _ _ (.inl rfl) e,c⟩
 |dT kvs =>
  obtain⟨z,y,xs,r,ob,es,ep,e,c⟩:=x;exact⟨z,y,xs,bU.pb r λp q z=>⟨z.1,ht _ _ z.2.1,z.2.2⟩,ob,es,ep,k _ _ (.inl rfl) e,c⟩
 |set S n=>obtain⟨ob,es,ep,t,e,c⟩:=x;exact⟨ob,es,ep,t,k _ _ (.inl rfl) e,c⟩
 |ins C dx fs =>
  obtain⟨d,z,ne,e,mA,⟨od,es,ep,e2,c⟩,r⟩:=x;exact⟨ho _ d,z,ne,k _ _ (.inl rfl) e,mA,⟨od,es,ep,k _ _ (.inr d) e2,c⟩,r⟩
 |own y=>obtain⟨ob,e⟩:=x;exact⟨ob,k _ _ (.inl rfl) e⟩
 |xd fs=>obtain⟨mA,⟨od,es,ep,e,c⟩,r⟩:=x;exact⟨mA,⟨od,es,ep,k _ _ (.inl rfl) e,c⟩,r⟩
 |F5 lo hi=>obtain⟨t,u,v,e⟩:=x;exact⟨t,u,v,k _ _ (.inl rfl) e⟩
 |e8 ob u ih=>obtain⟨e,q⟩:=x;exact⟨k _ _ (.inl rfl) e,ih q⟩
 |oQ ps =>
  have e:h.get? a=some {cls:=.none,data:=.fields ps}:=x;show h'.get? a=some {cls:=.none,data:=.fields ps};exact k a _ (.inl rfl) e
 |met f y =>
  have e:h.get? a=some (Vz (.ref f) (.ref y)):=x;show h'.get? a=some (Vz (.ref f) (.ref y));exact k a _ (.inl rfl) e
 |ext φ=>obtain⟨p,⟨o,e⟩,st⟩:=x;exact⟨st _ _ p λo q=>k _ _ (.inl rfl) q,⟨o,k _ _ (.inl rfl) e⟩,st⟩
theorem fe.lt(x:fe P w H h)(e:H a=some o):a<h.objs.size:=(x a o e).lt
theorem fe.fresh(x:fe P w H h)(e:h.objs.size<=a):H a=none:=by
 cases q:H a with
 |none=>rfl
 |some u=>exact absurd (Uc (x.lt q) e) (Vh _)
theorem fe.kept(x:fe P w H h)(k:∀ b u,h.get? b=some u->h'.get? b=some u):fe P w H h':=λa o e =>
 (x a o e).iO (λb u _ q=>k b u q) (λ_ q=>q) λ_ _ q=>q
theorem fe.laid(x:fe P w H h)(k:∀ b u,h.get? b=some u->h'.get? b=some u)(hp:h.objs.size<=a)(new:bf P w (upd H a o) h' a o):fe P w (upd H a o) h':=λb u e=>by
 have hn:=x.fresh hp;by_cases hb:b=a
 ·subst hb;rw[qe] at e;cases e;exact new
 ·rw[Zc hb] at e;exact(x b u e).iO (λc v _ q=>k c v q) (λc q=>by rw[Zc (yg q hn)];exact q) λc xs q=>by rw[Zc (yg q hn)];exact q
end
noncomputable def Rd(H:Hp)(a:ae)(u:HO):Prop:=H a=some u\/∃ o,H a=some (.e8 o u)
theorem Rd.of{H:Hp}{a:ae}{u:HO}(h:H a=some u):Rd H a u:=.inl h
theorem Rd.ok{P:aj}{w:World}{H:Hp}{h:Heap}{a:ae}{u:HO}(r:Rd H a u)(x:fe P w H h):bf P w H h a u:=by
 rcases r with r|⟨o,r⟩
 ·exact x a u r
 ·obtain⟨_,q⟩:=x a _ r;exact q
noncomputable def Bp:Option HO->Prop
 |some (.lst _)=>True
 |some (.dK _)=>True
 |some (.dT _)=>True
 |some (.set _ _)=>True
 |some (.ins _ _ _)=>True
 |some (.ext _)=>True
 |_=>False
section
variable {P:aj} {w:World} {H:Hp} {h h':Heap} {x e:ae} {o':HO}
theorem fe.write(ok:fe P w H h)(mu:Bp (H x))(he:e=x\/H e=some (.own x))(k:∀ b u,b≠e->h.get? b=some u->h'.get? b=some u)(rT:∃ u,h'.get? e=some u)
  (new:bf P w (upd H x o') h' x o'):fe P w (upd H x o') h':=λb u q=>by
 have lZ:∀ c y,H c=some (.own y)->c≠x:=λc y r z=>by subst z;rw[r] at mu;exact mu
 have GO:∀ c xs,H c=some (.tup xs)->c≠x:=λc xs r z=>by subst z;rw[r] at mu;exact mu
 by_cases hb:b=x
 ·subst hb;rw[qe] at q;cases q;exact new
 ·rw[Zc hb] at q;by_cases pL:b=e
  ·have q':H b=some (.own x):=by
    rcases he with z|z
    ·exact absurd (pL.trans z) hb
    ·rw[pL];exact z
   rw[q] at q';cases q';obtain⟨v,hv⟩:=rT;exact⟨v,by rw[pL];exact hv⟩
  ·refine(ok b u q).iO (λc v hc r=>k c v ?_ r) (λc r=>by rw[Zc (lZ c b r)];exact r) λc xs r=>by rw[Zc (GO c xs r)];exact r
   rcases hc with rfl|hc
   ·exact pL
   ·rintro rfl
    rcases he with z|z
    ·exact lZ c b hc z
    ·rw[hc] at z;cases z;exact hb rfl
end
structure Un (fs ex:List ae) (H H':Hp) (h h':Heap):Prop where
 keep:∀ b o,h.get? b=some o->H b=none->b∉fs->b∉ex->h'.get? b=some o
 slot:∀ b o,h.get? b=some o->H b=none->b∈fs->b∉ex->∃ sl,h'.get? b=some {o with slots:=sl}
 free:∀ b o,h.get? b=some o->H b=none->b∉ex->H' b=none
 there:∀ b o,h.get? b=some o->b∉ex->∃ o',h'.get? b=some o'
 jd:∀ b xs,H b=some (.tup xs)->H' b=some (.tup xs)
 iY:∀ b o u,H b=some (.e8 o u)->H' b=some (.e8 o u)
 jf:∀ b ps,H b=some (.oQ ps)->∃ more,H' b=some (.oQ (ps++more))
section
variable {fs CZ ex nL:List ae} {H H1 H2:Hp} {h h1 h2 h':Heap} {a x e:ae} {o:HO}
theorem Un.any(u:Un fs ex H H1 h h1){b:ae}{ob:Obj}(q:h.get? b=some ob)(n:H b=none)(hx:b∉ex):∃ sl,h1.get? b=some {ob with slots:=sl}:=by
 by_cases hb:b∈fs
 ·exact u.slot b ob q n hb hx
 ·exact⟨ob.slots,u.keep b ob q n hb hx⟩
theorem Un.kept(k:∀ b u,h.get? b=some u->h'.get? b=some u):Un fs ex H H h h' :=
 ⟨λb ob q _ _ _=>k b ob q,λb ob q _ _ _=>⟨ob.slots,k b ob q⟩,λ_ _ _ n _=>n,λb ob q _=>⟨ob,k b ob q⟩,λ_ _ q=>q,λ_ _ _ q=>q,λ_ ps q=>⟨#[],by rw[q];simp⟩⟩
theorem Un.refl:Un fs ex H H h h:=Un.kept λ_ _ q=>q
theorem Un.laid(k:∀ b u,h.get? b=some u->h'.get? b=some u)(hp:h.objs.size<=a)(hn:H a=none):Un fs ex H (upd H a o) h h' where
 keep:=λb u q _ _ _=>k b u q
 slot:=λb u q _ _ _=>⟨u.slots,k b u q⟩
 free:=λb u q n _=>by rw[Zc (vb (Uc (Ua q) hp))];exact n
 there:=λb u q _=>⟨u,k b u q⟩
 jd:=λb xs q=>by rw[Zc (yg q hn)];exact q
 iY:=λb u xs q=>by rw[Zc (yg q hn)];exact q
 jf:=λb ps q=>⟨#[],by rw[Zc (yg q hn),q];simp⟩
theorem Un.write(mu:Bp (H x))(he:e=x\/H e=some (.own x))(k:∀ b u,b≠e->h.get? b=some u->h'.get? b=some u)(rT:∃ u,h'.get? e=some u):Un fs ex H (upd H x o) h h':=by
 have hx:∀ b,H b=none->b≠x:=λb n z=>by subst z;rw[n] at mu;exact mu
 have hb:∀ b,H b=none->b≠e:=λb n z=>by
  subst z
  rcases he with r|r
  ·exact hx b n r
  ·rw[n] at r;cases r
 have hm:∀ b u,H b=some u->¬ Bp (some u)->b≠x:=λb u q nm z=>by subst z;rw[q] at mu;exact nm mu
 refine⟨λb u q n _ _=>k b u (hb b n) q,λb u q n _ _=>⟨u.slots,k b u (hb b n) q⟩,λb u q n _=>by rw[Zc (hx b n)];exact n,λb u q _=>?_,
  λb xs q=>by rw[Zc (hm b _ q λz=>z)];exact q,λb u xs q=>by rw[Zc (hm b _ q λz=>z)];exact q,λb ps q=>⟨#[],by rw[Zc (hm b _ q λz=>z),q];simp⟩⟩
 by_cases pL:b=e
 ·subst pL;exact rT
 ·exact⟨u,k b u pL q⟩
end
noncomputable def BY(h:Heap)(H:Hp):List ae:=(Xd h.objs.size).filter λa=>(H a).isSome
noncomputable def mJ(h:Heap)(H:Hp):Heap:=PySem.W.hideAll h (BY h H)
theorem ycd(h:Heap)(H:Hp):(mJ h H).objs.size=h.objs.size:=PySem.W.hideAll_size _ _
theorem Ycj{h:Heap}{H:Hp}{b:ae}{o:Obj}(e:h.get? b=some o)(n:H b=none):(mJ h H).get? b=some o :=
 PySem.W.hideAll_get _ e λhm=>by
  have q:(H b).isSome=true:=(Uw.mp hm).2;rw[n] at q;simp at q
theorem zcW{h:Heap}{H:Hp}{b:ae}{o:Obj}(e:(mJ h H).get? b=some o):h.get? b=some o/\H b=none:=by
 have e':h.get? b=some o:=PySem.W.of_hideAll (BY h H) e;refine⟨e',?_⟩;cases q:H b with
 |none=>rfl
 |some x =>
  have hm:b∈BY h H:=Uw.mpr ⟨xj.mpr (Ua e'),by simp[q]⟩;have z:(mJ h H).get? b=none:=PySem.W.hideAll_none (BY h H) hm;rw[z] at e;cases e
structure Mod (K:PySem.W.Frag) (mg:Str->Option aa) (base:Heap):Prop where
 wX:K.In base
 glob:base.Ns ao mg
 blt:∃ mb,base.Ns builtinsNs mb/\∀ x:Str,x≠"__name__"->mb x=bD x
 nolimit:base.NoLimit
structure Cx where
 prog:aj
 w:World
 K:PySem.W.Frag
 mg:Str->Option aa
 base:Heap
 A:aw
 N:List Str
 s₀:af
 H₀:Hp
 env:Env
 outer:List Env
 stack:List Env
 ex:List ae
 fn:Str->Bool
 calm:Bool
 pn:List (ae×Obj)
 xe:aa->af->Prop
noncomputable def kZ(l:List Env):List ae:=l.filterMap (·.frame)
noncomputable abbrev Cx.fs(X:Cx):List ae:=kZ X.outer
noncomputable def Oj(sc:az)(x:Str):Prop:=sc.names.lookup x=some .local\/sc.names.lookup x=some .cell\/sc.names.lookup x=some .free
noncomputable def Loc(sc:az)(x:Str):Prop:=sc.names.lookup x=some .local\/sc.names.lookup x=some .cell
noncomputable def Look(env:Env)(h:Heap)(m:Str->Option aa)(x:Str)(u:aa):Prop :=
 (env.kindOf x=some .local/\m x=some u)\/((env.kindOf x=some .cell\/env.kindOf x=some .free)/\∃ c,env.cells.lookup x=some c/\h.IsCell c (some u))
structure Cx.Ok (X:Cx):Prop where
 mod:Mod X.K X.mg X.base
 kind:X.env.scope.kind=.function
 glob:X.env.globals=ao
 blt:X.env.builtins=builtinsNs
 above:X.s₀.heap.objs.size<=X.env.locals
 inj:∀ x y c,X.env.cells.lookup x=some c->X.env.cells.lookup y=some c->x=y
 has:∀ x,(X.env.kindOf x=some .cell\/X.env.kindOf x=some .free)->∃ c,X.env.cells.lookup x=some c
 Iz:∀ x c,X.fn x=true->X.env.cells.lookup x=some c->X.s₀.heap.objs.size<=c
 hd:X.calm=true->X.A.handled=none
 frames:X.A.frames=some X.stack
 FU:X.stack=X.outer\/(X.stack=X.env::X.outer/\X.env.frame=some X.env.locals)
 exf:∀ b∈X.ex,b≠X.env.locals/\∀ x c,X.env.cells.lookup x=some c->c≠b
 bs:∀ b o,X.base.get? b=some o->X.s₀.heap.get? b=some o/\X.H₀ b=none
 pU:X.base.objs.size<=X.s₀.heap.objs.size
 o8:∀ b o,X.base.get? b=some o->b∉X.ex
 Ay:∀ b∈X.ex,b∉X.fs
 iX:X.s₀.heap.FunFrames X.base X.outer
 Aw:∀ b∈X.fs,X.H₀ b=none
structure Inv (X:Cx) (pins:List (ae×Obj)) (σ:List (Option V)) (H:Hp) (s:af):Prop where
 ok:X.Ok
 os:s.os=X.s₀.os
 bare:dD s.gens
 base:Un X.fs X.ex X.H₀ H X.s₀.heap s.heap
 loc:∃ m,s.heap.Ns X.env.locals m/\∀(i:Nat)(x:Str)(v:V),X.N[i]?=some x->σ[i]?=some (some v)->Oj X.env.scope x->∃ u,RelV v u/\Look X.env s.heap m x u
 cell:∀ x c,X.env.cells.lookup x=some c->∃ v,s.heap.IsCell c v
 free:H X.env.locals=none
 gP:∀ x c,X.env.cells.lookup x=some c->H c=none
 pin:∀ p∈X.pn++pins,s.heap.get? p.1=some p.2/\H p.1=none/\p.1≠X.env.locals/\p.1∉X.fs/\∀ v,p.2.data≠.cell v
 aR:fe X.prog X.w H s.heap
 len:σ.length=X.N.length
section
variable {X:Cx} {pins:List (ae×Obj)} {σ:List (Option V)} {H H':Hp} {s:af} {h':Heap}
theorem Cx.Ok.GS(ok:X.Ok){b:ae}{o:Obj}(e:X.base.get? b=some o):b∉X.fs:=λhb=>by
 have:=(ok.iX.mem hb).1;rw[e] at this;cases this
theorem Inv.bs(I:Inv X pins σ H s):∀ b o,X.base.get? b=some o->s.heap.get? b=some o/\H b=none:=λb o e =>
 ⟨I.base.keep b o (I.ok.bs b o e).1 (I.ok.bs b o e).2 (I.ok.GS e) (I.ok.o8 b o e),I.base.free b o (I.ok.bs b o e).1 (I.ok.bs b o e).2 (I.ok.o8 b o e)⟩
theorem Inv.bk(I:Inv X pins σ H s):∀ b o,X.base.get? b=some o->s.heap.get? b=some o:=λb o e=>(I.bs b o e).1
theorem Inv.mod(I:Inv X pins σ H s):Mod X.K X.mg X.base:=I.ok.mod
theorem Inv.gY(I:Inv X pins σ H s):X.K.In s.heap:=I.ok.mod.wX.keeps I.bk
theorem Inv.nolimit(I:Inv X pins σ H s):s.heap.NoLimit:=I.ok.mod.nolimit.keeps I.bk
theorem Inv.lt(I:Inv X pins σ H s):X.env.locals<s.heap.objs.size:=let ⟨_,hn,_⟩:=I.loc;hn.lt
theorem Inv.sz(I:Inv X pins σ H s):X.s₀.heap.objs.size<=s.heap.objs.size:=vf I.ok.above (vw I.lt)
theorem Inv.GQ(I:Inv X pins σ H s){a:ae}(h:s.heap.objs.size<=a):a∉X.fs:=λhb=>by
 obtain⟨_,o,ho,_⟩:=I.ok.iX.mem hb;exact absurd (Uc (Ua ho) (vf I.sz h)) (Vh _)
theorem Inv.pS(I:Inv X pins σ H s):∀ x c,X.env.cells.lookup x=some c->c≠X.env.locals:=λx c e z=>by
 obtain⟨v,o,ho,hd⟩:=I.cell x c e;obtain⟨m,⟨o',es,ep,ka,An,_⟩,_⟩:=I.loc;rw[z,ka] at ho;cases ho;rw[An] at hd;cases hd
theorem Inv.iX(I:Inv X pins σ H s):s.heap.FunFrames X.base X.outer:=by
 have all:∀(l:List Env),(∀ b∈kZ l,b∈X.fs)->X.s₀.heap.FunFrames X.base l->s.heap.FunFrames X.base l:=by
  intro l
  induction l with
  |nil=>intro _ _;trivial
  |cons env r ih =>
   intro hs hl;obtain⟨hk,⟨L,o,hf,hn,ho,hd⟩,hr⟩:=hl;have hL:L∈X.fs:=hs L (by unfold kZ;rw[xy,hf];exact Ug);obtain⟨sl,e⟩:=I.base.slot L o ho (I.ok.Aw L hL) hL λz=>I.ok.Ay L z hL;exact⟨hk,⟨L,_,hf,hn,e,hd⟩,ih (λb hb=>hs b (by unfold kZ;rw[xy,hf];exact Wf _ hb)) hr⟩
 exact all X.outer (λ_ hb=>hb) I.ok.iX
theorem Inv.stack(I:Inv X pins σ H s):s.heap.FunFrames X.base X.stack:=by
 rcases I.ok.FU with e|⟨e,hf⟩
 ·rw[e];exact I.iX
 ·rw[e];obtain⟨m,hn,_⟩:=I.loc;refine .cons (by rw[I.ok.kind];decide) hf hn ?_ I.iX;exact UC (vf I.ok.pU I.ok.above)
theorem Inv.hX(I:Inv X pins σ H s):∀ b∈kZ X.stack,b∈X.env.locals::X.fs:=λb hb=>by
 rcases I.ok.FU with e|⟨e,hf⟩
 ·rw[e] at hb;exact Wf _ hb
 ·rw[e] at hb;unfold kZ at hb;rw[xy,hf] at hb;exact hb
theorem Inv.jB(I:Inv X pins σ H s):∀ b∈kZ X.stack,H b=none:=λb hb=>by
 rcases ua.mp (I.hX b hb) with e|hb
 ·rw[e];exact I.free
 ·obtain⟨_,o,ho,_⟩:=I.ok.iX.mem hb;exact I.base.free b o ho (I.ok.Aw b hb) λz=>I.ok.Ay b z hb
theorem Inv.step{g':Array j6}{t':Nat}{d':Drawn}{ch:List ae}(I:Inv X pins σ H s)
  (mM:∀ b∈ch,(b∈X.ex\/X.s₀.heap.objs.size<=b)/\b≠X.env.locals/\(∀ x c,X.env.cells.lookup x=some c->c≠b)/\∀ p∈X.pn++pins,p.1≠b)
  (keep:∀ b o,b≠X.env.locals->b∉X.fs->b∉ch->s.heap.get? b=some o->H b=none->h'.get? b=some o)
  (slot:∀ b o,b≠X.env.locals->b∈X.fs->b∉ch->s.heap.get? b=some o->H b=none->∃ sl,h'.get? b=some {o with slots:=sl}) (free:∀ b o,b∉ch->s.heap.get? b=some o->H b=none->H' b=none)
  (there:∀ b o,b∉ch->s.heap.get? b=some o->∃ o',h'.get? b=some o')
  (jd:∀ b xs,H b=some (.tup xs)->H' b=some (.tup xs)) (iY:∀ b o u,H b=some (.e8 o u)->H' b=some (.e8 o u)) (jf:∀ b ps,H b=some (.oQ ps)->∃ more,H' b=some (.oQ (ps++more)))
  (ns:∀ m,s.heap.Ns X.env.locals m->h'.Ns X.env.locals m) (aR:fe X.prog X.w H' h') (hg:dD g') :
  Inv X pins σ H' {s with heap:=h',gens:=g',drawn:=d',toks:=t'}:=by
 have Mf:∀ b o,X.s₀.heap.get? b=some o->b≠X.env.locals:=λb o e=>vb (Uc (Ua e) I.ok.above);have Cn:∀ b o,X.s₀.heap.get? b=some o->b∉X.ex->b∉ch:=λb o e hx hb=>by
  rcases(mM b hb).1 with z|z
  ·exact hx z
  ·exact absurd (Uc (Ua e) z) (Vh _)
 have cellK:∀ x c,X.env.cells.lookup x=some c->∀ v,s.heap.IsCell c v->h'.IsCell c v:=λx c e v ⟨o,ho,hd⟩=>by
  have wI:c∉ch:=λz=>(mM c z).2.2.1 x c e rfl;by_cases hc:c∈X.fs
  ·obtain⟨sl,q⟩:=slot c o (I.pS x c e) hc wI ho (I.gP x c e);exact⟨_,q,hd⟩
  ·exact⟨o,keep c o (I.pS x c e) hc wI ho (I.gP x c e),hd⟩
 refine⟨I.ok,I.os,hg,⟨λb o e n hb hx=>?_,λb o e n hb hx=>?_,λb o e n hx=>?_,λb o e hx=>?_,λb xs e=>jd b xs (I.base.jd b xs e),λb o xs e=>iY b o xs (I.base.iY b o xs e),λb ps e=>?_⟩,?_,λx c e=>?_,?_,λx c e=>?_,λp hp=>?_,aR,I.len⟩
 ·exact keep b o (Mf b o e) hb (Cn b o e hx) (I.base.keep b o e n hb hx) (I.base.free b o e n hx)
 ·obtain⟨sl,e1⟩:=I.base.slot b o e n hb hx;obtain⟨B5,e2⟩:=slot b _ (Mf b o e) hb (Cn b o e hx) e1 (I.base.free b o e n hx);exact⟨B5,e2⟩
 ·obtain⟨o',e1⟩:=I.base.there b o e hx;exact free b o' (Cn b o e hx) e1 (I.base.free b o e n hx)
 ·obtain⟨o',e1⟩:=I.base.there b o e hx;exact there b o' (Cn b o e hx) e1
 ·obtain⟨m1,e1⟩:=I.base.jf b ps e;obtain⟨m2,e2⟩:=jf b _ e1;exact⟨m1++m2,by rw[e2,Array.append_assoc]⟩
 ·obtain⟨m,hn,hl⟩:=I.loc;refine⟨m,ns m hn,λi x v e1 e2 e3=>?_⟩;obtain⟨u,r,l⟩:=hl i x v e1 e2 e3;refine⟨u,r,?_⟩
  rcases l with l|⟨k,c,e,z⟩
  ·exact .inl l
  ·exact .inr ⟨k,c,e,cellK x c e _ z⟩
 ·obtain⟨v,z⟩:=I.cell x c e;exact⟨v,cellK x c e v z⟩
 ·obtain⟨m,⟨o,_,_,ho,_⟩,_⟩:=I.loc;exact free _ o (λz=>(mM _ z).2.1 rfl) ho I.free
 ·obtain⟨v,o,ho,hd⟩:=I.cell x c e;exact free c o (λz=>(mM c z).2.2.1 x c e rfl) ho (I.gP x c e)
 ·obtain⟨e,n,ne,nf,d⟩:=I.pin p hp;have wI:p.1∉ch:=λz=>(mM p.1 z).2.2.2 p hp rfl;exact⟨keep p.1 p.2 ne nf wI e n,free p.1 p.2 wI e n,ne,nf,d⟩
theorem Inv.un{t':Nat}(I:Inv X pins σ H s)(u:Un X.fs [] H H' s.heap h')(aR:fe X.prog X.w H' h'):Inv X pins σ H' {s with heap:=h',toks:=t'}:=by
 obtain⟨m,⟨o,es,ep,ho,r⟩,_⟩:=id I.loc;obtain⟨sl,hL⟩:=u.any ho I.free (by simp);exact I.step (g':=s.gens) (d':=s.drawn) (ch:=[]) (λ_ z=>nomatch z) (λb o _ hb _ e n=>u.keep b o e n hb (by simp)) (λb o _ hb _ e n=>u.slot b o e n hb (by simp)) (λb o _ e n=>u.free b o e n (by simp)) (λb o _ e=>u.there b o e (by simp)) u.jd u.iY u.jf (λm' hm=>by
  obtain⟨o',Ig,Ii,ka,r'⟩:=hm;rw[ho] at ka;cases ka;exact⟨_,Ig,Ii,hL,r'⟩) aR I.bare
theorem Inv.call{g':Array j6}{t':Nat}{d':Drawn}{ch:List ae}(I:Inv X pins σ H s)(u:Un (kZ X.stack) ch H H' s.heap h')(aR:fe X.prog X.w H' h')(hg:dD g')
  (mM:∀ b∈ch,(b∈X.ex\/X.s₀.heap.objs.size<=b)/\b≠X.env.locals/\(∀ x c,X.env.cells.lookup x=some c->c≠b)/\∀ p∈X.pn++pins,p.1≠b) :
  Inv X pins σ H' {s with heap:=h',gens:=g',drawn:=d',toks:=t'}:=by
 obtain⟨m,⟨o,es,ep,ho,r⟩,_⟩:=id I.loc;obtain⟨sl,hL⟩:=u.any ho I.free λz=>(mM _ z).2.1 rfl;exact I.step (ch:=ch) mM (λb o hL hb hc e n=>u.keep b o e n (λz=>(ua.mp (I.hX b z)).elim hL hb) hc) (λb o _ _ hc e n=>u.any e n hc) (λb o hc e n=>u.free b o e n hc) (λb o hc e=>u.there b o e hc) u.jd u.iY u.jf (λm' hm=>by
  obtain⟨o',Ig,Ii,ka,r'⟩:=hm;rw[ho] at ka;cases ka;exact⟨_,Ig,Ii,hL,r'⟩) aR hg
theorem Inv.turned{t':Nat}{it:ae}(I:Inv X pins σ H s)(k:∀ b o,b≠it->s.heap.get? b=some o->h'.get? b=some o)(hn:H it=none)(hL:it≠X.env.locals)
  (h1:it∈X.ex\/X.s₀.heap.objs.size<=it) (h2:∀ x c,X.env.cells.lookup x=some c->c≠it) (h3:∀ p∈X.pn++pins,p.1≠it):Inv X pins σ H {s with heap:=h',toks:=t'}:=by
 have Me:∀ b u,H b=some u->b≠it:=λb u e z=>by rw[z,hn] at e;cases e
 refine I.step (g':=s.gens) (d':=s.drawn) (ch:=[it]) (λb hb=>?_) (λb o _ _ hc e _=>k b o (λz=>hc (by simp[z])) e) (λb o _ _ hc e _=>⟨o.slots,k b o (λz=>hc (by simp[z])) e⟩) (λ_ _ _ _ n=>n)
  (λb o hc e=>⟨o,k b o (λz=>hc (by simp[z])) e⟩) (λ_ _ e=>e) (λ_ _ _ e=>e) (λb ps e=>⟨#[],by rw[e];simp⟩) (λm hm=>?_) (λb u e=>?_) I.bare
 ·have e:b=it:=by simpa using hb
  subst e;exact⟨h1,hL,h2,h3⟩
 ·obtain⟨o,es,ep,ho,r⟩:=hm;exact⟨o,es,ep,k _ o (Ne.symm hL) ho,r⟩
 ·refine(I.aR b u e).iO (λc v hc q=>k c v ?_ q) (λ_ q=>q) λ_ _ q=>q
  rcases hc with z|z
  ·rw[z];exact Me b u e
  ·exact Me c _ z
theorem Inv.tok(I:Inv X pins σ H s)(t:Nat):Inv X pins σ H {s with toks:=t}:=I.un (h':=s.heap) (t':=t) Un.refl I.aR
theorem Inv.kept{t':Nat}(I:Inv X pins σ H s)(k:∀ b u,s.heap.get? b=some u->h'.get? b=some u):Inv X pins σ H {s with heap:=h',toks:=t'}:=I.un (Un.kept k) (I.aR.kept k)
theorem Inv.laid{a:ae}{o:HO}{t':Nat}(I:Inv X pins σ H s)(k:∀ b u,s.heap.get? b=some u->h'.get? b=some u)(hp:s.heap.objs.size<=a)(new:bf X.prog X.w (upd H a o) h' a o) :
  Inv X pins σ (upd H a o) {s with heap:=h',toks:=t'}:=I.un (Un.laid k hp (I.aR.fresh hp)) (I.aR.laid k hp new)
theorem Inv.write{x e:ae}{o:HO}{t':Nat}(I:Inv X pins σ H s)(mu:Bp (H x))(he:e=x\/H e=some (.own x))(k:∀ b u,b≠e->s.heap.get? b=some u->h'.get? b=some u)(rT:∃ u,h'.get? e=some u)
  (new:bf X.prog X.w (upd H x o) h' x o):Inv X pins σ (upd H x o) {s with heap:=h',toks:=t'}:=I.un (Un.write mu he k rT) (I.aR.write mu he k rT new)
theorem Inv.pins_of{om:List (ae×Obj)}(I:Inv X pins σ H s)(h:∀ p∈om,s.heap.get? p.1=some p.2/\H p.1=none/\p.1≠X.env.locals/\p.1∉X.fs/\∀ v,p.2.data≠.cell v):Inv X om σ H s :=
 ⟨I.ok,I.os,I.bare,I.base,I.loc,I.cell,I.free,I.gP,λp hp=>(Xf.mp hp).elim (λz=>I.pin p (Xi _ z)) (h p),I.aR,I.len⟩
theorem KJ{N:List Str}(hN:N.Nodup){i j:Nat}{x:Str}(a:N[i]?=some x)(b:N[j]?=some x):i=j:=by
 obtain⟨h1,e1⟩:=Xa.mp a;obtain⟨h2,e2⟩:=Xa.mp b;exact(List.getElem_inj hN).mp (e1.trans e2.symm)
theorem zb5{M:Model}{A:aw}{E:aa->af->Prop}{i:Nat}{x:Str}{v:V}{u:aa}{Q:Unit->af->Prop}(I:Inv X pins σ H s)(hN:X.N.Nodup)(hi:X.N[i]?=some x)(hx:Loc X.env.scope x)(r:RelV v u)
  (h:∀ s',Inv X pins (σ.set i (some v)) H s'->(∃ a,Heap.SameBut a s.heap s'.heap/\(a=X.env.locals\/X.env.cells.lookup x=some a))->Q () s') (hf:X.fn x=true\/X.env.scope.names.lookup x=some .local:=by first|exact .inl rfl|exact .inr rfl|assumption):ah M A (storeName X.env x u) Q E s:=by
 obtain⟨m,hn,hl⟩:=id I.loc;have HJ:(X.env.scope.kind == .class||(X.env.scope.kind == .module&&X.env.locals != X.env.globals))=false:=by rw[I.ok.kind];rfl
 have MB:i<σ.length:=by rw[I.len];exact(Xa.mp hi).1
 have pS:=I.pS;have tracked:∀{a:ae}{h':Heap},(∃ o,s.heap.get? a=some o/\H a=none)->Heap.SameBut a s.heap h'->fe X.prog X.w H h':=λ{a h'} ha hs b ob e=>by
  obtain⟨_,_,iV⟩:=ha;refine(I.aR b ob e).iO (λc w' hc q=>(hs.2 c ?_).trans q) (λ_ q=>q) λ_ _ q=>q;rintro rfl
  rcases hc with rfl|hc
  ·rw[iV] at e;cases e
  ·rw[iV] at hc;cases hc
 rcases hx with hk|hk
 ·refine wpAny_storeName_local hk hn (λh' hn' hs=>?_) HJ;obtain⟨oL,_,_,hoL,_⟩:=id hn;refine h _ ⟨I.ok,I.os,I.bare,⟨λb o e n hb hx=>?_,λb o e n hb hx=>?_,I.base.free,λb o e hx=>?_,I.base.jd,I.base.iY,I.base.jf⟩,⟨_,hn',λj y v' e1 e2 e3=>?_⟩,λy c e=>?_,I.free,I.gP,λp hp=>?_,tracked ⟨oL,hoL,I.free⟩ hs,by simpa using I.len⟩ ⟨_,hs,.inl rfl⟩
  ·exact(hs.2 b (vb (Uc (Ua e) I.ok.above))).trans (I.base.keep b o e n hb hx)
  ·obtain⟨sl,e1⟩:=I.base.slot b o e n hb hx;exact⟨sl,(hs.2 b (vb (Uc (Ua e) I.ok.above))).trans e1⟩
  ·obtain⟨o',e1⟩:=I.base.there b o e hx;exact⟨o',(hs.2 b (vb (Uc (Ua e) I.ok.above))).trans e1⟩
  ·by_cases hj:j=i
   ·subst hj;rw[hi] at e1;cases e1;rw[Xj MB] at e2;cases e2;exact⟨u,r,.inl ⟨hk,by simp⟩⟩
   ·rw[ui (Ne.symm hj)] at e2;obtain⟨u',r',q⟩:=hl j y v' e1 e2 e3;refine⟨u',r',?_⟩
    rcases q with ⟨k,e⟩|⟨k,c,e,z⟩
    ·refine .inl ⟨k,?_⟩;have:y≠x:=λe=>hj (KJ hN e1 (e ▸ hi));simp[this,e]
    ·exact .inr ⟨k,c,e,z.sameBut hs (pS y c e)⟩
  ·obtain⟨w',z⟩:=I.cell y c e;exact⟨w',z.sameBut hs (pS y c e)⟩
  ·obtain⟨e,n,ne,nf,d⟩:=I.pin p hp;exact⟨(hs.2 p.1 ne).trans e,n,ne,nf,d⟩
 ·have HB:X.fn x=true:=by
   rcases hf with z|z
   ·exact z
   ·rw[z] at hk;cases hk
  obtain⟨c,hc⟩:=I.ok.has x (.inl hk);obtain⟨w',z⟩:=I.cell x c hc;refine wpAny_storeName_cell I.ok.kind hk hc z (λh' eF hs=>?_);obtain⟨oc,Mx,Hg⟩:=id z;refine h {s with heap:=h'} ⟨I.ok,I.os,I.bare,⟨λb o e n hb hx=>?_,λb o e n hb hx=>?_,I.base.free,λb o e hx=>?_,I.base.jd,I.base.iY,I.base.jf⟩,⟨m,hn.sameBut hs (Ne.symm (pS x c hc)),λj y v' e1 e2 e3=>?_⟩,λy c' e=>?_,I.free,I.gP,λp hp=>?_,tracked ⟨oc,Mx,I.gP x c hc⟩ hs,by simpa using I.len⟩ ⟨c,hs,.inr hc⟩
  ·exact(hs.2 b (vb (Uc (Ua e) (I.ok.Iz x c HB hc)))).trans (I.base.keep b o e n hb hx)
  ·obtain⟨sl,e1⟩:=I.base.slot b o e n hb hx;exact⟨sl,(hs.2 b (vb (Uc (Ua e) (I.ok.Iz x c HB hc)))).trans e1⟩
  ·obtain⟨o',e1⟩:=I.base.there b o e hx;exact⟨o',(hs.2 b (vb (Uc (Ua e) (I.ok.Iz x c HB hc)))).trans e1⟩
  ·by_cases hj:j=i
   ·subst hj;rw[hi] at e1;cases e1;rw[Xj MB] at e2;cases e2;exact⟨u,r,.inr ⟨.inl hk,c,hc,eF⟩⟩
   ·rw[ui (Ne.symm hj)] at e2;obtain⟨u',r',q⟩:=hl j y v' e1 e2 e3;refine⟨u',r',?_⟩
    rcases q with q|⟨k,c',e,z'⟩
    ·exact .inl q
    ·refine .inr ⟨k,c',e,z'.sameBut hs ?_⟩;rintro rfl;exact hj (KJ hN e1 (I.ok.inj _ _ _ e hc ▸ hi))
  ·by_cases pK:c'=c
   ·subst pK;exact⟨_,eF⟩
   ·obtain⟨w2,z2⟩:=I.cell y c' e;exact⟨w2,z2.sameBut hs pK⟩
  ·obtain⟨e,n,ne,nf,d⟩:=I.pin p hp;refine⟨(hs.2 p.1 ?_).trans e,n,ne,nf,d⟩;intro q;rw[q,Mx] at e;have q':oc=p.2:=Option.some.inj e;exact d w' (by rw[<- q'];exact Hg)
theorem Zcm{M:Model}{A:aw}{E:aa->af->Prop}{i:Nat}{x:Str}{v:V}{u:aa}{Q:Unit->af->Prop}(I:Inv X pins σ H s)(hN:X.N.Nodup)(hi:X.N[i]?=some x)(hx:Loc X.env.scope x)(r:RelV v u)
  (h:∀ s',Inv X pins (σ.set i (some v)) H s'->Q () s') (hf:X.fn x=true\/X.env.scope.names.lookup x=some .local:=by first|exact .inl rfl|exact .inr rfl|assumption):ah M A (storeName X.env x u) Q E s :=
 zb5 I hN hi hx r (λs' I' _=>h s' I') hf
theorem Inv.oA{s':af}{ch:List ae}(I:Inv X pins σ H s)(ho:s'.os=s.os)(u:Un (kZ X.stack) ch H H' s.heap s'.heap)(aR:fe X.prog X.w H' s'.heap)(hg:dD s'.gens)
  (mM:∀ b∈ch,(b∈X.ex\/X.s₀.heap.objs.size<=b)/\b≠X.env.locals/\(∀ x c,X.env.cells.lookup x=some c->c≠b)/\∀ p∈X.pn++pins,p.1≠b):Inv X pins σ H' s':=by
 obtain⟨h',g',d',t',o'⟩:=s';have e:o'=s.os:=ho;subst e;exact I.call (g':=g') (t':=t') (d':=d') u aR hg mM
end
noncomputable abbrev XK:=aa->Option ae->Hp->Prop
noncomputable abbrev St:=List (Option V)
noncomputable abbrev VK:=V->Hp->Prop
noncomputable abbrev TE:=St->Hp->VK->Prop
noncomputable abbrev TT:=St->Hp->(Bool->Hp->Prop)->Prop
noncomputable abbrev TA:=St->Hp->(List V->Hp->Prop)->Prop
structure Ends where
 nx:St->Hp->Prop
 rt:VK
 bk:St->Hp->Prop:=λ_ _=>False
 ct:St->Hp->Prop:=λ_ _=>False
noncomputable abbrev TS:=Ends->St->Hp->Prop
noncomputable def EP(X:Cx)(pins:List (ae×Obj))(σ:St)(Q:VK)(u:aa)(s':af):Prop:=∃ v H',Inv X pins σ H' s'/\RelV v u/\Q v H'
noncomputable def TP(X:Cx)(pins:List (ae×Obj))(σ:St)(Q:Bool->Hp->Prop)(b:Bool)(s':af):Prop:=∃ H',Inv X pins σ H' s'/\Q b H'
noncomputable def AP(X:Cx)(pins:List (ae×Obj))(σ:St)(Q:List V->Hp->Prop)(us:List aa)(s':af):Prop:=∃ vs H',Inv X pins σ H' s'/\Vals vs us/\Q vs H'
noncomputable def SP(X:Cx)(pins:List (ae×Obj))(D:Ends)(f:Flow)(s':af):Prop :=
 match f with
 |.next=>∃ σ' H',Inv X pins σ' H' s'/\D.nx σ' H'
 |.brk=>∃ σ' H',Inv X pins σ' H' s'/\D.bk σ' H'
 |.cont=>∃ σ' H',Inv X pins σ' H' s'/\D.ct σ' H'
 |.ret u=>∃ v σ' H',Inv X pins σ' H' s'/\RelV v u/\D.rt v H'
noncomputable def PE(X:Cx)(e:Expr)(t:TE):Prop :=
 ∀(pins:List (ae×Obj)) (s:af) (σ:St) (H:Hp) (Q:VK),Inv X pins σ H s->t σ H Q->ah (ak X.prog X.w) X.A (eval e X.env) (EP X pins σ Q) X.xe s
noncomputable def PT(X:Cx)(e:Expr)(t:TT):Prop :=
 ∀(pins:List (ae×Obj)) (s:af) (σ:St) (H:Hp) (Q:Bool->Hp->Prop),Inv X pins σ H s->t σ H Q->ah (ak X.prog X.w) X.A (jH e X.env (eval e X.env)) (TP X pins σ Q) X.xe s
noncomputable def PW(X:Cx)(e:Expr)(t:TT):Prop :=
 ∀(whole:Sem aa)(pins:List (ae×Obj)) (s:af) (σ:St) (H:Hp) (Q:Bool->Hp->Prop),Inv X pins σ H s->t σ H Q->ah (ak X.prog X.w) X.A (jH e X.env whole) (TP X pins σ Q) X.xe s
theorem PW.pt{X:Cx}{e:Expr}{t:TT}(h:PW X e t):PT X e t:=h _
noncomputable def PA(X:Cx)(es:List Expr)(t:TA):Prop :=
 ∀(pos:Pos)(pins:List (ae×Obj)) (s:af) (σ:St) (H:Hp) (Q:List V->Hp->Prop),Inv X pins σ H s->t σ H Q->ah (ak X.prog X.w) X.A (spliced (bh pos (au es X.env))) (AP X pins σ Q) X.xe s
noncomputable def PS(X:Cx)(st:Stmt)(t:TS):Prop :=
 ∀(pins:List (ae×Obj)) (s:af) (σ:St) (H:Hp) (D:Ends),Inv X pins σ H s->t D σ H->ah (ak X.prog X.w) X.A (exec st X.env) (SP X pins D) X.xe s
noncomputable def gV(X:Cx)(st:List Stmt)(t:TS):Prop :=
 ∀(pins:List (ae×Obj)) (s:af) (σ:St) (H:Hp) (D:Ends),Inv X pins σ H s->t D σ H->ah (ak X.prog X.w) X.A (execs st X.env) (SP X pins D) X.xe s
theorem bg{α:Type}{t:Sem α}{Q Q':α->af->Prop}{M:Model}{A:aw}{E:aa->af->Prop}{s:af}(h:ah M A t Q E s)(hQ:∀ a s,Q a s->Q' a s):ah M A t Q' E s:=aS h hQ λ_ _ x=>x
section
variable {X:Cx}
theorem bin{a b:Expr}{ta tb:TE}(ha:PE X a ta)(hb:PE X b tb){pins:List (ae×Obj)}{s:af}{σ:St}{H:Hp}{R:V->V->Hp->Prop}(I:Inv X pins σ H s)(h:ta σ H λx H1=>tb σ H1 λy H2=>R x y H2)
  {α:Type} {Q:α->af->Prop} {f:aa->aa->Sem α}
  (hf:∀ v u s2 x y H2,Inv X pins σ H2 s2->RelV x v->RelV y u->R x y H2->ah (ak X.prog X.w) X.A (f v u) Q X.xe s2) :
  ah (ak X.prog X.w) X.A (eval a X.env) (λv s₁=>ah (ak X.prog X.w) X.A (eval b X.env) (λu s₂=>ah (ak X.prog X.w) X.A (f v u) Q X.xe s₂) X.xe s₁) X.xe s:=by
 refine bg (ha pins s σ H _ I h) λv s1 ⟨x,H1,I1,r1,q1⟩=>?_;refine bg (hb pins s1 σ H1 _ I1 q1) λu s2 ⟨y,H2,I2,r2,q2⟩=>?_;exact hf v u s2 x y H2 I2 r1 r2 q2
noncomputable def FG(i:Nat):TE:=λσ H Q=>∃ v,σ[i]?=some (some v)/\Q v H
noncomputable def tC(v:V):TE:=λ_ H Q=>Q v H
theorem J8{i:Nat}{x:Str}{pos:Pos}(hN:X.N[i]?=some x)(hv:Oj X.env.scope x)(hd:(x==("__debug__":Str))=false:=by decide)(jq:(x==("__classdict__":Str))=false:=by decide):PE X (.Name x pos) (FG i):=by
 intro pins s σ H Q I h;obtain⟨v,e,h⟩:=h;obtain⟨m,hn,hl⟩:=I.loc;obtain⟨u,r,l⟩:=hl i x v hN e hv;have fin:EP X pins σ Q u s:=⟨v,H,I,r,h⟩
 rcases l with ⟨hk,hm⟩|⟨hk,c,hc,j0⟩
 ·exact eV (fy I.ok.kind hk hn hm fin) hd
 ·rcases hk with hk|hk
  ·exact eV (wpAny_loadName_cell I.ok.kind hk hc j0 fin) hd
  ·exact eV (fO I.ok.kind hk hc j0 fin jq) hd
theorem J4{i j pos}:PE X (.Constant (.int i) j pos) (tC (.int i)):=λ_ _ _ H _ I h=>gf ⟨.int i,H,I.tok _,⟨_,rfl⟩,h⟩
theorem B'{b j pos}:PE X (.Constant (.bool b) j pos) (tC (.bl b)):=λ_ _ _ H _ I h=>Constant_bool ⟨.bl b,H,I,rfl,h⟩
theorem Zdi{j pos}:PE X (.Constant .none j pos) (tC .bI):=λ_ _ _ H _ I h=>gb ⟨.bI,H,I,rfl,h⟩
theorem zdj{x j pos}:PE X (.Constant (.str x) j pos) (tC (.str x)):=λ_ _ _ H _ I h=>Calls.Constant_str ⟨.str x,H,I.tok _,⟨_,rfl⟩,h⟩
noncomputable def Gl(X:Cx)(x:Str):Prop:=X.env.kindOf x=some .globalImplicit
theorem BV{E:aa->af->Prop}{pins:List (ae×Obj)}{s:af}{σ:St}{H:Hp}{x:Str}{u:aa}{pos:Pos}{Q:aa->af->Prop}(I:Inv X pins σ H s)(hg:Gl X x)(hm:X.mg x=some u)(h:Q u s)
  (hd:(x==("__debug__":Str))=false:=by decide):ah (ak X.prog X.w) X.A (eval (.Name x pos) X.env) Q E s :=
 Calls.Name_function_global I.ok.kind hg (Calls.loadGlobal_global (by rw[I.ok.glob];exact I.mod.glob.keeps I.bk) hm h) hd
theorem p9{E:aa->af->Prop}{pins:List (ae×Obj)}{s:af}{σ:St}{H:Hp}{x:Str}{u:aa}{pos:Pos}{Q:aa->af->Prop}(I:Inv X pins σ H s)(hg:Gl X x)(hm:X.mg x=none)(hv:bD x=some u)(h:Q u s)
  (hn:x≠"__name__":=by decide) (hd:(x==("__debug__":Str))=false:=by decide):ah (ak X.prog X.w) X.A (eval (.Name x pos) X.env) Q E s:=by
 obtain⟨mb,h1,h2⟩:=I.mod.blt;exact Calls.Name_function_global I.ok.kind hg (Calls.loadGlobal_builtin (by rw[I.ok.glob];exact I.mod.glob.keeps I.bk) hm (by rw[I.ok.blt];exact h1.keeps I.bk) ((h2 x hn).trans hv) h) hd
theorem Ke{x:Str}{v:V}{u:aa}{pos:Pos}(hg:Gl X x)(hm:X.mg x=some u)(r:RelV v u)(hd:(x==("__debug__":Str))=false:=by decide):PE X (.Name x pos) (tC v) :=
 λ_ _ _ H _ I h=>BV I hg hm ⟨v,H,I,r,h⟩ hd
theorem zcP{x:Str}{v:V}{u:aa}{pos:Pos}(hg:Gl X x)(hm:X.mg x=none)(hv:bD x=some u)(r:RelV v u)(hn:x≠"__name__":=by decide)(hd:(x==("__debug__":Str))=false:=by decide):PE X (.Name x pos) (tC v) :=
 λ_ _ _ H _ I h=>p9 I hg hm hv ⟨v,H,I,r,h⟩ hn hd
variable {a b:Expr} {ta tb:TE} {pos:Pos}
noncomputable def PC(X:Cx)(op:fH)(a b:Expr)(t:TE):Prop :=
 ∀(pins:List (ae×Obj)) (s:af) (σ:St) (H:Hp) (Q:VK),Inv X pins σ H s->t σ H Q ->
  ah (ak X.prog X.w) X.A (eval a X.env) (λv s₁=>ah (ak X.prog X.w) X.A (eval b X.env) (λu s₂=>ah (ak X.prog X.w) X.A (aL op v u) (EP X pins σ Q) X.xe s₂) X.xe s₁) X.xe s
theorem Nm(b:Expr){op:fH}(h:op≠.In)(h2:op≠.NotIn):bE op b=false:=by
 have e1:(op==fH.In)=false:=by cases op <;> first|rfl|exact absurd rfl h
 have e2:(op==fH.NotIn)=false:=by cases op <;> first|rfl|exact absurd rfl h2
 cases b <;> simp[bE,e1,e2]
noncomputable def FO(ta:TE):TE:=λσ H Q=>ta σ H λx H1=>Q (.bl (decide (x=.bI))) H1
noncomputable def tI(ta:TE):TE:=λσ H Q=>ta σ H λx H1=>Q (.bl (!decide (x=.bI))) H1
theorem RelV.none_iff{x:V}{v:aa}(r:RelV x v):(v==aa.none)=decide (x=.bI):=by
 cases x with
 |bI=>cases r;rfl
 |bl _=>cases r;rfl
 |int _=>obtain⟨t,rfl⟩:=r;rfl
 |str _=>obtain⟨t,rfl⟩:=r;rfl
 |A1 _=>obtain⟨t,rfl⟩:=r;rfl
 |ow _=>obtain⟨t,rfl⟩:=r;rfl
 |ref _=>cases r;rfl
 |ty _=>cases r;rfl
theorem NO{j pos'}(ha:PE X a ta):PC X .Is a (.Constant .none j pos') (FO ta):=by
 intro pins s σ H Q I h;refine bg (ha pins s σ H _ I h) λv s1 ⟨x,H1,I1,r1,q1⟩=>?_;exact gb (is_none_gen ⟨.bl _,H1,I1,by rw[r1.none_iff];rfl,q1⟩)
theorem KU{j pos'}(ha:PE X a ta):PC X .IsNot a (.Constant .none j pos') (tI ta):=by
 intro pins s σ H Q I h;refine bg (ha pins s σ H _ I h) λv s1 ⟨x,H1,I1,r1,q1⟩=>?_;exact gb (isnot_none_gen ⟨.bl _,H1,I1,by rw[r1.none_iff];rfl,q1⟩)
noncomputable def tB(t:TE):TT:=λσ H Q=>t σ H λx H1=>∃ c,x=.bl c/\Q c H1
theorem Er{op:fH}{t:TE}(h:PC X op a b t)(h1:bE op b=false:=by first|exact Nm _ (by decide) (by decide)|rfl):PE X (.Compare a [op] [b] pos) t:=λpins s σ H Q I hw=>iJ (h pins s σ H Q I hw) h1
theorem Ep{op:fH}{t:TE}(h:PC X op a b t)(h1:bE op b=false:=by first|exact Nm _ (by decide) (by decide)|rfl):PT X (.Compare a [op] [b] pos) (tB t):=by
 intro pins s σ H Q I hw;refine fj (bg (h pins s σ H _ I hw) λv s1 h1=>bg h1 λu s2 h2=>bg h2 λc s3 ⟨x,H1,I1,r1,q1⟩=>?_) h1;obtain⟨d,rfl,q⟩:=q1;cases r1;exact aG ⟨H1,I1,q⟩
theorem qdj{e:Expr}{t:TE}(h:PE X e t)(he:∀ whole,jH e X.env whole=(do let v<-whole;iD e.pos;ck [v] (truthy v)):=by intro _;rfl):PT X e (tB t):=by
 intro pins s σ H Q I hw;refine isTrue_plain (bg (h pins s σ H _ I hw) λv s1 ⟨x,H1,I1,r1,q1⟩=>?_) (he _);obtain⟨d,rfl,q⟩:=q1;cases r1;exact aG ⟨H1,I1,q⟩
variable {tA B0:TT} {rest:List Expr}
noncomputable def FR(t u:TT):TT:=λσ H Q=>t σ H λc H1=>if c=true then u σ H1 Q else Q false H1
noncomputable def tOr(t u:TT):TT:=λσ H Q=>t σ H λc H1=>if c=true then Q true H1 else u σ H1 Q
noncomputable def FL(t:TT):TT:=λσ H Q=>t σ H λc H1=>Q (!c) H1
theorem zcV(ha:PT X a tA):PW X (.BoolOp .And [a] pos) tA:=by
 intro wh pins s σ H Q I h;refine isTrue_and (bg (ha pins s σ H Q I h) λc s1 e=>?_);cases c with
 |true=>exact isTrue_and_nil e
 |false=>exact e
theorem Zc6(ha:PT X a tA):PW X (.BoolOp .Or [a] pos) tA:=by
 intro wh pins s σ H Q I h;refine isTrue_or (bg (ha pins s σ H Q I h) λc s1 e=>?_);cases c with
 |false=>exact isTrue_or_nil e
 |true=>exact e
theorem yc4(ha:PT X a tA)(hb:PW X (.BoolOp .And (b::rest) pos) B0):PW X (.BoolOp .And (a::b::rest) pos) (FR tA B0):=by
 intro wh pins s σ H Q I h;refine isTrue_and (bg (ha pins s σ H _ I h) λc s1 ⟨H1,I1,q1⟩=>?_);cases c with
 |true=>exact hb wh pins s1 σ H1 Q I1 q1
 |false=>exact⟨H1,I1,q1⟩
theorem uY(ha:PT X a tA)(hb:PW X (.BoolOp .Or (b::rest) pos) B0):PW X (.BoolOp .Or (a::b::rest) pos) (tOr tA B0):=by
 intro wh pins s σ H Q I h;refine isTrue_or (bg (ha pins s σ H _ I h) λc s1 ⟨H1,I1,q1⟩=>?_);cases c with
 |true=>exact⟨H1,I1,q1⟩
 |false=>exact hb wh pins s1 σ H1 Q I1 q1
theorem Ydg(ha:PT X a tA):PT X (.UnaryOp .Not a pos) (FL tA):=by
 intro pins s σ H Q I h;exact isTrue_not (ha pins s σ H (λc H1=>Q (!c) H1) I h)
noncomputable def tR(ta tb:TE):TE:=λσ H Q=>ta σ H λx H1=>∃ c,x=.bl c/\if c=true then tb σ H1 Q else Q (.bl false) H1
noncomputable def FK(ta tb:TE):TE:=λσ H Q=>ta σ H λx H1=>∃ c,x=.bl c/\if c=true then Q (.bl true) H1 else tb σ H1 Q
noncomputable def tH(ta:TE):TE:=λσ H Q=>ta σ H λx H1=>∃ c,x=.bl c/\Q (.bl (!c)) H1
theorem Lz{op}{t:TE}(h:PE X a t):PE X (.BoolOp op [a] pos) t:=λpins s σ H Q I hw=>BoolOp_one (h pins s σ H Q I hw)
theorem Qc7(ha:PE X a ta)(hb:PE X (.BoolOp .And (b::rest) pos) tb):PE X (.BoolOp .And (a::b::rest) pos) (tR ta tb):=by
 intro pins s σ H Q I h;refine BoolOp_and (bg (ha pins s σ H _ I h) λv s1 ⟨x,H1,I1,r1,q1⟩=>?_);obtain⟨c,rfl,q1⟩:=q1;cases r1;refine aG ?_;cases c with
 |true=>exact hb pins s1 σ H1 Q I1 q1
 |false=>exact⟨.bl false,H1,I1,rfl,q1⟩
theorem u9(ha:PE X a ta)(hb:PE X (.BoolOp .Or (b::rest) pos) tb):PE X (.BoolOp .Or (a::b::rest) pos) (FK ta tb):=by
 intro pins s σ H Q I h;refine BoolOp_or (bg (ha pins s σ H _ I h) λv s1 ⟨x,H1,I1,r1,q1⟩=>?_);obtain⟨c,rfl,q1⟩:=q1;cases r1;refine aG ?_;cases c with
 |false=>exact hb pins s1 σ H1 Q I1 q1
 |true=>exact⟨.bl true,H1,I1,rfl,q1⟩
theorem qc9(ha:PE X a ta):PE X (.UnaryOp .Not a pos) (tH ta):=by
 intro pins s σ H Q I h;refine UnaryOp_ (bg (ha pins s σ H _ I h) λv s1 ⟨x,H1,I1,r1,q1⟩=>?_);obtain⟨c,rfl,q1⟩:=q1;cases r1;exact not_of (aG ⟨.bl (!c),H1,I1,rfl,q1⟩)
noncomputable def tIf(t:TT)(ta tb:TE):TE:=λσ H Q=>t σ H λc H1=>if c=true then ta σ H1 Q else tb σ H1 Q
theorem Qco{c:Expr}(hc:PT X c tA)(ha:PE X a ta)(hb:PE X b tb):PE X (.IfExp c a b pos) (tIf tA ta tb):=by
 intro pins s σ H Q I h;refine wpAny_IfExp (bg (hc pins s σ H _ I h) λd s1 ⟨H1,I1,q1⟩=>?_);cases d with
 |true=>exact ha pins s1 σ H1 Q I1 q1
 |false=>exact hb pins s1 σ H1 Q I1 q1
end
noncomputable def fq(K:PySem.W.Frag)(H:Hp)(a:ae)(xs:List V):Prop :=
 Rd H a (.lst xs) \/
  ∃(o:Obj)(aA:Array aa)(n:Nat),K.lookup a=some o/\o.cls=.type "list"/\o.dict=none/\o.data=.seq aA n/\aA.size<=sizeLine/\Vals xs aA.toList
noncomputable def fU(K:PySem.W.Frag)(H:Hp)(a:ae)(xs:List V):Prop :=
 Rd H a (.tup xs) \/
  ∃(o:Obj)(aA:Array aa)(n:Nat),K.lookup a=some o/\o.cls=.type "tuple"/\o.data=.seq aA n/\aA.size<=sizeLine/\Vals xs aA.toList
noncomputable def ID:aa->Option V
 |.none=>some .bI
 |.bool b=>some (.bl b)
 |.int i _=>some (.int i)
 |.str x _=>some (.str x)
 |.bytes b _=>some (.A1 b)
 |.float b _=>some (.ow b)
 |.ref a=>some (.ref a)
 |.type n=>some (.ty n)
 |_=>none
theorem RelV.abs{x:V}{u:aa}(r:RelV x u):ID u=some x:=by
 cases x with
 |bI=>cases r;rfl
 |bl _=>cases r;rfl
 |int _=>obtain⟨t,rfl⟩:=r;rfl
 |str _=>obtain⟨t,rfl⟩:=r;rfl
 |A1 _=>obtain⟨t,rfl⟩:=r;rfl
 |ow _=>obtain⟨t,rfl⟩:=r;rfl
 |ref _=>cases r;rfl
 |ty _=>cases r;rfl
theorem RelV.inj{x y:V}{u:aa}(r:RelV x u)(q:RelV y u):x=y:=Option.some.inj (r.abs.symm.trans q.abs)
theorem Vals.inj:∀{xs ys:List V}{us:List aa},Vals xs us->Vals ys us->xs=ys
 |_,_,_,.nil,.nil=>rfl
 |_,_,_,.cons r t,.cons r' t'=>by rw[r.inj r',Vals.inj t t']
section
variable {X:Cx} {pins:List (ae×Obj)} {σ:St} {H:Hp} {s:af} {a:ae} {xs ys:List V}
theorem fq.of{K:PySem.W.Frag}(h:H a=some (.lst xs)):fq K H a xs:=.inl (.inl h)
theorem fU.of{K:PySem.W.Frag}(h:H a=some (.tup xs)):fU K H a xs:=.inl (.inl h)
theorem Inv.list(I:Inv X pins σ H s)(h:fq X.K H a xs):∃ aA:List aa,Vals xs aA/\PlainL s.heap a aA.toArray/\xs.length<=sizeLine:=by
 rcases h with h|⟨o,aA,n,hk,hc,hd,hs,hz,r⟩
 ·obtain⟨z,aA,n,r,e⟩:=h.ok I.aR;exact⟨aA,r,⟨_,n,e,rfl,rfl,rfl⟩,z⟩
 ·refine⟨aA.toList,r,⟨o,n,I.gY a o hk,hc,hd,by simpa using hs⟩,?_⟩;have e:=r.length;simp only[wm] at e
  lia
theorem Inv.tuple(I:Inv X pins σ H s)(h:fU X.K H a xs):∃ aA:List aa,Vals xs aA/\f' s.heap a aA.toArray/\xs.length<=sizeLine:=by
 rcases h with h|⟨o,aA,n,hk,hc,hs,hz,r⟩
 ·obtain⟨z,aA,r,p⟩:=h.ok I.aR;exact⟨aA,r,p,z⟩
 ·refine⟨aA.toList,r,⟨o,I.gY a o hk,hc,n,by simpa using hs⟩,?_⟩;have e:=r.length;simp only[wm] at e
  lia
theorem Inv.list_inj(I:Inv X pins σ H s)(h:fq X.K H a xs)(h':fq X.K H a ys):xs=ys:=by
 obtain⟨aA,r,⟨o,n,e,_,_,d⟩,_⟩:=I.list h;obtain⟨its',r',⟨o',n',e',_,_,d'⟩,_⟩:=I.list h';rw[e] at e';cases e';rw[d] at d';injection d' with d1 _
 have:aA=its':=by simpa using congrArg uD d1
 subst this;exact r.inj r'
theorem Inv.tuple_inj(I:Inv X pins σ H s)(h:fU X.K H a xs)(h':fU X.K H a ys):xs=ys:=by
 obtain⟨aA,r,⟨o,e,_,n,d⟩,_⟩:=I.tuple h;obtain⟨its',r',⟨o',e',_,n',d'⟩,_⟩:=I.tuple h';rw[e] at e';cases e';rw[d] at d';injection d' with d1 _
 have:aA=its':=by simpa using congrArg uD d1
 subst this;exact r.inj r'
end
section
variable {X:Cx} {st:Stmt} {rest:List Stmt} {t u:TS} {e:Expr} {te:TE} {pos:Pos}
noncomputable def Nk:TS:=λD σ H=>D.nx σ H
noncomputable def FI(t u:TS):TS:=λD σ H=>t {D with nx:=u D} σ H
theorem YcW:gV X [] Nk:=λ_ _ σ H _ I h=>dk ⟨σ,H,I,h⟩
theorem Qch(h1:PS X st t)(h2:gV X rest u):gV X (st::rest) (FI t u):=by
 intro pins s σ H D I h;refine hV (bg (h1 pins s σ H {D with nx:=u D} I h) λf s1 q=>?_);cases f with
 |next =>
  obtain⟨σ',H',I',q⟩:=q;exact h2 pins s1 σ' H' D I' q
 |ret v=>exact q
 |brk=>exact q
 |cont=>exact q
theorem qcP(h1:PS X st t):gV X [st] t:=by
 intro pins s σ H D I h;refine hV (bg (h1 pins s σ H D I h) λf s1 q=>?_);cases f with
 |next=>exact dk q
 |ret v=>exact q
 |brk=>exact q
 |cont=>exact q
theorem ZcW:PS X (.Pass pos) Nk:=λ_ _ σ H _ I h=>wpAny_Pass ⟨σ,H,I,h⟩
theorem Inv.quiet{pins:List (ae×Obj)}{σ:St}{H:Hp}{s:af}(I:Inv X pins σ H s):interactive X.env=false:=by simp[interactive,I.ok.kind]
noncomputable def tM(te:TE):TS:=λD σ H=>te σ H λ_ H1=>D.nx σ H1
theorem qcU(he:PE X e te)(hs:bo e none pos.line X.env=pure false:=by rfl):PS X (.Expr e pos) (tM te):=by
 intro pins s σ H D I h;exact wpAny_Expr_any (bg (he pins s σ H _ I h) λv s1 ⟨x,H1,I1,r1,q1⟩=>⟨σ,H1,I1,q1⟩) I.quiet hs
noncomputable def FJ(te:TE):TS:=λD σ H=>te σ H D.rt
theorem Ot(he:PE X e te):PS X (.Return (some e) pos) (FJ te):=by
 intro pins s σ H D I h;exact wpAny_Return_some (bg (he pins s σ H _ I h) λv s1 ⟨x,H1,I1,r1,q1⟩=>⟨x,σ,H1,I1,r1,q1⟩)
noncomputable def FP(c:TT)(t u:TS):TS:=λD σ H=>c σ H λb H1=>if b=true then t D σ H1 else u D σ H1
theorem uZ{c:Expr}{a b:List Stmt}{tc:TT}(hc:PT X c tc)(ha:gV X a t)(hb:gV X b u):PS X (.If c a b pos) (FP tc t u):=by
 intro pins s σ H D I h;refine wpAny_If (bg (hc pins s σ H _ I h) λd s1 ⟨H1,I1,q1⟩=>?_);cases d with
 |true=>exact ha pins s1 σ H1 D I1 q1
 |false=>exact hb pins s1 σ H1 D I1 q1
end
noncomputable abbrev TG:=V->St->Hp->(St->Hp->Prop)->Prop
noncomputable abbrev nU:=List V->St->Hp->(St->Hp->Prop)->Prop
noncomputable def PG(X:Cx)(target:Expr)(t:TG):Prop :=
 ∀(pins:List (ae×Obj)) (s:af) (σ:St) (H:Hp) (v:V) (u:aa) (Q:St->Hp->Prop),Inv X pins σ H s->RelV v u->t v σ H Q ->
  ah (ak X.prog X.w) X.A (eD target X.env u) (λ_ s'=>∃ σ' H',Inv X pins σ' H' s'/\Q σ' H') X.xe s
noncomputable def mV(X:Cx)(ts:List Expr)(t:nU):Prop :=
 ∀(pins:List (ae×Obj)) (s:af) (σ:St) (H:Hp) (vs:List V) (us:List aa) (Q:St->Hp->Prop),Inv X pins σ H s->Vals vs us->t vs σ H Q ->
  ah (ak X.prog X.w) X.A (assignInOrder ((bK ts X.env).map (·.2)) us) (λ_ s'=>∃ σ' H',Inv X pins σ' H' s'/\Q σ' H') X.xe s
noncomputable abbrev rh:=V->V->V->Hp->(Hp->Prop)->Prop
noncomputable def Bm(X:Cx)(t:rh):Prop :=
 ∀(pins:List (ae×Obj)) (s:af) (σ:St) (H:Hp) (o i v:V) (ov iv u:aa) (Q:Hp->Prop),Inv X pins σ H s->RelV o ov->RelV i iv->RelV v u->t o i v H Q ->
  ah (ak X.prog X.w) X.A (jC ov iv u) (λ_ s'=>∃ H',Inv X pins σ H' s'/\Q H') X.xe s
section
variable {X:Cx} {pos:Pos}
noncomputable def Gn(i:Nat):TG:=λv σ H Q=>Q (σ.set i (some v)) H
theorem K1{i:Nat}{x:Str}(hN:X.N.Nodup)(hi:X.N[i]?=some x)(hx:Loc X.env.scope x)(hf:X.fn x=true\/X.env.scope.names.lookup x=some .local:=by first|exact .inl rfl|exact .inr rfl|assumption):PG X (.Name x pos) (Gn i):=by
 intro pins s σ H v u Q I r h;exact wpAny_assign_Name (Zcm I hN hi hx r (λs' I'=>⟨_,H,I',h⟩) hf)
noncomputable def Ib:nU:=λvs σ H Q=>vs=[]/\Q σ H
noncomputable def Av(t:TG)(u:nU):nU:=λvs σ H Q=>∃ v r,vs=v::r/\t v σ H λσ' H'=>u r σ' H' Q
theorem ycL:mV X [] Ib:=by
 intro pins s σ H vs us Q I r h;obtain⟨e,h⟩:=h;subst e;cases r;exact assignInOrder_nil ⟨σ,H,I,h⟩
theorem Ycw{e:Expr}{es:List Expr}{t:TG}{u:nU}(h1:PG X e t)(h2:mV X es u)
  (hs:(bK (e::es) X.env).map (·.2)=eD e X.env::(bK es X.env).map (·.2):=by rfl):mV X (e::es) (Av t u):=by
 intro pins s σ H vs us Q I r h;obtain⟨v,vr,e1,h⟩:=h;subst e1;cases r with
 |cons r rr =>
  rw[hs];refine assignInOrder_cons (bg (h1 pins s σ H _ _ _ I r h) λ_ s1 ⟨σ1,H1,I1,q1⟩=>?_);exact h2 pins s1 σ1 H1 _ _ Q I1 rr q1
noncomputable def HZ(K:PySem.W.Frag)(n:Nat)(t:nU):TG:=λv σ H Q=>∃ a xs,v=.ref a/\fU K H a xs/\xs.length=n/\t xs σ H Q
theorem zc6{es:List Expr}{k:Nat}{t:nU}{n:Nat}(hc:X.calm=true)(h:mV X es t)
  (hn:(bK es X.env).length=n:=by rfl) (pB:(bK es X.env).findIdx? (·.1)=none:=by rfl):PG X (.Tuple es k pos) (HZ X.K n t):=by
 intro pins s σ H v u Q I r hw;obtain⟨a,xs,e1,hq,hl,hw⟩:=hw;subst e1;cases r;obtain⟨aA,rv,ht,hz⟩:=I.tuple hq;refine assign_Tuple_tuple (I.ok.hd hc) ht (by simp[hn,<- hl,rv.length]) pB λh' hx=>?_;have I1:Inv X pins σ H {s with heap:=h'}:=I.kept (t':=s.toks) λb o e=>hx b o (vb (Ua e)) e;exact h pins _ σ H xs _ Q I1 (by simpa using rv) hw
noncomputable def Ia(to ti:TE)(t:rh):TG:=λv σ H Q=>to σ H λo H1=>ti σ H1 λi H2=>t o i v H2 λH3=>Q σ H3
theorem Qc9{o i:Expr}{to ti:TE}{t:rh}(ho:PE X o to)(hi:PE X i ti)(hs:Bm X t)
  (ha:∀ v,eD (.Subscript o i pos) X.env v=(do
   let ov<-ck [v] (eval o X.env)
   let iv<-ck [v,ov] (eval i X.env)
   iD pos
   ck [v,ov,iv] (jC ov iv v)
   release [v,ov,iv] []):=by intro _;rfl):PG X (.Subscript o i pos) (Ia to ti t):=by
 intro pins s σ H v u Q I r h;rw[ha];refine ab (aK (bg (ho pins s σ H _ I h) λov s1 ⟨x,H1,I1,r1,q1⟩=>?_));refine ab (aK (bg (hi pins s1 σ H1 _ I1 q1) λiv s2 ⟨y,H2,I2,r2,q2⟩=>?_));refine ab (bW (ab (aK (bg (hs pins s2 σ H2 x y v ov iv u _ I2 r1 r2 r q2) λ_ s3 ⟨H3,I3,q3⟩=>?_))));exact wpAny_release ⟨σ,H3,I3,q3⟩
noncomputable def tQ(te:TE)(g:TG):TS:=λD σ H=>te σ H λx H1=>g x σ H1 D.nx
theorem Na{tg e:Expr}{te:TE}{g:TG}(he:PE X e te)(hg:PG X tg g)(hs:jg [tg] e pos.line X.env=pure false:=by rfl)(hw:fV [tg] e X.env=pure none:=by rfl)
  (h1:(bK [tg] X.env).map (·.2)=[eD tg X.env]:=by rfl):PS X (.Assign [tg] e pos) (tQ te g):=by
 intro pins s σ H D I h;refine wpAny_Assign_stores (bg (he pins s σ H _ I h) λv s1 ⟨x,H1,I1,r1,q1⟩=>?_) hs hw;rw[h1];exact bg (hg pins s1 σ H1 x v _ I1 r1 q1) λ_ s2 q=>q
end
section
variable {X:Cx} {pos:Pos}
noncomputable def qdc(c:TT)(tb:TS):TS:=λD σ H=>∃ W:Nat->St->Hp->Prop,(∃ m,W m σ H)/\∀ m σ H,W m σ H ->
 c σ H λb H1=>if b=true then ∃ N:St->Hp->Prop,(∀ σ' H',N σ' H'->∃ m',m'<m/\W m' σ' H')/\tb {D with nx:=N,ct:=N,bk:=D.nx} σ H1 else D.nx σ H1
theorem Zcn{c:Expr}{body:List Stmt}{tc:TT}{tb:TS}(hp:fL (ak X.prog X.w) X.A X.env X.xe)(hc:PT X c tc)(hb:gV X body tb):PS X (.While c body [] pos) (qdc tc tb):=by
 intro pins s σ H D I h;obtain⟨W,⟨m0,w0⟩,turn⟩:=h;refine wpAny_While (codeAny_whileLoop (λn s'=>∃ σ' H',Inv X pins σ' H' s'/\W n σ' H') ?_ m0 ⟨σ,H,I,w0⟩);rintro n s1 ⟨σ1,H1,I1,w1⟩;refine bx hp (bg (hc pins s1 σ1 H1 _ I1 (turn n σ1 H1 w1)) λb s2 ⟨H2,I2,q2⟩=>?_);cases b with
 |true =>
  obtain⟨N,hN,q2⟩:=q2;rw[if_pos rfl];refine bx hp (bg (hb pins s2 σ1 H2 _ I2 q2) λf s3 q3=>?_);cases f with
  |next =>
   obtain⟨σ3,H3,I3,n3⟩:=q3;obtain⟨m',hm,w3⟩:=hN σ3 H3 n3;exact⟨m',hm,σ3,H3,I3,w3⟩
  |cont =>
   obtain⟨σ3,H3,I3,n3⟩:=q3;obtain⟨m',hm,w3⟩:=hN σ3 H3 n3;exact⟨m',hm,σ3,H3,I3,w3⟩
  |brk=>exact q3
  |ret v=>exact q3
 |false =>
  rw[if_neg xi];exact dk ⟨σ1,H2,I2,q2⟩
end
structure It where
 go:Nat->Hp->Prop
 mX:Nat->Hp->V->Hp->Prop
 stop:Nat->Hp->Prop
noncomputable def QU(X:Cx)(pins:List (ae×Obj))(H:Hp)(b:ae):Prop :=
 H b=none/\b≠X.env.locals/\b∉X.fs/\(b∈X.ex\/X.s₀.heap.objs.size<=b)/\(∀ x c,X.env.cells.lookup x=some c->c≠b)/\∀ p∈X.pn++pins,p.1≠b
theorem Inv.jJ{X:Cx}{pins:List (ae×Obj)}{σ:St}{H H':Hp}{s:af}{b:ae}(I:Inv X pins σ H s)(hb:s.heap.objs.size<=b)(hn:H' b=none):QU X pins H' b:=by
 refine⟨hn,Um (Uc I.lt hb),I.GQ hb,.inr (vf I.sz hb),λx c e z=>?_,λp hp z=>?_⟩
 ·obtain⟨v,q⟩:=I.cell x c e;exact absurd (Uc q.lt (by rw[z];exact hb)) (Vh _)
 ·exact absurd (Uc (Ua (I.pin p hp).1) (by rw[z];exact hb)) (Vh _)
structure Turn (P:aj) (w:World) (K:PySem.W.Frag) (tg:Expr) (J:It) (fp:List ae) (it:ae) (tn:Nat->Heap->Prop):Prop where
 mem:it∈fp
 obj:∀ i h,tn i h->∀ b∈fp,∃ o,h.get? b=some o/\∀ v,o.data≠.cell v
 keep:∀ i h h',tn i h->(∀ b∈fp,∀ o,h.get? b=some o->h'.get? b=some o)->tn i h'
 item:∀(X:Cx),X.prog=P->X.w=w->X.K=K->X.calm=true->∀(i:Nat)(pins:List (ae×Obj)) (s:af) (σ:St) (H:Hp) (E:aa->af->Prop),Inv X pins σ H s->(∀ b∈fp,QU X pins H b)->tn i s.heap->J.go i H ->
  ah (ak P w) X.A (cU (.ref it)) (λr s1=>∃ u,r=some u /\
   ah (ak P w) X.A (cg tg (.ref it) u) (λ_ s2=>∃ x H',Inv X pins σ H' s2/\RelV x u/\J.mX i H x H'/\tn (i+1) s2.heap/\∀ b∈fp,H' b=none) E s1) E s
 done:∀(X:Cx),X.prog=P->X.w=w->X.K=K->X.calm=true->∀(i:Nat)(pins:List (ae×Obj)) (s:af) (σ:St) (H:Hp) (E:aa->af->Prop),Inv X pins σ H s->(∀ b∈fp,QU X pins H b)->tn i s.heap->J.stop i H ->
  ah (ak P w) X.A (cU (.ref it)) (λr s1=>r=none/\Inv X pins σ H s1) E s
 self:∀(A:aw)(i:Nat)(s:af)(Q:aa->af->Prop)(E:aa->af->Prop),tn i s.heap->Q (.ref it) s->ah (ak P w) A (jE (.ref it)) Q E s
noncomputable abbrev TI:=St->Hp->(It->Hp->Prop)->Prop
noncomputable def O7(X:Cx)(pins:List (ae×Obj))(σ:St)(tg:Expr)(R:It->Hp->Prop)(Cy:aa)(s2:af):Prop :=
 ∃(it:ae)(fp:List ae)(tn:Nat->Heap->Prop)(J:It)(H':Hp),Cy=.ref it/\Inv X pins σ H' s2/\Turn X.prog X.w X.K tg J fp it tn/\tn 0 s2.heap/\(∀ b∈fp,QU X pins H' b)/\R J H'
noncomputable def PI(X:Cx)(tg iter:Expr)(wi:TI):Prop :=
 ∀(pins:List (ae×Obj)) (s:af) (σ:St) (H:Hp) (R:It->Hp->Prop),Inv X pins σ H s->wi σ H R ->
  ah (ak X.prog X.w) X.A (eval iter X.env) (λv s1=>ah (ak X.prog X.w) X.A (jE v) (O7 X pins σ tg R) X.xe s1) X.xe s
theorem JD {M:Model} {A:aw} {E:aa→af→Prop} {s:af} {tg:Expr} {it:ae} {u:aa} {o:Obj} {n:String} {vs:Array aa} {Q:Unit→af→Prop} (ho:s.heap.get? it=some o) (hc:o.cls=.type n) (hd:o.data=.fields vs)
    (hn:["enumerate","zip","dict_itemiterator","dict_reverseitemiterator","odict_iterator","itertools.zip_longest","itertools.pairwise"].contains n=false) (hQ:Q () s):ah M A (cg tg (.ref it) u) Q E s:=by
  unfold cg
  cases tg <;> first
    | exact ag hQ
    | (cases u <;> first
        | exact ag hQ
        | (refine ab (wpAny_load ho ?_)
           rw [hc,hd]
           show ah M A (if (["enumerate","zip","dict_itemiterator","dict_reverseitemiterator","odict_iterator","itertools.zip_longest","itertools.pairwise"].contains n&&vs[0]? == some (dr _))=true then _ else _) Q E s
           rw [if_neg (by intro h; rw [hn,Bool.false_and] at h; cases h)]
           exact ag hQ))
noncomputable def Pa(K:PySem.W.Frag)(a:ae):It :=
 ⟨λi H=>∃ xs x,fq K H a xs/\xs[i]?=some x,λi H x H'=>H'=H/\∀ xs,fq K H a xs->xs[i]?=some x,λi H=>∃ xs,fq K H a xs/\xs.length<=i⟩
noncomputable def O9(K:PySem.W.Frag)(a:ae):It :=
 ⟨λi H=>∃ xs x,fU K H a xs/\xs[i]?=some x,λi H x H'=>H'=H/\∀ xs,fU K H a xs->xs[i]?=some x,λi H=>∃ xs,fU K H a xs/\xs.length<=i⟩
noncomputable def DJ(lo:Int)(n:Nat):It:=⟨λi _=>i<n,λi H x H'=>H'=H/\x=.int (lo+i),λi _=>n<=i⟩
theorem zca{P:aj}{w:World}{K:PySem.W.Frag}{tg:Expr}(a it:ae):Turn P w K tg (Pa K a) [it] it (λi h=>h.IsListIter it a i) where
 mem:=by simp
 obj:=λi h st b hb=>by
  have e:b=it:=by simpa using hb
  subst e;obtain⟨o,e,c,d⟩:=st;exact⟨o,e,λv z=>by rw[d] at z;cases z⟩
 keep:=λi h h' st k=>st.at λo e=>k it (by simp) o e
 item:=by
  intro X hP hw hK hc i pins s σ H E I hf st hg;subst hP hw hK;obtain⟨xs,x,hq,hx⟩:=hg;obtain⟨aA,rv,p,hz⟩:=I.list hq;obtain⟨u,hu,ru⟩:=rv.get hx;obtain⟨f0,f1,f2,f3,f4,f5⟩:=hf it (by simp);refine eP st p.isList (x:=u) (by simpa using hu) λh' j9 sb=>?_;have I1:Inv X pins σ H {s with heap:=h'}:=I.turned (t':=s.toks) (λb o hb e=>(sb.2 b hb).trans e) f0 f1 f3 f4 f5;obtain⟨o,e,c,d⟩:=id j9;exact⟨u,rfl,JD (s:={s with heap:=h'}) e c d (by decide) ⟨x,H,I1,ru,⟨rfl,λys hy=>by rw[I.list_inj hy hq];exact hx⟩,j9,λb hb=>(hf b hb).1⟩⟩
 done:=by
  intro X hP hw hK hc i pins s σ H E I hf st hg;subst hP hw hK;obtain⟨xs,hq,hx⟩:=hg;obtain⟨aA,rv,p,hz⟩:=I.list hq;obtain⟨f0,f1,f2,f3,f4,f5⟩:=hf it (by simp);have hl:=rv.length;exact fh (I.ok.hd hc) st p.isList (by simp;lia) λh' eb=>⟨rfl,I.turned (t':=s.toks) (λb o hb e=>eb b o hb e) f0 f1 f3 f4 f5⟩
 self:=λ_ _ _ _ _ st h=>wpAny_pyIter_listiter st h
theorem qbR{P:aj}{w:World}{K:PySem.W.Frag}{tg:Expr}(a it:ae):Turn P w K tg (O9 K a) [it] it (λi h=>h.IsTupleIter it a i) where
 mem:=by simp
 obj:=λi h st b hb=>by
  have e:b=it:=by simpa using hb
  subst e;obtain⟨o,e,c,d⟩:=st;exact⟨o,e,λv z=>by rw[d] at z;cases z⟩
 keep:=λi h h' st k=>st.at λo e=>k it (by simp) o e
 item:=by
  intro X hP hw hK hc i pins s σ H E I hf st hg;subst hP hw hK;obtain⟨xs,x,hq,hx⟩:=hg;obtain⟨aA,rv,p,hz⟩:=I.tuple hq;obtain⟨u,hu,ru⟩:=rv.get hx;obtain⟨f0,f1,f2,f3,f4,f5⟩:=hf it (by simp);refine eG st (show s.heap.IsTuple a aA.toArray from p) (x:=u) (by simpa using hu) λh' j9 sb=>?_;have I1:Inv X pins σ H {s with heap:=h'}:=I.turned (t':=s.toks) (λb o hb e=>(sb.2 b hb).trans e) f0 f1 f3 f4 f5;obtain⟨o,e,c,d⟩:=id j9;exact⟨u,rfl,JD (s:={s with heap:=h'}) e c d (by decide) ⟨x,H,I1,ru,⟨rfl,λys hy=>by rw[I.tuple_inj hy hq];exact hx⟩,j9,λb hb=>(hf b hb).1⟩⟩
 done:=by
  intro X hP hw hK hc i pins s σ H E I hf st hg;subst hP hw hK;obtain⟨xs,hq,hx⟩:=hg;obtain⟨aA,rv,p,hz⟩:=I.tuple hq;obtain⟨f0,f1,f2,f3,f4,f5⟩:=hf it (by simp);have hl:=rv.length;exact eO (I.ok.hd hc) st (show s.heap.IsTuple a aA.toArray from p) (by simp;lia) λh' eb=>⟨rfl,I.turned (t':=s.toks) (λb o hb e=>eb b o hb e) f0 f1 f3 f4 f5⟩
 self:=λ_ _ _ _ _ st h=>eQ st h
theorem ZbK{P:aj}{w:World}{K:PySem.W.Frag}{tg:Expr}(it:ae)(lo:Int)(n:Nat):Turn P w K tg (DJ lo n) [it] it (λi h=>IsRangeIter h it (lo+(i:Nat)*1) ((n:Int)-(i:Nat)) 1) where
 mem:=by simp
 obj:=λi h st b hb=>by
  have e:b=it:=by simpa using hb
  subst e;exact⟨_,st,λv z=>by
   have z':Data.fields _=Data.cell v:=z;cases z'⟩
 keep:=λi h h' st k=>k it (by simp) _ st
 item:=by
  intro X hP hw hK hc i pins s σ H E I hf st hg;subst hP hw hK;obtain⟨f0,f1,f2,f3,f4,f5⟩:=hf it (by simp);have W:=Walks.range (prog:=X.prog) (w:=X.w) (I.ok.hd hc) it lo 1 n;refine W.item i s _ _ hg st λv h' tk hv j9 kk=>?_;obtain⟨t,rfl⟩:=hv;have I1:Inv X pins σ H {s with heap:=h',toks:=tk}:=I.turned (λb o hb e=>kk b o (by simpa using hb) e) f0 f1 f3 f4 f5;refine⟨_,rfl,JD (s:={s with heap:=h',toks:=tk}) (n:="range_iterator") j9 rfl rfl (by decide) ⟨.int (lo+i),H,I1,⟨t,?_⟩,⟨rfl,rfl⟩,j9,λb hb=>(hf b hb).1⟩⟩;rw[Int.mul_one]
 done:=by
  intro X hP hw hK hc i pins s σ H E I hf st hg;subst hP hw hK;obtain⟨f0,f1,f2,f3,f4,f5⟩:=hf it (by simp);exact wpAny_pyNext_range_end (I.ok.hd hc) st (by have:n<=i:=hg;lia) λh' eb=>⟨rfl,I.turned (t':=s.toks) (λb o hb e=>eb b o hb e) f0 f1 f3 f4 f5⟩
 self:=λ_ _ _ _ _ st h=>wpAny_pyIter_rangeiter st h
section
variable {X:Cx} {tg:Expr}
theorem Ycu{pins:List (ae×Obj)}{σ:St}{H:Hp}{s:af}{R:It->Hp->Prop}{E:aa->af->Prop}{lo hi:Int}{t u v:Tok}{tk:Nat}(I:Inv X pins σ H s)(h1:-(2^62)<=lo)(h2:lo<2^62)(h3:-(2^62)<=hi)(h4:hi<2^62)
  (q:R (DJ lo (hi-lo).toNat) H):ah (ak X.prog X.w) X.A (jE (.ref s.heap.objs.size)) (O7 X pins σ tg R) E {s with heap:=s.heap.push {cls:=.type "range",data:=.fields #[.int lo t,.int hi u,.int 1 v]},toks:=tk}:=by
 refine wpAny_pyIter_range (IsRange.new ..) (small_one h1 h2 h3 h4) ?_;have I1:Inv X pins σ H {s with heap:=s.heap.push {cls:=.type "range",data:=.fields #[.int lo t,.int hi u,.int 1 v]},toks:=tk}:=I.kept λb o e=>wa _ e;refine⟨(s.heap.push {cls:=.type "range",data:=.fields #[.int lo t,.int hi u,.int 1 v]}).objs.size,[(s.heap.push {cls:=.type "range",data:=.fields #[.int lo t,.int hi u,.int 1 v]}).objs.size],_,_,H,rfl,
  I1.kept (t':=tk) λb o e=>wa _ e,ZbK _ lo (hi-lo).toNat,?_,λb hb=>?_,q⟩
 ·have e1:lo+((0:Nat):Int)*1=lo:=by simp
  have e2:(((hi-lo).toNat:Nat):Int)-((0:Nat):Int)=aq.Range.rangeSize lo hi 1:=by rw[rangeSize_one];split <;> lia
  show IsRangeIter _ _ (lo+((0:Nat):Int)*1) ((((hi-lo).toNat:Nat):Int)-((0:Nat):Int)) 1;rw[e1,e2];exact xb _ rfl
 ·have e:b=(s.heap.push {cls:=.type "range",data:=.fields #[.int lo t,.int hi u,.int 1 v]}).objs.size:=by simpa using hb
  subst e;exact I1.jJ (wb _) (I1.aR.fresh (wb _))
noncomputable def xV(ta:TA):TI:=λσ H R=>ta σ H λvs H1=>∃ j:Int,vs=[.int j]/\-(2^62)<=j/\j<2^62/\R (DJ 0 j.toNat) H1
theorem qb4{a:Expr}{ta:TA}{p pos:Pos}(hg:Gl X "range")(hm:X.mg "range"=none)(ha:PA X [a] ta)(hs:au [a] X.env=[(false,eval a X.env)]:=by rfl):PI X tg (.Call (.Name "range" p) [a] [] pos) (xV ta):=by
 intro pins s σ H R I h;refine Call_ (p9 I hg hm boot_range (PyProof.Rows.callWith_type1 (bg (ha pos pins s σ H _ I h) λus s1 ⟨vs,H1,I1,r1,q1⟩=>?_) hs rfl));obtain⟨j,e,q1,q2,q⟩:=q1;subst e;cases r1 with
 |cons r rr =>
  cases rr;obtain⟨t,rfl⟩:=r;exact call_range_1 (Ycu I1 (by lia) (by lia) q1 q2 (by simpa using q))
noncomputable def FQ(wi:TI)(g:TG)(tb:TS):TS:=λD σ H=>wi σ H λJ H1=>∃ W:Nat->Nat->St->Hp->Prop,(∃ m,W 0 m σ H1)/\∀ i m σ H,W i m σ H ->
 (J.stop i H/\D.nx σ H)\/(J.go i H/\∃ N:St->Hp->Prop,(∀ σ' H',N σ' H'->∃ m',m'<m/\W (i+1) m' σ' H')/\∀ x H',J.mX i H x H'->g x σ H' λσ2 H2=>tb {D with nx:=N,ct:=N,bk:=D.nx} σ2 H2)
noncomputable def sy(fp:List ae)(h:Heap):List (ae×Obj):=fp.filterMap λb=>(h.get? b).map λo=>(b,o)
theorem Yu{fp:List ae}{h:Heap}{b:ae}{o:Obj}(hb:b∈fp)(e:h.get? b=some o):(b,o)∈sy fp h:=UD.mpr ⟨b,hb,by rw[e];rfl⟩
theorem Zcd{fp:List ae}{h:Heap}{p:ae×Obj}(hp:p∈sy fp h):p.1∈fp/\h.get? p.1=some p.2:=by
 obtain⟨b,hb,e⟩:=UD.mp hp;cases q:h.get? b with
 |none=>rw[q] at e;cases e
 |some o =>
  rw[q] at e;have e':(b,o)=p:=Option.some.inj e;subst e';exact⟨hb,q⟩
theorem Inv.pinned{pins:List (ae×Obj)}{σ:St}{H:Hp}{s:af}{fp:List ae}(I:Inv X pins σ H s)(hf:∀ b∈fp,QU X pins H b)(ho:∀ b∈fp,∃ o,s.heap.get? b=some o/\∀ v,o.data≠.cell v):Inv X (pins++sy fp s.heap) σ H s :=
 I.pins_of λp hp=>(Xf.mp hp).elim (λz=>I.pin p (xf _ z)) λz=>by
  obtain⟨hb,e⟩:=Zcd z;obtain⟨f0,f1,f2,_⟩:=hf p.1 hb;obtain⟨o,e',d⟩:=ho p.1 hb;rw[e] at e';cases e';exact⟨e,f0,f1,f2,d⟩
theorem Inv.gK{pins pl:List (ae×Obj)}{σ:St}{H:Hp}{s:af}(I:Inv X (pins++pl) σ H s):Inv X pins σ H s:=I.pins_of λp hp=>I.pin p (xf _ (Xi _ hp))
theorem qdg{iter:Expr}{body:List Stmt}{wi:TI}{g:TG}{tb:TS}{pos:Pos}(hp:fL (ak X.prog X.w) X.A X.env X.xe)(hc:X.calm=true)(hi:PI X tg iter wi)(hg:PG X tg g)(hb:gV X body tb)
  (hs:∀ x,cG iter X.env x=pure x:=by intro _;rfl):PS X (.For tg iter body [] pos) (FQ wi g tb):=by
 intro pins s σ H D I h;refine wpAny_For (bg (hi pins s σ H _ I h) λv s1 h1=>bg h1 λCy s2 h2=>?_) hs;obtain⟨it,fp,tn,J,H2,e,I2,T,kB,f2,W,⟨m0,w0⟩,turn⟩:=h2;subst e
 -- what stays true of tx ki objects through tx loop
 have oU:∀{H':Hp},(∀ b∈fp,H' b=none)->∀ b∈fp,QU X pins H' b:=λhn b hb=>⟨hn b hb,(f2 b hb).2⟩;refine codeAny_forLoop_any (λn s'=>∃ i σ' H',Inv X pins σ' H' s'/\tn i s'.heap/\(∀ b∈fp,H' b=none)/\W i n σ' H') ?_ m0 ⟨0,σ,H2,I2,kB,λb hb=>(f2 b hb).1,w0⟩;rintro n s3 ⟨i,σ3,H3,I3,Lm,MW,w3⟩
 rcases turn i n σ3 H3 w3 with ⟨stop,qn⟩|⟨go,N,hN,step⟩
 ·refine bx hp (bg (T.done X rfl rfl rfl hc i pins s3 σ3 H3 X.xe I3 (oU MW) Lm stop) λr s4 ⟨hr,I4⟩=>?_);subst hr;exact dk ⟨σ3,H3,I4,qn⟩
 ·refine bx hp (bg (T.item X rfl rfl rfl hc i pins s3 σ3 H3 X.xe I3 (oU MW) Lm go) λr s4 ⟨u,hr,h4⟩=>?_);subst hr;refine bx hp (bg h4 λ_ s5 ⟨x,H5,I5,r5,y5,FW,fr5⟩=>?_);have I5':=I5.pinned (oU fr5) (T.obj _ _ FW);refine bx hp (bg (hg _ s5 σ3 H5 x u _ I5' r5 (step x H5 y5)) λ_ s6 ⟨σ6,H6,I6,q6⟩=>?_);refine bx hp (bg (hb _ s6 σ6 H6 _ I6 q6) λf s7 q7=>?_);have again:∀{σ7:St}{H7:Hp},Inv X (pins++sy fp s5.heap) σ7 H7 s7->N σ7 H7->∃ m,m<n/\∃ i σ' H',Inv X pins σ' H' s7/\tn i s7.heap/\(∀ b∈fp,H' b=none)/\W i m σ' H':=λ{σ7 H7} I7 n7=>by
   obtain⟨m',hm,w7⟩:=hN σ7 H7 n7;refine⟨m',hm,i+1,σ7,H7,I7.gK,T.keep _ _ _ FW λb hb o e=>(I7.pin (b,o) (xf _ (xf _ (Yu hb e)))).1,λb hb=>?_,w7⟩;obtain⟨o,e,d⟩:=T.obj _ _ FW b hb;exact(I7.pin (b,o) (xf _ (xf _ (Yu hb e)))).2.1
  cases f with
  |next=>obtain⟨σ7,H7,I7,n7⟩:=q7;exact again I7 n7
  |cont=>obtain⟨σ7,H7,I7,n7⟩:=q7;exact again I7 n7
  |brk=>obtain⟨σ7,H7,I7,q7⟩:=q7;exact⟨σ7,H7,I7.gK,q7⟩
  |ret v=>obtain⟨x7,σ7,H7,I7,r7,q7⟩:=q7;exact⟨x7,σ7,H7,I7.gK,r7,q7⟩
end
noncomputable abbrev R2:=V->V->Hp->VK->Prop
noncomputable def cA(X:Cx)(f:aa->aa->Sem aa)(r:R2):Prop :=
 ∀(pins:List (ae×Obj)) (s:af) (σ:St) (H:Hp) (x y:V) (v u:aa) (Q:VK),Inv X pins σ H s->RelV x v->RelV y u->r x y H Q ->
  ah (ak X.prog X.w) X.A (f v u) (EP X pins σ Q) X.xe s
noncomputable def JA(X:Cx)(f:aa->Sem aa)(r:V->Hp->VK->Prop):Prop :=
 ∀(pins:List (ae×Obj)) (s:af) (σ:St) (H:Hp) (x:V) (v:aa) (Q:VK),Inv X pins σ H s->RelV x v->r x H Q ->
  ah (ak X.prog X.w) X.A (f v) (EP X pins σ Q) X.xe s
noncomputable def aP(X:Cx)(f:aa)(r:List V->Hp->VK->Prop):Prop :=
 ∀(pins:List (ae×Obj)) (s:af) (σ:St) (H:Hp) (xs:List V) (us:List aa) (Q:VK),Inv X pins σ H s->Vals xs us->r xs H Q ->
  ah (ak X.prog X.w) X.A (call f us) (EP X pins σ Q) X.xe s
noncomputable def BZ(r:R2)(ta tb:TE):TE:=λσ H Q=>ta σ H λx H1=>tb σ H1 λy H2=>r x y H2 Q
noncomputable def tUn(r:V->Hp->VK->Prop)(ta:TE):TE:=λσ H Q=>ta σ H λx H1=>r x H1 Q
noncomputable def rI(C:Int->Int->Prop)(g:Int->Int->V):R2:=λx y H Q=>∃ i j,x=.int i/\y=.int j/\C i j/\Q (g i j) H
noncomputable def oi(g:Int->Int->V):R2:=λx y H Q=>∃ i j,x=.int i/\y=.int j/\Q (g i j) H
noncomputable def rU(g:Int->V):V->Hp->VK->Prop:=λx H Q=>∃ i,x=.int i/\Q (g i) H
section
variable {X:Cx} {a b c:Expr} {ta tb tc:TE} {pos:Pos}
theorem pV(ha:PE X a ta)(hb:PE X b tb){pins:List (ae×Obj)}{s:af}{σ:St}{H:Hp}{R:V->V->Hp->Prop}(I:Inv X pins σ H s)
  (h:ta σ H λx H1=>tb σ H1 λy H2=>R x y H2) {Q:aa->af->Prop} {f:aa->aa->Sem aa}
  (hf:∀ v u s2 x y H2,Inv X pins σ H2 s2->RelV x v->RelV y u->R x y H2->ah (ak X.prog X.w) X.A (f v u) Q X.xe s2) :
  ah (ak X.prog X.w) X.A (eval a X.env) (λv s₁=>ah (ak X.prog X.w) X.A (eval b X.env) (λu s₂=>ah (ak X.prog X.w) X.A (f v u) Q X.xe s₂) X.xe s₁) X.xe s:=by
 refine bg (ha pins s σ H _ I h) λv s1 ⟨x,H1,I1,r1,q1⟩=>?_;refine bg (hb pins s1 σ H1 _ I1 q1) λu s2 ⟨y,H2,I2,r2,q2⟩=>?_;exact hf v u s2 x y H2 I2 r1 r2 q2
theorem vG{op:Operator}{r:R2}(ho:cA X (a7 op) r)(ha:PE X a ta)(hb:PE X b tb):PE X (.BinOp a op b pos) (BZ r ta tb):=by
 intro pins s σ H Q I h;exact wpAny_BinOp (pV ha hb I h λv u s2 x y H2 I2 rx ry q=>ho pins s2 σ H2 x y v u Q I2 rx ry q)
theorem NR{op:UnaryOp}{r:V->Hp->VK->Prop}(ho:JA X (unaryOp op) r)(ha:PE X a ta):PE X (.UnaryOp op a pos) (tUn r ta):=by
 intro pins s σ H Q I h;exact UnaryOp_ (bg (ha pins s σ H _ I h) λv s1 ⟨x,H1,I1,r1,q1⟩=>ho pins s1 σ H1 x v Q I1 r1 q1)
theorem vR{f:aa->aa->Sem aa}{C:Int->Int->Prop}{g:Int->Int->Int}
  (rule:∀(i j:Int)(t u:Tok)(s:af)(Q:aa->af->Prop)(E:aa->af->Prop),C i j->Q (.int (g i j) s.toks) {s with toks:=s.toks+1}->ah (ak X.prog X.w) X.A (f (.int i t) (.int j u)) Q E s) :
  cA X f (rI C λi j=>.int (g i j)):=by
 intro pins s σ H x y v u Q I rx ry h;obtain⟨i,j,rfl,rfl,hc,q⟩:=h;obtain⟨t,rfl⟩:=rx;obtain⟨t',rfl⟩:=ry;exact rule i j t t' s _ _ hc ⟨.int (g i j),H,I.tok _,⟨_,rfl⟩,q⟩
theorem vQ{f:aa->aa->Sem aa}{g:Int->Int->Int}
  (rule:∀(i j:Int)(t u:Tok)(s:af)(Q:aa->af->Prop)(E:aa->af->Prop),Q (.int (g i j) s.toks) {s with toks:=s.toks+1}->ah (ak X.prog X.w) X.A (f (.int i t) (.int j u)) Q E s) :
  cA X f (oi λi j=>.int (g i j)):=by
 intro pins s σ H x y v u Q I rx ry h;obtain⟨i,j,rfl,rfl,q⟩:=h;obtain⟨t,rfl⟩:=rx;obtain⟨t',rfl⟩:=ry;exact rule i j t t' s _ _ ⟨.int (g i j),H,I.tok _,⟨_,rfl⟩,q⟩
theorem nr{f:aa->aa->Sem aa}{g:Int->Int->Bool}
  (rule:∀(i j:Int)(t u:Tok)(s:af)(Q:aa->af->Prop)(E:aa->af->Prop),Q (.bool (g i j)) s->ah (ak X.prog X.w) X.A (f (.int i t) (.int j u)) Q E s) :
  cA X f (oi λi j=>.bl (g i j)):=by
 intro pins s σ H x y v u Q I rx ry h;obtain⟨i,j,rfl,rfl,q⟩:=h;obtain⟨t,rfl⟩:=rx;obtain⟨t',rfl⟩:=ry;exact rule i j t t' s _ _ ⟨.bl (g i j),H,I,rfl,q⟩
noncomputable def JY(i j:Int):Prop:=0<j/\j<1073741824
noncomputable def JX(i j:Int):Prop:=0<=j/\j<=1000000/\i.natAbs<2^64
theorem Yda:cA X (a7 .Add) (oi λi j=>.int (i+j)):=vQ λ_ _ _ _ _ _ _ q=>add_int q
theorem zc8:cA X (a7 .Sub) (oi λi j=>.int (i-j)):=vQ λ_ _ _ _ _ _ _ q=>sub_int q
theorem Cj:cA X (a7 .FloorDiv) (rI JY λi j=>.int (i/j)):=vR λi j _ _ _ _ _ hc q=>by
 have h1:(0:Int)<j:=hc.1;have h2:j<1073741824:=hc.2;exact floordiv_int (by lia) (by rw[vz i (by lia)];exact q) (.inl (PyProof.noPylong_small (by lia)))
theorem yc2:cA X (a7 .Mod) (rI (λ_ j=>0<j) λi j=>.int (i%j)):=vR λi j _ _ _ _ _ hc q=>by
 have h1:(0:Int)<j:=hc;exact mod_int' (by lia) (by rw[Int.fmod_eq_emod_of_nonneg i (by lia)];exact q)
theorem Yc6:cA X (a7 .Pow) (rI JX λi j=>.int (i^j.toNat)):=vR λ_ _ _ _ _ _ _ hc q=>pow_int_small hc.1 hc.2.1 hc.2.2 q
theorem unI{f:aa->Sem aa}{g:Int->Int}
  (rule:∀(i:Int)(t:Tok)(s:af)(Q:aa->af->Prop)(E:aa->af->Prop),Q (.int (g i) s.toks) {s with toks:=s.toks+1}->ah (ak X.prog X.w) X.A (f (.int i t)) Q E s) :
  JA X f (rU λi=>.int (g i)):=by
 intro pins s σ H x v Q I rx h;obtain⟨i,rfl,q⟩:=h;obtain⟨t,rfl⟩:=rx;exact rule i t s _ _ ⟨.int (g i),H,I.tok _,⟨_,rfl⟩,q⟩
theorem Nb:JA X (unaryOp .USub) (rU λi=>.int (-i)):=unI λ_ _ _ _ _ q=>neg_int q
end
section
variable {X:Cx} {a b c:Expr} {ta tb tc:TE} {pos:Pos}
theorem vM:cA X (aL .Lt) (oi λi j=>.bl (decide (i<j))):=nr λ_ _ _ _ _ _ _ q=>lt_int q
theorem vN:cA X (aL .LtE) (oi λi j=>.bl (decide (i<=j))):=nr λ_ _ _ _ _ _ _ q=>le_int q
theorem vO:cA X (aL .Gt) (oi λi j=>.bl (decide (j<i))):=nr λ_ _ _ _ _ _ _ q=>gt_int q
theorem vP:cA X (aL .GtE) (oi λi j=>.bl (decide (j<=i))):=nr λ_ _ _ _ _ _ _ q=>ge_int q
theorem QcQ{op:fH}{r:R2}(ho:cA X (aL op) r)(ha:PE X a ta)(hb:PE X b tb)(hm:bE op b=false):PE X (.Compare a [op] [b] pos) (BZ r ta tb):=by
 intro pins s σ H Q I h;exact iJ (pV ha hb I h λv u s2 x y H2 I2 rx ry q=>ho pins s2 σ H2 x y v u Q I2 rx ry q) hm
noncomputable def Gp(t:TE):TT:=λσ H Q=>t σ H λx H'=>∃ k,x=.bl k/\Q k H'
theorem ZcQ{op:fH}{r:R2}(ho:cA X (aL op) r)(ha:PE X a ta)(hb:PE X b tb)(hm:bE op b=false):PT X (.Compare a [op] [b] pos) (Gp (BZ r ta tb)):=by
 intro pins s σ H Q I h;refine fj (bg (ha pins s σ H _ I h) λv s1 ⟨x,H1,I1,r1,q1⟩=>bg (hb pins s1 σ H1 _ I1 q1) λu s2 ⟨y,H2,I2,r2,q2⟩ =>
  bg (ho pins s2 σ H2 x y v u _ I2 r1 r2 q2) λc s3 ⟨z,H3,I3,r3,k,e,q3⟩=>?_) hm
 subst e;cases r3;exact aG ⟨H3,I3,q3⟩
noncomputable def LB(r r':R2)(ta tb tc:TE):TE:=λσ H Q=>ta σ H λx H1=>tb σ H1 λy H2=>r x y H2 λz H3=>∃ k,z=.bl k /\
 (if k=true then tc σ H3 λw' H4=>r' y w' H4 Q else Q (.bl false) H3)
theorem zcE{op jG:fH}{r r':R2}(ho:cA X (aL op) r)(ka:cA X (aL jG) r')(ha:PE X a ta)(hb:PE X b tb)(hc:PE X c tc)
  (hm:lastMarks [op,jG] [b,c]=false:=by with_unfolding_all rfl):PE X (.Compare a [op,jG] [b,c] pos) (LB r r' ta tb tc):=by
 intro pins s σ H Q I h;refine Compare_chain (bg (ha pins s σ H _ I h) λv s1 ⟨x,H1,I1,r1,q1⟩=>chain_link (bg (hb pins s1 σ H1 _ I1 q1) λu s2 ⟨y,H2,I2,r2,q2⟩ =>
  bg (ho pins s2 σ H2 x y v u _ I2 r1 r2 q2) λd s3 ⟨z,H3,I3,r3,k,e,q3⟩=>?_)) hm
 subst e;cases r3;refine aG ?_;cases k with
 |false=>exact ite_ff ⟨.bl false,H3,I3,rfl,q3⟩
 |true=>exact ite_tt (chain_last (bg (hc pins s3 σ H3 _ I3 q3) λw' s4 ⟨z',H4,I4,r4,q4⟩=>ka pins s4 σ H4 y z' u w' Q I4 r2 r4 q4))
theorem zcB{op jG:fH}{r r':R2}(ho:cA X (aL op) r)(ka:cA X (aL jG) r')(ha:PE X a ta)(hb:PE X b tb)(hc:PE X c tc)
  (hm:lastMarks [op,jG] [b,c]=false:=by with_unfolding_all rfl):PT X (.Compare a [op,jG] [b,c] pos) (Gp (LB r r' ta tb tc)):=by
 intro pins s σ H Q I h;refine isTrue_chain (bg (ha pins s σ H _ I h) λv s1 ⟨x,H1,I1,r1,q1⟩=>test_link (bg (hb pins s1 σ H1 _ I1 q1) λu s2 ⟨y,H2,I2,r2,q2⟩ =>
  bg (ho pins s2 σ H2 x y v u _ I2 r1 r2 q2) λd s3 ⟨z,H3,I3,r3,k,e,q3⟩=>?_)) hm
 subst e;cases r3;refine aG ?_;cases k with
 |false =>
  obtain⟨k',e',q'⟩:=q3;cases e';exact ite_ff ⟨H3,I3,q'⟩
 |true =>
  refine ite_tt (test_last (bg (hc pins s3 σ H3 _ I3 q3) λw' s4 ⟨z',H4,I4,r4,q4⟩=>bg (ka pins s4 σ H4 y z' u w' _ I4 r2 r4 q4) λd' s5 ⟨z2,H5,I5,r5,k2,e2,q5⟩=>?_));subst e2;cases r5;exact aG ⟨H5,I5,q5⟩
theorem Df:(sizeLine:Nat)<2^63:=by rw[c6];decide
theorem Ej{x:V}{us:List aa}(r:Vals [x] us):∃ u,us=[u]/\RelV x u:=by
 cases r with
 |cons r1 r2=>cases r2;exact⟨_,rfl,r1⟩
theorem KD{x y:V}{us:List aa}(r:Vals [x,y] us):∃ u w',us=[u,w']/\RelV x u/\RelV y w':=by
 cases r with
 |cons r1 r2 =>
  cases r2 with
  |cons r3 r4=>cases r4;exact⟨_,_,rfl,r1,r3⟩
theorem zb9(hc:X.calm=true):aP X (.builtin "max") (λxs H Q=>∃ i j,xs=[.int i,.int j]/\Q (.int (if j>i then j else i)) H):=by
 intro pins s σ H xs us Q I r h;obtain⟨i,j,rfl,q⟩:=h;obtain⟨u,w',rfl,⟨t,rfl⟩,⟨t',rfl⟩⟩:=KD r;refine max_two_ints (I.ok.hd hc) λh' tk k=>⟨_,H,I.kept k,?_,q⟩;by_cases hj:j>i
 ·rw[if_pos hj,if_pos hj];exact⟨_,rfl⟩
 ·rw[if_neg hj,if_neg hj];exact⟨_,rfl⟩
theorem qcb(hc:X.calm=true):aP X (.builtin "min") (λxs H Q=>∃ i j,xs=[.int i,.int j]/\Q (.int (if j<i then j else i)) H):=by
 intro pins s σ H xs us Q I r h;obtain⟨i,j,rfl,q⟩:=h;obtain⟨u,w',rfl,⟨t,rfl⟩,⟨t',rfl⟩⟩:=KD r;refine min_two_ints (I.ok.hd hc) λh' tk k=>⟨_,H,I.kept k,?_,q⟩;by_cases hj:j<i
 ·rw[if_pos hj,if_pos hj];exact⟨_,rfl⟩
 ·rw[if_neg hj,if_neg hj];exact⟨_,rfl⟩
end
structure kx (h:Heap) (x dx C:ae) (mA:Str->Option aa):Prop where
 obj:h.get? x=some (Wh C dx)
 ns:h.Ns1 dx mA
 ne:dx≠x
theorem Qb5{h:Heap}{dx:ae}{mA:Str->Option aa}(n:h.Ns1 dx mA):∃ od,h.get? dx=some od/\∀ name,Vy name od=some (mA name):=by
 obtain⟨o,es,ep,ho,hd,hk,_,hm⟩:=n;refine⟨o,ho,λname=>?_⟩;have e:=hm name;unfold nsFind findBy at e;rw[<- Array.find?_toList] at e;unfold Vy;rw[hd];dsimp only;split
 ·rename_i y q;rw[q] at e;exact congrArg some e
 ·rename_i q;rw[q] at e;have a:es.toList.any (·.refKey)=false:=by
   rw[List.any_eq_false];intro y hy;obtain⟨z,t,Hw⟩:=hk y (Array.mem_toList_iff.mp hy);simp[fN.refKey,Hw]
  have a':¬ es.toList.any (·.refKey)=true:=by rw[a];exact xi
  rw[if_neg a'];exact congrArg some e
theorem kx.look{h:Heap}{x dx C:ae}{mA:Str->Option aa}(I:kx h x dx C mA):∃ od,PySem.W.InstAt h x (Wh C dx) C (some od)/\∀ name,Vy name od=some (mA name) :=
 let ⟨od,ho,hl⟩:=Qb5 I.ns
 ⟨od,⟨I.obj,rfl,rfl,ho⟩,hl⟩
section
variable {prog:aj} {w:World} {A:aw} {E:aa->af->Prop} {s:af} {K:PySem.W.Frag} {x dx C f:ae} {mA:Str->Option aa} {name:Str} {v:aa}
theorem QcK{expr:Bool}{Q:aa->af->Prop}(X:K.In s.heap)(I:kx s.heap x dx C mA)(hg:Ui K C name=true)(hh:xk K C=true)
  (ha:ub K (.ref C) name=some none) (hv:mA name=some v) (hv':uF v=true) (h:Q v {s with toks:=s.toks+1}) :
  ah (ak prog w) A (getAttr (.ref x) name expr) Q E s:=by
 obtain⟨od,J,hl⟩:=I.look;exact PySem.W.get_value X J (Xy hg).1 (PySem.W.findObj_own hh ha rfl (by rw[hl,hv])) hv' h
theorem zcx{pl:Sem Bool}{Q:aa×List aa->af->Prop}(X:K.In s.heap)(I:kx s.heap x dx C mA)(hg:Ui K C name=true)
  (hf:ub K (.ref C) name=some (some (.ref f))) (ht:Vm K (.ref f)=true) (hv:mA name=none) (h:Q (.ref f,[.ref x]) s) :
  ah (ak prog w) A (jy (.ref x) name pl) Q E s:=by
 obtain⟨od,J,hl⟩:=I.look;exact PySem.W.method_fn X J (Xy hg).1 (Xy hg).2 hf (beq_iff_eq.mp ht) (by show(Vy name od).map (·.isSome)=some false;rw[hl,hv];rfl) h
theorem zcQ{ns:List Str}{Q:Unit->af->Prop}(X:K.In s.heap)(I:kx s.heap x dx C mA)
  (hs:ub K (.ref C) "__setattr__"=some (some (.builtin "object.__setattr__"))) (hp:ul K C=true) (ht:WB K C name=some none) (hh:xk K C=true)
  (hw:PySem.Within mA ns) (hsz:ns.length<=sizeLine)
  (h:∀ h',kx h' x dx C (λy=>if y=name then some v else mA y)->Heap.SameBut dx s.heap h'->Q () {s with heap:=h',toks:=s.toks+2}) :
  ah (ak prog w) A (setAttr (.ref x) name v) Q E s:=by
 obtain⟨od,J,hl⟩:=I.look;refine PySem.W.set_plain X J hs (PySem.W.osa_open (s:={s with toks:=s.toks+1}) (r:=none) X J hp ht λb=>?_);obtain⟨cd,hc,An⟩:=PySem.W.any_some hh;have hx:s.heap.get? x=some ⟨.ref C,some dx,.plain,#[]⟩:=I.obj;refine ab (ag (ab (ab (wpAny_loadPart hx (ab (PySem.W.Looks.here (s:={s with toks:=s.toks+1}) (PySem.W.looks_clsIn X hc) ?_))))));rw[An];refine ag (a:=some dx) (ab (ag (ab ?_)));refine wpAny_nsSet1 (s:={s with toks:=s.toks+1}) I.ns λh' Hj kY=>?_;obtain⟨oD,esD,epD,hoD,hdD,hcD⟩:=Hj.count (PySem.Within.cons name v hw);refine ab (wpAny_lookBehind hoD (by rw[hdD];exact pastItsLine_dict (vf hcD (by rw[ud];lia))) ?_);exact ag (h _ ⟨(kY.2 _ (Ne.symm I.ne)).trans I.obj,Hj,I.ne⟩ kY)
theorem qcm{R:gE->af->Prop}{vs:List aa}{kw:List (Str×aa)}(X:K.In s.heap)(hm:Xk K C=true)
  (hi:ub K (.ref C) "__init__"=some (some (.ref f))) (hf:uj K (.ref f)=some (.type "function"))
  (h:bJ (ak prog w) (A.under (.builtin "type.__call__" ⟨.ref C::vs,kw⟩)) (.call (.ref f) ⟨.ref (s.heap.objs.size+1)::vs,kw⟩) (PySem.W.InitBack (s.heap.objs.size+1) R)
   {s with heap:=(s.heap.push Vf).push (Wh C s.heap.objs.size)}) :
  bJ (ak prog w) A (.call (.ref C) ⟨vs,kw⟩) R s:=by
 obtain⟨hh,g,d,t,os⟩:=s;exact UE (xA X hm) (vC X hi) (λself=>PySem.W.bind_fn X self hf) (.inl rfl) h
theorem Yce{R:gE->af->Prop}(X:K.In s.heap)(hm:Xk K C=true)
  (hi:ub K (.ref C) "__init__"=some (some (.builtin "object.__init__")))
  (hb:∀ self,PySem.W.Looks (ak prog w) s.heap (bindSpecial (.builtin "object.__init__") self) (.builtin "object.__init__",[self]))
  (h:bJ (ak prog w) (A.under (.builtin "type.__call__" ⟨[.ref C],[]⟩)) (.call (.builtin "object.__init__") ⟨[.ref (s.heap.objs.size+1)],[]⟩) (PySem.W.InitBack (s.heap.objs.size+1) R)
   {s with heap:=(s.heap.push Vf).push (Wh C s.heap.objs.size)}) :
  bJ (ak prog w) A (.call (.ref C) ⟨[],[]⟩) R s:=by
 obtain⟨hh,g,d,t,os⟩:=s;exact UE (xA X hm) (vC X hi) hb (.inr ⟨rfl,rfl⟩) h
end
noncomputable def yP(f:Str)(v:V):List (Str×V)->List (Str×V)
 |[]=>[(f,v)]
 |(g,x)::r=>if g=f then(g,v)::r else(g,x)::yP f v r
theorem L6(f g:Str)(v:V):∀ fs:List (Str×V),(yP f v fs).lookup g=if g=f then some v else fs.lookup g
 |[]=>by
  show Ut g [(f,v)]=_;by_cases h:g=f
  ·have hb:(g==f)=true:=beq_iff_eq.mpr h;simp only[Ut,hb,if_pos h]
  ·have hb:(g==f)=false:=beq_eq_false_iff_ne.mpr h;simp only[Ut,hb,if_neg h]
 |(k,x)::r=>by
  have ih:=L6 f g v r;rw[show yP f v ((k,x)::r)=(if k=f then(k,v)::r else(k,x)::yP f v r) from rfl];by_cases hk:k=f
  ·rw[if_pos hk];by_cases h:g=k
   ·have hb:(g==k)=true:=beq_iff_eq.mpr h;simp only[Ut,hb,if_pos (h.trans hk)]
   ·have hb:(g==k)=false:=beq_eq_false_iff_ne.mpr h;simp only[Ut,hb,if_neg (λe:g=f=>h (e.trans hk.symm))]
  ·rw[if_neg hk];by_cases h:g=k
   ·have hb:(g==k)=true:=beq_iff_eq.mpr h;simp only[Ut,hb,if_neg (λe:g=f=>hk (h.symm.trans e))]
   ·have hb:(g==k)=false:=beq_eq_false_iff_ne.mpr h;simp only[Ut,hb];exact ih
theorem DY(f:Str)(v:V):∀ fs:List (Str×V),f∈(yP f v fs).map (·.1)/\∀ g,g∈fs.map (·.1)->g∈(yP f v fs).map (·.1)
 |[]=>⟨by simp[yP],λg h=>by simp at h⟩
 |(k,x)::r=>by
  obtain⟨i1,i2⟩:=DY f v r;rw[show yP f v ((k,x)::r)=(if k=f then(k,v)::r else(k,x)::yP f v r) from rfl];by_cases hk:k=f
  ·rw[if_pos hk];subst hk;exact⟨by simp,λg h=>by simpa using h⟩
  ·rw[if_neg hk];refine⟨?_,λg h=>?_⟩
   ·rw[Wb];exact Wf _ i1
   ·rw[Wb] at h ⊢
    rcases ua.mp h with e|e
    ·exact ua.mpr (.inl e)
    ·exact Wf _ (i2 g e)
theorem Of(f:Str)(v:V):∀ fs:List (Str×V),(yP f v fs).length<=fs.length+1
 |[]=>by simp[yP]
 |(k,x)::r=>by
  have ih:=Of f v r;rw[show yP f v ((k,x)::r)=(if k=f then(k,v)::r else(k,x)::yP f v r) from rfl];by_cases hk:k=f
  ·rw[if_pos hk,ud,ud];lia
  ·rw[if_neg hk,ud,ud];lia
theorem gU.some_of{v:V}{o:Option aa}(r:gU (some v) o):∃ u,o=some u/\RelV v u:=by
 cases o with
 |none=>exact(show False from r).elim
 |some u=>exact⟨u,rfl,r⟩
theorem gU.none_of{o:Option aa}(r:gU none o):o=none:=by
 cases o with
 |none=>rfl
 |some u=>exact(show False from r).elim
theorem Zb5{v:V}{u:aa}(r:RelV v u):uF u=true:=by
 cases v with
 |bI=>cases(show u=aa.none from r);rfl
 |bl b=>cases(show u=aa.bool b from r);rfl
 |int i=>obtain⟨t,e⟩:=(show ∃ t,u=aa.int i t from r);cases e;rfl
 |str x=>obtain⟨t,e⟩:=(show ∃ t,u=aa.str x t from r);cases e;rfl
 |A1 b=>obtain⟨t,e⟩:=(show ∃ t,u=aa.bytes b t from r);cases e;rfl
 |ow b=>obtain⟨t,e⟩:=(show ∃ t,u=aa.float b t from r);cases e;rfl
 |ref a=>cases(show u=aa.ref a from r);rfl
 |ty n=>cases(show u=aa.type n from r);rfl
section
variable {P:aj} {w:World} {H H':Hp} {h h':Heap} {a C dx:ae} {fs CZ:List (Str×V)}
theorem DF(aR:fe P w H h)(e:H a=some (.ins C dx fs)):∃ mA,kx h a dx C mA/\(∀ f,gU (fs.lookup f) (mA f))/\PySem.Within mA (fs.map (·.1))/\fs.length<=1000/\H dx=some (.own a):=by
 obtain⟨d,z,ne,ob,mA,n,r,q⟩:=(show bf P w H h a (.ins C dx fs) from aR a _ e);exact⟨mA,⟨ob,n,ne⟩,r,q,z,d⟩
end
structure lg (K:PySem.W.Frag) (C:ae):Prop where
 pg:Ui K C Str.empty=true
 hd:xk K C=true
 po:ul K C=true
 sa:ub K (.ref C) "__setattr__"=some (some (.builtin "object.__setattr__"))
theorem lg.get{K:PySem.W.Frag}{C:ae}(c:lg K C)(f:Str):Ui K C f=true:=c.pg
noncomputable def fG(K:PySem.W.Frag)(C:ae)(f:Str):Prop:=ub K (.ref C) f=some none
theorem fG.tE{K:PySem.W.Frag}{C:ae}{f:Str}(n:fG K C f):WB K C f=some none:=by
 unfold WB;rw[show ub K (.ref C) f=some none from n];rfl
structure Meth (K:PySem.W.Frag) (C:ae) (m:Str) (f:ae):Prop where
 at_:ub K (.ref C) m=some (some (.ref f))
 fn:Vm K (.ref f)=true
 kp:we K (.ref f)=true
section
variable {X:Cx} {pins:List (ae×Obj)} {σ:St} {H:Hp} {s:af} {a C dx:ae} {fs:List (Str×V)} {f:Str} {v:V} {A:aw} {E:aa->af->Prop}
theorem ZbJ{b:Bool}{Q:aa->af->Prop}(I:Inv X pins σ H s)(e:H a=some (.ins C dx fs))(c:lg X.K C)(n:fG X.K C f)(l:fs.lookup f=some v)
  (h:∀ u s',Inv X pins σ H s'->RelV v u->Q u s'):ah (ak X.prog X.w) A (getAttr (.ref a) f b) Q E s:=by
 obtain⟨mA,O,r,_,_,_⟩:=DF I.aR e;obtain⟨u,hu,ru⟩:=gU.some_of (v:=v) (o:=mA f) (by rw[<- l];exact r f);exact QcK I.gY O (c.get f) c.hd n hu (Zb5 ru) (h u _ (I.tok _) ru)
theorem OZ{m:Str}{g:ae}{pl:Sem Bool}{Q:aa×List aa->af->Prop}(I:Inv X pins σ H s)(e:H a=some (.ins C dx fs))(c:lg X.K C)(k:Meth X.K C m g)(l:fs.lookup m=none)
  (h:Q (.ref g,[.ref a]) s):ah (ak X.prog X.w) A (jy (.ref a) m pl) Q E s:=by
 obtain⟨mA,O,r,_,_,_⟩:=DF I.aR e;have hn:mA m=none:=gU.none_of (by rw[<- l];exact r m);exact zcx I.gY O (c.get m) k.at_ k.fn hn h
theorem YbL{y:V}{u:aa}{Q:Unit->af->Prop}(I:Inv X pins σ H s)(e:H a=some (.ins C dx fs))(c:lg X.K C)(n:fG X.K C f)(hl:fs.length<1000)(ry:RelV y u)
  (h:∀ s',Inv X pins σ (upd H a (.ins C dx (yP f y fs))) s'->Q () s'):ah (ak X.prog X.w) A (setAttr (.ref a) f u) Q E s:=by
 obtain⟨mA,O,r,wi,_,ho⟩:=DF I.aR e;have hz:(fs.map (·.1)).length<=sizeLine:=by rw[xc,c6];lia
 refine zcQ I.gY O c.sa c.po n.tE c.hd wi hz λh' O' sb=>h _ ?_;have hd:∃ o,h'.get? dx=some o:=let ⟨o,_,_,e',_⟩:=O'.ns;⟨o,e'⟩;refine I.write (x:=a) (e:=dx) (by rw[e];exact True.intro) (.inr ho) (λb q hb z=>(sb.2 b hb).trans z) hd ?_;refine⟨by rw[Zc O.ne];exact ho,?_,O.ne,O'.obj,_,O'.ns,λg=>?_,λg hg=>?_⟩
 ·have:=Of f y fs;lia
 ·show gU ((yP f y fs).lookup g) (if g=f then some u else mA g);rw[L6];by_cases q:g=f
  ·rw[if_pos q,if_pos q];exact ry
  ·rw[if_neg q,if_neg q];exact r g
 ·by_cases q:g=f
  ·rw[q];exact(DY f y fs).1
  ·refine(DY f y fs).2 g (wi g λz=>hg ?_);show(if g=f then some u else mA g)=none;rw[if_neg q];exact z
theorem Inv.made(I:Inv X pins σ H s):Inv X pins σ (upd (upd H s.heap.objs.size (.own (s.heap.objs.size+1))) (s.heap.objs.size+1) (.ins C s.heap.objs.size []))
  {s with heap:=(s.heap.push Vf).push (Wh C s.heap.objs.size)}:=by
 have e1:(s.heap.push Vf).get? s.heap.objs.size=some Vf:=xb s.heap rfl;have e2:((s.heap.push Vf).push (Wh C s.heap.objs.size)).get? (s.heap.objs.size+1)=some (Wh C s.heap.objs.size):=by
  have:=xb (s.heap.push Vf) (o:=Wh C s.heap.objs.size) rfl
  rwa [Xh] at this
 have e3:(s.heap.push Vf).Ns s.heap.objs.size (λ_=>none):=⟨Vf,#[],_,e1,rfl,(λe he=>absurd he (by simp)),λ_=>rfl⟩;have I1:=I.laid (a:=s.heap.objs.size) (o:=.own (s.heap.objs.size+1)) (h':=s.heap.push Vf) (t':=s.toks) (λb u q=>wa _ q) (wb _) ⟨_,e1⟩;refine I1.laid (a:=s.heap.objs.size+1) (o:=.ins C s.heap.objs.size []) (t':=s.toks) (λb u q=>wa _ q) (Xq (Xh _ _)) ?_;have ne:s.heap.objs.size≠s.heap.objs.size+1:=vb (Vi _);refine⟨by rw[Zc ne,qe],um _,ne,e2,λ_=>none,(Heap.Ns1.of_empty e3).at λo q=>wa _ q,λ_=>True.intro,λy hy=>absurd rfl hy⟩
theorem YcP{prog:aj}{w:World}{env:Env}{e:Expr}{f:Str}{pos:Pos}{s:af}{Q:aa->af->Prop}(hb:a9 e f env (eval e env)=eval e env)
  (h:ah (ak prog w) A (eval e env) (λo s₁=>ah (ak prog w) A (getAttr o f true) Q E s₁) E s):ah (ak prog w) A (eval (.Attribute e f pos) env) Q E s :=
 Attribute_any_ h (by rw[arm_eval_Attribute,hb])
end
noncomputable def tL(K:PySem.W.Frag)(ta:TE)(f:Str):TE:=λσ H Q=>ta σ H λx H1=>∃ a C dx fs v,x=.ref a/\H1 a=some (.ins C dx fs)/\lg K C/\fG K C f/\fs.lookup f=some v/\Q v H1
noncomputable def FZ(K:PySem.W.Frag)(ta tv:TE)(f:Str):TS:=λD σ H=>tv σ H λy H1=>ta σ H1 λx H2=>∃ a C dx fs,x=.ref a/\H2 a=some (.ins C dx fs)/\lg K C/\fG K C f/\fs.length<1000 /\
 D.nx σ (upd H2 a (.ins C dx (yP f y fs)))
section
variable {X:Cx} {o e value:Expr} {f:Str} {pos pos' FD:Pos} {ta tv:TE}
theorem Qc2(he:PE X e ta)(hb:a9 e f X.env (eval e X.env)=eval e X.env):PE X (.Attribute e f pos) (tL X.K ta f):=by
 intro pins s σ H Q I h;refine YcP hb (bg (he pins s σ H _ I h) λu s1 ⟨x,H1,I1,rx,a,C,dx,fs,v,ex,ea,c,n,l,q⟩=>?_);subst ex;obtain rfl:u=aa.ref a:=rx;exact ZbJ I1 ea c n l λu' s2 I2 ru=>⟨v,H1,I2,ru,q⟩
theorem zdl(ha:PE X o ta)(hv:PE X value tv)(hs:bo value (some (.Attribute o f pos')) pos.line X.env=pure false):PS X (.Assign [.Attribute o f pos'] value pos) (FZ X.K ta tv f):=by
 intro pins s σ H D I h;refine plainObj_wpAny_Assign_Attribute (bg (hv pins s σ H _ I h) λu s1 ⟨y,H1,I1,ry,q⟩=>bg (ha pins s1 σ H1 _ I1 q) λov s2 ⟨x,H2,I2,rx,a,C,dx,fs,ex,ea,c,n,l,q2⟩=>?_) hs;subst ex;obtain rfl:ov=aa.ref a:=rx;exact YbL I2 ea c n l ry λs3 I3=>⟨σ,_,I3,q2⟩
end
section
variable {X:Cx} {pins:List (ae×Obj)} {σ:St} {H:Hp} {s:af} {A:aw} {E:aa->af->Prop} {Q:aa->af->Prop} {c:aa} {b:Bool}
inductive gB (K:PySem.W.Frag) (H:Hp):V->aa->Prop where
 |bI:gB K H .bI (.type "NoneType")
 |bl (x:Bool):gB K H (.bl x) (.type "bool")
 |int (i:Int):gB K H (.int i) (.type "int")
 |str (x:Str):gB K H (.str x) (.type "str")
 |ow (x:UInt64):gB K H (.ow x) (.type "float")
 |lst {a:ae} {xs:List V} (e:H a=some (.lst xs)):gB K H (.ref a) (.type "list")
 |e8 {a:ae} {o:Obj} {xs:List V} (e:H a=some (.e8 o (.lst xs))):gB K H (.ref a) (.type "list")
 |tup {a:ae} {xs:List V} (e:H a=some (.tup xs)):gB K H (.ref a) (.type "tuple")
 |dK {a:ae} {kvs:List (Key×V)} (e:H a=some (.dK kvs)):gB K H (.ref a) (.type "dict")
 |dT {a:ae} {kvs:List (List Key×V)} (e:H a=some (.dT kvs)):gB K H (.ref a) (.type "dict")
 |ins {a C dx:ae} {fs:List (Str×V)} (e:H a=some (.ins C dx fs)) (cl:lg K C) (ha:ub K (.ref C) "__class__"=some (some (.builtin "object.__class__")))
   (hn:vv K (.builtin "object.__class__") "__get__"=some (some (.builtin "getset_descriptor.__get__"))) (Mv:Vw K (.builtin "object.__class__")=some true)
   (hm:Vn K C (.type "object")=some true):gB K H (.ref a) (.ref C)
theorem Qb6{x:V}{u t:aa}(I:Inv X pins σ H s)(rx:RelV x u)(ty:gB X.K H x t)(e:Wg X.K t c=some b)(h:∀ tk,Q (.bool b) {s with toks:=tk}) :
  ah (ak X.prog X.w) A (call (.builtin "isinstance") [u,c]) Q E s:=by
 cases ty with
 |bI=>cases(show u=aa.none from rx);exact Wi PySem.W.kitx_none I.gY True.intro e (λz=>nomatch z) h
 |bl y=>cases(show u=aa.bool y from rx);exact Wi PySem.W.kitx_bool I.gY True.intro e (λz=>nomatch z) h
 |int i=>obtain⟨t,q⟩:=(show ∃ t,u=aa.int i t from rx);cases q;exact Wi PySem.W.kitx_int I.gY True.intro e (λz=>nomatch z) h
 |str y=>obtain⟨t,q⟩:=(show ∃ t,u=aa.str y t from rx);cases q;exact Wi PySem.W.kitx_str I.gY True.intro e (λz=>nomatch z) h
 |ow y=>obtain⟨t,q⟩:=(show ∃ t,u=aa.float y t from rx);cases q;exact Wi PySem.W.kitx_float I.gY True.intro e (λz=>nomatch z) h
 |@lst a xs ea =>
  cases(show u=aa.ref a from rx);obtain⟨_,_,n,_,h1⟩:=(show bf X.prog X.w H s.heap a (.lst xs) from I.aR a _ ea);exact Wi vE I.gY ⟨_,h1,rfl⟩ e (λz=>nomatch z) h
 |@e8 a ob xs ea =>
  cases(show u=aa.ref a from rx);obtain⟨_,_,_,n,_,h1⟩:=(show bf X.prog X.w H s.heap a (.e8 ob (.lst xs)) from I.aR a _ ea);exact Wi vE I.gY ⟨_,h1,rfl⟩ e (λz=>nomatch z) h
 |@tup a xs ea =>
  cases(show u=aa.ref a from rx);obtain⟨_,_,_,p⟩:=(show bf X.prog X.w H s.heap a (.tup xs) from I.aR a _ ea);obtain⟨o,h1,h2,_⟩:=p;exact Wi PySem.W.kitx_tuple I.gY ⟨o,h1,h2⟩ e (λz=>nomatch z) h
 |@dK a kvs ea =>
  cases(show u=aa.ref a from rx);obtain⟨_,_,vs,_,p⟩:=(show bf X.prog X.w H s.heap a (.dK kvs) from I.aR a _ ea);obtain⟨o,es,ep,h1,h2,_⟩:=p;exact Wi VE I.gY ⟨o,h1,h2.1⟩ e (λz=>nomatch z) h
 |@dT a kvs ea =>
  cases(show u=aa.ref a from rx);obtain⟨_,_,xs,_,o,es,ep,h1,h2,_⟩:=(show bf X.prog X.w H s.heap a (.dT kvs) from I.aR a _ ea);exact Wi VE I.gY ⟨o,h1,h2.1⟩ e (λz=>nomatch z) h
 |@ins a C dx fs ea cl ha hn Mv hm =>
  cases(show u=aa.ref a from rx);obtain⟨mA,O,_⟩:=DF I.aR ea;obtain⟨od,J,_⟩:=O.look;exact Wi (PySem.W.kitx_own (cl.get _) cl.hd ha hn Mv hm) I.gY J e (λz=>nomatch z) h
end
structure dj (k:Nat) (A:aw):Prop where
 hd:A.handled=none
 dp:A.depth+3*k+5<bQ
 un:A.units+16*k+200<cR
theorem dj.mono{j k:Nat}{A:aw}(r:dj k A)(h:j<=k):dj j A:=⟨r.hd,by have:=r.dp;lia,by have:=r.un;lia⟩
theorem dj.deeper{k:Nat}{A:aw}(r:dj (k+1) A)(env:Env):dj k (A.deeper env) :=
 ⟨r.hd,by have:=r.dp;show A.depth+1+3*k+5<_;lia,by have:=r.un;show A.units+3+16*k+200<_;lia⟩
theorem ZbI{A:aw}{C:ae}{us:List aa}{kw:List (Str×aa)}:(A.under (.builtin "type.__call__" ⟨.ref C::us,kw⟩)).depth=A.depth+1:=by
 first|rfl|simp[aw.under,i9.weight,i9.isCreation,i9.isGuard,i9.isCaller,i9.frames,i9.isFrame,guardIds]
theorem qbG{A:aw}{C:ae}{us:List aa}{kw:List (Str×aa)}:(A.under (.builtin "type.__call__" ⟨.ref C::us,kw⟩)).units=A.units+1:=by
 first|rfl|simp[aw.under,i9.cUnits,i9.frames,i9.isFrame]
theorem dj.make{k:Nat}{A:aw}(r:dj (k+1) A)(C:ae)(us:List aa)(kw:List (Str×aa)):dj k (A.under (.builtin "type.__call__" ⟨.ref C::us,kw⟩)) :=
 ⟨r.hd,by have:=r.dp;rw[ZbI];lia,by have:=r.un;rw[qbG];lia⟩
theorem dj.depth{k:Nat}{A:aw}(r:dj k A):A.depth<bQ:=by have:=r.dp;lia
noncomputable def tJ:TA:=λ_ H Q=>Q [] H
noncomputable def tP(ta:TE)(tr:TA):TA:=λσ H Q=>ta σ H λx H1=>tr σ H1 λxs H2=>Q (x::xs) H2
section
variable {X:Cx} {e:Expr} {es:List Expr} {te:TE} {t:TA} {pos:Pos}
theorem uX:PA X [] tJ:=λ_ _ _ _ H Q I h=>Calls.spliced_nil ⟨[],H,I,.nil,h⟩
theorem sj(ha:PE X e te)(hr:PA X es t)(hs:au (e::es) X.env=(false,eval e X.env)::au es X.env:=by rfl):PA X (e::es) (tP te t):=by
 intro pos pins s σ H Q I h;rw[hs];show ah _ _ (spliced ((false,eval e X.env)::bh pos (au es X.env))) _ _ s;refine Calls.spliced_cons (bg (ha pins s σ H _ I h) λu s1 ⟨x,H1,I1,r1,q1⟩=>?_);exact bg (hr pos pins s1 σ H1 _ I1 q1) λus s2 ⟨xs,H2,I2,r2,q2⟩=>⟨x::xs,H2,I2,.cons r1 r2,q2⟩
noncomputable def FH(t:TA):TE:=λσ H Q=>t σ H λxs H1=>xs.length<=sizeLine/\∀ p,H1 p=none->Q (.ref p) (upd H1 p (.tup xs))
noncomputable def FN(t:TA):TE:=λσ H Q=>t σ H λxs H1=>xs.length<=sizeLine/\∀ p,H1 p=none->Q (.ref p) (upd H1 p (.lst xs))
theorem Zdb{x1}(h:PA X es t):PE X (.Tuple es x1 pos) (FH t):=by
 intro pins s σ H Q I hq;refine wpAny_Tuple_spliced (bg (h pos pins s σ H _ I hq) λus s1 ⟨xs,H1,I1,r,z,q⟩=>⟨by rw[<- r.length];exact z,?_⟩);have hf:H1 s1.heap.objs.size=none:=I1.aR.fresh (wb _);refine⟨.ref s1.heap.objs.size,upd H1 s1.heap.objs.size (.tup xs),I1.laid (t':=s1.toks) (λb u e=>wa _ e) (wb _) ?_,rfl,q _ hf⟩;exact⟨z,us,r,⟨_,xb _ rfl,rfl,_,rfl⟩⟩
theorem Ydk(h:PA X es t):PE X (.List es pos) (FN t):=by
 intro pins s σ H Q I hq;refine wpAny_List_spliced (bg (h pos pins s σ H _ I hq) λus s1 ⟨xs,H1,I1,r,z,q⟩=>⟨by rw[<- r.length];exact z,?_⟩);have hf:H1 s1.heap.objs.size=none:=I1.aR.fresh (wb _);refine⟨.ref s1.heap.objs.size,upd H1 s1.heap.objs.size (.lst xs),I1.laid (t':=s1.toks) (λb u e=>wa _ e) (wb _) ?_,rfl,q _ hf⟩;exact⟨z,us,0,r,xb _ rfl⟩
end
noncomputable abbrev Sp:=List V->Hp->VK->XK->Prop
noncomputable abbrev kQ:=List Env->Hp->af->XK->aa->af->Prop
structure j7 (P:aj) (w:World) (K:PySem.W.Frag) (mg:Str->Option aa) (base:Heap) (A:aw) (outer:List Env) (s:af) (H:Hp):Prop where
 frames:A.frames=some outer
 mod:Mod K mg base
 bs:∀ b o,base.get? b=some o->s.heap.get? b=some o/\H b=none
 pU:base.objs.size<=s.heap.objs.size
 iX:s.heap.FunFrames base outer
 Aw:∀ b∈kZ outer,H b=none
 aR:fe P w H s.heap
 bare:dD s.gens
noncomputable def CE(outer:List Env)(P:aj)(w:World)(H:Hp)(s:af)(Q:VK)(u:aa)(s':af):Prop :=
 ∃ v H',s'.os=s.os/\dD s'.gens/\Un (kZ outer) [] H H' s.heap s'.heap/\fe P w H' s'.heap/\RelV v u/\Q v H'
noncomputable def CR(CX:kQ)(outer:List Env)(P:aj)(w:World)(H:Hp)(s:af)(Q:VK)(E:XK)(r:gE)(s':af):Prop :=
 match r with
 |.ok (.ret u)=>CE outer P w H s Q u s'
 |.ok _=>False
 |.error e=>CX outer H s E e s'
structure fu (P:aj) (w:World) (K:PySem.W.Frag) (mg:Str->Option aa) (base:Heap) (CX:kQ) (k:Nat) (f:ae) (fd:bu) (ps:List Str) (sp:Sp):Prop where
 len:∀ vs H Q E,sp vs H Q E->vs.length=ps.length
 run:∀(A:aw)(outer:List Env)(s:af)(H:Hp)(args:Args) (us:List aa) (vs:List V) (Q:VK) (E:XK),dj k A->j7 P w K mg base A outer s H->gX s fd args (ps.zip us)->Vals vs us->sp vs H Q E ->
  bJ (ak P w) A (.call (.ref f) args) (CR CX outer P w H s Q E) s
theorem fu.imp{P:aj}{w:World}{K:PySem.W.Frag}{mg:Str->Option aa}{base:Heap}{CX:kQ}{k:Nat}{f:ae}{fd:bu}{ps:List Str}{sp Lq:Sp}(F:fu P w K mg base CX k f fd ps sp)
  (h:∀ vs H Q E,Lq vs H Q E->sp vs H Q E):fu P w K mg base CX k f fd ps Lq :=
 ⟨λvs H Q E q=>F.len vs H Q E (h _ _ _ _ q),λA outer s H args us vs Q E hr he hb hv hs=>F.run A outer s H args us vs Q E hr he hb hv (h _ _ _ _ hs)⟩
theorem j7.make{P:aj}{w:World}{K:PySem.W.Frag}{mg:Str->Option aa}{base:Heap}{A:aw}{outer:List Env}{s:af}{H:Hp}(e:j7 P w K mg base A outer s H)(C:ae)(us:List aa)(kw:List (Str×aa)) :
  j7 P w K mg base (A.under (.builtin "type.__call__" ⟨.ref C::us,kw⟩)) outer s H:=⟨by first|exact e.frames|(simpa[aw.under,i9.envs,i9.isFrame,pushEnvs] using e.frames),e.mod,e.bs,e.pU,e.iX,e.Aw,e.aR,e.bare⟩
section
variable {X:Cx} {pins:List (ae×Obj)} {σ:St} {H:Hp} {s s':af}
theorem Inv.AA(I:Inv X pins σ H s):j7 X.prog X.w X.K X.mg X.base X.A X.stack s H :=
 ⟨I.ok.frames,I.ok.mod,I.bs,vf I.ok.pU I.sz,I.stack,I.jB,I.aR,I.bare⟩
theorem Inv.after{Q:VK}{u:aa}(I:Inv X pins σ H s)(h:CE X.stack X.prog X.w H s Q u s'):EP X pins σ Q u s':=by
 obtain⟨v,H',os,bare,un,aR,r,q⟩:=h;obtain⟨hh,g,d,t,os'⟩:=s';obtain rfl:os'=s.os:=os;exact⟨v,H',I.call (h':=hh) (g':=g) (d':=d) (t':=t) (ch:=[]) un aR bare (λb z=>absurd z (by simp)),r,q⟩
end
noncomputable def Binds(K:PySem.W.Frag)(fd:bu)(ps:List Str)(ds:List aa):Prop :=
 ∀(s:af)(us:List aa),K.In s.heap->(us++ds).length=ps.length->gX s fd ⟨us,[]⟩ (ps.zip (us++ds))
theorem Binds.all{K:PySem.W.Frag}{fd:bu}{ps:List Str}(h:∀ us:List aa,us.length=ps.length->bindArgs fd ⟨us,[]⟩=pure (ps.zip us)):Binds K fd ps []:=λs us _ hl=>by
 rw[wn] at hl ⊢;exact .of_eq (h us hl)
noncomputable def zc9(CX:kQ)(X:Cx)(E:XK):Prop:=∀(pins:List (ae×Obj)) (σ:St) (H:Hp) (s:af) (e:aa) (s':af),Inv X pins σ H s->CX X.stack H s E e s'->X.xe e s'
section
variable {X:Cx} {CX:kQ} {k:Nat} {f C:ae} {fd:bu} {ps:List Str} {sp:Sp} {dvs:List V} {ds:List aa} {E:XK} {x m:Str} {p pos apos:Pos} {e o:Expr} {es:List Expr} {ta:TE} {t:TA}
structure Mk (K:PySem.W.Frag) (C f:ae):Prop where
 makes:Xk K C=true
 init:ub K (.ref C) "__init__"=some (some (.ref f))
 fn:Vm K (.ref f)=true
 kp:we K (.ref C)=true
end
structure gW (N P:List Str) (sc:az):Prop where
 kind:sc.kind=.function
 co:sc.isCoroutine=false
 gen:sc.isGenerator=false
 nd:N.Nodup
 pre:N.take P.length=P
 par:∀ x∈P,sc.names.lookup x=some .local\/sc.names.lookup x=some .cell
 o7:∀ y∈sc.names,y.2≠.free
theorem Kq{kindOf:Str->Option ay}{x:Str}:∀{binds:List (Str×aa)} {m:Str->Option aa},(∀ v,(x,v)∉binds)->i4 kindOf binds m x=m x
 |[],_,_=>rfl
 |(n,v)::r,m,h=>by
  unfold i4;rw[Kq λw hw=>h w (Wf _ hw)];split
  ·have:x≠n:=by rintro rfl;exact h v Ug
   simp[this]
  ·rfl
theorem O4{kindOf:Str->Option ay}{x:Str}:∀{binds:List (Str×aa)} {m:Str->Option aa},(∀ v,(x,v)∉binds)->i5 kindOf binds m x=m x
 |[],_,_=>rfl
 |(n,v)::r,m,h=>by
  unfold i5;rw[O4 λw hw=>h w (Wf _ hw)];split
  ·rfl
  ·have:x≠n:=by rintro rfl;exact h v Ug
   simp[this]
theorem NY{kindOf:Str->Option ay}{x:Str}{v:aa}:∀{P:List Str}{vs:List aa}{i:Nat}{m:Str->Option aa},P.Nodup->P[i]?=some x->vs[i]?=some v->kindOf x=some .local ->
  i4 kindOf (P.zip vs) m x=some v
 |[],_,_,_,_,h,_,_=>by simp at h
 |_::_,[],_,_,_,_,h,_=>by simp at h
 |p::P,w::vs,0,m,nd,h1,h2,hk=>by
  simp at h1 h2;subst h1;subst h2;show i4 kindOf ((p,w)::P.zip vs) m p=_;unfold i4;rw[Kq λv hv=>(uk.mp nd).1 (xB hv).1,if_pos hk];simp
 |p::P,w::vs,i+1,m,nd,h1,h2,hk=>by
  show i4 kindOf ((p,w)::P.zip vs) m x=_;unfold i4;exact NY (i:=i) (uk.mp nd).2 (by simpa using h1) (by simpa using h2) hk
theorem Kb{kindOf:Str->Option ay}{x:Str}{v:aa}:∀{P:List Str}{vs:List aa}{i:Nat}{m:Str->Option aa},P.Nodup->P[i]?=some x->vs[i]?=some v->kindOf x≠some .local ->
  i5 kindOf (P.zip vs) m x=some v
 |[],_,_,_,_,h,_,_=>by simp at h
 |_::_,[],_,_,_,_,h,_=>by simp at h
 |p::P,w::vs,0,m,nd,h1,h2,hk=>by
  simp at h1 h2;subst h1;subst h2;show i5 kindOf ((p,w)::P.zip vs) m p=_;unfold i5;rw[O4 λv hv=>(uk.mp nd).1 (xB hv).1,if_neg hk];simp
 |p::P,w::vs,i+1,m,nd,h1,h2,hk=>by
  show i5 kindOf ((p,w)::P.zip vs) m x=_;unfold i5;exact Kb (i:=i) (uk.mp nd).2 (by simpa using h1) (by simpa using h2) hk
noncomputable def start(N:List Str)(vs:List V):St:=vs.map some++uc (N.length-vs.length) none
noncomputable def lu(CX:kQ)(P:aj)(w:World)(K:PySem.W.Frag)(mg:Str->Option aa)(base:Heap)(N:List Str)(qual:Str)(scope:az)(f:ae)(cd:aa)(A:aw)(outer:List Env)(s:af)(H:Hp)(E:XK):Cx where
 prog:=P
 w:=w
 K:=K
 mg:=mg
 base:=base
 A:=A.deeper (eB qual scope s.heap.objs.size f cd)
 N:=N
 s₀:=s
 H₀:=H
 env:=eB qual scope s.heap.objs.size f cd
 outer:=outer
 stack:=eB qual scope s.heap.objs.size f cd::outer
 ex:=[]
 calm:=true
 fn:=λ_=>true
 pn:=[]
 xe:=λe s'=>ah (ak P w) (A.deeper (eB qual scope s.heap.objs.size f cd)) (leaving (eB qual scope s.heap.objs.size f cd) e) (λ_ uI=>CX outer H s E e uI) (λe' uI=>CX outer H s E e' uI) s'
theorem Np{sc:az}{n:Nat}{x:Str}(h:sc.names.lookup x=some .cell):∃ c,(aE n sc.names []).lookup x=some c:=by
 have q:=uB sc.names n [] (.inl h);exact Wn.mp q
theorem yb9{CX:kQ}{P:aj}{w:World}{K:PySem.W.Frag}{mg:Str->Option aa}{base:Heap}{N ps:List Str}{qual:Str}{scope:az}{f:ae}{cd:aa}{A:aw}{outer:List Env}{s s1:af}{H:Hp}{E:XK}{us:List aa}{vs:List V}
  (S:gW N ps scope) (hd:A.handled=none) (e0:j7 P w K mg base A outer s H) (hl:vs.length=ps.length) (r:Vals vs us)
  (x:InCallC s s.heap.objs.size (i4 (eB qual scope s.heap.objs.size f cd).kindOf (ps.zip us) λ_=>none) (aE (s.heap.objs.size+1) scope.names []) (i5 (eB qual scope s.heap.objs.size f cd).kindOf (ps.zip us) λ_=>none) s1) :
  Inv (lu CX P w K mg base N qual scope f cd A outer s H E) [] (start N vs) H s1:=by
 have cF:ps.length<=N.length:=by have:=congrArg vt S.pre;rw[Uo] at this;lia
 obtain⟨h1,tk,rfl,hk⟩:=x.done;have v8:∀ b:ae,b∉(lu CX P w K mg base N qual scope f cd A outer s H E).ex:=λb z=>absurd (show b∈([]:List ae) from z) (by simp);refine⟨⟨e0.mod,S.kind,rfl,rfl,wb _,λy z c h1 h2=>?_,λy hy=>?_,λy c _ h=>?_,λ_=>hd,aw.frames_deeper e0.frames,.inr ⟨rfl,rfl⟩,λb z=>absurd z (v8 b),e0.bs,e0.pU,λb _ _=>v8 b,λb z=>absurd z (v8 b),e0.iX,e0.Aw⟩,
  rfl,e0.bare,Un.kept hk,⟨_,x.toInCall.ns,λi y v h1 h2 h3=>?_⟩,λy c h=>⟨_,x.cell y c h⟩,e0.aR.fresh (wb _),λy c h=>?_,λp hp=>absurd (show p∈([]:List (ae×Obj)) from hp) (by simp),e0.aR.kept hk,?_⟩
 ·exact name_of_addr x.apart (PySem.mem_of_lookup h1) (PySem.mem_of_lookup h2)
 ·have hy:scope.names.lookup y=some .cell\/scope.names.lookup y=some .free:=hy
  rcases hy with hy|hy
  ·exact Np hy
  ·exact absurd rfl (S.o7 _ (PySem.mem_of_lookup hy))
 ·exact vw (x.above y c (PySem.mem_of_lookup h))
 ·have hi:i<vs.length:=by
   unfold start at h2;by_cases hi:i<vs.length
   ·exact hi
   ·rw[Ud (by simpa using hi)] at h2;rw[vq] at h2;split at h2 <;> cases h2
  have ha:vs[i]?=some v:=by
   unfold start at h2;rw[va (by simpa using hi),wc] at h2;cases e:vs[i]? with
   |none=>rw[e] at h2;cases h2
   |some a=>rw[e] at h2;cases h2;rfl
  obtain⟨u,hu,rv⟩:=r.get ha;have hp:ps[i]?=some y:=by
   rw[<- S.pre,vk (by lia)];exact h1
  have Mg:ps.Nodup:=by rw[<- S.pre];exact S.nd.sublist (List.take_sublist _ _)
  refine⟨u,rv,?_⟩
  rcases S.par y (Ue hp) with k|k
  ·exact .inl ⟨k,NY Mg hp hu k⟩
  ·obtain⟨c,e⟩:=Np (n:=s.heap.objs.size+1) k;refine .inr ⟨.inl k,c,e,?_⟩;have q:=x.cell y c e;rw[Kb Mg hp hu (by show scope.names.lookup y≠_;rw[k];decide)] at q;exact q
 ·exact e0.aR.fresh (vw (x.above y c (PySem.mem_of_lookup h)))
 ·unfold start;show _=N.length;rw[vg,xc,Up]
  lia
theorem BD{CX:kQ}{P:aj}{w:World}{K:PySem.W.Frag}{mg:Str->Option aa}{base:Heap}{k:Nat}{f:ae}{name qual:Str}{params:jA}{body:List Stmt}{scope:az}{dV kV doc pm dF ct oc:aa}{an od:Option ae}
  {jk:Array (Option aa)} {N ps:List Str} {sp:Sp} (lk:K.lookup f=some ⟨oc,od,.func (Ve name qual params body scope dV kV doc pm an dF ct),jk⟩) (jq:xg K dF qual=true) (S:gW N ps scope)
  (len:∀ vs H Q E,sp vs H Q E->vs.length=ps.length)
  (j1:∀(A:aw)(outer:List Env)(s:af)(H:Hp)(vs:List V) (Q:VK) (E:XK),dj k (A.deeper (eB qual scope s.heap.objs.size f dF))->sp vs H Q E ->
   ∃ t,gV (lu CX P w K mg base N qual scope f dF A outer s H E) body t/\t {nx:=λ_ H'=>Q .bI H',rt:=Q} (start N vs) H) :
  fu P w K mg base CX (k+1) f (Ve name qual params body scope dV kV doc pm an dF ct) ps sp:=by
 refine⟨len,λA outer s H args us vs Q E hr e0 hb r j'=>?_⟩;have hl:=len _ _ _ _ j';have KX:K.In s.heap:=e0.mod.wX.keeps λb o e=>(e0.bs b o e).1;have lim:s.heap.NoLimit:=e0.mod.nolimit.keeps λb o e=>(e0.bs b o e).1;have Ah:∀ y∈ps.zip us,scope.names.lookup y.1=some .local\/(scope.names.lookup y.1=some .cell/\((aE (s.heap.objs.size+1) scope.names []).lookup y.1).isSome=true):=λ⟨n,v⟩ hy=>by
  rcases S.par n (xB hy).1 with q|q
  ·exact .inl q
  ·exact .inr ⟨q,uB _ _ _ (.inl q)⟩
 refine codeAny_call_function hr.depth (KX _ _ lk) rfl S.co S.gen rfl (PySem.W.codeRec_of KX jq) (hb _ _ _ _ ?_);refine wpAny_newFunctionEnv_cells S.kind Ah λenv he s1 x=>?_;subst he;refine⟨lim.keeps x.toInCall.keep,codeAny_func ?_⟩;obtain⟨t,ht,hq⟩:=j1 A outer s H vs Q E (hr.deeper _) j';have I:Inv (lu CX P w K mg base N qual scope f dF A outer s H E) [] (start N vs) H s1:=yb9 S hr.hd e0 hl r x;refine aS (ht [] s1 (start N vs) H _ I hq) (λfl s' hs=>?_) λe s' hs=>hs;have fin:∀{σ':St}{H':Hp}{v:V}{u:aa},Inv (lu CX P w K mg base N qual scope f dF A outer s H E) [] σ' H' s'->RelV v u->Q v H'->CE outer P w H s Q u s' :=
  λ{σ' H' v u} J rv q=>⟨v,H',J.os,J.bare,J.base,J.aR,rv,q⟩
 cases fl with
 |ret u =>
  obtain⟨v,σ',H',J,rv,q⟩:=hs;exact fin J rv q
 |next =>
  obtain⟨σ',H',J,q⟩:=hs;exact fin (v:=V.bI) (u:=aa.none) J rfl q
 |brk =>
  obtain⟨_,_,_,q⟩:=hs;exact False.elim q
 |cont =>
  obtain⟨_,_,_,q⟩:=hs;exact False.elim q
section
variable {X:Cx} {x:Str} {p pos:Pos} {e:Expr} {es:List Expr} {t:TA} {id T:String} {r:List V->Hp->VK->Prop}
noncomputable def Lk(r:List V->Hp->VK->Prop)(t:TA):TE:=λσ H Q=>t σ H λvs H1=>r vs H1 Q
theorem Jv(hc:aP X (.builtin id) r)(hg:Gl X x)(hm:X.mg x=none)(hv:bD x=some (.builtin id))(ha:PA X (e::es) t)(hn:x≠"__name__":=by decide)(kc:(x==("__debug__":Str))=false:=by decide)
  (he:au (e::es) X.env=(false,eval e X.env)::au es X.env:=by rfl) (cF:(bh pos (au es X.env)).any (·.1)=false:=by rfl):PE X (.Call (.Name x p) (e::es) [] pos) (Lk r t):=by
 intro pins s σ H Q I h;refine aT (p9 I hg hm hv ?_ hn kc);exact PyProof.Rows.callWith_builtin1 (bg (ha pos pins s σ H _ I h) λus s1 ⟨vs,H1,I1,r1,q1⟩=>hc pins s1 σ H1 vs us Q I1 r1 q1) he cF
theorem IK(hc:aP X (.type T) r)(hg:Gl X x)(hm:X.mg x=none)(hv:bD x=some (.type T))(ha:PA X (e::es) t)(hn:x≠"__name__":=by decide)(kc:(x==("__debug__":Str))=false:=by decide)
  (he:au (e::es) X.env=(false,eval e X.env)::au es X.env:=by rfl) (cF:(bh pos (au es X.env)).any (·.1)=false:=by rfl):PE X (.Call (.Name x p) (e::es) [] pos) (Lk r t):=by
 intro pins s σ H Q I h;refine aT (p9 I hg hm hv ?_ hn kc);exact PyProof.Rows.callWith_type1 (bg (ha pos pins s σ H _ I h) λus s1 ⟨vs,H1,I1,r1,q1⟩=>hc pins s1 σ H1 vs us Q I1 r1 q1) he cF
end
end L2
namespace HT
open PySem PyProof.Rows
theorem lW(A:aw)(s:af)(a:Int)(t:Tok)(c:Int)(u:Tok)(prog:aj)(w:World)(E:aa->af->Prop)(Q:aa->af->Prop)(h:Q (.bool (decide (a<c))) s) :
  ah (ak prog w) A (richCompare .Lt (.int a t) (.int c u)) Q E s :=
 (PyProof.Rows.lt_int h:ah (ak prog w) A (aL .Lt (.int a t) (.int c u)) Q E s)
section
variable {prog:aj} {w:World} {A:aw} {E:aa->af->Prop} {s:af}
theorem nR{t b:ae}{vs ws:List aa}{Q:aa->af->Prop}(ht:f' s.heap t vs.toArray)(hb:f' s.heap b ws.toArray)(hv:vs≠[])
  (h1:ws=[]->Q (.ref t) s) (h2:ws≠[]->Q (.ref s.heap.objs.size) {s with heap:=s.heap.push {cls:=.type "tuple",data:=.seq (vs++ws).toArray}})
  (hsz:vs.length+ws.length<=sizeLine):ah (ak prog w) A (a7 .Add (.ref t) (.ref b)) Q E s:=by
 obtain⟨⟨cls,dd,data,sl⟩,ho,hc,n,hd⟩:=id ht;obtain⟨⟨cls2,M7,data2,Lr⟩,CN,rW,n2,hd2⟩:=id hb;simp only at hc hd rW hd2;subst hc hd rW hd2;have e:vs.toArray++ws.toArray=(vs++ws).toArray:=by simp
 by_cases hw:ws=[]
 ·exact concat_meets ⟨_,ho,rfl⟩ ⟨_,CN,rfl⟩ hZ ji PySem.F.slot_tuple_add PySem.F.entry_tuple_add (PySem.F.args_tuple_add_2 _ _)
   (tuple_addW1 t b vs.toArray ws.toArray n n2 dd M7 sl Lr (by simpa using hv) (by simp[hw])) ⟨ho,CN,h1 hw⟩
 ·refine concat_meets ⟨_,ho,rfl⟩ ⟨_,CN,rfl⟩ hZ ji PySem.F.slot_tuple_add PySem.F.entry_tuple_add (PySem.F.args_tuple_add_2 _ _)
   (tuple_addW2 t b vs.toArray ws.toArray n n2 dd M7 sl Lr (by simpa using hv) (by simpa using hw) (by rw[Ub,Ub];exact hsz)) ⟨ho,CN,?_⟩
  rw[e];exact h2 hw
noncomputable def cf(n d:Nat):Option Int->Nat
 |none=>d
 |some v=>if v<0 then(v+(n:Int)).toNat else min v.toNat n
theorem qdd(n d:Nat)(hd:d<=n)(o:Option Int):cf n d o<=n:=by
 cases o with
 |none=>exact hd
 |some v =>
  show(if v<0 then(v+(n:Int)).toNat else min v.toNat n)<=n;by_cases hv:v<0
  ·rw[if_pos hv];lia
  ·rw[if_neg hv];exact Nat.min_le_right _ _
theorem OK(v:Int)(n d:Nat):(if v<0 then max (v+(n:Int)) 0 else min v (n:Int))=((cf n d (some v):Nat):Int):=by
 show(if v<0 then max (v+(n:Int)) 0 else min v (n:Int))=(((if v<0 then(v+(n:Int)).toNat else min v.toNat n):Nat):Int);by_cases hv:v<0
 ·simp only[if_pos hv];lia
 ·simp only[if_neg hv];lia
theorem ZbU(lo hi:Option Int)(n:Nat):aq.Slice.sliceAdjust lo hi 1 (n:Int)=(((cf n 0 lo:Nat):Int),((cf n n hi:Nat):Int)):=by
 have h1:¬((1:Int)<0):=by lia
 unfold aq.Slice.sliceAdjust;simp only[h1,if_false];refine Xv ?_ ?_
 ·cases lo with
  |none=>rfl
  |some v=>exact OK v n 0
 ·cases hi with
  |none=>rfl
  |some v=>exact OK v n n
theorem YbO(i j:Nat):aq.Slice.slicePlaces (i:Int) (j:Int) 1=j-i:=by
 unfold aq.Slice.slicePlaces;have h1:(1:Int)>0:=by lia
 simp only[h1,if_true,Int.ediv_one];split <;> lia
theorem OX{v:aa}{o:Option Int}{Q:Option Int->af->Prop}(p:eX v o)(h:Q o s):ah (ak prog w) A (aq.Slice.slicePartIndex v) Q E s:=by
 cases p with
 |none=>exact iP h
 |int i t=>exact slicePart_int h
theorem ZP{sl:ae}{vl vu:aa}{lo hi:Option Int}{n:Nat}{Q:Int×Int×Nat->af->Prop}(hs:s.heap.IsSliceOf sl vl vu .none)(pl:eX vl lo)(pu:eX vu hi)
  (h:Q (((cf n 0 lo:Nat):Int),1,cf n n hi-cf n 0 lo) s):ah (ak prog w) A (aq.Slice.sliceApplied (.ref sl) (pure (n:Int))) Q E s:=by
 obtain⟨os,pD,nI,Am⟩:=id hs;unfold aq.Slice.sliceApplied aq.Slice.sliceFields;refine ab (ab (aH pD Am (x:=vl) rfl (ab (aH pD Am (x:=vu) rfl (ab (aH pD Am (x:=.none) rfl (ag ?_)))))));refine ab (iP ?_);show ah _ _ (if((1:Int)==0)=true then _ else _) _ _ s;rw[if_neg (by decide)];refine ab (OX pl (ab (OX pu (ab (ag ?_)))));show ah _ _ (match aq.Slice.sliceAdjust lo hi 1 (n:Int) with|(lo,hi)=>pure (lo,(1:Int),aq.Slice.slicePlaces lo hi 1)) _ _ s;rw[ZbU lo hi n];show ah _ _ (pure (((cf n 0 lo:Nat):Int),(1:Int),aq.Slice.slicePlaces ((cf n 0 lo:Nat):Int) ((cf n n hi:Nat):Int) 1)) _ _ s;rw[YbO];exact ag h
theorem zcv(xs:Array aa)(i k:Nat):((Xd k).filterMap λ(m:Nat)=>xs[((i:Int)+(m:Int)*1).toNat]?).toArray=((xs.toList.drop i).take k).toArray:=by
 have e:(λ(m:Nat)=>xs[((i:Int)+(m:Int)*1).toNat]?)=λm=>xs[i+m]?:=by
  funext m;have:((i:Int)+(m:Int)*1).toNat=i+m:=by lia
  rw[this]
 rw[e];have:=pick_run xs i k;rw[List.filterMap_map] at this;have e2:((λx=>xs[x]?)∘λx=>i+x)=λm=>xs[i+m]?:=rfl;rw[e2] at this;rw[this]
theorem gO{t sl:ae}{items:Array aa}{vl vu:aa}{lo hi:Option Int}{Q:aa->af->Prop}(ht:f' s.heap t items)(hs:s.heap.IsSliceOf sl vl vu .none)(pl:eX vl lo)(pu:eX vu hi)
  (hw:¬(cf items.size 0 lo=0/\cf items.size items.size hi=items.size))
  (h:Q (.ref s.heap.objs.size) {s with heap:=s.heap.push {cls:=.type "tuple",data:=.seq ((items.toList.drop (cf items.size 0 lo)).take (cf items.size items.size hi-cf items.size 0 lo)).toArray}})
  (hsz:items.size<=sizeLine):ah (ak prog w) A (getItem (.ref t) (.ref sl)) Q E s:=by
 have kI:sizeOk (.seq ((items.toList.drop (cf items.size 0 lo)).take (cf items.size items.size hi-cf items.size 0 lo)).toArray):=by
  show((items.toList.drop (cf items.size 0 lo)).take (cf items.size items.size hi-cf items.size 0 lo)).toArray.size<=sizeLine;rw[Ub,Uo,XA,wm]
  lia
 have hj:cf items.size items.size hi<=items.size:=qdd _ _ (wb _) hi;obtain⟨os,pD,nI,Am⟩:=id hs;have HS:s.TypeIs (.ref sl) "slice":=⟨os,pD,nI⟩;unfold getItem
 try with_reducible refine aK ?_
 first|refine ab (ag ?_)|skip
 refine ab (gG ht.typeIs (by decide) ?_);refine ab (aU (name:=Str.ofString "__getitem__") ht.typeIs PyProof.Rows.slot_tuple_getitem
  (bj PyProof.Rows.slot_tuple_getitem ht.typeIs entry_tuple_getitem ?_ (gA _ _)))
 show ah _ _ (aq.Tuple.tupleItemsOf (.ref t) >>= _) _ _ s;refine ab (je ht ?_);refine ab (cC HS ?_);rw[if_pos (by decide)];refine ab (ZP hs pl pu ?_);have hno:¬((((cf items.size 0 lo:Nat):Int)==0&&(1:Int)==1&&(cf items.size items.size hi-cf items.size 0 lo)==items.size)=true):=by
  intro q;rw[Wa,Wa] at q;have q1:((cf items.size 0 lo:Nat):Int)=0:=eq_of_beq q.1.1;have q2:cf items.size items.size hi-cf items.size 0 lo=items.size:=eq_of_beq q.2;exact hw ⟨by lia,by lia⟩
 show ah _ _ (if(((cf items.size 0 lo:Nat):Int)==0&&(1:Int)==1&&(cf items.size items.size hi-cf items.size 0 lo)==items.size)=true then _ else _) _ _ s;rw[if_neg hno,zcv]
 first
  |exact ab (m:=aq.Tuple.tupleExact _) (aW (ag ⟨_,rfl,ag h⟩) kI)
  |exact ab (m:=aq.Tuple.tupleExact _) (aW (ab (ag (ag ⟨_,rfl,ag h⟩))) kI)
  |exact ab (ab (m:=aq.Tuple.tupleExact _) (aW (ag (ag ⟨_,rfl,ag h⟩)) kI))
  |exact ab (ab (m:=aq.Tuple.tupleExact _) (aW (ag ⟨_,rfl,ag h⟩) kI))
end
end HT
namespace L2
open PySem PySem.Spec PyProof.Rows
noncomputable abbrev TO:=St->Hp->(Option Int->Hp->Prop)->Prop
noncomputable def PO(X:Cx)(e:Option Expr)(t:TO):Prop :=
 ∀(pins:List (ae×Obj)) (s:af) (σ:St) (H:Hp) (Q:Option Int->Hp->Prop),Inv X pins σ H s->t σ H Q ->
  ah (ak X.prog X.w) X.A (evalPart e X.env) (λu s'=>∃ o H',Inv X pins σ H' s'/\eX u o/\Q o H') X.xe s
noncomputable def zcF:TO:=λ_ H Q=>Q none H
noncomputable def tG(t:TE):TO:=λσ H Q=>t σ H λx H1=>∃ i,x=.int i/\Q (some i) H1
section
variable {X:Cx} {e:Expr} {te:TE} {lo hi:Option Expr} {tl th:TO} {pos p2:Pos}
theorem ZcP:PO X none zcF:=by
 intro pins s σ H Q I h;rw[fZ];exact ag ⟨none,H,I,.none,h⟩
theorem LW(h:PE X e te):PO X (some e) (tG te):=by
 intro pins s σ H Q I hw;rw[evalPart_some];refine bg (h pins s σ H _ I hw) λu s1 ⟨x,H1,I1,r1,q1⟩=>?_;obtain⟨i,rfl,q⟩:=q1;obtain⟨t,rfl⟩:=r1;exact⟨some i,H1,I1,.int i t,q⟩
noncomputable def Dx(X:Cx)(r:V->Option Int->Option Int->Hp->VK->Prop):Prop :=
 ∀(pins:List (ae×Obj)) (s:af) (σ:St) (H:Hp) (x:V) (v vl vu:aa) (lo hi:Option Int) (sl:ae) (Q:VK),Inv X pins σ H s->RelV x v->s.heap.IsSliceOf sl vl vu .none->eX vl lo->eX vu hi->r x lo hi H Q ->
  ∃ T id,gg (.type T) "__getitem__"=pure (some (.builtin id))/\s.TypeIs v T/\ah (ak X.prog X.w) X.A (getItem v (.ref sl)) (EP X pins σ Q) X.xe s
noncomputable def tSl(r:V->Option Int->Option Int->Hp->VK->Prop)(te:TE)(tl th:TO):TE:=λσ H Q=>te σ H λx H1=>tl σ H1 λl H2=>th σ H2 λu H3=>r x l u H3 Q
theorem qcD{r:V->Option Int->Option Int->Hp->VK->Prop}(hr:Dx X r)(he:PE X e te)(hl:PO X lo tl)(hu:PO X hi th):PE X (.Subscript e (.Slice lo hi none p2) pos) (tSl r te tl th):=by
 intro pins s σ H Q I h;refine i7 (bg (he pins s σ H _ I h) λv s1 ⟨x,H1,I1,r1,q1⟩=>?_);refine wpAny_Slice (bg (hl pins s1 σ H1 _ I1 q1) λvl s2 ⟨l,H2,I2,pl,q2⟩=>bg (hu pins s2 σ H2 _ I2 q2) λvu s3 ⟨u,H3,I3,pu,q3⟩=>?_);rw[fZ];refine ag ?_;have I4:Inv X pins σ H3 {s3 with heap:=s3.heap.push {cls:=.type "slice",data:=.fields #[vl,vu,.none]}}:=I3.kept (t':=s3.toks) λb ob q=>wa _ q;obtain⟨T,id,hT,ht,hg⟩:=hr pins {s3 with heap:=s3.heap.push {cls:=.type "slice",data:=.fields #[vl,vu,.none]}} σ H3 x v vl vu l u s3.heap.objs.size Q I4 r1 (Heap.IsSliceOf.new ..) pl pu q3;show ah (ak X.prog X.w) X.A (fW e (.Slice lo hi none p2) v (.ref s3.heap.objs.size)) (EP X pins σ Q) X.xe {s3 with heap:=s3.heap.push {cls:=.type "slice",data:=.fields #[vl,vu,.none]}};exact tail_any (ops:=[.ref s3.heap.objs.size,v]) ht hT hg (by with_unfolding_all rfl)
noncomputable def nZ(xs:List V)(lo hi:Option Int):List V:=(xs.drop (HT.cf xs.length 0 lo)).take (HT.cf xs.length xs.length hi-HT.cf xs.length 0 lo)
theorem Og(xs:List V)(lo hi:Option Int):(nZ xs lo hi).length<=xs.length:=by
 unfold nZ;rw[Uo,XA]
 lia
noncomputable def F9(K:PySem.W.Frag):V->Option Int->Option Int->Hp->VK->Prop:=λx lo hi H Q=>∃ a xs,x=.ref a/\fU K H a xs /\
 ¬(HT.cf xs.length 0 lo=0/\HT.cf xs.length xs.length hi=xs.length)/\∀ p,H p=none->Q (.ref p) (upd H p (.tup (nZ xs lo hi)))
theorem zc4:Dx X (F9 X.K):=by
 intro pins s σ H x v vl vu lo hi sl Q I rx hs pl pu h;obtain⟨a,xs,rfl,hx,hw,q⟩:=h;cases rx;obtain⟨aA,r,ht,hz⟩:=I.tuple hx;have hlen:aA.toArray.size=xs.length:=by rw[Ub];exact r.length.symm
 refine⟨"tuple",_,PyProof.Rows.slot_tuple_getitem.lookup,ht.typeIs,?_⟩;refine HT.gO ht hs pl pu (by rw[hlen];exact hw) ?_ (by rw[hlen];exact hz);rw[hlen];refine⟨.ref s.heap.objs.size,_,I.laid (t':=s.toks) (o:=.tup (nZ xs lo hi)) (λb ob q=>wa _ q) (wb _) ?_,rfl,q _ (I.aR.fresh (wb _))⟩;exact⟨vf (Og xs lo hi) hz,_,(r.drop (HT.cf xs.length 0 lo)).take (HT.cf xs.length xs.length hi-HT.cf xs.length 0 lo),f'.new _ _⟩
noncomputable def uR(K:PySem.W.Frag):R2:=λx y H Q=>∃ a b xs ys,x=.ref a/\y=.ref b/\fU K H a xs/\fU K H b ys/\xs≠[]/\xs.length+ys.length<=sizeLine /\
 (ys=[]->Q (.ref a) H)/\(ys≠[]->∀ p,H p=none->Q (.ref p) (upd H p (.tup (xs++ys))))
theorem Vals.nil_iff{xs:List V}{us:List aa}(r:Vals xs us):us=[]↔xs=[]:=by
 cases r with
 |nil=>simp
 |cons _ _=>simp
theorem QcM:cA X (a7 .Add) (uR X.K):=by
 intro pins s σ H x y v u Q I rx ry h;obtain⟨a,b,xs,ys,rfl,rfl,ha,hb,hx,hz,q1,q2⟩:=h;cases rx;cases ry;obtain⟨aA,r1,p1,_⟩:=I.tuple ha;obtain⟨gM,r2,p2,_⟩:=I.tuple hb;refine HT.nR p1 p2 (λz=>hx (r1.nil_iff.mp z)) (λz=>⟨.ref a,H,I,rfl,q1 (r2.nil_iff.mp z)⟩) (λz=>?_) (by rw[<- r1.length,<- r2.length];exact hz);refine⟨.ref s.heap.objs.size,_,I.laid (t':=s.toks) (o:=.tup (xs++ys)) (λb ob q=>wa _ q) (wb _) ?_,rfl,q2 (λw=>z (r2.nil_iff.mpr w)) _ (I.aR.fresh (wb _))⟩;exact⟨by rw[vg];exact hz,_,r1.append r2,f'.new _ _⟩
end
noncomputable def rO(n:Nat)(i:Int):Option Nat:=if 0<=i then(if i<n then some i.toNat else none) else if -(n:Int)<=i then some (i+n).toNat else none
noncomputable def se{α:Type}(xs:List α)(i:Int):Option α:=(rO xs.length i).bind λj=>xs[j]?
theorem KS{n:Nat}{i:Int}{j:Nat}(h:rO n i=some j):seqIndex? i n=some j/\j<n/\-(n:Int)<=i/\i<n:=by
 unfold rO at h;by_cases h0:0<=i
 ·rw[if_pos h0] at h;by_cases h1:i<n
  ·rw[if_pos h1] at h;have e:i.toNat=j:=Option.some.inj h;exact⟨by rw[ij h0 h1,e],by lia,by lia,h1⟩
  ·rw[if_neg h1] at h;cases h
 ·rw[if_neg h0] at h;by_cases h1:-(n:Int)<=i
  ·rw[if_pos h1] at h;have e:(i+n).toNat=j:=Option.some.inj h;exact⟨by rw[seqIndex_neg (by lia) h1,e],by lia,h1,by lia⟩
  ·rw[if_neg h1] at h;cases h
theorem OG{α:Type}{xs:List α}{i:Int}{v:α}(h:se xs i=some v):∃ j,seqIndex? i xs.length=some j/\xs[j]?=some v/\j<xs.length/\-(xs.length:Int)<=i/\i<xs.length:=by
 unfold se at h;cases e:rO xs.length i with
 |none=>rw[e] at h;cases h
 |some j =>
  rw[e] at h;obtain⟨h1,h2,h3,h4⟩:=KS e;exact⟨j,h1,h,h2,h3,h4⟩
noncomputable def KR(b:Expr):Prop:=∀ o i,subscripted b false o i=operate [o,i] (getItem o i)
noncomputable def Bq(X:Cx)(r:R2):Prop :=
 ∀(value slice:Expr)(pins:List (ae×Obj)) (s:af) (σ:St) (H:Hp) (x y:V) (v u:aa) (Q:VK),Inv X pins σ H s->RelV x v->RelV y u->r x y H Q ->
  subscripted slice false v u=operate [v,u] (getItem v u)->ah (ak X.prog X.w) X.A (fW value slice v u) (EP X pins σ Q) X.xe s
noncomputable def nV(X:Cx)(id:String)(r:V->List V->Hp->VK->Prop):Prop :=
 ∀(pins:List (ae×Obj)) (s:af) (σ:St) (H:Hp) (x:V) (xs:List V) (v:aa) (us:List aa) (Q:VK),Inv X pins σ H s->RelV x v->Vals xs us->r x xs H Q ->
  ah (ak X.prog X.w) X.A (call (.builtin id) (v::us)) (EP X pins σ Q) X.xe s
section
variable {X:Cx} {a b:Expr} {ta tb:TE} {pos:Pos}
theorem vH{r:R2}(hr:Bq X r)(ha:PE X a ta)(hb:PE X b tb)(hs:KR b):PE X (.Subscript a b pos) (BZ r ta tb):=by
 intro pins s σ H Q I h;exact i7 (pV ha hb I h λv u s2 x y H2 I2 rx ry q=>hr a b pins s2 σ H2 x y v u Q I2 rx ry q (hs _ _))
noncomputable def Gi(K:PySem.W.Frag):R2:=λx y H Q=>∃ p xs i v,x=.ref p/\y=.int i/\fq K H p xs/\se xs i=some v/\Q v H
noncomputable def Gf(K:PySem.W.Frag):R2:=λx y H Q=>∃ p xs i v,x=.ref p/\y=.int i/\fU K H p xs/\se xs i=some v/\Q v H
theorem YcV:Bq X (Gi X.K):=by
 intro value slice pins s σ H x y v u Q I rx ry h hs;obtain⟨p,xs,i,z,rfl,rfl,hq,he,q⟩:=h;cases rx;obtain⟨t,rfl⟩:=ry;obtain⟨aA,r,pl,hz⟩:=I.list hq;obtain⟨j,h1,h2,h3,h4,h5⟩:=OG he;obtain⟨w,ew,F4⟩:=r.get h2;have hl:=r.length;have hn:=Df;have fin:EP X pins σ Q w s:=⟨z,H,I,F4,q⟩;by_cases h0:0<=i
 ·have hj:i.toNat=j:=by
   rw[ij h0 h5] at h1;exact Option.some.inj h1
  exact item_listR pl.isList h0 (by lia) (by rw[hj];simpa using ew) fin hs
 ·have hj:(i+(aA.toArray.size:Int)).toNat=j:=by
   rw[seqIndex_neg (by lia) h4] at h1;rw[Ub,<- hl];exact Option.some.inj h1
  exact eW (x:=w) pl.isList.typeIs slot_list_getitem.lookup
   (wpAny_getItem_list_neg (Q:=λr s'=>r=w/\EP X pins σ Q r s') pl.isList (by lia) (by rw[Ub] <;> lia) (by lia) (by rw[hj];simpa using ew) ⟨rfl,fin⟩) hs
theorem Zc9:Bq X (Gf X.K):=by
 intro value slice pins s σ H x y v u Q I rx ry h hs;obtain⟨p,xs,i,z,rfl,rfl,hq,he,q⟩:=h;cases rx;obtain⟨t,rfl⟩:=ry;obtain⟨aA,r,pl,hz⟩:=I.tuple hq;obtain⟨j,h1,h2,h3,h4,h5⟩:=OG he;obtain⟨w,ew,F4⟩:=r.get h2;have hl:=r.length;have hn:=Df;have fin:EP X pins σ Q w s:=⟨z,H,I,F4,q⟩;exact eW (x:=w) pl.typeIs slot_tuple_getitem.lookup
  (getItem_tuple (j:=j) (Q:=λr s'=>r=w/\EP X pins σ Q r s') pl (by lia) (by lia) (by rw[Ub,<- hl];exact h1) (by simpa using ew) ⟨rfl,fin⟩) hs
theorem QbH(aA:List aa)(n j:Nat)(u:aa):Obj.mapSeq (·.setIfInBounds j u) {cls:=.type "list",data:=.seq aA.toArray n}={cls:=.type "list",data:=.seq (aA.set j u).toArray n}:=by
 simp[Obj.mapSeq]
theorem Inv.lst{pins:List (ae×Obj)}{σ:St}{H:Hp}{s:af}{p:ae}{xs:List V}(I:Inv X pins σ H s)(h:H p=some (.lst xs)) :
  ∃(aA:List aa)(n:Nat),Vals xs aA/\s.heap.get? p=some {cls:=.type "list",data:=.seq aA.toArray n}/\xs.length<=sizeLine:=by
 obtain⟨z,aA,n,r,e⟩:=I.aR p _ h;exact⟨aA,n,r,e,z⟩
theorem Inv.pd{pins:List (ae×Obj)}{σ:St}{H:Hp}{s:af}{p:ae}{xs ys:List V}{aA its':List aa}{n n':Nat}{f:Obj->Obj}(I:Inv X pins σ H s)(h:H p=some (.lst xs))
  (ho:s.heap.get? p=some {cls:=.type "list",data:=.seq aA.toArray n}) (hf:f {cls:=.type "list",data:=.seq aA.toArray n}={cls:=.type "list",data:=.seq its'.toArray n'}) (r:Vals ys its') (hz:ys.length<=sizeLine) (t:Nat) :
  Inv X pins σ (upd H p (.lst ys)) {s with heap:=s.heap.update p f,toks:=t}:=by
 have e:(s.heap.update p f).get? p=some {cls:=.type "list",data:=.seq its'.toArray n'}:=by
  rw[Vp f ho (by rw[hf] <;> rfl),hf]
 refine I.write (x:=p) (e:=p) (by rw[h];trivial) (.inl rfl) (λb u hb q=>(Uj _ _ (Ne.symm hb)).trans q) ⟨_,e⟩ ?_;exact⟨hz,its',n',r,e⟩
noncomputable def uN:V->V->V->Hp->(Hp->Prop)->Prop:=λo i v H Q=>∃ p xs k j,o=.ref p/\i=.int k/\H p=some (.lst xs)/\rO xs.length k=some j/\Q (upd H p (.lst (xs.set j v)))
theorem Zcw:Bm X uN:=by
 intro pins s σ H o i v ov iv u Q I ro ri rv h;obtain⟨p,xs,k,j,rfl,rfl,hp,hj,q⟩:=h;cases ro;obtain⟨t,rfl⟩:=ri;obtain⟨aA,n,r,ho,hz⟩:=I.lst hp;obtain⟨h1,h2,h3,h4⟩:=KS hj;have hl:=r.length;have hn:=Df;have I':Inv X pins σ (upd H p (.lst (xs.set j v))) {s with heap:=s.heap.update p (Obj.mapSeq (·.setIfInBounds j u))} :=
  I.pd hp ho (QbH aA n j u) (r.set rv j) (by rw[List.length_set];exact hz) s.toks
 by_cases h0:0<=k
 ·have hk:k.toNat=j:=by
   rw[ij h0 h4] at h1;exact Option.some.inj h1
  exact PySem.W.ki_setAt ho h0 (by lia) (by rw[Ub,<- hl];exact h4) (by rw[hk];exact⟨_,I',q⟩)
 ·have hk:(k+(aA.toArray.size:Int)).toNat=j:=by
   rw[seqIndex_neg (by lia) h3] at h1;rw[Ub,<- hl];exact Option.some.inj h1
  exact PySem.W.ki_setBack ho (by lia) (by rw[Ub,<- hl];exact h3) (by lia) (by rw[hk];exact⟨_,I',q⟩)
theorem Ybj(lo hi:Option Int)(n:Nat):(cu lo hi none n).1=((HT.cf n 0 lo:Nat):Int)/\(cu lo hi none n).2.1=((HT.cf n n hi:Nat):Int)/\(cu lo hi none n).2.2=1:=by
 refine⟨?_,?_,rfl⟩
 ·cases lo with
  |none=>simp[cu,HT.cf]
  |some i =>
   simp only[cu,HT.cf,UF,show(1:Int)>0 by decide,if_true];by_cases h:i<0
   ·simp only[h,if_true] <;> lia
   ·simp only[h,if_false] <;> lia
 ·cases hi with
  |none=>simp[cu,HT.cf]
  |some i =>
   simp only[cu,HT.cf,UF,show(1:Int)>0 by decide,if_true];by_cases h:i<0
   ·simp only[h,if_true] <;> lia
   ·simp only[h,if_false] <;> lia
theorem ya2(aA:List aa)(lo hi:Option Int):slicePick aA.toArray lo hi none=((aA.drop (HT.cf aA.length 0 lo)).take (HT.cf aA.length aA.length hi-HT.cf aA.length 0 lo)).toArray:=by
 obtain⟨h1,h2,h3⟩:=Ybj lo hi aA.toArray.size;unfold slicePick;rw[h1,h2,h3];simp only[sliceRange_one,pick_run,Ub] <;> rfl
noncomputable def Ga(K:PySem.W.Frag):V->Option Int->Option Int->Hp->VK->Prop:=λx lo hi H Q=>∃ a xs,x=.ref a/\fq K H a xs/\∀ p,H p=none->Q (.ref p) (upd H p (.lst (nZ xs lo hi)))
theorem LQ:Dx X (Ga X.K):=by
 intro pins s σ H x v vl vu lo hi sl Q I rx hs pl pu h;obtain⟨a,xs,rfl,hx,q⟩:=h;cases rx;obtain⟨aA,r,ht,hz⟩:=I.list hx;have hlen:=r.length;refine⟨"list",_,slot_list_getitem.lookup,ht.isList.typeIs,?_⟩;refine dZ ht.isList hs pl pu .none (by simp) ?_ (by rw[Ub] <;> lia);rw[ya2,<- hlen];refine⟨.ref s.heap.objs.size,_,I.laid (t':=s.toks) (o:=.lst (nZ xs lo hi)) (λb ob q=>wa _ q) (wb _) ?_,rfl,q _ (I.aR.fresh (wb _))⟩;exact⟨vf (Og xs lo hi) hz,_,0,(r.drop (HT.cf xs.length 0 lo)).take (HT.cf xs.length xs.length hi-HT.cf xs.length 0 lo),xb _ rfl⟩
theorem Zbs:aP X (.builtin "len") (λxs H Q=>∃ p ys,xs=[.ref p]/\(fq X.K H p ys\/fU X.K H p ys)/\Q (.int ys.length) H):=by
 intro pins s σ H xs us Q I r h;obtain⟨p,ys,rfl,hq,q⟩:=h;obtain⟨u,rfl,rx⟩:=Ej r;cases rx;have hn:=Df
 rcases hq with hq|hq
 ·obtain⟨aA,r',pl,hz⟩:=I.list hq;have hlen:=r'.length;exact Calls.call_len_list pl.isList (by simp only[Ub] <;> lia) ⟨.int ys.length,H,I.tok _,⟨s.toks+1,by rw[Ub,hlen]⟩,q⟩
 ·obtain⟨aA,r',pl,hz⟩:=I.tuple hq;have hlen:=r'.length;exact len_tuple pl (by simp only[Ub] <;> lia) ⟨.int ys.length,H,I.tok _,⟨s.toks+1,by rw[Ub,hlen]⟩,q⟩
theorem zbh:aP X (.type "list") (λxs H Q=>∃ p ys,xs=[.ref p]/\(fq X.K H p ys\/fU X.K H p ys)/\∀ l,H l=none->Q (.ref l) (upd H l (.lst ys))):=by
 intro pins s σ H xs us Q I r h;obtain⟨p,ys,rfl,hq,q⟩:=h;obtain⟨u,rfl,rx⟩:=Ej r;cases rx;have fin:∀(aA:List aa),Vals ys aA->ys.length<=sizeLine->∀(h':Heap)(c':Nat),(∀ b o',s.heap.get? b=some o'->h'.get? b=some o') ->
   h'.get? s.heap.objs.size=some {cls:=.type "list",dict:=none,data:=.seq aA.toArray c',slots:=#[]}->EP X pins σ Q (.ref s.heap.objs.size) {s with heap:=h'}:=λaA r' hz h' c' kp e =>
  ⟨.ref s.heap.objs.size,_,I.laid (t':=s.toks) kp (wb _) (show bf X.prog X.w _ h' _ (.lst ys) from⟨hz,aA,c',r',e⟩),rfl,q _ (I.aR.fresh (wb _))⟩
 rcases hq with hq|hq
 ·obtain⟨aA,r',pl,hz⟩:=I.list hq;have hlen:=r'.length;obtain⟨o,ho,hc,n,hd⟩:=pl.isList;exact ju p (.inl rfl) ho hc hd (λh' c' kp e=>fin aA r' hz h' c' kp e) (by simp only[Ub] <;> lia)
 ·obtain⟨aA,r',pl,hz⟩:=I.tuple hq;have hlen:=r'.length;obtain⟨o,ho,hc,n,hd⟩:=pl;exact ju p (.inr rfl) ho hc hd (λh' c' kp e=>fin aA r' hz h' c' kp e) (by simp only[Ub] <;> lia)
theorem Ya2:aP X (.type "tuple") (λxs H Q=>∃ p ys,xs=[.ref p]/\((fq X.K H p ys/\∀ l,H l=none->Q (.ref l) (upd H l (.tup ys)))\/(fU X.K H p ys/\Q (.ref p) H))):=by
 intro pins s σ H xs us Q I r h;obtain⟨p,ys,rfl,h⟩:=h;obtain⟨u,rfl,rx⟩:=Ej r;cases rx
 rcases h with ⟨hq,q⟩|⟨hq,q⟩
 ·obtain⟨aA,r',pl,hz⟩:=I.list hq;have hlen:=r'.length;refine call_tuple_list pl.isList (λh' kp=>?_) (by simp only[Ub] <;> lia);have I1:Inv X pins σ H {s with heap:=h'}:=I.kept (t':=s.toks) kp;have I2:Inv X pins σ (upd H h'.objs.size (.tup ys)) {s with heap:=h'.push {cls:=.type "tuple",data:=.seq aA.toArray}} :=
   I1.laid (t':=s.toks) (λb o e=>wa _ e) (wb _) (show bf X.prog X.w _ _ _ (.tup ys) from⟨hz,aA,r',f'.new _ _⟩)
  exact⟨.ref h'.objs.size,_,I2,rfl,q _ (I1.aR.fresh (wb _))⟩
 ·obtain⟨aA,r',pl,hz⟩:=I.tuple hq;exact call_tuple_same pl ⟨.ref p,H,I,rfl,q⟩
noncomputable def FA(K:PySem.W.Frag)(T:String)(x:V)(H:Hp):Prop:=match x with
 |.str _=>T="str"
 |.int _=>T="int"
 |.ref p=>(T="list"/\∃ xs,fq K H p xs)\/(T="tuple"/\∃ o,K.lookup p=some o/\o.cls=.type "tuple"/\o.dict=none) \/
   (T="dict"/\((∃ kvs,H p=some (.dK kvs))\/∃ kvs,H p=some (.dT kvs)))\/(T="set"/\∃ S n,H p=some (.set S n))
 |_=>False
theorem Zdg{pins:List (ae×Obj)}{σ:St}{H:Hp}{s:af}{T:String}{x:V}{v:aa}(I:Inv X pins σ H s)(r:RelV x v)(ty:FA X.K T x H) :
  s.TypeIs v T/\∀ a,v=.ref a->∃ ob,s.heap.get? a=some ob/\ob.dict=none:=by
 cases x with
 |str z =>
  obtain⟨t,rfl⟩:=r;cases(show T="str" from ty);exact⟨typeIs_str s z t,λ_ e=>nomatch e⟩
 |int i =>
  obtain⟨t,rfl⟩:=r;cases(show T="int" from ty);exact⟨iL s i t,λ_ e=>nomatch e⟩
 |ref p =>
  cases r
  rcases ty with ⟨rfl,xs,hq⟩|⟨rfl,o,hk,hc,hd⟩|⟨rfl,hk⟩|⟨rfl,S,n,hk⟩
  ·obtain⟨aA,_,pl,_⟩:=I.list hq;refine⟨pl.isList.typeIs,λa e=>?_⟩;cases e;obtain⟨o,n,e,c,hd,_⟩:=pl;exact⟨o,e,hd⟩
  ·refine⟨⟨o,I.gY p o hk,hc⟩,λa e=>?_⟩;cases e;exact⟨o,I.gY _ o hk,hd⟩
  ·have z:∃ o,s.heap.get? p=some o/\o.ExactDict:=by
    rcases hk with ⟨kvs,hk⟩|⟨kvs,hk⟩
    ·obtain⟨_,_,_,_,o,_,_,e,ex,_⟩:=I.aR p _ hk;exact⟨o,e,ex⟩
    ·obtain⟨_,_,_,_,o,_,_,e,ex,_⟩:=I.aR p _ hk;exact⟨o,e,ex⟩
   obtain⟨o,e,ex⟩:=z;refine⟨⟨o,e,ex.1⟩,λa e2=>?_⟩;cases e2;exact⟨o,e,ex.2.1⟩
  ·obtain⟨o,_,_,_,e,ex,_⟩:=I.aR p _ hk;refine⟨⟨o,e,ex.1⟩,λa e2=>?_⟩;cases e2;exact⟨o,e,ex.2.1⟩
 |_=>exact False.elim ty
noncomputable def tBM(K:PySem.W.Frag)(T:String)(r:V->List V->Hp->VK->Prop)(to:TE)(t:TA):TE:=λσ H Q=>to σ H λx H1=>FA K T x H1/\t σ H1 λxs H2=>r x xs H2 Q
variable {o e:Expr} {es:List Expr} {to:TE} {t:TA} {name:Str} {apos gw:Pos} {T id:String} {r:V->List V->Hp->VK->Prop}
theorem vI(pa:PlainAttrs T)(slot:Slot T name id)(G8:typeOf (.builtin id)=pure (.type "method_descriptor"))(hm:nV X id r)(ho:PE X o to)(ha:PA X (e::es) t)
  (iW:a9 o name X.env (eval o X.env)=eval o X.env:=by rfl)
  (l9:((bh gw (au (e::es) X.env)).all (λx=>!x.1)&&(dh gw (bG [] X.env)).all (λx=>x.1.isSome)
   && decide ((e::es).length+([]:List cP).length+(if([]:List cP).isEmpty then 0 else 1)<30))=true:=by rfl)
  (dJ:(apos.endLine==gw.line)=true:=by rfl) (hs:au (e::es) X.env=(false,eval e X.env)::au es X.env:=by rfl) (pC:(bh gw (au es X.env)).any (·.1)=false:=by rfl) :
  PE X (.Call (.Attribute o name apos) (e::es) [] gw) (tBM X.K T r to t):=by
 intro pins s σ H Q I h;refine wpAny_Call_method_late iW l9 dJ rfl (bg (ho pins s σ H _ I h) λv s1 ⟨x,H1,I1,r1,ty,q1⟩=>?_);obtain⟨h1,h2⟩:=Zdg I1 r1 ty;refine⟨T,id,pa,slot,G8,h1,h2,?_⟩;have hA:=ha gw pins s1 σ H1 _ I1 q1;rw[hs] at hA ⊢;refine Calls.callWith_builtin (by show(false||(bh gw (au es X.env)).any (·.1))=false;rw[pC] <;> rfl) (Calls.evalArgs_plain ?_);exact bg hA λus s2 ⟨vs,H2,I2,r2,q2⟩=>hm pins s2 σ H2 x vs v us Q I2 r1 r2 q2
end
noncomputable def O8(X:Cx)(id:String)(r:V->List V->Hp->VK->Prop):Prop :=
 ∀(pins:List (ae×Obj)) (s:af) (σ:St) (H:Hp) (x:V) (xs:List V) (v:aa) (us:List aa) (Q:VK),Inv X pins σ H s->RelV x v->Vals xs us->r x xs H Q ->
  ah (ak X.prog X.w) X.A (call (.builtin id) (v::us)) (EP X pins σ Q) X.xe s
theorem Vals.one:∀{x:V}{us:List aa},Vals [x] us->∃ u,us=[u]/\RelV x u
 |_,_,.cons r .nil=>⟨_,rfl,r⟩
theorem Vals.dropLast{xs:List V}{us:List aa}(h:Vals xs us):Vals xs.dropLast us.dropLast:=by
 induction h with
 |nil=>exact .nil
 |cons r t ih =>
  cases t with
  |nil=>exact .nil
  |cons q t'=>exact .cons r ih
theorem Vals.reverse{xs:List V}{us:List aa}(h:Vals xs us):Vals xs.reverse us.reverse:=by
 induction h with
 |nil=>exact .nil
 |cons r t ih=>rw[Vr,Vr];exact Vals.append ih (.cons r .nil)
theorem Vals.rep{xs:List V}{us:List aa}(h:Vals xs us):∀ k:Nat,Vals (uc k xs).flatten (uc k us).flatten
 |0=>.nil
 |k+1=>by
  rw[Xo,Xo,Ws,Ws];exact Vals.append h (Vals.rep h k)
theorem Ydd{α:Type}(l:List α):l.eraseIdx (l.length-1)=l.dropLast:=by
 induction l with
 |nil=>rfl
 |cons a r ih =>
  cases r with
  |nil=>rfl
  |cons b r =>
   have e:(a::b::r).length-1=((b::r).length-1)+1:=by
    have h1:(a::b::r).length=r.length+2:=rfl;have h2:(b::r).length=r.length+1:=rfl
    lia
   rw[e,List.eraseIdx_cons_succ,ih]
   all_goals rfl
theorem O6(aA:List aa):∀(k:Nat)(acc:List aa),
  xG (λx1 x2=>x1++x2) acc.toArray (uc k aA.toArray)=(acc++(uc k aA).flatten).toArray
 |0,acc=>by simp
 |k+1,acc=>by
  have e:acc.toArray++aA.toArray=(acc++aA).toArray:=by simp
  have e2:(acc++aA)++(uc k aA).flatten=acc++(uc (k+1) aA).flatten:=by
   rw[Xo,Ws,uh]
  rw[<- e2,<- O6 aA k (acc++aA),<- e,Xo,Vl]
section
variable {X:Cx} {pins:List (ae×Obj)} {σ:St} {H:Hp} {s:af} {l b:ae} {xs ys zs:List V}
theorem Inv.wM{aA its':List aa}{n:Nat}{f:Array aa->Array aa}{t':Nat}(I:Inv X pins σ H s)(hH:H l=some (.lst xs))
  (e:s.heap.get? l=some {cls:=.type "list",data:=.seq aA.toArray n}) (hf:f aA.toArray=its'.toArray) (hv:Vals ys its') (hz:ys.length<=sizeLine) :
  Inv X pins σ (upd H l (.lst ys)) {s with heap:=s.heap.update l (Obj.mapSeq f),toks:=t'}:=by
 have q:=PySem.IsL.update e f;rw[hf] at q;refine I.write (x:=l) (e:=l) (by rw[hH];exact trivial) (.inl rfl) (λb' u hb hu=>(Uj s.heap (Obj.mapSeq f) (Ne.symm hb)).trans hu) ⟨_,q⟩ ?_;exact⟨hz,its',_,hv,q⟩
theorem Inv.wQ{aA:List aa}{t':Nat}(I:Inv X pins σ H s)(hv:Vals ys aA)(hz:ys.length<=sizeLine) :
  Inv X pins σ (upd H s.heap.objs.size (.lst ys)) {s with heap:=s.heap.push {cls:=.type "list",data:=.seq aA.toArray},toks:=t'} :=
 I.laid (λ_ _ q=>wa _ q) (wb _) ⟨hz,aA,0,hv,xb _ rfl⟩
theorem Inv.fresh(I:Inv X pins σ H s):H s.heap.objs.size=none:=I.aR.fresh (wb _)
theorem Inv.wL(I:Inv X pins σ H s)(hH:H l=some (.lst xs)):xs.length<=sizeLine/\∃(aA:List aa)(n:Nat),Vals xs aA/\xs.length=aA.length/\s.heap.get? l=some {cls:=.type "list",data:=.seq aA.toArray n}:=by
 obtain⟨z,aA,n,r,e⟩:=I.aR l _ hH;exact⟨z,aA,n,r,r.length,e⟩
theorem LN{n:Nat}(h:n<=sizeLine):aq.List.listTooLong n=false:=by
 unfold aq.List.listTooLong;exact decide_eq_false (by lia)
end
section
variable {X:Cx}
noncomputable def QcT:V->List V->Hp->VK->Prop:=λx vs H Q=>∃ l xs y,x=.ref l/\vs=[y]/\H l=some (.lst xs)/\xs.length<sizeLine/\Q .bI (upd H l (.lst (xs++[y])))
theorem ycc:O8 X "list.append" QcT:=by
 intro pins s σ H x vs v us Q I rx rv h;obtain⟨l,xs,y,rfl,rfl,hH,hz,q⟩:=h;cases rx;obtain⟨u,rfl,ru⟩:=rv.one;obtain⟨z,aA,n,r,hl,e⟩:=I.wL hH;refine gy F.slot_list_append ⟨_,e,rfl⟩ F.entry_list_append (F.args_list_append_2 _ _) (PySem.list_append l aA.toArray n u (by rw[Ub];lia)) ⟨e,?_⟩;refine⟨.bI,_,I.wM (its':=aA++[u]) hH e (by simp) (r.append (.cons ru .nil)) ?_,rfl,q⟩;rw[vg,vB]
 lia
noncomputable def B8:V->List V->Hp->VK->Prop:=λx vs H Q=>∃ l b xs zs,x=.ref l/\vs=[.ref b]/\H l=some (.lst xs)/\H b=some (.lst zs)/\xs.length+zs.length<=sizeLine/\Q .bI (upd H l (.lst (xs++zs)))
noncomputable def rPop:V->List V->Hp->VK->Prop:=λx vs H Q=>∃ l xs y,x=.ref l/\vs=[]/\H l=some (.lst xs)/\xs[xs.length-1]?=some y/\Q y (upd H l (.lst xs.dropLast))
theorem qcQ{α:Type}(xs:List α)(k:Nat):(uc k xs).flatten.length=k*xs.length:=by
 induction k with
 |zero=>simp
 |succ k ih=>rw[Xo,Ws,vg,ih,Nat.succ_mul,Nat.add_comm]
end
end L2
namespace Pf
open PySem PySem.W PySem.Calls PyProof.Rows
theorem qaG{P:Params}{h:Heap}:∀(ns:List Int)(vs:List aa),WellAll P h vs (ns.map WData.int)->fM vs ns:=by
 intro ns
 induction ns with
 |nil =>
  intro vs w;rw[xp] at w;cases w;exact .nil
 |cons n ns ih =>
  intro vs w;rw[Wb] at w;cases w with
  |cons a b =>
   cases a;exact .cons _ _ (ih _ b)
theorem qb6{l:OpenLaw}{n:Nat}(hn:l.most=some n){P:Params}{h:Heap}{args:List WData}{vals:List aa}
  (nD:l.row.toRowW.claim.pre args=true) (G6:WellAll P h vals args) :
  ∃ a vs ns,vals=[aa.ref a]/\args=[WData.list (ns.map WData.int)]/\h.get? a=some {cls:=.type "list",data:=.seq vs.toArray}/\fM vs ns/\ns.length<=n:=by
 have hsh:WShape.hasAll [] args [.list .int]=true:=(pre_splitW nD).1;have hc:l.pre.holds [] {args:=args}=true:=(pre_splitW nD).2;obtain⟨d,r,rfl,h1,h2⟩:=hasAllW_cons hsh;obtain rfl:=hasAllW_nil h2;obtain⟨xs,rfl,h3⟩:=hasW_list h1;obtain⟨ns,rfl⟩:=items_int h3;have hlen:ns.length<=n:=by
  unfold OpenLaw.pre at hc;have h4:(WTm.not (.lt (.lit (.int (n:Int))) (.len (.arg 0)))).holds [] {args:=[.list (ns.map .int)]}=true:=by
   have h4:=(holds_andW hc).1;rw[hn] at h4;exact h4
  have h5:=condW_of h4 (w_not (w_lt w_lit (w_len_list (w_arg rfl))));rw[xc] at h5;refine vF λq=>?_;have q':(n:Int)<((ns.length:Nat):Int):=by lia
  first
   |(rw[decide_eq_true q'] at h5;exact absurd h5 (by decide))
   |(simp at h5;lia)
 cases G6 with
 |cons w1 w2 =>
  cases w2;cases w1 with
  |list ho md=>exact⟨_,_,ns,rfl,rfl,ho,qaG ns _ md,hlen⟩
theorem Yb1(l:OpenLaw)(args:List WData):l.row.toRowW.claim.post args (.bool true) args=true :=
 postW_of (r:=l.row.toRowW) (X:=(true==true))
  (show WShape.has [] (.bool true) .bool=true by first|rfl|decide|simp[WShape.has,WShape.arms,WShape.armsAll])
  (show(WTm.eq .res (.lit (.bool true))).value [] {args:=args,res:=some (.bool true),after:=args}=some (.bool (true==true)) from w_eq_bool (w_res rfl) w_lit) rfl
theorem j5{l:OpenLaw}{n:Nat}{q:aj}{loose:List Str}{XP:(Str->Option aa)->Heap->Prop}{YP:World->Heap->Prop}{d:DefRec}
  (hn:l.most=some n) (HE:d.params.defaults=[])
  (call:∀(w:World)(s₀ s₁:af)(mg mb:Str->Option aa)(fa:ae)(o:Obj) (pm cd doc:aa) (a:ae) (vs:List aa) (ns:List Int),
   Ground q loose [] XP w s₀ mg mb s₁.heap->YP w s₁.heap ->
   s₁.heap.get? fa=some o->o.data=.func (docDef d.name d.params d.body d.scope pm cd doc)->s₁.heap.CodeRec cd d.name->mg d.name=some (.ref fa) ->
   s₁.heap.get? a=some {cls:=.type "list",data:=.seq vs.toArray}->fM vs ns->ns.length<=n->s₁.gens=#[] ->
   bJ (ak l.prog w) fK (.call (.ref fa) ⟨[.ref a],[]⟩) (λr s'=>r=.ok (.ret (.bool true))/\OldK s₁.heap s'.heap/\s'.os=s₁.os/\dD s'.gens) s₁) :
  WalkO q loose XP YP l.row.toRowW d [] (λf vs=>PySem.call f vs):=by
 intro w s₀ s₁ mg mb G Y fa o pm cd doc dV kV ho hd jq hD nG hg args vals as nD hlay hrd G6 hlo;obtain rfl:dV=.none:=Dflts.none hD HE;obtain rfl:kV=.none:=Dflts.noKw hD;obtain⟨a,vs,ns,rfl,rfl,pE,hints,hlen⟩:=qb6 hn nD G6;refine enter_call (cO (call w s₀ s₁ mg mb fa o pm cd doc a vs ns G Y ho (fd_plain hd) jq nG pE hints hlen hg) λr s' hq=>?_);obtain⟨rfl,h2,h3,h4⟩:=hq;exact⟨.inl ⟨.bool true,.bool true,[],rfl,λ_=>rfl,.bool true,Yb1 l _,λ_=>⟨List.Pairwise.nil,λ_ hm=>(nomatch hm)⟩⟩,h2,h3,h4⟩
end Pf
namespace L2
open PySem PySem.Spec PyProof.Rows
theorem O2:∀{vs:List aa}{ns:List Int},fM vs ns->Vals (ns.map V.int) vs
 |_,_,.nil=>.nil
 |_,_,.cons n t h=>.cons ⟨t,rfl⟩ (O2 h)
noncomputable abbrev bM{K:PySem.W.Frag}{h:Heap}(_:K.In h):PySem.W.Frag:=K
noncomputable def yT(s:Stmt)(j:Nat):Stmt:=match s with
 |.ClassDef _ _ _ body _ _ _ _ _ _ _=>body.getD j (.Pass ⟨0,0,0,0⟩)
 |_=>.Pass ⟨0,0,0,0⟩
noncomputable def Yi(s:Stmt):jA:=match s with
 |.FunctionDef _ a _ _ _ _ _ _ _ _=>a
 |_=>{posonlyargs:=[],args:=[],vararg:=none,kwonlyargs:=[],kw_defaults:=[],kwarg:=none,defaults:=[]}
noncomputable def Yf(s:Stmt):List Stmt:=match s with
 |.FunctionDef _ _ b _ _ _ _ _ _ _=>b
 |_=>[]
noncomputable def qb(s:Stmt):az:=match s with
 |.FunctionDef _ _ _ _ _ _ sc _ _ _=>sc
 |_=>{kind:=.function,names:=[],isGenerator:=false,isCoroutine:=false}
noncomputable abbrev CX0:kQ:=λ_ _ _ _ _ _=>False
noncomputable abbrev E0:XK:=λ_ _ _=>False
structure rn (K:PySem.W.Frag) (x qual:Str) (st:Stmt) (f:ae) (fd:bu):Prop where
 ex:∃(oc:aa)(od:Option ae)(kV doc pm:aa)(an:Option ae)(dF ct:aa) (jk:Array (Option aa)),
  fd=Ve x qual (Yi st) (Yf st) (qb st) .none kV doc pm an dF ct/\K.lookup f=some ⟨oc,od,.func fd,jk⟩/\xg K dF qual=true
 kp:we K (.ref f)=true
section
variable {P:aj} {w:World} {K:PySem.W.Frag} {mg:Str->Option aa} {base:Heap}
theorem rn.binds{x qual:Str}{st:Stmt}{f:ae}{fd:bu}{ps:List Str}(F:rn K x qual st f fd)
  (h:∀(kV doc pm:aa)(an:Option ae)(dF ct:aa)(us:List aa),us.length=ps.length->bindArgs (Ve x qual (Yi st) (Yf st) (qb st) .none kV doc pm an dF ct) ⟨us,[]⟩=pure (ps.zip us)):Binds K fd ps []:=by
 obtain⟨oc,od,kV,doc,pm,an,dF,ct,jk,rfl,lk,jq⟩:=F.ex;exact .all (h kV doc pm an dF ct)
theorem yK{x qual:Str}{st:Stmt}{f:ae}{oc:aa}{od an:Option ae}{jk:Array (Option aa)}{kV doc pm dF ct:aa}(l:K.lookup f=some ⟨oc,od,.func (Ve x qual (Yi st) (Yf st) (qb st) .none kV doc pm an dF ct),jk⟩)
  (c:xg K dF qual=true) (k:we K (.ref f)=true):rn K x qual st f (Ve x qual (Yi st) (Yf st) (qb st) .none kV doc pm an dF ct):=⟨⟨oc,od,kV,doc,pm,an,dF,ct,jk,rfl,l,c⟩,k⟩
end
noncomputable def JB(H H':Hp):Prop:=∀ b o,H b=some o->H' b=some o
section
variable {κ:Type} [DecidableEq κ]
noncomputable def mw(kvs:List (κ×V))(k:κ):Option V:=(kvs.find? λkv=>decide (kv.1=k)).map (·.2)
noncomputable def yF(kvs:List (κ×V))(k:κ)(v:V):List (κ×V) :=
 if(kvs.any λkv=>decide (kv.1=k))=true then kvs.map (λkv=>if kv.1=k then(kv.1,v) else kv) else kvs++[(k,v)]
theorem D9{p:κ×V}{r:List (κ×V)}{k:κ}(e:p.1=k):mw (p::r) k=some p.2:=by simp[mw,Vq,e]
theorem Jw{p:κ×V}{r:List (κ×V)}{k:κ}(e:¬ p.1=k):mw (p::r) k=mw r k:=by simp[mw,Vq,e]
theorem IU(k:κ):∀ kvs:List (κ×V),(kvs.any λkv=>decide (kv.1=k))=(mw kvs k).isSome
 |[]=>rfl
 |p::r=>by
  rw[ut];by_cases e:p.1=k
  ·simp only[D9 e,decide_eq_true e,Bool.true_or,vD]
  ·rw[Jw e,decide_eq_false e,Bool.false_or];exact IU k r
theorem qJ(kvs:List (κ×V))(k:κ)(v:V):(yF kvs k v).length<=kvs.length+1:=by
 unfold yF;split
 ·rw[xc];lia
 ·rw[vg,ud,Uk];lia
theorem gU.isSome_eq{o:Option V}{u:Option aa}(r:gU o u):o.isSome=u.isSome:=by
 cases o with
 |none=>cases u with
  |none=>rfl
  |some _=>exact(show False from r).elim
 |some _=>cases u with
  |none=>exact(show False from r).elim
  |some _=>rfl
theorem KV.val{kvs:List (κ×V)}{vs:List (κ×aa)}(r:KV kvs vs)(k:κ):gU (mw kvs k) (gJ vs k):=by
 unfold KV at r
 induction r with
 |nil=>exact True.intro
 |@cons p q ps qs h t ih =>
  obtain⟨h1,h2⟩:=h;by_cases e:p.1=k
  ·have e':q.1=k:=h1.symm.trans e;have b:gJ (q::qs) k=some q.2:=by simp[gJ,Vq,e']
   rw[D9 e,b];exact h2
  ·have e':¬ q.1=k:=λz=>e (h1.trans z);have b:gJ (q::qs) k=gJ qs k:=by simp[gJ,Vq,e']
   rw[Jw e,b];exact ih
theorem KV.any{kvs:List (κ×V)}{vs:List (κ×aa)}(r:KV kvs vs)(k:κ):(kvs.any λkv=>decide (kv.1=k))=vs.any λkv=>decide (kv.1=k):=by
 unfold KV at r
 induction r with
 |nil=>rfl
 |cons h t ih=>rw[ut,ut,ih,h.1]
theorem KV.oW{kvs:List (κ×V)}{vs:List (κ×aa)}(r:KV kvs vs)(k:κ){y:V}{u:aa}(ry:RelV y u) :
  KV (kvs.map λkv=>if kv.1=k then(kv.1,y) else kv) (vs.map λkv=>if kv.1=k then(kv.1,u) else kv):=by
 unfold KV at r ⊢
 induction r with
 |nil=>exact .nil
 |@cons p q ps qs h t ih =>
  rw[Wb,Wb];refine .cons ?_ ih;obtain⟨h1,h2⟩:=h;by_cases e:p.1=k
  ·rw[if_pos e,if_pos (h1.symm.trans e)];exact⟨h1,ry⟩
  ·rw[if_neg e,if_neg (λz=>e (h1.trans z))];exact⟨h1,h2⟩
theorem KV.put{kvs:List (κ×V)}{vs:List (κ×aa)}(r:KV kvs vs)(k:κ){y:V}{u:aa}(ry:RelV y u):KV (yF kvs k y) (stored vs k u):=by
 unfold yF stored;rw[r.any k];by_cases e:(vs.any λkv=>decide (kv.1=k))=true
 ·rw[if_pos e,if_pos e];exact r.oW k ry
 ·rw[if_neg e,if_neg e];exact bU.snoc r ⟨rfl,ry⟩
theorem KV.keys{kvs:List (κ×V)}{vs:List (κ×aa)}(r:KV kvs vs):kvs.map (·.1)=vs.map (·.1):=by
 unfold KV at r
 induction r with
 |nil=>rfl
 |cons h t ih=>rw[Wb,Wb,ih,h.1]
theorem KV.length{kvs:List (κ×V)}{vs:List (κ×aa)}(r:KV kvs vs):kvs.length=vs.length:=bU.length r
end
theorem Cb{P:aj}{w:World}{k:Key}{u:aa}(r:RelV (kV k) u):(ye P w).is k u=true:=by
 cases k with
 |inl i=>obtain⟨t,e⟩:=(show ∃ t,u=aa.int i t from r);subst e;exact Qbz P w i t
 |inr x=>obtain⟨t,e⟩:=(show ∃ t,u=aa.str x t from r);subst e;exact Qbw P w x t
theorem Nr{P:aj}{w:World}:∀{ks:List Key}{us:List aa},Vals (ks.map kV) us->ItemsAre (ye P w) ks us
 |[],_,r=>by rw[xp] at r;cases r;exact .nil
 |k::ks,_,r=>by
  rw[Wb] at r;cases r with
  |cons h t=>exact .cons (Cb h) (Nr t)
noncomputable abbrev KT(H:Hp):List (List Key×V)->List (List Key×ae×aa)->Prop:=bU λp q=>p.1=q.1/\H q.2.1=some (.tup (p.1.map kV))/\RelV p.2 q.2.2
theorem KT.val{H:Hp}{kvs:List (List Key×V)}{xs:List (List Key×ae×aa)}(r:KT H kvs xs)(k:List Key):gU (mw kvs k) ((i6 xs k).map (·.2)):=by
 induction r with
 |nil=>exact True.intro
 |@cons p q ps qs h t ih =>
  obtain⟨h1,_,h2⟩:=h;by_cases e:p.1=k
  ·have e':q.1=k:=h1.symm.trans e;have b:i6 (q::qs) k=some q.2:=by simp[i6,Vq,e']
   rw[D9 e,b];exact h2
  ·have e':¬ q.1=k:=λz=>e (h1.trans z);have b:i6 (q::qs) k=i6 qs k:=by simp[i6,Vq,e']
   rw[Jw e,b];exact ih
theorem KT.oW{H:Hp}{kvs:List (List Key×V)}{xs:List (List Key×ae×aa)}(r:KT H kvs xs)(k:List Key){y:V}{u:aa}(ry:RelV y u) :
  KT H (kvs.map λkv=>if kv.1=k then(kv.1,y) else kv) (xs.map (putAt k u)):=by
 induction r with
 |nil=>exact .nil
 |@cons p q ps qs h t ih =>
  rw[Wb,Wb];refine .cons ?_ ih;obtain⟨h1,h2,h3⟩:=h;unfold putAt;by_cases e:p.1=k
  ·rw[if_pos e,if_pos (h1.symm.trans e)];exact⟨h1,h2,ry⟩
  ·rw[if_neg e,if_neg (λz=>e (h1.trans z))];exact⟨h1,h2,h3⟩
theorem KT.put{H:Hp}{kvs:List (List Key×V)}{xs:List (List Key×ae×aa)}(r:KT H kvs xs)(k:List Key){b:ae}{y:V}{u:aa}(hb:H b=some (.tup (k.map kV)))(ry:RelV y u) :
  KT H (yF kvs k y) (dU xs k b u):=by
 have e:(kvs.any λkv=>decide (kv.1=k))=(i6 xs k).isSome:=by
  rw[IU,(r.val k).isSome_eq,wF]
 unfold yF dU;rw[e];by_cases q:(i6 xs k).isSome=true
 ·rw[if_pos q,if_pos q];exact r.oW k ry
 ·rw[if_neg q,if_neg q];exact bU.snoc r ⟨rfl,hb,ry⟩
theorem KT.keeps{H H':Hp}{kvs:List (List Key×V)}{xs:List (List Key×ae×aa)}(r:KT H kvs xs)(ht:∀ b ys,H b=some (.tup ys)->H' b=some (.tup ys)):KT H' kvs xs :=
 bU.pb r λ_ _ z=>⟨z.1,ht _ _ z.2.1,z.2.2⟩
section
variable {P:aj} {w:World} {H:Hp} {h:Heap} {a:ae}
theorem J9{u:HO}(ok:fe P w H h)(e:Rd H a u):bf P w H h a u:=e.ok ok
theorem Gm{kvs:List (Key×V)}(ok:fe P w H h)(e:Rd H a (.dK kvs)):kvs.length<=sizeLine/\(a==bq)=false/\∃ vs,KV kvs vs/\h.DictOf (ye P w) a vs :=
 show bf P w H h a (.dK kvs) from J9 ok e
theorem Gk{kvs:List (Key×V)}(ok:fe P w H h)(e:H a=some (.dK kvs)):kvs.length<=sizeLine/\(a==bq)=false/\∃ vs,KV kvs vs/\h.DictOf (ye P w) a vs:=Gm ok (.inl e)
theorem DA{ks:List Key}(ok:fe P w H h)(e:H a=some (.tup (ks.map kV))):(aD (ye P w)).is h ks a:=by
 obtain⟨_,aA,r,o,h1,h2,n,h3⟩:=(show bf P w H h a (.tup (ks.map kV)) from ok a _ e);exact⟨o,aA.toArray,n,h1,h2,h3,by simpa using Nr r⟩
theorem Di{kvs:List (List Key×V)}(ok:fe P w H h)(e:Rd H a (.dT kvs)):kvs.length<=sizeLine/\(a==bq)=false /\
  ∃ xs,KT H kvs xs/\h.DictOfH (aD (ye P w)) a xs:=by
 obtain⟨z,y,xs,r,o,es,ep,h1,h2,h3,h4,h5⟩:=(show bf P w H h a (.dT kvs) from J9 ok e);refine⟨z,y,xs,r,o,es,ep,h1,h2,h3,h4,λx hx=>?_,h5⟩;have all:∀{l:List (List Key×V)} {m:List (List Key×ae×aa)},KT H l m->∀ x∈m,(aD (ye P w)).is h x.1 x.2.1:=by
  intro l m q
  induction q with
  |nil=>intro x hx;exact nomatch hx
  |@cons p q ps qs hq t ih =>
   intro x hx
   rcases ua.mp hx with e|hx
   ·subst e;exact DA ok (by rw[<- hq.1];exact hq.2.1)
   ·exact ih x hx
 exact all r x hx
theorem OA{kvs:List (List Key×V)}(ok:fe P w H h)(e:H a=some (.dT kvs)):kvs.length<=sizeLine/\(a==bq)=false /\
  ∃ xs,KT H kvs xs/\h.DictOfH (aD (ye P w)) a xs:=Di ok (.inl e)
end
noncomputable def Bv(H:Hp)(a:ae)(y:V)(r:Option V):Prop :=
 (∃ kvs k,Rd H a (.dK kvs)/\y=kV k/\r=mw kvs k)\/∃ kvs k b,Rd H a (.dT kvs)/\y=.ref b/\H b=some (.tup (k.map kV))/\r=mw kvs k
noncomputable def mE(H:Hp)(a:ae)(y v:V)(H':Hp):Prop :=
 (∃ kvs k,H a=some (.dK kvs)/\y=kV k/\kvs.length<sizeLine/\H'=upd H a (.dK (yF kvs k v))) \/
 ∃ kvs k b,H a=some (.dT kvs)/\y=.ref b/\H b=some (.tup (k.map kV))/\kvs.length<sizeLine/\H'=upd H a (.dT (yF kvs k v))
theorem mE.k{H:Hp}{a:ae}{kvs:List (Key×V)}{k:Key}{v:V}(e:H a=some (.dK kvs))(hl:kvs.length<sizeLine):mE H a (kV k) v (upd H a (.dK (yF kvs k v))):=.inl ⟨kvs,k,e,rfl,hl,rfl⟩
section
variable {X:Cx} {pins:List (ae×Obj)} {σ:St} {H:Hp} {s:af} {a:ae} {y v:V} {u r:aa} {o:Option V} {A:aw} {E:aa->af->Prop}
theorem Inv.big(I:Inv X pins σ H s):bq<s.heap.objs.size:=by
 have h:ao<s.heap.objs.size:=(I.mod.glob.keeps I.bk).lt;exact xn (by decide) h
theorem QcU{Q:aa->af->Prop}(hu:A.units+1<cR)(I:Inv X pins σ H s)(g:Bv H a y o)(ry:RelV y u)(h:∀ s',Inv X pins σ H s'->Q (.bool (!o.isSome)) s') :
  ah (ak X.prog X.w) A (aL .NotIn u (.ref a)) Q E s:=by
 rcases g with ⟨kvs,k,e,ey,l⟩|⟨kvs,k,b,e,ey,eb,l⟩
 ·subst ey;obtain⟨z,hd,vs,rel,dd⟩:=Gm I.aR e;refine wpAny_notIn_of (Cb ry) hd dd.mapOf ?_;rw[<- (rel.val k).isSome_eq,<- l];exact h _ (I.tok _)
 ·subst ey;cases(show u=aa.ref b from ry);obtain⟨z,hd,xs,rel,dd⟩:=Di I.aR e;refine wpAny_notIn_heap (dH hu) (DA I.aR eb) hd dd ?_;have q:=(rel.val k).isSome_eq;rw[wF] at q;rw[<- q,<- l];exact h _ (I.tok _)
theorem Dp{h':Heap}{t':Nat}{ob:HO}(I:Inv X pins σ H s)(mu:Bp (H a))(hs:Heap.SameBut a s.heap h')(he:∃ q,h'.get? a=some q)(new:bf X.prog X.w (upd H a ob) h' a ob) :
  Inv X pins σ (upd H a ob) {s with heap:=h',toks:=t'} :=
 I.write (x:=a) (e:=a) mu (.inl rfl) (λb q hb z=>(hs.2 b hb).trans z) he new
theorem Ky{P:aj}{w:World}{H':Hp}{h':Heap}{kvs:List (Key×V)}{vs:List (Key×aa)}(z:kvs.length<=sizeLine)(hd:(a==bq)=false)(rel:KV kvs vs)(dd:h'.DictOf (ye P w) a vs) :
  bf P w H' h' a (.dK kvs):=⟨z,hd,vs,rel,dd⟩
theorem Yb7{H':Hp}{Q:Unit->af->Prop}(hu:A.units+1<cR)(I:Inv X pins σ H s)(g:mE H a y v H')(ry:RelV y u)(rv:RelV v r)(h:∀ s',Inv X pins σ H' s'->Q () s') :
  ah (ak X.prog X.w) A (jC (.ref a) u r) Q E s:=by
 rcases g with ⟨kvs,k,e,ey,l,eH⟩|⟨kvs,k,b,e,ey,eb,l,eH⟩
 ·subst ey eH;obtain⟨z,hd,vs,rel,dd⟩:=Gk I.aR e;have hz:vs.length<=sizeLine:=by rw[<- rel.length];exact z
  have hl:(yF kvs k v).length<=sizeLine:=by have:=qJ kvs k v;lia
  refine wpAny_setItem_pairs (hsz:=hz) (Cb ry) dd λh' pP hs=>h _ ?_;have he:∃ q,h'.get? a=some q:=let ⟨q,_,_,hq,_⟩:=pP;⟨q,hq⟩;exact Dp I (by rw[e];exact True.intro) hs he (Ky hl hd (rel.put k rv) pP)
 ·subst ey eH;cases(show u=aa.ref b from ry);obtain⟨z,hd,xs,rel,dd⟩:=OA I.aR e;have hz:xs.length<=sizeLine:=by rw[<- bU.length rel];exact z
  have hl:(yF kvs k v).length<=sizeLine:=by have:=qJ kvs k v;lia
  refine wpAny_setItem_heap (hsz:=hz) (dH hu) (DA I.aR eb) dd λh' pP hs=>h _ ?_;obtain⟨q,es,ep,hq,h2,h3,h4,_,h5⟩:=pP;refine Dp I (by rw[e];exact True.intro) hs ⟨q,hq⟩ ⟨hl,hd,_,(rel.put k eb rv).keeps λc ys ec=>?_,q,es,ep,hq,h2,h3,h4,h5⟩;rw[Zc (KC ec e (λz=>nomatch z))];exact ec
end
noncomputable def Kf(ty td:TE):TE:=λσ H Q=>ty σ H λy H1=>td σ H1 λx H2=>∃ a o,x=.ref a/\Bv H2 a y o/\Q (.bl (!o.isSome)) H2
noncomputable def uH(td ty tv:TE):TS:=λD σ H=>tv σ H λv H1=>td σ H1 λx H2=>ty σ H2 λy H3=>∃ a H4,x=.ref a/\mE H3 a y v H4/\D.nx σ H4
section
variable {X:Cx} {o i e value:Expr} {pos pos' FD:Pos} {td ty tv:TE}
theorem L9(hu:X.A.units+1<cR)(hi:PE X i ty)(ho:PE X o td):PC X .NotIn i o (Kf ty td):=by
 intro pins s σ H Q I h;refine bg (hi pins s σ H _ I h) λiv s1 ⟨y,H1,I1,ry,q1⟩=>bg (ho pins s1 σ H1 _ I1 q1) λu s2 ⟨x,H2,I2,rx,a,ov,ex,g,q2⟩=>?_;subst ex;obtain rfl:u=aa.ref a:=rx;exact QcU hu I2 g ry λs3 I3=>⟨.bl (!ov.isSome),H2,I3,rfl,q2⟩
theorem qcS(hu:X.A.units+1<cR)(ho:PE X o td)(hi:PE X i ty)(hv:PE X value tv)(hs:bo value (some (.Subscript o i pos')) pos.line X.env=pure false) :
  PS X (.Assign [.Subscript o i pos'] value pos) (uH td ty tv):=by
 intro pins s σ H D I h;refine wpAny_Assign_Subscript (bg (hv pins s σ H _ I h) λr s1 ⟨v,H1,I1,rv,q1⟩=>bg (ho pins s1 σ H1 _ I1 q1) λu s2 ⟨x,H2,I2,rx,q2⟩=>bg (hi pins s2 σ H2 _ I2 q2) λiv s3 ⟨y,H3,I3,ry,a,H4,ex,g,q3⟩=>?_) hs;subst ex;obtain rfl:u=aa.ref a:=rx;exact Yb7 hu I3 g ry rv λs4 I4=>⟨σ,H4,I4,q3⟩
end
theorem Zcq{P:aj}{w:World}{H:Hp}(h:Heap)(hb:bq<h.objs.size):bf P w H (h.push {cls:=.type "dict",data:=.dict #[]}) h.objs.size (.dK []) :=
 ⟨um _,beq_eq_false_iff_ne.mpr (Ne.symm (vb hb)),[],.nil,Heap.DictOf.new h⟩
theorem KW{P:aj}{w:World}{H:Hp}(h:Heap)(hb:bq<h.objs.size):bf P w H (h.push {cls:=.type "dict",data:=.dict #[]}) h.objs.size (.dT []) :=
 ⟨um _,beq_eq_false_iff_ne.mpr (Ne.symm (vb hb)),[],.nil,_,#[],0,xb _ rfl,⟨rfl,rfl,rfl⟩,rfl,rfl,List.nodup_nil⟩
noncomputable def Qdb:TE:=λ_ H Q=>∀ p,H p=none->Q (.ref p) (upd H p (.dT []))
section
variable {X:Cx} {pos:Pos}
theorem Yct:PE X (.Dict [] [] pos) Qdb:=λpins s σ H Q I h =>
 wpAny_Dict_empty ⟨.ref s.heap.objs.size,_,I.laid (a:=s.heap.objs.size) (o:=.dT []) (t':=s.toks) (λ_ _ q=>wa _ q) (wb _) (KW s.heap I.big),rfl,h _ (I.aR.fresh (wb _))⟩
end
noncomputable def Gu:List (TE×TE)->St->Hp->(List (V×V)->Hp->Prop)->Prop
 |[],_,H,Q=>Q [] H
 |(tk,tv)::r,σ,H,Q=>tk σ H λx H1=>tv σ H1 λy H2=>Gu r σ H2 λps H3=>Q ((x,y)::ps) H3
noncomputable abbrev VV:List (V×V)->List (aa×aa)->Prop:=bU λp q=>RelV p.1 q.1/\RelV p.2 q.2
noncomputable def DG(X:Cx)(pos:Pos)(keys:List (Option Expr))(values:List Expr)(m7:List (TE×TE)):Prop :=
 ∀(pins:List (ae×Obj)) (s:af) (σ:St) (H:Hp) (Q:List (V×V)->Hp->Prop),Inv X pins σ H s->Gu m7 σ H Q ->
  ah (ak X.prog X.w) X.A (evalPairs (pairTrees keys values X.env pos)) (λvs s'=>∃ ps H',Inv X pins σ H' s'/\VV ps vs/\Q ps H') X.xe s
theorem qcL{X:Cx}{pos:Pos}:DG X pos [] [] []:=λpins s σ H Q I h=>pairTrees_nil_walk ⟨[],H,I,.nil,h⟩
theorem N6{X:Cx}{pos:Pos}{k v:Expr}{ks:List (Option Expr)}{vs:List Expr}{tk tv:TE}{m7:List (TE×TE)}(hk:PE X k tk)(hv:PE X v tv)(hr:DG X pos ks vs m7) :
  DG X pos (some k::ks) (v::vs) ((tk,tv)::m7):=λpins s σ H Q I h =>
 pairTrees_cons_walk (bg (hk pins s σ H _ I h) λu s1 ⟨x,H1,I1,rx,q1⟩=>bg (hv pins s1 σ H1 _ I1 q1) λw2 s2 ⟨y,H2,I2,ry,q2⟩ =>
  bg (hr pins s2 σ H2 _ I2 q2) λws s3 ⟨ps,H3,I3,rel,q3⟩=>⟨(x,y)::ps,H3,I3,.cons ⟨rx,ry⟩ rel,q3⟩)
noncomputable def rE(kvs more:List (Key×V)):List (Key×V):=more.foldl (λacc kv=>yF acc kv.1 kv.2) kvs
theorem KV.merge:∀{more:List (Key×V)} {rs:List (Key×aa)} {kvs:List (Key×V)} {vs:List (Key×aa)},KV more rs->KV kvs vs->KV (rE kvs more) (merged vs rs):=by
 intro more rs kvs vs r;unfold KV at r
 induction r generalizing kvs vs with
 |nil=>intro q;exact q
 |@cons p q ps qs h t ih =>
  intro r0;have e:KV (yF kvs p.1 p.2) (stored vs q.1 q.2):=by
   have:=r0.put p.1 h.2;rw[<- h.1];exact this
  exact ih e
theorem K5:∀(more kvs:List (Key×V)),(rE kvs more).length<=kvs.length+more.length
 |[],kvs=>by show kvs.length<=kvs.length+0;lia
 |p::r,kvs=>by
  have h1:=K5 r (yF kvs p.1 p.2);have h2:=qJ kvs p.1 p.2;show(rE (yF kvs p.1 p.2) r).length<=_;rw[ud];lia
theorem Od{P:aj}{w:World}:∀{kvs:List (Key×V)} {ws:List (aa×aa)},VV (kvs.map λkv=>(kV kv.1,kv.2)) ws->∃ rs,Carries (ye P w) ws rs/\KV kvs rs
 |[],_,r=>by rw[xp] at r;cases r;exact⟨[],True.intro,.nil⟩
 |p::kvs,_,r=>by
  rw[Wb] at r;cases r with
  |@cons a b as bs h t =>
   obtain⟨rs,c,q⟩:=Od (P:=P) (w:=w) t;obtain⟨b1,b2⟩:=b;exact⟨(p.1,b2)::rs,⟨Cb h.1,rfl,c⟩,.cons ⟨rfl,h.2⟩ q⟩
noncomputable def tN(m7:List (TE×TE)):TE:=λσ H Q=>∀ p,H p=none->Gu m7 σ (upd H p (.dK [])) λps H2=>H2 p=some (.dK [])/\∃ kvs:List (Key×V),ps=kvs.map (λkv=>(kV kv.1,kv.2))/\kvs.length<=15/\Q (.ref p) (upd H2 p (.dK (rE [] kvs)))
theorem qcM{X:Cx}{pos:Pos}{keys:List (Option Expr)}{values:List Expr}{m7:List (TE×TE)}(h:DG X pos keys values m7)(md:keys.all (·.isSome)=true)(hl:keys.length=values.length)(h0:keys≠[])
  (h15:keys.length<=15):PE X (.Dict keys values pos) (tN m7):=by
 intro pins s σ H Q I q;have hn:=I.aR.fresh (wb s.heap.objs.size);have I1:=I.laid (a:=s.heap.objs.size) (o:=.dK []) (h':=s.heap.push {cls:=.type "dict",data:=.dict #[]}) (t':=s.toks) (λ_ _ q=>wa _ q) (wb _) (Zcq s.heap I.big);refine wpAny_Dict_walk (knd:=ye X.prog X.w) md hl h0 h15 (bg (h pins _ σ _ _ I1 (q _ hn)) λws s2 ⟨ps,H2,I2,rel,e,kvs,ep,lk,q2⟩=>?_);subst ep;obtain⟨rs,c,rk⟩:=Od (P:=X.prog) (w:=X.w) rel;obtain⟨z,hd,vs0,r0,dd⟩:=Gk I2.aR e;cases r0;refine⟨rs,c,dd,λh' pP hs=>⟨.ref s.heap.objs.size,_,?_,rfl,q2⟩⟩;have hz:(rE [] kvs).length<=sizeLine:=by
  have h1:=K5 kvs [];rw[Uk] at h1;rw[c6];lia
 have he:∃ q,h'.get? s.heap.objs.size=some q:=let ⟨q,_,_,hq,_⟩:=pP;⟨q,hq⟩;exact Dp I2 (by rw[e];exact True.intro) hs he (Ky hz hd (rk.merge .nil) pP)
structure M1 (X:Cx) (o:Expr) (m:Str) (apos:Pos) (e:Expr) (gw:Pos):Prop where
 base:a9 o m X.env (eval o X.env)=eval o X.env
 few:((bh gw (au [e] X.env)).all (λx=>!x.1)&&(dh gw (bG [] X.env)).all (λx=>x.1.isSome)
  && decide (([e]:List Expr).length+([]:List cP).length+(if([]:List cP).isEmpty then 0 else 1)<30))=true
 line:(apos.endLine==gw.line)=true
 trees:bh gw (au [e] X.env)=[(false,eval e X.env)]
noncomputable def Pc(H:Hp)(a:ae):Prop:=(∃ kvs,Rd H a (.dK kvs))\/∃ kvs,Rd H a (.dT kvs)
theorem qc2{X:Cx}{pins:List (ae×Obj)}{σ:St}{H:Hp}{s:af}{a:ae}(I:Inv X pins σ H s)(d:Pc H a) :
  s.TypeIs (.ref a) "dict"/\(∀ b,aa.ref a=.ref b->∃ ob,s.heap.get? b=some ob/\ob.dict=none)/\(a==bq)=false:=by
 rcases d with ⟨kvs,e⟩|⟨kvs,e⟩
 ·obtain⟨_,hd,vs,_,dd⟩:=Gm I.aR e;refine⟨dd.typeIs,λb q=>?_,hd⟩;cases q;obtain⟨ob,_,_,h1,h2,_⟩:=dd;exact⟨ob,h1,h2.2.1⟩
 ·obtain⟨_,hd,xs,_,dd⟩:=Di I.aR e;refine⟨dd.typeIs,λb q=>?_,hd⟩;cases q;obtain⟨ob,_,_,h1,h2,_⟩:=dd;exact⟨ob,h1,h2.2.1⟩
end L2
end
section
namespace M3
open PySem
open Sem (wp)
noncomputable def Ye(env:Env):List (Str×ay)->List (Str×ae)->List (Str×ae)
 |[],cs=>cs
 |(n,k)::r,cs=>Ye env r (if(k == .free)=true then(n,(env.cells.lookup n).getD 0)::cs else cs)
theorem K7(env:Env):∀(names:List (Str×ay)) (cs:List (Str×ae)),(∀ y∈names,y.2=.free->∃ c,env.cells.lookup y.1=some c) ->
  (forIn names cs λ(y:Str×ay)(r:List (Str×ae))=>if(y.2 == .free)=true then do let c<-jK env y.1;pure (ForInStep.yield ((y.1,c)::r)) else pure (ForInStep.yield r):Sem (List (Str×ae)))=pure (Ye env names cs)
 |[],cs,_=>rfl
 |(n,k)::r,cs,h=>by
  have ih:=λfS=>K7 env r fS λy hy=>h y (Wf _ hy);rw[XB];by_cases hk:(k == .free)=true
  ·obtain⟨c,e⟩:=h (n,k) Ug (by simpa using hk);have e':jK env n=pure c:=by unfold jK;rw[e]
   show(if(k == .free)=true then _ else _) >>= _=_;rw[if_pos hk];show(jK env n >>= λc=>_) >>= _=_;rw[e'];show(forIn r ((n,c)::cs) _:Sem _)=_;rw[ih];show _=pure (Ye env r (if(k == .free)=true then(n,(env.cells.lookup n).getD 0)::cs else cs));rw[if_pos hk,e];rfl
  ·show(if(k == .free)=true then _ else _) >>= _=_;rw[if_neg hk];show(forIn r cs _:Sem _)=_;rw[ih];show _=pure (Ye env r (if(k == .free)=true then(n,(env.cells.lookup n).getD 0)::cs else cs));rw[if_neg hk]
theorem L4{env:Env}{scope:az}(h:∀ y∈scope.names,y.2=.free->∃ c,env.cells.lookup y.1=some c):gx scope env=pure (Ye env scope.names []):=by
 have q:=K7 env scope.names [] h;unfold gx;have e:∀(t:Sem (List (Str×ae))),t=pure (Ye env scope.names [])->(t >>= λr=>pure r)=pure (Ye env scope.names []):=λt z=>by rw[z];rfl
 refine e _ (Eq.trans ?_ q)
 congr 1
end M3
end
section
namespace M3
open PySem
open Sem (wp)
section
variable {prog:aj} {w:World} {A:aw} {R:gE->af->Prop} {s:af}
noncomputable abbrev Ng(ifs:List Expr)(env:Env):Sem Bool:=forIn ifs true λc r=>if r=true then do let ok<-jH c env (eval c env);pure (ForInStep.yield ok) else pure (ForInStep.yield r)
theorem zcc{elt target iter:Expr}{ifs:List Expr}{scope:az}{pos:Pos}{it acc:aa}{env:Env}(I:Nat->af->Prop)
  (turn:∀ n s,I n s->ah (ak prog w) A (cU it) (λr s1=>match r with
   |none=>R (.ok .next) s1
   |some v=>ah (ak prog w) A (cg target it v) (λ_ s2=>ah (ak prog w) A (eD target env v) (λ_ s3 =>
     ah (ak prog w) A (Ng ifs env) (λok s4=>if ok=true then ah (ak prog w) A (eval elt env) (λx s5 =>
       ah (ak prog w) A (call (.builtin "list.append") [acc,x]) (λ_ s6=>∃ m,m<n/\I m s6) (λ_ _=>False) s5) (λ_ _=>False) s4
      else ∃ m,m<n/\I m s4) (λ_ _=>False) s3) (λ_ _=>False) s2) (λ_ _=>False) s1) (λ_ _=>False) s)
  (n:Nat) (h:I n s):bJ (ak prog w) A (.compLoop (.ListComp elt [⟨target,iter,ifs,0⟩] scope pos) 0 it acc env) R s:=by
 refine codeAny_loop rfl I (λn s hI=>?_) n h;show ah _ A ((compTurn (.ListComp elt [⟨target,iter,ifs,0⟩] scope pos) 0 it acc env).onRaise (λx=>do noteFrame x env;theTreesLotGoes x)) _ _ s;refine wpAny_noted ?_;rw[compTurn_list];refine ab (bW (ab (aS (turn n s hI) (λr s1 h1=>?_) λ_ _ z=>z.elim)));cases r with
 |none=>exact ag h1
 |some v =>
  refine ab (aS h1 (λ_ s2 h2=>?_) λ_ _ z=>z.elim);refine ab (aS h2 (λ_ s3 h3=>ab (aS h3 (λok s4 h4=>?_) λ_ _ z=>z.elim)) λ_ _ z=>z.elim);cases ok with
  |false=>exact ag ⟨rfl,h4⟩
  |true =>
   refine ab (ab (aS h4 (λx s5 h5=>?_) λ_ _ z=>z.elim));exact ab (aS h5 (λ_ s6 h6=>ag (ag ⟨rfl,h6⟩)) λ_ _ z=>z.elim)
end
noncomputable abbrev mY(C t:ae)(tb:aa):Obj:={cls:=.ref C,data:=.fields #[.ref t,tb,.none,.none,.bool false,.none]}
inductive Tb (h:Heap) (x:ae):aa->Prop where
 |no:Tb h x .none
 |at {T:ae} {o:Obj} {ts:Array aa} (ne:T≠x) (ho:h.get? T=some o) (hd:o.data=.fields ts) (h3:ts[3]?=some .none):Tb h x (.ref T)
structure kN (fs:List ae) (x:ae) (tb:aa) (h h':Heap):Prop where
 keep:∀ b o,b∉fs->b≠x->aa.ref b≠tb->h.get? b=some o->h'.get? b=some o
 slot:∀ b o,b∈fs->b≠x->aa.ref b≠tb->h.get? b=some o->∃ sl,h'.get? b=some {o with slots:=sl}
section
variable {M:Model} {A:aw} {E:aa->af->Prop} {s:af}
theorem Ko{base:Heap}{env:Env}{outer:List Env}{L x C t:ae}{head Lj:aa}{had:Bool}{Q:Unit->af->Prop}
  (CS:A.frames=some (env::outer)) (hl:s.heap.FunFrames base (env::outer)) (hf:env.frame=some L) (he:s.heap.get? x=some (mY C t Lj))
  (h:∀ h' T,(∀ b o,b∉(env::outer).filterMap (·.frame)->b≠x->s.heap.get? b=some o->h'.get? b=some o) ->
   (∀ b o,b∈(env::outer).filterMap (·.frame)->s.heap.get? b=some o->∃ sl,h'.get? b=some {o with slots:=sl}) ->
   h'.get? x=some (mY C t (.ref T))->Tb h' x (.ref T)->s.heap.objs.size<=T->Q () {s with heap:=h'}) :
  ah M A (do let a<-frameOf env;let pl<-entryPlaceOf L had;let b<-EntryCells.newEntry head a .none (dr L) .none pl;setField (.ref x) 1 b) (λ_ s'=>ah M A (setFlight (.ref x) none) Q E s') E s:=by
 have hx:x∉(env::outer).filterMap (·.frame):=λhm=>by
  obtain⟨_,o,ho,nf⟩:=hl.mem hm;rw[he] at ho;cases ho;exact nf _ rfl
 refine ab (wpAny_frameOf_fun CS hl hf λh1 k1=>?_);refine ab (wpAny_entryPlaceOf λpl cF=>?_);unfold EntryCells.newEntry newFields;refine ab (aW ?_ (cF.sizeOk5 _ _ _ _ _));generalize pJ:([head,aa.ref L,aa.none,dr L,aa.none]++(if pl.isEmpty=true then uc 6 aa.none else pl))=cells;have len:3<cells.length:=by rw[<- pJ];simp only[vg,ud,Uk];lia
 have e1:h1.get? x=some (mY C t Lj):=(k1.2.1 x hx).trans he;have e2:=wa {cls:=.type "traceback",dict:=none,data:=.fields cells.toArray} e1;have neT:x≠h1.objs.size:=vb (Ua e1);refine cD e2 rfl (by simp) ?_;have e3:=Vp (Obj.mapFields (·.setIfInBounds 1 (aa.ref h1.objs.size))) e2 (Obj.isFreed_of_fields (Obj.data_mapFields rfl _));have e4:((h1.push {cls:=.type "traceback",dict:=none,data:=.fields cells.toArray}).update x (Obj.mapFields (·.setIfInBounds 1 (aa.ref h1.objs.size)))).get? h1.objs.size=some {cls:=.type "traceback",dict:=none,data:=.fields cells.toArray} :=
  (Uj _ _ neT).trans (xb h1 rfl)
 unfold setFlight;refine ab (aH e3 (vs:=#[.ref t,.ref h1.objs.size,.none,.none,.bool false,.none]) (x:=.ref h1.objs.size) rfl rfl ?_);rw[if_pos (show(aa.ref h1.objs.size != aa.none)=true from by simp)];refine cD e4 rfl (by simpa using len) ?_;have e5:=Vp (Obj.mapFields (·.setIfInBounds 3 ((none:Option ae).elim aa.none λf=>dr f))) e4 (Obj.isFreed_of_fields (Obj.data_mapFields rfl _));have sz:h1.objs.size=s.heap.objs.size:=k1.1;have other:∀ b o,b≠x->h1.get? b=some o->(((h1.push {cls:=.type "traceback",dict:=none,data:=.fields cells.toArray}).update x (Obj.mapFields (·.setIfInBounds 1 (aa.ref h1.objs.size)))).update h1.objs.size (Obj.mapFields (·.setIfInBounds 3 ((none:Option ae).elim aa.none λf=>dr f)))).get? b=some o:=λb o nb eb=>by
  rw[Uj _ _ (Um (Ua eb)),Uj _ _ (Ne.symm nb)];exact wa _ eb
 refine h _ h1.objs.size (λb o hb nb eb=>other b o nb ((k1.2.1 b hb).trans eb)) (λb o hb eb=>?_) ?_ (.at (Ne.symm neT) e5 (Obj.data_mapFields rfl _) ?_) (Xq sz.symm)
 ·obtain⟨sl,q⟩:=k1.2.2 b o eb;exact⟨sl,other b _ (λz=>hx (z ▸ hb)) q⟩
 ·rw[Uj _ _ (Ne.symm neT)];exact e3
 ·simp[Array.getElem?_setIfInBounds,len]
theorem yb2{base:Heap}{env:Env}{outer:List Env}{L x C t:ae}{tb:aa}{Q:Unit->af->Prop}
  (CS:A.frames=some (env::outer)) (hl:s.heap.FunFrames base (env::outer)) (hf:env.frame=some L) (he:s.heap.get? x=some (mY C t tb)) (ht:Tb s.heap x tb)
  (h:∀ h' T,kN ((env::outer).filterMap (·.frame)) x tb s.heap h'->h'.get? x=some (mY C t (.ref T))->Tb h' x (.ref T)->s.heap.objs.size<=T->Q () {s with heap:=h'}) :
  ah M A (leaving env (.ref x)) Q E s:=by
 unfold leaving noteFrame;simp only[hf];refine ab (ab (aH he rfl (x:=tb) rfl ?_));cases ht with
 |no =>
  rw[if_neg (by decide)];exact Ko CS hl hf he λh' T k1 k2 e1 e2 e3=>h h' T ⟨λb o hb nb _ eb=>k1 b o hb nb eb,λb o hb _ _ eb=>k2 b o hb eb⟩ e1 e2 e3
 |@«at» T o ts ne ho hd h3 =>
  rw[if_pos (show(aa.ref T != aa.none)=true from by simp)];refine ab (aH ho hd h3 ?_);rw[if_neg (show ¬((aa.none==dr L)=true) from by simp[dr])];refine ab (cD ho hd (Array.getElem?_eq_some_iff.mp h3).1 ?_);have other:∀ b,b≠T->(s.heap.update T (Obj.mapFields (·.setIfInBounds 3 aa.none))).get? b=s.heap.get? b:=λb nb=>Uj _ _ (Ne.symm nb);have GP:∀ b o,s.heap.get? b=some o->(∀ vs,o.data≠.fields vs)->b≠T:=λb o eb nf z=>by
   rw[z,ho] at eb;cases eb;exact nf ts hd
  refine Ko (s:={s with heap:=s.heap.update T (Obj.mapFields (·.setIfInBounds 3 aa.none))}) CS (hl.of_keeps λb o eb nf=>⟨o,(other b (GP b o eb nf)).trans eb,rfl⟩) hf ((other x (Ne.symm ne)).trans he)
   λh' T' k1 k2 e1 e2 e3=>h h' T' ⟨λb o hb nb nt eb=>k1 b o hb nb ((other b λz=>nt (z ▸ rfl)).trans eb),λb o hb _ nt eb=>k2 b o hb ((other b λz=>nt (z ▸ rfl)).trans eb)⟩ e1 e2 ?_
  have M5:(s.heap.update T (Obj.mapFields (·.setIfInBounds 3 aa.none))).objs.size<=T':=e3;rw[Heap.size_after_update] at M5;exact M5
end
end M3
end
section
namespace M3
open PySem
open Sem (wp)
end M3
end
section
namespace M3
open PySem
open Sem (wp)
section
variable {prog:aj} {w:World} {A:aw} {E:aa->af->Prop} {s:af}
theorem Yav{r l:ae}{i:Nat}{items:Array aa}{x:aa}{Q:aa->af->Prop}(ri:s.heap.IsTupleIter r l i)(hl:s.heap.IsTuple l items)(hx:items[i]?=some x)
  (hQ:∀ h',h'.IsTupleIter r l (i+1)->Heap.SameBut r s.heap h'->Q x {s with heap:=h'}):ah (ak prog w) A (aq.SmallTypes.nextOf (.ref r)) Q E s:=by
 obtain⟨o,ho,hc,hd⟩:=id ri;obtain⟨ol,Hf,_,nl,HD⟩:=hl;unfold aq.SmallTypes.nextOf;apply ab;refine aU (name:=Str.ofString "__next__") ri.typeIs F.slot_tuple_iterator_next (bj F.slot_tuple_iterator_next ri.typeIs F.entry_tuple_iterator_next ?_ (F.args_tuple_iterator_next_1 _));show ah _ _ (field (.ref r) 0 >>= _) _ _ s;apply ab;apply aH ho hd (x:=.ref l) rfl;show ah _ _ (if(aa.ref l==aa.none)=true then _ else _) _ _ s;rw[if_neg (λz:(aa.ref l==aa.none)=true=>absurd z xi)];show ah _ _ (field (.ref r) 1 >>= _) _ _ s;apply ab;apply aH ho hd (x:=.int i 0) rfl;show ah _ _ (fJ (.ref l) >>= _) _ _ s;apply ab;apply aQ Hf HD;simp only[wq,hx];apply ab;refine cD ho hd (by simp) (ag ⟨x,rfl,ag (hQ _ ⟨_,Vp _ ho (Obj.isFreed_of_fields (Obj.data_mapFields hd _)),(Obj.cls_mapFields ..).trans hc,?_⟩ (Heap.SameBut.update ..))⟩);rw[Obj.data_mapFields hd];simp[dr]
theorem yaw{r l:ae}{i:Nat}{items:Array aa}{Q:aa->af->Prop}(hh:A.handled=none)(ri:s.heap.IsTupleIter r l i)(hl:s.heap.IsTuple l items)(hx:items[i]?=none)
  (hE:∀ h' e,Heap.ExtBut r s.heap h'->(∃ o,h'.get? e=some o/\o.cls=.type "StopIteration")->E (.ref e) {s with heap:=h'}):ah (ak prog w) A (aq.SmallTypes.nextOf (.ref r)) Q E s:=by
 obtain⟨o,ho,hc,hd⟩:=id ri;obtain⟨ol,Hf,_,nl,HD⟩:=hl;unfold aq.SmallTypes.nextOf;apply ab;refine aU (name:=Str.ofString "__next__") ri.typeIs F.slot_tuple_iterator_next (bj F.slot_tuple_iterator_next ri.typeIs F.entry_tuple_iterator_next ?_ (F.args_tuple_iterator_next_1 _));show ah _ _ (field (.ref r) 0 >>= _) _ _ s;apply ab;apply aH ho hd (x:=.ref l) rfl;show ah _ _ (if(aa.ref l==aa.none)=true then _ else _) _ _ s;rw[if_neg (λz:(aa.ref l==aa.none)=true=>absurd z xi)];show ah _ _ (field (.ref r) 1 >>= _) _ _ s;apply ab;apply aH ho hd (x:=.int i 0) rfl;show ah _ _ (fJ (.ref l) >>= _) _ _ s;apply ab;apply aQ Hf HD;simp only[wq,hx];apply ab;apply cT;apply ab;refine cD ho hd (by simp) ?_;show ah _ _ (newExc (.type "StopIteration") [] >>= _) _ _ _;apply ab;simp only[newExc,newTuple];apply ab;refine aW ?_ (by size_fits);refine ab (m:=iZ _ _) (fw (a:=aa.none) (by first|rfl|(unfold iZ;rfl)) (aW ?_ (by size_fits)));refine wpAny_raiseNew_none (by first|exact hh|(show A.in1.handled=_;exact hh)) (hE _ _ ((((Heap.SameBut.update ..).extBut).push _).push _) ⟨_,xb _ rfl,rfl⟩)
theorem ybL(hh:A.handled=none)(r l:ae)(jb:l≠r)(items:Array aa) :
  fg prog w A r [r,l] items.size (λi v=>items[i]?=some v) (λi h=>h.IsTupleIter r l i/\h.IsTuple l items) where
 live:=λ_ _ st=>let ⟨o,ho,_⟩:=st.1;⟨o,ho⟩
 frame:=λ_ _ _ st hk=>let ⟨⟨o,e,c⟩,⟨u,f,d⟩⟩:=st;⟨⟨o,hk r (by simp) o e,c⟩,⟨u,hk l (by simp) u f,d⟩⟩
 item:=λi s Q E hi st hQ=>Yav st.1 st.2 (x:=items[i]) (by simp[hi]) λh' a b=>hQ _ h' s.toks (by simp[hi]) ⟨a,let ⟨u,f,d⟩:=st.2;⟨u,b.extBut l u jb f,d⟩⟩ b
 done:=λs Q E st hE=>yaw hh st.1 st.2 (by simp) hE
structure sx (z TI TO i1 i2:ae) (kL kK:List ae):Prop where
 FE:TI≠z
 n6:TO≠z
 tm:TI≠TO
 Li:TI≠i1
 Lh:TI≠i2
 z1:z∉kL
 z2:z∉kK
 t1:TO∉kL
 t2:TO∉kK
 m1:i1∈kL
 m2:i2∈kK
 a1:i1∉kK
 a2:i2∉kL
variable {z TI TO i1 i2:ae} {kL kK:List ae} {n1 n2 k:Nat} {P1 P2:Nat->aa->Prop} {S1 S2:Nat->Heap->Prop} {a b:aa}
theorem Zb6{Q:aa->af->Prop}(Z:sx z TI TO i1 i2 kL kK)(D1:fg prog w A i1 kL n1 P1 S1)(D2:fg prog w A i2 kK n2 P2 S2)(hz:dA s.heap z TI TO .none)(hI:br s.heap TI (.ref i1) (.ref i2))(hO:br s.heap TO a b)
  (s1:S1 k s.heap) (s2:S2 k s.heap) (k1:k<n1) (k2:k<n2)
  (hQ:∀ x y h' tk,P1 k x->P2 k y->dA h' z TI TO (dr s.heap.objs.size)->br h' TO x y->S1 (k+1) h'->S2 (k+1) h'->br h' s.heap.objs.size x y->h'.objs.size=s.heap.objs.size+1 ->
   (∀ c o,c≠z->c≠TO->c≠i1->c≠i2->s.heap.get? c=some o->h'.get? c=some o)->Q (.ref s.heap.objs.size) {s with heap:=h',toks:=tk}) :
  ah (ak prog w) A (aq.«zip.__next__» ⟨[.ref z],[]⟩) (λfin s'=>∃ v,fin=.done (.ret v)/\Q v s') E s:=by
 have Cw:i1≠z:=λe=>Z.z1 (e ▸ Z.m1);have G0:i2≠z:=λe=>Z.z2 (e ▸ Z.m2);have G2:i1≠TO:=λe=>Z.t1 (e ▸ Z.m1);have Mp:i2≠TO:=λe=>Z.t2 (e ▸ Z.m2);have i12:i1≠i2:=λe=>Z.a1 (e ▸ Z.m2);show ah _ _ (field (.ref z) 2 >>= _) _ _ _;apply ab;apply aH hz rfl (x:=.bool false) rfl;show ah _ _ (field (.ref z) 3 >>= _) _ _ _;apply ab;apply aH hz rfl (x:=.ref TI) rfl;apply ab;apply aQ hI rfl;show ah _ _ (aq.SmallTypes.ownedTupleIsFree (.ref z) >>= _) _ _ _;apply ab;unfold aq.SmallTypes.ownedTupleIsFree;apply ab;apply aH hz rfl (x:=.none) rfl;apply ag;simp only[if_true];apply ab;apply cT;apply ab;apply aH hz rfl (x:=.ref TO) rfl;apply ab;refine bp hz (by simp) λh1 y1 g1=>?_;replace y1:dA h1 z TI TO .ellipsis:=y1;apply ab;simp only[ww,List.zipIdx_nil,XB,VB];apply ab;apply ab;apply dY;show ah _ _ (aq.SmallTypes.nextOf (.ref i1) >>= _) _ _ _;apply ab;refine D1.item k _ _ _ k1 (D1.frame _ _ _ s1 λc hc o e=>g1.extBut c o (λq=>Z.z1 (q ▸ hc)) e) λx h2 t2 px q2 g2=>ag ?_;have o2:br h2 TO a b:=g2.extBut _ _ (Ne.symm G2) (g1.extBut _ _ Z.n6 hO);apply ab;apply aQ o2 rfl;apply ab;refine cY o2 λh3 o3 g3=>ab (cq (ag ?_));replace o3:br h3 TO x b:=o3;apply ab;apply ab;apply dY;show ah _ _ (aq.SmallTypes.nextOf (.ref i2) >>= _) _ _ _;apply ab;refine D2.item k _ _ _ k2 (D2.frame _ _ _ s2 λc hc o e=>g3.extBut c o (λq=>Z.t2 (q ▸ hc)) (g2.extBut c o (λq=>Z.a1 (q ▸ hc)) (g1.extBut c o (λq=>Z.z2 (q ▸ hc)) e))) λy h4 t4 py q4 g4=>ag ?_;have o4:br h4 TO x b:=g4.extBut _ _ (Ne.symm Mp) o3;apply ab;apply aQ o4 rfl;apply ab;refine cY o4 λh5 o5 g5=>ab (cq (ag (ag ?_)));replace o5:br h5 TO x y:=o5;apply ab;apply aQ o5 rfl;apply ab;refine wpAny_newTuple ?_;have sz:h5.objs.size=s.heap.objs.size:=by rw[g5.1,g4.1,g3.1,g2.1,g1.1]
 have y5:dA h5 z TI TO .ellipsis:=g5.extBut _ _ (Ne.symm Z.n6) (g4.extBut _ _ (Ne.symm G0) (g3.extBut _ _ (Ne.symm Z.n6) (g2.extBut _ _ (Ne.symm Cw) y1)));have c5:∀ c o,c≠z->c≠TO->c≠i1->c≠i2->s.heap.get? c=some o->h5.get? c=some o:=λc o c1 c2 c3 c4 e=>g5.extBut _ _ c2 (g4.extBut _ _ c4 (g3.extBut _ _ c2 (g2.extBut _ _ c3 (g1.extBut _ _ c1 e))));have r1:S1 (k+1) h5:=D1.frame _ _ _ q2 λc hc o e=>g5.extBut c o (λq=>Z.t1 (q ▸ hc)) (g4.extBut c o (λq=>Z.a2 (q ▸ hc)) (g3.extBut c o (λq=>Z.t1 (q ▸ hc)) e));have r2:S2 (k+1) h5:=D2.frame _ _ _ q4 λc hc o e=>g5.extBut c o (λq=>Z.t2 (q ▸ hc)) e;have lz:z<h5.objs.size:=Ua y5;show ah _ _ (aq.SmallTypes.ownedTupleHandOut (.ref z) (.ref h5.objs.size) >>= _) _ _ _;apply ab;unfold aq.SmallTypes.ownedTupleHandOut;have y6:dA (h5.push {cls:=.type "tuple",data:=.seq #[x,y]}) z TI TO .ellipsis:=wa _ y5;apply ab;refine bp y6 (by simp) λh7 y7 g7=>?_;replace y7:dA h7 z TI TO (dr h5.objs.size):=y7;refine bp y7 (by simp) λh8 y8 g8=>?_;replace y8:dA h8 z TI TO (dr h5.objs.size):=y8;have up:∀ c o,c≠z->h5.get? c=some o->h8.get? c=some o:=λc o c1 e=>g8.extBut _ _ c1 (g7.extBut _ _ c1 (wa _ e));have p8:br h8 h5.objs.size x y:=g8.extBut _ _ (Um lz) (g7.extBut _ _ (Um lz) (xb _ rfl));have n8:h8.objs.size=h5.objs.size+1:=by rw[g8.1,g7.1,Xh]
 rw[sz] at y8 p8 n8;refine ag ⟨_,rfl,?_⟩;show Q (.ref h5.objs.size) _;rw[sz];exact hQ x y h8 t4 px py y8 (up _ _ Z.n6 o5) (D1.frame _ _ _ r1 λc hc o e=>up c o (λq=>Z.z1 (q ▸ hc)) e) (D2.frame _ _ _ r2 λc hc o e=>up c o (λq=>Z.z2 (q ▸ hc)) e) p8 n8 λc o c1 c2 c3 c4 e=>up c o c1 (c5 c o c1 c2 c3 c4 e)
theorem Zcu{Q:Fin->af->Prop}(Z:sx z TI TO i1 i2 kL kK)(D1:fg prog w A i1 kL n1 P1 S1)(D2:fg prog w A i2 kK n2 P2 S2)(hz:dA s.heap z TI TO .none)(hI:br s.heap TI (.ref i1) (.ref i2))(hO:br s.heap TO a b)
  (s1:S1 k s.heap) (s2:S2 k s.heap) (hk:k=n1\/(k<n1/\k=n2))
  (hE:∀ h' e,(∀ c o,c≠z->c≠TO->c≠i1->c≠i2->s.heap.get? c=some o->h'.get? c=some o)->(∃ o,h'.get? e=some o/\o.cls=.type "StopIteration")->∀ tk,E (.ref e) {s with heap:=h',toks:=tk}) :
  ah (ak prog w) A (aq.«zip.__next__» ⟨[.ref z],[]⟩) Q E s:=by
 have Cw:i1≠z:=λe=>Z.z1 (e ▸ Z.m1);have G0:i2≠z:=λe=>Z.z2 (e ▸ Z.m2);have G2:i1≠TO:=λe=>Z.t1 (e ▸ Z.m1);have Mp:i2≠TO:=λe=>Z.t2 (e ▸ Z.m2);show ah _ _ (field (.ref z) 2 >>= _) _ _ _;apply ab;apply aH hz rfl (x:=.bool false) rfl;show ah _ _ (field (.ref z) 3 >>= _) _ _ _;apply ab;apply aH hz rfl (x:=.ref TI) rfl;apply ab;apply aQ hI rfl;show ah _ _ (aq.SmallTypes.ownedTupleIsFree (.ref z) >>= _) _ _ _;apply ab;unfold aq.SmallTypes.ownedTupleIsFree;apply ab;apply aH hz rfl (x:=.none) rfl;apply ag;simp only[if_true];apply ab;apply cT;apply ab;apply aH hz rfl (x:=.ref TO) rfl;apply ab;refine bp hz (by simp) λh1 y1 g1=>?_;replace y1:dA h1 z TI TO .ellipsis:=y1;apply ab;simp only[ww,List.zipIdx_nil,XB,VB];apply ab;apply ab;apply dY;show ah _ _ (aq.SmallTypes.nextOf (.ref i1) >>= _) _ _ _;apply ab;have f1:S1 k h1:=D1.frame _ _ _ s1 λc hc o e=>g1.extBut c o (λq=>Z.z1 (q ▸ hc)) e
 rcases hk with hk|⟨k1,hk⟩
 ·refine D1.done _ _ _ (hk ▸ f1) λh2 e g2 he=>?_;obtain⟨oe,e1,e2⟩:=he;have y2:dA h2 z TI TO .ellipsis:=g2 _ _ (Ne.symm Cw) y1;have ez:e≠z:=λq=>by subst q;rw[y2] at e1;cases e1;simp at e2
  exact bp y2 (by simp) λh3 _ g3=>hE h3 e (λc o c1 _ c3 _ q=>g3.extBut _ _ c1 (g2 _ _ c3 (g1.extBut _ _ c1 q))) ⟨oe,g3.extBut _ _ ez e1,e2⟩ _
 ·refine D1.item k _ _ _ k1 f1 λx h2 t2 px q2 g2=>ag ?_;have o2:br h2 TO a b:=g2.extBut _ _ (Ne.symm G2) (g1.extBut _ _ Z.n6 hO);apply ab;apply aQ o2 rfl;apply ab;refine cY o2 λh3 o3 g3=>ab (cq (ag ?_));apply ab;apply ab;apply dY;show ah _ _ (aq.SmallTypes.nextOf (.ref i2) >>= _) _ _ _;apply ab;have f2:S2 k h3:=D2.frame _ _ _ s2 λc hc o e=>g3.extBut c o (λq=>Z.t2 (q ▸ hc)) (g2.extBut c o (λq=>Z.a1 (q ▸ hc)) (g1.extBut c o (λq=>Z.z2 (q ▸ hc)) e));refine D2.done _ _ _ (hk ▸ f2) λh4 e g4 he=>?_;obtain⟨oe,e1,e2⟩:=he;have y4:dA h4 z TI TO .ellipsis:=g4 _ _ (Ne.symm G0) (g3.extBut _ _ (Ne.symm Z.n6) (g2.extBut _ _ (Ne.symm Cw) y1));have ez:e≠z:=λq=>by subst q;rw[y4] at e1;cases e1;simp at e2
  exact bp y4 (by simp) λh5 _ g5=>hE h5 e (λc o c1 c2 c3 c4 q=>g5.extBut _ _ c1 (g4 _ _ c4 (g3.extBut _ _ c2 (g2.extBut _ _ c3 (g1.extBut _ _ c1 q))))) ⟨oe,g5.extBut _ _ ez e1,e2⟩ _
end
end M3
end
section
namespace M3
open PySem
open Sem (wp)
noncomputable def cy(h:Heap)(tup:Bool)(l:ae)(xs:Array aa):Prop:=if tup=true then h.IsTuple l xs else h.IsList l xs
noncomputable def dz(h:Heap)(tup:Bool)(r l:ae)(k:Nat):Prop:=if tup=true then h.IsTupleIter r l k else h.IsListIter r l k
noncomputable abbrev dw(tup:Bool)(l:ae):Obj:={cls:=.type (if tup=true then "tuple_iterator" else "list_iterator"),data:=.fields #[.ref l,.int 0 0]}
theorem cy.keeps{h h':Heap}{tup:Bool}{l:ae}{xs:Array aa}(x:cy h tup l xs)(k:∀ o,h.get? l=some o->h'.get? l=some o):cy h' tup l xs:=by
 cases tup with
 |true=>obtain⟨o,e,c⟩:=(show h.IsTuple l xs from x);exact(show h'.IsTuple l xs from⟨o,k o e,c⟩)
 |false=>exact(show h'.IsList l xs from Heap.IsList.at (show h.IsList l xs from x) k)
theorem cy.lt{h:Heap}{tup:Bool}{l:ae}{xs:Array aa}(x:cy h tup l xs):l<h.objs.size:=by
 cases tup with
 |true=>obtain⟨o,e,c⟩:=(show h.IsTuple l xs from x);exact Ua e
 |false=>obtain⟨o,e,c⟩:=(show h.IsList l xs from x);exact Ua e
theorem dz.keeps{h h':Heap}{tup:Bool}{r l:ae}{k:Nat}(x:dz h tup r l k)(q:∀ o,h.get? r=some o->h'.get? r=some o):dz h' tup r l k:=by
 cases tup with
 |true=>obtain⟨o,e,c⟩:=(show h.IsTupleIter r l k from x);exact(show h'.IsTupleIter r l k from⟨o,q o e,c⟩)
 |false=>obtain⟨o,e,c⟩:=(show h.IsListIter r l k from x);exact(show h'.IsListIter r l k from⟨o,q o e,c⟩)
theorem dz.new{h:Heap}{tup:Bool}{r l:ae}(e:h.get? r=some (dw tup l)):dz h tup r l 0:=by
 cases tup with
 |true=>exact(show h.IsTupleIter r l 0 from⟨_,e,rfl,rfl⟩)
 |false=>exact(show h.IsListIter r l 0 from⟨_,e,rfl,rfl⟩)
theorem dz.obj{h:Heap}{tup:Bool}{r l:ae}{k:Nat}(x:dz h tup r l k):∃ o,h.get? r=some o/\∀ v,o.data≠.cell v:=by
 cases tup with
 |true=>obtain⟨o,e,c,d⟩:=(show h.IsTupleIter r l k from x);exact⟨o,e,λv z=>by rw[d] at z;cases z⟩
 |false=>obtain⟨o,e,c,d⟩:=(show h.IsListIter r l k from x);exact⟨o,e,λv z=>by rw[d] at z;cases z⟩
section
variable {prog:aj} {w:World} {A:aw} {E:aa->af->Prop} {s:af}
theorem zn{tup:Bool}{l:ae}{xs:Array aa}{Q:aa->af->Prop}(x:cy s.heap tup l xs)(h:Q (.ref s.heap.objs.size) {s with heap:=s.heap.push (dw tup l)}):ah (ak prog w) A (jE (.ref l)) Q E s:=by
 cases tup with
 |true=>exact gc (show s.heap.IsTuple l xs from x) h
 |false=>exact dS (show s.heap.IsList l xs from x) h
theorem zO(hh:A.handled=none)(tup:Bool)(r l:ae)(jb:l≠r)(items:Array aa) :
  fg prog w A r [r,l] items.size (λi v=>items[i]?=some v) (λi h=>dz h tup r l i/\cy h tup l items):=by
 cases tup with
 |true=>exact ybL hh r l jb items
 |false=>exact fg.list hh r l jb items
end
theorem yce(b1 b2:Bool)(l1 l2:ae)(xs ys:Array aa) :
  kO (aq.«zip.__new__» ⟨[.type "zip",.ref l1,.ref l2],[]⟩) (λ_ R s=>cy s.heap b1 l1 xs/\cy s.heap b2 l2 ys /\
   ∀ h5,h5=((((s.heap.push (dw b1 l1)).push (dw b2 l2)).push {cls:=.type "tuple",data:=.seq #[.ref s.heap.objs.size,.ref (s.heap.push (dw b1 l1)).objs.size]}).push {cls:=.type "tuple",data:=.seq #[.none,.none]}).push
    {cls:=.type "zip",data:=.fields #[.none,.bool false,.bool false,.ref ((s.heap.push (dw b1 l1)).push (dw b2 l2)).objs.size,.ref (((s.heap.push (dw b1 l1)).push (dw b2 l2)).push {cls:=.type "tuple",data:=.seq #[.ref s.heap.objs.size,.ref (s.heap.push (dw b1 l1)).objs.size]}).objs.size]} ->
   R (.ok (.ret (.ref ((((s.heap.push (dw b1 l1)).push (dw b2 l2)).push {cls:=.type "tuple",data:=.seq #[.ref s.heap.objs.size,.ref (s.heap.push (dw b1 l1)).objs.size]}).push {cls:=.type "tuple",data:=.seq #[.none,.none]}).objs.size))) {s with heap:=h5}) :=
 .of_wp λprog w A R s h=>by
  obtain⟨hp,g,d,tk,os⟩:=s;obtain⟨x1,x2,h⟩:=h;have Ac:=sub_zip;have y1:cy (af.heap ⟨hp,g,d,tk,os⟩) b1 l1 xs:=x1;have y2:cy (af.heap ⟨hp.push (dw b1 l1),g,d,tk,os⟩) b2 l2 ys:=cy.keeps x2 λo e=>wa _ e
  wp_walk using zn y1,zn y2
  exact⟨_,rfl,h _ rfl⟩
section
variable {prog:aj} {w:World} {A:aw} {E:aa->af->Prop} {s:af}
theorem qcw{b1 b2:Bool}{l1 l2:ae}{xs ys:Array aa}{Q:aa->af->Prop}(x1:cy s.heap b1 l1 xs)(x2:cy s.heap b2 l2 ys)
  (h:∀ h',dA h' (s.heap.objs.size+4) (s.heap.objs.size+2) (s.heap.objs.size+3) .none->br h' (s.heap.objs.size+2) (.ref s.heap.objs.size) (.ref (s.heap.objs.size+1))->br h' (s.heap.objs.size+3) .none .none ->
   dz h' b1 s.heap.objs.size l1 0->dz h' b2 (s.heap.objs.size+1) l2 0->(∀ c o,s.heap.get? c=some o->h'.get? c=some o)->Q (.ref (s.heap.objs.size+4)) {s with heap:=h'}) :
  ah (ak prog w) A (call (.type "zip") [.ref l1,.ref l2]) Q E s:=by
 refine callType_new F.called_zip (by decide) (F.typeCall_zip_2 _ _) (F.newCall_zip_2 _ _) (λobj=>F.args_object_init_3 obj _ _) F.entry_zip_new (yce b1 b2 l1 l2 xs ys) ⟨x1,x2,λh5 e5=>?_⟩;have n1:(s.heap.push (dw b1 l1)).objs.size=s.heap.objs.size+1:=Xh ..;have n2:((s.heap.push (dw b1 l1)).push (dw b2 l2)).objs.size=s.heap.objs.size+2:=by rw[Xh,n1]
 have n3:(((s.heap.push (dw b1 l1)).push (dw b2 l2)).push {cls:=.type "tuple",data:=.seq #[.ref s.heap.objs.size,.ref (s.heap.push (dw b1 l1)).objs.size]}).objs.size=s.heap.objs.size+3:=by rw[Xh,n2]
 have n4:((((s.heap.push (dw b1 l1)).push (dw b2 l2)).push {cls:=.type "tuple",data:=.seq #[.ref s.heap.objs.size,.ref (s.heap.push (dw b1 l1)).objs.size]}).push {cls:=.type "tuple",data:=.seq #[.none,.none]}).objs.size=s.heap.objs.size+4:=by rw[Xh,n3]
 have q5:dA h5 ((((s.heap.push (dw b1 l1)).push (dw b2 l2)).push {cls:=.type "tuple",data:=.seq #[.ref s.heap.objs.size,.ref (s.heap.push (dw b1 l1)).objs.size]}).push {cls:=.type "tuple",data:=.seq #[.none,.none]}).objs.size ((s.heap.push (dw b1 l1)).push (dw b2 l2)).objs.size (((s.heap.push (dw b1 l1)).push (dw b2 l2)).push {cls:=.type "tuple",data:=.seq #[.ref s.heap.objs.size,.ref (s.heap.push (dw b1 l1)).objs.size]}).objs.size .none:=by rw[e5];exact xb _ rfl
 have q4:br h5 (((s.heap.push (dw b1 l1)).push (dw b2 l2)).push {cls:=.type "tuple",data:=.seq #[.ref s.heap.objs.size,.ref (s.heap.push (dw b1 l1)).objs.size]}).objs.size .none .none:=by rw[e5];exact wa _ (xb _ rfl)
 have q3:br h5 ((s.heap.push (dw b1 l1)).push (dw b2 l2)).objs.size (.ref s.heap.objs.size) (.ref (s.heap.push (dw b1 l1)).objs.size):=by rw[e5];exact wa _ (wa _ (xb _ rfl))
 have q2:h5.get? (s.heap.push (dw b1 l1)).objs.size=some (dw b2 l2):=by rw[e5];exact wa _ (wa _ (wa _ (xb _ rfl)))
 have q1:h5.get? s.heap.objs.size=some (dw b1 l1):=by rw[e5];exact wa _ (wa _ (wa _ (wa _ (xb _ rfl))))
 show _/\_;rw[n2,n3,n4] at q5;rw[n2,n1] at q3;rw[n3] at q4;rw[n1] at q2;rw[n4];exact⟨⟨_,q5,rfl⟩,h _ q5 q3 q4 (.new q1) (.new q2) λc o e=>by rw[e5];exact wa _ (wa _ (wa _ (wa _ (wa _ e))))⟩
variable {z TI TO i1 i2:ae} {kL kK:List ae} {n1 n2 k:Nat} {P1 P2:Nat->aa->Prop} {S1 S2:Nat->Heap->Prop} {a b:aa}
theorem ZaH{Q:Option aa->af->Prop}(Z:sx z TI TO i1 i2 kL kK)(D1:fg prog w A.in1 i1 kL n1 P1 S1)(D2:fg prog w A.in1 i2 kK n2 P2 S2)(hz:dA s.heap z TI TO .none)(hI:br s.heap TI (.ref i1) (.ref i2))(hO:br s.heap TO a b)
  (s1:S1 k s.heap) (s2:S2 k s.heap) (k1:k<n1) (k2:k<n2)
  (hQ:∀ x y h' tk,P1 k x->P2 k y->dA h' z TI TO (dr s.heap.objs.size)->br h' TO x y->S1 (k+1) h'->S2 (k+1) h'->br h' s.heap.objs.size x y->h'.objs.size=s.heap.objs.size+1 ->
   (∀ c o,c≠z->c≠TO->c≠i1->c≠i2->s.heap.get? c=some o->h'.get? c=some o)->Q (some (.ref s.heap.objs.size)) {s with heap:=h',toks:=tk}) :
  ah (ak prog w) A (cU (.ref z)) Q E s:=by
 have ty:s.TypeIs (.ref z) "zip":=⟨_,hz,rfl⟩;unfold cU;refine ab (jc (aU (name:=Str.ofString "__next__") ty F.slot_zip_next (bj F.slot_zip_next ty F.entry_zip_next ?_ (F.args_zip_next_1 _))));exact Zb6 Z D1 D2 hz hI hO s1 s2 k1 k2 λx y h' tk p1 p2 e1 e2 e3 e4 e5 e6 e7=>ag (hQ x y h' tk p1 p2 e1 e2 e3 e4 e5 e6 e7)
theorem zaO{Q:Option aa->af->Prop}(Z:sx z TI TO i1 i2 kL kK)(D1:fg prog w A.in1 i1 kL n1 P1 S1)(D2:fg prog w A.in1 i2 kK n2 P2 S2)(hz:dA s.heap z TI TO .none)(hI:br s.heap TI (.ref i1) (.ref i2))(hO:br s.heap TO a b)
  (s1:S1 k s.heap) (s2:S2 k s.heap) (hk:k=n1\/(k<n1/\k=n2))
  (hQ:∀ h' tk,(∀ c o,c≠z->c≠TO->c≠i1->c≠i2->s.heap.get? c=some o->h'.get? c=some o)->Q none {s with heap:=h',toks:=tk}) :
  ah (ak prog w) A (cU (.ref z)) Q E s:=by
 have ty:s.TypeIs (.ref z) "zip":=⟨_,hz,rfl⟩;unfold cU;refine ab (jc (aU (name:=Str.ofString "__next__") ty F.slot_zip_next (bj F.slot_zip_next ty F.entry_zip_next ?_ (F.args_zip_next_1 _))));refine Zcu Z D1 D2 hz hI hO s1 s2 hk λh' e kk ho tk=>?_;obtain⟨o,e1,e2⟩:=ho;exact ab (hU (T:="StopIteration") (b:=true) ⟨o,e1,e2⟩ isSubtype_stop (ag (hQ h' tk kk)))
end
end M3
end
section
namespace M3
open PySem
open Sem (wp)
end M3
end
section
namespace L3
open PySem PySem.Spec PyProof.Rows L2 M3
section
variable {X:Cx} {pins:List (ae×Obj)} {σ:L2.St} {H:Hp} {s:af}
theorem Yb5{P:aj}{w:World}{h:Heap}{D:ae}{o:HO}(ok:fe P w H h)(hn:H D=none)(new:bf P w (upd H D o) h D o):fe P w (upd H D o) h:=λb u e=>by
 by_cases hb:b=D
 ·subst hb;rw[qe] at e;cases e;exact new
 ·rw[Zc hb] at e;exact(ok b u e).iO (λ_ _ _ q=>q) (λc q=>by rw[Zc (yg q hn)];exact q) λc xs q=>by rw[Zc (yg q hn)];exact q
theorem GA{D:ae}{o:HO}(I:Inv X pins σ H s)(f:QU X pins H D)(h0:X.s₀.heap.objs.size<=D)(new:bf X.prog X.w (upd H D o) s.heap D o):Inv X pins σ (upd H D o) s:=by
 obtain⟨f0,f1,f2,f3,f4,f5⟩:=f;refine⟨I.ok,I.os,I.bare,⟨I.base.keep,I.base.slot,λb u e n hx=>?_,I.base.there,λb xs e=>?_,λb u xs e=>?_,λb ps e=>?_⟩,I.loc,I.cell,?_,λx c e=>?_,λp hp=>?_,Yb5 I.aR f0 new,I.len⟩
 ·rw[Zc (vb (Uc (Ua e) h0))];exact I.base.free b u e n hx
 ·have q:=I.base.jd b xs e;rw[Zc (yg q f0)];exact q
 ·have q:=I.base.iY b u xs e;rw[Zc (yg q f0)];exact q
 ·obtain⟨m,q⟩:=I.base.jf b ps e;exact⟨m,by rw[Zc (yg q f0)];exact q⟩
 ·rw[Zc (Ne.symm f1)];exact I.free
 ·rw[Zc (f4 x c e)];exact I.gP x c e
 ·obtain⟨e1,e2,e3,e4,e5⟩:=I.pin p hp;exact⟨e1,by rw[Zc (f5 p hp)];exact e2,e3,e4,e5⟩
end
noncomputable def QF(sc:az)(N:List Str)(cs:az)(N':List Str)(bV:Nat)(js:List Nat):Bool :=
 cs.kind == .function&&cs.names.all (λy=>y.2 != .cell||cs.names.lookup y.1==some .cell)&&cs.names.all (λy=>y.2 != .free||(sc.names.lookup y.1==some .cell||sc.names.lookup y.1==some .free)) &&
 cs.names.all (λy=>y.2 != .local||cs.names.lookup y.1==some .local)&&(N'.drop bV).all (λx=>cs.names.lookup x==some .free)&&decide ((N'.drop bV).map some=js.map (λj=>N[j]?))&&decide (bV<=N'.length)
structure ig (sc:az) (N:List Str) (cs:az) (N':List Str) (bV:Nat) (js:List Nat):Prop where
 kind:cs.kind=.function
 cel:∀ y∈cs.names,y.2=.cell->cs.names.lookup y.1=some .cell
 free:∀ y∈cs.names,y.2=.free->sc.names.lookup y.1=some .cell\/sc.names.lookup y.1=some .free
 locs:∀ y∈cs.names,y.2=.local->cs.names.lookup y.1=some .local
 frees:∀ x∈N'.drop bV,cs.names.lookup x=some .free
 at_:(N'.drop bV).map some=js.map (λj=>N[j]?)
 bV:bV<=N'.length
theorem ig.of{sc:az}{N:List Str}{cs:az}{N':List Str}{bV:Nat}{js:List Nat}(h:QF sc N cs N' bV js=true):ig sc N cs N' bV js:=by
 simp only[QF,Wa,vo,decide_eq_true_eq,Xn,beq_iff_eq,bne_iff_ne,ne_eq] at h;obtain⟨⟨⟨⟨⟨⟨h1,h2⟩,h3⟩,h4⟩,h5⟩,h6⟩,h7⟩:=h;exact⟨h1,λy hy e=>(h2 y hy).resolve_left λz=>z e,λy hy e=>(h3 y hy).resolve_left λz=>z e,λy hy e=>(h4 y hy).resolve_left λz=>z e,h5,h6,h7⟩
theorem zH{names:List (Str×ay)}{x:Str}{k:ay}(h:names.lookup x=some k):(x,k)∈names:=PySem.mem_of_lookup h
theorem NB{env:Env}:∀{names:List (Str×ay)} {x:Str},
  ((names.map λ(n,k)=>if(k==ay.free&&env.scope.kind == .function&&env.kindOf n==some .cell) then(n,ay.cell) else(n,k)).lookup x=some .cell \/
   (names.map λ(n,k)=>if(k==ay.free&&env.scope.kind == .function&&env.kindOf n==some .cell) then(n,ay.cell) else(n,k)).lookup x=some .free)->names.lookup x=some .free\/names.lookup x=some .cell
 |[],_,h=>by simp at h
 |(n,k)::r,x,h=>by
  have ih:=@NB env r x;rw[Wb] at h;by_cases hb:(k==ay.free&&env.scope.kind == .function&&env.kindOf n==some .cell)=true
  ·have hkf:k=.free:=by
    simp only[Wa,beq_iff_eq] at hb;exact hb.1.1
   simp only[hb,if_true] at h;cases hx:x==n with
   |true=>simp only[Xb,hx];rw[hkf];exact .inl rfl
   |false =>
    simp only[Xb,hx] at h ⊢;exact ih h
  ·simp only[hb,Vk,if_false] at h;cases hx:x==n with
   |true =>
    simp only[Xb,hx] at h ⊢;exact h.symm
   |false =>
    simp only[Xb,hx] at h ⊢;exact ih h
theorem yU{env:Env}:∀{names:List (Str×ay)} {x:Str},names.lookup x=some .free ->
  ((names.map λ(n,k)=>if(k==ay.free&&env.scope.kind == .function&&env.kindOf n==some .cell) then(n,ay.cell) else(n,k)).lookup x=some .cell \/
   (names.map λ(n,k)=>if(k==ay.free&&env.scope.kind == .function&&env.kindOf n==some .cell) then(n,ay.cell) else(n,k)).lookup x=some .free)
 |[],_,h=>by simp at h
 |(n,k)::r,x,h=>by
  have ih:=@yU env r x;rw[Wb];cases hx:x==n with
  |true =>
   simp only[Xb,hx] at h;cases h;by_cases hb:((ay.free:ay)==ay.free&&env.scope.kind == .function&&env.kindOf n==some .cell)=true
   ·simp only[hb,if_true,Xb,hx];simp
   ·simp only[hb,Vk,if_false,Xb,hx];simp
  |false =>
   simp only[Xb,hx] at h;by_cases hb:(k==ay.free&&env.scope.kind == .function&&env.kindOf n==some .cell)=true
   ·simp only[hb,if_true,Xb,hx];exact ih h
   ·simp only[hb,Vk,if_false,Xb,hx];exact ih h
theorem zx{env:Env}:∀(names:List (Str×ay)) (cs:List (Str×ae)) {x:Str} {c:ae},(∀ y∈names,y.2=.free->∃ c,env.cells.lookup y.1=some c)->(∀ x c,cs.lookup x=some c->env.cells.lookup x=some c) ->
  (Ye env names cs).lookup x=some c->env.cells.lookup x=some c
 |[],cs,x,c,_,nI,h=>nI x c h
 |(n,k)::r,cs,x,c,hn,nI,h=>by
  refine zx r _ (λy hy=>hn y (Wf _ hy)) (λx' c' h'=>?_) h;by_cases hk:(k == .free)=true
  ·rw[if_pos hk] at h';obtain⟨c0,e0⟩:=hn (n,k) Ug (by simpa using hk);cases hx:x'==n with
   |true =>
    simp only[Xb,hx] at h';cases h';rw[beq_iff_eq.mp hx,e0];rfl
   |false =>
    simp only[Xb,hx] at h';exact nI x' c' h'
  ·rw[if_neg hk] at h';exact nI x' c' h'
theorem Z8{env:Env}:∀(names:List (Str×ay)) (cs:List (Str×ae)) {x:Str},(∃ c,cs.lookup x=some c)->∃ c,(Ye env names cs).lookup x=some c
 |[],cs,x,h=>h
 |(n,k)::r,cs,x,h=>by
  refine Z8 r _ ?_;by_cases hk:(k == .free)=true
  ·rw[if_pos hk];cases hx:x==n with
   |true=>exact⟨(env.cells.lookup n).getD 0,by simp only[Xb,hx]⟩
   |false =>
    obtain⟨c,e⟩:=h;exact⟨c,by simp only[Xb,hx];exact e⟩
  ·rw[if_neg hk];exact h
theorem YL{env:Env}:∀(names:List (Str×ay)) (cs:List (Str×ae)) {x:Str},(x,ay.free)∈names->∃ c,(Ye env names cs).lookup x=some c
 |[],_,_,h=>nomatch h
 |(n,k)::r,cs,x,h=>by
  rcases ua.mp h with e|h
  ·cases e;refine Z8 r _ ?_;rw[if_pos (by decide)];exact⟨(env.cells.lookup n).getD 0,by simp only[Xb,beq_self_eq_true]⟩
  ·exact YL r _ h
theorem DS:∀(names:List (Str×ay)) (n n0:Nat) (acc:List (Str×ae)) {x:Str},n0<=n->(∃ c,acc.lookup x=some c/\n0<=c)->∃ c,(aE n names acc).lookup x=some c/\n0<=c
 |[],_,_,_,_,_,h=>h
 |(y,k)::r,n,n0,acc,x,hn,h=>by
  unfold aE;split
  ·refine DS r (n+1) n0 _ (by lia) ?_;cases hx:x==y with
   |true=>exact⟨n,by simp only[Xb,hx],hn⟩
   |false =>
    obtain⟨c,e,l⟩:=h;exact⟨c,by simp only[Xb,hx];exact e,l⟩
  ·exact DS r n n0 acc hn h
theorem Dr:∀(names:List (Str×ay)) (n:Nat) (acc:List (Str×ae)) {x:Str},(x,ay.cell)∈names->∃ c,(aE n names acc).lookup x=some c/\n<=c
 |[],_,_,_,h=>nomatch h
 |(y,k)::r,n,acc,x,h=>by
  unfold aE
  rcases ua.mp h with e|h
  ·cases e;rw[if_pos (by decide)];exact DS r (n+1) n _ (by lia) ⟨n,by simp only[Xb,beq_self_eq_true],wb _⟩
  ·split
   ·obtain⟨c,e,l⟩:=Dr r (n+1) ((y,n)::acc) h;exact⟨c,e,by lia⟩
   ·exact Dr r n acc h
theorem Cd:∀(names:List (Str×ay)) (n:Nat) (acc:List (Str×ae)) {x:Str},(x,ay.cell)∉names->(aE n names acc).lookup x=acc.lookup x
 |[],_,_,_,_=>rfl
 |(y,k)::r,n,acc,x,h=>by
  unfold aE;split
  ·rename_i hk;rw[Cd r (n+1) _ λz=>h (Wf _ z)];have:(x==y)=false:=by
    rw[beq_eq_false_iff_ne];intro e;subst e;have:k=.cell:=by simpa using hk
    subst this;exact h Ug
   simp only[Xb,this]
  ·exact Cd r n acc λz=>h (Wf _ z)
theorem Dl:∀(names:List (Str×ay)) (n:Nat) (acc:List (Str×ae)) {x:Str} {c:ae},(aE n names acc).lookup x=some c->acc.lookup x=some c\/n<=c
 |[],_,_,_,_,h=>.inl h
 |(y,k)::r,n,acc,x,c,h=>by
  unfold aE at h;split at h
  ·rcases Dl r (n+1) _ h with e|e
   ·cases hx:x==y with
    |true=>simp only[Xb,hx] at e;cases e;exact .inr (wb _)
    |false=>simp only[Xb,hx] at e;exact .inl e
   ·exact .inr (by lia)
  ·exact Dl r n acc h
theorem DW:∀(names:List (Str×ay)) (n:Nat) (acc:List (Str×ae)),(∀ x c,acc.lookup x=some c->c<n)->(∀ x y c,acc.lookup x=some c->acc.lookup y=some c->x=y) ->
  ∀ x y c,(aE n names acc).lookup x=some c->(aE n names acc).lookup y=some c->x=y
 |[],_,_,_,hi=>hi
 |(z,k)::r,n,acc,hb,hi=>by
  unfold aE;split
  ·refine DW r (n+1) _ (λx c e=>?_) λx y c e1 e2=>?_
   ·cases hx:x==z with
    |true=>simp only[Xb,hx] at e;cases e;exact Vi _
    |false=>simp only[Xb,hx] at e;exact Xs (hb x c e)
   ·cases hx:x==z with
    |true =>
     simp only[Xb,hx] at e1;cases e1;cases hy:y==z with
     |true=>rw[beq_iff_eq.mp hx,beq_iff_eq.mp hy]
     |false=>simp only[Xb,hy] at e2;exact absurd (hb y _ e2) (Vh _)
    |false =>
     simp only[Xb,hx] at e1;cases hy:y==z with
     |true=>simp only[Xb,hy] at e2;cases e2;exact absurd (hb x _ e1) (Vh _)
     |false=>simp only[Xb,hy] at e2;exact hi x y c e1 e2
  ·exact DW r n acc hb hi
theorem Jc:∀(names:List (Str×ay)) (h:Heap) (acc:List (Str×ae)),(∀ x c,acc.lookup x=some c->∃ v,h.IsCell c v)->∀ x c,(aE h.objs.size names acc).lookup x=some c->∃ v,(pushCells h names).IsCell c v
 |[],_,_,hc=>hc
 |(y,k)::r,h,acc,hc=>by
  unfold aE pushCells;split
  ·have:=Jc r (h.push {cls:=.type "cell",data:=.cell none}) ((y,h.objs.size)::acc) λx c e=>by
    cases hx:x==y with
    |true=>simp only[Xb,hx] at e;cases e;exact⟨none,_,xb _ rfl,rfl⟩
    |false =>
     simp only[Xb,hx] at e;obtain⟨v,q⟩:=hc x c e;exact⟨v,q.keeps λb o e=>wa _ e⟩
   rwa [Xh] at this
  ·exact Jc r h acc hc
theorem za1{M:Model}{A:aw}{E:aa->af->Prop}{s:af}{scope:az}{globals:ae}{closure:List (Str×ae)}{qual:Str}{func:Option ae}{code:aa}{env:Env}{builtins:ae}{Q:Env->af->Prop}
  (hQ:∀ h',h'.Ns s.heap.objs.size (λ_=>none)->(∀ b o,s.heap.get? b=some o->h'.get? b=some o) ->
   ((∀ x c,closure.lookup x=some c->∃ v,s.heap.IsCell c v)->∀ x c,(aE (s.heap.objs.size+1) scope.names closure).lookup x=some c->∃ v,h'.IsCell c v) ->
   Q (newEnv scope s.heap.objs.size globals (aE (s.heap.objs.size+1) scope.names closure) qual func code (some env) builtins) {s with heap:=h'}) :
  ah M A (fB scope globals closure [] qual func code (some env) builtins) Q E s:=by
 simp only[fB,vD,if_true];refine ab (wpAny_alloc ?_);refine ab (wpAny_layCells _ (λname kind cells=>by cases hkc:kind==ay.cell <;> simp[hkc]) _ _ _ _ ?_);rw[show({s with heap:=s.heap.push {cls:=.type "dict",data:=.dict #[]}}:af).heap.objs.size=s.heap.objs.size+1 from Xh ..];refine ab (ag (ag (hQ _ ?_ ?_ ?_)))
 ·exact(Heap.Ns.new s.heap (.type "dict")).keeps (iy _ _)
 ·exactλb o e=>iy _ _ b o (wa _ e)
 ·intro hc;have:=Jc scope.names (s.heap.push {cls:=.type "dict",data:=.dict #[]}) closure λx c e=>let ⟨v,q⟩:=hc x c e;⟨v,q.keeps λb o e=>wa _ e⟩
  rwa [Xh] at this
noncomputable def ia(X:Cx)(cs:az)(N':List Str)(C:ae)(s3:af)(H:Hp)(ex:List ae):Cx :=
 {X with N:=N',s₀:=s3,H₀:=H,env:=compEnvC cs (aE (C+1) cs.names (Ye X.env cs.names [])) C X.env,outer:=X.stack,stack:=X.stack,ex:=ex,fn:=λx=>cs.names.lookup x==some .cell,xe:=λ_ _=>False}
noncomputable def stC(bV:Nat)(js:List Nat)(σ:L2.St):L2.St:=uc bV none++js.map λj=>(σ[j]?).join
section
variable {X:Cx} {pins:List (ae×Obj)} {σ:L2.St} {H:Hp} {s3:af}
theorem ZbO{cs:az}{N':List Str}{bV:Nat}{js:List Nat}{ex:List ae}{h1:Heap}{tk:Nat}(I:Inv X pins σ H s3)(ok:ig X.env.scope X.N cs N' bV js)(hex:∀ b∈ex,QU X pins H b/\b<s3.heap.objs.size)
  (ot:h1.Ns s3.heap.objs.size λ_=>none) (hk:∀ b o,s3.heap.get? b=some o->h1.get? b=some o)
  (jo:(∀ x c,(Ye X.env cs.names []).lookup x=some c->∃ v,s3.heap.IsCell c v)->∀ x c,(aE (s3.heap.objs.size+1) cs.names (Ye X.env cs.names [])).lookup x=some c->∃ v,h1.IsCell c v) :
  Inv (ia X cs N' s3.heap.objs.size s3 H ex) [] (stC bV js σ) H {s3 with heap:=h1,toks:=tk}:=by
 have hfc:∀ y∈cs.names,y.2=.free->∃ c,X.env.cells.lookup y.1=some c:=λy hy e=>I.ok.has y.1 (ok.free y hy e);have lk:∀{x c},(Ye X.env cs.names []).lookup x=some c->X.env.cells.lookup x=some c:=λ{x c} h=>zx cs.names [] hfc (λ_ _ z=>by simp at z) h;have clt:∀{x c},X.env.cells.lookup x=some c->c<s3.heap.objs.size:=λ{x c} e=>let ⟨v,q⟩:=I.cell x c e;q.lt;have cl2:=jo λx c e=>I.cell x c (lk e);have Lo:∀{x c},(aE (s3.heap.objs.size+1) cs.names (Ye X.env cs.names [])).lookup x=some c->X.env.cells.lookup x=some c\/s3.heap.objs.size+1<=c:=λ{x c} e=>(Dl cs.names _ _ e).imp lk id;have lZ:∀{x},cs.names.lookup x=some .free->(x,ay.cell)∉cs.names:=λ{x} e z=>by have:=ok.cel _ z rfl;rw[e] at this;cases this
 refine⟨⟨I.ok.mod,ok.kind,I.ok.glob,I.ok.blt,wb _,λx y c e1 e2=>DW cs.names _ _ (λx c e=>Xs (clt (lk e))) (λx y c e1 e2=>I.ok.inj x y c (lk e1) (lk e2)) x y c e1 e2,λx hx=>?_,λx c z e=>?_,I.ok.hd,I.ok.frames,.inl rfl,λb hb=>?_,I.bs,vf I.ok.pU I.sz,λb o e hb=>?_,λb hb=>?_,I.stack,I.jB⟩,
  rfl,I.bare,Un.kept hk,⟨_,ot,λi x v e1 e2 e3=>?_⟩,λx c e=>cl2 x c e,I.aR.fresh (wb _),λx c e=>(Lo e).elim (λq=>I.gP x c q) λq=>I.aR.fresh (by lia),λp hp=>?_,I.aR.kept hk,?_⟩
 ·rcases NB hx with hx|hx
  ·rw[show ∀ n,(ia X cs N' s3.heap.objs.size s3 H ex).env.cells.lookup x=(aE (s3.heap.objs.size+1) cs.names (Ye X.env cs.names [])).lookup x fromλ_=>rfl]
   ·rw[Cd _ _ _ (lZ hx)];exact YL cs.names [] (zH hx)
   ·exact 0
  ·obtain⟨c,e,_⟩:=Dr cs.names (s3.heap.objs.size+1) (Ye X.env cs.names []) (zH hx);exact⟨c,e⟩
 ·have z':cs.names.lookup x=some .cell:=by simpa using(show(cs.names.lookup x==some .cell)=true from z)
  obtain⟨c',e',l⟩:=Dr cs.names (s3.heap.objs.size+1) (Ye X.env cs.names []) (zH z');have:c=c':=by
   have e2:(aE (s3.heap.objs.size+1) cs.names (Ye X.env cs.names [])).lookup x=some c:=e;rw[e'] at e2;exact(Option.some.inj e2).symm
  rw[this];exact Nat.le_of_succ_le l
 ·obtain⟨⟨_,_,_,_,f4,_⟩,lt⟩:=hex b hb;refine⟨vb lt,λx c e=>?_⟩
  rcases Lo e with q|q
  ·exact f4 x c q
  ·exact Um (xn lt q)
 ·obtain⟨⟨_,_,_,f3,_,_⟩,_⟩:=hex b hb
  rcases f3 with f3|f3
  ·exact I.ok.o8 b o e f3
  ·exact absurd (Uc (Ua e) (vf I.ok.pU f3)) (Vh _)
 ·obtain⟨⟨_,f1,f2,_,_,_⟩,_⟩:=hex b hb;intro z
  rcases ua.mp (I.hX b z) with e|e
  ·exact f1 e
  ·exact f2 e
 ·-- a name around, by aA cell
  have hi:¬ i<bV:=λhi=>by
   unfold stC at e2;rw[va (by simpa using hi),vq,if_pos hi] at e2;cases e2
  have gQ:(N'.drop bV)[i-bV]?=some x:=by
   rw[uv];have q:bV+(i-bV)=i:=by lia
   rw[q];exact e1
  have iV:=ok.frees x (Ue gQ);have eN:(js.map λj=>X.N[j]?)[i-bV]?=some (some x):=by rw[<- ok.at_,wc,gQ];rfl
  unfold stC at e2;rw[Ud (by simpa using vF hi),Up,wc] at e2;rw[wc] at eN;cases ej:js[i-bV]? with
  |none=>rw[ej] at e2;cases e2
  |some j =>
   rw[ej] at e2 eN;have pO:(σ[j]?).join=some v:=Option.some.inj e2;have eN':X.N[j]?=some x:=Option.some.inj eN;have eσ:σ[j]?=some (some v):=by
    cases q:σ[j]? with
    |none=>rw[q] at pO;cases pO
    |some u=>rw[q] at pO;exact congrArg some pO
   have xZ:X.env.scope.names.lookup x=some .cell\/X.env.scope.names.lookup x=some .free:=ok.free (x,.free) (zH iV) rfl;obtain⟨m,hn,hl⟩:=I.loc;obtain⟨u,r,l⟩:=hl j x v eN' eσ (.inr xZ);refine⟨u,r,.inr ⟨yU iV,?_⟩⟩
   rcases l with ⟨k,_⟩|⟨_,c,ec,z⟩
   ·rcases xZ with q|q
    ·rw[show X.env.kindOf x=X.env.scope.names.lookup x from rfl,q] at k;cases k
    ·rw[show X.env.kindOf x=X.env.scope.names.lookup x from rfl,q] at k;cases k
   ·obtain⟨c',MZ⟩:=YL (env:=X.env) cs.names [] (zH iV);have:=lk MZ;rw[ec] at this;cases this;obtain⟨o,ho,hd⟩:=z;refine⟨c,?_,o,hk c o ho,hd⟩;show(aE (s3.heap.objs.size+1) cs.names (Ye X.env cs.names [])).lookup x=some c;rw[Cd _ _ _ (lZ iV)];exact MZ
 ·have nF:p∈X.pn:=by
   have oq:p∈X.pn++[]:=hp;rw[wn] at oq;exact oq
  obtain⟨e1,e2,e3,e4,e5⟩:=I.pin p (Xi _ nF);refine⟨hk _ _ e1,e2,vb (Ua e1),λz=>?_,e5⟩
  rcases ua.mp (I.hX p.1 z) with e|e
  ·exact e3 e
  ·exact e4 e
 ·have q:=congrArg vt ok.at_;rw[xc,xc,XA] at q;unfold stC;show _=N'.length;rw[vg,Up,xc];have:=ok.bV
  lia
end
section
variable {X:Cx}
noncomputable def lL(X:Cx)(ifs:List Expr)(t:TT):Prop:=∀(pins:List (ae×Obj)) (s:af) (σ:L2.St) (H:Hp) (Q:Bool->Hp->Prop),Inv X pins σ H s->t σ H Q->ah (ak X.prog X.w) X.A (Ng ifs X.env) (TP X pins σ Q) X.xe s
noncomputable def FF:TT:=λ_ H Q=>Q true H
theorem YcT:lL X [] FF:=λpins s σ H Q I h=>wpAny_tests_nil ⟨H,I,h⟩
theorem ycG{c:Expr}{t:TT}(h:PT X c t):lL X [c] t:=λpins s σ H Q I hw=>wpAny_tests_one (h pins s σ H Q I hw)
noncomputable def Bw(J:It)(bV:Nat)(js:List Nat)(g:TG)(tc:TT)(te:TE)(σ:L2.St)(H:Hp)(Q:VK):Prop :=
 ∃ W:Nat->Nat->List V->L2.St->Hp->Prop,(∃ m,W 0 m [] (stC bV js σ) H)/\∀ i m acc σ' H',W i m acc σ' H' ->
  (J.stop i H'/\∀ D,H' D=none->Q (.ref D) (upd H' D (.lst acc))) \/
  (J.go i H'/\∀ x H2,J.mX i H' x H2->g x σ' H2 λσ2 H3=>tc σ2 H3 λb H4 =>
   if b=true then te σ2 H4 λy H5=>acc.length<sizeLine/\∃ m',m'<m/\W (i+1) m' (acc++[y]) σ2 H5 else ∃ m',m'<m/\W (i+1) m' acc σ2 H4)
noncomputable def Jb(wi:TI)(bV:Nat)(js:List Nat)(g:TG)(tc:TT)(te:TE):TE:=λσ H Q=>wi σ H λJ H1=>Bw J bV js g tc te σ H1 Q
theorem yp{Y:Cx}{pins:List (ae×Obj)}{σ:L2.St}{H:Hp}{s:af}{b:ae}{o:Obj}(I:Inv Y pins σ H s)(h:(b,o)∈pins):s.heap.get? b=some o/\H b=none :=
 let z:=I.pin (b,o) (xf _ h);⟨z.1,z.2.1⟩
noncomputable def Nl(X:Cx)(J:It)(fp:List ae)(it:ae)(tn:Nat->Heap->Prop):Prop :=
 ∀(Y:Cx),Y.prog=X.prog->Y.w=X.w->Y.K=X.K->Y.calm=X.calm->Y.A=X.A->Y.pn=X.pn->∀(i:Nat)(pins:List (ae×Obj)) (s:af) (σ:L2.St) (H:Hp) (E:aa->af->Prop),Inv Y pins σ H s->(∀ b∈fp,QU Y pins H b)->tn i s.heap->J.stop i H ->
  ah (ak X.prog X.w) X.A (cU (.ref it)) (λr s1=>r=none/\Inv Y pins σ H s1) E s
noncomputable def Ov(X:Cx)(tg:Expr)(J:It)(fp:List ae)(it:ae)(tn:Nat->Heap->Prop):Prop :=
 ∀(Y:Cx),Y.prog=X.prog->Y.w=X.w->Y.K=X.K->Y.calm=X.calm->Y.A=X.A->∀(i:Nat)(pins:List (ae×Obj)) (s:af) (σ:L2.St) (H:Hp) (E:aa->af->Prop),Inv Y pins σ H s->(∀ b∈fp,QU Y pins H b)->tn i s.heap->J.go i H ->
  ah (ak X.prog X.w) X.A (cU (.ref it)) (λr s1=>∃ u,r=some u /\
   ah (ak X.prog X.w) X.A (cg tg (.ref it) u) (λ_ s2=>∃ x H',Inv Y pins σ H' s2/\RelV x u/\J.mX i H x H'/\tn (i+1) s2.heap/\∀ b∈fp,H' b=none) E s1) E s
theorem Km{elt iter tg:Expr}{ifs:List Expr}{cs:az}{pos:Pos}{N':List Str}{bV:Nat}{js:List Nat}{g:TG}{tc:TT}{te:TE}{pins:List (ae×Obj)}{σ:L2.St}{H2:Hp}{s2:af}{it:ae}{fp:List ae}{tn:Nat->Heap->Prop}{J:It}{Q:VK}
  {RR:aa->ae->gE->af->Prop} {E:aa->af->Prop}
  (ok:ig X.env.scope X.N cs N' bV js) (hg:∀ C s3 H ex,PG (ia X cs N' C s3 H ex) tg g) (nH:∀ C s3 H ex,lL (ia X cs N' C s3 H ex) ifs tc) (jI:∀ C s3 H ex,PE (ia X cs N' C s3 H ex) elt te)
  (I2:Inv X pins σ H2 s2) (mem:it∈fp) (obj:∀ i h,tn i h->∀ b∈fp,∃ o,h.get? b=some o/\∀ v,o.data≠.cell v) (keep:∀ i h h',tn i h->(∀ b∈fp,∀ o,h.get? b=some o->h'.get? b=some o)->tn i h')
  (item:Ov X tg J fp it tn) (done:Nl X J fp it tn) (self:∀(A:aw)(i:Nat)(s:af)(Q:aa->af->Prop)(E:aa->af->Prop),tn i s.heap->Q (.ref it) s->ah (ak X.prog X.w) A (jE (.ref it)) Q E s)
  (kB:tn 0 s2.heap) (f2:∀ b∈fp,QU X pins H2 b) (W:Nat->Nat->List V->L2.St->Hp->Prop) (w0:∃ m,W 0 m [] (stC bV js σ) H2)
  (turn:∀ i m acc σ' H',W i m acc σ' H'->(J.stop i H'/\∀ D,H' D=none->Q (.ref D) (upd H' D (.lst acc))) \/
   (J.go i H'/\∀ x H2,J.mX i H' x H2->g x σ' H2 λσ2 H3=>tc σ2 H3 λb H4 =>
    if b=true then te σ2 H4 λy H5=>acc.length<sizeLine/\∃ m',m'<m/\W (i+1) m' (acc++[y]) σ2 H5 else ∃ m',m'<m/\W (i+1) m' acc σ2 H4))
  (fin:∀(D C:ae)(acc:List V)(H':Hp)(s6:af),Inv X pins σ (upd H' D (.lst acc)) s6->QU X pins (upd H' D (.lst acc)) C->X.s₀.heap.objs.size<=C->(∃ m,s6.heap.Ns C m)->Q (.ref D) (upd H' D (.lst acc))->RR (.ref D) C (.ok .next) s6) :
  ah (ak X.prog X.w) X.A (newList []) (λacc s3=>ah (ak X.prog X.w) X.A (fB cs X.env.globals (Ye X.env cs.names []) [] X.env.qual none .none (some X.env)) (λAZ s4 =>
   bJ (ak X.prog X.w) X.A (.compStart (.ListComp elt [⟨tg,iter,ifs,0⟩] cs pos) 0 (.ref it) acc {AZ with scope:=relabel cs X.env}) (RR acc AZ.locals) s4) E s3) E s2:=by
 refine aW (za1 λh1 ot hup jo=>?_);obtain⟨s3,nM⟩:∃ s3:af,s3={s2 with heap:=s2.heap.push {cls:=.type "list",dict:=none,data:=.seq ([]:List aa).toArray}}:=⟨_,rfl⟩;have I3:Inv X pins σ H2 s3:=by rw[nM];exact I2.kept (t':=s2.toks) λb o e=>wa _ e
 have B4:s3.heap.objs.size=s2.heap.objs.size+1:=by rw[nM];exact Xh ..
 have gD3:s3.heap.get? s2.heap.objs.size=some {cls:=.type "list",dict:=none,data:=.seq ([]:List aa).toArray}:=by rw[nM];exact xb _ rfl
 have Lf:∀ b o,s2.heap.get? b=some o->s3.heap.get? b=some o:=λb o e=>by rw[nM];exact wa _ e
 have es4:∀ tk,({s2 with heap:=h1,toks:=tk}:af)={s3 with heap:=h1,toks:=tk}:=λtk=>by rw[nM]
 have Hh:h1.Ns s3.heap.objs.size λ_=>none:=by rw[nM];exact ot
 have BW:∀ b o,s3.heap.get? b=some o->h1.get? b=some o:=by rw[nM];exact hup
 have HK:(∀ x c,(Ye X.env cs.names []).lookup x=some c->∃ v,s3.heap.IsCell c v)->∀ x c,(aE (s3.heap.objs.size+1) cs.names (Ye X.env cs.names [])).lookup x=some c->∃ v,h1.IsCell c v:=by rw[nM];exact jo
 generalize hD:s2.heap.objs.size=D at *;have fD:QU X pins H2 D:=I2.jJ (Xq hD) (I2.aR.fresh (Xq hD));have Ll:X.s₀.heap.objs.size<=D:=hD ▸ I2.sz;have Cq:∀ b∈fp,b<D:=λb hb=>let ⟨o,e,_⟩:=obj 0 _ kB b hb;hD ▸ Ua e;have hex:∀ b∈D::fp,QU X pins H2 b/\b<s3.heap.objs.size:=λb hb=>by
  rcases ua.mp hb with e|hb
  ·subst e;exact⟨fD,by rw[B4];exact Vi _⟩
  ·exact⟨f2 b hb,by rw[B4];exact Xs (Cq b hb)⟩
 obtain⟨C,hC⟩:∃ C,C=s3.heap.objs.size:=⟨_,rfl⟩;have I4:∀ tk,Inv (ia X cs N' C s3 H2 (D::fp)) [] (stC bV js σ) H2 {s3 with heap:=h1,toks:=tk}:=λtk=>by rw[hC];exact ZbO I3 ok hex Hh BW HK
 have DC:D≠C:=by rw[hC,B4];exact vb (Vi _)
 -- tx ki objects, and tx list, in tx block
 have C0:∀{pl:List (ae×Obj)} {H':Hp} {b:ae},b∈D::fp->H' b=none->(∀ p∈pl,p.1≠b)->QU (ia X cs N' C s3 H2 (D::fp)) pl H' b:=λ{pl H' b} hb hn hp=>by
  obtain⟨⟨g0,g1,g2,g3,g4,g5⟩,lt⟩:=hex b hb;refine⟨hn,hC ▸ vb lt,λz=>?_,.inl hb,λx c e=>?_,λp nF=>?_⟩
  ·rcases ua.mp (I3.hX b z) with e|e
   ·exact g1 e
   ·exact g2 e
  ·rcases Dl cs.names _ _ e with q|q
   ·exact g4 x c (zx cs.names [] (λy hy e=>I3.ok.has y.1 (ok.free y hy e)) (λ_ _ z=>by simp at z) q)
   ·exact Um (xn (hC ▸ lt) q)
  ·rcases Xf.mp nF with z|z
   ·exact g5 p (Xi _ z)
   ·exact hp p z
 have lp:∀ tk,bJ (ak X.prog X.w) X.A (.compLoop (.ListComp elt [⟨tg,iter,ifs,0⟩] cs pos) 0 (.ref it) (.ref D) (ia X cs N' C s3 H2 (D::fp)).env) (RR (.ref D) C) {s3 with heap:=h1,toks:=tk}:=λtk=>by
  obtain⟨m0,w0⟩:=w0;refine zcc (λn s=>∃ i acc ys k σ' H',Inv (ia X cs N' C s3 H2 (D::fp)) [] σ' H' s/\tn i s.heap/\(∀ b∈fp,H' b=none)/\H' D=none/\s.heap.get? D=some {cls:=.type "list",data:=.seq ys k}/\Vals acc ys.toList/\acc.length<=sizeLine/\W i n acc σ' H') ?_ m0
   ⟨0,[],#[],0,_,_,I4 tk,keep _ _ _ kB λb hb o e=>BW b o (Lf b o e),λb hb=>(f2 b hb).1,fD.1,BW _ _ gD3,.nil,um _,w0⟩
  rintro n s5 ⟨i,acc,ys,k,σ5,H5,I5,t5,n5,d5,g5,v5,l5,w5⟩;have JU:=I5.pinned (fp:=[D]) (λb hb=>by obtain rfl:=Xc.mp hb;exact C0 Ug d5 λp hp=>nomatch hp) (λb hb=>by obtain rfl:=Xc.mp hb;exact⟨_,g5,λv z=>nomatch z⟩);have He:sy [D] s5.heap=[(D,{cls:=.type "list",data:=.seq ys k})]:=by simp[sy,g5]
  rw[He,uf] at JU;have MX:∀ b∈fp,QU (ia X cs N' C s3 H2 (D::fp)) [(D,{cls:=.type "list",data:=.seq ys k})] H5 b:=λb hb=>C0 (Wf _ hb) (n5 b hb) λp hp=>by
   obtain rfl:=Xc.mp hp;exact Um (Cq b hb)
  rcases turn i n acc σ5 H5 w5 with ⟨stop,qf⟩|⟨go,step⟩
  ·refine bg (done (ia X cs N' C s3 H2 (D::fp)) rfl rfl rfl rfl rfl rfl i _ s5 σ5 H5 _ JU MX t5 stop) λr s6 ⟨hr,I6⟩=>?_;subst hr;obtain⟨g6,d6⟩:=yp I6 (Xc.mpr rfl);have IX:Inv X pins σ H5 s6:=I3.oA (ch:=D::fp) I6.os I6.base I6.aR I6.bare λb hb=>by
    obtain⟨⟨_,e1,_,e3,e4,e5⟩,_⟩:=hex b hb;exact⟨e3,e1,e4,e5⟩
   obtain⟨_,e1,e2,e3,e4,e5⟩:=fD;have IXD:=GA (o:=.lst acc) IX ⟨d6,e1,e2,e3,e4,e5⟩ Ll ⟨l5,ys.toList,k,v5,by simpa using g6⟩;have fC:QU X pins (upd H5 D (.lst acc)) C:=by
    have hn:(upd H5 D (.lst acc)) C=none:=by rw[Zc (Ne.symm DC)];exact I6.free
    have z:=I3.jJ (b:=C) (Xq hC.symm) (I3.aR.fresh (Xq hC.symm));exact⟨hn,z.2⟩
   obtain⟨m,hm,_⟩:=I6.loc;exact fin D C acc H5 s6 IXD fC (vf Ll (by rw[hC,B4];exact Wz _)) ⟨m,hm⟩ (qf D d6)
  ·refine bg (item (ia X cs N' C s3 H2 (D::fp)) rfl rfl rfl rfl rfl i _ s5 σ5 H5 _ JU MX t5 go) λr s6 ⟨u,hr,h6⟩=>?_;subst hr;refine bg h6 λ_ s7 ⟨x,H7,I7,r7,y7,t7,n7⟩=>?_;obtain⟨g7,d7⟩:=yp I7 (Xc.mpr rfl);have I7p:=I7.pinned (fp:=fp) (λb hb=>C0 (Wf _ hb) (n7 b hb) λp hp=>by obtain rfl:=Xc.mp hp;exact Um (Cq b hb)) (obj _ _ t7);refine bg (hg _ _ _ _ _ s7 σ5 H7 x u _ I7p r7 (step x H7 y7)) λ_ s8 ⟨σ8,H8,I8,q8⟩=>?_;refine bg (nH _ _ _ _ _ s8 σ8 H8 _ I8 q8) λb s9 ⟨H9,I9,q9⟩=>?_;cases b with
   |false =>
    rw[if_neg xi] at q9 ⊢;obtain⟨m',hm,w9⟩:=q9;obtain⟨g9,d9⟩:=yp I9 (Xi _ (Xc.mpr rfl));refine⟨m',hm,i+1,acc,ys,k,σ8,H9,I9.pins_of (λp hp=>nomatch hp),keep _ _ _ t7 λb hb o e=>(yp I9 (xf _ (Yu hb e))).1,λb hb=>?_,d9,g9,v5,l5,w9⟩;obtain⟨o,e,_⟩:=obj _ _ t7 b hb;exact(yp I9 (xf _ (Yu hb e))).2
   |true =>
    rw[if_pos rfl] at q9 ⊢;refine bg (jI _ _ _ _ _ s9 σ8 H9 _ I9 q9) λyv B6 ⟨y,DL,DK,r10,lt,m',hm,w10⟩=>?_;obtain⟨g10,Ip⟩:=yp DK (Xi _ (Xc.mpr rfl));have t10:tn (i+1) B6.heap:=keep _ _ _ t7 λb hb o e=>(yp DK (xf _ (Yu hb e))).1;have n10:∀ b∈fp,DL b=none:=λb hb=>by
     obtain⟨o,e,_⟩:=obj _ _ t7 b hb;exact(yp DK (xf _ (Yu hb e))).2
    have JV:Inv (ia X cs N' C s3 H2 (D::fp)) [] σ8 DL B6:=DK.pins_of λp hp=>nomatch hp;have lys:ys.size=acc.length:=by have:=v5.length;simp at this;lia
    refine wpAny_list_append_plain (hsz:=by lia) (show B6.heap.PlainList D ys from⟨k,g10⟩) λh11 p11 tY=>?_;obtain⟨_,a1,a2,a3,a4,a5⟩:=C0 (pl:=[]) (H':=DL) (b:=D) Ug Ip λp hp=>nomatch hp;obtain⟨k11,Ic⟩:=p11;refine⟨m',hm,i+1,acc++[y],ys.push yv,k11,σ8,DL,JV.turned (t':=B6.toks) (it:=D) (λb o hb e=>(tY.2 b hb).trans e) Ip a1 a3 a4 a5,keep _ _ _ t10 λb hb o e=>(tY.2 b (vb (Cq b hb))).trans e,n10,Ip,Ic,?_,by rw[vg,vB];exact lt,w10⟩;rw[Array.toList_push];exact v5.append (.cons r10 .nil)
 have R1:∀ tk,bJ (ak X.prog X.w) X.A (.compStart (.ListComp elt [⟨tg,iter,ifs,0⟩] cs pos) 0 (.ref it) (.ref D) (ia X cs N' C s3 H2 (D::fp)).env) (RR (.ref D) C) {s3 with heap:=h1,toks:=tk}:=λtk =>
  codeAny_compStart_list (lp tk) (self _ 0 _ _ _ (keep _ _ _ kB λb hb o e=>BW b o (Lf b o e)) (lp tk))
 have R2:=R1 s2.toks;rw[<- es4] at R2;subst hD;rw[hC,nM] at R2;exact R2
end
section
variable {X:Cx} {pins:List (ae×Obj)} {σ:L2.St} {H:Hp} {s:af} {h':Heap}
theorem Zv{t':Nat}{ch:List ae}(I:Inv X pins σ H s)(f:∀ b∈ch,QU X pins H b)(k:∀ b o,b∉ch->s.heap.get? b=some o->h'.get? b=some o):Inv X pins σ H {s with heap:=h',toks:=t'}:=by
 have nt:∀ b u,H b=some u->b∉ch:=λb u e z=>by
  have q:=(f b z).1;rw[e] at q;cases q
 refine I.step (g':=s.gens) (d':=s.drawn) (ch:=ch) (λb hb=>?_) (λb o _ _ hc e _=>k b o hc e) (λb o _ _ hc e _=>⟨o.slots,k b o hc e⟩) (λ_ _ _ _ n=>n) (λb o hc e=>⟨o,k b o hc e⟩) (λ_ _ e=>e) (λ_ _ _ e=>e) (λb ps e=>⟨#[],by rw[e];simp⟩) (λm hm=>?_) (λb u e=>?_) I.bare
 ·obtain⟨_,f1,f2,f3,f4,f5⟩:=f b hb;exact⟨f3,f1,f4,f5⟩
 ·obtain⟨o,es,ep,ho,r⟩:=hm;exact⟨o,es,ep,k _ o (λz=>(f _ z).2.1 rfl) ho,r⟩
 ·refine(I.aR b u e).iO (λc v hc q=>k c v ?_ q) (λ_ q=>q) λ_ _ q=>q
  rcases hc with z|z
  ·rw[z];exact nt b u e
  ·exact nt c _ z
noncomputable def gD(K:PySem.W.Frag)(H:Hp)(b:Bool)(a:ae)(xs:List V):Prop:=if b=true then fU K H a xs else fq K H a xs
theorem yr{b:Bool}{a:ae}{xs:List V}(I:Inv X pins σ H s)(h:gD X.K H b a xs):∃ aA:List aa,Vals xs aA/\cy s.heap b a aA.toArray/\xs.length<=sizeLine:=by
 cases b with
 |false=>obtain⟨aA,r,p,z⟩:=I.list (show fq X.K H a xs from h);exact⟨aA,r,p.isList,z⟩
 |true=>obtain⟨aA,r,p,z⟩:=I.tuple (show fU X.K H a xs from h);exact⟨aA,r,p,z⟩
theorem QV{b:Bool}{a:ae}{xs ys:List V}(I:Inv X pins σ H s)(h:gD X.K H b a xs)(h':gD X.K H b a ys):xs=ys:=by
 cases b with
 |false=>exact I.list_inj (show fq X.K H a xs from h) h'
 |true=>exact I.tuple_inj (show fU X.K H a xs from h) h'
noncomputable def JT(K:PySem.W.Frag)(b1 b2:Bool)(a1 a2:ae):It :=
 ⟨λi H=>∃ xs ys,gD K H b1 a1 xs/\gD K H b2 a2 ys/\i<xs.length/\i<ys.length,
 λi H x H'=>∃ T x1 y1,x=.ref T/\H T=none/\H'=upd H T (.tup [x1,y1])/\(∀ xs,gD K H b1 a1 xs->xs[i]?=some x1)/\(∀ ys,gD K H b2 a2 ys->ys[i]?=some y1),
 λi H=>∃ xs ys,gD K H b1 a1 xs/\gD K H b2 a2 ys/\(i=xs.length\/(i<xs.length/\i=ys.length))⟩
theorem zk{A:aw}(h:A.handled=none):A.in1.handled=none:=h
theorem Qci{P:aj}{w:World}{K:PySem.W.Frag}{es:List Expr}{kt:Nat}{pt:Pos}{b1 b2:Bool}{a1 a2 z TI TO i1 i2:ae}(Z:∀ m,(∀ a∈[a1,a2],a<m)->(∀ a∈[z,TI,TO,i1,i2],m<=a)->sx z TI TO i1 i2 [i1,a1] [i2,a2])
  (m:Nat) (h1:∀ a∈[a1,a2],a<m) (h2:∀ a∈[z,TI,TO,i1,i2],m<=a) :
  Turn P w K (.Tuple es kt pt) (JT K b1 b2 a1 a2) [z,TI,TO,i1,i2] z (λi h=>dA h z TI TO .none/\br h TI (.ref i1) (.ref i2)/\(∃ a b,br h TO a b)/\dz h b1 i1 a1 i/\dz h b2 i2 a2 i) where
 mem:=by simp
 obj:=λi h ⟨e1,e2,⟨a,b,e3⟩,e4,e5⟩ c hc=>by
  simp only[ua,Vc,or_false] at hc
  rcases hc with rfl|rfl|rfl|rfl|rfl
  ·exact⟨_,e1,λv q=>nomatch q⟩
  ·exact⟨_,e2,λv q=>nomatch q⟩
  ·exact⟨_,e3,λv q=>nomatch q⟩
  ·exact e4.obj
  ·exact e5.obj
 keep:=λi h h' ⟨e1,e2,⟨a,b,e3⟩,e4,e5⟩ k=>⟨k z (by simp) _ e1,k TI (by simp) _ e2,⟨a,b,k TO (by simp) _ e3⟩,e4.keeps λo e=>k i1 (by simp) o e,e5.keeps λo e=>k i2 (by simp) o e⟩
 item:=by
  intro X hP hw hK hc i pins s σ H E I hf ⟨e1,e2,⟨a,b,e3⟩,e4,e5⟩ hg;subst hP hw hK;obtain⟨xs,ys,q1,q2,l1,l2⟩:=hg;obtain⟨iA,v1,p1,_⟩:=yr I q1;obtain⟨gM,v2,p2,_⟩:=yr I q2;have ZZ:=Z m h1 h2;have n1:a1≠i1:=vb (Uc (h1 a1 (by simp)) (h2 i1 (by simp)));have n2:a2≠i2:=vb (Uc (h1 a2 (by simp)) (h2 i2 (by simp)));have D1:=zO (prog:=X.prog) (w:=X.w) (zk (I.ok.hd hc)) b1 i1 a1 n1 iA.toArray;have D2:=zO (prog:=X.prog) (w:=X.w) (zk (I.ok.hd hc)) b2 i2 a2 n2 gM.toArray;have Hs:=v1.length;have Hr:=v2.length;refine ZaH ZZ D1 D2 e1 e2 e3 ⟨e4,p1⟩ ⟨e5,p2⟩ (by simp;lia) (by simp;lia) λx y g tk px py f1 f2 f3 f4 f5 f6 f7=>⟨_,rfl,?_⟩;refine wpAny_letOwnedTupleGo_zip (s:={s with heap:=g,toks:=tk}) f1 λg' f8 f9=>?_;obtain⟨x1,xX⟩:∃ x1,xs[i]?=some x1:=⟨xs[i],by simp[l1]⟩;obtain⟨y1,Mu⟩:∃ y1,ys[i]?=some y1:=⟨ys[i],by simp[l2]⟩;obtain⟨u1,G7,r1⟩:=v1.get xX;obtain⟨u2,hu2,r2⟩:=v2.get Mu;have ex:x=u1:=by have z:iA.toArray[i]?=some x:=px;simp[G7] at z;exact z.symm
  have ey:y=u2:=by have z:gM.toArray[i]?=some y:=py;simp[hu2] at z;exact z.symm
  subst ex ey;have zlt:z≠s.heap.objs.size:=vb (Ua e1);have I1:Inv X pins σ H {s with heap:=g',toks:=tk}:=Zv (ch:=[z,TI,TO,i1,i2]) I hf λc o eF e=>by
   simp only[ua,Vc,or_false,not_or] at eF;exact(f9.2 c eF.1).trans (f7 c o eF.1 eF.2.2.1 eF.2.2.2.1 eF.2.2.2.2 e)
  have fT:=I.jJ (b:=s.heap.objs.size) (wb _) (I.aR.fresh (wb _));have gT:g'.get? s.heap.objs.size=some {cls:=.type "tuple",data:=.seq #[x,y]}:=(f9.2 _ (Ne.symm zlt)).trans f5;have I2:Inv X pins σ (upd H s.heap.objs.size (.tup [x1,y1])) {s with heap:=g',toks:=tk}:=GA I1 fT I.sz ⟨by show 2<=sizeLine;decide,[x,y],.cons r1 (.cons r2 .nil),⟨_,gT,rfl,_,rfl⟩⟩;have kz:∀ c∈[TI,TO,i1,i2],c≠z:=λc eF=>by
   simp only[ua,Vc,or_false] at eF
   rcases eF with rfl|rfl|rfl|rfl
   ·exact ZZ.FE
   ·exact ZZ.n6
   ·exactλq=>ZZ.z1 (q ▸ ZZ.m1)
   ·exactλq=>ZZ.z2 (q ▸ ZZ.m2)
  refine⟨.ref s.heap.objs.size,_,I2,rfl,⟨_,x1,y1,rfl,fT.1,rfl,λzs hz=>by rw[QV I hz q1];exact xX,λzs hz=>by rw[QV I hz q2];exact Mu⟩,
   ⟨f8,(f9.2 TI (kz TI (by simp))).trans (f7 TI _ ZZ.FE ZZ.tm ZZ.Li ZZ.Lh e2),⟨x,y,(f9.2 TO (kz TO (by simp))).trans f2⟩,f3.1.keeps λo e=>(f9.2 i1 (kz i1 (by simp))).trans e,f4.1.keeps λo e=>(f9.2 i2 (kz i2 (by simp))).trans e⟩,λc eF=>?_⟩
  have lt:c<s.heap.objs.size:=by
   simp only[ua,Vc,or_false] at eF
   rcases eF with rfl|rfl|rfl|rfl|rfl
   ·exact Ua e1
   ·exact Ua e2
   ·exact Ua e3
   ·exact let ⟨o,e,_⟩:=e4.obj;Ua e
   ·exact let ⟨o,e,_⟩:=e5.obj;Ua e
  rw[Zc (vb lt)];exact(hf c eF).1
 done:=by
  intro X hP hw hK hc i pins s σ H E I hf ⟨e1,e2,⟨a,b,e3⟩,e4,e5⟩ hg;subst hP hw hK;obtain⟨xs,ys,q1,q2,hk⟩:=hg;obtain⟨iA,v1,p1,_⟩:=yr I q1;obtain⟨gM,v2,p2,_⟩:=yr I q2;have ZZ:=Z m h1 h2;have n1:a1≠i1:=vb (Uc (h1 a1 (by simp)) (h2 i1 (by simp)));have n2:a2≠i2:=vb (Uc (h1 a2 (by simp)) (h2 i2 (by simp)));have D1:=zO (prog:=X.prog) (w:=X.w) (zk (I.ok.hd hc)) b1 i1 a1 n1 iA.toArray;have D2:=zO (prog:=X.prog) (w:=X.w) (zk (I.ok.hd hc)) b2 i2 a2 n2 gM.toArray;have Hs:=v1.length;have Hr:=v2.length;refine zaO ZZ D1 D2 e1 e2 e3 ⟨e4,p1⟩ ⟨e5,p2⟩ (by simp;lia) λg tk k=>⟨rfl,?_⟩;exact Zv (ch:=[z,TI,TO,i1,i2]) I hf λc o eF e=>by
   simp only[ua,Vc,or_false,not_or] at eF;exact k c o eF.1 eF.2.2.1 eF.2.2.2.1 eF.2.2.2.2 e
 self:=λ_ _ _ _ _ st h=>hJ st.1 h
end
section
variable {X:Cx}
theorem Nv{tg:Expr}{J:It}{fp:List ae}{it:ae}{tn:Nat->Heap->Prop}(hc:X.calm=true)(T:Turn X.prog X.w X.K tg J fp it tn):Ov X tg J fp it tn :=
 λY e1 e2 e3 e4 e5 i pins s σ H E I f t g=>by
  have q:=T.item Y e1 e2 e3 (e4.trans hc) i pins s σ H E I f t g;rw[e5] at q;exact q
theorem OH{tg:Expr}{J:It}{fp:List ae}{it:ae}{tn:Nat->Heap->Prop}(hc:X.calm=true)(T:Turn X.prog X.w X.K tg J fp it tn):Nl X J fp it tn :=
 λY e1 e2 e3 e4 e5 _ i pins s σ H E I f t g=>by
  have q:=T.done Y e1 e2 e3 (e4.trans hc) i pins s σ H E I f t g;rw[e5] at q;exact q
variable {elt iter tg:Expr} {ifs:List Expr} {cs:az} {pos:Pos} {wi:TI} {g:TG} {tc:TT} {te:TE}
theorem QcL(N':List Str)(bV:Nat)(js:List Nat)(aR:QF X.env.scope X.N cs N' bV js=true)(hc:X.calm=true)(hi:PI X tg iter wi)(hg:∀ C s3 H ex,PG (ia X cs N' C s3 H ex) tg g)(nH:∀ C s3 H ex,lL (ia X cs N' C s3 H ex) ifs tc)
  (jI:∀ C s3 H ex,PE (ia X cs N' C s3 H ex) elt te) (hs:∀ x,cG iter X.env x=pure x:=by intro _;rfl):PE X (.ListComp elt [⟨tg,iter,ifs,0⟩] cs pos) (Jb wi bV js g tc te):=by
 intro pins s σ H Q I h;have ok:=ig.of aR;rw[eval_ListComp];refine d8 (use:=none) rfl hs (L4 λy hy e=>I.ok.has y.1 (ok.free y hy e)) ok.kind ok.locs (bg (hi pins s σ H _ I h) λv s1 h1=>bg h1 λCy s2 h2=>?_);obtain⟨it,fp,tn,J,H2,e,I2,T,kB,f2,W,w0,turn⟩:=h2;subst e;refine Km (Q:=Q) (RR:=λacc C=>compPost (ak X.prog X.w) X.A X.xe none (EP X pins σ Q) acc C) ok hg nH jI I2 T.mem T.obj T.keep (Nv hc T) (OH hc T) T.self kB f2 W w0 turn λD C acc H' s6 IX fC zC hm q=>?_;obtain⟨m,hm⟩:=hm;refine⟨m,hm,λh' sb=>⟨.ref D,_,?_,rfl,q⟩⟩;exact Zv (t':=s6.toks) (ch:=[C]) IX (λb hb=>by obtain rfl:=Xc.mp hb;exact fC) λb o hb e=>(sb.2 b λz=>hb (by simp[z])).trans e
theorem YcU{i:Nat}{x:Str}{pos' tT:Pos}(hN:X.N.Nodup)(CQ:X.N[i]?=some x)(hx:Loc X.env.scope x)(N':List Str)(bV:Nat)(js:List Nat)(aR:QF X.env.scope X.N cs N' bV js=true)(hc:X.calm=true)(hi:PI X tg iter wi)
  (hg:∀ C s3 H ex,PG (ia X cs N' C s3 H ex) tg g) (nH:∀ C s3 H ex,lL (ia X cs N' C s3 H ex) ifs tc) (jI:∀ C s3 H ex,PE (ia X cs N' C s3 H ex) elt te)
  (Ab:bo (.ListComp elt [⟨tg,iter,ifs,0⟩] cs pos) (some (.Name x pos')) tT.line X.env=pure true:=by rfl) (hs:∀ x,cG iter X.env x=pure x:=by intro _;rfl)
  (hf:X.fn x=true\/X.env.scope.names.lookup x=some .local:=by first|exact .inl rfl|exact .inr rfl|assumption) :
  PS X (.Assign [.Name x pos'] (.ListComp elt [⟨tg,iter,ifs,0⟩] cs pos) tT) (tQ (Jb wi bV js g tc te) (Gn i)):=by
 intro pins s σ H D0 I h;have ok:=ig.of aR;rw[exec_Assign_Name_used _ _ _ _ Ab];refine ab (bW (ab ?_));show ah _ X.A (do let _<-comprehension (.ListComp elt [⟨tg,iter,ifs,0⟩] cs pos) cs X.env _ (newList []) false (eval iter X.env) (some (eD (.Name x pos') X.env))) _ _ s;refine ab (aS (d8 (use:=some (eD (.Name x pos') X.env)) (Q:=λ_ s'=>SP X pins D0 .next s') rfl hs (L4 λy hy e=>I.ok.has y.1 (ok.free y hy e)) ok.kind ok.locs (bg (hi pins s σ H _ I h) λv s1 h1=>bg h1 λCy s2 h2=>?_))
  (λ_ s' hq=>ag (ag hq)) λ_ _ e=>e)
 obtain⟨it,fp,tn,J,H2,e,I2,T,kB,f2,W,w0,turn⟩:=h2;subst e;refine Km (Q:=λv H'=>Gn i v σ H' D0.nx) (RR:=λacc C=>compPost (ak X.prog X.w) X.A X.xe (some (eD (.Name x pos') X.env)) (λ_ s'=>SP X pins D0 .next s') acc C) ok hg nH jI I2 T.mem T.obj T.keep (Nv hc T) (OH hc T) T.self kB f2 W w0 turn λD C acc H' s6 IX fC zC hm q=>?_;obtain⟨m,hm⟩:=hm;obtain⟨oC,esC,epC,gC,dC,rC⟩:=id hm;have nc:∀ v,oC.data≠.cell v:=λv z=>by rw[dC] at z;cases z
 have IXp:=IX.pinned (fp:=[C]) (λb hb=>by obtain rfl:=Xc.mp hb;exact fC) (λb hb=>by obtain rfl:=Xc.mp hb;exact⟨oC,gC,nc⟩);show ah (ak X.prog X.w) X.A (eD (.Name x pos') X.env (.ref D)) _ X.xe s6;refine bg (K1 hN CQ hx hf _ s6 σ _ (.ref D) (.ref D) _ IXp rfl q) λ_ s7 ⟨σ7,H7,I7,q7⟩=>?_;obtain⟨g7,d7⟩:=yp I7 (xf _ (Yu (Xc.mpr rfl) gC));refine⟨m,⟨oC,esC,epC,g7,dC,rC⟩,λh' sb=>⟨σ7,H7,?_,q7⟩⟩;obtain⟨_,c1,c2,c3,c4,c5⟩:=fC;exact Zv (t':=s7.toks) (ch:=[C]) I7.gK (λb hb=>by obtain rfl:=Xc.mp hb;exact⟨d7,c1,c2,c3,c4,c5⟩) λb o hb e=>(sb.2 b λz=>hb (by simp[z])).trans e
theorem Qz{a b:Nat}(h:a<b\/b<a):a≠b:=by lia
theorem sC{a b c:Nat}(h1:a≠b)(h2:a≠c):(a:ae)∉([b,c]:List ae):=by
 simp only[ua,Vc,or_false,not_or];exact⟨h1,h2⟩
theorem YcK(n a1 a2:Nat)(h1:a1<n)(h2:a2<n):sx (n+4) (n+2) (n+3) n (n+1) [n,a1] [n+1,a2] where
 FE:=Qz (a:=n+2) (b:=n+4) (by lia)
 n6:=Qz (a:=n+3) (b:=n+4) (by lia)
 tm:=Qz (a:=n+2) (b:=n+3) (by lia)
 Li:=Qz (a:=n+2) (b:=n) (by lia)
 Lh:=Qz (a:=n+2) (b:=n+1) (by lia)
 z1:=sC (Qz (by lia)) (Qz (by lia))
 z2:=sC (Qz (by lia)) (Qz (by lia))
 t1:=sC (Qz (by lia)) (Qz (by lia))
 t2:=sC (Qz (by lia)) (Qz (by lia))
 m1:=by simp
 m2:=by simp
 a1:=sC (Qz (by lia)) (Qz (by lia))
 a2:=sC (Qz (by lia)) (Qz (by lia))
theorem HX{n b:Nat}(h:(b:ae)∈([n+4,n+2,n+3,n,n+1]:List ae)):n<=b:=by
 simp only[ua,Vc,or_false] at h
 rcases h with h|h|h|h|h <;> (have h':b=_:=h;rw[h'];first|exact VF _ _|exact wb _)
theorem MQ{n b:Nat}(h:(b:ae)∈([n+1,n]:List ae)):n<=b:=by
 simp only[ua,Vc,or_false] at h
 rcases h with h|h <;> (have h':b=_:=h;rw[h'];first|exact VF _ _|exact wb _)
noncomputable def xU(K:PySem.W.Frag)(ta:TA):TI:=λσ H R=>ta σ H λvs H1=>∃ b1 b2 a1 a2,vs=[.ref a1,.ref a2]/\(∃ xs,gD K H1 b1 a1 xs)/\(∃ ys,gD K H1 b2 a2 ys)/\R (JT K b1 b2 a1 a2) H1
theorem Zdj{a b:Expr}{ta:TA}{p pos:Pos}{es:List Expr}{kt:Nat}{pt:Pos}(hg:Gl X "zip")(hm:X.mg "zip"=none)(ha:PA X [a,b] ta)(hs:au [a,b] X.env=[(false,eval a X.env),(false,eval b X.env)]:=by rfl)(kY:au [b] X.env=[(false,eval b X.env)]:=by rfl) :
  PI X (.Tuple es kt pt) (.Call (.Name "zip" p) [a,b] [] pos) (xU X.K ta):=by
 intro pins s σ H R I h;refine Call_ (p9 I hg hm boot_zip (PyProof.Rows.callWith_type1 (bg (ha pos pins s σ H _ I h) λus s1 ⟨vs,H1,I1,r1,q1⟩=>?_) (by rw[hs,kY]) (by rw[kY];rfl)));obtain⟨b1,b2,a1,a2,e,⟨xs,h1⟩,⟨ys,h2⟩,q⟩:=q1;subst e;cases r1 with
 |cons r rr =>
  cases rr with
  |cons r' rr =>
   cases rr;obtain rfl:_=aa.ref a1:=r;obtain rfl:_=aa.ref a2:=r';obtain⟨iA,v1,p1,_⟩:=yr I1 h1;obtain⟨gM,v2,p2,_⟩:=yr I1 h2;have l1:=p1.lt;have l2:=p2.lt;refine qcw p1 p2 λg f1 f2 f3 f4 f5 f6=>?_;refine hJ f1 ?_;refine⟨s1.heap.objs.size+4,[s1.heap.objs.size+4,s1.heap.objs.size+2,s1.heap.objs.size+3,s1.heap.objs.size,s1.heap.objs.size+1],_,_,H1,rfl,I1.kept (t':=s1.toks) f6,Qci (b1:=b1) (b2:=b2) (a1:=a1) (a2:=a2) (λ_ _ _=>YcK _ a1 a2 l1 l2) s1.heap.objs.size (λa CU=>?_) (λa CU=>HX CU),⟨f1,f2,⟨_,_,f3⟩,f4,f5⟩,λb hb=>I1.jJ (HX hb) (I1.aR.fresh (HX hb)),q⟩;simp only[ua,Vc,or_false] at CU
   rcases CU with rfl|rfl <;> assumption
end
noncomputable def jN(P:aj)(w:World):kQ:=λouter H s E e s'=>∃ x C t tb H',e=.ref x/\s'.os=s.os/\dD s'.gens/\Un (kZ outer) [] H H' s.heap s'.heap/\fe P w H' s'.heap/\s'.heap.get? x=some (mY C t tb)/\Tb s'.heap x tb /\
 H' x=none/\s.heap.get? x=none/\(∀ T,tb=.ref T->H' T=none/\s.heap.get? T=none)/\E (.ref C) none H'
structure rp (X:Cx) (pins:List (ae×Obj)) (H:Hp) (b:ae):Prop where
 un:H b=none
 loc:b≠X.env.locals
 fs:b∉X.fs
 new:X.s₀.heap.get? b=none
 cell:∀ x c,X.env.cells.lookup x=some c->c≠b
 pin:∀ p∈X.pn++pins,p.1≠b
noncomputable def JE(X:Cx)(E:XK):Prop:=∀(pins:List (ae×Obj)) (σ:L2.St) (H:Hp) (s:af) (x C t:ae) (tb:aa),Inv X pins σ H s->s.heap.get? x=some (mY C t tb)->Tb s.heap x tb->rp X pins H x->(∀ T,tb=.ref T->rp X pins H T)->E (.ref C) none H->X.xe (.ref x) s
section
variable {X:Cx} {pins:List (ae×Obj)} {σ:L2.St} {H H':Hp} {s:af}
theorem OL{b:ae}(I:Inv X pins σ H s)(hx:X.ex=[])(hb:s.heap.get? b=none)(hn:H' b=none):rp X pins H' b:=by
 have al:∀{c o},s.heap.get? c=some o->c≠b:=λ{c o} e z=>by rw[z,hb] at e;cases e
 refine⟨hn,λz=>?_,λz=>?_,?_,λx c e=>?_,λp hp=>al (I.pin p hp).1⟩
 ·obtain⟨m,⟨o,_,_,e,_⟩,_⟩:=I.loc;exact al e z.symm
 ·obtain⟨_,o,e,_⟩:=I.iX.mem z;exact al e rfl
 ·cases q:X.s₀.heap.get? b with
  |none=>rfl
  |some o =>
   obtain⟨o',e⟩:=I.base.there b o q (by rw[hx];exactλz=>nomatch z);exact absurd rfl (al e)
 ·obtain⟨v,o,e,_⟩:=I.cell x c e;exact al e
theorem Yca{E:XK}(hx:X.ex=[])(T:JE X E):zc9 (jN X.prog X.w) X E:=by
 intro pins σ H s e s' I h;obtain⟨x,C,t,tb,H',rfl,os,bare,un,aR,e1,e2,e3,e4,e5,q⟩:=h;have I':Inv X pins σ H' s':=I.oA (ch:=[]) os un aR bare λb z=>nomatch z;exact T pins σ H' s' x C t tb I' e1 e2 (OL I hx e4 e3) (λT' z=>OL I hx (e5 T' z).2 (e5 T' z).1) q
theorem qb9{P:aj}{w:World}{h h':Heap}{fs:List ae}{x:ae}{tb:aa}(ok:fe P w H h)(n:kN fs x tb h h')(hf:∀ b∈fs,H b=none)(hx:H x=none)(ht:∀ T,tb=.ref T->H T=none):fe P w H h':=λb u e=>by
 have go:∀ c v,H c≠none->h.get? c=some v->h'.get? c=some v:=λc v hc q=>n.keep c v (λz=>hc (hf c z)) (λz=>hc (z ▸ hx)) (λz=>hc (ht c z.symm)) q;refine(ok b u e).iO (λc v hc q=>go c v ?_ q) (λ_ q=>q) λ_ _ q=>q
 rcases hc with z|z
 ·rw[z,e];exactλz=>nomatch z
 ·rw[z];exactλz=>nomatch z
theorem Oc{h h':Heap}{fs:List ae}{x:ae}{tb:aa}{b:ae}{o:Obj}(n:kN fs x tb h h')(h1:b≠x)(h2:aa.ref b≠tb)(e:h.get? b=some o):∃ sl,h'.get? b=some {o with slots:=sl}:=by
 by_cases z:b∈fs
 ·exact n.slot b o z h1 h2 e
 ·exact⟨o.slots,n.keep b o z h1 h2 e⟩
theorem Zck{fs CZ ex:List ae}{H0:Hp}{h0 h h':Heap}{x:ae}{tb:aa}(u:Un fs ex H0 H h0 h)(n:kN CZ x tb h h')(hx:h0.get? x=none)(ht:∀ T,tb=.ref T->h0.get? T=none)(hs:∀ b o,h0.get? b=some o->b∉fs->b∉CZ):Un fs ex H0 H h0 h':=by
 have ne:∀ b o,h0.get? b=some o->b≠x/\aa.ref b≠tb:=λb o e=>⟨λz=>(by rw[z,hx] at e;cases e),λz=>(by rw[ht b z.symm] at e;cases e)⟩;refine⟨λb o e q hb jx=>n.keep b o (hs b o e hb) (ne b o e).1 (ne b o e).2 (u.keep b o e q hb jx),λb o e q hb jx=>?_,u.free,λb o e jx=>?_,u.jd,u.iY,u.jf⟩
 ·obtain⟨sl,z⟩:=u.slot b o e q hb jx;obtain⟨B5,z'⟩:=Oc n (ne b o e).1 (ne b o e).2 z;exact⟨B5,z'⟩
 ·obtain⟨o',z⟩:=u.there b o e jx;obtain⟨B5,z'⟩:=Oc n (ne b o e).1 (ne b o e).2 z;exact⟨_,z'⟩
theorem zce(I:Inv X pins σ H s){b:ae}{o:Obj}(e:X.s₀.heap.get? b=some o)(hb:b∉X.fs):b∉kZ X.stack:=λz=>by
 rcases ua.mp (I.hX b z) with y|y
 ·exact absurd (Uc (Ua e) I.ok.above) (by rw[y];exact Vh _)
 ·exact hb y
end
theorem NZ{P:aj}{w:World}{K:PySem.W.Frag}{mg:Str->Option aa}{base:Heap}{N:List Str}{qual:Str}{scope:az}{f:ae}{cd:aa}{A:aw}{outer:List Env}{s0:af}{H0:Hp}{E:XK} :
  JE (lu (jN P w) P w K mg base N qual scope f cd A outer s0 H0 E) E:=by
 intro pins σ H s x C t tb I e1 e2 fx ft q;refine yb2 (env:=eB qual scope s0.heap.objs.size f cd) (outer:=outer) (L:=s0.heap.objs.size) I.ok.frames I.stack rfl e1 e2 λh' T n g1 g2 g3=>?_;refine⟨x,C,t,.ref T,H,rfl,I.os,I.bare,Zck I.base n fx.new (λT z=>(ft T z).new) λb o e hb=>zce I e hb,qb9 I.aR n I.jB fx.un λT z=>(ft T z).un,g1,g2,fx.un,fx.new,λT' z=>?_,q⟩;cases z;exact⟨I.aR.fresh g3,UC (vf I.sz g3)⟩
theorem zcG{P:aj}{w:World}{K:PySem.W.Frag}{mg:Str->Option aa}{base:Heap}{N:List Str}{qual:Str}{scope:az}{f:ae}{cd:aa}{A:aw}{outer:List Env}{s0:af}{H0:Hp}{E:XK}{CX:kQ} :
  fL (ak P w) (lu CX P w K mg base N qual scope f cd A outer s0 H0 E).A (lu CX P w K mg base N qual scope f cd A outer s0 H0 E).env (lu CX P w K mg base N qual scope f cd A outer s0 H0 E).xe:=fL.leaving
abbrev bmV:List aa:=[.type "ValueError",.type "Exception",.type "BaseException",.type "object"]
noncomputable def mr(K:PySem.W.Frag)(C:ae):Prop:=PySem.W.excIn K C bmV "ValueError.__new__"=true
noncomputable def Dk(K:PySem.W.Frag)(C:ae):List aa:=match K.lookup C with
 |some ⟨_,_,.cls cd,_⟩=>cd.mro.tail
 |_=>[]
structure Bt (K:PySem.W.Frag) (C:ae):Prop where
 q:mr K C
 ga:ub K (.ref C) "__getattribute__"=some (some (.builtin "BaseException.__getattribute__"))
 gt:ub K (.ref C) "__getattr__"=some none
 cl:ub K (.ref C) "__class__"=some (some (.builtin "object.__class__"))
 gn:vv K (.builtin "object.__class__") "__get__"=some (some (.builtin "getset_descriptor.__get__"))
 tk:Vw K (.builtin "object.__class__")=some true
 mo:Vn K C (.type "object")=some true
 ci:(Wl K C).isSome=true
section
variable {X:Cx} {pins pl:List (ae×Obj)} {σ σ0:L2.St} {H:Hp} {s:af} {E:XK}
noncomputable def Yw(CX:kQ)(X:Cx)(σ:L2.St)(E:XK):Prop:=∀(pins:List (ae×Obj)) (H:Hp) (s:af) (e:aa) (s':af),Inv X pins σ H s->CX X.stack H s E e s'->X.xe e s'
end
section
variable {X:Cx} {CX:kQ} {k:Nat} {f C:ae} {fd:bu} {ps:List Str} {sp:Sp} {dvs:List V} {ds:List aa} {E:XK} {x m:Str} {p pos apos:Pos} {e o:Expr} {es:List Expr} {ta:TE} {t:TA} {σ0:L2.St}
theorem Jf{pins:List (ae×Obj)}{H:Hp}{s:af}{Q:VK}{us:List aa}{vs:List V}(F:fu X.prog X.w X.K X.mg X.base CX k f fd ps sp)(hr:dj k X.A)(hb:Binds X.K fd ps ds)(hd:Vals dvs ds)(hx:Yw CX X σ0 E)
  (I:Inv X pins σ0 H s) (r:Vals vs us) (h:sp (vs++dvs) H Q E):ah (ak X.prog X.w) X.A (call (.ref f) us) (EP X pins σ0 Q) X.xe s:=by
 have r2:Vals (vs++dvs) (us++ds):=r.append hd;have hl:(us++ds).length=ps.length:=by rw[<- r2.length];exact F.len _ _ _ _ h
 refine eU (cO (F.run X.A X.stack s H ⟨us,[]⟩ (us++ds) (vs++dvs) Q E hr I.AA (hb s us I.gY hl) r2 h) λr s' hq=>?_);cases r with
 |error e=>exact hx pins H s e s' I hq
 |ok fl =>
  cases fl with
  |ret u=>exact I.after hq
  |next=>exact False.elim hq
  |brk=>exact False.elim hq
  |cont=>exact False.elim hq
noncomputable def Ol(σ0:L2.St)(sp:Sp)(dvs:List V)(E:XK)(t:TA):TE:=λσ H Q=>σ=σ0/\t σ H λvs H1=>sp (vs++dvs) H1 Q E
theorem Yck(F:fu X.prog X.w X.K X.mg X.base CX k f fd ps sp)(hr:dj k X.A)(hg:Gl X x)(hm:X.mg x=some (.ref f))(hk:we X.K (.ref f)=true)(hb:Binds X.K fd ps ds)(hd:Vals dvs ds)(hx:Yw CX X σ0 E)
  (ha:PA X (e::es) t) (kc:(x==("__debug__":Str))=false:=by decide) (he:au (e::es) X.env=(false,eval e X.env)::au es X.env:=by rfl) (cF:(bh pos (au es X.env)).any (·.1)=false:=by rfl) :
  PE X (.Call (.Name x p) (e::es) [] pos) (Ol σ0 sp dvs E t):=by
 intro pins s σ H Q I h;obtain⟨rfl,h⟩:=h;refine aT (BV I hg hm ?_ kc);refine Uz (h₀:=X.base) I.ok.mod.wX hk (bg (ha pos pins s σ H _ I h) λus s1 ⟨vs,H1,I1,r,q⟩=>⟨I1.gY,?_⟩) he cF;exact Jf F hr hb hd hx I1 r q
theorem Qcc{pins:List (ae×Obj)}{H:Hp}{s:af}{Q:VK}{us:List aa}{vs:List V}(M:Mk X.K C f)(F:fu X.prog X.w X.K X.mg X.base CX k f fd ps sp)(hr:dj (k+1) X.A)(hb:Binds X.K fd ps ds)(hd:Vals dvs ds)
  (hx:Yw CX X σ0 E) (I:Inv X pins σ0 H s) (r:Vals vs us)
  (h:∀ x dx,H x=none->H dx=none->dx≠x->sp (.ref x::(vs++dvs)) (upd (upd H dx (.own x)) x (.ins C dx [])) (λv H2=>v=.bI/\Q (.ref x) H2) E) :
  ah (ak X.prog X.w) X.A (call (.ref C) us) (EP X pins σ0 Q) X.xe s:=by
 have hq:=h (s.heap.objs.size+1) s.heap.objs.size (I.aR.fresh (Wz _)) (I.aR.fresh (wb _)) (vb (Vi _));have I2:=Inv.made (C:=C) I;have r2:Vals (V.ref (s.heap.objs.size+1)::(vs++dvs)) (aa.ref (s.heap.objs.size+1)::(us++ds)):=.cons rfl (r.append hd);have hl:(aa.ref (s.heap.objs.size+1)::us++ds).length=ps.length:=by
  have e:=r2.length;rw[F.len _ _ _ _ hq] at e;exact e.symm
 refine eU (qcm (f:=f) I.gY M.makes M.init (beq_iff_eq.mp M.fn) (cO (F.run _ X.stack _ _ ⟨aa.ref (s.heap.objs.size+1)::us,[]⟩ (aa.ref (s.heap.objs.size+1)::(us++ds)) _ _ E (hr.make C us [])
  (I2.AA.make C us []) (hb _ (aa.ref (s.heap.objs.size+1)::us) I2.gY hl) r2 hq) λr s' Ae=>?_))
 cases r with
 |error e=>exact hx pins _ _ e s' I2 Ae
 |ok fl =>
  cases fl with
  |ret u =>
   obtain⟨v,H',I3,rv,ev,q3⟩:=I2.after Ae;subst ev;exact⟨rv,⟨V.ref (s.heap.objs.size+1),H',I3,rfl,q3⟩⟩
  |next=>exact False.elim Ae
  |brk=>exact False.elim Ae
  |cont=>exact False.elim Ae
noncomputable def Nd(σ0:L2.St)(C:ae)(sp:Sp)(dvs:List V)(E:XK)(t:TA):TE:=λσ H Q=>σ=σ0/\t σ H λvs H1=>∀ x dx,H1 x=none->H1 dx=none->dx≠x ->
 sp (.ref x::(vs++dvs)) (upd (upd H1 dx (.own x)) x (.ins C dx [])) (λv H2=>v=.bI/\Q (.ref x) H2) E
theorem Ycl(M:Mk X.K C f)(F:fu X.prog X.w X.K X.mg X.base CX k f fd ps sp)(hr:dj (k+1) X.A)(hg:Gl X x)(hm:X.mg x=some (.ref C))(hb:Binds X.K fd ps ds)(hd:Vals dvs ds)(hx:Yw CX X σ0 E)
  (ha:PA X (e::es) t) (kc:(x==("__debug__":Str))=false:=by decide) (he:au (e::es) X.env=(false,eval e X.env)::au es X.env:=by rfl) (cF:(bh pos (au es X.env)).any (·.1)=false:=by rfl) :
  PE X (.Call (.Name x p) (e::es) [] pos) (Nd σ0 C sp dvs E t):=by
 intro pins s σ H Q I h;obtain⟨rfl,h⟩:=h;refine aT (BV I hg hm ?_ kc);refine Uz (h₀:=X.base) I.ok.mod.wX M.kp (bg (ha pos pins s σ H _ I h) λus s1 ⟨vs,H1,I1,r,q⟩=>⟨I1.gY,?_⟩) he cF;exact Qcc M F hr hb hd hx I1 r q
end
structure nW (K:PySem.W.Frag) (x qual:Str) (st:Stmt) (f:ae) (fd:bu):Prop where
 ex:∃(oc:aa)(od:Option ae)(dV kV doc pm:aa)(an:Option ae)(dF ct:aa) (jk:Array (Option aa)),
  fd=Ve x qual (Yi st) (Yf st) (qb st) dV kV doc pm an dF ct/\K.lookup f=some ⟨oc,od,.func fd,jk⟩/\xg K dF qual=true
 kp:we K (.ref f)=true
theorem qcE{K:PySem.W.Frag}{x qual:Str}{st:Stmt}{f:ae}{oc:aa}{od an:Option ae}{jk:Array (Option aa)}{dV kV doc pm dF ct:aa}(l:K.lookup f=some ⟨oc,od,.func (Ve x qual (Yi st) (Yf st) (qb st) dV kV doc pm an dF ct),jk⟩)
  (c:xg K dF qual=true) (k:we K (.ref f)=true):nW K x qual st f (Ve x qual (Yi st) (Yf st) (qb st) dV kV doc pm an dF ct):=⟨⟨oc,od,dV,kV,doc,pm,an,dF,ct,jk,rfl,l,c⟩,k⟩
structure Bj (k:Nat) (A:aw) (x:ae):Prop where
 hd:A.handled=some (.ref x)
 dp:A.depth+3*k+5<bQ
 un:A.units+16*k+200<cR
structure Bs (P:aj) (w:World) (K:PySem.W.Frag) (mg:Str->Option aa) (base:Heap) (k:Nat) (f:ae) (fd:bu) (ps:List Str) (sp:ae->ae->Sp):Prop where
 len:∀ x C vs H Q E,sp x C vs H Q E->vs.length=ps.length
 run:∀(x C t T:ae)(A:aw)(outer:List Env)(s:af)(H:Hp) (args:Args) (us:List aa) (vs:List V) (Q:VK),Bj k A x->j7 P w K mg base A outer s H->s.heap.get? x=some (mY C t (.ref T))->H x=none->gX s fd args (ps.zip us)->Vals vs us->sp x C vs H Q E0 ->
  bJ (ak P w) A (.call (.ref f) args) (CR CX0 outer P w H s Q E0) s
theorem Z6{prog:aj}{w:World}{A:aw}(hh:A.handled=none)(b:Bool)(I ax:ae)(jb:ax≠I)(items:Array aa) :
  Walks prog w A I [I,ax] [I] items.size (λi v=>items[i]?=some v) (λi h=>dz h b I ax i/\cy h b ax items):=by
 cases b with
 |false=>exact Walks.list hh I ax jb items
 |true =>
  exact{
   sub:=λb hb=>by simp at hb;simp[hb]
   frame:=λ_ _ _ st hk=>⟨st.1.keeps λo e=>hk I (by simp) o e,st.2.keeps λo e=>hk ax (by simp) o e⟩
   item:=λi s Q E hi st hQ=>by
    refine eG (show s.heap.IsTupleIter I ax i from st.1) (show s.heap.IsTuple ax items from st.2) (x:=items[i]) (by simp[hi]) λh' a sb=>?_;exact hQ _ h' s.toks (by simp[hi]) ⟨a,st.2.keeps λo e=>sb.extBut ax o jb e⟩ λb o hb e=>sb.extBut b o (λz=>hb (by simp[z])) e
   done:=λs Q E st hQ=>eO hh (show s.heap.IsTupleIter I ax items.size from st.1) (show s.heap.IsTuple ax items from st.2) (by simp) λh' he=>hQ h' s.toks λb o hb e=>he b o (λz=>hb (by simp[z])) e
   self:=λ_ _ _ _ st hQ=>eQ (show Heap.IsTupleIter _ I ax _ from st.1) hQ}
theorem qH{ns:List Int}{us:List aa}(r:Vals (ns.map V.int) us){i:Nat}{v:aa}(h:us.toArray[i]?=some v):∃ t,v=.int (ns.getD i 0) t:=by
 have h':us[i]?=some v:=by simpa using h
 have lt:i<us.length:=(Xa.mp h').1;have hl:=r.length;rw[xc] at hl;obtain⟨u,hu,ru⟩:=r.get (i:=i) (x:=.int (ns.getD i 0)) (by rw[wc,xa (by lia),Uf,xa (by lia)];rfl);rw[hu] at h';cases h';exact ru
theorem zcN{bs:List Bool}{us:List aa}(r:Vals (bs.map V.bl) us){i:Nat}{v:aa}(h:us.toArray[i]?=some v):v=.bool (bs.getD i true):=by
 have h':us[i]?=some v:=by simpa using h
 have lt:i<us.length:=(Xa.mp h').1;have hl:=r.length;rw[xc] at hl;obtain⟨u,hu,ru⟩:=r.get (i:=i) (x:=.bl (bs.getD i true)) (by rw[wc,xa (by lia),Uf,xa (by lia)];rfl);rw[hu] at h';cases h';exact ru
theorem Kp(ns:List Int):∀ k,k<=ns.length->kh (λi=>ns.getD i 0) k=(ns.take k).sum
 |0,_=>by simp[kh]
 |k+1,h=>by
  have e:ns.take (k+1)=ns.take k++[ns.getD k 0]:=by
   rw[List.take_succ_eq_append_getElem (by lia),Uf,xa (by lia)];rfl
  show kh (λi=>ns.getD i 0) k+ns.getD k 0=_;rw[Kp ns k (by lia),e,List.sum_append,wo,List.sum_nil,Int.add_zero]
theorem ZcE(bs:List Bool):(Xd bs.length).all (λi=>bs.getD i true)=bs.all id:=by
 rw[Bool.eq_iff_iff,vo,vo];constructor
 ·intro h x hx;obtain⟨i,hi,e⟩:=wu hx;have:=h i (xj.mpr hi);rw[Uf,xa hi] at this;rw[<- e];exact this
 ·intro h i hi;rw[Uf,xa (xj.mp hi)];exact h _ (wj _)
theorem IH(val:Nat->Int)(bt:Nat->Nat->Bool)(hb:∀ i j,bt i j=decide (val i<val j)):∀ k,dX bt k<=k/\∀ j,j<=k->val (dX bt k)<=val j
 |0=>⟨wb _,λj hj=>by
  have:j=0:=by lia
  subst this;exact xz _⟩
 |k+1=>by
  obtain⟨h1,h2⟩:=IH val bt hb k;show(if bt (k+1) (dX bt k) then k+1 else dX bt k)<=k+1/\∀ j,j<=k+1->val (if bt (k+1) (dX bt k) then k+1 else dX bt k)<=val j;rw[hb];by_cases c:val (k+1)<val (dX bt k)
  ·simp only[c,decide_true,if_true];refine⟨wb _,λj hj=>?_⟩;by_cases e:j=k+1
   ·rw[e];exact xz _
   ·have:=h2 j (by lia);lia
  ·simp only[c,decide_false,Vk,if_false];refine⟨by lia,λj hj=>?_⟩;by_cases e:j=k+1
   ·rw[e];lia
   ·exact h2 j (by lia)
theorem ycJ(val:Nat->Int)(bt:Nat->Nat->Bool)(hb:∀ i j,bt i j=decide (val j<val i)):∀ k,dX bt k<=k/\∀ j,j<=k->val j<=val (dX bt k):=λk=>by
 have h:=IH (λi=>- val i) bt (λi j=>by rw[hb];congr 1;apply propext;constructor <;> intro h <;> lia) k;exact⟨h.1,λj hj=>by have:=h.2 j hj;lia⟩
section
variable {X:Cx}
noncomputable def uM(K:PySem.W.Frag):List V->Hp->VK->Prop:=λxs H Q=>∃(b:Bool)(a:ae)(ns:List Int),xs=[.ref a]/\gD K H b a (ns.map V.int)/\Q (.int ns.sum) H
noncomputable def uT(K:PySem.W.Frag):List V->Hp->VK->Prop:=λxs H Q=>∃(b:Bool)(a:ae)(bs:List Bool),xs=[.ref a]/\gD K H b a (bs.map V.bl)/\Q (.bl (bs.all id)) H
noncomputable def uP(K:PySem.W.Frag):List V->Hp->VK->Prop:=λxs H Q=>∃(b:Bool)(a:ae)(ns:List Int),xs=[.ref a]/\gD K H b a (ns.map V.int)/\ns≠[]/\∀ m,m∈ns->(∀ k∈ns,m<=k)->Q (.int m) H
noncomputable def uQ(K:PySem.W.Frag):List V->Hp->VK->Prop:=λxs H Q=>∃(b:Bool)(a:ae)(ns:List Int),xs=[.ref a]/\gD K H b a (ns.map V.int)/\ns≠[]/\∀ m,m∈ns->(∀ k∈ns,k<=m)->Q (.int m) H
theorem ZR{a:ae}{us:List aa}(r:Vals [V.ref a] us):us=[aa.ref a]:=by
 cases r with
 |cons r rr =>
  cases rr;obtain rfl:_=aa.ref a:=r;rfl
theorem Eh{s:af}{a:ae}(h:a<s.heap.objs.size)(o:Obj):∀ b∈[s.heap.objs.size,a],b<(s.heap.push o).objs.size:=λb hb=>by
 rw[Xh];simp only[ua,Vc,or_false] at hb
 rcases hb with e|e
 ·rw[e];exact Vi _
 ·rw[e];exact Xs h
theorem Ycr(hc:X.calm=true):aP X (.builtin "sum") (uM X.K):=by
 intro pins s σ H xs us Q I r h;obtain⟨b,a,ns,rfl,hq,q⟩:=h;obtain rfl:=ZR r;obtain⟨aA,v,p,_⟩:=yr I hq;have lt:=p.lt;refine call_sum_walkG (zn p ⟨s.heap.objs.size,[s.heap.objs.size,a],[s.heap.objs.size],aA.toArray.size,_,_,λi=>ns.getD i 0,rfl,Z6 (zk (I.ok.hd hc)) b _ a (vb lt) aA.toArray,⟨.new (xb _ rfl),p.keeps λo e=>wa _ e⟩,Eh lt _,λi u hu=>qH v hu,λh' tk t' k=>?_⟩);have hl:=v.length;rw[xc] at hl;have e:kh (λi=>ns.getD i 0) aA.toArray.size=ns.sum:=by rw[Ub,<- hl,Kp ns _ (wb _),uq]
 rw[e];exact⟨.int ns.sum,H,I.kept (t':=tk) (λc o e=>k c o (λz=>absurd (Ua e) (by simp at z;rw[z];exact Vh _)) (wa _ e)),⟨t',rfl⟩,q⟩
theorem zcu(hc:X.calm=true):aP X (.builtin "all") (uT X.K):=by
 intro pins s σ H xs us Q I r h;obtain⟨b,a,bs,rfl,hq,q⟩:=h;obtain rfl:=ZR r;obtain⟨aA,v,p,_⟩:=yr I hq;have lt:=p.lt;refine call_all_walk (zn p ⟨s.heap.objs.size,[s.heap.objs.size,a],[s.heap.objs.size],aA.toArray.size,_,_,λi=>bs.getD i true,rfl,Z6 (zk (I.ok.hd hc)) b _ a (vb lt) aA.toArray,⟨.new (xb _ rfl),p.keeps λo e=>wa _ e⟩,λi u s' Q' E' hu hQ=>?_,λh' tk k=>?_⟩)
 ·rw[zcN v hu];exact aG hQ
 have hl:=v.length;rw[xc] at hl;rw[Ub,<- hl,ZcE];exact⟨.bl _,H,I.kept (t':=tk) (λc o e=>k c o (λz=>absurd (Ua e) (by simp at z;rw[z];exact Vh _)) (wa _ e)),rfl,q⟩
theorem LL{ns:List Int}{i:Nat}(h:i<ns.length):ns.getD i 0∈ns:=by
 rw[Uf,xa h];exact wj _
theorem K'{ns:List Int}{k:Int}(h:k∈ns):∃ i,i<ns.length/\ns.getD i 0=k:=by
 obtain⟨i,hi,e⟩:=wu h;exact⟨i,hi,by rw[Uf,xa hi];exact e⟩
theorem Qb1(hc:X.calm=true):aP X (.builtin "min") (uP X.K):=by
 intro pins s σ H xs us Q I r h;obtain⟨b,a,ns,rfl,hq,ne,q⟩:=h;obtain rfl:=ZR r;obtain⟨aA,v,p,_⟩:=yr I hq;have lt:=p.lt;have hl:=v.length;rw[xc] at hl;have pos:0<ns.length:=uo.mpr ne;refine call_min_walk (zn p ⟨s.heap.objs.size,[s.heap.objs.size,a],[s.heap.objs.size],aA.toArray.size,_,_,λi j=>decide (ns.getD i 0<ns.getD j 0),rfl,Z6 (zk (I.ok.hd hc)) b _ a (vb lt) aA.toArray,⟨.new (xb _ rfl),p.keeps λo e=>wa _ e⟩,Eh lt _,by simp;lia,λi j vi vj s' Q' E' hi hj hQ=>?_,λu h' tk hu k=>?_⟩)
 ·obtain⟨t1,rfl⟩:=qH v hi;obtain⟨t2,rfl⟩:=qH v hj;exact lt_int hQ
 obtain⟨t,rfl⟩:=qH v hu;obtain⟨b1,b2⟩:=IH (λi=>ns.getD i 0) _ (λ_ _=>rfl) (aA.toArray.size-1);rw[Ub] at b1 b2 ⊢;refine⟨.int _,H,I.kept (t':=tk) (λc o e=>k c o (λz=>absurd (Ua e) (by simp at z;rw[z];exact Vh _)) (wa _ e)),⟨t,rfl⟩,q _ (LL (by lia)) λm hm=>?_⟩;obtain⟨i,hi,e⟩:=K' hm;rw[<- e];exact b2 i (by lia)
theorem qcc(hc:X.calm=true):aP X (.builtin "max") (uQ X.K):=by
 intro pins s σ H xs us Q I r h;obtain⟨b,a,ns,rfl,hq,ne,q⟩:=h;obtain rfl:=ZR r;obtain⟨aA,v,p,_⟩:=yr I hq;have lt:=p.lt;have hl:=v.length;rw[xc] at hl;have pos:0<ns.length:=uo.mpr ne;refine call_max_walk (zn p ⟨s.heap.objs.size,[s.heap.objs.size,a],[s.heap.objs.size],aA.toArray.size,_,_,λi j=>decide (ns.getD j 0<ns.getD i 0),rfl,Z6 (zk (I.ok.hd hc)) b _ a (vb lt) aA.toArray,⟨.new (xb _ rfl),p.keeps λo e=>wa _ e⟩,Eh lt _,by simp;lia,λi j vi vj s' Q' E' hi hj hQ=>?_,λu h' tk hu k=>?_⟩)
 ·obtain⟨t1,rfl⟩:=qH v hi;obtain⟨t2,rfl⟩:=qH v hj;exact gt_int hQ
 obtain⟨t,rfl⟩:=qH v hu;obtain⟨b1,b2⟩:=ycJ (λi=>ns.getD i 0) _ (λ_ _=>rfl) (aA.toArray.size-1);rw[Ub] at b1 b2 ⊢;refine⟨.int _,H,I.kept (t':=tk) (λc o e=>k c o (λz=>absurd (Ua e) (by simp at z;rw[z];exact Vh _)) (wa _ e)),⟨t,rfl⟩,q _ (LL (by lia)) λm hm=>?_⟩;obtain⟨i,hi,e⟩:=K' hm;rw[<- e];exact b2 i (by lia)
noncomputable def pT:V->Option aa
 |.ty n=>some (.type n)
 |.ref a=>some (.ref a)
 |_=>none
theorem yci{x:V}{c u:aa}(h:pT x=some c)(r:RelV x u):u=c:=by
 cases x with
 |ty n=>cases h;exact r
 |ref a=>cases h;exact r
 |_=>cases h
noncomputable def Ly(K:PySem.W.Frag):List V->Hp->VK->Prop:=λxs H Q=>∃ x cv t c b,xs=[x,cv]/\pT cv=some c/\gB K H x t/\Wg K t c=some b/\Q (.bl b) H
theorem ycQ:aP X (.builtin "isinstance") (Ly X.K):=by
 intro pins s σ H xs us Q I r h;obtain⟨x,cv,t,c,b,rfl,e,ty,k,q⟩:=h;cases r with
 |cons r rr =>
  cases rr with
  |cons r' rr =>
   cases rr;have:=yci e r';subst this;exact Qb6 I r ty k λtk=>⟨.bl b,H,I.tok tk,rfl,q⟩
end
noncomputable def Ie(C x:ae):Heap->Prop:=λh=>∃ t T,h.get? x=some (mY C t (.ref T))
section
variable {X:Cx}
theorem ycO{P:aj}{w:World}{k:Key}{u:aa}(r:(ye P w).is k u=true):RelV (kV k) u:=by
 rcases Zk (show rj k u=true from r) with ⟨i,t,rfl,rfl⟩|⟨x,t,rfl,rfl⟩
 ·exact⟨t,rfl⟩
 ·exact⟨t,rfl⟩
theorem Kc{P:aj}{w:World}:∀(kvs:List (Key×V)) (us:List aa),us.length=kvs.length->(∀(j:Nat)(v:aa),us[j]?=some v->∃ kv:Key×V,kvs[j]?=some kv/\(ye P w).is kv.1 v=true)->Vals (kvs.map λkv=>kV kv.1) us
 |[],[],_,_=>.nil
 |[],_::_,e,_=>by simp at e
 |_::_,[],e,_=>by simp at e
 |kv::kvs,u::us,e,h=>by
  obtain⟨kv',e',r⟩:=h 0 u rfl;cases e';exact .cons (ycO r) (Kc kvs us (by simpa using e) λj v ev=>h (j+1) v ev)
noncomputable def Qdk:List V->Hp->VK->Prop:=λxs H Q=>∃ a kvs,xs=[.ref a]/\H a=some (.dK kvs)/\∀ l,H l=none->Q (.ref l) (upd H l (.lst (kvs.map λkv=>kV kv.1)))
theorem YbP(hc:X.calm=true):aP X (.type "list") Qdk:=by
 intro pins s σ H xs us Q I r h;obtain⟨a,kvs,rfl,hq,q⟩:=h;obtain rfl:=ZR r;obtain⟨z,hd,vs,rel,dd⟩:=Gk I.aR hq;obtain⟨o,es,ep,h1,h2,h3,h4⟩:=id dd;have da:s.heap.DictAt (ye X.prog X.w) a vs ep:=⟨o,es,h1,h2,h3,h4⟩;refine PySem.W.kdl_call (PySem.W.kdl_dict hd) (I.ok.hd hc) da (by rw[<- rel.length];exact z) λh' tk acc c keep Hy items=>?_;have hl:=rel.length;refine⟨.ref s.heap.objs.size,_,I.laid (t':=tk) keep (wb _) (show bf X.prog X.w _ h' _ (.lst (kvs.map λkv=>kV kv.1)) from⟨by rw[xc];exact z,acc.toList,c,?_,by simpa using Hy⟩),rfl,q _ (I.aR.fresh (wb _))⟩;refine Kc (P:=X.prog) (w:=X.w) kvs acc.toList (by rw[wm,items.1];exact hl.symm) λj v e=>?_;obtain⟨k,x,e1,e2⟩:=items.2 j v (by rw[<- Array.getElem?_toList];exact e);have hk:=rel.keys;have e3:(kvs.map (·.1))[j]?=some k:=by rw[hk,wc,e1];rfl
 rw[wc] at e3;cases e4:kvs[j]? with
 |none=>rw[e4] at e3;cases e3
 |some kv=>rw[e4] at e3;cases e3;exact⟨kv,rfl,e2⟩
theorem KL:∀{ns:List Int}{us:List aa},Vals (ns.map V.int) us->fM us ns
 |[],_,r=>by cases r;exact .nil
 |n::ns,_,r=>by
  rw[Wb] at r;cases r with
  |cons h t=>obtain⟨t',rfl⟩:=(show ∃ t,_=aa.int n t from h);exact .cons n t' (KL t)
theorem Ki:∀{ns:List Int}{us:List aa},fM us ns->Vals (ns.map V.int) us
 |_,_,.nil=>.nil
 |_,_,.cons n t h=>.cons ⟨t,rfl⟩ (Ki h)
noncomputable def qcN(K:PySem.W.Frag):List V->Hp->VK->Prop:=λxs H Q=>∃(a:ae)(ns:List Int),xs=[.ref a]/\fq K H a (ns.map V.int)/\ns.length<64/\∀ lY:List Int,lY.Perm ns->lY.Pairwise (·<=·)->∀ l,H l=none->Q (.ref l) (upd H l (.lst (lY.map V.int)))
theorem ybz:aP X (.builtin "sorted") (qcN X.K):=by
 intro pins s σ H xs us Q I r h;obtain⟨a,ns,rfl,hq,h64,q⟩:=h;obtain rfl:=ZR r;obtain⟨aA,v,pl,hz⟩:=I.list hq;have hl:=v.length;rw[xc] at hl;obtain⟨o,ho,jo,n,hd⟩:=pl.isList;refine sorted_ints (vs:=aA) (ns:=ns) ⟨o,ho,jo,n,hd⟩ (KL v) (by lia) λout lY hi hp ho=>?_;obtain⟨e,he⟩:=sortedAll_at s.heap aA out;have hlp:=hp.length_eq;refine⟨.ref (s.heap.objs.size+1),_,I.laid (t':=s.toks) (λb u e=>sortedAll_old e) (Wz _) (show bf X.prog X.w _ _ _ (.lst (lY.map V.int)) from⟨by rw[xc,c6];lia,out.toList,e,Ki hi,by simpa[gj] using he⟩),rfl,q lY hp ho _ (I.aR.fresh (Wz _))⟩
end
noncomputable def Src(K:PySem.W.Frag)(mg:Str->Option aa)(x:Str)(st:Stmt)(ps:List Str):Prop:=∃ f fd,nW K x x st f fd/\Binds K fd ps []/\mg x=some (.ref f)
noncomputable def sP(P:aj)(w:World)(K:PySem.W.Frag)(mg:Str->Option aa)(base:Heap)(x:Str)(k:Nat)(ps:List Str)(sp:Sp):Prop :=
 ∃ f fd,fu P w K mg base (jN P w) k f fd ps sp/\Binds K fd ps []/\we K (.ref f)=true/\mg x=some (.ref f)
section
variable {P:aj} {w:World} {K:PySem.W.Frag} {mg:Str->Option aa} {base:Heap} {x:Str} {ps:List Str} {sp:Sp}
noncomputable abbrev cxD(P:aj)(w:World)(K:PySem.W.Frag)(mg:Str->Option aa)(base:Heap)(N:List Str)(x:Str)(st:Stmt)(f:ae)(cd:aa)(A:aw)(outer:List Env)(s:af)(H:Hp)(E:XK):Cx :=
 lu (jN P w) P w K mg base N x (qb st) f cd A outer s H E
theorem qdf{st:Stmt}{N:List Str}{k:Nat}(S:Src K mg x st ps)(sc:gW N ps (qb st))(len:∀ vs H Q E,sp vs H Q E->vs.length=ps.length)
  (j1:∀(f:ae)(dF:aa)(A:aw)(outer:List Env)(s:af) (H:Hp) (vs:List V) (Q:VK) (E:XK),dj k (A.deeper (eB x (qb st) s.heap.objs.size f dF))->sp vs H Q E ->
   ∃ t,gV (cxD P w K mg base N x st f dF A outer s H E) (Yf st) t/\t {nx:=λ_ H'=>Q .bI H',rt:=Q} (start N vs) H):sP P w K mg base x (k+1) ps sp:=by
 obtain⟨f,fd,F,b,m⟩:=S;refine⟨f,fd,?_,b,F.kp,m⟩;obtain⟨oc,od,dV,kV,doc,pm,an,dF,ct,jk,rfl,lk,jq⟩:=F.ex;exact BD lk jq sc len λA outer s H vs Q E hr j'=>j1 f dF A outer s H vs Q E hr j'
end
section
variable {X:Cx} {k:Nat} {ps:List Str} {sp:Sp} {E:XK} {x:Str} {p pos:Pos} {e:Expr} {es:List Expr} {t:TA} {σ0:L2.St}
theorem yb8(d:sP X.prog X.w X.K X.mg X.base x k ps sp)(hr:dj k X.A)(hg:Gl X x)(hx:Yw (jN X.prog X.w) X σ0 E)(ha:PA X (e::es) t)(kc:(x==("__debug__":Str))=false:=by decide)
  (he:au (e::es) X.env=(false,eval e X.env)::au es X.env:=by rfl) (cF:(bh pos (au es X.env)).any (·.1)=false:=by rfl):PE X (.Call (.Name x p) (e::es) [] pos) (Ol σ0 sp [] E t):=by
 obtain⟨f,fd,F,b,kp,m⟩:=d;exact Yck F hr hg m kp b .nil hx ha kc he cF
end
section
variable {X:Cx} {tg:Expr}
noncomputable def mD(K:PySem.W.Frag)(b:Bool)(a:ae):It:=if b=true then O9 K a else Pa K a
noncomputable def Ms(K:PySem.W.Frag)(tl:TE):TI:=λσ H R=>tl σ H λx H1=>∃ b a,x=.ref a/\(∃ xs,gD K H1 b a xs)/\R (mD K b a) H1
theorem u7{l:Expr}{tl:TE}(hl:PE X l tl):PI X tg l (Ms X.K tl):=by
 intro pins s σ H R I h;refine bg (hl pins s σ H _ I h) λv s1 ⟨x,H1,I1,r1,q1⟩=>?_;obtain⟨b,a,e,⟨xs,hq⟩,q⟩:=q1;subst e;cases r1;cases b with
 |false =>
  obtain⟨aA,rv,p,hz⟩:=I1.list (show fq X.K H1 a xs from hq);refine dS p.isList ?_;refine⟨s1.heap.objs.size,[s1.heap.objs.size],_,_,H1,rfl,I1.kept (t':=s1.toks) λb o e=>wa _ e,zca a _,⟨_,xb _ rfl,rfl,rfl⟩,λb hb=>?_,q⟩;obtain rfl:=Xc.mp hb;exact I1.jJ (wb _) (I1.aR.fresh (wb _))
 |true =>
  obtain⟨aA,rv,p,hz⟩:=I1.tuple (show fU X.K H1 a xs from hq);refine gc (show s1.heap.IsTuple a aA.toArray from p) ?_;refine⟨s1.heap.objs.size,[s1.heap.objs.size],_,_,H1,rfl,I1.kept (t':=s1.toks) λb o e=>wa _ e,qbR a _,⟨_,xb _ rfl,rfl,rfl⟩,λb hb=>?_,q⟩;obtain rfl:=Xc.mp hb;exact I1.jJ (wb _) (I1.aR.fresh (wb _))
end
theorem mD.go{K:PySem.W.Frag}{b:Bool}{a:ae}{i:Nat}{H:Hp}{xs:List V}(h:gD K H b a xs)(hi:i<xs.length):(mD K b a).go i H:=by
 cases b with
 |false=>exact⟨xs,xs[i],h,by simp[hi]⟩
 |true=>exact⟨xs,xs[i],h,by simp[hi]⟩
theorem mD.stop{K:PySem.W.Frag}{b:Bool}{a:ae}{H:Hp}{xs:List V}(h:gD K H b a xs):(mD K b a).stop xs.length H:=by
 cases b with
 |false=>exact⟨xs,h,wb _⟩
 |true=>exact⟨xs,h,wb _⟩
theorem mD.mX{K:PySem.W.Frag}{b:Bool}{a:ae}{i:Nat}{H H':Hp}{xs:List V}{x:V}(h:gD K H b a xs)(y:(mD K b a).mX i H x H'):H'=H/\xs[i]?=some x:=by
 cases b with
 |false=>exact⟨y.1,y.2 xs h⟩
 |true=>exact⟨y.1,y.2 xs h⟩
noncomputable def JZ(P:aj)(w:World)(K:PySem.W.Frag)(mg:Str->Option aa)(base:Heap)(x:Str)(C:ae)(k:Nat)(ps:List Str)(sp:Sp):Prop :=
 ∃ f fd,Mk K C f/\fu P w K mg base (jN P w) k f fd ps sp/\Binds K fd ps []/\mg x=some (.ref C)
section
variable {X:Cx} {k:Nat} {ps:List Str} {sp:Sp} {E:XK} {x:Str} {C:ae} {p pos:Pos} {e:Expr} {es:List Expr} {t:TA} {σ0:L2.St}
theorem yb5(d:JZ X.prog X.w X.K X.mg X.base x C k ps sp)(hr:dj (k+1) X.A)(hg:Gl X x)(hx:Yw (jN X.prog X.w) X σ0 E)(ha:PA X (e::es) t)(kc:(x==("__debug__":Str))=false:=by decide)
  (he:au (e::es) X.env=(false,eval e X.env)::au es X.env:=by rfl) (cF:(bh pos (au es X.env)).any (·.1)=false:=by rfl):PE X (.Call (.Name x p) (e::es) [] pos) (Nd σ0 C sp [] E t):=by
 obtain⟨f,fd,M,F,b,m⟩:=d;exact Ycl M F hr hg m b .nil hx ha kc he cF
end
section
variable {X:Cx} (K:PySem.W.Frag)
noncomputable def Ge(K:PySem.W.Frag):List V->Hp->VK->Prop:=λxs H Q=>∃ p ys,xs=[.ref p]/\(fq K H p ys\/fU K H p ys)/\Q (.int ys.length) H
noncomputable def Gb(K:PySem.W.Frag):List V->Hp->VK->Prop:=λxs H Q=>∃ p ys,xs=[.ref p]/\(fq K H p ys\/fU K H p ys)/\∀ l,H l=none->Q (.ref l) (upd H l (.lst ys))
noncomputable def F8(K:PySem.W.Frag):List V->Hp->VK->Prop:=λxs H Q=>∃ p ys,xs=[.ref p]/\((fq K H p ys/\∀ l,H l=none->Q (.ref l) (upd H l (.tup ys)))\/(fU K H p ys/\Q (.ref p) H))
theorem xH(h:X.K=K:=by rfl):aP X (.builtin "len") (Ge K):=h ▸ Zbs
theorem qdh(h:X.K=K:=by rfl):aP X (.type "list") (Gb K):=h ▸ zbh
theorem ycV(h:X.K=K:=by rfl):aP X (.type "tuple") (F8 K):=h ▸ Ya2
theorem w4(c:X.calm=true:=by rfl)(h:X.K=K:=by rfl):aP X (.builtin "sum") (uM K):=h ▸ Ycr c
theorem k_all(c:X.calm=true:=by rfl)(h:X.K=K:=by rfl):aP X (.builtin "all") (uT K):=h ▸ zcu c
theorem w6(c:X.calm=true:=by rfl)(h:X.K=K:=by rfl):aP X (.builtin "min") (uP K):=h ▸ Qb1 c
theorem w8(c:X.calm=true:=by rfl)(h:X.K=K:=by rfl):aP X (.builtin "max") (uQ K):=h ▸ qcc c
theorem xI(h:X.K=K:=by rfl):aP X (.builtin "isinstance") (Ly K):=h ▸ ycQ
noncomputable def Gg(K:PySem.W.Frag):R2:=λx y H Q=>∃ b p xs i v,x=.ref p/\y=.int i/\gD K H b p xs/\se xs i=some v/\Q v H
theorem GZ(h:X.K=K:=by rfl):Bq X (Gg K):=by
 subst h;intro value slice pins s σ H x y v u Q I rx ry hq hs;obtain⟨b,p,xs,i,z,e1,e2,hq,ha,q⟩:=hq;cases b with
 |false=>exact YcV value slice pins s σ H x y v u Q I rx ry ⟨p,xs,i,z,e1,e2,hq,ha,q⟩ hs
 |true=>exact Zc9 value slice pins s σ H x y v u Q I rx ry ⟨p,xs,i,z,e1,e2,hq,ha,q⟩ hs
theorem xJ{e:Expr}{f:Str}{pos:Pos}{ta:TE}(he:PE X e ta)(hb:a9 e f X.env (eval e X.env)=eval e X.env:=by rfl)(h:X.K=K:=by rfl):PE X (.Attribute e f pos) (tL K ta f):=h ▸ Qc2 he hb
theorem GY{tg l:Expr}{tl:TE}(hl:PE X l tl)(h:X.K=K:=by rfl):PI X tg l (Ms K tl):=h ▸ u7 hl
theorem wZ{a b:Expr}{ta:TA}{p pos:Pos}{es:List Expr}{kt:Nat}{pt:Pos}(hg:Gl X "zip")(hm:X.mg "zip"=none)(ha:PA X [a,b] ta)(hs:au [a,b] X.env=[(false,eval a X.env),(false,eval b X.env)]:=by rfl)(kY:au [b] X.env=[(false,eval b X.env)]:=by rfl)(h:X.K=K:=by rfl) :
  PI X (.Tuple es kt pt) (.Call (.Name "zip" p) [a,b] [] pos) (xU K ta):=h ▸ Zdj hg hm ha hs kY
end
end L3
end
section
namespace L3
open PySem PySem.Spec PyProof.Rows L2 M3
noncomputable def LC(P:aj)(w:World)(K:PySem.W.Frag)(mg:Str->Option aa)(base:Heap)(x:Str)(k:Nat)(ps:List Str)(sp:ae->ae->Sp):Prop :=
 ∃ f fd,Bs P w K mg base k f fd ps sp/\Binds K fd ps []/\we K (.ref f)=true/\mg x=some (.ref f)
end L3
end
section
namespace L2
open PySem PySem.Spec PyProof.Rows
section
variable {X:Cx} {tg:Expr}
noncomputable def Zcj:V->List V->Hp->VK->Prop:=λx vs H Q=>∃ l b xs zs,x=.ref l/\vs=[.ref b]/\H l=some (.lst xs)/\Rd H b (.lst zs)/\xs.length+zs.length<=sizeLine/\Q .bI (upd H l (.lst (xs++zs)))
theorem YbH:O8 X "list.extend" Zcj:=by
 intro pins s σ H x vs v us Q I rx rv h;obtain⟨l,b,xs,zs,rfl,rfl,hH,hB,hz,q⟩:=h;cases rx;obtain⟨u,rfl,ru⟩:=rv.one;cases ru;obtain⟨z,aA,n,r,hl,e⟩:=I.wL hH;obtain⟨z2,gM,n2,r2,e2⟩:=hB.ok I.aR;have Hr:=r2.length;have hsz:aA.toArray.size+gM.toArray.size<=sizeLine:=by rw[Ub,Ub];lia
 have l7:¬(!aA.toArray.isEmpty&&aq.List.listTooLong (aA.toArray.size+gM.toArray.size))=true:=by
  rw[LN hsz,Bool.and_false];exact xi
 refine gy F.slot_list_extend ⟨_,e,rfl⟩ F.entry_list_extend (F.args_list_extend_2 _ _)
  (AutoSeq1.list_extend_list_list_0 l aA.toArray n b gM.toArray n2 l7 (by rw[Ub];lia) (by lia)) ⟨e,e2,?_⟩
 refine⟨.bI,_,I.wM (its':=aA++gM) hH e (by simp) (r.append r2) ?_,rfl,q⟩;rw[vg]
 lia
end
end L2
end
section
namespace L3
open PySem PySem.Spec PyProof.Rows L2 M3
theorem YZ{prog:aj}{w:World}{A:aw}{E:aa->af->Prop}{s:af}{env:Env}{o:Expr}{name:Str}{apos pos:Pos}{args:List Expr}{Q:aa->af->Prop}
  (iW:a9 o name env (eval o env)=eval o env)
  (l9:((bh pos (au args env)).all (λx=>!x.1)&&(dh pos (bG [] env)).all (λx=>x.1.isSome)&&decide (args.length+([]:List cP).length+(if([]:List cP).isEmpty then 0 else 1)<30))=true)
  (dJ:(apos.endLine==pos.line)=true)
  (h:ah (ak prog w) A (eval o env) (λov s₁=>∀ pl,ah (ak prog w) A (jy ov name pl) (λfx s₂=>ah (ak prog w) A (j4 pos fx.1 fx.2 (bh pos (au args env)) (dh pos (bG [] env))) Q E s₂) E s₁) E s) :
  ah (ak prog w) A (eval (.Call (.Attribute o name apos) args [] pos) env) Q E s:=by
 rw[arm_eval_Call,iW];refine ab (aS h (λov s₁ h₁=>?_) λ_ _ e=>e);refine ab (bW ?_);have Ak:methodCallForm (args.length+([]:List cP).length) (bh pos (au args env)) (dh pos (bG [] env))=true:=l9;have Hd:jl true o env apos pos=pure pos:=by unfold jl;simp[dJ]
 unfold methodCall;rw[Ak];refine ab (aK (aS (h₁ _) (λfx s₂ h₂=>?_) λ_ _ e=>e));exact ab (fw Hd h₂)
section
variable {X:Cx} {k:Nat} {E:XK} {x m:Str} {p pos apos:Pos} {e o:Expr} {es:List Expr} {ta:TE} {t:TA} {σ0:L2.St}
noncomputable def LA(P:aj)(w:World)(K:PySem.W.Frag)(mg:Str->Option aa)(base:Heap)(k:Nat)(C:ae)(m:Str)(sp:Sp):Prop :=
 lg K C/\∃ f fd ps,Meth K C m f/\fu P w K mg base (jN P w) k f fd ps sp/\Binds K fd ps []
noncomputable def J1(X:Cx)(k:Nat)(σ0:L2.St)(m:Str)(E:XK)(ta:TE)(t:TA):TE:=λσ H Q=>σ=σ0/\ta σ H λx H1=>∃ a C dx fs sp,x=.ref a/\H1 a=some (.ins C dx fs)/\fs.lookup m=none/\LA X.prog X.w X.K X.mg X.base k C m sp /\
 t σ H1 λvs H2=>sp (x::vs) H2 Q E
theorem qcs(he:PE X o ta)(hr:dj k X.A)(hx:Yw (jN X.prog X.w) X σ0 E)(ha:PA X (e::es) t)
  (pB:au (e::es) X.env=(false,eval e X.env)::au es X.env) (cF:(bh pos (au es X.env)).any (·.1)=false)
  (iW:a9 o m X.env (eval o X.env)=eval o X.env) (l9:((bh pos (au (e::es) X.env)).all (λx=>!x.1)&&(dh pos (bG [] X.env)).all (λx=>x.1.isSome)&&decide ((e::es).length+([]:List cP).length+(if([]:List cP).isEmpty then 0 else 1)<30))=true) (dJ:(apos.endLine==pos.line)=true) :
  PE X (.Call (.Attribute o m apos) (e::es) [] pos) (J1 X k σ0 m E ta t):=by
 intro pins s σ H Q I h;obtain⟨rfl,h⟩:=h;refine YZ iW l9 dJ (bg (he pins s σ H _ I h) λu s1 ⟨x,H1,I1,rx,a,C,dx,fs,sp,ex,ea,l,⟨c,f,fd,ps,hm,F,hb⟩,q⟩ pl=>?_);subst ex;obtain rfl:u=aa.ref a:=rx;refine OZ I1 ea c hm l ?_;refine Uz (first:=[.ref a]) (h₀:=X.base) I.ok.mod.wX hm.kp (bg (ha pos pins s1 σ H1 _ I1 q) λus s2 ⟨vs,H2,I2,r,q2⟩=>⟨I2.gY,?_⟩) pB cF;exact Jf (us:=.ref a::us) (vs:=.ref a::vs) (dvs:=[]) F hr hb .nil hx I2 (.cons rfl r) (by rw[wn];exact q2)
theorem qca(he:PE X o ta)(hr:dj k X.A)(hx:Yw (jN X.prog X.w) X σ0 E)
  (iW:a9 o m X.env (eval o X.env)=eval o X.env) (dJ:(apos.endLine==pos.line)=true) :
  PE X (.Call (.Attribute o m apos) [] [] pos) (J1 X k σ0 m E ta tJ):=by
 intro pins s σ H Q I h;obtain⟨rfl,h⟩:=h;refine YZ iW (by rfl) dJ (bg (he pins s σ H _ I h) λu s1 ⟨x,H1,I1,rx,a,C,dx,fs,sp,ex,ea,l,⟨c,f,fd,ps,hm,F,hb⟩,q⟩ pl=>?_);subst ex;obtain rfl:u=aa.ref a:=rx;refine OZ I1 ea c hm l ?_;exact wD (first:=[.ref a]) I1.gY hm.kp (Jf (us:=[.ref a]) (vs:=[.ref a]) (dvs:=[]) F hr hb .nil hx I1 (.cons rfl .nil) (by rw[wn];exact q))
structure DI (K:PySem.W.Frag) (C:ae):Prop where
 makes:Xk K C=true
 init:ub K (.ref C) "__init__"=some (some (.builtin "object.__init__"))
 kp:we K (.ref C)=true
theorem zb3{C:ae}{pins:List (ae×Obj)}{σ:L2.St}{H:Hp}{s:af}{Q:VK}(M:DI X.K C)(I:Inv X pins σ H s)
  (h:∀ x dx,H x=none->H dx=none->dx≠x->Q (.ref x) (upd (upd H dx (.own x)) x (.ins C dx []))):ah (ak X.prog X.w) X.A (call (.ref C) []) (EP X pins σ Q) X.xe s:=by
 have hq:=h (s.heap.objs.size+1) s.heap.objs.size (I.aR.fresh (Wz _)) (I.aR.fresh (wb _)) (vb (Vi _));have I2:=Inv.made (C:=C) I;have Y:=xA (M:=ak X.prog X.w) I.gY M.makes;have hx:((s.heap.push Vf).push (Wh C s.heap.objs.size)).get? (s.heap.objs.size+1)=some (Wh C s.heap.objs.size):=by
  have:=xb (s.heap.push Vf) (o:=Wh C s.heap.objs.size) rfl
  rwa [Xh] at this
 refine eU (Yce I.gY M.makes M.init (λself=>PySem.W.Looks.of_pure (PySem.W.oi_bind self)) ?_);have t1:PySem.W.Looks (ak X.prog X.w) ((s.heap.push Vf).push (Wh C s.heap.objs.size)) (typeOf (.ref (s.heap.objs.size+1))) (.ref C):=(PySem.W.Looks.ld hx).andThen .now;have t2:PySem.W.Looks (ak X.prog X.w) ((s.heap.push Vf).push (Wh C s.heap.objs.size)) (isInstance (.ref (s.heap.objs.size+1)) (.type "object")) true:=t1.andThen (Y.top.keeps λb o e=>wa _ (wa _ e));refine bT PySem.W.oi_plain PySem.W.entry_oi (@PySem.W.check_slot (ak X.prog X.w) _ _ _ "object.__init__" "object" "__init__" (.ref (s.heap.objs.size+1)) [] [] _ PySem.W.oi_kind PySem.W.oi_split t2 (PySem.W.oi_args (.ref (s.heap.objs.size+1))) ?_);rw[PySem.W.oi_run];exact ag (And.intro rfl ⟨V.ref (s.heap.objs.size+1),_,I2,rfl,hq⟩)
noncomputable def Ydi(C:ae):TE:=λσ H Q=>∀ x dx,H x=none->H dx=none->dx≠x->Q (.ref x) (upd (upd H dx (.own x)) x (.ins C dx []))
theorem yca{C:ae}(M:DI X.K C)(hg:Gl X x)(hm:X.mg x=some (.ref C))(kc:(x==("__debug__":Str))=false):PE X (.Call (.Name x p) [] [] pos) (Ydi C):=by
 intro pins s σ H Q I h;refine aT (BV I hg hm ?_ kc);exact wD I.gY M.kp (zb3 M I h)
noncomputable def tF(K:PySem.W.Frag)(te:TE)(ts:TO):TE:=λσ H Q=>te σ H λx H1=>ts σ H1 λst H2=>st=some (-1)/\∃ a xs,x=.ref a/\fq K H2 a xs/\∀ q,H2 q=none->Q (.ref q) (upd H2 q (.lst xs.reverse))
theorem ZcK{te:TE}{ts:TO}{st:Expr}{p2:Pos}(he:PE X e te)(hs:PO X (some st) ts):PE X (.Subscript e (.Slice none none (some st) p2) pos) (tF X.K te ts):=by
 intro pins s σ H Q I h;refine i7 (bg (he pins s σ H _ I h) λv s1 ⟨x,H1,I1,r1,q1⟩=>?_);refine wpAny_Slice ?_;rw[fZ];refine ag (ag (bg (hs pins s1 σ H1 _ I1 q1) λvs s3 ⟨z,H3,I3,pz,q3⟩=>?_));obtain⟨rfl,a,xs,rfl,hx,q⟩:=q3;cases r1;have I4:Inv X pins σ H3 {s3 with heap:=s3.heap.push {cls:=.type "slice",data:=.fields #[.none,.none,vs]}}:=I3.kept (t':=s3.toks) λb ob q=>wa _ q;obtain⟨aA,r,ht,hz⟩:=I4.list hx;have hlen:aA.toArray.size=xs.length:=by rw[Ub];exact r.length.symm
 show ah (ak X.prog X.w) X.A (fW e (.Slice none none (some st) p2) (.ref a) (.ref s3.heap.objs.size)) (EP X pins σ Q) X.xe {s3 with heap:=s3.heap.push {cls:=.type "slice",data:=.fields #[.none,.none,vs]}};refine tail_any (ops:=[.ref a,.ref s3.heap.objs.size]) ht.isList.typeIs slot_list_getitem.lookup ?_ (by rfl);refine dZ ht.isList (Heap.IsSliceOf.new ..) .none .none pz (by decide) ?_ (by rw[hlen];exact hz);rw[PySem.W.krv_pick];refine⟨.ref _,_,I4.laid (t':=s3.toks) (o:=.lst xs.reverse) (λb ob q=>wa _ q) (wb _) ?_,rfl,q _ (I4.aR.fresh (wb _))⟩;refine⟨by rw[WD];exact hz,aA.reverse,0,r.reverse,?_⟩;have:=xb (s3.heap.push {cls:=.type "slice",data:=.fields #[.none,.none,vs]}) (o:={cls:=.type "list",data:=.seq aA.reverse.toArray}) rfl;simpa using this
end
end L3
end
section
namespace L3
open PySem PySem.Spec PyProof.Rows L2 M3
noncomputable def oY(kf:Int->Int)(b k:Int):Int:=if kf k<kf b then k else b
section
variable {prog:aj} {w:World} {A:aw} {E:aa->af->Prop} {s:af} {q I S:ae} {fp:List ae} {St:Nat->Heap->Prop} {vs:Array aa} {ns:List Int} {kf:Int->Int} {g:Heap} {R:gE->af->Prop}
noncomputable def sN(I S:ae)(g h:Heap):Prop:=∀ b o,b≠I->b≠S->g.get? b=some o->h.get? b=some o
noncomputable def Eg(prog:aj)(w:World)(A:aw)(s:af)(q I S:ae)(g:Heap)(kf:Int->Int)(ns:List Int):Prop :=
 ∀(n:Int)(t:Tok)(h:Heap)(tk:Nat),n∈ns->sN I S g h->ah (ak prog w) A.in1 (call (.ref q) [.int n t])
  (λu s'=>∃ h' iM t',u=.int (kf n) t'/\s'={s with heap:=h',toks:=iM}/\∀ b o,h.get? b=some o->h'.get? b=some o) (λ_ _=>False) {s with heap:=h,toks:=tk}
theorem Zca(W:Walks prog w A.in1 I fp [I] vs.size (λi v=>vs[i]?=some v) St)(CV:S∉fp)(rY:S≠I)(hlen:vs.size=ns.length)(hv:∀(i:Nat)(v:aa),vs[i]?=some v->∃ n t,ns[i]?=some n/\v=aa.int n t)
  (turn:Eg prog w A s q I S g kf ns) {best:Int} (hR:∀ t h' iM,sN I S g h'->R (.ok (.ret (.int best t))) {s with heap:=h',toks:=iM}) :
  ∀(r j:Nat)(h:Heap)(tk:Nat)(b:Int)(tv tb:Tok) (c:Nat),ns.length-j=r->j<=ns.length->sN I S g h->h.get? S=some (gj "list" #[.int b tv,.int (kf b) tb] c)->St j h->best=(ns.drop j).foldl (oY kf) b ->
   bJ (ak prog w) A (.builtin "min.loop" ⟨[.ref I,.ref q,.ref S],[]⟩) R {s with heap:=h,toks:=tk}:=by
 have jZ:(toString "min"++toString ".loop":String)="min.loop":=by decide
 intro r
 induction r with
 |zero =>
  intro j h tk b tv tb c hr hj kp hS st hb;have ej:j=ns.length:=by lia
  refine bO PySem.F.entry_min_loop ?_;rw[aw.under_plainId PySem.F.plain_min_loop _];show ah _ A.in1 (fJ (.ref S) >>= _) _ _ _;refine ab (aQ hS rfl ?_);show ah _ A.in1 (tryCatch (cU (.ref I)) _ >>= _) _ _ _;refine ab (bF (W.done _ _ _ (by rw[hlen,<- ej];exact st) λh' iM iU=>?_));have As:=iU S _ (by simpa using rY) hS;show ah _ A.in1 (updateSeq S (λ_=>#[]) >>= _) _ _ _;refine ab ?_;refine eY As rfl (ab (cq (ag ?_)));have eb:best=b:=by rw[hb,ej];simp
  subst eb;have s1:=Heap.SameBut.update h' S (Obj.mapSeq λ_=>(#[]:Array aa));exact hR tv _ _ λx o n1 n2 e=>s1.extBut x o n2 (iU x o (by simpa using n1) (kp x o n1 n2 e))
 |succ r ih =>
  intro j h tk b tv tb c hr hj kp hS st hb;have lD:j<ns.length:=by lia
  refine bO PySem.F.entry_min_loop ?_;rw[aw.under_plainId PySem.F.plain_min_loop _];show ah _ A.in1 (fJ (.ref S) >>= _) _ _ _;refine ab (aQ hS rfl ?_);show ah _ A.in1 (tryCatch (cU (.ref I)) _ >>= _) _ _ _;refine ab (bF (W.item j _ _ _ (by rw[hlen];exact lD) st λv h' iM hP j9 iU=>?_));obtain⟨n,t,en,rfl⟩:=hv j v hP;have As:=iU S _ (by simpa using rY) hS;have wV:sN I S g h':=λx o n1 n2 e=>iU x o (by simpa using n1) (kp x o n1 n2 e);show ah _ A.in1 (tryCatch (ck [.int n t] (call (.ref q) [.int n t])) _ >>= _) _ _ _;refine ab (bF (aK (aS (turn n t h' iM (Ue en) wV) (λx uI he=>?_) λ_ _ hF=>hF.elim)));obtain⟨h2,Lg,t2,rfl,rfl,k2⟩:=he;have rZ:=k2 _ _ As;have kB:St (j+1) h2:=W.frame _ _ _ j9 λx _ o e=>k2 x o e;have pq:sN I S g h2:=λx o n1 n2 e=>k2 x o (wV x o n1 n2 e);have AB:ns.drop j=n::ns.drop (j+1):=by
   rw[uu lD]
   congr 1
   exact Option.some.inj ((xa lD).symm.trans en)
  rw[AB,Vl] at hb;show ah _ A.in1 (tryCatch (ck [.int n t,.int (kf n) t2] (richCompare .Lt (.int (kf n) t2) (.int (kf b) tb) >>= _)) _ >>= _) _ _ _;refine ab (bF (aK (ab (HT.lW _ _ _ _ _ _ _ _ _ _ ?_))));refine ab (aK (aG ?_));refine ab (cq (ag ?_));by_cases jQ:kf n<kf b
  ·have s1:=Heap.SameBut.update h2 S (Obj.mapSeq λ_=>#[.int n t,.int (kf n) t2]);obtain⟨c2,rW⟩:∃ c2,(h2.update S (Obj.mapSeq λ_=>#[.int n t,.int (kf n) t2])).get? S=some (gj "list" #[.int n t,.int (kf n) t2] c2):=⟨_,iB rZ λ_=>#[.int n t,.int (kf n) t2]⟩;simp only[jQ,decide_true,if_true];refine ab ?_;refine eY rZ rfl (ab (cq ?_));rw[jZ];refine ag ⟨bX PySem.F.plain_min_loop _,ih (j+1) _ _ n t t2 c2 (by lia) lD (λx o n1 n2 e=>s1.extBut x o n2 (pq x o n1 n2 e)) rW (W.frame _ _ _ kB λx hx o e=>s1.extBut x o (λz=>CV (z ▸ hx)) e) ?_⟩;rw[hb,oY,if_pos jQ]
  ·simp only[jQ,decide_false,Vk,if_false];refine ab (cq ?_);rw[jZ];refine ag ⟨bX PySem.F.plain_min_loop _,ih (j+1) _ _ b tv tb c (by lia) lD pq rZ kB ?_⟩;rw[hb,oY,if_neg jQ]
theorem Zcc{tup:Bool}{l:ae}{n0:Int}{Q:aa->af->Prop}(hh:A.handled=none)(hl:cy s.heap tup l vs)(hlen:vs.size=(n0::ns).length)(hv:∀(i:Nat)(v:aa),vs[i]?=some v->∃ n t,(n0::ns)[i]?=some n/\v=aa.int n t)
  (turn:Eg prog w A s q s.heap.objs.size (s.heap.push (dw tup l)).objs.size s.heap kf (n0::ns))
  (hQ:∀ t h' iM,(∀ b o,s.heap.get? b=some o->h'.get? b=some o)->Q (.int (ns.foldl (oY kf) n0) t) {s with heap:=h',toks:=iM}) :
  ah (ak prog w) A (call (.builtin "min") [.ref l] [(Str.ofString "key",.ref q)]) Q E s:=by
 have jZ:(toString "min"++toString ".loop":String)="min.loop":=by decide
 have Ho:l<s.heap.objs.size:=hl.lt;refine kmk_tree PySem.F.kind_min PySem.F.plain_min PySem.F.entry_min (kmk_min_key _ _) ?_;show ah _ A.in1 (aq.Builtins.bindParams "min" ["key","default"] 0 ⟨[],[(Str.ofString "key",.ref q)]⟩ >>= _) _ _ s;refine ab (fw (show aq.Builtins.bindParams "min" ["key","default"] 0 ⟨[],[(Str.ofString "key",.ref q)]⟩=pure [some (.ref q),none] from rfl) ?_);refine ab (ag ?_);refine ab (zn hl ?_);refine ab (wpAny_newList ?_ (um _));rw[jZ];refine ag ⟨bX PySem.F.plain_min_loop _,?_⟩;generalize hI:s.heap.objs.size=I at turn Ho ⊢;generalize hS:(s.heap.push (dw tup l)).objs.size=S at turn ⊢;have eS:S=I+1:=by rw[<- hS,<- hI];exact size_push' ..
 have HU:I<S:=by rw[eS];exact Vi _
 have Hq:l≠I:=vb Ho;have hlS:l≠S:=vb (xn Ho HU);have rY:S≠I:=Um HU;have CV:S∉[I,l]:=by simp;exact⟨rY,Ne.symm hlS⟩
 have old:∀ b o,s.heap.get? b=some o->b≠I/\b≠S:=λb o e=>by
  have z:=Ua e;rw[hI] at z;exact⟨vb z,vb (xn z HU)⟩
 have gI:((s.heap.push (dw tup l)).push (gj "list" #[] 0)).get? I=some (dw tup l):=by
  refine wa _ ?_;rw[<- hI];exact xb _ rfl
 have gS:((s.heap.push (dw tup l)).push (gj "list" #[] 0)).get? S=some (gj "list" #[] 0):=by
  rw[<- hS];exact xb _ rfl
 have gk:∀ b o,s.heap.get? b=some o->((s.heap.push (dw tup l)).push (gj "list" #[] 0)).get? b=some o:=λb o e=>wa _ (wa _ e);have W:=Z6 (prog:=prog) (w:=w) (A:=A.in1) hh tup I l Hq vs;refine bO PySem.F.entry_min_loop ?_;rw[aw.under_plainId PySem.F.plain_min_loop _];show ah _ A.in1 (fJ (.ref S) >>= _) _ _ _;refine ab (aQ gS rfl ?_);show ah _ A.in1 (tryCatch (cU (.ref I)) _ >>= _) _ _ _;refine ab (bF (W.item 0 _ _ _ (by rw[hlen];simp) ⟨dz.new gI,hl.keeps λo e=>gk l o e⟩ λv h' iM hP j9 iU=>?_));obtain⟨n,t,en,rfl⟩:=hv 0 v hP;obtain rfl:n0=n:=by simpa using en
 have As:=iU S _ (by simpa using rY) gS;have wV:sN I S s.heap h':=λx o n1 n2 e=>iU x o (by simpa using n1) (gk x o e);show ah _ A.in1 (tryCatch (ck [.int n0 t] (call (.ref q) [.int n0 t])) _ >>= _) _ _ _;refine ab (bF (aK (aS (turn n0 t h' iM (Ug) wV) (λx uI he=>?_) λ_ _ hF=>hF.elim)));obtain⟨h2,Lg,t2,rfl,rfl,k2⟩:=he;have rZ:=k2 _ _ As;have s1:=Heap.SameBut.update h2 S (Obj.mapSeq λ_=>#[.int n0 t,.int (kf n0) t2]);obtain⟨c2,rW⟩:∃ c2,(h2.update S (Obj.mapSeq λ_=>#[.int n0 t,.int (kf n0) t2])).get? S=some (gj "list" #[.int n0 t,.int (kf n0) t2] c2):=⟨_,iB rZ λ_=>#[.int n0 t,.int (kf n0) t2]⟩;show ah _ A.in1 (updateSeq S (λ_=>#[.int n0 t,.int (kf n0) t2]) >>= _) _ _ _;refine ab ?_;refine eY rZ rfl ?_;rw[jZ];have kB:=W.frame _ _ _ (W.frame _ _ _ j9 λx _ o e=>k2 x o e) λx hx o e=>s1.extBut x o (λz=>CV (z ▸ hx)) e;refine ag ⟨bX PySem.F.plain_min_loop _,Zca (best:=ns.foldl (oY kf) n0) W CV rY hlen hv turn (λt h' iM k=>hQ t h' iM λb o e=>k b o (old b o e).1 (old b o e).2 e) _ 1 _ _ n0 t t2 c2 rfl (by simp) (λx o n1 n2 e=>s1.extBut x o n2 (k2 x o (wV x o n1 n2 e))) rW kB (by simp)⟩
end
noncomputable abbrev m9:Str:="ink"
noncomputable abbrev YD:Str:="want"
noncomputable abbrev Zz(pa:Pos):jA:=⟨[],[⟨m9,none,pa⟩],none,[],[],none,[]⟩
noncomputable abbrev Yz(p1 p2 p3 p4 p5:Pos):Expr:=.Call (.Name "abs" p1) [.BinOp (.Name YD p2) .Sub (.Name m9 p3) p4] [] p5
noncomputable abbrev eZ:az:={kind:=.function,names:=[(m9,.local),(YD,.free),("abs",.globalImplicit)],isGenerator:=false,isCoroutine:=false,more:=[]}
noncomputable def nT(i:Int):Int:=if i<0 then -i else i
section
variable {prog:aj} {w:World} {A:aw} {s:af} {q I S c' cw:ae} {ns:List Int} {g:Heap} {qual:Str} {pa p1 p2 p3 p4 p5:Pos} {pm jr:aa} {wv:Int} {tw:Tok} {mg mb:Str->Option aa}
theorem ycw(jX:A.depth<bQ)(hq:g.get? q=some (Wr "<lambda>" qual (Zz pa) (Yz p1 p2 p3 p4 p5) eZ [(YD,cw)] pm c' jr))(jq:g.CodeRec (.ref c') qual)(Ao:g.IsCell cw (some (.int wv tw)))
  (pG:g.NoLimit) (nG:g.Ns ao mg) (hmb:g.Ns builtinsNs mb) (ha:mg "abs"=none) (hb:mb "abs"=some (.builtin "abs")) (hI:g.objs.size<=I) (hS:g.objs.size<=S) :
  Eg prog w A s q I S g (λn=>nT (wv-n)) ns:=by
 intro n t h tk _ kp;have kp:∀ b o,g.get? b=some o->h.get? b=some o:=λb o e=>kp b o (vb (Uc (Ua e) hI)) (vb (Uc (Ua e) hS)) e;refine eU (PySem.W.kla_callFunE (s:={s with heap:=h,toks:=tk}) (fd:=wC "<lambda>" qual (Zz pa) (Yz p1 p2 p3 p4 p5) eZ [(YD,cw)] pm (.ref c') jr) jX (kp _ _ hq) rfl rfl rfl rfl (jq.keeps kp) ?_);rw[show bindArgs (wC "<lambda>" qual (Zz pa) (Yz p1 p2 p3 p4 p5) eZ [(YD,cw)] pm (.ref c') jr) ⟨[.int n t],[]⟩=pure [(m9,.int n t)] from rfl];refine ag (wpAny_newFunctionEnv (show ∀ y∈eZ.names,y.2≠.cell by decide) (λy hy=>by rw[Xc.mp hy];rfl) (λh₁ ot Mw=>⟨(pG.keeps kp).fresh _ Mw,?_⟩) rfl);have MA:∀ b o,h.get? b=some o->h₁.get? b=some o:=λb o e=>Mw.extBut b o (vb (Ua e)) (wa _ e);have Ht:∀ b o,g.get? b=some o->h₁.get? b=some o:=λb o e=>MA b o (kp b o e);refine PySem.W.kla_codeExpr ?_;refine aT (Calls.Name_function_global rfl rfl (Calls.loadGlobal_builtin (nG.keeps Ht) ha (hmb.keeps Ht) hb ?_) (by decide));refine PyProof.Rows.callWith_builtin1 ?_;refine Calls.spliced_cons ?_;refine wpAny_BinOp ?_;have ecw:h₁.IsCell cw (some (.int wv tw)):=let ⟨o,e,d⟩:=Ao;⟨o,Ht _ _ e,d⟩;refine eV (fO rfl rfl rfl ecw ?_ (by decide)) (by decide);refine eV (fy rfl rfl ot (v:=.int n t) rfl ?_) (by decide);refine sub_int ?_;refine Calls.spliced_nil ?_;exact call_abs_int λu tk=>⟨_,_,_,rfl,rfl,MA⟩
end
end L3
end
section
namespace L3
open PySem PySem.Spec PyProof.Rows L2 M3
noncomputable def QK(P:ae)(lp:Pos)(oc:Option ae):Heap->Prop:=λh=>∃ ps:Array aa,h.get? P=some (WC ps)/\TriplesOk ps.toList/\codeAmong lp ps.toList=oc.map aa.ref
noncomputable def mC(c':ae)(q:Str):Heap->Prop:=λh=>h.CodeRec (.ref c') q
noncomputable def NU(H:Hp)(P:ae)(lp:Pos)(q:Str):Prop:=H P=some (.ext (QK P lp none))\/∃ c',c'≠P/\H P=some (.ext (QK P lp (some c')))/\H c'=some (.ext (mC c' q))
noncomputable def BL(H:Hp)(P:ae)(lp:Pos)(q:Str)(H2:Hp):Prop:=H2=H\/∃ c',H P=some (.ext (QK P lp none))/\H c'=none/\H2=upd (upd H c' (.ext (mC c' q))) P (.ext (QK P lp (some c')))
structure jL (mg:Str->Option aa) (base:Heap) (c P:ae):Prop where
 code:PySem.W.CodeHd base c P
 bmain:∃ bm ob,mg "__builtins__"=some (.ref bm)/\bm≠builtinsNs/\base.get? bm=some ob/\ob.cls=.type "module"/\ob.dict=some builtinsNs/\ob.data=.plain
theorem Jd{P:aj}{w:World}{H:Hp}{h:Heap}{T:ae}{lp:Pos}{oc:Option ae}(x:QK T lp oc h):bf P w H h T (.ext (QK T lp oc)):=by
 obtain⟨ps,e,r⟩:=id x;exact⟨x,⟨_,e⟩,λh1 h2 ⟨ps,e,r⟩ k=>⟨ps,k _ e,r⟩⟩
theorem YcF{P:aj}{w:World}{H:Hp}{h:Heap}{c':ae}{q:Str}(x:mC c' q h):bf P w H h c' (.ext (mC c' q)):=by
 obtain⟨c,oc,vs,tq,e0,e,r⟩:=id x;cases e0;exact⟨x,⟨_,e⟩,λh1 h2 ⟨c,oc,vs,tq,e0,e,r⟩ k=>by cases e0;exact⟨c',oc,vs,tq,rfl,k _ e,r⟩⟩
section
variable {X:Cx} {pins:List (ae×Obj)} {σ:L2.St} {H:Hp} {s:af} {h':Heap} {P c':ae} {lp:Pos} {q:Str}
theorem qcJ{t':Nat}(I:Inv X pins σ H s)(hP:H P=some (.ext (QK P lp none)))(hx:Heap.ExtBut P s.heap h')(hc:s.heap.objs.size<=c')(cd:mC c' q h')(tb:QK P lp (some c') h') :
  Inv X pins σ (upd (upd H c' (.ext (mC c' q))) P (.ext (QK P lp (some c')))) {s with heap:=h',toks:=t'}:=by
 have Ap:H c'=none:=I.aR.fresh hc;have rM:∀ b u,H b=some u->(∀ φ,u≠HO.ext φ)->b≠P:=λb u e n z=>by
  rw[z,hP] at e;cases e;exact n _ rfl
 have neN:∀ b,H b=none->b≠P:=λb e z=>by rw[z,hP] at e;cases e
 have wH:∀ b u,H b=some u->b≠c':=λb u e z=>by rw[z,Ap] at e;cases e
 have hcP:c'≠P:=neN _ Ap;have same:∀ b,b≠P->b≠c'->upd (upd H c' (.ext (mC c' q))) P (.ext (QK P lp (some c'))) b=H b:=λb n1 n2=>by rw[Zc n1,Zc n2]
 refine I.un ⟨λb o e n _ _=>hx b o (neN b n) e,λb o e n _ _=>⟨o.slots,hx b o (neN b n) e⟩,λb o e n _=>?_,λb o e _=>?_,λb xs e=>?_,λb o u e=>?_,λb ps e=>⟨#[],?_⟩⟩ λb u e=>?_
 ·rw[same b (neN b n) λz=>absurd (Ua e) (by rw[z];exact Nat.not_lt.mpr hc)];exact n
 ·by_cases hb:b=P
  ·obtain⟨ps,e1,_⟩:=tb;exact⟨_,by rw[hb];exact e1⟩
  ·exact⟨o,hx b o hb e⟩
 ·rw[same b (rM b _ e λφ z=>nomatch z) (wH b _ e)];exact e
 ·rw[same b (rM b _ e λφ z=>nomatch z) (wH b _ e)];exact e
 ·rw[same b (rM b _ e λφ z=>nomatch z) (wH b _ e),e];simp
 ·by_cases hb:b=P
  ·subst hb;rw[qe] at e;cases e;exact Jd tb
  ·rw[Zc hb] at e;by_cases jQ:b=c'
   ·subst jQ;rw[qe] at e;cases e;exact YcF cd
   ·rw[Zc jQ] at e;refine(I.aR b u e).iO (λc v hc q=>hx c v ?_ q) (λc z=>?_) λc xs z=>?_
    ·rcases hc with z|z
     ·rw[z];exact hb
     ·exact rM c _ z λφ z=>nomatch z
    ·rw[same c (rM c _ z λφ z=>nomatch z) (wH c _ z)];exact z
    ·rw[same c (rM c _ z λφ z=>nomatch z) (wH c _ z)];exact z
theorem Zbz{env:Env}{cw:ae}(h:env.cells.lookup YD=some cw):gx eZ env=pure [(YD,cw)]:=by
 unfold gx jK;simp[h]
noncomputable def tK(K:PySem.W.Frag)(P:ae)(lp:Pos)(q:Str)(j:Nat)(te:TE):TE:=λσ H Q=>te σ H λx H1=>∃(b:Bool)(a:ae)(n0:Int)(ns:List Int)(wv:Int),x=.ref a/\gD K H1 b a ((n0::ns).map V.int)/\σ[j]?=some (some (.int wv))/\NU H1 P lp q /\
 ∀ H2,BL H1 P lp q H2->Q (.int (ns.foldl (oY λk=>nT (wv-k)) n0)) H2
noncomputable abbrev LH(e:Expr)(u6 pa p1 p2 p3 p4 p5 lp pk pc:Pos):Expr:=.Call (.Name "min" u6) [e] [⟨some "key",.Lambda (Zz pa) (Yz p1 p2 p3 p4 p5) eZ lp,pk⟩] pc
theorem YcC{b:Bool}{a f cw:ae}{n0 wv:Int}{ns:List Int}{qual:Str}{pa p1 p2 p3 p4 p5:Pos}{pm jr:aa}{Q:VK}(I:Inv X pins σ H s)(ma:X.calm=true)(jX:X.A.depth<bQ)(Hn:X.mg "abs"=none)
  (hq:s.heap.get? f=some (Wr "<lambda>" qual (Zz pa) (Yz p1 p2 p3 p4 p5) eZ [(YD,cw)] pm c' jr)) (jq:s.heap.CodeRec (.ref c') qual) {tw:Tok} (Ao:s.heap.IsCell cw (some (.int wv tw)))
  (sq:gD X.K H b a ((n0::ns).map V.int)) (h:Q (.int (ns.foldl (oY λk=>nT (wv-k)) n0)) H) :
  ah (ak X.prog X.w) X.A (call (.builtin "min") [.ref a] [(Str.ofString "key",.ref f)]) (EP X pins σ Q) X.xe s:=by
 obtain⟨aA,rv,si,hz⟩:=yr I sq;obtain⟨mb,hb1,hb2⟩:=I.mod.blt;have hl:=rv.length;refine Zcc (kf:=λk=>nT (wv-k)) (ns:=ns) (n0:=n0) (I.ok.hd ma) si (by simp at hl ⊢;lia) (λi v e=>?_) (ycw jX hq jq Ao I.nolimit (I.mod.glob.keeps I.bk) (hb1.keeps I.bk) Hn ((hb2 _ (by decide)).trans rfl) (wb _) (vw (by rw[size_push'];exact Vi _))) λt h' iM k=>⟨.int _,H,I.kept k,⟨_,rfl⟩,h⟩;have e':aA[i]?=some v:=by simpa using e
 have hi:i<(n0::ns).length:=by
  have:=(Xa.mp e').1;rw[xc] at hl
  lia
 obtain⟨u,hu,rx⟩:=rv.get (i:=i) (x:=V.int (n0::ns)[i]) (by rw[wc,xa hi];rfl);rw[e'] at hu;cases hu;obtain⟨t,rfl⟩:=rx;exact⟨_,t,xa hi,rfl⟩
theorem qcH{K:PySem.W.Frag}{H2:Hp}{b:Bool}{a:ae}{xs:List V}(sq:gD K H b a xs)(k:∀ b u,H b=some u->(∀ φ,u≠HO.ext φ)->H2 b=some u):gD K H2 b a xs:=by
 cases b with
 |false =>
  rcases(show fq K H a xs from sq) with (e|⟨o,e⟩)|z
  ·exact(show fq K H2 a xs from .inl (.inl (k _ _ e λφ z=>nomatch z)))
  ·exact(show fq K H2 a xs from .inl (.inr ⟨o,k _ _ e λφ z=>nomatch z⟩))
  ·exact(show fq K H2 a xs from .inr z)
 |true =>
  rcases(show fU K H a xs from sq) with (e|⟨o,e⟩)|z
  ·exact(show fU K H2 a xs from .inl (.inl (k _ _ e λφ z=>nomatch z)))
  ·exact(show fU K H2 a xs from .inl (.inr ⟨o,k _ _ e λφ z=>nomatch z⟩))
  ·exact(show fU K H2 a xs from .inr z)
theorem QcN{e:Expr}{te:TE}{c:ae}{j:Nat}{u6 pa p1 p2 p3 p4 p5 pk pc:Pos}(he:PE X e te)(hg:Gl X "min")(hm:X.mg "min"=none)(Hn:X.mg "abs"=none)(ma:X.calm=true)(jX:X.A.depth<bQ)
  (ou:X.env.code=.ref c) (L:jL X.mg X.base c P) (hN:X.N[j]?=some YD) (hk:X.env.kindOf YD=some .cell) (hs:au [e] X.env=[(false,eval e X.env)]:=by rfl) :
  PE X (LH e u6 pa p1 p2 p3 p4 p5 lp pk pc) (tK X.K P lp (X.env.qual++"<lambda>") j te):=by
 intro pins s σ H Q I h;refine aT (p9 I hg hm rfl ?_);refine callWith_kw (rest:=[]) ?_ (by rw[hs];rfl) (by rw[hs];rfl);rw[hs];refine Calls.spliced_cons (bg (he pins s σ H _ I h) λu s1 ⟨x,H1,I1,r1,b,a,n0,ns,wv,ex,sq,ew,tok,q1⟩=>Calls.spliced_nil ?_);subst ex;obtain rfl:u=.ref a:=r1;refine wpAny_evalAll_cons (ab ?_);refine PySem.W.kla_eval rfl ?_
 -- tx cell of want
 obtain⟨m,hn,hl⟩:=id I1.loc;obtain⟨uw,rw_,lw⟩:=hl j YD (.int wv) hN ew (.inr (.inl hk));obtain⟨tw,rfl⟩:=rw_
 rcases lw with ⟨iU,_⟩|⟨_,cw,Ao,j0⟩
 ·rw[hk] at iU;cases iU
 have jo:=Zbz Ao;obtain⟨bm,ob,b1,b2,b3,b4,b5,b6⟩:=L.bmain;have Aj:=I1.mod.glob.keeps I1.bk;have mN:=I1.bk _ _ b3;have C:=L.code.keeps I1.bk;have fin:∀{s2:af}{H2:Hp}{f c':ae}{pm jr:aa},Inv X pins σ H2 s2->BL H1 P lp (X.env.qual++"<lambda>") H2->gD X.K H2 b a ((n0::ns).map V.int) ->
   s2.heap.get? f=some (Wr "<lambda>" (X.env.qual++"<lambda>") (Zz pa) (Yz p1 p2 p3 p4 p5) eZ [(YD,cw)] pm c' jr)->s2.heap.CodeRec (.ref c') (X.env.qual++"<lambda>")->s2.heap.IsCell cw (some (.int wv tw)) ->
   ah (ak X.prog X.w) X.A (iD pc >>= λ_=>pure (aa.ref f)) (λv s₁=>ah (ak X.prog X.w) X.A (evalAll []) (λvs s₂=>ah (ak X.prog X.w) X.A (call (.builtin "min") [.ref a] ([Str.ofString "key"].zip (v::vs))) (EP X pins σ Q) X.xe s₂) X.xe s₁) X.xe s2:=λ{s2 H2 f c' pm jr} I2 nx sq2 hq jq HH =>
  ab (bW (ag (wpAny_evalAll_nil (YcC I2 ma jX Hn hq jq HH sq2 (q1 _ nx)))))
 rcases tok with hP|⟨c',hcP,hP,eF⟩
 ·obtain⟨⟨ps,e1,e2,e3⟩,_⟩:=I1.aR P _ hP;have hgP:ao≠P:=λq=>by
   obtain⟨o,es,ep,e,hd,_⟩:=Aj;rw[q,e1] at e;cases e;cases hd
  have HN:bm≠P:=λq=>by
   rw[q,e1] at mN;cases mN;cases b4
  have HP:bm≠ao:=λq=>by
   obtain⟨o,es,ep,e,hd,_⟩:=Aj;rw[q,e] at mN;cases mN;rw[hd] at b6;cases b6
  refine PySem.W.kla_makeFunction (mg:=X.mg) jo I1.ok.glob Aj ou C e1 e2 e3 hgP ⟨bm,ob,b1,b2,HP,HN,mN,b4,b5,b6⟩ λc' jr h' tk hx MC lD Hc G9=>?_;have jx:Heap.ExtBut P s1.heap (h'.push (Wr "<lambda>" (X.env.qual++"<lambda>") (Zz pa) (Yz p1 p2 p3 p4 p5) eZ [(YD,cw)] ((X.mg "__name__").getD .none) c' jr)):=λb o n e=>wa _ (hx b o n e);have cd:mC c' (X.env.qual++"<lambda>") (h'.push (Wr "<lambda>" (X.env.qual++"<lambda>") (Zz pa) (Yz p1 p2 p3 p4 p5) eZ [(YD,cw)] ((X.mg "__name__").getD .none) c' jr)):=Hc.keeps λb o e=>wa _ e;have tb:QK P lp (some c') (h'.push (Wr "<lambda>" (X.env.qual++"<lambda>") (Zz pa) (Yz p1 p2 p3 p4 p5) eZ [(YD,cw)] ((X.mg "__name__").getD .none) c' jr)) :=
   ⟨_,wa _ G9,by rw[xD];exact TriplesOk_snoc _ _ _ _ e2,by rw[xD];exact codeAmong_snoc _ e2 e3⟩
  have Ap:H1 c'=none:=I1.aR.fresh MC;have I2:=qcJ (t':=tk) I1 hP jx MC cd tb;refine fin I2 (.inr ⟨c',hP,Ap,rfl⟩) ?_ (xb _ rfl) cd ?_
  ·refine qcH sq λb u e n=>?_;rw[Zc λz=>by rw[z,hP] at e;cases e;exact n _ rfl,Zc λz=>by rw[z,Ap] at e;cases e];exact e
  ·obtain⟨o,e,d⟩:=j0;refine⟨o,jx _ _ (λq=>?_) e,d⟩;rw[q,e1] at e;cases e;cases d
 ·obtain⟨⟨ps,e1,e2,e3⟩,_⟩:=I1.aR P _ hP;obtain⟨cd,_⟩:=I1.aR c' _ eF;have HN:bm≠P:=λq=>by
   rw[q,e1] at mN;cases mN;cases b4
  have HP:bm≠ao:=λq=>by
   obtain⟨o,es,ep,e,hd,_⟩:=Aj;rw[q,e] at mN;cases mN;rw[hd] at b6;cases b6
  refine PySem.W.kla_makeFunctionHit (mg:=X.mg) jo I1.ok.glob Aj ou C e1 e2 e3 ⟨bm,ob,b1,b2,HP,HN,mN,b4,b5,b6⟩ λjr h' tk hk hsz=>?_;have iU:∀ b o,s1.heap.get? b=some o->(h'.push {cls:=.type "function",data:=.func (wC "<lambda>" (X.env.qual++"<lambda>") (Zz pa) (Yz p1 p2 p3 p4 p5) eZ [(YD,cw)] ((X.mg "__name__").getD .none) (.ref c') jr)}).get? b=some o:=λb o e=>wa _ (hk b o e);obtain⟨o,e,d⟩:=j0;exact fin (I1.kept (t':=tk) iU) (.inl rfl) sq (xb _ rfl) (Heap.CodeRec.keeps cd iU) ⟨o,iU _ _ e,d⟩
end
end L3
end
section
namespace L3
open PySem PySem.Spec PyProof.Rows L2 M3
theorem Ea{α β:Type}{F:α->β->Prop}:∀{l₁:List α}{l₂:List β},bU F l₁ l₂->l₁.length=l₂.length
 |_,_,.nil=>rfl
 |_,_,.cons r t=>by simp[Ea t]
end L3
end
section
namespace L3
open PySem PySem.Spec PyProof.Rows L2 M3
theorem ycA:gg (.type "list") "__getattr__"=pure none:=by rw[ir,fo];kernel_rfl
theorem QbT:gg (.type "list") "keys"=pure none:=by rw[ir,fo];kernel_rfl
section
variable {prog:aj} {w:World} {A:aw} {h:Heap} {g:Array j6} {d:Drawn} {t:Nat} {os:OsState} {a:ae} {aA:Array aa} {n:Nat}
noncomputable abbrev sO(aA:Array aa)(n:Nat):Obj:={cls:=.type "list",data:=.seq aA n}
theorem QcB{E:aa->af->Prop}{tk:Tok}{Q:Fin->af->Prop}(hx:h.get? a=some (sO aA n))(hh:A.handled=none)
  (hE:∀ h' iM e,Heap.NewAttrErr h h' e (.ref a) "keys"->E (.ref e) ⟨h',g,d,iM,os⟩) :
  ah (ak prog w) A (aq.«object.__getattribute__» ⟨[.ref a,.str "keys" tk],[]⟩) Q E ⟨h,g,d,t,os⟩:=by
 have hT:(⟨h,g,d,t,os⟩:af).TypeIs (.ref a) "list":=⟨_,hx,rfl⟩;have f1:=QbT;unfold aq.«object.__getattribute__»
 repeat (any_goals (first|assumption|wp_step))
 exact wpAny_raiseAttrError hh hE (attrMsg_fits (by decide +kernel) (by decide +kernel))
theorem QcV{tk:Tok}{R:gE->af->Prop}(hx:h.get? a=some (sO aA n))(hh:A.handled=none)
  (hR:∀ h' iM e,Heap.NewAttrErr h h' e (.ref a) "keys"->R (.error (.ref e)) ⟨h',g,d,iM,os⟩) :
  bJ (ak prog w) A (.call (.builtin "list.__getattribute__") ⟨[.ref a,.str "keys" tk],[]⟩) R ⟨h,g,d,t,os⟩ :=
 bT PySem.F.slot_list_getattribute.plain PySem.F.entry_list_ga (PySem.F.slot_list_getattribute.check _ _ _ _ _ _ _ _ (show(⟨h,g,d,t,os⟩:af).TypeIs (.ref a) "list" from⟨_,hx,rfl⟩) (PySem.F.args_list_getattribute_2 _ _) (QcB hx hh hR))
theorem wW{E:aa->af->Prop}{Q:aa->af->Prop}{tk:Tok}(hx:h.get? a=some (sO aA n))(hh:A.handled=none)
  (hE:∀ h' iM e,Heap.NewAttrErr h h' e (.ref a) "keys"->E (.ref e) ⟨h',g,d,iM,os⟩) :
  ah (ak prog w) A (getAttrBy (.ref a) (.str "keys" tk) false) Q E ⟨h,g,d,t,os⟩:=by
 have hT:(⟨h,g,d,t,os⟩:af).TypeIs (.ref a) "list":=⟨_,hx,rfl⟩;have f2:=PySem.F.slot_list_getattribute.lookup;have f3:=PySem.F.slot_list_getattribute.bind (.ref a);have f4:=ycA
 repeat (any_goals (first|assumption|wp_step))
 refine QcV hx hh λh' iM e ne=>?_;obtain⟨t',u',he⟩:=ne.there;have f5:=gh;show ah _ _ (gu _ _ _ _ _ _ _) _ _ _;unfold gu
 repeat (any_goals (first|assumption|wp_step))
 exact hE _ _ _ ne
theorem YcM{E:aa->af->Prop}{Q:Option aa->af->Prop}(hx:h.get? a=some (sO aA n))(hh:A.handled=none)
  (hQ:∀ h' iM,(∀ b o,h.get? b=some o->h'.get? b=some o)->Q none ⟨h',g,d,iM,os⟩) :
  ah (ak prog w) A (getAttr? (.ref a) "keys") Q E ⟨h,g,d,t,os⟩:=by
 have f5:=gh;unfold getAttr? getAttrBy?
 repeat (any_goals (first|assumption|with_reducible apply wW hx hh|wp_step))
 intro h' iM e ne;obtain⟨t',u',he⟩:=ne.there
 repeat (any_goals (first|assumption|wp_step))
 exact hQ _ _ ne.keeps
end
theorem DD:plainId "dict.update.loop"=true:=by decide +kernel
theorem OE:j2 table "dict.update.loop"=some aq.«dict.update.loop»:=entryFor_of_fast (by kernel_rfl)
noncomputable def Qk(ps:List (List Key×ae×aa))(xs:List (List Key×ae×aa)):List (List Key×ae×aa):=ps.foldl (λacc p=>dU acc p.1 p.2.1 p.2.2) xs
theorem yby{K:Type} [DecidableEq K] (xs:List (K×ae×aa))(k:K)(a:ae)(v:aa):(dU xs k a v).length<=xs.length+1:=by
 unfold dU;split <;> simp
theorem N8:∀(ps xs:List (List Key×ae×aa)),(Qk ps xs).length<=xs.length+ps.length
 |[],xs=>by simp[Qk]
 |p::ps,xs=>by
  have h1:=N8 ps (dU xs p.1 p.2.1 p.2.2);have h2:=yby xs p.1 p.2.1 p.2.2;show(Qk ps (dU xs p.1 p.2.1 p.2.2)).length<=_;simp only[ud];lia
section
variable {prog:aj} {w:World} {A:aw} {R:gE->af->Prop} {D I l:ae} {items:Array aa} {h₀:Heap}
noncomputable def ZcJ(prog:aj)(w:World)(h:Heap)(items:Array aa)(ps:List (List Key×ae×aa)):Prop :=
 ∀(i:Nat)(v:aa),items[i]?=some v->∃ T p,v=.ref T/\ps[i]?=some p/\f' h T #[.ref p.2.1,p.2.2]/\(aD (ye prog w)).is h p.1 p.2.1
theorem Lc{h h':Heap}{xs:List (List Key×ae×aa)}{i:Nat}(x:h.DictOfH (aD (ye prog w)) D xs)(Au:D≠I)(st:h.IsListIter I l i)(sb:∀ b o,b≠I->h.get? b=some o->h'.get? b=some o):h'.DictOfH (aD (ye prog w)) D xs:=by
 obtain⟨o,es,ep,e1,e2,e3,e4,e5,e6⟩:=x;refine⟨o,es,ep,sb D o Au e1,e2,e3,e4,λy hy=>?_,e6⟩;obtain⟨o',aA,n,k1,k2,k3⟩:=e5 y hy;refine⟨o',aA,n,sb _ _ (λe=>?_) k1,k2,k3⟩;obtain⟨o2,q1,q2,_⟩:=st;rw[e,q1] at k1;cases k1;rw[q2] at k2;exact absurd k2 (by decide)
theorem Qa0(ps:List (List Key×ae×aa))(i:Nat)(p:List Key×ae×aa)(h:ps[i]?=some p):Qk (ps.take (i+1)) []=dU (Qk (ps.take i) []) p.1 p.2.1 p.2.2:=by
 unfold Qk;rw[wA,h];simp
theorem zcp(hu:A.units+2<cR)(hh:A.handled=none)(ps:List (List Key×ae×aa))(hps:ps.length=items.size)(hz:items.size<sizeLine)(Au:D≠I)(Hq:l≠I)(hlD:l≠D)
  (wY:∀ h',(∀ b o,b≠D->b≠I->h₀.get? b=some o->h'.get? b=some o)->ZcJ prog w h' items ps) :
  ∀(m i:Nat)(s:af)(t:Tok),items.size-i=m->i<=items.size->s.heap.IsListIter I l i->s.heap.IsList l items->(∀ b o,b≠D->b≠I->h₀.get? b=some o->s.heap.get? b=some o) ->
  s.heap.DictOfH (aD (ye prog w)) D (Qk (ps.take i) []) ->
  (∀ h' tk,h'.DictOfH (aD (ye prog w)) D (Qk ps [])->(∀ b o,b≠D->b≠I->h₀.get? b=some o->h'.get? b=some o)->R (.ok (.ret .none)) {s with heap:=h',toks:=tk}) ->
  bJ (ak prog w) A (.builtin "dict.update.loop" ⟨[.ref D,.ref I,.int i t,.none],[]⟩) R s:=by
 intro m
 induction m with
 |zero =>
  intro i s t hm hi st hl hk hd hR;have jP:i=items.size:=by lia
  refine bO OE ?_;rw[aw.under_plainId DD _];show ah _ A.in1 (cU (.ref I) >>= _) _ _ s;refine ab (fh hh st hl (by simp[jP]) λh' eb=>?_);show ah _ _ (aq.Dict.addKeywords D [] >>= _) _ _ _;refine ab (ag (ag (hR h' _ ?_ λb o h1 h2 e=>eb b o h2 (hk b o h1 h2 e))));have:=Lc hd Au st eb
  rwa [jP,<- hps,uq] at this
 |succ m ih =>
  intro i s t hm hi st hl hk hd hR;have lD:i<items.size:=by lia
  refine bO OE ?_;rw[aw.under_plainId DD _];show ah _ A.in1 (cU (.ref I) >>= _) _ _ s;refine ab (eP st hl (x:=items[i]) (by simp[lD]) λh' j9 sb=>?_);have iU:∀ b o,b≠D->b≠I->h₀.get? b=some o->h'.get? b=some o:=λb o h1 h2 e=>(sb.2 b h2).trans (hk b o h1 h2 e);obtain⟨T,p,e1,e2,e3,e4⟩:=wY h' iU i items[i] (by simp[lD]);have An:=Lc hd Au st sb.extBut;obtain⟨oT,t1,t2,tn,t3⟩:=e3;have hlen:(Qk (ps.take i) []).length<=sizeLine:=by
   have:=N8 (ps.take i) [];simp only[Uk,Uo] at this
   lia
  rw[e1];show ah _ _ (ck _ _ >>= _) _ _ _;refine ab (aK ?_);refine ab (bF (ab (cC (T:="tuple") ⟨oT,t1,t2⟩ ?_)));rw[if_pos (by decide)];refine ab (aQ t1 t3 (ag ?_));show ah _ _ (ck [aa.ref p.2.1,p.2.2] (dictSet D (.ref p.2.1) p.2.2)) _ _ _;refine aK (wpAny_dictSet_heap (knd:=aD (ye prog w)) (dH (by lia)) e4 An (λr8 HG oV=>?_) hlen);refine ag ⟨bX DD _,?_⟩;have Hx:∀ b o,b≠D->b≠I->h₀.get? b=some o->r8.get? b=some o:=λb o h1 h2 e=>(oV.2 b h1).trans (iU b o h1 h2 e);refine ih (i+1) _ _ (by lia) lD (j9.at λo e=>(oV.2 I (Ne.symm Au)).trans e) (hl.at λo e=>(oV.2 l hlD).trans ((sb.2 l Hq).trans e)) Hx (by rw[Qa0 ps i p e2];exact HG) λh3 tk hd3 hk3=>hR h3 tk hd3 hk3
end
section
variable {X:Cx}
noncomputable def JH(H:Hp):List V->List (List Key×V)->Prop:=bU λv kv=>∃ T K,v=V.ref T/\H T=some (.tup [.ref K,kv.2])/\H K=some (.tup (kv.1.map kV))
noncomputable def yy(jm kvs:List (List Key×V)):List (List Key×V):=jm.foldl (λacc kv=>yF acc kv.1 kv.2) kvs
theorem La:∀(jm kvs:List (List Key×V)),(yy jm kvs).length<=kvs.length+jm.length
 |[],kvs=>by simp[yy]
 |p::jm,kvs=>by
  have h1:=La jm (yF kvs p.1 p.2);have h2:=qJ kvs p.1 p.2;show(yy jm (yF kvs p.1 p.2)).length<=_;simp only[ud];lia
theorem OO{P:aj}{w:World}{H:Hp}{h:Heap}(ok:fe P w H h):∀{vs:List V}{jm:List (List Key×V)} {us:List aa},JH H vs jm->Vals vs us ->
  ∃ ps,KT H jm ps/\ps.length=us.length/\∀(i:Nat)(v:aa),us[i]?=some v->∃ T p,v=.ref T/\ps[i]?=some p/\f' h T #[.ref p.2.1,p.2.2]/\(aD (ye P w)).is h p.1 p.2.1
 |_,_,_,.nil,.nil=>⟨[],.nil,rfl,λi v e=>by simp at e⟩
 |_,_,_,.cons (a:=v) (b:=kv) hv tv,.cons (b:=u) hu tu=>by
  obtain⟨ps,k1,k2,k3⟩:=OO ok tv tu;obtain⟨T,K,rfl,hT,hK⟩:=hv;obtain rfl:u=aa.ref T:=hu;obtain⟨_,aA,r,o,e1,e2,n,e3⟩:=ok T _ hT
  rcases aA with _|⟨x,_|⟨y,_|⟨z,aA⟩⟩⟩
  ·cases r
  ·cases r with|cons _ t=>cases t
  ·cases r with
   |cons hx t=>cases t with
    |cons hy t =>
     obtain rfl:x=aa.ref K:=hx;refine⟨(kv.1,K,y)::ps,.cons ⟨rfl,hK,hy⟩ k1,by simp[k2],λi v e=>?_⟩;cases i with
     |zero=>simp at e;subst e;exact⟨T,_,rfl,rfl,⟨o,e1,e2,n,by simpa using e3⟩,DA ok hK⟩
     |succ i=>simpa using k3 i v (by simpa using e)
  ·cases r with|cons _ t=>cases t with|cons _ t=>cases t
theorem zdh{H:Hp}{jm:List (List Key×V)}{ps:List (List Key×ae×aa)}(k:KT H jm ps):∀{kvs:List (List Key×V)} {xs:List (List Key×ae×aa)},KT H kvs xs->KT H (yy jm kvs) (Qk ps xs):=by
 induction k with
 |nil=>intro kvs xs r;exact r
 |@cons p q as bs h t ih =>
  intro kvs xs r;have e:=r.put p.1 (b:=q.2.1) h.2.1 h.2.2;show KT H (yy as (yF kvs p.1 p.2)) (Qk bs (dU xs q.1 q.2.1 q.2.2));rw[<- h.1];exact ih e
noncomputable def Qdc:List V->Hp->VK->Prop:=λxs H Q=>∃ a vs jm,xs=[.ref a]/\Rd H a (.lst vs)/\JH H vs jm/\jm.length<sizeLine/\∀ p o,H p=none->Q (.ref p) (upd H p (.e8 o (.dT (yy jm []))))
theorem ybU(hc:X.calm=true)(hu:X.A.units+3<cR):aP X (.type "dict") Qdc:=by
 intro pins s σ H xs us Q I r h;obtain⟨a,vs,jm,rfl,ha,pv,hz,q⟩:=h;obtain rfl:=ZR r;obtain⟨_,aA,n,rv,hg⟩:=ha.ok I.aR;obtain⟨ps,k1,k2,k3⟩:=OO I.aR pv rv;have hh:=I.ok.hd hc;have hlk:jm.length=ps.length:=Ea k1;have Mj:a<s.heap.objs.size:=Ua hg;refine callType_codes (Q₁:=λobj s₁=>obj=.ref s.heap.objs.size/\s₁={s with heap:=s.heap.push {cls:=.type "dict",data:=.dict #[]}}) PySem.F.kt_called_dict (PySem.F.kt_typeCall_dict_1 _) PySem.F.entry_dict_init (kt_code_dict_new _ ⟨rfl,rfl⟩) ?_;rintro obj s₁ ⟨rfl,rfl⟩;obtain⟨_,G',xs0,r0,oD,es0,ep0,d1,d2,d3,d4,d5⟩:=KW (P:=X.prog) (w:=X.w) (H:=H) s.heap I.big;cases r0;generalize oq:s.heap.push {cls:=.type "dict",data:=.dict #[]}=h1 at d1;have Hz:h1.get? a=some (sO aA.toArray n):=by rw[<- oq];exact wa _ hg
 have sz1:h1.objs.size=s.heap.objs.size+1:=by rw[<- oq];simp
 have kp1:∀ b o,s.heap.get? b=some o->h1.get? b=some o:=λb o e=>by rw[<- oq];exact wa _ e
 refine⟨⟨oD,d1,d2.1⟩,PySem.F.args_dict_init_2 _ _,?_⟩;unfold aq.«dict.__init__»;refine ab ?_;unfold aq.Dict.selfAndRest;refine ab (fi ⟨oD,d1,d2.1⟩ ?_);show ah _ _ (pure (s.heap.objs.size,[aa.ref a])) _ _ _;refine ag ?_;show ah _ _ (aq.Dict.updateFrom "dict.__init__" s.heap.objs.size (.ref a) [] .none) _ _ _;unfold aq.Dict.updateFrom;refine ab (cC (T:="list") ⟨_,Hz,rfl⟩ ?_);rw[if_pos (by decide)];refine ab (YcM Hz hh λh2 Lg pq=>?_);have hg2:=pq _ _ Hz;rw[if_pos (by decide)];refine ab (cT ?_);refine ab (dS (items:=aA.toArray) ⟨_,hg2,rfl,n,rfl⟩ ?_);refine ag ⟨bX DD _,?_⟩;generalize CL:h2.push {cls:=.type "list_iterator",data:=.fields #[.ref a,.int 0 0]}=h3;have Mm:∀ b o,h2.get? b=some o->h3.get? b=some o:=λb o e=>by rw[<- CL];exact wa _ e
 have kp:∀ b o,s.heap.get? b=some o->h3.get? b=some o:=λb o e=>Mm _ _ (pq _ _ (kp1 _ _ e));have Cr:s.heap.objs.size<h2.objs.size:=Ua (pq _ _ d1);refine zcp (A:=X.A.in1) (D:=s.heap.objs.size) (I:=h2.objs.size) (l:=a) (items:=aA.toArray) (h₀:=s.heap) (by show X.A.units+1+2<cR;lia) hh ps (by simp[k2]) (by rw[Ub,<- k2,<- hlk];exact hz) (vb Cr) (vb (xn Mj Cr)) (vb Mj)
  (λh' kk i v e=>?_) aA.toArray.size 0 _ (0:Tok) (by simp) (um _) ?_ ?_ ?_ ?_ λh' tk hd hk=>?_
 ·obtain⟨T,p,e1,e2,⟨oT,t1,t2⟩,oK,iK,nK,q1,q2⟩:=k3 i v (by simpa using e);have up:∀ b o,s.heap.get? b=some o->h'.get? b=some o:=λb o e=>kk b o (vb (Ua e)) (vb (xn (Ua e) Cr)) e;exact⟨T,p,e1,e2,⟨oT,up _ _ t1,t2⟩,oK,iK,nK,up _ _ q1,q2⟩
 ·exact⟨_,by rw[<- CL];exact xb _ rfl,rfl,rfl⟩
 ·exact⟨_,kp _ _ hg,rfl,n,rfl⟩
 ·exactλb o _ _ e=>kp _ _ e
 ·refine⟨oD,es0,ep0,Mm _ _ (pq _ _ d1),d2,d3,?_,λx hx=>?_,?_⟩
  ·simpa[Qk] using d4
  ·simp[Qk] at hx
  ·simp[Qk]
 ·obtain⟨o,es,ep,e1,e2,e3,e4,e5,e6⟩:=hd;have up:∀ b o,s.heap.get? b=some o->h'.get? b=some o:=λb o e=>hk b o (vb (Ua e)) (vb (xn (Ua e) Cr)) e;have fr:H s.heap.objs.size=none:=I.aR.fresh (wb _);refine⟨rfl,.ref s.heap.objs.size,_,I.laid (a:=s.heap.objs.size) (o:=.e8 o (.dT (yy jm []))) (t':=tk) up (wb _) ⟨e1,?_⟩,rfl,q _ o fr⟩;refine⟨?_,G',Qk ps [],?_,o,es,ep,e1,e2,e3,e4,e6⟩
  ·have:=La jm [];simp only[Uk] at this
   lia
  ·exact(zdh k1 (kvs:=[]) (xs:=[]) .nil).keeps λb ys e=>by rw[Zc (yg e fr)];exact e
end
end L3
end
section
namespace L3
open PySem PySem.Spec PyProof.Rows L2 M3
noncomputable def MJ:Nat:=11400714785074694791
noncomputable def r6:Nat:=14029467366897019727
noncomputable def CW:Nat:=2870177450012600261
noncomputable def HV:Nat:=839798700976720815
noncomputable def hM:Nat:=18446744073709551616
noncomputable def rF(x:Nat):Nat:=((x*2147483648)%hM+x/8589934592)*MJ%hM
noncomputable def hI1:Nat:=614540362697595703
theorem ZcM:MJ*hI1%hM=1:=by decide +kernel
theorem zcX:r6*HV%hM=1:=by decide +kernel
theorem zbw{p i x y:Nat}(hi:p*i%hM=1)(h:x*p%hM=y*p%hM):x%hM=y%hM:=by
 have e:∀ z,(z*p%hM)*i%hM=z%hM:=λz=>by
  rw[Vv (z*p%hM),Nat.mod_mod,<- Vv,Nat.mul_assoc,Vv,hi];simp
 rw[<- e x,<- e y,h]
theorem NT{x:Nat}(hx:x<hM):(x*2147483648)%hM+x/8589934592=(x%8589934592)*2147483648+x/8589934592:=by
 have e:x*2147483648=(x%8589934592)*2147483648+hM*(x/8589934592):=by unfold hM;lia
 rw[e,Nat.add_mul_mod_self_left,Uq];unfold hM;lia
theorem zb2{x y:Nat}(hx:x<hM)(hy:y<hM)(h:rF x=rF y):x=y:=by
 have:=zbw ZcM h;rw[NT hx,NT hy] at this;have q1:x/8589934592<2147483648:=by unfold hM at hx;lia
 have q2:y/8589934592<2147483648:=by unfold hM at hy;lia
 have r1:x%8589934592<8589934592:=Wp _ (by lia);have r2:y%8589934592<8589934592:=Wp _ (by lia);have x1:=wx x 8589934592;have y1:=wx y 8589934592;generalize x/8589934592=q at *;generalize y/8589934592=q' at *;generalize x%8589934592=r at *;generalize y%8589934592=r' at *;rw[Uq (by unfold hM;lia),Uq (by unfold hM;lia)] at this;omega
noncomputable def nS(a:Nat):Nat:=rF ((CW+a*r6)%hM)
noncomputable def ky(a b:Nat):Nat:=rF ((nS a+b*r6)%hM)
noncomputable def mB(z:Nat):Nat:=(z+(2 ^^^ (CW ^^^ 3527539)))%hM
noncomputable def hG(a:Nat):Nat:=nS a*HV%hM
noncomputable def yx:Nat:=64
theorem Nw:∀ a<yx,∀ c<yx,a≠c->yx<=(hG a+(hM-hG c))%hM:=by decide +kernel
theorem DQ:∀ a<yx,∀ b<yx,mB (ky a b)≠hM-1:=by decide +kernel
theorem Zcx{a b c d:Nat}(ha:a<yx)(hb:b<yx)(hc:c<yx)(hd:d<yx)(h:ky a b=ky c d):a=c/\b=d:=by
 have hm:0<hM:=by decide
 have h1:=zb2 (Wp _ hm) (Wp _ hm) h;have h2:(hG a+b)%hM=(hG c+d)%hM:=by
  have e:∀ u v,((nS u+v*r6)%hM*HV)%hM=(hG u+v)%hM:=λu v=>by
   rw[Vv,Nat.mod_mod,<- Vv,Xz,Nat.add_mod,Nat.mul_assoc,Vv v,zcX];unfold hG;simp[Nat.add_mod]
  rw[<- e,<- e,h1]
 by_cases CT:a=c
 ·refine⟨CT,?_⟩;rw[CT] at h2;have:hG c<hM:=Wp _ hm;unfold hM yx at *
  lia
 ·exfalso;have q1:=Nw a ha c hc CT;have q2:=Nw c hc a ha (Ne.symm CT);have l1:hG a<hM:=Wp _ hm;have l2:hG c<hM:=Wp _ hm;generalize hG a=x at *;generalize hG c=y at *;unfold hM yx at *
  lia
theorem qy:∀ a<yx,gN (a:Int)=(a:Int):=by decide +kernel
noncomputable def oO(m p1 p2 p5 q u v:Nat)(hashes:List Int):Int :=
 let acc:=hashes.foldl (init:=p5) λacc h =>
  let acc:=(acc+(h%(m:Int)).toNat*p2)%m
  let acc:=(acc*u)%m+acc/v
  (acc*p1)%m
 let acc:=(acc+(hashes.length ^^^ q))%m
 if acc==m-1 then 1546275796 else if acc<2^63 then acc else(acc:Int)-m
noncomputable def DP(m p1 u v x:Nat):Nat:=((x*u)%m+x/v)*p1%m
noncomputable def sU(m p1 p2 p5 u v a b:Nat):Nat:=DP m p1 u v ((DP m p1 u v ((p5+(a%m)*p2)%m)+(b%m)*p2)%m)
theorem Yc7(hs:List Int):aq.Tuple.tupleHashOf hs=oO (2^64) 11400714785074694791 14029467366897019727 2870177450012600261 (2870177450012600261 ^^^ 3527539) (2^31) (2^33) hs:=rfl
theorem qcy(m p1 p2 p5 q u v a b:Nat):oO m p1 p2 p5 q u v [(a:Int),(b:Int)]=if(sU m p1 p2 p5 u v a b+(2 ^^^ q))%m=m-1 then 1546275796 else if(sU m p1 p2 p5 u v a b+(2 ^^^ q))%m<2^63 then(((sU m p1 p2 p5 u v a b+(2 ^^^ q))%m:Nat):Int) else(((sU m p1 p2 p5 u v a b+(2 ^^^ q))%m:Nat):Int)-(m:Int):=by
 have e:∀ x:Nat,((x:Int)%(m:Int)).toNat=x%m:=λx=>by
  rw[<- Int.natCast_emod,wq]
 simp only[oO,sU,DP,Vl,List.foldl_nil,beq_iff_eq,ud,Uk,e,Wx,Nat.reduceAdd];rfl
theorem u0:(2^64:Nat)=hM:=by decide +kernel
theorem u5:(2^31:Nat)=2147483648:=by decide +kernel
theorem u4:(2^33:Nat)=8589934592:=by decide +kernel
theorem u3:(2^63:Nat)=9223372036854775808:=by decide +kernel
noncomputable def sJ(a b:Nat):Nat:=mB (rF ((rF ((CW+(a%hM)*r6)%hM)+(b%hM)*r6)%hM))
theorem yb7(a b:Nat):aq.Tuple.tupleHashOf [(a:Int),(b:Int)]=if sJ a b=hM-1 then 1546275796 else if sJ a b<9223372036854775808 then(sJ a b:Int) else(sJ a b:Int)-(hM:Int):=by
 have h:=qcy (2^64) 11400714785074694791 14029467366897019727 2870177450012600261 (2870177450012600261 ^^^ 3527539) (2^31) (2^33) a b;rw[<- Yc7,u0,u5,u4,u3] at h;exact h
noncomputable def Ca(a b:Nat):Int:=if mB (ky a b)<9223372036854775808 then(mB (ky a b):Int) else(mB (ky a b):Int)-(hM:Int)
theorem Kl{a b:Nat}(ha:a<yx)(hb:b<yx):aq.Tuple.tupleHashOf [(a:Int),(b:Int)]=Ca a b:=by
 have l:yx<hM:=by decide
 rw[yb7];have e:sJ a b=mB (ky a b):=by
  unfold sJ ky nS;rw[Uq (xn ha l),Uq (xn hb l)]
 rw[e];rw[if_neg (DQ a ha b hb)];rfl
theorem qb8{a b c d:Nat}(ha:a<yx)(hb:b<yx)(hc:c<yx)(hd:d<yx)(h:dI (Ca a b)=dI (Ca c d)):a=c/\b=d:=by
 have n1:=DQ a ha b hb;have n2:=DQ c hc d hd;have l1:mB (ky a b)<hM:=Wp _ (by decide);have l2:mB (ky c d)<hM:=Wp _ (by decide);have r:∀ z:Nat,z<hM->z≠hM-1->dI (if z<9223372036854775808 then(z:Int) else(z:Int)-(hM:Int))=if z<9223372036854775808 then(z:Int) else(z:Int)-(hM:Int):=λz l n=>by
  unfold hM at *;unfold dI;split
  ·rw[if_pos (by simp;lia),if_neg (by simp)]
  ·rw[if_pos (by simp;lia),if_neg (by simp;lia)]
 unfold Ca at h;rw[r _ l1 n1,r _ l2 n2] at h;have e:mB (ky a b)=mB (ky c d):=by
  unfold hM at *;split at h <;> split at h <;> lia
 refine Zcx ha hb hc hd ?_;have s1:ky a b<hM:=Wp _ (by decide);have s2:ky c d<hM:=Wp _ (by decide);unfold mB at e;generalize (2 ^^^ (CW ^^^ 3527539))=k at e;unfold hM at *
 lia
noncomputable def Gs(k:Int×Int):Prop:=(0<=k.1/\k.1<64)/\0<=k.2/\k.2<64
theorem Qcw{P:aj}{w:World}{k k':Int×Int}(h1:Gs k)(h2:Gs k')(h:(aD (ye P w)).hash [(Sum.inl k.1:Key),Sum.inl k.2]=(aD (ye P w)).hash [(Sum.inl k'.1:Key),Sum.inl k'.2]):k=k':=by
 obtain⟨a,b⟩:=k;obtain⟨c,d⟩:=k';obtain⟨⟨a0,a1⟩,b0,b1⟩:=h1;obtain⟨⟨c0,c1⟩,d0,d1⟩:=h2;simp only at a0 a1 b0 b1 c0 c1 d0 d1;obtain⟨a,rfl⟩:=ue a0;obtain⟨b,rfl⟩:=ue b0;obtain⟨c,rfl⟩:=ue c0;obtain⟨d,rfl⟩:=ue d0;have la:a<yx:=by unfold yx;lia
 have lb:b<yx:=by unfold yx;lia
 have lc:c<yx:=by unfold yx;lia
 have ld:d<yx:=by unfold yx;lia
 have h:dI (aq.Tuple.tupleHashOf [gN a,gN b])=dI (aq.Tuple.tupleHashOf [gN c,gN d]):=h;rw[qy a la,qy b lb,qy c lc,qy d ld,Kl la lb,Kl lc ld] at h;obtain⟨rfl,rfl⟩:=qb8 la lb lc ld h;rfl
end L3
end
section
namespace L3
open PySem PySem.Spec PyProof.Rows L2 M3
theorem Kk{α:Type}(f:α->Int):∀(l:List α)(c:Int),(l.map f).Nodup->(l.filter λx=>f x==c).length<=1
 |[],_,_=>by simp
 |x::l,c,h=>by
  rw[Wb,uk] at h;have ih:=Kk f l c h.2;by_cases e:f x=c
  ·have z:(l.filter λx=>f x==c)=[]:=by
    rw[List.filter_eq_nil_iff];intro y hy q;exact h.1 (Wd.mpr ⟨y,hy,by rw[e];simpa using q⟩)
   simp[Ww,e,z]
  ·simp[Ww,e];exact ih
section
variable {prog:aj} {w:World} {A:aw} {E:aa->af->Prop} {s:af} {K:Type} [DecidableEq K] {knd:KeyKind prog w K}
theorem Qbx{a:ae}{Q:Bool->af->Prop}(hT:s.TypeIs (.ref a) "tuple")(h:Q false s):ah (ak prog w) A (aq.Dict.quietEq (.ref a)) Q E s:=by
 unfold aq.Dict.quietEq;refine ab (iq hT PySem.F.slot_tuple_eq.lookup ?_);exact ag h
theorem YcL{id:String}{d:ae}{o:Obj}{es:Array fN}{ep:Nat}{xs:List (List K×ae×aa)}{Q:Array fN->af->Prop}(ho:s.heap.get? d=some o)(hd:o.data=.dict es ep)
  (he:es.toList=xs.map (i3 (aD knd))) (his:∀ x∈xs,(aD knd).is s.heap x.1 x.2.1) (hn:(xs.map λx=>(aD knd).hash x.1).Nodup) (h:Q es s) :
  ah (ak prog w) A (aq.Dict.entriesForEmpty id d) Q E s:=by
 unfold aq.Dict.entriesForEmpty;refine ab (cE ho hd (ab ?_));rw[<- Array.forIn_toList];have pI:∀ c:Int,¬(es.filter λe=>e.hash==c).size>1:=λc q=>by
  have h1:(es.filter λe=>e.hash==c).size=(es.toList.filter λe=>e.hash==c).length:=by rw[<- Array.toList_filter,wm]
  have h2:=Kk (λe:fN=>e.hash) es.toList c (by rw[he,wf];exact hn)
  lia
 refine wpAny_forIn_list _ (λrest _ s'=>s'=s/\∀ e∈rest,∃ x∈xs,e=i3 (aD knd) x) _ ?_ ?_ _ _ ⟨rfl,λe hm=>?_⟩
 ·rintro e rest b s' ⟨rfl,hr⟩;obtain⟨x,hx,rfl⟩:=hr e (Ug);obtain⟨ok,ik,nk,k1,k2,k3⟩:=his x hx;refine ab (Qbx ⟨ok,k1,k2⟩ ?_);rw[if_pos (by rfl)];rw[if_neg (pI _)];exact ag ⟨rfl,λe he=>hr e (Wf _ he)⟩
 ·rintro b s' ⟨rfl,_⟩;exact ag h
 ·rw[he] at hm;obtain⟨x,hx,rfl⟩:=Wd.mp hm;exact⟨x,hx,rfl⟩
theorem qb1{nm:String}{d o:ae}{xs more:List (List K×ae×aa)}{Q:Unit->af->Prop}(hdo:d≠o)(hoS:(o==bq)=false)
  (hd:s.heap.DictOfH (aD knd) d xs) (ho:s.heap.DictOfH (aD knd) o more) (hz:more.length<=sizeLine) (hn:(more.map λx=>(aD knd).hash x.1).Nodup) (hx:xs=[]\/more=[])
  (hQ:∀ h',h'.DictOfH (aD knd) d (if more=[] then xs else more)->Heap.SameBut d s.heap h'->Q () {s with heap:=h'}) :
  ah (ak prog w) A (aq.Dict.mergeDict nm d o) Q E s:=by
 obtain⟨od,esd,epd,d1,d2,d3,d4,d5,d6⟩:=id hd;obtain⟨oo,Az,epo,o1,o2,o3,o4,o5,o6⟩:=id ho;have hlen:Az.size=more.length:=by rw[<- wm,o4,xc]
 unfold aq.Dict.mergeDict;rw[if_neg (by simpa using hdo)];unfold aq.Dict.showsAll;rw[if_neg (by rw[hoS];exact xi)];refine ab (ag ?_);refine ab (cE o1 o3 ?_);by_cases hm:more=[]
 ·subst hm;obtain rfl:Az=#[]:=by
   apply xx;rw[hlen];rfl
  rw[if_neg (by simp)];refine ab (wpAny_dictEpoch o1 o3 ?_);refine ab (cE o1 o3 ?_);have hq:=hQ s.heap (by rw[if_pos rfl];exact hd) (Heap.SameBut.refl _ _);refine ab ?_;rw[Std.Legacy.Range.forIn_eq_forIn_range'];simp only[Std.Legacy.Range.size,Ub,Uk,Xx,Nat.add_sub_cancel,Nat.div_one,List.range'_zero,VB];exact ag (ag hq)
 ·obtain rfl:xs=[]:=hx.resolve_right hm;have he:esd=#[]:=by
   apply xx;rw[<- wm,d4];rfl
  subst he;have md:(decide (Az.size<=8)&&Az.all λe=>(keyPart e.key).isSome)=false:=by
   rw[Bool.and_eq_false_iff]
   right
   rw[<- Array.all_toList,o4];cases more with
   |nil=>exact absurd rfl hm
   |cons x r=>rfl
  simp only[md];rw[if_pos (by rfl)];refine ab (cE d1 d3 ?_);rw[if_pos (by rfl)];refine ab (YcL o1 o3 o4 o5 hn ?_);have jb:Az.isEmpty=false:=by
   rw[Array.isEmpty_eq_false_iff];intro z;rw[z] at hlen;exact hm (List.length_eq_zero_iff.mp (by simpa using hlen.symm))
  rw[if_pos (by rw[jb];rfl)];refine ab (wpAny_updateDictKeysTo d1 d3 (ag (hQ _ ?_ (Heap.SameBut.update ..))) (by lia));rw[if_neg hm];refine⟨_,_,epd+1,Vp _ d1 (Obj.isFreed_of_dict (Obj.data_mapDictKeys d3 _)),d2.mapDictKeys _,Obj.data_mapDictKeys d3 _,o4,λx hx=>?_,o6⟩;exact(aD knd).keeps (o5 x hx) d1 d3 (Heap.SameBut.update ..)
end
theorem Ycc:typeOf (.builtin "dict.update")=pure (.type "method_descriptor"):=by
 show builtinType _=_;rw[builtinType_eq_fast]
 kernel_rfl
theorem ZbT:j2 table "dict.update"=some aq.«dict.update»:=entryFor_of_tree (by kernel_rfl)
theorem Zb2(u v:aa):ku "dict.update" ⟨[u,v],[]⟩:=by
 unfold ku;rw[jh (id:="dict.update") (n:="etadpu".toList) (o:="tcid".toList) (by kernel_rfl) PySem.F.owner_dict]
 kernel_rfl
section
variable {X:Cx} {pins:List (ae×Obj)} {σ:L2.St} {H:Hp} {s:af} {a b:ae} {A:aw} {E:aa->af->Prop}
theorem YcD{kvs more:List (List Key×V)}{Q:aa->af->Prop}(I:Inv X pins σ H s)(ea:H a=some (.dT kvs))(eb:Rd H b (.dT more))(jb:a≠b)(hx:kvs=[]\/more=[])
  (hn:(more.map λx=>(aD (ye X.prog X.w)).hash x.1).Nodup) (h:∀ s',Inv X pins σ (upd H a (.dT (if more=[] then kvs else more))) s'->Q .none s') :
  ah (ak X.prog X.w) A (call (.builtin "dict.update") [.ref a,.ref b]) Q E s:=by
 obtain⟨za,ha,xs,ra,da⟩:=OA I.aR ea;obtain⟨zb,hb,ys,rb,db⟩:=Di I.aR eb;have hl:=Ea rb;have hk:∀(l:List (List Key×V)) (m:List (List Key×ae×aa)),KT H l m->(m.map λx=>(aD (ye X.prog X.w)).hash x.1)=l.map λx=>(aD (ye X.prog X.w)).hash x.1:=by
  intro l m r
  induction r with
  |nil=>rfl
  |cons h t ih=>rw[Wb,Wb,ih,h.1]
 have e1:xs=[]\/ys=[]:=by
  rcases hx with rfl|rfl
  ·left;cases ra;rfl
  ·right;cases rb;rfl
 refine bj PySem.F.slot_dict_update da.typeIs ZbT ?_ (Zb2 _ _);unfold aq.«dict.update»;refine ab ?_;unfold aq.Dict.selfAndRest;refine ab (fi da.typeIs ?_);show ah _ _ (pure (a,[aa.ref b])) _ _ s;refine ag ?_;show ah _ _ (aq.Dict.updateFrom "dict.update" a (.ref b) [] .none) _ _ s;unfold aq.Dict.updateFrom;refine ab (cC db.typeIs ?_);rw[if_neg (by decide)];refine ab ?_;unfold aq.Dict.merge;refine ab ?_;unfold aq.Dict.readDirectly;refine ab (hU db.typeIs isSubtype_dict_dict ?_);simp only[Bool.not_true,Vk,if_false];refine ab (iq db.typeIs PySem.F.slot_dict_iter.lookup (ag ?_));simp only[beq_self_eq_true,if_true];refine ab (ag ?_);refine qb1 (knd:=ye X.prog X.w) jb hb da db (by rw[<- hl];exact zb) (by rw[hk _ _ rb];exact hn) e1 λh' dd hs=>?_;show ah _ _ (aq.Dict.addKeywords a [] >>= _) _ _ _;refine ab (ag (ag ⟨_,rfl,h _ ?_⟩));obtain⟨q,es,ep,hq,h2,h3,h4,_,h5⟩:=dd;have kt:KT H (if more=[] then kvs else more) (if ys=[] then xs else ys):=by
  by_cases z:more=[]
  ·have z2:ys=[]:=by subst z;cases rb;rfl
   rw[if_pos z,if_pos z2];exact ra
  ·have z2:ys≠[]:=λz3=>z (by subst z3;cases rb;rfl);rw[if_neg z,if_neg z2];exact rb
 refine Dp (t':=s.toks) I (by rw[ea];exact True.intro) hs ⟨q,hq⟩ ⟨by split <;> assumption,ha,_,kt.keeps λc ys ec=>?_,q,es,ep,hq,h2,h3,h4,h5⟩;rw[Zc (KC ec ea (λz=>nomatch z))];exact ec
end
noncomputable def tO(X:Cx)(td ty:TE):TE:=λσ H Q=>td σ H λx H1=>∃ a,x=.ref a/\Pc H1 a/\ty σ H1 λy H2=>∃ b kvs more,y=.ref b/\H2 a=some (.dT kvs)/\Rd H2 b (.dT more)/\a≠b/\(kvs=[]\/more=[]) /\
 (more.map λx=>(aD (ye X.prog X.w)).hash x.1).Nodup/\Q .bI (upd H2 a (.dT (if more=[] then kvs else more)))
theorem zcM{X:Cx}{o e:Expr}{apos gw:Pos}{td ty:TE}(ho:PE X o td)(he:PE X e ty)(m:M1 X o "update" apos e gw):PE X (.Call (.Attribute o "update" apos) [e] [] gw) (tO X td ty):=by
 intro pins s σ H Q I h;refine wpAny_Call_method m.base m.few m.line PySem.F.plainAttrs_dict PySem.F.slot_dict_update Ycc (bg (ho pins s σ H _ I h) λu s1 ⟨x,H1,I1,rx,a,ex,d,q1⟩=>?_);subst ex;obtain rfl:u=aa.ref a:=rx;obtain⟨t1,t2,_⟩:=qc2 I1 d;refine⟨t1,t2,?_⟩;rw[m.trees];refine Calls.callWith_builtin rfl (Calls.evalArgs_plain (Calls.spliced_cons (bg (he pins s1 σ H1 _ I1 q1) λiv s2 ⟨y,H2,I2,ry,b,kvs,more,ey,ea,eb,jb,hx,hn,q2⟩=>Calls.spliced_nil ?_)));subst ey;obtain rfl:iv=aa.ref b:=ry;exact YcD I2 ea eb jb hx hn λs3 I3=>⟨.bI,_,I3,rfl,q2⟩
end L3
end
section
namespace M3
open PySem
open Sem (wp)
noncomputable abbrev lC(t:Tok):List (Str×aa):=[("start",.int 1 t)]
theorem Ybu(tup:Bool)(l:ae)(xs:Array aa)(t:Tok) :
  kO (aq.«enumerate.__new__» ⟨[.type "enumerate",.ref l],lC t⟩) (λ_ R s=>(cy s.heap tup l xs/\∃ o,s.heap.get? l=some o) /\
   ∀ h2,h2=(s.heap.push (dw tup l)).push {cls:=.type "enumerate",data:=.fields #[.none,.bool false,.ref s.heap.objs.size,dr 1,.none,.none]} ->
   R (.ok (.ret (.ref (s.heap.push (dw tup l)).objs.size))) {s with heap:=h2}) :=
 .of_wp λprog w A R s h=>by
  obtain⟨hp,g,d,tk,os⟩:=s;obtain⟨⟨x1,o,ho⟩,h⟩:=h;have Ac:=sub_enumerate;have ka:Heap.get? (af.heap ⟨hp,g,d,tk,os⟩) l=some o:=ho;have y1:cy (af.heap ⟨hp,g,d,tk,os⟩) tup l xs:=x1
  wp_walk using wpAny_loadPart' ka
  refine wpAny_stack_any λst=>ag ?_;split
  ·rename_i c _ _ _ _ _;cases(c==aa.type "enumerate")
   ·wp_walk using wpAny_loadPart' ka,zn y1
    exact⟨_,rfl,h _ rfl⟩
   ·wp_walk using wpAny_loadPart' ka,zn y1
    exact⟨_,rfl,h _ rfl⟩
  ·wp_walk using wpAny_loadPart' ka,zn y1
   exact⟨_,rfl,h _ rfl⟩
theorem Ycz(a:aa)(t:Tok):jt "enumerate" ⟨[a],lC t⟩=pure ():=by kernel_rfl
theorem qch(a:aa)(t:Tok):ib "enumerate.__new__" ⟨[.type "enumerate",a],lC t⟩=pure ():=by kernel_rfl
theorem Qck(o a:aa)(t:Tok):ku "object.__init__" ⟨[o,a],lC t⟩:=by
 unfold ku;rw[jh (id:="object.__init__") (n:="__tini__".toList) (o:="tcejbo".toList) (by kernel_rfl) F.owner_object]
 kernel_rfl
theorem Ycb{T newId:String}{self:aa}{rest:List aa}{t:Tok}(hl:gg (.type T) "__init__"=pure (some (.builtin "object.__init__")))
  (hm:Bind.madeBy (.type T)=pure (some newId)) (jb:(some newId != some "object.__new__")=true) :
  kO (aq.«object.__init__» ⟨self::rest,lC t⟩) (λ_ R s=>s.TypeIs self T/\R (.ok (.ret .none)) s):=by
 refine kO.of_wp λprog w A R s ⟨hT,hq⟩=>?_;cases rest <;> (repeat (any_goals (first|assumption|wp_step))) <;> exact⟨_,rfl,hq⟩
section
variable {prog:aj} {w:World} {A:aw} {E:aa->af->Prop} {s:af}
theorem Qcy{T newId:String}{Bn:aq}{v:aa}{t:Tok}{S:Spec}{Q:aa->af->Prop}(ft:TypeCalled T newId "object.__init__")(jb:(some newId != some "object.__new__")=true)
  (hct:jt T ⟨[v],lC t⟩=pure ()) (HI:ib newId ⟨[.type T,v],lC t⟩=pure ()) (pN:j2 table newId=some Bn) (g:kO (Bn ⟨[.type T,v],lC t⟩) S)
  (h:S A.in1 (wants (λobj s₁=>s₁.TypeIs obj T/\Q obj s₁) E) s):ah (ak prog w) A (call (.type T) [v] (lC t)) Q E s:=by
 obtain⟨c,tl,hmro⟩:=ft.mro;have My:=ft.made;have Ac:=ft.sub;refine eU (codeAny_of_tree ?_);show ah _ _ (callAny (.type T) _) _ _ _;refine ag ⟨i9.quiet_builtin _ (by decide +kernel),bO F.entry_type_call ?_⟩;rw[aw.under_plain (weight_type_call_type T [v] (lC t)) (units_type_call_type T [v] (lC t))];have h1:=ft.notType;have h2:=ft.canCreate
 repeat (any_goals (first|assumption|wp_step))
 refine cO (bT ft.plain pN (fw HI (g prog w A.in1 _ s h))) λr s₁ hr=>?_;cases r with
 |error e=>exact hr
 |ok fl =>
  cases fl with
  |ret obj =>
   obtain⟨hT,hq⟩:=hr;have hli:=ft.init.lookup;have hbi:=ft.init.bind obj
   repeat (any_goals (first|assumption|wp_step))
   refine cO (bT ft.init.plain F.entry_object_init (ft.init.check _ _ _ _ _ _ _ _ hT (Qck obj v t) (Ycb (t:=t) ft.init.lookup ft.made jb prog w A.in1 (wants (λr s₂=>r=.none/\Q obj s₂) E) s₁ ⟨hT,rfl,hq⟩))) λr₂ s₂ Ha=>?_;cases r₂ with
   |error e=>exact Ha
   |ok fl₂ =>
    cases fl₂ with
    |ret r =>
     obtain⟨rfl,hq⟩:=Ha
     repeat (any_goals (first|assumption|wp_step))
    |_=>exact Ha.elim
  |_=>exact hr.elim
theorem qbI{tup:Bool}{l:ae}{xs:Array aa}{t:Tok}{Q:aa->af->Prop}(x1:cy s.heap tup l xs)
  (h:∀ h',IsEnum h' (s.heap.objs.size+1) s.heap.objs.size 1 .none->dz h' tup s.heap.objs.size l 0->(∀ b o,s.heap.get? b=some o->h'.get? b=some o)->Q (.ref (s.heap.objs.size+1)) {s with heap:=h'}) :
  ah (ak prog w) A (call (.type "enumerate") [.ref l] (lC t)) Q E s:=by
 have ho:∃ o,s.heap.get? l=some o:=by
  cases tup with
  |true=>obtain⟨o,e,_⟩:=(show s.heap.IsTuple l xs from x1);exact⟨o,e⟩
  |false=>obtain⟨o,e,_⟩:=(show s.heap.IsList l xs from x1);exact⟨o,e⟩
 refine Qcy F.called_enumerate (by decide) (Ycz _ _) (qch _ _) F.entry_enumerate_new (Ybu tup l xs t) ⟨⟨x1,ho⟩,λh2 e2=>?_⟩;have n1:(s.heap.push (dw tup l)).objs.size=s.heap.objs.size+1:=Xh ..;have q2:IsEnum h2 (s.heap.push (dw tup l)).objs.size s.heap.objs.size 1 .none:=by rw[e2];exact xb _ rfl
 have q1:h2.get? s.heap.objs.size=some (dw tup l):=by rw[e2];exact wa _ (xb _ rfl)
 rw[n1] at q2;show _/\_;rw[n1];exact⟨⟨_,q2,rfl⟩,h _ q2 (.new q1) λb o e=>by rw[e2];exact wa _ (wa _ e)⟩
theorem Zcb{M:Model}{env:Env}{pos kp:Pos}{T:String}{e ve:Expr}{name:Str}{Q:aa->af->Prop}(hs:au [e] env=[(false,eval e env)])
  (h:ah M A (eval e env) (λv s₁=>ah M A (eval ve env) (λu s₂=>ah M A (call (.type T) [v] [(name,u)]) Q E s₂) E s₁) E s) :
  ah M A (j4 pos (.type T) [] (bh pos (au [e] env)) (dh pos (bG [⟨some name,ve,kp⟩] env))) Q E s:=by
 have hb:bh pos (au [e] env)=(false,eval e env)::[]:=by rw[hs];rfl
 unfold j4;rw[hb];refine ab (aK (PyProof.Rows.evalArgs_kwB rfl (Calls.spliced_cons (aS h (λv s₁ h₁=>Calls.spliced_nil (PyProof.Rows.kws_cons (aS h₁ (λu s₂ h₂=>PyProof.Rows.kws_nil (ab (bW ?_))) λ_ _ x=>x))) λ_ _ x=>x))));refine ab (ag ?_);exact ab (aS h₂ (λr s₂ hr=>ab (aK (wpAny_point (ag hr)))) λ_ _ x=>x)
end
end M3
namespace L3
open PySem PySem.Spec PyProof.Rows L2 M3
theorem QcA{prog:aj}{w:World}{A:aw}{it:ae}{fp:List ae}{n:Nat}{P:Nat->aa->Prop}{St:Nat->Heap->Prop}(D:fg prog w A it fp n P St) :
  fg prog w A it fp (n+1) (λi v=>P (i-1) v) (λi h=>0<i/\St (i-1) h) where
 live:=λi h st=>D.live _ h st.2
 frame:=λi h h' st k=>⟨st.1,D.frame _ h h' st.2 k⟩
 item:=λi s Q E hi st hQ=>D.item (i-1) s Q E (by have:=st.1;lia) st.2 λx h' tk px j9 sb=>hQ x h' tk px ⟨Nat.succ_pos _,by rw[show i+1-1=i-1+1 from by have:=st.1;lia];exact j9⟩ sb
 done:=λs Q E st hE=>D.done s Q E st.2 hE
noncomputable def rl(K:PySem.W.Frag)(b:Bool)(a:ae):It :=
 ⟨λi H=>∃ xs,gD K H b a xs/\i<xs.length,
 λi H x H'=>∃ T x1,x=.ref T/\H T=none/\H'=upd H T (.tup [.int ((i+1:Nat):Int),x1])/\(∀ xs,gD K H b a xs->xs[i]?=some x1),
 λi H=>∃ xs,gD K H b a xs/\i=xs.length⟩
theorem zbL{P:aj}{w:World}{K:PySem.W.Frag}{es:List Expr}{kt:Nat}{pt:Pos}{b:Bool}{a e it:ae}(h1:a≠it)(h2:a≠e)(h3:e≠it) :
  Turn P w K (.Tuple es kt pt) (rl K b a) [e,it] e (λi h=>(∃ old,IsEnum h e it ((i+1:Nat):Int) old)/\dz h b it a i) where
 mem:=by simp
 obj:=λi h ⟨⟨old,e1⟩,e2⟩ c hc=>by
  simp only[ua,Vc,or_false] at hc
  rcases hc with rfl|rfl
  ·exact⟨_,e1,λv q=>nomatch q⟩
  ·exact e2.obj
 keep:=λi h h' ⟨⟨old,e1⟩,e2⟩ k=>⟨⟨old,k e (by simp) _ e1⟩,e2.keeps λo q=>k it (by simp) o q⟩
 item:=by
  intro X hP hw hK hc i pins s σ H E I hf ⟨⟨old,e1⟩,e2⟩ hg;subst hP hw hK;obtain⟨xs,q1,l1⟩:=hg;obtain⟨iA,v1,p1,_⟩:=yr I q1;have D1:=zO (prog:=X.prog) (w:=X.w) (zk (I.ok.hd hc)) b it a h1 iA.toArray;have Hs:=v1.length;refine wpAny_pyNext_enum_itemD (QcA D1) e1 ⟨Nat.succ_pos _,e2,p1⟩ (by simp;lia) h3 (by simp[h3,Ne.symm h2]) λx g tk px f1 f2 f3 f4 f5=>⟨_,rfl,?_⟩;refine wpAny_letOwnedTupleGo_enum (s:={s with heap:=g,toks:=tk+1}) f1 λg' f6 f7=>?_;obtain⟨x1,xX⟩:∃ x1,xs[i]?=some x1:=⟨xs[i],by simp[l1]⟩;obtain⟨u1,G7,r1⟩:=v1.get xX;have ex:x=u1:=by have z:iA.toArray[i]?=some x:=px;simp[G7] at z;exact z.symm
  subst ex;have elt:e≠s.heap.objs.size:=vb (Ua e1);have I1:Inv X pins σ H {s with heap:=g',toks:=tk+1}:=Zv (ch:=[e,it]) I hf λc o eF q=>by
   simp only[ua,Vc,or_false,not_or] at eF;exact(f7.2 c eF.1).trans (f5 c o eF.1 eF.2 q)
  have fT:=I.jJ (b:=s.heap.objs.size) (wb _) (I.aR.fresh (wb _));have gT:g'.get? s.heap.objs.size=some {cls:=.type "tuple",data:=.seq #[.int ((i+1:Nat):Int) tk,x]}:=(f7.2 _ (Ne.symm elt)).trans f3;have I2:Inv X pins σ (upd H s.heap.objs.size (.tup [.int ((i+1:Nat):Int),x1])) {s with heap:=g',toks:=tk+1}:=GA I1 fT I.sz ⟨by show 2<=sizeLine;decide,[.int ((i+1:Nat):Int) tk,x],.cons ⟨_,rfl⟩ (.cons r1 .nil),⟨_,gT,rfl,_,rfl⟩⟩;refine⟨.ref s.heap.objs.size,_,I2,rfl,⟨_,x1,rfl,fT.1,rfl,λzs hz=>by rw[QV I hz q1];exact xX⟩,⟨⟨_,by have q:=f6;exact q⟩,f2.2.1.keeps λo q=>(f7.2 it (Ne.symm h3)).trans q⟩,λc eF=>?_⟩;have lt:c<s.heap.objs.size:=by
   simp only[ua,Vc,or_false] at eF
   rcases eF with rfl|rfl
   ·exact Ua e1
   ·exact let ⟨o,q,_⟩:=e2.obj;Ua q
  rw[Zc (vb lt)];exact(hf c eF).1
 done:=by
  intro X hP hw hK hc i pins s σ H E I hf ⟨⟨old,e1⟩,e2⟩ hg;subst hP hw hK;obtain⟨xs,q1,hk⟩:=hg;obtain⟨iA,v1,p1,_⟩:=yr I q1;have D1:=zO (prog:=X.prog) (w:=X.w) (zk (I.ok.hd hc)) b it a h1 iA.toArray;have Hs:=v1.length;refine wpAny_pyNext_enum_endD D1 e1 (by rw[show iA.toArray.size=i from by simp;lia];exact⟨e2,p1⟩) λg k=>⟨rfl,?_⟩;exact Zv (t':=s.toks) (ch:=[e,it]) I hf λc o eF q=>by
   simp only[ua,Vc,or_false,not_or] at eF;exact k c o eF.2 q
 self:=λ_ _ _ _ _ st h=>let ⟨_,e1⟩:=st.1;gH e1 h
noncomputable abbrev B9(a:Expr)(j:Nat)(p cp kp pos:Pos):Expr:=.Call (.Name "enumerate" p) [a] [⟨some "start",.Constant (.int 1) j cp,kp⟩] pos
noncomputable def Qc3(K:PySem.W.Frag)(te:TE):TI:=λσ H R=>te σ H λv H1=>∃ b a,v=.ref a/\(∃ xs,gD K H1 b a xs)/\R (rl K b a) H1
theorem zch{X:Cx}{a:Expr}{te:TE}{j:Nat}{p cp kp pos:Pos}{es:List Expr}{kt:Nat}{pt:Pos}(hg:Gl X "enumerate")(hm:X.mg "enumerate"=none)(ha:PE X a te)(hs:au [a] X.env=[(false,eval a X.env)]) :
  PI X (.Tuple es kt pt) (B9 a j p cp kp pos) (Qc3 X.K te):=by
 intro pins s σ H R I h;refine aT (p9 I hg hm boot_enumerate ?_);refine Zcb hs (bg (ha pins s σ H _ I h) λu s1 ⟨v,H1,I1,r1,b,l,e,⟨xs,h1⟩,q⟩=>gf ?_);subst e;obtain rfl:u=aa.ref l:=r1;have I2:=I1.tok (s1.toks+1);obtain⟨iA,v1,p1,_⟩:=yr I2 h1;have l1:=p1.lt;refine qbI p1 λg f1 f2 f3=>?_;refine gH f1 ?_;exact⟨s1.heap.objs.size+1,[s1.heap.objs.size+1,s1.heap.objs.size],_,_,H1,rfl,I2.kept (t':=s1.toks+1) f3,zbL (b:=b) (a:=l) (vb l1) (vb (Xs l1)) (Um (Vi _)),⟨⟨_,f1⟩,f2⟩,λc hc=>I2.jJ (MQ hc) (I2.aR.fresh (MQ hc)),q⟩
end L3
end
section
namespace L3
open PySem PySem.Spec PyProof.Rows L2 M3
end L3
end
section
namespace MP
open PySem
inductive FV where
 |bI|bl (b:Bool)|int (i:Int)|str (s:Str)
 |tup (xs:List FV)|lst (xs:List FV)|obj (c:String) (ns:List String) (vs:List FV)|dm (ns:List Int)|tab (kvs:List ((Int×Int)×Int))|cV (ks:List (Int×Int))
inductive MV where
 |f (x:FV)|ref (a:Nat)|tup (xs:List MV)|exc (c:String)
inductive Cell where
 |lst (xs:List MV)|obj (c:String) (fs:List (String×MV))|iC (ks:List Int)|tab (kvs:List ((Int×Int)×Int))|cV (ks:List (Int×Int))|code|dead
noncomputable abbrev MH:=List Cell
noncomputable abbrev aF:=List (Option MV)
inductive R (α:Type) where
 |ok (x:α) (h:MH)|exc (c:String) (h:MH)|stuck
noncomputable abbrev RD{γ δ:Sort _}(_k:γ->δ)(τ:Type):Type:=τ
namespace R
noncomputable def bind{α β:Type}(r:R α)(k:α->MH->R β):RD k (R β):=match r with
 |.ok x h=>k x h
 |.exc c h=>.exc c h
 |.stuck=>.stuck
variable {α β:Type}
@[simp] theorem aJ{x:α}{h:MH}{k:α->MH->R β}:(R.ok x h).bind k=k x h:=id rfl
@[simp] theorem mn{c:String}{h:MH}{k:α->MH->R β}:(R.exc c h:R α).bind k=.exc c h:=id rfl
@[simp] theorem kr{k:α->MH->R β}:(R.stuck:R α).bind k=.stuck:=id rfl
end R
noncomputable def opt{α β:Type}(o:Option α)(k:α->R β):RD k (R β):=match o with
 |some x=>k x
 |none=>.stuck
@[simp] theorem yd{α β:Type}{x:α}{k:α->R β}:opt (some x) k=k x:=id rfl
@[simp] theorem vL{α β:Type}{k:α->R β}:opt none k=.stuck:=id rfl
noncomputable def Yv:MV->Bool
 |.f .bI=>true
 |_=>false
noncomputable def zj:List MV->Option (List FV)
 |[]=>some []
 |.f x::r=>(zj r).map (x::·)
 |_::_=>none
noncomputable def Zi(xs:List MV):MV:=match zj xs with
 |some ys=>.f (.tup ys)
 |none=>.tup xs
noncomputable def Qt(fz:Bool)(xs:List MV)(h:MH):R MV:=match fz with
 |true=>opt (zj xs) λys=>.ok (.f (.lst ys)) h
 |false=>.ok (.ref h.length) (h++[.lst xs])
noncomputable def Yd(h:MH)(a:Nat):Option (List MV):=match h[a]? with
 |some (.lst xs)=>some xs
 |_=>none
noncomputable def Qb(h:MH):MV->Option (List MV)
 |.f (.tup xs)=>some (xs.map .f)
 |.f (.lst xs)=>some (xs.map .f)
 |.f (.dm ns)=>some (ns.map λi=>.f (.int i))
 |.tup xs=>some xs
 |.ref a=>Yd h a
 |_=>none
noncomputable def listOf(h:MH):MV->Option (List MV)
 |.f (.lst xs)=>some (xs.map .f)
 |.ref a=>Yd h a
 |_=>none
noncomputable def qk:MV->Option (List MV)
 |.f (.tup xs)=>some (xs.map .f)
 |.tup xs=>some xs
 |_=>none
noncomputable def zd:MV->Option Int
 |.f (.int i)=>some i
 |_=>none
noncomputable def QI:MV->Option Bool
 |.f (.bl b)=>some b
 |_=>none
@[simp] noncomputable def Zg:List MV->Option (List Int)
 |[]=>some []
 |.f (.int i)::r=>(Zg r).map (i::·)
 |_::_=>none
@[simp] noncomputable def zv:List MV->Option (List Bool)
 |[]=>some []
 |.f (.bl i)::r=>(zv r).map (i::·)
 |_::_=>none
noncomputable def Zo(h:MH):Nat->MV->Option FV
 |0,_=>none
 |_+1,.f x=>some x
 |n+1,.tup xs=>(xs.mapM (Zo h n)).map .tup
 |n+1,.ref a=>(Yd h a).bind λxs=>(xs.mapM (Zo h n)).map .lst
 |_+1,.exc _=>none
noncomputable def zP(h:MH)(v:MV):Option FV:=Zo h 5 v
noncomputable def Qm(h:MH):Nat->MV->List Nat
 |0,_=>[]
 |_+1,.f _=>[]
 |n+1,.tup xs=>xs.flatMap (Qm h n)
 |n+1,.ref a=>a::((Yd h a).getD []).flatMap (Qm h n)
 |_+1,.exc _=>[]
noncomputable def kill(as:List Nat)(h:MH):MH:=h.mapIdx λi c=>if i∈as then .dead else c
noncomputable def QM(v:MV)(h:MH):R MV:=opt (zP h v) λx=>.ok (.f x) (kill (Qm h 5 v) h)
noncomputable def rG(x:Str):Bool:=x.cps.all (· < 0x110000)
noncomputable def cj:Nat->FV->Bool
 |_+1,.bI=>true
 |_+1,.bl _=>true
 |_+1,.int _=>true
 |_+1,.str s=>rG s
 |n+1,.tup xs=>xs.all (cj n)
 |n+1,.lst xs=>xs.all (cj n)
 |_,_=>false
mutual
noncomputable def fR:FV->FV->Bool
 |.bI,.bI=>true
 |.bl a,.bl b=>a==b
 |.bl a,.int j=>(if a then 1 else 0)==j
 |.int i,.bl b=>i==(if b then 1 else 0)
 |.int a,.int b=>a==b
 |.str a,.str b=>a==b
 |.tup xs,.tup ys=>mL xs ys
 |.lst xs,.lst ys=>mL xs ys
 |_,_=>false
noncomputable def mL:List FV->List FV->Bool
 |[],[]=>true
 |x::xs,y::ys=>fR x y&&mL xs ys
 |_,_=>false
end
noncomputable def lH(x y:FV):Option Bool:=if cj 8 x=true/\cj 8 y=true then some (fR x y) else none
noncomputable def nC(x:FV)(ys:List FV):Option Bool:=if cj 8 x=true/\ys.all (cj 8)=true then some (ys.any λy=>fR y x) else none
inductive BO where
 |add|sub|mul|fdiv|mod|pow
inductive CO where
 |lt|le|gt|ge|eq|ne|gZ|ly
noncomputable def big:Nat:=2^4096
noncomputable def qD(i j:Int):Prop:=i.natAbs<2^64\/j.natAbs<2^64\/(i.natAbs<big/\j.natAbs<big)
noncomputable def sL(i j:Int):Prop:=0<j/\(j<1073741824\/j.natAbs<big)
open Classical in
noncomputable def yM:BO->Int->Int->Option Int
 |.add,i,j=>some (i+j)
 |.sub,i,j=>some (i-j)
 |.mul,i,j=>if qD i j then some (i*j) else none
 |.fdiv,i,j=>if sL i j then some (i/j) else none
 |.mod,i,j=>if 0<j then some (i%j) else none
 |.pow,i,j=>if 0<=j/\j<=1000000/\i.natAbs<2^64 then some (i^j.toNat) else none
noncomputable def aO:Nat:=4194304
open Classical in
noncomputable def Qd(fz:Bool)(op:BO)(x y:MV)(h:MH):R MV:=match zd x,zd y with
 |some i,some j=>opt (yM op i j) λk=>.ok (.f (.int k)) h
 |none,some j=>match op with
  |.mul=>opt (listOf h x) λxs=>if -(2^63)<=j/\j<2^63/\xs.length*j.toNat<=aO then Qt fz (uc j.toNat xs).flatten h else .stuck
  |_=>.stuck
 |none,none=>match op with
  |.add=>match qk x,qk y with
   |some xs,some ys=>if xs≠[]/\xs.length+ys.length<=aO then .ok (Zi (xs++ys)) h else .stuck
   |_,_=>opt (listOf h x) λxs=>opt (listOf h y) λys=>if xs.length+ys.length<=aO then Qt fz (xs++ys) h else .stuck
  |_=>.stuck
 |_,_=>.stuck
noncomputable def oJ:CO->Int->Int->Option Bool
 |.lt,i,j=>some (decide (i<j))
 |.le,i,j=>some (decide (i<=j))
 |.gt,i,j=>some (decide (j<i))
 |.ge,i,j=>some (decide (j<=i))
 |_,_,_=>none
noncomputable def ZF(op:CO)(x y:MV)(h:MH):Option Bool:=match op with
 |.eq=>(zP h x).bind λa=>(zP h y).bind λb=>lH a b
 |.ne=>(zP h x).bind λa=>(zP h y).bind λb=>(lH a b).map (!·)
 |.gZ=>(zP h x).bind λa=>(Qb h y).bind λys=>(ys.mapM (zP h)).bind λbs=>nC a bs
 |.ly=>(zP h x).bind λa=>(Qb h y).bind λys=>(ys.mapM (zP h)).bind λbs=>(nC a bs).map (!·)
 |op=>(zd x).bind λi=>(zd y).bind λj=>oJ op i j
noncomputable def jW(n:Nat)(i:Int):Option Nat:=if 0<=i then(if i<n then some i.toNat else none) else if -(n:Int)<=i then some (i+n).toNat else none
noncomputable def cW(xs:List MV)(i:Int):Option MV:=(jW xs.length i).bind λj=>xs[j]?
noncomputable def lx(n d:Nat):Option Int->Nat
 |none=>d
 |some i=>if i<0 then(i+(n:Int)).toNat else min i.toNat n
noncomputable def j8(xs:List MV)(lo hi:Option Int):List MV:=(xs.drop (lx xs.length 0 lo)).take (lx xs.length xs.length hi-lx xs.length 0 lo)
noncomputable def oI(fz:Bool)(x:MV)(lo hi:Option Int)(h:MH):R MV:=match qk x with
 |some xs=>.ok (Zi (j8 xs lo hi)) h
 |none=>opt (Qb h x) λxs=>Qt fz (j8 xs lo hi) h
noncomputable def mU(n:String)(v:MV):List (String×MV)->List (String×MV)
 |[]=>[(n,v)]
 |(k,x)::r=>if k=n then(k,v)::r else(k,x)::mU n v r
inductive Tg where
 |nm (i:Nat)|tp (ts:List Tg)
inductive ME where
 |var (i:Nat)|cI (i:Int)|cB (b:Bool)|cN|cS (s:Str)
 |glob (x:String)
 |bin (fz:Bool) (op:BO) (a b:ME)|neg (a:ME)
 |cmp (op:CO) (a b:ME)|chain (op jG:CO) (a b c:ME)
 |xN (a:ME)|nu (a:ME)
 |and (es:List ME)|or (es:List ME)|not (a:ME)|ite (c a b:ME)
 |tup (es:List ME)|lst (fz:Bool) (es:List ME)
 |sub (a i:ME)|slice (fz:Bool) (a:ME) (lo hi:Option ME)
 |fld (a:ME) (n:String)
 |call (f:String) (es:List ME)|make (fz:Bool) (c:String) (es:List ME)|kX (o:ME) (m:String) (es:List ME)
 |blt (fz:Bool) (n:String) (es:List ME)
 |kF (a:ME) (t:String)
 |ip (a b:ME)|jS (a:ME)|kD (a b:ME)
 |nA|Cp (a:ME)|nv (o e:ME)|ny (a d:ME)
 |nh (fz:Bool) (a:ME)
 |lm (m:String) (o:ME) (es:List ME)
 |comp (fz:Bool) (elt:ME) (tg:Tg) (it:String) (src:List ME) (cond:Option ME) (bV:Nat) (js:List Nat)
 |e8 (e:ME)
inductive MS where
 |set (tg:Tg) (e:ME)
 |fA (o i e:ME)
 |gi (o:ME) (n:String) (e:ME)
 |nq (o k:ME)|par (i j:Nat) (a b:ME)
 |expr (e:ME)
 |ret (e:ME)
 |ite (c:ME) (a b:List MS)
 |for_ (tg:Tg) (it:String) (src:List ME) (body:List MS)
 |while_ (c:ME) (body:List MS)
 |pass|ic
 |nJ (i:Nat)
structure aY where
 np:Nat
 ns:Nat
 body:List MS
structure Prog where
 defs:String->Option aY
 dy:String->Option FV
 meths:String->String->Option String
 subs:String->String->Option Bool
 iG:String->String->Bool
 km:String->Bool
 word:String->String->Option Str
 words:String->Bool
 kA:String->String->Option Bool:=λ_ _=>none
 kS:String->Bool:=λ_=>false
 xt:Bool:=false
 sd:String->List Int->Bool:=λ_ _=>false
 l0:String->Bool:=λ_=>false
 turns:Nat
@[simp] noncomputable def pZ(n:String):List String->List FV->Option FV
 |m::ns,v::vs=>if n=m then some v else pZ n ns vs
 |_,_=>none
noncomputable def lK(ok:String->String->Bool)(n:String)(v:MV)(h:MH):Option MV:=match v with
 |.f (.obj c ns vs)=>if ok c n=true then(pZ n ns vs).map .f else none
 |.ref a=>match h[a]? with
  |some (.obj c fs)=>if ok c n=true then fs.lookup n else none
  |_=>none
 |_=>none
noncomputable def lN(m:String)(v:MV)(h:MH):Option String:=match v with
 |.f (.obj c ns _)=>if m∈ns then none else some c
 |.ref a=>match h[a]? with
  |some (.obj c fs)=>if m∈fs.map Wt then none else some c
  |_=>none
 |_=>none
noncomputable def excOf:MV->Option String
 |.exc c=>some c
 |_=>none
@[simp] theorem ydq(c:String):excOf (.exc c)=some c:=rfl
noncomputable def kg(sub:String->String->Option Bool)(h:MH)(v:MV)(t:String):Option Bool:=match v with
 |.f .bI=>some false
 |.f (.bl _)=>some (decide (t="bool")||decide (t="int"))
 |.f (.int _)=>some (decide (t="int"))
 |.f (.str _)=>some (decide (t="str"))
 |.f (.tup _)=>some (decide (t="tuple"))
 |.f (.tab _)=>none
 |.f (.cV _)=>none
 |.f (.lst _)=>some (decide (t="list"))
 |.f (.obj c _ _)=>sub c t
 |.f (.dm _)=>none
 |.tup _=>some (decide (t="tuple"))
 |.ref a=>match h[a]? with
  |some (.lst _)=>some (decide (t="list"))
  |some (.obj c _)=>sub c t
  |_=>none
 |.exc _=>none
noncomputable def Cv(x:MV)(h:MH):Option (List MV):=match x with
 |.ref a=>Yd h a
 |_=>none
noncomputable def LS(xs:List MV)(i:Int)(y:MV):List MV:=let k:=lx xs.length 0 (some i);xs.take k++y::xs.drop k
noncomputable def yf(h:MH)(a:Nat)(xs:List MV):MH:=h.set a (.lst xs)
open Classical in
noncomputable def l6(m:String)(o:MV)(as:List MV)(h:MH):R MV:=match o with
 |.ref a=>opt (Yd h a) λxs=>match m,as with
  |"append",[y]=>if xs.length<aO then .ok (.f .bI) (yf h a (xs++[y])) else .stuck
  |"extend",[z]=>opt (listOf h z) λys=>if xs.length+ys.length<=aO then .ok (.f .bI) (yf h a (xs++ys)) else .stuck
  |"insert",[u,y]=>opt (zd u) λi=>if xs.length<aO/\-(2^63)<=i/\i<2^63 then .ok (.f .bI) (yf h a (LS xs i y)) else .stuck
  |"reverse",[]=>.ok (.f .bI) (yf h a xs.reverse)
  |"clear",[]=>.ok (.f .bI) (yf h a [])
  |"pop",[]=>opt (xs[xs.length-1]?) λy=>.ok y (yf h a (xs.take (xs.length-1)))
  |"pop",[u]=>opt (zd u) λi=>opt (jW xs.length i) λk=>opt (xs[k]?) λy=>if -(2^63)<=i/\i<2^63 then .ok y (yf h a (xs.take k++xs.drop (k+1))) else .stuck
  |_,_=>.stuck
 |_=>.stuck
noncomputable def mI:Int->List Int->Int
 |m,[]=>m
 |m,x::r=>mI (if x<m then x else m) r
noncomputable def mR:Int->List Int->Int
 |m,[]=>m
 |m,x::r=>mR (if x>m then x else m) r
noncomputable def Yr(fz:Bool)(n:String)(as:List MV)(h:MH):R MV:=match n,as with
 |"len",[v]=>opt (Qb h v) λxs=>.ok (.f (.int xs.length)) h
 |"sum",[v]=>opt ((Qb h v).bind Zg) λxs=>.ok (.f (.int xs.sum)) h
 |"all",[v]=>opt ((Qb h v).bind zv) λxs=>.ok (.f (.bl (xs.all id))) h
 |"min",[v]=>opt ((Qb h v).bind Zg) λxs=>match xs with | []=>.stuck|x::r=>.ok (.f (.int (mI x r))) h
 |"max",[v]=>opt ((Qb h v).bind Zg) λxs=>match xs with | []=>.stuck|x::r=>.ok (.f (.int (mR x r))) h
 |"min",[u,v]=>opt (zd u) λi=>opt (zd v) λj=>.ok (.f (.int (if j<i then j else i))) h
 |"max",[u,v]=>opt (zd u) λi=>opt (zd v) λj=>.ok (.f (.int (if j>i then j else i))) h
 |"abs",[v]=>opt (zd v) λi=>.ok (.f (.int (if i<0 then -i else i))) h
 |"int",[v]=>match QI v with
  |some b=>.ok (.f (.int (if b then 1 else 0))) h
  |none=>opt (zd v) λi=>.ok (.f (.int i)) h
 |"tuple",[v]=>opt (Qb h v) λxs=>.ok (Zi xs) h
 |"list",[v]=>opt (Qb h v) λxs=>Qt fz xs h
 |"divmod",[u,v]=>opt (zd u) λi=>opt (zd v) λj=>if 0<j/\j<1073741824 then .ok (.f (.tup [.int (i/j),.int (i%j)])) h else .stuck
 |_,_=>.stuck
noncomputable def Y2(ns:List Int):List Int:=ns.mergeSort (λa b=>decide (a<=b))
theorem LU:∀{a b:List Int},a.Perm b->a.Pairwise (·<=·)->b.Pairwise (·<=·)->a=b
 |[],b,p,_,_=>(List.Perm.nil_eq p)
 |x::a,b,p,h,k=>by
  cases b with
  |nil=>exact absurd p.symm.nil_eq (by simp)
  |cons y b =>
   rw[List.pairwise_cons] at h k;have e:x=y:=by
    have h1:x∈y::b:=p.mem_iff.mp (by simp);have h2:y∈x::a:=p.mem_iff.mpr (by simp)
    rcases ua.mp h1 with e|m1
    ·exact e
    ·rcases ua.mp h2 with e|m2
     ·exact e.symm
     ·have:=h.1 y m2;have:=k.1 x m1;lia
   subst e;rw[LU (List.Perm.cons_inv p) h.2 k.2]
theorem IS(ns:List Int):(Y2 ns).Perm ns:=List.mergeSort_perm _ _
theorem LO(ns:List Int):(Y2 ns).Pairwise (·<=·):=by
 have:=List.pairwise_mergeSort (le:=λa b:Int=>decide (a<=b)) (by intro a b c h k;simp at *;lia) (by intro a b;simp;lia) ns;exact this.imp (by intro a b h;simpa using h)
theorem ZcB{ns lY:List Int}(p:lY.Perm ns)(h:lY.Pairwise (·<=·)):lY=Y2 ns:=LU (p.trans (IS ns).symm) h (LO ns)
noncomputable def zA(ks:List Int)(k:Int):List Int:=if k∈ks then ks else ks++[k]
noncomputable def oE(h:MH)(v:MV):Option (List Int):=match v with
 |.ref a=>match h[a]? with
  |some (.iC ks)=>some ks
  |_=>none
 |_=>none
noncomputable def ip(n:Nat)(x y:MV)(h:MH):R MV:=opt (zd x) λi=>opt (zd y) λj=>opt (oE h (.ref n)) λks=>if ks=[] then .ok (.ref n) (h.set n (.iC (zA (zA [] i) j))) else .stuck
noncomputable def jS(v:MV)(h:MH):R MV:=opt (oE h v) λks=>if ks.length<64 then .ok (.ref h.length) (h++[.lst ((Y2 ks).map λi=>.f (.int i))]) else .stuck
noncomputable def M8(h:MH)(v:MV):Option (List ((Int×Int)×Int)):=match v with
 |.ref a=>match h[a]? with
  |some (.tab kvs)=>some kvs
  |_=>none
 |.f (.tab kvs)=>some kvs
 |_=>none
noncomputable def sR(v:MV):Option (Int×Int):=match qk v with
 |some [.f (.int a),.f (.int b)]=>some (a,b)
 |_=>none
noncomputable def ZE(ks:List (Int×Int))(k:Int×Int):List (Int×Int):=if k∈ks then ks else ks++[k]
noncomputable def sD(v:MV):Option (Int×Int):=match qk v with
 |some [p,.f (.bl true)]=>sR p
 |_=>none
noncomputable def Dj(x:MV)(h:MH):R MV:=match x with
 |.ref i=>opt (Yd h i) λxs=>opt (xs.mapM sD) λks=>if xs.length<1000000 then .ok (.f (.cV (ks.foldl ZE []))) h else .stuck
 |_=>.stuck
noncomputable def ZW(h:MH)(v:MV):Option (List (Int×Int)):=match v with
 |.ref a=>match h[a]? with
  |some (.cV ks)=>some ks
  |_=>none
 |.f (.cV ks)=>some ks
 |_=>none
noncomputable def qX(k:Int×Int):Bool:=decide ((0<=k.1/\k.1<64)/\0<=k.2/\k.2<64)
noncomputable def BC(x y:MV)(h:MH):R MV:=match x,y with
 |.ref i,.f (.cV iz)=>opt (ZW h (.ref i)) λks=>if(ks=[]\/iz=[])/\iz.all qX=true/\iz.Nodup then .ok (.f .bI) (h.set i (.cV (if iz=[] then ks else iz))) else .stuck
 |_,_=>.stuck
noncomputable def rq(x y:MV)(h:MH):R MV:=opt (sR x) λk=>opt (ZW h y) λks=>.ok (.f (.bl (decide (k∉ks)))) h
noncomputable def Yo(w:Int)(n:Int)(r:List Int):Int:=r.foldl (λb k=>if(if w-k<0 then -(w-k) else w-k)<(if w-b<0 then -(w-b) else w-b) then k else b) n
noncomputable def mS(x y:MV)(h:MH):R MV:=opt (zd x) λw=>opt (Qb h y) λvs=>opt (Zg vs) λns=>match ns with
 |n::r=>match (h[0]?:Option Cell) with
  |some .code=>.ok (.f (.int (Yo w n r))) h
  |_=>.stuck
 |[]=>.stuck
mutual
@[simp] noncomputable def yO:Tg->MV->aF->Option aF
 |.nm i,v,σ=>some (σ.set i (some v))
 |.tp ts,v,σ=>(qk v).bind λvs=>YG ts vs σ
@[simp] noncomputable def YG:List Tg->List MV->aF->Option aF
 |[],[],σ=>some σ
 |t::ts,v::vs,σ=>(yO t v σ).bind λσ'=>YG ts vs σ'
 |_,_,_=>none
end
noncomputable abbrev qG:=List (Nat×List MV)
noncomputable def a6(g:qG)(h:MH):Prop:=∀ p∈g,Yd h p.1=some p.2
noncomputable def Zd(h:MH):MV->qG
 |.ref a=>match Yd h a with
  |some xs=>[(a,xs)]
  |none=>[]
 |_=>[]
noncomputable def F6(lo hi st:Int):Nat:=if lo<hi then((hi-lo-1)/st+1).toNat else 0
noncomputable def fP(it:String)(as:List MV)(h:MH):Option (List MV×qG):=match it,as with
 |"seq",[v]=>(Qb h v).map λxs=>(xs,Zd h v)
 |"range",[u]=>(zd u).bind λn=>if -(2^62)<=n/\n<2^62 then some ((Xd n.toNat).map λ(k:Nat)=>.f (.int k),[]) else none
 |"range",[u,v]=>(zd u).bind λa=>(zd v).bind λb=>if -(2^62)<=a/\a<2^62/\-(2^62)<=b/\b<2^62 then some ((Xd (b-a).toNat).map λ(k:Nat)=>.f (.int (a+k)),[]) else none
 |"range",[u,v,w]=>(zd u).bind λa=>(zd v).bind λb=>(zd w).bind λs=>if -(2^30)<=a/\a<2^30/\-(2^30)<=b/\b<2^30/\0<s/\s<2^30 then some ((Xd (F6 a b s)).map λ(k:Nat)=>.f (.int (a+k*s)),[]) else none
 |"zip",[u,v]=>(Qb h u).bind λxs=>(Qb h v).map λys=>((xs.zip ys).map λp=>Zi [p.1,p.2],Zd h u++Zd h v)
 |"keys",[.f (.tab kvs)]=>some (kvs.map λkv=>.f (.tup [.int kv.1.1,.int kv.1.2]),[])
 |"items",[.f (.tab kvs)]=>some (kvs.map λkv=>.f (.tup [.tup [.int kv.1.1,.int kv.1.2],.int kv.2]),[])
 |"enumerate",[v]=>(Qb h v).map λxs=>(xs.mapIdx λk x=>Zi [.f (.int k),x],Zd h v)
 |"enum1",[v]=>(Qb h v).map λxs=>(xs.mapIdx λk x=>Zi [.f (.int ((k+1:Nat):Int)),x],Zd h v)
 |_,_=>none
inductive RS where
 |next (σ:aF) (h:MH)|ret (v:MV) (h:MH)|brk (σ:aF) (h:MH)|cnt (σ:aF) (h:MH)|exc (c:String) (h:MH)|stuck
namespace RS
noncomputable def bind(r:RS)(k:aF->MH->RS):RD k RS:=match r with
 |.next σ h=>k σ h
 |.ret v h=>.ret v h
 |.brk σ h=>.brk σ h
 |.cnt σ h=>.cnt σ h
 |.exc c h=>.exc c h
 |.stuck=>.stuck
@[simp] theorem k8{σ:aF}{h:MH}{k:aF->MH->RS}:(RS.next σ h).bind k=k σ h:=id rfl
@[simp] theorem A6{v:MV}{h:MH}{k:aF->MH->RS}:(RS.ret v h).bind k=.ret v h:=id rfl
@[simp] theorem A8{σ:aF}{h:MH}{k:aF->MH->RS}:(RS.brk σ h).bind k=.brk σ h:=id rfl
@[simp] theorem A7{σ:aF}{h:MH}{k:aF->MH->RS}:(RS.cnt σ h).bind k=.cnt σ h:=id rfl
@[simp] theorem mn{c:String}{h:MH}{k:aF->MH->RS}:(RS.exc c h).bind k=.exc c h:=id rfl
@[simp] theorem kr{k:aF->MH->RS}:(RS.stuck).bind k=.stuck:=id rfl
noncomputable def turn(r:RS)(k:aF->MH->RS):RD k RS:=match r with
 |.next σ h=>k σ h
 |.cnt σ h=>k σ h
 |.brk σ h=>.next σ h
 |.ret v h=>.ret v h
 |.exc c h=>.exc c h
 |.stuck=>.stuck
@[simp] theorem jw{σ:aF}{h:MH}{k:aF->MH->RS}:(RS.next σ h).turn k=k σ h:=id rfl
@[simp] theorem sZ{σ:aF}{h:MH}{k:aF->MH->RS}:(RS.cnt σ h).turn k=k σ h:=id rfl
@[simp] theorem tj{σ:aF}{h:MH}{k:aF->MH->RS}:(RS.brk σ h).turn k=.next σ h:=id rfl
@[simp] theorem sX{v:MV}{h:MH}{k:aF->MH->RS}:(RS.ret v h).turn k=.ret v h:=id rfl
@[simp] theorem sY{c:String}{h:MH}{k:aF->MH->RS}:(RS.exc c h).turn k=.exc c h:=id rfl
@[simp] theorem Zdd{k:aF->MH->RS}:(RS.stuck).turn k=.stuck:=id rfl
end RS
noncomputable def RS.ko(k:String->MH->RS)(r:RS):RD k RS:=match r with
 |.exc c h=>k c h
 |r=>r
noncomputable def R.st{α:Type}(r:R α)(k:α->MH->RS):RD k RS:=match r with
 |.ok x h=>k x h
 |.exc c h=>.exc c h
 |.stuck=>.stuck
@[simp] theorem R.st_ok{α:Type}{x:α}{h:MH}{k:α->MH->RS}:(R.ok x h).st k=k x h:=id rfl
@[simp] theorem R.st_exc{α:Type}{c:String}{h:MH}{k:α->MH->RS}:(R.exc c h:R α).st k=.exc c h:=id rfl
@[simp] theorem R.st_stuck{α:Type}{k:α->MH->RS}:(R.stuck:R α).st k=.stuck:=id rfl
noncomputable def YC{α:Type}(o:Option α)(k:α->RS):RD k RS:=match o with
 |some x=>k x
 |none=>.stuck
@[simp] theorem Ks{α:Type}{x:α}{k:α->RS}:YC (some x) k=k x:=id rfl
@[simp] theorem zdr{α:Type}{k:α->RS}:YC none k=.stuck:=id rfl
open Classical in
noncomputable def qM(g:qG)(bd:MV->aF->MH->RS):List MV->aF->MH->RS
 |[],σ,h=>if a6 g h then .next σ h else .stuck
 |x::r,σ,h=>if a6 g h then(bd x σ h).turn λσ1 h1=>qM g bd r σ1 h1 else .stuck
open Classical in
noncomputable def Yl(g:qG)(bd:MV->aF->MH->R (Option MV×aF)):List MV->List MV->aF->MH->R (List MV)
 |[],acc,σ,h=>if a6 g h then .ok acc h else .stuck
 |x::r,acc,σ,h=>if a6 g h/\acc.length<aO then(bd x σ h).bind λp h1=>Yl g bd r (match p.1 with|some y=>acc++[y]|none=>acc) p.2 h1 else .stuck
noncomputable def stM(bV:Nat)(js:List Nat)(σ:aF):aF:=uc bV none++js.map λj=>(σ[j]?).join
noncomputable def YI(c:aF->MH->R MV)(bd:aF->MH->RS):Nat->aF->MH->RS
 |0,_,_=>.stuck
 |n+1,σ,h=>(c σ h).st λv h1=>YC (QI v) λb=>if b=true then(bd σ h1).turn λσ2 h2=>YI c bd n σ2 h2 else .next σ h1
noncomputable def calm{α:Type}(r:R α):R α:=match r with
 |.ok x h=>.ok x h
 |_=>.stuck
@[simp] theorem C7{α:Type}{x:α}{h:MH}:calm (R.ok x h)=.ok x h:=id rfl
noncomputable def Qp(tg:Tg)(ex:aF->MH->RS):MV->aF->MH->RS:=λx σ h=>YC (yO tg x σ) λσ2=>ex σ2 h
noncomputable def ql(tg:Tg)(tc:aF->MH->R Bool)(te:aF->MH->R MV):MV->aF->MH->R (Option MV×aF):=λx σ h =>
 opt (yO tg x σ) λσ2=>(calm (tc σ2 h)).bind λk h2=>if k=true then(calm (te σ2 h2)).bind λy h3=>.ok (some y,σ2) h3 else .ok (none,σ2) h2
noncomputable def i8:Cell->Prop
 |.lst xs=>∃ ys:List FV,xs=ys.map MV.f
 |.obj _ fs=>∃ ys:List (String×FV),fs=ys.map λp=>(p.1,MV.f p.2)
 |.iC _=>True
 |.tab _=>True
 |.cV _=>True
 |.code=>True
 |.dead=>True
noncomputable def bP(h h':MH):Prop:=h.length<=h'.length/\∀ i c,i<h.length->h'[i]?=some c->h[i]?=some c\/i8 c
open Classical in
noncomputable def Qg(h:MH)(v:MV)(h':MH):R MV:=if bP h h' then(match v with
 |.f x=>.ok (.f x) (h'.take h.length)
 |.ref a=>if h.length<=a then(match Yd h' a with
   |some xs=>match zj xs with
    |some _=>.ok (.ref h.length) (h'.take h.length++[.lst xs])
    |none=>.ok v h'
   |none=>.ok v h') else .ok v h'
 |v=>.ok v h') else .ok v h'
open Classical in
noncomputable def YY(h:MH)(c:String)(h':MH):R MV:=if bP h h' then .exc c (h'.take h.length) else .exc c h'
section
variable (P:Prog) (W:String->List MV->MH->R MV)
open Classical in
noncomputable def zD(fz:Bool)(c:String)(as:List MV)(h:MH):R MV :=
 (match P.meths c "__init__" with
  |some f=>W f (.ref h.length::as) (h++[Cell.obj c []])
  |none=>match as with | []=>R.ok (MV.f FV.bI) (h++[Cell.obj c []])|_=>.stuck).bind λv (h1:MH)=>if Yv v=false then .stuck else
 match fz with
 |true=>match h1[h.length]? with
  |some (Cell.obj c' fs)=>opt (zj (fs.map vn)) λvs=>if bP h h1 then R.ok (MV.f (FV.obj c' (fs.map Wt) vs)) (h1.take h.length) else .stuck
  |_=>.stuck
 |false=>R.ok (MV.ref h.length) h1
mutual
@[simp] noncomputable def ya:ME->aF->MH->R MV
 |.var i,σ,h=>opt ((σ[i]?).join) λv=>.ok v h
 |.cI i,_,h=>.ok (.f (.int i)) h
 |.cB b,_,h=>.ok (.f (.bl b)) h
 |.cN,_,h=>.ok (.f .bI) h
 |.cS s,_,h=>.ok (.f (.str s)) h
 |.glob x,_,h=>opt (P.dy x) λv=>.ok (.f v) h
 |.bin fz op a b,σ,h=>(ya a σ h).bind λx h1=>(ya b σ h1).bind λy h2=>Qd fz op x y h2
 |.neg a,σ,h=>(ya a σ h).bind λx h1=>opt (zd x) λi=>.ok (.f (.int (-i))) h1
 |.cmp op a b,σ,h=>(ya a σ h).bind λx h1=>(ya b σ h1).bind λy h2=>opt (ZF op x y h2) λb=>.ok (.f (.bl b)) h2
 |.chain op jG a b c,σ,h=>(ya a σ h).bind λx h1=>(ya b σ h1).bind λy h2=>opt (ZF op x y h2) λk =>
   if k=true then(ya c σ h2).bind λz h3=>opt (ZF jG y z h3) λk=>.ok (.f (.bl k)) h3 else .ok (.f (.bl false)) h2
 |.xN a,σ,h=>(ya a σ h).bind λx h1=>.ok (.f (.bl (Yv x))) h1
 |.nu a,σ,h=>(ya a σ h).bind λx h1=>.ok (.f (.bl (!Yv x))) h1
 |.and es,σ,h=>Zu es σ h
 |.or es,σ,h=>qC es σ h
 |.not a,σ,h=>(ya a σ h).bind λx h1=>opt (QI x) λk=>.ok (.f (.bl (!k))) h1
 |.ite c a b,σ,h=>(ya c σ h).bind λx h1=>opt (QI x) λk=>if k=true then ya a σ h1 else ya b σ h1
 |.tup es,σ,h=>(Qh es σ h).bind λxs h1=>.ok (Zi xs) h1
 |.lst fz es,σ,h=>(Qh es σ h).bind λxs h1=>Qt fz xs h1
 |.sub a i,σ,h=>(ya a σ h).bind λx h1=>(ya i σ h1).bind λy h2=>opt (Qb h2 x) λxs=>opt (zd y) λk=>opt (cW xs k) λv=>.ok v h2
 |.slice fz a lo hi,σ,h=>(ya a σ h).bind λx h1=>(Bf lo σ h1).bind λl h2=>(Bf hi σ h2).bind λu h3=>oI fz x l u h3
 |.fld a n,σ,h=>(ya a σ h).bind λx h1=>opt (lK P.iG n x h1) λv=>.ok v h1
 |.call f es,σ,h=>(Qh es σ h).bind λxs h1=>W f xs h1
 |.make fz c es,σ,h=>(Qh es σ h).bind λxs h1=>zD P W fz c xs h1
 |.kX o m es,σ,h=>(ya o σ h).bind λx h1=>opt (lN m x h1) λc=>opt (P.meths c m) λf=>(Qh es σ h1).bind λxs h2=>W f (x::xs) h2
 |.blt fz n es,σ,h=>(Qh es σ h).bind λxs h1=>Yr fz n xs h1
 |.kF a t,σ,h=>(ya a σ h).bind λx h1=>opt (kg P.subs h1 x t) λk=>.ok (.f (.bl k)) h1
 |.nh fz a,σ,h=>(ya a σ h).bind λx h1=>opt (listOf h1 x) λxs=>Qt fz xs.reverse h1
 |.ip a b,σ,h=>(ya a σ (h++[.iC []])).bind λx h1=>(ya b σ h1).bind λy h2=>ip h.length x y h2
 |.jS a,σ,h=>(ya a σ h).bind λx h1=>jS x h1
 |.nA,_,h=>.ok (.ref h.length) (h++[.cV []])
 |.Cp a,σ,h=>(ya a σ h).bind λx h1=>Dj x h1
 |.nv o e,σ,h=>(ya o σ h).bind λx h1=>opt (ZW h1 x) λ_=>(ya e σ h1).bind λy h2=>BC x y h2
 |.ny a d,σ,h=>(ya a σ h).bind λx h1=>(ya d σ h1).bind λy h2=>rq x y h2
 |.kD a b,σ,h=>(ya a σ h).bind λx h1=>(ya b σ h1).bind λy h2=>mS x y h2
 |.lm m o es,σ,h=>(ya o σ h).bind λx h1=>opt (Cv x h1) λ_=>(Qh es σ h1).bind λxs h2=>l6 m x xs h2
 |.comp fz elt tg it src cond bV js,σ,h=>(Qh src σ h).bind λxs h1=>opt (fP it xs h1) λp =>
   (Yl p.2 (ql tg (Bb cond) (ya elt)) p.1 [] (stM bV js σ) h1).bind λacc h3=>Qt fz acc h3
 |.e8 e,σ,h=>(ya e σ h).bind λx h1=>QM x h1
@[simp] noncomputable def Zu:List ME->aF->MH->R MV
 |[],_,_=>.stuck
 |[e],σ,h=>ya e σ h
 |e::e'::r,σ,h=>(ya e σ h).bind λx h1=>opt (QI x) λk=>if k=true then Zu (e'::r) σ h1 else .ok (.f (.bl false)) h1
@[simp] noncomputable def qC:List ME->aF->MH->R MV
 |[],_,_=>.stuck
 |[e],σ,h=>ya e σ h
 |e::e'::r,σ,h=>(ya e σ h).bind λx h1=>opt (QI x) λk=>if k=true then .ok (.f (.bl true)) h1 else qC (e'::r) σ h1
@[simp] noncomputable def Qh:List ME->aF->MH->R (List MV)
 |[],_,h=>.ok [] h
 |e::es,σ,h=>(ya e σ h).bind λx h1=>(Qh es σ h1).bind λxs h2=>.ok (x::xs) h2
@[simp] noncomputable def Bf:Option ME->aF->MH->R (Option Int)
 |none,_,h=>.ok none h
 |some e,σ,h=>(ya e σ h).bind λx h1=>opt (zd x) λi=>.ok (some i) h1
@[simp] noncomputable def Bb:Option ME->aF->MH->R Bool
 |none,_,h=>.ok true h
 |some e,σ,h=>(ya e σ h).bind λx h1=>opt (QI x) λk=>.ok k h1
end
mutual
@[simp] noncomputable def YA:MS->aF->MH->RS
 |.set tg e,σ,h=>(ya P W e σ h).st λv h1=>YC (yO tg v σ) λσ1=>.next σ1 h1
 |.fA o i e,σ,h=>(ya P W e σ h).st λv h1=>(ya P W o σ h1).st λx h2=>(ya P W i σ h2).st λy h3 =>
   match x with
   |.ref a=>YC (Yd h3 a) λxs=>YC (zd y) λk=>YC (jW xs.length k) λj=>.next σ (yf h3 a (xs.set j v))
   |_=>.stuck
 |.nq o k,σ,h=>(ya P W o σ h).st λx h1=>(ya P W k σ h1).st λy h2=>YC (zd y) λi=>match x with
  |.ref a=>YC (oE h2 (.ref a)) λks=>if ks.length<1000000 then .next σ (h2.set a (.iC (zA ks i))) else .stuck
  |_=>.stuck
 |.par i j a b,σ,h=>(Qh P W [a,b] σ h).st λxs h1=>match xs with
  |[v,w]=>.next ((σ.set i (some v)).set j (some w)) h1
  |_=>.stuck
 |.gi o n e,σ,h=>(ya P W e σ h).st λv h1=>(ya P W o σ h1).st λx h2=>match x with
   |.ref a=>match h2[a]? with
    |some (.obj c fs)=>if P.iG c n=true/\fs.length<100 then .next σ (h2.set a (.obj c (mU n v fs))) else .stuck
    |_=>.stuck
   |_=>.stuck
 |.expr e,σ,h=>(ya P W e σ h).st λ_ h1=>.next σ h1
 |.ret e,σ,h=>(ya P W e σ h).st λv h1=>.ret v h1
 |.ite c a b,σ,h=>(ya P W c σ h).st λv h1=>YC (QI v) λk=>if k=true then qa a σ h1 else qa b σ h1
 |.for_ tg it src body,σ,h=>(Qh P W src σ h).st λxs h1=>YC (fP it xs h1) λp =>
   qM p.2 (Qp tg (qa body)) p.1 σ h1
 |.while_ c body,σ,h=>YI (ya P W c) (qa body) P.turns σ h
 |.pass,σ,h=>.next σ h
 |.ic,_,_=>.stuck
 |.nJ i,σ,h=>YC ((σ[i]?).join) λv=>(QM v h).st λx h1=>.next (σ.set i (some x)) h1
noncomputable def qa:List MS->aF->MH->RS
 |[],σ,h=>.next σ h
 |s::r,σ,h=>(YA s σ h).bind (qa r)
end
end
noncomputable def yb(h:MH)(r:RS):R MV:=match r with
 |.next _ h'=>Qg h (.f .bI) h'
 |.ret v h'=>Qg h v h'
 |.exc c h'=>YY h c h'
 |_=>.stuck
noncomputable def run(P:Prog):Nat->String->List MV->MH->R MV
 |0,_,_,_=>.stuck
 |n+1,f,as,h=>opt (P.defs f) λd=>if as.length=d.np then yb h (qa P (run P n) d.body (as.map some++uc (d.ns-d.np) none) h) else .stuck
end MP
end
section
namespace MP
open PySem
noncomputable abbrev I(i:Int):MV:=.f (.int i)
noncomputable abbrev B(b:Bool):MV:=.f (.bl b)
@[simp] theorem LV{α:Type}(g:α->FV):∀ xs:List α,zj (xs.map λx=>MV.f (g x))=some (xs.map g)
 |[]=>rfl
 |x::r=>by simp[zj,LV g r]
@[simp] theorem ZO:∀ xs:List FV,zj (xs.map MV.f)=some xs
 |[]=>rfl
 |x::r=>by simp[zj,ZO r]
@[simp] theorem Qdt{α:Type}(g:α->FV)(xs:List α):zj (xs.map (MV.f∘g))=some (xs.map g):=LV g xs
@[simp] theorem ybG{α:Type}(g:α->Int):∀ xs:List α,Zg (xs.map λx=>MV.f (.int (g x)))=some (xs.map g)
 |[]=>rfl
 |x::r=>by simp[Zg,ybG g r]
@[simp] theorem qo:∀ xs:List Int,Zg (xs.map (MV.f∘FV.int))=some xs
 |[]=>rfl
 |x::r=>by
  show Option.map _ (Zg (r.map (MV.f∘FV.int)))=_;rw[qo r];rfl
@[simp] theorem Zb4{α:Type}(g:α->Bool):∀ xs:List α,zv (xs.map λx=>MV.f (.bl (g x)))=some (xs.map g)
 |[]=>rfl
 |x::r=>by simp[zv,Zb4 g r]
@[simp] theorem Zdn(xs:List FV):Zi (xs.map MV.f)=.f (.tup xs):=by simp[Zi]
@[simp] theorem K8{α:Type}(g:α->FV)(xs:List α):Zi (xs.map (MV.f∘g))=.f (.tup (xs.map g)):=by simp[Zi]
@[simp] theorem qdq{α:Type}(g:α->FV)(xs:List α):Zi (xs.map λx=>MV.f (g x))=.f (.tup (xs.map g)):=by simp[Zi]
@[simp] theorem ydt(x y:FV):Zi [.f x,.f y]=.f (.tup [x,y]):=rfl
@[simp] theorem Zdp:Zi []=.f (.tup []):=rfl
@[simp] theorem zdq(x:FV):Zi [.f x]=.f (.tup [x]):=rfl
@[simp] theorem Yg(xs:List FV)(h:MH):Qt true (xs.map MV.f) h=.ok (.f (.lst xs)) h:=by simp[Qt]
@[simp] theorem YaS{α:Type}(g:α->FV)(xs:List α)(h:MH):Qt true (xs.map (MV.f∘g)) h=.ok (.f (.lst (xs.map g))) h:=by simp[Qt]
@[simp] theorem YcE{α:Type}(g:α->FV)(xs:List α)(h:MH):Qt true (xs.map λx=>MV.f (g x)) h=.ok (.f (.lst (xs.map g))) h:=by simp[Qt]
@[simp] theorem ycE(h:MH):Qt true [] h=.ok (.f (.lst [])) h:=rfl
@[simp] theorem Zcz(x:FV)(r:List MV)(h:MH):Qt true (.f x::r) h=opt (zj r) λys=>.ok (.f (.lst (x::ys))) h:=by
 simp only[Qt,zj];cases zj r <;> rfl
@[simp] theorem Ew(xs:List MV)(h:MH):Qt false xs h=.ok (.ref h.length) (h++[.lst xs]):=rfl
@[simp] theorem Zc3(P:Prog)(W:String->List MV->MH->R MV)(σ:aF)(h:MH):qa P W [] σ h=.next σ h:=by simp only[qa]
@[simp] theorem qc1(P:Prog)(W:String->List MV->MH->R MV)(s:MS)(r:List MS)(σ:aF)(h:MH):qa P W (s::r) σ h=(YA P W s σ h).bind (qa P W r):=by simp only[qa]
section
variable {h:MH}
@[simp] theorem Ax(ok:String->String->Bool)(n c:String)(ns:List String)(vs:List FV):lK ok n (.f (.obj c ns vs)) h=if ok c n=true then(pZ n ns vs).map .f else none:=rfl
@[simp] theorem Cu(a:Nat):Cv (.ref a) h=Yd h a:=rfl
@[simp] theorem zb4:Yv (.f .bI)=true:=rfl
@[simp] theorem Ydr(s:Str):Yv (.f (.str s))=false:=rfl
@[simp] theorem Ydp(s:Int):Yv (.f (.int s))=false:=rfl
@[simp] theorem xM(s:Bool):Yv (.f (.bl s))=false:=rfl
@[simp] theorem qdo(s:List FV):Yv (.f (.tup s))=false:=rfl
@[simp] theorem zdp(s:List FV):Yv (.f (.lst s))=false:=rfl
@[simp] theorem Qds(c:String)(ns:List String)(s:List FV):Yv (.f (.obj c ns s))=false:=rfl
@[simp] theorem Zdt(s:Nat):Yv (.ref s)=false:=rfl
@[simp] theorem ydj(s:List MV):Yv (.tup s)=false:=rfl
@[simp] theorem Qdp(xs:List FV):Qb h (.f (.tup xs))=some (xs.map .f):=rfl
@[simp] theorem Zdu(xs:List FV):Qb h (.f (.lst xs))=some (xs.map .f):=rfl
@[simp] theorem Qdn(ns:List Int):Qb h (.f (.dm ns))=some (ns.map λi=>MV.f (.int i)):=rfl
@[simp] theorem zdo(ns:List Int):qk (.f (.dm ns))=none:=rfl
@[simp] theorem Yc5(xs:List MV):Qb h (.tup xs)=some xs:=rfl
@[simp] theorem ydr(a:Nat):Qb h (.ref a)=Yd h a:=rfl
@[simp] theorem tV(n:String)(v:MV):mU n v []=[(n,v)]:=rfl
@[simp] theorem Ydu(n k:String)(v x:MV)(r:List (String×MV)):mU n v ((k,x)::r)=if k=n then(k,v)::r else(k,x)::mU n v r:=rfl
@[simp] theorem zda(xs:List FV):listOf h (.f (.tup xs))=none:=rfl
@[simp] theorem yc9(xs:List FV):listOf h (.f (.lst xs))=some (xs.map .f):=rfl
@[simp] theorem Zde(a:Nat):listOf h (.ref a)=Yd h a:=rfl
@[simp] theorem zdu(xs:List FV):qk (.f (.tup xs))=some (xs.map .f):=rfl
@[simp] theorem Ydj(xs:List MV):qk (.tup xs)=some xs:=rfl
@[simp] theorem zdt(xs:List FV):qk (.f (.lst xs))=none:=rfl
@[simp] theorem ydp(a:Nat):qk (.ref a)=none:=rfl
@[simp] theorem yds(i:Int):zd (.f (.int i))=some i:=rfl
@[simp] theorem Ydq(xs:List FV):zd (.f (.tup xs))=none:=rfl
@[simp] theorem ydo(xs:List FV):zd (.f (.lst xs))=none:=rfl
@[simp] theorem Yds(a:Nat):zd (.ref a)=none:=rfl
@[simp] theorem C8(b:Bool):QI (.f (.bl b))=some b:=rfl
@[simp] theorem qdr(i j:Int):oJ .lt i j=some (decide (i<j)):=rfl
@[simp] theorem Qdo(i j:Int):oJ .le i j=some (decide (i<=j)):=rfl
@[simp] theorem Qdq(i j:Int):oJ .gt i j=some (decide (j<i)):=rfl
@[simp] theorem Zds(i j:Int):oJ .ge i j=some (decide (j<=i)):=rfl
@[simp] theorem Ir(x y:MV):ZF .lt x y h=(zd x).bind λi=>(zd y).bind λj=>some (decide (i<j)):=rfl
@[simp] theorem Iu(x y:MV):ZF .le x y h=(zd x).bind λi=>(zd y).bind λj=>some (decide (i<=j)):=rfl
@[simp] theorem cmp_gt(x y:MV):ZF .gt x y h=(zd x).bind λi=>(zd y).bind λj=>some (decide (j<i)):=rfl
@[simp] theorem Iw(x y:MV):ZF .ge x y h=(zd x).bind λi=>(zd y).bind λj=>some (decide (j<=i)):=rfl
@[simp] theorem Zdm(x:FV):zP h (.f x)=some x:=rfl
@[simp] theorem AX(x y:FV):ZF .eq (.f x) (.f y) h=lH x y:=rfl
@[simp] theorem AW(x y:FV):ZF .ne (.f x) (.f y) h=(lH x y).map (!·):=rfl
@[simp] theorem CH(n:Nat):cj (n+1) .bI=true:=rfl
@[simp] theorem G3(n:Nat)(b:Bool):cj (n+1) (.bl b)=true:=rfl
@[simp] theorem CJ(n:Nat)(i:Int):cj (n+1) (.int i)=true:=rfl
@[simp] theorem CG(n:Nat)(s:Str):cj (n+1) (.str s)=rG s:=rfl
@[simp] theorem CF(n:Nat)(xs:List FV):cj (n+1) (.tup xs)=xs.all (cj n):=rfl
@[simp] theorem CI(n:Nat)(xs:List FV):cj (n+1) (.lst xs)=xs.all (cj n):=rfl
@[simp] theorem C6(i j:Int):fR (.int i) (.int j)=(i==j):=by simp[fR]
@[simp] theorem C4(i j:Str):fR (.str i) (.str j)=(i==j):=by simp[fR]
@[simp] theorem C3(xs ys:List FV):fR (.tup xs) (.tup ys)=mL xs ys:=by simp[fR]
@[simp] theorem C5(xs ys:List FV):fR (.lst xs) (.lst ys)=mL xs ys:=by simp[fR]
@[simp] theorem C2(i j:Int):lH (.int i) (.int j)=some (i==j):=by simp[lH]
theorem ZcG(i j:Str)(a:rG i=true)(b:rG j=true):lH (.str i) (.str j)=some (i==j):=by simp[lH,a,b]
@[simp] theorem C'(fz:Bool)(i j:Int):Qd fz .add (.f (.int i)) (.f (.int j)) h=.ok (.f (.int (i+j))) h:=rfl
@[simp] theorem C9(fz:Bool)(i j:Int):Qd fz .sub (.f (.int i)) (.f (.int j)) h=.ok (.f (.int (i-j))) h:=rfl
theorem ym(fz:Bool)(i j:Int)(c:qD i j):Qd fz .mul (.f (.int i)) (.f (.int j)) h=.ok (.f (.int (i*j))) h:=by simp[Qd,yM,c]
theorem Zf(fz:Bool)(i j:Int)(c:sL i j):Qd fz .fdiv (.f (.int i)) (.f (.int j)) h=.ok (.f (.int (i/j))) h:=by simp[Qd,yM,c]
theorem Ze(fz:Bool)(i j:Int)(c:0<j):Qd fz .mod (.f (.int i)) (.f (.int j)) h=.ok (.f (.int (i%j))) h:=by simp[Qd,yM,c]
theorem IF(fz:Bool)(i j:Int)(c:0<=j/\j<=1000000/\i.natAbs<2^64):Qd fz .pow (.f (.int i)) (.f (.int j)) h=.ok (.f (.int (i^j.toNat))) h:=by simp[Qd,yM,c]
@[simp] theorem A3(fz:Bool)(v:MV):Yr fz "len" [v] h=opt (Qb h v) λxs=>.ok (.f (.int xs.length)) h:=rfl
@[simp] theorem A2(fz:Bool)(v:MV):Yr fz "sum" [v] h=opt ((Qb h v).bind Zg) λxs=>.ok (.f (.int xs.sum)) h:=rfl
@[simp] theorem A4(fz:Bool)(v:MV):Yr fz "all" [v] h=opt ((Qb h v).bind zv) λxs=>.ok (.f (.bl (xs.all id))) h:=rfl
@[simp] theorem QbP(fz:Bool)(v:MV):Yr fz "tuple" [v] h=opt (Qb h v) λxs=>.ok (Zi xs) h:=rfl
@[simp] theorem Ydo(fz:Bool)(v:MV):Yr fz "list" [v] h=opt (Qb h v) λxs=>Qt fz xs h:=rfl
@[simp] theorem Ydt(fz:Bool)(i j:Int):Yr fz "min" [.f (.int i),.f (.int j)] h=.ok (.f (.int (if j<i then j else i))) h:=rfl
@[simp] theorem Zdq(fz:Bool)(i j:Int):Yr fz "max" [.f (.int i),.f (.int j)] h=.ok (.f (.int (if j>i then j else i))) h:=rfl
@[simp] theorem A5(fz:Bool)(i:Int):Yr fz "abs" [.f (.int i)] h=.ok (.f (.int (if i<0 then -i else i))) h:=rfl
@[simp] theorem Zdo(fz:Bool)(i:Int):Yr fz "int" [.f (.int i)] h=.ok (.f (.int i)) h:=rfl
@[simp] theorem qds(fz:Bool)(b:Bool):Yr fz "int" [.f (.bl b)] h=.ok (.f (.int (if b then 1 else 0))) h:=rfl
end
@[simp] theorem Cz{α:Type}(c:Prop) [Decidable c] (x y:α)(h:MH):(if c then R.ok x h else R.ok y h)=R.ok (if c then x else y) h:=by split <;> rfl
@[simp] theorem Mo(c:Prop) [Decidable c] (x y:FV):(if c then MV.f x else MV.f y)=MV.f (if c then x else y):=by split <;> rfl
@[simp] theorem G1(c:Prop) [Decidable c] (x y:Bool):(if c then FV.bl x else FV.bl y)=FV.bl (if c then x else y):=by split <;> rfl
@[simp] theorem ite_int(c:Prop) [Decidable c] (x y:Int):(if c then FV.int x else FV.int y)=FV.int (if c then x else y):=by split <;> rfl
theorem Qy(xs:List MV)(k:Nat):cW xs (k:Int)=xs[k]?:=by
 unfold cW jW;by_cases h:k<xs.length
 ·simp[h]
 ·simp[h]
theorem zK(xs:List MV)(i:Int)(h:0<=i):cW xs i=xs[i.toNat]?:=by
 have:=Qy xs i.toNat
 rwa [Int.toNat_of_nonneg h] at this
@[simp] theorem A9(x:MV)(xs:List MV):cW (x::xs) 0=some x:=by have:=Qy (x::xs) 0;simpa using this
@[simp] theorem Dd(x y:MV)(xs:List MV):cW (x::y::xs) 1=some y:=by have:=Qy (x::y::xs) 1;simpa using this
@[simp] theorem Dc(x y z:MV)(xs:List MV):cW (x::y::z::xs) 2=some z:=by have:=Qy (x::y::z::xs) 2;simpa using this
noncomputable def sq(b:Bool)(xs:List FV):FV:=if b=true then .tup xs else .lst xs
@[simp] theorem tX(h:MH)(b:Bool)(xs:List FV):Qb h (.f (sq b xs))=some (xs.map .f):=by cases b <;> rfl
@[simp] theorem yc6(h:MH)(b:Bool)(xs:List FV):Zd h (.f (sq b xs))=[]:=rfl
noncomputable def sH:List Int->Int
 |[]=>0
 |x::r=>mI x r
noncomputable def Zx:List Int->Int
 |[]=>0
 |x::r=>mR x r
theorem El:∀(r:List Int)(m:Int),mI m r<=m/\∀ v∈r,mI m r<=v
 |[],m=>⟨xz _,λv hv=>by simp at hv⟩
 |x::r,m=>by
  obtain⟨a,b⟩:=El r (if x<m then x else m);simp only[mI];refine⟨by split at a <;> rename_i hc <;> simp only[hc,if_true,if_false] <;> lia,λv hv=>?_⟩
  rcases ua.mp hv with rfl|hv
  ·split at a <;> rename_i hc <;> simp only[hc,if_true,if_false] <;> lia
  ·exact b v hv
theorem OC:∀(r:List Int)(m:Int),mI m r=m\/mI m r∈r
 |[],m=>.inl rfl
 |x::r,m=>by
  simp only[mI]
  rcases OC r (if x<m then x else m) with e|e
  ·rw[e];split
   ·exact .inr (by simp)
   ·exact .inl rfl
  ·exact .inr (by simp[e])
theorem DU:∀(r:List Int)(m:Int),m<=mR m r/\∀ v∈r,v<=mR m r
 |[],m=>⟨xz _,λv hv=>by simp at hv⟩
 |x::r,m=>by
  obtain⟨a,b⟩:=DU r (if x>m then x else m);simp only[mR];refine⟨by split at a <;> rename_i hc <;> simp only[hc,if_true,if_false] <;> lia,λv hv=>?_⟩
  rcases ua.mp hv with rfl|hv
  ·split at a <;> rename_i hc <;> simp only[hc,if_true,if_false] <;> lia
  ·exact b v hv
theorem Kh:∀(r:List Int)(m:Int),mR m r=m\/mR m r∈r
 |[],m=>.inl rfl
 |x::r,m=>by
  simp only[mR]
  rcases Kh r (if x>m then x else m) with e|e
  ·rw[e];split
   ·exact .inr (by simp)
   ·exact .inl rfl
  ·exact .inr (by simp[e])
theorem Ex{r:List Int}(h:r≠[]):sH r∈r:=by
 cases r with
 |nil=>exact absurd rfl h
 |cons x r=>rcases OC r x with e|e <;> simp[sH,e]
theorem IV{r:List Int}(h:r≠[]):Zx r∈r:=by
 cases r with
 |nil=>exact absurd rfl h
 |cons x r=>rcases Kh r x with e|e <;> simp[Zx,e]
theorem QcS{r:List Int}{v:Int}(h:v∈r):sH r<=v:=by
 cases r with
 |nil=>simp at h
 |cons x r =>
  rcases ua.mp h with rfl|h
  ·exact(El r v).1
  ·exact(El r x).2 v h
theorem Gq{r:List Int}{v:Int}(h:v∈r):v<=Zx r:=by
 cases r with
 |nil=>simp at h
 |cons x r =>
  rcases ua.mp h with rfl|h
  ·exact(DU r v).1
  ·exact(DU r x).2 v h
theorem OD(fz:Bool)(h:MH)(v:MV)(ns:List Int)(e:(Qb h v).bind Zg=some ns)(ne:ns≠[]):Yr fz "min" [v] h=.ok (I (sH ns)) h:=by
 cases ns with
 |nil=>exact absurd rfl ne
 |cons x r=>show opt ((Qb h v).bind Zg) _=_;rw[e];rfl
theorem JR(fz:Bool)(h:MH)(v:MV)(ns:List Int)(e:(Qb h v).bind Zg=some ns)(ne:ns≠[]):Yr fz "max" [v] h=.ok (I (Zx ns)) h:=by
 cases ns with
 |nil=>exact absurd rfl ne
 |cons x r=>show opt ((Qb h v).bind Zg) _=_;rw[e];rfl
theorem yk(h t:MH)(xs:List MV):Yd (h++.lst xs::t) h.length=some xs:=by simp[Yd]
theorem QbM{h t:MH}{a:Nat}{xs:List MV}(e:Yd h a=some xs):Yd (h++t) a=some xs:=by
 unfold Yd at *;cases q:h[a]? with
 |none=>rw[q] at e;cases e
 |some c=>rw[va (Xa.mp q).1,q];rw[q] at e;exact e
theorem yA(h t:MH)(xs ys:List MV):yf (h++.lst xs::t) h.length ys=h++.lst ys::t:=by simp[yf]
theorem sM(h:MH)(n:Nat):∀ xs:List FV,(xs.map MV.f).mapM (Zo h (n+1))=some xs
 |[]=>rfl
 |x::r=>by simp[Vo,sM h n r,Zo]
theorem ZbS(h:MH)(n:Nat):∀ xs:List FV,(xs.map MV.f).flatMap (Qm h (n+1))=[]
 |[]=>rfl
 |x::r=>by simp[Qm]
theorem D7(h t:MH)(as:List Nat)(ha:∀ a∈as,h.length<=a):∃ t',kill as (h++t)=h++t':=by
 refine⟨(t.mapIdx λi c=>if i+h.length∈as then .dead else c),?_⟩;unfold kill;rw[List.mapIdx_append]
 congr 1
 ·refine vh λi=>?_;rw[xl];cases q:h[i]? with
  |none=>rfl
  |some c =>
   have hi:=(Xa.mp q).1;have:i∉as:=λz=>by have:=ha i z;lia
   simp[this]
theorem D'(h:MH)(a:Nat)(xs:List FV)(e:Yd h a=some (xs.map .f)):QM (.ref a) h=.ok (.f (.lst xs)) (kill [a] h):=by
 simp only[QM,zP,Zo,e,xh,sM,wg,yd,Qm,xm,ZbS]
theorem Jg(h t:MH)(xs:List FV):∃ t',QM (.ref h.length) (h++.lst (xs.map .f)::t)=.ok (.f (.lst xs)) (h++t'):=by
 obtain⟨t',e⟩:=D7 h (.lst (xs.map .f)::t) [h.length] (by simp);exact⟨t',by rw[D' _ _ xs (yk h t _),e]⟩
@[simp] theorem MU(h:MH)(x:FV):QM (.f x) h=.ok (.f x) h:=by
 have:kill [] h=h:=by unfold kill;refine vh λi=>?_;rw[xl];cases h[i]? <;> rfl
 simp[QM,zP,Zo,Qm,this]
@[simp] theorem zdb(k:String->MH->RS)(c:String)(h:MH):RS.ko k (.exc c h)=k c h:=id rfl
@[simp] theorem yc0(k:String->MH->RS)(σ:aF)(h:MH):RS.ko k (.next σ h)=.next σ h:=id rfl
@[simp] theorem ydc(k:String->MH->RS)(v:MV)(h:MH):RS.ko k (.ret v h)=.ret v h:=id rfl
theorem bP.refl(h:MH):bP h h:=⟨wb _,λi c _ e=>.inl e⟩
theorem bP.app(h t:MH):bP h (h++t):=⟨by simp,λi c hi e=>.inl (by rw[va hi] at e;exact e)⟩
theorem bP.cons{c c':Cell}{h h':MH}(t:bP h h')(e:c'=c\/i8 c'):bP (c::h) (c'::h'):=by
 refine⟨by have:=t.1;simp;lia,λi d hi q=>?_⟩;cases i with
 |zero =>
  simp at q;subst q;rcases e with e|e
  ·left;simp[e]
  ·exact .inr e
 |succ i=>simp at q hi ⊢;exact t.2 i d hi q
@[simp] theorem yc3(h:MH)(x:FV):Qg h (.f x) h=.ok (.f x) h:=by simp[Qg,bP.refl]
@[simp] theorem Qdr(h t:MH)(x:FV):Qg h (.f x) (h++t)=.ok (.f x) h:=by simp[Qg,bP.app]
@[simp] theorem wU(h:MH)(k k':Int)(x:FV):Qg (.lst [I k]::h) (.f x) (.lst [I k']::h)=.ok (.f x) (.lst [I k']::h):=by
 simp[Qg,bP.cons (bP.refl h) (.inr ⟨[.int k'],rfl⟩:Cell.lst [I k']=Cell.lst [I k]\/i8 (.lst [I k']))]
@[simp] theorem ZcF(h t:MH)(k k':Int)(x:FV):Qg (.lst [I k]::h) (.f x) (.lst [I k']::(h++t))=.ok (.f x) (.lst [I k']::h):=by
 simp[Qg,bP.cons (bP.app h t) (.inr ⟨[.int k'],rfl⟩:Cell.lst [I k']=Cell.lst [I k]\/i8 (.lst [I k']))]
@[simp] theorem ZcZ(h:MH)(c:String):YY h c h=.exc c h:=by simp[YY,bP.refl]
@[simp] theorem yc5(h t:MH)(c:String):YY h c (h++t)=.exc c h:=by simp[YY,bP.app]
@[simp] theorem ZcY(h:MH)(σ:aF)(h':MH):yb h (.next σ h')=Qg h (.f .bI) h':=id rfl
@[simp] theorem qc8(h:MH)(v:MV)(h':MH):yb h (.ret v h')=Qg h v h':=id rfl
@[simp] theorem ydn(h:MH)(c:String)(h':MH):yb h (.exc c h')=YY h c h':=id rfl
@[simp] theorem YJ(h:MH):a6 [] h:=λp hp=>by simp at hp
@[simp] theorem Zdr(h:MH)(x:FV):Zd h (.f x)=[]:=rfl
@[simp] theorem zc0(h:MH)(x:List MV):Zd h (.tup x)=[]:=rfl
theorem Gz(bd:MV->aF->MH->RS)(x:MV)(r:List MV)(σ:aF)(h:MH):qM [] bd (x::r) σ h=(bd x σ h).turn λσ1 h1=>qM [] bd r σ1 h1:=by simp[qM]
@[simp] theorem CC(h:MH)(v:MV):fP "seq" [v] h=(Qb h v).map λxs=>(xs,Zd h v):=rfl
theorem zm(h:MH)(n:Int)(c:-(2^62)<=n/\n<2^62):fP "range" [.f (.int n)] h=some ((Xd n.toNat).map λ(k:Nat)=>I k,[]):=if_pos c
@[simp] theorem CB(h:MH)(u v:MV):fP "zip" [u,v] h=(Qb h u).bind λxs=>(Qb h v).map λys=>((xs.zip ys).map λp=>Zi [p.1,p.2],Zd h u++Zd h v):=rfl
@[simp] theorem xK(h:MH)(v:MV):fP "enumerate" [v] h=(Qb h v).map λxs=>(xs.mapIdx λk x=>Zi [.f (.int k),x],Zd h v):=rfl
@[simp] theorem Zc5(n:Nat):(((n:Int)+1=0)=False):=eq_false (by lia)
@[simp] theorem Yc1(n:Nat):(((n:Int)+1==0)=false):=beq_false_of_ne (by lia)
theorem ZG{α:Type}{bd:MV->aF->MH->R (Option MV×aF)}{h:MH}{e g:α->MV}{caps:aF}:∀(ys:List α)(acc:List MV)(z:Option MV),acc.length+ys.length<=aO ->
  (∀ y∈ys,∀ z,∃ z',bd (e y) (z::caps) h=.ok (some (g y),z'::caps) h)->Yl [] bd (ys.map e) acc (z::caps) h=.ok (acc++ys.map g) h
 |[],acc,z,_,_=>by simp[Yl]
 |y::r,acc,z,hl,hb=>by
  obtain⟨z',e'⟩:=hb y (by simp) z;simp only[ud] at hl;have:=ZG (bd:=bd) (h:=h) (e:=e) (g:=g) (caps:=caps) r (acc++[g y]) z' (by simp;lia) (λy hy z=>hb y (by simp[hy]) z);simp[Yl,e',this]
  lia
theorem yq{α:Type}{bd:MV->aF->MH->R (Option MV×aF)}{h:MH}{e g:α->MV}{caps:aF}:∀(ys:List α)(acc:List MV)(z w:Option MV),acc.length+ys.length<=aO ->
  (∀ y∈ys,∀ z w,∃ z' w',bd (e y) (z::w::caps) h=.ok (some (g y),z'::w'::caps) h)->Yl [] bd (ys.map e) acc (z::w::caps) h=.ok (acc++ys.map g) h
 |[],acc,z,w,_,_=>by simp[Yl]
 |y::r,acc,z,w,hl,hb=>by
  obtain⟨z',w',e'⟩:=hb y (by simp) z w;simp only[ud] at hl;have:=yq (bd:=bd) (h:=h) (e:=e) (g:=g) (caps:=caps) r (acc++[g y]) z' w' (by simp;lia) (λy hy z=>hb y (by simp[hy]) z);simp[Yl,e',this]
  lia
theorem BR{α β:Type}{bd:MV->aF->MH->RS}{e:α->MV}{st:β->aF}{hp:β->MH}{f:β->α->β}:∀(ys:List α)(b:β),
  (∀ y∈ys,∀ b,bd (e y) (st b) (hp b)=.next (st (f b y)) (hp (f b y)))->qM [] bd (ys.map e) (st b) (hp b)=.next (st (ys.foldl f b)) (hp (ys.foldl f b))
 |[],b,_=>by simp[qM]
 |y::r,b,hb=>by
  simp only[Wb,Gz,hb y (by simp) b,RS.jw,Vl];exact BR r (f b y) λy hy b=>hb y (by simp[hy]) b
theorem ND{α β:Type}{bd:MV->aF->MH->RS}{e:α->MV}{st:β->aF}{hp:β->MH}{f:β->α->β}(Pb:β->Prop):∀(ys:List α)(b:β),Pb b ->
  (∀ y∈ys,∀ b,Pb b->bd (e y) (st b) (hp b)=.next (st (f b y)) (hp (f b y))/\Pb (f b y))->qM [] bd (ys.map e) (st b) (hp b)=.next (st (ys.foldl f b)) (hp (ys.foldl f b))/\Pb (ys.foldl f b)
 |[],b,p,_=>⟨by simp[qM],p⟩
 |y::r,b,p,hb=>by
  obtain⟨e1,p1⟩:=hb y (by simp) b p;simp only[Wb,Gz,e1,RS.jw,Vl];exact ND Pb r (f b y) p1 λy hy b=>hb y (by simp[hy]) b
theorem Ez{α:Type}{bd:MV->aF->MH->RS}{e:α->MV}(Pv:Nat->aF->MH->Prop):∀(ys:List α)(i:Nat)(σ:aF)(h:MH),Pv i σ h ->
  (∀ j y σ h,ys[j]?=some y->Pv (i+j) σ h->∃ σ' h',bd (e y) σ h=.next σ' h'/\Pv (i+j+1) σ' h')->∃ σ' h',qM [] bd (ys.map e) σ h=.next σ' h'/\Pv (i+ys.length) σ' h'
 |[],i,σ,h,p,_=>⟨σ,h,by simp[qM],p⟩
 |y::r,i,σ,h,p,hb=>by
  obtain⟨σ1,h1,e1,p1⟩:=hb 0 y σ h rfl p;obtain⟨σ2,h2,e2,p2⟩:=Ez (bd:=bd) (e:=e) Pv r (i+1) σ1 h1 p1 (λj y σ h hj pj=>by
   have:=hb (j+1) y σ h (by simpa using hj) (by rw[show i+(j+1)=i+1+j by lia];exact pj)
   rwa [show i+(j+1)+1=i+1+j+1 by lia] at this)
  refine⟨σ2,h2,by simp[Gz,e1,e2],?_⟩
  rwa [show i+(y::r).length=i+1+r.length by simp;lia]
end MP
end
section
namespace SD
open PySem PySem.Spec PyProof.Rows L2 L3 M3 MP
structure Tx where
 adr:String->ae
 K:PySem.W.Frag
 cd:ae:=0
 tb:ae:=0
 lp:Pos:=⟨0,0,0,0⟩
 lq:Str:=Str.ofString ""
instance:CoeFun Tx (λ_=>String->ae):=⟨Tx.adr⟩
noncomputable def Bi(K:PySem.W.Frag)(a:ae)(ns:List Int):Prop:=∃(o:Obj)(aA:Array aa)(n:Nat),K.lookup a=some o/\o.cls=.type "list"/\o.dict=none/\o.data=.seq aA n/\aA.size<=sizeLine/\Vals (ns.map V.int) aA.toList
noncomputable def bc(μ:List ae)(h:MH)(b:ae):Prop:=∃(i:Nat)(c:Cell),μ[i]?=some b/\h[i]?=some c/\c≠Cell.dead
section
variable (ct:Tx)
mutual
noncomputable def RF(L:ae->Prop)(H:Hp):FV->V->Prop
 |.bI,v=>v=.bI
 |.bl b,v=>v=.bl b
 |.int i,v=>v=.int i
 |.str x,v=>v=.str x
 |.tup xs,v=>∃ a vs,v=.ref a/\¬ L a/\H a=some (.tup vs)/\fb L H xs vs
 |.lst xs,v=>∃ a vs,v=.ref a/\¬ L a/\Rd H a (.lst vs)/\fb L H xs vs
 |.obj c ns xs,v=>∃ a dx fs,v=.ref a/\¬ L a/\H a=some (.ins (ct c) dx fs)/\fs.map Wt=ns.map Str.ofString/\fb L H xs (fs.map vn)
 |.tab kvs,v=>∃ a o,v=.ref a/\¬ L a/\H a=some (.e8 o (.dT (kvs.map λkv=>([(Sum.inl kv.1.1:Key),Sum.inl kv.1.2],V.int kv.2))))
 |.cV ks,v=>∃ a o,v=.ref a/\¬ L a/\H a=some (.e8 o (.dT (ks.map λk=>([(Sum.inl k.1:Key),Sum.inl k.2],V.bl true))))
 |.dm ns,v=>∃ a,v=.ref a/\((¬ L a/\∃ o,H a=some (.e8 o (.lst (ns.map V.int))))\/Bi ct.K a ns)
noncomputable def fb(L:ae->Prop)(H:Hp):List FV->List V->Prop
 |[],vs=>vs=[]
 |x::xs,vs=>∃ v r,vs=v::r/\RF L H x v/\fb L H xs r
end
mutual
noncomputable def RV(μ:List ae)(L:ae->Prop)(H:Hp):MV->V->Prop
 |.f x,v=>RF ct L H x v
 |.ref i,v=>∃ b,μ[i]?=some b/\v=.ref b
 |.tup xs,v=>∃ a vs,v=.ref a/\¬ L a/\H a=some (.tup vs)/\aC μ L H xs vs
 |.exc c,v=>∃ a,v=.ref a/\¬ L a/\H a=some (.ext (Ie (ct c) a))
noncomputable def aC(μ:List ae)(L:ae->Prop)(H:Hp):List MV->List V->Prop
 |[],vs=>vs=[]
 |x::xs,vs=>∃ v r,vs=v::r/\RV μ L H x v/\aC μ L H xs r
end
noncomputable def bL(μ:List ae)(L:ae->Prop)(H:Hp)(b:ae):Cell->Prop
 |.lst xs=>∃ vs,H b=some (.lst vs)/\aC ct μ L H xs vs
 |.obj c fs=>∃ dx gs,H b=some (.ins (ct c) dx gs)/\gs.map Wt=fs.map (λp=>Str.ofString p.1)/\aC ct μ L H (fs.map vn) (gs.map vn)
 |.iC ks=>H b=some (.dK (ks.map λk=>((Sum.inl k:Key),V.bl true)))
 |.tab kvs=>H b=some (.dT (kvs.map λkv=>([(Sum.inl kv.1.1:Key),Sum.inl kv.1.2],V.int kv.2)))
 |.cV ks=>H b=some (.dT (ks.map λk=>([(Sum.inl k.1:Key),Sum.inl k.2],V.bl true)))
 |.code=>b=ct.tb/\(H b=some (.ext (QK b ct.lp none))\/∃ c',c'≠b/\¬ L c'/\H b=some (.ext (QK b ct.lp (some c')))/\H c'=some (.ext (mC c' ct.lq)))
 |.dead=>True
structure Rel (μ:List ae) (h:MH) (H:Hp):Prop where
 len:μ.length=h.length
 nd:μ.Nodup
 has:∀ b∈μ,∃ o,H b=some o
 cells:∀(i:Nat)(b:ae)(c:Cell),μ[i]?=some b->h[i]?=some c->bL ct μ (bc μ h) H b c
end
structure Ext (μ:List ae) (h:MH) (H:Hp) (μ':List ae) (h':MH) (H':Hp):Prop where
 pre:∃ ν,μ'=μ++ν
 keep:∀ b o,H b=some o->¬ bc μ h b->H' b=some o
 jV:∀ b,bc μ' h' b->bc μ h b\/H b=none
theorem Ext.refl(μ:List ae)(h:MH)(H:Hp):Ext μ h H μ h H:=⟨⟨[],by simp⟩,λ_ _ e _=>e,λ_ l=>.inl l⟩
theorem Ext.trans{μ μ1 μ2:List ae}{h h1 h2:MH}{H H1 H2:Hp}(a:Ext μ h H μ1 h1 H1)(b:Ext μ1 h1 H1 μ2 h2 H2):Ext μ h H μ2 h2 H2:=by
 obtain⟨ν,e⟩:=a.pre;obtain⟨ν',e'⟩:=b.pre;refine⟨⟨ν++ν',by rw[e',e,uh]⟩,λc o q n=>?_,λc l=>?_⟩
 ·refine b.keep c o (a.keep c o q n) λl=>?_
  rcases a.jV c l with z|z
  ·exact n z
  ·rw[q] at z;cases z
 ·rcases b.jV c l with z|z
  ·exact a.jV c z
  ·by_cases n:bc μ h c
   ·exact .inl n
   ·cases q:H c with
    |none=>exact .inr rfl
    |some o=>rw[a.keep c o q n] at z;cases z
theorem Rd.keep{H H':Hp}{a:ae}{u:HO}(k:∀ o,H a=some o->H' a=some o)(r:Rd H a u):Rd H' a u:=r.elim (λe=>.inl (k _ e)) λ⟨o,e⟩=>.inr ⟨o,k _ e⟩
theorem Rd.some{H:Hp}{a:ae}{u:HO}(r:Rd H a u):∃ o,H a=some o:=r.elim (λe=>⟨_,e⟩) λ⟨_,e⟩=>⟨_,e⟩
section
variable {ct:Tx}
structure Let (L:ae->Prop) (H:Hp) (L':ae->Prop) (H':Hp):Prop where
 keep:∀ b o,H b=some o->¬ L b->H' b=some o
 jV:∀ b o,H b=some o->¬ L b->¬ L' b
theorem Ext.let{μ μ':List ae}{h h':MH}{H H':Hp}(e:Ext μ h H μ' h' H'):Let (bc μ h) H (bc μ' h') H' :=
 ⟨e.keep,λb o q n l=>(e.jV b l).elim n λz=>by rw[q] at z;cases z⟩
mutual
theorem RF.to{L L':ae->Prop}{H H':Hp}(l:Let L H L' H'):∀{x:FV}{v:V},RF ct L H x v->RF ct L' H' x v
 |.bI,_,r=>by simpa only[RF] using r
 |.bl _,_,r=>by simpa only[RF] using r
 |.int _,_,r=>by simpa only[RF] using r
 |.str _,_,r=>by simpa only[RF] using r
 |.tup xs,v,r=>by
  simp only[RF] at r ⊢;obtain⟨a,vs,e,n,rd,q⟩:=r;exact⟨a,vs,e,l.jV a _ rd n,l.keep a _ rd n,fb.to l q⟩
 |.lst xs,v,r=>by
  simp only[RF] at r ⊢;obtain⟨a,vs,e,n,rd,q⟩:=r;obtain⟨o,ho⟩:=Rd.some rd;exact⟨a,vs,e,l.jV a o ho n,Rd.keep (λo e=>l.keep a o e n) rd,fb.to l q⟩
 |.obj c ns xs,v,r=>by
  simp only[RF] at r ⊢;obtain⟨a,dx,fs,e,n,ho,q1,q⟩:=r;exact⟨a,dx,fs,e,l.jV a _ ho n,l.keep a _ ho n,q1,fb.to l q⟩
 |.tab kvs,v,r=>by
  simp only[RF] at r ⊢;obtain⟨a,o,e,n,q⟩:=r;exact⟨a,o,e,l.jV a _ q n,l.keep a _ q n⟩
 |.cV ks,v,r=>by
  simp only[RF] at r ⊢;obtain⟨a,o,e,n,q⟩:=r;exact⟨a,o,e,l.jV a _ q n,l.keep a _ q n⟩
 |.dm ns,v,r=>by
  simp only[RF] at r ⊢;obtain⟨a,e,q⟩:=r;exact⟨a,e,q.imp (λ⟨n,o,h⟩=>⟨l.jV a _ h n,o,l.keep a _ h n⟩) id⟩
theorem fb.to{L L':ae->Prop}{H H':Hp}(l:Let L H L' H'):∀{xs:List FV}{vs:List V},fb ct L H xs vs->fb ct L' H' xs vs
 |[],_,r=>by simpa only[fb] using r
 |x::xs,vs,r=>by
  simp only[fb] at r ⊢;obtain⟨v,t,e,q1,q2⟩:=r;exact⟨v,t,e,RF.to l q1,fb.to l q2⟩
end
mutual
theorem RV.to{μ ν:List ae}{L L':ae->Prop}{H H':Hp}(l:Let L H L' H'):∀{x:MV}{v:V},RV ct μ L H x v->RV ct (μ++ν) L' H' x v
 |.f x,v,r=>by simp only[RV] at r ⊢;exact RF.to l r
 |.ref i,v,r=>by
  simp only[RV] at r ⊢;obtain⟨b,e,q⟩:=r;exact⟨b,by rw[va (Xa.mp e).1];exact e,q⟩
 |.tup xs,v,r=>by
  simp only[RV] at r ⊢;obtain⟨a,vs,e,n,rd,q⟩:=r;exact⟨a,vs,e,l.jV a _ rd n,l.keep a _ rd n,aC.to l q⟩
 |.exc _,v,r=>by
  simp only[RV] at r ⊢;obtain⟨a,e,n,q⟩:=r;exact⟨a,e,l.jV a _ q n,l.keep a _ q n⟩
theorem aC.to{μ ν:List ae}{L L':ae->Prop}{H H':Hp}(l:Let L H L' H'):∀{xs:List MV}{vs:List V},aC ct μ L H xs vs->aC ct (μ++ν) L' H' xs vs
 |[],_,r=>by simpa only[aC] using r
 |x::xs,vs,r=>by
  simp only[aC] at r ⊢;obtain⟨v,t,e,q1,q2⟩:=r;exact⟨v,t,e,RV.to l q1,aC.to l q2⟩
end
theorem RV.ext{μ μ':List ae}{h h':MH}{H H':Hp}{x:MV}{v:V}(e:Ext μ h H μ' h' H')(r:RV ct μ (bc μ h) H x v):RV ct μ' (bc μ' h') H' x v:=by
 obtain⟨ν,q⟩:=e.pre;subst q;exact RV.to e.let r
theorem aC.ext{μ μ':List ae}{h h':MH}{H H':Hp}{x:List MV}{v:List V}(e:Ext μ h H μ' h' H')(r:aC ct μ (bc μ h) H x v):aC ct μ' (bc μ' h') H' x v:=by
 obtain⟨ν,q⟩:=e.pre;subst q;exact aC.to e.let r
theorem aC.length{μ:List ae}{L:ae->Prop}{H:Hp}:∀{xs:List MV}{vs:List V},aC ct μ L H xs vs->vs.length=xs.length
 |[],_,r=>by simp only[aC] at r;simp[r]
 |x::xs,vs,r=>by
  simp only[aC] at r;obtain⟨v,t,e,_,q⟩:=r;simp[e,aC.length q]
theorem aC.get{μ:List ae}{L:ae->Prop}{H:Hp}:∀{xs:List MV}{vs:List V}{i:Nat}{x:MV},aC ct μ L H xs vs->xs[i]?=some x->∃ v,vs[i]?=some v/\RV ct μ L H x v
 |[],_,_,_,_,e=>by simp at e
 |x::xs,vs,0,y,r,e=>by
  simp only[aC] at r;obtain⟨v,t,q,r1,_⟩:=r;simp at e;subst e;exact⟨v,by simp[q],r1⟩
 |x::xs,vs,i+1,y,r,e=>by
  simp only[aC] at r;obtain⟨v,t,q,_,r2⟩:=r;obtain⟨u,h1,h2⟩:=aC.get (i:=i) r2 (by simpa using e);exact⟨u,by simp[q,h1],h2⟩
theorem aC.get'{μ:List ae}{L:ae->Prop}{H:Hp}{xs:List MV}{vs:List V}{i:Nat}{v:V}(r:aC ct μ L H xs vs)(e:vs[i]?=some v):∃ x,xs[i]?=some x/\RV ct μ L H x v:=by
 have hl:=r.length;have hi:i<xs.length:=by rw[<- hl];exact(Xa.mp e).1
 obtain⟨u,h1,h2⟩:=r.get (i:=i) (x:=xs[i]) (by simp[hi]);rw[e] at h1;cases h1;exact⟨_,by simp[hi],h2⟩
theorem aC.cons{μ:List ae}{L:ae->Prop}{H:Hp}{x:MV}{v:V}{xs:List MV}{vs:List V}(a:RV ct μ L H x v)(b:aC ct μ L H xs vs):aC ct μ L H (x::xs) (v::vs):=by
 simp only[aC];exact⟨v,vs,rfl,a,b⟩
theorem aC.nil{μ:List ae}{L:ae->Prop}{H:Hp}:aC ct μ L H [] []:=by simp only[aC]
theorem aC.append{μ:List ae}{L:ae->Prop}{H:Hp}:∀{xs ys:List MV}{vs ws:List V},aC ct μ L H xs vs->aC ct μ L H ys ws->aC ct μ L H (xs++ys) (vs++ws)
 |[],_,_,_,r,s=>by simp only[aC] at r;subst r;exact s
 |x::xs,ys,vs,ws,r,s=>by
  simp only[aC] at r;obtain⟨v,t,rfl,r1,r2⟩:=r;exact aC.cons r1 (aC.append r2 s)
theorem aC.take{μ:List ae}{L:ae->Prop}{H:Hp}:∀(n:Nat){xs:List MV}{vs:List V},aC ct μ L H xs vs->aC ct μ L H (xs.take n) (vs.take n)
 |0,_,_,_=>aC.nil
 |n+1,[],_,r=>by simp only[aC] at r;subst r;exact aC.nil
 |n+1,x::xs,vs,r=>by
  simp only[aC] at r;obtain⟨v,t,rfl,r1,r2⟩:=r;exact aC.cons r1 (aC.take n r2)
theorem aC.drop{μ:List ae}{L:ae->Prop}{H:Hp}:∀(n:Nat){xs:List MV}{vs:List V},aC ct μ L H xs vs->aC ct μ L H (xs.drop n) (vs.drop n)
 |0,_,_,r=>r
 |n+1,[],_,r=>by simp only[aC] at r;subst r;exact aC.nil
 |n+1,x::xs,vs,r=>by
  simp only[aC] at r;obtain⟨v,t,rfl,r1,r2⟩:=r;exact aC.drop n r2
theorem aC.set{μ:List ae}{L:ae->Prop}{H:Hp}{y:MV}{u:V}(q:RV ct μ L H y u):∀(n:Nat){xs:List MV}{vs:List V},aC ct μ L H xs vs->aC ct μ L H (xs.set n y) (vs.set n u)
 |_,[],_,r=>by simp only[aC] at r;subst r;exact aC.nil
 |0,x::xs,vs,r=>by
  simp only[aC] at r;obtain⟨v,t,rfl,r1,r2⟩:=r;exact aC.cons q r2
 |n+1,x::xs,vs,r=>by
  simp only[aC] at r;obtain⟨v,t,rfl,r1,r2⟩:=r;exact aC.cons r1 (aC.set q n r2)
theorem aC.vS{μ:List ae}{L:ae->Prop}{H:Hp}:∀{xs:List FV}{vs:List V},fb ct L H xs vs->aC ct μ L H (xs.map MV.f) vs
 |[],_,r=>by simp only[fb] at r;subst r;exact aC.nil
 |x::xs,vs,r=>by
  simp only[fb] at r;obtain⟨v,t,rfl,r1,r2⟩:=r;exact aC.cons (by simp only[RV];exact r1) (aC.vS r2)
theorem aC.toF{μ:List ae}{L:ae->Prop}{H:Hp}:∀{xs:List MV}{ys:List FV}{vs:List V},zj xs=some ys->aC ct μ L H xs vs->fb ct L H ys vs
 |[],ys,vs,e,r=>by simp[zj] at e;subst e;simp only[aC] at r;subst r;simp only[fb]
 |.f x::xs,ys,vs,e,r=>by
  simp only[zj,Vd] at e;obtain⟨zs,e1,rfl⟩:=e;simp only[aC] at r;obtain⟨v,t,rfl,r1,r2⟩:=r;simp only[fb];exact⟨v,t,rfl,by simpa only[RV] using r1,aC.toF e1 r2⟩
 |.ref _::_,_,_,e,_=>by simp[zj] at e
 |.tup _::_,_,_,e,_=>by simp[zj] at e
 |.exc _::_,_,_,e,_=>by simp[zj] at e
end
section
variable {ct:Tx}
structure a8 (ct:Tx) (μ:List ae) (h:MH) (H:Hp) (σ:L2.St) (σs:aF):Prop where
 len:σ.length=σs.length
 at_:∀(i:Nat)(m:MV),σs[i]?=some (some m)->∃ v,σ[i]?=some (some v)/\RV ct μ (bc μ h) H m v
theorem a8.ext{μ μ':List ae}{h h':MH}{H H':Hp}{σ:L2.St}{σs:aF}(e:Ext μ h H μ' h' H')(r:a8 ct μ h H σ σs):a8 ct μ' h' H' σ σs :=
 ⟨r.len,λi m q=>let ⟨v,a,b⟩:=r.at_ i m q;⟨v,a,b.ext e⟩⟩
theorem a8.set{μ:List ae}{h:MH}{H:Hp}{σ:L2.St}{σs:aF}{m:MV}{v:V}(i:Nat)(r:a8 ct μ h H σ σs)(q:RV ct μ (bc μ h) H m v):a8 ct μ h H (σ.set i (some v)) (σs.set i (some m)):=by
 refine⟨by simp[r.len],λj m' e=>?_⟩;by_cases hj:i=j
 ·subst hj;have hi:i<σs.length:=by
   have:=(Xa.mp e).1;simpa using this
  rw[Xj hi] at e;cases e;exact⟨v,by rw[Xj (by rw[r.len];exact hi)],q⟩
 ·rw[ui hj] at e;obtain⟨u,a,b⟩:=r.at_ j m' e;exact⟨u,by rw[ui hj];exact a,b⟩
noncomputable def Po{α:Type}(ct:Tx)(E:XK)(r:R α)(μ:List ae)(h:MH)(H:Hp)(k:α->List ae->MH->Hp->Prop):Prop:=match r with
 |.ok x h'=>∀ μ' H',Ext μ h H μ' h' H'->Rel ct μ' h' H'->k x μ' h' H'
 |.exc c h'=>∀ μ' H',Ext μ h H μ' h' H'->Rel ct μ' h' H'->E (.ref (ct c)) none H'
 |.stuck=>False
section
variable {α β:Type} {E:XK} {μ μ1:List ae} {h h1:MH} {H H1:Hp}
theorem Po.start{r:R α}{k:α->List ae->MH->Hp->Prop}(e:Ext μ h H μ1 h1 H1)(p:Po ct E r μ h H k):Po ct E r μ1 h1 H1 k:=by
 cases r with
 |ok x h'=>exactλμ' H' e' r'=>p μ' H' (e.trans e') r'
 |exc c h'=>exactλμ' H' e' r'=>p μ' H' (e.trans e') r'
 |stuck=>exact p
theorem Po.bind{r:R α}{g:α->MH->R β}{k:β->List ae->MH->Hp->Prop}(p:Po ct E (r.bind g) μ h H k):Po ct E r μ h H λx μ1 h1 H1=>Ext μ h H μ1 h1 H1/\Rel ct μ1 h1 H1/\Po ct E (g x h1) μ1 h1 H1 k:=by
 cases r with
 |ok x h'=>exactλμ' H' e' r'=>⟨e',r',Po.start (r:=g x h') e' p⟩
 |exc c h'=>exact p
 |stuck=>exact p
theorem Po.imp{r:R α}{k k':α->List ae->MH->Hp->Prop}(p:Po ct E r μ h H k)(f:∀ x μ1 h1 H1,k x μ1 h1 H1->k' x μ1 h1 H1):Po ct E r μ h H k':=by
 cases r with
 |ok x h'=>exactλμ' H' e' r'=>f _ _ _ _ (p μ' H' e' r')
 |exc c h'=>exact p
 |stuck=>exact p
theorem Po.opt{o:Option α}{g:α->R β}{k:β->List ae->MH->Hp->Prop}(p:Po ct E (opt o g) μ h H k):∃ x,o=some x/\Po ct E (g x) μ h H k:=by
 cases o with
 |none=>exact p.elim
 |some x=>exact⟨x,rfl,p⟩
theorem Po.now{x:α}{k:α->List ae->MH->Hp->Prop}(rel:Rel ct μ h H)(p:Po ct E (.ok x h) μ h H k):k x μ h H:=p μ H (Ext.refl _ _ _) rel
theorem Po.v7{x:α}{h':MH}{k:α->List ae->MH->Hp->Prop}(p:Po ct E (.ok x h') μ h H k){μ':List ae}{H':Hp}(e:Ext μ h H μ' h' H')(rel:Rel ct μ' h' H'):k x μ' h' H':=p μ' H' e rel
end
noncomputable def kV(ct:Tx)(Q:VK):MV->List ae->MH->Hp->Prop:=λm μ h H=>∀ v,RV ct μ (bc μ h) H m v->Q v H
noncomputable def kVs(ct:Tx)(Q:List V->Hp->Prop):List MV->List ae->MH->Hp->Prop:=λm μ h H=>∀ v,aC ct μ (bc μ h) H m v->Q v H
section
variable (ct) (Ra:L2.St->Prop) (E:XK)
noncomputable def lE(ev:aF->MH->R MV):TE:=λσ H Q=>∃ μ h σs,Rel ct μ h H/\a8 ct μ h H σ σs/\Ra σ/\Po ct E (ev σs h) μ h H (kV ct Q)
noncomputable def lT(ev:aF->MH->R Bool):TT:=λσ H Q=>∃ μ h σs,Rel ct μ h H/\a8 ct μ h H σ σs/\Ra σ/\Po ct E (ev σs h) μ h H λb _ _ H'=>Q b H'
noncomputable def lA(ev:aF->MH->R (List MV)):TA:=λσ H Q=>∃ μ h σs,Rel ct μ h H/\a8 ct μ h H σ σs/\Ra σ/\Po ct E (ev σs h) μ h H (kVs ct Q)
noncomputable def lO(ev:aF->MH->R (Option Int)):TO:=λσ H Q=>∃ μ h σs,Rel ct μ h H/\a8 ct μ h H σ σs/\Ra σ/\Po ct E (ev σs h) μ h H λb _ _ H'=>Q b H'
end
section
variable {Ra:L2.St->Prop} {E:XK} {μ:List ae} {h:MH} {H:Hp} {σ:L2.St} {σs:aF} {β:Type}
theorem lE.mk{ev:aF->MH->R MV}{g:MV->MH->R β}{k:β->List ae->MH->Hp->Prop}{Q:VK}(rel:Rel ct μ h H)(aM:a8 ct μ h H σ σs)(ra:Ra σ)(p:Po ct E ((ev σs h).bind g) μ h H k)
  (f:∀ m v μ1 h1 H1,Ext μ h H μ1 h1 H1->Rel ct μ1 h1 H1->a8 ct μ1 h1 H1 σ σs->RV ct μ1 (bc μ1 h1) H1 m v->Po ct E (g m h1) μ1 h1 H1 k->Q v H1):lE ct Ra E ev σ H Q :=
 ⟨μ,h,σs,rel,aM,ra,(Po.bind p).imp λm μ1 h1 H1 ⟨e1,r1,p1⟩ v rv=>f m v μ1 h1 H1 e1 r1 (aM.ext e1) rv p1⟩
theorem lT.mk{ev:aF->MH->R Bool}{g:Bool->MH->R β}{k:β->List ae->MH->Hp->Prop}{Q:Bool->Hp->Prop}(rel:Rel ct μ h H)(aM:a8 ct μ h H σ σs)(ra:Ra σ)(p:Po ct E ((ev σs h).bind g) μ h H k)
  (f:∀ m μ1 h1 H1,Ext μ h H μ1 h1 H1->Rel ct μ1 h1 H1->a8 ct μ1 h1 H1 σ σs->Po ct E (g m h1) μ1 h1 H1 k->Q m H1):lT ct Ra E ev σ H Q :=
 ⟨μ,h,σs,rel,aM,ra,(Po.bind p).imp λm μ1 h1 H1 ⟨e1,r1,p1⟩=>f m μ1 h1 H1 e1 r1 (aM.ext e1) p1⟩
theorem lA.mk{ev:aF->MH->R (List MV)}{g:List MV->MH->R β}{k:β->List ae->MH->Hp->Prop}{Q:List V->Hp->Prop}(rel:Rel ct μ h H)(aM:a8 ct μ h H σ σs)(ra:Ra σ)(p:Po ct E ((ev σs h).bind g) μ h H k)
  (f:∀ m v μ1 h1 H1,Ext μ h H μ1 h1 H1->Rel ct μ1 h1 H1->a8 ct μ1 h1 H1 σ σs->aC ct μ1 (bc μ1 h1) H1 m v->Po ct E (g m h1) μ1 h1 H1 k->Q v H1):lA ct Ra E ev σ H Q :=
 ⟨μ,h,σs,rel,aM,ra,(Po.bind p).imp λm μ1 h1 H1 ⟨e1,r1,p1⟩ v rv=>f m v μ1 h1 H1 e1 r1 (aM.ext e1) rv p1⟩
theorem lO.mk{ev:aF->MH->R (Option Int)}{g:Option Int->MH->R β}{k:β->List ae->MH->Hp->Prop}{Q:Option Int->Hp->Prop}(rel:Rel ct μ h H)(aM:a8 ct μ h H σ σs)(ra:Ra σ)(p:Po ct E ((ev σs h).bind g) μ h H k)
  (f:∀ m μ1 h1 H1,Ext μ h H μ1 h1 H1->Rel ct μ1 h1 H1->a8 ct μ1 h1 H1 σ σs->Po ct E (g m h1) μ1 h1 H1 k->Q m H1):lO ct Ra E ev σ H Q :=
 ⟨μ,h,σs,rel,aM,ra,(Po.bind p).imp λm μ1 h1 H1 ⟨e1,r1,p1⟩=>f m μ1 h1 H1 e1 r1 (aM.ext e1) p1⟩
end
section
variable {μ:List ae} {h:MH} {H:Hp}
theorem bc.has(rel:Rel ct μ h H){b:ae}(l:bc μ h b):∃ o,H b=some o:=let ⟨i,_,e,_,_⟩:=l;rel.has b (Ue e)
theorem Rel.fresh(rel:Rel ct μ h H){p:ae}(hp:H p=none):p∉μ:=λz=>by obtain⟨o,e⟩:=rel.has p z;rw[hp] at e;cases e
theorem Ext.new(rel:Rel ct μ h H){p:ae}(hp:H p=none)(o:HO):Ext μ h H μ h (upd H p o) :=
 ⟨⟨[],by simp⟩,λb u e _=>by rw[Zc (yg e hp)];exact e,λb l=>.inl l⟩
theorem bL.to{μ ν:List ae}{L L':ae->Prop}{H H':Hp}{b:ae}{c:Cell}(l:Let L H L' H')(kb:c≠.dead->H' b=H b)(r:bL ct μ L H b c):bL ct (μ++ν) L' H' b c:=by
 cases c with
 |lst xs =>
  obtain⟨vs,e,q⟩:=r;exact⟨vs,by rw[kb (λz=>nomatch z)];exact e,aC.to l q⟩
 |obj c fs =>
  obtain⟨dx,gs,e,q1,q⟩:=r;exact⟨dx,gs,by rw[kb (λz=>nomatch z)];exact e,q1,aC.to l q⟩
 |iC ks=>exact(kb (λz=>nomatch z)).trans r
 |tab ks=>exact(kb (λz=>nomatch z)).trans r
 |cV ks=>exact(kb (λz=>nomatch z)).trans r
 |code =>
  obtain⟨e,r⟩:=r;have kb:=kb (λz=>nomatch z);refine⟨e,r.elim (λr=>.inl (kb.trans r)) λ⟨c',n1,n2,r1,r2⟩=>.inr ⟨c',n1,l.jV _ _ r2 n2,kb.trans r1,l.keep _ _ r2 n2⟩⟩
 |dead=>trivial
theorem Rel.new(rel:Rel ct μ h H){p:ae}(hp:H p=none)(o:HO):Rel ct μ h (upd H p o):=by
 refine⟨rel.len,rel.nd,λb hb=>?_,λi b c e1 e2=>?_⟩
 ·obtain⟨u,e⟩:=rel.has b hb;exact⟨u,by rw[Zc (yg e hp)];exact e⟩
 ·have:=bL.to (ν:=[]) (Ext.new rel hp o).let (b:=b) (λ_=>by
   obtain⟨u,e⟩:=rel.has b (Ue e1);exact Zc (yg e hp)) (rel.cells i b c e1 e2)
  simpa using this
theorem bc.app{μ:List ae}{h:MH}(hl:μ.length=h.length){p b:ae}{c:Cell}(l:bc (μ++[p]) (h++[c]) b):bc μ h b\/b=p:=by
 obtain⟨i,d,e1,e2,nd⟩:=l;by_cases hi:i<μ.length
 ·rw[va hi] at e1;rw[va (by lia)] at e2;exact .inl ⟨i,d,e1,e2,nd⟩
 ·rw[Ud (by lia)] at e1;have:i-μ.length=0:=by
   have:=(Xa.mp e1).1;simp at this;lia
  rw[this] at e1;simp at e1;exact .inr e1.symm
theorem Ext.cell(rel:Rel ct μ h H){p:ae}(hp:H p=none)(c:Cell)(o:HO):Ext μ h H (μ++[p]) (h++[c]) (upd H p o) :=
 ⟨⟨[p],rfl⟩,λb u e _=>by rw[Zc (yg e hp)];exact e,λb l=>(bc.app rel.len l).imp id λe=>by rw[e];exact hp⟩
theorem Rel.cell(rel:Rel ct μ h H){p:ae}(hp:H p=none){c:Cell}{o:HO}(q:bL ct (μ++[p]) (bc (μ++[p]) (h++[c])) (upd H p o) p c):Rel ct (μ++[p]) (h++[c]) (upd H p o):=by
 have hn:=rel.fresh hp;refine⟨by simp[rel.len],?_,λb hb=>?_,λi b d e1 e2=>?_⟩
 ·rw[Ul];exact⟨rel.nd,by simp,λa ha b hb e=>by simp at hb;subst hb;subst e;exact hn ha⟩
 ·rcases Xf.mp hb with hb|hb
  ·obtain⟨u,e⟩:=rel.has b hb;exact⟨u,by rw[Zc (yg e hp)];exact e⟩
  ·simp at hb;subst hb;exact⟨o,qe⟩
 ·by_cases hi:i<μ.length
  ·rw[va hi] at e1;rw[va (by have:=rel.len;lia)] at e2;exact bL.to (Ext.cell rel hp c o).let (λ_=>by
    obtain⟨u,e⟩:=rel.has b (Ue e1);exact Zc (yg e hp)) (rel.cells i b d e1 e2)
  ·rw[Ud (by lia)] at e1;rw[Ud (by have:=rel.len;lia)] at e2;have:i-μ.length=0:=by
    have:=(Xa.mp e1).1;simp at this;lia
   have h2:i-h.length=0:=by rw[<- rel.len];exact this
   rw[this] at e1;rw[h2] at e2;simp at e1 e2;subst e1;subst e2;exact q
theorem bc.set{i:Nat}{c c':Cell}{b:ae}(e:h[i]?=some c)(hc:c≠.dead)(l:bc μ (h.set i c') b):bc μ h b:=by
 obtain⟨j,d,e1,e2,nd⟩:=l;by_cases hj:i=j
 ·subst hj;exact⟨i,c,e1,e,hc⟩
 ·rw[ui hj] at e2;exact⟨j,d,e1,e2,nd⟩
theorem Ext.set(rel:Rel ct μ h H){i:Nat}{b:ae}{c:Cell}(e1:μ[i]?=some b)(e2:h[i]?=some c)(hc:c≠.dead)(c':Cell)(o:HO):Ext μ h H μ (h.set i c') (upd H b o) :=
 ⟨⟨[],by simp⟩,λd u e n=>by rw[Zc (λ(z:d=b)=>n (by rw[z];exact⟨i,c,e1,e2,hc⟩))];exact e,λd l=>.inl (bc.set e2 hc l)⟩
theorem Rel.set(rel:Rel ct μ h H){i:Nat}{b:ae}{c:Cell}(e1:μ[i]?=some b)(e2:h[i]?=some c)(hc:c≠.dead){c':Cell}{o:HO}(q:bL ct μ (bc μ (h.set i c')) (upd H b o) b c'):Rel ct μ (h.set i c') (upd H b o):=by
 refine⟨by simp[rel.len],rel.nd,λd hd=>?_,λj d u q1 q2=>?_⟩
 ·by_cases kc:d=b
  ·exact⟨o,by rw[kc];exact qe⟩
  ·obtain⟨u,e⟩:=rel.has d hd;exact⟨u,by rw[Zc kc];exact e⟩
 ·by_cases hj:i=j
  ·subst hj;rw[e1] at q1;cases q1;rw[Xj (Xa.mp e2).1] at q2;cases q2;exact q
  ·rw[ui hj] at q2;have ne:d≠b:=λz=>by
    subst z;exact hj ((WA (Xa.mp e1).1 rel.nd).mp (e1.trans q1.symm))
   have:=bL.to (ν:=[]) (Ext.set rel e1 e2 hc c' o).let (b:=d) (λ_=>Zc ne) (rel.cells j d u q1 q2);simpa using this
end
end
section
variable {ct:Tx}
section
variable {μ:List ae} {h:MH} {H:Hp}
theorem GL{as:List Nat}{i:Nat}{c:Cell}(e:(kill as h)[i]?=some c):(i∈as/\c=.dead)\/(i∉as/\h[i]?=some c):=by
 unfold kill at e;rw[xl] at e;cases q:h[i]? with
 |none=>rw[q] at e;cases e
 |some d =>
  rw[q] at e;by_cases hi:i∈as
  ·simp[hi] at e;exact .inl ⟨hi,e.symm⟩
  ·simp[hi] at e;subst e;exact .inr ⟨hi,rfl⟩
theorem bc.kill{as:List Nat}{b:ae}(l:bc μ (kill as h) b):bc μ h b:=by
 obtain⟨i,c,e1,e2,nd⟩:=l
 rcases GL e2 with ⟨_,z⟩|⟨_,z⟩
 ·exact absurd z nd
 ·exact⟨i,c,e1,z,nd⟩
theorem Ext.kill(as:List Nat):Ext μ h H μ (kill as h) H:=⟨⟨[],by simp⟩,λ_ _ e _=>e,λb l=>.inl l.kill⟩
theorem Rel.kill(rel:Rel ct μ h H)(as:List Nat):Rel ct μ (kill as h) H:=by
 refine⟨by rw[rel.len];simp[MP.kill],rel.nd,rel.has,λi b c e1 e2=>?_⟩
 rcases GL e2 with ⟨_,z⟩|⟨_,z⟩
 ·subst z;trivial
 ·have:=bL.to (ν:=[]) (Ext.kill (H:=H) as).let (b:=b) (λ_=>rfl) (rel.cells i b c e1 z);simpa using this
theorem yS{i:Nat}{xs:List MV}(e:Yd h i=some xs):h[i]?=some (.lst xs):=by
 unfold Yd at e;split at e
 next q=>cases e;exact q
 next=>cases e
theorem Rel.lst(rel:Rel ct μ h H){i:Nat}{xs:List MV}(e:Yd h i=some xs):∃ b vs,μ[i]?=some b/\H b=some (.lst vs)/\aC ct μ (bc μ h) H xs vs:=by
 have e2:=yS e;have hi:i<μ.length:=by rw[rel.len];exact(Xa.mp e2).1
 obtain⟨vs,q1,q2⟩:=rel.cells i μ[i] (.lst xs) (by simp[hi]) e2;exact⟨_,vs,by simp[hi],q1,q2⟩
theorem zcq{as:List Nat}(rel:Rel ct μ h H){i:Nat}{b:ae}(e:μ[i]?=some b)(hi:i∈as):¬ bc μ (MP.kill as h) b:=λ⟨j,c,e1,e2,nd⟩=>by
 have:i=j:=(WA (Xa.mp e).1 rel.nd).mp (e.trans e1.symm);subst this
 rcases GL e2 with ⟨_,z⟩|⟨z,_⟩
 ·exact nd z
 ·exact z hi
theorem Jx{as:List Nat}{g:MV->Option FV}:∀{xs:List MV}{ys:List FV}{vs:List V},xs.mapM g=some ys->aC ct μ (bc μ h) H xs vs ->
  (∀ x∈xs,∀ y v,g x=some y->RV ct μ (bc μ h) H x v->RF ct (bc μ (MP.kill as h)) H y v)->fb ct (bc μ (MP.kill as h)) H ys vs
 |[],ys,vs,e,r,_=>by
  simp at e;subst e;simp only[aC] at r;subst r;simp only[fb]
 |x::xs,ys,vs,e,r,f=>by
  simp only[Vo,Wu,Wc,Option.pure_def,Option.some.injEq] at e;obtain⟨y,e1,zs,e2,rfl⟩:=e;simp only[aC] at r;obtain⟨v,t,rfl,r1,r2⟩:=r;simp only[fb];exact⟨v,t,rfl,f x (by simp) y v e1 r1,Jx e2 r2 λz hz=>f z (by simp[hz])⟩
theorem IE(rel:Rel ct μ h H){as:List Nat}:∀(n:Nat)(m:MV)(x:FV)(v:V),(∀ a∈Qm h n m,a∈as)->Zo h n m=some x->RV ct μ (bc μ h) H m v->RF ct (bc μ (MP.kill as h)) H x v
 |0,m,x,v,_,e,_=>by simp[Zo] at e
 |n+1,.f y,x,v,_,e,r=>by
  simp[Zo] at e;subst e;simp only[RV] at r;exact RF.to (Ext.kill (H:=H) as).let r
 |n+1,.tup xs,x,v,hs,e,r=>by
  simp only[Zo,Vd] at e;obtain⟨ys,e1,rfl⟩:=e;simp only[RV] at r;obtain⟨a,vs,rfl,na,rd,q⟩:=r;simp only[RF];refine⟨a,vs,rfl,λl=>na l.kill,rd,Jx e1 q λz hz y u ez ru=>IE rel n z y u (λa ha=>hs a ?_) ez ru⟩;simp only[Qm,Xm];exact⟨z,hz,ha⟩
 |n+1,.ref i,x,v,hs,e,r=>by
  simp only[Zo,Wc,Vd] at e;obtain⟨xs,e0,ys,e1,rfl⟩:=e;simp only[RV] at r;obtain⟨b,eb,rfl⟩:=r;obtain⟨b',vs,iH,hb,q⟩:=rel.lst e0;rw[eb] at iH;cases iH;simp only[RF];refine⟨b,vs,rfl,zcq rel eb (hs i (by simp[Qm])),.inl hb,Jx e1 q λz hz y u ez ru=>IE rel n z y u (λa ha=>hs a ?_) ez ru⟩;simp only[Qm,e0,xm,ua,Xm];exact .inr ⟨z,hz,ha⟩
 |n+1,.exc _,x,v,_,e,_=>by simp[Zo] at e
theorem Kw{E:XK}{m:MV}{v:V}{k:MV->List ae->MH->Hp->Prop}(rel:Rel ct μ h H)(r:RV ct μ (bc μ h) H m v)(p:Po ct E (QM m h) μ h H k) :
  ∃ x h',Ext μ h H μ h' H/\Rel ct μ h' H/\RV ct μ (bc μ h') H (.f x) v/\k (.f x) μ h' H:=by
 unfold QM at p;obtain⟨x,e,p⟩:=p.opt;refine⟨x,_,Ext.kill _,rel.kill _,?_,p.v7 (Ext.kill _) (rel.kill _)⟩;simp only[RV];exact IE rel 5 m x v (λa ha=>ha) e r
end
mutual
noncomputable def mF(n:Nat):MV->Prop
 |.ref i=>i<n
 |.tup xs=>fI n xs
 |_=>True
noncomputable def fI(n:Nat):List MV->Prop
 |[]=>True
 |x::xs=>mF n x/\fI n xs
end
mutual
theorem RV.mq{μ:List ae}{L:ae->Prop}{H:Hp}:∀{m:MV}{v:V},RV ct μ L H m v->mF μ.length m
 |.f _,_,_=>by simp only[mF]
 |.ref i,v,r=>by
  simp only[RV] at r;obtain⟨b,e,_⟩:=r;simp only[mF];exact(Xa.mp e).1
 |.tup xs,v,r=>by
  simp only[RV] at r;obtain⟨a,vs,_,_,_,q⟩:=r;simp only[mF];exact aC.mq q
 |.exc _,_,_=>by simp only[mF]
theorem aC.mq{μ:List ae}{L:ae->Prop}{H:Hp}:∀{xs:List MV}{vs:List V},aC ct μ L H xs vs->fI μ.length xs
 |[],_,_=>by simp only[fI]
 |x::xs,vs,r=>by
  simp only[aC] at r;obtain⟨v,t,_,r1,r2⟩:=r;simp only[fI];exact⟨RV.mq r1,aC.mq r2⟩
end
mutual
theorem RV.cut{μ ν:List ae}{L L':ae->Prop}{H:Hp}(l:∀ b,L' b->L b):∀{m:MV}{v:V},mF μ.length m->RV ct (μ++ν) L H m v->RV ct μ L' H m v
 |.f x,v,_,r=>by simp only[RV] at r ⊢;exact RF.to ⟨λ_ _ e _=>e,λb _ _ n z=>n (l b z)⟩ r
 |.ref i,v,b,r=>by
  simp only[RV] at r ⊢;simp only[mF] at b;obtain⟨c,e,q⟩:=r;rw[va b] at e;exact⟨c,e,q⟩
 |.tup xs,v,b,r=>by
  simp only[RV] at r ⊢;simp only[mF] at b;obtain⟨a,vs,e,n,rd,q⟩:=r;exact⟨a,vs,e,λz=>n (l a z),rd,aC.cut l b q⟩
 |.exc _,v,_,r=>by
  simp only[RV] at r ⊢;obtain⟨a,e,n,q⟩:=r;exact⟨a,e,λz=>n (l a z),q⟩
theorem aC.cut{μ ν:List ae}{L L':ae->Prop}{H:Hp}(l:∀ b,L' b->L b):∀{xs:List MV}{vs:List V},fI μ.length xs->aC ct (μ++ν) L H xs vs->aC ct μ L' H xs vs
 |[],vs,_,r=>by simpa only[aC] using r
 |x::xs,vs,b,r=>by
  simp only[aC] at r ⊢;simp only[fI] at b;obtain⟨v,t,e,r1,r2⟩:=r;exact⟨v,t,e,RV.cut l b.1 r1,aC.cut l b.2 r2⟩
end
theorem fI.flat(n:Nat):∀ ys:List FV,fI n (ys.map MV.f)
 |[]=>by simp only[xp,fI]
 |y::ys=>by simp only[Wb,fI,mF];exact⟨trivial,fI.flat n ys⟩
noncomputable def IG(n:Nat):Cell->Prop
 |.lst xs=>fI n xs
 |.obj _ fs=>fI n (fs.map vn)
 |.iC _=>True
 |.tab _=>True
 |.cV _=>True
 |.code=>True
 |.dead=>True
theorem bL.mq{μ:List ae}{L:ae->Prop}{H:Hp}{b:ae}{c:Cell}(r:bL ct μ L H b c):IG μ.length c:=by
 cases c with
 |lst xs=>obtain⟨vs,_,q⟩:=r;exact q.mq
 |obj c fs=>obtain⟨dx,gs,_,_,q⟩:=r;exact q.mq
 |iC ks=>trivial
 |tab ks=>trivial
 |cV ks=>trivial
 |code=>trivial
 |dead=>trivial
theorem i8.mq{n:Nat}{c:Cell}(r:i8 c):IG n c:=by
 cases c with
 |lst xs=>obtain⟨ys,rfl⟩:=r;exact fI.flat n ys
 |obj c fs =>
  obtain⟨ys,rfl⟩:=r;show fI n _;rw[wf];have:=fI.flat n (ys.map vn);rw[wf] at this;exact this
 |iC ks=>trivial
 |tab ks=>trivial
 |cV ks=>trivial
 |code=>trivial
 |dead=>trivial
theorem bL.cut{μ ν:List ae}{L L':ae->Prop}{H:Hp}{b:ae}{c:Cell}(l:∀ b,L' b->L b)(k:IG μ.length c)(r:bL ct (μ++ν) L H b c):bL ct μ L' H b c:=by
 cases c with
 |lst xs=>obtain⟨vs,e,q⟩:=r;exact⟨vs,e,aC.cut l k q⟩
 |obj c fs=>obtain⟨dx,gs,e,q1,q⟩:=r;exact⟨dx,gs,e,q1,aC.cut l k q⟩
 |iC ks=>exact r
 |tab ks=>exact r
 |cV ks=>exact r
 |code=>exact⟨r.1,r.2.imp id λ⟨c',n1,n2,r⟩=>⟨c',n1,λz=>n2 (l _ z),r⟩⟩
 |dead=>trivial
theorem Nu:∀{xs:List MV}{ys:List FV},zj xs=some ys->xs=ys.map MV.f
 |[],ys,e=>by simp[zj] at e;subst e;rfl
 |.f x::xs,ys,e=>by
  simp only[zj,Vd] at e;obtain⟨zs,e1,rfl⟩:=e;rw[Nu e1];rfl
 |.ref _::_,_,e=>by simp[zj] at e
 |.tup _::_,_,e=>by simp[zj] at e
 |.exc _::_,_,e=>by simp[zj] at e
section
variable {μ ν:List ae} {h h':MH} {H H':Hp}
theorem bc.cut(hl:μ.length=h.length){b:ae}(l:bc μ (h'.take h.length) b):bc (μ++ν) h' b:=by
 obtain⟨i,c,e1,e2,nd⟩:=l;have hi:i<μ.length:=(Xa.mp e1).1;rw[vk (by lia)] at e2;exact⟨i,c,by rw[va hi];exact e1,e2,nd⟩
theorem Ext.cut(hl:μ.length=h.length)(e:Ext μ h H (μ++ν) h' H'):Ext μ h H μ (h'.take h.length) H':=⟨⟨[],by simp⟩,e.keep,λb l=>e.jV b (bc.cut hl l)⟩
theorem Rel.cut(rel:Rel ct μ h H)(t:bP h h')(bH:Rel ct (μ++ν) h' H'):Rel ct μ (h'.take h.length) H':=by
 refine⟨by rw[rel.len,Uo];have:=t.1;lia,(Ul.mp bH.nd).1,λb hb=>bH.has b (Xi _ hb),λi b c e1 e2=>?_⟩;have hi:i<μ.length:=(Xa.mp e1).1;have l8:i<h.length:=by rw[<- rel.len];exact hi
 rw[vk l8] at e2;refine bL.cut (λb l=>bc.cut rel.len l) ?_ (bH.cells i b c (by rw[va hi];exact e1) e2)
 rcases t.2 i c l8 e2 with q|q
 ·exact(rel.cells i b c e1 q).mq
 ·exact i8.mq q
theorem Nn{E:XK}{m:MV}{v:V}{Q:VK}(rel:Rel ct μ h H)(e:Ext μ h H (μ++ν) h' H')(bH:Rel ct (μ++ν) h' H')(r:RV ct (μ++ν) (bc (μ++ν) h') H' m v)(p:Po ct E (Qg h m h') μ h H (kV ct Q)):Q v H':=by
 unfold Qg at p;split at p
 next t =>
  cases m with
  |f x =>
   refine p μ H' (Ext.cut rel.len e) (rel.cut t bH) v ?_;exact RV.cut (λb l=>bc.cut rel.len l) (by simp only[mF]) r
  |ref a =>
   dsimp only at p;split at p
   next ha =>
    split at p
    next xs ex =>
     split at p
     next ys ey =>
      simp only[RV] at r;obtain⟨b,eb,rfl⟩:=r;obtain⟨b',vs,iH,hb,q⟩:=bH.lst ex;rw[eb] at iH;cases iH;have rc:=rel.cut t bH;have ec:=Ext.cut rel.len e;have nb:b∉μ:=λz=>by
       obtain⟨j,hj,ej⟩:=wu z;have:j=a:=(WA (by simp;lia) bH.nd).mp (by rw[va hj,eb];simp[hj,ej]);have:=rel.len
       lia
      have lv:∀ d,bc (μ++[b]) (h'.take h.length++[.lst xs]) d->bc (μ++ν) h' d:=λd l=>by
       rcases bc.app (by rw[rc.len]) l with l|l
       ·exact bc.cut rel.len l
       ·subst l;exact⟨a,.lst xs,eb,yS ex,λz=>nomatch z⟩
      have fl:fb ct (bc (μ++ν) h') H' ys vs:=aC.toF ey q;have Le:xs=ys.map MV.f:=Nu ey;refine p (μ++[b]) H' ⟨⟨[b],rfl⟩,e.keep,λd l=>e.jV d (lv d l)⟩ ?_ (.ref b) ?_
      ·refine⟨by simp[rc.len],?_,λd hd=>?_,λi d c e1 e2=>?_⟩
       ·rw[Ul];exact⟨rc.nd,by simp,λx hx y hy z=>by simp at hy;subst hy;subst z;exact nb hx⟩
       ·rcases Xf.mp hd with hd|hd
        ·exact rc.has d hd
        ·simp at hd;subst hd;exact⟨_,hb⟩
       ·by_cases hi:i<μ.length
        ·rw[va hi] at e1;rw[va (by rw[<- rc.len];exact hi)] at e2;have c0:=rc.cells i d c e1 e2;have l8:i<h.length:=by rw[<- rel.len];exact hi
         have pO:=e2;rw[vk l8] at pO;have c1:=bH.cells i d c (by rw[va hi];exact e1) pO;exact bL.to (ν:=[b]) (L:=bc (μ++[b]) (h'.take h.length++[.lst xs])) ⟨λ_ _ e _=>e,λ_ _ _ n=>n⟩ (λ_=>rfl) (bL.cut lv c0.mq c1)
        ·rw[Ud (by lia)] at e1;rw[Ud (by rw[<- rc.len];lia)] at e2;have z:i-μ.length=0:=by
          have:=(Xa.mp e1).1;simp at this;lia
         have z2:i-(h'.take h.length).length=0:=by rw[<- rc.len];exact z
         rw[z] at e1;rw[z2] at e2;simp at e1 e2;subst e1;subst e2;refine⟨vs,hb,?_⟩;rw[Le];rw[Le] at lv;exact aC.vS (fb.to ⟨λ_ _ e _=>e,λd _ _ n l=>n (lv d l)⟩ fl)
      ·simp only[RV];exact⟨b,by rw[<- rel.len];simp,rfl⟩
     next=>exact p (μ++ν) H' e bH v r
    next=>exact p (μ++ν) H' e bH v r
   next=>exact p (μ++ν) H' e bH v r
  |tup xs=>exact p (μ++ν) H' e bH v r
  |exc c=>exact p (μ++ν) H' e bH v r
 next=>exact p (μ++ν) H' e bH v r
theorem Ycd{E:XK}{c:String}{k:MV->List ae->MH->Hp->Prop}(rel:Rel ct μ h H)(e:Ext μ h H (μ++ν) h' H')(bH:Rel ct (μ++ν) h' H')(p:Po ct E (YY h c h') μ h H k):E (.ref (ct c)) none H':=by
 unfold YY at p;split at p
 next t=>exact p μ H' (Ext.cut rel.len e) (rel.cut t bH)
 next=>exact p (μ++ν) H' e bH
end
end
section
variable {ct:Tx} {X:Cx} {E:XK}
section
variable {μ:List ae} {h:MH} {L:ae->Prop} {H:Hp} {m:MV} {v:V}
theorem qi{i:Int}(e:zd m=some i):m=.f (.int i):=by
 unfold zd at e;split at e
 next=>cases e;rfl
 next=>cases e
theorem Cf{i:Bool}(e:QI m=some i):m=.f (.bl i):=by
 unfold QI at e;split at e
 next=>cases e;rfl
 next=>cases e
theorem Zp{i:Int}(r:RV ct μ L H (.f (.int i)) v):v=.int i:=by simpa only[RV,RF] using r
theorem rH{i:Bool}(r:RV ct μ L H (.f (.bl i)) v):v=.bl i:=by simpa only[RV,RF] using r
theorem Zw(i:Int):RV ct μ L H (.f (.int i)) (.int i):=by simp only[RV,RF]
theorem ZC(i:Bool):RV ct μ L H (.f (.bl i)) (.bl i):=by simp only[RV,RF]
theorem qde(i:Str):RV ct μ L H (.f (.str i)) (.str i):=by simp only[RV,RF]
theorem Dy:RV ct μ L H (.f .bI) .bI:=by simp only[RV,RF]
theorem qu{xs:List MV}(rel:Rel ct μ h H)(e:MP.listOf h m=some xs)(r:RV ct μ (bc μ h) H m v):∃ a vs,v=.ref a/\Rd H a (.lst vs)/\aC ct μ (bc μ h) H xs vs:=by
 unfold MP.listOf at e;split at e
 next ys =>
  cases e;simp only[RV,RF] at r;obtain⟨a,vs,e1,_,rd,q⟩:=r;exact⟨a,vs,e1,rd,aC.vS q⟩
 next i =>
  obtain⟨b,vs,e1,e2,q⟩:=rel.lst e;simp only[RV] at r;obtain⟨b',e3,rfl⟩:=r;rw[e1] at e3;cases e3;exact⟨b,vs,rfl,.inl e2,q⟩
 next=>cases e
theorem qA{xs:List MV}(e:qk m=some xs)(r:RV ct μ L H m v):∃ a vs,v=.ref a/\¬ L a/\H a=some (.tup vs)/\aC ct μ L H xs vs:=by
 unfold qk at e;split at e
 next ys =>
  cases e;simp only[RV,RF] at r;obtain⟨a,vs,e1,n,rd,q⟩:=r;exact⟨a,vs,e1,n,rd,aC.vS q⟩
 next ys =>
  cases e;simp only[RV] at r;exact r
 next=>cases e
theorem YB{xs:List MV}(e:Qb h m=some xs):qk m=some xs\/MP.listOf h m=some xs\/∃ ns,m=.f (.dm ns)/\xs=ns.map λi=>MV.f (.int i):=by
 unfold Qb at e;split at e
 next=>exact .inl e
 next=>exact .inr (.inl e)
 next ns=>cases e;exact .inr (.inr ⟨ns,rfl,rfl⟩)
 next=>exact .inl e
 next=>exact .inr (.inl e)
 next=>cases e
noncomputable def sF(ct:Tx)(H:Hp)(b:Bool)(a:ae)(vs:List V):Prop:=gD ct.K H b a vs
theorem sF.s{K:PySem.W.Frag}{b:Bool}{a:ae}{vs:List V}(hK:K=ct.K)(q:sF ct H b a vs):gD K H b a vs:=by rw[hK];exact q
theorem sk{L:ae->Prop}:∀ ns:List Int,aC ct μ L H (ns.map λi=>MV.f (.int i)) (ns.map V.int)
 |[]=>by simp only[xp,aC]
 |i::ns=>by
  simp only[Wb,aC];exact⟨.int i,_,rfl,Zw i,sk ns⟩
theorem Bz{L:ae->Prop}{a:ae}{ns:List Int}(q:(¬ L a/\∃ o,H a=some (.e8 o (.lst (ns.map V.int))))\/Bi ct.K a ns):fq ct.K H a (ns.map V.int):=q.elim (λ⟨_,o,e⟩=>.inl (.inr ⟨o,e⟩)) .inr
theorem ZA{xs:List MV}(rel:Rel ct μ h H)(e:Qb h m=some xs)(r:RV ct μ (bc μ h) H m v):∃ b a vs,v=.ref a/\sF ct H b a vs/\aC ct μ (bc μ h) H xs vs:=by
 rcases YB e with e|e|⟨ns,rfl,rfl⟩
 ·obtain⟨a,vs,q1,_,q2,q3⟩:=qA e r;exact⟨true,a,vs,q1,fU.of q2,q3⟩
 ·obtain⟨a,vs,q1,q2,q3⟩:=qu rel e r;exact⟨false,a,vs,q1,.inl q2,q3⟩
 ·simp only[RV,RF] at r;obtain⟨a,rfl,q⟩:=r;exact⟨false,a,_,rfl,Bz q,sk ns⟩
theorem sV(rel:Rel ct μ h H){p:ae}(hp:H p=none):¬ bc μ h p:=λl=>by obtain⟨o,e⟩:=bc.has rel l;rw[hp] at e;cases e
theorem YF{fz:Bool}{xs:List MV}{vs:List V}{Q:VK}(rel:Rel ct μ h H)(r:aC ct μ (bc μ h) H xs vs)(p:Po ct E (Qt fz xs h) μ h H (kV ct Q)):∀ a,H a=none->Q (.ref a) (upd H a (.lst vs)):=by
 intro a ha;cases fz with
 |true =>
  obtain⟨ys,e,p⟩:=Po.opt (o:=zj xs) (g:=λys=>R.ok (MV.f (.lst ys)) h) p;refine p μ _ (Ext.new rel ha _) (rel.new ha _) _ ?_;simp only[RV,RF];exact⟨a,vs,rfl,sV rel ha,.inl qe,fb.to (Ext.new rel ha _).let (aC.toF e r)⟩
 |false =>
  refine p (μ++[a]) _ (Ext.cell rel ha _ _) (rel.cell ha ?_) _ ?_
  ·exact⟨vs,qe,aC.to (Ext.cell rel ha _ _).let r⟩
  ·simp only[RV];exact⟨a,by rw[<- rel.len];simp,rfl⟩
theorem YO{xs:List MV}{vs:List V}{a:ae}(n:¬ L a)(rd:H a=some (.tup vs))(r:aC ct μ L H xs vs):RV ct μ L H (Zi xs) (.ref a):=by
 unfold Zi;split
 next ys e =>
  simp only[RV,RF];exact⟨a,vs,rfl,n,rd,aC.toF e r⟩
 next =>
  simp only[RV];exact⟨a,vs,rfl,n,rd,r⟩
theorem Bk{xs:List MV}{vs:List V}{Q:VK}(rel:Rel ct μ h H)(r:aC ct μ (bc μ h) H xs vs)(p:Po ct E (.ok (Zi xs) h) μ h H (kV ct Q)):∀ a,H a=none->Q (.ref a) (upd H a (.tup vs)):=by
 intro a ha;refine p μ _ (Ext.new rel ha _) (rel.new ha _) _ (YO (sV rel ha) qe ?_);have:=aC.to (ν:=[]) (Ext.new rel ha (.tup vs)).let r;simpa using this
end
noncomputable def r2(ct:Tx)(E:XK)(g:MV->MV->MH->R MV):R2:=λx y H Q=>∃ μ h mx my,Rel ct μ h H/\RV ct μ (bc μ h) H mx x/\RV ct μ (bc μ h) H my y/\Po ct E (g mx my h) μ h H (kV ct Q)
theorem OM{i:Int}(h:i.natAbs<MP.big):aq.Int.intBits i<=2^20:=by
 refine intBits_le_iff.mpr (Uc h ?_);exact Xl (by decide) (by decide)
theorem ZcN:cA X (a7 .Mult) (rI qD λi j=>.int (i*j)):=vR λi j _ _ _ _ _ hc q=>by
 refine mul_int q ?_
 rcases hc with c|c|⟨c,d⟩
 ·exact .of_left (jn (by lia) (by lia))
 ·exact .of_right (jn (by lia) (by lia))
 ·exact .of_bits (OM c) (OM d)
theorem qco:cA X (a7 .FloorDiv) (rI sL λi j=>.int (i/j)):=vR λi j _ _ _ _ _ hc q=>by
 have h1:(0:Int)<j:=hc.1;refine floordiv_int (by lia) (by rw[vz i (by lia)];exact q) (.inl (PyProof.noPylong_of_log2 ?_));have:j.natAbs≠0:=by lia
 rcases hc.2 with c|c
 ·have:j.natAbs.log2<30:=(Nat.log2_lt (by lia)).mpr (by lia)
  lia
 ·have:j.natAbs.log2<4096:=(Nat.log2_lt (by lia)).mpr c
  lia
noncomputable def uS:R2:=λx y H Q=>∃ l b xs zs,x=.ref l/\y=.ref b/\Rd H l (.lst xs)/\Rd H b (.lst zs)/\xs.length+zs.length<=sizeLine/\∀ p,H p=none->Q (.ref p) (upd H p (.lst (xs++zs)))
theorem YcI:cA X (a7 .Add) uS:=by
 intro pins s σ H x y v u Q I rx ry h;obtain⟨l,b,xs,zs,rfl,rfl,hH,hB,hz,q⟩:=h;cases rx;cases ry;obtain⟨z,aA,n,r,e⟩:=hH.ok I.aR;obtain⟨z2,gM,n2,r2,e2⟩:=hB.ok I.aR;have hl:=r.length;have Hr:=r2.length;refine PySem.P.add_list e e2 ?_ (by rw[Ub,Ub];lia);have ea:aA.toArray++gM.toArray=(aA++gM).toArray:=by simp
 rw[ea];exact⟨.ref _,_,I.wQ (t':=s.toks) (r.append r2) (by rw[vg];lia),rfl,q _ I.fresh⟩
end
theorem YN:MP.aO<=sizeLine:=by decide
section
variable {ct:Tx} {X:Cx} {E:XK}
noncomputable def Co:BO->Operator
 |.add=>.Add | .sub=>.Sub | .mul=>.Mult | .fdiv=>.FloorDiv | .mod=>.Mod | .pow=>.Pow
theorem cA.imp{f:aa->aa->Sem aa}{r r':R2}(o:cA X f r)(k:∀ x y H Q,r' x y H Q->r x y H Q):cA X f r':=λpins s σ H x y v u Q I rx ry q=>o pins s σ H x y v u Q I rx ry (k _ _ _ _ q)
theorem cA.rL{f:aa->aa->Sem aa}{r r':R2}(o:cA X f r)(o':cA X f r'):cA X f λx y H Q=>r x y H Q\/r' x y H Q:=λpins s σ H x y v u Q I rx ry q=>q.elim (o pins s σ H x y v u Q I rx ry) (o' pins s σ H x y v u Q I rx ry)
theorem sA{fz:Bool}{op:BO}{x y:V}{H:Hp}{Q:VK}(q:r2 ct E (Qd fz op) x y H Q):(∃ i j k,x=.int i/\y=.int j/\yM op i j=some k/\Q (.int k) H) \/
  ∃ μ h mx my,zd mx=none/\Rel ct μ h H/\RV ct μ (bc μ h) H mx x/\RV ct μ (bc μ h) H my y/\Po ct E (Qd fz op mx my h) μ h H (kV ct Q):=by
 obtain⟨μ,h,mx,my,rel,rx,ry,p⟩:=q;cases ex:zd mx with
 |none=>exact .inr ⟨μ,h,mx,my,ex,rel,rx,ry,p⟩
 |some i =>
  have:=qi ex;subst this;cases ey:zd my with
  |none =>
   unfold Qd at p;rw[ex,ey] at p;exact p.elim
  |some j =>
   have:=qi ey;subst this;unfold Qd at p;rw[ex,ey] at p;obtain⟨k,e,p⟩:=Po.opt p;refine .inl ⟨i,j,k,Zp rx,Zp ry,e,?_⟩;exact p.now rel _ (Zw k)
theorem ydi(fz:Bool):cA X (a7 .Sub) (r2 ct E (Qd fz .sub)):=cA.imp zc8 λx y H Q q=>by
 rcases sA q with ⟨i,j,k,e1,e2,e3,q⟩|⟨μ,h,mx,my,ex,rel,rx,ry,p⟩
 ·cases e3;exact⟨i,j,e1,e2,q⟩
 ·exfalso;unfold Qd at p;rw[ex] at p;cases ey:zd my <;> rw[ey] at p <;> exact p.elim
theorem QcI(fz:Bool):cA X (a7 .FloorDiv) (r2 ct E (Qd fz .fdiv)):=cA.imp qco λx y H Q q=>by
 rcases sA q with ⟨i,j,k,e1,e2,e3,q⟩|⟨μ,h,mx,my,ex,rel,rx,ry,p⟩
 ·simp only[yM] at e3;split at e3
  next c=>cases e3;exact⟨i,j,e1,e2,c,q⟩
  next=>cases e3
 ·exfalso;unfold Qd at p;rw[ex] at p;cases ey:zd my <;> rw[ey] at p <;> exact p.elim
theorem Zdk(fz:Bool):cA X (a7 .Mod) (r2 ct E (Qd fz .mod)):=cA.imp yc2 λx y H Q q=>by
 rcases sA q with ⟨i,j,k,e1,e2,e3,q⟩|⟨μ,h,mx,my,ex,rel,rx,ry,p⟩
 ·simp only[yM] at e3;split at e3
  next c=>cases e3;exact⟨i,j,e1,e2,c,q⟩
  next=>cases e3
 ·exfalso;unfold Qd at p;rw[ex] at p;cases ey:zd my <;> rw[ey] at p <;> exact p.elim
theorem Qc8(fz:Bool):cA X (a7 .Pow) (r2 ct E (Qd fz .pow)):=cA.imp Yc6 λx y H Q q=>by
 rcases sA q with ⟨i,j,k,e1,e2,e3,q⟩|⟨μ,h,mx,my,ex,rel,rx,ry,p⟩
 ·simp only[yM] at e3;split at e3
  next c=>cases e3;exact⟨i,j,e1,e2,⟨c.1,c.2.1,c.2.2⟩,q⟩
  next=>cases e3
 ·exfalso;unfold Qd at p;rw[ex] at p;cases ey:zd my <;> rw[ey] at p <;> exact p.elim
noncomputable def uO:R2:=λx y H Q=>∃ l k xs,x=.ref l/\y=.int k/\Rd H l (.lst xs)/\-(2^63)<=k/\k<2^63/\xs.length*k.toNat<=sizeLine/\∀ p,H p=none->Q (.ref p) (upd H p (.lst (uc k.toNat xs).flatten))
theorem zcT:cA X (a7 .Mult) uO:=by
 intro pins s σ H x y v u Q I rx ry h;obtain⟨l,k,xs,rfl,rfl,hH,h1,h2,hz,q⟩:=h;cases rx;obtain⟨t,rfl⟩:=ry;obtain⟨z,aA,n,r,e⟩:=hH.ok I.aR;have hl:=r.length;have hlen:aA.toArray.size*k.toNat<=sizeLine:=by rw[Ub,<- hl];exact hz
 have HM:¬ aA.toArray.size*k.toNat>(2^63-1)/8:=by
  have:(sizeLine:Nat)<=(2^63-1)/8:=by decide
  lia
 have HC:¬(!aq.List.listFitsIndex k)=true:=by
  rw[fitsIndex_both h1 h2];exact xi
 have l7:¬ aq.List.listTooLong (aA.toArray.size*k.toNat)=true:=by
  rw[LN hlen];exact xi
 have Hi:xG (λx1 x2=>x1++x2) #[] (uc (if aA.toArray.isEmpty=true then 0 else k.toNat) aA.toArray)=(uc k.toNat aA).flatten.toArray:=by
  have f0:∀ m:Nat,xG (λx1 x2=>x1++x2) #[] (uc m aA.toArray)=(uc m aA).flatten.toArray:=λm=>by
   have:=O6 aA m [];rw[uf] at this;exact this
  rw[f0];cases aA with
  |nil=>simp
  |cons a r'=>rw[if_neg (by simp)]
 refine wpAny_binaryOp_repeat_ref (T:="list") (U:="int") (by decide) ⟨_,e,rfl⟩ (λs'=>iL s' k t) noFill_list_mul F.fills_int_mul F.slot_int_rmul repeat_list F.slot_int_index.lookup
  (gy F.slot_int_rmul (iL s k t) F.entry_int_rmul (F.args_int_rmul_2 _ _) (int___rmul___int_list k t l aA.toArray n)
   ⟨e,rfl,⟨_,e,rfl⟩,gy F.slot_list_mul ⟨_,e,rfl⟩ F.entry_list_mul (F.args_list_mul_2 _ _) (AutoListH.list___mul___list_int_3 l aA.toArray n k t HC HM l7) ⟨e,?_⟩⟩)
 rw[Hi];exact⟨.ref _,_,I.wQ (t':=s.toks) (r.rep k.toNat) (by rw[qcQ,Us];exact hz),rfl,q _ I.fresh⟩
theorem aC.rep{μ:List ae}{L:ae->Prop}{H:Hp}{xs:List MV}{vs:List V}(r:aC ct μ L H xs vs):∀ n:Nat,aC ct μ L H (uc n xs).flatten (uc n vs).flatten
 |0=>by simpa using aC.nil
 |n+1=>by simp only[Xo,Ws];exact r.append (aC.rep r n)
theorem Ydc(fz:Bool):cA X (a7 .Mult) (r2 ct E (Qd fz .mul)):=cA.imp (cA.rL ZcN zcT) λx y H Q q=>by
 rcases sA q with ⟨i,j,k,e1,e2,e3,q⟩|⟨μ,h,mx,my,ex,rel,rx,ry,p⟩
 ·simp only[yM] at e3;split at e3
  next c=>cases e3;exact .inl ⟨i,j,e1,e2,c,q⟩
  next=>cases e3
 ·unfold Qd at p;rw[ex] at p;cases ey:zd my with
  |none=>rw[ey] at p;exact p.elim
  |some j =>
   rw[ey] at p;have:=qi ey;subst this;obtain⟨xs,e,p⟩:=Po.opt p;obtain⟨a,vs,rfl,rd,rs⟩:=qu rel e rx;split at p
   next c =>
    have hl:=rs.length
    right
    refine⟨a,j,vs,rfl,Zp ry,rd,c.1,c.2.1,?_,YF rel (rs.rep _) p⟩;rw[hl];exact vf c.2.2 YN
   next=>exact p.elim
theorem Yc2(fz:Bool):cA X (a7 .Add) (r2 ct E (Qd fz .add)):=cA.imp (cA.rL Yda (cA.rL QcM YcI)) λx y H Q q=>by
 rcases sA q with ⟨i,j,k,e1,e2,e3,q⟩|⟨μ,h,mx,my,ex,rel,rx,ry,p⟩
 ·cases e3;exact .inl ⟨i,j,e1,e2,q⟩
 ·unfold Qd at p;rw[ex] at p;cases ey:zd my with
  |some j=>rw[ey] at p;exact p.elim
  |none =>
   rw[ey] at p;dsimp only at p
   right
   split at p
   next xs ys e1 e2 =>
    split at p
    next c =>
     obtain⟨a,vs,rfl,n1,B7,r1⟩:=qA e1 rx;obtain⟨b,ws,rfl,n2,F7,r2⟩:=qA e2 ry;have h1:=r1.length;have h2:=r2.length;refine .inl ⟨a,b,vs,ws,rfl,rfl,.inl (.inl B7),.inl (.inl F7),λz=>c.1 (Wo (by rw[<- h1,z];rfl)),by rw[h1,h2];exact vf c.2 YN,λz=>?_,λz=>Bk rel (r1.append r2) p⟩;have:ys=[]:=Wo (by rw[<- h2,z];rfl);subst this;rw[wn] at p;exact p.now rel _ (YO n1 B7 r1)
    next=>exact p.elim
   next =>
    obtain⟨xs,e1,p⟩:=Po.opt p;obtain⟨ys,e2,p⟩:=Po.opt p;split at p
    next c =>
     obtain⟨a,vs,rfl,B7,r1⟩:=qu rel e1 rx;obtain⟨b,ws,rfl,F7,r2⟩:=qu rel e2 ry;have h1:=r1.length;have h2:=r2.length;exact .inr ⟨a,b,vs,ws,rfl,rfl,B7,F7,by rw[h1,h2];exact vf c YN,YF rel (r1.append r2) p⟩
    next=>exact p.elim
theorem Yc4(fz:Bool):∀ op:BO,cA X (a7 (Co op)) (r2 ct E (Qd fz op))
 |.add=>Yc2 fz | .sub=>ydi fz | .mul=>Ydc fz | .fdiv=>QcI fz | .mod=>Zdk fz | .pow=>Qc8 fz
end
mutual
noncomputable def eL:FV->aB
 |.bI=>.none
 |.bl b=>.bool b
 |.int i=>.int i
 |.str s=>.str s
 |.tup xs=>.tuple (yw xs)
 |.lst xs=>.list (yw xs)
 |.obj _ _ _=>.none
 |.dm _=>.none
 |.tab _=>.none
 |.cV _=>.none
noncomputable def yw:List FV->List aB
 |[]=>[]
 |x::xs=>eL x::yw xs
end
theorem NV:∀ xs:List FV,yw xs=xs.map eL
 |[]=>by simp[yw]
 |x::xs=>by simp[yw,NV xs]
section
variable {ct:Tx} {X:Cx} {E:XK}
theorem BU{n:Nat}:∀ xs:List FV,(∀ x∈xs,(eL x).canLay0=true/\(eL x).depth<=n)->aB.canLayAll0 (yw xs)=true/\aB.depthAll (yw xs)<=n
 |[],_=>by simp[yw,aB.canLayAll0,aB.depthAll]
 |x::xs,f=>by
  have h1:=f x (by simp);have h2:=BU xs λy hy=>f y (by simp[hy]);simp only[yw,aB.canLayAll0,aB.depthAll,h1.1,h2.1,Bool.and_self,true_and];have a1:=h1.2;have a2:=h2.2
  lia
theorem Bl:∀(n:Nat)(x:FV),cj n x=true->(eL x).canLay0=true/\(eL x).depth<=n
 |0,x,e=>by cases x <;> simp[cj] at e
 |n+1,.bI,_=>by simp[eL,aB.canLay0,aB.depth]
 |n+1,.bl _,_=>by simp[eL,aB.canLay0,aB.depth]
 |n+1,.int _,_=>by simp[eL,aB.canLay0,aB.depth]
 |n+1,.str s,e=>by
  have e':aB.strOk s=true:=e;simp[eL,aB.canLay0,aB.depth,e']
 |n+1,.tup xs,e=>by
  have q:=BU (n:=n) xs λx hx=>Bl n x (by simp[cj] at e;exact e x hx);have q2:=q.2;simp only[eL,aB.canLay0,aB.depth,q.1,true_and]
  lia
 |n+1,.lst xs,e=>by
  have q:=BU (n:=n) xs λx hx=>Bl n x (by simp[cj] at e;exact e x hx);have q2:=q.2;simp only[eL,aB.canLay0,aB.depth,q.1,true_and]
  lia
 |n+1,.obj _ _ _,e=>by simp[cj] at e
 |n+1,.dm _,e=>by simp[cj] at e
 |n+1,.tab _,e=>by simp[cj] at e
 |n+1,.cV _,e=>by simp[cj] at e
theorem DE{x:FV}(e:cj 8 x=true):SeqAt.shaped (eL x)=true:=by
 have:=Bl 8 x e;unfold SeqAt.shaped;rw[this.1,Bool.true_and];exact decide_eq_true (by have:=this.2;lia)
mutual
theorem Dh:∀(n:Nat)(x y:FV),cj n x=true->cj n y=true->aB.eqv (eL x) (eL y)=fR x y
 |0,x,_,e,_=>by cases x <;> simp[cj] at e
 |n+1,.tup xs,.tup ys,e,e'=>by
  simp only[eL,aB.eqv,fR];exact JF n xs ys (by simpa[cj] using e) (by simpa[cj] using e')
 |n+1,.lst xs,.lst ys,e,e'=>by
  simp only[eL,aB.eqv,fR];exact JF n xs ys (by simpa[cj] using e) (by simpa[cj] using e')
 |n+1,.bI,y,e,e'=>by cases y <;> simp_all [cj,eL,aB.eqv,fR]
 |n+1,.bl _,y,e,e'=>by cases y <;> simp_all [cj,eL,aB.eqv,fR]
 |n+1,.int _,y,e,e'=>by cases y <;> simp_all [cj,eL,aB.eqv,fR]
 |n+1,.str _,y,e,e'=>by cases y <;> simp_all [cj,eL,aB.eqv,fR]
 |n+1,.tup _,.bI,e,e'=>by simp[eL,aB.eqv,fR]
 |n+1,.tup _,.bl _,e,e'=>by simp[eL,aB.eqv,fR]
 |n+1,.tup _,.int _,e,e'=>by simp[eL,aB.eqv,fR]
 |n+1,.tup _,.str _,e,e'=>by simp[eL,aB.eqv,fR]
 |n+1,.tup _,.lst _,e,e'=>by simp[eL,aB.eqv,fR]
 |n+1,.tup _,.obj _ _ _,e,e'=>by simp[cj] at e'
 |n+1,.tup _,.dm _,e,e'=>by simp[cj] at e'
 |n+1,.tup _,.tab _,e,e'=>by simp[cj] at e'
 |n+1,.tup _,.cV _,e,e'=>by simp[cj] at e'
 |n+1,.lst _,.bI,e,e'=>by simp[eL,aB.eqv,fR]
 |n+1,.lst _,.bl _,e,e'=>by simp[eL,aB.eqv,fR]
 |n+1,.lst _,.int _,e,e'=>by simp[eL,aB.eqv,fR]
 |n+1,.lst _,.str _,e,e'=>by simp[eL,aB.eqv,fR]
 |n+1,.lst _,.tup _,e,e'=>by simp[eL,aB.eqv,fR]
 |n+1,.lst _,.obj _ _ _,e,e'=>by simp[cj] at e'
 |n+1,.lst _,.dm _,e,e'=>by simp[cj] at e'
 |n+1,.lst _,.tab _,e,e'=>by simp[cj] at e'
 |n+1,.lst _,.cV _,e,e'=>by simp[cj] at e'
 |n+1,.obj _ _ _,_,e,_=>by simp[cj] at e
 |n+1,.dm _,_,e,_=>by simp[cj] at e
 |n+1,.tab _,_,e,_=>by simp[cj] at e
 |n+1,.cV _,_,e,_=>by simp[cj] at e
theorem JF:∀(n:Nat)(xs ys:List FV),(∀ x∈xs,cj n x=true)->(∀ y∈ys,cj n y=true)->aB.eqvAll (yw xs) (yw ys)=mL xs ys
 |n,[],[],_,_=>by simp[yw,aB.eqvAll,mL]
 |n,[],_::_,_,_=>by simp[yw,aB.eqvAll,mL]
 |n,_::_,[],_,_=>by simp[yw,aB.eqvAll,mL]
 |n,x::xs,y::ys,e,e'=>by
  simp only[yw,aB.eqvAll,mL];rw[Dh n x y (e x (by simp)) (e' y (by simp)),JF n xs ys (λz hz=>e z (by simp[hz])) (λz hz=>e' z (by simp[hz]))]
end
mutual
theorem QO{P:aj}{w:World}{L:ae->Prop}{H:Hp}{hp:Heap}(aR:fe P w H hp):∀(n:Nat)(x:FV)(v:V)(u:aa),cj n x=true->RF ct L H x v->RelV v u->∃ as,Reads hp u (eL x) as
 |0,x,_,_,e,_,_=>by cases x <;> simp[cj] at e
 |n+1,.bI,v,u,_,r,q=>by simp only[RF] at r;subst r;cases q;exact⟨_,.none⟩
 |n+1,.bl _,v,u,_,r,q=>by simp only[RF] at r;subst r;cases q;exact⟨_,.bool _⟩
 |n+1,.int _,v,u,_,r,q=>by simp only[RF] at r;subst r;obtain⟨t,rfl⟩:=q;exact⟨_,.int _ _⟩
 |n+1,.str _,v,u,_,r,q=>by simp only[RF] at r;subst r;obtain⟨t,rfl⟩:=q;exact⟨_,.str _ _⟩
 |n+1,.tup xs,v,u,e,r,q=>by
  simp only[RF] at r;obtain⟨a,vs,rfl,_,rd,rs⟩:=r;cases q;obtain⟨z,aA,rv,o,e1,e2,k,e3⟩:=(Rd.of rd).ok aR;obtain⟨as,ra⟩:=yB aR n xs vs aA (by simpa[cj] using e) rs rv;exact⟨as,iQ e1 e2 e3 ra⟩
 |n+1,.lst xs,v,u,e,r,q=>by
  simp only[RF] at r;obtain⟨a,vs,rfl,_,rd,rs⟩:=r;cases q;obtain⟨z,aA,k,rv,e1⟩:=rd.ok aR;obtain⟨as,ra⟩:=yB aR n xs vs aA (by simpa[cj] using e) rs rv;exact⟨_,jj e1 rfl rfl ra⟩
 |n+1,.obj _ _ _,_,_,e,_,_=>by simp[cj] at e
 |n+1,.dm _,_,_,e,_,_=>by simp[cj] at e
 |n+1,.tab _,_,_,e,_,_=>by simp[cj] at e
 |n+1,.cV _,_,_,e,_,_=>by simp[cj] at e
theorem yB{P:aj}{w:World}{L:ae->Prop}{H:Hp}{hp:Heap}(aR:fe P w H hp):∀(n:Nat)(xs:List FV)(vs:List V)(us:List aa),(∀ x∈xs,cj n x=true)->fb ct L H xs vs->Vals vs us->∃ as,ReadsAll hp us (yw xs) as
 |n,[],vs,us,_,r,q=>by simp only[fb] at r;subst r;cases q;exact⟨[],by simpa only[yw] using ReadsAll.nil⟩
 |n,x::xs,vs,us,e,r,q=>by
  simp only[fb] at r;obtain⟨v,t,rfl,r1,r2⟩:=r;cases q with
  |cons q1 q2 =>
   obtain⟨as,h1⟩:=QO aR n x v _ (e x (by simp)) r1 q1;obtain⟨bs,h2⟩:=yB aR n xs t _ (λz hz=>e z (by simp[hz])) r2 q2;exact⟨as++bs,by simp only[yw];exact .cons h1 h2⟩
end
noncomputable abbrev Cm:ae->Prop:=λ_=>False
section
variable {μ:List ae} {h:MH} {H:Hp}
theorem Dn{g:MV->Option FV}:∀{xs:List MV}{ys:List FV}{vs:List V},xs.mapM g=some ys->aC ct μ (bc μ h) H xs vs ->
  (∀ x∈xs,∀ y v,g x=some y->RV ct μ (bc μ h) H x v->RF ct Cm H y v)->fb ct Cm H ys vs
 |[],ys,vs,e,r,_=>by
  simp at e;subst e;simp only[aC] at r;subst r;simp only[fb]
 |x::xs,ys,vs,e,r,f=>by
  simp only[Vo,Wu,Wc,Option.pure_def,Option.some.injEq] at e;obtain⟨y,e1,zs,e2,rfl⟩:=e;simp only[aC] at r;obtain⟨v,t,rfl,r1,r2⟩:=r;simp only[fb];exact⟨v,t,rfl,f x (by simp) y v e1 r1,Dn e2 r2 λz hz=>f z (by simp[hz])⟩
theorem Qu(rel:Rel ct μ h H):∀(n:Nat)(m:MV)(x:FV)(v:V),Zo h n m=some x->RV ct μ (bc μ h) H m v->RF ct Cm H x v
 |0,m,x,v,e,_=>by simp[Zo] at e
 |n+1,.f y,x,v,e,r=>by
  simp[Zo] at e;subst e;simp only[RV] at r;exact RF.to ⟨λ_ _ e _=>e,λ_ _ _ _ z=>z⟩ r
 |n+1,.tup xs,x,v,e,r=>by
  simp only[Zo,Vd] at e;obtain⟨ys,e1,rfl⟩:=e;simp only[RV] at r;obtain⟨a,vs,rfl,na,rd,q⟩:=r;simp only[RF];exact⟨a,vs,rfl,λz=>z,rd,Dn e1 q λz hz y u ez ru=>Qu rel n z y u ez ru⟩
 |n+1,.ref i,x,v,e,r=>by
  simp only[Zo,Wc,Vd] at e;obtain⟨xs,e0,ys,e1,rfl⟩:=e;simp only[RV] at r;obtain⟨b,eb,rfl⟩:=r;obtain⟨b',vs,iH,hb,q⟩:=rel.lst e0;rw[eb] at iH;cases iH;simp only[RF];exact⟨b,vs,rfl,λz=>z,.inl hb,Dn e1 q λz hz y u ez ru=>Qu rel n z y u ez ru⟩
 |n+1,.exc _,x,v,e,_=>by simp[Zo] at e
end
noncomputable def kR:CO->fH
 |.lt=>.Lt | .le=>.LtE | .gt=>.Gt | .ge=>.GtE | .eq=>.Eq | .ne=>.NotEq | .gZ=>.In | .ly=>.NotIn
noncomputable def mP(ct:Tx)(op:CO):R2:=λx y H Q=>∃ μ h mx my b,Rel ct μ h H/\RV ct μ (bc μ h) H mx x/\RV ct μ (bc μ h) H my y/\ZF op mx my h=some b/\Q (.bl b) H
theorem DB{op:CO}{x y:V}{H:Hp}{Q:VK}(ho:∀ mx my h,ZF op mx my h=(zd mx).bind λi=>(zd my).bind λj=>oJ op i j)(q:mP ct op x y H Q):∃ i j b,x=.int i/\y=.int j/\oJ op i j=some b/\Q (.bl b) H:=by
 obtain⟨μ,h,mx,my,b,rel,rx,ry,e,q⟩:=q;rw[ho] at e;simp only[Wc] at e;obtain⟨i,e1,j,e2,e3⟩:=e;have:=qi e1;subst this;have:=qi e2;subst this;exact⟨i,j,b,Zp rx,Zp ry,e3,q⟩
theorem vU:cA X (aL .Lt) (mP ct .lt):=cA.imp vM λx y H Q q=>by
 obtain⟨i,j,b,e1,e2,e3,q⟩:=DB (λ_ _ _=>rfl) q;cases e3;exact⟨i,j,e1,e2,q⟩
theorem vV:cA X (aL .LtE) (mP ct .le):=cA.imp vN λx y H Q q=>by
 obtain⟨i,j,b,e1,e2,e3,q⟩:=DB (λ_ _ _=>rfl) q;cases e3;exact⟨i,j,e1,e2,q⟩
theorem vX:cA X (aL .Gt) (mP ct .gt):=cA.imp vO λx y H Q q=>by
 obtain⟨i,j,b,e1,e2,e3,q⟩:=DB (λ_ _ _=>rfl) q;cases e3;exact⟨i,j,e1,e2,q⟩
theorem vY:cA X (aL .GtE) (mP ct .ge):=cA.imp vP λx y H Q q=>by
 obtain⟨i,j,b,e1,e2,e3,q⟩:=DB (λ_ _ _=>rfl) q;cases e3;exact⟨i,j,e1,e2,q⟩
theorem NX{x y:FV}{b:Bool}(e:lH x y=some b):cj 8 x=true/\cj 8 y=true/\fR x y=b:=by
 unfold lH at e;split at e
 next c=>cases e;exact⟨c.1,c.2,rfl⟩
 next=>cases e
theorem vZ(hu:X.A.units+65<cR):cA X (aL .Eq) (mP ct .eq):=by
 intro pins s σ H x y v u Q I rx ry q;obtain⟨μ,h,mx,my,b,rel,r1,r2,e,q⟩:=q;simp only[ZF,Wc] at e;obtain⟨a,e1,c,e2,e3⟩:=e;obtain⟨d1,d2,e4⟩:=NX e3;obtain⟨as,ra⟩:=QO I.aR 8 a x v d1 (Qu rel 5 mx a x e1 r1) rx;obtain⟨bs,rb⟩:=QO I.aR 8 c y u d2 (Qu rel 5 my c y e2 r2) ry;refine eq_dataH ra rb (DE d1) (DE d2) (by lia) ?_;rw[Dh 8 a c d1 d2,e4];exact⟨.bl b,H,I,rfl,q⟩
theorem vT(hu:X.A.units+65<cR):cA X (aL .NotEq) (mP ct .ne):=by
 intro pins s σ H x y v u Q I rx ry q;obtain⟨μ,h,mx,my,b,rel,r1,r2,e,q⟩:=q;simp only[ZF,Wc,Vd] at e;obtain⟨a,e1,c,e2,b',e3,rfl⟩:=e;obtain⟨d1,d2,e4⟩:=NX e3;obtain⟨as,ra⟩:=QO I.aR 8 a x v d1 (Qu rel 5 mx a x e1 r1) rx;obtain⟨bs,rb⟩:=QO I.aR 8 c y u d2 (Qu rel 5 my c y e2 r2) ry;refine ne_dataH ra rb (DE d1) (DE d2) (by lia) ?_;rw[Dh 8 a c d1 d2,e4];exact⟨.bl _,H,I,rfl,q⟩
end
end SD
end
section
namespace HT
open PySem PyProof.Rows
section
variable {prog:aj} {w:World} {A:aw} {E:aa->af->Prop} {s:af}
theorem fQ{t sl:ae}{items:Array aa}{vl vu:aa}{lo hi:Option Int}{Q:aa->af->Prop}(ht:f' s.heap t items)(hs:s.heap.IsSliceOf sl vl vu .none)(pl:eX vl lo)(pu:eX vu hi)
  (hw:cf items.size 0 lo=0/\cf items.size items.size hi=items.size) (h:Q (.ref t) s):ah (ak prog w) A (getItem (.ref t) (.ref sl)) Q E s:=by
 obtain⟨os,pD,nI,Am⟩:=id hs;have HS:s.TypeIs (.ref sl) "slice":=⟨os,pD,nI⟩;unfold getItem
 try with_reducible refine aK ?_
 first|refine ab (ag ?_)|skip
 refine ab (gG ht.typeIs (by decide) ?_);refine ab (aU (name:=Str.ofString "__getitem__") ht.typeIs PyProof.Rows.slot_tuple_getitem
  (bj PyProof.Rows.slot_tuple_getitem ht.typeIs entry_tuple_getitem ?_ (gA _ _)))
 show ah _ _ (aq.Tuple.tupleItemsOf (.ref t) >>= _) _ _ s;refine ab (je ht ?_);refine ab (cC HS ?_);rw[if_pos (by decide)];refine ab (ZP hs pl pu ?_);have G4:(((cf items.size 0 lo:Nat):Int)==0&&(1:Int)==1&&(cf items.size items.size hi-cf items.size 0 lo)==items.size)=true:=by
  rw[hw.1,hw.2];simp
 show ah _ _ (if(((cf items.size 0 lo:Nat):Int)==0&&(1:Int)==1&&(cf items.size items.size hi-cf items.size 0 lo)==items.size)=true then _ else _) _ _ s;rw[if_pos G4];unfold aq.Tuple.tupleIsExact;refine ab (ab (cC ht.typeIs (ag ?_)));rw[if_pos (by decide)]
 first
  |exact ab (cT (ab (ag (ag ⟨_,rfl,ag h⟩))))
  |exact ab (cT (ag ⟨_,rfl,ag h⟩))
  |exact ab (cT (ab (ag ⟨_,rfl,ag h⟩)))
end
end HT
namespace SD
open PySem PySem.Spec PyProof.Rows L2 L3 M3 MP
section
variable {ct:Tx} {X:Cx} {E:XK}
theorem Qcn{x:FV}{ys:List FV}{b:Bool}(e:nC x ys=some b):cj 8 x=true/\(∀ y∈ys,cj 8 y=true)/\ys.any (λy=>fR y x)=b:=by
 unfold nC at e;split at e
 next c=>cases e;exact⟨c.1,by simpa using c.2,rfl⟩
 next=>cases e
theorem zcO{x:FV}{ys:List FV}(hx:cj 8 x=true)(hy:∀ y∈ys,cj 8 y=true):(yw ys).any (λy=>aB.eqv y (eL x))=ys.any λy=>fR y x:=by
 rw[NV,VD]
 induction ys with
 |nil=>rfl
 |cons y ys ih =>
  simp only[ut,xu];rw[Dh 8 y x (hy y (by simp)) hx,ih λz hz=>hy z (by simp[hz])]
theorem NJ{μ:List ae}{h:MH}{H:Hp}{mx my:MV}{ys:List MV}{a:FV}{bs:List FV}{x y:V}{v u:aa}{b:Bool}{pins:List (ae×Obj)}{σ:L2.St}{s:af}(hK:X.K=ct.K)(I:Inv X pins σ H s)(rel:Rel ct μ h H)(rx:RelV x v)(ry:RelV y u)
  (r1:RV ct μ (bc μ h) H mx x) (r2:RV ct μ (bc μ h) H my y) (e1:zP h mx=some a) (e2:Qb h my=some ys) (e3:ys.mapM (zP h)=some bs) (e4:nC a bs=some b) :
  (∃ as sf,(Reads s.heap u (.list (yw bs)) as\/Reads s.heap u (.tuple (yw bs)) as)/\Reads s.heap v (eL a) sf)/\aB.canLayAll0 (yw bs)=true/\(eL a).canLay0=true/\aB.depthAll (yw bs)<=8/\(yw bs).any (λy=>aB.eqv y (eL a))=b:=by
 obtain⟨d1,d2,e5⟩:=Qcn e4;obtain⟨sf,ra⟩:=QO I.aR 8 a x v d1 (Qu rel 5 mx a x e1 r1) rx;obtain⟨k,p,vs,rfl,sq,rs⟩:=ZA rel e2 r2;cases ry;have rf:fb ct Cm H bs vs:=Dn e3 rs λz hz y u ez ru=>Qu rel 5 z y u ez ru;have ll:=BU (n:=8) bs λy hy=>Bl 8 y (d2 y hy);refine⟨?_,ll.1,(Bl 8 a d1).1,ll.2,by rw[zcO d1 d2];exact e5⟩;cases k with
 |true =>
  obtain⟨aA,rv,⟨o,q1,q2,n,q3⟩,_⟩:=I.tuple (show fU X.K H p vs from sq.s hK);obtain⟨as,rb⟩:=yB I.aR 8 bs vs aA d2 rf rv;exact⟨as,sf,.inr (iQ q1 q2 q3 rb),ra⟩
 |false =>
  obtain⟨aA,rv,⟨o,n,q1,q2,_,q3⟩,_⟩:=I.list (show fq X.K H p vs from sq.s hK);obtain⟨as,rb⟩:=yB I.aR 8 bs vs aA d2 rf rv;exact⟨_,sf,.inl (jj q1 q2 q3 rb),ra⟩
theorem vW(hK:X.K=ct.K)(hu:X.A.units+65<cR):cA X (aL .In) (mP ct .gZ):=by
 intro pins s σ H x y v u Q I rx ry q;obtain⟨μ,h,mx,my,b,rel,r1,r2,e,q⟩:=q;simp only[ZF,Wc] at e;obtain⟨a,e1,ys,e2,bs,e3,e4⟩:=e;obtain⟨⟨as,sf,rb,ra⟩,l1,l2,l3,e5⟩:=NJ hK I rel rx ry r1 r2 e1 e2 e3 e4
 rcases rb with rb|rb
 ·exact SeqAt.in_list_reads rb ra l1 l2 (by have:=ux (aB.depthAll (yw bs)) (eL a).depth;lia) (by rw[e5];exact⟨.bl b,H,I,rfl,q⟩)
 ·exact SeqAt.in_tuple_reads rb ra l1 l2 (by have:=ux (aB.depthAll (yw bs)) (eL a).depth;lia) (by rw[e5];exact⟨.bl b,H,I,rfl,q⟩)
theorem Qdj(hK:X.K=ct.K)(hu:X.A.units+65<cR):cA X (aL .NotIn) (mP ct .ly):=by
 intro pins s σ H x y v u Q I rx ry q;obtain⟨μ,h,mx,my,b,rel,r1,r2,e,q⟩:=q;simp only[ZF,Wc,Vd] at e;obtain⟨a,e1,ys,e2,bs,e3,b',e4,rfl⟩:=e;obtain⟨⟨as,sf,rb,ra⟩,l1,l2,l3,e5⟩:=NJ hK I rel rx ry r1 r2 e1 e2 e3 e4
 rcases rb with rb|rb
 ·exact SeqAt.notIn_list_reads rb ra l1 l2 (by have:=ux (aB.depthAll (yw bs)) (eL a).depth;lia) (by rw[e5];exact⟨.bl _,H,I,rfl,q⟩)
 ·exact SeqAt.notIn_tuple_reads rb ra l1 l2 (by have:=ux (aB.depthAll (yw bs)) (eL a).depth;lia) (by rw[e5];exact⟨.bl _,H,I,rfl,q⟩)
theorem rD(hK:X.K=ct.K)(hu:X.A.units+65<cR):∀ op:CO,cA X (aL (kR op)) (mP ct op)
 |.lt=>vU | .le=>vV | .gt=>vX | .ge=>vY | .eq=>vZ hu | .ne=>vT hu | .gZ=>vW hK hu | .ly=>Qdj hK hu
theorem Oy(n:Nat)(i:Int):jW n i=rO n i:=rfl
noncomputable def Gh(ct:Tx):R2:=λx y H Q=>∃ μ h mx k xs m,Rel ct μ h H/\RV ct μ (bc μ h) H mx x/\y=.int k/\Qb h mx=some xs/\cW xs k=some m/\∀ v,RV ct μ (bc μ h) H m v->Q v H
theorem zcU(hK:X.K=ct.K):Bq X (Gh ct):=by
 intro value slice pins s σ H x y v u Q I rx ry q hs;obtain⟨μ,h,mx,k,xs,m,rel,r,rfl,e1,e2,q⟩:=q;obtain⟨b,a,vs,rfl,sq,rs⟩:=ZA rel e1 r;unfold cW at e2;rw[Wc] at e2;obtain⟨j,e3,e4⟩:=e2;obtain⟨w,ew,rw_⟩:=rs.get e4;refine GZ X.K rfl value slice pins s σ H (.ref a) (.int k) v u Q I rx ry ⟨b,a,vs,k,w,rfl,rfl,sq.s hK,?_,q w rw_⟩ hs;unfold se;rw[rs.length,<- Oy,e3];exact ew
theorem Je{μ:List ae}{L:ae->Prop}{H:Hp}{xs:List MV}{vs:List V}(r:aC ct μ L H xs vs)(lo hi:Option Int):aC ct μ L H (j8 xs lo hi) (nZ vs lo hi):=by
 unfold j8 nZ;rw[r.length];exact(r.drop _).take _
noncomputable def F'(ct:Tx)(E:XK)(fz:Bool):V->Option Int->Option Int->Hp->VK->Prop:=λx lo hi H Q=>∃ μ h m,Rel ct μ h H/\RV ct μ (bc μ h) H m x/\Po ct E (oI fz m lo hi h) μ h H (kV ct Q)
theorem YcJ(hK:X.K=ct.K)(fz:Bool):Dx X (F' ct E fz):=by
 intro pins s σ H x v vl vu lo hi sl Q I rx hs pl pu q;obtain⟨μ,h,m,rel,r,p⟩:=q;unfold oI at p;split at p
 next xs e =>
  obtain⟨a,vs,rfl,n,rd,rs⟩:=qA e r;by_cases hw:HT.cf vs.length 0 lo=0/\HT.cf vs.length vs.length hi=vs.length
  ·cases rx;obtain⟨aA,rv,ht,hz⟩:=I.tuple (show fU X.K H a vs from .inl (.inl rd));have hlen:aA.toArray.size=vs.length:=by rw[Ub];exact rv.length.symm
   refine⟨"tuple",_,PyProof.Rows.slot_tuple_getitem.lookup,ht.typeIs,HT.fQ ht hs pl pu (by rw[hlen];exact hw) ?_⟩;have hc:j8 xs lo hi=xs:=by
    have hl:=rs.length;unfold j8;show(xs.drop (HT.cf xs.length 0 lo)).take (HT.cf xs.length xs.length hi-HT.cf xs.length 0 lo)=xs;rw[<- hl,hw.1,hw.2,xq,Xx,hl,uq]
   rw[hc] at p;exact⟨.ref a,H,I,rfl,p.now rel _ (YO n rd rs)⟩
  ·exact zc4 pins s σ H (.ref a) v vl vu lo hi sl Q I rx hs pl pu ⟨a,vs,rfl,.inl (.inl rd),hw,Bk rel (Je rs lo hi) p⟩
 next e =>
  obtain⟨xs,e1,p⟩:=Po.opt p
  rcases YB e1 with e2|e2|⟨ns,rfl,rfl⟩
  ·rw[e] at e2;cases e2
  ·obtain⟨a,vs,rfl,rd,rs⟩:=qu rel e2 r;exact LQ pins s σ H (.ref a) v vl vu lo hi sl Q I rx hs pl pu ⟨a,vs,rfl,.inl rd,YF rel (Je rs lo hi) p⟩
  ·simp only[RV,RF] at r;obtain⟨a,rfl,q⟩:=r;exact LQ pins s σ H (.ref a) v vl vu lo hi sl Q I rx hs pl pu ⟨a,_,rfl,by rw[hK];exact Bz q,YF rel (Je (sk ns) lo hi) p⟩
end
section
variable {ct:Tx} {X:Cx} {E:XK}
theorem aP.imp{f:aa}{r r':List V->Hp->VK->Prop}(o:aP X f r)(k:∀ xs H Q,r' xs H Q->r xs H Q):aP X f r':=λpins s σ H xs us Q I rv q=>o pins s σ H xs us Q I rv (k _ _ _ q)
theorem aP.rL{f:aa}{r r':List V->Hp->VK->Prop}(o:aP X f r)(o':aP X f r'):aP X f λxs H Q=>r xs H Q\/r' xs H Q:=λpins s σ H xs us Q I rv q=>q.elim (o pins s σ H xs us Q I rv) (o' pins s σ H xs us Q I rv)
noncomputable def rB(ct:Tx)(E:XK)(fz:Bool)(n:String):List V->Hp->VK->Prop:=λvs H Q=>∃ μ h ms,Rel ct μ h H/\aC ct μ (bc μ h) H ms vs/\Po ct E (Yr fz n ms h) μ h H (kV ct Q)
theorem Zy{μ:List ae}{L:ae->Prop}{H:Hp}{m:MV}{vs:List V}(r:aC ct μ L H [m] vs):∃ v,vs=[v]/\RV ct μ L H m v:=by
 simp only[aC] at r;obtain⟨v,t,rfl,r1,rfl⟩:=r;exact⟨v,rfl,r1⟩
theorem Dw{μ:List ae}{L:ae->Prop}{H:Hp}{m m':MV}{vs:List V}(r:aC ct μ L H [m,m'] vs):∃ v v',vs=[v,v']/\RV ct μ L H m v/\RV ct μ L H m' v':=by
 simp only[aC] at r;obtain⟨v,t,rfl,r1,v',t',rfl,r2,rfl⟩:=r;exact⟨v,v',rfl,r1,r2⟩
theorem y0{μ:List ae}{L:ae->Prop}{H:Hp}:∀{xs:List MV}{ns:List Int}{vs:List V},Zg xs=some ns->aC ct μ L H xs vs->vs=ns.map V.int
 |[],ns,vs,e,r=>by simp[Zg] at e;subst e;simp only[aC] at r;subst r;rfl
 |.f (.int i)::xs,ns,vs,e,r=>by
  simp only[Zg,Vd] at e;obtain⟨ms,e1,rfl⟩:=e;simp only[aC] at r;obtain⟨v,t,rfl,r1,r2⟩:=r;rw[Zp r1,y0 e1 r2];rfl
 |.f .bI::_,_,_,e,_=>by simp[Zg] at e
 |.f (.bl _)::_,_,_,e,_=>by simp[Zg] at e
 |.f (.str _)::_,_,_,e,_=>by simp[Zg] at e
 |.f (.tup _)::_,_,_,e,_=>by simp[Zg] at e
 |.f (.lst _)::_,_,_,e,_=>by simp[Zg] at e
 |.f (.obj _ _ _)::_,_,_,e,_=>by simp[Zg] at e
 |.f (.dm _)::_,_,_,e,_=>by simp[Zg] at e
 |.f (.tab _)::_,_,_,e,_=>by simp[Zg] at e
 |.f (.cV _)::_,_,_,e,_=>by simp[Zg] at e
 |.ref _::_,_,_,e,_=>by simp[Zg] at e
 |.tup _::_,_,_,e,_=>by simp[Zg] at e
 |.exc _::_,_,_,e,_=>by simp[Zg] at e
theorem N5{μ:List ae}{L:ae->Prop}{H:Hp}:∀{xs:List MV}{ns:List Bool}{vs:List V},zv xs=some ns->aC ct μ L H xs vs->vs=ns.map V.bl
 |[],ns,vs,e,r=>by simp[zv] at e;subst e;simp only[aC] at r;subst r;rfl
 |.f (.bl i)::xs,ns,vs,e,r=>by
  simp only[zv,Vd] at e;obtain⟨ms,e1,rfl⟩:=e;simp only[aC] at r;obtain⟨v,t,rfl,r1,r2⟩:=r;rw[rH r1,N5 e1 r2];rfl
 |.f .bI::_,_,_,e,_=>by simp[zv] at e
 |.f (.int _)::_,_,_,e,_=>by simp[zv] at e
 |.f (.str _)::_,_,_,e,_=>by simp[zv] at e
 |.f (.tup _)::_,_,_,e,_=>by simp[zv] at e
 |.f (.lst _)::_,_,_,e,_=>by simp[zv] at e
 |.f (.obj _ _ _)::_,_,_,e,_=>by simp[zv] at e
 |.f (.dm _)::_,_,_,e,_=>by simp[zv] at e
 |.f (.tab _)::_,_,_,e,_=>by simp[zv] at e
 |.f (.cV _)::_,_,_,e,_=>by simp[zv] at e
 |.ref _::_,_,_,e,_=>by simp[zv] at e
 |.tup _::_,_,_,e,_=>by simp[zv] at e
 |.exc _::_,_,_,e,_=>by simp[zv] at e
theorem sF.len{H:Hp}{K:PySem.W.Frag}{b:Bool}{a:ae}{vs:List V}(hK:K=ct.K)(q:sF ct H b a vs):fq K H a vs\/fU K H a vs:=by
 subst hK;cases b with
 |false=>exact .inl q
 |true=>exact .inr q
theorem Qde(hK:X.K=ct.K)(fz:Bool):aP X (.builtin "len") (rB ct E fz "len"):=aP.imp (xH X.K) λvs H Q q=>by
 obtain⟨μ,h,ms,rel,r0,p⟩:=q
 rcases ms with _|⟨m,_|⟨m2,ms⟩⟩
 ·exact p.elim
 ·obtain⟨v,rfl,rm⟩:=Zy r0;obtain⟨xs,e,p⟩:=Po.opt p;obtain⟨b,a,ws,rfl,sq,rs⟩:=ZA rel e rm;exact⟨a,ws,rfl,sq.len hK,by rw[rs.length];exact p.now rel _ (Zw _)⟩
 ·exact p.elim
theorem zdk(hK:X.K=ct.K)(fz:Bool)(hc:X.calm=true):aP X (.builtin "sum") (rB ct E fz "sum"):=aP.imp (w4 X.K hc) λvs H Q q=>by
 obtain⟨μ,h,ms,rel,r0,p⟩:=q
 rcases ms with _|⟨m,_|⟨m2,ms⟩⟩
 ·exact p.elim
 ·obtain⟨v,rfl,rm⟩:=Zy r0;obtain⟨ns,e,p⟩:=Po.opt p;rw[Wc] at e;obtain⟨xs,e1,e2⟩:=e;obtain⟨b,a,ws,rfl,sq,rs⟩:=ZA rel e1 rm;have:=y0 e2 rs;subst this;exact⟨b,a,ns,rfl,sq.s hK,p.now rel _ (Zw _)⟩
 ·exact p.elim
theorem Yc3(hK:X.K=ct.K)(fz:Bool)(hc:X.calm=true):aP X (.builtin "all") (rB ct E fz "all"):=aP.imp (k_all X.K hc) λvs H Q q=>by
 obtain⟨μ,h,ms,rel,r0,p⟩:=q
 rcases ms with _|⟨m,_|⟨m2,ms⟩⟩
 ·exact p.elim
 ·obtain⟨v,rfl,rm⟩:=Zy r0;obtain⟨ns,e,p⟩:=Po.opt p;rw[Wc] at e;obtain⟨xs,e1,e2⟩:=e;obtain⟨b,a,ws,rfl,sq,rs⟩:=ZA rel e1 rm;have:=N5 e2 rs;subst this;exact⟨b,a,ns,rfl,sq.s hK,p.now rel _ (ZC _)⟩
 ·exact p.elim
theorem zde(hK:X.K=ct.K)(fz:Bool)(hc:X.calm=true):aP X (.builtin "min") (rB ct E fz "min"):=aP.imp (aP.rL (w6 X.K hc) (qcb hc)) λvs H Q q=>by
 obtain⟨μ,h,ms,rel,r0,p⟩:=q
 rcases ms with _|⟨m,_|⟨m2,_|⟨m3,ms⟩⟩⟩
 ·exact p.elim
 ·left
  obtain⟨v,rfl,rm⟩:=Zy r0;obtain⟨ns,e,p⟩:=Po.opt p;rw[Wc] at e;obtain⟨xs,e1,e2⟩:=e;obtain⟨b,a,ws,rfl,sq,rs⟩:=ZA rel e1 rm;have:=y0 e2 rs;subst this;cases ns with
  |nil=>exact p.elim
  |cons n ns =>
   refine⟨b,a,n::ns,rfl,sq.s hK,by simp,λk hk hl=>?_⟩;have:k=mI n ns:=by
    have a1:=hl _ (Ex (r:=n::ns) (by simp));have a2:=QcS (r:=n::ns) hk;exact Int.le_antisymm a1 a2
   subst this;exact p.now rel _ (Zw _)
 ·right
  obtain⟨v,v',rfl,rm,uL⟩:=Dw r0;obtain⟨i,e,p⟩:=Po.opt p;obtain⟨j,e',p⟩:=Po.opt p;have:=qi e;subst this;have:=qi e';subst this;rw[Zp rm,Zp uL];exact⟨i,j,rfl,p.now rel _ (Zw _)⟩
 ·exact p.elim
theorem qc3(hK:X.K=ct.K)(fz:Bool)(hc:X.calm=true):aP X (.builtin "max") (rB ct E fz "max"):=aP.imp (aP.rL (w8 X.K hc) (zb9 hc)) λvs H Q q=>by
 obtain⟨μ,h,ms,rel,r0,p⟩:=q
 rcases ms with _|⟨m,_|⟨m2,_|⟨m3,ms⟩⟩⟩
 ·exact p.elim
 ·left
  obtain⟨v,rfl,rm⟩:=Zy r0;obtain⟨ns,e,p⟩:=Po.opt p;rw[Wc] at e;obtain⟨xs,e1,e2⟩:=e;obtain⟨b,a,ws,rfl,sq,rs⟩:=ZA rel e1 rm;have:=y0 e2 rs;subst this;cases ns with
  |nil=>exact p.elim
  |cons n ns =>
   refine⟨b,a,n::ns,rfl,sq.s hK,by simp,λk hk hl=>?_⟩;have:k=mR n ns:=by
    have a1:=hl _ (IV (r:=n::ns) (by simp));have a2:=Gq (r:=n::ns) hk;exact Int.le_antisymm a2 a1
   subst this;exact p.now rel _ (Zw _)
 ·right
  obtain⟨v,v',rfl,rm,uL⟩:=Dw r0;obtain⟨i,e,p⟩:=Po.opt p;obtain⟨j,e',p⟩:=Po.opt p;have:=qi e;subst this;have:=qi e';subst this;rw[Zp rm,Zp uL];exact⟨i,j,rfl,p.now rel _ (Zw _)⟩
 ·exact p.elim
theorem ycx(hK:X.K=ct.K)(fz:Bool):aP X (.type "tuple") (rB ct E fz "tuple"):=aP.imp (ycV X.K) λvs H Q q=>by
 obtain⟨μ,h,ms,rel,r0,p⟩:=q
 rcases ms with _|⟨m,_|⟨m2,ms⟩⟩
 ·exact p.elim
 ·obtain⟨v,rfl,rm⟩:=Zy r0;obtain⟨xs,e,p⟩:=Po.opt p
  rcases YB e with e|e|⟨ns,rfl,rfl⟩
  ·obtain⟨a,ws,rfl,n,rd,rs⟩:=qA e rm;exact⟨a,ws,rfl,.inr ⟨.inl (.inl rd),p.now rel _ (YO n rd rs)⟩⟩
  ·obtain⟨a,ws,rfl,rd,rs⟩:=qu rel e rm;exact⟨a,ws,rfl,.inl ⟨.inl rd,Bk rel rs p⟩⟩
  ·simp only[RV,RF] at rm;obtain⟨a,rfl,q⟩:=rm;exact⟨a,_,rfl,.inl ⟨by rw[hK];exact Bz q,Bk rel (sk ns) p⟩⟩
 ·exact p.elim
theorem ZcV(hK:X.K=ct.K)(fz:Bool):aP X (.type "list") (rB ct E fz "list"):=aP.imp (qdh X.K) λvs H Q q=>by
 obtain⟨μ,h,ms,rel,r0,p⟩:=q
 rcases ms with _|⟨m,_|⟨m2,ms⟩⟩
 ·exact p.elim
 ·obtain⟨v,rfl,rm⟩:=Zy r0;obtain⟨xs,e,p⟩:=Po.opt p;obtain⟨b,a,ws,rfl,sq,rs⟩:=ZA rel e rm;exact⟨a,ws,rfl,sq.len hK,YF rel rs p⟩
 ·exact p.elim
noncomputable def Gd(ct:Tx)(E:XK)(m:String):V->List V->Hp->VK->Prop:=λx vs H Q=>∃ μ h mo ms,Rel ct μ h H/\RV ct μ (bc μ h) H mo x/\aC ct μ (bc μ h) H ms vs/\Po ct E (l6 m mo ms h) μ h H (kV ct Q)
theorem nV.imp{id:String}{r r':V->List V->Hp->VK->Prop}(o:nV X id r)(k:∀ x xs H Q,r' x xs H Q->r x xs H Q):nV X id r':=λpins s σ H x xs v us Q I rx rv q=>o pins s σ H x xs v us Q I rx rv (k _ _ _ _ q)
theorem Oo{m:String}{mo:MV}{ms:List MV}{μ:List ae}{h:MH}{H:Hp}{x:V}{k:MV->List ae->MH->Hp->Prop}(rel:Rel ct μ h H)(r:RV ct μ (bc μ h) H mo x)(p:Po ct E (l6 m mo ms h) μ h H k) :
  ∃ i b xs vs,mo=.ref i/\x=.ref b/\μ[i]?=some b/\Yd h i=some xs/\H b=some (.lst vs)/\aC ct μ (bc μ h) H xs vs:=by
 cases mo with
 |ref i =>
  obtain⟨xs,e,_⟩:=Po.opt p;obtain⟨b,vs,e1,e2,q⟩:=rel.lst e;simp only[RV] at r;obtain⟨b',e3,rfl⟩:=r;rw[e1] at e3;cases e3;exact⟨i,b,xs,vs,rfl,rfl,e1,e,e2,q⟩
 |f _=>exact p.elim
 |tup _=>exact p.elim
 |exc _=>exact p.elim
theorem Oq{μ:List ae}{h:MH}{H:Hp}{i:Nat}{b:ae}{xs ys:List MV}{vs:List V}{m:MV}{v:V}{Q:VK}(rel:Rel ct μ h H)(e1:μ[i]?=some b)(e:Yd h i=some xs)(r:aC ct μ (bc μ h) H ys vs)(rv:RV ct μ (bc μ h) H m v)
  (p:Po ct E (.ok m (yf h i ys)) μ h H (kV ct Q)):Q v (upd H b (.lst vs)):=by
 have e2:=yS e;have ex:=Ext.set (H:=H) rel e1 e2 (λz=>nomatch z) (.lst ys) (.lst vs);refine p μ _ ex (rel.set e1 e2 (λz=>nomatch z) ⟨vs,qe,?_⟩) v (rv.ext ex);exact aC.ext ex r
theorem Zb3:nV X "list.append" (Gd ct E "append"):=nV.imp ycc λx ws H Q q=>by
 obtain⟨μ,h,mo,ms,rel,r,rs,p⟩:=q;obtain⟨i,b,xs,vs,rfl,rfl,e1,e,hb,q⟩:=Oo rel r p
 rcases ms with _|⟨m,_|⟨m2,ms⟩⟩
 ·obtain⟨_,_,p⟩:=Po.opt p;exact p.elim
 ·obtain⟨v,rfl,rm⟩:=Zy rs;obtain⟨_,e',p⟩:=Po.opt p;rw[e] at e';cases e';change Po ct E (if xs.length<MP.aO then _ else _) μ h H (kV ct Q) at p;split at p
  next c=>exact⟨b,vs,v,rfl,rfl,hb,by rw[q.length];exact Uc c YN,Oq rel e1 e (q.append (aC.cons rm aC.nil)) Dy p⟩
  next=>exact p.elim
 ·obtain⟨_,_,p⟩:=Po.opt p;exact p.elim
theorem Qb4:nV X "list.extend" (Gd ct E "extend"):=nV.imp YbH λx ws H Q q=>by
 obtain⟨μ,h,mo,ms,rel,r,rs,p⟩:=q;obtain⟨i,b,xs,vs,rfl,rfl,e1,e,hb,q⟩:=Oo rel r p
 rcases ms with _|⟨m,_|⟨m2,ms⟩⟩
 ·obtain⟨_,_,p⟩:=Po.opt p;exact p.elim
 ·obtain⟨v,rfl,rm⟩:=Zy rs;obtain⟨_,e',p⟩:=Po.opt p;rw[e] at e';cases e';change Po ct E (opt (listOf h m) λys=>if xs.length+ys.length<=MP.aO then .ok (.f .bI) (yf h i (xs++ys)) else .stuck) μ h H (kV ct Q) at p;obtain⟨ys,e3,p2⟩:=Po.opt p;obtain⟨a,ws,rfl,rd,Lw⟩:=qu rel e3 rm;split at p2
  next c=>exact⟨b,a,vs,ws,rfl,rfl,hb,rd,by rw[q.length,Lw.length];exact vf c YN,Oq rel e1 e (q.append Lw) Dy p2⟩
  next=>exact p2.elim
 ·obtain⟨_,_,p⟩:=Po.opt p;exact p.elim
end
noncomputable def Ya:Expr->Bool
 |.Starred ..=>false
 |.Slice ..=>false
 |.Set ..=>false
 |_=>true
noncomputable def Yj:Expr->Bool
 |.Call (.Name x _) [] [] _=>!(x==("super":Str))
 |_=>true
noncomputable def ZL(cs sc:az):az :=
 {cs with names:=cs.names.map λ(n,k)=>if(k==ay.free&&sc.kind == .function&&sc.names.lookup n==some .cell) then(n,ay.cell) else(n,k)}
noncomputable def gl(sc:az)(x:Str):Bool:=sc.names.lookup x==some .globalImplicit&&!(x==("__debug__":Str))&&decide (x≠("__name__":Str))
noncomputable def mZ(sc:az)(x:Str):Bool:=(sc.names.lookup x==some .local||sc.names.lookup x==some .cell||sc.names.lookup x==some .free)&&!(x==("__debug__":Str))&&!(x==("__classdict__":Str))
noncomputable def oS(lo:Str->Bool)(sc:az)(x:Str):Bool:=sc.names.lookup x==some .local||(lo x&&sc.names.lookup x==some .cell)
noncomputable abbrev oH:Str->Bool:=λ_=>true
noncomputable abbrev oZ(cs:az):Str->Bool:=λx=>cs.names.lookup x==some .cell
mutual
noncomputable def YE(lo:Str->Bool)(N:List Str)(sc:az):Tg->Expr->Bool
 |.nm i,.Name x _=>N[i]? == some x&&oS lo sc x
 |.tp ts,.Tuple es _ _=>mO lo N sc ts es
 |_,_=>false
noncomputable def mO(lo:Str->Bool)(N:List Str)(sc:az):List Tg->List Expr->Bool
 |[],[]=>true
 |t::ts,e::es=>YE lo N sc t e&&mO lo N sc ts es
 |_,_=>false
end
mutual
noncomputable def lj:Tg->Expr->List Str
 |.nm _,.Name x _=>[x]
 |.tp ts,.Tuple es _ _=>tD ts es
 |_,_=>[]
noncomputable def tD:List Tg->List Expr->List Str
 |t::ts,e::es=>lj t e++tD ts es
 |_,_=>[]
end
noncomputable def LK:Expr->Bool
 |.Tuple ..=>true
 |_=>false
noncomputable def dW:List String:=["len","sum","all","min","max"]
noncomputable def dB:List String:=["tuple","list"]
noncomputable def iF:List String:=["append","extend"]
noncomputable def gL:List String:=[]
noncomputable def bw:List String:=["dict","list","tuple","str","int","bool"]
noncomputable def qF:Expr->List Expr
 |.Call (.Name _ _) as [] _=>as
 |_=>[]
noncomputable def oM(tg:Expr)(it:String):Expr->Bool
 |.Call (.Name x _) as [] _=>(it == "range"&&as.length==1||it == "zip"&&LK tg&&as.length==2||it == "enumerate"&&false&&as.length==1)&&x==Str.ofString it
 |_=>false
noncomputable def iS:ME->Bool
 |.e8 _=>false
 |.ite _ _ _=>false
 |_=>true
noncomputable def sQ:Expr->Bool
 |.Constant (.bool true) _ _=>true
 |_=>false
noncomputable def rA{α:Type}:List α->Option (α×α)
 |[a,b]=>some (a,b)
 |_=>none
noncomputable def uU{α:Type}:List α->Option α
 |[a]=>some a
 |_=>none
noncomputable def DV:Expr->Option (Expr×Expr)
 |.Dict ks vs _=>(rA ks).bind λk=>(rA vs).bind λv=>if sQ v.1&&sQ v.2 then k.1.bind λx=>k.2.map λy=>(x,y) else none
 |_=>none
noncomputable def pW:Expr->Option (Str×Expr)
 |.Call (.Name x _) as [] _=>(uU as).map λa=>(x,a)
 |_=>none
noncomputable def uW(e:Expr):Option (Str×Str×Expr):=(pW e).bind λp=>(pW p.2).map λq=>(p.1,q.1,q.2)
noncomputable def nB:Expr->Bool
 |.UnaryOp .USub (.Constant (.int 1) _ _) _=>true
 |_=>false
noncomputable def DX:Expr->Option Expr
 |.Subscript x (.Slice none none (some st) _) _=>if nB st then some x else none
 |_=>none
noncomputable def II:Option FV->Bool
 |some (.int _)=>true
 |_=>false
noncomputable def Ow:List cP->Bool
 |[⟨some k,.Constant (.int 1) _ _,_⟩]=>k==("start":Str)
 |_=>false
noncomputable def qN:Expr->Option Expr
 |.Call (.Name x _) as ks _=>if x==("enumerate":Str)&&Ow ks then uU as else none
 |_=>none
noncomputable def rg(t:Expr)(sc:az)(iter:Expr):Bool:=LK t&&gl sc "enumerate"&&(qN iter).isSome
noncomputable def oB(iter:Expr):Expr:=(qN iter).getD iter
noncomputable def ydu:Expr->Option Expr
 |.Call (.Attribute l n ap) [] [] cp=>if n==("items":Str)&&Yj l&&(ap.endLine==cp.line) then some l else none
 |_=>none
section
variable (Pm:Prog)
mutual
noncomputable def qp(me:ME)(N:List Str)(sc:az)(e:Expr):Bool:=match me,e with
 |.var i,.Name x _=>N[i]? == some x&&mZ sc x
 |.cI i,.Constant (.int j) _ _=>i==j
 |.cB b,.Constant (.bool c) _ _=>b==c
 |.cN,.Constant .none _ _=>true
 |.cS s,.Constant (.str x) _ _=>s==x
 |.bin _ op a b,.BinOp l o r _=>o==Co op&&(Ya l&&qp a N sc l)&&(Ya r&&qp b N sc r)
 |.neg a,.UnaryOp .USub x _=>(Ya x&&qp a N sc x)
 |.cmp op a b,.Compare l [o] [r] _=>o==kR op&&(Ya l&&qp a N sc l)&&(Ya r&&qp b N sc r)
 |.chain op jG a b c,.Compare l [o,o'] [m,r] _=>o==kR op&&o'==kR jG&&(Ya l&&qp a N sc l)&&(Ya m&&qp b N sc m)&&(Ya r&&qp c N sc r)
 |.xN a,.Compare l [.Is] [.Constant .none _ _] _=>(Ya l&&qp a N sc l)
 |.nu a,.Compare l [.IsNot] [.Constant .none _ _] _=>(Ya l&&qp a N sc l)
 |.and es,.BoolOp .And vs _=>es.all iS&&Zn es N sc vs
 |.or es,.BoolOp .Or vs _=>es.all iS&&Zn es N sc vs
 |.not a,.UnaryOp .Not x _=>iS a&&(Ya x&&qp a N sc x)
 |.ite c a b,.IfExp t x y _=>iS c&&(Ya t&&qp c N sc t)&&(Ya x&&qp a N sc x)&&(Ya y&&qp b N sc y)
 |.tup es,.Tuple vs _ _=>decide (vs.length<1000)&&Zn es N sc vs
 |.lst _ es,.List vs _=>decide (vs.length<1000)&&Zn es N sc vs
 |.sub a i,.Subscript x y _=>(Ya x&&qp a N sc x)&&(Ya y&&qp i N sc y)
 |.slice _ a lo hi,.Subscript x (.Slice l u none _) _=>(Ya x&&qp a N sc x)&&sT lo N sc l&&sT hi N sc u
 |.fld a n,.Attribute x m _=>m==Str.ofString n&&Yj x&&(Ya x&&qp a N sc x)
 |.glob g,.Name x _=>x==Str.ofString g&&gl sc x&&II (Pm.dy g)
 |.kX o m es,.Call (.Attribute x n ap) vs [] cp=>n==Str.ofString m&&decide (m≠"__init__")&&Yj x&&(ap.endLine==cp.line)&&(Ya x&&qp o N sc x)&&Zn es N sc vs&&decide (vs.length<30)
 |.call f es,.Call (.Name x _) (v::vs) [] _=>x==Str.ofString f&&gl sc x&&!(f.toList.contains '.')&&(Pm.defs f).isSome&&Zn es N sc (v::vs)
 |.make _ c es,.Call (.Name x _) (v::vs) [] _=>x==Str.ofString c&&gl sc x&&(Pm.meths c "__init__").isSome&&Zn es N sc (v::vs)
 |.make _ c [],.Call (.Name x _) [] [] _=>x==Str.ofString c&&gl sc x&&Pm.l0 c&&(Pm.meths c "__init__").isNone
 |.blt _ n es,.Call (.Name x _) (v::vs) [] _=>x==Str.ofString n&&gl sc x&&(dW.contains n||dB.contains n)&&Zn es N sc (v::vs)
 |.kF a t,.Call (.Name x _) [v,.Name y _] [] _=>x==("isinstance":Str)&&gl sc x&&y==Str.ofString t&&gl sc y&&(bw.contains t||(Pm.subs t t).isSome)&&(Ya v&&qp a N sc v)
 |.nh _ a,e=>match uW e with
  |some (x,y,v)=>false
  |none=>match DX e with
   |some v=>Ya v&&qp a N sc v
   |none=>false
 |.ip a b,e=>match DV e with
  |some (x,y)=>(Ya x&&qp a N sc x)&&(Ya y&&qp b N sc y)
  |none=>false
 |.jS a,e=>match uW e with
  |some (x,y,v)=>x==("sorted":Str)&&gl sc x&&y==("list":Str)&&gl sc y&&(Ya v&&qp a N sc v)
  |none=>false
 |.nA,.Dict [] [] _=>true
 |.Cp a,.Call (.Name x _) [v] [] _=>x==("dict":Str)&&gl sc x&&(Ya v&&qp a N sc v)
 |.nv a b,.Call (.Attribute x n ap) [v] [] cp=>n==("update":Str)&&Yj x&&(ap.endLine==cp.line)&&(Ya x&&qp a N sc x)&&(Ya v&&qp b N sc v)
 |.ny a b,.Compare l [.NotIn] [r] _=>(Ya l&&qp a N sc l)&&(Ya r&&qp b N sc r)
 |.lm m o es,.Call (.Attribute x n ap) vs [] cp=>n==Str.ofString m&&Yj x&&(ap.endLine==cp.line)&&(Ya x&&qp o N sc x)&&Zn es N sc vs&&(if vs.isEmpty then gL.contains m else iF.contains m&&decide (vs.length<30))
 |.comp _ elt tg it src cond bV js,.ListComp x [⟨t,iter,ifs,a⟩] cs _ =>
   let N':=lj tg t++js.filterMap λj=>N[j]?
   (a==0)&&Ya iter&&QF sc N cs N' bV js&&decide N'.Nodup&&YE (oZ cs) N' (ZL cs sc) tg t&&(Ya x&&qp elt N' (ZL cs sc) x)&&nP cond N' (ZL cs sc) ifs &&
    (if it == "seq" then lh src N sc iter else if it == "enum1" then rg t sc iter&&lh src N sc (oB iter) else oM t it iter&&gl sc (Str.ofString it)&&Zn src N sc (qF iter))
 |.e8 m,e=>(Ya e&&qp m N sc e)
 |_,_=>false
noncomputable def Zn(lB:List ME)(N:List Str)(sc:az)(es:List Expr):Bool:=match lB,es with
 |[],[]=>true
 |m::ms,e::es=>(Ya e&&qp m N sc e)&&Zn ms N sc es
 |_,_=>false
noncomputable def lh(lB:List ME)(N:List Str)(sc:az)(e:Expr):Bool:=match lB with
 |[m]=>(Ya e&&qp m N sc e)
 |_=>false
noncomputable def sT(mo:Option ME)(N:List Str)(sc:az)(eo:Option Expr):Bool:=match mo,eo with
 |none,none=>true
 |some m,some e=>(Ya e&&qp m N sc e)
 |_,_=>false
noncomputable def nP(mo:Option ME)(N:List Str)(sc:az)(es:List Expr):Bool:=match mo,es with
 |none,[]=>true
 |some m,[e]=>iS m&&(Ya e&&qp m N sc e)
 |_,_=>false
end
noncomputable def Qf(me:ME)(N:List Str)(sc:az)(e:Expr):Bool:=Ya e&&qp Pm me N sc e
end
noncomputable def kC(ct:Tx)(W:List MV->MH->R MV):Sp:=λvs H Q E=>∃ μ h ms,Rel ct μ h H/\aC ct μ (bc μ h) H ms vs/\Po ct E (W ms h) μ h H (kV ct Q)
structure oF (K:PySem.W.Frag) (C:ae):Prop where
 cl:lg K C
 ha:ub K (.ref C) "__class__"=some (some (.builtin "object.__class__"))
 hn:vv K (.builtin "object.__class__") "__get__"=some (some (.builtin "getset_descriptor.__get__"))
 tk:Vw K (.builtin "object.__class__")=some true
 hm:Vn K C (.type "object")=some true
noncomputable def Lp(ct:Tx)(Pm:Prog)(wd:String):ae->ae->Sp:=λx C vs H Q _=>vs=[.ref x]/\∃ c s,C=ct c/\Pm.word wd c=some s/\∀ H',JB H H'->Q (.str s) H'
structure Txt (P:aj) (w:World) (K:PySem.W.Frag) (mg:Str->Option aa) (base:Heap) (Pm:Prog) (ct:Tx) (n:Nat):Prop where
 defs:∀ f d,Pm.defs f=some d->f.toList.contains '.'=false->∃ ps,sP P w K mg base (Str.ofString f) (2*n) ps (kC ct (run Pm n f))
 kG:∀ c f,Pm.meths c "__init__"=some f->∃ ps,JZ P w K mg base (Str.ofString c) (ct c) (2*n) ps (kC ct (run Pm n f))
 ie:∀ x∈dW++dB++bw++["range","zip","enumerate","isinstance","sorted","reversed"],mg (Str.ofString x)=none
 iG:∀ c f,Pm.iG c f=true->lg K (ct c)/\fG K (ct c) (Str.ofString f)
 cls:∀ c t b,Pm.subs c t=some b->oF K (ct c)
 lQ:∀ c t b,Pm.subs c t=some b->bw.contains t=false->mg (Str.ofString t)=some (.ref (ct t))/\Wg K (.ref (ct c)) (.ref (ct t))=some b
 m8:∀ c t b,Pm.subs c t=some b->bw.contains t=true->Wg K (.ref (ct c)) (.type t)=some b
 BX:∀ t c b,Pm.subs c t=some b->bw.contains t=false->∀ T∈["NoneType","bool","int","str","list","tuple"],Wg K (.type T) (.ref (ct t))=some false
 km:∀ c,Pm.km c=true->mr K (ct c)/\mg (Str.ofString c)=some (.ref (ct c))
 words:∀ wd,Pm.words wd=true->mr K (ct "DotError")/\mg "DotError"=some (.ref (ct "DotError"))/\(∃ ps,LC P w K mg base (Str.ofString wd) 1 ps (Lp ct Pm wd)) /\
  ∀ c s,Pm.word wd c=some s->mr K (ct c)/\(Dk K (ct c)).contains (.ref (ct "DotError"))=true
 kS:∀ t,Pm.kS t=true->(if t="ValueError" then mg "ValueError"=none else mg (Str.ofString t)=some (.ref (ct t)))
 xs:∀ c t b,Pm.kA c t=some b->Bt K (ct c)/\Wg K (.ref (ct c)) (if t="ValueError" then .type "ValueError" else .ref (ct t))=some b
 sd:∀ f ds,Pm.sd f ds=true->∃ ps fa fd gR,fu P w K mg base (jN P w) (2*n) fa fd ps (kC ct (run Pm n f))/\Binds K fd ps gR/\Vals (ds.map V.int) gR/\we K (.ref fa)=true/\mg (Str.ofString f)=some (.ref fa)
 oN:Pm.xt=true->mr K (ct "DotError")/\mg "DotError"=some (.ref (ct "DotError"))/\∀ c b,Pm.kA c c=some b->mr K (ct c)/\(Dk K (ct c)).contains (.ref (ct "DotError"))=true
 meths:∀ c m f,Pm.meths c m=some f->m≠"__init__"->LA P w K mg base (2*n) (ct c) (Str.ofString m) (kC ct (run Pm n f))
 l0:∀ c,Pm.l0 c=true->DI K (ct c)/\mg (Str.ofString c)=some (.ref (ct c))
 dy:∀ x i,Pm.dy x=some (.int i)->∃ t,mg (Str.ofString x)=some (.int i t)
structure Cc (X:Cx) (Pm:Prog) (ct:Tx) (n:Nat) (Ra:L2.St->Prop) (E:XK) (N:List Str) (sc:az):Prop where
 txt:Txt X.prog X.w X.K X.mg X.base Pm ct n
 calm:X.calm=true
 room:dj (2*n+1) X.A
 Cg:∀ σ,Ra σ->Yw (jN X.prog X.w) X σ E
 nm:X.N=N
 sc:X.env.scope=sc
 nd:X.N.Nodup
 hK:X.K=ct.K
section
variable {ct:Tx} {X:Cx} {E:XK} {Pm:Prog} {n:Nat} {Ra:L2.St->Prop} {N:List Str} {sc:az}
theorem Cc.units(c:Cc X Pm ct n Ra E N sc):X.A.units+65<cR:=by have:=c.room.un;lia
theorem QN{x:Str}(hs:X.env.scope=sc)(h:gl sc x=true):Gl X x/\(x==("__debug__":Str))=false/\x≠"__name__":=by
 unfold gl at h;simp only[Wa,beq_iff_eq,Wq,decide_eq_true_eq] at h;refine⟨?_,h.1.2,h.2⟩;show X.env.scope.names.lookup x=_;rw[hs];exact h.1.1
theorem zi{e:Expr}{es:List Expr}{env:Env}(h:Ya e=true):au (e::es) env=(false,eval e env)::au es env:=by
 cases e <;> first|rfl|(simp[Ya] at h)
theorem yG{e:Expr}(h:Ya e=true)(op:fH):bE op e=false:=by
 cases e <;> first|rfl|(simp[Ya] at h)
theorem Qcq{e:Expr}(h:Ya e=true):KR e:=by
 intro o i;cases e <;> first|rfl|(simp[Ya] at h)
theorem ZT{e:Expr}{env:Env}(h:Ya e=true):∀ x,cG e env x=pure x:=by
 intro x;cases e <;> first|rfl|(simp[Ya] at h)
theorem zI{e:Expr}{f:Str}{env:Env}{w:Sem aa}(h:Yj e=true):a9 e f env w=w:=by
 cases e with
 |Call g as ks p =>
  cases g with
  |Name x q =>
   cases as with
   |nil =>
    cases ks with
    |nil =>
     have h':(x==("super":Str))=false:=by simpa[Yj] using h
     have e1:(x != ("super":Str))=true:=by simp[bne,h']
     unfold a9;simp only[e1,Bool.true_or,if_true]
    |cons _ _=>rfl
   |cons _ _=>rfl
  |_=>rfl
 |_=>rfl
theorem zo{me:ME}{e:Expr}(h:Qf Pm me N sc e=true):Ya e=true:=by
 unfold Qf at h;exact(Ux.mp h).1
theorem qc{me:ME}{e:Expr}(h:Qf Pm me N sc e=true):qp Pm me N sc e=true:=by
 unfold Qf at h;exact(Ux.mp h).2
theorem ff{P:Prop}(h:false=true):P:=Wj h
theorem ybP{m:ME}{ms:List ME}{e:Expr}{es:List Expr}(h:Zn Pm (m::ms) N sc (e::es)=true):Qf Pm m N sc e=true/\Zn Pm ms N sc es=true:=Ux.mp (show(Qf Pm m N sc e&&Zn Pm ms N sc es)=true from h)
theorem Qo{env:Env}:∀{es:List Expr},(∀ e∈es,Ya e=true)->au es env=es.map λe=>(false,eval e env)
 |[],_=>rfl
 |e::es,h=>by
  rw[zi (h e (by simp)),Qo λx hx=>h x (by simp[hx])];rfl
theorem Qw{env:Env}{pos:Pos}{es:List Expr}(h:∀ e∈es,Ya e=true):(bh pos (au es env)).any (·.1)=false:=by
 rw[Qo h];unfold bh;rw[wf,VD]
 induction es with
 |nil=>rfl
 |cons e es ih=>simp[VC]
theorem PE.imp{e:Expr}{t t':TE}(p:PE X e t)(k:∀ σ H Q,t' σ H Q->t σ H Q):PE X e t':=λpins s σ H Q I h=>p pins s σ H Q I (k σ H Q h)
theorem PT.imp{e:Expr}{t t':TT}(p:PT X e t)(k:∀ σ H Q,t' σ H Q->t σ H Q):PT X e t':=λpins s σ H Q I h=>p pins s σ H Q I (k σ H Q h)
theorem PW.imp{e:Expr}{t t':TT}(p:PW X e t)(k:∀ σ H Q,t' σ H Q->t σ H Q):PW X e t':=λwh pins s σ H Q I h=>p wh pins s σ H Q I (k σ H Q h)
theorem PA.imp{es:List Expr}{t t':TA}(p:PA X es t)(k:∀ σ H Q,t' σ H Q->t σ H Q):PA X es t':=λpos pins s σ H Q I h=>p pos pins s σ H Q I (k σ H Q h)
theorem PS.imp{e:Stmt}{t t':TS}(p:PS X e t)(k:∀ D σ H,t' D σ H->t D σ H):PS X e t':=λpins s σ H D I h=>p pins s σ H D I (k D σ H h)
theorem gV.imp{e:List Stmt}{t t':TS}(p:gV X e t)(k:∀ D σ H,t' D σ H->t D σ H):gV X e t':=λpins s σ H D I h=>p pins s σ H D I (k D σ H h)
noncomputable def lG(ct:Tx)(tg:Tg):TG:=λv σ H Q=>∃ μ h σs m σs',Rel ct μ h H/\a8 ct μ h H σ σs/\RV ct μ (bc μ h) H m v/\yO tg m σs=some σs'/\∀ σ',a8 ct μ h H σ' σs'->Q σ' H
noncomputable def lGs(ct:Tx)(tgs:List Tg):nU:=λvs σ H Q=>∃ μ h σs ms σs',Rel ct μ h H/\a8 ct μ h H σ σs/\aC ct μ (bc μ h) H ms vs/\YG tgs ms σs=some σs'/\∀ σ',a8 ct μ h H σ' σs'->Q σ' H
theorem PG.imp{e:Expr}{t t':TG}(p:PG X e t)(k:∀ v σ H Q,t' v σ H Q->t v σ H Q):PG X e t':=λpins s σ H v u Q I r h=>p pins s σ H v u Q I r (k v σ H Q h)
theorem mV.imp{e:List Expr}{t t':nU}(p:mV X e t)(k:∀ v σ H Q,t' v σ H Q->t v σ H Q):mV X e t':=λpins s σ H v u Q I r h=>p pins s σ H v u Q I r (k v σ H Q h)
theorem EA{lo:Str->Bool}{t:Tg}{e:Expr}(h:YE lo N sc t e=true):∀(es:List Expr)(env:Env),bK (e::es) env=(false,eD e env)::bK es env:=by
 intro es env;cases t with
 |nm i=>cases e <;> first|rfl|(simp[YE] at h)
 |tp ts=>cases e <;> first|rfl|(simp[YE] at h)
theorem NH{lo:Str->Bool}{env:Env}:∀{ts:List Tg}{es:List Expr},mO lo N sc ts es=true->(bK es env).length=ts.length/\(bK es env).findIdx? (·.1)=none
 |[],[],_=>⟨rfl,rfl⟩
 |[],_::_,h=>by simp[mO] at h
 |_::_,[],h=>by simp[mO] at h
 |t::ts,e::es,h=>by
  simp only[mO,Wa] at h;obtain⟨h1,h2⟩:=NH (env:=env) h.2;rw[EA h.1 es env];exact⟨by simp[h1],by rw[List.findIdx?_cons];simp[h2]⟩
theorem K9:∀{ts:List Tg}{ms:List MV}{σs σs':aF},YG ts ms σs=some σs'->ms.length=ts.length
 |[],[],_,_,_=>rfl
 |[],_::_,_,_,e=>by simp[YG] at e
 |_::_,[],_,_,e=>by simp[YG] at e
 |t::ts,m::ms,σs,σs',e=>by
  simp only[YG,Wc] at e;obtain⟨σ1,_,e2⟩:=e;simp[K9 e2]
mutual
theorem sG{lo:Str->Bool}(hN:X.N=N)(hs:X.env.scope=sc)(nd:X.N.Nodup)(hc:X.calm=true)(hf:∀ x,lo x=true->X.fn x=true):∀(t:Tg)(e:Expr),YE lo N sc t e=true->PG X e (lG ct t)
 |.nm i,e,h=>by
  cases e with
  |Name x p =>
   simp only[YE,oS,Wa,beq_iff_eq,Xn] at h;obtain⟨h1,h2⟩:=h;have hi:X.N[i]?=some x:=by rw[hN];exact h1
   have hk:Loc X.env.scope x:=by
    rw[hs]
    rcases h2 with h2|⟨_,h2⟩
    ·exact .inl h2
    ·exact .inr h2
   have hf':X.fn x=true\/X.env.scope.names.lookup x=some .local:=by
    rw[hs]
    rcases h2 with h2|⟨hl,h2⟩
    ·exact .inr h2
    ·exact .inl (hf x hl)
   refine PG.imp (K1 nd hi hk hf') λv σ H Q q=>?_;obtain⟨μ,hh,σs,m,σs',rel,aM,r,e,k⟩:=q;simp[yO] at e;subst e;exact k _ (aM.set i r)
  |_=>simp[YE] at h
 |.tp ts,e,h=>by
  cases e with
  |Tuple es k p =>
   simp only[YE] at h;obtain⟨h1,h2⟩:=NH (env:=X.env) h;refine PG.imp (zc6 hc (Ls hN hs nd hc hf ts es h) h1 h2) λv σ H Q q=>?_;obtain⟨μ,hh,σs,m,σs',rel,aM,r,e,k⟩:=q;simp only[yO,Wc] at e;obtain⟨ms,e1,e2⟩:=e;obtain⟨a,vs,rfl,_,rd,rs⟩:=qA e1 r;exact⟨a,vs,rfl,.inl (.inl rd),by rw[rs.length];exact K9 e2,μ,hh,σs,ms,σs',rel,aM,rs,e2,k⟩
  |_=>simp[YE] at h
theorem Ls{lo:Str->Bool}(hN:X.N=N)(hs:X.env.scope=sc)(nd:X.N.Nodup)(hc:X.calm=true)(hf:∀ x,lo x=true->X.fn x=true):∀(ts:List Tg)(es:List Expr),mO lo N sc ts es=true->mV X es (lGs ct ts)
 |[],es,h=>by
  cases es with
  |nil =>
   refine mV.imp ycL λv σ H Q q=>?_;obtain⟨μ,hh,σs,ms,σs',rel,aM,rs,e,k⟩:=q;cases ms with
   |nil =>
    simp only[aC] at rs;subst rs;simp[YG] at e;subst e;exact⟨rfl,k _ aM⟩
   |cons m ms=>simp[YG] at e
  |cons e es=>simp[mO] at h
 |t::ts,es,h=>by
  cases es with
  |nil=>simp[mO] at h
  |cons e es =>
   simp only[mO,Wa] at h;refine mV.imp (Ycw (sG hN hs nd hc hf t e h.1) (Ls hN hs nd hc hf ts es h.2) (by rw[EA h.1 es X.env];rfl)) λv σ H Q q=>?_;obtain⟨μ,hh,σs,ms,σs',rel,aM,rs,e,k⟩:=q;cases ms with
   |nil=>simp[YG] at e
   |cons m ms =>
    simp only[YG,Wc] at e;obtain⟨σ1,e1,e2⟩:=e;simp only[aC] at rs;obtain⟨v1,vr,rfl,r1,r2⟩:=rs;exact⟨v1,vr,rfl,μ,hh,σs,m,σ1,rel,aM,r1,e1,λσ' iu=>⟨μ,hh,σ1,ms,σs',rel,iu,r2,e2,k⟩⟩
end
end
section
variable {ct:Tx} {X:Cx} {E:XK} {Pm:Prog} {n:Nat} {Ra:L2.St->Prop} {N:List Str} {sc:az}
theorem PI.imp{tg e:Expr}{t t':TI}(p:PI X tg e t)(k:∀ σ H Q,t' σ H Q->t σ H Q):PI X tg e t':=λpins s σ H Q I h=>p pins s σ H Q I (k σ H Q h)
noncomputable def Wk(ct:Tx)(J:It)(items:List MV)(g:qG)(μ1:List ae)(h1:MH)(H1:Hp):Prop:=∀(i:Nat) μ h H,Ext μ1 h1 H1 μ h H->Rel ct μ h H->a6 g h ->
 (i<items.length->J.go i H/\∀ x H2,J.mX i H x H2->∃ m,items[i]?=some m/\Ext μ h H μ h H2/\Rel ct μ h H2/\RV ct μ (bc μ h) H2 m x)/\(i=items.length->J.stop i H)
noncomputable def uV(ct:Tx)(b:Bool)(a:ae)(items:List MV)(g:qG)(μ1:List ae)(h1:MH)(H1:Hp):Prop:=∀ μ h H,Ext μ1 h1 H1 μ h H->Rel ct μ h H->a6 g h->∃ vs,sF ct H b a vs/\aC ct μ (bc μ h) H items vs
theorem Bg{μ:List ae}{h:MH}{H:Hp}{m:MV}{v:V}{items:List MV}(rel:Rel ct μ h H)(e:Qb h m=some items)(r:RV ct μ (bc μ h) H m v):∃ b a,v=.ref a/\uV ct b a items (Zd h m) μ h H:=by
 cases m with
 |f x =>
  rcases YB e with e'|e'|⟨ns,e',rfl⟩
  ·obtain⟨a,vs,rfl,na,rd,rs⟩:=qA e' r;exact⟨true,a,rfl,λμ' h' H' ex _ _=>⟨vs,fU.of (ex.keep a _ rd na),rs.ext ex⟩⟩
  ·cases x with
   |lst xs =>
    simp only[RV,RF] at r;obtain⟨a,vs,rfl,na,rd,rs⟩:=r;cases e';exact⟨false,a,rfl,λμ' h' H' ex _ _=>⟨vs,.inl (Rd.keep (λo q=>ex.keep a o q na) rd),(aC.vS (μ:=μ) rs).ext ex⟩⟩
   |_=>cases e'
  ·cases e';simp only[RV,RF] at r;obtain⟨a,rfl,q⟩:=r;exact⟨false,a,rfl,λμ' h' H' ex _ _=>⟨_,Bz (L:=bc μ' h') (q.imp (λ⟨n,o,e⟩=>⟨ex.let.jV a _ e n,o,ex.keep a _ e n⟩) id),sk ns⟩⟩
 |tup xs =>
  rcases YB e with e'|e'|⟨ns,e',_⟩
  ·obtain⟨a,vs,rfl,na,rd,rs⟩:=qA e' r;exact⟨true,a,rfl,λμ' h' H' ex _ _=>⟨vs,fU.of (ex.keep a _ rd na),rs.ext ex⟩⟩
  ·cases e'
  ·cases e'
 |ref i =>
  have e0:Yd h i=some items:=e;simp only[RV] at r;obtain⟨b,eb,rfl⟩:=r;refine⟨false,b,rfl,λμ' h' H' ex bH g=>?_⟩;have g':Yd h' i=some items:=g (i,items) (by simp[Zd,e0]);obtain⟨b',vs,iH,hb,rs⟩:=bH.lst g';obtain⟨ν,rfl⟩:=ex.pre;rw[va (Xa.mp eb).1,eb] at iH;cases iH;exact⟨vs,fq.of hb,rs⟩
 |exc c=>cases e
theorem a6.left{g g':qG}{h:MH}(k:a6 (g++g') h):a6 g h:=λp hp=>k p (Xi _ hp)
theorem a6.right{g g':qG}{h:MH}(k:a6 (g++g') h):a6 g' h:=λp hp=>k p (xf _ hp)
theorem ydd{K:PySem.W.Frag}(hK:K=ct.K){b:Bool}{a:ae}{items:List MV}{g:qG}{μ1:List ae}{h1:MH}{H1:Hp}(st:uV ct b a items g μ1 h1 H1):Wk ct (mD K b a) items g μ1 h1 H1:=by
 intro i μ h H ex rel gd;obtain⟨vs,sq,rs⟩:=st μ h H ex rel gd;have hl:=rs.length;refine⟨λhi=>⟨mD.go (sq.s hK) (by lia),λx H2 y=>?_⟩,λhi=>?_⟩
 ·obtain⟨rfl,e⟩:=mD.mX (sq.s hK) y;obtain⟨m,em,rm⟩:=rs.get' e;exact⟨m,em,Ext.refl _ _ _,rel,rm⟩
 ·rw[hi,<- hl];exact mD.stop (sq.s hK)
theorem zdm{K:PySem.W.Frag}(hK:K=ct.K){b1 b2:Bool}{a1 a2:ae}{xs ys:List MV}{g g':qG}{μ1:List ae}{h1:MH}{H1:Hp}(s1:uV ct b1 a1 xs g μ1 h1 H1)(s2:uV ct b2 a2 ys g' μ1 h1 H1) :
  Wk ct (JT K b1 b2 a1 a2) ((xs.zip ys).map λp=>Zi [p.1,p.2]) (g++g') μ1 h1 H1:=by
 intro i μ h H ex rel gd;obtain⟨vs,sq,rs⟩:=s1 μ h H ex rel (a6.left gd);obtain⟨ws,FX,Lx⟩:=s2 μ h H ex rel (a6.right gd);have hl:=rs.length;have rS:=Lx.length;refine⟨λhi=>?_,λhi=>?_⟩
 ·simp only[xc,List.length_zip] at hi;refine⟨⟨vs,ws,sq.s hK,FX.s hK,by lia,by lia⟩,λx H2 y=>?_⟩;obtain⟨T,x1,y1,rfl,hT,rfl,e1,e2⟩:=y;obtain⟨m1,Ik,r1⟩:=rs.get' (e1 vs (sq.s hK));obtain⟨m2,em2,r2⟩:=Lx.get' (e2 ws (FX.s hK));have r9:=Ext.new rel hT (.tup [x1,y1]);refine⟨Zi [m1,m2],?_,r9,rel.new hT _,YO (sV rel hT) qe (aC.cons (r1.ext r9) (aC.cons (r2.ext r9) aC.nil))⟩;simp only[wc,Uu,Vd];exact⟨(m1,m2),⟨Ik,em2⟩,rfl⟩
 ·simp only[xc,List.length_zip] at hi;refine⟨vs,ws,sq.s hK,FX.s hK,?_⟩
  lia
theorem Ydh{lo:Int}{k:Nat}{μ1:List ae}{h1:MH}{H1:Hp}(f:Nat->Int)(hf:∀ i:Nat,f i=lo+i):Wk ct (DJ lo k) ((Xd k).map λi=>MV.f (.int (f i))) [] μ1 h1 H1:=by
 intro i μ h H ex rel gd;refine⟨λhi=>?_,λhi=>?_⟩
 ·have l8:i<k:=by simpa using hi
  refine⟨l8,λx H2 y=>?_⟩;obtain⟨rfl,rfl⟩:=y;refine⟨.f (.int (f i)),by simp[l8],Ext.refl _ _ _,rel,?_⟩;rw[hf];exact Zw _
 ·have l8:i=k:=by simpa using hi
  exact Xq l8.symm
noncomputable def lI(ct:Tx)(Ra:L2.St->Prop)(E:XK)(ev:aF->MH->R (List MV))(it:String):TI:=λσ H R=>∃ μ h σs,Rel ct μ h H/\a8 ct μ h H σ σs/\Ra σ /\
 Po ct E (ev σs h) μ h H λxs μ1 h1 H1=>∃ items g,fP it xs h1=some (items,g)/\Rel ct μ1 h1 H1/\∀ J,Wk ct J items g μ1 h1 H1->R J H1
theorem qc5(hK:X.K=ct.K){tg e:Expr}{ev:aF->MH->R MV}(h:PE X e (lE ct Ra E ev)):PI X tg e (lI ct Ra E (λσ hh=>(ev σ hh).bind λx h1=>.ok [x] h1) "seq"):=PI.imp (GY X.K h) λσ H Q q=>by
 obtain⟨μ,hh,σs,rel,aM,ra,p⟩:=q;refine lE.mk rel aM ra p λm v μ1 h1 H1 ex av aV rv p1=>?_;obtain⟨items,g,e1,_,k⟩:=p1.now av;simp only[fP,Vd,Prod.mk.injEq] at e1;obtain⟨xs,e2,rfl,rfl⟩:=e1;obtain⟨b,a,rfl,st⟩:=Bg av e2 rv;obtain⟨vs,sq,_⟩:=st μ1 h1 H1 (Ext.refl _ _ _) av (λp hp=>by
  cases m with
  |ref i =>
   have e0:Yd h1 i=some xs:=e2;simp[Zd,e0] at hp;subst hp;exact e0
  |f _=>simp[Zd] at hp
  |tup _=>simp[Zd] at hp
  |exc _=>simp[Zd] at hp)
 exact⟨b,a,rfl,⟨vs,sq.s hK⟩,k _ (ydd hK st)⟩
theorem BS{h1:MH}{m:MV}{xs:List MV}(e2:Qb h1 m=some xs):a6 (Zd h1 m) h1:=λp hp=>by
 cases m with
 |ref i =>
  have e0:Yd h1 i=some xs:=e2;simp[Zd,e0] at hp;subst hp;exact e0
 |f _=>simp[Zd] at hp
 |tup _=>simp[Zd] at hp
 |exc _=>simp[Zd] at hp
theorem ycC{tg:Expr}{es:List Expr}{p pos:Pos}{ev:aF->MH->R (List MV)}(hg:Gl X "range")(hm:X.mg "range"=none)(ha:PA X es (lA ct Ra E ev))(cF:∀ e∈es,Ya e=true)(hl:es.length=1)(hn:∀ σ h xs h',ev σ h=.ok xs h'->xs.length=es.length) :
  PI X tg (.Call (.Name "range" p) es [] pos) (lI ct Ra E ev "range"):=by
 rcases es with _|⟨a,_|⟨b,_|⟨c,_|⟨d,es⟩⟩⟩⟩
 ·simp at hl
 ·refine PI.imp (qb4 hg hm ha (Qo cF)) λσ H Q q=>?_;obtain⟨μ,hh,σs,rel,aM,ra,p⟩:=q;refine⟨μ,hh,σs,rel,aM,ra,?_⟩;cases er:ev σs hh with
  |exc c h'=>rw[er] at p;exact p
  |stuck=>rw[er] at p;exact p
  |ok xs h' =>
   rw[er] at p;have hx:=hn _ _ _ _ er;intro μ' H' ex bH vs eI;obtain⟨items,g,e1,_,k⟩:=p μ' H' ex bH
   rcases xs with _|⟨m,_|⟨m2,xs⟩⟩
   ·simp at hx
   ·obtain⟨v,rfl,rm⟩:=Zy eI;simp only[fP,Wc] at e1;obtain⟨j,e2,e3⟩:=e1;have:=qi e2;subst this;split at e3
    next c =>
     simp only[Option.some.injEq,Prod.mk.injEq] at e3;obtain⟨rfl,rfl⟩:=e3;rw[Zp rm];exact⟨j,rfl,c.1,c.2,k _ (Ydh _ λi=>by simp)⟩
    next=>cases e3
   ·simp at hx
 ·simp at hl
 ·simp at hl
 ·simp at hl
theorem Yc8(hK:X.K=ct.K){a b:Expr}{es:List Expr}{kt:Nat}{pt p pos:Pos}{ev:aF->MH->R (List MV)}(hg:Gl X "zip")(hm:X.mg "zip"=none)(ha:PA X [a,b] (lA ct Ra E ev))(cF:∀ e∈[a,b],Ya e=true)(hn:∀ σ h xs h',ev σ h=.ok xs h'->xs.length=2) :
  PI X (.Tuple es kt pt) (.Call (.Name "zip" p) [a,b] [] pos) (lI ct Ra E ev "zip"):=by
 refine PI.imp (wZ X.K hg hm ha (Qo cF) (Qo λe he=>cF e (by simp at he;simp[he]))) λσ H Q q=>?_;obtain⟨μ,hh,σs,rel,aM,ra,p⟩:=q;refine⟨μ,hh,σs,rel,aM,ra,?_⟩;cases er:ev σs hh with
 |exc c h'=>rw[er] at p;exact p
 |stuck=>rw[er] at p;exact p
 |ok xs h' =>
  rw[er] at p;have hx:=hn _ _ _ _ er;intro μ' H' ex bH vs eI;obtain⟨items,g,e1,_,k⟩:=p μ' H' ex bH
  rcases xs with _|⟨m,_|⟨m2,_|⟨m3,xs⟩⟩⟩
  ·simp at hx
  ·simp at hx
  ·obtain⟨v,v',rfl,rm,uL⟩:=Dw eI;simp only[fP,Wc,Vd,Prod.mk.injEq] at e1;obtain⟨us,e2,ws,e3,rfl,rfl⟩:=e1;obtain⟨b1,a1,rfl,s1⟩:=Bg bH e2 rm;obtain⟨b2,a2,rfl,s2⟩:=Bg bH e3 uL;obtain⟨Fz,q1,_⟩:=s1 _ _ _ (Ext.refl _ _ _) bH (BS e2);obtain⟨vs2,q2,_⟩:=s2 _ _ _ (Ext.refl _ _ _) bH (BS e3);exact⟨b1,b2,a1,a2,rfl,⟨Fz,q1.s hK⟩,⟨vs2,q2.s hK⟩,k _ (zdm hK s1 s2)⟩
  ·simp at hx
end
theorem zE{a b:String}(h:Str.ofString a=Str.ofString b):a=b:=by
 rw[Str.ofString_eq_toList,Str.ofString_eq_toList] at h;injection h with h
 have h2:a.toList.map Char.toNat=b.toList.map Char.toNat:=by simpa using congrArg uD h
 have h3:a.toList=b.toList:=by
  refine(List.map_inj_right λx y e=>?_).mp h2;exact Char.ext (UInt32.toNat_inj.mp e)
 exact String.ext h3
section
variable {ct:Tx} {X:Cx} {E:XK} {Pm:Prog} {n:Nat} {Ra:L2.St->Prop} {N:List Str} {sc:az}
noncomputable def fk(ev:aF->MH->R MV):aF->MH->R Bool:=λσ h=>(ev σ h).bind λx h1=>opt (QI x) λk=>.ok k h1
theorem J5{ev:aF->MH->R MV}{σ:L2.St}{H:Hp}{Q:Bool->Hp->Prop}(q:lT ct Ra E (fk ev) σ H Q):lE ct Ra E ev σ H λx H'=>∃ k,x=.bl k/\Q k H':=by
 obtain⟨μ,h,σs,rel,aM,ra,p⟩:=q;refine lE.mk rel aM ra p λm v μ1 h1 H1 ex av aV rv p1=>?_;obtain⟨k,e,p2⟩:=Po.opt p1;have:=Cf e;subst this;exact⟨k,rH rv,p2.now av⟩
theorem Bd{e:Expr}{t:TE}{ev:aF->MH->R MV}(p:PE X e t)(pt:PT X e (Gp t))(k:∀ σ H Q,lE ct Ra E ev σ H Q->t σ H Q):PE X e (lE ct Ra E ev)/\PT X e (lT ct Ra E (fk ev)) :=
 ⟨PE.imp p k,PT.imp pt λσ H Q q=>k σ H _ (J5 q)⟩
theorem ze{e:Expr}{ev:aF->MH->R MV}(p:PE X e (lE ct Ra E ev))(he:∀ whole,jH e X.env whole=(do let v<-whole;iD e.pos;ck [v] (truthy v)):=by intro _;rfl):PE X e (lE ct Ra E ev)/\PT X e (lT ct Ra E (fk ev)) :=
 ⟨p,PT.imp (qdj p he) λσ H Q q=>J5 q⟩
section
variable {ea eb ec:aF->MH->R MV} {a b c:Expr} {pos:Pos}
theorem Dv{v:V}{x:FV}(h:PE X a (tC v))(r:∀ μ L H,RV ct μ L H (.f x) v):PE X a (lE ct Ra E λ_ h=>.ok (.f x) h):=PE.imp h λσ H Q q=>by
 obtain⟨μ,hh,σs,rel,aM,ra,p⟩:=q;exact p.now rel v (r _ _ _)
theorem AD{i:Nat}{x:Str}(hN:X.N[i]?=some x)(hv:mZ X.env.scope x=true):PE X (.Name x pos) (lE ct Ra E λσ h=>opt ((σ[i]?).join) λv=>.ok v h):=by
 unfold mZ at hv;simp only[Wa,Xn,beq_iff_eq,Wq] at hv;refine PE.imp (J8 hN (by rcases hv.1.1 with (h|h)|h;exact .inl h;exact .inr (.inl h);exact .inr (.inr h)) hv.1.2 hv.2) λσ H Q q=>?_;obtain⟨μ,hh,σs,rel,aM,ra,p⟩:=q;obtain⟨m,e,p⟩:=Po.opt p;have e':σs[i]?=some (some m):=by
  cases q:σs[i]? with
  |none=>rw[q] at e;cases e
  |some z=>rw[q] at e;exact congrArg some e
 obtain⟨v,e2,rv⟩:=aM.at_ i m e';exact⟨v,e2,p.now rel v rv⟩
theorem AU(fz:Bool)(op:BO)(ha:PE X a (lE ct Ra E ea))(hb:PE X b (lE ct Ra E eb)):PE X (.BinOp a (Co op) b pos) (lE ct Ra E λσ h=>(ea σ h).bind λx h1=>(eb σ h1).bind λy h2=>Qd fz op x y h2) :=
 PE.imp (vG (Yc4 (ct:=ct) (E:=E) fz op) ha hb) λσ H Q q=>by
  obtain⟨μ,h,σs,rel,aM,ra,p⟩:=q;exact lE.mk rel aM ra p λm v μ1 h1 H1 ex av aV rv p1=>lE.mk av aV ra p1 λm2 v2 μ2 h2 H2 dE aZ dn ja p2=>⟨μ2,h2,m,m2,aZ,rv.ext dE,ja,p2⟩
theorem AI(ha:PE X a (lE ct Ra E ea)):PE X (.UnaryOp .USub a pos) (lE ct Ra E λσ h=>(ea σ h).bind λx h1=>opt (zd x) λi=>.ok (.f (.int (-i))) h1) :=
 PE.imp (NR Nb ha) λσ H Q q=>by
  obtain⟨μ,h,σs,rel,aM,ra,p⟩:=q;refine lE.mk rel aM ra p λm v μ1 h1 H1 ex av aV rv p1=>?_;obtain⟨i,e,p2⟩:=Po.opt p1;have:=qi e;subst this;exact⟨i,Zp rv,p2.now av _ (Zw _)⟩
theorem AR(hK:X.K=ct.K)(op:CO)(hu:X.A.units+65<cR)(ha:PE X a (lE ct Ra E ea))(hb:PE X b (lE ct Ra E eb))(hp:Ya b=true) :
  PE X (.Compare a [kR op] [b] pos) (lE ct Ra E λσ h=>(ea σ h).bind λx h1=>(eb σ h1).bind λy h2=>opt (ZF op x y h2) λk=>.ok (.f (.bl k)) h2) /\
  PT X (.Compare a [kR op] [b] pos) (lT ct Ra E (fk λσ h=>(ea σ h).bind λx h1=>(eb σ h1).bind λy h2=>opt (ZF op x y h2) λk=>.ok (.f (.bl k)) h2)) :=
 Bd (QcQ (rD (ct:=ct) hK hu op) ha hb (yG hp _)) (ZcQ (rD (ct:=ct) hK hu op) ha hb (yG hp _)) λσ H Q q=>by
  obtain⟨μ,h,σs,rel,aM,ra,p⟩:=q;refine lE.mk rel aM ra p λm v μ1 h1 H1 ex av aV rv p1=>lE.mk av aV ra p1 λm2 v2 μ2 h2 H2 dE aZ dn ja p2=>?_;obtain⟨k,e,p3⟩:=Po.opt p2;exact⟨μ2,h2,m,m2,k,aZ,rv.ext dE,ja,e,p3.now aZ _ (ZC _)⟩
theorem qcW(hK:X.K=ct.K)(op jG:CO)(hu:X.A.units+65<cR)(ha:PE X a (lE ct Ra E ea))(hb:PE X b (lE ct Ra E eb))(hc:PE X c (lE ct Ra E ec))(hp:Ya c=true) :
  PE X (.Compare a [kR op,kR jG] [b,c] pos) (lE ct Ra E λσ h=>(ea σ h).bind λx h1=>(eb σ h1).bind λy h2=>opt (ZF op x y h2) λk=>if k=true then(ec σ h2).bind λz h3=>opt (ZF jG y z h3) λk=>.ok (.f (.bl k)) h3 else .ok (.f (.bl false)) h2) /\
  PT X (.Compare a [kR op,kR jG] [b,c] pos) (lT ct Ra E (fk λσ h=>(ea σ h).bind λx h1=>(eb σ h1).bind λy h2=>opt (ZF op x y h2) λk=>if k=true then(ec σ h2).bind λz h3=>opt (ZF jG y z h3) λk=>.ok (.f (.bl k)) h3 else .ok (.f (.bl false)) h2)) :=
 Bd (zcE (rD (ct:=ct) hK hu op) (rD (ct:=ct) hK hu jG) ha hb hc (yG hp _)) (zcB (rD (ct:=ct) hK hu op) (rD (ct:=ct) hK hu jG) ha hb hc (yG hp _)) λσ H Q q=>by
  obtain⟨μ,h,σs,rel,aM,ra,p⟩:=q;refine lE.mk rel aM ra p λm v μ1 h1 H1 ex av aV rv p1=>lE.mk av aV ra p1 λm2 v2 μ2 h2 H2 dE aZ dn ja p2=>?_;obtain⟨k,e,p3⟩:=Po.opt p2;refine⟨μ2,h2,m,m2,k,aZ,rv.ext dE,ja,e,k,rfl,?_⟩;cases k with
  |false=>exact p3.now aZ _ (ZC _)
  |true =>
   refine lE.mk aZ dn ra p3 λm3 v3 μ3 h3 H3 fY eg lV uJ p4=>?_;obtain⟨k',e',p5⟩:=Po.opt p4;exact⟨μ3,h3,m2,m3,k',eg,ja.ext fY,uJ,e',p5.now eg _ (ZC _)⟩
theorem IJ{μ:List ae}{L:ae->Prop}{H:Hp}{m:MV}{v:V}(r:RV ct μ L H m v):Yv m=decide (v=.bI):=by
 cases m with
 |f x =>
  cases x with
  |bI=>simp only[RV,RF] at r;subst r;rfl
  |bl _=>simp only[RV,RF] at r;subst r;rfl
  |int _=>simp only[RV,RF] at r;subst r;rfl
  |str _=>simp only[RV,RF] at r;subst r;rfl
  |tup _=>simp only[RV,RF] at r;obtain⟨_,_,rfl,_⟩:=r;rfl
  |lst _=>simp only[RV,RF] at r;obtain⟨_,_,rfl,_⟩:=r;rfl
  |obj _ _ _=>simp only[RV,RF] at r;obtain⟨_,_,_,rfl,_⟩:=r;rfl
  |dm _=>simp only[RV,RF] at r;obtain⟨_,rfl,_⟩:=r;rfl
  |tab _=>simp only[RV,RF] at r;obtain⟨_,_,rfl,_⟩:=r;rfl
  |cV _=>simp only[RV,RF] at r;obtain⟨_,_,rfl,_⟩:=r;rfl
 |ref _=>simp only[RV] at r;obtain⟨_,_,rfl⟩:=r;rfl
 |tup _=>simp only[RV] at r;obtain⟨_,_,rfl,_⟩:=r;rfl
 |exc _=>simp only[RV] at r;obtain⟨_,rfl,_⟩:=r;rfl
theorem AM{j:Nat}{p2:Pos}(ha:PE X a (lE ct Ra E ea)) :
  PE X (.Compare a [.Is] [.Constant .none j p2] pos) (lE ct Ra E λσ h=>(ea σ h).bind λx h1=>.ok (.f (.bl (Yv x))) h1) /\
  PT X (.Compare a [.Is] [.Constant .none j p2] pos) (lT ct Ra E (fk λσ h=>(ea σ h).bind λx h1=>.ok (.f (.bl (Yv x))) h1)) :=
 Bd (Er (NO ha)) (Ep (NO ha)) λσ H Q q=>by
  obtain⟨μ,h,σs,rel,aM,ra,p⟩:=q;refine lE.mk rel aM ra p λm v μ1 h1 H1 ex av aV rv p1=>?_;rw[<- IJ rv];exact p1.now av _ (ZC _)
theorem zc3{j:Nat}{p2:Pos}(ha:PE X a (lE ct Ra E ea)) :
  PE X (.Compare a [.IsNot] [.Constant .none j p2] pos) (lE ct Ra E λσ h=>(ea σ h).bind λx h1=>.ok (.f (.bl (!Yv x))) h1) /\
  PT X (.Compare a [.IsNot] [.Constant .none j p2] pos) (lT ct Ra E (fk λσ h=>(ea σ h).bind λx h1=>.ok (.f (.bl (!Yv x))) h1)) :=
 Bd (Er (KU ha)) (Ep (KU ha)) λσ H Q q=>by
  obtain⟨μ,h,σs,rel,aM,ra,p⟩:=q;refine lE.mk rel aM ra p λm v μ1 h1 H1 ex av aV rv p1=>?_;rw[<- IJ rv];exact p1.now av _ (ZC _)
theorem AH(ha:PE X a (lE ct Ra E ea))(ta:PT X a (lT ct Ra E (fk ea))) :
  PE X (.UnaryOp .Not a pos) (lE ct Ra E λσ h=>(ea σ h).bind λx h1=>opt (QI x) λk=>.ok (.f (.bl (!k))) h1) /\
  PT X (.UnaryOp .Not a pos) (lT ct Ra E (fk λσ h=>(ea σ h).bind λx h1=>opt (QI x) λk=>.ok (.f (.bl (!k))) h1)):=by
 refine⟨PE.imp (qc9 ha) λσ H Q q=>?_,PT.imp (Ydg ta) λσ H Q q=>?_⟩
 ·obtain⟨μ,h,σs,rel,aM,ra,p⟩:=q;refine lE.mk rel aM ra p λm v μ1 h1 H1 ex av aV rv p1=>?_;obtain⟨k,e,p2⟩:=Po.opt p1;have:=Cf e;subst this;exact⟨k,rH rv,p2.now av _ (ZC _)⟩
 ·obtain⟨μ,h,σs,rel,aM,ra,p⟩:=q;refine⟨μ,h,σs,rel,aM,ra,?_⟩;dsimp only[fk] at p ⊢;cases er:ea σs h with
  |stuck=>rw[er] at p;exact p
  |exc c h'=>rw[er] at p;exact p
  |ok x h' =>
   rw[er] at p;simp only[R.aJ] at p ⊢;cases eb:QI x with
   |none=>rw[eb] at p;exact p
   |some k =>
    rw[eb] at p;exact p
theorem AL(tc:PT X c (lT ct Ra E (fk ec)))(ha:PE X a (lE ct Ra E ea))(hb:PE X b (lE ct Ra E eb)) :
  PE X (.IfExp c a b pos) (lE ct Ra E λσ h=>(ec σ h).bind λx h1=>opt (QI x) λk=>if k=true then ea σ h1 else eb σ h1) :=
 PE.imp (Qco tc ha hb) λσ H Q q=>by
  obtain⟨μ,h,σs,rel,aM,ra,p⟩:=q;have p':Po ct E ((fk ec σs h).bind λk h1=>if k=true then ea σs h1 else eb σs h1) μ h H (kV ct Q):=by
   dsimp only[fk] at p ⊢;cases er:ec σs h with
   |stuck=>rw[er] at p;exact p
   |exc c h'=>rw[er] at p;exact p
   |ok x h' =>
    rw[er] at p;simp only[R.aJ] at p ⊢;cases eb:QI x with
    |none=>rw[eb] at p;exact p
    |some k=>rw[eb] at p;exact p
  refine lT.mk rel aM ra p' λk μ1 h1 H1 ex av aV p1=>?_;cases k with
  |true=>exact⟨μ1,h1,σs,av,aV,ra,p1⟩
  |false=>exact⟨μ1,h1,σs,av,aV,ra,p1⟩
theorem AO(ha:PE X a (lE ct Ra E ea)):PE X a (lE ct Ra E λσ h=>(ea σ h).bind λx h1=>QM x h1):=PE.imp ha λσ H Q q=>by
 obtain⟨μ,h,σs,rel,aM,ra,p⟩:=q;refine lE.mk rel aM ra p λm v μ1 h1 H1 ex av aV rv p1=>?_;obtain⟨x,h',nL,bH,rv',k⟩:=Kw av rv p1;exact k v rv'
theorem AF(hK:X.K=ct.K)(ha:PE X a (lE ct Ra E ea))(hb:PE X b (lE ct Ra E eb))(hp:Ya b=true) :
  PE X (.Subscript a b pos) (lE ct Ra E λσ h=>(ea σ h).bind λx h1=>(eb σ h1).bind λy h2=>opt (Qb h2 x) λxs=>opt (zd y) λk=>opt (cW xs k) λv=>.ok v h2) :=
 PE.imp (vH (zcU (ct:=ct) hK) ha hb (Qcq hp)) λσ H Q q=>by
  obtain⟨μ,h,σs,rel,aM,ra,p⟩:=q;refine lE.mk rel aM ra p λm v μ1 h1 H1 ex av aV rv p1=>lE.mk av aV ra p1 λm2 v2 μ2 h2 H2 dE aZ dn ja p2=>?_;obtain⟨xs,e1,p3⟩:=Po.opt p2;obtain⟨k,e2,p4⟩:=Po.opt p3;obtain⟨w,e3,p5⟩:=Po.opt p4;have:=qi e2;subst this;exact⟨μ2,h2,m,k,xs,w,aZ,rv.ext dE,Zp ja,e1,e3,p5.now aZ⟩
end
end
section
variable {ct:Tx} {X:Cx} {E:XK} {Pm:Prog} {n:Nat} {Ra:L2.St->Prop} {N:List Str} {sc:az}
noncomputable def Bo(ct:Tx)(X:Cx)(Ra:L2.St->Prop)(E:XK)(Pm:Prog)(n:Nat):List ME->List Expr->Prop
 |[],[]=>True
 |m::ms,e::es=>(Ya e=true/\PE X e (lE ct Ra E (ya Pm (run Pm n) m))/\(iS m=true->PT X e (lT ct Ra E (fk (ya Pm (run Pm n) m)))))/\Bo ct X Ra E Pm n ms es
 |_,_=>False
theorem Bo.pa:∀{ms:List ME}{es:List Expr},Bo ct X Ra E Pm n ms es->PA X es (lA ct Ra E (Qh Pm (run Pm n) ms))
 |[],[],_=>PA.imp uX λσ H Q q=>by
  obtain⟨μ,h,σs,rel,aM,ra,p⟩:=q;simp only[Qh] at p;exact p.now rel [] aC.nil
 |[],_::_,b=>b.elim
 |_::_,[],b=>b.elim
 |m::ms,e::es,b=>PA.imp (sj b.1.2.1 (Bo.pa b.2) (zi b.1.1)) λσ H Q q=>by
  obtain⟨μ,h,σs,rel,aM,ra,p⟩:=q;simp only[Qh] at p;refine lE.mk rel aM ra p λm' v μ1 h1 H1 ex av aV rv p1=>?_;refine lA.mk av aV ra p1 λms' vs μ2 h2 H2 dE aZ dn eI p2=>?_;exact p2.now aZ _ (aC.cons (rv.ext dE) eI)
theorem Bo.plain:∀{ms:List ME}{es:List Expr},Bo ct X Ra E Pm n ms es->∀ e∈es,Ya e=true
 |[],[],_,e,he=>by simp at he
 |[],_::_,b,_,_=>b.elim
 |_::_,[],b,_,_=>b.elim
 |m::ms,e::es,b,x,hx=>by
  rcases ua.mp hx with rfl|hx
  ·exact b.1.1
  ·exact Bo.plain b.2 x hx
theorem Bo.length:∀{ms:List ME}{es:List Expr},Bo ct X Ra E Pm n ms es->ms.length=es.length
 |[],[],_=>rfl
 |[],_::_,b=>b.elim
 |_::_,[],b=>b.elim
 |m::ms,e::es,b=>by simp[Bo.length b.2]
theorem QQ{W:String->List MV->MH->R MV}:∀{ms:List ME}{σ:aF}{h:MH}{xs:List MV}{h':MH},Qh Pm W ms σ h=.ok xs h'->xs.length=ms.length
 |[],σ,h,xs,h',e=>by simp only[Qh,R.ok.injEq] at e;simp[<- e.1]
 |m::ms,σ,h,xs,h',e=>by
  simp only[Qh] at e;cases e1:ya Pm W m σ h with
  |stuck=>rw[e1] at e;cases e
  |exc c h2=>rw[e1] at e;cases e
  |ok x h1 =>
   rw[e1] at e;simp only[R.aJ] at e;cases e2:Qh Pm W ms σ h1 with
   |stuck=>rw[e2] at e;cases e
   |exc c h2=>rw[e2] at e;cases e
   |ok ys h2 =>
    rw[e2] at e;simp only[R.aJ,R.ok.injEq] at e;rw[<- e.1,ud,ud,QQ e2]
theorem Ox{pos:Pos}:∀{ms:List ME}{es:List Expr},Bo ct X Ra E Pm n ms es->ms.all iS=true->PE X (.BoolOp .And es pos) (lE ct Ra E (Zu Pm (run Pm n) ms))/\PW X (.BoolOp .And es pos) (lT ct Ra E (fk (Zu Pm (run Pm n) ms)))
 |[],[],_,_=>⟨λpins s σ H Q I q=>by
   obtain⟨μ,h,σs,rel,aM,ra,p⟩:=q;simp only[Zu] at p;exact p.elim,λwh pins s σ H Q I q=>by
   obtain⟨μ,h,σs,rel,aM,ra,p⟩:=q;simp only[fk,Zu] at p;exact p.elim⟩
 |[],_::_,b,_=>b.elim
 |_::_,[],b,_=>b.elim
 |[m],[e],b,ht=>by
  simp at ht;refine⟨PE.imp (Lz b.1.2.1) λσ H Q q=>?_,PW.imp (zcV (b.1.2.2 ht)) λσ H Q q=>?_⟩
  ·simpa only[Zu] using q
  ·have:Zu Pm (run Pm n) [m]=ya Pm (run Pm n) m:=by funext σ h;simp only[Zu]
   rw[this] at q;exact q
 |[m],_::_::_,b,_=>b.2.elim
 |_::_::_,[_],b,_=>b.2.elim
 |m::m'::ms,e::e'::es,b,ht=>by
  have Aa:iS m=true/\(m'::ms).all iS=true:=by simpa using ht
  obtain⟨i1,i2⟩:=Ox (ms:=m'::ms) (es:=e'::es) (pos:=pos) b.2 Aa.2;refine⟨PE.imp (Qc7 b.1.2.1 i1) λσ H Q q=>?_,PW.imp (yc4 (b.1.2.2 Aa.1) i2) λσ H Q q=>?_⟩
  ·obtain⟨μ,h,σs,rel,aM,ra,p⟩:=q;simp only[Zu] at p;refine lE.mk rel aM ra p λx v μ1 h1 H1 ex av aV rv p1=>?_;obtain⟨k,ek,p2⟩:=Po.opt p1;have:=Cf ek;subst this;refine⟨k,rH rv,?_⟩;cases k with
   |true=>exact⟨μ1,h1,σs,av,aV,ra,p2⟩
   |false=>exact p2.now av _ (ZC _)
  ·obtain⟨μ,h,σs,rel,aM,ra,p⟩:=q;have p':Po ct E ((fk (ya Pm (run Pm n) m) σs h).bind λk h1=>if k=true then fk (Zu Pm (run Pm n) (m'::ms)) σs h1 else .ok false h1) μ h H (λb _ _ H'=>Q b H'):=by
    simp only[fk,Zu] at p ⊢;cases er:ya Pm (run Pm n) m σs h with
    |stuck=>rw[er] at p;exact p
    |exc c h'=>rw[er] at p;exact p
    |ok x h' =>
     rw[er] at p;simp only[R.aJ] at p ⊢;cases eb:QI x with
     |none=>rw[eb] at p;exact p
     |some k =>
      rw[eb] at p;cases k with
      |true=>exact p
      |false=>exact p
   refine lT.mk rel aM ra p' λk μ1 h1 H1 ex av aV p1=>?_;cases k with
   |true=>exact⟨μ1,h1,σs,av,aV,ra,p1⟩
   |false=>exact p1.now av
theorem AG{pos:Pos}:∀{ms:List ME}{es:List Expr},Bo ct X Ra E Pm n ms es->ms.all iS=true->PE X (.BoolOp .Or es pos) (lE ct Ra E (qC Pm (run Pm n) ms))/\PW X (.BoolOp .Or es pos) (lT ct Ra E (fk (qC Pm (run Pm n) ms)))
 |[],[],_,_=>⟨λpins s σ H Q I q=>by
   obtain⟨μ,h,σs,rel,aM,ra,p⟩:=q;simp only[qC] at p;exact p.elim,λwh pins s σ H Q I q=>by
   obtain⟨μ,h,σs,rel,aM,ra,p⟩:=q;simp only[fk,qC] at p;exact p.elim⟩
 |[],_::_,b,_=>b.elim
 |_::_,[],b,_=>b.elim
 |[m],[e],b,ht=>by
  simp at ht;refine⟨PE.imp (Lz b.1.2.1) λσ H Q q=>?_,PW.imp (Zc6 (b.1.2.2 ht)) λσ H Q q=>?_⟩
  ·simpa only[qC] using q
  ·have:qC Pm (run Pm n) [m]=ya Pm (run Pm n) m:=by funext σ h;simp only[qC]
   rw[this] at q;exact q
 |[m],_::_::_,b,_=>b.2.elim
 |_::_::_,[_],b,_=>b.2.elim
 |m::m'::ms,e::e'::es,b,ht=>by
  have Aa:iS m=true/\(m'::ms).all iS=true:=by simpa using ht
  obtain⟨i1,i2⟩:=AG (ms:=m'::ms) (es:=e'::es) (pos:=pos) b.2 Aa.2;refine⟨PE.imp (u9 b.1.2.1 i1) λσ H Q q=>?_,PW.imp (uY (b.1.2.2 Aa.1) i2) λσ H Q q=>?_⟩
  ·obtain⟨μ,h,σs,rel,aM,ra,p⟩:=q;simp only[qC] at p;refine lE.mk rel aM ra p λx v μ1 h1 H1 ex av aV rv p1=>?_;obtain⟨k,ek,p2⟩:=Po.opt p1;have:=Cf ek;subst this;refine⟨k,rH rv,?_⟩;cases k with
   |false=>exact⟨μ1,h1,σs,av,aV,ra,p2⟩
   |true=>exact p2.now av _ (ZC _)
  ·obtain⟨μ,h,σs,rel,aM,ra,p⟩:=q;have p':Po ct E ((fk (ya Pm (run Pm n) m) σs h).bind λk h1=>if k=true then .ok true h1 else fk (qC Pm (run Pm n) (m'::ms)) σs h1) μ h H (λb _ _ H'=>Q b H'):=by
    simp only[fk,qC] at p ⊢;cases er:ya Pm (run Pm n) m σs h with
    |stuck=>rw[er] at p;exact p
    |exc c h'=>rw[er] at p;exact p
    |ok x h' =>
     rw[er] at p;simp only[R.aJ] at p ⊢;cases eb:QI x with
     |none=>rw[eb] at p;exact p
     |some k =>
      rw[eb] at p;cases k with
      |true=>exact p
      |false=>exact p
   refine lT.mk rel aM ra p' λk μ1 h1 H1 ex av aV p1=>?_;cases k with
   |false=>exact⟨μ1,h1,σs,av,aV,ra,p1⟩
   |true=>exact p1.now av
section
variable {ea:aF->MH->R MV} {es:List Expr} {ev:aF->MH->R (List MV)} {a:Expr} {pos:Pos}
theorem AE{k:Nat}(ha:PA X es (lA ct Ra E ev))(hl:∀ σ h xs h',ev σ h=.ok xs h'->xs.length<=sizeLine):PE X (.Tuple es k pos) (lE ct Ra E λσ h=>(ev σ h).bind λxs h1=>.ok (Zi xs) h1):=PE.imp (Zdb ha) λσ H Q q=>by
 obtain⟨μ,h,σs,rel,aM,ra,p⟩:=q;refine⟨μ,h,σs,rel,aM,ra,?_⟩;dsimp only at p;cases er:ev σs h with
 |stuck=>rw[er] at p;exact p
 |exc c h'=>rw[er] at p;exact p
 |ok xs h' =>
  rw[er] at p;intro μ1 H1 ex av vs eI;exact⟨by rw[eI.length];exact hl _ _ _ _ er,Bk av eI (Po.start ex p)⟩
theorem AK(fz:Bool)(ha:PA X es (lA ct Ra E ev))(hl:∀ σ h xs h',ev σ h=.ok xs h'->xs.length<=sizeLine):PE X (.List es pos) (lE ct Ra E λσ h=>(ev σ h).bind λxs h1=>Qt fz xs h1):=PE.imp (Ydk ha) λσ H Q q=>by
 obtain⟨μ,h,σs,rel,aM,ra,p⟩:=q;refine⟨μ,h,σs,rel,aM,ra,?_⟩;dsimp only at p;cases er:ev σs h with
 |stuck=>rw[er] at p;exact p
 |exc c h'=>rw[er] at p;exact p
 |ok xs h' =>
  rw[er] at p;intro μ1 H1 ex av vs eI;exact⟨by rw[eI.length];exact hl _ _ _ _ er,YF av eI (Po.start ex p)⟩
theorem PO.imp{e:Option Expr}{t t':TO}(p:PO X e t)(k:∀ σ H Q,t' σ H Q->t σ H Q):PO X e t':=λpins s σ H Q I h=>p pins s σ H Q I (k σ H Q h)
theorem YcO(hK:X.K=ct.K)(fz:Bool){lo hi:Option Expr}{el eh:aF->MH->R (Option Int)}{p2:Pos}(ha:PE X a (lE ct Ra E ea))(hl:PO X lo (lO ct Ra E el))(hh:PO X hi (lO ct Ra E eh)) :
  PE X (.Subscript a (.Slice lo hi none p2) pos) (lE ct Ra E λσ h=>(ea σ h).bind λx h1=>(el σ h1).bind λl h2=>(eh σ h2).bind λu h3=>oI fz x l u h3) :=
 PE.imp (qcD (YcJ (ct:=ct) (E:=E) hK fz) ha hl hh) λσ H Q q=>by
  obtain⟨μ,h,σs,rel,aM,ra,p⟩:=q;refine lE.mk rel aM ra p λm v μ1 h1 H1 ex av aV rv p1=>?_;refine lO.mk av aV ra p1 λl μ2 h2 H2 dE aZ dn p2=>?_;refine lO.mk aZ dn ra p2 λu μ3 h3 H3 fY eg lV p3=>?_;exact⟨μ3,h3,m,eg,(rv.ext dE).ext fY,p3⟩
theorem OJ{L:ae->Prop}{H:Hp}{f:String}:∀{ns:List String}{xs:List FV}{fs:List (Str×V)} {x:FV},fs.map Wt=ns.map Str.ofString->fb ct L H xs (fs.map vn)->pZ f ns xs=some x->∃ v,fs.lookup (Str.ofString f)=some v/\RF ct L H x v
 |[],_,_,_,_,_,e=>by simp[pZ] at e
 |_::_,[],_,_,_,_,e=>by simp[pZ] at e
 |m::ns,y::xs,fs,x,h1,h2,e=>by
  cases fs with
  |nil=>simp at h1
  |cons p fs =>
   obtain⟨k,u⟩:=p;simp only[Wb,List.cons.injEq] at h1;simp only[Wb,fb] at h2;obtain⟨v,r,xY,r1,r2⟩:=h2;simp only[List.cons.injEq] at xY;obtain⟨rfl,rfl⟩:=xY;simp only[pZ] at e;by_cases hf:f=m
   ·subst hf;simp at e;subst e;exact⟨u,by simp[Xb,h1.1],r1⟩
   ·rw[if_neg hf] at e;obtain⟨w,q1,q2⟩:=OJ h1.2 r2 e;refine⟨w,?_,q2⟩;have:(Str.ofString f==k)=false:=by
     rw[h1.1];exact beq_false_of_ne λz=>hf (zE z)
    simp[Xb,this,q1]
theorem Ny{μ:List ae}{L:ae->Prop}{H:Hp}{f:String}:∀{fs:List (String×MV)} {gs:List (Str×V)} {m:MV},gs.map Wt=fs.map (λp=>Str.ofString p.1)->aC ct μ L H (fs.map vn) (gs.map vn)->fs.lookup f=some m->∃ v,gs.lookup (Str.ofString f)=some v/\RV ct μ L H m v
 |[],_,_,_,_,e=>by simp at e
 |(k,y)::fs,gs,m,h1,h2,e=>by
  cases gs with
  |nil=>simp at h1
  |cons p gs =>
   obtain⟨k',u⟩:=p;simp only[Wb,List.cons.injEq] at h1;simp only[Wb,aC] at h2;obtain⟨v,r,xY,r1,r2⟩:=h2;simp only[List.cons.injEq] at xY;obtain⟨rfl,rfl⟩:=xY;by_cases hf:f=k
   ·subst hf;simp[Xb] at e;subst e;exact⟨u,by simp[Xb,h1.1],r1⟩
   ·have hb:(f==k)=false:=beq_false_of_ne hf;simp[Xb,hb] at e;obtain⟨w,q1,q2⟩:=Ny h1.2 r2 e;refine⟨w,?_,q2⟩;have:(Str.ofString f==k')=false:=by
     rw[h1.1];exact beq_false_of_ne λz=>hf (zE z)
    simp[Xb,this,q1]
theorem Rel.obj{μ:List ae}{h:MH}{H:Hp}(rel:Rel ct μ h H){i:Nat}{c:String}{fs:List (String×MV)}(e:h[i]?=some (.obj c fs)):∃ b dx gs,μ[i]?=some b/\H b=some (.ins (ct c) dx gs)/\gs.map Wt=fs.map (λp=>Str.ofString p.1)/\aC ct μ (bc μ h) H (fs.map vn) (gs.map vn):=by
 have hi:i<μ.length:=by rw[rel.len];exact(Xa.mp e).1
 obtain⟨dx,gs,q1,q2,q3⟩:=rel.cells i μ[i] _ (by simp[hi]) e;exact⟨_,dx,gs,by simp[hi],q1,q2,q3⟩
theorem AQ{f:String}(T:Txt X.prog X.w X.K X.mg X.base Pm ct n)(ha:PE X a (lE ct Ra E ea))(hn:Yj a=true):PE X (.Attribute a (Str.ofString f) pos) (lE ct Ra E λσ h=>(ea σ h).bind λx h1=>opt (lK Pm.iG f x h1) λv=>.ok v h1) :=
 PE.imp (xJ X.K ha (zI hn)) λσ H Q q=>by
  obtain⟨μ,h,σs,rel,aM,ra,p⟩:=q;refine lE.mk rel aM ra p λm v μ1 h1 H1 ex av aV rv p1=>?_;obtain⟨w,e,p2⟩:=Po.opt p1;unfold lK at e;split at e
  next c ns xs =>
   split at e
   next ok =>
    simp only[Vd] at e;obtain⟨x,e1,rfl⟩:=e;simp only[RV,RF] at rv;obtain⟨b,dx,fs,rfl,nl,hb,q1,q2⟩:=rv;obtain⟨u,e2,ru⟩:=OJ q1 q2 e1;obtain⟨t1,t2⟩:=T.iG c f ok;exact⟨b,ct c,dx,fs,u,rfl,hb,t1,t2,e2,p2.now av u (by simp only[RV];exact ru)⟩
   next=>cases e
  next i =>
   split at e
   next c fs ec =>
    split at e
    next ok =>
     simp only[RV] at rv;obtain⟨b,eb,rfl⟩:=rv;obtain⟨b',dx,gs,iH,hb,q1,q2⟩:=av.obj ec;rw[eb] at iH;cases iH;obtain⟨u,e2,ru⟩:=Ny q1 q2 e;obtain⟨t1,t2⟩:=T.iG c f ok;exact⟨b,ct c,dx,gs,u,rfl,hb,t1,t2,e2,p2.now av u ru⟩
    next=>cases e
   next=>cases e
  next=>cases e
end
end
section
variable {ct:Tx} {X:Cx} {E:XK} {Pm:Prog} {n:Nat} {Ra:L2.St->Prop} {N:List Str} {sc:az}
section
variable {ea:aF->MH->R MV} {v:Expr} {es:List Expr} {ev:aF->MH->R (List MV)} {a:Expr} {p pos:Pos}
theorem Zc8{f:String}{d:aY}(c:Cc X Pm ct n Ra E N sc)(hd:Pm.defs f=some d)(eu:f.toList.contains '.'=false)(hg:gl sc (Str.ofString f)=true)(ha:PA X (v::es) (lA ct Ra E ev))(cF:∀ e∈v::es,Ya e=true) :
  PE X (.Call (.Name (Str.ofString f) p) (v::es) [] pos) (lE ct Ra E λσ h=>(ev σ h).bind λxs h1=>run Pm n f xs h1):=by
 obtain⟨g1,g2,g3⟩:=QN c.sc hg;obtain⟨ps,D⟩:=c.txt.defs f d hd eu;intro pins s σ H Q I q;obtain⟨μ,h,σs,rel,aM,ra,p⟩:=q;refine yb8 (σ0:=σ) D (c.room.mono (by lia)) g1 (c.Cg σ ra) ha g2 (zi (cF v (by simp))) (Qw λe he=>cF e (by simp[he])) pins s σ H Q I ⟨rfl,?_⟩;refine lA.mk rel aM ra p λms vs μ1 h1 H1 ex av aV eI p1=>?_;exact⟨μ1,h1,ms,av,by simpa using eI,p1⟩
theorem qdm(fz:Bool){cn f:String}(c:Cc X Pm ct n Ra E N sc)(hi:Pm.meths cn "__init__"=some f)(hg:gl sc (Str.ofString cn)=true)(ha:PA X (v::es) (lA ct Ra E ev))(cF:∀ e∈v::es,Ya e=true) :
  PE X (.Call (.Name (Str.ofString cn) p) (v::es) [] pos) (lE ct Ra E λσ h=>(ev σ h).bind λxs h1=>zD Pm (run Pm n) fz cn xs h1):=by
 obtain⟨g1,g2,g3⟩:=QN c.sc hg;obtain⟨ps,D⟩:=c.txt.kG cn f hi;intro pins s σ H Q I q;obtain⟨μ,h,σs,rel,aM,ra,p⟩:=q;refine yb5 (σ0:=σ) D c.room g1 (c.Cg σ ra) ha g2 (zi (cF v (by simp))) (Qw λe he=>cF e (by simp[he])) pins s σ H Q I ⟨rfl,?_⟩;refine lA.mk rel aM ra p λms vs μ1 h1 H1 ex av aV eI p1=>?_;intro x dx hx Al jb;have jx:upd H1 dx (.own x) x=none:=by rw[Zc (Ne.symm jb)];exact hx
 have gQ:=Ext.new av Al (.own x);have aZ:=av.new Al (.own x);have dE:=Ext.cell aZ jx (.obj cn []) (.ins (ct cn) dx []);have eg:Rel ct (μ1++[x]) (h1++[.obj cn []]) (upd (upd H1 dx (.own x)) x (.ins (ct cn) dx [])):=aZ.cell jx ⟨dx,[],qe,rfl,aC.nil⟩;have fY:=gQ.trans dE;refine⟨μ1++[x],h1++[.obj cn []],.ref h1.length::ms,eg,aC.cons ?_ (by simpa using eI.ext fY),?_⟩
 ·simp only[RV];exact⟨x,by rw[<- av.len];simp,rfl⟩
 ·unfold zD at p1;rw[hi] at p1;dsimp only at p1;cases er:run Pm n f (.ref h1.length::ms) (h1++[.obj cn []]) with
  |stuck=>rw[er] at p1;exact p1.elim
  |exc c h2=>rw[er] at p1;exactλμ2 H2 jR jD=>p1 μ2 H2 (fY.trans jR) jD
  |ok m h2 =>
   rw[er] at p1;simp only[R.aJ] at p1;intro μ2 H2 jR jD u ru;have pF:Yv m=true:=by
    cases em:Yv m with
    |true=>rfl
    |false=>rw[em] at p1;simp only[if_true] at p1;exact p1.elim
   rw[pF] at p1;simp only[wE,if_false] at p1;rw[IJ ru] at pF;refine⟨of_decide_eq_true pF,?_⟩;have ext:=fY.trans jR;obtain⟨ν,eν⟩:=jR.pre;rw[uh] at eν;subst eν;have xW:(μ1++([x]++ν))[h1.length]?=some x:=by rw[<- av.len];simp
   cases fz with
   |false=>exact p1 _ H2 ext jD _ (by simp only[RV];exact⟨x,xW,rfl⟩)
   |true =>
    dsimp only at p1;split at p1
    next c' fs ec =>
     obtain⟨ys,ey,p4⟩:=Po.opt p1;split at p4
     next t =>
      obtain⟨b,Il,gs,eb,hb,q1,q2⟩:=jD.obj ec;rw[xW] at eb;cases eb;have nx:x∉μ1:=av.fresh hx;refine p4 μ1 H2 (Ext.cut av.len ext) (av.cut t jD) (.ref x) ?_;simp only[RV,RF];refine⟨x,Il,gs,rfl,λl=>?_,hb,?_,?_⟩
      ·obtain⟨i,_,e1,_,_⟩:=l;exact nx (Ue e1)
      ·rw[q1,wf];rfl
      ·exact fb.to ⟨λ_ _ e _=>e,λb _ _ nl l=>nl (bc.cut av.len l)⟩ (aC.toF ey q2)
     next=>exact p4.elim
    next=>exact p1.elim
theorem Be(fz:Bool){id:String}(c:Cc X Pm ct n Ra E N sc)(hx:id∈dW)(hg:gl sc (Str.ofString id)=true)(hb:bD (Str.ofString id)=some (.builtin id))(hr:aP X (.builtin id) (rB ct E fz id))(ha:PA X (v::es) (lA ct Ra E ev))(cF:∀ e∈v::es,Ya e=true) :
  PE X (.Call (.Name (Str.ofString id) p) (v::es) [] pos) (lE ct Ra E λσ h=>(ev σ h).bind λxs h1=>Yr fz id xs h1):=by
 obtain⟨g1,g2,g3⟩:=QN c.sc hg;have hm:=c.txt.ie id (by simp[hx]);refine PE.imp (Jv hr g1 hm hb ha g3 g2 (zi (cF v (by simp))) (Qw λe he=>cF e (by simp[he]))) λσ H Q q=>?_;obtain⟨μ,h,σs,rel,aM,ra,p⟩:=q;exact lA.mk rel aM ra p λms vs μ1 h1 H1 ex av aV eI p1=>⟨μ1,h1,ms,av,eI,p1⟩
theorem Nc(fz:Bool){id:String}(c:Cc X Pm ct n Ra E N sc)(hx:id∈dB)(hg:gl sc (Str.ofString id)=true)(hb:bD (Str.ofString id)=some (.type id))(hr:aP X (.type id) (rB ct E fz id))(ha:PA X (v::es) (lA ct Ra E ev))(cF:∀ e∈v::es,Ya e=true) :
  PE X (.Call (.Name (Str.ofString id) p) (v::es) [] pos) (lE ct Ra E λσ h=>(ev σ h).bind λxs h1=>Yr fz id xs h1):=by
 obtain⟨g1,g2,g3⟩:=QN c.sc hg;have hm:=c.txt.ie id (by simp[hx]);refine PE.imp (IK hr g1 hm hb ha g3 g2 (zi (cF v (by simp))) (Qw λe he=>cF e (by simp[he]))) λσ H Q q=>?_;obtain⟨μ,h,σs,rel,aM,ra,p⟩:=q;exact lA.mk rel aM ra p λms vs μ1 h1 H1 ex av aV eI p1=>⟨μ1,h1,ms,av,eI,p1⟩
theorem AS(fz:Bool){id:String}(c:Cc X Pm ct n Ra E N sc)(hx:id∈dW\/id∈dB)(hg:gl sc (Str.ofString id)=true)(ha:PA X (v::es) (lA ct Ra E ev))(cF:∀ e∈v::es,Ya e=true) :
  PE X (.Call (.Name (Str.ofString id) p) (v::es) [] pos) (lE ct Ra E λσ h=>(ev σ h).bind λxs h1=>Yr fz id xs h1):=by
 rcases hx with hx|hx
 ·have jx:=hx;simp only[dW,ua,Vc,or_false] at jx
  rcases jx with rfl|rfl|rfl|rfl|rfl
  ·exact Be fz c hx hg (by decide +kernel) (Qde c.hK fz) ha cF
  ·exact Be fz c hx hg (by decide +kernel) (zdk c.hK fz c.calm) ha cF
  ·exact Be fz c hx hg (by decide +kernel) (Yc3 c.hK fz c.calm) ha cF
  ·exact Be fz c hx hg (by decide +kernel) (zde c.hK fz c.calm) ha cF
  ·exact Be fz c hx hg (by decide +kernel) (qc3 c.hK fz c.calm) ha cF
 ·have jx:=hx;simp only[dB,ua,Vc,or_false] at jx
  rcases jx with rfl|rfl
  ·exact Nc fz c hx hg (by decide +kernel) (ycx c.hK fz) ha cF
  ·exact Nc fz c hx hg (by decide +kernel) (ZcV c.hK fz) ha cF
theorem Qcf{t:String}(h:t∈bw):bD (Str.ofString t)=some (.type t):=by
 simp only[bw,ua,Vc,or_false] at h
 rcases h with rfl|rfl|rfl|rfl|rfl|rfl <;> decide +kernel
end
end
noncomputable def bb(T U:String):Bool:=decide (U=T)||(decide (T="bool")&&decide (U="int"))
theorem Zda{K:PySem.W.Frag}{T U:String}(h:T∈["NoneType","bool","int","str","list","tuple"])(h':U∈bw):Wg K (.type T) (.type U)=some (bb T U):=by
 simp only[bw,ua,Vc,or_false] at h h'
 rcases h with rfl|rfl|rfl|rfl|rfl|rfl <;> rcases h' with rfl|rfl|rfl|rfl|rfl|rfl <;> rfl
section
variable {ct:Tx} {X:Cx} {E:XK} {Pm:Prog} {n:Nat} {Ra:L2.St->Prop} {N:List Str} {sc:az}
noncomputable def Z5(h:MH):MV->Option String
 |.f .bI=>some "NoneType"
 |.f (.bl _)=>some "bool"
 |.f (.int _)=>some "int"
 |.f (.str _)=>some "str"
 |.f (.tup _)=>some "tuple"
 |.f (.lst _)=>some "list"
 |.tup _=>some "tuple"
 |.ref a=>match h[a]? with
  |some (.lst _)=>some "list"
  |_=>none
 |_=>none
theorem ON{h:MH}{m:MV}{T:String}(e:Z5 h m=some T):T∈["NoneType","bool","int","str","list","tuple"]:=by
 unfold Z5 at e;split at e
 all_goals first|(cases e;simp;done)|skip
 ·split at e
  next=>cases e;simp
  next=>cases e
 ·cases e
theorem ycI{K:PySem.W.Frag}{μ:List ae}{h:MH}{H:Hp}{m:MV}{v:V}{T:String}(rel:Rel ct μ h H)(e:Z5 h m=some T)(r:RV ct μ (bc μ h) H m v):gB K H v (.type T):=by
 unfold Z5 at e;split at e
 next=>cases e;simp only[RV,RF] at r;subst r;exact .bI
 next=>cases e;simp only[RV,RF] at r;subst r;exact .bl _
 next=>cases e;simp only[RV,RF] at r;subst r;exact .int _
 next=>cases e;simp only[RV,RF] at r;subst r;exact .str _
 next=>cases e;simp only[RV,RF] at r;obtain⟨_,_,rfl,_,hb,_⟩:=r;exact .tup hb
 next =>
  cases e;simp only[RV,RF] at r;obtain⟨_,_,rfl,_,hb,_⟩:=r
  rcases hb with hb|⟨o,hb⟩
  ·exact .lst hb
  ·exact .e8 hb
 next=>cases e;simp only[RV] at r;obtain⟨_,_,rfl,_,hb,_⟩:=r;exact .tup hb
 next i =>
  split at e
  next xs q =>
   cases e;simp only[RV] at r;obtain⟨b,eb,rfl⟩:=r;obtain⟨b',vs,iH,hb,_⟩:=rel.lst (show Yd h i=some xs by unfold Yd;rw[q]);rw[eb] at iH;cases iH;exact .lst hb
  next=>cases e
 next=>cases e
theorem zcS{subs:String->String->Option Bool}{h:MH}{m:MV}{t T:String}{b:Bool}(e:Z5 h m=some T)(q:kg subs h m t=some b)(hn:t≠"NoneType"):b=bb T t:=by
 unfold Z5 at e;split at e
 next=>cases e;cases q;simp[bb,hn]
 next=>cases e;cases q;simp[bb]
 next=>cases e;cases q;simp[bb]
 next=>cases e;cases q;simp[bb]
 next=>cases e;cases q;simp[bb]
 next=>cases e;cases q;simp[bb]
 next=>cases e;cases q;simp[bb]
 next i =>
  split at e
  next xs w =>
   cases e;simp only[kg,w,Option.some.injEq] at q;rw[<- q];simp[bb]
  next=>cases e
 next=>cases e
theorem Qda{μ:List ae}{h:MH}{H:Hp}{m:MV}{v:V}{t:String}{b:Bool}(T:Txt X.prog X.w X.K X.mg X.base Pm ct n)(rel:Rel ct μ h H)(r:RV ct μ (bc μ h) H m v)(q:kg Pm.subs h m t=some b)(ht:bw.contains t=true\/(Pm.subs t t).isSome=true) :
  ∃ tv,gB X.K H v tv/\Wg X.K tv (if bw.contains t=true then .type t else .ref (ct t))=some b:=by
 cases ek:Z5 h m with
 |some Tn =>
  refine⟨.type Tn,ycI rel ek r,?_⟩;by_cases hb:bw.contains t=true
  ·rw[if_pos hb];have hm:t∈bw:=by simpa using hb
   have hn:t≠"NoneType":=by
    rintro rfl;simp[bw] at hm
   rw[zcS ek q hn];exact Zda (ON ek) hm
  ·rw[if_neg hb];have jQ:bw.contains t=false:=by simpa using hb
   obtain⟨b0,e0⟩:=Wn.mp (ht.resolve_left hb);have hk:=T.BX t t b0 e0 jQ Tn (ON ek);rw[hk];have hm:t∉bw:=by simpa using jQ
   simp only[bw,ua,Vc,or_false,not_or] at hm;unfold Z5 at ek;split at ek
   next=>cases ek;cases q;rfl
   next=>cases ek;cases q;simp[hm]
   next=>cases ek;cases q;simp[hm]
   next=>cases ek;cases q;simp[hm]
   next=>cases ek;cases q;simp[hm]
   next=>cases ek;cases q;simp[hm]
   next=>cases ek;cases q;simp[hm]
   next i =>
    split at ek
    next xs w =>
     simp only[kg,w,Option.some.injEq] at q;rw[<- q];simp[hm]
    next=>cases ek
   next=>cases ek
 |none =>
  have obj:∃ c a dx fs,v=.ref a/\H a=some (.ins (ct c) dx fs)/\Pm.subs c t=some b:=by
   cases m with
   |f x =>
    cases x with
    |obj c ns vs =>
     simp only[RV,RF] at r;obtain⟨a,dx,fs,rfl,_,hb,_⟩:=r;exact⟨c,a,dx,fs,rfl,hb,q⟩
    |dm _=>cases q
    |tab _=>cases q
    |cV _=>cases q
    |_=>simp[Z5] at ek
   |tup _=>simp[Z5] at ek
   |exc _=>cases q
   |ref i =>
    simp only[kg] at q;split at q
    next xs w=>simp[Z5,w] at ek
    next c fs w =>
     obtain⟨a,dx,gs,ea,hb,_⟩:=rel.obj w;simp only[RV] at r;obtain⟨a',M4,rfl⟩:=r;rw[ea] at M4;cases M4;exact⟨c,a,dx,gs,rfl,hb,q⟩
    next=>cases q
  obtain⟨c,a,dx,fs,rfl,hb,q⟩:=obj;have C:=T.cls c t b q;refine⟨.ref (ct c),.ins hb C.cl C.ha C.hn C.tk C.hm,?_⟩;by_cases hb:bw.contains t=true
  ·rw[if_pos hb];exact T.m8 c t b q hb
  ·rw[if_neg hb];exact(T.lQ c t b q (by simpa using hb)).2
section
variable {ea:aF->MH->R MV} {v:Expr} {es:List Expr} {ev:aF->MH->R (List MV)} {a:Expr} {p p2 pos:Pos}
theorem AN{t:String}(c:Cc X Pm ct n Ra E N sc)(ht:bw.contains t=true\/(Pm.subs t t).isSome=true)(hg:gl sc "isinstance"=true)(hgt:gl sc (Str.ofString t)=true)(ha:PE X a (lE ct Ra E ea))(hp:Ya a=true) :
  PE X (.Call (.Name "isinstance" p) [a,.Name (Str.ofString t) p2] [] pos) (lE ct Ra E λσ h=>(ea σ h).bind λx h1=>opt (kg Pm.subs h1 x t) λk=>.ok (.f (.bl k)) h1):=by
 obtain⟨g1,g2,g3⟩:=QN c.sc hg;obtain⟨k1,k2,k3⟩:=QN c.sc hgt;have hm:X.mg "isinstance"=none:=c.txt.ie "isinstance" (by simp);have tyE:∃ cv,pT cv=some (if bw.contains t=true then .type t else .ref (ct t))/\PE X (.Name (Str.ofString t) p2) (tC cv):=by
  by_cases hb:bw.contains t=true
  ·rw[if_pos hb];have CP:t∈bw:=by simpa using hb
   exact⟨.ty t,rfl,zcP (v:=.ty t) k1 (c.txt.ie t (by simp[CP])) (Qcf CP) rfl k3 k2⟩
  ·rw[if_neg hb];obtain⟨b0,e0⟩:=Wn.mp (ht.resolve_left hb);exact⟨.ref (ct t),rfl,Ke (v:=.ref (ct t)) k1 (c.txt.lQ t t b0 e0 (by simpa using hb)).1 rfl k2⟩
 obtain⟨cv,ecv,pe⟩:=tyE;refine PE.imp (Jv (xI X.K) g1 hm boot_isinstance (sj ha (sj pe uX (by rfl)) (zi hp)) g3 g2 (zi hp) (by rfl)) λσ H Q q=>?_;obtain⟨μ,h,σs,rel,aM,ra,p⟩:=q;refine lE.mk rel aM ra p λm w μ1 h1 H1 ex av aV rv p1=>?_;obtain⟨k,e,p2⟩:=Po.opt p1;obtain⟨tv,ty,kit⟩:=Qda c.txt av rv e ht;exact⟨w,cv,tv,_,k,rfl,ecv,ty,kit,p2.now av _ (ZC _)⟩
theorem zc7{K:PySem.W.Frag}{mo:MV}{xs:List MV}{μ:List ae}{h:MH}{H:Hp}{x:V}(rel:Rel ct μ h H)(r:RV ct μ (bc μ h) H mo x)(e:Cv mo h=some xs):FA K "list" x H:=by
 cases mo with
 |ref i =>
  obtain⟨b,vs,e1,e2,q⟩:=rel.lst (show Yd h i=some xs from e);simp only[RV] at r;obtain⟨b',e3,rfl⟩:=r;rw[e1] at e3;cases e3;exact .inl ⟨rfl,vs,fq.of e2⟩
 |f _=>cases e
 |tup _=>cases e
 |exc _=>cases e
theorem JK{env : Env}{cp : Pos}{es : List Expr}(h : ∀ e∈es, Ya e=true)(hl : es.length<30) : ((bh cp (au es env)).all (λx => !x.1)&&(dh cp (bG [] env)).all (λx => x.1.isSome)
   && decide (es.length+([]:List cP).length+(if([]:List cP).isEmpty then 0 else 1)<30))=true:=by
 rw[Qo h];have h1:(bh cp (es.map λe=>(false,eval e env))).all (λx=>!x.1)=true:=by
  unfold bh;rw[wf,List.all_map]
  induction es with
  |nil=>rfl
  |cons e es ih=>simp[VC]
 rw[h1];simp[bG,dh];exact hl
theorem Nj{m id:String}{ap cp:Pos}(slot:Slot "list" (Str.ofString m) id)(G8:typeOf (.builtin id)=pure (.type "method_descriptor"))(hr:nV X id (Gd ct E m))(ho:PE X a (lE ct Ra E ea))(hn:Yj a=true)(ha:PA X (v::es) (lA ct Ra E ev))(cF:∀ e∈v::es,Ya e=true)
  (hl:(v::es).length<30) (dJ:(ap.endLine==cp.line)=true):PE X (.Call (.Attribute a (Str.ofString m) ap) (v::es) [] cp) (lE ct Ra E λσ h=>(ea σ h).bind λx h1=>opt (Cv x h1) λ_=>(ev σ h1).bind λxs h2=>l6 m x xs h2) :=
 PE.imp (vI PySem.F.plainAttrs_list slot G8 hr ho ha (zI hn) (JK cF hl) dJ (zi (cF v (by simp))) (Qw λe he=>cF e (by simp[he]))) λσ H Q q=>by
  obtain⟨μ,h,σs,rel,aM,ra,p⟩:=q;refine lE.mk rel aM ra p λm' w μ1 h1 H1 ex av aV rv p1=>?_;obtain⟨xs,gQ,p2⟩:=Po.opt p1;refine⟨zc7 av rv gQ,?_⟩;exact lA.mk av aV ra p2 λms vs μ2 h2 H2 dE aZ dn eI p3=>⟨μ2,h2,m',ms,aZ,rv.ext dE,eI,p3⟩
theorem JQ{h:MH}{v:MV}{ks:List Int}(e:oE h v=some ks):∃ i,v=.ref i/\h[i]?=some (.iC ks):=by
 cases v with
 |ref i =>
  simp only[oE] at e;split at e
  next iz w=>cases e;exact⟨i,rfl,w⟩
  next=>cases e
 |f _=>cases e
 |tup _=>cases e
 |exc _=>cases e
noncomputable abbrev mj(ks:List Int):List (Key×V):=ks.map λk=>((Sum.inl k:Key),V.bl true)
theorem GN(ks:List Int)(k:Int):yF (mj ks) (Sum.inl k:Key) (V.bl true)=mj (zA ks k):=by
 unfold yF zA mj;have e:((ks.map λk=>((Sum.inl k:Key),V.bl true)).any λkv=>decide (kv.1=Sum.inl k))=decide (k∈ks):=by
  rw[VD]
  induction ks with
  |nil=>rfl
  |cons a ks ih =>
   rw[ut,ih];by_cases h:a=k
   ·subst h;simp
   ·have h':¬ k=a:=λz=>h z.symm;simp[h,h']
 rw[e];by_cases h:k∈ks
 ·simp only[h,decide_true,if_true,wf];refine XD λa _=>?_;simp only[VC];split <;> rfl
 ·simp[h]
theorem QcR{b:Expr}{eb:aF->MH->R MV}{k1 k2:Nat}(ha:PE X a (lE ct Ra E ea))(hb:PE X b (lE ct Ra E eb)) :
  PE X (.Dict [some a,some b] [.Constant (.bool true) k1 p,.Constant (.bool true) k2 p2] pos) (lE ct Ra E λσ h=>(ea σ (h++[.iC []])).bind λx h1=>(eb σ h1).bind λy h2=>ip h.length x y h2):=by
 refine PE.imp (qcM (N6 ha B' (N6 hb B' qcL)) rfl rfl (by simp) (by simp)) λσ H Q q d hd=>?_;obtain⟨μ,h,σs,rel,aM,ra,pp⟩:=q;have C1:=Ext.cell rel hd (.iC []) (.dK []);have oX:Rel ct (μ++[d]) (h++[.iC []]) (upd H d (.dK [])):=rel.cell hd qe;refine lE.mk oX (aM.ext C1) ra (Po.start C1 pp) λm w μ1 h1 H1 gQ av aV oh p1=>?_;refine lE.mk av aV ra p1 λm2 w2 μ2 h2 H2 dE aZ dn ja p2=>?_;obtain⟨i,e1,p3⟩:=Po.opt p2;obtain⟨j,e2,p4⟩:=Po.opt p3;obtain⟨ks,e3,p5⟩:=Po.opt p4;split at p5
 next hk =>
  subst hk;obtain⟨i',ei,hc⟩:=JQ e3;cases ei;have:=qi e1;subst this;have:=qi e2;subst this;have hm:μ2[h.length]?=some d:=by
   obtain⟨ν,e⟩:=gQ.pre;obtain⟨ν',e'⟩:=dE.pre;rw[e',e,<- rel.len];simp
  have hH:H2 d=some (.dK []):=aZ.cells _ _ _ hm hc;refine⟨hH,[((Sum.inl i:Key),V.bl true),((Sum.inl j:Key),V.bl true)],?_,by simp,?_⟩
  ·rw[Zp (oh.ext dE),Zp ja];rfl
  ·have fY:=Ext.set (H:=H2) aZ hm hc (λz=>nomatch z) (.iC (zA (zA [] i) j)) (.dK (mj (zA (zA [] i) j)));have e4:rE [] [((Sum.inl i:Key),V.bl true),((Sum.inl j:Key),V.bl true)]=mj (zA (zA [] i) j):=by
    rw[<- GN,<- GN];rfl
   rw[e4];exact p5 μ2 _ fY (aZ.set hm hc (λz=>nomatch z) qe) (.ref d) (by simp only[RV];exact⟨d,hm,rfl⟩)
 next=>exact p5.elim
theorem zdc{p3 p4:Pos}(c:Cc X Pm ct n Ra E N sc)(hg:gl sc "sorted"=true)(hgl:gl sc "list"=true)(ha:PE X a (lE ct Ra E ea))(hp:Ya a=true) :
  PE X (.Call (.Name "sorted" p) [.Call (.Name "list" p2) [a] [] p3] [] pos) (lE ct Ra E λσ h=>(ea σ h).bind λx h1=>jS x h1):=by
 obtain⟨g1,g2,g3⟩:=QN c.sc hg;obtain⟨k1,k2,k3⟩:=QN c.sc hgl;have hm:X.mg "sorted"=none:=c.txt.ie "sorted" (by simp);have CP:X.mg "list"=none:=c.txt.ie "list" (by simp[dB,bw]);refine PE.imp (Jv ybz g1 hm (by decide +kernel) (sj (IK (YbP c.calm) k1 CP (by decide +kernel) (sj ha uX (zi hp)) k3 k2 (zi hp) (by rfl)) uX (by rfl)) g3 g2 (by rfl) (by rfl)) λσ H Q q=>?_;obtain⟨μ,h,σs,rel,aM,ra,pp⟩:=q;refine lE.mk rel aM ra pp λm w μ1 h1 H1 ex av aV rv p1=>?_;obtain⟨ks,e,p2⟩:=Po.opt p1;split at p2
 next hk =>
  obtain⟨i,rfl,hc⟩:=JQ e;simp only[RV] at rv;obtain⟨b,eb,rfl⟩:=rv;have hH:H1 b=some (.dK (mj ks)):=av.cells _ _ _ eb hc;refine⟨b,mj ks,rfl,hH,λl hl=>?_⟩;refine⟨l,ks,rfl,fq.of (by rw[qe,wf];rfl),hk,λlY pm pw l' rS=>?_⟩;have:=ZcB pm pw;subst this;have dE:=Ext.new av hl (.lst ((mj ks).map λkv=>L2.kV kv.1));have aZ:=av.new hl (.lst ((mj ks).map λkv=>L2.kV kv.1));exact YF (fz:=false) aZ (sk _) (Po.start dE p2) l' rS
 next=>exact p2.elim
noncomputable abbrev kP(k:Int×Int):List Key:=[Sum.inl k.1,Sum.inl k.2]
theorem pA{k l:Int×Int}:kP k=kP l↔k=l:=by
 constructor
 ·intro h;simp only[kP,List.cons.injEq,Sum.inl.injEq,and_true] at h;exact Xv h.1 h.2
 ·rintro rfl;rfl
theorem qc7(k l:Int×Int):decide (kP k=kP l)=decide (k=l):=by
 by_cases h:k=l
 ·subst h;simp
 ·have h':¬ kP k=kP l:=λz=>h (pA.mp z);rw[decide_eq_false h,decide_eq_false h']
theorem DR{μ:List ae}{L:ae->Prop}{H:Hp}{y:MV}{v:V}{k:Int×Int}(r:RV ct μ L H y v)(e:sR y=some k):∃ p,v=.ref p/\¬ L p/\H p=some (.tup ((kP k).map L2.kV)):=by
 unfold sR at e;split at e
 next a b w =>
  cases e;cases y with
  |f x =>
   cases x with
   |tup xs =>
    simp only[qk,Option.some.injEq] at w
    rcases xs with _|⟨x,_|⟨y,_|⟨z,zs⟩⟩⟩ <;> simp at w
    obtain⟨rfl,rfl⟩:=w;simp only[RV,RF,fb] at r;obtain⟨p,vs,rfl,n,hp,v1,r1,rfl,rfl,v2,r2,rfl,rfl,rfl⟩:=r;exact⟨p,rfl,n,hp⟩
   |_=>simp[qk] at w
  |tup xs =>
   simp only[qk,Option.some.injEq] at w;subst w;simp only[RV,aC,RF] at r;obtain⟨p,vs,rfl,n,hp,v1,r1,rfl,rfl,v2,r2,rfl,rfl,rfl⟩:=r;exact⟨p,rfl,n,hp⟩
  |ref _=>simp[qk] at w
  |exc _=>simp[qk] at w
 next=>cases e
theorem aC.rev{μ:List ae}{L:ae->Prop}{H:Hp}:∀{xs:List MV}{vs:List V},aC ct μ L H xs vs->aC ct μ L H xs.reverse vs.reverse
 |[],vs,r=>by simp only[aC] at r;subst r;exact aC.nil
 |x::xs,vs,r=>by
  simp only[aC] at r;obtain⟨v,t,rfl,r1,r2⟩:=r;rw[Vr,Vr];exact(aC.rev r2).append (aC.cons r1 aC.nil)
theorem Ydf(fz:Bool){st:Expr}{p2:Pos}(c:Cc X Pm ct n Ra E N sc)(hs:nB st=true)(ha:PE X a (lE ct Ra E ea)) :
  PE X (.Subscript a (.Slice none none (some st) p2) pos) (lE ct Ra E λσ h=>(ea σ h).bind λx h1=>opt (MP.listOf h1 x) λxs=>Qt fz xs.reverse h1):=by
 have pB:∃ p3 p4 k,st=.UnaryOp .USub (.Constant (.int 1) k p3) p4:=by
  unfold nB at hs;split at hs
  ·exact⟨_,_,_,rfl⟩
  ·cases hs
 obtain⟨p3,p4,k,rfl⟩:=pB;refine PE.imp (ZcK ha (LW (NR Nb J4))) λσ H Q q=>?_;obtain⟨μ,h,σs,rel,aM,ra,pp⟩:=q;refine lE.mk rel aM ra pp λm w μ1 h1 H1 ex av aV rv p1=>?_;obtain⟨xs,e,p2⟩:=Po.opt p1;obtain⟨b,vs,rfl,rd,rs⟩:=qu av e rv;exact⟨1,rfl,-1,rfl,rfl,b,vs,rfl,.inl rd,λl hl=>YF av rs.rev p2 l hl⟩
theorem Jz{m:String}:∀{ns:List String}{gs:List (Str×V)},gs.map Wt=ns.map Str.ofString->m∉ns->gs.lookup (Str.ofString m)=none
 |[],[],_,_=>rfl
 |[],_::_,e,_=>by simp at e
 |_::_,[],e,_=>by simp at e
 |k::ns,(k',u)::gs,e,h=>by
  simp only[Wb,List.cons.injEq] at e;have:(Str.ofString m==k')=false:=by
   rw[e.1];exact beq_false_of_ne λz=>h (by have:=zE z;subst this;exact Ug)
  rw[Xb,this];exact Jz e.2 λz=>h (Wf _ z)
theorem N4{μ:List ae}{h:MH}{H:Hp}{m c:String}{x:MV}{v:V}(rel:Rel ct μ h H)(r:RV ct μ (bc μ h) H x v)(e:lN m x h=some c):∃ b dx fs,v=.ref b/\H b=some (.ins (ct c) dx fs)/\fs.lookup (Str.ofString m)=none:=by
 unfold lN at e;split at e
 next c' ns xs =>
  split at e
  next=>cases e
  next no =>
   cases e;simp only[RV,RF] at r;obtain⟨b,dx,fs,rfl,nl,hb,q1,q2⟩:=r;exact⟨b,dx,fs,rfl,hb,Jz q1 no⟩
 next i =>
  split at e
  next c' fs ec =>
   split at e
   next=>cases e
   next no =>
    cases e;simp only[RV] at r;obtain⟨b,eb,rfl⟩:=r;obtain⟨b',dx,gs,iH,hb,q1,q2⟩:=rel.obj ec;rw[eb] at iH;cases iH;exact⟨b,dx,gs,rfl,hb,Jz (by rw[q1,wf];rfl) no⟩
  next=>cases e
 next=>cases e
theorem ycT{m:String}{ap cp:Pos}(c:Cc X Pm ct n Ra E N sc)(hm:m≠"__init__")(ho:PE X a (lE ct Ra E ea))(hn:Yj a=true)(ha:PA X (v::es) (lA ct Ra E ev))(cF:∀ e∈v::es,Ya e=true)
  (hl:(v::es).length<30) (dJ:(ap.endLine==cp.line)=true) :
  PE X (.Call (.Attribute a (Str.ofString m) ap) (v::es) [] cp) (lE ct Ra E λσ h=>(ea σ h).bind λx h1=>opt (lN m x h1) λk=>opt (Pm.meths k m) λf=>(ev σ h1).bind λxs h2=>run Pm n f (x::xs) h2):=by
 intro pins s σ H Q I q;obtain⟨μ,h,σs,rel,aM,ra,p⟩:=q;refine qcs (k:=2*n) (σ0:=σ) ho (c.room.mono (by lia)) (c.Cg σ ra) ha (zi (cF v (by simp))) (Qw λe he=>cF e (by simp[he])) (zI hn) (JK cF hl) dJ pins s σ H Q I ⟨rfl,?_⟩;refine lE.mk rel aM ra p λm' w μ1 h1 H1 ex av aV rv p1=>?_;obtain⟨cn,ec,p2⟩:=Po.opt p1;obtain⟨f,ef,p3⟩:=Po.opt p2;obtain⟨b,dx,fs,rfl,hb,l⟩:=N4 av rv ec;refine⟨b,ct cn,dx,fs,kC ct (run Pm n f),rfl,hb,l,c.txt.meths cn m f ef hm,?_⟩;refine lA.mk av aV ra p3 λms vs μ2 h2 H2 dE aZ dn eI p4=>?_;exact⟨μ2,h2,m'::ms,aZ,aC.cons (rv.ext dE) eI,p4⟩
theorem ZcO{m:String}{ap cp:Pos}(c:Cc X Pm ct n Ra E N sc)(hm:m≠"__init__")(ho:PE X a (lE ct Ra E ea))(hn:Yj a=true)(dJ:(ap.endLine==cp.line)=true) :
  PE X (.Call (.Attribute a (Str.ofString m) ap) [] [] cp) (lE ct Ra E λσ h=>(ea σ h).bind λx h1=>opt (lN m x h1) λk=>opt (Pm.meths k m) λf=>(R.ok [] h1).bind λxs h2=>run Pm n f (x::xs) h2):=by
 intro pins s σ H Q I q;obtain⟨μ,h,σs,rel,aM,ra,p⟩:=q;refine qca (k:=2*n) (σ0:=σ) ho (c.room.mono (by lia)) (c.Cg σ ra) (zI hn) dJ pins s σ H Q I ⟨rfl,?_⟩;refine lE.mk rel aM ra p λm' w μ1 h1 H1 ex av aV rv p1=>?_;obtain⟨cn,ec,p2⟩:=Po.opt p1;obtain⟨f,ef,p3⟩:=Po.opt p2;obtain⟨b,dx,fs,rfl,hb,l⟩:=N4 av rv ec;exact⟨b,ct cn,dx,fs,kC ct (run Pm n f),rfl,hb,l,c.txt.meths cn m f ef hm,μ1,h1,[m'],av,aC.cons rv aC.nil,p3⟩
theorem QcP(fz:Bool){cn:String}(c:Cc X Pm ct n Ra E N sc)(hk:Pm.l0 cn=true)(hi:Pm.meths cn "__init__"=none)(hg:gl sc (Str.ofString cn)=true) :
  PE X (.Call (.Name (Str.ofString cn) p) [] [] pos) (lE ct Ra E λσ h=>(R.ok [] h).bind λxs h1=>zD Pm (run Pm n) fz cn xs h1):=by
 obtain⟨g1,g2,g3⟩:=QN c.sc hg;obtain⟨M,mg⟩:=c.txt.l0 cn hk;refine PE.imp (yca M g1 mg g2) λσ H Q q=>?_;obtain⟨μ,h,σs,av,aM,ra,p1⟩:=q;intro x dx hx Al jb;have jx:upd H dx (.own x) x=none:=by rw[Zc (Ne.symm jb)];exact hx
 have gQ:=Ext.new av Al (.own x);have aZ:=av.new Al (.own x);have dE:=Ext.cell aZ jx (.obj cn []) (.ins (ct cn) dx []);have eg:Rel ct (μ++[x]) (h++[.obj cn []]) (upd (upd H dx (.own x)) x (.ins (ct cn) dx [])):=aZ.cell jx ⟨dx,[],qe,rfl,aC.nil⟩;have ext:=gQ.trans dE;have xW:(μ++[x])[h.length]?=some x:=by rw[<- av.len];simp
 have p2:Po ct E (zD Pm (run Pm n) fz cn [] h) μ h H (λm μ' h' H'=>∀ v,RV ct μ' (bc μ' h') H' m v->Q v H'):=p1;unfold zD at p2;rw[hi] at p2;simp only[R.aJ,zb4,wE,if_false] at p2;cases fz with
 |false=>exact p2 _ _ ext eg _ (by simp only[RV];exact⟨x,xW,rfl⟩)
 |true =>
  dsimp only at p2;split at p2
  next c' fs ec =>
   obtain⟨ys,ey,p4⟩:=Po.opt p2;split at p4
   next t =>
    obtain⟨b,Il,gs,eb,hb,q1,q2⟩:=eg.obj ec;rw[xW] at eb;cases eb;have nx:x∉μ:=av.fresh hx;refine p4 μ _ (Ext.cut av.len ext) (av.cut t eg) (.ref x) ?_;simp only[RV,RF];refine⟨x,Il,gs,rfl,λl=>?_,hb,?_,?_⟩
    ·obtain⟨i,_,e1,_,_⟩:=l;exact nx (Ue e1)
    ·rw[q1,wf];rfl
    ·exact fb.to ⟨λ_ _ e _=>e,λb _ _ nl l=>nl (bc.cut av.len l)⟩ (aC.toF ey q2)
   next=>exact p4.elim
  next=>exact p2.elim
theorem ydf{g:String}{i:Int}(c:Cc X Pm ct n Ra E N sc)(hv:Pm.dy g=some (.int i))(hg:gl sc (Str.ofString g)=true):PE X (.Name (Str.ofString g) pos) (lE ct Ra E λσ h=>opt (Pm.dy g) λv=>.ok (.f v) h):=by
 obtain⟨g1,g2,g3⟩:=QN c.sc hg;obtain⟨t,mg⟩:=c.txt.dy g i hv;refine PE.imp (Ke (v:=.int i) g1 mg ⟨t,rfl⟩ g2) λσ H Q q=>?_;obtain⟨μ,h,σs,rel,aM,ra,p⟩:=q;simp only[hv,yd] at p;exact p.now rel _ (Zw _)
theorem Po.calm{α:Type}{r:R α}{μ:List ae}{h:MH}{H:Hp}{k:α->List ae->MH->Hp->Prop}(p:Po ct E (MP.calm r) μ h H k):Po ct E0 r μ h H k:=by
 cases r with
 |ok x h'=>exact p
 |exc c h'=>exact p.elim
 |stuck=>exact p.elim
theorem lL.imp{ifs:List Expr}{t t':TT}(p:lL X ifs t)(k:∀ σ H Q,t' σ H Q->t σ H Q):lL X ifs t':=λpins s σ H Q I h=>p pins s σ H Q I (k σ H Q h)
theorem Qb7{μ:List ae}{h:MH}{H:Hp}{σ:L2.St}{σs:aF}(bV:Nat)(js:List Nat)(r:a8 ct μ h H σ σs):a8 ct μ h H (stC bV js σ) (stM bV js σs):=by
 refine⟨by simp[L3.stC,MP.stM],λi m e=>?_⟩;unfold MP.stM at e;by_cases hi:i<bV
 ·rw[va (by simpa using hi),vq,if_pos hi] at e;cases e
 ·rw[Ud (by simpa using hi),Up,wc] at e;cases ej:js[i-bV]? with
  |none=>rw[ej] at e;cases e
  |some j =>
   rw[ej] at e;simp only[wg,Option.some.injEq] at e;have e':σs[j]?=some (some m):=by
    cases q:σs[j]? with
    |none=>rw[q] at e;cases e
    |some z=>rw[q] at e;exact congrArg some e
   obtain⟨v,ev,rv⟩:=r.at_ j m e';refine⟨v,?_,rv⟩;unfold L3.stC;rw[Ud (by simpa using hi),Up,wc,ej];simp[ev]
theorem NK(fz:Bool){bV:Nat}{js:List Nat}{it:String}{t:Tg}{es:aF->MH->R (List MV)}{tc:aF->MH->R Bool}{te:aF->MH->R MV}(σ:L2.St)(H:Hp)(Q:VK)
  (q:lE ct Ra E (λσ h=>(es σ h).bind λxs h1=>opt (fP it xs h1) λp=>(Yl p.2 (ql t tc te) p.1 [] (MP.stM bV js σ) h1).bind λacc h3=>Qt fz acc h3) σ H Q) :
  Jb (lI ct Ra E es it) bV js (lG ct t) (lT ct (λ_=>True) E0 tc) (lE ct (λ_=>True) E0 te) σ H Q:=by
 obtain⟨μ,h,σs,rel,aM,ra,p⟩:=q;refine⟨μ,h,σs,rel,aM,ra,(Po.bind p).imp λxs μ1 h1 H1 ⟨gQ,av,p1⟩=>?_⟩;obtain⟨⟨items,g⟩,e1,p2⟩:=Po.opt p1;refine⟨items,g,e1,av,λJ wk=>?_⟩;dsimp only at p2;refine⟨λi m acc σ' H'=>∃ μ' h' σs' jU,m=items.length-i/\i<=items.length/\Ext μ1 h1 H1 μ' h' H'/\Rel ct μ' h' H'/\a8 ct μ' h' H' σ' σs'/\aC ct μ' (bc μ' h') H' jU acc /\
  Po ct E ((Yl g (ql t tc te) (items.drop i) jU σs' h').bind λacc h3=>Qt fz acc h3) μ' h' H' (kV ct Q),?_,?_⟩
 ·exact⟨items.length,μ1,h1,stM bV js σs,[],by simp,um _,Ext.refl _ _ _,av,Qb7 bV js (aM.ext gQ),aC.nil,by simpa using p2⟩
 ·rintro i m acc σ' H' ⟨μ',h',σs',jU,rfl,l8,ex,bH,iu,nj,p3⟩;by_cases lt:i<items.length
  ·right
   have ed:items.drop i=items[i]::items.drop (i+1):=uu lt;rw[ed] at p3;simp only[Yl] at p3;split at p3
   next gd =>
    obtain⟨w1,_⟩:=wk i μ' h' H' ex bH gd.1;obtain⟨go,yl⟩:=w1 lt;refine⟨go,λx H2 y=>?_⟩;obtain⟨mx,em,dE,aZ,rx⟩:=yl x H2 y;have Ij:mx=items[i]:=by simpa[lt] using em.symm
    subst Ij;have p4:=Po.start dE p3;unfold ql at p4;cases eb:yO t items[i] σs' with
    |none=>rw[eb] at p4;exact p4.elim
    |some σ2s =>
     rw[eb] at p4;simp only[yd] at p4;refine⟨μ',h',σs',items[i],σ2s,aZ,iu.ext dE,rx,eb,λσ2 dn=>?_⟩;have p5:Po ct E ((MP.calm (tc σ2s h')).bind λk h2=>(if k=true then(MP.calm (te σ2s h2)).bind λy h3=>R.ok (some y,σ2s) h3 else R.ok (none,σ2s) h2).bind λp h1=>(Yl g (ql t tc te) (items.drop (i+1)) (match p.1 with|some y=>jU++[y]|none=>jU) p.2 h1).bind λacc h3=>Qt fz acc h3) μ' h' H2 (kV ct Q):=by
      cases er:MP.calm (tc σ2s h') with
      |stuck=>rw[er] at p4;exact p4
      |exc c r8=>rw[er] at p4;exact p4
      |ok k r8 =>
       rw[er] at p4;simp only[R.aJ] at p4 ⊢;cases k with
       |false=>exact p4
       |true =>
        simp only[if_true] at p4 ⊢;cases pM:MP.calm (te σ2s r8) with
        |stuck=>rw[pM] at p4;exact p4
        |exc c h3=>rw[pM] at p4;exact p4
        |ok y h3=>rw[pM] at p4;exact p4
     refine⟨μ',h',σ2s,aZ,dn,trivial,Po.calm ((Po.bind p5).imp λk μ3 h3 H3 ⟨fY,eg,p6⟩=>?_)⟩;cases k with
     |false =>
      simp only[Vk,if_false,R.aJ] at p6 ⊢;exact⟨items.length-(i+1),by lia,μ3,h3,σ2s,jU,rfl,lt,(ex.trans dE).trans fY,eg,dn.ext fY,(nj.ext dE).ext fY,p6⟩
     |true =>
      simp only[if_true] at p6 ⊢;have p7:Po ct E ((MP.calm (te σ2s h3)).bind λy h4=>(Yl g (ql t tc te) (items.drop (i+1)) (jU++[y]) σ2s h4).bind λacc h5=>Qt fz acc h5) μ3 h3 H3 (kV ct Q):=by
       cases pM:MP.calm (te σ2s h3) with
       |stuck=>rw[pM] at p6;exact p6
       |exc c h4=>rw[pM] at p6;exact p6
       |ok y h4=>rw[pM] at p6;exact p6
      refine⟨μ3,h3,σ2s,eg,dn.ext fY,trivial,Po.calm ((Po.bind p7).imp λy μ4 h4 H4 ⟨jR,jD,p8⟩ w rw_=>?_)⟩;refine⟨by rw[nj.length];exact Uc gd.2 YN,items.length-(i+1),by lia,μ4,h4,σ2s,jU++[y],rfl,lt,((ex.trans dE).trans fY).trans jR,jD,(dn.ext fY).ext jR,?_,p8⟩;exact(((nj.ext dE).ext fY).ext jR).append (aC.cons rw_ aC.nil)
   next=>exact p3.elim
  ·left
   have Ai:i=items.length:=by lia
   subst Ai;rw[wG] at p3;simp only[Yl] at p3;split at p3
   next gd =>
    obtain⟨_,w2⟩:=wk items.length μ' h' H' ex bH gd;exact⟨w2 rfl,λD hD=>YF bH nj p3 D hD⟩
   next=>exact p3.elim
theorem Zdh(fz:Bool){elt iter tg:Expr}{ifs:List Expr}{cs:az}{N':List Str}{bV:Nat}{js:List Nat}{it:String}{t:Tg}{es:aF->MH->R (List MV)}{tc:aF->MH->R Bool}{te:aF->MH->R MV}(aR:QF X.env.scope X.N cs N' bV js=true)(hc:X.calm=true)
  (hi:PI X tg iter (lI ct Ra E es it)) (hg:∀ C s3 H ex,PG (ia X cs N' C s3 H ex) tg (lG ct t)) (nH:∀ C s3 H ex,lL (ia X cs N' C s3 H ex) ifs (lT ct (λ_=>True) E0 tc)) (jI:∀ C s3 H ex,PE (ia X cs N' C s3 H ex) elt (lE ct (λ_=>True) E0 te)) (cF:Ya iter=true) :
  PE X (.ListComp elt [⟨tg,iter,ifs,0⟩] cs pos) (lE ct Ra E λσ h=>(es σ h).bind λxs h1=>opt (fP it xs h1) λp=>(Yl p.2 (ql t tc te) p.1 [] (stM bV js σ) h1).bind λacc h3=>Qt fz acc h3):=by
 exact PE.imp (QcL N' bV js aR hc hi hg nH jI (ZT cF)) (NK fz)
end
end
end SD
end
section
namespace SD
open PySem PySem.Spec PyProof.Rows L2 L3 M3 MP
section
variable {ct:Tx} {X:Cx} {E:XK} {Pm:Prog} {n:Nat} {Ra:L2.St->Prop} {N:List Str} {sc:az}
noncomputable abbrev Qx(ks:List (Int×Int)):List (List Key×V):=ks.map λk=>(kP k,V.bl true)
theorem Kd(ks:List (Int×Int))(k:Int×Int):((Qx ks).any λkv=>decide (kv.1=kP k))=decide (k∈ks):=by
 induction ks with
 |nil=>rfl
 |cons a r ih =>
  show(decide (kP a=kP k)||(Qx r).any λkv=>decide (kv.1=kP k))=_;rw[ih,qc7];by_cases h:a=k
  ·subst h;simp
  ·simp[h,Ne.symm h]
theorem Zch(ks:List (Int×Int))(k:Int×Int):yF (Qx ks) (kP k) (V.bl true)=Qx (ZE ks k):=by
 unfold yF ZE;rw[Kd];by_cases h:k∈ks
 ·rw[if_pos (by simpa using h),if_pos h,Qx,wf]
  congr 1
  funext p;show(if kP p=kP k then(kP p,V.bl true) else(kP p,V.bl true))=_;split <;> rfl
 ·rw[if_neg (by simpa using h),if_neg h,Qx,Qx,Uh];rfl
theorem NG:∀(ks acc:List (Int×Int)),yy (Qx ks) (Qx acc)=Qx (ks.foldl ZE acc)
 |[],acc=>rfl
 |k::ks,acc=>by
  show yy (Qx ks) (yF (Qx acc) (kP k) (V.bl true))=_;rw[Zch];exact NG ks (ZE acc k)
theorem Yci(ks:List (Int×Int))(k:Int×Int):(mw (Qx ks) (kP k)).isSome=decide (k∈ks):=by
 rw[<- Kd,IU]
theorem LM{k:Int×Int}(h:qX k=true):Gs k:=by
 unfold qX at h;simp at h;exact⟨⟨h.1.1,h.1.2⟩,h.2.1,h.2.2⟩
theorem NC{P:aj}{w:World}:∀(ks:List (Int×Int)),ks.all qX=true->ks.Nodup->(ks.map λk=>(aD (ye P w)).hash (kP k)).Nodup
 |[],_,_=>by simp
 |k::ks,h,n=>by
  rw[List.all_cons,Wa] at h;rw[uk] at n;rw[Wb,uk];refine⟨λm=>?_,NC ks h.2 n.2⟩;obtain⟨k',hk,e⟩:=Wd.mp m;have:=Qcw (LM (vo.mp h.2 k' hk)) (LM h.1) e;exact n.1 (this ▸ hk)
theorem Qcl{μ:List ae}{L:ae->Prop}{H:Hp}{y:MV}{v:V}{k:Int×Int}(r:RV ct μ L H y v)(e:sD y=some k):∃ T K,v=.ref T/\H T=some (.tup [.ref K,V.bl true])/\H K=some (.tup ((kP k).map L2.kV)):=by
 unfold sD at e;split at e
 next q w =>
  cases y with
  |f x =>
   cases x with
   |tup xs =>
    simp only[qk,Option.some.injEq] at w
    rcases xs with _|⟨x,_|⟨y,_|⟨z,zs⟩⟩⟩ <;> simp at w
    obtain⟨rfl,rfl⟩:=w;simp only[RV,RF,fb] at r;obtain⟨p,vs,rfl,n,hp,v1,r1,rfl,h1,v2,r2,rfl,rfl,rfl⟩:=r;obtain⟨K,rfl,_,hK⟩:=DR (y:=MV.f x) (μ:=μ) (L:=L) (H:=H) (by simp only[RV];exact h1) e;exact⟨p,K,rfl,hp,hK⟩
   |_=>simp[qk] at w
  |tup xs =>
   simp only[qk,Option.some.injEq] at w;subst w;simp only[RV,aC,RF] at r;obtain⟨p,vs,rfl,n,hp,v1,r1,rfl,h1,v2,r2,rfl,rfl,rfl⟩:=r;obtain⟨K,rfl,_,hK⟩:=DR h1 e;exact⟨p,K,rfl,hp,hK⟩
  |ref _=>simp[qk] at w
  |exc _=>simp[qk] at w
 next=>cases e
theorem NL{μ:List ae}{L:ae->Prop}{H:Hp}:∀{xs:List MV}{vs:List V}{ks:List (Int×Int)},aC ct μ L H xs vs->xs.mapM sD=some ks->JH H vs (Qx ks)
 |[],vs,ks,r,e=>by
  simp only[aC] at r;subst r;simp at e;subst e;exact .nil
 |x::xs,vs,ks,r,e=>by
  simp only[aC] at r;obtain⟨v,r',rfl,h1,h2⟩:=r;simp only[Vo,Wu,Wc] at e;obtain⟨k,e1,iz,e2,e3⟩:=e;cases e3;obtain⟨T,K,q⟩:=Qcl h1 e1;exact .cons ⟨T,K,q⟩ (NL h2 e2)
theorem Mb{h:MH}{i:Nat}{ks:List (Int×Int)}(e:ZW h (.ref i)=some ks):h[i]?=some (.cV ks):=by
 simp only[ZW] at e;split at e
 next iz w=>cases e;exact w
 next=>cases e
theorem Kz{μ:List ae}{h:MH}{H:Hp}{x:MV}{v:V}{ks:List (Int×Int)}(rel:Rel ct μ h H)(r:RV ct μ (bc μ h) H x v)(e:ZW h x=some ks):∃ a,v=.ref a/\Rd H a (.dT (Qx ks)):=by
 cases x with
 |ref i =>
  simp only[RV] at r;obtain⟨b,eb,rfl⟩:=r;exact⟨b,rfl,.inl (rel.cells _ _ _ eb (Mb e))⟩
 |f y =>
  cases y with
  |cV ks =>
   cases e;simp only[RV,RF] at r;obtain⟨a,o,rfl,_,ha⟩:=r;exact⟨a,rfl,.inr ⟨o,ha⟩⟩
  |_=>cases e
 |tup _=>cases e
 |exc _=>cases e
section
variable {ea eb:aF->MH->R MV} {a b:Expr} {p p2 pos:Pos}
theorem yc7:PE X (.Dict [] [] pos) (lE ct Ra E λ_ h=>.ok (.ref h.length) (h++[.cV []])):=by
 refine PE.imp Yct λσ H Q q d hd=>?_;obtain⟨μ,h,σs,rel,aM,ra,pp⟩:=q;have C1:=Ext.cell rel hd (.cV []) (.dT []);have oX:Rel ct (μ++[d]) (h++[.cV []]) (upd H d (.dT [])):=rel.cell hd qe;exact(Po.start C1 pp).now oX _ (by simp only[RV];exact⟨d,by rw[<- rel.len];simp,rfl⟩)
theorem AJ(c:Cc X Pm ct n Ra E N sc)(hg:gl sc "dict"=true)(ha:PE X a (lE ct Ra E ea))(hp:Ya a=true) :
  PE X (.Call (.Name "dict" p) [a] [] pos) (lE ct Ra E λσ h=>(ea σ h).bind λx h1=>Dj x h1):=by
 obtain⟨k1,k2,k3⟩:=QN c.sc hg;have hm:X.mg "dict"=none:=c.txt.ie "dict" (by simp[bw]);refine PE.imp (IK (ybU c.calm (by have:=c.units;lia)) k1 hm (by decide +kernel) (sj ha uX (zi hp)) k3 k2 (zi hp) (by rfl)) λσ H Q q=>?_;obtain⟨μ,h,σs,rel,aM,ra,pp⟩:=q;refine lE.mk rel aM ra pp λm w μ1 h1 H1 ex av aV rv p1=>?_;cases m with
 |ref i =>
  obtain⟨xs,e1,p2⟩:=Po.opt p1;obtain⟨ks,e2,p3⟩:=Po.opt p2;split at p3
  next hl =>
   simp only[RV] at rv;obtain⟨b,eb,rfl⟩:=rv;have hc:h1[i]?=some (.lst xs):=by
    simp only[Yd] at e1;split at e1
    next w=>cases e1;exact w
    next=>cases e1
   obtain⟨vs,hb,eI⟩:=(show bL ct μ1 (bc μ1 h1) H1 b (.lst xs) from av.cells _ _ _ eb hc);have pv:=NL eI e2;have hlen:ks.length=xs.length:=by
    clear p1 p2 p3 pv hc hl e1 eI
    induction xs generalizing ks with
    |nil=>simp at e2;subst e2;rfl
    |cons x xs ih =>
     simp only[Vo,Wu,Wc] at e2;obtain⟨k,_,iz,e3,e4⟩:=e2;cases e4;simp[ih _ e3]
   refine⟨b,vs,Qx ks,rfl,.inl hb,pv,by rw[xc,hlen,c6];lia,λq o hq=>?_⟩;have e5:yy (Qx ks) []=Qx (ks.foldl ZE []):=NG ks [];rw[e5];refine p3 μ1 _ (Ext.new av hq _) (av.new hq _) _ ?_;simp only[RV,RF];exact⟨q,o,rfl,sV av hq,qe⟩
  next=>exact p3.elim
 |f _=>exact p1.elim
 |tup _=>exact p1.elim
 |exc _=>exact p1.elim
theorem Qdl{ap cp:Pos}(ha:PE X a (lE ct Ra E ea))(hb:PE X b (lE ct Ra E eb))(hn:Yj a=true)(cF:Ya b=true)(dJ:(ap.endLine==cp.line)=true) :
  PE X (.Call (.Attribute a "update" ap) [b] [] cp) (lE ct Ra E λσ h=>(ea σ h).bind λx h1=>opt (ZW h1 x) λ_=>(eb σ h1).bind λy h2=>BC x y h2):=by
 have nE:∀ e∈[b],Ya e=true:=λe he=>by rw[Xc.mp he];exact cF
 refine PE.imp (zcM ha hb ⟨zI hn,JK nE (by simp),dJ,by rw[Qo nE];rfl⟩) λσ H Q q=>?_;obtain⟨μ,h,σs,rel,aM,ra,pp⟩:=q;refine lE.mk rel aM ra pp λm w μ1 h1 H1 gQ av aV oh p1=>?_;obtain⟨ks0,e0,p2⟩:=Po.opt p1;obtain⟨c,rfl,rd0⟩:=Kz av oh e0;refine⟨c,rfl,.inr ⟨_,rd0⟩,?_⟩;refine lE.mk av aV ra p2 λm2 w2 μ2 h2 H2 dE aZ dn ja p3=>?_;have uK:=oh.ext dE;cases m with
 |ref i =>
  cases m2 with
  |f y =>
   cases y with
   |cV iz =>
    obtain⟨ks,e1,p4⟩:=Po.opt p3;split at p4
    next hq =>
     obtain⟨h1',MO,h3'⟩:=hq;simp only[RV] at uK;obtain⟨c',ec,ecc⟩:=uK;cases ecc;have hc:=Mb e1;have hH:H2 c=some (.dT (Qx ks)):=aZ.cells _ _ _ ec hc;simp only[RV,RF] at ja;obtain⟨d,o,rfl,nd,hd⟩:=ja;have e6:(if Qx iz=[] then Qx ks else Qx iz)=Qx (if iz=[] then ks else iz):=by
      by_cases z:iz=[]
      ·subst z;rfl
      ·rw[if_neg z,if_neg (by intro q;exact z (List.map_eq_nil_iff.mp q))]
     refine⟨d,Qx ks,Qx iz,rfl,hH,.inr ⟨o,hd⟩,λz=>?_,?_,?_,?_⟩
     ·rw[z,hd] at hH;cases hH
     ·rcases h1' with z|z
      ·left;rw[z];rfl
      ·right;rw[z];rfl
     ·rw[wf];exact NC iz MO h3'
     ·rw[e6];have jR:=Ext.set (H:=H2) aZ ec hc (λz=>nomatch z) (.cV (if iz=[] then ks else iz)) (.dT (Qx (if iz=[] then ks else iz)));have jD:=aZ.set (c':=.cV (if iz=[] then ks else iz)) (o:=.dT (Qx (if iz=[] then ks else iz))) ec hc (λz=>nomatch z) qe;exact p4.v7 jR jD _ (by simp only[RV,RF])
    next=>exact p4.elim
   |_=>exact p3.elim
  |ref _=>exact p3.elim
  |tup _=>exact p3.elim
  |exc _=>exact p3.elim
 |f _=>cases m2 <;> exact p3.elim
 |tup _=>cases m2 <;> exact p3.elim
 |exc _=>cases m2 <;> exact p3.elim
theorem Yc9(hu:X.A.units+65<cR)(ha:PE X a (lE ct Ra E ea))(hb:PE X b (lE ct Ra E eb))(hp:Ya b=true) :
  PE X (.Compare a [.NotIn] [b] pos) (lE ct Ra E λσ h=>(ea σ h).bind λx h1=>(eb σ h1).bind λy h2=>rq x y h2) /\
  PT X (.Compare a [.NotIn] [b] pos) (lT ct Ra E (fk λσ h=>(ea σ h).bind λx h1=>(eb σ h1).bind λy h2=>rq x y h2)):=by
 have main:∀ σ H Q,lE ct Ra E (λσ h=>(ea σ h).bind λx h1=>(eb σ h1).bind λy h2=>rq x y h2) σ H Q->Kf (lE ct Ra E ea) (lE ct Ra E eb) σ H Q:=λσ H Q q=>by
  obtain⟨μ,h,σs,rel,aM,ra,pp⟩:=q;refine lE.mk rel aM ra pp λm w μ1 h1 H1 gQ av aV oh p1=>?_;refine lE.mk av aV ra p1 λm2 w2 μ2 h2 H2 dE aZ dn ja p2=>?_;obtain⟨k,e1,p3⟩:=Po.opt p2;obtain⟨ks,e2,p4⟩:=Po.opt p3;obtain⟨c,rfl,rd⟩:=Kz aZ ja e2;obtain⟨q,rfl,_,hq⟩:=DR (oh.ext dE) e1;refine⟨c,_,rfl,.inr ⟨_,kP k,q,rd,rfl,hq,rfl⟩,?_⟩;rw[Yci];have e3:(!decide (k∈ks))=decide (k∉ks):=by by_cases z:k∈ks <;> simp[z]
  rw[e3];exact p4.now aZ _ (ZC _)
 have jQ:bE .NotIn b=false:=yG hp _;exact Bd (Er (L9 (by lia) ha hb) jQ) (Ep (L9 (by lia) ha hb) jQ) main
theorem ycl{K:PySem.W.Frag}(hK:K=ct.K){b:Bool}{a:ae}{xs:List MV}{g:qG}{μ1:List ae}{h1:MH}{H1:Hp}(s1:uV ct b a xs g μ1 h1 H1):Wk ct (rl K b a) (xs.mapIdx λk x=>Zi [.f (.int ((k+1:Nat):Int)),x]) g μ1 h1 H1:=by
 intro i μ h H ex rel gd;obtain⟨vs,sq,rs⟩:=s1 μ h H ex rel gd;have hl:=rs.length;refine⟨λhi=>?_,λhi=>?_⟩
 ·simp only[WE] at hi;refine⟨⟨vs,sq.s hK,by lia⟩,λx H2 y=>?_⟩;obtain⟨T,x1,rfl,hT,rfl,e1⟩:=y;obtain⟨m1,Ik,r1⟩:=rs.get' (e1 vs (sq.s hK));have r9:=Ext.new rel hT (.tup [.int ((i+1:Nat):Int),x1]);refine⟨Zi [.f (.int ((i+1:Nat):Int)),m1],?_,r9,rel.new hT _,YO (sV rel hT) qe (aC.cons (Zw _) (aC.cons (r1.ext r9) aC.nil))⟩;rw[xl,Ik];rfl
 ·simp only[WE] at hi;exact⟨vs,sq.s hK,by lia⟩
theorem qcA(hK:X.K=ct.K){es:List Expr}{kt j:Nat}{pt cp kp:Pos}{ev:aF->MH->R MV}(hg:Gl X "enumerate")(hm:X.mg "enumerate"=none)(ha:PE X a (lE ct Ra E ev))(cF:Ya a=true) :
  PI X (.Tuple es kt pt) (B9 a j p cp kp pos) (lI ct Ra E (λσ hh=>(ev σ hh).bind λx h1=>.ok [x] h1) "enum1"):=by
 have nE:∀ e∈[a],Ya e=true:=λe he=>by rw[Xc.mp he];exact cF
 refine PI.imp (hK ▸ zch hg hm ha (Qo nE)) λσ H Q q=>?_;obtain⟨μ,hh,σs,rel,aM,ra,p⟩:=q;refine lE.mk rel aM ra p λm v μ1 h1 H1 ex av aV rv p1=>?_;obtain⟨items,g,e1,_,k⟩:=p1.now av;simp only[fP,Vd,Prod.mk.injEq] at e1;obtain⟨us,e2,rfl,rfl⟩:=e1;obtain⟨b1,a1,rfl,s1⟩:=Bg av e2 rv;obtain⟨Fz,q1,_⟩:=s1 _ _ _ (Ext.refl _ _ _) av (BS e2);exact⟨b1,a1,rfl,⟨Fz,q1.s rfl⟩,k _ (ycl rfl s1)⟩
end
end
section
variable {ct:Tx} {Pm:Prog} {n:Nat}
section
variable {X:Cx} {E:XK} {Ra:L2.St->Prop} {N:List Str} {sc:az}
theorem Qc{e:Expr}{ev ox:aF->MH->R MV}(p:PE X e (lE ct Ra E ev))(h:∀ σ hh,ox σ hh=ev σ hh):PE X e (lE ct Ra E ox):=by
 have:ox=ev:=funext λσ=>funext λhh=>h σ hh;rw[this];exact p
theorem Zs{e:Expr}{ev ox:aF->MH->R MV}(p:PE X e (lE ct Ra E ev)/\PT X e (lT ct Ra E (fk ev)))(h:∀ σ hh,ox σ hh=ev σ hh):PE X e (lE ct Ra E ox)/\PT X e (lT ct Ra E (fk ox)):=by
 have:ox=ev:=funext λσ=>funext λhh=>h σ hh;rw[this];exact p
theorem Cc.comp{cs:az}{N':List Str}(c:Cc X Pm ct n Ra E N sc)(nd:N'.Nodup)(C:ae)(s3:af)(H:Hp)(ex:List ae):Cc (ia X cs N' C s3 H ex) Pm ct n (λ_=>True) E0 N' (ZL cs sc) :=
 ⟨c.txt,c.calm,c.room,λσ _ pins H s e s' I ⟨_,_,_,_,_,_,_,_,_,_,_,_,_,_,_,q⟩=>q.elim,rfl,by rw[<- c.sc];rfl,nd,c.hK⟩
noncomputable def Sd(X:Cx)(ct:Tx)(Pm:Prog)(n:Nat)(Ra:L2.St->Prop)(E:XK)(me:ME)(e:Expr):Prop :=
 PE X e (lE ct Ra E (ya Pm (run Pm n) me))/\(iS me=true->PT X e (lT ct Ra E (fk (ya Pm (run Pm n) me))))
theorem Sd.of{me:ME}{e:Expr}(h:PE X e (lE ct Ra E (ya Pm (run Pm n) me))/\PT X e (lT ct Ra E (fk (ya Pm (run Pm n) me)))):Sd X ct Pm n Ra E me e:=⟨h.1,λ_=>h.2⟩
theorem NS{ms:List ME}{es:List Expr}(b:Bo ct X Ra E Pm n ms es)(hl:es.length<1000):∀ σ h xs h',Qh Pm (run Pm n) ms σ h=.ok xs h'->xs.length<=sizeLine:=λσ h xs h' e=>by
 rw[QQ e,b.length];exact vf (vw hl) (by decide)
end
end
end SD
end
section
namespace SD
open PySem PySem.Spec PyProof.Rows L2 L3 M3 MP
variable {ct:Tx} {Pm:Prog} {n:Nat}
theorem Ei{X:Cx}{E:XK}{Ra:L2.St->Prop}{N:List Str}{sc:az}{it:String}{t iter:Expr}{ms:List ME}(c:Cc X Pm ct n Ra E N sc)(k1:oM t it iter=true)(k2:gl sc (Str.ofString it)=true)(b:Bo ct X Ra E Pm n ms (qF iter)) :
  PI X t iter (lI ct Ra E (Qh Pm (run Pm n) ms) it):=by
 obtain⟨g1,g2,g3⟩:=QN c.sc k2;unfold oM at k1;split at k1
 next x p as p2 =>
  simp only[Wa,Xn,beq_iff_eq] at k1;obtain⟨k1,rfl⟩:=k1;have b':Bo ct X Ra E Pm n ms as:=b
  rcases k1 with (⟨rfl,ha⟩|⟨⟨rfl,ht⟩,ha⟩)|⟨⟨rfl,ht⟩,ha⟩
  ·have hl:=b'.length;have hm:X.mg "range"=none:=c.txt.ie "range" (by simp);exact ycC g1 hm b'.pa b'.plain ha λσ h xs h' e=>by rw[QQ e,hl]
  ·cases t with
   |Tuple es k pt =>
    have hm:X.mg "zip"=none:=c.txt.ie "zip" (by simp)
    rcases as with _|⟨u,_|⟨v,_|⟨w,as⟩⟩⟩
    ·simp at ha
    ·simp at ha
    ·exact Yc8 c.hK g1 hm b'.pa b'.plain λσ h xs h' e=>by rw[QQ e,b'.length];rfl
    ·simp at ha
   |_=>exact Wj ht
  ·exact Wj ht
 next=>exact Wj k1
theorem Nq{e:Expr}(h:sQ e=true):∃ k p,e=.Constant (.bool true) k p:=by
 cases e with
 |Constant c k p =>
  cases c with
  |bool b=>cases b with
   |true=>exact⟨k,p,rfl⟩
   |false=>exact ff h
  |_=>exact ff h
 |_=>exact ff h
theorem N7{α:Type}{l:List α}{p:α×α}(h:rA l=some p):l=[p.1,p.2]:=by
 rcases l with _|⟨a,_|⟨b,_|⟨c,l⟩⟩⟩
 ·exact nomatch h
 ·exact nomatch h
 ·cases h;rfl
 ·exact nomatch h
theorem KQ{α:Type}{l:List α}{p:α}(h:uU l=some p):l=[p]:=by
 rcases l with _|⟨a,_|⟨b,l⟩⟩
 ·exact nomatch h
 ·cases h;rfl
 ·exact nomatch h
theorem ZcC{e a:Expr}(h:qN e=some a):∃ j p cp kp pos,e=B9 a j p cp kp pos:=by
 unfold qN at h;split at h
 next x p as ks pos =>
  split at h
  next w =>
   rw[Wa] at w;obtain⟨w1,w2⟩:=w;have:=KQ h;subst this;unfold Ow at w2;split at w2
   next k j cp kp =>
    have e1:x=("enumerate":Str):=by simpa using w1
    have e2:k=("start":Str):=by simpa using w2
    subst e1;subst e2;exact⟨j,p,cp,kp,pos,rfl⟩
   next=>cases w2
  next=>cases h
 next=>cases h
theorem yb6{e x y:Expr}(h:DV e=some (x,y)):∃ k1 p1 k2 p2 p,e=.Dict [some x,some y] [.Constant (.bool true) k1 p1,.Constant (.bool true) k2 p2] p:=by
 cases e with
 |Dict ks vs p =>
  have h:((rA ks).bind λk=>(rA vs).bind λv=>if sQ v.1&&sQ v.2 then k.1.bind λx=>k.2.map λy=>(x,y) else none)=some (x,y):=h;obtain⟨⟨a,b⟩,e1,h⟩:=Wc.mp h;obtain⟨⟨u,v⟩,e2,h⟩:=Wc.mp h;split at h
  next hb =>
   simp only[Wa] at hb;obtain⟨k1,p1,e3⟩:=Nq hb.1;obtain⟨k2,p2,e4⟩:=Nq hb.2;dsimp only at e3 e4 h;obtain⟨x',rfl,h⟩:=Wc.mp h;obtain⟨y',rfl,h⟩:=Vd.mp h;cases h;subst e3;subst e4;exact⟨k1,p1,k2,p2,p,by rw[N7 e1,N7 e2]⟩
  next=>cases h
 |_=>exact nomatch h
theorem N3{e v:Expr}{x:Str}(h:pW e=some (x,v)):∃ p q,e=.Call (.Name x p) [v] [] q:=by
 cases e with
 |Call g as ks q =>
  cases g with
  |Name z p =>
   cases ks with
   |nil =>
    have h:((uU as).map λa=>(z,a))=some (x,v):=h;obtain⟨a,e1,h⟩:=Vd.mp h;cases h;exact⟨p,q,by rw[KQ e1]⟩
   |cons _ _=>exact nomatch h
  |_=>exact nomatch h
 |_=>exact nomatch h
theorem zbO{e v:Expr}{x y:Str}(h:uW e=some (x,y,v)):∃ p1 p2 p3 p,e=.Call (.Name x p1) [.Call (.Name y p2) [v] [] p3] [] p:=by
 obtain⟨⟨x',v'⟩,e1,h⟩:=Wc.mp h;obtain⟨⟨y',w⟩,e2,h⟩:=Vd.mp h;cases h;obtain⟨p1,p,rfl⟩:=N3 e1;obtain⟨p2,p3,rfl⟩:=N3 e2;exact⟨p1,p2,p3,p,rfl⟩
mutual
theorem sB:∀(me:ME){X:Cx}{E:XK}{Ra:L2.St->Prop}{N:List Str} {sc:az} (c:Cc X Pm ct n Ra E N sc) (e:Expr),Qf Pm me N sc e=true->Sd X ct Pm n Ra E me e
 |.var i,X,E,Ra,N,sc,c,e,h=>by
  have h:=qc h;cases e with
  |Name x p =>
   have h:(N[i]? == some x&&mZ sc x)=true:=h;simp only[Wa,beq_iff_eq] at h;exact Sd.of (ze (Qc (AD (by rw[c.nm];exact h.1) (by rw[c.sc];exact h.2)) λσ hh=>by simp only[ya]))
  |_=>exact ff h
 |.cI i,X,E,Ra,N,sc,c,e,h=>by
  have h:=qc h;cases e with
  |Constant k j p =>
   cases k with
   |int z =>
    have hz:i=z:=by simpa using(show(i==z)=true from h)
    subst hz;exact Sd.of (ze (Qc (Dv J4 λ_ _ _=>Zw _) λσ hh=>by simp only[ya]))
   |_=>exact ff h
  |_=>exact ff h
 |.cB i,X,E,Ra,N,sc,c,e,h=>by
  have h:=qc h;cases e with
  |Constant k j p =>
   cases k with
   |bool z =>
    have hz:i=z:=by simpa using(show(i==z)=true from h)
    subst hz;exact Sd.of (ze (Qc (Dv B' λ_ _ _=>ZC _) λσ hh=>by simp only[ya]))
   |_=>exact ff h
  |_=>exact ff h
 |.cN,X,E,Ra,N,sc,c,e,h=>by
  have h:=qc h;cases e with
  |Constant k j p =>
   cases k with
   |none =>
    exact Sd.of (ze (Qc (Dv Zdi λ_ _ _=>Dy) λσ hh=>by simp only[ya]))
   |_=>exact ff h
  |_=>exact ff h
 |.cS i,X,E,Ra,N,sc,c,e,h=>by
  have h:=qc h;cases e with
  |Constant k j p =>
   cases k with
   |str z =>
    have hz:i=z:=by simpa using(show(i==z)=true from h)
    subst hz;exact Sd.of (ze (Qc (Dv zdj λ_ _ _=>qde _) λσ hh=>by simp only[ya]))
   |_=>exact ff h
  |_=>exact ff h
 |.glob g,X,E,Ra,N,sc,c,e,h=>by
  have h:=qc h;cases e with
  |Name x p =>
   have h:(x==Str.ofString g&&gl sc x&&II (Pm.dy g))=true:=h;simp only[Wa,beq_iff_eq] at h;obtain⟨⟨rfl,h1⟩,h2⟩:=h;have hv:∃ i,Pm.dy g=some (.int i):=by
    unfold II at h2;split at h2
    ·exact⟨_,by assumption⟩
    ·cases h2
   obtain⟨i,hv⟩:=hv;exact Sd.of (ze (Qc (ydf c hv h1) λσ hh=>by simp only[ya]))
  |_=>exact ff h
 |.bin fz op a b,X,E,Ra,N,sc,c,e,h=>by
  have h:=qc h;cases e with
  |BinOp l o r p =>
   have h:(o==Co op&&Qf Pm a N sc l&&Qf Pm b N sc r)=true:=h;simp only[Wa,beq_iff_eq] at h;obtain⟨⟨rfl,h1⟩,h2⟩:=h;exact Sd.of (ze (Qc (AU fz op (sB a c l h1).1 (sB b c r h2).1) λσ hh=>by simp only[ya]))
  |_=>exact ff h
 |.neg a,X,E,Ra,N,sc,c,e,h=>by
  have h:=qc h;cases e with
  |UnaryOp o x p =>
   cases o with
   |USub=>exact Sd.of (ze (Qc (AI (sB a c x (show Qf Pm a N sc x=true from h)).1) λσ hh=>by simp only[ya]))
   |_=>exact ff h
  |_=>exact ff h
 |.cmp op a b,X,E,Ra,N,sc,c,e,h=>by
  have h:=qc h;cases e with
  |Compare l os rs p =>
   rcases os with _|⟨o,_|⟨o2,os⟩⟩
   ·exact ff h
   ·rcases rs with _|⟨r,_|⟨r2,rs⟩⟩
    ·exact ff h
    ·have h:(o==kR op&&Qf Pm a N sc l&&Qf Pm b N sc r)=true:=h;simp only[Wa,beq_iff_eq] at h;obtain⟨⟨rfl,h1⟩,h2⟩:=h;exact Sd.of (Zs (AR c.hK op c.units (sB a c l h1).1 (sB b c r h2).1 (zo h2)) λσ hh=>by simp only[ya])
    ·exact ff h
   ·exact ff h
  |_=>exact ff h
 |.chain op Mc a b d,X,E,Ra,N,sc,c,e,h=>by
  have h:=qc h;cases e with
  |Compare l os rs p =>
   rcases os with _|⟨o,_|⟨o2,_|⟨o3,os⟩⟩⟩
   ·exact ff h
   ·exact ff h
   ·rcases rs with _|⟨m,_|⟨r,_|⟨r2,rs⟩⟩⟩
    ·exact ff h
    ·exact ff h
    ·have h:(o==kR op&&o2==kR Mc&&Qf Pm a N sc l&&Qf Pm b N sc m&&Qf Pm d N sc r)=true:=h;simp only[Wa,beq_iff_eq] at h;obtain⟨⟨⟨⟨rfl,rfl⟩,h1⟩,h2⟩,h3⟩:=h;exact Sd.of (Zs (qcW c.hK op Mc c.units (sB a c l h1).1 (sB b c m h2).1 (sB d c r h3).1 (zo h3)) λσ hh=>by simp only[ya])
    ·exact ff h
   ·exact ff h
  |_=>exact ff h
 |.xN a,X,E,Ra,N,sc,c,e,h=>by
  have h:=qc h;cases e with
  |Compare l os rs p =>
   rcases os with _|⟨o,_|⟨o2,os⟩⟩
   ·exact ff h
   ·cases o with
    |Is =>
     rcases rs with _|⟨r,_|⟨r2,rs⟩⟩
     ·exact ff h
     ·cases r with
      |Constant k j p2 =>
       cases k with
       |none =>
        have h:Qf Pm a N sc l=true:=h;exact Sd.of (Zs (AM (sB a c l h).1) λσ hh=>by simp only[ya])
       |_=>exact ff h
      |_=>exact ff h
     ·cases r with
      |Constant k j p2=>cases k <;> exact ff h
      |_=>exact ff h
    |_=>exact ff h
   ·cases o <;> exact ff h
  |_=>exact ff h
 |.nu a,X,E,Ra,N,sc,c,e,h=>by
  have h:=qc h;cases e with
  |Compare l os rs p =>
   rcases os with _|⟨o,_|⟨o2,os⟩⟩
   ·exact ff h
   ·cases o with
    |IsNot =>
     rcases rs with _|⟨r,_|⟨r2,rs⟩⟩
     ·exact ff h
     ·cases r with
      |Constant k j p2 =>
       cases k with
       |none =>
        have h:Qf Pm a N sc l=true:=h;exact Sd.of (Zs (zc3 (sB a c l h).1) λσ hh=>by simp only[ya])
       |_=>exact ff h
      |_=>exact ff h
     ·cases r with
      |Constant k j p2=>cases k <;> exact ff h
      |_=>exact ff h
    |_=>exact ff h
   ·cases o <;> exact ff h
  |_=>exact ff h
 |.and es,X,E,Ra,N,sc,c,e,h=>by
  have h:=qc h;cases e with
  |BoolOp o vs p =>
   cases o with
   |And =>
    have h:(es.all iS&&Zn Pm es N sc vs)=true:=h;rw[Wa] at h;obtain⟨i1,i2⟩:=Ox (pos:=p) (kT es c vs h.2) h.1;exact Sd.of (Zs ⟨i1,i2.pt⟩ λσ hh=>by simp only[ya])
   |_=>exact ff h
  |_=>exact ff h
 |.or es,X,E,Ra,N,sc,c,e,h=>by
  have h:=qc h;cases e with
  |BoolOp o vs p =>
   cases o with
   |Or =>
    have h:(es.all iS&&Zn Pm es N sc vs)=true:=h;rw[Wa] at h;obtain⟨i1,i2⟩:=AG (pos:=p) (kT es c vs h.2) h.1;exact Sd.of (Zs ⟨i1,i2.pt⟩ λσ hh=>by simp only[ya])
   |_=>exact ff h
  |_=>exact ff h
 |.not a,X,E,Ra,N,sc,c,e,h=>by
  have h:=qc h;cases e with
  |UnaryOp o x p =>
   cases o with
   |Not =>
    have h:(iS a&&Qf Pm a N sc x)=true:=h;rw[Wa] at h;obtain⟨i1,i2⟩:=sB a c x h.2;exact Sd.of (Zs (AH i1 (i2 h.1)) λσ hh=>by simp only[ya])
   |_=>exact ff h
  |_=>exact ff h
 |.ite d a b,X,E,Ra,N,sc,c,e,h=>by
  have h:=qc h;cases e with
  |IfExp t x y p =>
   have h:(iS d&&Qf Pm d N sc t&&Qf Pm a N sc x&&Qf Pm b N sc y)=true:=h;simp only[Wa] at h;obtain⟨⟨⟨h0,h1⟩,h2⟩,h3⟩:=h;exact⟨Qc (AL ((sB d c t h1).2 h0) (sB a c x h2).1 (sB b c y h3).1) λσ hh=>by simp only[ya],λz=>Wj z⟩
  |_=>exact ff h
 |.tup es,X,E,Ra,N,sc,c,e,h=>by
  have h:=qc h;cases e with
  |Tuple vs k p =>
   have h:(decide (vs.length<1000)&&Zn Pm es N sc vs)=true:=h;rw[Wa] at h;have b:=kT es c vs h.2;exact Sd.of (ze (Qc (AE b.pa (NS b (of_decide_eq_true h.1))) λσ hh=>by simp only[ya]))
  |_=>exact ff h
 |.lst fz es,X,E,Ra,N,sc,c,e,h=>by
  have h:=qc h;cases e with
  |List vs p =>
   have h:(decide (vs.length<1000)&&Zn Pm es N sc vs)=true:=h;rw[Wa] at h;have b:=kT es c vs h.2;exact Sd.of (ze (Qc (AK fz b.pa (NS b (of_decide_eq_true h.1))) λσ hh=>by simp only[ya]))
  |_=>exact ff h
 |.sub a i,X,E,Ra,N,sc,c,e,h=>by
  have h:=qc h;cases e with
  |Subscript x y p =>
   have h:(Qf Pm a N sc x&&Qf Pm i N sc y)=true:=h;rw[Wa] at h;exact Sd.of (ze (Qc (AF c.hK (sB a c x h.1).1 (sB i c y h.2).1 (zo h.2)) λσ hh=>by simp only[ya]))
  |_=>exact ff h
 |.slice fz a lo hi,X,E,Ra,N,sc,c,e,h=>by
  have h:=qc h;cases e with
  |Subscript x y p =>
   cases y with
   |Slice l u st p2 =>
    cases st with
    |none =>
     have h:(Qf Pm a N sc x&&sT Pm lo N sc l&&sT Pm hi N sc u)=true:=h;simp only[Wa] at h;obtain⟨⟨h1,h2⟩,h3⟩:=h;exact Sd.of (ze (Qc (YcO c.hK fz (sB a c x h1).1 (Lu lo c l h2) (Lu hi c u h3)) λσ hh=>by simp only[ya]))
    |some _=>exact ff h
   |_=>exact ff h
  |_=>exact ff h
 |.fld a f,X,E,Ra,N,sc,c,e,h=>by
  have h:=qc h;cases e with
  |Attribute x m p =>
   have h:(m==Str.ofString f&&Yj x&&Qf Pm a N sc x)=true:=h;simp only[Wa,beq_iff_eq] at h;obtain⟨⟨rfl,h1⟩,h2⟩:=h;exact Sd.of (ze (Qc (AQ c.txt (sB a c x h2).1 h1) λσ hh=>by simp only[ya]))
  |_=>exact ff h
 |.call f es,X,E,Ra,N,sc,c,e,h=>by
  have h:=qc h;cases e with
  |Call g as ks p =>
   cases g with
   |Name x p2 =>
    cases as with
    |nil=>exact ff h
    |cons v vs =>
     cases ks with
     |cons _ _=>exact ff h
     |nil =>
      have h:(x==Str.ofString f&&gl sc x&&!(f.toList.contains '.')&&(Pm.defs f).isSome&&Zn Pm es N sc (v::vs))=true:=h;simp only[Wa,beq_iff_eq,Wq] at h;obtain⟨⟨⟨⟨rfl,h1⟩,h2⟩,h3⟩,h4⟩:=h;obtain⟨d,hd⟩:=Wn.mp h3;have b:=kT es c (v::vs) h4;exact Sd.of (ze (Qc (Zc8 c hd h2 h1 b.pa b.plain) λσ hh=>by simp only[ya]))
   |_=>exact ff h
  |_=>exact ff h
 |.make fz cn es,X,E,Ra,N,sc,c,e,h=>by
  have h:=qc h;cases e with
  |Call g as ks p =>
   cases g with
   |Name x p2 =>
    cases as with
    |nil =>
     cases ks with
     |cons _ _=>cases es <;> exact ff h
     |nil =>
      cases es with
      |cons _ _=>exact ff h
      |nil =>
       have h:(x==Str.ofString cn&&gl sc x&&Pm.l0 cn&&(Pm.meths cn "__init__").isNone)=true:=h;simp only[Wa,beq_iff_eq,Option.isNone_iff_eq_none] at h;obtain⟨⟨⟨rfl,h1⟩,h3⟩,h4⟩:=h;exact Sd.of (ze (Qc (QcP fz c h3 h4 h1) λσ hh=>by simp only[ya,Qh]))
    |cons v vs =>
     cases ks with
     |cons _ _=>exact ff h
     |nil =>
      have h:(x==Str.ofString cn&&gl sc x&&(Pm.meths cn "__init__").isSome&&Zn Pm es N sc (v::vs))=true:=h;simp only[Wa,beq_iff_eq] at h;obtain⟨⟨⟨rfl,h1⟩,h3⟩,h4⟩:=h;obtain⟨d,hd⟩:=Wn.mp h3;have b:=kT es c (v::vs) h4;exact Sd.of (ze (Qc (qdm fz c hd h1 b.pa b.plain) λσ hh=>by simp only[ya]))
   |_=>exact ff h
  |_=>exact ff h
 |.kX o m es,X,E,Ra,N,sc,c,e,h=>by
  have h:=qc h;cases e with
  |Call g as ks p =>
   cases g with
   |Attribute x nm ap =>
    cases ks with
    |cons _ _=>exact ff h
    |nil =>
     have h:(nm==Str.ofString m&&decide (m≠"__init__")&&Yj x&&(ap.endLine==p.line)&&Qf Pm o N sc x&&Zn Pm es N sc as&&decide (as.length<30))=true:=h;simp only[Wa,beq_iff_eq,decide_eq_true_eq] at h;obtain⟨⟨⟨⟨⟨⟨rfl,h0⟩,h1⟩,h2⟩,h3⟩,h4⟩,h5⟩:=h;have b:=kT es c as h4;have ho:=(sB o c x h3).1;have hl:(ap.endLine==p.line)=true:=by simpa using h2
     cases as with
     |nil =>
      cases es with
      |cons _ _=>exact b.elim
      |nil=>exact Sd.of (ze (Qc (ZcO c h0 ho h1 hl) λσ hh=>by simp only[ya,Qh]))
     |cons v vs=>exact Sd.of (ze (Qc (ycT c h0 ho h1 b.pa b.plain h5 hl) λσ hh=>by simp only[ya]))
   |_=>exact ff h
  |_=>exact ff h
 |.blt fz id es,X,E,Ra,N,sc,c,e,h=>by
  have h:=qc h;cases e with
  |Call g as ks p =>
   cases g with
   |Name x p2 =>
    cases as with
    |nil=>exact ff h
    |cons v vs =>
     cases ks with
     |cons _ _=>exact ff h
     |nil =>
      have h:(x==Str.ofString id&&gl sc x&&(dW.contains id||dB.contains id)&&Zn Pm es N sc (v::vs))=true:=h;simp only[Wa,beq_iff_eq,Xn] at h;obtain⟨⟨⟨rfl,h1⟩,h2⟩,h4⟩:=h;have b:=kT es c (v::vs) h4;exact Sd.of (ze (Qc (AS fz c (by simpa using h2) h1 b.pa b.plain) λσ hh=>by simp only[ya]))
   |_=>exact ff h
  |_=>exact ff h
 |.kF a t,X,E,Ra,N,sc,c,e,h=>by
  have h:=qc h;cases e with
  |Call g as ks p =>
   cases g with
   |Name x p2 =>
    rcases as with _|⟨v,_|⟨y,_|⟨z,as⟩⟩⟩
    ·exact ff h
    ·exact ff h
    ·cases y with
     |Name y p3 =>
      cases ks with
      |nil =>
       have h:(x==("isinstance":Str)&&gl sc x&&y==Str.ofString t&&gl sc y&&(bw.contains t||(Pm.subs t t).isSome)&&Qf Pm a N sc v)=true:=h;simp only[Wa,beq_iff_eq,Xn] at h;obtain⟨⟨⟨⟨⟨rfl,h1⟩,rfl⟩,h2⟩,h3⟩,h4⟩:=h;exact Sd.of (ze (Qc (AN c h3 h1 h2 (sB a c v h4).1 (zo h4)) λσ hh=>by simp only[ya]))
      |cons _ _=>exact ff h
     |_=>exact ff h
    ·cases y <;> exact ff h
   |_=>exact ff h
  |_=>exact ff h
 |.ip a b,X,E,Ra,N,sc,c,e,h=>by
  replace h:=qc h;replace h:(match DV e with|some (x,y)=>Qf Pm a N sc x&&Qf Pm b N sc y|none=>false)=true:=h;split at h
  next x y w =>
   obtain⟨k1,p1,k2,p2,p,rfl⟩:=yb6 w;simp only[Wa] at h;exact Sd.of (ze (Qc (QcR (sB a c x h.1).1 (sB b c y h.2).1) λσ hh=>by simp only[ya]))
  next=>exact ff h
 |.nh fz a,X,E,Ra,N,sc,c,e,h=>by
  replace h:=qc h;replace h:(match uW e with|some (x,y,v)=>false|none=>match DX e with|some v=>Qf Pm a N sc v|none=>false)=true:=h;split at h
  next x y v w=>exact ff h
  next =>
   split at h
   next v w =>
    have hw:∃ st p2 p,e=.Subscript v (.Slice none none (some st) p2) p/\nB st=true:=by
     unfold DX at w;split at w
     ·split at w
      ·cases w;exact⟨_,_,_,rfl,by assumption⟩
      ·cases w
     ·cases w
    obtain⟨st,p2,p,rfl,pB⟩:=hw;exact Sd.of (ze (Qc (Ydf fz c pB (sB a c v h).1) λσ hh=>by simp only[ya]))
   next=>exact ff h
 |.jS a,X,E,Ra,N,sc,c,e,h=>by
  replace h:=qc h;replace h:(match uW e with|some (x,y,v)=>x==("sorted":Str)&&gl sc x&&y==("list":Str)&&gl sc y&&Qf Pm a N sc v|none=>false)=true:=h;split at h
  next x y v w =>
   obtain⟨p1,p2,p3,p,rfl⟩:=zbO w;simp only[Wa,beq_iff_eq] at h;obtain⟨⟨⟨⟨rfl,h1⟩,rfl⟩,h2⟩,h3⟩:=h;exact Sd.of (ze (Qc (zdc (p4:=p) c h1 h2 (sB a c v h3).1 (zo h3)) λσ hh=>by simp only[ya]))
  next=>exact ff h
 |.nA,X,E,Ra,N,sc,c,e,h=>by
  replace h:=qc h;cases e with
  |Dict ks vs p =>
   cases ks with
   |nil =>
    cases vs with
    |nil=>exact Sd.of (ze (Qc yc7 λσ hh=>by simp only[ya]))
    |cons _ _=>exact ff h
   |cons _ _=>exact ff h
  |_=>exact ff h
 |.Cp a,X,E,Ra,N,sc,c,e,h=>by
  replace h:=qc h;cases e with
  |Call f as ks p =>
   cases f with
   |Name x np =>
    rcases as with _|⟨v,_|⟨v2,as⟩⟩
    ·exact ff h
    ·cases ks with
     |nil =>
      replace h:(x==("dict":Str)&&gl sc x&&Qf Pm a N sc v)=true:=h;simp only[Wa,beq_iff_eq] at h;obtain⟨⟨rfl,h1⟩,h2⟩:=h;exact Sd.of (ze (Qc (AJ c h1 (sB a c v h2).1 (zo h2)) λσ hh=>by simp only[ya]))
     |cons _ _=>exact ff h
    ·exact ff h
   |_=>exact ff h
  |_=>exact ff h
 |.nv a b,X,E,Ra,N,sc,c,e,h=>by
  replace h:=qc h;cases e with
  |Call f as ks p =>
   cases f with
   |Attribute x n ap =>
    rcases as with _|⟨v,_|⟨v2,as⟩⟩
    ·exact ff h
    ·cases ks with
     |nil =>
      replace h:(n==("update":Str)&&Yj x&&(ap.endLine==p.line)&&Qf Pm a N sc x&&Qf Pm b N sc v)=true:=h;simp only[Wa,beq_iff_eq] at h;obtain⟨⟨⟨⟨rfl,h1⟩,h2⟩,h3⟩,h4⟩:=h;exact Sd.of (ze (Qc (Qdl (sB a c x h3).1 (sB b c v h4).1 h1 (zo h4) (by simpa using h2)) λσ hh=>by simp only[ya]))
     |cons _ _=>exact ff h
    ·exact ff h
   |_=>exact ff h
  |_=>exact ff h
 |.ny a b,X,E,Ra,N,sc,c,e,h=>by
  replace h:=qc h;cases e with
  |Compare l os rs p =>
   rcases os with _|⟨o,_|⟨o2,os⟩⟩
   ·exact ff h
   ·rcases rs with _|⟨r,_|⟨r2,rs⟩⟩
    ·cases o <;> exact ff h
    ·cases o with
     |NotIn =>
      replace h:(Qf Pm a N sc l&&Qf Pm b N sc r)=true:=h;simp only[Wa] at h;exact Sd.of (Zs (Yc9 c.units (sB a c l h.1).1 (sB b c r h.2).1 (zo h.2)) λσ hh=>by simp only[ya])
     |_=>exact ff h
    ·cases o <;> exact ff h
   ·cases o <;> exact ff h
  |_=>exact ff h
 |.kD a b,X,E,Ra,N,sc,c,e,h=>by
  replace h:=qc h;cases e <;> exact ff h
 |.lm m o es,X,E,Ra,N,sc,c,e,h=>by
  have h:=qc h;cases e with
  |Call g as ks p =>
   cases g with
   |Attribute x nm ap =>
    cases ks with
    |cons _ _=>exact ff h
    |nil =>
     have h:(nm==Str.ofString m&&Yj x&&(ap.endLine==p.line)&&Qf Pm o N sc x&&Zn Pm es N sc as&&(if as.isEmpty then gL.contains m else iF.contains m&&decide (as.length<30)))=true:=h;simp only[Wa,beq_iff_eq] at h;obtain⟨⟨⟨⟨⟨rfl,h1⟩,h2⟩,h3⟩,h4⟩,h5⟩:=h;have b:=kT es c as h4;have ho:=(sB o c x h3).1;have hl:(ap.endLine==p.line)=true:=by simpa using h2
     cases as with
     |nil =>
      cases es with
      |cons _ _=>exact b.elim
      |nil =>
       have HW:m∈gL:=by simpa using h5
       simp only[gL,ua,Vc,or_false] at HW
     |cons v vs =>
      have HW:m∈iF/\(v::vs).length<30:=by simpa using h5
      obtain⟨h6,h7⟩:=HW;simp only[iF,ua,Vc,or_false] at h6
      rcases h6 with rfl|rfl
      ·exact Sd.of (ze (Qc (Nj PySem.F.slot_list_append PySem.F.type_list_append Zb3 ho h1 b.pa b.plain h7 hl) λσ hh=>by simp only[ya]))
      ·exact Sd.of (ze (Qc (Nj PySem.F.slot_list_extend PySem.F.type_list_extend Qb4 ho h1 b.pa b.plain h7 hl) λσ hh=>by simp only[ya]))
   |_=>exact ff h
  |_=>exact ff h
 |.comp fz elt tg it src cond bV js,X,E,Ra,N,sc,c,e,h=>by
  have h:=qc h;cases e with
  |ListComp x gs cs p =>
   rcases gs with _|⟨⟨t,iter,ifs,a⟩,_|⟨g2,gs⟩⟩
   ·exact ff h
   ·have h:((a==0)&&Ya iter&&QF sc N cs (lj tg t++js.filterMap λj=>N[j]?) bV js&&decide (lj tg t++js.filterMap λj=>N[j]?).Nodup&&YE (oZ cs) (lj tg t++js.filterMap λj=>N[j]?) (ZL cs sc) tg t&&Qf Pm elt (lj tg t++js.filterMap λj=>N[j]?) (ZL cs sc) x&&nP Pm cond (lj tg t++js.filterMap λj=>N[j]?) (ZL cs sc) ifs&&(if it == "seq" then lh Pm src N sc iter else if it == "enum1" then rg t sc iter&&lh Pm src N sc (oB iter) else oM t it iter&&gl sc (Str.ofString it)&&Zn Pm src N sc (qF iter)))=true:=h;simp only[Wa,beq_iff_eq,decide_eq_true_eq] at h;obtain⟨⟨⟨⟨⟨⟨⟨ha,h1⟩,h2⟩,h3⟩,h4⟩,h5⟩,h6⟩,h7⟩:=h;subst ha;have hi:PI X t iter (lI ct Ra E (Qh Pm (run Pm n) src) it):=by
     split at h7
     next hs =>
      subst hs;exact F3 src c t iter h7
     next hs =>
      split at h7
      next kY =>
       subst kY;simp only[Wa] at h7;exact F0 src c t iter h7.1 h7.2
      next =>
       simp only[Wa] at h7;obtain⟨⟨k1,k2⟩,k3⟩:=h7;exact Ei c k1 k2 (kT src c (qF iter) k3)
    exact Sd.of (ze (Qc (Zdh fz (by rw[c.sc,c.nm];exact h2) c.calm hi (λC s3 H ex=>sG rfl (c.comp h3 C s3 H ex).sc h3 c.calm (λ_ z=>z) tg t h4) (λC s3 H ex=>Lv cond (c.comp h3 C s3 H ex) ifs h6) (λC s3 H ex=>(sB elt (c.comp h3 C s3 H ex) x h5).1) h1) λσ hh=>by simp only[ya]))
   ·exact ff h
  |_=>exact ff h
 |.e8 m,X,E,Ra,N,sc,c,e,h=>by
  have h:=qc h;have h':Qf Pm m N sc e=true:=h;exact⟨Qc (AO (sB m c e h').1) λσ hh=>by simp only[ya],λz=>Wj z⟩
theorem kT:∀(lB:List ME){X:Cx}{E:XK}{Ra:L2.St->Prop}{N:List Str} {sc:az} (c:Cc X Pm ct n Ra E N sc) (es:List Expr),Zn Pm lB N sc es=true->Bo ct X Ra E Pm n lB es
 |[],X,E,Ra,N,sc,c,es,h=>by
  cases es with
  |nil=>trivial
  |cons e es=>exact ff h
 |m::ms,X,E,Ra,N,sc,c,es,h=>by
  cases es with
  |nil=>exact ff h
  |cons e es =>
   have h:=ybP h;exact⟨⟨zo h.1,sB m c e h.1⟩,kT ms c es h.2⟩
theorem F3:∀(lB:List ME){X:Cx}{E:XK}{Ra:L2.St->Prop}{N:List Str} {sc:az} (c:Cc X Pm ct n Ra E N sc) (t e:Expr),lh Pm lB N sc e=true->PI X t e (lI ct Ra E (Qh Pm (run Pm n) lB) "seq")
 |[],X,E,Ra,N,sc,c,t,e,h=>ff h
 |[m],X,E,Ra,N,sc,c,t,e,h=>by
  have h:Qf Pm m N sc e=true:=h;have:=qc5 c.hK (tg:=t) (sB m c e h).1;have e2:Qh Pm (run Pm n) [m]=λσ hh=>(ya Pm (run Pm n) m σ hh).bind λx h1=>.ok [x] h1:=by
   funext σ hh;simp only[Qh] <;> rfl
  rw[e2];exact this
 |_::_::_,X,E,Ra,N,sc,c,t,e,h=>ff h
theorem F0:∀(lB:List ME){X:Cx}{E:XK}{Ra:L2.St->Prop}{N:List Str} {sc:az} (c:Cc X Pm ct n Ra E N sc) (t e:Expr),rg t sc e=true->lh Pm lB N sc (oB e)=true->PI X t e (lI ct Ra E (Qh Pm (run Pm n) lB) "enum1")
 |[],X,E,Ra,N,sc,c,t,e,h0,h=>ff h
 |[m],X,E,Ra,N,sc,c,t,e,h0,h=>by
  unfold rg at h0;simp only[Wa] at h0;obtain⟨⟨h1,h2⟩,h3⟩:=h0;obtain⟨k1,k2,k3⟩:=QN c.sc h2;cases hf:qN e with
  |none=>rw[hf] at h3;cases h3
  |some a =>
   obtain⟨j,p,cp,kp,pos,rfl⟩:=ZcC hf;have ea:oB (B9 a j p cp kp pos)=a:=by unfold oB;rw[hf];rfl
   rw[ea] at h;have h:Qf Pm m N sc a=true:=h;cases t with
   |Tuple es k pt =>
    have:=qcA (p:=p) (pos:=pos) (es:=es) (kt:=k) (pt:=pt) (j:=j) (cp:=cp) (kp:=kp) c.hK k1 (c.txt.ie "enumerate" (by simp)) (sB m c a h).1 (zo h);have e2:Qh Pm (run Pm n) [m]=λσ hh=>(ya Pm (run Pm n) m σ hh).bind λx h1=>.ok [x] h1:=by
     funext σ hh;simp only[Qh] <;> rfl
    rw[e2];exact this
   |_=>exact ff h1
 |_::_::_,X,E,Ra,N,sc,c,t,e,h0,h=>ff h
theorem Lu:∀(mo:Option ME){X:Cx}{E:XK}{Ra:L2.St->Prop}{N:List Str} {sc:az} (c:Cc X Pm ct n Ra E N sc) (eo:Option Expr),sT Pm mo N sc eo=true->PO X eo (lO ct Ra E (Bf Pm (run Pm n) mo))
 |none,X,E,Ra,N,sc,c,eo,h=>by
  cases eo with
  |none =>
   refine PO.imp ZcP λσ H Q q=>?_;obtain⟨μ,hh,σs,rel,aM,ra,p⟩:=q;simp only[Bf] at p;exact p.now rel
  |some e=>exact ff h
 |some m,X,E,Ra,N,sc,c,eo,h=>by
  cases eo with
  |none=>exact ff h
  |some e =>
   have h:Qf Pm m N sc e=true:=h;refine PO.imp (LW (sB m c e h).1) λσ H Q q=>?_;obtain⟨μ,hh,σs,rel,aM,ra,p⟩:=q;simp only[Bf] at p;refine lE.mk rel aM ra p λx v μ1 h1 H1 ex av aV rv p1=>?_;obtain⟨i,e,p2⟩:=Po.opt p1;have:=qi e;subst this;exact⟨i,Zp rv,p2.now av⟩
theorem Lv:∀(mo:Option ME){X:Cx}{E:XK}{Ra:L2.St->Prop}{N:List Str} {sc:az} (c:Cc X Pm ct n Ra E N sc) (es:List Expr),nP Pm mo N sc es=true->lL X es (lT ct Ra E (Bb Pm (run Pm n) mo))
 |none,X,E,Ra,N,sc,c,es,h=>by
  cases es with
  |nil =>
   refine lL.imp YcT λσ H Q q=>?_;obtain⟨μ,hh,σs,rel,aM,ra,p⟩:=q;simp only[Bb] at p;exact p.now rel
  |cons e es=>exact ff h
 |some m,X,E,Ra,N,sc,c,es,h=>by
  rcases es with _|⟨e,_|⟨e2,es⟩⟩
  ·exact ff h
  ·have h:(iS m&&Qf Pm m N sc e)=true:=h;rw[Wa] at h;have e2:Bb Pm (run Pm n) (some m)=fk (ya Pm (run Pm n) m):=by
    funext σ hh;simp only[Bb,fk]
   rw[e2];exact ycG ((sB m c e h.2).2 h.1)
  ·exact ff h
end
end SD
end
section
namespace SD
open PySem PySem.Spec PyProof.Rows L2 L3 M3 MP
noncomputable def fc(ct:Tx)(E:XK)(r:RS)(μ:List ae)(h:MH)(H:Hp)(D:Ends):Prop:=match r with
 |.next σ' h'=>∀ μ' H' σ,Ext μ h H μ' h' H'->Rel ct μ' h' H'->a8 ct μ' h' H' σ σ'->D.nx σ H'
 |.ret m h'=>∀ μ' H' v,Ext μ h H μ' h' H'->Rel ct μ' h' H'->RV ct μ' (bc μ' h') H' m v->D.rt v H'
 |.brk σ' h'=>∀ μ' H' σ,Ext μ h H μ' h' H'->Rel ct μ' h' H'->a8 ct μ' h' H' σ σ'->D.bk σ H'
 |.cnt σ' h'=>∀ μ' H' σ,Ext μ h H μ' h' H'->Rel ct μ' h' H'->a8 ct μ' h' H' σ σ'->D.ct σ H'
 |.exc c h'=>∀ μ' H',Ext μ h H μ' h' H'->Rel ct μ' h' H'->E (.ref (ct c)) none H'
 |.stuck=>False
noncomputable def lS(ct:Tx)(Ra:L2.St->Prop)(E:XK)(ex:aF->MH->RS):TS:=λD σ H=>∃ μ h σs,Rel ct μ h H/\a8 ct μ h H σ σs/\Ra σ/\fc ct E (ex σs h) μ h H D
section
variable {ct:Tx} {Pm:Prog} {n:Nat} {X:Cx} {E:XK} {Ra:L2.St->Prop} {N:List Str} {sc:az}
section
variable {μ μ1:List ae} {h h1:MH} {H H1:Hp} {D:Ends} {α:Type}
theorem fc.start{r:RS}(e:Ext μ h H μ1 h1 H1)(p:fc ct E r μ h H D):fc ct E r μ1 h1 H1 D:=by
 cases r with
 |next σ' h'=>exactλμ' H' σ e' r' q=>p μ' H' σ (e.trans e') r' q
 |ret m h'=>exactλμ' H' v e' r' q=>p μ' H' v (e.trans e') r' q
 |brk σ' h'=>exactλμ' H' σ e' r' q=>p μ' H' σ (e.trans e') r' q
 |cnt σ' h'=>exactλμ' H' σ e' r' q=>p μ' H' σ (e.trans e') r' q
 |exc c h'=>exactλμ' H' e' r'=>p μ' H' (e.trans e') r'
 |stuck=>exact p
theorem fc.st{r:R α}{k:α->MH->RS}(p:fc ct E (r.st k) μ h H D):Po ct E r μ h H λx μ1 h1 H1=>Ext μ h H μ1 h1 H1/\Rel ct μ1 h1 H1/\fc ct E (k x h1) μ1 h1 H1 D:=by
 cases r with
 |ok x h'=>exactλμ' H' e' r'=>⟨e',r',fc.start (r:=k x h') e' p⟩
 |exc c h'=>exact p
 |stuck=>exact p
theorem fc.opt{o:Option α}{k:α->RS}(p:fc ct E (YC o k) μ h H D):∃ x,o=some x/\fc ct E (k x) μ h H D:=by
 cases o with
 |none=>exact p.elim
 |some x=>exact⟨x,rfl,p⟩
end
section
variable {μ:List ae} {h:MH} {H:Hp} {σ:L2.St} {σs:aF} {D:Ends}
theorem lE.st{ev:aF->MH->R MV}{k:MV->MH->RS}{Q:VK}(rel:Rel ct μ h H)(aM:a8 ct μ h H σ σs)(ra:Ra σ)(p:fc ct E ((ev σs h).st k) μ h H D)
  (f:∀ m v μ1 h1 H1,Ext μ h H μ1 h1 H1->Rel ct μ1 h1 H1->a8 ct μ1 h1 H1 σ σs->RV ct μ1 (bc μ1 h1) H1 m v->fc ct E (k m h1) μ1 h1 H1 D->Q v H1):lE ct Ra E ev σ H Q :=
 ⟨μ,h,σs,rel,aM,ra,(fc.st p).imp λm μ1 h1 H1 ⟨e1,r1,p1⟩ v rv=>f m v μ1 h1 H1 e1 r1 (aM.ext e1) rv p1⟩
end
structure Cs (X:Cx) (Pm:Prog) (ct:Tx) (n:Nat) (E:XK) (N:List Str) (sc:az):Prop where
 cc:Cc X Pm ct n (λ_=>True) E N sc
 ex:X.ex=[]
 own:fL (ak X.prog X.w) X.A X.env X.xe
 tk:JE X E
 fn:∀ x,X.fn x=true
 kd:X.env.scope.kind=.function
 FU:X.stack=X.env::X.outer
 fr:X.env.frame=some X.env.locals
section
variable {ea eb ec:aF->MH->R MV} {a b c:Expr} {pos p2:Pos}
noncomputable def lX:Expr->Bool
 |.ListComp ..=>true
 |.SetComp ..=>true
 |.DictComp ..=>true
 |_=>false
theorem GI{e:Expr}{t:Option Expr}{l:Nat}{env:Env}(h:lX e=false):bo e t l env=pure false:=by
 cases e <;> first|rfl|(simp[lX] at h)
theorem KI{e t:Expr}{l:Nat}{env:Env}(h1:∀ x gs cs p,bo (.ListComp x gs cs p) (some t) l env=pure false)(h2:∀ x gs cs p,bo (.SetComp x gs cs p) (some t) l env=pure false)(h3:∀ x y gs cs p,bo (.DictComp x y gs cs p) (some t) l env=pure false):bo e (some t) l env=pure false:=by
 cases hl:lX e with
 |false=>exact GI hl
 |true =>
  cases e with
  |ListComp x gs cs p=>exact h1 _ _ _ _
  |SetComp x gs cs p=>exact h2 _ _ _ _
  |DictComp x y gs cs p=>exact h3 _ _ _ _ _
  |_=>exact Wj (show false=true from hl)
theorem tS{x:Expr}{gs:List jv}{cs:az}{p:Pos}{t:Expr}{l:Nat}{env:Env}(h:∀ x p,t≠.Name x p):bo (.ListComp x gs cs p) (some t) l env=pure false:=by
 cases t with
 |Name x p=>exact absurd rfl (h x p)
 |_=>rfl
theorem Qdg(ha:PE X a (lE ct Ra E ea))(hl:lX a=false):PS X (.Expr a pos) (lS ct Ra E λσ h=>(ea σ h).st λ_ h1=>.next σ h1):=PS.imp (qcU ha (GI hl)) λD σ H q=>by
 obtain⟨μ,h,σs,rel,aM,ra,p⟩:=q;exact lE.st rel aM ra p λm v μ1 h1 H1 ex av aV rv p1=>p1 μ1 H1 σ (Ext.refl _ _ _) av aV
theorem t6(ha:PE X a (lE ct Ra E ea)):PS X (.Return (some a) pos) (lS ct Ra E λσ h=>(ea σ h).st λv h1=>.ret v h1):=PS.imp (Ot ha) λD σ H q=>by
 obtain⟨μ,h,σs,rel,aM,ra,p⟩:=q;exact lE.st rel aM ra p λm v μ1 h1 H1 ex av aV rv p1=>p1 μ1 H1 v (Ext.refl _ _ _) av rv
theorem FY{x y:List Stmt}{ex ey:aF->MH->RS}(tc:PT X c (lT ct Ra E (fk ec)))(hx:gV X x (lS ct Ra E ex))(hy:gV X y (lS ct Ra E ey)) :
  PS X (.If c x y pos) (lS ct Ra E λσ h=>(ec σ h).st λv h1=>YC (QI v) λk=>if k=true then ex σ h1 else ey σ h1):=PS.imp (uZ tc hx hy) λD σ H q=>by
 obtain⟨μ,h,σs,rel,aM,ra,p⟩:=q;have p':fc ct E ((fk ec σs h).st λk h1=>if k=true then ex σs h1 else ey σs h1) μ h H D:=by
  dsimp only[fk] at p ⊢;cases er:ec σs h with
  |stuck=>rw[er] at p;exact p
  |exc c h'=>rw[er] at p;exact p
  |ok x h' =>
   rw[er] at p;simp only[R.aJ,R.st_ok] at p ⊢;cases eb:QI x with
   |none=>rw[eb] at p;exact p.elim
   |some k=>rw[eb] at p;exact p
 refine⟨μ,h,σs,rel,aM,ra,(fc.st p').imp λk μ1 h1 H1 ⟨gQ,av,p1⟩=>?_⟩;cases k with
 |true=>exact⟨μ1,h1,σs,av,aM.ext gQ,ra,p1⟩
 |false=>exact⟨μ1,h1,σs,av,aM.ext gQ,ra,p1⟩
theorem tZ{tg:Tg}(c:Cs X Pm ct n E N sc)(ht:YE oH N sc tg b=true)(ha:PE X a (lE ct (λ_=>True) E ea))(hs:bo a (some b) pos.line X.env=pure false)(hw:fV [b] a X.env=pure none) :
  PS X (.Assign [b] a pos) (lS ct (λ_=>True) E λσ h=>(ea σ h).st λv h1=>YC (yO tg v σ) λσ1=>.next σ1 h1):=by
 refine PS.imp (Na ha (sG (ct:=ct) c.cc.nm c.cc.sc c.cc.nd c.cc.calm (λx _=>c.fn x) tg b ht) hs hw (by rw[EA ht [] X.env];rfl)) λD σ H q=>?_;obtain⟨μ,h,σs,rel,aM,ra,p⟩:=q;refine lE.st rel aM ra p λm v μ1 h1 H1 ex av aV rv p1=>?_;obtain⟨σ1,e,p2⟩:=fc.opt p1;exact⟨μ1,h1,σs,m,σ1,av,aV,rv,e,λσ' iu=>p2 μ1 H1 σ' (Ext.refl _ _ _) av iu⟩
theorem zbQ{o i : Expr}{env : Env}(hp : Ya i=true) : ∀ v, eD (.Subscript o i pos) env v=(do
   let ov<-ck [v] (eval o env)
   let iv<-ck [v,ov] (eval i env)
   iD pos
   ck [v,ov,iv] (jC ov iv v)
   release [v,ov,iv] []):=by
 intro v;cases i <;> first|rfl|(simp[Ya] at hp)
theorem QcD{o i:Expr}(ha:PE X a (lE ct Ra E ea))(ho:PE X o (lE ct Ra E eb))(hi:PE X i (lE ct Ra E ec))(hp:Ya i=true) :
  PS X (.Assign [.Subscript o i p2] a pos) (lS ct Ra E λσ h=>(ea σ h).st λv h1=>(eb σ h1).st λx h2=>(ec σ h2).st λy h3 =>
   match x with
   |.ref a=>YC (Yd h3 a) λxs=>YC (zd y) λk=>YC (jW xs.length k) λj=>.next σ (yf h3 a (xs.set j v))
   |_=>.stuck):=by
 refine PS.imp (Na ha (Qc9 ho hi Zcw (zbQ hp)) (show jg [Expr.Subscript o i p2] a pos.line X.env=pure false from KI (e:=a) (t:=.Subscript o i p2) (l:=pos.line) (env:=X.env) (λ_ _ _ _=>rfl) (λ_ _ _ _=>rfl) (λ_ _ _ _ _=>rfl)) (by cases a <;> rfl) rfl) λD σ H q=>?_;obtain⟨μ,h,σs,rel,aM,ra,p⟩:=q;refine lE.st rel aM ra p λm v μ1 h1 H1 gQ av aV rv p1=>?_;refine lE.st av aV ra p1 λm2 v2 μ2 h2 H2 dE aZ dn ja p2=>?_;refine lE.st aZ dn ra p2 λm3 v3 μ3 h3 H3 fY eg lV uJ p3=>?_;cases m2 with
 |ref i0 =>
  obtain⟨xs,e1,p4⟩:=fc.opt p3;obtain⟨k,e2,p5⟩:=fc.opt p4;obtain⟨j,e3,p6⟩:=fc.opt p5;have:=qi e2;subst this;obtain⟨b',vs,iH,hb,rs⟩:=eg.lst e1;have lR:=ja.ext fY;simp only[RV] at lR;obtain⟨b0,nN,rfl⟩:=lR;rw[iH] at nN;cases nN;have e4:=yS e1;have jR:=Ext.set (H:=H3) eg iH e4 (λz=>nomatch z) (.lst (xs.set j m)) (.lst (vs.set j v));refine⟨b',vs,k,j,rfl,Zp uJ,hb,by rw[rs.length,<- Oy];exact e3,?_⟩;refine p6 μ3 _ σ jR (eg.set iH e4 (λz=>nomatch z) ⟨_,qe,?_⟩) (lV.ext jR);exact aC.set (((rv.ext dE).ext fY).ext jR) j (rs.ext jR)
 |f _=>exact p3.elim
 |tup _=>exact p3.elim
 |exc _=>exact p3.elim
theorem Zc4{o i:Expr}{k1:Nat}{p1:Pos}(hu:X.A.units+65<cR)(ho:PE X o (lE ct Ra E eb))(hi:PE X i (lE ct Ra E ec)) :
  PS X (.Assign [.Subscript o i p2] (.Constant (.bool true) k1 p1) pos) (lS ct Ra E λσ h=>(eb σ h).st λx h1=>(ec σ h1).st λy h2=>YC (zd y) λj=>match x with
   |.ref a=>YC (oE h2 (.ref a)) λks=>if ks.length<1000000 then .next σ (h2.set a (.iC (zA ks j))) else .stuck
   |_=>.stuck):=by
 refine PS.imp (qcS (by lia) ho hi B' rfl) λD σ H q=>?_;obtain⟨μ,h,σs,rel,aM,ra,p⟩:=q;refine lE.st rel aM ra p λm2 v2 μ2 h2 H2 dE aZ dn ja p2=>?_;refine lE.st aZ dn ra p2 λm3 v3 μ3 h3 H3 fY eg lV uJ p3=>?_;obtain⟨k,e2,p4⟩:=fc.opt p3;have:=qi e2;subst this;cases m2 with
 |ref i0 =>
  obtain⟨ks,e1,p5⟩:=fc.opt p4;split at p5
  next hk =>
   obtain⟨i',ei,hc⟩:=JQ e1;cases ei;have lR:=ja.ext fY;simp only[RV] at lR;obtain⟨b0,nN,rfl⟩:=lR;have hH:H3 b0=some (.dK (mj ks)):=eg.cells _ _ _ nN hc;have jR:=Ext.set (H:=H3) eg nN hc (λz=>nomatch z) (.iC (zA ks k)) (.dK (mj (zA ks k)));refine⟨b0,_,rfl,by rw[Zp uJ];exact mE.k (k:=Sum.inl k) hH (by rw[xc,c6];lia),?_⟩;rw[GN];exact p5 μ3 _ σ jR (eg.set nN hc (λz=>nomatch z) qe) (lV.ext jR)
  next=>exact p5.elim
 |f _=>exact p4.elim
 |tup _=>exact p4.elim
 |exc _=>exact p4.elim
theorem Ka{μ:List ae}{L:ae->Prop}{H:Hp}{f:String}{m:MV}{v:V}(r:RV ct μ L H m v):∀{fs:List (String×MV)} {gs:List (Str×V)},gs.map Wt=fs.map (λp=>Str.ofString p.1)->aC ct μ L H (fs.map vn) (gs.map vn) ->
  (yP (Str.ofString f) v gs).map Wt=(mU f m fs).map (λp=>Str.ofString p.1)/\aC ct μ L H ((mU f m fs).map vn) ((yP (Str.ofString f) v gs).map vn)
 |[],gs,h1,h2=>by
  cases gs with
  |nil=>exact⟨rfl,aC.cons r aC.nil⟩
  |cons p gs=>simp at h1
 |(k,y)::fs,gs,h1,h2=>by
  cases gs with
  |nil=>simp at h1
  |cons p gs =>
   obtain⟨k',u⟩:=p;simp only[Wb,List.cons.injEq] at h1;obtain⟨rfl,h3⟩:=h1;simp only[Wb,aC] at h2;obtain⟨w,t,e,q1,q2⟩:=h2;cases e;unfold yP mU;by_cases hk:k=f
   ·subst hk;rw[if_pos rfl,if_pos rfl];exact⟨by simp[h3],by simp only[Wb];exact aC.cons r q2⟩
   ·rw[if_neg hk,if_neg (λz=>hk (zE z))];obtain⟨i1,i2⟩:=Ka (f:=f) r h3 q2;exact⟨by simp[i1],by simp only[Wb];exact aC.cons q1 i2⟩
theorem qcC{o:Expr}{f:String}(T:Txt X.prog X.w X.K X.mg X.base Pm ct n)(ha:PE X a (lE ct Ra E ea))(ho:PE X o (lE ct Ra E eb)) :
  PS X (.Assign [.Attribute o (Str.ofString f) p2] a pos) (lS ct Ra E λσ h=>(ea σ h).st λv h1=>(eb σ h1).st λx h2=>match x with
   |.ref a=>match h2[a]? with
    |some (.obj c fs)=>if Pm.iG c f=true/\fs.length<100 then .next σ (h2.set a (.obj c (mU f v fs))) else .stuck
    |_=>.stuck
   |_=>.stuck):=by
 refine PS.imp (zdl ho ha (KI (λ_ _ _ _=>rfl) (λ_ _ _ _=>rfl) (λ_ _ _ _ _=>rfl))) λD σ H q=>?_;obtain⟨μ,h,σs,rel,aM,ra,p⟩:=q;refine lE.st rel aM ra p λm v μ1 h1 H1 gQ av aV rv p1=>?_;refine lE.st av aV ra p1 λm2 v2 μ2 h2 H2 dE aZ dn ja p2=>?_;cases m2 with
 |ref i0 =>
  dsimp only at p2;split at p2
  next c fs ec =>
   split at p2
   next ok =>
    obtain⟨ok1,ok2⟩:=ok;obtain⟨b,dx,gs,eb,hb,q1,q2⟩:=aZ.obj ec;simp only[RV] at ja;obtain⟨b0,nN,rfl⟩:=ja;rw[eb] at nN;cases nN;obtain⟨t1,t2⟩:=T.iG c f ok1;have hl:gs.length=fs.length:=by have:=congrArg vt q1;simpa using this
    have fY:=Ext.set (H:=H2) aZ eb ec (λz=>nomatch z) (.obj c (mU f m fs)) (.ins (ct c) dx (yP (Str.ofString f) v gs));refine⟨b,ct c,dx,gs,rfl,hb,t1,t2,by lia,?_⟩;obtain⟨s1,s2⟩:=Ka (f:=f) ((rv.ext dE).ext fY) q1 (q2.ext fY);exact p2 μ2 _ σ fY (aZ.set eb ec (λz=>nomatch z) ⟨dx,_,qe,s1,s2⟩) (dn.ext fY)
   next=>exact p2.elim
  next=>exact p2.elim
 |f _=>exact p2.elim
 |tup _=>exact p2.elim
 |exc _=>exact p2.elim
end
end
end SD
end
section
namespace SD
open PySem PySem.Spec PyProof.Rows L2 L3 M3 MP
section
variable {ct:Tx} {Pm:Prog} {n:Nat} {X:Cx} {E:XK} {N:List Str} {sc:az}
noncomputable abbrev yes:L2.St->Prop:=λ_=>True
section
variable {ea eb ec:aF->MH->R MV} {a b c:Expr} {pos p2:Pos}
theorem KG{st:Stmt}{rest:List Stmt}{ex ey:aF->MH->RS}(h1:PS X st (lS ct yes E ex))(h2:gV X rest (lS ct yes E ey)):gV X (st::rest) (lS ct yes E λσ h=>(ex σ h).bind λσ1 h1=>ey σ1 h1):=gV.imp (Qch h1 h2) λD σ H q=>by
 obtain⟨μ,h,σs,rel,aM,ra,p⟩:=q;refine⟨μ,h,σs,rel,aM,ra,?_⟩;dsimp only at p;cases er:ex σs h with
 |next σ' h' =>
  rw[er] at p;intro μ' H' σv e1 r1 q1;exact⟨μ',h',σ',r1,q1,trivial,fc.start e1 p⟩
 |ret m h'=>rw[er] at p;exact p
 |brk σ' h'=>rw[er] at p;exact p
 |cnt σ' h'=>rw[er] at p;exact p
 |exc c h'=>rw[er] at p;exact p
 |stuck=>rw[er] at p;exact p
theorem t8:gV X [] (lS ct yes E λσ h=>.next σ h):=gV.imp YcW λD σ H q=>by
 obtain⟨μ,h,σs,rel,aM,ra,p⟩:=q;exact p μ H σ (Ext.refl _ _ _) rel aM
theorem zdi:PS X (.Pass pos) (lS ct yes E λσ h=>.next σ h):=PS.imp ZcW λD σ H q=>by
 obtain⟨μ,h,σs,rel,aM,ra,p⟩:=q;exact p μ H σ (Ext.refl _ _ _) rel aM
theorem uG{tg:Tg}{t iter:Expr}{body:List Stmt}{it:String}{ev:aF->MH->R (List MV)}{ex:aF->MH->RS}(c:Cs X Pm ct n E N sc)(hi:PI X t iter (lI ct yes E ev it))(ht:YE oH N sc tg t=true)(hb:gV X body (lS ct yes E ex))(cF:Ya iter=true) :
  PS X (.For t iter body [] pos) (lS ct yes E λσ h=>(ev σ h).st λxs h1=>YC (fP it xs h1) λp=>qM p.2 (Qp tg ex) p.1 σ h1):=by
 refine PS.imp (qdg c.own c.cc.calm hi (sG (ct:=ct) c.cc.nm c.cc.sc c.cc.nd c.cc.calm (λx _=>c.fn x) tg t ht) hb (ZT cF)) λD σ H q=>?_;obtain⟨μ,h,σs,rel,aM,ra,p⟩:=q;refine⟨μ,h,σs,rel,aM,ra,(fc.st p).imp λxs μ1 h1 H1 ⟨gQ,av,p1⟩=>?_⟩;obtain⟨⟨items,g⟩,e1,p2⟩:=fc.opt p1;refine⟨items,g,e1,av,λJ wk=>?_⟩;dsimp only at p2;refine⟨λi m σ' H'=>∃ μ' h' σs',m=items.length-i/\i<=items.length/\Ext μ1 h1 H1 μ' h' H'/\Rel ct μ' h' H'/\a8 ct μ' h' H' σ' σs'/\fc ct E (qM g (Qp tg ex) (items.drop i) σs' h') μ' h' H' D,?_,?_⟩
 ·exact⟨items.length,μ1,h1,σs,by simp,um _,Ext.refl _ _ _,av,aM.ext gQ,by simpa using p2⟩
 ·rintro i m σ' H' ⟨μ',h',σs',rfl,l8,dE,bH,iu,p3⟩;by_cases lt:i<items.length
  ·right
   have ed:items.drop i=items[i]::items.drop (i+1):=uu lt;rw[ed] at p3;simp only[qM] at p3;split at p3
   next gd =>
    obtain⟨w1,_⟩:=wk i μ' h' H' dE bH gd;obtain⟨go,yl⟩:=w1 lt;refine⟨go,λσ2 H2=>∃ μ2 h2 σ2s,Ext μ1 h1 H1 μ2 h2 H2/\Rel ct μ2 h2 H2/\a8 ct μ2 h2 H2 σ2 σ2s/\fc ct E (qM g (Qp tg ex) (items.drop (i+1)) σ2s h2) μ2 h2 H2 D,λσ2 H2 ⟨μ2,h2,σ2s,e2,r2,q2,p4⟩=>⟨items.length-(i+1),by lia,μ2,h2,σ2s,rfl,lt,e2,r2,q2,p4⟩,λx H2 y=>?_⟩;obtain⟨mx,em,fY,aZ,rx⟩:=yl x H2 y;have Ij:mx=items[i]:=by simpa[lt] using em.symm
    subst Ij;have p4:=fc.start fY p3;unfold Qp at p4;cases eb:yO tg items[i] σs' with
    |none=>rw[eb] at p4;exact p4.elim
    |some σ2s =>
     rw[eb] at p4;simp only[Ks] at p4;refine⟨μ',h',σs',items[i],σ2s,aZ,iu.ext fY,rx,eb,λσ2 dn=>?_⟩;refine⟨μ',h',σ2s,aZ,dn,trivial,?_⟩;cases er:ex σ2s h' with
     |next σ3 h3 =>
      rw[er] at p4;intro μ3 H3 σv e3 r3 q3;exact⟨μ3,h3,σ3,(dE.trans fY).trans e3,r3,q3,fc.start e3 p4⟩
     |cnt σ3 h3 =>
      rw[er] at p4;intro μ3 H3 σv e3 r3 q3;exact⟨μ3,h3,σ3,(dE.trans fY).trans e3,r3,q3,fc.start e3 p4⟩
     |brk σ3 h3=>rw[er] at p4;exact p4
     |ret m h3=>rw[er] at p4;exact p4
     |exc c h3=>rw[er] at p4;exact p4
     |stuck=>rw[er] at p4;exact p4
   next=>exact p3.elim
  ·left
   have Ai:i=items.length:=by lia
   subst Ai;rw[wG] at p3;simp only[qM] at p3;split at p3
   next gd =>
    obtain⟨_,w2⟩:=wk items.length μ' h' H' dE bH gd;exact⟨w2 rfl,p3 μ' H' σ' (Ext.refl _ _ _) bH iu⟩
   next=>exact p3.elim
theorem qcG{body:List Stmt}{ex:aF->MH->RS}(c':Cs X Pm ct n E N sc)(tc:PT X c (lT ct yes E (fk ec)))(hb:gV X body (lS ct yes E ex))(k:Nat) :
  PS X (.While c body [] pos) (lS ct yes E λσ h=>YI ec ex k σ h):=by
 refine PS.imp (Zcn c'.own tc hb) λD σ H q=>?_;obtain⟨μ,h,σs,rel,aM,ra,p⟩:=q;refine⟨λm σ' H'=>∃ μ' h' σs',Rel ct μ' h' H'/\a8 ct μ' h' H' σ' σs'/\fc ct E (YI ec ex m σs' h') μ' h' H' D,⟨k,μ,h,σs,rel,aM,p⟩,?_⟩;rintro m σ' H' ⟨μ',h',σs',bH,iu,p1⟩;cases m with
 |zero=>exact p1.elim
 |succ m =>
  simp only[YI] at p1;have p2:fc ct E ((fk ec σs' h').st λb h1=>if b=true then(ex σs' h1).turn λσ2 h2=>YI ec ex m σ2 h2 else .next σs' h1) μ' h' H' D:=by
   dsimp only[fk];cases er:ec σs' h' with
   |stuck=>rw[er] at p1;exact p1
   |exc c h'=>rw[er] at p1;exact p1
   |ok x h' =>
    rw[er] at p1;simp only[R.aJ,R.st_ok] at p1 ⊢;cases eb:QI x with
    |none=>rw[eb] at p1;exact p1.elim
    |some k=>rw[eb] at p1;exact p1
  refine⟨μ',h',σs',bH,iu,trivial,(fc.st p2).imp λb μ1 h1 H1 ⟨gQ,av,p3⟩=>?_⟩;cases b with
  |false=>exact p3 μ1 H1 σ' (Ext.refl _ _ _) av (iu.ext gQ)
  |true =>
   simp only[if_true] at p3 ⊢;refine⟨λσ2 H2=>∃ μ2 h2 σ2s,Rel ct μ2 h2 H2/\a8 ct μ2 h2 H2 σ2 σ2s/\fc ct E (YI ec ex m σ2s h2) μ2 h2 H2 D,λσ2 H2 q2=>⟨m,by lia,q2⟩,μ1,h1,σs',av,iu.ext gQ,trivial,?_⟩;cases er:ex σs' h1 with
   |next σ3 h3 =>
    rw[er] at p3;intro μ3 H3 σv e3 r3 q3;exact⟨μ3,h3,σ3,r3,q3,fc.start e3 p3⟩
   |cnt σ3 h3 =>
    rw[er] at p3;intro μ3 H3 σv e3 r3 q3;exact⟨μ3,h3,σ3,r3,q3,fc.start e3 p3⟩
   |brk σ3 h3=>rw[er] at p3;exact p3
   |ret m h3=>rw[er] at p3;exact p3
   |exc c h3=>rw[er] at p3;exact p3
   |stuck=>rw[er] at p3;exact p3
theorem t9{i:Nat}{rest:List Stmt}{ey:aF->MH->RS}(h2:gV X rest (lS ct yes E ey)):gV X rest (lS ct yes E λσ h=>(YC ((σ[i]?).join) λv=>(QM v h).st λx h1=>.next (σ.set i (some x)) h1).bind λσ1 h1=>ey σ1 h1):=gV.imp h2 λD σ H q=>by
 obtain⟨μ,h,σs,rel,aM,ra,p⟩:=q;dsimp only at p;cases e:(σs[i]?).join with
 |none=>rw[e] at p;exact p.elim
 |some m =>
  rw[e] at p;simp only[Ks] at p;have e':σs[i]?=some (some m):=by
   cases q:σs[i]? with
   |none=>rw[q] at e;cases e
   |some z=>rw[q] at e;exact congrArg some e
  obtain⟨v,ev,rv⟩:=aM.at_ i m e';cases ef:QM m h with
  |stuck=>rw[ef] at p;exact p.elim
  |exc c h' =>
   unfold QM at ef;cases ed:zP h m with
   |none=>rw[ed] at ef;cases ef
   |some x=>rw[ed] at ef;cases ef
  |ok x h' =>
   rw[ef] at p;simp only[R.st_ok,RS.k8] at p;have po:Po ct E (QM m h) μ h H λy μ1 h1 H1=>y=x/\h1=h':=by rw[ef];exactλμ' H' _ _=>⟨rfl,rfl⟩
   obtain⟨y,r8,gQ,av,oh,rfl,rfl⟩:=Kw rel rv po;refine⟨μ,r8,σs.set i (some (.f y)),av,?_,trivial,fc.start gQ p⟩;have r2:=(aM.ext gQ).set i oh;have:σ.set i (some v)=σ:=by
    apply vh;intro j;by_cases hj:i=j
    ·subst hj;rw[Xj (Xa.mp ev).1,ev]
    ·rw[ui hj]
   rw[this] at r2;exact r2
end
end
end SD
end
section
namespace SD
open PySem PySem.Spec PyProof.Rows L2 L3 M3 MP
noncomputable def FT(sc cs:az)(t:Str)(tp vp:Pos):Bool:=sc.names.lookup t==some .local&&tp.line==vp.line&&!(cs.names.any λ(n,k)=>n==t&&(k == .local||k == .cell))
theorem OF{env:Env}(kd:env.scope.kind=.function)(e:Expr)(gs:List jv)(cs:az)(vp:Pos)(t:Str)(tp:Pos)(l:Nat):bo (.ListComp e gs cs vp) (some (.Name t tp)) l env=pure (FT env.scope cs t tp vp):=by
 have hb:(env.blockKind==ScopeKind.function)=true:=by
  unfold Env.blockKind;rw[kd];rfl
 show(pure (env.blockKind == .function&&env.kindOf t==some .local&&tp.line==vp.line&&!(cs.names.any λ(n,k)=>n==t&&(k == .local||k == .cell))):Sem Bool)=_;rw[hb,Bool.true_and];rfl
noncomputable def FC:List Expr->Option (Str×Pos×Str×Pos)
 |[.Name x px,.Name y py]=>some (x,px,y,py)
 |_=>none
noncomputable def LI:Expr->Option (List Expr)
 |.Tuple es _ _=>some es
 |_=>none
noncomputable def Ci:Stmt->Option ((Str×Pos×Str×Pos)×Expr×Expr)
 |.Assign ts v _=>(uU ts).bind λt=>(LI t).bind λes=>(LI v).bind λvs=>(FC es).bind λp=>(rA vs).map λq=>(p,q)
 |_=>none
noncomputable def By:Expr->Option Str
 |.Name x _=>some x
 |_=>none
noncomputable def QcJ:Expr->Option (Str×Str)
 |.Call f [a] [] _=>(By f).bind λz=>(By a).map λn=>(z,n)
 |_=>none
noncomputable def A':Stmt->Option (Str×Str×Str)
 |.Assign [t] v _=>(By t).bind λy=>(QcJ v).map λq=>(y,q.1,q.2)
 |_=>none
noncomputable def HF(bd:List Stmt):ExceptHandler->Option (List Stmt×Str×Str×Str×Str×Str)
 |.ExceptHandler (some t) (some nm) [s] _=>(By t).bind λx=>(A' s).map λq=>(bd,x,nm,q)
 |_=>none
noncomputable def Gx:ME->Bool
 |.comp ..=>true
 |_=>false
noncomputable def De:Expr->Expr->Bool
 |.Tuple ..,.Tuple ..=>true
 |_,_=>false
section
variable (Pm:Prog)
mutual
noncomputable def AY(ms:MS)(N:List Str)(sc:az)(st:Stmt):Bool:=match ms,st with
 |.expr e,.Expr v _=>!(lX v)&&Qf Pm e N sc v
 |.ite c a b,.If t x y _=>iS c&&Qf Pm c N sc t&&Om a N sc x&&Om b N sc y
 |_,_=>false
noncomputable def Om(rN:List MS)(N:List Str)(sc:az)(iN:List Stmt):Bool:=match rN with
 |[]=>iN.isEmpty
 |m::ms=>match iN with
  |[st]=>ms.isEmpty&&AY m N sc st
  |_=>false
end
mutual
noncomputable def DO(ms:MS)(N:List Str)(sc:az)(st:Stmt):Bool:=match ms,st with
 |.set tg e,.Assign [t] v _=>YE oH N sc tg t&&Qf Pm e N sc v&&!(De t v)&&(if lX v then Gx e else true)
 |.fA o i e,.Assign [.Subscript x y _] v _=>Qf Pm e N sc v&&Qf Pm o N sc x&&Qf Pm i N sc y
 |.gi o n e,.Assign [.Attribute x m _] v _=>m==Str.ofString n&&Qf Pm e N sc v&&Qf Pm o N sc x
 |.nq o k,.Assign [.Subscript x y _] (.Constant (.bool b) _ _) _=>b&&Qf Pm o N sc x&&Qf Pm k N sc y
 |.expr e,.Expr v _=>!(lX v)&&Qf Pm e N sc v
 |.ret e,.Return (some v) _=>Qf Pm e N sc v
 |.ite c a b,.If t x y _=>iS c&&Qf Pm c N sc t&&QH a N sc x&&QH b N sc y
 |.for_ tg it src body,.For t iter bd [] _=>Ya iter&&YE oH N sc tg t&&QH body N sc bd &&
   (if it == "seq" then lh Pm src N sc iter else if it == "keys" then false else if it == "items" then false else if it == "enum1" then rg t sc iter&&lh Pm src N sc (oB iter) else oM t it iter&&gl sc (Str.ofString it)&&Zn Pm src N sc (qF iter))
 |.while_ c body,.While t bd [] _=>iS c&&Qf Pm c N sc t&&QH body N sc bd
 |.ic,_=>true
 |.pass,.Pass _=>true
 |_,_=>false
noncomputable def QH(rN:List MS)(N:List Str)(sc:az)(iN:List Stmt):Bool:=match rN with
 |[]=>iN.isEmpty
 |.nJ _::ms=>QH ms N sc iN
 |m::ms=>match iN with
  |st::iN=>DO m N sc st&&QH ms N sc iN
  |[]=>false
end
end
section
variable {ct:Tx} {Pm:Prog} {n:Nat}
section
variable {X:Cx} {E:XK} {N:List Str} {sc:az}
theorem Ys{st:Stmt}{ex nL:aF->MH->RS}{Ra:L2.St->Prop}(p:PS X st (lS ct Ra E ex))(h:∀ σ hh,nL σ hh=ex σ hh):PS X st (lS ct Ra E nL):=by
 have:nL=ex:=funext λσ=>funext λhh=>h σ hh;rw[this];exact p
theorem Ce{st:List Stmt}{ex nL:aF->MH->RS}{Ra:L2.St->Prop}(p:gV X st (lS ct Ra E ex))(h:∀ σ hh,nL σ hh=ex σ hh):gV X st (lS ct Ra E nL):=by
 have:nL=ex:=funext λσ=>funext λhh=>h σ hh;rw[this];exact p
theorem Yde(fz:Bool){i:Nat}{x:Str}{elt iter tg:Expr}{ifs:List Expr}{cs:az}{N':List Str}{bV:Nat}{js:List Nat}{it:String}{t:Tg}{es:aF->MH->R (List MV)}{tc:aF->MH->R Bool}{te:aF->MH->R MV}{pos tp vp:Pos}(c:Cs X Pm ct n E N sc)(CQ:X.N[i]?=some x)(hx:Loc X.env.scope x)
  (aR:QF X.env.scope X.N cs N' bV js=true) (hi:PI X tg iter (lI ct yes E es it)) (hg:∀ C s3 H ex,PG (ia X cs N' C s3 H ex) tg (lG ct t)) (nH:∀ C s3 H ex,lL (ia X cs N' C s3 H ex) ifs (lT ct (λ_=>True) E0 tc)) (jI:∀ C s3 H ex,PE (ia X cs N' C s3 H ex) elt (lE ct (λ_=>True) E0 te)) (cF:Ya iter=true)
  (Ab:bo (.ListComp elt [⟨tg,iter,ifs,0⟩] cs vp) (some (.Name x tp)) pos.line X.env=pure true) :
  PS X (.Assign [.Name x tp] (.ListComp elt [⟨tg,iter,ifs,0⟩] cs vp) pos) (lS ct yes E λσ h=>((es σ h).bind λxs h1=>opt (fP it xs h1) λp=>(Yl p.2 (ql t tc te) p.1 [] (MP.stM bV js σ) h1).bind λacc h3=>Qt fz acc h3).st λv h1=>YC (yO (.nm i) v σ) λσ1=>.next σ1 h1):=by
 refine PS.imp (YcU c.cc.nd CQ hx N' bV js aR c.cc.calm hi hg nH jI Ab (ZT cF) (.inl (c.fn x))) λD σ H q=>?_;obtain⟨μ,h,σs,rel,aM,ra,p⟩:=q;refine NK fz σ H _ (lE.st (ev:=λσ h=>(es σ h).bind λxs h1=>opt (fP it xs h1) λp=>(Yl p.2 (ql t tc te) p.1 [] (MP.stM bV js σ) h1).bind λacc h3=>Qt fz acc h3) rel aM ra p λm v μ1 h1 H1 ex av aV rv p1=>?_);obtain⟨σ1,e,p2⟩:=fc.opt p1;simp only[yO,Option.some.injEq] at e;subst e;exact p2 μ1 H1 _ (Ext.refl _ _ _) av (aV.set i rv)
theorem qbw{t v:Expr}{env:Env}{lo:Str->Bool}{tg:Tg}(ht:YE lo N sc tg t=true)(hv:De t v=false):fV [t] v env=pure none:=by
 cases tg with
 |nm i =>
  cases t with
  |Name x p=>cases v <;> rfl
  |_=>simp[YE] at ht
 |tp ts =>
  cases t with
  |Tuple es k p=>cases v <;> first|rfl|(exact Wj hv)
  |_=>simp[YE] at ht
theorem Zdc{tg:Tg}{me:ME}{t v:Expr}{pos:Pos}(c:Cs X Pm ct n E N sc)(h1:YE oH N sc tg t=true)(h2:Qf Pm me N sc v=true)(h3:De t v=false)(h4:(if lX v=true then Gx me else true)=true) :
  PS X (.Assign [t] v pos) (lS ct yes E λσ h=>(ya Pm (run Pm n) me σ h).st λv h1=>YC (yO tg v σ) λσ1=>.next σ1 h1):=by
 by_cases hs:bo v (some t) pos.line X.env=pure false
 ·exact tZ c h1 (sB me c.cc v h2).1 hs (qbw h1 h3)
 ·cases hl:lX v with
  |false=>exact absurd (GI hl) hs
  |true =>
   rw[hl] at h4;cases me with
   |comp fz elt oP it src cond bV js =>
    have MO:=h2;have h:=qc h2;cases v with
    |ListComp x gs cs p =>
     rcases gs with _|⟨⟨t',iter,ifs,a⟩,_|⟨g2,gs⟩⟩
     ·exact ff h
     ·have h:((a==0)&&Ya iter&&QF sc N cs (lj oP t'++js.filterMap λj=>N[j]?) bV js&&decide (lj oP t'++js.filterMap λj=>N[j]?).Nodup&&YE (oZ cs) (lj oP t'++js.filterMap λj=>N[j]?) (ZL cs sc) oP t'&&Qf Pm elt (lj oP t'++js.filterMap λj=>N[j]?) (ZL cs sc) x&&nP Pm cond (lj oP t'++js.filterMap λj=>N[j]?) (ZL cs sc) ifs&&(if it == "seq" then lh Pm src N sc iter else if it == "enum1" then rg t' sc iter&&lh Pm src N sc (oB iter) else oM t' it iter&&gl sc (Str.ofString it)&&Zn Pm src N sc (qF iter)))=true:=h;simp only[Wa,beq_iff_eq,decide_eq_true_eq] at h;obtain⟨⟨⟨⟨⟨⟨⟨ha,k1⟩,k2⟩,k3⟩,k4⟩,k5⟩,k6⟩,k7⟩:=h;subst ha;have hi:PI X t' iter (lI ct yes E (Qh Pm (run Pm n) src) it):=by
       split at k7
       next hs=>subst hs;exact F3 src c.cc t' iter k7
       next hs =>
        split at k7
        next kY =>
         subst kY;simp only[Wa] at k7;exact F0 src c.cc t' iter k7.1 k7.2
        next =>
         simp only[Wa] at k7;exact Ei c.cc k7.1.1 k7.1.2 (kT src c.cc (qF iter) k7.2)
      cases t with
      |Name y tp =>
       cases tg with
       |nm i =>
        simp only[YE,oS,Wa,beq_iff_eq,Xn] at h1;rw[OF c.kd] at hs;have Ab:FT X.env.scope cs y tp p=true:=by
         cases e:FT X.env.scope cs y tp p with
         |true=>rfl
         |false=>rw[e] at hs;exact absurd rfl hs
        have hx:Loc X.env.scope y:=by
         rw[c.cc.sc]
         rcases h1.2 with z|⟨_,z⟩
         ·exact .inl z
         ·exact .inr z
        refine Ys (Yde fz (tp:=tp) c (by rw[c.cc.nm];exact h1.1) hx (by rw[c.cc.sc,c.cc.nm];exact k2) hi (λC s3 H ex=>sG rfl (c.cc.comp k3 C s3 H ex).sc k3 c.cc.calm (λ_ z=>z) oP t' k4) (λC s3 H ex=>Lv cond (c.cc.comp k3 C s3 H ex) ifs k6) (λC s3 H ex=>(sB elt (c.cc.comp k3 C s3 H ex) x k5).1) k1 (by rw[OF c.kd,Ab])) λσ hh=>?_;simp only[ya]
       |tp ts=>simp[YE] at h1
      |_=>exact absurd (tS (by intro x p z;cases z)) hs
     ·exact ff h
    |_=>first|exact Wj hl|exact ff h
   |_=>exact Wj h4
end
mutual
theorem sS:∀(ms:MS){X:Cx}{E:XK}{N:List Str}{sc:az} (c:Cs X Pm ct n E N sc) (st:Stmt),DO Pm ms N sc st=true->PS X st (lS ct yes E (YA Pm (run Pm n) ms))
 |.set tg e,X,E,N,sc,c,st,h=>by
  cases st with
  |Assign ts v p =>
   rcases ts with _|⟨t,_|⟨t2,ts⟩⟩
   ·exact ff h
   ·have h:(YE oH N sc tg t&&Qf Pm e N sc v&&!(De t v)&&(if lX v then Gx e else true))=true:=h;simp only[Wa,Wq] at h;obtain⟨⟨⟨h1,h2⟩,h3⟩,h4⟩:=h;exact Ys (Zdc c h1 h2 h3 h4) λσ hh=>by simp only[YA]
   ·exact ff h
  |_=>exact ff h
 |.fA o i e,X,E,N,sc,c,st,h=>by
  cases st with
  |Assign ts v p =>
   rcases ts with _|⟨t,_|⟨t2,ts⟩⟩
   ·exact ff h
   ·cases t with
    |Subscript x y p2 =>
     have h:(Qf Pm e N sc v&&Qf Pm o N sc x&&Qf Pm i N sc y)=true:=h;simp only[Wa] at h;obtain⟨⟨h1,h2⟩,h3⟩:=h;exact Ys (QcD (sB e c.cc v h1).1 (sB o c.cc x h2).1 (sB i c.cc y h3).1 (zo h3)) λσ hh=>by simp only[YA] <;> rfl
    |_=>exact ff h
   ·cases t <;> exact ff h
  |_=>exact ff h
 |.nq o k,X,E,N,sc,c,st,h=>by
  cases st with
  |Assign ts v p =>
   rcases ts with _|⟨t,_|⟨t2,ts⟩⟩
   ·exact ff h
   ·cases t with
    |Subscript x y p2 =>
     cases v with
     |Constant kk j p3 =>
      cases kk with
      |bool b =>
       have h:(b&&Qf Pm o N sc x&&Qf Pm k N sc y)=true:=h;simp only[Wa] at h;obtain⟨⟨rfl,h2⟩,h3⟩:=h;exact Ys (Zc4 c.cc.units (sB o c.cc x h2).1 (sB k c.cc y h3).1) λσ hh=>by simp only[YA] <;> rfl
      |_=>exact ff h
     |_=>exact ff h
    |_=>exact ff h
   ·cases t <;> exact ff h
  |_=>exact ff h
 |.ic,X,E,N,sc,c,st,h=>λpins s σ H D I q=>by
  obtain⟨μ,hh,σs,rel,aM,ra,p⟩:=q;simp only[YA] at p;exact p.elim
 |.par i j a b,X,E,N,sc,c,st,h=>ff h
 |.gi o f e,X,E,N,sc,c,st,h=>by
  cases st with
  |Assign ts v p =>
   rcases ts with _|⟨t,_|⟨t2,ts⟩⟩
   ·exact ff h
   ·cases t with
    |Attribute x m p2 =>
     have h:(m==Str.ofString f&&Qf Pm e N sc v&&Qf Pm o N sc x)=true:=h;simp only[Wa,beq_iff_eq] at h;obtain⟨⟨rfl,h2⟩,h3⟩:=h;exact Ys (qcC c.cc.txt (sB e c.cc v h2).1 (sB o c.cc x h3).1) λσ hh=>by simp only[YA] <;> rfl
    |_=>exact ff h
   ·cases t <;> exact ff h
  |_=>exact ff h
 |.expr e,X,E,N,sc,c,st,h=>by
  cases st with
  |Expr v p =>
   have h:(!(lX v)&&Qf Pm e N sc v)=true:=h;simp only[Wa,Wq] at h;exact Ys (Qdg (sB e c.cc v h.2).1 h.1) λσ hh=>by simp only[YA]
  |_=>exact ff h
 |.ret e,X,E,N,sc,c,st,h=>by
  cases st with
  |Return v p =>
   cases v with
   |some v=>exact Ys (t6 (sB e c.cc v (show Qf Pm e N sc v=true from h)).1) λσ hh=>by simp only[YA]
   |none=>exact ff h
  |_=>exact ff h
 |.ite d a b,X,E,N,sc,c,st,h=>by
  cases st with
  |If t x y p =>
   have h:(iS d&&Qf Pm d N sc t&&QH Pm a N sc x&&QH Pm b N sc y)=true:=h;simp only[Wa] at h;obtain⟨⟨⟨h0,h1⟩,h2⟩,h3⟩:=h;exact Ys (FY ((sB d c.cc t h1).2 h0) (og a c x h2) (og b c y h3)) λσ hh=>by simp only[YA]
  |_=>exact ff h
 |.for_ tg it src body,X,E,N,sc,c,st,h=>by
  cases st with
  |For t iter bd oe p =>
   cases oe with
   |cons _ _=>exact ff h
   |nil =>
    have h:(Ya iter&&YE oH N sc tg t&&QH Pm body N sc bd&&(if it == "seq" then lh Pm src N sc iter else if it == "keys" then false else if it == "items" then false else if it == "enum1" then rg t sc iter&&lh Pm src N sc (oB iter) else oM t it iter&&gl sc (Str.ofString it)&&Zn Pm src N sc (qF iter)))=true:=h;simp only[Wa] at h;obtain⟨⟨⟨h1,h2⟩,h3⟩,h4⟩:=h;have hi:PI X t iter (lI ct yes E (Qh Pm (run Pm n) src) it):=by
     split at h4
     next hs =>
      have Ad:it="seq":=by simpa using hs
      subst Ad;exact F3 src c.cc t iter h4
     next hs =>
      split at h4
      next kY =>
       have Ad:it="keys":=by simpa using kY
       subst Ad;exact ff h4
      next =>
       split at h4
       next hs4 =>
        exact ff h4
       next =>
       split at h4
       next hs3 =>
        have Ad:it="enum1":=by simpa using hs3
        subst Ad;simp only[Wa] at h4;exact F0 src c.cc t iter h4.1 h4.2
       next =>
        simp only[Wa] at h4;exact Ei c.cc h4.1.1 h4.1.2 (kT src c.cc (qF iter) h4.2)
    exact Ys (uG c hi h2 (og body c bd h3) h1) λσ hh=>by simp only[YA]
  |_=>exact ff h
 |.while_ d body,X,E,N,sc,c,st,h=>by
  cases st with
  |While t bd oe p =>
   cases oe with
   |cons _ _=>exact ff h
   |nil =>
    have h:(iS d&&Qf Pm d N sc t&&QH Pm body N sc bd)=true:=h;simp only[Wa] at h;obtain⟨⟨h0,h1⟩,h2⟩:=h;exact Ys (qcG c ((sB d c.cc t h1).2 h0) (og body c bd h2) Pm.turns) λσ hh=>by simp only[YA]
  |_=>exact ff h
 |.pass,X,E,N,sc,c,st,h=>by
  cases st with
  |Pass p=>exact Ys zdi λσ hh=>by simp only[YA]
  |_=>exact ff h
 |.nJ i,X,E,N,sc,c,st,h=>by
  exact ff h
theorem og:∀(rN:List MS){X:Cx}{E:XK}{N:List Str}{sc:az} (c:Cs X Pm ct n E N sc) (iN:List Stmt),QH Pm rN N sc iN=true->gV X iN (lS ct yes E (qa Pm (run Pm n) rN))
 |[],X,E,N,sc,c,iN,h=>by
  cases iN with
  |nil=>exact Ce t8 λσ hh=>by simp only[qa]
  |cons _ _=>exact ff h
 |m::ms,X,E,N,sc,c,iN,h=>by
  cases m with
  |nJ i=>exact Ce (t9 (i:=i) (og ms c iN h)) λσ hh=>by simp only[qa,YA]
  |ic =>
   cases iN with
   |nil=>exact ff h
   |cons st iN =>
    have h2:QH Pm ms N sc iN=true:=h;exact Ce (KG (sS .ic c st rfl) (og ms c iN h2)) λσ hh=>by simp only[qa]
  |_ =>
   cases iN with
   |nil=>exact ff h
   |cons st iN =>
    first
    |(have h:(DO Pm _ N sc st&&QH Pm ms N sc iN)=true:=h;simp only[Wa] at h;exact Ce (KG (sS _ c st h.1) (og ms c iN h.2)) λσ hh=>by simp only[qa])
    |exact ff h
end
end
end SD
end
section
namespace SD
open PySem PySem.Spec PyProof.Rows L2 L3 M3 MP
noncomputable def yi(Pm:Prog)(d:aY)(N ps:List Str)(st:Stmt):Bool :=
 (qb st).kind == .function&&!(qb st).isCoroutine&&!(qb st).isGenerator&&decide N.Nodup&&decide (N.take ps.length=ps)&&ps.all (λx=>(qb st).names.lookup x==some .local||(qb st).names.lookup x==some .cell) &&
  (qb st).names.all (λy=>y.2 != .free)&&d.np==ps.length&&d.ns==N.length&&QH Pm d.body N (qb st) (Yf st)
section
variable {P:aj} {w:World} {K:PySem.W.Frag} {mg:Str->Option aa} {base:Heap} {Pm:Prog} {ct:Tx} {n:Nat} {d:aY} {N ps:List Str} {st:Stmt} {f:String}
theorem qT(h:yi Pm d N ps st=true):gW N ps (qb st)/\d.np=ps.length/\d.ns=N.length/\QH Pm d.body N (qb st) (Yf st)=true:=by
 unfold yi at h;simp only[Wa,beq_iff_eq,Wq,decide_eq_true_eq,vo,Xn,bne_iff_ne,ne_eq] at h;obtain⟨⟨⟨⟨⟨⟨⟨⟨⟨h1,h2⟩,h3⟩,h4⟩,h5⟩,h6⟩,h7⟩,h8⟩,h9⟩,h10⟩:=h;exact⟨⟨h1,h2,h3,h4,h5,h6,h7⟩,h8,h9,h10⟩
theorem Kg{ms:List MV}{h:MH}{r:R MV}(hd:Pm.defs f=some d)(e:MP.run Pm (n+1) f ms h=r)(hr:r≠.stuck):ms.length=d.np/\r=yb h (qa Pm (MP.run Pm n) d.body (ms.map some++uc (d.ns-d.np) none) h):=by
 simp only[MP.run,hd,yd] at e;split at e
 next c=>exact⟨c,e.symm⟩
 next=>exact absurd e.symm hr
theorem Ds(hd:Pm.defs f=some d)(hn:d.np=ps.length):∀ vs H Q E,kC ct (MP.run Pm (n+1) f) vs H Q E->vs.length=ps.length:=by
 intro vs H Q E ⟨μ,h,ms,rel,eI,p⟩;cases er:MP.run Pm (n+1) f ms h with
 |stuck=>rw[er] at p;exact p.elim
 |ok x h'=>rw[eI.length,(Kg hd er (λz=>nomatch z)).1,hn]
 |exc c h'=>rw[eI.length,(Kg hd er (λz=>nomatch z)).1,hn]
theorem Ek(T:Txt P w K mg base Pm ct n)(hK:K=ct.K)(hd:Pm.defs f=some d)(hb:yi Pm d N ps st=true)(qual:Str)(fa:ae)(dF:aa)(A:aw)(outer:List Env)(s:af)(H:Hp)(vs:List V)(Q:VK)(E:XK)
  (hr:dj (2*n+1) (A.deeper (eB qual (qb st) s.heap.objs.size fa dF))) (j':kC ct (MP.run Pm (n+1) f) vs H Q E) :
  ∃ t,gV (lu (jN P w) P w K mg base N qual (qb st) fa dF A outer s H E) (Yf st) t/\t {nx:=λ_ H'=>Q .bI H',rt:=Q} (L2.start N vs) H:=by
 obtain⟨S,hn,hs,hc⟩:=qT hb;have cs:Cs (lu (jN P w) P w K mg base N qual (qb st) fa dF A outer s H E) Pm ct n E N (qb st) :=
  ⟨⟨T,rfl,hr,λσ _ pins H s e s' I h=>Yca rfl NZ pins σ H s e s' I h,rfl,rfl,S.nd,hK⟩,rfl,zcG,NZ,λ_=>rfl,S.kind,rfl,rfl⟩
 refine⟨_,og d.body cs (Yf st) hc,?_⟩;obtain⟨μ,h,ms,rel,eI,p⟩:=j';have hlen:=Ds hd hn vs H Q E ⟨μ,h,ms,rel,eI,p⟩;have Ag:ms.length=d.np:=by rw[<- eI.length,hlen,hn]
 refine⟨μ,h,ms.map some++uc (d.ns-d.np) none,rel,?_,trivial,?_⟩
 ·refine⟨by unfold L2.start;simp[eI.length,Ag,hs],λi m e=>?_⟩;by_cases hi:i<ms.length
  ·rw[va (by simpa using hi),wc] at e;cases em:ms[i]? with
   |none=>rw[em] at e;cases e
   |some m' =>
    rw[em] at e;simp only[wg,Option.some.injEq] at e;subst e;obtain⟨v,ev,rv⟩:=eI.get em;refine⟨v,?_,rv⟩;unfold L2.start;rw[va (by rw[xc,eI.length];exact hi),wc,ev];rfl
  ·rw[Ud (by simpa using hi),vq] at e;split at e <;> cases e
 ·have er:MP.run Pm (n+1) f ms h=yb h (qa Pm (MP.run Pm n) d.body (ms.map some++uc (d.ns-d.np) none) h):=by
   simp only[MP.run,hd,yd,if_pos Ag]
  rw[er] at p;cases ex:qa Pm (MP.run Pm n) d.body (ms.map some++uc (d.ns-d.np) none) h with
  |next σ' h' =>
   rw[ex] at p;intro μ' H' σ e1 r1 q1;obtain⟨ν,rfl⟩:=e1.pre;exact Nn rel e1 r1 Dy p
  |ret m h' =>
   rw[ex] at p;intro μ' H' v e1 r1 rv;obtain⟨ν,rfl⟩:=e1.pre;exact Nn rel e1 r1 rv p
  |exc c h' =>
   rw[ex] at p;intro μ' H' e1 r1;obtain⟨ν,rfl⟩:=e1.pre;exact Ycd rel e1 r1 p
  |brk σ' h'=>rw[ex] at p;exact p.elim
  |cnt σ' h'=>rw[ex] at p;exact p.elim
  |stuck=>rw[ex] at p;exact p.elim
theorem Yb4(T:Txt P w K mg base Pm ct n)(hK:K=ct.K)(S:Src K mg (Str.ofString f) st ps)(hd:Pm.defs f=some d)(hb:yi Pm d N ps st=true):sP P w K mg base (Str.ofString f) (2*(n+1)) ps (kC ct (MP.run Pm (n+1) f)) :=
 qdf (k:=2*n+1) S (qT hb).1 (Ds hd (qT hb).2.1) λfa dF A outer s H vs Q E hr j'=>Ek T hK hd hb _ fa dF A outer s H vs Q E hr j'
theorem Jt{x qual:Str}{fa:ae}{fd:bu}(T:Txt P w K mg base Pm ct n)(hK:K=ct.K)(F:rn K x qual st fa fd)(hd:Pm.defs f=some d)(hb:yi Pm d N ps st=true):fu P w K mg base (jN P w) (2*(n+1)) fa fd ps (kC ct (MP.run Pm (n+1) f)):=by
 obtain⟨oc,od,kV,doc,pm,an,dF,jr,jk,rfl,lk,jq⟩:=F.ex;exact BD (k:=2*n+1) lk jq (qT hb).1 (Ds hd (qT hb).2.1) λA outer s H vs Q E hr j'=>Ek T hK hd hb _ fa dF A outer s H vs Q E hr j'
theorem yb4{x qual:Str}{fa:ae}{fd:bu}(T:Txt P w K mg base Pm ct n)(hK:K=ct.K)(F:nW K x qual st fa fd)(hd:Pm.defs f=some d)(hb:yi Pm d N ps st=true):fu P w K mg base (jN P w) (2*(n+1)) fa fd ps (kC ct (MP.run Pm (n+1) f)):=by
 obtain⟨oc,od,dV,kV,doc,pm,an,dF,jr,jk,rfl,lk,jq⟩:=F.ex;exact BD (k:=2*n+1) lk jq (qT hb).1 (Ds hd (qT hb).2.1) λA outer s H vs Q E hr j'=>Ek T hK hd hb _ fa dF A outer s H vs Q E hr j'
end
theorem ln0{α:Type}{us:List α}(h:us.length=0):us=[]:=Wo h
theorem wR{α:Type}{n:Nat}{us:List α}(h:us.length=n+1):∃ a vs,us=a::vs/\vs.length=n:=by
 cases us with
 |nil=>cases h
 |cons a vs=>exact⟨a,vs,rfl,Nat.succ.inj h⟩
theorem l4{α:Type}{us:List α}(h:us.length=1):∃ a,us=[a]:=by obtain⟨a,vs,rfl,h2⟩:=wR h;rw[ln0 h2];exact⟨a,rfl⟩
theorem ln2{α:Type}{us:List α}(h:us.length=2):∃ a b,us=[a,b]:=by obtain⟨a,vs,rfl,h2⟩:=wR h;obtain⟨b,rfl⟩:=l4 h2;exact⟨a,b,rfl⟩
theorem kE{α:Type}{us:List α}(h:us.length=3):∃ a b c,us=[a,b,c]:=by obtain⟨a,vs,rfl,h2⟩:=wR h;obtain⟨b,c,rfl⟩:=ln2 h2;exact⟨a,b,c,rfl⟩
theorem GV{α:Type}{us:List α}(h:us.length=4):∃ a b c d,us=[a,b,c,d]:=by obtain⟨a,vs,rfl,h2⟩:=wR h;obtain⟨b,c,d,rfl⟩:=kE h2;exact⟨a,b,c,d,rfl⟩
theorem GU{α:Type}{us:List α}(h:us.length=5):∃ a b c d e,us=[a,b,c,d,e]:=by obtain⟨a,vs,rfl,h2⟩:=wR h;obtain⟨b,c,d,e,rfl⟩:=GV h2;exact⟨a,b,c,d,e,rfl⟩
noncomputable def Bx(P:String->aY->Prop):List (String×aY)->Prop
 |[]=>True
 |p::r=>P p.1 p.2/\Bx P r
theorem Oi{P:String->aY->Prop}{f:String}{d:aY}:∀{L:List (String×aY)},Bx P L->L.lookup f=some d->P f d
 |[],_,h=>by cases h
 |(g,e)::r,⟨a,b⟩,h=>by
  rw[Xb] at h;cases hb:f==g with
  |true =>
   rw[hb] at h;cases h;rw[show f=g by simpa using hb];exact a
  |false =>
   rw[hb] at h;exact Oi b h
noncomputable def BK(K:PySem.W.Frag)(mg:Str->Option aa)(Pm:Prog)(ct:Tx)(f:String)(ps:List Str):Prop :=
 ∀(P:aj)(w:World)(base:Heap)(n:Nat),K.In base->(ct.cd≠0->jL mg base ct.cd ct.tb)->sP P w K mg base (Str.ofString f) (2*(n+1)) ps (kC ct (MP.run Pm (n+1) f))
structure Text (K:PySem.W.Frag) (mg:Str->Option aa) (Pm:Prog) (ct:Tx):Prop where
 hK:K=ct.K
 defs:∀ f d,Pm.defs f=some d->f.toList.contains '.'=false->∃ st N ps,Src K mg (Str.ofString f) st ps/\(yi Pm d N ps st=true\/BK K mg Pm ct f ps)
 kG:∀ c f,Pm.meths c "__init__"=some f->∃ d st N ps fa fd x qual,Pm.defs f=some d/\Mk K (ct c) fa/\rn K x qual st fa fd/\Binds K fd ps []/\mg (Str.ofString c)=some (.ref (ct c))/\yi Pm d N ps st=true
 ie:∀ x∈dW++dB++bw++["range","zip","enumerate","isinstance","sorted","reversed"],mg (Str.ofString x)=none
 iG:∀ c f,Pm.iG c f=true->lg K (ct c)/\fG K (ct c) (Str.ofString f)
 cls:∀ c t b,Pm.subs c t=some b->oF K (ct c)
 lQ:∀ c t b,Pm.subs c t=some b->bw.contains t=false->mg (Str.ofString t)=some (.ref (ct t))/\Wg K (.ref (ct c)) (.ref (ct t))=some b
 m8:∀ c t b,Pm.subs c t=some b->bw.contains t=true->Wg K (.ref (ct c)) (.type t)=some b
 BX:∀ t c b,Pm.subs c t=some b->bw.contains t=false->∀ T∈["NoneType","bool","int","str","list","tuple"],Wg K (.type T) (.ref (ct t))=some false
 km:∀ c,Pm.km c=true->mr K (ct c)/\mg (Str.ofString c)=some (.ref (ct c))
 words:∀ wd,Pm.words wd=true->mr K (ct "DotError")/\mg "DotError"=some (.ref (ct "DotError"))/\(∀(P:aj)(w:World)(base:Heap),∃ ps,LC P w K mg base (Str.ofString wd) 1 ps (Lp ct Pm wd)) /\
  ∀ c s,Pm.word wd c=some s->mr K (ct c)/\(Dk K (ct c)).contains (.ref (ct "DotError"))=true
 kS:∀ t,Pm.kS t=true->(if t="ValueError" then mg "ValueError"=none else mg (Str.ofString t)=some (.ref (ct t)))
 xs:∀ c t b,Pm.kA c t=some b->Bt K (ct c)/\Wg K (.ref (ct c)) (if t="ValueError" then .type "ValueError" else .ref (ct t))=some b
 sd:∀ f ds,Pm.sd f ds=true->∃ d st N ps fa fd gR,Pm.defs f=some d/\nW K (Str.ofString f) (Str.ofString f) st fa fd/\Binds K fd ps gR/\Vals (ds.map V.int) gR/\mg (Str.ofString f)=some (.ref fa)/\yi Pm d N ps st=true
 meths:∀ c m f,Pm.meths c m=some f->m≠"__init__"->lg K (ct c)/\∃ d st N ps fa fd x qual,Pm.defs f=some d/\Meth K (ct c) (Str.ofString m) fa/\rn K x qual st fa fd/\Binds K fd ps []/\yi Pm d N ps st=true
 l0:∀ c,Pm.l0 c=true->DI K (ct c)/\mg (Str.ofString c)=some (.ref (ct c))
 dy:∀ x i,Pm.dy x=some (.int i)->∃ t,mg (Str.ofString x)=some (.int i t)
 oN:Pm.xt=true->mr K (ct "DotError")/\mg "DotError"=some (.ref (ct "DotError"))/\∀ c b,Pm.kA c c=some b->mr K (ct c)/\(Dk K (ct c)).contains (.ref (ct "DotError"))=true
theorem n9{ct:Tx}{Pm:Prog}{f:String}{vs:List V}{H:Hp}{Q:VK}{E:XK}(h:kC ct (MP.run Pm 0 f) vs H Q E):False:=by
 obtain⟨μ,h,ms,rel,eI,p⟩:=h;exact p
theorem Bh{P:aj}{w:World}{K:PySem.W.Frag}{mg:Str->Option aa}{base:Heap}{Pm:Prog}{ct:Tx}(T:Text K mg Pm ct)(kb:K.In base)(lb:ct.cd≠0->jL mg base ct.cd ct.tb):∀ n,Txt P w K mg base Pm ct n
 |0=>⟨λf d hd eu=>by
   obtain⟨st,N,ps,⟨fa,fd,F,b,m⟩,hb⟩:=T.defs f d hd eu;exact⟨ps,fa,fd,⟨λvs H Q E h=>(n9 h).elim,λA outer s H args us vs Q E _ _ _ _ h=>(n9 h).elim⟩,b,F.kp,m⟩,
  λc f hi=>by
   obtain⟨d,st,N,ps,fa,fd,x,qual,hd,M,F,b,m,hb⟩:=T.kG c f hi;exact⟨ps,fa,fd,M,⟨λvs H Q E h=>(n9 h).elim,λA outer s H args us vs Q E _ _ _ _ h=>(n9 h).elim⟩,b,m⟩,
  T.ie,T.iG,T.cls,T.lQ,T.m8,T.BX,T.km,λwd hw=>let ⟨a,b,c,d⟩:=T.words wd hw;⟨a,b,c P w base,d⟩,T.kS,T.xs,λf ds hf=>let ⟨d,st,N,ps,fa,fd,gR,hd,F,b,vd,m,hb⟩:=T.sd f ds hf;⟨ps,fa,fd,gR,⟨λvs H Q E h=>(n9 h).elim,λA outer s H args us vs Q E _ _ _ _ h=>(n9 h).elim⟩,b,vd,F.kp,m⟩,T.oN,λc m f hm hi=>by
   obtain⟨cl,d,st,N,ps,fa,fd,x,qual,hd,M,F,b,hb⟩:=T.meths c m f hm hi;exact⟨cl,fa,fd,ps,M,⟨λvs H Q E h=>(n9 h).elim,λA outer s H args us vs Q E _ _ _ _ h=>(n9 h).elim⟩,b⟩,T.l0,T.dy⟩
 |n+1=>⟨λf d hd eu=>by
   obtain⟨st,N,ps,S,hb⟩:=T.defs f d hd eu;exact⟨ps,hb.elim (λhb=>Yb4 (Bh T kb lb n) T.hK S hd hb) λhp=>hp P w base n kb lb⟩,
  λc f hi=>by
   obtain⟨d,st,N,ps,fa,fd,x,qual,hd,M,F,b,m,hb⟩:=T.kG c f hi;exact⟨ps,fa,fd,M,Jt (Bh T kb lb n) T.hK F hd hb,b,m⟩,
  T.ie,T.iG,T.cls,T.lQ,T.m8,T.BX,T.km,λwd hw=>let ⟨a,b,c,d⟩:=T.words wd hw;⟨a,b,c P w base,d⟩,T.kS,T.xs,λf ds hf=>let ⟨d,st,N,ps,fa,fd,gR,hd,F,b,vd,m,hb⟩:=T.sd f ds hf;⟨ps,fa,fd,gR,yb4 (Bh T kb lb n) T.hK F hd hb,b,vd,F.kp,m⟩,T.oN,λc m f hm hi=>by
   obtain⟨cl,d,st,N,ps,fa,fd,x,qual,hd,M,F,b,hb⟩:=T.meths c m f hm hi;exact⟨cl,fa,fd,ps,M,Jt (Bh T kb lb n) T.hK F hd hb,b⟩,T.l0,T.dy⟩
end SD
end
section
namespace SD
open PySem PySem.Spec PyProof.Rows L2 L3 M3 MP
section
variable {K:PySem.W.Frag} {t C:ae} {cd:dG}
theorem rK{b:Bool}(s0:Xg K (.ref t) (.ref t)=some true)(ci:Wl K C=some cd)(ty:uj K (.ref C)=some (.type "type"))(s:Xg K (.ref t) (.ref C)=some b):Wg K (.ref t) (.ref C)=some b:=by
 unfold Wg PySem.W.kitCls;by_cases ne:(aa.ref t==aa.ref C)=true
 ·have e':aa.ref t=aa.ref C:=eq_of_beq ne;rw[if_pos ne];rw[e'] at s0 s;rw[s0] at s;exact s
 rw[if_neg ne];show(if((Wl K C).isSome&&uj K (.ref C)==some (.type "type"))=true then Xg K (.ref t) (.ref C) else none)=some b;rw[ci,ty,if_pos (by rfl),s]
theorem rJ{T:String}(m:Xg K (.type T) (.ref C)=some false)(ci:Wl K C=some cd)(ty:uj K (.ref C)=some (.type "type")):Wg K (.type T) (.ref C)=some false:=by
 unfold Wg PySem.W.kitCls;rw[if_neg (λe=>by have e':aa.type T=aa.ref C:=eq_of_beq e;cases e')];show(if((Wl K C).isSome&&uj K (.ref C)==some (.type "type"))=true then Xg K (.type T) (.ref C) else none)=some false;rw[ci,ty,if_pos (by rfl),m]
theorem rz(C:ae):∀ T∈["NoneType","bool","int","str","list","tuple"],Xg K (.type T) (.ref C)=some false:=by
 intro T hT;simp only[ua,Vc,or_false] at hT
 rcases hT with rfl|rfl|rfl|rfl|rfl|rfl <;> rfl
end
theorem aI{K:PySem.W.Frag}{h:Heap}{mg:Str->Option aa}{x:Str}{st:Stmt}{ps:List Str}{f:ae}{oc:aa}{od an:Option ae}{jk:Array (Option aa)}{kV doc pm dF ct:aa}(X:K.In h)(G:h.Ns ao mg)
  (hb:∀(kV doc pm:aa)(an:Option ae)(dF ct:aa)(us:List aa),us.length=ps.length->bindArgs (Ve x x (Yi st) (Yf st) (qb st) .none kV doc pm an dF ct) ⟨us,[]⟩=pure (ps.zip us))
  (a:Xe K ao x=some (some (.ref f))) (l:K.lookup f=some ⟨oc,od,.func (Ve x x (Yi st) (Yf st) (qb st) .none kV doc pm an dF ct),jk⟩)
  (c:xg K dF x=true) (k:we K (.ref f)=true):Src K mg x st ps :=
 ⟨f,_,qcE (st:=st) l c k,(yK (st:=st) l c k).binds hb,ug X G a⟩
end SD
end
section
namespace SD
open PySem PySem.Spec PyProof.Rows L2 L3 M3 MP
noncomputable def BE(H:Hp)(tb:ae)(lp:Pos):Prop:=H tb=some (.ext (QK tb lp none))/\∀ b,b≠tb->H b=none\/∃ o xs,H b=some (.e8 o (.lst xs))
noncomputable def QT(tb:ae)(lp:Pos):VK:=λv H'=>v=.bl true/\∃ oc,H' tb=some (.ext (QK tb lp oc))
theorem qcd{P:aj}{w:World}{K:PySem.W.Frag}{mg mb:Str->Option aa}{CX:kQ}{k:Nat}{fa a:ae}{fd:bu}{x:Str}{sp:Sp}{s₁:af}{vs:List aa}{ns:List Int}{cd tb:ae}{lp:Pos}
  (KX:K.In s₁.heap) (ot:s₁.heap.Ns ao mg) (hb:s₁.heap.Ns builtinsNs mb) (hbb:∀ x:Str,x≠"__name__"->mb x=bD x) (pG:s₁.heap.NoLimit) (hg:s₁.gens=#[])
  (ha:s₁.heap.get? a=some {cls:=.type "list",data:=.seq vs.toArray}) (hi:fM vs ns) (hl:ns.length<=sizeLine) (hr:dj k fK)
  (L:jL mg s₁.heap cd tb) (ht:s₁.heap.get? tb=some (WC #[])) (hK:K.lookup tb=none)
  (F:∀ base:Heap,K.In base->base.Ns ao mg->jL mg base cd tb->fu P w K mg base CX k fa fd [x] sp) (Aq:∀(s:af)(u:aa),gX s fd ⟨[u],[]⟩ [(x,u)])
  (j':∀ H:Hp,BE H tb lp->fq K H a (ns.map V.int)->sp [.ref a] H (QT tb lp) λ_ _ _=>False)
  (hCX:∀ H e s',CX [] H s₁ (λ_ _ _=>False) e s'->False) :
  bJ (ak P w) fK (.call (.ref fa) ⟨[.ref a],[]⟩) (λr s'=>r=.ok (.ret (.bool true))/\OldK s₁.heap s'.heap/\s'.os=s₁.os/\dD s'.gens) s₁:=by
 have rv:=O2 hi;have GW:=hi.length;have MI:a≠tb:=λz=>by rw[z,ht] at ha;cases ha
 have core:∀ H:Hp,BE H tb lp->fq K H a (ns.map V.int)->fe P w H s₁.heap->(∀ b,H b≠none->b=a\/b=tb)->(H a≠none->K.lookup a=none) ->
   bJ (ak P w) fK (.call (.ref fa) ⟨[.ref a],[]⟩) (λr s'=>r=.ok (.ret (.bool true))/\OldK s₁.heap s'.heap/\s'.os=s₁.os/\dD s'.gens) s₁:=by
  intro H hO hS aR hA hKa;have base_of:∀{b:ae}{o:Obj},s₁.heap.get? b=some o->H b=none->(mJ s₁.heap H).get? b=some o:=λe n=>Ycj e n;have Md:∀{b:ae}{o:Obj},s₁.heap.get? b=some o->o.cls≠.type "list"->o.cls≠.none->H b=none:=λ{b o} e c1 c2=>by
   cases q:H b with
   |none=>rfl
   |some u =>
    rcases hA b (by rw[q];simp) with e'|e'
    ·subst e';rw[ha] at e;cases e;exact absurd rfl c1
    ·subst e';rw[ht] at e;cases e;exact absurd rfl c2
  have v8:∀{b:ae}{o:Obj}{es:Array fN}{ep:Nat},s₁.heap.get? b=some o->o.data=.dict es ep->H b=none:=λ{b o es ep} e d=>by
   cases q:H b with
   |none=>rfl
   |some u =>
    rcases hA b (by rw[q];simp) with e'|e'
    ·subst e';rw[ha] at e;cases e;have d':Data.seq vs.toArray _=Data.dict es ep:=d;cases d'
    ·subst e';rw[ht] at e;cases e;cases d
  have Ck:∀{b:ae}{m:Str->Option aa},s₁.heap.Ns b m->(mJ s₁.heap H).Ns b m:=λ{b m} ⟨o,es,ep,e,d,r⟩=>⟨o,es,ep,base_of e (v8 e d),d,r⟩;have ML:K.In (mJ s₁.heap H):=λb o e=>base_of (KX b o e) (by
   cases q:H b with
   |none=>rfl
   |some u =>
    rcases hA b (by rw[q];simp) with e'|e'
    ·subst e';rw[hKa (by rw[q];simp)] at e;cases e
    ·subst e';rw[hK] at e;cases e)
  have hM:Mod K mg (mJ s₁.heap H):=⟨ML,Ck ot,⟨mb,Ck hb,hbb⟩,let ⟨mc,h1,h2⟩:=pG;⟨mc,Ck h1,h2⟩⟩;have hL:jL mg (mJ s₁.heap H) cd tb:=by
   obtain⟨⟨o,vs',file,tf,flags,tg,nC,text,tt,e1,e2,r⟩,bm,ob,b1,b2,b3,b4,r2⟩:=L;refine⟨⟨o,vs',file,tf,flags,tg,nC,text,tt,base_of e1 (Md e1 (by rw[e2];simp) (by rw[e2];simp)),e2,r⟩,bm,ob,b1,b2,base_of b3 (Md b3 (by rw[b4];simp) (by rw[b4];simp)),b4,r2⟩
  have e0:j7 P w K mg (mJ s₁.heap H) fK [] s₁ H:=⟨rfl,hM,λb o e=>zcW e,Xq (ycd _ _),trivial,λb hb=>absurd (show b∈([]:List ae) from hb) (by simp),aR,.of_eq hg⟩;refine cO ((F _ ML (Ck ot) hL).run fK [] s₁ H ⟨[.ref a],[]⟩ [.ref a] [.ref a] _ _ hr e0 (Aq s₁ (.ref a)) (.cons rfl .nil) (j' H hO hS)) λr s' h=>?_;cases r with
  |error e=>exact(hCX H e s' h).elim
  |ok fl =>
   cases fl with
   |next=>exact False.elim h
   |brk=>exact False.elim h
   |cont=>exact False.elim h
   |ret u =>
    obtain⟨v,H',os,bare,un,Af,r',q',oc,G9⟩:=h;subst q';obtain rfl:u=aa.bool true:=r';obtain⟨⟨ps,ep,_⟩,_⟩:=Af tb _ G9;have keep:∀ b o,b≠tb->s₁.heap.get? b=some o->s'.heap.get? b=some o:=λb o n e=>by
     cases q:H b with
     |none=>exact un.keep b o e q (by intro z;exact absurd (show b∈([]:List ae) from z) (by simp)) (by simp)
     |some u =>
      rcases hO.2 b n with z|⟨ob,xs,z⟩
      ·rw[q] at z;cases z
      ·have z2:=un.iY b ob _ z;obtain⟨e1,_⟩:=aR b _ z;obtain⟨e2,_⟩:=Af b _ z2;rw[e] at e1;cases e1;exact e2
    refine⟨rfl,⟨λb o e=>?_,λb o e=>?_⟩,os,bare⟩
    ·by_cases hb:b=tb
     ·subst hb;rw[ht] at e;cases e;exact .inr (.inl ⟨(L.code.tab ht).isCodeTable,rfl,#[],ps,rfl,by rw[ep];simp⟩)
     ·exact .inl (keep b o hb e)
    ·by_cases hb:b=tb
     ·subst hb;exact⟨_,ep⟩
     ·exact⟨o,keep b o hb e⟩
 have tok:QK tb lp none s₁.heap:=⟨#[],ht,trivial,rfl⟩;cases hk:K.lookup a with
 |some o =>
  have e:=KX a o hk;rw[ha] at e;cases e;refine core (λb=>if b=tb then some (.ext (QK tb lp none)) else none) ⟨if_pos rfl,λb n=>.inl (if_neg n)⟩ (.inr ⟨_,vs.toArray,_,hk,rfl,rfl,rfl,by rw[Ub,GW];exact hl,by simpa using rv⟩) (λb u z=>?_) (λb z=>?_) λz=>absurd (if_neg MI) z
  ·by_cases hb:b=tb
   ·have z':=(if_pos hb).symm.trans z;cases z';subst hb;exact Jd tok
   ·have z':=(if_neg hb).symm.trans z;cases z'
  ·by_cases hb:b=tb
   ·exact .inr hb
   ·exact absurd (if_neg hb) z
 |none =>
  refine core (λb=>if b=tb then some (.ext (QK tb lp none)) else if b=a then some (.e8 {cls:=.type "list",data:=.seq vs.toArray} (.lst (ns.map V.int))) else none) ⟨if_pos rfl,λb n=>?_⟩ (.inl (.inr ⟨{cls:=.type "list",data:=.seq vs.toArray},(if_neg MI).trans (if_pos rfl)⟩)) (λb u z=>?_) (λb z=>?_) λ_=>hk
  ·by_cases hb:b=a
   ·exact .inr ⟨_,_,(if_neg n).trans (if_pos hb)⟩
   ·exact .inl ((if_neg n).trans (if_neg hb))
  ·by_cases hb:b=tb
   ·have z':=(if_pos hb).symm.trans z;cases z';subst hb;exact Jd tok
   ·have z:=(if_neg hb).symm.trans z;by_cases hb:b=a
    ·have z':=(if_pos hb).symm.trans z;cases z';subst hb;exact⟨ha,by rw[xc];exact hl,vs,_,rv,ha⟩
    ·have z':=(if_neg hb).symm.trans z;cases z'
  ·by_cases hb:b=tb
   ·exact .inr hb
   ·by_cases jQ:b=a
    ·exact .inl jQ
    ·exact absurd ((if_neg hb).trans (if_neg jQ)) z
noncomputable def JJ(K:PySem.W.Frag)(tb:ae)(lp:Pos):Sp:=λvs H Q E=>∃(a:ae)(ns:List Int),vs=[.ref a]/\ns.length<=63/\BE H tb lp/\fq K H a (ns.map V.int)/\Q=QT tb lp/\E=λ_ _ _=>False
theorem sW{l:PySem.W.OpenLaw}{q:aj}{loose:List Str}{XP:(Str->Option aa)->Heap->Prop}{YP:World->Heap->Prop}{d:DefRec}{K:Params->PySem.W.Frag}{k:Nat}{cd tb:ae}{lp:Pos}(hn:l.most=some 63)(HE:d.params.defaults=[])(hr:dj k fK)
  (hY:∀(w:World)(h:Heap),YP w h->(K w.params).In h) (hT:∀(w:World)(h:Heap),YP w h->h.get? tb=some (WC #[])) (hC:∀(w:World)(h:Heap),(K w.params).In h->PySem.W.CodeHd h cd tb) (hK:∀ w:World,(K w.params).lookup tb=none)
  (F:∀(w:World)(mg:Str->Option aa)(fa:ae)(h:Heap),(K w.params).In h->h.Ns ao mg->mg d.name=some (.ref fa) ->
   ∃ fd:bu,(∀(s:af)(u:aa),gX s fd ⟨[u],[]⟩ [("_law_script",u)])/\∀ base:Heap,(K w.params).In base->base.Ns ao mg->jL mg base cd tb->fu l.prog w (K w.params) mg base (jN l.prog w) k fa fd ["_law_script"] (JJ (K w.params) tb lp)) :
  PySem.W.WalkO q loose XP YP l.row.toRowW d [] (λf vs=>PySem.call f vs):=by
 refine Pf.j5 hn HE λw s₀ s₁ mg mb fa o pm dF doc a vs ns G Y ho hd jq nG pE hints hlen hg=>?_;have KX:=hY w _ Y;obtain⟨fd,hb,hF⟩:=F w mg fa _ KX G.T.g nG;exact qcd (lp:=lp) KX G.T.g G.T.b G.T.builtins G.T.nolimit hg pE hints (vf hlen (by decide)) hr ⟨hC w _ KX,G.T.bmain⟩ (hT w _ Y) (hK w) hF hb (λH hO hS=>⟨a,ns,rfl,hlen,hO,hS,rfl,rfl⟩) λH e s' ⟨_,_,_,_,_,_,_,_,_,_,_,_,_,_,_,z⟩=>z
end SD
end
section
namespace SD
open PySem PySem.Spec PyProof.Rows L2 L3 M3 MP
noncomputable abbrev J3:az:={kind:=.function,names:=[("want",.cell),("inks",.local),("min",.globalImplicit)],isGenerator:=false,isCoroutine:=false,more:=[]}
noncomputable abbrev J7:aY:=⟨2,2,[.ret (.kD (.var 0) (.var 1))]⟩
theorem ZcH:gW ["want","inks"] ["want","inks"] J3:=⟨rfl,rfl,rfl,by decide,rfl,by decide,by decide⟩
theorem Zb7{x y:MV}{h h':MH}{v:MV}(e:mS x y h=.ok v h'):∃ w n0 ns vs,x=.f (.int w)/\Qb h y=some vs/\Zg vs=some (n0::ns)/\h[0]?=some Cell.code/\v=.f (.int (Yo w n0 ns))/\h'=h:=by
 unfold mS at e;cases e1:zd x with
 |none=>rw[e1] at e;cases e
 |some w =>
  rw[e1,yd] at e;have:=qi e1;subst this;cases e2:Qb h y with
  |none=>rw[e2] at e;cases e
  |some vs =>
   rw[e2,yd] at e;cases e3:Zg vs with
   |none=>rw[e3] at e;cases e
   |some ns =>
    rw[e3,yd] at e;cases ns with
    |nil=>cases e
    |cons n0 ns =>
     simp only at e;split at e
     next w0=>cases e;exact⟨w,n0,ns,vs,rfl,rfl,e3,w0,rfl,rfl⟩
     next=>cases e
theorem Zb9{x y:MV}{h h':MH}{c:String}(e:mS x y h=.exc c h'):False:=by
 unfold mS at e;cases e1:zd x with
 |none=>rw[e1] at e;cases e
 |some w =>
  rw[e1,yd] at e;cases e2:Qb h y with
  |none=>rw[e2] at e;cases e
  |some vs =>
   rw[e2,yd] at e;cases e3:Zg vs with
   |none=>rw[e3] at e;cases e
   |some ns =>
    rw[e3,yd] at e;cases ns with
    |nil=>cases e
    |cons n0 ns =>
     simp only at e;split at e
     next w0=>cases e
     next=>cases e
theorem QcO{h:MH}{x:FV}:Qg h (.f x) h=.ok (.f x) h:=by
 unfold Qg;rw[if_pos ⟨wb _,λi c _ e=>.inl e⟩];simp
theorem BM{Pm:Prog}{n:Nat}{ms:List MV}{h:MH}{r:R MV}(hd:Pm.defs "nearest_ink"=some J7)(e:MP.run Pm (n+1) "nearest_ink" ms h=r)(hr:r≠.stuck) :
  ∃ m1 w n0 ns vs,ms=[.f (.int w),m1]/\Qb h m1=some vs/\Zg vs=some (n0::ns)/\h[0]?=some Cell.code/\r=.ok (.f (.int (Yo w n0 ns))) h:=by
 simp only[MP.run,hd,yd] at e;split at e
 next hl =>
  match ms,hl with
  |[m0,m1],_ =>
   have e':yb h ((mS m0 m1 h).st λv h1=>.ret v h1)=r:=by
    rw[<- e];simp[qa];cases mS m0 m1 h <;> rfl
   cases ev:mS m0 m1 h with
   |stuck=>rw[ev] at e';exact absurd e'.symm hr
   |exc c h'=>exact(Zb9 ev).elim
   |ok v h' =>
    obtain⟨w,n0,ns,vs,rfl,e1,e2,e3,rfl,rfl⟩:=Zb7 ev;rw[ev] at e';exact⟨m1,w,n0,ns,vs,rfl,e1,e2,e3,e'.symm.trans QcO⟩
 next=>exact absurd e.symm hr
theorem yco{h:MH}(h0:h[0]?=some Cell.code):h.set 0 Cell.code=h:=by
 cases h with
 |nil=>rfl
 |cons c r=>simp at h0;subst h0;rfl
theorem qcn{ct:Tx}{μ:List ae}{h:MH}{H H2:Hp}(rel:Rel ct μ h H)(h0:h[0]?=some Cell.code)(nx:BL H ct.tb ct.lp ct.lq H2):Ext μ h H μ h H2/\Rel ct μ h H2:=by
 rcases nx with rfl|⟨c',hP,hc,rfl⟩
 ·exact⟨Ext.refl _ _ _,rel⟩
 ·have hi:0<μ.length:=by rw[rel.len];exact(Xa.mp h0).1
  have e0:μ[0]?=some μ[0]:=by simp[hi]
  obtain⟨eb,_⟩:=rel.cells 0 _ _ e0 h0;have nc:c'≠ct.tb:=λz=>by rw[z,hP] at hc;cases hc
  have nl:¬ bc μ (h.set 0 Cell.code) c':=λl=>by
   obtain⟨u,z⟩:=bc.has rel (bc.set (h:=h) h0 (λz=>nomatch z) l);rw[hc] at z;cases z
  have av:=rel.new hc (.ext (mC c' ct.lq));have gQ:=Ext.new rel hc (.ext (mC c' ct.lq));have dE:=Ext.set av e0 h0 (λz=>nomatch z) .code (.ext (QK ct.tb ct.lp (some c')));have aZ:=av.set (c':=.code) (o:=.ext (QK ct.tb ct.lp (some c'))) e0 h0 (λz=>nomatch z) ⟨eb,.inr ⟨c',by rw[eb];exact nc,nl,by rw[qe,eb],by rw[Zc (by rw[eb];exact nc),qe]⟩⟩;rw[yco h0,eb] at dE aZ;exact⟨gQ.trans dE,aZ⟩
theorem zcK{K:PySem.W.Frag}{mg:Str->Option aa}{Pm:Prog}{ct:Tx}{st:Stmt}{fa:ae}{oc kV doc pm jr:aa}{od an:Option ae}{jk:Array (Option aa)}{pr pi u6 pa p1 p2 p3 p4 p5 pk pc:Pos}
  (j1:Yf st=[.Return (some (LH (.Name "inks" pi) u6 pa p1 p2 p3 p4 p5 ct.lp pk pc)) pr]) (hsc:qb st=J3)
  (lk:K.lookup fa=some ⟨oc,od,.func (Ve "nearest_ink" "nearest_ink" (Yi st) (Yf st) (qb st) .none kV doc pm an (.ref ct.cd) jr),jk⟩) (jq:xg K (.ref ct.cd) "nearest_ink"=true) (kp:we K (.ref fa)=true) (nG:mg "nearest_ink"=some (.ref fa))
  (hb:Binds K (Ve "nearest_ink" "nearest_ink" (Yi st) (Yf st) (qb st) .none kV doc pm an (.ref ct.cd) jr) ["want","inks"] []) (hd:Pm.defs "nearest_ink"=some J7) (Hl:mg "min"=none) (HR:mg "abs"=none)
  (Mz:ct.lq=("nearest_ink":Str)++".<locals>."++"<lambda>") (HL:ct.cd≠0) (hK:K=ct.K):BK K mg Pm ct "nearest_ink" ["want","inks"]:=by
 intro P w base n kb lb;have L:=lb HL;rw[j1,hsc] at lk hb;refine⟨fa,_,BD (k:=2*n+1) (N:=["want","inks"]) lk jq ZcH ?_ λA outer s H vs Q E hr j'=>?_,hb,kp,nG⟩
 ·rintro vs H Q E ⟨μ,h,ms,rel,eI,p⟩;cases er:MP.run Pm (n+1) "nearest_ink" ms h with
  |stuck=>rw[er] at p;exact p.elim
  |ok x h'=>obtain⟨_,_,_,_,_,rfl,_⟩:=BM hd er (λz=>nomatch z);rw[eI.length];rfl
  |exc c h'=>obtain⟨_,_,_,_,_,rfl,_⟩:=BM hd er (λz=>nomatch z);rw[eI.length];rfl
 ·refine⟨_,qcP (Ot (QcN (P:=ct.tb) (lp:=ct.lp) (c:=ct.cd) (j:=0) (J8 (i:=1) rfl (.inl rfl)) rfl Hl HR rfl hr.depth rfl L rfl rfl)),?_⟩;obtain⟨μ,h,ms,rel,eI,p⟩:=j';cases er:MP.run Pm (n+1) "nearest_ink" ms h with
  |stuck=>rw[er] at p;exact p.elim
  |exc c h'=>obtain⟨_,_,_,_,_,_,_,_,_,z⟩:=BM hd er (λz=>nomatch z);cases z
  |ok x h' =>
   obtain⟨m1,wv,n0,ns,us,rfl,e1,e2,e3,z⟩:=BM hd er (λz=>nomatch z);cases z;rw[er] at p;obtain⟨v0,v1,rfl,r0,r1⟩:=Dw eI;have:=Zp r0;subst this;obtain⟨b,a,rfl,iO⟩:=Bg rel e1 r1;obtain⟨xs,sq,rxs⟩:=iO μ h H (Ext.refl _ _ _) rel (BS e1);have:=y0 e2 rxs;subst this;have hi:0<μ.length:=by rw[rel.len];exact(Xa.mp e3).1
   have e0:μ[0]?=some μ[0]:=by simp[hi]
   obtain⟨eb,tb⟩:=rel.cells 0 _ _ e0 e3;rw[eb] at tb;refine⟨.ref a,rfl,b,a,n0,ns,wv,rfl,by rw[hK];exact sq,rfl,?_,λH2 nx=>?_⟩
   ·show NU H ct.tb ct.lp (("nearest_ink":Str)++".<locals>."++"<lambda>");rw[<- Mz];exact tb.imp id λ⟨c',n1,_,r⟩=>⟨c',n1,r⟩
   ·have nx:BL H ct.tb ct.lp ct.lq H2:=by rw[Mz];exact nx
    obtain⟨ex,aZ⟩:=qcn rel e3 nx;exact p μ H2 ex aZ _ (Zw _)
theorem ycN{K:PySem.W.Frag}{ct:Tx}{Pm:Prog}{n:Nat}{H:Hp}{a:ae}{ns:List Int}(hK:K=ct.K)(hO:BE H ct.tb ct.lp)(hS:fq K H a (ns.map V.int))(main:∃ h,MP.run Pm n "law" [.f (.dm ns)] [.code]=.ok (.f (.bl true)) (.code::h)) :
  kC ct (MP.run Pm n "law") [.ref a] H (QT ct.tb ct.lp) λ_ _ _=>False:=by
 subst hK;refine⟨[ct.tb],[.code],[.f (.dm ns)],⟨rfl,by simp,λb hb=>⟨.ext (QK ct.tb ct.lp none),by rw[Xc.mp hb];exact hO.1⟩,λi b c e1 e2=>?_⟩,aC.cons ?_ aC.nil,?_⟩
 ·cases i with
  |zero =>
   simp at e1 e2;subst e1;subst e2;exact⟨rfl,.inl hO.1⟩
  |succ i=>simp at e1
 ·simp only[RV,RF];refine⟨a,rfl,?_⟩
  rcases hS with (e|⟨o,e⟩)|e
  ·by_cases ha:a=ct.tb
   ·rw[ha,hO.1] at e;cases e
   ·rcases hO.2 a ha with z|⟨o,xs,z⟩
    ·rw[z] at e;cases e
    ·rw[z] at e;cases e
  ·refine .inl ⟨λ⟨i,c,e1,_⟩=>?_,o,e⟩;cases i with
   |zero =>
    simp at e1;rw[<- e1,hO.1] at e;cases e
   |succ i=>simp at e1
  ·exact .inr e
 ·obtain⟨h,e⟩:=main;rw[e];intro μ' H' ex rel v rv;obtain⟨ν,rfl⟩:=ex.pre;obtain⟨_,tb⟩:=rel.cells 0 ct.tb .code rfl rfl;exact⟨rH rv,tb.elim (λz=>⟨_,z⟩) λ⟨c',_,_,z,_⟩=>⟨_,z⟩⟩
theorem YcR{P:aj}{w:World}{K:PySem.W.Frag}{mg:Str->Option aa}{base:Heap}{Pm:Prog}{ct:Tx}{n:Nat}{d:aY}{N ps:List Str}{st:Stmt}{fa:ae}{fd:bu}(T:Text K mg Pm ct)(kb:K.In base)(lb:jL mg base ct.cd ct.tb)(F:rn K "law" "law" st fa fd)(hd:Pm.defs "law"=some d)(hb:yi Pm d N ps st=true)
  (main:∀ ns:List Int,ns.length<=63->∃ h,MP.run Pm (n+1) "law" [.f (.dm ns)] [.code]=.ok (.f (.bl true)) (.code::h)):fu P w K mg base (jN P w) (2*(n+1)) fa fd ps (JJ K ct.tb ct.lp) :=
 (Jt (Bh T kb (λ_=>lb) n) T.hK F hd hb).imp λvs H Q E ⟨a,ns,e1,hl,hO,hS,e2,e3⟩=>by
  subst e1;subst e2;subst e3;exact ycN T.hK hO hS (main ns hl)
theorem kU{K:PySem.W.Frag}{h:Heap}{f cd tb:ae}{oc dV kV doc pm jr:aa}{od an dc:Option ae}{jk sc:Array (Option aa)}{st:Stmt}{vs:Array aa}{file:Str}{tf:Tok}{fl t:Int}{tg tt:Tok}{b:Bool}(X:K.In h)(_:Xe K ao "nearest_ink"=some (some (.ref f)))
  (_:K.lookup f=some ⟨oc,od,.func (Ve "nearest_ink" "nearest_ink" (Yi st) (Yf st) (qb st) dV kV doc pm an (.ref cd) jr),jk⟩) (lc:K.lookup cd=some ⟨.type "code",dc,.fields vs,sc⟩) (e11:vs[11]?=some (.ref tb)) (e18:vs.getD 18 .none=.str file tf) (e7:vs.getD 7 .none=.int fl tg)
  (e9:vs.getD 9 .none=.bool b) (e10:vs.getD 10 .none=.int t tt) (ne:cd≠tb):PySem.W.CodeHd h cd tb:=by
 have Ic:vs.getD 11 .none=.ref tb:=by rw[Array.getD_eq_getD_getElem?,e11];rfl
 exact⟨_,vs,file,tf,fl,tg,b,t,tt,X cd _ lc,rfl,rfl,e11,Ic,e18,e7,e9,e10,ne⟩
end SD
end
section
namespace MP
open PySem
noncomputable def yQ:aY:=⟨1,1,[.ret (.blt true "tuple" [.comp true (.blt true "tuple" [.var 0]) (.nm 0) "seq" [.var 0] none 1 []])]⟩
noncomputable def qQ:aY:=⟨3,4,[.ite (.cmp .lt (.var 2) (.cI 1)) [.ret (.cS "the greatest number is below 1")] [],.ite (.or [.cmp .eq (.blt true "len" [.var 0]) (.cI 0),.cmp .eq (.blt true "len" [.sub (.var 0) (.cI 0)]) (.cI 0)]) [.ret (.cS "there are no cells")] [],.for_ (.nm 3) "seq" [.var 0] [.ite (.cmp .ne (.blt true "len" [.var 3]) (.blt true "len" [.sub (.var 0) (.cI 0)])) [.ret (.cS "the rows' lengths differ")] [],.ite (.or [.cmp .lt (.blt true "min" [.var 3]) (.var 1),.cmp .gt (.blt true "max" [.var 3]) (.var 2)]) [.ret (.cS "a number is below the least or above the greatest")] []],.ret (.cN)]⟩
noncomputable def bN:aY:=⟨2,4,[.set (.nm 2) (.lst false []),.for_ (.nm 3) "range" [.var 0] [.expr (.lm "extend" (.var 2) [.comp true (.tup [.var 1,.var 0]) (.nm 0) "range" [.var 1] none 1 [3]])],.ret (.var 2)]⟩
noncomputable def Yp:aY:=⟨3,5,[.set (.nm 3) (.call "own_rows" [.var 2]),.set (.nm 4) (.call "fault_of" [.var 3,.cI 0,.var 1]),.ite (.nu (.var 4)) [.ic] [],.gi (.var 0) "most" (.var 1),.gi (.var 0) "rows" (.var 3)]⟩
noncomputable def BB:aY:=⟨1,1,[.ret (.blt true "len" [.fld (.var 0) "rows"])]⟩
noncomputable def Dg:aY:=⟨1,1,[.ret (.blt true "len" [.sub (.fld (.var 0) "rows") (.cI 0)])]⟩
noncomputable def eJ:aY:=⟨1,1,[.ret (.tup [.call "high" [.var 0],.call "wide" [.var 0]])]⟩
noncomputable def YR:aY:=⟨2,2,[.ret (.and [.chain .le .lt (.cI 0) (.sub (.var 1) (.cI 0)) (.call "high" [.var 0]),.chain .le .lt (.cI 0) (.sub (.var 1) (.cI 1)) (.call "wide" [.var 0])])]⟩
noncomputable def yH:aY:=⟨2,2,[.ite (.not (.call "has_cell" [.var 0,.var 1])) [.ic] []]⟩
noncomputable def dM:aY:=⟨2,2,[.expr (.call "ask_cell" [.var 0,.var 1]),.ret (.sub (.sub (.fld (.var 0) "rows") (.sub (.var 1) (.cI 0))) (.sub (.var 1) (.cI 1)))]⟩
noncomputable def dQ:aY:=⟨2,2,[.ite (.or [.cmp .lt (.var 0) (.cI 1),.cmp .lt (.var 1) (.cI 1)]) [.ic] []]⟩
noncomputable def qz:aY:=⟨2,5,[.set (.nm 2) (.comp false (.blt false "list" [.var 0]) (.nm 0) "seq" [.fld (.var 0) "rows"] none 1 []),.for_ (.tp [.nm 3,.nm 4]) "seq" [.var 1] [.fA (.sub (.var 2) (.sub (.var 3) (.cI 0))) (.sub (.var 3) (.cI 1)) (.var 4)],.ret (.make true "Picture" [.fld (.var 0) "most",.e8 (.var 2)])]⟩
noncomputable def dN:aY:=⟨3,3,[.ret (.call "with_shades" [.make true "Picture" [.var 0,.bin true .mul (.lst true [.bin true .mul (.lst true [.cI 0]) (.sub (.var 1) (.cI 1))]) (.sub (.var 1) (.cI 0))],.var 2])]⟩
noncomputable def dR:aY:=⟨2,2,[.expr (.call "ask_rising" [.var 0]),.ite (.cmp .ne (.sub (.var 0) (.neg (.cI 1))) (.var 1)) [.ic] []]⟩
noncomputable def cJ:aY:=⟨1,3,[.ite (.cmp .lt (.blt true "len" [.var 0]) (.cI 2)) [.ic] [],.ite (.cmp .ne (.sub (.var 0) (.cI 0)) (.cI 0)) [.ic] [],.for_ (.tp [.nm 1,.nm 2]) "zip" [.slice true (.var 0) none (some (.neg (.cI 1))),.slice true (.var 0) (some (.cI 1)) none] [.ite (.cmp .ge (.var 1) (.var 2)) [.ic] []]]⟩
noncomputable def cH:aY:=⟨1,1,[.ite (.or [.cmp .lt (.blt true "sum" [.var 0]) (.cI 1),.cmp .lt (.blt true "min" [.var 0]) (.cI 0)]) [.ic] []]⟩
noncomputable def fF:aY:=⟨4,4,[.ret (.call "dots_of" [.var 0,.e8 (.call "ledger" [.var 0,.var 1,.var 2,.var 3])])]⟩
noncomputable def eK:aY:=⟨2,2,[.ret (.call "laid_out" [.fld (.var 0) "most",.call "size_of" [.var 0],.comp true (.tup [.var 0,.var 2]) (.tp [.nm 0,.nm 1,.nm 2,.nm 3,.nm 4]) "seq" [.var 1] none 5 []])]⟩
noncomputable def fE:aY:=⟨4,7,[.expr (.call "ask_shares" [.var 2]),.expr (.call "ask_inks" [.var 3,.fld (.var 0) "most"]),.set (.nm 4) (.call "size_of" [.var 0]),.set (.nm 5) (.lst false []),.for_ (.nm 6) "seq" [.e8 (.kX (.var 1) "order" [.sub (.var 4) (.cI 0),.sub (.var 4) (.cI 1)])] [.expr (.lm "append" (.var 5) [.call "entry_behind" [.var 5,.var 6,.call "shade_at" [.var 0,.var 6],.var 2,.var 3]])],.ret (.var 5)]⟩
noncomputable def aX:aY:=⟨5,8,[.set (.nm 5) (.ite (.cmp .gt (.blt true "len" [.var 0]) (.cI 0)) (.sub (.sub (.var 0) (.neg (.cI 1))) (.glob "ODD")) (.cI 0)),.for_ (.tp [.nm 6,.nm 7]) "enum1" [.slice true (.var 3) none (some (.blt true "len" [.var 0]))] [.set (.nm 5) (.bin true .add (.var 5) (.bin true .mul (.var 7) (.sub (.sub (.var 0) (.neg (.var 6))) (.glob "LEFT"))))],.ret (.call "entry_of" [.var 1,.var 2,.var 5,.blt true "sum" [.var 3],.var 4])]⟩
noncomputable def dO:aY:=⟨5,7,[.set (.nm 5) (.bin true .fdiv (.var 2) (.var 3)),.set (.nm 6) (.call "nearest_ink" [.bin true .add (.var 1) (.var 5),.var 4]),.ret (.tup [.var 0,.var 5,.var 6,.bin true .sub (.bin true .add (.var 1) (.var 5)) (.var 6),.bin true .mod (.var 2) (.var 3)])]⟩
noncomputable def cX:aY:=⟨2,2,[.ret (.kD (.var 0) (.var 1))]⟩
noncomputable def dP:aY:=⟨2,5,[.expr (.call "ask_shares" [.var 0]),.expr (.call "ask_rising" [.var 1]),.set (.nm 2) (.bin true .fdiv (.blt true "max" [.comp true (.bin true .sub (.var 1) (.var 0)) (.tp [.nm 0,.nm 1]) "zip" [.slice true (.var 1) none (some (.neg (.cI 1))),.slice true (.var 1) (some (.cI 1)) none] none 2 []]) (.cI 2)),.set (.nm 3) (.blt true "sum" [.comp true (.bin true .mul (.var 0) (.var 1)) (.tp [.nm 0,.nm 1]) "enum1" [.var 0] none 2 []]),.set (.nm 4) (.blt true "sum" [.var 0]),.ret (.bin true .fdiv (.bin true .sub (.bin true .add (.bin true .mul (.var 2) (.var 3)) (.var 4)) (.cI 1)) (.var 4))]⟩
noncomputable def dg:aY:=⟨3,3,[.expr (.call "ask_size" [.var 1,.var 2]),.ret (.call "cells_by_rows" [.var 1,.var 2])]⟩
noncomputable def bS:aY:=⟨3,6,[.expr (.call "ask_size" [.var 1,.var 2]),.set (.nm 3) (.lst false []),.for_ (.nm 4) "range" [.var 1] [.set (.nm 5) (.comp true (.tup [.var 1,.var 0]) (.nm 0) "range" [.var 2] none 1 [4]),.expr (.lm "extend" (.var 3) [.ite (.cmp .eq (.bin true .mod (.var 4) (.cI 2)) (.cI 1)) (.nh true (.var 5)) (.var 5)])],.ret (.var 3)]⟩
noncomputable def bC:aY:=⟨3,3,[.expr (.call "ask_size" [.var 1,.var 2]),.ret (.comp false (.tup [.var 1,.var 0]) (.tp [.nm 0,.nm 1]) "seq" [.e8 (.call "cells_by_rows" [.var 2,.var 1])] none 2 [])]⟩
noncomputable def bB:aY:=⟨3,4,[.expr (.call "ask_size" [.var 1,.var 2]),.set (.nm 3) (.cI 1),.while_ (.or [.cmp .lt (.var 3) (.var 1),.cmp .lt (.var 3) (.var 2)]) [.set (.nm 3) (.bin true .mul (.cI 2) (.var 3))],.ret (.comp false (.tup [.var 0,.var 1]) (.tp [.nm 0,.nm 1]) "seq" [.call "folded_cells" [.var 3]] (some (.and [.cmp .lt (.var 0) (.var 2),.cmp .lt (.var 1) (.var 3)])) 2 [1,2])]⟩
noncomputable def ba:aY:=⟨3,3,[.gi (.var 0) "way" (.var 1),.gi (.var 0) "mask" (.Cp (.comp false (.tup [.var 0,.cB true]) (.nm 0) "seq" [.var 2] none 1 []))]⟩
noncomputable def bA:aY:=⟨3,6,[.set (.nm 3) (.call "ways_within" [.var 0]),.set (.nm 4) (.nA),.for_ (.nm 5) "seq" [.slice true (.var 3) none (some (.neg (.cI 1)))] [.expr (.nv (.var 4) (.fld (.var 5) "mask"))],.ret (.comp false (.var 0) (.nm 0) "seq" [.e8 (.kX (.sub (.var 3) (.neg (.cI 1))) "order" [.var 1,.var 2])] (some (.ny (.var 0) (.var 1))) 1 [4])]⟩
noncomputable def bY:aY:=⟨1,2,[.set (.nm 1) (.lst false [.var 0]),.while_ (.kF (.sub (.var 1) (.neg (.cI 1))) "MaskedWay") [.expr (.lm "append" (.var 1) [.fld (.sub (.var 1) (.neg (.cI 1))) "way"])],.ret (.e8 (.var 1))]⟩
noncomputable def bR:aY:=⟨1,3,[.set (.nm 1) (.lst true [.tup [.cI 0,.cI 0]]),.set (.nm 2) (.cI 1),.while_ (.cmp .lt (.var 2) (.var 0)) [.set (.nm 1) (.call "folded_once" [.var 1,.var 2]),.set (.nm 2) (.bin true .mul (.cI 2) (.var 2))],.ret (.var 1)]⟩
noncomputable def bZ:aY:=⟨2,6,[.set (.nm 2) (.comp true (.tup [.var 1,.var 0]) (.tp [.nm 0,.nm 1]) "seq" [.var 0] none 2 []),.set (.nm 3) (.comp true (.tup [.bin true .add (.var 2) (.var 0),.var 1]) (.tp [.nm 0,.nm 1]) "seq" [.var 0] none 2 [1]),.set (.nm 4) (.comp true (.tup [.bin true .add (.var 2) (.var 0),.bin true .add (.var 2) (.var 1)]) (.tp [.nm 0,.nm 1]) "seq" [.var 0] none 2 [1]),.set (.nm 5) (.comp true (.tup [.bin true .sub (.bin true .sub (.var 2) (.cI 1)) (.var 1),.bin true .sub (.bin true .sub (.bin true .mul (.cI 2) (.var 2)) (.cI 1)) (.var 0)]) (.tp [.nm 0,.nm 1]) "seq" [.var 0] none 2 [1]),.ret (.bin true .add (.bin true .add (.bin true .add (.var 2) (.var 3)) (.var 4)) (.var 5))]⟩
noncomputable def ZJ:aY:=⟨2,4,[.fA (.var 1) (.cI 0) (.bin true .add (.sub (.var 1) (.cI 0)) (.cI 1)),.set (.nm 2) (.ite (.cmp .gt (.blt true "len" [.var 0]) (.cI 0)) (.sub (.var 0) (.bin true .mod (.sub (.var 1) (.cI 0)) (.blt true "len" [.var 0]))) (.cI 0)),.set (.nm 3) (.bin true .mod (.bin true .mul (.bin true .add (.bin true .add (.bin true .mod (.var 2) (.cI 2147483647)) (.bin true .mul (.bin true .mul (.sub (.var 1) (.cI 0)) (.sub (.var 1) (.cI 0))) (.cI 7919))) (.cI 11)) (.cI 48271)) (.cI 2147483647)),.ret (.bin true .mod (.bin true .mul (.var 3) (.var 3)) (.cI 1999999973))]⟩
noncomputable def cK:aY:=⟨3,5,[.set (.nm 3) (.call "_law_next" [.var 0,.var 1]),.set (.nm 4) (.ite (.cmp .gt (.blt true "len" [.var 0]) (.cI 0)) (.sub (.var 0) (.bin true .mod (.sub (.var 1) (.cI 0)) (.blt true "len" [.var 0]))) (.cI 0)),.ite (.cmp .gt (.bin true .mod (.var 3) (.cI 5)) (.cI 0)) [.ret (.bin true .mod (.bin true .fdiv (.var 3) (.cI 5)) (.var 2))] [],.ret (.bin true .mod (.bin true .add (.bin true .mod (.var 4) (.bin true .pow (.cI 10) (.cI 25))) (.bin true .mul (.var 3) (.bin true .pow (.cI 10) (.cI 14)))) (.bin true .pow (.cI 10) (.cI 25)))]⟩
noncomputable def b9:aY:=⟨5,11,[.set (.nm 5) (.call "_law_next" [.var 0,.var 1]),.set (.nm 6) (.lst true [.cI 0,.var 2,.bin true .fdiv (.var 2) (.cI 2),.bin true .mod (.bin true .fdiv (.var 5) (.cI 3)) (.bin true .add (.var 2) (.cI 1))]),.set (.nm 7) (.lst false []),.for_ (.nm 8) "range" [.var 3] [.set (.nm 9) (.lst false []),.for_ (.nm 10) "range" [.var 4] [.ite (.cmp .eq (.bin true .mod (.var 5) (.cI 3)) (.cI 0)) [.expr (.lm "append" (.var 9) [.sub (.var 6) (.cI 3)])] [.ite (.cmp .eq (.bin true .mod (.var 5) (.cI 3)) (.cI 1)) [.expr (.lm "append" (.var 9) [.sub (.var 6) (.bin true .mod (.call "_law_next" [.var 0,.var 1]) (.cI 4))])] [.expr (.lm "append" (.var 9) [.bin true .mod (.bin true .add (.bin true .mul (.call "_law_next" [.var 0,.var 1]) (.cI 7919)) (.var 5)) (.bin true .add (.var 2) (.cI 1))])]]],.expr (.lm "append" (.var 7) [.var 9])],.ret (.var 7)]⟩
noncomputable def c7:aY:=⟨2,2,[.ite (.or [.kF (.var 1) "list",.kF (.var 1) "tuple"]) [.ite (.or [.cmp .ne (.kF (.var 0) "list") (.kF (.var 1) "list"),.cmp .ne (.kF (.var 0) "tuple") (.kF (.var 1) "tuple")]) [.ret (.cB false)] [],.ret (.and [.cmp .eq (.blt true "len" [.var 0]) (.blt true "len" [.var 1]),.blt true "all" [.comp true (.call "_law_same" [.var 0,.var 1]) (.tp [.nm 0,.nm 1]) "zip" [.var 0,.var 1] none 2 []]])] [],.ite (.xN (.var 1)) [.ret (.xN (.var 0))] [],.ite (.kF (.var 1) "str") [.ret (.and [.kF (.var 0) "str",.cmp .eq (.var 0) (.var 1)])] [],.ret (.and [.kF (.var 0) "int",.not (.kF (.var 0) "bool"),.cmp .eq (.var 0) (.var 1)])]⟩
noncomputable def c8:aY:=⟨2,3,[.set (.nm 2) (.call "_law_next" [.var 0,.var 1]),.ret (.sub (.lst true [.cI 1,.cI 2,.cI 3,.cI 255,.cI 9,.bin true .add (.cI 1) (.bin true .mod (.bin true .fdiv (.var 2) (.cI 7)) (.cI 40)),.bin true .add (.bin true .add (.cI 1) (.call "_law_great" [.var 0,.var 1,.cI 999])) (.bin true .pow (.cI 10) (.cI 24))]) (.bin true .mod (.var 2) (.cI 7)))]⟩
noncomputable def c9:aY:=⟨3,7,[.set (.nm 3) (.call "_law_next" [.var 0,.var 1]),.set (.nm 4) (.ip (.cI 0) (.var 2)),.for_ (.nm 5) "range" [.bin true .mod (.var 3) (.cI 5)] [.set (.nm 6) (.call "_law_next" [.var 0,.var 1]),.nq (.var 4) (.sub (.lst true [.bin true .mod (.bin true .mul (.var 6) (.cI 7919)) (.bin true .add (.var 2) (.cI 1)),.bin true .fdiv (.var 2) (.cI 2),.bin true .fdiv (.var 2) (.bin true .add (.var 5) (.cI 2))]) (.bin true .mod (.var 6) (.cI 3)))],.ret (.e8 (.jS (.var 4)))]⟩
noncomputable def b8:aY:=⟨2,5,[.set (.nm 2) (.call "_law_next" [.var 0,.var 1]),.set (.nm 3) (.lst false []),.for_ (.nm 4) "range" [.sub (.lst true [.cI 1,.cI 2,.cI 3,.cI 4,.cI 2,.cI 6]) (.bin true .mod (.var 2) (.cI 6))] [.ite (.cmp .eq (.bin true .mod (.bin true .fdiv (.var 2) (.cI 6)) (.cI 5)) (.cI 0)) [.expr (.lm "append" (.var 3) [.call "_law_great" [.var 0,.var 1,.cI 9]])] [.expr (.lm "append" (.var 3) [.sub (.lst true [.cI 7,.cI 3,.cI 5,.cI 1,.cI 0,.cI 2,.cI 16]) (.bin true .mod (.bin true .add (.bin true .add (.bin true .fdiv (.var 2) (.cI 30)) (.bin true .mul (.var 4) (.var 4))) (.var 4)) (.cI 7))])]],.ite (.cmp .eq (.blt true "sum" [.var 3]) (.cI 0)) [.fA (.var 3) (.bin true .mod (.bin true .fdiv (.var 2) (.cI 500)) (.blt true "len" [.var 3])) (.bin true .add (.cI 1) (.bin true .mod (.bin true .fdiv (.var 2) (.cI 5000)) (.cI 4)))] [],.ret (.e8 (.var 3))]⟩
noncomputable def cx:aY:=⟨3,6,[.set (.nm 3) (.call "_law_next" [.var 0,.var 1]),.set (.nm 4) (.sub (.lst true [.cI 1,.cI 2,.cI 3,.cI 5,.cI 8,.bin true .add (.cI 1) (.bin true .mod (.bin true .fdiv (.var 3) (.cI 6)) (.cI 12))]) (.bin true .mod (.var 3) (.cI 6))),.set (.nm 5) (.bin true .add (.cI 1) (.bin true .mod (.bin true .fdiv (.var 3) (.cI 100)) (.blt true "max" [.cI 1,.bin true .fdiv (.var 2) (.var 4)]))),.ite (.cmp .eq (.bin true .mod (.bin true .fdiv (.var 3) (.cI 7000)) (.cI 2)) (.cI 0)) [.ret (.tup [.var 5,.var 4])] [],.ret (.tup [.var 4,.var 5])]⟩
noncomputable def aN:aY:=⟨3,8,[.set (.nm 3) (.call "_law_next" [.var 0,.var 1]),.set (.nm 4) (.sub (.lst true [.make true "Way" [],.make true "FroWay" [],.make true "ColumnWay" [],.make true "FoldedWay" []]) (.bin true .mod (.var 3) (.cI 4))),.ite (.and [.cmp .eq (.bin true .mod (.var 3) (.cI 4)) (.cI 3),.cmp .gt (.blt true "max" [.var 2]) (.cI 16)]) [.set (.nm 4) (.make true "FroWay" [])] [],.ite (.cmp .gt (.bin true .mod (.bin true .fdiv (.var 3) (.cI 4)) (.cI 3)) (.cI 0)) [.ret (.var 4)] [],.set (.nm 5) (.lst false []),.for_ (.nm 6) "range" [.bin true .mod (.bin true .fdiv (.var 3) (.cI 12)) (.cI 7)] [.set (.nm 7) (.call "_law_next" [.var 0,.var 1]),.expr (.lm "append" (.var 5) [.tup [.bin true .mod (.var 7) (.bin true .add (.sub (.var 2) (.cI 0)) (.cI 1)),.bin true .mod (.bin true .fdiv (.var 7) (.cI 50)) (.sub (.var 2) (.cI 1))]])],.ite (.cmp .eq (.bin true .mod (.bin true .fdiv (.var 3) (.cI 100)) (.cI 9)) (.cI 0)) [.set (.nm 5) (.kX (.var 4) "order" [.sub (.var 2) (.cI 0),.sub (.var 2) (.cI 1)])] [],.ret (.make true "MaskedWay" [.var 4,.e8 (.var 5)])]⟩
noncomputable def df:aY:=⟨2,6,[.set (.tp [.nm 2,.nm 3,.nm 4]) (.call "_law_plain_case" [.var 0,.var 1]),.set (.nm 5) (.call "_law_way" [.var 0,.var 1,.tup [.blt true "len" [.var 3],.blt true "len" [.sub (.var 3) (.cI 0)]]]),.ret (.tup [.var 2,.var 3,.var 5,.call "_law_shares" [.var 0,.var 1],.var 4])]⟩
noncomputable def de:aY:=⟨1,1,[.ret (.bin true .fdiv (.blt true "max" [.comp true (.bin true .sub (.sub (.var 1) (.bin true .add (.var 0) (.cI 1))) (.sub (.var 1) (.var 0))) (.nm 0) "range" [.bin true .sub (.blt true "len" [.var 0]) (.cI 1)] none 1 [0]]) (.cI 2))]⟩
noncomputable def bz:aY:=⟨2,10,[.set (.nm 2) (.call "_law_most" [.var 0,.var 1]),.set (.nm 3) (.call "_law_size" [.var 0,.var 1,.cI 60]),.set (.nm 4) (.call "_law_shades" [.var 0,.var 1,.var 2,.sub (.var 3) (.cI 0),.sub (.var 3) (.cI 1)]),.set (.nm 5) (.call "_law_inks" [.var 0,.var 1,.var 2]),.for_ (.nm 6) "range" [.bin true .mod (.call "_law_next" [.var 0,.var 1]) (.cI 6)] [.set (.nm 7) (.call "_law_next" [.var 0,.var 1]),.set (.nm 8) (.bin true .mod (.var 7) (.bin true .sub (.blt true "len" [.var 5]) (.cI 1))),.set (.nm 9) (.bin true .sub (.bin true .add (.bin true .fdiv (.bin true .add (.sub (.var 5) (.var 8)) (.sub (.var 5) (.bin true .add (.var 8) (.cI 1)))) (.cI 2)) (.bin true .mod (.bin true .fdiv (.var 7) (.cI 100)) (.cI 3))) (.cI 1)),.fA (.sub (.var 4) (.bin true .mod (.bin true .fdiv (.var 7) (.cI 300)) (.sub (.var 3) (.cI 0)))) (.bin true .mod (.bin true .fdiv (.var 7) (.cI 20000)) (.sub (.var 3) (.cI 1))) (.blt true "max" [.cI 0,.blt true "min" [.var 2,.var 9]])],.ret (.tup [.var 2,.e8 (.var 4),.var 5])]⟩
noncomputable def cL:aY:=⟨2,4,[.set (.nm 2) (.cI 0),.for_ (.nm 3) "range" [.blt true "len" [.var 0]] [.set (.nm 2) (.bin true .add (.var 2) (.bin true .mul (.bin true .add (.var 3) (.cI 1)) (.sub (.var 0) (.var 3))))],.ret (.bin true .fdiv (.bin true .sub (.bin true .add (.bin true .mul (.var 1) (.var 2)) (.blt true "sum" [.var 0])) (.cI 1)) (.blt true "sum" [.var 0]))]⟩
noncomputable def j3:aY:=⟨1,18,[.set (.nm 1) (.lst false [.cI 0]),.set (.tp [.nm 2,.nm 3,.nm 4,.nm 5,.nm 6]) (.call "_law_case" [.var 0,.var 1]),.set (.nm 7) (.make true "Picture" [.var 2,.var 3]),.set (.nm 8) (.call "_law_half" [.var 6]),.set (.nm 9) (.call "_law_bound" [.var 5,.var 8]),.ite (.not (.call "_law_same" [.call "bound_of" [.blt true "list" [.var 5],.blt true "tuple" [.var 6]],.var 9])) [.ret (.cB false)] [],.set (.nm 10) (.bin true .add (.var 6) (.lst true [.bin true .add (.bin true .add (.var 2) (.cI 1)) (.call "_law_great" [.var 0,.var 1,.bin true .mul (.cI 3) (.var 2)])])),.ite (.not (.call "_law_same" [.call "bound_of" [.blt true "tuple" [.var 5],.var 10],.call "_law_bound" [.var 5,.call "_law_half" [.var 10]]])) [.ret (.cB false)] [],.set (.nm 11) (.fld (.call "handed" [.var 7,.var 4,.var 5,.var 6]) "rows"),.set (.nm 12) (.cI 0),.for_ (.tp [.nm 13,.nm 14,.nm 15,.nm 16,.nm 17]) "seq" [.e8 (.call "ledger" [.var 7,.var 4,.var 5,.var 6])] [.ite (.or [.cmp .ne (.sub (.sub (.var 11) (.sub (.var 13) (.cI 0))) (.sub (.var 13) (.cI 1))) (.var 15),.cmp .ly (.var 15) (.var 6),.not (.chain .le .le (.neg (.var 8)) (.var 16) (.var 8))]) [.ret (.cB false)] [],.set (.nm 12) (.bin true .sub (.bin true .add (.var 12) (.sub (.sub (.var 3) (.sub (.var 13) (.cI 0))) (.sub (.var 13) (.cI 1)))) (.sub (.sub (.var 11) (.sub (.var 13) (.cI 0))) (.sub (.var 13) (.cI 1)))),.ite (.not (.chain .le .le (.neg (.var 9)) (.var 12) (.var 9))) [.ret (.cB false)] []],.ret (.cB true)]⟩
noncomputable def oy:List (String×aY):=[("own_rows",yQ),("fault_of",qQ),("cells_by_rows",bN),("Picture.__init__",Yp),("high",BB),("wide",Dg),("size_of",eJ),("has_cell",YR),("ask_cell",yH),("shade_at",dM),("ask_size",dQ),("with_shades",qz),("laid_out",dN),("ask_inks",dR),("ask_rising",cJ),("ask_shares",cH),("handed",fF),("dots_of",eK),("ledger",fE),("entry_behind",aX),("entry_of",dO),("nearest_ink",cX),("bound_of",dP),("Way.order",dg),("FroWay.order",bS),("ColumnWay.order",bC),("FoldedWay.order",bB),("MaskedWay.__init__",ba),("MaskedWay.order",bA),("ways_within",bY),("folded_cells",bR),("folded_once",bZ),("_law_next",ZJ),("_law_great",cK),("_law_shades",b9),("_law_same",c7),("_law_most",c8),("_law_inks",c9),("_law_shares",b8),("_law_size",cx),("_law_way",aN),("_law_case",df),("_law_half",de),("_law_plain_case",bz),("_law_bound",cL),("law",j3)]
noncomputable def prog:Prog where
 defs:=λf=>oy.lookup f
 dy:=λx=>match x with
  |"LEFT"=>some (.int 3)
  |"ODD"=>some (.int 4)
  |_=>none
 meths:=λc m=>match c,m with
  |"Picture","__init__"=>some "Picture.__init__"
  |"Way","order"=>some "Way.order"
  |"FroWay","order"=>some "FroWay.order"
  |"ColumnWay","order"=>some "ColumnWay.order"
  |"FoldedWay","order"=>some "FoldedWay.order"
  |"MaskedWay","__init__"=>some "MaskedWay.__init__"
  |"MaskedWay","order"=>some "MaskedWay.order"
  |_,_=>none
 subs:=λc d=>match c,d with
  |"Picture","MaskedWay"=>some false
  |"Way","MaskedWay"=>some false
  |"FroWay","MaskedWay"=>some false
  |"ColumnWay","MaskedWay"=>some false
  |"FoldedWay","MaskedWay"=>some false
  |"MaskedWay","MaskedWay"=>some true
  |_,_=>none
 iG:=λc n=>match c,n with
  |"Picture","most"=>true
  |"Picture","rows"=>true
  |"MaskedWay","way"=>true
  |"MaskedWay","mask"=>true
  |_,_=>false
 l0:=λc=>match c with
  |"Way"=>true
  |"FroWay"=>true
  |"ColumnWay"=>true
  |"FoldedWay"=>true
  |_=>false
 word:=λw c=>match w,c with
  |_,_=>none
 words:=λw=>match w with
  |_=>false
 km:=λc=>match c with
  |_=>false
 turns:=1000000
@[simp] theorem ZcI:prog.defs "own_rows"=some yQ:=rfl
@[simp] theorem QcW:prog.defs "fault_of"=some qQ:=rfl
@[simp] theorem Zav:prog.defs "cells_by_rows"=some bN:=rfl
@[simp] theorem YbA:prog.defs "Picture.__init__"=some Yp:=rfl
@[simp] theorem vK:prog.defs "high"=some BB:=rfl
@[simp] theorem vJ:prog.defs "wide"=some Dg:=rfl
@[simp] theorem Ybw:prog.defs "size_of"=some eJ:=rfl
@[simp] theorem ZcL:prog.defs "has_cell"=some YR:=rfl
@[simp] theorem ZcU:prog.defs "ask_cell"=some yH:=rfl
@[simp] theorem qbr:prog.defs "shade_at"=some dM:=rfl
@[simp] theorem ybf:prog.defs "ask_size"=some dQ:=rfl
@[simp] theorem zaF:prog.defs "with_shades"=some qz:=rfl
@[simp] theorem Qbd:prog.defs "laid_out"=some dN:=rfl
@[simp] theorem qbl:prog.defs "ask_inks"=some dR:=rfl
@[simp] theorem YaT:prog.defs "ask_rising"=some cJ:=rfl
@[simp] theorem zaN:prog.defs "ask_shares"=some cH:=rfl
@[simp] theorem YbQ:prog.defs "handed"=some fF:=rfl
@[simp] theorem zbF:prog.defs "dots_of"=some eK:=rfl
@[simp] theorem zbG:prog.defs "ledger"=some fE:=rfl
@[simp] theorem YaA:prog.defs "entry_behind"=some aX:=rfl
@[simp] theorem Qbl:prog.defs "entry_of"=some dO:=rfl
@[simp] theorem QaG:prog.defs "nearest_ink"=some cX:=rfl
@[simp] theorem Ybe:prog.defs "bound_of"=some dP:=rfl
@[simp] theorem za5:prog.defs "Way.order"=some dg:=rfl
@[simp] theorem zaA:prog.defs "FroWay.order"=some bS:=rfl
@[simp] theorem Zad:prog.defs "ColumnWay.order"=some bC:=rfl
@[simp] theorem qad:prog.defs "FoldedWay.order"=some bB:=rfl
@[simp] theorem QS:prog.defs "MaskedWay.__init__"=some ba:=rfl
@[simp] theorem zae:prog.defs "MaskedWay.order"=some bA:=rfl
@[simp] theorem YaG:prog.defs "ways_within"=some bY:=rfl
@[simp] theorem Yay:prog.defs "folded_cells"=some bR:=rfl
@[simp] theorem zaG:prog.defs "folded_once"=some bZ:=rfl
@[simp] theorem ya0:prog.defs "_law_next"=some ZJ:=rfl
@[simp] theorem yaV:prog.defs "_law_great"=some cK:=rfl
@[simp] theorem QaD:prog.defs "_law_shades"=some b9:=rfl
@[simp] theorem qa5:prog.defs "_law_same"=some c7:=rfl
@[simp] theorem qa0:prog.defs "_law_most"=some c8:=rfl
@[simp] theorem Ya3:prog.defs "_law_inks"=some c9:=rfl
@[simp] theorem YaF:prog.defs "_law_shares"=some b8:=rfl
@[simp] theorem Qa4:prog.defs "_law_size"=some cx:=rfl
@[simp] theorem qbq:prog.defs "_law_way"=some aN:=rfl
@[simp] theorem ya4:prog.defs "_law_case"=some df:=rfl
@[simp] theorem Za1:prog.defs "_law_half"=some de:=rfl
@[simp] theorem Yad:prog.defs "_law_plain_case"=some bz:=rfl
@[simp] theorem YaK:prog.defs "_law_bound"=some cL:=rfl
@[simp] theorem qcI:prog.defs "law"=some j3:=rfl
@[simp] theorem zcj:prog.iG "Picture" "most"=true:=rfl
@[simp] theorem Ycx:prog.iG "Picture" "rows"=true:=rfl
@[simp] theorem ZbF:prog.subs "Picture" "MaskedWay"=some false:=rfl
@[simp] theorem qcf:prog.subs "Way" "MaskedWay"=some false:=rfl
@[simp] theorem ybK:prog.subs "FroWay" "MaskedWay"=some false:=rfl
@[simp] theorem Ybt:prog.subs "ColumnWay" "MaskedWay"=some false:=rfl
@[simp] theorem qbt:prog.subs "FoldedWay" "MaskedWay"=some false:=rfl
@[simp] theorem Ycf:prog.iG "MaskedWay" "way"=true:=rfl
@[simp] theorem Zb8:prog.iG "MaskedWay" "mask"=true:=rfl
@[simp] theorem Qbt:prog.subs "MaskedWay" "MaskedWay"=some true:=rfl
@[simp] theorem QbI:prog.meths "Picture" "__init__"=some "Picture.__init__":=rfl
@[simp] theorem zc2:prog.meths "Way" "order"=some "Way.order":=rfl
@[simp] theorem Qcx:prog.meths "FroWay" "order"=some "FroWay.order":=rfl
@[simp] theorem YbY:prog.meths "ColumnWay" "order"=some "ColumnWay.order":=rfl
@[simp] theorem ybX:prog.meths "FoldedWay" "order"=some "FoldedWay.order":=rfl
@[simp] theorem YbC:prog.meths "MaskedWay" "__init__"=some "MaskedWay.__init__":=rfl
@[simp] theorem qbV:prog.meths "MaskedWay" "order"=some "MaskedWay.order":=rfl
@[simp] theorem HY:prog.dy "LEFT"=some (.int 3):=rfl
@[simp] theorem MT:prog.dy "ODD"=some (.int 4):=rfl
theorem Zb(n:Nat)(f:String)(as:List MV)(h:MH):run prog (n+1) f as h=opt (prog.defs f) λd=>if as.length=d.np then yb h (qa prog (run prog n) d.body (as.map some++uc (d.ns-d.np) none) h) else .stuck:=rfl
theorem Qan(n:Nat)(a0 a1:MV)(h:MH):run prog (n+1) "cells_by_rows" [a0,a1] h=yb h (qa prog (run prog n) bN.body [some a0,some a1,none,none] h):=by rw[Zb,Zav];rfl
theorem ZbB(n:Nat)(a0:MV)(h:MH):run prog (n+1) "size_of" [a0] h=yb h (qa prog (run prog n) eJ.body [some a0] h):=by rw[Zb,Ybw];rfl
theorem Ybr(n:Nat)(a0 a1:MV)(h:MH):run prog (n+1) "shade_at" [a0,a1] h=yb h (qa prog (run prog n) dM.body [some a0,some a1] h):=by rw[Zb,qbr];rfl
theorem Qbp(n:Nat)(a0 a1:MV)(h:MH):run prog (n+1) "ask_size" [a0,a1] h=yb h (qa prog (run prog n) dQ.body [some a0,some a1] h):=by rw[Zb,ybf];rfl
theorem Ybi(n:Nat)(a0 a1 a2:MV)(h:MH):run prog (n+1) "laid_out" [a0,a1,a2] h=yb h (qa prog (run prog n) dN.body [some a0,some a1,some a2] h):=by rw[Zb,Qbd];rfl
theorem ybk(n:Nat)(a0 a1:MV)(h:MH):run prog (n+1) "ask_inks" [a0,a1] h=yb h (qa prog (run prog n) dR.body [some a0,some a1] h):=by rw[Zb,qbl];rfl
theorem qaR(n:Nat)(a0:MV)(h:MH):run prog (n+1) "ask_rising" [a0] h=yb h (qa prog (run prog n) cJ.body [some a0,none,none] h):=by rw[Zb,YaT];rfl
theorem yaO(n:Nat)(a0:MV)(h:MH):run prog (n+1) "ask_shares" [a0] h=yb h (qa prog (run prog n) cH.body [some a0] h):=by rw[Zb,zaN];rfl
theorem QbK(n:Nat)(a0 a1 a2 a3:MV)(h:MH):run prog (n+1) "handed" [a0,a1,a2,a3] h=yb h (qa prog (run prog n) fF.body [some a0,some a1,some a2,some a3] h):=by rw[Zb,YbQ];rfl
theorem zbB(n:Nat)(a0 a1:MV)(h:MH):run prog (n+1) "dots_of" [a0,a1] h=yb h (qa prog (run prog n) eK.body [some a0,some a1] h):=by rw[Zb,zbF];rfl
theorem ybN(n:Nat)(a0 a1 a2 a3:MV)(h:MH):run prog (n+1) "ledger" [a0,a1,a2,a3] h=yb h (qa prog (run prog n) fE.body [some a0,some a1,some a2,some a3,none,none,none] h):=by rw[Zb,zbG];rfl
theorem yaz(n:Nat)(a0 a1 a2 a3 a4:MV)(h:MH):run prog (n+1) "entry_behind" [a0,a1,a2,a3,a4] h=yb h (qa prog (run prog n) aX.body [some a0,some a1,some a2,some a3,some a4,none,none,none] h):=by rw[Zb,YaA];rfl
theorem Qbc(n:Nat)(a0 a1 a2 a3 a4:MV)(h:MH):run prog (n+1) "entry_of" [a0,a1,a2,a3,a4] h=yb h (qa prog (run prog n) dO.body [some a0,some a1,some a2,some a3,some a4,none,none] h):=by rw[Zb,Qbl];rfl
theorem yaH(n:Nat)(a0 a1:MV)(h:MH):run prog (n+1) "nearest_ink" [a0,a1] h=yb h (qa prog (run prog n) cX.body [some a0,some a1] h):=by rw[Zb,QaG];rfl
theorem qbs(n:Nat)(a0 a1:MV)(h:MH):run prog (n+1) "bound_of" [a0,a1] h=yb h (qa prog (run prog n) dP.body [some a0,some a1,none,none,none] h):=by rw[Zb,Ybe];rfl
theorem Ya0(n:Nat)(a0 a1 a2:MV)(h:MH):run prog (n+1) "Way.order" [a0,a1,a2] h=yb h (qa prog (run prog n) dg.body [some a0,some a1,some a2] h):=by rw[Zb,za5];rfl
theorem QaA(n:Nat)(a0 a1 a2:MV)(h:MH):run prog (n+1) "FroWay.order" [a0,a1,a2] h=yb h (qa prog (run prog n) bS.body [some a0,some a1,some a2,none,none,none] h):=by rw[Zb,zaA];rfl
theorem Zae(n:Nat)(a0 a1 a2:MV)(h:MH):run prog (n+1) "ColumnWay.order" [a0,a1,a2] h=yb h (qa prog (run prog n) bC.body [some a0,some a1,some a2] h):=by rw[Zb,Zad];rfl
theorem Yac(n:Nat)(a0 a1 a2:MV)(h:MH):run prog (n+1) "FoldedWay.order" [a0,a1,a2] h=yb h (qa prog (run prog n) bB.body [some a0,some a1,some a2,none] h):=by rw[Zb,qad];rfl
theorem YT(n:Nat)(a0 a1 a2:MV)(h:MH):run prog (n+1) "MaskedWay.__init__" [a0,a1,a2] h=yb h (qa prog (run prog n) ba.body [some a0,some a1,some a2] h):=by rw[Zb,QS];rfl
theorem Qad(n:Nat)(a0 a1 a2:MV)(h:MH):run prog (n+1) "MaskedWay.order" [a0,a1,a2] h=yb h (qa prog (run prog n) bA.body [some a0,some a1,some a2,none,none,none] h):=by rw[Zb,zae];rfl
theorem zaH(n:Nat)(a0:MV)(h:MH):run prog (n+1) "ways_within" [a0] h=yb h (qa prog (run prog n) bY.body [some a0,none] h):=by rw[Zb,YaG];rfl
theorem Yax(n:Nat)(a0:MV)(h:MH):run prog (n+1) "folded_cells" [a0] h=yb h (qa prog (run prog n) bR.body [some a0,none,none] h):=by rw[Zb,Yay];rfl
theorem zaI(n:Nat)(a0 a1:MV)(h:MH):run prog (n+1) "folded_once" [a0,a1] h=yb h (qa prog (run prog n) bZ.body [some a0,some a1,none,none,none,none] h):=by rw[Zb,zaG];rfl
theorem YaO(n:Nat)(a0 a1 a2:MV)(h:MH):run prog (n+1) "_law_great" [a0,a1,a2] h=yb h (qa prog (run prog n) cK.body [some a0,some a1,some a2,none,none] h):=by rw[Zb,yaV];rfl
theorem YaH(n:Nat)(a0 a1 a2 a3 a4:MV)(h:MH):run prog (n+1) "_law_shades" [a0,a1,a2,a3,a4] h=yb h (qa prog (run prog n) b9.body [some a0,some a1,some a2,some a3,some a4,none,none,none,none,none,none] h):=by rw[Zb,QaD];rfl
theorem Ya1(n:Nat)(a0 a1:MV)(h:MH):run prog (n+1) "_law_same" [a0,a1] h=yb h (qa prog (run prog n) c7.body [some a0,some a1] h):=by rw[Zb,qa5];rfl
theorem Qa1(n:Nat)(a0 a1:MV)(h:MH):run prog (n+1) "_law_most" [a0,a1] h=yb h (qa prog (run prog n) c8.body [some a0,some a1,none] h):=by rw[Zb,qa0];rfl
theorem ya1(n:Nat)(a0 a1 a2:MV)(h:MH):run prog (n+1) "_law_inks" [a0,a1,a2] h=yb h (qa prog (run prog n) c9.body [some a0,some a1,some a2,none,none,none,none] h):=by rw[Zb,Ya3];rfl
theorem QaE(n:Nat)(a0 a1:MV)(h:MH):run prog (n+1) "_law_shares" [a0,a1] h=yb h (qa prog (run prog n) b8.body [some a0,some a1,none,none,none] h):=by rw[Zb,YaF];rfl
theorem L0(n:Nat)(a0 a1 a2:MV)(h:MH):run prog (n+1) "_law_size" [a0,a1,a2] h=yb h (qa prog (run prog n) cx.body [some a0,some a1,some a2,none,none,none] h):=by rw[Zb,Qa4];rfl
theorem ybo(n:Nat)(a0 a1 a2:MV)(h:MH):run prog (n+1) "_law_way" [a0,a1,a2] h=yb h (qa prog (run prog n) aN.body [some a0,some a1,some a2,none,none,none,none,none] h):=by rw[Zb,qbq];rfl
theorem qa4(n:Nat)(a0 a1:MV)(h:MH):run prog (n+1) "_law_case" [a0,a1] h=yb h (qa prog (run prog n) df.body [some a0,some a1,none,none,none,none] h):=by rw[Zb,ya4];rfl
theorem Za5(n:Nat)(a0:MV)(h:MH):run prog (n+1) "_law_half" [a0] h=yb h (qa prog (run prog n) de.body [some a0] h):=by rw[Zb,Za1];rfl
theorem qac(n:Nat)(a0 a1:MV)(h:MH):run prog (n+1) "_law_plain_case" [a0,a1] h=yb h (qa prog (run prog n) bz.body [some a0,some a1,none,none,none,none,none,none,none,none] h):=by rw[Zb,Yad];rfl
theorem zaX(n:Nat)(a0 a1:MV)(h:MH):run prog (n+1) "_law_bound" [a0,a1] h=yb h (qa prog (run prog n) cL.body [some a0,some a1,none,none] h):=by rw[Zb,YaK];rfl
theorem YcQ(n:Nat)(a0:MV)(h:MH):run prog (n+1) "law" [a0] h=yb h (qa prog (run prog n) j3.body [some a0,none,none,none,none,none,none,none,none,none,none,none,none,none,none,none,none,none] h):=by rw[Zb,qcI];rfl
noncomputable def Qa(b:Bool)(r:List Int):FV:=sq b (r.map .int)
noncomputable def Zh(b1 b2:Bool)(rows:List (List Int)):FV:=sq b1 (rows.map (Qa b2))
noncomputable def Zq(most:Int)(rows:List (List Int)):FV:=.obj "Picture" ["most","rows"] [.int most,Zh true true rows]
structure Good (most:Int) (rows:List (List Int)):Prop where
 m1:1<=most
 ne:rows≠[]
 len:∃ n:Nat,0<n/\∀ r∈rows,r.length=n
 sh:∀ r∈rows,∀ v∈r,0<=v/\v<=most
 sz:rows.length<=1000
theorem zf:aO=4194304:=rfl
section
variable (h:MH)
theorem bP.obj(c:String)(fs:List (String×FV))(ds:MH):bP (h++[.obj c []]) (h++.obj c (fs.map λp=>(p.1,MV.f p.2))::ds):=by
 refine⟨by simp,λi d hi e=>?_⟩;by_cases hl:i<h.length
 ·rw[va hl] at e ⊢;exact .inl e
 ·have:i=h.length:=by simp at hi;lia
  subst this;simp at e;subst e;exact .inr ⟨fs,rfl⟩
end
noncomputable def Zr(rows:List (List Int))(i j:Nat)(v:Int):List (List Int):=rows.modify i (·.set j v)
noncomputable def mG(r:List Int):Cell:=.lst (r.map λi=>.f (.int i))
section
variable (h:MH)
theorem Nt(bd:MV->aF->MH->R (Option MV×aF))(e:List Int->MV)(hb:∀ r z h,∃ z',bd (e r) [z] h=.ok (some (.ref h.length),[z']) (h++[mG r])):∀(rows:List (List Int)) (acc:List MV) (z:Option MV) (h:MH),acc.length+rows.length<=aO ->
  Yl [] bd (rows.map e) acc [z] h=.ok (acc++(Xd rows.length).map λi=>MV.ref (h.length+i)) (h++rows.map mG)
 |[],acc,z,h,_=>by simp[Yl]
 |r::rows,acc,z,h,hl=>by
  obtain⟨z',e1⟩:=hb r z h;simp only[ud] at hl;have ih:=Nt bd e hb rows (acc++[.ref h.length]) z' (h++[mG r]) (by simp;lia);simp only[Wb,Yl,YJ,true_and,e1,R.aJ,ih,vg,ud,Uk];rw[if_pos (by lia)]
  congr 1
  ·simp[UB,vc];intro a _
   lia
  ·simp
noncomputable def own(h:MH)(rows:List (List Int)):MH:=h++(rows.map mG++[.lst ((Xd rows.length).map λi=>MV.ref (h.length+i))])
theorem Em(rows:List (List Int)):Yd (own h rows) (h.length+rows.length)=some ((Xd rows.length).map λi=>MV.ref (h.length+i)):=by
 unfold own Yd;rw[Ud (by lia),Ud (by simp)];simp
theorem DT(rows:List (List Int))(i:Nat)(r:List Int)(e:rows[i]?=some r):Yd (own h rows) (h.length+i)=some (r.map λi=>.f (.int i)):=by
 have hi:=(Xa.mp e).1;unfold own Yd;rw[Ud (by lia),va (by simp;lia)];simp[e,mG]
theorem ZcR(rows:List (List Int))(i j:Nat)(r:List Int)(v:Int)(e:rows[i]?=some r):yf (own h rows) (h.length+i) ((r.map λi=>MV.f (.int i)).set j (I v))=own h (Zr rows i j v):=by
 have hi:=(Xa.mp e).1;unfold own yf Zr;rw[xC _ _ (by lia),List.set_append_left _ _ (by simp;lia)]
 congr 2
 ·rw[show h.length+i-h.length=i by lia];apply vh;intro k;rw[List.getElem?_set,wc,wc,vx];by_cases hk:i=k
  ·subst hk;simp[hi,e,mG,uA];rw[xa hi] at e;simp at e;rw[e]
  ·simp[hk]
 ·simp
theorem Zci(rows:List (List Int)):zP (own h rows) (.ref (h.length+rows.length))=some (Zh false false rows):=by
 have hr:∀ m (xs:List Nat),(∀ i∈xs,i<rows.length)->(xs.map λi=>MV.ref (h.length+i)).mapM (Zo (own h rows) (m+2))=some (xs.map λi=>Qa false (rows.getD i [])):=by
  intro m xs
  induction xs with
  |nil=>intro _;rfl
  |cons x xs ih =>
   intro hx;have G5:=hx x (by simp);have e:rows[x]?=some (rows.getD x []):=by simp[Vg,G5]
   have e1:Zo (own h rows) (m+2) (.ref (h.length+x))=some (Qa false (rows.getD x [])):=by
    simp only[Zo,DT h rows x _ e,xh];have:(UA (λi=>MV.f (FV.int i)) (rows.getD x []))=((rows.getD x []).map FV.int).map MV.f:=by simp
    rw[this,sM];rfl
   simp only[Wb,Vo,e1,ih λi hi=>hx i (by simp[hi])];rfl
 unfold zP;simp only[Zo,Em,xh];rw[hr 2 _ (by simp)];simp only[wg,Zh,sq,Option.some.injEq]
 congr 1
 apply vh;intro k;by_cases hk:k<rows.length
 ·simp[hk,Vg]
 ·simp[hk]
theorem Yb3(rows:List (List Int)):∀ a∈Qm (own h rows) 5 (.ref (h.length+rows.length)),h.length<=a:=by
 intro a ha;simp only[Qm,Em,xm,ua,Xm,Wd,xj] at ha
 rcases ha with rfl|⟨m,⟨i,hi,rfl⟩,ha⟩
 ·lia
 ·have e:rows[i]?=some (rows[i]):=by simp[hi]
  simp only[Qm,DT h rows i _ e,xm,ua,Xm,Wd] at ha
  rcases ha with rfl|⟨m,⟨i,_,rfl⟩,ha⟩
  ·lia
  ·simp[Qm] at ha
theorem ycF(rows:List (List Int)):∃ t',QM (.ref (h.length+rows.length)) (own h rows)=.ok (.f (Zh false false rows)) (h++t'):=by
 obtain⟨t',e⟩:=D7 h (rows.map mG++[.lst ((Xd rows.length).map λi=>MV.ref (h.length+i))]) (Qm (own h rows) 5 (.ref (h.length+rows.length))) (Yb3 h rows);refine⟨t',?_⟩;unfold QM;rw[Zci,yd];unfold own at e ⊢;rw[e]
noncomputable abbrev qv(p:Int×Int):FV:=.tup [.int p.1,.int p.2]
noncomputable abbrev nX(p:(Int×Int)×Int):FV:=.tup [qv p.1,.int p.2]
noncomputable def yo(rows:List (List Int))(ps:List ((Int×Int)×Int)):List (List Int):=ps.foldl (λrows p=>Zr rows p.1.1.toNat p.1.2.toNat p.2) rows
noncomputable def Br(rows:List (List Int))(p:Int×Int):Prop:=0<=p.1/\p.1<rows.length/\0<=p.2/\∀ r∈rows,p.2<r.length
theorem qx(rows:List (List Int))(i j:Nat)(v:Int):(Zr rows i j v).length=rows.length:=by simp[Zr]
theorem Yx{rows:List (List Int)}{i j:Nat}{v:Int}{r:List Int}(hr:r∈Zr rows i j v):r∈rows\/∃ r0∈rows,r=r0.set j v:=by
 unfold Zr at hr;obtain⟨k,hk⟩:=Xw.mp hr;rw[vx] at hk;cases e:rows[k]? with
 |none=>rw[e] at hk;simp at hk
 |some r0 =>
  rw[e] at hk;have iU:(if i=k then r0.set j v else r0)=r:=by simpa using hk
  have hm:=Ue e;split at iU
  ·exact .inr ⟨r0,hm,iU.symm⟩
  ·exact .inl (iU ▸ hm)
theorem qbH{most:Int}{rows:List (List Int)}{i j:Nat}{v:Int}(g:Good most rows)(h0:0<=v)(h1:v<=most):Good most (Zr rows i j v):=by
 obtain⟨m1,ne,⟨w,w0,hw⟩,sh,sz⟩:=g;refine⟨m1,λe=>ne (Wo (by rw[<- qx rows i j v,e];rfl)),⟨w,w0,λr hr=>?_⟩,λr hr x hx=>?_,by rw[qx];exact sz⟩
 ·rcases Yx hr with hr|⟨r0,jY,rfl⟩
  ·exact hw r hr
  ·simp[hw r0 jY]
 ·rcases Yx hr with hr|⟨r0,jY,rfl⟩
  ·exact sh r hr x hx
  ·rcases Vu hx with hx|hx
   ·exact sh r0 jY x hx
   ·subst hx;exact⟨h0,h1⟩
theorem Zcf{rows:List (List Int)}{i j:Nat}{v:Int}{p:Int×Int}(h:Br rows p):Br (Zr rows i j v) p:=by
 refine⟨h.1,by rw[qx];exact h.2.1,h.2.2.1,λr hr=>?_⟩
 rcases Yx hr with hr|⟨r0,jY,rfl⟩
 ·exact h.2.2.2 r hr
 ·simp;exact h.2.2.2 r0 jY
theorem LP{α β γ:Type}(F:β×γ->α->β×γ)(G:β->α->β)(MM:∀ b a,(F b a).1=G b.1 a):∀(xs:List α)(z:β×γ),(xs.foldl F z).1=xs.foldl G z.1
 |[],z=>rfl
 |x::xs,z=>by rw[Vl,Vl,LP F G MM xs,MM]
end
@[simp] theorem A0(xs:List MV)(t:MH):Yd (.lst xs::t) 0=some xs:=rfl
@[simp] theorem Qdm(xs ys:List MV)(t:MH):yf (.lst xs::t) 0 ys=.lst ys::t:=rfl
noncomputable def pX(ns:List Int)(k:Int):Int:=if ns=[] then 0 else ns.getD (k%ns.length).toNat 0
noncomputable def ZY(ns:List Int)(k:Int):Int:=((pX ns k%2147483647+k*k*7919+11)*48271%2147483647)*((pX ns k%2147483647+k*k*7919+11)*48271%2147483647)%1999999973
theorem yu(ns:List Int)(k:Int):0<=ZY ns k/\ZY ns k<1999999973:=⟨xr _ (by decide),Xp _ (by decide)⟩
noncomputable abbrev atC(k:Int):Cell:=.lst [I k]
theorem Yq{i j:Int}(h:j.natAbs<2^64):qD i j:=.inr (.inl h)
section
variable {h:MH}
@[simp] theorem qc6(a:Nat)(y:MV):l6 "append" (.ref a) [y] h=opt (Yd h a) λxs=>if xs.length<aO then .ok (.f .bI) (yf h a (xs++[y])) else .stuck:=rfl
@[simp] theorem Qdf(a:Nat)(i:Int)(y:MV):l6 "insert" (.ref a) [.f (.int i),y] h=opt (Yd h a) λxs=>if xs.length<aO/\-(2^63)<=i/\i<2^63 then .ok (.f .bI) (yf h a (LS xs i y)) else .stuck:=rfl
end
theorem zbJ{bd:MV->aF->MH->RS}(N:Nat)(Pv:Nat->aF->MH->Prop)(σ:aF)(h:MH)(h0:Pv 0 σ h)
  (step:∀ i σ h,i<N->Pv i σ h->∃ σ' h',bd (I i) σ h=.next σ' h'/\Pv (i+1) σ' h'):∃ σ' h',qM [] bd ((Xd N).map λ(k:Nat)=>I k) σ h=.next σ' h'/\Pv N σ' h':=by
 have:=Ez (bd:=bd) (e:=λk:Nat=>I k) Pv (Xd N) 0 σ h h0 (λj y σ h hj pj=>by
  have hl:j<N:=by have:=(Xa.mp hj).1;simpa using this
  have hy:y=j:=by rw[uy hl] at hj;exact(Option.some.inj hj).symm
  subst hy;simp only[Wx] at pj ⊢;exact step y σ h hl pj)
 simpa using this
noncomputable def Own(h g:MH)(xs:List MV):Prop:=∃ t,g=h++.lst xs::t
namespace Own
variable {h g:MH} {xs:List MV}
theorem new(h:MH):Own h (h++[.lst xs]) xs:=⟨[],rfl⟩
theorem cell(o:Own h g xs)(c:Cell):Yd (c::g) (h.length+1)=some xs:=by
 obtain⟨t,rfl⟩:=o;have:=yk (c::h) t xs;simpa using this
end Own
theorem mod_lt(i j:Int)(hj:0<j):0<=i%j/\i%j<j:=⟨xr _ (by lia),Xp _ hj⟩
theorem IW(ns:List Int)(hn:ns≠[])(k:Int):cW (ns.map λi=>MV.f (.int i)) (k%ns.length)=some (I (pX ns k)):=by
 have hl:0<ns.length:=uo.mpr hn;have h0:0<=k%(ns.length:Int):=xr _ (by lia);have h1:k%(ns.length:Int)<ns.length:=Xp _ (by lia);rw[zK _ _ h0,wc,xa (by lia)];simp[pX,hn,Vg,xa (show(k%(ns.length:Int)).toNat<ns.length by lia)]
noncomputable def Nx(r:RS)(P:aF->MH->Prop):Prop:=∃ σ h,r=.next σ h/\P σ h
noncomputable def cQ(r:R MV)(P:MV->MH->Prop):Prop:=∃ v h,r=.ok v h/\P v h
@[simp] theorem DH(σ:aF)(h:MH)(P:aF->MH->Prop):Nx (.next σ h) P↔P σ h:=⟨λ⟨_,_,e,p⟩=>by cases e;exact p,λp=>⟨_,_,rfl,p⟩⟩
@[simp] theorem JC(v:MV)(h:MH)(P:MV->MH->Prop):cQ (.ok v h) P↔P v h:=⟨λ⟨_,_,e,p⟩=>by cases e;exact p,λp=>⟨_,_,rfl,p⟩⟩
section
variable {bd:MV->aF->MH->RS} {σ:aF} {h:MH} {k:aF->MH->RS}
theorem yt{Q:RS->Prop}(N:Nat)(Pv:Nat->aF->MH->Prop)(h0:Pv 0 σ h)(step:∀ i σ h,i<N->Pv i σ h->∀ Q:aF->MH->Prop,(∀ σ h,Pv (i+1) σ h->Q σ h)->Nx (bd (I i) σ h) Q)
  (fin:∀ σ' h',Pv N σ' h'->Q (k σ' h')):Q ((qM [] bd ((Xd N).map λ(k:Nat)=>I k) σ h).bind k):=by
 obtain⟨σ',h',e,p⟩:=zbJ N Pv σ h h0 λi σ h hi p=>step i σ h hi p _ λ_ _ x=>x;rw[e];exact fin σ' h' p
theorem OB{α:Type}{e:α->MV}{Q:RS->Prop}(ys:List α)(Pv:Nat->aF->MH->Prop)(h0:Pv 0 σ h)(step:∀ i y σ h,ys[i]?=some y->Pv i σ h->∀ Q:aF->MH->Prop,(∀ σ h,Pv (i+1) σ h->Q σ h)->Nx (bd (e y) σ h) Q)
  (fin:∀ σ' h',Pv ys.length σ' h'->Q (k σ' h')):Q ((qM [] bd (ys.map e) σ h).bind k):=by
 obtain⟨σ',h',e,p⟩:=Ez (bd:=bd) (e:=e) Pv ys 0 σ h h0 (λj y σ h hj pj=>by simp only[Wx] at pj ⊢;exact step j y σ h hj pj _ λ_ _ x=>x);rw[e];exact fin σ' h' (by simpa using p)
end
theorem cQ.of{r:R MV}{P:MV->MH->Prop}(k:∀ Q:MV->MH->Prop,(∀ v h,P v h->Q v h)->cQ r Q):cQ r P:=k P λ_ _ x=>x
theorem Yb9(c:Cell)(g:MH)(d:Cell):kill [g.length+1] (c::(g++[d]))=c::(g++[.dead]):=by
 unfold kill;refine vh λi=>?_;rw[xl];cases i with
 |zero=>simp
 |succ i =>
  simp only[xo,Xc]
  rcases WF i g.length with hi|hi|hi
  ·rw[va hi,va hi];have:¬ i+1=g.length+1:=by lia
   simp only[this,if_false];cases g[i]? <;> rfl
  ·subst hi;simp
  ·rw[Vs (by simp;lia),Vs (by simp;lia)];rfl
theorem Yco(c:Cell)(g:MH)(ys:List FV):QM (.ref (g.length+1)) (c::(g++[.lst (ys.map .f)]))=.ok (.f (.lst ys)) (c::(g++[.dead])):=by
 rw[D' _ _ ys ((Own.new (xs:=ys.map .f) g).cell c),Yb9]
section
variable {h:MH} (sub:String->String->Option Bool) (t:String)
@[simp] theorem xR:kg sub h (.f .bI) t=some false:=rfl
@[simp] theorem CD(b:Bool):kg sub h (.f (.bl b)) t=some (decide (t="bool")||decide (t="int")):=rfl
@[simp] theorem xT(i:Int):kg sub h (.f (.int i)) t=some (decide (t="int")):=rfl
@[simp] theorem xP(s:Str):kg sub h (.f (.str s)) t=some (decide (t="str")):=rfl
@[simp] theorem xO(xs:List FV):kg sub h (.f (.tup xs)) t=some (decide (t="tuple")):=rfl
@[simp] theorem xS(xs:List FV):kg sub h (.f (.lst xs)) t=some (decide (t="list")):=rfl
@[simp] theorem xQ(c:String)(ns:List String)(xs:List FV):kg sub h (.f (.obj c ns xs)) t=sub c t:=rfl
end
noncomputable def Mq:Nat->FV->Bool
 |_+1,.bI=>true
 |_+1,.int _=>true
 |_+1,.str s=>rG s
 |n+1,.tup xs=>decide (xs.length<=aO)&&xs.all (Mq n)
 |n+1,.lst xs=>decide (xs.length<=aO)&&xs.all (Mq n)
 |_,_=>false
noncomputable def isQ:Nat->FV->Bool
 |_+1,.int _=>true
 |_+1,.str s=>rG s
 |n+1,.tup xs=>decide (xs.length<=aO)&&xs.all (isQ n)
 |n+1,.lst xs=>decide (xs.length<=aO)&&xs.all (isQ n)
 |_,_=>false
@[simp] theorem Ih(a b:Bool):lH (.bl a) (.bl b)=some (a==b):=by simp[lH,fR]
theorem D8{α:Type}:∀ xs:List α,xs.zip xs=xs.map λx=>(x,x)
 |[]=>rfl
 |x::r=>by simp[D8 r]
theorem Iq(xs:List MV)(i:Int)(h0:0<=i)(h1:i<=xs.length):j8 xs none (some i)=xs.take i.toNat:=by
 have e:lx xs.length xs.length (some i)=i.toNat:=by simp only[lx];rw[if_neg (by lia)];lia
 simp only[j8,e];simp[lx]
theorem Qc4(xs:List MV)(i:Int)(h0:0<=i)(h1:i<=xs.length):j8 xs (some i) none=xs.drop i.toNat:=by
 have e:lx xs.length 0 (some i)=i.toNat:=by simp only[lx];rw[if_neg (by lia)];lia
 simp only[j8,e];exact Vj (by simp[lx])
structure Drawn (most:Int) (rows:List (List Int)) (i j:Nat):Prop where
 len:rows.length=i
 lP:∀ r∈rows,r.length=j
 sh:∀ r∈rows,∀ v∈r,0<=v/\v<=most
theorem Drawn.snoc{most:Int}{rows:List (List Int)}{i j:Nat}{r:List Int}(d:Drawn most rows i j)(hr:r.length=j/\∀ v∈r,0<=v/\v<=most):Drawn most (rows++[r]) (i+1) j :=
 ⟨by simp[d.len],λx hx=>by
  rcases Xf.mp hx with hx|hx
  ·exact d.lP x hx
  ·simp at hx;subst hx;exact hr.1,λx hx=>by
  rcases Xf.mp hx with hx|hx
  ·exact d.sh x hx
  ·simp at hx;subst hx;exact hr.2⟩
theorem BJ(xs:List MV)(i:Int)(h0:0<=i)(h1:i<xs.length):∃ v∈xs,cW xs i=some v:=by
 rw[zK xs i h0,xa (by lia)];exact⟨_,wj (by lia),rfl⟩
theorem Drawn.good{most:Int}{rows:List (List Int)}{i j:Nat}(d:Drawn most rows i j)(hm:1<=most)(hi:1<=i)(Ai:i<=1000)(hj:1<=j):Good most rows :=
 ⟨hm,λe=>by have:=d.len;rw[e] at this;simp at this;lia,⟨j,hj,d.lP⟩,d.sh,by rw[d.len];exact Ai⟩
theorem ZcT(xs ys:List FV)(h:MH)(c:xs.length+ys.length<=aO):Qd true .add (.f (.lst xs)) (.f (.lst ys)) h=.ok (.f (.lst (xs++ys))) h:=by
 have:Qt true (xs.map MV.f++ys.map MV.f) h=.ok (.f (.lst (xs++ys))) h:=by rw[<- Uh,Yg]
 simp[Qd,c,this]
end MP
end
section
namespace MP
open PySem
section
variable {h:MH}
@[simp] theorem qc4(a:Nat)(z:MV):l6 "extend" (.ref a) [z] h=opt (Yd h a) λxs=>opt (listOf h z) λys=>if xs.length+ys.length<=aO then .ok (.f .bI) (yf h a (xs++ys)) else .stuck:=rfl
@[simp] theorem Ct(a:Nat):l6 "pop" (.ref a) [] h=opt (Yd h a) λxs=>opt (xs[xs.length-1]?) λy=>.ok y (yf h a (xs.take (xs.length-1))):=rfl
@[simp] theorem qdt(a:Nat)(i:Int):l6 "pop" (.ref a) [.f (.int i)] h=opt (Yd h a) λxs=>opt (jW xs.length i) λk=>opt (xs[k]?) λy=>if -(2^63)<=i/\i<2^63 then .ok y (yf h a (xs.take k++xs.drop (k+1))) else .stuck:=rfl
end
theorem zcm{α β:Type}{bd:MV->aF->MH->RS}{σ:aF}{h:MH}{k:aF->MH->RS}{Q:RS->Prop}{e:α->MV}(ys:List α)(b:β)(st:β->aF)(hp:β->MH)(f:β->α->β)(h1:σ=st b)(h2:h=hp b)
  (step:∀ y∈ys,∀ b,bd (e y) (st b) (hp b)=.next (st (f b y)) (hp (f b y))) (fin:Q (k (st (ys.foldl f b)) (hp (ys.foldl f b)))):Q ((qM [] bd (ys.map e) σ h).bind k):=by
 subst h1;subst h2;rw[BR ys b step];exact fin
theorem OY{c:aF->MH->R MV}{bd:aF->MH->RS}(N:Nat)(Pv:Nat->aF->MH->Prop)(step:∀ i σ h,i<N->Pv i σ h->∃ h1 σ' h',c σ h=.ok (B true) h1/\bd σ h1=.next σ' h'/\Pv (i+1) σ' h')
  (fin:∀ σ h,Pv N σ h->c σ h=.ok (B false) h):∀(fuel i:Nat)(σ:aF)(h:MH),i<=N->N<fuel+i->Pv i σ h->∃ σ' h',YI c bd fuel σ h=.next σ' h'/\Pv N σ' h'
 |0,i,σ,h,h1,h2,_=>by lia
 |fuel+1,i,σ,h,h1,h2,p=>by
  by_cases hi:i=N
  ·subst hi;exact⟨σ,h,by simp[YI,fin σ h p],p⟩
  ·obtain⟨h1,σ',h',e1,e2,p'⟩:=step i σ h (by lia) p;obtain⟨σ2,h2,e3,p2⟩:=OY N Pv step fin fuel (i+1) σ' h' (by lia) (by lia) p';exact⟨σ2,h2,by simp[YI,e1,e2,e3],p2⟩
theorem Ey{c:aF->MH->R MV}{bd:aF->MH->RS}{σ:aF}{h:MH}{k:aF->MH->RS}{Q:RS->Prop}{fuel:Nat}(N:Nat)(Pv:Nat->aF->MH->Prop)(hf:N<fuel)(h0:Pv 0 σ h)
  (step:∀ i σ h,i<N->Pv i σ h->c σ h=.ok (B true) h/\∀ Q:aF->MH->Prop,(∀ σ h,Pv (i+1) σ h->Q σ h)->Nx (bd σ h) Q)
  (fin:∀ σ h,Pv N σ h->c σ h=.ok (B false) h) (go:∀ σ h,Pv N σ h->Q (k σ h)):Q ((YI c bd fuel σ h).bind k):=by
 obtain⟨σ',h',e,p⟩:=OY (c:=c) (bd:=bd) N Pv (λi σ h hi p=>by
  obtain⟨e1,st⟩:=step i σ h hi p;obtain⟨σ',h',e2,p'⟩:=st _ λ_ _ x=>x;exact⟨h,σ',h',e1,e2,p'⟩) fin fuel 0 σ h (um _) (by lia) h0
 rw[e];exact go σ' h' p
section
variable {most:Int} {rows r1 r2:List (List Int)} {H W:Nat}
theorem Drawn.cons(d:Drawn most rows H W)(hH:1<=H):∃ r rs,rows=r::rs/\r.length=W/\rs.length+1=H:=by
 cases rows with
 |nil=>have:=d.len;simp at this;lia
 |cons r rs=>exact⟨r,rs,rfl,d.lP r (by simp),by have:=d.len;simpa using this⟩
end
theorem KZ{α β:Type}(f:α->FV)(g:β->FV)(xs:List α)(ys:List β):UA (λp:MV×MV=>Zi [p.1,p.2]) ((xs.map (MV.f∘f)).zip (ys.map (MV.f∘g)))=(xs.zip ys).map λp=>MV.f (.tup [f p.1,g p.2]):=by
 rw[List.zip_map,wf];rfl
theorem zbv{a:Nat}{xs:List MV}{h:MH}(e:Yd h a=some xs):a6 [(a,xs)] h:=λp hp=>by simp at hp;subst hp;exact e
noncomputable abbrev Za(p:Nat×Nat):FV:=.tup [.int p.1,.int p.2]
structure gF (most:Int) (ai:List Int):Prop where
 up:ai.Pairwise (· < ·)
 gZ:∀ v∈ai,0<=v/\v<=most
 z:0∈ai
 m:most∈ai
 sz:ai.length<=50
theorem Ja{ai:List Int}(up:ai.Pairwise (· < ·)){i j:Nat}(h:i<j)(hj:j<ai.length):ai.getD i 0<ai.getD j 0:=by
 have:=(List.pairwise_iff_getElem.mp up) i j (by lia) hj h;simpa[Vg,hj,show i<ai.length by lia] using this
theorem Oz{ai:List Int}(up:ai.Pairwise (· < ·)){i j:Nat}(h:i<=j)(hj:j<ai.length):ai.getD i 0<=ai.getD j 0:=by
 by_cases e:i=j
 ·subst e;exact xz _
 ·exact Int.le_of_lt (Ja up (by lia) hj)
theorem Kv{ai:List Int}{v:Int}(h:v∈ai):∃ i,i<ai.length/\ai.getD i 0=v:=by
 obtain⟨i,hi,e⟩:=wu h;exact⟨i,hi,by simp[Vg,hi,e]⟩
theorem J2{ai:List Int}{i:Nat}(h:i<ai.length):ai.getD i 0∈ai:=by simp[Vg,h]
namespace gF
variable {most:Int} {ai:List Int} (K:gF most ai)
include K
theorem pos:0<ai.length:=List.length_pos_of_mem K.z
theorem head:ai.getD 0 0=0:=by
 obtain⟨i,hi,e⟩:=Kv K.z;have h1:=Oz K.up (um i) hi;have h2:=K.gZ _ (J2 K.pos)
 lia
theorem last:ai.getD (ai.length-1) 0=most:=by
 have hp:=K.pos;obtain⟨i,hi,e⟩:=Kv K.m;have h1:=Oz K.up (show i<=ai.length-1 by lia) (by lia);have h2:=K.gZ _ (J2 (show ai.length-1<ai.length by lia))
 lia
theorem two(h:1<=most):2<=ai.length:=by
 have hp:=K.pos;by_cases c:ai.length=1
 ·have:=K.head;have l:=K.last;rw[c] at l;simp only[Nat.sub_self] at l;lia
 ·lia
end gF
end MP
namespace MP
open PySem
theorem iT{ks:List Int}{k x:Int}:x∈zA ks k↔x∈ks\/x=k:=by
 unfold zA;split
 ·next h=>exact⟨.inl,λe=>e.elim id λz=>z ▸ h⟩
 ·simp
structure jM (most:Int) (ks:List Int) (n:Nat):Prop where
 nd:ks.Nodup
 gZ:∀ v∈ks,0<=v/\v<=most
 z:0∈ks
 m:most∈ks
 sz:ks.length<=n
theorem jM.start{most:Int}(h:1<=most):jM most (zA (zA [] 0) most) 2:=by
 have e:zA (zA [] 0) most=[0,most]:=by simp[zA,show ¬ most=0 by lia]
 rw[e];exact⟨by simp;lia,by simp;lia,by simp,by simp,by simp⟩
theorem jM.add{most:Int}{ks:List Int}{n:Nat}(d:jM most ks n){k:Int}(h:0<=k/\k<=most):jM most (zA ks k) (n+1):=by
 refine⟨?_,λv hv=>?_,iT.mpr (.inl d.z),iT.mpr (.inl d.m),?_⟩
 ·unfold zA;split
  ·exact d.nd
  ·next hn=>exact Ul.mpr ⟨d.nd,by simp,λa ha b hb=>by simp at hb;subst hb;exactλe=>hn (e ▸ ha)⟩
 ·rcases iT.mp hv with hv|rfl
  ·exact d.gZ v hv
  ·exact h
 ·unfold zA;have:=d.sz;split
  ·lia
  ·simp;lia
theorem jM.ai{most:Int}{ks:List Int}{n:Nat}(d:jM most ks n)(hn:n<=50):gF most (Y2 ks):=by
 have p:=IS ks;have nd:(Y2 ks).Nodup:=p.nodup_iff.mpr d.nd;refine⟨?_,λv hv=>d.gZ v (p.mem_iff.mp hv),p.mem_iff.mpr d.z,p.mem_iff.mpr d.m,by rw[p.length_eq];have:=d.sz;lia⟩;have le:=LO ks;exact(List.pairwise_and_iff.mpr ⟨le,nd⟩).imp λh=>by have:=h.1;have:=h.2;lia
theorem zcs(h:MH)(b:Bool)(p:Int)(ms:List Int):ZF .ly (I p) (.f (Qa b ms)) h=some (!decide (p∈ms)):=by
 have e1:((ms.map FV.int).map MV.f).mapM (zP h)=some (ms.map FV.int):=sM h 4 _;have e2:nC (.int p) (ms.map FV.int)=some (decide (p∈ms)):=by
  have ha:(ms.map FV.int).all (cj 8)=true:=by
   rw[vo];intro x hx;obtain⟨y,_,rfl⟩:=Wd.mp hx;rfl
  unfold nC;rw[if_pos ⟨rfl,ha⟩]
  congr 1
  induction ms with
  |nil=>rfl
  |cons a ms ih =>
   simp only[Wb,ut,fR];have ih':=ih (sM h 4 _) (by simp only[Wb,List.all_cons,Wa] at ha;exact ha.2);rw[ih'];by_cases c:a=p
   ·subst c;simp
   ·have c':¬ p=a:=λz=>c z.symm;simp[c,c']
 have e4:Qb h (.f (Qa b ms))=some ((ms.map FV.int).map MV.f):=by simp[Qa]
 simp only[ZF,Zdm,xh,e4,e1,e2,wg]
theorem Kr{α:Type}{bd:MV->aF->MH->R (Option MV×aF)}{h:MH}{G:qG}{e g:α->MV}{t:α->Bool}{caps:aF}(hg:a6 G h):∀(ys:List α)(acc:List MV)(z:Option MV),acc.length+ys.length<=aO ->
  (∀ y∈ys,∀ z,∃ z',bd (e y) (z::caps) h=.ok (if t y=true then some (g y) else none,z'::caps) h)->Yl G bd (ys.map e) acc (z::caps) h=.ok (acc++(ys.filter t).map g) h
 |[],acc,z,_,_=>by simp[Yl,hg]
 |y::r,acc,z,hl,hb=>by
  obtain⟨z',e'⟩:=hb y (by simp) z;simp only[ud] at hl;have ih:=λBa (rS:Ba.length+r.length<=aO)=>Kr (bd:=bd) (e:=e) (g:=g) (t:=t) (caps:=caps) hg r Ba z' rS (λy hy z=>hb y (by simp[hy]) z);cases ht:t y with
  |true =>
   simp[ht] at e';simp[Yl,hg,e',ih (acc++[g y]) (by simp;lia),ht]
   lia
  |false =>
   simp[ht] at e';simp[Yl,hg,e',ih acc (by lia),ht]
   lia
structure cb (h:MH) (iv:MV) (ai:List Int):Prop where
 q:Qb h iv=some (ai.map (MV.f∘FV.int))
 g:a6 (Zd h iv) h
theorem cb.row(h:MH)(b:Bool)(ai:List Int):cb h (.f (Qa b ai)) ai:=⟨by simp[Qa],by intro p hp;exact absurd hp (by simp[Qa])⟩
theorem cb.ref{h:MH}{a:Nat}{ai:List Int}(e:Yd h a=some (ai.map (MV.f∘FV.int))):cb h (.ref a) ai:=⟨e,by
 have:Zd h (.ref a)=[(a,ai.map (MV.f∘FV.int))]:=by simp[Zd,e]
 rw[this];exact zbv e⟩
theorem cb.app{h:MH}{iv:MV}{ai:List Int}(v:cb h iv ai)(t:MH):cb (h++t) iv ai:=by
 cases iv with
 |f x =>
  refine⟨?_,λp hp=>?_⟩
  ·have:=v.q;cases x <;> first|exact this|(simp[Qb] at this)
  ·cases x <;> simp[Zd] at hp
 |ref a=>exact cb.ref (QbM v.q)
 |tup xs=>exact⟨v.q,λp hp=>by simp[Zd] at hp⟩
 |exc c=>exact absurd v.q (by simp[Qb])
theorem qcT{iv:MV}{xs:List MV}(h:MH)(e:qk iv=some xs):Qb h iv=some xs:=by
 cases iv with
 |f x=>cases x <;> first|exact e|(simp[qk] at e)
 |ref a=>simp[qk] at e
 |tup ys=>exact e
 |exc c=>simp[qk] at e
theorem cb.slice{h:MH}{iv:MV}{ai:List Int}(v:cb h iv ai){lo hi:Option Int}{l:List Int}(e:j8 (ai.map (MV.f∘FV.int)) lo hi=l.map (MV.f∘FV.int)):∃ b,oI true iv lo hi h=.ok (.f (Qa b l)) h:=by
 unfold oI;cases et:qk iv with
 |some xs =>
  have:=qcT h et;rw[v.q] at this;cases this;exact⟨true,by simp only[e,K8];rfl⟩
 |none =>
  exact⟨false,by simp only[v.q,yd,e,YaS];rfl⟩
theorem K4(ai:List Int)(h2:1<=ai.length):j8 (ai.map (MV.f∘FV.int)) none (some (-1))=(ai.take (ai.length-1)).map (MV.f∘FV.int):=by
 simp only[j8,lx,xc,xq,Xx];rw[if_pos (by decide),show((-1:Int)+(ai.length:Int)).toNat=ai.length-1 by lia];simp[List.map_take]
theorem J'(ai:List Int)(h2:1<=ai.length):j8 (ai.map (MV.f∘FV.int)) (some 1) none=(ai.drop 1).map (MV.f∘FV.int):=by
 have:=Qc4 (ai.map (MV.f∘FV.int)) 1 (by decide) (by simp;lia);rw[this];simp[List.map_drop]
theorem Kn{α:Type}{G:qG}{bd:MV->aF->MH->R (Option MV×aF)}{h:MH}{e g:α->MV}(hg:a6 G h)(Iv:aF->Prop):∀(ys:List α)(acc:List MV)(σ:aF),Iv σ->acc.length+ys.length<=aO ->
  (∀ y∈ys,∀ σ,Iv σ->∃ σ',bd (e y) σ h=.ok (some (g y),σ') h/\Iv σ')->Yl G bd (ys.map e) acc σ h=.ok (acc++ys.map g) h
 |[],acc,σ,_,_,_=>by simp[Yl,hg]
 |y::r,acc,σ,i0,hl,hb=>by
  obtain⟨σ',e1,i1⟩:=hb y (by simp) σ i0;simp only[ud] at hl;have ih:=Kn (bd:=bd) (e:=e) (g:=g) hg Iv r (acc++[g y]) σ' i1 (by simp;lia) λy hy=>hb y (by simp[hy]);simp only[Wb,Yl,hg,true_and,e1,R.aJ,ih];rw[if_pos (by lia)];simp
noncomputable def Pd(c:String)(r:RS)(P:aF->MH->Prop)(X:MH->Prop):Prop:=(∃ σ h,r=.next σ h/\P σ h)\/∃ h,r=.exc c h/\X h
noncomputable def Pe(c:String)(r:R MV)(P:MV->MH->Prop)(X:MH->Prop):Prop:=(∃ v h,r=.ok v h/\P v h)\/∃ h,r=.exc c h/\X h
@[simp] theorem Bu(c:String)(σ:aF)(h:MH)(P:aF->MH->Prop)(X:MH->Prop):Pd c (.next σ h) P X↔P σ h:=⟨λz=>by rcases z with ⟨_,_,e,p⟩|⟨_,e,_⟩ <;> cases e;exact p,λp=>.inl ⟨_,_,rfl,p⟩⟩
@[simp] theorem DM(c:String)(h:MH)(P:aF->MH->Prop)(X:MH->Prop):Pd c (.exc c h) P X↔X h:=⟨λz=>by rcases z with ⟨_,_,e,_⟩|⟨_,e,p⟩ <;> cases e;exact p,λp=>.inr ⟨_,rfl,p⟩⟩
@[simp] theorem JW(c:String)(v:MV)(h:MH)(P:MV->MH->Prop)(X:MH->Prop):Pe c (.ok v h) P X↔P v h:=⟨λz=>by rcases z with ⟨_,_,e,p⟩|⟨_,e,_⟩ <;> cases e;exact p,λp=>.inl ⟨_,_,rfl,p⟩⟩
@[simp] theorem DN(c:String)(h:MH)(P:MV->MH->Prop)(X:MH->Prop):Pe c (.exc c h) P X↔X h:=⟨λz=>by rcases z with ⟨_,_,e,_⟩|⟨_,e,p⟩ <;> cases e;exact p,λp=>.inr ⟨_,rfl,p⟩⟩
noncomputable def yj(H W:Nat):List (Nat×Nat):=(Xd H).flatMap λr=>(Xd W).map λc=>(r,c)
noncomputable def zU(H W:Nat):List (Nat×Nat):=(Xd H).flatMap λr=>(Xd W).map λc=>(r,if r%2=0 then c else W-1-c)
noncomputable def qU(H W:Nat):List (Nat×Nat):=(yj W H).map λp=>(p.2,p.1)
theorem ZN(H W:Nat):(yj H W).length=H*W:=by
 unfold yj;rw[Uy];simp only[xc,List.length_range]
 induction H with
 |zero=>simp
 |succ H ih=>rw[Wv,Uh,List.sum_append,ih,Xz];simp
theorem KN(H W:Nat):(zU H W).length=H*W:=by
 rw[<- ZN H W];unfold zU yj;rw[Uy,Uy];simp
theorem Qcr(H W:Nat):(qU H W).length=H*W:=by unfold qU;rw[xc,ZN,Us]
theorem YbI(H W:Nat)(hW:1<=W):(Xd (H*W)).map (λk=>(k/W,k%W))=yj H W:=by
 unfold yj
 induction H with
 |zero=>simp
 |succ H ih =>
  rw[Xz,Nat.one_mul,List.range_add,Uh,ih,Wv,vy,wf]
  congr 1
  simp only[List.flatMap_cons,List.flatMap_nil,wn];refine XD λj hj=>?_;have hj:=xj.mp hj;simp only[xu,Prod.mk.injEq];rw[Us H W,Nat.mul_add_div (by lia),Nat.mul_add_mod,Nat.div_eq_of_lt hj,Uq hj];exact⟨by lia,rfl⟩
theorem Qb9(H W:Nat):(yj H W).map (λp=>(p.1,if p.1%2=0 then p.2 else W-1-p.2))=zU H W:=by
 unfold yj zU;rw[List.map_flatMap]
 congr 1
 funext r;rw[wf];rfl
theorem Zco(r W:Nat):((Xd W).map λc=>(r,c)).reverse=(Xd W).map λc=>(r,W-1-c):=by
 apply List.ext_getElem
 ·simp
 ·intro i h1 h2;simp at h1 h2;rw[List.getElem_reverse];simp
theorem pY(a b:Cell)(h t:MH)(xs:List MV):Yd (a::b::(h++.lst xs::t)) (h.length+2)=some xs:=by
 have:=yk (a::b::h) t xs;simpa using this
theorem sI(a b:Cell)(h t:MH)(xs ys:List MV):yf (a::b::(h++.lst xs::t)) (h.length+2) ys=a::b::(h++.lst ys::t):=by
 have:=yA (a::b::h) t xs ys;simpa using this
noncomputable def zr(b n:Nat):List MV:=(Xd n).map λi=>MV.ref (b+i)
noncomputable abbrev lM(r:List Int):Cell:=.lst (r.map λi=>MV.f (.int i))
noncomputable def Qs(b:Nat)(h:MH)(rows:List (List Int)):MH:=h++.lst (zr (h.length+b+1) rows.length)::rows.map lM
theorem ZbG(b n:Nat):zr b n++[.ref (b+n)]=zr b (n+1):=by simp[zr,Wv]
theorem Zce(b n:Nat)(hn:0<n):zj (zr b n)=none:=by
 cases n with
 |zero=>lia
 |succ n=>simp[zr,UB,zj]
theorem qbF{h h':MH}{a b n:Nat}(e:Yd h' a=some (zr b n))(hn:0<n):Qg h (.ref a) h'=.ok (.ref a) h':=by
 unfold Qg;split
 ·simp only[e,Zce b n hn];split <;> rfl
 ·rfl
theorem Jy(c d:Cell)(h:MH)(rows:List (List Int))(i:Nat)(r:List Int)(hr:rows[i]?=some r):Yd (c::d::Qs 2 h rows) (h.length+3+i)=some (r.map λi=>MV.f (.int i)):=by
 unfold Yd Qs;rw[show h.length+3+i=(h.length+1+i)+2 by lia];simp only[xo];rw[Ud (by lia),show h.length+1+i-h.length=i+1 by lia];simp only[xo,wc,hr,wg]
theorem Ycg(c d:Cell)(h:MH)(rows:List (List Int))(i:Nat)(r':List Int)(hi:i<rows.length):yf (c::d::Qs 2 h rows) (h.length+3+i) (r'.map λi=>MV.f (.int i))=c::d::Qs 2 h (rows.set i r'):=by
 unfold yf Qs;rw[show h.length+3+i=(h.length+1+i)+2 by lia];simp only[xE];rw[xC _ _ (by lia),show h.length+1+i-h.length=i+1 by lia];simp[uA]
theorem BF(c d:Cell)(h:MH)(rows:List (List Int)):Yd (c::d::Qs 2 h rows) (h.length+2)=some (zr (h.length+3) rows.length):=pY c d h _ _
theorem Qb3(c d:Cell)(h:MH)(rows:List (List Int)):zP (c::d::Qs 2 h rows) (.ref (h.length+2))=some (Zh false false rows):=by
 have hr:∀(m:Nat)(is:List Nat),(∀ i∈is,i<rows.length)->(is.map λi=>MV.ref (h.length+3+i)).mapM (Zo (c::d::Qs 2 h rows) (m+2))=some (is.map λi=>Qa false (rows.getD i [])):=by
  intro m is hx
  induction is with
  |nil=>rfl
  |cons x xs ih =>
   have G5:=hx x (by simp);have e:rows[x]?=some (rows.getD x []):=by simp[Vg,G5]
   have e1:Zo (c::d::Qs 2 h rows) (m+2) (.ref (h.length+3+x))=some (Qa false (rows.getD x [])):=by
    simp only[Zo,Jy c d h rows x _ e,xh];have:(UA (λi=>MV.f (FV.int i)) (rows.getD x []))=((rows.getD x []).map FV.int).map MV.f:=by simp
    rw[this,sM];rfl
   simp only[Wb,Vo,e1,ih λi hi=>hx i (by simp[hi])];rfl
 unfold zP;simp only[Zo,BF,xh];rw[zr,hr 2 _ (by simp)];simp only[wg,Zh,sq,Option.some.injEq]
 congr 1
 apply vh;intro k;by_cases hk:k<rows.length
 ·simp[hk,Vg]
 ·simp[hk]
theorem qbP(c d:Cell)(h:MH)(rows:List (List Int)):∀ a∈Qm (c::d::Qs 2 h rows) 5 (.ref (h.length+2)),(c::d::h).length<=a:=by
 intro a ha;simp only[Qm,BF,xm,zr,ua,Xm,Wd,xj] at ha
 rcases ha with rfl|⟨m,⟨i,hi,rfl⟩,ha⟩
 ·simp
 ·have e:rows[i]?=some (rows[i]):=by simp[hi]
  simp only[Qm,Jy c d h rows i _ e,xm,ua,Xm,Wd] at ha
  rcases ha with rfl|⟨m,⟨i,_,rfl⟩,ha⟩
  ·simp;lia
  ·simp[Qm] at ha
theorem ycp(c d:Cell)(h:MH)(rows:List (List Int)):∃ t',QM (.ref (h.length+2)) (c::d::Qs 2 h rows)=.ok (.f (Zh false false rows)) (c::d::(h++t')):=by
 obtain⟨t',e⟩:=D7 (c::d::h) (.lst (zr (h.length+3) rows.length)::rows.map lM) (Qm (c::d::Qs 2 h rows) 5 (.ref (h.length+2))) (qbP c d h rows);refine⟨t',?_⟩;unfold QM;rw[Qb3,yd];have e2:c::d::Qs 2 h rows=(c::d::h)++(.lst (zr (h.length+3) rows.length)::rows.map lM):=rfl;rw[e2] at e ⊢;rw[e];rfl
theorem trC(k k':Int)(h t:MH):bP (.code::atC k::h) (.code::atC k'::(h++t)):=⟨by simp,λi c hi e=>by
 rcases i with _|_|i
 ·exact .inl e
 ·simp at e;subst e;exact .inr ⟨[.int k'],rfl⟩
 ·simp only[ud] at hi;exact .inl (by simpa[va (show i<h.length by lia)] using e)⟩
theorem sg(k k':Int)(h t:MH)(x:FV):Qg (.code::atC k::h) (.f x) (.code::atC k'::(h++t))=.ok (.f x) (.code::atC k'::h):=by
 simp[Qg,trC]
theorem Bc(k k':Int)(h:MH)(x:FV):Qg (.code::atC k::h) (.f x) (.code::atC k'::h)=.ok (.f x) (.code::atC k'::h):=by
 have:=sg k k' h [] x;simpa using this
theorem BI(a b:Cell)(g:MH)(ys:List FV):QM (.ref (g.length+2)) (a::b::(g++[.lst (ys.map .f)]))=.ok (.f (.lst ys)) (a::b::(g++[.dead])):=by
 have:=Yco a (b::g) ys;simpa using this
theorem ydk(a b:Cell)(g t:MH)(ks:List Int):oE (a::b::(g++.iC ks::t)) (.ref (g.length+2))=some ks:=by simp[oE]
theorem tW(a b:Cell)(g t:MH)(c d:Cell):(a::b::(g++c::t)).set (g.length+2) d=a::b::(g++d::t):=by simp
end MP
end
section
namespace MP
open PySem
section
variable (n:Nat) (h:MH)
theorem zq(ns:List Int)(k:Int)(hk:0<=k)(lF:k<1000000):run prog (n+1) "_law_next" [.f (.dm ns),.ref 1] (.code::atC k::h)=.ok (I (ZY ns (k+1))) (.code::atC (k+1)::h):=by
 have m1:qD (k+1) (k+1):=Yq (by lia);have m2:∀ x,qD x 7919:=λx=>Yq (by decide);have m3:∀ x,qD x 48271:=λx=>Yq (by decide);have m4:∀ x:Int,qD (x%2147483647) (x%2147483647):=λx=>Yq (by have:=xr x (show(2147483647:Int)≠0 by decide);have:=Xp x (show(0:Int)<2147483647 by decide);lia);have c1:∀ j:Int,Yd (.code::atC j::h) 1=some [I j]:=λj=>rfl;have s1:∀(j:Int)(ys:List MV),yf (.code::atC j::h) 1 ys=.code::.lst ys::h:=λj ys=>rfl;have tr:bP (.code::atC k::h) (.code::atC (k+1)::h):=⟨by simp,λi c hi e=>by
  rcases i with _|_|i
  ·exact .inl e
  ·simp at e;subst e;exact .inr ⟨[.int (k+1)],rfl⟩
  ·exact .inl (by simpa using e)⟩
 simp only[Zb,ya0,yd,ZJ];by_cases hn:ns=[]
 ·subst hn;simp[ym,Ze,m1,m2,m3,m4,jW,ZY,pX,c1,s1,Qg,tr]
 ·have hl:0<ns.length:=uo.mpr hn;have e1:cW (ns.map λi=>MV.f (.int i)) ((k+1)%ns.length)=some (I (pX ns (k+1))):=IW ns hn (k+1);simp[ym,Ze,m1,m2,m3,m4,jW,ZY,hl,e1,c1,s1,Qg,tr]
theorem IL(ns:List Int)(k room:Int)(hk:0<=k)(lF:k<1000000)(hr:0<room):∃ v:Int,0<=v/\(v<room\/v<10000000000000000000000000)/\run prog (n+2) "_law_great" [.f (.dm ns),.ref 1,I room] (.code::atC k::h)=.ok (I v) (.code::atC (k+1)::h):=by
 have N:=zq n h ns k hk lF;have hd:=yu ns (k+1);generalize ZY ns (k+1)=x at N hd;have hp:∀ hh,Qd true .pow (I 10) (I 25) hh=.ok (I 10000000000000000000000000) hh:=λhh=>IF true 10 25 (by decide);have CM:∀ hh,Qd true .pow (I 10) (I 14) hh=.ok (I 100000000000000) hh:=λhh=>IF true 10 14 (by decide);have m5:sL x 5:=⟨by decide,.inl (by decide)⟩;have mu:qD x 100000000000000:=.inl (by lia);have c1:∀ j:Int,Yd (.code::atC j::h) 1=some [I j]:=λj=>rfl;have tr:bP (.code::atC k::h) (.code::atC (k+1)::h):=⟨by simp,λi c hi e=>by
  rcases i with _|_|i
  ·exact .inl e
  ·simp at e;subst e;exact .inr ⟨[.int (k+1)],rfl⟩
  ·exact .inl (by simpa using e)⟩
 rw[YaO];simp only[cK];by_cases c:0<x%5
 ·have:=mod_lt (x/5) room hr;refine⟨x/5%room,this.1,.inl this.2,?_⟩;by_cases hn:ns=[]
  ·subst hn;simp[N,Ze,Zf,m5,c,hr,Qg,tr]
  ·have hl:0<ns.length:=uo.mpr hn;simp[N,Ze,Zf,m5,c,hr,hl,IW ns hn (k+1),c1,Qg,tr]
 ·by_cases hn:ns=[]
  ·subst hn;have:=mod_lt (0%10000000000000000000000000+x*100000000000000) 10000000000000000000000000 (by decide);refine⟨_,this.1,.inr this.2,?_⟩;simp[N,Ze,ym,mu,c,hp,CM,Qg,tr]
  ·have hl:0<ns.length:=uo.mpr hn;have:=mod_lt (pX ns (k+1)%10000000000000000000000000+x*100000000000000) 10000000000000000000000000 (by decide);refine⟨_,this.1,.inr this.2,?_⟩;simp[N,Ze,ym,mu,c,hp,CM,hl,IW ns hn (k+1),c1,Qg,tr]
end
end MP
end
section
namespace MP
open PySem
section
variable (n:Nat) (h:MH)
theorem Ycv(ns:List Int)(k:Int)(hk:0<=k)(lF:k+1<1000000):∃ c:Int,1<=c/\c<=100000000000000000000000000/\run prog (n+3) "_law_most" [.f (.dm ns),.ref 1] (.code::atC k::h)=.ok (I c) (.code::atC (k+1+1)::h):=by
 have N:=zq (n+1) h ns k hk (by lia);obtain⟨g,g0,g1,G⟩:=IL n h ns (k+1) 999 (by lia) (by lia) (by decide);have hd:=yu ns (k+1);generalize ZY ns (k+1)=x at N hd;have d7:∀ hh,Qd true .fdiv (I x) (I 7) hh=.ok (I (x/7)) hh:=λhh=>Zf _ _ _ ⟨by decide,.inl (by decide)⟩;have h7:=mod_lt x 7 (by decide);have hp:∀ hh,Qd true .pow (I 10) (I 24) hh=.ok (I 1000000000000000000000000) hh:=λhh=>IF true 10 24 (by decide);obtain⟨c,c1,c2,e⟩:∃ c:Int,1<=c/\c<=100000000000000000000000000/\cW [I 1,I 2,I 3,I 255,I 9,I (1+x/7%40),I (1+g+1000000000000000000000000)] (x%7)=some (I c):=by
  obtain⟨w,hw,e⟩:=BJ [I 1,I 2,I 3,I 255,I 9,I (1+x/7%40),I (1+g+1000000000000000000000000)] _ h7.1 (by simpa using h7.2);simp only[ua,Vc,or_false] at hw
  rcases hw with rfl|rfl|rfl|rfl|rfl|rfl|rfl
  all_goals exact⟨_,by lia,by lia,e⟩
 refine⟨c,c1,c2,?_⟩;rw[Qa1];simp only[c8];simp[N,d7,Ze,G,hp,zj,e,Bc]
theorem zcA(ns:List Int)(k:Int)(hk:0<=k)(lF:k<1000000):∃ H W:Nat,1<=H/\H<=60/\1<=W/\W<=60/\H*W<=60/\run prog (n+2) "_law_size" [.f (.dm ns),.ref 1,I 60] (.code::atC k::h)=.ok (.f (.tup [.int H,.int W])) (.code::atC (k+1)::h):=by
 have N:=zq n h ns k hk lF;have hd:=yu ns (k+1);generalize ZY ns (k+1)=x at N hd;have d6:∀ hh,Qd true .fdiv (I x) (I 6) hh=.ok (I (x/6)) hh:=λhh=>Zf _ _ _ ⟨by decide,.inl (by decide)⟩;have nO:∀ hh,Qd true .fdiv (I x) (I 100) hh=.ok (I (x/100)) hh:=λhh=>Zf _ _ _ ⟨by decide,.inl (by decide)⟩;have oz:∀ hh,Qd true .fdiv (I x) (I 7000) hh=.ok (I (x/7000)) hh:=λhh=>Zf _ _ _ ⟨by decide,.inl (by decide)⟩;have h6:=mod_lt x 6 (by decide);obtain⟨a,a1,a2,e⟩:∃ a:Int,1<=a/\a<=12/\cW [I 1,I 2,I 3,I 5,I 8,I (1+x/6%12)] (x%6)=some (I a):=by
  obtain⟨w,hw,e⟩:=BJ [I 1,I 2,I 3,I 5,I 8,I (1+x/6%12)] _ h6.1 (by simpa using h6.2);simp only[ua,Vc,or_false] at hw
  rcases hw with rfl|rfl|rfl|rfl|rfl|rfl
  all_goals exact⟨_,by lia,by lia,e⟩
 have da:∀ hh,Qd true .fdiv (I 60) (I a) hh=.ok (I (60/a)) hh:=λhh=>Zf _ _ _ ⟨by lia,.inl (by lia)⟩;have q1:5<=60/a:=by rw[ur (by lia)];lia
 have q2:a*(60/a)<=60:=Int.mul_ediv_self_le (by lia);have mx:∀ hh,Yr true "max" [I 1,I (60/a)] hh=.ok (I (60/a)) hh:=λhh=>by
  simp[Yr];lia
 have mm:∀ hh,Qd true .mod (I (x/100)) (I (60/a)) hh=.ok (I (x/100%(60/a))) hh:=λhh=>Ze _ _ _ (by lia);have hb:=mod_lt (x/100) (60/a) (by lia);generalize x/100%(60/a)=b at mm hb;have Ar:a*(1+b)<=60:=XE (Ur (by lia) (by lia)) q2;have HQ:1+b<=60:=by
  have:1*(1+b)<=a*(1+b):=Xr a1 (by lia)
  lia
 obtain⟨A,rfl⟩:=ue (show 0<=a by lia);obtain⟨B,hB⟩:=ue (show 0<=1+b by lia);rw[hB] at Ar HQ;have MN:A*B<=60:=by exact_mod_cast Ar
 by_cases c:x/7000%2=0
 ·refine⟨B,A,by lia,by lia,by lia,by lia,by rw[Us];exact MN,?_⟩;rw[L0];simp only[cx];simp[N,d6,nO,oz,Ze,zj,e,da,mx,mm,hB,c,Zi,Bc]
 ·refine⟨A,B,by lia,by lia,by lia,by lia,MN,?_⟩;rw[L0];simp only[cx];simp[N,d6,nO,oz,Ze,zj,e,da,mx,mm,hB,c,Zi,Bc]
theorem Zcr(ns:List Int)(k most:Int)(hk:0<=k)(lF:k+10<1000000)(hm:1<=most) :
  cQ (run prog (n+2) "_law_inks" [.f (.dm ns),.ref 1,I most] (.code::atC k::h)) λv h'=>∃(ai:List Int)(kk:Int),gF most ai/\ai.length<=8/\k<=kk/\kk<=k+7/\v=.f (Qa false ai)/\h'=.code::atC kk::h:=by
 refine cQ.of λQ hQ=>?_;have N:=zq n h ns k hk (by lia);have hd:=yu ns (k+1);generalize ZY ns (k+1)=x at N hd;have h5:=mod_lt x 5 (by decide);obtain⟨T,hT⟩:=ue h5.1;have m5:∀ hh,Qd true .mod (I x) (I 5) hh=.ok (I (x%5)) hh:=λhh=>Ze _ _ _ (by decide);have d2:∀ hh,Qd true .fdiv (I most) (I 2) hh=.ok (I (most/2)) hh:=λhh=>Zf _ _ _ ⟨by decide,.inl (by decide)⟩;rw[ya1];simp only[c9];have Iy:=λa b ks=>ydk a b h [] ks;have Ln:=λa b c d=>tW a b h [] c d;simp[N,ip,Iy,Ln,m5,hT,zm _ (T:Int) (by lia)];refine yt (Q:=λr=>cQ (yb _ r) _) T (λi σ hh=>∃(ks:List Int)(z5 z6:Option MV),jM most ks (2+i)/\hh=.code::atC (k+1+(i:Int))::(h++[.iC ks])/\σ=[some (.f (.dm ns)),some (.ref 1),some (I most),some (I x),some (.ref (h.length+2)),z5,z6]) ?_ ?_ ?_
 ·exact⟨_,none,none,jM.start hm,by simp,rfl⟩
 ·rintro i σ hh pH ⟨ks,z5,z6,d,rfl,rfl⟩ Q hQ;have N:=zq n (h++[.iC ks]) ns (k+1+i) (by lia) (by lia);have hd:=yu ns (k+1+i+1);generalize ZY ns (k+1+i+1)=y at N hd;have bm:∀ hh,Qd true .mod (I (y*7919)) (I (most+1)) hh=.ok (I (y*7919%(most+1))) hh:=λhh=>Ze _ _ _ (by lia);have hv:=mod_lt (y*7919) (most+1) (by lia);have o9:qD y 7919:=Yq (by decide);have di:∀ hh,Qd true .fdiv (I most) (I ((i:Int)+2)) hh=.ok (I (most/((i:Int)+2))) hh:=λhh=>Zf _ _ _ ⟨by lia,.inl (by lia)⟩;have q0:0<=most/((i:Int)+2):=Int.ediv_nonneg (by lia) (by lia);have q1:most/((i:Int)+2)<=most:=Int.ediv_le_self _ (by lia);have h3:=mod_lt y 3 (by decide);obtain⟨v,v0,v1,ev⟩:∃ v:Int,0<=v/\v<=most/\cW [I (y*7919%(most+1)),I (most/2),I (most/((i:Int)+2))] (y%3)=some (I v):=by
   obtain⟨w,hw,e⟩:=BJ [I (y*7919%(most+1)),I (most/2),I (most/((i:Int)+2))] _ h3.1 (by simpa using h3.2);simp only[ua,Vc,or_false] at hw
   rcases hw with rfl|rfl|rfl
   all_goals exact⟨_,by lia,by lia,e⟩
  have cl:=Iy .code (atC (k+1+(i:Int)+1)) ks;have sl:ks.length<1000000:=by have:=d.sz;lia
  have st:=Ln .code (atC (k+1+(i:Int)+1)) (.iC ks) (.iC (zA ks v));simp only[xE] at st;simp[Qp,N,bm,ym,Ze,o9,d2,di,zj,ev,cl,sl,st];exact hQ _ _ ⟨zA ks v,_,_,d.add ⟨v0,v1⟩,by simp;lia,rfl⟩
 ·rintro σ hh ⟨ks,z5,z6,d,rfl,rfl⟩;have cl:=Iy .code (atC (k+1+(T:Int))) ks;have sl:ks.length<64:=by have:=d.sz;lia
  have F:=BI .code (atC (k+1+(T:Int))) (h++[.iC ks]) ((Y2 ks).map FV.int);have er:FV.lst ((Y2 ks).map FV.int)=Qa false (Y2 ks):=rfl;have lv:=sg k (k+1+(T:Int)) h [.iC ks,.dead] (Qa false (Y2 ks));simp only[wf] at F;simp[jS,cl,sl,vc] at F ⊢;simp[F,er,lv];have hs:=d.sz;exact hQ _ _ ⟨Y2 ks,_,d.ai (by lia),by rw[(IS ks).length_eq];lia,by lia,by lia,rfl,rfl⟩
end
end MP
end
section
namespace MP
open PySem
section
variable (n:Nat) (h:MH)
theorem ZbN(ns:List Int)(k:Int)(most:Int)(I0 J0:Nat)(hk:0<=k)(lF:k+1+(I0*J0:Nat)<1000000)(hm:1<=most)(hi:I0<=1000)(CQ:1<=I0)(hj:J0<=1000) :
  cQ (run prog (n+2) "_law_shades" [.f (.dm ns),.ref 1,I most,I I0,I J0] (.code::atC k::h)) λv h'=>∃ rows kk,Drawn most rows I0 J0/\k<=kk/\kk<=k+1+(I0*J0:Nat)/\v=.ref (h.length+2)/\h'=.code::atC kk::Qs 2 h rows:=by
 refine cQ.of λQ hQ=>?_;have N0:=zq n h ns k hk (by lia);have hd:=yu ns (k+1);generalize ZY ns (k+1)=x at N0 hd;have m3:sL x 3:=⟨by decide,.inl (by decide)⟩;have m2:sL most 2:=⟨by decide,.inl (by decide)⟩;have mp:0<most+1:=by lia
 have hs:=mod_lt (x/3) (most+1) mp;generalize hf:(x/3)%(most+1)=f3 at hs;rw[YaH];simp only[b9];simp[N0,Zf,ym,Ze,m3,m2,mp,hf,zj,zm _ (I0:Int) (by lia)];refine yt (Q:=λr=>cQ (yb _ r) _) I0 (λi σ hh=>∃ kk rows z8 z9 nY,k+1<=kk/\kk<=k+1+(i*J0:Nat)/\Drawn most rows i J0/\hh=.code::atC kk::Qs 2 h rows /\
  σ=[some (.f (.dm ns)),some (.ref 1),some (I most),some (I I0),some (I J0),some (I x),some (.f (.lst [.int 0,.int most,.int (most/2),.int f3])),some (.ref (h.length+2)),z8,z9,nY]) ⟨k+1,[],none,none,none,by lia,by simp,⟨rfl,by simp,by simp⟩,by simp[Qs,zr],rfl⟩ ?_ ?_
 ·rintro i σ hh pH ⟨kk,rows,z8,z9,nY,hk1,hkk,d,rfl,rfl⟩ Q hQ;have hij:(i+1)*J0<=I0*J0:=Vx _ pH;rw[Xz] at hij;have hrl:rows.length<aO:=by rw[zf,d.len];lia
  have hG:Qs 2 h rows=Qs 2 h rows:=rfl;have lG:(Qs 2 h rows).length=h.length+1+rows.length:=by simp[Qs];lia
  simp[Qp,zm _ (J0:Int) (by lia)];refine yt (Q:=λr=>Nx r _) J0 (λj σ hh=>∃ kj r nY,kk<=kj/\kj<=kk+(j:Int)/\(r.length=j/\∀ v∈r,0<=v/\v<=most)/\hh=.code::atC kj::(Qs 2 h rows++[lM r]) /\
   σ=[some (.f (.dm ns)),some (.ref 1),some (I most),some (I I0),some (I J0),some (I x),some (.f (.lst [.int 0,.int most,.int (most/2),.int f3])),some (.ref (h.length+2)),some (I i),some (.ref ((Qs 2 h rows).length+2)),nY]) ⟨kk,[],nY,by lia,by simp,⟨rfl,by simp⟩,by simp,rfl⟩ ?_ ?_
  ·rintro j σ hh hjl ⟨kj,r,nY,Hv,hkj,⟨rP,CK⟩,rfl,rfl⟩ Q hQ;generalize hg:Qs 2 h rows=g at *;have N:=zq n (g++[lM r]) ns kj (by lia) (by lia);have hd2:=yu ns (kj+1);generalize ZY ns (kj+1)=y at N hd2;have hl:r.length<aO:=by rw[zf];lia
   have c0:=pY .code (atC kj) g [] (r.map λi=>MV.f (.int i));have c1:=pY .code (atC (kj+1)) g [] (r.map λi=>MV.f (.int i));have s0:=λys=>sI .code (atC kj) g [] (r.map λi=>MV.f (.int i)) ys;have s1:=λys=>sI .code (atC (kj+1)) g [] (r.map λi=>MV.f (.int i)) ys;have o9:qD y 7919:=Yq (by decide);have app:∀ v,(0<=v/\v<=most)->∀ w∈r++[v],0<=w/\w<=most:=λv hv w hw=>by
    rcases Xf.mp hw with hw|hw
    ·exact CK w hw
    ·simp at hw;subst hw;exact hv
   by_cases a1:x%3=0
   ·have e3:cW [I 0,I most,I (most/2),I f3] 3=some (I f3):=rfl;simp[Qp,Ze,a1,c0,e3,hl,s0];exact hQ _ _ ⟨kj,r++[f3],_,by lia,by lia,⟨by simp[rP],app f3 (by lia)⟩,by simp,rfl⟩
   ·by_cases a2:x%3=1
    ·have h4:=mod_lt y 4 (by decide);obtain⟨v,hv,ev⟩:∃ v:Int,(0<=v/\v<=most)/\cW [I 0,I most,I (most/2),I f3] (y%4)=some (I v):=by
      have:y%4=0\/y%4=1\/y%4=2\/y%4=3:=by lia
      rcases this with e|e|e|e <;> rw[e]
      ·exact⟨0,by lia,rfl⟩
      ·exact⟨most,by lia,rfl⟩
      ·exact⟨most/2,by lia,rfl⟩
      ·exact⟨f3,by lia,rfl⟩
     simp[Qp,Ze,a2,c0,N,c1,ev,hl,s1];exact hQ _ _ ⟨kj+1,r++[v],_,by lia,by lia,⟨by simp[rP],app v hv⟩,by simp,rfl⟩
    ·have hv:=mod_lt (y*7919+x) (most+1) mp;generalize hvv:(y*7919+x)%(most+1)=v at hv;simp[Qp,Ze,ym,a1,a2,c0,N,c1,o9,mp,hvv,hl,s1];exact hQ _ _ ⟨kj+1,r++[v],_,by lia,by lia,⟨by simp[rP],app v (by lia)⟩,by simp,rfl⟩
  ·rintro σ hh ⟨kj,r,nY,Hv,hkj,⟨rP,CK⟩,rfl,rfl⟩;have c0:Yd (.code::atC kj::(Qs 2 h rows++[lM r])) (h.length+2)=some (zr (h.length+3) rows.length):=by
    have:=pY .code (atC kj) h (rows.map lM++[lM r]) (zr (h.length+3) rows.length);simpa[Qs] using this
   have s0:yf (.code::atC kj::(Qs 2 h rows++[lM r])) (h.length+2) (zr (h.length+3) rows.length++[.ref ((Qs 2 h rows).length+2)])=.code::atC kj::Qs 2 h (rows++[r]):=by
    have:=sI .code (atC kj) h (rows.map lM++[lM r]) (zr (h.length+3) rows.length) (zr (h.length+3) rows.length++[.ref ((Qs 2 h rows).length+2)]);have e2:zr (h.length+3) rows.length++[.ref ((Qs 2 h rows).length+2)]=zr (h.length+3) (rows.length+1):=by
     rw[<- ZbG,lG]
     congr 3
     lia
    rw[e2] at this ⊢;simpa[Qs] using this
   have Hb:(zr (h.length+3) rows.length).length<aO:=by simpa[zr] using hrl
   simp[c0,Hb,s0];exact hQ _ _ ⟨kj,rows++[r],_,_,_,by lia,by rw[Xz];lia,d.snoc ⟨rP,CK⟩,rfl,rfl⟩
 ·rintro σ hh ⟨kk,rows,z8,z9,nY,hk1,hkk,d,rfl,rfl⟩;have lv:=qbF (h:=.code::atC k::h) (BF .code (atC kk) h rows) (by rw[d.len];lia);simp[lv];exact hQ _ _ ⟨rows,kk,d,by lia,by lia,rfl,rfl⟩
theorem Drawn.set{most:Int}{rows:List (List Int)}{i j a b:Nat}{v:Int}(d:Drawn most rows i j)(hv:0<=v/\v<=most):Drawn most (Zr rows a b v) i j:=by
 refine⟨by rw[qx,d.len],λr hr=>?_,λr hr w hw=>?_⟩
 ·rcases Yx hr with hr|⟨r0,jY,rfl⟩
  ·exact d.lP r hr
  ·simp[d.lP r0 jY]
 ·rcases Yx hr with hr|⟨r0,jY,rfl⟩
  ·exact d.sh r hr w hw
  ·rcases Vu hw with hw|rfl
   ·exact d.sh r0 jY w hw
   ·exact hv
theorem zaV(ns:List Int)(k:Int)(hk:0<=k)(lF:k+1000<1000000) :
  cQ (run prog (n+4) "_law_plain_case" [.f (.dm ns),.ref 1] (.code::atC k::h)) λv h'=>∃ most rows ai kk H W,1<=most/\most<=100000000000000000000000000/\1<=H/\H<=60/\1<=W/\W<=60/\H*W<=60/\Drawn most rows H W/\gF most ai/\ai.length<=8/\k<=kk/\kk<=k+200 /\
   v=.f (.tup [.int most,Zh false false rows,Qa false ai])/\h'=.code::atC kk::h:=by
 refine cQ.of λQ hQ=>?_;obtain⟨most,m1,m2,M⟩:=Ycv n h ns k hk (by lia);obtain⟨H,W,h1,h2,w1,w2,hw,S⟩:=zcA (n+1) h ns (k+1+1) (by lia) (by lia);obtain⟨v,h',S2,rows,kk,d,k1,k2,rfl,rfl⟩:=ZbN (n+1) h ns (k+1+1+1) most H W (by lia) (by lia) m1 (by lia) h1 (by lia);obtain⟨v,h',S3,ai,k3,K,il,k4,k5,rfl,rfl⟩:=Zcr (n+1) (Qs 2 h rows) ns kk most (by lia) (by lia) m1;have N:=zq (n+2) (Qs 2 h rows) ns k3 (by lia) (by lia);have hd:=yu ns (k3+1);generalize ZY ns (k3+1)=x at N hd;have h6:=mod_lt x 6 (by decide);obtain⟨T,hT⟩:=ue h6.1;have m6:∀ hh,Qd true .mod (I x) (I 6) hh=.ok (I (x%6)) hh:=λhh=>Ze _ _ _ (by decide);have Mr:2<=ai.length:=by
  rcases ai with _|⟨a,_|⟨b,r⟩⟩
  ·simp at *;exact absurd K.z (by simp)
  ·have z:=K.z;have m:=K.m;simp at z m;lia
  ·simp
 rw[qac];simp only[bz];simp[M,S,S2,S3,N,m6,hT,zm _ (T:Int) (by lia)];refine yt (Q:=λr=>cQ (yb _ r) _) T (λi σ hh=>∃ rows z6 z7 z8 z9,Drawn most rows H W/\hh=.code::atC (k3+1+(i:Int))::Qs 2 h rows/\σ=[some (.f (.dm ns)),some (.ref 1),some (I most),some (.f (.tup [.int H,.int W])),some (.ref (h.length+2)),some (.f (Qa false ai)),z6,z7,z8,z9]) ⟨rows,none,none,none,none,d,by simp,rfl⟩ ?_ ?_
 ·rintro i σ hh pH ⟨rows,z6,z7,z8,z9,d,rfl,rfl⟩ Q hQ;have N:=zq (n+2) (Qs 2 h rows) ns (k3+1+i) (by lia) (by lia);have hd:=yu ns (k3+1+i+1);generalize ZY ns (k3+1+i+1)=y at N hd;have dv:∀ j:Int,0<j->j<1073741824->∀ hh,Qd true .fdiv (I y) (I j) hh=.ok (I (y/j)) hh:=λj a b hh=>Zf _ _ _ ⟨a,.inl b⟩;have nO:=dv 100 (by decide) (by decide);have Io:=dv 300 (by decide) (by decide);have pQ:=dv 20000 (by decide) (by decide);have mi:∀ hh,Qd true .mod (I y) (I ((ai.length:Int)-1)) hh=.ok (I (y%((ai.length:Int)-1))) hh:=λhh=>Ze _ _ _ (by lia);have ho:=mod_lt y ((ai.length:Int)-1) (by lia);generalize y%((ai.length:Int)-1)=o at mi ho;have mH:∀ hh,Qd true .mod (I (y/300)) (I (H:Int)) hh=.ok (I (y/300%(H:Int))) hh:=λhh=>Ze _ _ _ (by lia);have mW:∀ hh,Qd true .mod (I (y/20000)) (I (W:Int)) hh=.ok (I (y/20000%(W:Int))) hh:=λhh=>Ze _ _ _ (by lia);have hH:=mod_lt (y/300) (H:Int) (by lia);have hW:=mod_lt (y/20000) (W:Int) (by lia);generalize y/300%(H:Int)=a at mH hH;generalize y/20000%(W:Int)=b at mW hW;obtain⟨A,rfl⟩:=ue hH.1;obtain⟨B,rfl⟩:=ue hW.1;obtain⟨O,rfl⟩:=ue ho.1;have a1:cW ((ai.map FV.int).map MV.f) (O:Int)=some (I (ai.getD O 0)):=by
   rw[zK _ _ (by lia)];simp[Vg,xa (show O<ai.length by lia)]
  have a2:cW ((ai.map FV.int).map MV.f) ((O:Int)+1)=some (I (ai.getD (O+1) 0)):=by
   rw[zK _ _ (by lia),show((O:Int)+1).toNat=O+1 by lia];simp[Vg,xa (show O+1<ai.length by lia)]
  simp only[wf] at a1 a2;generalize ai.getD O 0=q1 at a1;generalize ai.getD (O+1) 0=q2 at a2;have dq:∀ hh,Qd true .fdiv (I (q1+q2)) (I 2) hh=.ok (I ((q1+q2)/2)) hh:=λhh=>Zf _ _ _ ⟨by decide,.inl (by decide)⟩;generalize Hm:(q1+q2)/2+y/100%3-1=mid;obtain⟨v,v0,v1,ev⟩:∃ v:Int,0<=v/\v<=most/\(if 0<(if mid<most then mid else most) then(if mid<most then mid else most) else 0)=v:=by
   refine⟨_,?_,?_,rfl⟩ <;> split <;> split <;> lia
  obtain⟨row,eA⟩:∃ row,rows[A]?=some row:=⟨_,xa (show A<rows.length by rw[d.len];lia)⟩;have lA:row.length=W:=d.lP _ (Ue eA);have tp:=BF .code (atC (k3+1+(i:Int)+1)) h rows;have ar:cW (zr (h.length+3) rows.length) (A:Int)=some (.ref (h.length+3+A)):=by
   rw[zK _ _ (by lia)];simp[zr,show A<rows.length by rw[d.len];lia]
  have cr:=Jy .code (atC (k3+1+(i:Int)+1)) h rows A _ eA;have ix:jW W (B:Int)=some B:=by simp[jW];lia
  have sr:=Ycg .code (atC (k3+1+(i:Int)+1)) h rows A (row.set B v) (by rw[d.len];lia);rw[uA] at sr;have es:rows.set A (row.set B v)=Zr rows A B v:=by
   unfold Zr;rw[List.modify_eq_set,eA];rfl
  rw[es] at sr;simp[Qp,N,nO,Io,pQ,mi,mH,mW,Qa,sq,a1,a2,dq,Ze,Hm,ev,tp,ar,cr,lA,ix,sr];exact hQ _ _ ⟨Zr rows A B v,_,_,_,_,d.set ⟨v0,v1⟩,by simp;lia,rfl⟩
 ·rintro σ hh ⟨rows,z6,z7,z8,z9,d,rfl,rfl⟩;obtain⟨t',F⟩:=ycp .code (atC (k3+1+(T:Int))) h rows;have lv:=sg k (k3+1+(T:Int)) h t' (.tup [.int most,Zh false false rows,Qa false ai]);simp[F,Zi,zj,lv];exact hQ _ _ ⟨most,rows,ai,_,H,W,m1,m2,h1,h2,w1,w2,hw,d,K,il,by lia,by lia,rfl,rfl⟩
end
section
variable (n:Nat) (h:MH)
theorem qbi(b1 b2:Bool)(rows:List (List Int))(hl:rows.length<=aO):run prog (n+1) "own_rows" [.f (Zh b1 b2 rows)] h=.ok (.f (Zh true true rows)) h:=by
 simp[Zb,yQ,fP,Zh,stM];rw[ZG (e:=MV.f∘Qa b2) (g:=MV.f∘Qa true) rows [] none (by simpa using hl) (λy _ z=>⟨_,by simp[ql,Qa];exact⟨rfl,rfl⟩⟩)];simp[Zh,Qa,sq]
theorem yaP(most:Int)(rows:List (List Int))(g:Good most rows):run prog (n+1) "fault_of" [.f (Zh true true rows),I 0,I most] h=.ok (.f .bI) h:=by
 obtain⟨m1,ne,⟨w,w0,hw⟩,sh,sz⟩:=g;cases rows with
 |nil=>exact absurd rfl ne
 |cons r0 rs =>
  have jY:=hw r0 (by simp);have e1:¬ most<1:=by lia
  have e2:r0≠[]:=by intro e;subst e;simp at jY;lia
  have e7:Qb h (.f (Qa true r0))=some (r0.map (MV.f∘FV.int)):=by simp[Qa]
  simp[Zb,qQ,e1,Zh,e7,e2];rw[<- xu (f:=MV.f) (g:=Qa true),<- Wb (f:=MV.f∘Qa true),BR (e:=MV.f∘Qa true) (st:=λz=>[some (.f (sq true (Qa true r0::rs.map (Qa true)))),some (I 0),some (I most),z]) (hp:=λ_=>h) (f:=λ_ r=>some (.f (Qa true r))) _ none]
  ·simp
  ·intro r hr z;have e3:=hw r hr;have e4:r≠[]:=by intro e;subst e;simp at e3;lia
   have e5:¬ sH r<0:=by have:=sh r hr _ (Ex e4);lia
   have e6:¬ most<Zx r:=by have:=sh r hr _ (IV e4);lia
   have q1:=OD true h (.f (Qa true r)) r (by simp[Qa]) e4;have q2:=JR true h (.f (Qa true r)) r (by simp[Qa]) e4;have q3:Qb h (.f (Qa true r))=some (r.map (MV.f∘FV.int)):=by simp[Qa]
   simp[Qp,q1,q2,q3,e5,e6,e7,e3,jY]
theorem qaA(most:Int)(b1 b2:Bool)(rows:List (List Int))(g:Good most rows):run prog (n+2) "Picture.__init__" [.ref h.length,I most,.f (Zh b1 b2 rows)] (h++[.obj "Picture" []]) =
  .ok (.f .bI) (h++[.obj "Picture" [("most",I most),("rows",.f (Zh true true rows))]]):=by
 have hz:rows.length<=aO:=vf g.sz (by decide);have t:=bP.obj h "Picture" [("most",.int most),("rows",Zh true true rows)] [];simp only[Wb,xp] at t;simp[Zb n.succ,Yp,qbi _ _ b1 b2 rows hz,yaP _ _ most rows g,Qg,t];exact Vj (by simp)
theorem QR(most:Int)(b1 b2:Bool)(rows:List (List Int))(g:Good most rows):zD prog (run prog (n+2)) true "Picture" [I most,.f (Zh b1 b2 rows)] h=.ok (.f (Zq most rows)) h:=by
 simp[zD,qaA n h most b1 b2 rows g,bP.app,Zq,zj]
theorem OP(m:Int)(rows:List (List Int)):run prog (n+1) "high" [.f (Zq m rows)] h=.ok (I rows.length) h:=by
 simp[Zb,BB,Zq,Zh]
theorem K0(m:Int)(r:List Int)(rows:List (List Int)):run prog (n+1) "wide" [.f (Zq m (r::rows))] h=.ok (I r.length) h:=by
 simp[Zb,Dg,Zq,Zh,Qa]
end
theorem zW(h:MH):yb h .stuck=.stuck:=rfl
section
variable (n:Nat) (h:MH)
theorem LX(m i j:Int)(r:List Int)(rows:List (List Int)):run prog (n+2) "has_cell" [.f (Zq m (r::rows)),.f (.tup [.int i,.int j])] h=.ok (B (decide (0<=i/\i<rows.length+1/\0<=j/\j<r.length))) h:=by
 simp[Zb n.succ,YR,OP,K0,Bool.and_assoc]
theorem zbr(m i j:Int)(r:List Int)(rows:List (List Int)):run prog (n+3) "ask_cell" [.f (Zq m (r::rows)),.f (.tup [.int i,.int j])] h =
  if 0<=i/\i<rows.length+1/\0<=j/\j<r.length then .ok (.f .bI) h else .stuck:=by
 by_cases c:0<=i/\i<rows.length+1/\0<=j/\j<r.length
 ·rw[if_pos c];simp[Zb n.succ.succ,yH,LX,c]
 ·rw[if_neg c];have:=LX n h m i j r rows;rw[decide_eq_false c] at this;simp[Zb n.succ.succ,yH,this,zW]
end
end MP
end
section
namespace MP
open PySem
theorem Q0(h:MH)(a:Nat)(xs:List FV):l6 "extend" (.ref a) [.f (.lst xs)] h=opt (Yd h a) λys=>if ys.length+xs.length<=aO then .ok (.f .bI) (yf h a (ys++xs.map .f)) else .stuck:=by
 have:l6 "extend" (.ref a) [.f (.lst xs)] h=opt (Yd h a) λys=>opt (listOf h (.f (.lst xs))) λzs=>if ys.length+zs.length<=aO then .ok (.f .bI) (yf h a (ys++zs)) else .stuck:=rfl;rw[this];cases Yd h a with
 |none=>rfl
 |some ys=>simp
section
variable (n:Nat) (h:MH)
theorem Du(xs:List FV):Qg h (.ref h.length) (h++[.lst (xs.map .f)])=.ok (.ref h.length) (h++[.lst (xs.map .f)]):=by
 have cl:=yk h [] (xs.map MV.f);have tr:=bP.app h [.lst (xs.map MV.f)];have ef:=ZO xs;generalize xs.map MV.f=M at *;simp[Qg,cl,tr,ef]
theorem zJ(H W:Nat)(mf:H*W<=100000)(hW:W<=10000)(hH:H<=10000):run prog (n+1) "cells_by_rows" [I H,I W] h=.ok (.ref h.length) (h++[.lst (((yj H W).map Za).map .f)]):=by
 suffices cQ (run prog (n+1) "cells_by_rows" [I H,I W] h) λv h'=>v=.ref h.length/\h'=h++[.lst (((yj H W).map Za).map .f)] by
  obtain⟨v,h',e,rfl,rfl⟩:=this;exact e
 refine cQ.of λQ hQ=>?_;rw[Qan];simp only[bN];simp[zm _ (H:Int) (by lia)];refine yt (Q:=λr=>cQ (yb _ r) _) H (λi σ hh=>∃(z3:Option MV),hh=h++[.lst (((yj i W).map Za).map .f)]/\σ=[some (I H),some (I W),some (.ref h.length),z3]) ⟨none,by simp[yj],rfl⟩ ?_ ?_
 ·rintro i σ hh pH ⟨z3,rfl,rfl⟩ Q hQ;have nx:((yj (i+1) W).map Za).map MV.f=((yj i W).map Za).map MV.f++(((Xd W).map λc=>Za (i,c)).map MV.f):=by
   unfold yj;rw[Wv,vy,Uh,Uh];simp[vc]
  simp only[nx] at hQ;have ml:(((yj i W).map Za).map MV.f).length+((Xd W).map λc=>Za (i,c)).length<=aO:=by
   have:i*W<=H*W:=Vx _ (by lia);simp[ZN,zf];lia
  generalize ((yj i W).map Za).map MV.f=M at *;have cl:=yk h [] M;have st:=λys=>yA h [] M ys;simp[Qp,cl,zm _ (W:Int) (by lia),MP.stM];rw[ZG (e:=λk:Nat=>I k) (g:=λc=>MV.f (Za (i,c))) (Xd W) [] none (by simp[zf];lia) (λc _ z=>⟨some (I c),by simp[ql]⟩)];have e2:(Xd W).map (λc=>MV.f (Za (i,c)))=((Xd W).map λc=>Za (i,c)).map MV.f:=by simp[vc]
  simp only[uf,R.aJ,e2,Yg];generalize (Xd W).map (λc=>Za (i,c))=L at *;simp[Q0,cl,ml,st];exact hQ _ _ ⟨_,rfl,rfl⟩
 ·rintro σ hh ⟨z3,rfl,rfl⟩;have lv:=Du h ((yj H W).map Za);generalize ((yj H W).map Za).map MV.f=M at *;simp[lv];exact hQ _ _ ⟨rfl,rfl⟩
theorem O0(m:Int)(rows:List (List Int))(hr:rows≠[]):run prog (n+2) "size_of" [.f (Zq m rows)] h=.ok (.f (.tup [.int rows.length,.int (rows.headD []).length])) h:=by
 cases rows with
 |nil=>exact absurd rfl hr
 |cons r rs =>
  have a:=OP n h m (r::rs);have b:=K0 n h m r rs;rw[ZbB];simp only[eJ];simp at a b;simp[a,b]
theorem Zbo(m:Int)(rows:List (List Int))(H W:Nat)(d:Drawn m rows H W)(i j:Nat)(hi:i<H)(hj:j<W)(r:List Int)(v:Int)(er:rows[i]?=some r)(ev:r[j]?=some v):run prog (n+4) "shade_at" [.f (Zq m rows),.f (.tup [.int i,.int j])] h=.ok (I v) h:=by
 obtain⟨r0,rs,e0,jY,hrs⟩:=d.cons (by lia);have A:=zbr n h m i j r0 rs;rw[if_pos (by lia),<- e0] at A;have p1:lK prog.iG "rows" (.f (Zq m rows)) h=some (.f (Zh true true rows)):=by simp[Zq]
 have q1:Qb h (.f (Zh true true rows))=some (rows.map (MV.f∘Qa true)):=by simp[Zh]
 have a1:cW (rows.map (MV.f∘Qa true)) (i:Int)=some (.f (Qa true r)):=by rw[Qy,wc,er];rfl
 have q2:Qb h (.f (Qa true r))=some (r.map (MV.f∘FV.int)):=by simp[Qa]
 have a2:cW (r.map (MV.f∘FV.int)) (j:Int)=some (I v):=by rw[Qy,wc,ev];rfl
 rw[Ybr];simp only[dM];simp[A,p1,q1,a1,q2,a2]
theorem Q6(most:Int)(iv:MV)(ai:List Int)(V:cb h iv ai)(K:gF most ai)(h1:1<=most):run prog (n+1) "ask_rising" [iv] h=.ok (.f .bI) h:=by
 have h2:=K.two h1;have q:=V.q;have a0:cW (ai.map (MV.f∘FV.int)) 0=some (I 0):=by
  have:=Qy (ai.map (MV.f∘FV.int)) 0;change cW _ (0:Int)=_ at this;rw[this,wc,xa (by lia)];have e:=K.head;simp only[Vg,xa (show 0<ai.length by lia),xm] at e;simp[e]
 obtain⟨b1,s1⟩:=V.slice (K4 ai (by lia));obtain⟨b2,s2⟩:=V.slice (J' ai (by lia));have qr:∀ b r,Qb h (.f (Qa b r))=some (r.map (MV.f∘FV.int)):=λb r=>by simp[Qa]
 have g1:∀ b r,Zd h (.f (Qa b r))=[]:=λb r=>by simp[Qa]
 have hz:∀ p:Int×Int,p∈(ai.take (ai.length-1)).zip (ai.drop 1)->p.1<p.2:=by
  rintro⟨a,b⟩ hp;obtain⟨i,hi⟩:=Xw.mp hp;rw[Uu] at hi;obtain⟨e1,e2⟩:=hi;simp only at e1 e2;have l1:=(Xa.mp e1).1;rw[Uo] at l1;rw[vk (by lia)] at e1;rw[uv] at e2;have:=Ja K.up (show i<1+i by lia) (by lia);simpa[Vg,e1,e2] using this
 generalize ai.take (ai.length-1)=l1 at *;generalize ai.drop 1=l2 at *;rw[qaR];simp only[cJ];simp[q,show ¬((ai.length:Int)<2) by lia,a0,s1,s2,qr,g1,KZ];rw[BR (e:=λp:Int×Int=>MV.f (.tup [.int p.1,.int p.2])) (st:=λz=>[some iv,z.1,z.2]) (hp:=λ_=>h) (f:=λ_ p=>(some (I p.1),some (I p.2))) _ (none,none)]
 ·simp
 ·rintro⟨a,b⟩ hp z;have Ar:a<b:=hz (a,b) hp;simp[Qp,show ¬ b<=a by lia]
theorem Ybp(most:Int)(iv:MV)(ai:List Int)(V:cb h iv ai)(K:gF most ai)(h1:1<=most):run prog (n+2) "ask_inks" [iv,I most] h=.ok (.f .bI) h:=by
 have h2:=K.two h1;have R:=Q6 n h most iv ai V K h1;have q:=V.q;have a1:cW (ai.map (MV.f∘FV.int)) (-1)=some (I most):=by
  have e:=K.last;have hl:ai.length-1<ai.length:=by lia
  simp only[Vg,xa hl,xm] at e;unfold cW jW;rw[if_neg (by decide),if_pos (by simp;lia)];simp only[xh,xc,wc];rw[show((-1:Int)+(ai.length:Int)).toNat=ai.length-1 by lia,xa hl];simp[e]
 rw[ybk];simp only[dR];simp[R,q,a1]
theorem QaH(most:Int)(rows:List (List Int))(b:Bool)(ps:List ((Int×Int)×Int))(g:Good most rows)(hp:∀ p∈ps,Br rows p.1/\0<=p.2/\p.2<=most) :
  run prog (n+3) "with_shades" [.f (Zq most rows),.f (sq b (ps.map nX))] h=.ok (.f (Zq most (yo rows ps))) h/\Good most (yo rows ps):=by
 have hz:rows.length<=aO:=vf g.sz (by decide);simp only[Zb n.succ.succ,zaF,yd,qz];simp[Zq,Zh,MP.stM];rw[Nt _ (MV.f∘Qa true) (λr z h=>⟨some (.f (Qa true r)),by simp[ql,Qa,mG]⟩) rows [] none h (by simpa using hz)];simp only[R.aJ,Ew,R.st_ok,uf];have eo:(h++rows.map mG)++[.lst ((Xd rows.length).map λi=>MV.ref (h.length+i))]=own h rows:=by simp[own]
 have el:(h++rows.map mG).length=h.length+rows.length:=by simp
 rw[eo,el];have L:=ND (bd:=Qp (.tp [.nm 3,.nm 4]) (qa prog (run prog (n+1+1)) [MS.fA ((ME.var 2).sub ((ME.var 3).sub (ME.cI 0))) ((ME.var 3).sub (ME.cI 1)) (ME.var 4)])) (e:=MV.f∘nX)
  (st:=λb':List (List Int)×Option MV×Option MV=>[some (MV.f (FV.obj "Picture" ["most","rows"] [FV.int most,sq true (UA (Qa true) rows)])),some (MV.f (sq b (UA nX ps))),some (MV.ref (vt h+rows.length)),b'.2.1,b'.2.2]) (hp:=λb'=>own h b'.1)
  (f:=λb' p=>(Zr b'.1 p.1.1.toNat p.1.2.toNat p.2,some (.f (qv p.1)),some (I p.2))) (λb'=>b'.1.length=rows.length/\(∀ p,Br rows p->Br b'.1 p)/\Good most b'.1) ps (rows,none,none) ⟨rfl,λ_ h=>h,g⟩ (λp hpm b' jQ=>by
   obtain⟨hl,jP,hg⟩:=jQ;obtain⟨oq,CM,CL⟩:=hp p hpm;have hi:=jP p.1 oq;have lD:p.1.1.toNat<b'.1.length:=by have:=hi.1;have:=hi.2.1;lia
   have er:b'.1[p.1.1.toNat]?=some b'.1[p.1.1.toNat]:=by simp[lD]
   have hj:=hi.2.2.2 _ (Ue er);have e1:cW ((Xd rows.length).map λi=>MV.ref (h.length+i)) p.1.1=some (.ref (h.length+p.1.1.toNat)):=by
    rw[zK _ _ hi.1];rw[wc,uy (by lia)];rfl
   have e2:jW b'.1[p.1.1.toNat].length p.1.2=some p.1.2.toNat:=by
    unfold jW;rw[if_pos hi.2.2.1,if_pos hj]
   have ht:=Em h b'.1;rw[hl] at ht;refine⟨?_,by rw[qx];exact hl,λq hq=>Zcf (jP q hq),qbH hg CM CL⟩;simp[Qp,ht,e1,DT h b'.1 _ _ er,e2];exact ZcR h b'.1 _ _ _ p.2 er)
 obtain⟨L1,L2⟩:=L;have kJ:(ps.foldl (λ(b':List (List Int)×Option MV×Option MV) p=>(Zr b'.1 p.1.1.toNat p.1.2.toNat p.2,some (.f (qv p.1)),some (I p.2))) (rows,none,none)).1=yo rows ps:=by
  unfold yo;exact LP _ _ (λb p=>rfl) ps _
 refine⟨?_,?_⟩
 ·have hl:=L2.1;rw[kJ] at hl;obtain⟨t',ef⟩:=ycF h (yo rows ps);rw[hl] at ef;have g2:Good most (yo rows ps):=by rw[<- kJ];exact L2.2.2
  have mk:=QR n (h++t') most false false (yo rows ps) g2;simp only[Zh,Zq] at mk ef;simp;rw[L1];simp[kJ,ef,mk]
 ·rw[<- kJ];exact L2.2.2
theorem zcg(want:Int)(iv:MV)(n0:Int)(ns:List Int)(V:cb (.code::h) iv (n0::ns)):run prog (n+1) "nearest_ink" [I want,iv] (.code::h)=.ok (I (Yo want n0 ns)) (.code::h):=by
 have q:=V.q;simp only[Wb] at q;have e:Zg (MV.f (.int n0)::ns.map (MV.f∘FV.int))=some (n0::ns):=by
  exact qo (n0::ns)
 have e2:mS (I want) iv (.code::h)=.ok (I (Yo want n0 ns)) (.code::h):=by
  simp only[mS,zd,yd,q,xu,e];rfl
 have lv:Qg (.code::h) (I (Yo want n0 ns)) (.code::h)=.ok (I (Yo want n0 ns)) (.code::h):=by
  unfold Qg;rw[if_pos ⟨wb _,λi c _ e=>.inl e⟩];simp
 rw[yaH];simp only[cX];simp[e2,lv]
theorem qb3(cv:FV)(jT mh whole:Int)(iv:MV)(n0:Int)(ns:List Int)(V:cb (.code::h) iv (n0::ns))(hw:0<whole)(hb:whole.natAbs<big) :
  run prog (n+2) "entry_of" [.f cv,I jT,I mh,I whole,iv] (.code::h)=.ok (.f (.tup [cv,.int (mh/whole),.int (Yo (jT+mh/whole) n0 ns),.int (jT+mh/whole-Yo (jT+mh/whole) n0 ns),.int (mh%whole)])) (.code::h):=by
 have N:=zcg n h (jT+mh/whole) iv n0 ns V;have d1:∀ hh,Qd true .fdiv (I mh) (I whole) hh=.ok (I (mh/whole)) hh:=λhh=>Zf _ _ _ ⟨hw,.inr hb⟩;have d2:∀ hh,Qd true .mod (I mh) (I whole) hh=.ok (I (mh%whole)) hh:=λhh=>Ze _ _ _ hw;have lv:∀ x,Qg (.code::h) (.f x) (.code::h)=.ok (.f x) (.code::h):=λx=>by
  unfold Qg;rw[if_pos ⟨wb _,λi c _ e=>.inl e⟩];simp
 rw[Qbc];simp only[dO];simp[N,d1,d2,Zi,zj,lv]
end
end MP
end
section
namespace MP
open PySem
noncomputable def kM(w k:Int):Int:=if w-k<0 then -(w-k) else w-k
theorem Ma(w:Int):∀(r:List Int)(n:Int),Yo w n r∈n::r
 |[],n=>by simp[Yo]
 |k::r,n=>by
  have e:Yo w n (k::r)=Yo w (if kM w k<kM w n then k else n) r:=rfl;rw[e];have:=Ma w r (if kM w k<kM w n then k else n)
  rcases ua.mp this with h|h
  ·rw[h];split <;> simp
  ·simp[h]
theorem BP(w:Int):∀(r:List Int)(n:Int),∀ x∈n::r,kM w (Yo w n r)<=kM w x
 |[],n,x,hx=>by simp at hx;subst hx;simp[Yo]
 |k::r,n,x,hx=>by
  have e:Yo w n (k::r)=Yo w (if kM w k<kM w n then k else n) r:=rfl;rw[e];have ih:=BP w r (if kM w k<kM w n then k else n);have h0:=ih _ (Ug)
  rcases ua.mp hx with rfl|hx
  ·refine XE h0 ?_;split <;> lia
  ·rcases ua.mp hx with rfl|hx
   ·refine XE h0 ?_;split <;> lia
   ·exact ih x (by simp[hx])
noncomputable def cz(rows:List (List Int))(p:Int×Int):Int:=(rows.getD p.1.toNat []).getD p.2.toNat 0
theorem Jh{most:Int}{rows:List (List Int)}{H W:Nat}(d:Drawn most rows H W){p:Int×Int}(h:0<=p.1/\p.1<H/\0<=p.2/\p.2<W):∃ r,rows[p.1.toNat]?=some r/\r[p.2.toNat]?=some (cz rows p)/\0<=cz rows p/\cz rows p<=most:=by
 have l1:p.1.toNat<rows.length:=by rw[d.len];lia
 have e1:rows[p.1.toNat]?=some rows[p.1.toNat]:=xa l1;have hm:=wj l1;have l2:p.2.toNat<(rows[p.1.toNat]).length:=by rw[d.lP _ hm];lia
 have e2:=xa l2;have es:cz rows p=(rows[p.1.toNat])[p.2.toNat]:=by simp[cz,Vg,e1,e2]
 exact⟨_,e1,by rw[es];exact e2,by rw[es];exact d.sh _ hm _ (wj l2)⟩
theorem yR{i:Int}(h0:-(2^200)<i)(h1:i<2^200):i.natAbs<big:=by
 have:(2:Nat)^200<=big:=Xl (by decide) (by decide)
 lia
theorem yck(c:Cell)(g:MH)(d:Cell)(t:MH):kill [g.length+1] (c::(g++d::t))=c::(g++.dead::t):=by
 unfold kill;refine vh λi=>?_;rw[xl];cases i with
 |zero=>simp
 |succ i =>
  simp only[xo,Xc]
  rcases WF i g.length with hi|hi|hi
  ·rw[va hi,va hi];have:¬ i+1=g.length+1:=by lia
   simp only[this,if_false];cases g[i]? <;> rfl
  ·subst hi;simp
  ·rw[Ud (by lia),Ud (by lia)];obtain⟨m,hm⟩:∃ m,i-g.length=m+1:=⟨i-g.length-1,by lia⟩;rw[hm];have:¬ i+1=g.length+1:=by lia
   simp only[xo,this,if_false];cases t[m]? <;> rfl
theorem Eo(c:Cell)(g:MH)(ys:List FV)(t:MH):QM (.ref (g.length+1)) (c::(g++.lst (ys.map .f)::t))=.ok (.f (.lst ys)) (c::(g++.dead::t)):=by
 rw[D' _ _ ys (by have:=yk (c::g) t (ys.map MV.f);simpa using this),yck]
end MP
end
section
namespace MP
open PySem
theorem yI{α:Type}{P:List α->Prop}(h0:P [])(hs:∀ l a,P l->P (l++[a]))(l:List α):P l:=by
 have:∀ l:List α,P l.reverse:=λl=>by
  induction l with
  |nil=>exact h0
  |cons a l ih=>rw[Vr];exact hs _ _ ih
 have:=this l.reverse
 rwa [List.reverse_reverse] at this
structure Ent where
 p:Int×Int
 got:Int
 fX:Int
 left:Int
 odd:Int
noncomputable def Yk(e:Ent):FV:=.tup [qv e.p,.int e.got,.int e.fX,.int e.left,.int e.odd]
noncomputable def QD(sh L:List Int):Int:=((sh.zip L).map λp=>p.1*p.2).sum
noncomputable def zV(es:List Ent):Int:=match es.getLast? with|some e=>e.odd|none=>0
noncomputable def ZI(sh:List Int)(es:List Ent):Int:=zV es+QD sh (es.map (·.left)).reverse
noncomputable def iE(sh:List Int)(n0:Int)(ns:List Int)(x:Int)(es:List Ent)(p:Int×Int):Ent :=
 ⟨p,ZI sh es/sh.sum,Yo (x+ZI sh es/sh.sum) n0 ns,x+ZI sh es/sh.sum-Yo (x+ZI sh es/sh.sum) n0 ns,ZI sh es%sh.sum⟩
noncomputable def zc(sh:List Int)(n0:Int)(ns:List Int)(f:Int×Int->Int)(ps:List (Int×Int)):List Ent:=ps.foldl (λes p=>es++[iE sh n0 ns (f p) es p]) []
theorem Qr(sh:List Int)(n0:Int)(ns:List Int)(f:Int×Int->Int)(ps:List (Int×Int))(p:Int×Int) :
  zc sh n0 ns f (ps++[p])=zc sh n0 ns f ps++[iE sh n0 ns (f p) (zc sh n0 ns f ps) p]:=by simp[zc]
theorem yN(sh:List Int)(n0:Int)(ns:List Int)(f:Int×Int->Int)(ps:List (Int×Int)):(zc sh n0 ns f ps).length=ps.length :=
 yI (P:=λps=>(zc sh n0 ns f ps).length=ps.length) rfl (λl a ih=>by rw[Qr];simp[ih]) ps
theorem En(sh:List Int)(n0:Int)(ns:List Int)(f:Int×Int->Int)(ps:List (Int×Int)):(zc sh n0 ns f ps).map (·.p)=ps :=
 yI (P:=λps=>(zc sh n0 ns f ps).map (·.p)=ps) rfl (λl a ih=>by rw[Qr,Uh,ih];rfl) ps
theorem Kt(sh:List Int)(n0:Int)(ns:List Int)(f:Int×Int->Int)(ps:List (Int×Int)):∀ e∈zc sh n0 ns f ps,e.fX∈n0::ns :=
 yI (P:=λps=>∀ e∈zc sh n0 ns f ps,e.fX∈n0::ns) (by simp[zc]) (λl a ih e he=>by
  rw[Qr] at he
  rcases Xf.mp he with he|he
  ·exact ih e he
  ·rw[Xc.mp he];exact Ma _ _ _) ps
structure jz (sh:List Int):Prop where
 nn:∀ x∈sh,0<=x/\x<2^100
 one:1<=sh.sum
 len:sh.length<=10
structure iI (most:Int) (sh:List Int) (es:List Ent):Prop where
 l:∀ e∈es,-most<=e.left/\e.left<=most
 o:0<=zV es/\zV es<sh.sum
theorem oG:∀(l:List Int),(∀ x∈l,0<=x)->0<=l.sum
 |[],_=>by simp
 |y::r,h=>by
  have h1:=h y (by simp);have h2:=oG r λz hz=>h z (by simp[hz]);rw[wo];lia
theorem OQ{most:Int}(hm:0<=most):∀(sh L:List Int),(∀ x∈sh,0<=x)->(∀ l∈L,-most<=l/\l<=most)->-(sh.sum*most)<=QD sh L/\QD sh L<=sh.sum*most
 |[],L,_,_=>by simp[QD]
 |x::sh,[],hs,hl=>by
  have:0<=(x::sh).sum*most:=Int.mul_nonneg (oG _ hs) hm;simp[QD];simp at this;lia
 |x::sh,l::L,hs,hl=>by
  have ih:=OQ hm sh L (λz hz=>hs z (by simp[hz])) (λz hz=>hl z (by simp[hz]));have hx:=hs x (by simp);have h1:=hl l (by simp);have e1:x*l<=x*most:=Ur h1.2 hx;have e2:x*(-most)<=x*l:=Ur h1.1 hx;have e3:QD (x::sh) (l::L)=x*l+QD sh L:=by simp[QD]
  have e4:(x::sh).sum*most=x*most+sh.sum*most:=by rw[wo,Vt]
  have e5:x*(-most)=-(x*most):=Int.mul_neg ..;rw[e3,e4];lia
theorem Kx{most:Int}{sh:List Int}{es:List Ent}(hm:0<=most)(s:jz sh)(w:iI most sh es):-most<=ZI sh es/sh.sum/\ZI sh es/sh.sum<=most:=by
 have h1:=OQ hm sh (es.map (·.left)).reverse (λx hx=>(s.nn x hx).1) (λl hl=>by
  obtain⟨e,he,rfl⟩:=Wd.mp (vA.mp hl);exact w.l e he)
 have h2:=w.o;have h3:=s.one;unfold ZI;constructor
 ·rw[ur (by lia)];have:-most*sh.sum=-(sh.sum*most):=by rw[xF,wt]
  lia
 ·have:(zV es+QD sh (es.map (·.left)).reverse)/sh.sum<most+1:=by
   rw[Int.ediv_lt_iff_lt_mul (by lia)];have:(most+1)*sh.sum=sh.sum*most+sh.sum:=by rw[Vt,wt];lia
   lia
  lia
theorem BQ(es:List Ent)(e:Ent):zV (es++[e])=e.odd:=by simp[zV]
theorem iI.next{most:Int}{sh:List Int}{es:List Ent}{n0:Int}{ns:List Int}{x:Int}{p:Int×Int}(hm:0<=most)(s:jz sh)(w:iI most sh es)(z:(0:Int)∈n0::ns)(m:most∈n0::ns)(hx:0<=x/\x<=most) :
  iI most sh (es++[iE sh n0 ns x es p]):=by
 have g:=Kx hm s w;refine⟨λe he=>?_,?_⟩
 ·rcases Xf.mp he with he|he
  ·exact w.l e he
  ·rw[Xc.mp he];show -most<=x+ZI sh es/sh.sum-Yo (x+ZI sh es/sh.sum) n0 ns/\x+ZI sh es/sh.sum-Yo (x+ZI sh es/sh.sum) n0 ns<=most;generalize ZI sh es/sh.sum=q at *;have b0:=BP (x+q) ns n0 0 z;have b1:=BP (x+q) ns n0 most m;generalize Yo (x+q) n0 ns=b at *;unfold kM at b0 b1;split at b0 <;> split at b0 <;> split at b1 <;> split at b1 <;> lia
 ·rw[BQ];have h3:=s.one;exact⟨xr _ (by lia),Xp _ (by lia)⟩
theorem iI.nil{most:Int}{sh:List Int}(s:jz sh):iI most sh []:=⟨by simp,by have:=s.one;simp[zV];lia⟩
theorem iI.all{most:Int}{sh:List Int}{n0:Int}{ns:List Int}{f:Int×Int->Int}(hm:0<=most)(s:jz sh)(z:(0:Int)∈n0::ns)(m:most∈n0::ns)(ps:List (Int×Int))(hx:∀ p∈ps,0<=f p/\f p<=most):iI most sh (zc sh n0 ns f ps):=by
 revert hx
 refine yI (P:=λps=>(∀ p∈ps,0<=f p/\f p<=most)->iI most sh (zc sh n0 ns f ps)) (λ_=>iI.nil s) (λl a ih hx=>?_) ps;rw[Qr];exact iI.next hm s (ih λp hp=>hx p (by simp[hp])) z m (hx a (by simp))
theorem JL{sh:List Int}(s:jz sh):sh.sum<2^110:=by
 have key:∀ l:List Int,(∀ x∈l,0<=x/\x<2^100)->l.sum<=l.length*2^100:=by
  intro l
  induction l with
  |nil=>simp
  |cons x l ih =>
   intro h;have h1:=h x (by simp);have h2:=ih λy hy=>h y (by simp[hy]);rw[wo,ud];push_cast;rw[Vt]
   lia
 have h1:=key sh s.nn;have h2:=s.len
 lia
end MP
namespace MP
theorem Nz(xs:List MV)(k:Nat)(hk:k<xs.length):cW xs (-((k:Int)+1))=xs.reverse[k]?:=by
 unfold cW jW;rw[if_neg (by lia),if_pos (by lia)];rw[List.getElem?_reverse hk];simp only[xh]
 congr 1
 lia
theorem KY(M:List Int):∀(sh L:List Int)(k:Nat)(z:Int),M.drop k=L->((sh.take L.length).zipIdx k).foldl (λd p=>d+p.1*M.getD p.2 0) z=z+QD sh L
 |[],L,k,z,_=>by simp[QD]
 |x::sh,[],k,z,_=>by simp[QD]
 |x::sh,l::L,k,z,h=>by
  have e1:M.drop (k+1)=L:=by rw[<- List.drop_drop,h];rfl
  have e2:M.getD k 0=l:=by
   have:=congrArg (λq:List Int=>q[0]?) h;simp only[uv,Nat.add_zero,List.getElem?_cons_zero] at this;simp[Vg,this]
  rw[ud,Wm,ww,Vl,KY M sh L (k+1) _ e1,e2];simp[QD];lia
theorem Lb(b:Bool)(l:List Int)(h:MH):fP "enum1" [.f (Qa b l)] h=some (l.zipIdx.map (λp=>MV.f (.tup [.int ((p.2+1:Nat):Int),.int p.1])),[]):=by
 have q:Qb h (.f (Qa b l))=some (l.map (MV.f∘FV.int)):=by cases b <;> simp[Qa]
 have g:Zd h (.f (Qa b l))=[]:=by cases b <;> simp[Qa]
 simp only[fP,q,wg,g,Option.some.injEq,Prod.mk.injEq,and_true];apply vh;intro i;rw[xl,wc,wc,List.getElem?_zipIdx];cases l[i]? with
 |none=>rfl
 |some x=>simp[Zi,zj]
theorem Qct(xs:List Int)(n:Nat):j8 (xs.map (MV.f∘FV.int)) none (some (n:Int))=(xs.take n).map (MV.f∘FV.int):=by
 simp only[j8,lx,if_neg (show ¬((n:Int)<0) by lia),xq,Xx,wq,xc];rw[List.map_take];by_cases h:n<=xs.length
 ·rw[Nat.min_eq_left h]
 ·rw[Nat.min_eq_right (by lia),Vj (by simp),Vj (by simp;lia)]
end MP
namespace MP
theorem zcf(g t:MH)(xs:List FV):Qg g (.ref g.length) (g++.lst (xs.map .f)::t)=.ok (.ref g.length) (g++[.lst (xs.map .f)]):=by
 have cl:=yk g t (xs.map MV.f);have tr:bP g (g++.lst (xs.map MV.f)::t):=bP.app g _;have ef:=ZO xs;generalize xs.map MV.f=M at *;have tk:(g++Cell.lst M::t).take g.length=g:=by rw[wy];rfl
 unfold Qg;rw[if_pos tr];simp only;rw[if_pos (by simp),cl];simp only[ef,tk]
noncomputable def cZ(c:Nat×Nat):Int×Int:=((c.1:Int),(c.2:Int))
theorem IA(c:Nat×Nat):qv (cZ c)=Za c:=rfl
end MP
namespace MP
theorem Jp(g t:MH)(x:FV):Qg g (.f x) (g++t)=.ok (.f x) g:=by
 have tr:bP g (g++t):=bP.app g _;unfold Qg;rw[if_pos tr];simp
noncomputable def qg(c:String):FV:=.obj c [] []
section
variable (n:Nat) (h:MH)
theorem Yy(a b:Int):run prog (n+1) "ask_size" [I a,I b] h=if 1<=a/\1<=b then .ok (.f .bI) h else .stuck:=by
 rw[Qbp];simp only[dQ];by_cases c:1<=a
 ·by_cases c2:1<=b
  ·have e1:¬ a<1:=by lia
   have e2:¬ b<1:=by lia
   simp[c,c2,e1,e2]
  ·have e1:¬ a<1:=by lia
   have e2:b<1:=by lia
   simp[c2,e1,e2,zW]
 ·have e1:a<1:=by lia
  simp[c,e1,zW]
section
variable (w:MV) (H W:Nat) (h1:1<=H) (h2:1<=W) (mf:H*W<=100000) (hW:W<=10000) (hH:H<=10000)
include h1 h2 mf hW hH
theorem ZaK:run prog (n+2) "Way.order" [w,I H,I W] h=.ok (.ref h.length) (h++[.lst (((yj H W).map Za).map .f)]):=by
 have A:=Yy n h H W;rw[if_pos (by lia)] at A;have C:=zJ n h H W mf hW hH;have lv:=Du h ((yj H W).map Za);generalize ((yj H W).map Za).map MV.f=M at *;rw[Ya0];simp only[dg];simp[A,C,lv]
theorem qa1:run prog (n+2) "FroWay.order" [w,I H,I W] h=.ok (.ref h.length) (h++[.lst (((zU H W).map Za).map .f)]):=by
 suffices cQ (run prog (n+2) "FroWay.order" [w,I H,I W] h) λv h'=>v=.ref h.length/\h'=h++[.lst (((zU H W).map Za).map .f)] by
  obtain⟨v,h',e,rfl,rfl⟩:=this;exact e
 refine cQ.of λQ hQ=>?_;have A:=Yy n h H W;rw[if_pos (by lia)] at A;rw[QaA];simp only[bS];simp[A,zm _ (H:Int) (by lia)];refine yt (Q:=λr=>cQ (yb _ r) _) H (λi σ hh=>∃(z4 z5:Option MV),hh=h++[.lst (((zU i W).map Za).map .f)]/\σ=[some w,some (I H),some (I W),some (.ref h.length),z4,z5]) ⟨none,none,by simp[zU],rfl⟩ ?_ ?_
 ·rintro i σ hh pH ⟨z4,z5,rfl,rfl⟩ Q hQ;have nx:((zU (i+1) W).map Za).map MV.f=((zU i W).map Za).map MV.f++(((Xd W).map λc=>Za (i,if i%2=0 then c else W-1-c)).map MV.f):=by
   unfold zU;rw[Wv,vy,Uh,Uh];simp[vc]
  simp only[nx] at hQ;have ml:(((zU i W).map Za).map MV.f).length+W<=aO:=by
   have:i*W<=H*W:=Vx _ (by lia);simp[KN,zf];lia
  generalize ((zU i W).map Za).map MV.f=M at *;have cl:=yk h [] M;have st:=λys=>yA h [] M ys;have m2:∀ hh,Qd true .mod (I i) (I 2) hh=.ok (I ((i:Int)%2)) hh:=λhh=>Ze _ _ _ (by decide);have hL:((Xd W).map λc=>Za (i,c)).length=W:=by simp
  have eR:((Xd W).map λc=>Za (i,c)).reverse=(Xd W).map λc=>Za (i,W-1-c):=by
   have:=congrArg (UA Za) (Zco i W);rw[Xt,wf,wf] at this;exact this
  simp[Qp,cl,zm _ (W:Int) (by lia),MP.stM];rw[ZG (e:=λk:Nat=>I k) (g:=λc=>MV.f (Za (i,c))) (Xd W) [] none (by simp[zf];lia) (λc _ z=>⟨some (I c),by simp[ql]⟩)];have e2:(Xd W).map (λc=>MV.f (Za (i,c)))=((Xd W).map λc=>Za (i,c)).map MV.f:=by simp[vc]
  simp only[uf,R.aJ,e2,Yg];by_cases c:i%2=0
  ·have ci:¬((i:Int)%2=1):=by lia
   simp only[c,if_true] at hQ;generalize (Xd W).map (λc=>Za (i,c))=L at *;simp[m2,ci,Q0,cl,hL,ml,st];exact hQ _ _ ⟨_,_,rfl,rfl⟩
  ·have ci:((i:Int)%2=1):=by lia
   simp only[c,if_false] at hQ;rw[<- eR] at hQ;generalize (Xd W).map (λc=>Za (i,c))=L at *;have hLR:L.reverse.length=W:=by simp[hL]
   have eM:(L.map MV.f).reverse=L.reverse.map MV.f:=by rw[Xt]
   generalize L.reverse=LR at *;simp[m2,ci,eM,Q0,cl,hLR,ml,st];exact hQ _ _ ⟨_,_,rfl,rfl⟩
 ·rintro σ hh ⟨z4,z5,rfl,rfl⟩;have lv:=Du h ((zU H W).map Za);generalize ((zU H W).map Za).map MV.f=M at *;simp[lv];exact hQ _ _ ⟨rfl,rfl⟩
theorem Ya5:run prog (n+2) "ColumnWay.order" [w,I H,I W] h=.ok (.ref h.length) (h++[.lst (((qU H W).map Za).map .f)]):=by
 suffices cQ (run prog (n+2) "ColumnWay.order" [w,I H,I W] h) λv h'=>v=.ref h.length/\h'=h++[.lst (((qU H W).map Za).map .f)] by
  obtain⟨v,h',e,rfl,rfl⟩:=this;exact e
 refine cQ.of λQ hQ=>?_;have A:=Yy n h H W;rw[if_pos (by lia)] at A;have C:=zJ n h W H (by rw[Us];exact mf) hH hW;obtain⟨t',F⟩:=Jg h [] ((yj W H).map Za);have gz:(yj W H).length<=aO:=by rw[ZN,Us,zf];lia
 have eC:(yj W H).map (λp=>MV.f (Za (p.2,p.1)))=((qU H W).map Za).map MV.f:=by unfold qU;simp[vc]
 have hq:∀ hh,Qb hh (.f (.lst ((yj W H).map Za)))=some ((yj W H).map λp=>MV.f (Za p)):=λhh=>by simp[vc]
 have gq:∀ hh,Zd hh (.f (.lst ((yj W H).map Za)))=[]:=λhh=>rfl;have lv:Qg h (.ref (h++t').length) (h++t'++[.lst (((qU H W).map Za).map .f)])=.ok (.ref h.length) (h++[.lst (((qU H W).map Za).map .f)]):=by
  have cl:=yk (h++t') [] (((qU H W).map Za).map MV.f);have tr:bP h (h++t'++[.lst (((qU H W).map Za).map MV.f)]):=by rw[uh];exact bP.app h _
  have ef:=ZO ((qU H W).map Za);generalize ((qU H W).map Za).map MV.f=M at *;have tk:(h++t'++[Cell.lst M]).take h.length=h:=by rw[uh,wy];rfl
  unfold Qg;rw[if_pos tr];simp only;rw[if_pos (by simp),cl];simp only[ef,tk]
 generalize hvl:FV.lst ((yj W H).map Za)=vl at *;generalize hvm:((yj W H).map Za).map MV.f=vm at *;rw[Zae];simp only[bC];simp[A,C,F,hq,gq,MP.stM];rw[yq (e:=λp:Nat×Nat=>MV.f (Za p)) (g:=λp=>MV.f (Za (p.2,p.1))) (caps:=[]) (yj W H) [] none none (by simpa using gz) (λp _ z w=>⟨some (I p.1),some (I p.2),by simp[ql]⟩)];simp only[uf,R.aJ,eC,Ew,uh] at lv ⊢;generalize ((qU H W).map Za).map MV.f=M at *;simp at lv;simp[lv];exact hQ _ _ ⟨rfl,rfl⟩
end
theorem Dm(W:String->List MV->MH->R MV)(c:String)(hi:prog.meths c "__init__"=none):zD prog W true c [] h=.ok (.f (qg c)) h:=by
 simp[zD,hi,zj,bP.app,qg]
end
end MP
end
section
namespace MP
open PySem
noncomputable def Ql(H W:Nat):List (List Int):=uc H (uc W 0)
section
variable (n:Nat) (h:MH)
theorem Zbm(most:Int)(H W:Nat)(hm:1<=most)(h1:1<=H)(h2:H<=1000)(w1:1<=W)(w2:W<=1000)(b:Bool)(ps:List ((Int×Int)×Int))(hp:∀ p∈ps,(0<=p.1.1/\p.1.1<H/\0<=p.1.2/\p.1.2<W)/\0<=p.2/\p.2<=most) :
  run prog (n+4) "laid_out" [I most,.f (.tup [.int H,.int W]),.f (sq b (ps.map nX))] h=.ok (.f (Zq most (yo (Ql H W) ps))) h:=by
 have g:Good most (Ql H W):=by
  refine⟨hm,by simp[Ql];lia,⟨W,w1,λr hr=>by rw[wl hr];simp⟩,λr hr v hv=>?_,by simp[Ql];lia⟩;rw[wl hr] at hv;rw[wl hv];lia
 have WS:=(QaH n h most (Ql H W) b ps g (λp nF=>⟨⟨(hp p nF).1.1,by simpa[Ql] using(hp p nF).1.2.1,(hp p nF).1.2.2.1,λr hr=>by rw[wl hr];simpa using(hp p nF).1.2.2.2⟩,(hp p nF).2⟩)).1;have mk:=QR (n+1) h most false false (Ql H W) g;have b1:∀ hh,Qd true .mul (.f (.lst [.int 0])) (I (W:Int)) hh=.ok (.f (Qa false (uc W 0))) hh:=λhh=>by
  have c:-(2^63)<=(W:Int)/\(W:Int)<2^63/\1*(W:Int).toNat<=aO:=⟨by lia,by lia,by rw[zf];lia⟩;have e:(uc W [MV.f (.int 0)]).flatten=((uc W (0:Int)).map FV.int).map MV.f:=by
   rw[xw];simp
  unfold Qd;simp only[zd,listOf,yd,Wb,xp,ud,Uk,Wx];rw[if_pos c,wq,e,Yg];rfl
 have b2:∀ hh,Qd true .mul (.f (.lst [Qa false (uc W 0)])) (I (H:Int)) hh=.ok (.f (Zh false false (Ql H W))) hh:=λhh=>by
  have c:-(2^63)<=(H:Int)/\(H:Int)<2^63/\1*(H:Int).toNat<=aO:=⟨by lia,by lia,by rw[zf];lia⟩;have e:(uc H [MV.f (Qa false (uc W 0))]).flatten=((Ql H W).map (Qa false)).map MV.f:=by
   rw[xw];simp[Ql]
  unfold Qd;simp only[zd,listOf,yd,Wb,xp,ud,Uk,Wx];rw[if_pos c,wq,e,Yg];rfl
 rw[Ybi];simp only[dN];have a0:cW [I (H:Int),I (W:Int)] 0=some (I (H:Int)):=rfl;have a1:cW [I (H:Int),I (W:Int)] 1=some (I (W:Int)):=rfl;generalize Qa false (uc W 0)=z at *;generalize Zh false false (Ql H W)=zz at *;generalize sq b (ps.map nX)=pp at *;generalize Zq most (Ql H W)=p0 at *;simp[a0,a1,b1,b2,zj,mk,WS]
theorem ZU(iv:MV)(xs:List Int)(V:cb h iv xs)(hs:1<=xs.sum)(h0:∀ x∈xs,0<=x):run prog (n+1) "ask_shares" [iv] h=.ok (.f .bI) h:=by
 have ne:xs≠[]:=by rintro rfl;simp at hs
 have e1:¬ xs.sum<1:=by lia
 have e2:¬ sH xs<0:=by have:=h0 _ (Ex ne);lia
 have q:=V.q;have q1:=OD true h iv xs (by rw[q];exact qo xs) ne;rw[yaO];simp only[cH];simp[q,e1,q1,e2]
theorem ybI(a:Nat)(es:List Ent)(p:Int×Int)(x most:Int)(iv jO:MV)(sh:List Int)(n0:Int)(ns:List Int)(ce:Yd (.code::h) a=some (es.map λe=>.f (Yk e)))(V:cb (.code::h) iv sh)(V2:cb (.code::h) jO (n0::ns))
  (s:jz sh) (w:iI most sh es) (hm:0<=most/\most<2^100):run prog (n+3) "entry_behind" [.ref a,.f (qv p),I x,iv,jO] (.code::h)=.ok (.f (Yk (iE sh n0 ns x es p))) (.code::h):=by
 obtain⟨b,sl⟩:=V.slice (Qct sh es.length);have q:=V.q;have E1:=qb3 n h (qv p) x (ZI sh es) sh.sum jO n0 ns V2 (by have:=s.one;lia) (yR (by have:=s.one;lia) (by have:=JL s;lia));have it:=Lb b (sh.take es.length) (.code::h)
 suffices cQ (run prog (n+3) "entry_behind" [.ref a,.f (qv p),I x,iv,jO] (.code::h)) λv h'=>v=.f (Yk (iE sh n0 ns x es p))/\h'=.code::h by
  obtain⟨v,h',e,rfl,rfl⟩:=this;exact e
 refine cQ.of λQ hQ=>?_;rw[yaz];simp only[aX];have lv:∀ y,Qg (.code::h) (.f y) (.code::h)=.ok (.f y) (.code::h):=λy=>by
  unfold Qg;rw[if_pos ⟨wb _,λi c _ e=>.inl e⟩];simp
 have go:cQ (yb (.code::h) (qa prog (run prog (n+2)) (aX.body.drop 1) [some (.ref a),some (.f (qv p)),some (I x),some iv,some jO,some (I (zV es)),none,none] (.code::h))) Q:=by
  simp only[aX,Xu,xq];simp[ce,sl,it];refine zcm (Q:=λr=>cQ (yb _ r) _) (e:=λp:Int×Nat=>MV.f (.tup [.int ((p.2+1:Nat):Int),.int p.1])) ((sh.take es.length).zipIdx) (zV es,(none:Option MV),(none:Option MV)) (λb=>[some (.ref a),some (.f (qv p)),some (I x),some iv,some jO,some (I b.1),b.2.1,b.2.2]) (λ_=>.code::h)
   (λb y=>(b.1+y.1*(es.map (·.left)).reverse.getD y.2 0,some (I ((y.2+1:Nat):Int)),some (I y.1))) rfl rfl ?_ ?_
  ·rintro⟨y,k⟩ hy ⟨d,z1,z2⟩;have hk:=wz.mp hy;simp only[um,Xx] at hk;have Hu:k<es.length:=by
    have:=(Xa.mp hk).1;simp at this;lia
   have Mt:y∈sh:=Wy (Ue hk);have lJ:=Nz (es.map λe=>MV.f (Yk e)) k (by simpa using Hu);obtain⟨e,he⟩:∃ e,es.reverse[k]?=some e:=⟨es.reverse[k]'(by simpa using Hu),by simp[Hu]⟩;have MD:e∈es:=vA.mp (Ue he);rw[<- Xt,wc,he] at lJ;have gd:(es.map (·.left)).reverse.getD k 0=e.left:=by
    rw[Vg,<- Xt,wc,he];rfl
   have a3:cW [MV.f (qv e.p),I e.got,I e.fX,I e.left,I e.odd] 3=some (I e.left):=rfl;have mu:qD y e.left:=.inr (.inr ⟨yR (by have:=s.nn y Mt;lia) (by have:=s.nn y Mt;lia),yR (by have:=w.l e MD;lia) (by have:=w.l e MD;lia)⟩);simp only[wg] at lJ;simp only[gd];have nk:-((k:Int)+1)=-1 + -(k:Int):=by lia
   have sE:∀ hh,Qb hh (.f (Yk e))=some [MV.f (qv e.p),I e.got,I e.fX,I e.left,I e.odd]:=λ_=>rfl;simp[Qp,ce,lJ,sE,a3,ym,mu]
  ·have e1:=KY (es.map (·.left)).reverse sh (es.map (·.left)).reverse 0 (zV es) rfl;have ff:∀(l:List (Int×Nat)) (b:Int×Option MV×Option MV),(l.foldl (λb y=>(b.1+y.1*(es.map (·.left)).reverse.getD y.2 0,some (I ((y.2+1:Nat):Int)),some (I y.1))) b).1=l.foldl (λd p=>d+p.1*(es.map (·.left)).reverse.getD p.2 0) b.1:=by
    intro l
    induction l with
    |nil=>intro b;rfl
    |cons y l ih=>intro b;exact ih _
   have e2:=ff ((sh.take es.length).zipIdx) (zV es,(none:Option MV),(none:Option MV));simp only[WD,xc] at e1;rw[e1] at e2;generalize (sh.take es.length).zipIdx.foldl (λ(b:Int×Option MV×Option MV) y=>(b.1+y.1*(es.map (·.left)).reverse.getD y.2 0,some (I ((y.2+1:Nat):Int)),some (I y.1))) (zV es,none,none)=fin at *;obtain⟨d,z1,z2⟩:=fin;simp only at e2;have e3:d=ZI sh es:=e2;subst e3;simp[q,E1,lv];exact hQ _ _ ⟨rfl,rfl⟩
 rcases List.eq_nil_or_concat es with rfl|⟨l,e,rfl⟩
 ·simp only[aX,Xu,xq] at go;simp[ce,zV] at go ⊢;exact go
 ·have lJ:=Nz ((l++[e]).map λe=>MV.f (Yk e)) 0 (by simp);rw[<- Xt,wc] at lJ;simp only[List.concat_eq_append] at *;have sE:∀ hh,Qb hh (.f (Yk e))=some [MV.f (qv e.p),I e.got,I e.fX,I e.left,I e.odd]:=λ_=>rfl;simp at lJ;have a4:cW [MV.f (qv e.p),I e.got,I e.fX,I e.left,I e.odd] 4=some (I e.odd):=rfl;simp only[aX,Xu,xq,BQ] at go;simp only[qa,YA,ya];simp[ce,lJ,a4,sE] at go ⊢;exact go
theorem ybr(most:Int)(rows:List (List Int))(H W:Nat)(d:Drawn most rows H W)(hm:1<=most)(h1:1<=H)(h2:H<=1000)(w1:1<=W)(w2:W<=1000)(es:List Ent)(hl:es.length<=10000)
  (jP:∀ e∈es,0<=e.p.1/\e.p.1<H/\0<=e.p.2/\e.p.2<W) (hi:∀ e∈es,0<=e.fX/\e.fX<=most) :
  run prog (n+5) "dots_of" [.f (Zq most rows),.f (.lst (es.map Yk))] h=.ok (.f (Zq most (yo (Ql H W) (es.map λe=>(e.p,e.fX))))) h:=by
 have hr:rows≠[]:=by rintro rfl;have:=d.len;simp at this;lia
 have hw:(rows.headD []).length=W:=by
  cases rows with
  |nil=>exact absurd rfl hr
  |cons r rs=>exact d.lP r (by simp)
 have S:=O0 (n+2) h most rows hr;rw[d.len,hw] at S;have L:=Zbm n h most H W hm h1 h2 w1 w2 false (es.map λe=>(e.p,e.fX)) (λq hq=>by
  obtain⟨e,he,rfl⟩:=Wd.mp hq;exact⟨jP e he,hi e he⟩)
 have p1:lK prog.iG "most" (.f (Zq most rows)) h=some (I most):=by simp[Zq]
 rw[zbB];simp only[eK];generalize Zq most rows=pc at *;generalize yo (Ql H W) (es.map λe=>(e.p,e.fX))=so at *;simp[p1,S,fP,MP.stM,vc];rw[Kn (YJ _) (λσ=>∃ z0 z1 z2 z3 z4,σ=[z0,z1,z2,z3,z4]) (e:=λe:Ent=>MV.f (Yk e)) (g:=λe=>MV.f (nX (e.p,e.fX))) es [] _ ⟨none,none,none,none,none,rfl⟩ (by simp[zf];lia) (by
  rintro e he σ ⟨z0,z1,z2,z3,z4,rfl⟩;refine⟨[some (.f (qv e.p)),some (I e.got),some (I e.fX),some (I e.left),some (I e.odd)],?_,_,_,_,_,_,rfl⟩;simp[ql,Yk,Zi,zj])]
 have e3:(es.map λe=>MV.f (nX (e.p,e.fX)))=((es.map λe=>(e.p,e.fX)).map nX).map MV.f:=by simp
 rw[uf,R.aJ,e3,Yg];simp only[sq] at L;simp at L ⊢;simp[L]
noncomputable def mz(w:FV)(H W:Nat)(cs:List (Nat×Nat)):Prop:=∃ c ns vs f,w=.obj c ns vs/\"order"∉ns/\prog.meths c "order"=some f/\∀ n h,run prog (n+6) f [.f w,I H,I W] h=.ok (.ref h.length) (h++[.lst ((cs.map Za).map .f)])
theorem Oe(most:Int)(rows:List (List Int))(H W:Nat)(d:Drawn most rows H W)(hm:1<=most)(rR:most<2^100)(h1:1<=H)(w1:1<=W)(w:FV)(cs:List (Nat×Nat))(wr:mz w H W cs)(hc:∀ c∈cs,c.1<H/\c.2<W)(jo:cs.length<=10000)
  (iv jO:MV) (sh:List Int) (n0:Int) (ns:List Int) (V:cb (.code::h) iv sh) (V2:cb (.code::h) jO (n0::ns)) (s:jz sh) (K:gF most (n0::ns)) (z:(0:Int)∈n0::ns) (m:most∈n0::ns) :
  run prog (n+7) "ledger" [.f (Zq most rows),.f w,iv,jO] (.code::h)=.ok (.ref (h.length+1)) (.code::(h++[.lst ((zc sh n0 ns (cz rows) (cs.map cZ)).map λe=>.f (Yk e))])):=by
 suffices cQ (run prog (n+7) "ledger" [.f (Zq most rows),.f w,iv,jO] (.code::h)) λv h'=>v=.ref (h.length+1)/\h'=.code::(h++[.lst ((zc sh n0 ns (cz rows) (cs.map cZ)).map λe=>.f (Yk e))]) by
  obtain⟨v,h',e,rfl,rfl⟩:=this;exact e
 refine cQ.of λQ hQ=>?_;have hr:rows≠[]:=by rintro rfl;have:=d.len;simp at this;lia
 have hw:(rows.headD []).length=W:=by
  cases rows with
  |nil=>exact absurd rfl hr
  |cons r rs=>exact d.lP r (by simp)
 have A:=ZU (n+5) (.code::h) iv sh V s.one (λx hx=>(s.nn x hx).1);have B1:=Ybp (n+4) (.code::h) most jO (n0::ns) V2 K hm;have S:=O0 (n+4) (.code::h) most rows hr;rw[d.len,hw] at S;obtain⟨c,fn,fv,f,rfl,no,mo,ord⟩:=wr;have O:=ord n (.code::(h++[.lst []]));have F:=Eo .code (h++[.lst []]) (cs.map Za) [];have p1:lK prog.iG "most" (.f (Zq most rows)) (.code::h)=some (I most):=by simp[Zq]
 have SH:∀(t:MH)(c:Nat×Nat),c∈cs->run prog (n+6) "shade_at" [.f (Zq most rows),.f (Za c)] (.code::(h++t))=.ok (I (cz rows (cZ c))) (.code::(h++t)):=λt c rV=>by
  have pK:=hc c rV;obtain⟨r,e1,e2,_⟩:=Jh d (p:=cZ c) ⟨by simp[cZ],by simp[cZ];lia,by simp[cZ],by simp[cZ];lia⟩;exact Zbo (n+2) _ most rows H W d c.1 c.2 pK.1 pK.2 r _ (by simpa[cZ] using e1) (by simpa[cZ] using e2)
 generalize Zq most rows=pc at *;have cm:∀ hh,lN "order" (.f (.obj c fn fv)) hh=some c:=λhh=>by simp[lN,no]
 have a0:cW [I (H:Int),I (W:Int)] 0=some (I (H:Int)):=rfl;have a1:cW [I (H:Int),I (W:Int)] 1=some (I (W:Int)):=rfl;generalize hwv:FV.obj c fn fv=wv at *;rw[ybN];simp only[fE];simp at O F;simp[A,p1,B1,S,a0,a1,cm,mo,O,F];refine OB (Q:=λr=>cQ (yb _ r) _) (e:=MV.f∘Za) cs (λi σ hh=>∃ z6:Option MV,hh=.code::(h++[.lst ((zc sh n0 ns (cz rows) ((cs.take i).map cZ)).map λe=>.f (Yk e)),.dead])/\σ=[some (.f pc),some (.f wv),some iv,some jO,some (.f (.tup [.int H,.int W])),some (.ref (h.length+1)),z6]) ⟨none,by simp[zc],rfl⟩ ?_ ?_
 ·rintro i c σ hh MG ⟨z6,rfl,rfl⟩ Q hQ;have rV:=Ue MG;have E:zc sh n0 ns (cz rows) ((cs.take (i+1)).map cZ)=zc sh n0 ns (cz rows) ((cs.take i).map cZ)++[iE sh n0 ns (cz rows (cZ c)) (zc sh n0 ns (cz rows) ((cs.take i).map cZ)) (cZ c)]:=by
   rw[wA,MG];simp only[Option.toList_some,Uh,Wb,xp];exact Qr ..
  have ok:=iI.all (f:=cz rows) (by lia) s z m ((cs.take i).map cZ) (λp hp=>by
   obtain⟨c',eF,rfl⟩:=Wd.mp hp;have pK:=hc c' (Wy eF);obtain⟨r,_,_,q⟩:=Jh d (p:=cZ c') ⟨by simp[cZ],by simp[cZ];lia,by simp[cZ],by simp[cZ];lia⟩;exact q)
  have el:(zc sh n0 ns (cz rows) ((cs.take i).map cZ)).length<=10000:=by
   rw[yN];simp;lia
  simp only[E] at hQ;generalize zc sh n0 ns (cz rows) ((cs.take i).map cZ)=es at *;have sh1:=SH [.lst (es.map λe=>.f (Yk e)),.dead] c rV;have ce:Yd (.code::(h++[.lst (es.map λe=>.f (Yk e)),.dead])) (h.length+1)=some (es.map λe=>.f (Yk e)):=by
   have:=yk (.code::h) [.dead] (es.map λe=>MV.f (Yk e));simpa using this
  have st:∀ ys,yf (.code::(h++[.lst (es.map λe=>.f (Yk e)),.dead])) (h.length+1) ys=.code::(h++[.lst ys,.dead]):=λys=>by
   have:=yA (.code::h) [.dead] (es.map λe=>MV.f (Yk e)) ys;simpa using this
  have Va:cb (.code::(h++[.lst (es.map λe=>.f (Yk e)),.dead])) iv sh:=V.app [.lst (es.map λe=>.f (Yk e)),.dead];have Vb:cb (.code::(h++[.lst (es.map λe=>.f (Yk e)),.dead])) jO (n0::ns):=V2.app [.lst (es.map λe=>.f (Yk e)),.dead];have BH:=ybI (n+3) (h++[.lst (es.map λe=>.f (Yk e)),.dead]) (h.length+1) es (cZ c) (cz rows (cZ c)) most iv jO sh n0 ns ce Va Vb s ok ⟨by lia,rR⟩;have ea:(es.map λe=>MV.f (Yk e))++[MV.f (Yk (iE sh n0 ns (cz rows (cZ c)) es (cZ c)))]=(es++[iE sh n0 ns (cz rows (cZ c)) es (cZ c)]).map λe=>MV.f (Yk e):=by simp
  have ml:(es.map λe=>MV.f (Yk e)).length<aO:=by rw[zf,xc];lia
  rw[IA] at BH;simp only[<- ea] at hQ;generalize cz rows (cZ c)=x at *;generalize Yk (iE sh n0 ns x es (cZ c))=en at *;generalize (es.map λe=>MV.f (Yk e))=M at *;generalize HI:Za c=cn at *;simp[Qp,ce,HI,sh1,BH,ml,st];exact hQ _ _ ⟨_,rfl,rfl⟩
 ·rintro σ hh ⟨z6,rfl,rfl⟩;rw[uq];have lv:=zcf (.code::h) [.dead] ((zc sh n0 ns (cz rows) (cs.map cZ)).map Yk);rw[wf] at lv;simp only[vc] at lv;generalize ((zc sh n0 ns (cz rows) (cs.map cZ)).map λe=>MV.f (Yk e))=M at *;simp at lv;simp[lv];exact hQ _ _ ⟨rfl,rfl⟩
end
end MP
end
section
namespace MP
open PySem
noncomputable def oj(cs:List (Nat×Nat))(m:Nat):List (Nat×Nat) :=
 cs.map (λc=>(c.2,c.1))++cs.map (λc=>(m+c.1,c.2))++cs.map (λc=>(m+c.1,m+c.2))++cs.map (λc=>(m-1-c.2,2*m-1-c.1))
noncomputable def Qi:Nat->List (Nat×Nat)
 |0=>[(0,0)]
 |k+1=>oj (Qi k) (2^k)
theorem Ju:∀(k:Nat),∀ c∈Qi k,c.1<2^k/\c.2<2^k
 |0,c,h=>by
  simp[Qi] at h;subst h;simp
 |k+1,c,h=>by
  have ih:=Ju k;have p:2^(k+1)=2*2^k:=by rw[VA,Us]
  have q:0<2^k:=Nat.two_pow_pos k;rw[p];simp only[Qi,oj,Xf,Wd] at h
  rcases h with ((⟨d,hd,rfl⟩|⟨d,hd,rfl⟩)|⟨d,hd,rfl⟩)|⟨d,hd,rfl⟩ <;> (have:=ih d hd;simp only;lia)
theorem BG:∀ k:Nat,(Qi k).length=4^k
 |0=>rfl
 |k+1=>by
  simp only[Qi,oj,vg,xc,BG k,VA]
  lia
theorem zcH(H W:Nat)(hH:H<=16)(hW:W<=16):∃ k,k<=4/\H<=2^k/\W<=2^k/\∀ i,i<k->2^i<H\/2^i<W:=by
 by_cases h0:H<=1/\W<=1
 ·exact⟨0,by lia,by simpa using h0.1,by simpa using h0.2,λi hi=>by lia⟩
 by_cases h1:H<=2/\W<=2
 ·refine⟨1,by lia,by simpa using h1.1,by simpa using h1.2,λi hi=>?_⟩;obtain rfl:i=0:=by lia
  simp;lia
 by_cases h2:H<=4/\W<=4
 ·refine⟨2,by lia,by simpa using h2.1,by simpa using h2.2,λi hi=>?_⟩;have:i=0\/i=1:=by lia
  rcases this with rfl|rfl <;> simp <;> lia
 by_cases h3:H<=8/\W<=8
 ·refine⟨3,by lia,by simpa using h3.1,by simpa using h3.2,λi hi=>?_⟩;have:i=0\/i=1\/i=2:=by lia
  rcases this with rfl|rfl|rfl <;> simp <;> lia
 ·refine⟨4,by lia,by simpa using hH,by simpa using hW,λi hi=>?_⟩;have:i=0\/i=1\/i=2\/i=3:=by lia
  rcases this with rfl|rfl|rfl|rfl <;> simp <;> lia
theorem YV{α:Type}{G:qG}{bd:MV->aF->MH->R (Option MV×aF)}{h:MH}{e g:α->MV}{t:α->Bool}(hg:a6 G h)(Iv:aF->Prop):∀(ys:List α)(acc:List MV)(σ:aF),Iv σ->acc.length+ys.length<=aO ->
  (∀ y∈ys,∀ σ,Iv σ->∃ σ',bd (e y) σ h=.ok (if t y=true then some (g y) else none,σ') h/\Iv σ')->Yl G bd (ys.map e) acc σ h=.ok (acc++(ys.filter t).map g) h
 |[],acc,σ,_,_,_=>by simp[Yl,hg]
 |y::r,acc,σ,iv,hl,hb=>by
  obtain⟨σ',e',Mn⟩:=hb y (by simp) σ iv;simp only[ud] at hl;have c:a6 G h/\acc.length<aO:=⟨hg,by lia⟩;rw[Wb,Yl,if_pos c,e',R.aJ];by_cases ht:t y=true
  ·simp only[ht,if_true];rw[YV hg Iv r _ σ' Mn (by simp;lia) λz hz=>hb z (by simp[hz])];simp[Ww,ht]
  ·simp only[ht];have:=YV hg Iv r acc σ' Mn (by lia) λz hz=>hb z (by simp[hz]);simp only[Vk,if_false] at this ⊢;rw[this];simp[Ww,ht]
theorem YbF{ks:List (Int×Int)}(h:ks.Nodup)(k:Int×Int):(ZE ks k).Nodup:=by
 unfold ZE;split
 ·exact h
 next n =>
  rw[Ul];refine⟨h,by simp,λa ha b hb=>?_⟩;rw[Xc.mp hb]
  exactλe=>n (e ▸ ha)
theorem Ycn{ks:List (Int×Int)}{k x:Int×Int}:x∈ZE ks k↔x∈ks\/x=k:=by
 unfold ZE;split
 next m=>exact⟨.inl,λh=>h.elim id λe=>e ▸ m⟩
 next=>simp
theorem NI:∀(ms ks:List (Int×Int)),ks.Nodup->(ms.foldl ZE ks).Nodup
 |[],ks,h=>h
 |m::ms,ks,h=>NI ms _ (YbF h m)
theorem L8:∀(ms ks:List (Int×Int)) (x:Int×Int),x∈ms.foldl ZE ks↔x∈ks\/x∈ms
 |[],ks,x=>by simp
 |m::ms,ks,x=>by
  rw[Vl,L8 ms,Ycn];simp[or_assoc]
theorem BN{H W:Nat}{c:Nat×Nat}(h:c∈yj H W):c.1<H/\c.2<W:=by
 unfold yj at h;simp only[Xm,Wd,xj] at h;obtain⟨r,hr,c',hc,rfl⟩:=h;exact⟨hr,hc⟩
theorem YcH{H W:Nat}{c:Nat×Nat}(h:c∈zU H W):c.1<H/\c.2<W:=by
 unfold zU at h;simp only[Xm,Wd,xj] at h;obtain⟨r,hr,c',hc,rfl⟩:=h;refine⟨hr,?_⟩;simp only;split <;> lia
theorem YcS{H W:Nat}{c:Nat×Nat}(h:c∈qU H W):c.1<H/\c.2<W:=by
 unfold qU at h;obtain⟨d,hd,rfl⟩:=Wd.mp h;have:=BN hd;exact⟨this.2,this.1⟩
theorem NF(P:Prog)(W:String->List MV->MH->R MV):∀(a b:List MS)(σ:aF)(h:MH),qa P W (a++b) σ h=(qa P W a σ h).bind (qa P W b)
 |[],b,σ,h=>by simp[qa]
 |s::a,b,σ,h=>by
  rw[WG,qa,qa];cases e:YA P W s σ h with
  |next σ' h'=>simp[NF P W a b σ' h']
  |_=>simp
end MP
namespace MP
theorem OI:∀(l:List Int),(∀ x∈l,0<=x)->∀ y∈l,1<=y->1<=l.sum
 |[],_,y,hy,_=>by simp at hy
 |x::l,h,y,hy,h1=>by
  have h2:=oG l λz hz=>h z (by simp[hz]);have h3:=h x (by simp);rw[wo]
  rcases ua.mp hy with rfl|hy
  ·lia
  ·have:=OI l (λz hz=>h z (by simp[hz])) y hy h1
   lia
end MP
namespace MP
end MP
namespace MP
end MP
end
section
namespace MP
open PySem
section
variable (n:Nat) (h:MH)
theorem qaH(cs:List (Nat×Nat))(m:Nat)(hc:∀ c∈cs,c.1<m/\c.2<m)(hl:cs.length<=100000)(hm:m<=1000000):run prog (n+1) "folded_once" [.f (.lst (cs.map Za)),I m] h=.ok (.f (.lst ((oj cs m).map Za))) h:=by
 have q:Qb h (.f (.lst (cs.map Za)))=some (cs.map λc=>MV.f (Za c)):=by simp[vc]
 have g:Zd h (.f (.lst (cs.map Za)))=[]:=rfl;have it:fP "seq" [.f (.lst (cs.map Za))] h=some (cs.map λc=>MV.f (Za c),[]):=by simp only[fP,q,wg,g]
 have sz:cs.length<=aO:=by rw[zf];lia
 have mu2:∀ hh,Qd true .mul (I 2) (I (m:Int)) hh=.ok (I (2*(m:Int))) hh:=λhh=>ym _ _ _ (Yq (by lia));have N1:∀ f:Nat×Nat->Nat×Nat,Qt true (cs.map λc=>MV.f (Za (f c))) h=.ok (.f (.lst ((cs.map f).map Za))) h:=λf=>by
  have:=Yg (cs.map λc=>Za (f c)) (h:=h);simpa[vc] using this
 have BA:∀ a b:List (Nat×Nat),a.length+b.length<=aO->Qd true .add (.f (.lst (a.map Za))) (.f (.lst (b.map Za))) h=.ok (.f (.lst ((a++b).map Za))) h:=λa b Ar=>by
  have:=Yg ((a++b).map Za) (h:=h);simp only[Qd,zd,qk,listOf,yd,xc];rw[if_pos Ar,<- Uh,<- Uh];exact this
 have B1:=BA (cs.map λc=>(c.2,c.1)) (cs.map λc=>(m+c.1,c.2)) (by simp[zf];lia);have B2:=BA (cs.map (λc=>(c.2,c.1))++cs.map (λc=>(m+c.1,c.2))) (cs.map λc=>(m+c.1,m+c.2)) (by simp[zf];lia);have B3:=BA (cs.map (λc=>(c.2,c.1))++cs.map (λc=>(m+c.1,c.2))++cs.map (λc=>(m+c.1,m+c.2))) (cs.map λc=>(m-1-c.2,2*m-1-c.1)) (by simp[zf];lia);have n1:=N1 λc=>(c.2,c.1);have n2:=N1 λc=>(m+c.1,c.2);have n3:=N1 λc=>(m+c.1,m+c.2);have n4:=N1 λc=>(m-1-c.2,2*m-1-c.1);have e0:oj cs m=cs.map (λc=>(c.2,c.1))++cs.map (λc=>(m+c.1,c.2))++cs.map (λc=>(m+c.1,m+c.2))++cs.map (λc=>(m-1-c.2,2*m-1-c.1)):=rfl;rw[<- e0] at B3;generalize oj cs m=out at *;generalize jo:FV.lst (cs.map Za)=cl at *;rw[zaI];simp only[bZ];simp[it,MP.stM];rw[yq (e:=λc=>MV.f (Za c)) (g:=λc=>MV.f (Za (c.2,c.1))) (caps:=[]) cs [] none none (by simpa using sz) (λc _ z w=>⟨some (I c.1),some (I c.2),by simp[ql]⟩)];simp only[uf,R.aJ,n1];simp[it,MP.stM];rw[yq (e:=λc=>MV.f (Za c)) (g:=λc=>MV.f (Za (m+c.1,c.2))) (caps:=[some (I m)]) cs [] none none (by simpa using sz) (λc _ z w=>⟨some (I c.1),some (I c.2),by simp[ql]⟩)];simp only[uf,R.aJ,n2];simp[it,MP.stM];rw[yq (e:=λc=>MV.f (Za c)) (g:=λc=>MV.f (Za (m+c.1,m+c.2))) (caps:=[some (I m)]) cs [] none none (by simpa using sz) (λc _ z w=>⟨some (I c.1),some (I c.2),by simp[ql]⟩)];simp only[uf,R.aJ,n3];simp[it,MP.stM];rw[yq (e:=λc=>MV.f (Za c)) (g:=λc=>MV.f (Za (m-1-c.2,2*m-1-c.1))) (caps:=[some (I m)]) cs [] none none (by simpa using sz) (λc rV z w=>⟨some (I c.1),some (I c.2),by
  have:=hc c rV;have e1:((m-1-c.2:Nat):Int)=(m:Int)-1-c.2:=by lia
  have e2:((2*m-1-c.1:Nat):Int)=2*(m:Int)-1-c.1:=by lia
  simp[ql,mu2,e1,e2]⟩)]
 simp only[uf,R.aJ,n4];simp at B1 B2 B3;simp[B1,B2,B3]
theorem yay(k:Nat)(hk:k<=6):run prog (n+2) "folded_cells" [I ((2^k:Nat):Int)] h=.ok (.f (.lst ((Qi k).map Za))) h:=by
 suffices cQ (run prog (n+2) "folded_cells" [I ((2^k:Nat):Int)] h) λv h'=>v=.f (.lst ((Qi k).map Za))/\h'=h by
  obtain⟨v,h',e,rfl,rfl⟩:=this;exact e
 refine cQ.of λQ hQ=>?_;rw[Yax];simp only[bR];simp[zj,Zi];refine Ey (Q:=λr=>cQ (yb _ r) _) k (λi σ hh=>hh=h/\σ=[some (I ((2^k:Nat):Int)),some (.f (.lst ((Qi i).map Za))),some (I ((2^i:Nat):Int))]) (by show k<1000000;lia) ⟨rfl,by simp[Qi]⟩ ?_ ?_ ?_
 ·rintro i σ hh hi ⟨rfl,rfl⟩;have hp:2^i<2^k:=Nat.pow_lt_pow_right (by lia) hi;have hp6:2^k<=2^6:=Xl (by lia) hk;have F:=qaH n hh (Qi i) (2^i) (Ju i) (by rw[BG];have:4^i<=4^6:=Xl (by lia) (by lia);lia) (by lia);have ee:oj (Qi i) (2^i)=Qi (i+1):=rfl;have p2:(2:Int)*((2^i:Nat):Int)=((2^(i+1):Nat):Int):=by rw[VA];push_cast;lia
  have mu:∀ hh,Qd true .mul (I 2) (I ((2^i:Nat):Int)) hh=.ok (I ((2^(i+1):Nat):Int)) hh:=λhh=>by
   have:=ym true 2 ((2^i:Nat):Int) (h:=hh) (Yq (by rw[uE];lia));rw[p2] at this;exact this
  have lt:((2^i:Nat):Int)<((2^k:Nat):Int):=by exact_mod_cast hp
  rw[ee] at F;generalize (((2^(i+1):Nat):Int))=b2 at *;generalize (((2^i:Nat):Int))=b at *;generalize (((2^k:Nat):Int))=bk at *;generalize (Qi (i+1)).map Za=L2 at *;generalize (Qi i).map Za=L1 at *;refine⟨by simp[lt],λQ hQ=>?_⟩;simp[F,mu];exact hQ _ _ ⟨rfl,rfl⟩
 ·rintro σ hh ⟨rfl,rfl⟩;simp
 ·rintro σ hh ⟨rfl,rfl⟩;generalize (Qi k).map Za=L at *;simp;exact hQ _ _ ⟨rfl,rfl⟩
theorem yaS(w:MV)(H W:Nat)(h1:1<=H)(h2:1<=W)(hH:H<=16)(hW:W<=16):∃ k,k<=4/\∀ n h,run prog (n+3) "FoldedWay.order" [w,I H,I W] h=.ok (.ref h.length) (h++[.lst ((((Qi k).filter λc=>decide (c.1<H)&&decide (c.2<W)).map Za).map .f)]):=by
 obtain⟨k,hk,kH,kW,kl⟩:=zcH H W hH hW;refine⟨k,hk,λn h=>?_⟩
 suffices cQ (run prog (n+3) "FoldedWay.order" [w,I H,I W] h) λv h'=>v=.ref h.length/\h'=h++[.lst ((((Qi k).filter λc=>decide (c.1<H)&&decide (c.2<W)).map Za).map .f)] by
  obtain⟨v,h',e,rfl,rfl⟩:=this;exact e
 refine cQ.of λQ hQ=>?_;have A:=Yy (n+1) h H W;rw[if_pos (by lia)] at A;rw[Yac];simp only[bB];simp[A];refine Ey (Q:=λr=>cQ (yb _ r) _) k (λi σ hh=>hh=h/\σ=[some w,some (I H),some (I W),some (I ((2^i:Nat):Int))]) (by show k<1000000;lia) ⟨rfl,by simp⟩ ?_ ?_ ?_
 ·rintro i σ hh hi ⟨rfl,rfl⟩;have hp6:2^i<=2^6:=Xl (by lia) (by lia);have p2:(2:Int)*((2^i:Nat):Int)=((2^(i+1):Nat):Int):=by rw[VA];push_cast;lia
  have mu:∀ hh,Qd true .mul (I 2) (I ((2^i:Nat):Int)) hh=.ok (I ((2^(i+1):Nat):Int)) hh:=λhh=>by
   have:=ym true 2 ((2^i:Nat):Int) (h:=hh) (Yq (by rw[uE];lia));rw[p2] at this;exact this
  have or1:((2^i:Nat):Int)<(H:Int)\/((2^i:Nat):Int)<(W:Int):=by
   rcases kl i hi with q|q
   ·left;exact_mod_cast q
   ·right;exact_mod_cast q
  generalize (((2^(i+1):Nat):Int))=b2 at *;generalize (((2^i:Nat):Int))=b at *;refine⟨?_,λQ hQ=>?_⟩
  ·by_cases c:b<(H:Int)
   ·simp[c]
   ·have c2:b<(W:Int):=or1.resolve_left c;simp[c,c2]
  ·simp[mu];exact hQ _ _ ⟨rfl,rfl⟩
 ·rintro σ hh ⟨rfl,rfl⟩;have l1:¬((2^k:Nat):Int)<(H:Int):=by lia
  have l2:¬((2^k:Nat):Int)<(W:Int):=by lia
  generalize (((2^k:Nat):Int))=b at *;simp[l1,l2]
 ·rintro σ hh ⟨rfl,rfl⟩;have C:=yay n hh k (by lia);have it:fP "seq" [.f (.lst ((Qi k).map Za))] hh=some ((Qi k).map λc=>MV.f (Za c),[]):=by
   have q:Qb hh (.f (.lst ((Qi k).map Za)))=some ((Qi k).map λc=>MV.f (Za c)):=by simp[vc]
   have g:Zd hh (.f (.lst ((Qi k).map Za)))=[]:=rfl;simp only[fP,q,wg,g]
  have sz:(Qi k).length<=aO:=by rw[BG,zf];have:4^k<=4^4:=Xl (by lia) (by lia);lia
  have lv:=Du hh (((Qi k).filter λc=>decide (c.1<H)&&decide (c.2<W)).map Za);generalize (((2^k:Nat):Int))=b at *;generalize jo:FV.lst ((Qi k).map Za)=cl at *;simp[C,it,MP.stM];rw[YV (YJ _) (λσ=>∃ z0 z1,σ=[z0,z1,some (I H),some (I W)]) (e:=λc=>MV.f (Za c)) (g:=λc=>MV.f (Za c)) (t:=λc=>decide (c.1<H)&&decide (c.2<W)) (Qi k) [] _ ⟨none,none,rfl⟩ (by simpa using sz) (by
   rintro c rV σ ⟨z0,z1,rfl⟩;refine⟨[some (I c.1),some (I c.2),some (I H),some (I W)],?_,_,_,rfl⟩;by_cases q1:c.1<H
   ·by_cases q2:c.2<W
    ·simp[ql,q1,q2]
    ·simp[ql,q1,q2]
   ·simp[ql,q1])]
  have e2:((Qi k).filter λc=>decide (c.1<H)&&decide (c.2<W)).map (λc=>MV.f (Za c))=(((Qi k).filter λc=>decide (c.1<H)&&decide (c.2<W)).map Za).map MV.f:=by simp[vc]
  rw[uf,R.aJ,e2];generalize (((Qi k).filter λc=>decide (c.1<H)&&decide (c.2<W)).map Za).map MV.f=M at *;simp[lv];exact hQ _ _ ⟨rfl,rfl⟩
end
end MP
end
section
namespace MP
open PySem
end MP
end
section
namespace MP
open PySem
end MP
end
section
namespace MP
open PySem
end MP
end
section
namespace MP
open PySem
end MP
end
section
namespace MP
open PySem
theorem OV(ai:List Int)(w:Int)(h0:ai.getD 0 0<=w):∀ n,n+1<=ai.length->w<=ai.getD n 0->(∃ k,k+1<=n/\ai.getD k 0<=w/\w<=ai.getD (k+1) 0)\/w=ai.getD 0 0
 |0,_,h=>.inr (by lia)
 |n+1,hn,h=>by
  by_cases c:ai.getD n 0<=w
  ·exact .inl ⟨n,by lia,c,h⟩
  ·rcases OV ai w h0 n (by lia) (by lia) with ⟨k,h1,h2,h3⟩|e
   ·exact .inl ⟨k,by lia,h2,h3⟩
   ·exact .inr e
end MP
end
section
namespace MP
open PySem
theorem qj{α β:Type}{f:α->β}:∀{l:List α},(∀ a∈l,∀ b∈l,f a=f b->a=b)->l.Nodup->(l.map f).Nodup
 |[],_,_=>by simp
 |a::l,h,n=>by
  rw[uk] at n;rw[Wb,uk];refine⟨λm=>?_,qj (λx hx y hy=>h x (by simp[hx]) y (by simp[hy])) n.2⟩;obtain⟨b,hb,e⟩:=Wd.mp m;have:=h b (by simp[hb]) a (by simp) e;exact n.1 (this ▸ hb)
theorem Y3(H W:Nat)(hW:1<=W):(yj H W).Nodup:=by
 rw[<- YbI H W hW];refine qj (λa _ b _ e=>?_) List.nodup_range;simp only[Prod.mk.injEq] at e;have h1:=wx a W;have h2:=wx b W;rw[e.1,e.2] at h1
 lia
theorem QbF(H W:Nat)(hW:1<=W):(zU H W).Nodup:=by
 rw[<- Qb9 H W];refine qj (λa ha b hb e=>?_) (Y3 H W hW);have h1:=BN ha;have h2:=BN hb;obtain⟨a1,a2⟩:=a;obtain⟨b1,b2⟩:=b;simp only[Prod.mk.injEq] at e h1 h2 ⊢;obtain⟨rfl,e⟩:=e;refine⟨rfl,?_⟩;split at e <;> lia
theorem YbM(H W:Nat)(hH:1<=H):(qU H W).Nodup:=by
 unfold qU;refine qj (λa _ b _ e=>?_) (Y3 W H hH);simp only[Prod.mk.injEq] at e;exact Xv e.2 e.1
theorem L7:∀ k,(Qi k).Nodup
 |0=>by simp[Qi]
 |k+1=>by
  have ih:=L7 k;have gZ:=Ju k;have q:0<2^k:=Nat.two_pow_pos k;simp only[Qi,oj];generalize 2^k=m at *;generalize Qi k=cs at *;have n1:(cs.map λc=>(c.2,c.1)).Nodup:=qj (λa _ b _ e=>by simp only[Prod.mk.injEq] at e;exact Xv e.2 e.1) ih;have n2:(cs.map λc=>(m+c.1,c.2)).Nodup:=qj (λa _ b _ e=>by simp only[Prod.mk.injEq] at e;exact Xv (by lia) e.2) ih;have n3:(cs.map λc=>(m+c.1,m+c.2)).Nodup:=qj (λa _ b _ e=>by simp only[Prod.mk.injEq] at e;exact Xv (by lia) (by lia)) ih;have n4:(cs.map λc=>(m-1-c.2,2*m-1-c.1)).Nodup:=qj (λa ha b hb e=>by
   have h1:=gZ a ha;have h2:=gZ b hb;simp only[Prod.mk.injEq] at e;exact Xv (by lia) (by lia)) ih
  refine Ul.mpr ⟨Ul.mpr ⟨Ul.mpr ⟨n1,n2,?_⟩,n3,?_⟩,n4,?_⟩
  ·intro x hx y hy e;obtain⟨a,ha,rfl⟩:=Wd.mp hx;obtain⟨b,hb,rfl⟩:=Wd.mp hy;have h1:=gZ a ha;simp only[Prod.mk.injEq] at e
   lia
  ·intro x hx y hy e;obtain⟨b,hb,rfl⟩:=Wd.mp hy;have h2:=gZ b hb
   rcases Xf.mp hx with hx|hx
   ·obtain⟨a,ha,rfl⟩:=Wd.mp hx;have h1:=gZ a ha;simp only[Prod.mk.injEq] at e
    lia
   ·obtain⟨a,ha,rfl⟩:=Wd.mp hx;have h1:=gZ a ha;simp only[Prod.mk.injEq] at e
    lia
  ·intro x hx y hy e;obtain⟨b,hb,rfl⟩:=Wd.mp hy;have h2:=gZ b hb
   rcases Xf.mp hx with hx|hx
   ·rcases Xf.mp hx with hx|hx
    ·obtain⟨a,ha,rfl⟩:=Wd.mp hx;have h1:=gZ a ha;simp only[Prod.mk.injEq] at e
     lia
    ·obtain⟨a,ha,rfl⟩:=Wd.mp hx;have h1:=gZ a ha;simp only[Prod.mk.injEq] at e
     lia
   ·obtain⟨a,ha,rfl⟩:=Wd.mp hx;have h1:=gZ a ha;simp only[Prod.mk.injEq] at e
    lia
noncomputable def qt:List Int->Int
 |[]=>0
 |s::sh=>(s::sh).sum+qt sh
noncomputable def jF:List Int->List Int->Int
 |[],_=>0
 |_::_,[]=>0
 |s::sh,l::L=>l*(s::sh).sum+jF sh L
theorem Dq(sh:List Int):jF sh []=0:=by cases sh <;> rfl
theorem NW:∀(sh L:List Int),jF sh.tail L=jF sh L-QD sh L
 |[],L=>by simp[jF,QD]
 |s::sh,[]=>by rw[Dq,Dq];simp[QD]
 |s::sh,l::L=>by
  have ih:=NW sh L;have e:QD (s::sh) (l::L)=s*l+QD sh L:=by simp[QD]
  rw[List.tail_cons,e];cases sh with
  |nil=>simp[jF,QD,wt]
  |cons s' tU =>
   rw[List.tail_cons] at ih;show l*(s'::tU).sum+jF tU L=l*(s::s'::tU).sum+jF (s'::tU) L-(s*l+QD (s'::tU) L);rw[wo (a:=s),uz,ih,wt s l]
   lia
theorem zck{sh:List Int}(hs:sh≠[])(l:Int)(L:List Int):jF sh (l::L)=l*sh.sum+(jF sh L-QD sh L):=by
 rw[<- NW];cases sh with
 |nil=>exact absurd rfl hs
 |cons s sh=>rfl
theorem Gr:∀(sh:List Int),(∀ x∈sh,0<=x)->0<=qt sh
 |[],_=>by simp[qt]
 |s::sh,h=>by
  have:=oG _ h;have:=Gr sh λx hx=>h x (by simp[hx]);simp only[qt];lia
theorem KH{hf:Int}(h0:0<=hf):∀(sh L:List Int),(∀ x∈sh,0<=x)->(∀ l∈L,-hf<=l/\l<=hf)->-(hf*qt sh)<=jF sh L/\jF sh L<=hf*qt sh
 |[],L,_,_=>by simp[jF,qt]
 |s::sh,[],hs,_=>by
  have:=Int.mul_nonneg h0 (Gr _ hs);rw[Dq];lia
 |s::sh,l::L,hs,hl=>by
  have ih:=KH h0 sh L (λx hx=>hs x (by simp[hx])) (λx hx=>hl x (by simp[hx]));have h1:=hl l (by simp);have h2:=oG _ hs;have e1:l*(s::sh).sum<=hf*(s::sh).sum:=Xr h1.2 h2;have e2:-hf*(s::sh).sum<=l*(s::sh).sum:=Xr h1.1 h2;have e3:hf*qt (s::sh)=hf*(s::sh).sum+hf*qt sh:=by simp only[qt];rw[uz]
  have e4:-hf*(s::sh).sum=-(hf*(s::sh).sum):=xF ..;have e5:jF (s::sh) (l::L)=l*(s::sh).sum+jF sh L:=rfl
  lia
noncomputable def Qq(f:Int×Int->Int)(es:List Ent):Int:=(es.map λe=>f e.p-e.fX).sum
theorem zcd{sh:List Int}(s:jz sh)(n0:Int)(ns:List Int)(f:Int×Int->Int)(ps:List (Int×Int)):sh.sum*Qq f (zc sh n0 ns f ps)=jF sh ((zc sh n0 ns f ps).map (·.left)).reverse+zV (zc sh n0 ns f ps):=by
 have jb:sh≠[]:=by rintro rfl;have:=s.one;simp at this
 refine yI (P:=λps=>sh.sum*Qq f (zc sh n0 ns f ps)=jF sh ((zc sh n0 ns f ps).map (·.left)).reverse+zV (zc sh n0 ns f ps)) (by simp[zc,Qq,Dq,zV]) (λl a ih=>?_) ps;rw[Qr];generalize zc sh n0 ns f l=es at *;have e1:Qq f (es++[iE sh n0 ns (f a) es a])=Qq f es+(f a-(iE sh n0 ns (f a) es a).fX):=by simp[Qq,iE]
 have e2:((es++[iE sh n0 ns (f a) es a]).map (·.left)).reverse=(iE sh n0 ns (f a) es a).left::(es.map (·.left)).reverse:=by simp
 rw[e1,e2,BQ,zck jb];have e3:f a-(iE sh n0 ns (f a) es a).fX=(iE sh n0 ns (f a) es a).left-(iE sh n0 ns (f a) es a).got:=by simp only[iE];lia
 have e4:sh.sum*(iE sh n0 ns (f a) es a).got+(iE sh n0 ns (f a) es a).odd=zV es+QD sh (es.map (·.left)).reverse:=by
  show sh.sum*(ZI sh es/sh.sum)+ZI sh es%sh.sum=ZI sh es;exact Int.mul_ediv_add_emod ..
 rw[e3];generalize (iE sh n0 ns (f a) es a).left=lf at *;generalize (iE sh n0 ns (f a) es a).got=gt at *;generalize (iE sh n0 ns (f a) es a).odd=od at *;generalize QD sh (es.map (·.left)).reverse=du at *;generalize jF sh (es.map (·.left)).reverse=ph at *;generalize Qq f es=ap at *;have e5:sh.sum*(ap+(lf-gt))=sh.sum*ap+lf*sh.sum-sh.sum*gt:=by rw[uz,Int.mul_sub,wt sh.sum lf];lia
 lia
theorem iI.v9{hf most:Int}{sh:List Int}{es:List Ent}{n0:Int}{ns:List Int}{x:Int}{p:Int×Int}(h0:0<=hf)(s:jz sh)(w:iI hf sh es)(z:(0:Int)∈n0::ns)(m:most∈n0::ns)(f0:(n0::ns).getD 0 0=0)(fm:(n0::ns).getD ((n0::ns).length-1) 0=most)
  (gp:∀ k,k+1<(n0::ns).length->(n0::ns).getD (k+1) 0-(n0::ns).getD k 0<=2*hf+1) (hx:0<=x/\x<=most):iI hf sh (es++[iE sh n0 ns x es p]):=by
 have g:=Kx h0 s w;refine⟨λe he=>?_,?_⟩
 ·rcases Xf.mp he with he|he
  ·exact w.l e he
  ·rw[Xc.mp he];show -hf<=x+ZI sh es/sh.sum-Yo (x+ZI sh es/sh.sum) n0 ns/\x+ZI sh es/sh.sum-Yo (x+ZI sh es/sh.sum) n0 ns<=hf;generalize ZI sh es/sh.sum=qq at *;have bl:=λy hy=>BP (x+qq) ns n0 y hy;have b0:=bl 0 z;have b1:=bl most m;generalize hw:x+qq=want at *;by_cases c:0<=want/\want<=most
   ·rcases OV (n0::ns) want (by lia) ((n0::ns).length-1) (by simp) (by lia) with ⟨k,k1,k2,k3⟩|e
    ·have i1:(n0::ns).getD k 0∈n0::ns:=by
      have hk:k<(n0::ns).length:=by lia
      rw[Uf,xa hk];exact wj hk
     have i2:(n0::ns).getD (k+1) 0∈n0::ns:=by
      have hk:k+1<(n0::ns).length:=by lia
      rw[Uf,xa hk];exact wj hk
     have c1:=bl _ i1;have c2:=bl _ i2;have c3:=gp k (by lia);generalize (n0::ns).getD k 0=u at *;generalize (n0::ns).getD (k+1) 0=y at *;generalize Yo want n0 ns=q at *;unfold kM at c1 c2;split at c1 <;> split at c1 <;> split at c2 <;> lia
    ·generalize Yo want n0 ns=q at *;unfold kM at b0;split at b0 <;> split at b0 <;> lia
   ·generalize Yo want n0 ns=q at *;unfold kM at b0 b1;split at b0 <;> split at b0 <;> split at b1 <;> lia
 ·rw[BQ];have h3:=s.one;exact⟨xr _ (by lia),Xp _ (by lia)⟩
end MP
namespace MP
theorem iI.IB{hf most:Int}{sh:List Int}{n0:Int}{ns:List Int}{f:Int×Int->Int}(h0:0<=hf)(s:jz sh)(z:(0:Int)∈n0::ns)(m:most∈n0::ns)(f0:(n0::ns).getD 0 0=0)(fm:(n0::ns).getD ((n0::ns).length-1) 0=most)
  (gp:∀ k,k+1<(n0::ns).length->(n0::ns).getD (k+1) 0-(n0::ns).getD k 0<=2*hf+1) (ps:List (Int×Int)) (hx:∀ p∈ps,0<=f p/\f p<=most):iI hf sh (zc sh n0 ns f ps):=by
 revert hx
 refine yI (P:=λps=>(∀ p∈ps,0<=f p/\f p<=most)->iI hf sh (zc sh n0 ns f ps)) (λ_=>iI.nil s) (λl a ih hx=>?_) ps;rw[Qr];exact iI.v9 h0 s (ih λp hp=>hx p (by simp[hp])) z m f0 fm gp (hx a (by simp))
theorem qcv{hf:Int}{sh:List Int}(h0:0<=hf)(s:jz sh)(n0:Int)(ns:List Int)(f:Int×Int->Int)(ps:List (Int×Int))(w:iI hf sh (zc sh n0 ns f ps)) :
  -((hf*qt sh+sh.sum-1)/sh.sum)<=Qq f (zc sh n0 ns f ps)/\Qq f (zc sh n0 ns f ps)<=(hf*qt sh+sh.sum-1)/sh.sum:=by
 have e:=zcd s n0 ns f ps;have p:=KH h0 sh ((zc sh n0 ns f ps).map (·.left)).reverse (λx hx=>(s.nn x hx).1) (λl hl=>by
  obtain⟨e,he,rfl⟩:=Wd.mp (vA.mp hl);exact w.l e he)
 have o:=w.o;have h1:=s.one;generalize Qq f (zc sh n0 ns f ps)=ap at *;generalize jF sh ((zc sh n0 ns f ps).map (·.left)).reverse=ph at *;generalize zV (zc sh n0 ns f ps)=od at *;generalize hf*qt sh=hz at *;have k1:-ap<=(hz+sh.sum-1)/sh.sum:=by
  rw[ur (by lia)];have:-ap*sh.sum=-(sh.sum*ap):=by rw[xF,wt]
  lia
 have k2:ap<=(hz+sh.sum-1)/sh.sum:=by
  rw[ur (by lia)];have:ap*sh.sum=sh.sum*ap:=wt ..
  lia
 lia
noncomputable def YU(k:Int):List Int->Int
 |[]=>0
 |s::sh=>(k+1)*s+YU (k+1) sh
theorem JI:∀(sh:List Int)(k:Int),YU k sh=k*sh.sum+qt sh
 |[],k=>by simp[YU,qt]
 |s::sh,k=>by
  have ih:=JI sh (k+1);simp only[YU,qt,ih,wo,Vt,uz]
  lia
theorem NQ:∀(sh:List Int)(k:Nat),((sh.zipIdx k).map λp=>((p.2:Int)+1)*p.1).sum=YU (k:Int) sh
 |[],k=>by simp[YU]
 |s::sh,k=>by
  have ih:=NQ sh (k+1);push_cast at ih;simp only[ww,Wb,wo,YU,ih]
theorem L5{sh:List Int}(s:jz sh):0<=qt sh/\qt sh<2^120:=by
 refine⟨Gr sh λx hx=>(s.nn x hx).1,?_⟩;have key:∀ l:List Int,(∀ x∈l,0<=x/\x<2^100)->l.sum<=l.length*2^100/\qt l<=l.length*(l.length*2^100):=by
  intro l
  induction l with
  |nil=>simp[qt]
  |cons x l ih =>
   intro h;have h1:=h x (by simp);obtain⟨h2,h3⟩:=ih λy hy=>h y (by simp[hy]);have e1:(x::l).sum=x+l.sum:=wo;have e2:((l.length+1:Nat):Int)=(l.length:Int)+1:=by lia
   simp only[qt,ud];rw[e2];generalize (l.length:Int)=n at *;have hn:(n+1)*((n+1)*2^100)=n*(n*2^100)+2*(n*2^100)+2^100:=by
    rw[Vt,Vt n 1,XF,XF,uz];lia
   have Hj:(n+1)*2^100=n*2^100+2^100:=by rw[Vt,XF]
   have hsum:0<=l.sum:=oG l λy hy=>(h y (by simp[hy])).1;have hnn:0<=n*2^100:=by lia
   refine⟨by lia,by lia⟩
 have h1:=(key sh s.nn).2;have h2:=s.len;have h3:(sh.length:Int)*((sh.length:Int)*2^100)<=10*(10*2^100):=by
  have a1:(sh.length:Int)<=10:=by lia
  have a0:(0:Int)<=sh.length:=by lia
  exact Int.mul_le_mul a1 (by lia) (by lia) (by lia)
 lia
noncomputable def k9(R:List (List Int))(p:Int×Int):Int:=(R.getD p.1.toNat []).getD p.2.toNat 0
theorem ybT(R:List (List Int))(q p:Int×Int)(v:Int)(hq:0<=q.1/\0<=q.2)(hp:0<=p.1/\0<=p.2)(ne:q≠p):k9 (Zr R q.1.toNat q.2.toNat v) p=k9 R p:=by
 unfold k9 Zr;by_cases h:q.1.toNat=p.1.toNat
 ·have h2:q.2.toNat≠p.2.toNat:=λe=>ne (Xv (by lia) (by lia));rw[h];simp only[Vg,wB];cases R[p.1.toNat]? with
  |none=>rfl
  |some r=>simp[ui h2]
 ·simp[Vg,vx,h]
theorem yb3(R:List (List Int))(p:Int×Int)(v:Int)(hl:p.1.toNat<R.length)(hw:∀ r∈R,p.2.toNat<r.length):k9 (Zr R p.1.toNat p.2.toNat v) p=v:=by
 unfold k9 Zr;have e:R[p.1.toNat]?=some R[p.1.toNat]:=by simp[hl]
 have h2:=hw _ (wj hl);simp[Vg,wB,e,h2]
theorem NA:∀(ps:List ((Int×Int)×Int)) (R:List (List Int)) (p:Int×Int),(∀ q∈ps,0<=q.1.1/\0<=q.1.2)->(0<=p.1/\0<=p.2)->p∉ps.map (·.1)->k9 (yo R ps) p=k9 R p
 |[],R,p,_,_,_=>rfl
 |q::ps,R,p,h,hp,n=>by
  simp only[Wb,ua,not_or] at n;show k9 (yo (Zr R q.1.1.toNat q.1.2.toNat q.2) ps) p=_;rw[NA ps _ p (λx hx=>h x (by simp[hx])) hp n.2,ybT R q.1 p q.2 (h q (by simp)) hp (Ne.symm n.1)]
theorem KO(H W:Nat):∀(ps:List ((Int×Int)×Int)) (R:List (List Int)),R.length=H->(∀ r∈R,r.length=W)->(∀ q∈ps,0<=q.1.1/\q.1.1<H/\0<=q.1.2/\q.1.2<W)->(ps.map (·.1)).Nodup->∀ q∈ps,k9 (yo R ps) q.1=q.2
 |[],R,_,_,_,_,q,hq=>by simp at hq
 |x::ps,R,hl,hw,h,nd,q,hq=>by
  rw[Wb,uk] at nd;have rS:(Zr R x.1.1.toNat x.1.2.toNat x.2).length=H:=by rw[qx];exact hl
  have hw':∀ r∈Zr R x.1.1.toNat x.1.2.toNat x.2,r.length=W:=λr hr=>by
   rcases Yx hr with hr|⟨r0,jY,rfl⟩
   ·exact hw r hr
   ·simp;exact hw r0 jY
  show k9 (yo (Zr R x.1.1.toNat x.1.2.toNat x.2) ps) q.1=q.2
  rcases ua.mp hq with rfl|hq
  ·have hx:=h q (by simp);rw[NA ps _ q.1 (λy hy=>by have:=h y (by simp[hy]);lia) (by lia) nd.1];exact yb3 R q.1 q.2 (by lia) (λr hr=>by rw[hw r hr];lia)
  ·exact KO H W ps _ rS hw' (λy hy=>h y (by simp[hy])) nd.2 q hq
end MP
end
section
namespace MP
open PySem
noncomputable def Dz(c:String):Prop:=c="Way"\/c="FroWay"\/c="ColumnWay"\/c="FoldedWay"
noncomputable def Yt(w:FV)(ks:List (Int×Int)):FV:=.obj "MaskedWay" ["way","mask"] [w,.cV ks]
section
variable (n:Nat) (h:MH)
theorem Qb2{c:String}(hc:Dz c):prog.subs c "MaskedWay"=some false:=by
 rcases hc with rfl|rfl|rfl|rfl <;> rfl
theorem yaE(c:String)(hc:Dz c)(ks:List (Int×Int)):run prog (n+1) "ways_within" [.f (Yt (qg c) ks)] h=.ok (.f (.lst [Yt (qg c) ks,qg c])) h:=by
 suffices cQ (run prog (n+1) "ways_within" [.f (Yt (qg c) ks)] h) λv h'=>v=.f (.lst [Yt (qg c) ks,qg c])/\h'=h by
  obtain⟨v,h',e,rfl,rfl⟩:=this;exact e
 refine cQ.of λQ hQ=>?_;have i1:∀ hh,kg prog.subs hh (.f (Yt (qg c) ks)) "MaskedWay"=some true:=λhh=>rfl;have i2:∀ hh,kg prog.subs hh (.f (qg c)) "MaskedWay"=some false:=λhh=>Qb2 hc;have f1:∀ hh,lK prog.iG "way" (.f (Yt (qg c) ks)) hh=some (.f (qg c)):=λhh=>by simp[lK,Yt]
 have F:=Jg h [] [Yt (qg c) ks,qg c];generalize hmv:Yt (qg c) ks=mv at *;generalize hwv:qg c=wv at *;have cl:∀ M,Yd (h++[.lst M]) h.length=some M:=λM=>yk h [] M;have st:∀ M ys,yf (h++[.lst M]) h.length ys=h++[.lst ys]:=λM ys=>yA h [] M ys;have a1:cW [MV.f mv] (-1)=some (.f mv):=rfl;have a2:cW [MV.f mv,MV.f wv] (-1)=some (.f wv):=rfl;rw[zaH];simp only[bY];simp;refine Ey (Q:=λr=>cQ (yb _ r) _) 1 (λi σ hh=>σ=[some (.f mv),some (.ref h.length)]/\hh=h++[.lst (if i=0 then[.f mv] else[.f mv,.f wv])]) (by show 1<1000000;lia) ⟨rfl,by simp⟩ ?_ ?_ ?_
 ·rintro i σ hh hi ⟨rfl,rfl⟩;obtain rfl:i=0:=by lia
  refine⟨by simp[cl,a1,i1],λQ hQ=>?_⟩;simp[cl,a1,f1,st,zf];exact hQ _ _ ⟨rfl,by simp⟩
 ·rintro σ hh ⟨rfl,rfl⟩;simp[cl,a2,i2]
 ·rintro σ hh ⟨rfl,rfl⟩;obtain⟨t',F⟩:=F;have lv:=Jp h t' (.lst [mv,wv]);simp at F;simp[F,lv];exact hQ _ _ ⟨rfl,rfl⟩
theorem QaY(c f:String)(hc:Dz c)(mo:prog.meths c "order"=some f)(H W:Nat)(cs:List (Nat×Nat))(hl:cs.length<=100000)(O:∀ n h,run prog (n+4) f [.f (qg c),I H,I W] h=.ok (.ref h.length) (h++[.lst ((cs.map Za).map .f)]))
  (ks:List (Int×Int)) (sm:ks.all qX=true) (nd:ks.Nodup):run prog (n+5) "MaskedWay.order" [.f (Yt (qg c) ks),I H,I W] h=.ok (.ref h.length) (h++[.lst (((cs.filter λc=>decide (cZ c∉ks)).map Za).map .f)]):=by
 suffices cQ (run prog (n+5) "MaskedWay.order" [.f (Yt (qg c) ks),I H,I W] h) λv h'=>v=.ref h.length/\h'=h++[.lst (((cs.filter λc=>decide (cZ c∉ks)).map Za).map .f)] by
  obtain⟨v,h',e,rfl,rfl⟩:=this;exact e
 refine cQ.of λQ hQ=>?_;have WW:=yaE (n+3) h c hc ks;have f1:∀ hh,lK prog.iG "mask" (.f (Yt (qg c) ks)) hh=some (.f (.cV ks)):=λhh=>by simp[lK,Yt]
 have cm:∀ hh,lN "order" (.f (qg c)) hh=some c:=λhh=>by simp[lN,qg]
 generalize Yt (qg c) ks=mv at *;generalize qg c=wv at *;have sl:∀ hh,oI true (.f (.lst [mv,wv])) none (some (-1)) hh=.ok (.f (.lst [mv])) hh:=λhh=>rfl;have a2:cW [MV.f mv,MV.f wv] (-1)=some (.f wv):=rfl;have c0:ZW (h++[.cV []]) (.ref h.length)=some []:=by simp[ZW]
 have up:BC (.ref h.length) (.f (.cV ks)) (h++[.cV []])=.ok (.f .bI) (h++[.cV ks]):=by
  simp only[BC,c0,yd];rw[if_pos (by refine⟨?_,sm,nd⟩;simp)]
  congr 1
  by_cases z:ks=[]
  ·subst z;simp
  ·simp[z]
 have O1:=O n (h++[Cell.cV ks]);obtain⟨t',F⟩:=Jg (h++[Cell.cV ks]) [] (cs.map Za);have it:∀ hh,fP "seq" [.f (.lst (cs.map Za))] hh=some (cs.map λc=>MV.f (Za c),[]):=λhh=>by
  have q:Qb hh (.f (.lst (cs.map Za)))=some (cs.map λc=>MV.f (Za c)):=by simp[vc]
  have g:Zd hh (.f (.lst (cs.map Za)))=[]:=rfl;simp only[fP,q,wg,g]
 have cM:ZW ((h++[Cell.cV ks])++t') (.ref h.length)=some ks:=by simp[ZW]
 have sz:cs.length<=aO:=by rw[zf];lia
 have lv:Qg h (.ref ((h++[Cell.cV ks])++t').length) (((h++[Cell.cV ks])++t')++[.lst (((cs.filter λc=>decide (cZ c∉ks)).map Za).map .f)])=.ok (.ref h.length) (h++[.lst (((cs.filter λc=>decide (cZ c∉ks)).map Za).map .f)]):=by
  have cl:=yk ((h++[Cell.cV ks])++t') [] (((cs.filter λc=>decide (cZ c∉ks)).map Za).map MV.f);have tr:bP h (((h++[Cell.cV ks])++t')++[.lst (((cs.filter λc=>decide (cZ c∉ks)).map Za).map MV.f)]):=by rw[uh,uh];exact bP.app h _
  have ef:=ZO ((cs.filter λc=>decide (cZ c∉ks)).map Za);generalize ((cs.filter λc=>decide (cZ c∉ks)).map Za).map MV.f=M at *;have tk:(((h++[Cell.cV ks])++t')++[Cell.lst M]).take h.length=h:=by rw[uh,uh,wy];rfl
  unfold Qg;rw[if_pos tr];simp only;rw[if_pos (by simp),cl];simp only[ef,tk]
 generalize jo:FV.lst (cs.map Za)=cl at *;have s1:∀ hh,fP "seq" [.f (.lst [mv])] hh=some ([.f mv],[]):=λhh=>rfl;rw[Qad];simp only[bA];simp at O1 F cM lv;simp[WW,sl,s1,qM,Qp,f1,c0,up,a2,cm,mo,O1,F,it,MP.stM];have ly:∀ c:Nat×Nat,rq (.f (Za c)) (.ref h.length) (h++Cell.cV ks::t')=.ok (.f (.bl (decide (cZ c∉ks)))) (h++Cell.cV ks::t'):=λc=>by
  have e:sR (.f (Za c))=some (cZ c):=rfl;simp only[rq,e,cM,yd]
 rw[Kr (YJ _) (e:=λc=>MV.f (Za c)) (g:=λc=>MV.f (Za c)) (t:=λc=>decide (cZ c∉ks)) (caps:=[some (.ref h.length)]) cs [] none (by simpa using sz) (λc _ z=>⟨some (.f (Za c)),by
  have nc:=ly c;generalize Za c=cn at nc;by_cases q:cZ c∈ks
  ·simp[q] at nc;simp[ql,nc,q]
  ·simp[q] at nc;simp[ql,nc,q]⟩)]
 have e2:(cs.filter λc=>decide (cZ c∉ks)).map (λc=>MV.f (Za c))=((cs.filter λc=>decide (cZ c∉ks)).map Za).map MV.f:=by simp[vc]
 rw[uf,R.aJ,e2];simp at hQ ⊢;rw[lv];simpa using hQ
theorem Qa2(w:FV)(ms:List (Nat×Nat))(hl:ms.length<=1000):run prog (n+1) "MaskedWay.__init__" [.ref h.length,.f w,.f (.lst (ms.map Za))] (h++[.obj "MaskedWay" []]) =
  .ok (.f .bI) (h++[.obj "MaskedWay" [("way",.f w),("mask",.f (.cV ((ms.map cZ).foldl ZE [])))]]):=by
 have it:∀ hh,fP "seq" [.f (.lst (ms.map Za))] hh=some (ms.map λc=>MV.f (Za c),[]):=λhh=>by
  have q:Qb hh (.f (.lst (ms.map Za)))=some (ms.map λc=>MV.f (Za c)):=by simp[vc]
  have g:Zd hh (.f (.lst (ms.map Za)))=[]:=rfl;simp only[fP,q,wg,g]
 have sz:ms.length<=aO:=by rw[zf];lia
 have mm:∀ l:List (Nat×Nat),(l.map λc=>MV.f (.tup [Za c,.bl true])).mapM sD=some (l.map cZ):=by
  intro l
  induction l with
  |nil=>rfl
  |cons c l ih =>
   have e:sD (MV.f (.tup [Za c,.bl true]))=some (cZ c):=rfl;rw[Wb,Vo,e,ih];rfl
 have mo:∀ g:MH,Dj (.ref g.length) (g++[.lst (ms.map λc=>MV.f (.tup [Za c,.bl true]))])=.ok (.f (.cV ((ms.map cZ).foldl ZE []))) (g++[.lst (ms.map λc=>MV.f (.tup [Za c,.bl true]))]):=λg=>by
  have cl:=yk g [] (ms.map λc=>MV.f (.tup [Za c,.bl true]));simp only[Dj,cl,yd,mm];rw[if_pos (by rw[xc];lia)]
 have t:=bP.obj h "MaskedWay" [("way",w),("mask",.cV ((ms.map cZ).foldl ZE []))] [.lst (ms.map λc=>MV.f (.tup [Za c,.bl true]))];have m1:=mo (h++[.obj "MaskedWay" [("way",.f w)]]);generalize (ms.map cZ).foldl ZE []=ks at *;generalize jo:FV.lst (ms.map Za)=cl at *;rw[YT];simp only[ba];simp[it,MP.stM];rw[ZG (e:=λc=>MV.f (Za c)) (g:=λc=>MV.f (.tup [Za c,.bl true])) ms [] none (by simpa using sz) (λc _ z=>⟨some (.f (Za c)),by simp[ql,Zi,zj]⟩)];simp only[uf,R.aJ,Ew];generalize (ms.map λc=>MV.f (.tup [Za c,.bl true]))=M at *;have tk:∀(a b:Cell),(h++[a,b]).take (h.length+1)=h++[a]:=λa b=>by rw[show h++[a,b]=(h++[a])++[b] by simp,wy (by simp)]
 simp at m1 t;simp[m1,Qg,t,tk]
theorem KP(w:FV)(ms:List (Nat×Nat))(hl:ms.length<=1000):zD prog (run prog (n+1)) true "MaskedWay" [.f w,.f (.lst (ms.map Za))] h=.ok (.f (Yt w ((ms.map cZ).foldl ZE []))) h:=by
 have R:=Qa2 n h w ms hl;generalize (ms.map cZ).foldl ZE []=ks at *;generalize FV.lst (ms.map Za)=cl at *;simp[zD,R,bP.app,Yt,zj]
end
section
variable (H W:Nat) (h1:1<=H) (h2:1<=W) (mf:H*W<=60) (hH:H<=60) (hW:W<=60)
include h1 h2 mf hH hW
noncomputable def eE(c:String)(H W:Nat)(cs:List (Nat×Nat)):Prop:=Dz c/\∃ f,prog.meths c "order"=some f/\(∀ n h,run prog (n+4) f [.f (qg c),I H,I W] h=.ok (.ref h.length) (h++[.lst ((cs.map Za).map .f)]))/\(∀ p∈cs,p.1<H/\p.2<W)/\cs.length<=300/\cs.Nodup
theorem YbN:eE "Way" H W (yj H W):=⟨.inl rfl,"Way.order",rfl,λn h=>ZaK (n+2) h _ H W h1 h2 (by lia) (by lia) (by lia),λp hp=>BN hp,by rw[ZN];lia,Y3 H W h2⟩
theorem qb5:eE "FroWay" H W (zU H W):=⟨.inr (.inl rfl),"FroWay.order",rfl,λn h=>qa1 (n+2) h _ H W h1 h2 (by lia) (by lia) (by lia),λp hp=>YcH hp,by rw[KN];lia,QbF H W h2⟩
theorem qb2:eE "ColumnWay" H W (qU H W):=⟨.inr (.inr (.inl rfl)),"ColumnWay.order",rfl,λn h=>Ya5 (n+2) h _ H W h1 h2 (by lia) (by lia) (by lia),λp hp=>YcS hp,by rw[Qcr];lia,YbM H W h1⟩
theorem zbP(a:H<=16)(b:W<=16):∃ cs,eE "FoldedWay" H W cs:=by
 obtain⟨k,hk,O⟩:=yaS (.f (qg "FoldedWay")) H W h1 h2 a b;refine⟨_,.inr (.inr (.inr rfl)),"FoldedWay.order",rfl,λn h=>O (n+1) h,λp hp=>?_,?_,(L7 k).filter _⟩
 ·have:=(Uw.mp hp).2;simpa using this
 ·have l1:=XC (λc:Nat×Nat=>decide (c.1<H)&&decide (c.2<W)) (Qi k);rw[BG] at l1;have:4^k<=4^4:=Xl (by lia) hk
  lia
end
theorem eE.Fy{c:String}{H W:Nat}{cs:List (Nat×Nat)}(p:eE c H W cs):mz (qg c) H W cs:=by
 obtain⟨_,f,mo,O,_⟩:=p;exact⟨c,[],[],f,rfl,by simp,mo,λn h=>O (n+2) h⟩
theorem eE.wJ{c:String}{H W:Nat}{cs:List (Nat×Nat)}(p:eE c H W cs)(ks:List (Int×Int))(sm:ks.all qX=true)(nd:ks.Nodup):mz (Yt (qg c) ks) H W (cs.filter λc=>decide (cZ c∉ks)):=by
 obtain⟨pc,f,mo,O,_,hl,_⟩:=p;exact⟨"MaskedWay",_,_,"MaskedWay.order",rfl,by simp,rfl,λn h=>QaY (n+1) h c f pc mo H W cs (by lia) O ks sm nd⟩
end MP
end
section
namespace MP
open PySem
section
variable (n:Nat) (h:MH)
theorem Ybd(ns:List Int)(k:Int)(H W:Nat)(h1:1<=H)(h2:1<=W)(hH:H<=60)(hW:W<=60)(hk:0<=k)(lF:k+10<1000000)(x:Int)(hx:0<=x)(c:String)(cs:List (Nat×Nat))(pw:eE c H W cs)(k0:Int)(hk0:k0<=k) :
  cQ (yb (.code::atC k0::h) (qa prog (run prog (n+4)) (aN.body.drop 3) [some (.f (.dm ns)),some (.ref 1),some (.f (.tup [.int H,.int W])),some (I x),some (.f (qg c)),none,none,none] (.code::atC k::h))) λv h' =>
   ∃ w fS kk,k<=kk/\kk<=k+7/\v=.f w/\h'=.code::atC kk::h/\mz w H W fS/\(∀ p∈fS,p.1<H/\p.2<W)/\fS.length<=300/\fS.Nodup:=by
 refine cQ.of λQ hQ=>?_;have m4:∀ hh,Qd true .fdiv (I x) (I 4) hh=.ok (I (x/4)) hh:=λhh=>Zf _ _ _ ⟨by decide,.inl (by decide)⟩;have m12:∀ hh,Qd true .fdiv (I x) (I 12) hh=.ok (I (x/12)) hh:=λhh=>Zf _ _ _ ⟨by decide,.inl (by decide)⟩;have wK:∀ hh,Qd true .fdiv (I x) (I 100) hh=.ok (I (x/100)) hh:=λhh=>Zf _ _ _ ⟨by decide,.inl (by decide)⟩;have d3:∀ hh,Qd true .mod (I (x/4)) (I 3) hh=.ok (I (x/4%3)) hh:=λhh=>Ze _ _ _ (by decide);have d7:∀ hh,Qd true .mod (I (x/12)) (I 7) hh=.ok (I (x/12%7)) hh:=λhh=>Ze _ _ _ (by decide);have d9:∀ hh,Qd true .mod (I (x/100)) (I 9) hh=.ok (I (x/100%9)) hh:=λhh=>Ze _ _ _ (by decide);have wr:=pw.Fy;obtain⟨pc,f,mo,O,jP,jo,rQ⟩:=id pw;have cm:∀ hh,lN "order" (.f (qg c)) hh=some c:=λhh=>by simp[lN,qg]
 have a0:cW [I (H:Int),I (W:Int)] 0=some (I (H:Int)):=rfl;have a1:cW [I (H:Int),I (W:Int)] 1=some (I (W:Int)):=rfl;have h7:=mod_lt (x/12) 7 (by decide);obtain⟨T,hT⟩:=ue h7.1;simp only[aN,Xu,xq];by_cases q:0<x/4%3
 ·have lv:=Bc k0 k h (qg c);generalize qg c=wv at *;simp[m4,d3,q,lv];exact hQ _ _ ⟨wv,cs,k,by lia,by lia,rfl,rfl,wr,jP,jo,rQ⟩
 ·simp[m4,d3,q,m12,d7,hT,zm _ (T:Int) (by lia)];refine yt (Q:=λr=>cQ (yb _ r) _) T (λi σ hh=>∃(ms:List (Nat×Nat)) (z6 z7:Option MV),(∀ p∈ms,p.1<64/\p.2<64)/\ms.length=i/\hh=.code::atC (k+(i:Int))::(h++[.lst ((ms.map Za).map .f)]) /\
   σ=[some (.f (.dm ns)),some (.ref 1),some (.f (.tup [.int H,.int W])),some (I x),some (.f (qg c)),some (.ref (h.length+2)),z6,z7]) ⟨[],none,none,by simp,rfl,by simp,rfl⟩ ?_ ?_
  ·rintro i σ hh pH ⟨ms,z6,z7,Hk,Ag,rfl,rfl⟩ Q hQ;have N:=zq (n+3) (h++[.lst ((ms.map Za).map .f)]) ns (k+i) (by lia) (by lia);have hd:=yu ns (k+i+1);generalize ZY ns (k+i+1)=y at N hd;have e1:=mod_lt y ((H:Int)+1) (by lia);have e2:=mod_lt (y/50) (W:Int) (by lia);have b1:∀ hh,Qd true .mod (I y) (I ((H:Int)+1)) hh=.ok (I (y%((H:Int)+1))) hh:=λhh=>Ze _ _ _ (by lia);have b2:∀ hh,Qd true .mod (I (y/50)) (I (W:Int)) hh=.ok (I (y/50%(W:Int))) hh:=λhh=>Ze _ _ _ (by lia);have b3:∀ hh,Qd true .fdiv (I y) (I 50) hh=.ok (I (y/50)) hh:=λhh=>Zf _ _ _ ⟨by decide,.inl (by decide)⟩;obtain⟨u,hu⟩:=ue e1.1;obtain⟨v,hv⟩:=ue e2.1;rw[hu] at b1 e1;rw[hv] at b2 e2;have ml:((ms.map Za).map MV.f).length<aO:=by simp[zf];lia
   have ea:(ms.map Za).map MV.f++[MV.f (.tup [.int (u:Int),.int (v:Int)])]=((ms++[(u,v)]).map Za).map MV.f:=by simp[Za]
   have c0:=pY .code (atC (k+(i:Int)+1)) h [] ((ms.map Za).map .f);have s0:=λys=>sI .code (atC (k+(i:Int)+1)) h [] ((ms.map Za).map .f) ys;have nk:k+((i+1:Nat):Int)=k+(i:Int)+1:=by lia
   have ke:=hQ [some (.f (.dm ns)),some (.ref 1),some (.f (.tup [.int H,.int W])),some (I x),some (.f (qg c)),some (.ref (h.length+2)),some (I i),some (I y)] (.code::atC (k+(i:Int)+1)::(h++[.lst (((ms++[(u,v)]).map Za).map .f)])) ⟨ms++[(u,v)],_,_,λp hp=>by
    rcases Xf.mp hp with hp|hp
    ·exact Hk p hp
    ·rw[Xc.mp hp];simp only;lia,by simp[Ag],by rw[nk],rfl⟩
   rw[<- ea] at ke;generalize (ms.map Za).map MV.f=M at *;generalize qg c=wv at *;simp[Qp,N,a0,a1,b1,b2,b3,Zi,zj,c0,ml,s0];exact ke
  ·rintro σ hh ⟨ms,z6,z7,Hk,Ag,rfl,rfl⟩;have small:∀ l:List (Nat×Nat),(∀ p∈l,p.1<64/\p.2<64)->((l.map cZ).foldl ZE []).all qX=true:=λl hl=>by
    rw[vo];intro q hq;rw[L8] at hq
    rcases hq with hq|hq
    ·exact absurd hq (by simp)
    ·obtain⟨p,hp,rfl⟩:=Wd.mp hq;have:=hl p hp;simp[qX,cZ];lia
   have res:∀ l:List (Nat×Nat),(∀ p∈l,p.1<64/\p.2<64)->∃ fS,mz (Yt (qg c) ((l.map cZ).foldl ZE [])) H W fS/\(∀ p∈fS,p.1<H/\p.2<W)/\fS.length<=300/\fS.Nodup:=λl hl =>
    ⟨_,pw.wJ _ (small l hl) (NI _ _ (by simp)),λp hp=>jP p (Uw.mp hp).1,vf (XC _ _) jo,rQ.filter _⟩
   have F1:=BI .code (atC (k+(T:Int))) h (ms.map Za);have MK:=KP (n+3) (.code::atC (k+(T:Int))::(h++[.dead])) (qg c) ms (by lia);have O1:=O n (.code::atC (k+(T:Int))::(h++[.lst ((ms.map Za).map .f)]));have F2:=BI .code (atC (k+(T:Int))) (h++[.lst ((ms.map Za).map .f)]) (cs.map Za);have MK2:=KP (n+3) (.code::atC (k+(T:Int))::(h++[.lst ((ms.map Za).map .f),.dead])) (qg c) cs (by lia);obtain⟨r1,R1⟩:=res ms Hk;obtain⟨r2,R2⟩:=res cs (λp hp=>by have:=jP p hp;lia);have Mi:=sg k0 (k+(T:Int)) h [.dead] (Yt (qg c) ((ms.map cZ).foldl ZE []));have Mh:=sg k0 (k+(T:Int)) h [.lst ((ms.map Za).map .f),.dead] (Yt (qg c) ((cs.map cZ).foldl ZE []));generalize Yt (qg c) ((ms.map cZ).foldl ZE [])=v1 at *;generalize Yt (qg c) ((cs.map cZ).foldl ZE [])=v2 at *;generalize (ms.map Za).map MV.f=M at *;generalize (cs.map Za).map MV.f=M2 at *;generalize ms.map Za=L at *;generalize cs.map Za=L2 at *;generalize qg c=wv at *;simp at F1 F2 O1 Mi Mh;by_cases q9:x/100%9=0
   ·simp[wK,d9,q9,cm,mo,a0,a1,O1,F2,MK2,Mh];exact hQ _ _ ⟨v2,r2,_,by lia,by lia,rfl,rfl,R2⟩
   ·simp[wK,d9,q9,F1,MK,Mi];exact hQ _ _ ⟨v1,r1,_,by lia,by lia,rfl,rfl,R1⟩
theorem QcG(ns:List Int)(k:Int)(H W:Nat)(h1:1<=H)(h2:1<=W)(mf:H*W<=60)(hH:H<=60)(hW:W<=60)(hk:0<=k)(lF:k+12<1000000) :
  cQ (run prog (n+5) "_law_way" [.f (.dm ns),.ref 1,.f (.tup [.int H,.int W])] (.code::atC k::h)) λv h' =>
   ∃ w fS kk,k<=kk/\kk<=k+8/\v=.f w/\h'=.code::atC kk::h/\mz w H W fS/\(∀ p∈fS,p.1<H/\p.2<W)/\fS.length<=300/\fS.Nodup:=by
 have N:=zq (n+3) h ns k hk (by lia);have hd:=yu ns (k+1);generalize ZY ns (k+1)=x at N hd;have main:∀ c cs,eE c H W cs->cQ (yb (.code::atC k::h) (qa prog (run prog (n+4)) (aN.body.drop 3) [some (.f (.dm ns)),some (.ref 1),some (.f (.tup [.int H,.int W])),some (I x),some (.f (qg c)),none,none,none] (.code::atC (k+1)::h))) λv h' =>
   ∃ w fS kk,k<=kk/\kk<=k+8/\v=.f w/\h'=.code::atC kk::h/\mz w H W fS/\(∀ p∈fS,p.1<H/\p.2<W)/\fS.length<=300/\fS.Nodup:=λc cs pw=>by
  obtain⟨v,h',e,w,fS,kk,q1,q2,q3⟩:=Ybd n h ns (k+1) H W h1 h2 hH hW (by lia) (by lia) x (by lia) c cs pw k (by lia);exact⟨v,h',e,w,fS,kk,by lia,by lia,q3⟩
 have k1:∀ hh,zD prog (run prog (n+4)) true "Way" [] hh=.ok (.f (qg "Way")) hh:=λhh=>Dm hh _ "Way" rfl;have k2:∀ hh,zD prog (run prog (n+4)) true "FroWay" [] hh=.ok (.f (qg "FroWay")) hh:=λhh=>Dm hh _ "FroWay" rfl;have k3:∀ hh,zD prog (run prog (n+4)) true "ColumnWay" [] hh=.ok (.f (qg "ColumnWay")) hh:=λhh=>Dm hh _ "ColumnWay" rfl;have k4:∀ hh,zD prog (run prog (n+4)) true "FoldedWay" [] hh=.ok (.f (qg "FoldedWay")) hh:=λhh=>Dm hh _ "FoldedWay" rfl;have d4:∀ hh,Qd true .mod (I x) (I 4) hh=.ok (I (x%4)) hh:=λhh=>Ze _ _ _ (by decide);have mx:∀ hh,Yr true "max" [.f (.tup [.int H,.int W])] hh=.ok (I (if(W:Int)>H then(W:Int) else H)) hh:=λhh=>rfl;have m1:=main "Way" _ (YbN H W h1 h2 mf hH hW);have m2:=main "FroWay" _ (qb5 H W h1 h2 mf hH hW);have m3:=main "ColumnWay" _ (qb2 H W h1 h2 mf hH hW);rw[ybo];have hb:aN.body=aN.body.take 3++aN.body.drop 3:=(uC 3 _).symm;have lU:∀ c,qa prog (run prog (n+4)) (aN.body.take 3) [some (.f (.dm ns)),some (.ref 1),some (.f (.tup [.int H,.int W])),none,none,none,none,none] (.code::atC k::h)=.next [some (.f (.dm ns)),some (.ref 1),some (.f (.tup [.int H,.int W])),some (I x),some (.f (qg c)),none,none,none] (.code::atC (k+1)::h)->cQ (yb (.code::atC k::h) (qa prog (run prog (n+4)) (aN.body.drop 3) [some (.f (.dm ns)),some (.ref 1),some (.f (.tup [.int H,.int W])),some (I x),some (.f (qg c)),none,none,none] (.code::atC (k+1)::h))) (λv h' =>
   ∃ w fS kk,k<=kk/\kk<=k+8/\v=.f w/\h'=.code::atC kk::h/\mz w H W fS/\(∀ p∈fS,p.1<H/\p.2<W)/\fS.length<=300/\fS.Nodup)->cQ (yb (.code::atC k::h) (qa prog (run prog (n+4)) aN.body [some (.f (.dm ns)),some (.ref 1),some (.f (.tup [.int H,.int W])),none,none,none,none,none] (.code::atC k::h))) (λv h' =>
   ∃ w fS kk,k<=kk/\kk<=k+8/\v=.f w/\h'=.code::atC kk::h/\mz w H W fS/\(∀ p∈fS,p.1<H/\p.2<W)/\fS.length<=300/\fS.Nodup):=λc e r=>by
  rw[hb,NF,e];exact r
 have h4:=mod_lt x 4 (by decide);have cs4:x%4=0\/x%4=1\/x%4=2\/x%4=3:=by lia
 have at0:cW [MV.f (qg "Way"),MV.f (qg "FroWay"),MV.f (qg "ColumnWay"),MV.f (qg "FoldedWay")] 0=some (.f (qg "Way")):=rfl;have lJ:cW [MV.f (qg "Way"),MV.f (qg "FroWay"),MV.f (qg "ColumnWay"),MV.f (qg "FoldedWay")] 1=some (.f (qg "FroWay")):=rfl;have at2:cW [MV.f (qg "Way"),MV.f (qg "FroWay"),MV.f (qg "ColumnWay"),MV.f (qg "FoldedWay")] 2=some (.f (qg "ColumnWay")):=rfl;have M9:cW [MV.f (qg "Way"),MV.f (qg "FroWay"),MV.f (qg "ColumnWay"),MV.f (qg "FoldedWay")] 3=some (.f (qg "FoldedWay")):=rfl
 rcases cs4 with c|c|c|c
 ·refine lU "Way" ?_ m1;simp only[aN,Wm,Uv];simp[N,k1,k2,k3,k4,zj,d4,c,at0]
 ·refine lU "FroWay" ?_ m2;simp only[aN,Wm,Uv];simp[N,k1,k2,k3,k4,zj,d4,c,lJ]
 ·refine lU "ColumnWay" ?_ m3;simp only[aN,Wm,Uv];simp[N,k1,k2,k3,k4,zj,d4,c,at2]
 ·by_cases big:(16:Int)<(if(W:Int)>H then(W:Int) else H)
  ·refine lU "FroWay" ?_ m2;generalize (if(W:Int)>H then(W:Int) else(H:Int))=mm at *;simp only[aN,Wm,Uv];simp[N,k1,k2,k3,k4,zj,d4,c,M9,mx,big]
  ·obtain⟨cs,pf⟩:=zbP H W h1 h2 mf hH hW (by split at big <;> lia) (by split at big <;> lia);refine lU "FoldedWay" ?_ (main "FoldedWay" cs pf);generalize (if(W:Int)>H then(W:Int) else(H:Int))=mm at *;simp only[aN,Wm,Uv];simp[N,k1,k2,k3,k4,zj,d4,c,M9,mx,big]
theorem ybF(ns:List Int)(k:Int)(hk:0<=k)(lF:k+12<1000000) :
  cQ (run prog (n+3) "_law_shares" [.f (.dm ns),.ref 1] (.code::atC k::h)) λv h'=>∃ sh kk,jz sh/\k<=kk/\kk<=k+8/\v=.f (Qa false sh)/\h'=.code::atC kk::h:=by
 refine cQ.of λQ hQ=>?_;have N:=zq (n+1) h ns k hk (by lia);have hd:=yu ns (k+1);generalize ZY ns (k+1)=x at N hd;have h6:=mod_lt x 6 (by decide);obtain⟨T,T1,T2,eT⟩:∃ T:Nat,1<=T/\T<=6/\cW [I 1,I 2,I 3,I 4,I 2,I 6] (x%6)=some (I (T:Int)):=by
  have:x%6=0\/x%6=1\/x%6=2\/x%6=3\/x%6=4\/x%6=5:=by lia
  rcases this with e|e|e|e|e|e <;> rw[e]
  ·exact⟨1,by lia,by lia,rfl⟩
  ·exact⟨2,by lia,by lia,rfl⟩
  ·exact⟨3,by lia,by lia,rfl⟩
  ·exact⟨4,by lia,by lia,rfl⟩
  ·exact⟨2,by lia,by lia,rfl⟩
  ·exact⟨6,by lia,by lia,rfl⟩
 have d6:∀ hh,Qd true .fdiv (I x) (I 6) hh=.ok (I (x/6)) hh:=λhh=>Zf _ _ _ ⟨by decide,.inl (by decide)⟩;have d30:∀ hh,Qd true .fdiv (I x) (I 30) hh=.ok (I (x/30)) hh:=λhh=>Zf _ _ _ ⟨by decide,.inl (by decide)⟩;have Im:∀ hh,Qd true .fdiv (I x) (I 500) hh=.ok (I (x/500)) hh:=λhh=>Zf _ _ _ ⟨by decide,.inl (by decide)⟩;have AV:∀ hh,Qd true .fdiv (I x) (I 5000) hh=.ok (I (x/5000)) hh:=λhh=>Zf _ _ _ ⟨by decide,.inl (by decide)⟩;have m6:∀ hh,Qd true .mod (I x) (I 6) hh=.ok (I (x%6)) hh:=λhh=>Ze _ _ _ (by decide);have m5:∀ hh,Qd true .mod (I (x/6)) (I 5) hh=.ok (I (x/6%5)) hh:=λhh=>Ze _ _ _ (by decide);have m4:∀ hh,Qd true .mod (I (x/5000)) (I 4) hh=.ok (I (x/5000%4)) hh:=λhh=>Ze _ _ _ (by decide);rw[QaE];simp only[b8];simp[N,m6,zj,eT,zm _ (T:Int) (by lia)];refine yt (Q:=λr=>cQ (yb _ r) _) T (λi σ hh=>∃(sh:List Int)(kk:Int)(z4:Option MV),(∀ y∈sh,0<=y/\y<2^100)/\sh.length=i/\k+1<=kk/\kk<=k+1+(i:Int)/\hh=.code::atC kk::(h++[.lst (sh.map (MV.f∘FV.int))]) /\
  σ=[some (.f (.dm ns)),some (.ref 1),some (I x),some (.ref (h.length+2)),z4]) ⟨[],k+1,none,by simp,rfl,by lia,by simp,by simp,rfl⟩ ?_ ?_
 ·rintro i σ hh pH ⟨sh,kk,z4,hs,hl,k1,k2,rfl,rfl⟩ Q hQ;have ml:(sh.map (MV.f∘FV.int)).length<aO:=by simp[zf];lia
  have app:∀ v:Int,0<=v->v<2^100->∀ y∈sh++[v],0<=y/\y<2^100:=λv v0 v1 y hy=>by
   rcases Xf.mp hy with hy|hy
   ·exact hs y hy
   ·rw[Xc.mp hy];exact⟨v0,v1⟩
  have ea:∀ v:Int,sh.map (MV.f∘FV.int)++[I v]=(sh++[v]).map (MV.f∘FV.int):=λv=>by simp
  have c0:=λj=>pY .code (atC j) h [] (sh.map (MV.f∘FV.int));have s0:=λj ys=>sI .code (atC j) h [] (sh.map (MV.f∘FV.int)) ys;by_cases c:x/6%5=0
  ·obtain⟨g,g0,g1,G⟩:=IL n (h++[.lst (sh.map (MV.f∘FV.int))]) ns kk 9 (by lia) (by lia) (by decide);have ke:=hQ [some (.f (.dm ns)),some (.ref 1),some (I x),some (.ref (h.length+2)),some (I i)] (.code::atC (kk+1)::(h++[.lst ((sh++[g]).map (MV.f∘FV.int))])) ⟨sh++[g],kk+1,_,app g g0 (by lia),by simp[hl],by lia,by push_cast;lia,rfl,rfl⟩;rw[<- ea] at ke;generalize sh.map (MV.f∘FV.int)=M at *;simp[Qp,d6,m5,c,c0,G,ml,s0];exact ke
  ·have b1:∀ hh,Qd true .mul (I i) (I i) hh=.ok (I ((i:Int)*i)) hh:=λhh=>ym _ _ _ (Yq (by lia));have b7:∀(y:Int) hh,Qd true .mod (I y) (I 7) hh=.ok (I (y%7)) hh:=λy hh=>Ze _ _ _ (by decide);have h7:=mod_lt (x/30+(i:Int)*i+i) 7 (by decide);obtain⟨v,v0,v1,ev⟩:∃ v:Int,0<=v/\v<2^100/\cW [I 7,I 3,I 5,I 1,I 0,I 2,I 16] ((x/30+(i:Int)*i+i)%7)=some (I v):=by
    obtain⟨w,hw,e⟩:=BJ [I 7,I 3,I 5,I 1,I 0,I 2,I 16] _ h7.1 (by simpa using h7.2);simp only[ua,Vc,or_false] at hw
    rcases hw with rfl|rfl|rfl|rfl|rfl|rfl|rfl
    all_goals exact⟨_,by lia,by lia,e⟩
   have ke:=hQ [some (.f (.dm ns)),some (.ref 1),some (I x),some (.ref (h.length+2)),some (I i)] (.code::atC kk::(h++[.lst ((sh++[v]).map (MV.f∘FV.int))])) ⟨sh++[v],kk,_,app v v0 v1,by simp[hl],by lia,by push_cast;lia,rfl,rfl⟩;rw[<- ea] at ke;generalize sh.map (MV.f∘FV.int)=M at *;simp[Qp,d6,m5,c,c0,d30,b1,b7,zj,ev,ml,s0];exact ke
 ·rintro σ hh ⟨sh,kk,z4,hs,hl,k1,k2,rfl,rfl⟩;have c0:=pY .code (atC kk) h [] (sh.map (MV.f∘FV.int));have s0:=λys=>sI .code (atC kk) h [] (sh.map (MV.f∘FV.int)) ys;have su:Yr true "sum" [.ref (h.length+2)] (.code::atC kk::(h++[.lst (sh.map (MV.f∘FV.int))]))=.ok (I sh.sum) (.code::atC kk::(h++[.lst (sh.map (MV.f∘FV.int))])):=by
   simp only[Yr,Qb,c0,xh,qo,yd]
  have ln:Yr true "len" [.ref (h.length+2)] (.code::atC kk::(h++[.lst (sh.map (MV.f∘FV.int))]))=.ok (I (T:Int)) (.code::atC kk::(h++[.lst (sh.map (MV.f∘FV.int))])):=by
   simp only[Yr,Qb,c0,yd,xc,hl]
  have fin:∀ l:List Int,jz l->cQ (yb (.code::atC k::h) (qa prog (run prog (n+2)) [.ret (.e8 (.var 3))] [some (.f (.dm ns)),some (.ref 1),some (I x),some (.ref (h.length+2)),z4] (.code::atC kk::(h++[.lst (l.map (MV.f∘FV.int))])))) Q:=λl ol=>by
   have F:=BI .code (atC kk) h (l.map FV.int);rw[wf] at F;have lv:=sg k kk h [.dead] (Qa false l);have er:FV.lst (l.map FV.int)=Qa false l:=rfl;rw[er] at F;generalize l.map (MV.f∘FV.int)=M at *;simp[qa,F,lv];exact hQ _ _ ⟨l,kk,ol,by lia,by lia,rfl,rfl⟩
  by_cases c:sh.sum=0
  ·have hT:0<(T:Int):=by lia
   have mT:∀ hh,Qd true .mod (I (x/500)) (I (T:Int)) hh=.ok (I (x/500%(T:Int))) hh:=λhh=>Ze _ _ _ hT;have hj:=mod_lt (x/500) (T:Int) hT;have h4:=mod_lt (x/5000) 4 (by decide);obtain⟨j,ej⟩:=ue hj.1;rw[ej] at mT hj;have ix:jW (sh.map (MV.f∘FV.int)).length (j:Int)=some j:=by
    unfold jW;rw[if_pos (by lia),if_pos (by simp;lia)];simp
   have es:(sh.map (MV.f∘FV.int)).set j (I (1+x/5000%4))=(sh.set j (1+x/5000%4)).map (MV.f∘FV.int):=by rw[uA];rfl
   have ok:jz (sh.set j (1+x/5000%4)):=by
    have nn:∀ y∈sh.set j (1+x/5000%4),0<=y/\y<2^100:=λy hy=>by
     rcases Vu hy with hy|rfl
     ·exact hs y hy
     ·lia
    refine⟨nn,OI _ (λy hy=>(nn y hy).1) (1+x/5000%4) ?_ (by lia),by simp;lia⟩;exact Xw.mpr ⟨j,Xj (by lia)⟩
   have f1:=fin _ ok;rw[<- es] at f1;generalize sh.map (MV.f∘FV.int)=M at *;simp[su,c,ln,Im,AV,mT,m4,c0,ix,s0];exact f1
  ·have ok:jz sh:=⟨hs,by have:=oG sh λy hy=>(hs y hy).1;lia,by lia⟩;have f1:=fin _ ok;generalize sh.map (MV.f∘FV.int)=M at *;simp[su,c];exact f1
end
end MP
end
section
namespace MP
open PySem
section
variable (n:Nat) (h:MH)
theorem Zcs(ns:List Int)(k:Int)(hk:0<=k)(lF:k+2000<1000000) :
  cQ (run prog (n+6) "_law_case" [.f (.dm ns),.ref 1] (.code::atC k::h)) λv h'=>∃ most rows ai sh w cs kk H W,1<=most/\most<=100000000000000000000000000/\1<=H/\H<=60/\1<=W/\W<=60/\H*W<=60/\Drawn most rows H W/\gF most ai/\ai.length<=8/\jz sh/\mz w H W cs/\(∀ p∈cs,p.1<H/\p.2<W)/\cs.length<=300/\cs.Nodup/\k<=kk/\kk<=k+300 /\
   v=.f (.tup [.int most,Zh false false rows,w,Qa false sh,Qa false ai])/\h'=.code::atC kk::h:=by
 refine cQ.of λQ hQ=>?_;obtain⟨v,h',PC,most,rows,ai,k1,H,W,m1,m2,h1,h2,w1,w2,hw,d,K,il,kk1,kk2,rfl,rfl⟩:=zaV (n+1) h ns k hk (by lia);obtain⟨v,h',WY,w,cs,k2,kk3,kk4,rfl,rfl,wr,jP,jo,rQ⟩:=QcG n h ns k1 H W h1 w1 hw h2 w2 (by lia) (by lia);obtain⟨v,h',SH,sh,k3,so,kk5,kk6,rfl,rfl⟩:=ybF (n+2) h ns k2 (by lia) (by lia);have hr:rows≠[]:=by rintro rfl;have:=d.len;simp at this;lia
 obtain⟨r0,rs,er⟩:∃ r0 rs,rows=r0::rs:=by
  cases rows with
  |nil=>exact absurd rfl hr
  |cons a b=>exact⟨a,b,rfl⟩
 have e1:r0.length=W:=d.lP r0 (by rw[er];simp);have e2:rows.length=H:=d.len;have ln:∀ hh,Yr true "len" [.f (Zh false false rows)] hh=.ok (I (H:Int)) hh:=λhh=>by simp[Zh,sq,e2]
 have q1:∀ hh,Qb hh (.f (Zh false false rows))=some (rows.map (MV.f∘Qa false)):=λhh=>by simp[Zh]
 have a0:cW (rows.map (MV.f∘Qa false)) 0=some (.f (Qa false r0)):=by
  have S0:=Qy (rows.map (MV.f∘Qa false)) 0;change cW _ (0:Int)=_ at S0;rw[S0,er];rfl
 have lr:∀ hh,Yr true "len" [.f (Qa false r0)] hh=.ok (I (W:Int)) hh:=λhh=>by simp[Qa,sq,e1]
 have lv:=Bc k k3 h (.tup [.int most,Zh false false rows,w,Qa false sh,Qa false ai]);have ke:=hQ (.f (.tup [.int most,Zh false false rows,w,Qa false sh,Qa false ai])) (.code::atC k3::h) ⟨most,rows,ai,sh,w,cs,k3,H,W,m1,m2,h1,h2,w1,w2,hw,d,K,il,so,wr,jP,jo,rQ,by lia,by lia,rfl,rfl⟩;generalize (rows.map (MV.f∘Qa false))=R0 at *;generalize Zh false false rows=rv at *;generalize Qa false sh=sv at *;generalize Qa false ai=iv at *;generalize Qa false r0=r0v at *;rw[qa4];simp only[df];simp[PC,ln,q1,a0,lr,Zi,zj,WY,SH,lv];exact ke
end
end MP
end
section
namespace MP
open PySem
noncomputable def zh(ai:List Int):List Int:=(Xd (ai.length-1)).map λk=>ai.getD (k+1) 0-ai.getD k 0
section
variable (n:Nat) (h:MH)
theorem Kj(ai:List Int)(h2:2<=ai.length)(hl:ai.length<=1000):run prog (n+1) "_law_half" [.f (Qa false ai)] h=.ok (I (Zx (zh ai)/2)) h:=by
 have q:∀ hh,Qb hh (.f (Qa false ai))=some (ai.map (MV.f∘FV.int)):=λhh=>by simp[Qa]
 have ne:zh ai≠[]:=by
  intro e;have:=congrArg vt e;simp[zh] at this
  lia
 have lJ:∀ k:Nat,k<ai.length->cW (ai.map (MV.f∘FV.int)) (k:Int)=some (I (ai.getD k 0)):=λk hk=>by
  rw[Qy,wc,xa hk];simp[Vg,hk]
 have ln:Yr true "len" [.f (Qa false ai)] h=.ok (I (ai.length:Int)) h:=by simp[Qa]
 have q1:=JR true h (.f (Qa false (zh ai))) (zh ai) (by simp[Qa]) ne;have d2:∀ x hh,Qd true .fdiv (I x) (I 2) hh=.ok (I (x/2)) hh:=λx hh=>Zf _ _ _ ⟨by decide,.inl (by decide)⟩;generalize hx:Qa false ai=xv at *;rw[Za5];simp only[de];have iR:=zm h ((ai.length:Int)-1) (by lia);have e0:((ai.length:Int)-1).toNat=ai.length-1:=by lia
 simp[ln,iR,MP.stM,e0];rw[ZG (e:=λk:Nat=>I k) (g:=λk=>I (ai.getD (k+1) 0-ai.getD k 0)) (Xd (ai.length-1)) [] none (by simp[zf];lia) (λk hk z=>⟨some (I k),by
  have iU:=xj.mp hk;have b1:=lJ k (by lia);have b2:=lJ (k+1) (by lia);rw[show((k+1:Nat):Int)=(k:Int)+1 by lia] at b2;simp[ql,q,b1,b2]⟩)]
 have e:((Xd (ai.length-1)).map λk=>I (ai.getD (k+1) 0-ai.getD k 0))=((zh ai).map FV.int).map MV.f:=by simp[zh]
 rw[uf,R.aJ,e,Yg];have e3:FV.lst ((zh ai).map FV.int)=Qa false (zh ai):=rfl;rw[e3];generalize Qa false (zh ai)=gv at *;simp[q1,d2]
end
theorem Dt(n:Nat)(h:MH):∀(d:Nat)(x:FV),isQ d x=true->run prog (n+d) "_law_same" [.f x,.f x] h=.ok (B true) h
 |0,x,e=>by cases x <;> simp[isQ] at e
 |d+1,x,e=>by
  rw[show n+(d+1)=(n+d)+1 from rfl,Ya1];simp only[c7];cases x with
  |bI=>simp[isQ] at e
  |bl b=>simp[isQ] at e
  |int i=>simp
  |str s=>simp[isQ] at e;simp[ZcG _ _ e e]
  |tup xs =>
   simp[isQ] at e;simp[D8,vc,MP.stM];rw[yq (e:=λx=>MV.f (.tup [x,x])) (g:=λ_=>B true) (caps:=[]) xs [] none none (by simpa using e.1) (λy hy z w=>⟨some (.f y),some (.f y),by simp[ql,Dt n h d y (e.2 y hy)]⟩)];simp[vc]
  |lst xs =>
   simp[isQ] at e;simp[D8,vc,MP.stM];rw[yq (e:=λx=>MV.f (.tup [x,x])) (g:=λ_=>B true) (caps:=[]) xs [] none none (by simpa using e.1) (λy hy z w=>⟨some (.f y),some (.f y),by simp[ql,Dt n h d y (e.2 y hy)]⟩)];simp[vc]
  |obj c ns vs=>simp[isQ] at e
  |dm ns=>simp[isQ] at e
  |tab ns=>simp[isQ] at e
  |cV ns=>simp[isQ] at e
end MP
end
section
namespace MP
open PySem
noncomputable def mK(sh:List Int)(hf:Int):Int:=(hf*qt sh+sh.sum-1)/sh.sum
section
variable (n:Nat) (h:MH)
theorem Oh(sh:List Int)(s:jz sh)(hf:Int)(h0:0<=hf)(h1:hf<2^110):run prog (n+1) "_law_bound" [.f (Qa false sh),I hf] h=.ok (I (mK sh hf)) h:=by
 suffices cQ (run prog (n+1) "_law_bound" [.f (Qa false sh),I hf] h) λv h'=>v=I (mK sh hf)/\h'=h by
  obtain⟨v,h',e,rfl,rfl⟩:=this;exact e
 refine cQ.of λQ hQ=>?_;have qs:∀ hh,Qb hh (.f (Qa false sh))=some (sh.map (MV.f∘FV.int)):=λhh=>by simp[Qa]
 have ls:∀ hh,Yr true "len" [.f (Qa false sh)] hh=.ok (I (sh.length:Int)) hh:=λhh=>by simp[Qa,sq]
 have ss:∀ hh,Yr true "sum" [.f (Qa false sh)] hh=.ok (I sh.sum) hh:=λhh=>by
  simp only[Yr,qs,xh,qo,yd]
 have w0:=s.one;have ws:=JL s;have zs:=L5 s;have hl:=s.len;generalize hsv:Qa false sh=sv at *;rw[zaX];simp only[cL];simp[ls,zm _ (sh.length:Int) (by lia)];refine yt (Q:=λr=>cQ (yb _ r) _) sh.length (λi σ hh=>∃ z3:Option MV,hh=h/\σ=[some (.f sv),some (I hf),some (I (YU 0 (sh.take i))),z3]) ⟨none,rfl,by simp[YU]⟩ ?_ ?_
 ·rintro i σ hh hi ⟨z3,rfl,rfl⟩ Q hQ;have ash:cW (sh.map (MV.f∘FV.int)) (i:Int)=some (I (sh.getD i 0)):=by
   rw[Qy,wc,xa hi];simp[Vg,hi]
  have mu:qD ((i:Int)+1) (sh.getD i 0):=.inl (by lia);have e1:YU 0 (sh.take (i+1))=YU 0 (sh.take i)+((i:Int)+1)*sh.getD i 0:=by
   have key:∀(l:List Int)(j:Nat)(k:Int),j<l.length->YU k (l.take (j+1))=YU k (l.take j)+(k+(j:Int)+1)*l.getD j 0:=by
    intro l
    induction l with
    |nil=>intro j k hj;simp at hj
    |cons a l ih =>
     intro j k hj;cases j with
     |zero=>simp[YU]
     |succ j =>
      have:=ih j (k+1) (by simpa using hj);simp only[Wm,YU,this,List.getD_cons_succ];have e:k+1+(j:Int)+1=k+((j+1:Nat):Int)+1:=by lia
      rw[e];lia
   have:=key sh i 0 hi;simpa using this
  have ke:=hQ [some (.f sv),some (I hf),some (I (YU 0 (sh.take (i+1)))),some (I i)] hh ⟨_,rfl,rfl⟩;rw[e1] at ke;generalize sh.getD i 0=y at *;generalize YU 0 (sh.take i)=ws' at *;simp[Qp,qs,ash,ym,mu];exact ke
 ·rintro σ hh ⟨z3,rfl,rfl⟩;have e2:YU 0 (sh.take sh.length)=qt sh:=by rw[uq,JI];lia
  rw[e2];have mu:qD hf (qt sh):=.inr (.inr ⟨yR (by lia) (by lia),yR (by lia) (by lia)⟩);have b1:∀ hh,Qd true .mul (I hf) (I (qt sh)) hh=.ok (I (hf*qt sh)) hh:=λhh=>ym _ _ _ mu;have b2:∀ y hh,Qd true .fdiv (I y) (I sh.sum) hh=.ok (I (y/sh.sum)) hh:=λy hh=>Zf _ _ _ ⟨by lia,.inr (yR (by lia) (by lia))⟩;simp[b1,ss,b2];exact hQ _ _ ⟨rfl,rfl⟩
theorem Zcv(l:List Int):((l.take (l.length-1)).zip (l.drop 1)).map (λp=>p.2-p.1)=zh l:=by
 unfold zh;apply vh;intro i;rw[wc,wc];by_cases hi:i<l.length-1
 ·rw[uy hi];have e1:((l.take (l.length-1)).zip (l.drop 1))[i]?=some (l.getD i 0,l.getD (i+1) 0):=by
   rw[Uu];refine⟨?_,?_⟩
   ·rw[vk hi,xa (by lia)];simp[Vg,show i<l.length by lia]
   ·rw[uv,xa (by lia)];simp[Vg,show i+1<l.length by lia,Nat.add_comm]
  rw[e1];rfl
 ·rw[Vs (by simp;lia),Vs (by simp;lia)];rfl
theorem K3(b:Bool)(iv:MV)(sh ai:List Int)(most:Int)(V2:cb h iv ai)(s:jz sh)(K:gF most ai)(hm:1<=most)(hb:0<=Zx (zh ai)/2/\Zx (zh ai)/2<2^110) :
  run prog (n+2) "bound_of" [.f (Qa b sh),iv] h=.ok (I (mK sh (Zx (zh ai)/2))) h:=by
 have V:cb h (.f (Qa b sh)) sh:=cb.row _ _ _;have A:=ZU n h _ sh V s.one (λx hx=>(s.nn x hx).1);have B1:=Q6 n h most iv ai V2 K hm;have h2:=K.two hm;have hsz:=K.sz;obtain⟨b1,s1⟩:=V2.slice (K4 ai (by lia));obtain⟨b2,s2⟩:=V2.slice (J' ai (by lia));have qr:∀ b r,Qb h (.f (Qa b r))=some (r.map (MV.f∘FV.int)):=λb r=>by simp[Qa]
 have g1:∀ b r,Zd h (.f (Qa b r))=[]:=λb r=>by simp[Qa]
 have zg:=Zcv ai;have q:=V.q;have ne:zh ai≠[]:=by
  intro e;have:=congrArg vt e;simp[zh] at this
  lia
 have mx:=JR true h (.f (Qa false (zh ai))) (zh ai) (by simp[Qa]) ne;have itz:fP "zip" [.f (Qa b1 (ai.take (ai.length-1))),.f (Qa b2 (ai.drop 1))] h=some (((ai.take (ai.length-1)).zip (ai.drop 1)).map (λp:Int×Int=>MV.f (.tup [.int p.1,.int p.2])),[]):=by
  have e:=KZ FV.int FV.int (ai.take (ai.length-1)) (ai.drop 1);simp only[fP,qr,g1,xh,wg,wn];rw[e]
 have ite:=Lb b sh h;have w0:=s.one;have ws:=JL s;have zs:=L5 s;have hl:=s.len;have sw:(sh.zipIdx.map λp=>((p.2+1:Nat):Int)*p.1).sum=qt sh:=by
  have:=NQ sh 0;rw[JI] at this;have e:(sh.zipIdx.map λp:Int×Nat=>((p.2+1:Nat):Int)*p.1)=sh.zipIdx.map λp=>((p.2:Int)+1)*p.1:=by
   congr 1
  rw[e,this];show((0:Nat):Int)*sh.sum+qt sh=qt sh;simp
 have ss:Yr true "sum" [.f (Qa b sh)] h=.ok (I sh.sum) h:=by
  simp only[Yr,q,xh,qo,yd]
 have sz:∀ l:List Int,Yr true "sum" [.f (Qa false l)] h=.ok (I l.sum) h:=λl=>by
  simp only[Yr,qr,xh,qo,yd]
 have d2:∀ x hh,Qd true .fdiv (I x) (I 2) hh=.ok (I (x/2)) hh:=λx hh=>Zf _ _ _ ⟨by decide,.inl (by decide)⟩;have mu:qD (Zx (zh ai)/2) (qt sh):=.inr (.inr ⟨yR (by lia) (by lia),yR (by lia) (by lia)⟩);have c1:∀ hh,Qd true .mul (I (Zx (zh ai)/2)) (I (qt sh)) hh=.ok (I (Zx (zh ai)/2*qt sh)) hh:=λhh=>ym _ _ _ mu;have c2:∀ y hh,Qd true .fdiv (I y) (I sh.sum) hh=.ok (I (y/sh.sum)) hh:=λy hh=>Zf _ _ _ ⟨by lia,.inr (yR (by lia) (by lia))⟩;have zsz:((ai.take (ai.length-1)).zip (ai.drop 1)).length<=aO:=by simp[zf];lia
 have nz:Qt true (((ai.take (ai.length-1)).zip (ai.drop 1)).map λp=>I (p.2-p.1)) h=.ok (.f (Qa false (zh ai))) h:=by
  have e:(((ai.take (ai.length-1)).zip (ai.drop 1)).map λp=>I (p.2-p.1))=((zh ai).map FV.int).map MV.f:=by rw[<- zg];simp[vc]
  rw[e,Yg];rfl
 have nw:Qt true (sh.zipIdx.map λp=>I (((p.2+1:Nat):Int)*p.1)) h=.ok (.f (Qa false (sh.zipIdx.map λp=>((p.2+1:Nat):Int)*p.1))) h:=by
  have e:(sh.zipIdx.map λp=>I (((p.2+1:Nat):Int)*p.1))=((sh.zipIdx.map λp=>((p.2+1:Nat):Int)*p.1).map FV.int).map MV.f:=by simp[vc]
  rw[e,Yg];rfl
 have sw2:(sh.zipIdx.map λp=>((p.2:Int)+1)*p.1).sum=qt sh:=by
  rw[<- sw];congr 1
 have iw:Zg (sh.zipIdx.map (MV.f∘λx=>FV.int (((x.2:Int)+1)*x.1)))=some (sh.zipIdx.map λp=>((p.2:Int)+1)*p.1):=by
  have:=qo (sh.zipIdx.map λp=>((p.2:Int)+1)*p.1);rw[wf] at this;exact this
 have szw:=sz (sh.zipIdx.map λp=>((p.2+1:Nat):Int)*p.1);rw[sw] at szw;generalize Qa false (sh.zipIdx.map λp=>((p.2+1:Nat):Int)*p.1)=wv at *;generalize hzz:(ai.take (ai.length-1)).zip (ai.drop 1)=zz at *;generalize rP:Qa b1 (ai.take (ai.length-1))=r1 at *;generalize CK:Qa b2 (ai.drop 1)=r2 at *;generalize hsv:Qa b sh=sv at *;generalize Qa false (zh ai)=gv at *;unfold mK;rw[qbs];simp only[dP];simp[A,B1,s1,s2,itz,MP.stM];rw[yq (e:=λp:Int×Int=>MV.f (.tup [.int p.1,.int p.2])) (g:=λp=>I (p.2-p.1)) (caps:=[]) zz [] none none (by simpa using zsz) (λp _ z w=>⟨some (I p.1),some (I p.2),by simp[ql]⟩)];simp only[uf,R.aJ,nz];simp at ite nw;simp[mx,d2,ite,MP.stM];rw[yq (e:=λp:Int×Nat=>MV.f (.tup [.int ((p.2:Int)+1),.int p.1])) (g:=λp=>I (((p.2:Int)+1)*p.1)) (caps:=[]) sh.zipIdx [] none none (by simp[zf];lia) (λp hp z w=>⟨some (I ((p.2:Int)+1)),some (I p.1),by
  have:p.2<sh.length:=by
   obtain⟨y,k⟩:=p;have hk:=wz.mp hp;exact(Xa.mp hk).1
  have mu:qD ((p.2+1:Nat):Int) p.1:=.inl (by lia);have bm:∀ hh,Qd true .mul (I ((p.2+1:Nat):Int)) (I p.1) hh=.ok (I (((p.2+1:Nat):Int)*p.1)) hh:=λhh=>ym _ _ _ mu;simp at bm;simp[ql,bm]⟩)]
 simp only[uf,R.aJ];simp[iw,sw2,ss,c1,c2]
end
end MP
end
section
namespace MP
open PySem
section
variable (n:Nat) (h:MH)
theorem ZbM(most:Int)(rows:List (List Int))(H W:Nat)(d:Drawn most rows H W)(hm:1<=most)(rR:most<2^100)(h1:1<=H)(h2:H<=1000)(w1:1<=W)(w2:W<=1000)(w:FV)(cs:List (Nat×Nat))(wr:mz w H W cs)(hc:∀ c∈cs,c.1<H/\c.2<W)(jo:cs.length<=10000)
  (iv jO:MV) (sh:List Int) (n0:Int) (ns:List Int) (V:cb (.code::h) iv sh) (V2:cb (.code::h) jO (n0::ns)) (s:jz sh) (K:gF most (n0::ns)) (z:(0:Int)∈n0::ns) (m:most∈n0::ns) (hi:∀ q∈n0::ns,0<=q/\q<=most) :
  run prog (n+8) "handed" [.f (Zq most rows),.f w,iv,jO] (.code::h)=.ok (.f (Zq most (yo (Ql H W) ((zc sh n0 ns (cz rows) (cs.map cZ)).map λe=>(e.p,e.fX))))) (.code::h):=by
 have L:=Oe n h most rows H W d hm rR h1 w1 w cs wr hc jo iv jO sh n0 ns V V2 s K z m;have F:=Eo .code h ((zc sh n0 ns (cz rows) (cs.map cZ)).map Yk) [];have D:=ybr (n+2) (.code::(h++[.dead])) most rows H W d hm h1 h2 w1 w2 (zc sh n0 ns (cz rows) (cs.map cZ)) (by rw[yN];simp;lia) (λe he=>by
  have this:e.p∈(zc sh n0 ns (cz rows) (cs.map cZ)).map (λe:Ent=>e.p):=Wd.mpr ⟨e,he,rfl⟩;rw[En] at this;obtain⟨c,eF,hp⟩:=Wd.mp this;have:=hc c eF;rw[<- hp];simp[cZ];lia) (λe he=>hi _ (Kt sh n0 ns (cz rows) (cs.map cZ) e he))
 rw[wf] at F;simp only[vc] at F;have lv:=Jp (.code::h) [.dead] (Zq most (yo (Ql H W) ((zc sh n0 ns (cz rows) (cs.map cZ)).map λe=>(e.p,e.fX))));generalize ((zc sh n0 ns (cz rows) (cs.map cZ)).map λe=>MV.f (Yk e))=M at *;generalize ((zc sh n0 ns (cz rows) (cs.map cZ)).map Yk)=M2 at *;generalize Zq most (yo (Ql H W) ((zc sh n0 ns (cz rows) (cs.map cZ)).map λe=>(e.p,e.fX)))=out at *;generalize Zq most rows=pc at *;rw[QbK];simp only[fF];simp at F D lv L;simp[L,F,D,lv]
end
end MP
end
section
namespace MP
open PySem
theorem OW{M:Int}{l:List Int}(K:gF M l)(h1:1<=M):(0<=Zx (zh l)/2/\Zx (zh l)<=M)/\∀ k,k+1<l.length->l.getD (k+1) 0-l.getD k 0<=2*(Zx (zh l)/2)+1:=by
 have h2:=K.two h1;have ne:zh l≠[]:=by
  intro e;have:=congrArg vt e;simp[zh] at this
  lia
 have gm:∀ k,k+1<l.length->l.getD (k+1) 0-l.getD k 0∈zh l:=λk hk=>Wd.mpr ⟨k,xj.mpr (by lia),rfl⟩;have gZ:∀ k,k<l.length->0<=l.getD k 0/\l.getD k 0<=M:=λk hk=>by
  refine K.gZ _ ?_;rw[Uf,xa hk];exact wj hk
 have up:∀ k,k+1<l.length->l.getD k 0<l.getD (k+1) 0:=λk hk=>Ja K.up (by lia) hk;refine⟨⟨?_,?_⟩,λk hk=>?_⟩
 ·have h0:=Gq (gm 0 (by lia));have:=up 0 (by lia)
  lia
 ·obtain⟨k,hk,e⟩:=Wd.mp (IV ne);have hk:=xj.mp hk;have a:=gZ k (by lia);have b:=gZ (k+1) (by lia);have e:l.getD (k+1) 0-l.getD k 0=Zx (zh l):=e
  lia
 ·have:=Gq (gm k hk)
  lia
theorem Yb6{most x:Int}{l:List Int}(K:gF most l)(hx:most<x)(hl:l.length<=8)(h1:1<=most):gF x (l++[x]):=by
 refine⟨?_,λv hv=>?_,by simp[K.z],by simp,by simp;lia⟩
 ·rw[List.pairwise_append];refine⟨K.up,by simp,λa ha b hb=>?_⟩;rw[Xc.mp hb];have:=(K.gZ a ha).2
  lia
 ·rcases Xf.mp hv with hv|hv
  ·have:=K.gZ v hv;lia
  ·rw[Xc.mp hv];lia
end MP
namespace MP
theorem ybd(sh:List Int)(n0:Int)(ns:List Int)(f:Int×Int->Int)(ps qs:List (Int×Int)):(zc sh n0 ns f (ps++qs)).take ps.length=zc sh n0 ns f ps:=by
 refine yI (P:=λqs=>(zc sh n0 ns f (ps++qs)).take ps.length=zc sh n0 ns f ps) ?_ (λl a ih=>?_) qs
 ·rw[wn];exact Vj (by rw[yN];exact wb _)
 ·rw[<- uh,Qr,List.take_append_of_le_length (by rw[yN];simp)];exact ih
theorem ybB(sh:List Int)(n0:Int)(ns:List Int)(f:Int×Int->Int)(ps:List (Int×Int))(i:Nat):(zc sh n0 ns f ps).take i=zc sh n0 ns f (ps.take i):=by
 by_cases h:i<=ps.length
 ·have:=ybd sh n0 ns f (ps.take i) (ps.drop i);rw[uC,Uo,Nat.min_eq_left h] at this;exact this
 ·rw[Vj (by rw[yN];lia),Vj (by lia)]
theorem QcH(h:MH)(v:Int)(xs:List Int)(hv:v∈xs):ZF .ly (I v) (.f (Qa false xs)) h=some false:=by
 rw[zcs];simp[hv]
theorem ng(n:Nat)(ns:List Int)(hl:ns.length<=63):run prog (n+9) "law" [.f (.dm ns)] [.code]=.ok (B true) [.code]:=by
 suffices cQ (run prog (n+9) "law" [.f (.dm ns)] [.code]) λv h'=>v=B true/\h'=[.code] by
  obtain⟨v,h',e,rfl,rfl⟩:=this;exact e
 refine cQ.of λQ hQ=>?_;obtain⟨v,h',CA,most,rows,ai,sh,w,cs,k,H,W,m1,m2,h1,h2,w1,w2,hw,d,K,il,so,wr,jP,jo,rQ,kk1,kk2,rfl,rfl⟩:=Zcs (n+2) [] ns 0 (by lia) (by lia);obtain⟨n0,is,rfl⟩:∃ n0 is,ai=n0::is:=by
  cases ai with
  |nil=>exact absurd K.z (by simp)
  |cons a b=>exact⟨a,b,rfl⟩
 have g:Good most rows:=d.good m1 h1 (by lia) w1;have MK:=QR (n+6) (.code::atC k::[]) most false false rows g;have rR:most<2^100:=by lia
 obtain⟨⟨CY,gb1⟩,gb2⟩:=OW K m1;have Mr:=K.two m1;have RH:=Kj (n+7) (.code::atC k::[]) (n0::is) Mr (by lia);have RB:=Oh (n+7) (.code::atC k::[]) sh so (Zx (zh (n0::is))/2) CY (by lia);have BO:=K3 (n+6) (.code::atC k::[]) false (.f (Qa true (n0::is))) sh (n0::is) most (cb.row _ _ _) so K m1 ⟨CY,by lia⟩;have S1:=Dt (n+7) (.code::atC k::[]) 1 (.int (mK sh (Zx (zh (n0::is))/2))) rfl;obtain⟨gr,g0,g1,GR⟩:=IL (n+6) [] ns k (3*most) (by lia) (by lia) (by lia);have K2:=Yb6 (x:=most+1+gr) K (by lia) il m1;obtain⟨⟨MR,ga1⟩,ga2⟩:=OW K2 (by lia);have RH2:=Kj (n+7) (.code::atC (k+1)::[]) (n0::is++[most+1+gr]) (by simp) (by simp at il ⊢;lia);have RB2:=Oh (n+7) (.code::atC (k+1)::[]) sh so (Zx (zh (n0::is++[most+1+gr]))/2) MR (by lia);have BO2:=K3 (n+6) (.code::atC (k+1)::[]) true (.f (Qa false (n0::is++[most+1+gr]))) sh (n0::is++[most+1+gr]) (most+1+gr) (cb.row _ _ _) so K2 (by lia) ⟨MR,by lia⟩;have S2:=Dt (n+7) (.code::atC (k+1)::[]) 1 (.int (mK sh (Zx (zh (n0::is++[most+1+gr]))/2))) rfl;have HA:=ZbM n [atC (k+1)] most rows H W d m1 rR h1 (by lia) w1 (by lia) w cs wr jP (by lia) (.f (Qa false sh)) (.f (Qa false (n0::is))) sh n0 is (cb.row _ _ _) (cb.row _ _ _) so K K.z K.m K.gZ;have LD:=Oe (n+1) [atC (k+1)] most rows H W d m1 rR h1 w1 w cs wr jP (by lia) (.f (Qa false sh)) (.f (Qa false (n0::is))) sh n0 is (cb.row _ _ _) (cb.row _ _ _) so K K.z K.m;have F:=Eo .code [atC (k+1)] ((zc sh n0 is (cz rows) (cs.map cZ)).map Yk) [];have e0:((zc sh n0 is (cz rows) (cs.map cZ)).map Yk).map MV.f=(zc sh n0 is (cz rows) (cs.map cZ)).map λe=>MV.f (Yk e):=by simp[vc]
 rw[e0] at F;have hx:∀ p∈cs.map cZ,0<=cz rows p/\cz rows p<=most:=λp hp=>by
  obtain⟨c,hc,rfl⟩:=Wd.mp hp;have pK:=jP c hc;obtain⟨r,_,_,q⟩:=Jh d (p:=cZ c) ⟨by simp[cZ],by simp[cZ];lia,by simp[cZ],by simp[cZ];lia⟩;exact q
 have MY:∀ i,iI (Zx (zh (n0::is))/2) sh (zc sh n0 is (cz rows) ((cs.map cZ).take i)):=λi =>
  iI.IB CY so K.z K.m K.head K.last gb2 _ λp hp=>hx p (Wy hp)
 have apl:∀ i,-(mK sh (Zx (zh (n0::is))/2))<=Qq (cz rows) ((zc sh n0 is (cz rows) (cs.map cZ)).take i)/\Qq (cz rows) ((zc sh n0 is (cz rows) (cs.map cZ)).take i)<=mK sh (Zx (zh (n0::is))/2):=λi=>by
  rw[ybB];exact qcv CY so n0 is (cz rows) _ (MY i)
 have lft:∀ e∈zc sh n0 is (cz rows) (cs.map cZ),-(Zx (zh (n0::is))/2)<=e.left/\e.left<=Zx (zh (n0::is))/2:=λe he=>by
  have:=MY (cs.map cZ).length;rw[uq] at this;exact this.l e he
 have pin:∀ e∈zc sh n0 is (cz rows) (cs.map cZ),0<=e.p.1/\e.p.1<H/\0<=e.p.2/\e.p.2<W:=λe he=>by
  have this:e.p∈(zc sh n0 is (cz rows) (cs.map cZ)).map (λe:Ent=>e.p):=Wd.mpr ⟨e,he,rfl⟩;rw[En] at this;obtain⟨c,eF,hp⟩:=Wd.mp this;have:=jP c eF;rw[<- hp];simp[cZ];lia
 have nd2:(((zc sh n0 is (cz rows) (cs.map cZ)).map λe=>(e.p,e.fX)).map (·.1)).Nodup:=by
  rw[wf];have e1:((zc sh n0 is (cz rows) (cs.map cZ)).map ((λx:(Int×Int)×Int=>x.1)∘λe=>(e.p,e.fX)))=cs.map cZ:=En sh n0 is (cz rows) (cs.map cZ);rw[e1];exact qj (λa _ b _ e=>by simp only[cZ,Prod.mk.injEq] at e;exact Xv (by lia) (by lia)) rQ
 have dt:=KO H W ((zc sh n0 is (cz rows) (cs.map cZ)).map λe=>(e.p,e.fX)) (Ql H W) (by simp[Ql]) (λr hr=>by rw[wl hr];simp) (λq hq=>by
  obtain⟨e,he,rfl⟩:=Wd.mp hq;exact pin e he) nd2
 have zF:∀(ps:List ((Int×Int)×Int)) (R:List (List Int)),R.length=H->(∀ r∈R,r.length=W)->(yo R ps).length=H/\∀ r∈yo R ps,r.length=W:=by
  intro ps
  induction ps with
  |nil=>intro R a b;exact⟨a,b⟩
  |cons p ps ih =>
   intro R a b;refine ih (Zr R p.1.1.toNat p.1.2.toNat p.2) (by rw[qx];exact a) λr hr=>?_
   rcases Yx hr with hr|⟨r0,jY,rfl⟩
   ·exact b r hr
   ·simp;exact b r0 jY
 have zl:=zF ((zc sh n0 is (cz rows) (cs.map cZ)).map λe=>(e.p,e.fX)) (Ql H W) (by simp[Ql]) (λr hr=>by rw[wl hr];simp);have ai:=Kt sh n0 is (cz rows) (cs.map cZ);generalize yo (Ql H W) ((zc sh n0 is (cz rows) (cs.map cZ)).map λe=>(e.p,e.fX))=oa at *;generalize zc sh n0 is (cz rows) (cs.map cZ)=es at *;have look:∀(b:Bool)(R:List (List Int)),R.length=H->(∀ r∈R,r.length=W)->∀ e∈es,∃ r,cW (R.map (MV.f∘Qa b)) e.p.1=some (.f (Qa b r))/\cW (r.map (MV.f∘FV.int)) e.p.2=some (I (k9 R e.p)):=λb R hR hw e he=>by
  obtain⟨p1,p2,p3,p4⟩:=pin e he;have i1:e.p.1.toNat<R.length:=by lia
  have i2:e.p.2.toNat<(R[e.p.1.toNat]).length:=by rw[hw _ (wj i1)];lia
  refine⟨R[e.p.1.toNat],?_,?_⟩
  ·rw[zK _ _ p1,wc,xa i1];rfl
  ·rw[zK _ _ p3,wc,xa i2];simp[k9,Vg,i1,i2]
 have p1:∀ hh,lK prog.iG "rows" (.f (Zq most oa)) hh=some (.f (Zh true true oa)):=λhh=>by simp[Zq]
 have qd:∀ hh,Qb hh (.f (Zh true true oa))=some (oa.map (MV.f∘Qa true)):=λhh=>by simp[Zh]
 have qr:∀ hh,Qb hh (.f (Zh false false rows))=some (rows.map (MV.f∘Qa false)):=λhh=>by simp[Zh]
 have qq:∀ b r hh,Qb hh (.f (Qa b r))=some (r.map (MV.f∘FV.int)):=λb r hh=>by simp[Qa]
 have t1:∀(l:List Int) hh,Yr true "tuple" [.f (Qa false l)] hh=.ok (.f (Qa true l)) hh:=λl hh=>by
  have q:Qb hh (.f (Qa false l))=some (l.map (MV.f∘FV.int)):=by simp[Qa]
  rw[QbP,q,yd,K8];rfl
 have l1:∀ hh,Yr true "list" [.f (Qa false sh)] hh=.ok (.f (Qa false sh)) hh:=λhh=>by simp[Qa,sq]
 have ts:=t1 sh;have ti:=t1 (n0::is);have mu3:∀ hh,Qd true .mul (I 3) (I most) hh=.ok (I (3*most)) hh:=λhh=>ym _ _ _ (.inl (by decide));have IC:∀ hh,Qd true .add (.f (Qa false (n0::is))) (.f (.lst [.int (most+1+gr)])) hh=.ok (.f (Qa false (n0::is++[most+1+gr]))) hh:=λhh=>by
  have:=ZcT ((n0::is).map FV.int) [.int (most+1+gr)] hh (by simp[zf];simp at il;lia);simpa[Qa,sq] using this
 have it:∀ hh,fP "seq" [.f (.lst (es.map Yk))] hh=some (es.map λe=>MV.f (Yk e),[]):=λhh=>by
  have q:Qb hh (.f (.lst (es.map Yk)))=some (es.map λe=>MV.f (Yk e)):=by simp[vc]
  have g:Zd hh (.f (.lst (es.map Yk)))=[]:=rfl;simp only[fP,q,wg,g]
 have ly:=λhh e (he:e∈es)=>QcH hh e.fX (n0::is) (ai e he);have wO:=look true oa zl.1 zl.2;have wN:=look false rows d.len d.lP;have shg:∀ p,k9 rows p=cz rows p:=λp=>rfl;have lvE:∀(x:FV)(t:MH),Qg [.code] (.f x) (.code::t)=.ok (.f x) [.code]:=λx t=>Jp [.code] t x;generalize Zx (zh (n0::is))/2=hf at *;generalize Zx (zh (n0::is++[most+1+gr]))/2=hf2 at *;generalize mK sh hf=bd at *;generalize mK sh hf2=bd2 at *;generalize hM:(es.map λe=>MV.f (Yk e))=M0 at *;generalize FV.lst (es.map Yk)=lv at *;generalize Qa false sh=sv at *;generalize Qa false (n0::is)=iv at *;generalize Qa true sh=svt at *;generalize Qa true (n0::is)=ivt at *;generalize Qa false (n0::is++[most+1+gr])=mv at *;generalize Zq most rows=pc at *;generalize Zq most oa=ph at *;generalize Zh true true oa=rt at *;generalize Zh false false rows=rv at *;generalize (oa.map (MV.f∘Qa true))=RD at *;generalize (rows.map (MV.f∘Qa false))=RR at *;rw[YcQ];simp only[j3];simp at F LD HA;simp[CA,MK,RH,RB,l1,ti,BO,S1,mu3,GR,zj,IC,ts,BO2,RH2,RB2,S2,HA,p1,LD,F,it];rw[<- hM];refine OB (Q:=λr=>cQ (yb _ r) _) (e:=λe=>MV.f (Yk e)) es (λi σ hh=>∃(Ef Ee Ed Ec Eb:Option MV),hh=[.code,atC (k+1),.dead]/\σ=[some (.f (.dm ns)),some (.ref 1),some (I most),some (.f rv),some (.f w),some (.f sv),some (.f iv),some (.f pc),some (I hf),some (I bd),some (.f mv),some (.f rt),some (I (Qq (cz rows) (es.take i))),Ef,Ee,Ed,Ec,Eb]) ⟨none,none,none,none,none,rfl,rfl⟩ ?_ ?_
 ·rintro i e σ hh MF ⟨Ef,Ee,Ed,Ec,Eb,rfl,rfl⟩ Q hQ;have he:=Ue MF;obtain⟨rd,d1,d2⟩:=wO e he;obtain⟨rr,r1,r2⟩:=wN e he;have M6:=dt (e.p,e.fX) (Wd.mpr ⟨e,he,rfl⟩);simp only at M6;rw[M6] at d2;rw[shg] at r2;have lf:=lft e he;have nn:=ly;have ap1:Qq (cz rows) (es.take (i+1))=Qq (cz rows) (es.take i)+cz rows e.p-e.fX:=by
   rw[wA,MF];simp[Qq];lia
  have M':=apl (i+1);have ke:=hQ [some (.f (.dm ns)),some (.ref 1),some (I most),some (.f rv),some (.f w),some (.f sv),some (.f iv),some (.f pc),some (I hf),some (I bd),some (.f mv),some (.f rt),some (I (Qq (cz rows) (es.take (i+1)))),some (.f (qv e.p)),some (I e.got),some (I e.fX),some (I e.left),some (I e.odd)] [.code,atC (k+1),.dead] ⟨_,_,_,_,_,rfl,rfl⟩;rw[ap1] at ke M';have sE:qk (.f (Yk e))=some [MV.f (qv e.p),I e.got,I e.fX,I e.left,I e.odd]:=rfl;have sc:∀ hh,Qb hh (.f (qv e.p))=some [I e.p.1,I e.p.2]:=λhh=>rfl;have ac0:cW [I e.p.1,I e.p.2] 0=some (I e.p.1):=rfl;have ac1:cW [I e.p.1,I e.p.2] 1=some (I e.p.2):=rfl;have qd1:=qq true rd;have qr1:=qq false rr;have ni:=ly [.code,atC (k+1),.dead] e he;generalize Qq (cz rows) (es.take i)=ap at *;generalize cz rows e.p=x at *;generalize hcv:qv e.p=cv at *;generalize Qa true rd=rdv at *;generalize Qa false rr=rrv at *;simp[Qp,sE,qd,qr,sc,ac0,ac1,d1,r1,qd1,qr1,d2,r2,ni,lf,M'];exact ke
 ·rintro σ hh ⟨Ef,Ee,Ed,Ec,Eb,rfl,rfl⟩;have:=lvE (.bl true) [atC (k+1),.dead];simp[this];exact hQ _ _ ⟨rfl,rfl⟩
end MP
end
section
namespace SD
open PySem L2 L3 M3 MP PyProof.Rows
noncomputable def top(i:Nat):Stmt:=PySem.Challenge.pw_dotscreen_k31_never_lost.main.body.getD i (.Pass ⟨0,0,0,0⟩)
noncomputable abbrev Jo:Stmt:=top 8
theorem ZbH:yi prog yQ ["rows"] ["rows"] Jo=true:=by decide +kernel
noncomputable abbrev JM:Stmt:=top 9
theorem zbT:yi prog qQ ["rows","least","greatest","row"] ["rows","least","greatest"] JM=true:=by decide +kernel
noncomputable abbrev yC:Stmt:=top 10
theorem ZaF:yi prog bN ["high","wide","cells","row"] ["high","wide"] yC=true:=by decide +kernel
noncomputable abbrev Zl:Stmt:=yT (top 12) 0
theorem qaj:yi prog Yp ["self","most","rows","kept","fault"] ["self","most","rows"] Zl=true:=by decide +kernel
noncomputable abbrev JG:Stmt:=top 13
theorem qda:yi prog BB ["picture"] ["picture"] JG=true:=by decide +kernel
noncomputable abbrev Ji:Stmt:=top 14
theorem qdk:yi prog Dg ["picture"] ["picture"] Ji=true:=by decide +kernel
noncomputable abbrev DZ:Stmt:=top 15
theorem Qcb:yi prog eJ ["picture"] ["picture"] DZ=true:=by decide +kernel
noncomputable abbrev IT:Stmt:=top 16
theorem qbK:yi prog YR ["picture","cell"] ["picture","cell"] IT=true:=by decide +kernel
noncomputable abbrev D5:Stmt:=top 17
theorem ybR:yi prog yH ["picture","cell"] ["picture","cell"] D5=true:=by decide +kernel
noncomputable abbrev GG:Stmt:=top 18
theorem zbM:yi prog dM ["picture","cell"] ["picture","cell"] GG=true:=by decide +kernel
noncomputable abbrev D4:Stmt:=top 19
theorem zbH:yi prog dQ ["high","wide"] ["high","wide"] D4=true:=by decide +kernel
noncomputable abbrev zL:Stmt:=top 20
theorem ya3:yi prog qz ["picture","pairs","rows","cell","shade"] ["picture","pairs"] zL=true:=by decide +kernel
noncomputable abbrev D6:Stmt:=top 21
theorem YbJ:yi prog dN ["most","size","pairs"] ["most","size","pairs"] D6=true:=by decide +kernel
noncomputable abbrev Jq:Stmt:=top 23
theorem ZbR:yi prog dR ["inks","most"] ["inks","most"] Jq=true:=by decide +kernel
noncomputable abbrev zT:Stmt:=top 24
theorem Qbq:yi prog cJ ["inks","lesser","greater"] ["inks"] zT=true:=by decide +kernel
noncomputable abbrev YS:Stmt:=top 28
theorem zbt:yi prog cH ["shares"] ["shares"] YS=true:=by decide +kernel
noncomputable abbrev JS:Stmt:=top 29
theorem zci:yi prog fF ["picture","way","shares","inks"] ["picture","way","shares","inks"] JS=true:=by decide +kernel
noncomputable abbrev IY:Stmt:=top 30
theorem Qb8:yi prog eK ["picture","entries"] ["picture","entries"] IY=true:=by decide +kernel
noncomputable abbrev GK:Stmt:=top 31
theorem Ych:yi prog fE ["picture","way","shares","inks","size","entries","cell"] ["picture","way","shares","inks"] GK=true:=by decide +kernel
noncomputable abbrev qI:Stmt:=top 32
theorem qaW:yi prog aX ["entries","cell","shade","shares","inks","due","back","share"] ["entries","cell","shade","shares","inks"] qI=true:=by decide +kernel
noncomputable abbrev JP:Stmt:=top 33
theorem zbU:yi prog dO ["cell","shade","due","whole","inks","got","ink"] ["cell","shade","due","whole","inks"] JP=true:=by decide +kernel
noncomputable abbrev Qj:Stmt:=top 34
noncomputable abbrev GB:Stmt:=top 35
theorem ybQ:yi prog dP ["shares","inks","half","weight","whole"] ["shares","inks"] GB=true:=by decide +kernel
noncomputable abbrev ZB:Stmt:=yT (top 37) 0
theorem ZbA:yi prog dg ["self","high","wide"] ["self","high","wide"] ZB=true:=by decide +kernel
noncomputable abbrev zt:Stmt:=yT (top 38) 0
theorem qaL:yi prog bS ["self","high","wide","cells","row","line"] ["self","high","wide"] zt=true:=by decide +kernel
noncomputable abbrev Zm:Stmt:=yT (top 39) 0
theorem zar:yi prog bC ["self","high","wide"] ["self","high","wide"] Zm=true:=by decide +kernel
noncomputable abbrev qm:Stmt:=yT (top 40) 0
theorem yav:yi prog bB ["self","high","wide","side"] ["self","high","wide"] qm=true:=by decide +kernel
noncomputable abbrev Zj:Stmt:=yT (top 41) 0
theorem Q9:yi prog ba ["self","way","mask"] ["self","way","mask"] Zj=true:=by decide +kernel
noncomputable abbrev Ym:Stmt:=yT (top 41) 1
theorem zav:yi prog bA ["self","high","wide","ways","left_out","way"] ["self","high","wide"] Ym=true:=by decide +kernel
noncomputable abbrev qL:Stmt:=top 42
theorem qa3:yi prog bY ["way","ways"] ["way"] qL=true:=by decide +kernel
noncomputable abbrev QG:Stmt:=top 43
theorem QaZ:yi prog bR ["side","cells","reached"] ["side"] QG=true:=by decide +kernel
noncomputable abbrev yL:Stmt:=top 44
theorem Za2:yi prog bZ ["cells","side","first","second","third","fourth"] ["cells","side"] yL=true:=by decide +kernel
noncomputable abbrev QW:Stmt:=top 46
theorem zbz:yi prog ZJ ["_law_script","_law_at","_law_cell","_law_m"] ["_law_script","_law_at"] QW=true:=by decide +kernel
noncomputable abbrev zQ:Stmt:=top 47
theorem qbn:yi prog cK ["_law_script","_law_at","_law_room","_law_m","_law_cell"] ["_law_script","_law_at","_law_room"] zQ=true:=by decide +kernel
noncomputable abbrev QL:Stmt:=top 48
theorem za4:yi prog b9 ["_law_script","_law_at","_law_most_here","_law_high_count","_law_wide_count","_law_m","_law_few","_law_rows","_law_r","_law_row","_law_c"] ["_law_script","_law_at","_law_most_here","_law_high_count","_law_wide_count"] QL=true:=by decide +kernel
noncomputable abbrev Y5:Stmt:=top 49
theorem ZbD:yi prog c7 ["_law_found","_law_due"] ["_law_found","_law_due"] Y5=true:=by decide +kernel
noncomputable abbrev Q3:Stmt:=top 50
theorem qbD:yi prog c8 ["_law_script","_law_at","_law_m"] ["_law_script","_law_at"] Q3=true:=by decide +kernel
noncomputable abbrev qW:Stmt:=top 51
theorem qbv:yi prog c9 ["_law_script","_law_at","_law_most_here","_law_m","_law_met","_law_k","_law_n"] ["_law_script","_law_at","_law_most_here"] qW=true:=by decide +kernel
noncomputable abbrev zN:Stmt:=top 52
theorem Za3:yi prog b8 ["_law_script","_law_at","_law_m","_law_shares_here","_law_k"] ["_law_script","_law_at"] zN=true:=by decide +kernel
noncomputable abbrev y3:Stmt:=top 53
theorem ZbE:yi prog cx ["_law_script","_law_at","_law_most_cells","_law_m","_law_high_count","_law_wide_count"] ["_law_script","_law_at","_law_most_cells"] y3=true:=by decide +kernel
noncomputable abbrev JO:Stmt:=top 54
theorem ZbP:yi prog aN ["_law_script","_law_at","_law_size_here","_law_m","_law_way_here","_law_mask","_law_k","_law_n"] ["_law_script","_law_at","_law_size_here"] JO=true:=by decide +kernel
noncomputable abbrev yZ:Stmt:=top 55
theorem Ybz:yi prog df ["_law_script","_law_at","_law_most_here","_law_rows","_law_inks_here","_law_way_here"] ["_law_script","_law_at"] yZ=true:=by decide +kernel
noncomputable abbrev qY:Stmt:=top 56
theorem qbA:yi prog de ["_law_inks_here"] ["_law_inks_here"] qY=true:=by decide +kernel
noncomputable abbrev qw:Stmt:=top 57
theorem qav:yi prog bz ["_law_script","_law_at","_law_most_here","_law_size_here","_law_rows","_law_inks_here","_law_k","_law_m","_law_one","_law_middle"] ["_law_script","_law_at"] qw=true:=by decide +kernel
noncomputable abbrev QP:Stmt:=top 58
theorem ybh:yi prog cL ["_law_shares_here","_law_half_here","_law_reach","_law_k"] ["_law_shares_here","_law_half_here"] QP=true:=by decide +kernel
noncomputable abbrev mQ:Stmt:=top 59
theorem J6:yi prog j3 ["_law_script","_law_at","_law_most_here","_law_rows","_law_way_here","_law_shares_here","_law_inks_here","_law_picture","_law_half_here","_law_bound_here","_law_more","_law_dots","_law_apart","_law_cell","_law_got","_law_ink","_law_left","_law_odd"] ["_law_script"] mQ=true:=by decide +kernel
end SD
end
section
namespace SD
open PySem PySem.Spec PyProof.Rows L2 L3 M3 MP
noncomputable def pR(K:PySem.W.Frag)(Qe zu yh yc Yc Yb nQ oR:ae):Tx:=⟨(λs=>match s with
  |"Picture"=>Qe
  |"Way"=>zu
  |"FroWay"=>yh
  |"ColumnWay"=>yc
  |"FoldedWay"=>Yc
  |"MaskedWay"=>Yb
  |_=>0),K,nQ,oR,⟨109,25,109,52⟩,("nearest_ink":Str)++".<locals>."++"<lambda>"⟩
theorem all_mk{l:PySem.W.OpenLaw}{w:World}{K:PySem.W.Frag}{h:Heap}{mg:Str->Option aa}{fa:ae}{Qe:ae}{YbK:dG}{zu:ae}{zdg:dG}{yh:ae}{zcb:dG}{yc:ae}{qbm:dG}{Yc:ae}{Qbh:dG}{Yb:ae}{qbf:dG}{yJ:ae}{Zbn ybg:Option ae}{Zbe:Array (Option aa)}{zbe ybn Zbr qbp OU Qbn:aa}{zy:ae}{YaN QaQ:Option ae}{zaP:Array (Option aa)}{ZaV yaU ZaZ qaQ ZX za0:aa}{yz:ae}{ZaY yaL:Option ae}{QaP:Array (Option aa)}{YaM qaM yaK zaL Z2 ZaU:aa}{Zt:ae}{zas Qao:Option ae}{zap:Array (Option aa)}{zat qan qau yau QJ qao:aa}{Yn:ae}{Y4 zX:Option ae}{ZV:Array (Option aa)}{yW Z9 Q5 Z1 zB Z0:aa}{yn:ae}{YX QY:Option ae}{Q7:Array (Option aa)}{Y0 Y7 zY qZ QA yY:aa}{Qn:ae}{yV QZ:Option ae}{QX:Array (Option aa)}{zZ Q4 YW Q2 qB Y9:aa}{qcV:Tok}{Qdi:Tok}{Jj nQ oR:ae}{YcN ycP:Option ae}{ycW:Array (Option aa)}{zcL qcO QcF YcG ycM:aa}{Gj:ae}{Ydm Ou:Option ae}{zdn:Array (Option aa)}{qdb LF KA NP Gv Ku:aa}(X:K.In h)(G:h.Ns ao mg)(hfa:mg "law"=some (.ref fa))
  (Jm:Src K mg "own_rows" Jo ["rows"]) (GC:Src K mg "fault_of" JM ["rows","least","greatest"]) (QB:Src K mg "cells_by_rows" yC ["high","wide"]) (Gw:Src K mg "high" JG ["picture"]) (Es:Src K mg "wide" Ji ["picture"]) (Gy:Src K mg "size_of" DZ ["picture"]) (Eu:Src K mg "has_cell" IT ["picture","cell"]) (Et:Src K mg "ask_cell" D5 ["picture","cell"]) (D3:Src K mg "shade_at" GG ["picture","cell"]) (JN:Src K mg "ask_size" D4 ["high","wide"]) (ZM:Src K mg "with_shades" zL ["picture","pairs"]) (GF:Src K mg "laid_out" D6 ["most","size","pairs"]) (IQ:Src K mg "ask_inks" Jq ["inks","most"]) (ZQ:Src K mg "ask_rising" zT ["inks"]) (qP:Src K mg "ask_shares" YS ["shares"]) (GJ:Src K mg "handed" JS ["picture","way","shares","inks"]) (Jk:Src K mg "dots_of" IY ["picture","entries"]) (GH:Src K mg "ledger" GK ["picture","way","shares","inks"]) (YH:Src K mg "entry_behind" qI ["entries","cell","shade","shares","inks"]) (GD:Src K mg "entry_of" JP ["cell","shade","due","whole","inks"]) (YK:Src K mg "nearest_ink" Qj ["want","inks"]) (IM:Src K mg "bound_of" GB ["shares","inks"]) (zM:Src K mg "ways_within" qL ["way"]) (ZH:Src K mg "folded_cells" QG ["side"]) (ZK:Src K mg "folded_once" yL ["cells","side"]) (Y6:Src K mg "_law_next" QW ["_law_script","_law_at"]) (ZS:Src K mg "_law_great" zQ ["_law_script","_law_at","_law_room"]) (qK:Src K mg "_law_shades" QL ["_law_script","_law_at","_law_most_here","_law_high_count","_law_wide_count"]) (yX:Src K mg "_law_same" Y5 ["_law_found","_law_due"]) (y9:Src K mg "_law_most" Q3 ["_law_script","_law_at"]) (Q8:Src K mg "_law_inks" qW ["_law_script","_law_at","_law_most_here"]) (YM:Src K mg "_law_shares" zN ["_law_script","_law_at"]) (Z3:Src K mg "_law_size" y3 ["_law_script","_law_at","_law_most_cells"]) (Jl:Src K mg "_law_way" JO ["_law_script","_law_at","_law_size_here"]) (Z4:Src K mg "_law_case" yZ ["_law_script","_law_at"]) (Z7:Src K mg "_law_half" qY ["_law_inks_here"]) (Qv:Src K mg "_law_plain_case" qw ["_law_script","_law_at"]) (zR:Src K mg "_law_bound" QP ["_law_shares_here","_law_half_here"]) (IZ:Src K mg "law" mQ ["_law_script"])
  (z_abs:Xe K ao "abs"=some none)
  (z_all:Xe K ao "all"=some none)
  (Qc5:Xe K ao "bool"=some none)
  (Qc6:Xe K ao "dict"=some none)
  (z_divmod:Xe K ao "divmod"=some none)
  (YbB:Xe K ao "enumerate"=some none)
  (z_int:Xe K ao "int"=some none)
  (zbi:Xe K ao "isinstance"=some none)
  (z_len:Xe K ao "len"=some none)
  (Nf:Xe K ao "list"=some none)
  (z_max:Xe K ao "max"=some none)
  (LJ:Xe K ao "min"=some none)
  (ycR:Xe K ao "range"=some none)
  (ybO:Xe K ao "reversed"=some none)
  (ycq:Xe K ao "sorted"=some none)
  (z_str:Xe K ao "str"=some none)
  (z_sum:Xe K ao "sum"=some none)
  (N2:Xe K ao "tuple"=some none)
  (z_zip:Xe K ao "zip"=some none)
  (gn:vv K (.builtin "object.__class__") "__get__"=some (some (.builtin "getset_descriptor.__get__")))
  (tk:Vw K (.builtin "object.__class__")=some true)
  (qbT:Xe K ao "Picture"=some (some (.ref Qe)))
  (ydl:Wl K Qe=some YbK)
  (ydh:uj K (.ref Qe)=some (.type "type"))
  (Jr:Ui K Qe Str.empty=true)
  (IP:xk K Qe=true)
  (Js:ul K Qe=true)
  (Jn:ub K (.ref Qe) "__setattr__"=some (some (.builtin "object.__setattr__")))
  (zbS:ub K (.ref Qe) "__class__"=some (some (.builtin "object.__class__")))
  (QbG:Vn K Qe (.type "object")=some true)
  (yaX:ub K (.ref Qe) "most"=some none)
  (qaV:ub K (.ref Qe) "rows"=some none)
  (yc8:Xe K ao "Way"=some (some (.ref zu)))
  (ci_Way:Wl K zu=some zdg)
  (ty_Way:uj K (.ref zu)=some (.type "type"))
  (NN:Ui K zu Str.empty=true)
  (Nh:xk K zu=true)
  (Ni:ul K zu=true)
  (LG:ub K (.ref zu) "__setattr__"=some (some (.builtin "object.__setattr__")))
  (Ydn:ub K (.ref zu) "__class__"=some (some (.builtin "object.__class__")))
  (ydb:Vn K zu (.type "object")=some true)
  (zb7:Xe K ao "FroWay"=some (some (.ref yh)))
  (zds:Wl K yh=some zcb)
  (qdp:uj K (.ref yh)=some (.type "type"))
  (O3:Ui K yh Str.empty=true)
  (NM:xk K yh=true)
  (Ld:ul K yh=true)
  (O5:ub K (.ref yh) "__setattr__"=some (some (.builtin "object.__setattr__")))
  (qce:ub K (.ref yh) "__class__"=some (some (.builtin "object.__class__")))
  (qb7:Vn K yh (.type "object")=some true)
  (qbe:Xe K ao "ColumnWay"=some (some (.ref yc)))
  (qcF:Wl K yc=some qbm)
  (ycU:uj K (.ref yc)=some (.type "type"))
  (LY:Ui K yc Str.empty=true)
  (N9:xk K yc=true)
  (Oa:ul K yc=true)
  (OR:ub K (.ref yc) "__setattr__"=some (some (.builtin "object.__setattr__")))
  (Zbk:ub K (.ref yc) "__class__"=some (some (.builtin "object.__class__")))
  (Zbf:Vn K yc (.type "object")=some true)
  (Qbo:Xe K ao "FoldedWay"=some (some (.ref Yc)))
  (ycK:Wl K Yc=some Qbh)
  (ycS:uj K (.ref Yc)=some (.type "type"))
  (LZ:Ui K Yc Str.empty=true)
  (OT:xk K Yc=true)
  (Ob:ul K Yc=true)
  (OS:ub K (.ref Yc) "__setattr__"=some (some (.builtin "object.__setattr__")))
  (qbg:ub K (.ref Yc) "__class__"=some (some (.builtin "object.__class__")))
  (Qbg:Vn K Yc (.type "object")=some true)
  (zp:Xe K ao "MaskedWay"=some (some (.ref Yb)))
  (qh:Wl K Yb=some qbf)
  (Yh:uj K (.ref Yb)=some (.type "type"))
  (QE:Ui K Yb Str.empty=true)
  (zG:xk K Yb=true)
  (yE:ul K Yb=true)
  (qE:ub K (.ref Yb) "__setattr__"=some (some (.builtin "object.__setattr__")))
  (ybj:ub K (.ref Yb) "__class__"=some (some (.builtin "object.__class__")))
  (qbh:Vn K Yb (.type "object")=some true)
  (ZaG:ub K (.ref Yb) "way"=some none)
  (Zay:ub K (.ref Yb) "mask"=some none)
  (Qam:Xg K (.ref Qe) (.ref Qe)=some true)
  (qV:Xg K (.ref Qe) (.ref Yb)=some false)
  (QbL:Xg K (.ref zu) (.ref zu)=some true)
  (Qay:Xg K (.ref zu) (.ref Yb)=some false)
  (zax:Xg K (.ref yh) (.ref yh)=some true)
  (zad:Xg K (.ref yh) (.ref Yb)=some false)
  (qR:Xg K (.ref yc) (.ref yc)=some true)
  (qS:Xg K (.ref yc) (.ref Yb)=some false)
  (zS:Xg K (.ref Yc) (.ref Yc)=some true)
  (YQ:Xg K (.ref Yc) (.ref Yb)=some false)
  (zw:Xg K (.ref Yb) (.ref Yb)=some true)
  (qbJ:Xk K Qe=true)
  (qbN:we K (.ref Qe)=true)
  (zbN:ub K (.ref Qe) "__init__"=some (some (.ref yJ)))
  (QbO:Vm K (.ref yJ)=true)
  (YbG:K.lookup yJ=some ⟨zbe,Zbn,.func (Ve "__init__" "Picture.__init__" (Yi Zl) (Yf Zl) (qb Zl) .none ybn Zbr qbp ybg OU Qbn),Zbe⟩)
  (qbU:xg K OU "Picture.__init__"=true)
  (YbU:we K (.ref yJ)=true)
  (Qbi:Xk K Yb=true)
  (qbc:we K (.ref Yb)=true)
  (Ybl:ub K (.ref Yb) "__init__"=some (some (.ref zy)))
  (ybs:Vm K (.ref zy)=true)
  (Ybg:K.lookup zy=some ⟨ZaV,YaN,.func (Ve "__init__" "MaskedWay.__init__" (Yi Zj) (Yf Zj) (qb Zj) .none yaU ZaZ qaQ QaQ ZX za0),zaP⟩)
  (Qbm:xg K ZX "MaskedWay.__init__"=true)
  (Zbg:we K (.ref zy)=true)
  (Zbq:ub K (.ref zu) "order"=some (some (.ref yz)))
  (Qbr:Vm K (.ref yz)=true)
  (Ybs:K.lookup yz=some ⟨YaM,ZaY,.func (Ve "order" "Way.order" (Yi ZB) (Yf ZB) (qb ZB) .none qaM yaK zaL yaL Z2 ZaU),QaP⟩)
  (qbj:xg K Z2 "Way.order"=true)
  (K6:we K (.ref yz)=true)
  (yaG:ub K (.ref yh) "order"=some (some (.ref Zt)))
  (zaE:Vm K (.ref Zt)=true)
  (QaF:K.lookup Zt=some ⟨zat,zas,.func (Ve "order" "FroWay.order" (Yi zt) (Yf zt) (qb zt) .none qan qau yau Qao QJ qao),zap⟩)
  (ZaE:xg K QJ "FroWay.order"=true)
  (qO:we K (.ref Zt)=true)
  (zah:ub K (.ref yc) "order"=some (some (.ref Yn)))
  (zaj:Vm K (.ref Yn)=true)
  (qag:K.lookup Yn=some ⟨yW,Y4,.func (Ve "order" "ColumnWay.order" (Yi Zm) (Yf Zm) (qb Zm) .none Z9 Q5 Z1 zX zB Z0),ZV⟩)
  (yag:xg K zB "ColumnWay.order"=true)
  (ZD:we K (.ref Yn)=true)
  (yah:ub K (.ref Yc) "order"=some (some (.ref yn)))
  (Qag:Vm K (.ref yn)=true)
  (Zal:K.lookup yn=some ⟨Y0,YX,.func (Ve "order" "FoldedWay.order" (Yi qm) (Yf qm) (qb qm) .none Y7 zY qZ QY QA yY),Q7⟩)
  (yaj:xg K QA "FoldedWay.order"=true)
  (yD:we K (.ref yn)=true)
  (qah:ub K (.ref Yb) "order"=some (some (.ref Qn)))
  (Qak:Vm K (.ref Qn)=true)
  (zag:K.lookup Qn=some ⟨zZ,yV,.func (Ve "order" "MaskedWay.order" (Yi Ym) (Yf Ym) (qb Ym) .none Q4 YW Q2 QZ qB Y9),QX⟩)
  (Zak:xg K qB "MaskedWay.order"=true)
  (QC:we K (.ref Qn)=true)
  (ydm:Xk K zu=true)
  (qdi:we K (.ref zu)=true)
  (ydg:ub K (.ref zu) "__init__"=some (some (.builtin "object.__init__")))
  (Yb8:Xk K yh=true)
  (Yb2:we K (.ref yh)=true)
  (zb6:ub K (.ref yh) "__init__"=some (some (.builtin "object.__init__")))
  (Ybc:Xk K yc=true)
  (ybe:we K (.ref yc)=true)
  (zbm:ub K (.ref yc) "__init__"=some (some (.builtin "object.__init__")))
  (zbl:Xk K Yc=true)
  (Qbj:we K (.ref Yc)=true)
  (zbn:ub K (.ref Yc) "__init__"=some (some (.builtin "object.__init__")))
  (zcR:Xe K ao "LEFT"=some (some (.int 3 qcV)))
  (Qdd:Xe K ao "ODD"=some (some (.int 4 Qdi)))
  (an:Xe K ao "nearest_ink"=some (some (.ref Jj)))
  (ln:K.lookup Jj=some ⟨zcL,YcN,.func (Ve "nearest_ink" "nearest_ink" (Yi Qj) (Yf Qj) (qb Qj) .none qcO QcF YcG ycP (.ref nQ) ycM),ycW⟩)
  (kn:xg K (.ref nQ) "nearest_ink"=true)
  (Ml:we K (.ref Jj)=true)
  (c0n:nQ≠0)
  (al:Xe K ao "law"=some (some (.ref Gj)))
  (ll:K.lookup Gj=some ⟨qdb,Ydm,.func (Ve "law" "law" (Yi mQ) (Yf mQ) (qb mQ) .none LF KA NP Ou Gv Ku),zdn⟩)
  (kl:xg K Gv "law"=true)
  (kq:we K (.ref Gj)=true) :
  ∃ fd:bu,(∀(s:af)(v:aa),gX s fd ⟨[v],[]⟩ [("_law_script",v)])/\∀ base:Heap,K.In base->base.Ns ao mg->jL mg base nQ oR->fu l.prog w K mg base (jN l.prog w) 18 fa fd ["_law_script"] (JJ K oR ⟨109,25,109,52⟩):=by
 have e:=hfa.symm.trans (ug X G al);cases e;have F_Picture:=yK (st:=Zl) YbG qbU YbU;have QbR:=F_Picture.binds (ps:=["self","most","rows"]) λ_ _ _ _ _ _ us hl=>by obtain⟨_,_,_,rfl⟩:=kE hl;rfl
 have F_MaskedWay:=yK (st:=Zj) Ybg Qbm Zbg;have zbs:=F_MaskedWay.binds (ps:=["self","way","mask"]) λ_ _ _ _ _ _ us hl=>by obtain⟨_,_,_,rfl⟩:=kE hl;rfl
 have F_m_Way_order:=yK (st:=ZB) Ybs qbj K6;have QaM:=F_m_Way_order.binds (ps:=["self","high","wide"]) λ_ _ _ _ _ _ us hl=>by obtain⟨_,_,_,rfl⟩:=kE hl;rfl
 have F_m_FroWay_order:=yK (st:=zt) QaF ZaE qO;have Zar:=F_m_FroWay_order.binds (ps:=["self","high","wide"]) λ_ _ _ _ _ _ us hl=>by obtain⟨_,_,_,rfl⟩:=kE hl;rfl
 have F_m_ColumnWay_order:=yK (st:=Zm) qag yag ZD;have Q1:=F_m_ColumnWay_order.binds (ps:=["self","high","wide"]) λ_ _ _ _ _ _ us hl=>by obtain⟨_,_,_,rfl⟩:=kE hl;rfl
 have F_m_FoldedWay_order:=yK (st:=qm) Zal yaj yD;have Y1:=F_m_FoldedWay_order.binds (ps:=["self","high","wide"]) λ_ _ _ _ _ _ us hl=>by obtain⟨_,_,_,rfl⟩:=kE hl;rfl
 have F_m_MaskedWay_order:=yK (st:=Ym) zag Zak QC;have Y8:=F_m_MaskedWay_order.binds (ps:=["self","high","wide"]) λ_ _ _ _ _ _ us hl=>by obtain⟨_,_,_,rfl⟩:=kE hl;rfl
 have Fl:=yK (st:=mQ) ll kl kq;have PN:BK K mg prog (pR K Qe zu yh yc Yc Yb nQ oR) "nearest_ink" ["want","inks"]:=zcK (st:=Qj) rfl rfl ln kn Ml (ug X G an) ((yK (st:=Qj) ln kn Ml).binds (ps:=["want","inks"]) λ_ _ _ _ _ _ us hl=>by obtain⟨_,_,rfl⟩:=ln2 hl;rfl) rfl (We X G LJ) (We X G z_abs) rfl c0n rfl;have T:Text K mg prog (pR K Qe zu yh yc Yc Yb nQ oR):=by
  refine⟨rfl,?_,?_,?_,?_,?_,?_,?_,?_,?_,?_,?_,?_,?_,?_,?_,?_,?_⟩
  ·exactλf d hd eu=>Oi (L:=oy) (P:=λf d=>f.toList.contains '.'=false->∃ st N ps,Src K mg (Str.ofString f) st ps/\(yi prog d N ps st=true\/BK K mg prog (pR K Qe zu yh yc Yc Yb nQ oR) f ps)) (by
   refine⟨?_,?_,?_,?_,?_,?_,?_,?_,?_,?_,?_,?_,?_,?_,?_,?_,?_,?_,?_,?_,?_,?_,?_,?_,?_,?_,?_,?_,?_,?_,?_,?_,?_,?_,?_,?_,?_,?_,?_,?_,?_,?_,?_,?_,?_,?_,trivial⟩
   ·exactλ_=>⟨_,_,_,Jm,.inl ZbH⟩
   ·exactλ_=>⟨_,_,_,GC,.inl zbT⟩
   ·exactλ_=>⟨_,_,_,QB,.inl ZaF⟩
   ·exactλeu=>absurd eu (by decide)
   ·exactλ_=>⟨_,_,_,Gw,.inl qda⟩
   ·exactλ_=>⟨_,_,_,Es,.inl qdk⟩
   ·exactλ_=>⟨_,_,_,Gy,.inl Qcb⟩
   ·exactλ_=>⟨_,_,_,Eu,.inl qbK⟩
   ·exactλ_=>⟨_,_,_,Et,.inl ybR⟩
   ·exactλ_=>⟨_,_,_,D3,.inl zbM⟩
   ·exactλ_=>⟨_,_,_,JN,.inl zbH⟩
   ·exactλ_=>⟨_,_,_,ZM,.inl ya3⟩
   ·exactλ_=>⟨_,_,_,GF,.inl YbJ⟩
   ·exactλ_=>⟨_,_,_,IQ,.inl ZbR⟩
   ·exactλ_=>⟨_,_,_,ZQ,.inl Qbq⟩
   ·exactλ_=>⟨_,_,_,qP,.inl zbt⟩
   ·exactλ_=>⟨_,_,_,GJ,.inl zci⟩
   ·exactλ_=>⟨_,_,_,Jk,.inl Qb8⟩
   ·exactλ_=>⟨_,_,_,GH,.inl Ych⟩
   ·exactλ_=>⟨_,_,_,YH,.inl qaW⟩
   ·exactλ_=>⟨_,_,_,GD,.inl zbU⟩
   ·exactλ_=>⟨_,[],_,YK,.inr PN⟩
   ·exactλ_=>⟨_,_,_,IM,.inl ybQ⟩
   ·exactλeu=>absurd eu (by decide)
   ·exactλeu=>absurd eu (by decide)
   ·exactλeu=>absurd eu (by decide)
   ·exactλeu=>absurd eu (by decide)
   ·exactλeu=>absurd eu (by decide)
   ·exactλeu=>absurd eu (by decide)
   ·exactλ_=>⟨_,_,_,zM,.inl qa3⟩
   ·exactλ_=>⟨_,_,_,ZH,.inl QaZ⟩
   ·exactλ_=>⟨_,_,_,ZK,.inl Za2⟩
   ·exactλ_=>⟨_,_,_,Y6,.inl zbz⟩
   ·exactλ_=>⟨_,_,_,ZS,.inl qbn⟩
   ·exactλ_=>⟨_,_,_,qK,.inl za4⟩
   ·exactλ_=>⟨_,_,_,yX,.inl ZbD⟩
   ·exactλ_=>⟨_,_,_,y9,.inl qbD⟩
   ·exactλ_=>⟨_,_,_,Q8,.inl qbv⟩
   ·exactλ_=>⟨_,_,_,YM,.inl Za3⟩
   ·exactλ_=>⟨_,_,_,Z3,.inl ZbE⟩
   ·exactλ_=>⟨_,_,_,Jl,.inl ZbP⟩
   ·exactλ_=>⟨_,_,_,Z4,.inl Ybz⟩
   ·exactλ_=>⟨_,_,_,Z7,.inl qbA⟩
   ·exactλ_=>⟨_,_,_,Qv,.inl qav⟩
   ·exactλ_=>⟨_,_,_,zR,.inl ybh⟩
   ·exactλ_=>⟨_,_,_,IZ,.inl J6⟩) hd eu
  ·intro c f hi;simp only[prog] at hi;split at hi
   ·cases hi;exact⟨_,_,_,_,_,_,_,_,rfl,⟨qbJ,zbN,QbO,qbN⟩,F_Picture,QbR,ug X G qbT,qaj⟩
   ·rename_i z;exact absurd z (by decide)
   ·rename_i z;exact absurd z (by decide)
   ·rename_i z;exact absurd z (by decide)
   ·rename_i z;exact absurd z (by decide)
   ·cases hi;exact⟨_,_,_,_,_,_,_,_,rfl,⟨Qbi,Ybl,ybs,qbc⟩,F_MaskedWay,zbs,ug X G zp,Q9⟩
   ·rename_i z;exact absurd z (by decide)
   ·cases hi
  ·intro x hx;simp only[dW,dB,bw,WG,uf,ua,Vc,or_false] at hx
   rcases hx with rfl|rfl|rfl|rfl|rfl|rfl|rfl|rfl|rfl|rfl|rfl|rfl|rfl|rfl|rfl|rfl|rfl|rfl|rfl
   ·exact We X G z_len
   ·exact We X G z_sum
   ·exact We X G z_all
   ·exact We X G LJ
   ·exact We X G z_max
   ·exact We X G N2
   ·exact We X G Nf
   ·exact We X G Qc6
   ·exact We X G Nf
   ·exact We X G N2
   ·exact We X G z_str
   ·exact We X G z_int
   ·exact We X G Qc5
   ·exact We X G ycR
   ·exact We X G z_zip
   ·exact We X G YbB
   ·exact We X G zbi
   ·exact We X G ycq
   ·exact We X G ybO
  ·intro c f hf;simp only[prog] at hf;split at hf
   ·exact⟨⟨Jr,IP,Js,Jn⟩,yaX⟩
   ·exact⟨⟨Jr,IP,Js,Jn⟩,qaV⟩
   ·exact⟨⟨QE,zG,yE,qE⟩,ZaG⟩
   ·exact⟨⟨QE,zG,yE,qE⟩,Zay⟩
   ·cases hf
  ·intro c t b hs;simp only[prog] at hs;split at hs
   ·exact⟨⟨Jr,IP,Js,Jn⟩,zbS,gn,tk,QbG⟩
   ·exact⟨⟨NN,Nh,Ni,LG⟩,Ydn,gn,tk,ydb⟩
   ·exact⟨⟨O3,NM,Ld,O5⟩,qce,gn,tk,qb7⟩
   ·exact⟨⟨LY,N9,Oa,OR⟩,Zbk,gn,tk,Zbf⟩
   ·exact⟨⟨LZ,OT,Ob,OS⟩,qbg,gn,tk,Qbg⟩
   ·exact⟨⟨QE,zG,yE,qE⟩,ybj,gn,tk,qbh⟩
   ·cases hs
  ·intro c t b hs ht;simp only[prog] at hs;split at hs
   ·cases hs;exact⟨ug X G zp,rK Qam qh Yh qV⟩
   ·cases hs;exact⟨ug X G zp,rK QbL qh Yh Qay⟩
   ·cases hs;exact⟨ug X G zp,rK zax qh Yh zad⟩
   ·cases hs;exact⟨ug X G zp,rK qR qh Yh qS⟩
   ·cases hs;exact⟨ug X G zp,rK zS qh Yh YQ⟩
   ·cases hs;exact⟨ug X G zp,rK zw qh Yh zw⟩
   ·cases hs
  ·intro c t b hs ht;simp only[prog] at hs;split at hs
   ·exact absurd ht (by decide)
   ·exact absurd ht (by decide)
   ·exact absurd ht (by decide)
   ·exact absurd ht (by decide)
   ·exact absurd ht (by decide)
   ·exact absurd ht (by decide)
   ·cases hs
  ·intro t c b hs ht TT rX;simp only[prog] at hs;split at hs
   ·exact rJ (rz _ TT rX) qh Yh
   ·exact rJ (rz _ TT rX) qh Yh
   ·exact rJ (rz _ TT rX) qh Yh
   ·exact rJ (rz _ TT rX) qh Yh
   ·exact rJ (rz _ TT rX) qh Yh
   ·exact rJ (rz _ TT rX) qh Yh
   ·cases hs
  ·exactλc hc=>nomatch (show false=true from hc)
  ·intro wd hw;simp only[prog] at hw;cases hw
  ·exactλt ht=>nomatch (show false=true from ht)
  ·exactλc t b hs=>nomatch (show none=some b from hs)
  ·exactλf ds h=>nomatch (show false=true from h)
  ·intro c m f hm hi;simp only[prog] at hm;split at hm
   ·exact absurd (by rfl) hi
   ·cases hm;exact⟨⟨NN,Nh,Ni,LG⟩,_,_,_,_,_,_,_,_,rfl,⟨Zbq,Qbr,K6⟩,F_m_Way_order,QaM,ZbA⟩
   ·cases hm;exact⟨⟨O3,NM,Ld,O5⟩,_,_,_,_,_,_,_,_,rfl,⟨yaG,zaE,qO⟩,F_m_FroWay_order,Zar,qaL⟩
   ·cases hm;exact⟨⟨LY,N9,Oa,OR⟩,_,_,_,_,_,_,_,_,rfl,⟨zah,zaj,ZD⟩,F_m_ColumnWay_order,Q1,zar⟩
   ·cases hm;exact⟨⟨LZ,OT,Ob,OS⟩,_,_,_,_,_,_,_,_,rfl,⟨yah,Qag,yD⟩,F_m_FoldedWay_order,Y1,yav⟩
   ·exact absurd (by rfl) hi
   ·cases hm;exact⟨⟨QE,zG,yE,qE⟩,_,_,_,_,_,_,_,_,rfl,⟨qah,Qak,QC⟩,F_m_MaskedWay_order,Y8,zav⟩
   ·cases hm
  ·intro c hc;simp only[prog] at hc;split at hc
   ·exact⟨⟨ydm,ydg,qdi⟩,ug X G yc8⟩
   ·exact⟨⟨Yb8,zb6,Yb2⟩,ug X G zb7⟩
   ·exact⟨⟨Ybc,zbm,ybe⟩,ug X G qbe⟩
   ·exact⟨⟨zbl,zbn,Qbj⟩,ug X G Qbo⟩
   ·cases hc
  ·intro x i hx;simp only[prog] at hx;split at hx
   ·cases hx;exact⟨_,ug X G zcR⟩
   ·cases hx;exact⟨_,ug X G Qdd⟩
   ·cases hx
  ·exactλh=>nomatch (show false=true from h)
 exact⟨Ve "law" "law" (Yi mQ) (Yf mQ) (qb mQ) .none LF KA NP Ou Gv Ku,λs v=>.of_eq rfl,λbase kb _ lb=>YcR (n:=8) T kb lb Fl rfl J6 (λns hl=>⟨[],MP.ng 0 ns hl⟩)⟩
end SD
open PySem PySem.W PyProof.Rows L2 L3 M3 SD
set_option maxRecDepth 100000 in
set_option maxHeartbeats 0 in
theorem PySem.Challenge.cw_dotscreen_k31_never_lost_holds : PySem.Challenge.rw_dotscreen_k31_never_lost.Holds := by
 w_on;o_law;k_head;(case hw=>w_witness2)
 k_fill
 refine' SD.sW (l:=PySem.Challenge.rw_dotscreen_k31_never_lost) (k:=18) (lp:=⟨109,25,109,52⟩) rfl rfl ⟨rfl,by decide,by decide⟩ (λw h Y=>PySem.W.km_in_of Y) ?T ?C ?K ?F
 (case C =>
  intro w h KX;refine' SD.kU (st:=Qj) KX ?a ?l ?lc ?e11 ?e18 ?e7 ?e9 ?e10 ?ne
  (case a=>k_is);(case l=>k_is);(case lc=>k_is);(case e11=>rfl);(case e18=>rfl);(case e7=>rfl);(case e9=>rfl);(case e10=>rfl);(case ne=>decide))
 (case T=>intro w h Y;exact PySem.W.km_tabs_of Y _ (by decide))
 (case K=>intro w;kernel_rfl)
 case F =>
  intro w mg fa h KX G nG;have Jm:Src (L2.bM KX) mg "own_rows" Jo ["rows"]:=by
   dsimp only[L2.bM];refine' SD.aI KX G (λ_ _ _ _ _ _ us hl=>by obtain⟨_,rfl⟩:=SD.l4 hl;rfl) ?a ?l ?c ?k
   (case a|l|c|k=>k_is)
  have GC:Src (L2.bM KX) mg "fault_of" JM ["rows","least","greatest"]:=by
   dsimp only[L2.bM];refine' SD.aI KX G (λ_ _ _ _ _ _ us hl=>by obtain⟨_,_,_,rfl⟩:=SD.kE hl;rfl) ?a ?l ?c ?k
   (case a|l|c|k=>k_is)
  have QB:Src (L2.bM KX) mg "cells_by_rows" yC ["high","wide"]:=by
   dsimp only[L2.bM];refine' SD.aI KX G (λ_ _ _ _ _ _ us hl=>by obtain⟨_,_,rfl⟩:=SD.ln2 hl;rfl) ?a ?l ?c ?k
   (case a|l|c|k=>k_is)
  have Gw:Src (L2.bM KX) mg "high" JG ["picture"]:=by
   dsimp only[L2.bM];refine' SD.aI KX G (λ_ _ _ _ _ _ us hl=>by obtain⟨_,rfl⟩:=SD.l4 hl;rfl) ?a ?l ?c ?k
   (case a|l|c|k=>k_is)
  have Es:Src (L2.bM KX) mg "wide" Ji ["picture"]:=by
   dsimp only[L2.bM];refine' SD.aI KX G (λ_ _ _ _ _ _ us hl=>by obtain⟨_,rfl⟩:=SD.l4 hl;rfl) ?a ?l ?c ?k
   (case a|l|c|k=>k_is)
  have Gy:Src (L2.bM KX) mg "size_of" DZ ["picture"]:=by
   dsimp only[L2.bM];refine' SD.aI KX G (λ_ _ _ _ _ _ us hl=>by obtain⟨_,rfl⟩:=SD.l4 hl;rfl) ?a ?l ?c ?k
   (case a|l|c|k=>k_is)
  have Eu:Src (L2.bM KX) mg "has_cell" IT ["picture","cell"]:=by
   dsimp only[L2.bM];refine' SD.aI KX G (λ_ _ _ _ _ _ us hl=>by obtain⟨_,_,rfl⟩:=SD.ln2 hl;rfl) ?a ?l ?c ?k
   (case a|l|c|k=>k_is)
  have Et:Src (L2.bM KX) mg "ask_cell" D5 ["picture","cell"]:=by
   dsimp only[L2.bM];refine' SD.aI KX G (λ_ _ _ _ _ _ us hl=>by obtain⟨_,_,rfl⟩:=SD.ln2 hl;rfl) ?a ?l ?c ?k
   (case a|l|c|k=>k_is)
  have D3:Src (L2.bM KX) mg "shade_at" GG ["picture","cell"]:=by
   dsimp only[L2.bM];refine' SD.aI KX G (λ_ _ _ _ _ _ us hl=>by obtain⟨_,_,rfl⟩:=SD.ln2 hl;rfl) ?a ?l ?c ?k
   (case a|l|c|k=>k_is)
  have JN:Src (L2.bM KX) mg "ask_size" D4 ["high","wide"]:=by
   dsimp only[L2.bM];refine' SD.aI KX G (λ_ _ _ _ _ _ us hl=>by obtain⟨_,_,rfl⟩:=SD.ln2 hl;rfl) ?a ?l ?c ?k
   (case a|l|c|k=>k_is)
  have ZM:Src (L2.bM KX) mg "with_shades" zL ["picture","pairs"]:=by
   dsimp only[L2.bM];refine' SD.aI KX G (λ_ _ _ _ _ _ us hl=>by obtain⟨_,_,rfl⟩:=SD.ln2 hl;rfl) ?a ?l ?c ?k
   (case a|l|c|k=>k_is)
  have GF:Src (L2.bM KX) mg "laid_out" D6 ["most","size","pairs"]:=by
   dsimp only[L2.bM];refine' SD.aI KX G (λ_ _ _ _ _ _ us hl=>by obtain⟨_,_,_,rfl⟩:=SD.kE hl;rfl) ?a ?l ?c ?k
   (case a|l|c|k=>k_is)
  have IQ:Src (L2.bM KX) mg "ask_inks" Jq ["inks","most"]:=by
   dsimp only[L2.bM];refine' SD.aI KX G (λ_ _ _ _ _ _ us hl=>by obtain⟨_,_,rfl⟩:=SD.ln2 hl;rfl) ?a ?l ?c ?k
   (case a|l|c|k=>k_is)
  have ZQ:Src (L2.bM KX) mg "ask_rising" zT ["inks"]:=by
   dsimp only[L2.bM];refine' SD.aI KX G (λ_ _ _ _ _ _ us hl=>by obtain⟨_,rfl⟩:=SD.l4 hl;rfl) ?a ?l ?c ?k
   (case a|l|c|k=>k_is)
  have qP:Src (L2.bM KX) mg "ask_shares" YS ["shares"]:=by
   dsimp only[L2.bM];refine' SD.aI KX G (λ_ _ _ _ _ _ us hl=>by obtain⟨_,rfl⟩:=SD.l4 hl;rfl) ?a ?l ?c ?k
   (case a|l|c|k=>k_is)
  have GJ:Src (L2.bM KX) mg "handed" JS ["picture","way","shares","inks"]:=by
   dsimp only[L2.bM];refine' SD.aI KX G (λ_ _ _ _ _ _ us hl=>by obtain⟨_,_,_,_,rfl⟩:=SD.GV hl;rfl) ?a ?l ?c ?k
   (case a|l|c|k=>k_is)
  have Jk:Src (L2.bM KX) mg "dots_of" IY ["picture","entries"]:=by
   dsimp only[L2.bM];refine' SD.aI KX G (λ_ _ _ _ _ _ us hl=>by obtain⟨_,_,rfl⟩:=SD.ln2 hl;rfl) ?a ?l ?c ?k
   (case a|l|c|k=>k_is)
  have GH:Src (L2.bM KX) mg "ledger" GK ["picture","way","shares","inks"]:=by
   dsimp only[L2.bM];refine' SD.aI KX G (λ_ _ _ _ _ _ us hl=>by obtain⟨_,_,_,_,rfl⟩:=SD.GV hl;rfl) ?a ?l ?c ?k
   (case a|l|c|k=>k_is)
  have YH:Src (L2.bM KX) mg "entry_behind" qI ["entries","cell","shade","shares","inks"]:=by
   dsimp only[L2.bM];refine' SD.aI KX G (λ_ _ _ _ _ _ us hl=>by obtain⟨_,_,_,_,_,rfl⟩:=SD.GU hl;rfl) ?a ?l ?c ?k
   (case a|l|c|k=>k_is)
  have GD:Src (L2.bM KX) mg "entry_of" JP ["cell","shade","due","whole","inks"]:=by
   dsimp only[L2.bM];refine' SD.aI KX G (λ_ _ _ _ _ _ us hl=>by obtain⟨_,_,_,_,_,rfl⟩:=SD.GU hl;rfl) ?a ?l ?c ?k
   (case a|l|c|k=>k_is)
  have YK:Src (L2.bM KX) mg "nearest_ink" Qj ["want","inks"]:=by
   dsimp only[L2.bM];refine' SD.aI KX G (λ_ _ _ _ _ _ us hl=>by obtain⟨_,_,rfl⟩:=SD.ln2 hl;rfl) ?a ?l ?c ?k
   (case a|l|c|k=>k_is)
  have IM:Src (L2.bM KX) mg "bound_of" GB ["shares","inks"]:=by
   dsimp only[L2.bM];refine' SD.aI KX G (λ_ _ _ _ _ _ us hl=>by obtain⟨_,_,rfl⟩:=SD.ln2 hl;rfl) ?a ?l ?c ?k
   (case a|l|c|k=>k_is)
  have zM:Src (L2.bM KX) mg "ways_within" qL ["way"]:=by
   dsimp only[L2.bM];refine' SD.aI KX G (λ_ _ _ _ _ _ us hl=>by obtain⟨_,rfl⟩:=SD.l4 hl;rfl) ?a ?l ?c ?k
   (case a|l|c|k=>k_is)
  have ZH:Src (L2.bM KX) mg "folded_cells" QG ["side"]:=by
   dsimp only[L2.bM];refine' SD.aI KX G (λ_ _ _ _ _ _ us hl=>by obtain⟨_,rfl⟩:=SD.l4 hl;rfl) ?a ?l ?c ?k
   (case a|l|c|k=>k_is)
  have ZK:Src (L2.bM KX) mg "folded_once" yL ["cells","side"]:=by
   dsimp only[L2.bM];refine' SD.aI KX G (λ_ _ _ _ _ _ us hl=>by obtain⟨_,_,rfl⟩:=SD.ln2 hl;rfl) ?a ?l ?c ?k
   (case a|l|c|k=>k_is)
  have Y6:Src (L2.bM KX) mg "_law_next" QW ["_law_script","_law_at"]:=by
   dsimp only[L2.bM];refine' SD.aI KX G (λ_ _ _ _ _ _ us hl=>by obtain⟨_,_,rfl⟩:=SD.ln2 hl;rfl) ?a ?l ?c ?k
   (case a|l|c|k=>k_is)
  have ZS:Src (L2.bM KX) mg "_law_great" zQ ["_law_script","_law_at","_law_room"]:=by
   dsimp only[L2.bM];refine' SD.aI KX G (λ_ _ _ _ _ _ us hl=>by obtain⟨_,_,_,rfl⟩:=SD.kE hl;rfl) ?a ?l ?c ?k
   (case a|l|c|k=>k_is)
  have qK:Src (L2.bM KX) mg "_law_shades" QL ["_law_script","_law_at","_law_most_here","_law_high_count","_law_wide_count"]:=by
   dsimp only[L2.bM];refine' SD.aI KX G (λ_ _ _ _ _ _ us hl=>by obtain⟨_,_,_,_,_,rfl⟩:=SD.GU hl;rfl) ?a ?l ?c ?k
   (case a|l|c|k=>k_is)
  have yX:Src (L2.bM KX) mg "_law_same" Y5 ["_law_found","_law_due"]:=by
   dsimp only[L2.bM];refine' SD.aI KX G (λ_ _ _ _ _ _ us hl=>by obtain⟨_,_,rfl⟩:=SD.ln2 hl;rfl) ?a ?l ?c ?k
   (case a|l|c|k=>k_is)
  have y9:Src (L2.bM KX) mg "_law_most" Q3 ["_law_script","_law_at"]:=by
   dsimp only[L2.bM];refine' SD.aI KX G (λ_ _ _ _ _ _ us hl=>by obtain⟨_,_,rfl⟩:=SD.ln2 hl;rfl) ?a ?l ?c ?k
   (case a|l|c|k=>k_is)
  have Q8:Src (L2.bM KX) mg "_law_inks" qW ["_law_script","_law_at","_law_most_here"]:=by
   dsimp only[L2.bM];refine' SD.aI KX G (λ_ _ _ _ _ _ us hl=>by obtain⟨_,_,_,rfl⟩:=SD.kE hl;rfl) ?a ?l ?c ?k
   (case a|l|c|k=>k_is)
  have YM:Src (L2.bM KX) mg "_law_shares" zN ["_law_script","_law_at"]:=by
   dsimp only[L2.bM];refine' SD.aI KX G (λ_ _ _ _ _ _ us hl=>by obtain⟨_,_,rfl⟩:=SD.ln2 hl;rfl) ?a ?l ?c ?k
   (case a|l|c|k=>k_is)
  have Z3:Src (L2.bM KX) mg "_law_size" y3 ["_law_script","_law_at","_law_most_cells"]:=by
   dsimp only[L2.bM];refine' SD.aI KX G (λ_ _ _ _ _ _ us hl=>by obtain⟨_,_,_,rfl⟩:=SD.kE hl;rfl) ?a ?l ?c ?k
   (case a|l|c|k=>k_is)
  have Jl:Src (L2.bM KX) mg "_law_way" JO ["_law_script","_law_at","_law_size_here"]:=by
   dsimp only[L2.bM];refine' SD.aI KX G (λ_ _ _ _ _ _ us hl=>by obtain⟨_,_,_,rfl⟩:=SD.kE hl;rfl) ?a ?l ?c ?k
   (case a|l|c|k=>k_is)
  have Z4:Src (L2.bM KX) mg "_law_case" yZ ["_law_script","_law_at"]:=by
   dsimp only[L2.bM];refine' SD.aI KX G (λ_ _ _ _ _ _ us hl=>by obtain⟨_,_,rfl⟩:=SD.ln2 hl;rfl) ?a ?l ?c ?k
   (case a|l|c|k=>k_is)
  have Z7:Src (L2.bM KX) mg "_law_half" qY ["_law_inks_here"]:=by
   dsimp only[L2.bM];refine' SD.aI KX G (λ_ _ _ _ _ _ us hl=>by obtain⟨_,rfl⟩:=SD.l4 hl;rfl) ?a ?l ?c ?k
   (case a|l|c|k=>k_is)
  have Qv:Src (L2.bM KX) mg "_law_plain_case" qw ["_law_script","_law_at"]:=by
   dsimp only[L2.bM];refine' SD.aI KX G (λ_ _ _ _ _ _ us hl=>by obtain⟨_,_,rfl⟩:=SD.ln2 hl;rfl) ?a ?l ?c ?k
   (case a|l|c|k=>k_is)
  have zR:Src (L2.bM KX) mg "_law_bound" QP ["_law_shares_here","_law_half_here"]:=by
   dsimp only[L2.bM];refine' SD.aI KX G (λ_ _ _ _ _ _ us hl=>by obtain⟨_,_,rfl⟩:=SD.ln2 hl;rfl) ?a ?l ?c ?k
   (case a|l|c|k=>k_is)
  have IZ:Src (L2.bM KX) mg "law" mQ ["_law_script"]:=by
   dsimp only[L2.bM];refine' SD.aI KX G (λ_ _ _ _ _ _ us hl=>by obtain⟨_,rfl⟩:=SD.l4 hl;rfl) ?a ?l ?c ?k
   (case a|l|c|k=>k_is)
  refine' SD.all_mk KX G nG Jm GC QB Gw Es Gy Eu Et D3 JN ZM GF IQ ZQ qP GJ Jk GH YH GD YK IM zM ZH ZK Y6 ZS qK yX y9 Q8 YM Z3 Jl Z4 Z7 Qv zR IZ  ?x0 ?x1 ?x2 ?x3 ?x4 ?x5 ?x6 ?x7 ?x8 ?x9 ?x10 ?x11 ?x12 ?x13 ?x14 ?x15 ?x16 ?x17 ?x18 ?x19 ?x20 ?x21 ?x22 ?x23 ?x24 ?x25 ?x26 ?x27 ?x28 ?x29 ?x30 ?x31 ?x32 ?x33 ?x34 ?x35 ?x36 ?x37 ?x38 ?x39 ?x40 ?x41 ?x42 ?x43 ?x44 ?x45 ?x46 ?x47 ?x48 ?x49 ?x50 ?x51 ?x52 ?x53 ?x54 ?x55 ?x56 ?x57 ?x58 ?x59 ?x60 ?x61 ?x62 ?x63 ?x64 ?x65 ?x66 ?x67 ?x68 ?x69 ?x70 ?x71 ?x72 ?x73 ?x74 ?x75 ?x76 ?x77 ?x78 ?x79 ?x80 ?x81 ?x82 ?x83 ?x84 ?x85 ?x86 ?x87 ?x88 ?x89 ?x90 ?x91 ?x92 ?x93 ?x94 ?x95 ?x96 ?x97 ?x98 ?x99 ?Fx ?Fw ?Fv ?Fu ?Ft ?Fs ?Fq ?Fp ?Fo ?Fn ?Fm ?Fj ?Fi ?Fh ?Fg ?Ff ?Fe ?Fd ?Fc ?Fb ?E9 ?E8 ?E7 ?E6 ?E5 ?E4 ?E3 ?E2 ?EZ ?EY ?EX ?EW ?EV ?EU ?ET ?ES ?ER ?EO ?EN ?EM ?EL ?EK ?EJ ?EI ?EH ?EG ?EF ?x147 ?EE ?ED ?EC ?EB
  (case x0|x1|x2|x3|x4|x5|x6|x7|x8|x9|x10|x11|x12|x13|x14|x15|x16|x17|x18|x19|x20|x21|x22|x23|x24|x25|x26|x27|x28|x29|x30|x31|x32|x33|x34|x35|x36|x37|x38|x39|x40|x41|x42|x43|x44|x45|x46|x47|x48|x49|x50|x51|x52|x53|x54|x55|x56|x57|x58|x59|x60|x61|x62|x63|x64|x65|x66|x67|x68|x69|x70|x71|x72|x73|x74|x75|x76|x77|x78|x79|x80|x81|x82|x83|x84|x85|x86|x87|x88|x89|x90|x91|x92|x93|x94|x95|x96|x97|x98|x99|Fx|Fw|Fv|Fu|Ft|Fs|Fq|Fp|Fo|Fn|Fm|Fj|Fi|Fh|Fg|Ff|Fe|Fd|Fc|Fb|E9|E8|E7|E6|E5|E4|E3|E2|EZ|EY|EX|EW|EV|EU|ET|ES|ER|EO|EN|EM|EL|EK|EJ|EI|EH|EG|EF|EE|ED|EC|EB=>k_is)
  (case x147=>decide)
end