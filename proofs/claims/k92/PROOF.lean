import PyProof.Rows.All
import Wide.All
import OpenK.AllK
import Wide.FinOn
import PySem.Challenge.RW_dotscreen_k92_whole_screen
import Lean
import PyProof.EqAt
import PyProof.EqKinds
import PyProof.TupleCall
import PyProof.CompFree
import PyProof.StationsW
import PyProof.ExcClass3
import PyProof.Cells
import PyProof.PassesOwn
import PyProof.RangeIter
import PyProof.TableTree
import PyProof.ZipIter
import PyProof.Draws
import PyProof.TupleIter
import PyProof.EnumMake
import PyProof.EnumStmt
import KE.KDictList
import PyProof.Rows.SortWalk
import KE.KRevIter
import PyProof.CollectIter
import KE.KRevSl
import KE.KMinKey
import KE.KLam
import PyProof.DictIter
import PyProof.AttrMiss
import PyProof.IsiH_list
import PyProof.CollectWalk
import KE.KDictOf
import PyProof.DictCopy
import PyProof.FactsAll.tuple_1
import PyProof.FactsAll.dict_3
import PyProof.DictItems
import KE.KIntText
import PyProof.StrBlock2
import PyProof.Rows.StrMul
import PySem.SetOps
import PySem.Builtin.Tuple.Common
import PyProof.Rows.SetFrom
import PyProof.SetRoads
import PyProof.WalksS
import KE.KItemsList
import KE.KSortAsk
import KE.KFind
import KE.KSortTup
import PySem.Str
import PyProof.StrBlockL
import KE.IntTextText
import KE.IntBitsLaws
import PyProof.FitsBits
import PyProof.Rows.InDataRows
import PyProof.StrLawsTight
open PySem renaming wpAny_bind->ae,Addr->af,wpAny_pure->ag,wpAny->ah,Program->ao,model->aq,wpAny_field->ar,starEach->au,wpAny_setField_rec->ay,wpAny_callSpecial?_slot->az,Scope->aA,mainGlobals->aB,wpAny_seqItems->aC,IsPair->aE,wpAny_holding->aF,cellsFrom->aG,wpAny_call_entry->aM,wpAny_truthy_bool->aN,compareOp->aO,wpAny_newObj_type->aS,binaryOp->aT,wpAny_updateSeq_pair->aW,FuncData->a8,swapsWith->bc,rawInt->bg,bootBuiltins->bw,wpAny_onRaise->bz,behindInMarks->bA,attributeBase->bB,Draws->bC,wpAny_Call_Name_kw->bD,call_meets->bF,assignEach->bG,pyNext->bJ,codeAny->bL,wpAny_mono->bM,sysModules->bN,backTo->bV,Paired->bX,wpAny_attempt->bY,wpAny_passesOwn->cq,letOwnedTupleGo->cw,wpAny_rule->cy,tupleKind->cz,sliceBounds->cA,sizeLine_eq->cC,wpAny_setState_of->cF,wpAny_setField->cG,foldedSetIterable->cH,codeAny_mono->cQ,IsZip->cU,typeIs_str->cV,wpAny_letGo->cY,wpAny_newTuple->dE,cLine->dY,wpAny_pyIter_list->d3,holding->ee,argBest->en,CmpOp->eu,BindsTo->eA,wpAny_comprehension_free->eB,assign->eG,wpAny_pyNext_tuple_item->eJ,wpAny_pyIter_zip->eK,wpAny_isInstance->eL,wpAny_pyNext_tuple_end->eW,wpAny_pyNext_range_end->eX,wpAny_pyNext_list_item->eY,wpAny_pyIter_tupleiter->eZ,wpAny_pyIter_rangeiter->e8,callerA->fh,IsPart->fj,codeAny_builtin->fo,wpAny_pyNext_list_end->fw,wpAny_isTrue_Compare1->fy,recursionLimit->fH,newFunctionEnv->fJ,keywordEach->fK,isSubtype_stop->fL,hashByValue->fM,codeAny_call_builtin->fQ,IsRangeIter->fU,seqItems?->fW,ClassData->f',length_partsBetween->gw,wpAny_standAt->gA,swappedStores->gB,wpAny_pyIter_tuple->gJ,wpAny_pyIter_range->gK,wpAny_call->gL,tupleKind_room_in1->gO,pyIter->gQ,wpAny_typeOf->gX,wpAny_storeSet_of->gY,wpAny_sequenceKey->gZ,wpAny_pyIter_enum->hG,wpAny_Call_method->hU,Keyword->ip,noFill_tuple_add->iA,PassesOwn->iD,seqIndex_of->iG,wpAny_execs_nil->iM,pushCells_keeps->iN,wpAny_Name->iU,wpAny_Compare1->iV,typeIs_int->iW,firstArgMember->jv,bindL->jx,bindC->jy,backToKw->jz,atKey->jA,Result->jB,Code->jD,swapsWithSole->jH,seq_tuple_add->jJ,intBits_le_64->jO,evalPart_none->jQ,call_list_seq->jS,Comprehension->jV,strValues->jW,standAt->j2,setItem->j4,isTrue->j8,hashInt->kx,newTuple->kM,Walks->kX,GenState->kY,preSum->lF,cellOf->lN,Params->lU
open PyProof.Rows renaming AllBare->dD,envOfC->eF,subscriptTail_builtinR->fb,IntsAre->fZ,args_tuple_getitem->gR,IsTup->iq,slicePart_none->iY,reads_tuple_at->i4,boot_range->jw,tupleItemsOf_->jF,subscriptTail->jI,reads_list_at->jK,Constant_none->jU,Call_->k8
open PySem.Value renaming ref->ka,none->Ka,str->ja,int->Ja,type->Ha,bool->Ga,float->Kb,isStrOf->jb
open Sum renaming inl->Jb,inr->Hb
open PySem renaming mem_of_lookup->Gb,intText?->Kc,Within->jc,call->Jc,boot_len->Hc
open Ne renaming symm->Gd
open PySem.Calls renaming callWith_builtin->Ke,evalArgs_plain->je,spliced_cons->Je,spliced_nil->He,Name_function_global->Ge
open PySem.Builtin.Range renaming rangeSize->kf,rangeFitsLong->Kf,small->jf
open PyProof.Rows renaming callWith_type1->Jf,slot_tuple_getitem->Hf
open PySem.Builtin.Str renaming occurrences->Gf
open PySem.Str renaming ofString->kg,join->Kg,empty->jg,ofString_eq_toList->Jg
open True renaming intro->Hg
open PySem.Around renaming under->Gg,under_plainId->kh
open False renaming elim->Kh
open PySem.F renaming slot_zip_next->jh,args_zip_next_1->Jh,slot_tuple_iterator_next->Hh,entry_zip_next->gh,plainAttrs_list->Gh,args_str_split_2->ki,entry_str_split->Ki,args_tuple_add_2->ji,slot_str_split->Ji,entry_tuple_add->Hi,slot_tuple_add->Gi,plainAttrs_str->Kj,args_tuple_iterator_next_1->jj,entry_tuple_iterator_next->Jj
open PySem.Builtin.Slice renaming slicePlaces->Hj,sliceAdjust->gj,sliceApplied->Gj
open PySem.Builtin.Tuple renaming tupleExact->Kk,tupleItemsOf->jk,tupleHashOf->Jk
open PySem.Obj renaming mapFields->Hk,data_mapFields->gk,isFreed_of_fields->Gk,putSet->Kl,mapSeq->jl
open PySem.Builtin.List renaming listTooLong->Km
open ForInStep renaming yield->jm
open PySem.Builtin.SmallTypes renaming nextOf->Jm,ownedTupleIsFree->Hm,ownedTupleHandOut->gm
open PySem.Heap.SameBut renaming update->Gm,refl->kn
open PySem.Shared renaming heap->Kn,TypeIs->jn
open PySem.NameKind renaming free->Jn,cell->Hn
open PySem.StrLaws renaming glued_eq_join->Gn,occ_length_le->ko
open PySem.SetTable renaming insertAt->Ko,sizeAbove->Jo,grown->Ho,fits->Go,below->Kp,movedTo->jp,fresh->Jp,fill->Gp,tooFull->Kq,runEnd->jq,probe->Jq,bits->Hq,has->Gq
open PyProof.Rows.F renaming plain_set_update_loop->kr,entry_set_update_loop->Kr
open PySem.PyData renaming eqv->jr,depthAll->Jr,canLay0->Hr,depth->Gr,canLayAll0->Ks,eqvAll->Js
open Char renaming toNat->jt
set_option maxHeartbeats 4000000
open PySem.Heap renaming get?_push_of_some->wa,lt_size->Va,get?_push_size->Xb,size_push->vg,get?_update_other->uj,get?_update_self->wo,get?_none_of_le->VB,SameBut->ke
open List renaming getElem?_eq_some_iff->Wa,replicate->xa,mem_cons->ua,getElem?_map->Ua,range->va,getElem?_eq_getElem->wb,getElem?_append_left->ub,map_cons->Ub,mem_of_getElem?->Vb,size_toArray->wc,lookup_cons->Wc,length_map->xc,not_mem_nil->uc,getElem?_mapIdx->vc,getElem?_append_right->Vc,nil_append->Wd,map_map->Xd,length_cons->ud,mem_singleton->Ud,ext_getElem?->Vd,mem_range->We,getElem?_take_of_lt->ue,mem_cons_of_mem->Ue,getD->ve,getElem?_zipIdx->wf,length_append->xf,mem_append_right->uf,getElem?_eq_none->Uf,map_append->vf,mem_map->Vf,take_of_length_le->Xh,mem_append->vh,length_take->Vh,getD_eq_getElem?_getD->Wi,mem_cons_self->xi,take_add_one->Ui,getElem?_drop->Wj,mem_append_left->xj,all_eq_true->Xj,map_nil->Uj,getElem?_set_ne->Xk,getElem?_replicate->Uk,append_assoc->vk,forIn_cons->Vk,replicate_succ->Wl,getElem?_set_self->xl,sum_cons->ul,take_length->wm,mem_filter->xm,range_succ->vm,eq_of_mem_replicate->Vm,length_range->Wn,length_pos_iff->xn,forIn_nil->Xn,mem_flatMap->vn,length_replicate->Vn,length_nil->Wo,mem_of_mem_take->xo,mapM_cons->vo,getElem_mem->Vo,cons_append->xp,flatten_replicate_singleton->Xp,getElem?_range->Up,sum_append->wq,length_zipIdx->xq,eq_nil_of_length_eq_zero->uq,flatten_cons->vq,mem_of_mem_drop->Wr,any_cons->xr,fst_mem_of_mem_zipIdx->Xr,lookup->ur,filterMap_cons->Vr,getElem_of_mem->Xs,map_congr_left->Vs,flatMap_append->wt,length_mapIdx->wu,ne_nil_of_mem->xu,nodup_append->uu,getElem?_set->Uu,getElem_cons_succ->Vu,getElem_cons_zero->Wv,length_drop->uv,zipIdx_cons->vv,length_filter_le->ww,mem_iff_getElem?->Ww,append_nil->xw,nodup_cons->Xw,find?_cons->uw,zipIdx_nil->Uw,length_flatMap->xx,pairwise_cons->vx,map_replicate->Vx,map_drop->uy,map_take->Uy,reverse_cons->wz,getElem?_inj->Wz,getElem?_zip_eq_some->xz,drop_eq_getElem_cons->Xz,pairwise_iff_getElem->uz,getElem?_eq_none_iff->Uz,zipWith->WA,of_mem_zip->XA,length_zip->VA,length->WB,filter_eq_nil_iff->xB,pairwise_lt_range->XB,length_singleton->UB,drop_zero->vB,getD_cons_succ->XC,zipIdx_map_fst->vC,mem_filterMap->wD,foldlM_append->VD,any_map->wE,map_set->XE,any_eq_false->UE,flatMap_cons->xF,drop_length->wG,map_zipWith->xG,foldl->XG,cons->Jl,foldl_cons->Hl
open Bool renaming and_eq_true->Xa,false_eq_true->Wg,noConfusion->xg,or_eq_true->wl,false_ne_true->Wm,not_eq_true'->wn,and_eq_true_iff->Vw,or_false->xy,eq_iff_iff->uA,true_and->WC,true_eq_false->WE
open Option renaming map_eq_some_iff->Wb,bind_eq_some_iff->xb,map_some->Xf,bind_some->xh,getD_some->Vj,toList_some->xk,isSome_iff_exists->um,bind_eq_bind->Us,pure_def->vA,isSome_some->xD,getD_none->vF,some->gb
open Nat renaming le_refl->vb,ne_of_lt->Xc,lt_of_lt_of_le->Uc,le_trans->Xe,add_mul->Uh,zero_add->Xi,lt_irrefl->Vi,ne_of_gt->Xl,lt_succ_self->Vl,le_of_eq->Xm,mul_le_mul_right->Xo,one_mul->uo,zero_le->Xq,lt_succ_of_lt->Vq,pow_le_pow_right->wr,min_le_left->ut,div_le_self->Ut,lt_trans->vt,toDigits->Wu,le_of_not_lt->Uv,mul_le_mul->ux,le_succ->Ux,le_of_lt->vz,min_eq_right->wA,div_mul_le_self->uC,div_eq_of_lt_le->UC,add_zero->UD,pow_succ->uE,log2_lt->uF,le_add_right->VF,min_eq_left->Jt
open Function renaming comp_def->we,comp_apply->Wx,comp->xC
open PySem.W renaming findIn->Ve,fnOf->wg,emptyDict->Xg,keepIn->Ug,kitOne->Vg,instObj->uh,kia_one->wj,codeIn->uk,subIn->Ul,nsIn->Wp,mg_of->Vp,specialIn->Uq,makesIn->Wt,takesIn->Xt,hasDictIn->Xu,plainGet->Xv,typeIn->Xx,mroIn->Wy,clsIn->Xy,methodObj->vy,plainOver->Vy,makes_of->Vz,takerIn->xA,cellsFrom_some->wB,lookIn->uB,looks_findIn->wC,isFn->WD,callWith_K->XD,make_core->vE,kitx_list->VE,kitx_dict->wF,kdx_alive->WF,handedIn->UF,Frag->gc,OpenLaw->Gc,Looks->Kd,InitBack->jd,kf_at->Jd,WalkO->Hd
open Int renaming eq_ofNat_of_zero_le->Wf,toNat_natCast->Wh,le_refl->Ur,mul_le_mul_of_nonneg_right->wx,fdiv_eq_ediv_of_nonneg->wy,ediv_nonneg->UA,add_zero->uD,emod_lt_of_pos->xE,emod_eq_of_lt->XF,le_antisymm->Hs,emod_nonneg->Gs
open Prod renaming snd->Um,fst->Vt,mk->Kt
open Array renaming size_map->Uo,forIn_toList->Wq,length_toList->Ws,getElem?_toList->Vv,filterMap->vw,toList->VC,getElem?_map->vD,all_toList->WG,ext'->uG
set_option Elab.async false
set_option linter.all false
set_option tactic.hygienic false
set_option maxRecDepth 100000
set_option genSizeOf false
set_option genSizeOfSpec false
set_option bootstrap.genMatcherCode false
structure PySem.W.Fast:Prop where(tw17000799065450854576 tw17636732228593826347 tw14722384292386612972 tw2021012522842574098 tw2372931751814873116 tw304958203835366523 tw16869403282969094082 tw13910726724153980756 tw685723510758091728 tw15093375221206038971 tw1550048767537009725 tw2368995011593102226 tw17162825482944912982 tw17464628494332515988 tw5178525607272714316 tw1755851412853729424 tw1955933027105083838 tw1469663466400996553 tw2872196336984591540 tw12003868626038607670 tw5819755979382986226 tw11974210000375047992 tw15513601038962875373 tw15836536859376580567 tw8666579978201235514 tw4484608535040105690 tw11188549672139149740 tw13856956796221204230 tw4785571870381962201 tw16126571222110984939 tw17997199468411972579 tw3125705964927523042 tw4736434296436455766 tw6883705643669123942 tw6714743559222978822 tw3900909240239414593 tw12610738094976293402 tw6048321445905559160 tw17051197512138240591 tw8747577185170070198 tw12764156758786483187 tw13488466326745727099 tw17696830682632050905 tw13198000720993028069 tw15719739623149662304 tw12838813103492951904 tw6171226678480298417 tw1546427400313587245 tw3186837877627275589 tw13551398056505792034 tw6130102846229707727 tw17077868180985033540 tw15554876392572697231 tw180622079299742863 tw9611948882706108688 tw9880528769449648836 tw16961356366733983948 tw17493432087861588606 tw8183263860879335149 tw2050656377346893477 tw3749387498400848782 tw437267314714477567 tw8187620821148314274 tw15538923319493667230 tw7826291117651853127 tw10551335089664457229 tw14464604504606012919 tw13331685232313936256 tw3100712002261560585 tw9476836189087450810 tw7710924974278211661 tw13755660155805946855 tw17107862913920983644 tw793533343007621593 tw2181566379116152253 tw11136527279542282089 tw6752906260565266273 tw5300204122718789224 tw6676724162907764749 tw13475759762552211106 tw6785179749634218138 tw10701390086557307679 tw12549242562527181011 tw4669768471746237041 tw8048382728833705468 tw5806227186120343979 tw13709208492973833223 tw17283195219118135074 tw12648645119496574891 tw5404151770166103008 tw15215055648132794884 tw7223906851270931921 tw11926275871081492681 tw18359897063984137355 tw10877763217668366516 tw5400898376026918736 tw3762886467952711359 tw17331476204528331776 tw225187735234888965 tw15006425490604343429 tw15857533374569309980 tw288042413808110220 tw26079903658107747 tw1848608067009119472 tw12368036553537558336 tw9996559681934175099 tw4340773886608019909 tw17067942792079006501 tw6741167255937200277 tw14050295668527421807 tw11963590704343438279 tw10110521277058887970 tw17136678249332817823 tw3973178962285744083 tw8350062964929417077 tw4349585113923352009 tw11523371093001190360 tw3854205661072734181 tw6364901765532626406 tw17902581674774297853 tw4465484744785216723 tw13834504230471117851 tw5553810901068020953 tw13093686400750377544 tw6390934707156253520 tw7423961995823140193 tw11489625399682079160 tw8909113239881627229 tw2254953067859126743 tw8043466593843124079 tw9679366220502590580 tw7632891492053042438 tw3241011288604983314 tw2486972258074310559 tw16152464838252790344 tw13616265632911069423 tw10677189712086047882 tw12286096262796935336 tw17751412802116949026 tw7845985545089537303 tw4823832712721154048 tw7850748875283259032 tw4546331148096817162 tw13694866532295930684 tw3131609087558379902 tw7817322835167611721 tw9464640261716610214 tw5606217034916378466 tw11512932131147564809 tw5746754151615248704 tw9481213965617482696 tw376202546916359243 tw3649669891665396233 tw14282440730944740895 tw10322075597319121123 tw5695954677966769973 tw12728475173563226515 tw4463728487541220084 tw14142551946936997181 tw13344941569957316171 tw2986888472532513787 tw11388965079116578216 tw8521478799155823246 tw6275811337664306446 tw4925586352724457898 tw4931102582264397288 tw1617896272820426819 tw12934971515625508887 tw11911040881324165705 tw12351440062643408543 tw5317636657954233605 tw12153961931268745700 tw835223497976916519 tw13840137096002242462 tw15478465179383543752 tw12147514276259402046 tw16367041006895076429 tw6565373408605604148 tw13067106509625517089 tw2853233864399780964 tw7985373201271172812 tw11540570571244412319 tw5799628856510353839 tw6388962072126672087 tw2138585309805713608 tw13356674229539058751 tw16500079105396019894 tw14053651055476246695 tw3982614561337422276 tw6778131431924085165 tw10473470125582990460 tw9938512328775781482 tw971147822312387147 tw15093579943887805759 tw1200340821046208086 tw10388741896001224760 tw9170739028457998058 tw7939235575055007822 tw17909667658667689819 tw2969052344072944941 tw17748808889713553256 tw838907117408609988 tw3348886690186989547 tw9997728102282752278 tw11205368477126282848 tw1712840376149118405 tw5503853986175100534 tw4499807030142245206 tw14058251277665037227 tw14442134260287349207 tw10410261195581343666 tw13984323101098930299 tw7156081667606579180 tw7975859879095352125 tw14795405837277999037 tw13355179358045059295 tw6030338433905010344 tw8689852724663051753 tw2243290626854964793 tw2693427797337574858 tw1557021215518526084 tw10325412395061811874 tw11023068532627039102 tw14112542877465595501 tw810455588822826150 tw191364282723714638 tw10860969917009645886 tw3680546488808567296 tw15452957091431698576 tw8737798526617606260 tw1405095963493460465 tw18006177899399519798 tw10269894548205665467 tw4726801182863412204 tw1956383358646084888 tw10108349920953337881 tw7685567795781964238 tw127821089210360496 tw13015804930145316562 tw16529210898678582063 tw16979602224462359082 tw8257674699132865576 tw10474542120798141341 tw5412074868869855405 tw4308991050534789470 tw1300447447187558511 tw17667901769258342603 tw11050255685212366299 tw14885050653168281155 tw15103009952405510003 tw17854139378202615470 tw5938560904243742343 tw12763482962678212213 tw3865339763377936222 tw2262230368456500408 tw3883823900337473270 tw32425194884138139 tw10883050339831595865 tw12995795217054503160 tw537292720233398114 tw13978051827214226397 tw5213732017471686561 tw13381218499372494593 tw5223384857075509323 tw12320601324792329169 tw16002436232899383766 tw13135686807355761290 tw8398738154224465116 tw7052841912902275150 tw11099761929052575845 tw15662828362999159896 tw7513266090726293955 tw3003378612138989843 tw3252171054549871326 tw2109933468546005133 tw14036184009671727681 tw16377638668727607589 tw2178196182643014293 tw15984866757012856292 tw17104813013268104442 tw9900511219785512482 tw4019418924199157895 tw5238139770917751196 tw8718966515080430594 tw13437199349991537245 tw9643001366189280468 tw14956798696991410346 tw5077107638468846649 tw17024938581075863380 tw5219026975740932033 tw16113642650391152252 tw12228546894126158123 tw4592001178276714432 tw7393782990705076590 tw2789599094630595339 tw12593038286502264599 tw526491336567047782 tw9213399071048634157 tw5157382028862799539 tw12252209599962832980 tw10750268010495128545 tw11367189169800258935 tw3405292943260561615 tw8000247341099590477 tw12819567808300014598 tw15785888803199574736 tw2304171555045278581 tw15624190429544472523 tw17504556990330531533 tw3294730024808684578 tw15228643183656089433 tw13462081022107447383 tw13712922999313392379 tw1049687417596875027 tw10146208982281474824 tw5938048496312293816 tw18351512704224502782 tw3296008830119652677:True)
theorem OB.e2{α β}{p:α->β->Prop}{G:Prop}(h:∃ a b,p a b)(k:∀ a b,p a b->G):G:=h.elim fun a h=>Exists.elim h (k a)
theorem OB.e3{α β γ}{p:α->β->γ->Prop}{G:Prop}(h:∃ a b c,p a b c)(k:∀ a b c,p a b c->G):G:=h.elim fun a h=>OB.e2 h (k a)
theorem OB.e4{α β γ δ}{p:α->β->γ->δ->Prop}{G:Prop}(h:∃ a b c d,p a b c d)(k:∀ a b c d,p a b c d->G):G:=h.elim fun a h=>OB.e3 h (k a)
theorem OB.e5{α β γ δ ε}{p:α->β->γ->δ->ε->Prop}{G:Prop}(h:∃ a b c d e,p a b c d e)(k:∀ a b c d e,p a b c d e->G):G:=h.elim fun a h=>OB.e4 h (k a)
theorem OB.e6{α β γ δ ε ζ}{p:α->β->γ->δ->ε->ζ->Prop}{G:Prop}(h:∃ a b c d e f,p a b c d e f)(k:∀ a b c d e f,p a b c d e f->G):G:=h.elim fun a h=>OB.e5 h (k a)
theorem OB.a2{A B G:Prop}(h:A/\B)(k:A->B->G):G:=k h.1 h.2
theorem OB.a3{A B C G:Prop}(h:A/\B/\C)(k:A->B->C->G):G:=OB.a2 h.2 (k h.1)
theorem OB.a4{A B C D G:Prop}(h:A/\B/\C/\D)(k:A->B->C->D->G):G:=OB.a3 h.2 (k h.1)
theorem OB.a5{A B C D E G:Prop}(h:A/\B/\C/\D/\E)(k:A->B->C->D->E->G):G:=OB.a4 h.2 (k h.1)
theorem OB.a6{A B C D E F G:Prop}(h:A/\B/\C/\D/\E/\F)(k:A->B->C->D->E->F->G):G:=OB.a5 h.2 (k h.1)
theorem OB.a7{A B C D E F H G:Prop}(h:A/\B/\C/\D/\E/\F/\H)(k:A->B->C->D->E->F->H->G):G:=OB.a6 h.2 (k h.1)
theorem OB.a8{A B C D E F H I G:Prop}(h:A/\B/\C/\D/\E/\F/\H/\I)(k:A->B->C->D->E->F->H->I->G):G:=OB.a7 h.2 (k h.1)
theorem OB.a9{A B C D E F H I J G:Prop}(h:A/\B/\C/\D/\E/\F/\H/\I/\J)(k:A->B->C->D->E->F->H->I->J->G):G:=OB.a8 h.2 (k h.1)
open Lean in
local macro_rules|`(tactic|obtain⟨$ps,*⟩:=$e:term)=>do
 let mut xs:Array Term:=#[]
 let mut po:Array (TSyntax `tactic):=#[]
 for p in ps.getElems do
  let q:=p.raw[0][0][0]
  let i:=q[0].getId
  unless p.raw[0][0].getNumArgs==1&&p.raw[1].getNumArgs==0 do Macro.throwUnsupported
  let x:=mkIdent (.mkSimple s!"o{xs.size}'")
  if q.isOfKind `Lean.Parser.Tactic.rcasesPat.ignore then xs:=xs.push x
  else if q.isOfKind `Lean.Parser.Tactic.rcasesPat.tuple then
   xs:=xs.push x
   let qs:TSyntaxArray `Lean.Parser.Tactic.rcasesPatLo:=⟨q[1].getSepArgs.toList.map (⟨·⟩)⟩
   po:=po.push (<-`(tactic|obtain⟨$qs,*⟩:=$x:ident))
  else if q.isOfKind `Lean.Parser.Tactic.rcasesPat.one&&q[0].isIdent then
   if i==`rfl then
    xs:=xs.push x
    po:=po.push (<-`(tactic|first|subst $x:ident|cases $x:ident))
   else xs:=xs.push ⟨q[0]⟩
  else Macro.throwUnsupported
 let n:=xs.size
 if e.raw.isIdent&& !xs.any (·.raw.getId==e.raw.getId) then po:=#[(<-`(tactic|try clear $(⟨e.raw⟩):ident))]++po
 let f (c:String)(k:Nat):Term:=⟨mkIdent (if c=="e"&&k==1 then `Exists.elim else .str `OB s!"{c}{k}")⟩
 let mut al:Array (TSyntax `Lean.Parser.Tactic.tacticSeq):=#[]
 for k in [0:n] do
  if k<7&&n-k<10&&1<n then
   let y:=xs.extract k n
   let t<-if k==0 then `($(f "a" n) $e fun $xs* =>?_) else if n-k==1 then `($(f "e" k) $e fun $xs* =>?_) else
    let x:=xs.extract 0 k
    `($(f "e" k) $e fun $x* r=>$(f "a" (n-k)) r fun $y* =>?_)
   al:=al.push (<-`(tacticSeq|refine $t;$[$po]*))
 al:=al.push (<-`(tacticSeq|rcases $e:term with⟨$ps,*⟩))
 `(tactic|first $[|$al]*)
section
namespace L2
open PySem PySem.Spec PyProof.Rows
noncomputable abbrev Key:=Sum Int Str
noncomputable def pI:Key->Value->Bool
 |.inl k,v=>Value.isInt k v
 |.inr x,v=>jb x v
noncomputable def FQ(w:World):Key->Int
 |.inl k=>kx k
 |.inr x=>hashStr w x
theorem yj:∀{k:Key}{v:Value},pI k v=true->(∃ i t,k=Jb i/\v=Ja i t)\/(∃ x t,k=Hb x/\v=ja x t)
 |.inl i,v,h=>by
  obtain⟨t,e⟩:=Value.isInt_shape (k:=i) (v:=v) h;exact .inl ⟨i,t,rfl,e⟩
 |.inr x,v,h=>by
  obtain⟨t,e⟩:=Value.isStrOf_shape (x:=x) (v:=v) h;exact .inr ⟨x,t,rfl,e⟩
theorem qbT(i:Int)(t:Tok):pI (.inl i) (.int i t)=true:=by simp[pI,Value.isInt]
theorem ZbQ(x:Str)(t:Tok):pI (.inr x) (.str x t)=true:=by simp[pI,jb]
theorem zcY(a b:Int):decide ((Jb a:Key)=Jb b)=(a==b):=by
 by_cases e:a=b
 ·subst e;simp
 ·have h:¬(Jb a:Key)=Jb b:=λq=>e (Jb.inj q);rw[decide_eq_false h];exact(beq_eq_false_iff_ne.mpr e).symm
theorem ZcM(a b:Str):decide ((Hb a:Key)=Hb b)=decide (a=b):=by
 by_cases e:a=b
 ·subst e;simp
 ·have h:¬(Hb a:Key)=Hb b:=λq=>e (Hb.inj q);rw[decide_eq_false h,decide_eq_false e]
theorem ycK(a:Int)(b:Str):decide ((Jb a:Key)=Hb b)=false:=decide_eq_false (λq=>nomatch q)
theorem qcT(a:Str)(b:Int):decide ((Hb a:Key)=Jb b)=false:=decide_eq_false (λq=>nomatch q)
noncomputable def yh(prog:ao)(w:World):PySem.KeyKind prog w Key where
 is:=pI
 hash:=FQ w
 inj:=λv a b ha hb=>by
  rcases yj ha with ⟨i,t,rfl,rfl⟩|⟨x,t,rfl,rfl⟩
  ·rcases yj hb with ⟨j,u,rfl,e⟩|⟨y,u,rfl,e⟩
   ·injection e with e1 _;rw[e1]
   ·exact nomatch e
  ·rcases yj hb with ⟨j,u,rfl,e⟩|⟨y,u,rfl,e⟩
   ·exact nomatch e
   ·injection e with e1 _;rw[e1]
 byValue:=λk v h=>by
  rcases yj h with ⟨i,t,rfl,rfl⟩|⟨x,t,rfl,rfl⟩ <;> rfl
 pyHash:=λhv h=>by
  rcases yj hv with ⟨i,t,rfl,rfl⟩|⟨x,t,rfl,rfl⟩
  ·exact wpAny_pyHash_int h
  ·exact wpAny_pyHash_str h
 eqBool:=λhu hv h=>by
  rcases yj hu with ⟨i,t,rfl,rfl⟩|⟨x,t,rfl,rfl⟩
  ·rcases yj hv with ⟨j,u,rfl,rfl⟩|⟨y,u,rfl,rfl⟩
   ·rw[zcY] at h;exact wpAny_eqBool_int h
   ·rw[ycK] at h;exact SeqAt.EqAt.int_str i t y u _ _ _ _ h
  ·rcases yj hv with ⟨j,u,rfl,rfl⟩|⟨y,u,rfl,rfl⟩
   ·rw[qcT] at h;exact SeqAt.EqAt.str_int x t j u _ _ _ _ h
   ·rw[ZcM] at h;exact wpAny_eqBool_str h
 «strs»:=λk x t v h=>by
  rcases yj h with ⟨i,u,rfl,e⟩|⟨y,u,rfl,e⟩
  ·exact nomatch e
  ·injection e with e1 _
   subst e1;cases v <;> rfl
theorem qbf(prog:ao)(w:World)(i:Int)(t:Tok):(yh prog w).is (.inl i) (.int i t)=true:=qbT i t
theorem qbj(prog:ao)(w:World)(x:Str)(t:Tok):(yh prog w).is (.inr x) (.str x t)=true:=ZbQ x t
inductive V where
 |a9|bl (b:Bool)|int (i:Int)|str (x:Str)|Bv (b:Array UInt8)|pV (b:UInt64)|ref (a:af)|ty (n:String)
 deriving DecidableEq
def RelV:V->Value->Prop
 |.a9,u=>u=Ka
 |.bl b,u=>u=Ga b
 |.int i,u=>∃ t,u=Ja i t
 |.str x,u=>∃ t,u=ja x t
 |.Bv b,u=>∃ t,u=Value.bytes b t
 |.pV b,u=>∃ t,u=Kb b t
 |.ref a,u=>u=ka a
 |.ty n,u=>u=Ha n
abbrev Vals:List V->List Value->Prop:=bX RelV
theorem Vals.length{xs:List V}{us:List Value}(r:Vals xs us):xs.length=us.length:=bX.length r
theorem Vals.get:∀{xs:List V}{us:List Value}{i:Nat}{x:V},Vals xs us->xs[i]?=some x->∃ u,us[i]?=some u/\RelV x u
 |_,_,_,_,.nil,e=>by simp at e
 |_,_,0,_,.cons r _,e=>by simp at e;subst e;exact⟨_,rfl,r⟩
 |_,_,i+1,x,.cons _ t,e=>by
  obtain⟨u,h1,h2⟩:=Vals.get (i:=i) (x:=x) t (by simpa using e);exact⟨u,by simpa using h1,h2⟩
theorem Vals.set{x:V}{u:Value}(r:RelV x u):∀{xs:List V}{us:List Value}(i:Nat),Vals xs us->Vals (xs.set i x) (us.set i u)
 |_,_,_,.nil=>.nil
 |_,_,0,.cons _ t=>.cons r t
 |_,_,i+1,.cons q t=>.cons q (Vals.set r i t)
theorem Vals.append:∀{xs ys:List V}{us ws:List Value},Vals xs us->Vals ys ws->Vals (xs++ys) (us++ws)
 |_,_,_,_,.nil,s=>s
 |_,_,_,_,.cons r t,s=>.cons r (Vals.append t s)
theorem Vals.take:∀{xs:List V}{us:List Value}(n:Nat),Vals xs us->Vals (xs.take n) (us.take n)
 |_,_,0,_=>.nil
 |_,_,_+1,.nil=>.nil
 |_,_,n+1,.cons r t=>.cons r (Vals.take n t)
theorem Vals.drop:∀{xs:List V}{us:List Value}(n:Nat),Vals xs us->Vals (xs.drop n) (us.drop n)
 |_,_,0,r=>r
 |_,_,_+1,.nil=>.nil
 |_,_,n+1,.cons _ t=>Vals.drop n t
def jT:Option V->Option Value->Prop
 |some v,some u=>RelV v u
 |none,none=>True
 |_,_=>False
def KV{κ:Type}:List (κ×V)->List (κ×Value)->Prop:=bX λ(p:κ×V)(q:κ×Value)=>p.1=q.1/\RelV p.2 q.2
noncomputable def kV:Key->V
 |.inl i=>.int i
 |.inr x=>.str x
inductive HO where
 |lst (xs:List V)
 |tup (xs:List V)
 |dK (aJ:List (Key×V))|dT (aJ:List (List Key×V))
 |set (S:Int->Bool) (n:Nat)
 |ins (C dx:af) (fs:List (Str×V))
 |own (x:af)
 |xd (fs:List (Str×V))
 |met (f x:af)
 |EZ (lo hi:Int)
 |eI (o:Obj) (u:HO)
 |rE (ps:Array Value)
 |ext (φ:Heap->Prop)
noncomputable abbrev Hp:=af->Option HO
noncomputable def upd(H:Hp)(a:af)(o:HO):Hp:=λb=>if b=a then some o else H b
theorem qg{H:Hp}{a:af}{o:HO}:upd H a o a=some o:=by unfold upd;rw[if_pos rfl]
theorem yd{H:Hp}{a b:af}{o:HO}(h:b≠a):upd H a o b=H b:=by unfold upd;rw[if_neg h]
theorem xR{H:Hp}{a b:af}{o u:HO}(h:H a=some o)(h':H b=some u)(d:o≠u):a≠b:=by
 intro e;subst e;rw[h] at h';exact d (gb.inj h')
theorem Zg{H:Hp}{a b:af}{o:HO}(h:H a=some o)(h':H b=none):a≠b:=by
 intro e;subst e;rw[h] at h';cases h'
section
variable (P:ao) (w:World)
def ba(H:Hp)(h:Heap)(a:af):HO->Prop
 |.lst xs=>xs.length<=sizeLine/\∃(its:List Value)(n:Nat),Vals xs its/\h.get? a=some {cls:=.type "list",data:=.seq its.toArray n}
 |.tup xs=>xs.length<=sizeLine/\∃ its:List Value,Vals xs its/\iq h a its.toArray
 |.dK aJ=>aJ.length<=sizeLine/\(a==bN)=false/\∃ vs,KV aJ vs/\h.DictOf (yh P w) a vs
 |.dT aJ=>aJ.length<=sizeLine/\(a==bN)=false/\∃ xs:List (List Key×af×Value),
   bX (λ(p:List Key×V)(q:List Key×af×Value)=>p.1=q.1/\H q.2.1=some (.tup (p.1.map kV))/\RelV p.2 q.2.2) aJ xs /\
   ∃ o es ep,h.get? a=some o/\o.ExactDict/\o.data=.dict es ep/\es.toList=xs.map (entryOfKey (cz (yh P w)))/\(xs.map (·.1)).Nodup
 |.set S n=>h.SetOf (intKind P w) a S n
 |.ins C dx fs=>H dx=some (.own a)/\fs.length<=1000/\dx≠a/\h.get? a=some (uh C dx) /\
   ∃ mA,h.Ns1 dx mA/\(∀ f,jT (fs.lookup f) (mA f))/\jc mA (fs.map (·.1))
 |.own _=>∃ o,h.get? a=some o
 |.xd fs=>∃ mA,h.Ns1 a mA/\∀ f,jT (fs.lookup f) (mA f)
 |.EZ lo hi=>∃ t u v,h.get? a=some {cls:=.type "range",data:=.fields #[.int lo t,.int hi u,.int 1 v]}
 |.eI o u=>h.get? a=some o/\ba H h a u
 |.rE ps=>h.get? a=some {cls:=.none,data:=.fields ps}
 |.met f x=>h.get? a=some (vy (.ref f) (.ref x))
 |.ext φ=>φ h/\(∃ o,h.get? a=some o)/\∀ h1 h2:Heap,φ h1->(∀ o,h1.get? a=some o->h2.get? a=some o)->φ h2
def fu(H:Hp)(h:Heap):Prop:=∀ a o,H a=some o->ba P w H h a o
end
section
variable {P:ao} {w:World} {H H':Hp} {h h':Heap} {a:af} {o:HO}
theorem ba.lt(x:ba P w H h a o):a<h.objs.size:=by
 cases o with
 |lst xs=>obtain⟨_,_,_,_,e⟩:=x;exact Va e
 |tup xs=>obtain⟨_,_,_,p⟩:=x;exact p.lt
 |dK aJ=>obtain⟨_,_,_,_,o,_,_,e,_⟩:=x;exact Va e
 |dT aJ=>obtain⟨_,_,_,_,o,_,_,e,_⟩:=x;exact Va e
 |set S n=>obtain⟨o,_,_,_,e,_⟩:=x;exact Va e
 |ins C dx fs=>obtain⟨_,_,_,e,_⟩:=x;exact Va e
 |own y=>obtain⟨_,e⟩:=x;exact Va e
 |xd fs=>obtain⟨_,⟨_,_,_,e,_⟩,_⟩:=x;exact Va e
 |EZ lo hi=>obtain⟨_,_,_,e⟩:=x;exact Va e
 |eI ob u=>obtain⟨e,_⟩:=x;exact Va e
 |rE ps=>exact Va (show h.get? a=some _ from x)
 |met f y=>exact Va (show h.get? a=some _ from x)
 |ext φ=>obtain⟨_,⟨_,e⟩,_⟩:=x;exact Va e
theorem bX.rQ{α β:Type}{F G:α->β->Prop}:∀{l₁:List α}{l₂:List β},bX F l₁ l₂->(∀ a b,F a b->G a b)->bX G l₁ l₂
 |_,_,.nil,_=>.nil
 |_,_,.cons r t,f=>.cons (f _ _ r) (bX.rQ t f)
theorem ba.kI(x:ba P w H h a o)(k:∀ b u,(b=a\/H b=some (.own a))->h.get? b=some u->h'.get? b=some u)
  (ho:∀ b,H b=some (.own a)->H' b=some (.own a)) (ht:∀ b xs,H b=some (.tup xs)->H' b=some (.tup xs)):ba P w H' h' a o:=by
 induction o with
 |lst xs=>obtain⟨z,its,n,r,e⟩:=x;exact⟨z,its,n,r,k _ _ (.inl rfl) e⟩
 |tup xs=>obtain⟨z,its,r,ob,e,c⟩:=x;exact⟨z,its,r,ob,k _ _ (.inl rfl) e,c⟩
 |dK aJ=>obtain⟨z,y,vs,r,ob,es,ep,e,c⟩:=x;exact⟨z,y,vs,r,ob,es,ep,k _ _ (.inl rfl) e,c⟩
 |dT aJ =>
  obtain⟨z,y,xs,r,ob,es,ep,e,c⟩:=x;exact⟨z,y,xs,bX.rQ r λp q z=>⟨z.1,ht _ _ z.2.1,z.2.2⟩,ob,es,ep,k _ _ (.inl rfl) e,c⟩
 |set S n=>obtain⟨ob,es,ep,t,e,c⟩:=x;exact⟨ob,es,ep,t,k _ _ (.inl rfl) e,c⟩
 |ins C dx fs =>
  obtain⟨d,z,ne,e,mA,⟨od,es,ep,e2,c⟩,r⟩:=x;exact⟨ho _ d,z,ne,k _ _ (.inl rfl) e,mA,⟨od,es,ep,k _ _ (.inr d) e2,c⟩,r⟩
 |own y=>obtain⟨ob,e⟩:=x;exact⟨ob,k _ _ (.inl rfl) e⟩
 |xd fs=>obtain⟨mA,⟨od,es,ep,e,c⟩,r⟩:=x;exact⟨mA,⟨od,es,ep,k _ _ (.inl rfl) e,c⟩,r⟩
 |EZ lo hi=>obtain⟨t,u,v,e⟩:=x;exact⟨t,u,v,k _ _ (.inl rfl) e⟩
 |eI ob u ih=>obtain⟨e,q⟩:=x;exact⟨k _ _ (.inl rfl) e,ih q⟩
 |rE ps =>
  have e:h.get? a=some {cls:=.none,data:=.fields ps}:=x;show h'.get? a=some {cls:=.none,data:=.fields ps};exact k a _ (.inl rfl) e
 |met f y =>
  have e:h.get? a=some (vy (.ref f) (.ref y)):=x;show h'.get? a=some (vy (.ref f) (.ref y));exact k a _ (.inl rfl) e
 |ext φ=>obtain⟨p,⟨o,e⟩,st⟩:=x;exact⟨st _ _ p λo q=>k _ _ (.inl rfl) q,⟨o,k _ _ (.inl rfl) e⟩,st⟩
theorem fu.lt(x:fu P w H h)(e:H a=some o):a<h.objs.size:=(x a o e).lt
theorem fu.fresh(x:fu P w H h)(e:h.objs.size<=a):H a=none:=by
 cases q:H a with
 |none=>rfl
 |some u=>exact absurd (Uc (x.lt q) e) (Vi _)
theorem fu.kept(x:fu P w H h)(k:∀ b u,h.get? b=some u->h'.get? b=some u):fu P w H h':=λa o e =>
 (x a o e).kI (λb u _ q=>k b u q) (λ_ q=>q) λ_ _ q=>q
theorem fu.laid(x:fu P w H h)(k:∀ b u,h.get? b=some u->h'.get? b=some u)(hp:h.objs.size<=a)(new:ba P w (upd H a o) h' a o):fu P w (upd H a o) h':=λb u e=>by
 have hn:=x.fresh hp;by_cases hb:b=a
 ·subst hb;rw[qg] at e;cases e;exact new
 ·rw[yd hb] at e;exact(x b u e).kI (λc v _ q=>k c v q) (λc q=>by rw[yd (Zg q hn)];exact q) λc xs q=>by rw[yd (Zg q hn)];exact q
end
def Rd(H:Hp)(a:af)(u:HO):Prop:=H a=some u\/∃ o,H a=some (.eI o u)
theorem Rd.of{H:Hp}{a:af}{u:HO}(h:H a=some u):Rd H a u:=.inl h
theorem Rd.ok{P:ao}{w:World}{H:Hp}{h:Heap}{a:af}{u:HO}(r:Rd H a u)(x:fu P w H h):ba P w H h a u:=by
 rcases r with r|⟨o,r⟩
 ·exact x a u r
 ·obtain⟨_,q⟩:=x a _ r;exact q
def BR:Option HO->Prop
 |some (.lst _)=>True
 |some (.dK _)=>True
 |some (.dT _)=>True
 |some (.set _ _)=>True
 |some (.ins _ _ _)=>True
 |some (.ext _)=>True
 |_=>False
section
variable {P:ao} {w:World} {H:Hp} {h h':Heap} {x e:af} {o':HO}
theorem fu.write(ok:fu P w H h)(mu:BR (H x))(he:e=x\/H e=some (.own x))(k:∀ b u,b≠e->h.get? b=some u->h'.get? b=some u)(tF:∃ u,h'.get? e=some u)
  (new:ba P w (upd H x o') h' x o'):fu P w (upd H x o') h':=λb u q=>by
 have nj:∀ c y,H c=some (.own y)->c≠x:=λc y r z=>by subst z;rw[r] at mu;exact mu
 have FD:∀ c xs,H c=some (.tup xs)->c≠x:=λc xs r z=>by subst z;rw[r] at mu;exact mu
 by_cases hb:b=x
 ·subst hb;rw[qg] at q;cases q;exact new
 ·rw[yd hb] at q;by_cases sg:b=e
  ·have q':H b=some (.own x):=by
    rcases he with z|z
    ·exact absurd (sg.trans z) hb
    ·rw[sg];exact z
   rw[q] at q';cases q';obtain⟨v,hv⟩:=tF;exact⟨v,by rw[sg];exact hv⟩
  ·refine(ok b u q).kI (λc v hc r=>k c v ?_ r) (λc r=>by rw[yd (nj c b r)];exact r) λc xs r=>by rw[yd (FD c xs r)];exact r
   rcases hc with rfl|hc
   ·exact sg
   ·rintro rfl
    rcases he with z|z
    ·exact nj c b hc z
    ·rw[hc] at z;cases z;exact hb rfl
end
structure Un (fs ex:List af) (H H':Hp) (h h':Heap):Prop where
 keep:∀ b o,h.get? b=some o->H b=none->b∉fs->b∉ex->h'.get? b=some o
 slot:∀ b o,h.get? b=some o->H b=none->b∈fs->b∉ex->∃ sl,h'.get? b=some {o with slots:=sl}
 free:∀ b o,h.get? b=some o->H b=none->b∉ex->H' b=none
 there:∀ b o,h.get? b=some o->b∉ex->∃ o',h'.get? b=some o'
 jE:∀ b xs,H b=some (.tup xs)->H' b=some (.tup xs)
 ju:∀ b o u,H b=some (.eI o u)->H' b=some (.eI o u)
 jG:∀ b ps,H b=some (.rE ps)->∃ more,H' b=some (.rE (ps++more))
section
variable {fs C6 ex oZ:List af} {H H1 H2:Hp} {h h1 h2 h':Heap} {a x e:af} {o:HO}
theorem Un.any(u:Un fs ex H H1 h h1){b:af}{ob:Obj}(q:h.get? b=some ob)(n:H b=none)(hx:b∉ex):∃ sl,h1.get? b=some {ob with slots:=sl}:=by
 by_cases hb:b∈fs
 ·exact u.slot b ob q n hb hx
 ·exact⟨ob.slots,u.keep b ob q n hb hx⟩
theorem Un.kept(k:∀ b u,h.get? b=some u->h'.get? b=some u):Un fs ex H H h h' :=
 ⟨λb ob q _ _ _=>k b ob q,λb ob q _ _ _=>⟨ob.slots,k b ob q⟩,λ_ _ _ n _=>n,λb ob q _=>⟨ob,k b ob q⟩,λ_ _ q=>q,λ_ _ _ q=>q,λ_ ps q=>⟨#[],by rw[q];simp⟩⟩
theorem Un.refl:Un fs ex H H h h:=Un.kept λ_ _ q=>q
theorem Un.laid(k:∀ b u,h.get? b=some u->h'.get? b=some u)(hp:h.objs.size<=a)(hn:H a=none):Un fs ex H (upd H a o) h h' where
 keep:=λb u q _ _ _=>k b u q
 slot:=λb u q _ _ _=>⟨u.slots,k b u q⟩
 free:=λb u q n _=>by rw[yd (Xc (Uc (Va q) hp))];exact n
 there:=λb u q _=>⟨u,k b u q⟩
 jE:=λb xs q=>by rw[yd (Zg q hn)];exact q
 ju:=λb u xs q=>by rw[yd (Zg q hn)];exact q
 jG:=λb ps q=>⟨#[],by rw[yd (Zg q hn),q];simp⟩
theorem Un.write(mu:BR (H x))(he:e=x\/H e=some (.own x))(k:∀ b u,b≠e->h.get? b=some u->h'.get? b=some u)(tF:∃ u,h'.get? e=some u):Un fs ex H (upd H x o) h h':=by
 have hx:∀ b,H b=none->b≠x:=λb n z=>by subst z;rw[n] at mu;exact mu
 have hb:∀ b,H b=none->b≠e:=λb n z=>by
  subst z
  rcases he with r|r
  ·exact hx b n r
  ·rw[n] at r;cases r
 have hm:∀ b u,H b=some u->¬ BR (some u)->b≠x:=λb u q nm z=>by subst z;rw[q] at mu;exact nm mu
 refine⟨λb u q n _ _=>k b u (hb b n) q,λb u q n _ _=>⟨u.slots,k b u (hb b n) q⟩,λb u q n _=>by rw[yd (hx b n)];exact n,λb u q _=>?_,
  λb xs q=>by rw[yd (hm b _ q λz=>z)];exact q,λb u xs q=>by rw[yd (hm b _ q λz=>z)];exact q,λb ps q=>⟨#[],by rw[yd (hm b _ q λz=>z),q];simp⟩⟩
 by_cases sg:b=e
 ·subst sg;exact tF
 ·exact⟨u,k b u sg q⟩
end
noncomputable def Ca(h:Heap)(H:Hp):List af:=(va h.objs.size).filter λa=>(H a).isSome
noncomputable def oE(h:Heap)(H:Hp):Heap:=PySem.W.hideAll h (Ca h H)
theorem ybP(h:Heap)(H:Hp):(oE h H).objs.size=h.objs.size:=PySem.W.hideAll_size _ _
theorem Yb3{h:Heap}{H:Hp}{b:af}{o:Obj}(e:h.get? b=some o)(n:H b=none):(oE h H).get? b=some o :=
 PySem.W.hideAll_get _ e λhm=>by
  have q:(H b).isSome=true:=(xm.mp hm).2;rw[n] at q;simp at q
theorem Qcj{h:Heap}{H:Hp}{b:af}{o:Obj}(e:(oE h H).get? b=some o):h.get? b=some o/\H b=none:=by
 have e':h.get? b=some o:=PySem.W.of_hideAll (Ca h H) e;refine⟨e',?_⟩;cases q:H b with
 |none=>rfl
 |some x =>
  have hm:b∈Ca h H:=xm.mpr ⟨We.mpr (Va e'),by simp[q]⟩;have z:(oE h H).get? b=none:=PySem.W.hideAll_none (Ca h H) hm;rw[z] at e;cases e
structure Mod (K:gc) (mg:Str->Option Value) (base:Heap):Prop where
 CF:K.In base
 glob:base.Ns aB mg
 blt:∃ mb,base.Ns builtinsNs mb/\∀ x:Str,x≠"__name__"->mb x=bw x
 nolimit:base.NoLimit
structure Cx where
 prog:ao
 w:World
 K:gc
 mg:Str->Option Value
 base:Heap
 A:Around
 N:List Str
 s₀:Shared
 H₀:Hp
 env:Env
 outer:List Env
 stack:List Env
 ex:List af
 fn:Str->Bool
 calm:Bool
 pn:List (af×Obj)
 xe:Value->Shared->Prop
noncomputable def mz(l:List Env):List af:=l.filterMap (·.frame)
noncomputable abbrev Cx.fs(X:Cx):List af:=mz X.outer
def O6(sc:aA)(x:Str):Prop:=sc.names.lookup x=some .local\/sc.names.lookup x=some .cell\/sc.names.lookup x=some .free
def Loc(sc:aA)(x:Str):Prop:=sc.names.lookup x=some .local\/sc.names.lookup x=some .cell
def Look(env:Env)(h:Heap)(m:Str->Option Value)(x:Str)(u:Value):Prop :=
 (env.kindOf x=some .local/\m x=some u)\/((env.kindOf x=some .cell\/env.kindOf x=some .free)/\∃ c,env.cells.lookup x=some c/\h.IsCell c (some u))
structure Cx.Ok (X:Cx):Prop where
 mod:Mod X.K X.mg X.base
 kind:X.env.scope.kind=.function
 glob:X.env.globals=aB
 blt:X.env.builtins=builtinsNs
 above:X.s₀.heap.objs.size<=X.env.locals
 inj:∀ x y c,X.env.cells.lookup x=some c->X.env.cells.lookup y=some c->x=y
 has:∀ x,(X.env.kindOf x=some .cell\/X.env.kindOf x=some .free)->∃ c,X.env.cells.lookup x=some c
 HQ:∀ x c,X.fn x=true->X.env.cells.lookup x=some c->X.s₀.heap.objs.size<=c
 hd:X.calm=true->X.A.handled=none
 frames:X.A.frames=some X.stack
 EL:X.stack=X.outer\/(X.stack=X.env::X.outer/\X.env.frame=some X.env.locals)
 exf:∀ b∈X.ex,b≠X.env.locals/\∀ x c,X.env.cells.lookup x=some c->c≠b
 bs:∀ b o,X.base.get? b=some o->X.s₀.heap.get? b=some o/\X.H₀ b=none
 sx:X.base.objs.size<=X.s₀.heap.objs.size
 rP:∀ b o,X.base.get? b=some o->b∉X.ex
 A1:∀ b∈X.ex,b∉X.fs
 i9:X.s₀.heap.FunFrames X.base X.outer
 AZ:∀ b∈X.fs,X.H₀ b=none
structure Inv (X:Cx) (pins:List (af×Obj)) (σ:List (Option V)) (H:Hp) (s:Shared):Prop where
 ok:X.Ok
 os:s.os=X.s₀.os
 bare:dD s.gens
 base:Un X.fs X.ex X.H₀ H X.s₀.heap s.heap
 loc:∃ m,s.heap.Ns X.env.locals m/\∀(i:Nat)(x:Str)(v:V),X.N[i]?=some x->σ[i]?=some (some v)->O6 X.env.scope x->∃ u,RelV v u/\Look X.env s.heap m x u
 cell:∀ x c,X.env.cells.lookup x=some c->∃ v,s.heap.IsCell c v
 free:H X.env.locals=none
 ic:∀ x c,X.env.cells.lookup x=some c->H c=none
 pin:∀ p∈X.pn++pins,s.heap.get? p.1=some p.2/\H p.1=none/\p.1≠X.env.locals/\p.1∉X.fs/\∀ v,p.2.data≠.cell v
 aR:fu X.prog X.w H s.heap
 len:σ.length=X.N.length
section
variable {X:Cx} {pins:List (af×Obj)} {σ:List (Option V)} {H H':Hp} {s:Shared} {h':Heap}
theorem Cx.Ok.FI(ok:X.Ok){b:af}{o:Obj}(e:X.base.get? b=some o):b∉X.fs:=λhb=>by
 have:=(ok.i9.mem hb).1;rw[e] at this;cases this
theorem Inv.bs(I:Inv X pins σ H s):∀ b o,X.base.get? b=some o->s.heap.get? b=some o/\H b=none:=λb o e =>
 ⟨I.base.keep b o (I.ok.bs b o e).1 (I.ok.bs b o e).2 (I.ok.FI e) (I.ok.rP b o e),I.base.free b o (I.ok.bs b o e).1 (I.ok.bs b o e).2 (I.ok.rP b o e)⟩
theorem Inv.bk(I:Inv X pins σ H s):∀ b o,X.base.get? b=some o->s.heap.get? b=some o:=λb o e=>(I.bs b o e).1
theorem Inv.mod(I:Inv X pins σ H s):Mod X.K X.mg X.base:=I.ok.mod
theorem Inv.iP(I:Inv X pins σ H s):X.K.In s.heap:=I.ok.mod.CF.keeps I.bk
theorem Inv.lt(I:Inv X pins σ H s):X.env.locals<s.heap.objs.size:=let ⟨_,hn,_⟩:=I.loc;hn.lt
theorem Inv.sz(I:Inv X pins σ H s):X.s₀.heap.objs.size<=s.heap.objs.size:=Xe I.ok.above (vz I.lt)
theorem Inv.FH(I:Inv X pins σ H s){a:af}(h:s.heap.objs.size<=a):a∉X.fs:=λhb=>by
 obtain⟨_,o,ho,_⟩:=I.ok.i9.mem hb;exact absurd (Uc (Va ho) (Xe I.sz h)) (Vi _)
theorem Inv.su(I:Inv X pins σ H s):∀ x c,X.env.cells.lookup x=some c->c≠X.env.locals:=λx c e z=>by
 obtain⟨v,o,ho,hd⟩:=I.cell x c e;obtain⟨m,⟨o',es,ep,kF,AS,_⟩,_⟩:=I.loc;rw[z,kF] at ho;cases ho;rw[AS] at hd;cases hd
theorem Inv.i9(I:Inv X pins σ H s):s.heap.FunFrames X.base X.outer:=by
 have all:∀(l:List Env),(∀ b∈mz l,b∈X.fs)->X.s₀.heap.FunFrames X.base l->s.heap.FunFrames X.base l:=by
  intro l
  induction l with
  |nil=>intro _ _;trivial
  |cons env r ih =>
   intro hs hl;obtain⟨hk,⟨L,o,hf,hn,ho,hd⟩,hr⟩:=hl;have hL:L∈X.fs:=hs L (by unfold mz;rw[Vr,hf];exact xi);obtain⟨sl,e⟩:=I.base.slot L o ho (I.ok.AZ L hL) hL λz=>I.ok.A1 L z hL;exact⟨hk,⟨L,_,hf,hn,e,hd⟩,ih (λb hb=>hs b (by unfold mz;rw[Vr,hf];exact Ue _ hb)) hr⟩
 exact all X.outer (λ_ hb=>hb) I.ok.i9
theorem Inv.stack(I:Inv X pins σ H s):s.heap.FunFrames X.base X.stack:=by
 rcases I.ok.EL with e|⟨e,hf⟩
 ·rw[e];exact I.i9
 ·rw[e];obtain⟨m,hn,_⟩:=I.loc;refine .cons (by rw[I.ok.kind];decide) hf hn ?_ I.i9;exact VB (Xe I.ok.sx I.ok.above)
theorem Inv.iu(I:Inv X pins σ H s):∀ b∈mz X.stack,b∈X.env.locals::X.fs:=λb hb=>by
 rcases I.ok.EL with e|⟨e,hf⟩
 ·rw[e] at hb;exact Ue _ hb
 ·rw[e] at hb;unfold mz at hb;rw[Vr,hf] at hb;exact hb
theorem Inv.j1(I:Inv X pins σ H s):∀ b∈mz X.stack,H b=none:=λb hb=>by
 rcases ua.mp (I.iu b hb) with e|hb
 ·rw[e];exact I.free
 ·obtain⟨_,o,ho,_⟩:=I.ok.i9.mem hb;exact I.base.free b o ho (I.ok.AZ b hb) λz=>I.ok.A1 b z hb
theorem Inv.step{g':Array kY}{t':Nat}{d':Drawn}{ch:List af}(I:Inv X pins σ H s)
  (mO:∀ b∈ch,(b∈X.ex\/X.s₀.heap.objs.size<=b)/\b≠X.env.locals/\(∀ x c,X.env.cells.lookup x=some c->c≠b)/\∀ p∈X.pn++pins,p.1≠b)
  (keep:∀ b o,b≠X.env.locals->b∉X.fs->b∉ch->s.heap.get? b=some o->H b=none->h'.get? b=some o)
  (slot:∀ b o,b≠X.env.locals->b∈X.fs->b∉ch->s.heap.get? b=some o->H b=none->∃ sl,h'.get? b=some {o with slots:=sl}) (free:∀ b o,b∉ch->s.heap.get? b=some o->H b=none->H' b=none)
  (there:∀ b o,b∉ch->s.heap.get? b=some o->∃ o',h'.get? b=some o')
  (jE:∀ b xs,H b=some (.tup xs)->H' b=some (.tup xs)) (ju:∀ b o u,H b=some (.eI o u)->H' b=some (.eI o u)) (jG:∀ b ps,H b=some (.rE ps)->∃ more,H' b=some (.rE (ps++more)))
  (ns:∀ m,s.heap.Ns X.env.locals m->h'.Ns X.env.locals m) (aR:fu X.prog X.w H' h') (hg:dD g') :
  Inv X pins σ H' {s with heap:=h',gens:=g',drawn:=d',toks:=t'}:=by
 have MD:∀ b o,X.s₀.heap.get? b=some o->b≠X.env.locals:=λb o e=>Xc (Uc (Va e) I.ok.above);have Cw:∀ b o,X.s₀.heap.get? b=some o->b∉X.ex->b∉ch:=λb o e hx hb=>by
  rcases(mO b hb).1 with z|z
  ·exact hx z
  ·exact absurd (Uc (Va e) z) (Vi _)
 have cellK:∀ x c,X.env.cells.lookup x=some c->∀ v,s.heap.IsCell c v->h'.IsCell c v:=λx c e v ⟨o,ho,hd⟩=>by
  have xS:c∉ch:=λz=>(mO c z).2.2.1 x c e rfl;by_cases hc:c∈X.fs
  ·obtain⟨sl,q⟩:=slot c o (I.su x c e) hc xS ho (I.ic x c e);exact⟨_,q,hd⟩
  ·exact⟨o,keep c o (I.su x c e) hc xS ho (I.ic x c e),hd⟩
 refine⟨I.ok,I.os,hg,⟨λb o e n hb hx=>?_,λb o e n hb hx=>?_,λb o e n hx=>?_,λb o e hx=>?_,λb xs e=>jE b xs (I.base.jE b xs e),λb o xs e=>ju b o xs (I.base.ju b o xs e),λb ps e=>?_⟩,?_,λx c e=>?_,?_,λx c e=>?_,λp hp=>?_,aR,I.len⟩
 ·exact keep b o (MD b o e) hb (Cw b o e hx) (I.base.keep b o e n hb hx) (I.base.free b o e n hx)
 ·obtain⟨sl,e1⟩:=I.base.slot b o e n hb hx;obtain⟨Cg,e2⟩:=slot b _ (MD b o e) hb (Cw b o e hx) e1 (I.base.free b o e n hx);exact⟨Cg,e2⟩
 ·obtain⟨o',e1⟩:=I.base.there b o e hx;exact free b o' (Cw b o e hx) e1 (I.base.free b o e n hx)
 ·obtain⟨o',e1⟩:=I.base.there b o e hx;exact there b o' (Cw b o e hx) e1
 ·obtain⟨m1,e1⟩:=I.base.jG b ps e;obtain⟨m2,e2⟩:=jG b _ e1;exact⟨m1++m2,by rw[e2,Array.append_assoc]⟩
 ·obtain⟨m,hn,hl⟩:=I.loc;refine⟨m,ns m hn,λi x v e1 e2 e3=>?_⟩;obtain⟨u,r,l⟩:=hl i x v e1 e2 e3;refine⟨u,r,?_⟩
  rcases l with l|⟨k,c,e,z⟩
  ·exact .inl l
  ·exact .inr ⟨k,c,e,cellK x c e _ z⟩
 ·obtain⟨v,z⟩:=I.cell x c e;exact⟨v,cellK x c e v z⟩
 ·obtain⟨m,⟨o,_,_,ho,_⟩,_⟩:=I.loc;exact free _ o (λz=>(mO _ z).2.1 rfl) ho I.free
 ·obtain⟨v,o,ho,hd⟩:=I.cell x c e;exact free c o (λz=>(mO c z).2.2.1 x c e rfl) ho (I.ic x c e)
 ·obtain⟨e,n,ne,nf,d⟩:=I.pin p hp;have xS:p.1∉ch:=λz=>(mO p.1 z).2.2.2 p hp rfl;exact⟨keep p.1 p.2 ne nf xS e n,free p.1 p.2 xS e n,ne,nf,d⟩
theorem Inv.un{t':Nat}(I:Inv X pins σ H s)(u:Un X.fs [] H H' s.heap h')(aR:fu X.prog X.w H' h'):Inv X pins σ H' {s with heap:=h',toks:=t'}:=by
 obtain⟨m,⟨o,es,ep,ho,r⟩,_⟩:=id I.loc;obtain⟨sl,hL⟩:=u.any ho I.free (by simp);exact I.step (g':=s.gens) (d':=s.drawn) (ch:=[]) (λ_ z=>nomatch z) (λb o _ hb _ e n=>u.keep b o e n hb (by simp)) (λb o _ hb _ e n=>u.slot b o e n hb (by simp)) (λb o _ e n=>u.free b o e n (by simp)) (λb o _ e=>u.there b o e (by simp)) u.jE u.ju u.jG (λm' hm=>by
  obtain⟨o',jR,A2,kF,r'⟩:=hm;rw[ho] at kF;cases kF;exact⟨_,jR,A2,hL,r'⟩) aR I.bare
theorem Inv.call{g':Array kY}{t':Nat}{d':Drawn}{ch:List af}(I:Inv X pins σ H s)(u:Un (mz X.stack) ch H H' s.heap h')(aR:fu X.prog X.w H' h')(hg:dD g')
  (mO:∀ b∈ch,(b∈X.ex\/X.s₀.heap.objs.size<=b)/\b≠X.env.locals/\(∀ x c,X.env.cells.lookup x=some c->c≠b)/\∀ p∈X.pn++pins,p.1≠b) :
  Inv X pins σ H' {s with heap:=h',gens:=g',drawn:=d',toks:=t'}:=by
 obtain⟨m,⟨o,es,ep,ho,r⟩,_⟩:=id I.loc;obtain⟨sl,hL⟩:=u.any ho I.free λz=>(mO _ z).2.1 rfl;exact I.step (ch:=ch) mO (λb o hL hb hc e n=>u.keep b o e n (λz=>(ua.mp (I.iu b z)).elim hL hb) hc) (λb o _ _ hc e n=>u.any e n hc) (λb o hc e n=>u.free b o e n hc) (λb o hc e=>u.there b o e hc) u.jE u.ju u.jG (λm' hm=>by
  obtain⟨o',jR,A2,kF,r'⟩:=hm;rw[ho] at kF;cases kF;exact⟨_,jR,A2,hL,r'⟩) aR hg
theorem Inv.turned{t':Nat}{it:af}(I:Inv X pins σ H s)(k:∀ b o,b≠it->s.heap.get? b=some o->h'.get? b=some o)(hn:H it=none)(hL:it≠X.env.locals)
  (h1:it∈X.ex\/X.s₀.heap.objs.size<=it) (h2:∀ x c,X.env.cells.lookup x=some c->c≠it) (h3:∀ p∈X.pn++pins,p.1≠it):Inv X pins σ H {s with heap:=h',toks:=t'}:=by
 have MC:∀ b u,H b=some u->b≠it:=λb u e z=>by rw[z,hn] at e;cases e
 refine I.step (g':=s.gens) (d':=s.drawn) (ch:=[it]) (λb hb=>?_) (λb o _ _ hc e _=>k b o (λz=>hc (by simp[z])) e) (λb o _ _ hc e _=>⟨o.slots,k b o (λz=>hc (by simp[z])) e⟩) (λ_ _ _ _ n=>n)
  (λb o hc e=>⟨o,k b o (λz=>hc (by simp[z])) e⟩) (λ_ _ e=>e) (λ_ _ _ e=>e) (λb ps e=>⟨#[],by rw[e];simp⟩) (λm hm=>?_) (λb u e=>?_) I.bare
 ·have e:b=it:=by simpa using hb
  subst e;exact⟨h1,hL,h2,h3⟩
 ·obtain⟨o,es,ep,ho,r⟩:=hm;exact⟨o,es,ep,k _ o (Gd hL) ho,r⟩
 ·refine(I.aR b u e).kI (λc v hc q=>k c v ?_ q) (λ_ q=>q) λ_ _ q=>q
  rcases hc with z|z
  ·rw[z];exact MC b u e
  ·exact MC c _ z
theorem Inv.tok(I:Inv X pins σ H s)(t:Nat):Inv X pins σ H {s with toks:=t}:=I.un (h':=s.heap) (t':=t) Un.refl I.aR
theorem Inv.kept{t':Nat}(I:Inv X pins σ H s)(k:∀ b u,s.heap.get? b=some u->h'.get? b=some u):Inv X pins σ H {s with heap:=h',toks:=t'}:=I.un (Un.kept k) (I.aR.kept k)
theorem Inv.laid{a:af}{o:HO}{t':Nat}(I:Inv X pins σ H s)(k:∀ b u,s.heap.get? b=some u->h'.get? b=some u)(hp:s.heap.objs.size<=a)(new:ba X.prog X.w (upd H a o) h' a o) :
  Inv X pins σ (upd H a o) {s with heap:=h',toks:=t'}:=I.un (Un.laid k hp (I.aR.fresh hp)) (I.aR.laid k hp new)
theorem Inv.write{x e:af}{o:HO}{t':Nat}(I:Inv X pins σ H s)(mu:BR (H x))(he:e=x\/H e=some (.own x))(k:∀ b u,b≠e->s.heap.get? b=some u->h'.get? b=some u)(tF:∃ u,h'.get? e=some u)
  (new:ba X.prog X.w (upd H x o) h' x o):Inv X pins σ (upd H x o) {s with heap:=h',toks:=t'}:=I.un (Un.write mu he k tF) (I.aR.write mu he k tF new)
theorem Inv.pins_of{pJ:List (af×Obj)}(I:Inv X pins σ H s)(h:∀ p∈pJ,s.heap.get? p.1=some p.2/\H p.1=none/\p.1≠X.env.locals/\p.1∉X.fs/\∀ v,p.2.data≠.cell v):Inv X pJ σ H s :=
 ⟨I.ok,I.os,I.bare,I.base,I.loc,I.cell,I.free,I.ic,λp hp=>(vh.mp hp).elim (λz=>I.pin p (xj _ z)) (h p),I.aR,I.len⟩
theorem Lm{N:List Str}(hN:N.Nodup){i j:Nat}{x:Str}(a:N[i]?=some x)(b:N[j]?=some x):i=j:=by
 obtain⟨h1,e1⟩:=Wa.mp a;obtain⟨h2,e2⟩:=Wa.mp b;exact(List.getElem_inj hN).mp (e1.trans e2.symm)
theorem QbS{M:Model}{A:Around}{E:Value->Shared->Prop}{i:Nat}{x:Str}{v:V}{u:Value}{Q:Unit->Shared->Prop}(I:Inv X pins σ H s)(hN:X.N.Nodup)(hi:X.N[i]?=some x)(hx:Loc X.env.scope x)(r:RelV v u)
  (h:∀ s',Inv X pins (σ.set i (some v)) H s'->(∃ a,ke a s.heap s'.heap/\(a=X.env.locals\/X.env.cells.lookup x=some a))->Q () s') (hf:X.fn x=true\/X.env.scope.names.lookup x=some .local:=by first|exact .inl rfl|exact .inr rfl|assumption):ah M A (storeName X.env x u) Q E s:=by
 obtain⟨m,hn,hl⟩:=id I.loc;have G4:(X.env.scope.kind == .class||(X.env.scope.kind == .module&&X.env.locals != X.env.globals))=false:=by rw[I.ok.kind];rfl
 have Ng:i<σ.length:=by rw[I.len];exact(Wa.mp hi).1
 have su:=I.su;have tracked:∀{a:af}{h':Heap},(∃ o,s.heap.get? a=some o/\H a=none)->ke a s.heap h'->fu X.prog X.w H h':=λ{a h'} ha hs b ob e=>by
  obtain⟨_,_,i7⟩:=ha;refine(I.aR b ob e).kI (λc w' hc q=>(hs.2 c ?_).trans q) (λ_ q=>q) λ_ _ q=>q;rintro rfl
  rcases hc with rfl|hc
  ·rw[i7] at e;cases e
  ·rw[i7] at hc;cases hc
 rcases hx with hk|hk
 ·refine wpAny_storeName_local hk hn (λh' hn' hs=>?_) G4;obtain⟨oL,_,_,hoL,_⟩:=id hn;refine h _ ⟨I.ok,I.os,I.bare,⟨λb o e n hb hx=>?_,λb o e n hb hx=>?_,I.base.free,λb o e hx=>?_,I.base.jE,I.base.ju,I.base.jG⟩,⟨_,hn',λj y v' e1 e2 e3=>?_⟩,λy c e=>?_,I.free,I.ic,λp hp=>?_,tracked ⟨oL,hoL,I.free⟩ hs,by simpa using I.len⟩ ⟨_,hs,.inl rfl⟩
  ·exact(hs.2 b (Xc (Uc (Va e) I.ok.above))).trans (I.base.keep b o e n hb hx)
  ·obtain⟨sl,e1⟩:=I.base.slot b o e n hb hx;exact⟨sl,(hs.2 b (Xc (Uc (Va e) I.ok.above))).trans e1⟩
  ·obtain⟨o',e1⟩:=I.base.there b o e hx;exact⟨o',(hs.2 b (Xc (Uc (Va e) I.ok.above))).trans e1⟩
  ·by_cases hj:j=i
   ·subst hj;rw[hi] at e1;cases e1;rw[xl Ng] at e2;cases e2;exact⟨u,r,.inl ⟨hk,by simp⟩⟩
   ·rw[Xk (Gd hj)] at e2;obtain⟨u',r',q⟩:=hl j y v' e1 e2 e3;refine⟨u',r',?_⟩
    rcases q with ⟨k,e⟩|⟨k,c,e,z⟩
    ·refine .inl ⟨k,?_⟩;have:y≠x:=λe=>hj (Lm hN e1 (e ▸ hi));simp[this,e]
    ·exact .inr ⟨k,c,e,z.sameBut hs (su y c e)⟩
  ·obtain⟨w',z⟩:=I.cell y c e;exact⟨w',z.sameBut hs (su y c e)⟩
  ·obtain⟨e,n,ne,nf,d⟩:=I.pin p hp;exact⟨(hs.2 p.1 ne).trans e,n,ne,nf,d⟩
 ·have GU:X.fn x=true:=by
   rcases hf with z|z
   ·exact z
   ·rw[z] at hk;cases hk
  obtain⟨c,hc⟩:=I.ok.has x (.inl hk);obtain⟨w',z⟩:=I.cell x c hc;refine wpAny_storeName_cell I.ok.kind hk hc z (λh' dy hs=>?_);obtain⟨oc,M8,GD⟩:=id z;refine h {s with heap:=h'} ⟨I.ok,I.os,I.bare,⟨λb o e n hb hx=>?_,λb o e n hb hx=>?_,I.base.free,λb o e hx=>?_,I.base.jE,I.base.ju,I.base.jG⟩,⟨m,hn.sameBut hs (Gd (su x c hc)),λj y v' e1 e2 e3=>?_⟩,λy c' e=>?_,I.free,I.ic,λp hp=>?_,tracked ⟨oc,M8,I.ic x c hc⟩ hs,by simpa using I.len⟩ ⟨c,hs,.inr hc⟩
  ·exact(hs.2 b (Xc (Uc (Va e) (I.ok.HQ x c GU hc)))).trans (I.base.keep b o e n hb hx)
  ·obtain⟨sl,e1⟩:=I.base.slot b o e n hb hx;exact⟨sl,(hs.2 b (Xc (Uc (Va e) (I.ok.HQ x c GU hc)))).trans e1⟩
  ·obtain⟨o',e1⟩:=I.base.there b o e hx;exact⟨o',(hs.2 b (Xc (Uc (Va e) (I.ok.HQ x c GU hc)))).trans e1⟩
  ·by_cases hj:j=i
   ·subst hj;rw[hi] at e1;cases e1;rw[xl Ng] at e2;cases e2;exact⟨u,r,.inr ⟨.inl hk,c,hc,dy⟩⟩
   ·rw[Xk (Gd hj)] at e2;obtain⟨u',r',q⟩:=hl j y v' e1 e2 e3;refine⟨u',r',?_⟩
    rcases q with q|⟨k,c',e,z'⟩
    ·exact .inl q
    ·refine .inr ⟨k,c',e,z'.sameBut hs ?_⟩;rintro rfl;exact hj (Lm hN e1 (I.ok.inj _ _ _ e hc ▸ hi))
  ·by_cases Np:c'=c
   ·subst Np;exact⟨_,dy⟩
   ·obtain⟨w2,z2⟩:=I.cell y c' e;exact⟨w2,z2.sameBut hs Np⟩
  ·obtain⟨e,n,ne,nf,d⟩:=I.pin p hp;refine⟨(hs.2 p.1 ?_).trans e,n,ne,nf,d⟩;intro q;rw[q,M8] at e;have q':oc=p.2:=gb.inj e;exact d w' (by rw[<- q'];exact GD)
theorem ZbY{M:Model}{A:Around}{E:Value->Shared->Prop}{i:Nat}{x:Str}{v:V}{u:Value}{Q:Unit->Shared->Prop}(I:Inv X pins σ H s)(hN:X.N.Nodup)(hi:X.N[i]?=some x)(hx:Loc X.env.scope x)(r:RelV v u)
  (h:∀ s',Inv X pins (σ.set i (some v)) H s'->Q () s') (hf:X.fn x=true\/X.env.scope.names.lookup x=some .local:=by first|exact .inl rfl|exact .inr rfl|assumption):ah M A (storeName X.env x u) Q E s :=
 QbS I hN hi hx r (λs' I' _=>h s' I') hf
theorem Inv.pZ{s':Shared}{ch:List af}(I:Inv X pins σ H s)(ho:s'.os=s.os)(u:Un (mz X.stack) ch H H' s.heap s'.heap)(aR:fu X.prog X.w H' s'.heap)(hg:dD s'.gens)
  (mO:∀ b∈ch,(b∈X.ex\/X.s₀.heap.objs.size<=b)/\b≠X.env.locals/\(∀ x c,X.env.cells.lookup x=some c->c≠b)/\∀ p∈X.pn++pins,p.1≠b):Inv X pins σ H' s':=by
 obtain⟨h',g',d',t',o'⟩:=s';have e:o'=s.os:=ho;subst e;exact I.call (g':=g') (t':=t') (d':=d') u aR hg mO
end
noncomputable abbrev XK:=Value->Option af->Hp->Prop
noncomputable abbrev St:=List (Option V)
noncomputable abbrev VK:=V->Hp->Prop
noncomputable abbrev TE:=St->Hp->VK->Prop
noncomputable abbrev TT:=St->Hp->(Bool->Hp->Prop)->Prop
noncomputable abbrev TA:=St->Hp->(List V->Hp->Prop)->Prop
structure Ends where
 nx:St->Hp->Prop
 rt:VK
 bk:St->Hp->Prop:=λ_ _=>False
 ct:St->Hp->Prop:=λ_ _=>False
noncomputable abbrev TS:=Ends->St->Hp->Prop
def EP(X:Cx)(pins:List (af×Obj))(σ:St)(Q:VK)(u:Value)(s':Shared):Prop:=∃ v H',Inv X pins σ H' s'/\RelV v u/\Q v H'
def TP(X:Cx)(pins:List (af×Obj))(σ:St)(Q:Bool->Hp->Prop)(b:Bool)(s':Shared):Prop:=∃ H',Inv X pins σ H' s'/\Q b H'
def AP(X:Cx)(pins:List (af×Obj))(σ:St)(Q:List V->Hp->Prop)(us:List Value)(s':Shared):Prop:=∃ vs H',Inv X pins σ H' s'/\Vals vs us/\Q vs H'
def SP(X:Cx)(pins:List (af×Obj))(D:Ends)(f:Flow)(s':Shared):Prop :=
 match f with
 |.next=>∃ σ' H',Inv X pins σ' H' s'/\D.nx σ' H'
 |.brk=>∃ σ' H',Inv X pins σ' H' s'/\D.bk σ' H'
 |.cont=>∃ σ' H',Inv X pins σ' H' s'/\D.ct σ' H'
 |.ret u=>∃ v σ' H',Inv X pins σ' H' s'/\RelV v u/\D.rt v H'
def PE(X:Cx)(e:Expr)(t:TE):Prop :=
 ∀(pins:List (af×Obj)) (s:Shared) (σ:St) (H:Hp) (Q:VK),Inv X pins σ H s->t σ H Q->ah (aq X.prog X.w) X.A (eval e X.env) (EP X pins σ Q) X.xe s
def PT(X:Cx)(e:Expr)(t:TT):Prop :=
 ∀(pins:List (af×Obj)) (s:Shared) (σ:St) (H:Hp) (Q:Bool->Hp->Prop),Inv X pins σ H s->t σ H Q->ah (aq X.prog X.w) X.A (j8 e X.env (eval e X.env)) (TP X pins σ Q) X.xe s
def PW(X:Cx)(e:Expr)(t:TT):Prop :=
 ∀(whole:Sem Value)(pins:List (af×Obj)) (s:Shared) (σ:St) (H:Hp) (Q:Bool->Hp->Prop),Inv X pins σ H s->t σ H Q->ah (aq X.prog X.w) X.A (j8 e X.env whole) (TP X pins σ Q) X.xe s
theorem PW.pt{X:Cx}{e:Expr}{t:TT}(h:PW X e t):PT X e t:=h _
def PA(X:Cx)(es:List Expr)(t:TA):Prop :=
 ∀(pos:Pos)(pins:List (af×Obj)) (s:Shared) (σ:St) (H:Hp) (Q:List V->Hp->Prop),Inv X pins σ H s->t σ H Q->ah (aq X.prog X.w) X.A (spliced (bV pos (au es X.env))) (AP X pins σ Q) X.xe s
def PS(X:Cx)(st:Stmt)(t:TS):Prop :=
 ∀(pins:List (af×Obj)) (s:Shared) (σ:St) (H:Hp) (D:Ends),Inv X pins σ H s->t D σ H->ah (aq X.prog X.w) X.A (exec st X.env) (SP X pins D) X.xe s
def iL(X:Cx)(st:List Stmt)(t:TS):Prop :=
 ∀(pins:List (af×Obj)) (s:Shared) (σ:St) (H:Hp) (D:Ends),Inv X pins σ H s->t D σ H->ah (aq X.prog X.w) X.A (execs st X.env) (SP X pins D) X.xe s
theorem bf{α:Type}{t:Sem α}{Q Q':α->Shared->Prop}{M:Model}{A:Around}{E:Value->Shared->Prop}{s:Shared}(h:ah M A t Q E s)(hQ:∀ a s,Q a s->Q' a s):ah M A t Q' E s:=bM h hQ λ_ _ x=>x
section
variable {X:Cx}
theorem bin{a b:Expr}{ta tb:TE}(ha:PE X a ta)(hb:PE X b tb){pins:List (af×Obj)}{s:Shared}{σ:St}{H:Hp}{R:V->V->Hp->Prop}(I:Inv X pins σ H s)(h:ta σ H λx H1=>tb σ H1 λy H2=>R x y H2)
  {α:Type} {Q:α->Shared->Prop} {f:Value->Value->Sem α}
  (hf:∀ v u s2 x y H2,Inv X pins σ H2 s2->RelV x v->RelV y u->R x y H2->ah (aq X.prog X.w) X.A (f v u) Q X.xe s2) :
  ah (aq X.prog X.w) X.A (eval a X.env) (λv s₁=>ah (aq X.prog X.w) X.A (eval b X.env) (λu s₂=>ah (aq X.prog X.w) X.A (f v u) Q X.xe s₂) X.xe s₁) X.xe s:=by
 refine bf (ha pins s σ H _ I h) λv s1 ⟨x,H1,I1,r1,q1⟩=>?_;refine bf (hb pins s1 σ H1 _ I1 q1) λu s2 ⟨y,H2,I2,r2,q2⟩=>?_;exact hf v u s2 x y H2 I2 r1 r2 q2
noncomputable def Ew(i:Nat):TE:=λσ H Q=>∃ v,σ[i]?=some (some v)/\Q v H
noncomputable def tC(v:V):TE:=λ_ H Q=>Q v H
theorem QcM{i:Nat}{x:Str}{pos:Pos}(hN:X.N[i]?=some x)(hv:O6 X.env.scope x)(hd:(x==("__debug__":Str))=false:=by decide)(mw:(x==("__classdict__":Str))=false:=by decide):PE X (.Name x pos) (Ew i):=by
 intro pins s σ H Q I h;obtain⟨v,e,h⟩:=h;obtain⟨m,hn,hl⟩:=I.loc;obtain⟨u,r,l⟩:=hl i x v hN e hv;have fin:EP X pins σ Q u s:=⟨v,H,I,r,h⟩
 rcases l with ⟨hk,hm⟩|⟨hk,c,hc,pQ⟩
 ·exact iU (wpAny_loadName_local I.ok.kind hk hn hm fin) hd
 ·rcases hk with hk|hk
  ·exact iU (wpAny_loadName_cell I.ok.kind hk hc pQ fin) hd
  ·exact iU (wpAny_loadName_free I.ok.kind hk hc pQ fin mw) hd
theorem YcX{i j pos}:PE X (.Constant (.int i) j pos) (tC (.int i)):=λ_ _ _ H _ I h=>wpAny_Constant_int ⟨.int i,H,I.tok _,⟨_,rfl⟩,h⟩
theorem Dt{b j pos}:PE X (.Constant (.bool b) j pos) (tC (.bl b)):=λ_ _ _ H _ I h=>Constant_bool ⟨.bl b,H,I,rfl,h⟩
theorem QcQ{j pos}:PE X (.Constant .none j pos) (tC .a9):=λ_ _ _ H _ I h=>jU ⟨.a9,H,I,rfl,h⟩
theorem qcW{x j pos}:PE X (.Constant (.str x) j pos) (tC (.str x)):=λ_ _ _ H _ I h=>Calls.Constant_str ⟨.str x,H,I.tok _,⟨_,rfl⟩,h⟩
def Gl(X:Cx)(x:Str):Prop:=X.env.kindOf x=some .globalImplicit
theorem Dz{E:Value->Shared->Prop}{pins:List (af×Obj)}{s:Shared}{σ:St}{H:Hp}{x:Str}{u:Value}{pos:Pos}{Q:Value->Shared->Prop}(I:Inv X pins σ H s)(hg:Gl X x)(hm:X.mg x=some u)(h:Q u s)
  (hd:(x==("__debug__":Str))=false:=by decide):ah (aq X.prog X.w) X.A (eval (.Name x pos) X.env) Q E s :=
 Ge I.ok.kind hg (Calls.loadGlobal_global (by rw[I.ok.glob];exact I.mod.glob.keeps I.bk) hm h) hd
theorem yI{E:Value->Shared->Prop}{pins:List (af×Obj)}{s:Shared}{σ:St}{H:Hp}{x:Str}{u:Value}{pos:Pos}{Q:Value->Shared->Prop}(I:Inv X pins σ H s)(hg:Gl X x)(hm:X.mg x=none)(hv:bw x=some u)(h:Q u s)
  (hn:x≠"__name__":=by decide) (hd:(x==("__debug__":Str))=false:=by decide):ah (aq X.prog X.w) X.A (eval (.Name x pos) X.env) Q E s:=by
 obtain⟨mb,h1,h2⟩:=I.mod.blt;exact Ge I.ok.kind hg (Calls.loadGlobal_builtin (by rw[I.ok.glob];exact I.mod.glob.keeps I.bk) hm (by rw[I.ok.blt];exact h1.keeps I.bk) ((h2 x hn).trans hv) h) hd
theorem Ek{x:Str}{v:V}{u:Value}{pos:Pos}(hg:Gl X x)(hm:X.mg x=some u)(r:RelV v u)(hd:(x==("__debug__":Str))=false:=by decide):PE X (.Name x pos) (tC v) :=
 λ_ _ _ H _ I h=>Dz I hg hm ⟨v,H,I,r,h⟩ hd
theorem ycw{x:Str}{v:V}{u:Value}{pos:Pos}(hg:Gl X x)(hm:X.mg x=none)(hv:bw x=some u)(r:RelV v u)(hn:x≠"__name__":=by decide)(hd:(x==("__debug__":Str))=false:=by decide):PE X (.Name x pos) (tC v) :=
 λ_ _ _ H _ I h=>yI I hg hm hv ⟨v,H,I,r,h⟩ hn hd
variable {a b:Expr} {ta tb:TE} {pos:Pos}
def PC(X:Cx)(op:eu)(a b:Expr)(t:TE):Prop :=
 ∀(pins:List (af×Obj)) (s:Shared) (σ:St) (H:Hp) (Q:VK),Inv X pins σ H s->t σ H Q ->
  ah (aq X.prog X.w) X.A (eval a X.env) (λv s₁=>ah (aq X.prog X.w) X.A (eval b X.env) (λu s₂=>ah (aq X.prog X.w) X.A (aO op v u) (EP X pins σ Q) X.xe s₂) X.xe s₁) X.xe s
theorem Ph(b:Expr){op:eu}(h:op≠.In)(h2:op≠.NotIn):bA op b=false:=by
 have e1:(op==eu.In)=false:=by cases op <;> first|rfl|exact absurd rfl h
 have e2:(op==eu.NotIn)=false:=by cases op <;> first|rfl|exact absurd rfl h2
 cases b <;> simp[bA,e1,e2]
noncomputable def uU(ta:TE):TE:=λσ H Q=>ta σ H λx H1=>Q (.bl (!decide (x=.a9))) H1
theorem RelV.none_iff{x:V}{v:Value}(r:RelV x v):(v==Ka)=decide (x=.a9):=by
 cases x with
 |a9=>cases r;rfl
 |bl _=>cases r;rfl
 |int _=>obtain⟨t,rfl⟩:=r;rfl
 |str _=>obtain⟨t,rfl⟩:=r;rfl
 |Bv _=>obtain⟨t,rfl⟩:=r;rfl
 |pV _=>obtain⟨t,rfl⟩:=r;rfl
 |ref _=>cases r;rfl
 |ty _=>cases r;rfl
theorem K1{j pos'}(ha:PE X a ta):PC X .IsNot a (.Constant .none j pos') (uU ta):=by
 intro pins s σ H Q I h;refine bf (ha pins s σ H _ I h) λv s1 ⟨x,H1,I1,r1,q1⟩=>?_;exact jU (isnot_none_gen ⟨.bl _,H1,I1,by rw[r1.none_iff];rfl,q1⟩)
noncomputable def tB(t:TE):TT:=λσ H Q=>t σ H λx H1=>∃ c,x=.bl c/\Q c H1
theorem ycL{op:eu}{t:TE}(h:PC X op a b t)(h1:bA op b=false:=by first|exact Ph _ (by decide) (by decide)|rfl):PE X (.Compare a [op] [b] pos) t:=λpins s σ H Q I hw=>iV (h pins s σ H Q I hw) h1
theorem ZcF{op:eu}{t:TE}(h:PC X op a b t)(h1:bA op b=false:=by first|exact Ph _ (by decide) (by decide)|rfl):PT X (.Compare a [op] [b] pos) (tB t):=by
 intro pins s σ H Q I hw;refine fy (bf (h pins s σ H _ I hw) λv s1 h1=>bf h1 λu s2 h2=>bf h2 λc s3 ⟨x,H1,I1,r1,q1⟩=>?_) h1;obtain⟨d,rfl,q⟩:=q1;cases r1;exact aN ⟨H1,I1,q⟩
theorem zcJ{e:Expr}{t:TE}(h:PE X e t)(he:∀ whole,j8 e X.env whole=(do let v<-whole;j2 e.pos;ee [v] (truthy v)):=by intro _;rfl):PT X e (tB t):=by
 intro pins s σ H Q I hw;refine isTrue_plain (bf (h pins s σ H _ I hw) λv s1 ⟨x,H1,I1,r1,q1⟩=>?_) (he _);obtain⟨d,rfl,q⟩:=q1;cases r1;exact aN ⟨H1,I1,q⟩
variable {tA Cd:TT} {rest:List Expr}
noncomputable def EH(t u:TT):TT:=λσ H Q=>t σ H λc H1=>if c=true then u σ H1 Q else Q false H1
noncomputable def tOr(t u:TT):TT:=λσ H Q=>t σ H λc H1=>if c=true then Q true H1 else u σ H1 Q
noncomputable def EB(t:TT):TT:=λσ H Q=>t σ H λc H1=>Q (!c) H1
theorem ycz(ha:PT X a tA):PW X (.BoolOp .And [a] pos) tA:=by
 intro wh pins s σ H Q I h;refine isTrue_and (bf (ha pins s σ H Q I h) λc s1 e=>?_);cases c with
 |true=>exact isTrue_and_nil e
 |false=>exact e
theorem ycQ(ha:PT X a tA):PW X (.BoolOp .Or [a] pos) tA:=by
 intro wh pins s σ H Q I h;refine isTrue_or (bf (ha pins s σ H Q I h) λc s1 e=>?_);cases c with
 |false=>exact isTrue_or_nil e
 |true=>exact e
theorem YcU(ha:PT X a tA)(hb:PW X (.BoolOp .And (b::rest) pos) Cd):PW X (.BoolOp .And (a::b::rest) pos) (EH tA Cd):=by
 intro wh pins s σ H Q I h;refine isTrue_and (bf (ha pins s σ H _ I h) λc s1 ⟨H1,I1,q1⟩=>?_);cases c with
 |true=>exact hb wh pins s1 σ H1 Q I1 q1
 |false=>exact⟨H1,I1,q1⟩
theorem wK(ha:PT X a tA)(hb:PW X (.BoolOp .Or (b::rest) pos) Cd):PW X (.BoolOp .Or (a::b::rest) pos) (tOr tA Cd):=by
 intro wh pins s σ H Q I h;refine isTrue_or (bf (ha pins s σ H _ I h) λc s1 ⟨H1,I1,q1⟩=>?_);cases c with
 |true=>exact⟨H1,I1,q1⟩
 |false=>exact hb wh pins s1 σ H1 Q I1 q1
theorem zcP(ha:PT X a tA):PT X (.UnaryOp .Not a pos) (EB tA):=by
 intro pins s σ H Q I h;exact isTrue_not (ha pins s σ H (λc H1=>Q (!c) H1) I h)
noncomputable def u4(ta tb:TE):TE:=λσ H Q=>ta σ H λx H1=>∃ c,x=.bl c/\if c=true then tb σ H1 Q else Q (.bl false) H1
noncomputable def EA(ta tb:TE):TE:=λσ H Q=>ta σ H λx H1=>∃ c,x=.bl c/\if c=true then Q (.bl true) H1 else tb σ H1 Q
noncomputable def uT(ta:TE):TE:=λσ H Q=>ta σ H λx H1=>∃ c,x=.bl c/\Q (.bl (!c)) H1
theorem NR{op}{t:TE}(h:PE X a t):PE X (.BoolOp op [a] pos) t:=λpins s σ H Q I hw=>BoolOp_one (h pins s σ H Q I hw)
theorem ZcY(ha:PE X a ta)(hb:PE X (.BoolOp .And (b::rest) pos) tb):PE X (.BoolOp .And (a::b::rest) pos) (u4 ta tb):=by
 intro pins s σ H Q I h;refine BoolOp_and (bf (ha pins s σ H _ I h) λv s1 ⟨x,H1,I1,r1,q1⟩=>?_);obtain(⟨c,rfl,q1⟩):=q1;cases r1;refine aN ?_;cases c with
 |true=>exact hb pins s1 σ H1 Q I1 q1
 |false=>exact⟨.bl false,H1,I1,rfl,q1⟩
theorem wO(ha:PE X a ta)(hb:PE X (.BoolOp .Or (b::rest) pos) tb):PE X (.BoolOp .Or (a::b::rest) pos) (EA ta tb):=by
 intro pins s σ H Q I h;refine BoolOp_or (bf (ha pins s σ H _ I h) λv s1 ⟨x,H1,I1,r1,q1⟩=>?_);obtain(⟨c,rfl,q1⟩):=q1;cases r1;refine aN ?_;cases c with
 |false=>exact hb pins s1 σ H1 Q I1 q1
 |true=>exact⟨.bl true,H1,I1,rfl,q1⟩
theorem zcX(ha:PE X a ta):PE X (.UnaryOp .Not a pos) (uT ta):=by
 intro pins s σ H Q I h;refine UnaryOp_ (bf (ha pins s σ H _ I h) λv s1 ⟨x,H1,I1,r1,q1⟩=>?_);obtain(⟨c,rfl,q1⟩):=q1;cases r1;exact not_of (aN ⟨.bl (!c),H1,I1,rfl,q1⟩)
noncomputable def tIf(t:TT)(ta tb:TE):TE:=λσ H Q=>t σ H λc H1=>if c=true then ta σ H1 Q else tb σ H1 Q
theorem zb8{c:Expr}(hc:PT X c tA)(ha:PE X a ta)(hb:PE X b tb):PE X (.IfExp c a b pos) (tIf tA ta tb):=by
 intro pins s σ H Q I h;refine wpAny_IfExp (bf (hc pins s σ H _ I h) λd s1 ⟨H1,I1,q1⟩=>?_);cases d with
 |true=>exact ha pins s1 σ H1 Q I1 q1
 |false=>exact hb pins s1 σ H1 Q I1 q1
end
def gz(K:gc)(H:Hp)(a:af)(xs:List V):Prop :=
 Rd H a (.lst xs) \/
  ∃(o:Obj)(its:Array Value)(n:Nat),K.lookup a=some o/\o.cls=.type "list"/\o.dict=none/\o.data=.seq its n/\its.size<=sizeLine/\Vals xs its.toList
def ik(K:gc)(H:Hp)(a:af)(xs:List V):Prop :=
 Rd H a (.tup xs) \/
  ∃(o:Obj)(its:Array Value)(n:Nat),K.lookup a=some o/\o.cls=.type "tuple"/\o.data=.seq its n/\its.size<=sizeLine/\Vals xs its.toList
noncomputable def HS:Value->Option V
 |.none=>some .a9
 |.bool b=>some (.bl b)
 |.int i _=>some (.int i)
 |.str x _=>some (.str x)
 |.bytes b _=>some (.Bv b)
 |.float b _=>some (.pV b)
 |.ref a=>some (.ref a)
 |.type n=>some (.ty n)
 |_=>none
theorem RelV.abs{x:V}{u:Value}(r:RelV x u):HS u=some x:=by
 cases x with
 |a9=>cases r;rfl
 |bl _=>cases r;rfl
 |int _=>obtain⟨t,rfl⟩:=r;rfl
 |str _=>obtain⟨t,rfl⟩:=r;rfl
 |Bv _=>obtain⟨t,rfl⟩:=r;rfl
 |pV _=>obtain⟨t,rfl⟩:=r;rfl
 |ref _=>cases r;rfl
 |ty _=>cases r;rfl
theorem RelV.inj{x y:V}{u:Value}(r:RelV x u)(q:RelV y u):x=y:=gb.inj (r.abs.symm.trans q.abs)
theorem Vals.inj:∀{xs ys:List V}{us:List Value},Vals xs us->Vals ys us->xs=ys
 |_,_,_,.nil,.nil=>rfl
 |_,_,_,.cons r t,.cons r' t'=>by rw[r.inj r',Vals.inj t t']
section
variable {X:Cx} {pins:List (af×Obj)} {σ:St} {H:Hp} {s:Shared} {a:af} {xs ys:List V}
theorem gz.of{K:gc}(h:H a=some (.lst xs)):gz K H a xs:=.inl (.inl h)
theorem ik.of{K:gc}(h:H a=some (.tup xs)):ik K H a xs:=.inl (.inl h)
theorem Inv.list(I:Inv X pins σ H s)(h:gz X.K H a xs):∃ its:List Value,Vals xs its/\PlainL s.heap a its.toArray/\xs.length<=sizeLine:=by
 rcases h with h|⟨o,its,n,hk,hc,hd,hs,hz,r⟩
 ·obtain⟨z,its,n,r,e⟩:=h.ok I.aR;exact⟨its,r,⟨_,n,e,rfl,rfl,rfl⟩,z⟩
 ·refine⟨its.toList,r,⟨o,n,I.iP a o hk,hc,hd,by simpa using hs⟩,?_⟩;have e:=r.length;simp only[Ws] at e
  lia
theorem Inv.tuple(I:Inv X pins σ H s)(h:ik X.K H a xs):∃ its:List Value,Vals xs its/\iq s.heap a its.toArray/\xs.length<=sizeLine:=by
 rcases h with h|⟨o,its,n,hk,hc,hs,hz,r⟩
 ·obtain⟨z,its,r,p⟩:=h.ok I.aR;exact⟨its,r,p,z⟩
 ·refine⟨its.toList,r,⟨o,I.iP a o hk,hc,n,by simpa using hs⟩,?_⟩;have e:=r.length;simp only[Ws] at e
  lia
theorem Inv.list_inj(I:Inv X pins σ H s)(h:gz X.K H a xs)(h':gz X.K H a ys):xs=ys:=by
 obtain⟨its,r,⟨o,n,e,_,_,d⟩,_⟩:=I.list h;obtain⟨its',r',⟨o',n',e',_,_,d'⟩,_⟩:=I.list h';rw[e] at e';cases e';rw[d] at d';injection d' with d1 _
 have:its=its':=by simpa using congrArg VC d1
 subst this;exact r.inj r'
theorem Inv.tuple_inj(I:Inv X pins σ H s)(h:ik X.K H a xs)(h':ik X.K H a ys):xs=ys:=by
 obtain⟨its,r,⟨o,e,_,n,d⟩,_⟩:=I.tuple h;obtain⟨its',r',⟨o',e',_,n',d'⟩,_⟩:=I.tuple h';rw[e] at e';cases e';rw[d] at d';injection d' with d1 _
 have:its=its':=by simpa using congrArg VC d1
 subst this;exact r.inj r'
end
section
variable {X:Cx} {st:Stmt} {rest:List Stmt} {t u:TS} {e:Expr} {te:TE} {pos:Pos}
noncomputable def LV:TS:=λD σ H=>D.nx σ H
noncomputable def Ey(t u:TS):TS:=λD σ H=>t {D with nx:=u D} σ H
theorem Ycl:iL X [] LV:=λ_ _ σ H _ I h=>iM ⟨σ,H,I,h⟩
theorem Zb2(h1:PS X st t)(h2:iL X rest u):iL X (st::rest) (Ey t u):=by
 intro pins s σ H D I h;refine wpAny_execs_cons (bf (h1 pins s σ H {D with nx:=u D} I h) λf s1 q=>?_);cases f with
 |next =>
  obtain⟨σ',H',I',q⟩:=q;exact h2 pins s1 σ' H' D I' q
 |ret v=>exact q
 |brk=>exact q
 |cont=>exact q
theorem ycl:PS X (.Pass pos) LV:=λ_ _ σ H _ I h=>wpAny_Pass ⟨σ,H,I,h⟩
theorem Inv.quiet{pins:List (af×Obj)}{σ:St}{H:Hp}{s:Shared}(I:Inv X pins σ H s):interactive X.env=false:=by simp[interactive,I.ok.kind]
noncomputable def uX(te:TE):TS:=λD σ H=>te σ H λ_ H1=>D.nx σ H1
theorem Ycv(he:PE X e te)(hs:bc e none pos.line X.env=pure false:=by rfl):PS X (.Expr e pos) (uX te):=by
 intro pins s σ H D I h;exact wpAny_Expr_any (bf (he pins s σ H _ I h) λv s1 ⟨x,H1,I1,r1,q1⟩=>⟨σ,H1,I1,q1⟩) I.quiet hs
noncomputable def Ez(te:TE):TS:=λD σ H=>te σ H D.rt
theorem qcZ(he:PE X e te):PS X (.Return (some e) pos) (Ez te):=by
 intro pins s σ H D I h;exact wpAny_Return_some (bf (he pins s σ H _ I h) λv s1 ⟨x,H1,I1,r1,q1⟩=>⟨x,σ,H1,I1,r1,q1⟩)
noncomputable def EE(c:TT)(t u:TS):TS:=λD σ H=>c σ H λb H1=>if b=true then t D σ H1 else u D σ H1
theorem wL{c:Expr}{a b:List Stmt}{tc:TT}(hc:PT X c tc)(ha:iL X a t)(hb:iL X b u):PS X (.If c a b pos) (EE tc t u):=by
 intro pins s σ H D I h;refine wpAny_If (bf (hc pins s σ H _ I h) λd s1 ⟨H1,I1,q1⟩=>?_);cases d with
 |true=>exact ha pins s1 σ H1 D I1 q1
 |false=>exact hb pins s1 σ H1 D I1 q1
end
noncomputable abbrev TG:=V->St->Hp->(St->Hp->Prop)->Prop
noncomputable abbrev pq:=List V->St->Hp->(St->Hp->Prop)->Prop
def PG(X:Cx)(target:Expr)(t:TG):Prop :=
 ∀(pins:List (af×Obj)) (s:Shared) (σ:St) (H:Hp) (v:V) (u:Value) (Q:St->Hp->Prop),Inv X pins σ H s->RelV v u->t v σ H Q ->
  ah (aq X.prog X.w) X.A (eG target X.env u) (λ_ s'=>∃ σ' H',Inv X pins σ' H' s'/\Q σ' H') X.xe s
def oa(X:Cx)(ts:List Expr)(t:pq):Prop :=
 ∀(pins:List (af×Obj)) (s:Shared) (σ:St) (H:Hp) (vs:List V) (us:List Value) (Q:St->Hp->Prop),Inv X pins σ H s->Vals vs us->t vs σ H Q ->
  ah (aq X.prog X.w) X.A (assignInOrder ((bG ts X.env).map (·.2)) us) (λ_ s'=>∃ σ' H',Inv X pins σ' H' s'/\Q σ' H') X.xe s
noncomputable abbrev sH:=V->V->V->Hp->(Hp->Prop)->Prop
def BQ(X:Cx)(t:sH):Prop :=
 ∀(pins:List (af×Obj)) (s:Shared) (σ:St) (H:Hp) (o i v:V) (ov iv u:Value) (Q:Hp->Prop),Inv X pins σ H s->RelV o ov->RelV i iv->RelV v u->t o i v H Q ->
  ah (aq X.prog X.w) X.A (j4 ov iv u) (λ_ s'=>∃ H',Inv X pins σ H' s'/\Q H') X.xe s
section
variable {X:Cx} {pos:Pos}
noncomputable def Io(i:Nat):TG:=λv σ H Q=>Q (σ.set i (some v)) H
theorem Mc{i:Nat}{x:Str}(hN:X.N.Nodup)(hi:X.N[i]?=some x)(hx:Loc X.env.scope x)(hf:X.fn x=true\/X.env.scope.names.lookup x=some .local:=by first|exact .inl rfl|exact .inr rfl|assumption):PG X (.Name x pos) (Io i):=by
 intro pins s σ H v u Q I r h;exact wpAny_assign_Name (ZbY I hN hi hx r (λs' I'=>⟨_,H,I',h⟩) hf)
noncomputable def Hw:pq:=λvs σ H Q=>vs=[]/\Q σ H
noncomputable def AY(t:TG)(u:pq):pq:=λvs σ H Q=>∃ v r,vs=v::r/\t v σ H λσ' H'=>u r σ' H' Q
theorem qcw:oa X [] Hw:=by
 intro pins s σ H vs us Q I r h;obtain(⟨e,h⟩):=h;subst e;cases r;exact assignInOrder_nil ⟨σ,H,I,h⟩
theorem zcc{e:Expr}{es:List Expr}{t:TG}{u:pq}(h1:PG X e t)(h2:oa X es u)
  (hs:(bG (e::es) X.env).map (·.2)=eG e X.env::(bG es X.env).map (·.2):=by rfl):oa X (e::es) (AY t u):=by
 intro pins s σ H vs us Q I r h;obtain(⟨v,vr,e1,h⟩):=h;subst e1;cases r with
 |cons r rr =>
  rw[hs];refine assignInOrder_cons (bf (h1 pins s σ H _ _ _ I r h) λ_ s1 ⟨σ1,H1,I1,q1⟩=>?_);exact h2 pins s1 σ1 H1 _ _ Q I1 rr q1
noncomputable def Hu(K:gc)(n:Nat)(t:pq):TG:=λv σ H Q=>∃ a xs,v=.ref a/\ik K H a xs/\xs.length=n/\t xs σ H Q
theorem QcZ{es:List Expr}{k:Nat}{t:pq}{n:Nat}(hc:X.calm=true)(h:oa X es t)
  (hn:(bG es X.env).length=n:=by rfl) (F':(bG es X.env).findIdx? (·.1)=none:=by rfl):PG X (.Tuple es k pos) (Hu X.K n t):=by
 intro pins s σ H v u Q I r hw;obtain(⟨a,xs,e1,hq,hl,hw⟩):=hw;subst e1;cases r;obtain(⟨its,rv,ht,hz⟩):=I.tuple hq;refine assign_Tuple_tuple (I.ok.hd hc) ht (by simp[hn,<- hl,rv.length]) F' λh' hx=>?_;have I1:Inv X pins σ H {s with heap:=h'}:=I.kept (t':=s.toks) λb o e=>hx b o (Xc (Va e)) e;exact h pins _ σ H xs _ Q I1 (by simpa using rv) hw
noncomputable def Hv(to ti:TE)(t:sH):TG:=λv σ H Q=>to σ H λo H1=>ti σ H1 λi H2=>t o i v H2 λH3=>Q σ H3
theorem ZcG{o i:Expr}{to ti:TE}{t:sH}(ho:PE X o to)(hi:PE X i ti)(hs:BQ X t)
  (ha:∀ v,eG (.Subscript o i pos) X.env v=(do
   let ov<-ee [v] (eval o X.env)
   let iv<-ee [v,ov] (eval i X.env)
   j2 pos
   ee [v,ov,iv] (j4 ov iv v)
   release [v,ov,iv] []):=by intro _;rfl):PG X (.Subscript o i pos) (Hv to ti t):=by
 intro pins s σ H v u Q I r h;rw[ha];refine ae (aF (bf (ho pins s σ H _ I h) λov s1 ⟨x,H1,I1,r1,q1⟩=>?_));refine ae (aF (bf (hi pins s1 σ H1 _ I1 q1) λiv s2 ⟨y,H2,I2,r2,q2⟩=>?_));refine ae (gA (ae (aF (bf (hs pins s2 σ H2 x y v ov iv u _ I2 r1 r2 r q2) λ_ s3 ⟨H3,I3,q3⟩=>?_))));exact wpAny_release ⟨σ,H3,I3,q3⟩
noncomputable def u3(te:TE)(g:TG):TS:=λD σ H=>te σ H λx H1=>g x σ H1 D.nx
theorem OJ{tg e:Expr}{te:TE}{g:TG}(he:PE X e te)(hg:PG X tg g)(hs:jH [tg] e pos.line X.env=pure false:=by rfl)(hw:gB [tg] e X.env=pure none:=by rfl)
  (h1:(bG [tg] X.env).map (·.2)=[eG tg X.env]:=by rfl):PS X (.Assign [tg] e pos) (u3 te g):=by
 intro pins s σ H D I h;refine wpAny_Assign_stores (bf (he pins s σ H _ I h) λv s1 ⟨x,H1,I1,r1,q1⟩=>?_) hs hw;rw[h1];exact bf (hg pins s1 σ H1 x v _ I1 r1 q1) λ_ s2 q=>q
end
structure It where
 go:Nat->Hp->Prop
 om:Nat->Hp->V->Hp->Prop
 stop:Nat->Hp->Prop
def yK(X:Cx)(pins:List (af×Obj))(H:Hp)(b:af):Prop :=
 H b=none/\b≠X.env.locals/\b∉X.fs/\(b∈X.ex\/X.s₀.heap.objs.size<=b)/\(∀ x c,X.env.cells.lookup x=some c->c≠b)/\∀ p∈X.pn++pins,p.1≠b
theorem Inv.ie{X:Cx}{pins:List (af×Obj)}{σ:St}{H H':Hp}{s:Shared}{b:af}(I:Inv X pins σ H s)(hb:s.heap.objs.size<=b)(hn:H' b=none):yK X pins H' b:=by
 refine⟨hn,Xl (Uc I.lt hb),I.FH hb,.inr (Xe I.sz hb),λx c e z=>?_,λp hp z=>?_⟩
 ·obtain⟨v,q⟩:=I.cell x c e;exact absurd (Uc q.lt (by rw[z];exact hb)) (Vi _)
 ·exact absurd (Uc (Va (I.pin p hp).1) (by rw[z];exact hb)) (Vi _)
structure Turn (P:ao) (w:World) (K:gc) (tg:Expr) (J:It) (fp:List af) (it:af) (tn:Nat->Heap->Prop):Prop where
 mem:it∈fp
 obj:∀ i h,tn i h->∀ b∈fp,∃ o,h.get? b=some o/\∀ v,o.data≠.cell v
 keep:∀ i h h',tn i h->(∀ b∈fp,∀ o,h.get? b=some o->h'.get? b=some o)->tn i h'
 item:∀(X:Cx),X.prog=P->X.w=w->X.K=K->X.calm=true->∀(i:Nat)(pins:List (af×Obj)) (s:Shared) (σ:St) (H:Hp) (E:Value->Shared->Prop),Inv X pins σ H s->(∀ b∈fp,yK X pins H b)->tn i s.heap->J.go i H ->
  ah (aq P w) X.A (bJ (.ref it)) (λr s1=>∃ u,r=some u /\
   ah (aq P w) X.A (cw tg (.ref it) u) (λ_ s2=>∃ x H',Inv X pins σ H' s2/\RelV x u/\J.om i H x H'/\tn (i+1) s2.heap/\∀ b∈fp,H' b=none) E s1) E s
 done:∀(X:Cx),X.prog=P->X.w=w->X.K=K->X.calm=true->∀(i:Nat)(pins:List (af×Obj)) (s:Shared) (σ:St) (H:Hp) (E:Value->Shared->Prop),Inv X pins σ H s->(∀ b∈fp,yK X pins H b)->tn i s.heap->J.stop i H ->
  ah (aq P w) X.A (bJ (.ref it)) (λr s1=>r=none/\Inv X pins σ H s1) E s
 self:∀(A:Around)(i:Nat)(s:Shared)(Q:Value->Shared->Prop)(E:Value->Shared->Prop),tn i s.heap->Q (.ref it) s->ah (aq P w) A (gQ (.ref it)) Q E s
noncomputable abbrev TI:=St->Hp->(It->Hp->Prop)->Prop
def Jy(X:Cx)(pins:List (af×Obj))(σ:St)(tg:Expr)(R:It->Hp->Prop)(CG:Value)(s2:Shared):Prop :=
 ∃(it:af)(fp:List af)(tn:Nat->Heap->Prop)(J:It)(H':Hp),CG=.ref it/\Inv X pins σ H' s2/\Turn X.prog X.w X.K tg J fp it tn/\tn 0 s2.heap/\(∀ b∈fp,yK X pins H' b)/\R J H'
def PI(X:Cx)(tg iter:Expr)(wi:TI):Prop :=
 ∀(pins:List (af×Obj)) (s:Shared) (σ:St) (H:Hp) (R:It->Hp->Prop),Inv X pins σ H s->wi σ H R ->
  ah (aq X.prog X.w) X.A (eval iter X.env) (λv s1=>ah (aq X.prog X.w) X.A (gQ v) (Jy X pins σ tg R) X.xe s1) X.xe s
theorem tP {M:Model} {A:Around} {E:Value→Shared→Prop} {s:Shared} {tg:Expr} {it:af} {u:Value} {o:Obj} {n:String} {vs:Array Value} {Q:Unit→Shared→Prop} (ho:s.heap.get? it=some o) (hc:o.cls=.type n) (hd:o.data=.fields vs)
    (hn:["enumerate","zip","dict_itemiterator","dict_reverseitemiterator","odict_iterator","itertools.zip_longest","itertools.pairwise"].contains n=false) (hQ:Q () s):ah M A (cw tg (.ref it) u) Q E s:=by
  unfold cw
  cases tg <;> first
    | exact ag hQ
    | (cases u <;> first
        | exact ag hQ
        | (refine ae (wpAny_load ho ?_)
           rw [hc,hd]
           show ah M A (if (["enumerate","zip","dict_itemiterator","dict_reverseitemiterator","odict_iterator","itertools.zip_longest","itertools.pairwise"].contains n&&vs[0]? == some (bg _))=true then _ else _) Q E s
           rw [if_neg (by intro h; rw [hn,Bool.false_and] at h; cases h)]
           exact ag hQ))
noncomputable def PX(K:gc)(a:af):It :=
 ⟨λi H=>∃ xs x,gz K H a xs/\xs[i]?=some x,λi H x H'=>H'=H/\∀ xs,gz K H a xs->xs[i]?=some x,λi H=>∃ xs,gz K H a xs/\xs.length<=i⟩
noncomputable def PV(K:gc)(a:af):It :=
 ⟨λi H=>∃ xs x,ik K H a xs/\xs[i]?=some x,λi H x H'=>H'=H/\∀ xs,ik K H a xs->xs[i]?=some x,λi H=>∃ xs,ik K H a xs/\xs.length<=i⟩
noncomputable def BU(lo:Int)(n:Nat):It:=⟨λi _=>i<n,λi H x H'=>H'=H/\x=.int (lo+i),λi _=>n<=i⟩
theorem YbN{P:ao}{w:World}{K:gc}{tg:Expr}(a it:af):Turn P w K tg (PX K a) [it] it (λi h=>h.IsListIter it a i) where
 mem:=by simp
 obj:=λi h st b hb=>by
  have e:b=it:=by simpa using hb
  subst e;obtain⟨o,e,c,d⟩:=st;exact⟨o,e,λv z=>by rw[d] at z;cases z⟩
 keep:=λi h h' st k=>st.at λo e=>k it (by simp) o e
 item:=by
  intro X hP hw hK hc i pins s σ H E I hf st hg;subst hP hw hK;obtain⟨xs,x,hq,hx⟩:=hg;obtain⟨its,rv,p,hz⟩:=I.list hq;obtain⟨u,hu,ru⟩:=rv.get hx;obtain⟨f0,f1,f2,f3,f4,f5⟩:=hf it (by simp);refine eY st p.isList (x:=u) (by simpa using hu) λh' jX sb=>?_;have I1:Inv X pins σ H {s with heap:=h'}:=I.turned (t':=s.toks) (λb o hb e=>(sb.2 b hb).trans e) f0 f1 f3 f4 f5;obtain⟨o,e,c,d⟩:=id jX;exact⟨u,rfl,tP (s:={s with heap:=h'}) e c d (by decide) ⟨x,H,I1,ru,⟨rfl,λys hy=>by rw[I.list_inj hy hq];exact hx⟩,jX,λb hb=>(hf b hb).1⟩⟩
 done:=by
  intro X hP hw hK hc i pins s σ H E I hf st hg;subst hP hw hK;obtain⟨xs,hq,hx⟩:=hg;obtain⟨its,rv,p,hz⟩:=I.list hq;obtain⟨f0,f1,f2,f3,f4,f5⟩:=hf it (by simp);have hl:=rv.length;exact fw (I.ok.hd hc) st p.isList (by simp;lia) λh' eb=>⟨rfl,I.turned (t':=s.toks) (λb o hb e=>eb b o hb e) f0 f1 f3 f4 f5⟩
 self:=λ_ _ _ _ _ st h=>wpAny_pyIter_listiter st h
theorem Qbv{P:ao}{w:World}{K:gc}{tg:Expr}(a it:af):Turn P w K tg (PV K a) [it] it (λi h=>h.IsTupleIter it a i) where
 mem:=by simp
 obj:=λi h st b hb=>by
  have e:b=it:=by simpa using hb
  subst e;obtain⟨o,e,c,d⟩:=st;exact⟨o,e,λv z=>by rw[d] at z;cases z⟩
 keep:=λi h h' st k=>st.at λo e=>k it (by simp) o e
 item:=by
  intro X hP hw hK hc i pins s σ H E I hf st hg;subst hP hw hK;obtain⟨xs,x,hq,hx⟩:=hg;obtain⟨its,rv,p,hz⟩:=I.tuple hq;obtain⟨u,hu,ru⟩:=rv.get hx;obtain⟨f0,f1,f2,f3,f4,f5⟩:=hf it (by simp);refine eJ st (show s.heap.IsTuple a its.toArray from p) (x:=u) (by simpa using hu) λh' jX sb=>?_;have I1:Inv X pins σ H {s with heap:=h'}:=I.turned (t':=s.toks) (λb o hb e=>(sb.2 b hb).trans e) f0 f1 f3 f4 f5;obtain⟨o,e,c,d⟩:=id jX;exact⟨u,rfl,tP (s:={s with heap:=h'}) e c d (by decide) ⟨x,H,I1,ru,⟨rfl,λys hy=>by rw[I.tuple_inj hy hq];exact hx⟩,jX,λb hb=>(hf b hb).1⟩⟩
 done:=by
  intro X hP hw hK hc i pins s σ H E I hf st hg;subst hP hw hK;obtain⟨xs,hq,hx⟩:=hg;obtain⟨its,rv,p,hz⟩:=I.tuple hq;obtain⟨f0,f1,f2,f3,f4,f5⟩:=hf it (by simp);have hl:=rv.length;exact eW (I.ok.hd hc) st (show s.heap.IsTuple a its.toArray from p) (by simp;lia) λh' eb=>⟨rfl,I.turned (t':=s.toks) (λb o hb e=>eb b o hb e) f0 f1 f3 f4 f5⟩
 self:=λ_ _ _ _ _ st h=>eZ st h
theorem Ybs{P:ao}{w:World}{K:gc}{tg:Expr}(it:af)(lo:Int)(n:Nat):Turn P w K tg (BU lo n) [it] it (λi h=>fU h it (lo+(i:Nat)*1) ((n:Int)-(i:Nat)) 1) where
 mem:=by simp
 obj:=λi h st b hb=>by
  have e:b=it:=by simpa using hb
  subst e;exact⟨_,st,λv z=>by
   have z':Data.fields _=Data.cell v:=z;cases z'⟩
 keep:=λi h h' st k=>k it (by simp) _ st
 item:=by
  intro X hP hw hK hc i pins s σ H E I hf st hg;subst hP hw hK;obtain⟨f0,f1,f2,f3,f4,f5⟩:=hf it (by simp);have W:=kX.range (prog:=X.prog) (w:=X.w) (I.ok.hd hc) it lo 1 n;refine W.item i s _ _ hg st λv h' tk hv jX kk=>?_;obtain⟨t,rfl⟩:=hv;have I1:Inv X pins σ H {s with heap:=h',toks:=tk}:=I.turned (λb o hb e=>kk b o (by simpa using hb) e) f0 f1 f3 f4 f5;refine⟨_,rfl,tP (s:={s with heap:=h',toks:=tk}) (n:="range_iterator") jX rfl rfl (by decide) ⟨.int (lo+i),H,I1,⟨t,?_⟩,⟨rfl,rfl⟩,jX,λb hb=>(hf b hb).1⟩⟩;rw[Int.mul_one]
 done:=by
  intro X hP hw hK hc i pins s σ H E I hf st hg;subst hP hw hK;obtain⟨f0,f1,f2,f3,f4,f5⟩:=hf it (by simp);exact eX (I.ok.hd hc) st (by have:n<=i:=hg;lia) λh' eb=>⟨rfl,I.turned (t':=s.toks) (λb o hb e=>eb b o hb e) f0 f1 f3 f4 f5⟩
 self:=λ_ _ _ _ _ st h=>e8 st h
section
variable {X:Cx} {tg:Expr}
theorem OF{pins:List (af×Obj)}{σ:St}{H:Hp}{s:Shared}{R:It->Hp->Prop}{E:Value->Shared->Prop}{lo hi:Int}{t u v:Tok}{tk:Nat}(I:Inv X pins σ H s)(h1:-(2^62)<=lo)(h2:lo<2^62)(h3:-(2^62)<=hi)(h4:hi<2^62)
  (q:R (BU lo (hi-lo).toNat) H):ah (aq X.prog X.w) X.A (gQ (.ref s.heap.objs.size)) (Jy X pins σ tg R) E {s with heap:=s.heap.push {cls:=.type "range",data:=.fields #[.int lo t,.int hi u,.int 1 v]},toks:=tk}:=by
 refine gK (IsRange.new ..) (small_one h1 h2 h3 h4) ?_;have I1:Inv X pins σ H {s with heap:=s.heap.push {cls:=.type "range",data:=.fields #[.int lo t,.int hi u,.int 1 v]},toks:=tk}:=I.kept λb o e=>wa _ e;refine⟨(s.heap.push {cls:=.type "range",data:=.fields #[.int lo t,.int hi u,.int 1 v]}).objs.size,[(s.heap.push {cls:=.type "range",data:=.fields #[.int lo t,.int hi u,.int 1 v]}).objs.size],_,_,H,rfl,
  I1.kept (t':=tk) λb o e=>wa _ e,Ybs _ lo (hi-lo).toNat,?_,λb hb=>?_,q⟩
 ·have e1:lo+((0:Nat):Int)*1=lo:=by simp
  have e2:(((hi-lo).toNat:Nat):Int)-((0:Nat):Int)=kf lo hi 1:=by rw[rangeSize_one];split <;> lia
  show fU _ _ (lo+((0:Nat):Int)*1) ((((hi-lo).toNat:Nat):Int)-((0:Nat):Int)) 1;rw[e1,e2];exact Xb _ rfl
 ·have e:b=(s.heap.push {cls:=.type "range",data:=.fields #[.int lo t,.int hi u,.int 1 v]}).objs.size:=by simpa using hb
  subst e;exact I1.ie (vb _) (I1.aR.fresh (vb _))
noncomputable def Au(ta:TA):TI:=λσ H R=>ta σ H λvs H1=>∃ j:Int,vs=[.int j]/\-(2^62)<=j/\j<2^62/\R (BU 0 j.toNat) H1
noncomputable def As(ta:TA):TI:=λσ H R=>ta σ H λvs H1=>∃ i j:Int,vs=[.int i,.int j]/\(-(2^62)<=i/\i<2^62/\-(2^62)<=j/\j<2^62)/\R (BU i (j-i).toNat) H1
theorem qbV{a:Expr}{ta:TA}{p pos:Pos}(hg:Gl X "range")(hm:X.mg "range"=none)(ha:PA X [a] ta)(hs:au [a] X.env=[(false,eval a X.env)]:=by rfl):PI X tg (.Call (.Name "range" p) [a] [] pos) (Au ta):=by
 intro pins s σ H R I h;refine k8 (yI I hg hm jw (Jf (bf (ha pos pins s σ H _ I h) λus s1 ⟨vs,H1,I1,r1,q1⟩=>?_) hs rfl));obtain(⟨j,e,q1,q2,q⟩):=q1;subst e;cases r1 with
 |cons r rr =>
  cases rr;obtain(⟨t,rfl⟩):=r;exact call_range_1 (OF I1 (by lia) (by lia) q1 q2 (by simpa using q))
theorem ZbU{a b:Expr}{ta:TA}{p pos:Pos}(hg:Gl X "range")(hm:X.mg "range"=none)(ha:PA X [a,b] ta)(hs:au [a,b] X.env=[(false,eval a X.env),(false,eval b X.env)]:=by rfl)(gW:au [b] X.env=[(false,eval b X.env)]:=by rfl) :
  PI X tg (.Call (.Name "range" p) [a,b] [] pos) (As ta):=by
 intro pins s σ H R I h;refine k8 (yI I hg hm jw (Jf (bf (ha pos pins s σ H _ I h) λus s1 ⟨vs,H1,I1,r1,q1⟩=>?_) (by rw[hs,gW]) (by rw[gW];rfl)));obtain⟨i,j,e,⟨q1,q2,q3,q4⟩,q⟩:=q1;subst e;cases r1 with
 |cons r rr =>
  cases rr with
  |cons r' rr =>
   cases rr;obtain⟨t,rfl⟩:=r;obtain⟨t',rfl⟩:=r';exact call_range_2 (OF I1 q1 q2 q3 q4 q)
noncomputable def EF(wi:TI)(g:TG)(tb:TS):TS:=λD σ H=>wi σ H λJ H1=>∃ W:Nat->Nat->St->Hp->Prop,(∃ m,W 0 m σ H1)/\∀ i m σ H,W i m σ H ->
 (J.stop i H/\D.nx σ H)\/(J.go i H/\∃ N:St->Hp->Prop,(∀ σ' H',N σ' H'->∃ m',m'<m/\W (i+1) m' σ' H')/\∀ x H',J.om i H x H'->g x σ H' λσ2 H2=>tb {D with nx:=N,ct:=N,bk:=D.nx} σ2 H2)
noncomputable def sQ(fp:List af)(h:Heap):List (af×Obj):=fp.filterMap λb=>(h.get? b).map λo=>(b,o)
theorem Zr{fp:List af}{h:Heap}{b:af}{o:Obj}(hb:b∈fp)(e:h.get? b=some o):(b,o)∈sQ fp h:=wD.mpr ⟨b,hb,by rw[e];rfl⟩
theorem QbU{fp:List af}{h:Heap}{p:af×Obj}(hp:p∈sQ fp h):p.1∈fp/\h.get? p.1=some p.2:=by
 obtain⟨b,hb,e⟩:=wD.mp hp;cases q:h.get? b with
 |none=>rw[q] at e;cases e
 |some o =>
  rw[q] at e;have e':(b,o)=p:=gb.inj e;subst e';exact⟨hb,q⟩
theorem Inv.pinned{pins:List (af×Obj)}{σ:St}{H:Hp}{s:Shared}{fp:List af}(I:Inv X pins σ H s)(hf:∀ b∈fp,yK X pins H b)(ho:∀ b∈fp,∃ o,s.heap.get? b=some o/\∀ v,o.data≠.cell v):Inv X (pins++sQ fp s.heap) σ H s :=
 I.pins_of λp hp=>(vh.mp hp).elim (λz=>I.pin p (uf _ z)) λz=>by
  obtain⟨hb,e⟩:=QbU z;obtain⟨f0,f1,f2,_⟩:=hf p.1 hb;obtain⟨o,e',d⟩:=ho p.1 hb;rw[e] at e';cases e';exact⟨e,f0,f1,f2,d⟩
theorem Inv.hV{pins pl:List (af×Obj)}{σ:St}{H:Hp}{s:Shared}(I:Inv X (pins++pl) σ H s):Inv X pins σ H s:=I.pins_of λp hp=>I.pin p (uf _ (xj _ hp))
theorem zc0{iter:Expr}{body:List Stmt}{wi:TI}{g:TG}{tb:TS}{pos:Pos}(hp:iD (aq X.prog X.w) X.A X.env X.xe)(hc:X.calm=true)(hi:PI X tg iter wi)(hg:PG X tg g)(hb:iL X body tb)
  (hs:∀ x,cH iter X.env x=pure x:=by intro _;rfl):PS X (.For tg iter body [] pos) (EF wi g tb):=by
 intro pins s σ H D I h;refine wpAny_For (bf (hi pins s σ H _ I h) λv s1 h1=>bf h1 λCG s2 h2=>?_) hs;obtain⟨it,fp,tn,J,H2,e,I2,T,k9,f2,W,⟨m0,w0⟩,turn⟩:=h2;subst e
 -- what stays true of rA lH objects through rA loop
 have rG:∀{H':Hp},(∀ b∈fp,H' b=none)->∀ b∈fp,yK X pins H' b:=λhn b hb=>⟨hn b hb,(f2 b hb).2⟩;refine codeAny_forLoop_any (λn s'=>∃ i σ' H',Inv X pins σ' H' s'/\tn i s'.heap/\(∀ b∈fp,H' b=none)/\W i n σ' H') ?_ m0 ⟨0,σ,H2,I2,k9,λb hb=>(f2 b hb).1,w0⟩;rintro n s3 ⟨i,σ3,H3,I3,LD,NA,w3⟩
 rcases turn i n σ3 H3 w3 with ⟨stop,qn⟩|⟨go,N,hN,step⟩
 ·refine cq hp (bf (T.done X rfl rfl rfl hc i pins s3 σ3 H3 X.xe I3 (rG NA) LD stop) λr s4 ⟨hr,I4⟩=>?_);subst hr;exact iM ⟨σ3,H3,I4,qn⟩
 ·refine cq hp (bf (T.item X rfl rfl rfl hc i pins s3 σ3 H3 X.xe I3 (rG NA) LD go) λr s4 ⟨u,hr,h4⟩=>?_);subst hr;refine cq hp (bf h4 λ_ s5 ⟨x,H5,I5,r5,y5,EM,fr5⟩=>?_);have I5':=I5.pinned (rG fr5) (T.obj _ _ EM);refine cq hp (bf (hg _ s5 σ3 H5 x u _ I5' r5 (step x H5 y5)) λ_ s6 ⟨σ6,H6,I6,q6⟩=>?_);refine cq hp (bf (hb _ s6 σ6 H6 _ I6 q6) λf s7 q7=>?_);have again:∀{σ7:St}{H7:Hp},Inv X (pins++sQ fp s5.heap) σ7 H7 s7->N σ7 H7->∃ m,m<n/\∃ i σ' H',Inv X pins σ' H' s7/\tn i s7.heap/\(∀ b∈fp,H' b=none)/\W i m σ' H':=λ{σ7 H7} I7 n7=>by
   obtain⟨m',hm,w7⟩:=hN σ7 H7 n7;refine⟨m',hm,i+1,σ7,H7,I7.hV,T.keep _ _ _ EM λb hb o e=>(I7.pin (b,o) (uf _ (uf _ (Zr hb e)))).1,λb hb=>?_,w7⟩;obtain⟨o,e,d⟩:=T.obj _ _ EM b hb;exact(I7.pin (b,o) (uf _ (uf _ (Zr hb e)))).2.1
  cases f with
  |next=>obtain⟨σ7,H7,I7,n7⟩:=q7;exact again I7 n7
  |cont=>obtain⟨σ7,H7,I7,n7⟩:=q7;exact again I7 n7
  |brk=>obtain⟨σ7,H7,I7,q7⟩:=q7;exact⟨σ7,H7,I7.hV,q7⟩
  |ret v=>obtain⟨x7,σ7,H7,I7,r7,q7⟩:=q7;exact⟨x7,σ7,H7,I7.hV,r7,q7⟩
end
noncomputable abbrev R2:=V->V->Hp->VK->Prop
def cD(X:Cx)(f:Value->Value->Sem Value)(r:R2):Prop :=
 ∀(pins:List (af×Obj)) (s:Shared) (σ:St) (H:Hp) (x y:V) (v u:Value) (Q:VK),Inv X pins σ H s->RelV x v->RelV y u->r x y H Q ->
  ah (aq X.prog X.w) X.A (f v u) (EP X pins σ Q) X.xe s
def IF(X:Cx)(f:Value->Sem Value)(r:V->Hp->VK->Prop):Prop :=
 ∀(pins:List (af×Obj)) (s:Shared) (σ:St) (H:Hp) (x:V) (v:Value) (Q:VK),Inv X pins σ H s->RelV x v->r x H Q ->
  ah (aq X.prog X.w) X.A (f v) (EP X pins σ Q) X.xe s
def aH(X:Cx)(f:Value)(r:List V->Hp->VK->Prop):Prop :=
 ∀(pins:List (af×Obj)) (s:Shared) (σ:St) (H:Hp) (xs:List V) (us:List Value) (Q:VK),Inv X pins σ H s->Vals xs us->r xs H Q ->
  ah (aq X.prog X.w) X.A (call f us) (EP X pins σ Q) X.xe s
noncomputable def uS(r:R2)(ta tb:TE):TE:=λσ H Q=>ta σ H λx H1=>tb σ H1 λy H2=>r x y H2 Q
noncomputable def tUn(r:V->Hp->VK->Prop)(ta:TE):TE:=λσ H Q=>ta σ H λx H1=>r x H1 Q
noncomputable def rI(C:Int->Int->Prop)(g:Int->Int->V):R2:=λx y H Q=>∃ i j,x=.int i/\y=.int j/\C i j/\Q (g i j) H
noncomputable def pH(g:Int->Int->V):R2:=λx y H Q=>∃ i j,x=.int i/\y=.int j/\Q (g i j) H
def rU(g:Int->V):V->Hp->VK->Prop:=λx H Q=>∃ i,x=.int i/\Q (g i) H
section
variable {X:Cx} {a b c:Expr} {ta tb tc:TE} {pos:Pos}
theorem sy(ha:PE X a ta)(hb:PE X b tb){pins:List (af×Obj)}{s:Shared}{σ:St}{H:Hp}{R:V->V->Hp->Prop}(I:Inv X pins σ H s)
  (h:ta σ H λx H1=>tb σ H1 λy H2=>R x y H2) {Q:Value->Shared->Prop} {f:Value->Value->Sem Value}
  (hf:∀ v u s2 x y H2,Inv X pins σ H2 s2->RelV x v->RelV y u->R x y H2->ah (aq X.prog X.w) X.A (f v u) Q X.xe s2) :
  ah (aq X.prog X.w) X.A (eval a X.env) (λv s₁=>ah (aq X.prog X.w) X.A (eval b X.env) (λu s₂=>ah (aq X.prog X.w) X.A (f v u) Q X.xe s₂) X.xe s₁) X.xe s:=by
 refine bf (ha pins s σ H _ I h) λv s1 ⟨x,H1,I1,r1,q1⟩=>?_;refine bf (hb pins s1 σ H1 _ I1 q1) λu s2 ⟨y,H2,I2,r2,q2⟩=>?_;exact hf v u s2 x y H2 I2 r1 r2 q2
theorem wQ{op:Operator}{r:R2}(ho:cD X (aT op) r)(ha:PE X a ta)(hb:PE X b tb):PE X (.BinOp a op b pos) (uS r ta tb):=by
 intro pins s σ H Q I h;exact wpAny_BinOp (sy ha hb I h λv u s2 x y H2 I2 rx ry q=>ho pins s2 σ H2 x y v u Q I2 rx ry q)
theorem wN{op:UnaryOp}{r:V->Hp->VK->Prop}(ho:IF X (unaryOp op) r)(ha:PE X a ta):PE X (.UnaryOp op a pos) (tUn r ta):=by
 intro pins s σ H Q I h;exact UnaryOp_ (bf (ha pins s σ H _ I h) λv s1 ⟨x,H1,I1,r1,q1⟩=>ho pins s1 σ H1 x v Q I1 r1 q1)
theorem w6{f:Value->Value->Sem Value}{C:Int->Int->Prop}{g:Int->Int->Int}
  (rule:∀(i j:Int)(t u:Tok)(s:Shared)(Q:Value->Shared->Prop)(E:Value->Shared->Prop),C i j->Q (.int (g i j) s.toks) {s with toks:=s.toks+1}->ah (aq X.prog X.w) X.A (f (.int i t) (.int j u)) Q E s) :
  cD X f (rI C λi j=>.int (g i j)):=by
 intro pins s σ H x y v u Q I rx ry h;obtain⟨i,j,rfl,rfl,hc,q⟩:=h;obtain⟨t,rfl⟩:=rx;obtain⟨t',rfl⟩:=ry;exact rule i j t t' s _ _ hc ⟨.int (g i j),H,I.tok _,⟨_,rfl⟩,q⟩
theorem w4{f:Value->Value->Sem Value}{g:Int->Int->Int}
  (rule:∀(i j:Int)(t u:Tok)(s:Shared)(Q:Value->Shared->Prop)(E:Value->Shared->Prop),Q (.int (g i j) s.toks) {s with toks:=s.toks+1}->ah (aq X.prog X.w) X.A (f (.int i t) (.int j u)) Q E s) :
  cD X f (pH λi j=>.int (g i j)):=by
 intro pins s σ H x y v u Q I rx ry h;obtain⟨i,j,rfl,rfl,q⟩:=h;obtain⟨t,rfl⟩:=rx;obtain⟨t',rfl⟩:=ry;exact rule i j t t' s _ _ ⟨.int (g i j),H,I.tok _,⟨_,rfl⟩,q⟩
theorem oG{f:Value->Value->Sem Value}{g:Int->Int->Bool}
  (rule:∀(i j:Int)(t u:Tok)(s:Shared)(Q:Value->Shared->Prop)(E:Value->Shared->Prop),Q (.bool (g i j)) s->ah (aq X.prog X.w) X.A (f (.int i t) (.int j u)) Q E s) :
  cD X f (pH λi j=>.bl (g i j)):=by
 intro pins s σ H x y v u Q I rx ry h;obtain⟨i,j,rfl,rfl,q⟩:=h;obtain⟨t,rfl⟩:=rx;obtain⟨t',rfl⟩:=ry;exact rule i j t t' s _ _ ⟨.bl (g i j),H,I,rfl,q⟩
def JD(i j:Int):Prop:=0<j/\j<1073741824
def JC(i j:Int):Prop:=0<=j/\j<=1000000/\i.natAbs<2^64
theorem qcX:cD X (aT .Add) (pH λi j=>.int (i+j)):=w4 λ_ _ _ _ _ _ _ q=>add_int q
theorem zcG:cD X (aT .Sub) (pH λi j=>.int (i-j)):=w4 λ_ _ _ _ _ _ _ q=>sub_int q
theorem Cp:cD X (aT .FloorDiv) (rI JD λi j=>.int (i/j)):=w6 λi j _ _ _ _ _ hc q=>by
 have h1:(0:Int)<j:=hc.1;have h2:j<1073741824:=hc.2;exact floordiv_int (by lia) (by rw[wy i (by lia)];exact q) (.inl (PyProof.noPylong_small (by lia)))
theorem YcR:cD X (aT .Mod) (rI (λ_ j=>0<j) λi j=>.int (i%j)):=w6 λi j _ _ _ _ _ hc q=>by
 have h1:(0:Int)<j:=hc;exact mod_int' (by lia) (by rw[Int.fmod_eq_emod_of_nonneg i (by lia)];exact q)
theorem zcH:cD X (aT .Pow) (rI JC λi j=>.int (i^j.toNat)):=w6 λ_ _ _ _ _ _ _ hc q=>pow_int_small hc.1 hc.2.1 hc.2.2 q
theorem unI{f:Value->Sem Value}{g:Int->Int}
  (rule:∀(i:Int)(t:Tok)(s:Shared)(Q:Value->Shared->Prop)(E:Value->Shared->Prop),Q (.int (g i) s.toks) {s with toks:=s.toks+1}->ah (aq X.prog X.w) X.A (f (.int i t)) Q E s) :
  IF X f (rU λi=>.int (g i)):=by
 intro pins s σ H x v Q I rx h;obtain⟨i,rfl,q⟩:=h;obtain⟨t,rfl⟩:=rx;exact rule i t s _ _ ⟨.int (g i),H,I.tok _,⟨_,rfl⟩,q⟩
theorem QcW:IF X (unaryOp .USub) (rU λi=>.int (-i)):=unI λ_ _ _ _ _ q=>neg_int q
end
section
variable {X:Cx} {a b c:Expr} {ta tb tc:TE} {pos:Pos}
theorem zcN{pins:List (af×Obj)}{σ:St}{H:Hp}{s:Shared}{Q:VK}{k k':Bool}(I:Inv X pins σ H s)(q:Q (.bl k) H)(e:k=k'):EP X pins σ Q (.bool k') s:=by
 subst e;exact⟨.bl k,H,I,rfl,q⟩
theorem wW:cD X (aO .Lt) (pH λi j=>.bl (decide (i<j))):=oG λ_ _ _ _ _ _ _ q=>lt_int q
theorem wX:cD X (aO .LtE) (pH λi j=>.bl (decide (i<=j))):=oG λ_ _ _ _ _ _ _ q=>le_int q
theorem wY:cD X (aO .Gt) (pH λi j=>.bl (decide (j<i))):=oG λ_ _ _ _ _ _ _ q=>gt_int q
theorem wZ:cD X (aO .GtE) (pH λi j=>.bl (decide (j<=i))):=oG λ_ _ _ _ _ _ _ q=>ge_int q
theorem Lg:cD X (aO .In) (λx y H Q=>∃ i j,x=.str i/\y=.str j/\Q (.bl (!(Gf j i 0 j.length 1).isEmpty)) H):=by
 intro pins s σ H x y v u Q I rx ry h;obtain⟨i,j,rfl,rfl,q⟩:=h;obtain⟨t,rfl⟩:=rx;obtain⟨t',rfl⟩:=ry;exact in_str (zcN I q rfl)
theorem N7{op:eu}{r:R2}(ho:cD X (aO op) r)(ha:PE X a ta)(hb:PE X b tb)(hm:bA op b=false):PE X (.Compare a [op] [b] pos) (uS r ta tb):=by
 intro pins s σ H Q I h;exact iV (sy ha hb I h λv u s2 x y H2 I2 rx ry q=>ho pins s2 σ H2 x y v u Q I2 rx ry q) hm
noncomputable def DN(t:TE):TT:=λσ H Q=>t σ H λx H'=>∃ k,x=.bl k/\Q k H'
theorem LW{op:eu}{r:R2}(ho:cD X (aO op) r)(ha:PE X a ta)(hb:PE X b tb)(hm:bA op b=false):PT X (.Compare a [op] [b] pos) (DN (uS r ta tb)):=by
 intro pins s σ H Q I h;refine fy (bf (ha pins s σ H _ I h) λv s1 ⟨x,H1,I1,r1,q1⟩=>bf (hb pins s1 σ H1 _ I1 q1) λu s2 ⟨y,H2,I2,r2,q2⟩ =>
  bf (ho pins s2 σ H2 x y v u _ I2 r1 r2 q2) λc s3 ⟨z,H3,I3,r3,k,e,q3⟩=>?_) hm
 subst e;cases r3;exact aN ⟨H3,I3,q3⟩
noncomputable def Oc(r r':R2)(ta tb tc:TE):TE:=λσ H Q=>ta σ H λx H1=>tb σ H1 λy H2=>r x y H2 λz H3=>∃ k,z=.bl k /\
 (if k=true then tc σ H3 λw' H4=>r' y w' H4 Q else Q (.bl false) H3)
theorem zb1{op j5:eu}{r r':R2}(ho:cD X (aO op) r)(kF:cD X (aO j5) r')(ha:PE X a ta)(hb:PE X b tb)(hc:PE X c tc)
  (hm:lastMarks [op,j5] [b,c]=false:=by with_unfolding_all rfl):PE X (.Compare a [op,j5] [b,c] pos) (Oc r r' ta tb tc):=by
 intro pins s σ H Q I h;refine Compare_chain (bf (ha pins s σ H _ I h) λv s1 ⟨x,H1,I1,r1,q1⟩=>chain_link (bf (hb pins s1 σ H1 _ I1 q1) λu s2 ⟨y,H2,I2,r2,q2⟩ =>
  bf (ho pins s2 σ H2 x y v u _ I2 r1 r2 q2) λd s3 ⟨z,H3,I3,r3,k,e,q3⟩=>?_)) hm
 subst e;cases r3;refine aN ?_;cases k with
 |false=>exact ite_ff ⟨.bl false,H3,I3,rfl,q3⟩
 |true=>exact ite_tt (chain_last (bf (hc pins s3 σ H3 _ I3 q3) λw' s4 ⟨z',H4,I4,r4,q4⟩=>kF pins s4 σ H4 y z' u w' Q I4 r2 r4 q4))
theorem Yb2{op j5:eu}{r r':R2}(ho:cD X (aO op) r)(kF:cD X (aO j5) r')(ha:PE X a ta)(hb:PE X b tb)(hc:PE X c tc)
  (hm:lastMarks [op,j5] [b,c]=false:=by with_unfolding_all rfl):PT X (.Compare a [op,j5] [b,c] pos) (DN (Oc r r' ta tb tc)):=by
 intro pins s σ H Q I h;refine isTrue_chain (bf (ha pins s σ H _ I h) λv s1 ⟨x,H1,I1,r1,q1⟩=>test_link (bf (hb pins s1 σ H1 _ I1 q1) λu s2 ⟨y,H2,I2,r2,q2⟩ =>
  bf (ho pins s2 σ H2 x y v u _ I2 r1 r2 q2) λd s3 ⟨z,H3,I3,r3,k,e,q3⟩=>?_)) hm
 subst e;cases r3;refine aN ?_;cases k with
 |false =>
  obtain⟨k',e',q'⟩:=q3;cases e';exact ite_ff ⟨H3,I3,q'⟩
 |true =>
  refine ite_tt (test_last (bf (hc pins s3 σ H3 _ I3 q3) λw' s4 ⟨z',H4,I4,r4,q4⟩=>bf (kF pins s4 σ H4 y z' u w' _ I4 r2 r4 q4) λd' s5 ⟨z2,H5,I5,r5,k2,e2,q5⟩=>?_));subst e2;cases r5;exact aN ⟨H5,I5,q5⟩
theorem tO:(sizeLine:Nat)<2^63:=by rw[cC];decide
theorem tQ{x:V}{us:List Value}(r:Vals [x] us):∃ u,us=[u]/\RelV x u:=by
 cases r with
 |cons r1 r2=>cases r2;exact⟨_,rfl,r1⟩
theorem OA{x y:V}{us:List Value}(r:Vals [x,y] us):∃ u w',us=[u,w']/\RelV x u/\RelV y w':=by
 cases r with
 |cons r1 r2 =>
  cases r2 with
  |cons r3 r4=>cases r4;exact⟨_,_,rfl,r1,r3⟩
theorem yb4:aH X (.builtin "abs") (λxs H Q=>∃ i,xs=[.int i]/\Q (.int (if i<0 then -i else i)) H):=by
 intro pins s σ H xs us Q I r h;obtain⟨i,rfl,q⟩:=h;obtain⟨u,rfl,t,rfl⟩:=tQ r;exact call_abs_int λu tk=>⟨.int (if i<0 then -i else i),H,I.tok _,⟨_,rfl⟩,q⟩
theorem zbP(hc:X.calm=true):aH X (.builtin "max") (λxs H Q=>∃ i j,xs=[.int i,.int j]/\Q (.int (if j>i then j else i)) H):=by
 intro pins s σ H xs us Q I r h;obtain⟨i,j,rfl,q⟩:=h;obtain⟨u,w',rfl,⟨t,rfl⟩,⟨t',rfl⟩⟩:=OA r;refine max_two_ints (I.ok.hd hc) λh' tk k=>⟨_,H,I.kept k,?_,q⟩;by_cases hj:j>i
 ·rw[if_pos hj,if_pos hj];exact⟨_,rfl⟩
 ·rw[if_neg hj,if_neg hj];exact⟨_,rfl⟩
theorem zbN(hc:X.calm=true):aH X (.builtin "min") (λxs H Q=>∃ i j,xs=[.int i,.int j]/\Q (.int (if j<i then j else i)) H):=by
 intro pins s σ H xs us Q I r h;obtain⟨i,j,rfl,q⟩:=h;obtain⟨u,w',rfl,⟨t,rfl⟩,⟨t',rfl⟩⟩:=OA r;refine min_two_ints (I.ok.hd hc) λh' tk k=>⟨_,H,I.kept k,?_,q⟩;by_cases hj:j<i
 ·rw[if_pos hj,if_pos hj];exact⟨_,rfl⟩
 ·rw[if_neg hj,if_neg hj];exact⟨_,rfl⟩
theorem zaU:aH X (.type "str") (λxs H Q=>∃ i,xs=[.int i]/\i.natAbs.log2<1920/\Q (.str (toString i)) H):=by
 intro pins s σ H xs us Q I r h;obtain⟨i,rfl,hz,q⟩:=h;obtain⟨u,rfl,t,rfl⟩:=tQ r;exact PySem.P.str_of_int hz ⟨.str _,H,I.tok _,⟨_,rfl⟩,q⟩
end
structure mD (h:Heap) (x dx C:af) (mA:Str->Option Value):Prop where
 obj:h.get? x=some (uh C dx)
 ns:h.Ns1 dx mA
 ne:dx≠x
theorem ZbH{h:Heap}{dx:af}{mA:Str->Option Value}(n:h.Ns1 dx mA):∃ od,h.get? dx=some od/\∀ name,uB name od=some (mA name):=by
 obtain⟨o,es,ep,ho,hd,hk,_,hm⟩:=n;refine⟨o,ho,λname=>?_⟩;have e:=hm name;unfold nsFind findBy at e;rw[<- Array.find?_toList] at e;unfold uB;rw[hd];dsimp only;split
 ·rename_i y q;rw[q] at e;exact congrArg some e
 ·rename_i q;rw[q] at e;have a:es.toList.any (·.refKey)=false:=by
   rw[UE];intro y hy;obtain⟨z,t,GN⟩:=hk y (Array.mem_toList_iff.mp hy);simp[DictEntry.refKey,GN]
  have a':¬ es.toList.any (·.refKey)=true:=by rw[a];exact Wm
  rw[if_neg a'];exact congrArg some e
theorem mD.look{h:Heap}{x dx C:af}{mA:Str->Option Value}(I:mD h x dx C mA):∃ od,PySem.W.InstAt h x (uh C dx) C (some od)/\∀ name,uB name od=some (mA name) :=
 let ⟨od,ho,hl⟩:=ZbH I.ns
 ⟨od,⟨I.obj,rfl,rfl,ho⟩,hl⟩
section
variable {prog:ao} {w:World} {A:Around} {E:Value->Shared->Prop} {s:Shared} {K:gc} {x dx C f:af} {mA:Str->Option Value} {name:Str} {v:Value}
theorem yct{expr:Bool}{Q:Value->Shared->Prop}(X:K.In s.heap)(I:mD s.heap x dx C mA)(hg:Xv K C name=true)(hh:Xu K C=true)
  (ha:Ve K (.ref C) name=some none) (hv:mA name=some v) (hv':UF v=true) (h:Q v {s with toks:=s.toks+1}) :
  ah (aq prog w) A (getAttr (.ref x) name expr) Q E s:=by
 obtain⟨od,J,hl⟩:=I.look;exact PySem.W.get_value X J (PySem.W.plainGet_of hg).1 (PySem.W.findObj_own hh ha rfl (by rw[hl,hv])) hv' h
theorem ycu{ns:List Str}{Q:Unit->Shared->Prop}(X:K.In s.heap)(I:mD s.heap x dx C mA)
  (hs:Ve K (.ref C) "__setattr__"=some (some (.builtin "object.__setattr__"))) (hp:Vy K C=true) (ht:xA K C name=some none) (hh:Xu K C=true)
  (hw:jc mA ns) (hsz:ns.length<=sizeLine)
  (h:∀ h',mD h' x dx C (λy=>if y=name then some v else mA y)->ke dx s.heap h'->Q () {s with heap:=h',toks:=s.toks+2}) :
  ah (aq prog w) A (setAttr (.ref x) name v) Q E s:=by
 obtain⟨od,J,hl⟩:=I.look;refine PySem.W.set_plain X J hs (PySem.W.osa_open (s:={s with toks:=s.toks+1}) (r:=none) X J hp ht λb=>?_);obtain⟨cd,hc,AS⟩:=PySem.W.any_some hh;have hx:s.heap.get? x=some ⟨.ref C,some dx,.plain,#[]⟩:=I.obj;refine ae (ag (ae (ae (wpAny_loadPart hx (ae (PySem.W.Looks.here (s:={s with toks:=s.toks+1}) (PySem.W.looks_clsIn X hc) ?_))))));rw[AS];refine ag (a:=some dx) (ae (ag (ae ?_)));refine wpAny_nsSet1 (s:={s with toks:=s.toks+1}) I.ns λh' CW gW=>?_;obtain⟨oD,esD,epD,hoD,hdD,hcD⟩:=CW.count (PySem.Within.cons name v hw);refine ae (wpAny_lookBehind hoD (by rw[hdD];exact pastItsLine_dict (Xe hcD (by rw[ud];lia))) ?_);exact ag (h _ ⟨(gW.2 _ (Gd I.ne)).trans I.obj,CW,I.ne⟩ gW)
theorem zbY{R:jB->Shared->Prop}{vs:List Value}{kw:List (Str×Value)}(X:K.In s.heap)(hm:Wt K C=true)
  (hi:Ve K (.ref C) "__init__"=some (some (.ref f))) (hf:Xx K (.ref f)=some (.type "function"))
  (h:bL (aq prog w) (A.under (.builtin "type.__call__" ⟨.ref C::vs,kw⟩)) (.call (.ref f) ⟨.ref (s.heap.objs.size+1)::vs,kw⟩) (jd (s.heap.objs.size+1) R)
   {s with heap:=(s.heap.push Xg).push (uh C s.heap.objs.size)}) :
  bL (aq prog w) A (.call (.ref C) ⟨vs,kw⟩) R s:=by
 obtain⟨hh,g,d,t,os⟩:=s;exact vE (Vz X hm) (wC X hi) (λself=>PySem.W.bind_fn X self hf) (.inl rfl) h
theorem ybM{R:jB->Shared->Prop}(X:K.In s.heap)(hm:Wt K C=true)
  (hi:Ve K (.ref C) "__init__"=some (some (.builtin "object.__init__")))
  (hb:∀ self,Kd (aq prog w) s.heap (bindSpecial (.builtin "object.__init__") self) (.builtin "object.__init__",[self]))
  (h:bL (aq prog w) (A.under (.builtin "type.__call__" ⟨[.ref C],[]⟩)) (.call (.builtin "object.__init__") ⟨[.ref (s.heap.objs.size+1)],[]⟩) (jd (s.heap.objs.size+1) R)
   {s with heap:=(s.heap.push Xg).push (uh C s.heap.objs.size)}) :
  bL (aq prog w) A (.call (.ref C) ⟨[],[]⟩) R s:=by
 obtain⟨hh,g,d,t,os⟩:=s;exact vE (Vz X hm) (wC X hi) hb (.inr ⟨rfl,rfl⟩) h
end
noncomputable def zH(f:Str)(v:V):List (Str×V)->List (Str×V)
 |[]=>[(f,v)]
 |(g,x)::r=>if g=f then(g,v)::r else(g,x)::zH f v r
theorem Ld(f g:Str)(v:V):∀ fs:List (Str×V),(zH f v fs).lookup g=if g=f then some v else fs.lookup g
 |[]=>by
  show ur g [(f,v)]=_;by_cases h:g=f
  ·have hb:(g==f)=true:=beq_iff_eq.mpr h;simp only[ur,hb,if_pos h]
  ·have hb:(g==f)=false:=beq_eq_false_iff_ne.mpr h;simp only[ur,hb,if_neg h]
 |(k,x)::r=>by
  have ih:=Ld f g v r;rw[show zH f v ((k,x)::r)=(if k=f then(k,v)::r else(k,x)::zH f v r) from rfl];by_cases hk:k=f
  ·rw[if_pos hk];by_cases h:g=k
   ·have hb:(g==k)=true:=beq_iff_eq.mpr h;simp only[ur,hb,if_pos (h.trans hk)]
   ·have hb:(g==k)=false:=beq_eq_false_iff_ne.mpr h;simp only[ur,hb,if_neg (λe:g=f=>h (e.trans hk.symm))]
  ·rw[if_neg hk];by_cases h:g=k
   ·have hb:(g==k)=true:=beq_iff_eq.mpr h;simp only[ur,hb,if_neg (λe:g=f=>hk (h.symm.trans e))]
   ·have hb:(g==k)=false:=beq_eq_false_iff_ne.mpr h;simp only[ur,hb];exact ih
theorem DX(f:Str)(v:V):∀ fs:List (Str×V),f∈(zH f v fs).map (·.1)/\∀ g,g∈fs.map (·.1)->g∈(zH f v fs).map (·.1)
 |[]=>⟨by simp[zH],λg h=>by simp at h⟩
 |(k,x)::r=>by
  obtain⟨i1,i2⟩:=DX f v r;rw[show zH f v ((k,x)::r)=(if k=f then(k,v)::r else(k,x)::zH f v r) from rfl];by_cases hk:k=f
  ·rw[if_pos hk];subst hk;exact⟨by simp,λg h=>by simpa using h⟩
  ·rw[if_neg hk];refine⟨?_,λg h=>?_⟩
   ·rw[Ub];exact Ue _ i1
   ·rw[Ub] at h ⊢
    rcases ua.mp h with e|e
    ·exact ua.mpr (.inl e)
    ·exact Ue _ (i2 g e)
theorem PB(f:Str)(v:V):∀ fs:List (Str×V),(zH f v fs).length<=fs.length+1
 |[]=>by simp[zH]
 |(k,x)::r=>by
  have ih:=PB f v r;rw[show zH f v ((k,x)::r)=(if k=f then(k,v)::r else(k,x)::zH f v r) from rfl];by_cases hk:k=f
  ·rw[if_pos hk,ud,ud];lia
  ·rw[if_neg hk,ud,ud];lia
theorem jT.some_of{v:V}{o:Option Value}(r:jT (some v) o):∃ u,o=some u/\RelV v u:=by
 cases o with
 |none=>exact(show False from r).elim
 |some u=>exact⟨u,rfl,r⟩
theorem YbP{v:V}{u:Value}(r:RelV v u):UF u=true:=by
 cases v with
 |a9=>cases(show u=Ka from r);rfl
 |bl b=>cases(show u=Ga b from r);rfl
 |int i=>obtain⟨t,e⟩:=(show ∃ t,u=Ja i t from r);cases e;rfl
 |str x=>obtain⟨t,e⟩:=(show ∃ t,u=ja x t from r);cases e;rfl
 |Bv b=>obtain⟨t,e⟩:=(show ∃ t,u=Value.bytes b t from r);cases e;rfl
 |pV b=>obtain⟨t,e⟩:=(show ∃ t,u=Kb b t from r);cases e;rfl
 |ref a=>cases(show u=ka a from r);rfl
 |ty n=>cases(show u=Ha n from r);rfl
section
variable {P:ao} {w:World} {H H':Hp} {h h':Heap} {a C dx:af} {fs C6:List (Str×V)}
theorem IC(aR:fu P w H h)(e:H a=some (.ins C dx fs)):∃ mA,mD h a dx C mA/\(∀ f,jT (fs.lookup f) (mA f))/\jc mA (fs.map (·.1))/\fs.length<=1000/\H dx=some (.own a):=by
 obtain⟨d,z,ne,ob,mA,n,r,q⟩:=(show ba P w H h a (.ins C dx fs) from aR a _ e);exact⟨mA,⟨ob,n,ne⟩,r,q,z,d⟩
end
structure ly (K:gc) (C:af):Prop where
 pg:Xv K C jg=true
 hd:Xu K C=true
 po:Vy K C=true
 sa:Ve K (.ref C) "__setattr__"=some (some (.builtin "object.__setattr__"))
theorem ly.get{K:gc}{C:af}(c:ly K C)(f:Str):Xv K C f=true:=c.pg
def fR(K:gc)(C:af)(f:Str):Prop:=Ve K (.ref C) f=some none
theorem fR.uO{K:gc}{C:af}{f:Str}(n:fR K C f):xA K C f=some none:=by
 unfold xA;rw[show Ve K (.ref C) f=some none from n];rfl
structure Meth (K:gc) (C:af) (m:Str) (f:af):Prop where
 at_:Ve K (.ref C) m=some (some (.ref f))
 fn:WD K (.ref f)=true
 kp:Ug K (.ref f)=true
section
variable {X:Cx} {pins:List (af×Obj)} {σ:St} {H:Hp} {s:Shared} {a C dx:af} {fs:List (Str×V)} {f:Str} {v:V} {A:Around} {E:Value->Shared->Prop}
theorem zbp{b:Bool}{Q:Value->Shared->Prop}(I:Inv X pins σ H s)(e:H a=some (.ins C dx fs))(c:ly X.K C)(n:fR X.K C f)(l:fs.lookup f=some v)
  (h:∀ u s',Inv X pins σ H s'->RelV v u->Q u s'):ah (aq X.prog X.w) A (getAttr (.ref a) f b) Q E s:=by
 obtain⟨mA,O,r,_,_,_⟩:=IC I.aR e;obtain⟨u,hu,ru⟩:=jT.some_of (v:=v) (o:=mA f) (by rw[<- l];exact r f);exact yct I.iP O (c.get f) c.hd n hu (YbP ru) (h u _ (I.tok _) ru)
theorem qbu{y:V}{u:Value}{Q:Unit->Shared->Prop}(I:Inv X pins σ H s)(e:H a=some (.ins C dx fs))(c:ly X.K C)(n:fR X.K C f)(hl:fs.length<1000)(ry:RelV y u)
  (h:∀ s',Inv X pins σ (upd H a (.ins C dx (zH f y fs))) s'->Q () s'):ah (aq X.prog X.w) A (setAttr (.ref a) f u) Q E s:=by
 obtain⟨mA,O,r,wi,_,ho⟩:=IC I.aR e;have hz:(fs.map (·.1)).length<=sizeLine:=by rw[xc,cC];lia
 refine ycu I.iP O c.sa c.po n.uO c.hd wi hz λh' O' sb=>h _ ?_;have hd:∃ o,h'.get? dx=some o:=let ⟨o,_,_,e',_⟩:=O'.ns;⟨o,e'⟩;refine I.write (x:=a) (e:=dx) (by rw[e];exact Hg) (.inr ho) (λb q hb z=>(sb.2 b hb).trans z) hd ?_;refine⟨by rw[yd O.ne];exact ho,?_,O.ne,O'.obj,_,O'.ns,λg=>?_,λg hg=>?_⟩
 ·have:=PB f y fs;lia
 ·show jT ((zH f y fs).lookup g) (if g=f then some u else mA g);rw[Ld];by_cases q:g=f
  ·rw[if_pos q,if_pos q];exact ry
  ·rw[if_neg q,if_neg q];exact r g
 ·by_cases q:g=f
  ·rw[q];exact(DX f y fs).1
  ·refine(DX f y fs).2 g (wi g λz=>hg ?_);show(if g=f then some u else mA g)=none;rw[if_neg q];exact z
theorem Inv.made(I:Inv X pins σ H s):Inv X pins σ (upd (upd H s.heap.objs.size (.own (s.heap.objs.size+1))) (s.heap.objs.size+1) (.ins C s.heap.objs.size []))
  {s with heap:=(s.heap.push Xg).push (uh C s.heap.objs.size)}:=by
 have e1:(s.heap.push Xg).get? s.heap.objs.size=some Xg:=Xb s.heap rfl;have e2:((s.heap.push Xg).push (uh C s.heap.objs.size)).get? (s.heap.objs.size+1)=some (uh C s.heap.objs.size):=by
  have:=Xb (s.heap.push Xg) (o:=uh C s.heap.objs.size) rfl
  rwa [vg] at this
 have e3:(s.heap.push Xg).Ns s.heap.objs.size (λ_=>none):=⟨Xg,#[],_,e1,rfl,(λe he=>absurd he (by simp)),λ_=>rfl⟩;have I1:=I.laid (a:=s.heap.objs.size) (o:=.own (s.heap.objs.size+1)) (h':=s.heap.push Xg) (t':=s.toks) (λb u q=>wa _ q) (vb _) ⟨_,e1⟩;refine I1.laid (a:=s.heap.objs.size+1) (o:=.ins C s.heap.objs.size []) (t':=s.toks) (λb u q=>wa _ q) (Xm (vg _ _)) ?_;have ne:s.heap.objs.size≠s.heap.objs.size+1:=Xc (Vl _);refine⟨by rw[yd ne,qg],Xq _,ne,e2,λ_=>none,(Heap.Ns1.of_empty e3).at λo q=>wa _ q,λ_=>Hg,λy hy=>absurd rfl hy⟩
theorem Qcw{prog:ao}{w:World}{env:Env}{e:Expr}{f:Str}{pos:Pos}{s:Shared}{Q:Value->Shared->Prop}(hb:bB e f env (eval e env)=eval e env)
  (h:ah (aq prog w) A (eval e env) (λo s₁=>ah (aq prog w) A (getAttr o f true) Q E s₁) E s):ah (aq prog w) A (eval (.Attribute e f pos) env) Q E s :=
 Attribute_any_ h (by rw[arm_eval_Attribute,hb])
end
noncomputable def uW(K:gc)(ta:TE)(f:Str):TE:=λσ H Q=>ta σ H λx H1=>∃ a C dx fs v,x=.ref a/\H1 a=some (.ins C dx fs)/\ly K C/\fR K C f/\fs.lookup f=some v/\Q v H1
noncomputable def ET(K:gc)(ta tv:TE)(f:Str):TS:=λD σ H=>tv σ H λy H1=>ta σ H1 λx H2=>∃ a C dx fs,x=.ref a/\H2 a=some (.ins C dx fs)/\ly K C/\fR K C f/\fs.length<1000 /\
 D.nx σ (upd H2 a (.ins C dx (zH f y fs)))
section
variable {X:Cx} {o e value:Expr} {f:Str} {pos pos' Er:Pos} {ta tv:TE}
theorem ZcV(he:PE X e ta)(hb:bB e f X.env (eval e X.env)=eval e X.env):PE X (.Attribute e f pos) (uW X.K ta f):=by
 intro pins s σ H Q I h;refine Qcw hb (bf (he pins s σ H _ I h) λu s1 ⟨x,H1,I1,rx,a,C,dx,fs,v,ex,ea,c,n,l,q⟩=>?_);subst ex;obtain rfl:u=ka a:=rx;exact zbp I1 ea c n l λu' s2 I2 ru=>⟨v,H1,I2,ru,q⟩
theorem YcZ(ha:PE X o ta)(hv:PE X value tv)(hs:bc value (some (.Attribute o f pos')) pos.line X.env=pure false):PS X (.Assign [.Attribute o f pos'] value pos) (ET X.K ta tv f):=by
 intro pins s σ H D I h;refine plainObj_wpAny_Assign_Attribute (bf (hv pins s σ H _ I h) λu s1 ⟨y,H1,I1,ry,q⟩=>bf (ha pins s1 σ H1 _ I1 q) λov s2 ⟨x,H2,I2,rx,a,C,dx,fs,ex,ea,c,n,l,q2⟩=>?_) hs;subst ex;obtain rfl:ov=ka a:=rx;exact qbu I2 ea c n l ry λs3 I3=>⟨σ,_,I3,q2⟩
end
section
variable {X:Cx} {pins:List (af×Obj)} {σ:St} {H:Hp} {s:Shared} {A:Around} {E:Value->Shared->Prop} {Q:Value->Shared->Prop} {c:Value} {b:Bool}
inductive gS (K:gc) (H:Hp):V->Value->Prop where
 |a9:gS K H .a9 (.type "NoneType")
 |bl (x:Bool):gS K H (.bl x) (.type "bool")
 |int (i:Int):gS K H (.int i) (.type "int")
 |str (x:Str):gS K H (.str x) (.type "str")
 |pV (x:UInt64):gS K H (.pV x) (.type "float")
 |lst {a:af} {xs:List V} (e:H a=some (.lst xs)):gS K H (.ref a) (.type "list")
 |eI {a:af} {o:Obj} {xs:List V} (e:H a=some (.eI o (.lst xs))):gS K H (.ref a) (.type "list")
 |tup {a:af} {xs:List V} (e:H a=some (.tup xs)):gS K H (.ref a) (.type "tuple")
 |dK {a:af} {aJ:List (Key×V)} (e:H a=some (.dK aJ)):gS K H (.ref a) (.type "dict")
 |dT {a:af} {aJ:List (List Key×V)} (e:H a=some (.dT aJ)):gS K H (.ref a) (.type "dict")
 |ins {a C dx:af} {fs:List (Str×V)} (e:H a=some (.ins C dx fs)) (cl:ly K C) (ha:Ve K (.ref C) "__class__"=some (some (.builtin "object.__class__")))
   (hn:Uq K (.builtin "object.__class__") "__get__"=some (some (.builtin "getset_descriptor.__get__"))) (MY:Xt K (.builtin "object.__class__")=some true)
   (hm:Wy K C (.type "object")=some true):gS K H (.ref a) (.ref C)
theorem qbK{x:V}{u t:Value}(I:Inv X pins σ H s)(rx:RelV x u)(ty:gS X.K H x t)(e:Vg X.K t c=some b)(h:∀ tk,Q (.bool b) {s with toks:=tk}) :
  ah (aq X.prog X.w) A (call (.builtin "isinstance") [u,c]) Q E s:=by
 cases ty with
 |a9=>cases(show u=Ka from rx);exact wj PySem.W.kitx_none I.iP Hg e (λz=>nomatch z) h
 |bl y=>cases(show u=Ga y from rx);exact wj PySem.W.kitx_bool I.iP Hg e (λz=>nomatch z) h
 |int i=>obtain⟨t,q⟩:=(show ∃ t,u=Ja i t from rx);cases q;exact wj PySem.W.kitx_int I.iP Hg e (λz=>nomatch z) h
 |str y=>obtain⟨t,q⟩:=(show ∃ t,u=ja y t from rx);cases q;exact wj PySem.W.kitx_str I.iP Hg e (λz=>nomatch z) h
 |pV y=>obtain⟨t,q⟩:=(show ∃ t,u=Kb y t from rx);cases q;exact wj PySem.W.kitx_float I.iP Hg e (λz=>nomatch z) h
 |@lst a xs ea =>
  cases(show u=ka a from rx);obtain⟨_,_,n,_,h1⟩:=(show ba X.prog X.w H s.heap a (.lst xs) from I.aR a _ ea);exact wj VE I.iP ⟨_,h1,rfl⟩ e (λz=>nomatch z) h
 |@eI a ob xs ea =>
  cases(show u=ka a from rx);obtain⟨_,_,_,n,_,h1⟩:=(show ba X.prog X.w H s.heap a (.eI ob (.lst xs)) from I.aR a _ ea);exact wj VE I.iP ⟨_,h1,rfl⟩ e (λz=>nomatch z) h
 |@tup a xs ea =>
  cases(show u=ka a from rx);obtain⟨_,_,_,p⟩:=(show ba X.prog X.w H s.heap a (.tup xs) from I.aR a _ ea);obtain⟨o,h1,h2,_⟩:=p;exact wj PySem.W.kitx_tuple I.iP ⟨o,h1,h2⟩ e (λz=>nomatch z) h
 |@dK a aJ ea =>
  cases(show u=ka a from rx);obtain⟨_,_,vs,_,p⟩:=(show ba X.prog X.w H s.heap a (.dK aJ) from I.aR a _ ea);obtain⟨o,es,ep,h1,h2,_⟩:=p;exact wj wF I.iP ⟨o,h1,h2.1⟩ e (λz=>nomatch z) h
 |@dT a aJ ea =>
  cases(show u=ka a from rx);obtain⟨_,_,xs,_,o,es,ep,h1,h2,_⟩:=(show ba X.prog X.w H s.heap a (.dT aJ) from I.aR a _ ea);exact wj wF I.iP ⟨o,h1,h2.1⟩ e (λz=>nomatch z) h
 |@ins a C dx fs ea cl ha hn MY hm =>
  cases(show u=ka a from rx);obtain⟨mA,O,_⟩:=IC I.aR ea;obtain⟨od,J,_⟩:=O.look;exact wj (PySem.W.kitx_own (cl.get _) cl.hd ha hn MY hm) I.iP J e (λz=>nomatch z) h
end
structure dw (k:Nat) (A:Around):Prop where
 hd:A.handled=none
 dp:A.depth+3*k+5<fH
 un:A.units+16*k+200<dY
theorem dw.mono{j k:Nat}{A:Around}(r:dw k A)(h:j<=k):dw j A:=⟨r.hd,by have:=r.dp;lia,by have:=r.un;lia⟩
theorem dw.deeper{k:Nat}{A:Around}(r:dw (k+1) A)(env:Env):dw k (A.deeper env) :=
 ⟨r.hd,by have:=r.dp;show A.depth+1+3*k+5<_;lia,by have:=r.un;show A.units+3+16*k+200<_;lia⟩
theorem ybv{A:Around}{C:af}{us:List Value}{kw:List (Str×Value)}:(A.under (.builtin "type.__call__" ⟨.ref C::us,kw⟩)).depth=A.depth+1:=by
 first|rfl|simp[Gg,jD.weight,jD.isCreation,jD.isGuard,jD.isCaller,jD.frames,jD.isFrame,guardIds]
theorem Ybl{A:Around}{C:af}{us:List Value}{kw:List (Str×Value)}:(A.under (.builtin "type.__call__" ⟨.ref C::us,kw⟩)).units=A.units+1:=by
 first|rfl|simp[Gg,jD.cUnits,jD.frames,jD.isFrame]
theorem dw.make{k:Nat}{A:Around}(r:dw (k+1) A)(C:af)(us:List Value)(kw:List (Str×Value)):dw k (A.under (.builtin "type.__call__" ⟨.ref C::us,kw⟩)) :=
 ⟨r.hd,by have:=r.dp;rw[ybv];lia,by have:=r.un;rw[Ybl];lia⟩
theorem dw.depth{k:Nat}{A:Around}(r:dw k A):A.depth<fH:=by have:=r.dp;lia
noncomputable def EC:TA:=λ_ H Q=>Q [] H
noncomputable def uZ(ta:TE)(tr:TA):TA:=λσ H Q=>ta σ H λx H1=>tr σ H1 λxs H2=>Q (x::xs) H2
section
variable {X:Cx} {e:Expr} {es:List Expr} {te:TE} {t:TA} {pos:Pos}
theorem yE:PA X [] EC:=λ_ _ _ _ H Q I h=>He ⟨[],H,I,.nil,h⟩
theorem zt(ha:PE X e te)(hr:PA X es t)(hs:au (e::es) X.env=(false,eval e X.env)::au es X.env:=by rfl):PA X (e::es) (uZ te t):=by
 intro pos pins s σ H Q I h;rw[hs];show ah _ _ (spliced ((false,eval e X.env)::bV pos (au es X.env))) _ _ s;refine Je (bf (ha pins s σ H _ I h) λu s1 ⟨x,H1,I1,r1,q1⟩=>?_);exact bf (hr pos pins s1 σ H1 _ I1 q1) λus s2 ⟨xs,H2,I2,r2,q2⟩=>⟨x::xs,H2,I2,.cons r1 r2,q2⟩
noncomputable def Ex(t:TA):TE:=λσ H Q=>t σ H λxs H1=>xs.length<=sizeLine/\∀ p,H1 p=none->Q (.ref p) (upd H1 p (.tup xs))
noncomputable def ED(t:TA):TE:=λσ H Q=>t σ H λxs H1=>xs.length<=sizeLine/\∀ p,H1 p=none->Q (.ref p) (upd H1 p (.lst xs))
theorem ycS{x1}(h:PA X es t):PE X (.Tuple es x1 pos) (Ex t):=by
 intro pins s σ H Q I hq;refine wpAny_Tuple_spliced (bf (h pos pins s σ H _ I hq) λus s1 ⟨xs,H1,I1,r,z,q⟩=>⟨by rw[<- r.length];exact z,?_⟩);have hf:H1 s1.heap.objs.size=none:=I1.aR.fresh (vb _);refine⟨.ref s1.heap.objs.size,upd H1 s1.heap.objs.size (.tup xs),I1.laid (t':=s1.toks) (λb u e=>wa _ e) (vb _) ?_,rfl,q _ hf⟩;exact⟨z,us,r,⟨_,Xb _ rfl,rfl,_,rfl⟩⟩
theorem YcP(h:PA X es t):PE X (.List es pos) (ED t):=by
 intro pins s σ H Q I hq;refine wpAny_List_spliced (bf (h pos pins s σ H _ I hq) λus s1 ⟨xs,H1,I1,r,z,q⟩=>⟨by rw[<- r.length];exact z,?_⟩);have hf:H1 s1.heap.objs.size=none:=I1.aR.fresh (vb _);refine⟨.ref s1.heap.objs.size,upd H1 s1.heap.objs.size (.lst xs),I1.laid (t':=s1.toks) (λb u e=>wa _ e) (vb _) ?_,rfl,q _ hf⟩;exact⟨z,us,0,r,Xb _ rfl⟩
end
noncomputable abbrev Sp:=List V->Hp->VK->XK->Prop
noncomputable abbrev lV:=List Env->Hp->Shared->XK->Value->Shared->Prop
structure kZ (P:ao) (w:World) (K:gc) (mg:Str->Option Value) (base:Heap) (A:Around) (outer:List Env) (s:Shared) (H:Hp):Prop where
 frames:A.frames=some outer
 mod:Mod K mg base
 bs:∀ b o,base.get? b=some o->s.heap.get? b=some o/\H b=none
 sx:base.objs.size<=s.heap.objs.size
 i9:s.heap.FunFrames base outer
 AZ:∀ b∈mz outer,H b=none
 aR:fu P w H s.heap
 bare:dD s.gens
def CE(outer:List Env)(P:ao)(w:World)(H:Hp)(s:Shared)(Q:VK)(u:Value)(s':Shared):Prop :=
 ∃ v H',s'.os=s.os/\dD s'.gens/\Un (mz outer) [] H H' s.heap s'.heap/\fu P w H' s'.heap/\RelV v u/\Q v H'
def CR(CX:lV)(outer:List Env)(P:ao)(w:World)(H:Hp)(s:Shared)(Q:VK)(E:XK)(r:jB)(s':Shared):Prop :=
 match r with
 |.ok (.ret u)=>CE outer P w H s Q u s'
 |.ok _=>False
 |.error e=>CX outer H s E e s'
structure fk (P:ao) (w:World) (K:gc) (mg:Str->Option Value) (base:Heap) (CX:lV) (k:Nat) (f:af) (fd:a8) (ps:List Str) (sp:Sp):Prop where
 len:∀ vs H Q E,sp vs H Q E->vs.length=ps.length
 run:∀(A:Around)(outer:List Env)(s:Shared)(H:Hp)(args:Args) (us:List Value) (vs:List V) (Q:VK) (E:XK),dw k A->kZ P w K mg base A outer s H->eA s fd args (ps.zip us)->Vals vs us->sp vs H Q E ->
  bL (aq P w) A (.call (.ref f) args) (CR CX outer P w H s Q E) s
theorem fk.imp{P:ao}{w:World}{K:gc}{mg:Str->Option Value}{base:Heap}{CX:lV}{k:Nat}{f:af}{fd:a8}{ps:List Str}{sp LH:Sp}(F:fk P w K mg base CX k f fd ps sp)
  (h:∀ vs H Q E,LH vs H Q E->sp vs H Q E):fk P w K mg base CX k f fd ps LH :=
 ⟨λvs H Q E q=>F.len vs H Q E (h _ _ _ _ q),λA outer s H args us vs Q E hr he hb hv hs=>F.run A outer s H args us vs Q E hr he hb hv (h _ _ _ _ hs)⟩
theorem kZ.make{P:ao}{w:World}{K:gc}{mg:Str->Option Value}{base:Heap}{A:Around}{outer:List Env}{s:Shared}{H:Hp}(e:kZ P w K mg base A outer s H)(C:af)(us:List Value)(kw:List (Str×Value)) :
  kZ P w K mg base (A.under (.builtin "type.__call__" ⟨.ref C::us,kw⟩)) outer s H:=⟨by first|exact e.frames|(simpa[Gg,jD.envs,jD.isFrame,pushEnvs] using e.frames),e.mod,e.bs,e.sx,e.i9,e.AZ,e.aR,e.bare⟩
section
variable {X:Cx} {pins:List (af×Obj)} {σ:St} {H:Hp} {s s':Shared}
theorem Inv.A3(I:Inv X pins σ H s):kZ X.prog X.w X.K X.mg X.base X.A X.stack s H :=
 ⟨I.ok.frames,I.ok.mod,I.bs,Xe I.ok.sx I.sz,I.stack,I.j1,I.aR,I.bare⟩
theorem Inv.after{Q:VK}{u:Value}(I:Inv X pins σ H s)(h:CE X.stack X.prog X.w H s Q u s'):EP X pins σ Q u s':=by
 obtain⟨v,H',os,bare,un,aR,r,q⟩:=h;obtain⟨hh,g,d,t,os'⟩:=s';obtain rfl:os'=s.os:=os;exact⟨v,H',I.call (h':=hh) (g':=g) (d':=d) (t':=t) (ch:=[]) un aR bare (λb z=>absurd z (by simp)),r,q⟩
end
def Binds(K:gc)(fd:a8)(ps:List Str)(ds:List Value):Prop :=
 ∀(s:Shared)(us:List Value),K.In s.heap->(us++ds).length=ps.length->eA s fd ⟨us,[]⟩ (ps.zip (us++ds))
theorem Binds.all{K:gc}{fd:a8}{ps:List Str}(h:∀ us:List Value,us.length=ps.length->bindArgs fd ⟨us,[]⟩=pure (ps.zip us)):Binds K fd ps []:=λs us _ hl=>by
 rw[xw] at hl ⊢;exact .of_eq (h us hl)
def zcF(CX:lV)(X:Cx)(E:XK):Prop:=∀(pins:List (af×Obj)) (σ:St) (H:Hp) (s:Shared) (e:Value) (s':Shared),Inv X pins σ H s->CX X.stack H s E e s'->X.xe e s'
section
variable {X:Cx} {CX:lV} {k:Nat} {f C:af} {fd:a8} {ps:List Str} {sp:Sp} {lu:List V} {ds:List Value} {E:XK} {x m:Str} {p pos apos:Pos} {e o:Expr} {es:List Expr} {ta:TE} {t:TA}
structure Mk (K:gc) (C f:af):Prop where
 makes:Wt K C=true
 init:Ve K (.ref C) "__init__"=some (some (.ref f))
 fn:WD K (.ref f)=true
 kp:Ug K (.ref C)=true
end
structure iT (N P:List Str) (sc:aA):Prop where
 kind:sc.kind=.function
 co:sc.isCoroutine=false
 gen:sc.isGenerator=false
 nd:N.Nodup
 pre:N.take P.length=P
 par:∀ x∈P,sc.names.lookup x=some .local\/sc.names.lookup x=some .cell
 rO:∀ y∈sc.names,y.2≠.free
theorem Lk{kindOf:Str->Option NameKind}{x:Str}:∀{binds:List (Str×Value)} {m:Str->Option Value},(∀ v,(x,v)∉binds)->jx kindOf binds m x=m x
 |[],_,_=>rfl
 |(n,v)::r,m,h=>by
  unfold jx;rw[Lk λw hw=>h w (Ue _ hw)];split
  ·have:x≠n:=by rintro rfl;exact h v xi
   simp[this]
  ·rfl
theorem Mu{kindOf:Str->Option NameKind}{x:Str}:∀{binds:List (Str×Value)} {m:Str->Option Value},(∀ v,(x,v)∉binds)->jy kindOf binds m x=m x
 |[],_,_=>rfl
 |(n,v)::r,m,h=>by
  unfold jy;rw[Mu λw hw=>h w (Ue _ hw)];split
  ·rfl
  ·have:x≠n:=by rintro rfl;exact h v xi
   simp[this]
theorem Kv{kindOf:Str->Option NameKind}{x:Str}{v:Value}:∀{P:List Str}{vs:List Value}{i:Nat}{m:Str->Option Value},P.Nodup->P[i]?=some x->vs[i]?=some v->kindOf x=some .local ->
  jx kindOf (P.zip vs) m x=some v
 |[],_,_,_,_,h,_,_=>by simp at h
 |_::_,[],_,_,_,_,h,_=>by simp at h
 |p::P,w::vs,0,m,nd,h1,h2,hk=>by
  simp at h1 h2;subst h1;subst h2;show jx kindOf ((p,w)::P.zip vs) m p=_;unfold jx;rw[Lk λv hv=>(Xw.mp nd).1 (XA hv).1,if_pos hk];simp
 |p::P,w::vs,i+1,m,nd,h1,h2,hk=>by
  show jx kindOf ((p,w)::P.zip vs) m x=_;unfold jx;exact Kv (i:=i) (Xw.mp nd).2 (by simpa using h1) (by simpa using h2) hk
theorem J'{kindOf:Str->Option NameKind}{x:Str}{v:Value}:∀{P:List Str}{vs:List Value}{i:Nat}{m:Str->Option Value},P.Nodup->P[i]?=some x->vs[i]?=some v->kindOf x≠some .local ->
  jy kindOf (P.zip vs) m x=some v
 |[],_,_,_,_,h,_,_=>by simp at h
 |_::_,[],_,_,_,_,h,_=>by simp at h
 |p::P,w::vs,0,m,nd,h1,h2,hk=>by
  simp at h1 h2;subst h1;subst h2;show jy kindOf ((p,w)::P.zip vs) m p=_;unfold jy;rw[Mu λv hv=>(Xw.mp nd).1 (XA hv).1,if_neg hk];simp
 |p::P,w::vs,i+1,m,nd,h1,h2,hk=>by
  show jy kindOf ((p,w)::P.zip vs) m x=_;unfold jy;exact J' (i:=i) (Xw.mp nd).2 (by simpa using h1) (by simpa using h2) hk
noncomputable def start(N:List Str)(vs:List V):St:=vs.map some++xa (N.length-vs.length) none
noncomputable def mP(CX:lV)(P:ao)(w:World)(K:gc)(mg:Str->Option Value)(base:Heap)(N:List Str)(qual:Str)(scope:aA)(f:af)(cd:Value)(A:Around)(outer:List Env)(s:Shared)(H:Hp)(E:XK):Cx where
 prog:=P
 w:=w
 K:=K
 mg:=mg
 base:=base
 A:=A.deeper (eF qual scope s.heap.objs.size f cd)
 N:=N
 s₀:=s
 H₀:=H
 env:=eF qual scope s.heap.objs.size f cd
 outer:=outer
 stack:=eF qual scope s.heap.objs.size f cd::outer
 ex:=[]
 calm:=true
 fn:=λ_=>true
 pn:=[]
 xe:=λe s'=>ah (aq P w) (A.deeper (eF qual scope s.heap.objs.size f cd)) (leaving (eF qual scope s.heap.objs.size f cd) e) (λ_ EV=>CX outer H s E e EV) (λe' EV=>CX outer H s E e' EV) s'
theorem KC{sc:aA}{n:Nat}{x:Str}(h:sc.names.lookup x=some .cell):∃ c,(aG n sc.names []).lookup x=some c:=by
 have q:=wB sc.names n [] (.inl h);exact um.mp q
theorem QbT{CX:lV}{P:ao}{w:World}{K:gc}{mg:Str->Option Value}{base:Heap}{N ps:List Str}{qual:Str}{scope:aA}{f:af}{cd:Value}{A:Around}{outer:List Env}{s s1:Shared}{H:Hp}{E:XK}{us:List Value}{vs:List V}
  (S:iT N ps scope) (hd:A.handled=none) (e0:kZ P w K mg base A outer s H) (hl:vs.length=ps.length) (r:Vals vs us)
  (x:InCallC s s.heap.objs.size (jx (eF qual scope s.heap.objs.size f cd).kindOf (ps.zip us) λ_=>none) (aG (s.heap.objs.size+1) scope.names []) (jy (eF qual scope s.heap.objs.size f cd).kindOf (ps.zip us) λ_=>none) s1) :
  Inv (mP CX P w K mg base N qual scope f cd A outer s H E) [] (start N vs) H s1:=by
 have bE:ps.length<=N.length:=by have:=congrArg WB S.pre;rw[Vh] at this;lia
 obtain⟨h1,tk,rfl,hk⟩:=x.done;have xP:∀ b:af,b∉(mP CX P w K mg base N qual scope f cd A outer s H E).ex:=λb z=>absurd (show b∈([]:List af) from z) (by simp);refine⟨⟨e0.mod,S.kind,rfl,rfl,vb _,λy z c h1 h2=>?_,λy hy=>?_,λy c _ h=>?_,λ_=>hd,Around.frames_deeper e0.frames,.inr ⟨rfl,rfl⟩,λb z=>absurd z (xP b),e0.bs,e0.sx,λb _ _=>xP b,λb z=>absurd z (xP b),e0.i9,e0.AZ⟩,
  rfl,e0.bare,Un.kept hk,⟨_,x.toInCall.ns,λi y v h1 h2 h3=>?_⟩,λy c h=>⟨_,x.cell y c h⟩,e0.aR.fresh (vb _),λy c h=>?_,λp hp=>absurd (show p∈([]:List (af×Obj)) from hp) (by simp),e0.aR.kept hk,?_⟩
 ·exact name_of_addr x.apart (Gb h1) (Gb h2)
 ·have hy:scope.names.lookup y=some .cell\/scope.names.lookup y=some .free:=hy
  rcases hy with hy|hy
  ·exact KC hy
  ·exact absurd rfl (S.rO _ (Gb hy))
 ·exact vz (x.above y c (Gb h))
 ·have hi:i<vs.length:=by
   unfold start at h2;by_cases hi:i<vs.length
   ·exact hi
   ·rw[Vc (by simpa using hi)] at h2;rw[Uk] at h2;split at h2 <;> cases h2
  have ha:vs[i]?=some v:=by
   unfold start at h2;rw[ub (by simpa using hi),Ua] at h2;cases e:vs[i]? with
   |none=>rw[e] at h2;cases h2
   |some a=>rw[e] at h2;cases h2;rfl
  obtain⟨u,hu,rv⟩:=r.get ha;have hp:ps[i]?=some y:=by
   rw[<- S.pre,ue (by lia)];exact h1
  have MF:ps.Nodup:=by rw[<- S.pre];exact S.nd.sublist (List.take_sublist _ _)
  refine⟨u,rv,?_⟩
  rcases S.par y (Vb hp) with k|k
  ·exact .inl ⟨k,Kv MF hp hu k⟩
  ·obtain⟨c,e⟩:=KC (n:=s.heap.objs.size+1) k;refine .inr ⟨.inl k,c,e,?_⟩;have q:=x.cell y c e;rw[J' MF hp hu (by show scope.names.lookup y≠_;rw[k];decide)] at q;exact q
 ·exact e0.aR.fresh (vz (x.above y c (Gb h)))
 ·unfold start;show _=N.length;rw[xf,xc,Vn]
  lia
theorem Ir{CX:lV}{P:ao}{w:World}{K:gc}{mg:Str->Option Value}{base:Heap}{k:Nat}{f:af}{name qual:Str}{params:Arguments}{body:List Stmt}{scope:aA}{dV kV doc pm cE ct oc:Value}{an od:Option af}
  {jL:Array (Option Value)} {N ps:List Str} {sp:Sp} (lk:K.lookup f=some ⟨oc,od,.func (wg name qual params body scope dV kV doc pm an cE ct),jL⟩) (mw:uk K cE qual=true) (S:iT N ps scope)
  (len:∀ vs H Q E,sp vs H Q E->vs.length=ps.length)
  (nA:∀(A:Around)(outer:List Env)(s:Shared)(H:Hp)(vs:List V) (Q:VK) (E:XK),dw k (A.deeper (eF qual scope s.heap.objs.size f cE))->sp vs H Q E ->
   ∃ t,iL (mP CX P w K mg base N qual scope f cE A outer s H E) body t/\t {nx:=λ_ H'=>Q .a9 H',rt:=Q} (start N vs) H) :
  fk P w K mg base CX (k+1) f (wg name qual params body scope dV kV doc pm an cE ct) ps sp:=by
 refine⟨len,λA outer s H args us vs Q E hr e0 hb r lh=>?_⟩;have hl:=len _ _ _ _ lh;have KX:K.In s.heap:=e0.mod.CF.keeps λb o e=>(e0.bs b o e).1;have lim:s.heap.NoLimit:=e0.mod.nolimit.keeps λb o e=>(e0.bs b o e).1;have AL:∀ y∈ps.zip us,scope.names.lookup y.1=some .local\/(scope.names.lookup y.1=some .cell/\((aG (s.heap.objs.size+1) scope.names []).lookup y.1).isSome=true):=λ⟨n,v⟩ hy=>by
  rcases S.par n (XA hy).1 with q|q
  ·exact .inl q
  ·exact .inr ⟨q,wB _ _ _ (.inl q)⟩
 refine codeAny_call_function hr.depth (KX _ _ lk) rfl S.co S.gen rfl (PySem.W.codeRec_of KX mw) (hb _ _ _ _ ?_);refine wpAny_newFunctionEnv_cells S.kind AL λenv he s1 x=>?_;subst he;refine⟨lim.keeps x.toInCall.keep,codeAny_func ?_⟩;obtain⟨t,ht,hq⟩:=nA A outer s H vs Q E (hr.deeper _) lh;have I:Inv (mP CX P w K mg base N qual scope f cE A outer s H E) [] (start N vs) H s1:=QbT S hr.hd e0 hl r x;refine bM (ht [] s1 (start N vs) H _ I hq) (λfl s' hs=>?_) λe s' hs=>hs;have fin:∀{σ':St}{H':Hp}{v:V}{u:Value},Inv (mP CX P w K mg base N qual scope f cE A outer s H E) [] σ' H' s'->RelV v u->Q v H'->CE outer P w H s Q u s' :=
  λ{σ' H' v u} J rv q=>⟨v,H',J.os,J.bare,J.base,J.aR,rv,q⟩
 cases fl with
 |ret u =>
  obtain⟨v,σ',H',J,rv,q⟩:=hs;exact fin J rv q
 |next =>
  obtain⟨σ',H',J,q⟩:=hs;exact fin (v:=V.a9) (u:=Ka) J rfl q
 |brk =>
  obtain⟨_,_,_,q⟩:=hs;exact Kh q
 |cont =>
  obtain⟨_,_,_,q⟩:=hs;exact Kh q
section
variable {X:Cx} {x:Str} {p pos:Pos} {e:Expr} {es:List Expr} {t:TA} {id T:String} {r:List V->Hp->VK->Prop}
noncomputable def LA(r:List V->Hp->VK->Prop)(t:TA):TE:=λσ H Q=>t σ H λvs H1=>r vs H1 Q
theorem YN(hc:aH X (.builtin id) r)(hg:Gl X x)(hm:X.mg x=none)(hv:bw x=some (.builtin id))(ha:PA X (e::es) t)(hn:x≠"__name__":=by decide)(lj:(x==("__debug__":Str))=false:=by decide)
  (he:au (e::es) X.env=(false,eval e X.env)::au es X.env:=by rfl) (bE:(bV pos (au es X.env)).any (·.1)=false:=by rfl):PE X (.Call (.Name x p) (e::es) [] pos) (LA r t):=by
 intro pins s σ H Q I h;refine bD (yI I hg hm hv ?_ hn lj);exact PyProof.Rows.callWith_builtin1 (bf (ha pos pins s σ H _ I h) λus s1 ⟨vs,H1,I1,r1,q1⟩=>hc pins s1 σ H1 vs us Q I1 r1 q1) he bE
theorem zG(hc:aH X (.type T) r)(hg:Gl X x)(hm:X.mg x=none)(hv:bw x=some (.type T))(ha:PA X (e::es) t)(hn:x≠"__name__":=by decide)(lj:(x==("__debug__":Str))=false:=by decide)
  (he:au (e::es) X.env=(false,eval e X.env)::au es X.env:=by rfl) (bE:(bV pos (au es X.env)).any (·.1)=false:=by rfl):PE X (.Call (.Name x p) (e::es) [] pos) (LA r t):=by
 intro pins s σ H Q I h;refine bD (yI I hg hm hv ?_ hn lj);exact Jf (bf (ha pos pins s σ H _ I h) λus s1 ⟨vs,H1,I1,r1,q1⟩=>hc pins s1 σ H1 vs us Q I1 r1 q1) he bE
end
end L2
namespace HT
open PySem PyProof.Rows
section
variable {prog:ao} {w:World} {A:Around} {E:Value->Shared->Prop} {s:Shared}
theorem ph{t b:af}{vs ws:List Value}{Q:Value->Shared->Prop}(ht:iq s.heap t vs.toArray)(hb:iq s.heap b ws.toArray)(hv:vs≠[])
  (h1:ws=[]->Q (.ref t) s) (h2:ws≠[]->Q (.ref s.heap.objs.size) {s with heap:=s.heap.push {cls:=.type "tuple",data:=.seq (vs++ws).toArray}})
  (hsz:vs.length+ws.length<=sizeLine):ah (aq prog w) A (aT .Add (.ref t) (.ref b)) Q E s:=by
 obtain⟨⟨cls,dd,data,sl⟩,ho,hc,n,hd⟩:=id ht;obtain⟨⟨cls2,NK,data2,LI⟩,CV,tH,n2,hd2⟩:=id hb;simp only at hc hd tH hd2;subst hc hd tH hd2;have e:vs.toArray++ws.toArray=(vs++ws).toArray:=by simp
 by_cases hw:ws=[]
 ·exact concat_meets ⟨_,ho,rfl⟩ ⟨_,CV,rfl⟩ iA jJ Gi Hi (ji _ _)
   (tuple_addW1 t b vs.toArray ws.toArray n n2 dd NK sl LI (by simpa using hv) (by simp[hw])) ⟨ho,CV,h1 hw⟩
 ·refine concat_meets ⟨_,ho,rfl⟩ ⟨_,CV,rfl⟩ iA jJ Gi Hi (ji _ _)
   (tuple_addW2 t b vs.toArray ws.toArray n n2 dd NK sl LI (by simpa using hv) (by simpa using hw) (by rw[wc,wc];exact hsz)) ⟨ho,CV,?_⟩
  rw[e];exact h2 hw
noncomputable def cu(n d:Nat):Option Int->Nat
 |none=>d
 |some v=>if v<0 then(v+(n:Int)).toNat else min v.toNat n
theorem ZcS(n d:Nat)(hd:d<=n)(o:Option Int):cu n d o<=n:=by
 cases o with
 |none=>exact hd
 |some v =>
  show(if v<0 then(v+(n:Int)).toNat else min v.toNat n)<=n;by_cases hv:v<0
  ·rw[if_pos hv];lia
  ·rw[if_neg hv];exact Nat.min_le_right _ _
theorem JQ(v:Int)(n d:Nat):(if v<0 then max (v+(n:Int)) 0 else min v (n:Int))=((cu n d (some v):Nat):Int):=by
 show(if v<0 then max (v+(n:Int)) 0 else min v (n:Int))=(((if v<0 then(v+(n:Int)).toNat else min v.toNat n):Nat):Int);by_cases hv:v<0
 ·simp only[if_pos hv];lia
 ·simp only[if_neg hv];lia
theorem qbo(lo hi:Option Int)(n:Nat):gj lo hi 1 (n:Int)=(((cu n 0 lo:Nat):Int),((cu n n hi:Nat):Int)):=by
 have h1:¬((1:Int)<0):=by lia
 unfold gj;simp only[h1,if_false];refine Prod.ext ?_ ?_
 ·cases lo with
  |none=>rfl
  |some v=>exact JQ v n 0
 ·cases hi with
  |none=>rfl
  |some v=>exact JQ v n n
theorem Zbk(i j:Nat):Hj (i:Int) (j:Int) 1=j-i:=by
 unfold Hj;have h1:(1:Int)>0:=by lia
 simp only[h1,if_true,Int.ediv_one];split <;> lia
theorem J4{v:Value}{o:Option Int}{Q:Option Int->Shared->Prop}(p:fj v o)(h:Q o s):ah (aq prog w) A (Builtin.Slice.slicePartIndex v) Q E s:=by
 cases p with
 |none=>exact iY h
 |int i t=>exact slicePart_int h
theorem QF{sl:af}{vl vu:Value}{lo hi:Option Int}{n:Nat}{Q:Int×Int×Nat->Shared->Prop}(hs:s.heap.IsSliceOf sl vl vu .none)(pl:fj vl lo)(pu:fj vu hi)
  (h:Q (((cu n 0 lo:Nat):Int),1,cu n n hi-cu n 0 lo) s):ah (aq prog w) A (Gj (.ref sl) (pure (n:Int))) Q E s:=by
 obtain⟨os,r9,oW,AO⟩:=id hs;unfold Gj Builtin.Slice.sliceFields;refine ae (ae (ar r9 AO (x:=vl) rfl (ae (ar r9 AO (x:=vu) rfl (ae (ar r9 AO (x:=.none) rfl (ag ?_)))))));refine ae (iY ?_);show ah _ _ (if((1:Int)==0)=true then _ else _) _ _ s;rw[if_neg (by decide)];refine ae (J4 pl (ae (J4 pu (ae (ag ?_)))));show ah _ _ (match gj lo hi 1 (n:Int) with|(lo,hi)=>pure (lo,(1:Int),Hj lo hi 1)) _ _ s;rw[qbo lo hi n];show ah _ _ (pure (((cu n 0 lo:Nat):Int),(1:Int),Hj ((cu n 0 lo:Nat):Int) ((cu n n hi:Nat):Int) 1)) _ _ s;rw[Zbk];exact ag h
theorem Zcd(xs:Array Value)(i k:Nat):((va k).filterMap λ(m:Nat)=>xs[((i:Int)+(m:Int)*1).toNat]?).toArray=((xs.toList.drop i).take k).toArray:=by
 have e:(λ(m:Nat)=>xs[((i:Int)+(m:Int)*1).toNat]?)=λm=>xs[i+m]?:=by
  funext m;have:((i:Int)+(m:Int)*1).toNat=i+m:=by lia
  rw[this]
 rw[e];have:=pick_run xs i k;rw[List.filterMap_map] at this;have e2:((λx=>xs[x]?)∘λx=>i+x)=λm=>xs[i+m]?:=rfl;rw[e2] at this;rw[this]
theorem ib{t sl:af}{items:Array Value}{vl vu:Value}{lo hi:Option Int}{Q:Value->Shared->Prop}(ht:iq s.heap t items)(hs:s.heap.IsSliceOf sl vl vu .none)(pl:fj vl lo)(pu:fj vu hi)
  (hw:¬(cu items.size 0 lo=0/\cu items.size items.size hi=items.size))
  (h:Q (.ref s.heap.objs.size) {s with heap:=s.heap.push {cls:=.type "tuple",data:=.seq ((items.toList.drop (cu items.size 0 lo)).take (cu items.size items.size hi-cu items.size 0 lo)).toArray}})
  (hsz:items.size<=sizeLine):ah (aq prog w) A (getItem (.ref t) (.ref sl)) Q E s:=by
 have l4:sizeOk (.seq ((items.toList.drop (cu items.size 0 lo)).take (cu items.size items.size hi-cu items.size 0 lo)).toArray):=by
  show((items.toList.drop (cu items.size 0 lo)).take (cu items.size items.size hi-cu items.size 0 lo)).toArray.size<=sizeLine;rw[wc,Vh,uv,Ws]
  lia
 have hj:cu items.size items.size hi<=items.size:=ZcS _ _ (vb _) hi;obtain⟨os,r9,oW,AO⟩:=id hs;have G8:s.TypeIs (.ref sl) "slice":=⟨os,r9,oW⟩;unfold getItem
 try with_reducible refine aF ?_
 first|refine ae (ag ?_)|skip
 refine ae (gZ ht.typeIs (by decide) ?_);refine ae (az (name:=kg "__getitem__") ht.typeIs Hf
  (aM Hf ht.typeIs entry_tuple_getitem ?_ (gR _ _)))
 show ah _ _ (jk (.ref t) >>= _) _ _ s;refine ae (jF ht ?_);refine ae (gX G8 ?_);rw[if_pos (by decide)];refine ae (QF hs pl pu ?_);have hno:¬((((cu items.size 0 lo:Nat):Int)==0&&(1:Int)==1&&(cu items.size items.size hi-cu items.size 0 lo)==items.size)=true):=by
  intro q;rw[Xa,Xa] at q;have q1:((cu items.size 0 lo:Nat):Int)=0:=eq_of_beq q.1.1;have q2:cu items.size items.size hi-cu items.size 0 lo=items.size:=eq_of_beq q.2;exact hw ⟨by lia,by lia⟩
 show ah _ _ (if(((cu items.size 0 lo:Nat):Int)==0&&(1:Int)==1&&(cu items.size items.size hi-cu items.size 0 lo)==items.size)=true then _ else _) _ _ s;rw[if_neg hno,Zcd]
 first
  |exact ae (m:=Kk _) (aS (ag ⟨_,rfl,ag h⟩) l4)
  |exact ae (m:=Kk _) (aS (ae (ag (ag ⟨_,rfl,ag h⟩))) l4)
  |exact ae (ae (m:=Kk _) (aS (ag (ag ⟨_,rfl,ag h⟩)) l4))
  |exact ae (ae (m:=Kk _) (aS (ag ⟨_,rfl,ag h⟩) l4))
end
end HT
namespace L2
open PySem PySem.Spec PyProof.Rows
noncomputable abbrev TO:=St->Hp->(Option Int->Hp->Prop)->Prop
def PO(X:Cx)(e:Option Expr)(t:TO):Prop :=
 ∀(pins:List (af×Obj)) (s:Shared) (σ:St) (H:Hp) (Q:Option Int->Hp->Prop),Inv X pins σ H s->t σ H Q ->
  ah (aq X.prog X.w) X.A (evalPart e X.env) (λu s'=>∃ o H',Inv X pins σ H' s'/\fj u o/\Q o H') X.xe s
noncomputable def Ycp:TO:=λ_ H Q=>Q none H
noncomputable def uR(t:TE):TO:=λσ H Q=>t σ H λx H1=>∃ i,x=.int i/\Q (some i) H1
section
variable {X:Cx} {e:Expr} {te:TE} {lo hi:Option Expr} {tl th:TO} {pos p2:Pos}
theorem ycn:PO X none Ycp:=by
 intro pins s σ H Q I h;rw[jQ];exact ag ⟨none,H,I,.none,h⟩
theorem qck(h:PE X e te):PO X (some e) (uR te):=by
 intro pins s σ H Q I hw;rw[evalPart_some];refine bf (h pins s σ H _ I hw) λu s1 ⟨x,H1,I1,r1,q1⟩=>?_;obtain⟨i,rfl,q⟩:=q1;obtain⟨t,rfl⟩:=r1;exact⟨some i,H1,I1,.int i t,q⟩
def Dw(X:Cx)(r:V->Option Int->Option Int->Hp->VK->Prop):Prop :=
 ∀(pins:List (af×Obj)) (s:Shared) (σ:St) (H:Hp) (x:V) (v vl vu:Value) (lo hi:Option Int) (sl:af) (Q:VK),Inv X pins σ H s->RelV x v->s.heap.IsSliceOf sl vl vu .none->fj vl lo->fj vu hi->r x lo hi H Q ->
  ∃ T id,typeLookup (.type T) "__getitem__"=pure (some (.builtin id))/\s.TypeIs v T/\ah (aq X.prog X.w) X.A (getItem v (.ref sl)) (EP X pins σ Q) X.xe s
noncomputable def tSl(r:V->Option Int->Option Int->Hp->VK->Prop)(te:TE)(tl th:TO):TE:=λσ H Q=>te σ H λx H1=>tl σ H1 λl H2=>th σ H2 λu H3=>r x l u H3 Q
theorem zce{r:V->Option Int->Option Int->Hp->VK->Prop}(hr:Dw X r)(he:PE X e te)(hl:PO X lo tl)(hu:PO X hi th):PE X (.Subscript e (.Slice lo hi none p2) pos) (tSl r te tl th):=by
 intro pins s σ H Q I h;refine Subscript_ (bf (he pins s σ H _ I h) λv s1 ⟨x,H1,I1,r1,q1⟩=>?_);refine wpAny_Slice (bf (hl pins s1 σ H1 _ I1 q1) λvl s2 ⟨l,H2,I2,pl,q2⟩=>bf (hu pins s2 σ H2 _ I2 q2) λvu s3 ⟨u,H3,I3,pu,q3⟩=>?_);rw[jQ];refine ag ?_;have I4:Inv X pins σ H3 {s3 with heap:=s3.heap.push {cls:=.type "slice",data:=.fields #[vl,vu,.none]}}:=I3.kept (t':=s3.toks) λb ob q=>wa _ q;obtain⟨T,id,hT,ht,hg⟩:=hr pins {s3 with heap:=s3.heap.push {cls:=.type "slice",data:=.fields #[vl,vu,.none]}} σ H3 x v vl vu l u s3.heap.objs.size Q I4 r1 (Heap.IsSliceOf.new ..) pl pu q3;show ah (aq X.prog X.w) X.A (jI e (.Slice lo hi none p2) v (.ref s3.heap.objs.size)) (EP X pins σ Q) X.xe {s3 with heap:=s3.heap.push {cls:=.type "slice",data:=.fields #[vl,vu,.none]}};exact tail_any (ops:=[.ref s3.heap.objs.size,v]) ht hT hg (by with_unfolding_all rfl)
noncomputable def pC(xs:List V)(lo hi:Option Int):List V:=(xs.drop (HT.cu xs.length 0 lo)).take (HT.cu xs.length xs.length hi-HT.cu xs.length 0 lo)
theorem Oh(xs:List V)(lo hi:Option Int):(pC xs lo hi).length<=xs.length:=by
 unfold pC;rw[Vh,uv]
 lia
def E5(K:gc):V->Option Int->Option Int->Hp->VK->Prop:=λx lo hi H Q=>∃ a xs,x=.ref a/\ik K H a xs /\
 ¬(HT.cu xs.length 0 lo=0/\HT.cu xs.length xs.length hi=xs.length)/\∀ p,H p=none->Q (.ref p) (upd H p (.tup (pC xs lo hi)))
theorem YcS:Dw X (E5 X.K):=by
 intro pins s σ H x v vl vu lo hi sl Q I rx hs pl pu h;obtain⟨a,xs,rfl,hx,hw,q⟩:=h;cases rx;obtain⟨its,r,ht,hz⟩:=I.tuple hx;have hlen:its.toArray.size=xs.length:=by rw[wc];exact r.length.symm
 refine⟨"tuple",_,Hf.lookup,ht.typeIs,?_⟩;refine HT.ib ht hs pl pu (by rw[hlen];exact hw) ?_ (by rw[hlen];exact hz);rw[hlen];refine⟨.ref s.heap.objs.size,_,I.laid (t':=s.toks) (o:=.tup (pC xs lo hi)) (λb ob q=>wa _ q) (vb _) ?_,rfl,q _ (I.aR.fresh (vb _))⟩;exact⟨Xe (Oh xs lo hi) hz,_,(r.drop (HT.cu xs.length 0 lo)).take (HT.cu xs.length xs.length hi-HT.cu xs.length 0 lo),iq.new _ _⟩
noncomputable def vZ(K:gc):R2:=λx y H Q=>∃ a b xs ys,x=.ref a/\y=.ref b/\ik K H a xs/\ik K H b ys/\xs≠[]/\xs.length+ys.length<=sizeLine /\
 (ys=[]->Q (.ref a) H)/\(ys≠[]->∀ p,H p=none->Q (.ref p) (upd H p (.tup (xs++ys))))
theorem Vals.nil_iff{xs:List V}{us:List Value}(r:Vals xs us):us=[]↔xs=[]:=by
 cases r with
 |nil=>simp
 |cons _ _=>simp
theorem Zcy:cD X (aT .Add) (vZ X.K):=by
 intro pins s σ H x y v u Q I rx ry h;obtain⟨a,b,xs,ys,rfl,rfl,ha,hb,hx,hz,q1,q2⟩:=h;cases rx;cases ry;obtain⟨its,r1,p1,_⟩:=I.tuple ha;obtain⟨eP,r2,p2,_⟩:=I.tuple hb;refine HT.ph p1 p2 (λz=>hx (r1.nil_iff.mp z)) (λz=>⟨.ref a,H,I,rfl,q1 (r2.nil_iff.mp z)⟩) (λz=>?_) (by rw[<- r1.length,<- r2.length];exact hz);refine⟨.ref s.heap.objs.size,_,I.laid (t':=s.toks) (o:=.tup (xs++ys)) (λb ob q=>wa _ q) (vb _) ?_,rfl,q2 (λw=>z (r2.nil_iff.mpr w)) _ (I.aR.fresh (vb _))⟩;exact⟨by rw[xf];exact hz,_,r1.append r2,iq.new _ _⟩
end
noncomputable def rV(n:Nat)(i:Int):Option Nat:=if 0<=i then(if i<n then some i.toNat else none) else if -(n:Int)<=i then some (i+n).toNat else none
noncomputable def rg{α:Type}(xs:List α)(i:Int):Option α:=(rV xs.length i).bind λj=>xs[j]?
theorem Pp{n:Nat}{i:Int}{j:Nat}(h:rV n i=some j):seqIndex? i n=some j/\j<n/\-(n:Int)<=i/\i<n:=by
 unfold rV at h;by_cases h0:0<=i
 ·rw[if_pos h0] at h;by_cases h1:i<n
  ·rw[if_pos h1] at h;have e:i.toNat=j:=gb.inj h;exact⟨by rw[iG h0 h1,e],by lia,by lia,h1⟩
  ·rw[if_neg h1] at h;cases h
 ·rw[if_neg h0] at h;by_cases h1:-(n:Int)<=i
  ·rw[if_pos h1] at h;have e:(i+n).toNat=j:=gb.inj h;exact⟨by rw[seqIndex_neg (by lia) h1,e],by lia,h1,by lia⟩
  ·rw[if_neg h1] at h;cases h
theorem IA{α:Type}{xs:List α}{i:Int}{v:α}(h:rg xs i=some v):∃ j,seqIndex? i xs.length=some j/\xs[j]?=some v/\j<xs.length/\-(xs.length:Int)<=i/\i<xs.length:=by
 unfold rg at h;cases e:rV xs.length i with
 |none=>rw[e] at h;cases h
 |some j =>
  rw[e] at h;obtain⟨h1,h2,h3,h4⟩:=Pp e;exact⟨j,h1,h,h2,h3,h4⟩
def JJ(b:Expr):Prop:=∀ o i,subscripted b false o i=operate [o,i] (getItem o i)
def tV(X:Cx)(r:R2):Prop :=
 ∀(value slice:Expr)(pins:List (af×Obj)) (s:Shared) (σ:St) (H:Hp) (x y:V) (v u:Value) (Q:VK),Inv X pins σ H s->RelV x v->RelV y u->r x y H Q ->
  subscripted slice false v u=operate [v,u] (getItem v u)->ah (aq X.prog X.w) X.A (jI value slice v u) (EP X pins σ Q) X.xe s
def mE(X:Cx)(id:String)(r:V->List V->Hp->VK->Prop):Prop :=
 ∀(pins:List (af×Obj)) (s:Shared) (σ:St) (H:Hp) (x:V) (xs:List V) (v:Value) (us:List Value) (Q:VK),Inv X pins σ H s->RelV x v->Vals xs us->r x xs H Q ->
  ah (aq X.prog X.w) X.A (call (.builtin id) (v::us)) (EP X pins σ Q) X.xe s
section
variable {X:Cx} {a b:Expr} {ta tb:TE} {pos:Pos}
theorem NV{r:R2}(hr:tV X r)(ha:PE X a ta)(hb:PE X b tb)(hs:JJ b):PE X (.Subscript a b pos) (uS r ta tb):=by
 intro pins s σ H Q I h;exact Subscript_ (sy ha hb I h λv u s2 x y H2 I2 rx ry q=>hr a b pins s2 σ H2 x y v u Q I2 rx ry q (hs _ _))
noncomputable def Fg(K:gc):R2:=λx y H Q=>∃ p xs i v,x=.ref p/\y=.int i/\gz K H p xs/\rg xs i=some v/\Q v H
noncomputable def Fc(K:gc):R2:=λx y H Q=>∃ p xs i v,x=.ref p/\y=.int i/\ik K H p xs/\rg xs i=some v/\Q v H
noncomputable def Fd:R2:=λx y H Q=>∃ z i c,x=.str z/\y=.int i/\z.length<=sizeLine/\rg z.cps.toList i=some c/\Q (.str ⟨#[c]⟩) H
theorem Zcs:tV X (Fg X.K):=by
 intro value slice pins s σ H x y v u Q I rx ry h hs;obtain⟨p,xs,i,z,rfl,rfl,hq,he,q⟩:=h;cases rx;obtain⟨t,rfl⟩:=ry;obtain⟨its,r,pl,hz⟩:=I.list hq;obtain⟨j,h1,h2,h3,h4,h5⟩:=IA he;obtain⟨w,ew,EW⟩:=r.get h2;have hl:=r.length;have hn:=tO;have fin:EP X pins σ Q w s:=⟨z,H,I,EW,q⟩;by_cases h0:0<=i
 ·have hj:i.toNat=j:=by
   rw[iG h0 h5] at h1;exact gb.inj h1
  exact item_listR pl.isList h0 (by lia) (by rw[hj];simpa using ew) fin hs
 ·have hj:(i+(its.toArray.size:Int)).toNat=j:=by
   rw[seqIndex_neg (by lia) h4] at h1;rw[wc,<- hl];exact gb.inj h1
  exact fb (x:=w) pl.isList.typeIs slot_list_getitem.lookup
   (wpAny_getItem_list_neg (Q:=λr s'=>r=w/\EP X pins σ Q r s') pl.isList (by lia) (by rw[wc] <;> lia) (by lia) (by rw[hj];simpa using ew) ⟨rfl,fin⟩) hs
theorem ZcN:tV X (Fc X.K):=by
 intro value slice pins s σ H x y v u Q I rx ry h hs;obtain⟨p,xs,i,z,rfl,rfl,hq,he,q⟩:=h;cases rx;obtain⟨t,rfl⟩:=ry;obtain⟨its,r,pl,hz⟩:=I.tuple hq;obtain⟨j,h1,h2,h3,h4,h5⟩:=IA he;obtain⟨w,ew,EW⟩:=r.get h2;have hl:=r.length;have hn:=tO;have fin:EP X pins σ Q w s:=⟨z,H,I,EW,q⟩;exact fb (x:=w) pl.typeIs slot_tuple_getitem.lookup
  (getItem_tuple (j:=j) (Q:=λr s'=>r=w/\EP X pins σ Q r s') pl (by lia) (by lia) (by rw[wc,<- hl];exact h1) (by simpa using ew) ⟨rfl,fin⟩) hs
theorem QcO:tV X Fd:=by
 intro value slice pins s σ H x y v u Q I rx ry h hs;obtain⟨z,i,c,rfl,rfl,hz,he,q⟩:=h;obtain⟨t,rfl⟩:=rx;obtain⟨t',rfl⟩:=ry;obtain⟨j,h1,h2,h3,h4,h5⟩:=IA he;have hl:z.cps.toList.length=z.length:=by simp[Str.length]
 rw[hl] at h1 h4 h5;have hn:=tO;exact tail_any (cV s z t) slot_str_getitem.lookup (getItem_str (c:=c) (by
  have e1:decide (i < -(2^63:Int))=false:=decide_eq_false (by lia);have e2:decide (i>=2^63)=false:=decide_eq_false (by lia);rw[e1,e2,xy]) (by rw[h1];simpa using h2) ⟨.str ⟨#[c]⟩,H,I.tok _,⟨_,rfl⟩,q⟩) hs
theorem qbq(its:List Value)(n j:Nat)(u:Value):jl (·.setIfInBounds j u) {cls:=.type "list",data:=.seq its.toArray n}={cls:=.type "list",data:=.seq (its.set j u).toArray n}:=by
 simp[jl]
theorem Inv.lst{pins:List (af×Obj)}{σ:St}{H:Hp}{s:Shared}{p:af}{xs:List V}(I:Inv X pins σ H s)(h:H p=some (.lst xs)) :
  ∃(its:List Value)(n:Nat),Vals xs its/\s.heap.get? p=some {cls:=.type "list",data:=.seq its.toArray n}/\xs.length<=sizeLine:=by
 obtain⟨z,its,n,r,e⟩:=I.aR p _ h;exact⟨its,n,r,e,z⟩
theorem Inv.rR{pins:List (af×Obj)}{σ:St}{H:Hp}{s:Shared}{p:af}{xs ys:List V}{its its':List Value}{n n':Nat}{f:Obj->Obj}(I:Inv X pins σ H s)(h:H p=some (.lst xs))
  (ho:s.heap.get? p=some {cls:=.type "list",data:=.seq its.toArray n}) (hf:f {cls:=.type "list",data:=.seq its.toArray n}={cls:=.type "list",data:=.seq its'.toArray n'}) (r:Vals ys its') (hz:ys.length<=sizeLine) (t:Nat) :
  Inv X pins σ (upd H p (.lst ys)) {s with heap:=s.heap.update p f,toks:=t}:=by
 have e:(s.heap.update p f).get? p=some {cls:=.type "list",data:=.seq its'.toArray n'}:=by
  rw[wo f ho (by rw[hf] <;> rfl),hf]
 refine I.write (x:=p) (e:=p) (by rw[h];trivial) (.inl rfl) (λb u hb q=>(uj _ _ (Gd hb)).trans q) ⟨_,e⟩ ?_;exact⟨hz,its',n',r,e⟩
def mY:V->V->V->Hp->(Hp->Prop)->Prop:=λo i v H Q=>∃ p xs k j,o=.ref p/\i=.int k/\H p=some (.lst xs)/\rV xs.length k=some j/\Q (upd H p (.lst (xs.set j v)))
theorem zca:BQ X mY:=by
 intro pins s σ H o i v ov iv u Q I ro ri rv h;obtain⟨p,xs,k,j,rfl,rfl,hp,hj,q⟩:=h;cases ro;obtain⟨t,rfl⟩:=ri;obtain⟨its,n,r,ho,hz⟩:=I.lst hp;obtain⟨h1,h2,h3,h4⟩:=Pp hj;have hl:=r.length;have hn:=tO;have I':Inv X pins σ (upd H p (.lst (xs.set j v))) {s with heap:=s.heap.update p (jl (·.setIfInBounds j u))} :=
  I.rR hp ho (qbq its n j u) (r.set rv j) (by rw[List.length_set];exact hz) s.toks
 by_cases h0:0<=k
 ·have hk:k.toNat=j:=by
   rw[iG h0 h4] at h1;exact gb.inj h1
  exact PySem.W.ki_setAt ho h0 (by lia) (by rw[wc,<- hl];exact h4) (by rw[hk];exact⟨_,I',q⟩)
 ·have hk:(k+(its.toArray.size:Int)).toNat=j:=by
   rw[seqIndex_neg (by lia) h3] at h1;rw[wc,<- hl];exact gb.inj h1
  exact PySem.W.ki_setBack ho (by lia) (by rw[wc,<- hl];exact h3) (by lia) (by rw[hk];exact⟨_,I',q⟩)
theorem QaX(lo hi:Option Int)(n:Nat):(cA lo hi none n).1=((HT.cu n 0 lo:Nat):Int)/\(cA lo hi none n).2.1=((HT.cu n n hi:Nat):Int)/\(cA lo hi none n).2.2=1:=by
 refine⟨?_,?_,rfl⟩
 ·cases lo with
  |none=>simp[cA,HT.cu]
  |some i =>
   simp only[cA,HT.cu,vF,show(1:Int)>0 by decide,if_true];by_cases h:i<0
   ·simp only[h,if_true] <;> lia
   ·simp only[h,if_false] <;> lia
 ·cases hi with
  |none=>simp[cA,HT.cu]
  |some i =>
   simp only[cA,HT.cu,vF,show(1:Int)>0 by decide,if_true];by_cases h:i<0
   ·simp only[h,if_true] <;> lia
   ·simp only[h,if_false] <;> lia
theorem yaC(its:List Value)(lo hi:Option Int):slicePick its.toArray lo hi none=((its.drop (HT.cu its.length 0 lo)).take (HT.cu its.length its.length hi-HT.cu its.length 0 lo)).toArray:=by
 obtain⟨h1,h2,h3⟩:=QaX lo hi its.toArray.size;unfold slicePick;rw[h1,h2,h3];simp only[sliceRange_one,pick_run,wc] <;> rfl
def E7(K:gc):V->Option Int->Option Int->Hp->VK->Prop:=λx lo hi H Q=>∃ a xs,x=.ref a/\gz K H a xs/\∀ p,H p=none->Q (.ref p) (upd H p (.lst (pC xs lo hi)))
theorem Pj:Dw X (E7 X.K):=by
 intro pins s σ H x v vl vu lo hi sl Q I rx hs pl pu h;obtain⟨a,xs,rfl,hx,q⟩:=h;cases rx;obtain⟨its,r,ht,hz⟩:=I.list hx;have hlen:=r.length;refine⟨"list",_,slot_list_getitem.lookup,ht.isList.typeIs,?_⟩;refine wpAny_getItem_list_slice ht.isList hs pl pu .none (by simp) ?_ (by rw[wc] <;> lia);rw[yaC,<- hlen];refine⟨.ref s.heap.objs.size,_,I.laid (t':=s.toks) (o:=.lst (pC xs lo hi)) (λb ob q=>wa _ q) (vb _) ?_,rfl,q _ (I.aR.fresh (vb _))⟩;exact⟨Xe (Oh xs lo hi) hz,_,0,(r.drop (HT.cu xs.length 0 lo)).take (HT.cu xs.length xs.length hi-HT.cu xs.length 0 lo),Xb _ rfl⟩
theorem yaV:aH X (.builtin "len") (λxs H Q=>∃ p ys,xs=[.ref p]/\(gz X.K H p ys\/ik X.K H p ys)/\Q (.int ys.length) H):=by
 intro pins s σ H xs us Q I r h;obtain⟨p,ys,rfl,hq,q⟩:=h;obtain⟨u,rfl,rx⟩:=tQ r;cases rx;have hn:=tO
 rcases hq with hq|hq
 ·obtain⟨its,r',pl,hz⟩:=I.list hq;have hlen:=r'.length;exact Calls.call_len_list pl.isList (by simp only[wc] <;> lia) ⟨.int ys.length,H,I.tok _,⟨s.toks+1,by rw[wc,hlen]⟩,q⟩
 ·obtain⟨its,r',pl,hz⟩:=I.tuple hq;have hlen:=r'.length;exact len_tuple pl (by simp only[wc] <;> lia) ⟨.int ys.length,H,I.tok _,⟨s.toks+1,by rw[wc,hlen]⟩,q⟩
theorem QaW:aH X (.builtin "len") (λxs H Q=>∃ z,xs=[.str z]/\z.length<=sizeLine/\Q (.int z.length) H):=by
 intro pins s σ H xs us Q I r h;obtain⟨z,rfl,hz,q⟩:=h;obtain⟨u,rfl,t,rfl⟩:=tQ r;have hn:=tO;exact len_str (by lia) ⟨.int z.length,H,I.tok _,⟨_,rfl⟩,q⟩
theorem za2:aH X (.type "list") (λxs H Q=>∃ p ys,xs=[.ref p]/\(gz X.K H p ys\/ik X.K H p ys)/\∀ l,H l=none->Q (.ref l) (upd H l (.lst ys))):=by
 intro pins s σ H xs us Q I r h;obtain⟨p,ys,rfl,hq,q⟩:=h;obtain⟨u,rfl,rx⟩:=tQ r;cases rx;have fin:∀(its:List Value),Vals ys its->ys.length<=sizeLine->∀(h':Heap)(c':Nat),(∀ b o',s.heap.get? b=some o'->h'.get? b=some o') ->
   h'.get? s.heap.objs.size=some {cls:=.type "list",dict:=none,data:=.seq its.toArray c',slots:=#[]}->EP X pins σ Q (.ref s.heap.objs.size) {s with heap:=h'}:=λits r' hz h' c' kp e =>
  ⟨.ref s.heap.objs.size,_,I.laid (t':=s.toks) kp (vb _) (show ba X.prog X.w _ h' _ (.lst ys) from⟨hz,its,c',r',e⟩),rfl,q _ (I.aR.fresh (vb _))⟩
 rcases hq with hq|hq
 ·obtain⟨its,r',pl,hz⟩:=I.list hq;have hlen:=r'.length;obtain⟨o,ho,hc,n,hd⟩:=pl.isList;exact jS p (.inl rfl) ho hc hd (λh' c' kp e=>fin its r' hz h' c' kp e) (by simp only[wc] <;> lia)
 ·obtain⟨its,r',pl,hz⟩:=I.tuple hq;have hlen:=r'.length;obtain⟨o,ho,hc,n,hd⟩:=pl;exact jS p (.inr rfl) ho hc hd (λh' c' kp e=>fin its r' hz h' c' kp e) (by simp only[wc] <;> lia)
theorem QaD:aH X (.type "tuple") (λxs H Q=>∃ p ys,xs=[.ref p]/\((gz X.K H p ys/\∀ l,H l=none->Q (.ref l) (upd H l (.tup ys)))\/(ik X.K H p ys/\Q (.ref p) H))):=by
 intro pins s σ H xs us Q I r h;obtain(⟨p,ys,rfl,h⟩):=h;obtain(⟨u,rfl,rx⟩):=tQ r;cases rx
 rcases h with ⟨hq,q⟩|⟨hq,q⟩
 ·obtain(⟨its,r',pl,hz⟩):=I.list hq;have hlen:=r'.length;refine call_tuple_list pl.isList (λh' kp=>?_) (by simp only[wc] <;> lia);have I1:Inv X pins σ H {s with heap:=h'}:=I.kept (t':=s.toks) kp;have I2:Inv X pins σ (upd H h'.objs.size (.tup ys)) {s with heap:=h'.push {cls:=.type "tuple",data:=.seq its.toArray}} :=
   I1.laid (t':=s.toks) (λb o e=>wa _ e) (vb _) (show ba X.prog X.w _ _ _ (.tup ys) from⟨hz,its,r',iq.new _ _⟩)
  exact⟨.ref h'.objs.size,_,I2,rfl,q _ (I1.aR.fresh (vb _))⟩
 ·obtain(⟨its,r',pl,hz⟩):=I.tuple hq;exact call_tuple_same pl ⟨.ref p,H,I,rfl,q⟩
def B8(K:gc)(T:String)(x:V)(H:Hp):Prop:=match x with
 |.str _=>T="str"
 |.int _=>T="int"
 |.ref p=>(T="list"/\∃ xs,gz K H p xs)\/(T="tuple"/\∃ o,K.lookup p=some o/\o.cls=.type "tuple"/\o.dict=none) \/
   (T="dict"/\((∃ aJ,H p=some (.dK aJ))\/∃ aJ,H p=some (.dT aJ)))\/(T="set"/\∃ S n,H p=some (.set S n))
 |_=>False
theorem Ox{pins:List (af×Obj)}{σ:St}{H:Hp}{s:Shared}{T:String}{x:V}{v:Value}(I:Inv X pins σ H s)(r:RelV x v)(ty:B8 X.K T x H) :
  s.TypeIs v T/\∀ a,v=.ref a->∃ ob,s.heap.get? a=some ob/\ob.dict=none:=by
 cases x with
 |str z =>
  obtain⟨t,rfl⟩:=r;cases(show T="str" from ty);exact⟨cV s z t,λ_ e=>nomatch e⟩
 |int i =>
  obtain⟨t,rfl⟩:=r;cases(show T="int" from ty);exact⟨iW s i t,λ_ e=>nomatch e⟩
 |ref p =>
  cases r
  rcases ty with ⟨rfl,xs,hq⟩|⟨rfl,o,hk,hc,hd⟩|⟨rfl,hk⟩|⟨rfl,S,n,hk⟩
  ·obtain⟨its,_,pl,_⟩:=I.list hq;refine⟨pl.isList.typeIs,λa e=>?_⟩;cases e;obtain⟨o,n,e,c,hd,_⟩:=pl;exact⟨o,e,hd⟩
  ·refine⟨⟨o,I.iP p o hk,hc⟩,λa e=>?_⟩;cases e;exact⟨o,I.iP _ o hk,hd⟩
  ·have z:∃ o,s.heap.get? p=some o/\o.ExactDict:=by
    rcases hk with ⟨aJ,hk⟩|⟨aJ,hk⟩
    ·obtain⟨_,_,_,_,o,_,_,e,ex,_⟩:=I.aR p _ hk;exact⟨o,e,ex⟩
    ·obtain⟨_,_,_,_,o,_,_,e,ex,_⟩:=I.aR p _ hk;exact⟨o,e,ex⟩
   obtain⟨o,e,ex⟩:=z;refine⟨⟨o,e,ex.1⟩,λa e2=>?_⟩;cases e2;exact⟨o,e,ex.2.1⟩
  ·obtain⟨o,_,_,_,e,ex,_⟩:=I.aR p _ hk;refine⟨⟨o,e,ex.1⟩,λa e2=>?_⟩;cases e2;exact⟨o,e,ex.2.1⟩
 |_=>exact Kh ty
noncomputable def EG(K:gc)(T:String)(r:V->List V->Hp->VK->Prop)(to:TE):TE:=λσ H Q=>to σ H λx H1=>B8 K T x H1/\r x [] H1 Q
noncomputable def tBM(K:gc)(T:String)(r:V->List V->Hp->VK->Prop)(to:TE)(t:TA):TE:=λσ H Q=>to σ H λx H1=>B8 K T x H1/\t σ H1 λxs H2=>r x xs H2 Q
variable {o e:Expr} {es:List Expr} {to:TE} {t:TA} {name:Str} {apos fg:Pos} {T id:String} {r:V->List V->Hp->VK->Prop}
theorem qcS(pa:PlainAttrs T)(slot:Slot T name id)(rY:typeOf (.builtin id)=pure (.type "method_descriptor"))(hm:mE X id r)(ho:PE X o to)
  (nB:bB o name X.env (eval o X.env)=eval o X.env:=by rfl) (eQ:(apos.endLine==fg.line)=true:=by rfl):PE X (.Call (.Attribute o name apos) [] [] fg) (EG X.K T r to):=by
 intro pins s σ H Q I h;refine wpAny_Call_method0_late nB eQ (bf (ho pins s σ H _ I h) λv s1 ⟨x,H1,I1,r1,ty,q1⟩=>?_);obtain⟨h1,h2⟩:=Ox I1 r1 ty;exact⟨T,id,pa,slot,rY,h1,h2,Ke rfl (PySem.evalArgs_none (hm pins s1 σ H1 x [] v [] Q I1 r1 .nil q1))⟩
theorem NW(pa:PlainAttrs T)(slot:Slot T name id)(rY:typeOf (.builtin id)=pure (.type "method_descriptor"))(hm:mE X id r)(ho:PE X o to)(ha:PA X (e::es) t)
  (nB:bB o name X.env (eval o X.env)=eval o X.env:=by rfl)
  (GW:((bV fg (au (e::es) X.env)).all (λx=>!x.1)&&(jz fg (fK [] X.env)).all (λx=>x.1.isSome)
   && decide ((e::es).length+([]:List ip).length+(if([]:List ip).isEmpty then 0 else 1)<30))=true:=by rfl)
  (eQ:(apos.endLine==fg.line)=true:=by rfl) (hs:au (e::es) X.env=(false,eval e X.env)::au es X.env:=by rfl) (r6:(bV fg (au es X.env)).any (·.1)=false:=by rfl) :
  PE X (.Call (.Attribute o name apos) (e::es) [] fg) (tBM X.K T r to t):=by
 intro pins s σ H Q I h;refine wpAny_Call_method_late nB GW eQ rfl (bf (ho pins s σ H _ I h) λv s1 ⟨x,H1,I1,r1,ty,q1⟩=>?_);obtain⟨h1,h2⟩:=Ox I1 r1 ty;refine⟨T,id,pa,slot,rY,h1,h2,?_⟩;have hA:=ha fg pins s1 σ H1 _ I1 q1;rw[hs] at hA ⊢;refine Ke (by show(false||(bV fg (au es X.env)).any (·.1))=false;rw[r6] <;> rfl) (je ?_);exact bf hA λus s2 ⟨vs,H2,I2,r2,q2⟩=>hm pins s2 σ H2 x vs v us Q I2 r1 r2 q2
end
def BS(X:Cx)(id:String)(r:V->List V->Hp->VK->Prop):Prop :=
 ∀(pins:List (af×Obj)) (s:Shared) (σ:St) (H:Hp) (x:V) (xs:List V) (v:Value) (us:List Value) (Q:VK),Inv X pins σ H s->RelV x v->Vals xs us->r x xs H Q ->
  ah (aq X.prog X.w) X.A (call (.builtin id) (v::us)) (EP X pins σ Q) X.xe s
theorem Vals.one:∀{x:V}{us:List Value},Vals [x] us->∃ u,us=[u]/\RelV x u
 |_,_,.cons r .nil=>⟨_,rfl,r⟩
theorem Vals.zero:∀{us:List Value},Vals [] us->us=[]
 |_,.nil=>rfl
theorem Vals.dropLast{xs:List V}{us:List Value}(h:Vals xs us):Vals xs.dropLast us.dropLast:=by
 induction h with
 |nil=>exact .nil
 |cons r t ih =>
  cases t with
  |nil=>exact .nil
  |cons q t'=>exact .cons r ih
theorem Vals.reverse{xs:List V}{us:List Value}(h:Vals xs us):Vals xs.reverse us.reverse:=by
 induction h with
 |nil=>exact .nil
 |cons r t ih=>rw[wz,wz];exact Vals.append ih (.cons r .nil)
theorem Vals.rep{xs:List V}{us:List Value}(h:Vals xs us):∀ k:Nat,Vals (xa k xs).flatten (xa k us).flatten
 |0=>.nil
 |k+1=>by
  rw[Wl,Wl,vq,vq];exact Vals.append h (Vals.rep h k)
theorem Qbt{α:Type}(l:List α):l.eraseIdx (l.length-1)=l.dropLast:=by
 induction l with
 |nil=>rfl
 |cons a r ih =>
  cases r with
  |nil=>rfl
  |cons b r =>
   have e:(a::b::r).length-1=((b::r).length-1)+1:=by
    have h1:(a::b::r).length=r.length+2:=rfl;have h2:(b::r).length=r.length+1:=rfl
    lia
   rw[e,List.eraseIdx_cons_succ,ih]
   all_goals rfl
theorem PF(its:List Value):∀(k:Nat)(acc:List Value),
  XG (λx1 x2=>x1++x2) acc.toArray (xa k its.toArray)=(acc++(xa k its).flatten).toArray
 |0,acc=>by simp
 |k+1,acc=>by
  have e:acc.toArray++its.toArray=(acc++its).toArray:=by simp
  have e2:(acc++its)++(xa k its).flatten=acc++(xa (k+1) its).flatten:=by
   rw[Wl,vq,vk]
  rw[<- e2,<- PF its k (acc++its),<- e,Wl,Hl]
section
variable {X:Cx} {pins:List (af×Obj)} {σ:St} {H:Hp} {s:Shared} {l b:af} {xs ys zs:List V}
theorem Inv.oM{its its':List Value}{n:Nat}{f:Array Value->Array Value}{t':Nat}(I:Inv X pins σ H s)(hH:H l=some (.lst xs))
  (e:s.heap.get? l=some {cls:=.type "list",data:=.seq its.toArray n}) (hf:f its.toArray=its'.toArray) (hv:Vals ys its') (hz:ys.length<=sizeLine) :
  Inv X pins σ (upd H l (.lst ys)) {s with heap:=s.heap.update l (jl f),toks:=t'}:=by
 have q:=PySem.IsL.update e f;rw[hf] at q;refine I.write (x:=l) (e:=l) (by rw[hH];exact trivial) (.inl rfl) (λb' u hb hu=>(uj s.heap (jl f) (Gd hb)).trans hu) ⟨_,q⟩ ?_;exact⟨hz,its',_,hv,q⟩
theorem Inv.xV{its:List Value}{t':Nat}(I:Inv X pins σ H s)(hv:Vals ys its)(hz:ys.length<=sizeLine) :
  Inv X pins σ (upd H s.heap.objs.size (.lst ys)) {s with heap:=s.heap.push {cls:=.type "list",data:=.seq its.toArray},toks:=t'} :=
 I.laid (λ_ _ q=>wa _ q) (vb _) ⟨hz,its,0,hv,Xb _ rfl⟩
theorem Inv.fresh(I:Inv X pins σ H s):H s.heap.objs.size=none:=I.aR.fresh (vb _)
theorem Inv.oJ(I:Inv X pins σ H s)(hH:H l=some (.lst xs)):xs.length<=sizeLine/\∃(its:List Value)(n:Nat),Vals xs its/\xs.length=its.length/\s.heap.get? l=some {cls:=.type "list",data:=.seq its.toArray n}:=by
 obtain⟨z,its,n,r,e⟩:=I.aR l _ hH;exact⟨z,its,n,r,r.length,e⟩
theorem O5{n:Nat}(h:n<=sizeLine):Km n=false:=by
 unfold Km;exact decide_eq_false (by lia)
end
section
variable {X:Cx}
def Yco:V->List V->Hp->VK->Prop:=λx vs H Q=>∃ l xs y,x=.ref l/\vs=[y]/\H l=some (.lst xs)/\xs.length<sizeLine/\Q .a9 (upd H l (.lst (xs++[y])))
theorem qbG:BS X "list.append" Yco:=by
 intro pins s σ H x vs v us Q I rx rv h;obtain⟨l,xs,y,rfl,rfl,hH,hz,q⟩:=h;cases rx;obtain⟨u,rfl,ru⟩:=rv.one;obtain⟨z,its,n,r,hl,e⟩:=I.oJ hH;refine bF F.slot_list_append ⟨_,e,rfl⟩ F.entry_list_append (F.args_list_append_2 _ _) (PySem.list_append l its.toArray n u (by rw[wc];lia)) ⟨e,?_⟩;refine⟨.a9,_,I.oM (its':=its++[u]) hH e (by simp) (r.append (.cons ru .nil)) ?_,rfl,q⟩;rw[xf,UB]
 lia
def Cj:V->List V->Hp->VK->Prop:=λx vs H Q=>∃ l b xs zs,x=.ref l/\vs=[.ref b]/\H l=some (.lst xs)/\H b=some (.lst zs)/\xs.length+zs.length<=sizeLine/\Q .a9 (upd H l (.lst (xs++zs)))
def E8:V->List V->Hp->VK->Prop:=λx vs H Q=>∃ l xs y,x=.ref l/\vs=[]/\H l=some (.lst xs)/\xs[xs.length-1]?=some y/\Q y (upd H l (.lst xs.dropLast))
theorem FJ:BS X "list.pop" E8:=by
 intro pins s σ H x vs v us Q I rx rv h;obtain⟨l,xs,y,rfl,rfl,hH,hy,q⟩:=h;cases rx;have F7:=rv.zero;subst F7;obtain⟨z,its,n,r,hl,e⟩:=I.oJ hH;obtain⟨u,hu,ru⟩:=r.get hy;have hy':its.toArray[its.toArray.size-1]?=some u:=by
  show its.toArray[its.length-1]?=some u;rw[<- Vv,<- hl];exact hu
 refine bF F.slot_list_pop ⟨_,e,rfl⟩ F.entry_list_pop (F.args_list_pop_1 _) (MeetsSeq.list_pop_last l its.toArray n u hy' (by rw[wc];lia)) ⟨e,?_⟩;refine⟨y,_,I.oM (its':=its.dropLast) hH e ?_ r.dropLast ?_,ru,q⟩
 ·show its.toArray.eraseIdxIfInBounds (its.toArray.size-1)=its.dropLast.toArray;rw[wc,List.eraseIdxIfInBounds_toArray,Qbt]
 ·rw[List.length_dropLast]
  lia
def Ycb:V->List V->Hp->VK->Prop:=λx vs H Q=>∃ l xs,x=.ref l/\vs=[]/\H l=some (.lst xs)/\Q .a9 (upd H l (.lst xs.reverse))
theorem zbs:BS X "list.reverse" Ycb:=by
 intro pins s σ H x vs v us Q I rx rv h;obtain⟨l,xs,rfl,rfl,hH,q⟩:=h;cases rx;have F7:=rv.zero;subst F7;obtain⟨z,its,n,r,hl,e⟩:=I.oJ hH;refine bF F.slot_list_reverse ⟨_,e,rfl⟩ F.entry_list_reverse (F.args_list_reverse_1 _) (AutoSeq1.list_reverse_list_0 l its.toArray n (by rw[wc];lia)) ⟨e,?_⟩;refine⟨.a9,_,I.oM (its':=its.reverse) hH e (by simp) r.reverse ?_,rfl,q⟩;rw[List.length_reverse]
 lia
theorem ycm{α:Type}(xs:List α)(k:Nat):(xa k xs).flatten.length=k*xs.length:=by
 induction k with
 |zero=>simp
 |succ k ih=>rw[Wl,vq,xf,ih,Nat.succ_mul,Nat.add_comm]
end
end L2
namespace PY
open PySem PySem.W PySem.Calls PyProof.Rows
theorem qak{P:lU}{h:Heap}:∀(ns:List Int)(vs:List Value),WellAll P h vs (ns.map WData.int)->fZ vs ns:=by
 intro ns
 induction ns with
 |nil =>
  intro vs w;rw[Uj] at w;cases w;exact .nil
 |cons n ns ih =>
  intro vs w;rw[Ub] at w;cases w with
  |cons a b =>
   cases a;exact .cons _ _ (ih _ b)
theorem ZbT{l:OpenLaw}{n:Nat}(hn:l.most=some n){P:lU}{h:Heap}{args:List WData}{vals:List Value}
  (oQ:l.row.toRowW.claim.pre args=true) (F6:WellAll P h vals args) :
  ∃ a vs ns,vals=[ka a]/\args=[WData.list (ns.map WData.int)]/\h.get? a=some {cls:=.type "list",data:=.seq vs.toArray}/\fZ vs ns/\ns.length<=n:=by
 have AB:WShape.hasAll [] args [.list .int]=true:=(pre_splitW oQ).1;have hc:l.pre.holds [] {args:=args}=true:=(pre_splitW oQ).2;obtain⟨d,r,rfl,h1,h2⟩:=hasAllW_cons AB;obtain rfl:=hasAllW_nil h2;obtain⟨xs,rfl,h3⟩:=hasW_list h1;obtain⟨ns,rfl⟩:=items_int h3;have hlen:ns.length<=n:=by
  unfold OpenLaw.pre at hc;have h4:(WTm.not (.lt (.lit (.int (n:Int))) (.len (.arg 0)))).holds [] {args:=[.list (ns.map .int)]}=true:=by
   have h4:=(holds_andW hc).1;rw[hn] at h4;exact h4
  have h5:=condW_of h4 (w_not (w_lt w_lit (w_len_list (w_arg rfl))));rw[xc] at h5;refine Uv λq=>?_;have q':(n:Int)<((ns.length:Nat):Int):=by lia
  first
   |(rw[decide_eq_true q'] at h5;exact absurd h5 (by decide))
   |(simp at h5;lia)
 cases F6 with
 |cons w1 w2 =>
  cases w2;cases w1 with
  |list ho kR=>exact⟨_,_,ns,rfl,rfl,ho,qak ns _ kR,hlen⟩
theorem YbM(l:OpenLaw)(args:List WData):l.row.toRowW.claim.post args (.bool true) args=true :=
 postW_of (r:=l.row.toRowW) (X:=(true==true))
  (show WShape.has [] (.bool true) .bool=true by first|rfl|decide|simp[WShape.has,WShape.arms,WShape.armsAll])
  (show(WTm.eq .res (.lit (.bool true))).value [] {args:=args,res:=some (.bool true),after:=args}=some (.bool (true==true)) from w_eq_bool (w_res rfl) w_lit) rfl
theorem kU{l:OpenLaw}{n:Nat}{q:ao}{loose:List Str}{XP:(Str->Option Value)->Heap->Prop}{YP:World->Heap->Prop}{d:DefRec}
  (hn:l.most=some n) (AR:d.params.defaults=[])
  (call:∀(w:World)(s₀ s₁:Shared)(mg mb:Str->Option Value)(fa:af)(o:Obj) (pm cd doc:Value) (a:af) (vs:List Value) (ns:List Int),
   Ground q loose [] XP w s₀ mg mb s₁.heap->YP w s₁.heap ->
   s₁.heap.get? fa=some o->o.data=.func (docDef d.name d.params d.body d.scope pm cd doc)->s₁.heap.CodeRec cd d.name->mg d.name=some (.ref fa) ->
   s₁.heap.get? a=some {cls:=.type "list",data:=.seq vs.toArray}->fZ vs ns->ns.length<=n->s₁.gens=#[] ->
   bL (aq l.prog w) fh (.call (.ref fa) ⟨[.ref a],[]⟩) (λr s'=>r=.ok (.ret (.bool true))/\OldK s₁.heap s'.heap/\s'.os=s₁.os/\dD s'.gens) s₁) :
  WalkO q loose XP YP l.row.toRowW d [] (λf vs=>Jc f vs):=by
 intro w s₀ s₁ mg mb G Y fa o pm cd doc dV kV ho hd mw hD AJ hg args vals as oQ mv hrd F6 hlo;obtain rfl:dV=.none:=Dflts.none hD AR;obtain rfl:kV=.none:=Dflts.noKw hD;obtain⟨a,vs,ns,rfl,rfl,sd,hints,hlen⟩:=ZbT hn oQ F6;refine enter_call (cQ (call w s₀ s₁ mg mb fa o pm cd doc a vs ns G Y ho (fd_plain hd) mw AJ sd hints hlen hg) λr s' hq=>?_);obtain⟨rfl,h2,h3,h4⟩:=hq;exact⟨.inl ⟨.bool true,.bool true,[],rfl,λ_=>rfl,.bool true,YbM l _,λ_=>⟨List.Pairwise.nil,λ_ hm=>(nomatch hm)⟩⟩,h2,h3,h4⟩
end PY
namespace L2
open PySem PySem.Spec PyProof.Rows
theorem Ol:∀{vs:List Value}{ns:List Int},fZ vs ns->Vals (ns.map V.int) vs
 |_,_,.nil=>.nil
 |_,_,.cons n t h=>.cons ⟨t,rfl⟩ (Ol h)
def BM(H:Hp):Prop:=∀ b,H b=none\/∃ o xs,H b=some (.eI o (.lst xs))
theorem zb7{P:ao}{w:World}{K:gc}{mg mb:Str->Option Value}{CX:lV}{k:Nat}{fa a:af}{fd:a8}{x:Str}{sp:Sp}{s₁:Shared}{vs:List Value}{ns:List Int}
  (KX:K.In s₁.heap) (tm:s₁.heap.Ns aB mg) (hb:s₁.heap.Ns builtinsNs mb) (hbb:∀ x:Str,x≠"__name__"->mb x=bw x) (GI:s₁.heap.NoLimit) (hg:s₁.gens=#[])
  (ha:s₁.heap.get? a=some {cls:=.type "list",data:=.seq vs.toArray}) (hi:fZ vs ns) (hl:ns.length<=sizeLine) (hr:dw k fh)
  (F:∀ base:Heap,K.In base->base.Ns aB mg->fk P w K mg base CX k fa fd [x] sp) (AV:∀(s:Shared)(u:Value),eA s fd ⟨[u],[]⟩ [(x,u)])
  (lh:∀ H:Hp,BM H->gz K H a (ns.map V.int)->sp [.ref a] H (λv _=>v=.bl true) λ_ _ _=>False)
  (Ht:∀ H e s',CX [] H s₁ (λ_ _ _=>False) e s'->False) :
  bL (aq P w) fh (.call (.ref fa) ⟨[.ref a],[]⟩) (λr s'=>r=.ok (.ret (.bool true))/\OldK s₁.heap s'.heap/\s'.os=s₁.os/\dD s'.gens) s₁:=by
 have rv:=Ol hi;have FP:=hi.length
 -- from an abstract heap in Lu nothing but rA rJ may be tracked
 have core:∀ H:Hp,BM H->gz K H a (ns.map V.int)->fu P w H s₁.heap->(∀ b,H b≠none->b=a)->(H a≠none->K.lookup a=none) ->
   bL (aq P w) fh (.call (.ref fa) ⟨[.ref a],[]⟩) (λr s'=>r=.ok (.ret (.bool true))/\OldK s₁.heap s'.heap/\s'.os=s₁.os/\dD s'.gens) s₁:=by
  intro H hO hS aR hA hK;have base_of:∀{b:af}{o:Obj},s₁.heap.get? b=some o->H b=none->(oE s₁.heap H).get? b=some o:=λe n=>Yb3 e n;have xP:∀{b:af}{o:Obj}{es:Array DictEntry}{ep:Nat},s₁.heap.get? b=some o->o.data=.dict es ep->H b=none:=λ{b o es ep} e d=>by
   cases q:H b with
   |none=>rfl
   |some u =>
    have e':b=a:=hA b (by rw[q];simp);subst e';rw[ha] at e;cases e;have d':Data.seq vs.toArray _=Data.dict es ep:=d;cases d'
  have Cr:∀{b:af}{m:Str->Option Value},s₁.heap.Ns b m->(oE s₁.heap H).Ns b m:=λ{b m} ⟨o,es,ep,e,d,r⟩=>⟨o,es,ep,base_of e (xP e d),d,r⟩;have Nt:K.In (oE s₁.heap H):=λb o e=>base_of (KX b o e) (by
   cases q:H b with
   |none=>rfl
   |some u =>
    have e':b=a:=hA b (by rw[q];simp);subst e';rw[hK (by rw[q];simp)] at e;cases e)
  have hM:Mod K mg (oE s₁.heap H):=⟨Nt,Cr tm,⟨mb,Cr hb,hbb⟩,let ⟨mc,h1,h2⟩:=GI;⟨mc,Cr h1,h2⟩⟩;have e0:kZ P w K mg (oE s₁.heap H) fh [] s₁ H:=⟨rfl,hM,λb o e=>Qcj e,Xm (ybP _ _),trivial,λb hb=>absurd (show b∈([]:List af) from hb) (by simp),aR,.of_eq hg⟩;refine cQ ((F _ Nt (Cr tm)).run fh [] s₁ H ⟨[.ref a],[]⟩ [.ref a] [.ref a] _ _ hr e0 (AV s₁ (.ref a)) (.cons rfl .nil) (lh H hO hS)) λr s' h=>?_;cases r with
  |error e=>exact(Ht H e s' h).elim
  |ok fl =>
   cases fl with
   |next=>exact Kh h
   |brk=>exact Kh h
   |cont=>exact Kh h
   |ret u =>
    obtain⟨v,H',os,bare,un,GC,r',q⟩:=h;have q':v=.bl true:=q;subst q';obtain rfl:u=Ga true:=r';refine⟨rfl,OldK.of_keep λb o e=>?_,os,bare⟩;cases q:H b with
    |none=>exact un.keep b o e q (by intro z;exact absurd (show b∈([]:List af) from z) (by simp)) (by simp)
    |some u =>
     rcases hO b with z|⟨ob,xs,z⟩
     ·rw[q] at z;cases z
     ·have z2:=un.ju b ob _ z;obtain⟨e1,_⟩:=aR b _ z;obtain⟨e2,_⟩:=GC b _ z2;rw[e] at e1;cases e1;exact e2
 cases hk:K.lookup a with
 |some o =>
  -- rA rJ is one of rA xT own objects
  have e:=KX a o hk;rw[ha] at e;cases e;refine core (λ_=>none) (λ_=>.inl rfl) (.inr ⟨_,vs.toArray,_,hk,rfl,rfl,rfl,by rw[wc,FP];exact hl,by simpa using rv⟩) (λb u z=>by have z':(none:Option HO)=some u:=z;cases z') (λb z=>absurd rfl z) λz=>absurd rfl z
 |none =>
  refine core (λb=>if b=a then some (.eI {cls:=.type "list",data:=.seq vs.toArray} (.lst (ns.map V.int))) else none) (λb=>?_) (.inl (.inr ⟨{cls:=.type "list",data:=.seq vs.toArray},if_pos rfl⟩)) (λb u z=>?_) (λb z=>?_) λ_=>hk
  ·by_cases hb:b=a
   ·exact .inr ⟨_,_,if_pos hb⟩
   ·exact .inl (if_neg hb)
  ·by_cases hb:b=a
   ·have z':=(if_pos hb).symm.trans z;cases z';subst hb;exact⟨ha,by rw[xc];exact hl,vs,_,rv,ha⟩
   ·have z':=(if_neg hb).symm.trans z;cases z'
  ·by_cases hb:b=a
   ·exact hb
   ·exact absurd (if_neg hb) z
noncomputable abbrev og{K:gc}{h:Heap}(_:K.In h):gc:=K
theorem oq{l:Gc}{n k:Nat}{q:ao}{loose:List Str}{XP:(Str->Option Value)->Heap->Prop}{YP:World->Heap->Prop}{d:DefRec}{K:lU->gc}{CX:World->lV}{sp:World->Sp}{x:Str}
  (hn:l.most=some n) (CW:n<=sizeLine) (AR:d.params.defaults=[]) (hr:dw k fh)
  (hY:∀(w:World)(h:Heap),YP w h->(K w.params).In h)
  (F:∀(w:World)(mg:Str->Option Value)(fa:af)(h:Heap),(K w.params).In h->h.Ns aB mg->mg d.name=some (.ref fa) ->
   ∃ fd:a8,(∀(s:Shared)(u:Value),eA s fd ⟨[u],[]⟩ [(x,u)]) /\
    ∀ base:Heap,(K w.params).In base->base.Ns aB mg->fk l.prog w (K w.params) mg base (CX w) k fa fd [x] (sp w))
  (lh:∀(w:World)(H:Hp)(a:af)(ns:List Int),ns.length<=n->BM H->gz (K w.params) H a (ns.map V.int)->sp w [.ref a] H (λv _=>v=.bl true) λ_ _ _=>False)
  (Ht:∀(w:World)(H:Hp)(s:Shared)(e:Value)(s':Shared),CX w [] H s (λ_ _ _=>False) e s'->False) :
  Hd q loose XP YP l.row.toRowW d [] (λf vs=>Jc f vs):=by
 refine PY.kU hn AR λw s₀ s₁ mg mb fa o pm cd doc a vs ns G Y ho hd mw AJ sd hints hlen hg=>?_;have KX:=hY w _ Y;obtain⟨fd,hb,hF⟩:=F w mg fa _ KX G.T.g AJ;exact zb7 KX G.T.g G.T.b G.T.builtins G.T.nolimit hg sd hints (Xe hlen CW) hr hF hb (λH hO hS=>lh w H a ns hlen hO hS) λH e s'=>Ht w H s₁ e s'
noncomputable def JT(s:Stmt)(j:Nat):Stmt:=match s with
 |.ClassDef _ _ _ body _ _ _ _ _ _ _=>body.getD j (.Pass ⟨0,0,0,0⟩)
 |_=>.Pass ⟨0,0,0,0⟩
noncomputable def zk(s:Stmt):Arguments:=match s with
 |.FunctionDef _ a _ _ _ _ _ _ _ _=>a
 |_=>{posonlyargs:=[],args:=[],vararg:=none,kwonlyargs:=[],kw_defaults:=[],kwarg:=none,defaults:=[]}
noncomputable def Zh(s:Stmt):List Stmt:=match s with
 |.FunctionDef _ _ b _ _ _ _ _ _ _=>b
 |_=>[]
noncomputable def yc(s:Stmt):aA:=match s with
 |.FunctionDef _ _ _ _ _ _ sc _ _ _=>sc
 |_=>{kind:=.function,names:=[],isGenerator:=false,isCoroutine:=false}
noncomputable abbrev CX0:lV:=λ_ _ _ _ _ _=>False
noncomputable abbrev E0:XK:=λ_ _ _=>False
structure oh (K:gc) (x qual:Str) (st:Stmt) (f:af) (fd:a8):Prop where
 ex:∃(oc:Value)(od:Option af)(kV doc pm:Value)(an:Option af)(cE ct:Value) (jL:Array (Option Value)),
  fd=wg x qual (zk st) (Zh st) (yc st) .none kV doc pm an cE ct/\K.lookup f=some ⟨oc,od,.func fd,jL⟩/\uk K cE qual=true
 kp:Ug K (.ref f)=true
section
variable {P:ao} {w:World} {K:gc} {mg:Str->Option Value} {base:Heap}
theorem oh.binds{x qual:Str}{st:Stmt}{f:af}{fd:a8}{ps:List Str}(F:oh K x qual st f fd)
  (h:∀(kV doc pm:Value)(an:Option af)(cE ct:Value)(us:List Value),us.length=ps.length->bindArgs (wg x qual (zk st) (Zh st) (yc st) .none kV doc pm an cE ct) ⟨us,[]⟩=pure (ps.zip us)):Binds K fd ps []:=by
 obtain⟨oc,od,kV,doc,pm,an,cE,ct,jL,rfl,lk,mw⟩:=F.ex;exact .all (h kV doc pm an cE ct)
theorem HZ{x qual:Str}{st:Stmt}{f:af}{oc:Value}{od an:Option af}{jL:Array (Option Value)}{kV doc pm cE ct:Value}(l:K.lookup f=some ⟨oc,od,.func (wg x qual (zk st) (Zh st) (yc st) .none kV doc pm an cE ct),jL⟩)
  (c:uk K cE qual=true) (k:Ug K (.ref f)=true):oh K x qual st f (wg x qual (zk st) (Zh st) (yc st) .none kV doc pm an cE ct):=⟨⟨oc,od,kV,doc,pm,an,cE,ct,jL,rfl,l,c⟩,k⟩
end
def IG(H H':Hp):Prop:=∀ b o,H b=some o->H' b=some o
section
variable {κ:Type} [DecidableEq κ]
noncomputable def sJ(aJ:List (κ×V))(k:κ):Option V:=(aJ.find? λkv=>decide (kv.1=k)).map (·.2)
noncomputable def YL(aJ:List (κ×V))(k:κ)(v:V):List (κ×V) :=
 if(aJ.any λkv=>decide (kv.1=k))=true then aJ.map (λkv=>if kv.1=k then(kv.1,v) else kv) else aJ++[(k,v)]
theorem Mz{p:κ×V}{r:List (κ×V)}{k:κ}(e:p.1=k):sJ (p::r) k=some p.2:=by simp[sJ,uw,e]
theorem Lq{p:κ×V}{r:List (κ×V)}{k:κ}(e:¬ p.1=k):sJ (p::r) k=sJ r k:=by simp[sJ,uw,e]
theorem N3(k:κ):∀ aJ:List (κ×V),(aJ.any λkv=>decide (kv.1=k))=(sJ aJ k).isSome
 |[]=>rfl
 |p::r=>by
  rw[xr];by_cases e:p.1=k
  ·simp only[Mz e,decide_eq_true e,Bool.true_or,xD]
  ·rw[Lq e,decide_eq_false e,Bool.false_or];exact N3 k r
theorem zN(aJ:List (κ×V))(k:κ)(v:V):(YL aJ k v).length<=aJ.length+1:=by
 unfold YL;split
 ·rw[xc];lia
 ·rw[xf,ud,Wo];lia
theorem jT.isSome_eq{o:Option V}{u:Option Value}(r:jT o u):o.isSome=u.isSome:=by
 cases o with
 |none=>cases u with
  |none=>rfl
  |some _=>exact(show False from r).elim
 |some _=>cases u with
  |none=>exact(show False from r).elim
  |some _=>rfl
theorem KV.any{aJ:List (κ×V)}{vs:List (κ×Value)}(r:KV aJ vs)(k:κ):(aJ.any λkv=>decide (kv.1=k))=vs.any λkv=>decide (kv.1=k):=by
 unfold KV at r
 induction r with
 |nil=>rfl
 |cons h t ih=>rw[xr,xr,ih,h.1]
theorem KV.rM{aJ:List (κ×V)}{vs:List (κ×Value)}(r:KV aJ vs)(k:κ){y:V}{u:Value}(ry:RelV y u) :
  KV (aJ.map λkv=>if kv.1=k then(kv.1,y) else kv) (vs.map λkv=>if kv.1=k then(kv.1,u) else kv):=by
 unfold KV at r ⊢
 induction r with
 |nil=>exact .nil
 |@cons p q ps qs h t ih =>
  rw[Ub,Ub];refine .cons ?_ ih;obtain⟨h1,h2⟩:=h;by_cases e:p.1=k
  ·rw[if_pos e,if_pos (h1.symm.trans e)];exact⟨h1,ry⟩
  ·rw[if_neg e,if_neg (λz=>e (h1.trans z))];exact⟨h1,h2⟩
theorem KV.put{aJ:List (κ×V)}{vs:List (κ×Value)}(r:KV aJ vs)(k:κ){y:V}{u:Value}(ry:RelV y u):KV (YL aJ k y) (stored vs k u):=by
 unfold YL stored;rw[r.any k];by_cases e:(vs.any λkv=>decide (kv.1=k))=true
 ·rw[if_pos e,if_pos e];exact r.rM k ry
 ·rw[if_neg e,if_neg e];exact bX.snoc r ⟨rfl,ry⟩
theorem KV.keys{aJ:List (κ×V)}{vs:List (κ×Value)}(r:KV aJ vs):aJ.map (·.1)=vs.map (·.1):=by
 unfold KV at r
 induction r with
 |nil=>rfl
 |cons h t ih=>rw[Ub,Ub,ih,h.1]
theorem KV.length{aJ:List (κ×V)}{vs:List (κ×Value)}(r:KV aJ vs):aJ.length=vs.length:=bX.length r
end
theorem DO{P:ao}{w:World}{k:Key}{u:Value}(r:RelV (kV k) u):(yh P w).is k u=true:=by
 cases k with
 |inl i=>obtain⟨t,e⟩:=(show ∃ t,u=Ja i t from r);subst e;exact qbf P w i t
 |inr x=>obtain⟨t,e⟩:=(show ∃ t,u=ja x t from r);subst e;exact qbj P w x t
theorem PL{P:ao}{w:World}:∀{ks:List Key}{us:List Value},Vals (ks.map kV) us->ItemsAre (yh P w) ks us
 |[],_,r=>by rw[Uj] at r;cases r;exact .nil
 |k::ks,_,r=>by
  rw[Ub] at r;cases r with
  |cons h t=>exact .cons (DO h) (PL t)
abbrev KT(H:Hp):List (List Key×V)->List (List Key×af×Value)->Prop:=bX λp q=>p.1=q.1/\H q.2.1=some (.tup (p.1.map kV))/\RelV p.2 q.2.2
theorem KT.val{H:Hp}{aJ:List (List Key×V)}{xs:List (List Key×af×Value)}(r:KT H aJ xs)(k:List Key):jT (sJ aJ k) ((jA xs k).map (·.2)):=by
 induction r with
 |nil=>exact Hg
 |@cons p q ps qs h t ih =>
  obtain⟨h1,_,h2⟩:=h;by_cases e:p.1=k
  ·have e':q.1=k:=h1.symm.trans e;have b:jA (q::qs) k=some q.2:=by simp[jA,uw,e']
   rw[Mz e,b];exact h2
  ·have e':¬ q.1=k:=λz=>e (h1.trans z);have b:jA (q::qs) k=jA qs k:=by simp[jA,uw,e']
   rw[Lq e,b];exact ih
theorem KT.rM{H:Hp}{aJ:List (List Key×V)}{xs:List (List Key×af×Value)}(r:KT H aJ xs)(k:List Key){y:V}{u:Value}(ry:RelV y u) :
  KT H (aJ.map λkv=>if kv.1=k then(kv.1,y) else kv) (xs.map (putAt k u)):=by
 induction r with
 |nil=>exact .nil
 |@cons p q ps qs h t ih =>
  rw[Ub,Ub];refine .cons ?_ ih;obtain⟨h1,h2,h3⟩:=h;unfold putAt;by_cases e:p.1=k
  ·rw[if_pos e,if_pos (h1.symm.trans e)];exact⟨h1,h2,ry⟩
  ·rw[if_neg e,if_neg (λz=>e (h1.trans z))];exact⟨h1,h2,h3⟩
theorem KT.put{H:Hp}{aJ:List (List Key×V)}{xs:List (List Key×af×Value)}(r:KT H aJ xs)(k:List Key){b:af}{y:V}{u:Value}(hb:H b=some (.tup (k.map kV)))(ry:RelV y u) :
  KT H (YL aJ k y) (storedH xs k b u):=by
 have e:(aJ.any λkv=>decide (kv.1=k))=(jA xs k).isSome:=by
  rw[N3,(r.val k).isSome_eq,Option.isSome_map]
 unfold YL storedH;rw[e];by_cases q:(jA xs k).isSome=true
 ·rw[if_pos q,if_pos q];exact r.rM k ry
 ·rw[if_neg q,if_neg q];exact bX.snoc r ⟨rfl,hb,ry⟩
theorem KT.keeps{H H':Hp}{aJ:List (List Key×V)}{xs:List (List Key×af×Value)}(r:KT H aJ xs)(ht:∀ b ys,H b=some (.tup ys)->H' b=some (.tup ys)):KT H' aJ xs :=
 bX.rQ r λ_ _ z=>⟨z.1,ht _ _ z.2.1,z.2.2⟩
section
variable {P:ao} {w:World} {H:Hp} {h:Heap} {a:af}
theorem Oz{u:HO}(ok:fu P w H h)(e:Rd H a u):ba P w H h a u:=e.ok ok
theorem Bp{aJ:List (Key×V)}(ok:fu P w H h)(e:Rd H a (.dK aJ)):aJ.length<=sizeLine/\(a==bN)=false/\∃ vs,KV aJ vs/\h.DictOf (yh P w) a vs :=
 show ba P w H h a (.dK aJ) from Oz ok e
theorem Ec{aJ:List (Key×V)}(ok:fu P w H h)(e:H a=some (.dK aJ)):aJ.length<=sizeLine/\(a==bN)=false/\∃ vs,KV aJ vs/\h.DictOf (yh P w) a vs:=Bp ok (.inl e)
theorem Fn{ks:List Key}(ok:fu P w H h)(e:H a=some (.tup (ks.map kV))):(cz (yh P w)).is h ks a:=by
 obtain⟨_,its,r,o,h1,h2,n,h3⟩:=(show ba P w H h a (.tup (ks.map kV)) from ok a _ e);exact⟨o,its.toArray,n,h1,h2,h3,by simpa using PL r⟩
theorem Bm{aJ:List (List Key×V)}(ok:fu P w H h)(e:Rd H a (.dT aJ)):aJ.length<=sizeLine/\(a==bN)=false /\
  ∃ xs,KT H aJ xs/\h.DictOfH (cz (yh P w)) a xs:=by
 obtain⟨z,y,xs,r,o,es,ep,h1,h2,h3,h4,h5⟩:=(show ba P w H h a (.dT aJ) from Oz ok e);refine⟨z,y,xs,r,o,es,ep,h1,h2,h3,h4,λx hx=>?_,h5⟩;have all:∀{l:List (List Key×V)} {m:List (List Key×af×Value)},KT H l m->∀ x∈m,(cz (yh P w)).is h x.1 x.2.1:=by
  intro l m q
  induction q with
  |nil=>intro x hx;exact nomatch hx
  |@cons p q ps qs hq t ih =>
   intro x hx
   rcases ua.mp hx with e|hx
   ·subst e;exact Fn ok (by rw[<- hq.1];exact hq.2.1)
   ·exact ih x hx
 exact all r x hx
theorem Bn{aJ:List (List Key×V)}(ok:fu P w H h)(e:H a=some (.dT aJ)):aJ.length<=sizeLine/\(a==bN)=false /\
  ∃ xs,KT H aJ xs/\h.DictOfH (cz (yh P w)) a xs:=Bm ok (.inl e)
end
def nQ(H:Hp)(a:af)(y v:V)(H':Hp):Prop :=
 (∃ aJ k,H a=some (.dK aJ)/\y=kV k/\aJ.length<sizeLine/\H'=upd H a (.dK (YL aJ k v))) \/
 ∃ aJ k b,H a=some (.dT aJ)/\y=.ref b/\H b=some (.tup (k.map kV))/\aJ.length<sizeLine/\H'=upd H a (.dT (YL aJ k v))
theorem nQ.k{H:Hp}{a:af}{aJ:List (Key×V)}{k:Key}{v:V}(e:H a=some (.dK aJ))(hl:aJ.length<sizeLine):nQ H a (kV k) v (upd H a (.dK (YL aJ k v))):=.inl ⟨aJ,k,e,rfl,hl,rfl⟩
section
variable {X:Cx} {pins:List (af×Obj)} {σ:St} {H:Hp} {s:Shared} {a:af} {y v:V} {u r:Value} {o:Option V} {A:Around} {E:Value->Shared->Prop}
theorem Inv.big(I:Inv X pins σ H s):bN<s.heap.objs.size:=by
 have h:aB<s.heap.objs.size:=(I.mod.glob.keeps I.bk).lt;exact vt (by decide) h
theorem Jx{h':Heap}{t':Nat}{ob:HO}(I:Inv X pins σ H s)(mu:BR (H a))(hs:ke a s.heap h')(he:∃ q,h'.get? a=some q)(new:ba X.prog X.w (upd H a ob) h' a ob) :
  Inv X pins σ (upd H a ob) {s with heap:=h',toks:=t'} :=
 I.write (x:=a) (e:=a) mu (.inl rfl) (λb q hb z=>(hs.2 b hb).trans z) he new
theorem KH{P:ao}{w:World}{H':Hp}{h':Heap}{aJ:List (Key×V)}{vs:List (Key×Value)}(z:aJ.length<=sizeLine)(hd:(a==bN)=false)(rel:KV aJ vs)(dd:h'.DictOf (yh P w) a vs) :
  ba P w H' h' a (.dK aJ):=⟨z,hd,vs,rel,dd⟩
theorem zbK{H':Hp}{Q:Unit->Shared->Prop}(hu:A.units+1<dY)(I:Inv X pins σ H s)(g:nQ H a y v H')(ry:RelV y u)(rv:RelV v r)(h:∀ s',Inv X pins σ H' s'->Q () s') :
  ah (aq X.prog X.w) A (j4 (.ref a) u r) Q E s:=by
 rcases g with ⟨aJ,k,e,ey,l,eH⟩|⟨aJ,k,b,e,ey,eb,l,eH⟩
 ·subst ey eH;obtain⟨z,hd,vs,rel,dd⟩:=Ec I.aR e;have hz:vs.length<=sizeLine:=by rw[<- rel.length];exact z
  have hl:(YL aJ k v).length<=sizeLine:=by have:=zN aJ k v;lia
  refine wpAny_setItem_pairs (hsz:=hz) (DO ry) dd λh' sr hs=>h _ ?_;have he:∃ q,h'.get? a=some q:=let ⟨q,_,_,hq,_⟩:=sr;⟨q,hq⟩;exact Jx I (by rw[e];exact Hg) hs he (KH hl hd (rel.put k rv) sr)
 ·subst ey eH;cases(show u=ka b from ry);obtain⟨z,hd,xs,rel,dd⟩:=Bn I.aR e;have hz:xs.length<=sizeLine:=by rw[<- bX.length rel];exact z
  have hl:(YL aJ k v).length<=sizeLine:=by have:=zN aJ k v;lia
  refine wpAny_setItem_heap (hsz:=hz) (gO hu) (Fn I.aR eb) dd λh' sr hs=>h _ ?_;obtain⟨q,es,ep,hq,h2,h3,h4,_,h5⟩:=sr;refine Jx I (by rw[e];exact Hg) hs ⟨q,hq⟩ ⟨hl,hd,_,(rel.put k eb rv).keeps λc ys ec=>?_,q,es,ep,hq,h2,h3,h4,h5⟩;rw[yd (xR ec e (λz=>nomatch z))];exact ec
end
noncomputable def vP(td ty tv:TE):TS:=λD σ H=>tv σ H λv H1=>td σ H1 λx H2=>ty σ H2 λy H3=>∃ a H4,x=.ref a/\nQ H3 a y v H4/\D.nx σ H4
section
variable {X:Cx} {o i e value:Expr} {pos pos' Er:Pos} {td ty tv:TE}
theorem Ycu(hu:X.A.units+1<dY)(ho:PE X o td)(hi:PE X i ty)(hv:PE X value tv)(hs:bc value (some (.Subscript o i pos')) pos.line X.env=pure false) :
  PS X (.Assign [.Subscript o i pos'] value pos) (vP td ty tv):=by
 intro pins s σ H D I h;refine wpAny_Assign_Subscript (bf (hv pins s σ H _ I h) λr s1 ⟨v,H1,I1,rv,q1⟩=>bf (ho pins s1 σ H1 _ I1 q1) λu s2 ⟨x,H2,I2,rx,q2⟩=>bf (hi pins s2 σ H2 _ I2 q2) λiv s3 ⟨y,H3,I3,ry,a,H4,ex,g,q3⟩=>?_) hs;subst ex;obtain rfl:u=ka a:=rx;exact zbK hu I3 g ry rv λs4 I4=>⟨σ,H4,I4,q3⟩
end
theorem Ych{P:ao}{w:World}{H:Hp}(h:Heap)(hb:bN<h.objs.size):ba P w H (h.push {cls:=.type "dict",data:=.dict #[]}) h.objs.size (.dK []) :=
 ⟨Xq _,beq_eq_false_iff_ne.mpr (Gd (Xc hb)),[],.nil,Heap.DictOf.new h⟩
def Fj:List (TE×TE)->St->Hp->(List (V×V)->Hp->Prop)->Prop
 |[],_,H,Q=>Q [] H
 |(tk,tv)::r,σ,H,Q=>tk σ H λx H1=>tv σ H1 λy H2=>Fj r σ H2 λps H3=>Q ((x,y)::ps) H3
abbrev VV:List (V×V)->List (Value×Value)->Prop:=bX λp q=>RelV p.1 q.1/\RelV p.2 q.2
def DG(X:Cx)(pos:Pos)(keys:List (Option Expr))(values:List Expr)(ou:List (TE×TE)):Prop :=
 ∀(pins:List (af×Obj)) (s:Shared) (σ:St) (H:Hp) (Q:List (V×V)->Hp->Prop),Inv X pins σ H s->Fj ou σ H Q ->
  ah (aq X.prog X.w) X.A (evalPairs (pairTrees keys values X.env pos)) (λvs s'=>∃ ps H',Inv X pins σ H' s'/\VV ps vs/\Q ps H') X.xe s
theorem Zcw{X:Cx}{pos:Pos}:DG X pos [] [] []:=λpins s σ H Q I h=>pairTrees_nil_walk ⟨[],H,I,.nil,h⟩
theorem Ln{X:Cx}{pos:Pos}{k v:Expr}{ks:List (Option Expr)}{vs:List Expr}{tk tv:TE}{ou:List (TE×TE)}(hk:PE X k tk)(hv:PE X v tv)(hr:DG X pos ks vs ou) :
  DG X pos (some k::ks) (v::vs) ((tk,tv)::ou):=λpins s σ H Q I h =>
 pairTrees_cons_walk (bf (hk pins s σ H _ I h) λu s1 ⟨x,H1,I1,rx,q1⟩=>bf (hv pins s1 σ H1 _ I1 q1) λw2 s2 ⟨y,H2,I2,ry,q2⟩ =>
  bf (hr pins s2 σ H2 _ I2 q2) λws s3 ⟨ps,H3,I3,rel,q3⟩=>⟨(x,y)::ps,H3,I3,.cons ⟨rx,ry⟩ rel,q3⟩)
noncomputable def sR(aJ more:List (Key×V)):List (Key×V):=more.foldl (λacc kv=>YL acc kv.1 kv.2) aJ
theorem KV.merge:∀{more:List (Key×V)} {rs:List (Key×Value)} {aJ:List (Key×V)} {vs:List (Key×Value)},KV more rs->KV aJ vs->KV (sR aJ more) (merged vs rs):=by
 intro more rs aJ vs r;unfold KV at r
 induction r generalizing aJ vs with
 |nil=>intro q;exact q
 |@cons p q ps qs h t ih =>
  intro r0;have e:KV (YL aJ p.1 p.2) (stored vs q.1 q.2):=by
   have:=r0.put p.1 h.2;rw[<- h.1];exact this
  exact ih e
theorem ZV:∀(more aJ:List (Key×V)),(sR aJ more).length<=aJ.length+more.length
 |[],aJ=>by show aJ.length<=aJ.length+0;lia
 |p::r,aJ=>by
  have h1:=ZV r (YL aJ p.1 p.2);have h2:=zN aJ p.1 p.2;show(sR (YL aJ p.1 p.2) r).length<=_;rw[ud];lia
theorem JZ{P:ao}{w:World}:∀{aJ:List (Key×V)} {ws:List (Value×Value)},VV (aJ.map λkv=>(kV kv.1,kv.2)) ws->∃ rs,Carries (yh P w) ws rs/\KV aJ rs
 |[],_,r=>by rw[Uj] at r;cases r;exact⟨[],Hg,.nil⟩
 |p::aJ,_,r=>by
  rw[Ub] at r;cases r with
  |@cons a b as bs h t =>
   obtain⟨rs,c,q⟩:=JZ (P:=P) (w:=w) t;obtain⟨b1,b2⟩:=b;exact⟨(p.1,b2)::rs,⟨DO h.1,rfl,c⟩,.cons ⟨rfl,h.2⟩ q⟩
noncomputable def uY(ou:List (TE×TE)):TE:=λσ H Q=>∀ p,H p=none->Fj ou σ (upd H p (.dK [])) λps H2=>H2 p=some (.dK [])/\∃ aJ:List (Key×V),ps=aJ.map (λkv=>(kV kv.1,kv.2))/\aJ.length<=15/\Q (.ref p) (upd H2 p (.dK (sR [] aJ)))
theorem zcz{X:Cx}{pos:Pos}{keys:List (Option Expr)}{values:List Expr}{ou:List (TE×TE)}(h:DG X pos keys values ou)(kR:keys.all (·.isSome)=true)(hl:keys.length=values.length)(h0:keys≠[])
  (h15:keys.length<=15):PE X (.Dict keys values pos) (uY ou):=by
 intro pins s σ H Q I q;have hn:=I.aR.fresh (vb s.heap.objs.size);have I1:=I.laid (a:=s.heap.objs.size) (o:=.dK []) (h':=s.heap.push {cls:=.type "dict",data:=.dict #[]}) (t':=s.toks) (λ_ _ q=>wa _ q) (vb _) (Ych s.heap I.big);refine wpAny_Dict_walk (knd:=yh X.prog X.w) kR hl h0 h15 (bf (h pins _ σ _ _ I1 (q _ hn)) λws s2 ⟨ps,H2,I2,rel,e,aJ,ep,lk,q2⟩=>?_);subst ep;obtain⟨rs,c,rk⟩:=JZ (P:=X.prog) (w:=X.w) rel;obtain⟨z,hd,Lw,r0,dd⟩:=Ec I2.aR e;cases r0;refine⟨rs,c,dd,λh' sr hs=>⟨.ref s.heap.objs.size,_,?_,rfl,q2⟩⟩;have hz:(sR [] aJ).length<=sizeLine:=by
  have h1:=ZV aJ [];rw[Wo] at h1;rw[cC];lia
 have he:∃ q,h'.get? s.heap.objs.size=some q:=let ⟨q,_,_,hq,_⟩:=sr;⟨q,hq⟩;exact Jx I2 (by rw[e];exact Hg) hs he (KH hz hd (rk.merge .nil) sr)
structure M1 (X:Cx) (o:Expr) (m:Str) (apos:Pos) (e:Expr) (fg:Pos):Prop where
 base:bB o m X.env (eval o X.env)=eval o X.env
 NC:((bV fg (au [e] X.env)).all (λx=>!x.1)&&(jz fg (fK [] X.env)).all (λx=>x.1.isSome)
  && decide (([e]:List Expr).length+([]:List ip).length+(if([]:List ip).isEmpty then 0 else 1)<30))=true
 line:(apos.endLine==fg.line)=true
 trees:bV fg (au [e] X.env)=[(false,eval e X.env)]
end L2
end
section
namespace M3
open PySem
open Sem (wp)
noncomputable def Yd(env:Env):List (Str×NameKind)->List (Str×af)->List (Str×af)
 |[],cs=>cs
 |(n,k)::r,cs=>Yd env r (if(k == .free)=true then(n,(env.cells.lookup n).getD 0)::cs else cs)
theorem J3(env:Env):∀(names:List (Str×NameKind)) (cs:List (Str×af)),(∀ y∈names,y.2=.free->∃ c,env.cells.lookup y.1=some c) ->
  (forIn names cs λ(y:Str×NameKind)(r:List (Str×af))=>if(y.2 == .free)=true then do let c<-lN env y.1;pure (jm ((y.1,c)::r)) else pure (jm r):Sem (List (Str×af)))=pure (Yd env names cs)
 |[],cs,_=>rfl
 |(n,k)::r,cs,h=>by
  have ih:=λcs'=>J3 env r cs' λy hy=>h y (Ue _ hy);rw[Vk];by_cases hk:(k == .free)=true
  ·obtain⟨c,e⟩:=h (n,k) xi (by simpa using hk);have e':lN env n=pure c:=by unfold lN;rw[e]
   show(if(k == .free)=true then _ else _) >>= _=_;rw[if_pos hk];show(lN env n >>= λc=>_) >>= _=_;rw[e'];show(forIn r ((n,c)::cs) _:Sem _)=_;rw[ih];show _=pure (Yd env r (if(k == .free)=true then(n,(env.cells.lookup n).getD 0)::cs else cs));rw[if_pos hk,e];rfl
  ·show(if(k == .free)=true then _ else _) >>= _=_;rw[if_neg hk];show(forIn r cs _:Sem _)=_;rw[ih];show _=pure (Yd env r (if(k == .free)=true then(n,(env.cells.lookup n).getD 0)::cs else cs));rw[if_neg hk]
theorem Ml{env:Env}{scope:aA}(h:∀ y∈scope.names,y.2=.free->∃ c,env.cells.lookup y.1=some c):closureFor scope env=pure (Yd env scope.names []):=by
 have q:=J3 env scope.names [] h;unfold closureFor;have e:∀(t:Sem (List (Str×af))),t=pure (Yd env scope.names [])->(t >>= λr=>pure r)=pure (Yd env scope.names []):=λt z=>by rw[z];rfl
 refine e _ (Eq.trans ?_ q)
 congr 1
end M3
end
section
namespace M3
open PySem
open Sem (wp)
section
variable {prog:ao} {w:World} {A:Around} {R:jB->Shared->Prop} {s:Shared}
noncomputable abbrev KN(ifs:List Expr)(env:Env):Sem Bool:=forIn ifs true λc r=>if r=true then do let ok<-j8 c env (eval c env);pure (jm ok) else pure (jm r)
theorem zbS{elt target iter:Expr}{ifs:List Expr}{scope:aA}{pos:Pos}{it acc:Value}{env:Env}(I:Nat->Shared->Prop)
  (turn:∀ n s,I n s->ah (aq prog w) A (bJ it) (λr s1=>match r with
   |none=>R (.ok .next) s1
   |some v=>ah (aq prog w) A (cw target it v) (λ_ s2=>ah (aq prog w) A (eG target env v) (λ_ s3 =>
     ah (aq prog w) A (KN ifs env) (λok s4=>if ok=true then ah (aq prog w) A (eval elt env) (λx s5 =>
       ah (aq prog w) A (call (.builtin "list.append") [acc,x]) (λ_ s6=>∃ m,m<n/\I m s6) (λ_ _=>False) s5) (λ_ _=>False) s4
      else ∃ m,m<n/\I m s4) (λ_ _=>False) s3) (λ_ _=>False) s2) (λ_ _=>False) s1) (λ_ _=>False) s)
  (n:Nat) (h:I n s):bL (aq prog w) A (.compLoop (.ListComp elt [⟨target,iter,ifs,0⟩] scope pos) 0 it acc env) R s:=by
 refine codeAny_loop rfl I (λn s hI=>?_) n h;show ah _ A ((compTurn (.ListComp elt [⟨target,iter,ifs,0⟩] scope pos) 0 it acc env).onRaise (λx=>do noteFrame x env;theTreesLotGoes x)) _ _ s;refine wpAny_noted ?_;rw[compTurn_list];refine ae (gA (ae (bM (turn n s hI) (λr s1 h1=>?_) λ_ _ z=>z.elim)));cases r with
 |none=>exact ag h1
 |some v =>
  refine ae (bM h1 (λ_ s2 h2=>?_) λ_ _ z=>z.elim);refine ae (bM h2 (λ_ s3 h3=>ae (bM h3 (λok s4 h4=>?_) λ_ _ z=>z.elim)) λ_ _ z=>z.elim);cases ok with
  |false=>exact ag ⟨rfl,h4⟩
  |true =>
   refine ae (ae (bM h4 (λx s5 h5=>?_) λ_ _ z=>z.elim));exact ae (bM h5 (λ_ s6 h6=>ag (ag ⟨rfl,h6⟩)) λ_ _ z=>z.elim)
end
noncomputable abbrev pk(C t:af)(tb:Value):Obj:={cls:=.ref C,data:=.fields #[.ref t,tb,.none,.none,.bool false,.none]}
inductive Tb (h:Heap) (x:af):Value->Prop where
 |no:Tb h x .none
 |at {T:af} {o:Obj} {ts:Array Value} (ne:T≠x) (ho:h.get? T=some o) (hd:o.data=.fields ts) (h3:ts[3]?=some .none):Tb h x (.ref T)
structure md (fs:List af) (x:af) (tb:Value) (h h':Heap):Prop where
 keep:∀ b o,b∉fs->b≠x->ka b≠tb->h.get? b=some o->h'.get? b=some o
 slot:∀ b o,b∈fs->b≠x->ka b≠tb->h.get? b=some o->∃ sl,h'.get? b=some {o with slots:=sl}
section
variable {M:Model} {A:Around} {E:Value->Shared->Prop} {s:Shared}
theorem K'{base:Heap}{env:Env}{outer:List Env}{L x C t:af}{head Lz:Value}{had:Bool}{Q:Unit->Shared->Prop}
  (C0:A.frames=some (env::outer)) (hl:s.heap.FunFrames base (env::outer)) (hf:env.frame=some L) (he:s.heap.get? x=some (pk C t Lz))
  (h:∀ h' T,(∀ b o,b∉(env::outer).filterMap (·.frame)->b≠x->s.heap.get? b=some o->h'.get? b=some o) ->
   (∀ b o,b∈(env::outer).filterMap (·.frame)->s.heap.get? b=some o->∃ sl,h'.get? b=some {o with slots:=sl}) ->
   h'.get? x=some (pk C t (.ref T))->Tb h' x (.ref T)->s.heap.objs.size<=T->Q () {s with heap:=h'}) :
  ah M A (do let a<-frameOf env;let pl<-entryPlaceOf L had;let b<-EntryCells.newEntry head a .none (bg L) .none pl;setField (.ref x) 1 b) (λ_ s'=>ah M A (setFlight (.ref x) none) Q E s') E s:=by
 have hx:x∉(env::outer).filterMap (·.frame):=λhm=>by
  obtain⟨_,o,ho,nf⟩:=hl.mem hm;rw[he] at ho;cases ho;exact nf _ rfl
 refine ae (wpAny_frameOf_fun C0 hl hf λh1 k1=>?_);refine ae (wpAny_entryPlaceOf λpl bE=>?_);unfold EntryCells.newEntry newFields;refine ae (aS ?_ (bE.sizeOk5 _ _ _ _ _));generalize sf:([head,ka L,Ka,bg L,Ka]++(if pl.isEmpty=true then xa 6 Ka else pl))=cells;have len:3<cells.length:=by rw[<- sf];simp only[xf,ud,Wo];lia
 have e1:h1.get? x=some (pk C t Lz):=(k1.2.1 x hx).trans he;have e2:=wa {cls:=.type "traceback",dict:=none,data:=.fields cells.toArray} e1;have neT:x≠h1.objs.size:=Xc (Va e1);refine cG e2 rfl (by simp) ?_;have e3:=wo (Hk (·.setIfInBounds 1 (ka h1.objs.size))) e2 (Gk (gk rfl _));have e4:((h1.push {cls:=.type "traceback",dict:=none,data:=.fields cells.toArray}).update x (Hk (·.setIfInBounds 1 (ka h1.objs.size)))).get? h1.objs.size=some {cls:=.type "traceback",dict:=none,data:=.fields cells.toArray} :=
  (uj _ _ neT).trans (Xb h1 rfl)
 unfold setFlight;refine ae (ar e3 (vs:=#[.ref t,.ref h1.objs.size,.none,.none,.bool false,.none]) (x:=.ref h1.objs.size) rfl rfl ?_);rw[if_pos (show(ka h1.objs.size != Ka)=true from by simp)];refine cG e4 rfl (by simpa using len) ?_;have e5:=wo (Hk (·.setIfInBounds 3 ((none:Option af).elim Ka λf=>bg f))) e4 (Gk (gk rfl _));have sz:h1.objs.size=s.heap.objs.size:=k1.1;have other:∀ b o,b≠x->h1.get? b=some o->(((h1.push {cls:=.type "traceback",dict:=none,data:=.fields cells.toArray}).update x (Hk (·.setIfInBounds 1 (ka h1.objs.size)))).update h1.objs.size (Hk (·.setIfInBounds 3 ((none:Option af).elim Ka λf=>bg f)))).get? b=some o:=λb o nb eb=>by
  rw[uj _ _ (Xl (Va eb)),uj _ _ (Gd nb)];exact wa _ eb
 refine h _ h1.objs.size (λb o hb nb eb=>other b o nb ((k1.2.1 b hb).trans eb)) (λb o hb eb=>?_) ?_ (.at (Gd neT) e5 (gk rfl _) ?_) (Xm sz.symm)
 ·obtain⟨sl,q⟩:=k1.2.2 b o eb;exact⟨sl,other b _ (λz=>hx (z ▸ hb)) q⟩
 ·rw[uj _ _ (Gd neT)];exact e3
 ·simp[Array.getElem?_setIfInBounds,len]
theorem ZbJ{base:Heap}{env:Env}{outer:List Env}{L x C t:af}{tb:Value}{Q:Unit->Shared->Prop}
  (C0:A.frames=some (env::outer)) (hl:s.heap.FunFrames base (env::outer)) (hf:env.frame=some L) (he:s.heap.get? x=some (pk C t tb)) (ht:Tb s.heap x tb)
  (h:∀ h' T,md ((env::outer).filterMap (·.frame)) x tb s.heap h'->h'.get? x=some (pk C t (.ref T))->Tb h' x (.ref T)->s.heap.objs.size<=T->Q () {s with heap:=h'}) :
  ah M A (leaving env (.ref x)) Q E s:=by
 unfold leaving noteFrame;simp only[hf];refine ae (ae (ar he rfl (x:=tb) rfl ?_));cases ht with
 |no =>
  rw[if_neg (by decide)];exact K' C0 hl hf he λh' T k1 k2 e1 e2 e3=>h h' T ⟨λb o hb nb _ eb=>k1 b o hb nb eb,λb o hb _ _ eb=>k2 b o hb eb⟩ e1 e2 e3
 |@«at» T o ts ne ho hd h3 =>
  rw[if_pos (show(ka T != Ka)=true from by simp)];refine ae (ar ho hd h3 ?_);rw[if_neg (show ¬((Ka==bg L)=true) from by simp[bg])];refine ae (cG ho hd (Array.getElem?_eq_some_iff.mp h3).1 ?_);have other:∀ b,b≠T->(s.heap.update T (Hk (·.setIfInBounds 3 Ka))).get? b=s.heap.get? b:=λb nb=>uj _ _ (Gd nb);have FF:∀ b o,s.heap.get? b=some o->(∀ vs,o.data≠.fields vs)->b≠T:=λb o eb nf z=>by
   rw[z,ho] at eb;cases eb;exact nf ts hd
  refine K' (s:={s with heap:=s.heap.update T (Hk (·.setIfInBounds 3 Ka))}) C0 (hl.of_keeps λb o eb nf=>⟨o,(other b (FF b o eb nf)).trans eb,rfl⟩) hf ((other x (Gd ne)).trans he)
   λh' T' k1 k2 e1 e2 e3=>h h' T' ⟨λb o hb nb nt eb=>k1 b o hb nb ((other b λz=>nt (z ▸ rfl)).trans eb),λb o hb _ nt eb=>k2 b o hb ((other b λz=>nt (z ▸ rfl)).trans eb)⟩ e1 e2 ?_
  have Dc:(s.heap.update T (Hk (·.setIfInBounds 3 Ka))).objs.size<=T':=e3;rw[Heap.size_after_update] at Dc;exact Dc
end
end M3
end
section
namespace M3
open PySem
open Sem (wp)
section
variable {prog:ao} {w:World} {A:Around} {E:Value->Shared->Prop} {s:Shared}
theorem y0{r l:af}{i:Nat}{items:Array Value}{x:Value}{Q:Value->Shared->Prop}(ri:s.heap.IsTupleIter r l i)(hl:s.heap.IsTuple l items)(hx:items[i]?=some x)
  (hQ:∀ h',h'.IsTupleIter r l (i+1)->ke r s.heap h'->Q x {s with heap:=h'}):ah (aq prog w) A (Jm (.ref r)) Q E s:=by
 obtain⟨o,ho,hc,hd⟩:=id ri;obtain⟨ol,CU,_,nl,GY⟩:=hl;unfold Jm;apply ae;refine az (name:=kg "__next__") ri.typeIs Hh (aM Hh ri.typeIs Jj ?_ (jj _));show ah _ _ (field (.ref r) 0 >>= _) _ _ s;apply ae;apply ar ho hd (x:=.ref l) rfl;show ah _ _ (if(ka l==Ka)=true then _ else _) _ _ s;rw[if_neg (λz:(ka l==Ka)=true=>absurd z Wm)];show ah _ _ (field (.ref r) 1 >>= _) _ _ s;apply ae;apply ar ho hd (x:=.int i 0) rfl;show ah _ _ (fW (.ref l) >>= _) _ _ s;apply ae;apply aC CU GY;simp only[Wh,hx];apply ae;refine cG ho hd (by simp) (ag ⟨x,rfl,ag (hQ _ ⟨_,wo _ ho (Gk (gk hd _)),(Obj.cls_mapFields ..).trans hc,?_⟩ (Gm ..))⟩);rw[gk hd];simp[bg]
theorem Yad{r l:af}{i:Nat}{items:Array Value}{Q:Value->Shared->Prop}(hh:A.handled=none)(ri:s.heap.IsTupleIter r l i)(hl:s.heap.IsTuple l items)(hx:items[i]?=none)
  (hE:∀ h' e,Heap.ExtBut r s.heap h'->(∃ o,h'.get? e=some o/\o.cls=.type "StopIteration")->E (.ref e) {s with heap:=h'}):ah (aq prog w) A (Jm (.ref r)) Q E s:=by
 obtain⟨o,ho,hc,hd⟩:=id ri;obtain⟨ol,CU,_,nl,GY⟩:=hl;unfold Jm;apply ae;refine az (name:=kg "__next__") ri.typeIs Hh (aM Hh ri.typeIs Jj ?_ (jj _));show ah _ _ (field (.ref r) 0 >>= _) _ _ s;apply ae;apply ar ho hd (x:=.ref l) rfl;show ah _ _ (if(ka l==Ka)=true then _ else _) _ _ s;rw[if_neg (λz:(ka l==Ka)=true=>absurd z Wm)];show ah _ _ (field (.ref r) 1 >>= _) _ _ s;apply ae;apply ar ho hd (x:=.int i 0) rfl;show ah _ _ (fW (.ref l) >>= _) _ _ s;apply ae;apply aC CU GY;simp only[Wh,hx];apply ae;apply cy;apply ae;refine cG ho hd (by simp) ?_;show ah _ _ (newExc (.type "StopIteration") [] >>= _) _ _ _;apply ae;simp only[newExc,kM];apply ae;refine aS ?_ (by size_fits);refine ae (m:=jv _ _) (wpAny_of_eq (a:=Ka) (by first|rfl|(unfold jv;rfl)) (aS ?_ (by size_fits)));refine wpAny_raiseNew_none (by first|exact hh|(show A.in1.handled=_;exact hh)) (hE _ _ ((((Gm ..).extBut).push _).push _) ⟨_,Xb _ rfl,rfl⟩)
theorem Qbn(hh:A.handled=none)(r l:af)(lK:l≠r)(items:Array Value) :
  bC prog w A r [r,l] items.size (λi v=>items[i]?=some v) (λi h=>h.IsTupleIter r l i/\h.IsTuple l items) where
 live:=λ_ _ st=>let ⟨o,ho,_⟩:=st.1;⟨o,ho⟩
 frame:=λ_ _ _ st hk=>let ⟨⟨o,e,c⟩,⟨u,f,d⟩⟩:=st;⟨⟨o,hk r (by simp) o e,c⟩,⟨u,hk l (by simp) u f,d⟩⟩
 item:=λi s Q E hi st hQ=>y0 st.1 st.2 (x:=items[i]) (by simp[hi]) λh' a b=>hQ _ h' s.toks (by simp[hi]) ⟨a,let ⟨u,f,d⟩:=st.2;⟨u,b.extBut l u lK f,d⟩⟩ b
 done:=λs Q E st hE=>Yad hh st.1 st.2 (by simp) hE
structure lR (z TI TO i1 i2:af) (gE gD:List af):Prop where
 Cb:TI≠z
 lC:TO≠z
 rz:TI≠TO
 Et:TI≠i1
 Es:TI≠i2
 z1:z∉gE
 z2:z∉gD
 t1:TO∉gE
 t2:TO∉gD
 m1:i1∈gE
 m2:i2∈gD
 a1:i1∉gD
 a2:i2∉gE
variable {z TI TO i1 i2:af} {gE gD:List af} {n1 n2 k:Nat} {P1 P2:Nat->Value->Prop} {S1 S2:Nat->Heap->Prop} {a b:Value}
theorem zbH{Q:Value->Shared->Prop}(Z:lR z TI TO i1 i2 gE gD)(D1:bC prog w A i1 gE n1 P1 S1)(D2:bC prog w A i2 gD n2 P2 S2)(hz:cU s.heap z TI TO .none)(hI:aE s.heap TI (.ref i1) (.ref i2))(hO:aE s.heap TO a b)
  (s1:S1 k s.heap) (s2:S2 k s.heap) (k1:k<n1) (k2:k<n2)
  (hQ:∀ x y h' tk,P1 k x->P2 k y->cU h' z TI TO (bg s.heap.objs.size)->aE h' TO x y->S1 (k+1) h'->S2 (k+1) h'->aE h' s.heap.objs.size x y->h'.objs.size=s.heap.objs.size+1 ->
   (∀ c o,c≠z->c≠TO->c≠i1->c≠i2->s.heap.get? c=some o->h'.get? c=some o)->Q (.ref s.heap.objs.size) {s with heap:=h',toks:=tk}) :
  ah (aq prog w) A (Builtin.«zip.__next__» ⟨[.ref z],[]⟩) (λfin s'=>∃ v,fin=.done (.ret v)/\Q v s') E s:=by
 have mr:i1≠z:=λe=>Z.z1 (e ▸ Z.m1);have nq:i2≠z:=λe=>Z.z2 (e ▸ Z.m2);have oO:i1≠TO:=λe=>Z.t1 (e ▸ Z.m1);have oN:i2≠TO:=λe=>Z.t2 (e ▸ Z.m2);have i12:i1≠i2:=λe=>Z.a1 (e ▸ Z.m2);show ah _ _ (field (.ref z) 2 >>= _) _ _ _;apply ae;apply ar hz rfl (x:=.bool false) rfl;show ah _ _ (field (.ref z) 3 >>= _) _ _ _;apply ae;apply ar hz rfl (x:=.ref TI) rfl;apply ae;apply aC hI rfl;show ah _ _ (Hm (.ref z) >>= _) _ _ _;apply ae;unfold Hm;apply ae;apply ar hz rfl (x:=.none) rfl;apply ag;simp only[if_true];apply ae;apply cy;apply ae;apply ar hz rfl (x:=.ref TO) rfl;apply ae;refine ay hz (by simp) λh1 y1 g1=>?_;replace y1:cU h1 z TI TO .ellipsis:=y1;apply ae;simp only[vv,Uw,Vk,Xn];apply ae;apply ae;apply bz;show ah _ _ (Jm (.ref i1) >>= _) _ _ _;apply ae;refine D1.item k _ _ _ k1 (D1.frame _ _ _ s1 λc hc o e=>g1.extBut c o (λq=>Z.z1 (q ▸ hc)) e) λx h2 t2 px q2 g2=>ag ?_;have o2:aE h2 TO a b:=g2.extBut _ _ (Gd oO) (g1.extBut _ _ Z.lC hO);apply ae;apply aC o2 rfl;apply ae;refine aW o2 λh3 o3 g3=>ae (cY (ag ?_));replace o3:aE h3 TO x b:=o3;apply ae;apply ae;apply bz;show ah _ _ (Jm (.ref i2) >>= _) _ _ _;apply ae;refine D2.item k _ _ _ k2 (D2.frame _ _ _ s2 λc hc o e=>g3.extBut c o (λq=>Z.t2 (q ▸ hc)) (g2.extBut c o (λq=>Z.a1 (q ▸ hc)) (g1.extBut c o (λq=>Z.z2 (q ▸ hc)) e))) λy h4 t4 py q4 g4=>ag ?_;have o4:aE h4 TO x b:=g4.extBut _ _ (Gd oN) o3;apply ae;apply aC o4 rfl;apply ae;refine aW o4 λh5 o5 g5=>ae (cY (ag (ag ?_)));replace o5:aE h5 TO x y:=o5;apply ae;apply aC o5 rfl;apply ae;refine dE ?_;have sz:h5.objs.size=s.heap.objs.size:=by rw[g5.1,g4.1,g3.1,g2.1,g1.1]
 have y5:cU h5 z TI TO .ellipsis:=g5.extBut _ _ (Gd Z.lC) (g4.extBut _ _ (Gd nq) (g3.extBut _ _ (Gd Z.lC) (g2.extBut _ _ (Gd mr) y1)));have c5:∀ c o,c≠z->c≠TO->c≠i1->c≠i2->s.heap.get? c=some o->h5.get? c=some o:=λc o c1 c2 c3 c4 e=>g5.extBut _ _ c2 (g4.extBut _ _ c4 (g3.extBut _ _ c2 (g2.extBut _ _ c3 (g1.extBut _ _ c1 e))));have r1:S1 (k+1) h5:=D1.frame _ _ _ q2 λc hc o e=>g5.extBut c o (λq=>Z.t1 (q ▸ hc)) (g4.extBut c o (λq=>Z.a2 (q ▸ hc)) (g3.extBut c o (λq=>Z.t1 (q ▸ hc)) e));have r2:S2 (k+1) h5:=D2.frame _ _ _ q4 λc hc o e=>g5.extBut c o (λq=>Z.t2 (q ▸ hc)) e;have lz:z<h5.objs.size:=Va y5;show ah _ _ (gm (.ref z) (.ref h5.objs.size) >>= _) _ _ _;apply ae;unfold gm;have y6:cU (h5.push {cls:=.type "tuple",data:=.seq #[x,y]}) z TI TO .ellipsis:=wa _ y5;apply ae;refine ay y6 (by simp) λh7 y7 g7=>?_;replace y7:cU h7 z TI TO (bg h5.objs.size):=y7;refine ay y7 (by simp) λh8 y8 g8=>?_;replace y8:cU h8 z TI TO (bg h5.objs.size):=y8;have up:∀ c o,c≠z->h5.get? c=some o->h8.get? c=some o:=λc o c1 e=>g8.extBut _ _ c1 (g7.extBut _ _ c1 (wa _ e));have p8:aE h8 h5.objs.size x y:=g8.extBut _ _ (Xl lz) (g7.extBut _ _ (Xl lz) (Xb _ rfl));have n8:h8.objs.size=h5.objs.size+1:=by rw[g8.1,g7.1,vg]
 rw[sz] at y8 p8 n8;refine ag ⟨_,rfl,?_⟩;show Q (.ref h5.objs.size) _;rw[sz];exact hQ x y h8 t4 px py y8 (up _ _ Z.lC o5) (D1.frame _ _ _ r1 λc hc o e=>up c o (λq=>Z.z1 (q ▸ hc)) e) (D2.frame _ _ _ r2 λc hc o e=>up c o (λq=>Z.z2 (q ▸ hc)) e) p8 n8 λc o c1 c2 c3 c4 e=>up c o c1 (c5 c o c1 c2 c3 c4 e)
theorem qca{Q:Fin->Shared->Prop}(Z:lR z TI TO i1 i2 gE gD)(D1:bC prog w A i1 gE n1 P1 S1)(D2:bC prog w A i2 gD n2 P2 S2)(hz:cU s.heap z TI TO .none)(hI:aE s.heap TI (.ref i1) (.ref i2))(hO:aE s.heap TO a b)
  (s1:S1 k s.heap) (s2:S2 k s.heap) (hk:k=n1\/(k<n1/\k=n2))
  (hE:∀ h' e,(∀ c o,c≠z->c≠TO->c≠i1->c≠i2->s.heap.get? c=some o->h'.get? c=some o)->(∃ o,h'.get? e=some o/\o.cls=.type "StopIteration")->∀ tk,E (.ref e) {s with heap:=h',toks:=tk}) :
  ah (aq prog w) A (Builtin.«zip.__next__» ⟨[.ref z],[]⟩) Q E s:=by
 have mr:i1≠z:=λe=>Z.z1 (e ▸ Z.m1);have nq:i2≠z:=λe=>Z.z2 (e ▸ Z.m2);have oO:i1≠TO:=λe=>Z.t1 (e ▸ Z.m1);have oN:i2≠TO:=λe=>Z.t2 (e ▸ Z.m2);show ah _ _ (field (.ref z) 2 >>= _) _ _ _;apply ae;apply ar hz rfl (x:=.bool false) rfl;show ah _ _ (field (.ref z) 3 >>= _) _ _ _;apply ae;apply ar hz rfl (x:=.ref TI) rfl;apply ae;apply aC hI rfl;show ah _ _ (Hm (.ref z) >>= _) _ _ _;apply ae;unfold Hm;apply ae;apply ar hz rfl (x:=.none) rfl;apply ag;simp only[if_true];apply ae;apply cy;apply ae;apply ar hz rfl (x:=.ref TO) rfl;apply ae;refine ay hz (by simp) λh1 y1 g1=>?_;replace y1:cU h1 z TI TO .ellipsis:=y1;apply ae;simp only[vv,Uw,Vk,Xn];apply ae;apply ae;apply bz;show ah _ _ (Jm (.ref i1) >>= _) _ _ _;apply ae;have f1:S1 k h1:=D1.frame _ _ _ s1 λc hc o e=>g1.extBut c o (λq=>Z.z1 (q ▸ hc)) e
 rcases hk with hk|⟨k1,hk⟩
 ·refine D1.done _ _ _ (hk ▸ f1) λh2 e g2 he=>?_;obtain⟨oe,e1,e2⟩:=he;have y2:cU h2 z TI TO .ellipsis:=g2 _ _ (Gd mr) y1;have ez:e≠z:=λq=>by subst q;rw[y2] at e1;cases e1;simp at e2
  exact ay y2 (by simp) λh3 _ g3=>hE h3 e (λc o c1 _ c3 _ q=>g3.extBut _ _ c1 (g2 _ _ c3 (g1.extBut _ _ c1 q))) ⟨oe,g3.extBut _ _ ez e1,e2⟩ _
 ·refine D1.item k _ _ _ k1 f1 λx h2 t2 px q2 g2=>ag ?_;have o2:aE h2 TO a b:=g2.extBut _ _ (Gd oO) (g1.extBut _ _ Z.lC hO);apply ae;apply aC o2 rfl;apply ae;refine aW o2 λh3 o3 g3=>ae (cY (ag ?_));apply ae;apply ae;apply bz;show ah _ _ (Jm (.ref i2) >>= _) _ _ _;apply ae;have f2:S2 k h3:=D2.frame _ _ _ s2 λc hc o e=>g3.extBut c o (λq=>Z.t2 (q ▸ hc)) (g2.extBut c o (λq=>Z.a1 (q ▸ hc)) (g1.extBut c o (λq=>Z.z2 (q ▸ hc)) e));refine D2.done _ _ _ (hk ▸ f2) λh4 e g4 he=>?_;obtain⟨oe,e1,e2⟩:=he;have y4:cU h4 z TI TO .ellipsis:=g4 _ _ (Gd nq) (g3.extBut _ _ (Gd Z.lC) (g2.extBut _ _ (Gd mr) y1));have ez:e≠z:=λq=>by subst q;rw[y4] at e1;cases e1;simp at e2
  exact ay y4 (by simp) λh5 _ g5=>hE h5 e (λc o c1 c2 c3 c4 q=>g5.extBut _ _ c1 (g4 _ _ c4 (g3.extBut _ _ c2 (g2.extBut _ _ c3 (g1.extBut _ _ c1 q))))) ⟨oe,g5.extBut _ _ ez e1,e2⟩ _
end
end M3
end
section
namespace M3
open PySem
open Sem (wp)
def cR(h:Heap)(tup:Bool)(l:af)(xs:Array Value):Prop:=if tup=true then h.IsTuple l xs else h.IsList l xs
def dn(h:Heap)(tup:Bool)(r l:af)(k:Nat):Prop:=if tup=true then h.IsTupleIter r l k else h.IsListIter r l k
noncomputable abbrev dZ(tup:Bool)(l:af):Obj:={cls:=.type (if tup=true then "tuple_iterator" else "list_iterator"),data:=.fields #[.ref l,.int 0 0]}
theorem cR.keeps{h h':Heap}{tup:Bool}{l:af}{xs:Array Value}(x:cR h tup l xs)(k:∀ o,h.get? l=some o->h'.get? l=some o):cR h' tup l xs:=by
 cases tup with
 |true=>obtain⟨o,e,c⟩:=(show h.IsTuple l xs from x);exact(show h'.IsTuple l xs from⟨o,k o e,c⟩)
 |false=>exact(show h'.IsList l xs from Heap.IsList.at (show h.IsList l xs from x) k)
theorem cR.lt{h:Heap}{tup:Bool}{l:af}{xs:Array Value}(x:cR h tup l xs):l<h.objs.size:=by
 cases tup with
 |true=>obtain⟨o,e,c⟩:=(show h.IsTuple l xs from x);exact Va e
 |false=>obtain⟨o,e,c⟩:=(show h.IsList l xs from x);exact Va e
theorem dn.keeps{h h':Heap}{tup:Bool}{r l:af}{k:Nat}(x:dn h tup r l k)(q:∀ o,h.get? r=some o->h'.get? r=some o):dn h' tup r l k:=by
 cases tup with
 |true=>obtain⟨o,e,c⟩:=(show h.IsTupleIter r l k from x);exact(show h'.IsTupleIter r l k from⟨o,q o e,c⟩)
 |false=>obtain⟨o,e,c⟩:=(show h.IsListIter r l k from x);exact(show h'.IsListIter r l k from⟨o,q o e,c⟩)
theorem dn.new{h:Heap}{tup:Bool}{r l:af}(e:h.get? r=some (dZ tup l)):dn h tup r l 0:=by
 cases tup with
 |true=>exact(show h.IsTupleIter r l 0 from⟨_,e,rfl,rfl⟩)
 |false=>exact(show h.IsListIter r l 0 from⟨_,e,rfl,rfl⟩)
theorem dn.obj{h:Heap}{tup:Bool}{r l:af}{k:Nat}(x:dn h tup r l k):∃ o,h.get? r=some o/\∀ v,o.data≠.cell v:=by
 cases tup with
 |true=>obtain⟨o,e,c,d⟩:=(show h.IsTupleIter r l k from x);exact⟨o,e,λv z=>by rw[d] at z;cases z⟩
 |false=>obtain⟨o,e,c,d⟩:=(show h.IsListIter r l k from x);exact⟨o,e,λv z=>by rw[d] at z;cases z⟩
section
variable {prog:ao} {w:World} {A:Around} {E:Value->Shared->Prop} {s:Shared}
theorem Zo{tup:Bool}{l:af}{xs:Array Value}{Q:Value->Shared->Prop}(x:cR s.heap tup l xs)(h:Q (.ref s.heap.objs.size) {s with heap:=s.heap.push (dZ tup l)}):ah (aq prog w) A (gQ (.ref l)) Q E s:=by
 cases tup with
 |true=>exact gJ (show s.heap.IsTuple l xs from x) h
 |false=>exact d3 (show s.heap.IsList l xs from x) h
theorem Zq(hh:A.handled=none)(tup:Bool)(r l:af)(lK:l≠r)(items:Array Value) :
  bC prog w A r [r,l] items.size (λi v=>items[i]?=some v) (λi h=>dn h tup r l i/\cR h tup l items):=by
 cases tup with
 |true=>exact Qbn hh r l lK items
 |false=>exact bC.list hh r l lK items
end
theorem zbV(b1 b2:Bool)(l1 l2:af)(xs ys:Array Value) :
  Meets (Builtin.«zip.__new__» ⟨[.type "zip",.ref l1,.ref l2],[]⟩) (λ_ R s=>cR s.heap b1 l1 xs/\cR s.heap b2 l2 ys /\
   ∀ h5,h5=((((s.heap.push (dZ b1 l1)).push (dZ b2 l2)).push {cls:=.type "tuple",data:=.seq #[.ref s.heap.objs.size,.ref (s.heap.push (dZ b1 l1)).objs.size]}).push {cls:=.type "tuple",data:=.seq #[.none,.none]}).push
    {cls:=.type "zip",data:=.fields #[.none,.bool false,.bool false,.ref ((s.heap.push (dZ b1 l1)).push (dZ b2 l2)).objs.size,.ref (((s.heap.push (dZ b1 l1)).push (dZ b2 l2)).push {cls:=.type "tuple",data:=.seq #[.ref s.heap.objs.size,.ref (s.heap.push (dZ b1 l1)).objs.size]}).objs.size]} ->
   R (.ok (.ret (.ref ((((s.heap.push (dZ b1 l1)).push (dZ b2 l2)).push {cls:=.type "tuple",data:=.seq #[.ref s.heap.objs.size,.ref (s.heap.push (dZ b1 l1)).objs.size]}).push {cls:=.type "tuple",data:=.seq #[.none,.none]}).objs.size))) {s with heap:=h5}) :=
 .of_wp λprog w A R s h=>by
  obtain⟨hp,g,d,tk,os⟩:=s;obtain⟨x1,x2,h⟩:=h;have rZ:=sub_zip;have y1:cR (Kn ⟨hp,g,d,tk,os⟩) b1 l1 xs:=x1;have y2:cR (Kn ⟨hp.push (dZ b1 l1),g,d,tk,os⟩) b2 l2 ys:=cR.keeps x2 λo e=>wa _ e
  wp_walk using Zo y1,Zo y2
  exact⟨_,rfl,h _ rfl⟩
section
variable {prog:ao} {w:World} {A:Around} {E:Value->Shared->Prop} {s:Shared}
theorem JK{b1 b2:Bool}{l1 l2:af}{xs ys:Array Value}{Q:Value->Shared->Prop}(x1:cR s.heap b1 l1 xs)(x2:cR s.heap b2 l2 ys)
  (h:∀ h',cU h' (s.heap.objs.size+4) (s.heap.objs.size+2) (s.heap.objs.size+3) .none->aE h' (s.heap.objs.size+2) (.ref s.heap.objs.size) (.ref (s.heap.objs.size+1))->aE h' (s.heap.objs.size+3) .none .none ->
   dn h' b1 s.heap.objs.size l1 0->dn h' b2 (s.heap.objs.size+1) l2 0->(∀ c o,s.heap.get? c=some o->h'.get? c=some o)->Q (.ref (s.heap.objs.size+4)) {s with heap:=h'}) :
  ah (aq prog w) A (call (.type "zip") [.ref l1,.ref l2]) Q E s:=by
 refine callType_new F.called_zip (by decide) (F.typeCall_zip_2 _ _) (F.newCall_zip_2 _ _) (λobj=>F.args_object_init_3 obj _ _) F.entry_zip_new (zbV b1 b2 l1 l2 xs ys) ⟨x1,x2,λh5 e5=>?_⟩;have n1:(s.heap.push (dZ b1 l1)).objs.size=s.heap.objs.size+1:=vg ..;have n2:((s.heap.push (dZ b1 l1)).push (dZ b2 l2)).objs.size=s.heap.objs.size+2:=by rw[vg,n1]
 have n3:(((s.heap.push (dZ b1 l1)).push (dZ b2 l2)).push {cls:=.type "tuple",data:=.seq #[.ref s.heap.objs.size,.ref (s.heap.push (dZ b1 l1)).objs.size]}).objs.size=s.heap.objs.size+3:=by rw[vg,n2]
 have n4:((((s.heap.push (dZ b1 l1)).push (dZ b2 l2)).push {cls:=.type "tuple",data:=.seq #[.ref s.heap.objs.size,.ref (s.heap.push (dZ b1 l1)).objs.size]}).push {cls:=.type "tuple",data:=.seq #[.none,.none]}).objs.size=s.heap.objs.size+4:=by rw[vg,n3]
 have q5:cU h5 ((((s.heap.push (dZ b1 l1)).push (dZ b2 l2)).push {cls:=.type "tuple",data:=.seq #[.ref s.heap.objs.size,.ref (s.heap.push (dZ b1 l1)).objs.size]}).push {cls:=.type "tuple",data:=.seq #[.none,.none]}).objs.size ((s.heap.push (dZ b1 l1)).push (dZ b2 l2)).objs.size (((s.heap.push (dZ b1 l1)).push (dZ b2 l2)).push {cls:=.type "tuple",data:=.seq #[.ref s.heap.objs.size,.ref (s.heap.push (dZ b1 l1)).objs.size]}).objs.size .none:=by rw[e5];exact Xb _ rfl
 have q4:aE h5 (((s.heap.push (dZ b1 l1)).push (dZ b2 l2)).push {cls:=.type "tuple",data:=.seq #[.ref s.heap.objs.size,.ref (s.heap.push (dZ b1 l1)).objs.size]}).objs.size .none .none:=by rw[e5];exact wa _ (Xb _ rfl)
 have q3:aE h5 ((s.heap.push (dZ b1 l1)).push (dZ b2 l2)).objs.size (.ref s.heap.objs.size) (.ref (s.heap.push (dZ b1 l1)).objs.size):=by rw[e5];exact wa _ (wa _ (Xb _ rfl))
 have q2:h5.get? (s.heap.push (dZ b1 l1)).objs.size=some (dZ b2 l2):=by rw[e5];exact wa _ (wa _ (wa _ (Xb _ rfl)))
 have q1:h5.get? s.heap.objs.size=some (dZ b1 l1):=by rw[e5];exact wa _ (wa _ (wa _ (wa _ (Xb _ rfl))))
 show _/\_;rw[n2,n3,n4] at q5;rw[n2,n1] at q3;rw[n3] at q4;rw[n1] at q2;rw[n4];exact⟨⟨_,q5,rfl⟩,h _ q5 q3 q4 (.new q1) (.new q2) λc o e=>by rw[e5];exact wa _ (wa _ (wa _ (wa _ (wa _ e))))⟩
variable {z TI TO i1 i2:af} {gE gD:List af} {n1 n2 k:Nat} {P1 P2:Nat->Value->Prop} {S1 S2:Nat->Heap->Prop} {a b:Value}
theorem YJ{Q:Option Value->Shared->Prop}(Z:lR z TI TO i1 i2 gE gD)(D1:bC prog w A.in1 i1 gE n1 P1 S1)(D2:bC prog w A.in1 i2 gD n2 P2 S2)(hz:cU s.heap z TI TO .none)(hI:aE s.heap TI (.ref i1) (.ref i2))(hO:aE s.heap TO a b)
  (s1:S1 k s.heap) (s2:S2 k s.heap) (k1:k<n1) (k2:k<n2)
  (hQ:∀ x y h' tk,P1 k x->P2 k y->cU h' z TI TO (bg s.heap.objs.size)->aE h' TO x y->S1 (k+1) h'->S2 (k+1) h'->aE h' s.heap.objs.size x y->h'.objs.size=s.heap.objs.size+1 ->
   (∀ c o,c≠z->c≠TO->c≠i1->c≠i2->s.heap.get? c=some o->h'.get? c=some o)->Q (some (.ref s.heap.objs.size)) {s with heap:=h',toks:=tk}) :
  ah (aq prog w) A (bJ (.ref z)) Q E s:=by
 have ty:s.TypeIs (.ref z) "zip":=⟨_,hz,rfl⟩;unfold bJ;refine ae (bY (az (name:=kg "__next__") ty jh (aM jh ty gh ?_ (Jh _))));exact zbH Z D1 D2 hz hI hO s1 s2 k1 k2 λx y h' tk p1 p2 e1 e2 e3 e4 e5 e6 e7=>ag (hQ x y h' tk p1 p2 e1 e2 e3 e4 e5 e6 e7)
theorem ZL{Q:Option Value->Shared->Prop}(Z:lR z TI TO i1 i2 gE gD)(D1:bC prog w A.in1 i1 gE n1 P1 S1)(D2:bC prog w A.in1 i2 gD n2 P2 S2)(hz:cU s.heap z TI TO .none)(hI:aE s.heap TI (.ref i1) (.ref i2))(hO:aE s.heap TO a b)
  (s1:S1 k s.heap) (s2:S2 k s.heap) (hk:k=n1\/(k<n1/\k=n2))
  (hQ:∀ h' tk,(∀ c o,c≠z->c≠TO->c≠i1->c≠i2->s.heap.get? c=some o->h'.get? c=some o)->Q none {s with heap:=h',toks:=tk}) :
  ah (aq prog w) A (bJ (.ref z)) Q E s:=by
 have ty:s.TypeIs (.ref z) "zip":=⟨_,hz,rfl⟩;unfold bJ;refine ae (bY (az (name:=kg "__next__") ty jh (aM jh ty gh ?_ (Jh _))));refine qca Z D1 D2 hz hI hO s1 s2 hk λh' e kk ho tk=>?_;obtain⟨o,e1,e2⟩:=ho;exact ae (eL (T:="StopIteration") (b:=true) ⟨o,e1,e2⟩ fL (ag (hQ h' tk kk)))
end
end M3
end
section
namespace M3
open PySem
open Sem (wp)
set_option tactic.hygienic true in
theorem Qbp(tup:Bool)(l:af)(xs:Array Value) :
  Meets (Builtin.«enumerate.__new__» ⟨[.type "enumerate",.ref l],[]⟩) (λ_ R s=>(cR s.heap tup l xs/\∃ o,s.heap.get? l=some o) /\
   ∀ h2,h2=(s.heap.push (dZ tup l)).push {cls:=.type "enumerate",data:=.fields #[.none,.bool false,.ref s.heap.objs.size,bg 0,.none,.none]} ->
   R (.ok (.ret (.ref (s.heap.push (dZ tup l)).objs.size))) {s with heap:=h2}) :=
 .of_wp λprog w A R s h=>by
  obtain⟨hp,g,d,tk,os⟩:=s;obtain⟨⟨x1,o,ho⟩,h⟩:=h;have rZ:=sub_enumerate;have kF:Heap.get? (Kn ⟨hp,g,d,tk,os⟩) l=some o:=ho;have y1:cR (Kn ⟨hp,g,d,tk,os⟩) tup l xs:=x1
  wp_walk using wpAny_loadPart' kF
  refine wpAny_stack_any λst=>ag ?_;split
  ·rename_i c _ _ _ _ _;cases(c==Ha "enumerate")
   ·wp_walk using wpAny_loadPart' kF,Zo y1;exact⟨_,rfl,h _ rfl⟩
   ·wp_walk using wpAny_loadPart' kF,Zo y1;exact⟨_,rfl,h _ rfl⟩
  ·wp_walk using wpAny_loadPart' kF,Zo y1;exact⟨_,rfl,h _ rfl⟩
section
variable {prog:ao} {w:World} {A:Around} {E:Value->Shared->Prop} {s:Shared}
theorem ybO{tup:Bool}{l:af}{xs:Array Value}{Q:Value->Shared->Prop}(x1:cR s.heap tup l xs)
  (h:∀ h',IsEnum h' (s.heap.objs.size+1) s.heap.objs.size 0 .none->dn h' tup s.heap.objs.size l 0->(∀ b o,s.heap.get? b=some o->h'.get? b=some o)->Q (.ref (s.heap.objs.size+1)) {s with heap:=h'}) :
  ah (aq prog w) A (call (.type "enumerate") [.ref l]) Q E s:=by
 have ho:∃ o,s.heap.get? l=some o:=by
  cases tup with
  |true=>obtain⟨o,e,_⟩:=(show s.heap.IsTuple l xs from x1);exact⟨o,e⟩
  |false=>obtain⟨o,e,_⟩:=(show s.heap.IsList l xs from x1);exact⟨o,e⟩
 refine callType_new F.called_enumerate (by decide) (F.typeCall_enumerate_1 _) (F.newCall_enumerate_1 _) (λobj=>F.args_object_init_2 obj _) F.entry_enumerate_new (Qbp tup l xs) ⟨⟨x1,ho⟩,λh2 e2=>?_⟩;have n1:(s.heap.push (dZ tup l)).objs.size=s.heap.objs.size+1:=vg ..;have q2:IsEnum h2 (s.heap.push (dZ tup l)).objs.size s.heap.objs.size 0 .none:=by rw[e2];exact Xb _ rfl
 have q1:h2.get? s.heap.objs.size=some (dZ tup l):=by rw[e2];exact wa _ (Xb _ rfl)
 rw[n1] at q2;show _/\_;rw[n1];exact⟨⟨_,q2,rfl⟩,h _ q2 (.new q1) λb o e=>by rw[e2];exact wa _ (wa _ e)⟩
end
end M3
end
section
namespace L3
open PySem PySem.Spec PyProof.Rows L2 M3
section
variable {X:Cx} {pins:List (af×Obj)} {σ:L2.St} {H:Hp} {s:Shared}
theorem YbJ{P:ao}{w:World}{h:Heap}{D:af}{o:HO}(ok:fu P w H h)(hn:H D=none)(new:ba P w (upd H D o) h D o):fu P w (upd H D o) h:=λb u e=>by
 by_cases hb:b=D
 ·subst hb;rw[qg] at e;cases e;exact new
 ·rw[yd hb] at e;exact(ok b u e).kI (λ_ _ _ q=>q) (λc q=>by rw[yd (Zg q hn)];exact q) λc xs q=>by rw[yd (Zg q hn)];exact q
theorem qP{D:af}{o:HO}(I:Inv X pins σ H s)(f:yK X pins H D)(h0:X.s₀.heap.objs.size<=D)(new:ba X.prog X.w (upd H D o) s.heap D o):Inv X pins σ (upd H D o) s:=by
 obtain⟨f0,f1,f2,f3,f4,f5⟩:=f;refine⟨I.ok,I.os,I.bare,⟨I.base.keep,I.base.slot,λb u e n hx=>?_,I.base.there,λb xs e=>?_,λb u xs e=>?_,λb ps e=>?_⟩,I.loc,I.cell,?_,λx c e=>?_,λp hp=>?_,YbJ I.aR f0 new,I.len⟩
 ·rw[yd (Xc (Uc (Va e) h0))];exact I.base.free b u e n hx
 ·have q:=I.base.jE b xs e;rw[yd (Zg q f0)];exact q
 ·have q:=I.base.ju b u xs e;rw[yd (Zg q f0)];exact q
 ·obtain⟨m,q⟩:=I.base.jG b ps e;exact⟨m,by rw[yd (Zg q f0)];exact q⟩
 ·rw[yd (Gd f1)];exact I.free
 ·rw[yd (f4 x c e)];exact I.ic x c e
 ·obtain⟨e1,e2,e3,e4,e5⟩:=I.pin p hp;exact⟨e1,by rw[yd (f5 p hp)];exact e2,e3,e4,e5⟩
end
noncomputable def Yx(sc:aA)(N:List Str)(cs:aA)(N':List Str)(bW:Nat)(js:List Nat):Bool :=
 cs.kind == .function&&cs.names.all (λy=>y.2 != .cell||cs.names.lookup y.1==some .cell)&&cs.names.all (λy=>y.2 != .free||(sc.names.lookup y.1==some .cell||sc.names.lookup y.1==some .free)) &&
 cs.names.all (λy=>y.2 != .local||cs.names.lookup y.1==some .local)&&(N'.drop bW).all (λx=>cs.names.lookup x==some .free)&&decide ((N'.drop bW).map some=js.map (λj=>N[j]?))&&decide (bW<=N'.length)
structure iE (sc:aA) (N:List Str) (cs:aA) (N':List Str) (bW:Nat) (js:List Nat):Prop where
 kind:cs.kind=.function
 cel:∀ y∈cs.names,y.2=.cell->cs.names.lookup y.1=some .cell
 free:∀ y∈cs.names,y.2=.free->sc.names.lookup y.1=some .cell\/sc.names.lookup y.1=some .free
 locs:∀ y∈cs.names,y.2=.local->cs.names.lookup y.1=some .local
 frees:∀ x∈N'.drop bW,cs.names.lookup x=some .free
 at_:(N'.drop bW).map some=js.map (λj=>N[j]?)
 bW:bW<=N'.length
theorem iE.of{sc:aA}{N:List Str}{cs:aA}{N':List Str}{bW:Nat}{js:List Nat}(h:Yx sc N cs N' bW js=true):iE sc N cs N' bW js:=by
 simp only[Yx,Xa,Xj,decide_eq_true_eq,wl,beq_iff_eq,bne_iff_ne,ne_eq] at h;obtain⟨⟨⟨⟨⟨⟨h1,h2⟩,h3⟩,h4⟩,h5⟩,h6⟩,h7⟩:=h;exact⟨h1,λy hy e=>(h2 y hy).resolve_left λz=>z e,λy hy e=>(h3 y hy).resolve_left λz=>z e,λy hy e=>(h4 y hy).resolve_left λz=>z e,h5,h6,h7⟩
theorem qz{names:List (Str×NameKind)}{x:Str}{k:NameKind}(h:names.lookup x=some k):(x,k)∈names:=Gb h
theorem qY{env:Env}:∀{names:List (Str×NameKind)} {x:Str},
  ((names.map λ(n,k)=>if(k==Jn&&env.scope.kind == .function&&env.kindOf n==some .cell) then(n,Hn) else(n,k)).lookup x=some .cell \/
   (names.map λ(n,k)=>if(k==Jn&&env.scope.kind == .function&&env.kindOf n==some .cell) then(n,Hn) else(n,k)).lookup x=some .free)->names.lookup x=some .free\/names.lookup x=some .cell
 |[],_,h=>by simp at h
 |(n,k)::r,x,h=>by
  have ih:=@qY env r x;rw[Ub] at h;by_cases hb:(k==Jn&&env.scope.kind == .function&&env.kindOf n==some .cell)=true
  ·have hkf:k=.free:=by
    simp only[Xa,beq_iff_eq] at hb;exact hb.1.1
   simp only[hb,if_true] at h;cases hx:x==n with
   |true=>simp only[Wc,hx];rw[hkf];exact .inl rfl
   |false =>
    simp only[Wc,hx] at h ⊢;exact ih h
  ·simp only[hb,Wg,if_false] at h;cases hx:x==n with
   |true =>
    simp only[Wc,hx] at h ⊢;exact h.symm
   |false =>
    simp only[Wc,hx] at h ⊢;exact ih h
theorem qJ{env:Env}:∀{names:List (Str×NameKind)} {x:Str},names.lookup x=some .free ->
  ((names.map λ(n,k)=>if(k==Jn&&env.scope.kind == .function&&env.kindOf n==some .cell) then(n,Hn) else(n,k)).lookup x=some .cell \/
   (names.map λ(n,k)=>if(k==Jn&&env.scope.kind == .function&&env.kindOf n==some .cell) then(n,Hn) else(n,k)).lookup x=some .free)
 |[],_,h=>by simp at h
 |(n,k)::r,x,h=>by
  have ih:=@qJ env r x;rw[Ub];cases hx:x==n with
  |true =>
   simp only[Wc,hx] at h;cases h;by_cases hb:((Jn:NameKind)==Jn&&env.scope.kind == .function&&env.kindOf n==some .cell)=true
   ·simp only[hb,if_true,Wc,hx];simp
   ·simp only[hb,Wg,if_false,Wc,hx];simp
  |false =>
   simp only[Wc,hx] at h;by_cases hb:(k==Jn&&env.scope.kind == .function&&env.kindOf n==some .cell)=true
   ·simp only[hb,if_true,Wc,hx];exact ih h
   ·simp only[hb,Wg,if_false,Wc,hx];exact ih h
theorem qu{env:Env}:∀(names:List (Str×NameKind)) (cs:List (Str×af)) {x:Str} {c:af},(∀ y∈names,y.2=.free->∃ c,env.cells.lookup y.1=some c)->(∀ x c,cs.lookup x=some c->env.cells.lookup x=some c) ->
  (Yd env names cs).lookup x=some c->env.cells.lookup x=some c
 |[],cs,x,c,_,oW,h=>oW x c h
 |(n,k)::r,cs,x,c,hn,oW,h=>by
  refine qu r _ (λy hy=>hn y (Ue _ hy)) (λx' c' h'=>?_) h;by_cases hk:(k == .free)=true
  ·rw[if_pos hk] at h';obtain⟨c0,e0⟩:=hn (n,k) xi (by simpa using hk);cases hx:x'==n with
   |true =>
    simp only[Wc,hx] at h';cases h';rw[beq_iff_eq.mp hx,e0];rfl
   |false =>
    simp only[Wc,hx] at h';exact oW x' c' h'
  ·rw[if_neg hk] at h';exact oW x' c' h'
theorem qM{env:Env}:∀(names:List (Str×NameKind)) (cs:List (Str×af)) {x:Str},(∃ c,cs.lookup x=some c)->∃ c,(Yd env names cs).lookup x=some c
 |[],cs,x,h=>h
 |(n,k)::r,cs,x,h=>by
  refine qM r _ ?_;by_cases hk:(k == .free)=true
  ·rw[if_pos hk];cases hx:x==n with
   |true=>exact⟨(env.cells.lookup n).getD 0,by simp only[Wc,hx]⟩
   |false =>
    obtain⟨c,e⟩:=h;exact⟨c,by simp only[Wc,hx];exact e⟩
  ·rw[if_neg hk];exact h
theorem ZE{env:Env}:∀(names:List (Str×NameKind)) (cs:List (Str×af)) {x:Str},(x,Jn)∈names->∃ c,(Yd env names cs).lookup x=some c
 |[],_,_,h=>nomatch h
 |(n,k)::r,cs,x,h=>by
  rcases ua.mp h with e|h
  ·cases e;refine qM r _ ?_;rw[if_pos (by decide)];exact⟨(env.cells.lookup n).getD 0,by simp only[Wc,beq_self_eq_true]⟩
  ·exact ZE r _ h
theorem Fs:∀(names:List (Str×NameKind)) (n n0:Nat) (acc:List (Str×af)) {x:Str},n0<=n->(∃ c,acc.lookup x=some c/\n0<=c)->∃ c,(aG n names acc).lookup x=some c/\n0<=c
 |[],_,_,_,_,_,h=>h
 |(y,k)::r,n,n0,acc,x,hn,h=>by
  unfold aG;split
  ·refine Fs r (n+1) n0 _ (by lia) ?_;cases hx:x==y with
   |true=>exact⟨n,by simp only[Wc,hx],hn⟩
   |false =>
    obtain⟨c,e,l⟩:=h;exact⟨c,by simp only[Wc,hx];exact e,l⟩
  ·exact Fs r n n0 acc hn h
theorem Dv:∀(names:List (Str×NameKind)) (n:Nat) (acc:List (Str×af)) {x:Str},(x,Hn)∈names->∃ c,(aG n names acc).lookup x=some c/\n<=c
 |[],_,_,_,h=>nomatch h
 |(y,k)::r,n,acc,x,h=>by
  unfold aG
  rcases ua.mp h with e|h
  ·cases e;rw[if_pos (by decide)];exact Fs r (n+1) n _ (by lia) ⟨n,by simp only[Wc,beq_self_eq_true],vb _⟩
  ·split
   ·obtain⟨c,e,l⟩:=Dv r (n+1) ((y,n)::acc) h;exact⟨c,e,by lia⟩
   ·exact Dv r n acc h
theorem YY:∀(names:List (Str×NameKind)) (n:Nat) (acc:List (Str×af)) {x:Str},(x,Hn)∉names->(aG n names acc).lookup x=acc.lookup x
 |[],_,_,_,_=>rfl
 |(y,k)::r,n,acc,x,h=>by
  unfold aG;split
  ·rename_i hk;rw[YY r (n+1) _ λz=>h (Ue _ z)];have:(x==y)=false:=by
    rw[beq_eq_false_iff_ne];intro e;subst e;have:k=.cell:=by simpa using hk
    subst this;exact h xi
   simp only[Wc,this]
  ·exact YY r n acc λz=>h (Ue _ z)
theorem Q4:∀(names:List (Str×NameKind)) (n:Nat) (acc:List (Str×af)) {x:Str} {c:af},(aG n names acc).lookup x=some c->acc.lookup x=some c\/n<=c
 |[],_,_,_,_,h=>.inl h
 |(y,k)::r,n,acc,x,c,h=>by
  unfold aG at h;split at h
  ·rcases Q4 r (n+1) _ h with e|e
   ·cases hx:x==y with
    |true=>simp only[Wc,hx] at e;cases e;exact .inr (vb _)
    |false=>simp only[Wc,hx] at e;exact .inl e
   ·exact .inr (by lia)
  ·exact Q4 r n acc h
theorem DR:∀(names:List (Str×NameKind)) (n:Nat) (acc:List (Str×af)),(∀ x c,acc.lookup x=some c->c<n)->(∀ x y c,acc.lookup x=some c->acc.lookup y=some c->x=y) ->
  ∀ x y c,(aG n names acc).lookup x=some c->(aG n names acc).lookup y=some c->x=y
 |[],_,_,_,hi=>hi
 |(z,k)::r,n,acc,hb,hi=>by
  unfold aG;split
  ·refine DR r (n+1) _ (λx c e=>?_) λx y c e1 e2=>?_
   ·cases hx:x==z with
    |true=>simp only[Wc,hx] at e;cases e;exact Vl _
    |false=>simp only[Wc,hx] at e;exact Vq (hb x c e)
   ·cases hx:x==z with
    |true =>
     simp only[Wc,hx] at e1;cases e1;cases hy:y==z with
     |true=>rw[beq_iff_eq.mp hx,beq_iff_eq.mp hy]
     |false=>simp only[Wc,hy] at e2;exact absurd (hb y _ e2) (Vi _)
    |false =>
     simp only[Wc,hx] at e1;cases hy:y==z with
     |true=>simp only[Wc,hy] at e2;cases e2;exact absurd (hb x _ e1) (Vi _)
     |false=>simp only[Wc,hy] at e2;exact hi x y c e1 e2
  ·exact DR r n acc hb hi
theorem Fu:∀(names:List (Str×NameKind)) (h:Heap) (acc:List (Str×af)),(∀ x c,acc.lookup x=some c->∃ v,h.IsCell c v)->∀ x c,(aG h.objs.size names acc).lookup x=some c->∃ v,(pushCells h names).IsCell c v
 |[],_,_,hc=>hc
 |(y,k)::r,h,acc,hc=>by
  unfold aG pushCells;split
  ·have:=Fu r (h.push {cls:=.type "cell",data:=.cell none}) ((y,h.objs.size)::acc) λx c e=>by
    cases hx:x==y with
    |true=>simp only[Wc,hx] at e;cases e;exact⟨none,_,Xb _ rfl,rfl⟩
    |false =>
     simp only[Wc,hx] at e;obtain⟨v,q⟩:=hc x c e;exact⟨v,q.keeps λb o e=>wa _ e⟩
   rwa [vg] at this
  ·exact Fu r h acc hc
theorem ZaF{M:Model}{A:Around}{E:Value->Shared->Prop}{s:Shared}{scope:aA}{globals:af}{closure:List (Str×af)}{qual:Str}{func:Option af}{code:Value}{env:Env}{builtins:af}{Q:Env->Shared->Prop}
  (hQ:∀ h',h'.Ns s.heap.objs.size (λ_=>none)->(∀ b o,s.heap.get? b=some o->h'.get? b=some o) ->
   ((∀ x c,closure.lookup x=some c->∃ v,s.heap.IsCell c v)->∀ x c,(aG (s.heap.objs.size+1) scope.names closure).lookup x=some c->∃ v,h'.IsCell c v) ->
   Q (newEnv scope s.heap.objs.size globals (aG (s.heap.objs.size+1) scope.names closure) qual func code (some env) builtins) {s with heap:=h'}) :
  ah M A (fJ scope globals closure [] qual func code (some env) builtins) Q E s:=by
 simp only[fJ,xD,if_true];refine ae (wpAny_alloc ?_);refine ae (wpAny_layCells _ (λname kind cells=>by cases hkc:kind==Hn <;> simp[hkc]) _ _ _ _ ?_);rw[show({s with heap:=s.heap.push {cls:=.type "dict",data:=.dict #[]}}:Shared).heap.objs.size=s.heap.objs.size+1 from vg ..];refine ae (ag (ag (hQ _ ?_ ?_ ?_)))
 ·exact(Heap.Ns.new s.heap (.type "dict")).keeps (iN _ _)
 ·exactλb o e=>iN _ _ b o (wa _ e)
 ·intro hc;have:=Fu scope.names (s.heap.push {cls:=.type "dict",data:=.dict #[]}) closure λx c e=>let ⟨v,q⟩:=hc x c e;⟨v,q.keeps λb o e=>wa _ e⟩
  rwa [vg] at this
noncomputable def iC(X:Cx)(cs:aA)(N':List Str)(C:af)(s3:Shared)(H:Hp)(ex:List af):Cx :=
 {X with N:=N',s₀:=s3,H₀:=H,env:=compEnvC cs (aG (C+1) cs.names (Yd X.env cs.names [])) C X.env,outer:=X.stack,stack:=X.stack,ex:=ex,fn:=λx=>cs.names.lookup x==some .cell,xe:=λ_ _=>False}
noncomputable def stC(bW:Nat)(js:List Nat)(σ:L2.St):L2.St:=xa bW none++js.map λj=>(σ[j]?).join
section
variable {X:Cx} {pins:List (af×Obj)} {σ:L2.St} {H:Hp} {s3:Shared}
theorem Zbr{cs:aA}{N':List Str}{bW:Nat}{js:List Nat}{ex:List af}{h1:Heap}{tk:Nat}(I:Inv X pins σ H s3)(ok:iE X.env.scope X.N cs N' bW js)(hex:∀ b∈ex,yK X pins H b/\b<s3.heap.objs.size)
  (tm:h1.Ns s3.heap.objs.size λ_=>none) (hk:∀ b o,s3.heap.get? b=some o->h1.get? b=some o)
  (tG:(∀ x c,(Yd X.env cs.names []).lookup x=some c->∃ v,s3.heap.IsCell c v)->∀ x c,(aG (s3.heap.objs.size+1) cs.names (Yd X.env cs.names [])).lookup x=some c->∃ v,h1.IsCell c v) :
  Inv (iC X cs N' s3.heap.objs.size s3 H ex) [] (stC bW js σ) H {s3 with heap:=h1,toks:=tk}:=by
 have hfc:∀ y∈cs.names,y.2=.free->∃ c,X.env.cells.lookup y.1=some c:=λy hy e=>I.ok.has y.1 (ok.free y hy e);have lk:∀{x c},(Yd X.env cs.names []).lookup x=some c->X.env.cells.lookup x=some c:=λ{x c} h=>qu cs.names [] hfc (λ_ _ z=>by simp at z) h;have clt:∀{x c},X.env.cells.lookup x=some c->c<s3.heap.objs.size:=λ{x c} e=>let ⟨v,q⟩:=I.cell x c e;q.lt;have Dd:=tG λx c e=>I.cell x c (lk e);have LF:∀{x c},(aG (s3.heap.objs.size+1) cs.names (Yd X.env cs.names [])).lookup x=some c->X.env.cells.lookup x=some c\/s3.heap.objs.size+1<=c:=λ{x c} e=>(Q4 cs.names _ _ e).imp lk id;have nj:∀{x},cs.names.lookup x=some .free->(x,Hn)∉cs.names:=λ{x} e z=>by have:=ok.cel _ z rfl;rw[e] at this;cases this
 refine⟨⟨I.ok.mod,ok.kind,I.ok.glob,I.ok.blt,vb _,λx y c e1 e2=>DR cs.names _ _ (λx c e=>Vq (clt (lk e))) (λx y c e1 e2=>I.ok.inj x y c (lk e1) (lk e2)) x y c e1 e2,λx hx=>?_,λx c z e=>?_,I.ok.hd,I.ok.frames,.inl rfl,λb hb=>?_,I.bs,Xe I.ok.sx I.sz,λb o e hb=>?_,λb hb=>?_,I.stack,I.j1⟩,
  rfl,I.bare,Un.kept hk,⟨_,tm,λi x v e1 e2 e3=>?_⟩,λx c e=>Dd x c e,I.aR.fresh (vb _),λx c e=>(LF e).elim (λq=>I.ic x c q) λq=>I.aR.fresh (by lia),λp hp=>?_,I.aR.kept hk,?_⟩
 ·rcases qY hx with hx|hx
  ·rw[show ∀ n,(iC X cs N' s3.heap.objs.size s3 H ex).env.cells.lookup x=(aG (s3.heap.objs.size+1) cs.names (Yd X.env cs.names [])).lookup x fromλ_=>rfl]
   ·rw[YY _ _ _ (nj hx)];exact ZE cs.names [] (qz hx)
   ·exact 0
  ·obtain⟨c,e,_⟩:=Dv cs.names (s3.heap.objs.size+1) (Yd X.env cs.names []) (qz hx);exact⟨c,e⟩
 ·have z':cs.names.lookup x=some .cell:=by simpa using(show(cs.names.lookup x==some .cell)=true from z)
  obtain⟨c',e',l⟩:=Dv cs.names (s3.heap.objs.size+1) (Yd X.env cs.names []) (qz z');have:c=c':=by
   have e2:(aG (s3.heap.objs.size+1) cs.names (Yd X.env cs.names [])).lookup x=some c:=e;rw[e'] at e2;exact(gb.inj e2).symm
  rw[this];exact Nat.le_of_succ_le l
 ·obtain⟨⟨_,_,_,_,f4,_⟩,lt⟩:=hex b hb;refine⟨Xc lt,λx c e=>?_⟩
  rcases LF e with q|q
  ·exact f4 x c q
  ·exact Xl (vt lt q)
 ·obtain⟨⟨_,_,_,f3,_,_⟩,_⟩:=hex b hb
  rcases f3 with f3|f3
  ·exact I.ok.rP b o e f3
  ·exact absurd (Uc (Va e) (Xe I.ok.sx f3)) (Vi _)
 ·obtain⟨⟨_,f1,f2,_,_,_⟩,_⟩:=hex b hb;intro z
  rcases ua.mp (I.iu b z) with e|e
  ·exact f1 e
  ·exact f2 e
 ·-- a name around, by its cell
  have hi:¬ i<bW:=λhi=>by
   unfold stC at e2;rw[ub (by simpa using hi),Uk,if_pos hi] at e2;cases e2
  have ig:(N'.drop bW)[i-bW]?=some x:=by
   rw[Wj];have q:bW+(i-bW)=i:=by lia
   rw[q];exact e1
  have i7:=ok.frees x (Vb ig);have eN:(js.map λj=>X.N[j]?)[i-bW]?=some (some x):=by rw[<- ok.at_,Ua,ig];rfl
  unfold stC at e2;rw[Vc (by simpa using Uv hi),Vn,Ua] at e2;rw[Ua] at eN;cases ej:js[i-bW]? with
  |none=>rw[ej] at e2;cases e2
  |some j =>
   rw[ej] at e2 eN;have sj:(σ[j]?).join=some v:=gb.inj e2;have eN':X.N[j]?=some x:=gb.inj eN;have eσ:σ[j]?=some (some v):=by
    cases q:σ[j]? with
    |none=>rw[q] at sj;cases sj
    |some u=>rw[q] at sj;exact congrArg some sj
   have Ax:X.env.scope.names.lookup x=some .cell\/X.env.scope.names.lookup x=some .free:=ok.free (x,.free) (qz i7) rfl;obtain⟨m,hn,hl⟩:=I.loc;obtain⟨u,r,l⟩:=hl j x v eN' eσ (.inr Ax);refine⟨u,r,.inr ⟨qJ i7,?_⟩⟩
   rcases l with ⟨k,_⟩|⟨_,c,ec,z⟩
   ·rcases Ax with q|q
    ·rw[show X.env.kindOf x=X.env.scope.names.lookup x from rfl,q] at k;cases k
    ·rw[show X.env.kindOf x=X.env.scope.names.lookup x from rfl,q] at k;cases k
   ·obtain⟨c',NH⟩:=ZE (env:=X.env) cs.names [] (qz i7);have:=lk NH;rw[ec] at this;cases this;obtain⟨o,ho,hd⟩:=z;refine⟨c,?_,o,hk c o ho,hd⟩;show(aG (s3.heap.objs.size+1) cs.names (Yd X.env cs.names [])).lookup x=some c;rw[YY _ _ _ (nj i7)];exact NH
 ·have r8:p∈X.pn:=by
   have AH:p∈X.pn++[]:=hp;rw[xw] at AH;exact AH
  obtain⟨e1,e2,e3,e4,e5⟩:=I.pin p (xj _ r8);refine⟨hk _ _ e1,e2,Xc (Va e1),λz=>?_,e5⟩
  rcases ua.mp (I.iu p.1 z) with e|e
  ·exact e3 e
  ·exact e4 e
 ·have q:=congrArg WB ok.at_;rw[xc,xc,uv] at q;unfold stC;show _=N'.length;rw[xf,Vn,xc];have:=ok.bW
  lia
end
section
variable {X:Cx}
def mR(X:Cx)(ifs:List Expr)(t:TT):Prop:=∀(pins:List (af×Obj)) (s:Shared) (σ:L2.St) (H:Hp) (Q:Bool->Hp->Prop),Inv X pins σ H s->t σ H Q->ah (aq X.prog X.w) X.A (KN ifs X.env) (TP X pins σ Q) X.xe s
noncomputable def Eu:TT:=λ_ H Q=>Q true H
theorem zcr:mR X [] Eu:=λpins s σ H Q I h=>wpAny_tests_nil ⟨H,I,h⟩
theorem Zcp{c:Expr}{t:TT}(h:PT X c t):mR X [c] t:=λpins s σ H Q I hw=>wpAny_tests_one (h pins s σ H Q I hw)
def BX(J:It)(bW:Nat)(js:List Nat)(g:TG)(tc:TT)(te:TE)(σ:L2.St)(H:Hp)(Q:VK):Prop :=
 ∃ W:Nat->Nat->List V->L2.St->Hp->Prop,(∃ m,W 0 m [] (stC bW js σ) H)/\∀ i m acc σ' H',W i m acc σ' H' ->
  (J.stop i H'/\∀ D,H' D=none->Q (.ref D) (upd H' D (.lst acc))) \/
  (J.go i H'/\∀ x H2,J.om i H' x H2->g x σ' H2 λσ2 H3=>tc σ2 H3 λb H4 =>
   if b=true then te σ2 H4 λy H5=>acc.length<sizeLine/\∃ m',m'<m/\W (i+1) m' (acc++[y]) σ2 H5 else ∃ m',m'<m/\W (i+1) m' acc σ2 H4)
noncomputable def Iu(wi:TI)(bW:Nat)(js:List Nat)(g:TG)(tc:TT)(te:TE):TE:=λσ H Q=>wi σ H λJ H1=>BX J bW js g tc te σ H1 Q
theorem Zn{Y:Cx}{pins:List (af×Obj)}{σ:L2.St}{H:Hp}{s:Shared}{b:af}{o:Obj}(I:Inv Y pins σ H s)(h:(b,o)∈pins):s.heap.get? b=some o/\H b=none :=
 let z:=I.pin (b,o) (uf _ h);⟨z.1,z.2.1⟩
def JI(X:Cx)(J:It)(fp:List af)(it:af)(tn:Nat->Heap->Prop):Prop :=
 ∀(Y:Cx),Y.prog=X.prog->Y.w=X.w->Y.K=X.K->Y.calm=X.calm->Y.A=X.A->Y.pn=X.pn->∀(i:Nat)(pins:List (af×Obj)) (s:Shared) (σ:L2.St) (H:Hp) (E:Value->Shared->Prop),Inv Y pins σ H s->(∀ b∈fp,yK Y pins H b)->tn i s.heap->J.stop i H ->
  ah (aq X.prog X.w) X.A (bJ (.ref it)) (λr s1=>r=none/\Inv Y pins σ H s1) E s
def O9(X:Cx)(tg:Expr)(J:It)(fp:List af)(it:af)(tn:Nat->Heap->Prop):Prop :=
 ∀(Y:Cx),Y.prog=X.prog->Y.w=X.w->Y.K=X.K->Y.calm=X.calm->Y.A=X.A->∀(i:Nat)(pins:List (af×Obj)) (s:Shared) (σ:L2.St) (H:Hp) (E:Value->Shared->Prop),Inv Y pins σ H s->(∀ b∈fp,yK Y pins H b)->tn i s.heap->J.go i H ->
  ah (aq X.prog X.w) X.A (bJ (.ref it)) (λr s1=>∃ u,r=some u /\
   ah (aq X.prog X.w) X.A (cw tg (.ref it) u) (λ_ s2=>∃ x H',Inv Y pins σ H' s2/\RelV x u/\J.om i H x H'/\tn (i+1) s2.heap/\∀ b∈fp,H' b=none) E s1) E s
theorem OT{elt iter tg:Expr}{ifs:List Expr}{cs:aA}{pos:Pos}{N':List Str}{bW:Nat}{js:List Nat}{g:TG}{tc:TT}{te:TE}{pins:List (af×Obj)}{σ:L2.St}{H2:Hp}{s2:Shared}{it:af}{fp:List af}{tn:Nat->Heap->Prop}{J:It}{Q:VK}
  {RR:Value->af->jB->Shared->Prop} {E:Value->Shared->Prop}
  (ok:iE X.env.scope X.N cs N' bW js) (hg:∀ C s3 H ex,PG (iC X cs N' C s3 H ex) tg g) (oV:∀ C s3 H ex,mR (iC X cs N' C s3 H ex) ifs tc) (ku:∀ C s3 H ex,PE (iC X cs N' C s3 H ex) elt te)
  (I2:Inv X pins σ H2 s2) (mem:it∈fp) (obj:∀ i h,tn i h->∀ b∈fp,∃ o,h.get? b=some o/\∀ v,o.data≠.cell v) (keep:∀ i h h',tn i h->(∀ b∈fp,∀ o,h.get? b=some o->h'.get? b=some o)->tn i h')
  (item:O9 X tg J fp it tn) (done:JI X J fp it tn) (self:∀(A:Around)(i:Nat)(s:Shared)(Q:Value->Shared->Prop)(E:Value->Shared->Prop),tn i s.heap->Q (.ref it) s->ah (aq X.prog X.w) A (gQ (.ref it)) Q E s)
  (k9:tn 0 s2.heap) (f2:∀ b∈fp,yK X pins H2 b) (W:Nat->Nat->List V->L2.St->Hp->Prop) (w0:∃ m,W 0 m [] (stC bW js σ) H2)
  (turn:∀ i m acc σ' H',W i m acc σ' H'->(J.stop i H'/\∀ D,H' D=none->Q (.ref D) (upd H' D (.lst acc))) \/
   (J.go i H'/\∀ x H2,J.om i H' x H2->g x σ' H2 λσ2 H3=>tc σ2 H3 λb H4 =>
    if b=true then te σ2 H4 λy H5=>acc.length<sizeLine/\∃ m',m'<m/\W (i+1) m' (acc++[y]) σ2 H5 else ∃ m',m'<m/\W (i+1) m' acc σ2 H4))
  (fin:∀(D C:af)(acc:List V)(H':Hp)(s6:Shared),Inv X pins σ (upd H' D (.lst acc)) s6->yK X pins (upd H' D (.lst acc)) C->X.s₀.heap.objs.size<=C->(∃ m,s6.heap.Ns C m)->Q (.ref D) (upd H' D (.lst acc))->RR (.ref D) C (.ok .next) s6) :
  ah (aq X.prog X.w) X.A (newList []) (λacc s3=>ah (aq X.prog X.w) X.A (fJ cs X.env.globals (Yd X.env cs.names []) [] X.env.qual none .none (some X.env)) (λBt s4 =>
   bL (aq X.prog X.w) X.A (.compStart (.ListComp elt [⟨tg,iter,ifs,0⟩] cs pos) 0 (.ref it) acc {Bt with scope:=relabel cs X.env}) (RR acc Bt.locals) s4) E s3) E s2:=by
 refine aS (ZaF λh1 tm hup tG=>?_);obtain⟨s3,nC⟩:∃ s3:Shared,s3={s2 with heap:=s2.heap.push {cls:=.type "list",dict:=none,data:=.seq ([]:List Value).toArray}}:=⟨_,rfl⟩;have I3:Inv X pins σ H2 s3:=by rw[nC];exact I2.kept (t':=s2.toks) λb o e=>wa _ e
 have Cf:s3.heap.objs.size=s2.heap.objs.size+1:=by rw[nC];exact vg ..
 have gD3:s3.heap.get? s2.heap.objs.size=some {cls:=.type "list",dict:=none,data:=.seq ([]:List Value).toArray}:=by rw[nC];exact Xb _ rfl
 have Lx:∀ b o,s2.heap.get? b=some o->s3.heap.get? b=some o:=λb o e=>by rw[nC];exact wa _ e
 have es4:∀ tk,({s2 with heap:=h1,toks:=tk}:Shared)={s3 with heap:=h1,toks:=tk}:=λtk=>by rw[nC]
 have GG:h1.Ns s3.heap.objs.size λ_=>none:=by rw[nC];exact tm
 have B7:∀ b o,s3.heap.get? b=some o->h1.get? b=some o:=by rw[nC];exact hup
 have G5:(∀ x c,(Yd X.env cs.names []).lookup x=some c->∃ v,s3.heap.IsCell c v)->∀ x c,(aG (s3.heap.objs.size+1) cs.names (Yd X.env cs.names [])).lookup x=some c->∃ v,h1.IsCell c v:=by rw[nC];exact tG
 generalize hD:s2.heap.objs.size=D at *;have fD:yK X pins H2 D:=I2.ie (Xm hD) (I2.aR.fresh (Xm hD));have LC:X.s₀.heap.objs.size<=D:=hD ▸ I2.sz;have Cz:∀ b∈fp,b<D:=λb hb=>let ⟨o,e,_⟩:=obj 0 _ k9 b hb;hD ▸ Va e;have hex:∀ b∈D::fp,yK X pins H2 b/\b<s3.heap.objs.size:=λb hb=>by
  rcases ua.mp hb with e|hb
  ·subst e;exact⟨fD,by rw[Cf];exact Vl _⟩
  ·exact⟨f2 b hb,by rw[Cf];exact Vq (Cz b hb)⟩
 obtain⟨C,hC⟩:∃ C,C=s3.heap.objs.size:=⟨_,rfl⟩;have I4:∀ tk,Inv (iC X cs N' C s3 H2 (D::fp)) [] (stC bW js σ) H2 {s3 with heap:=h1,toks:=tk}:=λtk=>by rw[hC];exact Zbr I3 ok hex GG B7 G5
 have DC:D≠C:=by rw[hC,Cf];exact Xc (Vl _)
 -- rA lH objects, and rA list, in rA block
 have C7:∀{pl:List (af×Obj)} {H':Hp} {b:af},b∈D::fp->H' b=none->(∀ p∈pl,p.1≠b)->yK (iC X cs N' C s3 H2 (D::fp)) pl H' b:=λ{pl H' b} hb hn hp=>by
  obtain⟨⟨g0,g1,g2,g3,g4,g5⟩,lt⟩:=hex b hb;refine⟨hn,hC ▸ Xc lt,λz=>?_,.inl hb,λx c e=>?_,λp r8=>?_⟩
  ·rcases ua.mp (I3.iu b z) with e|e
   ·exact g1 e
   ·exact g2 e
  ·rcases Q4 cs.names _ _ e with q|q
   ·exact g4 x c (qu cs.names [] (λy hy e=>I3.ok.has y.1 (ok.free y hy e)) (λ_ _ z=>by simp at z) q)
   ·exact Xl (vt (hC ▸ lt) q)
  ·rcases vh.mp r8 with z|z
   ·exact g5 p (xj _ z)
   ·exact hp p z
 have lp:∀ tk,bL (aq X.prog X.w) X.A (.compLoop (.ListComp elt [⟨tg,iter,ifs,0⟩] cs pos) 0 (.ref it) (.ref D) (iC X cs N' C s3 H2 (D::fp)).env) (RR (.ref D) C) {s3 with heap:=h1,toks:=tk}:=λtk=>by
  obtain⟨m0,w0⟩:=w0;refine zbS (λn s=>∃ i acc ys k σ' H',Inv (iC X cs N' C s3 H2 (D::fp)) [] σ' H' s/\tn i s.heap/\(∀ b∈fp,H' b=none)/\H' D=none/\s.heap.get? D=some {cls:=.type "list",data:=.seq ys k}/\Vals acc ys.toList/\acc.length<=sizeLine/\W i n acc σ' H') ?_ m0
   ⟨0,[],#[],0,_,_,I4 tk,keep _ _ _ k9 λb hb o e=>B7 b o (Lx b o e),λb hb=>(f2 b hb).1,fD.1,B7 _ _ gD3,.nil,Xq _,w0⟩
  rintro n s5 ⟨i,acc,ys,k,σ5,H5,I5,t5,n5,d5,g5,v5,l5,w5⟩;have JA:=I5.pinned (fp:=[D]) (λb hb=>by obtain rfl:=Ud.mp hb;exact C7 xi d5 λp hp=>nomatch hp) (λb hb=>by obtain rfl:=Ud.mp hb;exact⟨_,g5,λv z=>nomatch z⟩);have GA:sQ [D] s5.heap=[(D,{cls:=.type "list",data:=.seq ys k})]:=by simp[sQ,g5]
  rw[GA,Wd] at JA;have NB:∀ b∈fp,yK (iC X cs N' C s3 H2 (D::fp)) [(D,{cls:=.type "list",data:=.seq ys k})] H5 b:=λb hb=>C7 (Ue _ hb) (n5 b hb) λp hp=>by
   obtain rfl:=Ud.mp hp;exact Xl (Cz b hb)
  rcases turn i n acc σ5 H5 w5 with ⟨stop,qf⟩|⟨go,step⟩
  ·refine bf (done (iC X cs N' C s3 H2 (D::fp)) rfl rfl rfl rfl rfl rfl i _ s5 σ5 H5 _ JA NB t5 stop) λr s6 ⟨hr,I6⟩=>?_;subst hr;obtain⟨g6,d6⟩:=Zn I6 (Ud.mpr rfl);have IX:Inv X pins σ H5 s6:=I3.pZ (ch:=D::fp) I6.os I6.base I6.aR I6.bare λb hb=>by
    obtain⟨⟨_,e1,_,e3,e4,e5⟩,_⟩:=hex b hb;exact⟨e3,e1,e4,e5⟩
   obtain⟨_,e1,e2,e3,e4,e5⟩:=fD;have IXD:=qP (o:=.lst acc) IX ⟨d6,e1,e2,e3,e4,e5⟩ LC ⟨l5,ys.toList,k,v5,by simpa using g6⟩;have fC:yK X pins (upd H5 D (.lst acc)) C:=by
    have hn:(upd H5 D (.lst acc)) C=none:=by rw[yd (Gd DC)];exact I6.free
    have z:=I3.ie (b:=C) (Xm hC.symm) (I3.aR.fresh (Xm hC.symm));exact⟨hn,z.2⟩
   obtain⟨m,hm,_⟩:=I6.loc;exact fin D C acc H5 s6 IXD fC (Xe LC (by rw[hC,Cf];exact Ux _)) ⟨m,hm⟩ (qf D d6)
  ·refine bf (item (iC X cs N' C s3 H2 (D::fp)) rfl rfl rfl rfl rfl i _ s5 σ5 H5 _ JA NB t5 go) λr s6 ⟨u,hr,h6⟩=>?_;subst hr;refine bf h6 λ_ s7 ⟨x,H7,I7,r7,y7,t7,n7⟩=>?_;obtain⟨g7,d7⟩:=Zn I7 (Ud.mpr rfl);have I7p:=I7.pinned (fp:=fp) (λb hb=>C7 (Ue _ hb) (n7 b hb) λp hp=>by obtain rfl:=Ud.mp hp;exact Xl (Cz b hb)) (obj _ _ t7);refine bf (hg _ _ _ _ _ s7 σ5 H7 x u _ I7p r7 (step x H7 y7)) λ_ s8 ⟨σ8,H8,I8,q8⟩=>?_;refine bf (oV _ _ _ _ _ s8 σ8 H8 _ I8 q8) λb s9 ⟨H9,I9,q9⟩=>?_;cases b with
   |false =>
    rw[if_neg Wm] at q9 ⊢;obtain⟨m',hm,w9⟩:=q9;obtain⟨g9,d9⟩:=Zn I9 (xj _ (Ud.mpr rfl));refine⟨m',hm,i+1,acc,ys,k,σ8,H9,I9.pins_of (λp hp=>nomatch hp),keep _ _ _ t7 λb hb o e=>(Zn I9 (uf _ (Zr hb e))).1,λb hb=>?_,d9,g9,v5,l5,w9⟩;obtain⟨o,e,_⟩:=obj _ _ t7 b hb;exact(Zn I9 (uf _ (Zr hb e))).2
   |true =>
    rw[if_pos rfl] at q9 ⊢;refine bf (ku _ _ _ _ _ s9 σ8 H9 _ I9 q9) λyv sW ⟨y,DM,DL,r10,lt,m',hm,w10⟩=>?_;obtain⟨g10,HH⟩:=Zn DL (xj _ (Ud.mpr rfl));have t10:tn (i+1) sW.heap:=keep _ _ _ t7 λb hb o e=>(Zn DL (uf _ (Zr hb e))).1;have n10:∀ b∈fp,DM b=none:=λb hb=>by
     obtain⟨o,e,_⟩:=obj _ _ t7 b hb;exact(Zn DL (uf _ (Zr hb e))).2
    have JB:Inv (iC X cs N' C s3 H2 (D::fp)) [] σ8 DM sW:=DL.pins_of λp hp=>nomatch hp;have lys:ys.size=acc.length:=by have:=v5.length;simp at this;lia
    refine wpAny_list_append_plain (hsz:=by lia) (show sW.heap.PlainList D ys from⟨k,g10⟩) λh11 p11 vJ=>?_;obtain⟨_,a1,a2,a3,a4,a5⟩:=C7 (pl:=[]) (H':=DM) (b:=D) xi HH λp hp=>nomatch hp;obtain⟨k11,g11⟩:=p11;refine⟨m',hm,i+1,acc++[y],ys.push yv,k11,σ8,DM,JB.turned (t':=sW.toks) (it:=D) (λb o hb e=>(vJ.2 b hb).trans e) HH a1 a3 a4 a5,keep _ _ _ t10 λb hb o e=>(vJ.2 b (Xc (Cz b hb))).trans e,n10,HH,g11,?_,by rw[xf,UB];exact lt,w10⟩;rw[Array.toList_push];exact v5.append (.cons r10 .nil)
 have R1:∀ tk,bL (aq X.prog X.w) X.A (.compStart (.ListComp elt [⟨tg,iter,ifs,0⟩] cs pos) 0 (.ref it) (.ref D) (iC X cs N' C s3 H2 (D::fp)).env) (RR (.ref D) C) {s3 with heap:=h1,toks:=tk}:=λtk =>
  codeAny_compStart_list (lp tk) (self _ 0 _ _ _ (keep _ _ _ k9 λb hb o e=>B7 b o (Lx b o e)) (lp tk))
 have R2:=R1 s2.toks;rw[<- es4] at R2;subst hD;rw[hC,nC] at R2;exact R2
end
section
variable {X:Cx} {pins:List (af×Obj)} {σ:L2.St} {H:Hp} {s:Shared} {h':Heap}
theorem qm{t':Nat}{ch:List af}(I:Inv X pins σ H s)(f:∀ b∈ch,yK X pins H b)(k:∀ b o,b∉ch->s.heap.get? b=some o->h'.get? b=some o):Inv X pins σ H {s with heap:=h',toks:=t'}:=by
 have nt:∀ b u,H b=some u->b∉ch:=λb u e z=>by
  have q:=(f b z).1;rw[e] at q;cases q
 refine I.step (g':=s.gens) (d':=s.drawn) (ch:=ch) (λb hb=>?_) (λb o _ _ hc e _=>k b o hc e) (λb o _ _ hc e _=>⟨o.slots,k b o hc e⟩) (λ_ _ _ _ n=>n) (λb o hc e=>⟨o,k b o hc e⟩) (λ_ _ e=>e) (λ_ _ _ e=>e) (λb ps e=>⟨#[],by rw[e];simp⟩) (λm hm=>?_) (λb u e=>?_) I.bare
 ·obtain⟨_,f1,f2,f3,f4,f5⟩:=f b hb;exact⟨f3,f1,f4,f5⟩
 ·obtain⟨o,es,ep,ho,r⟩:=hm;exact⟨o,es,ep,k _ o (λz=>(f _ z).2.1 rfl) ho,r⟩
 ·refine(I.aR b u e).kI (λc v hc q=>k c v ?_ q) (λ_ q=>q) λ_ _ q=>q
  rcases hc with z|z
  ·rw[z];exact nt b u e
  ·exact nt c _ z
def iJ(K:gc)(H:Hp)(b:Bool)(a:af)(xs:List V):Prop:=if b=true then ik K H a xs else gz K H a xs
theorem Zk{b:Bool}{a:af}{xs:List V}(I:Inv X pins σ H s)(h:iJ X.K H b a xs):∃ its:List Value,Vals xs its/\cR s.heap b a its.toArray/\xs.length<=sizeLine:=by
 cases b with
 |false=>obtain⟨its,r,p,z⟩:=I.list (show gz X.K H a xs from h);exact⟨its,r,p.isList,z⟩
 |true=>obtain⟨its,r,p,z⟩:=I.tuple (show ik X.K H a xs from h);exact⟨its,r,p,z⟩
theorem zv{b:Bool}{a:af}{xs ys:List V}(I:Inv X pins σ H s)(h:iJ X.K H b a xs)(h':iJ X.K H b a ys):xs=ys:=by
 cases b with
 |false=>exact I.list_inj (show gz X.K H a xs from h) h'
 |true=>exact I.tuple_inj (show ik X.K H a xs from h) h'
noncomputable def DJ(K:gc)(b1 b2:Bool)(a1 a2:af):It :=
 ⟨λi H=>∃ xs ys,iJ K H b1 a1 xs/\iJ K H b2 a2 ys/\i<xs.length/\i<ys.length,
 λi H x H'=>∃ T x1 y1,x=.ref T/\H T=none/\H'=upd H T (.tup [x1,y1])/\(∀ xs,iJ K H b1 a1 xs->xs[i]?=some x1)/\(∀ ys,iJ K H b2 a2 ys->ys[i]?=some y1),
 λi H=>∃ xs ys,iJ K H b1 a1 xs/\iJ K H b2 a2 ys/\(i=xs.length\/(i<xs.length/\i=ys.length))⟩
noncomputable def Jz(K:gc)(b:Bool)(a:af):It :=
 ⟨λi H=>∃ xs,iJ K H b a xs/\i<xs.length,
 λi H x H'=>∃ T x1,x=.ref T/\H T=none/\H'=upd H T (.tup [.int i,x1])/\(∀ xs,iJ K H b a xs->xs[i]?=some x1),
 λi H=>∃ xs,iJ K H b a xs/\i=xs.length⟩
theorem yg{A:Around}(h:A.handled=none):A.in1.handled=none:=h
theorem Yce{P:ao}{w:World}{K:gc}{es:List Expr}{kt:Nat}{pt:Pos}{b1 b2:Bool}{a1 a2 z TI TO i1 i2:af}(Z:∀ m,(∀ a∈[a1,a2],a<m)->(∀ a∈[z,TI,TO,i1,i2],m<=a)->lR z TI TO i1 i2 [i1,a1] [i2,a2])
  (m:Nat) (h1:∀ a∈[a1,a2],a<m) (h2:∀ a∈[z,TI,TO,i1,i2],m<=a) :
  Turn P w K (.Tuple es kt pt) (DJ K b1 b2 a1 a2) [z,TI,TO,i1,i2] z (λi h=>cU h z TI TO .none/\aE h TI (.ref i1) (.ref i2)/\(∃ a b,aE h TO a b)/\dn h b1 i1 a1 i/\dn h b2 i2 a2 i) where
 mem:=by simp
 obj:=λi h ⟨e1,e2,⟨a,b,e3⟩,e4,e5⟩ c hc=>by
  simp only[ua,uc,or_false] at hc
  rcases hc with rfl|rfl|rfl|rfl|rfl
  ·exact⟨_,e1,λv q=>nomatch q⟩
  ·exact⟨_,e2,λv q=>nomatch q⟩
  ·exact⟨_,e3,λv q=>nomatch q⟩
  ·exact e4.obj
  ·exact e5.obj
 keep:=λi h h' ⟨e1,e2,⟨a,b,e3⟩,e4,e5⟩ k=>⟨k z (by simp) _ e1,k TI (by simp) _ e2,⟨a,b,k TO (by simp) _ e3⟩,e4.keeps λo e=>k i1 (by simp) o e,e5.keeps λo e=>k i2 (by simp) o e⟩
 item:=by
  intro X hP hw hK hc i pins s σ H E I hf ⟨e1,e2,⟨a,b,e3⟩,e4,e5⟩ hg;subst hP hw hK;obtain⟨xs,ys,q1,q2,l1,l2⟩:=hg;obtain⟨fB,v1,p1,_⟩:=Zk I q1;obtain⟨eP,v2,p2,_⟩:=Zk I q2;have ZZ:=Z m h1 h2;have n1:a1≠i1:=Xc (Uc (h1 a1 (by simp)) (h2 i1 (by simp)));have n2:a2≠i2:=Xc (Uc (h1 a2 (by simp)) (h2 i2 (by simp)));have D1:=Zq (prog:=X.prog) (w:=X.w) (yg (I.ok.hd hc)) b1 i1 a1 n1 fB.toArray;have D2:=Zq (prog:=X.prog) (w:=X.w) (yg (I.ok.hd hc)) b2 i2 a2 n2 eP.toArray;have ny:=v1.length;have pN:=v2.length;refine YJ ZZ D1 D2 e1 e2 e3 ⟨e4,p1⟩ ⟨e5,p2⟩ (by simp;lia) (by simp;lia) λx y g tk px py f1 f2 f3 f4 f5 f6 f7=>⟨_,rfl,?_⟩;refine wpAny_letOwnedTupleGo_zip (s:={s with heap:=g,toks:=tk}) f1 λg' f8 f9=>?_;obtain⟨x1,oP⟩:∃ x1,xs[i]?=some x1:=⟨xs[i],by simp[l1]⟩;obtain⟨y1,Av⟩:∃ y1,ys[i]?=some y1:=⟨ys[i],by simp[l2]⟩;obtain⟨u1,Ay,r1⟩:=v1.get oP;obtain⟨u2,F8,r2⟩:=v2.get Av;have ex:x=u1:=by have z:fB.toArray[i]?=some x:=px;simp[Ay] at z;exact z.symm
  have ey:y=u2:=by have z:eP.toArray[i]?=some y:=py;simp[F8] at z;exact z.symm
  subst ex ey;have JE:z≠s.heap.objs.size:=Xc (Va e1);have I1:Inv X pins σ H {s with heap:=g',toks:=tk}:=qm (ch:=[z,TI,TO,i1,i2]) I hf λc o dy e=>by
   simp only[ua,uc,or_false,not_or] at dy;exact(f9.2 c dy.1).trans (f7 c o dy.1 dy.2.2.1 dy.2.2.2.1 dy.2.2.2.2 e)
  have fT:=I.ie (b:=s.heap.objs.size) (vb _) (I.aR.fresh (vb _));have gT:g'.get? s.heap.objs.size=some {cls:=.type "tuple",data:=.seq #[x,y]}:=(f9.2 _ (Gd JE)).trans f5;have I2:Inv X pins σ (upd H s.heap.objs.size (.tup [x1,y1])) {s with heap:=g',toks:=tk}:=qP I1 fT I.sz ⟨by show 2<=sizeLine;decide,[x,y],.cons r1 (.cons r2 .nil),⟨_,gT,rfl,_,rfl⟩⟩;have kz:∀ c∈[TI,TO,i1,i2],c≠z:=λc dy=>by
   simp only[ua,uc,or_false] at dy
   rcases dy with rfl|rfl|rfl|rfl
   ·exact ZZ.Cb
   ·exact ZZ.lC
   ·exactλq=>ZZ.z1 (q ▸ ZZ.m1)
   ·exactλq=>ZZ.z2 (q ▸ ZZ.m2)
  refine⟨.ref s.heap.objs.size,_,I2,rfl,⟨_,x1,y1,rfl,fT.1,rfl,λzs hz=>by rw[zv I hz q1];exact oP,λzs hz=>by rw[zv I hz q2];exact Av⟩,
   ⟨f8,(f9.2 TI (kz TI (by simp))).trans (f7 TI _ ZZ.Cb ZZ.rz ZZ.Et ZZ.Es e2),⟨x,y,(f9.2 TO (kz TO (by simp))).trans f2⟩,f3.1.keeps λo e=>(f9.2 i1 (kz i1 (by simp))).trans e,f4.1.keeps λo e=>(f9.2 i2 (kz i2 (by simp))).trans e⟩,λc dy=>?_⟩
  have lt:c<s.heap.objs.size:=by
   simp only[ua,uc,or_false] at dy
   rcases dy with rfl|rfl|rfl|rfl|rfl
   ·exact Va e1
   ·exact Va e2
   ·exact Va e3
   ·exact let ⟨o,e,_⟩:=e4.obj;Va e
   ·exact let ⟨o,e,_⟩:=e5.obj;Va e
  rw[yd (Xc lt)];exact(hf c dy).1
 done:=by
  intro X hP hw hK hc i pins s σ H E I hf ⟨e1,e2,⟨a,b,e3⟩,e4,e5⟩ hg;subst hP hw hK;obtain⟨xs,ys,q1,q2,hk⟩:=hg;obtain⟨fB,v1,p1,_⟩:=Zk I q1;obtain⟨eP,v2,p2,_⟩:=Zk I q2;have ZZ:=Z m h1 h2;have n1:a1≠i1:=Xc (Uc (h1 a1 (by simp)) (h2 i1 (by simp)));have n2:a2≠i2:=Xc (Uc (h1 a2 (by simp)) (h2 i2 (by simp)));have D1:=Zq (prog:=X.prog) (w:=X.w) (yg (I.ok.hd hc)) b1 i1 a1 n1 fB.toArray;have D2:=Zq (prog:=X.prog) (w:=X.w) (yg (I.ok.hd hc)) b2 i2 a2 n2 eP.toArray;have ny:=v1.length;have pN:=v2.length;refine ZL ZZ D1 D2 e1 e2 e3 ⟨e4,p1⟩ ⟨e5,p2⟩ (by simp;lia) λg tk k=>⟨rfl,?_⟩;exact qm (ch:=[z,TI,TO,i1,i2]) I hf λc o dy e=>by
   simp only[ua,uc,or_false,not_or] at dy;exact k c o dy.1 dy.2.2.1 dy.2.2.2.1 dy.2.2.2.2 e
 self:=λ_ _ _ _ _ st h=>eK st.1 h
theorem zbQ{P:ao}{w:World}{K:gc}{es:List Expr}{kt:Nat}{pt:Pos}{b:Bool}{a e it:af}(h1:a≠it)(h2:a≠e)(h3:e≠it) :
  Turn P w K (.Tuple es kt pt) (Jz K b a) [e,it] e (λi h=>(∃ old,IsEnum h e it i old)/\dn h b it a i) where
 mem:=by simp
 obj:=λi h ⟨⟨old,e1⟩,e2⟩ c hc=>by
  simp only[ua,uc,or_false] at hc
  rcases hc with rfl|rfl
  ·exact⟨_,e1,λv q=>nomatch q⟩
  ·exact e2.obj
 keep:=λi h h' ⟨⟨old,e1⟩,e2⟩ k=>⟨⟨old,k e (by simp) _ e1⟩,e2.keeps λo q=>k it (by simp) o q⟩
 item:=by
  intro X hP hw hK hc i pins s σ H E I hf ⟨⟨old,e1⟩,e2⟩ hg;subst hP hw hK;obtain⟨xs,q1,l1⟩:=hg;obtain⟨fB,v1,p1,_⟩:=Zk I q1;have D1:=Zq (prog:=X.prog) (w:=X.w) (yg (I.ok.hd hc)) b it a h1 fB.toArray;have ny:=v1.length;refine wpAny_pyNext_enum_itemD D1 e1 ⟨e2,p1⟩ (by simp;lia) h3 (by simp[h3,Gd h2]) λx g tk px f1 f2 f3 f4 f5=>⟨_,rfl,?_⟩;refine wpAny_letOwnedTupleGo_enum (s:={s with heap:=g,toks:=tk+1}) f1 λg' f6 f7=>?_;obtain⟨x1,oP⟩:∃ x1,xs[i]?=some x1:=⟨xs[i],by simp[l1]⟩;obtain⟨u1,Ay,r1⟩:=v1.get oP;have ex:x=u1:=by have z:fB.toArray[i]?=some x:=px;simp[Ay] at z;exact z.symm
  subst ex;have elt:e≠s.heap.objs.size:=Xc (Va e1);have I1:Inv X pins σ H {s with heap:=g',toks:=tk+1}:=qm (ch:=[e,it]) I hf λc o dy q=>by
   simp only[ua,uc,or_false,not_or] at dy;exact(f7.2 c dy.1).trans (f5 c o dy.1 dy.2 q)
  have fT:=I.ie (b:=s.heap.objs.size) (vb _) (I.aR.fresh (vb _));have gT:g'.get? s.heap.objs.size=some {cls:=.type "tuple",data:=.seq #[.int i tk,x]}:=(f7.2 _ (Gd elt)).trans f3;have I2:Inv X pins σ (upd H s.heap.objs.size (.tup [.int i,x1])) {s with heap:=g',toks:=tk+1}:=qP I1 fT I.sz ⟨by show 2<=sizeLine;decide,[.int i tk,x],.cons ⟨_,rfl⟩ (.cons r1 .nil),⟨_,gT,rfl,_,rfl⟩⟩;refine⟨.ref s.heap.objs.size,_,I2,rfl,⟨_,x1,rfl,fT.1,rfl,λzs hz=>by rw[zv I hz q1];exact oP⟩,⟨⟨_,by have q:=f6;exact q⟩,f2.1.keeps λo q=>(f7.2 it (Gd h3)).trans q⟩,λc dy=>?_⟩;have lt:c<s.heap.objs.size:=by
   simp only[ua,uc,or_false] at dy
   rcases dy with rfl|rfl
   ·exact Va e1
   ·exact let ⟨o,q,_⟩:=e2.obj;Va q
  rw[yd (Xc lt)];exact(hf c dy).1
 done:=by
  intro X hP hw hK hc i pins s σ H E I hf ⟨⟨old,e1⟩,e2⟩ hg;subst hP hw hK;obtain⟨xs,q1,hk⟩:=hg;obtain⟨fB,v1,p1,_⟩:=Zk I q1;have D1:=Zq (prog:=X.prog) (w:=X.w) (yg (I.ok.hd hc)) b it a h1 fB.toArray;have ny:=v1.length;refine wpAny_pyNext_enum_endD D1 e1 (by rw[show fB.toArray.size=i from by simp;lia];exact⟨e2,p1⟩) λg k=>⟨rfl,?_⟩;exact qm (t':=s.toks) (ch:=[e,it]) I hf λc o dy q=>by
   simp only[ua,uc,or_false,not_or] at dy;exact k c o dy.2 q
 self:=λ_ _ _ _ _ st h=>let ⟨_,e1⟩:=st.1;hG e1 h
end
section
variable {X:Cx}
theorem Ma{tg:Expr}{J:It}{fp:List af}{it:af}{tn:Nat->Heap->Prop}(hc:X.calm=true)(T:Turn X.prog X.w X.K tg J fp it tn):O9 X tg J fp it tn :=
 λY e1 e2 e3 e4 e5 i pins s σ H E I f t g=>by
  have q:=T.item Y e1 e2 e3 (e4.trans hc) i pins s σ H E I f t g;rw[e5] at q;exact q
theorem JP{tg:Expr}{J:It}{fp:List af}{it:af}{tn:Nat->Heap->Prop}(hc:X.calm=true)(T:Turn X.prog X.w X.K tg J fp it tn):JI X J fp it tn :=
 λY e1 e2 e3 e4 e5 _ i pins s σ H E I f t g=>by
  have q:=T.done Y e1 e2 e3 (e4.trans hc) i pins s σ H E I f t g;rw[e5] at q;exact q
variable {elt iter tg:Expr} {ifs:List Expr} {cs:aA} {pos:Pos} {wi:TI} {g:TG} {tc:TT} {te:TE}
theorem Qcn(N':List Str)(bW:Nat)(js:List Nat)(aR:Yx X.env.scope X.N cs N' bW js=true)(hc:X.calm=true)(hi:PI X tg iter wi)(hg:∀ C s3 H ex,PG (iC X cs N' C s3 H ex) tg g)(oV:∀ C s3 H ex,mR (iC X cs N' C s3 H ex) ifs tc)
  (ku:∀ C s3 H ex,PE (iC X cs N' C s3 H ex) elt te) (hs:∀ x,cH iter X.env x=pure x:=by intro _;rfl):PE X (.ListComp elt [⟨tg,iter,ifs,0⟩] cs pos) (Iu wi bW js g tc te):=by
 intro pins s σ H Q I h;have ok:=iE.of aR;rw[eval_ListComp];refine eB (use:=none) rfl hs (Ml λy hy e=>I.ok.has y.1 (ok.free y hy e)) ok.kind ok.locs (bf (hi pins s σ H _ I h) λv s1 h1=>bf h1 λCG s2 h2=>?_);obtain⟨it,fp,tn,J,H2,e,I2,T,k9,f2,W,w0,turn⟩:=h2;subst e;refine OT (Q:=Q) (RR:=λacc C=>compPost (aq X.prog X.w) X.A X.xe none (EP X pins σ Q) acc C) ok hg oV ku I2 T.mem T.obj T.keep (Ma hc T) (JP hc T) T.self k9 f2 W w0 turn λD C acc H' s6 IX fC zC hm q=>?_;obtain⟨m,hm⟩:=hm;refine⟨m,hm,λh' sb=>⟨.ref D,_,?_,rfl,q⟩⟩;exact qm (t':=s6.toks) (ch:=[C]) IX (λb hb=>by obtain rfl:=Ud.mp hb;exact fC) λb o hb e=>(sb.2 b λz=>hb (by simp[z])).trans e
theorem Ycw{i:Nat}{x:Str}{pos' u9:Pos}(hN:X.N.Nodup)(l7:X.N[i]?=some x)(hx:Loc X.env.scope x)(N':List Str)(bW:Nat)(js:List Nat)(aR:Yx X.env.scope X.N cs N' bW js=true)(hc:X.calm=true)(hi:PI X tg iter wi)
  (hg:∀ C s3 H ex,PG (iC X cs N' C s3 H ex) tg g) (oV:∀ C s3 H ex,mR (iC X cs N' C s3 H ex) ifs tc) (ku:∀ C s3 H ex,PE (iC X cs N' C s3 H ex) elt te)
  (pM:bc (.ListComp elt [⟨tg,iter,ifs,0⟩] cs pos) (some (.Name x pos')) u9.line X.env=pure true:=by rfl) (hs:∀ x,cH iter X.env x=pure x:=by intro _;rfl)
  (hf:X.fn x=true\/X.env.scope.names.lookup x=some .local:=by first|exact .inl rfl|exact .inr rfl|assumption) :
  PS X (.Assign [.Name x pos'] (.ListComp elt [⟨tg,iter,ifs,0⟩] cs pos) u9) (u3 (Iu wi bW js g tc te) (Io i)):=by
 intro pins s σ H D0 I h;have ok:=iE.of aR;rw[exec_Assign_Name_used _ _ _ _ pM];refine ae (gA (ae ?_));show ah _ X.A (do let _<-comprehension (.ListComp elt [⟨tg,iter,ifs,0⟩] cs pos) cs X.env _ (newList []) false (eval iter X.env) (some (eG (.Name x pos') X.env))) _ _ s;refine ae (bM (eB (use:=some (eG (.Name x pos') X.env)) (Q:=λ_ s'=>SP X pins D0 .next s') rfl hs (Ml λy hy e=>I.ok.has y.1 (ok.free y hy e)) ok.kind ok.locs (bf (hi pins s σ H _ I h) λv s1 h1=>bf h1 λCG s2 h2=>?_))
  (λ_ s' hq=>ag (ag hq)) λ_ _ e=>e)
 obtain⟨it,fp,tn,J,H2,e,I2,T,k9,f2,W,w0,turn⟩:=h2;subst e;refine OT (Q:=λv H'=>Io i v σ H' D0.nx) (RR:=λacc C=>compPost (aq X.prog X.w) X.A X.xe (some (eG (.Name x pos') X.env)) (λ_ s'=>SP X pins D0 .next s') acc C) ok hg oV ku I2 T.mem T.obj T.keep (Ma hc T) (JP hc T) T.self k9 f2 W w0 turn λD C acc H' s6 IX fC zC hm q=>?_;obtain⟨m,hm⟩:=hm;obtain⟨oC,esC,epC,gC,dC,rC⟩:=id hm;have nc:∀ v,oC.data≠.cell v:=λv z=>by rw[dC] at z;cases z
 have IXp:=IX.pinned (fp:=[C]) (λb hb=>by obtain rfl:=Ud.mp hb;exact fC) (λb hb=>by obtain rfl:=Ud.mp hb;exact⟨oC,gC,nc⟩);show ah (aq X.prog X.w) X.A (eG (.Name x pos') X.env (.ref D)) _ X.xe s6;refine bf (Mc hN l7 hx hf _ s6 σ _ (.ref D) (.ref D) _ IXp rfl q) λ_ s7 ⟨σ7,H7,I7,q7⟩=>?_;obtain⟨g7,d7⟩:=Zn I7 (uf _ (Zr (Ud.mpr rfl) gC));refine⟨m,⟨oC,esC,epC,g7,dC,rC⟩,λh' sb=>⟨σ7,H7,?_,q7⟩⟩;obtain⟨_,c1,c2,c3,c4,c5⟩:=fC;exact qm (t':=s7.toks) (ch:=[C]) I7.hV (λb hb=>by obtain rfl:=Ud.mp hb;exact⟨d7,c1,c2,c3,c4,c5⟩) λb o hb e=>(sb.2 b λz=>hb (by simp[z])).trans e
theorem Yw{a b:Nat}(h:a<b\/b<a):a≠b:=by lia
theorem tS{a b c:Nat}(h1:a≠b)(h2:a≠c):(a:af)∉([b,c]:List af):=by
 simp only[ua,uc,or_false,not_or];exact⟨h1,h2⟩
theorem KZ(n a1 a2:Nat)(h1:a1<n)(h2:a2<n):lR (n+4) (n+2) (n+3) n (n+1) [n,a1] [n+1,a2] where
 Cb:=Yw (a:=n+2) (b:=n+4) (by lia)
 lC:=Yw (a:=n+3) (b:=n+4) (by lia)
 rz:=Yw (a:=n+2) (b:=n+3) (by lia)
 Et:=Yw (a:=n+2) (b:=n) (by lia)
 Es:=Yw (a:=n+2) (b:=n+1) (by lia)
 z1:=tS (Yw (by lia)) (Yw (by lia))
 z2:=tS (Yw (by lia)) (Yw (by lia))
 t1:=tS (Yw (by lia)) (Yw (by lia))
 t2:=tS (Yw (by lia)) (Yw (by lia))
 m1:=by simp
 m2:=by simp
 a1:=tS (Yw (by lia)) (Yw (by lia))
 a2:=tS (Yw (by lia)) (Yw (by lia))
theorem tJ{n b:Nat}(h:(b:af)∈([n+4,n+2,n+3,n,n+1]:List af)):n<=b:=by
 simp only[ua,uc,or_false] at h
 rcases h with h|h|h|h|h <;> (have h':b=_:=h;rw[h'];first|exact VF _ _|exact vb _)
theorem Ny{n b:Nat}(h:(b:af)∈([n+1,n]:List af)):n<=b:=by
 simp only[ua,uc,or_false] at h
 rcases h with h|h <;> (have h':b=_:=h;rw[h'];first|exact VF _ _|exact vb _)
noncomputable def rX(K:gc)(ta:TA):TI:=λσ H R=>ta σ H λvs H1=>∃ b1 b2 a1 a2,vs=[.ref a1,.ref a2]/\(∃ xs,iJ K H1 b1 a1 xs)/\(∃ ys,iJ K H1 b2 a2 ys)/\R (DJ K b1 b2 a1 a2) H1
noncomputable def Pc(K:gc)(ta:TA):TI:=λσ H R=>ta σ H λvs H1=>∃ b a,vs=[.ref a]/\(∃ xs,iJ K H1 b a xs)/\R (Jz K b a) H1
theorem qcF{a b:Expr}{ta:TA}{p pos:Pos}{es:List Expr}{kt:Nat}{pt:Pos}(hg:Gl X "zip")(hm:X.mg "zip"=none)(ha:PA X [a,b] ta)(hs:au [a,b] X.env=[(false,eval a X.env),(false,eval b X.env)]:=by rfl)(gW:au [b] X.env=[(false,eval b X.env)]:=by rfl) :
  PI X (.Tuple es kt pt) (.Call (.Name "zip" p) [a,b] [] pos) (rX X.K ta):=by
 intro pins s σ H R I h;refine k8 (yI I hg hm boot_zip (Jf (bf (ha pos pins s σ H _ I h) λus s1 ⟨vs,H1,I1,r1,q1⟩=>?_) (by rw[hs,gW]) (by rw[gW];rfl)));obtain⟨b1,b2,a1,a2,e,⟨xs,h1⟩,⟨ys,h2⟩,q⟩:=q1;subst e;cases r1 with
 |cons r rr =>
  cases rr with
  |cons r' rr =>
   cases rr;obtain rfl:_=ka a1:=r;obtain rfl:_=ka a2:=r';obtain⟨fB,v1,p1,_⟩:=Zk I1 h1;obtain⟨eP,v2,p2,_⟩:=Zk I1 h2;have l1:=p1.lt;have l2:=p2.lt;refine JK p1 p2 λg f1 f2 f3 f4 f5 f6=>?_;refine eK f1 ?_;refine⟨s1.heap.objs.size+4,[s1.heap.objs.size+4,s1.heap.objs.size+2,s1.heap.objs.size+3,s1.heap.objs.size,s1.heap.objs.size+1],_,_,H1,rfl,I1.kept (t':=s1.toks) f6,Yce (b1:=b1) (b2:=b2) (a1:=a1) (a2:=a2) (λ_ _ _=>KZ _ a1 a2 l1 l2) s1.heap.objs.size (λa oX=>?_) (λa oX=>tJ oX),⟨f1,f2,⟨_,_,f3⟩,f4,f5⟩,λb hb=>I1.ie (tJ hb) (I1.aR.fresh (tJ hb)),q⟩;simp only[ua,uc,or_false] at oX
   rcases oX with rfl|rfl <;> assumption
theorem zcp{a:Expr}{ta:TA}{p pos:Pos}{es:List Expr}{kt:Nat}{pt:Pos}(hg:Gl X "enumerate")(hm:X.mg "enumerate"=none)(ha:PA X [a] ta)(hs:au [a] X.env=[(false,eval a X.env)]:=by rfl) :
  PI X (.Tuple es kt pt) (.Call (.Name "enumerate" p) [a] [] pos) (Pc X.K ta):=by
 intro pins s σ H R I h;refine k8 (yI I hg hm boot_enumerate (Jf (bf (ha pos pins s σ H _ I h) λus s1 ⟨vs,H1,I1,r1,q1⟩=>?_) hs rfl));obtain⟨b,l,e,⟨xs,h1⟩,q⟩:=q1;subst e;cases r1 with
 |cons r rr =>
  cases rr;obtain rfl:_=ka l:=r;obtain⟨fB,v1,p1,_⟩:=Zk I1 h1;have l1:=p1.lt;refine ybO p1 λg f1 f2 f3=>?_;refine hG f1 ?_;exact⟨s1.heap.objs.size+1,[s1.heap.objs.size+1,s1.heap.objs.size],_,_,H1,rfl,I1.kept (t':=s1.toks) f3,zbQ (b:=b) (a:=l) (Xc l1) (Xc (Vq l1)) (Xl (Vl _)),⟨⟨_,f1⟩,f2⟩,λc hc=>I1.ie (Ny hc) (I1.aR.fresh (Ny hc)),q⟩
end
noncomputable def kH(P:ao)(w:World):lV:=λouter H s E e s'=>∃ x C t tb H',e=.ref x/\s'.os=s.os/\dD s'.gens/\Un (mz outer) [] H H' s.heap s'.heap/\fu P w H' s'.heap/\s'.heap.get? x=some (pk C t tb)/\Tb s'.heap x tb /\
 H' x=none/\s.heap.get? x=none/\(∀ T,tb=.ref T->H' T=none/\s.heap.get? T=none)/\E (.ref C) none H'
structure sM (X:Cx) (pins:List (af×Obj)) (H:Hp) (b:af):Prop where
 un:H b=none
 loc:b≠X.env.locals
 fs:b∉X.fs
 new:X.s₀.heap.get? b=none
 cell:∀ x c,X.env.cells.lookup x=some c->c≠b
 pin:∀ p∈X.pn++pins,p.1≠b
def Ia(X:Cx)(E:XK):Prop:=∀(pins:List (af×Obj)) (σ:L2.St) (H:Hp) (s:Shared) (x C t:af) (tb:Value),Inv X pins σ H s->s.heap.get? x=some (pk C t tb)->Tb s.heap x tb->sM X pins H x->(∀ T,tb=.ref T->sM X pins H T)->E (.ref C) none H->X.xe (.ref x) s
section
variable {X:Cx} {pins:List (af×Obj)} {σ:L2.St} {H H':Hp} {s:Shared}
theorem My{b:af}(I:Inv X pins σ H s)(hx:X.ex=[])(hb:s.heap.get? b=none)(hn:H' b=none):sM X pins H' b:=by
 have al:∀{c o},s.heap.get? c=some o->c≠b:=λ{c o} e z=>by rw[z,hb] at e;cases e
 refine⟨hn,λz=>?_,λz=>?_,?_,λx c e=>?_,λp hp=>al (I.pin p hp).1⟩
 ·obtain⟨m,⟨o,_,_,e,_⟩,_⟩:=I.loc;exact al e z.symm
 ·obtain⟨_,o,e,_⟩:=I.i9.mem z;exact al e rfl
 ·cases q:X.s₀.heap.get? b with
  |none=>rfl
  |some o =>
   obtain⟨o',e⟩:=I.base.there b o q (by rw[hx];exactλz=>nomatch z);exact absurd rfl (al e)
 ·obtain⟨v,o,e,_⟩:=I.cell x c e;exact al e
theorem ybL{E:XK}(hx:X.ex=[])(T:Ia X E):zcF (kH X.prog X.w) X E:=by
 intro pins σ H s e s' I h;obtain⟨x,C,t,tb,H',rfl,os,bare,un,aR,e1,e2,e3,e4,e5,q⟩:=h;have I':Inv X pins σ H' s':=I.pZ (ch:=[]) os un aR bare λb z=>nomatch z;exact T pins σ H' s' x C t tb I' e1 e2 (My I hx e4 e3) (λT' z=>My I hx (e5 T' z).2 (e5 T' z).1) q
theorem zbI{P:ao}{w:World}{h h':Heap}{fs:List af}{x:af}{tb:Value}(ok:fu P w H h)(n:md fs x tb h h')(hf:∀ b∈fs,H b=none)(hx:H x=none)(ht:∀ T,tb=.ref T->H T=none):fu P w H h':=λb u e=>by
 have go:∀ c v,H c≠none->h.get? c=some v->h'.get? c=some v:=λc v hc q=>n.keep c v (λz=>hc (hf c z)) (λz=>hc (z ▸ hx)) (λz=>hc (ht c z.symm)) q;refine(ok b u e).kI (λc v hc q=>go c v ?_ q) (λ_ q=>q) λ_ _ q=>q
 rcases hc with z|z
 ·rw[z,e];exactλz=>nomatch z
 ·rw[z];exactλz=>nomatch z
theorem J6{h h':Heap}{fs:List af}{x:af}{tb:Value}{b:af}{o:Obj}(n:md fs x tb h h')(h1:b≠x)(h2:ka b≠tb)(e:h.get? b=some o):∃ sl,h'.get? b=some {o with slots:=sl}:=by
 by_cases z:b∈fs
 ·exact n.slot b o z h1 h2 e
 ·exact⟨o.slots,n.keep b o z h1 h2 e⟩
theorem yb1{fs C6 ex:List af}{H0:Hp}{h0 h h':Heap}{x:af}{tb:Value}(u:Un fs ex H0 H h0 h)(n:md C6 x tb h h')(hx:h0.get? x=none)(ht:∀ T,tb=.ref T->h0.get? T=none)(hs:∀ b o,h0.get? b=some o->b∉fs->b∉C6):Un fs ex H0 H h0 h':=by
 have ne:∀ b o,h0.get? b=some o->b≠x/\ka b≠tb:=λb o e=>⟨λz=>(by rw[z,hx] at e;cases e),λz=>(by rw[ht b z.symm] at e;cases e)⟩;refine⟨λb o e q hb kQ=>n.keep b o (hs b o e hb) (ne b o e).1 (ne b o e).2 (u.keep b o e q hb kQ),λb o e q hb kQ=>?_,u.free,λb o e kQ=>?_,u.jE,u.ju,u.jG⟩
 ·obtain⟨sl,z⟩:=u.slot b o e q hb kQ;obtain⟨Cg,z'⟩:=J6 n (ne b o e).1 (ne b o e).2 z;exact⟨Cg,z'⟩
 ·obtain⟨o',z⟩:=u.there b o e kQ;obtain⟨Cg,z'⟩:=J6 n (ne b o e).1 (ne b o e).2 z;exact⟨_,z'⟩
theorem QbI(I:Inv X pins σ H s){b:af}{o:Obj}(e:X.s₀.heap.get? b=some o)(hb:b∉X.fs):b∉mz X.stack:=λz=>by
 rcases ua.mp (I.iu b z) with y|y
 ·exact absurd (Uc (Va e) I.ok.above) (by rw[y];exact Vi _)
 ·exact hb y
end
theorem Om{P:ao}{w:World}{K:gc}{mg:Str->Option Value}{base:Heap}{N:List Str}{qual:Str}{scope:aA}{f:af}{cd:Value}{A:Around}{outer:List Env}{s0:Shared}{H0:Hp}{E:XK} :
  Ia (mP (kH P w) P w K mg base N qual scope f cd A outer s0 H0 E) E:=by
 intro pins σ H s x C t tb I e1 e2 fx ft q;refine ZbJ (env:=eF qual scope s0.heap.objs.size f cd) (outer:=outer) (L:=s0.heap.objs.size) I.ok.frames I.stack rfl e1 e2 λh' T n g1 g2 g3=>?_;refine⟨x,C,t,.ref T,H,rfl,I.os,I.bare,yb1 I.base n fx.new (λT z=>(ft T z).new) λb o e hb=>QbI I e hb,zbI I.aR n I.j1 fx.un λT z=>(ft T z).un,g1,g2,fx.un,fx.new,λT' z=>?_,q⟩;cases z;exact⟨I.aR.fresh g3,VB (Xe I.sz g3)⟩
theorem zco{P:ao}{w:World}{K:gc}{mg:Str->Option Value}{base:Heap}{N:List Str}{qual:Str}{scope:aA}{f:af}{cd:Value}{A:Around}{outer:List Env}{s0:Shared}{H0:Hp}{E:XK}{CX:lV} :
  iD (aq P w) (mP CX P w K mg base N qual scope f cd A outer s0 H0 E).A (mP CX P w K mg base N qual scope f cd A outer s0 H0 E).env (mP CX P w K mg base N qual scope f cd A outer s0 H0 E).xe:=iD.leaving
abbrev bmV:List Value:=[.type "ValueError",.type "Exception",.type "BaseException",.type "object"]
def nN(K:gc)(C:af):Prop:=PySem.W.excIn K C bmV "ValueError.__new__"=true
noncomputable def Dy(K:gc)(C:af):List Value:=match K.lookup C with
 |some ⟨_,_,.cls cd,_⟩=>cd.mro.tail
 |_=>[]
structure BW (K:gc) (C:af):Prop where
 q:nN K C
 ga:Ve K (.ref C) "__getattribute__"=some (some (.builtin "BaseException.__getattribute__"))
 gt:Ve K (.ref C) "__getattr__"=some none
 cl:Ve K (.ref C) "__class__"=some (some (.builtin "object.__class__"))
 gn:Uq K (.builtin "object.__class__") "__get__"=some (some (.builtin "getset_descriptor.__get__"))
 tk:Xt K (.builtin "object.__class__")=some true
 mo:Wy K C (.type "object")=some true
 ci:(Xy K C).isSome=true
section
variable {X:Cx} {pins pl:List (af×Obj)} {σ σ0:L2.St} {H:Hp} {s:Shared} {E:XK}
def Zz(CX:lV)(X:Cx)(σ:L2.St)(E:XK):Prop:=∀(pins:List (af×Obj)) (H:Hp) (s:Shared) (e:Value) (s':Shared),Inv X pins σ H s->CX X.stack H s E e s'->X.xe e s'
end
section
variable {X:Cx} {CX:lV} {k:Nat} {f C:af} {fd:a8} {ps:List Str} {sp:Sp} {lu:List V} {ds:List Value} {E:XK} {x m:Str} {p pos apos:Pos} {e o:Expr} {es:List Expr} {ta:TE} {t:TA} {σ0:L2.St}
theorem Qcr{pins:List (af×Obj)}{H:Hp}{s:Shared}{Q:VK}{us:List Value}{vs:List V}(F:fk X.prog X.w X.K X.mg X.base CX k f fd ps sp)(hr:dw k X.A)(hb:Binds X.K fd ps ds)(hd:Vals lu ds)(hx:Zz CX X σ0 E)
  (I:Inv X pins σ0 H s) (r:Vals vs us) (h:sp (vs++lu) H Q E):ah (aq X.prog X.w) X.A (call (.ref f) us) (EP X pins σ0 Q) X.xe s:=by
 have r2:Vals (vs++lu) (us++ds):=r.append hd;have hl:(us++ds).length=ps.length:=by rw[<- r2.length];exact F.len _ _ _ _ h
 refine gL (cQ (F.run X.A X.stack s H ⟨us,[]⟩ (us++ds) (vs++lu) Q E hr I.A3 (hb s us I.iP hl) r2 h) λr s' hq=>?_);cases r with
 |error e=>exact hx pins H s e s' I hq
 |ok fl =>
  cases fl with
  |ret u=>exact I.after hq
  |next=>exact Kh hq
  |brk=>exact Kh hq
  |cont=>exact Kh hq
noncomputable def Ow(σ0:L2.St)(sp:Sp)(lu:List V)(E:XK)(t:TA):TE:=λσ H Q=>σ=σ0/\t σ H λvs H1=>sp (vs++lu) H1 Q E
theorem KQ(F:fk X.prog X.w X.K X.mg X.base CX k f fd ps sp)(hr:dw k X.A)(hg:Gl X x)(hm:X.mg x=some (.ref f))(hk:Ug X.K (.ref f)=true)(hb:Binds X.K fd ps ds)(hd:Vals lu ds)(hx:Zz CX X σ0 E)
  (ha:PA X (e::es) t) (lj:(x==("__debug__":Str))=false:=by decide) (he:au (e::es) X.env=(false,eval e X.env)::au es X.env:=by rfl) (bE:(bV pos (au es X.env)).any (·.1)=false:=by rfl) :
  PE X (.Call (.Name x p) (e::es) [] pos) (Ow σ0 sp lu E t):=by
 intro pins s σ H Q I h;obtain(⟨rfl,h⟩):=h;refine bD (Dz I hg hm ?_ lj);refine XD (h₀:=X.base) I.ok.mod.CF hk (bf (ha pos pins s σ H _ I h) λus s1 ⟨vs,H1,I1,r,q⟩=>⟨I1.iP,?_⟩) he bE;exact Qcr F hr hb hd hx I1 r q
theorem qbM{pins:List (af×Obj)}{H:Hp}{s:Shared}{Q:VK}{us:List Value}{vs:List V}(M:Mk X.K C f)(F:fk X.prog X.w X.K X.mg X.base CX k f fd ps sp)(hr:dw (k+1) X.A)(hb:Binds X.K fd ps ds)(hd:Vals lu ds)
  (hx:Zz CX X σ0 E) (I:Inv X pins σ0 H s) (r:Vals vs us)
  (h:∀ x dx,H x=none->H dx=none->dx≠x->sp (.ref x::(vs++lu)) (upd (upd H dx (.own x)) x (.ins C dx [])) (λv H2=>v=.a9/\Q (.ref x) H2) E) :
  ah (aq X.prog X.w) X.A (call (.ref C) us) (EP X pins σ0 Q) X.xe s:=by
 have hq:=h (s.heap.objs.size+1) s.heap.objs.size (I.aR.fresh (Ux _)) (I.aR.fresh (vb _)) (Xc (Vl _));have I2:=Inv.made (C:=C) I;have r2:Vals (V.ref (s.heap.objs.size+1)::(vs++lu)) (ka (s.heap.objs.size+1)::(us++ds)):=.cons rfl (r.append hd);have hl:(ka (s.heap.objs.size+1)::us++ds).length=ps.length:=by
  have e:=r2.length;rw[F.len _ _ _ _ hq] at e;exact e.symm
 refine gL (zbY (f:=f) I.iP M.makes M.init (beq_iff_eq.mp M.fn) (cQ (F.run _ X.stack _ _ ⟨ka (s.heap.objs.size+1)::us,[]⟩ (ka (s.heap.objs.size+1)::(us++ds)) _ _ E (hr.make C us [])
  (I2.A3.make C us []) (hb _ (ka (s.heap.objs.size+1)::us) I2.iP hl) r2 hq) λr s' AG=>?_))
 cases r with
 |error e=>exact hx pins _ _ e s' I2 AG
 |ok fl =>
  cases fl with
  |ret u =>
   obtain⟨v,H',I3,rv,ev,q3⟩:=I2.after AG;subst ev;exact⟨rv,⟨V.ref (s.heap.objs.size+1),H',I3,rfl,q3⟩⟩
  |next=>exact Kh AG
  |brk=>exact Kh AG
  |cont=>exact Kh AG
noncomputable def K2(σ0:L2.St)(C:af)(sp:Sp)(lu:List V)(E:XK)(t:TA):TE:=λσ H Q=>σ=σ0/\t σ H λvs H1=>∀ x dx,H1 x=none->H1 dx=none->dx≠x ->
 sp (.ref x::(vs++lu)) (upd (upd H1 dx (.own x)) x (.ins C dx [])) (λv H2=>v=.a9/\Q (.ref x) H2) E
theorem ych(M:Mk X.K C f)(F:fk X.prog X.w X.K X.mg X.base CX k f fd ps sp)(hr:dw (k+1) X.A)(hg:Gl X x)(hm:X.mg x=some (.ref C))(hb:Binds X.K fd ps ds)(hd:Vals lu ds)(hx:Zz CX X σ0 E)
  (ha:PA X (e::es) t) (lj:(x==("__debug__":Str))=false:=by decide) (he:au (e::es) X.env=(false,eval e X.env)::au es X.env:=by rfl) (bE:(bV pos (au es X.env)).any (·.1)=false:=by rfl) :
  PE X (.Call (.Name x p) (e::es) [] pos) (K2 σ0 C sp lu E t):=by
 intro pins s σ H Q I h;obtain(⟨rfl,h⟩):=h;refine bD (Dz I hg hm ?_ lj);refine XD (h₀:=X.base) I.ok.mod.CF M.kp (bf (ha pos pins s σ H _ I h) λus s1 ⟨vs,H1,I1,r,q⟩=>⟨I1.iP,?_⟩) he bE;exact qbM M F hr hb hd hx I1 r q
end
structure nP (K:gc) (x qual:Str) (st:Stmt) (f:af) (fd:a8):Prop where
 ex:∃(oc:Value)(od:Option af)(dV kV doc pm:Value)(an:Option af)(cE ct:Value) (jL:Array (Option Value)),
  fd=wg x qual (zk st) (Zh st) (yc st) dV kV doc pm an cE ct/\K.lookup f=some ⟨oc,od,.func fd,jL⟩/\uk K cE qual=true
 kp:Ug K (.ref f)=true
theorem D6{K:gc}{x qual:Str}{st:Stmt}{f:af}{oc:Value}{od an:Option af}{jL:Array (Option Value)}{dV kV doc pm cE ct:Value}(l:K.lookup f=some ⟨oc,od,.func (wg x qual (zk st) (Zh st) (yc st) dV kV doc pm an cE ct),jL⟩)
  (c:uk K cE qual=true) (k:Ug K (.ref f)=true):nP K x qual st f (wg x qual (zk st) (Zh st) (yc st) dV kV doc pm an cE ct):=⟨⟨oc,od,dV,kV,doc,pm,an,cE,ct,jL,rfl,l,c⟩,k⟩
structure BL (k:Nat) (A:Around) (x:af):Prop where
 hd:A.handled=some (.ref x)
 dp:A.depth+3*k+5<fH
 un:A.units+16*k+200<dY
structure BV (P:ao) (w:World) (K:gc) (mg:Str->Option Value) (base:Heap) (k:Nat) (f:af) (fd:a8) (ps:List Str) (sp:af->af->Sp):Prop where
 len:∀ x C vs H Q E,sp x C vs H Q E->vs.length=ps.length
 run:∀(x C t T:af)(A:Around)(outer:List Env)(s:Shared)(H:Hp) (args:Args) (us:List Value) (vs:List V) (Q:VK),BL k A x->kZ P w K mg base A outer s H->s.heap.get? x=some (pk C t (.ref T))->H x=none->eA s fd args (ps.zip us)->Vals vs us->sp x C vs H Q E0 ->
  bL (aq P w) A (.call (.ref f) args) (CR CX0 outer P w H s Q E0) s
theorem Y2{prog:ao}{w:World}{A:Around}(hh:A.handled=none)(b:Bool)(I ax:af)(lK:ax≠I)(items:Array Value) :
  kX prog w A I [I,ax] [I] items.size (λi v=>items[i]?=some v) (λi h=>dn h b I ax i/\cR h b ax items):=by
 cases b with
 |false=>exact kX.list hh I ax lK items
 |true =>
  exact{
   sub:=λb hb=>by simp at hb;simp[hb]
   frame:=λ_ _ _ st hk=>⟨st.1.keeps λo e=>hk I (by simp) o e,st.2.keeps λo e=>hk ax (by simp) o e⟩
   item:=λi s Q E hi st hQ=>by
    refine eJ (show s.heap.IsTupleIter I ax i from st.1) (show s.heap.IsTuple ax items from st.2) (x:=items[i]) (by simp[hi]) λh' a sb=>?_;exact hQ _ h' s.toks (by simp[hi]) ⟨a,st.2.keeps λo e=>sb.extBut ax o lK e⟩ λb o hb e=>sb.extBut b o (λz=>hb (by simp[z])) e
   done:=λs Q E st hQ=>eW hh (show s.heap.IsTupleIter I ax items.size from st.1) (show s.heap.IsTuple ax items from st.2) (by simp) λh' he=>hQ h' s.toks λb o hb e=>he b o (λz=>hb (by simp[z])) e
   self:=λ_ _ _ _ st hQ=>eZ (show Heap.IsTupleIter _ I ax _ from st.1) hQ}
theorem Yz{ns:List Int}{us:List Value}(r:Vals (ns.map V.int) us){i:Nat}{v:Value}(h:us.toArray[i]?=some v):∃ t,v=.int (ns.getD i 0) t:=by
 have h':us[i]?=some v:=by simpa using h
 have lt:i<us.length:=(Wa.mp h').1;have hl:=r.length;rw[xc] at hl;obtain⟨u,hu,ru⟩:=r.get (i:=i) (x:=.int (ns.getD i 0)) (by rw[Ua,wb (by lia),Wi,wb (by lia)];rfl);rw[hu] at h';cases h';exact ru
theorem ycs{bs:List Bool}{us:List Value}(r:Vals (bs.map V.bl) us){i:Nat}{v:Value}(h:us.toArray[i]?=some v):v=.bool (bs.getD i true):=by
 have h':us[i]?=some v:=by simpa using h
 have lt:i<us.length:=(Wa.mp h').1;have hl:=r.length;rw[xc] at hl;obtain⟨u,hu,ru⟩:=r.get (i:=i) (x:=.bl (bs.getD i true)) (by rw[Ua,wb (by lia),Wi,wb (by lia)];rfl);rw[hu] at h';cases h';exact ru
theorem OV(ns:List Int):∀ k,k<=ns.length->lF (λi=>ns.getD i 0) k=(ns.take k).sum
 |0,_=>by simp[lF]
 |k+1,h=>by
  have e:ns.take (k+1)=ns.take k++[ns.getD k 0]:=by
   rw[List.take_succ_eq_append_getElem (by lia),Wi,wb (by lia)];rfl
  show lF (λi=>ns.getD i 0) k+ns.getD k 0=_;rw[OV ns k (by lia),e,wq,ul,List.sum_nil,uD]
theorem Qci(bs:List Bool):(va bs.length).all (λi=>bs.getD i true)=bs.all id:=by
 rw[uA,Xj,Xj];constructor
 ·intro h x hx;obtain⟨i,hi,e⟩:=Xs hx;have:=h i (We.mpr hi);rw[Wi,wb hi] at this;rw[<- e];exact this
 ·intro h i hi;rw[Wi,wb (We.mp hi)];exact h _ (Vo _)
theorem IW(val:Nat->Int)(bt:Nat->Nat->Bool)(hb:∀ i j,bt i j=decide (val i<val j)):∀ k,en bt k<=k/\∀ j,j<=k->val (en bt k)<=val j
 |0=>⟨vb _,λj hj=>by
  have:j=0:=by lia
  subst this;exact Ur _⟩
 |k+1=>by
  obtain⟨h1,h2⟩:=IW val bt hb k;show(if bt (k+1) (en bt k) then k+1 else en bt k)<=k+1/\∀ j,j<=k+1->val (if bt (k+1) (en bt k) then k+1 else en bt k)<=val j;rw[hb];by_cases c:val (k+1)<val (en bt k)
  ·simp only[c,decide_true,if_true];refine⟨vb _,λj hj=>?_⟩;by_cases e:j=k+1
   ·rw[e];exact Ur _
   ·have:=h2 j (by lia);lia
  ·simp only[c,decide_false,Wg,if_false];refine⟨by lia,λj hj=>?_⟩;by_cases e:j=k+1
   ·rw[e];lia
   ·exact h2 j (by lia)
theorem Zcl(val:Nat->Int)(bt:Nat->Nat->Bool)(hb:∀ i j,bt i j=decide (val j<val i)):∀ k,en bt k<=k/\∀ j,j<=k->val j<=val (en bt k):=λk=>by
 have h:=IW (λi=>- val i) bt (λi j=>by rw[hb];congr 1;apply propext;constructor <;> intro h <;> lia) k;exact⟨h.1,λj hj=>by have:=h.2 j hj;lia⟩
section
variable {X:Cx}
def vT(K:gc):List V->Hp->VK->Prop:=λxs H Q=>∃(b:Bool)(a:af)(ns:List Int),xs=[.ref a]/\iJ K H b a (ns.map V.int)/\Q (.int ns.sum) H
def v8(K:gc):List V->Hp->VK->Prop:=λxs H Q=>∃(b:Bool)(a:af)(bs:List Bool),xs=[.ref a]/\iJ K H b a (bs.map V.bl)/\Q (.bl (bs.all id)) H
def vV(K:gc):List V->Hp->VK->Prop:=λxs H Q=>∃(b:Bool)(a:af)(ns:List Int),xs=[.ref a]/\iJ K H b a (ns.map V.int)/\ns≠[]/\∀ m,m∈ns->(∀ k∈ns,m<=k)->Q (.int m) H
def vW(K:gc):List V->Hp->VK->Prop:=λxs H Q=>∃(b:Bool)(a:af)(ns:List Int),xs=[.ref a]/\iJ K H b a (ns.map V.int)/\ns≠[]/\∀ m,m∈ns->(∀ k∈ns,k<=m)->Q (.int m) H
theorem ZB{a:af}{us:List Value}(r:Vals [V.ref a] us):us=[ka a]:=by
 cases r with
 |cons r rr =>
  cases rr;obtain rfl:_=ka a:=r;rfl
theorem Eb{s:Shared}{a:af}(h:a<s.heap.objs.size)(o:Obj):∀ b∈[s.heap.objs.size,a],b<(s.heap.push o).objs.size:=λb hb=>by
 rw[vg];simp only[ua,uc,or_false] at hb
 rcases hb with e|e
 ·rw[e];exact Vl _
 ·rw[e];exact Vq h
theorem Zb3(hc:X.calm=true):aH X (.builtin "sum") (vT X.K):=by
 intro pins s σ H xs us Q I r h;obtain⟨b,a,ns,rfl,hq,q⟩:=h;obtain rfl:=ZB r;obtain⟨its,v,p,_⟩:=Zk I hq;have lt:=p.lt;refine call_sum_walkG (Zo p ⟨s.heap.objs.size,[s.heap.objs.size,a],[s.heap.objs.size],its.toArray.size,_,_,λi=>ns.getD i 0,rfl,Y2 (yg (I.ok.hd hc)) b _ a (Xc lt) its.toArray,⟨.new (Xb _ rfl),p.keeps λo e=>wa _ e⟩,Eb lt _,λi u hu=>Yz v hu,λh' tk t' k=>?_⟩);have hl:=v.length;rw[xc] at hl;have e:lF (λi=>ns.getD i 0) its.toArray.size=ns.sum:=by rw[wc,<- hl,OV ns _ (vb _),wm]
 rw[e];exact⟨.int ns.sum,H,I.kept (t':=tk) (λc o e=>k c o (λz=>absurd (Va e) (by simp at z;rw[z];exact Vi _)) (wa _ e)),⟨t',rfl⟩,q⟩
theorem ZbZ(hc:X.calm=true):aH X (.builtin "all") (v8 X.K):=by
 intro pins s σ H xs us Q I r h;obtain⟨b,a,bs,rfl,hq,q⟩:=h;obtain rfl:=ZB r;obtain⟨its,v,p,_⟩:=Zk I hq;have lt:=p.lt;refine call_all_walk (Zo p ⟨s.heap.objs.size,[s.heap.objs.size,a],[s.heap.objs.size],its.toArray.size,_,_,λi=>bs.getD i true,rfl,Y2 (yg (I.ok.hd hc)) b _ a (Xc lt) its.toArray,⟨.new (Xb _ rfl),p.keeps λo e=>wa _ e⟩,λi u s' Q' E' hu hQ=>?_,λh' tk k=>?_⟩)
 ·rw[ycs v hu];exact aN hQ
 have hl:=v.length;rw[xc] at hl;rw[wc,<- hl,Qci];exact⟨.bl _,H,I.kept (t':=tk) (λc o e=>k c o (λz=>absurd (Va e) (by simp at z;rw[z];exact Vi _)) (wa _ e)),rfl,q⟩
theorem Ot{ns:List Int}{i:Nat}(h:i<ns.length):ns.getD i 0∈ns:=by
 rw[Wi,wb h];exact Vo _
theorem Lc{ns:List Int}{k:Int}(h:k∈ns):∃ i,i<ns.length/\ns.getD i 0=k:=by
 obtain⟨i,hi,e⟩:=Xs h;exact⟨i,hi,by rw[Wi,wb hi];exact e⟩
theorem ZbO(hc:X.calm=true):aH X (.builtin "min") (vV X.K):=by
 intro pins s σ H xs us Q I r h;obtain⟨b,a,ns,rfl,hq,ne,q⟩:=h;obtain rfl:=ZB r;obtain⟨its,v,p,_⟩:=Zk I hq;have lt:=p.lt;have hl:=v.length;rw[xc] at hl;have pos:0<ns.length:=xn.mpr ne;refine call_min_walk (Zo p ⟨s.heap.objs.size,[s.heap.objs.size,a],[s.heap.objs.size],its.toArray.size,_,_,λi j=>decide (ns.getD i 0<ns.getD j 0),rfl,Y2 (yg (I.ok.hd hc)) b _ a (Xc lt) its.toArray,⟨.new (Xb _ rfl),p.keeps λo e=>wa _ e⟩,Eb lt _,by simp;lia,λi j vi vj s' Q' E' hi hj hQ=>?_,λu h' tk hu k=>?_⟩)
 ·obtain⟨t1,rfl⟩:=Yz v hi;obtain⟨t2,rfl⟩:=Yz v hj;exact lt_int hQ
 obtain⟨t,rfl⟩:=Yz v hu;obtain⟨b1,b2⟩:=IW (λi=>ns.getD i 0) _ (λ_ _=>rfl) (its.toArray.size-1);rw[wc] at b1 b2 ⊢;refine⟨.int _,H,I.kept (t':=tk) (λc o e=>k c o (λz=>absurd (Va e) (by simp at z;rw[z];exact Vi _)) (wa _ e)),⟨t,rfl⟩,q _ (Ot (by lia)) λm hm=>?_⟩;obtain⟨i,hi,e⟩:=Lc hm;rw[<- e];exact b2 i (by lia)
theorem qbQ(hc:X.calm=true):aH X (.builtin "max") (vW X.K):=by
 intro pins s σ H xs us Q I r h;obtain⟨b,a,ns,rfl,hq,ne,q⟩:=h;obtain rfl:=ZB r;obtain⟨its,v,p,_⟩:=Zk I hq;have lt:=p.lt;have hl:=v.length;rw[xc] at hl;have pos:0<ns.length:=xn.mpr ne;refine call_max_walk (Zo p ⟨s.heap.objs.size,[s.heap.objs.size,a],[s.heap.objs.size],its.toArray.size,_,_,λi j=>decide (ns.getD j 0<ns.getD i 0),rfl,Y2 (yg (I.ok.hd hc)) b _ a (Xc lt) its.toArray,⟨.new (Xb _ rfl),p.keeps λo e=>wa _ e⟩,Eb lt _,by simp;lia,λi j vi vj s' Q' E' hi hj hQ=>?_,λu h' tk hu k=>?_⟩)
 ·obtain⟨t1,rfl⟩:=Yz v hi;obtain⟨t2,rfl⟩:=Yz v hj;exact gt_int hQ
 obtain⟨t,rfl⟩:=Yz v hu;obtain⟨b1,b2⟩:=Zcl (λi=>ns.getD i 0) _ (λ_ _=>rfl) (its.toArray.size-1);rw[wc] at b1 b2 ⊢;refine⟨.int _,H,I.kept (t':=tk) (λc o e=>k c o (λz=>absurd (Va e) (by simp at z;rw[z];exact Vi _)) (wa _ e)),⟨t,rfl⟩,q _ (Ot (by lia)) λm hm=>?_⟩;obtain⟨i,hi,e⟩:=Lc hm;rw[<- e];exact b2 i (by lia)
noncomputable def sv:V->Option Value
 |.ty n=>some (.type n)
 |.ref a=>some (.ref a)
 |_=>none
theorem Qb4{x:V}{c u:Value}(h:sv x=some c)(r:RelV x u):u=c:=by
 cases x with
 |ty n=>cases h;exact r
 |ref a=>cases h;exact r
 |_=>cases h
def LQ(K:gc):List V->Hp->VK->Prop:=λxs H Q=>∃ x cv t c b,xs=[x,cv]/\sv cv=some c/\gS K H x t/\Vg K t c=some b/\Q (.bl b) H
theorem qcv:aH X (.builtin "isinstance") (LQ X.K):=by
 intro pins s σ H xs us Q I r h;obtain⟨x,cv,t,c,b,rfl,e,ty,k,q⟩:=h;cases r with
 |cons r rr =>
  cases rr with
  |cons r' rr =>
   cases rr;have:=Qb4 e r';subst this;exact qbK I r ty k λtk=>⟨.bl b,H,I.tok tk,rfl,q⟩
end
def Hx(C x:af):Heap->Prop:=λh=>∃ t T,h.get? x=some (pk C t (.ref T))
section
variable {X:Cx}
theorem Zcq{P:ao}{w:World}{k:Key}{u:Value}(r:(yh P w).is k u=true):RelV (kV k) u:=by
 rcases yj (show pI k u=true from r) with ⟨i,t,rfl,rfl⟩|⟨x,t,rfl,rfl⟩
 ·exact⟨t,rfl⟩
 ·exact⟨t,rfl⟩
theorem OY{P:ao}{w:World}:∀(aJ:List (Key×V)) (us:List Value),us.length=aJ.length->(∀(j:Nat)(v:Value),us[j]?=some v->∃ kv:Key×V,aJ[j]?=some kv/\(yh P w).is kv.1 v=true)->Vals (aJ.map λkv=>kV kv.1) us
 |[],[],_,_=>.nil
 |[],_::_,e,_=>by simp at e
 |_::_,[],e,_=>by simp at e
 |kv::aJ,u::us,e,h=>by
  obtain⟨kv',e',r⟩:=h 0 u rfl;cases e';exact .cons (Zcq r) (OY aJ us (by simpa using e) λj v ev=>h (j+1) v ev)
def ycH:List V->Hp->VK->Prop:=λxs H Q=>∃ a aJ,xs=[.ref a]/\H a=some (.dK aJ)/\∀ l,H l=none->Q (.ref l) (upd H l (.lst (aJ.map λkv=>kV kv.1)))
theorem zbn(hc:X.calm=true):aH X (.type "list") ycH:=by
 intro pins s σ H xs us Q I r h;obtain⟨a,aJ,rfl,hq,q⟩:=h;obtain rfl:=ZB r;obtain⟨z,hd,vs,rel,dd⟩:=Ec I.aR hq;obtain⟨o,es,ep,h1,h2,h3,h4⟩:=id dd;have da:s.heap.DictAt (yh X.prog X.w) a vs ep:=⟨o,es,h1,h2,h3,h4⟩;refine PySem.W.kdl_call (PySem.W.kdl_dict hd) (I.ok.hd hc) da (by rw[<- rel.length];exact z) λh' tk acc c keep GS items=>?_;have hl:=rel.length;refine⟨.ref s.heap.objs.size,_,I.laid (t':=tk) keep (vb _) (show ba X.prog X.w _ h' _ (.lst (aJ.map λkv=>kV kv.1)) from⟨by rw[xc];exact z,acc.toList,c,?_,by simpa using GS⟩),rfl,q _ (I.aR.fresh (vb _))⟩;refine OY (P:=X.prog) (w:=X.w) aJ acc.toList (by rw[Ws,items.1];exact hl.symm) λj v e=>?_;obtain⟨k,x,e1,e2⟩:=items.2 j v (by rw[<- Vv];exact e);have hk:=rel.keys;have e3:(aJ.map (·.1))[j]?=some k:=by rw[hk,Ua,e1];rfl
 rw[Ua] at e3;cases e4:aJ[j]? with
 |none=>rw[e4] at e3;cases e3
 |some kv=>rw[e4] at e3;cases e3;exact⟨kv,rfl,e2⟩
theorem L4:∀{ns:List Int}{us:List Value},Vals (ns.map V.int) us->fZ us ns
 |[],_,r=>by cases r;exact .nil
 |n::ns,_,r=>by
  rw[Ub] at r;cases r with
  |cons h t=>obtain⟨t',rfl⟩:=(show ∃ t,_=Ja n t from h);exact .cons n t' (L4 t)
theorem OG:∀{ns:List Int}{us:List Value},fZ us ns->Vals (ns.map V.int) us
 |_,_,.nil=>.nil
 |_,_,.cons n t h=>.cons ⟨t,rfl⟩ (OG h)
def Zcn(K:gc):List V->Hp->VK->Prop:=λxs H Q=>∃(a:af)(ns:List Int),xs=[.ref a]/\gz K H a (ns.map V.int)/\ns.length<64/\∀ ni:List Int,ni.Perm ns->ni.Pairwise (·<=·)->∀ l,H l=none->Q (.ref l) (upd H l (.lst (ni.map V.int)))
theorem Qbd:aH X (.builtin "sorted") (Zcn X.K):=by
 intro pins s σ H xs us Q I r h;obtain⟨a,ns,rfl,hq,h64,q⟩:=h;obtain rfl:=ZB r;obtain⟨its,v,pl,hz⟩:=I.list hq;have hl:=v.length;rw[xc] at hl;obtain⟨o,ho,tG,n,hd⟩:=pl.isList;refine sorted_ints (vs:=its) (ns:=ns) ⟨o,ho,tG,n,hd⟩ (L4 v) (by lia) λout ni hi hp ho=>?_;obtain⟨e,he⟩:=sortedAll_at s.heap its out;have hlp:=hp.length_eq;refine⟨.ref (s.heap.objs.size+1),_,I.laid (t':=s.toks) (λb u e=>sortedAll_old e) (Ux _) (show ba X.prog X.w _ _ _ (.lst (ni.map V.int)) from⟨by rw[xc,cC];lia,out.toList,e,OG hi,by simpa[seqObj] using he⟩),rfl,q ni hp ho _ (I.aR.fresh (Ux _))⟩
end
def Src(K:gc)(mg:Str->Option Value)(x:Str)(st:Stmt)(ps:List Str):Prop:=∃ f fd,nP K x x st f fd/\Binds K fd ps []/\mg x=some (.ref f)
def wH(P:ao)(w:World)(K:gc)(mg:Str->Option Value)(base:Heap)(x:Str)(k:Nat)(ps:List Str)(sp:Sp):Prop :=
 ∃ f fd,fk P w K mg base (kH P w) k f fd ps sp/\Binds K fd ps []/\Ug K (.ref f)=true/\mg x=some (.ref f)
section
variable {P:ao} {w:World} {K:gc} {mg:Str->Option Value} {base:Heap} {x:Str} {ps:List Str} {sp:Sp}
noncomputable abbrev cxD(P:ao)(w:World)(K:gc)(mg:Str->Option Value)(base:Heap)(N:List Str)(x:Str)(st:Stmt)(f:af)(cd:Value)(A:Around)(outer:List Env)(s:Shared)(H:Hp)(E:XK):Cx :=
 mP (kH P w) P w K mg base N x (yc st) f cd A outer s H E
theorem qcY{st:Stmt}{N:List Str}{k:Nat}(S:Src K mg x st ps)(sc:iT N ps (yc st))(len:∀ vs H Q E,sp vs H Q E->vs.length=ps.length)
  (nA:∀(f:af)(cE:Value)(A:Around)(outer:List Env)(s:Shared) (H:Hp) (vs:List V) (Q:VK) (E:XK),dw k (A.deeper (eF x (yc st) s.heap.objs.size f cE))->sp vs H Q E ->
   ∃ t,iL (cxD P w K mg base N x st f cE A outer s H E) (Zh st) t/\t {nx:=λ_ H'=>Q .a9 H',rt:=Q} (start N vs) H):wH P w K mg base x (k+1) ps sp:=by
 obtain⟨f,fd,F,b,m⟩:=S;refine⟨f,fd,?_,b,F.kp,m⟩;obtain⟨oc,od,dV,kV,doc,pm,an,cE,ct,jL,rfl,lk,mw⟩:=F.ex;exact Ir lk mw sc len λA outer s H vs Q E hr lh=>nA f cE A outer s H vs Q E hr lh
end
section
variable {X:Cx} {k:Nat} {ps:List Str} {sp:Sp} {E:XK} {x:Str} {p pos:Pos} {e:Expr} {es:List Expr} {t:TA} {σ0:L2.St}
theorem QbO(d:wH X.prog X.w X.K X.mg X.base x k ps sp)(hr:dw k X.A)(hg:Gl X x)(hx:Zz (kH X.prog X.w) X σ0 E)(ha:PA X (e::es) t)(lj:(x==("__debug__":Str))=false:=by decide)
  (he:au (e::es) X.env=(false,eval e X.env)::au es X.env:=by rfl) (bE:(bV pos (au es X.env)).any (·.1)=false:=by rfl):PE X (.Call (.Name x p) (e::es) [] pos) (Ow σ0 sp [] E t):=by
 obtain⟨f,fd,F,b,kp,m⟩:=d;exact KQ F hr hg m kp b .nil hx ha lj he bE
end
section
variable {X:Cx} {tg:Expr}
noncomputable def nO(K:gc)(b:Bool)(a:af):It:=if b=true then PV K a else PX K a
noncomputable def MW(K:gc)(tl:TE):TI:=λσ H R=>tl σ H λx H1=>∃ b a,x=.ref a/\(∃ xs,iJ K H1 b a xs)/\R (nO K b a) H1
theorem wM{l:Expr}{tl:TE}(hl:PE X l tl):PI X tg l (MW X.K tl):=by
 intro pins s σ H R I h;refine bf (hl pins s σ H _ I h) λv s1 ⟨x,H1,I1,r1,q1⟩=>?_;obtain⟨b,a,e,⟨xs,hq⟩,q⟩:=q1;subst e;cases r1;cases b with
 |false =>
  obtain⟨its,rv,p,hz⟩:=I1.list (show gz X.K H1 a xs from hq);refine d3 p.isList ?_;refine⟨s1.heap.objs.size,[s1.heap.objs.size],_,_,H1,rfl,I1.kept (t':=s1.toks) λb o e=>wa _ e,YbN a _,⟨_,Xb _ rfl,rfl,rfl⟩,λb hb=>?_,q⟩;obtain rfl:=Ud.mp hb;exact I1.ie (vb _) (I1.aR.fresh (vb _))
 |true =>
  obtain⟨its,rv,p,hz⟩:=I1.tuple (show ik X.K H1 a xs from hq);refine gJ (show s1.heap.IsTuple a its.toArray from p) ?_;refine⟨s1.heap.objs.size,[s1.heap.objs.size],_,_,H1,rfl,I1.kept (t':=s1.toks) λb o e=>wa _ e,Qbv a _,⟨_,Xb _ rfl,rfl,rfl⟩,λb hb=>?_,q⟩;obtain rfl:=Ud.mp hb;exact I1.ie (vb _) (I1.aR.fresh (vb _))
end
theorem nO.go{K:gc}{b:Bool}{a:af}{i:Nat}{H:Hp}{xs:List V}(h:iJ K H b a xs)(hi:i<xs.length):(nO K b a).go i H:=by
 cases b with
 |false=>exact⟨xs,xs[i],h,by simp[hi]⟩
 |true=>exact⟨xs,xs[i],h,by simp[hi]⟩
theorem nO.stop{K:gc}{b:Bool}{a:af}{H:Hp}{xs:List V}(h:iJ K H b a xs):(nO K b a).stop xs.length H:=by
 cases b with
 |false=>exact⟨xs,h,vb _⟩
 |true=>exact⟨xs,h,vb _⟩
theorem nO.om{K:gc}{b:Bool}{a:af}{i:Nat}{H H':Hp}{xs:List V}{x:V}(h:iJ K H b a xs)(y:(nO K b a).om i H x H'):H'=H/\xs[i]?=some x:=by
 cases b with
 |false=>exact⟨y.1,y.2 xs h⟩
 |true=>exact⟨y.1,y.2 xs h⟩
def O8(P:ao)(w:World)(K:gc)(mg:Str->Option Value)(base:Heap)(x:Str)(C:af)(k:Nat)(ps:List Str)(sp:Sp):Prop :=
 ∃ f fd,Mk K C f/\fk P w K mg base (kH P w) k f fd ps sp/\Binds K fd ps []/\mg x=some (.ref C)
section
variable {X:Cx} {k:Nat} {ps:List Str} {sp:Sp} {E:XK} {x:Str} {C:af} {p pos:Pos} {e:Expr} {es:List Expr} {t:TA} {σ0:L2.St}
theorem ZbL(d:O8 X.prog X.w X.K X.mg X.base x C k ps sp)(hr:dw (k+1) X.A)(hg:Gl X x)(hx:Zz (kH X.prog X.w) X σ0 E)(ha:PA X (e::es) t)(lj:(x==("__debug__":Str))=false:=by decide)
  (he:au (e::es) X.env=(false,eval e X.env)::au es X.env:=by rfl) (bE:(bV pos (au es X.env)).any (·.1)=false:=by rfl):PE X (.Call (.Name x p) (e::es) [] pos) (K2 σ0 C sp [] E t):=by
 obtain⟨f,fd,M,F,b,m⟩:=d;exact ych M F hr hg m b .nil hx ha lj he bE
end
section
variable {X:Cx} (K:gc)
def Fb(K:gc):List V->Hp->VK->Prop:=λxs H Q=>∃ p ys,xs=[.ref p]/\(gz K H p ys\/ik K H p ys)/\Q (.int ys.length) H
def E9(K:gc):List V->Hp->VK->Prop:=λxs H Q=>∃ p ys,xs=[.ref p]/\(gz K H p ys\/ik K H p ys)/\∀ l,H l=none->Q (.ref l) (upd H l (.lst ys))
def E4(K:gc):List V->Hp->VK->Prop:=λxs H Q=>∃ p ys,xs=[.ref p]/\((gz K H p ys/\∀ l,H l=none->Q (.ref l) (upd H l (.tup ys)))\/(ik K H p ys/\Q (.ref p) H))
theorem Ad(h:X.K=K:=by rfl):aH X (.builtin "len") (Fb K):=h ▸ yaV
theorem ZcL(h:X.K=K:=by rfl):aH X (.type "list") (E9 K):=h ▸ za2
theorem Ycn(h:X.K=K:=by rfl):aH X (.type "tuple") (E4 K):=h ▸ QaD
theorem Aa(c:X.calm=true:=by rfl)(h:X.K=K:=by rfl):aH X (.builtin "sum") (vT K):=h ▸ Zb3 c
theorem k_all(c:X.calm=true:=by rfl)(h:X.K=K:=by rfl):aH X (.builtin "all") (v8 K):=h ▸ ZbZ c
theorem Ab(c:X.calm=true:=by rfl)(h:X.K=K:=by rfl):aH X (.builtin "min") (vV K):=h ▸ ZbO c
theorem Ac(c:X.calm=true:=by rfl)(h:X.K=K:=by rfl):aH X (.builtin "max") (vW K):=h ▸ qbQ c
theorem Ae(h:X.K=K:=by rfl):aH X (.builtin "isinstance") (LQ K):=h ▸ qcv
noncomputable def Fe(K:gc):R2:=λx y H Q=>∃ b p xs i v,x=.ref p/\y=.int i/\iJ K H b p xs/\rg xs i=some v/\Q v H
theorem FT(h:X.K=K:=by rfl):tV X (Fe K):=by
 subst h;intro value slice pins s σ H x y v u Q I rx ry hq hs;obtain⟨b,p,xs,i,z,e1,e2,hq,ha,q⟩:=hq;cases b with
 |false=>exact Zcs value slice pins s σ H x y v u Q I rx ry ⟨p,xs,i,z,e1,e2,hq,ha,q⟩ hs
 |true=>exact ZcN value slice pins s σ H x y v u Q I rx ry ⟨p,xs,i,z,e1,e2,hq,ha,q⟩ hs
theorem Af{e:Expr}{f:Str}{pos:Pos}{ta:TE}(he:PE X e ta)(hb:bB e f X.env (eval e X.env)=eval e X.env:=by rfl)(h:X.K=K:=by rfl):PE X (.Attribute e f pos) (uW K ta f):=h ▸ ZcV he hb
theorem FR{tg l:Expr}{tl:TE}(hl:PE X l tl)(h:X.K=K:=by rfl):PI X tg l (MW K tl):=h ▸ wM hl
theorem xZ{a b:Expr}{ta:TA}{p pos:Pos}{es:List Expr}{kt:Nat}{pt:Pos}(hg:Gl X "zip")(hm:X.mg "zip"=none)(ha:PA X [a,b] ta)(hs:au [a,b] X.env=[(false,eval a X.env),(false,eval b X.env)]:=by rfl)(gW:au [b] X.env=[(false,eval b X.env)]:=by rfl)(h:X.K=K:=by rfl) :
  PI X (.Tuple es kt pt) (.Call (.Name "zip" p) [a,b] [] pos) (rX K ta):=h ▸ qcF hg hm ha hs gW
theorem qcO{a:Expr}{ta:TA}{p pos:Pos}{es:List Expr}{kt:Nat}{pt:Pos}(hg:Gl X "enumerate")(hm:X.mg "enumerate"=none)(ha:PA X [a] ta)(hs:au [a] X.env=[(false,eval a X.env)]:=by rfl)(h:X.K=K:=by rfl) :
  PI X (.Tuple es kt pt) (.Call (.Name "enumerate" p) [a] [] pos) (Pc K ta):=h ▸ zcp hg hm ha hs
end
end L3
end
section
namespace L3
open PySem PySem.Spec PyProof.Rows L2 M3
def Pq(P:ao)(w:World)(K:gc)(mg:Str->Option Value)(base:Heap)(x:Str)(k:Nat)(ps:List Str)(sp:af->af->Sp):Prop :=
 ∃ f fd,BV P w K mg base k f fd ps sp/\Binds K fd ps []/\Ug K (.ref f)=true/\mg x=some (.ref f)
end L3
end
section
namespace L2
open PySem PySem.Spec PyProof.Rows
noncomputable def fA(lo hi st:Int):Nat:=if lo<hi then((hi-lo-1)/st+1).toNat else 0
noncomputable def pz(lo st:Int)(n:Nat):It:=⟨λi _=>i<n,λi H x H'=>H'=H/\x=.int (lo+i*st),λi _=>n<=i⟩
theorem Qa4{P:ao}{w:World}{K:gc}{tg:Expr}(it:af)(lo st:Int)(n:Nat):Turn P w K tg (pz lo st n) [it] it (λi h=>fU h it (lo+(i:Nat)*st) ((n:Int)-(i:Nat)) st) where
 mem:=by simp
 obj:=λi h st b hb=>by
  have e:b=it:=by simpa using hb
  subst e;exact⟨_,st,λv z=>by
   have z':Data.fields _=Data.cell v:=z;cases z'⟩
 keep:=λi h h' st k=>k it (by simp) _ st
 item:=by
  intro X hP hw hK hc i pins s σ H E I hf jX hg;subst hP hw hK;obtain⟨f0,f1,f2,f3,f4,f5⟩:=hf it (by simp);have W:=kX.range (prog:=X.prog) (w:=X.w) (I.ok.hd hc) it lo st n;refine W.item i s _ _ hg jX λv h' tk hv u7 kk=>?_;obtain⟨t,rfl⟩:=hv;have I1:Inv X pins σ H {s with heap:=h',toks:=tk}:=I.turned (λb o hb e=>kk b o (by simpa using hb) e) f0 f1 f3 f4 f5;exact⟨_,rfl,tP (s:={s with heap:=h',toks:=tk}) (n:="range_iterator") u7 rfl rfl (by decide) ⟨.int (lo+i*st),H,I1,⟨t,rfl⟩,⟨rfl,rfl⟩,u7,λb hb=>(hf b hb).1⟩⟩
 done:=by
  intro X hP hw hK hc i pins s σ H E I hf jX hg;subst hP hw hK;obtain⟨f0,f1,f2,f3,f4,f5⟩:=hf it (by simp);exact eX (I.ok.hd hc) jX (by have:n<=i:=hg;lia) λh' eb=>⟨rfl,I.turned (t':=s.toks) (λb o hb e=>eb b o hb e) f0 f1 f3 f4 f5⟩
 self:=λ_ _ _ _ _ st h=>e8 st h
theorem N6{lo hi st:Int}(h:0<st):kf lo hi st=fA lo hi st:=by
 unfold kf fA;rw[if_pos h];split
 ·have:=UA (a:=hi-lo-1) (b:=st) (by lia) (by lia)
  lia
 ·rfl
theorem Qb1{a b c:Int}(h1:-(2^30)<=a)(h2:a<2^30)(h3:-(2^30)<=b)(h4:b<2^30)(h5:0<c)(h6:c<2^30):jf a b c=true:=by
 have e:kf a b c=fA a b c:=N6 h5;have el:(fA a b c:Int)<=2^31:=by
  unfold fA;split
  ·have h7:0<=(b-a-1)/c:=UA (by lia) (by lia);have h8:(b-a-1)/c<=b-a-1:=Int.ediv_le_self _ (by lia)
   lia
  ·simp
 unfold jf;rw[e];have f:∀ x:Int,-(2^62)<=x->x<2^62->Kf x=true:=by
  intro x k1 k2;unfold Kf;simp
  lia
 rw[f a (by lia) (by lia),f b (by lia) (by lia),f c (by lia) (by lia),f _ (by lia) (by lia),if_pos h5,f (b+(c-1)) (by lia) (by lia)];simp
section
variable {X:Cx} {tg:Expr}
theorem YbL{pins:List (af×Obj)}{σ:St}{H:Hp}{s:Shared}{R:It->Hp->Prop}{E:Value->Shared->Prop}{lo hi st:Int}{t u v:Tok}{tk:Nat}(I:Inv X pins σ H s)(h1:-(2^30)<=lo)(h2:lo<2^30)(h3:-(2^30)<=hi)(h4:hi<2^30)(h5:0<st)(h6:st<2^30)
  (q:R (pz lo st (fA lo hi st)) H):ah (aq X.prog X.w) X.A (gQ (.ref s.heap.objs.size)) (Jy X pins σ tg R) E {s with heap:=s.heap.push {cls:=.type "range",data:=.fields #[.int lo t,.int hi u,.int st v]},toks:=tk}:=by
 refine gK (IsRange.new ..) (Qb1 h1 h2 h3 h4 h5 h6) ?_;have I1:Inv X pins σ H {s with heap:=s.heap.push {cls:=.type "range",data:=.fields #[.int lo t,.int hi u,.int st v]},toks:=tk}:=I.kept λb o e=>wa _ e;refine⟨(s.heap.push {cls:=.type "range",data:=.fields #[.int lo t,.int hi u,.int st v]}).objs.size,[(s.heap.push {cls:=.type "range",data:=.fields #[.int lo t,.int hi u,.int st v]}).objs.size],_,_,H,rfl,
  I1.kept (t':=tk) λb o e=>wa _ e,Qa4 _ lo st (fA lo hi st),?_,λb hb=>?_,q⟩
 ·have e1:lo+((0:Nat):Int)*st=lo:=by simp
  have e2:((fA lo hi st:Nat):Int)-((0:Nat):Int)=kf lo hi st:=by rw[N6 h5];simp
  show fU _ _ (lo+((0:Nat):Int)*st) (((fA lo hi st:Nat):Int)-((0:Nat):Int)) st;rw[e1,e2];exact Xb _ rfl
 ·have e:b=(s.heap.push {cls:=.type "range",data:=.fields #[.int lo t,.int hi u,.int st v]}).objs.size:=by simpa using hb
  subst e;exact I1.ie (vb _) (I1.aR.fresh (vb _))
noncomputable def Ar(ta:TA):TI:=λσ H R=>ta σ H λvs H1=>∃ i j k:Int,vs=[.int i,.int j,.int k]/\(-(2^30)<=i/\i<2^30/\-(2^30)<=j/\j<2^30/\0<k/\k<2^30)/\R (pz i k (fA i j k)) H1
theorem QbP{a b c:Expr}{ta:TA}{p pos:Pos}(hg:Gl X "range")(hm:X.mg "range"=none)(ha:PA X [a,b,c] ta)(hs:au [a,b,c] X.env=[(false,eval a X.env),(false,eval b X.env),(false,eval c X.env)]:=by rfl)(gW:au [b,c] X.env=[(false,eval b X.env),(false,eval c X.env)]:=by rfl) :
  PI X tg (.Call (.Name "range" p) [a,b,c] [] pos) (Ar ta):=by
 intro pins s σ H R I h;refine k8 (yI I hg hm jw (Jf (bf (ha pos pins s σ H _ I h) λus s1 ⟨vs,H1,I1,r1,q1⟩=>?_) (by rw[hs,gW]) (by rw[gW];rfl)));obtain⟨i,j,k,e,⟨q1,q2,q3,q4,q5,q6⟩,q⟩:=q1;subst e;cases r1 with
 |cons r rr =>
  cases rr with
  |cons r' rr =>
   cases rr with
   |cons r'' rr =>
    cases rr;obtain⟨t,rfl⟩:=r;obtain⟨t',rfl⟩:=r';obtain⟨t'',rfl⟩:=r'';exact call_range_3 (by lia) (YbL I1 q1 q2 q3 q4 q5 q6 q) (.inl (PyProof.noPylong_small (by lia)))
def qb3:V->List V->Hp->VK->Prop:=λx vs H Q=>∃ l b xs zs,x=.ref l/\vs=[.ref b]/\H l=some (.lst xs)/\Rd H b (.lst zs)/\xs.length+zs.length<=sizeLine/\Q .a9 (upd H l (.lst (xs++zs)))
theorem Qbq:BS X "list.extend" qb3:=by
 intro pins s σ H x vs v us Q I rx rv h;obtain⟨l,b,xs,zs,rfl,rfl,hH,hB,hz,q⟩:=h;cases rx;obtain⟨u,rfl,ru⟩:=rv.one;cases ru;obtain⟨z,its,n,r,hl,e⟩:=I.oJ hH;obtain⟨z2,eP,n2,r2,e2⟩:=hB.ok I.aR;have pN:=r2.length;have hsz:its.toArray.size+eP.toArray.size<=sizeLine:=by rw[wc,wc];lia
 have nr:¬(!its.toArray.isEmpty&&Km (its.toArray.size+eP.toArray.size))=true:=by
  rw[O5 hsz,Bool.and_false];exact Wm
 refine bF F.slot_list_extend ⟨_,e,rfl⟩ F.entry_list_extend (F.args_list_extend_2 _ _)
  (AutoSeq1.list_extend_list_list_0 l its.toArray n b eP.toArray n2 nr (by rw[wc];lia) (by lia)) ⟨e,e2,?_⟩
 refine⟨.a9,_,I.oM (its':=its++eP) hH e (by simp) (r.append r2) ?_,rfl,q⟩;rw[xf]
 lia
end
end L2
end
section
namespace L3
open PySem PySem.Spec PyProof.Rows L2 M3
section
variable {X:Cx} {k:Nat} {E:XK} {x m:Str} {p pos apos:Pos} {e o:Expr} {es:List Expr} {ta:TE} {t:TA} {σ0:L2.St}
def qcG(P:ao)(w:World)(K:gc)(mg:Str->Option Value)(base:Heap)(k:Nat)(C:af)(m:Str)(sp:Sp):Prop :=
 ly K C/\∃ f fd ps,Meth K C m f/\fk P w K mg base (kH P w) k f fd ps sp/\Binds K fd ps []
structure DI (K:gc) (C:af):Prop where
 makes:Wt K C=true
 init:Ve K (.ref C) "__init__"=some (some (.builtin "object.__init__"))
 kp:Ug K (.ref C)=true
theorem QbH{C:af}{pins:List (af×Obj)}{σ:L2.St}{H:Hp}{s:Shared}{Q:VK}(M:DI X.K C)(I:Inv X pins σ H s)
  (h:∀ x dx,H x=none->H dx=none->dx≠x->Q (.ref x) (upd (upd H dx (.own x)) x (.ins C dx []))):ah (aq X.prog X.w) X.A (call (.ref C) []) (EP X pins σ Q) X.xe s:=by
 have hq:=h (s.heap.objs.size+1) s.heap.objs.size (I.aR.fresh (Ux _)) (I.aR.fresh (vb _)) (Xc (Vl _));have I2:=Inv.made (C:=C) I;have Y:=Vz (M:=aq X.prog X.w) I.iP M.makes;have hx:((s.heap.push Xg).push (uh C s.heap.objs.size)).get? (s.heap.objs.size+1)=some (uh C s.heap.objs.size):=by
  have:=Xb (s.heap.push Xg) (o:=uh C s.heap.objs.size) rfl
  rwa [vg] at this
 refine gL (ybM I.iP M.makes M.init (λself=>PySem.W.Looks.of_pure (PySem.W.oi_bind self)) ?_);have t1:Kd (aq X.prog X.w) ((s.heap.push Xg).push (uh C s.heap.objs.size)) (typeOf (.ref (s.heap.objs.size+1))) (.ref C):=(PySem.W.Looks.ld hx).andThen .now;have t2:Kd (aq X.prog X.w) ((s.heap.push Xg).push (uh C s.heap.objs.size)) (isInstance (.ref (s.heap.objs.size+1)) (.type "object")) true:=t1.andThen (Y.top.keeps λb o e=>wa _ (wa _ e));refine fQ PySem.W.oi_plain PySem.W.entry_oi (@PySem.W.check_slot (aq X.prog X.w) _ _ _ "object.__init__" "object" "__init__" (.ref (s.heap.objs.size+1)) [] [] _ PySem.W.oi_kind PySem.W.oi_split t2 (PySem.W.oi_args (.ref (s.heap.objs.size+1))) ?_);rw[PySem.W.oi_run];exact ag (And.intro rfl ⟨V.ref (s.heap.objs.size+1),_,I2,rfl,hq⟩)
noncomputable def QcI(C:af):TE:=λσ H Q=>∀ x dx,H x=none->H dx=none->dx≠x->Q (.ref x) (upd (upd H dx (.own x)) x (.ins C dx []))
theorem QbK{C:af}(M:DI X.K C)(hg:Gl X x)(hm:X.mg x=some (.ref C))(lj:(x==("__debug__":Str))=false):PE X (.Call (.Name x p) [] [] pos) (QcI C):=by
 intro pins s σ H Q I h;refine bD (Dz I hg hm ?_ lj);exact PySem.W.callWith_K0 I.iP M.kp (QbH M I h)
end
end L3
end
section
namespace L3
open PySem PySem.Spec PyProof.Rows L2 M3
def uQ(P:af)(lp:Pos)(oc:Option af):Heap->Prop:=λh=>∃ ps:Array Value,h.get? P=some (PySem.W.tabObj ps)/\TriplesOk ps.toList/\codeAmong lp ps.toList=oc.map ka
def HJ(c':af)(q:Str):Heap->Prop:=λh=>h.CodeRec (.ref c') q
structure sL (mg:Str->Option Value) (base:Heap) (c P:af):Prop where
 code:PySem.W.CodeHd base c P
 bmain:∃ bm ob,mg "__builtins__"=some (.ref bm)/\bm≠builtinsNs/\base.get? bm=some ob/\ob.cls=.type "module"/\ob.dict=some builtinsNs/\ob.data=.plain
end L3
end
section
namespace L3
open PySem PySem.Spec PyProof.Rows L2 M3
section
variable {prog:ao} {w:World} {A:Around} {h:Heap} {g:Array kY} {d:Drawn} {t:Nat} {os:OsState} {a:af} {its:Array Value} {n:Nat}
noncomputable abbrev FO(its:Array Value)(n:Nat):Obj:={cls:=.type "list",data:=.seq its n}
end
end L3
end
section
namespace L3
open PySem PySem.Spec PyProof.Rows L2 M3
noncomputable def tX:Nat:=64
theorem zU:∀ a<tX,kx (a:Int)=(a:Int):=by decide +kernel
def HV(k:Int×Int):Prop:=(0<=k.1/\k.1<64)/\0<=k.2/\k.2<64
end L3
end
section
namespace L3
open PySem PySem.Spec PyProof.Rows L2 M3 PySem.Builtin PySem.Builtin.Str
section
variable {prog:ao} {w:World} {A:Around} {E:Value->Shared->Prop} {s:Shared} {x y:Str} {t u:Tok} {Q:Value->Shared->Prop}
theorem qbn(hy:(y.length==0)=false)(hsz:x.length+2<=sizeLine)
  (h:∀(l:List (Str×Tok)) (k:Tok),l.map (·.1)=Txt.split x y->Q (.ref s.heap.objs.size) {s with heap:=s.heap.push {cls:=.type "list",data:=.seq (jW l).toArray},toks:=k}) :
  ah (aq prog w) A (call (.builtin "str.split") [.str x t,.str y u]) Q E s:=by
 have hn:(partsBetween x (occurrences x y 0 x.length (x.length+1)) y.length).length<=sizeLine:=by
  have e1:=ko x y 0 x.length (x.length+1);rw[gw];lia
 cases h1:(decide (x.length<y.length)||decide (strKind x<strKind y))
 ·cases hf:(occurrences x y 0 x.length (x.length+1)).isEmpty
  ·refine bF Ji (cV _ _ _) Ki (ki _ _) (meets_str_split_sep x y t u h1 hy hf (by lia) hn) ?_;show wants Q E _ {s with toks:=_,heap:=s.heap.push {cls:=.type "list",data:=.seq (strsFrom s.toks (partsBetween x (occurrences x y 0 x.length (x.length+1)) y.length)).toArray}};rw[strsFrom_eq];exact h (numbered s.toks _) _ ((numbered_texts _ _).trans ((if_neg (ne_true_of_eq_false h1)).trans (if_neg (ne_true_of_eq_false hf))).symm)
  ·exact bF Ji (cV _ _ _) Ki (ki _ _) (meets_str_split_not_found x y t u h1 hy hf)
    (h [(x,t)] s.toks ((if_neg (ne_true_of_eq_false h1)).trans (if_pos hf)).symm)
 ·exact bF Ji (cV _ _ _) Ki (ki _ _) (meets_str_split_cannot_occur x y t u h1)
   (h [(x,t)] s.toks (if_pos h1).symm)
end
section
variable {X:Cx} {o e:Expr} {apos fg:Pos} {td ty:TE}
theorem Pl:∀{ts:List Str}{us:List Value},Vals (ts.map V.str) us->StrsAre us ts
 |[],_,.nil=>.nil
 |y::ts,_,.cons r rr=>by
  obtain⟨t,rfl⟩:=(show ∃ t,_=ja y t from r);exact .cons y t (Pl rr)
theorem Lj:∀(l:List (Str×Tok)),Vals ((l.map (·.1)).map V.str) (jW l)
 |[]=>.nil
 |p::l=>.cons ⟨p.2,rfl⟩ (Lj l)
noncomputable def uV(td ty:TE):TE:=λσ H Q=>td σ H λx H1=>∃ sep,x=.str sep/\ty σ H1 λy H2=>∃ a ts,y=.ref a/\Rd H2 a (.lst (ts.map V.str))/\(ts.map (·.length)).sum+ts.length*sep.length<=16777216/\Q (.str (Txt.join sep ts)) H2
theorem Qcl(ho:PE X o td)(he:PE X e ty)(m:M1 X o "join" apos e fg):PE X (.Call (.Attribute o "join" apos) [e] [] fg) (uV td ty):=by
 intro pins s σ H Q I h;refine hU m.base m.NC m.line Kj PySem.F.slot_str_join PySem.F.type_str_join (bf (ho pins s σ H _ I h) λu s1 ⟨x,H1,I1,rx,sep,ex,q1⟩=>?_);subst ex;obtain⟨t,rfl⟩:=(show ∃ t,u=ja sep t from rx);refine⟨cV _ _ _,(λ_ e=>nomatch e),?_⟩;rw[m.trees];refine Ke rfl (je (Je (bf (he pins s1 σ H1 _ I1 q1) λiv s2 ⟨y,H2,I2,ry,a,ts,ey,ea,hz,q2⟩=>He ?_)));subst ey;obtain rfl:iv=ka a:=ry;obtain⟨_,its,n,rv,hg⟩:=ea.ok I2.aR;exact join_list ⟨_,hg,rfl,n,rfl⟩ (by simpa using Pl rv) hz λt' k=>⟨.str (Txt.join sep ts),H2,I2.tok _,⟨_,rfl⟩,q2⟩
noncomputable def zcS(td ty:TE):TE:=λσ H Q=>td σ H λx H1=>∃ z,x=.str z/\ty σ H1 λy H2=>∃ sep,y=.str sep/\(sep.length==0)=false/\z.length+2<=sizeLine/\∀ p,H2 p=none->Q (.ref p) (upd H2 p (.lst ((Txt.split z sep).map V.str)))
theorem QbN(x y:Str):(Txt.split x y).length<=x.length+2:=by
 unfold Txt.split;split
 ·simp
 ·split
  ·simp
  ·have e1:=ko x y 0 x.length (x.length+1);rw[gw];lia
theorem yci(ho:PE X o td)(he:PE X e ty)(m:M1 X o "split" apos e fg):PE X (.Call (.Attribute o "split" apos) [e] [] fg) (zcS td ty):=by
 intro pins s σ H Q I h;refine hU m.base m.NC m.line Kj PySem.F.slot_str_split PySem.F.type_str_split (bf (ho pins s σ H _ I h) λu s1 ⟨x,H1,I1,rx,z,ex,q1⟩=>?_);subst ex;obtain⟨t,rfl⟩:=(show ∃ t,u=ja z t from rx);refine⟨cV _ _ _,(λ_ e=>nomatch e),?_⟩;rw[m.trees];refine Ke rfl (je (Je (bf (he pins s1 σ H1 _ I1 q1) λiv s2 ⟨y,H2,I2,ry,sep,ey,h0,hz,q2⟩=>He ?_)));subst ey;obtain⟨t2,rfl⟩:=(show ∃ t,iv=ja sep t from ry);refine qbn h0 hz λl k el=>?_;have hf:H2 s2.heap.objs.size=none:=I2.aR.fresh (vb _);refine⟨.ref s2.heap.objs.size,_,I2.laid (a:=s2.heap.objs.size) (o:=.lst ((Txt.split z sep).map V.str)) (t':=k) (λb u e=>wa _ e) (vb _) ?_,rfl,q2 _ hf⟩;refine⟨by rw[xc];exact Xe (QbN z sep) hz,jW l,0,?_,Xb _ rfl⟩;rw[<- el];exact Lj l
def vY:List V->Hp->VK->Prop:=λxs H Q=>∃ x n,xs=[.str x]/\Kc x=some n/\x.length<=640/\Q (.int n) H
theorem qbS:aH X (.type "int") vY:=by
 intro pins s σ H xs us Q I r h;obtain⟨x,n,rfl,hn,hl,q⟩:=h;cases r with
 |cons r rr =>
  cases rr;obtain⟨t,rfl⟩:=(show ∃ t,_=ja x t from r);exact PySem.W.KIN.call_text hn hl ⟨.int n,H,I.tok _,⟨_,rfl⟩,q⟩
end
noncomputable def DK(x:Str):It:=⟨λi _=>i<x.cps.size,λi H v H'=>H'=H/\∃ c,x.cps[i]?=some c/\v=.str ⟨#[c]⟩,λi _=>x.cps.size<=i⟩
theorem Ybp{P:ao}{w:World}{K:gc}{tg:Expr}(it:af)(x:Str)(t:Tok):Turn P w K tg (DK x) [it] it (λi h=>h.IsStrIter it "str_ascii_iterator" x t i) where
 mem:=by simp
 obj:=λi h st b hb=>by
  have e:b=it:=by simpa using hb
  subst e;obtain⟨o,e,c,d⟩:=st;exact⟨o,e,λv z=>by rw[d] at z;cases z⟩
 keep:=λi h h' st k=>let ⟨o,ho,r⟩:=st;⟨o,k it (by simp) o ho,r⟩
 item:=by
  intro X hP hw hK hc i pins s σ H E I hf st hg;subst hP hw hK;obtain⟨f0,f1,f2,f3,f4,f5⟩:=hf it (by simp);have hg:i<x.cps.size:=hg;have W:=kX.strAscii (prog:=X.prog) (w:=X.w) (I.ok.hd hc) it x t;refine W.item i s _ _ hg st λv h' tk hv jX kk=>?_;obtain⟨c,u,hx,rfl⟩:=hv;have I1:Inv X pins σ H {s with heap:=h',toks:=tk}:=I.turned (λb o hb e=>kk b o (by simpa using hb) e) f0 f1 f3 f4 f5;obtain⟨o,e,cl,d⟩:=id jX;exact⟨_,rfl,tP (s:={s with heap:=h',toks:=tk}) e cl d (by decide) ⟨.str ⟨#[c]⟩,H,I1,⟨u,rfl⟩,⟨rfl,c,hx,rfl⟩,jX,λb hb=>(hf b hb).1⟩⟩
 done:=by
  intro X hP hw hK hc i pins s σ H E I hf st hg;subst hP hw hK;obtain⟨f0,f1,f2,f3,f4,f5⟩:=hf it (by simp);have hg:x.cps.size<=i:=hg;exact wpAny_pyNext_ascii_end (I.ok.hd hc) st (by simp[hg]) λh' eb=>⟨rfl,I.turned (t':=s.toks) (λb o hb e=>eb b o hb e) f0 f1 f3 f4 f5⟩
 self:=λ_ _ _ _ _ st h=>wpAny_pyIter_striter_ascii st h
theorem ZbK{P:ao}{w:World}{K:gc}{tg:Expr}(it:af)(x:Str)(t:Tok):Turn P w K tg (DK x) [it] it (λi h=>h.IsStrIter it "str_iterator" x t i) where
 mem:=by simp
 obj:=λi h st b hb=>by
  have e:b=it:=by simpa using hb
  subst e;obtain⟨o,e,c,d⟩:=st;exact⟨o,e,λv z=>by rw[d] at z;cases z⟩
 keep:=λi h h' st k=>let ⟨o,ho,r⟩:=st;⟨o,k it (by simp) o ho,r⟩
 item:=by
  intro X hP hw hK hc i pins s σ H E I hf st hg;subst hP hw hK;obtain⟨f0,f1,f2,f3,f4,f5⟩:=hf it (by simp);have hg:i<x.cps.size:=hg;have W:=kX.strWide (prog:=X.prog) (w:=X.w) (I.ok.hd hc) it x t;refine W.item i s _ _ hg st λv h' tk hv jX kk=>?_;obtain⟨c,u,hx,rfl⟩:=hv;have I1:Inv X pins σ H {s with heap:=h',toks:=tk}:=I.turned (λb o hb e=>kk b o (by simpa using hb) e) f0 f1 f3 f4 f5;obtain⟨o,e,cl,d⟩:=id jX;exact⟨_,rfl,tP (s:={s with heap:=h',toks:=tk}) e cl d (by decide) ⟨.str ⟨#[c]⟩,H,I1,⟨u,rfl⟩,⟨rfl,c,hx,rfl⟩,jX,λb hb=>(hf b hb).1⟩⟩
 done:=by
  intro X hP hw hK hc i pins s σ H E I hf st hg;subst hP hw hK;obtain⟨f0,f1,f2,f3,f4,f5⟩:=hf it (by simp);have hg:x.cps.size<=i:=hg;exact wpAny_pyNext_wide_end (I.ok.hd hc) st (by simp[hg]) λh' eb=>⟨rfl,I.turned (t':=s.toks) (λb o hb e=>eb b o hb e) f0 f1 f3 f4 f5⟩
 self:=λ_ _ _ _ _ st h=>wpAny_pyIter_striter_wide st h
noncomputable def FZ(tl:TE):TI:=λσ H R=>tl σ H λx H1=>∃ z,x=.str z/\R (DK z) H1
theorem ZcX{X:Cx}{tg l:Expr}{tl:TE}(hl:PE X l tl):PI X tg l (FZ tl):=by
 intro pins s σ H R I h;refine bf (hl pins s σ H _ I h) λv s1 ⟨x,H1,I1,r1,q1⟩=>?_;obtain⟨z,e,q⟩:=q1;subst e;obtain⟨t,rfl⟩:=(show ∃ t,v=ja z t from r1);cases ha:z.cps.all (· < 128)
 ·refine wpAny_pyIter_wide ha ?_;refine⟨s1.heap.objs.size,[s1.heap.objs.size],_,_,H1,rfl,I1.kept (t':=s1.toks) λb o e=>wa _ e,ZbK _ z t,⟨_,Xb _ rfl,rfl,rfl⟩,λb hb=>?_,q⟩;have e:b=s1.heap.objs.size:=by simpa using hb
  subst e;exact I1.ie (vb _) (I1.aR.fresh (vb _))
 ·refine wpAny_pyIter_ascii ha ?_;refine⟨s1.heap.objs.size,[s1.heap.objs.size],_,_,H1,rfl,I1.kept (t':=s1.toks) λb o e=>wa _ e,Ybp _ z t,⟨_,Xb _ rfl,rfl,rfl⟩,λb hb=>?_,q⟩;have e:b=s1.heap.objs.size:=by simpa using hb
  subst e;exact I1.ie (vb _) (I1.aR.fresh (vb _))
end L3
end
section
namespace MP
open PySem
noncomputable def kT(xs:List Nat)(j:Nat):Nat->Nat->Nat->Nat
 |0,lo,_=>lo
 |fuel+1,lo,hi=>if lo<hi then(if xs.getD ((lo+hi)/2) j<j then kT xs j fuel ((lo+hi)/2+1) hi else kT xs j fuel lo ((lo+hi)/2)) else lo
noncomputable def ij(xs:List Nat)(j:Nat):Nat:=kT xs j xs.length 0 xs.length
noncomputable def kL(mask:Nat)(place:List Nat)(hs:List Int)(h:Int):Nat->Nat->Nat->Nat->Nat->Option Nat
 |0,_,_,_,_=>none
 |fuel+1,j,more,i,pt =>
  let b:=ij place j
  if place[b]?=some j then
   (if(hs[b]?).getD 0=h then none else
   if more>0 then kL mask place hs h fuel (j+1) (more-1) i pt else
   let l:=SetTable.leap mask i pt
   kL mask place hs h fuel l.1 (jq mask l.1-l.1) l.1 l.2)
  else some j
noncomputable def putL{α:Type}(xs:List α)(p:Nat)(x:α):List α:=xs.take p++x::xs.drop p
structure LT where
 hs:List Int
 mask:Nat
 place:List Nat
 moves:Nat
noncomputable def i6(s:LT)(h:Int):Option LT :=
 if s.mask%2==0 then none else
 let i:=Hq h%(s.mask+1)
 match kL s.mask s.place s.hs h (10*SetTable.turns s.mask) i (jq s.mask i-i) i (Hq h) with
 |some j =>
  let p:=ij s.place j
  let pl:=putL s.place p j
  let ia:=putL s.hs p h
  if pl.length=ia.length/\pl.length<=s.mask/\ia.length<=100000 then
   if pl.length*5>=s.mask*3 then
    (if Jo (Ho ia.length)>sizeLine then none else
    let m:=Jo (Ho ia.length)-1
    match SetTable.layClean m ia.toArray with
    |some owner =>
     let live:=(va (m+1)).filterMap λj=>(owner.getD j none).map (j,·)
     let gW:=(live.map (·.2)).filterMap (ia[·]?)
     if gW.length=ia.length/\live.length=ia.length/\live.length<=m then some ⟨gW,m,live.map (·.1),(if s.mask==7&&m==7 then s.moves else s.moves+1)⟩ else none
    |none=>none)
   else some ⟨ia,s.mask,pl,s.moves⟩
  else none
 |none=>none
noncomputable def j7(l:List Int):Option LT:=l.foldlM i6 ⟨[],7,[],0⟩
noncomputable def layB(hs:List Int):Bool:=match j7 hs with
 |some st=>st.hs.length==hs.length
 |none=>false
noncomputable def l8(k:Int×Int):Int:=reduceHash (Jk [k.1,k.2])
noncomputable def rT(ks:List (Int×Int)):Bool:=layB (ks.map l8)
end MP
end
section
namespace L3
open PySem PySem.Spec PyProof.Rows L2 M3
noncomputable def n6(hs:Array Int)(t:SetTable)(h:Int):Option (Array Int×SetTable) :=
 if t.gaveWay then none else
 match t.probe (λi=>(hs[i]?).getD 0) h (t.probeStart h) with
 |some (.empty j none) =>
  let t1:=(t.put j).1
  let ia:=Ko hs (t.put j).2 h
  if !(t1.fits ia.size&&t1.plain)||decide (ia.size>100000) then none else
  if t1.tooFull then
   if decide (Jo (Ho (hs.size+1))>sizeLine) then none else
   match t1.relaid ia (Ho (hs.size+1)) with
   |some (t2,order) =>
    let gW:=order.filterMap (ia[·]?)
    if gW.size==ia.size&&t2.fits gW.size&&t2.plain then some (gW,t2) else none
   |none=>none
  else some (ia,t1)
 |_=>none
noncomputable abbrev mF(s:MP.LT)(led:Bool):SetTable:=⟨s.mask,s.place.toArray,#[],0,led,s.moves,true⟩
theorem D9(xs:List Nat)(j:Nat):∀(fuel lo hi:Nat),Kp.go xs.toArray j fuel lo hi=MP.kT xs j fuel lo hi
 |0,lo,hi=>rfl
 |fuel+1,lo,hi=>by
  have i1:=D9 xs j fuel ((lo+hi)/2+1) hi;have i2:=D9 xs j fuel lo ((lo+hi)/2);have g:xs.toArray.getD ((lo+hi)/2) j=xs.getD ((lo+hi)/2) j:=by simp
  unfold Kp.go MP.kT;dsimp only;rw[i1,i2,g]
theorem Ob(xs:List Nat)(j:Nat):Kp xs.toArray j=MP.ij xs j:=by
 unfold Kp MP.ij;rw[D9];simp
theorem Qcz(s:MP.LT)(led:Bool)(j:Nat):(mF s led).slot j=if s.place[MP.ij s.place j]?=some j then .live (MP.ij s.place j) else .empty:=by
 unfold SetTable.slot;simp only[mF,Ob];by_cases c:s.place[MP.ij s.place j]?=some j
 ·simp[c]
 ·simp[c,Gq]
theorem HX(s:MP.LT)(led:Bool)(h:Int):∀(fuel j more i pt r:Nat),MP.kL s.mask s.place s.hs h fuel j more i pt=some r ->
  Jq.go (mF s led) (λi=>(s.hs.toArray[i]?).getD 0) h fuel ⟨j,more,i,pt,none⟩=some (.empty r none)
 |0,j,more,i,pt,r,e=>by cases e
 |fuel+1,j,more,i,pt,r,e=>by
  unfold MP.kL at e;unfold Jq.go;simp only[Qcz];dsimp only at e;by_cases c:s.place[MP.ij s.place j]?=some j
  ·rw[if_pos c] at e;rw[if_pos c];dsimp only;by_cases d:(s.hs[MP.ij s.place j]?).getD 0=h
   ·rw[if_pos d] at e;cases e
   ·rw[if_neg d] at e;have d':((s.hs.toArray[MP.ij s.place j]?).getD 0==h)=false:=by simpa using d
    rw[d'];simp only[Wg,if_false];unfold SetTable.advance;by_cases m:more>0
    ·rw[if_pos m] at e;simp only[m,if_true];exact HX s led h fuel _ _ _ _ r e
    ·rw[if_neg m] at e;simp only[m,if_false];exact HX s led h fuel _ _ _ _ r e
  ·rw[if_neg c] at e;cases e;rw[if_neg c]
theorem Pk{α:Type}(xs:List α)(p:Nat)(x:α):Ko xs.toArray p x=(MP.putL xs p x).toArray:=by
 unfold Ko MP.putL;apply uG;simp[List.extract_eq_take_drop,Xh]
set_option tactic.hygienic true in
theorem qcI(s s':MP.LT)(led:Bool)(h:Int)(e:MP.i6 s h=some s'):n6 s.hs.toArray (mF s led) h=some (s'.hs.toArray,mF s' led):=by
 unfold MP.i6 at e;split at e
 ·cases e
 next hm =>
 dsimp only at e;split at e
 next j hj =>
  have hp:=HX s led h _ _ _ _ _ _ hj;unfold n6;rw[if_neg (by simpa[SetTable.gaveWay] using hm)];have r8:(mF s led).probe (λi=>(s.hs.toArray[i]?).getD 0) h ((mF s led).probeStart h)=some (.empty j none):=hp;rw[r8];have Gz:(mF s led).put j=(⟨s.mask,(MP.putL s.place (MP.ij s.place j) j).toArray,#[],0,led,s.moves,true⟩,MP.ij s.place j):=by
   unfold SetTable.put;simp[mF,Ob,Pk,Gq]
  dsimp only;rw[Gz];dsimp only;rw[Pk];generalize bE:MP.putL s.place (MP.ij s.place j) j=pl at *;generalize pO:MP.putL s.hs (MP.ij s.place j) h=ia at *;split at e
  next hc =>
   obtain⟨c1,c2,c3⟩:=hc;have ft:Go ⟨s.mask,pl.toArray,#[],0,led,s.moves,true⟩ ia.toArray.size=true:=by
    simp[Go,Gp,c1];lia
   rw[if_neg (by rw[ft];simp;exact c3)];have tf:Kq ⟨s.mask,pl.toArray,#[],0,led,s.moves,true⟩=decide (pl.length*5>=s.mask*3):=by
    simp[Kq,Gp]
   rw[tf];have ny:s.hs.toArray.size+1=ia.length:=by
    rw[<- pO];unfold MP.putL;simp only[xf,Vh,ud,uv,wc]
    lia
   rw[ny];split at e
   next hf =>
    rw[if_pos (decide_eq_true hf)];split at e
    ·cases e
    next hz =>
    rw[if_neg (by simpa using hz)];unfold SetTable.relaid SetTable.laid;dsimp only;split at e
    next owner ho =>
     rw[ho];simp only[Us,xh,vA];generalize hm2:Jo (Ho ia.length)-1=m2 at *;generalize M9:(va (m2+1)).filterMap (λj=>(owner.getD j none).map (j,·))=live at *;have ef:(vw (λx=>ia.toArray[x]?) (live.map (·.2)).toArray)=((live.map (·.2)).filterMap (ia[·]?)).toArray:=by
      apply uG;simp
     split at e
     next hc =>
      obtain⟨k1,k2,k3⟩:=hc;show(if((vw (λx=>ia.toArray[x]?) (live.map (·.2)).toArray).size==ia.toArray.size&&Go ⟨m2,(live.map (·.1)).toArray,#[],0,led,jp ⟨s.mask,pl.toArray,#[],0,led,s.moves,true⟩ m2,true⟩ (vw (λx=>ia.toArray[x]?) (live.map (·.2)).toArray).size&&true)=true then some (vw (λx=>ia.toArray[x]?) (live.map (·.2)).toArray,(⟨m2,(live.map (·.1)).toArray,#[],0,led,jp ⟨s.mask,pl.toArray,#[],0,led,s.moves,true⟩ m2,true⟩:SetTable)) else none)=_;rw[ef];have q1:((live.map (·.2)).filterMap (ia[·]?)).toArray.size=ia.length:=by rw[wc];exact k1
      have q2:Go ⟨m2,(live.map (·.1)).toArray,#[],0,led,jp ⟨s.mask,pl.toArray,#[],0,led,s.moves,true⟩ m2,true⟩ ia.length=true:=by
       simp only[Go,Gp,wc,xc,Wo,UD,k2,beq_self_eq_true,WC,decide_eq_true_eq];exact k2 ▸ k3
      rw[q1,q2];rw[if_pos (by simp)];cases e;rfl
     next=>cases e
    next=>cases e
   next hf =>
    cases e;rw[if_neg (by simpa using hf)]
  next=>cases e
 next=>cases e
section
variable {prog:ao} {w:World} {A:Around} {E:Value->Shared->Prop} {s:Shared} {a T:af} {o0:Option Obj}
theorem qcz(n:Nat)(i:Int)(t:Tok):fM n (.int i t)=pure true:=by cases n <;> rfl
theorem Ycq{its:Array Value}{Q:Bool->Shared->Prop}(ht:iq s.heap T its)(hi:∀ v∈its.toList,∃ i t,v=Ja i t)(h:Q true s):ah (aq prog w) A (fM 8 (.ref T)) Q E s:=by
 obtain⟨o,ho,hc,n,hd⟩:=ht;have hT:s.TypeIs (.ref T) "tuple":=⟨o,ho,hc⟩;unfold fM;refine ae (wpAny_specialOf hT F.slot_tuple_hash.lookup ?_);dsimp only;refine ae (aC ho hd ?_);refine ae ?_;show ah _ _ (forIn its _ _) _ _ s;rw[<- Wq];refine wpAny_forIn_list _ (λrest r s'=>r.1=none/\s'=s/\∀ v∈rest,∃ i t,v=Ja i t) _ ?_ ?_ _ _ ⟨rfl,rfl,hi⟩
 ·rintro v rest r s' ⟨hr,rfl,kR⟩;obtain⟨i,t,rfl⟩:=kR v xi;rw[qcz];refine ae (ag ?_);simp only[Bool.not_true,Wg,if_false];exact ag ⟨rfl,rfl,λu hu'=>kR u (Ue _ hu')⟩
 ·rintro⟨r1,r2⟩ s' ⟨hr,rfl,_⟩;simp only at hr;subst hr;exact ag h
def fq(h:Heap)(a:af)(es:Array (Int×Value))(t:SetTable):Prop:=∃ o ep,h.get? a=some o/\o.ExactSet/\o.data=.set es ep t/\t.fits es.size=true
theorem fq.put{h:Heap}{es:Array (Int×Value)}{t:SetTable}(S:fq h a es t)(jR:Array (Int×Value))(t':SetTable)(hf:t'.fits jR.size=true):fq (h.update a (Kl jR t')) a jR t':=by
 obtain⟨o,ep,ho,hex,hd,_⟩:=S;have hg:(h.update a (Kl jR t')).get? a=some {o with data:=.set jR (ep+1) t'}:=by
  have:=wo (Kl jR t') ho (by rw[putSet_of jR t' hd];rfl);rw[putSet_of jR t' hd] at this;exact this
 exact⟨_,_,hg,hex,rfl,hf⟩
theorem zct(es:Array (Int×Value))(p:Nat)(h:Int)(x:Value):(Ko es p (h,x)).map (·.1)=Ko (es.map (·.1)) p h:=by
 unfold Ko;simp[Array.map_append,Array.map_push,Array.map_extract]
theorem IB(es:Array (Int×Value))(order:Array Nat):(order.filterMap (es[·]?)).map (·.1)=order.filterMap ((es.map (·.1))[·]?):=by
 apply uG;simp only[Array.toList_map,Array.toList_filterMap]
 induction order.toList with
 |nil=>rfl
 |cons i l ih =>
  simp only[Vr,vD];cases es[i]? with
  |none=>simpa using ih
  |some e=>simpa using ih
set_option tactic.hygienic true in
theorem qcx{es:Array (Int×Value)}{t t':SetTable}{h:Int}{hs':Array Int}{Q:Bool->Shared->Prop}(S:fq s.heap a es t)
  (lay:n6 (es.map (·.1)) t h=some (hs',t')) (hv:∀(s:Shared)(Q:Bool->Shared->Prop),s.heap.get? T=o0->Q true s->ah (aq prog w) A (fM 8 (.ref T)) Q E s) (hT:s.heap.get? T=o0)
  (q:∀ h' jR,fq h' a jR t'->jR.map (·.1)=hs'->ke a s.heap h'->Q true {s with heap:=h'}) :
  ah (aq prog w) A (setAddHashed a (.ref T) h) Q E s:=by
 obtain(⟨o,ep,ho,hex,hd,hf⟩):=S;have S:fq s.heap a es t:=⟨o,ep,ho,hex,hd,hf⟩;have hsa:(λi:Nat=>((es.map (λe:Int×Value=>e.1))[i]?).getD 0)=λi=>(es[i]?.map (λe:Int×Value=>e.1)).getD 0:=by funext i;rw[vD]
 unfold n6 at lay;rw[hsa] at lay;split at lay
 ·cases lay
 next hgw =>
 split at lay
 next j hp =>
  dsimp only at lay;split at lay
  ·cases lay
  next pP =>
  simp only[wl,wn,decide_eq_true_eq,not_or,Bool.not_eq_false,Xa] at pP;obtain(⟨⟨pP,bE⟩,hz⟩):=pP;rw[<- zct (x:=.ref T)] at pP hz lay;rw[Uo] at pP hz;unfold setAddHashed setAddHashedIn;refine aF (ae (cF ho hd hf ?_));dsimp only;rw[if_neg (by simp[byScan,Value.scannable])];unfold setSearch setSearchFrom;refine ae (ae (cF ho hd hf ?_));dsimp only;rw[if_neg hgw];split
  next met hm =>
   have e:=gb.inj ((show t.probe (λi=>(es[i]?.map (λe:Int×Value=>e.1)).getD 0) h (t.probeStart h)=some met from hm).symm.trans hp);subst e;dsimp only;refine ag ?_;dsimp only;refine ae (cF ho hd hf ?_);dsimp only;rw[if_pos bE];generalize hes1:Ko es (t.put j).snd (h,ka T)=nD at *;generalize (t.put j).fst=t1 at *;refine ae (hv _ _ hT ?_);simp only[if_true];refine ae (gY ho hd ?_ (Xe (Uv hz) (by decide)));have S1:=S.put nD t1 pP;have LJ:=Gm s.heap a (Kl nD t1);generalize s.heap.update a (Kl nD t1)=h1 at *;split at lay
   next F9 =>
    split at lay
    ·cases lay
    next hsz =>
    simp only[decide_eq_true_eq] at hsz;split at lay
    next t2 order AE =>
     split at lay
     next hc =>
      simp only[Xa,beq_iff_eq] at hc;obtain(⟨⟨hc1,tH⟩,hc3⟩):=hc;rw[if_pos (by rw[F9];rfl)];obtain(⟨o1,ep1,GF,GX,mN,_⟩):=S1;unfold setRelay;refine ae (ae (cF (s:={s with heap:=h1}) GF mN pP ?_));dsimp only;rw[Uo] at hsz;rw[if_neg hsz];rw[Uo] at AE;rw[AE];have gW:(order.filterMap (nD[·]?)).size=nD.size:=by
       have:=hc1;rw[Uo,<- IB,Uo] at this;exact this
      refine ae ?_;show ah _ _ (do
       if(order.filterMap (nD[·]?)).size != nD.size then unsupported "internal:set-table-lost-an-element"
       pure (order.filterMap (nD[·]?),t2)) _ _ _
      rw[if_neg (by rw[gW];simp)];refine ag ?_;dsimp only;have S1':fq h1 a nD t1:=⟨o1,ep1,GF,GX,mN,pP⟩;refine gY (s:={s with heap:=h1}) GF mN (ag ?_) (by rw[gW];exact Xe (Uv hz) (by decide));have hf2:t2.fits (order.filterMap (nD[·]?)).size=true:=by
       have:=tH;rw[<- IB,Uo] at this;exact this
      have S2:=S1'.put _ t2 hf2;have e2:=IB nD order;cases lay;exact q _ _ S2 e2 (LJ.trans (Gm h1 a _))
     next=>cases lay
    next=>cases lay
   next F9 =>
    cases lay;rw[if_neg (by simpa using F9)];exact ag (q _ _ S1 rfl LJ)
  next hm =>
   exact absurd ((show t.probe (λi=>(es[i]?.map (λe:Int×Value=>e.1)).getD 0) h (t.probeStart h)=none from by
    cases e:t.probe (λi=>(es[i]?.map (λe:Int×Value=>e.1)).getD 0) h (t.probeStart h) with
    |none=>rfl
    |some met=>exact absurd e (hm met)).symm.trans hp) (by simp)
 next=>cases lay
end
noncomputable abbrev t8(k:Int×Int):List Key:=[(Jb k.1:Key),Jb k.2]
noncomputable def yM(prog:ao)(w:World)(k:Int×Int):Int:=(cz (yh prog w)).hash (t8 k)
noncomputable def QK(led:Bool)(l:List Int):Option (Array Int×SetTable):=l.foldlM (λst h=>n6 st.1 st.2 h) (#[],Jp 0 0 led)
theorem Qbw(led:Bool)(l:List Int)(h:Int):QK led (l++[h])=(QK led l).bind λst=>n6 st.1 st.2 h:=by
 unfold QK;rw[VD];cases List.foldlM (λst h=>n6 st.1 st.2 h) (#[],Jp 0 0 led) l with
 |none=>rfl
 |some st=>simp
theorem YbU(led:Bool)(l m:List Int){r:Array Int×SetTable}(h:QK led (l++m)=some r):∃ st,QK led l=some st:=by
 unfold QK at *;rw[VD] at h;cases e:List.foldlM (λst h=>n6 st.1 st.2 h) (#[],Jp 0 0 led) l with
 |none=>rw[e] at h;cases h
 |some st=>exact⟨st,rfl⟩
theorem Pf(led:Bool):∀(l:List Int)(s s':MP.LT),l.foldlM MP.i6 s=some s'->l.foldlM (λst h=>n6 st.1 st.2 h) (s.hs.toArray,mF s led)=some (s'.hs.toArray,mF s' led)
 |[],s,s',e=>by cases e;rfl
 |h::l,s,s',e=>by
  rw[List.foldlM_cons] at e ⊢;cases e1:MP.i6 s h with
  |none=>rw[e1] at e;cases e
  |some s1 =>
   rw[e1] at e;dsimp only;rw[qcI s s1 led h e1];exact Pf led l s1 s' e
theorem ycr{l:List Int}{s':MP.LT}(led:Bool)(e:MP.j7 l=some s'):QK led l=some (s'.hs.toArray,mF s' led):=Pf led l ⟨[],7,[],0⟩ s' e
theorem Qa9{P:ao}{w:World}{k:Int×Int}(h:HV k):yM P w k=MP.l8 k:=by
 obtain⟨a,b⟩:=k;obtain⟨⟨a0,a1⟩,b0,b1⟩:=h;simp only at a0 a1 b0 b1;obtain⟨a,rfl⟩:=Wf a0;obtain⟨b,rfl⟩:=Wf b0;have la:a<tX:=by unfold tX;lia
 have lb:b<tX:=by unfold tX;lia
 show reduceHash (Jk [kx a,kx b])=_;rw[zU a la,zU b lb];rfl
theorem Qcm{k:Int×Int}{vs:List Value}{prog:ao}{w:World}(h:ItemsAre (yh prog w) (t8 k) vs):∀ v∈vs,∃ i t,v=Ja i t:=by
 cases h with
 |cons h1 t1 =>
  cases t1 with
  |cons h2 t2 =>
   cases t2;intro v hv;have f:∀{i:Int}{v:Value},pI (Jb i) v=true->∃ i t,v=Ja i t:=λ{i v} q=>by
    rcases yj q with ⟨j,u,e,rfl⟩|⟨y,u,e,_⟩
    ·exact⟨j,u,rfl⟩
    ·cases e
   simp only[ua,uc,or_false] at hv
   rcases hv with rfl|rfl
   ·exact f h1
   ·exact f h2
section
variable {prog:ao} {w:World} {A:Around} {R:jB->Shared->Prop} {D I l:af} {items:Array Value} {h₀:Heap}
def Ycz(prog:ao)(w:World)(h:Heap)(items:Array Value)(ks:List (Int×Int)):Prop :=
 ∀(i:Nat)(v:Value),items[i]?=some v->∃ T k,v=.ref T/\ks[i]?=some k/\(cz (yh prog w)).is h (t8 k) T
theorem Qcf(hu:A.units+2<dY)(hh:A.handled=none)(ks:List (Int×Int))(hks:ks.length=items.size)(G9:D≠I)(hlI:l≠I)(hlD:l≠D)(led:Bool){Gu:Array Int}{tN:SetTable}(lay:QK led (ks.map (yM prog w))=some (Gu,tN))
  (xY:∀ h',(∀ b o,b≠D->b≠I->h₀.get? b=some o->h'.get? b=some o)->Ycz prog w h' items ks) :
  ∀(m i:Nat)(s:Shared)(es:Array (Int×Value)) (t:SetTable),items.size-i=m->i<=items.size->s.heap.IsListIter I l i->s.heap.IsList l items->(∀ b o,b≠D->b≠I->h₀.get? b=some o->s.heap.get? b=some o) ->
  fq s.heap D es t->QK led ((ks.take i).map (yM prog w))=some (es.map (·.1),t) ->
  (∀ h' tk jR,fq h' D jR tN->jR.map (·.1)=Gu->(∀ b o,b≠D->b≠I->h₀.get? b=some o->h'.get? b=some o)->R (.ok (.ret .none)) {s with heap:=h',toks:=tk}) ->
  bL (aq prog w) A (.builtin "set.update.loop" ⟨[.ref D,.ref I],[]⟩) R s:=by
 intro m
 induction m with
 |zero =>
  intro i s es t hm hi st hl hk hd CZ hR;have Nh:i=items.size:=by lia
  refine fo Kr ?_;rw[kh kr _];show ah _ A.in1 (bJ (.ref I) >>= _) _ _ s;refine ae (fw hh st hl (by simp[Nh]) λh' eb=>?_);show ah _ A.in1 (ret Ka) _ _ _;rw[Nh,<- hks,wm,lay] at CZ;cases CZ;obtain⟨o,ep,ho,rest⟩:=hd;exact ag (hR h' _ es ⟨o,ep,eb D o G9 ho,rest⟩ rfl λb o h1 h2 e=>eb b o h2 (hk b o h1 h2 e))
 |succ m ih =>
  intro i s es t hm hi st hl hk hd CZ hR;have ir:i<items.size:=by lia
  refine fo Kr ?_;rw[kh kr _];show ah _ A.in1 (bJ (.ref I) >>= _) _ _ s;refine ae (eY st hl (x:=items[i]) (by simp[ir]) λh' jX sb=>?_);have Na:∀ b o,b≠D->b≠I->h₀.get? b=some o->h'.get? b=some o:=λb o h1 h2 e=>(sb.2 b h2).trans (hk b o h1 h2 e);obtain⟨T,k,e1,e2,e3⟩:=xY h' Na i items[i] (by simp[ir]);have AS:fq h' D es t:=by
   obtain⟨o,ep,ho,rest⟩:=hd;exact⟨o,ep,(sb.2 D G9).trans ho,rest⟩
  have Dc:=e3;obtain⟨oT,its,nT,t1,t2,t3,t4⟩:=Dc;have tk1:(ks.take (i+1)).map (yM prog w)=(ks.take i).map (yM prog w)++[yM prog w k]:=by
   rw[Ui,e2];simp
  obtain⟨k9,AA⟩:=YbU led ((ks.take (i+1)).map (yM prog w)) ((ks.drop (i+1)).map (yM prog w)) (r:=(Gu,tN)) (by rw[<- vf,List.take_append_drop];exact lay);have ny:n6 (es.map (·.1)) t (yM prog w k)=some k9:=by
   have:=AA;rw[tk1,Qbw,CZ] at this;exact this
  rw[e1];show ah _ A.in1 (ee [ka T] (setAdd D (.ref T)) >>= _) _ _ _;refine ae (aF ?_);unfold setAdd;refine aF ?_;refine ae ((cz (yh prog w)).pyHash (gO (by lia)) e3 ?_);refine qcx (o0:=some oT) (t':=k9.2) (hs':=k9.1) AS ny (λs' Q hT q=>Ycq (its:=its) ⟨oT,hT,t2,nT,t3⟩ (Qcm t4) q) t1 λtI Hy G1 em rK=>?_;refine ag ⟨plainId_quiet kr _,?_⟩;have GO:∀ b o,b≠D->b≠I->h₀.get? b=some o->tI.get? b=some o:=λb o h1 h2 e=>(rK.2 b h1).trans (Na b o h1 h2 e);refine ih (i+1) _ Hy k9.2 (by lia) ir (jX.at λo e=>(rK.2 I (Gd G9)).trans e) (hl.at λo e=>(rK.2 l hlD).trans ((sb.2 l hlI).trans e)) GO G1 (by rw[AA,em]) λh3 tk nC hd3 em3 M'=>hR h3 tk nC hd3 em3 M'
end
end L3
end
section
namespace L3
open PySem PySem.Spec PyProof.Rows L2 M3
section
variable {prog:ao} {w:World} {A:Around} {E:Value->Shared->Prop} {s:Shared}
noncomputable abbrev rn(led:Bool):Obj:={cls:=.type "set",dict:=none,data:=.set #[] 0 (.fresh 0 0 led)}
theorem ybi{l:Value}{Q:Value->Shared->Prop}
  (AI:∀ led:Bool,ah (aq prog w) A.in1.in1 (Builtin.«set.__init__» ⟨[.ref s.heap.objs.size,l],[]⟩)
    (λfin s'=>match fin with | .done f=>wants (λr s₂=>r=.none/\Q (.ref s.heap.objs.size) s₂) E (.ok f) s' | .again c'=>c'.quiet=true/\bL (aq prog w) A.in1 c' (wants (λr s₂=>r=.none/\Q (.ref s.heap.objs.size) s₂) E) s')
    (λe s'=>wants (λr s₂=>r=.none/\Q (.ref s.heap.objs.size) s₂) E (.error e) s') {s with heap:=s.heap.push (rn led)}) :
  ah (aq prog w) A (call (.type "set") [l]) Q E s:=by
 have ft:=F.called_set;obtain⟨c,tl,hmro⟩:=ft.mro;have q1:=ft.made;have q2:=ft.sub;refine gL (codeAny_of_tree ?_);show ah _ _ (callAny (.type "set") ⟨[l],[]⟩) _ _ _;refine ag ⟨jD.quiet_builtin _ (by decide +kernel),?_⟩;refine fo F.entry_type_call ?_;rw[Around.under_plain (weight_type_call_type "set" [l] []) rfl];have q3:=ft.notType;have q4:=ft.canCreate;have q5:=F.typeCall_set_1 l
 repeat' (first|assumption|wp_step)
 refine cQ (code_set_new_1 l (E:=E) (Q₁:=λu s₁=>∃ led,u=.ref s.heap.objs.size/\s₁={s with heap:=s.heap.push (rn led)}) λled=>⟨led,rfl,rfl⟩) λr s₁ hr=>?_
 match r,hr with
 |.error e,hr=>exact hr
 |.ok (.ret obj),hr =>
  obtain⟨led,rfl,rfl⟩:=hr;have hS:(s.heap.push (rn led)).get? s.heap.objs.size=some (rn led):=Xb _ rfl;have hT:jn {s with heap:=s.heap.push (rn led)} (.ref s.heap.objs.size) "set":=⟨_,hS,rfl⟩;have q6:=ft.init.lookup;have q7:=ft.init.bind (.ref s.heap.objs.size)
  repeat' (first|assumption|wp_step)
  refine cQ (fQ ft.init.plain F.entry_set_init (check_set_init_1 hT (AI led))) λr₂ s₂ AD=>?_
  match r₂,AD with
  |.error e,AD=>exact AD
  |.ok (.ret r),AD =>
   obtain⟨rfl,hq⟩:=AD
   repeat' (first|assumption|wp_step)
end
noncomputable def sO(n:Nat)(p:af):HO:=.ext λh=>∃ es t,fq h p es t/\es.size=n
def Fm(H:Hp):List V->List (Int×Int)->Prop:=bX λv k=>∃ T,v=V.ref T/\H T=some (.tup [.int k.1,.int k.2])
def mY:List V->Hp->VK->Prop:=λxs H Q=>∃ a vs ks,xs=[.ref a]/\Rd H a (.lst vs)/\Fm H vs ks/\(∀ k∈ks,HV k)/\MP.rT ks=true/\∀ p,H p=none->Q (.ref p) (upd H p (sO ks.length p))
theorem kS{P:ao}{w:World}{H:Hp}{h:Heap}(ok:fu P w H h):∀{vs:List V}{ks:List (Int×Int)} {us:List Value},Fm H vs ks->Vals vs us ->
  ks.length=us.length/\∀(i:Nat)(v:Value),us[i]?=some v->∃ T k,v=.ref T/\ks[i]?=some k/\(cz (yh P w)).is h (t8 k) T
 |_,_,_,.nil,.nil=>⟨rfl,λi v e=>by simp at e⟩
 |_,_,_,.cons (a:=v) (b:=k) hv tv,.cons (b:=u) hu tu=>by
  obtain⟨k1,k2⟩:=kS ok tv tu;obtain⟨T,rfl,hT⟩:=hv;obtain rfl:u=ka T:=hu;refine⟨by simp[k1],λi v e=>?_⟩;cases i with
  |zero=>simp at e;subst e;exact⟨T,_,rfl,rfl,Fn ok (ks:=t8 k) hT⟩
  |succ i=>simpa using k2 i v (by simpa using e)
section
variable {X:Cx}
theorem ybH(hc:X.calm=true)(hu:X.A.units+5<dY):aH X (.type "set") mY:=by
 intro pins s σ H xs us Q I r h;obtain⟨a,vs,ks,rfl,ha,cv,hsm,mv,q⟩:=h;obtain rfl:=ZB r;obtain⟨_,its,n,rv,hg⟩:=ha.ok I.aR;obtain⟨k1,k2⟩:=kS I.aR cv rv;have hh:=I.ok.hd hc;have MI:a<s.heap.objs.size:=Va hg;refine ybi λled=>?_;generalize AH:s.heap.push (rn led)=h1;have G':h1.get? s.heap.objs.size=some (rn led):=by rw[<- AH];exact Xb _ rfl
 have MQ:∀ b o,s.heap.get? b=some o->h1.get? b=some o:=λb o e=>by rw[<- AH];exact wa _ e
 have Nk:=MQ _ _ hg;have S0:fq h1 s.heap.objs.size #[] (.fresh 0 0 led):=⟨_,0,G',⟨rfl,rfl,rfl⟩,rfl,rfl⟩;obtain⟨st,F',hsz⟩:∃ st,QK led (ks.map (yM X.prog X.w))=some st/\st.1.size=ks.length:=by
  have e:ks.map (yM X.prog X.w)=ks.map MP.l8:=Vs λk hk=>Qa9 (hsm k hk);rw[e];unfold MP.rT MP.layB at mv;cases e2:MP.j7 (ks.map MP.l8) with
  |none=>rw[e2] at mv;cases mv
  |some s' =>
   rw[e2] at mv;exact⟨_,ycr led e2,by simpa using mv⟩
 have ny:h1.IsList a its.toArray:=⟨_,Nk,rfl,n,rfl⟩;have z1:=F.sub_list_set;have z2:=F.sub_list_frozenset;have z3:(Ha "list" == Ha "dict")=false:=by decide
 unfold Builtin.«set.__init__» noKeywords Builtin.Frozenset.updateFrom;generalize hPI:gQ=PI;have hT:jn {s with heap:=h1} (.ref s.heap.objs.size) "set":=⟨_,G',rfl⟩;have CU:=Nk;have hlS:=FO
 wp_walk
 subst hPI;refine d3 ny ?_;refine ae (wpAny_runValue ?_);generalize M7:h1.push {cls:=.type "list_iterator",data:=.fields #[.ref a,.int 0 0]}=h3;have MO:∀ b o,h1.get? b=some o->h3.get? b=some o:=λb o e=>by rw[<- M7];exact wa _ e
 have kp:∀ b o,s.heap.get? b=some o->h3.get? b=some o:=λb o e=>MO _ _ (MQ _ _ e);have CA:s.heap.objs.size<h1.objs.size:=Va G';have hh3:X.A.in1.in1.handled=none:=hh;refine Qcf (A:=X.A.in1.in1) (D:=s.heap.objs.size) (I:=h1.objs.size) (l:=a) (items:=its.toArray) (h₀:=s.heap) (by show X.A.units+1+1+2<dY;lia) hh3 ks (by simp[k1]) (Xc CA) (Xc (vt MI CA)) (Xc MI) led F'
  (λh' kk i v e=>?_) its.toArray.size 0 _ #[] (.fresh 0 0 led) (by simp) (Xq _) ?_ ?_ ?_ ?_ (by simp[QK]) λh' tk jR hd em hk=>?_
 ·obtain⟨T,k,e1,e2,oK,iK,nK,q1,q2⟩:=k2 i v (by simpa using e);have up:∀ b o,s.heap.get? b=some o->h'.get? b=some o:=λb o e=>kk b o (Xc (Va e)) (Xc (vt (Va e) CA)) e;exact⟨T,k,e1,e2,oK,iK,nK,up _ _ q1,q2⟩
 ·exact⟨_,by rw[<- M7];exact Xb _ rfl,rfl,rfl⟩
 ·exact⟨_,kp _ _ hg,rfl,n,rfl⟩
 ·exactλb o _ _ e=>kp _ _ e
 ·obtain⟨o,ep,ho,rest⟩:=S0;exact⟨o,ep,MO _ _ ho,rest⟩
 ·have up:∀ b o,s.heap.get? b=some o->h'.get? b=some o:=λb o e=>hk b o (Xc (Va e)) (Xc (vt (Va e) CA)) e;have fr:H s.heap.objs.size=none:=I.aR.fresh (vb _);have hz:jR.size=ks.length:=by rw[<- hsz,<- em,Uo]
  show ah _ _ _ _ _ _;refine ag ?_;show ah _ _ (ret Ka) _ _ _;refine ag ⟨rfl,.ref s.heap.objs.size,_,I.laid (a:=s.heap.objs.size) (o:=sO ks.length s.heap.objs.size) (t':=tk) up (vb _) ?_,rfl,q _ fr⟩;obtain⟨o,ep,ho,rest⟩:=hd;refine⟨⟨jR,_,⟨o,ep,ho,rest⟩,hz⟩,⟨o,ho⟩,?_⟩;rintro g1 g2 ⟨es,t,⟨o',A2,kF,vS⟩,hz'⟩ kk;exact⟨es,t,⟨o',A2,kk _ kF,vS⟩,hz'⟩
theorem ZbV:aH X (.builtin "len") (λxs H Q=>∃ p n,xs=[.ref p]/\H p=some (sO n p)/\n<1000000/\Q (.int n) H):=by
 intro pins s σ H xs us Q I r h;obtain⟨p,n,rfl,hp,hn,q⟩:=h;obtain rfl:=ZB r;obtain⟨⟨es,t,⟨o,ep,ho,hex,hd,hf⟩,hz⟩,_⟩:=(show ba X.prog X.w H s.heap p (sO n p) from I.aR p _ hp);subst hz;exact call_len_set ho hex hd hf (by lia) ⟨.int es.size,H,I.tok _,⟨_,rfl⟩,q⟩
end
end L3
end
section
namespace M3
open PySem
open Sem (wp)
abbrev ZN(h:Heap)(z TI TO:af)(p:af)(fl:Bool):Prop :=
 h.get? z=some {cls:=.type "zip",dict:=none,data:=.fields #[bg p,.bool fl,.bool false,.ref TI,.ref TO],slots:=#[]}
section
variable {prog:ao} {w:World} {A:Around} {E:Value->Shared->Prop} {s:Shared}
variable {z TI TO i1 i2 p:af} {gE gD:List af} {n1 n2 k:Nat} {P1 P2:Nat->Value->Prop} {S1 S2:Nat->Heap->Prop} {fl:Bool}
theorem qbR{Q:Value->Shared->Prop}(Z:lR z TI TO i1 i2 gE gD)(D1:bC prog w A i1 gE n1 P1 S1)(D2:bC prog w A i2 gD n2 P2 S2)(hz:ZN s.heap z TI TO p fl)(hp:∃ o,s.heap.get? p=some o)(hI:aE s.heap TI (.ref i1) (.ref i2))
  (s1:S1 k s.heap) (s2:S2 k s.heap) (k1:k<n1) (k2:k<n2)
  (hQ:∀ x y h' tk,P1 k x->P2 k y->ZN h' z TI TO p true->S1 (k+1) h'->S2 (k+1) h'->aE h' s.heap.objs.size x y->h'.objs.size=s.heap.objs.size+1 ->
   (∀ c o,c≠z->c≠i1->c≠i2->s.heap.get? c=some o->h'.get? c=some o)->Q (.ref s.heap.objs.size) {s with heap:=h',toks:=tk}) :
  ah (aq prog w) A (Builtin.«zip.__next__» ⟨[.ref z],[]⟩) (λfin s'=>∃ v,fin=.done (.ret v)/\Q v s') E s:=by
 have mr:i1≠z:=λe=>Z.z1 (e ▸ Z.m1);have nq:i2≠z:=λe=>Z.z2 (e ▸ Z.m2);have i12:i1≠i2:=λe=>Z.a1 (e ▸ Z.m2);show ah _ _ (field (.ref z) 2 >>= _) _ _ _;refine ae (ar hz rfl (x:=.bool false) rfl ?_);show ah _ _ (field (.ref z) 3 >>= _) _ _ _;refine ae (ar hz rfl (x:=.ref TI) rfl ?_);refine ae (aC hI rfl ?_);show ah _ _ (Hm (.ref z) >>= _) _ _ _;refine ae ?_;unfold Hm;refine ae (ar hz rfl (x:=bg p) rfl ?_);obtain⟨op,GB⟩:=hp;show ah _ _ (loadIfAlive ((p:Int)).toNat >>= _) _ _ _;rw[Wh];refine ae (WF GB ?_);rw[if_neg (by simp)];refine ae (ar hz rfl (x:=.bool fl) rfl ?_);cases fl
 case true =>
  rw[if_neg (by decide)];refine ag ?_;obtain⟨h1,pO⟩:∃ h1,h1=s.heap:=⟨_,rfl⟩;have y1:ZN h1 z TI TO p true:=by rw[pO];exact hz
  have g1:ke z s.heap h1:=by rw[pO];exact kn z s.heap
  have es:s={s with heap:=h1}:=by subst pO;rfl
  rw[if_neg (by decide),es];refine ae ?_;show ah _ _ (forIn #[ka i1,ka i2] _ _) _ _ _;rw[<- Wq];simp only[Vk,Xn];refine ae (ae (aF ?_));show ah _ _ (Jm (.ref i1) >>= _) _ _ _;refine ae (D1.item k _ _ _ k1 (D1.frame _ _ _ s1 λc hc o e=>g1.extBut c o (λq=>Z.z1 (q ▸ hc)) e) λx h2 t2 px q2 g2=>ag ?_);refine ag ?_;dsimp only;refine ae (ae (aF ?_));show ah _ _ (Jm (.ref i2) >>= _) _ _ _;refine ae (D2.item k _ _ _ k2 (D2.frame _ _ _ s2 λc hc o e=>g2.extBut c o (λq=>Z.a1 (q ▸ hc)) (g1.extBut c o (λq=>Z.z2 (q ▸ hc)) e)) λy h4 t4 py q4 g4=>ag ?_);refine ag ?_;dsimp only;refine ag ?_;dsimp only;show ah _ _ (kM [x,y] >>= _) _ _ _;refine ae (dE ?_);refine ag ⟨_,rfl,?_⟩;have sz:h4.objs.size=s.heap.objs.size:=by rw[g4.1,g2.1,g1.1]
  have keep:∀ c o,c≠z->c≠i1->c≠i2->s.heap.get? c=some o->h4.get? c=some o:=λc o c1 c2 c3 e=>g4.extBut _ _ c3 (g2.extBut _ _ c2 (g1.extBut _ _ c1 e));show Q (.ref h4.objs.size) _;rw[sz];refine hQ x y _ t4 px py (wa _ (g4.extBut _ _ (Gd nq) (g2.extBut _ _ (Gd mr) y1))) (D1.frame _ _ _ q2 λc hc o e=>wa _ (g4.extBut c o (λq=>Z.a2 (q ▸ hc)) e)) (D2.frame _ _ _ q4 λc hc o e=>wa _ e) ?_ ?_ λc o c1 c2 c3 e=>wa _ (keep c o c1 c2 c3 e)
  ·show(h4.push _).get? s.heap.objs.size=_;rw[<- sz];exact Xb _ rfl
  ·rw[vg,sz]
 case false =>
  rw[if_pos (by decide)];refine ae (ay hz (by simp) λh1 y1 g1=>?_);replace y1:ZN h1 z TI TO p true:=y1;refine ag ?_;rw[if_neg (by decide)];refine ae ?_;show ah _ _ (forIn #[ka i1,ka i2] _ _) _ _ _;rw[<- Wq];simp only[Vk,Xn];refine ae (ae (aF ?_));show ah _ _ (Jm (.ref i1) >>= _) _ _ _;refine ae (D1.item k _ _ _ k1 (D1.frame _ _ _ s1 λc hc o e=>g1.extBut c o (λq=>Z.z1 (q ▸ hc)) e) λx h2 t2 px q2 g2=>ag ?_);refine ag ?_;dsimp only;refine ae (ae (aF ?_));show ah _ _ (Jm (.ref i2) >>= _) _ _ _;refine ae (D2.item k _ _ _ k2 (D2.frame _ _ _ s2 λc hc o e=>g2.extBut c o (λq=>Z.a1 (q ▸ hc)) (g1.extBut c o (λq=>Z.z2 (q ▸ hc)) e)) λy h4 t4 py q4 g4=>ag ?_);refine ag ?_;dsimp only;refine ag ?_;dsimp only;show ah _ _ (kM [x,y] >>= _) _ _ _;refine ae (dE ?_);refine ag ⟨_,rfl,?_⟩;have sz:h4.objs.size=s.heap.objs.size:=by rw[g4.1,g2.1,g1.1]
  have keep:∀ c o,c≠z->c≠i1->c≠i2->s.heap.get? c=some o->h4.get? c=some o:=λc o c1 c2 c3 e=>g4.extBut _ _ c3 (g2.extBut _ _ c2 (g1.extBut _ _ c1 e));show Q (.ref h4.objs.size) _;rw[sz];refine hQ x y _ t4 px py (wa _ (g4.extBut _ _ (Gd nq) (g2.extBut _ _ (Gd mr) y1))) (D1.frame _ _ _ q2 λc hc o e=>wa _ (g4.extBut c o (λq=>Z.a2 (q ▸ hc)) e)) (D2.frame _ _ _ q4 λc hc o e=>wa _ e) ?_ ?_ λc o c1 c2 c3 e=>wa _ (keep c o c1 c2 c3 e)
  ·show(h4.push _).get? s.heap.objs.size=_;rw[<- sz];exact Xb _ rfl
  ·rw[vg,sz]
theorem ZbX{Q:Fin->Shared->Prop}(Z:lR z TI TO i1 i2 gE gD)(D1:bC prog w A i1 gE n1 P1 S1)(D2:bC prog w A i2 gD n2 P2 S2)(hz:ZN s.heap z TI TO p fl)(hp:∃ o,s.heap.get? p=some o)(hI:aE s.heap TI (.ref i1) (.ref i2))
  (s1:S1 k s.heap) (s2:S2 k s.heap) (hk:k=n1\/(k<n1/\k=n2))
  (hE:∀ h' e,(∀ c o,c≠z->c≠i1->c≠i2->s.heap.get? c=some o->h'.get? c=some o)->(∃ o,h'.get? e=some o/\o.cls=.type "StopIteration")->∀ tk,E (.ref e) {s with heap:=h',toks:=tk}) :
  ah (aq prog w) A (Builtin.«zip.__next__» ⟨[.ref z],[]⟩) Q E s:=by
 have mr:i1≠z:=λe=>Z.z1 (e ▸ Z.m1);have nq:i2≠z:=λe=>Z.z2 (e ▸ Z.m2);have i12:i1≠i2:=λe=>Z.a1 (e ▸ Z.m2);show ah _ _ (field (.ref z) 2 >>= _) _ _ _;refine ae (ar hz rfl (x:=.bool false) rfl ?_);show ah _ _ (field (.ref z) 3 >>= _) _ _ _;refine ae (ar hz rfl (x:=.ref TI) rfl ?_);refine ae (aC hI rfl ?_);show ah _ _ (Hm (.ref z) >>= _) _ _ _;refine ae ?_;unfold Hm;refine ae (ar hz rfl (x:=bg p) rfl ?_);obtain⟨op,GB⟩:=hp;show ah _ _ (loadIfAlive ((p:Int)).toNat >>= _) _ _ _;rw[Wh];refine ae (WF GB ?_);rw[if_neg (by simp)];refine ae (ar hz rfl (x:=.bool fl) rfl ?_);cases fl
 case true =>
  rw[if_neg (by decide)];refine ag ?_;obtain⟨h1,pO⟩:∃ h1,h1=s.heap:=⟨_,rfl⟩;have g1:ke z s.heap h1:=by rw[pO];exact kn z s.heap
  have es:s={s with heap:=h1}:=by subst pO;rfl
  rw[if_neg (by decide),es];refine ae ?_;show ah _ _ (forIn #[ka i1,ka i2] _ _) _ _ _;rw[<- Wq];simp only[Vk,Xn];refine ae (ae (aF ?_));show ah _ _ (Jm (.ref i1) >>= _) _ _ _;have f1:S1 k h1:=D1.frame _ _ _ s1 λc hc o e=>g1.extBut c o (λq=>Z.z1 (q ▸ hc)) e
  rcases hk with hk|⟨k1,hk⟩
  ·refine ae (D1.done _ _ _ (hk ▸ f1) λh2 e g2 he=>?_);exact hE h2 e (λc o c1 c2 c3 q=>g2 _ _ c2 (g1.extBut _ _ c1 q)) he _
  ·refine ae (D1.item k _ _ _ k1 f1 λx h2 t2 px q2 g2=>ag ?_);refine ag ?_;dsimp only;refine ae (ae (aF ?_));show ah _ _ (Jm (.ref i2) >>= _) _ _ _;have f2:S2 k h2:=D2.frame _ _ _ s2 λc hc o e=>g2.extBut c o (λq=>Z.a1 (q ▸ hc)) (g1.extBut c o (λq=>Z.z2 (q ▸ hc)) e);refine ae (D2.done _ _ _ (hk ▸ f2) λh4 e g4 he=>?_);exact hE h4 e (λc o c1 c2 c3 q=>g4 _ _ c3 (g2.extBut _ _ c2 (g1.extBut _ _ c1 q))) he _
 case false =>
  rw[if_pos (by decide)];refine ae (ay hz (by simp) λh1 y1 g1=>?_);refine ag ?_;rw[if_neg (by decide)];refine ae ?_;show ah _ _ (forIn #[ka i1,ka i2] _ _) _ _ _;rw[<- Wq];simp only[Vk,Xn];refine ae (ae (aF ?_));show ah _ _ (Jm (.ref i1) >>= _) _ _ _;have f1:S1 k h1:=D1.frame _ _ _ s1 λc hc o e=>g1.extBut c o (λq=>Z.z1 (q ▸ hc)) e
  rcases hk with hk|⟨k1,hk⟩
  ·refine ae (D1.done _ _ _ (hk ▸ f1) λh2 e g2 he=>?_);exact hE h2 e (λc o c1 c2 c3 q=>g2 _ _ c2 (g1.extBut _ _ c1 q)) he _
  ·refine ae (D1.item k _ _ _ k1 f1 λx h2 t2 px q2 g2=>ag ?_);refine ag ?_;dsimp only;refine ae (ae (aF ?_));show ah _ _ (Jm (.ref i2) >>= _) _ _ _;have f2:S2 k h2:=D2.frame _ _ _ s2 λc hc o e=>g2.extBut c o (λq=>Z.a1 (q ▸ hc)) (g1.extBut c o (λq=>Z.z2 (q ▸ hc)) e);refine ae (D2.done _ _ _ (hk ▸ f2) λh4 e g4 he=>?_);exact hE h4 e (λc o c1 c2 c3 q=>g4 _ _ c3 (g2.extBut _ _ c2 (g1.extBut _ _ c1 q))) he _
theorem Qaa{Q:Option Value->Shared->Prop}(Z:lR z TI TO i1 i2 gE gD)(D1:bC prog w A.in1 i1 gE n1 P1 S1)(D2:bC prog w A.in1 i2 gD n2 P2 S2)(hz:ZN s.heap z TI TO p fl)(hp:∃ o,s.heap.get? p=some o)(hI:aE s.heap TI (.ref i1) (.ref i2))
  (s1:S1 k s.heap) (s2:S2 k s.heap) (k1:k<n1) (k2:k<n2)
  (hQ:∀ x y h' tk,P1 k x->P2 k y->ZN h' z TI TO p true->S1 (k+1) h'->S2 (k+1) h'->aE h' s.heap.objs.size x y->h'.objs.size=s.heap.objs.size+1 ->
   (∀ c o,c≠z->c≠i1->c≠i2->s.heap.get? c=some o->h'.get? c=some o)->Q (some (.ref s.heap.objs.size)) {s with heap:=h',toks:=tk}) :
  ah (aq prog w) A (bJ (.ref z)) Q E s:=by
 have ty:s.TypeIs (.ref z) "zip":=⟨_,hz,rfl⟩;unfold bJ;refine ae (bY (az (name:=kg "__next__") ty jh (aM jh ty gh ?_ (Jh _))));exact qbR Z D1 D2 hz hp hI s1 s2 k1 k2 λx y h' tk p1 p2 e1 e3 e4 e5 e6 e7=>ag (hQ x y h' tk p1 p2 e1 e3 e4 e5 e6 e7)
theorem Qai{Q:Option Value->Shared->Prop}(Z:lR z TI TO i1 i2 gE gD)(D1:bC prog w A.in1 i1 gE n1 P1 S1)(D2:bC prog w A.in1 i2 gD n2 P2 S2)(hz:ZN s.heap z TI TO p fl)(hp:∃ o,s.heap.get? p=some o)(hI:aE s.heap TI (.ref i1) (.ref i2))
  (s1:S1 k s.heap) (s2:S2 k s.heap) (hk:k=n1\/(k<n1/\k=n2))
  (hQ:∀ h' tk,(∀ c o,c≠z->c≠i1->c≠i2->s.heap.get? c=some o->h'.get? c=some o)->Q none {s with heap:=h',toks:=tk}) :
  ah (aq prog w) A (bJ (.ref z)) Q E s:=by
 have ty:s.TypeIs (.ref z) "zip":=⟨_,hz,rfl⟩;unfold bJ;refine ae (bY (az (name:=kg "__next__") ty jh (aM jh ty gh ?_ (Jh _))));refine ZbX Z D1 D2 hz hp hI s1 s2 hk λh' e kk ho tk=>?_;obtain⟨o,e1,e2⟩:=ho;exact ae (eL (T:="StopIteration") (b:=true) ⟨o,e1,e2⟩ fL (ag (hQ h' tk kk)))
end
end M3
end
section
namespace L3
noncomputable def j9(k:Int):List Int->Option Nat
 |[]=>none
 |x::r=>if x=k then some 0 else(j9 k r).map (· + 1)
end L3
end
section
namespace L3
open PySem PySem.Spec PyProof.Rows L2 M3
theorem Pe(k:Int):∀{ns:List Int}{its:List Value},Vals (ns.map V.int) its->PySem.W.kf_ints its=true/\Jd k its=j9 k ns
 |[],its,r=>by
  have:its=[]:=r.zero;subst this;exact⟨rfl,rfl⟩
 |n::ns,its,r=>by
  cases r with
  |cons a b =>
   obtain⟨t,rfl⟩:=a;obtain⟨h1,h2⟩:=Pe k b;refine⟨h1,?_⟩;unfold Jd j9;rw[h2];by_cases e:n=k
   ·subst e;rw[if_pos rfl,show isInt n (.int n t)=true from beq_self_eq_true _];rfl
   ·rw[if_neg e,show isInt k (.int n t)=false from beq_false_of_ne e];cases j9 k ns <;> rfl
section
variable {X:Cx}
def QcH:V->List V->Hp->VK->Prop:=λx vs H Q=>∃ l ns k j,x=.ref l/\vs=[.int k]/\Rd H l (.lst (ns.map V.int))/\j9 k ns=some j/\Q (.int (j:Nat)) H
theorem qb9:BS X "list.index" QcH:=by
 intro pins s σ H x vs v us Q I rx rv h;obtain⟨l,ns,k,j,rfl,rfl,hH,hj,q⟩:=h;cases rx;obtain⟨u,rfl,ru⟩:=rv.one;obtain⟨t,rfl⟩:=ru;obtain⟨z,its,n,r,e⟩:=hH.ok I.aR;have hl:=r.length;obtain⟨h1,h2⟩:=Pe k r;rw[hj] at h2;obtain⟨a,b,c⟩:=PySem.W.kf_at_spec h2;rw[cC] at z;refine bF F.slot_list_index ⟨_,e,rfl⟩ F.entry_list_index (F.args_list_index_2 _ _)
  (MeetsSeq.list_index l its.toArray n (.int k t) (isInt k) (λy hy=>PySem.W.kf_eq h1 y (by simpa using hy)) j (by simpa using a) (by simp;lia) (by simpa using b) (λi hi ir=>(c i (by simpa using hi) ir:isInt k its[i]=false))) ⟨e,?_⟩
 exact⟨.int (j:Nat),_,I.tok _,⟨_,rfl⟩,q⟩
end
end L3
end
section
namespace M3
open PySem
open Sem (wp)
abbrev qE(h:Heap)(z TI TO:af)(v:Value)(fl:Bool):Prop :=
 h.get? z=some {cls:=.type "zip",dict:=none,data:=.fields #[v,.bool fl,.bool false,.ref TI,.ref TO],slots:=#[]}
section
variable {prog:ao} {w:World} {A:Around} {E:Value->Shared->Prop} {s:Shared}
theorem Py{a:af}{Q:Option Obj->Shared->Prop}(ho:s.heap.get? a=none)(h:Q none s):ah (aq prog w) A (loadIfAlive a) Q E s:=by
 have h':Q (s.heap.get? a) s:=by rw[ho];exact h
 exactλ_ _ _=>h'
variable {z TI TO i1 i2 p:af} {gE gD:List af} {n1 n2 k:Nat} {P1 P2:Nat->Value->Prop} {S1 S2:Nat->Heap->Prop} {fl:Bool} {a b:Value}
theorem YbI{Q:Value->Shared->Prop}(Z:lR z TI TO i1 i2 gE gD)(D1:bC prog w A i1 gE n1 P1 S1)(D2:bC prog w A i2 gD n2 P2 S2)(hz:qE s.heap z TI TO (bg p) fl)(hp:s.heap.get? p=none)(hI:aE s.heap TI (.ref i1) (.ref i2))(hO:aE s.heap TO a b)
  (s1:S1 k s.heap) (s2:S2 k s.heap) (k1:k<n1) (k2:k<n2)
  (hQ:∀ x y h' tk,P1 k x->P2 k y->cU h' z TI TO (bg s.heap.objs.size)->aE h' TO x y->S1 (k+1) h'->S2 (k+1) h'->aE h' s.heap.objs.size x y->h'.objs.size=s.heap.objs.size+1 ->
   (∀ c o,c≠z->c≠TO->c≠i1->c≠i2->s.heap.get? c=some o->h'.get? c=some o)->Q (.ref s.heap.objs.size) {s with heap:=h',toks:=tk}) :
  ah (aq prog w) A (Builtin.«zip.__next__» ⟨[.ref z],[]⟩) (λfin s'=>∃ v,fin=.done (.ret v)/\Q v s') E s:=by
 have mr:i1≠z:=λe=>Z.z1 (e ▸ Z.m1);have nq:i2≠z:=λe=>Z.z2 (e ▸ Z.m2);have oO:i1≠TO:=λe=>Z.t1 (e ▸ Z.m1);have oN:i2≠TO:=λe=>Z.t2 (e ▸ Z.m2);have i12:i1≠i2:=λe=>Z.a1 (e ▸ Z.m2);show ah _ _ (field (.ref z) 2 >>= _) _ _ _;apply ae;apply ar hz rfl (x:=.bool false) rfl;show ah _ _ (field (.ref z) 3 >>= _) _ _ _;apply ae;apply ar hz rfl (x:=.ref TI) rfl;apply ae;apply aC hI rfl;show ah _ _ (Hm (.ref z) >>= _) _ _ _;apply ae;unfold Hm;apply ae;apply ar hz rfl (x:=bg p) rfl;show ah _ _ (loadIfAlive ((p:Int)).toNat >>= _) _ _ _;rw[Wh];refine ae (Py hp ?_);rw[if_pos (by rfl)];apply ag;simp only[if_true];apply ae;apply cy;apply ae;apply ar hz rfl (x:=.ref TO) rfl;apply ae;refine ay hz (by simp) λh1 y1 g1=>?_;replace y1:qE h1 z TI TO .ellipsis fl:=y1;apply ae;simp only[vv,Uw,Vk,Xn];apply ae;apply ae;apply bz;show ah _ _ (Jm (.ref i1) >>= _) _ _ _;apply ae;refine D1.item k _ _ _ k1 (D1.frame _ _ _ s1 λc hc o e=>g1.extBut c o (λq=>Z.z1 (q ▸ hc)) e) λx h2 t2 px q2 g2=>ag ?_;have o2:aE h2 TO a b:=g2.extBut _ _ (Gd oO) (g1.extBut _ _ Z.lC hO);apply ae;apply aC o2 rfl;apply ae;refine aW o2 λh3 o3 g3=>ae (cY (ag ?_));replace o3:aE h3 TO x b:=o3;apply ae;apply ae;apply bz;show ah _ _ (Jm (.ref i2) >>= _) _ _ _;apply ae;refine D2.item k _ _ _ k2 (D2.frame _ _ _ s2 λc hc o e=>g3.extBut c o (λq=>Z.t2 (q ▸ hc)) (g2.extBut c o (λq=>Z.a1 (q ▸ hc)) (g1.extBut c o (λq=>Z.z2 (q ▸ hc)) e))) λy h4 t4 py q4 g4=>ag ?_;have o4:aE h4 TO x b:=g4.extBut _ _ (Gd oN) o3;apply ae;apply aC o4 rfl;apply ae;refine aW o4 λh5 o5 g5=>ae (cY (ag (ag ?_)));replace o5:aE h5 TO x y:=o5;apply ae;apply aC o5 rfl;apply ae;refine dE ?_;have sz:h5.objs.size=s.heap.objs.size:=by rw[g5.1,g4.1,g3.1,g2.1,g1.1]
 have y5:qE h5 z TI TO .ellipsis fl:=g5.extBut _ _ (Gd Z.lC) (g4.extBut _ _ (Gd nq) (g3.extBut _ _ (Gd Z.lC) (g2.extBut _ _ (Gd mr) y1)));have c5:∀ c o,c≠z->c≠TO->c≠i1->c≠i2->s.heap.get? c=some o->h5.get? c=some o:=λc o c1 c2 c3 c4 e=>g5.extBut _ _ c2 (g4.extBut _ _ c4 (g3.extBut _ _ c2 (g2.extBut _ _ c3 (g1.extBut _ _ c1 e))));have r1:S1 (k+1) h5:=D1.frame _ _ _ q2 λc hc o e=>g5.extBut c o (λq=>Z.t1 (q ▸ hc)) (g4.extBut c o (λq=>Z.a2 (q ▸ hc)) (g3.extBut c o (λq=>Z.t1 (q ▸ hc)) e));have r2:S2 (k+1) h5:=D2.frame _ _ _ q4 λc hc o e=>g5.extBut c o (λq=>Z.t2 (q ▸ hc)) e;have lz:z<h5.objs.size:=Va y5;show ah _ _ (gm (.ref z) (.ref h5.objs.size) >>= _) _ _ _;apply ae;unfold gm;have y6:qE (h5.push {cls:=.type "tuple",data:=.seq #[x,y]}) z TI TO .ellipsis fl:=wa _ y5;apply ae;refine ay y6 (by simp) λh7 y7 g7=>?_;replace y7:qE h7 z TI TO (bg h5.objs.size) fl:=y7;refine ay y7 (by simp) λh8 y8 g8=>?_;replace y8:cU h8 z TI TO (bg h5.objs.size):=y8;have up:∀ c o,c≠z->h5.get? c=some o->h8.get? c=some o:=λc o c1 e=>g8.extBut _ _ c1 (g7.extBut _ _ c1 (wa _ e));have p8:aE h8 h5.objs.size x y:=g8.extBut _ _ (Xl lz) (g7.extBut _ _ (Xl lz) (Xb _ rfl));have n8:h8.objs.size=h5.objs.size+1:=by rw[g8.1,g7.1,vg]
 rw[sz] at y8 p8 n8;refine ag ⟨_,rfl,?_⟩;show Q (.ref h5.objs.size) _;rw[sz];exact hQ x y h8 t4 px py y8 (up _ _ Z.lC o5) (D1.frame _ _ _ r1 λc hc o e=>up c o (λq=>Z.z1 (q ▸ hc)) e) (D2.frame _ _ _ r2 λc hc o e=>up c o (λq=>Z.z2 (q ▸ hc)) e) p8 n8 λc o c1 c2 c3 c4 e=>up c o c1 (c5 c o c1 c2 c3 c4 e)
theorem Ycd{Q:Fin->Shared->Prop}(Z:lR z TI TO i1 i2 gE gD)(D1:bC prog w A i1 gE n1 P1 S1)(D2:bC prog w A i2 gD n2 P2 S2)(hz:qE s.heap z TI TO (bg p) fl)(hp:s.heap.get? p=none)(hI:aE s.heap TI (.ref i1) (.ref i2))(hO:aE s.heap TO a b)
  (s1:S1 k s.heap) (s2:S2 k s.heap) (hk:k=n1\/(k<n1/\k=n2))
  (hE:∀ h' e,(∀ c o,c≠z->c≠TO->c≠i1->c≠i2->s.heap.get? c=some o->h'.get? c=some o)->(∃ o,h'.get? e=some o/\o.cls=.type "StopIteration")->∀ tk,E (.ref e) {s with heap:=h',toks:=tk}) :
  ah (aq prog w) A (Builtin.«zip.__next__» ⟨[.ref z],[]⟩) Q E s:=by
 have mr:i1≠z:=λe=>Z.z1 (e ▸ Z.m1);have nq:i2≠z:=λe=>Z.z2 (e ▸ Z.m2);have oO:i1≠TO:=λe=>Z.t1 (e ▸ Z.m1);have oN:i2≠TO:=λe=>Z.t2 (e ▸ Z.m2);show ah _ _ (field (.ref z) 2 >>= _) _ _ _;apply ae;apply ar hz rfl (x:=.bool false) rfl;show ah _ _ (field (.ref z) 3 >>= _) _ _ _;apply ae;apply ar hz rfl (x:=.ref TI) rfl;apply ae;apply aC hI rfl;show ah _ _ (Hm (.ref z) >>= _) _ _ _;apply ae;unfold Hm;apply ae;apply ar hz rfl (x:=bg p) rfl;show ah _ _ (loadIfAlive ((p:Int)).toNat >>= _) _ _ _;rw[Wh];refine ae (Py hp ?_);rw[if_pos (by rfl)];apply ag;simp only[if_true];apply ae;apply cy;apply ae;apply ar hz rfl (x:=.ref TO) rfl;apply ae;refine ay hz (by simp) λh1 y1 g1=>?_;replace y1:qE h1 z TI TO .ellipsis fl:=y1;apply ae;simp only[vv,Uw,Vk,Xn];apply ae;apply ae;apply bz;show ah _ _ (Jm (.ref i1) >>= _) _ _ _;apply ae;have f1:S1 k h1:=D1.frame _ _ _ s1 λc hc o e=>g1.extBut c o (λq=>Z.z1 (q ▸ hc)) e
 rcases hk with hk|⟨k1,hk⟩
 ·refine D1.done _ _ _ (hk ▸ f1) λh2 e g2 he=>?_;obtain⟨oe,e1,e2⟩:=he;have y2:qE h2 z TI TO .ellipsis fl:=g2 _ _ (Gd mr) y1;have ez:e≠z:=λq=>by subst q;rw[y2] at e1;cases e1;simp at e2
  exact ay y2 (by simp) λh3 _ g3=>hE h3 e (λc o c1 _ c3 _ q=>g3.extBut _ _ c1 (g2 _ _ c3 (g1.extBut _ _ c1 q))) ⟨oe,g3.extBut _ _ ez e1,e2⟩ _
 ·refine D1.item k _ _ _ k1 f1 λx h2 t2 px q2 g2=>ag ?_;have o2:aE h2 TO a b:=g2.extBut _ _ (Gd oO) (g1.extBut _ _ Z.lC hO);apply ae;apply aC o2 rfl;apply ae;refine aW o2 λh3 o3 g3=>ae (cY (ag ?_));apply ae;apply ae;apply bz;show ah _ _ (Jm (.ref i2) >>= _) _ _ _;apply ae;have f2:S2 k h3:=D2.frame _ _ _ s2 λc hc o e=>g3.extBut c o (λq=>Z.t2 (q ▸ hc)) (g2.extBut c o (λq=>Z.a1 (q ▸ hc)) (g1.extBut c o (λq=>Z.z2 (q ▸ hc)) e));refine D2.done _ _ _ (hk ▸ f2) λh4 e g4 he=>?_;obtain⟨oe,e1,e2⟩:=he;have y4:qE h4 z TI TO .ellipsis fl:=g4 _ _ (Gd nq) (g3.extBut _ _ (Gd Z.lC) (g2.extBut _ _ (Gd mr) y1));have ez:e≠z:=λq=>by subst q;rw[y4] at e1;cases e1;simp at e2
  exact ay y4 (by simp) λh5 _ g5=>hE h5 e (λc o c1 c2 c3 c4 q=>g5.extBut _ _ c1 (g4 _ _ c4 (g3.extBut _ _ c2 (g2.extBut _ _ c3 (g1.extBut _ _ c1 q))))) ⟨oe,g5.extBut _ _ ez e1,e2⟩ _
theorem qbU{Q:Value->Shared->Prop}(hT:s.TypeIs (.ref z) "zip")(h:Q (.ref z) s):ah (aq prog w) A (gQ (.ref z)) Q E s:=by
 refine wpAny_pyIter_slot hT F.slot_zip_iter (aM F.slot_zip_iter hT F.entry_zip_iter ?_ (F.args_zip_iter_1 _));show ah _ _ (ret (.ref z)) _ _ s;exact ag ⟨_,rfl,"zip",_,hT,jh.lookup,h⟩
def ZQ(h:Heap)(z TI TO:af):Prop:=∃ v fl,qE h z TI TO v fl/\((v=.none/\fl=false)\/∃ p:af,v=bg p)
theorem ZQ.obj{h:Heap}(q:ZQ h z TI TO):∃ o,h.get? z=some o/\o.cls=.type "zip"/\∀ v,o.data≠.cell v:=by
 obtain⟨v,fl,e,_⟩:=q;exact⟨_,e,rfl,λv q=>nomatch q⟩
theorem ZbN{Q:Option Value->Shared->Prop}(Z:lR z TI TO i1 i2 gE gD)(D1:bC prog w A.in1 i1 gE n1 P1 S1)(D2:bC prog w A.in1 i2 gD n2 P2 S2)(hz:ZQ s.heap z TI TO)(hI:aE s.heap TI (.ref i1) (.ref i2))(hO:aE s.heap TO a b)
  (s1:S1 k s.heap) (s2:S2 k s.heap) (k1:k<n1) (k2:k<n2)
  (hQ:∀ x y h' tk,P1 k x->P2 k y->ZQ h' z TI TO->(∃ a b,aE h' TO a b)->S1 (k+1) h'->S2 (k+1) h'->aE h' s.heap.objs.size x y->h'.objs.size=s.heap.objs.size+1 ->
   (∀ c o,c≠z->c≠TO->c≠i1->c≠i2->s.heap.get? c=some o->h'.get? c=some o)->Q (some (.ref s.heap.objs.size)) {s with heap:=h',toks:=tk}) :
  ah (aq prog w) A (bJ (.ref z)) Q E s:=by
 have oO:i1≠TO:=λe=>Z.t1 (e ▸ Z.m1);have oN:i2≠TO:=λe=>Z.t2 (e ▸ Z.m2);obtain⟨v,fl,e,⟨rfl,rfl⟩|⟨p,rfl⟩⟩:=hz
 ·exact YJ Z D1 D2 e hI hO s1 s2 k1 k2 λx y h' tk p1 p2 e1 e2 e3 e4 e5 e6 e7=>hQ x y h' tk p1 p2 ⟨_,false,e1,.inr ⟨_,rfl⟩⟩ ⟨_,_,e2⟩ e3 e4 e5 e6 e7
 ·cases hp:s.heap.get? p with
  |some o=>exact Qaa Z D1 D2 e ⟨o,hp⟩ hI s1 s2 k1 k2 λx y h' tk p1 p2 e1 e3 e4 e5 e6 e7=>hQ x y h' tk p1 p2 ⟨_,true,e1,.inr ⟨_,rfl⟩⟩ ⟨_,_,e7 TO _ Z.lC (Gd oO) (Gd oN) hO⟩ e3 e4 e5 e6 λc o c1 _ c3 c4 q=>e7 c o c1 c3 c4 q
  |none =>
   have ty:s.TypeIs (.ref z) "zip":=⟨_,e,rfl⟩;unfold bJ;refine ae (bY (az (name:=kg "__next__") ty jh (aM jh ty gh ?_ (Jh _))));exact YbI Z D1 D2 e hp hI hO s1 s2 k1 k2 λx y h' tk p1 p2 e1 e2 e3 e4 e5 e6 e7=>ag (hQ x y h' tk p1 p2 ⟨_,false,e1,.inr ⟨_,rfl⟩⟩ ⟨_,_,e2⟩ e3 e4 e5 e6 e7)
theorem QbZ{Q:Option Value->Shared->Prop}(Z:lR z TI TO i1 i2 gE gD)(D1:bC prog w A.in1 i1 gE n1 P1 S1)(D2:bC prog w A.in1 i2 gD n2 P2 S2)(hz:ZQ s.heap z TI TO)(hI:aE s.heap TI (.ref i1) (.ref i2))(hO:aE s.heap TO a b)
  (s1:S1 k s.heap) (s2:S2 k s.heap) (hk:k=n1\/(k<n1/\k=n2))
  (hQ:∀ h' tk,(∀ c o,c≠z->c≠TO->c≠i1->c≠i2->s.heap.get? c=some o->h'.get? c=some o)->Q none {s with heap:=h',toks:=tk}) :
  ah (aq prog w) A (bJ (.ref z)) Q E s:=by
 obtain⟨v,fl,e,⟨rfl,rfl⟩|⟨p,rfl⟩⟩:=hz
 ·exact ZL Z D1 D2 e hI hO s1 s2 hk hQ
 ·cases hp:s.heap.get? p with
  |some o=>exact Qai Z D1 D2 e ⟨o,hp⟩ hI s1 s2 hk λh' tk kk=>hQ h' tk λc o c1 _ c3 c4 q=>kk c o c1 c3 c4 q
  |none =>
   have ty:s.TypeIs (.ref z) "zip":=⟨_,e,rfl⟩;unfold bJ;refine ae (bY (az (name:=kg "__next__") ty jh (aM jh ty gh ?_ (Jh _))));refine Ycd Z D1 D2 e hp hI hO s1 s2 hk λh' e kk ho tk=>?_;obtain⟨o,e1,e2⟩:=ho;exact ae (eL (T:="StopIteration") (b:=true) ⟨o,e1,e2⟩ fL (ag (hQ h' tk kk)))
end
end M3
namespace L3
open PySem PySem.Spec PyProof.Rows L2 M3
section
variable {X:Cx} {pins:List (af×Obj)} {σ:L2.St} {H:Hp} {s:Shared} {h':Heap}
theorem YbR{P:ao}{w:World}{K:gc}{y:Str}{pt:Pos}{b1 b2:Bool}{a1 a2 z TI TO i1 i2:af}(Z:∀ m,(∀ a∈[a1,a2],a<m)->(∀ a∈[z,TI,TO,i1,i2],m<=a)->lR z TI TO i1 i2 [i1,a1] [i2,a2])
  (m:Nat) (h1:∀ a∈[a1,a2],a<m) (h2:∀ a∈[z,TI,TO,i1,i2],m<=a) :
  Turn P w K (.Name y pt) (DJ K b1 b2 a1 a2) [z,TI,TO,i1,i2] z (λi h=>ZQ h z TI TO/\aE h TI (.ref i1) (.ref i2)/\(∃ a b,aE h TO a b)/\dn h b1 i1 a1 i/\dn h b2 i2 a2 i) where
 mem:=by simp
 obj:=λi h ⟨e1,e2,⟨a,b,e3⟩,e4,e5⟩ c hc=>by
  simp only[ua,uc,or_false] at hc
  rcases hc with rfl|rfl|rfl|rfl|rfl
  ·obtain⟨o,q1,_,q2⟩:=e1.obj;exact⟨o,q1,q2⟩
  ·exact⟨_,e2,λv q=>nomatch q⟩
  ·exact⟨_,e3,λv q=>nomatch q⟩
  ·exact e4.obj
  ·exact e5.obj
 keep:=λi h h' ⟨e1,e2,⟨a,b,e3⟩,e4,e5⟩ k=>⟨by obtain⟨v,fl,q,r⟩:=e1;exact⟨v,fl,k z (by simp) _ q,r⟩,k TI (by simp) _ e2,⟨a,b,k TO (by simp) _ e3⟩,e4.keeps λo e=>k i1 (by simp) o e,e5.keeps λo e=>k i2 (by simp) o e⟩
 item:=by
  intro X hP hw hK hc i pins s σ H E I hf ⟨e1,e2,⟨a,b,e3⟩,e4,e5⟩ hg;subst hP hw hK;obtain⟨xs,ys,q1,q2,l1,l2⟩:=hg;obtain⟨fB,v1,p1,_⟩:=Zk I q1;obtain⟨eP,v2,p2,_⟩:=Zk I q2;have ZZ:=Z m h1 h2;have n1:a1≠i1:=Xc (Uc (h1 a1 (by simp)) (h2 i1 (by simp)));have n2:a2≠i2:=Xc (Uc (h1 a2 (by simp)) (h2 i2 (by simp)));have D1:=Zq (prog:=X.prog) (w:=X.w) (yg (I.ok.hd hc)) b1 i1 a1 n1 fB.toArray;have D2:=Zq (prog:=X.prog) (w:=X.w) (yg (I.ok.hd hc)) b2 i2 a2 n2 eP.toArray;have ny:=v1.length;have pN:=v2.length;refine ZbN ZZ D1 D2 e1 e2 e3 ⟨e4,p1⟩ ⟨e5,p2⟩ (by simp;lia) (by simp;lia) λx y g tk px py f1 f2 f3 f4 f5 f6 f7=>⟨_,rfl,?_⟩;refine ag ?_;obtain⟨x1,oP⟩:∃ x1,xs[i]?=some x1:=⟨xs[i],by simp[l1]⟩;obtain⟨y1,Av⟩:∃ y1,ys[i]?=some y1:=⟨ys[i],by simp[l2]⟩;obtain⟨u1,Ay,r1⟩:=v1.get oP;obtain⟨u2,F8,r2⟩:=v2.get Av;have ex:x=u1:=by have z:fB.toArray[i]?=some x:=px;simp[Ay] at z;exact z.symm
  have ey:y=u2:=by have z:eP.toArray[i]?=some y:=py;simp[F8] at z;exact z.symm
  subst ex ey;obtain⟨oz,ez,_⟩:=e1.obj;have JE:z≠s.heap.objs.size:=Xc (Va ez);have I1:Inv X pins σ H {s with heap:=g,toks:=tk}:=qm (ch:=[z,TI,TO,i1,i2]) I hf λc o dy e=>by
   simp only[ua,uc,or_false,not_or] at dy;exact f7 c o dy.1 dy.2.2.1 dy.2.2.2.1 dy.2.2.2.2 e
  have fT:=I.ie (b:=s.heap.objs.size) (vb _) (I.aR.fresh (vb _));have gT:g.get? s.heap.objs.size=some {cls:=.type "tuple",data:=.seq #[x,y]}:=f5;have I2:Inv X pins σ (upd H s.heap.objs.size (.tup [x1,y1])) {s with heap:=g,toks:=tk}:=qP I1 fT I.sz ⟨by show 2<=sizeLine;decide,[x,y],.cons r1 (.cons r2 .nil),⟨_,gT,rfl,_,rfl⟩⟩;refine⟨.ref s.heap.objs.size,_,I2,rfl,⟨_,x1,y1,rfl,fT.1,rfl,λzs hz=>by rw[zv I hz q1];exact oP,λzs hz=>by rw[zv I hz q2];exact Av⟩,
   ⟨f1,f7 TI _ ZZ.Cb ZZ.rz ZZ.Et ZZ.Es e2,f2,f3.1,f4.1⟩,λc dy=>?_⟩
  have lt:c<s.heap.objs.size:=by
   simp only[ua,uc,or_false] at dy
   rcases dy with rfl|rfl|rfl|rfl|rfl
   ·exact Va ez
   ·exact Va e2
   ·exact Va e3
   ·exact let ⟨o,e,_⟩:=e4.obj;Va e
   ·exact let ⟨o,e,_⟩:=e5.obj;Va e
  rw[yd (Xc lt)];exact(hf c dy).1
 done:=by
  intro X hP hw hK hc i pins s σ H E I hf ⟨e1,e2,⟨a,b,e3⟩,e4,e5⟩ hg;subst hP hw hK;obtain⟨xs,ys,q1,q2,hk⟩:=hg;obtain⟨fB,v1,p1,_⟩:=Zk I q1;obtain⟨eP,v2,p2,_⟩:=Zk I q2;have ZZ:=Z m h1 h2;have n1:a1≠i1:=Xc (Uc (h1 a1 (by simp)) (h2 i1 (by simp)));have n2:a2≠i2:=Xc (Uc (h1 a2 (by simp)) (h2 i2 (by simp)));have D1:=Zq (prog:=X.prog) (w:=X.w) (yg (I.ok.hd hc)) b1 i1 a1 n1 fB.toArray;have D2:=Zq (prog:=X.prog) (w:=X.w) (yg (I.ok.hd hc)) b2 i2 a2 n2 eP.toArray;have ny:=v1.length;have pN:=v2.length;refine QbZ ZZ D1 D2 e1 e2 e3 ⟨e4,p1⟩ ⟨e5,p2⟩ (by simp;lia) λg tk k=>⟨rfl,?_⟩;exact qm (ch:=[z,TI,TO,i1,i2]) I hf λc o dy e=>by
   simp only[ua,uc,or_false,not_or] at dy;exact k c o dy.1 dy.2.2.1 dy.2.2.2.1 dy.2.2.2.2 e
 self:=λ_ _ _ _ _ st h=>by
  obtain⟨o,e,ec,_⟩:=st.1.obj;exact qbU ⟨o,e,ec⟩ h
theorem Qcv{a b:Expr}{ta:TA}{p pos:Pos}{y:Str}{pt:Pos}(hg:Gl X "zip")(hm:X.mg "zip"=none)(ha:PA X [a,b] ta)(hs:au [a,b] X.env=[(false,eval a X.env),(false,eval b X.env)]:=by rfl)(gW:au [b] X.env=[(false,eval b X.env)]:=by rfl) :
  PI X (.Name y pt) (.Call (.Name "zip" p) [a,b] [] pos) (rX X.K ta):=by
 intro pins s σ H R I h;refine k8 (yI I hg hm boot_zip (Jf (bf (ha pos pins s σ H _ I h) λus s1 ⟨vs,H1,I1,r1,q1⟩=>?_) (by rw[hs,gW]) (by rw[gW];rfl)));obtain(⟨b1,b2,a1,a2,e,⟨xs,h1⟩,⟨ys,h2⟩,q⟩):=q1;subst e;cases r1 with
 |cons r rr =>
  cases rr with
  |cons r' rr =>
   cases rr;obtain rfl:_=ka a1:=r;obtain rfl:_=ka a2:=r';obtain(⟨fB,v1,p1,_⟩):=Zk I1 h1;obtain(⟨eP,v2,p2,_⟩):=Zk I1 h2;have l1:=p1.lt;have l2:=p2.lt;refine JK p1 p2 λg f1 f2 f3 f4 f5 f6=>?_;refine eK f1 ?_;refine⟨s1.heap.objs.size+4,[s1.heap.objs.size+4,s1.heap.objs.size+2,s1.heap.objs.size+3,s1.heap.objs.size,s1.heap.objs.size+1],_,_,H1,rfl,I1.kept (t':=s1.toks) f6,YbR (b1:=b1) (b2:=b2) (a1:=a1) (a2:=a2) (λ_ _ _=>KZ _ a1 a2 l1 l2) s1.heap.objs.size (λa oX=>?_) (λa oX=>tJ oX),⟨⟨_,false,f1,.inl ⟨rfl,rfl⟩⟩,f2,⟨_,_,f3⟩,f4,f5⟩,λb hb=>I1.ie (tJ hb) (I1.aR.fresh (tJ hb)),q⟩;simp only[ua,uc,or_false] at oX
   rcases oX with rfl|rfl <;> assumption
end
end L3
end
section
namespace MP
open PySem
inductive FV where
 |a9|bl (b:Bool)|int (i:Int)|str (s:Str)
 |tup (xs:List FV)|lst (xs:List FV)|obj (c:String) (ns:List String) (vs:List FV)|eC (ns:List Int)|tab (aJ:List ((Int×Int)×Int))|jN (ks:List (Int×Int))
inductive MV where
 |f (x:FV)|ref (a:Nat)|tup (xs:List MV)|exc (c:String)
inductive Cell where
 |lst (xs:List MV)|obj (c:String) (fs:List (String×MV))|iQ (ks:List Int)|tab (aJ:List ((Int×Int)×Int))|jN (ks:List (Int×Int))|code|dead
noncomputable abbrev MH:=List Cell
noncomputable abbrev aL:=List (Option MV)
inductive R (α:Type) where
 |ok (x:α) (h:MH)|exc (c:String) (h:MH)|stuck
noncomputable abbrev RD{γ δ:Sort _}(_k:γ->δ)(τ:Type):Type:=τ
namespace R
noncomputable def bind{α β:Type}(r:R α)(k:α->MH->R β):RD k (R β):=match r with
 |.ok x h=>k x h
 |.exc c h=>.exc c h
 |.stuck=>.stuck
variable {α β:Type}
@[simp] theorem aw{x:α}{h:MH}{k:α->MH->R β}:(R.ok x h).bind k=k x h:=id rfl
@[simp] theorem nJ{c:String}{h:MH}{k:α->MH->R β}:(R.exc c h:R α).bind k=.exc c h:=id rfl
@[simp] theorem lQ{k:α->MH->R β}:(R.stuck:R α).bind k=.stuck:=id rfl
end R
noncomputable def opt{α β:Type}(o:Option α)(k:α->R β):RD k (R β):=match o with
 |some x=>k x
 |none=>.stuck
@[simp] theorem Qd{α β:Type}{x:α}{k:α->R β}:opt (some x) k=k x:=id rfl
@[simp] theorem wV{α β:Type}{k:α->R β}:opt none k=.stuck:=id rfl
noncomputable def Zw:MV->Bool
 |.f .a9=>true
 |_=>false
noncomputable def yo:List MV->Option (List FV)
 |[]=>some []
 |.f x::r=>(yo r).map (x::·)
 |_::_=>none
noncomputable def yk(xs:List MV):MV:=match yo xs with
 |some ys=>.f (.tup ys)
 |none=>.tup xs
noncomputable def qo(fz:Bool)(xs:List MV)(h:MH):R MV:=match fz with
 |true=>opt (yo xs) λys=>.ok (.f (.lst ys)) h
 |false=>.ok (.ref h.length) (h++[.lst xs])
noncomputable def Zd(h:MH)(a:Nat):Option (List MV):=match h[a]? with
 |some (.lst xs)=>some xs
 |_=>none
noncomputable def yb(h:MH):MV->Option (List MV)
 |.f (.tup xs)=>some (xs.map .f)
 |.f (.lst xs)=>some (xs.map .f)
 |.f (.eC ns)=>some (ns.map λi=>.f (.int i))
 |.tup xs=>some xs
 |.ref a=>Zd h a
 |_=>none
noncomputable def listOf(h:MH):MV->Option (List MV)
 |.f (.lst xs)=>some (xs.map .f)
 |.ref a=>Zd h a
 |_=>none
noncomputable def zq:MV->Option (List MV)
 |.f (.tup xs)=>some (xs.map .f)
 |.tup xs=>some xs
 |_=>none
noncomputable def Zc:MV->Option Int
 |.f (.int i)=>some i
 |_=>none
noncomputable def YE:MV->Option Bool
 |.f (.bl b)=>some b
 |_=>none
@[simp] noncomputable def Yf:List MV->Option (List Int)
 |[]=>some []
 |.f (.int i)::r=>(Yf r).map (i::·)
 |_::_=>none
@[simp] noncomputable def Yr:List MV->Option (List Bool)
 |[]=>some []
 |.f (.bl i)::r=>(Yr r).map (i::·)
 |_::_=>none
noncomputable def Zp(h:MH):Nat->MV->Option FV
 |0,_=>none
 |_+1,.f x=>some x
 |n+1,.tup xs=>(xs.mapM (Zp h n)).map .tup
 |n+1,.ref a=>(Zd h a).bind λxs=>(xs.mapM (Zp h n)).map .lst
 |_+1,.exc _=>none
noncomputable def zP(h:MH)(v:MV):Option FV:=Zp h 5 v
noncomputable def Qp(h:MH):Nat->MV->List Nat
 |0,_=>[]
 |_+1,.f _=>[]
 |n+1,.tup xs=>xs.flatMap (Qp h n)
 |n+1,.ref a=>a::((Zd h a).getD []).flatMap (Qp h n)
 |_+1,.exc _=>[]
noncomputable def kill(as:List Nat)(h:MH):MH:=h.mapIdx λi c=>if i∈as then .dead else c
noncomputable def ZJ(v:MV)(h:MH):R MV:=opt (zP h v) λx=>.ok (.f x) (kill (Qp h 5 v) h)
noncomputable def mJ(x:Str):Bool:=x.cps.all (· < 0x110000)
noncomputable def bZ:Nat->FV->Bool
 |_+1,.a9=>true
 |_+1,.bl _=>true
 |_+1,.int _=>true
 |_+1,.str s=>mJ s
 |n+1,.tup xs=>xs.all (bZ n)
 |n+1,.lst xs=>xs.all (bZ n)
 |_,_=>false
mutual
noncomputable def fN:FV->FV->Bool
 |.a9,.a9=>true
 |.bl a,.bl b=>a==b
 |.bl a,.int j=>(if a then 1 else 0)==j
 |.int i,.bl b=>i==(if b then 1 else 0)
 |.int a,.int b=>a==b
 |.str a,.str b=>a==b
 |.tup xs,.tup ys=>ZT xs ys
 |.lst xs,.lst ys=>ZT xs ys
 |_,_=>false
noncomputable def ZT:List FV->List FV->Bool
 |[],[]=>true
 |x::xs,y::ys=>fN x y&&ZT xs ys
 |_,_=>false
end
noncomputable def jY(x y:FV):Option Bool:=if bZ 8 x=true/\bZ 8 y=true then some (fN x y) else none
noncomputable def Aq(x:FV)(ys:List FV):Option Bool:=if bZ 8 x=true/\ys.all (bZ 8)=true then some (ys.any λy=>fN y x) else none
inductive BO where
 |add|sub|mul|fdiv|mod|pow
inductive CO where
 |lt|le|gt|ge|eq|ne|gV|Cv
noncomputable def big:Nat:=2^4096
def ZA(i j:Int):Prop:=i.natAbs<2^64\/j.natAbs<2^64\/(i.natAbs<big/\j.natAbs<big)
def tU(i j:Int):Prop:=0<j/\(j<1073741824\/j.natAbs<big)
open Classical in
noncomputable def YD:BO->Int->Int->Option Int
 |.add,i,j=>some (i+j)
 |.sub,i,j=>some (i-j)
 |.mul,i,j=>if ZA i j then some (i*j) else none
 |.fdiv,i,j=>if tU i j then some (i/j) else none
 |.mod,i,j=>if 0<j then some (i%j) else none
 |.pow,i,j=>if 0<=j/\j<=1000000/\i.natAbs<2^64 then some (i^j.toNat) else none
noncomputable def aK:Nat:=4194304
open Classical in
noncomputable def ye(fz:Bool)(op:BO)(x y:MV)(h:MH):R MV:=match Zc x,Zc y with
 |some i,some j=>opt (YD op i j) λk=>.ok (.f (.int k)) h
 |none,some j=>match op with
  |.mul=>opt (listOf h x) λxs=>if -(2^63)<=j/\j<2^63/\xs.length*j.toNat<=aK then qo fz (xa j.toNat xs).flatten h else .stuck
  |_=>.stuck
 |none,none=>match op with
  |.add=>match zq x,zq y with
   |some xs,some ys=>if xs≠[]/\xs.length+ys.length<=aK then .ok (yk (xs++ys)) h else .stuck
   |_,_=>opt (listOf h x) λxs=>opt (listOf h y) λys=>if xs.length+ys.length<=aK then qo fz (xs++ys) h else .stuck
  |_=>.stuck
 |_,_=>.stuck
noncomputable def qW:CO->Int->Int->Option Bool
 |.lt,i,j=>some (decide (i<j))
 |.le,i,j=>some (decide (i<=j))
 |.gt,i,j=>some (decide (j<i))
 |.ge,i,j=>some (decide (j<=i))
 |_,_,_=>none
noncomputable def zA(op:CO)(x y:MV)(h:MH):Option Bool:=match op with
 |.eq=>(zP h x).bind λa=>(zP h y).bind λb=>jY a b
 |.ne=>(zP h x).bind λa=>(zP h y).bind λb=>(jY a b).map (!·)
 |.gV=>(zP h x).bind λa=>(yb h y).bind λys=>(ys.mapM (zP h)).bind λbs=>Aq a bs
 |.Cv=>(zP h x).bind λa=>(yb h y).bind λys=>(ys.mapM (zP h)).bind λbs=>(Aq a bs).map (!·)
 |op=>(Zc x).bind λi=>(Zc y).bind λj=>qW op i j
noncomputable def lg(n:Nat)(i:Int):Option Nat:=if 0<=i then(if i<n then some i.toNat else none) else if -(n:Int)<=i then some (i+n).toNat else none
noncomputable def cb(xs:List MV)(i:Int):Option MV:=(lg xs.length i).bind λj=>xs[j]?
noncomputable def qO(n d:Nat):Option Int->Nat
 |none=>d
 |some i=>if i<0 then(i+(n:Int)).toNat else min i.toNat n
noncomputable def ZI(xs:List MV)(lo hi:Option Int):List MV:=(xs.drop (qO xs.length 0 lo)).take (qO xs.length xs.length hi-qO xs.length 0 lo)
noncomputable def zp(fz:Bool)(x:MV)(lo hi:Option Int)(h:MH):R MV:=match zq x with
 |some xs=>.ok (yk (ZI xs lo hi)) h
 |none=>opt (yb h x) λxs=>qo fz (ZI xs lo hi) h
noncomputable def nZ(n:String)(v:MV):List (String×MV)->List (String×MV)
 |[]=>[(n,v)]
 |(k,x)::r=>if k=n then(k,v)::r else(k,x)::nZ n v r
inductive T1 where
 |str|int|len|j3
inductive T2 where
 |join|split (fz:Bool)|at|gV|idx
inductive Tg where
 |nm (i:Nat)|tp (ts:List Tg)
inductive ME where
 |var (i:Nat)|cI (i:Int)|cB (b:Bool)|cN|cS (s:Str)
 |glob (x:String)
 |bin (fz:Bool) (op:BO) (a b:ME)|neg (a:ME)
 |cmp (op:CO) (a b:ME)|chain (op j5:CO) (a b c:ME)
 |MU (a:ME)|mn (a:ME)
 |and (es:List ME)|or (es:List ME)|not (a:ME)|ite (c a b:ME)
 |tup (es:List ME)|lst (fz:Bool) (es:List ME)
 |sub (a i:ME)|slice (fz:Bool) (a:ME) (lo hi:Option ME)
 |fld (a:ME) (n:String)
 |call (f:String) (es:List ME)|make (fz:Bool) (c:String) (es:List ME)|xU (o:ME) (m:String) (es:List ME)
 |blt (fz:Bool) (n:String) (es:List ME)
 |CJ (a:ME) (t:String)
 |iI (a b:ME)|kJ (a:ME)|pL (a b:ME)
 |jZ (f:String) (es:List ME) (ds:List Int)
 |mh (o:T1) (a:ME)|kD (o:T2) (a b:ME)
 |lm (m:String) (o:ME) (es:List ME)
 |comp (fz:Bool) (elt:ME) (tg:Tg) (it:String) (src:List ME) (cond:Option ME) (bW:Nat) (js:List Nat)
 |eI (e:ME)
inductive MS where
 |set (tg:Tg) (e:ME)
 |iy (o i e:ME)
 |gP (o:ME) (n:String) (e:ME)
 |oF (o k:ME)|par (i j:Nat) (a b:ME)
 |expr (e:ME)
 |ret (e:ME)
 |ite (c:ME) (a b:List MS)
 |for_ (tg:Tg) (it:String) (src:List ME) (body:List MS)
 |while_ (c:ME) (body:List MS)
 |pass|dB
 |oY (i:Nat)
structure aQ where
 np:Nat
 ns:Nat
 body:List MS
structure Prog where
 defs:String->Option aQ
 bO:String->Option FV
 meths:String->String->Option String
 subs:String->String->Option Bool
 fG:String->String->Bool
 lL:String->Bool
 word:String->String->Option Str
 words:String->Bool
 lX:String->String->Option Bool:=λ_ _=>none
 mf:String->Bool:=λ_=>false
 xt:Bool:=false
 nH:String->List Int->Bool:=λ_ _=>false
 nX:String->Bool:=λ_=>false
 turns:Nat
@[simp] noncomputable def sE(n:String):List String->List FV->Option FV
 |m::ns,v::vs=>if n=m then some v else sE n ns vs
 |_,_=>none
noncomputable def QA(ok:String->String->Bool)(n:String)(v:MV)(h:MH):Option MV:=match v with
 |.f (.obj c ns vs)=>if ok c n=true then(sE n ns vs).map .f else none
 |.ref a=>match h[a]? with
  |some (.obj c fs)=>if ok c n=true then fs.lookup n else none
  |_=>none
 |_=>none
noncomputable def HP(m:String)(v:MV)(h:MH):Option String:=match v with
 |.f (.obj c ns _)=>if m∈ns then none else some c
 |.ref a=>match h[a]? with
  |some (.obj c fs)=>if m∈fs.map Vt then none else some c
  |_=>none
 |_=>none
noncomputable def excOf:MV->Option String
 |.exc c=>some c
 |_=>none
@[simp] theorem Zc3(c:String):excOf (.exc c)=some c:=rfl
noncomputable def zW(sub:String->String->Option Bool)(h:MH)(v:MV)(t:String):Option Bool:=match v with
 |.f .a9=>some false
 |.f (.bl _)=>some (decide (t="bool")||decide (t="int"))
 |.f (.int _)=>some (decide (t="int"))
 |.f (.str _)=>some (decide (t="str"))
 |.f (.tup _)=>some (decide (t="tuple"))
 |.f (.tab _)=>none
 |.f (.jN _)=>none
 |.f (.lst _)=>some (decide (t="list"))
 |.f (.obj c _ _)=>sub c t
 |.f (.eC _)=>none
 |.tup _=>some (decide (t="tuple"))
 |.ref a=>match h[a]? with
  |some (.lst _)=>some (decide (t="list"))
  |some (.obj c _)=>sub c t
  |_=>none
 |.exc _=>none
noncomputable def xW(x:MV)(h:MH):Option (List MV):=match x with
 |.ref a=>Zd h a
 |_=>none
noncomputable def insertAt(xs:List MV)(i:Int)(y:MV):List MV:=let k:=qO xs.length 0 (some i);xs.take k++y::xs.drop k
noncomputable def Qb(h:MH)(a:Nat)(xs:List MV):MH:=h.set a (.lst xs)
open Classical in
noncomputable def mq(m:String)(o:MV)(as:List MV)(h:MH):R MV:=match o with
 |.ref a=>opt (Zd h a) λxs=>match m,as with
  |"append",[y]=>if xs.length<aK then .ok (.f .a9) (Qb h a (xs++[y])) else .stuck
  |"extend",[z]=>opt (listOf h z) λys=>if xs.length+ys.length<=aK then .ok (.f .a9) (Qb h a (xs++ys)) else .stuck
  |"insert",[u,y]=>opt (Zc u) λi=>if xs.length<aK/\-(2^63)<=i/\i<2^63 then .ok (.f .a9) (Qb h a (insertAt xs i y)) else .stuck
  |"reverse",[]=>.ok (.f .a9) (Qb h a xs.reverse)
  |"clear",[]=>.ok (.f .a9) (Qb h a [])
  |"pop",[]=>opt (xs[xs.length-1]?) λy=>.ok y (Qb h a (xs.take (xs.length-1)))
  |"pop",[u]=>opt (Zc u) λi=>opt (lg xs.length i) λk=>opt (xs[k]?) λy=>if -(2^63)<=i/\i<2^63 then .ok y (Qb h a (xs.take k++xs.drop (k+1))) else .stuck
  |_,_=>.stuck
 |_=>.stuck
noncomputable def n9:Int->List Int->Int
 |m,[]=>m
 |m,x::r=>n9 (if x<m then x else m) r
noncomputable def mK:Int->List Int->Int
 |m,[]=>m
 |m,x::r=>mK (if x>m then x else m) r
noncomputable def Qw(fz:Bool)(n:String)(as:List MV)(h:MH):R MV:=match n,as with
 |"len",[v]=>opt (yb h v) λxs=>.ok (.f (.int xs.length)) h
 |"sum",[v]=>opt ((yb h v).bind Yf) λxs=>.ok (.f (.int xs.sum)) h
 |"all",[v]=>opt ((yb h v).bind Yr) λxs=>.ok (.f (.bl (xs.all id))) h
 |"min",[v]=>opt ((yb h v).bind Yf) λxs=>match xs with | []=>.stuck|x::r=>.ok (.f (.int (n9 x r))) h
 |"max",[v]=>opt ((yb h v).bind Yf) λxs=>match xs with | []=>.stuck|x::r=>.ok (.f (.int (mK x r))) h
 |"min",[u,v]=>opt (Zc u) λi=>opt (Zc v) λj=>.ok (.f (.int (if j<i then j else i))) h
 |"max",[u,v]=>opt (Zc u) λi=>opt (Zc v) λj=>.ok (.f (.int (if j>i then j else i))) h
 |"abs",[v]=>opt (Zc v) λi=>.ok (.f (.int (if i<0 then -i else i))) h
 |"int",[v]=>match YE v with
  |some b=>.ok (.f (.int (if b then 1 else 0))) h
  |none=>opt (Zc v) λi=>.ok (.f (.int i)) h
 |"tuple",[v]=>opt (yb h v) λxs=>.ok (yk xs) h
 |"list",[v]=>opt (yb h v) λxs=>qo fz xs h
 |"divmod",[u,v]=>opt (Zc u) λi=>opt (Zc v) λj=>if 0<j/\j<1073741824 then .ok (.f (.tup [.int (i/j),.int (i%j)])) h else .stuck
 |_,_=>.stuck
noncomputable def YU(ns:List Int):List Int:=ns.mergeSort (λa b=>decide (a<=b))
theorem JN:∀{a b:List Int},a.Perm b->a.Pairwise (·<=·)->b.Pairwise (·<=·)->a=b
 |[],b,p,_,_=>(List.Perm.nil_eq p)
 |x::a,b,p,h,k=>by
  cases b with
  |nil=>exact absurd p.symm.nil_eq (by simp)
  |cons y b =>
   rw[vx] at h k;have e:x=y:=by
    have h1:x∈y::b:=p.mem_iff.mp (by simp);have h2:y∈x::a:=p.mem_iff.mpr (by simp)
    rcases ua.mp h1 with e|m1
    ·exact e
    ·rcases ua.mp h2 with e|m2
     ·exact e.symm
     ·have:=h.1 y m2;have:=k.1 x m1;lia
   subst e;rw[JN (List.Perm.cons_inv p) h.2 k.2]
theorem qV(ns:List Int):(YU ns).Perm ns:=List.mergeSort_perm _ _
theorem Ov(ns:List Int):(YU ns).Pairwise (·<=·):=by
 have:=List.pairwise_mergeSort (le:=λa b:Int=>decide (a<=b)) (by intro a b c h k;simp at *;lia) (by intro a b;simp;lia) ns;exact this.imp (by intro a b h;simpa using h)
theorem Yb8{ns ni:List Int}(p:ni.Perm ns)(h:ni.Pairwise (·<=·)):ni=YU ns:=JN (p.trans (qV ns).symm) h (Ov ns)
noncomputable def Yt(ks:List Int)(k:Int):List Int:=if k∈ks then ks else ks++[k]
noncomputable def pB(h:MH)(v:MV):Option (List Int):=match v with
 |.ref a=>match h[a]? with
  |some (.iQ ks)=>some ks
  |_=>none
 |_=>none
noncomputable def iI(n:Nat)(x y:MV)(h:MH):R MV:=opt (Zc x) λi=>opt (Zc y) λj=>opt (pB h (.ref n)) λks=>if ks=[] then .ok (.ref n) (h.set n (.iQ (Yt (Yt [] i) j))) else .stuck
noncomputable def kJ(v:MV)(h:MH):R MV:=opt (pB h v) λks=>if ks.length<64 then .ok (.ref h.length) (h++[.lst ((YU ks).map λi=>.f (.int i))]) else .stuck
noncomputable def NM(h:MH)(v:MV):Option (List ((Int×Int)×Int)):=match v with
 |.ref a=>match h[a]? with
  |some (.tab aJ)=>some aJ
  |_=>none
 |.f (.tab aJ)=>some aJ
 |_=>none
noncomputable def B6(v:MV):Option (Int×Int):=match zq v with
 |some [.f (.int a),.f (.int b)]=>some (a,b)
 |_=>none
noncomputable def OK(k:Int×Int):Bool:=decide ((0<=k.1/\k.1<64)/\0<=k.2/\k.2<64)
noncomputable def Qg:MV->Option Str
 |.f (.str s)=>some s
 |_=>none
noncomputable def oj(o:T1)(x:MV)(h:MH):R MV:=match o with
 |.str=>opt (Zc x) λi=>if i.natAbs<2^256 then .ok (.f (.str (kg (toString i)))) h else .stuck
 |.int=>opt (Qg x) λz=>opt (Kc z) λn=>if z.length<=640 then .ok (.f (.int n)) h else .stuck
 |.len=>opt (Qg x) λz=>if z.length<=aK then .ok (.f (.int z.length)) h else .stuck
 |.j3=>opt (listOf h x) λxs=>opt (xs.mapM B6) λks=>if ks.all OK=true/\rT ks=true/\ks.length<1000000 then .ok (.f (.int ks.length)) h else .stuck
noncomputable def zE:List MV->Option (List Nat)
 |[]=>some []
 |.ref a::r=>(zE r).map (a::·)
 |_::_=>none
noncomputable def mI(o:T2)(x:MV)(h:MH):Option Str:=match o with
 |.idx=>(listOf h x).map λ_=>⟨#[]⟩
 |_=>Qg x
@[simp] theorem u5{x:MV}{h:MH}:mI .join x h=Qg x:=rfl
@[simp] theorem zc3{fz:Bool}{x:MV}{h:MH}:mI (.split fz) x h=Qg x:=rfl
@[simp] theorem EI{x:MV}{h:MH}:mI .at x h=Qg x:=rfl
@[simp] theorem Ce{x:MV}{h:MH}:mI .gV x h=Qg x:=rfl
@[simp] theorem ycx{x:MV}{h:MH}:mI .idx x h=(listOf h x).map λ_=>⟨#[]⟩:=rfl
noncomputable def Yy(o:T2)(x y:MV)(h:MH):R MV:=match o with
 |.join=>opt (Qg x) λsep=>opt (listOf h y) λxs=>opt (xs.mapM Qg) λts=>if(ts.map (·.length)).sum+ts.length*sep.length<=16777216 then .ok (.f (.str (Txt.join sep ts))) h else .stuck
 |.split fz=>opt (Qg x) λz=>opt (Qg y) λsep=>if(sep.length==0)=false/\z.length+2<=aK then qo fz ((Txt.split z sep).map λt=>.f (.str t)) h else .stuck
 |.at=>opt (Qg x) λz=>opt (Zc y) λi=>opt (if z.length<=aK/\0<=i then z.cps.toList[i.toNat]? else none) λc=>.ok (.f (.str ⟨#[c]⟩)) h
 |.gV=>opt (Qg x) λi=>opt (Qg y) λj=>.ok (.f (.bl (!(Gf j i 0 j.length 1).isEmpty))) h
 |.idx=>opt ((listOf h x).bind Yf) λns=>opt (Zc y) λk=>opt (L3.j9 k ns) λj=>.ok (.f (.int (j:Nat))) h
noncomputable def BA(w:Int)(n:Int)(r:List Int):Int:=r.foldl (λb k=>if(if w-k<0 then -(w-k) else w-k)<(if w-b<0 then -(w-b) else w-b) then k else b) n
noncomputable def xQ(x y:MV)(h:MH):R MV:=opt (Zc x) λw=>opt (yb h y) λvs=>opt (Yf vs) λns=>match ns with
 |n::r=>match (h[0]?:Option Cell) with
  |some .code=>.ok (.f (.int (BA w n r))) h
  |_=>.stuck
 |[]=>.stuck
mutual
@[simp] noncomputable def ZC:Tg->MV->aL->Option aL
 |.nm i,v,σ=>some (σ.set i (some v))
 |.tp ts,v,σ=>(zq v).bind λvs=>qA ts vs σ
@[simp] noncomputable def qA:List Tg->List MV->aL->Option aL
 |[],[],σ=>some σ
 |t::ts,v::vs,σ=>(ZC t v σ).bind λσ'=>qA ts vs σ'
 |_,_,_=>none
end
noncomputable abbrev qG:=List (Nat×List MV)
def bx(g:qG)(h:MH):Prop:=∀ p∈g,Zd h p.1=some p.2
noncomputable def zc(h:MH):MV->qG
 |.ref a=>match Zd h a with
  |some xs=>[(a,xs)]
  |none=>[]
 |_=>[]
noncomputable def fA(lo hi st:Int):Nat:=if lo<hi then((hi-lo-1)/st+1).toNat else 0
noncomputable def iB(it:String)(as:List MV)(h:MH):Option (List MV×qG):=match it,as with
 |"seq",[v]=>(yb h v).map λxs=>(xs,zc h v)
 |"range",[u]=>(Zc u).bind λn=>if -(2^62)<=n/\n<2^62 then some ((va n.toNat).map λ(k:Nat)=>.f (.int k),[]) else none
 |"range",[u,v]=>(Zc u).bind λa=>(Zc v).bind λb=>if -(2^62)<=a/\a<2^62/\-(2^62)<=b/\b<2^62 then some ((va (b-a).toNat).map λ(k:Nat)=>.f (.int (a+k)),[]) else none
 |"range",[u,v,w]=>(Zc u).bind λa=>(Zc v).bind λb=>(Zc w).bind λs=>if -(2^30)<=a/\a<2^30/\-(2^30)<=b/\b<2^30/\0<s/\s<2^30 then some ((va (fA a b s)).map λ(k:Nat)=>.f (.int (a+k*s)),[]) else none
 |"zip",[u,v]=>(yb h u).bind λxs=>(yb h v).map λys=>((xs.zip ys).map λp=>yk [p.1,p.2],zc h u++zc h v)
 |"keys",[.f (.tab aJ)]=>some (aJ.map λkv=>.f (.tup [.int kv.1.1,.int kv.1.2]),[])
 |"signs",[.f (.str s)]=>some (s.cps.toList.map λc=>.f (.str ⟨#[c]⟩),[])
 |"items",[.f (.tab aJ)]=>some (aJ.map λkv=>.f (.tup [.tup [.int kv.1.1,.int kv.1.2],.int kv.2]),[])
 |"enumerate",[v]=>(yb h v).map λxs=>(xs.mapIdx λk x=>yk [.f (.int k),x],zc h v)
 |"enum1",[v]=>(yb h v).map λxs=>(xs.mapIdx λk x=>yk [.f (.int ((k+1:Nat):Int)),x],zc h v)
 |_,_=>none
inductive RS where
 |next (σ:aL) (h:MH)|ret (v:MV) (h:MH)|brk (σ:aL) (h:MH)|cnt (σ:aL) (h:MH)|exc (c:String) (h:MH)|stuck
namespace RS
noncomputable def bind(r:RS)(k:aL->MH->RS):RD k RS:=match r with
 |.next σ h=>k σ h
 |.ret v h=>.ret v h
 |.brk σ h=>.brk σ h
 |.cnt σ h=>.cnt σ h
 |.exc c h=>.exc c h
 |.stuck=>.stuck
@[simp] theorem j0{σ:aL}{h:MH}{k:aL->MH->RS}:(RS.next σ h).bind k=k σ h:=id rfl
@[simp] theorem Bw{v:MV}{h:MH}{k:aL->MH->RS}:(RS.ret v h).bind k=.ret v h:=id rfl
@[simp] theorem By{σ:aL}{h:MH}{k:aL->MH->RS}:(RS.brk σ h).bind k=.brk σ h:=id rfl
@[simp] theorem Bx{σ:aL}{h:MH}{k:aL->MH->RS}:(RS.cnt σ h).bind k=.cnt σ h:=id rfl
@[simp] theorem nJ{c:String}{h:MH}{k:aL->MH->RS}:(RS.exc c h).bind k=.exc c h:=id rfl
@[simp] theorem lQ{k:aL->MH->RS}:(RS.stuck).bind k=.stuck:=id rfl
noncomputable def turn(r:RS)(k:aL->MH->RS):RD k RS:=match r with
 |.next σ h=>k σ h
 |.cnt σ h=>k σ h
 |.brk σ h=>.next σ h
 |.ret v h=>.ret v h
 |.exc c h=>.exc c h
 |.stuck=>.stuck
@[simp] theorem mj{σ:aL}{h:MH}{k:aL->MH->RS}:(RS.next σ h).turn k=k σ h:=id rfl
@[simp] theorem uL{σ:aL}{h:MH}{k:aL->MH->RS}:(RS.cnt σ h).turn k=k σ h:=id rfl
@[simp] theorem uM{σ:aL}{h:MH}{k:aL->MH->RS}:(RS.brk σ h).turn k=.next σ h:=id rfl
@[simp] theorem uJ{v:MV}{h:MH}{k:aL->MH->RS}:(RS.ret v h).turn k=.ret v h:=id rfl
@[simp] theorem uK{c:String}{h:MH}{k:aL->MH->RS}:(RS.exc c h).turn k=.exc c h:=id rfl
@[simp] theorem ycI{k:aL->MH->RS}:(RS.stuck).turn k=.stuck:=id rfl
end RS
noncomputable def RS.lP(k:String->MH->RS)(r:RS):RD k RS:=match r with
 |.exc c h=>k c h
 |r=>r
noncomputable def R.st{α:Type}(r:R α)(k:α->MH->RS):RD k RS:=match r with
 |.ok x h=>k x h
 |.exc c h=>.exc c h
 |.stuck=>.stuck
@[simp] theorem R.st_ok{α:Type}{x:α}{h:MH}{k:α->MH->RS}:(R.ok x h).st k=k x h:=id rfl
@[simp] theorem R.st_exc{α:Type}{c:String}{h:MH}{k:α->MH->RS}:(R.exc c h:R α).st k=.exc c h:=id rfl
@[simp] theorem R.st_stuck{α:Type}{k:α->MH->RS}:(R.stuck:R α).st k=.stuck:=id rfl
noncomputable def qw{α:Type}(o:Option α)(k:α->RS):RD k RS:=match o with
 |some x=>k x
 |none=>.stuck
@[simp] theorem Fq{α:Type}{x:α}{k:α->RS}:qw (some x) k=k x:=id rfl
@[simp] theorem yc4{α:Type}{k:α->RS}:qw none k=.stuck:=id rfl
open Classical in
noncomputable def YO(g:qG)(bd:MV->aL->MH->RS):List MV->aL->MH->RS
 |[],σ,h=>if bx g h then .next σ h else .stuck
 |x::r,σ,h=>if bx g h then(bd x σ h).turn λσ1 h1=>YO g bd r σ1 h1 else .stuck
open Classical in
noncomputable def Qj(g:qG)(bd:MV->aL->MH->R (Option MV×aL)):List MV->List MV->aL->MH->R (List MV)
 |[],acc,σ,h=>if bx g h then .ok acc h else .stuck
 |x::r,acc,σ,h=>if bx g h/\acc.length<aK then(bd x σ h).bind λp h1=>Qj g bd r (match p.1 with|some y=>acc++[y]|none=>acc) p.2 h1 else .stuck
noncomputable def stM(bW:Nat)(js:List Nat)(σ:aL):aL:=xa bW none++js.map λj=>(σ[j]?).join
noncomputable def O7(c:aL->MH->R MV)(bd:aL->MH->RS):Nat->aL->MH->RS
 |0,_,_=>.stuck
 |n+1,σ,h=>(c σ h).st λv h1=>qw (YE v) λb=>if b=true then(bd σ h1).turn λσ2 h2=>O7 c bd n σ2 h2 else .next σ h1
noncomputable def calm{α:Type}(r:R α):R α:=match r with
 |.ok x h=>.ok x h
 |_=>.stuck
@[simp] theorem De{α:Type}{x:α}{h:MH}:calm (R.ok x h)=.ok x h:=id rfl
noncomputable def Zi(tg:Tg)(ex:aL->MH->RS):MV->aL->MH->RS:=λx σ h=>qw (ZC tg x σ) λσ2=>ex σ2 h
noncomputable def zh(tg:Tg)(tc:aL->MH->R Bool)(te:aL->MH->R MV):MV->aL->MH->R (Option MV×aL):=λx σ h =>
 opt (ZC tg x σ) λσ2=>(calm (tc σ2 h)).bind λk h2=>if k=true then(calm (te σ2 h2)).bind λy h3=>.ok (some y,σ2) h3 else .ok (none,σ2) h2
def jC:Cell->Prop
 |.lst xs=>∃ ys:List FV,xs=ys.map MV.f
 |.obj _ fs=>∃ ys:List (String×FV),fs=ys.map λp=>(p.1,MV.f p.2)
 |.iQ _=>True
 |.tab _=>True
 |.jN _=>True
 |.code=>True
 |.dead=>True
def cT(h h':MH):Prop:=h.length<=h'.length/\∀ i c,i<h.length->h'[i]?=some c->h[i]?=some c\/jC c
open Classical in
noncomputable def yp(h:MH)(v:MV)(h':MH):R MV:=if cT h h' then(match v with
 |.f x=>.ok (.f x) (h'.take h.length)
 |.ref a=>if h.length<=a then(match Zd h' a with
   |some xs=>match yo xs with
    |some _=>.ok (.ref h.length) (h'.take h.length++[.lst xs])
    |none=>.ok v h'
   |none=>.ok v h') else .ok v h'
 |v=>.ok v h') else .ok v h'
open Classical in
noncomputable def YM(h:MH)(c:String)(h':MH):R MV:=if cT h h' then .exc c (h'.take h.length) else .exc c h'
section
variable (P:Prog) (W:String->List MV->MH->R MV)
open Classical in
noncomputable def ZU(fz:Bool)(c:String)(as:List MV)(h:MH):R MV :=
 (match P.meths c "__init__" with
  |some f=>W f (.ref h.length::as) (h++[Cell.obj c []])
  |none=>match as with | []=>R.ok (MV.f FV.a9) (h++[Cell.obj c []])|_=>.stuck).bind λv (h1:MH)=>if Zw v=false then .stuck else
 match fz with
 |true=>match h1[h.length]? with
  |some (Cell.obj c' fs)=>opt (yo (fs.map Um)) λvs=>if cT h h1 then R.ok (MV.f (FV.obj c' (fs.map Vt) vs)) (h1.take h.length) else .stuck
  |_=>.stuck
 |false=>R.ok (MV.ref h.length) h1
mutual
@[simp] noncomputable def qa:ME->aL->MH->R MV
 |.var i,σ,h=>opt ((σ[i]?).join) λv=>.ok v h
 |.cI i,_,h=>.ok (.f (.int i)) h
 |.cB b,_,h=>.ok (.f (.bl b)) h
 |.cN,_,h=>.ok (.f .a9) h
 |.cS s,_,h=>.ok (.f (.str s)) h
 |.glob x,_,h=>opt (P.bO x) λv=>.ok (.f v) h
 |.bin fz op a b,σ,h=>(qa a σ h).bind λx h1=>(qa b σ h1).bind λy h2=>ye fz op x y h2
 |.neg a,σ,h=>(qa a σ h).bind λx h1=>opt (Zc x) λi=>.ok (.f (.int (-i))) h1
 |.cmp op a b,σ,h=>(qa a σ h).bind λx h1=>(qa b σ h1).bind λy h2=>opt (zA op x y h2) λb=>.ok (.f (.bl b)) h2
 |.chain op j5 a b c,σ,h=>(qa a σ h).bind λx h1=>(qa b σ h1).bind λy h2=>opt (zA op x y h2) λk =>
   if k=true then(qa c σ h2).bind λz h3=>opt (zA j5 y z h3) λk=>.ok (.f (.bl k)) h3 else .ok (.f (.bl false)) h2
 |.MU a,σ,h=>(qa a σ h).bind λx h1=>.ok (.f (.bl (Zw x))) h1
 |.mn a,σ,h=>(qa a σ h).bind λx h1=>.ok (.f (.bl (!Zw x))) h1
 |.and es,σ,h=>Yq es σ h
 |.or es,σ,h=>zx es σ h
 |.not a,σ,h=>(qa a σ h).bind λx h1=>opt (YE x) λk=>.ok (.f (.bl (!k))) h1
 |.ite c a b,σ,h=>(qa c σ h).bind λx h1=>opt (YE x) λk=>if k=true then qa a σ h1 else qa b σ h1
 |.tup es,σ,h=>(Yg es σ h).bind λxs h1=>.ok (yk xs) h1
 |.lst fz es,σ,h=>(Yg es σ h).bind λxs h1=>qo fz xs h1
 |.sub a i,σ,h=>(qa a σ h).bind λx h1=>(qa i σ h1).bind λy h2=>opt (yb h2 x) λxs=>opt (Zc y) λk=>opt (cb xs k) λv=>.ok v h2
 |.slice fz a lo hi,σ,h=>(qa a σ h).bind λx h1=>(BP lo σ h1).bind λl h2=>(BP hi σ h2).bind λu h3=>zp fz x l u h3
 |.fld a n,σ,h=>(qa a σ h).bind λx h1=>opt (QA P.fG n x h1) λv=>.ok v h1
 |.call f es,σ,h=>(Yg es σ h).bind λxs h1=>W f xs h1
 |.make fz c es,σ,h=>(Yg es σ h).bind λxs h1=>ZU P W fz c xs h1
 |.xU o m es,σ,h=>(qa o σ h).bind λx h1=>opt (HP m x h1) λc=>opt (P.meths c m) λf=>(Yg es σ h1).bind λxs h2=>W f (x::xs) h2
 |.blt fz n es,σ,h=>(Yg es σ h).bind λxs h1=>Qw fz n xs h1
 |.CJ a t,σ,h=>(qa a σ h).bind λx h1=>opt (zW P.subs h1 x t) λk=>.ok (.f (.bl k)) h1
 |.jZ f es ds,σ,h=>(Yg es σ h).bind λxs h1=>W f (xs++ds.map λi=>.f (.int i)) h1
 |.iI a b,σ,h=>(qa a σ (h++[.iQ []])).bind λx h1=>(qa b σ h1).bind λy h2=>iI h.length x y h2
 |.kJ a,σ,h=>(qa a σ h).bind λx h1=>kJ x h1
 |.mh o a,σ,h=>(qa a σ h).bind λx h1=>oj o x h1
 |.kD o a b,σ,h=>(qa a σ h).bind λx h1=>opt (mI o x h1) λ_=>(qa b σ h1).bind λy h2=>Yy o x y h2
 |.pL a b,σ,h=>(qa a σ h).bind λx h1=>(qa b σ h1).bind λy h2=>xQ x y h2
 |.lm m o es,σ,h=>(qa o σ h).bind λx h1=>opt (xW x h1) λ_=>(Yg es σ h1).bind λxs h2=>mq m x xs h2
 |.comp fz elt tg it src cond bW js,σ,h=>(Yg src σ h).bind λxs h1=>opt (iB it xs h1) λp =>
   (Qj p.2 (zh tg (v9 cond) (qa elt)) p.1 [] (stM bW js σ) h1).bind λacc h3=>qo fz acc h3
 |.eI e,σ,h=>(qa e σ h).bind λx h1=>ZJ x h1
@[simp] noncomputable def Yq:List ME->aL->MH->R MV
 |[],_,_=>.stuck
 |[e],σ,h=>qa e σ h
 |e::e'::r,σ,h=>(qa e σ h).bind λx h1=>opt (YE x) λk=>if k=true then Yq (e'::r) σ h1 else .ok (.f (.bl false)) h1
@[simp] noncomputable def zx:List ME->aL->MH->R MV
 |[],_,_=>.stuck
 |[e],σ,h=>qa e σ h
 |e::e'::r,σ,h=>(qa e σ h).bind λx h1=>opt (YE x) λk=>if k=true then .ok (.f (.bl true)) h1 else zx (e'::r) σ h1
@[simp] noncomputable def Yg:List ME->aL->MH->R (List MV)
 |[],_,h=>.ok [] h
 |e::es,σ,h=>(qa e σ h).bind λx h1=>(Yg es σ h1).bind λxs h2=>.ok (x::xs) h2
@[simp] noncomputable def BP:Option ME->aL->MH->R (Option Int)
 |none,_,h=>.ok none h
 |some e,σ,h=>(qa e σ h).bind λx h1=>opt (Zc x) λi=>.ok (some i) h1
@[simp] noncomputable def v9:Option ME->aL->MH->R Bool
 |none,_,h=>.ok true h
 |some e,σ,h=>(qa e σ h).bind λx h1=>opt (YE x) λk=>.ok k h1
end
mutual
@[simp] noncomputable def qC:MS->aL->MH->RS
 |.set tg e,σ,h=>(qa P W e σ h).st λv h1=>qw (ZC tg v σ) λσ1=>.next σ1 h1
 |.iy o i e,σ,h=>(qa P W e σ h).st λv h1=>(qa P W o σ h1).st λx h2=>(qa P W i σ h2).st λy h3 =>
   match x with
   |.ref a=>qw (Zd h3 a) λxs=>qw (Zc y) λk=>qw (lg xs.length k) λj=>.next σ (Qb h3 a (xs.set j v))
   |_=>.stuck
 |.oF o k,σ,h=>(qa P W o σ h).st λx h1=>(qa P W k σ h1).st λy h2=>qw (Zc y) λi=>match x with
  |.ref a=>qw (pB h2 (.ref a)) λks=>if ks.length<1000000 then .next σ (h2.set a (.iQ (Yt ks i))) else .stuck
  |_=>.stuck
 |.par i j a b,σ,h=>(Yg P W [a,b] σ h).st λxs h1=>match xs with
  |[v,w]=>.next ((σ.set i (some v)).set j (some w)) h1
  |_=>.stuck
 |.gP o n e,σ,h=>(qa P W e σ h).st λv h1=>(qa P W o σ h1).st λx h2=>match x with
   |.ref a=>match h2[a]? with
    |some (.obj c fs)=>if P.fG c n=true/\fs.length<100 then .next σ (h2.set a (.obj c (nZ n v fs))) else .stuck
    |_=>.stuck
   |_=>.stuck
 |.expr e,σ,h=>(qa P W e σ h).st λ_ h1=>.next σ h1
 |.ret e,σ,h=>(qa P W e σ h).st λv h1=>.ret v h1
 |.ite c a b,σ,h=>(qa P W c σ h).st λv h1=>qw (YE v) λk=>if k=true then Yb a σ h1 else Yb b σ h1
 |.for_ tg it src body,σ,h=>(Yg P W src σ h).st λxs h1=>qw (iB it xs h1) λp =>
   YO p.2 (Zi tg (Yb body)) p.1 σ h1
 |.while_ c body,σ,h=>O7 (qa P W c) (Yb body) P.turns σ h
 |.pass,σ,h=>.next σ h
 |.dB,_,_=>.stuck
 |.oY i,σ,h=>qw ((σ[i]?).join) λv=>(ZJ v h).st λx h1=>.next (σ.set i (some x)) h1
noncomputable def Yb:List MS->aL->MH->RS
 |[],σ,h=>.next σ h
 |s::r,σ,h=>(qC s σ h).bind (Yb r)
end
end
noncomputable def Zb(h:MH)(r:RS):R MV:=match r with
 |.next _ h'=>yp h (.f .a9) h'
 |.ret v h'=>yp h v h'
 |.exc c h'=>YM h c h'
 |_=>.stuck
noncomputable def run(P:Prog):Nat->String->List MV->MH->R MV
 |0,_,_,_=>.stuck
 |n+1,f,as,h=>opt (P.defs f) λd=>if as.length=d.np then Zb h (Yb P (run P n) d.body (as.map some++xa (d.ns-d.np) none) h) else .stuck
end MP
end
section
namespace MP
open PySem
noncomputable abbrev I(i:Int):MV:=.f (.int i)
noncomputable abbrev B(b:Bool):MV:=.f (.bl b)
@[simp] theorem PR{α:Type}(g:α->FV):∀ xs:List α,yo (xs.map λx=>MV.f (g x))=some (xs.map g)
 |[]=>rfl
 |x::r=>by simp[yo,PR g r]
@[simp] theorem O0:∀ xs:List FV,yo (xs.map MV.f)=some xs
 |[]=>rfl
 |x::r=>by simp[yo,O0 r]
@[simp] theorem Yc1{α:Type}(g:α->FV)(xs:List α):yo (xs.map (MV.f∘g))=some (xs.map g):=PR g xs
@[simp] theorem qbp{α:Type}(g:α->Int):∀ xs:List α,Yf (xs.map λx=>MV.f (.int (g x)))=some (xs.map g)
 |[]=>rfl
 |x::r=>by simp[Yf,qbp g r]
@[simp] theorem Zs:∀ xs:List Int,Yf (xs.map (MV.f∘FV.int))=some xs
 |[]=>rfl
 |x::r=>by
  show Option.map _ (Yf (r.map (MV.f∘FV.int)))=_;rw[Zs r];rfl
@[simp] theorem YbH{α:Type}(g:α->Bool):∀ xs:List α,Yr (xs.map λx=>MV.f (.bl (g x)))=some (xs.map g)
 |[]=>rfl
 |x::r=>by simp[Yr,YbH g r]
@[simp] theorem Zbw(xs:List FV):yk (xs.map MV.f)=.f (.tup xs):=by simp[yk]
@[simp] theorem ZcW{α:Type}(g:α->FV)(xs:List α):yk (xs.map (MV.f∘g))=.f (.tup (xs.map g)):=by simp[yk]
@[simp] theorem zc1{α:Type}(g:α->FV)(xs:List α):yk (xs.map λx=>MV.f (g x))=.f (.tup (xs.map g)):=by simp[yk]
@[simp] theorem Yc0(x y:FV):yk [.f x,.f y]=.f (.tup [x,y]):=rfl
@[simp] theorem Qc4:yk []=.f (.tup []):=rfl
@[simp] theorem Yc3(x:FV):yk [.f x]=.f (.tup [x]):=rfl
@[simp] theorem qb(xs:List FV)(h:MH):qo true (xs.map MV.f) h=.ok (.f (.lst xs)) h:=by simp[qo]
@[simp] theorem zj{α:Type}(g:α->FV)(xs:List α)(h:MH):qo true (xs.map (MV.f∘g)) h=.ok (.f (.lst (xs.map g))) h:=by simp[qo]
@[simp] theorem ZaD{α:Type}(g:α->FV)(xs:List α)(h:MH):qo true (xs.map λx=>MV.f (g x)) h=.ok (.f (.lst (xs.map g))) h:=by simp[qo]
@[simp] theorem Zcj(h:MH):qo true [] h=.ok (.f (.lst [])) h:=rfl
@[simp] theorem zb4(x:FV)(r:List MV)(h:MH):qo true (.f x::r) h=opt (yo r) λys=>.ok (.f (.lst (x::ys))) h:=by
 simp only[qo,yo];cases yo r <;> rfl
@[simp] theorem ybm(xs:List MV)(h:MH):qo false xs h=.ok (.ref h.length) (h++[.lst xs]):=rfl
@[simp] theorem qcU(P:Prog)(W:String->List MV->MH->R MV)(σ:aL)(h:MH):Yb P W [] σ h=.next σ h:=by simp only[Yb]
@[simp] theorem zcC(P:Prog)(W:String->List MV->MH->R MV)(s:MS)(r:List MS)(σ:aL)(h:MH):Yb P W (s::r) σ h=(qC P W s σ h).bind (Yb P W r):=by simp only[Yb]
section
variable {h:MH}
@[simp] theorem A0(ok:String->String->Bool)(n c:String)(ns:List String)(vs:List FV):QA ok n (.f (.obj c ns vs)) h=if ok c n=true then(sE n ns vs).map .f else none:=rfl
@[simp] theorem CD(a:Nat):xW (.ref a) h=Zd h a:=rfl
@[simp] theorem ZbG:Zw (.f .a9)=true:=rfl
@[simp] theorem qc0(s:Str):Zw (.f (.str s))=false:=rfl
@[simp] theorem zc2(s:Int):Zw (.f (.int s))=false:=rfl
@[simp] theorem Ah(s:Bool):Zw (.f (.bl s))=false:=rfl
@[simp] theorem qc1(s:List FV):Zw (.f (.tup s))=false:=rfl
@[simp] theorem yc3(s:List FV):Zw (.f (.lst s))=false:=rfl
@[simp] theorem yc1(c:String)(ns:List String)(s:List FV):Zw (.f (.obj c ns s))=false:=rfl
@[simp] theorem Zc4(s:Nat):Zw (.ref s)=false:=rfl
@[simp] theorem qcM(s:List MV):Zw (.tup s)=false:=rfl
@[simp] theorem Yc4(xs:List FV):yb h (.f (.tup xs))=some (xs.map .f):=rfl
@[simp] theorem Fo(xs:List FV):yb h (.f (.lst xs))=some (xs.map .f):=rfl
@[simp] theorem Zc2(ns:List Int):yb h (.f (.eC ns))=some (ns.map λi=>MV.f (.int i)):=rfl
@[simp] theorem zc4(ns:List Int):zq (.f (.eC ns))=none:=rfl
@[simp] theorem qcR(xs:List MV):yb h (.tup xs)=some xs:=rfl
@[simp] theorem Qc2(a:Nat):yb h (.ref a)=Zd h a:=rfl
@[simp] theorem vH(n:String)(v:MV):nZ n v []=[(n,v)]:=rfl
@[simp] theorem Zc5(n k:String)(v x:MV)(r:List (String×MV)):nZ n v ((k,x)::r)=if k=n then(k,v)::r else(k,x)::nZ n v r:=rfl
@[simp] theorem ycJ(xs:List FV):listOf h (.f (.tup xs))=none:=rfl
@[simp] theorem YcJ(xs:List FV):listOf h (.f (.lst xs))=some (xs.map .f):=rfl
@[simp] theorem zcU(a:Nat):listOf h (.ref a)=Zd h a:=rfl
@[simp] theorem ZbS(xs:List FV):zq (.f (.tup xs))=some (xs.map .f):=rfl
@[simp] theorem YcO(xs:List MV):zq (.tup xs)=some xs:=rfl
@[simp] theorem IV(xs:List FV):zq (.f (.lst xs))=none:=rfl
@[simp] theorem Zc1(a:Nat):zq (.ref a)=none:=rfl
@[simp] theorem yc0(i:Int):Zc (.f (.int i))=some i:=rfl
@[simp] theorem yc5(xs:List FV):Zc (.f (.tup xs))=none:=rfl
@[simp] theorem qc3(xs:List FV):Zc (.f (.lst xs))=none:=rfl
@[simp] theorem Qc1(a:Nat):Zc (.ref a)=none:=rfl
@[simp] theorem Dg(b:Bool):YE (.f (.bl b))=some b:=rfl
@[simp] theorem yc2(i j:Int):qW .lt i j=some (decide (i<j)):=rfl
@[simp] theorem Yc2(i j:Int):qW .le i j=some (decide (i<=j)):=rfl
@[simp] theorem Zc0(i j:Int):qW .gt i j=some (decide (j<i)):=rfl
@[simp] theorem qc4(i j:Int):qW .ge i j=some (decide (j<=i)):=rfl
@[simp] theorem HK(x y:MV):zA .lt x y h=(Zc x).bind λi=>(Zc y).bind λj=>some (decide (i<j)):=rfl
@[simp] theorem HL(x y:MV):zA .le x y h=(Zc x).bind λi=>(Zc y).bind λj=>some (decide (i<=j)):=rfl
@[simp] theorem cmp_gt(x y:MV):zA .gt x y h=(Zc x).bind λi=>(Zc y).bind λj=>some (decide (j<i)):=rfl
@[simp] theorem HM(x y:MV):zA .ge x y h=(Zc x).bind λi=>(Zc y).bind λj=>some (decide (j<=i)):=rfl
@[simp] theorem ZcH(x:FV):zP h (.f x)=some x:=rfl
@[simp] theorem Br(x y:FV):zA .eq (.f x) (.f y) h=jY x y:=rfl
@[simp] theorem Bq(x y:FV):zA .ne (.f x) (.f y) h=(jY x y).map (!·):=rfl
@[simp] theorem CP(n:Nat):bZ (n+1) .a9=true:=rfl
@[simp] theorem FY(n:Nat)(b:Bool):bZ (n+1) (.bl b)=true:=rfl
@[simp] theorem CS(n:Nat)(i:Int):bZ (n+1) (.int i)=true:=rfl
@[simp] theorem CN(n:Nat)(s:Str):bZ (n+1) (.str s)=mJ s:=rfl
@[simp] theorem CM(n:Nat)(xs:List FV):bZ (n+1) (.tup xs)=xs.all (bZ n):=rfl
@[simp] theorem CQ(n:Nat)(xs:List FV):bZ (n+1) (.lst xs)=xs.all (bZ n):=rfl
@[simp] theorem Il(i j:Int):fN (.int i) (.int j)=(i==j):=by simp[fN]
@[simp] theorem C9(i j:Str):fN (.str i) (.str j)=(i==j):=by simp[fN]
@[simp] theorem Fy(xs ys:List FV):fN (.tup xs) (.tup ys)=ZT xs ys:=by simp[fN]
@[simp] theorem Ij(xs ys:List FV):fN (.lst xs) (.lst ys)=ZT xs ys:=by simp[fN]
@[simp] theorem C8(i j:Int):jY (.int i) (.int j)=some (i==j):=by simp[jY]
theorem NX(i j:Str)(a:mJ i=true)(b:mJ j=true):jY (.str i) (.str j)=some (i==j):=by simp[jY,a,b]
theorem qF{α:Type} [DecidableEq α] (g:α->FV)(hg:∀ a b,fN (g a) (g b)=decide (a=b)):∀ xs ys:List α,ZT (xs.map g) (ys.map g)=decide (xs=ys)
 |[],[]=>by simp[ZT]
 |[],_::_=>by simp[ZT]
 |_::_,[]=>by simp[ZT]
 |x::xs,y::ys=>by simp[ZT,hg,qF g hg xs ys]
@[simp] theorem Di(fz:Bool)(i j:Int):ye fz .add (.f (.int i)) (.f (.int j)) h=.ok (.f (.int (i+j))) h:=rfl
@[simp] theorem Dh(fz:Bool)(i j:Int):ye fz .sub (.f (.int i)) (.f (.int j)) h=.ok (.f (.int (i-j))) h:=rfl
theorem Qo(fz:Bool)(i j:Int)(c:ZA i j):ye fz .mul (.f (.int i)) (.f (.int j)) h=.ok (.f (.int (i*j))) h:=by simp[ye,YD,c]
theorem Zl(fz:Bool)(i j:Int)(c:tU i j):ye fz .fdiv (.f (.int i)) (.f (.int j)) h=.ok (.f (.int (i/j))) h:=by simp[ye,YD,c]
theorem Qi(fz:Bool)(i j:Int)(c:0<j):ye fz .mod (.f (.int i)) (.f (.int j)) h=.ok (.f (.int (i%j))) h:=by simp[ye,YD,c]
theorem Qcq(fz:Bool)(i j:Int)(c:0<=j/\j<=1000000/\i.natAbs<2^64):ye fz .pow (.f (.int i)) (.f (.int j)) h=.ok (.f (.int (i^j.toNat))) h:=by simp[ye,YD,c]
@[simp] theorem JL(fz:Bool)(v:MV):Qw fz "len" [v] h=opt (yb h v) λxs=>.ok (.f (.int xs.length)) h:=rfl
@[simp] theorem zcd(fz:Bool)(v:MV):Qw fz "sum" [v] h=opt ((yb h v).bind Yf) λxs=>.ok (.f (.int xs.sum)) h:=rfl
@[simp] theorem yb8(fz:Bool)(v:MV):Qw fz "all" [v] h=opt ((yb h v).bind Yr) λxs=>.ok (.f (.bl (xs.all id))) h:=rfl
@[simp] theorem Ybm(fz:Bool)(v:MV):Qw fz "tuple" [v] h=opt (yb h v) λxs=>.ok (yk xs) h:=rfl
@[simp] theorem qbJ(fz:Bool)(v:MV):Qw fz "list" [v] h=opt (yb h v) λxs=>qo fz xs h:=rfl
@[simp] theorem Kx(fz:Bool)(i j:Int):Qw fz "min" [.f (.int i),.f (.int j)] h=.ok (.f (.int (if j<i then j else i))) h:=rfl
@[simp] theorem YbS(fz:Bool)(i j:Int):Qw fz "max" [.f (.int i),.f (.int j)] h=.ok (.f (.int (if j>i then j else i))) h:=rfl
@[simp] theorem KS(fz:Bool)(i:Int):Qw fz "abs" [.f (.int i)] h=.ok (.f (.int (if i<0 then -i else i))) h:=rfl
@[simp] theorem qbO(fz:Bool)(i:Int):Qw fz "int" [.f (.int i)] h=.ok (.f (.int i)) h:=rfl
@[simp] theorem qbP(fz:Bool)(b:Bool):Qw fz "int" [.f (.bl b)] h=.ok (.f (.int (if b then 1 else 0))) h:=rfl
end
@[simp] theorem CH{α:Type}(c:Prop) [Decidable c] (x y:α)(h:MH):(if c then R.ok x h else R.ok y h)=R.ok (if c then x else y) h:=by split <;> rfl
@[simp] theorem MR(c:Prop) [Decidable c] (x y:FV):(if c then MV.f x else MV.f y)=MV.f (if c then x else y):=by split <;> rfl
@[simp] theorem FU(c:Prop) [Decidable c] (x y:Bool):(if c then FV.bl x else FV.bl y)=FV.bl (if c then x else y):=by split <;> rfl
@[simp] theorem ite_int(c:Prop) [Decidable c] (x y:Int):(if c then FV.int x else FV.int y)=FV.int (if c then x else y):=by split <;> rfl
theorem qj(xs:List MV)(k:Nat):cb xs (k:Int)=xs[k]?:=by
 unfold cb lg;by_cases h:k<xs.length
 ·simp[h]
 ·simp[h]
theorem qI(xs:List MV)(i:Int)(h:0<=i):cb xs i=xs[i.toNat]?:=by
 have:=qj xs i.toNat
 rwa [Int.toNat_of_nonneg h] at this
@[simp] theorem BC(x:MV)(xs:List MV):cb (x::xs) 0=some x:=by have:=qj (x::xs) 0;simpa using this
@[simp] theorem Dl(x y:MV)(xs:List MV):cb (x::y::xs) 1=some y:=by have:=qj (x::y::xs) 1;simpa using this
@[simp] theorem Dj(x y z:MV)(xs:List MV):cb (x::y::z::xs) 2=some z:=by have:=qj (x::y::z::xs) 2;simpa using this
noncomputable def sq(b:Bool)(xs:List FV):FV:=if b=true then .tup xs else .lst xs
@[simp] theorem vI(h:MH)(b:Bool)(xs:List FV):yb h (.f (sq b xs))=some (xs.map .f):=by cases b <;> rfl
@[simp] theorem ZcI(h:MH)(b:Bool)(xs:List FV):zc h (.f (sq b xs))=[]:=rfl
noncomputable def sP:List Int->Int
 |[]=>0
 |x::r=>n9 x r
noncomputable def oo:List Int->Int
 |[]=>0
 |x::r=>mK x r
theorem IZ:∀(r:List Int)(m:Int),n9 m r<=m/\∀ v∈r,n9 m r<=v
 |[],m=>⟨Ur _,λv hv=>by simp at hv⟩
 |x::r,m=>by
  obtain⟨a,b⟩:=IZ r (if x<m then x else m);simp only[n9];refine⟨by split at a <;> rename_i hc <;> simp only[hc,if_true,if_false] <;> lia,λv hv=>?_⟩
  rcases ua.mp hv with rfl|hv
  ·split at a <;> rename_i hc <;> simp only[hc,if_true,if_false] <;> lia
  ·exact b v hv
theorem Lp:∀(r:List Int)(m:Int),n9 m r=m\/n9 m r∈r
 |[],m=>.inl rfl
 |x::r,m=>by
  simp only[n9]
  rcases Lp r (if x<m then x else m) with e|e
  ·rw[e];split
   ·exact .inr (by simp)
   ·exact .inl rfl
  ·exact .inr (by simp[e])
theorem D5:∀(r:List Int)(m:Int),m<=mK m r/\∀ v∈r,v<=mK m r
 |[],m=>⟨Ur _,λv hv=>by simp at hv⟩
 |x::r,m=>by
  obtain⟨a,b⟩:=D5 r (if x>m then x else m);simp only[mK];refine⟨by split at a <;> rename_i hc <;> simp only[hc,if_true,if_false] <;> lia,λv hv=>?_⟩
  rcases ua.mp hv with rfl|hv
  ·split at a <;> rename_i hc <;> simp only[hc,if_true,if_false] <;> lia
  ·exact b v hv
theorem JM:∀(r:List Int)(m:Int),mK m r=m\/mK m r∈r
 |[],m=>.inl rfl
 |x::r,m=>by
  simp only[mK]
  rcases JM r (if x>m then x else m) with e|e
  ·rw[e];split
   ·exact .inr (by simp)
   ·exact .inl rfl
  ·exact .inr (by simp[e])
theorem D7{r:List Int}(h:r≠[]):sP r∈r:=by
 cases r with
 |nil=>exact absurd rfl h
 |cons x r=>rcases Lp r x with e|e <;> simp[sP,e]
theorem Ee{r:List Int}(h:r≠[]):oo r∈r:=by
 cases r with
 |nil=>exact absurd rfl h
 |cons x r=>rcases JM r x with e|e <;> simp[oo,e]
theorem JS{r:List Int}{v:Int}(h:v∈r):sP r<=v:=by
 cases r with
 |nil=>simp at h
 |cons x r =>
  rcases ua.mp h with rfl|h
  ·exact(IZ r v).1
  ·exact(IZ r x).2 v h
theorem LX{r:List Int}{v:Int}(h:v∈r):v<=oo r:=by
 cases r with
 |nil=>simp at h
 |cons x r =>
  rcases ua.mp h with rfl|h
  ·exact(D5 r v).1
  ·exact(D5 r x).2 v h
theorem Ed(fz:Bool)(h:MH)(v:MV)(ns:List Int)(e:(yb h v).bind Yf=some ns)(ne:ns≠[]):Qw fz "min" [v] h=.ok (I (sP ns)) h:=by
 cases ns with
 |nil=>exact absurd rfl ne
 |cons x r=>show opt ((yb h v).bind Yf) _=_;rw[e];rfl
theorem qL(fz:Bool)(h:MH)(v:MV)(ns:List Int)(e:(yb h v).bind Yf=some ns)(ne:ns≠[]):Qw fz "max" [v] h=.ok (I (oo ns)) h:=by
 cases ns with
 |nil=>exact absurd rfl ne
 |cons x r=>show opt ((yb h v).bind Yf) _=_;rw[e];rfl
theorem Yh(h t:MH)(xs:List MV):Zd (h++.lst xs::t) h.length=some xs:=by simp[Zd]
theorem Zj(h t:MH)(xs ys:List MV):Qb (h++.lst xs::t) h.length ys=h++.lst ys::t:=by simp[Qb]
theorem HY(h:MH)(n:Nat):∀ xs:List FV,(xs.map MV.f).mapM (Zp h (n+1))=some xs
 |[]=>rfl
 |x::r=>by simp[vo,HY h n r,Zp]
theorem Qbx(h:MH)(n:Nat):∀ xs:List FV,(xs.map MV.f).flatMap (Qp h (n+1))=[]
 |[]=>rfl
 |x::r=>by simp[Qp]
theorem Pg(h t:MH)(as:List Nat)(ha:∀ a∈as,h.length<=a):∃ t',kill as (h++t)=h++t':=by
 refine⟨(t.mapIdx λi c=>if i+h.length∈as then .dead else c),?_⟩;unfold kill;rw[List.mapIdx_append]
 congr 1
 ·refine Vd λi=>?_;rw[vc];cases q:h[i]? with
  |none=>rfl
  |some c =>
   have hi:=(Wa.mp q).1;have:i∉as:=λz=>by have:=ha i z;lia
   simp[this]
theorem Ef(h:MH)(a:Nat)(xs:List FV)(e:Zd h a=some (xs.map .f)):ZJ (.ref a) h=.ok (.f (.lst xs)) (kill [a] h):=by
 simp only[ZJ,zP,Zp,e,xh,HY,Xf,Qd,Qp,Vj,Qbx]
theorem yB(h t:MH)(xs:List FV):∃ t',ZJ (.ref h.length) (h++.lst (xs.map .f)::t)=.ok (.f (.lst xs)) (h++t'):=by
 obtain⟨t',e⟩:=Pg h (.lst (xs.map .f)::t) [h.length] (by simp);exact⟨t',by rw[Ef _ _ xs (Yh h t _),e]⟩
@[simp] theorem Nz(h:MH)(x:FV):ZJ (.f x) h=.ok (.f x) h:=by
 have:kill [] h=h:=by unfold kill;refine Vd λi=>?_;rw[vc];cases h[i]? <;> rfl
 simp[ZJ,zP,Zp,Qp,this]
set_option tactic.hygienic true in
@[simp] theorem qcQ(k:String->MH->RS)(c:String)(h:MH):RS.lP k (.exc c h)=k c h:=id rfl
set_option tactic.hygienic true in
@[simp] theorem qcE(k:String->MH->RS)(σ:aL)(h:MH):RS.lP k (.next σ h)=.next σ h:=id rfl
set_option tactic.hygienic true in
@[simp] theorem ZcO(k:String->MH->RS)(v:MV)(h:MH):RS.lP k (.ret v h)=.ret v h:=id rfl
theorem cT.refl(h:MH):cT h h:=⟨vb _,λi c _ e=>.inl e⟩
theorem cT.app(h t:MH):cT h (h++t):=⟨by simp,λi c hi e=>.inl (by rw[ub hi] at e;exact e)⟩
theorem cT.cons{c c':Cell}{h h':MH}(t:cT h h')(e:c'=c\/jC c'):cT (c::h) (c'::h'):=by
 refine⟨by have:=t.1;simp;lia,λi d hi q=>?_⟩;cases i with
 |zero =>
  simp at q;subst q;rcases e with e|e
  ·left;simp[e]
  ·exact .inr e
 |succ i=>simp at q hi ⊢;exact t.2 i d hi q
@[simp] theorem QcF(h:MH)(x:FV):yp h (.f x) h=.ok (.f x) h:=by simp[yp,cT.refl]
@[simp] theorem PK(h t:MH)(x:FV):yp h (.f x) (h++t)=.ok (.f x) h:=by simp[yp,cT.app]
@[simp] theorem xX(h:MH)(k k':Int)(x:FV):yp (.lst [I k]::h) (.f x) (.lst [I k']::h)=.ok (.f x) (.lst [I k']::h):=by
 simp[yp,cT.cons (cT.refl h) (.inr ⟨[.int k'],rfl⟩:Cell.lst [I k']=Cell.lst [I k]\/jC (.lst [I k']))]
@[simp] theorem zcy(h t:MH)(k k':Int)(x:FV):yp (.lst [I k]::h) (.f x) (.lst [I k']::(h++t))=.ok (.f x) (.lst [I k']::h):=by
 simp[yp,cT.cons (cT.app h t) (.inr ⟨[.int k'],rfl⟩:Cell.lst [I k']=Cell.lst [I k]\/jC (.lst [I k']))]
@[simp] theorem ycA(h:MH)(c:String):YM h c h=.exc c h:=by simp[YM,cT.refl]
@[simp] theorem QcR(h t:MH)(c:String):YM h c (h++t)=.exc c h:=by simp[YM,cT.app]
@[simp] theorem YcD(h:MH)(σ:aL)(h':MH):Zb h (.next σ h')=yp h (.f .a9) h':=id rfl
@[simp] theorem ycO(h:MH)(v:MV)(h':MH):Zb h (.ret v h')=yp h v h':=id rfl
@[simp] theorem YcN(h:MH)(c:String)(h':MH):Zb h (.exc c h')=YM h c h':=id rfl
@[simp] theorem J8(h:MH):bx [] h:=λp hp=>by simp at hp
@[simp] theorem qc2(h:MH)(x:FV):zc h (.f x)=[]:=rfl
@[simp] theorem qcA(h:MH)(x:List MV):zc h (.tup x)=[]:=rfl
theorem Mv(bd:MV->aL->MH->RS)(x:MV)(r:List MV)(σ:aL)(h:MH):YO [] bd (x::r) σ h=(bd x σ h).turn λσ1 h1=>YO [] bd r σ1 h1:=by simp[YO]
@[simp] theorem Z7(h:MH)(v:MV):iB "seq" [v] h=(yb h v).map λxs=>(xs,zc h v):=rfl
theorem yi(h:MH)(n:Int)(c:-(2^62)<=n/\n<2^62):iB "range" [.f (.int n)] h=some ((va n.toNat).map λ(k:Nat)=>I k,[]):=if_pos c
theorem ybr(h:MH)(a b:Int)(c:-(2^62)<=a/\a<2^62/\-(2^62)<=b/\b<2^62):iB "range" [.f (.int a),.f (.int b)] h=some ((va (b-a).toNat).map λ(k:Nat)=>I (a+k),[]):=if_pos c
theorem QcJ(h:MH)(u:MV):iB "range" [u] h=(Zc u).bind λn=>if -(2^62)<=n/\n<2^62 then some ((va n.toNat).map λ(k:Nat)=>.f (.int k),[]) else none:=rfl
theorem qcK(h:MH)(u v:MV):iB "range" [u,v] h=(Zc u).bind λa=>(Zc v).bind λb=>if -(2^62)<=a/\a<2^62/\-(2^62)<=b/\b<2^62 then some ((va (b-a).toNat).map λ(k:Nat)=>.f (.int (a+k)),[]) else none:=rfl
theorem zcI(h:MH)(u v w:MV):iB "range" [u,v,w] h=(Zc u).bind λa=>(Zc v).bind λb=>(Zc w).bind λs=>if -(2^30)<=a/\a<2^30/\-(2^30)<=b/\b<2^30/\0<s/\s<2^30 then some ((va (fA a b s)).map λ(k:Nat)=>.f (.int (a+k*s)),[]) else none:=rfl
theorem zbT(h:MH)(s:Str):iB "signs" [.f (.str s)] h=some (s.cps.toList.map λc=>.f (.str ⟨#[c]⟩),[]):=rfl
@[simp] theorem Md(h:MH)(u v:MV):iB "zip" [u,v] h=(yb h u).bind λxs=>(yb h v).map λys=>((xs.zip ys).map λp=>yk [p.1,p.2],zc h u++zc h v):=rfl
@[simp] theorem KO(h:MH)(v:MV):iB "enumerate" [v] h=(yb h v).map λxs=>(xs.mapIdx λk x=>yk [.f (.int k),x],zc h v):=rfl
@[simp] theorem zcV(n:Nat):(((n:Int)+1=0)=False):=eq_false (by lia)
@[simp] theorem ycC(n:Nat):(((n:Int)+1==0)=false):=beq_false_of_ne (by lia)
theorem Ye{α:Type}{bd:MV->aL->MH->R (Option MV×aL)}{h:MH}{e g:α->MV}{caps:aL}:∀(ys:List α)(acc:List MV)(z:Option MV),acc.length+ys.length<=aK ->
  (∀ y∈ys,∀ z,∃ z',bd (e y) (z::caps) h=.ok (some (g y),z'::caps) h)->Qj [] bd (ys.map e) acc (z::caps) h=.ok (acc++ys.map g) h
 |[],acc,z,_,_=>by simp[Qj]
 |y::r,acc,z,hl,hb=>by
  obtain⟨z',e'⟩:=hb y (by simp) z;simp only[ud] at hl;have:=Ye (bd:=bd) (h:=h) (e:=e) (g:=g) (caps:=caps) r (acc++[g y]) z' (by simp;lia) (λy hy z=>hb y (by simp[hy]) z);simp[Qj,e',this]
  lia
theorem Zv{α:Type}{bd:MV->aL->MH->R (Option MV×aL)}{h:MH}{e g:α->MV}{t:α->Bool}{caps:aL}:∀(ys:List α)(acc:List MV)(z:Option MV),acc.length+ys.length<=aK ->
  (∀ y∈ys,∀ z,∃ z',bd (e y) (z::caps) h=.ok (if t y=true then some (g y) else none,z'::caps) h)->Qj [] bd (ys.map e) acc (z::caps) h=.ok (acc++(ys.filter t).map g) h
 |[],acc,z,_,_=>by simp[Qj]
 |y::r,acc,z,hl,hb=>by
  obtain⟨z',e'⟩:=hb y (by simp) z;simp only[ud] at hl;have ih:=λgy (oR:gy.length+r.length<=aK)=>Zv (bd:=bd) (h:=h) (e:=e) (g:=g) (t:=t) (caps:=caps) r gy z' oR (λy hy z=>hb y (by simp[hy]) z);cases ht:t y with
  |true =>
   simp[ht] at e';simp[Qj,e',ih (acc++[g y]) (by simp;lia),ht]
   lia
  |false =>
   simp[ht] at e';simp[Qj,e',ih acc (by lia),ht]
   lia
theorem ZH{α β:Type}{bd:MV->aL->MH->RS}{e:α->MV}{st:β->aL}{hp:β->MH}{f:β->α->β}:∀(ys:List α)(b:β),
  (∀ y∈ys,∀ b,bd (e y) (st b) (hp b)=.next (st (f b y)) (hp (f b y)))->YO [] bd (ys.map e) (st b) (hp b)=.next (st (ys.foldl f b)) (hp (ys.foldl f b))
 |[],b,_=>by simp[YO]
 |y::r,b,hb=>by
  simp only[Ub,Mv,hb y (by simp) b,RS.mj,Hl];exact ZH r (f b y) λy hy b=>hb y (by simp[hy]) b
theorem Iw{α:Type}{bd:MV->aL->MH->RS}{e:α->MV}(Pv:Nat->aL->MH->Prop):∀(ys:List α)(i:Nat)(σ:aL)(h:MH),Pv i σ h ->
  (∀ j y σ h,ys[j]?=some y->Pv (i+j) σ h->∃ σ' h',bd (e y) σ h=.next σ' h'/\Pv (i+j+1) σ' h')->∃ σ' h',YO [] bd (ys.map e) σ h=.next σ' h'/\Pv (i+ys.length) σ' h'
 |[],i,σ,h,p,_=>⟨σ,h,by simp[YO],p⟩
 |y::r,i,σ,h,p,hb=>by
  obtain⟨σ1,h1,e1,p1⟩:=hb 0 y σ h rfl p;obtain⟨σ2,h2,e2,p2⟩:=Iw (bd:=bd) (e:=e) Pv r (i+1) σ1 h1 p1 (λj y σ h hj pj=>by
   have:=hb (j+1) y σ h (by simpa using hj) (by rw[show i+(j+1)=i+1+j by lia];exact pj)
   rwa [show i+(j+1)+1=i+1+j+1 by lia] at this)
  refine⟨σ2,h2,by simp[Mv,e1,e2],?_⟩
  rwa [show i+(y::r).length=i+1+r.length by simp;lia]
end MP
end
section
namespace SD
open PySem PySem.Spec PyProof.Rows L2 L3 M3 MP
structure Tx where
 adr:String->af
 K:gc
 cd:af:=0
 tb:af:=0
 lp:Pos:=⟨0,0,0,0⟩
 lq:Str:=kg ""
instance:CoeFun Tx (λ_=>String->af):=⟨Tx.adr⟩
def BK(K:gc)(a:af)(ns:List Int):Prop:=∃(o:Obj)(its:Array Value)(n:Nat),K.lookup a=some o/\o.cls=.type "list"/\o.dict=none/\o.data=.seq its n/\its.size<=sizeLine/\Vals (ns.map V.int) its.toList
def a7(μ:List af)(h:MH)(b:af):Prop:=∃(i:Nat)(c:Cell),μ[i]?=some b/\h[i]?=some c/\c≠Cell.dead
section
variable (ct:Tx)
mutual
def RF(L:af->Prop)(H:Hp):FV->V->Prop
 |.a9,v=>v=.a9
 |.bl b,v=>v=.bl b
 |.int i,v=>v=.int i
 |.str x,v=>v=.str x
 |.tup xs,v=>∃ a vs,v=.ref a/\¬ L a/\H a=some (.tup vs)/\fF L H xs vs
 |.lst xs,v=>∃ a vs,v=.ref a/\¬ L a/\Rd H a (.lst vs)/\fF L H xs vs
 |.obj c ns xs,v=>∃ a dx fs,v=.ref a/\¬ L a/\H a=some (.ins (ct c) dx fs)/\fs.map Vt=ns.map kg/\fF L H xs (fs.map Um)
 |.tab aJ,v=>∃ a o,v=.ref a/\¬ L a/\H a=some (.eI o (.dT (aJ.map λkv=>([(Jb kv.1.1:Key),Jb kv.1.2],V.int kv.2))))
 |.jN ks,v=>∃ a o,v=.ref a/\¬ L a/\H a=some (.eI o (.dT (ks.map λk=>([(Jb k.1:Key),Jb k.2],V.bl true))))
 |.eC ns,v=>∃ a,v=.ref a/\((¬ L a/\∃ o,H a=some (.eI o (.lst (ns.map V.int))))\/BK ct.K a ns)
def fF(L:af->Prop)(H:Hp):List FV->List V->Prop
 |[],vs=>vs=[]
 |x::xs,vs=>∃ v r,vs=v::r/\RF L H x v/\fF L H xs r
end
mutual
def RV(μ:List af)(L:af->Prop)(H:Hp):MV->V->Prop
 |.f x,v=>RF ct L H x v
 |.ref i,v=>∃ b,μ[i]?=some b/\v=.ref b
 |.tup xs,v=>∃ a vs,v=.ref a/\¬ L a/\H a=some (.tup vs)/\aD μ L H xs vs
 |.exc c,v=>∃ a,v=.ref a/\¬ L a/\H a=some (.ext (Hx (ct c) a))
def aD(μ:List af)(L:af->Prop)(H:Hp):List MV->List V->Prop
 |[],vs=>vs=[]
 |x::xs,vs=>∃ v r,vs=v::r/\RV μ L H x v/\aD μ L H xs r
end
def bK(μ:List af)(L:af->Prop)(H:Hp)(b:af):Cell->Prop
 |.lst xs=>∃ vs,H b=some (.lst vs)/\aD ct μ L H xs vs
 |.obj c fs=>∃ dx gs,H b=some (.ins (ct c) dx gs)/\gs.map Vt=fs.map (λp=>kg p.1)/\aD ct μ L H (fs.map Um) (gs.map Um)
 |.iQ ks=>H b=some (.dK (ks.map λk=>((Jb k:Key),V.bl true)))
 |.tab aJ=>H b=some (.dT (aJ.map λkv=>([(Jb kv.1.1:Key),Jb kv.1.2],V.int kv.2)))
 |.jN ks=>H b=some (.dT (ks.map λk=>([(Jb k.1:Key),Jb k.2],V.bl true)))
 |.code=>b=ct.tb/\(H b=some (.ext (uQ b ct.lp none))\/∃ c',c'≠b/\¬ L c'/\H b=some (.ext (uQ b ct.lp (some c')))/\H c'=some (.ext (HJ c' ct.lq)))
 |.dead=>True
structure Rel (μ:List af) (h:MH) (H:Hp):Prop where
 len:μ.length=h.length
 nd:μ.Nodup
 has:∀ b∈μ,∃ o,H b=some o
 cells:∀(i:Nat)(b:af)(c:Cell),μ[i]?=some b->h[i]?=some c->bK ct μ (a7 μ h) H b c
end
structure Ext (μ:List af) (h:MH) (H:Hp) (μ':List af) (h':MH) (H':Hp):Prop where
 pre:∃ ν,μ'=μ++ν
 keep:∀ b o,H b=some o->¬ a7 μ h b->H' b=some o
 kO:∀ b,a7 μ' h' b->a7 μ h b\/H b=none
theorem Ext.refl(μ:List af)(h:MH)(H:Hp):Ext μ h H μ h H:=⟨⟨[],by simp⟩,λ_ _ e _=>e,λ_ l=>.inl l⟩
theorem Ext.trans{μ μ1 μ2:List af}{h h1 h2:MH}{H H1 H2:Hp}(a:Ext μ h H μ1 h1 H1)(b:Ext μ1 h1 H1 μ2 h2 H2):Ext μ h H μ2 h2 H2:=by
 obtain⟨ν,e⟩:=a.pre;obtain⟨ν',e'⟩:=b.pre;refine⟨⟨ν++ν',by rw[e',e,vk]⟩,λc o q n=>?_,λc l=>?_⟩
 ·refine b.keep c o (a.keep c o q n) λl=>?_
  rcases a.kO c l with z|z
  ·exact n z
  ·rw[q] at z;cases z
 ·rcases b.kO c l with z|z
  ·exact a.kO c z
  ·by_cases n:a7 μ h c
   ·exact .inl n
   ·cases q:H c with
    |none=>exact .inr rfl
    |some o=>rw[a.keep c o q n] at z;cases z
theorem Rd.keep{H H':Hp}{a:af}{u:HO}(k:∀ o,H a=some o->H' a=some o)(r:Rd H a u):Rd H' a u:=r.elim (λe=>.inl (k _ e)) λ⟨o,e⟩=>.inr ⟨o,k _ e⟩
theorem Rd.some{H:Hp}{a:af}{u:HO}(r:Rd H a u):∃ o,H a=some o:=r.elim (λe=>⟨_,e⟩) λ⟨_,e⟩=>⟨_,e⟩
section
variable {ct:Tx}
structure Let (L:af->Prop) (H:Hp) (L':af->Prop) (H':Hp):Prop where
 keep:∀ b o,H b=some o->¬ L b->H' b=some o
 kO:∀ b o,H b=some o->¬ L b->¬ L' b
theorem Ext.let{μ μ':List af}{h h':MH}{H H':Hp}(e:Ext μ h H μ' h' H'):Let (a7 μ h) H (a7 μ' h') H' :=
 ⟨e.keep,λb o q n l=>(e.kO b l).elim n λz=>by rw[q] at z;cases z⟩
mutual
theorem RF.to{L L':af->Prop}{H H':Hp}(l:Let L H L' H'):∀{x:FV}{v:V},RF ct L H x v->RF ct L' H' x v
 |.a9,_,r=>by simpa only[RF] using r
 |.bl _,_,r=>by simpa only[RF] using r
 |.int _,_,r=>by simpa only[RF] using r
 |.str _,_,r=>by simpa only[RF] using r
 |.tup xs,v,r=>by
  simp only[RF] at r ⊢;obtain⟨a,vs,e,n,rd,q⟩:=r;exact⟨a,vs,e,l.kO a _ rd n,l.keep a _ rd n,fF.to l q⟩
 |.lst xs,v,r=>by
  simp only[RF] at r ⊢;obtain⟨a,vs,e,n,rd,q⟩:=r;obtain⟨o,ho⟩:=Rd.some rd;exact⟨a,vs,e,l.kO a o ho n,Rd.keep (λo e=>l.keep a o e n) rd,fF.to l q⟩
 |.obj c ns xs,v,r=>by
  simp only[RF] at r ⊢;obtain⟨a,dx,fs,e,n,ho,q1,q⟩:=r;exact⟨a,dx,fs,e,l.kO a _ ho n,l.keep a _ ho n,q1,fF.to l q⟩
 |.tab aJ,v,r=>by
  simp only[RF] at r ⊢;obtain⟨a,o,e,n,q⟩:=r;exact⟨a,o,e,l.kO a _ q n,l.keep a _ q n⟩
 |.jN ks,v,r=>by
  simp only[RF] at r ⊢;obtain⟨a,o,e,n,q⟩:=r;exact⟨a,o,e,l.kO a _ q n,l.keep a _ q n⟩
 |.eC ns,v,r=>by
  simp only[RF] at r ⊢;obtain⟨a,e,q⟩:=r;exact⟨a,e,q.imp (λ⟨n,o,h⟩=>⟨l.kO a _ h n,o,l.keep a _ h n⟩) id⟩
theorem fF.to{L L':af->Prop}{H H':Hp}(l:Let L H L' H'):∀{xs:List FV}{vs:List V},fF ct L H xs vs->fF ct L' H' xs vs
 |[],_,r=>by simpa only[fF] using r
 |x::xs,vs,r=>by
  simp only[fF] at r ⊢;obtain⟨v,t,e,q1,q2⟩:=r;exact⟨v,t,e,RF.to l q1,fF.to l q2⟩
end
mutual
theorem RV.to{μ ν:List af}{L L':af->Prop}{H H':Hp}(l:Let L H L' H'):∀{x:MV}{v:V},RV ct μ L H x v->RV ct (μ++ν) L' H' x v
 |.f x,v,r=>by simp only[RV] at r ⊢;exact RF.to l r
 |.ref i,v,r=>by
  simp only[RV] at r ⊢;obtain⟨b,e,q⟩:=r;exact⟨b,by rw[ub (Wa.mp e).1];exact e,q⟩
 |.tup xs,v,r=>by
  simp only[RV] at r ⊢;obtain⟨a,vs,e,n,rd,q⟩:=r;exact⟨a,vs,e,l.kO a _ rd n,l.keep a _ rd n,aD.to l q⟩
 |.exc _,v,r=>by
  simp only[RV] at r ⊢;obtain⟨a,e,n,q⟩:=r;exact⟨a,e,l.kO a _ q n,l.keep a _ q n⟩
theorem aD.to{μ ν:List af}{L L':af->Prop}{H H':Hp}(l:Let L H L' H'):∀{xs:List MV}{vs:List V},aD ct μ L H xs vs->aD ct (μ++ν) L' H' xs vs
 |[],_,r=>by simpa only[aD] using r
 |x::xs,vs,r=>by
  simp only[aD] at r ⊢;obtain⟨v,t,e,q1,q2⟩:=r;exact⟨v,t,e,RV.to l q1,aD.to l q2⟩
end
theorem RV.ext{μ μ':List af}{h h':MH}{H H':Hp}{x:MV}{v:V}(e:Ext μ h H μ' h' H')(r:RV ct μ (a7 μ h) H x v):RV ct μ' (a7 μ' h') H' x v:=by
 obtain⟨ν,q⟩:=e.pre;subst q;exact RV.to e.let r
theorem aD.ext{μ μ':List af}{h h':MH}{H H':Hp}{x:List MV}{v:List V}(e:Ext μ h H μ' h' H')(r:aD ct μ (a7 μ h) H x v):aD ct μ' (a7 μ' h') H' x v:=by
 obtain⟨ν,q⟩:=e.pre;subst q;exact aD.to e.let r
theorem aD.length{μ:List af}{L:af->Prop}{H:Hp}:∀{xs:List MV}{vs:List V},aD ct μ L H xs vs->vs.length=xs.length
 |[],_,r=>by simp only[aD] at r;simp[r]
 |x::xs,vs,r=>by
  simp only[aD] at r;obtain⟨v,t,e,_,q⟩:=r;simp[e,aD.length q]
theorem aD.get{μ:List af}{L:af->Prop}{H:Hp}:∀{xs:List MV}{vs:List V}{i:Nat}{x:MV},aD ct μ L H xs vs->xs[i]?=some x->∃ v,vs[i]?=some v/\RV ct μ L H x v
 |[],_,_,_,_,e=>by simp at e
 |x::xs,vs,0,y,r,e=>by
  simp only[aD] at r;obtain⟨v,t,q,r1,_⟩:=r;simp at e;subst e;exact⟨v,by simp[q],r1⟩
 |x::xs,vs,i+1,y,r,e=>by
  simp only[aD] at r;obtain⟨v,t,q,_,r2⟩:=r;obtain⟨u,h1,h2⟩:=aD.get (i:=i) r2 (by simpa using e);exact⟨u,by simp[q,h1],h2⟩
theorem aD.get'{μ:List af}{L:af->Prop}{H:Hp}{xs:List MV}{vs:List V}{i:Nat}{v:V}(r:aD ct μ L H xs vs)(e:vs[i]?=some v):∃ x,xs[i]?=some x/\RV ct μ L H x v:=by
 have hl:=r.length;have hi:i<xs.length:=by rw[<- hl];exact(Wa.mp e).1
 obtain⟨u,h1,h2⟩:=r.get (i:=i) (x:=xs[i]) (by simp[hi]);rw[e] at h1;cases h1;exact⟨_,by simp[hi],h2⟩
theorem aD.cons{μ:List af}{L:af->Prop}{H:Hp}{x:MV}{v:V}{xs:List MV}{vs:List V}(a:RV ct μ L H x v)(b:aD ct μ L H xs vs):aD ct μ L H (x::xs) (v::vs):=by
 simp only[aD];exact⟨v,vs,rfl,a,b⟩
theorem aD.nil{μ:List af}{L:af->Prop}{H:Hp}:aD ct μ L H [] []:=by simp only[aD]
theorem aD.append{μ:List af}{L:af->Prop}{H:Hp}:∀{xs ys:List MV}{vs ws:List V},aD ct μ L H xs vs->aD ct μ L H ys ws->aD ct μ L H (xs++ys) (vs++ws)
 |[],_,_,_,r,s=>by simp only[aD] at r;subst r;exact s
 |x::xs,ys,vs,ws,r,s=>by
  simp only[aD] at r;obtain⟨v,t,rfl,r1,r2⟩:=r;exact aD.cons r1 (aD.append r2 s)
theorem aD.take{μ:List af}{L:af->Prop}{H:Hp}:∀(n:Nat){xs:List MV}{vs:List V},aD ct μ L H xs vs->aD ct μ L H (xs.take n) (vs.take n)
 |0,_,_,_=>aD.nil
 |n+1,[],_,r=>by simp only[aD] at r;subst r;exact aD.nil
 |n+1,x::xs,vs,r=>by
  simp only[aD] at r;obtain⟨v,t,rfl,r1,r2⟩:=r;exact aD.cons r1 (aD.take n r2)
theorem aD.drop{μ:List af}{L:af->Prop}{H:Hp}:∀(n:Nat){xs:List MV}{vs:List V},aD ct μ L H xs vs->aD ct μ L H (xs.drop n) (vs.drop n)
 |0,_,_,r=>r
 |n+1,[],_,r=>by simp only[aD] at r;subst r;exact aD.nil
 |n+1,x::xs,vs,r=>by
  simp only[aD] at r;obtain⟨v,t,rfl,r1,r2⟩:=r;exact aD.drop n r2
theorem aD.set{μ:List af}{L:af->Prop}{H:Hp}{y:MV}{u:V}(q:RV ct μ L H y u):∀(n:Nat){xs:List MV}{vs:List V},aD ct μ L H xs vs->aD ct μ L H (xs.set n y) (vs.set n u)
 |_,[],_,r=>by simp only[aD] at r;subst r;exact aD.nil
 |0,x::xs,vs,r=>by
  simp only[aD] at r;obtain⟨v,t,rfl,r1,r2⟩:=r;exact aD.cons q r2
 |n+1,x::xs,vs,r=>by
  simp only[aD] at r;obtain⟨v,t,rfl,r1,r2⟩:=r;exact aD.cons r1 (aD.set q n r2)
theorem aD.w8{μ:List af}{L:af->Prop}{H:Hp}:∀{xs:List FV}{vs:List V},fF ct L H xs vs->aD ct μ L H (xs.map MV.f) vs
 |[],_,r=>by simp only[fF] at r;subst r;exact aD.nil
 |x::xs,vs,r=>by
  simp only[fF] at r;obtain⟨v,t,rfl,r1,r2⟩:=r;exact aD.cons (by simp only[RV];exact r1) (aD.w8 r2)
theorem aD.toF{μ:List af}{L:af->Prop}{H:Hp}:∀{xs:List MV}{ys:List FV}{vs:List V},yo xs=some ys->aD ct μ L H xs vs->fF ct L H ys vs
 |[],ys,vs,e,r=>by simp[yo] at e;subst e;simp only[aD] at r;subst r;simp only[fF]
 |.f x::xs,ys,vs,e,r=>by
  simp only[yo,Wb] at e;obtain⟨zs,e1,rfl⟩:=e;simp only[aD] at r;obtain⟨v,t,rfl,r1,r2⟩:=r;simp only[fF];exact⟨v,t,rfl,by simpa only[RV] using r1,aD.toF e1 r2⟩
 |.ref _::_,_,_,e,_=>by simp[yo] at e
 |.tup _::_,_,_,e,_=>by simp[yo] at e
 |.exc _::_,_,_,e,_=>by simp[yo] at e
end
section
variable {ct:Tx}
structure aY (ct:Tx) (μ:List af) (h:MH) (H:Hp) (σ:L2.St) (σs:aL):Prop where
 len:σ.length=σs.length
 at_:∀(i:Nat)(m:MV),σs[i]?=some (some m)->∃ v,σ[i]?=some (some v)/\RV ct μ (a7 μ h) H m v
theorem aY.ext{μ μ':List af}{h h':MH}{H H':Hp}{σ:L2.St}{σs:aL}(e:Ext μ h H μ' h' H')(r:aY ct μ h H σ σs):aY ct μ' h' H' σ σs :=
 ⟨r.len,λi m q=>let ⟨v,a,b⟩:=r.at_ i m q;⟨v,a,b.ext e⟩⟩
theorem aY.set{μ:List af}{h:MH}{H:Hp}{σ:L2.St}{σs:aL}{m:MV}{v:V}(i:Nat)(r:aY ct μ h H σ σs)(q:RV ct μ (a7 μ h) H m v):aY ct μ h H (σ.set i (some v)) (σs.set i (some m)):=by
 refine⟨by simp[r.len],λj m' e=>?_⟩;by_cases hj:i=j
 ·subst hj;have hi:i<σs.length:=by
   have:=(Wa.mp e).1;simpa using this
  rw[xl hi] at e;cases e;exact⟨v,by rw[xl (by rw[r.len];exact hi)],q⟩
 ·rw[Xk hj] at e;obtain⟨u,a,b⟩:=r.at_ j m' e;exact⟨u,by rw[Xk hj];exact a,b⟩
def Po{α:Type}(ct:Tx)(E:XK)(r:R α)(μ:List af)(h:MH)(H:Hp)(k:α->List af->MH->Hp->Prop):Prop:=match r with
 |.ok x h'=>∀ μ' H',Ext μ h H μ' h' H'->Rel ct μ' h' H'->k x μ' h' H'
 |.exc c h'=>∀ μ' H',Ext μ h H μ' h' H'->Rel ct μ' h' H'->E (.ref (ct c)) none H'
 |.stuck=>False
section
variable {α β:Type} {E:XK} {μ μ1:List af} {h h1:MH} {H H1:Hp}
theorem Po.start{r:R α}{k:α->List af->MH->Hp->Prop}(e:Ext μ h H μ1 h1 H1)(p:Po ct E r μ h H k):Po ct E r μ1 h1 H1 k:=by
 cases r with
 |ok x h'=>exactλμ' H' e' r'=>p μ' H' (e.trans e') r'
 |exc c h'=>exactλμ' H' e' r'=>p μ' H' (e.trans e') r'
 |stuck=>exact p
theorem Po.bind{r:R α}{g:α->MH->R β}{k:β->List af->MH->Hp->Prop}(p:Po ct E (r.bind g) μ h H k):Po ct E r μ h H λx μ1 h1 H1=>Ext μ h H μ1 h1 H1/\Rel ct μ1 h1 H1/\Po ct E (g x h1) μ1 h1 H1 k:=by
 cases r with
 |ok x h'=>exactλμ' H' e' r'=>⟨e',r',Po.start (r:=g x h') e' p⟩
 |exc c h'=>exact p
 |stuck=>exact p
theorem Po.imp{r:R α}{k k':α->List af->MH->Hp->Prop}(p:Po ct E r μ h H k)(f:∀ x μ1 h1 H1,k x μ1 h1 H1->k' x μ1 h1 H1):Po ct E r μ h H k':=by
 cases r with
 |ok x h'=>exactλμ' H' e' r'=>f _ _ _ _ (p μ' H' e' r')
 |exc c h'=>exact p
 |stuck=>exact p
theorem Po.opt{o:Option α}{g:α->R β}{k:β->List af->MH->Hp->Prop}(p:Po ct E (opt o g) μ h H k):∃ x,o=some x/\Po ct E (g x) μ h H k:=by
 cases o with
 |none=>exact p.elim
 |some x=>exact⟨x,rfl,p⟩
theorem Po.now{x:α}{k:α->List af->MH->Hp->Prop}(rel:Rel ct μ h H)(p:Po ct E (.ok x h) μ h H k):k x μ h H:=p μ H (Ext.refl _ _ _) rel
theorem Po.FG{x:α}{h':MH}{k:α->List af->MH->Hp->Prop}(p:Po ct E (.ok x h') μ h H k){μ':List af}{H':Hp}(e:Ext μ h H μ' h' H')(rel:Rel ct μ' h' H'):k x μ' h' H':=p μ' H' e rel
end
def kV(ct:Tx)(Q:VK):MV->List af->MH->Hp->Prop:=λm μ h H=>∀ v,RV ct μ (a7 μ h) H m v->Q v H
def kVs(ct:Tx)(Q:List V->Hp->Prop):List MV->List af->MH->Hp->Prop:=λm μ h H=>∀ v,aD ct μ (a7 μ h) H m v->Q v H
section
variable (ct) (Ra:L2.St->Prop) (E:XK)
noncomputable def lE(ev:aL->MH->R MV):TE:=λσ H Q=>∃ μ h σs,Rel ct μ h H/\aY ct μ h H σ σs/\Ra σ/\Po ct E (ev σs h) μ h H (kV ct Q)
noncomputable def lT(ev:aL->MH->R Bool):TT:=λσ H Q=>∃ μ h σs,Rel ct μ h H/\aY ct μ h H σ σs/\Ra σ/\Po ct E (ev σs h) μ h H λb _ _ H'=>Q b H'
noncomputable def lA(ev:aL->MH->R (List MV)):TA:=λσ H Q=>∃ μ h σs,Rel ct μ h H/\aY ct μ h H σ σs/\Ra σ/\Po ct E (ev σs h) μ h H (kVs ct Q)
noncomputable def lO(ev:aL->MH->R (Option Int)):TO:=λσ H Q=>∃ μ h σs,Rel ct μ h H/\aY ct μ h H σ σs/\Ra σ/\Po ct E (ev σs h) μ h H λb _ _ H'=>Q b H'
end
section
variable {Ra:L2.St->Prop} {E:XK} {μ:List af} {h:MH} {H:Hp} {σ:L2.St} {σs:aL} {β:Type}
theorem lE.mk{ev:aL->MH->R MV}{g:MV->MH->R β}{k:β->List af->MH->Hp->Prop}{Q:VK}(rel:Rel ct μ h H)(aI:aY ct μ h H σ σs)(ra:Ra σ)(p:Po ct E ((ev σs h).bind g) μ h H k)
  (f:∀ m v μ1 h1 H1,Ext μ h H μ1 h1 H1->Rel ct μ1 h1 H1->aY ct μ1 h1 H1 σ σs->RV ct μ1 (a7 μ1 h1) H1 m v->Po ct E (g m h1) μ1 h1 H1 k->Q v H1):lE ct Ra E ev σ H Q :=
 ⟨μ,h,σs,rel,aI,ra,(Po.bind p).imp λm μ1 h1 H1 ⟨e1,r1,p1⟩ v rv=>f m v μ1 h1 H1 e1 r1 (aI.ext e1) rv p1⟩
theorem lT.mk{ev:aL->MH->R Bool}{g:Bool->MH->R β}{k:β->List af->MH->Hp->Prop}{Q:Bool->Hp->Prop}(rel:Rel ct μ h H)(aI:aY ct μ h H σ σs)(ra:Ra σ)(p:Po ct E ((ev σs h).bind g) μ h H k)
  (f:∀ m μ1 h1 H1,Ext μ h H μ1 h1 H1->Rel ct μ1 h1 H1->aY ct μ1 h1 H1 σ σs->Po ct E (g m h1) μ1 h1 H1 k->Q m H1):lT ct Ra E ev σ H Q :=
 ⟨μ,h,σs,rel,aI,ra,(Po.bind p).imp λm μ1 h1 H1 ⟨e1,r1,p1⟩=>f m μ1 h1 H1 e1 r1 (aI.ext e1) p1⟩
theorem lA.mk{ev:aL->MH->R (List MV)}{g:List MV->MH->R β}{k:β->List af->MH->Hp->Prop}{Q:List V->Hp->Prop}(rel:Rel ct μ h H)(aI:aY ct μ h H σ σs)(ra:Ra σ)(p:Po ct E ((ev σs h).bind g) μ h H k)
  (f:∀ m v μ1 h1 H1,Ext μ h H μ1 h1 H1->Rel ct μ1 h1 H1->aY ct μ1 h1 H1 σ σs->aD ct μ1 (a7 μ1 h1) H1 m v->Po ct E (g m h1) μ1 h1 H1 k->Q v H1):lA ct Ra E ev σ H Q :=
 ⟨μ,h,σs,rel,aI,ra,(Po.bind p).imp λm μ1 h1 H1 ⟨e1,r1,p1⟩ v rv=>f m v μ1 h1 H1 e1 r1 (aI.ext e1) rv p1⟩
theorem lO.mk{ev:aL->MH->R (Option Int)}{g:Option Int->MH->R β}{k:β->List af->MH->Hp->Prop}{Q:Option Int->Hp->Prop}(rel:Rel ct μ h H)(aI:aY ct μ h H σ σs)(ra:Ra σ)(p:Po ct E ((ev σs h).bind g) μ h H k)
  (f:∀ m μ1 h1 H1,Ext μ h H μ1 h1 H1->Rel ct μ1 h1 H1->aY ct μ1 h1 H1 σ σs->Po ct E (g m h1) μ1 h1 H1 k->Q m H1):lO ct Ra E ev σ H Q :=
 ⟨μ,h,σs,rel,aI,ra,(Po.bind p).imp λm μ1 h1 H1 ⟨e1,r1,p1⟩=>f m μ1 h1 H1 e1 r1 (aI.ext e1) p1⟩
end
section
variable {μ:List af} {h:MH} {H:Hp}
theorem a7.has(rel:Rel ct μ h H){b:af}(l:a7 μ h b):∃ o,H b=some o:=let ⟨i,_,e,_,_⟩:=l;rel.has b (Vb e)
theorem Rel.fresh(rel:Rel ct μ h H){p:af}(hp:H p=none):p∉μ:=λz=>by obtain⟨o,e⟩:=rel.has p z;rw[hp] at e;cases e
theorem Ext.new(rel:Rel ct μ h H){p:af}(hp:H p=none)(o:HO):Ext μ h H μ h (upd H p o) :=
 ⟨⟨[],by simp⟩,λb u e _=>by rw[yd (Zg e hp)];exact e,λb l=>.inl l⟩
theorem bK.to{μ ν:List af}{L L':af->Prop}{H H':Hp}{b:af}{c:Cell}(l:Let L H L' H')(kb:c≠.dead->H' b=H b)(r:bK ct μ L H b c):bK ct (μ++ν) L' H' b c:=by
 cases c with
 |lst xs =>
  obtain⟨vs,e,q⟩:=r;exact⟨vs,by rw[kb (λz=>nomatch z)];exact e,aD.to l q⟩
 |obj c fs =>
  obtain⟨dx,gs,e,q1,q⟩:=r;exact⟨dx,gs,by rw[kb (λz=>nomatch z)];exact e,q1,aD.to l q⟩
 |iQ ks=>exact(kb (λz=>nomatch z)).trans r
 |tab ks=>exact(kb (λz=>nomatch z)).trans r
 |jN ks=>exact(kb (λz=>nomatch z)).trans r
 |code =>
  obtain⟨e,r⟩:=r;have kb:=kb (λz=>nomatch z);refine⟨e,r.elim (λr=>.inl (kb.trans r)) λ⟨c',n1,n2,r1,r2⟩=>.inr ⟨c',n1,l.kO _ _ r2 n2,kb.trans r1,l.keep _ _ r2 n2⟩⟩
 |dead=>trivial
theorem Rel.new(rel:Rel ct μ h H){p:af}(hp:H p=none)(o:HO):Rel ct μ h (upd H p o):=by
 refine⟨rel.len,rel.nd,λb hb=>?_,λi b c e1 e2=>?_⟩
 ·obtain⟨u,e⟩:=rel.has b hb;exact⟨u,by rw[yd (Zg e hp)];exact e⟩
 ·have:=bK.to (ν:=[]) (Ext.new rel hp o).let (b:=b) (λ_=>by
   obtain⟨u,e⟩:=rel.has b (Vb e1);exact yd (Zg e hp)) (rel.cells i b c e1 e2)
  simpa using this
theorem a7.app{μ:List af}{h:MH}(hl:μ.length=h.length){p b:af}{c:Cell}(l:a7 (μ++[p]) (h++[c]) b):a7 μ h b\/b=p:=by
 obtain⟨i,d,e1,e2,nd⟩:=l;by_cases hi:i<μ.length
 ·rw[ub hi] at e1;rw[ub (by lia)] at e2;exact .inl ⟨i,d,e1,e2,nd⟩
 ·rw[Vc (by lia)] at e1;have:i-μ.length=0:=by
   have:=(Wa.mp e1).1;simp at this;lia
  rw[this] at e1;simp at e1;exact .inr e1.symm
theorem Ext.cell(rel:Rel ct μ h H){p:af}(hp:H p=none)(c:Cell)(o:HO):Ext μ h H (μ++[p]) (h++[c]) (upd H p o) :=
 ⟨⟨[p],rfl⟩,λb u e _=>by rw[yd (Zg e hp)];exact e,λb l=>(a7.app rel.len l).imp id λe=>by rw[e];exact hp⟩
theorem Rel.cell(rel:Rel ct μ h H){p:af}(hp:H p=none){c:Cell}{o:HO}(q:bK ct (μ++[p]) (a7 (μ++[p]) (h++[c])) (upd H p o) p c):Rel ct (μ++[p]) (h++[c]) (upd H p o):=by
 have hn:=rel.fresh hp;refine⟨by simp[rel.len],?_,λb hb=>?_,λi b d e1 e2=>?_⟩
 ·rw[uu];exact⟨rel.nd,by simp,λa ha b hb e=>by simp at hb;subst hb;subst e;exact hn ha⟩
 ·rcases vh.mp hb with hb|hb
  ·obtain⟨u,e⟩:=rel.has b hb;exact⟨u,by rw[yd (Zg e hp)];exact e⟩
  ·simp at hb;subst hb;exact⟨o,qg⟩
 ·by_cases hi:i<μ.length
  ·rw[ub hi] at e1;rw[ub (by have:=rel.len;lia)] at e2;exact bK.to (Ext.cell rel hp c o).let (λ_=>by
    obtain⟨u,e⟩:=rel.has b (Vb e1);exact yd (Zg e hp)) (rel.cells i b d e1 e2)
  ·rw[Vc (by lia)] at e1;rw[Vc (by have:=rel.len;lia)] at e2;have:i-μ.length=0:=by
    have:=(Wa.mp e1).1;simp at this;lia
   have h2:i-h.length=0:=by rw[<- rel.len];exact this
   rw[this] at e1;rw[h2] at e2;simp at e1 e2;subst e1;subst e2;exact q
theorem a7.set{i:Nat}{c c':Cell}{b:af}(e:h[i]?=some c)(hc:c≠.dead)(l:a7 μ (h.set i c') b):a7 μ h b:=by
 obtain⟨j,d,e1,e2,nd⟩:=l;by_cases hj:i=j
 ·subst hj;exact⟨i,c,e1,e,hc⟩
 ·rw[Xk hj] at e2;exact⟨j,d,e1,e2,nd⟩
theorem Ext.set(rel:Rel ct μ h H){i:Nat}{b:af}{c:Cell}(e1:μ[i]?=some b)(e2:h[i]?=some c)(hc:c≠.dead)(c':Cell)(o:HO):Ext μ h H μ (h.set i c') (upd H b o) :=
 ⟨⟨[],by simp⟩,λd u e n=>by rw[yd (λ(z:d=b)=>n (by rw[z];exact⟨i,c,e1,e2,hc⟩))];exact e,λd l=>.inl (a7.set e2 hc l)⟩
theorem Rel.set(rel:Rel ct μ h H){i:Nat}{b:af}{c:Cell}(e1:μ[i]?=some b)(e2:h[i]?=some c)(hc:c≠.dead){c':Cell}{o:HO}(q:bK ct μ (a7 μ (h.set i c')) (upd H b o) b c'):Rel ct μ (h.set i c') (upd H b o):=by
 refine⟨by simp[rel.len],rel.nd,λd hd=>?_,λj d u q1 q2=>?_⟩
 ·by_cases lj:d=b
  ·exact⟨o,by rw[lj];exact qg⟩
  ·obtain⟨u,e⟩:=rel.has d hd;exact⟨u,by rw[yd lj];exact e⟩
 ·by_cases hj:i=j
  ·subst hj;rw[e1] at q1;cases q1;rw[xl (Wa.mp e2).1] at q2;cases q2;exact q
  ·rw[Xk hj] at q2;have ne:d≠b:=λz=>by
    subst z;exact hj ((Wz (Wa.mp e1).1 rel.nd).mp (e1.trans q1.symm))
   have:=bK.to (ν:=[]) (Ext.set rel e1 e2 hc c' o).let (b:=d) (λ_=>yd ne) (rel.cells j d u q1 q2);simpa using this
end
end
section
variable {ct:Tx}
section
variable {μ:List af} {h:MH} {H:Hp}
theorem Iz{as:List Nat}{i:Nat}{c:Cell}(e:(kill as h)[i]?=some c):(i∈as/\c=.dead)\/(i∉as/\h[i]?=some c):=by
 unfold kill at e;rw[vc] at e;cases q:h[i]? with
 |none=>rw[q] at e;cases e
 |some d =>
  rw[q] at e;by_cases hi:i∈as
  ·simp[hi] at e;exact .inl ⟨hi,e.symm⟩
  ·simp[hi] at e;subst e;exact .inr ⟨hi,rfl⟩
theorem a7.kill{as:List Nat}{b:af}(l:a7 μ (kill as h) b):a7 μ h b:=by
 obtain⟨i,c,e1,e2,nd⟩:=l
 rcases Iz e2 with ⟨_,z⟩|⟨_,z⟩
 ·exact absurd z nd
 ·exact⟨i,c,e1,z,nd⟩
theorem Ext.kill(as:List Nat):Ext μ h H μ (kill as h) H:=⟨⟨[],by simp⟩,λ_ _ e _=>e,λb l=>.inl l.kill⟩
theorem Rel.kill(rel:Rel ct μ h H)(as:List Nat):Rel ct μ (kill as h) H:=by
 refine⟨by rw[rel.len];simp[MP.kill],rel.nd,rel.has,λi b c e1 e2=>?_⟩
 rcases Iz e2 with ⟨_,z⟩|⟨_,z⟩
 ·subst z;trivial
 ·have:=bK.to (ν:=[]) (Ext.kill (H:=H) as).let (b:=b) (λ_=>rfl) (rel.cells i b c e1 z);simpa using this
theorem yJ{i:Nat}{xs:List MV}(e:Zd h i=some xs):h[i]?=some (.lst xs):=by
 unfold Zd at e;split at e
 next q=>cases e;exact q
 next=>cases e
theorem Rel.lst(rel:Rel ct μ h H){i:Nat}{xs:List MV}(e:Zd h i=some xs):∃ b vs,μ[i]?=some b/\H b=some (.lst vs)/\aD ct μ (a7 μ h) H xs vs:=by
 have e2:=yJ e;have hi:i<μ.length:=by rw[rel.len];exact(Wa.mp e2).1
 obtain⟨vs,q1,q2⟩:=rel.cells i μ[i] (.lst xs) (by simp[hi]) e2;exact⟨_,vs,by simp[hi],q1,q2⟩
theorem Qcg{as:List Nat}(rel:Rel ct μ h H){i:Nat}{b:af}(e:μ[i]?=some b)(hi:i∈as):¬ a7 μ (MP.kill as h) b:=λ⟨j,c,e1,e2,nd⟩=>by
 have:i=j:=(Wz (Wa.mp e).1 rel.nd).mp (e.trans e1.symm);subst this
 rcases Iz e2 with ⟨_,z⟩|⟨z,_⟩
 ·exact nd z
 ·exact z hi
theorem Ie{as:List Nat}{g:MV->Option FV}:∀{xs:List MV}{ys:List FV}{vs:List V},xs.mapM g=some ys->aD ct μ (a7 μ h) H xs vs ->
  (∀ x∈xs,∀ y v,g x=some y->RV ct μ (a7 μ h) H x v->RF ct (a7 μ (MP.kill as h)) H y v)->fF ct (a7 μ (MP.kill as h)) H ys vs
 |[],ys,vs,e,r,_=>by
  simp at e;subst e;simp only[aD] at r;subst r;simp only[fF]
 |x::xs,ys,vs,e,r,f=>by
  simp only[vo,Us,xb,vA,gb.injEq] at e;obtain⟨y,e1,zs,e2,rfl⟩:=e;simp only[aD] at r;obtain⟨v,t,rfl,r1,r2⟩:=r;simp only[fF];exact⟨v,t,rfl,f x (by simp) y v e1 r1,Ie e2 r2 λz hz=>f z (by simp[hz])⟩
theorem Jv(rel:Rel ct μ h H){as:List Nat}:∀(n:Nat)(m:MV)(x:FV)(v:V),(∀ a∈Qp h n m,a∈as)->Zp h n m=some x->RV ct μ (a7 μ h) H m v->RF ct (a7 μ (MP.kill as h)) H x v
 |0,m,x,v,_,e,_=>by simp[Zp] at e
 |n+1,.f y,x,v,_,e,r=>by
  simp[Zp] at e;subst e;simp only[RV] at r;exact RF.to (Ext.kill (H:=H) as).let r
 |n+1,.tup xs,x,v,hs,e,r=>by
  simp only[Zp,Wb] at e;obtain⟨ys,e1,rfl⟩:=e;simp only[RV] at r;obtain⟨a,vs,rfl,na,rd,q⟩:=r;simp only[RF];refine⟨a,vs,rfl,λl=>na l.kill,rd,Ie e1 q λz hz y u ez ru=>Jv rel n z y u (λa ha=>hs a ?_) ez ru⟩;simp only[Qp,vn];exact⟨z,hz,ha⟩
 |n+1,.ref i,x,v,hs,e,r=>by
  simp only[Zp,xb,Wb] at e;obtain⟨xs,e0,ys,e1,rfl⟩:=e;simp only[RV] at r;obtain⟨b,eb,rfl⟩:=r;obtain⟨b',vs,iS,hb,q⟩:=rel.lst e0;rw[eb] at iS;cases iS;simp only[RF];refine⟨b,vs,rfl,Qcg rel eb (hs i (by simp[Qp])),.inl hb,Ie e1 q λz hz y u ez ru=>Jv rel n z y u (λa ha=>hs a ?_) ez ru⟩;simp only[Qp,e0,Vj,ua,vn];exact .inr ⟨z,hz,ha⟩
 |n+1,.exc _,x,v,_,e,_=>by simp[Zp] at e
theorem N9{E:XK}{m:MV}{v:V}{k:MV->List af->MH->Hp->Prop}(rel:Rel ct μ h H)(r:RV ct μ (a7 μ h) H m v)(p:Po ct E (ZJ m h) μ h H k) :
  ∃ x h',Ext μ h H μ h' H/\Rel ct μ h' H/\RV ct μ (a7 μ h') H (.f x) v/\k (.f x) μ h' H:=by
 unfold ZJ at p;obtain⟨x,e,p⟩:=p.opt;refine⟨x,_,Ext.kill _,rel.kill _,?_,p.FG (Ext.kill _) (rel.kill _)⟩;simp only[RV];exact Jv rel 5 m x v (λa ha=>ha) e r
end
mutual
def nS(n:Nat):MV->Prop
 |.ref i=>i<n
 |.tup xs=>fV n xs
 |_=>True
def fV(n:Nat):List MV->Prop
 |[]=>True
 |x::xs=>nS n x/\fV n xs
end
mutual
theorem RV.nL{μ:List af}{L:af->Prop}{H:Hp}:∀{m:MV}{v:V},RV ct μ L H m v->nS μ.length m
 |.f _,_,_=>by simp only[nS]
 |.ref i,v,r=>by
  simp only[RV] at r;obtain⟨b,e,_⟩:=r;simp only[nS];exact(Wa.mp e).1
 |.tup xs,v,r=>by
  simp only[RV] at r;obtain⟨a,vs,_,_,_,q⟩:=r;simp only[nS];exact aD.nL q
 |.exc _,_,_=>by simp only[nS]
theorem aD.nL{μ:List af}{L:af->Prop}{H:Hp}:∀{xs:List MV}{vs:List V},aD ct μ L H xs vs->fV μ.length xs
 |[],_,_=>by simp only[fV]
 |x::xs,vs,r=>by
  simp only[aD] at r;obtain⟨v,t,_,r1,r2⟩:=r;simp only[fV];exact⟨RV.nL r1,aD.nL r2⟩
end
mutual
theorem RV.cut{μ ν:List af}{L L':af->Prop}{H:Hp}(l:∀ b,L' b->L b):∀{m:MV}{v:V},nS μ.length m->RV ct (μ++ν) L H m v->RV ct μ L' H m v
 |.f x,v,_,r=>by simp only[RV] at r ⊢;exact RF.to ⟨λ_ _ e _=>e,λb _ _ n z=>n (l b z)⟩ r
 |.ref i,v,b,r=>by
  simp only[RV] at r ⊢;simp only[nS] at b;obtain⟨c,e,q⟩:=r;rw[ub b] at e;exact⟨c,e,q⟩
 |.tup xs,v,b,r=>by
  simp only[RV] at r ⊢;simp only[nS] at b;obtain⟨a,vs,e,n,rd,q⟩:=r;exact⟨a,vs,e,λz=>n (l a z),rd,aD.cut l b q⟩
 |.exc _,v,_,r=>by
  simp only[RV] at r ⊢;obtain⟨a,e,n,q⟩:=r;exact⟨a,e,λz=>n (l a z),q⟩
theorem aD.cut{μ ν:List af}{L L':af->Prop}{H:Hp}(l:∀ b,L' b->L b):∀{xs:List MV}{vs:List V},fV μ.length xs->aD ct (μ++ν) L H xs vs->aD ct μ L' H xs vs
 |[],vs,_,r=>by simpa only[aD] using r
 |x::xs,vs,b,r=>by
  simp only[aD] at r ⊢;simp only[fV] at b;obtain⟨v,t,e,r1,r2⟩:=r;exact⟨v,t,e,RV.cut l b.1 r1,aD.cut l b.2 r2⟩
end
theorem fV.flat(n:Nat):∀ ys:List FV,fV n (ys.map MV.f)
 |[]=>by simp only[Uj,fV]
 |y::ys=>by simp only[Ub,fV,nS];exact⟨trivial,fV.flat n ys⟩
def Ju(n:Nat):Cell->Prop
 |.lst xs=>fV n xs
 |.obj _ fs=>fV n (fs.map Um)
 |.iQ _=>True
 |.tab _=>True
 |.jN _=>True
 |.code=>True
 |.dead=>True
theorem bK.nL{μ:List af}{L:af->Prop}{H:Hp}{b:af}{c:Cell}(r:bK ct μ L H b c):Ju μ.length c:=by
 cases c with
 |lst xs=>obtain⟨vs,_,q⟩:=r;exact q.nL
 |obj c fs=>obtain⟨dx,gs,_,_,q⟩:=r;exact q.nL
 |iQ ks=>trivial
 |tab ks=>trivial
 |jN ks=>trivial
 |code=>trivial
 |dead=>trivial
theorem jC.nL{n:Nat}{c:Cell}(r:jC c):Ju n c:=by
 cases c with
 |lst xs=>obtain⟨ys,rfl⟩:=r;exact fV.flat n ys
 |obj c fs =>
  obtain⟨ys,rfl⟩:=r;show fV n _;rw[Xd];have:=fV.flat n (ys.map Um);rw[Xd] at this;exact this
 |iQ ks=>trivial
 |tab ks=>trivial
 |jN ks=>trivial
 |code=>trivial
 |dead=>trivial
theorem bK.cut{μ ν:List af}{L L':af->Prop}{H:Hp}{b:af}{c:Cell}(l:∀ b,L' b->L b)(k:Ju μ.length c)(r:bK ct (μ++ν) L H b c):bK ct μ L' H b c:=by
 cases c with
 |lst xs=>obtain⟨vs,e,q⟩:=r;exact⟨vs,e,aD.cut l k q⟩
 |obj c fs=>obtain⟨dx,gs,e,q1,q⟩:=r;exact⟨dx,gs,e,q1,aD.cut l k q⟩
 |iQ ks=>exact r
 |tab ks=>exact r
 |jN ks=>exact r
 |code=>exact⟨r.1,r.2.imp id λ⟨c',n1,n2,r⟩=>⟨c',n1,λz=>n2 (l _ z),r⟩⟩
 |dead=>trivial
theorem KY:∀{xs:List MV}{ys:List FV},yo xs=some ys->xs=ys.map MV.f
 |[],ys,e=>by simp[yo] at e;subst e;rfl
 |.f x::xs,ys,e=>by
  simp only[yo,Wb] at e;obtain⟨zs,e1,rfl⟩:=e;rw[KY e1];rfl
 |.ref _::_,_,e=>by simp[yo] at e
 |.tup _::_,_,e=>by simp[yo] at e
 |.exc _::_,_,e=>by simp[yo] at e
section
variable {μ ν:List af} {h h':MH} {H H':Hp}
theorem a7.cut(hl:μ.length=h.length){b:af}(l:a7 μ (h'.take h.length) b):a7 (μ++ν) h' b:=by
 obtain⟨i,c,e1,e2,nd⟩:=l;have hi:i<μ.length:=(Wa.mp e1).1;rw[ue (by lia)] at e2;exact⟨i,c,by rw[ub hi];exact e1,e2,nd⟩
theorem Ext.cut(hl:μ.length=h.length)(e:Ext μ h H (μ++ν) h' H'):Ext μ h H μ (h'.take h.length) H':=⟨⟨[],by simp⟩,e.keep,λb l=>e.kO b (a7.cut hl l)⟩
theorem Rel.cut(rel:Rel ct μ h H)(t:cT h h')(aZ:Rel ct (μ++ν) h' H'):Rel ct μ (h'.take h.length) H':=by
 refine⟨by rw[rel.len,Vh];have:=t.1;lia,(uu.mp aZ.nd).1,λb hb=>aZ.has b (xj _ hb),λi b c e1 e2=>?_⟩;have hi:i<μ.length:=(Wa.mp e1).1;have kG:i<h.length:=by rw[<- rel.len];exact hi
 rw[ue kG] at e2;refine bK.cut (λb l=>a7.cut rel.len l) ?_ (aZ.cells i b c (by rw[ub hi];exact e1) e2)
 rcases t.2 i c kG e2 with q|q
 ·exact(rel.cells i b c e1 q).nL
 ·exact jC.nL q
set_option tactic.hygienic true in
theorem LZ{E:XK}{m:MV}{v:V}{Q:VK}(rel:Rel ct μ h H)(e:Ext μ h H (μ++ν) h' H')(aZ:Rel ct (μ++ν) h' H')(r:RV ct (μ++ν) (a7 (μ++ν) h') H' m v)(p:Po ct E (yp h m h') μ h H (kV ct Q)):Q v H':=by
 unfold yp at p;split at p
 next t =>
  cases m with
  |f x =>
   refine p μ H' (Ext.cut rel.len e) (rel.cut t aZ) v ?_;exact RV.cut (λb l=>a7.cut rel.len l) (by simp only[nS]) r
  |ref a =>
   dsimp only at p;split at p
   next ha =>
    split at p
    next xs ex =>
     split at p
     next ys ey =>
      simp only[RV] at r;obtain⟨b,eb,rfl⟩:=r;obtain⟨b',vs,iS,hb,q⟩:=aZ.lst ex;rw[eb] at iS;cases iS;have rc:=rel.cut t aZ;have ec:=Ext.cut rel.len e;have nb:b∉μ:=λz=>by
       obtain⟨j,hj,ej⟩:=Xs z;have:j=a:=(Wz (by simp;lia) aZ.nd).mp (by rw[ub hj,eb];simp[hj,ej]);have:=rel.len
       lia
      have lv:∀ d,a7 (μ++[b]) (h'.take h.length++[.lst xs]) d->a7 (μ++ν) h' d:=λd l=>by
       rcases a7.app (by rw[rc.len]) l with l|l
       ·exact a7.cut rel.len l
       ·subst l;exact⟨a,.lst xs,eb,yJ ex,λz=>nomatch z⟩
      have fl:fF ct (a7 (μ++ν) h') H' ys vs:=aD.toF ey q;have Lr:xs=ys.map MV.f:=KY ey;refine p (μ++[b]) H' ⟨⟨[b],rfl⟩,e.keep,λd l=>e.kO d (lv d l)⟩ ?_ (.ref b) ?_
      ·refine⟨by simp[rc.len],?_,λd hd=>?_,λi d c e1 e2=>?_⟩
       ·rw[uu];exact⟨rc.nd,by simp,λx hx y hy z=>by simp at hy;subst hy;subst z;exact nb hx⟩
       ·rcases vh.mp hd with hd|hd
        ·exact rc.has d hd
        ·simp at hd;subst hd;exact⟨_,hb⟩
       ·by_cases hi:i<μ.length
        ·rw[ub hi] at e1;rw[ub (by rw[<- rc.len];exact hi)] at e2;have c0:=rc.cells i d c e1 e2;have kG:i<h.length:=by rw[<- rel.len];exact hi
         have sj:=e2;rw[ue kG] at sj;have c1:=aZ.cells i d c (by rw[ub hi];exact e1) sj;exact bK.to (ν:=[b]) (L:=a7 (μ++[b]) (h'.take h.length++[.lst xs])) ⟨λ_ _ e _=>e,λ_ _ _ n=>n⟩ (λ_=>rfl) (bK.cut lv c0.nL c1)
        ·rw[Vc (by lia)] at e1;rw[Vc (by rw[<- rc.len];lia)] at e2;have z:i-μ.length=0:=by
          have:=(Wa.mp e1).1;simp at this;lia
         have z2:i-(h'.take h.length).length=0:=by rw[<- rc.len];exact z
         rw[z] at e1;rw[z2] at e2;simp at e1 e2;subst e1;subst e2;refine⟨vs,hb,?_⟩;rw[Lr];rw[Lr] at lv;exact aD.w8 (fF.to ⟨λ_ _ e _=>e,λd _ _ n l=>n (lv d l)⟩ fl)
      ·simp only[RV];exact⟨b,by rw[<- rel.len];simp,rfl⟩
     next=>exact p (μ++ν) H' e aZ v r
    next=>exact p (μ++ν) H' e aZ v r
   next=>exact p (μ++ν) H' e aZ v r
  |tup xs=>exact p (μ++ν) H' e aZ v r
  |exc c=>exact p (μ++ν) H' e aZ v r
 next=>exact p (μ++ν) H' e aZ v r
theorem zbO{E:XK}{c:String}{k:MV->List af->MH->Hp->Prop}(rel:Rel ct μ h H)(e:Ext μ h H (μ++ν) h' H')(aZ:Rel ct (μ++ν) h' H')(p:Po ct E (YM h c h') μ h H k):E (.ref (ct c)) none H':=by
 unfold YM at p;split at p
 next t=>exact p μ H' (Ext.cut rel.len e) (rel.cut t aZ)
 next=>exact p (μ++ν) H' e aZ
end
end
section
variable {ct:Tx} {X:Cx} {E:XK}
section
variable {μ:List af} {h:MH} {L:af->Prop} {H:Hp} {m:MV} {v:V}
theorem Ze{i:Int}(e:Zc m=some i):m=.f (.int i):=by
 unfold Zc at e;split at e
 next=>cases e;rfl
 next=>cases e
theorem Ck{i:Bool}(e:YE m=some i):m=.f (.bl i):=by
 unfold YE at e;split at e
 next=>cases e;rfl
 next=>cases e
theorem Yi{i:Int}(r:RV ct μ L H (.f (.int i)) v):v=.int i:=by simpa only[RV,RF] using r
theorem sV{i:Bool}(r:RV ct μ L H (.f (.bl i)) v):v=.bl i:=by simpa only[RV,RF] using r
theorem Yn(i:Int):RV ct μ L H (.f (.int i)) (.int i):=by simp only[RV,RF]
theorem qy(i:Bool):RV ct μ L H (.f (.bl i)) (.bl i):=by simp only[RV,RF]
theorem QW(i:Str):RV ct μ L H (.f (.str i)) (.str i):=by simp only[RV,RF]
theorem tZ:RV ct μ L H (.f .a9) .a9:=by simp only[RV,RF]
set_option tactic.hygienic true in
theorem Zm{xs:List MV}(rel:Rel ct μ h H)(e:MP.listOf h m=some xs)(r:RV ct μ (a7 μ h) H m v):∃ a vs,v=.ref a/\Rd H a (.lst vs)/\aD ct μ (a7 μ h) H xs vs:=by
 unfold MP.listOf at e;split at e
 next ys =>
  cases e;simp only[RV,RF] at r;obtain⟨a,vs,e1,_,rd,q⟩:=r;exact⟨a,vs,e1,rd,aD.w8 q⟩
 next i =>
  obtain⟨b,vs,e1,e2,q⟩:=rel.lst e;simp only[RV] at r;obtain⟨b',e3,rfl⟩:=r;rw[e1] at e3;cases e3;exact⟨b,vs,rfl,.inl e2,q⟩
 next=>cases e
set_option tactic.hygienic true in
theorem yw{xs:List MV}(e:zq m=some xs)(r:RV ct μ L H m v):∃ a vs,v=.ref a/\¬ L a/\H a=some (.tup vs)/\aD ct μ L H xs vs:=by
 unfold zq at e;split at e
 next ys =>
  cases e;simp only[RV,RF] at r;obtain⟨a,vs,e1,n,rd,q⟩:=r;exact⟨a,vs,e1,n,rd,aD.w8 q⟩
 next ys =>
  cases e;simp only[RV] at r;exact r
 next=>cases e
set_option tactic.hygienic true in
theorem Yv{xs:List MV}(e:yb h m=some xs):zq m=some xs\/MP.listOf h m=some xs\/∃ ns,m=.f (.eC ns)/\xs=ns.map λi=>MV.f (.int i):=by
 unfold yb at e;split at e
 next=>exact .inl e
 next=>exact .inr (.inl e)
 next ns=>cases e;exact .inr (.inr ⟨ns,rfl,rfl⟩)
 next=>exact .inl e
 next=>exact .inr (.inl e)
 next=>cases e
def tT(ct:Tx)(H:Hp)(b:Bool)(a:af)(vs:List V):Prop:=iJ ct.K H b a vs
theorem tT.s{K:gc}{b:Bool}{a:af}{vs:List V}(hK:K=ct.K)(q:tT ct H b a vs):iJ K H b a vs:=by rw[hK];exact q
theorem zJ{L:af->Prop}:∀ ns:List Int,aD ct μ L H (ns.map λi=>MV.f (.int i)) (ns.map V.int)
 |[]=>by simp only[Uj,aD]
 |i::ns=>by
  simp only[Ub,aD];exact⟨.int i,_,rfl,Yn i,zJ ns⟩
theorem Ds{L:af->Prop}{a:af}{ns:List Int}(q:(¬ L a/\∃ o,H a=some (.eI o (.lst (ns.map V.int))))\/BK ct.K a ns):gz ct.K H a (ns.map V.int):=q.elim (λ⟨_,o,e⟩=>.inl (.inr ⟨o,e⟩)) .inr
theorem qv{xs:List MV}(rel:Rel ct μ h H)(e:yb h m=some xs)(r:RV ct μ (a7 μ h) H m v):∃ b a vs,v=.ref a/\tT ct H b a vs/\aD ct μ (a7 μ h) H xs vs:=by
 rcases Yv e with e|e|⟨ns,rfl,rfl⟩
 ·obtain⟨a,vs,q1,_,q2,q3⟩:=yw e r;exact⟨true,a,vs,q1,ik.of q2,q3⟩
 ·obtain⟨a,vs,q1,q2,q3⟩:=Zm rel e r;exact⟨false,a,vs,q1,.inl q2,q3⟩
 ·simp only[RV,RF] at r;obtain⟨a,rfl,q⟩:=r;exact⟨false,a,_,rfl,Ds q,zJ ns⟩
theorem B5(rel:Rel ct μ h H){p:af}(hp:H p=none):¬ a7 μ h p:=λl=>by obtain⟨o,e⟩:=a7.has rel l;rw[hp] at e;cases e
theorem Zy{fz:Bool}{xs:List MV}{vs:List V}{Q:VK}(rel:Rel ct μ h H)(r:aD ct μ (a7 μ h) H xs vs)(p:Po ct E (qo fz xs h) μ h H (kV ct Q)):∀ a,H a=none->Q (.ref a) (upd H a (.lst vs)):=by
 intro a ha;cases fz with
 |true =>
  obtain⟨ys,e,p⟩:=Po.opt (o:=yo xs) (g:=λys=>R.ok (MV.f (.lst ys)) h) p;refine p μ _ (Ext.new rel ha _) (rel.new ha _) _ ?_;simp only[RV,RF];exact⟨a,vs,rfl,B5 rel ha,.inl qg,fF.to (Ext.new rel ha _).let (aD.toF e r)⟩
 |false =>
  refine p (μ++[a]) _ (Ext.cell rel ha _ _) (rel.cell ha ?_) _ ?_
  ·exact⟨vs,qg,aD.to (Ext.cell rel ha _ _).let r⟩
  ·simp only[RV];exact⟨a,by rw[<- rel.len];simp,rfl⟩
set_option tactic.hygienic true in
theorem QG{xs:List MV}{vs:List V}{a:af}(n:¬ L a)(rd:H a=some (.tup vs))(r:aD ct μ L H xs vs):RV ct μ L H (yk xs) (.ref a):=by
 unfold yk;split
 next ys e =>
  simp only[RV,RF];exact⟨a,vs,rfl,n,rd,aD.toF e r⟩
 next =>
  simp only[RV];exact⟨a,vs,rfl,n,rd,r⟩
theorem ZY{xs:List MV}{vs:List V}{Q:VK}(rel:Rel ct μ h H)(r:aD ct μ (a7 μ h) H xs vs)(p:Po ct E (.ok (yk xs) h) μ h H (kV ct Q)):∀ a,H a=none->Q (.ref a) (upd H a (.tup vs)):=by
 intro a ha;refine p μ _ (Ext.new rel ha _) (rel.new ha _) _ (QG (B5 rel ha) qg ?_);have:=aD.to (ν:=[]) (Ext.new rel ha (.tup vs)).let r;simpa using this
end
noncomputable def r2(ct:Tx)(E:XK)(g:MV->MV->MH->R MV):R2:=λx y H Q=>∃ μ h mx my,Rel ct μ h H/\RV ct μ (a7 μ h) H mx x/\RV ct μ (a7 μ h) H my y/\Po ct E (g mx my h) μ h H (kV ct Q)
theorem PM{i:Int}(h:i.natAbs<MP.big):Builtin.Int.intBits i<=2^20:=by
 refine intBits_le_iff.mpr (Uc h ?_);exact wr (by decide) (by decide)
theorem ycj:cD X (aT .Mult) (rI ZA λi j=>.int (i*j)):=w6 λi j _ _ _ _ _ hc q=>by
 refine mul_int q ?_
 rcases hc with c|c|⟨c,d⟩
 ·exact .of_left (jO (by lia) (by lia))
 ·exact .of_right (jO (by lia) (by lia))
 ·exact .of_bits (PM c) (PM d)
theorem qcg:cD X (aT .FloorDiv) (rI tU λi j=>.int (i/j)):=w6 λi j _ _ _ _ _ hc q=>by
 have h1:(0:Int)<j:=hc.1;refine floordiv_int (by lia) (by rw[wy i (by lia)];exact q) (.inl (PyProof.noPylong_of_log2 ?_));have:j.natAbs≠0:=by lia
 rcases hc.2 with c|c
 ·have:j.natAbs.log2<30:=(uF (by lia)).mpr (by lia)
  lia
 ·have:j.natAbs.log2<4096:=(uF (by lia)).mpr c
  lia
noncomputable def v7:R2:=λx y H Q=>∃ l b xs zs,x=.ref l/\y=.ref b/\Rd H l (.lst xs)/\Rd H b (.lst zs)/\xs.length+zs.length<=sizeLine/\∀ p,H p=none->Q (.ref p) (upd H p (.lst (xs++zs)))
theorem Ycj:cD X (aT .Add) v7:=by
 intro pins s σ H x y v u Q I rx ry h;obtain⟨l,b,xs,zs,rfl,rfl,hH,hB,hz,q⟩:=h;cases rx;cases ry;obtain⟨z,its,n,r,e⟩:=hH.ok I.aR;obtain⟨z2,eP,n2,r2,e2⟩:=hB.ok I.aR;have hl:=r.length;have pN:=r2.length;refine PySem.P.add_list e e2 ?_ (by rw[wc,wc];lia);have ea:its.toArray++eP.toArray=(its++eP).toArray:=by simp
 rw[ea];exact⟨.ref _,_,I.xV (t':=s.toks) (r.append r2) (by rw[xf];lia),rfl,q _ I.fresh⟩
end
theorem YF:MP.aK<=sizeLine:=by decide
section
variable {ct:Tx} {X:Cx} {E:XK}
noncomputable def Cy:BO->Operator
 |.add=>.Add | .sub=>.Sub | .mul=>.Mult | .fdiv=>.FloorDiv | .mod=>.Mod | .pow=>.Pow
theorem cD.imp{f:Value->Value->Sem Value}{r r':R2}(o:cD X f r)(k:∀ x y H Q,r' x y H Q->r x y H Q):cD X f r':=λpins s σ H x y v u Q I rx ry q=>o pins s σ H x y v u Q I rx ry (k _ _ _ _ q)
theorem cD.sX{f:Value->Value->Sem Value}{r r':R2}(o:cD X f r)(o':cD X f r'):cD X f λx y H Q=>r x y H Q\/r' x y H Q:=λpins s σ H x y v u Q I rx ry q=>q.elim (o pins s σ H x y v u Q I rx ry) (o' pins s σ H x y v u Q I rx ry)
theorem qQ{fz:Bool}{op:BO}{x y:V}{H:Hp}{Q:VK}(q:r2 ct E (ye fz op) x y H Q):(∃ i j k,x=.int i/\y=.int j/\YD op i j=some k/\Q (.int k) H) \/
  ∃ μ h mx my,Zc mx=none/\Rel ct μ h H/\RV ct μ (a7 μ h) H mx x/\RV ct μ (a7 μ h) H my y/\Po ct E (ye fz op mx my h) μ h H (kV ct Q):=by
 obtain⟨μ,h,mx,my,rel,rx,ry,p⟩:=q;cases ex:Zc mx with
 |none=>exact .inr ⟨μ,h,mx,my,ex,rel,rx,ry,p⟩
 |some i =>
  have:=Ze ex;subst this;cases ey:Zc my with
  |none =>
   unfold ye at p;rw[ex,ey] at p;exact p.elim
  |some j =>
   have:=Ze ey;subst this;unfold ye at p;rw[ex,ey] at p;obtain⟨k,e,p⟩:=Po.opt p;refine .inl ⟨i,j,k,Yi rx,Yi ry,e,?_⟩;exact p.now rel _ (Yn k)
theorem zcZ(fz:Bool):cD X (aT .Sub) (r2 ct E (ye fz .sub)):=cD.imp zcG λx y H Q q=>by
 rcases qQ q with ⟨i,j,k,e1,e2,e3,q⟩|⟨μ,h,mx,my,ex,rel,rx,ry,p⟩
 ·cases e3;exact⟨i,j,e1,e2,q⟩
 ·exfalso;unfold ye at p;rw[ex] at p;cases ey:Zc my <;> rw[ey] at p <;> exact p.elim
theorem qcs(fz:Bool):cD X (aT .FloorDiv) (r2 ct E (ye fz .fdiv)):=cD.imp qcg λx y H Q q=>by
 rcases qQ q with ⟨i,j,k,e1,e2,e3,q⟩|⟨μ,h,mx,my,ex,rel,rx,ry,p⟩
 ·simp only[YD] at e3;split at e3
  next c=>cases e3;exact⟨i,j,e1,e2,c,q⟩
  next=>cases e3
 ·exfalso;unfold ye at p;rw[ex] at p;cases ey:Zc my <;> rw[ey] at p <;> exact p.elim
theorem ZcU(fz:Bool):cD X (aT .Mod) (r2 ct E (ye fz .mod)):=cD.imp YcR λx y H Q q=>by
 rcases qQ q with ⟨i,j,k,e1,e2,e3,q⟩|⟨μ,h,mx,my,ex,rel,rx,ry,p⟩
 ·simp only[YD] at e3;split at e3
  next c=>cases e3;exact⟨i,j,e1,e2,c,q⟩
  next=>cases e3
 ·exfalso;unfold ye at p;rw[ex] at p;cases ey:Zc my <;> rw[ey] at p <;> exact p.elim
theorem QcX(fz:Bool):cD X (aT .Pow) (r2 ct E (ye fz .pow)):=cD.imp zcH λx y H Q q=>by
 rcases qQ q with ⟨i,j,k,e1,e2,e3,q⟩|⟨μ,h,mx,my,ex,rel,rx,ry,p⟩
 ·simp only[YD] at e3;split at e3
  next c=>cases e3;exact⟨i,j,e1,e2,⟨c.1,c.2.1,c.2.2⟩,q⟩
  next=>cases e3
 ·exfalso;unfold ye at p;rw[ex] at p;cases ey:Zc my <;> rw[ey] at p <;> exact p.elim
noncomputable def vU:R2:=λx y H Q=>∃ l k xs,x=.ref l/\y=.int k/\Rd H l (.lst xs)/\-(2^63)<=k/\k<2^63/\xs.length*k.toNat<=sizeLine/\∀ p,H p=none->Q (.ref p) (upd H p (.lst (xa k.toNat xs).flatten))
theorem qcy:cD X (aT .Mult) vU:=by
 intro pins s σ H x y v u Q I rx ry h;obtain⟨l,k,xs,rfl,rfl,hH,h1,h2,hz,q⟩:=h;cases rx;obtain⟨t,rfl⟩:=ry;obtain⟨z,its,n,r,e⟩:=hH.ok I.aR;have hl:=r.length;have hlen:its.toArray.size*k.toNat<=sizeLine:=by rw[wc,<- hl];exact hz
 have G6:¬ its.toArray.size*k.toNat>(2^63-1)/8:=by
  have:(sizeLine:Nat)<=(2^63-1)/8:=by decide
  lia
 have GV:¬(!Builtin.List.listFitsIndex k)=true:=by
  rw[fitsIndex_both h1 h2];exact Wm
 have nr:¬ Km (its.toArray.size*k.toNat)=true:=by
  rw[O5 hlen];exact Wm
 have GH:XG (λx1 x2=>x1++x2) #[] (xa (if its.toArray.isEmpty=true then 0 else k.toNat) its.toArray)=(xa k.toNat its).flatten.toArray:=by
  have f0:∀ m:Nat,XG (λx1 x2=>x1++x2) #[] (xa m its.toArray)=(xa m its).flatten.toArray:=λm=>by
   have:=PF its m [];rw[Wd] at this;exact this
  rw[f0];cases its with
  |nil=>simp
  |cons a r'=>rw[if_neg (by simp)]
 refine wpAny_binaryOp_repeat_ref (T:="list") (U:="int") (by decide) ⟨_,e,rfl⟩ (λs'=>iW s' k t) noFill_list_mul F.fills_int_mul F.slot_int_rmul repeat_list F.slot_int_index.lookup
  (bF F.slot_int_rmul (iW s k t) F.entry_int_rmul (F.args_int_rmul_2 _ _) (int___rmul___int_list k t l its.toArray n)
   ⟨e,rfl,⟨_,e,rfl⟩,bF F.slot_list_mul ⟨_,e,rfl⟩ F.entry_list_mul (F.args_list_mul_2 _ _) (AutoListH.list___mul___list_int_3 l its.toArray n k t GV G6 nr) ⟨e,?_⟩⟩)
 rw[GH];exact⟨.ref _,_,I.xV (t':=s.toks) (r.rep k.toNat) (by rw[ycm,Nat.mul_comm];exact hz),rfl,q _ I.fresh⟩
theorem aD.rep{μ:List af}{L:af->Prop}{H:Hp}{xs:List MV}{vs:List V}(r:aD ct μ L H xs vs):∀ n:Nat,aD ct μ L H (xa n xs).flatten (xa n vs).flatten
 |0=>by simpa using aD.nil
 |n+1=>by simp only[Wl,vq];exact r.append (aD.rep r n)
theorem zcK(fz:Bool):cD X (aT .Mult) (r2 ct E (ye fz .mul)):=cD.imp (cD.sX ycj qcy) λx y H Q q=>by
 rcases qQ q with ⟨i,j,k,e1,e2,e3,q⟩|⟨μ,h,mx,my,ex,rel,rx,ry,p⟩
 ·simp only[YD] at e3;split at e3
  next c=>cases e3;exact .inl ⟨i,j,e1,e2,c,q⟩
  next=>cases e3
 ·unfold ye at p;rw[ex] at p;cases ey:Zc my with
  |none=>rw[ey] at p;exact p.elim
  |some j =>
   rw[ey] at p;have:=Ze ey;subst this;obtain⟨xs,e,p⟩:=Po.opt p;obtain⟨a,vs,rfl,rd,rs⟩:=Zm rel e rx;split at p
   next c =>
    have hl:=rs.length
    right
    refine⟨a,j,vs,rfl,Yi ry,rd,c.1,c.2.1,?_,Zy rel (rs.rep _) p⟩;rw[hl];exact Xe c.2.2 YF
   next=>exact p.elim
set_option tactic.hygienic true in
theorem ycT(fz:Bool):cD X (aT .Add) (r2 ct E (ye fz .add)):=cD.imp (cD.sX qcX (cD.sX Zcy Ycj)) λx y H Q q=>by
 rcases qQ q with ⟨i,j,k,e1,e2,e3,q⟩|⟨μ,h,mx,my,ex,rel,rx,ry,p⟩
 ·cases e3;exact .inl ⟨i,j,e1,e2,q⟩
 ·unfold ye at p;rw[ex] at p;cases ey:Zc my with
  |some j=>rw[ey] at p;exact p.elim
  |none =>
   rw[ey] at p;dsimp only at p
   right
   split at p
   next xs ys e1 e2 =>
    split at p
    next c =>
     obtain⟨a,vs,rfl,n1,Ci,r1⟩:=yw e1 rx;obtain⟨b,ws,rfl,n2,E3,r2⟩:=yw e2 ry;have h1:=r1.length;have h2:=r2.length;refine .inl ⟨a,b,vs,ws,rfl,rfl,.inl (.inl Ci),.inl (.inl E3),λz=>c.1 (uq (by rw[<- h1,z];rfl)),by rw[h1,h2];exact Xe c.2 YF,λz=>?_,λz=>ZY rel (r1.append r2) p⟩;have:ys=[]:=uq (by rw[<- h2,z];rfl);subst this;rw[xw] at p;exact p.now rel _ (QG n1 Ci r1)
    next=>exact p.elim
   next =>
    obtain⟨xs,e1,p⟩:=Po.opt p;obtain⟨ys,e2,p⟩:=Po.opt p;split at p
    next c =>
     obtain⟨a,vs,rfl,Ci,r1⟩:=Zm rel e1 rx;obtain⟨b,ws,rfl,E3,r2⟩:=Zm rel e2 ry;have h1:=r1.length;have h2:=r2.length;exact .inr ⟨a,b,vs,ws,rfl,rfl,Ci,E3,by rw[h1,h2];exact Xe c YF,Zy rel (r1.append r2) p⟩
    next=>exact p.elim
theorem ZcZ(fz:Bool):∀ op:BO,cD X (aT (Cy op)) (r2 ct E (ye fz op))
 |.add=>ycT fz | .sub=>zcZ fz | .mul=>zcK fz | .fdiv=>qcs fz | .mod=>ZcU fz | .pow=>QcX fz
end
mutual
noncomputable def eV:FV->PyData
 |.a9=>.none
 |.bl b=>.bool b
 |.int i=>.int i
 |.str s=>.str s
 |.tup xs=>.tuple (Qs xs)
 |.lst xs=>.list (Qs xs)
 |.obj _ _ _=>.none
 |.eC _=>.none
 |.tab _=>.none
 |.jN _=>.none
noncomputable def Qs:List FV->List PyData
 |[]=>[]
 |x::xs=>eV x::Qs xs
end
theorem KR:∀ xs:List FV,Qs xs=xs.map eV
 |[]=>by simp[Qs]
 |x::xs=>by simp[Qs,KR xs]
section
variable {ct:Tx} {X:Cx} {E:XK}
theorem B4{n:Nat}:∀ xs:List FV,(∀ x∈xs,(eV x).canLay0=true/\(eV x).depth<=n)->Ks (Qs xs)=true/\Jr (Qs xs)<=n
 |[],_=>by simp[Qs,Ks,Jr]
 |x::xs,f=>by
  have h1:=f x (by simp);have h2:=B4 xs λy hy=>f y (by simp[hy]);simp only[Qs,Ks,Jr,h1.1,h2.1,Bool.and_self,true_and];have a1:=h1.2;have a2:=h2.2
  lia
theorem BI:∀(n:Nat)(x:FV),bZ n x=true->(eV x).canLay0=true/\(eV x).depth<=n
 |0,x,e=>by cases x <;> simp[bZ] at e
 |n+1,.a9,_=>by simp[eV,Hr,Gr]
 |n+1,.bl _,_=>by simp[eV,Hr,Gr]
 |n+1,.int _,_=>by simp[eV,Hr,Gr]
 |n+1,.str s,e=>by
  have e':PyData.strOk s=true:=e;simp[eV,Hr,Gr,e']
 |n+1,.tup xs,e=>by
  have q:=B4 (n:=n) xs λx hx=>BI n x (by simp[bZ] at e;exact e x hx);have q2:=q.2;simp only[eV,Hr,Gr,q.1,true_and]
  lia
 |n+1,.lst xs,e=>by
  have q:=B4 (n:=n) xs λx hx=>BI n x (by simp[bZ] at e;exact e x hx);have q2:=q.2;simp only[eV,Hr,Gr,q.1,true_and]
  lia
 |n+1,.obj _ _ _,e=>by simp[bZ] at e
 |n+1,.eC _,e=>by simp[bZ] at e
 |n+1,.tab _,e=>by simp[bZ] at e
 |n+1,.jN _,e=>by simp[bZ] at e
theorem YQ{x:FV}(e:bZ 8 x=true):SeqAt.shaped (eV x)=true:=by
 have:=BI 8 x e;unfold SeqAt.shaped;rw[this.1,WC];exact decide_eq_true (by have:=this.2;lia)
mutual
theorem DE:∀(n:Nat)(x y:FV),bZ n x=true->bZ n y=true->jr (eV x) (eV y)=fN x y
 |0,x,_,e,_=>by cases x <;> simp[bZ] at e
 |n+1,.tup xs,.tup ys,e,e'=>by
  simp only[eV,jr,fN];exact IE n xs ys (by simpa[bZ] using e) (by simpa[bZ] using e')
 |n+1,.lst xs,.lst ys,e,e'=>by
  simp only[eV,jr,fN];exact IE n xs ys (by simpa[bZ] using e) (by simpa[bZ] using e')
 |n+1,.a9,y,e,e'=>by cases y <;> simp_all [bZ,eV,jr,fN]
 |n+1,.bl _,y,e,e'=>by cases y <;> simp_all [bZ,eV,jr,fN]
 |n+1,.int _,y,e,e'=>by cases y <;> simp_all [bZ,eV,jr,fN]
 |n+1,.str _,y,e,e'=>by cases y <;> simp_all [bZ,eV,jr,fN]
 |n+1,.tup _,.a9,e,e'=>by simp[eV,jr,fN]
 |n+1,.tup _,.bl _,e,e'=>by simp[eV,jr,fN]
 |n+1,.tup _,.int _,e,e'=>by simp[eV,jr,fN]
 |n+1,.tup _,.str _,e,e'=>by simp[eV,jr,fN]
 |n+1,.tup _,.lst _,e,e'=>by simp[eV,jr,fN]
 |n+1,.tup _,.obj _ _ _,e,e'=>by simp[bZ] at e'
 |n+1,.tup _,.eC _,e,e'=>by simp[bZ] at e'
 |n+1,.tup _,.tab _,e,e'=>by simp[bZ] at e'
 |n+1,.tup _,.jN _,e,e'=>by simp[bZ] at e'
 |n+1,.lst _,.a9,e,e'=>by simp[eV,jr,fN]
 |n+1,.lst _,.bl _,e,e'=>by simp[eV,jr,fN]
 |n+1,.lst _,.int _,e,e'=>by simp[eV,jr,fN]
 |n+1,.lst _,.str _,e,e'=>by simp[eV,jr,fN]
 |n+1,.lst _,.tup _,e,e'=>by simp[eV,jr,fN]
 |n+1,.lst _,.obj _ _ _,e,e'=>by simp[bZ] at e'
 |n+1,.lst _,.eC _,e,e'=>by simp[bZ] at e'
 |n+1,.lst _,.tab _,e,e'=>by simp[bZ] at e'
 |n+1,.lst _,.jN _,e,e'=>by simp[bZ] at e'
 |n+1,.obj _ _ _,_,e,_=>by simp[bZ] at e
 |n+1,.eC _,_,e,_=>by simp[bZ] at e
 |n+1,.tab _,_,e,_=>by simp[bZ] at e
 |n+1,.jN _,_,e,_=>by simp[bZ] at e
theorem IE:∀(n:Nat)(xs ys:List FV),(∀ x∈xs,bZ n x=true)->(∀ y∈ys,bZ n y=true)->Js (Qs xs) (Qs ys)=ZT xs ys
 |n,[],[],_,_=>by simp[Qs,Js,ZT]
 |n,[],_::_,_,_=>by simp[Qs,Js,ZT]
 |n,_::_,[],_,_=>by simp[Qs,Js,ZT]
 |n,x::xs,y::ys,e,e'=>by
  simp only[Qs,Js,ZT];rw[DE n x y (e x (by simp)) (e' y (by simp)),IE n xs ys (λz hz=>e z (by simp[hz])) (λz hz=>e' z (by simp[hz]))]
end
mutual
theorem ZG{P:ao}{w:World}{L:af->Prop}{H:Hp}{hp:Heap}(aR:fu P w H hp):∀(n:Nat)(x:FV)(v:V)(u:Value),bZ n x=true->RF ct L H x v->RelV v u->∃ as,Reads hp u (eV x) as
 |0,x,_,_,e,_,_=>by cases x <;> simp[bZ] at e
 |n+1,.a9,v,u,_,r,q=>by simp only[RF] at r;subst r;cases q;exact⟨_,.none⟩
 |n+1,.bl _,v,u,_,r,q=>by simp only[RF] at r;subst r;cases q;exact⟨_,.bool _⟩
 |n+1,.int _,v,u,_,r,q=>by simp only[RF] at r;subst r;obtain⟨t,rfl⟩:=q;exact⟨_,.int _ _⟩
 |n+1,.str _,v,u,_,r,q=>by simp only[RF] at r;subst r;obtain⟨t,rfl⟩:=q;exact⟨_,.str _ _⟩
 |n+1,.tup xs,v,u,e,r,q=>by
  simp only[RF] at r;obtain⟨a,vs,rfl,_,rd,rs⟩:=r;cases q;obtain⟨z,its,rv,o,e1,e2,k,e3⟩:=(Rd.of rd).ok aR;obtain⟨as,ra⟩:=Qv aR n xs vs its (by simpa[bZ] using e) rs rv;exact⟨as,i4 e1 e2 e3 ra⟩
 |n+1,.lst xs,v,u,e,r,q=>by
  simp only[RF] at r;obtain⟨a,vs,rfl,_,rd,rs⟩:=r;cases q;obtain⟨z,its,k,rv,e1⟩:=rd.ok aR;obtain⟨as,ra⟩:=Qv aR n xs vs its (by simpa[bZ] using e) rs rv;exact⟨_,jK e1 rfl rfl ra⟩
 |n+1,.obj _ _ _,_,_,e,_,_=>by simp[bZ] at e
 |n+1,.eC _,_,_,e,_,_=>by simp[bZ] at e
 |n+1,.tab _,_,_,e,_,_=>by simp[bZ] at e
 |n+1,.jN _,_,_,e,_,_=>by simp[bZ] at e
theorem Qv{P:ao}{w:World}{L:af->Prop}{H:Hp}{hp:Heap}(aR:fu P w H hp):∀(n:Nat)(xs:List FV)(vs:List V)(us:List Value),(∀ x∈xs,bZ n x=true)->fF ct L H xs vs->Vals vs us->∃ as,ReadsAll hp us (Qs xs) as
 |n,[],vs,us,_,r,q=>by simp only[fF] at r;subst r;cases q;exact⟨[],by simpa only[Qs] using ReadsAll.nil⟩
 |n,x::xs,vs,us,e,r,q=>by
  simp only[fF] at r;obtain⟨v,t,rfl,r1,r2⟩:=r;cases q with
  |cons q1 q2 =>
   obtain⟨as,h1⟩:=ZG aR n x v _ (e x (by simp)) r1 q1;obtain⟨bs,h2⟩:=Qv aR n xs t _ (λz hz=>e z (by simp[hz])) r2 q2;exact⟨as++bs,by simp only[Qs];exact .cons h1 h2⟩
end
abbrev Ct:af->Prop:=λ_=>False
section
variable {μ:List af} {h:MH} {H:Hp}
theorem zR{g:MV->Option FV}:∀{xs:List MV}{ys:List FV}{vs:List V},xs.mapM g=some ys->aD ct μ (a7 μ h) H xs vs ->
  (∀ x∈xs,∀ y v,g x=some y->RV ct μ (a7 μ h) H x v->RF ct Ct H y v)->fF ct Ct H ys vs
 |[],ys,vs,e,r,_=>by
  simp at e;subst e;simp only[aD] at r;subst r;simp only[fF]
 |x::xs,ys,vs,e,r,f=>by
  simp only[vo,Us,xb,vA,gb.injEq] at e;obtain⟨y,e1,zs,e2,rfl⟩:=e;simp only[aD] at r;obtain⟨v,t,rfl,r1,r2⟩:=r;simp only[fF];exact⟨v,t,rfl,f x (by simp) y v e1 r1,zR e2 r2 λz hz=>f z (by simp[hz])⟩
theorem Qr(rel:Rel ct μ h H):∀(n:Nat)(m:MV)(x:FV)(v:V),Zp h n m=some x->RV ct μ (a7 μ h) H m v->RF ct Ct H x v
 |0,m,x,v,e,_=>by simp[Zp] at e
 |n+1,.f y,x,v,e,r=>by
  simp[Zp] at e;subst e;simp only[RV] at r;exact RF.to ⟨λ_ _ e _=>e,λ_ _ _ _ z=>z⟩ r
 |n+1,.tup xs,x,v,e,r=>by
  simp only[Zp,Wb] at e;obtain⟨ys,e1,rfl⟩:=e;simp only[RV] at r;obtain⟨a,vs,rfl,na,rd,q⟩:=r;simp only[RF];exact⟨a,vs,rfl,λz=>z,rd,zR e1 q λz hz y u ez ru=>Qr rel n z y u ez ru⟩
 |n+1,.ref i,x,v,e,r=>by
  simp only[Zp,xb,Wb] at e;obtain⟨xs,e0,ys,e1,rfl⟩:=e;simp only[RV] at r;obtain⟨b,eb,rfl⟩:=r;obtain⟨b',vs,iS,hb,q⟩:=rel.lst e0;rw[eb] at iS;cases iS;simp only[RF];exact⟨b,vs,rfl,λz=>z,.inl hb,zR e1 q λz hz y u ez ru=>Qr rel n z y u ez ru⟩
 |n+1,.exc _,x,v,e,_=>by simp[Zp] at e
end
noncomputable def mB:CO->eu
 |.lt=>.Lt | .le=>.LtE | .gt=>.Gt | .ge=>.GtE | .eq=>.Eq | .ne=>.NotEq | .gV=>.In | .Cv=>.NotIn
noncomputable def nW(ct:Tx)(op:CO):R2:=λx y H Q=>∃ μ h mx my b,Rel ct μ h H/\RV ct μ (a7 μ h) H mx x/\RV ct μ (a7 μ h) H my y/\zA op mx my h=some b/\Q (.bl b) H
theorem Y5{op:CO}{x y:V}{H:Hp}{Q:VK}(ho:∀ mx my h,zA op mx my h=(Zc mx).bind λi=>(Zc my).bind λj=>qW op i j)(q:nW ct op x y H Q):∃ i j b,x=.int i/\y=.int j/\qW op i j=some b/\Q (.bl b) H:=by
 obtain⟨μ,h,mx,my,b,rel,rx,ry,e,q⟩:=q;rw[ho] at e;simp only[xb] at e;obtain⟨i,e1,j,e2,e3⟩:=e;have:=Ze e1;subst this;have:=Ze e2;subst this;exact⟨i,j,b,Yi rx,Yi ry,e3,q⟩
theorem xI:cD X (aO .Lt) (nW ct .lt):=cD.imp wW λx y H Q q=>by
 obtain⟨i,j,b,e1,e2,e3,q⟩:=Y5 (λ_ _ _=>rfl) q;cases e3;exact⟨i,j,e1,e2,q⟩
theorem xJ:cD X (aO .LtE) (nW ct .le):=cD.imp wX λx y H Q q=>by
 obtain⟨i,j,b,e1,e2,e3,q⟩:=Y5 (λ_ _ _=>rfl) q;cases e3;exact⟨i,j,e1,e2,q⟩
theorem xM:cD X (aO .Gt) (nW ct .gt):=cD.imp wY λx y H Q q=>by
 obtain⟨i,j,b,e1,e2,e3,q⟩:=Y5 (λ_ _ _=>rfl) q;cases e3;exact⟨i,j,e1,e2,q⟩
theorem xN:cD X (aO .GtE) (nW ct .ge):=cD.imp wZ λx y H Q q=>by
 obtain⟨i,j,b,e1,e2,e3,q⟩:=Y5 (λ_ _ _=>rfl) q;cases e3;exact⟨i,j,e1,e2,q⟩
theorem NY{x y:FV}{b:Bool}(e:jY x y=some b):bZ 8 x=true/\bZ 8 y=true/\fN x y=b:=by
 unfold jY at e;split at e
 next c=>cases e;exact⟨c.1,c.2,rfl⟩
 next=>cases e
theorem xO(hu:X.A.units+65<dY):cD X (aO .Eq) (nW ct .eq):=by
 intro pins s σ H x y v u Q I rx ry q;obtain⟨μ,h,mx,my,b,rel,r1,r2,e,q⟩:=q;simp only[zA,xb] at e;obtain⟨a,e1,c,e2,e3⟩:=e;obtain⟨d1,d2,e4⟩:=NY e3;obtain⟨as,ra⟩:=ZG I.aR 8 a x v d1 (Qr rel 5 mx a x e1 r1) rx;obtain⟨bs,rb⟩:=ZG I.aR 8 c y u d2 (Qr rel 5 my c y e2 r2) ry;refine eq_dataH ra rb (YQ d1) (YQ d2) (by lia) ?_;rw[DE 8 a c d1 d2,e4];exact⟨.bl b,H,I,rfl,q⟩
theorem xH(hu:X.A.units+65<dY):cD X (aO .NotEq) (nW ct .ne):=by
 intro pins s σ H x y v u Q I rx ry q;obtain⟨μ,h,mx,my,b,rel,r1,r2,e,q⟩:=q;simp only[zA,xb,Wb] at e;obtain⟨a,e1,c,e2,b',e3,rfl⟩:=e;obtain⟨d1,d2,e4⟩:=NY e3;obtain⟨as,ra⟩:=ZG I.aR 8 a x v d1 (Qr rel 5 mx a x e1 r1) rx;obtain⟨bs,rb⟩:=ZG I.aR 8 c y u d2 (Qr rel 5 my c y e2 r2) ry;refine ne_dataH ra rb (YQ d1) (YQ d2) (by lia) ?_;rw[DE 8 a c d1 d2,e4];exact⟨.bl _,H,I,rfl,q⟩
end
end SD
end
section
namespace HT
open PySem PyProof.Rows
section
variable {prog:ao} {w:World} {A:Around} {E:Value->Shared->Prop} {s:Shared}
theorem gx{t sl:af}{items:Array Value}{vl vu:Value}{lo hi:Option Int}{Q:Value->Shared->Prop}(ht:iq s.heap t items)(hs:s.heap.IsSliceOf sl vl vu .none)(pl:fj vl lo)(pu:fj vu hi)
  (hw:cu items.size 0 lo=0/\cu items.size items.size hi=items.size) (h:Q (.ref t) s):ah (aq prog w) A (getItem (.ref t) (.ref sl)) Q E s:=by
 obtain⟨os,r9,oW,AO⟩:=id hs;have G8:s.TypeIs (.ref sl) "slice":=⟨os,r9,oW⟩;unfold getItem
 try with_reducible refine aF ?_
 first|refine ae (ag ?_)|skip
 refine ae (gZ ht.typeIs (by decide) ?_);refine ae (az (name:=kg "__getitem__") ht.typeIs Hf
  (aM Hf ht.typeIs entry_tuple_getitem ?_ (gR _ _)))
 show ah _ _ (jk (.ref t) >>= _) _ _ s;refine ae (jF ht ?_);refine ae (gX G8 ?_);rw[if_pos (by decide)];refine ae (QF hs pl pu ?_);have F4:(((cu items.size 0 lo:Nat):Int)==0&&(1:Int)==1&&(cu items.size items.size hi-cu items.size 0 lo)==items.size)=true:=by
  rw[hw.1,hw.2];simp
 show ah _ _ (if(((cu items.size 0 lo:Nat):Int)==0&&(1:Int)==1&&(cu items.size items.size hi-cu items.size 0 lo)==items.size)=true then _ else _) _ _ s;rw[if_pos F4];unfold Builtin.Tuple.tupleIsExact;refine ae (ae (gX ht.typeIs (ag ?_)));rw[if_pos (by decide)]
 first
  |exact ae (cy (ae (ag (ag ⟨_,rfl,ag h⟩))))
  |exact ae (cy (ag ⟨_,rfl,ag h⟩))
  |exact ae (cy (ae (ag ⟨_,rfl,ag h⟩)))
end
end HT
namespace SD
open PySem PySem.Spec PyProof.Rows L2 L3 M3 MP
section
variable {ct:Tx} {X:Cx} {E:XK}
theorem qcc{x:FV}{ys:List FV}{b:Bool}(e:Aq x ys=some b):bZ 8 x=true/\(∀ y∈ys,bZ 8 y=true)/\ys.any (λy=>fN y x)=b:=by
 unfold Aq at e;split at e
 next c=>cases e;exact⟨c.1,by simpa using c.2,rfl⟩
 next=>cases e
theorem Zck{x:FV}{ys:List FV}(hx:bZ 8 x=true)(hy:∀ y∈ys,bZ 8 y=true):(Qs ys).any (λy=>jr y (eV x))=ys.any λy=>fN y x:=by
 rw[KR,wE]
 induction ys with
 |nil=>rfl
 |cons y ys ih =>
  simp only[xr,Wx];rw[DE 8 y x (hy y (by simp)) hx,ih λz hz=>hy z (by simp[hz])]
theorem Kw{μ:List af}{h:MH}{H:Hp}{mx my:MV}{ys:List MV}{a:FV}{bs:List FV}{x y:V}{v u:Value}{b:Bool}{pins:List (af×Obj)}{σ:L2.St}{s:Shared}(hK:X.K=ct.K)(I:Inv X pins σ H s)(rel:Rel ct μ h H)(rx:RelV x v)(ry:RelV y u)
  (r1:RV ct μ (a7 μ h) H mx x) (r2:RV ct μ (a7 μ h) H my y) (e1:zP h mx=some a) (e2:yb h my=some ys) (e3:ys.mapM (zP h)=some bs) (e4:Aq a bs=some b) :
  (∃ as sC,(Reads s.heap u (.list (Qs bs)) as\/Reads s.heap u (.tuple (Qs bs)) as)/\Reads s.heap v (eV a) sC)/\Ks (Qs bs)=true/\(eV a).canLay0=true/\Jr (Qs bs)<=8/\(Qs bs).any (λy=>jr y (eV a))=b:=by
 obtain⟨d1,d2,e5⟩:=qcc e4;obtain⟨sC,ra⟩:=ZG I.aR 8 a x v d1 (Qr rel 5 mx a x e1 r1) rx;obtain⟨k,p,vs,rfl,sq,rs⟩:=qv rel e2 r2;cases ry;have rf:fF ct Ct H bs vs:=zR e3 rs λz hz y u ez ru=>Qr rel 5 z y u ez ru;have ll:=B4 (n:=8) bs λy hy=>BI 8 y (d2 y hy);refine⟨?_,ll.1,(BI 8 a d1).1,ll.2,by rw[Zck d1 d2];exact e5⟩;cases k with
 |true =>
  obtain⟨its,rv,⟨o,q1,q2,n,q3⟩,_⟩:=I.tuple (show ik X.K H p vs from sq.s hK);obtain⟨as,rb⟩:=Qv I.aR 8 bs vs its d2 rf rv;exact⟨as,sC,.inr (i4 q1 q2 q3 rb),ra⟩
 |false =>
  obtain⟨its,rv,⟨o,n,q1,q2,_,q3⟩,_⟩:=I.list (show gz X.K H p vs from sq.s hK);obtain⟨as,rb⟩:=Qv I.aR 8 bs vs its d2 rf rv;exact⟨_,sC,.inl (jK q1 q2 q3 rb),ra⟩
theorem xK(hK:X.K=ct.K)(hu:X.A.units+65<dY):cD X (aO .In) (nW ct .gV):=by
 intro pins s σ H x y v u Q I rx ry q;obtain⟨μ,h,mx,my,b,rel,r1,r2,e,q⟩:=q;simp only[zA,xb] at e;obtain⟨a,e1,ys,e2,bs,e3,e4⟩:=e;obtain⟨⟨as,sC,rb,ra⟩,l1,l2,l3,e5⟩:=Kw hK I rel rx ry r1 r2 e1 e2 e3 e4
 rcases rb with rb|rb
 ·exact SeqAt.in_list_reads rb ra l1 l2 (by have:=ut (Jr (Qs bs)) (eV a).depth;lia) (by rw[e5];exact⟨.bl b,H,I,rfl,q⟩)
 ·exact SeqAt.in_tuple_reads rb ra l1 l2 (by have:=ut (Jr (Qs bs)) (eV a).depth;lia) (by rw[e5];exact⟨.bl b,H,I,rfl,q⟩)
theorem ycR(hK:X.K=ct.K)(hu:X.A.units+65<dY):cD X (aO .NotIn) (nW ct .Cv):=by
 intro pins s σ H x y v u Q I rx ry q;obtain⟨μ,h,mx,my,b,rel,r1,r2,e,q⟩:=q;simp only[zA,xb,Wb] at e;obtain⟨a,e1,ys,e2,bs,e3,b',e4,rfl⟩:=e;obtain⟨⟨as,sC,rb,ra⟩,l1,l2,l3,e5⟩:=Kw hK I rel rx ry r1 r2 e1 e2 e3 e4
 rcases rb with rb|rb
 ·exact SeqAt.notIn_list_reads rb ra l1 l2 (by have:=ut (Jr (Qs bs)) (eV a).depth;lia) (by rw[e5];exact⟨.bl _,H,I,rfl,q⟩)
 ·exact SeqAt.notIn_tuple_reads rb ra l1 l2 (by have:=ut (Jr (Qs bs)) (eV a).depth;lia) (by rw[e5];exact⟨.bl _,H,I,rfl,q⟩)
theorem sU(hK:X.K=ct.K)(hu:X.A.units+65<dY):∀ op:CO,cD X (aO (mB op)) (nW ct op)
 |.lt=>xI | .le=>xJ | .gt=>xM | .ge=>xN | .eq=>xO hu | .ne=>xH hu | .gV=>xK hK hu | .Cv=>ycR hK hu
theorem L8(n:Nat)(i:Int):lg n i=rV n i:=rfl
noncomputable def Ff(ct:Tx):R2:=λx y H Q=>∃ μ h mx k xs m,Rel ct μ h H/\RV ct μ (a7 μ h) H mx x/\y=.int k/\yb h mx=some xs/\cb xs k=some m/\∀ v,RV ct μ (a7 μ h) H m v->Q v H
theorem Qcs(hK:X.K=ct.K):tV X (Ff ct):=by
 intro value slice pins s σ H x y v u Q I rx ry q hs;obtain(⟨μ,h,mx,k,xs,m,rel,r,rfl,e1,e2,q⟩):=q;obtain(⟨b,a,vs,rfl,sq,rs⟩):=qv rel e1 r;unfold cb at e2;rw[xb] at e2;obtain(⟨j,e3,e4⟩):=e2;obtain(⟨w,ew,rw_⟩):=rs.get e4;refine FT X.K rfl value slice pins s σ H (.ref a) (.int k) v u Q I rx ry ⟨b,a,vs,k,w,rfl,rfl,sq.s hK,?_,q w rw_⟩ hs;unfold rg;rw[rs.length,<- L8,e3];exact ew
theorem D3{μ:List af}{L:af->Prop}{H:Hp}{xs:List MV}{vs:List V}(r:aD ct μ L H xs vs)(lo hi:Option Int):aD ct μ L H (ZI xs lo hi) (pC vs lo hi):=by
 unfold ZI pC;rw[r.length];exact(r.drop _).take _
def E6(ct:Tx)(E:XK)(fz:Bool):V->Option Int->Option Int->Hp->VK->Prop:=λx lo hi H Q=>∃ μ h m,Rel ct μ h H/\RV ct μ (a7 μ h) H m x/\Po ct E (zp fz m lo hi h) μ h H (kV ct Q)
set_option tactic.hygienic true in
theorem ycv(hK:X.K=ct.K)(fz:Bool):Dw X (E6 ct E fz):=by
 intro pins s σ H x v vl vu lo hi sl Q I rx hs pl pu q;obtain(⟨μ,h,m,rel,r,p⟩):=q;unfold zp at p;split at p
 next xs e =>
  obtain(⟨a,vs,rfl,n,rd,rs⟩):=yw e r;by_cases hw:HT.cu vs.length 0 lo=0/\HT.cu vs.length vs.length hi=vs.length
  ·cases rx;obtain(⟨its,rv,ht,hz⟩):=I.tuple (show ik X.K H a vs from .inl (.inl rd));have hlen:its.toArray.size=vs.length:=by rw[wc];exact rv.length.symm
   refine⟨"tuple",_,Hf.lookup,ht.typeIs,HT.gx ht hs pl pu (by rw[hlen];exact hw) ?_⟩;have hc:ZI xs lo hi=xs:=by
    have hl:=rs.length;unfold ZI;show(xs.drop (HT.cu xs.length 0 lo)).take (HT.cu xs.length xs.length hi-HT.cu xs.length 0 lo)=xs;rw[<- hl,hw.1,hw.2,vB,Nat.sub_zero,hl,wm]
   rw[hc] at p;exact⟨.ref a,H,I,rfl,p.now rel _ (QG n rd rs)⟩
  ·exact YcS pins s σ H (.ref a) v vl vu lo hi sl Q I rx hs pl pu ⟨a,vs,rfl,.inl (.inl rd),hw,ZY rel (D3 rs lo hi) p⟩
 next e =>
  obtain(⟨xs,e1,p⟩):=Po.opt p
  rcases Yv e1 with e2|e2|⟨ns,rfl,rfl⟩
  ·rw[e] at e2;cases e2
  ·obtain(⟨a,vs,rfl,rd,rs⟩):=Zm rel e2 r;exact Pj pins s σ H (.ref a) v vl vu lo hi sl Q I rx hs pl pu ⟨a,vs,rfl,.inl rd,Zy rel (D3 rs lo hi) p⟩
  ·simp only[RV,RF] at r;obtain(⟨a,rfl,q⟩):=r;exact Pj pins s σ H (.ref a) v vl vu lo hi sl Q I rx hs pl pu ⟨a,_,rfl,by rw[hK];exact Ds q,Zy rel (D3 (zJ ns) lo hi) p⟩
end
section
variable {ct:Tx} {X:Cx} {E:XK}
theorem aH.imp{f:Value}{r r':List V->Hp->VK->Prop}(o:aH X f r)(k:∀ xs H Q,r' xs H Q->r xs H Q):aH X f r':=λpins s σ H xs us Q I rv q=>o pins s σ H xs us Q I rv (k _ _ _ q)
theorem aH.sX{f:Value}{r r':List V->Hp->VK->Prop}(o:aH X f r)(o':aH X f r'):aH X f λxs H Q=>r xs H Q\/r' xs H Q:=λpins s σ H xs us Q I rv q=>q.elim (o pins s σ H xs us Q I rv) (o' pins s σ H xs us Q I rv)
def rB(ct:Tx)(E:XK)(fz:Bool)(n:String):List V->Hp->VK->Prop:=λvs H Q=>∃ μ h ms,Rel ct μ h H/\aD ct μ (a7 μ h) H ms vs/\Po ct E (Qw fz n ms h) μ h H (kV ct Q)
theorem Qq{μ:List af}{L:af->Prop}{H:Hp}{m:MV}{vs:List V}(r:aD ct μ L H [m] vs):∃ v,vs=[v]/\RV ct μ L H m v:=by
 simp only[aD] at r;obtain⟨v,t,rfl,r1,rfl⟩:=r;exact⟨v,rfl,r1⟩
theorem QY{μ:List af}{L:af->Prop}{H:Hp}{m m':MV}{vs:List V}(r:aD ct μ L H [m,m'] vs):∃ v v',vs=[v,v']/\RV ct μ L H m v/\RV ct μ L H m' v':=by
 simp only[aD] at r;obtain⟨v,t,rfl,r1,v',t',rfl,r2,rfl⟩:=r;exact⟨v,v',rfl,r1,r2⟩
theorem zO{μ:List af}{L:af->Prop}{H:Hp}:∀{xs:List MV}{ns:List Int}{vs:List V},Yf xs=some ns->aD ct μ L H xs vs->vs=ns.map V.int
 |[],ns,vs,e,r=>by simp[Yf] at e;subst e;simp only[aD] at r;subst r;rfl
 |.f (.int i)::xs,ns,vs,e,r=>by
  simp only[Yf,Wb] at e;obtain⟨ms,e1,rfl⟩:=e;simp only[aD] at r;obtain⟨v,t,rfl,r1,r2⟩:=r;rw[Yi r1,zO e1 r2];rfl
 |.f .a9::_,_,_,e,_=>by simp[Yf] at e
 |.f (.bl _)::_,_,_,e,_=>by simp[Yf] at e
 |.f (.str _)::_,_,_,e,_=>by simp[Yf] at e
 |.f (.tup _)::_,_,_,e,_=>by simp[Yf] at e
 |.f (.lst _)::_,_,_,e,_=>by simp[Yf] at e
 |.f (.obj _ _ _)::_,_,_,e,_=>by simp[Yf] at e
 |.f (.eC _)::_,_,_,e,_=>by simp[Yf] at e
 |.f (.tab _)::_,_,_,e,_=>by simp[Yf] at e
 |.f (.jN _)::_,_,_,e,_=>by simp[Yf] at e
 |.ref _::_,_,_,e,_=>by simp[Yf] at e
 |.tup _::_,_,_,e,_=>by simp[Yf] at e
 |.exc _::_,_,_,e,_=>by simp[Yf] at e
theorem KW{μ:List af}{L:af->Prop}{H:Hp}:∀{xs:List MV}{ns:List Bool}{vs:List V},Yr xs=some ns->aD ct μ L H xs vs->vs=ns.map V.bl
 |[],ns,vs,e,r=>by simp[Yr] at e;subst e;simp only[aD] at r;subst r;rfl
 |.f (.bl i)::xs,ns,vs,e,r=>by
  simp only[Yr,Wb] at e;obtain⟨ms,e1,rfl⟩:=e;simp only[aD] at r;obtain⟨v,t,rfl,r1,r2⟩:=r;rw[sV r1,KW e1 r2];rfl
 |.f .a9::_,_,_,e,_=>by simp[Yr] at e
 |.f (.int _)::_,_,_,e,_=>by simp[Yr] at e
 |.f (.str _)::_,_,_,e,_=>by simp[Yr] at e
 |.f (.tup _)::_,_,_,e,_=>by simp[Yr] at e
 |.f (.lst _)::_,_,_,e,_=>by simp[Yr] at e
 |.f (.obj _ _ _)::_,_,_,e,_=>by simp[Yr] at e
 |.f (.eC _)::_,_,_,e,_=>by simp[Yr] at e
 |.f (.tab _)::_,_,_,e,_=>by simp[Yr] at e
 |.f (.jN _)::_,_,_,e,_=>by simp[Yr] at e
 |.ref _::_,_,_,e,_=>by simp[Yr] at e
 |.tup _::_,_,_,e,_=>by simp[Yr] at e
 |.exc _::_,_,_,e,_=>by simp[Yr] at e
theorem tT.len{H:Hp}{K:gc}{b:Bool}{a:af}{vs:List V}(hK:K=ct.K)(q:tT ct H b a vs):gz K H a vs\/ik K H a vs:=by
 subst hK;cases b with
 |false=>exact .inl q
 |true=>exact .inr q
theorem ZcQ(hK:X.K=ct.K)(fz:Bool):aH X (.builtin "len") (rB ct E fz "len"):=aH.imp (Ad X.K) λvs H Q q=>by
 obtain⟨μ,h,ms,rel,r0,p⟩:=q
 rcases ms with _|⟨m,_|⟨m2,ms⟩⟩
 ·exact p.elim
 ·obtain⟨v,rfl,rm⟩:=Qq r0;obtain⟨xs,e,p⟩:=Po.opt p;obtain⟨b,a,ws,rfl,sq,rs⟩:=qv rel e rm;exact⟨a,ws,rfl,sq.len hK,by rw[rs.length];exact p.now rel _ (Yn _)⟩
 ·exact p.elim
theorem qcH(hK:X.K=ct.K)(fz:Bool)(hc:X.calm=true):aH X (.builtin "sum") (rB ct E fz "sum"):=aH.imp (Aa X.K hc) λvs H Q q=>by
 obtain⟨μ,h,ms,rel,r0,p⟩:=q
 rcases ms with _|⟨m,_|⟨m2,ms⟩⟩
 ·exact p.elim
 ·obtain⟨v,rfl,rm⟩:=Qq r0;obtain⟨ns,e,p⟩:=Po.opt p;rw[xb] at e;obtain⟨xs,e1,e2⟩:=e;obtain⟨b,a,ws,rfl,sq,rs⟩:=qv rel e1 rm;have:=zO e2 rs;subst this;exact⟨b,a,ns,rfl,sq.s hK,p.now rel _ (Yn _)⟩
 ·exact p.elim
theorem ycZ(hK:X.K=ct.K)(fz:Bool)(hc:X.calm=true):aH X (.builtin "all") (rB ct E fz "all"):=aH.imp (k_all X.K hc) λvs H Q q=>by
 obtain⟨μ,h,ms,rel,r0,p⟩:=q
 rcases ms with _|⟨m,_|⟨m2,ms⟩⟩
 ·exact p.elim
 ·obtain⟨v,rfl,rm⟩:=Qq r0;obtain⟨ns,e,p⟩:=Po.opt p;rw[xb] at e;obtain⟨xs,e1,e2⟩:=e;obtain⟨b,a,ws,rfl,sq,rs⟩:=qv rel e1 rm;have:=KW e2 rs;subst this;exact⟨b,a,ns,rfl,sq.s hK,p.now rel _ (qy _)⟩
 ·exact p.elim
theorem QcN(hK:X.K=ct.K)(fz:Bool)(hc:X.calm=true):aH X (.builtin "min") (rB ct E fz "min"):=aH.imp (aH.sX (Ab X.K hc) (zbN hc)) λvs H Q q=>by
 obtain⟨μ,h,ms,rel,r0,p⟩:=q
 rcases ms with _|⟨m,_|⟨m2,_|⟨m3,ms⟩⟩⟩
 ·exact p.elim
 ·left
  obtain⟨v,rfl,rm⟩:=Qq r0;obtain⟨ns,e,p⟩:=Po.opt p;rw[xb] at e;obtain⟨xs,e1,e2⟩:=e;obtain⟨b,a,ws,rfl,sq,rs⟩:=qv rel e1 rm;have:=zO e2 rs;subst this;cases ns with
  |nil=>exact p.elim
  |cons n ns =>
   refine⟨b,a,n::ns,rfl,sq.s hK,by simp,λk hk hl=>?_⟩;have:k=n9 n ns:=by
    have a1:=hl _ (D7 (r:=n::ns) (by simp));have a2:=JS (r:=n::ns) hk;exact Hs a1 a2
   subst this;exact p.now rel _ (Yn _)
 ·right
  obtain⟨v,v',rfl,rm,mX⟩:=QY r0;obtain⟨i,e,p⟩:=Po.opt p;obtain⟨j,e',p⟩:=Po.opt p;have:=Ze e;subst this;have:=Ze e';subst this;rw[Yi rm,Yi mX];exact⟨i,j,rfl,p.now rel _ (Yn _)⟩
 ·exact p.elim
theorem QcU(hK:X.K=ct.K)(fz:Bool)(hc:X.calm=true):aH X (.builtin "max") (rB ct E fz "max"):=aH.imp (aH.sX (Ac X.K hc) (zbP hc)) λvs H Q q=>by
 obtain⟨μ,h,ms,rel,r0,p⟩:=q
 rcases ms with _|⟨m,_|⟨m2,_|⟨m3,ms⟩⟩⟩
 ·exact p.elim
 ·left
  obtain⟨v,rfl,rm⟩:=Qq r0;obtain⟨ns,e,p⟩:=Po.opt p;rw[xb] at e;obtain⟨xs,e1,e2⟩:=e;obtain⟨b,a,ws,rfl,sq,rs⟩:=qv rel e1 rm;have:=zO e2 rs;subst this;cases ns with
  |nil=>exact p.elim
  |cons n ns =>
   refine⟨b,a,n::ns,rfl,sq.s hK,by simp,λk hk hl=>?_⟩;have:k=mK n ns:=by
    have a1:=hl _ (Ee (r:=n::ns) (by simp));have a2:=LX (r:=n::ns) hk;exact Hs a2 a1
   subst this;exact p.now rel _ (Yn _)
 ·right
  obtain⟨v,v',rfl,rm,mX⟩:=QY r0;obtain⟨i,e,p⟩:=Po.opt p;obtain⟨j,e',p⟩:=Po.opt p;have:=Ze e;subst this;have:=Ze e';subst this;rw[Yi rm,Yi mX];exact⟨i,j,rfl,p.now rel _ (Yn _)⟩
 ·exact p.elim
theorem QcP(fz:Bool):aH X (.builtin "abs") (rB ct E fz "abs"):=aH.imp yb4 λvs H Q q=>by
 obtain⟨μ,h,ms,rel,r0,p⟩:=q
 rcases ms with _|⟨m,_|⟨m2,ms⟩⟩
 ·exact p.elim
 ·obtain⟨v,rfl,rm⟩:=Qq r0;obtain⟨i,e,p⟩:=Po.opt p;have:=Ze e;subst this;rw[Yi rm];exact⟨i,rfl,p.now rel _ (Yn _)⟩
 ·exact p.elim
theorem Qcb(hK:X.K=ct.K)(fz:Bool):aH X (.type "tuple") (rB ct E fz "tuple"):=aH.imp (Ycn X.K) λvs H Q q=>by
 obtain⟨μ,h,ms,rel,r0,p⟩:=q
 rcases ms with _|⟨m,_|⟨m2,ms⟩⟩
 ·exact p.elim
 ·obtain⟨v,rfl,rm⟩:=Qq r0;obtain⟨xs,e,p⟩:=Po.opt p
  rcases Yv e with e|e|⟨ns,rfl,rfl⟩
  ·obtain⟨a,ws,rfl,n,rd,rs⟩:=yw e rm;exact⟨a,ws,rfl,.inr ⟨.inl (.inl rd),p.now rel _ (QG n rd rs)⟩⟩
  ·obtain⟨a,ws,rfl,rd,rs⟩:=Zm rel e rm;exact⟨a,ws,rfl,.inl ⟨.inl rd,ZY rel rs p⟩⟩
  ·simp only[RV,RF] at rm;obtain⟨a,rfl,q⟩:=rm;exact⟨a,_,rfl,.inl ⟨by rw[hK];exact Ds q,ZY rel (zJ ns) p⟩⟩
 ·exact p.elim
theorem qcr(hK:X.K=ct.K)(fz:Bool):aH X (.type "list") (rB ct E fz "list"):=aH.imp (ZcL X.K) λvs H Q q=>by
 obtain⟨μ,h,ms,rel,r0,p⟩:=q
 rcases ms with _|⟨m,_|⟨m2,ms⟩⟩
 ·exact p.elim
 ·obtain⟨v,rfl,rm⟩:=Qq r0;obtain⟨xs,e,p⟩:=Po.opt p;obtain⟨b,a,ws,rfl,sq,rs⟩:=qv rel e rm;exact⟨a,ws,rfl,sq.len hK,Zy rel rs p⟩
 ·exact p.elim
def vX(ct:Tx)(E:XK)(m:String):V->List V->Hp->VK->Prop:=λx vs H Q=>∃ μ h mo ms,Rel ct μ h H/\RV ct μ (a7 μ h) H mo x/\aD ct μ (a7 μ h) H ms vs/\Po ct E (mq m mo ms h) μ h H (kV ct Q)
theorem mE.imp{id:String}{r r':V->List V->Hp->VK->Prop}(o:mE X id r)(k:∀ x xs H Q,r' x xs H Q->r x xs H Q):mE X id r':=λpins s σ H x xs v us Q I rx rv q=>o pins s σ H x xs v us Q I rx rv (k _ _ _ _ q)
theorem II{m:String}{mo:MV}{ms:List MV}{μ:List af}{h:MH}{H:Hp}{x:V}{k:MV->List af->MH->Hp->Prop}(rel:Rel ct μ h H)(r:RV ct μ (a7 μ h) H mo x)(p:Po ct E (mq m mo ms h) μ h H k) :
  ∃ i b xs vs,mo=.ref i/\x=.ref b/\μ[i]?=some b/\Zd h i=some xs/\H b=some (.lst vs)/\aD ct μ (a7 μ h) H xs vs:=by
 cases mo with
 |ref i =>
  obtain⟨xs,e,_⟩:=Po.opt p;obtain⟨b,vs,e1,e2,q⟩:=rel.lst e;simp only[RV] at r;obtain⟨b',e3,rfl⟩:=r;rw[e1] at e3;cases e3;exact⟨i,b,xs,vs,rfl,rfl,e1,e,e2,q⟩
 |f _=>exact p.elim
 |tup _=>exact p.elim
 |exc _=>exact p.elim
theorem DS{μ:List af}{h:MH}{H:Hp}{i:Nat}{b:af}{xs ys:List MV}{vs:List V}{m:MV}{v:V}{Q:VK}(rel:Rel ct μ h H)(e1:μ[i]?=some b)(e:Zd h i=some xs)(r:aD ct μ (a7 μ h) H ys vs)(rv:RV ct μ (a7 μ h) H m v)
  (p:Po ct E (.ok m (Qb h i ys)) μ h H (kV ct Q)):Q v (upd H b (.lst vs)):=by
 have e2:=yJ e;have ex:=Ext.set (H:=H) rel e1 e2 (λz=>nomatch z) (.lst ys) (.lst vs);refine p μ _ ex (rel.set e1 e2 (λz=>nomatch z) ⟨vs,qg,?_⟩) v (rv.ext ex);exact aD.ext ex r
theorem zbM:mE X "list.append" (vX ct E "append"):=mE.imp qbG λx ws H Q q=>by
 obtain⟨μ,h,mo,ms,rel,r,rs,p⟩:=q;obtain⟨i,b,xs,vs,rfl,rfl,e1,e,hb,q⟩:=II rel r p
 rcases ms with _|⟨m,_|⟨m2,ms⟩⟩
 ·obtain⟨_,_,p⟩:=Po.opt p;exact p.elim
 ·obtain⟨v,rfl,rm⟩:=Qq rs;obtain⟨_,e',p⟩:=Po.opt p;rw[e] at e';cases e';change Po ct E (if xs.length<MP.aK then _ else _) μ h H (kV ct Q) at p;split at p
  next c=>exact⟨b,vs,v,rfl,rfl,hb,by rw[q.length];exact Uc c YF,DS rel e1 e (q.append (aD.cons rm aD.nil)) tZ p⟩
  next=>exact p.elim
 ·obtain⟨_,_,p⟩:=Po.opt p;exact p.elim
theorem zbr:mE X "list.reverse" (vX ct E "reverse"):=mE.imp zbs λx ws H Q q=>by
 obtain(⟨μ,h,mo,ms,rel,r,rs,p⟩):=q;obtain(⟨i,b,xs,vs,rfl,rfl,e1,e,hb,q⟩):=II rel r p
 rcases ms with _|⟨m,ms⟩
 ·simp only[aD] at rs;subst rs;obtain(⟨_,e',p⟩):=Po.opt p;rw[e] at e';cases e';refine⟨b,vs,rfl,rfl,hb,DS rel e1 e (ys:=xs.reverse) ?_ tZ p⟩;clear p e hb
  induction xs generalizing vs with
  |nil=>simp only[aD] at q;subst q;exact aD.nil
  |cons x xs ih =>
   simp only[aD] at q;obtain(⟨v,t,rfl,r1,r2⟩):=q;simp only[wz];exact(ih t r2).append (aD.cons r1 aD.nil)
 ·obtain(⟨_,_,p⟩):=Po.opt p;exact p.elim
theorem YbT:mE X "list.extend" (vX ct E "extend"):=mE.imp Qbq λx ws H Q q=>by
 obtain⟨μ,h,mo,ms,rel,r,rs,p⟩:=q;obtain⟨i,b,xs,vs,rfl,rfl,e1,e,hb,q⟩:=II rel r p
 rcases ms with _|⟨m,_|⟨m2,ms⟩⟩
 ·obtain⟨_,_,p⟩:=Po.opt p;exact p.elim
 ·obtain⟨v,rfl,rm⟩:=Qq rs;obtain⟨_,e',p⟩:=Po.opt p;rw[e] at e';cases e';change Po ct E (opt (listOf h m) λys=>if xs.length+ys.length<=MP.aK then .ok (.f .a9) (Qb h i (xs++ys)) else .stuck) μ h H (kV ct Q) at p;obtain⟨ys,e3,p2⟩:=Po.opt p;obtain⟨a,ws,rfl,rd,LO⟩:=Zm rel e3 rm;split at p2
  next c=>exact⟨b,a,vs,ws,rfl,rfl,hb,rd,by rw[q.length,LO.length];exact Xe c YF,DS rel e1 e (q.append LO) tZ p2⟩
  next=>exact p2.elim
 ·obtain⟨_,_,p⟩:=Po.opt p;exact p.elim
end
noncomputable def ya:Expr->Bool
 |.Starred ..=>false
 |.Slice ..=>false
 |.Set ..=>false
 |_=>true
noncomputable def zg:Expr->Bool
 |.Call (.Name x _) [] [] _=>!(x==("super":Str))
 |_=>true
noncomputable def qD(cs sc:aA):aA :=
 {cs with names:=cs.names.map λ(n,k)=>if(k==Jn&&sc.kind == .function&&sc.names.lookup n==some .cell) then(n,Hn) else(n,k)}
noncomputable def gl(sc:aA)(x:Str):Bool:=sc.names.lookup x==some .globalImplicit&&!(x==("__debug__":Str))&&decide (x≠("__name__":Str))
noncomputable def ot(sc:aA)(x:Str):Bool:=(sc.names.lookup x==some .local||sc.names.lookup x==some .cell||sc.names.lookup x==some .free)&&!(x==("__debug__":Str))&&!(x==("__classdict__":Str))
noncomputable def rF(lo:Str->Bool)(sc:aA)(x:Str):Bool:=sc.names.lookup x==some .local||(lo x&&sc.names.lookup x==some .cell)
noncomputable abbrev rj:Str->Bool:=λ_=>true
noncomputable abbrev rN(cs:aA):Str->Bool:=λx=>cs.names.lookup x==some .cell
mutual
noncomputable def qx(lo:Str->Bool)(N:List Str)(sc:aA):Tg->Expr->Bool
 |.nm i,.Name x _=>N[i]? == some x&&rF lo sc x
 |.tp ts,.Tuple es _ _=>yU lo N sc ts es
 |_,_=>false
noncomputable def yU(lo:Str->Bool)(N:List Str)(sc:aA):List Tg->List Expr->Bool
 |[],[]=>true
 |t::ts,e::es=>qx lo N sc t e&&yU lo N sc ts es
 |_,_=>false
end
mutual
noncomputable def mG:Tg->Expr->List Str
 |.nm _,.Name x _=>[x]
 |.tp ts,.Tuple es _ _=>uN ts es
 |_,_=>[]
noncomputable def uN:List Tg->List Expr->List Str
 |t::ts,e::es=>mG t e++uN ts es
 |_,_=>[]
end
noncomputable def Pb:Expr->Bool
 |.Tuple ..=>true
 |_=>false
noncomputable def FW:Expr->Bool
 |.Name _ _=>true
 |e=>Pb e
noncomputable def cX:List String:=["len","sum","all","min","max","abs"]
noncomputable def dA:List String:=["tuple","list"]
noncomputable def iR:List String:=["append","extend"]
noncomputable def hZ:List String:=["reverse"]
noncomputable def aX:List String:=["dict","list","tuple","str","int","bool"]
noncomputable def yy:Expr->List Expr
 |.Call (.Name _ _) as [] _=>as
 |_=>[]
noncomputable def sF(tg:Expr)(it:String):Expr->Bool
 |.Call (.Name x _) as [] _=>(it == "range"&&(as.length==1||as.length==2||as.length==3)||it == "zip"&&FW tg&&as.length==2||it == "enumerate"&&Pb tg&&as.length==1)&&x==kg it
 |_=>false
noncomputable def jM:ME->Bool
 |.eI _=>false
 |.ite _ _ _=>false
 |_=>true
noncomputable def wJ:Expr->Bool
 |.Constant (.bool true) _ _=>true
 |_=>false
noncomputable def pA{α:Type}:List α->Option (α×α)
 |[a,b]=>some (a,b)
 |_=>none
noncomputable def rh{α:Type}:List α->Option α
 |[a]=>some a
 |_=>none
noncomputable def Fi:Expr->Option (Expr×Expr)
 |.Dict ks vs _=>(pA ks).bind λk=>(pA vs).bind λv=>if wJ v.1&&wJ v.2 then k.1.bind λx=>k.2.map λy=>(x,y) else none
 |_=>none
noncomputable def sA:Expr->Option (Str×Expr)
 |.Call (.Name x _) as [] _=>(rh as).map λa=>(x,a)
 |_=>none
noncomputable def Q2(e:Expr):Option (Str×Str×Expr):=(sA e).bind λp=>(sA p.2).map λq=>(p.1,q.1,q.2)
noncomputable def FX:Expr->Bool
 |.UnaryOp .USub (.Constant (.int 1) _ _) _=>true
 |_=>false
noncomputable def BF:Expr->Option (Str×Expr×Expr)
 |.Call (.Name x _) as [] _=>(pA as).map λa=>(x,a)
 |_=>none
noncomputable def yY:Expr->Option (Expr×eu×Expr)
 |.Compare l os rs _=>(rh os).bind λo=>(rh rs).map λr=>(l,o,r)
 |_=>none
noncomputable def rW:Expr->Bool
 |.Constant .none _ _=>true
 |_=>false
noncomputable def BE:Expr->Option Str
 |.Name x _=>some x
 |_=>none
noncomputable def DB(e:Expr):Option (Str×Expr×Str):=(BF e).bind λq=>(BE q.2.2).map λy=>(q.1,q.2.1,y)
noncomputable def EX:Expr->Option Expr
 |.Subscript x (.Slice none none (some st) _) _=>if FX st then some x else none
 |_=>none
noncomputable def JG:Option FV->Bool
 |some (.int _)=>true
 |some (.str _)=>true
 |_=>false
noncomputable def Qc3:Expr->Option Expr
 |.Call (.Attribute l n ap) [] [] cp=>if n==("items":Str)&&zg l&&(ap.endLine==cp.line) then some l else none
 |_=>none
noncomputable def EJ:T1->Str
 |.str=>"str"
 |.int=>"int"
 |.len=>"len"
 |.j3=>"len"
noncomputable def LB:T1->Bool
 |.j3=>false
 |_=>true
section
variable (Pm:Prog)
mutual
noncomputable def zm(me:ME)(N:List Str)(sc:aA)(e:Expr):Bool:=match me,e with
 |.var i,.Name x _=>N[i]? == some x&&ot sc x
 |.cI i,.Constant (.int j) _ _=>i==j
 |.cB b,.Constant (.bool c) _ _=>b==c
 |.cN,.Constant .none _ _=>true
 |.cS s,.Constant (.str x) _ _=>s==x
 |.bin _ op a b,.BinOp l o r _=>o==Cy op&&(ya l&&zm a N sc l)&&(ya r&&zm b N sc r)
 |.neg a,.UnaryOp .USub x _=>(ya x&&zm a N sc x)
 |.cmp op a b,e=>match yY e with
  |some (l,o,r)=>o==mB op&&(ya l&&zm a N sc l)&&(ya r&&zm b N sc r)
  |none=>false
 |.chain op j5 a b c,.Compare l [o,o'] [m,r] _=>o==mB op&&o'==mB j5&&(ya l&&zm a N sc l)&&(ya m&&zm b N sc m)&&(ya r&&zm c N sc r)
 |.mn a,e=>match yY e with
  |some (l,o,r)=>o == .IsNot&&rW r&&(ya l&&zm a N sc l)
  |none=>false
 |.and es,.BoolOp .And vs _=>es.all jM&&Ql es N sc vs
 |.or es,.BoolOp .Or vs _=>es.all jM&&Ql es N sc vs
 |.not a,.UnaryOp .Not x _=>jM a&&(ya x&&zm a N sc x)
 |.ite c a b,.IfExp t x y _=>jM c&&(ya t&&zm c N sc t)&&(ya x&&zm a N sc x)&&(ya y&&zm b N sc y)
 |.tup es,.Tuple vs _ _=>decide (vs.length<1000)&&Ql es N sc vs
 |.lst _ es,.List vs _=>decide (vs.length<1000)&&Ql es N sc vs
 |.sub a i,.Subscript x y _=>(ya x&&zm a N sc x)&&(ya y&&zm i N sc y)
 |.slice _ a lo hi,.Subscript x (.Slice l u none _) _=>(ya x&&zm a N sc x)&&tY lo N sc l&&tY hi N sc u
 |.fld a n,.Attribute x m _=>m==kg n&&zg x&&(ya x&&zm a N sc x)
 |.glob g,.Name x _=>x==kg g&&gl sc x&&JG (Pm.bO g)
 |.call f es,.Call (.Name x _) (v::vs) [] _=>x==kg f&&gl sc x&&!(f.toList.contains '.')&&(Pm.defs f).isSome&&Ql es N sc (v::vs)
 |.make _ c es,.Call (.Name x _) (v::vs) [] _=>x==kg c&&gl sc x&&(Pm.meths c "__init__").isSome&&Ql es N sc (v::vs)
 |.make _ c [],.Call (.Name x _) [] [] _=>x==kg c&&gl sc x&&Pm.nX c&&(Pm.meths c "__init__").isNone
 |.blt _ n es,.Call (.Name x _) (v::vs) [] _=>x==kg n&&gl sc x&&(cX.contains n||dA.contains n)&&Ql es N sc (v::vs)
 |.CJ a t,e=>match DB e with
  |some (x,v,y)=>x==("isinstance":Str)&&gl sc x&&y==kg t&&gl sc y&&(aX.contains t||(Pm.subs t t).isSome)&&(ya v&&zm a N sc v)
  |none=>false
 |.jZ f es ds,.Call (.Name x _) (v::vs) [] _=>x==kg f&&gl sc x&&Pm.nH f ds&&Ql es N sc (v::vs)
 |.iI a b,e=>match Fi e with
  |some (x,y)=>(ya x&&zm a N sc x)&&(ya y&&zm b N sc y)
  |none=>false
 |.kJ a,e=>match Q2 e with
  |some (x,y,v)=>x==("sorted":Str)&&gl sc x&&y==("list":Str)&&gl sc y&&(ya v&&zm a N sc v)
  |none=>false
 |.mh .j3 a,e=>match Q2 e with
  |some (x,y,v)=>x==("len":Str)&&gl sc x&&y==("set":Str)&&gl sc y&&(ya v&&zm a N sc v)
  |none=>false
 |.mh o a,.Call (.Name x _) [v] [] _=>x==EJ o&&gl sc x&&(ya v&&zm a N sc v)
 |.kD .join a b,.Call (.Attribute x n ap) [v] [] cp=>n==("join":Str)&&zg x&&(ap.endLine==cp.line)&&(ya x&&zm a N sc x)&&(ya v&&zm b N sc v)
 |.kD (.split _) a b,.Call (.Attribute x n ap) [v] [] cp=>n==("split":Str)&&zg x&&(ap.endLine==cp.line)&&(ya x&&zm a N sc x)&&(ya v&&zm b N sc v)
 |.kD .at a b,.Subscript x y _=>(ya x&&zm a N sc x)&&(ya y&&zm b N sc y)
 |.kD .gV a b,e=>match yY e with
  |some (l,o,r)=>o == .In&&(ya l&&zm a N sc l)&&(ya r&&zm b N sc r)
  |none=>false
 |.kD .idx a b,.Call (.Attribute x n ap) [v] [] cp=>n==("index":Str)&&zg x&&(ap.endLine==cp.line)&&(ya x&&zm a N sc x)&&(ya v&&zm b N sc v)
 |.lm m o es,.Call (.Attribute x n ap) vs [] cp=>n==kg m&&zg x&&(ap.endLine==cp.line)&&(ya x&&zm o N sc x)&&Ql es N sc vs&&(if vs.isEmpty then hZ.contains m else iR.contains m&&decide (vs.length<30))
 |.comp _ elt tg it src cond bW js,.ListComp x [⟨t,iter,ifs,a⟩] cs _ =>
   let N':=mG tg t++js.filterMap λj=>N[j]?
   (a==0)&&ya iter&&Yx sc N cs N' bW js&&decide N'.Nodup&&qx (rN cs) N' (qD cs sc) tg t&&(ya x&&zm elt N' (qD cs sc) x)&&pf cond N' (qD cs sc) ifs &&
    (if it == "seq" then nY src N sc iter else if it == "signs" then nY src N sc iter else if it == "enum1" then false else sF t it iter&&gl sc (kg it)&&Ql src N sc (yy iter))
 |.eI m,e=>(ya e&&zm m N sc e)
 |_,_=>false
noncomputable def Ql(mL:List ME)(N:List Str)(sc:aA)(es:List Expr):Bool:=match mL,es with
 |[],[]=>true
 |m::ms,e::es=>(ya e&&zm m N sc e)&&Ql ms N sc es
 |_,_=>false
noncomputable def nY(mL:List ME)(N:List Str)(sc:aA)(e:Expr):Bool:=match mL with
 |[m]=>(ya e&&zm m N sc e)
 |_=>false
noncomputable def tY(mo:Option ME)(N:List Str)(sc:aA)(eo:Option Expr):Bool:=match mo,eo with
 |none,none=>true
 |some m,some e=>(ya e&&zm m N sc e)
 |_,_=>false
noncomputable def pf(mo:Option ME)(N:List Str)(sc:aA)(es:List Expr):Bool:=match mo,es with
 |none,[]=>true
 |some m,[e]=>jM m&&(ya e&&zm m N sc e)
 |_,_=>false
end
noncomputable def ze(me:ME)(N:List Str)(sc:aA)(e:Expr):Bool:=ya e&&zm Pm me N sc e
end
noncomputable def iF(ct:Tx)(W:List MV->MH->R MV):Sp:=λvs H Q E=>∃ μ h ms,Rel ct μ h H/\aD ct μ (a7 μ h) H ms vs/\Po ct E (W ms h) μ h H (kV ct Q)
structure nR (K:gc) (C:af):Prop where
 cl:ly K C
 ha:Ve K (.ref C) "__class__"=some (some (.builtin "object.__class__"))
 hn:Uq K (.builtin "object.__class__") "__get__"=some (some (.builtin "getset_descriptor.__get__"))
 tk:Xt K (.builtin "object.__class__")=some true
 hm:Wy K C (.type "object")=some true
noncomputable def LG(ct:Tx)(Pm:Prog)(wd:String):af->af->Sp:=λx C vs H Q _=>vs=[.ref x]/\∃ c s,C=ct c/\Pm.word wd c=some s/\∀ H',IG H H'->Q (.str s) H'
def JF(mg:Str->Option Value)(x:String):FV->Prop
 |.int i=>∃ t,mg (kg x)=some (.int i t)
 |.str s=>∃ t,mg (kg x)=some (.str s t)
 |_=>False
structure Txt (P:ao) (w:World) (K:gc) (mg:Str->Option Value) (base:Heap) (Pm:Prog) (ct:Tx) (n:Nat):Prop where
 defs:∀ f d,Pm.defs f=some d->f.toList.contains '.'=false->∃ ps,wH P w K mg base (kg f) (2*n) ps (iF ct (run Pm n f))
 lZ:∀ c f,Pm.meths c "__init__"=some f->∃ ps,O8 P w K mg base (kg c) (ct c) (2*n) ps (iF ct (run Pm n f))
 fE:∀ x∈cX++dA++aX++["range","zip","enumerate","isinstance","sorted","reversed","set"],mg (kg x)=none
 fG:∀ c f,Pm.fG c f=true->ly K (ct c)/\fR K (ct c) (kg f)
 cls:∀ c t b,Pm.subs c t=some b->nR K (ct c)
 mT:∀ c t b,Pm.subs c t=some b->aX.contains t=false->mg (kg t)=some (.ref (ct t))/\Vg K (.ref (ct c)) (.ref (ct t))=some b
 ow:∀ c t b,Pm.subs c t=some b->aX.contains t=true->Vg K (.ref (ct c)) (.type t)=some b
 B9:∀ t c b,Pm.subs c t=some b->aX.contains t=false->∀ T∈["NoneType","bool","int","str","list","tuple"],Vg K (.type T) (.ref (ct t))=some false
 lL:∀ c,Pm.lL c=true->nN K (ct c)/\mg (kg c)=some (.ref (ct c))
 words:∀ wd,Pm.words wd=true->nN K (ct "DotError")/\mg "DotError"=some (.ref (ct "DotError"))/\(∃ ps,Pq P w K mg base (kg wd) 1 ps (LG ct Pm wd)) /\
  ∀ c s,Pm.word wd c=some s->nN K (ct c)/\(Dy K (ct c)).contains (.ref (ct "DotError"))=true
 mf:∀ t,Pm.mf t=true->(if t="ValueError" then mg "ValueError"=none else mg (kg t)=some (.ref (ct t)))
 xs:∀ c t b,Pm.lX c t=some b->BW K (ct c)/\Vg K (.ref (ct c)) (if t="ValueError" then .type "ValueError" else .ref (ct t))=some b
 nH:∀ f ds,Pm.nH f ds=true->∃ ps fa fd dG,fk P w K mg base (kH P w) (2*n) fa fd ps (iF ct (run Pm n f))/\Binds K fd ps dG/\Vals (ds.map V.int) dG/\Ug K (.ref fa)=true/\mg (kg f)=some (.ref fa)
 rq:Pm.xt=true->nN K (ct "DotError")/\mg "DotError"=some (.ref (ct "DotError"))/\∀ c b,Pm.lX c c=some b->nN K (ct c)/\(Dy K (ct c)).contains (.ref (ct "DotError"))=true
 meths:∀ c m f,Pm.meths c m=some f->m≠"__init__"->qcG P w K mg base (2*n) (ct c) (kg m) (iF ct (run Pm n f))
 nX:∀ c,Pm.nX c=true->DI K (ct c)/\mg (kg c)=some (.ref (ct c))
 bO:∀ x v,Pm.bO x=some v->JF mg x v
structure Cc (X:Cx) (Pm:Prog) (ct:Tx) (n:Nat) (Ra:L2.St->Prop) (E:XK) (N:List Str) (sc:aA):Prop where
 txt:Txt X.prog X.w X.K X.mg X.base Pm ct n
 calm:X.calm=true
 room:dw (2*n+1) X.A
 FC:∀ σ,Ra σ->Zz (kH X.prog X.w) X σ E
 nm:X.N=N
 sc:X.env.scope=sc
 nd:X.N.Nodup
 hK:X.K=ct.K
section
variable {ct:Tx} {X:Cx} {E:XK} {Pm:Prog} {n:Nat} {Ra:L2.St->Prop} {N:List Str} {sc:aA}
theorem Cc.units(c:Cc X Pm ct n Ra E N sc):X.A.units+65<dY:=by have:=c.room.un;lia
theorem Zx{x:Str}(hs:X.env.scope=sc)(h:gl sc x=true):Gl X x/\(x==("__debug__":Str))=false/\x≠"__name__":=by
 unfold gl at h;simp only[Xa,beq_iff_eq,wn,decide_eq_true_eq] at h;refine⟨?_,h.1.2,h.2⟩;show X.env.scope.names.lookup x=_;rw[hs];exact h.1.1
theorem zd{e:Expr}{es:List Expr}{env:Env}(h:ya e=true):au (e::es) env=(false,eval e env)::au es env:=by
 cases e <;> first|rfl|(simp[ya] at h)
theorem Qy{e:Expr}(h:ya e=true)(op:eu):bA op e=false:=by
 cases e <;> first|rfl|(simp[ya] at h)
theorem N1{e:Expr}(h:ya e=true):JJ e:=by
 intro o i;cases e <;> first|rfl|(simp[ya] at h)
theorem yH{e:Expr}{env:Env}(h:ya e=true):∀ x,cH e env x=pure x:=by
 intro x;cases e <;> first|rfl|(simp[ya] at h)
theorem Yu{e:Expr}{f:Str}{env:Env}{w:Sem Value}(h:zg e=true):bB e f env w=w:=by
 cases e with
 |Call g as ks p =>
  cases g with
  |Name x q =>
   cases as with
   |nil =>
    cases ks with
    |nil =>
     have h':(x==("super":Str))=false:=by simpa[zg] using h
     have e1:(x != ("super":Str))=true:=by simp[bne,h']
     unfold bB;simp only[e1,Bool.true_or,if_true]
    |cons _ _=>rfl
   |cons _ _=>rfl
  |_=>rfl
 |_=>rfl
theorem Yj{me:ME}{e:Expr}(h:ze Pm me N sc e=true):ya e=true:=by
 unfold ze at h;exact(Vw.mp h).1
theorem Qc{me:ME}{e:Expr}(h:ze Pm me N sc e=true):zm Pm me N sc e=true:=by
 unfold ze at h;exact(Vw.mp h).2
theorem ff{P:Prop}(h:false=true):P:=xg h
theorem Zbm{m:ME}{ms:List ME}{e:Expr}{es:List Expr}(h:Ql Pm (m::ms) N sc (e::es)=true):ze Pm m N sc e=true/\Ql Pm ms N sc es=true:=Vw.mp (show(ze Pm m N sc e&&Ql Pm ms N sc es)=true from h)
theorem Zf{env:Env}:∀{es:List Expr},(∀ e∈es,ya e=true)->au es env=es.map λe=>(false,eval e env)
 |[],_=>rfl
 |e::es,h=>by
  rw[zd (h e (by simp)),Zf λx hx=>h x (by simp[hx])];rfl
theorem yu{env:Env}{pos:Pos}{es:List Expr}(h:∀ e∈es,ya e=true):(bV pos (au es env)).any (·.1)=false:=by
 rw[Zf h];unfold bV;rw[Xd,wE]
 induction es with
 |nil=>rfl
 |cons e es ih=>simp[xC]
theorem PE.imp{e:Expr}{t t':TE}(p:PE X e t)(k:∀ σ H Q,t' σ H Q->t σ H Q):PE X e t':=λpins s σ H Q I h=>p pins s σ H Q I (k σ H Q h)
theorem PT.imp{e:Expr}{t t':TT}(p:PT X e t)(k:∀ σ H Q,t' σ H Q->t σ H Q):PT X e t':=λpins s σ H Q I h=>p pins s σ H Q I (k σ H Q h)
theorem PW.imp{e:Expr}{t t':TT}(p:PW X e t)(k:∀ σ H Q,t' σ H Q->t σ H Q):PW X e t':=λwh pins s σ H Q I h=>p wh pins s σ H Q I (k σ H Q h)
theorem PA.imp{es:List Expr}{t t':TA}(p:PA X es t)(k:∀ σ H Q,t' σ H Q->t σ H Q):PA X es t':=λpos pins s σ H Q I h=>p pos pins s σ H Q I (k σ H Q h)
theorem PS.imp{e:Stmt}{t t':TS}(p:PS X e t)(k:∀ D σ H,t' D σ H->t D σ H):PS X e t':=λpins s σ H D I h=>p pins s σ H D I (k D σ H h)
theorem iL.imp{e:List Stmt}{t t':TS}(p:iL X e t)(k:∀ D σ H,t' D σ H->t D σ H):iL X e t':=λpins s σ H D I h=>p pins s σ H D I (k D σ H h)
noncomputable def lG(ct:Tx)(tg:Tg):TG:=λv σ H Q=>∃ μ h σs m σs',Rel ct μ h H/\aY ct μ h H σ σs/\RV ct μ (a7 μ h) H m v/\ZC tg m σs=some σs'/\∀ σ',aY ct μ h H σ' σs'->Q σ' H
noncomputable def lGs(ct:Tx)(tgs:List Tg):pq:=λvs σ H Q=>∃ μ h σs ms σs',Rel ct μ h H/\aY ct μ h H σ σs/\aD ct μ (a7 μ h) H ms vs/\qA tgs ms σs=some σs'/\∀ σ',aY ct μ h H σ' σs'->Q σ' H
theorem PG.imp{e:Expr}{t t':TG}(p:PG X e t)(k:∀ v σ H Q,t' v σ H Q->t v σ H Q):PG X e t':=λpins s σ H v u Q I r h=>p pins s σ H v u Q I r (k v σ H Q h)
theorem oa.imp{e:List Expr}{t t':pq}(p:oa X e t)(k:∀ v σ H Q,t' v σ H Q->t v σ H Q):oa X e t':=λpins s σ H v u Q I r h=>p pins s σ H v u Q I r (k v σ H Q h)
theorem DW{lo:Str->Bool}{t:Tg}{e:Expr}(h:qx lo N sc t e=true):∀(es:List Expr)(env:Env),bG (e::es) env=(false,eG e env)::bG es env:=by
 intro es env;cases t with
 |nm i=>cases e <;> first|rfl|(simp[qx] at h)
 |tp ts=>cases e <;> first|rfl|(simp[qx] at h)
theorem Of{lo:Str->Bool}{env:Env}:∀{ts:List Tg}{es:List Expr},yU lo N sc ts es=true->(bG es env).length=ts.length/\(bG es env).findIdx? (·.1)=none
 |[],[],_=>⟨rfl,rfl⟩
 |[],_::_,h=>by simp[yU] at h
 |_::_,[],h=>by simp[yU] at h
 |t::ts,e::es,h=>by
  simp only[yU,Xa] at h;obtain⟨h1,h2⟩:=Of (env:=env) h.2;rw[DW h.1 es env];exact⟨by simp[h1],by rw[List.findIdx?_cons];simp[h2]⟩
theorem Pw:∀{ts:List Tg}{ms:List MV}{σs σs':aL},qA ts ms σs=some σs'->ms.length=ts.length
 |[],[],_,_,_=>rfl
 |[],_::_,_,_,e=>by simp[qA] at e
 |_::_,[],_,_,e=>by simp[qA] at e
 |t::ts,m::ms,σs,σs',e=>by
  simp only[qA,xb] at e;obtain⟨σ1,_,e2⟩:=e;simp[Pw e2]
mutual
theorem sG{lo:Str->Bool}(hN:X.N=N)(hs:X.env.scope=sc)(nd:X.N.Nodup)(hc:X.calm=true)(hf:∀ x,lo x=true->X.fn x=true):∀(t:Tg)(e:Expr),qx lo N sc t e=true->PG X e (lG ct t)
 |.nm i,e,h=>by
  cases e with
  |Name x p =>
   simp only[qx,rF,Xa,beq_iff_eq,wl] at h;obtain⟨h1,h2⟩:=h;have hi:X.N[i]?=some x:=by rw[hN];exact h1
   have hk:Loc X.env.scope x:=by
    rw[hs]
    rcases h2 with h2|⟨_,h2⟩
    ·exact .inl h2
    ·exact .inr h2
   have hf':X.fn x=true\/X.env.scope.names.lookup x=some .local:=by
    rw[hs]
    rcases h2 with h2|⟨hl,h2⟩
    ·exact .inr h2
    ·exact .inl (hf x hl)
   refine PG.imp (Mc nd hi hk hf') λv σ H Q q=>?_;obtain⟨μ,hh,σs,m,σs',rel,aI,r,e,k⟩:=q;simp[ZC] at e;subst e;exact k _ (aI.set i r)
  |_=>simp[qx] at h
 |.tp ts,e,h=>by
  cases e with
  |Tuple es k p =>
   simp only[qx] at h;obtain⟨h1,h2⟩:=Of (env:=X.env) h;refine PG.imp (QcZ hc (LK hN hs nd hc hf ts es h) h1 h2) λv σ H Q q=>?_;obtain⟨μ,hh,σs,m,σs',rel,aI,r,e,k⟩:=q;simp only[ZC,xb] at e;obtain⟨ms,e1,e2⟩:=e;obtain⟨a,vs,rfl,_,rd,rs⟩:=yw e1 r;exact⟨a,vs,rfl,.inl (.inl rd),by rw[rs.length];exact Pw e2,μ,hh,σs,ms,σs',rel,aI,rs,e2,k⟩
  |_=>simp[qx] at h
theorem LK{lo:Str->Bool}(hN:X.N=N)(hs:X.env.scope=sc)(nd:X.N.Nodup)(hc:X.calm=true)(hf:∀ x,lo x=true->X.fn x=true):∀(ts:List Tg)(es:List Expr),yU lo N sc ts es=true->oa X es (lGs ct ts)
 |[],es,h=>by
  cases es with
  |nil =>
   refine oa.imp qcw λv σ H Q q=>?_;obtain⟨μ,hh,σs,ms,σs',rel,aI,rs,e,k⟩:=q;cases ms with
   |nil =>
    simp only[aD] at rs;subst rs;simp[qA] at e;subst e;exact⟨rfl,k _ aI⟩
   |cons m ms=>simp[qA] at e
  |cons e es=>simp[yU] at h
 |t::ts,es,h=>by
  cases es with
  |nil=>simp[yU] at h
  |cons e es =>
   simp only[yU,Xa] at h;refine oa.imp (zcc (sG hN hs nd hc hf t e h.1) (LK hN hs nd hc hf ts es h.2) (by rw[DW h.1 es X.env];rfl)) λv σ H Q q=>?_;obtain⟨μ,hh,σs,ms,σs',rel,aI,rs,e,k⟩:=q;cases ms with
   |nil=>simp[qA] at e
   |cons m ms =>
    simp only[qA,xb] at e;obtain⟨σ1,e1,e2⟩:=e;simp only[aD] at rs;obtain⟨v1,vr,rfl,r1,r2⟩:=rs;exact⟨v1,vr,rfl,μ,hh,σs,m,σ1,rel,aI,r1,e1,λσ' kK=>⟨μ,hh,σ1,ms,σs',rel,kK,r2,e2,k⟩⟩
end
end
section
variable {ct:Tx} {X:Cx} {E:XK} {Pm:Prog} {n:Nat} {Ra:L2.St->Prop} {N:List Str} {sc:aA}
theorem PI.imp{tg e:Expr}{t t':TI}(p:PI X tg e t)(k:∀ σ H Q,t' σ H Q->t σ H Q):PI X tg e t':=λpins s σ H Q I h=>p pins s σ H Q I (k σ H Q h)
def Wk(ct:Tx)(J:It)(items:List MV)(g:qG)(μ1:List af)(h1:MH)(H1:Hp):Prop:=∀(i:Nat) μ h H,Ext μ1 h1 H1 μ h H->Rel ct μ h H->bx g h ->
 (i<items.length->J.go i H/\∀ x H2,J.om i H x H2->∃ m,items[i]?=some m/\Ext μ h H μ h H2/\Rel ct μ h H2/\RV ct μ (a7 μ h) H2 m x)/\(i=items.length->J.stop i H)
def tW(ct:Tx)(b:Bool)(a:af)(items:List MV)(g:qG)(μ1:List af)(h1:MH)(H1:Hp):Prop:=∀ μ h H,Ext μ1 h1 H1 μ h H->Rel ct μ h H->bx g h->∃ vs,tT ct H b a vs/\aD ct μ (a7 μ h) H items vs
theorem ZP{μ:List af}{h:MH}{H:Hp}{m:MV}{v:V}{items:List MV}(rel:Rel ct μ h H)(e:yb h m=some items)(r:RV ct μ (a7 μ h) H m v):∃ b a,v=.ref a/\tW ct b a items (zc h m) μ h H:=by
 cases m with
 |f x =>
  rcases Yv e with e'|e'|⟨ns,e',rfl⟩
  ·obtain⟨a,vs,rfl,na,rd,rs⟩:=yw e' r;exact⟨true,a,rfl,λμ' h' H' ex _ _=>⟨vs,ik.of (ex.keep a _ rd na),rs.ext ex⟩⟩
  ·cases x with
   |lst xs =>
    simp only[RV,RF] at r;obtain⟨a,vs,rfl,na,rd,rs⟩:=r;cases e';exact⟨false,a,rfl,λμ' h' H' ex _ _=>⟨vs,.inl (Rd.keep (λo q=>ex.keep a o q na) rd),(aD.w8 (μ:=μ) rs).ext ex⟩⟩
   |_=>cases e'
  ·cases e';simp only[RV,RF] at r;obtain⟨a,rfl,q⟩:=r;exact⟨false,a,rfl,λμ' h' H' ex _ _=>⟨_,Ds (L:=a7 μ' h') (q.imp (λ⟨n,o,e⟩=>⟨ex.let.kO a _ e n,o,ex.keep a _ e n⟩) id),zJ ns⟩⟩
 |tup xs =>
  rcases Yv e with e'|e'|⟨ns,e',_⟩
  ·obtain⟨a,vs,rfl,na,rd,rs⟩:=yw e' r;exact⟨true,a,rfl,λμ' h' H' ex _ _=>⟨vs,ik.of (ex.keep a _ rd na),rs.ext ex⟩⟩
  ·cases e'
  ·cases e'
 |ref i =>
  have e0:Zd h i=some items:=e;simp only[RV] at r;obtain⟨b,eb,rfl⟩:=r;refine⟨false,b,rfl,λμ' h' H' ex aZ g=>?_⟩;have g':Zd h' i=some items:=g (i,items) (by simp[zc,e0]);obtain⟨b',vs,iS,hb,rs⟩:=aZ.lst g';obtain⟨ν,rfl⟩:=ex.pre;rw[ub (Wa.mp eb).1,eb] at iS;cases iS;exact⟨vs,gz.of hb,rs⟩
 |exc c=>cases e
theorem bx.left{g g':qG}{h:MH}(k:bx (g++g') h):bx g h:=λp hp=>k p (xj _ hp)
theorem bx.right{g g':qG}{h:MH}(k:bx (g++g') h):bx g' h:=λp hp=>k p (uf _ hp)
theorem YcL{K:gc}(hK:K=ct.K){b:Bool}{a:af}{items:List MV}{g:qG}{μ1:List af}{h1:MH}{H1:Hp}(st:tW ct b a items g μ1 h1 H1):Wk ct (nO K b a) items g μ1 h1 H1:=by
 intro i μ h H ex rel gd;obtain⟨vs,sq,rs⟩:=st μ h H ex rel gd;have hl:=rs.length;refine⟨λhi=>⟨nO.go (sq.s hK) (by lia),λx H2 y=>?_⟩,λhi=>?_⟩
 ·obtain⟨rfl,e⟩:=nO.om (sq.s hK) y;obtain⟨m,em,rm⟩:=rs.get' e;exact⟨m,em,Ext.refl _ _ _,rel,rm⟩
 ·rw[hi,<- hl];exact nO.stop (sq.s hK)
theorem JO{K:gc}(hK:K=ct.K){b1 b2:Bool}{a1 a2:af}{xs ys:List MV}{g g':qG}{μ1:List af}{h1:MH}{H1:Hp}(s1:tW ct b1 a1 xs g μ1 h1 H1)(s2:tW ct b2 a2 ys g' μ1 h1 H1) :
  Wk ct (DJ K b1 b2 a1 a2) ((xs.zip ys).map λp=>yk [p.1,p.2]) (g++g') μ1 h1 H1:=by
 intro i μ h H ex rel gd;obtain⟨vs,sq,rs⟩:=s1 μ h H ex rel (bx.left gd);obtain⟨ws,ER,LP⟩:=s2 μ h H ex rel (bx.right gd);have hl:=rs.length;have oR:=LP.length;refine⟨λhi=>?_,λhi=>?_⟩
 ·simp only[xc,VA] at hi;refine⟨⟨vs,ws,sq.s hK,ER.s hK,by lia,by lia⟩,λx H2 y=>?_⟩;obtain⟨T,x1,y1,rfl,hT,rfl,e1,e2⟩:=y;obtain⟨m1,HC,r1⟩:=rs.get' (e1 vs (sq.s hK));obtain⟨m2,em2,r2⟩:=LP.get' (e2 ws (ER.s hK));have tK:=Ext.new rel hT (.tup [x1,y1]);refine⟨yk [m1,m2],?_,tK,rel.new hT _,QG (B5 rel hT) qg (aD.cons (r1.ext tK) (aD.cons (r2.ext tK) aD.nil))⟩;simp only[Ua,xz,Wb];exact⟨(m1,m2),⟨HC,em2⟩,rfl⟩
 ·simp only[xc,VA] at hi;refine⟨vs,ws,sq.s hK,ER.s hK,?_⟩
  lia
theorem qco{K:gc}(hK:K=ct.K){b:Bool}{a:af}{xs:List MV}{g:qG}{μ1:List af}{h1:MH}{H1:Hp}(s1:tW ct b a xs g μ1 h1 H1):Wk ct (Jz K b a) (xs.mapIdx λk x=>yk [.f (.int k),x]) g μ1 h1 H1:=by
 intro i μ h H ex rel gd;obtain⟨vs,sq,rs⟩:=s1 μ h H ex rel gd;have hl:=rs.length;refine⟨λhi=>?_,λhi=>?_⟩
 ·simp only[wu] at hi;refine⟨⟨vs,sq.s hK,by lia⟩,λx H2 y=>?_⟩;obtain⟨T,x1,rfl,hT,rfl,e1⟩:=y;obtain⟨m1,HC,r1⟩:=rs.get' (e1 vs (sq.s hK));have tK:=Ext.new rel hT (.tup [.int i,x1]);refine⟨yk [.f (.int i),m1],?_,tK,rel.new hT _,QG (B5 rel hT) qg (aD.cons (Yn _) (aD.cons (r1.ext tK) aD.nil))⟩;rw[vc,HC];rfl
 ·simp only[wu] at hi;exact⟨vs,sq.s hK,by lia⟩
theorem KD{lo:Int}{k:Nat}{μ1:List af}{h1:MH}{H1:Hp}(f:Nat->Int)(hf:∀ i:Nat,f i=lo+i):Wk ct (BU lo k) ((va k).map λi=>MV.f (.int (f i))) [] μ1 h1 H1:=by
 intro i μ h H ex rel gd;refine⟨λhi=>?_,λhi=>?_⟩
 ·have kG:i<k:=by simpa using hi
  refine⟨kG,λx H2 y=>?_⟩;obtain⟨rfl,rfl⟩:=y;refine⟨.f (.int (f i)),by simp[kG],Ext.refl _ _ _,rel,?_⟩;rw[hf];exact Yn _
 ·have kG:i=k:=by simpa using hi
  exact Xm kG.symm
theorem Ycx{lo st:Int}{k:Nat}{μ1:List af}{h1:MH}{H1:Hp}:Wk ct (pz lo st k) ((va k).map λ(i:Nat)=>MV.f (.int (lo+i*st))) [] μ1 h1 H1:=by
 intro i μ h H ex rel gd;refine⟨λhi=>?_,λhi=>?_⟩
 ·have kG:i<k:=by simpa using hi
  refine⟨kG,λx H2 y=>?_⟩;obtain⟨rfl,rfl⟩:=y;exact⟨.f (.int (lo+i*st)),by simp[kG],Ext.refl _ _ _,rel,Yn _⟩
 ·have kG:i=k:=by simpa using hi
  exact Xm kG.symm
theorem ZbM{μ:List af}{L:af->Prop}{H:Hp}{m m' MG:MV}{vs:List V}(r:aD ct μ L H [m,m',MG] vs):∃ v v' uH,vs=[v,v',uH]/\RV ct μ L H m v/\RV ct μ L H m' v'/\RV ct μ L H MG uH:=by
 simp only[aD] at r;obtain⟨v,t,rfl,r1,v',t',rfl,r2,uH,t'',rfl,r3,rfl⟩:=r;exact⟨v,v',uH,rfl,r1,r2,r3⟩
noncomputable def lI(ct:Tx)(Ra:L2.St->Prop)(E:XK)(ev:aL->MH->R (List MV))(it:String):TI:=λσ H R=>∃ μ h σs,Rel ct μ h H/\aY ct μ h H σ σs/\Ra σ /\
 Po ct E (ev σs h) μ h H λxs μ1 h1 H1=>∃ items g,iB it xs h1=some (items,g)/\Rel ct μ1 h1 H1/\∀ J,Wk ct J items g μ1 h1 H1->R J H1
theorem zcO(hK:X.K=ct.K){tg e:Expr}{ev:aL->MH->R MV}(h:PE X e (lE ct Ra E ev)):PI X tg e (lI ct Ra E (λσ hh=>(ev σ hh).bind λx h1=>.ok [x] h1) "seq"):=PI.imp (FR X.K h) λσ H Q q=>by
 obtain⟨μ,hh,σs,rel,aI,ra,p⟩:=q;refine lE.mk rel aI ra p λm v μ1 h1 H1 ex av aP rv p1=>?_;obtain⟨items,g,e1,_,k⟩:=p1.now av;simp only[Z7,Wb,Kt.injEq] at e1;obtain⟨xs,e2,rfl,rfl⟩:=e1;obtain⟨b,a,rfl,st⟩:=ZP av e2 rv;obtain⟨vs,sq,_⟩:=st μ1 h1 H1 (Ext.refl _ _ _) av (λp hp=>by
  cases m with
  |ref i =>
   have e0:Zd h1 i=some xs:=e2;simp[zc,e0] at hp;subst hp;exact e0
  |f _=>simp[zc] at hp
  |tup _=>simp[zc] at hp
  |exc _=>simp[zc] at hp)
 exact⟨b,a,rfl,⟨vs,sq.s hK⟩,k _ (YcL hK st)⟩
theorem YG{h1:MH}{m:MV}{xs:List MV}(e2:yb h1 m=some xs):bx (zc h1 m) h1:=λp hp=>by
 cases m with
 |ref i =>
  have e0:Zd h1 i=some xs:=e2;simp[zc,e0] at hp;subst hp;exact e0
 |f _=>simp[zc] at hp
 |tup _=>simp[zc] at hp
 |exc _=>simp[zc] at hp
theorem QbW{tg:Expr}{es:List Expr}{p pos:Pos}{ev:aL->MH->R (List MV)}(hg:Gl X "range")(hm:X.mg "range"=none)(ha:PA X es (lA ct Ra E ev))(bE:∀ e∈es,ya e=true)(hl:(es.length=1\/es.length=2)\/es.length=3)(hn:∀ σ h xs h',ev σ h=.ok xs h'->xs.length=es.length) :
  PI X tg (.Call (.Name "range" p) es [] pos) (lI ct Ra E ev "range"):=by
 rcases es with _|⟨a,_|⟨b,_|⟨c,_|⟨d,es⟩⟩⟩⟩
 ·simp at hl
 ·refine PI.imp (qbV hg hm ha (Zf bE)) λσ H Q q=>?_;obtain(⟨μ,hh,σs,rel,aI,ra,p⟩):=q;refine⟨μ,hh,σs,rel,aI,ra,?_⟩;cases er:ev σs hh with
  |exc c h'=>rw[er] at p;exact p
  |stuck=>rw[er] at p;exact p
  |ok xs h' =>
   rw[er] at p;have hx:=hn _ _ _ _ er;intro μ' H' ex aZ vs eO;obtain(⟨items,g,e1,_,k⟩):=p μ' H' ex aZ
   rcases xs with _|⟨m,_|⟨m2,xs⟩⟩
   ·simp at hx
   ·obtain(⟨v,rfl,rm⟩):=Qq eO;simp only[QcJ,xb] at e1;obtain(⟨j,e2,e3⟩):=e1;have:=Ze e2;subst this;split at e3
    next c =>
     simp only[gb.injEq,Kt.injEq] at e3;obtain(⟨rfl,rfl⟩):=e3;rw[Yi rm];exact⟨j,rfl,c.1,c.2,k _ (KD _ λi=>by simp)⟩
    next=>cases e3
   ·simp at hx
 ·refine PI.imp (ZbU hg hm ha (Zf bE) (Zf λe he=>bE e (by simp at he;simp[he]))) λσ H Q q=>?_;obtain(⟨μ,hh,σs,rel,aI,ra,p⟩):=q;refine⟨μ,hh,σs,rel,aI,ra,?_⟩;cases er:ev σs hh with
  |exc c h'=>rw[er] at p;exact p
  |stuck=>rw[er] at p;exact p
  |ok xs h' =>
   rw[er] at p;have hx:=hn _ _ _ _ er;intro μ' H' ex aZ vs eO;obtain(⟨items,g,e1,_,k⟩):=p μ' H' ex aZ
   rcases xs with _|⟨m,_|⟨m2,_|⟨m3,xs⟩⟩⟩
   ·simp at hx
   ·simp at hx
   ·obtain(⟨v,v',rfl,rm,mX⟩):=QY eO;simp only[qcK,xb] at e1;obtain(⟨i,e2,j,e3,e4⟩):=e1;have:=Ze e2;subst this;have:=Ze e3;subst this;split at e4
    next c =>
     simp only[gb.injEq,Kt.injEq] at e4;obtain(⟨rfl,rfl⟩):=e4;rw[Yi rm,Yi mX];exact⟨i,j,rfl,⟨c.1,c.2.1,c.2.2.1,c.2.2.2⟩,k _ (KD _ λi=>rfl)⟩
    next=>cases e4
   ·simp at hx
 ·refine PI.imp (QbP hg hm ha (Zf bE) (Zf λe he=>bE e (by simp at he;rcases he with he|he <;> simp[he]))) λσ H Q q=>?_;obtain(⟨μ,hh,σs,rel,aI,ra,p⟩):=q;refine⟨μ,hh,σs,rel,aI,ra,?_⟩;cases er:ev σs hh with
  |exc c h'=>rw[er] at p;exact p
  |stuck=>rw[er] at p;exact p
  |ok xs h' =>
   rw[er] at p;have hx:=hn _ _ _ _ er;intro μ' H' ex aZ vs eO;obtain(⟨items,g,e1,_,k⟩):=p μ' H' ex aZ
   rcases xs with _|⟨m,_|⟨m2,_|⟨m3,_|⟨m4,xs⟩⟩⟩⟩
   ·simp at hx
   ·simp at hx
   ·simp at hx
   ·obtain(⟨v,v',uH,rfl,rm,mX,E1⟩):=ZbM eO;simp only[zcI,xb] at e1;obtain(⟨i,e2,j,e3,l,e4,e5⟩):=e1;have:=Ze e2;subst this;have:=Ze e3;subst this;have:=Ze e4;subst this;split at e5
    next c =>
     simp only[gb.injEq,Kt.injEq] at e5;obtain(⟨rfl,rfl⟩):=e5;rw[Yi rm,Yi mX,Yi E1];exact⟨i,j,l,rfl,c,k _ Ycx⟩
    next=>cases e5
   ·simp at hx
 ·simp at hl
theorem ycF(hK:X.K=ct.K){a b:Expr}{es:List Expr}{kt:Nat}{pt p pos:Pos}{ev:aL->MH->R (List MV)}(hg:Gl X "zip")(hm:X.mg "zip"=none)(ha:PA X [a,b] (lA ct Ra E ev))(bE:∀ e∈[a,b],ya e=true)(hn:∀ σ h xs h',ev σ h=.ok xs h'->xs.length=2) :
  PI X (.Tuple es kt pt) (.Call (.Name "zip" p) [a,b] [] pos) (lI ct Ra E ev "zip"):=by
 refine PI.imp (xZ X.K hg hm ha (Zf bE) (Zf λe he=>bE e (by simp at he;simp[he]))) λσ H Q q=>?_;obtain⟨μ,hh,σs,rel,aI,ra,p⟩:=q;refine⟨μ,hh,σs,rel,aI,ra,?_⟩;cases er:ev σs hh with
 |exc c h'=>rw[er] at p;exact p
 |stuck=>rw[er] at p;exact p
 |ok xs h' =>
  rw[er] at p;have hx:=hn _ _ _ _ er;intro μ' H' ex aZ vs eO;obtain⟨items,g,e1,_,k⟩:=p μ' H' ex aZ
  rcases xs with _|⟨m,_|⟨m2,_|⟨m3,xs⟩⟩⟩
  ·simp at hx
  ·simp at hx
  ·obtain⟨v,v',rfl,rm,mX⟩:=QY eO;simp only[Md,xb,Wb,Kt.injEq] at e1;obtain⟨us,e2,ws,e3,rfl,rfl⟩:=e1;obtain⟨b1,a1,rfl,s1⟩:=ZP aZ e2 rm;obtain⟨b2,a2,rfl,s2⟩:=ZP aZ e3 mX;obtain⟨t9,q1,_⟩:=s1 _ _ _ (Ext.refl _ _ _) aZ (YG e2);obtain⟨Eo,q2,_⟩:=s2 _ _ _ (Ext.refl _ _ _) aZ (YG e3);exact⟨b1,b2,a1,a2,rfl,⟨t9,q1.s hK⟩,⟨Eo,q2.s hK⟩,k _ (JO hK s1 s2)⟩
  ·simp at hx
theorem Zct(hK:X.K=ct.K){a:Expr}{es:List Expr}{kt:Nat}{pt p pos:Pos}{ev:aL->MH->R (List MV)}(hg:Gl X "enumerate")(hm:X.mg "enumerate"=none)(ha:PA X [a] (lA ct Ra E ev))(bE:∀ e∈[a],ya e=true)(hn:∀ σ h xs h',ev σ h=.ok xs h'->xs.length=1) :
  PI X (.Tuple es kt pt) (.Call (.Name "enumerate" p) [a] [] pos) (lI ct Ra E ev "enumerate"):=by
 refine PI.imp (qcO X.K hg hm ha (Zf bE)) λσ H Q q=>?_;obtain⟨μ,hh,σs,rel,aI,ra,p⟩:=q;refine⟨μ,hh,σs,rel,aI,ra,?_⟩;cases er:ev σs hh with
 |exc c h'=>rw[er] at p;exact p
 |stuck=>rw[er] at p;exact p
 |ok xs h' =>
  rw[er] at p;have hx:=hn _ _ _ _ er;intro μ' H' ex aZ vs eO;obtain⟨items,g,e1,_,k⟩:=p μ' H' ex aZ
  rcases xs with _|⟨m,_|⟨m2,xs⟩⟩
  ·simp at hx
  ·obtain⟨v,rfl,rm⟩:=Qq eO;simp only[KO,Wb,Kt.injEq] at e1;obtain⟨us,e2,rfl,rfl⟩:=e1;obtain⟨b1,a1,rfl,s1⟩:=ZP aZ e2 rm;obtain⟨t9,q1,_⟩:=s1 _ _ _ (Ext.refl _ _ _) aZ (YG e2);exact⟨b1,a1,rfl,⟨t9,q1.s hK⟩,k _ (qco hK s1)⟩
  ·simp at hx
end
theorem QH{a b:String}(h:kg a=kg b):a=b:=by
 rw[Jg,Jg] at h;injection h with h
 have h2:a.toList.map jt=b.toList.map jt:=by simpa using congrArg VC h
 have h3:a.toList=b.toList:=by
  refine(List.map_inj_right λx y e=>?_).mp h2;exact Char.ext (UInt32.toNat_inj.mp e)
 exact String.ext h3
section
variable {ct:Tx} {X:Cx} {E:XK} {Pm:Prog} {n:Nat} {Ra:L2.St->Prop} {N:List Str} {sc:aA}
noncomputable def gu(ev:aL->MH->R MV):aL->MH->R Bool:=λσ h=>(ev σ h).bind λx h1=>opt (YE x) λk=>.ok k h1
theorem Oy{ev:aL->MH->R MV}{σ:L2.St}{H:Hp}{Q:Bool->Hp->Prop}(q:lT ct Ra E (gu ev) σ H Q):lE ct Ra E ev σ H λx H'=>∃ k,x=.bl k/\Q k H':=by
 obtain⟨μ,h,σs,rel,aI,ra,p⟩:=q;refine lE.mk rel aI ra p λm v μ1 h1 H1 ex av aP rv p1=>?_;obtain⟨k,e,p2⟩:=Po.opt p1;have:=Ck e;subst this;exact⟨k,sV rv,p2.now av⟩
theorem Dp{e:Expr}{t:TE}{ev:aL->MH->R MV}(p:PE X e t)(pt:PT X e (DN t))(k:∀ σ H Q,lE ct Ra E ev σ H Q->t σ H Q):PE X e (lE ct Ra E ev)/\PT X e (lT ct Ra E (gu ev)) :=
 ⟨PE.imp p k,PT.imp pt λσ H Q q=>k σ H _ (Oy q)⟩
theorem qc{e:Expr}{ev:aL->MH->R MV}(p:PE X e (lE ct Ra E ev))(he:∀ whole,j8 e X.env whole=(do let v<-whole;j2 e.pos;ee [v] (truthy v)):=by intro _;rfl):PE X e (lE ct Ra E ev)/\PT X e (lT ct Ra E (gu ev)) :=
 ⟨p,PT.imp (zcJ p he) λσ H Q q=>Oy q⟩
section
variable {ea eb ec:aL->MH->R MV} {a b c:Expr} {pos:Pos}
theorem Du{v:V}{x:FV}(h:PE X a (tC v))(r:∀ μ L H,RV ct μ L H (.f x) v):PE X a (lE ct Ra E λ_ h=>.ok (.f x) h):=PE.imp h λσ H Q q=>by
 obtain⟨μ,hh,σs,rel,aI,ra,p⟩:=q;exact p.now rel v (r _ _ _)
theorem A4{i:Nat}{x:Str}(hN:X.N[i]?=some x)(hv:ot X.env.scope x=true):PE X (.Name x pos) (lE ct Ra E λσ h=>opt ((σ[i]?).join) λv=>.ok v h):=by
 unfold ot at hv;simp only[Xa,wl,beq_iff_eq,wn] at hv;refine PE.imp (QcM hN (by rcases hv.1.1 with (h|h)|h;exact .inl h;exact .inr (.inl h);exact .inr (.inr h)) hv.1.2 hv.2) λσ H Q q=>?_;obtain⟨μ,hh,σs,rel,aI,ra,p⟩:=q;obtain⟨m,e,p⟩:=Po.opt p;have e':σs[i]?=some (some m):=by
  cases q:σs[i]? with
  |none=>rw[q] at e;cases e
  |some z=>rw[q] at e;exact congrArg some e
 obtain⟨v,e2,rv⟩:=aI.at_ i m e';exact⟨v,e2,p.now rel v rv⟩
theorem Bk(fz:Bool)(op:BO)(ha:PE X a (lE ct Ra E ea))(hb:PE X b (lE ct Ra E eb)):PE X (.BinOp a (Cy op) b pos) (lE ct Ra E λσ h=>(ea σ h).bind λx h1=>(eb σ h1).bind λy h2=>ye fz op x y h2) :=
 PE.imp (wQ (ZcZ (ct:=ct) (E:=E) fz op) ha hb) λσ H Q q=>by
  obtain⟨μ,h,σs,rel,aI,ra,p⟩:=q;exact lE.mk rel aI ra p λm v μ1 h1 H1 ex av aP rv p1=>lE.mk av aP ra p1 λm2 v2 μ2 h2 H2 d0 aU cW hX p2=>⟨μ2,h2,m,m2,aU,rv.ext d0,hX,p2⟩
theorem A'(ha:PE X a (lE ct Ra E ea)):PE X (.UnaryOp .USub a pos) (lE ct Ra E λσ h=>(ea σ h).bind λx h1=>opt (Zc x) λi=>.ok (.f (.int (-i))) h1) :=
 PE.imp (wN QcW ha) λσ H Q q=>by
  obtain⟨μ,h,σs,rel,aI,ra,p⟩:=q;refine lE.mk rel aI ra p λm v μ1 h1 H1 ex av aP rv p1=>?_;obtain⟨i,e,p2⟩:=Po.opt p1;have:=Ze e;subst this;exact⟨i,Yi rv,p2.now av _ (Yn _)⟩
theorem Bi(hK:X.K=ct.K)(op:CO)(hu:X.A.units+65<dY)(ha:PE X a (lE ct Ra E ea))(hb:PE X b (lE ct Ra E eb))(hp:ya b=true) :
  PE X (.Compare a [mB op] [b] pos) (lE ct Ra E λσ h=>(ea σ h).bind λx h1=>(eb σ h1).bind λy h2=>opt (zA op x y h2) λk=>.ok (.f (.bl k)) h2) /\
  PT X (.Compare a [mB op] [b] pos) (lT ct Ra E (gu λσ h=>(ea σ h).bind λx h1=>(eb σ h1).bind λy h2=>opt (zA op x y h2) λk=>.ok (.f (.bl k)) h2)) :=
 Dp (N7 (sU (ct:=ct) hK hu op) ha hb (Qy hp _)) (LW (sU (ct:=ct) hK hu op) ha hb (Qy hp _)) λσ H Q q=>by
  obtain⟨μ,h,σs,rel,aI,ra,p⟩:=q;refine lE.mk rel aI ra p λm v μ1 h1 H1 ex av aP rv p1=>lE.mk av aP ra p1 λm2 v2 μ2 h2 H2 d0 aU cW hX p2=>?_;obtain⟨k,e,p3⟩:=Po.opt p2;exact⟨μ2,h2,m,m2,k,aU,rv.ext d0,hX,e,p3.now aU _ (qy _)⟩
theorem Qcy(hK:X.K=ct.K)(op j5:CO)(hu:X.A.units+65<dY)(ha:PE X a (lE ct Ra E ea))(hb:PE X b (lE ct Ra E eb))(hc:PE X c (lE ct Ra E ec))(hp:ya c=true) :
  PE X (.Compare a [mB op,mB j5] [b,c] pos) (lE ct Ra E λσ h=>(ea σ h).bind λx h1=>(eb σ h1).bind λy h2=>opt (zA op x y h2) λk=>if k=true then(ec σ h2).bind λz h3=>opt (zA j5 y z h3) λk=>.ok (.f (.bl k)) h3 else .ok (.f (.bl false)) h2) /\
  PT X (.Compare a [mB op,mB j5] [b,c] pos) (lT ct Ra E (gu λσ h=>(ea σ h).bind λx h1=>(eb σ h1).bind λy h2=>opt (zA op x y h2) λk=>if k=true then(ec σ h2).bind λz h3=>opt (zA j5 y z h3) λk=>.ok (.f (.bl k)) h3 else .ok (.f (.bl false)) h2)) :=
 Dp (zb1 (sU (ct:=ct) hK hu op) (sU (ct:=ct) hK hu j5) ha hb hc (Qy hp _)) (Yb2 (sU (ct:=ct) hK hu op) (sU (ct:=ct) hK hu j5) ha hb hc (Qy hp _)) λσ H Q q=>by
  obtain⟨μ,h,σs,rel,aI,ra,p⟩:=q;refine lE.mk rel aI ra p λm v μ1 h1 H1 ex av aP rv p1=>lE.mk av aP ra p1 λm2 v2 μ2 h2 H2 d0 aU cW hX p2=>?_;obtain⟨k,e,p3⟩:=Po.opt p2;refine⟨μ2,h2,m,m2,k,aU,rv.ext d0,hX,e,k,rfl,?_⟩;cases k with
  |false=>exact p3.now aU _ (qy _)
  |true =>
   refine lE.mk aU cW ra p3 λm3 v3 μ3 h3 H3 gG eD mV vQ p4=>?_;obtain⟨k',e',p5⟩:=Po.opt p4;exact⟨μ3,h3,m2,m3,k',eD,hX.ext gG,vQ,e',p5.now eD _ (qy _)⟩
theorem NQ{μ:List af}{L:af->Prop}{H:Hp}{m:MV}{v:V}(r:RV ct μ L H m v):Zw m=decide (v=.a9):=by
 cases m with
 |f x =>
  cases x with
  |a9=>simp only[RV,RF] at r;subst r;rfl
  |bl _=>simp only[RV,RF] at r;subst r;rfl
  |int _=>simp only[RV,RF] at r;subst r;rfl
  |str _=>simp only[RV,RF] at r;subst r;rfl
  |tup _=>simp only[RV,RF] at r;obtain⟨_,_,rfl,_⟩:=r;rfl
  |lst _=>simp only[RV,RF] at r;obtain⟨_,_,rfl,_⟩:=r;rfl
  |obj _ _ _=>simp only[RV,RF] at r;obtain⟨_,_,_,rfl,_⟩:=r;rfl
  |eC _=>simp only[RV,RF] at r;obtain⟨_,rfl,_⟩:=r;rfl
  |tab _=>simp only[RV,RF] at r;obtain⟨_,_,rfl,_⟩:=r;rfl
  |jN _=>simp only[RV,RF] at r;obtain⟨_,_,rfl,_⟩:=r;rfl
 |ref _=>simp only[RV] at r;obtain⟨_,_,rfl⟩:=r;rfl
 |tup _=>simp only[RV] at r;obtain⟨_,_,rfl,_⟩:=r;rfl
 |exc _=>simp only[RV] at r;obtain⟨_,rfl,_⟩:=r;rfl
theorem zcQ{j:Nat}{p2:Pos}(ha:PE X a (lE ct Ra E ea)) :
  PE X (.Compare a [.IsNot] [.Constant .none j p2] pos) (lE ct Ra E λσ h=>(ea σ h).bind λx h1=>.ok (.f (.bl (!Zw x))) h1) /\
  PT X (.Compare a [.IsNot] [.Constant .none j p2] pos) (lT ct Ra E (gu λσ h=>(ea σ h).bind λx h1=>.ok (.f (.bl (!Zw x))) h1)) :=
 Dp (ycL (K1 ha)) (ZcF (K1 ha)) λσ H Q q=>by
  obtain⟨μ,h,σs,rel,aI,ra,p⟩:=q;refine lE.mk rel aI ra p λm v μ1 h1 H1 ex av aP rv p1=>?_;rw[<- NQ rv];exact p1.now av _ (qy _)
theorem A9(ha:PE X a (lE ct Ra E ea))(ta:PT X a (lT ct Ra E (gu ea))) :
  PE X (.UnaryOp .Not a pos) (lE ct Ra E λσ h=>(ea σ h).bind λx h1=>opt (YE x) λk=>.ok (.f (.bl (!k))) h1) /\
  PT X (.UnaryOp .Not a pos) (lT ct Ra E (gu λσ h=>(ea σ h).bind λx h1=>opt (YE x) λk=>.ok (.f (.bl (!k))) h1)):=by
 refine⟨PE.imp (zcX ha) λσ H Q q=>?_,PT.imp (zcP ta) λσ H Q q=>?_⟩
 ·obtain⟨μ,h,σs,rel,aI,ra,p⟩:=q;refine lE.mk rel aI ra p λm v μ1 h1 H1 ex av aP rv p1=>?_;obtain⟨k,e,p2⟩:=Po.opt p1;have:=Ck e;subst this;exact⟨k,sV rv,p2.now av _ (qy _)⟩
 ·obtain⟨μ,h,σs,rel,aI,ra,p⟩:=q;refine⟨μ,h,σs,rel,aI,ra,?_⟩;dsimp only[gu] at p ⊢;cases er:ea σs h with
  |stuck=>rw[er] at p;exact p
  |exc c h'=>rw[er] at p;exact p
  |ok x h' =>
   rw[er] at p;simp only[R.aw] at p ⊢;cases eb:YE x with
   |none=>rw[eb] at p;exact p
   |some k =>
    rw[eb] at p;exact p
theorem Bc(tc:PT X c (lT ct Ra E (gu ec)))(ha:PE X a (lE ct Ra E ea))(hb:PE X b (lE ct Ra E eb)) :
  PE X (.IfExp c a b pos) (lE ct Ra E λσ h=>(ec σ h).bind λx h1=>opt (YE x) λk=>if k=true then ea σ h1 else eb σ h1) :=
 PE.imp (zb8 tc ha hb) λσ H Q q=>by
  obtain⟨μ,h,σs,rel,aI,ra,p⟩:=q;have p':Po ct E ((gu ec σs h).bind λk h1=>if k=true then ea σs h1 else eb σs h1) μ h H (kV ct Q):=by
   dsimp only[gu] at p ⊢;cases er:ec σs h with
   |stuck=>rw[er] at p;exact p
   |exc c h'=>rw[er] at p;exact p
   |ok x h' =>
    rw[er] at p;simp only[R.aw] at p ⊢;cases eb:YE x with
    |none=>rw[eb] at p;exact p
    |some k=>rw[eb] at p;exact p
  refine lT.mk rel aI ra p' λk μ1 h1 H1 ex av aP p1=>?_;cases k with
  |true=>exact⟨μ1,h1,σs,av,aP,ra,p1⟩
  |false=>exact⟨μ1,h1,σs,av,aP,ra,p1⟩
theorem Bg(ha:PE X a (lE ct Ra E ea)):PE X a (lE ct Ra E λσ h=>(ea σ h).bind λx h1=>ZJ x h1):=PE.imp ha λσ H Q q=>by
 obtain⟨μ,h,σs,rel,aI,ra,p⟩:=q;refine lE.mk rel aI ra p λm v μ1 h1 H1 ex av aP rv p1=>?_;obtain⟨x,h',oZ,aZ,rv',k⟩:=N9 av rv p1;exact k v rv'
theorem A7(hK:X.K=ct.K)(ha:PE X a (lE ct Ra E ea))(hb:PE X b (lE ct Ra E eb))(hp:ya b=true) :
  PE X (.Subscript a b pos) (lE ct Ra E λσ h=>(ea σ h).bind λx h1=>(eb σ h1).bind λy h2=>opt (yb h2 x) λxs=>opt (Zc y) λk=>opt (cb xs k) λv=>.ok v h2) :=
 PE.imp (NV (Qcs (ct:=ct) hK) ha hb (N1 hp)) λσ H Q q=>by
  obtain⟨μ,h,σs,rel,aI,ra,p⟩:=q;refine lE.mk rel aI ra p λm v μ1 h1 H1 ex av aP rv p1=>lE.mk av aP ra p1 λm2 v2 μ2 h2 H2 d0 aU cW hX p2=>?_;obtain⟨xs,e1,p3⟩:=Po.opt p2;obtain⟨k,e2,p4⟩:=Po.opt p3;obtain⟨w,e3,p5⟩:=Po.opt p4;have:=Ze e2;subst this;exact⟨μ2,h2,m,k,xs,w,aU,rv.ext d0,Yi hX,e1,e3,p5.now aU⟩
end
end
section
variable {ct:Tx} {X:Cx} {E:XK} {Pm:Prog} {n:Nat} {Ra:L2.St->Prop} {N:List Str} {sc:aA}
def Bo(ct:Tx)(X:Cx)(Ra:L2.St->Prop)(E:XK)(Pm:Prog)(n:Nat):List ME->List Expr->Prop
 |[],[]=>True
 |m::ms,e::es=>(ya e=true/\PE X e (lE ct Ra E (qa Pm (run Pm n) m))/\(jM m=true->PT X e (lT ct Ra E (gu (qa Pm (run Pm n) m)))))/\Bo ct X Ra E Pm n ms es
 |_,_=>False
theorem Bo.pa:∀{ms:List ME}{es:List Expr},Bo ct X Ra E Pm n ms es->PA X es (lA ct Ra E (Yg Pm (run Pm n) ms))
 |[],[],_=>PA.imp yE λσ H Q q=>by
  obtain⟨μ,h,σs,rel,aI,ra,p⟩:=q;simp only[Yg] at p;exact p.now rel [] aD.nil
 |[],_::_,b=>b.elim
 |_::_,[],b=>b.elim
 |m::ms,e::es,b=>PA.imp (zt b.1.2.1 (Bo.pa b.2) (zd b.1.1)) λσ H Q q=>by
  obtain⟨μ,h,σs,rel,aI,ra,p⟩:=q;simp only[Yg] at p;refine lE.mk rel aI ra p λm' v μ1 h1 H1 ex av aP rv p1=>?_;refine lA.mk av aP ra p1 λFL vs μ2 h2 H2 d0 aU cW eO p2=>?_;exact p2.now aU _ (aD.cons (rv.ext d0) eO)
theorem Bo.plain:∀{ms:List ME}{es:List Expr},Bo ct X Ra E Pm n ms es->∀ e∈es,ya e=true
 |[],[],_,e,he=>by simp at he
 |[],_::_,b,_,_=>b.elim
 |_::_,[],b,_,_=>b.elim
 |m::ms,e::es,b,x,hx=>by
  rcases ua.mp hx with rfl|hx
  ·exact b.1.1
  ·exact Bo.plain b.2 x hx
theorem Bo.length:∀{ms:List ME}{es:List Expr},Bo ct X Ra E Pm n ms es->ms.length=es.length
 |[],[],_=>rfl
 |[],_::_,b=>b.elim
 |_::_,[],b=>b.elim
 |m::ms,e::es,b=>by simp[Bo.length b.2]
theorem Qt{W:String->List MV->MH->R MV}:∀{ms:List ME}{σ:aL}{h:MH}{xs:List MV}{h':MH},Yg Pm W ms σ h=.ok xs h'->xs.length=ms.length
 |[],σ,h,xs,h',e=>by simp only[Yg,R.ok.injEq] at e;simp[<- e.1]
 |m::ms,σ,h,xs,h',e=>by
  simp only[Yg] at e;cases e1:qa Pm W m σ h with
  |stuck=>rw[e1] at e;cases e
  |exc c h2=>rw[e1] at e;cases e
  |ok x h1 =>
   rw[e1] at e;simp only[R.aw] at e;cases e2:Yg Pm W ms σ h1 with
   |stuck=>rw[e2] at e;cases e
   |exc c h2=>rw[e2] at e;cases e
   |ok ys h2 =>
    rw[e2] at e;simp only[R.aw,R.ok.injEq] at e;rw[<- e.1,ud,ud,Qt e2]
theorem OC{pos:Pos}:∀{ms:List ME}{es:List Expr},Bo ct X Ra E Pm n ms es->ms.all jM=true->PE X (.BoolOp .And es pos) (lE ct Ra E (Yq Pm (run Pm n) ms))/\PW X (.BoolOp .And es pos) (lT ct Ra E (gu (Yq Pm (run Pm n) ms)))
 |[],[],_,_=>⟨λpins s σ H Q I q=>by
   obtain⟨μ,h,σs,rel,aI,ra,p⟩:=q;simp only[Yq] at p;exact p.elim,λwh pins s σ H Q I q=>by
   obtain⟨μ,h,σs,rel,aI,ra,p⟩:=q;simp only[gu,Yq] at p;exact p.elim⟩
 |[],_::_,b,_=>b.elim
 |_::_,[],b,_=>b.elim
 |[m],[e],b,ht=>by
  simp at ht;refine⟨PE.imp (NR b.1.2.1) λσ H Q q=>?_,PW.imp (ycz (b.1.2.2 ht)) λσ H Q q=>?_⟩
  ·simpa only[Yq] using q
  ·have:Yq Pm (run Pm n) [m]=qa Pm (run Pm n) m:=by funext σ h;simp only[Yq]
   rw[this] at q;exact q
 |[m],_::_::_,b,_=>b.2.elim
 |_::_::_,[_],b,_=>b.2.elim
 |m::m'::ms,e::e'::es,b,ht=>by
  have Az:jM m=true/\(m'::ms).all jM=true:=by simpa using ht
  obtain⟨i1,i2⟩:=OC (ms:=m'::ms) (es:=e'::es) (pos:=pos) b.2 Az.2;refine⟨PE.imp (ZcY b.1.2.1 i1) λσ H Q q=>?_,PW.imp (YcU (b.1.2.2 Az.1) i2) λσ H Q q=>?_⟩
  ·obtain⟨μ,h,σs,rel,aI,ra,p⟩:=q;simp only[Yq] at p;refine lE.mk rel aI ra p λx v μ1 h1 H1 ex av aP rv p1=>?_;obtain⟨k,ek,p2⟩:=Po.opt p1;have:=Ck ek;subst this;refine⟨k,sV rv,?_⟩;cases k with
   |true=>exact⟨μ1,h1,σs,av,aP,ra,p2⟩
   |false=>exact p2.now av _ (qy _)
  ·obtain⟨μ,h,σs,rel,aI,ra,p⟩:=q;have p':Po ct E ((gu (qa Pm (run Pm n) m) σs h).bind λk h1=>if k=true then gu (Yq Pm (run Pm n) (m'::ms)) σs h1 else .ok false h1) μ h H (λb _ _ H'=>Q b H'):=by
    simp only[gu,Yq] at p ⊢;cases er:qa Pm (run Pm n) m σs h with
    |stuck=>rw[er] at p;exact p
    |exc c h'=>rw[er] at p;exact p
    |ok x h' =>
     rw[er] at p;simp only[R.aw] at p ⊢;cases eb:YE x with
     |none=>rw[eb] at p;exact p
     |some k =>
      rw[eb] at p;cases k with
      |true=>exact p
      |false=>exact p
   refine lT.mk rel aI ra p' λk μ1 h1 H1 ex av aP p1=>?_;cases k with
   |true=>exact⟨μ1,h1,σs,av,aP,ra,p1⟩
   |false=>exact p1.now av
theorem A8{pos:Pos}:∀{ms:List ME}{es:List Expr},Bo ct X Ra E Pm n ms es->ms.all jM=true->PE X (.BoolOp .Or es pos) (lE ct Ra E (zx Pm (run Pm n) ms))/\PW X (.BoolOp .Or es pos) (lT ct Ra E (gu (zx Pm (run Pm n) ms)))
 |[],[],_,_=>⟨λpins s σ H Q I q=>by
   obtain⟨μ,h,σs,rel,aI,ra,p⟩:=q;simp only[zx] at p;exact p.elim,λwh pins s σ H Q I q=>by
   obtain⟨μ,h,σs,rel,aI,ra,p⟩:=q;simp only[gu,zx] at p;exact p.elim⟩
 |[],_::_,b,_=>b.elim
 |_::_,[],b,_=>b.elim
 |[m],[e],b,ht=>by
  simp at ht;refine⟨PE.imp (NR b.1.2.1) λσ H Q q=>?_,PW.imp (ycQ (b.1.2.2 ht)) λσ H Q q=>?_⟩
  ·simpa only[zx] using q
  ·have:zx Pm (run Pm n) [m]=qa Pm (run Pm n) m:=by funext σ h;simp only[zx]
   rw[this] at q;exact q
 |[m],_::_::_,b,_=>b.2.elim
 |_::_::_,[_],b,_=>b.2.elim
 |m::m'::ms,e::e'::es,b,ht=>by
  have Az:jM m=true/\(m'::ms).all jM=true:=by simpa using ht
  obtain⟨i1,i2⟩:=A8 (ms:=m'::ms) (es:=e'::es) (pos:=pos) b.2 Az.2;refine⟨PE.imp (wO b.1.2.1 i1) λσ H Q q=>?_,PW.imp (wK (b.1.2.2 Az.1) i2) λσ H Q q=>?_⟩
  ·obtain⟨μ,h,σs,rel,aI,ra,p⟩:=q;simp only[zx] at p;refine lE.mk rel aI ra p λx v μ1 h1 H1 ex av aP rv p1=>?_;obtain⟨k,ek,p2⟩:=Po.opt p1;have:=Ck ek;subst this;refine⟨k,sV rv,?_⟩;cases k with
   |false=>exact⟨μ1,h1,σs,av,aP,ra,p2⟩
   |true=>exact p2.now av _ (qy _)
  ·obtain⟨μ,h,σs,rel,aI,ra,p⟩:=q;have p':Po ct E ((gu (qa Pm (run Pm n) m) σs h).bind λk h1=>if k=true then .ok true h1 else gu (zx Pm (run Pm n) (m'::ms)) σs h1) μ h H (λb _ _ H'=>Q b H'):=by
    simp only[gu,zx] at p ⊢;cases er:qa Pm (run Pm n) m σs h with
    |stuck=>rw[er] at p;exact p
    |exc c h'=>rw[er] at p;exact p
    |ok x h' =>
     rw[er] at p;simp only[R.aw] at p ⊢;cases eb:YE x with
     |none=>rw[eb] at p;exact p
     |some k =>
      rw[eb] at p;cases k with
      |true=>exact p
      |false=>exact p
   refine lT.mk rel aI ra p' λk μ1 h1 H1 ex av aP p1=>?_;cases k with
   |false=>exact⟨μ1,h1,σs,av,aP,ra,p1⟩
   |true=>exact p1.now av
section
variable {ea:aL->MH->R MV} {es:List Expr} {ev:aL->MH->R (List MV)} {a:Expr} {pos:Pos}
theorem A6{k:Nat}(ha:PA X es (lA ct Ra E ev))(hl:∀ σ h xs h',ev σ h=.ok xs h'->xs.length<=sizeLine):PE X (.Tuple es k pos) (lE ct Ra E λσ h=>(ev σ h).bind λxs h1=>.ok (yk xs) h1):=PE.imp (ycS ha) λσ H Q q=>by
 obtain⟨μ,h,σs,rel,aI,ra,p⟩:=q;refine⟨μ,h,σs,rel,aI,ra,?_⟩;dsimp only at p;cases er:ev σs h with
 |stuck=>rw[er] at p;exact p
 |exc c h'=>rw[er] at p;exact p
 |ok xs h' =>
  rw[er] at p;intro μ1 H1 ex av vs eO;exact⟨by rw[eO.length];exact hl _ _ _ _ er,ZY av eO (Po.start ex p)⟩
theorem Ba(fz:Bool)(ha:PA X es (lA ct Ra E ev))(hl:∀ σ h xs h',ev σ h=.ok xs h'->xs.length<=sizeLine):PE X (.List es pos) (lE ct Ra E λσ h=>(ev σ h).bind λxs h1=>qo fz xs h1):=PE.imp (YcP ha) λσ H Q q=>by
 obtain⟨μ,h,σs,rel,aI,ra,p⟩:=q;refine⟨μ,h,σs,rel,aI,ra,?_⟩;dsimp only at p;cases er:ev σs h with
 |stuck=>rw[er] at p;exact p
 |exc c h'=>rw[er] at p;exact p
 |ok xs h' =>
  rw[er] at p;intro μ1 H1 ex av vs eO;exact⟨by rw[eO.length];exact hl _ _ _ _ er,Zy av eO (Po.start ex p)⟩
theorem PO.imp{e:Option Expr}{t t':TO}(p:PO X e t)(k:∀ σ H Q,t' σ H Q->t σ H Q):PO X e t':=λpins s σ H Q I h=>p pins s σ H Q I (k σ H Q h)
theorem Ycy(hK:X.K=ct.K)(fz:Bool){lo hi:Option Expr}{el eh:aL->MH->R (Option Int)}{p2:Pos}(ha:PE X a (lE ct Ra E ea))(hl:PO X lo (lO ct Ra E el))(hh:PO X hi (lO ct Ra E eh)) :
  PE X (.Subscript a (.Slice lo hi none p2) pos) (lE ct Ra E λσ h=>(ea σ h).bind λx h1=>(el σ h1).bind λl h2=>(eh σ h2).bind λu h3=>zp fz x l u h3) :=
 PE.imp (zce (ycv (ct:=ct) (E:=E) hK fz) ha hl hh) λσ H Q q=>by
  obtain⟨μ,h,σs,rel,aI,ra,p⟩:=q;refine lE.mk rel aI ra p λm v μ1 h1 H1 ex av aP rv p1=>?_;refine lO.mk av aP ra p1 λl μ2 h2 H2 d0 aU cW p2=>?_;refine lO.mk aU cW ra p2 λu μ3 h3 H3 gG eD mV p3=>?_;exact⟨μ3,h3,m,eD,(rv.ext d0).ext gG,p3⟩
theorem ON{L:af->Prop}{H:Hp}{f:String}:∀{ns:List String}{xs:List FV}{fs:List (Str×V)} {x:FV},fs.map Vt=ns.map kg->fF ct L H xs (fs.map Um)->sE f ns xs=some x->∃ v,fs.lookup (kg f)=some v/\RF ct L H x v
 |[],_,_,_,_,_,e=>by simp[sE] at e
 |_::_,[],_,_,_,_,e=>by simp[sE] at e
 |m::ns,y::xs,fs,x,h1,h2,e=>by
  cases fs with
  |nil=>simp at h1
  |cons p fs =>
   obtain⟨k,u⟩:=p;simp only[Ub,Jl.injEq] at h1;simp only[Ub,fF] at h2;obtain⟨v,r,Aw,r1,r2⟩:=h2;simp only[Jl.injEq] at Aw;obtain⟨rfl,rfl⟩:=Aw;simp only[sE] at e;by_cases hf:f=m
   ·subst hf;simp at e;subst e;exact⟨u,by simp[Wc,h1.1],r1⟩
   ·rw[if_neg hf] at e;obtain⟨w,q1,q2⟩:=ON h1.2 r2 e;refine⟨w,?_,q2⟩;have:(kg f==k)=false:=by
     rw[h1.1];exact beq_false_of_ne λz=>hf (QH z)
    simp[Wc,this,q1]
theorem N5{μ:List af}{L:af->Prop}{H:Hp}{f:String}:∀{fs:List (String×MV)} {gs:List (Str×V)} {m:MV},gs.map Vt=fs.map (λp=>kg p.1)->aD ct μ L H (fs.map Um) (gs.map Um)->fs.lookup f=some m->∃ v,gs.lookup (kg f)=some v/\RV ct μ L H m v
 |[],_,_,_,_,e=>by simp at e
 |(k,y)::fs,gs,m,h1,h2,e=>by
  cases gs with
  |nil=>simp at h1
  |cons p gs =>
   obtain⟨k',u⟩:=p;simp only[Ub,Jl.injEq] at h1;simp only[Ub,aD] at h2;obtain⟨v,r,Aw,r1,r2⟩:=h2;simp only[Jl.injEq] at Aw;obtain⟨rfl,rfl⟩:=Aw;by_cases hf:f=k
   ·subst hf;simp[Wc] at e;subst e;exact⟨u,by simp[Wc,h1.1],r1⟩
   ·have hb:(f==k)=false:=beq_false_of_ne hf;simp[Wc,hb] at e;obtain⟨w,q1,q2⟩:=N5 h1.2 r2 e;refine⟨w,?_,q2⟩;have:(kg f==k')=false:=by
     rw[h1.1];exact beq_false_of_ne λz=>hf (QH z)
    simp[Wc,this,q1]
theorem Rel.obj{μ:List af}{h:MH}{H:Hp}(rel:Rel ct μ h H){i:Nat}{c:String}{fs:List (String×MV)}(e:h[i]?=some (.obj c fs)):∃ b dx gs,μ[i]?=some b/\H b=some (.ins (ct c) dx gs)/\gs.map Vt=fs.map (λp=>kg p.1)/\aD ct μ (a7 μ h) H (fs.map Um) (gs.map Um):=by
 have hi:i<μ.length:=by rw[rel.len];exact(Wa.mp e).1
 obtain⟨dx,gs,q1,q2,q3⟩:=rel.cells i μ[i] _ (by simp[hi]) e;exact⟨_,dx,gs,by simp[hi],q1,q2,q3⟩
set_option tactic.hygienic true in
theorem Bh{f:String}(T:Txt X.prog X.w X.K X.mg X.base Pm ct n)(ha:PE X a (lE ct Ra E ea))(hn:zg a=true):PE X (.Attribute a (kg f) pos) (lE ct Ra E λσ h=>(ea σ h).bind λx h1=>opt (QA Pm.fG f x h1) λv=>.ok v h1) :=
 PE.imp (Af X.K ha (Yu hn)) λσ H Q q=>by
  obtain(⟨μ,h,σs,rel,aI,ra,p⟩):=q;refine lE.mk rel aI ra p λm v μ1 h1 H1 ex av aP rv p1=>?_;obtain(⟨w,e,p2⟩):=Po.opt p1;unfold QA at e;split at e
  next c ns xs =>
   split at e
   next ok =>
    simp only[Wb] at e;obtain(⟨x,e1,rfl⟩):=e;simp only[RV,RF] at rv;obtain(⟨b,dx,fs,rfl,nl,hb,q1,q2⟩):=rv;obtain(⟨u,e2,ru⟩):=ON q1 q2 e1;obtain(⟨t1,t2⟩):=T.fG c f ok;exact⟨b,ct c,dx,fs,u,rfl,hb,t1,t2,e2,p2.now av u (by simp only[RV];exact ru)⟩
   next=>cases e
  next i =>
   split at e
   next c fs ec =>
    split at e
    next ok =>
     simp only[RV] at rv;obtain(⟨b,eb,rfl⟩):=rv;obtain(⟨b',dx,gs,iS,hb,q1,q2⟩):=av.obj ec;rw[eb] at iS;cases iS;obtain(⟨u,e2,ru⟩):=N5 q1 q2 e;obtain(⟨t1,t2⟩):=T.fG c f ok;exact⟨b,ct c,dx,gs,u,rfl,hb,t1,t2,e2,p2.now av u ru⟩
    next=>cases e
   next=>cases e
  next=>cases e
end
end
section
variable {ct:Tx} {X:Cx} {E:XK} {Pm:Prog} {n:Nat} {Ra:L2.St->Prop} {N:List Str} {sc:aA}
section
variable {ea:aL->MH->R MV} {v:Expr} {es:List Expr} {ev:aL->MH->R (List MV)} {a:Expr} {p pos:Pos}
theorem QcS{f:String}{d:aQ}(c:Cc X Pm ct n Ra E N sc)(hd:Pm.defs f=some d)(i8:f.toList.contains '.'=false)(hg:gl sc (kg f)=true)(ha:PA X (v::es) (lA ct Ra E ev))(bE:∀ e∈v::es,ya e=true) :
  PE X (.Call (.Name (kg f) p) (v::es) [] pos) (lE ct Ra E λσ h=>(ev σ h).bind λxs h1=>run Pm n f xs h1):=by
 obtain⟨g1,g2,g3⟩:=Zx c.sc hg;obtain⟨ps,D⟩:=c.txt.defs f d hd i8;intro pins s σ H Q I q;obtain⟨μ,h,σs,rel,aI,ra,p⟩:=q;refine QbO (σ0:=σ) D (c.room.mono (by lia)) g1 (c.FC σ ra) ha g2 (zd (bE v (by simp))) (yu λe he=>bE e (by simp[he])) pins s σ H Q I ⟨rfl,?_⟩;refine lA.mk rel aI ra p λms vs μ1 h1 H1 ex av aP eO p1=>?_;exact⟨μ1,h1,ms,av,by simpa using eO,p1⟩
theorem Qcp{f:String}{ds:List Int}(c:Cc X Pm ct n Ra E N sc)(hd:Pm.nH f ds=true)(hg:gl sc (kg f)=true)(ha:PA X (v::es) (lA ct Ra E ev))(bE:∀ e∈v::es,ya e=true) :
  PE X (.Call (.Name (kg f) p) (v::es) [] pos) (lE ct Ra E λσ h=>(ev σ h).bind λxs h1=>run Pm n f (xs++ds.map λi=>.f (.int i)) h1):=by
 obtain⟨g1,g2,g3⟩:=Zx c.sc hg;obtain⟨ps,fa,fd,dG,F,b,vd,kp,m⟩:=c.txt.nH f ds hd;intro pins s σ H Q I q;obtain⟨μ,h,σs,rel,aI,ra,p⟩:=q;refine KQ (σ0:=σ) F (c.room.mono (by lia)) g1 m kp b vd (c.FC σ ra) ha g2 (zd (bE v (by simp))) (yu λe he=>bE e (by simp[he])) pins s σ H Q I ⟨rfl,?_⟩;refine lA.mk rel aI ra p λms vs μ1 h1 H1 ex av aP eO p1=>?_;exact⟨μ1,h1,ms++ds.map (λi=>.f (.int i)),av,eO.append (zJ ds),p1⟩
theorem QcV(fz:Bool){cn f:String}(c:Cc X Pm ct n Ra E N sc)(hi:Pm.meths cn "__init__"=some f)(hg:gl sc (kg cn)=true)(ha:PA X (v::es) (lA ct Ra E ev))(bE:∀ e∈v::es,ya e=true) :
  PE X (.Call (.Name (kg cn) p) (v::es) [] pos) (lE ct Ra E λσ h=>(ev σ h).bind λxs h1=>ZU Pm (run Pm n) fz cn xs h1):=by
 obtain⟨g1,g2,g3⟩:=Zx c.sc hg;obtain⟨ps,D⟩:=c.txt.lZ cn f hi;intro pins s σ H Q I q;obtain⟨μ,h,σs,rel,aI,ra,p⟩:=q;refine ZbL (σ0:=σ) D c.room g1 (c.FC σ ra) ha g2 (zd (bE v (by simp))) (yu λe he=>bE e (by simp[he])) pins s σ H Q I ⟨rfl,?_⟩;refine lA.mk rel aI ra p λms vs μ1 h1 H1 ex av aP eO p1=>?_;intro x dx hx AN lK;have kQ:upd H1 dx (.own x) x=none:=by rw[yd (Gd lK)];exact hx
 have ig:=Ext.new av AN (.own x);have aU:=av.new AN (.own x);have d0:=Ext.cell aU kQ (.obj cn []) (.ins (ct cn) dx []);have eD:Rel ct (μ1++[x]) (h1++[.obj cn []]) (upd (upd H1 dx (.own x)) x (.ins (ct cn) dx [])):=aU.cell kQ ⟨dx,[],qg,rfl,aD.nil⟩;have gG:=ig.trans d0;refine⟨μ1++[x],h1++[.obj cn []],.ref h1.length::ms,eD,aD.cons ?_ (by simpa using eO.ext gG),?_⟩
 ·simp only[RV];exact⟨x,by rw[<- av.len];simp,rfl⟩
 ·unfold ZU at p1;rw[hi] at p1;dsimp only at p1;cases er:run Pm n f (.ref h1.length::ms) (h1++[.obj cn []]) with
  |stuck=>rw[er] at p1;exact p1.elim
  |exc c h2=>rw[er] at p1;exactλμ2 H2 lr lD=>p1 μ2 H2 (gG.trans lr) lD
  |ok m h2 =>
   rw[er] at p1;simp only[R.aw] at p1;intro μ2 H2 lr lD u ru;have se:Zw m=true:=by
    cases em:Zw m with
    |true=>rfl
    |false=>rw[em] at p1;simp only[if_true] at p1;exact p1.elim
   rw[se] at p1;simp only[WE,if_false] at p1;rw[NQ ru] at se;refine⟨of_decide_eq_true se,?_⟩;have ext:=gG.trans lr;obtain⟨ν,eν⟩:=lr.pre;rw[vk] at eν;subst eν;have kE:(μ1++([x]++ν))[h1.length]?=some x:=by rw[<- av.len];simp
   cases fz with
   |false=>exact p1 _ H2 ext lD _ (by simp only[RV];exact⟨x,kE,rfl⟩)
   |true =>
    dsimp only at p1;split at p1
    next c' fs ec =>
     obtain⟨ys,ey,p4⟩:=Po.opt p1;split at p4
     next t =>
      obtain⟨b,HE,gs,eb,hb,q1,q2⟩:=lD.obj ec;rw[kE] at eb;cases eb;have nx:x∉μ1:=av.fresh hx;refine p4 μ1 H2 (Ext.cut av.len ext) (av.cut t lD) (.ref x) ?_;simp only[RV,RF];refine⟨x,HE,gs,rfl,λl=>?_,hb,?_,?_⟩
      ·obtain⟨i,_,e1,_,_⟩:=l;exact nx (Vb e1)
      ·rw[q1,Xd];rfl
      ·exact fF.to ⟨λ_ _ e _=>e,λb _ _ nl l=>nl (a7.cut av.len l)⟩ (aD.toF ey q2)
     next=>exact p4.elim
    next=>exact p1.elim
theorem sT(fz:Bool){id:String}(c:Cc X Pm ct n Ra E N sc)(hx:id∈cX)(hg:gl sc (kg id)=true)(hb:bw (kg id)=some (.builtin id))(hr:aH X (.builtin id) (rB ct E fz id))(ha:PA X (v::es) (lA ct Ra E ev))(bE:∀ e∈v::es,ya e=true) :
  PE X (.Call (.Name (kg id) p) (v::es) [] pos) (lE ct Ra E λσ h=>(ev σ h).bind λxs h1=>Qw fz id xs h1):=by
 obtain⟨g1,g2,g3⟩:=Zx c.sc hg;have hm:=c.txt.fE id (by simp[hx]);refine PE.imp (YN hr g1 hm hb ha g3 g2 (zd (bE v (by simp))) (yu λe he=>bE e (by simp[he]))) λσ H Q q=>?_;obtain⟨μ,h,σs,rel,aI,ra,p⟩:=q;exact lA.mk rel aI ra p λms vs μ1 h1 H1 ex av aP eO p1=>⟨μ1,h1,ms,av,eO,p1⟩
theorem Pt(fz:Bool){id:String}(c:Cc X Pm ct n Ra E N sc)(hx:id∈dA)(hg:gl sc (kg id)=true)(hb:bw (kg id)=some (.type id))(hr:aH X (.type id) (rB ct E fz id))(ha:PA X (v::es) (lA ct Ra E ev))(bE:∀ e∈v::es,ya e=true) :
  PE X (.Call (.Name (kg id) p) (v::es) [] pos) (lE ct Ra E λσ h=>(ev σ h).bind λxs h1=>Qw fz id xs h1):=by
 obtain⟨g1,g2,g3⟩:=Zx c.sc hg;have hm:=c.txt.fE id (by simp[hx]);refine PE.imp (zG hr g1 hm hb ha g3 g2 (zd (bE v (by simp))) (yu λe he=>bE e (by simp[he]))) λσ H Q q=>?_;obtain⟨μ,h,σs,rel,aI,ra,p⟩:=q;exact lA.mk rel aI ra p λms vs μ1 h1 H1 ex av aP eO p1=>⟨μ1,h1,ms,av,eO,p1⟩
theorem Bj(fz:Bool){id:String}(c:Cc X Pm ct n Ra E N sc)(hx:id∈cX\/id∈dA)(hg:gl sc (kg id)=true)(ha:PA X (v::es) (lA ct Ra E ev))(bE:∀ e∈v::es,ya e=true) :
  PE X (.Call (.Name (kg id) p) (v::es) [] pos) (lE ct Ra E λσ h=>(ev σ h).bind λxs h1=>Qw fz id xs h1):=by
 rcases hx with hx|hx
 ·have kQ:=hx;simp only[cX,ua,uc,or_false] at kQ
  rcases kQ with rfl|rfl|rfl|rfl|rfl|rfl
  ·exact sT fz c hx hg (by decide +kernel) (ZcQ c.hK fz) ha bE
  ·exact sT fz c hx hg (by decide +kernel) (qcH c.hK fz c.calm) ha bE
  ·exact sT fz c hx hg (by decide +kernel) (ycZ c.hK fz c.calm) ha bE
  ·exact sT fz c hx hg (by decide +kernel) (QcN c.hK fz c.calm) ha bE
  ·exact sT fz c hx hg (by decide +kernel) (QcU c.hK fz c.calm) ha bE
  ·exact sT fz c hx hg (by decide +kernel) (QcP fz) ha bE
 ·have kQ:=hx;simp only[dA,ua,uc,or_false] at kQ
  rcases kQ with rfl|rfl
  ·exact Pt fz c hx hg (by decide +kernel) (Qcb c.hK fz) ha bE
  ·exact Pt fz c hx hg (by decide +kernel) (qcr c.hK fz) ha bE
theorem Qb0{t:String}(h:t∈aX):bw (kg t)=some (.type t):=by
 simp only[aX,ua,uc,or_false] at h
 rcases h with rfl|rfl|rfl|rfl|rfl|rfl <;> decide +kernel
end
end
noncomputable def bb(T U:String):Bool:=decide (U=T)||(decide (T="bool")&&decide (U="int"))
theorem YcK{K:gc}{T U:String}(h:T∈["NoneType","bool","int","str","list","tuple"])(h':U∈aX):Vg K (.type T) (.type U)=some (bb T U):=by
 simp only[aX,ua,uc,or_false] at h h'
 rcases h with rfl|rfl|rfl|rfl|rfl|rfl <;> rcases h' with rfl|rfl|rfl|rfl|rfl|rfl <;> rfl
section
variable {ct:Tx} {X:Cx} {E:XK} {Pm:Prog} {n:Nat} {Ra:L2.St->Prop} {N:List Str} {sc:aA}
noncomputable def QM(h:MH):MV->Option String
 |.f .a9=>some "NoneType"
 |.f (.bl _)=>some "bool"
 |.f (.int _)=>some "int"
 |.f (.str _)=>some "str"
 |.f (.tup _)=>some "tuple"
 |.f (.lst _)=>some "list"
 |.tup _=>some "tuple"
 |.ref a=>match h[a]? with
  |some (.lst _)=>some "list"
  |_=>none
 |_=>none
theorem L1{h:MH}{m:MV}{T:String}(e:QM h m=some T):T∈["NoneType","bool","int","str","list","tuple"]:=by
 unfold QM at e;split at e
 all_goals first|(cases e;simp;done)|skip
 ·split at e
  next=>cases e;simp
  next=>cases e
 ·cases e
set_option tactic.hygienic true in
theorem Zcx{K:gc}{μ:List af}{h:MH}{H:Hp}{m:MV}{v:V}{T:String}(rel:Rel ct μ h H)(e:QM h m=some T)(r:RV ct μ (a7 μ h) H m v):gS K H v (.type T):=by
 unfold QM at e;split at e
 next=>cases e;simp only[RV,RF] at r;subst r;exact .a9
 next=>cases e;simp only[RV,RF] at r;subst r;exact .bl _
 next=>cases e;simp only[RV,RF] at r;subst r;exact .int _
 next=>cases e;simp only[RV,RF] at r;subst r;exact .str _
 next=>cases e;simp only[RV,RF] at r;obtain(⟨_,_,rfl,_,hb,_⟩):=r;exact .tup hb
 next =>
  cases e;simp only[RV,RF] at r;obtain(⟨_,_,rfl,_,hb,_⟩):=r
  rcases hb with hb|⟨o,hb⟩
  ·exact .lst hb
  ·exact .eI hb
 next=>cases e;simp only[RV] at r;obtain(⟨_,_,rfl,_,hb,_⟩):=r;exact .tup hb
 next i =>
  split at e
  next xs q =>
   cases e;simp only[RV] at r;obtain(⟨b,eb,rfl⟩):=r;obtain(⟨b',vs,iS,hb,_⟩):=rel.lst (show Zd h i=some xs by unfold Zd;rw[q]);rw[eb] at iS;cases iS;exact .lst hb
  next=>cases e
 next=>cases e
set_option tactic.hygienic true in
theorem qcm{subs:String->String->Option Bool}{h:MH}{m:MV}{t T:String}{b:Bool}(e:QM h m=some T)(q:zW subs h m t=some b)(hn:t≠"NoneType"):b=bb T t:=by
 unfold QM at e;split at e
 next=>cases e;cases q;simp[bb,hn]
 next=>cases e;cases q;simp[bb]
 next=>cases e;cases q;simp[bb]
 next=>cases e;cases q;simp[bb]
 next=>cases e;cases q;simp[bb]
 next=>cases e;cases q;simp[bb]
 next=>cases e;cases q;simp[bb]
 next i =>
  split at e
  next xs w =>
   cases e;simp only[zW,w,gb.injEq] at q;rw[<- q];simp[bb]
  next=>cases e
 next=>cases e
set_option tactic.hygienic true in
theorem ycX{μ:List af}{h:MH}{H:Hp}{m:MV}{v:V}{t:String}{b:Bool}(T:Txt X.prog X.w X.K X.mg X.base Pm ct n)(rel:Rel ct μ h H)(r:RV ct μ (a7 μ h) H m v)(q:zW Pm.subs h m t=some b)(ht:aX.contains t=true\/(Pm.subs t t).isSome=true) :
  ∃ tv,gS X.K H v tv/\Vg X.K tv (if aX.contains t=true then .type t else .ref (ct t))=some b:=by
 cases ek:QM h m with
 |some Tn =>
  refine⟨.type Tn,Zcx rel ek r,?_⟩;by_cases hb:aX.contains t=true
  ·rw[if_pos hb];have hm:t∈aX:=by simpa using hb
   have hn:t≠"NoneType":=by
    rintro rfl;simp[aX] at hm
   rw[qcm ek q hn];exact YcK (L1 ek) hm
  ·rw[if_neg hb];have AW:aX.contains t=false:=by simpa using hb
   obtain⟨b0,e0⟩:=um.mp (ht.resolve_left hb);have hk:=T.B9 t t b0 e0 AW Tn (L1 ek);rw[hk];have hm:t∉aX:=by simpa using AW
   simp only[aX,ua,uc,or_false,not_or] at hm;unfold QM at ek;split at ek
   next=>cases ek;cases q;rfl
   next=>cases ek;cases q;simp[hm]
   next=>cases ek;cases q;simp[hm]
   next=>cases ek;cases q;simp[hm]
   next=>cases ek;cases q;simp[hm]
   next=>cases ek;cases q;simp[hm]
   next=>cases ek;cases q;simp[hm]
   next i =>
    split at ek
    next xs w =>
     simp only[zW,w,gb.injEq] at q;rw[<- q];simp[hm]
    next=>cases ek
   next=>cases ek
 |none =>
  have obj:∃ c a dx fs,v=.ref a/\H a=some (.ins (ct c) dx fs)/\Pm.subs c t=some b:=by
   cases m with
   |f x =>
    cases x with
    |obj c ns vs =>
     simp only[RV,RF] at r;obtain⟨a,dx,fs,rfl,_,hb,_⟩:=r;exact⟨c,a,dx,fs,rfl,hb,q⟩
    |eC _=>cases q
    |tab _=>cases q
    |jN _=>cases q
    |_=>simp[QM] at ek
   |tup _=>simp[QM] at ek
   |exc _=>cases q
   |ref i =>
    simp only[zW] at q;split at q
    next xs w=>simp[QM,w] at ek
    next c fs w =>
     obtain⟨a,dx,gs,ea,hb,_⟩:=rel.obj w;simp only[RV] at r;obtain⟨a',NJ,rfl⟩:=r;rw[ea] at NJ;cases NJ;exact⟨c,a,dx,gs,rfl,hb,q⟩
    next=>cases q
  obtain⟨c,a,dx,fs,rfl,hb,q⟩:=obj;have C:=T.cls c t b q;refine⟨.ref (ct c),.ins hb C.cl C.ha C.hn C.tk C.hm,?_⟩;by_cases hb:aX.contains t=true
  ·rw[if_pos hb];exact T.ow c t b q hb
  ·rw[if_neg hb];exact(T.mT c t b q (by simpa using hb)).2
section
variable {ea:aL->MH->R MV} {v:Expr} {es:List Expr} {ev:aL->MH->R (List MV)} {a:Expr} {p p2 pos:Pos}
theorem Bd{t:String}(c:Cc X Pm ct n Ra E N sc)(ht:aX.contains t=true\/(Pm.subs t t).isSome=true)(hg:gl sc "isinstance"=true)(hgt:gl sc (kg t)=true)(ha:PE X a (lE ct Ra E ea))(hp:ya a=true) :
  PE X (.Call (.Name "isinstance" p) [a,.Name (kg t) p2] [] pos) (lE ct Ra E λσ h=>(ea σ h).bind λx h1=>opt (zW Pm.subs h1 x t) λk=>.ok (.f (.bl k)) h1):=by
 obtain⟨g1,g2,g3⟩:=Zx c.sc hg;obtain⟨k1,k2,k3⟩:=Zx c.sc hgt;have hm:X.mg "isinstance"=none:=c.txt.fE "isinstance" (by simp);have tyE:∃ cv,sv cv=some (if aX.contains t=true then .type t else .ref (ct t))/\PE X (.Name (kg t) p2) (tC cv):=by
  by_cases hb:aX.contains t=true
  ·rw[if_pos hb];have tx:t∈aX:=by simpa using hb
   exact⟨.ty t,rfl,ycw (v:=.ty t) k1 (c.txt.fE t (by simp[tx])) (Qb0 tx) rfl k3 k2⟩
  ·rw[if_neg hb];obtain⟨b0,e0⟩:=um.mp (ht.resolve_left hb);exact⟨.ref (ct t),rfl,Ek (v:=.ref (ct t)) k1 (c.txt.mT t t b0 e0 (by simpa using hb)).1 rfl k2⟩
 obtain⟨cv,ecv,pe⟩:=tyE;refine PE.imp (YN (Ae X.K) g1 hm boot_isinstance (zt ha (zt pe yE (by rfl)) (zd hp)) g3 g2 (zd hp) (by rfl)) λσ H Q q=>?_;obtain⟨μ,h,σs,rel,aI,ra,p⟩:=q;refine lE.mk rel aI ra p λm w μ1 h1 H1 ex av aP rv p1=>?_;obtain⟨k,e,p2⟩:=Po.opt p1;obtain⟨tv,ty,kit⟩:=ycX c.txt av rv e ht;exact⟨w,cv,tv,_,k,rfl,ecv,ty,kit,p2.now av _ (qy _)⟩
theorem JW{K:gc}{mo:MV}{xs:List MV}{μ:List af}{h:MH}{H:Hp}{x:V}(rel:Rel ct μ h H)(r:RV ct μ (a7 μ h) H mo x)(e:xW mo h=some xs):B8 K "list" x H:=by
 cases mo with
 |ref i =>
  obtain⟨b,vs,e1,e2,q⟩:=rel.lst (show Zd h i=some xs from e);simp only[RV] at r;obtain⟨b',e3,rfl⟩:=r;rw[e1] at e3;cases e3;exact .inl ⟨rfl,vs,gz.of e2⟩
 |f _=>cases e
 |tup _=>cases e
 |exc _=>cases e
theorem yP{env : Env}{cp : Pos}{es : List Expr}(h : ∀ e∈es, ya e=true)(hl : es.length<30) : ((bV cp (au es env)).all (λx => !x.1)&&(jz cp (fK [] env)).all (λx => x.1.isSome)
   && decide (es.length+([]:List ip).length+(if([]:List ip).isEmpty then 0 else 1)<30))=true:=by
 rw[Zf h];have h1:(bV cp (es.map λe=>(false,eval e env))).all (λx=>!x.1)=true:=by
  unfold bV;rw[Xd,List.all_map]
  induction es with
  |nil=>rfl
  |cons e es ih=>simp[xC]
 rw[h1];simp[fK,jz];exact hl
theorem NU{m id:String}{ap cp:Pos}(slot:Slot "list" (kg m) id)(rY:typeOf (.builtin id)=pure (.type "method_descriptor"))(hr:mE X id (vX ct E m))(ho:PE X a (lE ct Ra E ea))(hn:zg a=true)(ha:PA X (v::es) (lA ct Ra E ev))(bE:∀ e∈v::es,ya e=true)
  (hl:(v::es).length<30) (eQ:(ap.endLine==cp.line)=true):PE X (.Call (.Attribute a (kg m) ap) (v::es) [] cp) (lE ct Ra E λσ h=>(ea σ h).bind λx h1=>opt (xW x h1) λ_=>(ev σ h1).bind λxs h2=>mq m x xs h2) :=
 PE.imp (NW Gh slot rY hr ho ha (Yu hn) (yP bE hl) eQ (zd (bE v (by simp))) (yu λe he=>bE e (by simp[he]))) λσ H Q q=>by
  obtain⟨μ,h,σs,rel,aI,ra,p⟩:=q;refine lE.mk rel aI ra p λm' w μ1 h1 H1 ex av aP rv p1=>?_;obtain⟨xs,ig,p2⟩:=Po.opt p1;refine⟨JW av rv ig,?_⟩;exact lA.mk av aP ra p2 λms vs μ2 h2 H2 d0 aU cW eO p3=>⟨μ2,h2,m',ms,aU,rv.ext d0,eO,p3⟩
theorem Bb{m id:String}{ap cp:Pos}(slot:Slot "list" (kg m) id)(rY:typeOf (.builtin id)=pure (.type "method_descriptor"))(hr:mE X id (vX ct E m))(ho:PE X a (lE ct Ra E ea))(hn:zg a=true)
  (eQ:(ap.endLine==cp.line)=true):PE X (.Call (.Attribute a (kg m) ap) [] [] cp) (lE ct Ra E λσ h=>(ea σ h).bind λx h1=>opt (xW x h1) λ_=>(R.ok [] h1).bind λxs h2=>mq m x xs h2) :=
 PE.imp (qcS Gh slot rY hr ho (Yu hn) eQ) λσ H Q q=>by
  obtain⟨μ,h,σs,rel,aI,ra,p⟩:=q;refine lE.mk rel aI ra p λm' w μ1 h1 H1 ex av aP rv p1=>?_;obtain⟨xs,ig,p2⟩:=Po.opt p1;exact⟨JW av rv ig,μ1,h1,m',[],av,rv,aD.nil,p2⟩
set_option tactic.hygienic true in
theorem zX{h:MH}{v:MV}{ks:List Int}(e:pB h v=some ks):∃ i,v=.ref i/\h[i]?=some (.iQ ks):=by
 cases v with
 |ref i =>
  simp only[pB] at e;split at e
  next ks' w=>cases e;exact⟨i,rfl,w⟩
  next=>cases e
 |f _=>cases e
 |tup _=>cases e
 |exc _=>cases e
noncomputable abbrev nI(ks:List Int):List (Key×V):=ks.map λk=>((Jb k:Key),V.bl true)
theorem Fx(ks:List Int)(k:Int):YL (nI ks) (Jb k:Key) (V.bl true)=nI (Yt ks k):=by
 unfold YL Yt nI;have e:((ks.map λk=>((Jb k:Key),V.bl true)).any λkv=>decide (kv.1=Jb k))=decide (k∈ks):=by
  rw[wE]
  induction ks with
  |nil=>rfl
  |cons a ks ih =>
   rw[xr,ih];by_cases h:a=k
   ·subst h;simp
   ·have h':¬ k=a:=λz=>h z.symm;simp[h,h']
 rw[e];by_cases h:k∈ks
 ·simp only[h,decide_true,if_true,Xd];refine Vs λa _=>?_;simp only[xC];split <;> rfl
 ·simp[h]
theorem zcn{b:Expr}{eb:aL->MH->R MV}{k1 k2:Nat}(ha:PE X a (lE ct Ra E ea))(hb:PE X b (lE ct Ra E eb)) :
  PE X (.Dict [some a,some b] [.Constant (.bool true) k1 p,.Constant (.bool true) k2 p2] pos) (lE ct Ra E λσ h=>(ea σ (h++[.iQ []])).bind λx h1=>(eb σ h1).bind λy h2=>iI h.length x y h2):=by
 refine PE.imp (zcz (Ln ha Dt (Ln hb Dt Zcw)) rfl rfl (by simp) (by simp)) λσ H Q q d hd=>?_;obtain⟨μ,h,σs,rel,aI,ra,pp⟩:=q;have ND:=Ext.cell rel hd (.iQ []) (.dK []);have E2:Rel ct (μ++[d]) (h++[.iQ []]) (upd H d (.dK [])):=rel.cell hd qg;refine lE.mk E2 (aI.ext ND) ra (Po.start ND pp) λm w μ1 h1 H1 ig av aP lY p1=>?_;refine lE.mk av aP ra p1 λm2 w2 μ2 h2 H2 d0 aU cW hX p2=>?_;obtain⟨i,e1,p3⟩:=Po.opt p2;obtain⟨j,e2,p4⟩:=Po.opt p3;obtain⟨ks,e3,p5⟩:=Po.opt p4;split at p5
 next hk =>
  subst hk;obtain⟨i',ei,hc⟩:=zX e3;cases ei;have:=Ze e1;subst this;have:=Ze e2;subst this;have hm:μ2[h.length]?=some d:=by
   obtain⟨ν,e⟩:=ig.pre;obtain⟨ν',e'⟩:=d0.pre;rw[e',e,<- rel.len];simp
  have hH:H2 d=some (.dK []):=aU.cells _ _ _ hm hc;refine⟨hH,[((Jb i:Key),V.bl true),((Jb j:Key),V.bl true)],?_,by simp,?_⟩
  ·rw[Yi (lY.ext d0),Yi hX];rfl
  ·have gG:=Ext.set (H:=H2) aU hm hc (λz=>nomatch z) (.iQ (Yt (Yt [] i) j)) (.dK (nI (Yt (Yt [] i) j)));have e4:sR [] [((Jb i:Key),V.bl true),((Jb j:Key),V.bl true)]=nI (Yt (Yt [] i) j):=by
    rw[<- Fx,<- Fx];rfl
   rw[e4];exact p5 μ2 _ gG (aU.set hm hc (λz=>nomatch z) qg) (.ref d) (by simp only[RV];exact⟨d,hm,rfl⟩)
 next=>exact p5.elim
theorem ycY{p3 p4:Pos}(c:Cc X Pm ct n Ra E N sc)(hg:gl sc "sorted"=true)(Nj:gl sc "list"=true)(ha:PE X a (lE ct Ra E ea))(hp:ya a=true) :
  PE X (.Call (.Name "sorted" p) [.Call (.Name "list" p2) [a] [] p3] [] pos) (lE ct Ra E λσ h=>(ea σ h).bind λx h1=>kJ x h1):=by
 obtain⟨g1,g2,g3⟩:=Zx c.sc hg;obtain⟨k1,k2,k3⟩:=Zx c.sc Nj;have hm:X.mg "sorted"=none:=c.txt.fE "sorted" (by simp);have tx:X.mg "list"=none:=c.txt.fE "list" (by simp[dA,aX]);refine PE.imp (YN Qbd g1 hm (by decide +kernel) (zt (zG (zbn c.calm) k1 tx (by decide +kernel) (zt ha yE (zd hp)) k3 k2 (zd hp) (by rfl)) yE (by rfl)) g3 g2 (by rfl) (by rfl)) λσ H Q q=>?_;obtain⟨μ,h,σs,rel,aI,ra,pp⟩:=q;refine lE.mk rel aI ra pp λm w μ1 h1 H1 ex av aP rv p1=>?_;obtain⟨ks,e,p2⟩:=Po.opt p1;split at p2
 next hk =>
  obtain⟨i,rfl,hc⟩:=zX e;simp only[RV] at rv;obtain⟨b,eb,rfl⟩:=rv;have hH:H1 b=some (.dK (nI ks)):=av.cells _ _ _ eb hc;refine⟨b,nI ks,rfl,hH,λl hl=>?_⟩;refine⟨l,ks,rfl,gz.of (by rw[qg,Xd];rfl),hk,λni pm pw l' oR=>?_⟩;have:=Yb8 pm pw;subst this;have d0:=Ext.new av hl (.lst ((nI ks).map λkv=>L2.kV kv.1));have aU:=av.new hl (.lst ((nI ks).map λkv=>L2.kV kv.1));exact Zy (fz:=false) aU (zJ _) (Po.start d0 p2) l' oR
 next=>exact p2.elim
noncomputable abbrev kP(k:Int×Int):List Key:=[Jb k.1,Jb k.2]
set_option tactic.hygienic true in
theorem Qco{μ:List af}{L:af->Prop}{H:Hp}{y:MV}{v:V}{k:Int×Int}(r:RV ct μ L H y v)(e:B6 y=some k):∃ p,v=.ref p/\¬ L p/\H p=some (.tup ((kP k).map L2.kV)):=by
 unfold B6 at e;split at e
 next a b w =>
  cases e;cases y with
  |f x =>
   cases x with
   |tup xs =>
    simp only[zq,gb.injEq] at w
    rcases xs with _|⟨x,_|⟨y,_|⟨z,zs⟩⟩⟩ <;> simp at w
    obtain⟨rfl,rfl⟩:=w;simp only[RV,RF,fF] at r;obtain⟨p,vs,rfl,n,hp,v1,r1,rfl,rfl,v2,r2,rfl,rfl,rfl⟩:=r;exact⟨p,rfl,n,hp⟩
   |_=>simp[zq] at w
  |tup xs =>
   simp only[zq,gb.injEq] at w;subst w;simp only[RV,aD,RF] at r;obtain⟨p,vs,rfl,n,hp,v1,r1,rfl,rfl,v2,r2,rfl,rfl,rfl⟩:=r;exact⟨p,rfl,n,hp⟩
  |ref _=>simp[zq] at w
  |exc _=>simp[zq] at w
 next=>cases e
set_option tactic.hygienic true in
theorem Zcv(fz:Bool){cn:String}(c:Cc X Pm ct n Ra E N sc)(hk:Pm.nX cn=true)(hi:Pm.meths cn "__init__"=none)(hg:gl sc (kg cn)=true) :
  PE X (.Call (.Name (kg cn) p) [] [] pos) (lE ct Ra E λσ h=>(R.ok [] h).bind λxs h1=>ZU Pm (run Pm n) fz cn xs h1):=by
 obtain⟨g1,g2,g3⟩:=Zx c.sc hg;obtain⟨M,mg⟩:=c.txt.nX cn hk;refine PE.imp (QbK M g1 mg g2) λσ H Q q=>?_;obtain⟨μ,h,σs,av,aI,ra,p1⟩:=q;intro x dx hx AN lK;have kQ:upd H dx (.own x) x=none:=by rw[yd (Gd lK)];exact hx
 have ig:=Ext.new av AN (.own x);have aU:=av.new AN (.own x);have d0:=Ext.cell aU kQ (.obj cn []) (.ins (ct cn) dx []);have eD:Rel ct (μ++[x]) (h++[.obj cn []]) (upd (upd H dx (.own x)) x (.ins (ct cn) dx [])):=aU.cell kQ ⟨dx,[],qg,rfl,aD.nil⟩;have ext:=ig.trans d0;have kE:(μ++[x])[h.length]?=some x:=by rw[<- av.len];simp
 have p2:Po ct E (ZU Pm (run Pm n) fz cn [] h) μ h H (λm μ' h' H'=>∀ v,RV ct μ' (a7 μ' h') H' m v->Q v H'):=p1;unfold ZU at p2;rw[hi] at p2;simp only[R.aw,ZbG,WE,if_false] at p2;cases fz with
 |false=>exact p2 _ _ ext eD _ (by simp only[RV];exact⟨x,kE,rfl⟩)
 |true =>
  dsimp only at p2;split at p2
  next c' fs ec =>
   obtain⟨ys,ey,p4⟩:=Po.opt p2;split at p4
   next t =>
    obtain⟨b,HE,gs,eb,hb,q1,q2⟩:=eD.obj ec;rw[kE] at eb;cases eb;have nx:x∉μ:=av.fresh hx;refine p4 μ _ (Ext.cut av.len ext) (av.cut t eD) (.ref x) ?_;simp only[RV,RF];refine⟨x,HE,gs,rfl,λl=>?_,hb,?_,?_⟩
    ·obtain⟨i,_,e1,_,_⟩:=l;exact nx (Vb e1)
    ·rw[q1,Xd];rfl
    ·exact fF.to ⟨λ_ _ e _=>e,λb _ _ nl l=>nl (a7.cut av.len l)⟩ (aD.toF ey q2)
   next=>exact p4.elim
  next=>exact p2.elim
theorem ycG{g:String}{i:Int}(c:Cc X Pm ct n Ra E N sc)(hv:Pm.bO g=some (.int i))(hg:gl sc (kg g)=true):PE X (.Name (kg g) pos) (lE ct Ra E λσ h=>opt (Pm.bO g) λv=>.ok (.f v) h):=by
 obtain⟨g1,g2,g3⟩:=Zx c.sc hg;obtain⟨t,mg⟩:=c.txt.bO g _ hv;refine PE.imp (Ek (v:=.int i) g1 mg ⟨t,rfl⟩ g2) λσ H Q q=>?_;obtain⟨μ,h,σs,rel,aI,ra,p⟩:=q;simp only[hv,Qd] at p;exact p.now rel _ (Yn _)
theorem Zcu{g:String}{z:Str}(c:Cc X Pm ct n Ra E N sc)(hv:Pm.bO g=some (.str z))(hg:gl sc (kg g)=true):PE X (.Name (kg g) pos) (lE ct Ra E λσ h=>opt (Pm.bO g) λv=>.ok (.f v) h):=by
 obtain⟨g1,g2,g3⟩:=Zx c.sc hg;obtain⟨t,mg⟩:=c.txt.bO g _ hv;refine PE.imp (Ek (v:=.str z) g1 mg ⟨t,rfl⟩ g2) λσ H Q q=>?_;obtain⟨μ,h,σs,rel,aI,ra,p⟩:=q;simp only[hv,Qd] at p;exact p.now rel _ (QW _)
theorem Po.calm{α:Type}{r:R α}{μ:List af}{h:MH}{H:Hp}{k:α->List af->MH->Hp->Prop}(p:Po ct E (MP.calm r) μ h H k):Po ct E0 r μ h H k:=by
 cases r with
 |ok x h'=>exact p
 |exc c h'=>exact p.elim
 |stuck=>exact p.elim
theorem mR.imp{ifs:List Expr}{t t':TT}(p:mR X ifs t)(k:∀ σ H Q,t' σ H Q->t σ H Q):mR X ifs t':=λpins s σ H Q I h=>p pins s σ H Q I (k σ H Q h)
theorem QbM{μ:List af}{h:MH}{H:Hp}{σ:L2.St}{σs:aL}(bW:Nat)(js:List Nat)(r:aY ct μ h H σ σs):aY ct μ h H (stC bW js σ) (stM bW js σs):=by
 refine⟨by simp[L3.stC,MP.stM],λi m e=>?_⟩;unfold MP.stM at e;by_cases hi:i<bW
 ·rw[ub (by simpa using hi),Uk,if_pos hi] at e;cases e
 ·rw[Vc (by simpa using hi),Vn,Ua] at e;cases ej:js[i-bW]? with
  |none=>rw[ej] at e;cases e
  |some j =>
   rw[ej] at e;simp only[Xf,gb.injEq] at e;have e':σs[j]?=some (some m):=by
    cases q:σs[j]? with
    |none=>rw[q] at e;cases e
    |some z=>rw[q] at e;exact congrArg some e
   obtain⟨v,ev,rv⟩:=r.at_ j m e';refine⟨v,?_,rv⟩;unfold L3.stC;rw[Vc (by simpa using hi),Vn,Ua,ej];simp[ev]
theorem Lf(fz:Bool){bW:Nat}{js:List Nat}{it:String}{t:Tg}{es:aL->MH->R (List MV)}{tc:aL->MH->R Bool}{te:aL->MH->R MV}(σ:L2.St)(H:Hp)(Q:VK)
  (q:lE ct Ra E (λσ h=>(es σ h).bind λxs h1=>opt (iB it xs h1) λp=>(Qj p.2 (zh t tc te) p.1 [] (MP.stM bW js σ) h1).bind λacc h3=>qo fz acc h3) σ H Q) :
  Iu (lI ct Ra E es it) bW js (lG ct t) (lT ct (λ_=>True) E0 tc) (lE ct (λ_=>True) E0 te) σ H Q:=by
 obtain⟨μ,h,σs,rel,aI,ra,p⟩:=q;refine⟨μ,h,σs,rel,aI,ra,(Po.bind p).imp λxs μ1 h1 H1 ⟨ig,av,p1⟩=>?_⟩;obtain⟨⟨items,g⟩,e1,p2⟩:=Po.opt p1;refine⟨items,g,e1,av,λJ wk=>?_⟩;dsimp only at p2;refine⟨λi m acc σ' H'=>∃ μ' h' σs' kN,m=items.length-i/\i<=items.length/\Ext μ1 h1 H1 μ' h' H'/\Rel ct μ' h' H'/\aY ct μ' h' H' σ' σs'/\aD ct μ' (a7 μ' h') H' kN acc /\
  Po ct E ((Qj g (zh t tc te) (items.drop i) kN σs' h').bind λacc h3=>qo fz acc h3) μ' h' H' (kV ct Q),?_,?_⟩
 ·exact⟨items.length,μ1,h1,stM bW js σs,[],by simp,Xq _,Ext.refl _ _ _,av,QbM bW js (aI.ext ig),aD.nil,by simpa using p2⟩
 ·rintro i m acc σ' H' ⟨μ',h',σs',kN,rfl,kG,ex,aZ,kK,oB,p3⟩;by_cases lt:i<items.length
  ·right
   have ed:items.drop i=items[i]::items.drop (i+1):=Xz lt;rw[ed] at p3;simp only[Qj] at p3;split at p3
   next gd =>
    obtain⟨w1,_⟩:=wk i μ' h' H' ex aZ gd.1;obtain⟨go,yl⟩:=w1 lt;refine⟨go,λx H2 y=>?_⟩;obtain⟨mx,em,d0,aU,rx⟩:=yl x H2 y;have HB:mx=items[i]:=by simpa[lt] using em.symm
    subst HB;have p4:=Po.start d0 p3;unfold zh at p4;cases eb:ZC t items[i] σs' with
    |none=>rw[eb] at p4;exact p4.elim
    |some σ2s =>
     rw[eb] at p4;simp only[Qd] at p4;refine⟨μ',h',σs',items[i],σ2s,aU,kK.ext d0,rx,eb,λσ2 cW=>?_⟩;have p5:Po ct E ((MP.calm (tc σ2s h')).bind λk h2=>(if k=true then(MP.calm (te σ2s h2)).bind λy h3=>R.ok (some y,σ2s) h3 else R.ok (none,σ2s) h2).bind λp h1=>(Qj g (zh t tc te) (items.drop (i+1)) (match p.1 with|some y=>kN++[y]|none=>kN) p.2 h1).bind λacc h3=>qo fz acc h3) μ' h' H2 (kV ct Q):=by
      cases er:MP.calm (tc σ2s h') with
      |stuck=>rw[er] at p4;exact p4
      |exc c tI=>rw[er] at p4;exact p4
      |ok k tI =>
       rw[er] at p4;simp only[R.aw] at p4 ⊢;cases k with
       |false=>exact p4
       |true =>
        simp only[if_true] at p4 ⊢;cases o7:MP.calm (te σ2s tI) with
        |stuck=>rw[o7] at p4;exact p4
        |exc c h3=>rw[o7] at p4;exact p4
        |ok y h3=>rw[o7] at p4;exact p4
     refine⟨μ',h',σ2s,aU,cW,trivial,Po.calm ((Po.bind p5).imp λk μ3 h3 H3 ⟨gG,eD,p6⟩=>?_)⟩;cases k with
     |false =>
      simp only[Wg,if_false,R.aw] at p6 ⊢;exact⟨items.length-(i+1),by lia,μ3,h3,σ2s,kN,rfl,lt,(ex.trans d0).trans gG,eD,cW.ext gG,(oB.ext d0).ext gG,p6⟩
     |true =>
      simp only[if_true] at p6 ⊢;have p7:Po ct E ((MP.calm (te σ2s h3)).bind λy h4=>(Qj g (zh t tc te) (items.drop (i+1)) (kN++[y]) σ2s h4).bind λacc h5=>qo fz acc h5) μ3 h3 H3 (kV ct Q):=by
       cases o7:MP.calm (te σ2s h3) with
       |stuck=>rw[o7] at p6;exact p6
       |exc c h4=>rw[o7] at p6;exact p6
       |ok y h4=>rw[o7] at p6;exact p6
      refine⟨μ3,h3,σ2s,eD,cW.ext gG,trivial,Po.calm ((Po.bind p7).imp λy μ4 h4 H4 ⟨lr,lD,p8⟩ w rw_=>?_)⟩;refine⟨by rw[oB.length];exact Uc gd.2 YF,items.length-(i+1),by lia,μ4,h4,σ2s,kN++[y],rfl,lt,((ex.trans d0).trans gG).trans lr,lD,(cW.ext gG).ext lr,?_,p8⟩;exact(((oB.ext d0).ext gG).ext lr).append (aD.cons rw_ aD.nil)
   next=>exact p3.elim
  ·left
   have tD:i=items.length:=by lia
   subst tD;rw[wG] at p3;simp only[Qj] at p3;split at p3
   next gd =>
    obtain⟨_,w2⟩:=wk items.length μ' h' H' ex aZ gd;exact⟨w2 rfl,λD hD=>Zy aZ oB p3 D hD⟩
   next=>exact p3.elim
theorem YcI(fz:Bool){elt iter tg:Expr}{ifs:List Expr}{cs:aA}{N':List Str}{bW:Nat}{js:List Nat}{it:String}{t:Tg}{es:aL->MH->R (List MV)}{tc:aL->MH->R Bool}{te:aL->MH->R MV}(aR:Yx X.env.scope X.N cs N' bW js=true)(hc:X.calm=true)
  (hi:PI X tg iter (lI ct Ra E es it)) (hg:∀ C s3 H ex,PG (iC X cs N' C s3 H ex) tg (lG ct t)) (oV:∀ C s3 H ex,mR (iC X cs N' C s3 H ex) ifs (lT ct (λ_=>True) E0 tc)) (ku:∀ C s3 H ex,PE (iC X cs N' C s3 H ex) elt (lE ct (λ_=>True) E0 te)) (bE:ya iter=true) :
  PE X (.ListComp elt [⟨tg,iter,ifs,0⟩] cs pos) (lE ct Ra E λσ h=>(es σ h).bind λxs h1=>opt (iB it xs h1) λp=>(Qj p.2 (zh t tc te) p.1 [] (stM bW js σ) h1).bind λacc h3=>qo fz acc h3):=by
 exact PE.imp (Qcn N' bW js aR hc hi hg oV ku (yH bE)) (Lf fz)
end
end
end SD
end
section
namespace SD
open PySem PySem.Spec PyProof.Rows L2 L3 M3 MP
section
variable {ct:Tx} {X:Cx} {E:XK} {Pm:Prog} {n:Nat} {Ra:L2.St->Prop} {N:List Str} {sc:aA} {ea eb:aL->MH->R MV} {a b:Expr} {p pos:Pos}
theorem QE{μ:List af}{L:af->Prop}{H:Hp}{m:MV}{v:V}{z:Str}(r:RV ct μ L H m v)(e:Qg m=some z):v=.str z:=by
 cases m with
 |f x =>
  cases x with
  |str s=>cases e;simpa only[RV,RF] using r
  |_=>cases e
 |_=>cases e
theorem OD{μ:List af}{L:af->Prop}{H:Hp}:∀{xs:List MV}{vs:List V}{ts:List Str},aD ct μ L H xs vs->xs.mapM Qg=some ts->vs=ts.map V.str
 |[],vs,ts,r,e=>by
  simp only[aD] at r;cases e;rw[r];rfl
 |x::xs,vs,ts,r,e=>by
  simp only[aD] at r;obtain⟨v,t,rfl,r1,r2⟩:=r;rw[vo] at e;cases e1:Qg x with
  |none=>rw[e1] at e;cases e
  |some z =>
   rw[e1] at e;cases e2:xs.mapM Qg with
   |none=>rw[e2] at e;cases e
   |some zs =>
    rw[e2] at e;cases e;rw[QE r1 e1,OD r2 e2];rfl
theorem Eg{k:Nat}(h:k<=aK):k<=sizeLine:=by rw[cC];unfold aK at h;lia
theorem qbH{i:Int}(h:i.natAbs<2^256):i.natAbs.log2<1920:=by
 by_cases h0:i.natAbs=0
 ·rw[h0];decide
 ·exact Uc ((uF h0).mpr h) (by decide)
theorem A5{o:T1}{x:Str}(c:Cc X Pm ct n Ra E N sc)(ho:LB o=true)(hx:x=EJ o)(hg:gl sc x=true)(ha:PE X a (lE ct Ra E ea))(hp:ya a=true) :
  PE X (.Call (.Name x p) [a] [] pos) (lE ct Ra E λσ h=>(ea σ h).bind λx h1=>oj o x h1):=by
 obtain⟨k1,k2,k3⟩:=Zx c.sc hg;cases o with
 |j3=>cases ho
 |str =>
  subst hx;have hm:X.mg "str"=none:=c.txt.fE "str" (by simp[aX]);refine PE.imp (zG zaU k1 hm (by decide +kernel) (zt ha yE (zd hp)) k3 k2 (zd hp) (by rfl)) λσ H Q q=>?_;obtain⟨μ,h,σs,rel,aI,ra,pp⟩:=q;refine lE.mk rel aI ra pp λm w μ1 h1 H1 ex av aP rv p1=>?_;obtain⟨i,e1,p2⟩:=Po.opt p1;split at p2
  next hl =>
   have:=Ze e1;subst this;exact⟨i,by rw[Yi rv],qbH hl,p2.now av _ (QW _)⟩
  next=>exact p2.elim
 |int =>
  subst hx;have hm:X.mg "int"=none:=c.txt.fE "int" (by simp[aX]);refine PE.imp (zG qbS k1 hm (by decide +kernel) (zt ha yE (zd hp)) k3 k2 (zd hp) (by rfl)) λσ H Q q=>?_;obtain⟨μ,h,σs,rel,aI,ra,pp⟩:=q;refine lE.mk rel aI ra pp λm w μ1 h1 H1 ex av aP rv p1=>?_;obtain⟨z,e1,p2⟩:=Po.opt p1;obtain⟨i,e2,p3⟩:=Po.opt p2;split at p3
  next hl=>exact⟨z,i,by rw[QE rv e1],e2,hl,p3.now av _ (Yn _)⟩
  next=>exact p3.elim
 |len =>
  subst hx;have hm:X.mg "len"=none:=c.txt.fE "len" (by simp[cX]);refine PE.imp (YN QaW k1 hm Hc (zt ha yE (zd hp)) k3 k2 (zd hp) (by rfl)) λσ H Q q=>?_;obtain⟨μ,h,σs,rel,aI,ra,pp⟩:=q;refine lE.mk rel aI ra pp λm w μ1 h1 H1 ex av aP rv p1=>?_;obtain⟨z,e1,p2⟩:=Po.opt p1;split at p2
  next hl=>exact⟨z,by rw[QE rv e1],Eg hl,p2.now av _ (Yn _)⟩
  next=>exact p2.elim
theorem Oj{μ:List af}{L:af->Prop}{H:Hp}:∀{xs:List MV}{vs:List V}{ks:List (Int×Int)},aD ct μ L H xs vs->xs.mapM B6=some ks->Fm H vs ks
 |[],vs,ks,r,e=>by
  simp only[aD] at r;subst r;simp at e;subst e;exact .nil
 |x::xs,vs,ks,r,e=>by
  simp only[aD] at r;obtain⟨v,r',rfl,h1,h2⟩:=r;simp only[vo,Us,xb] at e;obtain⟨k,e1,ks',e2,e3⟩:=e;cases e3;obtain⟨T,q1,_,q2⟩:=Qco h1 e1;exact .cons ⟨T,q1,q2⟩ (Oj h2 e2)
theorem QcY{p2 p3:Pos}(c:Cc X Pm ct n Ra E N sc)(hg:gl sc "len"=true)(hgs:gl sc "set"=true)(ha:PE X a (lE ct Ra E ea))(hp:ya a=true) :
  PE X (.Call (.Name "len" p) [.Call (.Name "set" p2) [a] [] p3] [] pos) (lE ct Ra E λσ h=>(ea σ h).bind λx h1=>oj .j3 x h1):=by
 obtain⟨g1,g2,g3⟩:=Zx c.sc hg;obtain⟨k1,k2,k3⟩:=Zx c.sc hgs;have hm:X.mg "len"=none:=c.txt.fE "len" (by simp[cX]);have tx:X.mg "set"=none:=c.txt.fE "set" (by simp);refine PE.imp (YN ZbV g1 hm Hc (zt (zG (ybH c.calm (by have:=c.units;lia)) k1 tx (by decide +kernel) (zt ha yE (zd hp)) k3 k2 (zd hp) (by rfl)) yE (by rfl)) g3 g2 (by rfl) (by rfl)) λσ H Q q=>?_;obtain⟨μ,h,σs,rel,aI,ra,pp⟩:=q;refine lE.mk rel aI ra pp λm w μ1 h1 H1 ex av aP rv p1=>?_;obtain⟨xs,e1,p4⟩:=Po.opt p1;obtain⟨ks,e2,p5⟩:=Po.opt p4;split at p5
 next hl =>
  obtain⟨h1',Nv,h3'⟩:=hl;obtain⟨b,vs,rfl,rd,rs⟩:=Zm av e1 rv;refine⟨b,vs,ks,rfl,rd,Oj rs e2,λk hk=>by have q:=Xj.mp h1' k hk;unfold OK at q;unfold HV;exact of_decide_eq_true q,Nv,λq hq=>?_⟩;refine⟨q,ks.length,rfl,qg,h3',?_⟩;exact(Po.start (Ext.new av hq (sO ks.length q)) p5).now (av.new hq (sO ks.length q)) _ (Yn _)
 next=>exact p5.elim
theorem zcL{ap cp:Pos}(ha:PE X a (lE ct Ra E ea))(hb:PE X b (lE ct Ra E eb))(hn:zg a=true)(bE:ya b=true)(eQ:(ap.endLine==cp.line)=true) :
  PE X (.Call (.Attribute a "join" ap) [b] [] cp) (lE ct Ra E λσ h=>(ea σ h).bind λx h1=>opt (Qg x) λ_=>(eb σ h1).bind λy h2=>Yy .join x y h2):=by
 have lJ:∀ e∈[b],ya e=true:=λe he=>by rw[Ud.mp he];exact bE
 refine PE.imp (Qcl ha hb ⟨Yu hn,yP lJ (by simp),eQ,by rw[Zf lJ];rfl⟩) λσ H Q q=>?_;obtain⟨μ,h,σs,rel,aI,ra,pp⟩:=q;refine lE.mk rel aI ra pp λm w μ1 h1 H1 ig av aP lY p1=>?_;obtain⟨sep,e1,p2⟩:=Po.opt p1;refine⟨sep,QE lY e1,?_⟩;refine lE.mk av aP ra p2 λm2 w2 μ2 h2 H2 d0 aU cW hX p3=>?_;obtain⟨sep',nE,p4⟩:=Po.opt p3;rw[e1] at nE;cases nE;obtain⟨xs,e2,p5⟩:=Po.opt p4;obtain⟨ts,e3,p6⟩:=Po.opt p5;split at p6
 next hz =>
  obtain⟨c,vs,rfl,rd,rs⟩:=Zm aU e2 hX;have:=OD rs e3;subst this;exact⟨c,ts,rfl,rd,hz,p6.now aU _ (QW _)⟩
 next=>exact p6.elim
theorem OL{μ:List af}{L:af->Prop}{H:Hp}:∀(ts:List Str),aD ct μ L H (ts.map λt=>MV.f (.str t)) (ts.map V.str)
 |[]=>aD.nil
 |t::ts=>aD.cons (QW t) (OL ts)
theorem Zcm{ap cp:Pos}(fz:Bool)(ha:PE X a (lE ct Ra E ea))(hb:PE X b (lE ct Ra E eb))(hn:zg a=true)(bE:ya b=true)(eQ:(ap.endLine==cp.line)=true) :
  PE X (.Call (.Attribute a "split" ap) [b] [] cp) (lE ct Ra E λσ h=>(ea σ h).bind λx h1=>opt (Qg x) λ_=>(eb σ h1).bind λy h2=>Yy (.split fz) x y h2):=by
 have lJ:∀ e∈[b],ya e=true:=λe he=>by rw[Ud.mp he];exact bE
 refine PE.imp (yci ha hb ⟨Yu hn,yP lJ (by simp),eQ,by rw[Zf lJ];rfl⟩) λσ H Q q=>?_;obtain⟨μ,h,σs,rel,aI,ra,pp⟩:=q;refine lE.mk rel aI ra pp λm w μ1 h1 H1 ig av aP lY p1=>?_;obtain⟨z,e1,p2⟩:=Po.opt p1;refine⟨z,QE lY e1,?_⟩;refine lE.mk av aP ra p2 λm2 w2 μ2 h2 H2 d0 aU cW hX p3=>?_;obtain⟨z',nE,p4⟩:=Po.opt p3;rw[e1] at nE;cases nE;obtain⟨sep,e2,p5⟩:=Po.opt p4;split at p5
 next hz=>exact⟨sep,QE hX e2,hz.1,Eg hz.2,Zy aU (OL _) p5⟩
 next=>exact p5.elim
theorem HD(ha:PE X a (lE ct Ra E ea))(hb:PE X b (lE ct Ra E eb))(bE:ya b=true) :
  PE X (.Subscript a b pos) (lE ct Ra E λσ h=>(ea σ h).bind λx h1=>opt (Qg x) λ_=>(eb σ h1).bind λy h2=>Yy .at x y h2):=by
 refine PE.imp (NV QcO ha hb (N1 bE)) λσ H Q q=>?_;obtain⟨μ,h,σs,rel,aI,ra,pp⟩:=q;refine lE.mk rel aI ra pp λm w μ1 h1 H1 ig av aP lY p1=>?_;obtain⟨z,e1,p2⟩:=Po.opt p1;refine lE.mk av aP ra p2 λm2 w2 μ2 h2 H2 d0 aU cW hX p3=>?_;obtain⟨z',nE,p4⟩:=Po.opt p3;rw[e1] at nE;cases nE;obtain⟨i,e2,p5⟩:=Po.opt p4;obtain⟨c,e3,p6⟩:=Po.opt p5;have:=Ze e2;subst this;split at e3
 next hz =>
  have ir:=(Wa.mp e3).1;refine⟨z,i,c,QE lY e1,Yi hX,Eg hz.1,?_,p6.now aU _ (QW _)⟩;unfold rg rV;rw[if_pos hz.2,if_pos (by lia)];exact e3
 next=>cases e3
theorem Be(ha:PE X a (lE ct Ra E ea))(hb:PE X b (lE ct Ra E eb))(hp:ya b=true) :
  PE X (.Compare a [.In] [b] pos) (lE ct Ra E λσ h=>(ea σ h).bind λx h1=>opt (Qg x) λ_=>(eb σ h1).bind λy h2=>Yy .gV x y h2) /\
  PT X (.Compare a [.In] [b] pos) (lT ct Ra E (gu λσ h=>(ea σ h).bind λx h1=>opt (Qg x) λ_=>(eb σ h1).bind λy h2=>Yy .gV x y h2)):=by
 have main:∀ σ H Q,lE ct Ra E (λσ h=>(ea σ h).bind λx h1=>opt (Qg x) λ_=>(eb σ h1).bind λy h2=>Yy .gV x y h2) σ H Q->uS (λx y H Q=>∃ i j,x=.str i/\y=.str j/\Q (.bl (!(Gf j i 0 j.length 1).isEmpty)) H) (lE ct Ra E ea) (lE ct Ra E eb) σ H Q:=λσ H Q q=>by
  obtain⟨μ,h,σs,rel,aI,ra,pp⟩:=q;refine lE.mk rel aI ra pp λm w μ1 h1 H1 ig av aP lY p1=>?_;obtain⟨z,e1,p2⟩:=Po.opt p1;refine lE.mk av aP ra p2 λm2 w2 μ2 h2 H2 d0 aU cW hX p3=>?_;obtain⟨z',nE,p4⟩:=Po.opt p3;rw[e1] at nE;cases nE;obtain⟨j,e2,p5⟩:=Po.opt p4;exact⟨z,j,QE lY e1,QE hX e2,p5.now aU _ (qy _)⟩
 have AW:bA .In b=false:=Qy hp _;exact Dp (N7 Lg ha hb AW) (LW Lg ha hb AW) main
theorem Qct{μ:List af}{L:af->Prop}{H:Hp}:∀{xs ys:List MV}{vs ws:List V}{as:List Nat},aD ct μ L H xs vs->aD ct μ L H ys ws->zE xs=some as->zE ys=some as->vs=ws/\∀ v∈vs,∃ c,v=V.ref c
 |[],ys,vs,ws,as,r,r',e,e'=>by
  simp only[zE,gb.injEq] at e;subst e;have:ys=[]:=by
   cases ys with
   |nil=>rfl
   |cons y ys=>cases y <;> simp[zE] at e'
  subst this;simp only[aD] at r r';subst r;subst r';exact⟨rfl,λv h=>by cases h⟩
 |x::xs,ys,vs,ws,as,r,r',e,e'=>by
  cases x with
  |ref i =>
   simp only[zE,Wb] at e;obtain(⟨sC,e1,rfl⟩):=e;cases ys with
   |nil=>simp[zE] at e'
   |cons y ys =>
    cases y with
    |ref j =>
     simp only[zE,Wb,Jl.injEq] at e';obtain(⟨as2,e2,rfl,rfl⟩):=e';simp only[aD,RV] at r r';obtain(⟨v,t,rfl,⟨b,eb,rfl⟩,r2⟩):=r;obtain(⟨v',t',rfl,⟨b',iS,rfl⟩,r2'⟩):=r';rw[eb] at iS;cases iS;obtain(⟨q1,q2⟩):=Qct r2 r2' e1 e2;subst q1;exact⟨rfl,λv h=>by
      rcases ua.mp h with rfl|h
      ·exact⟨b,rfl⟩
      ·exact q2 v h⟩
    |_=>simp[zE] at e'
  |_=>simp[zE] at e
theorem Bf{ap cp:Pos}(ha:PE X a (lE ct Ra E ea))(hb:PE X b (lE ct Ra E eb))(hn:zg a=true)(bE:ya b=true)(eQ:(ap.endLine==cp.line)=true) :
  PE X (.Call (.Attribute a "index" ap) [b] [] cp) (lE ct Ra E λσ h=>(ea σ h).bind λx h1=>opt ((listOf h1 x).map λ_=>(⟨#[]⟩:Str)) λ_=>(eb σ h1).bind λy h2=>Yy .idx x y h2):=by
 have lJ:∀ e∈[b],ya e=true:=λe he=>by rw[Ud.mp he];exact bE
 refine PE.imp (NW Gh PySem.F.slot_list_index PySem.F.type_list_index qb9 ha (zt hb yE (zd bE)) (Yu hn) (yP lJ (by simp)) eQ (zd bE) (by rfl)) λσ H Q q=>?_;obtain⟨μ,h,σs,rel,aI,ra,pp⟩:=q;refine lE.mk rel aI ra pp λm w μ1 h1 H1 ig av aP lY p1=>?_;obtain⟨st,e0,p2⟩:=Po.opt p1;rw[Wb] at e0;obtain⟨xs0,e0,_⟩:=e0;obtain⟨d,Lw,rfl,rd0,_⟩:=Zm av e0 lY;refine⟨.inl ⟨rfl,Lw,.inl rd0⟩,?_⟩;refine lE.mk av aP ra p2 λm2 w2 μ2 h2 H2 d0 aU cW hX p3=>?_;obtain⟨ns,e1,p4⟩:=Po.opt p3;obtain⟨k,e2,p5⟩:=Po.opt p4;obtain⟨j,e3,p6⟩:=Po.opt p5;rw[xb] at e1;obtain⟨xs,e4,e5⟩:=e1;obtain⟨d',vs,ed,rd,rs⟩:=Zm aU e4 (lY.ext d0);cases ed;have:=zO e5 rs;subst this;have:=Ze e2;subst this;exact⟨_,ns,k,j,rfl,by rw[Yi hX],rd,e3,p6.now aU _ (Yn _)⟩
theorem Qch{z:Str}{μ1:List af}{h1:MH}{H1:Hp}:Wk ct (DK z) (z.cps.toList.map λc=>MV.f (.str ⟨#[c]⟩)) [] μ1 h1 H1:=by
 intro i μ h H ex rel _;refine⟨λhi=>⟨show i<z.cps.size by simpa using hi,λx H2 ⟨e1,c,e2,e3⟩=>?_⟩,λhi=>show z.cps.size<=i from Xm (by simpa using hi.symm)⟩;subst e1;subst e3;refine⟨_,?_,Ext.refl _ _ _,rel,QW _⟩;rw[Ua,Vv,e2];rfl
theorem Zcc{tg e:Expr}{ev:aL->MH->R MV}(h:PE X e (lE ct Ra E ev)):PI X tg e (lI ct Ra E (λσ hh=>(ev σ hh).bind λx h1=>.ok [x] h1) "signs"):=PI.imp (ZcX h) λσ H Q q=>by
 obtain(⟨μ,hh,σs,rel,aI,ra,p⟩):=q;refine lE.mk rel aI ra p λm v μ1 h1 H1 ex av aP rv p1=>?_;obtain(⟨items,g,e1,_,k⟩):=p1.now av;cases m with
 |f x =>
  cases x with
  |str z =>
   simp only[zbT,gb.injEq,Kt.injEq] at e1;obtain(⟨rfl,rfl⟩):=e1;exact⟨z,QE rv rfl,k _ Qch⟩
  |_=>cases e1
 |ref _=>cases e1
 |tup _=>cases e1
 |exc _=>cases e1
theorem zck(hK:X.K=ct.K){a b:Expr}{y:Str}{pt p pos:Pos}{ev:aL->MH->R (List MV)}(hg:Gl X "zip")(hm:X.mg "zip"=none)(ha:PA X [a,b] (lA ct Ra E ev))(bE:∀ e∈[a,b],ya e=true)(hn:∀ σ h xs h',ev σ h=.ok xs h'->xs.length=2) :
  PI X (.Name y pt) (.Call (.Name "zip" p) [a,b] [] pos) (lI ct Ra E ev "zip"):=by
 refine PI.imp (Qcv hg hm ha (Zf bE) (Zf λe he=>bE e (by simp at he;simp[he]))) λσ H Q q=>?_;obtain⟨μ,hh,σs,rel,aI,ra,p⟩:=q;refine⟨μ,hh,σs,rel,aI,ra,?_⟩;cases er:ev σs hh with
 |exc c h'=>rw[er] at p;exact p
 |stuck=>rw[er] at p;exact p
 |ok xs h' =>
  rw[er] at p;have hx:=hn _ _ _ _ er;intro μ' H' ex aZ vs eO;obtain⟨items,g,e1,_,k⟩:=p μ' H' ex aZ
  rcases xs with _|⟨m,_|⟨m2,_|⟨m3,xs⟩⟩⟩
  ·simp at hx
  ·simp at hx
  ·obtain⟨v,v',rfl,rm,mX⟩:=QY eO;simp only[Md,xb,Wb,Kt.injEq] at e1;obtain⟨us,e2,ws,e3,rfl,rfl⟩:=e1;obtain⟨b1,a1,rfl,s1⟩:=ZP aZ e2 rm;obtain⟨b2,a2,rfl,s2⟩:=ZP aZ e3 mX;obtain⟨t9,q1,_⟩:=s1 _ _ _ (Ext.refl _ _ _) aZ (YG e2);obtain⟨Eo,q2,_⟩:=s2 _ _ _ (Ext.refl _ _ _) aZ (YG e3);exact⟨b1,b2,a1,a2,rfl,⟨t9,q1.s hK⟩,⟨Eo,q2.s hK⟩,k _ (JO hK s1 s2)⟩
  ·simp at hx
end
section
variable {ct:Tx} {Pm:Prog} {n:Nat}
section
variable {X:Cx} {E:XK} {Ra:L2.St->Prop} {N:List Str} {sc:aA}
theorem Yc{e:Expr}{ev pW:aL->MH->R MV}(p:PE X e (lE ct Ra E ev))(h:∀ σ hh,pW σ hh=ev σ hh):PE X e (lE ct Ra E pW):=by
 have:pW=ev:=funext λσ=>funext λhh=>h σ hh;rw[this];exact p
theorem yr{e:Expr}{ev pW:aL->MH->R MV}(p:PE X e (lE ct Ra E ev)/\PT X e (lT ct Ra E (gu ev)))(h:∀ σ hh,pW σ hh=ev σ hh):PE X e (lE ct Ra E pW)/\PT X e (lT ct Ra E (gu pW)):=by
 have:pW=ev:=funext λσ=>funext λhh=>h σ hh;rw[this];exact p
theorem Cc.comp{cs:aA}{N':List Str}(c:Cc X Pm ct n Ra E N sc)(nd:N'.Nodup)(C:af)(s3:Shared)(H:Hp)(ex:List af):Cc (iC X cs N' C s3 H ex) Pm ct n (λ_=>True) E0 N' (qD cs sc) :=
 ⟨c.txt,c.calm,c.room,λσ _ pins H s e s' I ⟨_,_,_,_,_,_,_,_,_,_,_,_,_,_,_,q⟩=>q.elim,rfl,by rw[<- c.sc];rfl,nd,c.hK⟩
def Sd(X:Cx)(ct:Tx)(Pm:Prog)(n:Nat)(Ra:L2.St->Prop)(E:XK)(me:ME)(e:Expr):Prop :=
 PE X e (lE ct Ra E (qa Pm (run Pm n) me))/\(jM me=true->PT X e (lT ct Ra E (gu (qa Pm (run Pm n) me))))
theorem Sd.of{me:ME}{e:Expr}(h:PE X e (lE ct Ra E (qa Pm (run Pm n) me))/\PT X e (lT ct Ra E (gu (qa Pm (run Pm n) me)))):Sd X ct Pm n Ra E me e:=⟨h.1,λ_=>h.2⟩
theorem LS{ms:List ME}{es:List Expr}(b:Bo ct X Ra E Pm n ms es)(hl:es.length<1000):∀ σ h xs h',Yg Pm (run Pm n) ms σ h=.ok xs h'->xs.length<=sizeLine:=λσ h xs h' e=>by
 rw[Qt e,b.length];exact Xe (vz hl) (by decide)
end
end
end SD
end
section
namespace SD
open PySem PySem.Spec PyProof.Rows L2 L3 M3 MP
variable {ct:Tx} {Pm:Prog} {n:Nat}
set_option tactic.hygienic true in
theorem Ea{X:Cx}{E:XK}{Ra:L2.St->Prop}{N:List Str}{sc:aA}{it:String}{t iter:Expr}{ms:List ME}(c:Cc X Pm ct n Ra E N sc)(k1:sF t it iter=true)(k2:gl sc (kg it)=true)(b:Bo ct X Ra E Pm n ms (yy iter)) :
  PI X t iter (lI ct Ra E (Yg Pm (run Pm n) ms) it):=by
 obtain⟨g1,g2,g3⟩:=Zx c.sc k2;unfold sF at k1;split at k1
 next x p as p2 =>
  simp only[Xa,wl,beq_iff_eq] at k1;obtain⟨k1,rfl⟩:=k1;have b':Bo ct X Ra E Pm n ms as:=b
  rcases k1 with (⟨rfl,ha⟩|⟨⟨rfl,ht⟩,ha⟩)|⟨⟨rfl,ht⟩,ha⟩
  ·have hl:=b'.length;have hm:X.mg "range"=none:=c.txt.fE "range" (by simp);exact QbW g1 hm b'.pa b'.plain ha λσ h xs h' e=>by rw[Qt e,hl]
  ·cases t with
   |Tuple es k pt =>
    have hm:X.mg "zip"=none:=c.txt.fE "zip" (by simp)
    rcases as with _|⟨u,_|⟨v,_|⟨w,as⟩⟩⟩
    ·simp at ha
    ·simp at ha
    ·exact ycF c.hK g1 hm b'.pa b'.plain λσ h xs h' e=>by rw[Qt e,b'.length];rfl
    ·simp at ha
   |Name y pt =>
    have hm:X.mg "zip"=none:=c.txt.fE "zip" (by simp)
    rcases as with _|⟨u,_|⟨v,_|⟨w,as⟩⟩⟩
    ·simp at ha
    ·simp at ha
    ·exact zck c.hK g1 hm b'.pa b'.plain λσ h xs h' e=>by rw[Qt e,b'.length];rfl
    ·simp at ha
   |_=>exact xg ht
  ·cases t with
   |Tuple es k pt =>
    have hm:X.mg "enumerate"=none:=c.txt.fE "enumerate" (by simp)
    rcases as with _|⟨u,_|⟨v,as⟩⟩
    ·simp at ha
    ·exact Zct c.hK g1 hm b'.pa b'.plain λσ h xs h' e=>by rw[Qt e,b'.length];rfl
    ·simp at ha
   |_=>exact xg ht
 next=>exact xg k1
theorem OH{e:Expr}(h:wJ e=true):∃ k p,e=.Constant (.bool true) k p:=by
 cases e with
 |Constant c k p =>
  cases c with
  |bool b=>cases b with
   |true=>exact⟨k,p,rfl⟩
   |false=>exact ff h
  |_=>exact ff h
 |_=>exact ff h
theorem Em{α:Type}{l:List α}{p:α×α}(h:pA l=some p):l=[p.1,p.2]:=by
 rcases l with _|⟨a,_|⟨b,_|⟨c,l⟩⟩⟩
 ·exact nomatch h
 ·exact nomatch h
 ·cases h;rfl
 ·exact nomatch h
theorem Ei{α:Type}{l:List α}{p:α}(h:rh l=some p):l=[p]:=by
 rcases l with _|⟨a,_|⟨b,l⟩⟩
 ·exact nomatch h
 ·cases h;rfl
 ·exact nomatch h
theorem YbQ{e x y:Expr}(h:Fi e=some (x,y)):∃ k1 p1 k2 p2 p,e=.Dict [some x,some y] [.Constant (.bool true) k1 p1,.Constant (.bool true) k2 p2] p:=by
 cases e with
 |Dict ks vs p =>
  have h:((pA ks).bind λk=>(pA vs).bind λv=>if wJ v.1&&wJ v.2 then k.1.bind λx=>k.2.map λy=>(x,y) else none)=some (x,y):=h;obtain⟨⟨a,b⟩,e1,h⟩:=xb.mp h;obtain⟨⟨u,v⟩,e2,h⟩:=xb.mp h;split at h
  next hb =>
   simp only[Xa] at hb;obtain⟨k1,p1,e3⟩:=OH hb.1;obtain⟨k2,p2,e4⟩:=OH hb.2;dsimp only at e3 e4 h;obtain⟨x',rfl,h⟩:=xb.mp h;obtain⟨y',rfl,h⟩:=Wb.mp h;cases h;subst e3;subst e4;exact⟨k1,p1,k2,p2,p,by rw[Em e1,Em e2]⟩
  next=>cases h
 |_=>exact nomatch h
theorem pK{α:Type}{a:α}{p:Prop}(h:none=some a):p:=nomatch h
theorem Me{e v:Expr}{x:Str}(h:sA e=some (x,v)):∃ p q,e=.Call (.Name x p) [v] [] q:=by
 cases e with
 |Call g as ks q =>
  cases g with
  |Name z p =>
   cases ks with
   |nil =>
    have h:((rh as).map λa=>(z,a))=some (x,v):=h;obtain⟨a,e1,h⟩:=Wb.mp h;cases h;exact⟨p,q,by rw[Ei e1]⟩
   |cons _ _=>exact pK h
  |_=>exact pK h
 |_=>exact pK h
theorem Zb6{e l r:Expr}{o:eu}(h:yY e=some (l,o,r)):∃ p,e=.Compare l [o] [r] p:=by
 cases e with
 |Compare l' os rs p =>
  have h:((rh os).bind λo=>(rh rs).map λr=>(l',o,r))=some (l,o,r):=h;obtain⟨o',e1,h⟩:=xb.mp h;obtain⟨r',e2,h⟩:=Wb.mp h;cases h;exact⟨p,by rw[Ei e1,Ei e2]⟩
 |_=>exact pK h
theorem qcu{e:Expr}(h:rW e=true):∃ j p,e=.Constant .none j p:=by
 cases e with
 |Constant k j p =>
  cases k with
  |none=>exact⟨_,_,rfl⟩
  |_=>exact ff h
 |_=>exact ff h
theorem DQ{e:Expr}{f:Expr->eu->Expr->Bool}(h:(match yY e with|some (l,o,r)=>f l o r|none=>false)=true):∃ l o r p,e=.Compare l [o] [r] p/\f l o r=true:=by
 cases w:yY e with
 |none=>rw[w] at h;exact ff h
 |some q =>
  obtain⟨l,o,r⟩:=q;rw[w] at h;obtain⟨p,e⟩:=Zb6 w;exact⟨l,o,r,p,e,h⟩
theorem Yct{e v u:Expr}{x:Str}(h:BF e=some (x,v,u)):∃ p q,e=.Call (.Name x p) [v,u] [] q:=by
 cases e with
 |Call g as ks q =>
  cases g with
  |Name z p =>
   cases ks with
   |nil =>
    have h:((pA as).map λa=>(z,a))=some (x,v,u):=h;obtain⟨a,e1,h⟩:=Wb.mp h;cases h;exact⟨p,q,by rw[Em e1]⟩
   |cons _ _=>exact pK h
  |_=>exact pK h
 |_=>exact pK h
theorem Qcx{e:Expr}{x:Str}(h:BE e=some x):∃ p,e=.Name x p:=by
 cases e with
 |Name y p=>cases h;exact⟨p,rfl⟩
 |_=>exact pK h
theorem Ag{e:Expr}{f:Str->Expr->Str->Bool}(h:(match DB e with|some (x,v,y)=>f x v y|none=>false)=true):∃ x v y p1 p2 p3,e=.Call (.Name x p1) [v,.Name y p2] [] p3/\f x v y=true:=by
 cases w:DB e with
 |none=>rw[w] at h;exact ff h
 |some q =>
  obtain⟨x,v,y⟩:=q;rw[w] at h;obtain⟨⟨x',v',y'⟩,e1,w⟩:=xb.mp w;obtain⟨z,e2,w⟩:=Wb.mp w;cases w;obtain⟨p2,e2⟩:=Qcx e2;have e2:y'=.Name y p2:=e2;subst e2;obtain⟨p1,p3,e⟩:=Yct e1;exact⟨_,_,_,p1,p2,p3,e,h⟩
theorem K6{e v:Expr}{x y:Str}(h:Q2 e=some (x,y,v)):∃ p1 p2 p3 p,e=.Call (.Name x p1) [.Call (.Name y p2) [v] [] p3] [] p:=by
 obtain⟨⟨x',v'⟩,e1,h⟩:=xb.mp h;obtain⟨⟨y',w⟩,e2,h⟩:=Wb.mp h;cases h;obtain⟨p1,p,rfl⟩:=Me e1;obtain⟨p2,p3,rfl⟩:=Me e2;exact⟨p1,p2,p3,p,rfl⟩
set_option tactic.hygienic true in
mutual
theorem sB:∀(me:ME){X:Cx}{E:XK}{Ra:L2.St->Prop}{N:List Str} {sc:aA} (c:Cc X Pm ct n Ra E N sc) (e:Expr),ze Pm me N sc e=true->Sd X ct Pm n Ra E me e
 |.var i,X,E,Ra,N,sc,c,e,h=>by
  have h:=Qc h;cases e with
  |Name x p =>
   have h:(N[i]? == some x&&ot sc x)=true:=h;simp only[Xa,beq_iff_eq] at h;exact Sd.of (qc (Yc (A4 (by rw[c.nm];exact h.1) (by rw[c.sc];exact h.2)) λσ hh=>by simp only[qa]))
  |_=>exact ff h
 |.cI i,X,E,Ra,N,sc,c,e,h=>by
  have h:=Qc h;cases e with
  |Constant k j p =>
   cases k with
   |int z =>
    have hz:i=z:=by simpa using(show(i==z)=true from h)
    subst hz;exact Sd.of (qc (Yc (Du YcX λ_ _ _=>Yn _) λσ hh=>by simp only[qa]))
   |_=>exact ff h
  |_=>exact ff h
 |.cB i,X,E,Ra,N,sc,c,e,h=>by
  have h:=Qc h;cases e with
  |Constant k j p =>
   cases k with
   |bool z =>
    have hz:i=z:=by simpa using(show(i==z)=true from h)
    subst hz;exact Sd.of (qc (Yc (Du Dt λ_ _ _=>qy _) λσ hh=>by simp only[qa]))
   |_=>exact ff h
  |_=>exact ff h
 |.cN,X,E,Ra,N,sc,c,e,h=>by
  have h:=Qc h;cases e with
  |Constant k j p =>
   cases k with
   |none =>
    exact Sd.of (qc (Yc (Du QcQ λ_ _ _=>tZ) λσ hh=>by simp only[qa]))
   |_=>exact ff h
  |_=>exact ff h
 |.cS i,X,E,Ra,N,sc,c,e,h=>by
  have h:=Qc h;cases e with
  |Constant k j p =>
   cases k with
   |str z =>
    have hz:i=z:=by simpa using(show(i==z)=true from h)
    subst hz;exact Sd.of (qc (Yc (Du qcW λ_ _ _=>QW _) λσ hh=>by simp only[qa]))
   |_=>exact ff h
  |_=>exact ff h
 |.glob g,X,E,Ra,N,sc,c,e,h=>by
  have h:=Qc h;cases e with
  |Name x p =>
   have h:(x==kg g&&gl sc x&&JG (Pm.bO g))=true:=h;simp only[Xa,beq_iff_eq] at h;obtain(⟨⟨rfl,h1⟩,h2⟩):=h;have hv:(∃ i,Pm.bO g=some (.int i))\/∃ z,Pm.bO g=some (.str z):=by
    cases hq:Pm.bO g with
    |none=>rw[hq] at h2;cases h2
    |some w =>
     rw[hq] at h2;cases w with
     |int i=>exact .inl ⟨i,rfl⟩
     |str z=>exact .inr ⟨z,rfl⟩
     |_=>cases h2
   rcases hv with ⟨i,hv⟩|⟨z,hv⟩
   ·exact Sd.of (qc (Yc (ycG c hv h1) λσ hh=>by simp only[qa]))
   ·exact Sd.of (qc (Yc (Zcu c hv h1) λσ hh=>by simp only[qa]))
  |_=>exact ff h
 |.bin fz op a b,X,E,Ra,N,sc,c,e,h=>by
  have h:=Qc h;cases e with
  |BinOp l o r p =>
   have h:(o==Cy op&&ze Pm a N sc l&&ze Pm b N sc r)=true:=h;simp only[Xa,beq_iff_eq] at h;obtain(⟨⟨rfl,h1⟩,h2⟩):=h;exact Sd.of (qc (Yc (Bk fz op (sB a c l h1).1 (sB b c r h2).1) λσ hh=>by simp only[qa]))
  |_=>exact ff h
 |.neg a,X,E,Ra,N,sc,c,e,h=>by
  have h:=Qc h;cases e with
  |UnaryOp o x p =>
   cases o with
   |USub=>exact Sd.of (qc (Yc (A' (sB a c x (show ze Pm a N sc x=true from h)).1) λσ hh=>by simp only[qa]))
   |_=>exact ff h
  |_=>exact ff h
 |.cmp op a b,X,E,Ra,N,sc,c,e,h=>by
  obtain(⟨l,o,r,p,rfl,g⟩):=DQ (show(match yY e with|some (l,o,r)=>o==mB op&&ze Pm a N sc l&&ze Pm b N sc r|none=>false)=true from Qc h);simp only[Xa,beq_iff_eq] at g;obtain(⟨⟨rfl,h1⟩,h2⟩):=g;exact Sd.of (yr (Bi c.hK op c.units (sB a c l h1).1 (sB b c r h2).1 (Yj h2)) λσ hh=>by simp only[qa])
 |.chain op MA a b d,X,E,Ra,N,sc,c,e,h=>by
  have h:=Qc h;cases e with
  |Compare l os rs p =>
   rcases os with _|⟨o,_|⟨o2,_|⟨o3,os⟩⟩⟩
   ·exact ff h
   ·exact ff h
   ·rcases rs with _|⟨m,_|⟨r,_|⟨r2,rs⟩⟩⟩
    ·exact ff h
    ·exact ff h
    ·have h:(o==mB op&&o2==mB MA&&ze Pm a N sc l&&ze Pm b N sc m&&ze Pm d N sc r)=true:=h;simp only[Xa,beq_iff_eq] at h;obtain(⟨⟨⟨⟨rfl,rfl⟩,h1⟩,h2⟩,h3⟩):=h;exact Sd.of (yr (Qcy c.hK op MA c.units (sB a c l h1).1 (sB b c m h2).1 (sB d c r h3).1 (Yj h3)) λσ hh=>by simp only[qa])
    ·exact ff h
   ·exact ff h
  |_=>exact ff h
 |.MU a,X,E,Ra,N,sc,c,e,h=>ff (Qc h)
 |.mn a,X,E,Ra,N,sc,c,e,h=>by
  obtain(⟨l,o,r,p,rfl,g⟩):=DQ (show(match yY e with|some (l,o,r)=>o == .IsNot&&rW r&&ze Pm a N sc l|none=>false)=true from Qc h);simp only[Xa,beq_iff_eq] at g;obtain(⟨⟨rfl,h1⟩,h2⟩):=g;obtain(⟨j,p2,rfl⟩):=qcu h1;exact Sd.of (yr (zcQ (sB a c l h2).1) λσ hh=>by simp only[qa])
 |.and es,X,E,Ra,N,sc,c,e,h=>by
  have h:=Qc h;cases e with
  |BoolOp o vs p =>
   cases o with
   |And =>
    have h:(es.all jM&&Ql Pm es N sc vs)=true:=h;rw[Xa] at h;obtain(⟨i1,i2⟩):=OC (pos:=p) (mm es c vs h.2) h.1;exact Sd.of (yr ⟨i1,i2.pt⟩ λσ hh=>by simp only[qa])
   |_=>exact ff h
  |_=>exact ff h
 |.or es,X,E,Ra,N,sc,c,e,h=>by
  have h:=Qc h;cases e with
  |BoolOp o vs p =>
   cases o with
   |Or =>
    have h:(es.all jM&&Ql Pm es N sc vs)=true:=h;rw[Xa] at h;obtain(⟨i1,i2⟩):=A8 (pos:=p) (mm es c vs h.2) h.1;exact Sd.of (yr ⟨i1,i2.pt⟩ λσ hh=>by simp only[qa])
   |_=>exact ff h
  |_=>exact ff h
 |.not a,X,E,Ra,N,sc,c,e,h=>by
  have h:=Qc h;cases e with
  |UnaryOp o x p =>
   cases o with
   |Not =>
    have h:(jM a&&ze Pm a N sc x)=true:=h;rw[Xa] at h;obtain(⟨i1,i2⟩):=sB a c x h.2;exact Sd.of (yr (A9 i1 (i2 h.1)) λσ hh=>by simp only[qa])
   |_=>exact ff h
  |_=>exact ff h
 |.ite d a b,X,E,Ra,N,sc,c,e,h=>by
  have h:=Qc h;cases e with
  |IfExp t x y p =>
   have h:(jM d&&ze Pm d N sc t&&ze Pm a N sc x&&ze Pm b N sc y)=true:=h;simp only[Xa] at h;obtain(⟨⟨⟨h0,h1⟩,h2⟩,h3⟩):=h;exact⟨Yc (Bc ((sB d c t h1).2 h0) (sB a c x h2).1 (sB b c y h3).1) λσ hh=>by simp only[qa],λz=>xg z⟩
  |_=>exact ff h
 |.tup es,X,E,Ra,N,sc,c,e,h=>by
  have h:=Qc h;cases e with
  |Tuple vs k p =>
   have h:(decide (vs.length<1000)&&Ql Pm es N sc vs)=true:=h;rw[Xa] at h;have b:=mm es c vs h.2;exact Sd.of (qc (Yc (A6 b.pa (LS b (of_decide_eq_true h.1))) λσ hh=>by simp only[qa]))
  |_=>exact ff h
 |.lst fz es,X,E,Ra,N,sc,c,e,h=>by
  have h:=Qc h;cases e with
  |List vs p =>
   have h:(decide (vs.length<1000)&&Ql Pm es N sc vs)=true:=h;rw[Xa] at h;have b:=mm es c vs h.2;exact Sd.of (qc (Yc (Ba fz b.pa (LS b (of_decide_eq_true h.1))) λσ hh=>by simp only[qa]))
  |_=>exact ff h
 |.sub a i,X,E,Ra,N,sc,c,e,h=>by
  have h:=Qc h;cases e with
  |Subscript x y p =>
   have h:(ze Pm a N sc x&&ze Pm i N sc y)=true:=h;rw[Xa] at h;exact Sd.of (qc (Yc (A7 c.hK (sB a c x h.1).1 (sB i c y h.2).1 (Yj h.2)) λσ hh=>by simp only[qa]))
  |_=>exact ff h
 |.slice fz a lo hi,X,E,Ra,N,sc,c,e,h=>by
  have h:=Qc h;cases e with
  |Subscript x y p =>
   cases y with
   |Slice l u st p2 =>
    cases st with
    |none =>
     have h:(ze Pm a N sc x&&tY Pm lo N sc l&&tY Pm hi N sc u)=true:=h;simp only[Xa] at h;obtain(⟨⟨h1,h2⟩,h3⟩):=h;exact Sd.of (qc (Yc (Ycy c.hK fz (sB a c x h1).1 (LM lo c l h2) (LM hi c u h3)) λσ hh=>by simp only[qa]))
    |some _=>exact ff h
   |_=>exact ff h
  |_=>exact ff h
 |.fld a f,X,E,Ra,N,sc,c,e,h=>by
  have h:=Qc h;cases e with
  |Attribute x m p =>
   have h:(m==kg f&&zg x&&ze Pm a N sc x)=true:=h;simp only[Xa,beq_iff_eq] at h;obtain(⟨⟨rfl,h1⟩,h2⟩):=h;exact Sd.of (qc (Yc (Bh c.txt (sB a c x h2).1 h1) λσ hh=>by simp only[qa]))
  |_=>exact ff h
 |.call f es,X,E,Ra,N,sc,c,e,h=>by
  have h:=Qc h;cases e with
  |Call g as ks p =>
   cases g with
   |Name x p2 =>
    cases as with
    |nil=>exact ff h
    |cons v vs =>
     cases ks with
     |cons _ _=>exact ff h
     |nil =>
      have h:(x==kg f&&gl sc x&&!(f.toList.contains '.')&&(Pm.defs f).isSome&&Ql Pm es N sc (v::vs))=true:=h;simp only[Xa,beq_iff_eq,wn] at h;obtain(⟨⟨⟨⟨rfl,h1⟩,h2⟩,h3⟩,h4⟩):=h;obtain(⟨d,hd⟩):=um.mp h3;have b:=mm es c (v::vs) h4;exact Sd.of (qc (Yc (QcS c hd h2 h1 b.pa b.plain) λσ hh=>by simp only[qa]))
   |_=>exact ff h
  |_=>exact ff h
 |.make fz cn es,X,E,Ra,N,sc,c,e,h=>by
  have h:=Qc h;cases e with
  |Call g as ks p =>
   cases g with
   |Name x p2 =>
    cases as with
    |nil =>
     cases ks with
     |cons _ _=>cases es <;> exact ff h
     |nil =>
      cases es with
      |cons _ _=>exact ff h
      |nil =>
       have h:(x==kg cn&&gl sc x&&Pm.nX cn&&(Pm.meths cn "__init__").isNone)=true:=h;simp only[Xa,beq_iff_eq,Option.isNone_iff_eq_none] at h;obtain(⟨⟨⟨rfl,h1⟩,h3⟩,h4⟩):=h;exact Sd.of (qc (Yc (Zcv fz c h3 h4 h1) λσ hh=>by simp only[qa,Yg]))
    |cons v vs =>
     cases ks with
     |cons _ _=>exact ff h
     |nil =>
      have h:(x==kg cn&&gl sc x&&(Pm.meths cn "__init__").isSome&&Ql Pm es N sc (v::vs))=true:=h;simp only[Xa,beq_iff_eq] at h;obtain(⟨⟨⟨rfl,h1⟩,h3⟩,h4⟩):=h;obtain(⟨d,hd⟩):=um.mp h3;have b:=mm es c (v::vs) h4;exact Sd.of (qc (Yc (QcV fz c hd h1 b.pa b.plain) λσ hh=>by simp only[qa]))
   |_=>exact ff h
  |_=>exact ff h
 |.xU o m es,X,E,Ra,N,sc,c,e,h=>ff (Qc h)
 |.blt fz id es,X,E,Ra,N,sc,c,e,h=>by
  have h:=Qc h;cases e with
  |Call g as ks p =>
   cases g with
   |Name x p2 =>
    cases as with
    |nil=>exact ff h
    |cons v vs =>
     cases ks with
     |cons _ _=>exact ff h
     |nil =>
      have h:(x==kg id&&gl sc x&&(cX.contains id||dA.contains id)&&Ql Pm es N sc (v::vs))=true:=h;simp only[Xa,beq_iff_eq,wl] at h;obtain(⟨⟨⟨rfl,h1⟩,h2⟩,h4⟩):=h;have b:=mm es c (v::vs) h4;exact Sd.of (qc (Yc (Bj fz c (by simpa using h2) h1 b.pa b.plain) λσ hh=>by simp only[qa]))
   |_=>exact ff h
  |_=>exact ff h
 |.CJ a t,X,E,Ra,N,sc,c,e,h=>by
  obtain(⟨x,v,y,p1,p2,p3,rfl,g⟩):=Ag (show(match DB e with|some (x,v,y)=>x==("isinstance":Str)&&gl sc x&&y==kg t&&gl sc y&&(aX.contains t||(Pm.subs t t).isSome)&&ze Pm a N sc v|none=>false)=true from Qc h);simp only[Xa,beq_iff_eq,wl] at g;obtain(⟨⟨⟨⟨⟨rfl,h1⟩,rfl⟩,h2⟩,h3⟩,h4⟩):=g;exact Sd.of (qc (Yc (Bd c h3 h1 h2 (sB a c v h4).1 (Yj h4)) λσ hh=>by simp only[qa]))
 |.jZ f es ds,X,E,Ra,N,sc,c,e,h=>by
  have h:=Qc h;cases e with
  |Call g as ks p =>
   cases g with
   |Name x p2 =>
    cases as with
    |nil=>exact ff h
    |cons v vs =>
     cases ks with
     |cons _ _=>exact ff h
     |nil =>
      have h:(x==kg f&&gl sc x&&Pm.nH f ds&&Ql Pm es N sc (v::vs))=true:=h;simp only[Xa,beq_iff_eq] at h;obtain(⟨⟨⟨rfl,h1⟩,h2⟩,h4⟩):=h;have b:=mm es c (v::vs) h4;exact Sd.of (qc (Yc (Qcp c h2 h1 b.pa b.plain) λσ hh=>by simp only[qa]))
   |_=>exact ff h
  |_=>exact ff h
 |.iI a b,X,E,Ra,N,sc,c,e,h=>by
  replace h:=Qc h;replace h:(match Fi e with|some (x,y)=>ze Pm a N sc x&&ze Pm b N sc y|none=>false)=true:=h;split at h
  next x y w =>
   obtain(⟨k1,p1,k2,p2,p,rfl⟩):=YbQ w;simp only[Xa] at h;exact Sd.of (qc (Yc (zcn (sB a c x h.1).1 (sB b c y h.2).1) λσ hh=>by simp only[qa]))
  next=>exact ff h
 |.kJ a,X,E,Ra,N,sc,c,e,h=>by
  replace h:=Qc h;replace h:(match Q2 e with|some (x,y,v)=>x==("sorted":Str)&&gl sc x&&y==("list":Str)&&gl sc y&&ze Pm a N sc v|none=>false)=true:=h;split at h
  next x y v w =>
   obtain(⟨p1,p2,p3,p,rfl⟩):=K6 w;simp only[Xa,beq_iff_eq] at h;obtain(⟨⟨⟨⟨rfl,h1⟩,rfl⟩,h2⟩,h3⟩):=h;exact Sd.of (qc (Yc (ycY (p4:=p) c h1 h2 (sB a c v h3).1 (Yj h3)) λσ hh=>by simp only[qa]))
  next=>exact ff h
 |.mh o a,X,E,Ra,N,sc,c,e,h=>by
  replace h:=Qc h;cases hs:LB o with
  |false =>
   cases o with
   |j3 =>
    replace h:(match Q2 e with|some (x,y,v)=>x==("len":Str)&&gl sc x&&y==("set":Str)&&gl sc y&&ze Pm a N sc v|none=>false)=true:=h;split at h
    next x y v w =>
     obtain(⟨p1,p2,p3,p,rfl⟩):=K6 w;simp only[Xa,beq_iff_eq] at h;obtain(⟨⟨⟨⟨rfl,h1⟩,rfl⟩,h2⟩,h3⟩):=h;exact Sd.of (qc (Yc (QcY c h1 h2 (sB a c v h3).1 (Yj h3)) λσ hh=>by simp only[qa]))
    next=>exact ff h
   |_=>cases hs
  |true =>
   have bad:(∀ x np v p,e≠.Call (.Name x np) [v] [] p)->False:=λq=>by
    cases o with
    |j3=>cases hs
    |_ =>
     cases e with
     |Call f as ks p =>
      cases f with
      |Name x np =>
       rcases as with _|⟨v,_|⟨v2,as⟩⟩
       ·exact xg h
       ·cases ks with
        |nil=>exact q _ _ _ _ rfl
        |cons _ _=>exact xg h
       ·exact xg h
      |_=>exact xg h
     |_=>exact xg h
   by_cases q:∃ x np v p,e=.Call (.Name x np) [v] [] p
   ·obtain(⟨x,np,v,p,rfl⟩):=q;have hq:(x==EJ o&&gl sc x&&ze Pm a N sc v)=true:=by
     cases o with
     |j3=>cases hs
     |_=>exact h
    simp only[Xa,beq_iff_eq] at hq;obtain(⟨⟨h0,h1⟩,h2⟩):=hq;exact Sd.of (qc (Yc (A5 c hs h0 h1 (sB a c v h2).1 (Yj h2)) λσ hh=>by simp only[qa]))
   ·exact(bad λx np v p z=>q ⟨x,np,v,p,z⟩).elim
 |.kD o a b,X,E,Ra,N,sc,c,e,h=>by
  replace h:=Qc h;cases o with
  |join =>
   obtain(⟨x,ap,v,cp,rfl,h1,h2,h3,h4⟩):∃ x ap v cp,e=.Call (.Attribute x "join" ap) [v] [] cp/\zg x=true/\(ap.endLine==cp.line)=true/\ze Pm a N sc x=true/\ze Pm b N sc v=true:=by
    cases e with
    |Call f as ks p =>
     cases f with
     |Attribute x n ap =>
      rcases as with _|⟨v,_|⟨v2,as⟩⟩
      ·exact ff h
      ·cases ks with
       |nil =>
        replace h:(n==("join":Str)&&zg x&&(ap.endLine==p.line)&&ze Pm a N sc x&&ze Pm b N sc v)=true:=h;simp only[Xa,beq_iff_eq] at h;obtain(⟨⟨⟨⟨rfl,h1⟩,h2⟩,h3⟩,h4⟩):=h;exact⟨x,ap,v,p,rfl,h1,by simpa using h2,h3,h4⟩
       |cons _ _=>exact ff h
      ·exact ff h
     |_=>exact ff h
    |_=>exact ff h
   exact Sd.of (qc (Yc (zcL (sB a c x h3).1 (sB b c v h4).1 h1 (Yj h4) h2) λσ hh=>by simp only[qa,mI]))
  |split fz =>
   obtain(⟨x,ap,v,cp,rfl,h1,h2,h3,h4⟩):∃ x ap v cp,e=.Call (.Attribute x "split" ap) [v] [] cp/\zg x=true/\(ap.endLine==cp.line)=true/\ze Pm a N sc x=true/\ze Pm b N sc v=true:=by
    cases e with
    |Call f as ks p =>
     cases f with
     |Attribute x n ap =>
      rcases as with _|⟨v,_|⟨v2,as⟩⟩
      ·exact ff h
      ·cases ks with
       |nil =>
        replace h:(n==("split":Str)&&zg x&&(ap.endLine==p.line)&&ze Pm a N sc x&&ze Pm b N sc v)=true:=h;simp only[Xa,beq_iff_eq] at h;obtain(⟨⟨⟨⟨rfl,h1⟩,h2⟩,h3⟩,h4⟩):=h;exact⟨x,ap,v,p,rfl,h1,by simpa using h2,h3,h4⟩
       |cons _ _=>exact ff h
      ·exact ff h
     |_=>exact ff h
    |_=>exact ff h
   exact Sd.of (qc (Yc (Zcm fz (sB a c x h3).1 (sB b c v h4).1 h1 (Yj h4) h2) λσ hh=>by simp only[qa,mI]))
  |«at» =>
   cases e with
   |Subscript x y p =>
    replace h:(ze Pm a N sc x&&ze Pm b N sc y)=true:=h;rw[Xa] at h;exact Sd.of (qc (Yc (HD (sB a c x h.1).1 (sB b c y h.2).1 (Yj h.2)) λσ hh=>by simp only[qa,mI]))
   |_=>exact ff h
  |gV =>
   obtain(⟨l,o,r,p,rfl,g⟩):=DQ (show(match yY e with|some (l,o,r)=>o == .In&&ze Pm a N sc l&&ze Pm b N sc r|none=>false)=true from h);simp only[Xa,beq_iff_eq] at g;obtain(⟨⟨rfl,h1⟩,h2⟩):=g;exact Sd.of (yr (Be (sB a c l h1).1 (sB b c r h2).1 (Yj h2)) λσ hh=>by simp only[qa,mI])
  |idx =>
   obtain(⟨x,ap,v,cp,rfl,h1,h2,h3,h4⟩):∃ x ap v cp,e=.Call (.Attribute x "index" ap) [v] [] cp/\zg x=true/\(ap.endLine==cp.line)=true/\ze Pm a N sc x=true/\ze Pm b N sc v=true:=by
    cases e with
    |Call f as ks p =>
     cases f with
     |Attribute x n ap =>
      rcases as with _|⟨v,_|⟨v2,as⟩⟩
      ·exact ff h
      ·cases ks with
       |nil =>
        replace h:(n==("index":Str)&&zg x&&(ap.endLine==p.line)&&ze Pm a N sc x&&ze Pm b N sc v)=true:=h;simp only[Xa,beq_iff_eq] at h;obtain(⟨⟨⟨⟨rfl,h1⟩,h2⟩,h3⟩,h4⟩):=h;exact⟨x,ap,v,p,rfl,h1,by simpa using h2,h3,h4⟩
       |cons _ _=>exact ff h
      ·exact ff h
     |_=>exact ff h
    |_=>exact ff h
   exact Sd.of (qc (Yc (Bf (sB a c x h3).1 (sB b c v h4).1 h1 (Yj h4) h2) λσ hh=>by simp only[qa,mI]))
 |.pL a b,X,E,Ra,N,sc,c,e,h=>by
  replace h:=Qc h;cases e <;> exact ff h
 |.lm m o es,X,E,Ra,N,sc,c,e,h=>by
  have h:=Qc h;cases e with
  |Call g as ks p =>
   cases g with
   |Attribute x nm ap =>
    cases ks with
    |cons _ _=>exact ff h
    |nil =>
     have h:(nm==kg m&&zg x&&(ap.endLine==p.line)&&ze Pm o N sc x&&Ql Pm es N sc as&&(if as.isEmpty then hZ.contains m else iR.contains m&&decide (as.length<30)))=true:=h;simp only[Xa,beq_iff_eq] at h;obtain(⟨⟨⟨⟨⟨rfl,h1⟩,h2⟩,h3⟩,h4⟩,h5⟩):=h;have b:=mm es c as h4;have ho:=(sB o c x h3).1;have hl:(ap.endLine==p.line)=true:=by simpa using h2
     cases as with
     |nil =>
      cases es with
      |cons _ _=>exact b.elim
      |nil =>
       have C4:m∈hZ:=by simpa using h5
       simp only[hZ,ua,uc,or_false] at C4
       rcases C4 with rfl
       ·exact Sd.of (qc (Yc (Bb PySem.F.slot_list_reverse PySem.F.type_list_reverse zbr ho h1 hl) λσ hh=>by simp only[qa,Yg]))
     |cons v vs =>
      have C4:m∈iR/\(v::vs).length<30:=by simpa using h5
      obtain(⟨h6,h7⟩):=C4;simp only[iR,ua,uc,or_false] at h6
      rcases h6 with rfl|rfl
      ·exact Sd.of (qc (Yc (NU PySem.F.slot_list_append PySem.F.type_list_append zbM ho h1 b.pa b.plain h7 hl) λσ hh=>by simp only[qa]))
      ·exact Sd.of (qc (Yc (NU PySem.F.slot_list_extend PySem.F.type_list_extend YbT ho h1 b.pa b.plain h7 hl) λσ hh=>by simp only[qa]))
   |_=>exact ff h
  |_=>exact ff h
 |.comp fz elt tg it src cond bW js,X,E,Ra,N,sc,c,e,h=>by
  have h:=Qc h;cases e with
  |ListComp x gs cs p =>
   rcases gs with _|⟨⟨t,iter,ifs,a⟩,_|⟨g2,gs⟩⟩
   ·exact ff h
   ·have h:((a==0)&&ya iter&&Yx sc N cs (mG tg t++js.filterMap λj=>N[j]?) bW js&&decide (mG tg t++js.filterMap λj=>N[j]?).Nodup&&qx (rN cs) (mG tg t++js.filterMap λj=>N[j]?) (qD cs sc) tg t&&ze Pm elt (mG tg t++js.filterMap λj=>N[j]?) (qD cs sc) x&&pf Pm cond (mG tg t++js.filterMap λj=>N[j]?) (qD cs sc) ifs&&(if it == "seq" then nY Pm src N sc iter else if it == "signs" then nY Pm src N sc iter else if it == "enum1" then false else sF t it iter&&gl sc (kg it)&&Ql Pm src N sc (yy iter)))=true:=h;simp only[Xa,beq_iff_eq,decide_eq_true_eq] at h;obtain(⟨⟨⟨⟨⟨⟨⟨ha,h1⟩,h2⟩,h3⟩,h4⟩,h5⟩,h6⟩,h7⟩):=h;subst ha;have hi:PI X t iter (lI ct Ra E (Yg Pm (run Pm n) src) it):=by
     split at h7
     next hs =>
      subst hs;exact EU src c t iter h7
     next hs =>
      split at h7
      next CT =>
       subst CT;exact LL src c t iter h7
      next =>
      split at h7
      next gW =>
       exact ff h7
      next =>
       simp only[Xa] at h7;obtain(⟨⟨k1,k2⟩,k3⟩):=h7;exact Ea c k1 k2 (mm src c (yy iter) k3)
    exact Sd.of (qc (Yc (YcI fz (by rw[c.sc,c.nm];exact h2) c.calm hi (λC s3 H ex=>sG rfl (c.comp h3 C s3 H ex).sc h3 c.calm (λ_ z=>z) tg t h4) (λC s3 H ex=>LN cond (c.comp h3 C s3 H ex) ifs h6) (λC s3 H ex=>(sB elt (c.comp h3 C s3 H ex) x h5).1) h1) λσ hh=>by simp only[qa]))
   ·exact ff h
  |_=>exact ff h
 |.eI m,X,E,Ra,N,sc,c,e,h=>by
  have h:=Qc h;have h':ze Pm m N sc e=true:=h;exact⟨Yc (Bg (sB m c e h').1) λσ hh=>by simp only[qa],λz=>xg z⟩
theorem mm:∀(mL:List ME){X:Cx}{E:XK}{Ra:L2.St->Prop}{N:List Str} {sc:aA} (c:Cc X Pm ct n Ra E N sc) (es:List Expr),Ql Pm mL N sc es=true->Bo ct X Ra E Pm n mL es
 |[],X,E,Ra,N,sc,c,es,h=>by
  cases es with
  |nil=>trivial
  |cons e es=>exact ff h
 |m::ms,X,E,Ra,N,sc,c,es,h=>by
  cases es with
  |nil=>exact ff h
  |cons e es =>
   have h:=Zbm h;exact⟨⟨Yj h.1,sB m c e h.1⟩,mm ms c es h.2⟩
theorem EU:∀(mL:List ME){X:Cx}{E:XK}{Ra:L2.St->Prop}{N:List Str} {sc:aA} (c:Cc X Pm ct n Ra E N sc) (t e:Expr),nY Pm mL N sc e=true->PI X t e (lI ct Ra E (Yg Pm (run Pm n) mL) "seq")
 |[],X,E,Ra,N,sc,c,t,e,h=>ff h
 |[m],X,E,Ra,N,sc,c,t,e,h=>by
  have h:ze Pm m N sc e=true:=h;have:=zcO c.hK (tg:=t) (sB m c e h).1;have e2:Yg Pm (run Pm n) [m]=λσ hh=>(qa Pm (run Pm n) m σ hh).bind λx h1=>.ok [x] h1:=by
   funext σ hh;simp only[Yg] <;> rfl
  rw[e2];exact this
 |_::_::_,X,E,Ra,N,sc,c,t,e,h=>ff h
theorem LL:∀(mL:List ME){X:Cx}{E:XK}{Ra:L2.St->Prop}{N:List Str} {sc:aA} (c:Cc X Pm ct n Ra E N sc) (t e:Expr),nY Pm mL N sc e=true->PI X t e (lI ct Ra E (Yg Pm (run Pm n) mL) "signs")
 |[],X,E,Ra,N,sc,c,t,e,h=>ff h
 |[m],X,E,Ra,N,sc,c,t,e,h=>by
  have h:ze Pm m N sc e=true:=h;have:=Zcc (tg:=t) (sB m c e h).1;have e2:Yg Pm (run Pm n) [m]=λσ hh=>(qa Pm (run Pm n) m σ hh).bind λx h1=>.ok [x] h1:=by
   funext σ hh;simp only[Yg] <;> rfl
  rw[e2];exact this
 |_::_::_,X,E,Ra,N,sc,c,t,e,h=>ff h
theorem LM:∀(mo:Option ME){X:Cx}{E:XK}{Ra:L2.St->Prop}{N:List Str} {sc:aA} (c:Cc X Pm ct n Ra E N sc) (eo:Option Expr),tY Pm mo N sc eo=true->PO X eo (lO ct Ra E (BP Pm (run Pm n) mo))
 |none,X,E,Ra,N,sc,c,eo,h=>by
  cases eo with
  |none =>
   refine PO.imp ycn λσ H Q q=>?_;obtain⟨μ,hh,σs,rel,aI,ra,p⟩:=q;simp only[BP] at p;exact p.now rel
  |some e=>exact ff h
 |some m,X,E,Ra,N,sc,c,eo,h=>by
  cases eo with
  |none=>exact ff h
  |some e =>
   have h:ze Pm m N sc e=true:=h;refine PO.imp (qck (sB m c e h).1) λσ H Q q=>?_;obtain⟨μ,hh,σs,rel,aI,ra,p⟩:=q;simp only[BP] at p;refine lE.mk rel aI ra p λx v μ1 h1 H1 ex av aP rv p1=>?_;obtain⟨i,e,p2⟩:=Po.opt p1;have:=Ze e;subst this;exact⟨i,Yi rv,p2.now av⟩
theorem LN:∀(mo:Option ME){X:Cx}{E:XK}{Ra:L2.St->Prop}{N:List Str} {sc:aA} (c:Cc X Pm ct n Ra E N sc) (es:List Expr),pf Pm mo N sc es=true->mR X es (lT ct Ra E (v9 Pm (run Pm n) mo))
 |none,X,E,Ra,N,sc,c,es,h=>by
  cases es with
  |nil =>
   refine mR.imp zcr λσ H Q q=>?_;obtain⟨μ,hh,σs,rel,aI,ra,p⟩:=q;simp only[v9] at p;exact p.now rel
  |cons e es=>exact ff h
 |some m,X,E,Ra,N,sc,c,es,h=>by
  rcases es with _|⟨e,_|⟨e2,es⟩⟩
  ·exact ff h
  ·have h:(jM m&&ze Pm m N sc e)=true:=h;rw[Xa] at h;have e2:v9 Pm (run Pm n) (some m)=gu (qa Pm (run Pm n) m):=by
    funext σ hh;simp only[v9,gu]
   rw[e2];exact Zcp ((sB m c e h.2).2 h.1)
  ·exact ff h
end
end SD
end
section
namespace SD
open PySem PySem.Spec PyProof.Rows L2 L3 M3 MP
def gI(ct:Tx)(E:XK)(r:RS)(μ:List af)(h:MH)(H:Hp)(D:Ends):Prop:=match r with
 |.next σ' h'=>∀ μ' H' σ,Ext μ h H μ' h' H'->Rel ct μ' h' H'->aY ct μ' h' H' σ σ'->D.nx σ H'
 |.ret m h'=>∀ μ' H' v,Ext μ h H μ' h' H'->Rel ct μ' h' H'->RV ct μ' (a7 μ' h') H' m v->D.rt v H'
 |.brk σ' h'=>∀ μ' H' σ,Ext μ h H μ' h' H'->Rel ct μ' h' H'->aY ct μ' h' H' σ σ'->D.bk σ H'
 |.cnt σ' h'=>∀ μ' H' σ,Ext μ h H μ' h' H'->Rel ct μ' h' H'->aY ct μ' h' H' σ σ'->D.ct σ H'
 |.exc c h'=>∀ μ' H',Ext μ h H μ' h' H'->Rel ct μ' h' H'->E (.ref (ct c)) none H'
 |.stuck=>False
noncomputable def lS(ct:Tx)(Ra:L2.St->Prop)(E:XK)(ex:aL->MH->RS):TS:=λD σ H=>∃ μ h σs,Rel ct μ h H/\aY ct μ h H σ σs/\Ra σ/\gI ct E (ex σs h) μ h H D
section
variable {ct:Tx} {Pm:Prog} {n:Nat} {X:Cx} {E:XK} {Ra:L2.St->Prop} {N:List Str} {sc:aA}
section
variable {μ μ1:List af} {h h1:MH} {H H1:Hp} {D:Ends} {α:Type}
theorem gI.start{r:RS}(e:Ext μ h H μ1 h1 H1)(p:gI ct E r μ h H D):gI ct E r μ1 h1 H1 D:=by
 cases r with
 |next σ' h'=>exactλμ' H' σ e' r' q=>p μ' H' σ (e.trans e') r' q
 |ret m h'=>exactλμ' H' v e' r' q=>p μ' H' v (e.trans e') r' q
 |brk σ' h'=>exactλμ' H' σ e' r' q=>p μ' H' σ (e.trans e') r' q
 |cnt σ' h'=>exactλμ' H' σ e' r' q=>p μ' H' σ (e.trans e') r' q
 |exc c h'=>exactλμ' H' e' r'=>p μ' H' (e.trans e') r'
 |stuck=>exact p
theorem gI.st{r:R α}{k:α->MH->RS}(p:gI ct E (r.st k) μ h H D):Po ct E r μ h H λx μ1 h1 H1=>Ext μ h H μ1 h1 H1/\Rel ct μ1 h1 H1/\gI ct E (k x h1) μ1 h1 H1 D:=by
 cases r with
 |ok x h'=>exactλμ' H' e' r'=>⟨e',r',gI.start (r:=k x h') e' p⟩
 |exc c h'=>exact p
 |stuck=>exact p
theorem gI.opt{o:Option α}{k:α->RS}(p:gI ct E (qw o k) μ h H D):∃ x,o=some x/\gI ct E (k x) μ h H D:=by
 cases o with
 |none=>exact p.elim
 |some x=>exact⟨x,rfl,p⟩
end
section
variable {μ:List af} {h:MH} {H:Hp} {σ:L2.St} {σs:aL} {D:Ends}
theorem lE.st{ev:aL->MH->R MV}{k:MV->MH->RS}{Q:VK}(rel:Rel ct μ h H)(aI:aY ct μ h H σ σs)(ra:Ra σ)(p:gI ct E ((ev σs h).st k) μ h H D)
  (f:∀ m v μ1 h1 H1,Ext μ h H μ1 h1 H1->Rel ct μ1 h1 H1->aY ct μ1 h1 H1 σ σs->RV ct μ1 (a7 μ1 h1) H1 m v->gI ct E (k m h1) μ1 h1 H1 D->Q v H1):lE ct Ra E ev σ H Q :=
 ⟨μ,h,σs,rel,aI,ra,(gI.st p).imp λm μ1 h1 H1 ⟨e1,r1,p1⟩ v rv=>f m v μ1 h1 H1 e1 r1 (aI.ext e1) rv p1⟩
end
structure Cs (X:Cx) (Pm:Prog) (ct:Tx) (n:Nat) (E:XK) (N:List Str) (sc:aA):Prop where
 cc:Cc X Pm ct n (λ_=>True) E N sc
 ex:X.ex=[]
 own:iD (aq X.prog X.w) X.A X.env X.xe
 tk:Ia X E
 fn:∀ x,X.fn x=true
 kd:X.env.scope.kind=.function
 EL:X.stack=X.env::X.outer
 fr:X.env.frame=some X.env.locals
section
variable {ea eb ec:aL->MH->R MV} {a b c:Expr} {pos p2:Pos}
noncomputable def mQ:Expr->Bool
 |.ListComp ..=>true
 |.SetComp ..=>true
 |.DictComp ..=>true
 |_=>false
theorem IU{e:Expr}{t:Option Expr}{l:Nat}{env:Env}(h:mQ e=false):bc e t l env=pure false:=by
 cases e <;> first|rfl|(simp[mQ] at h)
theorem LU{e t:Expr}{l:Nat}{env:Env}(h1:∀ x gs cs p,bc (.ListComp x gs cs p) (some t) l env=pure false)(h2:∀ x gs cs p,bc (.SetComp x gs cs p) (some t) l env=pure false)(h3:∀ x y gs cs p,bc (.DictComp x y gs cs p) (some t) l env=pure false):bc e (some t) l env=pure false:=by
 cases hl:mQ e with
 |false=>exact IU hl
 |true =>
  cases e with
  |ListComp x gs cs p=>exact h1 _ _ _ _
  |SetComp x gs cs p=>exact h2 _ _ _ _
  |DictComp x y gs cs p=>exact h3 _ _ _ _ _
  |_=>exact xg (show false=true from hl)
theorem u6{x:Expr}{gs:List jV}{cs:aA}{p:Pos}{t:Expr}{l:Nat}{env:Env}(h:∀ x p,t≠.Name x p):bc (.ListComp x gs cs p) (some t) l env=pure false:=by
 cases t with
 |Name x p=>exact absurd rfl (h x p)
 |_=>rfl
theorem YcQ(ha:PE X a (lE ct Ra E ea))(hl:mQ a=false):PS X (.Expr a pos) (lS ct Ra E λσ h=>(ea σ h).st λ_ h1=>.next σ h1):=PS.imp (Ycv ha (IU hl)) λD σ H q=>by
 obtain⟨μ,h,σs,rel,aI,ra,p⟩:=q;exact lE.st rel aI ra p λm v μ1 h1 H1 ex av aP rv p1=>p1 μ1 H1 σ (Ext.refl _ _ _) av aP
theorem vL(ha:PE X a (lE ct Ra E ea)):PS X (.Return (some a) pos) (lS ct Ra E λσ h=>(ea σ h).st λv h1=>.ret v h1):=PS.imp (qcZ ha) λD σ H q=>by
 obtain⟨μ,h,σs,rel,aI,ra,p⟩:=q;exact lE.st rel aI ra p λm v μ1 h1 H1 ex av aP rv p1=>p1 μ1 H1 v (Ext.refl _ _ _) av rv
theorem ES{x y:List Stmt}{ex ey:aL->MH->RS}(tc:PT X c (lT ct Ra E (gu ec)))(hx:iL X x (lS ct Ra E ex))(hy:iL X y (lS ct Ra E ey)) :
  PS X (.If c x y pos) (lS ct Ra E λσ h=>(ec σ h).st λv h1=>qw (YE v) λk=>if k=true then ex σ h1 else ey σ h1):=PS.imp (wL tc hx hy) λD σ H q=>by
 obtain⟨μ,h,σs,rel,aI,ra,p⟩:=q;have p':gI ct E ((gu ec σs h).st λk h1=>if k=true then ex σs h1 else ey σs h1) μ h H D:=by
  dsimp only[gu] at p ⊢;cases er:ec σs h with
  |stuck=>rw[er] at p;exact p
  |exc c h'=>rw[er] at p;exact p
  |ok x h' =>
   rw[er] at p;simp only[R.aw,R.st_ok] at p ⊢;cases eb:YE x with
   |none=>rw[eb] at p;exact p.elim
   |some k=>rw[eb] at p;exact p
 refine⟨μ,h,σs,rel,aI,ra,(gI.st p').imp λk μ1 h1 H1 ⟨ig,av,p1⟩=>?_⟩;cases k with
 |true=>exact⟨μ1,h1,σs,av,aI.ext ig,ra,p1⟩
 |false=>exact⟨μ1,h1,σs,av,aI.ext ig,ra,p1⟩
theorem vK{tg:Tg}(c:Cs X Pm ct n E N sc)(ht:qx rj N sc tg b=true)(ha:PE X a (lE ct (λ_=>True) E ea))(hs:bc a (some b) pos.line X.env=pure false)(hw:gB [b] a X.env=pure none) :
  PS X (.Assign [b] a pos) (lS ct (λ_=>True) E λσ h=>(ea σ h).st λv h1=>qw (ZC tg v σ) λσ1=>.next σ1 h1):=by
 refine PS.imp (OJ ha (sG (ct:=ct) c.cc.nm c.cc.sc c.cc.nd c.cc.calm (λx _=>c.fn x) tg b ht) hs hw (by rw[DW ht [] X.env];rfl)) λD σ H q=>?_;obtain⟨μ,h,σs,rel,aI,ra,p⟩:=q;refine lE.st rel aI ra p λm v μ1 h1 H1 ex av aP rv p1=>?_;obtain⟨σ1,e,p2⟩:=gI.opt p1;exact⟨μ1,h1,σs,m,σ1,av,aP,rv,e,λσ' kK=>p2 μ1 H1 σ' (Ext.refl _ _ _) av kK⟩
theorem zbw{o i : Expr}{env : Env}(hp : ya i=true) : ∀ v, eG (.Subscript o i pos) env v=(do
   let ov<-ee [v] (eval o env)
   let iv<-ee [v,ov] (eval i env)
   j2 pos
   ee [v,ov,iv] (j4 ov iv v)
   release [v,ov,iv] []):=by
 intro v;cases i <;> first|rfl|(simp[ya] at hp)
theorem Qb9{o i:Expr}(ha:PE X a (lE ct Ra E ea))(ho:PE X o (lE ct Ra E eb))(hi:PE X i (lE ct Ra E ec))(hp:ya i=true) :
  PS X (.Assign [.Subscript o i p2] a pos) (lS ct Ra E λσ h=>(ea σ h).st λv h1=>(eb σ h1).st λx h2=>(ec σ h2).st λy h3 =>
   match x with
   |.ref a=>qw (Zd h3 a) λxs=>qw (Zc y) λk=>qw (lg xs.length k) λj=>.next σ (Qb h3 a (xs.set j v))
   |_=>.stuck):=by
 refine PS.imp (OJ ha (ZcG ho hi zca (zbw hp)) (show jH [Expr.Subscript o i p2] a pos.line X.env=pure false from LU (e:=a) (t:=.Subscript o i p2) (l:=pos.line) (env:=X.env) (λ_ _ _ _=>rfl) (λ_ _ _ _=>rfl) (λ_ _ _ _ _=>rfl)) (by cases a <;> rfl) rfl) λD σ H q=>?_;obtain⟨μ,h,σs,rel,aI,ra,p⟩:=q;refine lE.st rel aI ra p λm v μ1 h1 H1 ig av aP rv p1=>?_;refine lE.st av aP ra p1 λm2 v2 μ2 h2 H2 d0 aU cW hX p2=>?_;refine lE.st aU cW ra p2 λm3 v3 μ3 h3 H3 gG eD mV vQ p3=>?_;cases m2 with
 |ref i0 =>
  obtain⟨xs,e1,p4⟩:=gI.opt p3;obtain⟨k,e2,p5⟩:=gI.opt p4;obtain⟨j,e3,p6⟩:=gI.opt p5;have:=Ze e2;subst this;obtain⟨b',vs,iS,hb,rs⟩:=eD.lst e1;have mU:=hX.ext gG;simp only[RV] at mU;obtain⟨b0,o8,rfl⟩:=mU;rw[iS] at o8;cases o8;have e4:=yJ e1;have lr:=Ext.set (H:=H3) eD iS e4 (λz=>nomatch z) (.lst (xs.set j m)) (.lst (vs.set j v));refine⟨b',vs,k,j,rfl,Yi vQ,hb,by rw[rs.length,<- L8];exact e3,?_⟩;refine p6 μ3 _ σ lr (eD.set iS e4 (λz=>nomatch z) ⟨_,qg,?_⟩) (mV.ext lr);exact aD.set (((rv.ext d0).ext gG).ext lr) j (rs.ext lr)
 |f _=>exact p3.elim
 |tup _=>exact p3.elim
 |exc _=>exact p3.elim
theorem ycP{o i:Expr}{k1:Nat}{p1:Pos}(hu:X.A.units+65<dY)(ho:PE X o (lE ct Ra E eb))(hi:PE X i (lE ct Ra E ec)) :
  PS X (.Assign [.Subscript o i p2] (.Constant (.bool true) k1 p1) pos) (lS ct Ra E λσ h=>(eb σ h).st λx h1=>(ec σ h1).st λy h2=>qw (Zc y) λj=>match x with
   |.ref a=>qw (pB h2 (.ref a)) λks=>if ks.length<1000000 then .next σ (h2.set a (.iQ (Yt ks j))) else .stuck
   |_=>.stuck):=by
 refine PS.imp (Ycu (by lia) ho hi Dt rfl) λD σ H q=>?_;obtain⟨μ,h,σs,rel,aI,ra,p⟩:=q;refine lE.st rel aI ra p λm2 v2 μ2 h2 H2 d0 aU cW hX p2=>?_;refine lE.st aU cW ra p2 λm3 v3 μ3 h3 H3 gG eD mV vQ p3=>?_;obtain⟨k,e2,p4⟩:=gI.opt p3;have:=Ze e2;subst this;cases m2 with
 |ref i0 =>
  obtain⟨ks,e1,p5⟩:=gI.opt p4;split at p5
  next hk =>
   obtain⟨i',ei,hc⟩:=zX e1;cases ei;have mU:=hX.ext gG;simp only[RV] at mU;obtain⟨b0,o8,rfl⟩:=mU;have hH:H3 b0=some (.dK (nI ks)):=eD.cells _ _ _ o8 hc;have lr:=Ext.set (H:=H3) eD o8 hc (λz=>nomatch z) (.iQ (Yt ks k)) (.dK (nI (Yt ks k)));refine⟨b0,_,rfl,by rw[Yi vQ];exact nQ.k (k:=Jb k) hH (by rw[xc,cC];lia),?_⟩;rw[Fx];exact p5 μ3 _ σ lr (eD.set o8 hc (λz=>nomatch z) qg) (mV.ext lr)
  next=>exact p5.elim
 |f _=>exact p4.elim
 |tup _=>exact p4.elim
 |exc _=>exact p4.elim
theorem LY{μ:List af}{L:af->Prop}{H:Hp}{f:String}{m:MV}{v:V}(r:RV ct μ L H m v):∀{fs:List (String×MV)} {gs:List (Str×V)},gs.map Vt=fs.map (λp=>kg p.1)->aD ct μ L H (fs.map Um) (gs.map Um) ->
  (zH (kg f) v gs).map Vt=(nZ f m fs).map (λp=>kg p.1)/\aD ct μ L H ((nZ f m fs).map Um) ((zH (kg f) v gs).map Um)
 |[],gs,h1,h2=>by
  cases gs with
  |nil=>exact⟨rfl,aD.cons r aD.nil⟩
  |cons p gs=>simp at h1
 |(k,y)::fs,gs,h1,h2=>by
  cases gs with
  |nil=>simp at h1
  |cons p gs =>
   obtain⟨k',u⟩:=p;simp only[Ub,Jl.injEq] at h1;obtain⟨rfl,h3⟩:=h1;simp only[Ub,aD] at h2;obtain⟨w,t,e,q1,q2⟩:=h2;cases e;unfold zH nZ;by_cases hk:k=f
   ·subst hk;rw[if_pos rfl,if_pos rfl];exact⟨by simp[h3],by simp only[Ub];exact aD.cons r q2⟩
   ·rw[if_neg hk,if_neg (λz=>hk (QH z))];obtain⟨i1,i2⟩:=LY (f:=f) r h3 q2;exact⟨by simp[i1],by simp only[Ub];exact aD.cons q1 i2⟩
theorem ybX{o:Expr}{f:String}(T:Txt X.prog X.w X.K X.mg X.base Pm ct n)(ha:PE X a (lE ct Ra E ea))(ho:PE X o (lE ct Ra E eb)) :
  PS X (.Assign [.Attribute o (kg f) p2] a pos) (lS ct Ra E λσ h=>(ea σ h).st λv h1=>(eb σ h1).st λx h2=>match x with
   |.ref a=>match h2[a]? with
    |some (.obj c fs)=>if Pm.fG c f=true/\fs.length<100 then .next σ (h2.set a (.obj c (nZ f v fs))) else .stuck
    |_=>.stuck
   |_=>.stuck):=by
 refine PS.imp (YcZ ho ha (LU (λ_ _ _ _=>rfl) (λ_ _ _ _=>rfl) (λ_ _ _ _ _=>rfl))) λD σ H q=>?_;obtain⟨μ,h,σs,rel,aI,ra,p⟩:=q;refine lE.st rel aI ra p λm v μ1 h1 H1 ig av aP rv p1=>?_;refine lE.st av aP ra p1 λm2 v2 μ2 h2 H2 d0 aU cW hX p2=>?_;cases m2 with
 |ref i0 =>
  dsimp only at p2;split at p2
  next c fs ec =>
   split at p2
   next ok =>
    obtain⟨Cq,ng⟩:=ok;obtain⟨b,dx,gs,eb,hb,q1,q2⟩:=aU.obj ec;simp only[RV] at hX;obtain⟨b0,o8,rfl⟩:=hX;rw[eb] at o8;cases o8;obtain⟨t1,t2⟩:=T.fG c f Cq;have hl:gs.length=fs.length:=by have:=congrArg WB q1;simpa using this
    have gG:=Ext.set (H:=H2) aU eb ec (λz=>nomatch z) (.obj c (nZ f m fs)) (.ins (ct c) dx (zH (kg f) v gs));refine⟨b,ct c,dx,gs,rfl,hb,t1,t2,by lia,?_⟩;obtain⟨s1,s2⟩:=LY (f:=f) ((rv.ext d0).ext gG) q1 (q2.ext gG);exact p2 μ2 _ σ gG (aU.set eb ec (λz=>nomatch z) ⟨dx,_,qg,s1,s2⟩) (cW.ext gG)
   next=>exact p2.elim
  next=>exact p2.elim
 |f _=>exact p2.elim
 |tup _=>exact p2.elim
 |exc _=>exact p2.elim
end
end
end SD
end
section
namespace SD
open PySem PySem.Spec PyProof.Rows L2 L3 M3 MP
section
variable {ct:Tx} {Pm:Prog} {n:Nat} {X:Cx} {E:XK} {N:List Str} {sc:aA}
abbrev yes:L2.St->Prop:=λ_=>True
section
variable {ea eb ec:aL->MH->R MV} {a b c:Expr} {pos p2:Pos}
theorem OB{st:Stmt}{rest:List Stmt}{ex ey:aL->MH->RS}(h1:PS X st (lS ct yes E ex))(h2:iL X rest (lS ct yes E ey)):iL X (st::rest) (lS ct yes E λσ h=>(ex σ h).bind λσ1 h1=>ey σ1 h1):=iL.imp (Zb2 h1 h2) λD σ H q=>by
 obtain⟨μ,h,σs,rel,aI,ra,p⟩:=q;refine⟨μ,h,σs,rel,aI,ra,?_⟩;dsimp only at p;cases er:ex σs h with
 |next σ' h' =>
  rw[er] at p;intro μ' H' σv e1 r1 q1;exact⟨μ',h',σ',r1,q1,trivial,gI.start e1 p⟩
 |ret m h'=>rw[er] at p;exact p
 |brk σ' h'=>rw[er] at p;exact p
 |cnt σ' h'=>rw[er] at p;exact p
 |exc c h'=>rw[er] at p;exact p
 |stuck=>rw[er] at p;exact p
theorem vM:iL X [] (lS ct yes E λσ h=>.next σ h):=iL.imp Ycl λD σ H q=>by
 obtain⟨μ,h,σs,rel,aI,ra,p⟩:=q;exact p μ H σ (Ext.refl _ _ _) rel aI
theorem ycN:PS X (.Pass pos) (lS ct yes E λσ h=>.next σ h):=PS.imp ycl λD σ H q=>by
 obtain⟨μ,h,σs,rel,aI,ra,p⟩:=q;exact p μ H σ (Ext.refl _ _ _) rel aI
theorem vO{tg:Tg}{t iter:Expr}{body:List Stmt}{it:String}{ev:aL->MH->R (List MV)}{ex:aL->MH->RS}(c:Cs X Pm ct n E N sc)(hi:PI X t iter (lI ct yes E ev it))(ht:qx rj N sc tg t=true)(hb:iL X body (lS ct yes E ex))(bE:ya iter=true) :
  PS X (.For t iter body [] pos) (lS ct yes E λσ h=>(ev σ h).st λxs h1=>qw (iB it xs h1) λp=>YO p.2 (Zi tg ex) p.1 σ h1):=by
 refine PS.imp (zc0 c.own c.cc.calm hi (sG (ct:=ct) c.cc.nm c.cc.sc c.cc.nd c.cc.calm (λx _=>c.fn x) tg t ht) hb (yH bE)) λD σ H q=>?_;obtain⟨μ,h,σs,rel,aI,ra,p⟩:=q;refine⟨μ,h,σs,rel,aI,ra,(gI.st p).imp λxs μ1 h1 H1 ⟨ig,av,p1⟩=>?_⟩;obtain⟨⟨items,g⟩,e1,p2⟩:=gI.opt p1;refine⟨items,g,e1,av,λJ wk=>?_⟩;dsimp only at p2;refine⟨λi m σ' H'=>∃ μ' h' σs',m=items.length-i/\i<=items.length/\Ext μ1 h1 H1 μ' h' H'/\Rel ct μ' h' H'/\aY ct μ' h' H' σ' σs'/\gI ct E (YO g (Zi tg ex) (items.drop i) σs' h') μ' h' H' D,?_,?_⟩
 ·exact⟨items.length,μ1,h1,σs,by simp,Xq _,Ext.refl _ _ _,av,aI.ext ig,by simpa using p2⟩
 ·rintro i m σ' H' ⟨μ',h',σs',rfl,kG,d0,aZ,kK,p3⟩;by_cases lt:i<items.length
  ·right
   have ed:items.drop i=items[i]::items.drop (i+1):=Xz lt;rw[ed] at p3;simp only[YO] at p3;split at p3
   next gd =>
    obtain⟨w1,_⟩:=wk i μ' h' H' d0 aZ gd;obtain⟨go,yl⟩:=w1 lt;refine⟨go,λσ2 H2=>∃ μ2 h2 σ2s,Ext μ1 h1 H1 μ2 h2 H2/\Rel ct μ2 h2 H2/\aY ct μ2 h2 H2 σ2 σ2s/\gI ct E (YO g (Zi tg ex) (items.drop (i+1)) σ2s h2) μ2 h2 H2 D,λσ2 H2 ⟨μ2,h2,σ2s,e2,r2,q2,p4⟩=>⟨items.length-(i+1),by lia,μ2,h2,σ2s,rfl,lt,e2,r2,q2,p4⟩,λx H2 y=>?_⟩;obtain⟨mx,em,gG,aU,rx⟩:=yl x H2 y;have HB:mx=items[i]:=by simpa[lt] using em.symm
    subst HB;have p4:=gI.start gG p3;unfold Zi at p4;cases eb:ZC tg items[i] σs' with
    |none=>rw[eb] at p4;exact p4.elim
    |some σ2s =>
     rw[eb] at p4;simp only[Fq] at p4;refine⟨μ',h',σs',items[i],σ2s,aU,kK.ext gG,rx,eb,λσ2 cW=>?_⟩;refine⟨μ',h',σ2s,aU,cW,trivial,?_⟩;cases er:ex σ2s h' with
     |next σ3 h3 =>
      rw[er] at p4;intro μ3 H3 σv e3 r3 q3;exact⟨μ3,h3,σ3,(d0.trans gG).trans e3,r3,q3,gI.start e3 p4⟩
     |cnt σ3 h3 =>
      rw[er] at p4;intro μ3 H3 σv e3 r3 q3;exact⟨μ3,h3,σ3,(d0.trans gG).trans e3,r3,q3,gI.start e3 p4⟩
     |brk σ3 h3=>rw[er] at p4;exact p4
     |ret m h3=>rw[er] at p4;exact p4
     |exc c h3=>rw[er] at p4;exact p4
     |stuck=>rw[er] at p4;exact p4
   next=>exact p3.elim
  ·left
   have tD:i=items.length:=by lia
   subst tD;rw[wG] at p3;simp only[YO] at p3;split at p3
   next gd =>
    obtain⟨_,w2⟩:=wk items.length μ' h' H' d0 aZ gd;exact⟨w2 rfl,p3 μ' H' σ' (Ext.refl _ _ _) aZ kK⟩
   next=>exact p3.elim
theorem vN{i:Nat}{rest:List Stmt}{ey:aL->MH->RS}(h2:iL X rest (lS ct yes E ey)):iL X rest (lS ct yes E λσ h=>(qw ((σ[i]?).join) λv=>(ZJ v h).st λx h1=>.next (σ.set i (some x)) h1).bind λσ1 h1=>ey σ1 h1):=iL.imp h2 λD σ H q=>by
 obtain⟨μ,h,σs,rel,aI,ra,p⟩:=q;dsimp only at p;cases e:(σs[i]?).join with
 |none=>rw[e] at p;exact p.elim
 |some m =>
  rw[e] at p;simp only[Fq] at p;have e':σs[i]?=some (some m):=by
   cases q:σs[i]? with
   |none=>rw[q] at e;cases e
   |some z=>rw[q] at e;exact congrArg some e
  obtain⟨v,ev,rv⟩:=aI.at_ i m e';cases ef:ZJ m h with
  |stuck=>rw[ef] at p;exact p.elim
  |exc c h' =>
   unfold ZJ at ef;cases ed:zP h m with
   |none=>rw[ed] at ef;cases ef
   |some x=>rw[ed] at ef;cases ef
  |ok x h' =>
   rw[ef] at p;simp only[R.st_ok,RS.j0] at p;have po:Po ct E (ZJ m h) μ h H λy μ1 h1 H1=>y=x/\h1=h':=by rw[ef];exactλμ' H' _ _=>⟨rfl,rfl⟩
   obtain⟨y,tI,ig,av,lY,rfl,rfl⟩:=N9 rel rv po;refine⟨μ,tI,σs.set i (some (.f y)),av,?_,trivial,gI.start ig p⟩;have r2:=(aI.ext ig).set i lY;have:σ.set i (some v)=σ:=by
    apply Vd;intro j;by_cases hj:i=j
    ·subst hj;rw[xl (Wa.mp ev).1,ev]
    ·rw[Xk hj]
   rw[this] at r2;exact r2
end
end
end SD
end
section
namespace SD
open PySem PySem.Spec PyProof.Rows L2 L3 M3 MP
noncomputable def EK(sc cs:aA)(t:Str)(tp vp:Pos):Bool:=sc.names.lookup t==some .local&&tp.line==vp.line&&!(cs.names.any λ(n,k)=>n==t&&(k == .local||k == .cell))
theorem Pn{env:Env}(kd:env.scope.kind=.function)(e:Expr)(gs:List jV)(cs:aA)(vp:Pos)(t:Str)(tp:Pos)(l:Nat):bc (.ListComp e gs cs vp) (some (.Name t tp)) l env=pure (EK env.scope cs t tp vp):=by
 have hb:(env.blockKind==ScopeKind.function)=true:=by
  unfold Env.blockKind;rw[kd];rfl
 show(pure (env.blockKind == .function&&env.kindOf t==some .local&&tp.line==vp.line&&!(cs.names.any λ(n,k)=>n==t&&(k == .local||k == .cell))):Sem Bool)=_;rw[hb,WC];rfl
noncomputable def Ep:List Expr->Option (Str×Pos×Str×Pos)
 |[.Name x px,.Name y py]=>some (x,px,y,py)
 |_=>none
noncomputable def Pa:Expr->Option (List Expr)
 |.Tuple es _ _=>some es
 |_=>none
noncomputable def Co:Stmt->Option ((Str×Pos×Str×Pos)×Expr×Expr)
 |.Assign ts v _=>(rh ts).bind λt=>(Pa t).bind λes=>(Pa v).bind λvs=>(Ep es).bind λp=>(pA vs).map λq=>(p,q)
 |_=>none
noncomputable def BH:Expr->Option Str
 |.Name x _=>some x
 |_=>none
noncomputable def ycy:Expr->Option (Str×Str)
 |.Call f [a] [] _=>(BH f).bind λz=>(BH a).map λn=>(z,n)
 |_=>none
noncomputable def BG:Stmt->Option (Str×Str×Str)
 |.Assign [t] v _=>(BH t).bind λy=>(ycy v).map λq=>(y,q.1,q.2)
 |_=>none
noncomputable def GZ(bd:List Stmt):ExceptHandler->Option (List Stmt×Str×Str×Str×Str×Str)
 |.ExceptHandler (some t) (some nm) [s] _=>(BH t).bind λx=>(BG s).map λq=>(bd,x,nm,q)
 |_=>none
noncomputable def NO:Expr->Option Str
 |.Constant (.str g) _ _=>some g
 |_=>none
noncomputable def D':ME->Bool
 |.comp ..=>true
 |_=>false
noncomputable def Cn:Expr->Expr->Bool
 |.Tuple ..,.Tuple ..=>true
 |_,_=>false
noncomputable def vG(tg:Tg)(t:Expr)(N:List Str)(sc:aA):Bool:=match tg with
 |.nm i=>match BH t with
  |some x=>N[i]? == some x&&sc.names.lookup x==some .local
  |none=>false
 |_=>false
section
variable (Pm:Prog)
mutual
noncomputable def Bs(ms:MS)(N:List Str)(sc:aA)(st:Stmt):Bool:=match ms,st with
 |.expr e,.Expr v _=>!(mQ v)&&ze Pm e N sc v
 |.ite c a b,.If t x y _=>jM c&&ze Pm c N sc t&&K3 a N sc x&&K3 b N sc y
 |.set tg e,.Assign [t] v _=>vG tg t N sc&&!(mQ v)&&ze Pm e N sc v
 |_,_=>false
noncomputable def K3(sY:List MS)(N:List Str)(sc:aA)(iX:List Stmt):Bool:=match sY with
 |[]=>iX.isEmpty
 |m::ms=>match iX with
  |[st]=>ms.isEmpty&&Bs m N sc st
  |_=>false
end
mutual
noncomputable def DU(ms:MS)(N:List Str)(sc:aA)(st:Stmt):Bool:=match ms,st with
 |.set tg e,.Assign [t] v _=>qx rj N sc tg t&&ze Pm e N sc v&&!(Cn t v)&&(if mQ v then D' e else true)
 |.iy o i e,.Assign [.Subscript x y _] v _=>ze Pm e N sc v&&ze Pm o N sc x&&ze Pm i N sc y
 |.gP o n e,.Assign [.Attribute x m _] v _=>m==kg n&&ze Pm e N sc v&&ze Pm o N sc x
 |.oF o k,.Assign [.Subscript x y _] (.Constant (.bool b) _ _) _=>b&&ze Pm o N sc x&&ze Pm k N sc y
 |.expr e,.Expr v _=>!(mQ v)&&ze Pm e N sc v
 |.ret e,.Return (some v) _=>ze Pm e N sc v
 |.ite c a b,.If t x y _=>jM c&&ze Pm c N sc t&&yG a N sc x&&yG b N sc y
 |.for_ tg it src body,.For t iter bd [] _=>ya iter&&qx rj N sc tg t&&yG body N sc bd &&
   (if it == "seq" then nY Pm src N sc iter else if it == "keys" then false else if it == "items" then false else if it == "enum1" then false else sF t it iter&&gl sc (kg it)&&Ql Pm src N sc (yy iter))
 |.dB,_=>true
 |.pass,.Pass _=>true
 |_,_=>false
noncomputable def yG(sY:List MS)(N:List Str)(sc:aA)(iX:List Stmt):Bool:=match sY with
 |[]=>iX.isEmpty
 |.oY _::ms=>yG ms N sc iX
 |m::ms=>match iX with
  |st::iX=>DU m N sc st&&yG ms N sc iX
  |[]=>false
end
end
section
variable {ct:Tx} {Pm:Prog} {n:Nat}
section
variable {X:Cx} {E:XK} {N:List Str} {sc:aA}
theorem yq{st:Stmt}{ex oZ:aL->MH->RS}{Ra:L2.St->Prop}(p:PS X st (lS ct Ra E ex))(h:∀ σ hh,oZ σ hh=ex σ hh):PS X st (lS ct Ra E oZ):=by
 have:oZ=ex:=funext λσ=>funext λhh=>h σ hh;rw[this];exact p
theorem QP{st:List Stmt}{ex oZ:aL->MH->RS}{Ra:L2.St->Prop}(p:iL X st (lS ct Ra E ex))(h:∀ σ hh,oZ σ hh=ex σ hh):iL X st (lS ct Ra E oZ):=by
 have:oZ=ex:=funext λσ=>funext λhh=>h σ hh;rw[this];exact p
theorem qcV(fz:Bool){i:Nat}{x:Str}{elt iter tg:Expr}{ifs:List Expr}{cs:aA}{N':List Str}{bW:Nat}{js:List Nat}{it:String}{t:Tg}{es:aL->MH->R (List MV)}{tc:aL->MH->R Bool}{te:aL->MH->R MV}{pos tp vp:Pos}(c:Cs X Pm ct n E N sc)(l7:X.N[i]?=some x)(hx:Loc X.env.scope x)
  (aR:Yx X.env.scope X.N cs N' bW js=true) (hi:PI X tg iter (lI ct yes E es it)) (hg:∀ C s3 H ex,PG (iC X cs N' C s3 H ex) tg (lG ct t)) (oV:∀ C s3 H ex,mR (iC X cs N' C s3 H ex) ifs (lT ct (λ_=>True) E0 tc)) (ku:∀ C s3 H ex,PE (iC X cs N' C s3 H ex) elt (lE ct (λ_=>True) E0 te)) (bE:ya iter=true)
  (pM:bc (.ListComp elt [⟨tg,iter,ifs,0⟩] cs vp) (some (.Name x tp)) pos.line X.env=pure true) :
  PS X (.Assign [.Name x tp] (.ListComp elt [⟨tg,iter,ifs,0⟩] cs vp) pos) (lS ct yes E λσ h=>((es σ h).bind λxs h1=>opt (iB it xs h1) λp=>(Qj p.2 (zh t tc te) p.1 [] (MP.stM bW js σ) h1).bind λacc h3=>qo fz acc h3).st λv h1=>qw (ZC (.nm i) v σ) λσ1=>.next σ1 h1):=by
 refine PS.imp (Ycw c.cc.nd l7 hx N' bW js aR c.cc.calm hi hg oV ku pM (yH bE) (.inl (c.fn x))) λD σ H q=>?_;obtain⟨μ,h,σs,rel,aI,ra,p⟩:=q;refine Lf fz σ H _ (lE.st (ev:=λσ h=>(es σ h).bind λxs h1=>opt (iB it xs h1) λp=>(Qj p.2 (zh t tc te) p.1 [] (MP.stM bW js σ) h1).bind λacc h3=>qo fz acc h3) rel aI ra p λm v μ1 h1 H1 ex av aP rv p1=>?_);obtain⟨σ1,e,p2⟩:=gI.opt p1;simp only[ZC,gb.injEq] at e;subst e;exact p2 μ1 H1 _ (Ext.refl _ _ _) av (aP.set i rv)
theorem Ya7{t v:Expr}{env:Env}{lo:Str->Bool}{tg:Tg}(ht:qx lo N sc tg t=true)(hv:Cn t v=false):gB [t] v env=pure none:=by
 cases tg with
 |nm i =>
  cases t with
  |Name x p=>cases v <;> rfl
  |_=>simp[qx] at ht
 |tp ts =>
  cases t with
  |Tuple es k p=>cases v <;> first|rfl|(exact xg hv)
  |_=>simp[qx] at ht
theorem zcM{tg:Tg}{me:ME}{t v:Expr}{pos:Pos}(c:Cs X Pm ct n E N sc)(h1:qx rj N sc tg t=true)(h2:ze Pm me N sc v=true)(h3:Cn t v=false)(h4:(if mQ v=true then D' me else true)=true) :
  PS X (.Assign [t] v pos) (lS ct yes E λσ h=>(qa Pm (run Pm n) me σ h).st λv h1=>qw (ZC tg v σ) λσ1=>.next σ1 h1):=by
 by_cases hs:bc v (some t) pos.line X.env=pure false
 ·exact vK c h1 (sB me c.cc v h2).1 hs (Ya7 h1 h3)
 ·cases hl:mQ v with
  |false=>exact absurd (IU hl) hs
  |true =>
   rw[hl] at h4;cases me with
   |comp fz elt rD it src cond bW js =>
    have Nv:=h2;have h:=Qc h2;cases v with
    |ListComp x gs cs p =>
     rcases gs with _|⟨⟨t',iter,ifs,a⟩,_|⟨g2,gs⟩⟩
     ·exact ff h
     ·have h:((a==0)&&ya iter&&Yx sc N cs (mG rD t'++js.filterMap λj=>N[j]?) bW js&&decide (mG rD t'++js.filterMap λj=>N[j]?).Nodup&&qx (rN cs) (mG rD t'++js.filterMap λj=>N[j]?) (qD cs sc) rD t'&&ze Pm elt (mG rD t'++js.filterMap λj=>N[j]?) (qD cs sc) x&&pf Pm cond (mG rD t'++js.filterMap λj=>N[j]?) (qD cs sc) ifs&&(if it == "seq" then nY Pm src N sc iter else if it == "signs" then nY Pm src N sc iter else if it == "enum1" then false else sF t' it iter&&gl sc (kg it)&&Ql Pm src N sc (yy iter)))=true:=h;simp only[Xa,beq_iff_eq,decide_eq_true_eq] at h;obtain⟨⟨⟨⟨⟨⟨⟨ha,k1⟩,k2⟩,k3⟩,k4⟩,k5⟩,k6⟩,k7⟩:=h;subst ha;have hi:PI X t' iter (lI ct yes E (Yg Pm (run Pm n) src) it):=by
       split at k7
       next hs=>subst hs;exact EU src c.cc t' iter k7
       next hs =>
        split at k7
        next CT=>subst CT;exact LL src c.cc t' iter k7
        next =>
        split at k7
        next gW =>
         exact ff k7
        next =>
         simp only[Xa] at k7;exact Ea c.cc k7.1.1 k7.1.2 (mm src c.cc (yy iter) k7.2)
      cases t with
      |Name y tp =>
       cases tg with
       |nm i =>
        simp only[qx,rF,Xa,beq_iff_eq,wl] at h1;rw[Pn c.kd] at hs;have pM:EK X.env.scope cs y tp p=true:=by
         cases e:EK X.env.scope cs y tp p with
         |true=>rfl
         |false=>rw[e] at hs;exact absurd rfl hs
        have hx:Loc X.env.scope y:=by
         rw[c.cc.sc]
         rcases h1.2 with z|⟨_,z⟩
         ·exact .inl z
         ·exact .inr z
        refine yq (qcV fz (tp:=tp) c (by rw[c.cc.nm];exact h1.1) hx (by rw[c.cc.sc,c.cc.nm];exact k2) hi (λC s3 H ex=>sG rfl (c.cc.comp k3 C s3 H ex).sc k3 c.cc.calm (λ_ z=>z) rD t' k4) (λC s3 H ex=>LN cond (c.cc.comp k3 C s3 H ex) ifs k6) (λC s3 H ex=>(sB elt (c.cc.comp k3 C s3 H ex) x k5).1) k1 (by rw[Pn c.kd,pM])) λσ hh=>?_;simp only[qa]
       |tp ts=>simp[qx] at h1
      |_=>exact absurd (u6 (by intro x p z;cases z)) hs
     ·exact ff h
    |_=>first|exact xg hl|exact ff h
   |_=>exact xg h4
end
mutual
theorem sS:∀(ms:MS){X:Cx}{E:XK}{N:List Str}{sc:aA} (c:Cs X Pm ct n E N sc) (st:Stmt),DU Pm ms N sc st=true->PS X st (lS ct yes E (qC Pm (run Pm n) ms))
 |.set tg e,X,E,N,sc,c,st,h=>by
  cases st with
  |Assign ts v p =>
   rcases ts with _|⟨t,_|⟨t2,ts⟩⟩
   ·exact ff h
   ·have h:(qx rj N sc tg t&&ze Pm e N sc v&&!(Cn t v)&&(if mQ v then D' e else true))=true:=h;simp only[Xa,wn] at h;obtain⟨⟨⟨h1,h2⟩,h3⟩,h4⟩:=h;exact yq (zcM c h1 h2 h3 h4) λσ hh=>by simp only[qC]
   ·exact ff h
  |_=>exact ff h
 |.iy o i e,X,E,N,sc,c,st,h=>by
  cases st with
  |Assign ts v p =>
   rcases ts with _|⟨t,_|⟨t2,ts⟩⟩
   ·exact ff h
   ·cases t with
    |Subscript x y p2 =>
     have h:(ze Pm e N sc v&&ze Pm o N sc x&&ze Pm i N sc y)=true:=h;simp only[Xa] at h;obtain⟨⟨h1,h2⟩,h3⟩:=h;exact yq (Qb9 (sB e c.cc v h1).1 (sB o c.cc x h2).1 (sB i c.cc y h3).1 (Yj h3)) λσ hh=>by simp only[qC] <;> rfl
    |_=>exact ff h
   ·cases t <;> exact ff h
  |_=>exact ff h
 |.oF o k,X,E,N,sc,c,st,h=>by
  cases st with
  |Assign ts v p =>
   rcases ts with _|⟨t,_|⟨t2,ts⟩⟩
   ·exact ff h
   ·cases t with
    |Subscript x y p2 =>
     cases v with
     |Constant kk j p3 =>
      cases kk with
      |bool b =>
       have h:(b&&ze Pm o N sc x&&ze Pm k N sc y)=true:=h;simp only[Xa] at h;obtain⟨⟨rfl,h2⟩,h3⟩:=h;exact yq (ycP c.cc.units (sB o c.cc x h2).1 (sB k c.cc y h3).1) λσ hh=>by simp only[qC] <;> rfl
      |_=>exact ff h
     |_=>exact ff h
    |_=>exact ff h
   ·cases t <;> exact ff h
  |_=>exact ff h
 |.dB,X,E,N,sc,c,st,h=>λpins s σ H D I q=>by
  obtain⟨μ,hh,σs,rel,aI,ra,p⟩:=q;simp only[qC] at p;exact p.elim
 |.par i j a b,X,E,N,sc,c,st,h=>ff h
 |.gP o f e,X,E,N,sc,c,st,h=>by
  cases st with
  |Assign ts v p =>
   rcases ts with _|⟨t,_|⟨t2,ts⟩⟩
   ·exact ff h
   ·cases t with
    |Attribute x m p2 =>
     have h:(m==kg f&&ze Pm e N sc v&&ze Pm o N sc x)=true:=h;simp only[Xa,beq_iff_eq] at h;obtain⟨⟨rfl,h2⟩,h3⟩:=h;exact yq (ybX c.cc.txt (sB e c.cc v h2).1 (sB o c.cc x h3).1) λσ hh=>by simp only[qC] <;> rfl
    |_=>exact ff h
   ·cases t <;> exact ff h
  |_=>exact ff h
 |.expr e,X,E,N,sc,c,st,h=>by
  cases st with
  |Expr v p =>
   have h:(!(mQ v)&&ze Pm e N sc v)=true:=h;simp only[Xa,wn] at h;exact yq (YcQ (sB e c.cc v h.2).1 h.1) λσ hh=>by simp only[qC]
  |_=>exact ff h
 |.ret e,X,E,N,sc,c,st,h=>by
  cases st with
  |Return v p =>
   cases v with
   |some v=>exact yq (vL (sB e c.cc v (show ze Pm e N sc v=true from h)).1) λσ hh=>by simp only[qC]
   |none=>exact ff h
  |_=>exact ff h
 |.ite d a b,X,E,N,sc,c,st,h=>by
  cases st with
  |If t x y p =>
   have h:(jM d&&ze Pm d N sc t&&yG Pm a N sc x&&yG Pm b N sc y)=true:=h;simp only[Xa] at h;obtain⟨⟨⟨h0,h1⟩,h2⟩,h3⟩:=h;exact yq (ES ((sB d c.cc t h1).2 h0) (rL a c x h2) (rL b c y h3)) λσ hh=>by simp only[qC]
  |_=>exact ff h
 |.for_ tg it src body,X,E,N,sc,c,st,h=>by
  cases st with
  |For t iter bd oe p =>
   cases oe with
   |cons _ _=>exact ff h
   |nil =>
    have h:(ya iter&&qx rj N sc tg t&&yG Pm body N sc bd&&(if it == "seq" then nY Pm src N sc iter else if it == "keys" then false else if it == "items" then false else if it == "enum1" then false else sF t it iter&&gl sc (kg it)&&Ql Pm src N sc (yy iter)))=true:=h;simp only[Xa] at h;obtain⟨⟨⟨h1,h2⟩,h3⟩,h4⟩:=h;have hi:PI X t iter (lI ct yes E (Yg Pm (run Pm n) src) it):=by
     split at h4
     next hs =>
      have hs':it="seq":=by simpa using hs
      subst hs';exact EU src c.cc t iter h4
     next hs =>
      split at h4
      next gW =>
       have hs':it="keys":=by simpa using gW
       subst hs';exact ff h4
      next =>
       split at h4
       next CT =>
        exact ff h4
       next =>
       split at h4
       next hs3 =>
        exact ff h4
       next =>
        simp only[Xa] at h4;exact Ea c.cc h4.1.1 h4.1.2 (mm src c.cc (yy iter) h4.2)
    exact yq (vO c hi h2 (rL body c bd h3) h1) λσ hh=>by simp only[qC]
  |_=>exact ff h
 |.while_ d body,X,E,N,sc,c,st,h=>ff h
 |.pass,X,E,N,sc,c,st,h=>by
  cases st with
  |Pass p=>exact yq ycN λσ hh=>by simp only[qC]
  |_=>exact ff h
 |.oY i,X,E,N,sc,c,st,h=>by
  exact ff h
theorem rL:∀(sY:List MS){X:Cx}{E:XK}{N:List Str}{sc:aA} (c:Cs X Pm ct n E N sc) (iX:List Stmt),yG Pm sY N sc iX=true->iL X iX (lS ct yes E (Yb Pm (run Pm n) sY))
 |[],X,E,N,sc,c,iX,h=>by
  cases iX with
  |nil=>exact QP vM λσ hh=>by simp only[Yb]
  |cons _ _=>exact ff h
 |m::ms,X,E,N,sc,c,iX,h=>by
  cases m with
  |oY i=>exact QP (vN (i:=i) (rL ms c iX h)) λσ hh=>by simp only[Yb,qC]
  |dB =>
   cases iX with
   |nil=>exact ff h
   |cons st iX =>
    have h2:yG Pm ms N sc iX=true:=h;exact QP (OB (sS .dB c st rfl) (rL ms c iX h2)) λσ hh=>by simp only[Yb]
  |_ =>
   cases iX with
   |nil=>exact ff h
   |cons st iX =>
    first
    |(have h:(DU Pm _ N sc st&&yG Pm ms N sc iX)=true:=h;simp only[Xa] at h;exact QP (OB (sS _ c st h.1) (rL ms c iX h.2)) λσ hh=>by simp only[Yb])
    |exact ff h
end
end
end SD
end
section
namespace SD
open PySem PySem.Spec PyProof.Rows L2 L3 M3 MP
noncomputable def yf(Pm:Prog)(d:aQ)(N ps:List Str)(st:Stmt):Bool :=
 (yc st).kind == .function&&!(yc st).isCoroutine&&!(yc st).isGenerator&&decide N.Nodup&&decide (N.take ps.length=ps)&&ps.all (λx=>(yc st).names.lookup x==some .local||(yc st).names.lookup x==some .cell) &&
  (yc st).names.all (λy=>y.2 != .free)&&d.np==ps.length&&d.ns==N.length&&yG Pm d.body N (yc st) (Zh st)
section
variable {P:ao} {w:World} {K:gc} {mg:Str->Option Value} {base:Heap} {Pm:Prog} {ct:Tx} {n:Nat} {d:aQ} {N ps:List Str} {st:Stmt} {f:String}
theorem YI(h:yf Pm d N ps st=true):iT N ps (yc st)/\d.np=ps.length/\d.ns=N.length/\yG Pm d.body N (yc st) (Zh st)=true:=by
 unfold yf at h;simp only[Xa,beq_iff_eq,wn,decide_eq_true_eq,Xj,wl,bne_iff_ne,ne_eq] at h;obtain⟨⟨⟨⟨⟨⟨⟨⟨⟨h1,h2⟩,h3⟩,h4⟩,h5⟩,h6⟩,h7⟩,h8⟩,h9⟩,C5⟩:=h;exact⟨⟨h1,h2,h3,h4,h5,h6,h7⟩,h8,h9,C5⟩
theorem K0{ms:List MV}{h:MH}{r:R MV}(hd:Pm.defs f=some d)(e:MP.run Pm (n+1) f ms h=r)(hr:r≠.stuck):ms.length=d.np/\r=Zb h (Yb Pm (MP.run Pm n) d.body (ms.map some++xa (d.ns-d.np) none) h):=by
 simp only[MP.run,hd,Qd] at e;split at e
 next c=>exact⟨c,e.symm⟩
 next=>exact absurd e.symm hr
theorem DF(hd:Pm.defs f=some d)(hn:d.np=ps.length):∀ vs H Q E,iF ct (MP.run Pm (n+1) f) vs H Q E->vs.length=ps.length:=by
 intro vs H Q E ⟨μ,h,ms,rel,eO,p⟩;cases er:MP.run Pm (n+1) f ms h with
 |stuck=>rw[er] at p;exact p.elim
 |ok x h'=>rw[eO.length,(K0 hd er (λz=>nomatch z)).1,hn]
 |exc c h'=>rw[eO.length,(K0 hd er (λz=>nomatch z)).1,hn]
theorem En(T:Txt P w K mg base Pm ct n)(hK:K=ct.K)(hd:Pm.defs f=some d)(hb:yf Pm d N ps st=true)(qual:Str)(fa:af)(cE:Value)(A:Around)(outer:List Env)(s:Shared)(H:Hp)(vs:List V)(Q:VK)(E:XK)
  (hr:dw (2*n+1) (A.deeper (eF qual (yc st) s.heap.objs.size fa cE))) (lh:iF ct (MP.run Pm (n+1) f) vs H Q E) :
  ∃ t,iL (mP (kH P w) P w K mg base N qual (yc st) fa cE A outer s H E) (Zh st) t/\t {nx:=λ_ H'=>Q .a9 H',rt:=Q} (L2.start N vs) H:=by
 obtain⟨S,hn,hs,hc⟩:=YI hb;have cs:Cs (mP (kH P w) P w K mg base N qual (yc st) fa cE A outer s H E) Pm ct n E N (yc st) :=
  ⟨⟨T,rfl,hr,λσ _ pins H s e s' I h=>ybL rfl Om pins σ H s e s' I h,rfl,rfl,S.nd,hK⟩,rfl,zco,Om,λ_=>rfl,S.kind,rfl,rfl⟩
 refine⟨_,rL d.body cs (Zh st) hc,?_⟩;obtain⟨μ,h,ms,rel,eO,p⟩:=lh;have hlen:=DF hd hn vs H Q E ⟨μ,h,ms,rel,eO,p⟩;have CY:ms.length=d.np:=by rw[<- eO.length,hlen,hn]
 refine⟨μ,h,ms.map some++xa (d.ns-d.np) none,rel,?_,trivial,?_⟩
 ·refine⟨by unfold L2.start;simp[eO.length,CY,hs],λi m e=>?_⟩;by_cases hi:i<ms.length
  ·rw[ub (by simpa using hi),Ua] at e;cases em:ms[i]? with
   |none=>rw[em] at e;cases e
   |some m' =>
    rw[em] at e;simp only[Xf,gb.injEq] at e;subst e;obtain⟨v,ev,rv⟩:=eO.get em;refine⟨v,?_,rv⟩;unfold L2.start;rw[ub (by rw[xc,eO.length];exact hi),Ua,ev];rfl
  ·rw[Vc (by simpa using hi),Uk] at e;split at e <;> cases e
 ·have er:MP.run Pm (n+1) f ms h=Zb h (Yb Pm (MP.run Pm n) d.body (ms.map some++xa (d.ns-d.np) none) h):=by
   simp only[MP.run,hd,Qd,if_pos CY]
  rw[er] at p;cases ex:Yb Pm (MP.run Pm n) d.body (ms.map some++xa (d.ns-d.np) none) h with
  |next σ' h' =>
   rw[ex] at p;intro μ' H' σ e1 r1 q1;obtain⟨ν,rfl⟩:=e1.pre;exact LZ rel e1 r1 tZ p
  |ret m h' =>
   rw[ex] at p;intro μ' H' v e1 r1 rv;obtain⟨ν,rfl⟩:=e1.pre;exact LZ rel e1 r1 rv p
  |exc c h' =>
   rw[ex] at p;intro μ' H' e1 r1;obtain⟨ν,rfl⟩:=e1.pre;exact zbO rel e1 r1 p
  |brk σ' h'=>rw[ex] at p;exact p.elim
  |cnt σ' h'=>rw[ex] at p;exact p.elim
  |stuck=>rw[ex] at p;exact p.elim
theorem zbR(T:Txt P w K mg base Pm ct n)(hK:K=ct.K)(S:Src K mg (kg f) st ps)(hd:Pm.defs f=some d)(hb:yf Pm d N ps st=true):wH P w K mg base (kg f) (2*(n+1)) ps (iF ct (MP.run Pm (n+1) f)) :=
 qcY (k:=2*n+1) S (YI hb).1 (DF hd (YI hb).2.1) λfa cE A outer s H vs Q E hr lh=>En T hK hd hb _ fa cE A outer s H vs Q E hr lh
theorem El{x qual:Str}{fa:af}{fd:a8}(T:Txt P w K mg base Pm ct n)(hK:K=ct.K)(F:oh K x qual st fa fd)(hd:Pm.defs f=some d)(hb:yf Pm d N ps st=true):fk P w K mg base (kH P w) (2*(n+1)) fa fd ps (iF ct (MP.run Pm (n+1) f)):=by
 obtain⟨oc,od,kV,doc,pm,an,cE,ctv,jL,rfl,lk,mw⟩:=F.ex;exact Ir (k:=2*n+1) lk mw (YI hb).1 (DF hd (YI hb).2.1) λA outer s H vs Q E hr lh=>En T hK hd hb _ fa cE A outer s H vs Q E hr lh
theorem ybQ{x qual:Str}{fa:af}{fd:a8}(T:Txt P w K mg base Pm ct n)(hK:K=ct.K)(F:nP K x qual st fa fd)(hd:Pm.defs f=some d)(hb:yf Pm d N ps st=true):fk P w K mg base (kH P w) (2*(n+1)) fa fd ps (iF ct (MP.run Pm (n+1) f)):=by
 obtain⟨oc,od,dV,kV,doc,pm,an,cE,ctv,jL,rfl,lk,mw⟩:=F.ex;exact Ir (k:=2*n+1) lk mw (YI hb).1 (DF hd (YI hb).2.1) λA outer s H vs Q E hr lh=>En T hK hd hb _ fa cE A outer s H vs Q E hr lh
end
theorem ln0{α:Type}{us:List α}(h:us.length=0):us=[]:=uq h
theorem sZ{α:Type}{n:Nat}{us:List α}(h:us.length=n+1):∃ a vs,us=a::vs/\vs.length=n:=by
 cases us with
 |nil=>cases h
 |cons a vs=>exact⟨a,vs,rfl,Nat.succ.inj h⟩
theorem MM{α:Type}{us:List α}(h:us.length=1):∃ a,us=[a]:=by obtain⟨a,vs,rfl,h2⟩:=sZ h;rw[ln0 h2];exact⟨a,rfl⟩
theorem ln2{α:Type}{us:List α}(h:us.length=2):∃ a b,us=[a,b]:=by obtain⟨a,vs,rfl,h2⟩:=sZ h;obtain⟨b,rfl⟩:=MM h2;exact⟨a,b,rfl⟩
theorem CB{α:Type}{us:List α}(h:us.length=3):∃ a b c,us=[a,b,c]:=by obtain⟨a,vs,rfl,h2⟩:=sZ h;obtain⟨b,c,rfl⟩:=ln2 h2;exact⟨a,b,c,rfl⟩
theorem ML{α:Type}{us:List α}(h:us.length=4):∃ a b c d,us=[a,b,c,d]:=by obtain⟨a,vs,rfl,h2⟩:=sZ h;obtain⟨b,c,d,rfl⟩:=CB h2;exact⟨a,b,c,d,rfl⟩
theorem MJ{α:Type}{us:List α}(h:us.length=5):∃ a b c d e,us=[a,b,c,d,e]:=by obtain⟨a,vs,rfl,h2⟩:=sZ h;obtain⟨b,c,d,e,rfl⟩:=ML h2;exact⟨a,b,c,d,e,rfl⟩
theorem ln6{α:Type}{us:List α}(h:us.length=6):∃ a b c d e f,us=[a,b,c,d,e,f]:=by obtain⟨a,vs,rfl,h2⟩:=sZ h;obtain⟨b,c,d,e,f,rfl⟩:=MJ h2;exact⟨a,b,c,d,e,f,rfl⟩
def BZ(P:String->aQ->Prop):List (String×aQ)->Prop
 |[]=>True
 |p::r=>P p.1 p.2/\BZ P r
theorem Oq{P:String->aQ->Prop}{f:String}{d:aQ}:∀{L:List (String×aQ)},BZ P L->L.lookup f=some d->P f d
 |[],_,h=>by cases h
 |(g,e)::r,⟨a,b⟩,h=>by
  rw[Wc] at h;cases hb:f==g with
  |true =>
   rw[hb] at h;cases h;rw[show f=g by simpa using hb];exact a
  |false =>
   rw[hb] at h;exact Oq b h
def KI(K:gc)(mg:Str->Option Value)(Pm:Prog)(ct:Tx)(f:String)(ps:List Str):Prop :=
 ∀(P:ao)(w:World)(base:Heap)(n:Nat),K.In base->(ct.cd≠0->sL mg base ct.cd ct.tb)->wH P w K mg base (kg f) (2*(n+1)) ps (iF ct (MP.run Pm (n+1) f))
structure Text (K:gc) (mg:Str->Option Value) (Pm:Prog) (ct:Tx):Prop where
 hK:K=ct.K
 defs:∀ f d,Pm.defs f=some d->f.toList.contains '.'=false->∃ st N ps,Src K mg (kg f) st ps/\(yf Pm d N ps st=true\/KI K mg Pm ct f ps)
 lZ:∀ c f,Pm.meths c "__init__"=some f->∃ d st N ps fa fd x qual,Pm.defs f=some d/\Mk K (ct c) fa/\oh K x qual st fa fd/\Binds K fd ps []/\mg (kg c)=some (.ref (ct c))/\yf Pm d N ps st=true
 fE:∀ x∈cX++dA++aX++["range","zip","enumerate","isinstance","sorted","reversed","set"],mg (kg x)=none
 fG:∀ c f,Pm.fG c f=true->ly K (ct c)/\fR K (ct c) (kg f)
 cls:∀ c t b,Pm.subs c t=some b->nR K (ct c)
 mT:∀ c t b,Pm.subs c t=some b->aX.contains t=false->mg (kg t)=some (.ref (ct t))/\Vg K (.ref (ct c)) (.ref (ct t))=some b
 ow:∀ c t b,Pm.subs c t=some b->aX.contains t=true->Vg K (.ref (ct c)) (.type t)=some b
 B9:∀ t c b,Pm.subs c t=some b->aX.contains t=false->∀ T∈["NoneType","bool","int","str","list","tuple"],Vg K (.type T) (.ref (ct t))=some false
 lL:∀ c,Pm.lL c=true->nN K (ct c)/\mg (kg c)=some (.ref (ct c))
 words:∀ wd,Pm.words wd=true->nN K (ct "DotError")/\mg "DotError"=some (.ref (ct "DotError"))/\(∀(P:ao)(w:World)(base:Heap),∃ ps,Pq P w K mg base (kg wd) 1 ps (LG ct Pm wd)) /\
  ∀ c s,Pm.word wd c=some s->nN K (ct c)/\(Dy K (ct c)).contains (.ref (ct "DotError"))=true
 mf:∀ t,Pm.mf t=true->(if t="ValueError" then mg "ValueError"=none else mg (kg t)=some (.ref (ct t)))
 xs:∀ c t b,Pm.lX c t=some b->BW K (ct c)/\Vg K (.ref (ct c)) (if t="ValueError" then .type "ValueError" else .ref (ct t))=some b
 nH:∀ f ds,Pm.nH f ds=true->∃ d st N ps fa fd dG,Pm.defs f=some d/\nP K (kg f) (kg f) st fa fd/\Binds K fd ps dG/\Vals (ds.map V.int) dG/\mg (kg f)=some (.ref fa)/\yf Pm d N ps st=true
 meths:∀ c m f,Pm.meths c m=some f->m≠"__init__"->ly K (ct c)/\∃ d st N ps fa fd x qual,Pm.defs f=some d/\Meth K (ct c) (kg m) fa/\oh K x qual st fa fd/\Binds K fd ps []/\yf Pm d N ps st=true
 nX:∀ c,Pm.nX c=true->DI K (ct c)/\mg (kg c)=some (.ref (ct c))
 bO:∀ x v,Pm.bO x=some v->JF mg x v
 rq:Pm.xt=true->nN K (ct "DotError")/\mg "DotError"=some (.ref (ct "DotError"))/\∀ c b,Pm.lX c c=some b->nN K (ct c)/\(Dy K (ct c)).contains (.ref (ct "DotError"))=true
theorem pG{ct:Tx}{Pm:Prog}{f:String}{vs:List V}{H:Hp}{Q:VK}{E:XK}(h:iF ct (MP.run Pm 0 f) vs H Q E):False:=by
 obtain⟨μ,h,ms,rel,eO,p⟩:=h;exact p
theorem qX{P:ao}{w:World}{K:gc}{mg:Str->Option Value}{base:Heap}{Pm:Prog}{ct:Tx}(T:Text K mg Pm ct)(kb:K.In base)(lb:ct.cd≠0->sL mg base ct.cd ct.tb):∀ n,Txt P w K mg base Pm ct n
 |0=>⟨λf d hd i8=>by
   obtain⟨st,N,ps,⟨fa,fd,F,b,m⟩,hb⟩:=T.defs f d hd i8;exact⟨ps,fa,fd,⟨λvs H Q E h=>(pG h).elim,λA outer s H args us vs Q E _ _ _ _ h=>(pG h).elim⟩,b,F.kp,m⟩,
  λc f hi=>by
   obtain⟨d,st,N,ps,fa,fd,x,qual,hd,M,F,b,m,hb⟩:=T.lZ c f hi;exact⟨ps,fa,fd,M,⟨λvs H Q E h=>(pG h).elim,λA outer s H args us vs Q E _ _ _ _ h=>(pG h).elim⟩,b,m⟩,
  T.fE,T.fG,T.cls,T.mT,T.ow,T.B9,T.lL,λwd hw=>let ⟨a,b,c,d⟩:=T.words wd hw;⟨a,b,c P w base,d⟩,T.mf,T.xs,λf ds hf=>let ⟨d,st,N,ps,fa,fd,dG,hd,F,b,vd,m,hb⟩:=T.nH f ds hf;⟨ps,fa,fd,dG,⟨λvs H Q E h=>(pG h).elim,λA outer s H args us vs Q E _ _ _ _ h=>(pG h).elim⟩,b,vd,F.kp,m⟩,T.rq,λc m f hm hi=>by
   obtain⟨cl,d,st,N,ps,fa,fd,x,qual,hd,M,F,b,hb⟩:=T.meths c m f hm hi;exact⟨cl,fa,fd,ps,M,⟨λvs H Q E h=>(pG h).elim,λA outer s H args us vs Q E _ _ _ _ h=>(pG h).elim⟩,b⟩,T.nX,T.bO⟩
 |n+1=>⟨λf d hd i8=>by
   obtain⟨st,N,ps,S,hb⟩:=T.defs f d hd i8;exact⟨ps,hb.elim (λhb=>zbR (qX T kb lb n) T.hK S hd hb) λhp=>hp P w base n kb lb⟩,
  λc f hi=>by
   obtain⟨d,st,N,ps,fa,fd,x,qual,hd,M,F,b,m,hb⟩:=T.lZ c f hi;exact⟨ps,fa,fd,M,El (qX T kb lb n) T.hK F hd hb,b,m⟩,
  T.fE,T.fG,T.cls,T.mT,T.ow,T.B9,T.lL,λwd hw=>let ⟨a,b,c,d⟩:=T.words wd hw;⟨a,b,c P w base,d⟩,T.mf,T.xs,λf ds hf=>let ⟨d,st,N,ps,fa,fd,dG,hd,F,b,vd,m,hb⟩:=T.nH f ds hf;⟨ps,fa,fd,dG,ybQ (qX T kb lb n) T.hK F hd hb,b,vd,F.kp,m⟩,T.rq,λc m f hm hi=>by
   obtain⟨cl,d,st,N,ps,fa,fd,x,qual,hd,M,F,b,hb⟩:=T.meths c m f hm hi;exact⟨cl,fa,fd,ps,M,El (qX T kb lb n) T.hK F hd hb,b⟩,T.nX,T.bO⟩
theorem QcL{K:gc}{ct:Tx}{Pm:Prog}{n:Nat}{H:Hp}{a:af}{ns:List Int}(hK:K=ct.K)(hO:BM H)(hS:gz K H a (ns.map V.int))(main:∃ h,MP.run Pm n "law" [.f (.eC ns)] []=.ok (.f (.bl true)) h) :
  iF ct (MP.run Pm n "law") [.ref a] H (λv _=>v=.bl true) λ_ _ _=>False:=by
 subst hK;refine⟨[],[],[.f (.eC ns)],⟨rfl,List.nodup_nil,λb hb=>by simp at hb,λi b c e=>by simp at e⟩,aD.cons ?_ aD.nil,?_⟩
 ·simp only[RV,RF];refine⟨a,rfl,?_⟩
  rcases hS with (e|⟨o,e⟩)|e
  ·rcases hO a with z|⟨o,xs,z⟩
   ·rw[z] at e;cases e
   ·rw[z] at e;cases e
  ·exact .inl ⟨λ⟨i,c,e,_⟩=>by simp at e,o,e⟩
  ·exact .inr e
 ·obtain⟨h,e⟩:=main;rw[e];intro μ' H' _ _ v rv;exact sV rv
end SD
end
section
namespace SD
open PySem PySem.Spec PyProof.Rows L2 L3 M3 MP
section
variable {K:gc} {t C:af} {cd:f'}
theorem QcT{T:String}(m:Ul K (.type T) (.ref C)=some false)(ci:Xy K C=some cd)(ty:Xx K (.ref C)=some (.type "type")):Vg K (.type T) (.ref C)=some false:=by
 unfold Vg PySem.W.kitCls;rw[if_neg (λe=>by have e':Ha T=ka C:=eq_of_beq e;cases e')];show(if((Xy K C).isSome&&Xx K (.ref C)==some (.type "type"))=true then Ul K (.type T) (.ref C) else none)=some false;rw[ci,ty,if_pos (by rfl),m]
theorem Ycr(C:af):∀ T∈["NoneType","bool","int","str","list","tuple"],Ul K (.type T) (.ref C)=some false:=by
 intro T hT;simp only[ua,uc,or_false] at hT
 rcases hT with rfl|rfl|rfl|rfl|rfl|rfl <;> rfl
end
theorem iw{K:gc}{h:Heap}{mg:Str->Option Value}{x:Str}{st:Stmt}{ps:List Str}{f:af}{oc:Value}{od an:Option af}{jL:Array (Option Value)}{kV doc pm cE ct:Value}(X:K.In h)(G:h.Ns aB mg)
  (hb:∀(kV doc pm:Value)(an:Option af)(cE ct:Value)(us:List Value),us.length=ps.length->bindArgs (wg x x (zk st) (Zh st) (yc st) .none kV doc pm an cE ct) ⟨us,[]⟩=pure (ps.zip us))
  (a:Wp K aB x=some (some (.ref f))) (l:K.lookup f=some ⟨oc,od,.func (wg x x (zk st) (Zh st) (yc st) .none kV doc pm an cE ct),jL⟩)
  (c:uk K cE x=true) (k:Ug K (.ref f)=true):Src K mg x st ps :=
 ⟨f,_,D6 (st:=st) l c k,(HZ (st:=st) l c k).binds hb,Vp X G a⟩
theorem ox{K:gc}{h:Heap}{mg:Str->Option Value}{x:Str}{st:Stmt}{ps:List Str}{f T:af}{to:Obj}{items:Array Value}{n:Nat}{oc:Value}{od an:Option af}{jL:Array (Option Value)}{kV doc pm cE ct:Value}(X:K.In h)(G:h.Ns aB mg)
  (a:Wp K aB x=some (some (.ref f))) (l:K.lookup f=some ⟨oc,od,.func (wg x x (zk st) (Zh st) (yc st) (.ref T) kV doc pm an cE ct),jL⟩)
  (c:uk K cE x=true) (k:Ug K (.ref f)=true) (lt:K.lookup T=some to) (hs:to.data=.seq items n)
  (hb:∀ us:List Value,us.length=ps.length->∃ k,bindArgs (wg x x (zk st) (Zh st) (yc st) (.ref T) kV doc pm an cE ct) ⟨us,[]⟩=fW (.ref T) >>= k/\k (some items)=pure (ps.zip us)):Src K mg x st ps :=
 ⟨f,_,D6 (st:=st) l c k,λs us KX hl=>by
  rw[xw] at hl ⊢;obtain⟨g,h1,h2⟩:=hb us hl;exact eA.of_defaults rfl (KX _ _ lt) hs h1 h2,Vp X G a⟩
theorem YbO{K:gc}{x qual:Str}{st:Stmt}{ps:List Str}{T:af}{to:Obj}{items:Array Value}{n:Nat}{an:Option af}{kV doc pm cE ct:Value}{ds:List Value}(lt:K.lookup T=some to)(hs:to.data=.seq items n)
  (hb:∀ us:List Value,(us++ds).length=ps.length->∃ k,bindArgs (wg x qual (zk st) (Zh st) (yc st) (.ref T) kV doc pm an cE ct) ⟨us,[]⟩=fW (.ref T) >>= k/\k (some items)=pure (ps.zip (us++ds))) :
  Binds K (wg x qual (zk st) (Zh st) (yc st) (.ref T) kV doc pm an cE ct) ps ds:=λs us KX hl=>by
 obtain⟨g,h1,h2⟩:=hb us hl;exact eA.of_defaults rfl (KX _ _ lt) hs h1 h2
def sI(K:gc)(mg:Str->Option Value)(x:Str)(st:Stmt)(ps:List Str)(ds:List Int):Prop :=
 ∃ fa fd dG,nP K x x st fa fd/\Binds K fd ps dG/\Vals (ds.map V.int) dG/\mg x=some (.ref fa)
theorem oy{K:gc}{h:Heap}{mg:Str->Option Value}{x:Str}{st:Stmt}{ps:List Str}{f T:af}{to:Obj}{items:Array Value}{n:Nat}{oc:Value}{od an:Option af}{jL:Array (Option Value)}{kV doc pm cE ct:Value}{ds:List Int}(j m:Nat)(X:K.In h)(G:h.Ns aB mg)
  (a:Wp K aB x=some (some (.ref f))) (l:K.lookup f=some ⟨oc,od,.func (wg x x (zk st) (Zh st) (yc st) (.ref T) kV doc pm an cE ct),jL⟩)
  (c:uk K cE x=true) (k:Ug K (.ref f)=true) (lt:K.lookup T=some to) (hs:to.data=.seq items n)
  (hv:Vals (ds.map V.int) (items.toList.drop j)) (hm:m+(items.toList.drop j).length=ps.length) (hb:∀ us:List Value,us.length=m->∃ k,bindArgs (wg x x (zk st) (Zh st) (yc st) (.ref T) kV doc pm an cE ct) ⟨us,[]⟩=fW (.ref T) >>= k/\k (some items)=pure (ps.zip (us++items.toList.drop j))):sI K mg x st ps ds :=
 ⟨f,_,items.toList.drop j,D6 (st:=st) l c k,YbO lt hs (λus hl=>hb us (by rw[xf] at hl;lia)),hv,Vp X G a⟩
noncomputable def Dx(K:gc):Sp:=λvs H Q E=>∃(a:af)(ns:List Int),vs=[.ref a]/\ns.length<=63/\BM H/\gz K H a (ns.map V.int)/\Q=(λv _=>v=.bl true)/\E=λ_ _ _=>False
theorem qcJ{P:ao}{w:World}{K:gc}{mg:Str->Option Value}{base:Heap}{Pm:Prog}{ct:Tx}{n:Nat}{d:aQ}{N ps:List Str}{st:Stmt}{fa:af}{fd:a8}(T:Text K mg Pm ct)(kb:K.In base)(lb:ct.cd≠0->sL mg base ct.cd ct.tb)(F:oh K "law" "law" st fa fd)(hd:Pm.defs "law"=some d)(hb:yf Pm d N ps st=true)
  (main:∀ ns:List Int,ns.length<=63->∃ h,MP.run Pm (n+1) "law" [.f (.eC ns)] []=.ok (.f (.bl true)) h):fk P w K mg base (kH P w) (2*(n+1)) fa fd ps (Dx K) :=
 (El (qX T kb lb n) T.hK F hd hb).imp λvs H Q E ⟨a,ns,e1,hl,hO,hS,e2,e3⟩=>by
  subst e1;subst e2;subst e3;exact QcL T.hK hO hS (main ns hl)
theorem walk{l:Gc}{q:ao}{loose:List Str}{XP:(Str->Option Value)->Heap->Prop}{YP:World->Heap->Prop}{d:DefRec}{K:lU->gc}{k:Nat}(hn:l.most=some 63)(AR:d.params.defaults=[])(hr:dw k fh)
  (hY:∀(w:World)(h:Heap),YP w h->(K w.params).In h)
  (F:∀(w:World)(mg:Str->Option Value)(fa:af)(h:Heap),(K w.params).In h->h.Ns aB mg->mg d.name=some (.ref fa) ->
   ∃ fd:a8,(∀(s:Shared)(u:Value),eA s fd ⟨[u],[]⟩ [("_law_script",u)])/\∀ base:Heap,(K w.params).In base->base.Ns aB mg->fk l.prog w (K w.params) mg base (kH l.prog w) k fa fd ["_law_script"] (Dx (K w.params))) :
  Hd q loose XP YP l.row.toRowW d [] (λf vs=>Jc f vs) :=
 L2.oq (n:=63) (k:=k) (x:="_law_script") (CX:=λw=>kH l.prog w) (sp:=λw=>Dx (K w.params)) hn (by decide) AR hr hY F (λ_ _ a ns hl hO hS=>⟨a,ns,rfl,hl,hO,hS,rfl,rfl⟩) λ_ _ _ _ _ ⟨_,_,_,_,_,_,_,_,_,_,_,_,_,_,_,z⟩=>z
structure CK (K:gc) (x:Str) (C:af) (cd:f'):Prop where
 a:Wp K aB x=some (some (.ref C))
 ci:Xy K C=some cd
 ty:Xx K (.ref C)=some (.type "type")
 pg:Xv K C jg=true
 hd:Xu K C=true
 po:Vy K C=true
 sa:Ve K (.ref C) "__setattr__"=some (some (.builtin "object.__setattr__"))
 cl:Ve K (.ref C) "__class__"=some (some (.builtin "object.__class__"))
 mo:Wy K C (.type "object")=some true
 s0:Ul K (.ref C) (.ref C)=some true
 k0:Ul K (.ref C) (.type "dict")=some false
 k1:Ul K (.ref C) (.type "list")=some false
 k2:Ul K (.ref C) (.type "tuple")=some false
 k3:Ul K (.ref C) (.type "str")=some false
 k4:Ul K (.ref C) (.type "int")=some false
 k5:Ul K (.ref C) (.type "bool")=some false
structure FK (K:gc) (x q:Str) (st:Stmt) (f:af) (oc:Value) (od:Option af) (kV dc pm:Value) (an:Option af) (cv ct:Value) (sl:Array (Option Value)):Prop where
 im:WD K (.ref f)=true
 lm:K.lookup f=some ⟨oc,od,.func (wg x q (zk st) (Zh st) (yc st) .none kV dc pm an cv ct),sl⟩
 km:uk K cv q=true
 MN:Ug K (.ref f)=true
def FE(K:gc)(x q:Str)(st:Stmt)(f:af):Prop:=∃ oc od kV dc pm an cv ct sl,FK K x q st f oc od kV dc pm an cv ct sl
structure IK (K:gc) (C f:af):Prop where
 ai:Ve K (.ref C) "__init__"=some (some (.ref f))
 mi:Wt K C=true
 kc:Ug K (.ref C)=true
def sD{β:Type}(P:String->String->β->Prop):List ((String×String)×β)->Prop
 |[]=>True
 |((c,t),b)::r=>P c t b/\sD P r
theorem Qu{β:Type}{P:String->String->β->Prop}{c t:String}{b:β}:∀{L:List ((String×String)×β)},sD P L->L.lookup (c,t)=some b->P c t b
 |[],_,h=>by cases h
 |((x,y),e)::r,a,h=>by
  rw[Wc] at h;cases hb:(c,t)==(x,y) with
  |true =>
   rw[hb] at h;cases h;have z:(c,t)=(x,y):=eq_of_beq hb;cases z;exact a.1
  |false =>
   rw[hb] at h;exact Qu a.2 h
section
variable {K:gc} {h:Heap} {mg:Str->Option Value} {Pm:Prog} {ct:Tx} {c t m g:String} {cd cd':f'} {b:Bool} {f:af} {st:Stmt} {N ps:List Str} {d:aQ} {q:Str}
theorem CK.cls{x:Str}{C:af}(k:CK K x C cd):ly K C:=⟨k.pg,k.hd,k.po,k.sa⟩
def BJ(K:gc)(mg:Str->Option Value)(ct:Tx)(c t:String)(b:Bool):Prop:=ly K (ct c)/\(∃ x cd,CK K x (ct c) cd) /\
 (aX.contains t=false->(∃ x cd,CK K x (ct t) cd)/\mg (kg t)=some (.ref (ct t))/\Vg K (.ref (ct c)) (.ref (ct t))=some b)/\(aX.contains t=true->Vg K (.ref (ct c)) (.type t)=some b)
def B2(K:gc)(mg:Str->Option Value)(Pm:Prog)(ct:Tx)(c m g:String):Prop:=ly K (ct c)/\∃ d st N ps fa fd x qual,Pm.defs g=some d/\Meth K (ct c) (kg m) fa/\oh K x qual st fa fd/\Binds K fd ps []/\yf Pm d N ps st=true /\
 (m="__init__"->Mk K (ct c) fa/\mg (kg c)=some (.ref (ct c)))
abbrev BY(x q:Str)(st:Stmt)(ps:List Str):Prop:=∀(kV doc pm:Value)(an:Option af)(cE ct:Value)(us:List Value),us.length=ps.length->bindArgs (wg x q (zk st) (Zh st) (yc st) .none kV doc pm an cE ct) ⟨us,[]⟩=pure (ps.zip us)
theorem Mi(X:K.In h)(G:h.Ns aB mg)(kC:CK K (kg c) (ct c) cd)(fe:FE K "__init__" q st f)(i:IK K (ct c) f)(hb:BY "__init__" q st ps)(db:yf Pm d N ps st=true)(hd:Pm.defs g=some d):B2 K mg Pm ct c "__init__" g:=by
 obtain⟨oc,od,kV,dc,pm,an,cv,ct',sl,k⟩:=fe;have F:=HZ (st:=st) k.lm k.km k.MN;exact⟨kC.cls,d,st,N,ps,f,_,_,q,hd,⟨i.ai,k.im,k.MN⟩,F,F.binds hb,db,λ_=>⟨⟨i.mi,i.ai,k.im,i.kc⟩,Vp X G kC.a⟩⟩
end
section
variable {K:gc} {mg:Str->Option Value} {Pm:Prog} {ct:Tx} {c t m g:String} {b:Bool}
theorem qcL{L:List ((String×String)×String)}(T:sD (B2 K mg Pm ct) L)(h:L.lookup (c,"__init__")=some g):∃ d st N ps fa fd x qual,Pm.defs g=some d/\Mk K (ct c) fa/\oh K x qual st fa fd/\Binds K fd ps []/\mg (kg c)=some (.ref (ct c))/\yf Pm d N ps st=true:=by
 obtain⟨_,d,st,N,ps,fa,fd,x,q,a,_,F,b,e,z⟩:=Qu T h;exact⟨d,st,N,ps,fa,fd,x,q,a,(z rfl).1,F,b,(z rfl).2,e⟩
theorem QcE{L:List ((String×String)×String)}(T:sD (B2 K mg Pm ct) L)(h:L.lookup (c,m)=some g):ly K (ct c)/\∃ d st N ps fa fd x qual,Pm.defs g=some d/\Meth K (ct c) (kg m) fa/\oh K x qual st fa fd/\Binds K fd ps []/\yf Pm d N ps st=true:=by
 obtain⟨k,d,st,N,ps,fa,fd,x,q,a,M,F,b,e,z⟩:=Qu T h;exact⟨k,d,st,N,ps,fa,fd,x,q,a,M,F,b,e⟩
variable {L:List ((String×String)×Bool)} (T:sD (BJ K mg ct) L) (h:L.lookup (c,t)=some b)
include T h
theorem HN(gn:Uq K (.builtin "object.__class__") "__get__"=some (some (.builtin "getset_descriptor.__get__")))(tk:Xt K (.builtin "object.__class__")=some true):nR K (ct c):=by
 obtain⟨_,⟨x,cd,k⟩,_⟩:=Qu T h;exact⟨k.cls,k.cl,gn,tk,k.mo⟩
theorem tyT(ht:aX.contains t=false){TT:String}(z:TT∈["NoneType","bool","int","str","list","tuple"]):Vg K (.type TT) (.ref (ct t))=some false:=by
 obtain⟨x,cd,k⟩:=((Qu T h).2.2.1 ht).1;exact QcT (Ycr _ TT z) k.ci k.ty
end
end SD
end
section
namespace MP
open PySem
noncomputable def YH:aQ:=⟨1,1,[.ret (.blt true "tuple" [.comp true (.blt true "tuple" [.var 0]) (.nm 0) "seq" [.var 0] none 1 []])]⟩
noncomputable def QI:aQ:=⟨3,4,[.ite (.cmp .lt (.var 2) (.cI 1)) [.ret (.cS "the greatest number is below 1")] [],.ite (.or [.cmp .eq (.blt true "len" [.var 0]) (.cI 0),.cmp .eq (.blt true "len" [.sub (.var 0) (.cI 0)]) (.cI 0)]) [.ret (.cS "there are no cells")] [],.for_ (.nm 3) "seq" [.var 0] [.ite (.cmp .ne (.blt true "len" [.var 3]) (.blt true "len" [.sub (.var 0) (.cI 0)])) [.ret (.cS "the rows' lengths differ")] [],.ite (.or [.cmp .lt (.blt true "min" [.var 3]) (.var 1),.cmp .gt (.blt true "max" [.var 3]) (.var 2)]) [.ret (.cS "a number is below the least or above the greatest")] []],.ret (.cN)]⟩
noncomputable def bI:aQ:=⟨2,4,[.set (.nm 2) (.lst false []),.for_ (.nm 3) "range" [.var 0] [.expr (.lm "extend" (.var 2) [.comp true (.tup [.var 1,.var 0]) (.nm 0) "range" [.var 1] none 1 [3]])],.ret (.var 2)]⟩
noncomputable def zo:aQ:=⟨3,5,[.set (.nm 3) (.call "own_rows" [.var 2]),.set (.nm 4) (.call "fault_of" [.var 3,.cI 0,.var 1]),.ite (.mn (.var 4)) [.dB] [],.gP (.var 0) "most" (.var 1),.gP (.var 0) "rows" (.var 3)]⟩
noncomputable def Cm:aQ:=⟨1,1,[.ret (.blt true "len" [.fld (.var 0) "rows"])]⟩
noncomputable def DA:aQ:=⟨1,1,[.ret (.blt true "len" [.sub (.fld (.var 0) "rows") (.cI 0)])]⟩
noncomputable def eR:aQ:=⟨1,1,[.ret (.tup [.call "high" [.var 0],.call "wide" [.var 0]])]⟩
noncomputable def dJ:aQ:=⟨2,2,[.ret (.and [.chain .le .lt (.cI 0) (.sub (.var 1) (.cI 0)) (.call "high" [.var 0]),.chain .le .lt (.cI 0) (.sub (.var 1) (.cI 1)) (.call "wide" [.var 0])])]⟩
noncomputable def dU:aQ:=⟨2,2,[.ite (.not (.call "has_cell" [.var 0,.var 1])) [.dB] []]⟩
noncomputable def dP:aQ:=⟨2,2,[.ite (.or [.cmp .lt (.var 0) (.cI 1),.cmp .lt (.var 1) (.cI 1)]) [.dB] []]⟩
noncomputable def dQ:aQ:=⟨5,5,[.expr (.call "ask_size" [.var 3,.var 4]),.expr (.call "ask_cell" [.var 0,.tup [.var 1,.var 2]]),.expr (.call "ask_cell" [.var 0,.tup [.bin true .sub (.bin true .add (.var 1) (.var 3)) (.cI 1),.bin true .sub (.bin true .add (.var 2) (.var 4)) (.cI 1)]])]⟩
noncomputable def eT:aQ:=⟨5,5,[.expr (.call "ask_part" [.var 0,.var 1,.var 2,.var 3,.var 4]),.ret (.make true "Picture" [.fld (.var 0) "most",.comp true (.slice true (.var 0) (some (.var 1)) (some (.bin true .add (.var 1) (.var 2)))) (.nm 0) "seq" [.slice true (.fld (.var 0) "rows") (some (.var 1)) (some (.bin true .add (.var 1) (.var 3)))] none 1 [2,4]])]⟩
noncomputable def c9:aQ:=⟨2,2,[.ite (.cmp .ne (.fld (.var 0) "most") (.fld (.var 1) "most")) [.dB] []]⟩
noncomputable def zr:aQ:=⟨3,5,[.set (.nm 3) (.call "own_rows" [.var 2]),.set (.nm 4) (.call "fault_of" [.var 3,.cI 1,.var 1]),.ite (.mn (.var 4)) [.dB] [],.gP (.var 0) "count" (.var 1),.gP (.var 0) "rows" (.var 3)]⟩
noncomputable def bQ:aQ:=⟨3,4,[.set (.nm 3) (.sub (.fld (.var 0) "rows") (.bin true .mod (.var 1) (.blt true "len" [.fld (.var 0) "rows"]))),.ret (.sub (.var 3) (.bin true .mod (.var 2) (.blt true "len" [.var 3])))]⟩
noncomputable def dI:aQ:=⟨2,5,[.set (.nm 2) (.lst false []),.for_ (.tp [.nm 3,.nm 4]) "enumerate" [.fld (.var 0) "rows"] [.expr (.lm "extend" (.var 2) [.comp true (.tup [.var 2,.var 0]) (.tp [.nm 0,.nm 1]) "enumerate" [.var 4] (some (.cmp .le (.var 1) (.var 3))) 2 [3,1]])],.ret (.var 2)]⟩
noncomputable def dR:aQ:=⟨2,2,[.expr (.call "ask_rising" [.var 0]),.ite (.cmp .ne (.sub (.var 0) (.neg (.cI 1))) (.var 1)) [.dB] []]⟩
noncomputable def cO:aQ:=⟨1,3,[.ite (.cmp .lt (.blt true "len" [.var 0]) (.cI 2)) [.dB] [],.ite (.cmp .ne (.sub (.var 0) (.cI 0)) (.cI 0)) [.dB] [],.for_ (.tp [.nm 1,.nm 2]) "zip" [.slice true (.var 0) none (some (.neg (.cI 1))),.slice true (.var 0) (some (.cI 1)) none] [.ite (.cmp .ge (.var 1) (.var 2)) [.dB] []]]⟩
noncomputable def dH:aQ:=⟨5,12,[.expr (.call "ask_inks" [.var 2,.fld (.var 0) "most"]),.set (.nm 5) (.lst false []),.for_ (.tp [.nm 6,.nm 7]) "enumerate" [.fld (.var 0) "rows"] [.set (.nm 8) (.lst false []),.for_ (.tp [.nm 9,.nm 10]) "enumerate" [.var 7] [.set (.nm 11) (.call "threshold_at" [.var 1,.bin true .add (.var 6) (.var 3),.bin true .add (.var 9) (.var 4)]),.expr (.lm "append" (.var 8) [.call "dot_of" [.var 10,.var 11,.fld (.var 1) "count",.var 2]])],.expr (.lm "append" (.var 5) [.eI (.var 8)])],.ret (.make true "Picture" [.fld (.var 0) "most",.eI (.var 5)])]⟩
noncomputable def fO:aQ:=⟨4,7,[.set (.nm 4) (.blt true "len" [.comp true (.var 0) (.nm 0) "seq" [.var 3] (some (.cmp .le (.var 0) (.var 1))) 1 [0]]),.set (.nm 5) (.sub (.var 3) (.bin true .sub (.var 4) (.cI 1))),.ite (.cmp .eq (.var 4) (.blt true "len" [.var 3])) [.ret (.var 5)] [],.set (.nm 6) (.sub (.var 3) (.var 4)),.ite (.cmp .ge (.bin true .mul (.bin true .sub (.var 0) (.var 5)) (.var 2)) (.bin true .mul (.var 1) (.bin true .sub (.var 6) (.var 5)))) [.ret (.var 6)] [],.ret (.var 5)]⟩
noncomputable def bh:aQ:=⟨1,1,[.ret (.call "written_rows" [.fld (.var 0) "most",.fld (.var 0) "rows"])]⟩
noncomputable def bP:aQ:=⟨2,2,[.ret (.kD .join (.cS "\n") (.bin true .add (.lst true [.mh .str (.var 0)]) (.comp true (.call "written_numbers" [.var 0]) (.nm 0) "seq" [.var 1] none 1 [])))]⟩
noncomputable def bj:aQ:=⟨1,1,[.ret (.kD .join (.cS " ") (.comp true (.mh .str (.var 0)) (.nm 0) "seq" [.var 0] none 1 []))]⟩
noncomputable def bR:aQ:=⟨1,2,[.set (.nm 1) (.call "read_rows" [.var 0]),.ret (.make true "Picture" [.sub (.sub (.var 1) (.cI 0)) (.cI 0),.slice true (.var 1) (some (.cI 1)) none])]⟩
noncomputable def c6:aQ:=⟨1,2,[.set (.nm 1) (.call "read_rows" [.var 0]),.ret (.make true "Tile" [.sub (.sub (.var 1) (.cI 0)) (.cI 0),.slice true (.var 1) (some (.cI 1)) none])]⟩
noncomputable def bS:aQ:=⟨1,3,[.set (.nm 1) (.kD (.split true) (.var 0) (.cS "\n")),.set (.nm 2) (.call "numbers_in" [.sub (.var 1) (.cI 0),.cI 0]),.ite (.cmp .gt (.blt true "len" [.var 1]) (.cI 1)) [.dB] [],.ret (.var 2)]⟩
noncomputable def c7:aQ:=⟨1,5,[.set (.nm 1) (.lst false []),.for_ (.tp [.nm 2,.nm 3]) "enumerate" [.kD (.split true) (.var 0) (.cS "\n")] [.set (.nm 4) (.call "numbers_in" [.var 3,.var 2]),.ite (.and [.cmp .eq (.var 2) (.cI 0),.cmp .gt (.blt true "len" [.var 4]) (.cI 1)]) [.dB] [],.expr (.lm "append" (.var 1) [.var 4])],.ite (.cmp .eq (.blt true "len" [.var 1]) (.cI 1)) [.dB] [],.ret (.eI (.var 1))]⟩
noncomputable def cK:aQ:=⟨2,4,[.set (.nm 2) (.kD (.split true) (.var 0) (.cS " ")),.for_ (.nm 3) "seq" [.var 2] [.ite (.not (.call "is_number" [.var 3])) [.dB] []],.ret (.comp true (.mh .int (.var 0)) (.nm 0) "seq" [.var 2] none 1 [])]⟩
noncomputable def c8:aQ:=⟨1,1,[.ite (.or [.cmp .lt (.mh .len (.var 0)) (.cI 1),.cmp .gt (.mh .len (.var 0)) (.glob "MOST_FIGURES")]) [.ret (.cB false)] [],.ite (.and [.cmp .eq (.kD .at (.var 0) (.cI 0)) (.cS "0"),.cmp .gt (.mh .len (.var 0)) (.cI 1)]) [.ret (.cB false)] [],.ret (.blt true "all" [.comp true (.kD .gV (.var 0) (.glob "FIGURES")) (.nm 0) "signs" [.var 0] none 1 []])]⟩
noncomputable def bH:aQ:=⟨3,6,[.set (.nm 3) (.call "read_picture" [.var 0]),.set (.nm 4) (.call "read_tile" [.var 1]),.set (.nm 5) (.call "read_numbers" [.var 2]),.ret (.call "written_picture" [.jZ "screened" [.var 3,.var 4,.var 5] [0,0]])]⟩
noncomputable def fP:aQ:=⟨3,9,[.expr (.call "ask_size" [.var 1,.var 2]),.set (.nm 3) (.call "size_of" [.var 0]),.set (.nm 4) (.lst false []),.for_ (.nm 5) "range" [.cI 0,.sub (.var 3) (.cI 0),.var 1] [.for_ (.nm 6) "range" [.cI 0,.sub (.var 3) (.cI 1),.var 2] [.set (.nm 7) (.blt true "min" [.var 1,.bin true .sub (.sub (.var 3) (.cI 0)) (.var 5)]),.set (.nm 8) (.blt true "min" [.var 2,.bin true .sub (.sub (.var 3) (.cI 1)) (.var 6)]),.expr (.lm "append" (.var 4) [.tup [.var 5,.var 6,.call "part_of" [.var 0,.var 5,.var 6,.var 7,.var 8]]])]],.ret (.eI (.var 4))]⟩
noncomputable def bT:aQ:=⟨1,2,[.expr (.call "ask_pieces" [.var 0]),.set (.nm 1) (.call "least_size" [.var 0]),.ite (.cmp .ne (.bin true .mul (.sub (.var 1) (.cI 0)) (.sub (.var 1) (.cI 1))) (.blt true "sum" [.comp true (.call "cells_of" [.var 2]) (.tp [.nm 0,.nm 1,.nm 2]) "seq" [.var 0] none 3 []])) [.dB] [],.ret (.make true "Picture" [.fld (.sub (.sub (.var 0) (.cI 0)) (.cI 2)) "most",.call "rows_of" [.var 0,.var 1]])]⟩
noncomputable def cP:aQ:=⟨1,4,[.ite (.cmp .eq (.blt true "len" [.var 0]) (.cI 0)) [.dB] [],.for_ (.tp [.nm 1,.nm 2,.nm 3]) "seq" [.var 0] [.expr (.call "ask_mosts" [.var 3,.sub (.sub (.var 0) (.cI 0)) (.cI 2)]),.ite (.or [.cmp .lt (.var 1) (.cI 0),.cmp .lt (.var 2) (.cI 0)]) [.dB] []]]⟩
noncomputable def cL:aQ:=⟨1,3,[.set (.nm 1) (.blt true "max" [.comp true (.bin true .add (.var 0) (.sub (.call "size_of" [.var 2]) (.cI 0))) (.tp [.nm 0,.nm 1,.nm 2]) "seq" [.var 0] none 3 []]),.set (.nm 2) (.blt true "max" [.comp true (.bin true .add (.var 1) (.sub (.call "size_of" [.var 2]) (.cI 1))) (.tp [.nm 0,.nm 1,.nm 2]) "seq" [.var 0] none 3 []]),.ret (.tup [.var 1,.var 2])]⟩
noncomputable def dO:aQ:=⟨1,2,[.set (.nm 1) (.call "size_of" [.var 0]),.ret (.bin true .mul (.sub (.var 1) (.cI 0)) (.sub (.var 1) (.cI 1)))]⟩
noncomputable def eS:aQ:=⟨2,8,[.set (.nm 2) (.comp false (.bin false .mul (.lst true [.cN]) (.sub (.var 1) (.cI 1))) (.nm 0) "range" [.sub (.var 1) (.cI 0)] none 1 [1]),.for_ (.tp [.nm 3,.nm 4,.nm 5]) "seq" [.var 0] [.for_ (.tp [.nm 6,.nm 7]) "enumerate" [.fld (.var 5) "rows"] [.expr (.call "lay_shades" [.sub (.var 2) (.bin true .add (.var 3) (.var 6)),.var 4,.var 7])]],.ret (.eI (.var 2))]⟩
noncomputable def cM:aQ:=⟨3,5,[.for_ (.tp [.nm 3,.nm 4]) "enumerate" [.var 2] [.ite (.mn (.sub (.var 0) (.bin true .add (.var 1) (.var 3)))) [.dB] [],.iy (.var 0) (.bin true .add (.var 1) (.var 3)) (.var 4)]]⟩
noncomputable def bU:aQ:=⟨1,5,[.ite (.cmp .lt (.var 0) (.cI 0)) [.dB] [],.set (.nm 1) (.lst true [.lst true [.cI 1]]),.for_ (.nm 2) "range" [.var 0] [.set (.nm 3) (.comp true (.bin true .add (.call "quarter_row" [.var 0,.cI 0]) (.call "quarter_row" [.var 0,.cI 2])) (.nm 0) "seq" [.var 1] none 1 []),.set (.nm 4) (.comp true (.bin true .add (.call "quarter_row" [.var 0,.cI 3]) (.call "quarter_row" [.var 0,.cI 1])) (.nm 0) "seq" [.var 1] none 1 []),.set (.nm 1) (.bin true .add (.var 3) (.var 4))],.ret (.make true "Tile" [.bin true .mul (.blt true "len" [.var 1]) (.blt true "len" [.var 1]),.var 1])]⟩
noncomputable def b7:aQ:=⟨2,2,[.ret (.comp true (.bin true .add (.bin true .add (.bin true .mul (.cI 4) (.bin true .sub (.var 0) (.cI 1))) (.cI 1)) (.var 1)) (.nm 0) "seq" [.var 0] none 1 [1])]⟩
noncomputable def b6:aQ:=⟨2,8,[.ite (.or [.cmp .lt (.var 0) (.cI 1),.cmp .lt (.var 1) (.cI 1)]) [.dB] [],.set (.nm 2) (.eI (.call "cells_by_rows" [.var 0,.var 1])),.set (.nm 3) (.bin false .mul (.lst true [.cI 0]) (.blt true "len" [.var 2])),.set (.nm 4) (.bin true .mul (.lst true [.bin true .add (.bin true .mul (.var 0) (.var 0)) (.bin true .mul (.var 1) (.var 1))]) (.blt true "len" [.var 2])),.for_ (.nm 5) "range" [.cI 1,.bin true .add (.blt true "len" [.var 2]) (.cI 1)] [.set (.nm 6) (.kD .idx (.var 4) (.blt true "max" [.var 4])),.iy (.var 3) (.var 6) (.var 5),.set (.nm 7) (.comp true (.call "distance" [.var 0,.sub (.var 3) (.var 4),.var 1,.var 2]) (.nm 0) "seq" [.var 2] none 1 [0,1,2,6]),.set (.nm 4) (.comp true (.blt true "min" [.var 0]) (.nm 0) "zip" [.var 4,.var 7] none 1 [])],.ret (.make true "Tile" [.blt true "len" [.var 2],.comp true (.slice true (.var 1) (some (.var 0)) (some (.bin true .add (.var 0) (.var 2)))) (.nm 0) "range" [.cI 0,.blt true "len" [.var 2],.var 1] none 1 [3,1]])]⟩
noncomputable def dM:aQ:=⟨4,6,[.set (.nm 4) (.call "round_edge" [.blt true "abs" [.bin true .sub (.sub (.var 0) (.cI 0)) (.sub (.var 1) (.cI 0))],.var 2]),.set (.nm 5) (.call "round_edge" [.blt true "abs" [.bin true .sub (.sub (.var 0) (.cI 1)) (.sub (.var 1) (.cI 1))],.var 3]),.ret (.bin true .add (.bin true .mul (.var 4) (.var 4)) (.bin true .mul (.var 5) (.var 5)))]⟩
noncomputable def cJ:aQ:=⟨2,2,[.ret (.blt true "min" [.var 0,.bin true .sub (.var 1) (.var 0)])]⟩
noncomputable def dh:aQ:=⟨2,5,[.iy (.var 1) (.cI 0) (.bin true .add (.sub (.var 1) (.cI 0)) (.cI 1)),.set (.nm 2) (.cI 0),.ite (.cmp .gt (.blt true "len" [.var 0]) (.cI 0)) [.set (.nm 2) (.sub (.var 0) (.bin true .mod (.sub (.var 1) (.cI 0)) (.blt true "len" [.var 0])))] [],.ite (.and [.cmp .gt (.blt true "len" [.var 0]) (.cI 0),.cmp .eq (.bin true .mod (.sub (.var 0) (.cI 0)) (.cI 2)) (.cI 1)]) [.for_ (.nm 3) "range" [.bin true .mod (.bin true .fdiv (.sub (.var 1) (.cI 0)) (.blt true "len" [.var 0])) (.cI 60)] [.set (.nm 2) (.bin true .fdiv (.var 2) (.cI 2000000011))],.ret (.bin true .mod (.var 2) (.cI 2000000011))] [],.set (.nm 4) (.bin true .mod (.bin true .mul (.bin true .add (.bin true .add (.bin true .mod (.var 2) (.cI 2147483647)) (.bin true .mul (.bin true .mul (.sub (.var 1) (.cI 0)) (.sub (.var 1) (.cI 0))) (.cI 7919))) (.cI 11)) (.cI 48271)) (.cI 2147483647)),.set (.nm 4) (.bin true .mod (.bin true .mul (.var 4) (.var 4)) (.cI 1999999973)),.ret (.bin true .mod (.bin true .mul (.bin true .add (.var 4) (.bin true .mul (.sub (.var 1) (.cI 0)) (.cI 104729))) (.cI 69621)) (.cI 2147483629))]⟩
noncomputable def dX:aQ:=⟨3,5,[.set (.nm 3) (.cI 0),.for_ (.nm 4) "range" [.cI 3] [.set (.nm 3) (.bin true .add (.bin true .mul (.var 3) (.cI 2000000011)) (.call "_law_next" [.var 0,.var 1]))],.ret (.bin true .mod (.var 3) (.var 2))]⟩
noncomputable def df:aQ:=⟨4,8,[.set (.nm 4) (.comp true (.var 0) (.nm 0) "seq" [.var 3] (some (.cmp .le (.var 0) (.var 1))) 1 [0]),.set (.nm 5) (.comp true (.var 0) (.nm 0) "seq" [.var 3] (some (.cmp .gt (.var 0) (.var 1))) 1 [0]),.ite (.cmp .eq (.var 5) (.lst true [])) [.ret (.sub (.var 4) (.neg (.cI 1)))] [],.set (.nm 6) (.sub (.var 4) (.neg (.cI 1))),.set (.nm 7) (.sub (.var 5) (.cI 0)),.ite (.cmp .ge (.bin true .mul (.bin true .sub (.var 0) (.var 6)) (.var 2)) (.bin true .mul (.var 1) (.bin true .sub (.var 7) (.var 6)))) [.ret (.var 7)] [],.ret (.var 6)]⟩
noncomputable def dm:aQ:=⟨6,11,[.set (.nm 6) (.lst false []),.for_ (.nm 7) "range" [.blt true "len" [.var 0]] [.set (.nm 8) (.sub (.var 2) (.bin true .mod (.bin true .add (.var 7) (.var 4)) (.blt true "len" [.var 2]))),.set (.nm 9) (.lst false []),.for_ (.nm 10) "range" [.blt true "len" [.sub (.var 0) (.var 7)]] [.expr (.lm "append" (.var 9) [.call "_law_rule" [.sub (.sub (.var 0) (.var 7)) (.var 10),.sub (.var 8) (.bin true .mod (.bin true .add (.var 10) (.var 5)) (.blt true "len" [.var 8])),.var 1,.var 3]])],.expr (.lm "append" (.var 6) [.eI (.var 9)])],.ret (.eI (.var 6))]⟩
noncomputable def br:aQ:=⟨2,3,[.set (.nm 2) (.call "_law_next" [.var 0,.var 1]),.ret (.sub (.lst true [.cI 1,.cI 2,.cI 255,.bin true .add (.cI 1) (.bin true .mod (.bin true .fdiv (.var 2) (.cI 5)) (.cI 30)),.bin true .add (.cI 1) (.call "_law_any" [.var 0,.var 1,.bin true .pow (.cI 10) (.cI 25)])]) (.bin true .mod (.var 2) (.cI 5)))]⟩
noncomputable def bu:aQ:=⟨3,5,[.set (.nm 3) (.iI (.cI 0) (.var 2)),.for_ (.nm 4) "range" [.bin true .mod (.call "_law_next" [.var 0,.var 1]) (.cI 7)] [.oF (.var 3) (.call "_law_any" [.var 0,.var 1,.bin true .add (.var 2) (.cI 1)])],.ret (.eI (.kJ (.var 3)))]⟩
noncomputable def de:aQ:=⟨2,2,[.ret (.kD .join (.cS "\n") (.bin true .add (.lst true [.mh .str (.var 0)]) (.comp true (.kD .join (.cS " ") (.comp true (.mh .str (.var 0)) (.nm 0) "seq" [.var 0] none 1 [])) (.nm 0) "seq" [.var 1] none 1 [])))]⟩
noncomputable def bo:aQ:=⟨3,11,[.set (.nm 3) (.call "_law_next" [.var 0,.var 1]),.set (.nm 4) (.bin true .add (.cI 1) (.bin true .mod (.var 3) (.cI 12))),.set (.nm 5) (.bin true .mod (.bin true .fdiv (.var 3) (.cI 600)) (.cI 4)),.set (.nm 6) (.lst true [.cI 0,.var 2,.bin true .fdiv (.var 2) (.cI 2),.call "_law_any" [.var 0,.var 1,.bin true .add (.var 2) (.cI 1)]]),.set (.nm 7) (.lst false []),.for_ (.nm 8) "range" [.bin true .add (.cI 1) (.bin true .mod (.bin true .fdiv (.var 3) (.cI 12)) (.bin true .fdiv (.cI 48) (.var 4)))] [.set (.nm 9) (.lst false []),.for_ (.nm 10) "range" [.var 4] [.ite (.cmp .eq (.var 5) (.cI 0)) [.expr (.lm "append" (.var 9) [.sub (.var 6) (.cI 3)])] [.ite (.cmp .eq (.var 5) (.cI 1)) [.expr (.lm "append" (.var 9) [.sub (.var 6) (.bin true .mod (.call "_law_next" [.var 0,.var 1]) (.cI 4))])] [.expr (.lm "append" (.var 9) [.call "_law_any" [.var 0,.var 1,.bin true .add (.var 2) (.cI 1)]])]]],.expr (.lm "append" (.var 7) [.eI (.var 9)])],.ret (.eI (.var 7))]⟩
noncomputable def b8:aQ:=⟨4,9,[.set (.nm 4) (.lst false []),.for_ (.nm 5) "seq" [.var 2] [.set (.nm 6) (.lst false []),.for_ (.nm 7) "seq" [.var 5] [.set (.nm 8) (.call "_law_next" [.var 0,.var 1]),.expr (.lm "append" (.var 6) [.blt true "min" [.var 3,.bin true .add (.var 7) (.sub (.lst true [.cI 0,.cI 1,.bin true .mod (.bin true .fdiv (.var 8) (.cI 4)) (.cI 9),.call "_law_any" [.var 0,.var 1,.bin true .add (.var 3) (.cI 1)]]) (.bin true .mod (.var 8) (.cI 4)))]])],.expr (.lm "append" (.var 4) [.eI (.var 6)])],.ret (.eI (.var 4))]⟩
noncomputable def dk:aQ:=⟨5,13,[.set (.nm 5) (.call "_law_any" [.var 0,.var 1,.bin true .add (.var 4) (.cI 1)]),.set (.nm 6) (.comp true (.bin true .mul (.lst true [.var 1]) (.blt true "len" [.sub (.fld (.var 2) "rows") (.cI 0)])) (.nm 0) "seq" [.fld (.var 2) "rows"] none 1 [5,2]),.set (.nm 7) (.jZ "screened" [.make true "Picture" [.var 4,.var 6],.var 2,.var 3] [0,0]),.set (.nm 8) (.blt true "max" [.comp true (.var 0) (.nm 0) "seq" [.var 3] (some (.cmp .le (.var 0) (.var 1))) 1 [5]]),.ite (.cmp .eq (.var 8) (.var 4)) [.ret (.cmp .eq (.comp true (.blt true "list" [.var 0]) (.nm 0) "seq" [.fld (.var 7) "rows"] none 1 []) (.var 6))] [],.set (.nm 9) (.blt true "min" [.comp true (.var 0) (.nm 0) "seq" [.var 3] (some (.cmp .gt (.var 0) (.var 1))) 1 [5]]),.set (.nm 10) (.bin true .fdiv (.bin true .mul (.bin true .sub (.var 5) (.var 8)) (.fld (.var 2) "count")) (.bin true .sub (.var 9) (.var 8))),.set (.nm 11) (.lst true []),.for_ (.nm 12) "range" [.blt true "len" [.fld (.var 2) "rows"]] [.set (.nm 11) (.bin true .add (.var 11) (.comp true (.tup [.var 1,.var 0]) (.nm 0) "range" [.blt true "len" [.sub (.fld (.var 2) "rows") (.var 12)]] (some (.cmp .eq (.sub (.sub (.fld (.var 3) "rows") (.var 1)) (.var 0)) (.var 2))) 1 [12,9,7]))],.ret (.and [.cmp .eq (.var 11) (.eI (.call "level_of" [.var 2,.var 10])),.cmp .eq (.blt true "len" [.var 11]) (.var 10)])]⟩
noncomputable def a6:aQ:=⟨2,4,[.for_ (.nm 2) "range" [.blt true "len" [.var 0]] [.for_ (.nm 3) "range" [.blt true "len" [.sub (.var 0) (.var 2)]] [.ite (.cmp .lt (.sub (.sub (.var 1) (.var 2)) (.var 3)) (.sub (.sub (.var 0) (.var 2)) (.var 3))) [.ret (.cB false)] []]],.ret (.cB true)]⟩
noncomputable def aV:aQ:=⟨1,15,[.set (.nm 1) (.lst false [.cI 0]),.set (.nm 2) (.call "_law_next" [.var 0,.var 1]),.set (.nm 3) (.call "spread_tile" [.bin true .add (.cI 1) (.bin true .mod (.bin true .fdiv (.var 2) (.cI 2)) (.cI 4)),.bin true .add (.cI 1) (.bin true .mod (.bin true .fdiv (.var 2) (.cI 8)) (.cI 5))]),.ite (.cmp .eq (.bin true .mod (.var 2) (.cI 2)) (.cI 0)) [.set (.nm 3) (.call "doubled_tile" [.bin true .add (.cI 1) (.bin true .mod (.bin true .fdiv (.var 2) (.cI 40)) (.cI 2))])] [],.set (.nm 4) (.call "_law_drawn_most" [.var 0,.var 1]),.set (.nm 5) (.call "_law_drawn_inks" [.var 0,.var 1,.var 4]),.set (.nm 6) (.call "_law_drawn_rows" [.var 0,.var 1,.var 4]),.set (.nm 7) (.call "_law_dots" [.var 6,.fld (.var 3) "count",.comp true (.blt true "list" [.var 0]) (.nm 0) "seq" [.fld (.var 3) "rows"] none 1 [],.var 5,.cI 0,.cI 0]),.set (.nm 8) (.lst true [.call "_law_text" [.var 4,.var 6],.call "_law_text" [.fld (.var 3) "count",.fld (.var 3) "rows"],.kD .join (.cS " ") (.comp true (.mh .str (.var 0)) (.nm 0) "seq" [.var 5] none 1 [])]),.set (.nm 9) (.call "screened_text" [.sub (.var 8) (.cI 0),.sub (.var 8) (.cI 1),.sub (.var 8) (.cI 2)]),.ite (.or [.not (.CJ (.var 9) "str"),.cmp .ne (.var 9) (.call "_law_text" [.var 4,.var 7])]) [.ret (.cB false)] [],.set (.nm 2) (.call "_law_next" [.var 0,.var 1]),.set (.nm 10) (.lst false []),.for_ (.tp [.nm 11,.nm 12,.nm 13]) "seq" [.call "cut_up" [.make true "Picture" [.var 4,.var 6],.bin true .add (.cI 1) (.bin true .mod (.var 2) (.cI 4)),.bin true .add (.cI 1) (.bin true .mod (.bin true .fdiv (.var 2) (.cI 4)) (.cI 5))]] [.expr (.lm "append" (.var 10) [.tup [.var 11,.var 12,.call "screened" [.var 13,.var 3,.var 5,.var 11,.var 12]]])],.expr (.lm "reverse" (.var 10) []),.ite (.cmp .ne (.comp true (.blt true "list" [.var 0]) (.nm 0) "seq" [.fld (.call "put_together" [.eI (.var 10)]) "rows"] none 1 []) (.var 7)) [.ret (.cB false)] [],.set (.nm 14) (.make true "Picture" [.var 4,.call "_law_darker" [.var 0,.var 1,.var 6,.var 4]]),.ite (.not (.call "_law_nowhere_less" [.var 7,.fld (.jZ "screened" [.var 14,.var 3,.var 5] [0,0]) "rows"])) [.ret (.cB false)] [],.ite (.or [.not (.call "_law_flat" [.var 0,.var 1,.var 3,.var 5,.var 4]),.not (.call "_law_flat" [.var 0,.var 1,.var 3,.var 5,.var 4])]) [.ret (.cB false)] [],.ret (.cmp .eq (.call "screened_text" [.sub (.var 8) (.cI 0),.sub (.var 8) (.cI 1),.sub (.var 8) (.cI 2)]) (.var 9))]⟩
noncomputable def pY:List (String×aQ):=[("own_rows",YH),("fault_of",QI),("cells_by_rows",bI),("Picture.__init__",zo),("high",Cm),("wide",DA),("size_of",eR),("has_cell",dJ),("ask_cell",dU),("ask_size",dP),("ask_part",dQ),("part_of",eT),("ask_mosts",c9),("Tile.__init__",zr),("threshold_at",bQ),("level_of",dI),("ask_inks",dR),("ask_rising",cO),("screened",dH),("dot_of",fO),("written_picture",bh),("written_rows",bP),("written_numbers",bj),("read_picture",bR),("read_tile",c6),("read_numbers",bS),("read_rows",c7),("numbers_in",cK),("is_number",c8),("screened_text",bH),("cut_up",fP),("put_together",bT),("ask_pieces",cP),("least_size",cL),("cells_of",dO),("rows_of",eS),("lay_shades",cM),("doubled_tile",bU),("quarter_row",b7),("spread_tile",b6),("distance",dM),("round_edge",cJ),("_law_next",dh),("_law_any",dX),("_law_rule",df),("_law_dots",dm),("_law_drawn_most",br),("_law_drawn_inks",bu),("_law_text",de),("_law_drawn_rows",bo),("_law_darker",b8),("_law_flat",dk),("_law_nowhere_less",a6),("law",aV)]
noncomputable def nk:List ((String×String)×String):=[(("Picture","__init__"),"Picture.__init__"),(("Tile","__init__"),"Tile.__init__")]
noncomputable def pE:List ((String×String)×Bool):=[]
noncomputable def prog:Prog where
 defs:=λf=>pY.lookup f
 bO:=λx=>match x with
  |"FIGURES"=>some (.str "0123456789")
  |"MOST_FIGURES"=>some (.int 30)
  |_=>none
 meths:=λc m=>nk.lookup (c,m)
 subs:=λc t=>pE.lookup (c,t)
 fG:=λc n=>match c,n with
  |"Picture","most"=>true
  |"Picture","rows"=>true
  |"Tile","count"=>true
  |"Tile","rows"=>true
  |_,_=>false
 nH:=λf ds=>decide ((f,ds)∈[("screened",[0,0])])
 word:=λw c=>match w,c with
  |_,_=>none
 words:=λw=>match w with
  |_=>false
 lL:=λc=>match c with
  |_=>false
 turns:=1000000
@[simp] theorem qcq:prog.defs "own_rows"=some YH:=rfl
@[simp] theorem zcw:prog.defs "fault_of"=some QI:=rfl
@[simp] theorem y3:prog.defs "cells_by_rows"=some bI:=rfl
@[simp] theorem qa5:prog.defs "Picture.__init__"=some zo:=rfl
@[simp] theorem wU:prog.defs "high"=some Cm:=rfl
@[simp] theorem wR:prog.defs "wide"=some DA:=rfl
@[simp] theorem Zba:prog.defs "size_of"=some eR:=rfl
@[simp] theorem qa0:prog.defs "has_cell"=some dJ:=rfl
@[simp] theorem zaQ:prog.defs "ask_cell"=some dU:=rfl
@[simp] theorem qaY:prog.defs "ask_size"=some dP:=rfl
@[simp] theorem yaY:prog.defs "ask_part"=some dQ:=rfl
@[simp] theorem Za4:prog.defs "part_of"=some eT:=rfl
@[simp] theorem qaF:prog.defs "ask_mosts"=some c9:=rfl
@[simp] theorem ZbF:prog.defs "Tile.__init__"=some zr:=rfl
@[simp] theorem Yac:prog.defs "threshold_at"=some bQ:=rfl
@[simp] theorem YaP:prog.defs "level_of"=some dI:=rfl
@[simp] theorem ZaT:prog.defs "ask_inks"=some dR:=rfl
@[simp] theorem qay:prog.defs "ask_rising"=some cO:=rfl
@[simp] theorem qaZ:prog.defs "screened"=some dH:=rfl
@[simp] theorem ybl:prog.defs "dot_of"=some fO:=rfl
@[simp] theorem ZR:prog.defs "written_picture"=some bh:=rfl
@[simp] theorem Yab:prog.defs "written_rows"=some bP:=rfl
@[simp] theorem YS:prog.defs "written_numbers"=some bj:=rfl
@[simp] theorem Qab:prog.defs "read_picture"=some bR:=rfl
@[simp] theorem yaG:prog.defs "read_tile"=some c6:=rfl
@[simp] theorem Zac:prog.defs "read_numbers"=some bS:=rfl
@[simp] theorem ZaI:prog.defs "read_rows"=some c7:=rfl
@[simp] theorem yat:prog.defs "numbers_in"=some cK:=rfl
@[simp] theorem QaF:prog.defs "is_number"=some c8:=rfl
@[simp] theorem Q8:prog.defs "screened_text"=some bH:=rfl
@[simp] theorem qbl:prog.defs "cut_up"=some fP:=rfl
@[simp] theorem qaa:prog.defs "put_together"=some bT:=rfl
@[simp] theorem zap:prog.defs "ask_pieces"=some cP:=rfl
@[simp] theorem Qaq:prog.defs "least_size"=some cL:=rfl
@[simp] theorem YaU:prog.defs "cells_of"=some dO:=rfl
@[simp] theorem Zbg:prog.defs "rows_of"=some eS:=rfl
@[simp] theorem YaA:prog.defs "lay_shades"=some cM:=rfl
@[simp] theorem Q9:prog.defs "doubled_tile"=some bU:=rfl
@[simp] theorem yal:prog.defs "quarter_row"=some b7:=rfl
@[simp] theorem yaj:prog.defs "spread_tile"=some b6:=rfl
@[simp] theorem zaT:prog.defs "distance"=some dM:=rfl
@[simp] theorem qav:prog.defs "round_edge"=some cJ:=rfl
@[simp] theorem qaG:prog.defs "_law_next"=some dh:=rfl
@[simp] theorem ya1:prog.defs "_law_any"=some dX:=rfl
@[simp] theorem YaD:prog.defs "_law_rule"=some df:=rfl
@[simp] theorem ZaG:prog.defs "_law_dots"=some dm:=rfl
@[simp] theorem qR:prog.defs "_law_drawn_most"=some br:=rfl
@[simp] theorem zS:prog.defs "_law_drawn_inks"=some bu:=rfl
@[simp] theorem ZaC:prog.defs "_law_text"=some de:=rfl
@[simp] theorem ZS:prog.defs "_law_drawn_rows"=some bo:=rfl
@[simp] theorem qaj:prog.defs "_law_darker"=some b8:=rfl
@[simp] theorem QaG:prog.defs "_law_flat"=some dk:=rfl
@[simp] theorem YK:prog.defs "_law_nowhere_less"=some a6:=rfl
@[simp] theorem Ycs:prog.defs "law"=some aV:=rfl
@[simp] theorem zb6:prog.fG "Picture" "most"=true:=rfl
@[simp] theorem qb8:prog.fG "Picture" "rows"=true:=rfl
@[simp] theorem Qck:prog.fG "Tile" "count"=true:=rfl
@[simp] theorem zcE:prog.fG "Tile" "rows"=true:=rfl
@[simp] theorem qbw:prog.meths "Picture" "__init__"=some "Picture.__init__":=rfl
@[simp] theorem QbV:prog.meths "Tile" "__init__"=some "Tile.__init__":=rfl
@[simp] theorem zc5:prog.bO "FIGURES"=some (.str "0123456789"):=rfl
@[simp] theorem yb6:prog.bO "MOST_FIGURES"=some (.int 30):=rfl
theorem Ya(n:Nat)(f:String)(as:List MV)(h:MH):run prog (n+1) f as h=opt (prog.defs f) λd=>if as.length=d.np then Zb h (Yb prog (run prog n) d.body (as.map some++xa (d.ns-d.np) none) h) else .stuck:=rfl
theorem Q5(n:Nat)(a0 a1:MV)(h:MH):run prog (n+1) "cells_by_rows" [a0,a1] h=Zb h (Yb prog (run prog n) bI.body [some a0,some a1,none,none] h):=by rw[Ya,y3];rfl
theorem Qbi(n:Nat)(a0:MV)(h:MH):run prog (n+1) "size_of" [a0] h=Zb h (Yb prog (run prog n) eR.body [some a0] h):=by rw[Ya,Zba];rfl
theorem qaO(n:Nat)(a0 a1:MV)(h:MH):run prog (n+1) "has_cell" [a0,a1] h=Zb h (Yb prog (run prog n) dJ.body [some a0,some a1] h):=by rw[Ya,qa0];rfl
theorem YaS(n:Nat)(a0 a1:MV)(h:MH):run prog (n+1) "ask_cell" [a0,a1] h=Zb h (Yb prog (run prog n) dU.body [some a0,some a1] h):=by rw[Ya,zaQ];rfl
theorem ZaR(n:Nat)(a0 a1:MV)(h:MH):run prog (n+1) "ask_size" [a0,a1] h=Zb h (Yb prog (run prog n) dP.body [some a0,some a1] h):=by rw[Ya,qaY];rfl
theorem yaR(n:Nat)(a0 a1 a2 a3 a4:MV)(h:MH):run prog (n+1) "ask_part" [a0,a1,a2,a3,a4] h=Zb h (Yb prog (run prog n) dQ.body [some a0,some a1,some a2,some a3,some a4] h):=by rw[Ya,yaY];rfl
theorem Qbf(n:Nat)(a0 a1 a2 a3 a4:MV)(h:MH):run prog (n+1) "part_of" [a0,a1,a2,a3,a4] h=Zb h (Yb prog (run prog n) eT.body [some a0,some a1,some a2,some a3,some a4] h):=by rw[Ya,Za4];rfl
theorem zaE(n:Nat)(a0 a1:MV)(h:MH):run prog (n+1) "ask_mosts" [a0,a1] h=Zb h (Yb prog (run prog n) c9.body [some a0,some a1] h):=by rw[Ya,qaF];rfl
theorem Qad(n:Nat)(a0 a1 a2:MV)(h:MH):run prog (n+1) "threshold_at" [a0,a1,a2] h=Zb h (Yb prog (run prog n) bQ.body [some a0,some a1,some a2,none] h):=by rw[Ya,Yac];rfl
theorem qaW(n:Nat)(a0 a1:MV)(h:MH):run prog (n+1) "level_of" [a0,a1] h=Zb h (Yb prog (run prog n) dI.body [some a0,some a1,none,none,none] h):=by rw[Ya,YaP];rfl
theorem yaS(n:Nat)(a0 a1:MV)(h:MH):run prog (n+1) "ask_inks" [a0,a1] h=Zb h (Yb prog (run prog n) dR.body [some a0,some a1] h):=by rw[Ya,ZaT];rfl
theorem Zas(n:Nat)(a0:MV)(h:MH):run prog (n+1) "ask_rising" [a0] h=Zb h (Yb prog (run prog n) cO.body [some a0,none,none] h):=by rw[Ya,qay];rfl
theorem ZaV(n:Nat)(a0 a1 a2 a3 a4:MV)(h:MH):run prog (n+1) "screened" [a0,a1,a2,a3,a4] h=Zb h (Yb prog (run prog n) dH.body [some a0,some a1,some a2,some a3,some a4,none,none,none,none,none,none,none] h):=by rw[Ya,qaZ];rfl
theorem Zbo(n:Nat)(a0 a1 a2 a3:MV)(h:MH):run prog (n+1) "dot_of" [a0,a1,a2,a3] h=Zb h (Yb prog (run prog n) fO.body [some a0,some a1,some a2,some a3,none,none,none] h):=by rw[Ya,ybl];rfl
theorem yS(n:Nat)(a0:MV)(h:MH):run prog (n+1) "written_picture" [a0] h=Zb h (Yb prog (run prog n) bh.body [some a0] h):=by rw[Ya,ZR];rfl
theorem Yaa(n:Nat)(a0 a1:MV)(h:MH):run prog (n+1) "written_rows" [a0,a1] h=Zb h (Yb prog (run prog n) bP.body [some a0,some a1] h):=by rw[Ya,Yab];rfl
theorem zT(n:Nat)(a0:MV)(h:MH):run prog (n+1) "written_numbers" [a0] h=Zb h (Yb prog (run prog n) bj.body [some a0] h):=by rw[Ya,YS];rfl
theorem qae(n:Nat)(a0:MV)(h:MH):run prog (n+1) "read_picture" [a0] h=Zb h (Yb prog (run prog n) bR.body [some a0,none] h):=by rw[Ya,Qab];rfl
theorem yaD(n:Nat)(a0:MV)(h:MH):run prog (n+1) "read_tile" [a0] h=Zb h (Yb prog (run prog n) c6.body [some a0,none] h):=by rw[Ya,yaG];rfl
theorem Y9(n:Nat)(a0:MV)(h:MH):run prog (n+1) "read_numbers" [a0] h=Zb h (Yb prog (run prog n) bS.body [some a0,none,none] h):=by rw[Ya,Zac];rfl
theorem zaI(n:Nat)(a0:MV)(h:MH):run prog (n+1) "read_rows" [a0] h=Zb h (Yb prog (run prog n) c7.body [some a0,none,none,none,none] h):=by rw[Ya,ZaI];rfl
theorem Qav(n:Nat)(a0 a1:MV)(h:MH):run prog (n+1) "numbers_in" [a0,a1] h=Zb h (Yb prog (run prog n) cK.body [some a0,some a1,none,none] h):=by rw[Ya,yat];rfl
theorem zaG(n:Nat)(a0:MV)(h:MH):run prog (n+1) "is_number" [a0] h=Zb h (Yb prog (run prog n) c8.body [some a0] h):=by rw[Ya,QaF];rfl
theorem Z9(n:Nat)(a0 a1 a2:MV)(h:MH):run prog (n+1) "screened_text" [a0,a1,a2] h=Zb h (Yb prog (run prog n) bH.body [some a0,some a1,some a2,none,none,none] h):=by rw[Ya,Q8];rfl
theorem Ybw(n:Nat)(a0 a1 a2:MV)(h:MH):run prog (n+1) "cut_up" [a0,a1,a2] h=Zb h (Yb prog (run prog n) fP.body [some a0,some a1,some a2,none,none,none,none,none,none] h):=by rw[Ya,qbl];rfl
theorem yac(n:Nat)(a0:MV)(h:MH):run prog (n+1) "put_together" [a0] h=Zb h (Yb prog (run prog n) bT.body [some a0,none] h):=by rw[Ya,qaa];rfl
theorem qan(n:Nat)(a0:MV)(h:MH):run prog (n+1) "ask_pieces" [a0] h=Zb h (Yb prog (run prog n) cP.body [some a0,none,none,none] h):=by rw[Ya,zap];rfl
theorem Yar(n:Nat)(a0:MV)(h:MH):run prog (n+1) "least_size" [a0] h=Zb h (Yb prog (run prog n) cL.body [some a0,none,none] h):=by rw[Ya,Qaq];rfl
theorem qa2(n:Nat)(a0:MV)(h:MH):run prog (n+1) "cells_of" [a0] h=Zb h (Yb prog (run prog n) dO.body [some a0,none] h):=by rw[Ya,YaU];rfl
theorem ybb(n:Nat)(a0 a1:MV)(h:MH):run prog (n+1) "rows_of" [a0,a1] h=Zb h (Yb prog (run prog n) eS.body [some a0,some a1,none,none,none,none,none,none] h):=by rw[Ya,Zbg];rfl
theorem Zay(n:Nat)(a0 a1 a2:MV)(h:MH):run prog (n+1) "lay_shades" [a0,a1,a2] h=Zb h (Yb prog (run prog n) cM.body [some a0,some a1,some a2,none,none] h):=by rw[Ya,YaA];rfl
theorem zaf(n:Nat)(a0:MV)(h:MH):run prog (n+1) "doubled_tile" [a0] h=Zb h (Yb prog (run prog n) bU.body [some a0,none,none,none,none] h):=by rw[Ya,Q9];rfl
theorem yak(n:Nat)(a0 a1:MV)(h:MH):run prog (n+1) "quarter_row" [a0,a1] h=Zb h (Yb prog (run prog n) b7.body [some a0,some a1] h):=by rw[Ya,yal];rfl
theorem Zak(n:Nat)(a0 a1:MV)(h:MH):run prog (n+1) "spread_tile" [a0,a1] h=Zb h (Yb prog (run prog n) b6.body [some a0,some a1,none,none,none,none,none,none] h):=by rw[Ya,yaj];rfl
theorem zaY(n:Nat)(a0 a1 a2 a3:MV)(h:MH):run prog (n+1) "distance" [a0,a1,a2,a3] h=Zb h (Yb prog (run prog n) dM.body [some a0,some a1,some a2,some a3,none,none] h):=by rw[Ya,zaT];rfl
theorem Zax(n:Nat)(a0 a1:MV)(h:MH):run prog (n+1) "round_edge" [a0,a1] h=Zb h (Yb prog (run prog n) cJ.body [some a0,some a1] h):=by rw[Ya,qav];rfl
theorem zaC(n:Nat)(a0 a1:MV)(h:MH):run prog (n+1) "_law_next" [a0,a1] h=Zb h (Yb prog (run prog n) dh.body [some a0,some a1,none,none,none] h):=by rw[Ya,qaG];rfl
theorem Za2(n:Nat)(a0 a1 a2:MV)(h:MH):run prog (n+1) "_law_any" [a0,a1,a2] h=Zb h (Yb prog (run prog n) dX.body [some a0,some a1,some a2,none,none] h):=by rw[Ya,ya1];rfl
theorem yaF(n:Nat)(a0 a1 a2 a3:MV)(h:MH):run prog (n+1) "_law_rule" [a0,a1,a2,a3] h=Zb h (Yb prog (run prog n) df.body [some a0,some a1,some a2,some a3,none,none,none,none] h):=by rw[Ya,YaD];rfl
theorem QaE(n:Nat)(a0 a1 a2 a3 a4 a5:MV)(h:MH):run prog (n+1) "_law_dots" [a0,a1,a2,a3,a4,a5] h=Zb h (Yb prog (run prog n) dm.body [some a0,some a1,some a2,some a3,some a4,some a5,none,none,none,none,none] h):=by rw[Ya,ZaG];rfl
theorem QR(n:Nat)(a0 a1:MV)(h:MH):run prog (n+1) "_law_drawn_most" [a0,a1] h=Zb h (Yb prog (run prog n) br.body [some a0,some a1,none] h):=by rw[Ya,qR];rfl
theorem yT(n:Nat)(a0 a1 a2:MV)(h:MH):run prog (n+1) "_law_drawn_inks" [a0,a1,a2] h=Zb h (Yb prog (run prog n) bu.body [some a0,some a1,some a2,none,none] h):=by rw[Ya,zS];rfl
theorem ZaH(n:Nat)(a0 a1:MV)(h:MH):run prog (n+1) "_law_text" [a0,a1] h=Zb h (Yb prog (run prog n) de.body [some a0,some a1] h):=by rw[Ya,ZaC];rfl
theorem QS(n:Nat)(a0 a1 a2:MV)(h:MH):run prog (n+1) "_law_drawn_rows" [a0,a1,a2] h=Zb h (Yb prog (run prog n) bo.body [some a0,some a1,some a2,none,none,none,none,none,none,none,none] h):=by rw[Ya,ZS];rfl
theorem Qaj(n:Nat)(a0 a1 a2 a3:MV)(h:MH):run prog (n+1) "_law_darker" [a0,a1,a2,a3] h=Zb h (Yb prog (run prog n) b8.body [some a0,some a1,some a2,some a3,none,none,none,none,none] h):=by rw[Ya,qaj];rfl
theorem yaE(n:Nat)(a0 a1 a2 a3 a4:MV)(h:MH):run prog (n+1) "_law_flat" [a0,a1,a2,a3,a4] h=Zb h (Yb prog (run prog n) dk.body [some a0,some a1,some a2,some a3,some a4,none,none,none,none,none,none,none,none] h):=by rw[Ya,QaG];rfl
theorem qK(n:Nat)(a0 a1:MV)(h:MH):run prog (n+1) "_law_nowhere_less" [a0,a1] h=Zb h (Yb prog (run prog n) a6.body [some a0,some a1,none,none] h):=by rw[Ya,YK];rfl
theorem yco(n:Nat)(a0:MV)(h:MH):run prog (n+1) "law" [a0] h=Zb h (Yb prog (run prog n) aV.body [some a0,none,none,none,none,none,none,none,none,none,none,none,none,none,none] h):=by rw[Ya,Ycs];rfl
noncomputable def za(b:Bool)(r:List Int):FV:=sq b (r.map .int)
noncomputable def Za(b1 b2:Bool)(rows:List (List Int)):FV:=sq b1 (rows.map (za b2))
noncomputable def Qe(most:Int)(rows:List (List Int)):FV:=.obj "Picture" ["most","rows"] [.int most,Za true true rows]
theorem Qa:aK=4194304:=rfl
section
variable (h:MH)
theorem cT.obj(c:String)(fs:List (String×FV))(ds:MH):cT (h++[.obj c []]) (h++.obj c (fs.map λp=>(p.1,MV.f p.2))::ds):=by
 refine⟨by simp,λi d hi e=>?_⟩;by_cases hl:i<h.length
 ·rw[ub hl] at e ⊢;exact .inl e
 ·have:i=h.length:=by simp at hi;lia
  subst this;simp at e;subst e;exact .inr ⟨fs,rfl⟩
end
noncomputable def Dm(r:List Int):Cell:=.lst (r.map λi=>.f (.int i))
section
variable (h:MH)
noncomputable def own(h:MH)(rows:List (List Int)):MH:=h++(rows.map Dm++[.lst ((va rows.length).map λi=>MV.ref (h.length+i))])
theorem Mb(rows:List (List Int)):Zd (own h rows) (h.length+rows.length)=some ((va rows.length).map λi=>MV.ref (h.length+i)):=by
 unfold own Zd;rw[Vc (by lia),Vc (by simp)];simp
theorem L9(rows:List (List Int))(i:Nat)(r:List Int)(e:rows[i]?=some r):Zd (own h rows) (h.length+i)=some (r.map λi=>.f (.int i)):=by
 have hi:=(Wa.mp e).1;unfold own Zd;rw[Vc (by lia),ub (by simp;lia)];simp[e,Dm]
theorem YbZ(rows:List (List Int)):zP (own h rows) (.ref (h.length+rows.length))=some (Za false false rows):=by
 have hr:∀ m (xs:List Nat),(∀ i∈xs,i<rows.length)->(xs.map λi=>MV.ref (h.length+i)).mapM (Zp (own h rows) (m+2))=some (xs.map λi=>za false (rows.getD i [])):=by
  intro m xs
  induction xs with
  |nil=>intro _;rfl
  |cons x xs ih =>
   intro hx;have hx0:=hx x (by simp);have e:rows[x]?=some (rows.getD x []):=by simp[ve,hx0]
   have e1:Zp (own h rows) (m+2) (.ref (h.length+x))=some (za false (rows.getD x [])):=by
    simp only[Zp,L9 h rows x _ e,xh];have:(List.map (λi=>MV.f (FV.int i)) (rows.getD x []))=((rows.getD x []).map FV.int).map MV.f:=by simp
    rw[this,HY];rfl
   simp only[Ub,vo,e1,ih λi hi=>hx i (by simp[hi])];rfl
 unfold zP;simp only[Zp,Mb,xh];rw[hr 2 _ (by simp)];simp only[Xf,Za,sq,gb.injEq]
 congr 1
 apply Vd;intro k;by_cases hk:k<rows.length
 ·simp[hk,ve]
 ·simp[hk]
theorem ybJ(rows:List (List Int)):∀ a∈Qp (own h rows) 5 (.ref (h.length+rows.length)),h.length<=a:=by
 intro a ha;simp only[Qp,Mb,Vj,ua,vn,Vf,We] at ha
 rcases ha with rfl|⟨m,⟨i,hi,rfl⟩,ha⟩
 ·lia
 ·have e:rows[i]?=some (rows[i]):=by simp[hi]
  simp only[Qp,L9 h rows i _ e,Vj,ua,vn,Vf] at ha
  rcases ha with rfl|⟨m,⟨i,_,rfl⟩,ha⟩
  ·lia
  ·simp[Qp] at ha
theorem yck(rows:List (List Int)):∃ t',ZJ (.ref (h.length+rows.length)) (own h rows)=.ok (.f (Za false false rows)) (h++t'):=by
 obtain⟨t',e⟩:=Pg h (rows.map Dm++[.lst ((va rows.length).map λi=>MV.ref (h.length+i))]) (Qp (own h rows) 5 (.ref (h.length+rows.length))) (ybJ h rows);refine⟨t',?_⟩;unfold ZJ;rw[YbZ,Qd];unfold own at e ⊢;rw[e]
noncomputable abbrev KJ(p:Int×Int):FV:=.tup [.int p.1,.int p.2]
end
@[simp] theorem Bu(xs:List MV)(t:MH):Zd (.lst xs::t) 0=some xs:=rfl
@[simp] theorem QcG(xs ys:List MV)(t:MH):Qb (.lst xs::t) 0 ys=.lst ys::t:=rfl
noncomputable def DP(ns:List Int)(k:Int):Int:=if ns=[] then 0 else ns.getD (k%ns.length).toNat 0
noncomputable abbrev atC(k:Int):Cell:=.lst [I k]
theorem qt{i j:Int}(h:j.natAbs<2^64):ZA i j:=.inr (.inl h)
section
variable {h:MH}
@[simp] theorem ZcP(a:Nat)(y:MV):mq "append" (.ref a) [y] h=opt (Zd h a) λxs=>if xs.length<aK then .ok (.f .a9) (Qb h a (xs++[y])) else .stuck:=rfl
@[simp] theorem YcH(a:Nat)(i:Int)(y:MV):mq "insert" (.ref a) [.f (.int i),y] h=opt (Zd h a) λxs=>if xs.length<aK/\-(2^63)<=i/\i<2^63 then .ok (.f .a9) (Qb h a (insertAt xs i y)) else .stuck:=rfl
end
theorem qbv{bd:MV->aL->MH->RS}(N:Nat)(Pv:Nat->aL->MH->Prop)(σ:aL)(h:MH)(h0:Pv 0 σ h)
  (step:∀ i σ h,i<N->Pv i σ h->∃ σ' h',bd (I i) σ h=.next σ' h'/\Pv (i+1) σ' h'):∃ σ' h',YO [] bd ((va N).map λ(k:Nat)=>I k) σ h=.next σ' h'/\Pv N σ' h':=by
 have:=Iw (bd:=bd) (e:=λk:Nat=>I k) Pv (va N) 0 σ h h0 (λj y σ h hj pj=>by
  have hl:j<N:=by have:=(Wa.mp hj).1;simpa using this
  have hy:y=j:=by rw[Up hl] at hj;exact(gb.inj hj).symm
  subst hy;simp only[Xi] at pj ⊢;exact step y σ h hl pj)
 simpa using this
def Own(h g:MH)(xs:List MV):Prop:=∃ t,g=h++.lst xs::t
namespace Own
variable {h g:MH} {xs:List MV}
theorem new(h:MH):Own h (h++[.lst xs]) xs:=⟨[],rfl⟩
theorem cell(o:Own h g xs)(c:Cell):Zd (c::g) (h.length+1)=some xs:=by
 obtain⟨t,rfl⟩:=o;have:=Yh (c::h) t xs;simpa using this
theorem more(o:Own h g xs)(ds:MH):Own h (g++ds) xs:=by
 obtain⟨t,rfl⟩:=o;exact⟨t++ds,by simp⟩
theorem set(o:Own h g xs)(c:Cell)(ys:List MV):∃ g',Qb (c::g) (h.length+1) ys=c::g'/\Own h g' ys:=by
 obtain⟨t,rfl⟩:=o;exact⟨h++.lst ys::t,by have:=Zj (c::h) t xs ys;simpa using this,t,rfl⟩
theorem eI{ys:List FV}(o:Own h g (ys.map .f))(c:Cell):∃ t',ZJ (.ref (h.length+1)) (c::g)=.ok (.f (.lst ys)) (c::(h++t')):=by
 obtain⟨t,rfl⟩:=o;obtain⟨t',e⟩:=yB (c::h) t ys;exact⟨t',by simpa using e⟩
end Own
theorem mod_lt(i j:Int)(hj:0<j):0<=i%j/\i%j<j:=⟨Gs _ (by lia),xE _ hj⟩
theorem qbL(ns:List Int)(hn:ns≠[])(k:Int):cb (ns.map λi=>MV.f (.int i)) (k%ns.length)=some (I (DP ns k)):=by
 have hl:0<ns.length:=xn.mpr hn;have h0:0<=k%(ns.length:Int):=Gs _ (by lia);have h1:k%(ns.length:Int)<ns.length:=xE _ (by lia);rw[qI _ _ h0,Ua,wb (by lia)];simp[DP,hn,ve,wb (show(k%(ns.length:Int)).toNat<ns.length by lia)]
def Nx(r:RS)(P:aL->MH->Prop):Prop:=∃ σ h,r=.next σ h/\P σ h
def dq(r:R MV)(P:MV->MH->Prop):Prop:=∃ v h,r=.ok v h/\P v h
@[simp] theorem DH(σ:aL)(h:MH)(P:aL->MH->Prop):Nx (.next σ h) P↔P σ h:=⟨λ⟨_,_,e,p⟩=>by cases e;exact p,λp=>⟨_,_,rfl,p⟩⟩
@[simp] theorem IH(v:MV)(h:MH)(P:MV->MH->Prop):dq (.ok v h) P↔P v h:=⟨λ⟨_,_,e,p⟩=>by cases e;exact p,λp=>⟨_,_,rfl,p⟩⟩
section
variable {bd:MV->aL->MH->RS} {σ:aL} {h:MH} {k:aL->MH->RS}
theorem Qk{Q:RS->Prop}(N:Nat)(Pv:Nat->aL->MH->Prop)(h0:Pv 0 σ h)(step:∀ i σ h,i<N->Pv i σ h->∀ Q:aL->MH->Prop,(∀ σ h,Pv (i+1) σ h->Q σ h)->Nx (bd (I i) σ h) Q)
  (fin:∀ σ' h',Pv N σ' h'->Q (k σ' h')):Q ((YO [] bd ((va N).map λ(k:Nat)=>I k) σ h).bind k):=by
 obtain⟨σ',h',e,p⟩:=qbv N Pv σ h h0 λi σ h hi p=>step i σ h hi p _ λ_ _ x=>x;rw[e];exact fin σ' h' p
theorem ym{α:Type}{e:α->MV}{Q:RS->Prop}(ys:List α)(Pv:Nat->aL->MH->Prop)(h0:Pv 0 σ h)(step:∀ i y σ h,ys[i]?=some y->Pv i σ h->∀ Q:aL->MH->Prop,(∀ σ h,Pv (i+1) σ h->Q σ h)->Nx (bd (e y) σ h) Q)
  (fin:∀ σ' h',Pv ys.length σ' h'->Q (k σ' h')):Q ((YO [] bd (ys.map e) σ h).bind k):=by
 obtain⟨σ',h',e,p⟩:=Iw (bd:=bd) (e:=e) Pv ys 0 σ h h0 (λj y σ h hj pj=>by simp only[Xi] at pj ⊢;exact step j y σ h hj pj _ λ_ _ x=>x);rw[e];exact fin σ' h' (by simpa using p)
end
theorem dq.of{r:R MV}{P:MV->MH->Prop}(k:∀ Q:MV->MH->Prop,(∀ v h,P v h->Q v h)->dq r Q):dq r P:=k P λ_ _ x=>x
theorem dq.eq{r:R MV}{a:MV}{b:MH}(k:∀ Q:MV->MH->Prop,(∀ v h,v=a/\h=b->Q v h)->dq r Q):r=.ok a b:=by
 obtain⟨v,h,e,rfl,rfl⟩:=k (λv h=>v=a/\h=b) λ_ _ x=>x;exact e
theorem ybS(c:Cell)(g:MH)(d:Cell):kill [g.length+1] (c::(g++[d]))=c::(g++[.dead]):=by
 unfold kill;refine Vd λi=>?_;rw[vc];cases i with
 |zero=>simp
 |succ i =>
  simp only[List.getElem?_cons_succ,Ud]
  rcases Nat.lt_trichotomy i g.length with hi|hi|hi
  ·rw[ub hi,ub hi];have:¬ i+1=g.length+1:=by lia
   simp only[this,if_false];cases g[i]? <;> rfl
  ·subst hi;simp
  ·rw[Uf (by simp;lia),Uf (by simp;lia)];rfl
theorem Z3(c:Cell)(g:MH)(ys:List FV):ZJ (.ref (g.length+1)) (c::(g++[.lst (ys.map .f)]))=.ok (.f (.lst ys)) (c::(g++[.dead])):=by
 rw[Ef _ _ ys ((Own.new (xs:=ys.map .f) g).cell c),ybS]
theorem yF(c:Cell)(g:MH)(xs ys:List MV):Qb (c::(g++[.lst xs])) (g.length+1) ys=c::(g++[.lst ys]):=by
 have:=Zj (c::g) [] xs ys;simpa using this
section
variable {h:MH} (sub:String->String->Option Bool) (t:String)
@[simp] theorem Al:zW sub h (.f .a9) t=some false:=rfl
@[simp] theorem CI(b:Bool):zW sub h (.f (.bl b)) t=some (decide (t="bool")||decide (t="int")):=rfl
@[simp] theorem Ao(i:Int):zW sub h (.f (.int i)) t=some (decide (t="int")):=rfl
@[simp] theorem Aj(s:Str):zW sub h (.f (.str s)) t=some (decide (t="str")):=rfl
@[simp] theorem Ai(xs:List FV):zW sub h (.f (.tup xs)) t=some (decide (t="tuple")):=rfl
@[simp] theorem An(xs:List FV):zW sub h (.f (.lst xs)) t=some (decide (t="list")):=rfl
@[simp] theorem Ak(c:String)(ns:List String)(xs:List FV):zW sub h (.f (.obj c ns xs)) t=sub c t:=rfl
end
@[simp] theorem HA(a b:Bool):jY (.bl a) (.bl b)=some (a==b):=by simp[jY,fN]
theorem ybI(ms FL:List (Int×Int)):jY (.lst (ms.map KJ)) (.lst (FL.map KJ))=some (decide (ms=FL)):=by
 unfold jY;rw[if_pos ⟨by simp,by simp⟩,Ij,qF];rintro⟨a,b⟩ ⟨c,d⟩;simp only[Fy,ZT,Il,Bool.and_true];by_cases h1:a=c <;> by_cases h2:b=d <;> simp[h1,h2]
theorem HI(xs:List MV)(i:Int)(h0:0<=i)(h1:i<=xs.length):ZI xs none (some i)=xs.take i.toNat:=by
 have e:qO xs.length xs.length (some i)=i.toNat:=by simp only[qO];rw[if_neg (by lia)];lia
 simp only[ZI,e];simp[qO]
theorem DT(xs:List MV)(i:Int)(h0:0<=i)(h1:i<=xs.length):ZI xs (some i) none=xs.drop i.toNat:=by
 have e:qO xs.length 0 (some i)=i.toNat:=by simp only[qO];rw[if_neg (by lia)];lia
 simp only[ZI,e];exact Xh (by simp[qO])
structure Drawn (most:Int) (rows:List (List Int)) (i j:Nat):Prop where
 len:rows.length=i
 gN:∀ r∈rows,r.length=j
 sh:∀ r∈rows,∀ v∈r,0<=v/\v<=most
theorem Drawn.snoc{most:Int}{rows:List (List Int)}{i j:Nat}{r:List Int}(d:Drawn most rows i j)(hr:r.length=j/\∀ v∈r,0<=v/\v<=most):Drawn most (rows++[r]) (i+1) j :=
 ⟨by simp[d.len],λx hx=>by
  rcases vh.mp hx with hx|hx
  ·exact d.gN x hx
  ·simp at hx;subst hx;exact hr.1,λx hx=>by
  rcases vh.mp hx with hx|hx
  ·exact d.sh x hx
  ·simp at hx;subst hx;exact hr.2⟩
theorem JU(xs:List MV)(i:Int)(h0:0<=i)(h1:i<xs.length):∃ v∈xs,cb xs i=some v:=by
 rw[qI xs i h0,wb (by lia)];exact⟨_,Vo (by lia),rfl⟩
theorem Ej(xs ys:List FV)(h:MH)(c:xs.length+ys.length<=aK):ye true .add (.f (.lst xs)) (.f (.lst ys)) h=.ok (.f (.lst (xs++ys))) h:=by
 have:qo true (xs.map MV.f++ys.map MV.f) h=.ok (.f (.lst (xs++ys))) h:=by rw[<- vf,qb]
 simp[ye,c,this]
theorem OQ(n d:Nat)(i:Int)(h0:0<=i)(h1:i<=n):qO n d (some i)=i.toNat:=by
 simp only[qO];rw[if_neg (by lia)];lia
theorem Yb6(xs:List MV)(i j:Int)(h0:0<=i)(h1:i<=j)(h2:j<=xs.length):ZI xs (some i) (some j)=(xs.drop i.toNat).take (j.toNat-i.toNat):=by
 have e1:=OQ xs.length 0 i h0 (by lia);have e2:=OQ xs.length xs.length j (by lia) h2;simp only[ZI,e1,e2]
theorem KP(b:Bool)(xs:List FV)(i j:Int)(h:MH)(h0:0<=i)(h1:i<=j)(h2:j<=xs.length):zp true (.f (sq b xs)) (some i) (some j) h=.ok (.f (sq b ((xs.drop i.toNat).take (j.toNat-i.toNat)))) h:=by
 have e:=Yb6 (xs.map MV.f) i j h0 h1 (by simpa using h2);rw[<- uy,<- Uy] at e;cases b with
 |true=>simp only[sq,if_true,zp,ZbS,e,Zbw]
 |false=>simp only[sq,Wg,if_false,zp,IV,Fo,Qd,e,qb]
theorem L0(xs ys:List FV)(h:MH)(c:xs.length+ys.length<=1000):ye true .add (.f (.lst xs)) (.f (.lst ys)) h=.ok (.f (.lst (xs++ys))) h:=Ej xs ys h (Xe c (by decide))
end MP
end
section
namespace MP
open PySem
section
variable {h:MH}
theorem ZX(h:MH)(a b s:Int)(c:-(2^30)<=a/\a<2^30/\-(2^30)<=b/\b<2^30/\0<s/\s<2^30):iB "range" [.f (.int a),.f (.int b),.f (.int s)] h=some ((va (fA a b s)).map λ(k:Nat)=>I (a+k*s),[]):=if_pos c
@[simp] theorem ZcK(a:Nat)(z:MV):mq "extend" (.ref a) [z] h=opt (Zd h a) λxs=>opt (listOf h z) λys=>if xs.length+ys.length<=aK then .ok (.f .a9) (Qb h a (xs++ys)) else .stuck:=rfl
@[simp] theorem CC(a:Nat):mq "pop" (.ref a) [] h=opt (Zd h a) λxs=>opt (xs[xs.length-1]?) λy=>.ok y (Qb h a (xs.take (xs.length-1))):=rfl
@[simp] theorem Qc0(a:Nat)(i:Int):mq "pop" (.ref a) [.f (.int i)] h=opt (Zd h a) λxs=>opt (lg xs.length i) λk=>opt (xs[k]?) λy=>if -(2^63)<=i/\i<2^63 then .ok y (Qb h a (xs.take k++xs.drop (k+1))) else .stuck:=rfl
theorem zcu(xs:List MV)(i j:Int)(h0:0<=i)(h1:i<=j):ZI xs (some i) (some j)=(xs.drop i.toNat).take (j.toNat-i.toNat):=by
 have e1:qO xs.length 0 (some i)=min i.toNat xs.length:=by simp only[qO];rw[if_neg (by lia)]
 have e2:qO xs.length xs.length (some j)=min j.toNat xs.length:=by simp only[qO];rw[if_neg (by lia)]
 simp only[ZI,e1,e2];apply Vd;intro k;simp only[List.getElem?_take,Wj];by_cases c:i.toNat<=xs.length
 ·rw[Jt c];by_cases c2:j.toNat<=xs.length
  ·rw[Jt c2]
  ·rw[wA (by lia)];by_cases c3:i.toNat+k<xs.length
   ·rw[if_pos (by lia),if_pos (by lia)]
   ·rw[if_neg (by lia)];split
    ·rw[Uf (by lia)]
    ·rfl
 ·rw[wA (by lia),wA (by lia)];rw[if_neg (by lia)];split
  ·rw[Uf (by lia)]
  ·rfl
end
theorem YA{α:Type}(f:α->FV)(xs:List α):(xs.map (MV.f∘f)).mapIdx (λk x=>yk [.f (.int k),x])=xs.zipIdx.map λp=>MV.f (.tup [.int p.2,f p.1]):=by
 rw[List.mapIdx_eq_zipIdx_map,List.zipIdx_map,Xd];rfl
noncomputable def qh(count:Int)(rows:List (List Int)):FV:=.obj "Tile" ["count","rows"] [.int count,Za true true rows]
structure dz (least most:Int) (rows:List (List Int)):Prop where
 m1:1<=most
 ne:rows≠[]
 len:∃ n:Nat,0<n/\∀ r∈rows,r.length=n
 sh:∀ r∈rows,∀ v∈r,least<=v/\v<=most
 sz:rows.length<=1000
noncomputable def Qm(rows:List (List Int))(t l a b:Nat):List (List Int):=((rows.drop t).take a).map λr=>(r.drop l).take b
section
variable {most:Int} {rows r1 r2:List (List Int)} {H W:Nat}
theorem Drawn.part(d:Drawn most rows H W){t l a b:Nat}(h1:t+a<=H)(h2:l+b<=W):Drawn most (Qm rows t l a b) a b:=by
 refine⟨by simp[Qm,d.len];lia,λr hr=>?_,λr hr v hv=>?_⟩
 ·simp only[Qm,Vf] at hr;obtain⟨r0,h0,rfl⟩:=hr;have:=d.gN r0 (Wr (xo h0));simp[this];lia
 ·simp only[Qm,Vf] at hr;obtain⟨r0,h0,rfl⟩:=hr;exact d.sh r0 (Wr (xo h0)) v (Wr (xo hv))
theorem Drawn.cons(d:Drawn most rows H W)(hH:1<=H):∃ r rs,rows=r::rs/\r.length=W/\rs.length+1=H:=by
 cases rows with
 |nil=>have:=d.len;simp at this;lia
 |cons r rs=>exact⟨r,rs,rfl,d.gN r (by simp),by have:=d.len;simpa using this⟩
end
theorem qcd{α β:Type}(f:α->FV)(g:β->FV)(xs:List α)(ys:List β):List.map (λp:MV×MV=>yk [p.1,p.2]) ((xs.map (MV.f∘f)).zip (ys.map (MV.f∘g)))=(xs.zip ys).map λp=>MV.f (.tup [f p.1,g p.2]):=by
 rw[List.zip_map,Xd];rfl
def JY(H W:Nat)(t l a b:Int):Prop:=0<=t/\0<=l/\1<=a/\1<=b/\t+a<=H/\l+b<=W
theorem Ybo{α:Type}{bd:MV->aL->MH->R (Option MV×aL)}{h:MH}{G:qG}{e g:α->MV}{caps:aL}(hg:bx G h):∀(ys:List α)(acc:List MV)(z:Option MV),acc.length+ys.length<=aK ->
  (∀ y∈ys,∀ z,∃ z',bd (e y) (z::caps) h=.ok (some (g y),z'::caps) h)->Qj G bd (ys.map e) acc (z::caps) h=.ok (acc++ys.map g) h
 |[],acc,z,_,_=>by simp[Qj,hg]
 |y::r,acc,z,hl,hb=>by
  obtain⟨z',e1⟩:=hb y (by simp) z;simp only[ud] at hl;have ih:=Ybo (bd:=bd) (e:=e) (g:=g) (caps:=caps) hg r (acc++[g y]) z' (by simp;lia) λy hy=>hb y (by simp[hy]);simp only[Ub,Qj,hg,true_and,e1,R.aw,ih];rw[if_pos (by lia)];simp
theorem Ou{α:Type}{bd:MV->aL->MH->R (Option MV×aL)}{e:α->MV}{caps:aL}(Pv:Nat->List MV->MH->Prop):∀(ys:List α)(i:Nat)(acc:List MV)(z:Option MV)(h:MH),Pv i acc h->acc.length+ys.length<=aK ->
  (∀ j y acc z h,ys[j]?=some y->Pv (i+j) acc h->∃ v z' h',bd (e y) (z::caps) h=.ok (some v,z'::caps) h'/\Pv (i+j+1) (acc++[v]) h')->∃ gy h',Qj [] bd (ys.map e) acc (z::caps) h=.ok gy h'/\Pv (i+ys.length) gy h'
 |[],i,acc,z,h,p,_,_=>⟨acc,h,by simp[Qj],p⟩
 |y::r,i,acc,z,h,p,hl,hb=>by
  obtain⟨v,z',h',e1,p1⟩:=hb 0 y acc z h rfl p;simp only[ud] at hl;obtain⟨gy,h2,e2,p2⟩:=Ou Pv r (i+1) (acc++[v]) z' h' p1 (by simp;lia) (λj y acc z h hj q=>by
   have:=hb (j+1) y acc z h (by simpa using hj) (by rw[show i+(j+1)=i+1+j by lia];exact q);rw[show i+(j+1)+1=i+1+j+1 by lia] at this;exact this)
  refine⟨gy,h2,?_,by rw[ud,show i+(r.length+1)=i+1+r.length by lia];exact p2⟩;simp only[Ub,Qj,J8,true_and,e1,R.aw];rw[if_pos (by lia)];exact e2
theorem Ycm{α:Type}{bd:MV->aL->MH->R (Option MV×aL)}{e:α->MV}{caps:aL}{ys:List α}{z:Option MV}{h:MH}{c:R (List MV)}(hc:Qj [] bd (ys.map e) [] (z::caps) h=c)(Pv:Nat->List MV->MH->Prop)(h0:Pv 0 [] h)(hl:ys.length<=aK)
  (step:∀ j y acc z h,ys[j]?=some y->Pv j acc h->∃ v z' h',bd (e y) (z::caps) h=.ok (some v,z'::caps) h'/\Pv (j+1) (acc++[v]) h'):∃ gy h',c=.ok gy h'/\Pv ys.length gy h':=by
 obtain⟨gy,h',e1,p⟩:=Ou (bd:=bd) (e:=e) (caps:=caps) Pv ys 0 [] z h h0 (by simpa using hl) (λj y acc z h hj q=>by rw[Xi] at q ⊢;exact step j y acc z h hj q);rw[hc,Xi] at *;exact⟨gy,h',e1,p⟩
theorem OZ{α:Type}{bd:MV->aL->MH->R (Option MV×aL)}{h:MH}{e g:α->MV}{t:α->Bool}{caps:aL}:∀(ys:List α)(acc:List MV)(z w:Option MV),acc.length+ys.length<=aK ->
  (∀ y∈ys,∀ z w,∃ z' w',bd (e y) (z::w::caps) h=.ok (if t y=true then some (g y) else none,z'::w'::caps) h)->Qj [] bd (ys.map e) acc (z::w::caps) h=.ok (acc++(ys.filter t).map g) h
 |[],acc,z,w,_,_=>by simp[Qj]
 |y::r,acc,z,w,hl,hb=>by
  obtain⟨z',w',e'⟩:=hb y (by simp) z w;simp only[ud] at hl;have ih:=λgy (oR:gy.length+r.length<=aK)=>OZ (bd:=bd) (h:=h) (e:=e) (g:=g) (t:=t) (caps:=caps) r gy z' w' oR (λy hy z w=>hb y (by simp[hy]) z w);cases ht:t y with
  |true =>
   simp[ht] at e';simp[Qj,e',ih (acc++[g y]) (by simp;lia),ht]
   lia
  |false =>
   simp[ht] at e';simp[Qj,e',ih acc (by lia),ht]
   lia
noncomputable def yn(iO:Int)(i:Nat)(r:List Int):List (Nat×Nat):=(r.zipIdx.filter λq=>decide (q.1<=iO)).map λq=>(i,q.2)
noncomputable def mZ(iO:Int)(rows:List (List Int)):List (Nat×Nat):=rows.zipIdx.flatMap λp=>yn iO p.2 p.1
noncomputable abbrev qe(p:Nat×Nat):FV:=.tup [.int p.1,.int p.2]
theorem K9(iO:Int)(i:Nat)(r:List Int):(yn iO i r).length<=r.length:=by
 unfold yn;rw[xc];exact Xe (ww _ _) (by simp)
theorem YaV(iO:Int)(i:Nat)(r:List Int):yn iO i r=((va r.length).filter λj=>decide (r.getD j 0<=iO)).map λj=>(i,j):=by
 have e:r.zipIdx=(va r.length).map λj=>(r.getD j 0,j):=by
  apply Vd;intro j;rw[wf,Ua];by_cases hj:j<r.length
  ·rw[Up hj,wb hj];simp[ve,hj]
  ·rw[Uf (by lia),Uf (by simpa using hj)];rfl
 unfold yn;rw[e,List.filter_map,Xd];rfl
theorem Fv(b:Bool)(r r':List Int):fN (za b r) (za b r')=decide (r=r'):=by
 cases b
 ·simp only[za,sq,Wg,if_false,Ij];exact qF FV.int (λa b=>by simp[Il];rw[uA];simp) r r'
 ·simp only[za,sq,if_true,Fy];exact qF FV.int (λa b=>by simp[Il];rw[uA];simp) r r'
theorem Ft(n:Nat)(b:Bool)(r:List Int):bZ (n+2) (za b r)=true:=by
 cases b <;> simp[za,sq]
theorem N2(n:Nat)(b1 b2:Bool)(rows:List (List Int)):bZ (n+3) (Za b1 b2 rows)=true:=by
 cases b1 <;> simp[Za,sq,Ft]
theorem OI(b1 b2:Bool)(rows i3:List (List Int)):jY (Za b1 b2 rows) (Za b1 b2 i3)=some (decide (rows=i3)):=by
 have e:fN (Za b1 b2 rows) (Za b1 b2 i3)=decide (rows=i3):=by
  cases b1
  ·simp only[Za,sq,Wg,if_false,Ij];exact qF (za b2) (Fv b2) rows i3
  ·simp only[Za,sq,if_true,Fy];exact qF (za b2) (Fv b2) rows i3
 unfold jY;rw[if_pos ⟨N2 5 b1 b2 rows,N2 5 b1 b2 i3⟩,e]
theorem qcj(b:Bool)(r r':List Int):jY (za b r) (za b r')=some (decide (r=r')):=by
 unfold jY;rw[if_pos ⟨Ft 6 b r,Ft 6 b r'⟩,Fv]
structure eU (most:Int) (inks:List Int):Prop where
 up:inks.Pairwise (· < ·)
 gV:∀ v∈inks,0<=v/\v<=most
 z:0∈inks
 m:most∈inks
 sz:inks.length<=50
noncomputable def place(inks:List Int)(s:Int):Nat:=(inks.filter λk=>decide (k<=s)).length
theorem yt(s:Int):∀(inks:List Int),inks.Pairwise (· < ·)->∀ i,i<inks.length->(inks.getD i 0<=s↔i<place inks s)
 |[],_,i,h=>by simp at h
 |k::ks,up,i,h=>by
  rw[vx] at up;have ih:=yt s ks up.2;by_cases c:k<=s
  ·have e:place (k::ks) s=place ks s+1:=by simp[place,c]
   rw[e];cases i with
   |zero=>simp[c]
   |succ i =>
    have:=ih i (by simpa using h);simp only[XC]
    lia
  ·have e0:place ks s=0:=by
    unfold place;rw[List.length_eq_zero_iff,xB];intro x hx;have:=up.1 x hx;simp;lia
   have e:place (k::ks) s=0:=by
    have:place (k::ks) s=place ks s:=by simp[place,c]
    rw[this,e0]
   rw[e];constructor
   ·intro hh;cases i with
    |zero=>simp at hh;exact absurd hh c
    |succ i =>
     simp only[XC] at hh;have hi:i<ks.length:=by simpa using h
     have:=up.1 (ks.getD i 0) (by simp[ve,hi])
     lia
   ·intro hh;lia
theorem yA(inks:List Int)(s:Int):place inks s<=inks.length:=ww _ _
theorem JH{inks:List Int}(up:inks.Pairwise (· < ·)){i j:Nat}(h:i<j)(hj:j<inks.length):inks.getD i 0<inks.getD j 0:=by
 have:=(uz.mp up) i j (by lia) hj h;simpa[ve,hj,show i<inks.length by lia] using this
theorem pD{inks:List Int}(up:inks.Pairwise (· < ·)){i j:Nat}(h:i<=j)(hj:j<inks.length):inks.getD i 0<=inks.getD j 0:=by
 by_cases e:i=j
 ·subst e;exact Ur _
 ·exact Int.le_of_lt (JH up (by lia) hj)
theorem yV{inks:List Int}{v:Int}(h:v∈inks):∃ i,i<inks.length/\inks.getD i 0=v:=by
 obtain⟨i,hi,e⟩:=Xs h;exact⟨i,hi,by simp[ve,hi,e]⟩
theorem Qn{inks:List Int}{i:Nat}(h:i<inks.length):inks.getD i 0∈inks:=by simp[ve,h]
noncomputable def Ys(inks:List Int)(count s t:Int):Int :=
 if place inks s=inks.length then inks.getD (place inks s-1) 0
 else if t*(inks.getD (place inks s) 0-inks.getD (place inks s-1) 0)<=(s-inks.getD (place inks s-1) 0)*count then inks.getD (place inks s) 0 else inks.getD (place inks s-1) 0
namespace eU
variable {most:Int} {inks:List Int} (K:eU most inks)
include K
theorem pos:0<inks.length:=List.length_pos_of_mem K.z
theorem head:inks.getD 0 0=0:=by
 obtain⟨i,hi,e⟩:=yV K.z;have h1:=pD K.up (Xq i) hi;have h2:=K.gV _ (Qn K.pos)
 lia
theorem last:inks.getD (inks.length-1) 0=most:=by
 have hp:=K.pos;obtain⟨i,hi,e⟩:=yV K.m;have h1:=pD K.up (show i<=inks.length-1 by lia) (by lia);have h2:=K.gV _ (Qn (show inks.length-1<inks.length by lia))
 lia
theorem two(h:1<=most):2<=inks.length:=by
 have hp:=K.pos;by_cases c:inks.length=1
 ·have:=K.head;have l:=K.last;rw[c] at l;simp only[Nat.sub_self] at l;lia
 ·lia
theorem fX{s:Int}(h:0<=s):1<=place inks s:=(yt s inks K.up 0 K.pos).mp (by rw[K.head];exact h)
theorem eE{s:Int}(h:0<=s):place inks s-1<inks.length:=by have:=yA inks s;have:=K.fX h;lia
theorem j6{s:Int}(h:0<=s):inks.getD (place inks s-1) 0<=s:=(yt s inks K.up _ (K.eE h)).mpr (by have:=K.fX h;lia)
theorem lB{s:Int}(h:place inks s<inks.length):s<inks.getD (place inks s) 0:=by
 have:=yt s inks K.up _ h
 lia
theorem fY{s t:Int}(count:Int)(h:0<=s):Ys inks count s t=inks.getD (place inks s-1) 0\/(place inks s<inks.length/\Ys inks count s t=inks.getD (place inks s) 0/\t*(inks.getD (place inks s) 0-inks.getD (place inks s-1) 0)<=(s-inks.getD (place inks s-1) 0)*count):=by
 unfold Ys;have:=yA inks s;split
 ·exact .inl rfl
 ·split
  ·exact .inr ⟨by lia,rfl,by assumption⟩
  ·exact .inl rfl
theorem o9{s t:Int}(count:Int)(h:0<=s):Ys inks count s t∈inks:=by
 rcases K.fY (t:=t) count h with e|⟨l,e,_⟩
 ·rw[e];exact Qn (K.eE h)
 ·rw[e];exact Qn l
theorem l9{s t:Int}(count:Int)(h:0<=s){v:Int}(hv:v∈inks)(hs:v<=s):v<=Ys inks count s t:=by
 obtain⟨i,hi,rfl⟩:=yV hv;have hl:=(yt s inks K.up i hi).mp hs;have h1:=pD K.up (show i<=place inks s-1 by lia) (K.eE h)
 rcases K.fY (t:=t) count h with e|⟨l,e,_⟩
 ·rw[e];exact h1
 ·rw[e];exact Int.le_trans h1 (pD K.up (by lia) l)
theorem nF{s s' t count:Int}(h:0<=s)(hs:s<=s')(hc:0<=count):Ys inks count s t<=Ys inks count s' t:=by
 have bE:place inks s<=place inks s':=by
  by_cases c:place inks s'<inks.length
  ·have a:=yt s inks K.up _ c;have b:=yt s' inks K.up _ c
   lia
  ·have:=yA inks s;have:=yA inks s';lia
 by_cases ep:place inks s=place inks s'
 ·rcases K.fY (t:=t) count h with e|⟨l,e,c⟩
  ·rw[e];have:=K.j6 h;exact K.l9 count (by lia) (Qn (K.eE h)) (by lia)
  ·have c2:t*(inks.getD (place inks s') 0-inks.getD (place inks s'-1) 0)<=(s'-inks.getD (place inks s'-1) 0)*count:=by
    rw[<- ep];exact Int.le_trans c (wx (by lia) hc)
   have:Ys inks count s' t=inks.getD (place inks s') 0:=by
    unfold Ys;rw[if_neg (by lia),if_pos c2]
   rw[e,this,ep];exact Ur _
 ·have ir:place inks s<place inks s':=by lia
  have oR:=K.eE (show 0<=s' by lia);have h1:Ys inks count s t<=inks.getD (place inks s) 0:=by
   rcases K.fY (t:=t) count h with e|⟨l,e,c⟩
   ·rw[e];exact pD K.up (by lia) (by lia)
   ·rw[e];exact Ur _
  have h2:=pD K.up (show place inks s<=place inks s'-1 by lia) oR;have h3:=K.l9 (t:=t) count (show 0<=s' by lia) (Qn oR) (K.j6 (by lia))
  lia
theorem nG{s t:Int}(count:Int)(h:0<=s):0<=Ys inks count s t/\Ys inks count s t<=most:=K.gV _ (K.o9 count h)
end eU
noncomputable def qk(ak:List (List Int))(H W:Nat)(a b:Int):Int:=(ak.getD (a%H).toNat []).getD (b%W).toNat 0
noncomputable def Yp(inks:List Int)(count:Int)(th:Int->Int->Int)(a left:Int)(r:List Int):List Int:=r.zipIdx.map λp=>Ys inks count p.1 (th a ((p.2:Int)+left))
noncomputable def Yk(inks:List Int)(count:Int)(th:Int->Int->Int)(top left:Int)(rows:List (List Int)):List (List Int):=rows.zipIdx.map λp=>Yp inks count th ((p.2:Int)+top) left p.1
theorem i5{ks:List Int}{k x:Int}:x∈Yt ks k↔x∈ks\/x=k:=by
 unfold Yt;split
 ·next h=>exact⟨.inl,λe=>e.elim id λz=>z ▸ h⟩
 ·simp
structure kA (most:Int) (ks:List Int) (n:Nat):Prop where
 nd:ks.Nodup
 gV:∀ v∈ks,0<=v/\v<=most
 z:0∈ks
 m:most∈ks
 sz:ks.length<=n
theorem kA.start{most:Int}(h:1<=most):kA most (Yt (Yt [] 0) most) 2:=by
 have e:Yt (Yt [] 0) most=[0,most]:=by simp[Yt,show ¬ most=0 by lia]
 rw[e];exact⟨by simp;lia,by simp;lia,by simp,by simp,by simp⟩
theorem kA.add{most:Int}{ks:List Int}{n:Nat}(d:kA most ks n){k:Int}(h:0<=k/\k<=most):kA most (Yt ks k) (n+1):=by
 refine⟨?_,λv hv=>?_,i5.mpr (.inl d.z),i5.mpr (.inl d.m),?_⟩
 ·unfold Yt;split
  ·exact d.nd
  ·next hn=>exact uu.mpr ⟨d.nd,by simp,λa ha b hb=>by simp at hb;subst hb;exactλe=>hn (e ▸ ha)⟩
 ·rcases i5.mp hv with hv|rfl
  ·exact d.gV v hv
  ·exact h
 ·unfold Yt;have:=d.sz;split
  ·lia
  ·simp;lia
theorem kA.inks{most:Int}{ks:List Int}{n:Nat}(d:kA most ks n)(hn:n<=50):eU most (YU ks):=by
 have p:=qV ks;have nd:(YU ks).Nodup:=p.nodup_iff.mpr d.nd;refine⟨?_,λv hv=>d.gV v (p.mem_iff.mp hv),p.mem_iff.mpr d.z,p.mem_iff.mpr d.m,by rw[p.length_eq];have:=d.sz;lia⟩;have le:=Ov ks;exact(List.pairwise_and_iff.mpr ⟨le,nd⟩).imp λh=>by have:=h.1;have:=h.2;lia
theorem yW(c:Cell)(g:MH)(ks:List Int):pB (c::(g++[.iQ ks])) (.ref (g.length+1))=some ks:=by simp[pB]
theorem YbV(c:Cell)(g:MH)(ks:List Int)(d:Cell):(c::(g++[.iQ ks])).set (g.length+1) d=c::(g++[d]):=by simp
theorem Y0(s:Int):∀(inks:List Int),inks.Pairwise (· < ·)->(inks.filter λk=>decide (k<=s))=inks.take (place inks s)/\(inks.filter λk=>decide (s<k))=inks.drop (place inks s)
 |[],_=>by simp[place]
 |k::ks,up=>by
  rw[vx] at up;have ih:=Y0 s ks up.2;by_cases c:k<=s
  ·have e:place (k::ks) s=place ks s+1:=by simp[place,c]
   rw[e];simp[c,show ¬ s<k by lia,ih.1,ih.2]
  ·have e0:(ks.filter λk=>decide (k<=s))=[]:=by
    rw[xB];intro x hx;have:=up.1 x hx;simp;lia
   have e:place (k::ks) s=0:=by simp[place,c,e0]
   have e1:(ks.filter λk=>decide (s<k))=ks:=by
    rw[List.filter_eq_self];intro x hx;have:=up.1 x hx;simp;lia
   rw[e];simp[c,show s<k by lia,e0,e1]
theorem Im{l:List Int}{n i:Nat}(h:i<n):(l.take n).getD i 0=l.getD i 0:=by simp[ve,ue h]
noncomputable def QN(r:List FV):Cell:=.lst (r.map .f)
noncomputable def QV(h:MH)(S:List (List FV)):MH:=h++(S.map QN++[.lst ((va S.length).map λi=>MV.ref (h.length+i))])
theorem Zb9(h:MH)(S:List (List FV)):Zd (QV h S) (h.length+S.length)=some ((va S.length).map λi=>MV.ref (h.length+i)):=by
 unfold QV Zd;rw[Vc (by lia),Vc (by simp)];simp
theorem QbY(h:MH)(S:List (List FV))(i:Nat)(r:List FV)(e:S[i]?=some r):Zd (QV h S) (h.length+i)=some (r.map .f):=by
 have hi:=(Wa.mp e).1;unfold QV Zd;rw[Vc (by lia),ub (by simp;lia)];simp[e,QN]
theorem Qb8(h:MH)(S:List (List FV))(i:Nat)(r':List FV)(hi:i<S.length):Qb (QV h S) (h.length+i) (r'.map .f)=QV h (S.set i r'):=by
 unfold QV Qb;rw[List.set_append_right _ _ (by lia),List.set_append_left _ _ (by simp;lia),show h.length+i-h.length=i by lia,XE];simp[QN]
theorem QbR(h:MH)(rows:List (List Int)):QV h (rows.map λr=>r.map FV.int)=own h rows:=by
 unfold QV own;simp[QN,Dm,we]
theorem QbJ(h:MH)(a:Nat)(xs:List MV)(ys:List FV)(x:FV)(e:Zd h a=some xs):yp h (.f x) (Qb h a (ys.map .f))=.ok (.f x) (Qb h a (ys.map .f)):=by
 have t:cT h (Qb h a (ys.map .f)):=by
  refine⟨by simp[Qb],λi c hi ec=>?_⟩;unfold Qb at ec;rw[Uu] at ec;by_cases ha:a=i
  ·subst ha;simp[hi] at ec;subst ec;exact .inr ⟨ys,rfl⟩
  ·simp[ha] at ec;exact .inl (by simpa using ec)
 unfold yp;rw[if_pos t];have:(Qb h a (ys.map MV.f)).take h.length=Qb h a (ys.map MV.f):=Xh (by simp[Qb]);simp[this]
noncomputable abbrev Qh:=Nat×Nat×List (List Int)
noncomputable def fI(most:Int)(p:Qh):FV:=.tup [.int p.1,.int p.2.1,Qe most p.2.2]
structure ky (most:Int) (rows:List (List Int)) (H W:Nat) (p:Qh) (a b:Nat):Prop where
 d:Drawn most p.2.2 a b
 a1:1<=a
 b1:1<=b
 ha:p.1+a<=H
 hb:p.2.1+b<=W
 eq:∀ i j,i<a->j<b->(p.2.2.getD i []).getD j 0=(rows.getD (p.1+i) []).getD (p.2.1+j) 0
noncomputable def qT(p:Qh):Nat:=p.2.2.length
noncomputable def ZF(p:Qh):Nat:=(p.2.2.headD []).length
noncomputable def zu(p:Qh)(i j:Nat):Bool:=decide (p.1<=i/\i<p.1+qT p/\p.2.1<=j/\j<p.2.1+ZF p)
theorem ky.high{most:Int}{rows:List (List Int)}{H W a b:Nat}{p:Qh}(f:ky most rows H W p a b):qT p=a:=f.d.len
theorem ky.wide{most:Int}{rows:List (List Int)}{H W a b:Nat}{p:Qh}(f:ky most rows H W p a b):ZF p=b:=by
 have hl:=f.d.len;have ha:=f.a1;unfold ZF;cases e:p.2.2 with
 |nil=>rw[e] at hl;simp at hl;lia
 |cons r rs=>exact f.d.gN r (by rw[e];simp)
noncomputable def iZ(rows:List (List Int))(cov:Nat->Nat->Bool):List (List FV):=rows.mapIdx λi r=>r.mapIdx λj v=>if cov i j=true then .int v else .a9
theorem B0{rows:List (List Int)}{cov:Nat->Nat->Bool}{i:Nat}{r:List Int}(e:rows[i]?=some r):(iZ rows cov)[i]?=some (r.mapIdx λj v=>if cov i j=true then .int v else .a9):=by
 simp[iZ,e]
theorem YZ(rows:List (List Int))(cov:Nat->Nat->Bool):(iZ rows cov).length=rows.length:=by simp[iZ]
theorem Ku{rows:List (List Int)}{cov cov':Nat->Nat->Bool}(h:∀ i j,i<rows.length->(∀ r,rows[i]?=some r->j<r.length)->cov i j=cov' i j):iZ rows cov=iZ rows cov':=by
 unfold iZ;apply Vd;intro i;rw[vc,vc];cases e:rows[i]? with
 |none=>rfl
 |some r =>
  simp only[Xf,gb.injEq];apply Vd;intro j;rw[vc,vc];cases e2:r[j]? with
  |none=>rfl
  |some v =>
   have:=h i j (Wa.mp e).1 (λr' e'=>by rw[e] at e';cases e';exact(Wa.mp e2).1);simp[this]
theorem qcl{rows:List (List Int)}{cov:Nat->Nat->Bool}(h:∀ i j,i<rows.length->(∀ r,rows[i]?=some r->j<r.length)->cov i j=true):iZ rows cov=rows.map λr=>r.map FV.int:=by
 rw[Ku (cov':=λ_ _=>true) h];unfold iZ;apply Vd;intro i;rw[vc,Ua];cases e:rows[i]? with
 |none=>rfl
 |some r =>
  simp only[Xf,gb.injEq,if_true];apply Vd;intro j;rw[vc,Ua]
theorem zcj{rows:List (List Int)}{W:Nat}(hw:∀ r∈rows,r.length=W):iZ rows (λ_ _=>false)=xa rows.length (xa W .a9):=by
 unfold iZ;apply Vd;intro i;rw[vc,Uk];cases e:rows[i]? with
 |none=>rw[if_neg (by have:=Uz.mp e;lia)];rfl
 |some r =>
  rw[if_pos (Wa.mp e).1];simp only[Xf,gb.injEq];have hr:=hw r (Vb e);apply Vd;intro j;rw[vc,Uk];by_cases hj:j<r.length
  ·rw[wb hj,if_pos (by lia)];simp
  ·rw[Uf (by lia),if_neg (by lia)];rfl
set_option tactic.hygienic true in
theorem KU{h:MH}{a:Nat}{xs:List MV}(e:Zd h a=some xs):a<h.length/\h[a]?=some (.lst xs):=by
 unfold Zd at e;split at e
 ·next ys w=>cases e;exact⟨(Wa.mp w).1,w⟩
 ·cases e
theorem ybN{h:MH}{a:Nat}{xs:List MV}(e:Zd h a=some xs)(ys:List MV):Zd (Qb h a ys) a=some ys:=by
 have:=(KU e).1;simp[Zd,Qb,this]
theorem Za6(h:MH)(a:Nat)(xs ys:List MV):Qb (Qb h a xs) a ys=Qb h a ys:=by simp[Qb]
theorem yaW{h:MH}{a:Nat}{xs:List MV}(e:Zd h a=some xs):Qb h a xs=h:=by
 obtain⟨h1,h2⟩:=KU e;unfold Qb;apply Vd;intro i;rw[Uu];by_cases c:a=i
 ·subst c;rw[if_pos rfl,if_pos h1,h2]
 ·simp[c]
noncomputable def zB(r:List FV)(l:Nat)(s:List Int):List FV:=r.mapIdx λj x=>if l<=j/\j<l+s.length then .int (s.getD (j-l) 0) else x
theorem qb6(r:List FV)(l:Nat):zB r l []=r:=by
 unfold zB;apply Vd;intro i;rw[vc];cases r[i]? with
 |none=>rfl
 |some x=>simp;lia
theorem O1(r:List FV)(l:Nat)(s:List Int):(zB r l s).length=r.length:=by simp[zB]
theorem zcs{r:List FV}{l:Nat}{s:List Int}{j:Nat}{x:FV}(e:r[j]?=some x)(h:¬(l<=j/\j<l+s.length)):(zB r l s)[j]?=some x:=by
 unfold zB;rw[vc,e];simp only[Xf,h,if_false]
theorem YbK(r:List FV)(l:Nat)(s:List Int)(k:Nat)(v:Int)(e:s[k]?=some v)(hl:l+s.length<=r.length):(zB r l (s.take k)).set (l+k) (.int v)=zB r l (s.take (k+1)):=by
 have hk:=(Wa.mp e).1;have l1:(s.take k).length=k:=by rw[Vh];lia
 have l2:(s.take (k+1)).length=k+1:=by rw[Vh];lia
 apply Vd;intro j;rw[Uu];by_cases c:l+k=j
 ·subst c;rw[if_pos rfl,if_pos (by rw[O1];lia)];unfold zB;rw[vc,wb (by lia),l2];simp only[Xf,show l<=l+k/\l+k<l+(k+1) by lia,and_self,if_true];rw[show l+k-l=k by lia,Im (by lia)];simp[ve,e]
 ·rw[if_neg c];unfold zB;rw[vc,vc,l1,l2];cases r[j]? with
  |none=>rfl
  |some x =>
   simp only[Xf,gb.injEq];by_cases c1:l<=j/\j<l+k
   ·rw[if_pos c1,if_pos (by lia),Im (by lia),Im (by lia)]
   ·rw[if_neg c1,if_neg (by lia)]
theorem zcm{most:Int}{rows:List (List Int)}{H W a b:Nat}{p:Qh}(f:ky most rows H W p a b)(hw:∀ r∈rows,r.length=W)(cov:Nat->Nat->Bool)(d:Nat)(s r:List Int)(es:p.2.2[d]?=some s)(er:rows[p.1+d]?=some r) :
  zB (r.mapIdx λj v=>if cov (p.1+d) j=true then FV.int v else .a9) p.2.1 s=r.mapIdx λj v=>if(cov (p.1+d) j||decide (p.2.1<=j/\j<p.2.1+b))=true then FV.int v else .a9:=by
 have hs:=f.d.gN s (Vb es);have hd:d<a:=by have:=(Wa.mp es).1;rw[f.d.len] at this;exact this
 have hr:=hw r (Vb er);unfold zB;apply Vd;intro j;rw[vc,vc,vc,hs];cases e:r[j]? with
 |none=>rfl
 |some v =>
  simp only[Xf,gb.injEq];by_cases c:p.2.1<=j/\j<p.2.1+b
  ·rw[if_pos c];have:=f.eq d (j-p.2.1) hd (by lia);simp only[ve,es,er,Vj] at this;rw[show p.2.1+(j-p.2.1)=j by lia,e] at this;simp only[Vj] at this;simp[c,ve,this]
  ·rw[if_neg c];simp[c]
noncomputable def ql(H d:Nat):Nat:=(H-1)/d+1
noncomputable def Ym(rows:List (List Int))(H W d b:Nat):List Qh:=(va (ql H d)).flatMap λp=>(va (ql W b)).map λq=>(p*d,q*b,Qm rows (p*d) (q*b) (min d (H-p*d)) (min b (W-q*b)))
theorem YC{H d p:Nat}(hd:1<=d)(hH:1<=H)(h:p<ql H d):p*d<H:=by
 unfold ql at h;have:=Nat.mul_le_of_le_div d p (H-1) (by lia)
 lia
theorem yO{H d i:Nat}(hd:1<=d)(h:i<H):i/d<ql H d:=by
 unfold ql;have:=Nat.div_le_div_right (c:=d) (show i<=H-1 by lia)
 lia
theorem B1(i d:Nat)(hd:1<=d):i/d*d<=i/\i<i/d*d+d:=by
 have h1:=uC i d;have h2:=Nat.lt_div_mul_add (a:=i) (b:=d) (by lia)
 lia
theorem qcf{most:Int}{rows:List (List Int)}{H W:Nat}(d:Drawn most rows H W){t l a b i j:Nat}(h1:t+a<=H)(h2:l+b<=W)(hi:i<a)(hj:j<b):((Qm rows t l a b).getD i []).getD j 0=(rows.getD (t+i) []).getD (l+j) 0:=by
 have hl:=d.len;have e:rows[t+i]?=some rows[t+i]:=by simp[show t+i<rows.length by lia]
 unfold Qm;simp only[ve,Ua,ue hi,Wj,e,Xf,Vj,ue hj]
theorem IT{most:Int}{rows:List (List Int)}{H W:Nat}(dr:Drawn most rows H W){t l a b:Nat}(h1:t+a<=H)(h2:l+b<=W)(a1:1<=a)(b1:1<=b):ky most rows H W (t,l,Qm rows t l a b) a b :=
 ⟨dr.part h1 h2,a1,b1,h1,h2,λi j hi hj=>qcf dr h1 h2 hi hj⟩
section
variable {most:Int} {rows:List (List Int)} {H W d b:Nat} (dr:Drawn most rows H W) (hH:1<=H) (hW:1<=W) (hd:1<=d) (hb:1<=b)
include dr hH hW hd hb
theorem O2:∀ p∈Ym rows H W d b,∃ x y,ky most rows H W p x y:=by
 intro p hp;unfold Ym at hp;obtain⟨i,hi,hp⟩:=vn.mp hp;obtain⟨j,hj,rfl⟩:=Vf.mp hp;have h1:=YC hd hH (We.mp hi);have h2:=YC hb hW (We.mp hj);exact⟨_,_,IT dr (by lia) (by lia) (by lia) (by lia)⟩
theorem qN{i j p q:Nat}(hp:p<ql H d)(hq:q<ql W b):zu (p*d,q*b,Qm rows (p*d) (q*b) (min d (H-p*d)) (min b (W-q*b))) i j=true↔(i<H/\j<W/\i/d=p/\j/b=q):=by
 have h1:=YC hd hH hp;have h2:=YC hb hW hq;have f:=IT dr (t:=p*d) (l:=q*b) (a:=min d (H-p*d)) (b:=min b (W-q*b)) (by lia) (by lia) (by lia) (by lia);unfold zu;rw[f.high,f.wide];simp only[decide_eq_true_eq];have e1:i/d=p↔p*d<=i/\i<p*d+d:=by
  constructor
  ·rintro rfl;exact B1 i d hd
  ·intro⟨x1,x2⟩;exact UC (by lia) (by rw[Uh,uo];lia)
 have e2:j/b=q↔q*b<=j/\j<q*b+b:=by
  constructor
  ·rintro rfl;exact B1 j b hb
  ·intro⟨x1,x2⟩;exact UC (by lia) (by rw[Uh,uo];lia)
 rw[e1,e2]
 lia
theorem qbN:∀ i j,i<H->j<W->∃ p∈Ym rows H W d b,zu p i j=true:=by
 intro i j hi hj;refine⟨_,vn.mpr ⟨i/d,We.mpr (yO hd hi),Vf.mpr ⟨j/b,We.mpr (yO hb hj),rfl⟩⟩,?_⟩;exact(qN dr hH hW hd hb (yO hd hi) (yO hb hj)).mpr ⟨hi,hj,rfl,rfl⟩
theorem ybR:(Ym rows H W d b).Pairwise λp q=>∀ i j,¬(zu p i j=true/\zu q i j=true):=by
 unfold Ym;rw[List.pairwise_flatMap];refine⟨λp hp=>?_,?_⟩
 ·rw[List.pairwise_map];refine(XB (n:=ql W b)).imp_of_mem λ{x y} hx hy F5 i j hc=>?_;have c1:=(qN dr hH hW hd hb (We.mp hp) (We.mp hx)).mp hc.1;have c2:=(qN dr hH hW hd hb (We.mp hp) (We.mp hy)).mp hc.2
  lia
 ·refine(XB (n:=ql H d)).imp_of_mem λ{x y} hx hy F5 u hu v hv i j hc=>?_;obtain⟨q1,hq1,rfl⟩:=Vf.mp hu;obtain⟨q2,Gx,rfl⟩:=Vf.mp hv;have c1:=(qN dr hH hW hd hb (We.mp hx) (We.mp hq1)).mp hc.1;have c2:=(qN dr hH hW hd hb (We.mp hy) (We.mp Gx)).mp hc.2
  lia
theorem JR(H d:Nat):∀ m,((va m).map λp=>min d (H-p*d)).sum=min (m*d) H:=by
 intro m
 induction m with
 |zero=>simp
 |succ m ih =>
  rw[vm,vf,wq,ih];simp only[Ub,Uj,ul,List.sum_nil,UD];rw[Uh,uo]
  lia
theorem ybG:((Ym rows H W d b).map λp=>qT p*ZF p).sum=H*W:=by
 have key:∀(l:List Nat),(∀ p∈l,p<ql H d)->((l.flatMap λp=>(va (ql W b)).map λq=>((p*d,q*b,Qm rows (p*d) (q*b) (min d (H-p*d)) (min b (W-q*b))):Qh)).map λp=>qT p*ZF p).sum=(l.map λp=>min d (H-p*d)).sum*W:=by
  intro l
  induction l with
  |nil=>intro _;simp
  |cons p l ih =>
   intro hl;have hp:=hl p (by simp);rw[xF,vf,wq,ih λq hq=>hl q (by simp[hq]),Ub,ul,Uh]
   congr 1
   have k2:∀(m:List Nat),(∀ q∈m,q<ql W b)->((m.map λq=>((p*d,q*b,Qm rows (p*d) (q*b) (min d (H-p*d)) (min b (W-q*b))):Qh)).map λp=>qT p*ZF p).sum=min d (H-p*d)*(m.map λq=>min b (W-q*b)).sum:=by
    intro m
    induction m with
    |nil=>intro _;simp
    |cons q m ih2 =>
     intro hm;have hq:=hm q (by simp);have h1:=YC hd hH hp;have h2:=YC hb hW hq;have f:=IT dr (t:=p*d) (l:=q*b) (a:=min d (H-p*d)) (b:=min b (W-q*b)) (by lia) (by lia) (by lia) (by lia);rw[Ub,Ub,ul,ih2 λx hx=>hm x (by simp[hx]),Ub,ul,Nat.mul_add,f.high,f.wide]
   rw[k2 _ λq hq=>We.mp hq,JR dr hH hW hd hb]
   congr 1
   have:=yO (H:=W) (d:=b) (i:=W-1) hb (by lia);have:=(B1 (W-1) b hb).2;have e:ql W b*b=(W-1)/b*b+b:=by unfold ql;rw[Uh,uo]
   lia
 unfold Ym;rw[key _ λp hp=>We.mp hp,JR dr hH hW hd hb]
 congr 1
 have:=(B1 (H-1) d hd).2;have e:ql H d*d=(H-1)/d*d+d:=by unfold ql;rw[Uh,uo]
 lia
theorem Iy:(Ym rows H W d b).length<=H*W:=by
 have e:(Ym rows H W d b).length=ql H d*ql W b:=by
  unfold Ym;rw[xx];simp only[xc,Wn];have:∀ m c:Nat,((va m).map λ_=>c).sum=m*c:=λm c=>by
   induction m with
   |zero=>simp
   |succ m ih=>rw[vm,vf,wq,ih,Uh];simp
  exact this _ _
 have t1:ql H d<=H:=by unfold ql;have:=Ut (H-1) d;lia
 have t2:ql W b<=W:=by unfold ql;have:=Ut (W-1) b;lia
 rw[e];exact ux t1 t2
end
theorem PH(H d:Nat)(hH:1<=H)(hd:1<=d):fA 0 (H:Int) (d:Int)=ql H d:=by
 unfold fA ql;rw[if_pos (by lia)];have:((H:Int)-0-1)/(d:Int)=(((H-1)/d:Nat):Int):=by
  rw[show(H:Int)-0-1=((H-1:Nat):Int) by lia];rfl
 rw[this];generalize (H-1)/d=z
 lia
theorem Ybd(inks:List Int)(c:Int)(th:Int->Int->Int)(A left:Int)(l b:Nat)(r:List Int):Yp inks c th A (left+l) ((r.drop l).take b)=((Yp inks c th A left r).drop l).take b:=by
 unfold Yp;apply Vd;intro j;by_cases hj:j<b
 ·rw[ue hj,Wj,Ua,Ua,wf,wf,ue hj,Wj];cases r[l+j]? with
  |none=>rfl
  |some v =>
   simp only[Xf,Xi,gb.injEq]
   congr 2
   lia
 ·rw[Uf (by simp;lia),Uf (by simp;lia)]
theorem qcb(inks:List Int)(c:Int)(th:Int->Int->Int)(top left:Int)(rows:List (List Int))(t l a b:Nat):Yk inks c th (top+t) (left+l) (Qm rows t l a b)=Qm (Yk inks c th top left rows) t l a b:=by
 unfold Qm;apply Vd;intro i;by_cases hi:i<a
 ·have e1:(((rows.drop t).take a).map λr=>(r.drop l).take b)[i]?=(rows[t+i]?).map λr=>(r.drop l).take b:=by
   rw[Ua,ue hi,Wj]
  rw[Ua,ue hi,Wj];unfold Yk;rw[Ua,wf,e1,Ua,wf];cases rows[t+i]? with
  |none=>rfl
  |some r =>
   simp only[Xf,Xi,gb.injEq];rw[show((i:Nat):Int)+(top+(t:Int))=((t+i:Nat):Int)+top by lia];exact Ybd inks c th _ left l b r
 ·rw[Uf (by simp[Yk];lia),Uf (by simp;lia)]
theorem yca(inks:List Int)(c:Int)(th:Int->Int->Int)(top left:Int)(rows:List (List Int))(H W d b:Nat) :
  (Ym rows H W d b).map (λp=>(p.1,p.2.1,Yk inks c th (top+p.1) (left+p.2.1) p.2.2))=Ym (Yk inks c th top left rows) H W d b:=by
 unfold Ym;rw[List.map_flatMap]
 congr 1
 funext p;rw[Xd]
 congr 1
 funext q;simp only[Wx,qcb]
theorem zbU{l l':List Qh}(p:l.Perm l'):(l.map λp=>qT p*ZF p).sum=(l'.map λp=>qT p*ZF p).sum:=by
 induction p with
 |nil=>rfl
 |cons x _ ih=>simp[ih]
 |swap x y l=>simp;lia
 |trans _ _ h1 h2=>rw[h1,h2]
end MP
end
section
namespace MP
open PySem
theorem mS{i j:Int}(h:0<j)(h2:j<1073741824):tU i j:=⟨h,.inl h2⟩
section
variable (n:Nat) (h:MH)
theorem zw(ns:List Int)(k:Int)(hl:ns.length<=63)(hk:0<=k)(oS:k<1000000):∃ x:Int,0<=x/\x<2147483647/\run prog (n+1) "_law_next" [.f (.eC ns),.ref 0] (atC k::h)=.ok (I x) (atC (k+1)::h):=by
 suffices dq (run prog (n+1) "_law_next" [.f (.eC ns),.ref 0] (atC k::h)) λv h'=>∃ x:Int,0<=x/\x<2147483647/\v=I x/\h'=atC (k+1)::h by
  obtain⟨v,h',e,x,h0,h1,rfl,rfl⟩:=this;exact⟨x,h0,h1,e⟩
 refine dq.of λQ hQ=>?_;have fin:∀ x:Int,Q (I (x%2147483629)) (atC (k+1)::h):=λx=>by
  have:=mod_lt x 2147483629 (by decide);exact hQ _ _ ⟨_,this.1,by lia,rfl,rfl⟩
 have fin2:∀ x:Int,Q (I (x%2000000011)) (atC (k+1)::h):=λx=>by
  have:=mod_lt x 2000000011 (by decide);exact hQ _ _ ⟨_,this.1,by lia,rfl,rfl⟩
 have m1:ZA (k+1) (k+1):=qt (by lia);have m2:∀ x,ZA x 7919:=λx=>qt (by decide);have m3:∀ x,ZA x 48271:=λx=>qt (by decide);have m5:∀ x,ZA x 104729:=λx=>qt (by decide);have m6:∀ x,ZA x 69621:=λx=>qt (by decide);have m4:∀ x:Int,ZA (x%2147483647) (x%2147483647):=λx=>qt (by have:=mod_lt x 2147483647 (by decide);lia);rw[zaC];simp only[dh];by_cases hn:ns=[]
 ·subst hn;simp[Qo,Qi,m1,m2,m3,m4,m5,m6,lg];exact fin _
 ·have hp:0<ns.length:=xn.mpr hn;have e1:cb (ns.map λi=>MV.f (.int i)) ((k+1)%ns.length)=some (I (DP ns (k+1))):=qbL ns hn (k+1);obtain⟨a,e0⟩:∃ a:Int,cb (ns.map λi=>MV.f (.int i)) 0=some (I a):=by
   cases ns with
   |nil=>exact absurd rfl hn
   |cons a r=>exact⟨a,by simp⟩
  have m7:tU (k+1) ns.length:=mS (by lia) (by lia);by_cases c:a%2=1
  ·have hm:=mod_lt ((k+1)/ns.length) 60 (by decide);obtain⟨T,hT⟩:=Wf hm.1;have m8:∀ x,tU x 2000000011:=λx=>⟨by decide,.inr (by decide +kernel)⟩;simp[Qo,Qi,Zl,m7,lg,hp,e1,e0,c,hT,yi _ (T:Int) (by lia)];refine Qk (Q:=λr=>dq (Zb _ (RS.bind r _)) _) T (λi σ hh=>∃(x:Int)(z3:Option MV),hh=atC (k+1)::h/\σ=[some (.f (.eC ns)),some (.ref 0),some (I x),z3,none]) ⟨_,none,rfl,rfl⟩ ?_ ?_
   ·rintro i σ hh _ ⟨x,z3,rfl,rfl⟩ Q hQ;simp[Zi,Zl,m8];exact hQ _ _ ⟨_,_,rfl,rfl⟩
   ·rintro σ hh ⟨x,z3,rfl,rfl⟩;simp[Qi];exact fin2 _
  ·simp[Qo,Qi,Zl,m1,m2,m3,m4,m5,m6,m7,lg,hp,e1,e0,c];exact fin _
theorem yQ(ns:List Int)(k room:Int)(hl:ns.length<=63)(hk:0<=k)(oS:k+3<1000000)(hr:0<room):∃ x:Int,0<=x/\x<room/\run prog (n+2) "_law_any" [.f (.eC ns),.ref 0,I room] (atC k::h)=.ok (I x) (atC (k+3)::h):=by
 suffices dq (run prog (n+2) "_law_any" [.f (.eC ns),.ref 0,I room] (atC k::h)) λv h'=>∃ x:Int,0<=x/\x<room/\v=I x/\h'=atC (k+3)::h by
  obtain⟨v,h',e,x,h0,h1,rfl,rfl⟩:=this;exact⟨x,h0,h1,e⟩
 refine dq.of λQ hQ=>?_;rw[Za2];simp only[dX];simp[yi _ (3:Int) (by lia)];refine Qk (Q:=λr=>dq (Zb _ r) _) 3 (λi σ hh=>∃(x:Int)(z4:Option MV),hh=atC (k+(i:Int))::h/\σ=[some (.f (.eC ns)),some (.ref 0),some (I room),some (I x),z4]) ⟨0,none,by simp,rfl⟩ ?_ ?_
 ·rintro i σ hh hi ⟨x,z4,rfl,rfl⟩ Q hQ;obtain⟨y,_,_,N⟩:=zw n h ns (k+i) hl (by lia) (by lia);have m:ZA x 2000000011:=qt (by decide);simp[Zi,Qo,m,N];exact hQ _ _ ⟨_,_,by simp;lia,rfl⟩
 ·rintro σ hh ⟨x,z4,rfl,rfl⟩;have:=mod_lt x room hr;simp[Qi,hr];exact hQ _ _ ⟨_,this.1,this.2,rfl,rfl⟩
theorem qaz(ns:List Int)(k:Int)(hl:ns.length<=63)(hk:0<=k)(oS:k+4<1000000):∃ c:Int,1<=c/\c<=10000000000000000000000000/\run prog (n+3) "_law_drawn_most" [.f (.eC ns),.ref 0] (atC k::h)=.ok (I c) (atC (k+4)::h):=by
 obtain⟨x,hx,_,N⟩:=zw (n+1) h ns k hl hk (by lia);obtain⟨g,g0,g1,G⟩:=yQ n h ns (k+1) 10000000000000000000000000 hl (by lia) (by lia) (by decide);have e4:k+1+3=k+4:=by lia
 rw[e4] at G;have p25:∀ hh,ye true .pow (I 10) (I 25) hh=.ok (I 10000000000000000000000000) hh:=λhh=>Qcq true 10 25 (by decide);have d5:∀ hh,ye true .fdiv (I x) (I 5) hh=.ok (I (x/5)) hh:=λhh=>Zl _ _ _ (mS (by decide) (by decide));have h5:=mod_lt x 5 (by decide);obtain⟨c,c1,c2,e⟩:∃ c:Int,1<=c/\c<=10000000000000000000000000/\cb [I 1,I 2,I 255,I (1+x/5%30),I (1+g)] (x%5)=some (I c):=by
  obtain⟨w,hw,e⟩:=JU [I 1,I 2,I 255,I (1+x/5%30),I (1+g)] _ h5.1 (by simpa using h5.2);simp only[ua,uc,or_false] at hw
  rcases hw with rfl|rfl|rfl|rfl|rfl
  all_goals exact⟨_,by lia,by lia,e⟩
 refine⟨c,c1,c2,?_⟩;rw[QR];simp only[br];simp[N,d5,Qi,p25,G,yo,e]
theorem Yax(ns:List Int)(k most:Int)(hl:ns.length<=63)(hk:0<=k)(oS:k+30<1000000)(hm:1<=most) :
  dq (run prog (n+3) "_law_drawn_inks" [.f (.eC ns),.ref 0,I most] (atC k::h)) λv h'=>∃(inks:List Int)(kk:Int),eU most inks/\inks.length<=8/\k<=kk/\kk<=k+19/\v=.f (za false inks)/\h'=atC kk::h:=by
 refine dq.of λQ hQ=>?_;obtain⟨x,hx,_,N⟩:=zw (n+1) (h++[.iQ (Yt (Yt [] 0) most)]) ns k hl hk (by lia);have h7:=mod_lt x 7 (by decide);obtain⟨T,hT⟩:=Wf h7.1;have m7:∀ hh,ye true .mod (I x) (I 7) hh=.ok (I (x%7)) hh:=λhh=>Qi _ _ _ (by decide);rw[yT];simp only[bu];simp[N,iI,yW,m7,hT,yi _ (T:Int) (by lia)];refine Qk (Q:=λr=>dq (Zb _ r) _) T (λi σ hh=>∃(ks:List Int)(z4:Option MV),kA most ks (2+i)/\hh=atC (k+1+3*(i:Int))::(h++[.iQ ks])/\σ=[some (.f (.eC ns)),some (.ref 0),some (I most),some (.ref (h.length+1)),z4]) ?_ ?_ ?_
 ·exact⟨_,none,kA.start hm,by simp,rfl⟩
 ·rintro i σ hh oU ⟨ks,z4,d,rfl,rfl⟩ Q hQ;obtain⟨v,v0,v1,G⟩:=yQ n (h++[.iQ ks]) ns (k+1+3*i) (most+1) hl (by lia) (by lia) (by lia);have cl:=yW (atC (k+1+3*(i:Int)+3)) h ks;have sl:ks.length<1000000:=by have:=d.sz;lia
  have st:=YbV (atC (k+1+3*(i:Int)+3)) h ks (.iQ (Yt ks v));simp only[List.set_cons_succ] at st;simp[Zi,G,cl,sl,st];exact hQ _ _ ⟨Yt ks v,_,d.add ⟨v0,by lia⟩,by simp;lia,rfl⟩
 ·rintro σ hh ⟨ks,z4,d,rfl,rfl⟩;have cl:=yW (atC (k+1+3*(T:Int))) h ks;have sl:ks.length<64:=by have:=d.sz;lia
  have F:=Z3 (atC (k+1+3*(T:Int))) (h++[.iQ ks]) ((YU ks).map FV.int);have er:FV.lst ((YU ks).map FV.int)=za false (YU ks):=rfl;simp only[Xd] at F;simp[kJ,cl,sl,we] at F ⊢;simp[F,er];have hs:=d.sz;exact hQ _ _ ⟨YU ks,_,d.inks (by lia),by rw[(qV ks).length_eq];lia,by lia,by lia,rfl,rfl⟩
end
section
variable (n:Nat) (h:MH)
theorem Y6(b1 b2:Bool)(rows:List (List Int))(hl:rows.length<=aK):run prog (n+1) "own_rows" [.f (Za b1 b2 rows)] h=.ok (.f (Za true true rows)) h:=by
 simp[Ya,YH,Z7,Za,stM];rw[Ye (e:=MV.f∘za b2) (g:=MV.f∘za true) rows [] none (by simpa using hl) (λy _ z=>⟨_,by simp[zh,za];exact⟨rfl,rfl⟩⟩)];simp[Za,za,sq]
theorem Od(least most:Int)(rows:List (List Int))(g:dz least most rows):run prog (n+1) "fault_of" [.f (Za true true rows),I least,I most] h=.ok (.f .a9) h:=by
 obtain⟨m1,ne,⟨w,w0,hw⟩,sh,sz⟩:=g;cases rows with
 |nil=>exact absurd rfl ne
 |cons r0 rs =>
  have M5:=hw r0 (by simp);have e1:¬ most<1:=by lia
  have e2:r0≠[]:=by intro e;subst e;simp at M5;lia
  have e7:yb h (.f (za true r0))=some (r0.map (MV.f∘FV.int)):=by simp[za]
  simp[Ya,QI,e1,Za,e7,e2];rw[<- Wx (f:=MV.f) (g:=za true),<- Ub (f:=MV.f∘za true),ZH (e:=MV.f∘za true) (st:=λz=>[some (.f (sq true (za true r0::rs.map (za true)))),some (I least),some (I most),z]) (hp:=λ_=>h) (f:=λ_ r=>some (.f (za true r))) _ none]
  ·simp
  ·intro r hr z;have e3:=hw r hr;have e4:r≠[]:=by intro e;subst e;simp at e3;lia
   have e5:¬ sP r<least:=by have:=sh r hr _ (D7 e4);lia
   have e6:¬ most<oo r:=by have:=sh r hr _ (Ee e4);lia
   have q1:=Ed true h (.f (za true r)) r (by simp[za]) e4;have q2:=qL true h (.f (za true r)) r (by simp[za]) e4;have q3:yb h (.f (za true r))=some (r.map (MV.f∘FV.int)):=by simp[za]
   simp[Zi,q1,q2,q3,e5,e6,e7,e3,M5]
theorem qaD(count:Int)(b1 b2:Bool)(rows:List (List Int))(g:dz 1 count rows):run prog (n+2) "Tile.__init__" [.ref h.length,I count,.f (Za b1 b2 rows)] (h++[.obj "Tile" []]) =
  .ok (.f .a9) (h++[.obj "Tile" [("count",I count),("rows",.f (Za true true rows))]]):=by
 have hz:rows.length<=aK:=Xe g.sz (by decide);have t:=cT.obj h "Tile" [("count",.int count),("rows",Za true true rows)] [];simp only[Ub,Uj] at t;simp[Ya n.succ,zr,Y6 _ _ b1 b2 rows hz,Od _ _ 1 count rows g,yp,t];exact Xh (by simp)
theorem Fp(count:Int)(b1 b2:Bool)(rows:List (List Int))(g:dz 1 count rows):ZU prog (run prog (n+2)) true "Tile" [I count,.f (Za b1 b2 rows)] h=.ok (.f (qh count rows)) h:=by
 simp[ZU,qaD n h count b1 b2 rows g,cT.app,qh,yo]
end
section
variable (n:Nat) (h:MH)
theorem Z2(most:Int)(b1 b2:Bool)(rows:List (List Int))(g:dz 0 most rows):run prog (n+2) "Picture.__init__" [.ref h.length,I most,.f (Za b1 b2 rows)] (h++[.obj "Picture" []]) =
  .ok (.f .a9) (h++[.obj "Picture" [("most",I most),("rows",.f (Za true true rows))]]):=by
 have hz:rows.length<=aK:=Xe g.sz (by decide);have t:=cT.obj h "Picture" [("most",.int most),("rows",Za true true rows)] [];simp only[Ub,Uj] at t;simp[Ya n.succ,zo,Y6 _ _ b1 b2 rows hz,Od _ _ 0 most rows g,yp,t];exact Xh (by simp)
theorem Yl(most:Int)(b1 b2:Bool)(rows:List (List Int))(g:dz 0 most rows):ZU prog (run prog (n+2)) true "Picture" [I most,.f (Za b1 b2 rows)] h=.ok (.f (Qe most rows)) h:=by
 simp[ZU,Z2 n h most b1 b2 rows g,cT.app,Qe,yo]
end
end MP
end
section
namespace MP
open PySem
section
variable (n:Nat) (h:MH)
theorem Qbj(ns:List Int)(k most:Int)(rows:List (List Int))(H W:Nat)(jP:ns.length<=63)(hk:0<=k)(oS:k+4*(H*W:Nat)<1000000)(hm:1<=most)(hH:H<=1000)(hW:W<=1000)(d:Drawn most rows H W) :
  dq (run prog (n+3) "_law_darker" [.f (.eC ns),.ref 0,.f (Za false false rows),I most] (atC k::h)) λv h'=>∃(cZ:List (List Int)),Drawn most cZ H W/\(∀(i:Nat)(r:List Int),rows[i]?=some r->∃ r':List Int,cZ[i]?=some r'/\∀ j:Nat,j<W->r.getD j 0<=r'.getD j 0)/\v=.f (Za false false cZ)/\h'=atC (k+4*(H*W:Nat))::h:=by
 refine dq.of λQ hQ=>?_;have q:∀ hh,yb hh (.f (Za false false rows))=some (rows.map (MV.f∘za false)):=λhh=>by simp[Za]
 have gq:∀ hh,zc hh (.f (Za false false rows))=[]:=λhh=>rfl;have hl:=d.len;rw[Qaj];simp only[b8];simp[q,gq];refine ym (Q:=λr=>dq (Zb _ r) _) (e:=MV.f∘za false) rows (λi σ hh=>∃(kk:Int)(cZ:List (List Int)) (g:MH) (z5 z6 z7 z8:Option MV),kk=k+4*(i*W:Nat)/\Drawn most cZ i W/\(∀(i':Nat)(r:List Int),i'<i->rows[i']?=some r->∃ r':List Int,cZ[i']?=some r'/\∀ j:Nat,j<W->r.getD j 0<=r'.getD j 0)/\Own h g ((cZ.map (za false)).map .f)/\hh=atC kk::g /\
  σ=[some (.f (.eC ns)),some (.ref 0),some (.f (Za false false rows)),some (I most),some (.ref (h.length+1)),z5,z6,z7,z8]) ?_ ?_ ?_
 ·exact⟨k,[],_,none,none,none,none,by simp,⟨rfl,by simp,by simp⟩,λi' r hi=>by lia,Own.new h,by simp,rfl⟩
 ·rintro i r σ hh hi ⟨kk,cZ,g,z5,z6,z7,z8,AK,dd,cmp,o,rfl,rfl⟩ Q hQ;have oU:=(Wa.mp hi).1;have l6:=Vb hi;have Gv:=d.gN r l6;have M4:=d.sh r l6;have GQ:(i+1)*W<=H*W:=Xo _ (by lia);rw[Uh] at GQ;have qr:∀ hh,yb hh (.f (za false r))=some (r.map (MV.f∘FV.int)):=λhh=>by simp[za]
  have gr:∀ hh,zc hh (.f (za false r))=[]:=λhh=>rfl;simp[Zi,qr,gr];refine ym (Q:=λr=>Nx r _) (e:=MV.f∘FV.int) r (λj σ hh=>∃(kj:Int)(line:List Int)(z7 z8:Option MV),kj=kk+4*(j:Int)/\line.length=j/\(∀ v∈line,0<=v/\v<=most)/\(∀ j':Nat,j'<j->r.getD j' 0<=line.getD j' 0)/\hh=atC kj::(g++[.lst ((line.map FV.int).map .f)]) /\
   σ=[some (.f (.eC ns)),some (.ref 0),some (.f (Za false false rows)),some (I most),some (.ref (h.length+1)),some (.f (za false r)),some (.ref (g.length+1)),z7,z8]) ?_ ?_ ?_
  ·exact⟨kk,[],_,_,by simp,rfl,by simp,λj' hj=>by lia,by simp,rfl⟩
  ·rintro j s σ hh hj ⟨kj,line,z7,z8,GL,ll,lv,lc,rfl,rfl⟩ Q hQ;have Nc:=(Wa.mp hj).1;obtain⟨y,hy,_,N⟩:=zw (n+1) (g++[.lst ((line.map FV.int).map .f)]) ns kj jP (by lia) (by lia);obtain⟨u,u0,_,G⟩:=yQ n (g++[.lst ((line.map FV.int).map .f)]) ns (kj+1) (most+1) jP (by lia) (by lia) (by lia);have e4:kj+1+3=kj+4:=by lia
   rw[e4] at G;have hsv:=M4 s (Vb hj);have esj:r.getD j 0=s:=by simp[ve,hj]
   have hz:line.length<aK:=by rw[Qa];lia
   have c0:=(Own.new (xs:=(line.map FV.int).map .f) g).cell (atC kj);have c1:=(Own.new (xs:=(line.map FV.int).map .f) g).cell (atC (kj+4));have c2:=(Own.new (xs:=(line.map FV.int).map .f) g).cell (atC (kj+1));have d4:∀ hh,ye true .fdiv (I y) (I 4) hh=.ok (I (y/4)) hh:=λhh=>Zl _ _ _ (mS (by decide) (by decide));have m9:∀(x:Int) hh,ye true .mod (I x) (I 9) hh=.ok (I (x%9)) hh:=λx hh=>Qi _ _ _ (by decide);have m4:∀(x:Int) hh,ye true .mod (I x) (I 4) hh=.ok (I (x%4)) hh:=λx hh=>Qi _ _ _ (by decide);have h4:=mod_lt y 4 (by decide);have b9:=mod_lt (y/4) 9 (by decide);obtain⟨w,w0,ew⟩:∃ w:Int,0<=w/\cb [I 0,I 1,I (y/4%9),I u] (y%4)=some (I w):=by
    obtain⟨v,hv,ev⟩:=JU [I 0,I 1,I (y/4%9),I u] _ h4.1 (by simpa using h4.2);simp only[ua,uc,or_false] at hv
    rcases hv with rfl|rfl|rfl|rfl
    all_goals exact⟨_,by lia,ev⟩
   generalize hv:(if s+w<most then s+w else most)=v at *;have hv1:0<=v/\v<=most/\s<=v:=by rw[<- hv];split <;> lia
   simp only[Xd] at N G c0 c1 c2;simp[Zi,N,G,d4,m9,m4,yo,ew,hv,c0,c1,c2,hz,yF];refine hQ _ _ ⟨kj+4,line++[v],_,_,by lia,by simp[ll],λx hx=>?_,λj' hj'=>?_,by simp,rfl⟩
   ·rcases vh.mp hx with hx|hx
    ·exact lv x hx
    ·simp at hx;subst hx;lia
   ·by_cases e:j'=j
    ·subst e;rw[esj,<- ll];simp[ve];lia
    ·have:=lc j' (by lia);have ir:j'<line.length:=by lia
     simpa[ve,ub ir] using this
  ·rintro σ hh ⟨kj,line,z7,z8,GL,ll,lv,lc,rfl,rfl⟩;have f1:=Z3 (atC kj) g (line.map FV.int);have c0:=(o.more [.lst ((line.map FV.int).map .f)]).cell (atC kj);have c1:=(o.more [.dead]).cell (atC kj);have hz:cZ.length<aK:=by rw[Qa,dd.len];lia
   obtain⟨g',eg,o'⟩:=(o.more [.dead]).set (atC kj) ((cZ.map (za false)).map .f++[.f (.lst (line.map FV.int))]);simp only[Xd] at f1 c1 eg c0;simp[f1,c0,c1,hz,eg];refine hQ _ _ ⟨kj,cZ++[line],g',_,_,_,_,by rw[Uh];lia,dd.snoc ⟨by lia,lv⟩,λi' r2 tD e2=>?_,by simpa[za,sq] using o',rfl,rfl⟩;by_cases e:i'=i
   ·subst e;rw[hi] at e2;cases e2;exact⟨line,by rw[<- dd.len];simp,λj' hj'=>lc j' (by lia)⟩
   ·obtain⟨r',e3,e4⟩:=cmp i' r2 (by lia) e2;exact⟨r',by rw[ub (by rw[dd.len];lia)];exact e3,e4⟩
 ·rintro σ hh ⟨kk,cZ,g,z5,z6,z7,z8,AK,dd,cmp,o,rfl,rfl⟩;obtain⟨t',e⟩:=o.eI (atC kk);rw[hl] at dd AK cmp;simp[e];exact hQ _ _ ⟨cZ,dd,λi r hi=>cmp i r (by have:=(Wa.mp hi).1;lia) hi,rfl,by rw[AK]⟩
theorem Drawn.iH{most:Int}{rows:List (List Int)}{H W:Nat}(d:Drawn most rows H W)(hm:1<=most)(h1:1<=H)(h2:H<=1000)(h3:1<=W):dz 0 most rows :=
 ⟨hm,λe=>by have:=d.len;rw[e] at this;simp at this;lia,⟨W,by lia,d.gN⟩,d.sh,by rw[d.len];exact h2⟩
theorem zaw(ns:List Int)(k:Int)(most:Int)(jP:ns.length<=63)(hk:0<=k)(oS:k+200<1000000)(hm:1<=most) :
  dq (run prog (n+3) "_law_drawn_rows" [.f (.eC ns),.ref 0,I most] (atC k::h)) λv h'=>∃(rows:List (List Int)) (kk:Int) (H W:Nat),Drawn most rows H W/\1<=H/\1<=W/\H<=48/\W<=12/\H*W<=48/\k<=kk/\kk<=k+148/\v=.f (Za false false rows)/\h'=atC kk::h:=by
 refine dq.of λQ hQ=>?_;obtain⟨x,hx,_,N0⟩:=zw (n+1) h ns k jP hk (by lia);obtain⟨f3,f0,f1,G0⟩:=yQ n h ns (k+1) (most+1) jP (by lia) (by lia) (by lia);have e4:k+1+3=k+4:=by lia
 rw[e4] at G0;have h12:=mod_lt x 12 (by decide);obtain⟨J0,hJ⟩:=Wf (show 0<=1+x%12 by lia);have b12:∀ hh,ye true .mod (I x) (I 12) hh=.ok (I (x%12)) hh:=λhh=>Qi _ _ _ (by decide);have d12:∀ hh,ye true .fdiv (I x) (I 12) hh=.ok (I (x/12)) hh:=λhh=>Zl _ _ _ (mS (by decide) (by decide));have HG:∀ hh,ye true .fdiv (I x) (I 600) hh=.ok (I (x/600)) hh:=λhh=>Zl _ _ _ (mS (by decide) (by decide));have b4:∀(y:Int) hh,ye true .mod (I y) (I 4) hh=.ok (I (y%4)) hh:=λy hh=>Qi _ _ _ (by decide);have d48:∀ hh,ye true .fdiv (I 48) (I J0) hh=.ok (I (((48/J0:Nat):Int))) hh:=λhh=>by
  rw[Zl _ _ _ (mS (by lia) (by lia))];simp
 have J1:1<=J0:=by lia
 have J2:J0<=12:=by lia
 have q1:1<=48/J0:=(Nat.le_div_iff_mul_le (by lia)).mpr (by lia);have q2:48/J0*J0<=48:=uC 48 J0;have q3:48/J0<=48:=Ut 48 J0;generalize 48/J0=qq at *;have hq:=mod_lt (x/12) qq (by lia);have bq:∀ hh,ye true .mod (I (x/12)) (I qq) hh=.ok (I (x/12%qq)) hh:=λhh=>Qi _ _ _ (by lia);obtain⟨I0,hI⟩:=Wf (show 0<=1+x/12%qq by lia);have I1:1<=I0:=by lia
 have I2:I0<=qq:=by lia
 have IJ:I0*J0<=qq*J0:=Xo _ I2;have m2:∀ hh,ye true .fdiv (I most) (I 2) hh=.ok (I (most/2)) hh:=λhh=>Zl _ _ _ (mS (by decide) (by decide));generalize hso:x/600%4=so;rw[QS];simp only[bo];simp[N0,b12,hJ,HG,b4,hso,m2,G0,yo,d12,d48,bq,hI,yi _ (I0:Int) (by lia)];refine Qk (Q:=λr=>dq (Zb _ r) _) I0 (λi σ hh=>∃ kk rows g z8 z9 gU,k+4<=kk/\kk<=k+4+3*(i*J0:Nat)/\Drawn most rows i J0/\Own h g ((rows.map (za false)).map .f)/\hh=atC kk::g /\
  σ=[some (.f (.eC ns)),some (.ref 0),some (I most),some (I x),some (I J0),some (I so),some (.f (.lst [.int 0,.int most,.int (most/2),.int f3])),some (.ref (h.length+1)),z8,z9,gU]) ⟨k+4,[],_,none,none,none,by lia,by simp,⟨rfl,by simp,by simp⟩,Own.new h,by simp,rfl⟩ ?_ ?_
 ·rintro i σ hh oU ⟨kk,rows,g,z8,z9,gU,hk1,AK,d,o,rfl,rfl⟩ Q hQ;have GQ:(i+1)*J0<=I0*J0:=Xo _ oU;rw[Uh] at GQ;simp[Zi,yi _ (J0:Int) (by lia)];refine Qk (Q:=λr=>Nx r _) J0 (λj σ hh=>∃ kj r gU,kk<=kj/\kj<=kk+3*(j:Int)/\(r.length=j/\∀ v∈r,0<=v/\v<=most)/\hh=atC kj::(g++[.lst ((r.map FV.int).map .f)]) /\
   σ=[some (.f (.eC ns)),some (.ref 0),some (I most),some (I x),some (I J0),some (I so),some (.f (.lst [.int 0,.int most,.int (most/2),.int f3])),some (.ref (h.length+1)),some (I i),some (.ref (g.length+1)),gU]) ⟨kk,[],gU,by lia,by simp,⟨rfl,by simp⟩,by simp,rfl⟩ ?_ ?_
  ·rintro j σ hh Nc ⟨kj,r,gU,GK,GL,⟨AF,Gw⟩,rfl,rfl⟩ Q hQ;obtain⟨y,hy,_,N⟩:=zw (n+1) (g++[.lst ((r.map FV.int).map .f)]) ns kj jP (by lia) (by lia);obtain⟨u,u0,u1,G⟩:=yQ n (g++[.lst ((r.map FV.int).map .f)]) ns kj (most+1) jP (by lia) (by lia) (by lia);have hl:r.length<aK:=by rw[Qa];lia
   have c0:=(Own.new (xs:=(r.map FV.int).map .f) g).cell (atC kj);have c1:=(Own.new (xs:=(r.map FV.int).map .f) g).cell (atC (kj+1));have c3:=(Own.new (xs:=(r.map FV.int).map .f) g).cell (atC (kj+3));have app:∀ v,(0<=v/\v<=most)->∀ w∈r++[v],0<=w/\w<=most:=λv hv w hw=>by
    rcases vh.mp hw with hw|hw
    ·exact Gw w hw
    ·simp at hw;subst hw;exact hv
   simp only[Xd] at N G c0 c1 c3;by_cases a1:so=0
   ·have e3:cb [I 0,I most,I (most/2),I f3] 3=some (I f3):=rfl;simp[Zi,a1,c0,e3,hl,yF];exact hQ _ _ ⟨kj,r++[f3],_,by lia,by lia,⟨by simp[AF],app f3 (by lia)⟩,by simp,by rw[a1]⟩
   ·by_cases a2:so=1
    ·have h4:=mod_lt y 4 (by decide);obtain⟨v,hv,ev⟩:∃ v:Int,(0<=v/\v<=most)/\cb [I 0,I most,I (most/2),I f3] (y%4)=some (I v):=by
      have:y%4=0\/y%4=1\/y%4=2\/y%4=3:=by lia
      rcases this with e|e|e|e <;> rw[e]
      ·exact⟨0,by lia,rfl⟩
      ·exact⟨most,by lia,rfl⟩
      ·exact⟨most/2,by lia,rfl⟩
      ·exact⟨f3,by lia,rfl⟩
     simp[Zi,b4,a2,c0,N,c1,ev,hl,yF];exact hQ _ _ ⟨kj+1,r++[v],_,by lia,by lia,⟨by simp[AF],app v hv⟩,by simp,by rw[a2]⟩
    ·simp[Zi,a1,a2,c0,G,c3,hl,yF];exact hQ _ _ ⟨kj+3,r++[u],_,by lia,by lia,⟨by simp[AF],app u (by lia)⟩,by simp,rfl⟩
  ·rintro σ hh ⟨kj,r,gU,GK,GL,⟨AF,Gw⟩,rfl,rfl⟩;have f1:=Z3 (atC kj) g (r.map FV.int);have c0:=(o.more [.lst ((r.map FV.int).map .f)]).cell (atC kj);have c1:=(o.more [.dead]).cell (atC kj);have hl:rows.length<aK:=by rw[Qa,d.len];lia
   obtain⟨g',eg,o'⟩:=(o.more [.dead]).set (atC kj) ((rows.map (za false)).map .f++[.f (.lst (r.map FV.int))]);simp only[Xd] at f1 c1 eg c0;simp[f1,c0,c1,hl,eg];exact hQ _ _ ⟨kj,rows++[r],g',_,_,_,by lia,by rw[Uh];lia,d.snoc ⟨AF,Gw⟩,by simpa[za,sq] using o',rfl,rfl⟩
 ·rintro σ hh ⟨kk,rows,g,z8,z9,gU,hk1,AK,d,o,rfl,rfl⟩;obtain⟨t',e⟩:=o.eI (atC kk);simp[e];exact hQ _ _ ⟨rows,kk,I0,J0,d,I1,J1,by lia,by lia,by lia,by lia,by lia,rfl,rfl⟩
end
section
variable (n:Nat) (h:MH)
theorem qct(a l:Nat)(r:List FV)(s:List Int)(hc:Zd h a=some (r.map .f))(hl:l+s.length<=r.length)(hr:r.length<=1000)(open_:∀ j,j<s.length->r[l+j]?=some .a9) :
  run prog (n+1) "lay_shades" [.ref a,I l,.f (za true s)] h=.ok (.f .a9) (Qb h a ((zB r l s).map .f)):=by
 refine dq.eq λQ hQ=>?_;have q:∀ hh,yb hh (.f (za true s))=some (s.map (MV.f∘FV.int)):=λhh=>by simp[za]
 have gq:∀ hh,zc hh (.f (za true s))=[]:=λhh=>by simp[za]
 rw[Zay];simp only[cM];simp[q,gq,YA];refine ym (Q:=λr=>dq (Zb _ r) _) (e:=λp:Int×Nat=>MV.f (.tup [.int p.2,.int p.1])) s.zipIdx (λk σ hh=>∃(z3 z4:Option MV),hh=Qb h a ((zB r l (s.take k)).map .f)/\σ=[some (.ref a),some (I l),some (.f (za true s)),z3,z4]) ?_ ?_ ?_
 ·exact⟨none,none,by rw[List.take_zero,qb6,yaW hc],rfl⟩
 ·rintro k ⟨v,k'⟩ σ hh hk ⟨z3,z4,rfl,rfl⟩ Q hQ;rw[wf] at hk;obtain⟨v',ev,e⟩:=Wb.mp hk;simp only[Kt.injEq,Xi] at e;obtain⟨rfl,rfl⟩:=e;have GJ:=(Wa.mp ev).1;have c1:=ybN hc ((zB r l (s.take k)).map .f);have l1:(s.take k).length=k:=by rw[Vh];lia
  have a1:cb ((zB r l (s.take k)).map .f) ((l:Int)+(k:Int))=some (.f .a9):=by
   rw[show(l:Int)+(k:Int)=((l+k:Nat):Int) by lia,qj,Ua,zcs (open_ k GJ) (by rw[l1];lia)];rfl
  have ix:lg ((zB r l (s.take k)).map MV.f).length ((l:Int)+(k:Int))=some (l+k):=by
   unfold lg;rw[xc,O1,if_pos (by lia),if_pos (by lia)]
   congr 1
  have st:Qb (Qb h a ((zB r l (s.take k)).map .f)) a (((zB r l (s.take k)).map MV.f).set (l+k) (I v'))=Qb h a ((zB r l (s.take (k+1))).map .f):=by
   rw[Za6,<- YbK r l s k v' ev hl,XE]
  generalize (zB r l (s.take k)).map MV.f=xs at *;simp[Zi,c1,a1,ix,st];exact hQ _ _ ⟨_,_,rfl,rfl⟩
 ·rintro σ hh ⟨z3,z4,rfl,rfl⟩;have lv:=QbJ h a _ (zB r l s) .a9 hc;rw[xq,wm];simp[lv];exact hQ _ _ ⟨rfl,rfl⟩
theorem zcA(W:Nat)(hW:W<=1000):ye false .mul (.f (.lst [.a9])) (I W) h=.ok (.ref h.length) (h++[QN (xa W .a9)]):=by
 have e:(xa W [MV.f .a9]).flatten=(xa W FV.a9).map MV.f:=by
  rw[Vx]
  induction W with
  |zero=>rfl
  |succ W ih=>simp[Wl,ih (by lia)]
 have c:-(2^63)<=(W:Int)/\(W:Int)<2^63/\[MV.f .a9].length*(W:Int).toNat<=aK:=by simp[Qa];lia
 unfold ye;simp only[Zc,listOf,Ub,Uj,Qd];rw[if_pos c,Wh,e];simp[qo,QN]
theorem Yck{rows:List (List Int)}{cov cov':Nat->Nat->Bool}{i0:Nat}{r:List Int}(e:rows[i0]?=some r)(h:∀ i j,i≠i0->cov i j=cov' i j) :
  (iZ rows cov).set i0 (r.mapIdx λj v=>if cov' i0 j=true then FV.int v else .a9)=iZ rows cov':=by
 have hi:=(Wa.mp e).1;apply Vd;intro i;rw[Uu];by_cases c:i0=i
 ·subst c;rw[if_pos rfl,if_pos (by rw[YZ];exact hi),B0 e]
 ·rw[if_neg c];cases e2:rows[i]? with
  |none =>
   have:=Uz.mp e2;rw[Uf (by rw[YZ];exact this),Uf (by rw[YZ];exact this)]
  |some r2 =>
   rw[B0 e2,B0 e2];simp only[h i _ (λz=>c z.symm)]
theorem zbd(most:Int)(rows:List (List Int))(H W:Nat)(dr:Drawn most rows H W)(hH:H<=1000)(hW:W<=1000)(ps:List Qh)(fits:∀ p∈ps,∃ a b,ky most rows H W p a b)
  (sk:ps.Pairwise λp q=>∀ i j,¬(zu p i j=true/\zu q i j=true)) (full:∀ i j,i<H->j<W->∃ p∈ps,zu p i j=true) :
  run prog (n+2) "rows_of" [.f (.lst (ps.map (fI most))),.f (.tup [.int H,.int W])] h=.ok (.f (Za false false rows)) h:=by
 refine dq.eq λQ hQ=>?_;have hlen:=dr.len;have q:∀ hh,yb hh (.f (.lst (ps.map (fI most))))=some (ps.map λp=>MV.f (.tup [.int p.1,.int p.2.1,Qe most p.2.2])):=λhh=>by simp[fI,we]
 have gq:∀ hh,zc hh (.f (.lst (ps.map (fI most))))=[]:=λhh=>rfl;generalize Gy:FV.lst (ps.map (fI most))=pv at *;rw[ybb];simp only[eS];simp[yi _ (H:Int) (by lia),MP.stM];generalize hc:Qj _ _ _ _ _ _=c;obtain⟨gy,h',rfl,rfl,rfl⟩:=Ycm hc (λj acc hh=>acc=(va j).map (λi=>MV.ref (h.length+i))/\hh=h++xa j (QN (xa W .a9))) ⟨rfl,by simp⟩ (by simp[Qa];lia) (by
  rintro j y acc z hh hj ⟨rfl,rfl⟩;have bp:=zcA (h++xa j (QN (xa W .a9))) W hW;refine⟨.ref (h.length+j),some (I y),h++xa (j+1) (QN (xa W .a9)),?_,?_,rfl⟩
  ·simp[zh,yo,bp,List.replicate_succ']
  ·simp[vm])
 have e0:h++xa (va H).length (QN (xa W .a9))++[.lst ((va (va H).length).map λi=>MV.ref (h.length+i))]=QV h (iZ rows λ_ _=>false):=by
  rw[zcj dr.gN,hlen];unfold QV;simp
 have e1:(h++xa (va H).length (QN (xa W .a9))).length=h.length+H:=by simp
 simp only[R.aw,ybm,R.st_ok,e0,e1,ZC,List.set,Fq,RS.j0];simp[q,gq];refine ym (Q:=λr=>dq (Zb _ r) _) (e:=λp:Qh=>MV.f (.tup [.int p.1,.int p.2.1,Qe most p.2.2])) ps (λk σ hh=>∃(z3 z4 z5 z6 z7:Option MV),hh=QV h (iZ rows λi j=>(ps.take k).any λp=>zu p i j)/\σ=[some (.f pv),some (.f (.tup [.int H,.int W])),some (.ref (h.length+H)),z3,z4,z5,z6,z7]) ?_ ?_ ?_
 ·exact⟨none,none,none,none,none,by simp,rfl⟩
 ·rintro k p σ hh hk ⟨z3,z4,z5,z6,z7,rfl,rfl⟩ Q hQ;have hpm:=Vb hk;have GJ:=(Wa.mp hk).1;obtain⟨a,b,f⟩:=fits p hpm;have fr:∀ hh,QA prog.fG "rows" (.f (Qe most p.2.2)) hh=some (.f (Za true true p.2.2)):=λhh=>by simp[Qe]
  have qp:∀ hh,yb hh (.f (Za true true p.2.2))=some (p.2.2.map (MV.f∘za true)):=λhh=>by simp[Za]
  have gp:∀ hh,zc hh (.f (Za true true p.2.2))=[]:=λhh=>rfl;have dis:∀ q∈ps.take k,∀ i j,zu p i j=true->zu q i j=false:=λq hq i j hc=>by
   obtain⟨m,hm⟩:=Ww.mp hq;have CY:=(Wa.mp hm).1;rw[Vh] at CY;rw[ue (by lia)] at hm;have:=(uz.mp sk) m k (by lia) GJ (by lia);have e1:ps[m]=q:=by have:=(Wa.mp hm).2;exact this
   have e2:ps[k]=p:=(Wa.mp hk).2;rw[e1,e2] at this;have:=this i j;cases Gx:zu q i j with
   |false=>rfl
   |true=>exact absurd ⟨Gx,hc⟩ this
  simp[Zi,fr,qp,gp,YA];refine ym (Q:=λr=>Nx r _) (e:=λx:List Int×Nat=>MV.f (.tup [.int x.2,za true x.1])) p.2.2.zipIdx (λd σ hh=>∃(z6 z7:Option MV),hh=QV h (iZ rows λi j=>((ps.take k).any λp=>zu p i j)||decide (p.1<=i/\i<p.1+d/\p.2.1<=j/\j<p.2.1+b))/\σ=[some (.f pv),some (.f (.tup [.int H,.int W])),some (.ref (h.length+H)),some (I p.1),some (I p.2.1),some (.f (Qe most p.2.2)),z6,z7]) ?_ ?_ ?_
  ·refine⟨z6,z7,?_,rfl⟩
   congr 2
   funext i j;have:¬(p.1<=i/\i<p.1+0/\p.2.1<=j/\j<p.2.1+b):=by lia
   rw[decide_eq_false this,xy]
  ·rintro d ⟨s,d'⟩ σ hh hd ⟨z6,z7,rfl,rfl⟩ Q hQ;rw[wf] at hd;obtain⟨s',es,e⟩:=Wb.mp hd;simp only[Kt.injEq,Xi] at e;obtain⟨rfl,rfl⟩:=e;have hda:d<a:=by have:=(Wa.mp es).1;rw[f.d.len] at this;exact this
   have hsb:=f.d.gN s' (Vb es);have Nl:=f.ha;have hfb:=f.hb;have Ni:p.1+d<rows.length:=by lia
   obtain⟨r,er⟩:∃ r,rows[p.1+d]?=some r:=⟨rows[p.1+d],by simp[Ni]⟩;have Gv:=dr.gN r (Vb er);generalize G2:(λi j=>((ps.take k).any λp=>zu p i j)||decide (p.1<=i/\i<p.1+d/\p.2.1<=j/\j<p.2.1+b))=cov;have tp:=Zb9 h (iZ rows cov);rw[YZ,hlen] at tp;have rw1:=QbY h (iZ rows cov) (p.1+d) _ (B0 er);have tL:cb ((va H).map λi=>MV.ref (h.length+i)) ((p.1:Int)+(d:Int))=some (.ref (h.length+(p.1+d))):=by
    rw[show(p.1:Int)+(d:Int)=((p.1+d:Nat):Int) by lia,qj,Ua,Up (by lia)];rfl
   have op:∀ j,j<s'.length->(r.mapIdx λj v=>if cov (p.1+d) j=true then FV.int v else .a9)[p.2.1+j]?=some .a9:=λj hj=>by
    have cf:cov (p.1+d) (p.2.1+j)=false:=by
     rw[<- G2];have c1:zu p (p.1+d) (p.2.1+j)=true:=by unfold zu;rw[f.high,f.wide];simp;lia
     have c2:((ps.take k).any λp_1=>zu p_1 (p.1+d) (p.2.1+j))=false:=by
      rw[UE];intro q hq;rw[dis q hq _ _ c1];simp
     simp only[c2,Bool.false_or,decide_eq_false_iff_not]
     lia
    rw[vc,wb (by lia)];simp[cf]
   have L:=qct n (QV h (iZ rows cov)) (h.length+(p.1+d)) p.2.1 _ s' rw1 (by rw[wu];lia) (by rw[wu];lia) op;rw[zcm f dr.gN cov d s' r es er,Qb8 h _ _ _ (by rw[YZ];exact Ni)] at L;have e9:(iZ rows cov).set (p.1+d) (r.mapIdx λj v=>if(cov (p.1+d) j||decide (p.2.1<=j/\j<p.2.1+b))=true then FV.int v else .a9)=iZ rows λi j=>((ps.take k).any λp=>zu p i j)||decide (p.1<=i/\i<p.1+(d+1)/\p.2.1<=j/\j<p.2.1+b):=by
    rw[<- Yck (cov:=cov) (cov':=λi j=>((ps.take k).any λp=>zu p i j)||decide (p.1<=i/\i<p.1+(d+1)/\p.2.1<=j/\j<p.2.1+b)) er]
    ·congr 2
     funext j v;rw[<- G2];have e10:(decide (p.1<=p.1+d/\p.1+d<p.1+d/\p.2.1<=j/\j<p.2.1+b))=false:=by rw[decide_eq_false_iff_not];lia
     have e11:(decide (p.1<=p.1+d/\p.1+d<p.1+(d+1)/\p.2.1<=j/\j<p.2.1+b))=decide (p.2.1<=j/\j<p.2.1+b):=by rw[decide_eq_decide];lia
     simp only[e10,e11,xy]
    ·intro i j lK;rw[<- G2];dsimp only
     congr 1
     rw[decide_eq_decide];lia
   rw[e9] at L;generalize hS:QV h (iZ rows λi j=>((ps.take k).any λp=>zu p i j)||decide (p.1<=i/\i<p.1+(d+1)/\p.2.1<=j/\j<p.2.1+b))=h2 at L;simp[Zi,tp,tL,L];exact hQ _ _ ⟨_,_,hS.symm,rfl⟩
  ·rintro σ hh ⟨z6,z7,hS,rfl⟩;simp;refine hQ _ _ ⟨_,_,_,_,_,?_,rfl⟩;rw[hS]
   congr 1
   apply Ku;intro i j hi hj;rw[Ui,hk,xk,List.any_append]
   congr 1
   simp only[xr,List.any_nil,xy];unfold zu;rw[f.high,f.wide,xq,f.d.len]
 ·rintro σ hh ⟨z3,z4,z5,z6,z7,rfl,rfl⟩;have e5:iZ rows (λi j=>(ps.take ps.length).any λp=>zu p i j)=rows.map λr=>r.map FV.int:=qcl λi j hi hj=>by
   rw[wm,List.any_eq_true];have kG:i<H:=by lia
   have:=hj rows[i] (by simp[hi]);rw[dr.gN _ (Vo hi)] at this;obtain⟨p,hp,hc⟩:=full i j kG this;exact⟨p,hp,hc⟩
  rw[e5,QbR];obtain⟨t',F⟩:=yck h rows;rw[hlen] at F;simp[F];exact hQ _ _ ⟨rfl,rfl⟩
end
theorem QQ{α:Type}{bd:MV->aL->MH->R (Option MV×aL)}{h:MH}{e g:α->MV}(Iv:aL->Prop):∀(ys:List α)(acc:List MV)(σ:aL),Iv σ->acc.length+ys.length<=aK ->
  (∀ y∈ys,∀ σ,Iv σ->∃ σ',bd (e y) σ h=.ok (some (g y),σ') h/\Iv σ')->Qj [] bd (ys.map e) acc σ h=.ok (acc++ys.map g) h
 |[],acc,σ,_,_,_=>by simp[Qj]
 |y::r,acc,σ,i0,hl,hb=>by
  obtain⟨σ',e1,i1⟩:=hb y (by simp) σ i0;simp only[ud] at hl;have ih:=QQ (bd:=bd) (e:=e) (g:=g) Iv r (acc++[g y]) σ' i1 (by simp;lia) λy hy=>hb y (by simp[hy]);simp only[Ub,Qj,J8,true_and,e1,R.aw,ih];rw[if_pos (by lia)];simp
theorem D4{l:List Int}{m:Int}(h1:∀ v∈l,v<=m)(h2:m∈l):oo l=m:=by
 have a:=LX h2;have b:=h1 _ (Ee (λe=>by rw[e] at h2;simp at h2))
 lia
section
variable (n:Nat) (h:MH)
theorem Mx(m:Int)(rows:List (List Int)):run prog (n+1) "high" [.f (Qe m rows)] h=.ok (I rows.length) h:=by
 simp[Ya,Cm,Qe,Za]
theorem Mt(m:Int)(r:List Int)(rows:List (List Int)):run prog (n+1) "wide" [.f (Qe m (r::rows))] h=.ok (I r.length) h:=by
 simp[Ya,DA,Qe,Za,za]
theorem zD(m:Int)(rows:List (List Int))(hr:rows≠[]):run prog (n+2) "size_of" [.f (Qe m rows)] h=.ok (.f (.tup [.int rows.length,.int (rows.headD []).length])) h:=by
 cases rows with
 |nil=>exact absurd rfl hr
 |cons r rs =>
  have a:=Mx n h m (r::rs);have b:=Mt n h m r rs;rw[Qbi];simp only[eR];simp at a b;simp[a,b]
theorem YaY(m:Int)(rows:List (List Int))(hr:rows≠[])(h1:rows.length<=1000):run prog (n+3) "cells_of" [.f (Qe m rows)] h=.ok (I ((rows.length*(rows.headD []).length:Nat):Int)) h:=by
 have a:=zD n h m rows hr;have mu:∀ hh,ye true .mul (I rows.length) (I ((rows.headD []).length:Int)) hh=.ok (I ((rows.length:Int)*((rows.headD []).length:Int))) hh:=λhh=>Qo _ _ _ (.inl (by lia));rw[qa2];simp only[dO];generalize (rows.headD []).length=w at *;generalize rows.length=l at *;simp[a,mu]
theorem zcv(most:Int)(hm:1<=most)(rows:List (List Int))(H W:Nat)(dr:Drawn most rows H W)(AX:1<=H)(C3:1<=W)(hH:H<=1000)(hW:W<=1000)(ps:List Qh)(hps:ps.length<=10000)(fits:∀ p∈ps,∃ a b,ky most rows H W p a b)
  (sk:ps.Pairwise λp q=>∀ i j,¬(zu p i j=true/\zu q i j=true)) (full:∀ i j,i<H->j<W->∃ p∈ps,zu p i j=true) (HR:(ps.map λp=>qT p*ZF p).sum=H*W) :
  run prog (n+4) "put_together" [.f (.lst (ps.map (fI most)))] h=.ok (.f (Qe most rows)) h:=by
 have q:∀ hh,yb hh (.f (.lst (ps.map (fI most))))=some (ps.map λp=>MV.f (.tup [.int p.1,.int p.2.1,Qe most p.2.2])):=λhh=>by simp[fI,we]
 have gq:∀ hh,zc hh (.f (.lst (ps.map (fI most))))=[]:=λhh=>rfl;have nn:∀ p∈ps,p.2.2≠[]/\p.2.2.length<=1000:=λp hp=>by
  obtain⟨a,b,f⟩:=fits p hp;have h1:=f.d.len;have h2:=f.a1;have h3:=f.ha;exact⟨λe=>by rw[e] at h1;simp at h1;lia,by lia⟩
 obtain⟨p0,hp0,_⟩:=full 0 0 (by lia) (by lia);obtain⟨pF,pR,Bl⟩:∃ pF pR,ps=pF::pR:=by cases ps with|nil=>simp at hp0|cons a b=>exact⟨a,b,rfl⟩
 have BD:cb (ps.map λp=>MV.f (.tup [.int p.1,.int p.2.1,Qe most p.2.2])) 0=some (.f (.tup [.int pF.1,.int pF.2.1,Qe most pF.2.2])):=by rw[Bl];simp
 have fm:∀ rs hh,QA prog.fG "most" (.f (Qe most rs)) hh=some (I most):=λrs hh=>by simp[Qe]
 have Am:∀ hh r1 r2 m,run prog (m+1) "ask_mosts" [.f (Qe most r1),.f (Qe most r2)] hh=.ok (.f .a9) hh:=λhh r1 r2 m=>by
  rw[zaE];simp only[c9];simp[fm]
 have at2:∀ a b c:FV,cb [MV.f a,.f b,.f c] 2=some (.f c):=λ_ _ _=>rfl;have tL:∀ a b c:FV,cb [MV.f a,.f b,.f c] 1=some (.f b):=λ_ _ _=>rfl;have t0:∀ a b:FV,cb [MV.f a,.f b] 0=some (.f a):=λ_ _=>rfl;have t1:∀ a b:FV,cb [MV.f a,.f b] 1=some (.f b):=λ_ _=>rfl;have lz:ps.length≠0:=by rw[Bl];simp
 have hz:ps.length<=aK:=by rw[Qa];lia
 have Mx1:oo (ps.map λp=>(p.1:Int)+(p.2.2.length:Int))=H:=by
  apply D4
  ·intro v hv;obtain⟨p,hp,rfl⟩:=Vf.mp hv;obtain⟨a,b,f⟩:=fits p hp;have:=f.ha;have:=f.d.len;lia
  ·obtain⟨p,hp,hc⟩:=full (H-1) (W-1) (by lia) (by lia);obtain⟨a,b,f⟩:=fits p hp;refine Vf.mpr ⟨p,hp,?_⟩;unfold zu at hc;rw[f.high,f.wide] at hc;simp only[decide_eq_true_eq] at hc;have:=f.ha;have:=f.d.len;lia
 have Mx2:oo (ps.map λp=>(p.2.1:Int)+((p.2.2.headD []).length:Int))=W:=by
  apply D4
  ·intro v hv;obtain⟨p,hp,rfl⟩:=Vf.mp hv;obtain⟨a,b,f⟩:=fits p hp;have:=f.hb;have e:=f.wide;unfold ZF at e;lia
  ·obtain⟨p,hp,hc⟩:=full (H-1) (W-1) (by lia) (by lia);obtain⟨a,b,f⟩:=fits p hp;refine Vf.mpr ⟨p,hp,?_⟩;unfold zu at hc;rw[f.high,f.wide] at hc;simp only[decide_eq_true_eq] at hc;have:=f.hb;have e:=f.wide;unfold ZF at e;lia
 have ne1:(ps.map λp=>(p.1:Int)+(p.2.2.length:Int))≠[]:=by rw[Bl];simp
 have ne2:(ps.map λp=>(p.2.1:Int)+((p.2.2.headD []).length:Int))≠[]:=by rw[Bl];simp
 have qr:∀ r hh,yb hh (.f (za false r))=some (r.map (MV.f∘FV.int)):=λr hh=>by simp[za]
 have m1:=qL true h (.f (za false (ps.map λp=>(p.1:Int)+(p.2.2.length:Int)))) _ (by rw[qr,xh,Zs]) ne1;have m2:=qL true h (.f (za false (ps.map λp=>(p.2.1:Int)+((p.2.2.headD []).length:Int)))) _ (by rw[qr,xh,Zs]) ne2;rw[Mx1] at m1;rw[Mx2] at m2;have Ro:=zbd (n+1) h most rows H W dr hH hW ps fits sk full;have G0:dz 0 most rows:=⟨hm,λe=>by have:=dr.len;rw[e] at this;simp at this;lia,⟨W,by lia,dr.gN⟩,dr.sh,by rw[dr.len];exact hH⟩;have Mk:=Yl (n+1) h most false false rows G0;have Sm:(ps.map λp=>((p.2.2.length*(p.2.2.headD []).length:Nat):Int)).sum=(H:Int)*(W:Int):=by
  have e:∀ l:List Qh,(l.map λp=>((p.2.2.length*(p.2.2.headD []).length:Nat):Int)).sum=(((l.map λp=>qT p*ZF p).sum:Nat):Int):=by
   intro l
   induction l with
   |nil=>rfl
   |cons p l ih=>rw[Ub,Ub,ul,ul,ih];unfold qT ZF;lia
  rw[e,HR];lia
 have mu:∀ hh,ye true .mul (I H) (I W) hh=.ok (I ((H:Int)*(W:Int))) hh:=λhh=>Qo _ _ _ (.inl (by lia));have ea:∀ xs:List Int,MV.f (.lst (xs.map FV.int))=.f (za false xs):=λxs=>rfl;generalize Gy:FV.lst (ps.map (fI most))=pv at *;have Ap:run prog (n+3) "ask_pieces" [.f pv] h=.ok (.f .a9) h:=by
  rw[qan];simp only[cP];simp[q,gq,show ¬ ps=[] by rw[Bl];simp];rw[ZH (e:=λp:Qh=>MV.f (.tup [.int p.1,.int p.2.1,Qe most p.2.2])) (st:=λz:Option MV×Option MV×Option MV=>[some (.f pv),z.1,z.2.1,z.2.2]) (hp:=λ_=>h) (f:=λ_ p=>(some (I p.1),some (I p.2.1),some (.f (Qe most p.2.2)))) _ (none,none,none)]
  ·simp
  ·rintro p hp z;simp[Zi,q,BD,at2,Am,show ¬((p.1:Int)<0) by lia,show ¬((p.2.1:Int)<0) by lia]
 have Ls:run prog (n+3) "least_size" [.f pv] h=.ok (.f (.tup [.int H,.int W])) h:=by
  rw[Yar];simp only[cL];simp[q,gq,MP.stM];rw[QQ (e:=λp:Qh=>MV.f (.tup [.int p.1,.int p.2.1,Qe most p.2.2])) (g:=λp:Qh=>I ((p.1:Int)+(p.2.2.length:Int))) (λσ=>∃ z0 z1 z2:Option MV,σ=[z0,z1,z2]) ps [] _ ⟨_,_,_,rfl⟩ (by simpa using hz) (by
   rintro p hp σ ⟨z0,z1,z2,rfl⟩;have S:=zD n h most p.2.2 (nn p hp).1;exact⟨[some (I p.1),some (I p.2.1),some (.f (Qe most p.2.2))],by simp[zh,S],_,_,_,rfl⟩)]
  have e1:(ps.map λp:Qh=>I ((p.1:Int)+(p.2.2.length:Int)))=((ps.map λp=>(p.1:Int)+(p.2.2.length:Int)).map FV.int).map MV.f:=by simp[we]
  simp only[Wd,R.aw,e1,qb,ea];generalize oP:(ps.map λp=>(p.1:Int)+(p.2.2.length:Int))=x1 at *;simp[m1,q,gq,MP.stM];rw[QQ (e:=λp:Qh=>MV.f (.tup [.int p.1,.int p.2.1,Qe most p.2.2])) (g:=λp:Qh=>I ((p.2.1:Int)+((p.2.2.headD []).length:Int))) (λσ=>∃ z0 z1 z2:Option MV,σ=[z0,z1,z2]) ps [] _ ⟨_,_,_,rfl⟩ (by simpa using hz) (by
   rintro p hp σ ⟨z0,z1,z2,rfl⟩;have S:=zD n h most p.2.2 (nn p hp).1;exact⟨[some (I p.1),some (I p.2.1),some (.f (Qe most p.2.2))],by simp[zh,S,t1],_,_,_,rfl⟩)]
  have e2:(ps.map λp:Qh=>I ((p.2.1:Int)+((p.2.2.headD []).length:Int)))=((ps.map λp=>(p.2.1:Int)+((p.2.2.headD []).length:Int)).map FV.int).map MV.f:=by simp[we]
  simp only[Wd,R.aw,e2,qb,ea];generalize kE:(ps.map λp=>(p.2.1:Int)+((p.2.2.headD []).length:Int))=x2 at *;simp[m2]
 rw[yac];simp only[bT];simp[Ap,Ls,q,gq,MP.stM,mu,t0,t1];rw[QQ (e:=λp:Qh=>MV.f (.tup [.int p.1,.int p.2.1,Qe most p.2.2])) (g:=λp:Qh=>I ((p.2.2.length*(p.2.2.headD []).length:Nat):Int)) (λσ=>∃ z0 z1 z2:Option MV,σ=[z0,z1,z2]) ps [] _ ⟨_,_,_,rfl⟩ (by simpa using hz) (by
  rintro p hp σ ⟨z0,z1,z2,rfl⟩;have S:=YaY n h most p.2.2 (nn p hp).1 (nn p hp).2;exact⟨[some (I p.1),some (I p.2.1),some (.f (Qe most p.2.2))],by simp[zh,S],_,_,_,rfl⟩)]
 have e3:(ps.map λp:Qh=>I ((p.2.2.length*(p.2.2.headD []).length:Nat):Int))=((ps.map λp=>((p.2.2.length*(p.2.2.headD []).length:Nat):Int)).map FV.int).map MV.f:=by simp[we]
 simp only[Wd,R.aw,e3,qb,ea];generalize hx3:(ps.map λp=>((p.2.2.length*(p.2.2.headD []).length:Nat):Int))=x3 at *;have sm:Qw true "sum" [.f (za false x3)] h=.ok (I ((H:Int)*(W:Int))) h:=by
  show opt ((yb h (.f (za false x3))).bind Yf) _=_;rw[qr,xh,Zs,Qd,Sm]
 simp[sm,q,BD,at2,fm,Ro,Mk]
end
end MP
end
section
namespace MP
open PySem
section
variable (n:Nat) (h:MH)
theorem Y3{a b:Int}(ha:1<=a)(hb:1<=b):run prog (n+1) "ask_size" [I a,I b] h=.ok (.f .a9) h:=by
 rw[ZaR];simp only[dP];simp[show ¬ a<1 by lia,show ¬ b<1 by lia]
theorem y9(m i j:Int)(r:List Int)(rows:List (List Int))(c:0<=i/\i<rows.length+1/\0<=j/\j<r.length):run prog (n+3) "ask_cell" [.f (Qe m (r::rows)),.f (.tup [.int i,.int j])] h=.ok (.f .a9) h:=by
 have a:=Mx n h m (r::rows);have b:=Mt n h m r rows;have hc:run prog (n+2) "has_cell" [.f (Qe m (r::rows)),.f (.tup [.int i,.int j])] h=.ok (B true) h:=by
  rw[qaO];simp only[dJ];simp at a;simp[a,b,c]
 rw[YaS];simp only[dU];simp[hc]
theorem Zbd(most:Int)(rows:List (List Int))(H W:Nat)(hH:1<=H)(hH2:H<=1000)(hW:W<=1000)(hm:1<=most)(d:Drawn most rows H W)(t l a b:Nat)(ok:JY H W t l a b) :
  run prog (n+5) "part_of" [.f (Qe most rows),I t,I l,I a,I b] h=.ok (.f (Qe most (Qm rows t l a b))) h:=by
 obtain⟨o1,o2,o3,o4,o5,o6⟩:=ok;have A:run prog (n+4) "ask_part" [.f (Qe most rows),I t,I l,I a,I b] h=.ok (.f .a9) h:=by
  obtain⟨r,rs,rfl,hr,M4⟩:=d.cons hH;have S:=Y3 (n+2) h o3 o4;have C1:=y9 n h most t l r rs ⟨by lia,by lia,by lia,by lia⟩;have C2:=y9 n h most (t+a-1) (l+b-1) r rs ⟨by lia,by lia,by lia,by lia⟩;rw[yaR];simp only[dQ];simp[S,C1,C2]
 have d':=d.part (t:=t) (l:=l) (a:=a) (b:=b) (by lia) (by lia);have P:=Yl (n+2) h most false true (Qm rows t l a b) (d'.iH hm (by lia) (by lia) (by lia));have p1:QA prog.fG "rows" (.f (Qe most rows)) h=some (.f (sq true (rows.map (za true)))):=by simp[Qe,Za]
 have p2:QA prog.fG "most" (.f (Qe most rows)) h=some (I most):=by simp[Qe]
 have S:=KP true (rows.map (za true)) (t:Int) (t+a) h (by lia) (by lia) (by simp[d.len];lia);rw[<- uy,<- Uy,show((t:Int)+a).toNat-(t:Int).toNat=a by lia,Wh] at S;have M0:((rows.drop t).take a).length<=aK:=by simp[d.len,Qa];lia
 have pM:∀ r∈(rows.drop t).take a,r.length=W:=λr hr=>d.gN r (Wr (xo hr));have e:(MV.f (FV.lst (((rows.drop t).take a).map λr=>za true ((r.drop l).take b))))=.f (Za false true (Qm rows t l a b)):=by simp only[Za,Qm,sq,Wg,if_false,Xd];rfl
 generalize (rows.drop t).take a=sub at S M0 pM e;rw[Qbf];simp only[eT];simp[A,p1,p2,S,MP.stM];rw[Ye (e:=MV.f∘za true) (g:=λr=>MV.f (za true ((r.drop l).take b))) sub [] none (by simpa using M0) (λr hr z=>by
  have hw:=pM r hr;have S2:=KP true (r.map FV.int) (l:Int) (l+b) h (by lia) (by lia) (by simp[hw];lia);rw[<- uy,<- Uy,show((l:Int)+b).toNat-(l:Int).toNat=b by lia,Wh] at S2;change zp true (.f (za true r)) _ _ h=.ok (.f (za true ((r.drop l).take b))) h at S2;exact⟨some (.f (za true r)),by simp[zh,S2]⟩)]
 simp[we,e,P]
theorem Qbs(most:Int)(hm:1<=most)(rows:List (List Int))(H W:Nat)(dr:Drawn most rows H W)(AX:1<=H)(C3:1<=W)(hH:H<=1000)(hW:W<=1000)(d b:Nat)(hd:1<=d)(hb:1<=b)(hd2:d<=1000)(hb2:b<=1000)(Nu:H*W<=10000) :
  run prog (n+6) "cut_up" [.f (Qe most rows),I d,I b] h=.ok (.f (.lst ((Ym rows H W d b).map (fI most)))) h:=by
 refine dq.eq λQ hQ=>?_;have A:=Y3 (n+4) h (a:=d) (b:=b) (by lia) (by lia);have lK:rows≠[]:=λe=>by have:=dr.len;rw[e] at this;simp at this;lia
 have S:=zD (n+3) h most rows lK;have hw:(rows.headD []).length=W:=by
  cases e:rows with
  |nil=>exact absurd e lK
  |cons r rs=>exact dr.gN r (by rw[e];simp)
 rw[dr.len,hw] at S;have R1:∀ hh,iB "range" [I 0,I H,I d] hh=some ((va (ql H d)).map λ(k:Nat)=>I ((k:Int)*(d:Int)),[]):=λhh=>by
  rw[ZX hh 0 H d (by lia),PH H d AX hd];simp
 have R2:∀ hh,iB "range" [I 0,I W,I b] hh=some ((va (ql W b)).map λ(k:Nat)=>I ((k:Int)*(b:Int)),[]):=λhh=>by
  rw[ZX hh 0 W b (by lia),PH W b C3 hb];simp
 have Po:=λhh (t l x y:Nat) (ok:JY H W t l x y)=>Zbd n hh most rows H W AX hH hW hm dr t l x y ok;have Nj:=Iy dr AX C3 hd hb;generalize Gy:Qe most rows=pv at *;rw[Ybw];simp only[fP];have t0:∀ a b:FV,cb [MV.f a,.f b] 0=some (.f a):=λ_ _=>rfl;have t1:∀ a b:FV,cb [MV.f a,.f b] 1=some (.f b):=λ_ _=>rfl;simp[A,S,R1];refine ym (Q:=λr=>dq (Zb _ r) _) (e:=λk:Nat=>I ((k:Int)*(d:Int))) (va (ql H d)) (λp σ hh=>∃(z5 z6 z7 z8:Option MV),hh=h++[.lst (((va p).flatMap λp=>(va (ql W b)).map λq=>((p*d,q*b,Qm rows (p*d) (q*b) (min d (H-p*d)) (min b (W-q*b))):Qh)).map (MV.f∘fI most))]/\σ=[some (.f pv),some (I d),some (I b),some (.f (.tup [.int H,.int W])),some (.ref h.length),z5,z6,z7,z8]) ?_ ?_ ?_
 ·exact⟨none,none,none,none,by simp,rfl⟩
 ·rintro p p' σ hh hp ⟨z5,z6,z7,z8,rfl,rfl⟩ Q hQ;have bE:p<ql H d:=by have:=(Wa.mp hp).1;simpa using this
  obtain rfl:p'=p:=by rw[Up bE] at hp;exact(gb.inj hp).symm
  have hpd:=YC hd AX bE;have rZ:((va p').flatMap λp=>(va (ql W b)).map λq=>((p*d,q*b,Qm rows (p*d) (q*b) (min d (H-p*d)) (min b (W-q*b))):Qh)).length=p'*ql W b:=by
   rw[xx];simp only[xc,Wn];have:∀ m c:Nat,((va m).map λ_=>c).sum=m*c:=λm c=>by
    induction m with
    |zero=>simp
    |succ m ih=>rw[vm,vf,wq,ih,Uh];simp
   exact this _ _
  have t2:ql H d<=H:=by unfold ql;have:=Ut (H-1) d;lia
  have t3:ql W b<=W:=by unfold ql;have:=Ut (W-1) b;lia
  have hmul:(p'+1)*ql W b<=H*W:=ux (by lia) t3;rw[Uh,uo] at hmul;generalize AQ:((va p').flatMap λp=>(va (ql W b)).map λq=>((p*d,q*b,Qm rows (p*d) (q*b) (min d (H-p*d)) (min b (W-q*b))):Qh))=done at *;simp[Zi,R2];refine ym (Q:=λr=>Nx r _) (e:=λk:Nat=>I ((k:Int)*(b:Int))) (va (ql W b)) (λq σ hh=>∃(z6 z7 z8:Option MV),hh=h++[.lst ((done++(va q).map λq=>((p'*d,q*b,Qm rows (p'*d) (q*b) (min d (H-p'*d)) (min b (W-q*b))):Qh)).map (MV.f∘fI most))]/\σ=[some (.f pv),some (I d),some (I b),some (.f (.tup [.int H,.int W])),some (.ref h.length),some (I ((p'*d:Nat):Int)),z6,z7,z8]) ?_ ?_ ?_
  ·exact⟨z6,z7,z8,by simp,by simp⟩
  ·rintro q q' σ hh hq ⟨z6,z7,z8,rfl,rfl⟩ Q hQ;have M6:q<ql W b:=by have:=(Wa.mp hq).1;simpa using this
   obtain rfl:q'=q:=by rw[Up M6] at hq;exact(gb.inj hq).symm
   have hqb:=YC hb C3 M6;have mH:(if(H:Int)-((p'*d:Nat):Int)<d then(H:Int)-((p'*d:Nat):Int) else(d:Int))=((min d (H-p'*d):Nat):Int):=by split <;> lia
   have mW:(if(W:Int)-((q'*b:Nat):Int)<b then(W:Int)-((q'*b:Nat):Int) else(b:Int))=((min b (W-q'*b):Nat):Int):=by split <;> lia
   have P:=λhh=>Po hh (p'*d) (q'*b) (min d (H-p'*d)) (min b (W-q'*b)) ⟨by lia,by lia,by lia,by lia,by lia,by lia⟩;have ec:(q':Int)*(b:Int)=((q'*b:Nat):Int):=by simp
   generalize hx:(done++(va q').map λq=>((p'*d,q*b,Qm rows (p'*d) (q*b) (min d (H-p'*d)) (min b (W-q*b))):Qh))=cur at *;have tG:cur.length<=p'*ql W b+q':=by rw[<- hx,xf,rZ];simp
   have cl:=Yh h [] (cur.map (MV.f∘fI most));have hz:cur.length<aK:=by rw[Qa];lia
   have st:=Zj h [] (cur.map (MV.f∘fI most)) (cur.map (MV.f∘fI most)++[.f (fI most (p'*d,q'*b,Qm rows (p'*d) (q'*b) (min d (H-p'*d)) (min b (W-q'*b))))]);have epc:∀(t l:Nat)(r:List (List Int)),FV.tup [.int t,.int l,Qe most r]=fI most (t,l,r):=λ_ _ _=>rfl;have FN:∀(t l:Int)(x:FV),yk [I t,I l,.f x]=.f (.tup [.int t,.int l,x]):=λ_ _ _=>rfl;generalize hpp:Qm rows (p'*d) (q'*b) (min d (H-p'*d)) (min b (W-q'*b))=pp at *;generalize hA:min d (H-p'*d)=aa at *;generalize hB:min b (W-q'*b)=bb at *;generalize hT:p'*d=tt at *;generalize hL:q'*b=ll at *;simp[Zi,ec,mH,mW,P,cl,hz,FN,epc,st];refine hQ _ _ ⟨_,_,_,?_,rfl⟩;rw[<- hx];simp[vm,hL,hB,hpp]
  ·rintro σ hh ⟨z6,z7,z8,hS,rfl⟩;simp;refine hQ _ _ ⟨_,_,_,_,?_,rfl⟩;rw[hS,Wn,vm,wt,AQ];simp
 ·rintro σ hh ⟨z5,z6,z7,z8,rfl,rfl⟩;rw[Wn];have eg:((va (ql H d)).flatMap λp=>(va (ql W b)).map λq=>((p*d,q*b,Qm rows (p*d) (q*b) (min d (H-p*d)) (min b (W-q*b))):Qh))=Ym rows H W d b:=rfl;rw[eg];generalize Ym rows H W d b=gr at *;obtain⟨t',F⟩:=yB h [] (gr.map (fI most));rw[Xd] at F;simp[F];exact hQ _ _ ⟨rfl,rfl⟩
end
end MP
end
section
namespace MP
open PySem PySem.W PySem.Calls PySem.NumText PyProof.Rows
noncomputable def sN(n:Int):Str:=kg (toString n)
theorem Y8{n:Int}(h:0<=n):(sN n).cps.toList=(Wu 10 n.toNat).map jt:=by
 obtain⟨m,rfl⟩:=Wf h;exact PySem.W.KIN.signs_num m
theorem Dq{n:Int}(h:0<=n):∀ c∈(sN n).cps.toList,48<=c/\c<=57:=by
 intro c hc;rw[Y8 h] at hc;obtain⟨ch,mO,e⟩:=Vf.mp hc;have r:=PyProof.Rows.digit_range (Nat.isDigit_of_mem_toDigits (by decide) (by decide) mO);rw[<- e];exact r
theorem Ib{n:Int}(h:0<=n):(sN n).cps.toList≠[]:=by
 rw[Y8 h];intro e;have h:=toDigits_len_ge 10 n.toNat;rw[List.map_eq_nil_iff.mp e] at h;exact absurd h (by decide)
theorem zQ(x:Str):x.length=x.cps.toList.length:=by simp[Str.length]
theorem wI{n:Int}(h0:0<=n)(h1:n<10^30):1<=(sN n).length/\(sN n).length<=30:=by
 refine⟨?_,PyProof.Rows.toString_length_le h0 (by decide) h1⟩;rw[zQ];exact xn.mpr (Ib h0)
theorem YcG{n:Int}(h0:0<=n)(h1:n<10^30):Kc (sN n)=some n:=by
 have hl:=(wI h0 h1).2;have hd:AllDigits (sN n).cps.toList:=λc hc=>Dq h0 c hc;have e:=intText_digits hd (Ib h0) (Xe hl (by decide));rw[Y8 h0,PySem.W.KIN.val_back] at e;rw[e]
 congr 1;lia
theorem ybk(m:Nat)(h:1<=m):∃ d r,Wu 10 m=d::r/\d.toNat≠48:=by
 induction m using Nat.strongRecOn with
 |_ m ih =>
  by_cases C5:m<10
  ·rw[Nat.toDigits_of_lt_base C5];refine⟨_,[],rfl,?_⟩;have key:∀ k:Nat,k<10->1<=k->(Nat.digitChar k).toNat≠48:=by decide
   exact key m C5 h
  ·have hm:m%10<10:=Nat.mod_lt m (by decide);have t:Wu 10 (m/10)++Wu 10 (m%10)=Wu 10 (10*(m/10)+m%10):=Nat.toDigits_append_toDigits (by decide) (by lia) hm;rw[Nat.div_add_mod] at t;obtain⟨d,r,e,hd⟩:=ih (m/10) (by lia) (by lia);exact⟨d,r++Wu 10 (m%10),by rw[<- t,e];rfl,hd⟩
theorem Zco{n:Int}(h0:0<=n)(hl:1<(sN n).length):∃ c r,(sN n).cps.toList=c::r/\c≠48:=by
 by_cases hz:n=0
 ·subst hz;exact absurd hl (by decide)
 ·obtain⟨d,r,e,hd⟩:=ybk n.toNat (by lia);exact⟨d.toNat,r.map jt,by rw[Y8 h0,e];rfl,hd⟩
theorem OO{x y:Str}(h:x.cps.toList=y.cps.toList):x=y:=by
 cases x;cases y;simp only[Str.mk.injEq];exact Array.toList_inj.mp h
theorem zy(x y:Str):(x++y).cps.toList=x.cps.toList++y.cps.toList:=by rw[PySem.Str.cps_append];simp
theorem OE{c:Nat}:∀{a b r s:List Nat},c∉a->c∉b->a++c::r=b++c::s->a=b/\r=s
 |[],[],r,s,_,_,e=>by simpa using e
 |[],y::b,r,s,_,hb,e=>by simp at e;simp at hb;exact absurd e.1 hb.1
 |x::a,[],r,s,ha,_,e=>by simp at e;simp at ha;exact absurd e.1.symm ha.1
 |x::a,y::b,r,s,ha,hb,e=>by
  simp only[xp,Jl.injEq] at e;simp only[ua,not_or] at ha hb;obtain⟨h1,h2⟩:=OE ha.2 hb.2 e.2;exact⟨by rw[e.1,h1],h2⟩
theorem O3{c:Nat}:∀{A B:List Str},A≠[]->B≠[]->(∀ p∈A,c∉p.cps.toList)->(∀ p∈B,c∉p.cps.toList)->Kg ⟨#[c]⟩ A=Kg ⟨#[c]⟩ B->A=B
 |[],_,h,_,_,_,_=>absurd rfl h
 |_,[],_,h,_,_,_=>absurd rfl h
 |[x],[y],_,_,_,_,e=>by
  have e:x=y:=e;rw[e]
 |[x],y::z::B,_,_,ha,hb,e=>by
  have e:x=y++⟨#[c]⟩++Kg ⟨#[c]⟩ (z::B):=e;have:=ha x (by simp);rw[e,zy,zy] at this;simp at this
 |x::z::A,[y],_,_,ha,hb,e=>by
  have e:x++⟨#[c]⟩++Kg ⟨#[c]⟩ (z::A)=y:=e;have:=hb y (by simp);rw[<- e,zy,zy] at this;simp at this
 |x::z::A,y::w::B,_,_,ha,hb,e=>by
  have e:x++⟨#[c]⟩++Kg ⟨#[c]⟩ (z::A)=y++⟨#[c]⟩++Kg ⟨#[c]⟩ (w::B):=e;have e2:=congrArg (λs:Str=>s.cps.toList) e;simp only[zy,vk,List.singleton_append] at e2;obtain⟨h1,h2⟩:=OE (ha x (by simp)) (hb y (by simp)) e2;have ih:=O3 (c:=c) (A:=z::A) (B:=w::B) (by simp) (by simp) (λp hp=>ha p (by simp at hp ⊢;exact .inr hp)) (λp hp=>hb p (by simp at hp ⊢;exact .inr hp)) (OO h2);rw[OO h1,ih]
theorem yX{c:Nat}{A:List Str}(ne:A≠[])(fr:∀ p∈A,c∉p.cps.toList):Txt.split (Txt.join ⟨#[c]⟩ A) ⟨#[c]⟩=A:=by
 have e0:Txt.join ⟨#[c]⟩ A=Kg ⟨#[c]⟩ A:=Gn _ _;have h1:=PySem.StrLaws.join_split (Kg ⟨#[c]⟩ A) ⟨#[c]⟩;have h2:=PySem.StrLaws.split_free (Kg ⟨#[c]⟩ A) c;rw[e0];refine O3 ?_ ne h2 fr h1;intro z;have:=PyProof.Rows.split_pos (Kg ⟨#[c]⟩ A) ⟨#[c]⟩;rw[z] at this;exact absurd this (by decide)
end MP
end
section
namespace MP
open PySem
noncomputable abbrev p9:Str:=⟨#[32]⟩
noncomputable abbrev nh:Str:=⟨#[10]⟩
theorem Mg:kg " "=p9:=by decide
theorem IL:kg "\n"=nh:=by decide
noncomputable def Qf(ns:List Int):Str:=Txt.join p9 (ns.map sN)
noncomputable def zn(rows:List (List Int)):Str:=Txt.join nh (rows.map Qf)
theorem IQ(sep:Str):∀ ts:List Str,(Kg sep ts).length<=(ts.map (·.length)).sum+ts.length*sep.length
 |[]=>by show jg.length<=_;exact Xq _
 |[x]=>by
  show x.length<=_;simp
 |x::y::ts=>by
  have ih:=IQ sep (y::ts);show(x++sep++Kg sep (y::ts)).length<=_;have e:(x++sep++Kg sep (y::ts)).length=x.length+sep.length+(Kg sep (y::ts)).length:=by
   rw[zQ,zy,zy,xf,xf,<- zQ,<- zQ,<- zQ]
  rw[e];simp only[Ub,ul,ud,Uh,uo] at ih ⊢
  lia
theorem tR(sep:Str)(ts:List Str):Txt.join sep ts=Kg sep ts:=Gn _ _
def QB(ns:List Int):Prop:=∀ n∈ns,0<=n/\n<10^30
theorem NP{f:Int->Nat}{b:Nat}:∀(ns:List Int),(∀ n∈ns,f n<=b)->(ns.map f).sum<=ns.length*b
 |[],_=>by simp
 |n::ns,h=>by
  have h1:=h n (by simp);have h2:=NP ns λm hm=>h m (by simp[hm]);simp only[Ub,ul,ud,Uh,uo]
  lia
theorem Pd{f:List Int->Nat}{b:Nat}:∀(ns:List (List Int)),(∀ n∈ns,f n<=b)->(ns.map f).sum<=ns.length*b
 |[],_=>by simp
 |n::ns,h=>by
  have h1:=h n (by simp);have h2:=Pd ns λm hm=>h m (by simp[hm]);simp only[Ub,ul,ud,Uh,uo]
  lia
theorem Oa(ns:List Int)(h:QB ns):((ns.map sN).map (·.length)).sum<=ns.length*30:=by
 rw[Xd];exact NP ns λn hn=>(wI (h n hn).1 (h n hn).2).2
theorem IP(ns:List Int)(h:QB ns):(Qf ns).length<=ns.length*31:=by
 have h1:=Oa ns h;have h2:=IQ p9 (ns.map sN);unfold Qf;rw[tR];have:p9.length=1:=rfl;rw[this,xc] at h2
 lia
structure du (rows:List (List Int)):Prop where
 ok:∀ r∈rows,QB r
 ne:∀ r∈rows,r≠[]
 gN:∀ r∈rows,r.length<=100
 len:rows.length<=100
theorem PN(rows:List (List Int))(h:du rows):((rows.map Qf).map (·.length)).sum<=rows.length*3100:=by
 rw[Xd];exact Pd rows λr hr=>by
  have h1:=IP r (h.ok r hr);have h2:=h.gN r hr;show(Qf r).length<=_
  lia
theorem zcb(rows:List (List Int))(h:du rows):(zn rows).length<=rows.length*3101:=by
 have h1:=PN rows h;have h2:=IQ nh (rows.map Qf);unfold zn;rw[tR];have:nh.length=1:=rfl;rw[this,xc] at h2
 lia
theorem Ic{c d:Nat}:∀{ts:List Str},d∈(Kg ⟨#[c]⟩ ts).cps.toList->d=c\/∃ t∈ts,d∈t.cps.toList
 |[],h=>by simp[Kg,jg] at h
 |[x],h=>.inr ⟨x,by simp,h⟩
 |x::y::ts,h=>by
  have h:d∈(x++⟨#[c]⟩++Kg ⟨#[c]⟩ (y::ts)).cps.toList:=h;rw[zy,zy] at h;simp only[vh] at h
  rcases h with (h|h)|h
  ·exact .inr ⟨x,by simp,h⟩
  ·exact .inl (by simpa using h)
  ·rcases Ic h with h|⟨t,ht,h⟩
   ·exact .inl h
   ·exact .inr ⟨t,by simp at ht ⊢;exact .inr ht,h⟩
theorem zI{ns:List Int}(h:QB ns):∀ d∈(Qf ns).cps.toList,d=32\/(48<=d/\d<=57):=by
 intro d hd;unfold Qf at hd;rw[tR] at hd
 rcases Ic hd with e|⟨t,ht,hd⟩
 ·exact .inl e
 ·obtain⟨n,hn,rfl⟩:=Vf.mp ht;exact .inr (Dq (h n hn).1 d hd)
theorem ybU{ns:List Int}(h:QB ns)(ne:ns≠[]):Txt.split (Qf ns) p9=ns.map sN:=by
 refine yX (by simpa using ne) λp hp=>?_;obtain⟨n,hn,rfl⟩:=Vf.mp hp;intro hc;have:=Dq (h n hn).1 _ hc
 lia
theorem zbu{rows:List (List Int)}(h:du rows)(ne:rows≠[]):Txt.split (zn rows) nh=rows.map Qf:=by
 refine yX (by simpa using ne) λp hp=>?_;obtain⟨r,hr,rfl⟩:=Vf.mp hp;intro hc
 rcases zI (h.ok r hr) _ hc with h|h <;> lia
theorem QbQ{ns:List Int}(h:QB ns):Txt.split (Qf ns) nh=[Qf ns]:=by
 have e:Qf ns=Txt.join nh [Qf ns]:=by rw[tR];rfl
 have:=yX (c:=10) (A:=[Qf ns]) (by simp) (λp hp=>by
  rw[Ud.mp hp];intro hc
  rcases zI h _ hc with h|h <;> lia)
 rw[<- e] at this;exact this
theorem B'{ns:List Int}(h:QB ns):mJ (Qf ns)=true:=by
 unfold mJ;rw[<- WG,Xj];intro d hd
 rcases zI h d hd with h|h <;> simp <;> lia
theorem OP{rows:List (List Int)}(h:du rows):mJ (zn rows)=true:=by
 unfold mJ;rw[<- WG,Xj];intro d hd;unfold zn at hd;rw[tR] at hd
 rcases Ic hd with e|⟨t,ht,hd⟩
 ·simp;lia
 ·obtain⟨r,hr,rfl⟩:=Vf.mp ht
  rcases zI (h.ok r hr) d hd with h|h <;> simp <;> lia
theorem YbG(ts:List Str):(ts.map λt=>MV.f (.str t)).mapM Qg=some ts:=by
 induction ts with
 |nil=>rfl
 |cons t ts ih=>rw[Ub,vo,ih];rfl
theorem N4(h:MH)(sep:Str)(ts:List Str)(hz:(ts.map (·.length)).sum+ts.length*sep.length<=16777216):Yy .join (.f (.str sep)) (.f (.lst (ts.map FV.str))) h=.ok (.f (.str (Txt.join sep ts))) h:=by
 have e:(ts.map FV.str).map MV.f=ts.map λt=>MV.f (.str t):=by simp
 simp only[Yy,Qg,listOf,Qd,e,YbG];rw[if_pos hz]
theorem Fw(h:MH)(z sep:Str)(h0:(sep.length==0)=false)(hz:z.length+2<=4194304):Yy (.split true) (.f (.str z)) (.f (.str sep)) h=.ok (.f (.lst ((Txt.split z sep).map FV.str))) h:=by
 have e:((Txt.split z sep).map λt=>MV.f (.str t))=((Txt.split z sep).map FV.str).map MV.f:=by simp
 simp only[Yy,Qg,Qd];rw[if_pos ⟨h0,by rw[Qa];exact hz⟩,e,qb]
theorem t6(h:MH){n:Int}(h0:0<=n)(h1:n<10^30):oj .str (I n) h=.ok (.f (.str (sN n))) h:=by
 simp only[oj,Zc,Qd];rw[if_pos (by lia)];rfl
theorem ycM(h:MH){n:Int}(h0:0<=n)(h1:n<10^30):oj .int (.f (.str (sN n))) h=.ok (I n) h:=by
 simp only[oj,Qg,Qd,YcG h0 h1];rw[if_pos (by have:=(wI h0 h1).2;lia)]
theorem YcT(h:MH){n:Int}(h0:0<=n)(h1:n<10^30):oj .len (.f (.str (sN n))) h=.ok (I ((sN n).length:Int)) h:=by
 simp only[oj,Qg,Qd];rw[if_pos (by have:=(wI h0 h1).2;rw[Qa];lia)]
theorem uI(h:MH)(c:Nat)(hc:48<=c/\c<=57):Yy .gV (.f (.str ⟨#[c]⟩)) (.f (.str (kg "0123456789"))) h=.ok (B true) h:=by
 have key:∀ k:Nat,k<10->(!(Gf (kg "0123456789") ⟨#[48+k]⟩ 0 (kg "0123456789").length 1).isEmpty)=true:=by decide +kernel
 have:=key (c-48) (by lia);rw[show 48+(c-48)=c by lia] at this;simp only[Yy,Qg,Qd];rw[this]
end MP
end
section
namespace MP
open PySem
section
variable (n:Nat) (h:MH)
theorem D8(b:Bool)(ns:List Int)(h:MH):iB "seq" [.f (za b ns)] h=some (ns.map λk=>I k,[]):=by
 have q:yb h (.f (za b ns))=some (ns.map λk=>I k):=by cases b <;> simp[za,we]
 have g:zc h (.f (za b ns))=[]:=by cases b <;> rfl
 simp only[Z7,q,Xf,g]
theorem JV(b1 b2:Bool)(rows:List (List Int))(h:MH):iB "seq" [.f (Za b1 b2 rows)] h=some (rows.map λr=>MV.f (za b2 r),[]):=by
 have q:yb h (.f (Za b1 b2 rows))=some (rows.map λr=>MV.f (za b2 r)):=by cases b1 <;> simp[Za,we]
 have g:zc h (.f (Za b1 b2 rows))=[]:=by cases b1 <;> rfl
 simp only[Z7,q,Xf,g]
theorem ID(h:MH)(ns:List Int)(f:Int->Str):qo true (ns.map λk=>MV.f (.str (f k))) h=.ok (.f (.lst ((ns.map f).map FV.str))) h:=by
 have e:(ns.map λk=>MV.f (.str (f k)))=((ns.map f).map FV.str).map MV.f:=by simp
 rw[e,qb]
theorem Mw(h:MH)(ns:List (List Int))(f:List Int->Str):qo true (ns.map λk=>MV.f (.str (f k))) h=.ok (.f (.lst ((ns.map f).map FV.str))) h:=by
 have e:(ns.map λk=>MV.f (.str (f k)))=((ns.map f).map FV.str).map MV.f:=by simp
 rw[e,qb]
theorem DV(h:MH)(ns:List Int)(ok:QB ns)(hl:ns.length<=1000):Yy .join (.f (.str (kg " "))) (.f (.lst ((ns.map sN).map FV.str))) h=.ok (.f (.str (Qf ns))) h:=by
 rw[Mg];refine N4 h p9 (ns.map sN) ?_;have:=Oa ns ok;have e:p9.length=1:=rfl;rw[e,xc];lia
theorem yR(b:Bool)(ns:List Int)(ok:QB ns)(hl:ns.length<=1000):run prog (n+1) "written_numbers" [.f (za b ns)] h=.ok (.f (.str (Qf ns))) h:=by
 have it:=D8 b ns h;have nw:=ID h ns sN;have jo:=DV h ns ok hl;generalize za b ns=rv at *;rw[zT];simp only[bj];simp[it,MP.stM,Qg];rw[Ye (e:=λk:Int=>I k) (g:=λk=>MV.f (.str (sN k))) ns [] none (by simp[Qa];lia) (by
  intro k hk z;have:=t6 h (ok k hk).1 (ok k hk).2;exact⟨some (I k),by simp[zh,this]⟩)]
 rw[Wd,R.aw,nw,R.aw,jo];simp
theorem PJ(h:MH)(hd:Int)(rows:List (List Int))(ok:du ([hd]::rows)):Yy .join (.f (.str (kg "\n"))) (.f (.lst ((sN hd::rows.map Qf).map FV.str))) h=.ok (.f (.str (zn ([hd]::rows)))) h:=by
 have e0:Qf [hd]=sN hd:=by unfold Qf;rw[tR];rfl
 have e1:sN hd::rows.map Qf=([hd]::rows).map Qf:=by rw[Ub,e0]
 rw[IL,e1];refine N4 h nh (([hd]::rows).map Qf) ?_;have h1:=PN ([hd]::rows) ok;have h2:=ok.len;have e:nh.length=1:=rfl;rw[e,xc];lia
theorem Ll(h:MH)(s:Str)(ts:List Str)(hl:ts.length<=1000):ye true .add (.f (.lst [.str s])) (.f (.lst (ts.map FV.str))) h=.ok (.f (.lst ((s::ts).map FV.str))) h:=by
 have:=Ej [FV.str s] (ts.map FV.str) h (by simp[Qa];lia);simpa using this
theorem Qac(b1 b2:Bool)(hd:Int)(rows:List (List Int))(ok:du ([hd]::rows)):run prog (n+2) "written_rows" [I hd,.f (Za b1 b2 rows)] h=.ok (.f (.str (zn ([hd]::rows)))) h:=by
 have it:=JV b1 b2 rows h;have h0:=ok.ok [hd] (by simp) hd (by simp);have ts:=t6 h h0.1 h0.2;have nw:=Mw h rows Qf;have hl:=ok.len;have ct:=Ll h (sN hd) (rows.map Qf) (by simp at hl ⊢;lia);have jo:=PJ h hd rows ok;generalize Za b1 b2 rows=rv at *;rw[Yaa];simp only[bP];simp[ts,yo,it,MP.stM,Qg];rw[Ye (e:=λr:List Int=>MV.f (za b2 r)) (g:=λr=>MV.f (.str (Qf r))) rows [] none (by simp[Qa] at hl ⊢;lia) (by
  intro r hr z;have:=yR n h b2 r (ok.ok r (by simp[hr])) (by have:=ok.gN r (by simp[hr]);lia);exact⟨some (.f (za b2 r)),by simp[zh,this]⟩)]
 rw[Wd,R.aw,nw,R.aw,ct,R.aw,jo];simp
theorem qH(b1 b2:Bool)(hd:Int)(rows:List (List Int))(ok:du ([hd]::rows)):run prog (n+1) "_law_text" [I hd,.f (Za b1 b2 rows)] h=.ok (.f (.str (zn ([hd]::rows)))) h:=by
 have it:=JV b1 b2 rows h;have h0:=ok.ok [hd] (by simp) hd (by simp);have ts:=t6 h h0.1 h0.2;have nw:=Mw h rows Qf;have hl:=ok.len;have ct:=Ll h (sN hd) (rows.map Qf) (by simp at hl ⊢;lia);have jo:=PJ h hd rows ok;generalize Za b1 b2 rows=rv at *;rw[ZaH];simp only[de];simp[ts,yo,it,MP.stM,Qg];rw[Ye (e:=λr:List Int=>MV.f (za b2 r)) (g:=λr=>MV.f (.str (Qf r))) rows [] none (by simp[Qa] at hl ⊢;lia) (by
  intro r hr z;have EY:=ok.ok r (by simp[hr]);have rl:=ok.gN r (by simp[hr]);have oN:=D8 b2 r h;have nw2:=ID h r sN;have jo2:=DV h r EY (by lia);refine⟨some (.f (za b2 r)),?_⟩;generalize za b2 r=rr at *;simp[zh,oN,MP.stM,Qg];rw[Ye (e:=λk:Int=>I k) (g:=λk=>MV.f (.str (sN k))) r [] none (by simp[Qa];lia) (by
   intro k hk z;have:=t6 h (EY k hk).1 (EY k hk).2;exact⟨some (I k),by simp[zh,this]⟩)]
  rw[Wd,R.aw,nw2,R.aw,jo2];simp)]
 rw[Wd,R.aw,nw,R.aw,ct,R.aw,jo];simp
theorem YaG{k:Int}(h0:0<=k)(h1:k<10^30):run prog (n+1) "is_number" [.f (.str (sN k))] h=.ok (B true) h:=by
 have ln:=YcT h h0 h1;obtain⟨l1,l2⟩:=wI h0 h1;have hlen:=zQ (sN k);have dg:=Dq h0;obtain⟨c,hc⟩:∃ c,(sN k).cps.toList[0]?=some c:=by
  cases hq:(sN k).cps.toList with
  |nil=>exact absurd hq (Ib h0)
  |cons c r=>exact⟨c,rfl⟩
 have BD:Yy .at (.f (.str (sN k))) (I 0) h=.ok (.f (.str ⟨#[c]⟩)) h:=by
  simp only[Yy,Qg,Zc,Qd];rw[if_pos ⟨by rw[Qa];lia,by decide⟩];show opt ((sN k).cps.toList[0]?) _=_;rw[hc];rfl
 have cm:=dg c (Vb hc);have sc:mJ (⟨#[c]⟩:Str)=true:=by simp[mJ];lia
 have s0:mJ (kg "0")=true:=by decide +kernel
 have it:iB "signs" [.f (.str (sN k))] h=some ((sN k).cps.toList.map λc=>MV.f (.str ⟨#[c]⟩),[]):=rfl;have NG:∀ c∈(sN k).cps.toList,Yy .gV (.f (.str ⟨#[c]⟩)) (.f (.str (kg "0123456789"))) h=.ok (B true) h:=λc hc=>uI h c (dg c hc);have second:(((⟨#[c]⟩:Str)==kg "0")=true)->¬(1<(sN k).length):=by
  intro e hl;obtain⟨d,r,e1,e2⟩:=Zco h0 hl;rw[e1] at hc;simp at hc;subst hc;have:(⟨#[d]⟩:Str)=kg "0":=by simpa using e
  have e3:kg "0"=⟨#[48]⟩:=by decide
  rw[e3] at this;simp at this;exact e2 this
 have C':=NX (⟨#[c]⟩:Str) (kg "0") sc s0;have k1:¬((sN k).length:Int)<1:=by lia
 have k2:¬(30:Int)<((sN k).length:Int):=by lia
 have CL:Qj [] (zh (.nm 0) (λx h=>R.ok true h) λx h=>R.bind (opt ((x[0]?).join) λv=>R.ok v h) λx h1=>opt (Qg x) λ_=>R.bind (opt (some (FV.str (kg "0123456789"))) λv=>R.ok (MV.f v) h1) λy h2=>Yy .gV x y h2) ((sN k).cps.toList.map λc=>MV.f (.str ⟨#[c]⟩)) [] [none] h=.ok ((sN k).cps.toList.map λ_=>B true) h:=by
  rw[Ye (e:=λc:Nat=>MV.f (.str ⟨#[c]⟩)) (g:=λ_=>B true) (sN k).cps.toList [] none (by rw[Qa,<- hlen];simp;lia) (by
   intro c hc z;have:=NG c hc;exact⟨some (.f (.str ⟨#[c]⟩)),by simp[zh,Qg,this]⟩)]
  simp
 have nl:qo true ((sN k).cps.toList.map λ_=>B true) h=.ok (.f (.lst ((sN k).cps.toList.map λ_=>FV.bl true))) h:=by
  have e:((sN k).cps.toList.map λ_=>B true)=((sN k).cps.toList.map λ_=>FV.bl true).map MV.f:=by simp
  rw[e,qb]
 have al:Qw true "all" [.f (.lst ((sN k).cps.toList.map λ_=>FV.bl true))] h=.ok (B true) h:=by simp[we]
 clear NG dg;have st:Qg (.f (.str (sN k)))=some (sN k):=rfl;have gF:prog.bO "FIGURES"=some (.str (kg "0123456789")):=rfl;have gM:prog.bO "MOST_FIGURES"=some (.int 30):=rfl;generalize ((sN k).cps.toList.map λc=>MV.f (.str ⟨#[c]⟩))=M at *;generalize ((sN k).cps.toList.map λ_=>B true)=M1 at *;generalize ((sN k).cps.toList.map λ_=>FV.bl true)=M2 at *;generalize hL:(sN k).length=L at *;generalize sN k=z at *;rw[zaG];simp only[c8];by_cases hb:((⟨#[c]⟩:Str)==kg "0")=true
 ·have:=second hb;have k3:¬(1:Int)<(L:Int):=by lia
  rw[hb] at C';simp[ln,k1,k2,gM,st,BD,C',k3,it,MP.stM,gF,CL,nl,al]
 ·have hb:((⟨#[c]⟩:Str)==kg "0")=false:=by simpa using hb
  rw[hb] at C';simp[ln,k1,k2,gM,st,BD,C',it,MP.stM,gF,CL,nl,al]
theorem ZM(ns:List Int)(ok:QB ns)(ne:ns≠[])(hl:ns.length<=100)(lv:MV):run prog (n+2) "numbers_in" [.f (.str (Qf ns)),lv] h=.ok (.f (za false ns)) h:=by
 have sp:Yy (.split true) (.f (.str (Qf ns))) (.f (.str (kg " "))) h=.ok (.f (.lst ((ns.map sN).map FV.str))) h:=by
  rw[Mg,Fw h (Qf ns) p9 rfl (by have:=IP ns ok;lia),ybU ok ne]
 have it:iB "seq" [.f (.lst ((ns.map sN).map FV.str))] h=some (ns.map λk=>MV.f (.str (sN k)),[]):=by
  have q:yb h (.f (.lst ((ns.map sN).map FV.str)))=some (ns.map λk=>MV.f (.str (sN k))):=by simp
  have g:zc h (.f (.lst ((ns.map sN).map FV.str)))=[]:=rfl;simp only[Z7,q,Xf,g]
 have IS:=λk (hk:k∈ns)=>YaG n h (ok k hk).1 (ok k hk).2;have TI:=λk (hk:k∈ns)=>ycM h (ok k hk).1 (ok k hk).2;have st:Qg (.f (.str (Qf ns)))=some (Qf ns):=rfl;have nf:qo true (ns.map λk=>I k) h=.ok (.f (za false ns)) h:=by
  have eM:(ns.map λk=>I k)=(ns.map FV.int).map MV.f:=by simp
  rw[eM,qb];rfl
 generalize Qf ns=tz at *;generalize FV.lst ((ns.map sN).map FV.str)=wv at *;rw[Qav];simp only[cK];simp[st,sp,it];rw[ZH (e:=λk:Int=>MV.f (.str (sN k))) (st:=λz:Option MV=>[some (.f (.str tz)),some lv,some (.f wv),z]) (hp:=λ_=>h) (f:=λ_ k=>some (.f (.str (sN k)))) _ none]
 ·simp[it,MP.stM];rw[Ye (e:=λk:Int=>MV.f (.str (sN k))) (g:=λk=>I k) ns [] none (by simp[Qa];lia) (by
   intro k hk z;have:=TI k hk;exact⟨some (.f (.str (sN k))),by simp[zh,this]⟩)]
  rw[Wd,R.aw,nf];simp
 ·intro k hk z;have:=IS k hk;simp[Zi,this]
theorem Yae(ns:List Int)(ok:QB ns)(ne:ns≠[])(hl:ns.length<=100):run prog (n+3) "read_numbers" [.f (.str (Qf ns))] h=.ok (.f (za false ns)) h:=by
 have sp:Yy (.split true) (.f (.str (Qf ns))) (.f (.str (kg "\n"))) h=.ok (.f (.lst [.str (Qf ns)])) h:=by
  rw[IL,Fw h (Qf ns) nh rfl (by have:=IP ns ok;lia),QbQ ok];rfl
 have NI:=ZM n h ns ok ne hl (I 0);have st:Qg (.f (.str (Qf ns)))=some (Qf ns):=rfl;have rH:yb h (.f (.lst [.str (Qf ns)]))=some [MV.f (.str (Qf ns))]:=rfl;have a0:cb [MV.f (.str (Qf ns))] 0=some (.f (.str (Qf ns))):=rfl;have le:Qw true "len" [.f (.lst [.str (Qf ns)])] h=.ok (I 1) h:=rfl;generalize FV.lst [.str (Qf ns)]=wv at *;generalize Qf ns=tz at *;rw[Y9];simp only[bS];simp[st,sp,rH,a0,NI,le]
end
end MP
end
section
namespace MP
open PySem
section
variable (n:Nat) (h:MH)
theorem zcl(g t:MH)(x:FV):yp g (.f x) (g++t)=.ok (.f x) g:=by simp
theorem QU(hd:Int)(rows:List (List Int))(ok:du ([hd]::rows))(ne:rows≠[]):run prog (n+3) "read_rows" [.f (.str (zn ([hd]::rows)))] h=.ok (.f (Za false false ([hd]::rows))) h:=by
 refine dq.eq λQ hQ=>?_;have hl:=ok.len;have hz:=zcb ([hd]::rows) ok;have sp:∀ hh,Yy (.split true) (.f (.str (zn ([hd]::rows)))) (.f (.str (kg "\n"))) hh=.ok (.f (.lst ((([hd]::rows).map Qf).map FV.str))) hh:=λhh=>by
  rw[IL,Fw hh (zn ([hd]::rows)) nh rfl (by lia),zbu ok (by simp)]
 have EN:∀ hh,iB "enumerate" [.f (.lst ((([hd]::rows).map Qf).map FV.str))] hh=some (([hd]::rows).zipIdx.map λp=>MV.f (.tup [.int p.2,.str (Qf p.1)]),[]):=λhh=>by
  have q:yb hh (.f (.lst ((([hd]::rows).map Qf).map FV.str)))=some (([hd]::rows).map (MV.f∘λr=>FV.str (Qf r))):=by
   simp[we]
  have g:zc hh (.f (.lst ((([hd]::rows).map Qf).map FV.str)))=[]:=rfl;simp only[KO,q,Xf,g,YA]
 have st:Qg (.f (.str (zn ([hd]::rows))))=some (zn ([hd]::rows)):=rfl;have rl:([hd]::rows).length=rows.length+1:=rfl;generalize kR:[hd]::rows=all at *;have first:∀ r,all[0]?=some r->r.length=1:=λr hr=>by rw[<- kR] at hr;cases hr;rfl
 have two:2<=all.length:=by
  have:=xn.mpr ne
  lia
 generalize zn all=tz at *;generalize FV.lst ((all.map Qf).map FV.str)=wv at *;rw[zaI];simp only[c7];simp[st,sp,EN];refine ym (Q:=λr=>dq (Zb _ r) _) (e:=λp:List Int×Nat=>MV.f (.tup [.int p.2,.str (Qf p.1)])) all.zipIdx (λi σ hh=>∃(t:MH)(z2 z3 z4:Option MV),hh=h++.lst (((all.take i).map (za false)).map .f)::t/\σ=[some (.f (.str tz)),some (.ref h.length),z2,z3,z4]) ⟨[],none,none,none,by simp,rfl⟩ ?_ ?_
 ·rintro i ⟨r,i'⟩ σ hh Nm ⟨t,z2,z3,z4,rfl,rfl⟩ Q hQ;rw[wf] at Nm;obtain⟨r',mM,Nn⟩:=Wb.mp Nm;simp only[Xi,Kt.injEq] at Nn;obtain⟨rfl,rfl⟩:=Nn;have l6:=Vb mM;have oU:i<all.length:=(Wa.mp mM).1;have NI:=ZM n (h++.lst (((all.take i).map (za false)).map .f)::t) r' (ok.ok r' l6) (ok.ne r' l6) (ok.gN r' l6) (I i);have E:(all.take (i+1)).map (za false)=(all.take i).map (za false)++[za false r']:=by
   rw[Ui,mM];simp
  have pN:(((all.take i).map (za false)).map MV.f).length<aK:=by rw[Qa];simp;lia
  have tE:zq (.f (.tup [.int (i:Int),.str (Qf r')]))=some [I i,.f (.str (Qf r'))]:=rfl;have le:∀ hh,Qw true "len" [.f (za false r')] hh=.ok (I (r'.length:Int)) hh:=λhh=>by simp[za]
  have fc:¬((i:Int)=0/\(1:Int)<(r'.length:Int)):=by
   rintro⟨a,b⟩;have:i=0:=by lia
   subst this;have:=first r' mM
   lia
  have c0:=λt=>Yh h t (((all.take i).map (za false)).map MV.f);have s0:=λt ys=>Zj h t (((all.take i).map (za false)).map MV.f) ys;have pU:=hQ [some (.f (.str tz)),some (.ref h.length),some (I i),some (.f (.str (Qf r'))),some (.f (za false r'))] (h++.lst (((all.take i).map (za false)).map MV.f++[.f (za false r')])::t) ⟨t,_,_,_,by rw[E];simp,rfl⟩;generalize ((all.take i).map (za false)).map MV.f=M at *;generalize Qf r'=rt at *;generalize za false r'=rv at *;by_cases l7:(i:Int)=0
  ·have:¬(1:Int)<(r'.length:Int):=λz=>fc ⟨l7,z⟩;have hi1:((i:Int)=0)=True:=eq_true l7;simp[Zi,tE,NI,hi1,le,this,c0,pN,s0];exact pU
  ·have tD:¬ i=0:=by lia
   simp[Zi,tE,NI,tD,c0,pN,s0];exact pU
 ·rintro σ hh ⟨t,z2,z3,z4,rfl,rfl⟩;have zl:all.zipIdx.length=all.length:=by simp
  rw[zl,wm];obtain⟨t',F⟩:=yB h t (all.map (za false));have c0:=Yh h t ((all.map (za false)).map MV.f);have le:Qw true "len" [.ref h.length] (h++.lst ((all.map (za false)).map .f)::t)=.ok (I (all.length:Int)) (h++.lst ((all.map (za false)).map .f)::t):=by simp only[JL,zcd,yb8,Ybm,qbJ,Kx,YbS,KS,qbO,qbP,yb,c0,Qd,xc]
  have n1:¬(all.length:Int)=1:=by lia
  have er:Za false false all=.lst (all.map (za false)):=rfl;rw[er] at hQ;have pU:=hQ _ _ ⟨rfl,rfl⟩;have lv:=zcl h t' (.lst (all.map (za false)));generalize (all.map (za false)).map MV.f=M at *;generalize FV.lst (all.map (za false))=rv at *;simp[le,n1,F,lv];exact pU
theorem Zab(most:Int)(rows:List (List Int))(ok:du ([most]::rows))(g:dz 0 most rows):run prog (n+4) "read_picture" [.f (.str (zn ([most]::rows)))] h=.ok (.f (Qe most rows)) h:=by
 have RR:=QU n h most rows ok g.ne;have MK:=Yl (n+1) h most false false rows g;have rH:yb h (.f (Za false false ([most]::rows)))=some (MV.f (za false [most])::rows.map (MV.f∘za false)):=by simp[Za]
 have a0:cb (MV.f (za false [most])::rows.map (MV.f∘za false)) 0=some (.f (za false [most])):=by
  have S0:=qj (MV.f (za false [most])::rows.map (MV.f∘za false)) 0;change cb _ (0:Int)=_ at S0;rw[S0];rfl
 have EO:yb h (.f (za false [most]))=some [I most]:=rfl;have a1:cb [I most] 0=some (I most):=rfl;have sl:zp true (.f (Za false false ([most]::rows))) (some 1) none h=.ok (.f (Za false false rows)) h:=by
  have c:=DT (MV.f (za false [most])::rows.map (MV.f∘za false)) 1 (by decide) (by simp;lia);have e:rows.map (MV.f∘za false)=(rows.map (za false)).map MV.f:=by simp
  have tn:zq (.f (Za false false ([most]::rows)))=none:=rfl;simp only[zp,tn,rH,Qd,c];show qo true (rows.map (MV.f∘za false)) h=_;rw[e,qb];rfl
 generalize Za false false ([most]::rows)=rv at *;generalize Za false false rows=hX at *;generalize rows.map (MV.f∘za false)=R0 at *;generalize za false [most]=r0 at *;rw[qae];simp only[bR];simp[RR,rH,a0,EO,a1,sl,MK]
theorem qaE(most:Int)(rows:List (List Int))(ok:du ([most]::rows))(g:dz 1 most rows):run prog (n+4) "read_tile" [.f (.str (zn ([most]::rows)))] h=.ok (.f (qh most rows)) h:=by
 have RR:=QU n h most rows ok g.ne;have MK:=Fp (n+1) h most false false rows g;have rH:yb h (.f (Za false false ([most]::rows)))=some (MV.f (za false [most])::rows.map (MV.f∘za false)):=by simp[Za]
 have a0:cb (MV.f (za false [most])::rows.map (MV.f∘za false)) 0=some (.f (za false [most])):=by
  have S0:=qj (MV.f (za false [most])::rows.map (MV.f∘za false)) 0;change cb _ (0:Int)=_ at S0;rw[S0];rfl
 have EO:yb h (.f (za false [most]))=some [I most]:=rfl;have a1:cb [I most] 0=some (I most):=rfl;have sl:zp true (.f (Za false false ([most]::rows))) (some 1) none h=.ok (.f (Za false false rows)) h:=by
  have c:=DT (MV.f (za false [most])::rows.map (MV.f∘za false)) 1 (by decide) (by simp;lia);have e:rows.map (MV.f∘za false)=(rows.map (za false)).map MV.f:=by simp
  have tn:zq (.f (Za false false ([most]::rows)))=none:=rfl;simp only[zp,tn,rH,Qd,c];show qo true (rows.map (MV.f∘za false)) h=_;rw[e,qb];rfl
 generalize Za false false ([most]::rows)=rv at *;generalize Za false false rows=hX at *;generalize rows.map (MV.f∘za false)=R0 at *;generalize za false [most]=r0 at *;rw[yaD];simp only[c6];simp[RR,rH,a0,EO,a1,sl,MK]
end
section
variable (n:Nat) (h:MH)
theorem zaD(c:Int)(rows:List (List Int))(H W:Nat)(hH:1<=H)(hW:1<=W)(hl:rows.length=H)(hw:∀ r∈rows,r.length=W)(a b:Int):run prog (n+1) "threshold_at" [.f (qh c rows),I a,I b] h=.ok (I ((rows.getD (a%H).toNat []).getD (b%W).toNat 0)) h:=by
 have p1:QA prog.fG "rows" (.f (qh c rows)) h=some (.f (Za true true rows)):=by simp[qh]
 have q:yb h (.f (Za true true rows))=some (rows.map (MV.f∘za true)):=by simp[Za]
 have ma:=mod_lt a H (by lia);have mb:=mod_lt b W (by lia);have hi:(a%H).toNat<rows.length:=by lia
 have hr:=hw _ (Vo hi);have er:rows.getD (a%H).toNat []=rows[(a%H).toNat]:=by simp[ve,hi]
 rw[er];have a1:cb (rows.map (MV.f∘za true)) (a%H)=some (.f (za true rows[(a%H).toNat])):=by rw[qI _ _ ma.1,Ua,wb hi];rfl
 generalize rows[(a%H).toNat]=r at *;have q2:yb h (.f (za true r))=some (r.map (MV.f∘FV.int)):=by simp[za]
 have hj:(b%W).toNat<r.length:=by lia
 have a2:cb (r.map (MV.f∘FV.int)) (b%W)=some (I (r.getD (b%W).toNat 0)):=by rw[qI _ _ mb.1,Ua,wb hj];simp[ve,hj]
 have b1:∀ hh,ye true .mod (I a) (I H) hh=.ok (I (a%H)) hh:=λhh=>Qi _ _ _ (by lia);have b2:∀ hh,ye true .mod (I b) (I W) hh=.ok (I (b%W)) hh:=λhh=>Qi _ _ _ (by lia);rw[Qad];simp only[bQ];simp[p1,q,hl,b1,a1,q2,hr,b2,a2]
end
section
variable (n:Nat) (h:MH)
theorem Yao(most:Int)(inks:List Int)(K:eU most inks)(h1:1<=most):run prog (n+1) "ask_rising" [.f (za false inks)] h=.ok (.f .a9) h:=by
 have h2:=K.two h1;have q:yb h (.f (za false inks))=some (inks.map (MV.f∘FV.int)):=by simp[za]
 have a0:cb (inks.map (MV.f∘FV.int)) 0=some (I 0):=by
  have:=qj (inks.map (MV.f∘FV.int)) 0;change cb _ (0:Int)=_ at this;rw[this,Ua,wb (by lia)];have e:=K.head;simp only[ve,wb (show 0<inks.length by lia),Vj] at e;simp[e]
 have s1:zp true (.f (za false inks)) none (some (-1)) h=.ok (.f (za false (inks.take (inks.length-1)))) h:=by
  have:ZI ((inks.map FV.int).map MV.f) none (some (-1))=((inks.take (inks.length-1)).map FV.int).map MV.f:=by
   simp only[ZI,qO,xc,vB,Nat.sub_zero];rw[if_pos (by decide),show((-1:Int)+(inks.length:Int)).toNat=inks.length-1 by lia];simp[Uy]
  simp only[za,sq,Wg,if_false,zp,IV,Fo,Qd,this,qb]
 have s2:zp true (.f (za false inks)) (some 1) none h=.ok (.f (za false (inks.drop 1))) h:=by
  have:=DT ((inks.map FV.int).map MV.f) 1 (by decide) (by simp;lia);have e:ZI ((inks.map FV.int).map MV.f) (some 1) none=((inks.drop 1).map FV.int).map MV.f:=by rw[this];simp[uy]
  simp only[za,sq,Wg,if_false,zp,IV,Fo,Qd,e,qb]
 have q1:yb h (.f (za false (inks.take (inks.length-1))))=some ((inks.take (inks.length-1)).map (MV.f∘FV.int)):=by simp[za]
 have q2:yb h (.f (za false (inks.drop 1)))=some ((inks.drop 1).map (MV.f∘FV.int)):=by simp[za]
 have g1:∀ r,zc h (.f (za false r))=[]:=λr=>rfl;rw[Zas];simp only[cO];have hz:∀ p:Int×Int,p∈(inks.take (inks.length-1)).zip (inks.drop 1)->p.1<p.2:=by
  rintro⟨a,b⟩ hp;obtain⟨i,hi⟩:=Ww.mp hp;rw[xz] at hi;obtain⟨e1,e2⟩:=hi;simp only at e1 e2;have l1:=(Wa.mp e1).1;rw[Vh] at l1;rw[ue (by lia)] at e1;rw[Wj] at e2;have:=JH K.up (show i<1+i by lia) (by lia);simpa[ve,e1,e2] using this
 generalize inks.take (inks.length-1)=l1 at *;generalize inks.drop 1=l2 at *;simp[q,show ¬((inks.length:Int)<2) by lia,a0,s1,s2,q1,q2,g1,qcd];rw[ZH (e:=λp:Int×Int=>MV.f (.tup [.int p.1,.int p.2])) (st:=λz=>[some (.f (za false inks)),z.1,z.2]) (hp:=λ_=>h) (f:=λ_ p=>(some (I p.1),some (I p.2))) _ (none,none)]
 ·simp
 ·rintro⟨a,b⟩ hp z;have hab:a<b:=hz (a,b) hp;simp[Zi,show ¬ b<=a by lia]
theorem ZaS(most:Int)(inks:List Int)(K:eU most inks)(h1:1<=most):run prog (n+2) "ask_inks" [.f (za false inks),I most] h=.ok (.f .a9) h:=by
 have h2:=K.two h1;have R:=Yao n h most inks K h1;have q:yb h (.f (za false inks))=some (inks.map (MV.f∘FV.int)):=by simp[za]
 have a1:cb (inks.map (MV.f∘FV.int)) (-1)=some (I most):=by
  have e:=K.last;have hl:inks.length-1<inks.length:=by lia
  simp only[ve,wb hl,Vj] at e;unfold cb lg;rw[if_neg (by decide),if_pos (by simp;lia)];simp only[xh,xc,Ua];rw[show((-1:Int)+(inks.length:Int)).toNat=inks.length-1 by lia,wb hl];simp[e]
 rw[yaS];simp only[dR];simp[R,q,a1]
theorem Q7{i j:Int}(h1:i.natAbs<=1000000000000000000000000000)(h2:j.natAbs<=1000000000000000000000000000):ZA i j:=by
 have:1000000000000000000000000000<big:=by decide +kernel
 exact .inr (.inr ⟨by lia,by lia⟩)
theorem Zbu(most:Int)(inks:List Int)(K:eU most inks)(s t c:Int)(h0:0<=s)(hm:s<=most)(hM:most<=100000000000000000000000000)(ht:0<=t)(htM:t<=100000000000000000000000000)(hc:0<=c)(AU:c<=100000000000000000000000000) :
  run prog (n+1) "dot_of" [I s,I t,I c,.f (za false inks)] h=.ok (I (Ys inks c s t)) h:=by
 have q:∀ r hh,yb hh (.f (za false r))=some (r.map (MV.f∘FV.int)):=λr hh=>by simp[za]
 have gq:zc h (.f (za false inks))=[]:=rfl;have pl:=K.fX h0;have ll:=K.eE h0;have lw:=K.gV _ (Qn ll);have at_:∀ i,i<inks.length->cb (inks.map (MV.f∘FV.int)) (i:Int)=some (I (inks.getD i 0)):=λi hi=>by
  rw[qj,Ua,wb hi];simp[ve,hi]
 have ea:∀ xs:List Int,MV.f (.lst (xs.map FV.int))=.f (za false xs):=λxs=>rfl;have a1:cb (inks.map (MV.f∘FV.int)) ((place inks s:Int)-1)=some (I (inks.getD (place inks s-1) 0)):=by
  have:=at_ _ ll
  rwa [show((place inks s-1:Nat):Int)=(place inks s:Int)-1 by lia] at this
 have le:=yA inks s;have up:place inks s<inks.length->0<=inks.getD (place inks s) 0/\inks.getD (place inks s) 0<=most:=λir=>K.gV _ (Qn ir);have a2:=at_ (place inks s);unfold Ys;generalize inks.getD (place inks s-1) 0=lo at *;generalize inks.getD (place inks s) 0=hi at *;rw[Zbo];simp only[fO];simp[q,gq,MP.stM];rw[Zv (e:=MV.f∘FV.int) (g:=MV.f∘FV.int) (t:=λk=>decide (k<=s)) inks [] none (by have:=K.sz;simp[Qa];lia) (λk _ z=>⟨some (I k),by by_cases ck:k<=s <;> simp[zh,ck]⟩)];have ef:(inks.filter λk=>decide (k<=s)).map (MV.f∘FV.int)=((inks.filter λk=>decide (k<=s)).map FV.int).map MV.f:=by rw[Xd]
 simp only[Wd,R.aw,ef,qb,ea];have ep:(inks.filter λk=>decide (k<=s)).length=place inks s:=rfl;generalize place inks s=pn at *;by_cases c1:pn=inks.length
 ·subst c1;simp[q,ep,a1]
 ·have Df:¬(pn:Int)=inks.length:=by lia
  have ir:pn<inks.length:=by lia
  have a2:=a2 ir;have up:=up ir;have m1:∀ hh,ye true .mul (I (s-lo)) (I c) hh=.ok (I ((s-lo)*c)) hh:=λhh=>Qo _ _ _ (Q7 (by lia) (by lia));have m2:∀ hh,ye true .mul (I t) (I (hi-lo)) hh=.ok (I (t*(hi-lo))) hh:=λhh=>Qo _ _ _ (Q7 (by lia) (by lia));rw[if_neg c1];by_cases c2:t*(hi-lo)<=(s-lo)*c
  ·simp[q,ep,a1,Df,a2,m1,m2,c2]
  ·simp[q,ep,a1,Df,a2,m1,m2,c2]
theorem Jw(ak:List (List Int))(H W:Nat)(c:Int)(hH:1<=H)(hW:1<=W)(hl:ak.length=H)(hw:∀ r∈ak,r.length=W/\∀ v∈r,1<=v/\v<=c)(a b:Int):1<=qk ak H W a b/\qk ak H W a b<=c:=by
 have ma:=mod_lt a H (by lia);have mb:=mod_lt b W (by lia);have hi:(a%H).toNat<ak.length:=by lia
 unfold qk;rw[show ak.getD (a%H).toNat []=ak[(a%H).toNat] by simp[ve,hi]];obtain⟨h1,h2⟩:=hw _ (Vo hi);exact h2 _ (Qn (by lia))
theorem Zu(inks:List Int)(c:Int)(th:Int->Int->Int)(a left:Int)(r:List Int):(Yp inks c th a left r).length=r.length:=by simp[Yp]
theorem Q0(inks:List Int)(c:Int)(th:Int->Int->Int)(top left:Int)(rows:List (List Int)):(Yk inks c th top left rows).length=rows.length:=by simp[Yk]
theorem qZ{inks:List Int}{c:Int}{th:Int->Int->Int}{top left:Int}{rows:List (List Int)}{r:List Int}(h:r∈Yk inks c th top left rows):∃(i:Nat)(r0:List Int),rows[i]?=some r0/\r=Yp inks c th ((i:Int)+top) left r0:=by
 unfold Yk at h;obtain⟨⟨r0,i⟩,hp,rfl⟩:=Vf.mp h;obtain⟨j,hj⟩:=Ww.mp hp;rw[wf] at hj;obtain⟨r',mM,e⟩:=Wb.mp hj;simp only[Kt.injEq,Xi] at e;obtain⟨rfl,rfl⟩:=e;exact⟨j,r',mM,rfl⟩
theorem zF{inks:List Int}{c:Int}{th:Int->Int->Int}{a left:Int}{r:List Int}{j:Nat}(hj:j<r.length):(Yp inks c th a left r).getD j 0=Ys inks c (r.getD j 0) (th a ((j:Int)+left)):=by
 simp[Yp,ve,hj]
theorem DZ{inks:List Int}{c:Int}{th:Int->Int->Int}{top left:Int}{rows:List (List Int)}{i:Nat}{r:List Int}(hi:rows[i]?=some r):(Yk inks c th top left rows)[i]?=some (Yp inks c th ((i:Int)+top) left r):=by
 simp[Yk,hi]
theorem ybV{most:Int}{inks:List Int}(K:eU most inks)(c:Int)(th:Int->Int->Int)(top left:Int)(rows:List (List Int))(g:dz 0 most rows):dz 0 most (Yk inks c th top left rows):=by
 obtain⟨w,w0,hw⟩:=g.len;refine⟨g.m1,λe=>g.ne (by have:=congrArg WB e;simp[Yk] at this;exact this),⟨w,w0,λr hr=>?_⟩,λr hr v hv=>?_,by rw[Q0];exact g.sz⟩
 ·obtain⟨i,r0,e,rfl⟩:=qZ hr;rw[Zu];exact hw r0 (Vb e)
 ·obtain⟨i,r0,e,rfl⟩:=qZ hr;obtain⟨j,hj,rfl⟩:=yV hv;rw[Zu] at hj;rw[zF hj];exact K.nG c (g.sh r0 (Vb e) _ (Qn hj)).1
theorem Qx(most c top left:Int)(rows ak:List (List Int))(inks:List Int)(H W:Nat)(K:eU most inks)(g:dz 0 most rows)(hM:most<=100000000000000000000000000)(hH:1<=H)(hW:1<=W)(hl:ak.length=H)
  (hw:∀ r∈ak,r.length=W/\∀ v∈r,1<=v/\v<=c) (AU:c<=100000000000000000000000000) (hr:∀ r∈rows,r.length<=1000) :
  run prog (n+3) "screened" [.f (Qe most rows),.f (qh c ak),.f (za false inks),I top,I left] h=.ok (.f (Qe most (Yk inks c (qk ak H W) top left rows))) h:=by
 refine dq.eq λQ hQ=>?_;have hz:=g.sz;have c1:1<=c:=by have:=Jw ak H W c hH hW hl hw 0 0;lia
 have q:∀ hh,yb hh (.f (Za true true rows))=some (rows.map (MV.f∘za true)):=λhh=>by simp[Za]
 have gq:∀ hh,zc hh (.f (Za true true rows))=[]:=λhh=>rfl;have f1:∀ hh,QA prog.fG "rows" (.f (Qe most rows)) hh=some (.f (Za true true rows)):=λhh=>by simp[Qe]
 have f2:∀ hh,QA prog.fG "most" (.f (Qe most rows)) hh=some (I most):=λhh=>by simp[Qe]
 have f3:∀ hh,QA prog.fG "count" (.f (qh c ak)) hh=some (I c):=λhh=>by simp[qh]
 have A:=ZaS n h most inks K g.m1;have Th:=λhh a b=>zaD (n+1) hh c ak H W hH hW hl (λr hr=>(hw r hr).1) a b;have Tb:=λa b=>Jw ak H W c hH hW hl hw a b;change ∀ hh a b,_=R.ok (I (qk ak H W a b)) hh at Th;have Do:=λhh s t (h0:0<=s) (hm:s<=most) (ht:1<=t) (htc:t<=c)=>Zbu (n+1) hh most inks K s t c h0 hm hM (by lia) (by lia) (by lia) AU;generalize hth:qk ak H W=th at *;generalize Gy:Qe most rows=pv at *;generalize htv:qh c ak=tv at *;rw[ZaV];simp only[dH];simp[f1,f2,A,q,gq,YA];refine ym (Q:=λr=>dq (Zb _ r) _) (e:=λp:List Int×Nat=>MV.f (.tup [.int p.2,za true p.1])) rows.zipIdx (λi σ hh=>∃(done:List (List Int)) (t:MH) (z6 z7 z8 z9 gU kB:Option MV),done=(rows.zipIdx.take i).map (λp=>Yp inks c th ((p.2:Int)+top) left p.1)/\hh=h++.lst (done.map (MV.f∘za false))::t/\σ=[some (.f pv),some (.f tv),some (.f (za false inks)),some (I top),some (I left),some (.ref h.length),z6,z7,z8,z9,gU,kB]) ?_ ?_ ?_
 ·exact⟨[],[],none,none,none,none,none,none,rfl,by simp,rfl⟩
 ·rintro i ⟨r,i'⟩ σ hh hi ⟨done,t,z6,z7,z8,z9,gU,kB,hx,rfl,rfl⟩ Q hQ;have l7:=hi;rw[wf] at hi;obtain⟨r',mM,e⟩:=Wb.mp hi;simp only[Kt.injEq,Xi] at e;obtain⟨rfl,rfl⟩:=e;have oU:=(Wa.mp mM).1;have l6:r'∈rows:=Vb mM;have AE:=hr r' l6;have AB:=g.sh r' l6;have q2:∀ hh,yb hh (.f (za true r'))=some (r'.map (MV.f∘FV.int)):=λhh=>by simp[za]
  have si:∀ hh,zc hh (.f (za true r'))=[]:=λhh=>rfl;have dl:done.length=i:=by rw[hx];simp;lia
  generalize AM:h++.lst (done.map (MV.f∘za false))::t=g0;simp[Zi,q2,si,YA];refine ym (Q:=λr=>Nx r _) (e:=λp:Int×Nat=>MV.f (.tup [.int p.2,.int p.1])) r'.zipIdx (λj σ hh=>∃(line:List Int)(z9 gU kB:Option MV),line=(r'.zipIdx.take j).map (λp=>Ys inks c p.1 (th ((i:Int)+top) ((p.2:Int)+left)))/\hh=g0++[.lst (line.map (MV.f∘FV.int))]/\σ=[some (.f pv),some (.f tv),some (.f (za false inks)),some (I top),some (I left),some (.ref h.length),some (I i),some (.f (za true r')),some (.ref g0.length),z9,gU,kB]) ?_ ?_ ?_
  ·exact⟨[],_,_,_,rfl,by simp,rfl⟩
  ·rintro j ⟨s,j'⟩ σ hh hj ⟨line,z9,gU,kB,kE,rfl,rfl⟩ Q hQ;have GP:=hj;rw[wf] at hj;obtain⟨s',hs',e⟩:=Wb.mp hj;simp only[Kt.injEq,Xi] at e;obtain⟨rfl,rfl⟩:=e;have Nc:=(Wa.mp hs').1;have ll:line.length=j:=by rw[kE];simp;lia
   have hs:=AB s' (Vb hs');have G7:=Yh g0 [] (line.map (MV.f∘FV.int));have F3:line.length<aK:=by rw[Qa];lia
   have tb:=Tb ((i:Int)+top) ((j:Int)+left);have t1:=Th (g0++[.lst (line.map (MV.f∘FV.int))]) ((i:Int)+top) ((j:Int)+left);have d1:=Do (g0++[.lst (line.map (MV.f∘FV.int))]) s' (th ((i:Int)+top) ((j:Int)+left)) hs.1 hs.2 tb.1 tb.2;have s1:=Zj g0 [] (line.map (MV.f∘FV.int)) (line.map (MV.f∘FV.int)++[I (Ys inks c s' (th ((i:Int)+top) ((j:Int)+left)))]);simp[Zi,t1,f3,d1,G7,F3,s1];refine hQ _ _ ⟨line++[Ys inks c s' (th ((i:Int)+top) ((j:Int)+left))],_,_,_,?_,by simp,rfl⟩;rw[Ui,GP,xk,vf,kE];rfl
  ·rintro σ hh ⟨line,z9,gU,kB,kE,rfl,rfl⟩;have el:line=Yp inks c th ((i:Int)+top) left r':=by rw[kE];simp only[xq];rw[Xh (by simp)];rfl
   obtain⟨t',F⟩:=yB g0 [] (line.map FV.int);rw[Xd] at F;have G3:∀ t':MH,Zd (g0++t') h.length=some (done.map (MV.f∘za false)):=λt'=>by
    rw[<- AM,vk,xp];exact Yh h (t++t') _
   have s2:∀ ys,Qb (g0++t') h.length ys=h++.lst ys::(t++t'):=λys=>by
    rw[<- AM,vk,xp];exact Zj h (t++t') _ ys
   have F0:done.length<aK:=by rw[Qa];lia
   have er:MV.f (.lst (line.map FV.int))=.f (za false line):=rfl;simp[F,er,G3,F0,s2];refine hQ _ _ ⟨done++[line],t++t',_,_,_,_,_,_,?_,by simp,rfl⟩;rw[Ui,l7,xk,vf,hx,el];rfl
 ·rintro σ hh ⟨done,t,z6,z7,z8,z9,gU,kB,hx,rfl,rfl⟩;have ed:done=Yk inks c th top left rows:=by rw[hx];simp only[xq];rw[Xh (by simp)];rfl
  obtain⟨t',F⟩:=yB h t (done.map (za false));rw[Xd] at F;have er:MV.f (.lst (done.map (za false)))=.f (Za false false done):=rfl;have M:=Yl n (h++t') most false false done (by rw[ed];exact ybV K c th top left rows g);simp[f2,F,er,M];exact hQ _ _ ⟨by rw[ed],rfl⟩
end
end MP
end
section
namespace MP
open PySem
section
variable (n:Nat) (h:MH)
theorem Qce(most:Int)(inks:List Int)(K:eU most inks)(s t c:Int)(h0:0<=s)(hm:s<=most)(hM:most<=100000000000000000000000000)(ht:0<=t)(htM:t<=100000000000000000000000000)(hc:0<=c)(AU:c<=100000000000000000000000000) :
  run prog (n+1) "_law_rule" [I s,I t,I c,.f (za false inks)] h=.ok (I (Ys inks c s t)) h:=by
 have q:∀ r hh,yb hh (.f (za false r))=some (r.map (MV.f∘FV.int)):=λr hh=>by simp[za]
 have gq:∀ r,zc h (.f (za false r))=[]:=λr=>by simp[za]
 have pl:=K.fX h0;have ll:=K.eE h0;have lw:=K.gV _ (Qn ll);have le:=yA inks s;obtain⟨F1,F2⟩:=Y0 s inks K.up;have ea:∀ xs:List Int,MV.f (.lst (xs.map FV.int))=.f (za false xs):=λxs=>rfl;have l1:(inks.take (place inks s)).length=place inks s:=by rw[Vh];lia
 have a1:cb ((inks.take (place inks s)).map (MV.f∘FV.int)) (-1)=some (I (inks.getD (place inks s-1) 0)):=by
  unfold cb lg;rw[if_neg (by decide),if_pos (by rw[xc,l1];lia)];simp only[xh,xc,Ua,l1];rw[show((-1:Int)+(place inks s:Int)).toNat=place inks s-1 by lia,ue (by lia),wb ll];simp[ve,ll]
 have a2:place inks s<inks.length->cb ((inks.drop (place inks s)).map (MV.f∘FV.int)) 0=some (I (inks.getD (place inks s) 0)):=λir=>by
  have:=qj ((inks.drop (place inks s)).map (MV.f∘FV.int)) 0;change cb _ (0:Int)=_ at this;rw[this,Ua,Wj,UD,wb ir];simp[ve,ir]
 have up:place inks s<inks.length->0<=inks.getD (place inks s) 0/\inks.getD (place inks s) 0<=most:=λir=>K.gV _ (Qn ir);have hn:(inks.drop (place inks s)=[])↔place inks s=inks.length:=by rw[List.drop_eq_nil_iff];lia
 have ce:zA .eq (.f (za false (inks.drop (place inks s)))) (.f (.lst [])) h=some (decide (inks.drop (place inks s)=[])):=by
  have:=qcj false (inks.drop (place inks s)) [];simp only[zA,ZcH,xh];exact this
 unfold Ys;generalize inks.getD (place inks s-1) 0=lo at *;generalize inks.getD (place inks s) 0=hi at *;rw[yaF];simp only[df];simp[q,gq,MP.stM];rw[Zv (e:=MV.f∘FV.int) (g:=MV.f∘FV.int) (t:=λk=>decide (k<=s)) inks [] none (by have:=K.sz;simp[Qa];lia) (λk _ z=>⟨some (I k),by by_cases ck:k<=s <;> simp[zh,ck]⟩)];simp only[Wd,F1,R.aw,zj,ea];generalize hb:inks.take (place inks s)=bl at *;simp[q,gq,MP.stM];rw[Zv (e:=MV.f∘FV.int) (g:=MV.f∘FV.int) (t:=λk=>decide (s<k)) inks [] none (by have:=K.sz;simp[Qa];lia) (λk _ z=>⟨some (I k),by by_cases ck:s<k <;> simp[zh,ck]⟩)];simp only[Wd,F2,R.aw,zj,ea];generalize hb2:inks.drop (place inks s)=ab at *;generalize place inks s=pn at *;by_cases c1:pn=inks.length
 ·have NN:=hn.mpr c1;simp only[NN,decide_true] at ce;subst c1;rw[NN] at *;simp[ce,q,a1]
 ·have Df:¬ ab=[]:=λe=>c1 (hn.mp e);simp only[Df,decide_false] at ce;have ir:pn<inks.length:=by lia
  have a2:=a2 ir;have up:=up ir;have m1:∀ hh,ye true .mul (I (s-lo)) (I c) hh=.ok (I ((s-lo)*c)) hh:=λhh=>Qo _ _ _ (Q7 (by lia) (by lia));have m2:∀ hh,ye true .mul (I t) (I (hi-lo)) hh=.ok (I (t*(hi-lo))) hh:=λhh=>Qo _ _ _ (Q7 (by lia) (by lia));rw[if_neg c1];by_cases c2:t*(hi-lo)<=(s-lo)*c
  ·simp[ce,q,a1,a2,m1,m2,c2]
  ·simp[ce,q,a1,a2,m1,m2,c2]
theorem Yb5(most c top left:Int)(rows ak:List (List Int))(inks:List Int)(H W:Nat)(K:eU most inks)(g:dz 0 most rows)(hM:most<=100000000000000000000000000)(hH:1<=H)(hW:1<=W)(hl:ak.length=H)
  (hw:∀ r∈ak,r.length=W/\∀ v∈r,1<=v/\v<=c) (AU:c<=100000000000000000000000000) (hr:∀ r∈rows,r.length<=1000) :
  run prog (n+2) "_law_dots" [.f (Za false false rows),I c,.f (Za false false ak),.f (za false inks),I top,I left] h=.ok (.f (Za false false (Yk inks c (qk ak H W) top left rows))) h:=by
 refine dq.eq λQ hQ=>?_;have hz:=g.sz;have q:∀ rs hh,yb hh (.f (Za false false rs))=some (rs.map (MV.f∘za false)):=λrs hh=>by simp[Za]
 have qr:∀ r hh,yb hh (.f (za false r))=some (r.map (MV.f∘FV.int)):=λr hh=>by simp[za]
 have Tb:=λa b=>Jw ak H W c hH hW hl hw a b;have Do:=λhh s t (h0:0<=s) (hm:s<=most) (ht:1<=t) (htc:t<=c) (c1:0<=c)=>Qce n hh most inks K s t c h0 hm hM (by lia) (by lia) c1 AU;have bm:∀(x:Int) hh,ye true .mod (I x) (I ak.length) hh=.ok (I (x%H)) hh:=λx hh=>by rw[hl];exact Qi _ _ _ (by lia)
 rw[QaE];simp only[dm];simp[q,yi _ (rows.length:Int) (by lia)];refine Qk (Q:=λr=>dq (Zb _ r) _) rows.length (λi σ hh=>∃(done:List (List Int)) (t:MH) (z7 z8 z9 gU:Option MV),done=(rows.zipIdx.take i).map (λp=>Yp inks c (qk ak H W) ((p.2:Int)+top) left p.1)/\hh=h++.lst (done.map (MV.f∘za false))::t/\σ=[some (.f (Za false false rows)),some (I c),some (.f (Za false false ak)),some (.f (za false inks)),some (I top),some (I left),some (.ref h.length),z7,z8,z9,gU]) ?_ ?_ ?_
 ·exact⟨[],[],none,none,none,none,rfl,by simp,rfl⟩
 ·rintro i σ hh hi ⟨done,t,z7,z8,z9,gU,hx,rfl,rfl⟩ Q hQ;obtain⟨r,er⟩:∃ r,rows[i]?=some r:=⟨rows[i],by simp[hi]⟩;have l6:=Vb er;have AE:=hr r l6;have AB:=g.sh r l6;have l7:rows.zipIdx[i]?=some (r,i):=by rw[wf,er];simp
  have dl:done.length=i:=by rw[hx];simp;lia
  have ma:=mod_lt ((i:Int)+top) H (by lia);have hti:(((i:Int)+top)%H).toNat<ak.length:=by lia
  obtain⟨tr,pX⟩:∃ tr,ak[(((i:Int)+top)%H).toNat]?=some tr:=⟨ak[(((i:Int)+top)%H).toNat],by simp[hti]⟩;have htw:=(hw tr (Vb pX)).1;have tL:cb (ak.map (MV.f∘za false)) (((i:Int)+top)%H)=some (.f (za false tr)):=by rw[qI _ _ ma.1,Ua,pX];rfl
  have ai:cb (rows.map (MV.f∘za false)) (i:Int)=some (.f (za false r)):=by rw[qj,Ua,er];rfl
  have bm2:∀(x:Int) hh,ye true .mod (I x) (I tr.length) hh=.ok (I (x%W)) hh:=λx hh=>by rw[htw];exact Qi _ _ _ (by lia)
  have thE:∀ b:Int,qk ak H W ((i:Int)+top) b=tr.getD (b%W).toNat 0:=λb=>by unfold qk;simp[ve,pX]
  generalize AM:h++.lst (done.map (MV.f∘za false))::t=g0;simp[Zi,q,qr,bm,tL,ai,yi _ (r.length:Int) (by lia)];refine Qk (Q:=λr=>Nx r _) r.length (λj σ hh=>∃(line:List Int)(gU:Option MV),line=(r.zipIdx.take j).map (λp=>Ys inks c p.1 (qk ak H W ((i:Int)+top) ((p.2:Int)+left)))/\hh=g0++[.lst (line.map (MV.f∘FV.int))]/\σ=[some (.f (Za false false rows)),some (I c),some (.f (Za false false ak)),some (.f (za false inks)),some (I top),some (I left),some (.ref h.length),some (I i),some (.f (za false tr)),some (.ref g0.length),gU]) ?_ ?_ ?_
  ·exact⟨[],_,rfl,by simp,rfl⟩
  ·rintro j σ hh hj ⟨line,gU,kE,rfl,rfl⟩ Q hQ;obtain⟨s,es⟩:∃ s,r[j]?=some s:=⟨r[j],by simp[hj]⟩;have GP:r.zipIdx[j]?=some (s,j):=by rw[wf,es];simp
   have ll:line.length=j:=by rw[kE];simp;lia
   have hs:=AB s (Vb es);have aj:cb (r.map (MV.f∘FV.int)) (j:Int)=some (I s):=by rw[qj,Ua,es];rfl
   have mb:=mod_lt ((j:Int)+left) W (by lia);have MZ:(((j:Int)+left)%W).toNat<tr.length:=by lia
   have tj:cb (tr.map (MV.f∘FV.int)) (((j:Int)+left)%W)=some (I (qk ak H W ((i:Int)+top) ((j:Int)+left))):=by
    rw[qI _ _ mb.1,Ua,wb MZ,thE];simp[ve,MZ]
   have G7:=Yh g0 [] (line.map (MV.f∘FV.int));have F3:line.length<aK:=by rw[Qa];lia
   have tb:=Tb ((i:Int)+top) ((j:Int)+left);have d1:=Do (g0++[.lst (line.map (MV.f∘FV.int))]) s (qk ak H W ((i:Int)+top) ((j:Int)+left)) hs.1 hs.2 tb.1 tb.2 (by lia);have s1:=Zj g0 [] (line.map (MV.f∘FV.int)) (line.map (MV.f∘FV.int)++[I (Ys inks c s (qk ak H W ((i:Int)+top) ((j:Int)+left)))]);simp[Zi,q,qr,ai,aj,bm2,tj,d1,G7,F3,s1];refine hQ _ _ ⟨line++[Ys inks c s (qk ak H W ((i:Int)+top) ((j:Int)+left))],_,?_,by simp,rfl⟩;rw[Ui,GP,xk,vf,kE];rfl
  ·rintro σ hh ⟨line,gU,kE,rfl,rfl⟩;have el:line=Yp inks c (qk ak H W) ((i:Int)+top) left r:=by rw[kE,Xh (by simp)];rfl
   obtain⟨t',F⟩:=yB g0 [] (line.map FV.int);rw[Xd] at F;have G3:∀ t':MH,Zd (g0++t') h.length=some (done.map (MV.f∘za false)):=λt'=>by
    rw[<- AM,vk,xp];exact Yh h (t++t') _
   have s2:∀ ys,Qb (g0++t') h.length ys=h++.lst ys::(t++t'):=λys=>by
    rw[<- AM,vk,xp];exact Zj h (t++t') _ ys
   have F0:done.length<aK:=by rw[Qa];lia
   have o7:MV.f (.lst (line.map FV.int))=.f (za false line):=rfl;simp[F,o7,G3,F0,s2];refine hQ _ _ ⟨done++[line],t++t',_,_,_,_,?_,by simp,rfl⟩;rw[Ui,l7,xk,vf,hx,el];rfl
 ·rintro σ hh ⟨done,t,z7,z8,z9,gU,hx,rfl,rfl⟩;have ed:done=Yk inks c (qk ak H W) top left rows:=by rw[hx,Xh (by simp)];rfl
  obtain⟨t',F⟩:=yB h t (done.map (za false));rw[Xd] at F;have er:FV.lst (done.map (za false))=Za false false done:=rfl;simp[F,er];exact hQ _ _ ⟨by rw[ed],rfl⟩
end
section
variable (n:Nat) (h:MH)
theorem za0(c:Int)(rows:List (List Int))(iO:Int)(hr:rows.length<=1000)(hw:∀ r∈rows,r.length<=1000) :
  run prog (n+1) "level_of" [.f (qh c rows),I iO] h=.ok (.ref h.length) (h++[.lst ((mZ iO rows).map (MV.f∘qe))]):=by
 refine dq.eq λQ hQ=>?_;have q:∀ hh,yb hh (.f (Za true true rows))=some (rows.map (MV.f∘za true)):=λhh=>by simp[Za]
 have gq:∀ hh,zc hh (.f (Za true true rows))=[]:=λhh=>rfl;have f1:∀ hh,QA prog.fG "rows" (.f (qh c rows)) hh=some (.f (Za true true rows)):=λhh=>by simp[qh]
 rw[qaW];simp only[dI];simp[f1,q,gq,YA];refine ym (Q:=λr=>dq (Zb _ r) _) (e:=λp:List Int×Nat=>MV.f (.tup [.int p.2,za true p.1])) rows.zipIdx (λi σ hh=>∃(xs:List (Nat×Nat)) (z3 z4:Option MV),xs=(rows.zipIdx.take i).flatMap (λp=>yn iO p.2 p.1)/\xs.length<=i*1000/\hh=h++[.lst (xs.map (MV.f∘qe))]/\σ=[some (.f (qh c rows)),some (I iO),some (.ref h.length),z3,z4]) ?_ ?_ ?_
 ·exact⟨[],none,none,rfl,by simp,by simp,rfl⟩
 ·rintro i ⟨r,i'⟩ σ hh hi ⟨xs,z3,z4,hx,kE,rfl,rfl⟩ Q hQ;have l7:=hi;rw[wf] at hi;obtain⟨r',mM,e⟩:=Wb.mp hi;simp only[Kt.injEq,Xi] at e;obtain⟨rfl,rfl⟩:=e;have oU:=(Wa.mp mM).1;have l6:r'∈rows:=Vb mM;have AE:=hw r' l6;have q2:∀ hh,yb hh (.f (za true r'))=some (r'.map (MV.f∘FV.int)):=λhh=>by simp[za]
  have si:∀ hh,zc hh (.f (za true r'))=[]:=λhh=>rfl;have cl:=Yh h [] (xs.map (MV.f∘qe));simp[Zi,q2,si,YA,MP.stM,cl];rw[OZ (e:=λp:Int×Nat=>MV.f (.tup [.int p.2,.int p.1])) (g:=λp:Int×Nat=>MV.f (.tup [.int i,.int p.2])) (t:=λp=>decide (p.1<=iO)) r'.zipIdx [] none none (by simp[Qa];lia) (λp _ z w=>⟨some (I p.2),some (I p.1),by by_cases cx:p.1<=iO <;> simp[zh,cx]⟩)];have zl:=K9 iO i r';have el:(r'.zipIdx.filter λp=>decide (p.1<=iO)).map (λp:Int×Nat=>MV.f (.tup [.int i,.int p.2]))=(yn iO i r').map (MV.f∘qe):=by simp[yn,we]
  rw[Wd,el];have hs:xs.length+(yn iO i r').length<=aK:=by rw[Qa];lia
  have cs:=Zj h [] (xs.map (MV.f∘qe)) ((xs++yn iO i r').map (MV.f∘qe));rw[vf] at cs;simp[cl,hs,cs];refine hQ _ _ ⟨xs++yn iO i r',_,_,?_,?_,by simp,rfl⟩
  ·rw[Ui,l7,xk,wt,hx];simp
  ·simp;lia
 ·rintro σ hh ⟨xs,z3,z4,hx,kE,rfl,rfl⟩;simp only[wm] at hx;have cl:=Yh h [] (xs.map (MV.f∘qe));have tr:=cT.app h [.lst (xs.map (MV.f∘qe))];simp[yp,cl,tr];exact hQ _ _ ⟨rfl,by rw[hx];rfl⟩
end
end MP
end
section
namespace MP
open PySem
structure gH (c:Int) (ak:List (List Int)) (TH TW:Nat):Prop where
 h1:1<=TH
 w1:1<=TW
 h2:TH<=5
 w2:TW<=5
 c1:1<=c
 c2:c<=20
 len:ak.length=TH
 row:∀ r∈ak,r.length=TW/\∀ v∈r,1<=v/\v<=c
 iO:∀ l:Int,0<=l->l<=c->((mZ l ak).length:Int)=l
theorem gH.good{c:Int}{ak:List (List Int)}{TH TW:Nat}(t:gH c ak TH TW):dz 1 c ak :=
 ⟨t.c1,λe=>by have:=t.len;have:=t.h1;simp[e] at *;lia,⟨TW,by have:=t.w1;lia,λr hr=>(t.row r hr).1⟩,λr hr=>(t.row r hr).2,by have:=t.len;have:=t.h2;lia⟩
theorem Zca{inks:List Int}{c:Int}{th:Int->Int->Int}{top left:Int}{rows:List (List Int)}(h:∀ r∈rows,∀ v∈r,∀ t,Ys inks c v t=v):Yk inks c th top left rows=rows:=by
 have row:∀ r∈rows,∀ a,Yp inks c th a left r=r:=λr hr a=>by
  unfold Yp;rw[Vs (g:=λp:Int×Nat=>p.1) (λp hp=>h r hr _ (Xr hp) _)];exact vC 0 r
 unfold Yk;rw[Vs (g:=λp:List Int×Nat=>p.1) (λp hp=>row _ (Xr hp) _)];exact vC 0 rows
namespace eU
variable {most:Int} {inks:List Int} (K:eU most inks)
include K
theorem oI{s:Int}(h:0<=s):oo (inks.filter λk=>decide (k<=s))=inks.getD (place inks s-1) 0:=by
 apply D4
 ·intro v hv;obtain⟨hm,hs⟩:=xm.mp hv;obtain⟨i,hi,rfl⟩:=yV hm;have:=(yt s inks K.up i hi).mp (by simpa using hs);exact pD K.up (by lia) (K.eE h)
 ·exact xm.mpr ⟨Qn (K.eE h),by simpa using K.j6 h⟩
theorem oH{s:Int}(h:place inks s<inks.length):sP (inks.filter λk=>decide (s<k))=inks.getD (place inks s) 0:=by
 have hm:inks.getD (place inks s) 0∈inks.filter λk=>decide (s<k):=xm.mpr ⟨Qn h,by simpa using K.lB h⟩;have a:=JS hm;obtain⟨h1,h2⟩:=xm.mp (D7 (xu hm));obtain⟨i,hi,e⟩:=yV h1;rw[<- e] at h2 a ⊢;have:¬ i<place inks s:=λx=>by
  have:=(yt s inks K.up i hi).mpr x;have:s<inks.getD i 0:=by simpa using h2
  lia
 have:=pD K.up (show place inks s<=i by lia) hi
 lia
end eU
section
variable (n:Nat) (h:MH)
theorem qci(s:Int)(W:Nat)(hW:W<=10000):ye true .mul (.f (za false [s])) (I W) h=.ok (.f (za false (xa W s))) h:=by
 have e:(xa W [MV.f (.int s)]).flatten=((xa W s).map FV.int).map MV.f:=by
  rw[Xp];simp
 have c:-(2^63)<=(W:Int)/\(W:Int)<2^63/\[MV.f (.int s)].length*(W:Int).toNat<=aK:=by simp[Qa];lia
 unfold ye;simp only[za,sq,Wg,if_false,Zc,listOf,Ub,Uj,Qd];rw[if_pos c,Wh,e,qb]
end
end MP
end
section
namespace MP
open PySem
section
variable (n:Nat) (h:MH)
theorem zcx{inks:List Int}{c s:Int}{ak:List (List Int)}{TH TW:Nat}(t:gH c ak TH TW){i:Nat}(hi:i<TH){tr:List Int}(et:ak[i]?=some tr) :
  ∃ fr:List Int,(Yk inks c (qk ak TH TW) 0 0 (xa TH (xa TW s)))[i]?=some fr/\fr.length=TW/\∀ j,j<TW->fr.getD j 0=Ys inks c s (tr.getD j 0):=by
 have e:(xa TH (xa TW s))[i]?=some (xa TW s):=by simp[hi]
 refine⟨_,DZ e,by rw[Zu];simp,λj hj=>?_⟩;rw[zF (by simpa using hj)];have e1:(xa TW s).getD j 0=s:=by simp[ve,hj]
 have e2:qk ak TH TW ((i:Int)+0) ((j:Int)+0)=tr.getD j 0:=by
  unfold qk;rw[uD,uD,XF (by lia) (by lia),XF (by lia) (by lia)];simp[ve,et]
 rw[e1,e2]
theorem Bz:(1000000000000000000000000000:Nat)<big:=by decide +kernel
theorem NZ(ns:List Int)(k most c:Int)(ak:List (List Int))(inks:List Int)(TH TW:Nat)(t:gH c ak TH TW)(K:eU most inks)(jP:ns.length<=63)(hk:0<=k)(oS:k+3<1000000)(hm:1<=most)(hM:most<=10000000000000000000000000) :
  run prog (n+4) "_law_flat" [.f (.eC ns),.ref 0,.f (qh c ak),.f (za false inks),I most] (atC k::h)=.ok (B true) (atC (k+3)::h):=by
 obtain⟨s,s0,s1,G⟩:=yQ (n+1) h ns k (most+1) jP hk oS (by lia);have hs:s<=most:=by lia
 obtain⟨h1,w1,h2,w2,c1,c2,tl,tw,iO⟩:=id t;have dF:Drawn most (xa TH (xa TW s)) TH TW:=⟨by simp,λr hr=>by rw[Vm hr];simp,λr hr v hv=>by
  rw[Vm hr] at hv;rw[Vm hv];lia⟩
 have gF:=dF.iH hm (by lia) (by lia) (by lia);have Mf:=Yl (n+1) (atC (k+3)::h) most false false _ gF;have Sf:=Qx n (atC (k+3)::h) most c 0 0 _ ak inks TH TW K gF (by lia) h1 w1 tl tw (by lia) (λr hr=>by rw[dF.gN r hr];lia);have q:∀ rs hh,yb hh (.f (Za true true rs))=some (rs.map (MV.f∘za true)):=λrs hh=>by simp[Za]
 have gq:∀ rs hh,zc hh (.f (Za true true rs))=[]:=λrs hh=>rfl;have qi:∀ hh r b,yb hh (.f (za b r))=some (r.map (MV.f∘FV.int)):=λhh r b=>by simp[za]
 have gi:∀ hh r,zc hh (.f (za false r))=[]:=λhh r=>rfl;have f1:∀ hh,QA prog.fG "rows" (.f (qh c ak)) hh=some (.f (Za true true ak)):=λhh=>by simp[qh]
 have f3:∀ hh,QA prog.fG "count" (.f (qh c ak)) hh=some (I c):=λhh=>by simp[qh]
 have fp:∀ rs hh,QA prog.fG "rows" (.f (Qe most rs)) hh=some (.f (Za true true rs)):=λrs hh=>by simp[Qe]
 obtain⟨t0,ts,et⟩:∃ t0 ts,ak=t0::ts:=by cases ak with|nil=>simp at tl;lia|cons a l=>exact⟨a,l,rfl⟩
 have a0:cb (ak.map (MV.f∘za true)) 0=some (.f (za true t0)):=by rw[et];simp
 have t0w:t0.length=TW:=(tw t0 (by rw[et];simp)).1;have rp:=λhh=>qci hh s TW (by lia);have l1:∀ a:Int,FV.lst [FV.int a]=za false [a]:=λa=>rfl;have n1:(inks.filter λk=>decide (k<=s))≠[]:=xu (xm.mpr ⟨K.z,by simpa using s0⟩);have m1:=qL true (atC (k+3)::h) (.f (za false (inks.filter λk=>decide (k<=s)))) _ (by rw[qi,xh,Zs]) n1;rw[K.oI s0] at m1;have ea:∀ xs:List Int,MV.f (.lst (xs.map FV.int))=.f (za false xs):=λxs=>rfl;have zi:=K.sz;have efl:ak.map (λ_=>MV.f (za false (xa TW s)))=((xa TH (xa TW s)).map (za false)).map MV.f:=by
  rw[Xd,Vx,List.map_const',tl];rfl
 have er:∀ rs:List (List Int),MV.f (.lst (rs.map (za false)))=.f (Za false false rs):=λrs=>rfl;have ll:=K.eE s0;have lw:=K.gV _ (Qn ll);have lle:=K.j6 s0;have ple:=yA inks s;rw[yaE];simp only[dk];simp[G,f1,q,gq,MP.stM];rw[Ye (e:=MV.f∘za true) (g:=λ_=>MV.f (za false (xa TW s))) ak [] none (by simp[Qa];lia) (λy _ z=>⟨some (.f (za true y)),by simp[zh,yo,l1,f1,q,a0,qi,t0w,rp]⟩)];simp only[Wd,R.aw,efl,qb,er];by_cases cp:place inks s=inks.length
 ·have NF:inks.getD (place inks s-1) 0=most:=by rw[cp];exact K.last
  have es:s=most:=by lia
  have fs:Yk inks c (qk ak TH TW) 0 0 (xa TH (xa TW s))=xa TH (xa TW s):=Zca λr hr v hv t=>by
   rw[Vm hr] at hv;rw[Vm hv];unfold Ys;rw[if_pos cp,NF,es]
  rw[fs] at Sf;rw[NF] at m1;have ll:(xa TH (xa TW s)).length=TH:=by simp
  have eq1:=OI false false (xa TH (xa TW s)) (xa TH (xa TW s));rw[decide_eq_true rfl] at eq1;generalize xa TH (xa TW s)=fl at *;generalize hfv:Za false false fl=fv at *;simp[Mf,Sf,qi,gi,MP.stM];rw[Zv (e:=MV.f∘FV.int) (g:=MV.f∘FV.int) (t:=λk=>decide (k<=s)) inks [] none (by simp[Qa];lia) (λk _ z=>⟨some (I k),by by_cases ck:k<=s <;> simp[zh,ck]⟩)];simp only[Wd,R.aw,zj,ea,m1];simp[fp,q,gq,MP.stM];rw[Ye (e:=MV.f∘za true) (g:=MV.f∘za false) fl [] none (by simp[Qa];lia) (λy _ z=>⟨some (.f (za true y)),by simp[zh,qi,ea]⟩)];simp only[Wd,R.aw,zj,er,hfv];simp[eq1]
 ·have ir:place inks s<inks.length:=by lia
  have m2:=Ed true (atC (k+3)::h) (.f (za false (inks.filter λk=>decide (s<k)))) _ (by rw[qi,xh,Zs]) (xu (xm.mpr ⟨Qn ir,by simpa using K.lB ir⟩));rw[K.oH ir] at m2;have ug:=K.lB ir;have ui:=(K.gV _ (Qn ir)).2;have dot:∀ t,Ys inks c s t=if t*(inks.getD (place inks s) 0-inks.getD (place inks s-1) 0)<=(s-inks.getD (place inks s-1) 0)*c then inks.getD (place inks s) 0 else inks.getD (place inks s-1) 0:=λt=>by
   unfold Ys;rw[if_neg cp]
  have FA:=λi (hi:i<TH) tr (e:ak[i]?=some tr)=>zcx (inks:=inks) (s:=s) t hi e;have dS:=Q0 inks c (qk ak TH TW) 0 0 (xa TH (xa TW s));generalize Yk inks c (qk ak TH TW) 0 0 (xa TH (xa TW s))=S at *;generalize xa TH (xa TW s)=fl at *;generalize inks.getD (place inks s) 0=up at *;generalize inks.getD (place inks s-1) 0=lo at *;have mu:∀ hh,ye true .mul (I (s-lo)) (I c) hh=.ok (I ((s-lo)*c)) hh:=λhh=>Qo _ _ _ (Q7 (by lia) (by lia));have dv:∀ x hh,ye true .fdiv (I x) (I (up-lo)) hh=.ok (I (x/(up-lo))) hh:=λx hh=>Zl _ _ _ ⟨by lia,.inr (by have:=Bz;lia)⟩;have pos:0<up-lo:=by lia
  have lv0:0<=(s-lo)*c/(up-lo):=UA (Int.mul_nonneg (by lia) (by lia)) (by lia);have lv1:(s-lo)*c/(up-lo)<=c:=Int.ediv_le_of_le_mul pos (by rw[Int.mul_comm c];exact wx (by lia) (by lia));have HF:∀ t,(Ys inks c s t=up)↔t<=(s-lo)*c/(up-lo):=λt=>by
   rw[dot,Int.le_ediv_iff_mul_le pos];by_cases x:t*(up-lo)<=(s-lo)*c
   ·simp[x]
   ·simp[x];lia
  have nlm:¬ lo=most:=by lia
  generalize M9:(s-lo)*c/(up-lo)=lv at *;have Lv:=za0 (n+2) (atC (k+3)::h) c ak lv (by lia) (λr hr=>by rw[(tw r hr).1];lia);have ln:=iO lv lv0 lv1;obtain⟨t',F⟩:=yB (atC (k+3)::h) [] ((mZ lv ak).map qe);rw[Xd] at F;have eqc:jY (.lst ((mZ lv ak).map qe)) (.lst ((mZ lv ak).map qe))=some true:=by
   have:=ybI ((mZ lv ak).map λp=>((p.1:Int),(p.2:Int))) ((mZ lv ak).map λp=>((p.1:Int),(p.2:Int)));rw[decide_eq_true rfl,Xd] at this;exact this
  simp[Mf,Sf,qi,gi,MP.stM];rw[Zv (e:=MV.f∘FV.int) (g:=MV.f∘FV.int) (t:=λk=>decide (k<=s)) inks [] none (by simp[Qa];lia) (λk _ z=>⟨some (I k),by by_cases ck:k<=s <;> simp[zh,ck]⟩)];simp only[Wd,R.aw,zj,ea,m1];simp[nlm,qi,gi,MP.stM];rw[Zv (e:=MV.f∘FV.int) (g:=MV.f∘FV.int) (t:=λk=>decide (s<k)) inks [] none (by simp[Qa];lia) (λk _ z=>⟨some (I k),by by_cases ck:s<k <;> simp[zh,ck]⟩)];simp only[Wd,R.aw,zj,ea,m2];refine dq.eq λQ hQ=>?_;have pU:=hQ _ _ ⟨rfl,rfl⟩;simp[f3,mu,dv,M9,f1,q,tl,yi _ (TH:Int) (by lia)];refine Qk (Q:=λr=>dq (Zb _ r) _) TH (λi σ hh=>∃(lW:Option MV),hh=atC (k+3)::h/\σ=[some (.f (.eC ns)),some (.ref 0),some (.f (qh c ak)),some (.f (za false inks)),some (I most),some (I s),some (.f (Za false false fl)),some (.f (Qe most S)),some (I lo),some (I up),some (I lv),some (.f (.lst (((ak.zipIdx.take i).flatMap λp=>yn lv p.2 p.1).map qe))),lW]) ⟨none,rfl,by simp⟩ ?_ ?_
  ·rintro i σ hh hi ⟨lW,rfl,rfl⟩ Q hQ;obtain⟨tr,pX⟩:∃ tr,ak[i]?=some tr:=⟨ak[i]'(by lia),by simp[tl,hi]⟩;have Ly:=(tw tr (Vb pX)).1;obtain⟨fr,efr,frl,fra⟩:=FA i hi tr pX;have ai:cb (ak.map (MV.f∘za true)) (i:Int)=some (.f (za true tr)):=by rw[qj,Ua,pX];rfl
   have fi:cb (S.map (MV.f∘za true)) (i:Int)=some (.f (za true fr)):=by rw[qj,Ua,efr];rfl
   have l7:ak.zipIdx[i]?=some (tr,i):=by rw[wf,pX];simp
   have fl1:(va TW).filter (λj=>decide (fr.getD j 0=up))=(va tr.length).filter λj=>decide (tr.getD j 0<=lv):=by
    rw[Ly];apply List.filter_congr;intro j hj;rw[fra j (We.mp hj),decide_eq_decide];exact HF _
   have nx:((ak.zipIdx.take (i+1)).flatMap λp=>yn lv p.2 p.1).map qe=((ak.zipIdx.take i).flatMap λp=>yn lv p.2 p.1).map qe++((va TW).filter λj=>decide (fr.getD j 0=up)).map λj=>qe (i,j):=by
    rw[Ui,l7,xk,wt,vf,fl1,List.flatMap_singleton,YaV,Xd];rfl
   have lx:(((ak.zipIdx.take i).flatMap λp=>yn lv p.2 p.1).map qe).length<=i*5:=by
    have:∀ l:List (List Int×Nat),(∀ p∈l,p.1∈ak)->(l.flatMap λp=>yn lv p.2 p.1).length<=l.length*5:=λl=>by
     induction l with
     |nil=>simp
     |cons p l ih =>
      intro hp;have h1:=ih λp' r8=>hp p' (by simp[r8]);have h2:=K9 lv p.2 p.1;have h3:=(tw p.1 (hp p (by simp))).1;simp only[xF,xf,ud,Uh]
      lia
    have:=this (ak.zipIdx.take i) λp hp=>Xr (xo hp);rw[Vh,xq] at this;rw[xc];have:=Xo 5 (ut i ak.length)
    lia
   have pU:=hQ [some (.f (.eC ns)),some (.ref 0),some (.f (qh c ak)),some (.f (za false inks)),some (I most),some (I s),some (.f (Za false false fl)),some (.f (Qe most S)),some (I lo),some (I up),some (I lv),some (.f (.lst (((ak.zipIdx.take i).flatMap λp=>yn lv p.2 p.1).map qe++((va TW).filter λj=>decide (fr.getD j 0=up)).map λj=>qe (i,j)))),some (I i)] (atC (k+3)::h) ⟨_,rfl,by rw[nx]⟩;generalize ((ak.zipIdx.take i).flatMap λp=>yn lv p.2 p.1).map qe=X at *;have ct:=Ej X (((va TW).filter λj=>decide (fr.getD j 0=up)).map λj=>qe (i,j)) (atC (k+3)::h) (by
    have:=ww (λj=>decide (fr.getD j 0=up)) (va TW);rw[Wn] at this;rw[xc,Qa];lia)
   simp[Zi,f1,q,ai,qi,Ly,yi _ (TW:Int) (by lia),MP.stM];rw[Zv (e:=λk:Nat=>I k) (g:=λj=>MV.f (qe (i,j))) (t:=λj=>decide (fr.getD j 0=up)) (va TW) [] none (by simp[Qa];lia) (λj hj z=>⟨some (I j),by
    have Nf:j<fr.length:=by rw[frl];exact We.mp hj
    have aj:cb (fr.map (MV.f∘FV.int)) (j:Int)=some (I (fr.getD j 0)):=by rw[qj,Ua,wb Nf];simp[ve,Nf]
    generalize fr.getD j 0=w at *;by_cases cj:w=up <;> simp[zh,fp,q,fi,qi,aj,cj]⟩)]
   simp only[Wd,R.aw,ZaD,ct];simp;exact pU
  ·rintro σ hh ⟨lW,rfl,rfl⟩;have ex:((ak.zipIdx.take TH).flatMap λp=>yn lv p.2 p.1)=mZ lv ak:=by
    rw[Xh (by simp[tl])];rfl
   rw[ex];have sl:∀ hh,Qw true "len" [.f (.lst ((mZ lv ak).map qe))] hh=.ok (I lv) hh:=λhh=>by
    rw[JL];simp[ln]
   generalize FV.lst ((mZ lv ak).map qe)=X at *;simp at Lv F;simp[Lv,F,eqc,sl];exact pU
end
noncomputable def Zt(H W:Nat):List (Nat×Nat):=(va H).flatMap λr=>(va W).map λc=>(r,c)
theorem Ms(H W:Nat):(Zt H W).length=H*W:=by
 unfold Zt;rw[xx];simp only[xc,Wn]
 induction H with
 |zero=>simp
 |succ H ih=>rw[vm,vf,wq,ih,Uh];simp
noncomputable def nM(n a:Nat):Nat:=if n-a<a then n-a else a
noncomputable def YT(a b:Nat):Nat:=(a-b)+(b-a)
noncomputable def dN(H W:Nat)(p q:Nat×Nat):Nat:=nM H (YT p.1 q.1)*nM H (YT p.1 q.1)+nM W (YT p.2 q.2)*nM W (YT p.2 q.2)
theorem NT(a b:Nat):(if((a:Int)-b)<0 then -((a:Int)-b) else(a:Int)-b)=(YT a b:Nat):=by
 unfold YT;split <;> lia
theorem vR{H a b:Nat}(ha:a<H)(hb:b<H):(if(H:Int)-(YT a b:Nat)<(YT a b:Nat) then(H:Int)-(YT a b:Nat) else((YT a b:Nat):Int))=(nM H (YT a b):Nat):=by
 unfold nM YT;split <;> split <;> lia
noncomputable def mC:Nat->List Nat->Nat
 |m,[]=>m
 |m,x::r=>mC (if x>m then x else m) r
noncomputable def nU(k:Nat):List Nat->Option Nat
 |[]=>none
 |x::r=>if x=k then some 0 else(nU k r).map (· + 1)
theorem Ip:∀(r:List Nat)(m:Nat),mK (m:Int) (r.map λx:Nat=>(x:Int))=(mC m r:Nat)
 |[],m=>rfl
 |x::r,m=>by
  simp only[Ub,mK,mC];by_cases h:x>m
  ·rw[if_pos h,if_pos (by lia)];exact Ip r x
  ·rw[if_neg h,if_neg (by lia)];exact Ip r m
theorem L5(k:Nat):∀ r:List Nat,L3.j9 (k:Int) (r.map λx:Nat=>(x:Int))=nU k r
 |[]=>rfl
 |x::r=>by
  simp only[Ub,L3.j9,nU,L5 k r];by_cases h:x=k
  ·rw[if_pos h,if_pos (by lia)]
  ·rw[if_neg h,if_neg (by lia)]
theorem IM:∀(r:List Nat)(m:Nat),mC m r∈m::r
 |[],m=>by simp[mC]
 |x::r,m=>by
  unfold mC;by_cases h:x>m
  ·rw[if_pos h];exact Ue _ (IM r x)
  ·rw[if_neg h]
   rcases ua.mp (IM r m) with e|e
   ·rw[e];exact xi
   ·exact Ue _ (Ue _ e)
theorem PQ{k:Nat}:∀{r:List Nat},k∈r->∃ j,nU k r=some j/\j<r.length
 |[],h=>by simp at h
 |x::r,h=>by
  unfold nU;by_cases e:x=k
  ·exact⟨0,by rw[if_pos e],by simp⟩
  ·rcases ua.mp h with rfl|h
   ·exact absurd rfl e
   ·obtain⟨j,e1,e2⟩:=PQ h;exact⟨j+1,by rw[if_neg e,e1];rfl,by simpa using e2⟩
noncomputable def tM:List Nat->Nat
 |[]=>0
 |x::r=>(nU (mC x r) (x::r)).getD 0
theorem Lo(x:Nat)(r:List Nat):nU (mC x r) (x::r)=some (tM (x::r))/\tM (x::r)<(x::r).length:=by
 obtain⟨j,e1,e2⟩:=PQ (IM r x);show nU (mC x r) (x::r)=some ((nU (mC x r) (x::r)).getD 0)/\(nU (mC x r) (x::r)).getD 0<_;rw[e1];exact⟨rfl,e2⟩
noncomputable def DD(H W:Nat)(cells:List (Nat×Nat))(st:List Nat×List Nat)(k:Nat):List Nat×List Nat :=
 (st.1.set (tM st.2) k,WA (λa b=>if b<a then b else a) st.2 (cells.map λc=>dN H W c (cells.getD (tM st.2) (0,0))))
noncomputable def YW(H W:Nat)(cells:List (Nat×Nat)):Nat->List Nat×List Nat
 |0=>(xa cells.length 0,xa cells.length (H*H+W*W))
 |k+1=>DD H W cells (YW H W cells k) (k+1)
theorem Ih(H W:Nat)(cells:List (Nat×Nat)):∀ k,(YW H W cells k).1.length=cells.length/\(YW H W cells k).2.length=cells.length
 |0=>by simp[YW]
 |k+1=>by
  obtain⟨a,b⟩:=Ih H W cells k;simp[YW,DD,a,b]
noncomputable def JX(H W:Nat):List (List Nat):=(va H).map λi=>((YW H W (Zt H W) (H*W)).1.drop (i*W)).take W
end MP
end
section
namespace MP
open PySem
theorem Qbc(h:MH)(a:Nat)(xs:List FV):mq "extend" (.ref a) [.f (.lst xs)] h=opt (Zd h a) λys=>if ys.length+xs.length<=aK then .ok (.f .a9) (Qb h a (ys++xs.map .f)) else .stuck:=by
 have:mq "extend" (.ref a) [.f (.lst xs)] h=opt (Zd h a) λys=>opt (listOf h (.f (.lst xs))) λzs=>if ys.length+zs.length<=aK then .ok (.f .a9) (Qb h a (ys++zs)) else .stuck:=rfl;rw[this];cases Zd h a with
 |none=>rfl
 |some ys=>simp
theorem OM(n a:Nat):nM n a<=n:=by unfold nM;split <;> lia
theorem B3(x:Nat)(hx:x<=1000)(hh:MH):ye true .mul (I (x:Nat)) (I (x:Nat)) hh=.ok (I ((x:Int)*x)) hh:=Qo _ _ _ (by unfold ZA;lia)
section
variable (n:Nat) (h:MH)
theorem J9{H a b:Nat}(ha:a<H)(hb:b<H):run prog (n+1) "round_edge" [I (YT a b:Nat),I H] h=.ok (I (nM H (YT a b):Nat)) h:=by
 have e:=vR ha hb;rw[Zax];simp only[cJ];simp[Kx,e]
theorem ZaZ{H W:Nat}(p q:Nat×Nat)(p1:p.1<H)(p2:p.2<W)(q1:q.1<H)(q2:q.2<W)(hH:H<=1000)(hW:W<=1000):run prog (n+2) "distance" [.f (qe p),.f (qe q),I H,I W] h=.ok (I (dN H W p q:Nat)) h:=by
 have e1:=λhh=>J9 n hh p1 q1;have e2:=λhh=>J9 n hh p2 q2;have a1:=NT p.1 q.1;have a2:=NT p.2 q.2;have m1:=B3 (nM H (YT p.1 q.1)) (Xe (OM _ _) hH);have m2:=B3 (nM W (YT p.2 q.2)) (Xe (OM _ _) hW);rw[zaY];simp only[dM];simp[qe,KS,a1,a2,e1,e2,dN,m1,m2]
theorem ZbR(xs:List FV):yp h (.ref h.length) (h++[.lst (xs.map .f)])=.ok (.ref h.length) (h++[.lst (xs.map .f)]):=by
 have cl:=Yh h [] (xs.map MV.f);have tr:=cT.app h [.lst (xs.map MV.f)];have ef:=O0 xs;generalize xs.map MV.f=M at *;simp[yp,cl,tr,ef]
theorem Z4(H W:Nat)(Nu:H*W<=100000)(hW:W<=10000)(hH:H<=10000):run prog (n+1) "cells_by_rows" [I H,I W] h=.ok (.ref h.length) (h++[.lst (((Zt H W).map qe).map .f)]):=by
 refine dq.eq λQ hQ=>?_;rw[Q5];simp only[bI];simp[yi _ (H:Int) (by lia)];refine Qk (Q:=λr=>dq (Zb _ r) _) H (λi σ hh=>∃(z3:Option MV),hh=h++[.lst (((Zt i W).map qe).map .f)]/\σ=[some (I H),some (I W),some (.ref h.length),z3]) ⟨none,by simp[Zt],rfl⟩ ?_ ?_
 ·rintro i σ hh oU ⟨z3,rfl,rfl⟩ Q hQ;have nx:((Zt (i+1) W).map qe).map MV.f=((Zt i W).map qe).map MV.f++(((va W).map λc=>qe (i,c)).map MV.f):=by
   unfold Zt;rw[vm,wt,vf,vf];simp[we]
  simp only[nx] at hQ;have ml:(((Zt i W).map qe).map MV.f).length+((va W).map λc=>qe (i,c)).length<=aK:=by
   have:i*W<=H*W:=Xo _ (by lia);simp[Ms,Qa];lia
  generalize ((Zt i W).map qe).map MV.f=M at *;have cl:=Yh h [] M;have st:=λys=>Zj h [] M ys;simp[Zi,cl,yi _ (W:Int) (by lia),MP.stM];rw[Ye (e:=λk:Nat=>I k) (g:=λc=>MV.f (qe (i,c))) (va W) [] none (by simp[Qa];lia) (λc _ z=>⟨some (I c),by simp[zh]⟩)];have e2:(va W).map (λc=>MV.f (qe (i,c)))=((va W).map λc=>qe (i,c)).map MV.f:=by simp[we]
  simp only[Wd,R.aw,e2,qb];generalize (va W).map (λc=>qe (i,c))=L at *;simp[Qbc,cl,ml,st];exact hQ _ _ ⟨_,rfl,rfl⟩
 ·rintro σ hh ⟨z3,rfl,rfl⟩;have lv:=ZbR h ((Zt H W).map qe);generalize ((Zt H W).map qe).map MV.f=M at *;simp[lv];exact hQ _ _ ⟨rfl,rfl⟩
end
noncomputable def QL(l:List Nat):FV:=.lst (l.map λd:Nat=>.int d)
theorem Ig(l:List Nat)(hh:MH):yb hh (.f (QL l))=some (l.map λd:Nat=>I d):=by simp[QL]
theorem Eh(l:List Nat)(hh:MH):listOf hh (.f (QL l))=some (l.map λd:Nat=>I d):=by simp[QL]
theorem Ii:∀ l:List Nat,Yf (l.map λd:Nat=>I d)=some (l.map λd:Nat=>(d:Int))
 |[]=>rfl
 |x::r=>by simp only[Ub,Yf,Ii r,Xf]
theorem Ycg(x:Nat)(r:List Nat)(hh:MH):Qw true "max" [.f (QL (x::r))] hh=.ok (I (mC x r:Nat)) hh:=by
 rw[qL true hh _ ((x::r).map λd:Nat=>(d:Int)) (by rw[Ig,xh,Ii]) (by simp)];rw[<- Ip];rfl
theorem Qcc(x:Nat)(r:List Nat)(hh:MH):Yy .idx (.f (QL (x::r))) (I (mC x r:Nat)) hh=.ok (I (tM (x::r):Nat)) hh:=by
 show opt ((listOf hh _).bind Yf) _=_;rw[Eh,xh,Ii];show opt (L3.j9 _ _) _=_;rw[L5,(Lo x r).1];rfl
theorem Yb1(l:List Nat)(hh:MH):mI .idx (.f (QL l)) hh=some ⟨#[]⟩:=by rw[ycx,Eh];rfl
theorem qch(a b:Nat)(hh:MH):Qw true "min" [.f (.tup [.int a,.int b])] hh=.ok (I ((if b<a then b else a:Nat):Nat)) hh:=by
 rw[Ed true hh _ [(a:Int),(b:Int)] (by simp) (by simp)];show R.ok (I (if(b:Int)<a then b else a)) hh=_;by_cases c:b<a
 ·rw[if_pos c,if_pos (by lia)]
 ·rw[if_neg c,if_neg (by lia)]
theorem Zcf(l m:List Nat):((l.map λd:Nat=>I d).zip (m.map λd:Nat=>I d)).map (λp=>yk [p.1,p.2])=(l.zip m).map λp:Nat×Nat=>MV.f (.tup [.int p.1,.int p.2]):=by
 rw[List.zip_map,Xd];rfl
theorem ycp(l m:List Nat):(l.zip m).map (λp:Nat×Nat=>I ((if p.2<p.1 then p.2 else p.1:Nat):Nat))=(WA (λa b=>if b<a then b else a) l m).map λd:Nat=>I d:=by
 rw[List.zip_eq_zipWith,xG,xG]
theorem qb2{H W:Nat}{c:Nat×Nat}(h:c∈Zt H W):c.1<H/\c.2<W:=by
 unfold Zt at h;simp only[vn,We,Vf] at h;obtain⟨r,hr,k,hk,rfl⟩:=h;exact⟨hr,hk⟩
theorem yb7(g:MH)(xs:List FV)(t:MH):ZJ (.ref g.length) (g++.lst (xs.map .f)::t)=.ok (.f (.lst xs)) (g++.dead::t):=by
 rw[Ef _ _ xs (Yh g t (xs.map MV.f))]
 congr 1
 refine Vd λi=>?_;unfold kill;rw[vc];by_cases q:i=g.length
 ·subst q;simp
 ·by_cases q2:i<g.length
  ·simp[ub q2,q]
  ·have e:∀ c:Cell,(g++c::t)[i]?=t[i-g.length-1]?:=λc=>by
    rw[Vc (by lia),List.getElem?_cons,if_neg (by lia)]
   rw[e,e];cases t[i-g.length-1]? <;> simp[q]
noncomputable def kW(k W:Nat):Int:=((k*W:Nat):Int)
noncomputable def iF(H W:Nat):List (List Int):=(JX H W).map λr=>r.map λx:Nat=>(x:Int)
section
variable (n:Nat) (h:MH)
theorem Zaj{H W:Nat}(h1:1<=H)(w1:1<=W)(hH:H<=100)(hW:W<=100)(g:dz 1 (H*W:Nat) (iF H W)):run prog (n+3) "spread_tile" [I H,I W] h=.ok (.f (qh (H*W:Nat) (iF H W))) h:=by
 have Nu:H*W<=10000:=ux hH hW;have pos:0<H*W:=Nat.mul_pos h1 w1;have C:=Z4 (n+1) h H W (by lia) (by lia) (by lia);have F:=yb7 h ((Zt H W).map qe) [];rw[Xd] at F;have m1:=B3 H (by lia);have m2:=B3 W (by lia);have MT:=λhh=>Fp n hh (H*W:Nat) false false (iF H W) g;have cl:=Ms H W;have ci:∀ c∈Zt H W,c.1<H/\c.2<W:=λc hc=>qb2 hc;generalize hc:Zt H W=cs at *;have q:∀ hh,yb hh (.f (.lst (cs.map qe)))=some (cs.map (MV.f∘qe)):=λhh=>by simp
 have lc:Zd (h++[.dead,.lst ((xa cs.length 0).map λd:Nat=>I d)]) (h.length+1)=some ((xa cs.length 0).map λd:Nat=>I d):=by
  have:=Yh (h++[.dead]) [] ((xa cs.length 0).map λd:Nat=>I d);simpa using this
 refine dq.eq λQ hQ=>?_;rw[Zak];simp only[b6];have b1:∀ hh,ye false .mul (.f (.lst [.int 0])) (I ((cs.length:Nat):Int)) hh=qo false ((xa cs.length 0).map λd:Nat=>I d) hh:=λhh=>by
  have e:(xa cs.length [MV.f (.int (0:Int))]).flatten=(xa cs.length 0).map λd:Nat=>I d:=by
   rw[Xp];simp
  have c:-(2^63)<=((cs.length:Nat):Int)/\((cs.length:Nat):Int)<2^63/\1*((cs.length:Nat):Int).toNat<=aK:=⟨by lia,by lia,by rw[Qa];lia⟩;unfold ye;simp only[Zc,listOf,Qd,Ub,Uj,ud,Wo,Xi];rw[if_pos c,Wh,e]
 have b2:∀ hh,ye true .mul (.f (.lst [.int ((H:Int)*H+(W:Int)*W)])) (I ((cs.length:Nat):Int)) hh=.ok (.f (QL (xa cs.length (H*H+W*W)))) hh:=λhh=>by
  have e:(xa cs.length [MV.f (.int ((H:Int)*H+(W:Int)*W))]).flatten=((xa cs.length (H*H+W*W)).map λd:Nat=>FV.int d).map MV.f:=by
   rw[Xp];simp
  have c:-(2^63)<=((cs.length:Nat):Int)/\((cs.length:Nat):Int)<2^63/\1*((cs.length:Nat):Int).toNat<=aK:=⟨by lia,by lia,by rw[Qa];lia⟩;unfold ye;simp only[Zc,listOf,Qd,Ub,Uj,ud,Wo,Xi];rw[if_pos c,Wh,e,qb];rfl
 have n1:¬((H:Int)<1):=by lia
 have n2:¬((W:Int)<1):=by lia
 have r2:∀ hh,iB "range" [I 1,I ((cs.length:Int)+1)] hh=some ((va cs.length).map λk:Nat=>I (1+(k:Int)),[]):=λhh=>by
  have e:((cs.length:Int)+1-1).toNat=cs.length:=by lia
  rw[ybr hh 1 ((cs.length:Int)+1) (by lia),e]
 simp[n1,n2,C,F,q,m1,m2,b1,b2,r2,yo,-Vx];have Dd:∀ ys:List MV,Zd (h++[.dead,.lst ys]) (h.length+1)=some ys:=λys=>by have:=Yh (h++[.dead]) [] ys;simpa using this
 have k9:∀ ys zs:List MV,Qb (h++[.dead,.lst ys]) (h.length+1) zs=h++[.dead,.lst zs]:=λys zs=>by have:=Zj (h++[.dead]) [] ys zs;simpa using this
 refine ym (Q:=λr=>dq (Zb _ r) _) (e:=λk:Nat=>I (1+(k:Int))) (va cs.length) (λi σ hh=>∃(z5 z6 z7:Option MV),hh=h++[.dead,.lst ((YW H W cs i).1.map λd:Nat=>I d)]/\σ=[some (I H),some (I W),some (.f (.lst (cs.map qe))),some (.ref (h.length+1)),some (.f (QL (YW H W cs i).2)),z5,z6,z7]) ?_ ?_ ?_
 ·exact⟨none,none,none,rfl,rfl⟩
 ·rintro i y σ hh hi ⟨z5,z6,z7,rfl,rfl⟩ Q hQ;obtain(⟨oU,rfl⟩):i<cs.length/\i=y:=by
   obtain(⟨a,b⟩):=Wa.mp hi;rw[List.getElem_range] at b;exact⟨by simpa using a,b⟩
  obtain(⟨g1,g2⟩):=Ih H W cs i;have gs:YW H W cs (i+1)=DD H W cs (YW H W cs i) (i+1):=rfl;rw[gs] at hQ;generalize YW H W cs i=st at *;obtain(⟨nu,ne⟩):=st;simp only[DD] at hQ g1 g2 ⊢;cases ne with
  |nil=>simp at g2;lia
  |cons x r =>
   have MX:=Ycg x r;have IX:=Qcc x r;have TG:=Yb1 (x::r);obtain(⟨_,sl⟩):=Lo x r;generalize x::r=ne at *;generalize tM ne=pl at *;have Fz:pl<cs.length:=by lia
   have ix:lg nu.length (pl:Int)=some pl:=by unfold lg;rw[if_pos (by lia),if_pos (by lia)];simp
   have tL:cb (cs.map (MV.f∘qe)) (pl:Int)=some (.f (qe (cs.getD pl (0,0)))):=by
    rw[qI _ _ (by lia),Wh,Ua,wb Fz];simp[ve,Fz]
   have cp:=ci (cs.getD pl (0,0)) (by simp[ve,Fz]);generalize cs.getD pl (0,0)=c0 at *;have sn:=Ig;have D:=λ(c:Nat×Nat)(hc:c∈cs) hh=>ZaZ (n:=n) (h:=hh) c c0 (ci c hc).1 (ci c hc).2 cp.1 cp.2 (by lia) (by lia);simp[Zi,MX,IX,Eh,Dd,k9,ix,q,MP.stM];rw[Ye (e:=MV.f∘qe) (g:=λc=>I (dN H W c c0:Nat)) cs [] none (by simp[Qa];lia) (λc hc z=>⟨some (.f (qe c)),by simp[zh,q,tL,D c hc]⟩)];have e1:cs.map (λc=>I (dN H W c c0:Nat))=((cs.map λc=>dN H W c c0).map λd:Nat=>FV.int d).map MV.f:=by simp[we]
   simp only[Wd,R.aw,e1,qb];have nv:FV.lst ((cs.map λc=>dN H W c c0).map λd:Nat=>FV.int d)=QL (cs.map λc=>dN H W c c0):=rfl;rw[nv];have gl:(cs.map λc=>dN H W c c0).length=cs.length:=by simp
   generalize (cs.map λc=>dN H W c c0)=ap at *;simp[Ig,Zcf,MP.stM];have zl:(ne.zip ap).length<=10000:=by rw[VA];lia
   rw[Ye (e:=λp:Nat×Nat=>MV.f (.tup [.int p.1,.int p.2])) (g:=λp:Nat×Nat=>I ((if p.2<p.1 then p.2 else p.1:Nat):Nat)) (ne.zip ap) [] none (by rw[Qa];simp only[Wo];lia) (λp _ z=>⟨some (.f (.tup [.int p.1,.int p.2])),by have:=qch p.1 p.2;generalize (if p.2<p.1 then p.2 else p.1)=m at *;simp[zh,this]⟩)];rw[ycp];have e2:∀ l:List Nat,l.map (λd:Nat=>I d)=(l.map λd:Nat=>FV.int d).map MV.f:=λl=>by simp[we]
   have e3:(nu.map λd:Nat=>I d).set pl (I (1+(i:Int)))=(nu.set pl (i+1)).map λd:Nat=>I d:=by
    have e4:(1+(i:Int))=((i+1:Nat):Int):=by lia
    rw[e4,XE]
   rw[Wd,e2 (WA _ ne ap),e3];simp only[R.aw,qb];have nz:∀ l:List Nat,FV.lst (l.map λd:Nat=>FV.int d)=QL l:=λl=>rfl;rw[nz];generalize (nu.set pl (i+1)).map (λd:Nat=>I d)=nn at *;generalize WA (λa b=>if b<a then b else a) ne ap=zz at *;simp;exact hQ _ _ ⟨_,_,_,rfl,rfl⟩
 ·rintro σ hh ⟨z5,z6,z7,rfl,rfl⟩;have LR:=Wn (n:=cs.length);rw[LR];obtain(⟨g1,g2⟩):=Ih H W cs cs.length;have r3:∀ hh,iB "range" [I 0,I ((cs.length:Nat):Int),I W] hh=some ((va H).map λk:Nat=>I (kW k W),[]):=λhh=>by
   rw[cl,ZX hh 0 ((H*W:Nat):Int) W (by lia)];have e:fA 0 ((H*W:Nat):Int) W=H:=by
    unfold fA;rw[if_pos (by lia)];have:(((H*W:Nat):Int)-0-1)/W=H-1:=by
     rw[show(((H*W:Nat):Int)-0-1)=(W-1:Int)+(H-1:Int)*W by rw[Int.sub_mul];lia,Int.add_mul_ediv_right _ _ (by lia),Int.ediv_eq_zero_of_lt (by lia) (by lia)];lia
    rw[this];lia
   rw[e];simp[kW]
  have tH:(YW H W cs cs.length).1=(YW H W (Zt H W) (H*W)).1:=by rw[hc,cl]
  generalize (YW H W cs cs.length).1=nu at *;generalize (YW H W cs cs.length).2=ne at *;have sl:∀ k:Nat,zp true (.ref (h.length+1)) (some (kW k W)) (some (kW k W+W)) (h++[.dead,.lst (nu.map λd:Nat=>I d)])=.ok (.f (za false (((nu.drop (k*W)).take W).map λd:Nat=>(d:Int)))) (h++[.dead,.lst (nu.map λd:Nat=>I d)]):=λk=>by
   have e:ZI (nu.map λd:Nat=>I d) (some (kW k W)) (some (kW k W+W))=((((nu.drop (k*W)).take W).map λd:Nat=>(d:Int)).map FV.int).map MV.f:=by
    unfold kW;rw[zcu _ _ _ (by lia) (by lia),show((((k*W:Nat):Int)+W).toNat-((k*W:Nat):Int).toNat)=W by lia,Wh];simp[we]
   have sq0:yb (h++[.dead,.lst (nu.map λd:Nat=>I d)]) (.ref (h.length+1))=some (nu.map λd:Nat=>I d):=by
    have:=Dd (nu.map λd:Nat=>I d);simp[this]
   show opt (yb (h++[.dead,.lst (nu.map λd:Nat=>I d)]) (.ref (h.length+1))) (λxs=>qo true (ZI xs (some (kW k W)) (some (kW k W+W))) _)=_;rw[sq0,Qd,e,qb];rfl
  have rr:iF H W=(va H).map λk=>((nu.drop (k*W)).take W).map λd:Nat=>(d:Int):=by
   unfold iF JX;rw[<- tH,Xd];rfl
  generalize hg:h++[.dead,.lst (nu.map λd:Nat=>I d)]=gg at *;simp[q,r3,MP.stM];rw[Ye (e:=λk:Nat=>I (kW k W)) (g:=λk:Nat=>.f (za false (((nu.drop (k*W)).take W).map λd:Nat=>(d:Int)))) (va H) [] none (by simp[Qa];lia) (λk _ z=>⟨some (I (kW k W)),by simp[zh,sl k]⟩)];have e5:(va H).map (λk:Nat=>MV.f (za false (((nu.drop (k*W)).take W).map λd:Nat=>(d:Int))))=((iF H W).map (za false)).map MV.f:=by
   rw[rr,Xd,Xd];rfl
  rw[Wd,e5];simp only[R.aw,qb];have e6:FV.lst ((iF H W).map (za false))=Za false false (iF H W):=rfl;rw[e6];have PU:=MT gg;rw[<- cl] at PU hQ;generalize Za false false (iF H W)=rv at *;generalize qh _ (iF H W)=tv at *;simp[PU];subst hg;rw[PK];simp;exact hQ _ _ ⟨rfl,rfl⟩
end
noncomputable def zf(r:List Int)(m:Int):List Int:=r.map λt=>4*(t-1)+1+m
noncomputable def dbl:Nat->List (List Int)
 |0=>[[1]]
 |t+1=>(dbl t).map (λr=>zf r 0++zf r 2)++(dbl t).map (λr=>zf r 3++zf r 1)
theorem Q1:∀ t,(dbl t).length=2^t
 |0=>rfl
 |t+1=>by simp[dbl,Q1 t,uE];lia
theorem Dn:∀ t,∀ r∈dbl t,r.length=2^t
 |0,r,hr=>by simp[dbl] at hr;subst hr;rfl
 |t+1,r,hr=>by
  simp only[dbl,vh,Vf] at hr
  rcases hr with ⟨r0,h0,rfl⟩|⟨r0,h0,rfl⟩
  ·simp[zf,Dn t r0 h0,uE];lia
  ·simp[zf,Dn t r0 h0,uE];lia
theorem Mh:∀ t,∀ r∈dbl t,∀ v∈r,1<=v/\v<=4^t
 |0,r,hr,v,hv=>by simp[dbl] at hr;subst hr;simp at hv;subst hv;simp
 |t+1,r,hr,v,hv=>by
  have key:∀ r0∈dbl t,∀ m:Int,0<=m->m<=3->∀ v∈zf r0 m,1<=v/\v<=4^(t+1):=λr0 h0 m m0 m3 v hv=>by
   simp only[zf,Vf] at hv;obtain⟨x,hx,rfl⟩:=hv;have:=Mh t r0 h0 x hx;rw[Int.pow_succ]
   lia
  simp only[dbl,vh,Vf] at hr
  rcases hr with ⟨r0,h0,rfl⟩|⟨r0,h0,rfl⟩ <;> rcases vh.mp hv with hv|hv
  ·exact key r0 h0 0 (by lia) (by lia) v hv
  ·exact key r0 h0 2 (by lia) (by lia) v hv
  ·exact key r0 h0 3 (by lia) (by lia) v hv
  ·exact key r0 h0 1 (by lia) (by lia) v hv
theorem qb7(t:Nat)(ht:t<=8):dz 1 (4^t) (dbl t):=by
 have h2:2^t<=2^8:=wr (by decide) ht;have h3:0<2^t:=Nat.pow_pos (by decide);refine⟨?_,?_,⟨2^t,h3,Dn t⟩,Mh t,by rw[Q1];lia⟩
 ·have:(0:Int)<4^t:=Int.pow_pos (by decide);lia
 ·intro e;have:=Q1 t;rw[e] at this;simp at this;lia
section
variable (n:Nat) (h:MH)
theorem Og(r:List Int)(m:Int)(hr:r.length<=1000):run prog (n+1) "quarter_row" [.f (za false r),I m] h=.ok (.f (za false (zf r m))) h:=by
 have q:yb h (.f (za false r))=some (r.map (MV.f∘FV.int)):=by simp[za]
 have mu:∀ x,ZA 4 x:=λx=>.inl (by decide);rw[yak];simp only[b7];simp[q,MP.stM];rw[Ye (e:=MV.f∘FV.int) (g:=λt=>I (4*(t-1)+1+m)) r [] none (by simp[Qa];lia) (λy _ z=>⟨some (I y),by simp[zh,Qo,mu]⟩)];simp[za,sq,zf,we]
theorem qa7(t:Nat)(ht:t<=8):run prog (n+3) "doubled_tile" [I t] h=.ok (.f (qh (4^t) (dbl t))) h:=by
 refine dq.eq λQ hQ=>?_;have T:=Fp n h (4^t) false false (dbl t) (qb7 t ht);have ht0:¬(t:Int)<0:=by lia
 rw[zaf];simp only[bU];simp[ht0,yo,yi _ (t:Int) (by lia)];refine Qk (Q:=λr=>dq (Zb _ r) _) t (λi σ hh=>∃ z2 z3 z4,hh=h/\σ=[some (I t),some (.f (Za false false (dbl i))),z2,z3,z4]) ⟨none,none,none,rfl,rfl⟩ ?_ ?_
 ·rintro i σ hh hit ⟨z2,z3,z4,rfl,rfl⟩ Q hQ;have hl:=Q1 i;have h2:2^i<=2^8:=wr (by decide) (by lia);have hw:=Dn i;have q:yb hh (.f (Za false false (dbl i)))=some ((dbl i).map (MV.f∘za false)):=by simp[Za]
  have C:∀ r1 r2:List Int,r1.length+r2.length<=1000->ye true .add (.f (za false r1)) (.f (za false r2)) hh=.ok (.f (za false (r1++r2))) hh:=λr1 r2 c=>by
   have:=L0 (r1.map FV.int) (r2.map FV.int) hh (by simpa using c);rw[<- vf] at this;exact this
  have C2:=L0 ((dbl i).map λr=>za false (zf r 0++zf r 2)) ((dbl i).map λr=>za false (zf r 3++zf r 1)) hh (by simp[hl];lia);have e:(MV.f (FV.lst (((dbl i).map λr=>za false (zf r 0++zf r 2))++(dbl i).map λr=>za false (zf r 3++zf r 1))))=.f (Za false false (dbl (i+1))):=by simp[Za,dbl,sq,we]
  rw[e] at C2;simp[Zi,q,MP.stM];rw[Ye (e:=MV.f∘za false) (g:=λr=>MV.f (za false (zf r 0++zf r 2))) (dbl i) [] none (by simp[hl,Qa];lia) (λr hr z=>⟨some (.f (za false r)),by
   have:=hw r hr;simp[zh,Og (n+1) hh r _ (by lia),C (zf r 0) (zf r 2) (by simp[zf];lia)]⟩)]
  simp[q,MP.stM];rw[Ye (e:=MV.f∘za false) (g:=λr=>MV.f (za false (zf r 3++zf r 1))) (dbl i) [] none (by simp[hl,Qa];lia) (λr hr z=>⟨some (.f (za false r)),by
   have:=hw r hr;simp[zh,Og (n+1) hh r _ (by lia),C (zf r 3) (zf r 1) (by simp[zf];lia)]⟩)]
  simp[C2];exact hQ _ _ ⟨_,_,_,rfl,rfl⟩
 ·rintro σ hh ⟨z2,z3,z4,rfl,rfl⟩;have q:yb hh (.f (Za false false (dbl t)))=some ((dbl t).map (MV.f∘za false)):=by simp[Za]
  have h2:2^t<=2^8:=wr (by decide) (by lia);have mu:ZA (2^t) (2^t):=.inl (by
   have e:((2:Int)^t).natAbs=2^t:=by rw[Int.natAbs_pow];rfl
   rw[e];lia)
  have e4:(2:Int)^t*2^t=4^t:=by rw[<- Int.mul_pow];rfl
  simp[q,Q1,Qo,mu,e4,T];exact hQ _ _ ⟨rfl,rfl⟩
end
end MP
end
section
namespace MP
open PySem
noncomputable def Fh(c:Nat)(rows:List (List Int))(TH TW:Nat):Bool:=decide (rows.length=TH)&&rows.all (λr=>decide (r.length=TW)&&r.all λv=>decide (1<=v/\v<=c))&&(va (c+1)).all λl=>decide ((mZ l rows).length=l)
theorem IY{c:Nat}{rows:List (List Int)}{TH TW:Nat}(b:Fh c rows TH TW=true)(h1:1<=TH)(h2:TH<=5)(w1:1<=TW)(w2:TW<=5)(c1:1<=c)(c2:c<=20):gH c rows TH TW:=by
 unfold Fh at b;simp only[Xa,decide_eq_true_eq,Xj,We] at b;obtain⟨⟨b1,b2⟩,b3⟩:=b;refine⟨h1,w1,h2,w2,by lia,by lia,b1,b2,λl l0 l1=>?_⟩;obtain⟨m,rfl⟩:=Wf l0;have:=b3 m (by lia)
 exact_mod_cast this
theorem YcF:((va 4).all λi=>(va 5).all λj=>Fh ((i+1)*(j+1)) (iF (i+1) (j+1)) (i+1) (j+1))=true:=by decide +kernel
theorem Qb7{H W:Nat}(h1:1<=H)(h2:H<=4)(w1:1<=W)(w2:W<=5):gH ((H*W:Nat):Int) (iF H W) H W:=by
 have:=Xj.mp (Xj.mp YcF (H-1) (We.mpr (by lia))) (W-1) (We.mpr (by lia));rw[show H-1+1=H by lia,show W-1+1=W by lia] at this;have m:=ux h2 w2;exact IY this h1 (by lia) w1 w2 (Nat.mul_pos h1 w1) (by lia)
theorem ycg{t:Nat}(h1:1<=t)(h2:t<=2):gH (4^t) (dbl t) (2^t) (2^t):=by
 have:t=1\/t=2:=by lia
 rcases this with rfl|rfl
 ·exact IY (c:=4) (by decide +kernel) (by decide) (by decide) (by decide) (by decide) (by decide) (by decide)
 ·exact IY (c:=16) (by decide +kernel) (by decide) (by decide) (by decide) (by decide) (by decide) (by decide)
section
variable (n:Nat) (h:MH)
theorem qbc(rows lM:List (List Int))(H W:Nat)(hH:H<=1000)(hW:W<=1000)(hl:rows.length=H)(hw:∀ r∈rows,r.length=W)
  (hb:∀(i:Nat)(r:List Int),rows[i]?=some r->∃ d:List Int,lM[i]?=some d/\d.length=W/\∀ j,j<W->r.getD j 0<=d.getD j 0) :
  run prog (n+1) "_law_nowhere_less" [.f (Za false false rows),.f (Za true true lM)] h=.ok (B true) h:=by
 refine dq.eq λQ hQ=>?_;have q:∀ hh,yb hh (.f (Za false false rows))=some (rows.map (MV.f∘za false)):=λhh=>by simp[Za]
 have qd:∀ hh,yb hh (.f (Za true true lM))=some (lM.map (MV.f∘za true)):=λhh=>by simp[Za]
 have qi:∀ hh r b,yb hh (.f (za b r))=some (r.map (MV.f∘FV.int)):=λhh r b=>by simp[za]
 rw[qK];simp only[a6];simp[q,hl,yi _ (H:Int) (by lia)];refine Qk (Q:=λr=>dq (Zb _ r) _) H (λi σ hh=>∃(z2 z3:Option MV),hh=h/\σ=[some (.f (Za false false rows)),some (.f (Za true true lM)),z2,z3]) ⟨none,none,rfl,rfl⟩ ?_ ?_
 ·rintro i σ hh hi ⟨z2,z3,rfl,rfl⟩ Q hQ;obtain⟨r,er⟩:∃ r,rows[i]?=some r:=⟨rows[i]'(by lia),by simp[hl,hi]⟩;have Gv:=hw r (Vb er);obtain⟨d,ed,dW,db⟩:=hb i r er;have ai:cb (rows.map (MV.f∘za false)) (i:Int)=some (.f (za false r)):=by rw[qj,Ua,er];rfl
  have di:cb (lM.map (MV.f∘za true)) (i:Int)=some (.f (za true d)):=by rw[qj,Ua,ed];rfl
  simp[Zi,q,ai,qi,Gv,yi _ (W:Int) (by lia)];refine Qk (Q:=λr=>Nx r _) W (λj σ GR=>∃(z3:Option MV),GR=hh/\σ=[some (.f (Za false false rows)),some (.f (Za true true lM)),some (I i),z3]) ⟨_,rfl,rfl⟩ ?_ ?_
  ·rintro j σ GR hj ⟨z3,rfl,rfl⟩ Q hQ;have Nb:j<r.length:=by lia
   have Nd:j<d.length:=by lia
   have aj:cb (r.map (MV.f∘FV.int)) (j:Int)=some (I (r.getD j 0)):=by rw[qj,Ua,wb Nb];simp[ve,Nb]
   have dj:cb (d.map (MV.f∘FV.int)) (j:Int)=some (I (d.getD j 0)):=by rw[qj,Ua,wb Nd];simp[ve,Nd]
   have le:=db j hj;generalize r.getD j 0=a at *;generalize d.getD j 0=b at *;simp[Zi,q,qd,ai,di,qi,aj,dj,show ¬ b<a by lia];exact hQ _ _ ⟨_,rfl,rfl⟩
  ·rintro σ GR ⟨z3,rfl,rfl⟩;simp;exact hQ _ _ ⟨_,_,rfl,rfl⟩
 ·rintro σ hh ⟨z2,z3,rfl,rfl⟩;simp;exact hQ _ _ ⟨rfl,rfl⟩
theorem Drawn.iz{most hd:Int}{rows:List (List Int)}{H W:Nat}(d:Drawn most rows H W)(hm:most<=10000000000000000000000000)(w1:1<=W)(hH:H<=99)(hW:W<=100)(h0:0<=hd)(h1:hd<=10000000000000000000000000):du ([hd]::rows):=by
 refine⟨λr hr v hv=>?_,λr hr=>?_,λr hr=>?_,by simp[d.len];lia⟩
 ·rcases ua.mp hr with rfl|hr
  ·rw[Ud.mp hv];lia
  ·have:=d.sh r hr v hv;lia
 ·rcases ua.mp hr with rfl|hr
  ·simp
  ·intro e;have:=d.gN r hr;rw[e] at this;simp at this;lia
 ·rcases ua.mp hr with rfl|hr
  ·simp
  ·rw[d.gN r hr];exact hW
theorem yD(most c:Int)(rows ak:List (List Int))(inks:List Int)(H W TH TW:Nat)(d:Drawn most rows H W)(t:gH c ak TH TW)(K:eU most inks)(hm:1<=most)(hM:most<=10000000000000000000000000)(H1:1<=H)(H2:H<=99)(W1:1<=W)(W2:W<=100)
  (ng:du ([most]::Yk inks c (qk ak TH TW) 0 0 rows)) (oki:QB inks) :
  run prog (n+5) "screened_text" [.f (.str (zn ([most]::rows))),.f (.str (zn ([c]::ak))),.f (.str (Qf inks))] h=.ok (.f (.str (zn ([most]::Yk inks c (qk ak TH TW) 0 0 rows)))) h:=by
 have g:=d.iH hm H1 (by lia) W1;obtain⟨h1,w1,h2,w2,c1,c2,tl,tw,iO⟩:=id t;have dt:Drawn c ak TH TW:=⟨tl,λr hr=>(tw r hr).1,λr hr v hv=>by have:=(tw r hr).2 v hv;lia⟩;have RP:=Zab n h most rows (d.iz hM W1 H2 W2 (by lia) hM) g;have RT:=qaE n h c ak (dt.iz (by lia) w1 (by lia) (by lia) (by lia) (by lia)) t.good;have zi:=K.sz;have RN:=Yae (n+1) h inks oki (xu K.z) (by lia);have SC:=Qx (n+1) h most c 0 0 rows ak inks TH TW K g (by lia) h1 w1 tl tw (by lia) (λr hr=>by rw[d.gN r hr];lia);have WR:=Qac (n+1) h true true most _ ng;generalize Yk inks c (qk ak TH TW) 0 0 rows=S at *;have p1:QA prog.fG "most" (.f (Qe most S)) h=some (I most):=by simp[Qe]
 have p2:QA prog.fG "rows" (.f (Qe most S)) h=some (.f (Za true true S)):=by simp[Qe]
 have WP:run prog (n+4) "written_picture" [.f (Qe most S)] h=.ok (.f (.str (zn ([most]::S)))) h:=by
  rw[yS];simp only[bh];simp[p1,p2,WR]
 generalize Qe most S=pS at *;generalize Qe most rows=pv at *;generalize qh c ak=tv at *;generalize za false inks=iv at *;generalize zn ([most]::rows)=x1 at *;generalize zn ([c]::ak)=x2 at *;generalize Qf inks=x3 at *;rw[Z9];simp only[bH];simp[RP,RT,RN,SC,WP]
end
end MP
end
section
namespace MP
open PySem
theorem qcp{most:Int}{inks:List Int}(K:eU most inks){c:Int}(hc:0<=c)(th:Int->Int->Int){rows cZ:List (List Int)}{H W:Nat}(d:Drawn most rows H W)(d2:Drawn most cZ H W)
  (cmp:∀(i:Nat)(r:List Int),rows[i]?=some r->∃ r':List Int,cZ[i]?=some r'/\∀ j:Nat,j<W->r.getD j 0<=r'.getD j 0) :
  ∀(i:Nat)(r:List Int),(Yk inks c th 0 0 rows)[i]?=some r->∃ x:List Int,(Yk inks c th 0 0 cZ)[i]?=some x/\x.length=W/\∀ j,j<W->r.getD j 0<=x.getD j 0:=by
 intro i r er;have hi:i<rows.length:=by have:=(Wa.mp er).1;rwa [Q0] at this
 obtain⟨r0,e0⟩:∃ r0,rows[i]?=some r0:=⟨rows[i],by simp[hi]⟩;rw[DZ e0] at er;cases er;obtain⟨r',e',le⟩:=cmp i r0 e0;have w0:=d.gN r0 (Vb e0);have w':=d2.gN r' (Vb e');refine⟨_,DZ e',by rw[Zu,w'],λj hj=>?_⟩;rw[zF (by lia),zF (by lia)];exact K.nF (d.sh r0 (Vb e0) _ (Qn (by lia))).1 (le j hj) hc
theorem DY{most:Int}{inks:List Int}(K:eU most inks)(c:Int)(th:Int->Int->Int)(top left:Int){rows:List (List Int)}{H W:Nat}(d:Drawn most rows H W):Drawn most (Yk inks c th top left rows) H W:=by
 refine⟨by rw[Q0,d.len],λr hr=>?_,λr hr v hv=>?_⟩
 ·obtain⟨i,r0,e,rfl⟩:=qZ hr;rw[Zu];exact d.gN r0 (Vb e)
 ·obtain⟨i,r0,e,rfl⟩:=qZ hr;obtain⟨j,hj,rfl⟩:=yV hv;rw[Zu] at hj;rw[zF hj];exact K.nG c (d.sh r0 (Vb e) _ (Qn hj)).1
theorem OR{z:Str}(h:mJ z=true):jY (.str z) (.str z)=some true:=by rw[NX _ _ h h];simp
structure Dr (most c:Int) (rows ak:List (List Int)) (inks:List Int) (H W TH TW:Nat):Prop where
 d:Drawn most rows H W
 t:gH c ak TH TW
 K:eU most inks
 m1:1<=most
 m2:most<=10000000000000000000000000
 H1:1<=H
 W1:1<=W
 H2:H<=48
 W2:W<=12
 HW:H*W<=48
 oi:QB inks
noncomputable def BN(ns:List Int)(z2:Option MV)(tv:FV)(most:Int)(iv rv dv xv:FV)(told:Str)(gU kB lW nV z14:Option MV):aL:=[some (.f (.eC ns)),some (.ref 0),z2,some (.f tv),some (I most),some (.f iv),some (.f rv),some (.f dv),some (.f xv),some (.f (.str told)),gU,kB,lW,nV,z14]
section
variable (n:Nat)
variable {most c:Int} {rows ak:List (List Int)} {inks:List Int} {H W TH TW:Nat}
theorem tail3(D:Dr most c rows ak inks H W TH TW)(ns:List Int)(jP:ns.length<=63)(k:Int)(g:MH)(hk:0<=k)(oS:k<=900000)(z2 gU kB lW nV:Option MV) :
  dq (Zb [] (Yb prog (run prog (n+6)) (aV.body.drop 16) (BN ns z2 (qh c ak) most (za false inks) (Za false false rows) (Za false false (Yk inks c (qk ak TH TW) 0 0 rows)) (.lst [.str (zn ([most]::rows)),.str (zn ([c]::ak)),.str (Qf inks)]) (zn ([most]::Yk inks c (qk ak TH TW) 0 0 rows)) gU kB lW nV none) (atC k::g))) λv _=>v=B true:=by
 refine dq.of λQ hQ=>?_;obtain⟨d,t,K,m1,m2,H1,W1,H2,W2,HW,oi⟩:=D;obtain⟨_,_,Dk,cZ,dd,cmp,rfl,rfl⟩:=Qbj (n+3) g ns k most rows H W jP hk (by lia) m1 (by lia) (by lia) d;generalize M':k+4*((H*W:Nat):Int)=k3 at *;have Mk:=λhh=>Yl (n+4) hh most false false cZ (dd.iH m1 H1 (by lia) W1);have Sd:=λhh=>Qx (n+3) hh most c 0 0 cZ ak inks TH TW K (dd.iH m1 H1 (by lia) W1) (by lia) t.h1 t.w1 t.len t.row (by have:=t.c2;lia) (λr hr=>by rw[dd.gN r hr];lia);have dS:=DY K c (qk ak TH TW) 0 0 d;have Nw:=λhh=>qbc (n+5) hh _ _ H W (by lia) (by lia) dS.len dS.gN (qcp K (by have:=t.c1;lia) (qk ak TH TW) d dd cmp);have F1:=NZ (n+2) g ns k3 most c ak inks TH TW t K jP (by lia) (by lia) m1 m2;have F2:=NZ (n+2) g ns (k3+3) most c ak inks TH TW t K jP (by lia) (by lia) m1 m2;have ng:=dS.iz m2 W1 (by lia) (by lia) (show 0<=most by lia) m2;have ST:=λhh=>yD (n+1) hh most c rows ak inks H W TH TW d t K m1 m2 H1 (by lia) W1 (by lia) ng oi;have Hz:=OR (OP ng);have fr:∀ hh,QA prog.fG "rows" (.f (Qe most (Yk inks c (qk ak TH TW) 0 0 cZ))) hh=some (.f (Za true true (Yk inks c (qk ak TH TW) 0 0 cZ))):=λhh=>by simp[Qe]
 have lv:=PK [] (atC (k3+3+3)::g) (.bl true);have sq:∀ a b c hh,yb hh (.f (.lst [.str a,.str b,.str c]))=some [MV.f (.str a),.f (.str b),.f (.str c)]:=λ_ _ _ _=>rfl;have a0:∀ a b c:FV,cb [MV.f a,.f b,.f c] 0=some (.f a):=λ_ _ _=>rfl;have a1:∀ a b c:FV,cb [MV.f a,.f b,.f c] 1=some (.f b):=λ_ _ _=>rfl;have a2:∀ a b c:FV,cb [MV.f a,.f b,.f c] 2=some (.f c):=λ_ _ _=>rfl;have s1:=sq (zn ([most]::rows)) (zn ([c]::ak)) (Qf inks);clear dS cmp ng;generalize Za false false (Yk inks c (qk ak TH TW) 0 0 rows)=dv at *;generalize zn ([most]::Yk inks c (qk ak TH TW) 0 0 rows)=told at *;generalize Qe most (Yk inks c (qk ak TH TW) 0 0 cZ)=pS at *;generalize Za true true (Yk inks c (qk ak TH TW) 0 0 cZ)=rS at *;generalize Qe most cZ=pd at *;generalize Za false false cZ=rd at *;generalize Za false false rows=rv at *;generalize qh c ak=tv at *;generalize za false inks=iv at *;generalize zn ([most]::rows)=x1 at *;generalize zn ([c]::ak)=x2 at *;generalize Qf inks=x3 at *;generalize FV.lst [.str x1,.str x2,.str x3]=xv at *;simp only[Wd] at lv;simp only[aV,List.drop_succ_cons,vB,BN];simp[Dk,Mk,Sd,fr,Nw,F1,F2,s1,a0,a1,a2,ST,Hz,lv];exact hQ _ _ rfl
end
end MP
end
section
namespace MP
open PySem
theorem ybg(h:MH)(a:Nat):mq "reverse" (.ref a) [] h=opt (Zd h a) λxs=>.ok (.f .a9) (Qb h a xs.reverse):=rfl
section
variable (n:Nat)
variable {most c:Int} {rows ak:List (List Int)} {inks:List Int} {H W TH TW:Nat}
theorem uP(D:Dr most c rows ak inks H W TH TW)(ns:List Int)(jP:ns.length<=63)(k:Int)(g:MH)(hk:0<=k)(oS:k<=800000)(z2:Option MV) :
  dq (Zb [] (Yb prog (run prog (n+6)) (aV.body.drop 11) (BN ns z2 (qh c ak) most (za false inks) (Za false false rows) (Za false false (Yk inks c (qk ak TH TW) 0 0 rows)) (.lst [.str (zn ([most]::rows)),.str (zn ([c]::ak)),.str (Qf inks)]) (zn ([most]::Yk inks c (qk ak TH TW) 0 0 rows)) none none none none none) (atC k::g))) λv _=>v=B true:=by
 refine dq.of λQ hQ=>?_;obtain⟨x,hx,_,N⟩:=zw (n+5) g ns k jP hk (by lia);have T3:=λgU kB lW nV=>tail3 n D ns jP (k+1) (g++[.dead]) (by lia) (by lia) (some (I x)) gU kB lW nV;obtain⟨dr,t,K,m1,m2,H1,W1,H2,W2,HW,oi⟩:=D;have h4:=mod_lt x 4 (by decide);have h5:=mod_lt (x/4) 5 (by decide);obtain⟨d,hd⟩:=Wf (show 0<=1+x%4 by lia);obtain⟨b,hb⟩:=Wf (show 0<=1+x/4%5 by lia);have b4:∀ hh,ye true .mod (I x) (I 4) hh=.ok (I (x%4)) hh:=λhh=>Qi _ _ _ (by decide);have d4:∀ hh,ye true .fdiv (I x) (I 4) hh=.ok (I (x/4)) hh:=λhh=>Zl _ _ _ (mS (by decide) (by decide));have b5:∀(y:Int) hh,ye true .mod (I y) (I 5) hh=.ok (I (y%5)) hh:=λy hh=>Qi _ _ _ (by decide);have G0:=dr.iH m1 H1 (by lia) W1;have Mp:=λhh=>Yl (n+4) hh most false false rows G0;have mN:1<=d:=by lia
 have pT:1<=b:=by lia
 have Cu:=λhh=>Qbs n hh most m1 rows H W dr H1 W1 (by lia) (by lia) d b mN pT (by lia) (by lia) (by lia);have gf:=O2 dr H1 W1 mN pT;have gs:=yca inks c (qk ak TH TW) 0 0 rows H W d b;have gl:=Iy dr H1 W1 mN pT;have dS:=DY K c (qk ak TH TW) 0 0 dr;have SP:∀ p∈Ym rows H W d b,∀ hh,run prog (n+6) "screened" [.f (Qe most p.2.2),.f (qh c ak),.f (za false inks),I (p.1:Int),I (p.2.1:Int)] hh=.ok (.f (Qe most (Yk inks c (qk ak TH TW) (p.1:Int) (p.2.1:Int) p.2.2))) hh:=by
  intro p hp hh;obtain⟨a,bq,f⟩:=gf p hp;have ha:=f.ha;have hbq:=f.hb;exact Qx (n+3) hh most c (p.1:Int) (p.2.1:Int) p.2.2 ak inks TH TW K (f.d.iH m1 f.a1 (by lia) f.b1) (by lia) t.h1 t.w1 t.len t.row (by have:=t.c2;lia) (λr hr=>by rw[f.d.gN r hr];lia)
 simp only[Int.zero_add] at gs;generalize hS:Yk inks c (qk ak TH TW) 0 0 rows=S at *;have gl2:=Iy dS H1 W1 mN pT;have pm:=List.reverse_perm (Ym S H W d b);have Pu:=λhh=>zcv (n+2) hh most m1 S H W dS H1 W1 (by lia) (by lia) (Ym S H W d b).reverse (by rw[pm.length_eq];lia) (λp hp=>O2 dS H1 W1 mN pT p (pm.mem_iff.mp hp)) ((pm.pairwise_iff (λ{x y} F5 i j hc=>F5 i j ⟨hc.2,hc.1⟩)).mpr (ybR dS H1 W1 mN pT)) (λi j hi hj=>by
  obtain⟨p,hp,hc⟩:=qbN dS H1 W1 mN pT i j hi hj;exact⟨p,pm.mem_iff.mpr hp,hc⟩) (by rw[zbU pm];exact ybG dS H1 W1 mN pT)
 have F:=Z3 (atC (k+1)) g ((Ym S H W d b).reverse.map (fI most));rw[Xd] at F;have rev:((Ym S H W d b).map (MV.f∘fI most)).reverse=(Ym S H W d b).reverse.map (MV.f∘fI most):=by rw[List.map_reverse]
 have fS:∀ hh,QA prog.fG "rows" (.f (Qe most S)) hh=some (.f (Za true true S)):=λhh=>by simp[Qe]
 have q2:∀ hh,yb hh (.f (Za true true S))=some (S.map (MV.f∘za true)):=λhh=>by simp[Za]
 have si:∀ hh,zc hh (.f (Za true true S))=[]:=λhh=>rfl;have qi:∀ hh r b,yb hh (.f (za b r))=some (r.map (MV.f∘FV.int)):=λhh r b=>by simp[za]
 have ea:∀ xs:List Int,MV.f (.lst (xs.map FV.int))=.f (za false xs):=λxs=>rfl;have er:MV.f (.lst (S.map (za false)))=.f (Za false false S):=rfl;have eq1:=OI false false S S;rw[decide_eq_true rfl] at eq1;have Sl:S.length<=1000:=by rw[dS.len];lia
 generalize hgr:Ym rows H W d b=gr at *;have q:∀ hh,yb hh (.f (.lst (gr.map (fI most))))=some (gr.map λp=>MV.f (.tup [.int p.1,.int p.2.1,Qe most p.2.2])):=λhh=>by simp[fI,we]
 have gq:∀ hh,zc hh (.f (.lst (gr.map (fI most))))=[]:=λhh=>rfl;generalize qk ak TH TW=th at *;generalize qh c ak=tv at *;generalize za false inks=iv at *;generalize FV.lst (gr.map (fI most))=gv at *;generalize zn ([most]::rows)=x1 at *;generalize zn ([c]::ak)=x2 at *;generalize zn ([most]::S)=told at *;generalize Qf inks=x3 at *;generalize FV.lst [.str x1,.str x2,.str x3]=xv at *;generalize Qe most rows=pv at *;generalize Za false false rows=rv at *;have e:aV.body.drop 11=aV.body[11]::aV.body[12]::aV.body[13]::aV.body[14]::aV.body[15]::aV.body.drop 16:=rfl;rw[e];generalize aV.body.drop 16=BB at *;simp only[aV,Vu,Wv,BN] at T3 ⊢;simp[N,b4,d4,b5,hd,hb,Mp,Cu,q,gq];refine ym (Q:=λr=>dq (Zb _ r) _) (e:=λp:Qh=>MV.f (.tup [.int p.1,.int p.2.1,Qe most p.2.2])) gr (λi σ hh=>∃(kB lW nV:Option MV),hh=atC (k+1)::(g++[.lst (((gr.take i).map λp=>((p.1,p.2.1,Yk inks c th (p.1:Int) (p.2.1:Int) p.2.2):Qh)).map (MV.f∘fI most))])/\σ=[some (.f (.eC ns)),some (.ref 0),some (I x),some (.f tv),some (I most),some (.f iv),some (.f rv),some (.f (Za false false S)),some (.f xv),some (.f (.str told)),some (.ref (g.length+1)),kB,lW,nV,none]) ⟨none,none,none,by simp,rfl⟩ ?_ ?_
 ·rintro i p σ hh hi ⟨kB,lW,nV,rfl,rfl⟩ Q hQ;have oU:=(Wa.mp hi).1;have Sp:=SP p (Vb hi);have FN:∀(t l:Int)(x:FV),yk [I t,I l,.f x]=.f (.tup [.int t,.int l,x]):=λ_ _ _=>rfl;have el:(((gr.take i).map λp=>((p.1,p.2.1,Yk inks c th (p.1:Int) (p.2.1:Int) p.2.2):Qh)).map (MV.f∘fI most)).length<aK:=by rw[Qa];simp;lia
  have nx:((gr.take (i+1)).map λp=>((p.1,p.2.1,Yk inks c th (p.1:Int) (p.2.1:Int) p.2.2):Qh)).map (MV.f∘fI most)=((gr.take i).map λp=>((p.1,p.2.1,Yk inks c th (p.1:Int) (p.2.1:Int) p.2.2):Qh)).map (MV.f∘fI most)++[.f (fI most (p.1,p.2.1,Yk inks c th (p.1:Int) (p.2.1:Int) p.2.2))]:=by
   rw[Ui,hi,xk,vf,vf];rfl
  simp only[nx] at hQ;generalize ((gr.take i).map λp=>((p.1,p.2.1,Yk inks c th (p.1:Int) (p.2.1:Int) p.2.2):Qh)).map (MV.f∘fI most)=cur at *;have cl:=(Own.new (xs:=cur) g).cell (atC (k+1));simp[Zi,Sp,cl,FN,el,yF];exact hQ _ _ ⟨_,_,_,rfl,rfl⟩
 ·rintro σ hh ⟨kB,lW,nV,rfl,rfl⟩;rw[wm,gs];have cl:=(Own.new (xs:=(Ym S H W d b).map (MV.f∘fI most)) g).cell (atC (k+1));have T:=T3 (some (.ref (g.length+1))) kB lW nV;simp only[<- rev] at F;generalize ((Ym S H W d b).map (MV.f∘fI most))=cg at *;generalize FV.lst ((Ym S H W d b).reverse.map (fI most))=pcs at *;simp[ybg,cl,yF,F,Pu,fS,q2,si,MP.stM];rw[Ye (e:=MV.f∘za true) (g:=MV.f∘za false) S [] none (by simp[Qa];lia) (λy _ z=>⟨some (.f (za true y)),by simp[zh,qi,ea]⟩)];simp only[Wd,R.aw,zj,er];simp[eq1];obtain⟨v,h',e1,rfl⟩:=T;exact⟨_,_,e1,hQ _ _ rfl⟩
end
end MP
end
section
namespace MP
open PySem
section
variable (n:Nat)
theorem KL{c:Int}{ak:List (List Int)}{TH TW:Nat}(t:gH c ak TH TW)(ns:List Int)(jP:ns.length<=63)(x:Int) :
  dq (Zb [] (Yb prog (run prog (n+6)) (aV.body.drop 4) [some (.f (.eC ns)),some (.ref 0),some (I x),some (.f (qh c ak)),none,none,none,none,none,none,none,none,none,none,none] [atC 1])) λv _=>v=B true:=by
 refine dq.of λQ hQ=>?_;obtain⟨most,m1,m2,Mo⟩:=qaz (n+3) [] ns 1 jP (by decide) (by decide);obtain⟨_,_,Ik,inks,k2,K,il,ik1,ik2,rfl,rfl⟩:=Yax (n+3) [] ns (1+4) most jP (by decide) (by decide) m1;obtain⟨_,_,Ro,rows,k3,H,W,dr,H1,W1,H2,W2,HW,rk1,rk2,rfl,rfl⟩:=zaw (n+3) [] ns k2 most jP (by lia) (by lia) m1;have oi:QB inks:=λv hv=>by have:=K.gV v hv;lia
 have D:Dr most c rows ak inks H W TH TW:=⟨dr,t,K,m1,m2,H1,W1,H2,W2,HW,oi⟩;have T2:=uP n D ns jP k3 [] (by lia) (by lia) (some (I x));have G0:=dr.iH m1 H1 (by lia) W1;have Do:=λhh=>Yb5 (n+4) hh most c 0 0 rows ak inks TH TW K G0 (by lia) t.h1 t.w1 t.len t.row (by have:=t.c2;lia) (λr hr=>by rw[dr.gN r hr];lia);have dS:=DY K c (qk ak TH TW) 0 0 dr;have dt:Drawn c ak TH TW:=⟨t.len,λr hr=>(t.row r hr).1,λr hr v hv=>by have:=(t.row r hr).2 v hv;lia⟩;have Cq:=dr.iz m2 W1 (by lia) (by lia) (show 0<=most by lia) m2;have ng:=dS.iz m2 W1 (by lia) (by lia) (show 0<=most by lia) m2;have MB:=dt.iz (hd:=c) (by have:=t.c2;lia) t.w1 (by have:=t.h2;lia) (by have:=t.w2;lia) (by have:=t.c1;lia) (by have:=t.c2;lia);have X1:=λhh=>qH (n+5) hh false false most rows Cq;have X2:=λhh=>qH (n+5) hh true true c ak MB;have X4:=λhh=>qH (n+5) hh false false most _ ng;have ST:=λhh=>yD (n+1) hh most c rows ak inks H W TH TW dr t K m1 m2 H1 (by lia) W1 (by lia) ng oi;have Hz:=OR (OP ng);have is1:∀ z hh,zW prog.subs hh (.f (.str z)) "str"=some true:=λz hh=>rfl;have f1:∀ hh,QA prog.fG "rows" (.f (qh c ak)) hh=some (.f (Za true true ak)):=λhh=>by simp[qh]
 have f3:∀ hh,QA prog.fG "count" (.f (qh c ak)) hh=some (I c):=λhh=>by simp[qh]
 have q2:∀ hh,yb hh (.f (Za true true ak))=some (ak.map (MV.f∘za true)):=λhh=>by simp[Za]
 have si:∀ hh,zc hh (.f (Za true true ak))=[]:=λhh=>rfl;have qi:∀ hh r b,yb hh (.f (za b r))=some (r.map (MV.f∘FV.int)):=λhh r b=>by simp[za]
 have ea:∀ xs:List Int,MV.f (.lst (xs.map FV.int))=.f (za false xs):=λxs=>rfl;have er:MV.f (.lst (ak.map (za false)))=.f (Za false false ak):=rfl;have tl:=t.len;have t2:=t.h2;have it:=λhh=>D8 false inks hh;have nw:=λhh=>ID hh inks sN;have jo:=λhh=>DV hh inks oi (by lia);have sq:∀ a b c hh,yb hh (.f (.lst [.str a,.str b,.str c]))=some [MV.f (.str a),.f (.str b),.f (.str c)]:=λ_ _ _ _=>rfl;have a0:∀ a b c:FV,cb [MV.f a,.f b,.f c] 0=some (.f a):=λ_ _ _=>rfl;have a1:∀ a b c:FV,cb [MV.f a,.f b,.f c] 1=some (.f b):=λ_ _ _=>rfl;have a2:∀ a b c:FV,cb [MV.f a,.f b,.f c] 2=some (.f c):=λ_ _ _=>rfl;have ts:=λhh k (hk:k∈inks)=>t6 hh (oi k hk).1 (oi k hk).2;clear dS Cq ng MB D;generalize Yk inks c (qk ak TH TW) 0 0 rows=S at *;generalize Za false false S=dv at *;generalize zn ([most]::S)=told at *;generalize Za false false rows=rv at *;generalize qh c ak=tv at *;generalize za false inks=iv at *;generalize zn ([most]::rows)=x1 at *;generalize zn ([c]::ak)=x2 at *;generalize Qf inks=x3 at *;generalize Za true true ak=tr at *;generalize Za false false ak=tf at *;have e:aV.body.drop 4=aV.body[4]::aV.body[5]::aV.body[6]::aV.body[7]::aV.body[8]::aV.body[9]::aV.body[10]::aV.body.drop 11:=rfl;rw[e];generalize aV.body.drop 11=BB at *;simp only[aV,Vu,Wv,BN] at T2 ⊢;simp at Mo Ik;simp[Mo,Ik,Ro,f3,f1,q2,si,MP.stM];rw[Ye (e:=MV.f∘za true) (g:=MV.f∘za false) ak [] none (by simp[Qa];lia) (λy _ z=>⟨some (.f (za true y)),by simp[zh,qi,ea]⟩)];simp only[Wd,R.aw,zj,er];simp[Do,X1,f3,f1,X2,it,MP.stM,Qg];rw[Ye (e:=λk:Int=>I k) (g:=λk=>MV.f (.str (sN k))) inks [] none (by simp[Qa];lia) (by
  intro k hk z;have:=ts [atC k3] k hk;exact⟨some (I k),by simp[zh,this]⟩)]
 rw[Wd,R.aw,nw,R.aw,jo];simp[yo,sq,a0,a1,a2,ST,is1,X4,Hz];obtain⟨v,h',e1,rfl⟩:=T2;exact⟨_,_,e1,hQ _ _ rfl⟩
theorem oA(ns:List Int)(hl:ns.length<=63):∃ g,run prog (n+7) "law" [.f (.eC ns)] []=.ok (B true) g:=by
 suffices dq (run prog (n+7) "law" [.f (.eC ns)] []) λv h'=>v=B true by
  obtain⟨v,h',e,rfl⟩:=this;exact⟨h',e⟩
 obtain⟨x,hx,_,N⟩:=zw (n+5) [] ns 0 hl (by decide) (by decide);have d2:∀ hh,ye true .fdiv (I x) (I 2) hh=.ok (I (x/2)) hh:=λhh=>Zl _ _ _ (mS (by decide) (by decide));have d8:∀ hh,ye true .fdiv (I x) (I 8) hh=.ok (I (x/8)) hh:=λhh=>Zl _ _ _ (mS (by decide) (by decide));have NL:∀ hh,ye true .fdiv (I x) (I 40) hh=.ok (I (x/40)) hh:=λhh=>Zl _ _ _ (mS (by decide) (by decide));have b2:∀(y:Int) hh,ye true .mod (I y) (I 2) hh=.ok (I (y%2)) hh:=λy hh=>Qi _ _ _ (by decide);have b4:∀(y:Int) hh,ye true .mod (I y) (I 4) hh=.ok (I (y%4)) hh:=λy hh=>Qi _ _ _ (by decide);have b5:∀(y:Int) hh,ye true .mod (I y) (I 5) hh=.ok (I (y%5)) hh:=λy hh=>Qi _ _ _ (by decide);have h4:=mod_lt (x/2) 4 (by decide);have h5:=mod_lt (x/8) 5 (by decide);have h2:=mod_lt (x/40) 2 (by decide);obtain⟨TH,Nr⟩:=Wf (show 0<=1+x/2%4 by lia);obtain⟨TW,Nq⟩:=Wf (show 0<=1+x/8%5 by lia);obtain⟨t,ht⟩:=Wf (show 0<=1+x/40%2 by lia);have tp:=Qb7 (H:=TH) (W:=TW) (by lia) (by lia) (by lia) (by lia);have Sp:=λhh=>Zaj (n+3) hh (H:=TH) (W:=TW) (by lia) (by lia) (by lia) (by lia) tp.good;have tq:=ycg (t:=t) (by lia) (by lia);have Db:=λhh=>qa7 (n+3) hh t (by lia);have T1:=KL n tp ns hl x;have T2:=KL n tq ns hl x;generalize qh ((TH*TW:Nat):Int) (iF TH TW)=v1 at *;generalize qh (4^t) (dbl t)=v2 at *;rw[yco];have e:aV.body=aV.body[0]::aV.body[1]::aV.body[2]::aV.body[3]::aV.body.drop 4:=rfl;rw[e];generalize aV.body.drop 4=BB at *;simp only[aV,Vu,Wv];simp at N;by_cases cx:x%2=0
 ·simp[N,d2,d8,NL,b2,b4,b5,Nr,Nq,Sp,cx,ht,Db];exact T2
 ·simp[N,d2,d8,NL,b2,b4,b5,Nr,Nq,Sp,cx];exact T1
end
end MP
end
section
namespace SD
open PySem L2 L3 M3 MP PyProof.Rows
noncomputable def top(i:Nat):Stmt:=PySem.Challenge.pw_dotscreen_k92_whole_screen.main.body.getD i (.Pass ⟨0,0,0,0⟩)
noncomputable abbrev OS:Stmt:=top 9
theorem zbv:yf prog YH ["rows"] ["rows"] OS=true:=by decide +kernel
noncomputable abbrev La:Stmt:=top 10
theorem Zbv:yf prog QI ["rows","least","greatest","row"] ["rows","least","greatest"] La=true:=by decide +kernel
noncomputable abbrev ZK:Stmt:=top 11
theorem zak:yf prog bI ["high","wide","cells","row"] ["high","wide"] ZK=true:=by decide +kernel
noncomputable abbrev Qz:Stmt:=JT (top 13) 0
theorem YV:yf prog zo ["self","most","rows","kept","fault"] ["self","most","rows"] Qz=true:=by decide +kernel
noncomputable abbrev KG:Stmt:=top 14
theorem qcP:yf prog Cm ["picture"] ["picture"] KG=true:=by decide +kernel
noncomputable abbrev L7:Stmt:=top 15
theorem zcW:yf prog DA ["picture"] ["picture"] L7=true:=by decide +kernel
noncomputable abbrev Oo:Stmt:=top 16
theorem ZbP:yf prog eR ["picture"] ["picture"] Oo=true:=by decide +kernel
noncomputable abbrev J5:Stmt:=top 17
theorem zbo:yf prog dJ ["picture","cell"] ["picture","cell"] J5=true:=by decide +kernel
noncomputable abbrev Mn:Stmt:=top 18
theorem ybu:yf prog dU ["picture","cell"] ["picture","cell"] Mn=true:=by decide +kernel
noncomputable abbrev Oe:Stmt:=top 19
theorem ybo:yf prog dP ["high","wide"] ["high","wide"] Oe=true:=by decide +kernel
noncomputable abbrev Lb:Stmt:=top 20
theorem qbk:yf prog dQ ["picture","top","left","high","wide"] ["picture","top","left","high","wide"] Lb=true:=by decide +kernel
noncomputable abbrev Lh:Stmt:=top 21
theorem QbG:yf prog eT ["picture","top","left","high","wide"] ["picture","top","left","high","wide"] Lh=true:=by decide +kernel
noncomputable abbrev J7:Stmt:=top 22
theorem ya7:yf prog c9 ["one","other"] ["one","other"] J7=true:=by decide +kernel
noncomputable abbrev QJ:Stmt:=JT (top 24) 0
theorem Yak:yf prog zr ["self","count","rows","kept","fault"] ["self","count","rows"] QJ=true:=by decide +kernel
noncomputable abbrev yN:Stmt:=top 25
theorem qaw:yf prog bQ ["tile","row","column","line"] ["tile","row","column"] yN=true:=by decide +kernel
noncomputable abbrev Ky:Stmt:=top 26
theorem ybp:yf prog dI ["tile","level","cells","row","line"] ["tile","level"] Ky=true:=by decide +kernel
noncomputable abbrev Px:Stmt:=top 28
theorem Zbq:yf prog dR ["inks","most"] ["inks","most"] Px=true:=by decide +kernel
noncomputable abbrev Z8:Stmt:=top 29
theorem Za1:yf prog cO ["inks","lesser","greater"] ["inks"] Z8=true:=by decide +kernel
noncomputable abbrev yz:Stmt:=top 30
theorem K8:yf prog dH ["picture","tile","inks","top","left","rows","row","shades","line","column","shade","threshold"] ["picture","tile","inks","top","left"] yz=true:=by decide +kernel
noncomputable abbrev Kz:Stmt:=top 31
theorem yb9:yf prog fO ["shade","threshold","count","inks","place","below","above"] ["shade","threshold","count","inks"] Kz=true:=by decide +kernel
noncomputable abbrev QC:Stmt:=top 35
theorem yZ:yf prog bh ["picture"] ["picture"] QC=true:=by decide +kernel
noncomputable abbrev ZO:Stmt:=top 36
theorem Qao:yf prog bP ["head","rows"] ["head","rows"] ZO=true:=by decide +kernel
noncomputable abbrev ZD:Stmt:=top 37
theorem Y7:yf prog bj ["numbers"] ["numbers"] ZD=true:=by decide +kernel
noncomputable abbrev QO:Stmt:=top 38
theorem zar:yf prog bR ["text","rows"] ["text"] QO=true:=by decide +kernel
noncomputable abbrev PD:Stmt:=top 39
theorem Za7:yf prog c6 ["text","rows"] ["text"] PD=true:=by decide +kernel
noncomputable abbrev zM:Stmt:=top 40
theorem QaA:yf prog bS ["text","rows","numbers"] ["text"] zM=true:=by decide +kernel
noncomputable abbrev Mr:Stmt:=top 41
theorem za8:yf prog c7 ["text","rows","line","row","numbers"] ["text"] Mr=true:=by decide +kernel
noncomputable abbrev q0:Stmt:=top 42
theorem za3:yf prog cK ["row","line","words","word"] ["row","line"] q0=true:=by decide +kernel
noncomputable abbrev OW:Stmt:=top 43
theorem zbg:yf prog c8 ["word"] ["word"] OW=true:=by decide +kernel
noncomputable abbrev zK:Stmt:=top 45
theorem zaj:yf prog bH ["picture_text","tile_text","inks_text","picture","tile","inks"] ["picture_text","tile_text","inks_text"] zK=true:=by decide +kernel
noncomputable abbrev O4:Stmt:=top 47
theorem Zcb:yf prog fP ["picture","high","wide","size","pieces","top","left","tall","broad"] ["picture","high","wide"] O4=true:=by decide +kernel
noncomputable abbrev zL:Stmt:=top 48
theorem QaB:yf prog bT ["pieces","size"] ["pieces"] zL=true:=by decide +kernel
noncomputable abbrev Y1:Stmt:=top 49
theorem YaZ:yf prog cP ["pieces","top","left","picture"] ["pieces"] Y1=true:=by decide +kernel
noncomputable abbrev YX:Stmt:=top 50
theorem YaO:yf prog cL ["pieces","tall","broad"] ["pieces"] YX=true:=by decide +kernel
noncomputable abbrev K7:Stmt:=top 51
theorem ybn:yf prog dO ["picture","size"] ["picture"] K7=true:=by decide +kernel
noncomputable abbrev Li:Stmt:=top 52
theorem qbI:yf prog eS ["pieces","size","sheet","top","left","picture","down","shades"] ["pieces","size"] Li=true:=by decide +kernel
noncomputable abbrev QX:Stmt:=top 53
theorem QaY:yf prog cM ["line","left","shades","right","shade"] ["line","left","shades"] QX=true:=by decide +kernel
noncomputable abbrev yL:Stmt:=top 55
theorem Zao:yf prog bU ["times","rows","number","above","beneath"] ["times"] yL=true:=by decide +kernel
noncomputable abbrev qU:Stmt:=top 56
theorem QaC:yf prog b7 ["row","more"] ["row","more"] qU=true:=by decide +kernel
noncomputable abbrev QT:Stmt:=top 57
theorem YaH:yf prog b6 ["high","wide","cells","numbers","nearest","number","place","apart"] ["high","wide"] QT=true:=by decide +kernel
noncomputable abbrev Mm:Stmt:=top 58
theorem zby:yf prog dM ["one","other","high","wide","down","right"] ["one","other","high","wide"] Mm=true:=by decide +kernel
noncomputable abbrev Z6:Stmt:=top 59
theorem zaS:yf prog cJ ["far","side"] ["far","side"] Z6=true:=by decide +kernel
noncomputable abbrev Oi:Stmt:=top 61
theorem Ybf:yf prog dh ["_law_script","_law_at","_law_cell","_law_k","_law_m"] ["_law_script","_law_at"] Oi=true:=by decide +kernel
noncomputable abbrev K5:Stmt:=top 62
theorem Ybr:yf prog dX ["_law_script","_law_at","_law_room","_law_number","_law_k"] ["_law_script","_law_at","_law_room"] K5=true:=by decide +kernel
noncomputable abbrev OX:Stmt:=top 63
theorem qa4:yf prog df ["_law_shade","_law_threshold","_law_count","_law_inks","_law_below_it","_law_above_it","_law_lower","_law_upper"] ["_law_shade","_law_threshold","_law_count","_law_inks"] OX=true:=by decide +kernel
noncomputable abbrev Pz:Stmt:=top 64
theorem Zbf:yf prog dm ["_law_rows","_law_count","_law_tile_rows","_law_inks","_law_top","_law_left","_law_made","_law_r","_law_line","_law_row","_law_c"] ["_law_rows","_law_count","_law_tile_rows","_law_inks","_law_top","_law_left"] Pz=true:=by decide +kernel
noncomputable abbrev yC:Stmt:=top 65
theorem Z5:yf prog br ["_law_script","_law_at","_law_m"] ["_law_script","_law_at"] yC=true:=by decide +kernel
noncomputable abbrev YB:Stmt:=top 66
theorem Z1:yf prog bu ["_law_script","_law_at","_law_most","_law_some","_law_k"] ["_law_script","_law_at","_law_most"] YB=true:=by decide +kernel
noncomputable abbrev OU:Stmt:=top 67
theorem Ybg:yf prog de ["_law_head","_law_rows"] ["_law_head","_law_rows"] OU=true:=by decide +kernel
noncomputable abbrev qB:Stmt:=top 68
theorem QZ:yf prog bo ["_law_script","_law_at","_law_most","_law_m","_law_columns","_law_sort","_law_few","_law_rows","_law_r","_law_row","_law_c"] ["_law_script","_law_at","_law_most"] qB=true:=by decide +kernel
noncomputable abbrev zV:Stmt:=top 69
theorem yaH:yf prog b8 ["_law_script","_law_at","_law_rows","_law_most","_law_made","_law_row","_law_line","_law_shade","_law_m"] ["_law_script","_law_at","_law_rows","_law_most"] zV=true:=by decide +kernel
noncomputable abbrev Mq:Stmt:=top 70
theorem Ybj:yf prog dk ["_law_script","_law_at","_law_tile","_law_inks","_law_most","_law_shade","_law_flat_here","_law_found","_law_lower","_law_upper","_law_level","_law_cells","_law_r"] ["_law_script","_law_at","_law_tile","_law_inks","_law_most"] Mq=true:=by decide +kernel
noncomputable abbrev yx:Stmt:=top 71
theorem YR:yf prog a6 ["_law_rows","_law_others","_law_r","_law_c"] ["_law_rows","_law_others"] yx=true:=by decide +kernel
noncomputable abbrev Q3:Stmt:=top 72
theorem NS:yf prog aV ["_law_script","_law_at","_law_m","_law_tile","_law_most","_law_inks","_law_rows","_law_due","_law_texts","_law_told","_law_pieces","_law_top","_law_left","_law_piece","_law_dark"] ["_law_script"] Q3=true:=by decide +kernel
end SD
end
section
namespace SD
open PySem PySem.Spec PyProof.Rows L2 L3 M3 MP
noncomputable def pb(K:gc)(Yo QD:af):Tx:=⟨(λs=>match s with
  |"Picture"=>Yo
  |"Tile"=>QD
  |_=>0),K,0,0,⟨0,0,0,0⟩,kg ""⟩
theorem all_mk{l:Gc}{w:World}{K:gc}{h:Heap}{mg:Str->Option Value}{fa:af}{Yo:af}{Ybv:f'}{QD:af}{Zcr:f'}{Le:af}{KA:af}{Zbp:Tok}{Qak:Tok}{HU:af}{ycU N8:Option af}{YcM:Array (Option Value)}{ZcJ L6 Pr K4 Iq Mj:Value}(X:K.In h)(G:h.Ns aB mg)(Nl:mg "law"=some (.ref fa))
  (zbt:Src K mg "own_rows" OS ["rows"]) (Ybn:Src K mg "fault_of" La ["rows","least","greatest"]) (qai:Src K mg "cells_by_rows" ZK ["high","wide"]) (YcY:Src K mg "high" KG ["picture"]) (zcR:Src K mg "wide" L7 ["picture"]) (ybT:Src K mg "size_of" Oo ["picture"]) (Ybk:Src K mg "has_cell" J5 ["picture","cell"]) (Ybu:Src K mg "ask_cell" Mn ["picture","cell"]) (Yby:Src K mg "ask_size" Oe ["high","wide"]) (Qbk:Src K mg "ask_part" Lb ["picture","top","left","high","wide"]) (ybK:Src K mg "part_of" Lh ["picture","top","left","high","wide"]) (Za9:Src K mg "ask_mosts" J7 ["one","other"]) (qat:Src K mg "threshold_at" yN ["tile","row","column"]) (Qbl:Src K mg "level_of" Ky ["tile","level"]) (Ybq:Src K mg "ask_inks" Px ["inks","most"]) (qaP:Src K mg "ask_rising" Z8 ["inks"]) (ZW:Src K mg "screened" yz ["picture","tile","inks","top","left"]) (Yb7:Src K mg "dot_of" Kz ["shade","threshold","count","inks"]) (zZ:Src K mg "written_picture" QC ["picture"]) (Zau:Src K mg "written_rows" ZO ["head","rows"]) (zY:Src K mg "written_numbers" ZD ["numbers"]) (qau:Src K mg "read_picture" QO ["text"]) (Ya8:Src K mg "read_tile" PD ["text"]) (ZaB:Src K mg "read_numbers" zM ["text"]) (za4:Src K mg "read_rows" Mr ["text"]) (YaT:Src K mg "numbers_in" q0 ["row","line"]) (zba:Src K mg "is_number" OW ["word"]) (Yaj:Src K mg "screened_text" zK ["picture_text","tile_text","inks_text"]) (yb0:Src K mg "cut_up" O4 ["picture","high","wide"]) (Yat:Src K mg "put_together" zL ["pieces"]) (ZaY:Src K mg "ask_pieces" Y1 ["pieces"]) (Ya2:Src K mg "least_size" YX ["pieces"]) (Zbt:Src K mg "cells_of" K7 ["picture"]) (QbL:Src K mg "rows_of" Li ["pieces","size"]) (Ya0:Src K mg "lay_shades" QX ["line","left","shades"]) (qao:Src K mg "doubled_tile" yL ["times"]) (qaH:Src K mg "quarter_row" qU ["row","more"]) (zaF:Src K mg "spread_tile" QT ["high","wide"]) (ybt:Src K mg "distance" Mm ["one","other","high","wide"]) (yaU:Src K mg "round_edge" Z6 ["far","side"]) (qa3:Src K mg "_law_next" Oi ["_law_script","_law_at"]) (Qbu:Src K mg "_law_any" K5 ["_law_script","_law_at","_law_room"]) (ybe:Src K mg "_law_rule" OX ["_law_shade","_law_threshold","_law_count","_law_inks"]) (zbi:Src K mg "_law_dots" Pz ["_law_rows","_law_count","_law_tile_rows","_law_inks","_law_top","_law_left"]) (Y4:Src K mg "_law_drawn_most" yC ["_law_script","_law_at"]) (Z0:Src K mg "_law_drawn_inks" YB ["_law_script","_law_at","_law_most"]) (Qbg:Src K mg "_law_text" OU ["_law_head","_law_rows"]) (Q6:Src K mg "_law_drawn_rows" qB ["_law_script","_law_at","_law_most"]) (YaF:Src K mg "_law_darker" zV ["_law_script","_law_at","_law_rows","_law_most"]) (zbf:Src K mg "_law_flat" Mq ["_law_script","_law_at","_law_tile","_law_inks","_law_most"]) (qS:Src K mg "_law_nowhere_less" yx ["_law_rows","_law_others"]) (S_law:Src K mg "law" Q3 ["_law_script"]) (SD_screened_0:sI K mg "screened" yz ["picture","tile","inks","top","left"] [0,0])
  (zb:∀ x∈(["abs","all","bool","dict","divmod","enumerate","int","isinstance","len","list","max","min","range","reversed","set","sorted","str","sum","tuple","zip"]:List Str),Wp K aB x=some none)
  (gn:Uq K (.builtin "object.__class__") "__get__"=some (some (.builtin "getset_descriptor.__get__")))
  (tk:Xt K (.builtin "object.__class__")=some true)
  (kC_Picture:CK K "Picture" Yo Ybv)
  (Qan:Ve K (.ref Yo) "most"=some none)
  (zao:Ve K (.ref Yo) "rows"=some none)
  (kC_Tile:CK K "Tile" QD Zcr)
  (zaZ:Ve K (.ref QD) "count"=some none)
  (Ybe:Ve K (.ref QD) "rows"=some none)
  (ik_Picture:IK K Yo Le)
  (fi_Picture:FE K "__init__" "Picture.__init__" Qz Le)
  (ik_Tile:IK K QD KA)
  (fi_Tile:FE K "__init__" "Tile.__init__" QJ KA)
  (qbm:Wp K aB "FIGURES"=some (some (.str "0123456789" Zbp)))
  (Yal:Wp K aB "MOST_FIGURES"=some (some (.int 30 Qak)))
  (al:Wp K aB "law"=some (some (.ref HU)))
  (ll:K.lookup HU=some ⟨ZcJ,ycU,.func (wg "law" "law" (zk Q3) (Zh Q3) (yc Q3) .none L6 Pr K4 N8 Iq Mj),YcM⟩)
  (kl:uk K Iq "law"=true)
  (kq:Ug K (.ref HU)=true) :
  ∃ fd:a8,(∀(s:Shared)(v:Value),eA s fd ⟨[v],[]⟩ [("_law_script",v)])/\∀ base:Heap,K.In base->base.Ns aB mg->fk l.prog w K mg base (kH l.prog w) 14 fa fd ["_law_script"] (Dx K):=by
 have e:=Nl.symm.trans (Vp X G al);cases e;have Fl:=HZ (st:=Q3) ll kl kq;have TM:sD (B2 K mg prog (pb K Yo QD)) nk:=⟨Mi X G kC_Picture fi_Picture ik_Picture (λ_ _ _ _ _ _ us hl=>by obtain⟨_,_,_,rfl⟩:=CB hl;rfl) YV rfl,Mi X G kC_Tile fi_Tile ik_Tile (λ_ _ _ _ _ _ us hl=>by obtain⟨_,_,_,rfl⟩:=CB hl;rfl) Yak rfl,trivial⟩;have TS:sD (BJ K mg (pb K Yo QD)) pE:=trivial;have T:Text K mg prog (pb K Yo QD):=by
  refine⟨rfl,?_,?_,?_,?_,?_,?_,?_,?_,?_,?_,?_,?_,?_,?_,?_,?_,?_⟩
  ·exactλf d hd i8=>Oq (L:=pY) (P:=λf d=>f.toList.contains '.'=false->∃ st N ps,Src K mg (kg f) st ps/\(yf prog d N ps st=true\/KI K mg prog (pb K Yo QD) f ps)) (by
   refine⟨?_,?_,?_,?_,?_,?_,?_,?_,?_,?_,?_,?_,?_,?_,?_,?_,?_,?_,?_,?_,?_,?_,?_,?_,?_,?_,?_,?_,?_,?_,?_,?_,?_,?_,?_,?_,?_,?_,?_,?_,?_,?_,?_,?_,?_,?_,?_,?_,?_,?_,?_,?_,?_,?_,trivial⟩
   ·exactλ_=>⟨_,_,_,zbt,.inl zbv⟩
   ·exactλ_=>⟨_,_,_,Ybn,.inl Zbv⟩
   ·exactλ_=>⟨_,_,_,qai,.inl zak⟩
   ·exactλi8=>absurd i8 (by decide)
   ·exactλ_=>⟨_,_,_,YcY,.inl qcP⟩
   ·exactλ_=>⟨_,_,_,zcR,.inl zcW⟩
   ·exactλ_=>⟨_,_,_,ybT,.inl ZbP⟩
   ·exactλ_=>⟨_,_,_,Ybk,.inl zbo⟩
   ·exactλ_=>⟨_,_,_,Ybu,.inl ybu⟩
   ·exactλ_=>⟨_,_,_,Yby,.inl ybo⟩
   ·exactλ_=>⟨_,_,_,Qbk,.inl qbk⟩
   ·exactλ_=>⟨_,_,_,ybK,.inl QbG⟩
   ·exactλ_=>⟨_,_,_,Za9,.inl ya7⟩
   ·exactλi8=>absurd i8 (by decide)
   ·exactλ_=>⟨_,_,_,qat,.inl qaw⟩
   ·exactλ_=>⟨_,_,_,Qbl,.inl ybp⟩
   ·exactλ_=>⟨_,_,_,Ybq,.inl Zbq⟩
   ·exactλ_=>⟨_,_,_,qaP,.inl Za1⟩
   ·exactλ_=>⟨_,_,_,ZW,.inl K8⟩
   ·exactλ_=>⟨_,_,_,Yb7,.inl yb9⟩
   ·exactλ_=>⟨_,_,_,zZ,.inl yZ⟩
   ·exactλ_=>⟨_,_,_,Zau,.inl Qao⟩
   ·exactλ_=>⟨_,_,_,zY,.inl Y7⟩
   ·exactλ_=>⟨_,_,_,qau,.inl zar⟩
   ·exactλ_=>⟨_,_,_,Ya8,.inl Za7⟩
   ·exactλ_=>⟨_,_,_,ZaB,.inl QaA⟩
   ·exactλ_=>⟨_,_,_,za4,.inl za8⟩
   ·exactλ_=>⟨_,_,_,YaT,.inl za3⟩
   ·exactλ_=>⟨_,_,_,zba,.inl zbg⟩
   ·exactλ_=>⟨_,_,_,Yaj,.inl zaj⟩
   ·exactλ_=>⟨_,_,_,yb0,.inl Zcb⟩
   ·exactλ_=>⟨_,_,_,Yat,.inl QaB⟩
   ·exactλ_=>⟨_,_,_,ZaY,.inl YaZ⟩
   ·exactλ_=>⟨_,_,_,Ya2,.inl YaO⟩
   ·exactλ_=>⟨_,_,_,Zbt,.inl ybn⟩
   ·exactλ_=>⟨_,_,_,QbL,.inl qbI⟩
   ·exactλ_=>⟨_,_,_,Ya0,.inl QaY⟩
   ·exactλ_=>⟨_,_,_,qao,.inl Zao⟩
   ·exactλ_=>⟨_,_,_,qaH,.inl QaC⟩
   ·exactλ_=>⟨_,_,_,zaF,.inl YaH⟩
   ·exactλ_=>⟨_,_,_,ybt,.inl zby⟩
   ·exactλ_=>⟨_,_,_,yaU,.inl zaS⟩
   ·exactλ_=>⟨_,_,_,qa3,.inl Ybf⟩
   ·exactλ_=>⟨_,_,_,Qbu,.inl Ybr⟩
   ·exactλ_=>⟨_,_,_,ybe,.inl qa4⟩
   ·exactλ_=>⟨_,_,_,zbi,.inl Zbf⟩
   ·exactλ_=>⟨_,_,_,Y4,.inl Z5⟩
   ·exactλ_=>⟨_,_,_,Z0,.inl Z1⟩
   ·exactλ_=>⟨_,_,_,Qbg,.inl Ybg⟩
   ·exactλ_=>⟨_,_,_,Q6,.inl QZ⟩
   ·exactλ_=>⟨_,_,_,YaF,.inl yaH⟩
   ·exactλ_=>⟨_,_,_,zbf,.inl Ybj⟩
   ·exactλ_=>⟨_,_,_,qS,.inl YR⟩
   ·exactλ_=>⟨_,_,_,S_law,.inl NS⟩) hd i8
  ·exactλc f hi=>qcL TM hi
  ·intro x hx;simp only[cX,dA,aX,xp,Wd,ua,uc,or_false] at hx
   rcases hx with rfl|rfl|rfl|rfl|rfl|rfl|rfl|rfl|rfl|rfl|rfl|rfl|rfl|rfl|rfl|rfl|rfl|rfl|rfl|rfl|rfl
   all_goals exact PySem.W.mg_none_of X G (zb _ (by simp))
  ·intro c f hf;simp only[prog] at hf;split at hf
   ·exact⟨⟨kC_Picture.pg,kC_Picture.hd,kC_Picture.po,kC_Picture.sa⟩,Qan⟩
   ·exact⟨⟨kC_Picture.pg,kC_Picture.hd,kC_Picture.po,kC_Picture.sa⟩,zao⟩
   ·exact⟨⟨kC_Tile.pg,kC_Tile.hd,kC_Tile.po,kC_Tile.sa⟩,zaZ⟩
   ·exact⟨⟨kC_Tile.pg,kC_Tile.hd,kC_Tile.po,kC_Tile.sa⟩,Ybe⟩
   ·cases hf
  ·exactλc t b hs=>HN (t:=t) TS hs gn tk
  ·exactλc t b hs ht=>((Qu TS hs).2.2.1 ht).2
  ·exactλc t b hs ht=>(Qu TS hs).2.2.2 ht
  ·exactλt c b hs ht TT hTT=>tyT (c:=c) TS hs ht hTT
  ·exactλc hc=>nomatch (show false=true from hc)
  ·intro wd hw;simp only[prog] at hw;cases hw
  ·exactλt ht=>nomatch (show false=true from ht)
  ·exactλc t b hs=>nomatch (show none=some b from hs)
  ·intro f ds hf;have hf:=of_decide_eq_true (show decide ((f,ds)∈_)=true from hf);simp only[ua,Kt.injEq,uc,or_false] at hf
   rcases hf with ⟨rfl,rfl⟩
   ·obtain⟨fa,fd,dG,F,b,vd,m⟩:=SD_screened_0;exact⟨_,_,_,_,fa,fd,dG,rfl,F,b,vd,m,K8⟩
  ·exactλc m f hm _=>QcE TM hm
  ·exactλc hc=>nomatch (show false=true from hc)
  ·intro x i hx;simp only[prog] at hx;split at hx
   ·cases hx;exact⟨_,Vp X G qbm⟩
   ·cases hx;exact⟨_,Vp X G Yal⟩
   ·cases hx
  ·exactλh=>nomatch (show false=true from h)
 exact⟨wg "law" "law" (zk Q3) (Zh Q3) (yc Q3) .none L6 Pr K4 N8 Iq Mj,λs v=>.of_eq rfl,λbase kb _=>qcJ (n:=6) T kb (λz=>absurd rfl z) Fl rfl NS (λns hl=>MP.oA 0 ns hl)⟩
end SD
open PySem PySem.W PyProof.Rows L2 L3 M3 SD
set_option maxRecDepth 100000 in
set_option maxHeartbeats 0 in
theorem PySem.Challenge.cw_dotscreen_k92_whole_screen_holds : PySem.Challenge.rw_dotscreen_k92_whole_screen.Holds := by
 w_on;o_law;k_head;(case hw=>w_witness2)
 k_fill
 refine SD.walk (l:=PySem.Challenge.rw_dotscreen_k92_whole_screen) (k:=14) rfl rfl ⟨rfl,by decide,by decide⟩ (λw h Y=>PySem.W.kIn_of Y) ?F
 case F =>
  intro w mg fa h KX G AJ;have ZW:Src (L2.og KX) mg "screened" yz ["picture","tile","inks","top","left"]:=by
   dsimp only[L2.og];refine' SD.ox KX G ?a ?l ?c ?k ?lt ?hs ?hb
   (case a=>k_is);(case l=>k_is);(case c=>k_is);(case k=>k_is);(case lt=>k_is);(case hs=>rfl)
   (case hb=>exactλus hl=>match us,hl with | [_,_,_,_,_],_=>⟨_,rfl,rfl⟩)
  have SD_screened_0:sI (L2.og KX) mg "screened" yz ["picture","tile","inks","top","left"] [0,0]:=by
   dsimp only[L2.og];refine' SD.oy 0 3 KX G ?a ?l ?c ?k ?lt ?hs ?hv ?hm ?hb
   (case a=>k_is);(case l=>k_is);(case c=>k_is);(case k=>k_is);(case lt=>k_is);(case hs=>rfl);(case hv=>exact(.cons ⟨_,rfl⟩ (.cons ⟨_,rfl⟩ .nil)));(case hm=>rfl)
   (case hb=>exactλus hl=>match us,hl with | [_,_,_],_=>⟨_,rfl,rfl⟩)
  refine' SD.all_mk KX G AJ ?s0 ?s1 ?s2 ?s3 ?s4 ?s5 ?s6 ?s7 ?s8 ?s9 ?sW ?s11 ?s12 ?s13 ?s14 ?s15 ZW ?s17 ?s18 ?s19 ?s20 ?s21 ?s22 ?s23 ?s24 ?s25 ?s26 ?s27 ?s28 ?s29 ?s30 ?s31 ?s32 ?s33 ?s34 ?s35 ?s36 ?s37 ?s38 ?s39 ?s40 ?s41 ?s42 ?s43 ?s44 ?s45 ?s46 ?s47 ?s48 ?s49 ?s50 ?s51 SD_screened_0 ?x0 ?x1 ?x2 ?x3 ?x4 ?x5 ?x6 ?x7 ?x8 ?x9 ?x10 ?x11 ?x12 ?x13 ?x14 ?x15 ?x16 ?x17 ?x18
  (case s0|s3|s4|s5|s15|s18|s20|s21|s22|s23|s24|s26|s29|s30|s31|s32|s35|s51 =>
   try dsimp only[L2.og]
   refine' SD.iw KX G (λ_ _ _ _ _ _ us hl=>by obtain⟨_,rfl⟩:=SD.MM hl;rfl) ?a ?l ?c ?k
   (case a|l|c|k=>k_is))
  (case s1|s12|s27|s28|s34|s41|s45|s47 =>
   try dsimp only[L2.og]
   refine' SD.iw KX G (λ_ _ _ _ _ _ us hl=>by obtain⟨_,_,_,rfl⟩:=SD.CB hl;rfl) ?a ?l ?c ?k
   (case a|l|c|k=>k_is))
  (case s2|s6|s7|s8|s11|s13|s14|s19|s25|s33|s36|s37|s39|s40|s44|s46|s50 =>
   try dsimp only[L2.og]
   refine' SD.iw KX G (λ_ _ _ _ _ _ us hl=>by obtain⟨_,_,rfl⟩:=SD.ln2 hl;rfl) ?a ?l ?c ?k
   (case a|l|c|k=>k_is))
  (case s9|sW|s49 =>
   try dsimp only[L2.og]
   refine' SD.iw KX G (λ_ _ _ _ _ _ us hl=>by obtain⟨_,_,_,_,_,rfl⟩:=SD.MJ hl;rfl) ?a ?l ?c ?k
   (case a|l|c|k=>k_is))
  (case s17|s38|s42|s48 =>
   try dsimp only[L2.og]
   refine' SD.iw KX G (λ_ _ _ _ _ _ us hl=>by obtain⟨_,_,_,_,rfl⟩:=SD.ML hl;rfl) ?a ?l ?c ?k
   (case a|l|c|k=>k_is))
  (case s43 =>
   try dsimp only[L2.og]
   refine' SD.iw KX G (λ_ _ _ _ _ _ us hl=>by obtain⟨_,_,_,_,_,_,rfl⟩:=SD.ln6 hl;rfl) ?a ?l ?c ?k
   (case a|l|c|k=>k_is))
  (case x3|x6=>
   refine' SD.CK.mk ?a ?b ?c ?d ?e ?f ?g ?h ?i ?j ?k ?l ?m ?n ?o ?z
   (case a|b|c|d|e|f|g|h|i|j|k|l|m|n|o|z=>k_is))
  (case x1|x2|x4|x5|x7|x8|x13|x14|x15|x16|x17|x18=>k_is)
  (case x9|x11=>
   refine' SD.IK.mk ?a ?b ?c
   (case a|b|c=>k_is))
  (case x10|x12=>
   refine'⟨_,_,_,_,_,_,_,_,_,SD.FK.mk ?a ?b ?c ?d⟩
   (case a|b|c|d=>k_is))
  (case x0=>intro z hz;simp only[ua,uc,or_false] at hz;rcases hz with rfl|rfl|rfl|rfl|rfl|rfl|rfl|rfl|rfl|rfl|rfl|rfl|rfl|rfl|rfl|rfl|rfl|rfl|rfl|rfl <;> k_is)
end