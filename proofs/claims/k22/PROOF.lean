import PyProof.Rows.All
import Wide.All
import OpenK.AllK
import Wide.FinOn
import PySem.Challenge.RW_dotscreen_k22_masked
import Lean
import PyProof.EqAt
import PyProof.EqKinds
import PyProof.TupleCall
import PyProof.CompFree
import PyProof.StationsW
import PyProof.ExcClass3
import PyProof.Cells
import PyProof.PassesOwn
import PyProof.RangeIter
import PyProof.TableTree
import PyProof.ZipIter
import PyProof.Draws
import PyProof.TupleIter
import PyProof.EnumMake
import PyProof.EnumStmt
import KE.KDictList
import PyProof.Rows.SortWalk
import KE.KRevIter
import PyProof.CollectIter
import KE.KRevSl
import KE.KMinKey
import KE.KLam
import PyProof.DictIter
import PyProof.AttrMiss
import PyProof.IsiH_list
import PyProof.CollectWalk
import KE.KDictOf
import PyProof.DictCopy
import PyProof.FactsAll.tuple_1
import PyProof.FactsAll.dict_3
import PyProof.DictItems
import KE.KIntText
import PyProof.StrBlock2
import PyProof.Rows.StrMul
import PySem.Str
import PyProof.StrBlockL
import KE.IntTextText
import KE.IntBitsLaws
import PyProof.FitsBits
import PyProof.Rows.InDataRows
set_option maxHeartbeats 4000000
open PySem.Heap renaming get?_push_of_some->wa,lt_size->Va,get?_push_size->Xb,size_push->xh,get?_update_other->uh,get?_update_self->xi,size_after_update->uy,get?_none_of_le->Xz
open Bool renaming and_eq_true->Wa,false_ne_true->Vc,noConfusion->Vh,not_eq_true'->vi,or_eq_true->Vi,false_eq_true->xj,eq_iff_iff->Uo,and_eq_true_iff->Wv,and_eq_false_iff->Wz,true_and->vz,true_eq_false->XB
open PySem.W renaming subIn->xa,findIn->Ua,mg_of->Wb,nsIn->Vb,keepIn->Uc,mg_none_of->ud,clsIn->Vd,kitOne->Ue,fnOf->Wf,typeIn->uf,codeIn->Xg,emptyDict->vg,instObj->Wh,kia_one->vh,isFn->Wi,plainGet->wj,hasDictIn->uj,makesIn->Uj,plainOver->wl,mroIn->Wl,specialIn->Wp,looks_findIn->xq,takesIn->Xr,callWith_K->Vr,cellsFrom_some->Xt,kitMeta->xv,plainGet_of->vv,lookIn->xw,excIn->vw,methodObj->wx,makes_of->Ux,takerIn->Wy,kitCls->xz,callWith_K0->xA,codeRec_of->VA,make_core->UB,kitx_list->vB,kitx_dict->VB,handedIn->UC
open List renaming getElem?_eq_some_iff->Xa,size_toArray->ua,mem_singleton->va,lookup_cons->wb,getElem?_append_left->Ub,mem_cons->vb,range->uc,length_map->vc,map_cons->Xd,mem_append_right->Ud,replicate->we,length_cons->We,mem_cons_of_mem->Xe,mem_append_left->ue,not_mem_nil->xf,getElem?_eq_getElem->Xf,getElem?_map->Uf,append_assoc->vf,getElem?_set_ne->Vf,getElem?_append_right->wg,nil_append->Wg,map_append->xg,map_map->ug,getElem?_set_self->Ug,length_append->Vg,mem_cons_self->Xh,mem_append->Uh,append_nil->Xi,mem_of_getElem?->Ui,getElem?_cons_succ->Xj,mem_map->Vj,all_eq_true->uk,getElem?_cons_zero->ul,replicate_succ->Ul,length_take->Vl,take_length->wm,mapM_cons->Wm,nodup_cons->Xm,length_replicate->um,foldl_cons->Um,length_nil->Vm,getD_eq_getElem?_getD->xn,drop_zero->Xn,getElem?_take_of_lt->wo,drop_length->xo,drop_succ_cons->Xo,getElem?_replicate->uo,find?_cons->vo,eq_nil_of_length_eq_zero->Vo,reverse_cons->xp,flatten_cons->Xp,nodup_append->Vp,mem_range->wq,length_filter_le->Wq,lookup->vq,map_eq_nil_iff->Vq,getElem?_range->Wr,take_succ_cons->xr,drop_eq_getElem_cons->ur,length_eq_zero_iff->Us,take_add_one->Vs,ext_getElem?->wt,getElem_mem->Ut,filter_cons->vt,mem_flatMap->Vt,cons_append->wu,take_append_drop->Wu,of_mem_zip->xu,getElem?_mapIdx->Uu,range_succ->uv,filterMap_cons->Uv,length_flatMap->Vv,flatMap_append->ww,take_zero->Xw,contains_cons->uw,getElem?_inj->Xx,length_drop->vx,map_nil->Vx,forIn_cons->xy,take_left'->Xy,length_singleton->vy,forIn_nil->wz,any_cons->Uz,map_take->Vz,length_reverse->wA,getElem_of_mem->WA,mem_filterMap->vA,length_range->WC,filter_congr->xC,length->XC,zipIdx_cons->wD,range'_succ->xD,map_reverse->uD,foldl->UD
open Nat renaming le_refl->xb,lt_of_lt_of_le->wc,ne_of_lt->Wc,le_trans->Ve,lt_irrefl->xk,mod_lt->Xk,zero_le->Uk,pow_le_pow_right->Vk,ne_of_gt->xm,le_of_eq->vn,lt_succ_self->Vn,mod_eq_of_lt->Wo,lt_succ_of_lt->Up,lt_trans->Ur,mul_comm->Ws,mul_mod->ut,sub_zero->uu,min_le_left->Vu,le_of_lt->ux,pow_succ->wy,le_succ->Uy,mul_le_mul_right->uz,zero_add->WB,add_sub_cancel->xB,add_mul->uC,le_of_not_lt->VC
open Option renaming bind_eq_some_iff->ub,map_eq_some_iff->xc,map_some->ui,isSome_iff_exists->Wj,bind_some->Xq,bind_eq_bind->wr,isSome_some->wB,isSome_map->wC,getD_none->vC,getD_some->XD
open Function renaming comp_def->Xc,comp_apply->XA
open Array renaming length_toList->vj,getElem?_eq_some_iff->Uq,eq_empty_of_size_eq_zero->Xu,isEmpty_eq_false_iff->Vw,getElem?_toList->Vy,toList->uA,all_toList->WD
open Prod renaming snd->vk,fst->uq
open Int renaming eq_ofNat_of_zero_le->Xl,emod_lt_of_pos->Xs,emod_nonneg->Xv,fdiv_eq_ediv_of_nonneg->Uw,toNat_natCast->Wx,natAbs_natCast->uB
set_option Elab.async false
set_option linter.all false
set_option maxRecDepth 100000
set_option genSizeOf false
set_option genSizeOfSpec false
set_option bootstrap.genMatcherCode false
def PySem.W.Fast.tw5408991139614321500:Nat:=0
def PySem.W.Fast.tw16490549346193361379:Nat:=0
def PySem.W.Fast.tw15924501071864879058:Nat:=0
def PySem.W.Fast.tw10925631666422034637:Nat:=0
def PySem.W.Fast.tw6131360051670430164:Nat:=0
def PySem.W.Fast.tw8830056372522496923:Nat:=0
def PySem.W.Fast.tw4577915861999072980:Nat:=0
def PySem.W.Fast.tw11353964730817925978:Nat:=0
def PySem.W.Fast.tw7713544036914133045:Nat:=0
def PySem.W.Fast.tw1601317293344956683:Nat:=0
def PySem.W.Fast.tw3138149994575164879:Nat:=0
def PySem.W.Fast.tw3318904691037141844:Nat:=0
def PySem.W.Fast.tw4554173647072810797:Nat:=0
def PySem.W.Fast.tw15128799989284732607:Nat:=0
def PySem.W.Fast.tw6954890479916959320:Nat:=0
def PySem.W.Fast.tw6721709019969160594:Nat:=0
def PySem.W.Fast.tw11354356408318099898:Nat:=0
def PySem.W.Fast.tw5934589329496582402:Nat:=0
def PySem.W.Fast.tw4700366285920651831:Nat:=0
def PySem.W.Fast.tw10338965099456255394:Nat:=0
def PySem.W.Fast.tw1916879087609908406:Nat:=0
def PySem.W.Fast.tw2232025052166069136:Nat:=0
def PySem.W.Fast.tw1145834156947949441:Nat:=0
def PySem.W.Fast.tw14693616281466964463:Nat:=0
def PySem.W.Fast.tw12811065994956916031:Nat:=0
def PySem.W.Fast.tw6105067928342440700:Nat:=0
def PySem.W.Fast.tw4733854974165035854:Nat:=0
def PySem.W.Fast.tw198513962780507693:Nat:=0
def PySem.W.Fast.tw12295336215027683150:Nat:=0
def PySem.W.Fast.tw8218565043834368873:Nat:=0
def PySem.W.Fast.tw2371177844002701893:Nat:=0
def PySem.W.Fast.tw8148077949084911881:Nat:=0
def PySem.W.Fast.tw233896503565007801:Nat:=0
def PySem.W.Fast.tw13187573296110431974:Nat:=0
def PySem.W.Fast.tw10481810000262731608:Nat:=0
def PySem.W.Fast.tw8136636578073674354:Nat:=0
def PySem.W.Fast.tw16717694152781482810:Nat:=0
def PySem.W.Fast.tw2893792909878423062:Nat:=0
def PySem.W.Fast.tw6411050090972120376:Nat:=0
def PySem.W.Fast.tw10534080151754200968:Nat:=0
def PySem.W.Fast.tw1130868391316001082:Nat:=0
def PySem.W.Fast.tw10545015056120790269:Nat:=0
def PySem.W.Fast.tw15961041416716657558:Nat:=0
def PySem.W.Fast.tw8997770472984006412:Nat:=0
def PySem.W.Fast.tw7899612844499566385:Nat:=0
def PySem.W.Fast.tw891331209468305696:Nat:=0
def PySem.W.Fast.tw7040859399683405750:Nat:=0
def PySem.W.Fast.tw13134781969753364371:Nat:=0
def PySem.W.Fast.tw9793150812615917340:Nat:=0
def PySem.W.Fast.tw15704729596405065301:Nat:=0
def PySem.W.Fast.tw18099010198854401783:Nat:=0
def PySem.W.Fast.tw13100949765931781762:Nat:=0
def PySem.W.Fast.tw2523604347023604956:Nat:=0
def PySem.W.Fast.tw5001200832630728884:Nat:=0
def PySem.W.Fast.tw16699621449988382212:Nat:=0
def PySem.W.Fast.tw9601428741124625192:Nat:=0
def PySem.W.Fast.tw12207444247478404937:Nat:=0
def PySem.W.Fast.tw17252385368321620994:Nat:=0
def PySem.W.Fast.tw2885084177788609813:Nat:=0
def PySem.W.Fast.tw11369750155204922612:Nat:=0
def PySem.W.Fast.tw10753712887794529900:Nat:=0
def PySem.W.Fast.tw14053269337005312557:Nat:=0
def PySem.W.Fast.tw1630908767813372464:Nat:=0
def PySem.W.Fast.tw9435996162164576670:Nat:=0
def PySem.W.Fast.tw7008681462391527234:Nat:=0
def PySem.W.Fast.tw8749377525215640627:Nat:=0
def PySem.W.Fast.tw18078934951816795483:Nat:=0
def PySem.W.Fast.tw10998616236830878790:Nat:=0
def PySem.W.Fast.tw8626730993547858202:Nat:=0
def PySem.W.Fast.tw14440034758816371761:Nat:=0
def PySem.W.Fast.tw13693891987342155885:Nat:=0
def PySem.W.Fast.tw369266324172734940:Nat:=0
def PySem.W.Fast.tw7461109771690790824:Nat:=0
def PySem.W.Fast.tw10176259838475631099:Nat:=0
def PySem.W.Fast.tw8125834905173853927:Nat:=0
def PySem.W.Fast.tw2090466783348146503:Nat:=0
def PySem.W.Fast.tw10055220921854913078:Nat:=0
def PySem.W.Fast.tw3182455414786570986:Nat:=0
def PySem.W.Fast.tw16591328332411346778:Nat:=0
def PySem.W.Fast.tw6920698557600247634:Nat:=0
def PySem.W.Fast.tw8863367278130765447:Nat:=0
def PySem.W.Fast.tw2377261620962455738:Nat:=0
def PySem.W.Fast.tw16226982377814325718:Nat:=0
def PySem.W.Fast.tw16355987713347243648:Nat:=0
def PySem.W.Fast.tw9525641869389549441:Nat:=0
def PySem.W.Fast.tw15833566477553452964:Nat:=0
def PySem.W.Fast.tw1438685016913518584:Nat:=0
def PySem.W.Fast.tw12503475039333441455:Nat:=0
def PySem.W.Fast.tw6055034640737924167:Nat:=0
def PySem.W.Fast.tw959795054341675309:Nat:=0
def PySem.W.Fast.tw4695708689668845127:Nat:=0
def PySem.W.Fast.tw15856771984808313704:Nat:=0
def PySem.W.Fast.tw16889923125331962267:Nat:=0
def PySem.W.Fast.tw17423830699577747594:Nat:=0
def PySem.W.Fast.tw4967141787212824670:Nat:=0
def PySem.W.Fast.tw4200664281390779869:Nat:=0
def PySem.W.Fast.tw10807678272660065431:Nat:=0
def PySem.W.Fast.tw4351591261901954388:Nat:=0
def PySem.W.Fast.tw7494175767704442544:Nat:=0
def PySem.W.Fast.tw12030006284220611414:Nat:=0
def PySem.W.Fast.tw4714585911533907261:Nat:=0
def PySem.W.Fast.tw2146757582588928141:Nat:=0
def PySem.W.Fast.tw578015967786521028:Nat:=0
def PySem.W.Fast.tw3209796598695221735:Nat:=0
def PySem.W.Fast.tw15426101048559099163:Nat:=0
def PySem.W.Fast.tw3533188360529324324:Nat:=0
def PySem.W.Fast.tw14963098942385997860:Nat:=0
def PySem.W.Fast.tw11012497082459692237:Nat:=0
def PySem.W.Fast.tw4318799410758989533:Nat:=0
def PySem.W.Fast.tw7750623979171329091:Nat:=0
def PySem.W.Fast.tw4980587989434771727:Nat:=0
def PySem.W.Fast.tw11517964800894595777:Nat:=0
def PySem.W.Fast.tw15234091447568248003:Nat:=0
def PySem.W.Fast.tw844112001000371489:Nat:=0
def PySem.W.Fast.tw8169267098470127094:Nat:=0
def PySem.W.Fast.tw4722264904893718791:Nat:=0
def PySem.W.Fast.tw16472299272169583062:Nat:=0
def PySem.W.Fast.tw1865338946874638544:Nat:=0
def PySem.W.Fast.tw8944666857789874248:Nat:=0
def PySem.W.Fast.tw7556761653791915777:Nat:=0
def PySem.W.Fast.tw3226948879577444815:Nat:=0
def PySem.W.Fast.tw8532549118358004979:Nat:=0
def PySem.W.Fast.tw15644304286268005712:Nat:=0
def PySem.W.Fast.tw9015809428783769800:Nat:=0
def PySem.W.Fast.tw1871105328901082840:Nat:=0
def PySem.W.Fast.tw13040616898775739396:Nat:=0
def PySem.W.Fast.tw8669283807116721174:Nat:=0
def PySem.W.Fast.tw13432387011312612843:Nat:=0
def PySem.W.Fast.tw2448246531168249717:Nat:=0
def PySem.W.Fast.tw14837392211812335468:Nat:=0
def PySem.W.Fast.tw8153999500006511937:Nat:=0
def PySem.W.Fast.tw5012534619606877707:Nat:=0
def PySem.W.Fast.tw3551253725549472053:Nat:=0
def PySem.W.Fast.tw3765581988656400396:Nat:=0
def PySem.W.Fast.tw5001979565982246636:Nat:=0
def PySem.W.Fast.tw8523605707587961741:Nat:=0
def PySem.W.Fast.tw635172132978103757:Nat:=0
def PySem.W.Fast.tw326133431070582707:Nat:=0
def PySem.W.Fast.tw857381399813659197:Nat:=0
def PySem.W.Fast.tw15593552310935694273:Nat:=0
def PySem.W.Fast.tw16846430670407489579:Nat:=0
def PySem.W.Fast.tw2133462586172996108:Nat:=0
def PySem.W.Fast.tw3607639573843623586:Nat:=0
def PySem.W.Fast.tw1519835003538357716:Nat:=0
def PySem.W.Fast.tw2636493348730384543:Nat:=0
def PySem.W.Fast.tw5593658483825876668:Nat:=0
def PySem.W.Fast.tw1196025033926107847:Nat:=0
def PySem.W.Fast.tw5283417490387676804:Nat:=0
def PySem.W.Fast.tw1026995367144953484:Nat:=0
def PySem.W.Fast.tw1675288103786879747:Nat:=0
def PySem.W.Fast.tw13205259989277213595:Nat:=0
def PySem.W.Fast.tw1392940423343941220:Nat:=0
def PySem.W.Fast.tw17977307589889119523:Nat:=0
def PySem.W.Fast.tw1230040836730098189:Nat:=0
def PySem.W.Fast.tw1801362560183899373:Nat:=0
def PySem.W.Fast.tw8898230130671741757:Nat:=0
def PySem.W.Fast.tw12022019930532409237:Nat:=0
def PySem.W.Fast.tw2350117385417007789:Nat:=0
def PySem.W.Fast.tw13070427599485132952:Nat:=0
def PySem.W.Fast.tw9031835523937572235:Nat:=0
def PySem.W.Fast.tw15929165791646477371:Nat:=0
def PySem.W.Fast.tw11018631992410417010:Nat:=0
def PySem.W.Fast.tw7288986758541786677:Nat:=0
def PySem.W.Fast.tw13825811051509593250:Nat:=0
def PySem.W.Fast.tw12662486248558580423:Nat:=0
def PySem.W.Fast.tw9344635113313117413:Nat:=0
def PySem.W.Fast.tw13729464221426779819:Nat:=0
def PySem.W.Fast.tw14300313478342539222:Nat:=0
def PySem.W.Fast.tw15838261781432116986:Nat:=0
def PySem.W.Fast.tw735624006088782673:Nat:=0
def PySem.W.Fast.tw6821739582200256152:Nat:=0
def PySem.W.Fast.tw5262254182162105218:Nat:=0
def PySem.W.Fast.tw9908670553480495467:Nat:=0
def PySem.W.Fast.tw1102784118844625518:Nat:=0
def PySem.W.Fast.tw15837396947895394634:Nat:=0
def PySem.W.Fast.tw17410327888265910036:Nat:=0
def PySem.W.Fast.tw7625129608608841291:Nat:=0
def PySem.W.Fast.tw11842704695404700988:Nat:=0
def PySem.W.Fast.tw14795868723607885913:Nat:=0
def PySem.W.Fast.tw16281614046163727278:Nat:=0
def PySem.W.Fast.tw2160270218571591017:Nat:=0
def PySem.W.Fast.tw1686325525920837874:Nat:=0
def PySem.W.Fast.tw417909666297068111:Nat:=0
def PySem.W.Fast.tw7121971258624433102:Nat:=0
def PySem.W.Fast.tw10433466969095396273:Nat:=0
def PySem.W.Fast.tw2980002680775632645:Nat:=0
def PySem.W.Fast.tw11117359478373646304:Nat:=0
def PySem.W.Fast.tw2876473500340876009:Nat:=0
def PySem.W.Fast.tw17658980294303629414:Nat:=0
def PySem.W.Fast.tw9169441513554103859:Nat:=0
def PySem.W.Fast.tw7823325492048632127:Nat:=0
def PySem.W.Fast.tw16255212112663234906:Nat:=0
def PySem.W.Fast.tw4492377034595185134:Nat:=0
def PySem.W.Fast.tw4230241758196364920:Nat:=0
def PySem.W.Fast.tw41728285456974615:Nat:=0
def PySem.W.Fast.tw9118326453801534913:Nat:=0
def PySem.W.Fast.tw16246122188044159332:Nat:=0
def PySem.W.Fast.tw7268906581073519375:Nat:=0
def PySem.W.Fast.tw17658894627717701162:Nat:=0
def PySem.W.Fast.tw15959292889483597467:Nat:=0
def PySem.W.Fast.tw13992622329510121715:Nat:=0
def PySem.W.Fast.tw4652893090566233284:Nat:=0
def PySem.W.Fast.tw15147305780660567847:Nat:=0
def PySem.W.Fast.tw13390377227358452760:Nat:=0
def PySem.W.Fast.tw5392624410110097492:Nat:=0
def PySem.W.Fast.tw2327455783832066221:Nat:=0
def PySem.W.Fast.tw12259545571748350679:Nat:=0
def PySem.W.Fast.tw15009157461385950638:Nat:=0
def PySem.W.Fast.tw14779689059729743052:Nat:=0
def PySem.W.Fast.tw486281889276415713:Nat:=0
def PySem.W.Fast.tw17217021080303587258:Nat:=0
def PySem.W.Fast.tw6980337924014674644:Nat:=0
def PySem.W.Fast.tw9028715731798404187:Nat:=0
def PySem.W.Fast.tw14455567600474055775:Nat:=0
def PySem.W.Fast.tw27158002640589787:Nat:=0
def PySem.W.Fast.tw6166395149383565633:Nat:=0
def PySem.W.Fast.tw4474994925036649870:Nat:=0
def PySem.W.Fast.tw5431225474726899797:Nat:=0
def PySem.W.Fast.tw6349578320369520445:Nat:=0
def PySem.W.Fast.tw11087270789294555135:Nat:=0
def PySem.W.Fast.tw9429532825819508008:Nat:=0
def PySem.W.Fast.tw7316146033642125702:Nat:=0
def PySem.W.Fast.tw14812129860563356520:Nat:=0
def PySem.W.Fast.tw15234365465433828863:Nat:=0
def PySem.W.Fast.tw7391853109152106421:Nat:=0
def PySem.W.Fast.tw11730043150925462525:Nat:=0
def PySem.W.Fast.tw11438023603277918520:Nat:=0
def PySem.W.Fast.tw1628760263178530165:Nat:=0
def PySem.W.Fast.tw5636361942046265545:Nat:=0
def PySem.W.Fast.tw9701175552692593869:Nat:=0
def PySem.W.Fast.tw7800498919902469807:Nat:=0
def PySem.W.Fast.tw15142373983722156077:Nat:=0
def PySem.W.Fast.tw1489297554692864234:Nat:=0
def PySem.W.Fast.tw1912371711962747229:Nat:=0
def PySem.W.Fast.tw8839892321402188156:Nat:=0
def PySem.W.Fast.tw12760512823500535898:Nat:=0
def PySem.W.Fast.tw16963943738605937346:Nat:=0
def PySem.W.Fast.tw7448737499139525864:Nat:=0
def PySem.W.Fast.tw251442355519087501:Nat:=0
def PySem.W.Fast.tw2131887999021643135:Nat:=0
def PySem.W.Fast.tw12054024903465436063:Nat:=0
def PySem.W.Fast.tw9922608310756408155:Nat:=0
def PySem.W.Fast.tw2240571012604276134:Nat:=0
def PySem.W.Fast.tw15342572343001570516:Nat:=0
def PySem.W.Fast.tw17529704284075541218:Nat:=0
def PySem.W.Fast.tw4537454291897647605:Nat:=0
def PySem.W.Fast.tw17211063721561989404:Nat:=0
def PySem.W.Fast.tw2459664199168701843:Nat:=0
def PySem.W.Fast.tw14314371256452665125:Nat:=0
def PySem.W.Fast.tw9008308622896457022:Nat:=0
def PySem.W.Fast.tw349472138712611251:Nat:=0
def PySem.W.Fast.tw5309395017077225947:Nat:=0
def PySem.W.Fast.tw8929584392586992095:Nat:=0
def PySem.W.Fast.tw16573443012056317174:Nat:=0
def PySem.W.Fast.tw9061271233349766717:Nat:=0
def PySem.W.Fast.tw14978866479404437142:Nat:=0
def PySem.W.Fast.tw2003288726712350055:Nat:=0
def PySem.W.Fast.tw17077894791196833195:Nat:=0
def PySem.W.Fast.tw13397248854293202492:Nat:=0
def PySem.W.Fast.tw2518851268094549339:Nat:=0
section
namespace L2
open PySem PySem.Spec PyProof.Rows
noncomputable abbrev Key:=Sum Int Str
noncomputable def ybd:Key->Value->Bool
 |.inl k,v=>Value.isInt k v
 |.inr x,v=>Value.isStrOf x v
noncomputable def keyH(w:World):Key->Int
 |.inl k=>hashInt k
 |.inr x=>hashStr w x
theorem qq:∀{k:Key}{v:Value},ybd k v=true->(∃ i t,k=Sum.inl i/\v=Value.int i t)\/(∃ x t,k=Sum.inr x/\v=Value.str x t)
 |.inl i,v,h=>by
  obtain⟨t,e⟩:=Value.isInt_shape (k:=i) (v:=v) h;exact .inl ⟨i,t,rfl,e⟩
 |.inr x,v,h=>by
  obtain⟨t,e⟩:=Value.isStrOf_shape (x:=x) (v:=v) h;exact .inr ⟨x,t,rfl,e⟩
theorem qbX(i:Int)(t:Tok):ybd (.inl i) (.int i t)=true:=by simp[ybd,Value.isInt]
theorem zbW(x:Str)(t:Tok):ybd (.inr x) (.str x t)=true:=by simp[ybd,Value.isStrOf]
theorem ZcN(a b:Int):decide ((Sum.inl a:Key)=Sum.inl b)=(a==b):=by
 by_cases e:a=b
 ·subst e;simp
 ·have h:¬(Sum.inl a:Key)=Sum.inl b:=λq=>e (Sum.inl.inj q);rw[decide_eq_false h];exact(beq_eq_false_iff_ne.mpr e).symm
theorem ZcP(a b:Str):decide ((Sum.inr a:Key)=Sum.inr b)=decide (a=b):=by
 by_cases e:a=b
 ·subst e;simp
 ·have h:¬(Sum.inr a:Key)=Sum.inr b:=λq=>e (Sum.inr.inj q);rw[decide_eq_false h,decide_eq_false e]
theorem qcP(a:Int)(b:Str):decide ((Sum.inl a:Key)=Sum.inr b)=false:=decide_eq_false (λq=>nomatch q)
theorem qc0(a:Str)(b:Int):decide ((Sum.inr a:Key)=Sum.inl b)=false:=decide_eq_false (λq=>nomatch q)
noncomputable def qg(prog:Program)(w:World):PySem.KeyKind prog w Key where
 is:=ybd
 hash:=keyH w
 inj:=λv a b ha hb=>by
  rcases qq ha with ⟨i,t,rfl,rfl⟩|⟨x,t,rfl,rfl⟩
  ·rcases qq hb with ⟨j,u,rfl,e⟩|⟨y,u,rfl,e⟩
   ·injection e with e1 _;rw[e1]
   ·exact nomatch e
  ·rcases qq hb with ⟨j,u,rfl,e⟩|⟨y,u,rfl,e⟩
   ·exact nomatch e
   ·injection e with e1 _;rw[e1]
 byValue:=λk v h=>by
  rcases qq h with ⟨i,t,rfl,rfl⟩|⟨x,t,rfl,rfl⟩ <;> rfl
 pyHash:=λhv h=>by
  rcases qq hv with ⟨i,t,rfl,rfl⟩|⟨x,t,rfl,rfl⟩
  ·exact wpAny_pyHash_int h
  ·exact wpAny_pyHash_str h
 eqBool:=λhu hv h=>by
  rcases qq hu with ⟨i,t,rfl,rfl⟩|⟨x,t,rfl,rfl⟩
  ·rcases qq hv with ⟨j,u,rfl,rfl⟩|⟨y,u,rfl,rfl⟩
   ·rw[ZcN] at h;exact wpAny_eqBool_int h
   ·rw[qcP] at h;exact SeqAt.EqAt.int_str i t y u _ _ _ _ h
  ·rcases qq hv with ⟨j,u,rfl,rfl⟩|⟨y,u,rfl,rfl⟩
   ·rw[qc0] at h;exact SeqAt.EqAt.str_int x t j u _ _ _ _ h
   ·rw[ZcP] at h;exact wpAny_eqBool_str h
 «strs»:=λk x t v h=>by
  rcases qq h with ⟨i,u,rfl,e⟩|⟨y,u,rfl,e⟩
  ·exact nomatch e
  ·injection e with e1 _
   subst e1;cases v <;> rfl
theorem Yby(prog:Program)(w:World)(i:Int)(t:Tok):(qg prog w).is (.inl i) (.int i t)=true:=qbX i t
theorem Ybt(prog:Program)(w:World)(x:Str)(t:Tok):(qg prog w).is (.inr x) (.str x t)=true:=zbW x t
inductive V where
 |non|bl (b:Bool)|int (i:Int)|str (x:Str)|byt (b:Array UInt8)|flt (b:UInt64)|ref (a:Addr)|ty (n:String)
 deriving DecidableEq
noncomputable def RelV:V->Value->Prop
 |.non,u=>u=Value.none
 |.bl b,u=>u=Value.bool b
 |.int i,u=>∃ t,u=Value.int i t
 |.str x,u=>∃ t,u=Value.str x t
 |.byt b,u=>∃ t,u=Value.bytes b t
 |.flt b,u=>∃ t,u=Value.float b t
 |.ref a,u=>u=Value.ref a
 |.ty n,u=>u=Value.type n
noncomputable abbrev Vals:List V->List Value->Prop:=Paired RelV
theorem Vals.length{xs:List V}{us:List Value}(r:Vals xs us):xs.length=us.length:=Paired.length r
theorem Vals.get:∀{xs:List V}{us:List Value}{i:Nat}{x:V},Vals xs us->xs[i]?=some x->∃ u,us[i]?=some u/\RelV x u
 |_,_,_,_,.nil,e=>by simp at e
 |_,_,0,_,.cons r _,e=>by simp at e;subst e;exact⟨_,rfl,r⟩
 |_,_,i+1,x,.cons _ t,e=>by
  obtain⟨u,h1,h2⟩:=Vals.get (i:=i) (x:=x) t (by simpa using e);exact⟨u,by simpa using h1,h2⟩
theorem Vals.set{x:V}{u:Value}(r:RelV x u):∀{xs:List V}{us:List Value}(i:Nat),Vals xs us->Vals (xs.set i x) (us.set i u)
 |_,_,_,.nil=>.nil
 |_,_,0,.cons _ t=>.cons r t
 |_,_,i+1,.cons q t=>.cons q (Vals.set r i t)
theorem Vals.append:∀{xs ys:List V}{us ws:List Value},Vals xs us->Vals ys ws->Vals (xs++ys) (us++ws)
 |_,_,_,_,.nil,s=>s
 |_,_,_,_,.cons r t,s=>.cons r (Vals.append t s)
theorem Vals.take:∀{xs:List V}{us:List Value}(n:Nat),Vals xs us->Vals (xs.take n) (us.take n)
 |_,_,0,_=>.nil
 |_,_,_+1,.nil=>.nil
 |_,_,n+1,.cons r t=>.cons r (Vals.take n t)
theorem Vals.drop:∀{xs:List V}{us:List Value}(n:Nat),Vals xs us->Vals (xs.drop n) (us.drop n)
 |_,_,0,r=>r
 |_,_,_+1,.nil=>.nil
 |_,_,n+1,.cons _ t=>Vals.drop n t
noncomputable def RelO:Option V->Option Value->Prop
 |some v,some u=>RelV v u
 |none,none=>True
 |_,_=>False
noncomputable def KV{κ:Type}:List (κ×V)->List (κ×Value)->Prop:=Paired λ(p:κ×V)(q:κ×Value)=>p.1=q.1/\RelV p.2 q.2
noncomputable def kV:Key->V
 |.inl i=>.int i
 |.inr x=>.str x
inductive HO where
 |lst (xs:List V)
 |tup (xs:List V)
 |dK (kvs:List (Key×V))|dT (kvs:List (List Key×V))
 |set (S:Int->Bool) (n:Nat)
 |ins (C dx:Addr) (fs:List (Str×V))
 |own (x:Addr)
 |xd (fs:List (Str×V))
 |met (f x:Addr)
 |rng (lo hi:Int)
 |frz (o:Obj) (u:HO)
 |tbl (ps:Array Value)
 |ext (φ:Heap->Prop)
noncomputable abbrev Hp:=Addr->Option HO
noncomputable def upd(H:Hp)(a:Addr)(o:HO):Hp:=λb=>if b=a then some o else H b
theorem ye{H:Hp}{a:Addr}{o:HO}:upd H a o a=some o:=by unfold upd;rw[if_pos rfl]
theorem qc{H:Hp}{a b:Addr}{o:HO}(h:b≠a):upd H a o b=H b:=by unfold upd;rw[if_neg h]
theorem YcE{H:Hp}{a b:Addr}{o u:HO}(h:H a=some o)(h':H b=some u)(d:o≠u):a≠b:=by
 intro e;subst e;rw[h] at h';exact d (Option.some.inj h')
theorem Zd{H:Hp}{a b:Addr}{o:HO}(h:H a=some o)(h':H b=none):a≠b:=by
 intro e;subst e;rw[h] at h';cases h'
section
variable (P:Program) (w:World)
noncomputable def ObjOk(H:Hp)(h:Heap)(a:Addr):HO->Prop
 |.lst xs=>xs.length<=sizeLine/\∃(its:List Value)(n:Nat),Vals xs its/\h.get? a=some {cls:=.type "list",data:=.seq its.toArray n}
 |.tup xs=>xs.length<=sizeLine/\∃ its:List Value,Vals xs its/\IsTup h a its.toArray
 |.dK kvs=>kvs.length<=sizeLine/\(a==sysModules)=false/\∃ vs,KV kvs vs/\h.DictOf (qg P w) a vs
 |.dT kvs=>kvs.length<=sizeLine/\(a==sysModules)=false/\∃ xs:List (List Key×Addr×Value),
   Paired (λ(p:List Key×V)(q:List Key×Addr×Value)=>p.1=q.1/\H q.2.1=some (.tup (p.1.map kV))/\RelV p.2 q.2.2) kvs xs /\
   ∃ o es ep,h.get? a=some o/\o.ExactDict/\o.data=.dict es ep/\es.toList=xs.map (entryOfKey (tupleKind (qg P w)))/\(xs.map (·.1)).Nodup
 |.set S n=>h.SetOf (intKind P w) a S n
 |.ins C dx fs=>H dx=some (.own a)/\fs.length<=1000/\dx≠a/\h.get? a=some (Wh C dx) /\
   ∃ mA,h.Ns1 dx mA/\(∀ f,RelO (fs.lookup f) (mA f))/\PySem.Within mA (fs.map (·.1))
 |.own _=>∃ o,h.get? a=some o
 |.xd fs=>∃ mA,h.Ns1 a mA/\∀ f,RelO (fs.lookup f) (mA f)
 |.rng lo hi=>∃ t u v,h.get? a=some {cls:=.type "range",data:=.fields #[.int lo t,.int hi u,.int 1 v]}
 |.frz o u=>h.get? a=some o/\ObjOk H h a u
 |.tbl ps=>h.get? a=some {cls:=.none,data:=.fields ps}
 |.met f x=>h.get? a=some (wx (.ref f) (.ref x))
 |.ext φ=>φ h/\(∃ o,h.get? a=some o)/\∀ h1 h2:Heap,φ h1->(∀ o,h1.get? a=some o->h2.get? a=some o)->φ h2
noncomputable def HOk(H:Hp)(h:Heap):Prop:=∀ a o,H a=some o->ObjOk P w H h a o
end
section
variable {P:Program} {w:World} {H H':Hp} {h h':Heap} {a:Addr} {o:HO}
theorem ObjOk.lt(x:ObjOk P w H h a o):a<h.objs.size:=by
 cases o with
 |lst xs=>obtain⟨_,_,_,_,e⟩:=x;exact Va e
 |tup xs=>obtain⟨_,_,_,p⟩:=x;exact p.lt
 |dK kvs=>obtain⟨_,_,_,_,o,_,_,e,_⟩:=x;exact Va e
 |dT kvs=>obtain⟨_,_,_,_,o,_,_,e,_⟩:=x;exact Va e
 |set S n=>obtain⟨o,_,_,_,e,_⟩:=x;exact Va e
 |ins C dx fs=>obtain⟨_,_,_,e,_⟩:=x;exact Va e
 |own y=>obtain⟨_,e⟩:=x;exact Va e
 |xd fs=>obtain⟨_,⟨_,_,_,e,_⟩,_⟩:=x;exact Va e
 |rng lo hi=>obtain⟨_,_,_,e⟩:=x;exact Va e
 |frz ob u=>obtain⟨e,_⟩:=x;exact Va e
 |tbl ps=>exact Va (show h.get? a=some _ from x)
 |met f y=>exact Va (show h.get? a=some _ from x)
 |ext φ=>obtain⟨_,⟨_,e⟩,_⟩:=x;exact Va e
theorem Paired.mapP{α β:Type}{F G:α->β->Prop}:∀{l₁:List α}{l₂:List β},Paired F l₁ l₂->(∀ a b,F a b->G a b)->Paired G l₁ l₂
 |_,_,.nil,_=>.nil
 |_,_,.cons r t,f=>.cons (f _ _ r) (Paired.mapP t f)
theorem ObjOk.stay(x:ObjOk P w H h a o)(k:∀ b u,(b=a\/H b=some (.own a))->h.get? b=some u->h'.get? b=some u)
  (ho:∀ b,H b=some (.own a)->H' b=some (.own a)) (ht:∀ b xs,H b=some (.tup xs)->H' b=some (.tup xs)):ObjOk P w H' h' a o:=by
 induction o with
 |lst xs=>obtain⟨z,its,n,r,e⟩:=x;exact⟨z,its,n,r,k _ _ (.inl rfl) e⟩
 |tup xs=>obtain⟨z,its,r,ob,e,c⟩:=x;exact⟨z,its,r,ob,k _ _ (.inl rfl) e,c⟩
 |dK kvs=>obtain⟨z,y,vs,r,ob,es,ep,e,c⟩:=x;exact⟨z,y,vs,r,ob,es,ep,k _ _ (.inl rfl) e,c⟩
 |dT kvs =>
  obtain⟨z,y,xs,r,ob,es,ep,e,c⟩:=x;exact⟨z,y,xs,Paired.mapP r λp q z=>⟨z.1,ht _ _ z.2.1,z.2.2⟩,ob,es,ep,k _ _ (.inl rfl) e,c⟩
 |set S n=>obtain⟨ob,es,ep,t,e,c⟩:=x;exact⟨ob,es,ep,t,k _ _ (.inl rfl) e,c⟩
 |ins C dx fs =>
  obtain⟨d,z,ne,e,mA,⟨od,es,ep,e2,c⟩,r⟩:=x;exact⟨ho _ d,z,ne,k _ _ (.inl rfl) e,mA,⟨od,es,ep,k _ _ (.inr d) e2,c⟩,r⟩
 |own y=>obtain⟨ob,e⟩:=x;exact⟨ob,k _ _ (.inl rfl) e⟩
 |xd fs=>obtain⟨mA,⟨od,es,ep,e,c⟩,r⟩:=x;exact⟨mA,⟨od,es,ep,k _ _ (.inl rfl) e,c⟩,r⟩
 |rng lo hi=>obtain⟨t,u,v,e⟩:=x;exact⟨t,u,v,k _ _ (.inl rfl) e⟩
 |frz ob u ih=>obtain⟨e,q⟩:=x;exact⟨k _ _ (.inl rfl) e,ih q⟩
 |tbl ps =>
  have e:h.get? a=some {cls:=.none,data:=.fields ps}:=x;show h'.get? a=some {cls:=.none,data:=.fields ps};exact k a _ (.inl rfl) e
 |met f y =>
  have e:h.get? a=some (wx (.ref f) (.ref y)):=x;show h'.get? a=some (wx (.ref f) (.ref y));exact k a _ (.inl rfl) e
 |ext φ=>obtain⟨p,⟨o,e⟩,st⟩:=x;exact⟨st _ _ p λo q=>k _ _ (.inl rfl) q,⟨o,k _ _ (.inl rfl) e⟩,st⟩
theorem HOk.lt(x:HOk P w H h)(e:H a=some o):a<h.objs.size:=(x a o e).lt
theorem HOk.fresh(x:HOk P w H h)(e:h.objs.size<=a):H a=none:=by
 cases q:H a with
 |none=>rfl
 |some u=>exact absurd (wc (x.lt q) e) (xk _)
theorem HOk.kept(x:HOk P w H h)(k:∀ b u,h.get? b=some u->h'.get? b=some u):HOk P w H h':=λa o e =>
 (x a o e).stay (λb u _ q=>k b u q) (λ_ q=>q) λ_ _ q=>q
theorem HOk.laid(x:HOk P w H h)(k:∀ b u,h.get? b=some u->h'.get? b=some u)(hp:h.objs.size<=a)(new:ObjOk P w (upd H a o) h' a o):HOk P w (upd H a o) h':=λb u e=>by
 have hn:=x.fresh hp;by_cases hb:b=a
 ·subst hb;rw[ye] at e;cases e;exact new
 ·rw[qc hb] at e;exact(x b u e).stay (λc v _ q=>k c v q) (λc q=>by rw[qc (Zd q hn)];exact q) λc xs q=>by rw[qc (Zd q hn)];exact q
end
noncomputable def Rd(H:Hp)(a:Addr)(u:HO):Prop:=H a=some u\/∃ o,H a=some (.frz o u)
theorem Rd.of{H:Hp}{a:Addr}{u:HO}(h:H a=some u):Rd H a u:=.inl h
theorem Rd.ok{P:Program}{w:World}{H:Hp}{h:Heap}{a:Addr}{u:HO}(r:Rd H a u)(x:HOk P w H h):ObjOk P w H h a u:=by
 rcases r with r|⟨o,r⟩
 ·exact x a u r
 ·obtain⟨_,q⟩:=x a _ r;exact q
noncomputable def Mut:Option HO->Prop
 |some (.lst _)=>True
 |some (.dK _)=>True
 |some (.dT _)=>True
 |some (.set _ _)=>True
 |some (.ins _ _ _)=>True
 |some (.ext _)=>True
 |_=>False
section
variable {P:Program} {w:World} {H:Hp} {h h':Heap} {x e:Addr} {o':HO}
theorem HOk.write(ok:HOk P w H h)(mu:Mut (H x))(he:e=x\/H e=some (.own x))(k:∀ b u,b≠e->h.get? b=some u->h'.get? b=some u)(heo:∃ u,h'.get? e=some u)
  (new:ObjOk P w (upd H x o') h' x o'):HOk P w (upd H x o') h':=λb u q=>by
 have nown:∀ c y,H c=some (.own y)->c≠x:=λc y r z=>by subst z;rw[r] at mu;exact mu
 have ntup:∀ c xs,H c=some (.tup xs)->c≠x:=λc xs r z=>by subst z;rw[r] at mu;exact mu
 by_cases hb:b=x
 ·subst hb;rw[ye] at q;cases q;exact new
 ·rw[qc hb] at q;by_cases hbe:b=e
  ·have q':H b=some (.own x):=by
    rcases he with z|z
    ·exact absurd (hbe.trans z) hb
    ·rw[hbe];exact z
   rw[q] at q';cases q';obtain⟨v,hv⟩:=heo;exact⟨v,by rw[hbe];exact hv⟩
  ·refine(ok b u q).stay (λc v hc r=>k c v ?_ r) (λc r=>by rw[qc (nown c b r)];exact r) λc xs r=>by rw[qc (ntup c xs r)];exact r
   rcases hc with rfl|hc
   ·exact hbe
   ·rintro rfl
    rcases he with z|z
    ·exact nown c b hc z
    ·rw[hc] at z;cases z;exact hb rfl
end
structure Un (fs ex:List Addr) (H H':Hp) (h h':Heap):Prop where
 keep:∀ b o,h.get? b=some o->H b=none->b∉fs->b∉ex->h'.get? b=some o
 slot:∀ b o,h.get? b=some o->H b=none->b∈fs->b∉ex->∃ sl,h'.get? b=some {o with slots:=sl}
 free:∀ b o,h.get? b=some o->H b=none->b∉ex->H' b=none
 there:∀ b o,h.get? b=some o->b∉ex->∃ o',h'.get? b=some o'
 tups:∀ b xs,H b=some (.tup xs)->H' b=some (.tup xs)
 frzs:∀ b o u,H b=some (.frz o u)->H' b=some (.frz o u)
 tbls:∀ b ps,H b=some (.tbl ps)->∃ more,H' b=some (.tbl (ps++more))
section
variable {fs fs' ex ex':List Addr} {H H1 H2:Hp} {h h1 h2 h':Heap} {a x e:Addr} {o:HO}
theorem Un.any(u:Un fs ex H H1 h h1){b:Addr}{ob:Obj}(q:h.get? b=some ob)(n:H b=none)(hx:b∉ex):∃ sl,h1.get? b=some {ob with slots:=sl}:=by
 by_cases hb:b∈fs
 ·exact u.slot b ob q n hb hx
 ·exact⟨ob.slots,u.keep b ob q n hb hx⟩
theorem Un.kept(k:∀ b u,h.get? b=some u->h'.get? b=some u):Un fs ex H H h h' :=
 ⟨λb ob q _ _ _=>k b ob q,λb ob q _ _ _=>⟨ob.slots,k b ob q⟩,λ_ _ _ n _=>n,λb ob q _=>⟨ob,k b ob q⟩,λ_ _ q=>q,λ_ _ _ q=>q,λ_ ps q=>⟨#[],by rw[q];simp⟩⟩
theorem Un.refl:Un fs ex H H h h:=Un.kept λ_ _ q=>q
theorem Un.laid(k:∀ b u,h.get? b=some u->h'.get? b=some u)(hp:h.objs.size<=a)(hn:H a=none):Un fs ex H (upd H a o) h h' where
 keep:=λb u q _ _ _=>k b u q
 slot:=λb u q _ _ _=>⟨u.slots,k b u q⟩
 free:=λb u q n _=>by rw[qc (Wc (wc (Va q) hp))];exact n
 there:=λb u q _=>⟨u,k b u q⟩
 tups:=λb xs q=>by rw[qc (Zd q hn)];exact q
 frzs:=λb u xs q=>by rw[qc (Zd q hn)];exact q
 tbls:=λb ps q=>⟨#[],by rw[qc (Zd q hn),q];simp⟩
theorem Un.write(mu:Mut (H x))(he:e=x\/H e=some (.own x))(k:∀ b u,b≠e->h.get? b=some u->h'.get? b=some u)(heo:∃ u,h'.get? e=some u):Un fs ex H (upd H x o) h h':=by
 have hx:∀ b,H b=none->b≠x:=λb n z=>by subst z;rw[n] at mu;exact mu
 have hb:∀ b,H b=none->b≠e:=λb n z=>by
  subst z
  rcases he with r|r
  ·exact hx b n r
  ·rw[n] at r;cases r
 have hm:∀ b u,H b=some u->¬ Mut (some u)->b≠x:=λb u q nm z=>by subst z;rw[q] at mu;exact nm mu
 refine⟨λb u q n _ _=>k b u (hb b n) q,λb u q n _ _=>⟨u.slots,k b u (hb b n) q⟩,λb u q n _=>by rw[qc (hx b n)];exact n,λb u q _=>?_,
  λb xs q=>by rw[qc (hm b _ q λz=>z)];exact q,λb u xs q=>by rw[qc (hm b _ q λz=>z)];exact q,λb ps q=>⟨#[],by rw[qc (hm b _ q λz=>z),q];simp⟩⟩
 by_cases hbe:b=e
 ·subst hbe;exact heo
 ·exact⟨u,k b u hbe q⟩
end
noncomputable def trk(h:Heap)(H:Hp):List Addr:=(uc h.objs.size).filter λa=>(H a).isSome
noncomputable def Qbe(h:Heap)(H:Hp):Heap:=PySem.W.hideAll h (trk h H)
theorem qbY(h:Heap)(H:Hp):(Qbe h H).objs.size=h.objs.size:=PySem.W.hideAll_size _ _
theorem ycd{h:Heap}{H:Hp}{b:Addr}{o:Obj}(e:h.get? b=some o)(n:H b=none):(Qbe h H).get? b=some o :=
 PySem.W.hideAll_get _ e λhm=>by
  have q:(H b).isSome=true:=(List.mem_filter.mp hm).2;rw[n] at q;simp at q
theorem Ycq{h:Heap}{H:Hp}{b:Addr}{o:Obj}(e:(Qbe h H).get? b=some o):h.get? b=some o/\H b=none:=by
 have e':h.get? b=some o:=PySem.W.of_hideAll (trk h H) e;refine⟨e',?_⟩;cases q:H b with
 |none=>rfl
 |some x =>
  have hm:b∈trk h H:=List.mem_filter.mpr ⟨wq.mpr (Va e'),by simp[q]⟩;have z:(Qbe h H).get? b=none:=PySem.W.hideAll_none (trk h H) hm;rw[z] at e;cases e
structure Mod (K:PySem.W.Frag) (mg:Str->Option Value) (base:Heap):Prop where
 kin:K.In base
 glob:base.Ns mainGlobals mg
 blt:∃ mb,base.Ns builtinsNs mb/\∀ x:Str,x≠"__name__"->mb x=bootBuiltins x
 nolimit:base.NoLimit
structure Cx where
 prog:Program
 w:World
 K:PySem.W.Frag
 mg:Str->Option Value
 base:Heap
 A:Around
 N:List Str
 s₀:Shared
 H₀:Hp
 env:Env
 outer:List Env
 stack:List Env
 ex:List Addr
 fn:Str->Bool
 calm:Bool
 pn:List (Addr×Obj)
 xe:Value->Shared->Prop
noncomputable def frs(l:List Env):List Addr:=l.filterMap (·.frame)
noncomputable abbrev Cx.fs(X:Cx):List Addr:=frs X.outer
noncomputable def Vis(sc:Scope)(x:Str):Prop:=sc.names.lookup x=some .local\/sc.names.lookup x=some .cell\/sc.names.lookup x=some .free
noncomputable def Loc(sc:Scope)(x:Str):Prop:=sc.names.lookup x=some .local\/sc.names.lookup x=some .cell
noncomputable def Look(env:Env)(h:Heap)(m:Str->Option Value)(x:Str)(u:Value):Prop :=
 (env.kindOf x=some .local/\m x=some u)\/((env.kindOf x=some .cell\/env.kindOf x=some .free)/\∃ c,env.cells.lookup x=some c/\h.IsCell c (some u))
structure Cx.Ok (X:Cx):Prop where
 mod:Mod X.K X.mg X.base
 kind:X.env.scope.kind=.function
 glob:X.env.globals=mainGlobals
 blt:X.env.builtins=builtinsNs
 above:X.s₀.heap.objs.size<=X.env.locals
 inj:∀ x y c,X.env.cells.lookup x=some c->X.env.cells.lookup y=some c->x=y
 has:∀ x,(X.env.kindOf x=some .cell\/X.env.kindOf x=some .free)->∃ c,X.env.cells.lookup x=some c
 cab:∀ x c,X.fn x=true->X.env.cells.lookup x=some c->X.s₀.heap.objs.size<=c
 hd:X.calm=true->X.A.handled=none
 frames:X.A.frames=some X.stack
 stk:X.stack=X.outer\/(X.stack=X.env::X.outer/\X.env.frame=some X.env.locals)
 exf:∀ b∈X.ex,b≠X.env.locals/\∀ x c,X.env.cells.lookup x=some c->c≠b
 bs:∀ b o,X.base.get? b=some o->X.s₀.heap.get? b=some o/\X.H₀ b=none
 bsz:X.base.objs.size<=X.s₀.heap.objs.size
 noex:∀ b o,X.base.get? b=some o->b∉X.ex
 exfs:∀ b∈X.ex,b∉X.fs
 funs:X.s₀.heap.FunFrames X.base X.outer
 frf:∀ b∈X.fs,X.H₀ b=none
structure Inv (X:Cx) (pins:List (Addr×Obj)) (σ:List (Option V)) (H:Hp) (s:Shared):Prop where
 ok:X.Ok
 os:s.os=X.s₀.os
 bare:AllBare s.gens
 base:Un X.fs X.ex X.H₀ H X.s₀.heap s.heap
 loc:∃ m,s.heap.Ns X.env.locals m/\∀(i:Nat)(x:Str)(v:V),X.N[i]?=some x->σ[i]?=some (some v)->Vis X.env.scope x->∃ u,RelV v u/\Look X.env s.heap m x u
 cell:∀ x c,X.env.cells.lookup x=some c->∃ v,s.heap.IsCell c v
 free:H X.env.locals=none
 freeC:∀ x c,X.env.cells.lookup x=some c->H c=none
 pin:∀ p∈X.pn++pins,s.heap.get? p.1=some p.2/\H p.1=none/\p.1≠X.env.locals/\p.1∉X.fs/\∀ v,p.2.data≠.cell v
 hok:HOk X.prog X.w H s.heap
 len:σ.length=X.N.length
section
variable {X:Cx} {pins:List (Addr×Obj)} {σ:List (Option V)} {H H':Hp} {s:Shared} {h':Heap}
theorem Cx.Ok.nofr(ok:X.Ok){b:Addr}{o:Obj}(e:X.base.get? b=some o):b∉X.fs:=λhb=>by
 have:=(ok.funs.mem hb).1;rw[e] at this;cases this
theorem Inv.bs(I:Inv X pins σ H s):∀ b o,X.base.get? b=some o->s.heap.get? b=some o/\H b=none:=λb o e =>
 ⟨I.base.keep b o (I.ok.bs b o e).1 (I.ok.bs b o e).2 (I.ok.nofr e) (I.ok.noex b o e),I.base.free b o (I.ok.bs b o e).1 (I.ok.bs b o e).2 (I.ok.noex b o e)⟩
theorem Inv.bk(I:Inv X pins σ H s):∀ b o,X.base.get? b=some o->s.heap.get? b=some o:=λb o e=>(I.bs b o e).1
theorem Inv.mod(I:Inv X pins σ H s):Mod X.K X.mg X.base:=I.ok.mod
theorem Inv.kIn(I:Inv X pins σ H s):X.K.In s.heap:=I.ok.mod.kin.keeps I.bk
theorem Inv.lt(I:Inv X pins σ H s):X.env.locals<s.heap.objs.size:=let ⟨_,hn,_⟩:=I.loc;hn.lt
theorem Inv.sz(I:Inv X pins σ H s):X.s₀.heap.objs.size<=s.heap.objs.size:=Ve I.ok.above (ux I.lt)
theorem Inv.nofs(I:Inv X pins σ H s){a:Addr}(h:s.heap.objs.size<=a):a∉X.fs:=λhb=>by
 obtain⟨_,o,ho,_⟩:=I.ok.funs.mem hb;exact absurd (wc (Va ho) (Ve I.sz h)) (xk _)
theorem Inv.cne(I:Inv X pins σ H s):∀ x c,X.env.cells.lookup x=some c->c≠X.env.locals:=λx c e z=>by
 obtain⟨v,o,ho,hd⟩:=I.cell x c e;obtain⟨m,⟨o',es,ep,ho',hd',_⟩,_⟩:=I.loc;rw[z,ho'] at ho;cases ho;rw[hd'] at hd;cases hd
theorem Inv.funs(I:Inv X pins σ H s):s.heap.FunFrames X.base X.outer:=by
 have all:∀(l:List Env),(∀ b∈frs l,b∈X.fs)->X.s₀.heap.FunFrames X.base l->s.heap.FunFrames X.base l:=by
  intro l
  induction l with
  |nil=>intro _ _;trivial
  |cons env r ih =>
   intro hs hl;obtain⟨hk,⟨L,o,hf,hn,ho,hd⟩,hr⟩:=hl;have hL:L∈X.fs:=hs L (by unfold frs;rw[Uv,hf];exact Xh);obtain⟨sl,e⟩:=I.base.slot L o ho (I.ok.frf L hL) hL λz=>I.ok.exfs L z hL;exact⟨hk,⟨L,_,hf,hn,e,hd⟩,ih (λb hb=>hs b (by unfold frs;rw[Uv,hf];exact Xe _ hb)) hr⟩
 exact all X.outer (λ_ hb=>hb) I.ok.funs
theorem Inv.stack(I:Inv X pins σ H s):s.heap.FunFrames X.base X.stack:=by
 rcases I.ok.stk with e|⟨e,hf⟩
 ·rw[e];exact I.funs
 ·rw[e];obtain⟨m,hn,_⟩:=I.loc;refine .cons (by rw[I.ok.kind];decide) hf hn ?_ I.funs;exact Xz (Ve I.ok.bsz I.ok.above)
theorem Inv.stkSub(I:Inv X pins σ H s):∀ b∈frs X.stack,b∈X.env.locals::X.fs:=λb hb=>by
 rcases I.ok.stk with e|⟨e,hf⟩
 ·rw[e] at hb;exact Xe _ hb
 ·rw[e] at hb;unfold frs at hb;rw[Uv,hf] at hb;exact hb
theorem Inv.stkFree(I:Inv X pins σ H s):∀ b∈frs X.stack,H b=none:=λb hb=>by
 rcases vb.mp (I.stkSub b hb) with e|hb
 ·rw[e];exact I.free
 ·obtain⟨_,o,ho,_⟩:=I.ok.funs.mem hb;exact I.base.free b o ho (I.ok.frf b hb) λz=>I.ok.exfs b z hb
theorem Inv.step{g':Array GenState}{t':Nat}{d':Drawn}{ch:List Addr}(I:Inv X pins σ H s)
  (hch:∀ b∈ch,(b∈X.ex\/X.s₀.heap.objs.size<=b)/\b≠X.env.locals/\(∀ x c,X.env.cells.lookup x=some c->c≠b)/\∀ p∈X.pn++pins,p.1≠b)
  (keep:∀ b o,b≠X.env.locals->b∉X.fs->b∉ch->s.heap.get? b=some o->H b=none->h'.get? b=some o)
  (slot:∀ b o,b≠X.env.locals->b∈X.fs->b∉ch->s.heap.get? b=some o->H b=none->∃ sl,h'.get? b=some {o with slots:=sl}) (free:∀ b o,b∉ch->s.heap.get? b=some o->H b=none->H' b=none)
  (there:∀ b o,b∉ch->s.heap.get? b=some o->∃ o',h'.get? b=some o')
  (tups:∀ b xs,H b=some (.tup xs)->H' b=some (.tup xs)) (frzs:∀ b o u,H b=some (.frz o u)->H' b=some (.frz o u)) (tbls:∀ b ps,H b=some (.tbl ps)->∃ more,H' b=some (.tbl (ps++more)))
  (ns:∀ m,s.heap.Ns X.env.locals m->h'.Ns X.env.locals m) (hok:HOk X.prog X.w H' h') (hg:AllBare g') :
  Inv X pins σ H' {s with heap:=h',gens:=g',drawn:=d',toks:=t'}:=by
 have neL:∀ b o,X.s₀.heap.get? b=some o->b≠X.env.locals:=λb o e=>Wc (wc (Va e) I.ok.above);have neC:∀ b o,X.s₀.heap.get? b=some o->b∉X.ex->b∉ch:=λb o e hx hb=>by
  rcases(hch b hb).1 with z|z
  ·exact hx z
  ·exact absurd (wc (Va e) z) (xk _)
 have cellK:∀ x c,X.env.cells.lookup x=some c->∀ v,s.heap.IsCell c v->h'.IsCell c v:=λx c e v ⟨o,ho,hd⟩=>by
  have nch:c∉ch:=λz=>(hch c z).2.2.1 x c e rfl;by_cases hc:c∈X.fs
  ·obtain⟨sl,q⟩:=slot c o (I.cne x c e) hc nch ho (I.freeC x c e);exact⟨_,q,hd⟩
  ·exact⟨o,keep c o (I.cne x c e) hc nch ho (I.freeC x c e),hd⟩
 refine⟨I.ok,I.os,hg,⟨λb o e n hb hx=>?_,λb o e n hb hx=>?_,λb o e n hx=>?_,λb o e hx=>?_,λb xs e=>tups b xs (I.base.tups b xs e),λb o xs e=>frzs b o xs (I.base.frzs b o xs e),λb ps e=>?_⟩,?_,λx c e=>?_,?_,λx c e=>?_,λp hp=>?_,hok,I.len⟩
 ·exact keep b o (neL b o e) hb (neC b o e hx) (I.base.keep b o e n hb hx) (I.base.free b o e n hx)
 ·obtain⟨sl,e1⟩:=I.base.slot b o e n hb hx;obtain⟨sl',e2⟩:=slot b _ (neL b o e) hb (neC b o e hx) e1 (I.base.free b o e n hx);exact⟨sl',e2⟩
 ·obtain⟨o',e1⟩:=I.base.there b o e hx;exact free b o' (neC b o e hx) e1 (I.base.free b o e n hx)
 ·obtain⟨o',e1⟩:=I.base.there b o e hx;exact there b o' (neC b o e hx) e1
 ·obtain⟨m1,e1⟩:=I.base.tbls b ps e;obtain⟨m2,e2⟩:=tbls b _ e1;exact⟨m1++m2,by rw[e2,Array.append_assoc]⟩
 ·obtain⟨m,hn,hl⟩:=I.loc;refine⟨m,ns m hn,λi x v e1 e2 e3=>?_⟩;obtain⟨u,r,l⟩:=hl i x v e1 e2 e3;refine⟨u,r,?_⟩
  rcases l with l|⟨k,c,e,z⟩
  ·exact .inl l
  ·exact .inr ⟨k,c,e,cellK x c e _ z⟩
 ·obtain⟨v,z⟩:=I.cell x c e;exact⟨v,cellK x c e v z⟩
 ·obtain⟨m,⟨o,_,_,ho,_⟩,_⟩:=I.loc;exact free _ o (λz=>(hch _ z).2.1 rfl) ho I.free
 ·obtain⟨v,o,ho,hd⟩:=I.cell x c e;exact free c o (λz=>(hch c z).2.2.1 x c e rfl) ho (I.freeC x c e)
 ·obtain⟨e,n,ne,nf,d⟩:=I.pin p hp;have nch:p.1∉ch:=λz=>(hch p.1 z).2.2.2 p hp rfl;exact⟨keep p.1 p.2 ne nf nch e n,free p.1 p.2 nch e n,ne,nf,d⟩
theorem Inv.un{t':Nat}(I:Inv X pins σ H s)(u:Un X.fs [] H H' s.heap h')(hok:HOk X.prog X.w H' h'):Inv X pins σ H' {s with heap:=h',toks:=t'}:=by
 obtain⟨m,⟨o,es,ep,ho,r⟩,_⟩:=id I.loc;obtain⟨sl,hL⟩:=u.any ho I.free (by simp);exact I.step (g':=s.gens) (d':=s.drawn) (ch:=[]) (λ_ z=>nomatch z) (λb o _ hb _ e n=>u.keep b o e n hb (by simp)) (λb o _ hb _ e n=>u.slot b o e n hb (by simp)) (λb o _ e n=>u.free b o e n (by simp)) (λb o _ e=>u.there b o e (by simp)) u.tups u.frzs u.tbls (λm' hm=>by
  obtain⟨o',es',ep',ho',r'⟩:=hm;rw[ho] at ho';cases ho';exact⟨_,es',ep',hL,r'⟩) hok I.bare
theorem Inv.call{g':Array GenState}{t':Nat}{d':Drawn}{ch:List Addr}(I:Inv X pins σ H s)(u:Un (frs X.stack) ch H H' s.heap h')(hok:HOk X.prog X.w H' h')(hg:AllBare g')
  (hch:∀ b∈ch,(b∈X.ex\/X.s₀.heap.objs.size<=b)/\b≠X.env.locals/\(∀ x c,X.env.cells.lookup x=some c->c≠b)/\∀ p∈X.pn++pins,p.1≠b) :
  Inv X pins σ H' {s with heap:=h',gens:=g',drawn:=d',toks:=t'}:=by
 obtain⟨m,⟨o,es,ep,ho,r⟩,_⟩:=id I.loc;obtain⟨sl,hL⟩:=u.any ho I.free λz=>(hch _ z).2.1 rfl;exact I.step (ch:=ch) hch (λb o hL hb hc e n=>u.keep b o e n (λz=>(vb.mp (I.stkSub b z)).elim hL hb) hc) (λb o _ _ hc e n=>u.any e n hc) (λb o hc e n=>u.free b o e n hc) (λb o hc e=>u.there b o e hc) u.tups u.frzs u.tbls (λm' hm=>by
  obtain⟨o',es',ep',ho',r'⟩:=hm;rw[ho] at ho';cases ho';exact⟨_,es',ep',hL,r'⟩) hok hg
theorem Inv.turned{t':Nat}{it:Addr}(I:Inv X pins σ H s)(k:∀ b o,b≠it->s.heap.get? b=some o->h'.get? b=some o)(hn:H it=none)(hL:it≠X.env.locals)
  (h1:it∈X.ex\/X.s₀.heap.objs.size<=it) (h2:∀ x c,X.env.cells.lookup x=some c->c≠it) (h3:∀ p∈X.pn++pins,p.1≠it):Inv X pins σ H {s with heap:=h',toks:=t'}:=by
 have nit:∀ b u,H b=some u->b≠it:=λb u e z=>by rw[z,hn] at e;cases e
 refine I.step (g':=s.gens) (d':=s.drawn) (ch:=[it]) (λb hb=>?_) (λb o _ _ hc e _=>k b o (λz=>hc (by simp[z])) e) (λb o _ _ hc e _=>⟨o.slots,k b o (λz=>hc (by simp[z])) e⟩) (λ_ _ _ _ n=>n)
  (λb o hc e=>⟨o,k b o (λz=>hc (by simp[z])) e⟩) (λ_ _ e=>e) (λ_ _ _ e=>e) (λb ps e=>⟨#[],by rw[e];simp⟩) (λm hm=>?_) (λb u e=>?_) I.bare
 ·have e:b=it:=by simpa using hb
  subst e;exact⟨h1,hL,h2,h3⟩
 ·obtain⟨o,es,ep,ho,r⟩:=hm;exact⟨o,es,ep,k _ o (Ne.symm hL) ho,r⟩
 ·refine(I.hok b u e).stay (λc v hc q=>k c v ?_ q) (λ_ q=>q) λ_ _ q=>q
  rcases hc with z|z
  ·rw[z];exact nit b u e
  ·exact nit c _ z
theorem Inv.tok(I:Inv X pins σ H s)(t:Nat):Inv X pins σ H {s with toks:=t}:=I.un (h':=s.heap) (t':=t) Un.refl I.hok
theorem Inv.kept{t':Nat}(I:Inv X pins σ H s)(k:∀ b u,s.heap.get? b=some u->h'.get? b=some u):Inv X pins σ H {s with heap:=h',toks:=t'}:=I.un (Un.kept k) (I.hok.kept k)
theorem Inv.laid{a:Addr}{o:HO}{t':Nat}(I:Inv X pins σ H s)(k:∀ b u,s.heap.get? b=some u->h'.get? b=some u)(hp:s.heap.objs.size<=a)(new:ObjOk X.prog X.w (upd H a o) h' a o) :
  Inv X pins σ (upd H a o) {s with heap:=h',toks:=t'}:=I.un (Un.laid k hp (I.hok.fresh hp)) (I.hok.laid k hp new)
theorem Inv.write{x e:Addr}{o:HO}{t':Nat}(I:Inv X pins σ H s)(mu:Mut (H x))(he:e=x\/H e=some (.own x))(k:∀ b u,b≠e->s.heap.get? b=some u->h'.get? b=some u)(heo:∃ u,h'.get? e=some u)
  (new:ObjOk X.prog X.w (upd H x o) h' x o):Inv X pins σ (upd H x o) {s with heap:=h',toks:=t'}:=I.un (Un.write mu he k heo) (I.hok.write mu he k heo new)
theorem Inv.pins_of{pins':List (Addr×Obj)}(I:Inv X pins σ H s)(h:∀ p∈pins',s.heap.get? p.1=some p.2/\H p.1=none/\p.1≠X.env.locals/\p.1∉X.fs/\∀ v,p.2.data≠.cell v):Inv X pins' σ H s :=
 ⟨I.ok,I.os,I.bare,I.base,I.loc,I.cell,I.free,I.freeC,λp hp=>(Uh.mp hp).elim (λz=>I.pin p (ue _ z)) (h p),I.hok,I.len⟩
theorem QaR{N:List Str}(hN:N.Nodup){i j:Nat}{x:Str}(a:N[i]?=some x)(b:N[j]?=some x):i=j:=by
 obtain⟨h1,e1⟩:=Xa.mp a;obtain⟨h2,e2⟩:=Xa.mp b;exact(List.getElem_inj hN).mp (e1.trans e2.symm)
theorem QbZ{M:Model}{A:Around}{E:Value->Shared->Prop}{i:Nat}{x:Str}{v:V}{u:Value}{Q:Unit->Shared->Prop}(I:Inv X pins σ H s)(hN:X.N.Nodup)(hi:X.N[i]?=some x)(hx:Loc X.env.scope x)(r:RelV v u)
  (h:∀ s',Inv X pins (σ.set i (some v)) H s'->(∃ a,Heap.SameBut a s.heap s'.heap/\(a=X.env.locals\/X.env.cells.lookup x=some a))->Q () s') (hf:X.fn x=true\/X.env.scope.names.lookup x=some .local:=by first|exact .inl rfl|exact .inr rfl|assumption):wpAny M A (storeName X.env x u) Q E s:=by
 obtain⟨m,hn,hl⟩:=id I.loc;have hcls:(X.env.scope.kind == .class||(X.env.scope.kind == .module&&X.env.locals != X.env.globals))=false:=by rw[I.ok.kind];rfl
 have hiσ:i<σ.length:=by rw[I.len];exact(Xa.mp hi).1
 have cne:=I.cne;have tracked:∀{a:Addr}{h':Heap},(∃ o,s.heap.get? a=some o/\H a=none)->Heap.SameBut a s.heap h'->HOk X.prog X.w H h':=λ{a h'} ha hs b ob e=>by
  obtain⟨_,_,hfree⟩:=ha;refine(I.hok b ob e).stay (λc w' hc q=>(hs.2 c ?_).trans q) (λ_ q=>q) λ_ _ q=>q;rintro rfl
  rcases hc with rfl|hc
  ·rw[hfree] at e;cases e
  ·rw[hfree] at hc;cases hc
 rcases hx with hk|hk
 ·refine wpAny_storeName_local hk hn (λh' hn' hs=>?_) hcls;obtain⟨oL,_,_,hoL,_⟩:=id hn;refine h _ ⟨I.ok,I.os,I.bare,⟨λb o e n hb hx=>?_,λb o e n hb hx=>?_,I.base.free,λb o e hx=>?_,I.base.tups,I.base.frzs,I.base.tbls⟩,⟨_,hn',λj y v' e1 e2 e3=>?_⟩,λy c e=>?_,I.free,I.freeC,λp hp=>?_,tracked ⟨oL,hoL,I.free⟩ hs,by simpa using I.len⟩ ⟨_,hs,.inl rfl⟩
  ·exact(hs.2 b (Wc (wc (Va e) I.ok.above))).trans (I.base.keep b o e n hb hx)
  ·obtain⟨sl,e1⟩:=I.base.slot b o e n hb hx;exact⟨sl,(hs.2 b (Wc (wc (Va e) I.ok.above))).trans e1⟩
  ·obtain⟨o',e1⟩:=I.base.there b o e hx;exact⟨o',(hs.2 b (Wc (wc (Va e) I.ok.above))).trans e1⟩
  ·by_cases hj:j=i
   ·subst hj;rw[hi] at e1;cases e1;rw[Ug hiσ] at e2;cases e2;exact⟨u,r,.inl ⟨hk,by simp⟩⟩
   ·rw[Vf (Ne.symm hj)] at e2;obtain⟨u',r',q⟩:=hl j y v' e1 e2 e3;refine⟨u',r',?_⟩
    rcases q with ⟨k,e⟩|⟨k,c,e,z⟩
    ·refine .inl ⟨k,?_⟩;have:y≠x:=λe=>hj (QaR hN e1 (e ▸ hi));simp[this,e]
    ·exact .inr ⟨k,c,e,z.sameBut hs (cne y c e)⟩
  ·obtain⟨w',z⟩:=I.cell y c e;exact⟨w',z.sameBut hs (cne y c e)⟩
  ·obtain⟨e,n,ne,nf,d⟩:=I.pin p hp;exact⟨(hs.2 p.1 ne).trans e,n,ne,nf,d⟩
 ·have hfn:X.fn x=true:=by
   rcases hf with z|z
   ·exact z
   ·rw[z] at hk;cases hk
  obtain⟨c,hc⟩:=I.ok.has x (.inl hk);obtain⟨w',z⟩:=I.cell x c hc;refine wpAny_storeName_cell I.ok.kind hk hc z (λh' hc' hs=>?_);obtain⟨oc,hoc,hocd⟩:=id z;refine h {s with heap:=h'} ⟨I.ok,I.os,I.bare,⟨λb o e n hb hx=>?_,λb o e n hb hx=>?_,I.base.free,λb o e hx=>?_,I.base.tups,I.base.frzs,I.base.tbls⟩,⟨m,hn.sameBut hs (Ne.symm (cne x c hc)),λj y v' e1 e2 e3=>?_⟩,λy c' e=>?_,I.free,I.freeC,λp hp=>?_,tracked ⟨oc,hoc,I.freeC x c hc⟩ hs,by simpa using I.len⟩ ⟨c,hs,.inr hc⟩
  ·exact(hs.2 b (Wc (wc (Va e) (I.ok.cab x c hfn hc)))).trans (I.base.keep b o e n hb hx)
  ·obtain⟨sl,e1⟩:=I.base.slot b o e n hb hx;exact⟨sl,(hs.2 b (Wc (wc (Va e) (I.ok.cab x c hfn hc)))).trans e1⟩
  ·obtain⟨o',e1⟩:=I.base.there b o e hx;exact⟨o',(hs.2 b (Wc (wc (Va e) (I.ok.cab x c hfn hc)))).trans e1⟩
  ·by_cases hj:j=i
   ·subst hj;rw[hi] at e1;cases e1;rw[Ug hiσ] at e2;cases e2;exact⟨u,r,.inr ⟨.inl hk,c,hc,hc'⟩⟩
   ·rw[Vf (Ne.symm hj)] at e2;obtain⟨u',r',q⟩:=hl j y v' e1 e2 e3;refine⟨u',r',?_⟩
    rcases q with q|⟨k,c',e,z'⟩
    ·exact .inl q
    ·refine .inr ⟨k,c',e,z'.sameBut hs ?_⟩;rintro rfl;exact hj (QaR hN e1 (I.ok.inj _ _ _ e hc ▸ hi))
  ·by_cases hcc:c'=c
   ·subst hcc;exact⟨_,hc'⟩
   ·obtain⟨w2,z2⟩:=I.cell y c' e;exact⟨w2,z2.sameBut hs hcc⟩
  ·obtain⟨e,n,ne,nf,d⟩:=I.pin p hp;refine⟨(hs.2 p.1 ?_).trans e,n,ne,nf,d⟩;intro q;rw[q,hoc] at e;have q':oc=p.2:=Option.some.inj e;exact d w' (by rw[<- q'];exact hocd)
theorem yaU{M:Model}{A:Around}{E:Value->Shared->Prop}{i:Nat}{x:Str}{v:V}{u:Value}{Q:Unit->Shared->Prop}(I:Inv X pins σ H s)(hN:X.N.Nodup)(hi:X.N[i]?=some x)(hx:Loc X.env.scope x)(r:RelV v u)
  (h:∀ s',Inv X pins (σ.set i (some v)) H s'->Q () s') (hf:X.fn x=true\/X.env.scope.names.lookup x=some .local:=by first|exact .inl rfl|exact .inr rfl|assumption):wpAny M A (storeName X.env x u) Q E s :=
 QbZ I hN hi hx r (λs' I' _=>h s' I') hf
theorem Inv.call'{s':Shared}{ch:List Addr}(I:Inv X pins σ H s)(ho:s'.os=s.os)(u:Un (frs X.stack) ch H H' s.heap s'.heap)(hok:HOk X.prog X.w H' s'.heap)(hg:AllBare s'.gens)
  (hch:∀ b∈ch,(b∈X.ex\/X.s₀.heap.objs.size<=b)/\b≠X.env.locals/\(∀ x c,X.env.cells.lookup x=some c->c≠b)/\∀ p∈X.pn++pins,p.1≠b):Inv X pins σ H' s':=by
 obtain⟨h',g',d',t',o'⟩:=s';have e:o'=s.os:=ho;subst e;exact I.call (g':=g') (t':=t') (d':=d') u hok hg hch
end
noncomputable abbrev XK:=Value->Option Addr->Hp->Prop
noncomputable abbrev St:=List (Option V)
noncomputable abbrev VK:=V->Hp->Prop
noncomputable abbrev TE:=St->Hp->VK->Prop
noncomputable abbrev TT:=St->Hp->(Bool->Hp->Prop)->Prop
noncomputable abbrev TA:=St->Hp->(List V->Hp->Prop)->Prop
structure Ends where
 nx:St->Hp->Prop
 rt:VK
 bk:St->Hp->Prop:=λ_ _=>False
 ct:St->Hp->Prop:=λ_ _=>False
noncomputable abbrev TS:=Ends->St->Hp->Prop
noncomputable def EP(X:Cx)(pins:List (Addr×Obj))(σ:St)(Q:VK)(u:Value)(s':Shared):Prop:=∃ v H',Inv X pins σ H' s'/\RelV v u/\Q v H'
noncomputable def TP(X:Cx)(pins:List (Addr×Obj))(σ:St)(Q:Bool->Hp->Prop)(b:Bool)(s':Shared):Prop:=∃ H',Inv X pins σ H' s'/\Q b H'
noncomputable def AP(X:Cx)(pins:List (Addr×Obj))(σ:St)(Q:List V->Hp->Prop)(us:List Value)(s':Shared):Prop:=∃ vs H',Inv X pins σ H' s'/\Vals vs us/\Q vs H'
noncomputable def SP(X:Cx)(pins:List (Addr×Obj))(D:Ends)(f:Flow)(s':Shared):Prop :=
 match f with
 |.next=>∃ σ' H',Inv X pins σ' H' s'/\D.nx σ' H'
 |.brk=>∃ σ' H',Inv X pins σ' H' s'/\D.bk σ' H'
 |.cont=>∃ σ' H',Inv X pins σ' H' s'/\D.ct σ' H'
 |.ret u=>∃ v σ' H',Inv X pins σ' H' s'/\RelV v u/\D.rt v H'
noncomputable def PE(X:Cx)(e:Expr)(t:TE):Prop :=
 ∀(pins:List (Addr×Obj)) (s:Shared) (σ:St) (H:Hp) (Q:VK),Inv X pins σ H s->t σ H Q->wpAny (model X.prog X.w) X.A (eval e X.env) (EP X pins σ Q) X.xe s
noncomputable def PT(X:Cx)(e:Expr)(t:TT):Prop :=
 ∀(pins:List (Addr×Obj)) (s:Shared) (σ:St) (H:Hp) (Q:Bool->Hp->Prop),Inv X pins σ H s->t σ H Q->wpAny (model X.prog X.w) X.A (isTrue e X.env (eval e X.env)) (TP X pins σ Q) X.xe s
noncomputable def PW(X:Cx)(e:Expr)(t:TT):Prop :=
 ∀(whole:Sem Value)(pins:List (Addr×Obj)) (s:Shared) (σ:St) (H:Hp) (Q:Bool->Hp->Prop),Inv X pins σ H s->t σ H Q->wpAny (model X.prog X.w) X.A (isTrue e X.env whole) (TP X pins σ Q) X.xe s
theorem PW.pt{X:Cx}{e:Expr}{t:TT}(h:PW X e t):PT X e t:=h _
noncomputable def PA(X:Cx)(es:List Expr)(t:TA):Prop :=
 ∀(pos:Pos)(pins:List (Addr×Obj)) (s:Shared) (σ:St) (H:Hp) (Q:List V->Hp->Prop),Inv X pins σ H s->t σ H Q->wpAny (model X.prog X.w) X.A (spliced (backTo pos (starEach es X.env))) (AP X pins σ Q) X.xe s
noncomputable def PS(X:Cx)(st:Stmt)(t:TS):Prop :=
 ∀(pins:List (Addr×Obj)) (s:Shared) (σ:St) (H:Hp) (D:Ends),Inv X pins σ H s->t D σ H->wpAny (model X.prog X.w) X.A (exec st X.env) (SP X pins D) X.xe s
noncomputable def PSs(X:Cx)(st:List Stmt)(t:TS):Prop :=
 ∀(pins:List (Addr×Obj)) (s:Shared) (σ:St) (H:Hp) (D:Ends),Inv X pins σ H s->t D σ H->wpAny (model X.prog X.w) X.A (execs st X.env) (SP X pins D) X.xe s
theorem thn{α:Type}{t:Sem α}{Q Q':α->Shared->Prop}{M:Model}{A:Around}{E:Value->Shared->Prop}{s:Shared}(h:wpAny M A t Q E s)(hQ:∀ a s,Q a s->Q' a s):wpAny M A t Q' E s:=wpAny_mono h hQ λ_ _ x=>x
section
variable {X:Cx}
theorem bin{a b:Expr}{ta tb:TE}(ha:PE X a ta)(hb:PE X b tb){pins:List (Addr×Obj)}{s:Shared}{σ:St}{H:Hp}{R:V->V->Hp->Prop}(I:Inv X pins σ H s)(h:ta σ H λx H1=>tb σ H1 λy H2=>R x y H2)
  {α:Type} {Q:α->Shared->Prop} {f:Value->Value->Sem α}
  (hf:∀ v u s2 x y H2,Inv X pins σ H2 s2->RelV x v->RelV y u->R x y H2->wpAny (model X.prog X.w) X.A (f v u) Q X.xe s2) :
  wpAny (model X.prog X.w) X.A (eval a X.env) (λv s₁=>wpAny (model X.prog X.w) X.A (eval b X.env) (λu s₂=>wpAny (model X.prog X.w) X.A (f v u) Q X.xe s₂) X.xe s₁) X.xe s:=by
 refine thn (ha pins s σ H _ I h) λv s1 ⟨x,H1,I1,r1,q1⟩=>?_;refine thn (hb pins s1 σ H1 _ I1 q1) λu s2 ⟨y,H2,I2,r2,q2⟩=>?_;exact hf v u s2 x y H2 I2 r1 r2 q2
noncomputable def tVar(i:Nat):TE:=λσ H Q=>∃ v,σ[i]?=some (some v)/\Q v H
noncomputable def tC(v:V):TE:=λ_ H Q=>Q v H
theorem ybI{i:Nat}{x:Str}{pos:Pos}(hN:X.N[i]?=some x)(hv:Vis X.env.scope x)(hd:(x==("__debug__":Str))=false:=by decide)(hcd:(x==("__classdict__":Str))=false:=by decide):PE X (.Name x pos) (tVar i):=by
 intro pins s σ H Q I h;obtain⟨v,e,h⟩:=h;obtain⟨m,hn,hl⟩:=I.loc;obtain⟨u,r,l⟩:=hl i x v hN e hv;have fin:EP X pins σ Q u s:=⟨v,H,I,r,h⟩
 rcases l with ⟨hk,hm⟩|⟨hk,c,hc,hcell⟩
 ·exact wpAny_Name (wpAny_loadName_local I.ok.kind hk hn hm fin) hd
 ·rcases hk with hk|hk
  ·exact wpAny_Name (wpAny_loadName_cell I.ok.kind hk hc hcell fin) hd
  ·exact wpAny_Name (wpAny_loadName_free I.ok.kind hk hc hcell fin hcd) hd
theorem za1{i j pos}:PE X (.Constant (.int i) j pos) (tC (.int i)):=λ_ _ _ H _ I h=>wpAny_Constant_int ⟨.int i,H,I.tok _,⟨_,rfl⟩,h⟩
theorem pe_bl{b j pos}:PE X (.Constant (.bool b) j pos) (tC (.bl b)):=λ_ _ _ H _ I h=>Constant_bool ⟨.bl b,H,I,rfl,h⟩
theorem ZcJ{j pos}:PE X (.Constant .none j pos) (tC .non):=λ_ _ _ H _ I h=>Constant_none ⟨.non,H,I,rfl,h⟩
theorem yH{x j pos}:PE X (.Constant (.str x) j pos) (tC (.str x)):=λ_ _ _ H _ I h=>Calls.Constant_str ⟨.str x,H,I.tok _,⟨_,rfl⟩,h⟩
noncomputable def Gl(X:Cx)(x:Str):Prop:=X.env.kindOf x=some .globalImplicit
theorem qX{E:Value->Shared->Prop}{pins:List (Addr×Obj)}{s:Shared}{σ:St}{H:Hp}{x:Str}{u:Value}{pos:Pos}{Q:Value->Shared->Prop}(I:Inv X pins σ H s)(hg:Gl X x)(hm:X.mg x=some u)(h:Q u s)
  (hd:(x==("__debug__":Str))=false:=by decide):wpAny (model X.prog X.w) X.A (eval (.Name x pos) X.env) Q E s :=
 Calls.Name_function_global I.ok.kind hg (Calls.loadGlobal_global (by rw[I.ok.glob];exact I.mod.glob.keeps I.bk) hm h) hd
theorem QaH{E:Value->Shared->Prop}{pins:List (Addr×Obj)}{s:Shared}{σ:St}{H:Hp}{x:Str}{u:Value}{pos:Pos}{Q:Value->Shared->Prop}(I:Inv X pins σ H s)(hg:Gl X x)(hm:X.mg x=none)(hv:bootBuiltins x=some u)(h:Q u s)
  (hn:x≠"__name__":=by decide) (hd:(x==("__debug__":Str))=false:=by decide):wpAny (model X.prog X.w) X.A (eval (.Name x pos) X.env) Q E s:=by
 obtain⟨mb,h1,h2⟩:=I.mod.blt;exact Calls.Name_function_global I.ok.kind hg (Calls.loadGlobal_builtin (by rw[I.ok.glob];exact I.mod.glob.keeps I.bk) hm (by rw[I.ok.blt];exact h1.keeps I.bk) ((h2 x hn).trans hv) h) hd
theorem Qz{x:Str}{v:V}{u:Value}{pos:Pos}(hg:Gl X x)(hm:X.mg x=some u)(r:RelV v u)(hd:(x==("__debug__":Str))=false:=by decide):PE X (.Name x pos) (tC v) :=
 λ_ _ _ H _ I h=>qX I hg hm ⟨v,H,I,r,h⟩ hd
theorem zbL{x:Str}{v:V}{u:Value}{pos:Pos}(hg:Gl X x)(hm:X.mg x=none)(hv:bootBuiltins x=some u)(r:RelV v u)(hn:x≠"__name__":=by decide)(hd:(x==("__debug__":Str))=false:=by decide):PE X (.Name x pos) (tC v) :=
 λ_ _ _ H _ I h=>QaH I hg hm hv ⟨v,H,I,r,h⟩ hn hd
variable {a b:Expr} {ta tb:TE} {pos:Pos}
noncomputable def PC(X:Cx)(op:CmpOp)(a b:Expr)(t:TE):Prop :=
 ∀(pins:List (Addr×Obj)) (s:Shared) (σ:St) (H:Hp) (Q:VK),Inv X pins σ H s->t σ H Q ->
  wpAny (model X.prog X.w) X.A (eval a X.env) (λv s₁=>wpAny (model X.prog X.w) X.A (eval b X.env) (λu s₂=>wpAny (model X.prog X.w) X.A (compareOp op v u) (EP X pins σ Q) X.xe s₂) X.xe s₁) X.xe s
noncomputable def tB(t:TE):TT:=λσ H Q=>t σ H λx H1=>∃ c,x=.bl c/\Q c H1
theorem qcV{op:CmpOp}{t:TE}(h:PC X op a b t)(h1:behindInMarks op b=false:=by first|exact nobehind _ (by decide) (by decide)|rfl):PE X (.Compare a [op] [b] pos) t:=λpins s σ H Q I hw=>wpAny_Compare1 (h pins s σ H Q I hw) h1
theorem ycI{op:CmpOp}{t:TE}(h:PC X op a b t)(h1:behindInMarks op b=false:=by first|exact nobehind _ (by decide) (by decide)|rfl):PT X (.Compare a [op] [b] pos) (tB t):=by
 intro pins s σ H Q I hw;refine wpAny_isTrue_Compare1 (thn (h pins s σ H _ I hw) λv s1 h1=>thn h1 λu s2 h2=>thn h2 λc s3 ⟨x,H1,I1,r1,q1⟩=>?_) h1;obtain⟨d,rfl,q⟩:=q1;cases r1;exact wpAny_truthy_bool ⟨H1,I1,q⟩
theorem qbH{e:Expr}{t:TE}(h:PE X e t)(he:∀ whole,isTrue e X.env whole=(do let v<-whole;standAt e.pos;holding [v] (truthy v)):=by intro _;rfl):PT X e (tB t):=by
 intro pins s σ H Q I hw;refine isTrue_plain (thn (h pins s σ H _ I hw) λv s1 ⟨x,H1,I1,r1,q1⟩=>?_) (he _);obtain⟨d,rfl,q⟩:=q1;cases r1;exact wpAny_truthy_bool ⟨H1,I1,q⟩
variable {tA tB':TT} {rest:List Expr}
noncomputable def tAnd(t u:TT):TT:=λσ H Q=>t σ H λc H1=>if c=true then u σ H1 Q else Q false H1
noncomputable def tOr(t u:TT):TT:=λσ H Q=>t σ H λc H1=>if c=true then Q true H1 else u σ H1 Q
noncomputable def tNot(t:TT):TT:=λσ H Q=>t σ H λc H1=>Q (!c) H1
theorem Zcr(ha:PT X a tA):PW X (.BoolOp .And [a] pos) tA:=by
 intro wh pins s σ H Q I h;refine isTrue_and (thn (ha pins s σ H Q I h) λc s1 e=>?_);cases c with
 |true=>exact isTrue_and_nil e
 |false=>exact e
theorem Yb3(ha:PT X a tA):PW X (.BoolOp .Or [a] pos) tA:=by
 intro wh pins s σ H Q I h;refine isTrue_or (thn (ha pins s σ H Q I h) λc s1 e=>?_);cases c with
 |false=>exact isTrue_or_nil e
 |true=>exact e
theorem QcP(ha:PT X a tA)(hb:PW X (.BoolOp .And (b::rest) pos) tB'):PW X (.BoolOp .And (a::b::rest) pos) (tAnd tA tB'):=by
 intro wh pins s σ H Q I h;refine isTrue_and (thn (ha pins s σ H _ I h) λc s1 ⟨H1,I1,q1⟩=>?_);cases c with
 |true=>exact hb wh pins s1 σ H1 Q I1 q1
 |false=>exact⟨H1,I1,q1⟩
theorem QcG(ha:PT X a tA)(hb:PW X (.BoolOp .Or (b::rest) pos) tB'):PW X (.BoolOp .Or (a::b::rest) pos) (tOr tA tB'):=by
 intro wh pins s σ H Q I h;refine isTrue_or (thn (ha pins s σ H _ I h) λc s1 ⟨H1,I1,q1⟩=>?_);cases c with
 |true=>exact⟨H1,I1,q1⟩
 |false=>exact hb wh pins s1 σ H1 Q I1 q1
theorem Zb6(ha:PT X a tA):PT X (.UnaryOp .Not a pos) (tNot tA):=by
 intro pins s σ H Q I h;exact isTrue_not (ha pins s σ H (λc H1=>Q (!c) H1) I h)
noncomputable def tAndV(ta tb:TE):TE:=λσ H Q=>ta σ H λx H1=>∃ c,x=.bl c/\if c=true then tb σ H1 Q else Q (.bl false) H1
noncomputable def tOrV(ta tb:TE):TE:=λσ H Q=>ta σ H λx H1=>∃ c,x=.bl c/\if c=true then Q (.bl true) H1 else tb σ H1 Q
noncomputable def tNotV(ta:TE):TE:=λσ H Q=>ta σ H λx H1=>∃ c,x=.bl c/\Q (.bl (!c)) H1
theorem zcb{op}{t:TE}(h:PE X a t):PE X (.BoolOp op [a] pos) t:=λpins s σ H Q I hw=>BoolOp_one (h pins s σ H Q I hw)
theorem QcL(ha:PE X a ta)(hb:PE X (.BoolOp .And (b::rest) pos) tb):PE X (.BoolOp .And (a::b::rest) pos) (tAndV ta tb):=by
 intro pins s σ H Q I h;refine BoolOp_and (thn (ha pins s σ H _ I h) λv s1 ⟨x,H1,I1,r1,q1⟩=>?_);obtain⟨c,rfl,q1⟩:=q1;cases r1;refine wpAny_truthy_bool ?_;cases c with
 |true=>exact hb pins s1 σ H1 Q I1 q1
 |false=>exact⟨.bl false,H1,I1,rfl,q1⟩
theorem pe_or(ha:PE X a ta)(hb:PE X (.BoolOp .Or (b::rest) pos) tb):PE X (.BoolOp .Or (a::b::rest) pos) (tOrV ta tb):=by
 intro pins s σ H Q I h;refine BoolOp_or (thn (ha pins s σ H _ I h) λv s1 ⟨x,H1,I1,r1,q1⟩=>?_);obtain⟨c,rfl,q1⟩:=q1;cases r1;refine wpAny_truthy_bool ?_;cases c with
 |false=>exact hb pins s1 σ H1 Q I1 q1
 |true=>exact⟨.bl true,H1,I1,rfl,q1⟩
theorem ZcI(ha:PE X a ta):PE X (.UnaryOp .Not a pos) (tNotV ta):=by
 intro pins s σ H Q I h;refine UnaryOp_ (thn (ha pins s σ H _ I h) λv s1 ⟨x,H1,I1,r1,q1⟩=>?_);obtain⟨c,rfl,q1⟩:=q1;cases r1;exact not_of (wpAny_truthy_bool ⟨.bl (!c),H1,I1,rfl,q1⟩)
noncomputable def tIf(t:TT)(ta tb:TE):TE:=λσ H Q=>t σ H λc H1=>if c=true then ta σ H1 Q else tb σ H1 Q
theorem qcb{c:Expr}(hc:PT X c tA)(ha:PE X a ta)(hb:PE X b tb):PE X (.IfExp c a b pos) (tIf tA ta tb):=by
 intro pins s σ H Q I h;refine wpAny_IfExp (thn (hc pins s σ H _ I h) λd s1 ⟨H1,I1,q1⟩=>?_);cases d with
 |true=>exact ha pins s1 σ H1 Q I1 q1
 |false=>exact hb pins s1 σ H1 Q I1 q1
end
noncomputable def SqL(K:PySem.W.Frag)(H:Hp)(a:Addr)(xs:List V):Prop :=
 Rd H a (.lst xs) \/
  ∃(o:Obj)(its:Array Value)(n:Nat),K.lookup a=some o/\o.cls=.type "list"/\o.dict=none/\o.data=.seq its n/\its.size<=sizeLine/\Vals xs its.toList
noncomputable def SqT(K:PySem.W.Frag)(H:Hp)(a:Addr)(xs:List V):Prop :=
 Rd H a (.tup xs) \/
  ∃(o:Obj)(its:Array Value)(n:Nat),K.lookup a=some o/\o.cls=.type "tuple"/\o.data=.seq its n/\its.size<=sizeLine/\Vals xs its.toList
noncomputable def absV:Value->Option V
 |.none=>some .non
 |.bool b=>some (.bl b)
 |.int i _=>some (.int i)
 |.str x _=>some (.str x)
 |.bytes b _=>some (.byt b)
 |.float b _=>some (.flt b)
 |.ref a=>some (.ref a)
 |.type n=>some (.ty n)
 |_=>none
theorem RelV.abs{x:V}{u:Value}(r:RelV x u):absV u=some x:=by
 cases x with
 |non=>cases r;rfl
 |bl _=>cases r;rfl
 |int _=>obtain⟨t,rfl⟩:=r;rfl
 |str _=>obtain⟨t,rfl⟩:=r;rfl
 |byt _=>obtain⟨t,rfl⟩:=r;rfl
 |flt _=>obtain⟨t,rfl⟩:=r;rfl
 |ref _=>cases r;rfl
 |ty _=>cases r;rfl
theorem RelV.inj{x y:V}{u:Value}(r:RelV x u)(q:RelV y u):x=y:=Option.some.inj (r.abs.symm.trans q.abs)
theorem Vals.inj:∀{xs ys:List V}{us:List Value},Vals xs us->Vals ys us->xs=ys
 |_,_,_,.nil,.nil=>rfl
 |_,_,_,.cons r t,.cons r' t'=>by rw[r.inj r',Vals.inj t t']
section
variable {X:Cx} {pins:List (Addr×Obj)} {σ:St} {H:Hp} {s:Shared} {a:Addr} {xs ys:List V}
theorem SqL.of{K:PySem.W.Frag}(h:H a=some (.lst xs)):SqL K H a xs:=.inl (.inl h)
theorem SqT.of{K:PySem.W.Frag}(h:H a=some (.tup xs)):SqT K H a xs:=.inl (.inl h)
theorem Inv.list(I:Inv X pins σ H s)(h:SqL X.K H a xs):∃ its:List Value,Vals xs its/\PlainL s.heap a its.toArray/\xs.length<=sizeLine:=by
 rcases h with h|⟨o,its,n,hk,hc,hd,hs,hz,r⟩
 ·obtain⟨z,its,n,r,e⟩:=h.ok I.hok;exact⟨its,r,⟨_,n,e,rfl,rfl,rfl⟩,z⟩
 ·refine⟨its.toList,r,⟨o,n,I.kIn a o hk,hc,hd,by simpa using hs⟩,?_⟩;have e:=r.length;simp only[vj] at e
  lia
theorem Inv.tuple(I:Inv X pins σ H s)(h:SqT X.K H a xs):∃ its:List Value,Vals xs its/\IsTup s.heap a its.toArray/\xs.length<=sizeLine:=by
 rcases h with h|⟨o,its,n,hk,hc,hs,hz,r⟩
 ·obtain⟨z,its,r,p⟩:=h.ok I.hok;exact⟨its,r,p,z⟩
 ·refine⟨its.toList,r,⟨o,I.kIn a o hk,hc,n,by simpa using hs⟩,?_⟩;have e:=r.length;simp only[vj] at e
  lia
theorem Inv.list_inj(I:Inv X pins σ H s)(h:SqL X.K H a xs)(h':SqL X.K H a ys):xs=ys:=by
 obtain⟨its,r,⟨o,n,e,_,_,d⟩,_⟩:=I.list h;obtain⟨its',r',⟨o',n',e',_,_,d'⟩,_⟩:=I.list h';rw[e] at e';cases e';rw[d] at d';injection d' with d1 _
 have:its=its':=by simpa using congrArg uA d1
 subst this;exact r.inj r'
theorem Inv.tuple_inj(I:Inv X pins σ H s)(h:SqT X.K H a xs)(h':SqT X.K H a ys):xs=ys:=by
 obtain⟨its,r,⟨o,e,_,n,d⟩,_⟩:=I.tuple h;obtain⟨its',r',⟨o',e',_,n',d'⟩,_⟩:=I.tuple h';rw[e] at e';cases e';rw[d] at d';injection d' with d1 _
 have:its=its':=by simpa using congrArg uA d1
 subst this;exact r.inj r'
end
section
variable {X:Cx} {st:Stmt} {rest:List Stmt} {t u:TS} {e:Expr} {te:TE} {pos:Pos}
noncomputable def ycH:TS:=λD σ H=>D.nx σ H
noncomputable def tSeq(t u:TS):TS:=λD σ H=>t {D with nx:=u D} σ H
theorem Zbn:PSs X [] ycH:=λ_ _ σ H _ I h=>wpAny_execs_nil ⟨σ,H,I,h⟩
theorem yE(h1:PS X st t)(h2:PSs X rest u):PSs X (st::rest) (tSeq t u):=by
 intro pins s σ H D I h;refine wpAny_execs_cons (thn (h1 pins s σ H {D with nx:=u D} I h) λf s1 q=>?_);cases f with
 |next =>
  obtain⟨σ',H',I',q⟩:=q;exact h2 pins s1 σ' H' D I' q
 |ret v=>exact q
 |brk=>exact q
 |cont=>exact q
theorem YaN(h1:PS X st t):PSs X [st] t:=by
 intro pins s σ H D I h;refine wpAny_execs_cons (thn (h1 pins s σ H D I h) λf s1 q=>?_);cases f with
 |next=>exact wpAny_execs_nil q
 |ret v=>exact q
 |brk=>exact q
 |cont=>exact q
theorem ycA:PS X (.Pass pos) ycH:=λ_ _ σ H _ I h=>wpAny_Pass ⟨σ,H,I,h⟩
theorem Inv.quiet{pins:List (Addr×Obj)}{σ:St}{H:Hp}{s:Shared}(I:Inv X pins σ H s):interactive X.env=false:=by simp[interactive,I.ok.kind]
noncomputable def tDrop(te:TE):TS:=λD σ H=>te σ H λ_ H1=>D.nx σ H1
theorem ZbO(he:PE X e te)(hs:swapsWith e none pos.line X.env=pure false:=by rfl):PS X (.Expr e pos) (tDrop te):=by
 intro pins s σ H D I h;exact wpAny_Expr_any (thn (he pins s σ H _ I h) λv s1 ⟨x,H1,I1,r1,q1⟩=>⟨σ,H1,I1,q1⟩) I.quiet hs
noncomputable def tRet(te:TE):TS:=λD σ H=>te σ H D.rt
theorem zbE(he:PE X e te):PS X (.Return (some e) pos) (tRet te):=by
 intro pins s σ H D I h;exact wpAny_Return_some (thn (he pins s σ H _ I h) λv s1 ⟨x,H1,I1,r1,q1⟩=>⟨x,σ,H1,I1,r1,q1⟩)
noncomputable def tIfS(c:TT)(t u:TS):TS:=λD σ H=>c σ H λb H1=>if b=true then t D σ H1 else u D σ H1
theorem QcC{c:Expr}{a b:List Stmt}{tc:TT}(hc:PT X c tc)(ha:PSs X a t)(hb:PSs X b u):PS X (.If c a b pos) (tIfS tc t u):=by
 intro pins s σ H D I h;refine wpAny_If (thn (hc pins s σ H _ I h) λd s1 ⟨H1,I1,q1⟩=>?_);cases d with
 |true=>exact ha pins s1 σ H1 D I1 q1
 |false=>exact hb pins s1 σ H1 D I1 q1
end
noncomputable abbrev TG:=V->St->Hp->(St->Hp->Prop)->Prop
noncomputable abbrev TGs:=List V->St->Hp->(St->Hp->Prop)->Prop
noncomputable def PG(X:Cx)(target:Expr)(t:TG):Prop :=
 ∀(pins:List (Addr×Obj)) (s:Shared) (σ:St) (H:Hp) (v:V) (u:Value) (Q:St->Hp->Prop),Inv X pins σ H s->RelV v u->t v σ H Q ->
  wpAny (model X.prog X.w) X.A (assign target X.env u) (λ_ s'=>∃ σ' H',Inv X pins σ' H' s'/\Q σ' H') X.xe s
noncomputable def PGs(X:Cx)(ts:List Expr)(t:TGs):Prop :=
 ∀(pins:List (Addr×Obj)) (s:Shared) (σ:St) (H:Hp) (vs:List V) (us:List Value) (Q:St->Hp->Prop),Inv X pins σ H s->Vals vs us->t vs σ H Q ->
  wpAny (model X.prog X.w) X.A (assignInOrder ((assignEach ts X.env).map (·.2)) us) (λ_ s'=>∃ σ' H',Inv X pins σ' H' s'/\Q σ' H') X.xe s
noncomputable abbrev TSet:=V->V->V->Hp->(Hp->Prop)->Prop
noncomputable def PSet(X:Cx)(t:TSet):Prop :=
 ∀(pins:List (Addr×Obj)) (s:Shared) (σ:St) (H:Hp) (o i v:V) (ov iv u:Value) (Q:Hp->Prop),Inv X pins σ H s->RelV o ov->RelV i iv->RelV v u->t o i v H Q ->
  wpAny (model X.prog X.w) X.A (setItem ov iv u) (λ_ s'=>∃ H',Inv X pins σ H' s'/\Q H') X.xe s
section
variable {X:Cx} {pos:Pos}
noncomputable def zaS(i:Nat):TG:=λv σ H Q=>Q (σ.set i (some v)) H
theorem qaN{i:Nat}{x:Str}(hN:X.N.Nodup)(hi:X.N[i]?=some x)(hx:Loc X.env.scope x)(hf:X.fn x=true\/X.env.scope.names.lookup x=some .local:=by first|exact .inl rfl|exact .inr rfl|assumption):PG X (.Name x pos) (zaS i):=by
 intro pins s σ H v u Q I r h;exact wpAny_assign_Name (yaU I hN hi hx r (λs' I'=>⟨_,H,I',h⟩) hf)
noncomputable def gNil:TGs:=λvs σ H Q=>vs=[]/\Q σ H
noncomputable def gCons(t:TG)(u:TGs):TGs:=λvs σ H Q=>∃ v r,vs=v::r/\t v σ H λσ' H'=>u r σ' H' Q
theorem Zcv:PGs X [] gNil:=by
 intro pins s σ H vs us Q I r h;obtain⟨e,h⟩:=h;subst e;cases r;exact assignInOrder_nil ⟨σ,H,I,h⟩
theorem yco{e:Expr}{es:List Expr}{t:TG}{u:TGs}(h1:PG X e t)(h2:PGs X es u)
  (hs:(assignEach (e::es) X.env).map (·.2)=assign e X.env::(assignEach es X.env).map (·.2):=by rfl):PGs X (e::es) (gCons t u):=by
 intro pins s σ H vs us Q I r h;obtain⟨v,vr,e1,h⟩:=h;subst e1;cases r with
 |cons r rr =>
  rw[hs];refine assignInOrder_cons (thn (h1 pins s σ H _ _ _ I r h) λ_ s1 ⟨σ1,H1,I1,q1⟩=>?_);exact h2 pins s1 σ1 H1 _ _ Q I1 rr q1
noncomputable def gTup(K:PySem.W.Frag)(n:Nat)(t:TGs):TG:=λv σ H Q=>∃ a xs,v=.ref a/\SqT K H a xs/\xs.length=n/\t xs σ H Q
theorem qcR{es:List Expr}{k:Nat}{t:TGs}{n:Nat}(hc:X.calm=true)(h:PGs X es t)
  (hn:(assignEach es X.env).length=n:=by rfl) (hst:(assignEach es X.env).findIdx? (·.1)=none:=by rfl):PG X (.Tuple es k pos) (gTup X.K n t):=by
 intro pins s σ H v u Q I r hw;obtain⟨a,xs,e1,hq,hl,hw⟩:=hw;subst e1;cases r;obtain⟨its,rv,ht,hz⟩:=I.tuple hq;refine assign_Tuple_tuple (I.ok.hd hc) ht (by simp[hn,<- hl,rv.length]) hst λh' hx=>?_;have I1:Inv X pins σ H {s with heap:=h'}:=I.kept (t':=s.toks) λb o e=>hx b o (Wc (Va e)) e;exact h pins _ σ H xs _ Q I1 (by simpa using rv) hw
noncomputable def gSub(to ti:TE)(t:TSet):TG:=λv σ H Q=>to σ H λo H1=>ti σ H1 λi H2=>t o i v H2 λH3=>Q σ H3
theorem YcU{o i:Expr}{to ti:TE}{t:TSet}(ho:PE X o to)(hi:PE X i ti)(hs:PSet X t)
  (ha:∀ v,assign (.Subscript o i pos) X.env v=(do
   let ov<-holding [v] (eval o X.env)
   let iv<-holding [v,ov] (eval i X.env)
   standAt pos
   holding [v,ov,iv] (setItem ov iv v)
   release [v,ov,iv] []):=by intro _;rfl):PG X (.Subscript o i pos) (gSub to ti t):=by
 intro pins s σ H v u Q I r h;rw[ha];refine wpAny_bind (wpAny_holding (thn (ho pins s σ H _ I h) λov s1 ⟨x,H1,I1,r1,q1⟩=>?_));refine wpAny_bind (wpAny_holding (thn (hi pins s1 σ H1 _ I1 q1) λiv s2 ⟨y,H2,I2,r2,q2⟩=>?_));refine wpAny_bind (wpAny_standAt (wpAny_bind (wpAny_holding (thn (hs pins s2 σ H2 x y v ov iv u _ I2 r1 r2 r q2) λ_ s3 ⟨H3,I3,q3⟩=>?_))));exact wpAny_release ⟨σ,H3,I3,q3⟩
noncomputable def yb9(te:TE)(g:TG):TS:=λD σ H=>te σ H λx H1=>g x σ H1 D.nx
theorem zb9{tg e:Expr}{te:TE}{g:TG}(he:PE X e te)(hg:PG X tg g)(hs:swapsWithSole [tg] e pos.line X.env=pure false:=by rfl)(hw:swappedStores [tg] e X.env=pure none:=by rfl)
  (h1:(assignEach [tg] X.env).map (·.2)=[assign tg X.env]:=by rfl):PS X (.Assign [tg] e pos) (yb9 te g):=by
 intro pins s σ H D I h;refine wpAny_Assign_stores (thn (he pins s σ H _ I h) λv s1 ⟨x,H1,I1,r1,q1⟩=>?_) hs hw;rw[h1];exact thn (hg pins s1 σ H1 x v _ I1 r1 q1) λ_ s2 q=>q
theorem qaY{i:Nat}{x:Str}{e:Expr}{te:TE}{pos':Pos}(hN:X.N.Nodup)(hi:X.N[i]?=some x)(hx:Loc X.env.scope x)(he:PE X e te)(hs:swapsWith e (some (.Name x pos')) pos.line X.env=pure false:=by rfl)(hf:X.fn x=true\/X.env.scope.names.lookup x=some .local:=by first|exact .inl rfl|exact .inr rfl|assumption) :
  PS X (.Assign [.Name x pos'] e pos) (yb9 te (zaS i)):=by
 intro pins s σ H D I h;refine wpAny_Assign_Name (thn (he pins s σ H _ I h) λv s1 ⟨y,H1,I1,r1,q1⟩=>?_) hs;exact yaU I1 hN hi hx r1 (λs2 I2=>⟨_,H1,I2,q1⟩) hf
end
section
variable {X:Cx} {pos:Pos}
noncomputable def ZcR(c:TT)(tb:TS):TS:=λD σ H=>∃ W:Nat->St->Hp->Prop,(∃ m,W m σ H)/\∀ m σ H,W m σ H ->
 c σ H λb H1=>if b=true then ∃ N:St->Hp->Prop,(∀ σ' H',N σ' H'->∃ m',m'<m/\W m' σ' H')/\tb {D with nx:=N,ct:=N,bk:=D.nx} σ H1 else D.nx σ H1
theorem zcp{c:Expr}{body:List Stmt}{tc:TT}{tb:TS}(hp:PassesOwn (model X.prog X.w) X.A X.env X.xe)(hc:PT X c tc)(hb:PSs X body tb):PS X (.While c body [] pos) (ZcR tc tb):=by
 intro pins s σ H D I h;obtain⟨W,⟨m0,w0⟩,turn⟩:=h;refine wpAny_While (codeAny_whileLoop (λn s'=>∃ σ' H',Inv X pins σ' H' s'/\W n σ' H') ?_ m0 ⟨σ,H,I,w0⟩);rintro n s1 ⟨σ1,H1,I1,w1⟩;refine wpAny_passesOwn hp (thn (hc pins s1 σ1 H1 _ I1 (turn n σ1 H1 w1)) λb s2 ⟨H2,I2,q2⟩=>?_);cases b with
 |true =>
  obtain⟨N,hN,q2⟩:=q2;rw[if_pos rfl];refine wpAny_passesOwn hp (thn (hb pins s2 σ1 H2 _ I2 q2) λf s3 q3=>?_);cases f with
  |next =>
   obtain⟨σ3,H3,I3,n3⟩:=q3;obtain⟨m',hm,w3⟩:=hN σ3 H3 n3;exact⟨m',hm,σ3,H3,I3,w3⟩
  |cont =>
   obtain⟨σ3,H3,I3,n3⟩:=q3;obtain⟨m',hm,w3⟩:=hN σ3 H3 n3;exact⟨m',hm,σ3,H3,I3,w3⟩
  |brk=>exact q3
  |ret v=>exact q3
 |false =>
  rw[if_neg Vc];exact wpAny_execs_nil ⟨σ1,H2,I2,q2⟩
end
structure It where
 go:Nat->Hp->Prop
 yld:Nat->Hp->V->Hp->Prop
 stop:Nat->Hp->Prop
noncomputable def QY(X:Cx)(pins:List (Addr×Obj))(H:Hp)(b:Addr):Prop :=
 H b=none/\b≠X.env.locals/\b∉X.fs/\(b∈X.ex\/X.s₀.heap.objs.size<=b)/\(∀ x c,X.env.cells.lookup x=some c->c≠b)/\∀ p∈X.pn++pins,p.1≠b
theorem Inv.fpOk{X:Cx}{pins:List (Addr×Obj)}{σ:St}{H H':Hp}{s:Shared}{b:Addr}(I:Inv X pins σ H s)(hb:s.heap.objs.size<=b)(hn:H' b=none):QY X pins H' b:=by
 refine⟨hn,xm (wc I.lt hb),I.nofs hb,.inr (Ve I.sz hb),λx c e z=>?_,λp hp z=>?_⟩
 ·obtain⟨v,q⟩:=I.cell x c e;exact absurd (wc q.lt (by rw[z];exact hb)) (xk _)
 ·exact absurd (wc (Va (I.pin p hp).1) (by rw[z];exact hb)) (xk _)
structure Turn (P:Program) (w:World) (K:PySem.W.Frag) (tg:Expr) (J:It) (fp:List Addr) (it:Addr) (tn:Nat->Heap->Prop):Prop where
 mem:it∈fp
 obj:∀ i h,tn i h->∀ b∈fp,∃ o,h.get? b=some o/\∀ v,o.data≠.cell v
 keep:∀ i h h',tn i h->(∀ b∈fp,∀ o,h.get? b=some o->h'.get? b=some o)->tn i h'
 item:∀(X:Cx),X.prog=P->X.w=w->X.K=K->X.calm=true->∀(i:Nat)(pins:List (Addr×Obj)) (s:Shared) (σ:St) (H:Hp) (E:Value->Shared->Prop),Inv X pins σ H s->(∀ b∈fp,QY X pins H b)->tn i s.heap->J.go i H ->
  wpAny (model P w) X.A (pyNext (.ref it)) (λr s1=>∃ u,r=some u /\
   wpAny (model P w) X.A (letOwnedTupleGo tg (.ref it) u) (λ_ s2=>∃ x H',Inv X pins σ H' s2/\RelV x u/\J.yld i H x H'/\tn (i+1) s2.heap/\∀ b∈fp,H' b=none) E s1) E s
 done:∀(X:Cx),X.prog=P->X.w=w->X.K=K->X.calm=true->∀(i:Nat)(pins:List (Addr×Obj)) (s:Shared) (σ:St) (H:Hp) (E:Value->Shared->Prop),Inv X pins σ H s->(∀ b∈fp,QY X pins H b)->tn i s.heap->J.stop i H ->
  wpAny (model P w) X.A (pyNext (.ref it)) (λr s1=>r=none/\Inv X pins σ H s1) E s
 self:∀(A:Around)(i:Nat)(s:Shared)(Q:Value->Shared->Prop)(E:Value->Shared->Prop),tn i s.heap->Q (.ref it) s->wpAny (model P w) A (pyIter (.ref it)) Q E s
noncomputable abbrev TI:=St->Hp->(It->Hp->Prop)->Prop
noncomputable def PIE(X:Cx)(pins:List (Addr×Obj))(σ:St)(tg:Expr)(R:It->Hp->Prop)(itv:Value)(s2:Shared):Prop :=
 ∃(it:Addr)(fp:List Addr)(tn:Nat->Heap->Prop)(J:It)(H':Hp),itv=.ref it/\Inv X pins σ H' s2/\Turn X.prog X.w X.K tg J fp it tn/\tn 0 s2.heap/\(∀ b∈fp,QY X pins H' b)/\R J H'
noncomputable def PI(X:Cx)(tg iter:Expr)(wi:TI):Prop :=
 ∀(pins:List (Addr×Obj)) (s:Shared) (σ:St) (H:Hp) (R:It->Hp->Prop),Inv X pins σ H s->wi σ H R ->
  wpAny (model X.prog X.w) X.A (eval iter X.env) (λv s1=>wpAny (model X.prog X.w) X.A (pyIter v) (PIE X pins σ tg R) X.xe s1) X.xe s
theorem YbQ {M:Model} {A:Around} {E:Value→Shared→Prop} {s:Shared} {tg:Expr} {it:Addr} {u:Value} {o:Obj} {n:String} {vs:Array Value} {Q:Unit→Shared→Prop} (ho:s.heap.get? it=some o) (hc:o.cls=.type n) (hd:o.data=.fields vs)
    (hn:["enumerate","zip","dict_itemiterator","dict_reverseitemiterator","odict_iterator","itertools.zip_longest","itertools.pairwise"].contains n=false) (hQ:Q () s):wpAny M A (letOwnedTupleGo tg (.ref it) u) Q E s:=by
  unfold letOwnedTupleGo
  cases tg <;> first
    | exact wpAny_pure hQ
    | (cases u <;> first
        | exact wpAny_pure hQ
        | (refine wpAny_bind (wpAny_load ho ?_)
           rw [hc,hd]
           show wpAny M A (if (["enumerate","zip","dict_itemiterator","dict_reverseitemiterator","odict_iterator","itertools.zip_longest","itertools.pairwise"].contains n&&vs[0]? == some (rawInt _))=true then _ else _) Q E s
           rw [if_neg (by intro h; rw [hn,Bool.false_and] at h; cases h)]
           exact wpAny_pure hQ))
noncomputable def Itl(K:PySem.W.Frag)(a:Addr):It :=
 ⟨λi H=>∃ xs x,SqL K H a xs/\xs[i]?=some x,λi H x H'=>H'=H/\∀ xs,SqL K H a xs->xs[i]?=some x,λi H=>∃ xs,SqL K H a xs/\xs.length<=i⟩
noncomputable def Itt(K:PySem.W.Frag)(a:Addr):It :=
 ⟨λi H=>∃ xs x,SqT K H a xs/\xs[i]?=some x,λi H x H'=>H'=H/\∀ xs,SqT K H a xs->xs[i]?=some x,λi H=>∃ xs,SqT K H a xs/\xs.length<=i⟩
noncomputable def Itr(lo:Int)(n:Nat):It:=⟨λi _=>i<n,λi H x H'=>H'=H/\x=.int (lo+i),λi _=>n<=i⟩
theorem ZbW{P:Program}{w:World}{K:PySem.W.Frag}{tg:Expr}(a it:Addr):Turn P w K tg (Itl K a) [it] it (λi h=>h.IsListIter it a i) where
 mem:=by simp
 obj:=λi h st b hb=>by
  have e:b=it:=by simpa using hb
  subst e;obtain⟨o,e,c,d⟩:=st;exact⟨o,e,λv z=>by rw[d] at z;cases z⟩
 keep:=λi h h' st k=>st.at λo e=>k it (by simp) o e
 item:=by
  intro X hP hw hK hc i pins s σ H E I hf st hg;subst hP hw hK;obtain⟨xs,x,hq,hx⟩:=hg;obtain⟨its,rv,p,hz⟩:=I.list hq;obtain⟨u,hu,ru⟩:=rv.get hx;obtain⟨f0,f1,f2,f3,f4,f5⟩:=hf it (by simp);refine wpAny_pyNext_list_item st p.isList (x:=u) (by simpa using hu) λh' st' sb=>?_;have I1:Inv X pins σ H {s with heap:=h'}:=I.turned (t':=s.toks) (λb o hb e=>(sb.2 b hb).trans e) f0 f1 f3 f4 f5;obtain⟨o,e,c,d⟩:=id st';exact⟨u,rfl,YbQ (s:={s with heap:=h'}) e c d (by decide) ⟨x,H,I1,ru,⟨rfl,λys hy=>by rw[I.list_inj hy hq];exact hx⟩,st',λb hb=>(hf b hb).1⟩⟩
 done:=by
  intro X hP hw hK hc i pins s σ H E I hf st hg;subst hP hw hK;obtain⟨xs,hq,hx⟩:=hg;obtain⟨its,rv,p,hz⟩:=I.list hq;obtain⟨f0,f1,f2,f3,f4,f5⟩:=hf it (by simp);have hl:=rv.length;exact wpAny_pyNext_list_end (I.ok.hd hc) st p.isList (by simp;lia) λh' eb=>⟨rfl,I.turned (t':=s.toks) (λb o hb e=>eb b o hb e) f0 f1 f3 f4 f5⟩
 self:=λ_ _ _ _ _ st h=>wpAny_pyIter_listiter st h
theorem zbJ{P:Program}{w:World}{K:PySem.W.Frag}{tg:Expr}(a it:Addr):Turn P w K tg (Itt K a) [it] it (λi h=>h.IsTupleIter it a i) where
 mem:=by simp
 obj:=λi h st b hb=>by
  have e:b=it:=by simpa using hb
  subst e;obtain⟨o,e,c,d⟩:=st;exact⟨o,e,λv z=>by rw[d] at z;cases z⟩
 keep:=λi h h' st k=>st.at λo e=>k it (by simp) o e
 item:=by
  intro X hP hw hK hc i pins s σ H E I hf st hg;subst hP hw hK;obtain⟨xs,x,hq,hx⟩:=hg;obtain⟨its,rv,p,hz⟩:=I.tuple hq;obtain⟨u,hu,ru⟩:=rv.get hx;obtain⟨f0,f1,f2,f3,f4,f5⟩:=hf it (by simp);refine wpAny_pyNext_tuple_item st (show s.heap.IsTuple a its.toArray from p) (x:=u) (by simpa using hu) λh' st' sb=>?_;have I1:Inv X pins σ H {s with heap:=h'}:=I.turned (t':=s.toks) (λb o hb e=>(sb.2 b hb).trans e) f0 f1 f3 f4 f5;obtain⟨o,e,c,d⟩:=id st';exact⟨u,rfl,YbQ (s:={s with heap:=h'}) e c d (by decide) ⟨x,H,I1,ru,⟨rfl,λys hy=>by rw[I.tuple_inj hy hq];exact hx⟩,st',λb hb=>(hf b hb).1⟩⟩
 done:=by
  intro X hP hw hK hc i pins s σ H E I hf st hg;subst hP hw hK;obtain⟨xs,hq,hx⟩:=hg;obtain⟨its,rv,p,hz⟩:=I.tuple hq;obtain⟨f0,f1,f2,f3,f4,f5⟩:=hf it (by simp);have hl:=rv.length;exact wpAny_pyNext_tuple_end (I.ok.hd hc) st (show s.heap.IsTuple a its.toArray from p) (by simp;lia) λh' eb=>⟨rfl,I.turned (t':=s.toks) (λb o hb e=>eb b o hb e) f0 f1 f3 f4 f5⟩
 self:=λ_ _ _ _ _ st h=>wpAny_pyIter_tupleiter st h
theorem qbD{P:Program}{w:World}{K:PySem.W.Frag}{tg:Expr}(it:Addr)(lo:Int)(n:Nat):Turn P w K tg (Itr lo n) [it] it (λi h=>IsRangeIter h it (lo+(i:Nat)*1) ((n:Int)-(i:Nat)) 1) where
 mem:=by simp
 obj:=λi h st b hb=>by
  have e:b=it:=by simpa using hb
  subst e;exact⟨_,st,λv z=>by
   have z':Data.fields _=Data.cell v:=z;cases z'⟩
 keep:=λi h h' st k=>k it (by simp) _ st
 item:=by
  intro X hP hw hK hc i pins s σ H E I hf st hg;subst hP hw hK;obtain⟨f0,f1,f2,f3,f4,f5⟩:=hf it (by simp);have W:=Walks.range (prog:=X.prog) (w:=X.w) (I.ok.hd hc) it lo 1 n;refine W.item i s _ _ hg st λv h' tk hv st' kk=>?_;obtain⟨t,rfl⟩:=hv;have I1:Inv X pins σ H {s with heap:=h',toks:=tk}:=I.turned (λb o hb e=>kk b o (by simpa using hb) e) f0 f1 f3 f4 f5;refine⟨_,rfl,YbQ (s:={s with heap:=h',toks:=tk}) (n:="range_iterator") st' rfl rfl (by decide) ⟨.int (lo+i),H,I1,⟨t,?_⟩,⟨rfl,rfl⟩,st',λb hb=>(hf b hb).1⟩⟩;rw[Int.mul_one]
 done:=by
  intro X hP hw hK hc i pins s σ H E I hf st hg;subst hP hw hK;obtain⟨f0,f1,f2,f3,f4,f5⟩:=hf it (by simp);exact wpAny_pyNext_range_end (I.ok.hd hc) st (by have:n<=i:=hg;lia) λh' eb=>⟨rfl,I.turned (t':=s.toks) (λb o hb e=>eb b o hb e) f0 f1 f3 f4 f5⟩
 self:=λ_ _ _ _ _ st h=>wpAny_pyIter_rangeiter st h
section
variable {X:Cx} {tg:Expr}
theorem zch{pins:List (Addr×Obj)}{σ:St}{H:Hp}{s:Shared}{R:It->Hp->Prop}{E:Value->Shared->Prop}{lo hi:Int}{t u v:Tok}{tk:Nat}(I:Inv X pins σ H s)(h1:-(2^62)<=lo)(h2:lo<2^62)(h3:-(2^62)<=hi)(h4:hi<2^62)
  (q:R (Itr lo (hi-lo).toNat) H):wpAny (model X.prog X.w) X.A (pyIter (.ref s.heap.objs.size)) (PIE X pins σ tg R) E {s with heap:=s.heap.push {cls:=.type "range",data:=.fields #[.int lo t,.int hi u,.int 1 v]},toks:=tk}:=by
 refine wpAny_pyIter_range (IsRange.new ..) (small_one h1 h2 h3 h4) ?_;have I1:Inv X pins σ H {s with heap:=s.heap.push {cls:=.type "range",data:=.fields #[.int lo t,.int hi u,.int 1 v]},toks:=tk}:=I.kept λb o e=>wa _ e;refine⟨(s.heap.push {cls:=.type "range",data:=.fields #[.int lo t,.int hi u,.int 1 v]}).objs.size,[(s.heap.push {cls:=.type "range",data:=.fields #[.int lo t,.int hi u,.int 1 v]}).objs.size],_,_,H,rfl,
  I1.kept (t':=tk) λb o e=>wa _ e,qbD _ lo (hi-lo).toNat,?_,λb hb=>?_,q⟩
 ·have e1:lo+((0:Nat):Int)*1=lo:=by simp
  have e2:(((hi-lo).toNat:Nat):Int)-((0:Nat):Int)=Builtin.Range.rangeSize lo hi 1:=by rw[rangeSize_one];split <;> lia
  show IsRangeIter _ _ (lo+((0:Nat):Int)*1) ((((hi-lo).toNat:Nat):Int)-((0:Nat):Int)) 1;rw[e1,e2];exact Xb _ rfl
 ·have e:b=(s.heap.push {cls:=.type "range",data:=.fields #[.int lo t,.int hi u,.int 1 v]}).objs.size:=by simpa using hb
  subst e;exact I1.fpOk (xb _) (I1.hok.fresh (xb _))
noncomputable def YcD(ta:TA):TI:=λσ H R=>ta σ H λvs H1=>∃ j:Int,vs=[.int j]/\-(2^62)<=j/\j<2^62/\R (Itr 0 j.toNat) H1
theorem ZbX{a:Expr}{ta:TA}{p pos:Pos}(hg:Gl X "range")(hm:X.mg "range"=none)(ha:PA X [a] ta)(hs:starEach [a] X.env=[(false,eval a X.env)]:=by rfl):PI X tg (.Call (.Name "range" p) [a] [] pos) (YcD ta):=by
 intro pins s σ H R I h;refine Call_ (QaH I hg hm boot_range (PyProof.Rows.callWith_type1 (thn (ha pos pins s σ H _ I h) λus s1 ⟨vs,H1,I1,r1,q1⟩=>?_) hs rfl));obtain⟨j,e,q1,q2,q⟩:=q1;subst e;cases r1 with
 |cons r rr =>
  cases rr;obtain⟨t,rfl⟩:=r;exact call_range_1 (zch I1 (by lia) (by lia) q1 q2 (by simpa using q))
noncomputable def tFor(wi:TI)(g:TG)(tb:TS):TS:=λD σ H=>wi σ H λJ H1=>∃ W:Nat->Nat->St->Hp->Prop,(∃ m,W 0 m σ H1)/\∀ i m σ H,W i m σ H ->
 (J.stop i H/\D.nx σ H)\/(J.go i H/\∃ N:St->Hp->Prop,(∀ σ' H',N σ' H'->∃ m',m'<m/\W (i+1) m' σ' H')/\∀ x H',J.yld i H x H'->g x σ H' λσ2 H2=>tb {D with nx:=N,ct:=N,bk:=D.nx} σ2 H2)
noncomputable def QaE(fp:List Addr)(h:Heap):List (Addr×Obj):=fp.filterMap λb=>(h.get? b).map λo=>(b,o)
theorem qv{fp:List Addr}{h:Heap}{b:Addr}{o:Obj}(hb:b∈fp)(e:h.get? b=some o):(b,o)∈QaE fp h:=vA.mpr ⟨b,hb,by rw[e];rfl⟩
theorem YbV{fp:List Addr}{h:Heap}{p:Addr×Obj}(hp:p∈QaE fp h):p.1∈fp/\h.get? p.1=some p.2:=by
 obtain⟨b,hb,e⟩:=vA.mp hp;cases q:h.get? b with
 |none=>rw[q] at e;cases e
 |some o =>
  rw[q] at e;have e':(b,o)=p:=Option.some.inj e;subst e';exact⟨hb,q⟩
theorem Inv.pinned{pins:List (Addr×Obj)}{σ:St}{H:Hp}{s:Shared}{fp:List Addr}(I:Inv X pins σ H s)(hf:∀ b∈fp,QY X pins H b)(ho:∀ b∈fp,∃ o,s.heap.get? b=some o/\∀ v,o.data≠.cell v):Inv X (pins++QaE fp s.heap) σ H s :=
 I.pins_of λp hp=>(Uh.mp hp).elim (λz=>I.pin p (Ud _ z)) λz=>by
  obtain⟨hb,e⟩:=YbV z;obtain⟨f0,f1,f2,_⟩:=hf p.1 hb;obtain⟨o,e',d⟩:=ho p.1 hb;rw[e] at e';cases e';exact⟨e,f0,f1,f2,d⟩
theorem Inv.unpinned{pins pl:List (Addr×Obj)}{σ:St}{H:Hp}{s:Shared}(I:Inv X (pins++pl) σ H s):Inv X pins σ H s:=I.pins_of λp hp=>I.pin p (Ud _ (ue _ hp))
theorem zcI{iter:Expr}{body:List Stmt}{wi:TI}{g:TG}{tb:TS}{pos:Pos}(hp:PassesOwn (model X.prog X.w) X.A X.env X.xe)(hc:X.calm=true)(hi:PI X tg iter wi)(hg:PG X tg g)(hb:PSs X body tb)
  (hs:∀ x,foldedSetIterable iter X.env x=pure x:=by intro _;rfl):PS X (.For tg iter body [] pos) (tFor wi g tb):=by
 intro pins s σ H D I h;refine wpAny_For (thn (hi pins s σ H _ I h) λv s1 h1=>thn h1 λitv s2 h2=>?_) hs;obtain⟨it,fp,tn,J,H2,e,I2,T,st2,f2,W,⟨m0,w0⟩,turn⟩:=h2;subst e
 -- what stays true of the iterator's objects through the loop
 have stat:∀{H':Hp},(∀ b∈fp,H' b=none)->∀ b∈fp,QY X pins H' b:=λhn b hb=>⟨hn b hb,(f2 b hb).2⟩;refine codeAny_forLoop_any (λn s'=>∃ i σ' H',Inv X pins σ' H' s'/\tn i s'.heap/\(∀ b∈fp,H' b=none)/\W i n σ' H') ?_ m0 ⟨0,σ,H2,I2,st2,λb hb=>(f2 b hb).1,w0⟩;rintro n s3 ⟨i,σ3,H3,I3,st3,fr3,w3⟩
 rcases turn i n σ3 H3 w3 with ⟨stop,qn⟩|⟨go,N,hN,step⟩
 ·refine wpAny_passesOwn hp (thn (T.done X rfl rfl rfl hc i pins s3 σ3 H3 X.xe I3 (stat fr3) st3 stop) λr s4 ⟨hr,I4⟩=>?_);subst hr;exact wpAny_execs_nil ⟨σ3,H3,I4,qn⟩
 ·refine wpAny_passesOwn hp (thn (T.item X rfl rfl rfl hc i pins s3 σ3 H3 X.xe I3 (stat fr3) st3 go) λr s4 ⟨u,hr,h4⟩=>?_);subst hr;refine wpAny_passesOwn hp (thn h4 λ_ s5 ⟨x,H5,I5,r5,y5,st5,fr5⟩=>?_);have I5':=I5.pinned (stat fr5) (T.obj _ _ st5);refine wpAny_passesOwn hp (thn (hg _ s5 σ3 H5 x u _ I5' r5 (step x H5 y5)) λ_ s6 ⟨σ6,H6,I6,q6⟩=>?_);refine wpAny_passesOwn hp (thn (hb _ s6 σ6 H6 _ I6 q6) λf s7 q7=>?_);have again:∀{σ7:St}{H7:Hp},Inv X (pins++QaE fp s5.heap) σ7 H7 s7->N σ7 H7->∃ m,m<n/\∃ i σ' H',Inv X pins σ' H' s7/\tn i s7.heap/\(∀ b∈fp,H' b=none)/\W i m σ' H':=λ{σ7 H7} I7 n7=>by
   obtain⟨m',hm,w7⟩:=hN σ7 H7 n7;refine⟨m',hm,i+1,σ7,H7,I7.unpinned,T.keep _ _ _ st5 λb hb o e=>(I7.pin (b,o) (Ud _ (Ud _ (qv hb e)))).1,λb hb=>?_,w7⟩;obtain⟨o,e,d⟩:=T.obj _ _ st5 b hb;exact(I7.pin (b,o) (Ud _ (Ud _ (qv hb e)))).2.1
  cases f with
  |next=>obtain⟨σ7,H7,I7,n7⟩:=q7;exact again I7 n7
  |cont=>obtain⟨σ7,H7,I7,n7⟩:=q7;exact again I7 n7
  |brk=>obtain⟨σ7,H7,I7,q7⟩:=q7;exact⟨σ7,H7,I7.unpinned,q7⟩
  |ret v=>obtain⟨x7,σ7,H7,I7,r7,q7⟩:=q7;exact⟨x7,σ7,H7,I7.unpinned,r7,q7⟩
end
noncomputable abbrev R2:=V->V->Hp->VK->Prop
noncomputable def OpR(X:Cx)(f:Value->Value->Sem Value)(r:R2):Prop :=
 ∀(pins:List (Addr×Obj)) (s:Shared) (σ:St) (H:Hp) (x y:V) (v u:Value) (Q:VK),Inv X pins σ H s->RelV x v->RelV y u->r x y H Q ->
  wpAny (model X.prog X.w) X.A (f v u) (EP X pins σ Q) X.xe s
noncomputable def UnR(X:Cx)(f:Value->Sem Value)(r:V->Hp->VK->Prop):Prop :=
 ∀(pins:List (Addr×Obj)) (s:Shared) (σ:St) (H:Hp) (x:V) (v:Value) (Q:VK),Inv X pins σ H s->RelV x v->r x H Q ->
  wpAny (model X.prog X.w) X.A (f v) (EP X pins σ Q) X.xe s
noncomputable def CallR(X:Cx)(f:Value)(r:List V->Hp->VK->Prop):Prop :=
 ∀(pins:List (Addr×Obj)) (s:Shared) (σ:St) (H:Hp) (xs:List V) (us:List Value) (Q:VK),Inv X pins σ H s->Vals xs us->r xs H Q ->
  wpAny (model X.prog X.w) X.A (call f us) (EP X pins σ Q) X.xe s
noncomputable def tOp(r:R2)(ta tb:TE):TE:=λσ H Q=>ta σ H λx H1=>tb σ H1 λy H2=>r x y H2 Q
noncomputable def tUn(r:V->Hp->VK->Prop)(ta:TE):TE:=λσ H Q=>ta σ H λx H1=>r x H1 Q
noncomputable def rI(C:Int->Int->Prop)(g:Int->Int->V):R2:=λx y H Q=>∃ i j,x=.int i/\y=.int j/\C i j/\Q (g i j) H
noncomputable def rI0(g:Int->Int->V):R2:=λx y H Q=>∃ i j,x=.int i/\y=.int j/\Q (g i j) H
noncomputable def rU(g:Int->V):V->Hp->VK->Prop:=λx H Q=>∃ i,x=.int i/\Q (g i) H
section
variable {X:Cx} {a b c:Expr} {ta tb tc:TE} {pos:Pos}
theorem binT(ha:PE X a ta)(hb:PE X b tb){pins:List (Addr×Obj)}{s:Shared}{σ:St}{H:Hp}{R:V->V->Hp->Prop}(I:Inv X pins σ H s)
  (h:ta σ H λx H1=>tb σ H1 λy H2=>R x y H2) {Q:Value->Shared->Prop} {f:Value->Value->Sem Value}
  (hf:∀ v u s2 x y H2,Inv X pins σ H2 s2->RelV x v->RelV y u->R x y H2->wpAny (model X.prog X.w) X.A (f v u) Q X.xe s2) :
  wpAny (model X.prog X.w) X.A (eval a X.env) (λv s₁=>wpAny (model X.prog X.w) X.A (eval b X.env) (λu s₂=>wpAny (model X.prog X.w) X.A (f v u) Q X.xe s₂) X.xe s₁) X.xe s:=by
 refine thn (ha pins s σ H _ I h) λv s1 ⟨x,H1,I1,r1,q1⟩=>?_;refine thn (hb pins s1 σ H1 _ I1 q1) λu s2 ⟨y,H2,I2,r2,q2⟩=>?_;exact hf v u s2 x y H2 I2 r1 r2 q2
theorem Ybr{op:Operator}{r:R2}(ho:OpR X (binaryOp op) r)(ha:PE X a ta)(hb:PE X b tb):PE X (.BinOp a op b pos) (tOp r ta tb):=by
 intro pins s σ H Q I h;exact wpAny_BinOp (binT ha hb I h λv u s2 x y H2 I2 rx ry q=>ho pins s2 σ H2 x y v u Q I2 rx ry q)
theorem qcD{op:UnaryOp}{r:V->Hp->VK->Prop}(ho:UnR X (unaryOp op) r)(ha:PE X a ta):PE X (.UnaryOp op a pos) (tUn r ta):=by
 intro pins s σ H Q I h;exact UnaryOp_ (thn (ha pins s σ H _ I h) λv s1 ⟨x,H1,I1,r1,q1⟩=>ho pins s1 σ H1 x v Q I1 r1 q1)
theorem opI{f:Value->Value->Sem Value}{C:Int->Int->Prop}{g:Int->Int->Int}
  (rule:∀(i j:Int)(t u:Tok)(s:Shared)(Q:Value->Shared->Prop)(E:Value->Shared->Prop),C i j->Q (.int (g i j) s.toks) {s with toks:=s.toks+1}->wpAny (model X.prog X.w) X.A (f (.int i t) (.int j u)) Q E s) :
  OpR X f (rI C λi j=>.int (g i j)):=by
 intro pins s σ H x y v u Q I rx ry h;obtain⟨i,j,rfl,rfl,hc,q⟩:=h;obtain⟨t,rfl⟩:=rx;obtain⟨t',rfl⟩:=ry;exact rule i j t t' s _ _ hc ⟨.int (g i j),H,I.tok _,⟨_,rfl⟩,q⟩
theorem opI0{f:Value->Value->Sem Value}{g:Int->Int->Int}
  (rule:∀(i j:Int)(t u:Tok)(s:Shared)(Q:Value->Shared->Prop)(E:Value->Shared->Prop),Q (.int (g i j) s.toks) {s with toks:=s.toks+1}->wpAny (model X.prog X.w) X.A (f (.int i t) (.int j u)) Q E s) :
  OpR X f (rI0 λi j=>.int (g i j)):=by
 intro pins s σ H x y v u Q I rx ry h;obtain⟨i,j,rfl,rfl,q⟩:=h;obtain⟨t,rfl⟩:=rx;obtain⟨t',rfl⟩:=ry;exact rule i j t t' s _ _ ⟨.int (g i j),H,I.tok _,⟨_,rfl⟩,q⟩
theorem opB0{f:Value->Value->Sem Value}{g:Int->Int->Bool}
  (rule:∀(i j:Int)(t u:Tok)(s:Shared)(Q:Value->Shared->Prop)(E:Value->Shared->Prop),Q (.bool (g i j)) s->wpAny (model X.prog X.w) X.A (f (.int i t) (.int j u)) Q E s) :
  OpR X f (rI0 λi j=>.bl (g i j)):=by
 intro pins s σ H x y v u Q I rx ry h;obtain⟨i,j,rfl,rfl,q⟩:=h;obtain⟨t,rfl⟩:=rx;obtain⟨t',rfl⟩:=ry;exact rule i j t t' s _ _ ⟨.bl (g i j),H,I,rfl,q⟩
noncomputable def CDiv(i j:Int):Prop:=0<j/\j<1073741824
noncomputable def CPow(i j:Int):Prop:=0<=j/\j<=1000000/\i.natAbs<2^64
theorem qcS:OpR X (binaryOp .Add) (rI0 λi j=>.int (i+j)):=opI0 λ_ _ _ _ _ _ _ q=>add_int q
theorem qcL:OpR X (binaryOp .Sub) (rI0 λi j=>.int (i-j)):=opI0 λ_ _ _ _ _ _ _ q=>sub_int q
theorem op_fdiv:OpR X (binaryOp .FloorDiv) (rI CDiv λi j=>.int (i/j)):=opI λi j _ _ _ _ _ hc q=>by
 have h1:(0:Int)<j:=hc.1;have h2:j<1073741824:=hc.2;exact floordiv_int (by lia) (by rw[Uw i (by lia)];exact q) (.inl (PyProof.noPylong_small (by lia)))
theorem qcX:OpR X (binaryOp .Mod) (rI (λ_ j=>0<j) λi j=>.int (i%j)):=opI λi j _ _ _ _ _ hc q=>by
 have h1:(0:Int)<j:=hc;exact mod_int' (by lia) (by rw[Int.fmod_eq_emod_of_nonneg i (by lia)];exact q)
theorem ycP:OpR X (binaryOp .Pow) (rI CPow λi j=>.int (i^j.toNat)):=opI λ_ _ _ _ _ _ _ hc q=>pow_int_small hc.1 hc.2.1 hc.2.2 q
theorem unI{f:Value->Sem Value}{g:Int->Int}
  (rule:∀(i:Int)(t:Tok)(s:Shared)(Q:Value->Shared->Prop)(E:Value->Shared->Prop),Q (.int (g i) s.toks) {s with toks:=s.toks+1}->wpAny (model X.prog X.w) X.A (f (.int i t)) Q E s) :
  UnR X f (rU λi=>.int (g i)):=by
 intro pins s σ H x v Q I rx h;obtain⟨i,rfl,q⟩:=h;obtain⟨t,rfl⟩:=rx;exact rule i t s _ _ ⟨.int (g i),H,I.tok _,⟨_,rfl⟩,q⟩
theorem Yb9:UnR X (unaryOp .USub) (rU λi=>.int (-i)):=unI λ_ _ _ _ _ q=>neg_int q
end
noncomputable def scal:V->V->Bool
 |.non,.non=>true | .non,.int _=>true | .int _,.non=>true | .non,.bl _=>true | .bl _,.non=>true | .non,.str _=>true | .str _,.non=>true
 |.int _,.int _=>true | .bl _,.bl _=>true | .str _,.str _=>true | .byt _,.byt _=>true
 |.int _,.str _=>true | .str _,.int _=>true | .bl _,.str _=>true | .str _,.bl _=>true
 |_,_=>false
noncomputable def rNe:R2:=λx y H Q=>scal x y=true/\Q (.bl (!decide (x=y))) H
theorem qcv{i j:Int}:decide (V.int i=V.int j)=(i==j):=by
 rw[Uo];simp
theorem ZcV{i j:Bool}:decide (V.bl i=V.bl j)=(i==j):=by
 rw[Uo];simp
theorem ycB{i j:Str}:decide (V.str i=V.str j)=(i==j):=by
 rw[Uo];simp
theorem ZcB{i j:Array UInt8}:decide (V.byt i=V.byt j)=(i.toList==j.toList):=by
 rw[Uo];cases i;cases j;simp
section
variable {X:Cx} {a b c:Expr} {ta tb tc:TE} {pos:Pos}
theorem Zx{pins:List (Addr×Obj)}{σ:St}{H:Hp}{s:Shared}{Q:VK}{k k':Bool}(I:Inv X pins σ H s)(q:Q (.bl k) H)(e:k=k'):EP X pins σ Q (.bool k') s:=by
 subst e;exact⟨.bl k,H,I,rfl,q⟩
theorem op_ne:OpR X (compareOp .NotEq) rNe:=by
 intro pins s σ H x y v u Q I rx ry h;obtain⟨hs,q⟩:=h;cases x with
 |non =>
  cases rx;cases y with
  |non=>cases ry;exact PySem.EqNone.ne_none_none (Zx I q (by simp))
  |bl j=>cases ry;exact PySem.EqNone.ne_none_bool (Zx I q (by simp))
  |int j=>obtain⟨t',rfl⟩:=ry;exact PySem.EqNone.ne_none_int (Zx I q (by simp))
  |str j=>obtain⟨t',rfl⟩:=ry;exact PySem.EqNone.ne_none_str (Zx I q (by simp))
  |_=>exact absurd (show false=true from hs) Vc
 |bl i =>
  cases rx;cases y with
  |non=>cases ry;exact PySem.EqNone.ne_bool_none (Zx I q (by simp))
  |bl j=>cases ry;exact ne_bool (Zx I q (congrArg not ZcV))
  |str j=>obtain⟨t',rfl⟩:=ry;exact PySem.EqMixed.ne_bool_str (Zx I q (by simp))
  |_=>exact absurd (show false=true from hs) Vc
 |int i =>
  obtain⟨t,rfl⟩:=rx;cases y with
  |non=>cases ry;exact PySem.EqNone.ne_int_none (Zx I q (by simp))
  |int j=>obtain⟨t',rfl⟩:=ry;exact ne_int (Zx I q (congrArg not qcv))
  |str j=>obtain⟨t',rfl⟩:=ry;exact PySem.EqMixed.ne_int_str (Zx I q (by simp))
  |_=>exact absurd (show false=true from hs) Vc
 |str i =>
  obtain⟨t,rfl⟩:=rx;cases y with
  |non=>cases ry;exact PySem.EqNone.ne_str_none (Zx I q (by simp))
  |bl j=>cases ry;exact PySem.EqMixed.ne_str_bool (Zx I q (by simp))
  |int j=>obtain⟨t',rfl⟩:=ry;exact PySem.EqMixed.ne_str_int (Zx I q (by simp))
  |str j=>obtain⟨t',rfl⟩:=ry;exact ne_str (Zx I q (congrArg not ycB))
  |_=>exact absurd (show false=true from hs) Vc
 |byt i =>
  obtain⟨t,rfl⟩:=rx;cases y with
  |byt j=>obtain⟨t',rfl⟩:=ry;exact PySem.W.ne_bytes (Zx I q (congrArg not ZcB))
  |_=>exact absurd (show false=true from hs) Vc
 |_=>cases y <;> exact absurd (show false=true from hs) Vc
theorem op_lt:OpR X (compareOp .Lt) (rI0 λi j=>.bl (decide (i<j))):=opB0 λ_ _ _ _ _ _ _ q=>lt_int q
theorem op_le:OpR X (compareOp .LtE) (rI0 λi j=>.bl (decide (i<=j))):=opB0 λ_ _ _ _ _ _ _ q=>le_int q
theorem op_gt:OpR X (compareOp .Gt) (rI0 λi j=>.bl (decide (j<i))):=opB0 λ_ _ _ _ _ _ _ q=>gt_int q
theorem op_ge:OpR X (compareOp .GtE) (rI0 λi j=>.bl (decide (j<=i))):=opB0 λ_ _ _ _ _ _ _ q=>ge_int q
theorem Za8:OpR X (compareOp .In) (λx y H Q=>∃ i j,x=.str i/\y=.str j/\Q (.bl (!(Builtin.Str.occurrences j i 0 j.length 1).isEmpty)) H):=by
 intro pins s σ H x y v u Q I rx ry h;obtain⟨i,j,rfl,rfl,q⟩:=h;obtain⟨t,rfl⟩:=rx;obtain⟨t',rfl⟩:=ry;exact in_str (Zx I q rfl)
theorem zcV(b:Expr){op:CmpOp}(h:op≠.In:=by decide)(h2:op≠.NotIn:=by decide):behindInMarks op b=false:=by
 have e1:(op==CmpOp.In)=false:=by cases op <;> first|rfl|exact absurd rfl h
 have e2:(op==CmpOp.NotIn)=false:=by cases op <;> first|rfl|exact absurd rfl h2
 cases b <;> simp[behindInMarks,e1,e2]
theorem Qbk{op:CmpOp}{r:R2}(ho:OpR X (compareOp op) r)(ha:PE X a ta)(hb:PE X b tb)(hm:behindInMarks op b=false):PE X (.Compare a [op] [b] pos) (tOp r ta tb):=by
 intro pins s σ H Q I h;exact wpAny_Compare1 (binT ha hb I h λv u s2 x y H2 I2 rx ry q=>ho pins s2 σ H2 x y v u Q I2 rx ry q) hm
noncomputable def zcH(t:TE):TT:=λσ H Q=>t σ H λx H'=>∃ k,x=.bl k/\Q k H'
theorem YaO{op:CmpOp}{r:R2}(ho:OpR X (compareOp op) r)(ha:PE X a ta)(hb:PE X b tb)(hm:behindInMarks op b=false):PT X (.Compare a [op] [b] pos) (zcH (tOp r ta tb)):=by
 intro pins s σ H Q I h;refine wpAny_isTrue_Compare1 (thn (ha pins s σ H _ I h) λv s1 ⟨x,H1,I1,r1,q1⟩=>thn (hb pins s1 σ H1 _ I1 q1) λu s2 ⟨y,H2,I2,r2,q2⟩ =>
  thn (ho pins s2 σ H2 x y v u _ I2 r1 r2 q2) λc s3 ⟨z,H3,I3,r3,k,e,q3⟩=>?_) hm
 subst e;cases r3;exact wpAny_truthy_bool ⟨H3,I3,q3⟩
theorem qaQ:(sizeLine:Nat)<2^63:=by rw[sizeLine_eq];decide
theorem YbB:OpR X (binaryOp .Add) (λx y H Q=>∃ i j,x=.str i/\y=.str j/\i.length+j.length<=sizeLine/\Q (.str (i++j)) H):=by
 intro pins s σ H x y v u Q I rx ry h;obtain⟨i,j,rfl,rfl,hz,q⟩:=h;obtain⟨t,rfl⟩:=rx;obtain⟨t',rfl⟩:=ry;exact add_str (λt' tk=>⟨.str (i++j),H,I.tok _,⟨_,rfl⟩,q⟩) hz
theorem Qcb{x:V}{us:List Value}(r:Vals [x] us):∃ u,us=[u]/\RelV x u:=by
 cases r with
 |cons r1 r2=>cases r2;exact⟨_,rfl,r1⟩
end
structure ObjM (h:Heap) (x dx C:Addr) (mA:Str->Option Value):Prop where
 obj:h.get? x=some (Wh C dx)
 ns:h.Ns1 dx mA
 ne:dx≠x
theorem ybS{h:Heap}{dx:Addr}{mA:Str->Option Value}(n:h.Ns1 dx mA):∃ od,h.get? dx=some od/\∀ name,xw name od=some (mA name):=by
 obtain⟨o,es,ep,ho,hd,hk,_,hm⟩:=n;refine⟨o,ho,λname=>?_⟩;have e:=hm name;unfold nsFind findBy at e;rw[<- Array.find?_toList] at e;unfold xw;rw[hd];dsimp only;split
 ·rename_i y q;rw[q] at e;exact congrArg some e
 ·rename_i q;rw[q] at e;have a:es.toList.any (·.refKey)=false:=by
   rw[List.any_eq_false];intro y hy;obtain⟨z,t,hkey⟩:=hk y (Array.mem_toList_iff.mp hy);simp[DictEntry.refKey,hkey]
  have a':¬ es.toList.any (·.refKey)=true:=by rw[a];exact Vc
  rw[if_neg a'];exact congrArg some e
theorem ObjM.look{h:Heap}{x dx C:Addr}{mA:Str->Option Value}(I:ObjM h x dx C mA):∃ od,PySem.W.InstAt h x (Wh C dx) C (some od)/\∀ name,xw name od=some (mA name) :=
 let ⟨od,ho,hl⟩:=ybS I.ns
 ⟨od,⟨I.obj,rfl,rfl,ho⟩,hl⟩
section
variable {prog:Program} {w:World} {A:Around} {E:Value->Shared->Prop} {s:Shared} {K:PySem.W.Frag} {x dx C f:Addr} {mA:Str->Option Value} {name:Str} {v:Value}
theorem ycz{expr:Bool}{Q:Value->Shared->Prop}(X:K.In s.heap)(I:ObjM s.heap x dx C mA)(hg:wj K C name=true)(hh:uj K C=true)
  (ha:Ua K (.ref C) name=some none) (hv:mA name=some v) (hv':UC v=true) (h:Q v {s with toks:=s.toks+1}) :
  wpAny (model prog w) A (getAttr (.ref x) name expr) Q E s:=by
 obtain⟨od,J,hl⟩:=I.look;exact PySem.W.get_value X J (vv hg).1 (PySem.W.findObj_own hh ha rfl (by rw[hl,hv])) hv' h
theorem Qcg{pl:Sem Bool}{Q:Value×List Value->Shared->Prop}(X:K.In s.heap)(I:ObjM s.heap x dx C mA)(hg:wj K C name=true)
  (hf:Ua K (.ref C) name=some (some (.ref f))) (ht:Wi K (.ref f)=true) (hv:mA name=none) (h:Q (.ref f,[.ref x]) s) :
  wpAny (model prog w) A (getMethod (.ref x) name pl) Q E s:=by
 obtain⟨od,J,hl⟩:=I.look;exact PySem.W.method_fn X J (vv hg).1 (vv hg).2 hf (beq_iff_eq.mp ht) (by show(xw name od).map (·.isSome)=some false;rw[hl,hv];rfl) h
theorem zct{ns:List Str}{Q:Unit->Shared->Prop}(X:K.In s.heap)(I:ObjM s.heap x dx C mA)
  (hs:Ua K (.ref C) "__setattr__"=some (some (.builtin "object.__setattr__"))) (hp:wl K C=true) (ht:Wy K C name=some none) (hh:uj K C=true)
  (hw:PySem.Within mA ns) (hsz:ns.length<=sizeLine)
  (h:∀ h',ObjM h' x dx C (λy=>if y=name then some v else mA y)->Heap.SameBut dx s.heap h'->Q () {s with heap:=h',toks:=s.toks+2}) :
  wpAny (model prog w) A (setAttr (.ref x) name v) Q E s:=by
 obtain⟨od,J,hl⟩:=I.look;refine PySem.W.set_plain X J hs (PySem.W.osa_open (s:={s with toks:=s.toks+1}) (r:=none) X J hp ht λb=>?_);obtain⟨cd,hc,hd'⟩:=PySem.W.any_some hh;have hx:s.heap.get? x=some ⟨.ref C,some dx,.plain,#[]⟩:=I.obj;refine wpAny_bind (wpAny_pure (wpAny_bind (wpAny_bind (wpAny_loadPart hx (wpAny_bind (PySem.W.Looks.here (s:={s with toks:=s.toks+1}) (PySem.W.looks_clsIn X hc) ?_))))));rw[hd'];refine wpAny_pure (a:=some dx) (wpAny_bind (wpAny_pure (wpAny_bind ?_)));refine wpAny_nsSet1 (s:={s with toks:=s.toks+1}) I.ns λh' hn2 hs2=>?_;obtain⟨oD,esD,epD,hoD,hdD,hcD⟩:=hn2.count (PySem.Within.cons name v hw);refine wpAny_bind (wpAny_lookBehind hoD (by rw[hdD];exact pastItsLine_dict (Ve hcD (by rw[We];lia))) ?_);exact wpAny_pure (h _ ⟨(hs2.2 _ (Ne.symm I.ne)).trans I.obj,hn2,I.ne⟩ hs2)
theorem zb7{R:Result->Shared->Prop}{vs:List Value}{kw:List (Str×Value)}(X:K.In s.heap)(hm:Uj K C=true)
  (hi:Ua K (.ref C) "__init__"=some (some (.ref f))) (hf:uf K (.ref f)=some (.type "function"))
  (h:codeAny (model prog w) (A.under (.builtin "type.__call__" ⟨.ref C::vs,kw⟩)) (.call (.ref f) ⟨.ref (s.heap.objs.size+1)::vs,kw⟩) (PySem.W.InitBack (s.heap.objs.size+1) R)
   {s with heap:=(s.heap.push vg).push (Wh C s.heap.objs.size)}) :
  codeAny (model prog w) A (.call (.ref C) ⟨vs,kw⟩) R s:=by
 obtain⟨hh,g,d,t,os⟩:=s;exact UB (Ux X hm) (xq X hi) (λself=>PySem.W.bind_fn X self hf) (.inl rfl) h
theorem qb1{R:Result->Shared->Prop}(X:K.In s.heap)(hm:Uj K C=true)
  (hi:Ua K (.ref C) "__init__"=some (some (.builtin "object.__init__")))
  (hb:∀ self,PySem.W.Looks (model prog w) s.heap (bindSpecial (.builtin "object.__init__") self) (.builtin "object.__init__",[self]))
  (h:codeAny (model prog w) (A.under (.builtin "type.__call__" ⟨[.ref C],[]⟩)) (.call (.builtin "object.__init__") ⟨[.ref (s.heap.objs.size+1)],[]⟩) (PySem.W.InitBack (s.heap.objs.size+1) R)
   {s with heap:=(s.heap.push vg).push (Wh C s.heap.objs.size)}) :
  codeAny (model prog w) A (.call (.ref C) ⟨[],[]⟩) R s:=by
 obtain⟨hh,g,d,t,os⟩:=s;exact UB (Ux X hm) (xq X hi) hb (.inr ⟨rfl,rfl⟩) h
end
noncomputable def ZS(f:Str)(v:V):List (Str×V)->List (Str×V)
 |[]=>[(f,v)]
 |(g,x)::r=>if g=f then(g,v)::r else(g,x)::ZS f v r
theorem zaK(f g:Str)(v:V):∀ fs:List (Str×V),(ZS f v fs).lookup g=if g=f then some v else fs.lookup g
 |[]=>by
  show vq g [(f,v)]=_;by_cases h:g=f
  ·have hb:(g==f)=true:=beq_iff_eq.mpr h;simp only[vq,hb,if_pos h]
  ·have hb:(g==f)=false:=beq_eq_false_iff_ne.mpr h;simp only[vq,hb,if_neg h]
 |(k,x)::r=>by
  have ih:=zaK f g v r;rw[show ZS f v ((k,x)::r)=(if k=f then(k,v)::r else(k,x)::ZS f v r) from rfl];by_cases hk:k=f
  ·rw[if_pos hk];by_cases h:g=k
   ·have hb:(g==k)=true:=beq_iff_eq.mpr h;simp only[vq,hb,if_pos (h.trans hk)]
   ·have hb:(g==k)=false:=beq_eq_false_iff_ne.mpr h;simp only[vq,hb,if_neg (λe:g=f=>h (e.trans hk.symm))]
  ·rw[if_neg hk];by_cases h:g=k
   ·have hb:(g==k)=true:=beq_iff_eq.mpr h;simp only[vq,hb,if_neg (λe:g=f=>hk (h.symm.trans e))]
   ·have hb:(g==k)=false:=beq_eq_false_iff_ne.mpr h;simp only[vq,hb];exact ih
theorem yaI(f:Str)(v:V):∀ fs:List (Str×V),f∈(ZS f v fs).map (·.1)/\∀ g,g∈fs.map (·.1)->g∈(ZS f v fs).map (·.1)
 |[]=>⟨by simp[ZS],λg h=>by simp at h⟩
 |(k,x)::r=>by
  obtain⟨i1,i2⟩:=yaI f v r;rw[show ZS f v ((k,x)::r)=(if k=f then(k,v)::r else(k,x)::ZS f v r) from rfl];by_cases hk:k=f
  ·rw[if_pos hk];subst hk;exact⟨by simp,λg h=>by simpa using h⟩
  ·rw[if_neg hk];refine⟨?_,λg h=>?_⟩
   ·rw[Xd];exact Xe _ i1
   ·rw[Xd] at h ⊢
    rcases vb.mp h with e|e
    ·exact vb.mpr (.inl e)
    ·exact Xe _ (i2 g e)
theorem yaK(f:Str)(v:V):∀ fs:List (Str×V),(ZS f v fs).length<=fs.length+1
 |[]=>by simp[ZS]
 |(k,x)::r=>by
  have ih:=yaK f v r;rw[show ZS f v ((k,x)::r)=(if k=f then(k,v)::r else(k,x)::ZS f v r) from rfl];by_cases hk:k=f
  ·rw[if_pos hk,We,We];lia
  ·rw[if_neg hk,We,We];lia
theorem RelO.some_of{v:V}{o:Option Value}(r:RelO (some v) o):∃ u,o=some u/\RelV v u:=by
 cases o with
 |none=>exact(show False from r).elim
 |some u=>exact⟨u,rfl,r⟩
theorem RelO.none_of{o:Option Value}(r:RelO none o):o=none:=by
 cases o with
 |none=>rfl
 |some u=>exact(show False from r).elim
theorem ZbT{v:V}{u:Value}(r:RelV v u):UC u=true:=by
 cases v with
 |non=>cases(show u=Value.none from r);rfl
 |bl b=>cases(show u=Value.bool b from r);rfl
 |int i=>obtain⟨t,e⟩:=(show ∃ t,u=Value.int i t from r);cases e;rfl
 |str x=>obtain⟨t,e⟩:=(show ∃ t,u=Value.str x t from r);cases e;rfl
 |byt b=>obtain⟨t,e⟩:=(show ∃ t,u=Value.bytes b t from r);cases e;rfl
 |flt b=>obtain⟨t,e⟩:=(show ∃ t,u=Value.float b t from r);cases e;rfl
 |ref a=>cases(show u=Value.ref a from r);rfl
 |ty n=>cases(show u=Value.type n from r);rfl
section
variable {P:Program} {w:World} {H H':Hp} {h h':Heap} {a C dx:Addr} {fs fs':List (Str×V)}
theorem yaO(hok:HOk P w H h)(e:H a=some (.ins C dx fs)):∃ mA,ObjM h a dx C mA/\(∀ f,RelO (fs.lookup f) (mA f))/\PySem.Within mA (fs.map (·.1))/\fs.length<=1000/\H dx=some (.own a):=by
 obtain⟨d,z,ne,ob,mA,n,r,q⟩:=(show ObjOk P w H h a (.ins C dx fs) from hok a _ e);exact⟨mA,⟨ob,n,ne⟩,r,q,z,d⟩
end
structure Cls (K:PySem.W.Frag) (C:Addr):Prop where
 pg:wj K C Str.empty=true
 hd:uj K C=true
 po:wl K C=true
 sa:Ua K (.ref C) "__setattr__"=some (some (.builtin "object.__setattr__"))
theorem Cls.get{K:PySem.W.Frag}{C:Addr}(c:Cls K C)(f:Str):wj K C f=true:=c.pg
noncomputable def NoAttr(K:PySem.W.Frag)(C:Addr)(f:Str):Prop:=Ua K (.ref C) f=some none
theorem NoAttr.taker{K:PySem.W.Frag}{C:Addr}{f:Str}(n:NoAttr K C f):Wy K C f=some none:=by
 unfold Wy;rw[show Ua K (.ref C) f=some none from n];rfl
structure Meth (K:PySem.W.Frag) (C:Addr) (m:Str) (f:Addr):Prop where
 at_:Ua K (.ref C) m=some (some (.ref f))
 fn:Wi K (.ref f)=true
 kp:Uc K (.ref f)=true
section
variable {X:Cx} {pins:List (Addr×Obj)} {σ:St} {H:Hp} {s:Shared} {a C dx:Addr} {fs:List (Str×V)} {f:Str} {v:V} {A:Around} {E:Value->Shared->Prop}
theorem YbG{b:Bool}{Q:Value->Shared->Prop}(I:Inv X pins σ H s)(e:H a=some (.ins C dx fs))(c:Cls X.K C)(n:NoAttr X.K C f)(l:fs.lookup f=some v)
  (h:∀ u s',Inv X pins σ H s'->RelV v u->Q u s'):wpAny (model X.prog X.w) A (getAttr (.ref a) f b) Q E s:=by
 obtain⟨mA,O,r,_,_,_⟩:=yaO I.hok e;obtain⟨u,hu,ru⟩:=RelO.some_of (v:=v) (o:=mA f) (by rw[<- l];exact r f);exact ycz I.kIn O (c.get f) c.hd n hu (ZbT ru) (h u _ (I.tok _) ru)
theorem Za1{m:Str}{g:Addr}{pl:Sem Bool}{Q:Value×List Value->Shared->Prop}(I:Inv X pins σ H s)(e:H a=some (.ins C dx fs))(c:Cls X.K C)(k:Meth X.K C m g)(l:fs.lookup m=none)
  (h:Q (.ref g,[.ref a]) s):wpAny (model X.prog X.w) A (getMethod (.ref a) m pl) Q E s:=by
 obtain⟨mA,O,r,_,_,_⟩:=yaO I.hok e;have hn:mA m=none:=RelO.none_of (by rw[<- l];exact r m);exact Qcg I.kIn O (c.get m) k.at_ k.fn hn h
theorem ybC{y:V}{u:Value}{Q:Unit->Shared->Prop}(I:Inv X pins σ H s)(e:H a=some (.ins C dx fs))(c:Cls X.K C)(n:NoAttr X.K C f)(hl:fs.length<1000)(ry:RelV y u)
  (h:∀ s',Inv X pins σ (upd H a (.ins C dx (ZS f y fs))) s'->Q () s'):wpAny (model X.prog X.w) A (setAttr (.ref a) f u) Q E s:=by
 obtain⟨mA,O,r,wi,_,ho⟩:=yaO I.hok e;have hz:(fs.map (·.1)).length<=sizeLine:=by rw[vc,sizeLine_eq];lia
 refine zct I.kIn O c.sa c.po n.taker c.hd wi hz λh' O' sb=>h _ ?_;have hd:∃ o,h'.get? dx=some o:=let ⟨o,_,_,e',_⟩:=O'.ns;⟨o,e'⟩;refine I.write (x:=a) (e:=dx) (by rw[e];exact True.intro) (.inr ho) (λb q hb z=>(sb.2 b hb).trans z) hd ?_;refine⟨by rw[qc O.ne];exact ho,?_,O.ne,O'.obj,_,O'.ns,λg=>?_,λg hg=>?_⟩
 ·have:=yaK f y fs;lia
 ·show RelO ((ZS f y fs).lookup g) (if g=f then some u else mA g);rw[zaK];by_cases q:g=f
  ·rw[if_pos q,if_pos q];exact ry
  ·rw[if_neg q,if_neg q];exact r g
 ·by_cases q:g=f
  ·rw[q];exact(yaI f y fs).1
  ·refine(yaI f y fs).2 g (wi g λz=>hg ?_);show(if g=f then some u else mA g)=none;rw[if_neg q];exact z
theorem Inv.made(I:Inv X pins σ H s):Inv X pins σ (upd (upd H s.heap.objs.size (.own (s.heap.objs.size+1))) (s.heap.objs.size+1) (.ins C s.heap.objs.size []))
  {s with heap:=(s.heap.push vg).push (Wh C s.heap.objs.size)}:=by
 have e1:(s.heap.push vg).get? s.heap.objs.size=some vg:=Xb s.heap rfl;have e2:((s.heap.push vg).push (Wh C s.heap.objs.size)).get? (s.heap.objs.size+1)=some (Wh C s.heap.objs.size):=by
  have:=Xb (s.heap.push vg) (o:=Wh C s.heap.objs.size) rfl
  rwa [xh] at this
 have e3:(s.heap.push vg).Ns s.heap.objs.size (λ_=>none):=⟨vg,#[],_,e1,rfl,(λe he=>absurd he (by simp)),λ_=>rfl⟩;have I1:=I.laid (a:=s.heap.objs.size) (o:=.own (s.heap.objs.size+1)) (h':=s.heap.push vg) (t':=s.toks) (λb u q=>wa _ q) (xb _) ⟨_,e1⟩;refine I1.laid (a:=s.heap.objs.size+1) (o:=.ins C s.heap.objs.size []) (t':=s.toks) (λb u q=>wa _ q) (vn (xh _ _)) ?_;have ne:s.heap.objs.size≠s.heap.objs.size+1:=Wc (Vn _);refine⟨by rw[qc ne,ye],Uk _,ne,e2,λ_=>none,(Heap.Ns1.of_empty e3).at λo q=>wa _ q,λ_=>True.intro,λy hy=>absurd rfl hy⟩
theorem Zcz{prog:Program}{w:World}{env:Env}{e:Expr}{f:Str}{pos:Pos}{s:Shared}{Q:Value->Shared->Prop}(hb:attributeBase e f env (eval e env)=eval e env)
  (h:wpAny (model prog w) A (eval e env) (λo s₁=>wpAny (model prog w) A (getAttr o f true) Q E s₁) E s):wpAny (model prog w) A (eval (.Attribute e f pos) env) Q E s :=
 Attribute_any_ h (by rw[arm_eval_Attribute,hb])
end
noncomputable def tFld(K:PySem.W.Frag)(ta:TE)(f:Str):TE:=λσ H Q=>ta σ H λx H1=>∃ a C dx fs v,x=.ref a/\H1 a=some (.ins C dx fs)/\Cls K C/\NoAttr K C f/\fs.lookup f=some v/\Q v H1
noncomputable def sFld(K:PySem.W.Frag)(ta tv:TE)(f:Str):TS:=λD σ H=>tv σ H λy H1=>ta σ H1 λx H2=>∃ a C dx fs,x=.ref a/\H2 a=some (.ins C dx fs)/\Cls K C/\NoAttr K C f/\fs.length<1000 /\
 D.nx σ (upd H2 a (.ins C dx (ZS f y fs)))
section
variable {X:Cx} {o e value:Expr} {f:Str} {pos pos' tpos:Pos} {ta tv:TE}
theorem qcT(he:PE X e ta)(hb:attributeBase e f X.env (eval e X.env)=eval e X.env):PE X (.Attribute e f pos) (tFld X.K ta f):=by
 intro pins s σ H Q I h;refine Zcz hb (thn (he pins s σ H _ I h) λu s1 ⟨x,H1,I1,rx,a,C,dx,fs,v,ex,ea,c,n,l,q⟩=>?_);subst ex;obtain rfl:u=Value.ref a:=rx;exact YbG I1 ea c n l λu' s2 I2 ru=>⟨v,H1,I2,ru,q⟩
theorem QcR(ha:PE X o ta)(hv:PE X value tv)(hs:swapsWith value (some (.Attribute o f pos')) pos.line X.env=pure false):PS X (.Assign [.Attribute o f pos'] value pos) (sFld X.K ta tv f):=by
 intro pins s σ H D I h;refine plainObj_wpAny_Assign_Attribute (thn (hv pins s σ H _ I h) λu s1 ⟨y,H1,I1,ry,q⟩=>thn (ha pins s1 σ H1 _ I1 q) λov s2 ⟨x,H2,I2,rx,a,C,dx,fs,ex,ea,c,n,l,q2⟩=>?_) hs;subst ex;obtain rfl:ov=Value.ref a:=rx;exact ybC I2 ea c n l ry λs3 I3=>⟨σ,_,I3,q2⟩
end
section
variable {X:Cx} {pins:List (Addr×Obj)} {σ:St} {H:Hp} {s:Shared} {A:Around} {E:Value->Shared->Prop} {Q:Value->Shared->Prop} {c:Value} {b:Bool}
inductive TyOf (K:PySem.W.Frag) (H:Hp):V->Value->Prop where
 |non:TyOf K H .non (.type "NoneType")
 |bl (x:Bool):TyOf K H (.bl x) (.type "bool")
 |int (i:Int):TyOf K H (.int i) (.type "int")
 |str (x:Str):TyOf K H (.str x) (.type "str")
 |flt (x:UInt64):TyOf K H (.flt x) (.type "float")
 |lst {a:Addr} {xs:List V} (e:H a=some (.lst xs)):TyOf K H (.ref a) (.type "list")
 |frz {a:Addr} {o:Obj} {xs:List V} (e:H a=some (.frz o (.lst xs))):TyOf K H (.ref a) (.type "list")
 |tup {a:Addr} {xs:List V} (e:H a=some (.tup xs)):TyOf K H (.ref a) (.type "tuple")
 |dK {a:Addr} {kvs:List (Key×V)} (e:H a=some (.dK kvs)):TyOf K H (.ref a) (.type "dict")
 |dT {a:Addr} {kvs:List (List Key×V)} (e:H a=some (.dT kvs)):TyOf K H (.ref a) (.type "dict")
 |ins {a C dx:Addr} {fs:List (Str×V)} (e:H a=some (.ins C dx fs)) (cl:Cls K C) (ha:Ua K (.ref C) "__class__"=some (some (.builtin "object.__class__")))
   (hn:Wp K (.builtin "object.__class__") "__get__"=some (some (.builtin "getset_descriptor.__get__"))) (htk:Xr K (.builtin "object.__class__")=some true)
   (hm:Wl K C (.type "object")=some true):TyOf K H (.ref a) (.ref C)
theorem ybW{x:V}{u t:Value}(I:Inv X pins σ H s)(rx:RelV x u)(ty:TyOf X.K H x t)(e:Ue X.K t c=some b)(h:∀ tk,Q (.bool b) {s with toks:=tk}) :
  wpAny (model X.prog X.w) A (call (.builtin "isinstance") [u,c]) Q E s:=by
 cases ty with
 |non=>cases(show u=Value.none from rx);exact vh PySem.W.kitx_none I.kIn True.intro e (λz=>nomatch z) h
 |bl y=>cases(show u=Value.bool y from rx);exact vh PySem.W.kitx_bool I.kIn True.intro e (λz=>nomatch z) h
 |int i=>obtain⟨t,q⟩:=(show ∃ t,u=Value.int i t from rx);cases q;exact vh PySem.W.kitx_int I.kIn True.intro e (λz=>nomatch z) h
 |str y=>obtain⟨t,q⟩:=(show ∃ t,u=Value.str y t from rx);cases q;exact vh PySem.W.kitx_str I.kIn True.intro e (λz=>nomatch z) h
 |flt y=>obtain⟨t,q⟩:=(show ∃ t,u=Value.float y t from rx);cases q;exact vh PySem.W.kitx_float I.kIn True.intro e (λz=>nomatch z) h
 |@lst a xs ea =>
  cases(show u=Value.ref a from rx);obtain⟨_,_,n,_,h1⟩:=(show ObjOk X.prog X.w H s.heap a (.lst xs) from I.hok a _ ea);exact vh vB I.kIn ⟨_,h1,rfl⟩ e (λz=>nomatch z) h
 |@frz a ob xs ea =>
  cases(show u=Value.ref a from rx);obtain⟨_,_,_,n,_,h1⟩:=(show ObjOk X.prog X.w H s.heap a (.frz ob (.lst xs)) from I.hok a _ ea);exact vh vB I.kIn ⟨_,h1,rfl⟩ e (λz=>nomatch z) h
 |@tup a xs ea =>
  cases(show u=Value.ref a from rx);obtain⟨_,_,_,p⟩:=(show ObjOk X.prog X.w H s.heap a (.tup xs) from I.hok a _ ea);obtain⟨o,h1,h2,_⟩:=p;exact vh PySem.W.kitx_tuple I.kIn ⟨o,h1,h2⟩ e (λz=>nomatch z) h
 |@dK a kvs ea =>
  cases(show u=Value.ref a from rx);obtain⟨_,_,vs,_,p⟩:=(show ObjOk X.prog X.w H s.heap a (.dK kvs) from I.hok a _ ea);obtain⟨o,es,ep,h1,h2,_⟩:=p;exact vh VB I.kIn ⟨o,h1,h2.1⟩ e (λz=>nomatch z) h
 |@dT a kvs ea =>
  cases(show u=Value.ref a from rx);obtain⟨_,_,xs,_,o,es,ep,h1,h2,_⟩:=(show ObjOk X.prog X.w H s.heap a (.dT kvs) from I.hok a _ ea);exact vh VB I.kIn ⟨o,h1,h2.1⟩ e (λz=>nomatch z) h
 |@ins a C dx fs ea cl ha hn htk hm =>
  cases(show u=Value.ref a from rx);obtain⟨mA,O,_⟩:=yaO I.hok ea;obtain⟨od,J,_⟩:=O.look;exact vh (PySem.W.kitx_own (cl.get _) cl.hd ha hn htk hm) I.kIn J e (λz=>nomatch z) h
end
structure Room (k:Nat) (A:Around):Prop where
 hd:A.handled=none
 dp:A.depth+3*k+5<recursionLimit
 un:A.units+16*k+200<cLine
theorem Room.mono{j k:Nat}{A:Around}(r:Room k A)(h:j<=k):Room j A:=⟨r.hd,by have:=r.dp;lia,by have:=r.un;lia⟩
theorem Room.deeper{k:Nat}{A:Around}(r:Room (k+1) A)(env:Env):Room k (A.deeper env) :=
 ⟨r.hd,by have:=r.dp;show A.depth+1+3*k+5<_;lia,by have:=r.un;show A.units+3+16*k+200<_;lia⟩
theorem Qbz{A:Around}{C:Addr}{us:List Value}{kw:List (Str×Value)}:(A.under (.builtin "type.__call__" ⟨.ref C::us,kw⟩)).depth=A.depth+1:=by
 first|rfl|simp[Around.under,Code.weight,Code.isCreation,Code.isGuard,Code.isCaller,Code.frames,Code.isFrame,guardIds]
theorem ybE{A:Around}{C:Addr}{us:List Value}{kw:List (Str×Value)}:(A.under (.builtin "type.__call__" ⟨.ref C::us,kw⟩)).units=A.units+1:=by
 first|rfl|simp[Around.under,Code.cUnits,Code.frames,Code.isFrame]
theorem Room.make{k:Nat}{A:Around}(r:Room (k+1) A)(C:Addr)(us:List Value)(kw:List (Str×Value)):Room k (A.under (.builtin "type.__call__" ⟨.ref C::us,kw⟩)) :=
 ⟨r.hd,by have:=r.dp;rw[Qbz];lia,by have:=r.un;rw[ybE];lia⟩
theorem Room.depth{k:Nat}{A:Around}(r:Room k A):A.depth<recursionLimit:=by have:=r.dp;lia
noncomputable def tNil:TA:=λ_ H Q=>Q [] H
noncomputable def qcE(ta:TE)(tr:TA):TA:=λσ H Q=>ta σ H λx H1=>tr σ H1 λxs H2=>Q (x::xs) H2
section
variable {X:Cx} {e:Expr} {es:List Expr} {te:TE} {t:TA} {pos:Pos}
theorem Qp:PA X [] tNil:=λ_ _ _ _ H Q I h=>Calls.spliced_nil ⟨[],H,I,.nil,h⟩
theorem Yb(ha:PE X e te)(hr:PA X es t)(hs:starEach (e::es) X.env=(false,eval e X.env)::starEach es X.env:=by rfl):PA X (e::es) (qcE te t):=by
 intro pos pins s σ H Q I h;rw[hs];show wpAny _ _ (spliced ((false,eval e X.env)::backTo pos (starEach es X.env))) _ _ s;refine Calls.spliced_cons (thn (ha pins s σ H _ I h) λu s1 ⟨x,H1,I1,r1,q1⟩=>?_);exact thn (hr pos pins s1 σ H1 _ I1 q1) λus s2 ⟨xs,H2,I2,r2,q2⟩=>⟨x::xs,H2,I2,.cons r1 r2,q2⟩
noncomputable def tTup(t:TA):TE:=λσ H Q=>t σ H λxs H1=>xs.length<=sizeLine/\∀ p,H1 p=none->Q (.ref p) (upd H1 p (.tup xs))
noncomputable def tLst(t:TA):TE:=λσ H Q=>t σ H λxs H1=>xs.length<=sizeLine/\∀ p,H1 p=none->Q (.ref p) (upd H1 p (.lst xs))
theorem ZcO{x1}(h:PA X es t):PE X (.Tuple es x1 pos) (tTup t):=by
 intro pins s σ H Q I hq;refine wpAny_Tuple_spliced (thn (h pos pins s σ H _ I hq) λus s1 ⟨xs,H1,I1,r,z,q⟩=>⟨by rw[<- r.length];exact z,?_⟩);have hf:H1 s1.heap.objs.size=none:=I1.hok.fresh (xb _);refine⟨.ref s1.heap.objs.size,upd H1 s1.heap.objs.size (.tup xs),I1.laid (t':=s1.toks) (λb u e=>wa _ e) (xb _) ?_,rfl,q _ hf⟩;exact⟨z,us,r,⟨_,Xb _ rfl,rfl,_,rfl⟩⟩
theorem QaU(h:PA X es t):PE X (.List es pos) (tLst t):=by
 intro pins s σ H Q I hq;refine wpAny_List_spliced (thn (h pos pins s σ H _ I hq) λus s1 ⟨xs,H1,I1,r,z,q⟩=>⟨by rw[<- r.length];exact z,?_⟩);have hf:H1 s1.heap.objs.size=none:=I1.hok.fresh (xb _);refine⟨.ref s1.heap.objs.size,upd H1 s1.heap.objs.size (.lst xs),I1.laid (t':=s1.toks) (λb u e=>wa _ e) (xb _) ?_,rfl,q _ hf⟩;exact⟨z,us,0,r,Xb _ rfl⟩
end
noncomputable abbrev Sp:=List V->Hp->VK->XK->Prop
noncomputable abbrev CXT:=List Env->Hp->Shared->XK->Value->Shared->Prop
structure Env0 (P:Program) (w:World) (K:PySem.W.Frag) (mg:Str->Option Value) (base:Heap) (A:Around) (outer:List Env) (s:Shared) (H:Hp):Prop where
 frames:A.frames=some outer
 mod:Mod K mg base
 bs:∀ b o,base.get? b=some o->s.heap.get? b=some o/\H b=none
 bsz:base.objs.size<=s.heap.objs.size
 funs:s.heap.FunFrames base outer
 frf:∀ b∈frs outer,H b=none
 hok:HOk P w H s.heap
 bare:AllBare s.gens
noncomputable def CE(outer:List Env)(P:Program)(w:World)(H:Hp)(s:Shared)(Q:VK)(u:Value)(s':Shared):Prop :=
 ∃ v H',s'.os=s.os/\AllBare s'.gens/\Un (frs outer) [] H H' s.heap s'.heap/\HOk P w H' s'.heap/\RelV v u/\Q v H'
noncomputable def CR(CX:CXT)(outer:List Env)(P:Program)(w:World)(H:Hp)(s:Shared)(Q:VK)(E:XK)(r:Result)(s':Shared):Prop :=
 match r with
 |.ok (.ret u)=>CE outer P w H s Q u s'
 |.ok _=>False
 |.error e=>CX outer H s E e s'
structure FnOk (P:Program) (w:World) (K:PySem.W.Frag) (mg:Str->Option Value) (base:Heap) (CX:CXT) (k:Nat) (f:Addr) (fd:FuncData) (ps:List Str) (sp:Sp):Prop where
 len:∀ vs H Q E,sp vs H Q E->vs.length=ps.length
 run:∀(A:Around)(outer:List Env)(s:Shared)(H:Hp)(args:Args) (us:List Value) (vs:List V) (Q:VK) (E:XK),Room k A->Env0 P w K mg base A outer s H->BindsTo s fd args (ps.zip us)->Vals vs us->sp vs H Q E ->
  codeAny (model P w) A (.call (.ref f) args) (CR CX outer P w H s Q E) s
theorem FnOk.imp{P:Program}{w:World}{K:PySem.W.Frag}{mg:Str->Option Value}{base:Heap}{CX:CXT}{k:Nat}{f:Addr}{fd:FuncData}{ps:List Str}{sp sp':Sp}(F:FnOk P w K mg base CX k f fd ps sp)
  (h:∀ vs H Q E,sp' vs H Q E->sp vs H Q E):FnOk P w K mg base CX k f fd ps sp' :=
 ⟨λvs H Q E q=>F.len vs H Q E (h _ _ _ _ q),λA outer s H args us vs Q E hr he hb hv hs=>F.run A outer s H args us vs Q E hr he hb hv (h _ _ _ _ hs)⟩
theorem Env0.make{P:Program}{w:World}{K:PySem.W.Frag}{mg:Str->Option Value}{base:Heap}{A:Around}{outer:List Env}{s:Shared}{H:Hp}(e:Env0 P w K mg base A outer s H)(C:Addr)(us:List Value)(kw:List (Str×Value)) :
  Env0 P w K mg base (A.under (.builtin "type.__call__" ⟨.ref C::us,kw⟩)) outer s H:=⟨by first|exact e.frames|(simpa[Around.under,Code.envs,Code.isFrame,pushEnvs] using e.frames),e.mod,e.bs,e.bsz,e.funs,e.frf,e.hok,e.bare⟩
section
variable {X:Cx} {pins:List (Addr×Obj)} {σ:St} {H:Hp} {s s':Shared}
theorem Inv.env0(I:Inv X pins σ H s):Env0 X.prog X.w X.K X.mg X.base X.A X.stack s H :=
 ⟨I.ok.frames,I.ok.mod,I.bs,Ve I.ok.bsz I.sz,I.stack,I.stkFree,I.hok,I.bare⟩
theorem Inv.after{Q:VK}{u:Value}(I:Inv X pins σ H s)(h:CE X.stack X.prog X.w H s Q u s'):EP X pins σ Q u s':=by
 obtain⟨v,H',os,bare,un,hok,r,q⟩:=h;obtain⟨hh,g,d,t,os'⟩:=s';obtain rfl:os'=s.os:=os;exact⟨v,H',I.call (h':=hh) (g':=g) (d':=d) (t':=t) (ch:=[]) un hok bare (λb z=>absurd z (by simp)),r,q⟩
end
noncomputable def Zca(sp:Sp)(dvs:List V)(E:XK)(t:TA):TE:=λσ H Q=>t σ H λvs H1=>sp (vs++dvs) H1 Q E
noncomputable def Binds(K:PySem.W.Frag)(fd:FuncData)(ps:List Str)(ds:List Value):Prop :=
 ∀(s:Shared)(us:List Value),K.In s.heap->(us++ds).length=ps.length->BindsTo s fd ⟨us,[]⟩ (ps.zip (us++ds))
theorem Binds.all{K:PySem.W.Frag}{fd:FuncData}{ps:List Str}(h:∀ us:List Value,us.length=ps.length->bindArgs fd ⟨us,[]⟩=pure (ps.zip us)):Binds K fd ps []:=λs us _ hl=>by
 rw[Xi] at hl ⊢;exact .of_eq (h us hl)
noncomputable def ycT(CX:CXT)(X:Cx)(E:XK):Prop:=∀(pins:List (Addr×Obj)) (σ:St) (H:Hp) (s:Shared) (e:Value) (s':Shared),Inv X pins σ H s->CX X.stack H s E e s'->X.xe e s'
section
variable {X:Cx} {CX:CXT} {k:Nat} {f C:Addr} {fd:FuncData} {ps:List Str} {sp:Sp} {dvs:List V} {ds:List Value} {E:XK} {x m:Str} {p pos apos:Pos} {e o:Expr} {es:List Expr} {ta:TE} {t:TA}
structure Mk (K:PySem.W.Frag) (C f:Addr):Prop where
 makes:Uj K C=true
 init:Ua K (.ref C) "__init__"=some (some (.ref f))
 fn:Wi K (.ref f)=true
 kp:Uc K (.ref C)=true
end
structure FnScope (N P:List Str) (sc:Scope):Prop where
 kind:sc.kind=.function
 co:sc.isCoroutine=false
 gen:sc.isGenerator=false
 nd:N.Nodup
 pre:N.take P.length=P
 par:∀ x∈P,sc.names.lookup x=some .local\/sc.names.lookup x=some .cell
 nofree:∀ y∈sc.names,y.2≠.free
theorem za8{kindOf:Str->Option NameKind}{x:Str}:∀{binds:List (Str×Value)} {m:Str->Option Value},(∀ v,(x,v)∉binds)->bindL kindOf binds m x=m x
 |[],_,_=>rfl
 |(n,v)::r,m,h=>by
  unfold bindL;rw[za8 λw hw=>h w (Xe _ hw)];split
  ·have:x≠n:=by rintro rfl;exact h v Xh
   simp[this]
  ·rfl
theorem Qbb{kindOf:Str->Option NameKind}{x:Str}:∀{binds:List (Str×Value)} {m:Str->Option Value},(∀ v,(x,v)∉binds)->bindC kindOf binds m x=m x
 |[],_,_=>rfl
 |(n,v)::r,m,h=>by
  unfold bindC;rw[Qbb λw hw=>h w (Xe _ hw)];split
  ·rfl
  ·have:x≠n:=by rintro rfl;exact h v Xh
   simp[this]
theorem Ybd{kindOf:Str->Option NameKind}{x:Str}{v:Value}:∀{P:List Str}{vs:List Value}{i:Nat}{m:Str->Option Value},P.Nodup->P[i]?=some x->vs[i]?=some v->kindOf x=some .local ->
  bindL kindOf (P.zip vs) m x=some v
 |[],_,_,_,_,h,_,_=>by simp at h
 |_::_,[],_,_,_,_,h,_=>by simp at h
 |p::P,w::vs,0,m,nd,h1,h2,hk=>by
  simp at h1 h2;subst h1;subst h2;show bindL kindOf ((p,w)::P.zip vs) m p=_;unfold bindL;rw[za8 λv hv=>(Xm.mp nd).1 (xu hv).1,if_pos hk];simp
 |p::P,w::vs,i+1,m,nd,h1,h2,hk=>by
  show bindL kindOf ((p,w)::P.zip vs) m x=_;unfold bindL;exact Ybd (i:=i) (Xm.mp nd).2 (by simpa using h1) (by simpa using h2) hk
theorem zbd{kindOf:Str->Option NameKind}{x:Str}{v:Value}:∀{P:List Str}{vs:List Value}{i:Nat}{m:Str->Option Value},P.Nodup->P[i]?=some x->vs[i]?=some v->kindOf x≠some .local ->
  bindC kindOf (P.zip vs) m x=some v
 |[],_,_,_,_,h,_,_=>by simp at h
 |_::_,[],_,_,_,_,h,_=>by simp at h
 |p::P,w::vs,0,m,nd,h1,h2,hk=>by
  simp at h1 h2;subst h1;subst h2;show bindC kindOf ((p,w)::P.zip vs) m p=_;unfold bindC;rw[Qbb λv hv=>(Xm.mp nd).1 (xu hv).1,if_neg hk];simp
 |p::P,w::vs,i+1,m,nd,h1,h2,hk=>by
  show bindC kindOf ((p,w)::P.zip vs) m x=_;unfold bindC;exact zbd (i:=i) (Xm.mp nd).2 (by simpa using h1) (by simpa using h2) hk
noncomputable def start(N:List Str)(vs:List V):St:=vs.map some++we (N.length-vs.length) none
noncomputable def Zat(CX:CXT)(P:Program)(w:World)(K:PySem.W.Frag)(mg:Str->Option Value)(base:Heap)(N:List Str)(qual:Str)(scope:Scope)(f:Addr)(cd:Value)(A:Around)(outer:List Env)(s:Shared)(H:Hp)(E:XK):Cx where
 prog:=P
 w:=w
 K:=K
 mg:=mg
 base:=base
 A:=A.deeper (envOfC qual scope s.heap.objs.size f cd)
 N:=N
 s₀:=s
 H₀:=H
 env:=envOfC qual scope s.heap.objs.size f cd
 outer:=outer
 stack:=envOfC qual scope s.heap.objs.size f cd::outer
 ex:=[]
 calm:=true
 fn:=λ_=>true
 pn:=[]
 xe:=λe s'=>wpAny (model P w) (A.deeper (envOfC qual scope s.heap.objs.size f cd)) (leaving (envOfC qual scope s.heap.objs.size f cd) e) (λ_ s''=>CX outer H s E e s'') (λe' s''=>CX outer H s E e' s'') s'
theorem Ybq{sc:Scope}{n:Nat}{x:Str}(h:sc.names.lookup x=some .cell):∃ c,(cellsFrom n sc.names []).lookup x=some c:=by
 have q:=Xt sc.names n [] (.inl h);exact Wj.mp q
theorem za9{CX:CXT}{P:Program}{w:World}{K:PySem.W.Frag}{mg:Str->Option Value}{base:Heap}{N ps:List Str}{qual:Str}{scope:Scope}{f:Addr}{cd:Value}{A:Around}{outer:List Env}{s s1:Shared}{H:Hp}{E:XK}{us:List Value}{vs:List V}
  (S:FnScope N ps scope) (hd:A.handled=none) (e0:Env0 P w K mg base A outer s H) (hl:vs.length=ps.length) (r:Vals vs us)
  (x:InCallC s s.heap.objs.size (bindL (envOfC qual scope s.heap.objs.size f cd).kindOf (ps.zip us) λ_=>none) (cellsFrom (s.heap.objs.size+1) scope.names []) (bindC (envOfC qual scope s.heap.objs.size f cd).kindOf (ps.zip us) λ_=>none) s1) :
  Inv (Zat CX P w K mg base N qual scope f cd A outer s H E) [] (start N vs) H s1:=by
 have hpl:ps.length<=N.length:=by have:=congrArg XC S.pre;rw[Vl] at this;lia
 obtain⟨h1,tk,rfl,hk⟩:=x.done;have noA:∀ b:Addr,b∉(Zat CX P w K mg base N qual scope f cd A outer s H E).ex:=λb z=>absurd (show b∈([]:List Addr) from z) (by simp);refine⟨⟨e0.mod,S.kind,rfl,rfl,xb _,λy z c h1 h2=>?_,λy hy=>?_,λy c _ h=>?_,λ_=>hd,Around.frames_deeper e0.frames,.inr ⟨rfl,rfl⟩,λb z=>absurd z (noA b),e0.bs,e0.bsz,λb _ _=>noA b,λb z=>absurd z (noA b),e0.funs,e0.frf⟩,
  rfl,e0.bare,Un.kept hk,⟨_,x.toInCall.ns,λi y v h1 h2 h3=>?_⟩,λy c h=>⟨_,x.cell y c h⟩,e0.hok.fresh (xb _),λy c h=>?_,λp hp=>absurd (show p∈([]:List (Addr×Obj)) from hp) (by simp),e0.hok.kept hk,?_⟩
 ·exact name_of_addr x.apart (PySem.mem_of_lookup h1) (PySem.mem_of_lookup h2)
 ·have hy:scope.names.lookup y=some .cell\/scope.names.lookup y=some .free:=hy
  rcases hy with hy|hy
  ·exact Ybq hy
  ·exact absurd rfl (S.nofree _ (PySem.mem_of_lookup hy))
 ·exact ux (x.above y c (PySem.mem_of_lookup h))
 ·have hi:i<vs.length:=by
   unfold start at h2;by_cases hi:i<vs.length
   ·exact hi
   ·rw[wg (by simpa using hi)] at h2;rw[uo] at h2;split at h2 <;> cases h2
  have ha:vs[i]?=some v:=by
   unfold start at h2;rw[Ub (by simpa using hi),Uf] at h2;cases e:vs[i]? with
   |none=>rw[e] at h2;cases h2
   |some a=>rw[e] at h2;cases h2;rfl
  obtain⟨u,hu,rv⟩:=r.get ha;have hp:ps[i]?=some y:=by
   rw[<- S.pre,wo (by lia)];exact h1
  have ndP:ps.Nodup:=by rw[<- S.pre];exact S.nd.sublist (List.take_sublist _ _)
  refine⟨u,rv,?_⟩
  rcases S.par y (Ui hp) with k|k
  ·exact .inl ⟨k,Ybd ndP hp hu k⟩
  ·obtain⟨c,e⟩:=Ybq (n:=s.heap.objs.size+1) k;refine .inr ⟨.inl k,c,e,?_⟩;have q:=x.cell y c e;rw[zbd ndP hp hu (by show scope.names.lookup y≠_;rw[k];decide)] at q;exact q
 ·exact e0.hok.fresh (ux (x.above y c (PySem.mem_of_lookup h)))
 ·unfold start;show _=N.length;rw[Vg,vc,um]
  lia
theorem qb9{CX:CXT}{P:Program}{w:World}{K:PySem.W.Frag}{mg:Str->Option Value}{base:Heap}{k:Nat}{f:Addr}{name qual:Str}{params:Arguments}{body:List Stmt}{scope:Scope}{dV kV doc pm cdv ct oc:Value}{an od:Option Addr}
  {osl:Array (Option Value)} {N ps:List Str} {sp:Sp} (lk:K.lookup f=some ⟨oc,od,.func (Wf name qual params body scope dV kV doc pm an cdv ct),osl⟩) (hcd:Xg K cdv qual=true) (S:FnScope N ps scope)
  (len:∀ vs H Q E,sp vs H Q E->vs.length=ps.length)
  (hbody:∀(A:Around)(outer:List Env)(s:Shared)(H:Hp)(vs:List V) (Q:VK) (E:XK),Room k (A.deeper (envOfC qual scope s.heap.objs.size f cdv))->sp vs H Q E ->
   ∃ t,PSs (Zat CX P w K mg base N qual scope f cdv A outer s H E) body t/\t {nx:=λ_ H'=>Q .non H',rt:=Q} (start N vs) H) :
  FnOk P w K mg base CX (k+1) f (Wf name qual params body scope dV kV doc pm an cdv ct) ps sp:=by
 refine⟨len,λA outer s H args us vs Q E hr e0 hb r hsp=>?_⟩;have hl:=len _ _ _ _ hsp;have KX:K.In s.heap:=e0.mod.kin.keeps λb o e=>(e0.bs b o e).1;have lim:s.heap.NoLimit:=e0.mod.nolimit.keeps λb o e=>(e0.bs b o e).1;have hkind:∀ y∈ps.zip us,scope.names.lookup y.1=some .local\/(scope.names.lookup y.1=some .cell/\((cellsFrom (s.heap.objs.size+1) scope.names []).lookup y.1).isSome=true):=λ⟨n,v⟩ hy=>by
  rcases S.par n (xu hy).1 with q|q
  ·exact .inl q
  ·exact .inr ⟨q,Xt _ _ _ (.inl q)⟩
 refine codeAny_call_function hr.depth (KX _ _ lk) rfl S.co S.gen rfl (VA KX hcd) (hb _ _ _ _ ?_);refine wpAny_newFunctionEnv_cells S.kind hkind λenv he s1 x=>?_;subst he;refine⟨lim.keeps x.toInCall.keep,codeAny_func ?_⟩;obtain⟨t,ht,hq⟩:=hbody A outer s H vs Q E (hr.deeper _) hsp;have I:Inv (Zat CX P w K mg base N qual scope f cdv A outer s H E) [] (start N vs) H s1:=za9 S hr.hd e0 hl r x;refine wpAny_mono (ht [] s1 (start N vs) H _ I hq) (λfl s' hs=>?_) λe s' hs=>hs;have fin:∀{σ':St}{H':Hp}{v:V}{u:Value},Inv (Zat CX P w K mg base N qual scope f cdv A outer s H E) [] σ' H' s'->RelV v u->Q v H'->CE outer P w H s Q u s' :=
  λ{σ' H' v u} J rv q=>⟨v,H',J.os,J.bare,J.base,J.hok,rv,q⟩
 cases fl with
 |ret u =>
  obtain⟨v,σ',H',J,rv,q⟩:=hs;exact fin J rv q
 |next =>
  obtain⟨σ',H',J,q⟩:=hs;exact fin (v:=V.non) (u:=Value.none) J rfl q
 |brk =>
  obtain⟨_,_,_,q⟩:=hs;exact False.elim q
 |cont =>
  obtain⟨_,_,_,q⟩:=hs;exact False.elim q
section
variable {X:Cx} {x:Str} {p pos:Pos} {e:Expr} {es:List Expr} {t:TA} {id T:String} {r:List V->Hp->VK->Prop}
noncomputable def tCB(r:List V->Hp->VK->Prop)(t:TA):TE:=λσ H Q=>t σ H λvs H1=>r vs H1 Q
theorem Qq(hc:CallR X (.builtin id) r)(hg:Gl X x)(hm:X.mg x=none)(hv:bootBuiltins x=some (.builtin id))(ha:PA X (e::es) t)(hn:x≠"__name__":=by decide)(hdb:(x==("__debug__":Str))=false:=by decide)
  (he:starEach (e::es) X.env=(false,eval e X.env)::starEach es X.env:=by rfl) (hpl:(backTo pos (starEach es X.env)).any (·.1)=false:=by rfl):PE X (.Call (.Name x p) (e::es) [] pos) (tCB r t):=by
 intro pins s σ H Q I h;refine wpAny_Call_Name_kw (QaH I hg hm hv ?_ hn hdb);exact PyProof.Rows.callWith_builtin1 (thn (ha pos pins s σ H _ I h) λus s1 ⟨vs,H1,I1,r1,q1⟩=>hc pins s1 σ H1 vs us Q I1 r1 q1) he hpl
theorem qa9(hc:CallR X (.type T) r)(hg:Gl X x)(hm:X.mg x=none)(hv:bootBuiltins x=some (.type T))(ha:PA X (e::es) t)(hn:x≠"__name__":=by decide)(hdb:(x==("__debug__":Str))=false:=by decide)
  (he:starEach (e::es) X.env=(false,eval e X.env)::starEach es X.env:=by rfl) (hpl:(backTo pos (starEach es X.env)).any (·.1)=false:=by rfl):PE X (.Call (.Name x p) (e::es) [] pos) (tCB r t):=by
 intro pins s σ H Q I h;refine wpAny_Call_Name_kw (QaH I hg hm hv ?_ hn hdb);exact PyProof.Rows.callWith_type1 (thn (ha pos pins s σ H _ I h) λus s1 ⟨vs,H1,I1,r1,q1⟩=>hc pins s1 σ H1 vs us Q I1 r1 q1) he hpl
end
end L2
namespace HT
open PySem PyProof.Rows
section
variable {prog:Program} {w:World} {A:Around} {E:Value->Shared->Prop} {s:Shared}
theorem cat_tup{t b:Addr}{vs ws:List Value}{Q:Value->Shared->Prop}(ht:IsTup s.heap t vs.toArray)(hb:IsTup s.heap b ws.toArray)(hv:vs≠[])
  (h1:ws=[]->Q (.ref t) s) (h2:ws≠[]->Q (.ref s.heap.objs.size) {s with heap:=s.heap.push {cls:=.type "tuple",data:=.seq (vs++ws).toArray}})
  (hsz:vs.length+ws.length<=sizeLine):wpAny (model prog w) A (binaryOp .Add (.ref t) (.ref b)) Q E s:=by
 obtain⟨⟨cls,dd,data,sl⟩,ho,hc,n,hd⟩:=id ht;obtain⟨⟨cls2,dd2,data2,sl2⟩,ho2,hc2,n2,hd2⟩:=id hb;simp only at hc hd hc2 hd2;subst hc hd hc2 hd2;have e:vs.toArray++ws.toArray=(vs++ws).toArray:=by simp
 by_cases hw:ws=[]
 ·exact concat_meets ⟨_,ho,rfl⟩ ⟨_,ho2,rfl⟩ noFill_tuple_add seq_tuple_add PySem.F.slot_tuple_add PySem.F.entry_tuple_add (PySem.F.args_tuple_add_2 _ _)
   (tuple_addW1 t b vs.toArray ws.toArray n n2 dd dd2 sl sl2 (by simpa using hv) (by simp[hw])) ⟨ho,ho2,h1 hw⟩
 ·refine concat_meets ⟨_,ho,rfl⟩ ⟨_,ho2,rfl⟩ noFill_tuple_add seq_tuple_add PySem.F.slot_tuple_add PySem.F.entry_tuple_add (PySem.F.args_tuple_add_2 _ _)
   (tuple_addW2 t b vs.toArray ws.toArray n n2 dd dd2 sl sl2 (by simpa using hv) (by simpa using hw) (by rw[ua,ua];exact hsz)) ⟨ho,ho2,?_⟩
  rw[e];exact h2 hw
noncomputable def sIx(n d:Nat):Option Int->Nat
 |none=>d
 |some v=>if v<0 then(v+(n:Int)).toNat else min v.toNat n
theorem zcO(n d:Nat)(hd:d<=n)(o:Option Int):sIx n d o<=n:=by
 cases o with
 |none=>exact hd
 |some v =>
  show(if v<0 then(v+(n:Int)).toNat else min v.toNat n)<=n;by_cases hv:v<0
  ·rw[if_pos hv];lia
  ·rw[if_neg hv];exact Nat.min_le_right _ _
theorem zbQ(v:Int)(n d:Nat):(if v<0 then max (v+(n:Int)) 0 else min v (n:Int))=((sIx n d (some v):Nat):Int):=by
 show(if v<0 then max (v+(n:Int)) 0 else min v (n:Int))=(((if v<0 then(v+(n:Int)).toNat else min v.toNat n):Nat):Int);by_cases hv:v<0
 ·simp only[if_pos hv];lia
 ·simp only[if_neg hv];lia
theorem zbC(lo hi:Option Int)(n:Nat):Builtin.Slice.sliceAdjust lo hi 1 (n:Int)=(((sIx n 0 lo:Nat):Int),((sIx n n hi:Nat):Int)):=by
 have h1:¬((1:Int)<0):=by lia
 unfold Builtin.Slice.sliceAdjust;simp only[h1,if_false];refine Prod.ext ?_ ?_
 ·cases lo with
  |none=>rfl
  |some v=>exact zbQ v n 0
 ·cases hi with
  |none=>rfl
  |some v=>exact zbQ v n n
theorem zbD(i j:Nat):Builtin.Slice.slicePlaces (i:Int) (j:Int) 1=j-i:=by
 unfold Builtin.Slice.slicePlaces;have h1:(1:Int)>0:=by lia
 simp only[h1,if_true,Int.ediv_one];split <;> lia
theorem ZaW{v:Value}{o:Option Int}{Q:Option Int->Shared->Prop}(p:IsPart v o)(h:Q o s):wpAny (model prog w) A (Builtin.Slice.slicePartIndex v) Q E s:=by
 cases p with
 |none=>exact slicePart_none h
 |int i t=>exact slicePart_int h
theorem YS{sl:Addr}{vl vu:Value}{lo hi:Option Int}{n:Nat}{Q:Int×Int×Nat->Shared->Prop}(hs:s.heap.IsSliceOf sl vl vu .none)(pl:IsPart vl lo)(pu:IsPart vu hi)
  (h:Q (((sIx n 0 lo:Nat):Int),1,sIx n n hi-sIx n 0 lo) s):wpAny (model prog w) A (Builtin.Slice.sliceApplied (.ref sl) (pure (n:Int))) Q E s:=by
 obtain⟨os,hos,hcs,hds⟩:=id hs;unfold Builtin.Slice.sliceApplied Builtin.Slice.sliceFields;refine wpAny_bind (wpAny_bind (wpAny_field hos hds (x:=vl) rfl (wpAny_bind (wpAny_field hos hds (x:=vu) rfl (wpAny_bind (wpAny_field hos hds (x:=.none) rfl (wpAny_pure ?_)))))));refine wpAny_bind (slicePart_none ?_);show wpAny _ _ (if((1:Int)==0)=true then _ else _) _ _ s;rw[if_neg (by decide)];refine wpAny_bind (ZaW pl (wpAny_bind (ZaW pu (wpAny_bind (wpAny_pure ?_)))));show wpAny _ _ (match Builtin.Slice.sliceAdjust lo hi 1 (n:Int) with|(lo,hi)=>pure (lo,(1:Int),Builtin.Slice.slicePlaces lo hi 1)) _ _ s;rw[zbC lo hi n];show wpAny _ _ (pure (((sIx n 0 lo:Nat):Int),(1:Int),Builtin.Slice.slicePlaces ((sIx n 0 lo:Nat):Int) ((sIx n n hi:Nat):Int) 1)) _ _ s;rw[zbD];exact wpAny_pure h
theorem Zcb(xs:Array Value)(i k:Nat):((uc k).filterMap λ(m:Nat)=>xs[((i:Int)+(m:Int)*1).toNat]?).toArray=((xs.toList.drop i).take k).toArray:=by
 have e:(λ(m:Nat)=>xs[((i:Int)+(m:Int)*1).toNat]?)=λm=>xs[i+m]?:=by
  funext m;have:((i:Int)+(m:Int)*1).toNat=i+m:=by lia
  rw[this]
 rw[e];have:=pick_run xs i k;rw[List.filterMap_map] at this;have e2:((λx=>xs[x]?)∘λx=>i+x)=λm=>xs[i+m]?:=rfl;rw[e2] at this;rw[this]
theorem getItem_tuple_cut{t sl:Addr}{items:Array Value}{vl vu:Value}{lo hi:Option Int}{Q:Value->Shared->Prop}(ht:IsTup s.heap t items)(hs:s.heap.IsSliceOf sl vl vu .none)(pl:IsPart vl lo)(pu:IsPart vu hi)
  (hw:¬(sIx items.size 0 lo=0/\sIx items.size items.size hi=items.size))
  (h:Q (.ref s.heap.objs.size) {s with heap:=s.heap.push {cls:=.type "tuple",data:=.seq ((items.toList.drop (sIx items.size 0 lo)).take (sIx items.size items.size hi-sIx items.size 0 lo)).toArray}})
  (hsz:items.size<=sizeLine):wpAny (model prog w) A (getItem (.ref t) (.ref sl)) Q E s:=by
 have htake:sizeOk (.seq ((items.toList.drop (sIx items.size 0 lo)).take (sIx items.size items.size hi-sIx items.size 0 lo)).toArray):=by
  show((items.toList.drop (sIx items.size 0 lo)).take (sIx items.size items.size hi-sIx items.size 0 lo)).toArray.size<=sizeLine;rw[ua,Vl,vx,vj]
  lia
 have hj:sIx items.size items.size hi<=items.size:=zcO _ _ (xb _) hi;obtain⟨os,hos,hcs,hds⟩:=id hs;have hTs:s.TypeIs (.ref sl) "slice":=⟨os,hos,hcs⟩;unfold getItem
 try with_reducible refine wpAny_holding ?_
 first|refine wpAny_bind (wpAny_pure ?_)|skip
 refine wpAny_bind (wpAny_sequenceKey ht.typeIs (by decide) ?_);refine wpAny_bind (wpAny_callSpecial?_slot (name:=Str.ofString "__getitem__") ht.typeIs PyProof.Rows.slot_tuple_getitem
  (wpAny_call_entry PyProof.Rows.slot_tuple_getitem ht.typeIs entry_tuple_getitem ?_ (args_tuple_getitem _ _)))
 show wpAny _ _ (Builtin.Tuple.tupleItemsOf (.ref t) >>= _) _ _ s;refine wpAny_bind (tupleItemsOf_ ht ?_);refine wpAny_bind (wpAny_typeOf hTs ?_);rw[if_pos (by decide)];refine wpAny_bind (YS hs pl pu ?_);have hno:¬((((sIx items.size 0 lo:Nat):Int)==0&&(1:Int)==1&&(sIx items.size items.size hi-sIx items.size 0 lo)==items.size)=true):=by
  intro q;rw[Wa,Wa] at q;have q1:((sIx items.size 0 lo:Nat):Int)=0:=eq_of_beq q.1.1;have q2:sIx items.size items.size hi-sIx items.size 0 lo=items.size:=eq_of_beq q.2;exact hw ⟨by lia,by lia⟩
 show wpAny _ _ (if(((sIx items.size 0 lo:Nat):Int)==0&&(1:Int)==1&&(sIx items.size items.size hi-sIx items.size 0 lo)==items.size)=true then _ else _) _ _ s;rw[if_neg hno,Zcb]
 first
  |exact wpAny_bind (m:=Builtin.Tuple.tupleExact _) (wpAny_newObj_type (wpAny_pure ⟨_,rfl,wpAny_pure h⟩) htake)
  |exact wpAny_bind (m:=Builtin.Tuple.tupleExact _) (wpAny_newObj_type (wpAny_bind (wpAny_pure (wpAny_pure ⟨_,rfl,wpAny_pure h⟩))) htake)
  |exact wpAny_bind (wpAny_bind (m:=Builtin.Tuple.tupleExact _) (wpAny_newObj_type (wpAny_pure (wpAny_pure ⟨_,rfl,wpAny_pure h⟩)) htake))
  |exact wpAny_bind (wpAny_bind (m:=Builtin.Tuple.tupleExact _) (wpAny_newObj_type (wpAny_pure ⟨_,rfl,wpAny_pure h⟩) htake))
end
end HT
namespace L2
open PySem PySem.Spec PyProof.Rows
noncomputable abbrev TO:=St->Hp->(Option Int->Hp->Prop)->Prop
noncomputable def PO(X:Cx)(e:Option Expr)(t:TO):Prop :=
 ∀(pins:List (Addr×Obj)) (s:Shared) (σ:St) (H:Hp) (Q:Option Int->Hp->Prop),Inv X pins σ H s->t σ H Q ->
  wpAny (model X.prog X.w) X.A (evalPart e X.env) (λu s'=>∃ o H',Inv X pins σ H' s'/\IsPart u o/\Q o H') X.xe s
noncomputable def Qcu:TO:=λ_ H Q=>Q none H
noncomputable def tPart(t:TE):TO:=λσ H Q=>t σ H λx H1=>∃ i,x=.int i/\Q (some i) H1
section
variable {X:Cx} {e:Expr} {te:TE} {lo hi:Option Expr} {tl th:TO} {pos p2:Pos}
theorem QcA:PO X none Qcu:=by
 intro pins s σ H Q I h;rw[evalPart_none];exact wpAny_pure ⟨none,H,I,.none,h⟩
theorem qbP(h:PE X e te):PO X (some e) (tPart te):=by
 intro pins s σ H Q I hw;rw[evalPart_some];refine thn (h pins s σ H _ I hw) λu s1 ⟨x,H1,I1,r1,q1⟩=>?_;obtain⟨i,rfl,q⟩:=q1;obtain⟨t,rfl⟩:=r1;exact⟨some i,H1,I1,.int i t,q⟩
noncomputable def SlR(X:Cx)(r:V->Option Int->Option Int->Hp->VK->Prop):Prop :=
 ∀(pins:List (Addr×Obj)) (s:Shared) (σ:St) (H:Hp) (x:V) (v vl vu:Value) (lo hi:Option Int) (sl:Addr) (Q:VK),Inv X pins σ H s->RelV x v->s.heap.IsSliceOf sl vl vu .none->IsPart vl lo->IsPart vu hi->r x lo hi H Q ->
  ∃ T id,typeLookup (.type T) "__getitem__"=pure (some (.builtin id))/\s.TypeIs v T/\wpAny (model X.prog X.w) X.A (getItem v (.ref sl)) (EP X pins σ Q) X.xe s
noncomputable def tSl(r:V->Option Int->Option Int->Hp->VK->Prop)(te:TE)(tl th:TO):TE:=λσ H Q=>te σ H λx H1=>tl σ H1 λl H2=>th σ H2 λu H3=>r x l u H3 Q
theorem qb4{r:V->Option Int->Option Int->Hp->VK->Prop}(hr:SlR X r)(he:PE X e te)(hl:PO X lo tl)(hu:PO X hi th):PE X (.Subscript e (.Slice lo hi none p2) pos) (tSl r te tl th):=by
 intro pins s σ H Q I h;refine Subscript_ (thn (he pins s σ H _ I h) λv s1 ⟨x,H1,I1,r1,q1⟩=>?_);refine wpAny_Slice (thn (hl pins s1 σ H1 _ I1 q1) λvl s2 ⟨l,H2,I2,pl,q2⟩=>thn (hu pins s2 σ H2 _ I2 q2) λvu s3 ⟨u,H3,I3,pu,q3⟩=>?_);rw[evalPart_none];refine wpAny_pure ?_;have I4:Inv X pins σ H3 {s3 with heap:=s3.heap.push {cls:=.type "slice",data:=.fields #[vl,vu,.none]}}:=I3.kept (t':=s3.toks) λb ob q=>wa _ q;obtain⟨T,id,hT,ht,hg⟩:=hr pins {s3 with heap:=s3.heap.push {cls:=.type "slice",data:=.fields #[vl,vu,.none]}} σ H3 x v vl vu l u s3.heap.objs.size Q I4 r1 (Heap.IsSliceOf.new ..) pl pu q3;show wpAny (model X.prog X.w) X.A (subscriptTail e (.Slice lo hi none p2) v (.ref s3.heap.objs.size)) (EP X pins σ Q) X.xe {s3 with heap:=s3.heap.push {cls:=.type "slice",data:=.fields #[vl,vu,.none]}};exact tail_any (ops:=[.ref s3.heap.objs.size,v]) ht hT hg (by with_unfolding_all rfl)
noncomputable def Qbt(xs:List V)(lo hi:Option Int):List V:=(xs.drop (HT.sIx xs.length 0 lo)).take (HT.sIx xs.length xs.length hi-HT.sIx xs.length 0 lo)
theorem qaJ(xs:List V)(lo hi:Option Int):(Qbt xs lo hi).length<=xs.length:=by
 unfold Qbt;rw[Vl,vx]
 lia
noncomputable def rSlT(K:PySem.W.Frag):V->Option Int->Option Int->Hp->VK->Prop:=λx lo hi H Q=>∃ a xs,x=.ref a/\SqT K H a xs /\
 ¬(HT.sIx xs.length 0 lo=0/\HT.sIx xs.length xs.length hi=xs.length)/\∀ p,H p=none->Q (.ref p) (upd H p (.tup (Qbt xs lo hi)))
theorem ycW:SlR X (rSlT X.K):=by
 intro pins s σ H x v vl vu lo hi sl Q I rx hs pl pu h;obtain⟨a,xs,rfl,hx,hw,q⟩:=h;cases rx;obtain⟨its,r,ht,hz⟩:=I.tuple hx;have hlen:its.toArray.size=xs.length:=by rw[ua];exact r.length.symm
 refine⟨"tuple",_,PyProof.Rows.slot_tuple_getitem.lookup,ht.typeIs,?_⟩;refine HT.getItem_tuple_cut ht hs pl pu (by rw[hlen];exact hw) ?_ (by rw[hlen];exact hz);rw[hlen];refine⟨.ref s.heap.objs.size,_,I.laid (t':=s.toks) (o:=.tup (Qbt xs lo hi)) (λb ob q=>wa _ q) (xb _) ?_,rfl,q _ (I.hok.fresh (xb _))⟩;exact⟨Ve (qaJ xs lo hi) hz,_,(r.drop (HT.sIx xs.length 0 lo)).take (HT.sIx xs.length xs.length hi-HT.sIx xs.length 0 lo),IsTup.new _ _⟩
noncomputable def rCatT(K:PySem.W.Frag):R2:=λx y H Q=>∃ a b xs ys,x=.ref a/\y=.ref b/\SqT K H a xs/\SqT K H b ys/\xs≠[]/\xs.length+ys.length<=sizeLine /\
 (ys=[]->Q (.ref a) H)/\(ys≠[]->∀ p,H p=none->Q (.ref p) (upd H p (.tup (xs++ys))))
theorem Vals.nil_iff{xs:List V}{us:List Value}(r:Vals xs us):us=[]↔xs=[]:=by
 cases r with
 |nil=>simp
 |cons _ _=>simp
theorem Ycw:OpR X (binaryOp .Add) (rCatT X.K):=by
 intro pins s σ H x y v u Q I rx ry h;obtain⟨a,b,xs,ys,rfl,rfl,ha,hb,hx,hz,q1,q2⟩:=h;cases rx;cases ry;obtain⟨its,r1,p1,_⟩:=I.tuple ha;obtain⟨its2,r2,p2,_⟩:=I.tuple hb;refine HT.cat_tup p1 p2 (λz=>hx (r1.nil_iff.mp z)) (λz=>⟨.ref a,H,I,rfl,q1 (r2.nil_iff.mp z)⟩) (λz=>?_) (by rw[<- r1.length,<- r2.length];exact hz);refine⟨.ref s.heap.objs.size,_,I.laid (t':=s.toks) (o:=.tup (xs++ys)) (λb ob q=>wa _ q) (xb _) ?_,rfl,q2 (λw=>z (r2.nil_iff.mpr w)) _ (I.hok.fresh (xb _))⟩;exact⟨by rw[Vg];exact hz,_,r1.append r2,IsTup.new _ _⟩
end
noncomputable def ixN(n:Nat)(i:Int):Option Nat:=if 0<=i then(if i<n then some i.toNat else none) else if -(n:Int)<=i then some (i+n).toNat else none
noncomputable def atI{α:Type}(xs:List α)(i:Int):Option α:=(ixN xs.length i).bind λj=>xs[j]?
theorem qbM{n:Nat}{i:Int}{j:Nat}(h:ixN n i=some j):seqIndex? i n=some j/\j<n/\-(n:Int)<=i/\i<n:=by
 unfold ixN at h;by_cases h0:0<=i
 ·rw[if_pos h0] at h;by_cases h1:i<n
  ·rw[if_pos h1] at h;have e:i.toNat=j:=Option.some.inj h;exact⟨by rw[seqIndex_of h0 h1,e],by lia,by lia,h1⟩
  ·rw[if_neg h1] at h;cases h
 ·rw[if_neg h0] at h;by_cases h1:-(n:Int)<=i
  ·rw[if_pos h1] at h;have e:(i+n).toNat=j:=Option.some.inj h;exact⟨by rw[seqIndex_neg (by lia) h1,e],by lia,h1,by lia⟩
  ·rw[if_neg h1] at h;cases h
theorem qbg{α:Type}{xs:List α}{i:Int}{v:α}(h:atI xs i=some v):∃ j,seqIndex? i xs.length=some j/\xs[j]?=some v/\j<xs.length/\-(xs.length:Int)<=i/\i<xs.length:=by
 unfold atI at h;cases e:ixN xs.length i with
 |none=>rw[e] at h;cases h
 |some j =>
  rw[e] at h;obtain⟨h1,h2,h3,h4⟩:=qbM e;exact⟨j,h1,h,h2,h3,h4⟩
theorem ybQ{α:Type}{xs:List α}{j:Nat}{v:α}(h:xs[j]?=some v):atI xs (j:Int)=some v:=by
 have hj:j<xs.length:=(Xa.mp h).1;have e:ixN xs.length (j:Int)=some j:=by
  unfold ixN;rw[if_pos (by lia),if_pos (by lia)];simp
 unfold atI;rw[e];exact h
noncomputable def ZbK(b:Expr):Prop:=∀ o i,subscripted b false o i=operate [o,i] (getItem o i)
noncomputable def IxR(X:Cx)(r:R2):Prop :=
 ∀(value slice:Expr)(pins:List (Addr×Obj)) (s:Shared) (σ:St) (H:Hp) (x y:V) (v u:Value) (Q:VK),Inv X pins σ H s->RelV x v->RelV y u->r x y H Q ->
  subscripted slice false v u=operate [v,u] (getItem v u)->wpAny (model X.prog X.w) X.A (subscriptTail value slice v u) (EP X pins σ Q) X.xe s
noncomputable def MtR(X:Cx)(id:String)(r:V->List V->Hp->VK->Prop):Prop :=
 ∀(pins:List (Addr×Obj)) (s:Shared) (σ:St) (H:Hp) (x:V) (xs:List V) (v:Value) (us:List Value) (Q:VK),Inv X pins σ H s->RelV x v->Vals xs us->r x xs H Q ->
  wpAny (model X.prog X.w) X.A (call (.builtin id) (v::us)) (EP X pins σ Q) X.xe s
section
variable {X:Cx} {a b:Expr} {ta tb:TE} {pos:Pos}
theorem Zbx{r:R2}(hr:IxR X r)(ha:PE X a ta)(hb:PE X b tb)(hs:ZbK b):PE X (.Subscript a b pos) (tOp r ta tb):=by
 intro pins s σ H Q I h;exact Subscript_ (binT ha hb I h λv u s2 x y H2 I2 rx ry q=>hr a b pins s2 σ H2 x y v u Q I2 rx ry q (hs _ _))
noncomputable def rIxL(K:PySem.W.Frag):R2:=λx y H Q=>∃ p xs i v,x=.ref p/\y=.int i/\SqL K H p xs/\atI xs i=some v/\Q v H
noncomputable def rIxT(K:PySem.W.Frag):R2:=λx y H Q=>∃ p xs i v,x=.ref p/\y=.int i/\SqT K H p xs/\atI xs i=some v/\Q v H
noncomputable def rIxS:R2:=λx y H Q=>∃ z i c,x=.str z/\y=.int i/\z.length<=sizeLine/\atI z.cps.toList i=some c/\Q (.str ⟨#[c]⟩) H
theorem ZbP:IxR X (rIxL X.K):=by
 intro value slice pins s σ H x y v u Q I rx ry h hs;obtain⟨p,xs,i,z,rfl,rfl,hq,he,q⟩:=h;cases rx;obtain⟨t,rfl⟩:=ry;obtain⟨its,r,pl,hz⟩:=I.list hq;obtain⟨j,h1,h2,h3,h4,h5⟩:=qbg he;obtain⟨w,ew,rw'⟩:=r.get h2;have hl:=r.length;have hn:=qaQ;have fin:EP X pins σ Q w s:=⟨z,H,I,rw',q⟩;by_cases h0:0<=i
 ·have hj:i.toNat=j:=by
   rw[seqIndex_of h0 h5] at h1;exact Option.some.inj h1
  exact item_listR pl.isList h0 (by lia) (by rw[hj];simpa using ew) fin hs
 ·have hj:(i+(its.toArray.size:Int)).toNat=j:=by
   rw[seqIndex_neg (by lia) h4] at h1;rw[ua,<- hl];exact Option.some.inj h1
  exact subscriptTail_builtinR (x:=w) pl.isList.typeIs slot_list_getitem.lookup
   (wpAny_getItem_list_neg (Q:=λr s'=>r=w/\EP X pins σ Q r s') pl.isList (by lia) (by rw[ua] <;> lia) (by lia) (by rw[hj];simpa using ew) ⟨rfl,fin⟩) hs
theorem zcT:IxR X (rIxT X.K):=by
 intro value slice pins s σ H x y v u Q I rx ry h hs;obtain⟨p,xs,i,z,rfl,rfl,hq,he,q⟩:=h;cases rx;obtain⟨t,rfl⟩:=ry;obtain⟨its,r,pl,hz⟩:=I.tuple hq;obtain⟨j,h1,h2,h3,h4,h5⟩:=qbg he;obtain⟨w,ew,rw'⟩:=r.get h2;have hl:=r.length;have hn:=qaQ;have fin:EP X pins σ Q w s:=⟨z,H,I,rw',q⟩;exact subscriptTail_builtinR (x:=w) pl.typeIs slot_tuple_getitem.lookup
  (getItem_tuple (j:=j) (Q:=λr s'=>r=w/\EP X pins σ Q r s') pl (by lia) (by lia) (by rw[ua,<- hl];exact h1) (by simpa using ew) ⟨rfl,fin⟩) hs
theorem QcQ:IxR X rIxS:=by
 intro value slice pins s σ H x y v u Q I rx ry h hs;obtain⟨z,i,c,rfl,rfl,hz,he,q⟩:=h;obtain⟨t,rfl⟩:=rx;obtain⟨t',rfl⟩:=ry;obtain⟨j,h1,h2,h3,h4,h5⟩:=qbg he;have hl:z.cps.toList.length=z.length:=by simp[Str.length]
 rw[hl] at h1 h4 h5;have hn:=qaQ;exact tail_any (typeIs_str s z t) slot_str_getitem.lookup (getItem_str (c:=c) (by
  have e1:decide (i < -(2^63:Int))=false:=decide_eq_false (by lia);have e2:decide (i>=2^63)=false:=decide_eq_false (by lia);rw[e1,e2,Bool.or_false]) (by rw[h1];simpa using h2) ⟨.str ⟨#[c]⟩,H,I.tok _,⟨_,rfl⟩,q⟩) hs
theorem YbI(its:List Value)(n j:Nat)(u:Value):Obj.mapSeq (·.setIfInBounds j u) {cls:=.type "list",data:=.seq its.toArray n}={cls:=.type "list",data:=.seq (its.set j u).toArray n}:=by
 simp[Obj.mapSeq]
theorem Inv.lst{pins:List (Addr×Obj)}{σ:St}{H:Hp}{s:Shared}{p:Addr}{xs:List V}(I:Inv X pins σ H s)(h:H p=some (.lst xs)) :
  ∃(its:List Value)(n:Nat),Vals xs its/\s.heap.get? p=some {cls:=.type "list",data:=.seq its.toArray n}/\xs.length<=sizeLine:=by
 obtain⟨z,its,n,r,e⟩:=I.hok p _ h;exact⟨its,n,r,e,z⟩
theorem Inv.lstUpd{pins:List (Addr×Obj)}{σ:St}{H:Hp}{s:Shared}{p:Addr}{xs ys:List V}{its its':List Value}{n n':Nat}{f:Obj->Obj}(I:Inv X pins σ H s)(h:H p=some (.lst xs))
  (ho:s.heap.get? p=some {cls:=.type "list",data:=.seq its.toArray n}) (hf:f {cls:=.type "list",data:=.seq its.toArray n}={cls:=.type "list",data:=.seq its'.toArray n'}) (r:Vals ys its') (hz:ys.length<=sizeLine) (t:Nat) :
  Inv X pins σ (upd H p (.lst ys)) {s with heap:=s.heap.update p f,toks:=t}:=by
 have e:(s.heap.update p f).get? p=some {cls:=.type "list",data:=.seq its'.toArray n'}:=by
  rw[xi f ho (by rw[hf] <;> rfl),hf]
 refine I.write (x:=p) (e:=p) (by rw[h];trivial) (.inl rfl) (λb u hb q=>(uh _ _ (Ne.symm hb)).trans q) ⟨_,e⟩ ?_;exact⟨hz,its',n',r,e⟩
noncomputable def rSetL:V->V->V->Hp->(Hp->Prop)->Prop:=λo i v H Q=>∃ p xs k j,o=.ref p/\i=.int k/\H p=some (.lst xs)/\ixN xs.length k=some j/\Q (upd H p (.lst (xs.set j v)))
theorem Yb6:PSet X rSetL:=by
 intro pins s σ H o i v ov iv u Q I ro ri rv h;obtain⟨p,xs,k,j,rfl,rfl,hp,hj,q⟩:=h;cases ro;obtain⟨t,rfl⟩:=ri;obtain⟨its,n,r,ho,hz⟩:=I.lst hp;obtain⟨h1,h2,h3,h4⟩:=qbM hj;have hl:=r.length;have hn:=qaQ;have I':Inv X pins σ (upd H p (.lst (xs.set j v))) {s with heap:=s.heap.update p (Obj.mapSeq (·.setIfInBounds j u))} :=
  I.lstUpd hp ho (YbI its n j u) (r.set rv j) (by rw[List.length_set];exact hz) s.toks
 by_cases h0:0<=k
 ·have hk:k.toNat=j:=by
   rw[seqIndex_of h0 h4] at h1;exact Option.some.inj h1
  exact PySem.W.ki_setAt ho h0 (by lia) (by rw[ua,<- hl];exact h4) (by rw[hk];exact⟨_,I',q⟩)
 ·have hk:(k+(its.toArray.size:Int)).toNat=j:=by
   rw[seqIndex_neg (by lia) h3] at h1;rw[ua,<- hl];exact Option.some.inj h1
  exact PySem.W.ki_setBack ho (by lia) (by rw[ua,<- hl];exact h3) (by lia) (by rw[hk];exact⟨_,I',q⟩)
theorem Ybk(lo hi:Option Int)(n:Nat):(sliceBounds lo hi none n).1=((HT.sIx n 0 lo:Nat):Int)/\(sliceBounds lo hi none n).2.1=((HT.sIx n n hi:Nat):Int)/\(sliceBounds lo hi none n).2.2=1:=by
 refine⟨?_,?_,rfl⟩
 ·cases lo with
  |none=>simp[sliceBounds,HT.sIx]
  |some i =>
   simp only[sliceBounds,HT.sIx,vC,show(1:Int)>0 by decide,if_true];by_cases h:i<0
   ·simp only[h,if_true] <;> lia
   ·simp only[h,if_false] <;> lia
 ·cases hi with
  |none=>simp[sliceBounds,HT.sIx]
  |some i =>
   simp only[sliceBounds,HT.sIx,vC,show(1:Int)>0 by decide,if_true];by_cases h:i<0
   ·simp only[h,if_true] <;> lia
   ·simp only[h,if_false] <;> lia
theorem Ya5(its:List Value)(lo hi:Option Int):slicePick its.toArray lo hi none=((its.drop (HT.sIx its.length 0 lo)).take (HT.sIx its.length its.length hi-HT.sIx its.length 0 lo)).toArray:=by
 obtain⟨h1,h2,h3⟩:=Ybk lo hi its.toArray.size;unfold slicePick;rw[h1,h2,h3];simp only[sliceRange_one,pick_run,ua] <;> rfl
noncomputable def rSlL(K:PySem.W.Frag):V->Option Int->Option Int->Hp->VK->Prop:=λx lo hi H Q=>∃ a xs,x=.ref a/\SqL K H a xs/\∀ p,H p=none->Q (.ref p) (upd H p (.lst (Qbt xs lo hi)))
theorem QbK:SlR X (rSlL X.K):=by
 intro pins s σ H x v vl vu lo hi sl Q I rx hs pl pu h;obtain⟨a,xs,rfl,hx,q⟩:=h;cases rx;obtain⟨its,r,ht,hz⟩:=I.list hx;have hlen:=r.length;refine⟨"list",_,slot_list_getitem.lookup,ht.isList.typeIs,?_⟩;refine wpAny_getItem_list_slice ht.isList hs pl pu .none (by simp) ?_ (by rw[ua] <;> lia);rw[Ya5,<- hlen];refine⟨.ref s.heap.objs.size,_,I.laid (t':=s.toks) (o:=.lst (Qbt xs lo hi)) (λb ob q=>wa _ q) (xb _) ?_,rfl,q _ (I.hok.fresh (xb _))⟩;exact⟨Ve (qaJ xs lo hi) hz,_,0,(r.drop (HT.sIx xs.length 0 lo)).take (HT.sIx xs.length xs.length hi-HT.sIx xs.length 0 lo),Xb _ rfl⟩
theorem zbg:CallR X (.builtin "len") (λxs H Q=>∃ p ys,xs=[.ref p]/\(SqL X.K H p ys\/SqT X.K H p ys)/\Q (.int ys.length) H):=by
 intro pins s σ H xs us Q I r h;obtain⟨p,ys,rfl,hq,q⟩:=h;obtain⟨u,rfl,rx⟩:=Qcb r;cases rx;have hn:=qaQ
 rcases hq with hq|hq
 ·obtain⟨its,r',pl,hz⟩:=I.list hq;have hlen:=r'.length;exact Calls.call_len_list pl.isList (by simp only[ua] <;> lia) ⟨.int ys.length,H,I.tok _,⟨s.toks+1,by rw[ua,hlen]⟩,q⟩
 ·obtain⟨its,r',pl,hz⟩:=I.tuple hq;have hlen:=r'.length;exact len_tuple pl (by simp only[ua] <;> lia) ⟨.int ys.length,H,I.tok _,⟨s.toks+1,by rw[ua,hlen]⟩,q⟩
theorem qbh:CallR X (.type "list") (λxs H Q=>∃ p ys,xs=[.ref p]/\(SqL X.K H p ys\/SqT X.K H p ys)/\∀ l,H l=none->Q (.ref l) (upd H l (.lst ys))):=by
 intro pins s σ H xs us Q I r h;obtain⟨p,ys,rfl,hq,q⟩:=h;obtain⟨u,rfl,rx⟩:=Qcb r;cases rx;have fin:∀(its:List Value),Vals ys its->ys.length<=sizeLine->∀(h':Heap)(c':Nat),(∀ b o',s.heap.get? b=some o'->h'.get? b=some o') ->
   h'.get? s.heap.objs.size=some {cls:=.type "list",dict:=none,data:=.seq its.toArray c',slots:=#[]}->EP X pins σ Q (.ref s.heap.objs.size) {s with heap:=h'}:=λits r' hz h' c' kp e =>
  ⟨.ref s.heap.objs.size,_,I.laid (t':=s.toks) kp (xb _) (show ObjOk X.prog X.w _ h' _ (.lst ys) from⟨hz,its,c',r',e⟩),rfl,q _ (I.hok.fresh (xb _))⟩
 rcases hq with hq|hq
 ·obtain⟨its,r',pl,hz⟩:=I.list hq;have hlen:=r'.length;obtain⟨o,ho,hc,n,hd⟩:=pl.isList;exact call_list_seq p (.inl rfl) ho hc hd (λh' c' kp e=>fin its r' hz h' c' kp e) (by simp only[ua] <;> lia)
 ·obtain⟨its,r',pl,hz⟩:=I.tuple hq;have hlen:=r'.length;obtain⟨o,ho,hc,n,hd⟩:=pl;exact call_list_seq p (.inr rfl) ho hc hd (λh' c' kp e=>fin its r' hz h' c' kp e) (by simp only[ua] <;> lia)
theorem Ya4:CallR X (.type "tuple") (λxs H Q=>∃ p ys,xs=[.ref p]/\((SqL X.K H p ys/\∀ l,H l=none->Q (.ref l) (upd H l (.tup ys)))\/(SqT X.K H p ys/\Q (.ref p) H))):=by
 intro pins s σ H xs us Q I r h;obtain⟨p,ys,rfl,h⟩:=h;obtain⟨u,rfl,rx⟩:=Qcb r;cases rx
 rcases h with ⟨hq,q⟩|⟨hq,q⟩
 ·obtain⟨its,r',pl,hz⟩:=I.list hq;have hlen:=r'.length;refine call_tuple_list pl.isList (λh' kp=>?_) (by simp only[ua] <;> lia);have I1:Inv X pins σ H {s with heap:=h'}:=I.kept (t':=s.toks) kp;have I2:Inv X pins σ (upd H h'.objs.size (.tup ys)) {s with heap:=h'.push {cls:=.type "tuple",data:=.seq its.toArray}} :=
   I1.laid (t':=s.toks) (λb o e=>wa _ e) (xb _) (show ObjOk X.prog X.w _ _ _ (.tup ys) from⟨hz,its,r',IsTup.new _ _⟩)
  exact⟨.ref h'.objs.size,_,I2,rfl,q _ (I1.hok.fresh (xb _))⟩
 ·obtain⟨its,r',pl,hz⟩:=I.tuple hq;exact call_tuple_same pl ⟨.ref p,H,I,rfl,q⟩
noncomputable def tyV(K:PySem.W.Frag)(T:String)(x:V)(H:Hp):Prop:=match x with
 |.str _=>T="str"
 |.int _=>T="int"
 |.ref p=>(T="list"/\∃ xs,SqL K H p xs)\/(T="tuple"/\∃ o,K.lookup p=some o/\o.cls=.type "tuple"/\o.dict=none) \/
   (T="dict"/\((∃ kvs,H p=some (.dK kvs))\/∃ kvs,H p=some (.dT kvs)))\/(T="set"/\∃ S n,H p=some (.set S n))
 |_=>False
theorem Yck{pins:List (Addr×Obj)}{σ:St}{H:Hp}{s:Shared}{T:String}{x:V}{v:Value}(I:Inv X pins σ H s)(r:RelV x v)(ty:tyV X.K T x H) :
  s.TypeIs v T/\∀ a,v=.ref a->∃ ob,s.heap.get? a=some ob/\ob.dict=none:=by
 cases x with
 |str z =>
  obtain⟨t,rfl⟩:=r;cases(show T="str" from ty);exact⟨typeIs_str s z t,λ_ e=>nomatch e⟩
 |int i =>
  obtain⟨t,rfl⟩:=r;cases(show T="int" from ty);exact⟨typeIs_int s i t,λ_ e=>nomatch e⟩
 |ref p =>
  cases r
  rcases ty with ⟨rfl,xs,hq⟩|⟨rfl,o,hk,hc,hd⟩|⟨rfl,hk⟩|⟨rfl,S,n,hk⟩
  ·obtain⟨its,_,pl,_⟩:=I.list hq;refine⟨pl.isList.typeIs,λa e=>?_⟩;cases e;obtain⟨o,n,e,c,hd,_⟩:=pl;exact⟨o,e,hd⟩
  ·refine⟨⟨o,I.kIn p o hk,hc⟩,λa e=>?_⟩;cases e;exact⟨o,I.kIn _ o hk,hd⟩
  ·have z:∃ o,s.heap.get? p=some o/\o.ExactDict:=by
    rcases hk with ⟨kvs,hk⟩|⟨kvs,hk⟩
    ·obtain⟨_,_,_,_,o,_,_,e,ex,_⟩:=I.hok p _ hk;exact⟨o,e,ex⟩
    ·obtain⟨_,_,_,_,o,_,_,e,ex,_⟩:=I.hok p _ hk;exact⟨o,e,ex⟩
   obtain⟨o,e,ex⟩:=z;refine⟨⟨o,e,ex.1⟩,λa e2=>?_⟩;cases e2;exact⟨o,e,ex.2.1⟩
  ·obtain⟨o,_,_,_,e,ex,_⟩:=I.hok p _ hk;refine⟨⟨o,e,ex.1⟩,λa e2=>?_⟩;cases e2;exact⟨o,e,ex.2.1⟩
 |_=>exact False.elim ty
noncomputable def tBM0(K:PySem.W.Frag)(T:String)(r:V->List V->Hp->VK->Prop)(to:TE):TE:=λσ H Q=>to σ H λx H1=>tyV K T x H1/\r x [] H1 Q
noncomputable def tBM(K:PySem.W.Frag)(T:String)(r:V->List V->Hp->VK->Prop)(to:TE)(t:TA):TE:=λσ H Q=>to σ H λx H1=>tyV K T x H1/\t σ H1 λxs H2=>r x xs H2 Q
variable {o e:Expr} {es:List Expr} {to:TE} {t:TA} {name:Str} {apos cpos:Pos} {T id:String} {r:V->List V->Hp->VK->Prop}
theorem ycN(pa:PlainAttrs T)(slot:Slot T name id)(hty:typeOf (.builtin id)=pure (.type "method_descriptor"))(hm:MtR X id r)(ho:PE X o to)
  (hbase:attributeBase o name X.env (eval o X.env)=eval o X.env:=by rfl) (hline:(apos.endLine==cpos.line)=true:=by rfl):PE X (.Call (.Attribute o name apos) [] [] cpos) (tBM0 X.K T r to):=by
 intro pins s σ H Q I h;refine wpAny_Call_method0_late hbase hline (thn (ho pins s σ H _ I h) λv s1 ⟨x,H1,I1,r1,ty,q1⟩=>?_);obtain⟨h1,h2⟩:=Yck I1 r1 ty;exact⟨T,id,pa,slot,hty,h1,h2,Calls.callWith_builtin rfl (PySem.evalArgs_none (hm pins s1 σ H1 x [] v [] Q I1 r1 .nil q1))⟩
theorem YcF(pa:PlainAttrs T)(slot:Slot T name id)(hty:typeOf (.builtin id)=pure (.type "method_descriptor"))(hm:MtR X id r)(ho:PE X o to)(ha:PA X (e::es) t)
  (hbase:attributeBase o name X.env (eval o X.env)=eval o X.env:=by rfl)
  (hfew:((backTo cpos (starEach (e::es) X.env)).all (λx=>!x.1)&&(backToKw cpos (keywordEach [] X.env)).all (λx=>x.1.isSome)
   && decide ((e::es).length+([]:List Keyword).length+(if([]:List Keyword).isEmpty then 0 else 1)<30))=true:=by rfl)
  (hline:(apos.endLine==cpos.line)=true:=by rfl) (hs:starEach (e::es) X.env=(false,eval e X.env)::starEach es X.env:=by rfl) (hplain:(backTo cpos (starEach es X.env)).any (·.1)=false:=by rfl) :
  PE X (.Call (.Attribute o name apos) (e::es) [] cpos) (tBM X.K T r to t):=by
 intro pins s σ H Q I h;refine wpAny_Call_method_late hbase hfew hline rfl (thn (ho pins s σ H _ I h) λv s1 ⟨x,H1,I1,r1,ty,q1⟩=>?_);obtain⟨h1,h2⟩:=Yck I1 r1 ty;refine⟨T,id,pa,slot,hty,h1,h2,?_⟩;have hA:=ha cpos pins s1 σ H1 _ I1 q1;rw[hs] at hA ⊢;refine Calls.callWith_builtin (by show(false||(backTo cpos (starEach es X.env)).any (·.1))=false;rw[hplain] <;> rfl) (Calls.evalArgs_plain ?_);exact thn hA λus s2 ⟨vs,H2,I2,r2,q2⟩=>hm pins s2 σ H2 x vs v us Q I2 r1 r2 q2
end
noncomputable def MtM(X:Cx)(id:String)(r:V->List V->Hp->VK->Prop):Prop :=
 ∀(pins:List (Addr×Obj)) (s:Shared) (σ:St) (H:Hp) (x:V) (xs:List V) (v:Value) (us:List Value) (Q:VK),Inv X pins σ H s->RelV x v->Vals xs us->r x xs H Q ->
  wpAny (model X.prog X.w) X.A (call (.builtin id) (v::us)) (EP X pins σ Q) X.xe s
theorem Vals.one:∀{x:V}{us:List Value},Vals [x] us->∃ u,us=[u]/\RelV x u
 |_,_,.cons r .nil=>⟨_,rfl,r⟩
theorem Vals.zero:∀{us:List Value},Vals [] us->us=[]
 |_,.nil=>rfl
theorem Vals.dropLast{xs:List V}{us:List Value}(h:Vals xs us):Vals xs.dropLast us.dropLast:=by
 induction h with
 |nil=>exact .nil
 |cons r t ih =>
  cases t with
  |nil=>exact .nil
  |cons q t'=>exact .cons r ih
theorem Vals.reverse{xs:List V}{us:List Value}(h:Vals xs us):Vals xs.reverse us.reverse:=by
 induction h with
 |nil=>exact .nil
 |cons r t ih=>rw[xp,xp];exact Vals.append ih (.cons r .nil)
theorem Vals.rep{xs:List V}{us:List Value}(h:Vals xs us):∀ k:Nat,Vals (we k xs).flatten (we k us).flatten
 |0=>.nil
 |k+1=>by
  rw[Ul,Ul,Xp,Xp];exact Vals.append h (Vals.rep h k)
theorem ZbF{α:Type}(l:List α):l.eraseIdx (l.length-1)=l.dropLast:=by
 induction l with
 |nil=>rfl
 |cons a r ih =>
  cases r with
  |nil=>rfl
  |cons b r =>
   have e:(a::b::r).length-1=((b::r).length-1)+1:=by
    have h1:(a::b::r).length=r.length+2:=rfl;have h2:(b::r).length=r.length+1:=rfl
    lia
   rw[e,List.eraseIdx_cons_succ,ih]
   all_goals rfl
theorem zbb(its:List Value):∀(k:Nat)(acc:List Value),
  UD (λx1 x2=>x1++x2) acc.toArray (we k its.toArray)=(acc++(we k its).flatten).toArray
 |0,acc=>by simp
 |k+1,acc=>by
  have e:acc.toArray++its.toArray=(acc++its).toArray:=by simp
  have e2:(acc++its)++(we k its).flatten=acc++(we (k+1) its).flatten:=by
   rw[Ul,Xp,vf]
  rw[<- e2,<- zbb its k (acc++its),<- e,Ul,Um]
section
variable {X:Cx} {pins:List (Addr×Obj)} {σ:St} {H:Hp} {s:Shared} {l b:Addr} {xs ys zs:List V}
theorem Inv.lset{its its':List Value}{n:Nat}{f:Array Value->Array Value}{t':Nat}(I:Inv X pins σ H s)(hH:H l=some (.lst xs))
  (e:s.heap.get? l=some {cls:=.type "list",data:=.seq its.toArray n}) (hf:f its.toArray=its'.toArray) (hv:Vals ys its') (hz:ys.length<=sizeLine) :
  Inv X pins σ (upd H l (.lst ys)) {s with heap:=s.heap.update l (Obj.mapSeq f),toks:=t'}:=by
 have q:=PySem.IsL.update e f;rw[hf] at q;refine I.write (x:=l) (e:=l) (by rw[hH];exact trivial) (.inl rfl) (λb' u hb hu=>(uh s.heap (Obj.mapSeq f) (Ne.symm hb)).trans hu) ⟨_,q⟩ ?_;exact⟨hz,its',_,hv,q⟩
theorem Inv.lnew{its:List Value}{t':Nat}(I:Inv X pins σ H s)(hv:Vals ys its)(hz:ys.length<=sizeLine) :
  Inv X pins σ (upd H s.heap.objs.size (.lst ys)) {s with heap:=s.heap.push {cls:=.type "list",data:=.seq its.toArray},toks:=t'} :=
 I.laid (λ_ _ q=>wa _ q) (xb _) ⟨hz,its,0,hv,Xb _ rfl⟩
theorem Inv.fresh(I:Inv X pins σ H s):H s.heap.objs.size=none:=I.hok.fresh (xb _)
theorem Inv.lstM(I:Inv X pins σ H s)(hH:H l=some (.lst xs)):xs.length<=sizeLine/\∃(its:List Value)(n:Nat),Vals xs its/\xs.length=its.length/\s.heap.get? l=some {cls:=.type "list",data:=.seq its.toArray n}:=by
 obtain⟨z,its,n,r,e⟩:=I.hok l _ hH;exact⟨z,its,n,r,r.length,e⟩
theorem YaS{n:Nat}(h:n<=sizeLine):Builtin.List.listTooLong n=false:=by
 unfold Builtin.List.listTooLong;exact decide_eq_false (by lia)
end
section
variable {X:Cx}
noncomputable def zcy:V->List V->Hp->VK->Prop:=λx vs H Q=>∃ l xs y,x=.ref l/\vs=[y]/\H l=some (.lst xs)/\xs.length<sizeLine/\Q .non (upd H l (.lst (xs++[y])))
theorem yba:MtM X "list.append" zcy:=by
 intro pins s σ H x vs v us Q I rx rv h;obtain⟨l,xs,y,rfl,rfl,hH,hz,q⟩:=h;cases rx;obtain⟨u,rfl,ru⟩:=rv.one;obtain⟨z,its,n,r,hl,e⟩:=I.lstM hH;refine call_meets F.slot_list_append ⟨_,e,rfl⟩ F.entry_list_append (F.args_list_append_2 _ _) (PySem.list_append l its.toArray n u (by rw[ua];lia)) ⟨e,?_⟩;refine⟨.non,_,I.lset (its':=its++[u]) hH e (by simp) (r.append (.cons ru .nil)) ?_,rfl,q⟩;rw[Vg,vy]
 lia
noncomputable def Zcx:V->List V->Hp->VK->Prop:=λx vs H Q=>∃ l b xs zs,x=.ref l/\vs=[.ref b]/\H l=some (.lst xs)/\H b=some (.lst zs)/\xs.length+zs.length<=sizeLine/\Q .non (upd H l (.lst (xs++zs)))
theorem Qc8:MtM X "list.extend" Zcx:=by
 intro pins s σ H x vs v us Q I rx rv h;obtain⟨l,b,xs,zs,rfl,rfl,hH,hB,hz,q⟩:=h;cases rx;obtain⟨u,rfl,ru⟩:=rv.one;cases ru;obtain⟨z,its,n,r,hl,e⟩:=I.lstM hH;obtain⟨z2,its2,n2,r2,hl2,e2⟩:=I.lstM hB;have hsz:its.toArray.size+its2.toArray.size<=sizeLine:=by rw[ua,ua];lia
 have hlong:¬(!its.toArray.isEmpty&&Builtin.List.listTooLong (its.toArray.size+its2.toArray.size))=true:=by
  rw[YaS hsz,Bool.and_false];exact Vc
 refine call_meets F.slot_list_extend ⟨_,e,rfl⟩ F.entry_list_extend (F.args_list_extend_2 _ _)
  (AutoSeq1.list_extend_list_list_0 l its.toArray n b its2.toArray n2 hlong (by rw[ua];lia) (by lia)) ⟨e,e2,?_⟩
 refine⟨.non,_,I.lset (its':=its++its2) hH e (by simp) (r.append r2) ?_,rfl,q⟩;rw[Vg]
 lia
noncomputable def rPop:V->List V->Hp->VK->Prop:=λx vs H Q=>∃ l xs y,x=.ref l/\vs=[]/\H l=some (.lst xs)/\xs[xs.length-1]?=some y/\Q y (upd H l (.lst xs.dropLast))
theorem mt_pop:MtM X "list.pop" rPop:=by
 intro pins s σ H x vs v us Q I rx rv h;obtain⟨l,xs,y,rfl,rfl,hH,hy,q⟩:=h;cases rx;have hus:=rv.zero;subst hus;obtain⟨z,its,n,r,hl,e⟩:=I.lstM hH;obtain⟨u,hu,ru⟩:=r.get hy;have hy':its.toArray[its.toArray.size-1]?=some u:=by
  show its.toArray[its.length-1]?=some u;rw[<- Vy,<- hl];exact hu
 refine call_meets F.slot_list_pop ⟨_,e,rfl⟩ F.entry_list_pop (F.args_list_pop_1 _) (MeetsSeq.list_pop_last l its.toArray n u hy' (by rw[ua];lia)) ⟨e,?_⟩;refine⟨y,_,I.lset (its':=its.dropLast) hH e ?_ r.dropLast ?_,ru,q⟩
 ·show its.toArray.eraseIdxIfInBounds (its.toArray.size-1)=its.dropLast.toArray;rw[ua,List.eraseIdxIfInBounds_toArray,ZbF]
 ·rw[List.length_dropLast]
  lia
noncomputable def Zco:V->List V->Hp->VK->Prop:=λx vs H Q=>∃ l xs,x=.ref l/\vs=[]/\H l=some (.lst xs)/\Q .non (upd H l (.lst xs.reverse))
theorem Ybz:MtM X "list.reverse" Zco:=by
 intro pins s σ H x vs v us Q I rx rv h;obtain⟨l,xs,rfl,rfl,hH,q⟩:=h;cases rx;have hus:=rv.zero;subst hus;obtain⟨z,its,n,r,hl,e⟩:=I.lstM hH;refine call_meets F.slot_list_reverse ⟨_,e,rfl⟩ F.entry_list_reverse (F.args_list_reverse_1 _) (AutoSeq1.list_reverse_list_0 l its.toArray n (by rw[ua];lia)) ⟨e,?_⟩;refine⟨.non,_,I.lset (its':=its.reverse) hH e (by simp) r.reverse ?_,rfl,q⟩;rw[wA]
 lia
noncomputable def rCat:R2:=λx y H Q=>∃ l b xs zs,x=.ref l/\y=.ref b/\H l=some (.lst xs)/\H b=some (.lst zs)/\xs.length+zs.length<=sizeLine/\∀ p,H p=none->Q (.ref p) (upd H p (.lst (xs++zs)))
theorem qb8:OpR X (binaryOp .Add) rCat:=by
 intro pins s σ H x y v u Q I rx ry h;obtain⟨l,b,xs,zs,rfl,rfl,hH,hB,hz,q⟩:=h;cases rx;cases ry;obtain⟨z,its,n,r,hl,e⟩:=I.lstM hH;obtain⟨z2,its2,n2,r2,hl2,e2⟩:=I.lstM hB;refine PySem.P.add_list e e2 ?_ (by rw[ua,ua];lia);have ea:its.toArray++its2.toArray=(its++its2).toArray:=by simp
 rw[ea];exact⟨.ref _,_,I.lnew (t':=s.toks) (r.append r2) (by rw[Vg];lia),rfl,q _ I.fresh⟩
theorem ZcA{α:Type}(xs:List α)(k:Nat):(we k xs).flatten.length=k*xs.length:=by
 induction k with
 |zero=>simp
 |succ k ih=>rw[Ul,Xp,Vg,ih,Nat.succ_mul,Nat.add_comm]
end
end L2
namespace Att
open PySem PySem.W PySem.Calls PyProof.Rows
theorem QaL{P:Params}{h:Heap}:∀(ns:List Int)(vs:List Value),WellAll P h vs (ns.map WData.int)->IntsAre vs ns:=by
 intro ns
 induction ns with
 |nil =>
  intro vs w;rw[Vx] at w;cases w;exact .nil
 |cons n ns ih =>
  intro vs w;rw[Xd] at w;cases w with
  |cons a b =>
   cases a;exact .cons _ _ (ih _ b)
theorem zbV{l:OpenLaw}{n:Nat}(hn:l.most=some n){P:Params}{h:Heap}{args:List WData}{vals:List Value}
  (hpre:l.row.toRowW.claim.pre args=true) (hwl:WellAll P h vals args) :
  ∃ a vs ns,vals=[Value.ref a]/\args=[WData.list (ns.map WData.int)]/\h.get? a=some {cls:=.type "list",data:=.seq vs.toArray}/\IntsAre vs ns/\ns.length<=n:=by
 have hsh:WShape.hasAll [] args [.list .int]=true:=(pre_splitW hpre).1;have hc:l.pre.holds [] {args:=args}=true:=(pre_splitW hpre).2;obtain⟨d,r,rfl,h1,h2⟩:=hasAllW_cons hsh;obtain rfl:=hasAllW_nil h2;obtain⟨xs,rfl,h3⟩:=hasW_list h1;obtain⟨ns,rfl⟩:=items_int h3;have hlen:ns.length<=n:=by
  unfold OpenLaw.pre at hc;have h4:(WTm.not (.lt (.lit (.int (n:Int))) (.len (.arg 0)))).holds [] {args:=[.list (ns.map .int)]}=true:=by
   have h4:=(holds_andW hc).1;rw[hn] at h4;exact h4
  have h5:=condW_of h4 (w_not (w_lt w_lit (w_len_list (w_arg rfl))));rw[vc] at h5;refine VC λq=>?_;have q':(n:Int)<((ns.length:Nat):Int):=by lia
  first
   |(rw[decide_eq_true q'] at h5;exact absurd h5 (by decide))
   |(simp at h5;lia)
 cases hwl with
 |cons w1 w2 =>
  cases w2;cases w1 with
  |list ho hall=>exact⟨_,_,ns,rfl,rfl,ho,QaL ns _ hall,hlen⟩
theorem ybR(l:OpenLaw)(args:List WData):l.row.toRowW.claim.post args (.bool true) args=true :=
 postW_of (r:=l.row.toRowW) (X:=(true==true))
  (show WShape.has [] (.bool true) .bool=true by first|rfl|decide|simp[WShape.has,WShape.arms,WShape.armsAll])
  (show(WTm.eq .res (.lit (.bool true))).value [] {args:=args,res:=some (.bool true),after:=args}=some (.bool (true==true)) from w_eq_bool (w_res rfl) w_lit) rfl
theorem attach_call{l:OpenLaw}{n:Nat}{q:Program}{loose:List Str}{XP:(Str->Option Value)->Heap->Prop}{YP:World->Heap->Prop}{d:DefRec}
  (hn:l.most=some n) (hdf:d.params.defaults=[])
  (call:∀(w:World)(s₀ s₁:Shared)(mg mb:Str->Option Value)(fa:Addr)(o:Obj) (pm cd doc:Value) (a:Addr) (vs:List Value) (ns:List Int),
   Ground q loose [] XP w s₀ mg mb s₁.heap->YP w s₁.heap ->
   s₁.heap.get? fa=some o->o.data=.func (docDef d.name d.params d.body d.scope pm cd doc)->s₁.heap.CodeRec cd d.name->mg d.name=some (.ref fa) ->
   s₁.heap.get? a=some {cls:=.type "list",data:=.seq vs.toArray}->IntsAre vs ns->ns.length<=n->s₁.gens=#[] ->
   codeAny (model l.prog w) callerA (.call (.ref fa) ⟨[.ref a],[]⟩) (λr s'=>r=.ok (.ret (.bool true))/\OldK s₁.heap s'.heap/\s'.os=s₁.os/\AllBare s'.gens) s₁) :
  WalkO q loose XP YP l.row.toRowW d [] (λf vs=>PySem.call f vs):=by
 intro w s₀ s₁ mg mb G Y fa o pm cd doc dV kV ho hd hcd hD hmg hg args vals as hpre hlay hrd hwl hlo;obtain rfl:dV=.none:=Dflts.none hD hdf;obtain rfl:kV=.none:=Dflts.noKw hD;obtain⟨a,vs,ns,rfl,rfl,hobj,hints,hlen⟩:=zbV hn hpre hwl;refine enter_call (codeAny_mono (call w s₀ s₁ mg mb fa o pm cd doc a vs ns G Y ho (fd_plain hd) hcd hmg hobj hints hlen hg) λr s' hq=>?_);obtain⟨rfl,h2,h3,h4⟩:=hq;exact⟨.inl ⟨.bool true,.bool true,[],rfl,λ_=>rfl,.bool true,ybR l _,λ_=>⟨List.Pairwise.nil,λ_ hm=>(nomatch hm)⟩⟩,h2,h3,h4⟩
end Att
namespace L2
open PySem PySem.Spec PyProof.Rows
theorem qbd:∀{vs:List Value}{ns:List Int},IntsAre vs ns->Vals (ns.map V.int) vs
 |_,_,.nil=>.nil
 |_,_,.cons n t h=>.cons ⟨t,rfl⟩ (qbd h)
noncomputable def qcm(H:Hp):Prop:=∀ b,H b=none\/∃ o xs,H b=some (.frz o (.lst xs))
theorem Qb6{P:Program}{w:World}{K:PySem.W.Frag}{mg mb:Str->Option Value}{CX:CXT}{k:Nat}{fa a:Addr}{fd:FuncData}{x:Str}{sp:Sp}{s₁:Shared}{vs:List Value}{ns:List Int}
  (KX:K.In s₁.heap) (hns:s₁.heap.Ns mainGlobals mg) (hb:s₁.heap.Ns builtinsNs mb) (hbb:∀ x:Str,x≠"__name__"->mb x=bootBuiltins x) (hlim:s₁.heap.NoLimit) (hg:s₁.gens=#[])
  (ha:s₁.heap.get? a=some {cls:=.type "list",data:=.seq vs.toArray}) (hi:IntsAre vs ns) (hl:ns.length<=sizeLine) (hr:Room k callerA)
  (F:∀ base:Heap,K.In base->base.Ns mainGlobals mg->FnOk P w K mg base CX k fa fd [x] sp) (hbind:∀(s:Shared)(u:Value),BindsTo s fd ⟨[u],[]⟩ [(x,u)])
  (hsp:∀ H:Hp,qcm H->SqL K H a (ns.map V.int)->sp [.ref a] H (λv _=>v=.bl true) λ_ _ _=>False)
  (hCX:∀ H e s',CX [] H s₁ (λ_ _ _=>False) e s'->False) :
  codeAny (model P w) callerA (.call (.ref fa) ⟨[.ref a],[]⟩) (λr s'=>r=.ok (.ret (.bool true))/\OldK s₁.heap s'.heap/\s'.os=s₁.os/\AllBare s'.gens) s₁:=by
 have rv:=qbd hi;have lenV:=hi.length
 -- from an abstract heap in which nothing but the script may be tracked
 have core:∀ H:Hp,qcm H->SqL K H a (ns.map V.int)->HOk P w H s₁.heap->(∀ b,H b≠none->b=a)->(H a≠none->K.lookup a=none) ->
   codeAny (model P w) callerA (.call (.ref fa) ⟨[.ref a],[]⟩) (λr s'=>r=.ok (.ret (.bool true))/\OldK s₁.heap s'.heap/\s'.os=s₁.os/\AllBare s'.gens) s₁:=by
  intro H hO hS hok hA hK;have base_of:∀{b:Addr}{o:Obj},s₁.heap.get? b=some o->H b=none->(Qbe s₁.heap H).get? b=some o:=λe n=>ycd e n;have noA:∀{b:Addr}{o:Obj}{es:Array DictEntry}{ep:Nat},s₁.heap.get? b=some o->o.data=.dict es ep->H b=none:=λ{b o es ep} e d=>by
   cases q:H b with
   |none=>rfl
   |some u =>
    have e':b=a:=hA b (by rw[q];simp);subst e';rw[ha] at e;cases e;have d':Data.seq vs.toArray _=Data.dict es ep:=d;cases d'
  have nsK:∀{b:Addr}{m:Str->Option Value},s₁.heap.Ns b m->(Qbe s₁.heap H).Ns b m:=λ{b m} ⟨o,es,ep,e,d,r⟩=>⟨o,es,ep,base_of e (noA e d),d,r⟩;have hKb:K.In (Qbe s₁.heap H):=λb o e=>base_of (KX b o e) (by
   cases q:H b with
   |none=>rfl
   |some u =>
    have e':b=a:=hA b (by rw[q];simp);subst e';rw[hK (by rw[q];simp)] at e;cases e)
  have hM:Mod K mg (Qbe s₁.heap H):=⟨hKb,nsK hns,⟨mb,nsK hb,hbb⟩,let ⟨mc,h1,h2⟩:=hlim;⟨mc,nsK h1,h2⟩⟩;have e0:Env0 P w K mg (Qbe s₁.heap H) callerA [] s₁ H:=⟨rfl,hM,λb o e=>Ycq e,vn (qbY _ _),trivial,λb hb=>absurd (show b∈([]:List Addr) from hb) (by simp),hok,.of_eq hg⟩;refine codeAny_mono ((F _ hKb (nsK hns)).run callerA [] s₁ H ⟨[.ref a],[]⟩ [.ref a] [.ref a] _ _ hr e0 (hbind s₁ (.ref a)) (.cons rfl .nil) (hsp H hO hS)) λr s' h=>?_;cases r with
  |error e=>exact(hCX H e s' h).elim
  |ok fl =>
   cases fl with
   |next=>exact False.elim h
   |brk=>exact False.elim h
   |cont=>exact False.elim h
   |ret u =>
    obtain⟨v,H',os,bare,un,hok',r',q⟩:=h;have q':v=.bl true:=q;subst q';obtain rfl:u=Value.bool true:=r';refine⟨rfl,OldK.of_keep λb o e=>?_,os,bare⟩;cases q:H b with
    |none=>exact un.keep b o e q (by intro z;exact absurd (show b∈([]:List Addr) from z) (by simp)) (by simp)
    |some u =>
     rcases hO b with z|⟨ob,xs,z⟩
     ·rw[q] at z;cases z
     ·have z2:=un.frzs b ob _ z;obtain⟨e1,_⟩:=hok b _ z;obtain⟨e2,_⟩:=hok' b _ z2;rw[e] at e1;cases e1;exact e2
 cases hk:K.lookup a with
 |some o =>
  -- the script is one of the module's own objects
  have e:=KX a o hk;rw[ha] at e;cases e;refine core (λ_=>none) (λ_=>.inl rfl) (.inr ⟨_,vs.toArray,_,hk,rfl,rfl,rfl,by rw[ua,lenV];exact hl,by simpa using rv⟩) (λb u z=>by have z':(none:Option HO)=some u:=z;cases z') (λb z=>absurd rfl z) λz=>absurd rfl z
 |none =>
  refine core (λb=>if b=a then some (.frz {cls:=.type "list",data:=.seq vs.toArray} (.lst (ns.map V.int))) else none) (λb=>?_) (.inl (.inr ⟨{cls:=.type "list",data:=.seq vs.toArray},if_pos rfl⟩)) (λb u z=>?_) (λb z=>?_) λ_=>hk
  ·by_cases hb:b=a
   ·exact .inr ⟨_,_,if_pos hb⟩
   ·exact .inl (if_neg hb)
  ·by_cases hb:b=a
   ·have z':=(if_pos hb).symm.trans z;cases z';subst hb;exact⟨ha,by rw[vc];exact hl,vs,_,rv,ha⟩
   ·have z':=(if_neg hb).symm.trans z;cases z'
  ·by_cases hb:b=a
   ·exact hb
   ·exact absurd (if_neg hb) z
noncomputable abbrev KOf{K:PySem.W.Frag}{h:Heap}(_:K.In h):PySem.W.Frag:=K
theorem walk_of{l:PySem.W.OpenLaw}{n k:Nat}{q:Program}{loose:List Str}{XP:(Str->Option Value)->Heap->Prop}{YP:World->Heap->Prop}{d:DefRec}{K:Params->PySem.W.Frag}{CX:World->CXT}{sp:World->Sp}{x:Str}
  (hn:l.most=some n) (hn2:n<=sizeLine) (hdf:d.params.defaults=[]) (hr:Room k callerA)
  (hY:∀(w:World)(h:Heap),YP w h->(K w.params).In h)
  (F:∀(w:World)(mg:Str->Option Value)(fa:Addr)(h:Heap),(K w.params).In h->h.Ns mainGlobals mg->mg d.name=some (.ref fa) ->
   ∃ fd:FuncData,(∀(s:Shared)(u:Value),BindsTo s fd ⟨[u],[]⟩ [(x,u)]) /\
    ∀ base:Heap,(K w.params).In base->base.Ns mainGlobals mg->FnOk l.prog w (K w.params) mg base (CX w) k fa fd [x] (sp w))
  (hsp:∀(w:World)(H:Hp)(a:Addr)(ns:List Int),ns.length<=n->qcm H->SqL (K w.params) H a (ns.map V.int)->sp w [.ref a] H (λv _=>v=.bl true) λ_ _ _=>False)
  (hCX:∀(w:World)(H:Hp)(s:Shared)(e:Value)(s':Shared),CX w [] H s (λ_ _ _=>False) e s'->False) :
  PySem.W.WalkO q loose XP YP l.row.toRowW d [] (λf vs=>PySem.call f vs):=by
 refine Att.attach_call hn hdf λw s₀ s₁ mg mb fa o pm cd doc a vs ns G Y ho hd hcd hmg hobj hints hlen hg=>?_;have KX:=hY w _ Y;obtain⟨fd,hb,hF⟩:=F w mg fa _ KX G.T.g hmg;exact Qb6 KX G.T.g G.T.b G.T.builtins G.T.nolimit hg hobj hints (Ve hlen hn2) hr hF hb (λH hO hS=>hsp w H a ns hlen hO hS) λH e s'=>hCX w H s₁ e s'
noncomputable def YA(s:Stmt)(j:Nat):Stmt:=match s with
 |.ClassDef _ _ _ body _ _ _ _ _ _ _=>body.getD j (.Pass ⟨0,0,0,0⟩)
 |_=>.Pass ⟨0,0,0,0⟩
noncomputable def Qk(s:Stmt):Arguments:=match s with
 |.FunctionDef _ a _ _ _ _ _ _ _ _=>a
 |_=>{posonlyargs:=[],args:=[],vararg:=none,kwonlyargs:=[],kw_defaults:=[],kwarg:=none,defaults:=[]}
noncomputable def Zg(s:Stmt):List Stmt:=match s with
 |.FunctionDef _ _ b _ _ _ _ _ _ _=>b
 |_=>[]
noncomputable def yb(s:Stmt):Scope:=match s with
 |.FunctionDef _ _ _ _ _ _ sc _ _ _=>sc
 |_=>{kind:=.function,names:=[],isGenerator:=false,isCoroutine:=false}
noncomputable abbrev CX0:CXT:=λ_ _ _ _ _ _=>False
noncomputable abbrev E0:XK:=λ_ _ _=>False
structure Fun (K:PySem.W.Frag) (x qual:Str) (st:Stmt) (f:Addr) (fd:FuncData):Prop where
 ex:∃(oc:Value)(od:Option Addr)(kV doc pm:Value)(an:Option Addr)(cdv ct:Value) (osl:Array (Option Value)),
  fd=Wf x qual (Qk st) (Zg st) (yb st) .none kV doc pm an cdv ct/\K.lookup f=some ⟨oc,od,.func fd,osl⟩/\Xg K cdv qual=true
 kp:Uc K (.ref f)=true
section
variable {P:Program} {w:World} {K:PySem.W.Frag} {mg:Str->Option Value} {base:Heap}
theorem Fun.binds{x qual:Str}{st:Stmt}{f:Addr}{fd:FuncData}{ps:List Str}(F:Fun K x qual st f fd)
  (h:∀(kV doc pm:Value)(an:Option Addr)(cdv ct:Value)(us:List Value),us.length=ps.length->bindArgs (Wf x qual (Qk st) (Zg st) (yb st) .none kV doc pm an cdv ct) ⟨us,[]⟩=pure (ps.zip us)):Binds K fd ps []:=by
 obtain⟨oc,od,kV,doc,pm,an,cdv,ct,osl,rfl,lk,hcd⟩:=F.ex;exact .all (h kV doc pm an cdv ct)
theorem zB{x qual:Str}{st:Stmt}{f:Addr}{oc:Value}{od an:Option Addr}{osl:Array (Option Value)}{kV doc pm cdv ct:Value}(l:K.lookup f=some ⟨oc,od,.func (Wf x qual (Qk st) (Zg st) (yb st) .none kV doc pm an cdv ct),osl⟩)
  (c:Xg K cdv qual=true) (k:Uc K (.ref f)=true):Fun K x qual st f (Wf x qual (Qk st) (Zg st) (yb st) .none kV doc pm an cdv ct):=⟨⟨oc,od,kV,doc,pm,an,cdv,ct,osl,rfl,l,c⟩,k⟩
end
section
variable {X:Cx}
theorem pv(i:Nat){x:Str}{pos:Pos}(hN:X.N[i]?=some x:=by rfl)(hv:Vis X.env.scope x:=by first|exact Or.inl rfl|exact Or.inr (Or.inl rfl)|exact Or.inr (Or.inr rfl))(hd:(x==("__debug__":Str))=false:=by decide)
  (hcd:(x==("__classdict__":Str))=false:=by decide):PE X (.Name x pos) (tVar i):=ybI hN hv hd hcd
end
theorem iteF{A B:Prop}(h:B):if false=true then A else B:=by
 rw[if_neg Vc];exact h
theorem ite2{c A B:Prop} [Decidable c] (h1:c->A)(h2:¬ c->B):if c then A else B:=by
 by_cases h:c
 ·rw[if_pos h];exact h1 h
 ·rw[if_neg h];exact h2 h
noncomputable def Same(H H':Hp):Prop:=∀ b o,H b=some o->H' b=some o
theorem Same.trans{H H1 H2:Hp}(a:Same H H1)(b:Same H1 H2):Same H H2:=λc o h=>b c o (a c o h)
section
variable {κ:Type} [DecidableEq κ]
noncomputable def yaS(kvs:List (κ×V))(k:κ):Option V:=(kvs.find? λkv=>decide (kv.1=k)).map (·.2)
noncomputable def qaP(kvs:List (κ×V))(k:κ)(v:V):List (κ×V) :=
 if(kvs.any λkv=>decide (kv.1=k))=true then kvs.map (λkv=>if kv.1=k then(kv.1,v) else kv) else kvs++[(k,v)]
theorem zaX{p:κ×V}{r:List (κ×V)}{k:κ}(e:p.1=k):yaS (p::r) k=some p.2:=by simp[yaS,vo,e]
theorem yaZ{p:κ×V}{r:List (κ×V)}{k:κ}(e:¬ p.1=k):yaS (p::r) k=yaS r k:=by simp[yaS,vo,e]
theorem zaW(k:κ):∀ kvs:List (κ×V),(kvs.any λkv=>decide (kv.1=k))=(yaS kvs k).isSome
 |[]=>rfl
 |p::r=>by
  rw[Uz];by_cases e:p.1=k
  ·simp only[zaX e,decide_eq_true e,Bool.true_or,wB]
  ·rw[yaZ e,decide_eq_false e,Bool.false_or];exact zaW k r
theorem Qbq(kvs:List (κ×V))(k:κ)(v:V):(qaP kvs k v).length<=kvs.length+1:=by
 unfold qaP;split
 ·rw[vc];lia
 ·rw[Vg,We,Vm];lia
theorem RelO.isSome_eq{o:Option V}{u:Option Value}(r:RelO o u):o.isSome=u.isSome:=by
 cases o with
 |none=>cases u with
  |none=>rfl
  |some _=>exact(show False from r).elim
 |some _=>cases u with
  |none=>exact(show False from r).elim
  |some _=>rfl
theorem KV.val{kvs:List (κ×V)}{vs:List (κ×Value)}(r:KV kvs vs)(k:κ):RelO (yaS kvs k) (valueAt vs k):=by
 unfold KV at r
 induction r with
 |nil=>exact True.intro
 |@cons p q ps qs h t ih =>
  obtain⟨h1,h2⟩:=h;by_cases e:p.1=k
  ·have e':q.1=k:=h1.symm.trans e;have b:valueAt (q::qs) k=some q.2:=by simp[valueAt,vo,e']
   rw[zaX e,b];exact h2
  ·have e':¬ q.1=k:=λz=>e (h1.trans z);have b:valueAt (q::qs) k=valueAt qs k:=by simp[valueAt,vo,e']
   rw[yaZ e,b];exact ih
end
theorem YcC{P:Program}{w:World}{k:Key}{u:Value}(r:RelV (kV k) u):(qg P w).is k u=true:=by
 cases k with
 |inl i=>obtain⟨t,e⟩:=(show ∃ t,u=Value.int i t from r);subst e;exact Yby P w i t
 |inr x=>obtain⟨t,e⟩:=(show ∃ t,u=Value.str x t from r);subst e;exact Ybt P w x t
theorem qbb{P:Program}{w:World}:∀{ks:List Key}{us:List Value},Vals (ks.map kV) us->ItemsAre (qg P w) ks us
 |[],_,r=>by rw[Vx] at r;cases r;exact .nil
 |k::ks,_,r=>by
  rw[Xd] at r;cases r with
  |cons h t=>exact .cons (YcC h) (qbb t)
noncomputable abbrev KT(H:Hp):List (List Key×V)->List (List Key×Addr×Value)->Prop:=Paired λp q=>p.1=q.1/\H q.2.1=some (.tup (p.1.map kV))/\RelV p.2 q.2.2
theorem KT.val{H:Hp}{kvs:List (List Key×V)}{xs:List (List Key×Addr×Value)}(r:KT H kvs xs)(k:List Key):RelO (yaS kvs k) ((atKey xs k).map (·.2)):=by
 induction r with
 |nil=>exact True.intro
 |@cons p q ps qs h t ih =>
  obtain⟨h1,_,h2⟩:=h;by_cases e:p.1=k
  ·have e':q.1=k:=h1.symm.trans e;have b:atKey (q::qs) k=some q.2:=by simp[atKey,vo,e']
   rw[zaX e,b];exact h2
  ·have e':¬ q.1=k:=λz=>e (h1.trans z);have b:atKey (q::qs) k=atKey qs k:=by simp[atKey,vo,e']
   rw[yaZ e,b];exact ih
theorem KT.repl{H:Hp}{kvs:List (List Key×V)}{xs:List (List Key×Addr×Value)}(r:KT H kvs xs)(k:List Key){y:V}{u:Value}(ry:RelV y u) :
  KT H (kvs.map λkv=>if kv.1=k then(kv.1,y) else kv) (xs.map (putAt k u)):=by
 induction r with
 |nil=>exact .nil
 |@cons p q ps qs h t ih =>
  rw[Xd,Xd];refine .cons ?_ ih;obtain⟨h1,h2,h3⟩:=h;unfold putAt;by_cases e:p.1=k
  ·rw[if_pos e,if_pos (h1.symm.trans e)];exact⟨h1,h2,ry⟩
  ·rw[if_neg e,if_neg (λz=>e (h1.trans z))];exact⟨h1,h2,h3⟩
theorem KT.put{H:Hp}{kvs:List (List Key×V)}{xs:List (List Key×Addr×Value)}(r:KT H kvs xs)(k:List Key){b:Addr}{y:V}{u:Value}(hb:H b=some (.tup (k.map kV)))(ry:RelV y u) :
  KT H (qaP kvs k y) (storedH xs k b u):=by
 have e:(kvs.any λkv=>decide (kv.1=k))=(atKey xs k).isSome:=by
  rw[zaW,(r.val k).isSome_eq,wC]
 unfold qaP storedH;rw[e];by_cases q:(atKey xs k).isSome=true
 ·rw[if_pos q,if_pos q];exact r.repl k ry
 ·rw[if_neg q,if_neg q];exact Paired.snoc r ⟨rfl,hb,ry⟩
theorem KT.keeps{H H':Hp}{kvs:List (List Key×V)}{xs:List (List Key×Addr×Value)}(r:KT H kvs xs)(ht:∀ b ys,H b=some (.tup ys)->H' b=some (.tup ys)):KT H' kvs xs :=
 Paired.mapP r λ_ _ z=>⟨z.1,ht _ _ z.2.1,z.2.2⟩
section
variable {P:Program} {w:World} {H:Hp} {h:Heap} {a:Addr}
theorem ycC{u:HO}(ok:HOk P w H h)(e:Rd H a u):ObjOk P w H h a u:=e.ok ok
theorem QcD{kvs:List (Key×V)}(ok:HOk P w H h)(e:Rd H a (.dK kvs)):kvs.length<=sizeLine/\(a==sysModules)=false/\∃ vs,KV kvs vs/\h.DictOf (qg P w) a vs :=
 show ObjOk P w H h a (.dK kvs) from ycC ok e
theorem QbH{ks:List Key}(ok:HOk P w H h)(e:H a=some (.tup (ks.map kV))):(tupleKind (qg P w)).is h ks a:=by
 obtain⟨_,its,r,o,h1,h2,n,h3⟩:=(show ObjOk P w H h a (.tup (ks.map kV)) from ok a _ e);exact⟨o,its.toArray,n,h1,h2,h3,by simpa using qbb r⟩
theorem Zbu{kvs:List (List Key×V)}(ok:HOk P w H h)(e:Rd H a (.dT kvs)):kvs.length<=sizeLine/\(a==sysModules)=false /\
  ∃ xs,KT H kvs xs/\h.DictOfH (tupleKind (qg P w)) a xs:=by
 obtain⟨z,y,xs,r,o,es,ep,h1,h2,h3,h4,h5⟩:=(show ObjOk P w H h a (.dT kvs) from ycC ok e);refine⟨z,y,xs,r,o,es,ep,h1,h2,h3,h4,λx hx=>?_,h5⟩;have all:∀{l:List (List Key×V)} {m:List (List Key×Addr×Value)},KT H l m->∀ x∈m,(tupleKind (qg P w)).is h x.1 x.2.1:=by
  intro l m q
  induction q with
  |nil=>intro x hx;exact nomatch hx
  |@cons p q ps qs hq t ih =>
   intro x hx
   rcases vb.mp hx with e|hx
   ·subst e;exact QbH ok (by rw[<- hq.1];exact hq.2.1)
   ·exact ih x hx
 exact all r x hx
theorem ycD{kvs:List (List Key×V)}(ok:HOk P w H h)(e:H a=some (.dT kvs)):kvs.length<=sizeLine/\(a==sysModules)=false /\
  ∃ xs,KT H kvs xs/\h.DictOfH (tupleKind (qg P w)) a xs:=Zbu ok (.inl e)
end
noncomputable def DGet(H:Hp)(a:Addr)(y:V)(r:Option V):Prop :=
 (∃ kvs k,Rd H a (.dK kvs)/\y=kV k/\r=yaS kvs k)\/∃ kvs k b,Rd H a (.dT kvs)/\y=.ref b/\H b=some (.tup (k.map kV))/\r=yaS kvs k
section
variable {X:Cx} {pins:List (Addr×Obj)} {σ:St} {H:Hp} {s:Shared} {a:Addr} {y v:V} {u r:Value} {o:Option V} {A:Around} {E:Value->Shared->Prop}
theorem Inv.big(I:Inv X pins σ H s):sysModules<s.heap.objs.size:=by
 have h:mainGlobals<s.heap.objs.size:=(I.mod.glob.keeps I.bk).lt;exact Ur (by decide) h
theorem ycs{Q:Value->Shared->Prop}(hu:A.units+1<cLine)(I:Inv X pins σ H s)(g:DGet H a y o)(ry:RelV y u)(h:∀ s',Inv X pins σ H s'->Q (.bool (!o.isSome)) s') :
  wpAny (model X.prog X.w) A (compareOp .NotIn u (.ref a)) Q E s:=by
 rcases g with ⟨kvs,k,e,ey,l⟩|⟨kvs,k,b,e,ey,eb,l⟩
 ·subst ey;obtain⟨z,hd,vs,rel,dd⟩:=QcD I.hok e;refine wpAny_notIn_of (YcC ry) hd dd.mapOf ?_;rw[<- (rel.val k).isSome_eq,<- l];exact h _ (I.tok _)
 ·subst ey;cases(show u=Value.ref b from ry);obtain⟨z,hd,xs,rel,dd⟩:=Zbu I.hok e;refine wpAny_notIn_heap (tupleKind_room_in1 hu) (QbH I.hok eb) hd dd ?_;have q:=(rel.val k).isSome_eq;rw[wC] at q;rw[<- q,<- l];exact h _ (I.tok _)
theorem QbN{h':Heap}{t':Nat}{ob:HO}(I:Inv X pins σ H s)(mu:Mut (H a))(hs:Heap.SameBut a s.heap h')(he:∃ q,h'.get? a=some q)(new:ObjOk X.prog X.w (upd H a ob) h' a ob) :
  Inv X pins σ (upd H a ob) {s with heap:=h',toks:=t'} :=
 I.write (x:=a) (e:=a) mu (.inl rfl) (λb q hb z=>(hs.2 b hb).trans z) he new
end
noncomputable def ybK(ty td:TE):TE:=λσ H Q=>ty σ H λy H1=>td σ H1 λx H2=>∃ a o,x=.ref a/\DGet H2 a y o/\Q (.bl (!o.isSome)) H2
section
variable {X:Cx} {o i e value:Expr} {pos pos' tpos:Pos} {td ty tv:TE}
theorem qbc(hu:X.A.units+1<cLine)(hi:PE X i ty)(ho:PE X o td):PC X .NotIn i o (ybK ty td):=by
 intro pins s σ H Q I h;refine thn (hi pins s σ H _ I h) λiv s1 ⟨y,H1,I1,ry,q1⟩=>thn (ho pins s1 σ H1 _ I1 q1) λu s2 ⟨x,H2,I2,rx,a,ov,ex,g,q2⟩=>?_;subst ex;obtain rfl:u=Value.ref a:=rx;exact ycs hu I2 g ry λs3 I3=>⟨.bl (!ov.isSome),H2,I3,rfl,q2⟩
end
theorem zbu{P:Program}{w:World}{H:Hp}(h:Heap)(hb:sysModules<h.objs.size):ObjOk P w H (h.push {cls:=.type "dict",data:=.dict #[]}) h.objs.size (.dT []) :=
 ⟨Uk _,beq_eq_false_iff_ne.mpr (Ne.symm (Wc hb)),[],.nil,_,#[],0,Xb _ rfl,⟨rfl,rfl,rfl⟩,rfl,rfl,List.nodup_nil⟩
noncomputable def zcM:TE:=λ_ H Q=>∀ p,H p=none->Q (.ref p) (upd H p (.dT []))
section
variable {X:Cx} {pos:Pos}
theorem qcg:PE X (.Dict [] [] pos) zcM:=λpins s σ H Q I h =>
 wpAny_Dict_empty ⟨.ref s.heap.objs.size,_,I.laid (a:=s.heap.objs.size) (o:=.dT []) (t':=s.toks) (λ_ _ q=>wa _ q) (xb _) (zbu s.heap I.big),rfl,h _ (I.hok.fresh (xb _))⟩
end
structure M1 (X:Cx) (o:Expr) (m:Str) (apos:Pos) (e:Expr) (cpos:Pos):Prop where
 base:attributeBase o m X.env (eval o X.env)=eval o X.env
 few:((backTo cpos (starEach [e] X.env)).all (λx=>!x.1)&&(backToKw cpos (keywordEach [] X.env)).all (λx=>x.1.isSome)
  && decide (([e]:List Expr).length+([]:List Keyword).length+(if([]:List Keyword).isEmpty then 0 else 1)<30))=true
 line:(apos.endLine==cpos.line)=true
 trees:backTo cpos (starEach [e] X.env)=[(false,eval e X.env)]
noncomputable def IsD(H:Hp)(a:Addr):Prop:=(∃ kvs,Rd H a (.dK kvs))\/∃ kvs,Rd H a (.dT kvs)
theorem ZcQ{X:Cx}{pins:List (Addr×Obj)}{σ:St}{H:Hp}{s:Shared}{a:Addr}(I:Inv X pins σ H s)(d:IsD H a) :
  s.TypeIs (.ref a) "dict"/\(∀ b,Value.ref a=.ref b->∃ ob,s.heap.get? b=some ob/\ob.dict=none)/\(a==sysModules)=false:=by
 rcases d with ⟨kvs,e⟩|⟨kvs,e⟩
 ·obtain⟨_,hd,vs,_,dd⟩:=QcD I.hok e;refine⟨dd.typeIs,λb q=>?_,hd⟩;cases q;obtain⟨ob,_,_,h1,h2,_⟩:=dd;exact⟨ob,h1,h2.2.1⟩
 ·obtain⟨_,hd,xs,_,dd⟩:=Zbu I.hok e;refine⟨dd.typeIs,λb q=>?_,hd⟩;cases q;obtain⟨ob,_,_,h1,h2,_⟩:=dd;exact⟨ob,h1,h2.2.1⟩
end L2
end
section
namespace M3
open PySem
open Sem (wp)
noncomputable def Ye(env:Env):List (Str×NameKind)->List (Str×Addr)->List (Str×Addr)
 |[],cs=>cs
 |(n,k)::r,cs=>Ye env r (if(k == .free)=true then(n,(env.cells.lookup n).getD 0)::cs else cs)
theorem qa1(env:Env):∀(names:List (Str×NameKind)) (cs:List (Str×Addr)),(∀ y∈names,y.2=.free->∃ c,env.cells.lookup y.1=some c) ->
  (forIn names cs λ(y:Str×NameKind)(r:List (Str×Addr))=>if(y.2 == .free)=true then do let c<-cellOf env y.1;pure (ForInStep.yield ((y.1,c)::r)) else pure (ForInStep.yield r):Sem (List (Str×Addr)))=pure (Ye env names cs)
 |[],cs,_=>rfl
 |(n,k)::r,cs,h=>by
  have ih:=λcs'=>qa1 env r cs' λy hy=>h y (Xe _ hy);rw[xy];by_cases hk:(k == .free)=true
  ·obtain⟨c,e⟩:=h (n,k) Xh (by simpa using hk);have e':cellOf env n=pure c:=by unfold cellOf;rw[e]
   show(if(k == .free)=true then _ else _) >>= _=_;rw[if_pos hk];show(cellOf env n >>= λc=>_) >>= _=_;rw[e'];show(forIn r ((n,c)::cs) _:Sem _)=_;rw[ih];show _=pure (Ye env r (if(k == .free)=true then(n,(env.cells.lookup n).getD 0)::cs else cs));rw[if_pos hk,e];rfl
  ·show(if(k == .free)=true then _ else _) >>= _=_;rw[if_neg hk];show(forIn r cs _:Sem _)=_;rw[ih];show _=pure (Ye env r (if(k == .free)=true then(n,(env.cells.lookup n).getD 0)::cs else cs));rw[if_neg hk]
theorem zap{env:Env}{scope:Scope}(h:∀ y∈scope.names,y.2=.free->∃ c,env.cells.lookup y.1=some c):closureFor scope env=pure (Ye env scope.names []):=by
 have q:=qa1 env scope.names [] h;unfold closureFor;have e:∀(t:Sem (List (Str×Addr))),t=pure (Ye env scope.names [])->(t >>= λr=>pure r)=pure (Ye env scope.names []):=λt z=>by rw[z];rfl
 refine e _ (Eq.trans ?_ q)
 congr 1
end M3
end
section
namespace M3
open PySem
open Sem (wp)
section
variable {prog:Program} {w:World} {A:Around} {R:Result->Shared->Prop} {s:Shared}
noncomputable abbrev ycE(ifs:List Expr)(env:Env):Sem Bool:=forIn ifs true λc r=>if r=true then do let ok<-isTrue c env (eval c env);pure (ForInStep.yield ok) else pure (ForInStep.yield r)
theorem qbV{elt target iter:Expr}{ifs:List Expr}{scope:Scope}{pos:Pos}{it acc:Value}{env:Env}(I:Nat->Shared->Prop)
  (turn:∀ n s,I n s->wpAny (model prog w) A (pyNext it) (λr s1=>match r with
   |none=>R (.ok .next) s1
   |some v=>wpAny (model prog w) A (letOwnedTupleGo target it v) (λ_ s2=>wpAny (model prog w) A (assign target env v) (λ_ s3 =>
     wpAny (model prog w) A (ycE ifs env) (λok s4=>if ok=true then wpAny (model prog w) A (eval elt env) (λx s5 =>
       wpAny (model prog w) A (call (.builtin "list.append") [acc,x]) (λ_ s6=>∃ m,m<n/\I m s6) (λ_ _=>False) s5) (λ_ _=>False) s4
      else ∃ m,m<n/\I m s4) (λ_ _=>False) s3) (λ_ _=>False) s2) (λ_ _=>False) s1) (λ_ _=>False) s)
  (n:Nat) (h:I n s):codeAny (model prog w) A (.compLoop (.ListComp elt [⟨target,iter,ifs,0⟩] scope pos) 0 it acc env) R s:=by
 refine codeAny_loop rfl I (λn s hI=>?_) n h;show wpAny _ A ((compTurn (.ListComp elt [⟨target,iter,ifs,0⟩] scope pos) 0 it acc env).onRaise (λx=>do noteFrame x env;theTreesLotGoes x)) _ _ s;refine wpAny_noted ?_;rw[compTurn_list];refine wpAny_bind (wpAny_standAt (wpAny_bind (wpAny_mono (turn n s hI) (λr s1 h1=>?_) λ_ _ z=>z.elim)));cases r with
 |none=>exact wpAny_pure h1
 |some v =>
  refine wpAny_bind (wpAny_mono h1 (λ_ s2 h2=>?_) λ_ _ z=>z.elim);refine wpAny_bind (wpAny_mono h2 (λ_ s3 h3=>wpAny_bind (wpAny_mono h3 (λok s4 h4=>?_) λ_ _ z=>z.elim)) λ_ _ z=>z.elim);cases ok with
  |false=>exact wpAny_pure ⟨rfl,h4⟩
  |true =>
   refine wpAny_bind (wpAny_bind (wpAny_mono h4 (λx s5 h5=>?_) λ_ _ z=>z.elim));exact wpAny_bind (wpAny_mono h5 (λ_ s6 h6=>wpAny_pure (wpAny_pure ⟨rfl,h6⟩)) λ_ _ z=>z.elim)
end
noncomputable abbrev qt(C t:Addr)(tb:Value):Obj:={cls:=.ref C,data:=.fields #[.ref t,tb,.none,.none,.bool false,.none]}
inductive Tb (h:Heap) (x:Addr):Value->Prop where
 |no:Tb h x .none
 |at {T:Addr} {o:Obj} {ts:Array Value} (ne:T≠x) (ho:h.get? T=some o) (hd:o.data=.fields ts) (h3:ts[3]?=some .none):Tb h x (.ref T)
structure Noted (fs:List Addr) (x:Addr) (tb:Value) (h h':Heap):Prop where
 keep:∀ b o,b∉fs->b≠x->Value.ref b≠tb->h.get? b=some o->h'.get? b=some o
 slot:∀ b o,b∈fs->b≠x->Value.ref b≠tb->h.get? b=some o->∃ sl,h'.get? b=some {o with slots:=sl}
section
variable {M:Model} {A:Around} {E:Value->Shared->Prop} {s:Shared}
theorem YW{base:Heap}{env:Env}{outer:List Env}{L x C t:Addr}{head tb0:Value}{had:Bool}{Q:Unit->Shared->Prop}
  (hfr:A.frames=some (env::outer)) (hl:s.heap.FunFrames base (env::outer)) (hf:env.frame=some L) (he:s.heap.get? x=some (qt C t tb0))
  (h:∀ h' T,(∀ b o,b∉(env::outer).filterMap (·.frame)->b≠x->s.heap.get? b=some o->h'.get? b=some o) ->
   (∀ b o,b∈(env::outer).filterMap (·.frame)->s.heap.get? b=some o->∃ sl,h'.get? b=some {o with slots:=sl}) ->
   h'.get? x=some (qt C t (.ref T))->Tb h' x (.ref T)->s.heap.objs.size<=T->Q () {s with heap:=h'}) :
  wpAny M A (do let a<-frameOf env;let pl<-entryPlaceOf L had;let b<-EntryCells.newEntry head a .none (rawInt L) .none pl;setField (.ref x) 1 b) (λ_ s'=>wpAny M A (setFlight (.ref x) none) Q E s') E s:=by
 have hx:x∉(env::outer).filterMap (·.frame):=λhm=>by
  obtain⟨_,o,ho,nf⟩:=hl.mem hm;rw[he] at ho;cases ho;exact nf _ rfl
 refine wpAny_bind (wpAny_frameOf_fun hfr hl hf λh1 k1=>?_);refine wpAny_bind (wpAny_entryPlaceOf λpl hpl=>?_);unfold EntryCells.newEntry newFields;refine wpAny_bind (wpAny_newObj_type ?_ (hpl.sizeOk5 _ _ _ _ _));generalize hcells:([head,Value.ref L,Value.none,rawInt L,Value.none]++(if pl.isEmpty=true then we 6 Value.none else pl))=cells;have len:3<cells.length:=by rw[<- hcells];simp only[Vg,We,Vm];lia
 have e1:h1.get? x=some (qt C t tb0):=(k1.2.1 x hx).trans he;have e2:=wa {cls:=.type "traceback",dict:=none,data:=.fields cells.toArray} e1;have neT:x≠h1.objs.size:=Wc (Va e1);refine wpAny_setField e2 rfl (by simp) ?_;have e3:=xi (Obj.mapFields (·.setIfInBounds 1 (Value.ref h1.objs.size))) e2 (Obj.isFreed_of_fields (Obj.data_mapFields rfl _));have e4:((h1.push {cls:=.type "traceback",dict:=none,data:=.fields cells.toArray}).update x (Obj.mapFields (·.setIfInBounds 1 (Value.ref h1.objs.size)))).get? h1.objs.size=some {cls:=.type "traceback",dict:=none,data:=.fields cells.toArray} :=
  (uh _ _ neT).trans (Xb h1 rfl)
 unfold setFlight;refine wpAny_bind (wpAny_field e3 (vs:=#[.ref t,.ref h1.objs.size,.none,.none,.bool false,.none]) (x:=.ref h1.objs.size) rfl rfl ?_);rw[if_pos (show(Value.ref h1.objs.size != Value.none)=true from by simp)];refine wpAny_setField e4 rfl (by simpa using len) ?_;have e5:=xi (Obj.mapFields (·.setIfInBounds 3 ((none:Option Addr).elim Value.none λf=>rawInt f))) e4 (Obj.isFreed_of_fields (Obj.data_mapFields rfl _));have sz:h1.objs.size=s.heap.objs.size:=k1.1;have other:∀ b o,b≠x->h1.get? b=some o->(((h1.push {cls:=.type "traceback",dict:=none,data:=.fields cells.toArray}).update x (Obj.mapFields (·.setIfInBounds 1 (Value.ref h1.objs.size)))).update h1.objs.size (Obj.mapFields (·.setIfInBounds 3 ((none:Option Addr).elim Value.none λf=>rawInt f)))).get? b=some o:=λb o nb eb=>by
  rw[uh _ _ (xm (Va eb)),uh _ _ (Ne.symm nb)];exact wa _ eb
 refine h _ h1.objs.size (λb o hb nb eb=>other b o nb ((k1.2.1 b hb).trans eb)) (λb o hb eb=>?_) ?_ (.at (Ne.symm neT) e5 (Obj.data_mapFields rfl _) ?_) (vn sz.symm)
 ·obtain⟨sl,q⟩:=k1.2.2 b o eb;exact⟨sl,other b _ (λz=>hx (z ▸ hb)) q⟩
 ·rw[uh _ _ (Ne.symm neT)];exact e3
 ·simp[Array.getElem?_setIfInBounds,len]
theorem zbS{base:Heap}{env:Env}{outer:List Env}{L x C t:Addr}{tb:Value}{Q:Unit->Shared->Prop}
  (hfr:A.frames=some (env::outer)) (hl:s.heap.FunFrames base (env::outer)) (hf:env.frame=some L) (he:s.heap.get? x=some (qt C t tb)) (ht:Tb s.heap x tb)
  (h:∀ h' T,Noted ((env::outer).filterMap (·.frame)) x tb s.heap h'->h'.get? x=some (qt C t (.ref T))->Tb h' x (.ref T)->s.heap.objs.size<=T->Q () {s with heap:=h'}) :
  wpAny M A (leaving env (.ref x)) Q E s:=by
 unfold leaving noteFrame;simp only[hf];refine wpAny_bind (wpAny_bind (wpAny_field he rfl (x:=tb) rfl ?_));cases ht with
 |no =>
  rw[if_neg (by decide)];exact YW hfr hl hf he λh' T k1 k2 e1 e2 e3=>h h' T ⟨λb o hb nb _ eb=>k1 b o hb nb eb,λb o hb _ _ eb=>k2 b o hb eb⟩ e1 e2 e3
 |@«at» T o ts ne ho hd h3 =>
  rw[if_pos (show(Value.ref T != Value.none)=true from by simp)];refine wpAny_bind (wpAny_field ho hd h3 ?_);rw[if_neg (show ¬((Value.none==rawInt L)=true) from by simp[rawInt])];refine wpAny_bind (wpAny_setField ho hd (Uq.mp h3).1 ?_);have other:∀ b,b≠T->(s.heap.update T (Obj.mapFields (·.setIfInBounds 3 Value.none))).get? b=s.heap.get? b:=λb nb=>uh _ _ (Ne.symm nb);have nrec:∀ b o,s.heap.get? b=some o->(∀ vs,o.data≠.fields vs)->b≠T:=λb o eb nf z=>by
   rw[z,ho] at eb;cases eb;exact nf ts hd
  refine YW (s:={s with heap:=s.heap.update T (Obj.mapFields (·.setIfInBounds 3 Value.none))}) hfr (hl.of_keeps λb o eb nf=>⟨o,(other b (nrec b o eb nf)).trans eb,rfl⟩) hf ((other x (Ne.symm ne)).trans he)
   λh' T' k1 k2 e1 e2 e3=>h h' T' ⟨λb o hb nb nt eb=>k1 b o hb nb ((other b λz=>nt (z ▸ rfl)).trans eb),λb o hb _ nt eb=>k2 b o hb ((other b λz=>nt (z ▸ rfl)).trans eb)⟩ e1 e2 ?_
  have e3':(s.heap.update T (Obj.mapFields (·.setIfInBounds 3 Value.none))).objs.size<=T':=e3;rw[uy] at e3';exact e3'
end
end M3
end
section
namespace M3
open PySem
open Sem (wp)
theorem qa5:entryFor table "proto.unchain"=some Builtin.«proto.unchain»:=entryFor_of_fast (by kernel_rfl)
section
variable {prog:Program} {w:World} {A:Around} {E:Value->Shared->Prop} {s:Shared}
theorem qa6{α:Type}{e h:Addr}{oh oe:Obj}{vs es:Array Value}{Q:α->Shared->Prop}(hh:A.handled=some (.ref h))(ne:h≠e)(h1:s.heap.get? h=some oh)(h2:oh.data=.fields vs)(h3:vs[2]?=some .none)
  (e1:s.heap.get? e=some oe) (e2:oe.data=.fields es) (e3:2<es.size) (hE:E (.ref e) {s with heap:=s.heap.update e (Obj.mapFields (·.setIfInBounds 2 (.ref h)))}) :
  wpAny (model prog w) A (raiseNew (.ref e):Sem α) Q E s:=by
 unfold raiseNew;refine wpAny_bind (wpAny_handled ?_);rw[hh];have hne:(Value.ref h != Value.ref e)=true:=by
  simp only[bne_iff_ne,ne_eq,Value.ref.injEq];exact ne
 show wpAny _ _ (if(Value.ref h != Value.ref e)=true then _ else _) _ _ s;rw[if_pos hne];refine wpAny_bind ((wpAny_holding (wpAny_runValue (codeAny_builtin qa5 ?_))));show wpAny _ _ (field (.ref h) 2 >>= _) _ _ s;refine wpAny_bind (wpAny_field h1 h2 h3 ?_);show wpAny _ _ (if(Value.none==Value.none)=true then _ else _) _ _ s;rw[if_pos (by decide)];refine wpAny_bind (wpAny_pure (wpAny_pure ?_));refine wpAny_bind ?_;show wpAny _ _ (setField (.ref e) 2 (.ref h)) _ _ s;refine wpAny_setField e1 e2 e3 ?_;exact wpAny_throw hE
theorem QaX{r h:Addr}{a m k:Int}{oh:Obj}{vs:Array Value}{Q:Option Value->Shared->Prop}(hh:A.handled=some (.ref h))(h1:s.heap.get? h=some oh)(h2:oh.data=.fields vs)(h3:vs[2]?=some .none)
  (ri:IsRangeIter s.heap r a m k) (lo:m<=0) (hQ:∀ h',(∀ b o,s.heap.get? b=some o->h'.get? b=some o)->Q none {s with heap:=h'}):wpAny (model prog w) A (pyNext (.ref r)) Q E s:=by
 have ty:s.TypeIs (.ref r) "range_iterator":=⟨_,ri,rfl⟩;have n1:h≠(s.heap.push {cls:=.type "tuple",data:=.seq ([]:List Value).toArray}).objs.size:=by rw[xh];exact Wc (Up (Va h1))
 have q0:∀(i:Nat)(v:Value)(B:Around)(F:Value->Shared->Prop)(P:Value->Shared->Prop),#[rawInt a,rawInt m,rawInt k][i]?=some v->P v s->wpAny (model prog w) B (field (.ref r) i) P F s:=λi v B F P e p=>wpAny_field ri rfl e p;unfold pyNext;apply wpAny_bind;apply wpAny_attempt;apply wpAny_callSpecial?_slot (name:=Str.ofString "__next__") ty F.slot_range_iterator_next;refine wpAny_call_entry F.slot_range_iterator_next ty F.entry_range_iterator_next ?_ (F.args_range_iterator_next_1 _);show wpAny _ _ (field (.ref r) 0 >>= _) _ _ s;apply wpAny_bind;apply q0 0 (rawInt a) _ _ _ rfl;show wpAny _ _ (field (.ref r) 1 >>= _) _ _ s;apply wpAny_bind;apply q0 1 (rawInt m) _ _ _ rfl;show wpAny _ _ (field (.ref r) 2 >>= _) _ _ s;apply wpAny_bind;apply q0 2 (rawInt k) _ _ _ rfl;show wpAny _ _ (if m<=0 then _ else _) _ _ s;rw[if_pos lo];apply wpAny_bind;apply wpAny_rule;apply wpAny_bind;show wpAny _ _ (newExc (.type "StopIteration") [] >>= _) _ _ _;apply wpAny_bind;simp only[newExc,newTuple];apply wpAny_bind;refine wpAny_newObj_type ?_ (by size_fits);refine wpAny_bind (m:=firstArgMember _ _) (wpAny_of_eq (a:=Value.none) (by first|rfl|(unfold firstArgMember;rfl)) (wpAny_newObj_type ?_ (by size_fits)));refine qa6 (by first|exact hh|(show A.in1.handled=_;exact hh)) n1 (wa _ (wa _ h1)) h2 h3 (Xb _ rfl) rfl (by simp;lia) ?_;apply wpAny_bind;refine wpAny_isInstance (T:="StopIteration") (b:=true) ⟨_,xi _ (Xb _ rfl) (Obj.isFreed_of_fields (Obj.data_mapFields rfl _)),rfl⟩ isSubtype_stop (wpAny_pure (hQ _ λb o eb=>?_));have lt:b<(s.heap.push {cls:=.type "tuple",data:=.seq ([]:List Value).toArray}).objs.size:=by rw[xh];exact Up (Va eb)
 exact(uh _ _ (xm lt)).trans (wa _ (wa _ eb))
end
end M3
end
section
namespace M3
open PySem
open Sem (wp)
section
variable {prog:Program} {w:World} {A:Around} {E:Value->Shared->Prop} {s:Shared}
theorem Qas{r l:Addr}{i:Nat}{items:Array Value}{x:Value}{Q:Value->Shared->Prop}(ri:s.heap.IsTupleIter r l i)(hl:s.heap.IsTuple l items)(hx:items[i]?=some x)
  (hQ:∀ h',h'.IsTupleIter r l (i+1)->Heap.SameBut r s.heap h'->Q x {s with heap:=h'}):wpAny (model prog w) A (Builtin.SmallTypes.nextOf (.ref r)) Q E s:=by
 obtain⟨o,ho,hc,hd⟩:=id ri;obtain⟨ol,hol,_,nl,hdl⟩:=hl;unfold Builtin.SmallTypes.nextOf;apply wpAny_bind;refine wpAny_callSpecial?_slot (name:=Str.ofString "__next__") ri.typeIs F.slot_tuple_iterator_next (wpAny_call_entry F.slot_tuple_iterator_next ri.typeIs F.entry_tuple_iterator_next ?_ (F.args_tuple_iterator_next_1 _));show wpAny _ _ (field (.ref r) 0 >>= _) _ _ s;apply wpAny_bind;apply wpAny_field ho hd (x:=.ref l) rfl;show wpAny _ _ (if(Value.ref l==Value.none)=true then _ else _) _ _ s;rw[if_neg (λz:(Value.ref l==Value.none)=true=>absurd z Vc)];show wpAny _ _ (field (.ref r) 1 >>= _) _ _ s;apply wpAny_bind;apply wpAny_field ho hd (x:=.int i 0) rfl;show wpAny _ _ (seqItems? (.ref l) >>= _) _ _ s;apply wpAny_bind;apply wpAny_seqItems hol hdl;simp only[Wx,hx];apply wpAny_bind;refine wpAny_setField ho hd (by simp) (wpAny_pure ⟨x,rfl,wpAny_pure (hQ _ ⟨_,xi _ ho (Obj.isFreed_of_fields (Obj.data_mapFields hd _)),(Obj.cls_mapFields ..).trans hc,?_⟩ (Heap.SameBut.update ..))⟩);rw[Obj.data_mapFields hd];simp[rawInt]
theorem ZaG{r l:Addr}{i:Nat}{items:Array Value}{Q:Value->Shared->Prop}(hh:A.handled=none)(ri:s.heap.IsTupleIter r l i)(hl:s.heap.IsTuple l items)(hx:items[i]?=none)
  (hE:∀ h' e,Heap.ExtBut r s.heap h'->(∃ o,h'.get? e=some o/\o.cls=.type "StopIteration")->E (.ref e) {s with heap:=h'}):wpAny (model prog w) A (Builtin.SmallTypes.nextOf (.ref r)) Q E s:=by
 obtain⟨o,ho,hc,hd⟩:=id ri;obtain⟨ol,hol,_,nl,hdl⟩:=hl;unfold Builtin.SmallTypes.nextOf;apply wpAny_bind;refine wpAny_callSpecial?_slot (name:=Str.ofString "__next__") ri.typeIs F.slot_tuple_iterator_next (wpAny_call_entry F.slot_tuple_iterator_next ri.typeIs F.entry_tuple_iterator_next ?_ (F.args_tuple_iterator_next_1 _));show wpAny _ _ (field (.ref r) 0 >>= _) _ _ s;apply wpAny_bind;apply wpAny_field ho hd (x:=.ref l) rfl;show wpAny _ _ (if(Value.ref l==Value.none)=true then _ else _) _ _ s;rw[if_neg (λz:(Value.ref l==Value.none)=true=>absurd z Vc)];show wpAny _ _ (field (.ref r) 1 >>= _) _ _ s;apply wpAny_bind;apply wpAny_field ho hd (x:=.int i 0) rfl;show wpAny _ _ (seqItems? (.ref l) >>= _) _ _ s;apply wpAny_bind;apply wpAny_seqItems hol hdl;simp only[Wx,hx];apply wpAny_bind;apply wpAny_rule;apply wpAny_bind;refine wpAny_setField ho hd (by simp) ?_;show wpAny _ _ (newExc (.type "StopIteration") [] >>= _) _ _ _;apply wpAny_bind;simp only[newExc,newTuple];apply wpAny_bind;refine wpAny_newObj_type ?_ (by size_fits);refine wpAny_bind (m:=firstArgMember _ _) (wpAny_of_eq (a:=Value.none) (by first|rfl|(unfold firstArgMember;rfl)) (wpAny_newObj_type ?_ (by size_fits)));refine wpAny_raiseNew_none (by first|exact hh|(show A.in1.handled=_;exact hh)) (hE _ _ ((((Heap.SameBut.update ..).extBut).push _).push _) ⟨_,Xb _ rfl,rfl⟩)
theorem zbG(hh:A.handled=none)(r l:Addr)(hne:l≠r)(items:Array Value) :
  Draws prog w A r [r,l] items.size (λi v=>items[i]?=some v) (λi h=>h.IsTupleIter r l i/\h.IsTuple l items) where
 live:=λ_ _ st=>let ⟨o,ho,_⟩:=st.1;⟨o,ho⟩
 frame:=λ_ _ _ st hk=>let ⟨⟨o,e,c⟩,⟨u,f,d⟩⟩:=st;⟨⟨o,hk r (by simp) o e,c⟩,⟨u,hk l (by simp) u f,d⟩⟩
 item:=λi s Q E hi st hQ=>Qas st.1 st.2 (x:=items[i]) (by simp[hi]) λh' a b=>hQ _ h' s.toks (by simp[hi]) ⟨a,let ⟨u,f,d⟩:=st.2;⟨u,b.extBut l u hne f,d⟩⟩ b
 done:=λs Q E st hE=>ZaG hh st.1 st.2 (by simp) hE
structure ZAp (z TI TO i1 i2:Addr) (fp1 fp2:List Addr):Prop where
 tiz:TI≠z
 toz:TO≠z
 tito:TI≠TO
 ti1:TI≠i1
 ti2:TI≠i2
 z1:z∉fp1
 z2:z∉fp2
 t1:TO∉fp1
 t2:TO∉fp2
 m1:i1∈fp1
 m2:i2∈fp2
 a1:i1∉fp2
 a2:i2∉fp1
variable {z TI TO i1 i2:Addr} {fp1 fp2:List Addr} {n1 n2 k:Nat} {P1 P2:Nat->Value->Prop} {S1 S2:Nat->Heap->Prop} {a b:Value}
theorem ybZ{Q:Value->Shared->Prop}(Z:ZAp z TI TO i1 i2 fp1 fp2)(D1:Draws prog w A i1 fp1 n1 P1 S1)(D2:Draws prog w A i2 fp2 n2 P2 S2)(hz:IsZip s.heap z TI TO .none)(hI:IsPair s.heap TI (.ref i1) (.ref i2))(hO:IsPair s.heap TO a b)
  (s1:S1 k s.heap) (s2:S2 k s.heap) (k1:k<n1) (k2:k<n2)
  (hQ:∀ x y h' tk,P1 k x->P2 k y->IsZip h' z TI TO (rawInt s.heap.objs.size)->IsPair h' TO x y->S1 (k+1) h'->S2 (k+1) h'->IsPair h' s.heap.objs.size x y->h'.objs.size=s.heap.objs.size+1 ->
   (∀ c o,c≠z->c≠TO->c≠i1->c≠i2->s.heap.get? c=some o->h'.get? c=some o)->Q (.ref s.heap.objs.size) {s with heap:=h',toks:=tk}) :
  wpAny (model prog w) A (Builtin.«zip.__next__» ⟨[.ref z],[]⟩) (λfin s'=>∃ v,fin=.done (.ret v)/\Q v s') E s:=by
 have iz1:i1≠z:=λe=>Z.z1 (e ▸ Z.m1);have iz2:i2≠z:=λe=>Z.z2 (e ▸ Z.m2);have it1:i1≠TO:=λe=>Z.t1 (e ▸ Z.m1);have it2:i2≠TO:=λe=>Z.t2 (e ▸ Z.m2);have i12:i1≠i2:=λe=>Z.a1 (e ▸ Z.m2);show wpAny _ _ (field (.ref z) 2 >>= _) _ _ _;apply wpAny_bind;apply wpAny_field hz rfl (x:=.bool false) rfl;show wpAny _ _ (field (.ref z) 3 >>= _) _ _ _;apply wpAny_bind;apply wpAny_field hz rfl (x:=.ref TI) rfl;apply wpAny_bind;apply wpAny_seqItems hI rfl;show wpAny _ _ (Builtin.SmallTypes.ownedTupleIsFree (.ref z) >>= _) _ _ _;apply wpAny_bind;unfold Builtin.SmallTypes.ownedTupleIsFree;apply wpAny_bind;apply wpAny_field hz rfl (x:=.none) rfl;apply wpAny_pure;simp only[if_true];apply wpAny_bind;apply wpAny_rule;apply wpAny_bind;apply wpAny_field hz rfl (x:=.ref TO) rfl;apply wpAny_bind;refine wpAny_setField_rec hz (by simp) λh1 y1 g1=>?_;replace y1:IsZip h1 z TI TO .ellipsis:=y1;apply wpAny_bind;simp only[wD,List.zipIdx_nil,xy,wz];apply wpAny_bind;apply wpAny_bind;apply wpAny_onRaise;show wpAny _ _ (Builtin.SmallTypes.nextOf (.ref i1) >>= _) _ _ _;apply wpAny_bind;refine D1.item k _ _ _ k1 (D1.frame _ _ _ s1 λc hc o e=>g1.extBut c o (λq=>Z.z1 (q ▸ hc)) e) λx h2 t2 px q2 g2=>wpAny_pure ?_;have o2:IsPair h2 TO a b:=g2.extBut _ _ (Ne.symm it1) (g1.extBut _ _ Z.toz hO);apply wpAny_bind;apply wpAny_seqItems o2 rfl;apply wpAny_bind;refine wpAny_updateSeq_pair o2 λh3 o3 g3=>wpAny_bind (wpAny_letGo (wpAny_pure ?_));replace o3:IsPair h3 TO x b:=o3;apply wpAny_bind;apply wpAny_bind;apply wpAny_onRaise;show wpAny _ _ (Builtin.SmallTypes.nextOf (.ref i2) >>= _) _ _ _;apply wpAny_bind;refine D2.item k _ _ _ k2 (D2.frame _ _ _ s2 λc hc o e=>g3.extBut c o (λq=>Z.t2 (q ▸ hc)) (g2.extBut c o (λq=>Z.a1 (q ▸ hc)) (g1.extBut c o (λq=>Z.z2 (q ▸ hc)) e))) λy h4 t4 py q4 g4=>wpAny_pure ?_;have o4:IsPair h4 TO x b:=g4.extBut _ _ (Ne.symm it2) o3;apply wpAny_bind;apply wpAny_seqItems o4 rfl;apply wpAny_bind;refine wpAny_updateSeq_pair o4 λh5 o5 g5=>wpAny_bind (wpAny_letGo (wpAny_pure (wpAny_pure ?_)));replace o5:IsPair h5 TO x y:=o5;apply wpAny_bind;apply wpAny_seqItems o5 rfl;apply wpAny_bind;refine wpAny_newTuple ?_;have sz:h5.objs.size=s.heap.objs.size:=by rw[g5.1,g4.1,g3.1,g2.1,g1.1]
 have y5:IsZip h5 z TI TO .ellipsis:=g5.extBut _ _ (Ne.symm Z.toz) (g4.extBut _ _ (Ne.symm iz2) (g3.extBut _ _ (Ne.symm Z.toz) (g2.extBut _ _ (Ne.symm iz1) y1)));have c5:∀ c o,c≠z->c≠TO->c≠i1->c≠i2->s.heap.get? c=some o->h5.get? c=some o:=λc o c1 c2 c3 c4 e=>g5.extBut _ _ c2 (g4.extBut _ _ c4 (g3.extBut _ _ c2 (g2.extBut _ _ c3 (g1.extBut _ _ c1 e))));have r1:S1 (k+1) h5:=D1.frame _ _ _ q2 λc hc o e=>g5.extBut c o (λq=>Z.t1 (q ▸ hc)) (g4.extBut c o (λq=>Z.a2 (q ▸ hc)) (g3.extBut c o (λq=>Z.t1 (q ▸ hc)) e));have r2:S2 (k+1) h5:=D2.frame _ _ _ q4 λc hc o e=>g5.extBut c o (λq=>Z.t2 (q ▸ hc)) e;have lz:z<h5.objs.size:=Va y5;show wpAny _ _ (Builtin.SmallTypes.ownedTupleHandOut (.ref z) (.ref h5.objs.size) >>= _) _ _ _;apply wpAny_bind;unfold Builtin.SmallTypes.ownedTupleHandOut;have y6:IsZip (h5.push {cls:=.type "tuple",data:=.seq #[x,y]}) z TI TO .ellipsis:=wa _ y5;apply wpAny_bind;refine wpAny_setField_rec y6 (by simp) λh7 y7 g7=>?_;replace y7:IsZip h7 z TI TO (rawInt h5.objs.size):=y7;refine wpAny_setField_rec y7 (by simp) λh8 y8 g8=>?_;replace y8:IsZip h8 z TI TO (rawInt h5.objs.size):=y8;have up:∀ c o,c≠z->h5.get? c=some o->h8.get? c=some o:=λc o c1 e=>g8.extBut _ _ c1 (g7.extBut _ _ c1 (wa _ e));have p8:IsPair h8 h5.objs.size x y:=g8.extBut _ _ (xm lz) (g7.extBut _ _ (xm lz) (Xb _ rfl));have n8:h8.objs.size=h5.objs.size+1:=by rw[g8.1,g7.1,xh]
 rw[sz] at y8 p8 n8;refine wpAny_pure ⟨_,rfl,?_⟩;show Q (.ref h5.objs.size) _;rw[sz];exact hQ x y h8 t4 px py y8 (up _ _ Z.toz o5) (D1.frame _ _ _ r1 λc hc o e=>up c o (λq=>Z.z1 (q ▸ hc)) e) (D2.frame _ _ _ r2 λc hc o e=>up c o (λq=>Z.z2 (q ▸ hc)) e) p8 n8 λc o c1 c2 c3 c4 e=>up c o c1 (c5 c o c1 c2 c3 c4 e)
theorem yb7{Q:Fin->Shared->Prop}(Z:ZAp z TI TO i1 i2 fp1 fp2)(D1:Draws prog w A i1 fp1 n1 P1 S1)(D2:Draws prog w A i2 fp2 n2 P2 S2)(hz:IsZip s.heap z TI TO .none)(hI:IsPair s.heap TI (.ref i1) (.ref i2))(hO:IsPair s.heap TO a b)
  (s1:S1 k s.heap) (s2:S2 k s.heap) (hk:k=n1\/(k<n1/\k=n2))
  (hE:∀ h' e,(∀ c o,c≠z->c≠TO->c≠i1->c≠i2->s.heap.get? c=some o->h'.get? c=some o)->(∃ o,h'.get? e=some o/\o.cls=.type "StopIteration")->∀ tk,E (.ref e) {s with heap:=h',toks:=tk}) :
  wpAny (model prog w) A (Builtin.«zip.__next__» ⟨[.ref z],[]⟩) Q E s:=by
 have iz1:i1≠z:=λe=>Z.z1 (e ▸ Z.m1);have iz2:i2≠z:=λe=>Z.z2 (e ▸ Z.m2);have it1:i1≠TO:=λe=>Z.t1 (e ▸ Z.m1);have it2:i2≠TO:=λe=>Z.t2 (e ▸ Z.m2);show wpAny _ _ (field (.ref z) 2 >>= _) _ _ _;apply wpAny_bind;apply wpAny_field hz rfl (x:=.bool false) rfl;show wpAny _ _ (field (.ref z) 3 >>= _) _ _ _;apply wpAny_bind;apply wpAny_field hz rfl (x:=.ref TI) rfl;apply wpAny_bind;apply wpAny_seqItems hI rfl;show wpAny _ _ (Builtin.SmallTypes.ownedTupleIsFree (.ref z) >>= _) _ _ _;apply wpAny_bind;unfold Builtin.SmallTypes.ownedTupleIsFree;apply wpAny_bind;apply wpAny_field hz rfl (x:=.none) rfl;apply wpAny_pure;simp only[if_true];apply wpAny_bind;apply wpAny_rule;apply wpAny_bind;apply wpAny_field hz rfl (x:=.ref TO) rfl;apply wpAny_bind;refine wpAny_setField_rec hz (by simp) λh1 y1 g1=>?_;replace y1:IsZip h1 z TI TO .ellipsis:=y1;apply wpAny_bind;simp only[wD,List.zipIdx_nil,xy,wz];apply wpAny_bind;apply wpAny_bind;apply wpAny_onRaise;show wpAny _ _ (Builtin.SmallTypes.nextOf (.ref i1) >>= _) _ _ _;apply wpAny_bind;have f1:S1 k h1:=D1.frame _ _ _ s1 λc hc o e=>g1.extBut c o (λq=>Z.z1 (q ▸ hc)) e
 rcases hk with hk|⟨k1,hk⟩
 ·refine D1.done _ _ _ (hk ▸ f1) λh2 e g2 he=>?_;obtain⟨oe,e1,e2⟩:=he;have y2:IsZip h2 z TI TO .ellipsis:=g2 _ _ (Ne.symm iz1) y1;have ez:e≠z:=λq=>by subst q;rw[y2] at e1;cases e1;simp at e2
  exact wpAny_setField_rec y2 (by simp) λh3 _ g3=>hE h3 e (λc o c1 _ c3 _ q=>g3.extBut _ _ c1 (g2 _ _ c3 (g1.extBut _ _ c1 q))) ⟨oe,g3.extBut _ _ ez e1,e2⟩ _
 ·refine D1.item k _ _ _ k1 f1 λx h2 t2 px q2 g2=>wpAny_pure ?_;have o2:IsPair h2 TO a b:=g2.extBut _ _ (Ne.symm it1) (g1.extBut _ _ Z.toz hO);apply wpAny_bind;apply wpAny_seqItems o2 rfl;apply wpAny_bind;refine wpAny_updateSeq_pair o2 λh3 o3 g3=>wpAny_bind (wpAny_letGo (wpAny_pure ?_));apply wpAny_bind;apply wpAny_bind;apply wpAny_onRaise;show wpAny _ _ (Builtin.SmallTypes.nextOf (.ref i2) >>= _) _ _ _;apply wpAny_bind;have f2:S2 k h3:=D2.frame _ _ _ s2 λc hc o e=>g3.extBut c o (λq=>Z.t2 (q ▸ hc)) (g2.extBut c o (λq=>Z.a1 (q ▸ hc)) (g1.extBut c o (λq=>Z.z2 (q ▸ hc)) e));refine D2.done _ _ _ (hk ▸ f2) λh4 e g4 he=>?_;obtain⟨oe,e1,e2⟩:=he;have y4:IsZip h4 z TI TO .ellipsis:=g4 _ _ (Ne.symm iz2) (g3.extBut _ _ (Ne.symm Z.toz) (g2.extBut _ _ (Ne.symm iz1) y1));have ez:e≠z:=λq=>by subst q;rw[y4] at e1;cases e1;simp at e2
  exact wpAny_setField_rec y4 (by simp) λh5 _ g5=>hE h5 e (λc o c1 c2 c3 c4 q=>g5.extBut _ _ c1 (g4 _ _ c4 (g3.extBut _ _ c2 (g2.extBut _ _ c3 (g1.extBut _ _ c1 q))))) ⟨oe,g5.extBut _ _ ez e1,e2⟩ _
end
end M3
end
section
namespace M3
open PySem
open Sem (wp)
noncomputable def SeqIs(h:Heap)(tup:Bool)(l:Addr)(xs:Array Value):Prop:=if tup=true then h.IsTuple l xs else h.IsList l xs
noncomputable def SeqIt(h:Heap)(tup:Bool)(r l:Addr)(k:Nat):Prop:=if tup=true then h.IsTupleIter r l k else h.IsListIter r l k
noncomputable abbrev itO(tup:Bool)(l:Addr):Obj:={cls:=.type (if tup=true then "tuple_iterator" else "list_iterator"),data:=.fields #[.ref l,.int 0 0]}
theorem SeqIs.keeps{h h':Heap}{tup:Bool}{l:Addr}{xs:Array Value}(x:SeqIs h tup l xs)(k:∀ o,h.get? l=some o->h'.get? l=some o):SeqIs h' tup l xs:=by
 cases tup with
 |true=>obtain⟨o,e,c⟩:=(show h.IsTuple l xs from x);exact(show h'.IsTuple l xs from⟨o,k o e,c⟩)
 |false=>exact(show h'.IsList l xs from Heap.IsList.at (show h.IsList l xs from x) k)
theorem SeqIs.lt{h:Heap}{tup:Bool}{l:Addr}{xs:Array Value}(x:SeqIs h tup l xs):l<h.objs.size:=by
 cases tup with
 |true=>obtain⟨o,e,c⟩:=(show h.IsTuple l xs from x);exact Va e
 |false=>obtain⟨o,e,c⟩:=(show h.IsList l xs from x);exact Va e
theorem SeqIt.keeps{h h':Heap}{tup:Bool}{r l:Addr}{k:Nat}(x:SeqIt h tup r l k)(q:∀ o,h.get? r=some o->h'.get? r=some o):SeqIt h' tup r l k:=by
 cases tup with
 |true=>obtain⟨o,e,c⟩:=(show h.IsTupleIter r l k from x);exact(show h'.IsTupleIter r l k from⟨o,q o e,c⟩)
 |false=>obtain⟨o,e,c⟩:=(show h.IsListIter r l k from x);exact(show h'.IsListIter r l k from⟨o,q o e,c⟩)
theorem SeqIt.new{h:Heap}{tup:Bool}{r l:Addr}(e:h.get? r=some (itO tup l)):SeqIt h tup r l 0:=by
 cases tup with
 |true=>exact(show h.IsTupleIter r l 0 from⟨_,e,rfl,rfl⟩)
 |false=>exact(show h.IsListIter r l 0 from⟨_,e,rfl,rfl⟩)
theorem SeqIt.obj{h:Heap}{tup:Bool}{r l:Addr}{k:Nat}(x:SeqIt h tup r l k):∃ o,h.get? r=some o/\∀ v,o.data≠.cell v:=by
 cases tup with
 |true=>obtain⟨o,e,c,d⟩:=(show h.IsTupleIter r l k from x);exact⟨o,e,λv z=>by rw[d] at z;cases z⟩
 |false=>obtain⟨o,e,c,d⟩:=(show h.IsListIter r l k from x);exact⟨o,e,λv z=>by rw[d] at z;cases z⟩
section
variable {prog:Program} {w:World} {A:Around} {E:Value->Shared->Prop} {s:Shared}
theorem Qal{tup:Bool}{l:Addr}{xs:Array Value}{Q:Value->Shared->Prop}(x:SeqIs s.heap tup l xs)(h:Q (.ref s.heap.objs.size) {s with heap:=s.heap.push (itO tup l)}):wpAny (model prog w) A (pyIter (.ref l)) Q E s:=by
 cases tup with
 |true=>exact wpAny_pyIter_tuple (show s.heap.IsTuple l xs from x) h
 |false=>exact wpAny_pyIter_list (show s.heap.IsList l xs from x) h
theorem Yaz(hh:A.handled=none)(tup:Bool)(r l:Addr)(hne:l≠r)(items:Array Value) :
  Draws prog w A r [r,l] items.size (λi v=>items[i]?=some v) (λi h=>SeqIt h tup r l i/\SeqIs h tup l items):=by
 cases tup with
 |true=>exact zbG hh r l hne items
 |false=>exact Draws.list hh r l hne items
end
theorem zb2(b1 b2:Bool)(l1 l2:Addr)(xs ys:Array Value) :
  Meets (Builtin.«zip.__new__» ⟨[.type "zip",.ref l1,.ref l2],[]⟩) (λ_ R s=>SeqIs s.heap b1 l1 xs/\SeqIs s.heap b2 l2 ys /\
   ∀ h5,h5=((((s.heap.push (itO b1 l1)).push (itO b2 l2)).push {cls:=.type "tuple",data:=.seq #[.ref s.heap.objs.size,.ref (s.heap.push (itO b1 l1)).objs.size]}).push {cls:=.type "tuple",data:=.seq #[.none,.none]}).push
    {cls:=.type "zip",data:=.fields #[.none,.bool false,.bool false,.ref ((s.heap.push (itO b1 l1)).push (itO b2 l2)).objs.size,.ref (((s.heap.push (itO b1 l1)).push (itO b2 l2)).push {cls:=.type "tuple",data:=.seq #[.ref s.heap.objs.size,.ref (s.heap.push (itO b1 l1)).objs.size]}).objs.size]} ->
   R (.ok (.ret (.ref ((((s.heap.push (itO b1 l1)).push (itO b2 l2)).push {cls:=.type "tuple",data:=.seq #[.ref s.heap.objs.size,.ref (s.heap.push (itO b1 l1)).objs.size]}).push {cls:=.type "tuple",data:=.seq #[.none,.none]}).objs.size))) {s with heap:=h5}) :=
 .of_wp λprog w A R s h=>by
  obtain⟨hp,g,d,tk,os⟩:=s;obtain⟨x1,x2,h⟩:=h;have hsub:=sub_zip;have y1:SeqIs (Shared.heap ⟨hp,g,d,tk,os⟩) b1 l1 xs:=x1;have y2:SeqIs (Shared.heap ⟨hp.push (itO b1 l1),g,d,tk,os⟩) b2 l2 ys:=SeqIs.keeps x2 λo e=>wa _ e
  wp_walk using Qal y1,Qal y2
  exact⟨_,rfl,h _ rfl⟩
section
variable {prog:Program} {w:World} {A:Around} {E:Value->Shared->Prop} {s:Shared}
theorem qb6{b1 b2:Bool}{l1 l2:Addr}{xs ys:Array Value}{Q:Value->Shared->Prop}(x1:SeqIs s.heap b1 l1 xs)(x2:SeqIs s.heap b2 l2 ys)
  (h:∀ h',IsZip h' (s.heap.objs.size+4) (s.heap.objs.size+2) (s.heap.objs.size+3) .none->IsPair h' (s.heap.objs.size+2) (.ref s.heap.objs.size) (.ref (s.heap.objs.size+1))->IsPair h' (s.heap.objs.size+3) .none .none ->
   SeqIt h' b1 s.heap.objs.size l1 0->SeqIt h' b2 (s.heap.objs.size+1) l2 0->(∀ c o,s.heap.get? c=some o->h'.get? c=some o)->Q (.ref (s.heap.objs.size+4)) {s with heap:=h'}) :
  wpAny (model prog w) A (call (.type "zip") [.ref l1,.ref l2]) Q E s:=by
 refine callType_new F.called_zip (by decide) (F.typeCall_zip_2 _ _) (F.newCall_zip_2 _ _) (λobj=>F.args_object_init_3 obj _ _) F.entry_zip_new (zb2 b1 b2 l1 l2 xs ys) ⟨x1,x2,λh5 e5=>?_⟩;have n1:(s.heap.push (itO b1 l1)).objs.size=s.heap.objs.size+1:=xh ..;have n2:((s.heap.push (itO b1 l1)).push (itO b2 l2)).objs.size=s.heap.objs.size+2:=by rw[xh,n1]
 have n3:(((s.heap.push (itO b1 l1)).push (itO b2 l2)).push {cls:=.type "tuple",data:=.seq #[.ref s.heap.objs.size,.ref (s.heap.push (itO b1 l1)).objs.size]}).objs.size=s.heap.objs.size+3:=by rw[xh,n2]
 have n4:((((s.heap.push (itO b1 l1)).push (itO b2 l2)).push {cls:=.type "tuple",data:=.seq #[.ref s.heap.objs.size,.ref (s.heap.push (itO b1 l1)).objs.size]}).push {cls:=.type "tuple",data:=.seq #[.none,.none]}).objs.size=s.heap.objs.size+4:=by rw[xh,n3]
 have q5:IsZip h5 ((((s.heap.push (itO b1 l1)).push (itO b2 l2)).push {cls:=.type "tuple",data:=.seq #[.ref s.heap.objs.size,.ref (s.heap.push (itO b1 l1)).objs.size]}).push {cls:=.type "tuple",data:=.seq #[.none,.none]}).objs.size ((s.heap.push (itO b1 l1)).push (itO b2 l2)).objs.size (((s.heap.push (itO b1 l1)).push (itO b2 l2)).push {cls:=.type "tuple",data:=.seq #[.ref s.heap.objs.size,.ref (s.heap.push (itO b1 l1)).objs.size]}).objs.size .none:=by rw[e5];exact Xb _ rfl
 have q4:IsPair h5 (((s.heap.push (itO b1 l1)).push (itO b2 l2)).push {cls:=.type "tuple",data:=.seq #[.ref s.heap.objs.size,.ref (s.heap.push (itO b1 l1)).objs.size]}).objs.size .none .none:=by rw[e5];exact wa _ (Xb _ rfl)
 have q3:IsPair h5 ((s.heap.push (itO b1 l1)).push (itO b2 l2)).objs.size (.ref s.heap.objs.size) (.ref (s.heap.push (itO b1 l1)).objs.size):=by rw[e5];exact wa _ (wa _ (Xb _ rfl))
 have q2:h5.get? (s.heap.push (itO b1 l1)).objs.size=some (itO b2 l2):=by rw[e5];exact wa _ (wa _ (wa _ (Xb _ rfl)))
 have q1:h5.get? s.heap.objs.size=some (itO b1 l1):=by rw[e5];exact wa _ (wa _ (wa _ (wa _ (Xb _ rfl))))
 show _/\_;rw[n2,n3,n4] at q5;rw[n2,n1] at q3;rw[n3] at q4;rw[n1] at q2;rw[n4];exact⟨⟨_,q5,rfl⟩,h _ q5 q3 q4 (.new q1) (.new q2) λc o e=>by rw[e5];exact wa _ (wa _ (wa _ (wa _ (wa _ e))))⟩
variable {z TI TO i1 i2:Addr} {fp1 fp2:List Addr} {n1 n2 k:Nat} {P1 P2:Nat->Value->Prop} {S1 S2:Nat->Heap->Prop} {a b:Value}
theorem zaN{Q:Option Value->Shared->Prop}(Z:ZAp z TI TO i1 i2 fp1 fp2)(D1:Draws prog w A.in1 i1 fp1 n1 P1 S1)(D2:Draws prog w A.in1 i2 fp2 n2 P2 S2)(hz:IsZip s.heap z TI TO .none)(hI:IsPair s.heap TI (.ref i1) (.ref i2))(hO:IsPair s.heap TO a b)
  (s1:S1 k s.heap) (s2:S2 k s.heap) (k1:k<n1) (k2:k<n2)
  (hQ:∀ x y h' tk,P1 k x->P2 k y->IsZip h' z TI TO (rawInt s.heap.objs.size)->IsPair h' TO x y->S1 (k+1) h'->S2 (k+1) h'->IsPair h' s.heap.objs.size x y->h'.objs.size=s.heap.objs.size+1 ->
   (∀ c o,c≠z->c≠TO->c≠i1->c≠i2->s.heap.get? c=some o->h'.get? c=some o)->Q (some (.ref s.heap.objs.size)) {s with heap:=h',toks:=tk}) :
  wpAny (model prog w) A (pyNext (.ref z)) Q E s:=by
 have ty:s.TypeIs (.ref z) "zip":=⟨_,hz,rfl⟩;unfold pyNext;refine wpAny_bind (wpAny_attempt (wpAny_callSpecial?_slot (name:=Str.ofString "__next__") ty F.slot_zip_next (wpAny_call_entry F.slot_zip_next ty F.entry_zip_next ?_ (F.args_zip_next_1 _))));exact ybZ Z D1 D2 hz hI hO s1 s2 k1 k2 λx y h' tk p1 p2 e1 e2 e3 e4 e5 e6 e7=>wpAny_pure (hQ x y h' tk p1 p2 e1 e2 e3 e4 e5 e6 e7)
theorem ZaQ{Q:Option Value->Shared->Prop}(Z:ZAp z TI TO i1 i2 fp1 fp2)(D1:Draws prog w A.in1 i1 fp1 n1 P1 S1)(D2:Draws prog w A.in1 i2 fp2 n2 P2 S2)(hz:IsZip s.heap z TI TO .none)(hI:IsPair s.heap TI (.ref i1) (.ref i2))(hO:IsPair s.heap TO a b)
  (s1:S1 k s.heap) (s2:S2 k s.heap) (hk:k=n1\/(k<n1/\k=n2))
  (hQ:∀ h' tk,(∀ c o,c≠z->c≠TO->c≠i1->c≠i2->s.heap.get? c=some o->h'.get? c=some o)->Q none {s with heap:=h',toks:=tk}) :
  wpAny (model prog w) A (pyNext (.ref z)) Q E s:=by
 have ty:s.TypeIs (.ref z) "zip":=⟨_,hz,rfl⟩;unfold pyNext;refine wpAny_bind (wpAny_attempt (wpAny_callSpecial?_slot (name:=Str.ofString "__next__") ty F.slot_zip_next (wpAny_call_entry F.slot_zip_next ty F.entry_zip_next ?_ (F.args_zip_next_1 _))));refine yb7 Z D1 D2 hz hI hO s1 s2 hk λh' e kk ho tk=>?_;obtain⟨o,e1,e2⟩:=ho;exact wpAny_bind (wpAny_isInstance (T:="StopIteration") (b:=true) ⟨o,e1,e2⟩ isSubtype_stop (wpAny_pure (hQ h' tk kk)))
end
end M3
end
section
namespace M3
open PySem
open Sem (wp)
end M3
end
section
namespace L3
open PySem PySem.Spec PyProof.Rows L2 M3
section
variable {X:Cx} {pins:List (Addr×Obj)} {σ:L2.St} {H:Hp} {s:Shared}
theorem zb1{P:Program}{w:World}{h:Heap}{D:Addr}{o:HO}(ok:HOk P w H h)(hn:H D=none)(new:ObjOk P w (upd H D o) h D o):HOk P w (upd H D o) h:=λb u e=>by
 by_cases hb:b=D
 ·subst hb;rw[ye] at e;cases e;exact new
 ·rw[qc hb] at e;exact(ok b u e).stay (λ_ _ _ q=>q) (λc q=>by rw[qc (Zd q hn)];exact q) λc xs q=>by rw[qc (Zd q hn)];exact q
theorem Yba{D:Addr}{o:HO}(I:Inv X pins σ H s)(f:QY X pins H D)(h0:X.s₀.heap.objs.size<=D)(new:ObjOk X.prog X.w (upd H D o) s.heap D o):Inv X pins σ (upd H D o) s:=by
 obtain⟨f0,f1,f2,f3,f4,f5⟩:=f;refine⟨I.ok,I.os,I.bare,⟨I.base.keep,I.base.slot,λb u e n hx=>?_,I.base.there,λb xs e=>?_,λb u xs e=>?_,λb ps e=>?_⟩,I.loc,I.cell,?_,λx c e=>?_,λp hp=>?_,zb1 I.hok f0 new,I.len⟩
 ·rw[qc (Wc (wc (Va e) h0))];exact I.base.free b u e n hx
 ·have q:=I.base.tups b xs e;rw[qc (Zd q f0)];exact q
 ·have q:=I.base.frzs b u xs e;rw[qc (Zd q f0)];exact q
 ·obtain⟨m,q⟩:=I.base.tbls b ps e;exact⟨m,by rw[qc (Zd q f0)];exact q⟩
 ·rw[qc (Ne.symm f1)];exact I.free
 ·rw[qc (f4 x c e)];exact I.freeC x c e
 ·obtain⟨e1,e2,e3,e4,e5⟩:=I.pin p hp;exact⟨e1,by rw[qc (f5 p hp)];exact e2,e3,e4,e5⟩
end
noncomputable def YD(sc:Scope)(N:List Str)(cs:Scope)(N':List Str)(ncv:Nat)(js:List Nat):Bool :=
 cs.kind == .function&&cs.names.all (λy=>y.2 != .cell||cs.names.lookup y.1==some .cell)&&cs.names.all (λy=>y.2 != .free||(sc.names.lookup y.1==some .cell||sc.names.lookup y.1==some .free)) &&
 cs.names.all (λy=>y.2 != .local||cs.names.lookup y.1==some .local)&&(N'.drop ncv).all (λx=>cs.names.lookup x==some .free)&&decide ((N'.drop ncv).map some=js.map (λj=>N[j]?))&&decide (ncv<=N'.length)
structure CompOk (sc:Scope) (N:List Str) (cs:Scope) (N':List Str) (ncv:Nat) (js:List Nat):Prop where
 kind:cs.kind=.function
 cel:∀ y∈cs.names,y.2=.cell->cs.names.lookup y.1=some .cell
 free:∀ y∈cs.names,y.2=.free->sc.names.lookup y.1=some .cell\/sc.names.lookup y.1=some .free
 locs:∀ y∈cs.names,y.2=.local->cs.names.lookup y.1=some .local
 frees:∀ x∈N'.drop ncv,cs.names.lookup x=some .free
 at_:(N'.drop ncv).map some=js.map (λj=>N[j]?)
 ncv:ncv<=N'.length
theorem CompOk.of{sc:Scope}{N:List Str}{cs:Scope}{N':List Str}{ncv:Nat}{js:List Nat}(h:YD sc N cs N' ncv js=true):CompOk sc N cs N' ncv js:=by
 simp only[YD,Wa,uk,decide_eq_true_eq,Vi,beq_iff_eq,bne_iff_ne,ne_eq] at h;obtain⟨⟨⟨⟨⟨⟨h1,h2⟩,h3⟩,h4⟩,h5⟩,h6⟩,h7⟩:=h;exact⟨h1,λy hy e=>(h2 y hy).resolve_left λz=>z e,λy hy e=>(h3 y hy).resolve_left λz=>z e,λy hy e=>(h4 y hy).resolve_left λz=>z e,h5,h6,h7⟩
theorem ZN{names:List (Str×NameKind)}{x:Str}{k:NameKind}(h:names.lookup x=some k):(x,k)∈names:=PySem.mem_of_lookup h
theorem yaA{env:Env}:∀{names:List (Str×NameKind)} {x:Str},
  ((names.map λ(n,k)=>if(k==NameKind.free&&env.scope.kind == .function&&env.kindOf n==some .cell) then(n,NameKind.cell) else(n,k)).lookup x=some .cell \/
   (names.map λ(n,k)=>if(k==NameKind.free&&env.scope.kind == .function&&env.kindOf n==some .cell) then(n,NameKind.cell) else(n,k)).lookup x=some .free)->names.lookup x=some .free\/names.lookup x=some .cell
 |[],_,h=>by simp at h
 |(n,k)::r,x,h=>by
  have ih:=@yaA env r x;rw[Xd] at h;by_cases hb:(k==NameKind.free&&env.scope.kind == .function&&env.kindOf n==some .cell)=true
  ·have hkf:k=.free:=by
    simp only[Wa,beq_iff_eq] at hb;exact hb.1.1
   simp only[hb,if_true] at h;cases hx:x==n with
   |true=>simp only[wb,hx];rw[hkf];exact .inl rfl
   |false =>
    simp only[wb,hx] at h ⊢;exact ih h
  ·simp only[hb,xj,if_false] at h;cases hx:x==n with
   |true =>
    simp only[wb,hx] at h ⊢;exact h.symm
   |false =>
    simp only[wb,hx] at h ⊢;exact ih h
theorem qY{env:Env}:∀{names:List (Str×NameKind)} {x:Str},names.lookup x=some .free ->
  ((names.map λ(n,k)=>if(k==NameKind.free&&env.scope.kind == .function&&env.kindOf n==some .cell) then(n,NameKind.cell) else(n,k)).lookup x=some .cell \/
   (names.map λ(n,k)=>if(k==NameKind.free&&env.scope.kind == .function&&env.kindOf n==some .cell) then(n,NameKind.cell) else(n,k)).lookup x=some .free)
 |[],_,h=>by simp at h
 |(n,k)::r,x,h=>by
  have ih:=@qY env r x;rw[Xd];cases hx:x==n with
  |true =>
   simp only[wb,hx] at h;cases h;by_cases hb:((NameKind.free:NameKind)==NameKind.free&&env.scope.kind == .function&&env.kindOf n==some .cell)=true
   ·simp only[hb,if_true,wb,hx];simp
   ·simp only[hb,xj,if_false,wb,hx];simp
  |false =>
   simp only[wb,hx] at h;by_cases hb:(k==NameKind.free&&env.scope.kind == .function&&env.kindOf n==some .cell)=true
   ·simp only[hb,if_true,wb,hx];exact ih h
   ·simp only[hb,xj,if_false,wb,hx];exact ih h
theorem QB{env:Env}:∀(names:List (Str×NameKind)) (cs:List (Str×Addr)) {x:Str} {c:Addr},(∀ y∈names,y.2=.free->∃ c,env.cells.lookup y.1=some c)->(∀ x c,cs.lookup x=some c->env.cells.lookup x=some c) ->
  (Ye env names cs).lookup x=some c->env.cells.lookup x=some c
 |[],cs,x,c,_,hcs,h=>hcs x c h
 |(n,k)::r,cs,x,c,hn,hcs,h=>by
  refine QB r _ (λy hy=>hn y (Xe _ hy)) (λx' c' h'=>?_) h;by_cases hk:(k == .free)=true
  ·rw[if_pos hk] at h';obtain⟨c0,e0⟩:=hn (n,k) Xh (by simpa using hk);cases hx:x'==n with
   |true =>
    simp only[wb,hx] at h';cases h';rw[beq_iff_eq.mp hx,e0];rfl
   |false =>
    simp only[wb,hx] at h';exact hcs x' c' h'
  ·rw[if_neg hk] at h';exact hcs x' c' h'
theorem zaa{env:Env}:∀(names:List (Str×NameKind)) (cs:List (Str×Addr)) {x:Str},(∃ c,cs.lookup x=some c)->∃ c,(Ye env names cs).lookup x=some c
 |[],cs,x,h=>h
 |(n,k)::r,cs,x,h=>by
  refine zaa r _ ?_;by_cases hk:(k == .free)=true
  ·rw[if_pos hk];cases hx:x==n with
   |true=>exact⟨(env.cells.lookup n).getD 0,by simp only[wb,hx]⟩
   |false =>
    obtain⟨c,e⟩:=h;exact⟨c,by simp only[wb,hx];exact e⟩
  ·rw[if_neg hk];exact h
theorem ZQ{env:Env}:∀(names:List (Str×NameKind)) (cs:List (Str×Addr)) {x:Str},(x,NameKind.free)∈names->∃ c,(Ye env names cs).lookup x=some c
 |[],_,_,h=>nomatch h
 |(n,k)::r,cs,x,h=>by
  rcases vb.mp h with e|h
  ·cases e;refine zaa r _ ?_;rw[if_pos (by decide)];exact⟨(env.cells.lookup n).getD 0,by simp only[wb,beq_self_eq_true]⟩
  ·exact ZQ r _ h
theorem Qbi:∀(names:List (Str×NameKind)) (n n0:Nat) (acc:List (Str×Addr)) {x:Str},n0<=n->(∃ c,acc.lookup x=some c/\n0<=c)->∃ c,(cellsFrom n names acc).lookup x=some c/\n0<=c
 |[],_,_,_,_,_,h=>h
 |(y,k)::r,n,n0,acc,x,hn,h=>by
  unfold cellsFrom;split
  ·refine Qbi r (n+1) n0 _ (by lia) ?_;cases hx:x==y with
   |true=>exact⟨n,by simp only[wb,hx],hn⟩
   |false =>
    obtain⟨c,e,l⟩:=h;exact⟨c,by simp only[wb,hx];exact e,l⟩
  ·exact Qbi r n n0 acc hn h
theorem qbf:∀(names:List (Str×NameKind)) (n:Nat) (acc:List (Str×Addr)) {x:Str},(x,NameKind.cell)∈names->∃ c,(cellsFrom n names acc).lookup x=some c/\n<=c
 |[],_,_,_,h=>nomatch h
 |(y,k)::r,n,acc,x,h=>by
  unfold cellsFrom
  rcases vb.mp h with e|h
  ·cases e;rw[if_pos (by decide)];exact Qbi r (n+1) n _ (by lia) ⟨n,by simp only[wb,beq_self_eq_true],xb _⟩
  ·split
   ·obtain⟨c,e,l⟩:=qbf r (n+1) ((y,n)::acc) h;exact⟨c,e,by lia⟩
   ·exact qbf r n acc h
theorem zas:∀(names:List (Str×NameKind)) (n:Nat) (acc:List (Str×Addr)) {x:Str},(x,NameKind.cell)∉names->(cellsFrom n names acc).lookup x=acc.lookup x
 |[],_,_,_,_=>rfl
 |(y,k)::r,n,acc,x,h=>by
  unfold cellsFrom;split
  ·rename_i hk;rw[zas r (n+1) _ λz=>h (Xe _ z)];have:(x==y)=false:=by
    rw[beq_eq_false_iff_ne];intro e;subst e;have:k=.cell:=by simpa using hk
    subst this;exact h Xh
   simp only[wb,this]
  ·exact zas r n acc λz=>h (Xe _ z)
theorem zav:∀(names:List (Str×NameKind)) (n:Nat) (acc:List (Str×Addr)) {x:Str} {c:Addr},(cellsFrom n names acc).lookup x=some c->acc.lookup x=some c\/n<=c
 |[],_,_,_,_,h=>.inl h
 |(y,k)::r,n,acc,x,c,h=>by
  unfold cellsFrom at h;split at h
  ·rcases zav r (n+1) _ h with e|e
   ·cases hx:x==y with
    |true=>simp only[wb,hx] at e;cases e;exact .inr (xb _)
    |false=>simp only[wb,hx] at e;exact .inl e
   ·exact .inr (by lia)
  ·exact zav r n acc h
theorem ybz:∀(names:List (Str×NameKind)) (n:Nat) (acc:List (Str×Addr)),(∀ x c,acc.lookup x=some c->c<n)->(∀ x y c,acc.lookup x=some c->acc.lookup y=some c->x=y) ->
  ∀ x y c,(cellsFrom n names acc).lookup x=some c->(cellsFrom n names acc).lookup y=some c->x=y
 |[],_,_,_,hi=>hi
 |(z,k)::r,n,acc,hb,hi=>by
  unfold cellsFrom;split
  ·refine ybz r (n+1) _ (λx c e=>?_) λx y c e1 e2=>?_
   ·cases hx:x==z with
    |true=>simp only[wb,hx] at e;cases e;exact Vn _
    |false=>simp only[wb,hx] at e;exact Up (hb x c e)
   ·cases hx:x==z with
    |true =>
     simp only[wb,hx] at e1;cases e1;cases hy:y==z with
     |true=>rw[beq_iff_eq.mp hx,beq_iff_eq.mp hy]
     |false=>simp only[wb,hy] at e2;exact absurd (hb y _ e2) (xk _)
    |false =>
     simp only[wb,hx] at e1;cases hy:y==z with
     |true=>simp only[wb,hy] at e2;cases e2;exact absurd (hb x _ e1) (xk _)
     |false=>simp only[wb,hy] at e2;exact hi x y c e1 e2
  ·exact ybz r n acc hb hi
theorem ybf:∀(names:List (Str×NameKind)) (h:Heap) (acc:List (Str×Addr)),(∀ x c,acc.lookup x=some c->∃ v,h.IsCell c v)->∀ x c,(cellsFrom h.objs.size names acc).lookup x=some c->∃ v,(pushCells h names).IsCell c v
 |[],_,_,hc=>hc
 |(y,k)::r,h,acc,hc=>by
  unfold cellsFrom pushCells;split
  ·have:=ybf r (h.push {cls:=.type "cell",data:=.cell none}) ((y,h.objs.size)::acc) λx c e=>by
    cases hx:x==y with
    |true=>simp only[wb,hx] at e;cases e;exact⟨none,_,Xb _ rfl,rfl⟩
    |false =>
     simp only[wb,hx] at e;obtain⟨v,q⟩:=hc x c e;exact⟨v,q.keeps λb o e=>wa _ e⟩
   rwa [xh] at this
  ·exact ybf r h acc hc
theorem Qa4{M:Model}{A:Around}{E:Value->Shared->Prop}{s:Shared}{scope:Scope}{globals:Addr}{closure:List (Str×Addr)}{qual:Str}{func:Option Addr}{code:Value}{env:Env}{builtins:Addr}{Q:Env->Shared->Prop}
  (hQ:∀ h',h'.Ns s.heap.objs.size (λ_=>none)->(∀ b o,s.heap.get? b=some o->h'.get? b=some o) ->
   ((∀ x c,closure.lookup x=some c->∃ v,s.heap.IsCell c v)->∀ x c,(cellsFrom (s.heap.objs.size+1) scope.names closure).lookup x=some c->∃ v,h'.IsCell c v) ->
   Q (newEnv scope s.heap.objs.size globals (cellsFrom (s.heap.objs.size+1) scope.names closure) qual func code (some env) builtins) {s with heap:=h'}) :
  wpAny M A (newFunctionEnv scope globals closure [] qual func code (some env) builtins) Q E s:=by
 simp only[newFunctionEnv,wB,if_true];refine wpAny_bind (wpAny_alloc ?_);refine wpAny_bind (wpAny_layCells _ (λname kind cells=>by cases hkc:kind==NameKind.cell <;> simp[hkc]) _ _ _ _ ?_);rw[show({s with heap:=s.heap.push {cls:=.type "dict",data:=.dict #[]}}:Shared).heap.objs.size=s.heap.objs.size+1 from xh ..];refine wpAny_bind (wpAny_pure (wpAny_pure (hQ _ ?_ ?_ ?_)))
 ·exact(Heap.Ns.new s.heap (.type "dict")).keeps (pushCells_keeps _ _)
 ·exactλb o e=>pushCells_keeps _ _ b o (wa _ e)
 ·intro hc;have:=ybf scope.names (s.heap.push {cls:=.type "dict",data:=.dict #[]}) closure λx c e=>let ⟨v,q⟩:=hc x c e;⟨v,q.keeps λb o e=>wa _ e⟩
  rwa [xh] at this
noncomputable def cxC(X:Cx)(cs:Scope)(N':List Str)(C:Addr)(s3:Shared)(H:Hp)(ex:List Addr):Cx :=
 {X with N:=N',s₀:=s3,H₀:=H,env:=compEnvC cs (cellsFrom (C+1) cs.names (Ye X.env cs.names [])) C X.env,outer:=X.stack,stack:=X.stack,ex:=ex,fn:=λx=>cs.names.lookup x==some .cell,xe:=λ_ _=>False}
noncomputable def stC(ncv:Nat)(js:List Nat)(σ:L2.St):L2.St:=we ncv none++js.map λj=>(σ[j]?).join
section
variable {X:Cx} {pins:List (Addr×Obj)} {σ:L2.St} {H:Hp} {s3:Shared}
theorem zbB{cs:Scope}{N':List Str}{ncv:Nat}{js:List Nat}{ex:List Addr}{h1:Heap}{tk:Nat}(I:Inv X pins σ H s3)(ok:CompOk X.env.scope X.N cs N' ncv js)(hex:∀ b∈ex,QY X pins H b/\b<s3.heap.objs.size)
  (hns:h1.Ns s3.heap.objs.size λ_=>none) (hk:∀ b o,s3.heap.get? b=some o->h1.get? b=some o)
  (hcl:(∀ x c,(Ye X.env cs.names []).lookup x=some c->∃ v,s3.heap.IsCell c v)->∀ x c,(cellsFrom (s3.heap.objs.size+1) cs.names (Ye X.env cs.names [])).lookup x=some c->∃ v,h1.IsCell c v) :
  Inv (cxC X cs N' s3.heap.objs.size s3 H ex) [] (stC ncv js σ) H {s3 with heap:=h1,toks:=tk}:=by
 have hfc:∀ y∈cs.names,y.2=.free->∃ c,X.env.cells.lookup y.1=some c:=λy hy e=>I.ok.has y.1 (ok.free y hy e);have lk:∀{x c},(Ye X.env cs.names []).lookup x=some c->X.env.cells.lookup x=some c:=λ{x c} h=>QB cs.names [] hfc (λ_ _ z=>by simp at z) h;have clt:∀{x c},X.env.cells.lookup x=some c->c<s3.heap.objs.size:=λ{x c} e=>let ⟨v,q⟩:=I.cell x c e;q.lt;have cl2:=hcl λx c e=>I.cell x c (lk e);have spl:∀{x c},(cellsFrom (s3.heap.objs.size+1) cs.names (Ye X.env cs.names [])).lookup x=some c->X.env.cells.lookup x=some c\/s3.heap.objs.size+1<=c:=λ{x c} e=>(zav cs.names _ _ e).imp lk id;have nown:∀{x},cs.names.lookup x=some .free->(x,NameKind.cell)∉cs.names:=λ{x} e z=>by have:=ok.cel _ z rfl;rw[e] at this;cases this
 refine⟨⟨I.ok.mod,ok.kind,I.ok.glob,I.ok.blt,xb _,λx y c e1 e2=>ybz cs.names _ _ (λx c e=>Up (clt (lk e))) (λx y c e1 e2=>I.ok.inj x y c (lk e1) (lk e2)) x y c e1 e2,λx hx=>?_,λx c z e=>?_,I.ok.hd,I.ok.frames,.inl rfl,λb hb=>?_,I.bs,Ve I.ok.bsz I.sz,λb o e hb=>?_,λb hb=>?_,I.stack,I.stkFree⟩,
  rfl,I.bare,Un.kept hk,⟨_,hns,λi x v e1 e2 e3=>?_⟩,λx c e=>cl2 x c e,I.hok.fresh (xb _),λx c e=>(spl e).elim (λq=>I.freeC x c q) λq=>I.hok.fresh (by lia),λp hp=>?_,I.hok.kept hk,?_⟩
 ·rcases yaA hx with hx|hx
  ·rw[show ∀ n,(cxC X cs N' s3.heap.objs.size s3 H ex).env.cells.lookup x=(cellsFrom (s3.heap.objs.size+1) cs.names (Ye X.env cs.names [])).lookup x fromλ_=>rfl]
   ·rw[zas _ _ _ (nown hx)];exact ZQ cs.names [] (ZN hx)
   ·exact 0
  ·obtain⟨c,e,_⟩:=qbf cs.names (s3.heap.objs.size+1) (Ye X.env cs.names []) (ZN hx);exact⟨c,e⟩
 ·have z':cs.names.lookup x=some .cell:=by simpa using(show(cs.names.lookup x==some .cell)=true from z)
  obtain⟨c',e',l⟩:=qbf cs.names (s3.heap.objs.size+1) (Ye X.env cs.names []) (ZN z');have:c=c':=by
   have e2:(cellsFrom (s3.heap.objs.size+1) cs.names (Ye X.env cs.names [])).lookup x=some c:=e;rw[e'] at e2;exact(Option.some.inj e2).symm
  rw[this];exact Nat.le_of_succ_le l
 ·obtain⟨⟨_,_,_,_,f4,_⟩,lt⟩:=hex b hb;refine⟨Wc lt,λx c e=>?_⟩
  rcases spl e with q|q
  ·exact f4 x c q
  ·exact xm (Ur lt q)
 ·obtain⟨⟨_,_,_,f3,_,_⟩,_⟩:=hex b hb
  rcases f3 with f3|f3
  ·exact I.ok.noex b o e f3
  ·exact absurd (wc (Va e) (Ve I.ok.bsz f3)) (xk _)
 ·obtain⟨⟨_,f1,f2,_,_,_⟩,_⟩:=hex b hb;intro z
  rcases vb.mp (I.stkSub b z) with e|e
  ·exact f1 e
  ·exact f2 e
 ·-- a name around, by its cell
  have hi:¬ i<ncv:=λhi=>by
   unfold stC at e2;rw[Ub (by simpa using hi),uo,if_pos hi] at e2;cases e2
  have ex1:(N'.drop ncv)[i-ncv]?=some x:=by
   rw[List.getElem?_drop];have q:ncv+(i-ncv)=i:=by lia
   rw[q];exact e1
  have hfree:=ok.frees x (Ui ex1);have eN:(js.map λj=>X.N[j]?)[i-ncv]?=some (some x):=by rw[<- ok.at_,Uf,ex1];rfl
  unfold stC at e2;rw[wg (by simpa using VC hi),um,Uf] at e2;rw[Uf] at eN;cases ej:js[i-ncv]? with
  |none=>rw[ej] at e2;cases e2
  |some j =>
   rw[ej] at e2 eN;have e2':(σ[j]?).join=some v:=Option.some.inj e2;have eN':X.N[j]?=some x:=Option.some.inj eN;have eσ:σ[j]?=some (some v):=by
    cases q:σ[j]? with
    |none=>rw[q] at e2';cases e2'
    |some u=>rw[q] at e2';exact congrArg some e2'
   have hvis:X.env.scope.names.lookup x=some .cell\/X.env.scope.names.lookup x=some .free:=ok.free (x,.free) (ZN hfree) rfl;obtain⟨m,hn,hl⟩:=I.loc;obtain⟨u,r,l⟩:=hl j x v eN' eσ (.inr hvis);refine⟨u,r,.inr ⟨qY hfree,?_⟩⟩
   rcases l with ⟨k,_⟩|⟨_,c,ec,z⟩
   ·rcases hvis with q|q
    ·rw[show X.env.kindOf x=X.env.scope.names.lookup x from rfl,q] at k;cases k
    ·rw[show X.env.kindOf x=X.env.scope.names.lookup x from rfl,q] at k;cases k
   ·obtain⟨c',ec'⟩:=ZQ (env:=X.env) cs.names [] (ZN hfree);have:=lk ec';rw[ec] at this;cases this;obtain⟨o,ho,hd⟩:=z;refine⟨c,?_,o,hk c o ho,hd⟩;show(cellsFrom (s3.heap.objs.size+1) cs.names (Ye X.env cs.names [])).lookup x=some c;rw[zas _ _ _ (nown hfree)];exact ec'
 ·have hp':p∈X.pn:=by
   have hp1:p∈X.pn++[]:=hp;rw[Xi] at hp1;exact hp1
  obtain⟨e1,e2,e3,e4,e5⟩:=I.pin p (ue _ hp');refine⟨hk _ _ e1,e2,Wc (Va e1),λz=>?_,e5⟩
  rcases vb.mp (I.stkSub p.1 z) with e|e
  ·exact e3 e
  ·exact e4 e
 ·have q:=congrArg XC ok.at_;rw[vc,vc,vx] at q;unfold stC;show _=N'.length;rw[Vg,um,vc];have:=ok.ncv
  lia
end
section
variable {X:Cx}
noncomputable def PIf(X:Cx)(ifs:List Expr)(t:TT):Prop:=∀(pins:List (Addr×Obj)) (s:Shared) (σ:L2.St) (H:Hp) (Q:Bool->Hp->Prop),Inv X pins σ H s->t σ H Q->wpAny (model X.prog X.w) X.A (ycE ifs X.env) (TP X pins σ Q) X.xe s
noncomputable def tYes:TT:=λ_ H Q=>Q true H
theorem qct:PIf X [] tYes:=λpins s σ H Q I h=>wpAny_tests_nil ⟨H,I,h⟩
theorem zbP{c:Expr}{t:TT}(h:PT X c t):PIf X [c] t:=λpins s σ H Q I hw=>wpAny_tests_one (h pins s σ H Q I hw)
noncomputable def ycg(J:It)(ncv:Nat)(js:List Nat)(g:TG)(tc:TT)(te:TE)(σ:L2.St)(H:Hp)(Q:VK):Prop :=
 ∃ W:Nat->Nat->List V->L2.St->Hp->Prop,(∃ m,W 0 m [] (stC ncv js σ) H)/\∀ i m acc σ' H',W i m acc σ' H' ->
  (J.stop i H'/\∀ D,H' D=none->Q (.ref D) (upd H' D (.lst acc))) \/
  (J.go i H'/\∀ x H2,J.yld i H' x H2->g x σ' H2 λσ2 H3=>tc σ2 H3 λb H4 =>
   if b=true then te σ2 H4 λy H5=>acc.length<sizeLine/\∃ m',m'<m/\W (i+1) m' (acc++[y]) σ2 H5 else ∃ m',m'<m/\W (i+1) m' acc σ2 H4)
noncomputable def QbM(wi:TI)(ncv:Nat)(js:List Nat)(g:TG)(tc:TT)(te:TE):TE:=λσ H Q=>wi σ H λJ H1=>ycg J ncv js g tc te σ H1 Q
theorem yr{Y:Cx}{pins:List (Addr×Obj)}{σ:L2.St}{H:Hp}{s:Shared}{b:Addr}{o:Obj}(I:Inv Y pins σ H s)(h:(b,o)∈pins):s.heap.get? b=some o/\H b=none :=
 let z:=I.pin (b,o) (Ud _ h);⟨z.1,z.2.1⟩
noncomputable def Ycd(X:Cx)(J:It)(fp:List Addr)(it:Addr)(tn:Nat->Heap->Prop):Prop :=
 ∀(Y:Cx),Y.prog=X.prog->Y.w=X.w->Y.K=X.K->Y.calm=X.calm->Y.A=X.A->Y.pn=X.pn->∀(i:Nat)(pins:List (Addr×Obj)) (s:Shared) (σ:L2.St) (H:Hp) (E:Value->Shared->Prop),Inv Y pins σ H s->(∀ b∈fp,QY Y pins H b)->tn i s.heap->J.stop i H ->
  wpAny (model X.prog X.w) X.A (pyNext (.ref it)) (λr s1=>r=none/\Inv Y pins σ H s1) E s
noncomputable def Zb9(X:Cx)(tg:Expr)(J:It)(fp:List Addr)(it:Addr)(tn:Nat->Heap->Prop):Prop :=
 ∀(Y:Cx),Y.prog=X.prog->Y.w=X.w->Y.K=X.K->Y.calm=X.calm->Y.A=X.A->∀(i:Nat)(pins:List (Addr×Obj)) (s:Shared) (σ:L2.St) (H:Hp) (E:Value->Shared->Prop),Inv Y pins σ H s->(∀ b∈fp,QY Y pins H b)->tn i s.heap->J.go i H ->
  wpAny (model X.prog X.w) X.A (pyNext (.ref it)) (λr s1=>∃ u,r=some u /\
   wpAny (model X.prog X.w) X.A (letOwnedTupleGo tg (.ref it) u) (λ_ s2=>∃ x H',Inv Y pins σ H' s2/\RelV x u/\J.yld i H x H'/\tn (i+1) s2.heap/\∀ b∈fp,H' b=none) E s1) E s
theorem Qam{elt iter tg:Expr}{ifs:List Expr}{cs:Scope}{pos:Pos}{N':List Str}{ncv:Nat}{js:List Nat}{g:TG}{tc:TT}{te:TE}{pins:List (Addr×Obj)}{σ:L2.St}{H2:Hp}{s2:Shared}{it:Addr}{fp:List Addr}{tn:Nat->Heap->Prop}{J:It}{Q:VK}
  {RR:Value->Addr->Result->Shared->Prop} {E:Value->Shared->Prop}
  (ok:CompOk X.env.scope X.N cs N' ncv js) (hg:∀ C s3 H ex,PG (cxC X cs N' C s3 H ex) tg g) (hif:∀ C s3 H ex,PIf (cxC X cs N' C s3 H ex) ifs tc) (helt:∀ C s3 H ex,PE (cxC X cs N' C s3 H ex) elt te)
  (I2:Inv X pins σ H2 s2) (mem:it∈fp) (obj:∀ i h,tn i h->∀ b∈fp,∃ o,h.get? b=some o/\∀ v,o.data≠.cell v) (keep:∀ i h h',tn i h->(∀ b∈fp,∀ o,h.get? b=some o->h'.get? b=some o)->tn i h')
  (item:Zb9 X tg J fp it tn) (done:Ycd X J fp it tn) (self:∀(A:Around)(i:Nat)(s:Shared)(Q:Value->Shared->Prop)(E:Value->Shared->Prop),tn i s.heap->Q (.ref it) s->wpAny (model X.prog X.w) A (pyIter (.ref it)) Q E s)
  (st2:tn 0 s2.heap) (f2:∀ b∈fp,QY X pins H2 b) (W:Nat->Nat->List V->L2.St->Hp->Prop) (w0:∃ m,W 0 m [] (stC ncv js σ) H2)
  (turn:∀ i m acc σ' H',W i m acc σ' H'->(J.stop i H'/\∀ D,H' D=none->Q (.ref D) (upd H' D (.lst acc))) \/
   (J.go i H'/\∀ x H2,J.yld i H' x H2->g x σ' H2 λσ2 H3=>tc σ2 H3 λb H4 =>
    if b=true then te σ2 H4 λy H5=>acc.length<sizeLine/\∃ m',m'<m/\W (i+1) m' (acc++[y]) σ2 H5 else ∃ m',m'<m/\W (i+1) m' acc σ2 H4))
  (fin:∀(D C:Addr)(acc:List V)(H':Hp)(s6:Shared),Inv X pins σ (upd H' D (.lst acc)) s6->QY X pins (upd H' D (.lst acc)) C->X.s₀.heap.objs.size<=C->(∃ m,s6.heap.Ns C m)->Q (.ref D) (upd H' D (.lst acc))->RR (.ref D) C (.ok .next) s6) :
  wpAny (model X.prog X.w) X.A (newList []) (λacc s3=>wpAny (model X.prog X.w) X.A (newFunctionEnv cs X.env.globals (Ye X.env cs.names []) [] X.env.qual none .none (some X.env)) (λcenv s4 =>
   codeAny (model X.prog X.w) X.A (.compStart (.ListComp elt [⟨tg,iter,ifs,0⟩] cs pos) 0 (.ref it) acc {cenv with scope:=relabel cs X.env}) (RR acc cenv.locals) s4) E s3) E s2:=by
 refine wpAny_newObj_type (Qa4 λh1 hns hup hcl=>?_);obtain⟨s3,es3⟩:∃ s3:Shared,s3={s2 with heap:=s2.heap.push {cls:=.type "list",dict:=none,data:=.seq ([]:List Value).toArray}}:=⟨_,rfl⟩;have I3:Inv X pins σ H2 s3:=by rw[es3];exact I2.kept (t':=s2.toks) λb o e=>wa _ e
 have sz3:s3.heap.objs.size=s2.heap.objs.size+1:=by rw[es3];exact xh ..
 have gD3:s3.heap.get? s2.heap.objs.size=some {cls:=.type "list",dict:=none,data:=.seq ([]:List Value).toArray}:=by rw[es3];exact Xb _ rfl
 have up3:∀ b o,s2.heap.get? b=some o->s3.heap.get? b=some o:=λb o e=>by rw[es3];exact wa _ e
 have es4:∀ tk,({s2 with heap:=h1,toks:=tk}:Shared)={s3 with heap:=h1,toks:=tk}:=λtk=>by rw[es3]
 have hns':h1.Ns s3.heap.objs.size λ_=>none:=by rw[es3];exact hns
 have up4:∀ b o,s3.heap.get? b=some o->h1.get? b=some o:=by rw[es3];exact hup
 have hcl':(∀ x c,(Ye X.env cs.names []).lookup x=some c->∃ v,s3.heap.IsCell c v)->∀ x c,(cellsFrom (s3.heap.objs.size+1) cs.names (Ye X.env cs.names [])).lookup x=some c->∃ v,h1.IsCell c v:=by rw[es3];exact hcl
 generalize hD:s2.heap.objs.size=D at *;have fD:QY X pins H2 D:=I2.fpOk (vn hD) (I2.hok.fresh (vn hD));have szD:X.s₀.heap.objs.size<=D:=hD ▸ I2.sz;have ltf:∀ b∈fp,b<D:=λb hb=>let ⟨o,e,_⟩:=obj 0 _ st2 b hb;hD ▸ Va e;have hex:∀ b∈D::fp,QY X pins H2 b/\b<s3.heap.objs.size:=λb hb=>by
  rcases vb.mp hb with e|hb
  ·subst e;exact⟨fD,by rw[sz3];exact Vn _⟩
  ·exact⟨f2 b hb,by rw[sz3];exact Up (ltf b hb)⟩
 obtain⟨C,hC⟩:∃ C,C=s3.heap.objs.size:=⟨_,rfl⟩;have I4:∀ tk,Inv (cxC X cs N' C s3 H2 (D::fp)) [] (stC ncv js σ) H2 {s3 with heap:=h1,toks:=tk}:=λtk=>by rw[hC];exact zbB I3 ok hex hns' up4 hcl'
 have DC:D≠C:=by rw[hC,sz3];exact Wc (Vn _)
 -- the iterator's objects, and the list, in the block
 have fpY:∀{pl:List (Addr×Obj)} {H':Hp} {b:Addr},b∈D::fp->H' b=none->(∀ p∈pl,p.1≠b)->QY (cxC X cs N' C s3 H2 (D::fp)) pl H' b:=λ{pl H' b} hb hn hp=>by
  obtain⟨⟨g0,g1,g2,g3,g4,g5⟩,lt⟩:=hex b hb;refine⟨hn,hC ▸ Wc lt,λz=>?_,.inl hb,λx c e=>?_,λp hp'=>?_⟩
  ·rcases vb.mp (I3.stkSub b z) with e|e
   ·exact g1 e
   ·exact g2 e
  ·rcases zav cs.names _ _ e with q|q
   ·exact g4 x c (QB cs.names [] (λy hy e=>I3.ok.has y.1 (ok.free y hy e)) (λ_ _ z=>by simp at z) q)
   ·exact xm (Ur (hC ▸ lt) q)
  ·rcases Uh.mp hp' with z|z
   ·exact g5 p (ue _ z)
   ·exact hp p z
 have lp:∀ tk,codeAny (model X.prog X.w) X.A (.compLoop (.ListComp elt [⟨tg,iter,ifs,0⟩] cs pos) 0 (.ref it) (.ref D) (cxC X cs N' C s3 H2 (D::fp)).env) (RR (.ref D) C) {s3 with heap:=h1,toks:=tk}:=λtk=>by
  obtain⟨m0,w0⟩:=w0;refine qbV (λn s=>∃ i acc ys k σ' H',Inv (cxC X cs N' C s3 H2 (D::fp)) [] σ' H' s/\tn i s.heap/\(∀ b∈fp,H' b=none)/\H' D=none/\s.heap.get? D=some {cls:=.type "list",data:=.seq ys k}/\Vals acc ys.toList/\acc.length<=sizeLine/\W i n acc σ' H') ?_ m0
   ⟨0,[],#[],0,_,_,I4 tk,keep _ _ _ st2 λb hb o e=>up4 b o (up3 b o e),λb hb=>(f2 b hb).1,fD.1,up4 _ _ gD3,.nil,Uk _,w0⟩
  rintro n s5 ⟨i,acc,ys,k,σ5,H5,I5,t5,n5,d5,g5,v5,l5,w5⟩;have I5p:=I5.pinned (fp:=[D]) (λb hb=>by obtain rfl:=va.mp hb;exact fpY Xh d5 λp hp=>nomatch hp) (λb hb=>by obtain rfl:=va.mp hb;exact⟨_,g5,λv z=>nomatch z⟩);have hpin:QaE [D] s5.heap=[(D,{cls:=.type "list",data:=.seq ys k})]:=by simp[QaE,g5]
  rw[hpin,Wg] at I5p;have fpp:∀ b∈fp,QY (cxC X cs N' C s3 H2 (D::fp)) [(D,{cls:=.type "list",data:=.seq ys k})] H5 b:=λb hb=>fpY (Xe _ hb) (n5 b hb) λp hp=>by
   obtain rfl:=va.mp hp;exact xm (ltf b hb)
  rcases turn i n acc σ5 H5 w5 with ⟨stop,qf⟩|⟨go,step⟩
  ·refine thn (done (cxC X cs N' C s3 H2 (D::fp)) rfl rfl rfl rfl rfl rfl i _ s5 σ5 H5 _ I5p fpp t5 stop) λr s6 ⟨hr,I6⟩=>?_;subst hr;obtain⟨g6,d6⟩:=yr I6 (va.mpr rfl);have IX:Inv X pins σ H5 s6:=I3.call' (ch:=D::fp) I6.os I6.base I6.hok I6.bare λb hb=>by
    obtain⟨⟨_,e1,_,e3,e4,e5⟩,_⟩:=hex b hb;exact⟨e3,e1,e4,e5⟩
   obtain⟨_,e1,e2,e3,e4,e5⟩:=fD;have IXD:=Yba (o:=.lst acc) IX ⟨d6,e1,e2,e3,e4,e5⟩ szD ⟨l5,ys.toList,k,v5,by simpa using g6⟩;have fC:QY X pins (upd H5 D (.lst acc)) C:=by
    have hn:(upd H5 D (.lst acc)) C=none:=by rw[qc (Ne.symm DC)];exact I6.free
    have z:=I3.fpOk (b:=C) (vn hC.symm) (I3.hok.fresh (vn hC.symm));exact⟨hn,z.2⟩
   obtain⟨m,hm,_⟩:=I6.loc;exact fin D C acc H5 s6 IXD fC (Ve szD (by rw[hC,sz3];exact Uy _)) ⟨m,hm⟩ (qf D d6)
  ·refine thn (item (cxC X cs N' C s3 H2 (D::fp)) rfl rfl rfl rfl rfl i _ s5 σ5 H5 _ I5p fpp t5 go) λr s6 ⟨u,hr,h6⟩=>?_;subst hr;refine thn h6 λ_ s7 ⟨x,H7,I7,r7,y7,t7,n7⟩=>?_;obtain⟨g7,d7⟩:=yr I7 (va.mpr rfl);have I7p:=I7.pinned (fp:=fp) (λb hb=>fpY (Xe _ hb) (n7 b hb) λp hp=>by obtain rfl:=va.mp hp;exact xm (ltf b hb)) (obj _ _ t7);refine thn (hg _ _ _ _ _ s7 σ5 H7 x u _ I7p r7 (step x H7 y7)) λ_ s8 ⟨σ8,H8,I8,q8⟩=>?_;refine thn (hif _ _ _ _ _ s8 σ8 H8 _ I8 q8) λb s9 ⟨H9,I9,q9⟩=>?_;cases b with
   |false =>
    rw[if_neg Vc] at q9 ⊢;obtain⟨m',hm,w9⟩:=q9;obtain⟨g9,d9⟩:=yr I9 (ue _ (va.mpr rfl));refine⟨m',hm,i+1,acc,ys,k,σ8,H9,I9.pins_of (λp hp=>nomatch hp),keep _ _ _ t7 λb hb o e=>(yr I9 (Ud _ (qv hb e))).1,λb hb=>?_,d9,g9,v5,l5,w9⟩;obtain⟨o,e,_⟩:=obj _ _ t7 b hb;exact(yr I9 (Ud _ (qv hb e))).2
   |true =>
    rw[if_pos rfl] at q9 ⊢;refine thn (helt _ _ _ _ _ s9 σ8 H9 _ I9 q9) λyv s10 ⟨y,H10,I10,r10,lt,m',hm,w10⟩=>?_;obtain⟨g10,d10⟩:=yr I10 (ue _ (va.mpr rfl));have t10:tn (i+1) s10.heap:=keep _ _ _ t7 λb hb o e=>(yr I10 (Ud _ (qv hb e))).1;have n10:∀ b∈fp,H10 b=none:=λb hb=>by
     obtain⟨o,e,_⟩:=obj _ _ t7 b hb;exact(yr I10 (Ud _ (qv hb e))).2
    have I10':Inv (cxC X cs N' C s3 H2 (D::fp)) [] σ8 H10 s10:=I10.pins_of λp hp=>nomatch hp;have lys:ys.size=acc.length:=by have:=v5.length;simp at this;lia
    refine wpAny_list_append_plain (hsz:=by lia) (show s10.heap.PlainList D ys from⟨k,g10⟩) λh11 p11 sb11=>?_;obtain⟨_,a1,a2,a3,a4,a5⟩:=fpY (pl:=[]) (H':=H10) (b:=D) Xh d10 λp hp=>nomatch hp;obtain⟨k11,g11⟩:=p11;refine⟨m',hm,i+1,acc++[y],ys.push yv,k11,σ8,H10,I10'.turned (t':=s10.toks) (it:=D) (λb o hb e=>(sb11.2 b hb).trans e) d10 a1 a3 a4 a5,keep _ _ _ t10 λb hb o e=>(sb11.2 b (Wc (ltf b hb))).trans e,n10,d10,g11,?_,by rw[Vg,vy];exact lt,w10⟩;rw[Array.toList_push];exact v5.append (.cons r10 .nil)
 have R1:∀ tk,codeAny (model X.prog X.w) X.A (.compStart (.ListComp elt [⟨tg,iter,ifs,0⟩] cs pos) 0 (.ref it) (.ref D) (cxC X cs N' C s3 H2 (D::fp)).env) (RR (.ref D) C) {s3 with heap:=h1,toks:=tk}:=λtk =>
  codeAny_compStart_list (lp tk) (self _ 0 _ _ _ (keep _ _ _ st2 λb hb o e=>up4 b o (up3 b o e)) (lp tk))
 have R2:=R1 s2.toks;rw[<- es4] at R2;subst hD;rw[hC,es3] at R2;exact R2
end
section
variable {X:Cx} {pins:List (Addr×Obj)} {σ:L2.St} {H:Hp} {s:Shared} {h':Heap}
theorem YF{t':Nat}{ch:List Addr}(I:Inv X pins σ H s)(f:∀ b∈ch,QY X pins H b)(k:∀ b o,b∉ch->s.heap.get? b=some o->h'.get? b=some o):Inv X pins σ H {s with heap:=h',toks:=t'}:=by
 have nt:∀ b u,H b=some u->b∉ch:=λb u e z=>by
  have q:=(f b z).1;rw[e] at q;cases q
 refine I.step (g':=s.gens) (d':=s.drawn) (ch:=ch) (λb hb=>?_) (λb o _ _ hc e _=>k b o hc e) (λb o _ _ hc e _=>⟨o.slots,k b o hc e⟩) (λ_ _ _ _ n=>n) (λb o hc e=>⟨o,k b o hc e⟩) (λ_ _ e=>e) (λ_ _ _ e=>e) (λb ps e=>⟨#[],by rw[e];simp⟩) (λm hm=>?_) (λb u e=>?_) I.bare
 ·obtain⟨_,f1,f2,f3,f4,f5⟩:=f b hb;exact⟨f3,f1,f4,f5⟩
 ·obtain⟨o,es,ep,ho,r⟩:=hm;exact⟨o,es,ep,k _ o (λz=>(f _ z).2.1 rfl) ho,r⟩
 ·refine(I.hok b u e).stay (λc v hc q=>k c v ?_ q) (λ_ q=>q) λ_ _ q=>q
  rcases hc with z|z
  ·rw[z];exact nt b u e
  ·exact nt c _ z
noncomputable def SqS(K:PySem.W.Frag)(H:Hp)(b:Bool)(a:Addr)(xs:List V):Prop:=if b=true then SqT K H a xs else SqL K H a xs
theorem ZV{b:Bool}{a:Addr}{xs:List V}(I:Inv X pins σ H s)(h:SqS X.K H b a xs):∃ its:List Value,Vals xs its/\SeqIs s.heap b a its.toArray/\xs.length<=sizeLine:=by
 cases b with
 |false=>obtain⟨its,r,p,z⟩:=I.list (show SqL X.K H a xs from h);exact⟨its,r,p.isList,z⟩
 |true=>obtain⟨its,r,p,z⟩:=I.tuple (show SqT X.K H a xs from h);exact⟨its,r,p,z⟩
theorem zaJ{b:Bool}{a:Addr}{xs ys:List V}(I:Inv X pins σ H s)(h:SqS X.K H b a xs)(h':SqS X.K H b a ys):xs=ys:=by
 cases b with
 |false=>exact I.list_inj (show SqL X.K H a xs from h) h'
 |true=>exact I.tuple_inj (show SqT X.K H a xs from h) h'
noncomputable def Itz(K:PySem.W.Frag)(b1 b2:Bool)(a1 a2:Addr):It :=
 ⟨λi H=>∃ xs ys,SqS K H b1 a1 xs/\SqS K H b2 a2 ys/\i<xs.length/\i<ys.length,
 λi H x H'=>∃ T x1 y1,x=.ref T/\H T=none/\H'=upd H T (.tup [x1,y1])/\(∀ xs,SqS K H b1 a1 xs->xs[i]?=some x1)/\(∀ ys,SqS K H b2 a2 ys->ys[i]?=some y1),
 λi H=>∃ xs ys,SqS K H b1 a1 xs/\SqS K H b2 a2 ys/\(i=xs.length\/(i<xs.length/\i=ys.length))⟩
theorem yF{A:Around}(h:A.handled=none):A.in1.handled=none:=h
theorem Ych{P:Program}{w:World}{K:PySem.W.Frag}{es:List Expr}{kt:Nat}{pt:Pos}{b1 b2:Bool}{a1 a2 z TI TO i1 i2:Addr}(Z:∀ m,(∀ a∈[a1,a2],a<m)->(∀ a∈[z,TI,TO,i1,i2],m<=a)->ZAp z TI TO i1 i2 [i1,a1] [i2,a2])
  (m:Nat) (h1:∀ a∈[a1,a2],a<m) (h2:∀ a∈[z,TI,TO,i1,i2],m<=a) :
  Turn P w K (.Tuple es kt pt) (Itz K b1 b2 a1 a2) [z,TI,TO,i1,i2] z (λi h=>IsZip h z TI TO .none/\IsPair h TI (.ref i1) (.ref i2)/\(∃ a b,IsPair h TO a b)/\SeqIt h b1 i1 a1 i/\SeqIt h b2 i2 a2 i) where
 mem:=by simp
 obj:=λi h ⟨e1,e2,⟨a,b,e3⟩,e4,e5⟩ c hc=>by
  simp only[vb,xf,or_false] at hc
  rcases hc with rfl|rfl|rfl|rfl|rfl
  ·exact⟨_,e1,λv q=>nomatch q⟩
  ·exact⟨_,e2,λv q=>nomatch q⟩
  ·exact⟨_,e3,λv q=>nomatch q⟩
  ·exact e4.obj
  ·exact e5.obj
 keep:=λi h h' ⟨e1,e2,⟨a,b,e3⟩,e4,e5⟩ k=>⟨k z (by simp) _ e1,k TI (by simp) _ e2,⟨a,b,k TO (by simp) _ e3⟩,e4.keeps λo e=>k i1 (by simp) o e,e5.keeps λo e=>k i2 (by simp) o e⟩
 item:=by
  intro X hP hw hK hc i pins s σ H E I hf ⟨e1,e2,⟨a,b,e3⟩,e4,e5⟩ hg;subst hP hw hK;obtain⟨xs,ys,q1,q2,l1,l2⟩:=hg;obtain⟨its1,v1,p1,_⟩:=ZV I q1;obtain⟨its2,v2,p2,_⟩:=ZV I q2;have ZZ:=Z m h1 h2;have n1:a1≠i1:=Wc (wc (h1 a1 (by simp)) (h2 i1 (by simp)));have n2:a2≠i2:=Wc (wc (h1 a2 (by simp)) (h2 i2 (by simp)));have D1:=Yaz (prog:=X.prog) (w:=X.w) (yF (I.ok.hd hc)) b1 i1 a1 n1 its1.toArray;have D2:=Yaz (prog:=X.prog) (w:=X.w) (yF (I.ok.hd hc)) b2 i2 a2 n2 its2.toArray;have hl1:=v1.length;have hl2:=v2.length;refine zaN ZZ D1 D2 e1 e2 e3 ⟨e4,p1⟩ ⟨e5,p2⟩ (by simp;lia) (by simp;lia) λx y g tk px py f1 f2 f3 f4 f5 f6 f7=>⟨_,rfl,?_⟩;refine wpAny_letOwnedTupleGo_zip (s:={s with heap:=g,toks:=tk}) f1 λg' f8 f9=>?_;obtain⟨x1,hx1⟩:∃ x1,xs[i]?=some x1:=⟨xs[i],by simp[l1]⟩;obtain⟨y1,hy1⟩:∃ y1,ys[i]?=some y1:=⟨ys[i],by simp[l2]⟩;obtain⟨u1,hu1,r1⟩:=v1.get hx1;obtain⟨u2,hu2,r2⟩:=v2.get hy1;have ex:x=u1:=by have z:its1.toArray[i]?=some x:=px;simp[hu1] at z;exact z.symm
  have ey:y=u2:=by have z:its2.toArray[i]?=some y:=py;simp[hu2] at z;exact z.symm
  subst ex ey;have zlt:z≠s.heap.objs.size:=Wc (Va e1);have I1:Inv X pins σ H {s with heap:=g',toks:=tk}:=YF (ch:=[z,TI,TO,i1,i2]) I hf λc o hc' e=>by
   simp only[vb,xf,or_false,not_or] at hc';exact(f9.2 c hc'.1).trans (f7 c o hc'.1 hc'.2.2.1 hc'.2.2.2.1 hc'.2.2.2.2 e)
  have fT:=I.fpOk (b:=s.heap.objs.size) (xb _) (I.hok.fresh (xb _));have gT:g'.get? s.heap.objs.size=some {cls:=.type "tuple",data:=.seq #[x,y]}:=(f9.2 _ (Ne.symm zlt)).trans f5;have I2:Inv X pins σ (upd H s.heap.objs.size (.tup [x1,y1])) {s with heap:=g',toks:=tk}:=Yba I1 fT I.sz ⟨by show 2<=sizeLine;decide,[x,y],.cons r1 (.cons r2 .nil),⟨_,gT,rfl,_,rfl⟩⟩;have kz:∀ c∈[TI,TO,i1,i2],c≠z:=λc hc'=>by
   simp only[vb,xf,or_false] at hc'
   rcases hc' with rfl|rfl|rfl|rfl
   ·exact ZZ.tiz
   ·exact ZZ.toz
   ·exactλq=>ZZ.z1 (q ▸ ZZ.m1)
   ·exactλq=>ZZ.z2 (q ▸ ZZ.m2)
  refine⟨.ref s.heap.objs.size,_,I2,rfl,⟨_,x1,y1,rfl,fT.1,rfl,λzs hz=>by rw[zaJ I hz q1];exact hx1,λzs hz=>by rw[zaJ I hz q2];exact hy1⟩,
   ⟨f8,(f9.2 TI (kz TI (by simp))).trans (f7 TI _ ZZ.tiz ZZ.tito ZZ.ti1 ZZ.ti2 e2),⟨x,y,(f9.2 TO (kz TO (by simp))).trans f2⟩,f3.1.keeps λo e=>(f9.2 i1 (kz i1 (by simp))).trans e,f4.1.keeps λo e=>(f9.2 i2 (kz i2 (by simp))).trans e⟩,λc hc'=>?_⟩
  have lt:c<s.heap.objs.size:=by
   simp only[vb,xf,or_false] at hc'
   rcases hc' with rfl|rfl|rfl|rfl|rfl
   ·exact Va e1
   ·exact Va e2
   ·exact Va e3
   ·exact let ⟨o,e,_⟩:=e4.obj;Va e
   ·exact let ⟨o,e,_⟩:=e5.obj;Va e
  rw[qc (Wc lt)];exact(hf c hc').1
 done:=by
  intro X hP hw hK hc i pins s σ H E I hf ⟨e1,e2,⟨a,b,e3⟩,e4,e5⟩ hg;subst hP hw hK;obtain⟨xs,ys,q1,q2,hk⟩:=hg;obtain⟨its1,v1,p1,_⟩:=ZV I q1;obtain⟨its2,v2,p2,_⟩:=ZV I q2;have ZZ:=Z m h1 h2;have n1:a1≠i1:=Wc (wc (h1 a1 (by simp)) (h2 i1 (by simp)));have n2:a2≠i2:=Wc (wc (h1 a2 (by simp)) (h2 i2 (by simp)));have D1:=Yaz (prog:=X.prog) (w:=X.w) (yF (I.ok.hd hc)) b1 i1 a1 n1 its1.toArray;have D2:=Yaz (prog:=X.prog) (w:=X.w) (yF (I.ok.hd hc)) b2 i2 a2 n2 its2.toArray;have hl1:=v1.length;have hl2:=v2.length;refine ZaQ ZZ D1 D2 e1 e2 e3 ⟨e4,p1⟩ ⟨e5,p2⟩ (by simp;lia) λg tk k=>⟨rfl,?_⟩;exact YF (ch:=[z,TI,TO,i1,i2]) I hf λc o hc' e=>by
   simp only[vb,xf,or_false,not_or] at hc';exact k c o hc'.1 hc'.2.2.1 hc'.2.2.2.1 hc'.2.2.2.2 e
 self:=λ_ _ _ _ _ st h=>wpAny_pyIter_zip st.1 h
end
section
variable {X:Cx}
theorem ybO{tg:Expr}{J:It}{fp:List Addr}{it:Addr}{tn:Nat->Heap->Prop}(hc:X.calm=true)(T:Turn X.prog X.w X.K tg J fp it tn):Zb9 X tg J fp it tn :=
 λY e1 e2 e3 e4 e5 i pins s σ H E I f t g=>by
  have q:=T.item Y e1 e2 e3 (e4.trans hc) i pins s σ H E I f t g;rw[e5] at q;exact q
theorem YbN{tg:Expr}{J:It}{fp:List Addr}{it:Addr}{tn:Nat->Heap->Prop}(hc:X.calm=true)(T:Turn X.prog X.w X.K tg J fp it tn):Ycd X J fp it tn :=
 λY e1 e2 e3 e4 e5 _ i pins s σ H E I f t g=>by
  have q:=T.done Y e1 e2 e3 (e4.trans hc) i pins s σ H E I f t g;rw[e5] at q;exact q
variable {elt iter tg:Expr} {ifs:List Expr} {cs:Scope} {pos:Pos} {wi:TI} {g:TG} {tc:TT} {te:TE}
theorem qcx(N':List Str)(ncv:Nat)(js:List Nat)(hok:YD X.env.scope X.N cs N' ncv js=true)(hc:X.calm=true)(hi:PI X tg iter wi)(hg:∀ C s3 H ex,PG (cxC X cs N' C s3 H ex) tg g)(hif:∀ C s3 H ex,PIf (cxC X cs N' C s3 H ex) ifs tc)
  (helt:∀ C s3 H ex,PE (cxC X cs N' C s3 H ex) elt te) (hs:∀ x,foldedSetIterable iter X.env x=pure x:=by intro _;rfl):PE X (.ListComp elt [⟨tg,iter,ifs,0⟩] cs pos) (QbM wi ncv js g tc te):=by
 intro pins s σ H Q I h;have ok:=CompOk.of hok;rw[eval_ListComp];refine wpAny_comprehension_free (use:=none) rfl hs (zap λy hy e=>I.ok.has y.1 (ok.free y hy e)) ok.kind ok.locs (thn (hi pins s σ H _ I h) λv s1 h1=>thn h1 λitv s2 h2=>?_);obtain⟨it,fp,tn,J,H2,e,I2,T,st2,f2,W,w0,turn⟩:=h2;subst e;refine Qam (Q:=Q) (RR:=λacc C=>compPost (model X.prog X.w) X.A X.xe none (EP X pins σ Q) acc C) ok hg hif helt I2 T.mem T.obj T.keep (ybO hc T) (YbN hc T) T.self st2 f2 W w0 turn λD C acc H' s6 IX fC zC hm q=>?_;obtain⟨m,hm⟩:=hm;refine⟨m,hm,λh' sb=>⟨.ref D,_,?_,rfl,q⟩⟩;exact YF (t':=s6.toks) (ch:=[C]) IX (λb hb=>by obtain rfl:=va.mp hb;exact fC) λb o hb e=>(sb.2 b λz=>hb (by simp[z])).trans e
theorem ycu{i:Nat}{x:Str}{pos' spos:Pos}(hN:X.N.Nodup)(hi0:X.N[i]?=some x)(hx:Loc X.env.scope x)(N':List Str)(ncv:Nat)(js:List Nat)(hok:YD X.env.scope X.N cs N' ncv js=true)(hc:X.calm=true)(hi:PI X tg iter wi)
  (hg:∀ C s3 H ex,PG (cxC X cs N' C s3 H ex) tg g) (hif:∀ C s3 H ex,PIf (cxC X cs N' C s3 H ex) ifs tc) (helt:∀ C s3 H ex,PE (cxC X cs N' C s3 H ex) elt te)
  (hsw:swapsWith (.ListComp elt [⟨tg,iter,ifs,0⟩] cs pos) (some (.Name x pos')) spos.line X.env=pure true:=by rfl) (hs:∀ x,foldedSetIterable iter X.env x=pure x:=by intro _;rfl)
  (hf:X.fn x=true\/X.env.scope.names.lookup x=some .local:=by first|exact .inl rfl|exact .inr rfl|assumption) :
  PS X (.Assign [.Name x pos'] (.ListComp elt [⟨tg,iter,ifs,0⟩] cs pos) spos) (yb9 (QbM wi ncv js g tc te) (zaS i)):=by
 intro pins s σ H D0 I h;have ok:=CompOk.of hok;rw[exec_Assign_Name_used _ _ _ _ hsw];refine wpAny_bind (wpAny_standAt (wpAny_bind ?_));show wpAny _ X.A (do let _<-comprehension (.ListComp elt [⟨tg,iter,ifs,0⟩] cs pos) cs X.env _ (newList []) false (eval iter X.env) (some (assign (.Name x pos') X.env))) _ _ s;refine wpAny_bind (wpAny_mono (wpAny_comprehension_free (use:=some (assign (.Name x pos') X.env)) (Q:=λ_ s'=>SP X pins D0 .next s') rfl hs (zap λy hy e=>I.ok.has y.1 (ok.free y hy e)) ok.kind ok.locs (thn (hi pins s σ H _ I h) λv s1 h1=>thn h1 λitv s2 h2=>?_))
  (λ_ s' hq=>wpAny_pure (wpAny_pure hq)) λ_ _ e=>e)
 obtain⟨it,fp,tn,J,H2,e,I2,T,st2,f2,W,w0,turn⟩:=h2;subst e;refine Qam (Q:=λv H'=>zaS i v σ H' D0.nx) (RR:=λacc C=>compPost (model X.prog X.w) X.A X.xe (some (assign (.Name x pos') X.env)) (λ_ s'=>SP X pins D0 .next s') acc C) ok hg hif helt I2 T.mem T.obj T.keep (ybO hc T) (YbN hc T) T.self st2 f2 W w0 turn λD C acc H' s6 IX fC zC hm q=>?_;obtain⟨m,hm⟩:=hm;obtain⟨oC,esC,epC,gC,dC,rC⟩:=id hm;have nc:∀ v,oC.data≠.cell v:=λv z=>by rw[dC] at z;cases z
 have IXp:=IX.pinned (fp:=[C]) (λb hb=>by obtain rfl:=va.mp hb;exact fC) (λb hb=>by obtain rfl:=va.mp hb;exact⟨oC,gC,nc⟩);show wpAny (model X.prog X.w) X.A (assign (.Name x pos') X.env (.ref D)) _ X.xe s6;refine thn (qaN hN hi0 hx hf _ s6 σ _ (.ref D) (.ref D) _ IXp rfl q) λ_ s7 ⟨σ7,H7,I7,q7⟩=>?_;obtain⟨g7,d7⟩:=yr I7 (Ud _ (qv (va.mpr rfl) gC));refine⟨m,⟨oC,esC,epC,g7,dC,rC⟩,λh' sb=>⟨σ7,H7,?_,q7⟩⟩;obtain⟨_,c1,c2,c3,c4,c5⟩:=fC;exact YF (t':=s7.toks) (ch:=[C]) I7.unpinned (λb hb=>by obtain rfl:=va.mp hb;exact⟨d7,c1,c2,c3,c4,c5⟩) λb o hb e=>(sb.2 b λz=>hb (by simp[z])).trans e
theorem qE{a b:Nat}(h:a<b\/b<a):a≠b:=by lia
theorem Zbc{a b c:Nat}(h1:a≠b)(h2:a≠c):(a:Addr)∉([b,c]:List Addr):=by
 simp only[vb,xf,or_false,not_or];exact⟨h1,h2⟩
theorem Ycz(n a1 a2:Nat)(h1:a1<n)(h2:a2<n):ZAp (n+4) (n+2) (n+3) n (n+1) [n,a1] [n+1,a2] where
 tiz:=qE (a:=n+2) (b:=n+4) (by lia)
 toz:=qE (a:=n+3) (b:=n+4) (by lia)
 tito:=qE (a:=n+2) (b:=n+3) (by lia)
 ti1:=qE (a:=n+2) (b:=n) (by lia)
 ti2:=qE (a:=n+2) (b:=n+1) (by lia)
 z1:=Zbc (qE (by lia)) (qE (by lia))
 z2:=Zbc (qE (by lia)) (qE (by lia))
 t1:=Zbc (qE (by lia)) (qE (by lia))
 t2:=Zbc (qE (by lia)) (qE (by lia))
 m1:=by simp
 m2:=by simp
 a1:=Zbc (qE (by lia)) (qE (by lia))
 a2:=Zbc (qE (by lia)) (qE (by lia))
theorem ge5{n b:Nat}(h:(b:Addr)∈([n+4,n+2,n+3,n,n+1]:List Addr)):n<=b:=by
 simp only[vb,xf,or_false] at h
 rcases h with h|h|h|h|h <;> (have h':b=_:=h;rw[h'];first|exact Nat.le_add_right _ _|exact xb _)
noncomputable def iZip(K:PySem.W.Frag)(ta:TA):TI:=λσ H R=>ta σ H λvs H1=>∃ b1 b2 a1 a2,vs=[.ref a1,.ref a2]/\(∃ xs,SqS K H1 b1 a1 xs)/\(∃ ys,SqS K H1 b2 a2 ys)/\R (Itz K b1 b2 a1 a2) H1
theorem zc0{a b:Expr}{ta:TA}{p pos:Pos}{es:List Expr}{kt:Nat}{pt:Pos}(hg:Gl X "zip")(hm:X.mg "zip"=none)(ha:PA X [a,b] ta)(hs:starEach [a,b] X.env=[(false,eval a X.env),(false,eval b X.env)]:=by rfl)(hs2:starEach [b] X.env=[(false,eval b X.env)]:=by rfl) :
  PI X (.Tuple es kt pt) (.Call (.Name "zip" p) [a,b] [] pos) (iZip X.K ta):=by
 intro pins s σ H R I h;refine Call_ (QaH I hg hm boot_zip (PyProof.Rows.callWith_type1 (thn (ha pos pins s σ H _ I h) λus s1 ⟨vs,H1,I1,r1,q1⟩=>?_) (by rw[hs,hs2]) (by rw[hs2];rfl)));obtain⟨b1,b2,a1,a2,e,⟨xs,h1⟩,⟨ys,h2⟩,q⟩:=q1;subst e;cases r1 with
 |cons r rr =>
  cases rr with
  |cons r' rr =>
   cases rr;obtain rfl:_=Value.ref a1:=r;obtain rfl:_=Value.ref a2:=r';obtain⟨its1,v1,p1,_⟩:=ZV I1 h1;obtain⟨its2,v2,p2,_⟩:=ZV I1 h2;have l1:=p1.lt;have l2:=p2.lt;refine qb6 p1 p2 λg f1 f2 f3 f4 f5 f6=>?_;refine wpAny_pyIter_zip f1 ?_;refine⟨s1.heap.objs.size+4,[s1.heap.objs.size+4,s1.heap.objs.size+2,s1.heap.objs.size+3,s1.heap.objs.size,s1.heap.objs.size+1],_,_,H1,rfl,I1.kept (t':=s1.toks) f6,Ych (b1:=b1) (b2:=b2) (a1:=a1) (a2:=a2) (λ_ _ _=>Ycz _ a1 a2 l1 l2) s1.heap.objs.size (λa ha'=>?_) (λa ha'=>ge5 ha'),⟨f1,f2,⟨_,_,f3⟩,f4,f5⟩,λb hb=>I1.fpOk (ge5 hb) (I1.hok.fresh (ge5 hb)),q⟩;simp only[vb,xf,or_false] at ha'
   rcases ha' with rfl|rfl <;> assumption
end
noncomputable def CX1(P:Program)(w:World):CXT:=λouter H s E e s'=>∃ x C t tb H',e=.ref x/\s'.os=s.os/\AllBare s'.gens/\Un (frs outer) [] H H' s.heap s'.heap/\HOk P w H' s'.heap/\s'.heap.get? x=some (qt C t tb)/\Tb s'.heap x tb /\
 H' x=none/\s.heap.get? x=none/\(∀ T,tb=.ref T->H' T=none/\s.heap.get? T=none)/\E (.ref C) none H'
structure ExOk (X:Cx) (pins:List (Addr×Obj)) (H:Hp) (b:Addr):Prop where
 un:H b=none
 loc:b≠X.env.locals
 fs:b∉X.fs
 new:X.s₀.heap.get? b=none
 cell:∀ x c,X.env.cells.lookup x=some c->c≠b
 pin:∀ p∈X.pn++pins,p.1≠b
noncomputable def YbL(X:Cx)(E:XK):Prop:=∀(pins:List (Addr×Obj)) (σ:L2.St) (H:Hp) (s:Shared) (x C t:Addr) (tb:Value),Inv X pins σ H s->s.heap.get? x=some (qt C t tb)->Tb s.heap x tb->ExOk X pins H x->(∀ T,tb=.ref T->ExOk X pins H T)->E (.ref C) none H->X.xe (.ref x) s
section
variable {X:Cx} {pins:List (Addr×Obj)} {σ:L2.St} {H H':Hp} {s:Shared}
theorem zac{b:Addr}(I:Inv X pins σ H s)(hx:X.ex=[])(hb:s.heap.get? b=none)(hn:H' b=none):ExOk X pins H' b:=by
 have al:∀{c o},s.heap.get? c=some o->c≠b:=λ{c o} e z=>by rw[z,hb] at e;cases e
 refine⟨hn,λz=>?_,λz=>?_,?_,λx c e=>?_,λp hp=>al (I.pin p hp).1⟩
 ·obtain⟨m,⟨o,_,_,e,_⟩,_⟩:=I.loc;exact al e z.symm
 ·obtain⟨_,o,e,_⟩:=I.funs.mem z;exact al e rfl
 ·cases q:X.s₀.heap.get? b with
  |none=>rfl
  |some o =>
   obtain⟨o',e⟩:=I.base.there b o q (by rw[hx];exactλz=>nomatch z);exact absurd rfl (al e)
 ·obtain⟨v,o,e,_⟩:=I.cell x c e;exact al e
theorem YbU{E:XK}(hx:X.ex=[])(T:YbL X E):ycT (CX1 X.prog X.w) X E:=by
 intro pins σ H s e s' I h;obtain⟨x,C,t,tb,H',rfl,os,bare,un,hok,e1,e2,e3,e4,e5,q⟩:=h;have I':Inv X pins σ H' s':=I.call' (ch:=[]) os un hok bare λb z=>nomatch z;exact T pins σ H' s' x C t tb I' e1 e2 (zac I hx e4 e3) (λT' z=>zac I hx (e5 T' z).2 (e5 T' z).1) q
theorem Ya9{P:Program}{w:World}{h h':Heap}{fs:List Addr}{x:Addr}{tb:Value}(ok:HOk P w H h)(n:Noted fs x tb h h')(hf:∀ b∈fs,H b=none)(hx:H x=none)(ht:∀ T,tb=.ref T->H T=none):HOk P w H h':=λb u e=>by
 have go:∀ c v,H c≠none->h.get? c=some v->h'.get? c=some v:=λc v hc q=>n.keep c v (λz=>hc (hf c z)) (λz=>hc (z ▸ hx)) (λz=>hc (ht c z.symm)) q;refine(ok b u e).stay (λc v hc q=>go c v ?_ q) (λ_ q=>q) λ_ _ q=>q
 rcases hc with z|z
 ·rw[z,e];exactλz=>nomatch z
 ·rw[z];exactλz=>nomatch z
theorem ZU{h h':Heap}{fs:List Addr}{x:Addr}{tb:Value}{b:Addr}{o:Obj}(n:Noted fs x tb h h')(h1:b≠x)(h2:Value.ref b≠tb)(e:h.get? b=some o):∃ sl,h'.get? b=some {o with slots:=sl}:=by
 by_cases z:b∈fs
 ·exact n.slot b o z h1 h2 e
 ·exact⟨o.slots,n.keep b o z h1 h2 e⟩
theorem Qbs{fs fs' ex:List Addr}{H0:Hp}{h0 h h':Heap}{x:Addr}{tb:Value}(u:Un fs ex H0 H h0 h)(n:Noted fs' x tb h h')(hx:h0.get? x=none)(ht:∀ T,tb=.ref T->h0.get? T=none)(hs:∀ b o,h0.get? b=some o->b∉fs->b∉fs'):Un fs ex H0 H h0 h':=by
 have ne:∀ b o,h0.get? b=some o->b≠x/\Value.ref b≠tb:=λb o e=>⟨λz=>(by rw[z,hx] at e;cases e),λz=>(by rw[ht b z.symm] at e;cases e)⟩;refine⟨λb o e q hb hx'=>n.keep b o (hs b o e hb) (ne b o e).1 (ne b o e).2 (u.keep b o e q hb hx'),λb o e q hb hx'=>?_,u.free,λb o e hx'=>?_,u.tups,u.frzs,u.tbls⟩
 ·obtain⟨sl,z⟩:=u.slot b o e q hb hx';obtain⟨sl',z'⟩:=ZU n (ne b o e).1 (ne b o e).2 z;exact⟨sl',z'⟩
 ·obtain⟨o',z⟩:=u.there b o e hx';obtain⟨sl',z'⟩:=ZU n (ne b o e).1 (ne b o e).2 z;exact⟨_,z'⟩
theorem Qbc(I:Inv X pins σ H s){b:Addr}{o:Obj}(e:X.s₀.heap.get? b=some o)(hb:b∉X.fs):b∉frs X.stack:=λz=>by
 rcases vb.mp (I.stkSub b z) with y|y
 ·exact absurd (wc (Va e) I.ok.above) (by rw[y];exact xk _)
 ·exact hb y
theorem zbU{h':Heap}{x C t:Addr}{tb:Value}{t':Nat}(I:Inv X pins σ H s)(n:Noted (frs X.stack) x tb s.heap h')(he:s.heap.get? x=some (qt C t tb))(htb:Tb s.heap x tb)(fx:ExOk X pins H x)(ft:∀ T,tb=.ref T->ExOk X pins H T):Inv X pins σ H {s with heap:=h',toks:=t'}:=by
 -- a thing that is no record is neither the exception nor its traceback
 have nrec:∀ b o,s.heap.get? b=some o->(∀ vs,o.data≠.fields vs)->b≠x/\Value.ref b≠tb:=λb o e nf=>by
  refine⟨λz=>?_,λz=>?_⟩
  ·rw[z,he] at e;cases e;exact nf _ rfl
  ·cases htb with
   |no=>cases z
   |@«at» T oT ts ne ho hd h3 =>
    cases z;rw[ho] at e;cases e;exact nf ts hd
 have cellK:∀ c v,s.heap.IsCell c v->h'.IsCell c v:=λc v ⟨o,ho,hd⟩=>by
  obtain⟨a,b⟩:=nrec c o ho λvs z=>by rw[hd] at z;cases z
  obtain⟨sl,q⟩:=ZU n a b ho;exact⟨_,q,hd⟩
 refine⟨I.ok,I.os,I.bare,Qbs I.base n fx.new (λT z=>(ft T z).new) λb o e hb=>Qbc I e hb,?_,λy c e=>?_,I.free,I.freeC,λp hp=>?_,Ya9 I.hok n I.stkFree fx.un λT z=>(ft T z).un,I.len⟩
 ·obtain⟨m,⟨o,es,ep,ho,hd,r⟩,hl⟩:=I.loc;obtain⟨a,b⟩:=nrec _ o ho λvs z=>by rw[hd] at z;cases z
  obtain⟨sl,q⟩:=ZU n a b ho;refine⟨m,⟨_,es,ep,q,hd,r⟩,λi y v e1 e2 e3=>?_⟩;obtain⟨u,ru,l⟩:=hl i y v e1 e2 e3;refine⟨u,ru,?_⟩
  rcases l with l|⟨k,c,e,z⟩
  ·exact .inl l
  ·exact .inr ⟨k,c,e,cellK c _ z⟩
 ·obtain⟨v,z⟩:=I.cell y c e;exact⟨v,cellK c v z⟩
 ·obtain⟨e1,e2,e3,e4,e5⟩:=I.pin p hp;refine⟨n.keep _ _ (λz=>?_) (fx.pin p hp) (λz=>(ft p.1 z.symm).pin p hp rfl) e1,e2,e3,e4,e5⟩
  rcases vb.mp (I.stkSub p.1 z) with y|y
  ·exact e3 y
  ·exact e4 y
end
theorem Za9{P:Program}{w:World}{K:PySem.W.Frag}{mg:Str->Option Value}{base:Heap}{N:List Str}{qual:Str}{scope:Scope}{f:Addr}{cd:Value}{A:Around}{outer:List Env}{s0:Shared}{H0:Hp}{E:XK} :
  YbL (Zat (CX1 P w) P w K mg base N qual scope f cd A outer s0 H0 E) E:=by
 intro pins σ H s x C t tb I e1 e2 fx ft q;refine zbS (env:=envOfC qual scope s0.heap.objs.size f cd) (outer:=outer) (L:=s0.heap.objs.size) I.ok.frames I.stack rfl e1 e2 λh' T n g1 g2 g3=>?_;refine⟨x,C,t,.ref T,H,rfl,I.os,I.bare,Qbs I.base n fx.new (λT z=>(ft T z).new) λb o e hb=>Qbc I e hb,Ya9 I.hok n I.stkFree fx.un λT z=>(ft T z).un,g1,g2,fx.un,fx.new,λT' z=>?_,q⟩;cases z;exact⟨I.hok.fresh g3,Xz (Ve I.sz g3)⟩
theorem qcu{P:Program}{w:World}{K:PySem.W.Frag}{mg:Str->Option Value}{base:Heap}{N:List Str}{qual:Str}{scope:Scope}{f:Addr}{cd:Value}{A:Around}{outer:List Env}{s0:Shared}{H0:Hp}{E:XK}{CX:CXT} :
  PassesOwn (model P w) (Zat CX P w K mg base N qual scope f cd A outer s0 H0 E).A (Zat CX P w K mg base N qual scope f cd A outer s0 H0 E).env (Zat CX P w K mg base N qual scope f cd A outer s0 H0 E).xe:=PassesOwn.leaving
abbrev bmV:List Value:=[.type "ValueError",.type "Exception",.type "BaseException",.type "object"]
noncomputable def zU(K:PySem.W.Frag)(C:Addr):Prop:=vw K C bmV "ValueError.__new__"=true
noncomputable def QE(K:PySem.W.Frag)(C:Addr):List Value:=match K.lookup C with
 |some ⟨_,_,.cls cd,_⟩=>cd.mro.tail
 |_=>[]
theorem qaA{K:PySem.W.Frag}{h:Heap}{C:Addr}(KX:K.In h)(q:zU K C) :
  ∃ N nm qn bs hdct sn sub ab col dd k0 k1 k2 k3 k5 mN,h.get? C=some (excClassObj nm qn C N bs (QE K C) hdct sn sub ab col dd k0 k1 k2 k3 k5 "ValueError.__new__")/\h.Ns N mN/\mN "__init__"=none/\OwnTail h bmV (QE K C):=by
 unfold zU vw at q;split at q
 next dd cd sl ho =>
  split at q
  next C' bm k0 k1 k2 k3 n k5 hm hs =>
   simp only[Wa,beq_iff_eq,vi] at q;obtain⟨⟨⟨⟨⟨q1,q2⟩,q3⟩,q4⟩,q5⟩,q6⟩:=q;subst q1 q2;have emro:QE K C'=bm:=by unfold QE;rw[ho];dsimp only;rw[hm];rfl
   cases cd with
   |mk nm bs mro ns qn hd sn sub ab col del =>
    dsimp only at hm q3 q5 q6;subst hm q3;obtain⟨l⟩:=sl;dsimp only at hs;subst hs;rw[emro];exact⟨ns,nm,qn,bs,hd,sn,sub,ab,col,dd,k0,k1,k2,k3,k5,_,KX _ _ ho,.of_isNs (PySem.W.isNs_of_in KX q5),PySem.W.nsMap_none_of_in KX q5 q6,PySem.W.tail_of_in KX q4⟩
  next=>cases q
 next=>cases q
section
variable {X:Cx} {e:Expr} {es:List Expr} {ta:TA} {c:Str} {np cpos pos:Pos} {C:Addr} {E:XK}
noncomputable def QcO(C:Addr)(E:XK)(ta:TA):TS:=λ_ σ H=>ta σ H λvs H1=>vs.length<=sizeLine/\E (.ref C) none H1
theorem Zcc(hc:X.calm=true)(hx:X.ex=[])(T:YbL X E)(q:zU X.K C)(hg:Gl X c)(hm:X.mg c=some (.ref C))(ha:PA X (e::es) ta)(hd:(c==("__debug__":Str))=false:=by decide)
  (he:starEach (e::es) X.env=(false,eval e X.env)::starEach es X.env:=by rfl) (hpl:(backTo cpos (starEach es X.env)).any (·.1)=false:=by rfl) :
  PS X (.Raise (some (.Call (.Name c np) (e::es) [] cpos)) none pos) (QcO C E ta):=by
 intro pins s σ H D I h;obtain⟨N,nm,qn,bs,hdct,sn,sub,ab,col,dd,k0,k1,k2,k3,k5,mN,oC,oN,ni,TL⟩:=qaA I.ok.mod.kin q;refine wpAny_Raise_call_subT (C:=C) (nm:=nm) (q:=qn) (N:=N) (bs:=bs) (bm:=QE X.K C) (hdct:=hdct) (sn:=sn) (sub:=sub) (ab:=ab) (col:=col) (dd:=dd) (k0:=k0) (k1:=k1) (k2:=k2) (k3:=k3) (k5:=k5) (mN:=mN)
  PySem.F.excBase_ValueError (TL.hasType (by decide)) (I.ok.hd hc) (by rw[he];show(false||(backTo cpos (starEach es X.env)).any (·.1))=false;rw[hpl];rfl) ni (qX I hg hm ⟨rfl,?_⟩ hd)
 have hw:=ha cpos pins s σ H _ I h;rw[he] at hw ⊢;refine Calls.evalArgs_plain (wpAny_mono hw (λus s2 ⟨vs,H2,I2,r,z,q2⟩=>?_) λ_ _ y=>y);refine⟨rfl,by rw[<- r.length];exact z,I2.bk _ _ oC,oN.keeps I2.bk,TL.keeps I2.bk,λh' x hm'=>?_⟩;obtain⟨t,e1,e2,e3⟩:=hm'.there;have I3:Inv X pins σ H2 {s2 with heap:=h'}:=I2.kept (t':=s2.toks) hm'.keeps;have nx:H2 x=none:=by
  cases z:H2 x with
  |none=>rfl
  |some o =>
   obtain⟨o',e'⟩:∃ o',s2.heap.get? x=some o':=by
    have lt:=I2.hok x o z;cases q0:s2.heap.get? x with
    |some o'=>exact⟨o',rfl⟩
    |none =>
     exfalso;have z0:=lt;cases o with
     |lst xs=>obtain⟨_,_,_,_,e0⟩:=z0;rw[q0] at e0;cases e0
     |tup xs=>obtain⟨_,_,_,ob,e0,_⟩:=z0;rw[q0] at e0;cases e0
     |dK kvs=>obtain⟨_,_,_,_,ob,_,_,e0,_⟩:=z0;rw[q0] at e0;cases e0
     |dT kvs=>obtain⟨_,_,_,_,ob,_,_,e0,_⟩:=z0;rw[q0] at e0;cases e0
     |set S n=>obtain⟨ob,_,_,_,e0,_⟩:=z0;rw[q0] at e0;cases e0
     |ins C dx fs=>obtain⟨_,_,_,e0,_⟩:=z0;rw[q0] at e0;cases e0
     |own y=>obtain⟨_,e0⟩:=z0;rw[q0] at e0;cases e0
     |xd fs=>obtain⟨_,⟨_,_,_,e0,_⟩,_⟩:=z0;rw[q0] at e0;cases e0
     |rng lo hi=>obtain⟨_,_,_,e0⟩:=z0;rw[q0] at e0;cases e0
     |frz ob u=>obtain⟨e0,_⟩:=z0;rw[q0] at e0;cases e0
     |tbl ps=>have e0:s2.heap.get? x=some _:=z0;rw[q0] at e0;cases e0
     |met f y=>have e0:s2.heap.get? x=some _:=z0;rw[q0] at e0;cases e0
     |ext φ=>obtain⟨_,⟨_,e0⟩,_⟩:=z0;rw[q0] at e0;cases e0
   rw[hm'.new] at e';cases e'
 exact T pins σ H2 _ x C t .none I3 e1 .no (zac I2 hx hm'.new nx) (λT z=>nomatch z) q2
end
structure ExcK (K:PySem.W.Frag) (C:Addr):Prop where
 q:zU K C
 ga:Ua K (.ref C) "__getattribute__"=some (some (.builtin "BaseException.__getattribute__"))
 gt:Ua K (.ref C) "__getattr__"=some none
 cl:Ua K (.ref C) "__class__"=some (some (.builtin "object.__class__"))
 gn:Wp K (.builtin "object.__class__") "__get__"=some (some (.builtin "getset_descriptor.__get__"))
 tk:Xr K (.builtin "object.__class__")=some true
 mo:Wl K C (.type "object")=some true
 ci:(Vd K C).isSome=true
noncomputable def ExcAt(x C:Addr)(h:Heap):Prop:=∃ t tb,h.get? x=some (qt C t tb)
theorem zby{x C t:Addr}{tb:Value}{h:Heap}(e:h.get? x=some (qt C t tb)):PySem.W.InstAt h x (qt C t tb) C none:=⟨e,rfl,rfl,True.intro⟩
theorem Qbh{K:PySem.W.Frag}{C:Addr}{a g:Value}{name:Str}(hc:(Vd K C).isSome=true)(ha:Ua K (.ref C) name=some (some a))(hg:Wp K a "__get__"=some (some g))(ht:Xr K a=some true) :
  PySem.W.findObj K C none name=some (.bind g a):=by
 obtain⟨cd,hc⟩:=Wj.mp hc;unfold PySem.W.findObj;rw[hc,Xq,ha,Xq];simp[hg,ht]
theorem QbE{K:PySem.W.Frag}{C:Addr}(ci:(Vd K C).isSome=true)(M:Model)(h:Heap)(X:K.In h):PySem.W.Looks M h (isType (.ref C)) true:=by
 unfold Vd at ci;split at ci
 next ho =>
  intro A' Q' E' s' k q;unfold isType loadHead;exact wpAny_bind (wpAny_loadPart (k _ _ (X _ _ ho)) (wpAny_pure q))
 next=>cases ci
theorem ybT(v:Value):bindSpecial (.builtin "BaseException.__getattribute__") v=pure (.builtin "BaseException.__getattribute__",[v]):=PySem.F.attrBase_ValueError.ga.bind v
theorem ybX{K:PySem.W.Frag}{C x t:Addr}{tb nameV:Value}(q:zU K C){M:Model}{A:Around}{E:Value->Shared->Prop}{Q:Unit->Shared->Prop}{s:Shared}(X:K.In s.heap)(e:s.heap.get? x=some (qt C t tb))(hq:Q () s) :
  wpAny M A (checkBuiltinCall "BaseException.__getattribute__" ⟨[.ref x,nameV],[]⟩) Q E s:=by
 obtain⟨N,nm,qn,bs,hdct,sn,sub,ab,col,dd,k0,k1,k2,k3,k5,mN,oC,oN,ni,TL⟩:=qaA X q;obtain⟨hh,g,d,tk,os⟩:=s;have hcB:(Value.ref C::QE K C).contains (.type "BaseException")=true:=by rw[uw,TL.hasType (show bmV.contains (.type "BaseException")=true by decide)];rfl
 have hk:builtinKind "BaseException.__getattribute__"=some .slot:=by decide +kernel
 have hsp:splitId "BaseException.__getattribute__"=some ("BaseException","__getattribute__"):=by decide +kernel
 have ha:=PySem.F.args_bexc_ga (.ref x) nameV;simp only[checkBuiltinCall,hk,hsp];refine wpAny_bind ?_;unfold isInstance
 repeat (first|(with_reducible refine wpAny_loadPart_at e ?_)|(with_reducible refine wpAny_isSubtype_exc oC ?_;rw[hcB])|wp_step)
 exact hq
theorem qbT{K:PySem.W.Frag}{C x t:Addr}{tb:Value}(Z:ExcK K C){prog:Program}{w:World}{A:Around}{E:Value->Shared->Prop}{Q:Option Value->Shared->Prop}{s:Shared}(X:K.In s.heap)(e:s.heap.get? x=some (qt C t tb))(k:Q (some (.ref C)) {s with toks:=s.toks+1}) :
  wpAny (model prog w) A (getAttr? (.ref x) "__class__") Q E s:=by
 have I:=zby e;obtain⟨N,nm,qn,bs,hdct,sn,sub,ab,col,dd,k0,k1,k2,k3,k5,mN,oC,oN,ni,TL⟩:=qaA X Z.q;obtain⟨hh,g,d,tk,os⟩:=s;have L0:=I.type (M:=model prog w);have L1:=xq (M:=model prog w) X Z.ga;have L2:=xq (M:=model prog w) X Z.gt;have L3:=PySem.W.looks_find (M:=model prog w) X I (Qbh Z.ci Z.cl Z.gn Z.tk);have nb:(onTheHeap (Value.ref C)&&Value.builtin "BaseException.__getattribute__" == Value.builtin "object.__getattribute__")=false:=by
  rw[show(Value.builtin "BaseException.__getattribute__" == Value.builtin "object.__getattribute__")=false from by decide +kernel];rfl
 unfold getAttr? getAttrBy? getAttrBy;refine wpAny_bind (wpAny_mkText (wpAny_bind (wpAny_attempt (wpAny_holding (wpAny_bind (L0.at (wpAny_bind (L1.at ?_))))))));show wpAny _ _ (if(onTheHeap (Value.ref C)&&Value.builtin "BaseException.__getattribute__" == Value.builtin "object.__getattribute__")=true then _ else _) _ _ _;rw[if_neg (by rw[nb];exact Vc)];unfold getAttrByItsOwn hookBefore;rw[if_pos (show onTheHeap (Value.ref C)=true from rfl)];refine wpAny_bind (L2.at (wpAny_bind (wpAny_attempt (wpAny_holding ?_))));show wpAny _ _ (boundAndCalled (.builtin "BaseException.__getattribute__") (.ref x) _) _ _ _;unfold boundAndCalled;rw[ybT];refine wpAny_bind (wpAny_pure (wpAny_call (codeAny_call_builtin PySem.F.attrBase_ValueError.ga.plain PySem.F.entry_bexc_ga ?_)));refine ybX Z.q X e ?_;show wpAny _ _ (typeOf (.ref x) >>= _) _ _ _;refine wpAny_bind (L0.at (wpAny_bind (L3.at ?_)));show wpAny _ _ (Builtin.ObjectAttr.bindTo (.builtin "getset_descriptor.__get__") (.builtin "object.__class__") (.ref x) (.ref C)) _ _ _;unfold Builtin.ObjectAttr.bindTo;refine wpAny_bind (wpAny_holding (wpAny_call (PySem.W.class_get (ox:=qt C t tb) (od:=none) X I Z.mo (wpAny_pure ?_))));exact PySem.W.handed_on rfl (wpAny_pure k)
theorem zcd{K:PySem.W.Frag}{C x:Addr}(Z:ExcK K C):PySem.W.KitX K (.ref x) (.ref C) (ExcAt x C) where
 ty:=λM h _ ⟨t,tb,e⟩=>(zby e).type
 it:=λM h X _=>QbE Z.ci M h X
 ne:=λh tp dd its n sl X htp=>by
  refine Bool.eq_false_iff.mpr λq=>?_;have e:C=tp:=Value.ref.inj (beq_iff_eq.mp q);subst e;have ci:=Z.ci;unfold Vd at ci;split at ci
  next ho =>
   have z:=(X _ _ ho).symm.trans htp;cases z
  next=>cases ci
 ca:=λX ⟨t,tb,e⟩ k=>qbT Z X e k
section
variable {X:Cx} {pins:List (Addr×Obj)} {σ:L2.St} {H:Hp} {s:Shared}
theorem qbR{i:Nat}{n:Str}{h':Heap}{t':Nat}(I:Inv X pins σ H s)(hN:X.N.Nodup)(hi:X.N[i]?=some n)
  {m m':Str->Option Value} (hn:s.heap.Ns X.env.locals m) (hl:∀(i:Nat)(x:Str)(v:V),X.N[i]?=some x->σ[i]?=some (some v)->Vis X.env.scope x->∃ u,RelV v u/\Look X.env s.heap m x u) (hn':h'.Ns X.env.locals m') (hm:∀ y,y≠n->m' y=m y) (hs:Heap.SameBut X.env.locals s.heap h'):Inv X pins (σ.set i none) H {s with heap:=h',toks:=t'}:=by
 obtain⟨oL,_,_,gL,_⟩:=id hn;have hiσ:i<σ.length:=by rw[I.len];exact(Xa.mp hi).1
 have nl:∀ b o,X.s₀.heap.get? b=some o->b≠X.env.locals:=λb o e=>Wc (wc (Va e) I.ok.above);refine⟨I.ok,I.os,I.bare,⟨λb o e q hb hx=>(hs.2 b (nl b o e)).trans (I.base.keep b o e q hb hx),λb o e q hb hx=>?_,I.base.free,λb o e hx=>?_,I.base.tups,I.base.frzs,I.base.tbls⟩,⟨m',hn',λj y v e1 e2 e3=>?_⟩,λy c e=>?_,I.free,I.freeC,λp hp=>?_,λb u e=>?_,by simpa using I.len⟩
 ·obtain⟨sl,z⟩:=I.base.slot b o e q hb hx;exact⟨sl,(hs.2 b (nl b o e)).trans z⟩
 ·obtain⟨o',z⟩:=I.base.there b o e hx;exact⟨o',(hs.2 b (nl b o e)).trans z⟩
 ·by_cases hj:j=i
  ·subst hj;rw[Ug hiσ] at e2;cases e2
  ·rw[Vf (Ne.symm hj)] at e2;obtain⟨u,r,q⟩:=hl j y v e1 e2 e3;refine⟨u,r,?_⟩
   rcases q with ⟨k,e⟩|⟨k,c,e,z⟩
   ·exact .inl ⟨k,by rw[hm y λz=>hj (QaR hN e1 (z ▸ hi))];exact e⟩
   ·exact .inr ⟨k,c,e,z.sameBut hs (I.cne y c e)⟩
 ·obtain⟨v,z⟩:=I.cell y c e;exact⟨v,z.sameBut hs (I.cne y c e)⟩
 ·obtain⟨e,q,ne,nf,d⟩:=I.pin p hp;exact⟨(hs.2 p.1 ne).trans e,q,ne,nf,d⟩
 ·refine(I.hok b u e).stay (λc v hc q=>(hs.2 c ?_).trans q) (λ_ q=>q) λ_ _ q=>q;rintro rfl
  rcases hc with rfl|hc
  ·rw[I.free] at e;cases e
  ·rw[I.free] at hc;cases hc
theorem Yac{i:Nat}{n:Str}{pos:Pos}{A:Around}{E:Value->Shared->Prop}{Q:Unit->Shared->Prop}(I:Inv X pins σ H s)(hN:X.N.Nodup)(hi:X.N[i]?=some n)(hk:X.env.scope.names.lookup n=some .local)
  (h:∀ s',Inv X pins (σ.set i none) H s'->Q () s'):wpAny (model X.prog X.w) A (do bindName X.env n .none;unbindBehindTheSuite X.env n pos) Q E s:=by
 have hp:(X.env.scope.kind == .class||(X.env.scope.kind == .module&&X.env.locals != X.env.globals))=false:=by rw[I.ok.kind];rfl
 obtain⟨m,hn,hl⟩:=id I.loc;refine wpAny_bind (wpAny_bindName (wpAny_storeName_local hk hn (λh1 n1 s1=>?_) hp));unfold unbindBehindTheSuite;refine wpAny_onRaise (wpAny_unbindName_local hk n1 (v:=.none) (by simp) hp λh2 u n2 s2=>h _ ?_);show Inv X pins (σ.set i none) H {s with heap:=h2,toks:=s.toks+1};exact qbR (s:=s) I hN hi hn hl n2 (λy hy=>by simp[hy]) (s1.trans s2)
end
theorem zbq{K:PySem.W.Frag}{C B x t:Addr}{tb:Value}(q:zU K C)(qB:zU K B)(hin:(QE K C).contains (.ref B)=true){M:Model}{A:Around}{E:Value->Shared->Prop}{Q:Bool->Shared->Prop}{s:Shared}(X:K.In s.heap)(e:s.heap.get? x=some (qt C t tb))(hq:Q true s) :
  wpAny M A (excMatches (.ref x) (.ref B)) Q E s:=by
 obtain⟨N,nm,qn,bs,hdct,sn,sub,ab,col,dd,k0,k1,k2,k3,k5,mN,oC,oN,ni,TL⟩:=qaA X q;obtain⟨N',nm',qn',bs',hdct',sn',sub',ab',col',dd',k0',k1',k2',k3',k5',mN',oB,oN',ni',TL'⟩:=qaA X qB;obtain⟨hh,g,d,tk,os⟩:=s;have hB:(Value.ref B::QE K B).contains (.type "BaseException")=true:=by rw[uw,TL'.hasType (show bmV.contains (.type "BaseException")=true by decide)];rfl
 have hC:(Value.ref C::QE K C).contains (.ref B)=true:=by rw[uw,hin,Bool.or_true]
 have f:=tc_notTuple;unfold excMatches
 repeat (first|(with_reducible refine wpAny_loadPart_at e ?_)|(with_reducible refine wpAny_loadPart_at oB ?_)|(with_reducible refine wpAny_isSubtype_exc oB ?_;rw[hB])|(with_reducible refine wpAny_isSubtype_exc oC ?_;rw[hC])|wp_step)
 exact hq
noncomputable def Wt(X:Cx)(pins:List (Addr×Obj))(σ:L2.St)(E:XK):Value->Shared->Prop:=λe s'=>∃ x C t tb H',e=.ref x/\Inv X pins σ H' s'/\s'.heap.get? x=some (qt C t tb)/\Tb s'.heap x tb/\ExOk X pins H' x/\(∀ T,tb=.ref T->ExOk X pins H' T)/\E (.ref C) none H'
noncomputable def cxT(X:Cx)(pins:List (Addr×Obj))(σ:L2.St)(E:XK):Cx:={X with pn:=X.pn++pins,xe:=Wt X pins σ E}
section
variable {X:Cx} {pins pl:List (Addr×Obj)} {σ σ0:L2.St} {H:Hp} {s:Shared} {E:XK}
theorem qcq(I:Inv X pins σ H s):Inv (cxT X pins σ0 E) [] σ H s :=
 ⟨⟨I.ok.mod,I.ok.kind,I.ok.glob,I.ok.blt,I.ok.above,I.ok.inj,I.ok.has,I.ok.cab,I.ok.hd,I.ok.frames,I.ok.stk,I.ok.exf,I.ok.bs,I.ok.bsz,I.ok.noex,I.ok.exfs,I.ok.funs,I.ok.frf⟩,I.os,I.bare,I.base,I.loc,I.cell,I.free,I.freeC,λp hp=>I.pin p (by rw[Xi] at hp;exact hp),I.hok,I.len⟩
theorem Yax(I:Inv (cxT X pins σ0 E) pl σ H s):Inv X pins σ H s :=
 ⟨⟨I.ok.mod,I.ok.kind,I.ok.glob,I.ok.blt,I.ok.above,I.ok.inj,I.ok.has,I.ok.cab,I.ok.hd,I.ok.frames,I.ok.stk,I.ok.exf,I.ok.bs,I.ok.bsz,I.ok.noex,I.ok.exfs,I.ok.funs,I.ok.frf⟩,I.os,I.bare,I.base,I.loc,I.cell,I.free,I.freeC,λp hp=>I.pin p (ue _ hp),I.hok,I.len⟩
theorem Zbw{b:Addr}(f:ExOk (cxT X pins σ0 E) pl H b):ExOk X pins H b:=⟨f.un,f.loc,f.fs,f.new,f.cell,λp hp=>f.pin p (ue _ hp)⟩
noncomputable def zy(CX:CXT)(X:Cx)(σ:L2.St)(E:XK):Prop:=∀(pins:List (Addr×Obj)) (H:Hp) (s:Shared) (e:Value) (s':Shared),Inv X pins σ H s->CX X.stack H s E e s'->X.xe e s'
theorem YbH(hx:X.ex=[]):zy (CX1 X.prog X.w) (cxT X pins σ E) σ E:=by
 intro pl H s e s' I h;obtain⟨x,C,t,tb,H',rfl,os,bare,un,hok,e1,e2,e3,e4,e5,q⟩:=h;have I':Inv (cxT X pins σ E) pl σ H' s':=I.call' (ch:=[]) os un hok bare λb z=>nomatch z;exact⟨x,C,t,tb,H',rfl,Yax I',e1,e2,Zbw (zac I hx e4 e3),λT' z=>Zbw (zac I hx (e5 T' z).2 (e5 T' z).1),q⟩
end
section
variable {X:Cx} {CX:CXT} {k:Nat} {f C:Addr} {fd:FuncData} {ps:List Str} {sp:Sp} {dvs:List V} {ds:List Value} {E:XK} {x m:Str} {p pos apos:Pos} {e o:Expr} {es:List Expr} {ta:TE} {t:TA} {σ0:L2.St}
theorem Ybf{pins:List (Addr×Obj)}{H:Hp}{s:Shared}{Q:VK}{us:List Value}{vs:List V}(F:FnOk X.prog X.w X.K X.mg X.base CX k f fd ps sp)(hr:Room k X.A)(hb:Binds X.K fd ps ds)(hd:Vals dvs ds)(hx:zy CX X σ0 E)
  (I:Inv X pins σ0 H s) (r:Vals vs us) (h:sp (vs++dvs) H Q E):wpAny (model X.prog X.w) X.A (call (.ref f) us) (EP X pins σ0 Q) X.xe s:=by
 have r2:Vals (vs++dvs) (us++ds):=r.append hd;have hl:(us++ds).length=ps.length:=by rw[<- r2.length];exact F.len _ _ _ _ h
 refine wpAny_call (codeAny_mono (F.run X.A X.stack s H ⟨us,[]⟩ (us++ds) (vs++dvs) Q E hr I.env0 (hb s us I.kIn hl) r2 h) λr s' hq=>?_);cases r with
 |error e=>exact hx pins H s e s' I hq
 |ok fl =>
  cases fl with
  |ret u=>exact I.after hq
  |next=>exact False.elim hq
  |brk=>exact False.elim hq
  |cont=>exact False.elim hq
noncomputable def Zb8(σ0:L2.St)(sp:Sp)(dvs:List V)(E:XK)(t:TA):TE:=λσ H Q=>σ=σ0/\t σ H λvs H1=>sp (vs++dvs) H1 Q E
theorem Qcf(F:FnOk X.prog X.w X.K X.mg X.base CX k f fd ps sp)(hr:Room k X.A)(hg:Gl X x)(hm:X.mg x=some (.ref f))(hk:Uc X.K (.ref f)=true)(hb:Binds X.K fd ps ds)(hd:Vals dvs ds)(hx:zy CX X σ0 E)
  (ha:PA X (e::es) t) (hdb:(x==("__debug__":Str))=false:=by decide) (he:starEach (e::es) X.env=(false,eval e X.env)::starEach es X.env:=by rfl) (hpl:(backTo pos (starEach es X.env)).any (·.1)=false:=by rfl) :
  PE X (.Call (.Name x p) (e::es) [] pos) (Zb8 σ0 sp dvs E t):=by
 intro pins s σ H Q I h;obtain⟨rfl,h⟩:=h;refine wpAny_Call_Name_kw (qX I hg hm ?_ hdb);refine Vr (h₀:=X.base) I.ok.mod.kin hk (thn (ha pos pins s σ H _ I h) λus s1 ⟨vs,H1,I1,r,q⟩=>⟨I1.kIn,?_⟩) he hpl;exact Ybf F hr hb hd hx I1 r q
theorem qbU{pins:List (Addr×Obj)}{H:Hp}{s:Shared}{Q:VK}{us:List Value}{vs:List V}(M:Mk X.K C f)(F:FnOk X.prog X.w X.K X.mg X.base CX k f fd ps sp)(hr:Room (k+1) X.A)(hb:Binds X.K fd ps ds)(hd:Vals dvs ds)
  (hx:zy CX X σ0 E) (I:Inv X pins σ0 H s) (r:Vals vs us)
  (h:∀ x dx,H x=none->H dx=none->dx≠x->sp (.ref x::(vs++dvs)) (upd (upd H dx (.own x)) x (.ins C dx [])) (λv H2=>v=.non/\Q (.ref x) H2) E) :
  wpAny (model X.prog X.w) X.A (call (.ref C) us) (EP X pins σ0 Q) X.xe s:=by
 have hq:=h (s.heap.objs.size+1) s.heap.objs.size (I.hok.fresh (Uy _)) (I.hok.fresh (xb _)) (Wc (Vn _));have I2:=Inv.made (C:=C) I;have r2:Vals (V.ref (s.heap.objs.size+1)::(vs++dvs)) (Value.ref (s.heap.objs.size+1)::(us++ds)):=.cons rfl (r.append hd);have hl:(Value.ref (s.heap.objs.size+1)::us++ds).length=ps.length:=by
  have e:=r2.length;rw[F.len _ _ _ _ hq] at e;exact e.symm
 refine wpAny_call (zb7 (f:=f) I.kIn M.makes M.init (beq_iff_eq.mp M.fn) (codeAny_mono (F.run _ X.stack _ _ ⟨Value.ref (s.heap.objs.size+1)::us,[]⟩ (Value.ref (s.heap.objs.size+1)::(us++ds)) _ _ E (hr.make C us [])
  (I2.env0.make C us []) (hb _ (Value.ref (s.heap.objs.size+1)::us) I2.kIn hl) r2 hq) λr s' hq'=>?_))
 cases r with
 |error e=>exact hx pins _ _ e s' I2 hq'
 |ok fl =>
  cases fl with
  |ret u =>
   obtain⟨v,H',I3,rv,ev,q3⟩:=I2.after hq';subst ev;exact⟨rv,⟨V.ref (s.heap.objs.size+1),H',I3,rfl,q3⟩⟩
  |next=>exact False.elim hq'
  |brk=>exact False.elim hq'
  |cont=>exact False.elim hq'
noncomputable def Zck(σ0:L2.St)(C:Addr)(sp:Sp)(dvs:List V)(E:XK)(t:TA):TE:=λσ H Q=>σ=σ0/\t σ H λvs H1=>∀ x dx,H1 x=none->H1 dx=none->dx≠x ->
 sp (.ref x::(vs++dvs)) (upd (upd H1 dx (.own x)) x (.ins C dx [])) (λv H2=>v=.non/\Q (.ref x) H2) E
theorem Ycl(M:Mk X.K C f)(F:FnOk X.prog X.w X.K X.mg X.base CX k f fd ps sp)(hr:Room (k+1) X.A)(hg:Gl X x)(hm:X.mg x=some (.ref C))(hb:Binds X.K fd ps ds)(hd:Vals dvs ds)(hx:zy CX X σ0 E)
  (ha:PA X (e::es) t) (hdb:(x==("__debug__":Str))=false:=by decide) (he:starEach (e::es) X.env=(false,eval e X.env)::starEach es X.env:=by rfl) (hpl:(backTo pos (starEach es X.env)).any (·.1)=false:=by rfl) :
  PE X (.Call (.Name x p) (e::es) [] pos) (Zck σ0 C sp dvs E t):=by
 intro pins s σ H Q I h;obtain⟨rfl,h⟩:=h;refine wpAny_Call_Name_kw (qX I hg hm ?_ hdb);refine Vr (h₀:=X.base) I.ok.mod.kin M.kp (thn (ha pos pins s σ H _ I h) λus s1 ⟨vs,H1,I1,r,q⟩=>⟨I1.kIn,?_⟩) he hpl;exact qbU M F hr hb hd hx I1 r q
end
section
variable {M:Model} {A:Around} {E:Value->Shared->Prop} {s:Shared}
theorem qbF{base:Heap}{env:Env}{outer:List Env}{L x C t:Addr}{tb:Value}{Q:Unit->Shared->Prop}
  (hfr:A.frames=some (env::outer)) (hl:s.heap.FunFrames base (env::outer)) (hf:env.frame=some L) (he:s.heap.get? x=some (qt C t tb)) (ht:Tb s.heap x tb)
  (h:∀ h' T,Noted ((env::outer).filterMap (·.frame)) x tb s.heap h'->h'.get? x=some (qt C t (.ref T))->Tb h' x (.ref T)->s.heap.objs.size<=T->Q () {s with heap:=h'}) :
  wpAny M A (noteFrame (.ref x) env) (λ_ s'=>wpAny M A (setFlight (.ref x) none) Q E s') E s:=by
 unfold noteFrame;simp only[hf];refine wpAny_bind (wpAny_field he rfl (x:=tb) rfl ?_);cases ht with
 |no =>
  rw[if_neg (by decide)];exact YW hfr hl hf he λh' T k1 k2 e1 e2 e3=>h h' T ⟨λb o hb nb _ eb=>k1 b o hb nb eb,λb o hb _ _ eb=>k2 b o hb eb⟩ e1 e2 e3
 |@«at» T o ts ne ho hd h3 =>
  rw[if_pos (show(Value.ref T != Value.none)=true from by simp)];refine wpAny_bind (wpAny_field ho hd h3 ?_);rw[if_neg (show ¬((Value.none==rawInt L)=true) from by simp[rawInt])];refine wpAny_bind (wpAny_setField ho hd (Uq.mp h3).1 ?_);have other:∀ b,b≠T->(s.heap.update T (Obj.mapFields (·.setIfInBounds 3 Value.none))).get? b=s.heap.get? b:=λb nb=>uh _ _ (Ne.symm nb);have nrec:∀ b o,s.heap.get? b=some o->(∀ vs,o.data≠.fields vs)->b≠T:=λb o eb nf z=>by
   rw[z,ho] at eb;cases eb;exact nf ts hd
  refine YW (s:={s with heap:=s.heap.update T (Obj.mapFields (·.setIfInBounds 3 Value.none))}) hfr (hl.of_keeps λb o eb nf=>⟨o,(other b (nrec b o eb nf)).trans eb,rfl⟩) hf ((other x (Ne.symm ne)).trans he)
   λh' T' k1 k2 e1 e2 e3=>h h' T' ⟨λb o hb nb nt eb=>k1 b o hb nb ((other b λz=>nt (z ▸ rfl)).trans eb),λb o hb _ nt eb=>k2 b o hb ((other b λz=>nt (z ▸ rfl)).trans eb)⟩ e1 e2 ?_
  have e3':(s.heap.update T (Obj.mapFields (·.setIfInBounds 3 Value.none))).objs.size<=T':=e3;rw[uy] at e3';exact e3'
theorem ybu{x C t T:Addr}{Q:Unit->Shared->Prop}(he:s.heap.get? x=some (qt C t (.ref T)))(ht:Tb s.heap x (.ref T))(h:Q () s):wpAny M A (setFlight (.ref x) none) Q E s:=by
 cases ht with
 |@«at» _ o ts ne ho hd h3 =>
  refine wpAny_setFlight_none he rfl rfl ho hd (Uq.mp h3).1 ?_;have e:=Heap.update_setField_same s.heap T o ts 3 .none ho hd h3;have e':({s with heap:=s.heap.update T (Obj.mapFields (·.setIfInBounds 3 Value.none))}:Shared)=s:=by rw[e]
  rw[e'];exact h
end
noncomputable def cxH(X:Cx)(x:Addr)(o:Obj):Cx:={X with A:=X.A.mark (some (.ref x)),calm:=false,pn:=X.pn++[(x,o)],xe:=λ_ _=>False}
section
variable {X:Cx} {pins:List (Addr×Obj)} {σ:L2.St} {H:Hp} {s:Shared} {x:Addr} {o:Obj}
theorem zcz(I:Inv X pins σ H s)(g:s.heap.get? x=some o)(f:ExOk X pins H x)(d:∀ v,o.data≠.cell v):Inv (cxH X x o) pins σ H s :=
 ⟨⟨I.ok.mod,I.ok.kind,I.ok.glob,I.ok.blt,I.ok.above,I.ok.inj,I.ok.has,I.ok.cab,λz=>absurd (show false=true from z) Vc,I.ok.frames,I.ok.stk,I.ok.exf,I.ok.bs,I.ok.bsz,I.ok.noex,I.ok.exfs,I.ok.funs,I.ok.frf⟩,I.os,I.bare,I.base,I.loc,I.cell,I.free,I.freeC,λp hp=>by
  rcases Uh.mp hp with hp|hp
  ·rcases Uh.mp hp with hp|hp
   ·exact I.pin p (ue _ hp)
   ·obtain rfl:=va.mp hp;exact⟨g,f.un,f.loc,f.fs,d⟩
  ·exact I.pin p (Ud _ hp),I.hok,I.len⟩
theorem QaN(ok:X.Ok)(I:Inv (cxH X x o) pins σ H s):Inv X pins σ H s :=
 ⟨ok,I.os,I.bare,I.base,I.loc,I.cell,I.free,I.freeC,λp hp=>by
  rcases Uh.mp hp with hp|hp
  ·exact I.pin p (ue _ (ue _ hp))
  ·exact I.pin p (Ud _ hp),I.hok,I.len⟩
end
section
variable {X:Cx} {body suite:List Stmt} {c0 n:Str} {b0:Stmt} {np hpos pos:Pos} {i:Nat} {B:Addr} {tb:L2.St->XK->TS} {th:Addr->Addr->Addr->Addr->TS}
noncomputable def tTry(K:PySem.W.Frag)(i:Nat)(B:Addr)(tb:L2.St->XK->TS)(th:Addr->Addr->Addr->Addr->TS):TS:=λD σ H=>∃ E:XK,tb σ E D σ H/\∀ C H',E (.ref C) none H'->zU K C/\(QE K C).contains (.ref B)=true /\
 ∀ x t T,H' x=none->th x C t T {nx:=λσ' H2=>D.nx (σ'.set i none) H2,rt:=D.rt,bk:=λσ' H2=>D.bk (σ'.set i none) H2,ct:=λσ' H2=>D.ct (σ'.set i none) H2} (σ.set i (some (.ref x))) H'
theorem ycY(hst:X.stack=X.env::X.outer)(hef:X.env.frame=some X.env.locals)(hN:X.N.Nodup)(hi:X.N[i]?=some n)(hk:X.env.scope.names.lookup n=some .local)(qB:zU X.K B)(hg:Gl X c0)(hm:X.mg c0=some (.ref B))
  (hb:∀ pins σ E,PSs (cxT X pins σ E) body (tb σ E)) (hh:∀ x C t T,PSs (cxH X x (qt C t (.ref T))) (b0::suite) (th x C t T)) (hd:(c0==("__debug__":Str))=false:=by decide) :
  PS X (.Try body [.ExceptHandler (some (.Name c0 np)) (some n) (b0::suite) hpos] [] [] pos) (tTry X.K i B tb th):=by
 intro pins s σ H D I h;obtain⟨E,hbod,hand⟩:=h;refine wpAny_Try_except (wpAny_mono (hb pins σ E [] s σ H D (qcq I) hbod) (λf s1 q=>?_) λe s1 q=>?_)
 ·cases f with
  |next=>obtain⟨σ',H',I',q⟩:=q;exact wpAny_execs_nil ⟨σ',H',Yax I',q⟩
  |brk=>obtain⟨σ',H',I',q⟩:=q;exact⟨σ',H',Yax I',q⟩
  |cont=>obtain⟨σ',H',I',q⟩:=q;exact⟨σ',H',Yax I',q⟩
  |ret u=>obtain⟨v,σ',H',I',r,q⟩:=q;exact⟨v,σ',H',Yax I',r,q⟩
 ·obtain⟨x,C,t,tb',H',rfl,I1,g1,t1,fx,ft,q⟩:=q;obtain⟨qC,hin,hand⟩:=hand C H' q;refine qbF (env:=X.env) (outer:=X.outer) (L:=X.env.locals) (by rw[I1.ok.frames,hst]) (by have z:=I1.stack;rw[hst] at z;exact z) hef g1 t1 λh' T n1 g2 t2 g3=>?_;have n1':Noted (frs X.stack) x tb' s1.heap h':=by rw[hst];exact n1
  have I2:Inv X pins σ H' {s1 with heap:=h'}:=zbU (t':=s1.toks) I1 n1' g1 t1 fx ft;have IH:=zcz (o:=qt C t (.ref T)) I2 g2 fx (λv z=>nomatch z);refine wpAny_handleBy_cons (codeAny_handlers_test (qX (X:=cxH X x (qt C t (.ref T))) IH hg hm ?_ hd)) (λz=>nomatch z);refine zbq qC qB hin IH.kIn g2 (codeAny_handlers_suite_as (ybu g2 t2 ?_));refine yaU (X:=cxH X x (qt C t (.ref T))) IH hN hi (.inl hk) (v:=.ref x) (u:=.ref x) rfl (λs3 I3=>?_) (.inr hk);refine wpAny_mono (hh x C t T pins s3 _ H' _ I3 (hand x t T fx.un)) (λf s4 q4=>?_) λ_ _ z=>z.elim;cases f with
  |next=>obtain⟨σ4,H4,I4,q4⟩:=q4;exact Yac (QaN I.ok I4) hN hi hk λs5 I5=>⟨_,H4,I5,q4⟩
  |brk=>obtain⟨σ4,H4,I4,q4⟩:=q4;exact Yac (QaN I.ok I4) hN hi hk λs5 I5=>⟨_,H4,I5,q4⟩
  |cont=>obtain⟨σ4,H4,I4,q4⟩:=q4;exact Yac (QaN I.ok I4) hN hi hk λs5 I5=>⟨_,H4,I5,q4⟩
  |ret u=>obtain⟨v,σ4,H4,I4,r4,q4⟩:=q4;exact Yac (QaN I.ok I4) hN hi hk λs5 I5=>⟨v,_,H4,I5,r4,q4⟩
end
structure FunD (K:PySem.W.Frag) (x qual:Str) (st:Stmt) (f:Addr) (fd:FuncData):Prop where
 ex:∃(oc:Value)(od:Option Addr)(dV kV doc pm:Value)(an:Option Addr)(cdv ct:Value) (osl:Array (Option Value)),
  fd=Wf x qual (Qk st) (Zg st) (yb st) dV kV doc pm an cdv ct/\K.lookup f=some ⟨oc,od,.func fd,osl⟩/\Xg K cdv qual=true
 kp:Uc K (.ref f)=true
theorem Zcq{K:PySem.W.Frag}{x qual:Str}{st:Stmt}{f:Addr}{oc:Value}{od an:Option Addr}{osl:Array (Option Value)}{dV kV doc pm cdv ct:Value}(l:K.lookup f=some ⟨oc,od,.func (Wf x qual (Qk st) (Zg st) (yb st) dV kV doc pm an cdv ct),osl⟩)
  (c:Xg K cdv qual=true) (k:Uc K (.ref f)=true):FunD K x qual st f (Wf x qual (Qk st) (Zg st) (yb st) dV kV doc pm an cdv ct):=⟨⟨oc,od,dV,kV,doc,pm,an,cdv,ct,osl,rfl,l,c⟩,k⟩
structure RoomH (k:Nat) (A:Around) (x:Addr):Prop where
 hd:A.handled=some (.ref x)
 dp:A.depth+3*k+5<recursionLimit
 un:A.units+16*k+200<cLine
theorem RoomH.of{k:Nat}{A:Around}{x:Addr}(r:Room k A):RoomH k (A.mark (some (.ref x))) x:=⟨rfl,r.dp,r.un⟩
theorem RoomH.deeper{k:Nat}{A:Around}{x:Addr}(r:RoomH (k+1) A x)(env:Env):RoomH k (A.deeper env) x :=
 ⟨r.hd,by have:=r.dp;show A.depth+1+3*k+5<_;lia,by have:=r.un;show A.units+3+16*k+200<_;lia⟩
structure FnOkH (P:Program) (w:World) (K:PySem.W.Frag) (mg:Str->Option Value) (base:Heap) (k:Nat) (f:Addr) (fd:FuncData) (ps:List Str) (sp:Addr->Addr->Sp):Prop where
 len:∀ x C vs H Q E,sp x C vs H Q E->vs.length=ps.length
 run:∀(x C t T:Addr)(A:Around)(outer:List Env)(s:Shared)(H:Hp) (args:Args) (us:List Value) (vs:List V) (Q:VK),RoomH k A x->Env0 P w K mg base A outer s H->s.heap.get? x=some (qt C t (.ref T))->H x=none->BindsTo s fd args (ps.zip us)->Vals vs us->sp x C vs H Q E0 ->
  codeAny (model P w) A (.call (.ref f) args) (CR CX0 outer P w H s Q E0) s
theorem zcu{X:Cx}{σ:L2.St}{H:Hp}{s:Shared}{x:Addr}{o:Obj}{A':Around}(I:Inv X [] σ H s)(hpn:X.pn=[])(hA:A'.frames=X.A.frames)(g:s.heap.get? x=some o)(un:H x=none)(nl:x≠X.env.locals)(nf:x∉X.fs)(d:∀ v,o.data≠.cell v) :
  Inv {X with A:=A',calm:=false,pn:=[(x,o)],xe:=λ_ _=>False} [] σ H s :=
 ⟨⟨I.ok.mod,I.ok.kind,I.ok.glob,I.ok.blt,I.ok.above,I.ok.inj,I.ok.has,I.ok.cab,λz=>absurd (show false=true from z) Vc,hA.trans I.ok.frames,I.ok.stk,I.ok.exf,I.ok.bs,I.ok.bsz,I.ok.noex,I.ok.exfs,I.ok.funs,I.ok.frf⟩,I.os,I.bare,I.base,I.loc,I.cell,I.free,I.freeC,λp hp=>by
  have hp':p∈[(x,o)]++[]:=hp;rw[Xi] at hp';obtain rfl:=va.mp hp';exact⟨g,un,nl,nf,d⟩,I.hok,I.len⟩
noncomputable def cxFH(P:Program)(w:World)(K:PySem.W.Frag)(mg:Str->Option Value)(base:Heap)(N:List Str)(qual:Str)(scope:Scope)(f:Addr)(cd:Value)(A:Around)(outer:List Env)(s:Shared)(H:Hp)(x:Addr)(o:Obj):Cx :=
 {Zat CX0 P w K mg base N qual scope f cd {A with handled:=none} outer s H E0 with A:=A.deeper (envOfC qual scope s.heap.objs.size f cd),calm:=false,pn:=[(x,o)],xe:=λ_ _=>False}
theorem zcJ{P:Program}{w:World}{K:PySem.W.Frag}{mg:Str->Option Value}{base:Heap}{k:Nat}{f:Addr}{nm qual:Str}{st:Stmt}{fd:FuncData}{N ps:List Str}{sp:Addr->Addr->Sp}(F:FunD K nm qual st f fd)(S:FnScope N ps (yb st))
  (len:∀ x C vs H Q E,sp x C vs H Q E->vs.length=ps.length)
  (hbody:∀(x C t T:Addr)(cdv:Value)(A:Around)(outer:List Env)(s:Shared) (H:Hp) (vs:List V) (Q:VK),RoomH k (A.deeper (envOfC qual (yb st) s.heap.objs.size f cdv)) x->sp x C vs H Q E0 ->
   ∃ tr,PSs (cxFH P w K mg base N qual (yb st) f cdv A outer s H x (qt C t (.ref T))) (Zg st) tr/\tr {nx:=λ_ H'=>Q .non H',rt:=Q} (start N vs) H) :
  FnOkH P w K mg base (k+1) f fd ps sp:=by
 obtain⟨oc,od,dV,kV,doc,pm,an,cdv,ct,osl,rfl,lk,hcd⟩:=F.ex;refine⟨len,λx C t T A outer s H args us vs Q hr e0 gx nx hb r hsp=>?_⟩;have hl:=len _ _ _ _ _ _ hsp;have KX:K.In s.heap:=e0.mod.kin.keeps λb o e=>(e0.bs b o e).1;have lim:s.heap.NoLimit:=e0.mod.nolimit.keeps λb o e=>(e0.bs b o e).1;have hkind:∀ y∈ps.zip us,(yb st).names.lookup y.1=some .local\/((yb st).names.lookup y.1=some .cell/\((cellsFrom (s.heap.objs.size+1) (yb st).names []).lookup y.1).isSome=true):=λ⟨n,v⟩ hy=>by
  rcases S.par n (xu hy).1 with q|q
  ·exact .inl q
  ·exact .inr ⟨q,Xt _ _ _ (.inl q)⟩
 refine codeAny_call_function (by have:=hr.dp;lia) (KX _ _ lk) rfl S.co S.gen rfl (VA KX hcd) (hb _ _ _ _ ?_);refine wpAny_newFunctionEnv_cells S.kind hkind λenv he s1 xx=>?_;subst he;refine⟨lim.keeps xx.toInCall.keep,codeAny_func ?_⟩;obtain⟨tr,ht,hq⟩:=hbody x C t T cdv A outer s H vs Q (hr.deeper _) hsp;have e0':Env0 P w K mg base {A with handled:=none} outer s H:=⟨e0.frames,e0.mod,e0.bs,e0.bsz,e0.funs,e0.frf,e0.hok,e0.bare⟩;have I0:Inv (Zat CX0 P w K mg base N qual (yb st) f cdv {A with handled:=none} outer s H E0) [] (start N vs) H s1:=za9 S rfl e0' hl r xx;have I:Inv (cxFH P w K mg base N qual (yb st) f cdv A outer s H x (qt C t (.ref T))) [] (start N vs) H s1:=by
  refine zcu I0 rfl rfl (xx.toInCall.keep _ _ gx) nx (Wc (Va gx)) (λz=>?_) (λv z=>nomatch z);obtain⟨_,o,e,nf⟩:=e0.funs.mem z;rw[gx] at e;cases e;exact nf _ rfl
 refine wpAny_mono (ht [] s1 (start N vs) H _ I hq) (λfl s' hs=>?_) λe s' hs=>hs.elim;have fin:∀{σ':L2.St}{H':Hp}{v:V}{u:Value},Inv (cxFH P w K mg base N qual (yb st) f cdv A outer s H x (qt C t (.ref T))) [] σ' H' s'->RelV v u->Q v H'->CE outer P w H s Q u s' :=
  λ{σ' H' v u} J rv q=>⟨v,H',J.os,J.bare,J.base,J.hok,rv,q⟩
 cases fl with
 |ret u=>obtain⟨v,σ',H',J,rv,q⟩:=hs;exact fin J rv q
 |next=>obtain⟨σ',H',J,q⟩:=hs;exact fin (v:=V.non) (u:=Value.none) J rfl q
 |brk=>obtain⟨_,_,_,q⟩:=hs;exact False.elim q
 |cont=>obtain⟨_,_,_,q⟩:=hs;exact False.elim q
section
variable {X:Cx} {k:Nat} {f x0 C t T:Addr} {fd:FuncData} {ps:List Str} {sp:Addr->Addr->Sp} {x:Str} {p pos:Pos} {e:Expr} {es:List Expr} {ta:TA}
theorem Yb8(F:FnOkH X.prog X.w X.K X.mg X.base k f fd ps sp)(hr:Room k X.A)(hg:Gl X x)(hm:X.mg x=some (.ref f))(hk:Uc X.K (.ref f)=true)(hb:Binds X.K fd ps [])
  (ha:PA (cxH X x0 (qt C t (.ref T))) (e::es) ta) (hdb:(x==("__debug__":Str))=false:=by decide) (he:starEach (e::es) X.env=(false,eval e X.env)::starEach es X.env:=by rfl) (hpl:(backTo pos (starEach es X.env)).any (·.1)=false:=by rfl) :
  PE (cxH X x0 (qt C t (.ref T))) (.Call (.Name x p) (e::es) [] pos) (Zca (sp x0 C) [] E0 ta):=by
 intro pins s σ H Q I h;refine wpAny_Call_Name_kw (qX I hg hm ?_ hdb);refine Vr (h₀:=X.base) I.ok.mod.kin hk (thn (ha pos pins s σ H _ I h) λus s1 ⟨vs,H1,I1,r,q⟩=>⟨I1.kIn,?_⟩) he hpl;have q':sp x0 C (vs++[]) H1 Q E0:=q;rw[Xi] at q';have pin:=I1.pin (x0,qt C t (.ref T)) (ue _ (Ud _ (va.mpr rfl)));have hl:us.length=ps.length:=by rw[<- r.length];exact F.len _ _ _ _ _ _ q'
 have bb:=hb s1 us I1.kIn (by rw[Xi];exact hl);rw[Xi] at bb;refine wpAny_call (codeAny_mono (F.run x0 C t T _ X.stack s1 H1 ⟨us,[]⟩ us vs Q (RoomH.of hr) I1.env0 pin.1 pin.2.1 bb r q') λr s' hq=>?_);cases r with
 |error e=>exact False.elim hq
 |ok fl =>
  cases fl with
  |ret u=>exact I1.after hq
  |next=>exact False.elim hq
  |brk=>exact False.elim hq
  |cont=>exact False.elim hq
end
theorem Qcl{X:Cx}{tg:Expr}(it:Addr)(lo:Int)(n:Nat):Zb9 X tg (Itr lo n) [it] it (λi h=>IsRangeIter h it (lo+(i:Nat)*1) ((n:Int)-(i:Nat)) 1):=by
 intro Y e1 e2 e3 e4 e5 i pins s σ H E I hf st hg;obtain⟨f0,f1,f2,f3,f4,f5⟩:=hf it (by simp);have hg':i<n:=hg;refine wpAny_pyNext_range_item st (by lia) λh' st' sb=>?_;have I1:Inv Y pins σ H {s with heap:=h',toks:=s.toks+1}:=I.turned (λb o hb e=>(sb.2 b hb).trans e) f0 f1 f3 f4 f5;have st2:IsRangeIter h' it (lo+((i+1:Nat):Int)*1) ((n:Int)-((i+1:Nat):Int)) 1:=by
  have a:lo+((i+1:Nat):Int)*1=lo+(i:Nat)*1+1:=by push_cast;lia
  have b:(n:Int)-((i+1:Nat):Int)=(n:Int)-(i:Nat)-1:=by push_cast;lia
  rw[a,b];exact st'
 refine⟨_,rfl,YbQ (s:={s with heap:=h',toks:=s.toks+1}) (n:="range_iterator") st' rfl rfl (by decide) ⟨.int (lo+i),H,I1,⟨s.toks,?_⟩,⟨rfl,rfl⟩,st2,λb hb=>(hf b hb).1⟩⟩;rw[Int.mul_one]
theorem Qco{X:Cx}{x C t T:Addr}(it:Addr)(lo:Int)(n:Nat)(hA:X.A.handled=some (.ref x))(hp:(x,qt C t (.ref T))∈X.pn):Ycd X (Itr lo n) [it] it (λi h=>IsRangeIter h it (lo+(i:Nat)*1) ((n:Int)-(i:Nat)) 1):=by
 intro Y e1 e2 e3 e4 e5 e6 i pins s σ H E I hf st hg;have pin:=I.pin (x,qt C t (.ref T)) (ue _ (by rw[e6];exact hp));have hg':n<=i:=hg;exact QaX hA pin.1 rfl rfl st (by lia) λh' kk=>⟨rfl,I.kept (t':=s.toks) kk⟩
section
variable {X:Cx} {elt a:Expr} {tg:Expr} {ifs:List Expr} {cs:Scope} {pos p rpos:Pos} {ta:TA} {g:TG} {tc:TT} {te:TE}
theorem ycb{x C t T:Addr}{i:Nat}{y:Str}{pos' spos:Pos}(hA:X.A.handled=some (.ref x))(hpn:(x,qt C t (.ref T))∈X.pn)(hN:X.N.Nodup)(hi0:X.N[i]?=some y)(hx:Loc X.env.scope y)(N':List Str)(ncv:Nat)(js:List Nat)(hok:YD X.env.scope X.N cs N' ncv js=true)
  (hgr:Gl X "range") (hm:X.mg "range"=none) (ha:PA X [a] ta) (hg:∀ C s3 H ex,PG (cxC X cs N' C s3 H ex) tg g) (hif:∀ C s3 H ex,PIf (cxC X cs N' C s3 H ex) ifs tc) (helt:∀ C s3 H ex,PE (cxC X cs N' C s3 H ex) elt te)
  (hsw:swapsWith (.ListComp elt [⟨tg,.Call (.Name "range" p) [a] [] rpos,ifs,0⟩] cs pos) (some (.Name y pos')) spos.line X.env=pure true:=by rfl) (hs:∀ x,foldedSetIterable (.Call (.Name "range" p) [a] [] rpos) X.env x=pure x:=by intro _;rfl)
  (hst:starEach [a] X.env=[(false,eval a X.env)]:=by rfl) (hf:X.fn y=true\/X.env.scope.names.lookup y=some .local:=by first|exact .inl rfl|exact .inr rfl|assumption) :
  PS X (.Assign [.Name y pos'] (.ListComp elt [⟨tg,.Call (.Name "range" p) [a] [] rpos,ifs,0⟩] cs pos) spos) (yb9 (QbM (YcD ta) ncv js g tc te) (zaS i)):=by
 intro pins s σ H D0 I h;have ok:=CompOk.of hok;rw[exec_Assign_Name_used _ _ _ _ hsw];refine wpAny_bind (wpAny_standAt (wpAny_bind ?_));show wpAny _ X.A (do let _<-comprehension (.ListComp elt [⟨tg,.Call (.Name "range" p) [a] [] rpos,ifs,0⟩] cs pos) cs X.env _ (newList []) false (eval (.Call (.Name "range" p) [a] [] rpos) X.env) (some (assign (.Name y pos') X.env))) _ _ s;refine wpAny_bind (wpAny_mono (wpAny_comprehension_free (use:=some (assign (.Name y pos') X.env)) (Q:=λ_ s'=>SP X pins D0 .next s') rfl hs (zap λy hy e=>I.ok.has y.1 (ok.free y hy e)) ok.kind ok.locs ?_)
  (λ_ s' hq=>wpAny_pure (wpAny_pure hq)) λ_ _ e=>e)
 refine Call_ (QaH I hgr hm boot_range (PyProof.Rows.callWith_type1 (thn (ha rpos pins s σ H _ I h) λus s1 ⟨vs,H1,I1,r1,q1⟩=>?_) hst rfl));obtain⟨j,e,b1,b2,W,w0,turn⟩:=q1;subst e;cases r1 with
 |cons r rr =>
  cases rr;obtain⟨tk0,rfl⟩:=r;refine call_range_1 ?_;refine wpAny_pyIter_range (IsRange.new ..) (small_one (by lia) (by lia) b1 b2) ?_;obtain⟨R0,hR0⟩:∃ R0:Obj,R0={cls:=.type "range",data:=.fields #[.int 0 s1.toks,.int j tk0,.int 1 (s1.toks+1)]}:=⟨_,rfl⟩;have hit:s1.heap.objs.size<=(s1.heap.push R0).objs.size:=by rw[xh];exact Uy _
  have I2:Inv X pins σ H1 {s1 with heap:=(s1.heap.push R0).push {cls:=.type "range_iterator",data:=.fields #[rawInt 0,rawInt (Builtin.Range.rangeSize 0 j 1),rawInt 1]},toks:=s1.toks+1+1}:=I1.kept λb o e=>wa _ (wa _ e);have st0:IsRangeIter ((s1.heap.push R0).push {cls:=.type "range_iterator",data:=.fields #[rawInt 0,rawInt (Builtin.Range.rangeSize 0 j 1),rawInt 1]}) (s1.heap.push R0).objs.size (0+((0:Nat):Int)*1) ((j.toNat:Int)-((0:Nat):Int)) 1:=by
   have e1:(0:Int)+((0:Nat):Int)*1=0:=by simp
   have e2:(j.toNat:Int)-((0:Nat):Int)=Builtin.Range.rangeSize 0 j 1:=by rw[rangeSize_one];split <;> lia
   rw[e1,e2];exact Xb _ rfl
  rw[<- hR0];refine Qam (Q:=λv H'=>zaS i v σ H' D0.nx) (J:=Itr 0 j.toNat) (fp:=[(s1.heap.push R0).objs.size]) (tn:=λi h=>IsRangeIter h (s1.heap.push R0).objs.size (0+(i:Nat)*1) ((j.toNat:Int)-(i:Nat)) 1) (RR:=λacc C=>compPost (model X.prog X.w) X.A X.xe (some (assign (.Name y pos') X.env)) (λ_ s'=>SP X pins D0 .next s') acc C)
   ok hg hif helt I2 (by simp) (λi h st b hb=>?_) (λi h h' st k=>k _ (by simp) _ st) (Qcl _ 0 j.toNat) (Qco _ 0 j.toNat hA hpn) (λ_ _ _ _ _ st h=>wpAny_pyIter_rangeiter st h) st0 (λb hb=>?_) W w0 turn λD C acc H' s6 IX fC zC hm' q=>?_
  ·obtain rfl:=va.mp hb;exact⟨_,st,λv z=>nomatch z⟩
  ·obtain rfl:=va.mp hb;exact I1.fpOk hit (I1.hok.fresh hit)
  ·obtain⟨m,hm'⟩:=hm';obtain⟨oC,esC,epC,gC,dC,rC⟩:=id hm';have nc:∀ v,oC.data≠.cell v:=λv z=>by rw[dC] at z;cases z
   have IXp:=IX.pinned (fp:=[C]) (λb hb=>by obtain rfl:=va.mp hb;exact fC) (λb hb=>by obtain rfl:=va.mp hb;exact⟨oC,gC,nc⟩);show wpAny (model X.prog X.w) X.A (assign (.Name y pos') X.env (.ref D)) _ X.xe s6;refine thn (qaN hN hi0 hx hf _ s6 σ _ (.ref D) (.ref D) _ IXp rfl q) λ_ s7 ⟨σ7,H7,I7,q7⟩=>?_;obtain⟨g7,d7⟩:=yr I7 (Ud _ (qv (va.mpr rfl) gC));refine⟨m,⟨oC,esC,epC,g7,dC,rC⟩,λh' sb=>⟨σ7,H7,?_,q7⟩⟩;obtain⟨_,c1,c2,c3,c4,c5⟩:=fC;exact YF (t':=s7.toks) (ch:=[C]) I7.unpinned (λb hb=>by obtain rfl:=va.mp hb;exact⟨d7,c1,c2,c3,c4,c5⟩) λb o hb e=>(sb.2 b λz=>hb (by simp[z])).trans e
end
theorem Qb3{prog:Program}{w:World}{A:Around}(hh:A.handled=none)(b:Bool)(I ax:Addr)(hne:ax≠I)(items:Array Value) :
  Walks prog w A I [I,ax] [I] items.size (λi v=>items[i]?=some v) (λi h=>SeqIt h b I ax i/\SeqIs h b ax items):=by
 cases b with
 |false=>exact Walks.list hh I ax hne items
 |true =>
  exact{
   sub:=λb hb=>by simp at hb;simp[hb]
   frame:=λ_ _ _ st hk=>⟨st.1.keeps λo e=>hk I (by simp) o e,st.2.keeps λo e=>hk ax (by simp) o e⟩
   item:=λi s Q E hi st hQ=>by
    refine wpAny_pyNext_tuple_item (show s.heap.IsTupleIter I ax i from st.1) (show s.heap.IsTuple ax items from st.2) (x:=items[i]) (by simp[hi]) λh' a sb=>?_;exact hQ _ h' s.toks (by simp[hi]) ⟨a,st.2.keeps λo e=>sb.extBut ax o hne e⟩ λb o hb e=>sb.extBut b o (λz=>hb (by simp[z])) e
   done:=λs Q E st hQ=>wpAny_pyNext_tuple_end hh (show s.heap.IsTupleIter I ax items.size from st.1) (show s.heap.IsTuple ax items from st.2) (by simp) λh' he=>hQ h' s.toks λb o hb e=>he b o (λz=>hb (by simp[z])) e
   self:=λ_ _ _ _ st hQ=>wpAny_pyIter_tupleiter (show Heap.IsTupleIter _ I ax _ from st.1) hQ}
theorem Ycy{bs:List Bool}{us:List Value}(r:Vals (bs.map V.bl) us){i:Nat}{v:Value}(h:us.toArray[i]?=some v):v=.bool (bs.getD i true):=by
 have h':us[i]?=some v:=by simpa using h
 have lt:i<us.length:=(Xa.mp h').1;have hl:=r.length;rw[vc] at hl;obtain⟨u,hu,ru⟩:=r.get (i:=i) (x:=.bl (bs.getD i true)) (by rw[Uf,Xf (by lia),xn,Xf (by lia)];rfl);rw[hu] at h';cases h';exact ru
theorem Zce(bs:List Bool):(uc bs.length).all (λi=>bs.getD i true)=bs.all id:=by
 rw[Uo,uk,uk];constructor
 ·intro h x hx;obtain⟨i,hi,e⟩:=WA hx;have:=h i (wq.mpr hi);rw[xn,Xf hi] at this;rw[<- e];exact this
 ·intro h i hi;rw[xn,Xf (wq.mp hi)];exact h _ (Ut _)
section
variable {X:Cx}
noncomputable def rAll(K:PySem.W.Frag):List V->Hp->VK->Prop:=λxs H Q=>∃(b:Bool)(a:Addr)(bs:List Bool),xs=[.ref a]/\SqS K H b a (bs.map V.bl)/\Q (.bl (bs.all id)) H
theorem QbO{a:Addr}{us:List Value}(r:Vals [V.ref a] us):us=[Value.ref a]:=by
 cases r with
 |cons r rr =>
  cases rr;obtain rfl:_=Value.ref a:=r;rfl
theorem qck(hc:X.calm=true):CallR X (.builtin "all") (rAll X.K):=by
 intro pins s σ H xs us Q I r h;obtain⟨b,a,bs,rfl,hq,q⟩:=h;obtain rfl:=QbO r;obtain⟨its,v,p,_⟩:=ZV I hq;have lt:=p.lt;refine call_all_walk (Qal p ⟨s.heap.objs.size,[s.heap.objs.size,a],[s.heap.objs.size],its.toArray.size,_,_,λi=>bs.getD i true,rfl,Qb3 (yF (I.ok.hd hc)) b _ a (Wc lt) its.toArray,⟨.new (Xb _ rfl),p.keeps λo e=>wa _ e⟩,λi u s' Q' E' hu hQ=>?_,λh' tk k=>?_⟩)
 ·rw[Ycy v hu];exact wpAny_truthy_bool hQ
 have hl:=v.length;rw[vc] at hl;rw[ua,<- hl,Zce];exact⟨.bl _,H,I.kept (t':=tk) (λc o e=>k c o (λz=>absurd (Va e) (by simp at z;rw[z];exact xk _)) (wa _ e)),rfl,q⟩
noncomputable def clsV:V->Option Value
 |.ty n=>some (.type n)
 |.ref a=>some (.ref a)
 |_=>none
theorem qbq{x:V}{c u:Value}(h:clsV x=some c)(r:RelV x u):u=c:=by
 cases x with
 |ty n=>cases h;exact r
 |ref a=>cases h;exact r
 |_=>cases h
noncomputable def rIs(K:PySem.W.Frag):List V->Hp->VK->Prop:=λxs H Q=>∃ x cv t c b,xs=[x,cv]/\clsV cv=some c/\TyOf K H x t/\Ue K t c=some b/\Q (.bl b) H
theorem Ycx:CallR X (.builtin "isinstance") (rIs X.K):=by
 intro pins s σ H xs us Q I r h;obtain⟨x,cv,t,c,b,rfl,e,ty,k,q⟩:=h;cases r with
 |cons r rr =>
  cases rr with
  |cons r' rr =>
   cases rr;have:=qbq e r';subst this;exact ybW I r ty k λtk=>⟨.bl b,H,I.tok tk,rfl,q⟩
noncomputable def rIsX(K:PySem.W.Frag)(x C:Addr):List V->Hp->VK->Prop:=λxs H Q=>∃ cv c b,xs=[.ref x,cv]/\clsV cv=some c/\Ue K (.ref C) c=some b/\Q (.bl b) H
theorem Zw{x C t T:Addr}(Z:ExcK X.K C)(hp:(x,qt C t (.ref T))∈X.pn):CallR X (.builtin "isinstance") (rIsX X.K x C):=by
 intro pins s σ H xs us Q I r h;obtain⟨cv,c,b,rfl,e,k,q⟩:=h;cases r with
 |cons r rr =>
  cases rr with
  |cons r' rr =>
   cases rr;have:=qbq e r';subst this;obtain rfl:_=Value.ref x:=r;exact vh (zcd Z) I.kIn ⟨t,_,(I.pin _ (ue _ hp)).1⟩ k (λz=>nomatch z) λtk=>⟨.bl b,H,I.tok tk,rfl,q⟩
end
noncomputable def excP(C x:Addr):Heap->Prop:=λh=>∃ t T,h.get? x=some (qt C t (.ref T))
noncomputable def Src(K:PySem.W.Frag)(mg:Str->Option Value)(x:Str)(st:Stmt)(ps:List Str):Prop:=∃ f fd,FunD K x x st f fd/\Binds K fd ps []/\mg x=some (.ref f)
noncomputable def Qbp(P:Program)(w:World)(K:PySem.W.Frag)(mg:Str->Option Value)(base:Heap)(x:Str)(k:Nat)(ps:List Str)(sp:Sp):Prop :=
 ∃ f fd,FnOk P w K mg base (CX1 P w) k f fd ps sp/\Binds K fd ps []/\Uc K (.ref f)=true/\mg x=some (.ref f)
section
variable {P:Program} {w:World} {K:PySem.W.Frag} {mg:Str->Option Value} {base:Heap} {x:Str} {ps:List Str} {sp:Sp}
noncomputable abbrev cxD(P:Program)(w:World)(K:PySem.W.Frag)(mg:Str->Option Value)(base:Heap)(N:List Str)(x:Str)(st:Stmt)(f:Addr)(cd:Value)(A:Around)(outer:List Env)(s:Shared)(H:Hp)(E:XK):Cx :=
 Zat (CX1 P w) P w K mg base N x (yb st) f cd A outer s H E
theorem zcX{st:Stmt}{N:List Str}{k:Nat}(S:Src K mg x st ps)(sc:FnScope N ps (yb st))(len:∀ vs H Q E,sp vs H Q E->vs.length=ps.length)
  (hbody:∀(f:Addr)(cdv:Value)(A:Around)(outer:List Env)(s:Shared) (H:Hp) (vs:List V) (Q:VK) (E:XK),Room k (A.deeper (envOfC x (yb st) s.heap.objs.size f cdv))->sp vs H Q E ->
   ∃ t,PSs (cxD P w K mg base N x st f cdv A outer s H E) (Zg st) t/\t {nx:=λ_ H'=>Q .non H',rt:=Q} (start N vs) H):Qbp P w K mg base x (k+1) ps sp:=by
 obtain⟨f,fd,F,b,m⟩:=S;refine⟨f,fd,?_,b,F.kp,m⟩;obtain⟨oc,od,dV,kV,doc,pm,an,cdv,ct,osl,rfl,lk,hcd⟩:=F.ex;exact qb9 lk hcd sc len λA outer s H vs Q E hr hsp=>hbody f cdv A outer s H vs Q E hr hsp
end
section
variable {X:Cx} {k:Nat} {ps:List Str} {sp:Sp} {E:XK} {x:Str} {p pos:Pos} {e:Expr} {es:List Expr} {t:TA} {σ0:L2.St}
theorem YbR(d:Qbp X.prog X.w X.K X.mg X.base x k ps sp)(hr:Room k X.A)(hg:Gl X x)(hx:zy (CX1 X.prog X.w) X σ0 E)(ha:PA X (e::es) t)(hdb:(x==("__debug__":Str))=false:=by decide)
  (he:starEach (e::es) X.env=(false,eval e X.env)::starEach es X.env:=by rfl) (hpl:(backTo pos (starEach es X.env)).any (·.1)=false:=by rfl):PE X (.Call (.Name x p) (e::es) [] pos) (Zb8 σ0 sp [] E t):=by
 obtain⟨f,fd,F,b,kp,m⟩:=d;exact Qcf F hr hg m kp b .nil hx ha hdb he hpl
end
section
variable {q p a:Addr} {H H' H2:Hp} {o u:HO}
theorem yM(h:H p=none)(o:HO):Same H (upd H p o):=λb u z=>by rw[qc (Zd z h)];exact z
theorem Same.turn(s:Same H H')(h:H p=none)(o:HO):Same H (upd H' p o):=λb u z=>by rw[qc (Zd z h)];exact s b u z
end
noncomputable def Scr(K:PySem.W.Frag)(H:Hp)(a:Addr)(ns:List Int):Prop:=(∃ o,H a=some (.frz o (.lst (ns.map V.int)))) \/
 ∃(o:Obj)(its:Array Value)(n:Nat),K.lookup a=some o/\o.cls=.type "list"/\o.dict=none/\o.data=.seq its n/\its.size<=sizeLine/\Vals (ns.map V.int) its.toList
theorem Scr.sq{K:PySem.W.Frag}{H:Hp}{a:Addr}{ns:List Int}(h:Scr K H a ns):SqL K H a (ns.map V.int):=h.elim (λ⟨o,e⟩=>.inl (.inr ⟨o,e⟩)) λe=>.inr e
section
variable {X:Cx} {tg:Expr}
noncomputable def Its(K:PySem.W.Frag)(b:Bool)(a:Addr):It:=if b=true then Itt K a else Itl K a
noncomputable def iSq(K:PySem.W.Frag)(tl:TE):TI:=λσ H R=>tl σ H λx H1=>∃ b a,x=.ref a/\(∃ xs,SqS K H1 b a xs)/\R (Its K b a) H1
theorem pi_sq{l:Expr}{tl:TE}(hl:PE X l tl):PI X tg l (iSq X.K tl):=by
 intro pins s σ H R I h;refine thn (hl pins s σ H _ I h) λv s1 ⟨x,H1,I1,r1,q1⟩=>?_;obtain⟨b,a,e,⟨xs,hq⟩,q⟩:=q1;subst e;cases r1;cases b with
 |false =>
  obtain⟨its,rv,p,hz⟩:=I1.list (show SqL X.K H1 a xs from hq);refine wpAny_pyIter_list p.isList ?_;refine⟨s1.heap.objs.size,[s1.heap.objs.size],_,_,H1,rfl,I1.kept (t':=s1.toks) λb o e=>wa _ e,ZbW a _,⟨_,Xb _ rfl,rfl,rfl⟩,λb hb=>?_,q⟩;obtain rfl:=va.mp hb;exact I1.fpOk (xb _) (I1.hok.fresh (xb _))
 |true =>
  obtain⟨its,rv,p,hz⟩:=I1.tuple (show SqT X.K H1 a xs from hq);refine wpAny_pyIter_tuple (show s1.heap.IsTuple a its.toArray from p) ?_;refine⟨s1.heap.objs.size,[s1.heap.objs.size],_,_,H1,rfl,I1.kept (t':=s1.toks) λb o e=>wa _ e,zbJ a _,⟨_,Xb _ rfl,rfl,rfl⟩,λb hb=>?_,q⟩;obtain rfl:=va.mp hb;exact I1.fpOk (xb _) (I1.hok.fresh (xb _))
end
theorem Its.go{K:PySem.W.Frag}{b:Bool}{a:Addr}{i:Nat}{H:Hp}{xs:List V}(h:SqS K H b a xs)(hi:i<xs.length):(Its K b a).go i H:=by
 cases b with
 |false=>exact⟨xs,xs[i],h,by simp[hi]⟩
 |true=>exact⟨xs,xs[i],h,by simp[hi]⟩
theorem Its.stop{K:PySem.W.Frag}{b:Bool}{a:Addr}{H:Hp}{xs:List V}(h:SqS K H b a xs):(Its K b a).stop xs.length H:=by
 cases b with
 |false=>exact⟨xs,h,xb _⟩
 |true=>exact⟨xs,h,xb _⟩
theorem Its.yld{K:PySem.W.Frag}{b:Bool}{a:Addr}{i:Nat}{H H':Hp}{xs:List V}{x:V}(h:SqS K H b a xs)(y:(Its K b a).yld i H x H'):H'=H/\xs[i]?=some x:=by
 cases b with
 |false=>exact⟨y.1,y.2 xs h⟩
 |true=>exact⟨y.1,y.2 xs h⟩
theorem for_by{J:It}{n:Nat}{g:TG}{tb:TS}{D:Ends}{σ:L2.St}{H:Hp}(Pv:Nat->L2.St->Hp->Prop)(h0:Pv 0 σ H)(go:∀ i σ H,i<n->Pv i σ H->J.go i H)(stop:∀ σ H,Pv n σ H->J.stop n H)
  (turn:∀ i σ H x H2,i<n->Pv i σ H->J.yld i H x H2->g x σ H2 λσ2 H3=>tb {D with nx:=Pv (i+1),ct:=Pv (i+1),bk:=D.nx} σ2 H3) (fin:∀ σ H,Pv n σ H->D.nx σ H) :
  ∃ W:Nat->Nat->L2.St->Hp->Prop,(∃ m,W 0 m σ H)/\∀ i m σ H,W i m σ H ->
   (J.stop i H/\D.nx σ H)\/(J.go i H/\∃ N:L2.St->Hp->Prop,(∀ σ' H',N σ' H'->∃ m',m'<m/\W (i+1) m' σ' H')/\∀ x H',J.yld i H x H'->g x σ H' λσ2 H2=>tb {D with nx:=N,ct:=N,bk:=D.nx} σ2 H2):=by
 refine⟨λi m σ H=>m=n-i/\i<=n/\Pv i σ H,⟨n,by simp,Uk _,h0⟩,?_⟩;rintro i m σ H ⟨rfl,hi,p⟩;by_cases lt:i<n
 ·exact .inr ⟨go i σ H lt p,Pv (i+1),λσ' H' p'=>⟨n-(i+1),by lia,rfl,lt,p'⟩,λx H' y=>turn i σ H x H' lt p y⟩
 ·obtain rfl:i=n:=by lia
  exact .inl ⟨stop σ H p,fin σ H p⟩
noncomputable def Wn(n:Nat)(Pv:Nat->List V->L2.St->Hp->Prop):Nat->Nat->List V->L2.St->Hp->Prop:=λi m acc σ H=>m=n-i/\i<=n/\Pv i acc σ H
theorem wn{n i:Nat}{Pv:Nat->List V->L2.St->Hp->Prop}{acc:List V}{σ:L2.St}{H:Hp}(lt:i<n)(p:Pv (i+1) acc σ H):∃ m',m'<n-i/\Wn n Pv (i+1) m' acc σ H:=⟨n-(i+1),by lia,rfl,lt,p⟩
theorem Qcr{J:It}{n ncv:Nat}{js:List Nat}{g:TG}{tc:TT}{te:TE}{σ:L2.St}{H:Hp}{Q:VK}(Pv:Nat->List V->L2.St->Hp->Prop)(h0:Pv 0 [] (stC ncv js σ) H)(go:∀ i acc σ H,i<n->Pv i acc σ H->J.go i H)(stop:∀ acc σ H,Pv n acc σ H->J.stop n H)
  (turn:∀ i acc σ H x H2,i<n->Pv i acc σ H->J.yld i H x H2->g x σ H2 λσ2 H3=>tc σ2 H3 λb H4 =>
   if b=true then te σ2 H4 λy H5=>acc.length<sizeLine/\∃ m',m'<n-i/\Wn n Pv (i+1) m' (acc++[y]) σ2 H5 else ∃ m',m'<n-i/\Wn n Pv (i+1) m' acc σ2 H4)
  (fin:∀ acc σ H,Pv n acc σ H->∀ D,H D=none->Q (.ref D) (upd H D (.lst acc))) :
  ycg J ncv js g tc te σ H Q:=by
 refine⟨Wn n Pv,⟨n,by simp,Uk _,h0⟩,?_⟩;rintro i m acc σ' H' ⟨rfl,hi,p⟩;by_cases lt:i<n
 ·exact .inr ⟨go i acc σ' H' lt p,λx H2 y=>turn i acc σ' H' x H2 lt p y⟩
 ·obtain rfl:i=n:=by lia
  exact .inl ⟨stop acc σ' H' p,fin acc σ' H' p⟩
theorem wn_eq{n i:Nat}{Pv:Nat->List V->L2.St->Hp->Prop}(lt:i<n)(acc:List V)(σ:L2.St)(H:Hp):(∃ m',m'<n-i/\Wn n Pv (i+1) m' acc σ H)=Pv (i+1) acc σ H :=
 propext ⟨λ⟨_,_,_,_,p⟩=>p,λp=>wn lt p⟩
theorem qcw{J:It}{n ncv:Nat}{js:List Nat}{g:TG}{tc:TT}{te:TE}{σ:L2.St}{H:Hp}{Q:VK}(Pv:Nat->List V->L2.St->Hp->Prop)(h0:Pv 0 [] (stC ncv js σ) H)(go:∀ i acc σ H,i<n->Pv i acc σ H->J.go i H)(stop:∀ acc σ H,Pv n acc σ H->J.stop n H)
  (turn:∀ i acc σ H x H2,i<n->Pv i acc σ H->J.yld i H x H2->g x σ H2 λσ2 H3=>tc σ2 H3 λb H4 =>
   if b=true then te σ2 H4 λy H5=>acc.length<sizeLine/\Pv (i+1) (acc++[y]) σ2 H5 else Pv (i+1) acc σ2 H4)
  (fin:∀ acc σ H,Pv n acc σ H->∀ D,H D=none->Q (.ref D) (upd H D (.lst acc))):ycg J ncv js g tc te σ H Q :=
 Qcr Pv h0 go stop (λi acc σ H x H2 lt p y=>by simp only[wn_eq lt];exact turn i acc σ H x H2 lt p y) fin
noncomputable def Qcn(P:Program)(w:World)(K:PySem.W.Frag)(mg:Str->Option Value)(base:Heap)(x:Str)(C:Addr)(k:Nat)(ps:List Str)(sp:Sp):Prop :=
 ∃ f fd,Mk K C f/\FnOk P w K mg base (CX1 P w) k f fd ps sp/\Binds K fd ps []/\mg x=some (.ref C)
section
variable {X:Cx} {k:Nat} {ps:List Str} {sp:Sp} {E:XK} {x:Str} {C:Addr} {p pos:Pos} {e:Expr} {es:List Expr} {t:TA} {σ0:L2.St}
theorem zbZ(d:Qcn X.prog X.w X.K X.mg X.base x C k ps sp)(hr:Room (k+1) X.A)(hg:Gl X x)(hx:zy (CX1 X.prog X.w) X σ0 E)(ha:PA X (e::es) t)(hdb:(x==("__debug__":Str))=false:=by decide)
  (he:starEach (e::es) X.env=(false,eval e X.env)::starEach es X.env:=by rfl) (hpl:(backTo pos (starEach es X.env)).any (·.1)=false:=by rfl):PE X (.Call (.Name x p) (e::es) [] pos) (Zck σ0 C sp [] E t):=by
 obtain⟨f,fd,M,F,b,m⟩:=d;exact Ycl M F hr hg m b .nil hx ha hdb he hpl
end
section
variable {X:Cx} (K:PySem.W.Frag)
noncomputable def rLen(K:PySem.W.Frag):List V->Hp->VK->Prop:=λxs H Q=>∃ p ys,xs=[.ref p]/\(SqL K H p ys\/SqT K H p ys)/\Q (.int ys.length) H
noncomputable def rLst(K:PySem.W.Frag):List V->Hp->VK->Prop:=λxs H Q=>∃ p ys,xs=[.ref p]/\(SqL K H p ys\/SqT K H p ys)/\∀ l,H l=none->Q (.ref l) (upd H l (.lst ys))
noncomputable def rTup(K:PySem.W.Frag):List V->Hp->VK->Prop:=λxs H Q=>∃ p ys,xs=[.ref p]/\((SqL K H p ys/\∀ l,H l=none->Q (.ref l) (upd H l (.tup ys)))\/(SqT K H p ys/\Q (.ref p) H))
theorem qcH(h:X.K=K:=by rfl):CallR X (.builtin "len") (rLen K):=h ▸ zbg
theorem YcN(h:X.K=K:=by rfl):CallR X (.type "list") (rLst K):=h ▸ qbh
theorem Qcx(h:X.K=K:=by rfl):CallR X (.type "tuple") (rTup K):=h ▸ Ya4
theorem k_all(c:X.calm=true:=by rfl)(h:X.K=K:=by rfl):CallR X (.builtin "all") (rAll K):=h ▸ qck c
theorem k_isi(h:X.K=K:=by rfl):CallR X (.builtin "isinstance") (rIs K):=h ▸ Ycx
theorem Qcm(h:X.K=K:=by rfl):IxR X (rIxL K):=h ▸ ZbP
noncomputable def rIxQ(K:PySem.W.Frag):R2:=λx y H Q=>∃ b p xs i v,x=.ref p/\y=.int i/\SqS K H b p xs/\atI xs i=some v/\Q v H
theorem k_ix(h:X.K=K:=by rfl):IxR X (rIxQ K):=by
 subst h;intro value slice pins s σ H x y v u Q I rx ry hq hs;obtain⟨b,p,xs,i,z,e1,e2,hq,ha,q⟩:=hq;cases b with
 |false=>exact ZbP value slice pins s σ H x y v u Q I rx ry ⟨p,xs,i,z,e1,e2,hq,ha,q⟩ hs
 |true=>exact zcT value slice pins s σ H x y v u Q I rx ry ⟨p,xs,i,z,e1,e2,hq,ha,q⟩ hs
theorem k_fld{e:Expr}{f:Str}{pos:Pos}{ta:TE}(he:PE X e ta)(hb:attributeBase e f X.env (eval e X.env)=eval e X.env:=by rfl)(h:X.K=K:=by rfl):PE X (.Attribute e f pos) (tFld K ta f):=h ▸ qcT he hb
theorem k_sq{tg l:Expr}{tl:TE}(hl:PE X l tl)(h:X.K=K:=by rfl):PI X tg l (iSq K tl):=h ▸ pi_sq hl
theorem k_zip{a b:Expr}{ta:TA}{p pos:Pos}{es:List Expr}{kt:Nat}{pt:Pos}(hg:Gl X "zip")(hm:X.mg "zip"=none)(ha:PA X [a,b] ta)(hs:starEach [a,b] X.env=[(false,eval a X.env),(false,eval b X.env)]:=by rfl)(hs2:starEach [b] X.env=[(false,eval b X.env)]:=by rfl)(h:X.K=K:=by rfl) :
  PI X (.Tuple es kt pt) (.Call (.Name "zip" p) [a,b] [] pos) (iZip K ta):=h ▸ zc0 hg hm ha hs hs2
end
end L3
end
section
namespace L3
open PySem PySem.Spec PyProof.Rows L2 M3
structure WordC (K:PySem.W.Frag) (cs:List Addr) (C:Addr) (i:Nat):Prop where
 z:ExcK K C
 kj:∀(j:Nat) D,cs[j]?=some D->Ue K (.ref C) (.ref D)=some (decide (j=i))
 ve:Ue K (.ref C) (.type "ValueError")=some true
 i10:i<10
noncomputable def words10:List Str:=["picture","out","meet","tile","inks","shares","shade","stretches","way","text"]
noncomputable def zbn(i:Nat):Str:=words10.getD i ""
noncomputable def DefOkH(P:Program)(w:World)(K:PySem.W.Frag)(mg:Str->Option Value)(base:Heap)(x:Str)(k:Nat)(ps:List Str)(sp:Addr->Addr->Sp):Prop :=
 ∃ f fd,FnOkH P w K mg base k f fd ps sp/\Binds K fd ps []/\Uc K (.ref f)=true/\mg x=some (.ref f)
section
variable {X:Cx} {k:Nat} {x0 C t T:Addr} {ps:List Str} {sp:Addr->Addr->Sp} {x:Str} {p pos:Pos} {e:Expr} {es:List Expr} {ta:TA}
theorem ZbV(d:DefOkH X.prog X.w X.K X.mg X.base x k ps sp)(hr:Room k X.A)(hg:Gl X x)
  (ha:PA (cxH X x0 (qt C t (.ref T))) (e::es) ta) (hdb:(x==("__debug__":Str))=false:=by decide) (he:starEach (e::es) X.env=(false,eval e X.env)::starEach es X.env:=by rfl) (hpl:(backTo pos (starEach es X.env)).any (·.1)=false:=by rfl) :
  PE (cxH X x0 (qt C t (.ref T))) (.Call (.Name x p) (e::es) [] pos) (Zca (sp x0 C) [] E0 ta):=by
 obtain⟨f,fd,F,b,kp,m⟩:=d;exact Yb8 F hr hg m kp b ha hdb he hpl
end
theorem Qct{P:Program}{w:World}{K:PySem.W.Frag}{mg:Str->Option Value}{base:Heap}{x:Str}{st:Stmt}{N ps:List Str}{k:Nat}{sp:Addr->Addr->Sp}(S:Src K mg x st ps)(sc:FnScope N ps (yb st))(len:∀ x C vs H Q E,sp x C vs H Q E->vs.length=ps.length)
  (hbody:∀(f:Addr)(x0 C t T:Addr)(cdv:Value)(A:Around)(outer:List Env) (s:Shared) (H:Hp) (vs:List V) (Q:VK),RoomH k (A.deeper (envOfC x (yb st) s.heap.objs.size f cdv)) x0->sp x0 C vs H Q E0 ->
   ∃ tr,PSs (cxFH P w K mg base N x (yb st) f cdv A outer s H x0 (qt C t (.ref T))) (Zg st) tr/\tr {nx:=λ_ H'=>Q .non H',rt:=Q} (start N vs) H):DefOkH P w K mg base x (k+1) ps sp:=by
 obtain⟨f,fd,F,b,m⟩:=S;exact⟨f,fd,zcJ F sc len λx0 C t T cdv A outer s H vs Q hr hsp=>hbody f x0 C t T cdv A outer s H vs Q hr hsp,b,F.kp,m⟩
end L3
end
section
namespace L2
open PySem PySem.Spec PyProof.Rows
section
variable {X:Cx} {tg:Expr}
noncomputable def qcn:V->List V->Hp->VK->Prop:=λx vs H Q=>∃ l b xs zs,x=.ref l/\vs=[.ref b]/\H l=some (.lst xs)/\Rd H b (.lst zs)/\xs.length+zs.length<=sizeLine/\Q .non (upd H l (.lst (xs++zs)))
theorem zbH:MtM X "list.extend" qcn:=by
 intro pins s σ H x vs v us Q I rx rv h;obtain⟨l,b,xs,zs,rfl,rfl,hH,hB,hz,q⟩:=h;cases rx;obtain⟨u,rfl,ru⟩:=rv.one;cases ru;obtain⟨z,its,n,r,hl,e⟩:=I.lstM hH;obtain⟨z2,its2,n2,r2,e2⟩:=hB.ok I.hok;have hl2:=r2.length;have hsz:its.toArray.size+its2.toArray.size<=sizeLine:=by rw[ua,ua];lia
 have hlong:¬(!its.toArray.isEmpty&&Builtin.List.listTooLong (its.toArray.size+its2.toArray.size))=true:=by
  rw[YaS hsz,Bool.and_false];exact Vc
 refine call_meets F.slot_list_extend ⟨_,e,rfl⟩ F.entry_list_extend (F.args_list_extend_2 _ _)
  (AutoSeq1.list_extend_list_list_0 l its.toArray n b its2.toArray n2 hlong (by rw[ua];lia) (by lia)) ⟨e,e2,?_⟩
 refine⟨.non,_,I.lset (its':=its++its2) hH e (by simp) (r.append r2) ?_,rfl,q⟩;rw[Vg]
 lia
end
end L2
end
section
namespace L3
open PySem PySem.Spec PyProof.Rows L2 M3
theorem Q3{prog:Program}{w:World}{A:Around}{E:Value->Shared->Prop}{s:Shared}{env:Env}{o:Expr}{name:Str}{apos pos:Pos}{args:List Expr}{Q:Value->Shared->Prop}
  (hbase:attributeBase o name env (eval o env)=eval o env)
  (hfew:((backTo pos (starEach args env)).all (λx=>!x.1)&&(backToKw pos (keywordEach [] env)).all (λx=>x.1.isSome)&&decide (args.length+([]:List Keyword).length+(if([]:List Keyword).isEmpty then 0 else 1)<30))=true)
  (hline:(apos.endLine==pos.line)=true)
  (h:wpAny (model prog w) A (eval o env) (λov s₁=>∀ pl,wpAny (model prog w) A (getMethod ov name pl) (λfx s₂=>wpAny (model prog w) A (callWith pos fx.1 fx.2 (backTo pos (starEach args env)) (backToKw pos (keywordEach [] env))) Q E s₂) E s₁) E s) :
  wpAny (model prog w) A (eval (.Call (.Attribute o name apos) args [] pos) env) Q E s:=by
 rw[arm_eval_Call,hbase];refine wpAny_bind (wpAny_mono h (λov s₁ h₁=>?_) λ_ _ e=>e);refine wpAny_bind (wpAny_standAt ?_);have hform:methodCallForm (args.length+([]:List Keyword).length) (backTo pos (starEach args env)) (backToKw pos (keywordEach [] env))=true:=hfew;have hpos:methodCallPos true o env apos pos=pure pos:=by unfold methodCallPos;simp[hline]
 unfold methodCall;rw[hform];refine wpAny_bind (wpAny_holding (wpAny_mono (h₁ _) (λfx s₂ h₂=>?_) λ_ _ e=>e));exact wpAny_bind (wpAny_of_eq hpos h₂)
section
variable {X:Cx} {k:Nat} {E:XK} {x m:Str} {p pos apos:Pos} {e o:Expr} {es:List Expr} {ta:TE} {t:TA} {σ0:L2.St}
noncomputable def Qce(P:Program)(w:World)(K:PySem.W.Frag)(mg:Str->Option Value)(base:Heap)(k:Nat)(C:Addr)(m:Str)(sp:Sp):Prop :=
 Cls K C/\∃ f fd ps,Meth K C m f/\FnOk P w K mg base (CX1 P w) k f fd ps sp/\Binds K fd ps []
noncomputable def ycl(X:Cx)(k:Nat)(σ0:L2.St)(m:Str)(E:XK)(ta:TE)(t:TA):TE:=λσ H Q=>σ=σ0/\ta σ H λx H1=>∃ a C dx fs sp,x=.ref a/\H1 a=some (.ins C dx fs)/\fs.lookup m=none/\Qce X.prog X.w X.K X.mg X.base k C m sp /\
 t σ H1 λvs H2=>sp (x::vs) H2 Q E
theorem Ycn(he:PE X o ta)(hr:Room k X.A)(hx:zy (CX1 X.prog X.w) X σ0 E)(ha:PA X (e::es) t)
  (hst:starEach (e::es) X.env=(false,eval e X.env)::starEach es X.env) (hpl:(backTo pos (starEach es X.env)).any (·.1)=false)
  (hbase:attributeBase o m X.env (eval o X.env)=eval o X.env) (hfew:((backTo pos (starEach (e::es) X.env)).all (λx=>!x.1)&&(backToKw pos (keywordEach [] X.env)).all (λx=>x.1.isSome)&&decide ((e::es).length+([]:List Keyword).length+(if([]:List Keyword).isEmpty then 0 else 1)<30))=true) (hline:(apos.endLine==pos.line)=true) :
  PE X (.Call (.Attribute o m apos) (e::es) [] pos) (ycl X k σ0 m E ta t):=by
 intro pins s σ H Q I h;obtain⟨rfl,h⟩:=h;refine Q3 hbase hfew hline (thn (he pins s σ H _ I h) λu s1 ⟨x,H1,I1,rx,a,C,dx,fs,sp,ex,ea,l,⟨c,f,fd,ps,hm,F,hb⟩,q⟩ pl=>?_);subst ex;obtain rfl:u=Value.ref a:=rx;refine Za1 I1 ea c hm l ?_;refine Vr (first:=[.ref a]) (h₀:=X.base) I.ok.mod.kin hm.kp (thn (ha pos pins s1 σ H1 _ I1 q) λus s2 ⟨vs,H2,I2,r,q2⟩=>⟨I2.kIn,?_⟩) hst hpl;exact Ybf (us:=.ref a::us) (vs:=.ref a::vs) (dvs:=[]) F hr hb .nil hx I2 (.cons rfl r) (by rw[Xi];exact q2)
theorem QbU(he:PE X o ta)(hr:Room k X.A)(hx:zy (CX1 X.prog X.w) X σ0 E)
  (hbase:attributeBase o m X.env (eval o X.env)=eval o X.env) (hline:(apos.endLine==pos.line)=true) :
  PE X (.Call (.Attribute o m apos) [] [] pos) (ycl X k σ0 m E ta tNil):=by
 intro pins s σ H Q I h;obtain⟨rfl,h⟩:=h;refine Q3 hbase (by rfl) hline (thn (he pins s σ H _ I h) λu s1 ⟨x,H1,I1,rx,a,C,dx,fs,sp,ex,ea,l,⟨c,f,fd,ps,hm,F,hb⟩,q⟩ pl=>?_);subst ex;obtain rfl:u=Value.ref a:=rx;refine Za1 I1 ea c hm l ?_;exact xA (first:=[.ref a]) I1.kIn hm.kp (Ybf (us:=[.ref a]) (vs:=[.ref a]) (dvs:=[]) F hr hb .nil hx I1 (.cons rfl .nil) (by rw[Xi];exact q))
structure Mk0 (K:PySem.W.Frag) (C:Addr):Prop where
 makes:Uj K C=true
 init:Ua K (.ref C) "__init__"=some (some (.builtin "object.__init__"))
 kp:Uc K (.ref C)=true
theorem yb1{C:Addr}{pins:List (Addr×Obj)}{σ:L2.St}{H:Hp}{s:Shared}{Q:VK}(M:Mk0 X.K C)(I:Inv X pins σ H s)
  (h:∀ x dx,H x=none->H dx=none->dx≠x->Q (.ref x) (upd (upd H dx (.own x)) x (.ins C dx []))):wpAny (model X.prog X.w) X.A (call (.ref C) []) (EP X pins σ Q) X.xe s:=by
 have hq:=h (s.heap.objs.size+1) s.heap.objs.size (I.hok.fresh (Uy _)) (I.hok.fresh (xb _)) (Wc (Vn _));have I2:=Inv.made (C:=C) I;have Y:=Ux (M:=model X.prog X.w) I.kIn M.makes;have hx:((s.heap.push vg).push (Wh C s.heap.objs.size)).get? (s.heap.objs.size+1)=some (Wh C s.heap.objs.size):=by
  have:=Xb (s.heap.push vg) (o:=Wh C s.heap.objs.size) rfl
  rwa [xh] at this
 refine wpAny_call (qb1 I.kIn M.makes M.init (λself=>PySem.W.Looks.of_pure (PySem.W.oi_bind self)) ?_);have t1:PySem.W.Looks (model X.prog X.w) ((s.heap.push vg).push (Wh C s.heap.objs.size)) (typeOf (.ref (s.heap.objs.size+1))) (.ref C):=(PySem.W.Looks.ld hx).andThen .now;have t2:PySem.W.Looks (model X.prog X.w) ((s.heap.push vg).push (Wh C s.heap.objs.size)) (isInstance (.ref (s.heap.objs.size+1)) (.type "object")) true:=t1.andThen (Y.top.keeps λb o e=>wa _ (wa _ e));refine codeAny_call_builtin PySem.W.oi_plain PySem.W.entry_oi (@PySem.W.check_slot (model X.prog X.w) _ _ _ "object.__init__" "object" "__init__" (.ref (s.heap.objs.size+1)) [] [] _ PySem.W.oi_kind PySem.W.oi_split t2 (PySem.W.oi_args (.ref (s.heap.objs.size+1))) ?_);rw[PySem.W.oi_run];exact wpAny_pure (And.intro rfl ⟨V.ref (s.heap.objs.size+1),_,I2,rfl,hq⟩)
noncomputable def qcO(C:Addr):TE:=λσ H Q=>∀ x dx,H x=none->H dx=none->dx≠x->Q (.ref x) (upd (upd H dx (.own x)) x (.ins C dx []))
theorem ZbS{C:Addr}(M:Mk0 X.K C)(hg:Gl X x)(hm:X.mg x=some (.ref C))(hdb:(x==("__debug__":Str))=false):PE X (.Call (.Name x p) [] [] pos) (qcO C):=by
 intro pins s σ H Q I h;refine wpAny_Call_Name_kw (qX I hg hm ?_ hdb);exact xA I.kIn M.kp (yb1 M I h)
noncomputable def tRevS(K:PySem.W.Frag)(te:TE)(ts:TO):TE:=λσ H Q=>te σ H λx H1=>ts σ H1 λst H2=>st=some (-1)/\∃ a xs,x=.ref a/\SqL K H2 a xs/\∀ q,H2 q=none->Q (.ref q) (upd H2 q (.lst xs.reverse))
theorem zcA{te:TE}{ts:TO}{st:Expr}{p2:Pos}(he:PE X e te)(hs:PO X (some st) ts):PE X (.Subscript e (.Slice none none (some st) p2) pos) (tRevS X.K te ts):=by
 intro pins s σ H Q I h;refine Subscript_ (thn (he pins s σ H _ I h) λv s1 ⟨x,H1,I1,r1,q1⟩=>?_);refine wpAny_Slice ?_;rw[evalPart_none];refine wpAny_pure (wpAny_pure (thn (hs pins s1 σ H1 _ I1 q1) λvs s3 ⟨z,H3,I3,pz,q3⟩=>?_));obtain⟨rfl,a,xs,rfl,hx,q⟩:=q3;cases r1;have I4:Inv X pins σ H3 {s3 with heap:=s3.heap.push {cls:=.type "slice",data:=.fields #[.none,.none,vs]}}:=I3.kept (t':=s3.toks) λb ob q=>wa _ q;obtain⟨its,r,ht,hz⟩:=I4.list hx;have hlen:its.toArray.size=xs.length:=by rw[ua];exact r.length.symm
 show wpAny (model X.prog X.w) X.A (subscriptTail e (.Slice none none (some st) p2) (.ref a) (.ref s3.heap.objs.size)) (EP X pins σ Q) X.xe {s3 with heap:=s3.heap.push {cls:=.type "slice",data:=.fields #[.none,.none,vs]}};refine tail_any (ops:=[.ref a,.ref s3.heap.objs.size]) ht.isList.typeIs slot_list_getitem.lookup ?_ (by rfl);refine wpAny_getItem_list_slice ht.isList (Heap.IsSliceOf.new ..) .none .none pz (by decide) ?_ (by rw[hlen];exact hz);rw[PySem.W.krv_pick];refine⟨.ref _,_,I4.laid (t':=s3.toks) (o:=.lst xs.reverse) (λb ob q=>wa _ q) (xb _) ?_,rfl,q _ (I4.hok.fresh (xb _))⟩;refine⟨by rw[wA];exact hz,its.reverse,0,r.reverse,?_⟩;have:=Xb (s3.heap.push {cls:=.type "slice",data:=.fields #[.none,.none,vs]}) (o:={cls:=.type "list",data:=.seq its.reverse.toArray}) rfl;simpa using this
end
end L3
end
section
namespace L3
open PySem PySem.Spec PyProof.Rows L2 M3
end L3
end
section
namespace L3
open PySem PySem.Spec PyProof.Rows L2 M3
noncomputable def tabF(P:Addr)(lp:Pos)(oc:Option Addr):Heap->Prop:=λh=>∃ ps:Array Value,h.get? P=some (PySem.W.tabObj ps)/\TriplesOk ps.toList/\codeAmong lp ps.toList=oc.map Value.ref
noncomputable def codF(c':Addr)(q:Str):Heap->Prop:=λh=>h.CodeRec (.ref c') q
structure LamB (mg:Str->Option Value) (base:Heap) (c P:Addr):Prop where
 code:PySem.W.CodeHd base c P
 bmain:∃ bm ob,mg "__builtins__"=some (.ref bm)/\bm≠builtinsNs/\base.get? bm=some ob/\ob.cls=.type "module"/\ob.dict=some builtinsNs/\ob.data=.plain
end L3
end
section
namespace L3
open PySem PySem.Spec PyProof.Rows L2 M3
theorem YT{α β:Type}{F:α->β->Prop}:∀{l₁:List α}{l₂:List β},Paired F l₁ l₂->l₁.length=l₂.length
 |_,_,.nil=>rfl
 |_,_,.cons r t=>by simp[YT t]
end L3
end
section
namespace L3
open PySem PySem.Spec PyProof.Rows L2 M3
theorem qce:typeLookup (.type "list") "__getattr__"=pure none:=by rw[typeLookup_type,builtinLookup_eq_fast];kernel_rfl
theorem qbC:typeLookup (.type "list") "keys"=pure none:=by rw[typeLookup_type,builtinLookup_eq_fast];kernel_rfl
section
variable {prog:Program} {w:World} {A:Around} {h:Heap} {g:Array GenState} {d:Drawn} {t:Nat} {os:OsState} {a:Addr} {its:Array Value} {n:Nat}
noncomputable abbrev Qcj(its:Array Value)(n:Nat):Obj:={cls:=.type "list",data:=.seq its n}
theorem Yb4{E:Value->Shared->Prop}{tk:Tok}{Q:Fin->Shared->Prop}(hx:h.get? a=some (Qcj its n))(hh:A.handled=none)
  (hE:∀ h' tk' e,Heap.NewAttrErr h h' e (.ref a) "keys"->E (.ref e) ⟨h',g,d,tk',os⟩) :
  wpAny (model prog w) A (Builtin.«object.__getattribute__» ⟨[.ref a,.str "keys" tk],[]⟩) Q E ⟨h,g,d,t,os⟩:=by
 have hT:(⟨h,g,d,t,os⟩:Shared).TypeIs (.ref a) "list":=⟨_,hx,rfl⟩;have f1:=qbC;unfold Builtin.«object.__getattribute__»
 repeat (any_goals (first|assumption|wp_step))
 exact wpAny_raiseAttrError hh hE (attrMsg_fits (by decide +kernel) (by decide +kernel))
theorem Ycv{tk:Tok}{R:Result->Shared->Prop}(hx:h.get? a=some (Qcj its n))(hh:A.handled=none)
  (hR:∀ h' tk' e,Heap.NewAttrErr h h' e (.ref a) "keys"->R (.error (.ref e)) ⟨h',g,d,tk',os⟩) :
  codeAny (model prog w) A (.call (.builtin "list.__getattribute__") ⟨[.ref a,.str "keys" tk],[]⟩) R ⟨h,g,d,t,os⟩ :=
 codeAny_call_builtin PySem.F.slot_list_getattribute.plain PySem.F.entry_list_ga (PySem.F.slot_list_getattribute.check _ _ _ _ _ _ _ _ (show(⟨h,g,d,t,os⟩:Shared).TypeIs (.ref a) "list" from⟨_,hx,rfl⟩) (PySem.F.args_list_getattribute_2 _ _) (Yb4 hx hh hR))
theorem km_by{E:Value->Shared->Prop}{Q:Value->Shared->Prop}{tk:Tok}(hx:h.get? a=some (Qcj its n))(hh:A.handled=none)
  (hE:∀ h' tk' e,Heap.NewAttrErr h h' e (.ref a) "keys"->E (.ref e) ⟨h',g,d,tk',os⟩) :
  wpAny (model prog w) A (getAttrBy (.ref a) (.str "keys" tk) false) Q E ⟨h,g,d,t,os⟩:=by
 have hT:(⟨h,g,d,t,os⟩:Shared).TypeIs (.ref a) "list":=⟨_,hx,rfl⟩;have f2:=PySem.F.slot_list_getattribute.lookup;have f3:=PySem.F.slot_list_getattribute.bind (.ref a);have f4:=qce
 repeat (any_goals (first|assumption|wp_step))
 refine Ycv hx hh λh' tk' e ne=>?_;obtain⟨t',u',he⟩:=ne.there;have f5:=sub_AttributeError;show wpAny _ _ (getattributeRaised _ _ _ _ _ _ _) _ _ _;unfold getattributeRaised
 repeat (any_goals (first|assumption|wp_step))
 exact hE _ _ _ ne
theorem yct{E:Value->Shared->Prop}{Q:Option Value->Shared->Prop}(hx:h.get? a=some (Qcj its n))(hh:A.handled=none)
  (hQ:∀ h' tk',(∀ b o,h.get? b=some o->h'.get? b=some o)->Q none ⟨h',g,d,tk',os⟩) :
  wpAny (model prog w) A (getAttr? (.ref a) "keys") Q E ⟨h,g,d,t,os⟩:=by
 have f5:=sub_AttributeError;unfold getAttr? getAttrBy?
 repeat (any_goals (first|assumption|with_reducible apply km_by hx hh|wp_step))
 intro h' tk' e ne;obtain⟨t',u',he⟩:=ne.there
 repeat (any_goals (first|assumption|wp_step))
 exact hQ _ _ ne.keeps
end
theorem zae:plainId "dict.update.loop"=true:=by decide +kernel
theorem Qba:entryFor table "dict.update.loop"=some Builtin.«dict.update.loop»:=entryFor_of_fast (by kernel_rfl)
noncomputable def Zp(ps:List (List Key×Addr×Value))(xs:List (List Key×Addr×Value)):List (List Key×Addr×Value):=ps.foldl (λacc p=>storedH acc p.1 p.2.1 p.2.2) xs
theorem ZaK{K:Type} [DecidableEq K] (xs:List (K×Addr×Value))(k:K)(a:Addr)(v:Value):(storedH xs k a v).length<=xs.length+1:=by
 unfold storedH;split <;> simp
theorem Qaz:∀(ps xs:List (List Key×Addr×Value)),(Zp ps xs).length<=xs.length+ps.length
 |[],xs=>by simp[Zp]
 |p::ps,xs=>by
  have h1:=Qaz ps (storedH xs p.1 p.2.1 p.2.2);have h2:=ZaK xs p.1 p.2.1 p.2.2;show(Zp ps (storedH xs p.1 p.2.1 p.2.2)).length<=_;simp only[We];lia
section
variable {prog:Program} {w:World} {A:Around} {R:Result->Shared->Prop} {D I l:Addr} {items:Array Value} {h₀:Heap}
noncomputable def Zcs(prog:Program)(w:World)(h:Heap)(items:Array Value)(ps:List (List Key×Addr×Value)):Prop :=
 ∀(i:Nat)(v:Value),items[i]?=some v->∃ T p,v=.ref T/\ps[i]?=some p/\IsTup h T #[.ref p.2.1,p.2.2]/\(tupleKind (qg prog w)).is h p.1 p.2.1
theorem ybc{h h':Heap}{xs:List (List Key×Addr×Value)}{i:Nat}(x:h.DictOfH (tupleKind (qg prog w)) D xs)(hDI:D≠I)(st:h.IsListIter I l i)(sb:∀ b o,b≠I->h.get? b=some o->h'.get? b=some o):h'.DictOfH (tupleKind (qg prog w)) D xs:=by
 obtain⟨o,es,ep,e1,e2,e3,e4,e5,e6⟩:=x;refine⟨o,es,ep,sb D o hDI e1,e2,e3,e4,λy hy=>?_,e6⟩;obtain⟨o',its,n,k1,k2,k3⟩:=e5 y hy;refine⟨o',its,n,sb _ _ (λe=>?_) k1,k2,k3⟩;obtain⟨o2,q1,q2,_⟩:=st;rw[e,q1] at k1;cases k1;rw[q2] at k2;exact absurd k2 (by decide)
theorem qa7(ps:List (List Key×Addr×Value))(i:Nat)(p:List Key×Addr×Value)(h:ps[i]?=some p):Zp (ps.take (i+1)) []=storedH (Zp (ps.take i) []) p.1 p.2.1 p.2.2:=by
 unfold Zp;rw[Vs,h];simp
theorem Ycj(hu:A.units+2<cLine)(hh:A.handled=none)(ps:List (List Key×Addr×Value))(hps:ps.length=items.size)(hz:items.size<sizeLine)(hDI:D≠I)(hlI:l≠I)(hlD:l≠D)
  (keepP:∀ h',(∀ b o,b≠D->b≠I->h₀.get? b=some o->h'.get? b=some o)->Zcs prog w h' items ps) :
  ∀(m i:Nat)(s:Shared)(t:Tok),items.size-i=m->i<=items.size->s.heap.IsListIter I l i->s.heap.IsList l items->(∀ b o,b≠D->b≠I->h₀.get? b=some o->s.heap.get? b=some o) ->
  s.heap.DictOfH (tupleKind (qg prog w)) D (Zp (ps.take i) []) ->
  (∀ h' tk,h'.DictOfH (tupleKind (qg prog w)) D (Zp ps [])->(∀ b o,b≠D->b≠I->h₀.get? b=some o->h'.get? b=some o)->R (.ok (.ret .none)) {s with heap:=h',toks:=tk}) ->
  codeAny (model prog w) A (.builtin "dict.update.loop" ⟨[.ref D,.ref I,.int i t,.none],[]⟩) R s:=by
 intro m
 induction m with
 |zero =>
  intro i s t hm hi st hl hk hd hR;have hin:i=items.size:=by lia
  refine codeAny_builtin Qba ?_;rw[Around.under_plainId zae _];show wpAny _ A.in1 (pyNext (.ref I) >>= _) _ _ s;refine wpAny_bind (wpAny_pyNext_list_end hh st hl (by simp[hin]) λh' eb=>?_);show wpAny _ _ (Builtin.Dict.addKeywords D [] >>= _) _ _ _;refine wpAny_bind (wpAny_pure (wpAny_pure (hR h' _ ?_ λb o h1 h2 e=>eb b o h2 (hk b o h1 h2 e))));have:=ybc hd hDI st eb
  rwa [hin,<- hps,wm] at this
 |succ m ih =>
  intro i s t hm hi st hl hk hd hR;have hlt:i<items.size:=by lia
  refine codeAny_builtin Qba ?_;rw[Around.under_plainId zae _];show wpAny _ A.in1 (pyNext (.ref I) >>= _) _ _ s;refine wpAny_bind (wpAny_pyNext_list_item st hl (x:=items[i]) (by simp[hlt]) λh' st' sb=>?_);have hk':∀ b o,b≠D->b≠I->h₀.get? b=some o->h'.get? b=some o:=λb o h1 h2 e=>(sb.2 b h2).trans (hk b o h1 h2 e);obtain⟨T,p,e1,e2,e3,e4⟩:=keepP h' hk' i items[i] (by simp[hlt]);have hd':=ybc hd hDI st sb.extBut;obtain⟨oT,t1,t2,tn,t3⟩:=e3;have hlen:(Zp (ps.take i) []).length<=sizeLine:=by
   have:=Qaz (ps.take i) [];simp only[Vm,Vl] at this
   lia
  rw[e1];show wpAny _ _ (holding _ _ >>= _) _ _ _;refine wpAny_bind (wpAny_holding ?_);refine wpAny_bind (wpAny_tryCatch (wpAny_bind (wpAny_typeOf (T:="tuple") ⟨oT,t1,t2⟩ ?_)));rw[if_pos (by decide)];refine wpAny_bind (wpAny_seqItems t1 t3 (wpAny_pure ?_));show wpAny _ _ (holding [Value.ref p.2.1,p.2.2] (dictSet D (.ref p.2.1) p.2.2)) _ _ _;refine wpAny_holding (wpAny_dictSet_heap (knd:=tupleKind (qg prog w)) (tupleKind_room_in1 (by lia)) e4 hd' (λh'' hd'' sb''=>?_) hlen);refine wpAny_pure ⟨plainId_quiet zae _,?_⟩;have hk'':∀ b o,b≠D->b≠I->h₀.get? b=some o->h''.get? b=some o:=λb o h1 h2 e=>(sb''.2 b h1).trans (hk' b o h1 h2 e);refine ih (i+1) _ _ (by lia) hlt (st'.at λo e=>(sb''.2 I (Ne.symm hDI)).trans e) (hl.at λo e=>(sb''.2 l hlD).trans ((sb.2 l hlI).trans e)) hk'' (by rw[qa7 ps i p e2];exact hd'') λh3 tk hd3 hk3=>hR h3 tk hd3 hk3
end
section
variable {X:Cx}
noncomputable def ZbH(H:Hp):List V->List (List Key×V)->Prop:=Paired λv kv=>∃ T K,v=V.ref T/\H T=some (.tup [.ref K,kv.2])/\H K=some (.tup (kv.1.map kV))
noncomputable def yy(kas kvs:List (List Key×V)):List (List Key×V):=kas.foldl (λacc kv=>qaP acc kv.1 kv.2) kvs
theorem Q9:∀(kas kvs:List (List Key×V)),(yy kas kvs).length<=kvs.length+kas.length
 |[],kvs=>by simp[yy]
 |p::kas,kvs=>by
  have h1:=Q9 kas (qaP kvs p.1 p.2);have h2:=Qbq kvs p.1 p.2;show(yy kas (qaP kvs p.1 p.2)).length<=_;simp only[We];lia
theorem qbr{P:Program}{w:World}{H:Hp}{h:Heap}(ok:HOk P w H h):∀{vs:List V}{kas:List (List Key×V)} {us:List Value},ZbH H vs kas->Vals vs us ->
  ∃ ps,KT H kas ps/\ps.length=us.length/\∀(i:Nat)(v:Value),us[i]?=some v->∃ T p,v=.ref T/\ps[i]?=some p/\IsTup h T #[.ref p.2.1,p.2.2]/\(tupleKind (qg P w)).is h p.1 p.2.1
 |_,_,_,.nil,.nil=>⟨[],.nil,rfl,λi v e=>by simp at e⟩
 |_,_,_,.cons (a:=v) (b:=kv) hv tv,.cons (b:=u) hu tu=>by
  obtain⟨ps,k1,k2,k3⟩:=qbr ok tv tu;obtain⟨T,K,rfl,hT,hK⟩:=hv;obtain rfl:u=Value.ref T:=hu;obtain⟨_,its,r,o,e1,e2,n,e3⟩:=ok T _ hT
  rcases its with _|⟨x,_|⟨y,_|⟨z,its⟩⟩⟩
  ·cases r
  ·cases r with|cons _ t=>cases t
  ·cases r with
   |cons hx t=>cases t with
    |cons hy t =>
     obtain rfl:x=Value.ref K:=hx;refine⟨(kv.1,K,y)::ps,.cons ⟨rfl,hK,hy⟩ k1,by simp[k2],λi v e=>?_⟩;cases i with
     |zero=>simp at e;subst e;exact⟨T,_,rfl,rfl,⟨o,e1,e2,n,by simpa using e3⟩,QbH ok hK⟩
     |succ i=>simpa using k3 i v (by simpa using e)
  ·cases r with|cons _ t=>cases t with|cons _ t=>cases t
theorem Ycc{H:Hp}{kas:List (List Key×V)}{ps:List (List Key×Addr×Value)}(k:KT H kas ps):∀{kvs:List (List Key×V)} {xs:List (List Key×Addr×Value)},KT H kvs xs->KT H (yy kas kvs) (Zp ps xs):=by
 induction k with
 |nil=>intro kvs xs r;exact r
 |@cons p q as bs h t ih =>
  intro kvs xs r;have e:=r.put p.1 (b:=q.2.1) h.2.1 h.2.2;show KT H (yy as (qaP kvs p.1 p.2)) (Zp bs (storedH xs q.1 q.2.1 q.2.2));rw[<- h.1];exact ih e
noncomputable def yc0:List V->Hp->VK->Prop:=λxs H Q=>∃ a vs kas,xs=[.ref a]/\Rd H a (.lst vs)/\ZbH H vs kas/\kas.length<sizeLine/\∀ p o,H p=none->Q (.ref p) (upd H p (.frz o (.dT (yy kas []))))
theorem QbF(hc:X.calm=true)(hu:X.A.units+3<cLine):CallR X (.type "dict") yc0:=by
 intro pins s σ H xs us Q I r h;obtain⟨a,vs,kas,rfl,ha,pv,hz,q⟩:=h;obtain rfl:=QbO r;obtain⟨_,its,n,rv,hg⟩:=ha.ok I.hok;obtain⟨ps,k1,k2,k3⟩:=qbr I.hok pv rv;have hh:=I.ok.hd hc;have hlk:kas.length=ps.length:=YT k1;have lta:a<s.heap.objs.size:=Va hg;refine callType_codes (Q₁:=λobj s₁=>obj=.ref s.heap.objs.size/\s₁={s with heap:=s.heap.push {cls:=.type "dict",data:=.dict #[]}}) PySem.F.kt_called_dict (PySem.F.kt_typeCall_dict_1 _) PySem.F.entry_dict_init (kt_code_dict_new _ ⟨rfl,rfl⟩) ?_;rintro obj s₁ ⟨rfl,rfl⟩;obtain⟨_,hsys,xs0,r0,oD,es0,ep0,d1,d2,d3,d4,d5⟩:=zbu (P:=X.prog) (w:=X.w) (H:=H) s.heap I.big;cases r0;generalize hp1:s.heap.push {cls:=.type "dict",data:=.dict #[]}=h1 at d1;have hg1:h1.get? a=some (Qcj its.toArray n):=by rw[<- hp1];exact wa _ hg
 have sz1:h1.objs.size=s.heap.objs.size+1:=by rw[<- hp1];simp
 have kp1:∀ b o,s.heap.get? b=some o->h1.get? b=some o:=λb o e=>by rw[<- hp1];exact wa _ e
 refine⟨⟨oD,d1,d2.1⟩,PySem.F.args_dict_init_2 _ _,?_⟩;unfold Builtin.«dict.__init__»;refine wpAny_bind ?_;unfold Builtin.Dict.selfAndRest;refine wpAny_bind (wpAny_notOrdered_dict ⟨oD,d1,d2.1⟩ ?_);show wpAny _ _ (pure (s.heap.objs.size,[Value.ref a])) _ _ _;refine wpAny_pure ?_;show wpAny _ _ (Builtin.Dict.updateFrom "dict.__init__" s.heap.objs.size (.ref a) [] .none) _ _ _;unfold Builtin.Dict.updateFrom;refine wpAny_bind (wpAny_typeOf (T:="list") ⟨_,hg1,rfl⟩ ?_);rw[if_pos (by decide)];refine wpAny_bind (yct hg1 hh λh2 tk2 kp2=>?_);have hg2:=kp2 _ _ hg1;rw[if_pos (by decide)];refine wpAny_bind (wpAny_rule ?_);refine wpAny_bind (wpAny_pyIter_list (items:=its.toArray) ⟨_,hg2,rfl,n,rfl⟩ ?_);refine wpAny_pure ⟨plainId_quiet zae _,?_⟩;generalize hp3:h2.push {cls:=.type "list_iterator",data:=.fields #[.ref a,.int 0 0]}=h3;have kp3:∀ b o,h2.get? b=some o->h3.get? b=some o:=λb o e=>by rw[<- hp3];exact wa _ e
 have kp:∀ b o,s.heap.get? b=some o->h3.get? b=some o:=λb o e=>kp3 _ _ (kp2 _ _ (kp1 _ _ e));have ltD:s.heap.objs.size<h2.objs.size:=Va (kp2 _ _ d1);refine Ycj (A:=X.A.in1) (D:=s.heap.objs.size) (I:=h2.objs.size) (l:=a) (items:=its.toArray) (h₀:=s.heap) (by show X.A.units+1+2<cLine;lia) hh ps (by simp[k2]) (by rw[ua,<- k2,<- hlk];exact hz) (Wc ltD) (Wc (Ur lta ltD)) (Wc lta)
  (λh' kk i v e=>?_) its.toArray.size 0 _ (0:Tok) (by simp) (Uk _) ?_ ?_ ?_ ?_ λh' tk hd hk=>?_
 ·obtain⟨T,p,e1,e2,⟨oT,t1,t2⟩,oK,iK,nK,q1,q2⟩:=k3 i v (by simpa using e);have up:∀ b o,s.heap.get? b=some o->h'.get? b=some o:=λb o e=>kk b o (Wc (Va e)) (Wc (Ur (Va e) ltD)) e;exact⟨T,p,e1,e2,⟨oT,up _ _ t1,t2⟩,oK,iK,nK,up _ _ q1,q2⟩
 ·exact⟨_,by rw[<- hp3];exact Xb _ rfl,rfl,rfl⟩
 ·exact⟨_,kp _ _ hg,rfl,n,rfl⟩
 ·exactλb o _ _ e=>kp _ _ e
 ·refine⟨oD,es0,ep0,kp3 _ _ (kp2 _ _ d1),d2,d3,?_,λx hx=>?_,?_⟩
  ·simpa[Zp] using d4
  ·simp[Zp] at hx
  ·simp[Zp]
 ·obtain⟨o,es,ep,e1,e2,e3,e4,e5,e6⟩:=hd;have up:∀ b o,s.heap.get? b=some o->h'.get? b=some o:=λb o e=>hk b o (Wc (Va e)) (Wc (Ur (Va e) ltD)) e;have fr:H s.heap.objs.size=none:=I.hok.fresh (xb _);refine⟨rfl,.ref s.heap.objs.size,_,I.laid (a:=s.heap.objs.size) (o:=.frz o (.dT (yy kas []))) (t':=tk) up (xb _) ⟨e1,?_⟩,rfl,q _ o fr⟩;refine⟨?_,hsys,Zp ps [],?_,o,es,ep,e1,e2,e3,e4,e6⟩
  ·have:=Q9 kas [];simp only[Vm] at this
   lia
  ·exact(Ycc k1 (kvs:=[]) (xs:=[]) .nil).keeps λb ys e=>by rw[qc (Zd e fr)];exact e
end
end L3
end
section
namespace L3
open PySem PySem.Spec PyProof.Rows L2 M3
noncomputable def hP1:Nat:=11400714785074694791
noncomputable def hP2:Nat:=14029467366897019727
noncomputable def hP5:Nat:=2870177450012600261
noncomputable def hI2:Nat:=839798700976720815
noncomputable def hM:Nat:=18446744073709551616
noncomputable def Qbd(x:Nat):Nat:=((x*2147483648)%hM+x/8589934592)*hP1%hM
noncomputable def hI1:Nat:=614540362697595703
theorem qcz:hP1*hI1%hM=1:=by decide +kernel
theorem zcs:hP2*hI2%hM=1:=by decide +kernel
theorem qbw{p i x y:Nat}(hi:p*i%hM=1)(h:x*p%hM=y*p%hM):x%hM=y%hM:=by
 have e:∀ z,(z*p%hM)*i%hM=z%hM:=λz=>by
  rw[ut (z*p%hM),Nat.mod_mod,<- ut,Nat.mul_assoc,ut,hi];simp
 rw[<- e x,<- e y,h]
theorem zcm{x:Nat}(hx:x<hM):(x*2147483648)%hM+x/8589934592=(x%8589934592)*2147483648+x/8589934592:=by
 have e:x*2147483648=(x%8589934592)*2147483648+hM*(x/8589934592):=by unfold hM;lia
 rw[e,Nat.add_mul_mod_self_left,Wo];unfold hM;lia
theorem QbW{x y:Nat}(hx:x<hM)(hy:y<hM)(h:Qbd x=Qbd y):x=y:=by
 have:=qbw qcz h;rw[zcm hx,zcm hy] at this;have q1:x/8589934592<2147483648:=by unfold hM at hx;lia
 have q2:y/8589934592<2147483648:=by unfold hM at hy;lia
 have r1:x%8589934592<8589934592:=Xk _ (by lia);have r2:y%8589934592<8589934592:=Xk _ (by lia);have x1:=Nat.div_add_mod x 8589934592;have y1:=Nat.div_add_mod y 8589934592;generalize x/8589934592=q at *;generalize y/8589934592=q' at *;generalize x%8589934592=r at *;generalize y%8589934592=r' at *;rw[Wo (by unfold hM;lia),Wo (by unfold hM;lia)] at this;omega
noncomputable def qco(a:Nat):Nat:=Qbd ((hP5+a*hP2)%hM)
noncomputable def Zax(a b:Nat):Nat:=Qbd ((qco a+b*hP2)%hM)
noncomputable def yaV(z:Nat):Nat:=(z+(2 ^^^ (hP5 ^^^ 3527539)))%hM
noncomputable def hBnd:Nat:=64
theorem Ya7:∀ a<hBnd,hashInt (a:Int)=(a:Int):=by decide +kernel
noncomputable def ybU(m p1 p2 p5 q u v:Nat)(hashes:List Int):Int :=
 let acc:=hashes.foldl (init:=p5) λacc h =>
  let acc:=(acc+(h%(m:Int)).toNat*p2)%m
  let acc:=(acc*u)%m+acc/v
  (acc*p1)%m
 let acc:=(acc+(hashes.length ^^^ q))%m
 if acc==m-1 then 1546275796 else if acc<2^63 then acc else(acc:Int)-m
noncomputable def qb7(m p1 u v x:Nat):Nat:=((x*u)%m+x/v)*p1%m
noncomputable def ycp(m p1 p2 p5 u v a b:Nat):Nat:=qb7 m p1 u v ((qb7 m p1 u v ((p5+(a%m)*p2)%m)+(b%m)*p2)%m)
theorem zbI(hs:List Int):Builtin.Tuple.tupleHashOf hs=ybU (2^64) 11400714785074694791 14029467366897019727 2870177450012600261 (2870177450012600261 ^^^ 3527539) (2^31) (2^33) hs:=rfl
theorem zb8(m p1 p2 p5 q u v a b:Nat):ybU m p1 p2 p5 q u v [(a:Int),(b:Int)]=if(ycp m p1 p2 p5 u v a b+(2 ^^^ q))%m=m-1 then 1546275796 else if(ycp m p1 p2 p5 u v a b+(2 ^^^ q))%m<2^63 then(((ycp m p1 p2 p5 u v a b+(2 ^^^ q))%m:Nat):Int) else(((ycp m p1 p2 p5 u v a b+(2 ^^^ q))%m:Nat):Int)-(m:Int):=by
 have e:∀ x:Nat,((x:Int)%(m:Int)).toNat=x%m:=λx=>by
  rw[<- Int.natCast_emod,Wx]
 simp only[ybU,ycp,qb7,Um,List.foldl_nil,beq_iff_eq,We,Vm,e,WB,Nat.reduceAdd];rfl
theorem ZcH:(2^64:Nat)=hM:=by decide +kernel
theorem pow31:(2^31:Nat)=2147483648:=by decide +kernel
theorem pow33:(2^33:Nat)=8589934592:=by decide +kernel
theorem pow63:(2^63:Nat)=9223372036854775808:=by decide +kernel
noncomputable def zbX(a b:Nat):Nat:=yaV (Qbd ((Qbd ((hP5+(a%hM)*hP2)%hM)+(b%hM)*hP2)%hM))
theorem Qb0(a b:Nat):Builtin.Tuple.tupleHashOf [(a:Int),(b:Int)]=if zbX a b=hM-1 then 1546275796 else if zbX a b<9223372036854775808 then(zbX a b:Int) else(zbX a b:Int)-(hM:Int):=by
 have h:=zb8 (2^64) 11400714785074694791 14029467366897019727 2870177450012600261 (2870177450012600261 ^^^ 3527539) (2^31) (2^33) a b;rw[<- zbI,ZcH,pow31,pow33,pow63] at h;exact h
end L3
end
section
namespace L3
open PySem PySem.Spec PyProof.Rows L2 M3
theorem ZaA{α:Type}(f:α->Int):∀(l:List α)(c:Int),(l.map f).Nodup->(l.filter λx=>f x==c).length<=1
 |[],_,_=>by simp
 |x::l,c,h=>by
  rw[Xd,Xm] at h;have ih:=ZaA f l c h.2;by_cases e:f x=c
  ·have z:(l.filter λx=>f x==c)=[]:=by
    rw[List.filter_eq_nil_iff];intro y hy q;exact h.1 (Vj.mpr ⟨y,hy,by rw[e];simpa using q⟩)
   simp[vt,e,z]
  ·simp[vt,e];exact ih
section
variable {prog:Program} {w:World} {A:Around} {E:Value->Shared->Prop} {s:Shared} {K:Type} [DecidableEq K] {knd:KeyKind prog w K}
theorem ybs{a:Addr}{Q:Bool->Shared->Prop}(hT:s.TypeIs (.ref a) "tuple")(h:Q false s):wpAny (model prog w) A (Builtin.Dict.quietEq (.ref a)) Q E s:=by
 unfold Builtin.Dict.quietEq;refine wpAny_bind (wpAny_specialOf hT PySem.F.slot_tuple_eq.lookup ?_);exact wpAny_pure h
theorem ZcC{id:String}{d:Addr}{o:Obj}{es:Array DictEntry}{ep:Nat}{xs:List (List K×Addr×Value)}{Q:Array DictEntry->Shared->Prop}(ho:s.heap.get? d=some o)(hd:o.data=.dict es ep)
  (he:es.toList=xs.map (entryOfKey (tupleKind knd))) (his:∀ x∈xs,(tupleKind knd).is s.heap x.1 x.2.1) (hn:(xs.map λx=>(tupleKind knd).hash x.1).Nodup) (h:Q es s) :
  wpAny (model prog w) A (Builtin.Dict.entriesForEmpty id d) Q E s:=by
 unfold Builtin.Dict.entriesForEmpty;refine wpAny_bind (wpAny_dictEntries ho hd (wpAny_bind ?_));rw[<- Array.forIn_toList];have hcount:∀ c:Int,¬(es.filter λe=>e.hash==c).size>1:=λc q=>by
  have h1:(es.filter λe=>e.hash==c).size=(es.toList.filter λe=>e.hash==c).length:=by rw[<- Array.toList_filter,vj]
  have h2:=ZaA (λe:DictEntry=>e.hash) es.toList c (by rw[he,ug];exact hn)
  lia
 refine wpAny_forIn_list _ (λrest _ s'=>s'=s/\∀ e∈rest,∃ x∈xs,e=entryOfKey (tupleKind knd) x) _ ?_ ?_ _ _ ⟨rfl,λe hm=>?_⟩
 ·rintro e rest b s' ⟨rfl,hr⟩;obtain⟨x,hx,rfl⟩:=hr e (Xh);obtain⟨ok,ik,nk,k1,k2,k3⟩:=his x hx;refine wpAny_bind (ybs ⟨ok,k1,k2⟩ ?_);rw[if_pos (by rfl)];rw[if_neg (hcount _)];exact wpAny_pure ⟨rfl,λe he=>hr e (Xe _ he)⟩
 ·rintro b s' ⟨rfl,_⟩;exact wpAny_pure h
 ·rw[he] at hm;obtain⟨x,hx,rfl⟩:=Vj.mp hm;exact⟨x,hx,rfl⟩
theorem QbS{nm:String}{d o:Addr}{xs more:List (List K×Addr×Value)}{Q:Unit->Shared->Prop}(hdo:d≠o)(hoS:(o==sysModules)=false)
  (hd:s.heap.DictOfH (tupleKind knd) d xs) (ho:s.heap.DictOfH (tupleKind knd) o more) (hz:more.length<=sizeLine) (hn:(more.map λx=>(tupleKind knd).hash x.1).Nodup) (hx:xs=[]\/more=[])
  (hQ:∀ h',h'.DictOfH (tupleKind knd) d (if more=[] then xs else more)->Heap.SameBut d s.heap h'->Q () {s with heap:=h'}) :
  wpAny (model prog w) A (Builtin.Dict.mergeDict nm d o) Q E s:=by
 obtain⟨od,esd,epd,d1,d2,d3,d4,d5,d6⟩:=id hd;obtain⟨oo,eso,epo,o1,o2,o3,o4,o5,o6⟩:=id ho;have hlen:eso.size=more.length:=by rw[<- vj,o4,vc]
 unfold Builtin.Dict.mergeDict;rw[if_neg (by simpa using hdo)];unfold Builtin.Dict.showsAll;rw[if_neg (by rw[hoS];exact Vc)];refine wpAny_bind (wpAny_pure ?_);refine wpAny_bind (wpAny_dictEntries o1 o3 ?_);by_cases hm:more=[]
 ·subst hm;obtain rfl:eso=#[]:=by
   apply Xu;rw[hlen];rfl
  rw[if_neg (by simp)];refine wpAny_bind (wpAny_dictEpoch o1 o3 ?_);refine wpAny_bind (wpAny_dictEntries o1 o3 ?_);have hq:=hQ s.heap (by rw[if_pos rfl];exact hd) (Heap.SameBut.refl _ _);refine wpAny_bind ?_;rw[Std.Legacy.Range.forIn_eq_forIn_range'];simp only[Std.Legacy.Range.size,ua,Vm,uu,xB,Nat.div_one,List.range'_zero,wz];exact wpAny_pure (wpAny_pure hq)
 ·obtain rfl:xs=[]:=hx.resolve_right hm;have he:esd=#[]:=by
   apply Xu;rw[<- vj,d4];rfl
  subst he;have hall:(decide (eso.size<=8)&&eso.all λe=>(keyPart e.key).isSome)=false:=by
   rw[Wz]
   right
   rw[<- WD,o4];cases more with
   |nil=>exact absurd rfl hm
   |cons x r=>rfl
  simp only[hall];rw[if_pos (by rfl)];refine wpAny_bind (wpAny_dictEntries d1 d3 ?_);rw[if_pos (by rfl)];refine wpAny_bind (ZcC o1 o3 o4 o5 hn ?_);have hne:eso.isEmpty=false:=by
   rw[Vw];intro z;rw[z] at hlen;exact hm (Us.mp (by simpa using hlen.symm))
  rw[if_pos (by rw[hne];rfl)];refine wpAny_bind (wpAny_updateDictKeysTo d1 d3 (wpAny_pure (hQ _ ?_ (Heap.SameBut.update ..))) (by lia));rw[if_neg hm];refine⟨_,_,epd+1,xi _ d1 (Obj.isFreed_of_dict (Obj.data_mapDictKeys d3 _)),d2.mapDictKeys _,Obj.data_mapDictKeys d3 _,o4,λx hx=>?_,o6⟩;exact(tupleKind knd).keeps (o5 x hx) d1 d3 (Heap.SameBut.update ..)
end
theorem YbY:typeOf (.builtin "dict.update")=pure (.type "method_descriptor"):=by
 show builtinType _=_;rw[builtinType_eq_fast]
 kernel_rfl
theorem YaT:entryFor table "dict.update"=some Builtin.«dict.update»:=entryFor_of_tree (by kernel_rfl)
theorem qba(u v:Value):argsOk "dict.update" ⟨[u,v],[]⟩:=by
 unfold argsOk;rw[signature?_of (id:="dict.update") (n:="etadpu".toList) (o:="tcid".toList) (by kernel_rfl) PySem.F.owner_dict]
 kernel_rfl
section
variable {X:Cx} {pins:List (Addr×Obj)} {σ:L2.St} {H:Hp} {s:Shared} {a b:Addr} {A:Around} {E:Value->Shared->Prop}
theorem ycn{kvs more:List (List Key×V)}{Q:Value->Shared->Prop}(I:Inv X pins σ H s)(ea:H a=some (.dT kvs))(eb:Rd H b (.dT more))(hne:a≠b)(hx:kvs=[]\/more=[])
  (hn:(more.map λx=>(tupleKind (qg X.prog X.w)).hash x.1).Nodup) (h:∀ s',Inv X pins σ (upd H a (.dT (if more=[] then kvs else more))) s'->Q .none s') :
  wpAny (model X.prog X.w) A (call (.builtin "dict.update") [.ref a,.ref b]) Q E s:=by
 obtain⟨za,ha,xs,ra,da⟩:=ycD I.hok ea;obtain⟨zb,hb,ys,rb,db⟩:=Zbu I.hok eb;have hl:=YT rb;have hk:∀(l:List (List Key×V)) (m:List (List Key×Addr×Value)),KT H l m->(m.map λx=>(tupleKind (qg X.prog X.w)).hash x.1)=l.map λx=>(tupleKind (qg X.prog X.w)).hash x.1:=by
  intro l m r
  induction r with
  |nil=>rfl
  |cons h t ih=>rw[Xd,Xd,ih,h.1]
 have e1:xs=[]\/ys=[]:=by
  rcases hx with rfl|rfl
  ·left;cases ra;rfl
  ·right;cases rb;rfl
 refine wpAny_call_entry PySem.F.slot_dict_update da.typeIs YaT ?_ (qba _ _);unfold Builtin.«dict.update»;refine wpAny_bind ?_;unfold Builtin.Dict.selfAndRest;refine wpAny_bind (wpAny_notOrdered_dict da.typeIs ?_);show wpAny _ _ (pure (a,[Value.ref b])) _ _ s;refine wpAny_pure ?_;show wpAny _ _ (Builtin.Dict.updateFrom "dict.update" a (.ref b) [] .none) _ _ s;unfold Builtin.Dict.updateFrom;refine wpAny_bind (wpAny_typeOf db.typeIs ?_);rw[if_neg (by decide)];refine wpAny_bind ?_;unfold Builtin.Dict.merge;refine wpAny_bind ?_;unfold Builtin.Dict.readDirectly;refine wpAny_bind (wpAny_isInstance db.typeIs isSubtype_dict_dict ?_);simp only[Bool.not_true,xj,if_false];refine wpAny_bind (wpAny_specialOf db.typeIs PySem.F.slot_dict_iter.lookup (wpAny_pure ?_));simp only[beq_self_eq_true,if_true];refine wpAny_bind (wpAny_pure ?_);refine QbS (knd:=qg X.prog X.w) hne hb da db (by rw[<- hl];exact zb) (by rw[hk _ _ rb];exact hn) e1 λh' dd hs=>?_;show wpAny _ _ (Builtin.Dict.addKeywords a [] >>= _) _ _ _;refine wpAny_bind (wpAny_pure (wpAny_pure ⟨_,rfl,h _ ?_⟩));obtain⟨q,es,ep,hq,h2,h3,h4,_,h5⟩:=dd;have kt:KT H (if more=[] then kvs else more) (if ys=[] then xs else ys):=by
  by_cases z:more=[]
  ·have z2:ys=[]:=by subst z;cases rb;rfl
   rw[if_pos z,if_pos z2];exact ra
  ·have z2:ys≠[]:=λz3=>z (by subst z3;cases rb;rfl);rw[if_neg z,if_neg z2];exact rb
 refine QbN (t':=s.toks) I (by rw[ea];exact True.intro) hs ⟨q,hq⟩ ⟨by split <;> assumption,ha,_,kt.keeps λc ys ec=>?_,q,es,ep,hq,h2,h3,h4,h5⟩;rw[qc (YcE ec ea (λz=>nomatch z))];exact ec
end
end L3
end
section
namespace M3
open PySem
open Sem (wp)
end M3
namespace L3
open PySem PySem.Spec PyProof.Rows L2 M3
end L3
end
section
namespace L3
open PySem PySem.Spec PyProof.Rows L2 M3
end L3
end
section
namespace L3
open PySem L2 PyProof.Rows
end L3
end
section
namespace L3
open PySem PySem.Spec PyProof.Rows L2 M3 PySem.Builtin PySem.Builtin.Str
section
variable {prog:Program} {w:World} {A:Around} {E:Value->Shared->Prop} {s:Shared} {x y:Str} {t u:Tok} {Q:Value->Shared->Prop}
theorem ZbC(hy:(y.length==0)=false)(hsz:x.length+2<=sizeLine)
  (h:∀(l:List (Str×Tok)) (k:Tok),l.map (·.1)=Txt.split x y->Q (.ref s.heap.objs.size) {s with heap:=s.heap.push {cls:=.type "list",data:=.seq (strValues l).toArray},toks:=k}) :
  wpAny (model prog w) A (call (.builtin "str.split") [.str x t,.str y u]) Q E s:=by
 have hn:(partsBetween x (occurrences x y 0 x.length (x.length+1)) y.length).length<=sizeLine:=by
  have e1:=StrLaws.occ_length_le x y 0 x.length (x.length+1);rw[length_partsBetween];lia
 cases h1:(decide (x.length<y.length)||decide (strKind x<strKind y))
 ·cases hf:(occurrences x y 0 x.length (x.length+1)).isEmpty
  ·refine call_meets F.slot_str_split (typeIs_str _ _ _) F.entry_str_split (F.args_str_split_2 _ _) (meets_str_split_sep x y t u h1 hy hf (by lia) hn) ?_;show wants Q E _ {s with toks:=_,heap:=s.heap.push {cls:=.type "list",data:=.seq (strsFrom s.toks (partsBetween x (occurrences x y 0 x.length (x.length+1)) y.length)).toArray}};rw[strsFrom_eq];exact h (numbered s.toks _) _ ((numbered_texts _ _).trans ((if_neg (ne_true_of_eq_false h1)).trans (if_neg (ne_true_of_eq_false hf))).symm)
  ·exact call_meets F.slot_str_split (typeIs_str _ _ _) F.entry_str_split (F.args_str_split_2 _ _) (meets_str_split_not_found x y t u h1 hy hf)
    (h [(x,t)] s.toks ((if_neg (ne_true_of_eq_false h1)).trans (if_pos hf)).symm)
 ·exact call_meets F.slot_str_split (typeIs_str _ _ _) F.entry_str_split (F.args_str_split_2 _ _) (meets_str_split_cannot_occur x y t u h1)
   (h [(x,t)] s.toks (if_pos h1).symm)
end
section
variable {X:Cx} {o e:Expr} {apos cpos:Pos} {td ty:TE}
theorem zbO:∀{ts:List Str}{us:List Value},Vals (ts.map V.str) us->StrsAre us ts
 |[],_,.nil=>.nil
 |y::ts,_,.cons r rr=>by
  obtain⟨t,rfl⟩:=(show ∃ t,_=Value.str y t from r);exact .cons y t (zbO rr)
theorem zbc:∀(l:List (Str×Tok)),Vals ((l.map (·.1)).map V.str) (strValues l)
 |[]=>.nil
 |p::l=>.cons ⟨p.2,rfl⟩ (zbc l)
noncomputable def tJoin(td ty:TE):TE:=λσ H Q=>td σ H λx H1=>∃ sep,x=.str sep/\ty σ H1 λy H2=>∃ a ts,y=.ref a/\Rd H2 a (.lst (ts.map V.str))/\(ts.map (·.length)).sum+ts.length*sep.length<=16777216/\Q (.str (Txt.join sep ts)) H2
theorem Ycu(ho:PE X o td)(he:PE X e ty)(m:M1 X o "join" apos e cpos):PE X (.Call (.Attribute o "join" apos) [e] [] cpos) (tJoin td ty):=by
 intro pins s σ H Q I h;refine wpAny_Call_method m.base m.few m.line PySem.F.plainAttrs_str PySem.F.slot_str_join PySem.F.type_str_join (thn (ho pins s σ H _ I h) λu s1 ⟨x,H1,I1,rx,sep,ex,q1⟩=>?_);subst ex;obtain⟨t,rfl⟩:=(show ∃ t,u=Value.str sep t from rx);refine⟨typeIs_str _ _ _,(λ_ e=>nomatch e),?_⟩;rw[m.trees];refine Calls.callWith_builtin rfl (Calls.evalArgs_plain (Calls.spliced_cons (thn (he pins s1 σ H1 _ I1 q1) λiv s2 ⟨y,H2,I2,ry,a,ts,ey,ea,hz,q2⟩=>Calls.spliced_nil ?_)));subst ey;obtain rfl:iv=Value.ref a:=ry;obtain⟨_,its,n,rv,hg⟩:=ea.ok I2.hok;exact join_list ⟨_,hg,rfl,n,rfl⟩ (by simpa using zbO rv) hz λt' k=>⟨.str (Txt.join sep ts),H2,I2.tok _,⟨_,rfl⟩,q2⟩
noncomputable def Zc0(td ty:TE):TE:=λσ H Q=>td σ H λx H1=>∃ z,x=.str z/\ty σ H1 λy H2=>∃ sep,y=.str sep/\(sep.length==0)=false/\z.length+2<=sizeLine/\∀ p,H2 p=none->Q (.ref p) (upd H2 p (.lst ((Txt.split z sep).map V.str)))
theorem ZbZ(x y:Str):(Txt.split x y).length<=x.length+2:=by
 unfold Txt.split;split
 ·simp
 ·split
  ·simp
  ·have e1:=StrLaws.occ_length_le x y 0 x.length (x.length+1);rw[length_partsBetween];lia
theorem zcg(ho:PE X o td)(he:PE X e ty)(m:M1 X o "split" apos e cpos):PE X (.Call (.Attribute o "split" apos) [e] [] cpos) (Zc0 td ty):=by
 intro pins s σ H Q I h;refine wpAny_Call_method m.base m.few m.line PySem.F.plainAttrs_str PySem.F.slot_str_split PySem.F.type_str_split (thn (ho pins s σ H _ I h) λu s1 ⟨x,H1,I1,rx,z,ex,q1⟩=>?_);subst ex;obtain⟨t,rfl⟩:=(show ∃ t,u=Value.str z t from rx);refine⟨typeIs_str _ _ _,(λ_ e=>nomatch e),?_⟩;rw[m.trees];refine Calls.callWith_builtin rfl (Calls.evalArgs_plain (Calls.spliced_cons (thn (he pins s1 σ H1 _ I1 q1) λiv s2 ⟨y,H2,I2,ry,sep,ey,h0,hz,q2⟩=>Calls.spliced_nil ?_)));subst ey;obtain⟨t2,rfl⟩:=(show ∃ t,iv=Value.str sep t from ry);refine ZbC h0 hz λl k el=>?_;have hf:H2 s2.heap.objs.size=none:=I2.hok.fresh (xb _);refine⟨.ref s2.heap.objs.size,_,I2.laid (a:=s2.heap.objs.size) (o:=.lst ((Txt.split z sep).map V.str)) (t':=k) (λb u e=>wa _ e) (xb _) ?_,rfl,q2 _ hf⟩;refine⟨by rw[vc];exact Ve (ZbZ z sep) hz,strValues l,0,?_,Xb _ rfl⟩;rw[<- el];exact zbc l
end
end L3
end
section
namespace L3
open PySem PySem.Spec PyProof.Rows L2 M3
noncomputable def kN(n:Nat):Nat:=(n+(hM-2))%hM
noncomputable def kG(n:Nat):Nat:=qco (kN n)*hI2%hM
noncomputable def zV:Nat:=66
theorem qbt:∀ a<zV,∀ c<zV,a≠c->zV<=(kG a+(hM-kG c))%hM:=by decide +kernel
theorem Qbg:∀ a<zV,∀ b<zV,yaV (Zax (kN a) (kN b))≠hM-1:=by decide +kernel
theorem zb4{a b c d:Nat}(ha:a<zV)(hb:b<zV)(hc:c<zV)(hd:d<zV)(h:Zax (kN a) (kN b)=Zax (kN c) (kN d)):a=c/\b=d:=by
 have hm:0<hM:=by decide
 have h1:=QbW (Xk _ hm) (Xk _ hm) h;have h2:(kG a+kN b)%hM=(kG c+kN d)%hM:=by
  have e:∀ u v,((qco u+v*hP2)%hM*hI2)%hM=(qco u*hI2%hM+v)%hM:=λu v=>by
   rw[ut,Nat.mod_mod,<- ut,uC,Nat.add_mod,Nat.mul_assoc,ut v,zcs];simp[Nat.add_mod]
  unfold kG;rw[<- e,<- e,h1]
 by_cases hac:a=c
 ·refine⟨hac,?_⟩;rw[hac] at h2;have:kG c<hM:=Xk _ hm;unfold kN at h2;unfold hM zV at *
  lia
 ·exfalso;have q1:=qbt a ha c hc hac;have q2:=qbt c hc a ha (Ne.symm hac);have l1:kG a<hM:=Xk _ hm;have l2:kG c<hM:=Xk _ hm;generalize kG a=x at *;generalize kG c=y at *;unfold kN at h2;unfold hM zV at *
  lia
theorem yb4(m p1 p2 p5 q u v:Nat)(x y x' y':Int)(hx:x%(m:Int)=x'%(m:Int))(hy:y%(m:Int)=y'%(m:Int)):ybU m p1 p2 p5 q u v [x,y]=ybU m p1 p2 p5 q u v [x',y']:=by
 simp only[ybU,Um,List.foldl_nil,hx,hy];rfl
noncomputable def zN(z:Int):Nat:=if z=-1 then 0 else z.toNat+2
theorem YaP{z:Int}(h0:-1<=z)(h1:z<64):hashInt z%((2^64:Nat):Int)=(kN (zN z):Int)%((2^64:Nat):Int)/\zN z<zV:=by
 by_cases e:z=-1
 ·subst e;decide +kernel
 ·obtain⟨a,rfl⟩:=Xl (show 0<=z by lia);have la:a<hBnd:=by unfold hBnd;lia
  rw[Ya7 a la,ZcH];unfold zN;rw[if_neg e];unfold kN hM zV;constructor
  ·simp;lia
  ·simp;lia
theorem Zcf{x y:Int}(hx:-1<=x)(hy:-1<=y)(h:zN x=zN y):x=y:=by
 unfold zN at h;split at h <;> split at h <;> lia
theorem Yb7{a b:Nat}(ha:a<zV)(hb:b<zV):Builtin.Tuple.tupleHashOf [(kN a:Int),(kN b:Int)]=if yaV (Zax (kN a) (kN b))<9223372036854775808 then(yaV (Zax (kN a) (kN b)):Int) else(yaV (Zax (kN a) (kN b)):Int)-(hM:Int):=by
 have la:kN a<hM:=Xk _ (by decide);have lb:kN b<hM:=Xk _ (by decide);rw[Qb0];have e:zbX (kN a) (kN b)=yaV (Zax (kN a) (kN b)):=by
  unfold zbX Zax qco;rw[Wo la,Wo lb]
 rw[e,if_neg (Qbg a ha b hb)]
theorem QbV{a b c d:Nat}(ha:a<zV)(hb:b<zV)(hc:c<zV)(hd:d<zV)(h:reduceHash (Builtin.Tuple.tupleHashOf [(kN a:Int),(kN b:Int)])=reduceHash (Builtin.Tuple.tupleHashOf [(kN c:Int),(kN d:Int)])):a=c/\b=d:=by
 have n1:=Qbg a ha b hb;have n2:=Qbg c hc d hd;have l1:yaV (Zax (kN a) (kN b))<hM:=Xk _ (by decide);have l2:yaV (Zax (kN c) (kN d))<hM:=Xk _ (by decide);have r:∀ z:Nat,z<hM->z≠hM-1->reduceHash (if z<9223372036854775808 then(z:Int) else(z:Int)-(hM:Int))=if z<9223372036854775808 then(z:Int) else(z:Int)-(hM:Int):=λz l n=>by
  unfold hM at *;unfold reduceHash;split
  ·rw[if_pos (by simp;lia),if_neg (by simp)]
  ·rw[if_pos (by simp;lia),if_neg (by simp;lia)]
 rw[Yb7 ha hb,Yb7 hc hd,r _ l1 n1,r _ l2 n2] at h;have e:yaV (Zax (kN a) (kN b))=yaV (Zax (kN c) (kN d)):=by
  unfold hM at *;split at h <;> split at h <;> lia
 refine zb4 ha hb hc hd ?_;have s1:Zax (kN a) (kN b)<hM:=Xk _ (by decide);have s2:Zax (kN c) (kN d)<hM:=Xk _ (by decide);unfold yaV at e;generalize (2 ^^^ (hP5 ^^^ 3527539))=k at e;unfold hM at *
 lia
noncomputable def Zbg(k:Int×Int):Prop:=(-1<=k.1/\k.1<64)/\-1<=k.2/\k.2<64
theorem qb3{P:Program}{w:World}{k k':Int×Int}(h1:Zbg k)(h2:Zbg k')(h:(tupleKind (qg P w)).hash [(Sum.inl k.1:Key),Sum.inl k.2]=(tupleKind (qg P w)).hash [(Sum.inl k'.1:Key),Sum.inl k'.2]):k=k':=by
 obtain⟨a,b⟩:=k;obtain⟨c,d⟩:=k';obtain⟨⟨a0,a1⟩,b0,b1⟩:=h1;obtain⟨⟨c0,c1⟩,d0,d1⟩:=h2;simp only at a0 a1 b0 b1 c0 c1 d0 d1;have h:reduceHash (Builtin.Tuple.tupleHashOf [hashInt a,hashInt b])=reduceHash (Builtin.Tuple.tupleHashOf [hashInt c,hashInt d]):=h;obtain⟨ea,la⟩:=YaP a0 a1;obtain⟨eb,lb⟩:=YaP b0 b1;obtain⟨ec,lc⟩:=YaP c0 c1;obtain⟨ed,ld⟩:=YaP d0 d1;have r:∀(x y:Int)(m n:Nat),x%((2^64:Nat):Int)=(kN m:Int)%((2^64:Nat):Int)->y%((2^64:Nat):Int)=(kN n:Int)%((2^64:Nat):Int)->Builtin.Tuple.tupleHashOf [x,y]=Builtin.Tuple.tupleHashOf [(kN m:Int),(kN n:Int)]:=λx y m n e1 e2=>by
  rw[zbI,zbI];exact yb4 _ _ _ _ _ _ _ _ _ _ _ e1 e2
 rw[r _ _ _ _ ea eb,r _ _ _ _ ec ed] at h;obtain⟨e1,e2⟩:=QbV la lb lc ld h;rw[Zcf a0 c0 e1,Zcf b0 d0 e2]
section
variable {prog:Program} {w:World} {A:Around} {E:Value->Shared->Prop} {s:Shared} {K:Type} [DecidableEq K] {knd:HeapKind prog w K}
theorem ybA{D b:Addr}{ys:List (K×Addr×Value)}{k:K}{v:Value}{Q:Unit->Shared->Prop}(ru:knd.room A)(ik:knd.is s.heap k b)(dd:s.heap.DictOfH knd D ys)(lz:ys.length<=sizeLine)
  (go:∀ h',h'.DictOfH knd D (storedH ys k b v)->Heap.SameBut D s.heap h'->Q () {s with heap:=h'}):wpAny (model prog w) A (dictSetHashed D (.ref b) (knd.hash k) v) Q E s:=by
 obtain⟨o,es,ep,o1,o2,o3,o4,o5,o6⟩:=dd;have sz:=size_of_entries o4;unfold dictSetHashed;refine wpAny_holding (wpAny_bind (wpAny_dictFind_heap ru ik o1 o3 o4 o5 o6 (λno=>?_) λj p hj=>?_))
 ·have e:=storedH_new (a:=b) (v:=v) (atKey_none_of_get no);refine wpAny_bind (wpAny_rule (wpAny_updateDictKeys (hz:=by lia) o1 o3 (go _ ?_ (Heap.SameBut.update ..))));rw[e];refine⟨_,_,ep+1,xi _ o1 (Obj.isFreed_of_dict (Obj.data_mapDictKeys o3 _)),o2.mapDictKeys _,Obj.data_mapDictKeys o3 _,by simp[o4,entryOfKey],λy hy=>?_,?_⟩
  ·rcases Uh.mp hy with hy|hy
   ·exact knd.keeps (o5 y hy) o1 o3 (Heap.SameBut.update ..)
   ·obtain rfl:=va.mp hy;exact knd.keeps ik o1 o3 (Heap.SameBut.update ..)
  ·rw[xg,Vp];refine⟨o6,by simp,λx hx y hy z=>?_⟩;have:y=k:=by simpa using hy
   exact not_mem_keys_of_get no (by rw[<- this,<- z];exact hx)
 ·have e:=storedH_old (a:=b) (v:=v) (atKey_of_get o6 hj);refine wpAny_bind (wpAny_rule (wpAny_bind (wpAny_updateDict o1 o3 (wpAny_point (go _ ?_ (Heap.SameBut.update ..))))));rw[e];refine⟨_,_,ep,xi _ o1 (Obj.isFreed_of_dict (Obj.data_mapDict o3 _)),o2.mapDict _,Obj.data_mapDict o3 _,?_,λy hy=>?_,by rw[keys_map_putAt];exact o6⟩
  ·have m:=modify_map_putAt (entryOfKey knd) (λe:DictEntry=>{e with val:=v}) k v (λ_ _=>rfl) o6 hj;rw[<- o4] at m;obtain⟨l⟩:=es;simpa using m
  ·obtain⟨z,hz,rfl⟩:=Vj.mp hy;unfold putAt;split <;> exact knd.keeps (o5 z hz) o1 o3 (Heap.SameBut.update ..)
end
section
variable {prog:Program} {w:World} {A:Around} {E:Value->Shared->Prop} {s:Shared} {K:Type} [DecidableEq K] {knd:KeyKind prog w K}
noncomputable def QaJ(ps xs:List (List K×Addr×Value)):List (List K×Addr×Value):=ps.foldl (λacc p=>storedH acc p.1 p.2.1 p.2.2) xs
theorem Ybb:∀(ps xs:List (List K×Addr×Value)),(QaJ ps xs).length<=xs.length+ps.length
 |[],xs=>by simp[QaJ]
 |p::ps,xs=>by
  have h1:=Ybb ps (storedH xs p.1 p.2.1 p.2.2);have h2:=ZaK xs p.1 p.2.1 p.2.2;show(QaJ ps (storedH xs p.1 p.2.1 p.2.2)).length<=_;simp only[We];lia
theorem QbJ(ps xs:List (List K×Addr×Value))(i:Nat)(p:List K×Addr×Value)(h:ps[i]?=some p):QaJ (ps.take (i+1)) xs=storedH (QaJ (ps.take i) xs) p.1 p.2.1 p.2.2:=by
 unfold QaJ;rw[Vs,h];simp
theorem ycj{h h':Heap}{D O:Addr}{ys zs:List (List K×Addr×Value)}(dd:h.DictOfH (tupleKind knd) D ys)(x:h.DictOfH (tupleKind knd) O zs)(hne:D≠O)(sb:Heap.SameBut D h h'):h'.DictOfH (tupleKind knd) O zs:=by
 obtain⟨od,esd,epd,d1,_,d3,_⟩:=dd;obtain⟨o,es,ep,e1,e2,e3,e4,e5,e6⟩:=x;exact⟨o,es,ep,(sb.2 O (Ne.symm hne)).trans e1,e2,e3,e4,λy hy=>(tupleKind knd).keeps (e5 y hy) d1 d3 sb,e6⟩
theorem zbA{nm:String}{d o:Addr}{xs more:List (List K×Addr×Value)}{Q:Unit->Shared->Prop}(hdo:d≠o)(hoS:(o==sysModules)=false)(ru:(tupleKind knd).room A)
  (hd:s.heap.DictOfH (tupleKind knd) d xs) (ho:s.heap.DictOfH (tupleKind knd) o more) (hz:xs.length+more.length<=sizeLine) (hx:xs≠[]) (hm:more≠[])
  (hQ:∀ h',h'.DictOfH (tupleKind knd) d (QaJ more xs)->Heap.SameBut d s.heap h'->Q () {s with heap:=h'}) :
  wpAny (model prog w) A (Builtin.Dict.mergeDict nm d o) Q E s:=by
 obtain⟨od,esd,epd,d1,d2,d3,d4,d5,d6⟩:=id hd;obtain⟨oo,eso,epo,o1,o2,o3,o4,o5,o6⟩:=id ho;have hlen:eso.size=more.length:=by rw[<- vj,o4,vc]
 unfold Builtin.Dict.mergeDict;rw[if_neg (by simpa using hdo)];unfold Builtin.Dict.showsAll;rw[if_neg (by rw[hoS];exact Vc)];refine wpAny_bind (wpAny_pure ?_);refine wpAny_bind (wpAny_dictEntries o1 o3 ?_);have hall:(decide (eso.size<=8)&&eso.all λe=>(keyPart e.key).isSome)=false:=by
  rw[Wz]
  right
  rw[<- WD,o4];cases more with
  |nil=>exact absurd rfl hm
  |cons x r=>rfl
 simp only[hall];rw[if_pos (by rfl)];refine wpAny_bind (wpAny_dictEntries d1 d3 ?_);have hne:esd.isEmpty=false:=by
  rw[Vw];intro z;rw[z] at d4;exact hx (Vq.mp d4.symm)
 rw[if_neg (by rw[hne];exact Vc)];refine wpAny_bind (wpAny_dictEpoch o1 o3 (wpAny_bind (wpAny_dictEntries o1 o3 (wpAny_bind ?_))));rw[Std.Legacy.Range.forIn_eq_forIn_range'];simp only[Std.Legacy.Range.size,uu,xB,Nat.div_one];refine wpAny_forIn_list _ (λrest _ s'=>∃ h' i,s'={s with heap:=h'}/\rest=List.range' i (eso.size-i)/\i<=eso.size/\h'.DictOfH (tupleKind knd) d (QaJ (more.take i) xs)/\h'.DictOfH (tupleKind knd) o more/\h'.get? o=some oo/\Heap.SameBut d s.heap h') _ ?_ ?_ _ _
  ⟨s.heap,0,rfl,by simp,Uk _,hd,ho,o1,Heap.SameBut.refl _ _⟩
 ·rintro x rest b s' ⟨h',i,rfl,hr,hi,hd',ho',hoo',hs'⟩;by_cases hlt:i<eso.size
  ·rw[show eso.size-i=(eso.size-(i+1))+1 by lia,xD] at hr;obtain⟨rfl,hrest⟩:=List.cons.inj hr;have hix:x<more.length:=by lia
   have hex:eso[x]?=some (entryOfKey (tupleKind knd) more[x]):=by
    rw[<- Vy,o4,Uf,Xf hix];rfl
   refine wpAny_bind (wpAny_dictEntries hoo' o3 ?_);rw[hex];have ik:(tupleKind knd).is h' more[x].1 more[x].2.1:=by
    obtain⟨_,_,_,_,_,_,_,k5,_⟩:=ho';exact k5 _ (Ut hix)
   refine wpAny_bind (wpAny_holding (ybA (s:={s with heap:=h'}) ru ik hd' ?_ λh'' hd'' sb=>?_))
   ·have:=Ybb (more.take x) xs;rw[Vl] at this
    lia
   ·have hoo'':h''.get? o=some oo:=(sb.2 o (Ne.symm hdo)).trans hoo';refine wpAny_bind (wpAny_dictEpoch hoo'' o3 ?_);rw[if_neg (by simp)];exact wpAny_pure ⟨h'',x+1,rfl,hrest,hlt,by rw[QbJ more xs x more[x] (Xf hix)];exact hd'',ycj hd' ho' hdo sb,hoo'',hs'.trans sb⟩
  ·rw[Nat.sub_eq_zero_of_le (by lia)] at hr;cases hr
 ·rintro b s' ⟨h',i,rfl,hr,hi,hd',ho',hoo',hs'⟩;have hin:more.length<=i:=by
   by_cases hlt:i<eso.size
   ·rw[show eso.size-i=(eso.size-(i+1))+1 by lia,xD] at hr;cases hr
   ·lia
  rw[List.take_of_length_le hin] at hd';exact wpAny_pure (hQ h' hd' hs')
end
noncomputable def ZbE:Nat:=4194304
theorem qcC{n:Nat}(h:n<=ZbE):n<=sizeLine:=Ve h (by decide)
section
variable {X:Cx} {pins:List (Addr×Obj)} {σ:L2.St} {H:Hp} {s:Shared} {a b:Addr} {E:Value->Shared->Prop}
theorem YbZ{kvs more:List (List Key×V)}{Q:Value->Shared->Prop}(I:Inv X pins σ H s)(ru:X.A.units+3<cLine)(ea:H a=some (.dT kvs))(eb:Rd H b (.dT more))(hne:a≠b)(hx:kvs≠[])(hm:more≠[])(hz:kvs.length+more.length<=ZbE)
  (h:∀ s',Inv X pins σ (upd H a (.dT (yy more kvs))) s'->Q .none s') :
  wpAny (model X.prog X.w) X.A (call (.builtin "dict.update") [.ref a,.ref b]) Q E s:=by
 obtain⟨za,ha,xs,ra,da⟩:=ycD I.hok ea;obtain⟨zb,hb,ys,rb,db⟩:=Zbu I.hok eb;have hl:=YT rb;have hl':=YT ra;have e1:xs≠[]:=λz=>hx (Us.mp (by rw[hl',z];rfl));have e2:ys≠[]:=λz=>hm (Us.mp (by rw[hl,z];rfl));refine wpAny_call_entry PySem.F.slot_dict_update da.typeIs YaT ?_ (qba _ _);unfold Builtin.«dict.update»;refine wpAny_bind ?_;unfold Builtin.Dict.selfAndRest;refine wpAny_bind (wpAny_notOrdered_dict da.typeIs ?_);show wpAny _ _ (pure (a,[Value.ref b])) _ _ s;refine wpAny_pure ?_;show wpAny _ _ (Builtin.Dict.updateFrom "dict.update" a (.ref b) [] .none) _ _ s;unfold Builtin.Dict.updateFrom;refine wpAny_bind (wpAny_typeOf db.typeIs ?_);rw[if_neg (by decide)];refine wpAny_bind ?_;unfold Builtin.Dict.merge;refine wpAny_bind ?_;unfold Builtin.Dict.readDirectly;refine wpAny_bind (wpAny_isInstance db.typeIs isSubtype_dict_dict ?_);simp only[Bool.not_true,xj,if_false];refine wpAny_bind (wpAny_specialOf db.typeIs PySem.F.slot_dict_iter.lookup (wpAny_pure ?_));simp only[beq_self_eq_true,if_true];refine wpAny_bind (wpAny_pure ?_);refine zbA (knd:=qg X.prog X.w) hne hb (by first|exact tupleKind_room_in1 (by lia)|skip) da db (by rw[<- hl,<- hl'];exact qcC hz) e1 e2 λh' dd hs=>?_;show wpAny _ _ (Builtin.Dict.addKeywords a [] >>= _) _ _ _;refine wpAny_bind (wpAny_pure (wpAny_pure ⟨_,rfl,h _ ?_⟩));obtain⟨q,es,ep,hq,h2,h3,h4,_,h5⟩:=dd;have kt:=Ycc rb ra;have lk:=Q9 more kvs;refine QbN (t':=s.toks) I (by rw[ea];exact True.intro) hs ⟨q,hq⟩ ⟨Ve lk (qcC hz),ha,_,kt.keeps λc ys ec=>?_,q,es,ep,hq,h2,h3,h4,h5⟩;rw[qc (YcE ec ea (λz=>nomatch z))];exact ec
end
noncomputable def QcJ (X:Cx) (td ty:TE):TE:=fun σ H Q=>td σ H fun x H1=>∃ a,x=.ref a∧IsD H1 a∧ty σ H1 fun y H2=>∃ b kvs more,y=.ref b∧H2 a=some (.dT kvs)∧Rd H2 b (.dT more)∧a≠b ∧
  ((kvs=[]∨more=[])∧(more.map fun x=>(tupleKind (qg X.prog X.w)).hash x.1).Nodup∧Q .non (upd H2 a (.dT (if more=[] then kvs else more))) ∨
   kvs≠[]∧more≠[]∧kvs.length + more.length≤ZbE∧Q .non (upd H2 a (.dT (yy more kvs))))
theorem ycf{X:Cx}{o e:Expr}{apos cpos:Pos}{td ty:TE}(ru:X.A.units+3<cLine)(ho:PE X o td)(he:PE X e ty)(m:M1 X o "update" apos e cpos):PE X (.Call (.Attribute o "update" apos) [e] [] cpos) (QcJ X td ty):=by
 intro pins s σ H Q I h;refine wpAny_Call_method m.base m.few m.line PySem.F.plainAttrs_dict PySem.F.slot_dict_update YbY (thn (ho pins s σ H _ I h) λu s1 ⟨x,H1,I1,rx,a,ex,d,q1⟩=>?_);subst ex;obtain rfl:u=Value.ref a:=rx;obtain⟨t1,t2,_⟩:=ZcQ I1 d;refine⟨t1,t2,?_⟩;rw[m.trees];refine Calls.callWith_builtin rfl (Calls.evalArgs_plain (Calls.spliced_cons (thn (he pins s1 σ H1 _ I1 q1) λiv s2 ⟨y,H2,I2,ry,b,kvs,more,ey,ea,eb,hne,q2⟩=>Calls.spliced_nil ?_)));subst ey;obtain rfl:iv=Value.ref b:=ry
 rcases q2 with ⟨hx,hn,q2⟩|⟨hx,hm,hz,q2⟩
 ·exact ycn I2 ea eb hne hx hn λs3 I3=>⟨.non,_,I3,rfl,q2⟩
 ·exact YbZ I2 ru ea eb hne hx hm hz λs3 I3=>⟨.non,_,I3,rfl,q2⟩
section
variable {X:Cx}
theorem YbA:OpR X (binaryOp .Mult) (λx y H Q=>∃ i n,x=.str i/\y=.int n/\0<=n/\n<=4096/\i.length<=4096/\Q (.str (Txt.mul i n)) H):=by
 intro pins s σ H x y v u Q I rx ry h;obtain⟨i,n,rfl,rfl,h0,h1,h2,q⟩:=h;obtain⟨t,rfl⟩:=rx;obtain⟨t',rfl⟩:=ry;exact SB.mul (mulOk_of 4096 4096 h2 h1 (by lia) (by decide) (by decide)) λt' k=>⟨.str (Txt.mul i n),H,I.tok _,⟨_,rfl⟩,q⟩
theorem Qa8:∀{vs:List V}{us ws:List Value},(∀ v∈vs,∃ c,v=V.ref c)->Vals vs us->Vals vs ws->us=ws
 |_,_,_,_,.nil,.nil=>rfl
 |_,_,_,h,.cons r rr,.cons r' rr'=>by
  obtain⟨c,rfl⟩:=h _ Xh;cases r;cases r';rw[Qa8 (λv hv=>h v (Xe _ hv)) rr rr']
theorem qbQ(hu:X.A.units<cLine):OpR X (compareOp .Eq) (λx y H Q=>∃ a b vs,x=.ref a/\y=.ref b/\Rd H a (.lst vs)/\Rd H b (.lst vs)/\(∀ v∈vs,∃ c,v=V.ref c)/\Q (.bl true) H):=by
 intro pins s σ H x y v u Q I rx ry h;obtain⟨a,b,vs,rfl,rfl,ha,hb,hv,q⟩:=h;obtain rfl:v=Value.ref a:=rx;obtain rfl:u=Value.ref b:=ry;obtain⟨_,its,n,r,e⟩:=ha.ok I.hok;obtain⟨_,its2,n2,r2,e2⟩:=hb.ok I.hok;have:=Qa8 hv r r2;subst this;refine PySem.SeqAt.eq_listAt (e:=λ_=>true) (items:=its.toArray) (items2:=its.toArray) ⟨_,e,rfl,n,rfl⟩ ⟨_,e2,rfl,n2,rfl⟩ rfl hu (λj _ _=>PySem.SeqAt.EqAt.same _) ?_;rw[show((uc its.toArray.size).all λ_=>true)=true by simp];exact⟨.bl true,H,I,rfl,q⟩
end
end L3
end
section
namespace MP
open PySem
inductive FV where
 |non|bl (b:Bool)|int (i:Int)|str (s:Str)
 |tup (xs:List FV)|lst (xs:List FV)|obj (c:String) (ns:List String) (vs:List FV)|scr (ns:List Int)|tab (kvs:List ((Int×Int)×Int))|msk (ks:List (Int×Int))
inductive MV where
 |f (x:FV)|ref (a:Nat)|tup (xs:List MV)|exc (c:String)
inductive Cell where
 |lst (xs:List MV)|obj (c:String) (fs:List (String×MV))|dic (ks:List Int)|tab (kvs:List ((Int×Int)×Int))|msk (ks:List (Int×Int))|code|dead
noncomputable abbrev MH:=List Cell
noncomputable abbrev MSt:=List (Option MV)
inductive R (α:Type) where
 |ok (x:α) (h:MH)|exc (c:String) (h:MH)|stuck
noncomputable abbrev RD{γ δ:Sort _}(_k:γ->δ)(τ:Type):Type:=τ
namespace R
noncomputable def bind{α β:Type}(r:R α)(k:α->MH->R β):RD k (R β):=match r with
 |.ok x h=>k x h
 |.exc c h=>.exc c h
 |.stuck=>.stuck
variable {α β:Type}
@[simp] theorem bind_ok{x:α}{h:MH}{k:α->MH->R β}:(R.ok x h).bind k=k x h:=id rfl
@[simp] theorem bind_exc{c:String}{h:MH}{k:α->MH->R β}:(R.exc c h:R α).bind k=.exc c h:=id rfl
@[simp] theorem bind_stuck{k:α->MH->R β}:(R.stuck:R α).bind k=.stuck:=id rfl
end R
noncomputable def opt{α β:Type}(o:Option α)(k:α->R β):RD k (R β):=match o with
 |some x=>k x
 |none=>.stuck
@[simp] theorem yp{α β:Type}{x:α}{k:α->R β}:opt (some x) k=k x:=id rfl
@[simp] theorem opt_none{α β:Type}{k:α->R β}:opt none k=.stuck:=id rfl
noncomputable def QK:MV->Bool
 |.f .non=>true
 |_=>false
noncomputable def Qx:List MV->Option (List FV)
 |[]=>some []
 |.f x::r=>(Qx r).map (x::·)
 |_::_=>none
noncomputable def qp(xs:List MV):MV:=match Qx xs with
 |some ys=>.f (.tup ys)
 |none=>.tup xs
noncomputable def Yx(fz:Bool)(xs:List MV)(h:MH):R MV:=match fz with
 |true=>opt (Qx xs) λys=>.ok (.f (.lst ys)) h
 |false=>.ok (.ref h.length) (h++[.lst xs])
noncomputable def yg(h:MH)(a:Nat):Option (List MV):=match h[a]? with
 |some (.lst xs)=>some xs
 |_=>none
noncomputable def yd(h:MH):MV->Option (List MV)
 |.f (.tup xs)=>some (xs.map .f)
 |.f (.lst xs)=>some (xs.map .f)
 |.f (.scr ns)=>some (ns.map λi=>.f (.int i))
 |.tup xs=>some xs
 |.ref a=>yg h a
 |_=>none
noncomputable def listOf(h:MH):MV->Option (List MV)
 |.f (.lst xs)=>some (xs.map .f)
 |.ref a=>yg h a
 |_=>none
noncomputable def Qt:MV->Option (List MV)
 |.f (.tup xs)=>some (xs.map .f)
 |.tup xs=>some xs
 |_=>none
noncomputable def Ze:MV->Option Int
 |.f (.int i)=>some i
 |_=>none
noncomputable def qL:MV->Option Bool
 |.f (.bl b)=>some b
 |_=>none
@[simp] noncomputable def Zn:List MV->Option (List Int)
 |[]=>some []
 |.f (.int i)::r=>(Zn r).map (i::·)
 |_::_=>none
@[simp] noncomputable def qz:List MV->Option (List Bool)
 |[]=>some []
 |.f (.bl i)::r=>(qz r).map (i::·)
 |_::_=>none
noncomputable def qA(h:MH):Nat->MV->Option FV
 |0,_=>none
 |_+1,.f x=>some x
 |n+1,.tup xs=>(xs.mapM (qA h n)).map .tup
 |n+1,.ref a=>(yg h a).bind λxs=>(xs.mapM (qA h n)).map .lst
 |_+1,.exc _=>none
noncomputable def y9(h:MH)(v:MV):Option FV:=qA h 5 v
noncomputable def QM(h:MH):Nat->MV->List Nat
 |0,_=>[]
 |_+1,.f _=>[]
 |n+1,.tup xs=>xs.flatMap (QM h n)
 |n+1,.ref a=>a::((yg h a).getD []).flatMap (QM h n)
 |_+1,.exc _=>[]
noncomputable def kill(as:List Nat)(h:MH):MH:=h.mapIdx λi c=>if i∈as then .dead else c
noncomputable def Qao(v:MV)(h:MH):R MV:=opt (y9 h v) λx=>.ok (.f x) (kill (QM h 5 v) h)
noncomputable def sOk(x:Str):Bool:=x.cps.all (· < 0x110000)
noncomputable def isD:Nat->FV->Bool
 |_+1,.non=>true
 |_+1,.bl _=>true
 |_+1,.int _=>true
 |_+1,.str s=>sOk s
 |n+1,.tup xs=>xs.all (isD n)
 |n+1,.lst xs=>xs.all (isD n)
 |_,_=>false
mutual
noncomputable def eqD:FV->FV->Bool
 |.non,.non=>true
 |.bl a,.bl b=>a==b
 |.bl a,.int j=>(if a then 1 else 0)==j
 |.int i,.bl b=>i==(if b then 1 else 0)
 |.int a,.int b=>a==b
 |.str a,.str b=>a==b
 |.tup xs,.tup ys=>yaT xs ys
 |.lst xs,.lst ys=>yaT xs ys
 |_,_=>false
noncomputable def yaT:List FV->List FV->Bool
 |[],[]=>true
 |x::xs,y::ys=>eqD x y&&yaT xs ys
 |_,_=>false
end
noncomputable def eqF(x y:FV):Option Bool:=if isD 8 x=true/\isD 8 y=true then some (eqD x y) else none
noncomputable def inF(x:FV)(ys:List FV):Option Bool:=if isD 8 x=true/\ys.all (isD 8)=true then some (ys.any λy=>eqD y x) else none
inductive BO where
 |add|sub|mul|fdiv|mod|pow
inductive CO where
 |lt|le|gt|ge|eq|ne|inn|nin
noncomputable def big:Nat:=2^4096
noncomputable def ZaJ(i j:Int):Prop:=i.natAbs<2^64\/j.natAbs<2^64\/(i.natAbs<big/\j.natAbs<big)
noncomputable def qb5(i j:Int):Prop:=0<j/\(j<1073741824\/j.natAbs<big)
open Classical in
noncomputable def yW:BO->Int->Int->Option Int
 |.add,i,j=>some (i+j)
 |.sub,i,j=>some (i-j)
 |.mul,i,j=>if ZaJ i j then some (i*j) else none
 |.fdiv,i,j=>if qb5 i j then some (i/j) else none
 |.mod,i,j=>if 0<j then some (i%j) else none
 |.pow,i,j=>if 0<=j/\j<=1000000/\i.natAbs<2^64 then some (i^j.toNat) else none
noncomputable def sizeL:Nat:=4194304
open Classical in
noncomputable def Qi(fz:Bool)(op:BO)(x y:MV)(h:MH):R MV:=match Ze x,Ze y with
 |some i,some j=>opt (yW op i j) λk=>.ok (.f (.int k)) h
 |none,some j=>match op with
  |.mul=>opt (listOf h x) λxs=>if -(2^63)<=j/\j<2^63/\xs.length*j.toNat<=sizeL then Yx fz (we j.toNat xs).flatten h else .stuck
  |_=>.stuck
 |none,none=>match op with
  |.add=>match Qt x,Qt y with
   |some xs,some ys=>if xs≠[]/\xs.length+ys.length<=sizeL then .ok (qp (xs++ys)) h else .stuck
   |_,_=>opt (listOf h x) λxs=>opt (listOf h y) λys=>if xs.length+ys.length<=sizeL then Yx fz (xs++ys) h else .stuck
  |_=>.stuck
 |_,_=>.stuck
noncomputable def Yap:CO->Int->Int->Option Bool
 |.lt,i,j=>some (decide (i<j))
 |.le,i,j=>some (decide (i<=j))
 |.gt,i,j=>some (decide (j<i))
 |.ge,i,j=>some (decide (j<=i))
 |_,_,_=>none
noncomputable def QT(op:CO)(x y:MV)(h:MH):Option Bool:=match op with
 |.eq=>(y9 h x).bind λa=>(y9 h y).bind λb=>eqF a b
 |.ne=>(y9 h x).bind λa=>(y9 h y).bind λb=>(eqF a b).map (!·)
 |.inn=>(y9 h x).bind λa=>(yd h y).bind λys=>(ys.mapM (y9 h)).bind λbs=>inF a bs
 |.nin=>(y9 h x).bind λa=>(yd h y).bind λys=>(ys.mapM (y9 h)).bind λbs=>(inF a bs).map (!·)
 |op=>(Ze x).bind λi=>(Ze y).bind λj=>Yap op i j
noncomputable def ixM(n:Nat)(i:Int):Option Nat:=if 0<=i then(if i<n then some i.toNat else none) else if -(n:Int)<=i then some (i+n).toNat else none
noncomputable def atM(xs:List MV)(i:Int):Option MV:=(ixM xs.length i).bind λj=>xs[j]?
noncomputable def ZbY(n d:Nat):Option Int->Nat
 |none=>d
 |some i=>if i<0 then(i+(n:Int)).toNat else min i.toNat n
noncomputable def Qa3(xs:List MV)(lo hi:Option Int):List MV:=(xs.drop (ZbY xs.length 0 lo)).take (ZbY xs.length xs.length hi-ZbY xs.length 0 lo)
noncomputable def y0(fz:Bool)(x:MV)(lo hi:Option Int)(h:MH):R MV:=match Qt x with
 |some xs=>.ok (qp (Qa3 xs lo hi)) h
 |none=>opt (yd h x) λxs=>Yx fz (Qa3 xs lo hi) h
noncomputable def Za7(n:String)(v:MV):List (String×MV)->List (String×MV)
 |[]=>[(n,v)]
 |(k,x)::r=>if k=n then(k,v)::r else(k,x)::Za7 n v r
inductive T2 where
 |join|split (fz:Bool)|at|inn|cat|rep|same|upd
inductive Tg where
 |nm (i:Nat)|tp (ts:List Tg)
inductive ME where
 |var (i:Nat)|cI (i:Int)|cB (b:Bool)|cN|cS (s:Str)
 |bin (fz:Bool) (op:BO) (a b:ME)|neg (a:ME)
 |cmp (op:CO) (a b:ME)
 |isN (a:ME)|notN (a:ME)
 |and (es:List ME)|or (es:List ME)|not (a:ME)|ite (c a b:ME)
 |tup (es:List ME)|lst (fz:Bool) (es:List ME)
 |sub (a i:ME)|slice (fz:Bool) (a:ME) (lo hi:Option ME)
 |fld (a:ME) (n:String)
 |call (f:String) (es:List ME)|make (fz:Bool) (c:String) (es:List ME)|meth (o:ME) (m:String) (es:List ME)
 |blt (fz:Bool) (n:String) (es:List ME)
 |isI (a:ME) (t:String)
 |nearK (a b:ME)
 |mNew|mOf (a:ME)|mNin (a d:ME)
 |tx2 (o:T2) (a b:ME)
 |revL (fz:Bool) (a:ME)
 |lm (m:String) (o:ME) (es:List ME)
 |comp (fz:Bool) (elt:ME) (tg:Tg) (it:String) (src:List ME) (cond:Option ME) (ncv:Nat) (js:List Nat)
 |frz (e:ME)
inductive MS where
 |set (tg:Tg) (e:ME)
 |setSub (o i e:ME)
 |setFld (o:ME) (n:String) (e:ME)
 |par (i j:Nat) (a b:ME)
 |expr (e:ME)
 |ret (e:ME)
 |ite (c:ME) (a b:List MS)
 |for_ (tg:Tg) (it:String) (src:List ME) (body:List MS)
 |while_ (c:ME) (body:List MS)
 |raise (c:String) (es:List ME)
 |tryW (body:List MS) (ei dst:Nat) (word:String)
 |pass|boom
 |frzS (i:Nat)
structure MDef where
 np:Nat
 ns:Nat
 body:List MS
structure Prog where
 defs:String->Option MDef
 globs:String->Option FV
 meths:String->String->Option String
 subs:String->String->Option Bool
 fok:String->String->Bool
 excs:String->Bool
 word:String->String->Option Str
 words:String->Bool
 xsubs:String->String->Option Bool:=λ_ _=>none
 xcls:String->Bool:=λ_=>false
 xt:Bool:=false
 dfl:String->List Int->Bool:=λ_ _=>false
 mk0:String->Bool:=λ_=>false
 turns:Nat
@[simp] noncomputable def QaZ(n:String):List String->List FV->Option FV
 |m::ns,v::vs=>if n=m then some v else QaZ n ns vs
 |_,_=>none
noncomputable def zbv(ok:String->String->Bool)(n:String)(v:MV)(h:MH):Option MV:=match v with
 |.f (.obj c ns vs)=>if ok c n=true then(QaZ n ns vs).map .f else none
 |.ref a=>match h[a]? with
  |some (.obj c fs)=>if ok c n=true then fs.lookup n else none
  |_=>none
 |_=>none
noncomputable def QF(m:String)(v:MV)(h:MH):Option String:=match v with
 |.f (.obj c ns _)=>if m∈ns then none else some c
 |.ref a=>match h[a]? with
  |some (.obj c fs)=>if m∈fs.map uq then none else some c
  |_=>none
 |_=>none
noncomputable def excOf:MV->Option String
 |.exc c=>some c
 |_=>none
@[simp] theorem qc2(c:String):excOf (.exc c)=some c:=rfl
noncomputable def zS(sub:String->String->Option Bool)(h:MH)(v:MV)(t:String):Option Bool:=match v with
 |.f .non=>some false
 |.f (.bl _)=>some (decide (t="bool")||decide (t="int"))
 |.f (.int _)=>some (decide (t="int"))
 |.f (.str _)=>some (decide (t="str"))
 |.f (.tup _)=>some (decide (t="tuple"))
 |.f (.tab _)=>none
 |.f (.msk _)=>none
 |.f (.lst _)=>some (decide (t="list"))
 |.f (.obj c _ _)=>sub c t
 |.f (.scr _)=>none
 |.tup _=>some (decide (t="tuple"))
 |.ref a=>match h[a]? with
  |some (.lst _)=>some (decide (t="list"))
  |some (.obj c _)=>sub c t
  |_=>none
 |.exc _=>none
noncomputable def lmC(x:MV)(h:MH):Option (List MV):=match x with
 |.ref a=>yg h a
 |_=>none
noncomputable def qbs(xs:List MV)(i:Int)(y:MV):List MV:=let k:=ZbY xs.length 0 (some i);xs.take k++y::xs.drop k
noncomputable def yj(h:MH)(a:Nat)(xs:List MV):MH:=h.set a (.lst xs)
open Classical in
noncomputable def lmV(m:String)(o:MV)(as:List MV)(h:MH):R MV:=match o with
 |.ref a=>opt (yg h a) λxs=>match m,as with
  |"append",[y]=>if xs.length<sizeL then .ok (.f .non) (yj h a (xs++[y])) else .stuck
  |"extend",[z]=>opt (listOf h z) λys=>if xs.length+ys.length<=sizeL then .ok (.f .non) (yj h a (xs++ys)) else .stuck
  |"insert",[u,y]=>opt (Ze u) λi=>if xs.length<sizeL/\-(2^63)<=i/\i<2^63 then .ok (.f .non) (yj h a (qbs xs i y)) else .stuck
  |"reverse",[]=>.ok (.f .non) (yj h a xs.reverse)
  |"clear",[]=>.ok (.f .non) (yj h a [])
  |"pop",[]=>opt (xs[xs.length-1]?) λy=>.ok y (yj h a (xs.take (xs.length-1)))
  |"pop",[u]=>opt (Ze u) λi=>opt (ixM xs.length i) λk=>opt (xs[k]?) λy=>if -(2^63)<=i/\i<2^63 then .ok y (yj h a (xs.take k++xs.drop (k+1))) else .stuck
  |_,_=>.stuck
 |_=>.stuck
noncomputable def minI:Int->List Int->Int
 |m,[]=>m
 |m,x::r=>minI (if x<m then x else m) r
noncomputable def maxI:Int->List Int->Int
 |m,[]=>m
 |m,x::r=>maxI (if x>m then x else m) r
noncomputable def qap(fz:Bool)(n:String)(as:List MV)(h:MH):R MV:=match n,as with
 |"len",[v]=>opt (yd h v) λxs=>.ok (.f (.int xs.length)) h
 |"sum",[v]=>opt ((yd h v).bind Zn) λxs=>.ok (.f (.int xs.sum)) h
 |"all",[v]=>opt ((yd h v).bind qz) λxs=>.ok (.f (.bl (xs.all id))) h
 |"min",[v]=>opt ((yd h v).bind Zn) λxs=>match xs with | []=>.stuck|x::r=>.ok (.f (.int (minI x r))) h
 |"max",[v]=>opt ((yd h v).bind Zn) λxs=>match xs with | []=>.stuck|x::r=>.ok (.f (.int (maxI x r))) h
 |"min",[u,v]=>opt (Ze u) λi=>opt (Ze v) λj=>.ok (.f (.int (if j<i then j else i))) h
 |"max",[u,v]=>opt (Ze u) λi=>opt (Ze v) λj=>.ok (.f (.int (if j>i then j else i))) h
 |"abs",[v]=>opt (Ze v) λi=>.ok (.f (.int (if i<0 then -i else i))) h
 |"int",[v]=>match qL v with
  |some b=>.ok (.f (.int (if b then 1 else 0))) h
  |none=>opt (Ze v) λi=>.ok (.f (.int i)) h
 |"tuple",[v]=>opt (yd h v) λxs=>.ok (qp xs) h
 |"list",[v]=>opt (yd h v) λxs=>Yx fz xs h
 |"divmod",[u,v]=>opt (Ze u) λi=>opt (Ze v) λj=>if 0<j/\j<1073741824 then .ok (.f (.tup [.int (i/j),.int (i%j)])) h else .stuck
 |_,_=>.stuck
noncomputable def cellT(h:MH)(v:MV):Option (List ((Int×Int)×Int)):=match v with
 |.ref a=>match h[a]? with
  |some (.tab kvs)=>some kvs
  |_=>none
 |.f (.tab kvs)=>some kvs
 |_=>none
noncomputable def YaU(v:MV):Option (Int×Int):=match Qt v with
 |some [.f (.int a),.f (.int b)]=>some (a,b)
 |_=>none
noncomputable def qm(ks:List (Int×Int))(k:Int×Int):List (Int×Int):=if k∈ks then ks else ks++[k]
noncomputable def zba(v:MV):Option (Int×Int):=match Qt v with
 |some [p,.f (.bl true)]=>YaU p
 |_=>none
noncomputable def ybL(x:MV)(h:MH):R MV:=match x with
 |.ref i=>opt (yg h i) λxs=>opt (xs.mapM zba) λks=>if xs.length<1000000 then .ok (.f (.msk (ks.foldl qm []))) h else .stuck
 |_=>.stuck
noncomputable def QL(h:MH)(v:MV):Option (List (Int×Int)):=match v with
 |.ref a=>match h[a]? with
  |some (.msk ks)=>some ks
  |_=>none
 |.f (.msk ks)=>some ks
 |_=>none
noncomputable def QcU(k:Int×Int):Bool:=decide ((0<=k.1/\k.1<64)/\0<=k.2/\k.2<64)
noncomputable def mUpdV(x y:MV)(h:MH):R MV:=match x,y with
 |.ref i,.f (.msk ks')=>opt (QL h (.ref i)) λks=>if(ks=[]\/ks'=[])/\ks'.all QcU=true/\ks'.Nodup then .ok (.f .non) (h.set i (.msk (if ks'=[] then ks else ks'))) else .stuck
 |_,_=>.stuck
noncomputable def Qa9(x y:MV)(h:MH):R MV:=opt (YaU x) λk=>opt (QL h y) λks=>.ok (.f (.bl (decide (k∉ks)))) h
noncomputable def Zl:MV->Option Str
 |.f (.str s)=>some s
 |_=>none
noncomputable def ZH:List MV->Option (List Nat)
 |[]=>some []
 |.ref a::r=>(ZH r).map (a::·)
 |_::_=>none
noncomputable def Y4(k:Int×Int):Bool:=decide ((-1<=k.1/\k.1<64)/\-1<=k.2/\k.2<64)
noncomputable def updV(x y:MV)(h:MH):R MV:=match x,y with
 |.ref i,.f (.msk ks')=>opt (QL h (.ref i)) λks=>if ks=[]\/ks'=[] then(if ks'.all Y4=true/\ks'.Nodup then .ok (.f .non) (h.set i (.msk (if ks'=[] then ks else ks'))) else .stuck)
  else if ks.length+ks'.length<=sizeL then .ok (.f .non) (h.set i (.msk (ks'.foldl qm ks))) else .stuck
 |_,_=>.stuck
noncomputable def t2g(o:T2)(x:MV)(h:MH):Option Str:=match o with
 |.same=>some ⟨#[]⟩
 |.upd=>(QL h x).map λ_=>⟨#[]⟩
 |_=>Zl x
@[simp] theorem t2g_join{x:MV}{h:MH}:t2g .join x h=Zl x:=rfl
@[simp] theorem zc4{fz:Bool}{x:MV}{h:MH}:t2g (.split fz) x h=Zl x:=rfl
@[simp] theorem t2g_at{x:MV}{h:MH}:t2g .at x h=Zl x:=rfl
@[simp] theorem t2g_inn{x:MV}{h:MH}:t2g .inn x h=Zl x:=rfl
@[simp] theorem t2g_cat{x:MV}{h:MH}:t2g .cat x h=Zl x:=rfl
@[simp] theorem t2g_rep{x:MV}{h:MH}:t2g .rep x h=Zl x:=rfl
@[simp] theorem t2g_same{x:MV}{h:MH}:t2g .same x h=some ⟨#[]⟩:=rfl
@[simp] theorem t2g_upd{x:MV}{h:MH}:t2g .upd x h=(QL h x).map λ_=>⟨#[]⟩:=rfl
noncomputable def YO(o:T2)(x y:MV)(h:MH):R MV:=match o with
 |.join=>opt (Zl x) λsep=>opt (listOf h y) λxs=>opt (xs.mapM Zl) λts=>if(ts.map (·.length)).sum+ts.length*sep.length<=16777216 then .ok (.f (.str (Txt.join sep ts))) h else .stuck
 |.split fz=>opt (Zl x) λz=>opt (Zl y) λsep=>if(sep.length==0)=false/\z.length+2<=sizeL then Yx fz ((Txt.split z sep).map λt=>.f (.str t)) h else .stuck
 |.at=>opt (Zl x) λz=>opt (Ze y) λi=>opt (if z.length<=sizeL/\0<=i then z.cps.toList[i.toNat]? else none) λc=>.ok (.f (.str ⟨#[c]⟩)) h
 |.inn=>opt (Zl x) λi=>opt (Zl y) λj=>.ok (.f (.bl (!(Builtin.Str.occurrences j i 0 j.length 1).isEmpty))) h
 |.cat=>opt (Zl x) λi=>opt (Zl y) λj=>if i.length+j.length<=sizeL then .ok (.f (.str (i++j))) h else .stuck
 |.rep=>opt (Zl x) λi=>opt (Ze y) λn=>if 0<=n/\n<=4096/\i.length<=4096 then .ok (.f (.str (Txt.mul i n))) h else .stuck
 |.same=>opt ((listOf h x).bind ZH) λas=>opt ((listOf h y).bind ZH) λbs=>if as=bs then .ok (.f (.bl true)) h else .stuck
 |.upd=>updV x y h
noncomputable def bestI(w:Int)(n:Int)(r:List Int):Int:=r.foldl (λb k=>if(if w-k<0 then -(w-k) else w-k)<(if w-b<0 then -(w-b) else w-b) then k else b) n
noncomputable def nearV(x y:MV)(h:MH):R MV:=opt (Ze x) λw=>opt (yd h y) λvs=>opt (Zn vs) λns=>match ns with
 |n::r=>match (h[0]?:Option Cell) with
  |some .code=>.ok (.f (.int (bestI w n r))) h
  |_=>.stuck
 |[]=>.stuck
mutual
@[simp] noncomputable def zT:Tg->MV->MSt->Option MSt
 |.nm i,v,σ=>some (σ.set i (some v))
 |.tp ts,v,σ=>(Qt v).bind λvs=>zM ts vs σ
@[simp] noncomputable def zM:List Tg->List MV->MSt->Option MSt
 |[],[],σ=>some σ
 |t::ts,v::vs,σ=>(zT t v σ).bind λσ'=>zM ts vs σ'
 |_,_,_=>none
end
noncomputable abbrev ZE:=List (Nat×List MV)
noncomputable def GuardOk(g:ZE)(h:MH):Prop:=∀ p∈g,yg h p.1=some p.2
noncomputable def zd(h:MH):MV->ZE
 |.ref a=>match yg h a with
  |some xs=>[(a,xs)]
  |none=>[]
 |_=>[]
noncomputable def rlen(lo hi st:Int):Nat:=if lo<hi then((hi-lo-1)/st+1).toNat else 0
noncomputable def itV(it:String)(as:List MV)(h:MH):Option (List MV×ZE):=match it,as with
 |"seq",[v]=>(yd h v).map λxs=>(xs,zd h v)
 |"range",[u]=>(Ze u).bind λn=>if -(2^62)<=n/\n<2^62 then some ((uc n.toNat).map λ(k:Nat)=>.f (.int k),[]) else none
 |"range",[u,v]=>(Ze u).bind λa=>(Ze v).bind λb=>if -(2^62)<=a/\a<2^62/\-(2^62)<=b/\b<2^62 then some ((uc (b-a).toNat).map λ(k:Nat)=>.f (.int (a+k)),[]) else none
 |"range",[u,v,w]=>(Ze u).bind λa=>(Ze v).bind λb=>(Ze w).bind λs=>if -(2^30)<=a/\a<2^30/\-(2^30)<=b/\b<2^30/\0<s/\s<2^30 then some ((uc (rlen a b s)).map λ(k:Nat)=>.f (.int (a+k*s)),[]) else none
 |"zip",[u,v]=>(yd h u).bind λxs=>(yd h v).map λys=>((xs.zip ys).map λp=>qp [p.1,p.2],zd h u++zd h v)
 |"keys",[.f (.tab kvs)]=>some (kvs.map λkv=>.f (.tup [.int kv.1.1,.int kv.1.2]),[])
 |"signs",[.f (.str s)]=>some (s.cps.toList.map λc=>.f (.str ⟨#[c]⟩),[])
 |"items",[.f (.tab kvs)]=>some (kvs.map λkv=>.f (.tup [.tup [.int kv.1.1,.int kv.1.2],.int kv.2]),[])
 |"enumerate",[v]=>(yd h v).map λxs=>(xs.mapIdx λk x=>qp [.f (.int k),x],zd h v)
 |"enum1",[v]=>(yd h v).map λxs=>(xs.mapIdx λk x=>qp [.f (.int ((k+1:Nat):Int)),x],zd h v)
 |_,_=>none
inductive RS where
 |next (σ:MSt) (h:MH)|ret (v:MV) (h:MH)|brk (σ:MSt) (h:MH)|cnt (σ:MSt) (h:MH)|exc (c:String) (h:MH)|stuck
namespace RS
noncomputable def bind(r:RS)(k:MSt->MH->RS):RD k RS:=match r with
 |.next σ h=>k σ h
 |.ret v h=>.ret v h
 |.brk σ h=>.brk σ h
 |.cnt σ h=>.cnt σ h
 |.exc c h=>.exc c h
 |.stuck=>.stuck
@[simp] theorem bind_next{σ:MSt}{h:MH}{k:MSt->MH->RS}:(RS.next σ h).bind k=k σ h:=id rfl
@[simp] theorem bind_ret{v:MV}{h:MH}{k:MSt->MH->RS}:(RS.ret v h).bind k=.ret v h:=id rfl
@[simp] theorem bind_brk{σ:MSt}{h:MH}{k:MSt->MH->RS}:(RS.brk σ h).bind k=.brk σ h:=id rfl
@[simp] theorem bind_cnt{σ:MSt}{h:MH}{k:MSt->MH->RS}:(RS.cnt σ h).bind k=.cnt σ h:=id rfl
@[simp] theorem bind_exc{c:String}{h:MH}{k:MSt->MH->RS}:(RS.exc c h).bind k=.exc c h:=id rfl
@[simp] theorem bind_stuck{k:MSt->MH->RS}:(RS.stuck).bind k=.stuck:=id rfl
noncomputable def turn(r:RS)(k:MSt->MH->RS):RD k RS:=match r with
 |.next σ h=>k σ h
 |.cnt σ h=>k σ h
 |.brk σ h=>.next σ h
 |.ret v h=>.ret v h
 |.exc c h=>.exc c h
 |.stuck=>.stuck
@[simp] theorem Yc7{σ:MSt}{h:MH}{k:MSt->MH->RS}:(RS.next σ h).turn k=k σ h:=id rfl
@[simp] theorem turn_cnt{σ:MSt}{h:MH}{k:MSt->MH->RS}:(RS.cnt σ h).turn k=k σ h:=id rfl
@[simp] theorem turn_brk{σ:MSt}{h:MH}{k:MSt->MH->RS}:(RS.brk σ h).turn k=.next σ h:=id rfl
@[simp] theorem turn_ret{v:MV}{h:MH}{k:MSt->MH->RS}:(RS.ret v h).turn k=.ret v h:=id rfl
@[simp] theorem turn_exc{c:String}{h:MH}{k:MSt->MH->RS}:(RS.exc c h).turn k=.exc c h:=id rfl
@[simp] theorem YcM{k:MSt->MH->RS}:(RS.stuck).turn k=.stuck:=id rfl
end RS
noncomputable def RS.caught(k:String->MH->RS)(r:RS):RD k RS:=match r with
 |.exc c h=>k c h
 |r=>r
noncomputable def R.st{α:Type}(r:R α)(k:α->MH->RS):RD k RS:=match r with
 |.ok x h=>k x h
 |.exc c h=>.exc c h
 |.stuck=>.stuck
@[simp] theorem R.st_ok{α:Type}{x:α}{h:MH}{k:α->MH->RS}:(R.ok x h).st k=k x h:=id rfl
@[simp] theorem R.st_exc{α:Type}{c:String}{h:MH}{k:α->MH->RS}:(R.exc c h:R α).st k=.exc c h:=id rfl
@[simp] theorem R.st_stuck{α:Type}{k:α->MH->RS}:(R.stuck:R α).st k=.stuck:=id rfl
noncomputable def yO{α:Type}(o:Option α)(k:α->RS):RD k RS:=match o with
 |some x=>k x
 |none=>.stuck
@[simp] theorem ya8{α:Type}{x:α}{k:α->RS}:yO (some x) k=k x:=id rfl
@[simp] theorem Zc3{α:Type}{k:α->RS}:yO none k=.stuck:=id rfl
open Classical in
noncomputable def Qaf(g:ZE)(bd:MV->MSt->MH->RS):List MV->MSt->MH->RS
 |[],σ,h=>if GuardOk g h then .next σ h else .stuck
 |x::r,σ,h=>if GuardOk g h then(bd x σ h).turn λσ1 h1=>Qaf g bd r σ1 h1 else .stuck
open Classical in
noncomputable def Qo(g:ZE)(bd:MV->MSt->MH->R (Option MV×MSt)):List MV->List MV->MSt->MH->R (List MV)
 |[],acc,σ,h=>if GuardOk g h then .ok acc h else .stuck
 |x::r,acc,σ,h=>if GuardOk g h/\acc.length<sizeL then(bd x σ h).bind λp h1=>Qo g bd r (match p.1 with|some y=>acc++[y]|none=>acc) p.2 h1 else .stuck
noncomputable def stM(ncv:Nat)(js:List Nat)(σ:MSt):MSt:=we ncv none++js.map λj=>(σ[j]?).join
noncomputable def zO(c:MSt->MH->R MV)(bd:MSt->MH->RS):Nat->MSt->MH->RS
 |0,_,_=>.stuck
 |n+1,σ,h=>(c σ h).st λv h1=>yO (qL v) λb=>if b=true then(bd σ h1).turn λσ2 h2=>zO c bd n σ2 h2 else .next σ h1
noncomputable def calm{α:Type}(r:R α):R α:=match r with
 |.ok x h=>.ok x h
 |_=>.stuck
@[simp] theorem calm_ok{α:Type}{x:α}{h:MH}:calm (R.ok x h)=.ok x h:=id rfl
noncomputable def QX(tg:Tg)(ex:MSt->MH->RS):MV->MSt->MH->RS:=λx σ h=>yO (zT tg x σ) λσ2=>ex σ2 h
noncomputable def yn(tg:Tg)(tc:MSt->MH->R Bool)(te:MSt->MH->R MV):MV->MSt->MH->R (Option MV×MSt):=λx σ h =>
 opt (zT tg x σ) λσ2=>(calm (tc σ2 h)).bind λk h2=>if k=true then(calm (te σ2 h2)).bind λy h3=>.ok (some y,σ2) h3 else .ok (none,σ2) h2
noncomputable def FlatC:Cell->Prop
 |.lst xs=>∃ ys:List FV,xs=ys.map MV.f
 |.obj _ fs=>∃ ys:List (String×FV),fs=ys.map λp=>(p.1,MV.f p.2)
 |.dic _=>True
 |.tab _=>True
 |.msk _=>True
 |.code=>True
 |.dead=>True
noncomputable def TrOk(h h':MH):Prop:=h.length<=h'.length/\∀ i c,i<h.length->h'[i]?=some c->h[i]?=some c\/FlatC c
open Classical in
noncomputable def Yu(h:MH)(v:MV)(h':MH):R MV:=if TrOk h h' then(match v with
 |.f x=>.ok (.f x) (h'.take h.length)
 |.ref a=>if h.length<=a then(match yg h' a with
   |some xs=>match Qx xs with
    |some _=>.ok (.ref h.length) (h'.take h.length++[.lst xs])
    |none=>.ok v h'
   |none=>.ok v h') else .ok v h'
 |v=>.ok v h') else .ok v h'
open Classical in
noncomputable def QG(h:MH)(c:String)(h':MH):R MV:=if TrOk h h' then .exc c (h'.take h.length) else .exc c h'
section
variable (P:Prog) (W:String->List MV->MH->R MV)
open Classical in
noncomputable def Qak(fz:Bool)(c:String)(as:List MV)(h:MH):R MV :=
 (match P.meths c "__init__" with
  |some f=>W f (.ref h.length::as) (h++[Cell.obj c []])
  |none=>match as with | []=>R.ok (MV.f FV.non) (h++[Cell.obj c []])|_=>.stuck).bind λv (h1:MH)=>if QK v=false then .stuck else
 match fz with
 |true=>match h1[h.length]? with
  |some (Cell.obj c' fs)=>opt (Qx (fs.map vk)) λvs=>if TrOk h h1 then R.ok (MV.f (FV.obj c' (fs.map uq) vs)) (h1.take h.length) else .stuck
  |_=>.stuck
 |false=>R.ok (MV.ref h.length) h1
mutual
@[simp] noncomputable def Zb:ME->MSt->MH->R MV
 |.var i,σ,h=>opt ((σ[i]?).join) λv=>.ok v h
 |.cI i,_,h=>.ok (.f (.int i)) h
 |.cB b,_,h=>.ok (.f (.bl b)) h
 |.cN,_,h=>.ok (.f .non) h
 |.cS s,_,h=>.ok (.f (.str s)) h
 |.bin fz op a b,σ,h=>(Zb a σ h).bind λx h1=>(Zb b σ h1).bind λy h2=>Qi fz op x y h2
 |.neg a,σ,h=>(Zb a σ h).bind λx h1=>opt (Ze x) λi=>.ok (.f (.int (-i))) h1
 |.cmp op a b,σ,h=>(Zb a σ h).bind λx h1=>(Zb b σ h1).bind λy h2=>opt (QT op x y h2) λb=>.ok (.f (.bl b)) h2
 |.isN a,σ,h=>(Zb a σ h).bind λx h1=>.ok (.f (.bl (QK x))) h1
 |.notN a,σ,h=>(Zb a σ h).bind λx h1=>.ok (.f (.bl (!QK x))) h1
 |.and es,σ,h=>Yy es σ h
 |.or es,σ,h=>qG es σ h
 |.not a,σ,h=>(Zb a σ h).bind λx h1=>opt (qL x) λk=>.ok (.f (.bl (!k))) h1
 |.ite c a b,σ,h=>(Zb c σ h).bind λx h1=>opt (qL x) λk=>if k=true then Zb a σ h1 else Zb b σ h1
 |.tup es,σ,h=>(Yj es σ h).bind λxs h1=>.ok (qp xs) h1
 |.lst fz es,σ,h=>(Yj es σ h).bind λxs h1=>Yx fz xs h1
 |.sub a i,σ,h=>(Zb a σ h).bind λx h1=>(Zb i σ h1).bind λy h2=>opt (yd h2 x) λxs=>opt (Ze y) λk=>opt (atM xs k) λv=>.ok v h2
 |.slice fz a lo hi,σ,h=>(Zb a σ h).bind λx h1=>(Qbr lo σ h1).bind λl h2=>(Qbr hi σ h2).bind λu h3=>y0 fz x l u h3
 |.fld a n,σ,h=>(Zb a σ h).bind λx h1=>opt (zbv P.fok n x h1) λv=>.ok v h1
 |.call f es,σ,h=>(Yj es σ h).bind λxs h1=>W f xs h1
 |.make fz c es,σ,h=>(Yj es σ h).bind λxs h1=>Qak P W fz c xs h1
 |.meth o m es,σ,h=>(Zb o σ h).bind λx h1=>opt (QF m x h1) λc=>opt (P.meths c m) λf=>(Yj es σ h1).bind λxs h2=>W f (x::xs) h2
 |.blt fz n es,σ,h=>(Yj es σ h).bind λxs h1=>qap fz n xs h1
 |.isI a t,σ,h=>(Zb a σ h).bind λx h1=>opt (zS P.subs h1 x t) λk=>.ok (.f (.bl k)) h1
 |.revL fz a,σ,h=>(Zb a σ h).bind λx h1=>opt (listOf h1 x) λxs=>Yx fz xs.reverse h1
 |.mNew,_,h=>.ok (.ref h.length) (h++[.msk []])
 |.mOf a,σ,h=>(Zb a σ h).bind λx h1=>ybL x h1
 |.tx2 o a b,σ,h=>(Zb a σ h).bind λx h1=>opt (t2g o x h1) λ_=>(Zb b σ h1).bind λy h2=>YO o x y h2
 |.mNin a d,σ,h=>(Zb a σ h).bind λx h1=>(Zb d σ h1).bind λy h2=>Qa9 x y h2
 |.nearK a b,σ,h=>(Zb a σ h).bind λx h1=>(Zb b σ h1).bind λy h2=>nearV x y h2
 |.lm m o es,σ,h=>(Zb o σ h).bind λx h1=>opt (lmC x h1) λ_=>(Yj es σ h1).bind λxs h2=>lmV m x xs h2
 |.comp fz elt tg it src cond ncv js,σ,h=>(Yj src σ h).bind λxs h1=>opt (itV it xs h1) λp =>
   (Qo p.2 (yn tg (zbr cond) (Zb elt)) p.1 [] (stM ncv js σ) h1).bind λacc h3=>Yx fz acc h3
 |.frz e,σ,h=>(Zb e σ h).bind λx h1=>Qao x h1
@[simp] noncomputable def Yy:List ME->MSt->MH->R MV
 |[],_,_=>.stuck
 |[e],σ,h=>Zb e σ h
 |e::e'::r,σ,h=>(Zb e σ h).bind λx h1=>opt (qL x) λk=>if k=true then Yy (e'::r) σ h1 else .ok (.f (.bl false)) h1
@[simp] noncomputable def qG:List ME->MSt->MH->R MV
 |[],_,_=>.stuck
 |[e],σ,h=>Zb e σ h
 |e::e'::r,σ,h=>(Zb e σ h).bind λx h1=>opt (qL x) λk=>if k=true then .ok (.f (.bl true)) h1 else qG (e'::r) σ h1
@[simp] noncomputable def Yj:List ME->MSt->MH->R (List MV)
 |[],_,h=>.ok [] h
 |e::es,σ,h=>(Zb e σ h).bind λx h1=>(Yj es σ h1).bind λxs h2=>.ok (x::xs) h2
@[simp] noncomputable def Qbr:Option ME->MSt->MH->R (Option Int)
 |none,_,h=>.ok none h
 |some e,σ,h=>(Zb e σ h).bind λx h1=>opt (Ze x) λi=>.ok (some i) h1
@[simp] noncomputable def zbr:Option ME->MSt->MH->R Bool
 |none,_,h=>.ok true h
 |some e,σ,h=>(Zb e σ h).bind λx h1=>opt (qL x) λk=>.ok k h1
end
mutual
@[simp] noncomputable def zz:MS->MSt->MH->RS
 |.set tg e,σ,h=>(Zb P W e σ h).st λv h1=>yO (zT tg v σ) λσ1=>.next σ1 h1
 |.setSub o i e,σ,h=>(Zb P W e σ h).st λv h1=>(Zb P W o σ h1).st λx h2=>(Zb P W i σ h2).st λy h3 =>
   match x with
   |.ref a=>yO (yg h3 a) λxs=>yO (Ze y) λk=>yO (ixM xs.length k) λj=>.next σ (yj h3 a (xs.set j v))
   |_=>.stuck
 |.par i j a b,σ,h=>(Yj P W [a,b] σ h).st λxs h1=>match xs with
  |[v,w]=>.next ((σ.set i (some v)).set j (some w)) h1
  |_=>.stuck
 |.setFld o n e,σ,h=>(Zb P W e σ h).st λv h1=>(Zb P W o σ h1).st λx h2=>match x with
   |.ref a=>match h2[a]? with
    |some (.obj c fs)=>if P.fok c n=true/\fs.length<100 then .next σ (h2.set a (.obj c (Za7 n v fs))) else .stuck
    |_=>.stuck
   |_=>.stuck
 |.expr e,σ,h=>(Zb P W e σ h).st λ_ h1=>.next σ h1
 |.ret e,σ,h=>(Zb P W e σ h).st λv h1=>.ret v h1
 |.ite c a b,σ,h=>(Zb P W c σ h).st λv h1=>yO (qL v) λk=>if k=true then Qb a σ h1 else Qb b σ h1
 |.for_ tg it src body,σ,h=>(Yj P W src σ h).st λxs h1=>yO (itV it xs h1) λp =>
   Qaf p.2 (QX tg (Qb body)) p.1 σ h1
 |.while_ c body,σ,h=>zO (Zb P W c) (Qb body) P.turns σ h
 |.raise c es,σ,h=>(Yj P W es σ h).st λ_ h1=>.exc c h1
 |.tryW body ei dst word,σ,h=>RS.caught (λc h1=>yO (P.word word c) λs=>if ei<σ.length then .next ((σ.set dst (some (.f (.str s)))).set ei none) h1 else .stuck) (Qb body σ h)
 |.pass,σ,h=>.next σ h
 |.boom,_,_=>.stuck
 |.frzS i,σ,h=>yO ((σ[i]?).join) λv=>(Qao v h).st λx h1=>.next (σ.set i (some x)) h1
noncomputable def Qb:List MS->MSt->MH->RS
 |[],σ,h=>.next σ h
 |s::r,σ,h=>(zz s σ h).bind (Qb r)
end
end
noncomputable def zg(h:MH)(r:RS):R MV:=match r with
 |.next _ h'=>Yu h (.f .non) h'
 |.ret v h'=>Yu h v h'
 |.exc c h'=>QG h c h'
 |_=>.stuck
noncomputable def run(P:Prog):Nat->String->List MV->MH->R MV
 |0,_,_,_=>.stuck
 |n+1,f,as,h=>opt (P.defs f) λd=>if as.length=d.np then zg h (Qb P (run P n) d.body (as.map some++we (d.ns-d.np) none) h) else .stuck
end MP
end
section
namespace MP
open PySem
noncomputable abbrev I(i:Int):MV:=.f (.int i)
noncomputable abbrev B(b:Bool):MV:=.f (.bl b)
@[simp] theorem qbv{α:Type}(g:α->FV):∀ xs:List α,Qx (xs.map λx=>MV.f (g x))=some (xs.map g)
 |[]=>rfl
 |x::r=>by simp[Qx,qbv g r]
@[simp] theorem QS:∀ xs:List FV,Qx (xs.map MV.f)=some xs
 |[]=>rfl
 |x::r=>by simp[Qx,QS r]
@[simp] theorem Zc7{α:Type}(g:α->FV)(xs:List α):Qx (xs.map (MV.f∘g))=some (xs.map g):=qbv g xs
@[simp] theorem YbF{α:Type}(g:α->Int):∀ xs:List α,Zn (xs.map λx=>MV.f (.int (g x)))=some (xs.map g)
 |[]=>rfl
 |x::r=>by simp[Zn,YbF g r]
@[simp] theorem ybr:∀ xs:List Int,Zn (xs.map (MV.f∘FV.int))=some xs
 |[]=>rfl
 |x::r=>by
  show Option.map _ (Zn (r.map (MV.f∘FV.int)))=_;rw[ybr r];rfl
@[simp] theorem zbT{α:Type}(g:α->Bool):∀ xs:List α,qz (xs.map λx=>MV.f (.bl (g x)))=some (xs.map g)
 |[]=>rfl
 |x::r=>by simp[qz,zbT g r]
@[simp] theorem YcQ(xs:List FV):qp (xs.map MV.f)=.f (.tup xs):=by simp[qp]
@[simp] theorem YcK{α:Type}(g:α->FV)(xs:List α):qp (xs.map (MV.f∘g))=.f (.tup (xs.map g)):=by simp[qp]
@[simp] theorem Qc4{α:Type}(g:α->FV)(xs:List α):qp (xs.map λx=>MV.f (g x))=.f (.tup (xs.map g)):=by simp[qp]
@[simp] theorem Yc5(x y:FV):qp [.f x,.f y]=.f (.tup [x,y]):=rfl
@[simp] theorem Yc6:qp []=.f (.tup []):=rfl
@[simp] theorem yc8(x:FV):qp [.f x]=.f (.tup [x]):=rfl
@[simp] theorem qd(xs:List FV)(h:MH):Yx true (xs.map MV.f) h=.ok (.f (.lst xs)) h:=by simp[Yx]
@[simp] theorem Ycm{α:Type}(g:α->FV)(xs:List α)(h:MH):Yx true (xs.map (MV.f∘g)) h=.ok (.f (.lst (xs.map g))) h:=by simp[Yx]
@[simp] theorem qcp{α:Type}(g:α->FV)(xs:List α)(h:MH):Yx true (xs.map λx=>MV.f (g x)) h=.ok (.f (.lst (xs.map g))) h:=by simp[Yx]
@[simp] theorem Ycp(h:MH):Yx true [] h=.ok (.f (.lst [])) h:=rfl
@[simp] theorem Qb4(x:FV)(r:List MV)(h:MH):Yx true (.f x::r) h=opt (Qx r) λys=>.ok (.f (.lst (x::ys))) h:=by
 simp only[Yx,Qx];cases Qx r <;> rfl
@[simp] theorem Qa0(xs:List MV)(h:MH):Yx false xs h=.ok (.ref h.length) (h++[.lst xs]):=rfl
@[simp] theorem QcW(P:Prog)(W:String->List MV->MH->R MV)(σ:MSt)(h:MH):Qb P W [] σ h=.next σ h:=by simp only[Qb]
@[simp] theorem zcF(P:Prog)(W:String->List MV->MH->R MV)(s:MS)(r:List MS)(σ:MSt)(h:MH):Qb P W (s::r) σ h=(zz P W s σ h).bind (Qb P W r):=by simp only[Qb]
section
variable {h:MH}
@[simp] theorem fldV_obj(ok:String->String->Bool)(n c:String)(ns:List String)(vs:List FV):zbv ok n (.f (.obj c ns vs)) h=if ok c n=true then(QaZ n ns vs).map .f else none:=rfl
@[simp] theorem lmC_ref(a:Nat):lmC (.ref a) h=yg h a:=rfl
@[simp] theorem qb0:QK (.f .non)=true:=rfl
@[simp] theorem qc4(s:Str):QK (.f (.str s))=false:=rfl
@[simp] theorem yc4(s:Int):QK (.f (.int s))=false:=rfl
@[simp] theorem isNon_bl(s:Bool):QK (.f (.bl s))=false:=rfl
@[simp] theorem yc2(s:List FV):QK (.f (.tup s))=false:=rfl
@[simp] theorem Yc4(s:List FV):QK (.f (.lst s))=false:=rfl
@[simp] theorem Zc4(c:String)(ns:List String)(s:List FV):QK (.f (.obj c ns s))=false:=rfl
@[simp] theorem Yc2(s:Nat):QK (.ref s)=false:=rfl
@[simp] theorem ZcK(s:List MV):QK (.tup s)=false:=rfl
@[simp] theorem qc8(xs:List FV):yd h (.f (.tup xs))=some (xs.map .f):=rfl
@[simp] theorem zc7(xs:List FV):yd h (.f (.lst xs))=some (xs.map .f):=rfl
@[simp] theorem Yb0(ns:List Int):yd h (.f (.scr ns))=some (ns.map λi=>MV.f (.int i)):=rfl
@[simp] theorem YbX(ns:List Int):Qt (.f (.scr ns))=none:=rfl
@[simp] theorem YcI(xs:List MV):yd h (.tup xs)=some xs:=rfl
@[simp] theorem zc3(a:Nat):yd h (.ref a)=yg h a:=rfl
@[simp] theorem setF_nil(n:String)(v:MV):Za7 n v []=[(n,v)]:=rfl
@[simp] theorem Zc6(n k:String)(v x:MV)(r:List (String×MV)):Za7 n v ((k,x)::r)=if k=n then(k,v)::r else(k,x)::Za7 n v r:=rfl
@[simp] theorem ycR(xs:List FV):listOf h (.f (.tup xs))=none:=rfl
@[simp] theorem zc2(xs:List FV):listOf h (.f (.lst xs))=some (xs.map .f):=rfl
@[simp] theorem YcL(a:Nat):listOf h (.ref a)=yg h a:=rfl
@[simp] theorem zc6(xs:List FV):Qt (.f (.tup xs))=some (xs.map .f):=rfl
@[simp] theorem yc1(xs:List MV):Qt (.tup xs)=some xs:=rfl
@[simp] theorem yc7(xs:List FV):Qt (.f (.lst xs))=none:=rfl
@[simp] theorem qc7(a:Nat):Qt (.ref a)=none:=rfl
@[simp] theorem Yc8(i:Int):Ze (.f (.int i))=some i:=rfl
@[simp] theorem Zc8(xs:List FV):Ze (.f (.tup xs))=none:=rfl
@[simp] theorem zc5(xs:List FV):Ze (.f (.lst xs))=none:=rfl
@[simp] theorem Zc2(a:Nat):Ze (.ref a)=none:=rfl
@[simp] theorem blOf_bl(b:Bool):qL (.f (.bl b))=some b:=rfl
@[simp] theorem Zc5(i j:Int):Yap .lt i j=some (decide (i<j)):=rfl
@[simp] theorem Qc6(i j:Int):Yap .le i j=some (decide (i<=j)):=rfl
@[simp] theorem Yc3(i j:Int):Yap .gt i j=some (decide (j<i)):=rfl
@[simp] theorem zc8(i j:Int):Yap .ge i j=some (decide (j<=i)):=rfl
@[simp] theorem cmp_lt(x y:MV):QT .lt x y h=(Ze x).bind λi=>(Ze y).bind λj=>some (decide (i<j)):=rfl
@[simp] theorem cmp_le(x y:MV):QT .le x y h=(Ze x).bind λi=>(Ze y).bind λj=>some (decide (i<=j)):=rfl
@[simp] theorem cmp_gt(x y:MV):QT .gt x y h=(Ze x).bind λi=>(Ze y).bind λj=>some (decide (j<i)):=rfl
@[simp] theorem cmp_ge(x y:MV):QT .ge x y h=(Ze x).bind λi=>(Ze y).bind λj=>some (decide (j<=i)):=rfl
@[simp] theorem deep_f(x:FV):y9 h (.f x)=some x:=rfl
@[simp] theorem cmp_eq_f(x y:FV):QT .eq (.f x) (.f y) h=eqF x y:=rfl
@[simp] theorem cmp_ne_f(x y:FV):QT .ne (.f x) (.f y) h=(eqF x y).map (!·):=rfl
@[simp] theorem isD_non(n:Nat):isD (n+1) .non=true:=rfl
@[simp] theorem isD_bl(n:Nat)(b:Bool):isD (n+1) (.bl b)=true:=rfl
@[simp] theorem isD_int(n:Nat)(i:Int):isD (n+1) (.int i)=true:=rfl
@[simp] theorem isD_str(n:Nat)(s:Str):isD (n+1) (.str s)=sOk s:=rfl
@[simp] theorem isD_tup(n:Nat)(xs:List FV):isD (n+1) (.tup xs)=xs.all (isD n):=rfl
@[simp] theorem isD_lst(n:Nat)(xs:List FV):isD (n+1) (.lst xs)=xs.all (isD n):=rfl
@[simp] theorem eqD_int(i j:Int):eqD (.int i) (.int j)=(i==j):=by simp[eqD]
@[simp] theorem eqD_str(i j:Str):eqD (.str i) (.str j)=(i==j):=by simp[eqD]
@[simp] theorem eqD_tup(xs ys:List FV):eqD (.tup xs) (.tup ys)=yaT xs ys:=by simp[eqD]
@[simp] theorem eqD_lst(xs ys:List FV):eqD (.lst xs) (.lst ys)=yaT xs ys:=by simp[eqD]
@[simp] theorem eqF_int(i j:Int):eqF (.int i) (.int j)=some (i==j):=by simp[eqF]
theorem zbj(i j:Str)(a:sOk i=true)(b:sOk j=true):eqF (.str i) (.str j)=some (i==j):=by simp[eqF,a,b]
@[simp] theorem ybg(fz:Bool)(i j:Int):Qi fz .add (.f (.int i)) (.f (.int j)) h=.ok (.f (.int (i+j))) h:=rfl
@[simp] theorem YbM(fz:Bool)(i j:Int):Qi fz .sub (.f (.int i)) (.f (.int j)) h=.ok (.f (.int (i-j))) h:=rfl
theorem zad(fz:Bool)(i j:Int)(c:ZaJ i j):Qi fz .mul (.f (.int i)) (.f (.int j)) h=.ok (.f (.int (i*j))) h:=by simp[Qi,yW,c]
theorem zA(fz:Bool)(i j:Int)(c:qb5 i j):Qi fz .fdiv (.f (.int i)) (.f (.int j)) h=.ok (.f (.int (i/j))) h:=by simp[Qi,yW,c]
theorem Yr(fz:Bool)(i j:Int)(c:0<j):Qi fz .mod (.f (.int i)) (.f (.int j)) h=.ok (.f (.int (i%j))) h:=by simp[Qi,yW,c]
@[simp] theorem bltV_len(fz:Bool)(v:MV):qap fz "len" [v] h=opt (yd h v) λxs=>.ok (.f (.int xs.length)) h:=rfl
@[simp] theorem bltV_sum(fz:Bool)(v:MV):qap fz "sum" [v] h=opt ((yd h v).bind Zn) λxs=>.ok (.f (.int xs.sum)) h:=rfl
@[simp] theorem bltV_all(fz:Bool)(v:MV):qap fz "all" [v] h=opt ((yd h v).bind qz) λxs=>.ok (.f (.bl (xs.all id))) h:=rfl
@[simp] theorem YcS(fz:Bool)(v:MV):qap fz "tuple" [v] h=opt (yd h v) λxs=>.ok (qp xs) h:=rfl
@[simp] theorem qc5(fz:Bool)(v:MV):qap fz "list" [v] h=opt (yd h v) λxs=>Yx fz xs h:=rfl
@[simp] theorem yc6(fz:Bool)(i j:Int):qap fz "min" [.f (.int i),.f (.int j)] h=.ok (.f (.int (if j<i then j else i))) h:=rfl
@[simp] theorem Qc3(fz:Bool)(i j:Int):qap fz "max" [.f (.int i),.f (.int j)] h=.ok (.f (.int (if j>i then j else i))) h:=rfl
@[simp] theorem bltV_abs(fz:Bool)(i:Int):qap fz "abs" [.f (.int i)] h=.ok (.f (.int (if i<0 then -i else i))) h:=rfl
@[simp] theorem qc3(fz:Bool)(i:Int):qap fz "int" [.f (.int i)] h=.ok (.f (.int i)) h:=rfl
@[simp] theorem Qc7(fz:Bool)(b:Bool):qap fz "int" [.f (.bl b)] h=.ok (.f (.int (if b then 1 else 0))) h:=rfl
end
@[simp] theorem ite_okH{α:Type}(c:Prop) [Decidable c] (x y:α)(h:MH):(if c then R.ok x h else R.ok y h)=R.ok (if c then x else y) h:=by split <;> rfl
@[simp] theorem ite_f(c:Prop) [Decidable c] (x y:FV):(if c then MV.f x else MV.f y)=MV.f (if c then x else y):=by split <;> rfl
@[simp] theorem ite_bl(c:Prop) [Decidable c] (x y:Bool):(if c then FV.bl x else FV.bl y)=FV.bl (if c then x else y):=by split <;> rfl
@[simp] theorem ite_int(c:Prop) [Decidable c] (x y:Int):(if c then FV.int x else FV.int y)=FV.int (if c then x else y):=by split <;> rfl
theorem qat(xs:List MV)(k:Nat):atM xs (k:Int)=xs[k]?:=by
 unfold atM ixM;by_cases h:k<xs.length
 ·simp[h]
 ·simp[h]
theorem Zcw(xs:List MV)(i:Int)(h:0<=i):atM xs i=xs[i.toNat]?:=by
 have:=qat xs i.toNat
 rwa [Int.toNat_of_nonneg h] at this
@[simp] theorem atM_zero(x:MV)(xs:List MV):atM (x::xs) 0=some x:=by have:=qat (x::xs) 0;simpa using this
@[simp] theorem atM_one(x y:MV)(xs:List MV):atM (x::y::xs) 1=some y:=by have:=qat (x::y::xs) 1;simpa using this
@[simp] theorem atM_two(x y z:MV)(xs:List MV):atM (x::y::z::xs) 2=some z:=by have:=qat (x::y::z::xs) 2;simpa using this
theorem yac(xs:List MV)(x:MV):atM (xs++[x]) (-1)=some x:=by
 have e:((-1:Int)+((xs++[x]).length:Nat)).toNat=xs.length:=by simp;lia
 unfold atM ixM;rw[if_neg (by decide),if_pos (by simp;lia),Xq,e];simp
noncomputable def sq(b:Bool)(xs:List FV):FV:=if b=true then .tup xs else .lst xs
@[simp] theorem seqOf_sq(h:MH)(b:Bool)(xs:List FV):yd h (.f (sq b xs))=some (xs.map .f):=by cases b <;> rfl
@[simp] theorem QcS(h:MH)(b:Bool)(xs:List FV):zd h (.f (sq b xs))=[]:=rfl
theorem Yn(h t:MH)(xs:List MV):yg (h++.lst xs::t) h.length=some xs:=by simp[yg]
theorem Zz(h t:MH)(xs ys:List MV):yj (h++.lst xs::t) h.length ys=h++.lst ys::t:=by simp[yj]
theorem Zch(h:MH)(n:Nat):∀ xs:List FV,(xs.map MV.f).mapM (qA h (n+1))=some xs
 |[]=>rfl
 |x::r=>by simp[Wm,Zch h n r,qA]
theorem YbC(h:MH)(n:Nat):∀ xs:List FV,(xs.map MV.f).flatMap (QM h (n+1))=[]
 |[]=>rfl
 |x::r=>by simp[QM]
theorem qcl(h t:MH)(as:List Nat)(ha:∀ a∈as,h.length<=a):∃ t',kill as (h++t)=h++t':=by
 refine⟨(t.mapIdx λi c=>if i+h.length∈as then .dead else c),?_⟩;unfold kill;rw[List.mapIdx_append]
 congr 1
 ·refine wt λi=>?_;rw[Uu];cases q:h[i]? with
  |none=>rfl
  |some c =>
   have hi:=(Xa.mp q).1;have:i∉as:=λz=>by have:=ha i z;lia
   simp[this]
theorem Zcg(h:MH)(a:Nat)(xs:List FV)(e:yg h a=some (xs.map .f)):Qao (.ref a) h=.ok (.f (.lst xs)) (kill [a] h):=by
 simp only[Qao,y9,qA,e,Xq,Zch,ui,yp,QM,XD,YbC]
theorem zaw(h t:MH)(xs:List FV):∃ t',Qao (.ref h.length) (h++.lst (xs.map .f)::t)=.ok (.f (.lst xs)) (h++t'):=by
 obtain⟨t',e⟩:=qcl h (.lst (xs.map .f)::t) [h.length] (by simp);exact⟨t',by rw[Zcg _ _ xs (Yn h t _),e]⟩
@[simp] theorem frz_f(h:MH)(x:FV):Qao (.f x) h=.ok (.f x) h:=by
 have:kill [] h=h:=by unfold kill;refine wt λi=>?_;rw[Uu];cases h[i]? <;> rfl
 simp[Qao,y9,qA,QM,this]
@[simp] theorem ybF(k:String->MH->RS)(c:String)(h:MH):RS.caught k (.exc c h)=k c h:=id rfl
@[simp] theorem ycF(k:String->MH->RS)(σ:MSt)(h:MH):RS.caught k (.next σ h)=.next σ h:=id rfl
@[simp] theorem ZcW(k:String->MH->RS)(v:MV)(h:MH):RS.caught k (.ret v h)=.ret v h:=id rfl
theorem TrOk.refl(h:MH):TrOk h h:=⟨xb _,λi c _ e=>.inl e⟩
theorem TrOk.app(h t:MH):TrOk h (h++t):=⟨by simp,λi c hi e=>.inl (by rw[Ub hi] at e;exact e)⟩
theorem TrOk.cons{c c':Cell}{h h':MH}(t:TrOk h h')(e:c'=c\/FlatC c'):TrOk (c::h) (c'::h'):=by
 refine⟨by have:=t.1;simp;lia,λi d hi q=>?_⟩;cases i with
 |zero =>
  simp at q;subst q;rcases e with e|e
  ·left;simp[e]
  ·exact .inr e
 |succ i=>simp at q hi ⊢;exact t.2 i d hi q
@[simp] theorem QcM(h:MH)(x:FV):Yu h (.f x) h=.ok (.f x) h:=by simp[Yu,TrOk.refl]
@[simp] theorem qc6(h t:MH)(x:FV):Yu h (.f x) (h++t)=.ok (.f x) h:=by simp[Yu,TrOk.app]
@[simp] theorem leave_at(h:MH)(k k':Int)(x:FV):Yu (.lst [I k]::h) (.f x) (.lst [I k']::h)=.ok (.f x) (.lst [I k']::h):=by
 simp[Yu,TrOk.cons (TrOk.refl h) (.inr ⟨[.int k'],rfl⟩:Cell.lst [I k']=Cell.lst [I k]\/FlatC (.lst [I k']))]
@[simp] theorem qcB(h t:MH)(k k':Int)(x:FV):Yu (.lst [I k]::h) (.f x) (.lst [I k']::(h++t))=.ok (.f x) (.lst [I k']::h):=by
 simp[Yu,TrOk.cons (TrOk.app h t) (.inr ⟨[.int k'],rfl⟩:Cell.lst [I k']=Cell.lst [I k]\/FlatC (.lst [I k']))]
@[simp] theorem qcG(h:MH)(c:String):QG h c h=.exc c h:=by simp[QG,TrOk.refl]
@[simp] theorem YcO(h t:MH)(c:String):QG h c (h++t)=.exc c h:=by simp[QG,TrOk.app]
@[simp] theorem YcH(h:MH)(σ:MSt)(h':MH):zg h (.next σ h')=Yu h (.f .non) h':=id rfl
@[simp] theorem ZcZ(h:MH)(v:MV)(h':MH):zg h (.ret v h')=Yu h v h':=id rfl
@[simp] theorem QcN(h:MH)(c:String)(h':MH):zg h (.exc c h')=QG h c h':=id rfl
@[simp] theorem QO(h:MH):GuardOk [] h:=λp hp=>by simp at hp
@[simp] theorem yc3(h:MH)(x:FV):zd h (.f x)=[]:=rfl
@[simp] theorem ZcD(h:MH)(x:List MV):zd h (.tup x)=[]:=rfl
theorem zbY(bd:MV->MSt->MH->RS)(x:MV)(r:List MV)(σ:MSt)(h:MH):Qaf [] bd (x::r) σ h=(bd x σ h).turn λσ1 h1=>Qaf [] bd r σ1 h1:=by simp[Qaf]
@[simp] theorem itV_seq(h:MH)(v:MV):itV "seq" [v] h=(yd h v).map λxs=>(xs,zd h v):=rfl
theorem YK(h:MH)(n:Int)(c:-(2^62)<=n/\n<2^62):itV "range" [.f (.int n)] h=some ((uc n.toNat).map λ(k:Nat)=>I k,[]):=if_pos c
@[simp] theorem itV_zip(h:MH)(u v:MV):itV "zip" [u,v] h=(yd h u).bind λxs=>(yd h v).map λys=>((xs.zip ys).map λp=>qp [p.1,p.2],zd h u++zd h v):=rfl
@[simp] theorem itV_enum(h:MH)(v:MV):itV "enumerate" [v] h=(yd h v).map λxs=>(xs.mapIdx λk x=>qp [.f (.int k),x],zd h v):=rfl
@[simp] theorem zcU(n:Nat):(((n:Int)+1=0)=False):=eq_false (by lia)
@[simp] theorem QcE(n:Nat):(((n:Int)+1==0)=false):=beq_false_of_ne (by lia)
theorem Qad{α:Type}{bd:MV->MSt->MH->R (Option MV×MSt)}{h:MH}{e g:α->MV}{caps:MSt}:∀(ys:List α)(acc:List MV)(z:Option MV),acc.length+ys.length<=sizeL ->
  (∀ y∈ys,∀ z,∃ z',bd (e y) (z::caps) h=.ok (some (g y),z'::caps) h)->Qo [] bd (ys.map e) acc (z::caps) h=.ok (acc++ys.map g) h
 |[],acc,z,_,_=>by simp[Qo]
 |y::r,acc,z,hl,hb=>by
  obtain⟨z',e'⟩:=hb y (by simp) z;simp only[We] at hl;have:=Qad (bd:=bd) (h:=h) (e:=e) (g:=g) (caps:=caps) r (acc++[g y]) z' (by simp;lia) (λy hy z=>hb y (by simp[hy]) z);simp[Qo,e',this]
  lia
theorem Qu{α:Type}{bd:MV->MSt->MH->R (Option MV×MSt)}{h:MH}{e g:α->MV}{caps:MSt}:∀(ys:List α)(acc:List MV)(z w:Option MV),acc.length+ys.length<=sizeL ->
  (∀ y∈ys,∀ z w,∃ z' w',bd (e y) (z::w::caps) h=.ok (some (g y),z'::w'::caps) h)->Qo [] bd (ys.map e) acc (z::w::caps) h=.ok (acc++ys.map g) h
 |[],acc,z,w,_,_=>by simp[Qo]
 |y::r,acc,z,w,hl,hb=>by
  obtain⟨z',w',e'⟩:=hb y (by simp) z w;simp only[We] at hl;have:=Qu (bd:=bd) (h:=h) (e:=e) (g:=g) (caps:=caps) r (acc++[g y]) z' w' (by simp;lia) (λy hy z=>hb y (by simp[hy]) z);simp[Qo,e',this]
  lia
theorem qaS{α:Type}{bd:MV->MSt->MH->RS}{e:α->MV}(Pv:Nat->MSt->MH->Prop):∀(ys:List α)(i:Nat)(σ:MSt)(h:MH),Pv i σ h ->
  (∀ j y σ h,ys[j]?=some y->Pv (i+j) σ h->∃ σ' h',bd (e y) σ h=.next σ' h'/\Pv (i+j+1) σ' h')->∃ σ' h',Qaf [] bd (ys.map e) σ h=.next σ' h'/\Pv (i+ys.length) σ' h'
 |[],i,σ,h,p,_=>⟨σ,h,by simp[Qaf],p⟩
 |y::r,i,σ,h,p,hb=>by
  obtain⟨σ1,h1,e1,p1⟩:=hb 0 y σ h rfl p;obtain⟨σ2,h2,e2,p2⟩:=qaS (bd:=bd) (e:=e) Pv r (i+1) σ1 h1 p1 (λj y σ h hj pj=>by
   have:=hb (j+1) y σ h (by simpa using hj) (by rw[show i+(j+1)=i+1+j by lia];exact pj)
   rwa [show i+(j+1)+1=i+1+j+1 by lia] at this)
  refine⟨σ2,h2,by simp[zbY,e1,e2],?_⟩
  rwa [show i+(y::r).length=i+1+r.length by simp;lia]
end MP
end
section
namespace SD
open PySem PySem.Spec PyProof.Rows L2 L3 M3 MP
structure Tx where
 adr:String->Addr
 K:PySem.W.Frag
 cd:Addr:=0
 tb:Addr:=0
 lp:Pos:=⟨0,0,0,0⟩
 lq:Str:=Str.ofString ""
instance:CoeFun Tx (λ_=>String->Addr):=⟨Tx.adr⟩
noncomputable def ScrK(K:PySem.W.Frag)(a:Addr)(ns:List Int):Prop:=∃(o:Obj)(its:Array Value)(n:Nat),K.lookup a=some o/\o.cls=.type "list"/\o.dict=none/\o.data=.seq its n/\its.size<=sizeLine/\Vals (ns.map V.int) its.toList
noncomputable def Liv(μ:List Addr)(h:MH)(b:Addr):Prop:=∃(i:Nat)(c:Cell),μ[i]?=some b/\h[i]?=some c/\c≠Cell.dead
section
variable (ct:Tx)
mutual
noncomputable def RF(L:Addr->Prop)(H:Hp):FV->V->Prop
 |.non,v=>v=.non
 |.bl b,v=>v=.bl b
 |.int i,v=>v=.int i
 |.str x,v=>v=.str x
 |.tup xs,v=>∃ a vs,v=.ref a/\¬ L a/\H a=some (.tup vs)/\RFs L H xs vs
 |.lst xs,v=>∃ a vs,v=.ref a/\¬ L a/\Rd H a (.lst vs)/\RFs L H xs vs
 |.obj c ns xs,v=>∃ a dx fs,v=.ref a/\¬ L a/\H a=some (.ins (ct c) dx fs)/\fs.map uq=ns.map Str.ofString/\RFs L H xs (fs.map vk)
 |.tab kvs,v=>∃ a o,v=.ref a/\¬ L a/\H a=some (.frz o (.dT (kvs.map λkv=>([(Sum.inl kv.1.1:Key),Sum.inl kv.1.2],V.int kv.2))))
 |.msk ks,v=>∃ a o,v=.ref a/\¬ L a/\H a=some (.frz o (.dT (ks.map λk=>([(Sum.inl k.1:Key),Sum.inl k.2],V.bl true))))
 |.scr ns,v=>∃ a,v=.ref a/\((¬ L a/\∃ o,H a=some (.frz o (.lst (ns.map V.int))))\/ScrK ct.K a ns)
noncomputable def RFs(L:Addr->Prop)(H:Hp):List FV->List V->Prop
 |[],vs=>vs=[]
 |x::xs,vs=>∃ v r,vs=v::r/\RF L H x v/\RFs L H xs r
end
mutual
noncomputable def RV(μ:List Addr)(L:Addr->Prop)(H:Hp):MV->V->Prop
 |.f x,v=>RF ct L H x v
 |.ref i,v=>∃ b,μ[i]?=some b/\v=.ref b
 |.tup xs,v=>∃ a vs,v=.ref a/\¬ L a/\H a=some (.tup vs)/\RVs μ L H xs vs
 |.exc c,v=>∃ a,v=.ref a/\¬ L a/\H a=some (.ext (excP (ct c) a))
noncomputable def RVs(μ:List Addr)(L:Addr->Prop)(H:Hp):List MV->List V->Prop
 |[],vs=>vs=[]
 |x::xs,vs=>∃ v r,vs=v::r/\RV μ L H x v/\RVs μ L H xs r
end
noncomputable def CellOk(μ:List Addr)(L:Addr->Prop)(H:Hp)(b:Addr):Cell->Prop
 |.lst xs=>∃ vs,H b=some (.lst vs)/\RVs ct μ L H xs vs
 |.obj c fs=>∃ dx gs,H b=some (.ins (ct c) dx gs)/\gs.map uq=fs.map (λp=>Str.ofString p.1)/\RVs ct μ L H (fs.map vk) (gs.map vk)
 |.dic ks=>H b=some (.dK (ks.map λk=>((Sum.inl k:Key),V.bl true)))
 |.tab kvs=>H b=some (.dT (kvs.map λkv=>([(Sum.inl kv.1.1:Key),Sum.inl kv.1.2],V.int kv.2)))
 |.msk ks=>H b=some (.dT (ks.map λk=>([(Sum.inl k.1:Key),Sum.inl k.2],V.bl true)))
 |.code=>b=ct.tb/\(H b=some (.ext (tabF b ct.lp none))\/∃ c',c'≠b/\¬ L c'/\H b=some (.ext (tabF b ct.lp (some c')))/\H c'=some (.ext (codF c' ct.lq)))
 |.dead=>True
structure Rel (μ:List Addr) (h:MH) (H:Hp):Prop where
 len:μ.length=h.length
 nd:μ.Nodup
 has:∀ b∈μ,∃ o,H b=some o
 cells:∀(i:Nat)(b:Addr)(c:Cell),μ[i]?=some b->h[i]?=some c->CellOk ct μ (Liv μ h) H b c
end
structure Ext (μ:List Addr) (h:MH) (H:Hp) (μ':List Addr) (h':MH) (H':Hp):Prop where
 pre:∃ ν,μ'=μ++ν
 keep:∀ b o,H b=some o->¬ Liv μ h b->H' b=some o
 liv:∀ b,Liv μ' h' b->Liv μ h b\/H b=none
theorem Ext.refl(μ:List Addr)(h:MH)(H:Hp):Ext μ h H μ h H:=⟨⟨[],by simp⟩,λ_ _ e _=>e,λ_ l=>.inl l⟩
theorem Ext.trans{μ μ1 μ2:List Addr}{h h1 h2:MH}{H H1 H2:Hp}(a:Ext μ h H μ1 h1 H1)(b:Ext μ1 h1 H1 μ2 h2 H2):Ext μ h H μ2 h2 H2:=by
 obtain⟨ν,e⟩:=a.pre;obtain⟨ν',e'⟩:=b.pre;refine⟨⟨ν++ν',by rw[e',e,vf]⟩,λc o q n=>?_,λc l=>?_⟩
 ·refine b.keep c o (a.keep c o q n) λl=>?_
  rcases a.liv c l with z|z
  ·exact n z
  ·rw[q] at z;cases z
 ·rcases b.liv c l with z|z
  ·exact a.liv c z
  ·by_cases n:Liv μ h c
   ·exact .inl n
   ·cases q:H c with
    |none=>exact .inr rfl
    |some o=>rw[a.keep c o q n] at z;cases z
theorem Rd.keep{H H':Hp}{a:Addr}{u:HO}(k:∀ o,H a=some o->H' a=some o)(r:Rd H a u):Rd H' a u:=r.elim (λe=>.inl (k _ e)) λ⟨o,e⟩=>.inr ⟨o,k _ e⟩
theorem Rd.some{H:Hp}{a:Addr}{u:HO}(r:Rd H a u):∃ o,H a=some o:=r.elim (λe=>⟨_,e⟩) λ⟨_,e⟩=>⟨_,e⟩
section
variable {ct:Tx}
structure Let (L:Addr->Prop) (H:Hp) (L':Addr->Prop) (H':Hp):Prop where
 keep:∀ b o,H b=some o->¬ L b->H' b=some o
 liv:∀ b o,H b=some o->¬ L b->¬ L' b
theorem Ext.let{μ μ':List Addr}{h h':MH}{H H':Hp}(e:Ext μ h H μ' h' H'):Let (Liv μ h) H (Liv μ' h') H' :=
 ⟨e.keep,λb o q n l=>(e.liv b l).elim n λz=>by rw[q] at z;cases z⟩
mutual
theorem RF.to{L L':Addr->Prop}{H H':Hp}(l:Let L H L' H'):∀{x:FV}{v:V},RF ct L H x v->RF ct L' H' x v
 |.non,_,r=>by simpa only[RF] using r
 |.bl _,_,r=>by simpa only[RF] using r
 |.int _,_,r=>by simpa only[RF] using r
 |.str _,_,r=>by simpa only[RF] using r
 |.tup xs,v,r=>by
  simp only[RF] at r ⊢;obtain⟨a,vs,e,n,rd,q⟩:=r;exact⟨a,vs,e,l.liv a _ rd n,l.keep a _ rd n,RFs.to l q⟩
 |.lst xs,v,r=>by
  simp only[RF] at r ⊢;obtain⟨a,vs,e,n,rd,q⟩:=r;obtain⟨o,ho⟩:=Rd.some rd;exact⟨a,vs,e,l.liv a o ho n,Rd.keep (λo e=>l.keep a o e n) rd,RFs.to l q⟩
 |.obj c ns xs,v,r=>by
  simp only[RF] at r ⊢;obtain⟨a,dx,fs,e,n,ho,q1,q⟩:=r;exact⟨a,dx,fs,e,l.liv a _ ho n,l.keep a _ ho n,q1,RFs.to l q⟩
 |.tab kvs,v,r=>by
  simp only[RF] at r ⊢;obtain⟨a,o,e,n,q⟩:=r;exact⟨a,o,e,l.liv a _ q n,l.keep a _ q n⟩
 |.msk ks,v,r=>by
  simp only[RF] at r ⊢;obtain⟨a,o,e,n,q⟩:=r;exact⟨a,o,e,l.liv a _ q n,l.keep a _ q n⟩
 |.scr ns,v,r=>by
  simp only[RF] at r ⊢;obtain⟨a,e,q⟩:=r;exact⟨a,e,q.imp (λ⟨n,o,h⟩=>⟨l.liv a _ h n,o,l.keep a _ h n⟩) id⟩
theorem RFs.to{L L':Addr->Prop}{H H':Hp}(l:Let L H L' H'):∀{xs:List FV}{vs:List V},RFs ct L H xs vs->RFs ct L' H' xs vs
 |[],_,r=>by simpa only[RFs] using r
 |x::xs,vs,r=>by
  simp only[RFs] at r ⊢;obtain⟨v,t,e,q1,q2⟩:=r;exact⟨v,t,e,RF.to l q1,RFs.to l q2⟩
end
mutual
theorem RV.to{μ ν:List Addr}{L L':Addr->Prop}{H H':Hp}(l:Let L H L' H'):∀{x:MV}{v:V},RV ct μ L H x v->RV ct (μ++ν) L' H' x v
 |.f x,v,r=>by simp only[RV] at r ⊢;exact RF.to l r
 |.ref i,v,r=>by
  simp only[RV] at r ⊢;obtain⟨b,e,q⟩:=r;exact⟨b,by rw[Ub (Xa.mp e).1];exact e,q⟩
 |.tup xs,v,r=>by
  simp only[RV] at r ⊢;obtain⟨a,vs,e,n,rd,q⟩:=r;exact⟨a,vs,e,l.liv a _ rd n,l.keep a _ rd n,RVs.to l q⟩
 |.exc _,v,r=>by
  simp only[RV] at r ⊢;obtain⟨a,e,n,q⟩:=r;exact⟨a,e,l.liv a _ q n,l.keep a _ q n⟩
theorem RVs.to{μ ν:List Addr}{L L':Addr->Prop}{H H':Hp}(l:Let L H L' H'):∀{xs:List MV}{vs:List V},RVs ct μ L H xs vs->RVs ct (μ++ν) L' H' xs vs
 |[],_,r=>by simpa only[RVs] using r
 |x::xs,vs,r=>by
  simp only[RVs] at r ⊢;obtain⟨v,t,e,q1,q2⟩:=r;exact⟨v,t,e,RV.to l q1,RVs.to l q2⟩
end
theorem RV.ext{μ μ':List Addr}{h h':MH}{H H':Hp}{x:MV}{v:V}(e:Ext μ h H μ' h' H')(r:RV ct μ (Liv μ h) H x v):RV ct μ' (Liv μ' h') H' x v:=by
 obtain⟨ν,q⟩:=e.pre;subst q;exact RV.to e.let r
theorem RVs.ext{μ μ':List Addr}{h h':MH}{H H':Hp}{x:List MV}{v:List V}(e:Ext μ h H μ' h' H')(r:RVs ct μ (Liv μ h) H x v):RVs ct μ' (Liv μ' h') H' x v:=by
 obtain⟨ν,q⟩:=e.pre;subst q;exact RVs.to e.let r
theorem RVs.length{μ:List Addr}{L:Addr->Prop}{H:Hp}:∀{xs:List MV}{vs:List V},RVs ct μ L H xs vs->vs.length=xs.length
 |[],_,r=>by simp only[RVs] at r;simp[r]
 |x::xs,vs,r=>by
  simp only[RVs] at r;obtain⟨v,t,e,_,q⟩:=r;simp[e,RVs.length q]
theorem RVs.get{μ:List Addr}{L:Addr->Prop}{H:Hp}:∀{xs:List MV}{vs:List V}{i:Nat}{x:MV},RVs ct μ L H xs vs->xs[i]?=some x->∃ v,vs[i]?=some v/\RV ct μ L H x v
 |[],_,_,_,_,e=>by simp at e
 |x::xs,vs,0,y,r,e=>by
  simp only[RVs] at r;obtain⟨v,t,q,r1,_⟩:=r;simp at e;subst e;exact⟨v,by simp[q],r1⟩
 |x::xs,vs,i+1,y,r,e=>by
  simp only[RVs] at r;obtain⟨v,t,q,_,r2⟩:=r;obtain⟨u,h1,h2⟩:=RVs.get (i:=i) r2 (by simpa using e);exact⟨u,by simp[q,h1],h2⟩
theorem RVs.get'{μ:List Addr}{L:Addr->Prop}{H:Hp}{xs:List MV}{vs:List V}{i:Nat}{v:V}(r:RVs ct μ L H xs vs)(e:vs[i]?=some v):∃ x,xs[i]?=some x/\RV ct μ L H x v:=by
 have hl:=r.length;have hi:i<xs.length:=by rw[<- hl];exact(Xa.mp e).1
 obtain⟨u,h1,h2⟩:=r.get (i:=i) (x:=xs[i]) (by simp[hi]);rw[e] at h1;cases h1;exact⟨_,by simp[hi],h2⟩
theorem RVs.cons{μ:List Addr}{L:Addr->Prop}{H:Hp}{x:MV}{v:V}{xs:List MV}{vs:List V}(a:RV ct μ L H x v)(b:RVs ct μ L H xs vs):RVs ct μ L H (x::xs) (v::vs):=by
 simp only[RVs];exact⟨v,vs,rfl,a,b⟩
theorem RVs.nil{μ:List Addr}{L:Addr->Prop}{H:Hp}:RVs ct μ L H [] []:=by simp only[RVs]
theorem RVs.append{μ:List Addr}{L:Addr->Prop}{H:Hp}:∀{xs ys:List MV}{vs ws:List V},RVs ct μ L H xs vs->RVs ct μ L H ys ws->RVs ct μ L H (xs++ys) (vs++ws)
 |[],_,_,_,r,s=>by simp only[RVs] at r;subst r;exact s
 |x::xs,ys,vs,ws,r,s=>by
  simp only[RVs] at r;obtain⟨v,t,rfl,r1,r2⟩:=r;exact RVs.cons r1 (RVs.append r2 s)
theorem RVs.take{μ:List Addr}{L:Addr->Prop}{H:Hp}:∀(n:Nat){xs:List MV}{vs:List V},RVs ct μ L H xs vs->RVs ct μ L H (xs.take n) (vs.take n)
 |0,_,_,_=>RVs.nil
 |n+1,[],_,r=>by simp only[RVs] at r;subst r;exact RVs.nil
 |n+1,x::xs,vs,r=>by
  simp only[RVs] at r;obtain⟨v,t,rfl,r1,r2⟩:=r;exact RVs.cons r1 (RVs.take n r2)
theorem RVs.drop{μ:List Addr}{L:Addr->Prop}{H:Hp}:∀(n:Nat){xs:List MV}{vs:List V},RVs ct μ L H xs vs->RVs ct μ L H (xs.drop n) (vs.drop n)
 |0,_,_,r=>r
 |n+1,[],_,r=>by simp only[RVs] at r;subst r;exact RVs.nil
 |n+1,x::xs,vs,r=>by
  simp only[RVs] at r;obtain⟨v,t,rfl,r1,r2⟩:=r;exact RVs.drop n r2
theorem RVs.set{μ:List Addr}{L:Addr->Prop}{H:Hp}{y:MV}{u:V}(q:RV ct μ L H y u):∀(n:Nat){xs:List MV}{vs:List V},RVs ct μ L H xs vs->RVs ct μ L H (xs.set n y) (vs.set n u)
 |_,[],_,r=>by simp only[RVs] at r;subst r;exact RVs.nil
 |0,x::xs,vs,r=>by
  simp only[RVs] at r;obtain⟨v,t,rfl,r1,r2⟩:=r;exact RVs.cons q r2
 |n+1,x::xs,vs,r=>by
  simp only[RVs] at r;obtain⟨v,t,rfl,r1,r2⟩:=r;exact RVs.cons r1 (RVs.set q n r2)
theorem RVs.ofF{μ:List Addr}{L:Addr->Prop}{H:Hp}:∀{xs:List FV}{vs:List V},RFs ct L H xs vs->RVs ct μ L H (xs.map MV.f) vs
 |[],_,r=>by simp only[RFs] at r;subst r;exact RVs.nil
 |x::xs,vs,r=>by
  simp only[RFs] at r;obtain⟨v,t,rfl,r1,r2⟩:=r;exact RVs.cons (by simp only[RV];exact r1) (RVs.ofF r2)
theorem RVs.toF{μ:List Addr}{L:Addr->Prop}{H:Hp}:∀{xs:List MV}{ys:List FV}{vs:List V},Qx xs=some ys->RVs ct μ L H xs vs->RFs ct L H ys vs
 |[],ys,vs,e,r=>by simp[Qx] at e;subst e;simp only[RVs] at r;subst r;simp only[RFs]
 |.f x::xs,ys,vs,e,r=>by
  simp only[Qx,xc] at e;obtain⟨zs,e1,rfl⟩:=e;simp only[RVs] at r;obtain⟨v,t,rfl,r1,r2⟩:=r;simp only[RFs];exact⟨v,t,rfl,by simpa only[RV] using r1,RVs.toF e1 r2⟩
 |.ref _::_,_,_,e,_=>by simp[Qx] at e
 |.tup _::_,_,_,e,_=>by simp[Qx] at e
 |.exc _::_,_,_,e,_=>by simp[Qx] at e
end
section
variable {ct:Tx}
structure RelSt (ct:Tx) (μ:List Addr) (h:MH) (H:Hp) (σ:L2.St) (σs:MSt):Prop where
 len:σ.length=σs.length
 at_:∀(i:Nat)(m:MV),σs[i]?=some (some m)->∃ v,σ[i]?=some (some v)/\RV ct μ (Liv μ h) H m v
theorem RelSt.ext{μ μ':List Addr}{h h':MH}{H H':Hp}{σ:L2.St}{σs:MSt}(e:Ext μ h H μ' h' H')(r:RelSt ct μ h H σ σs):RelSt ct μ' h' H' σ σs :=
 ⟨r.len,λi m q=>let ⟨v,a,b⟩:=r.at_ i m q;⟨v,a,b.ext e⟩⟩
theorem RelSt.set{μ:List Addr}{h:MH}{H:Hp}{σ:L2.St}{σs:MSt}{m:MV}{v:V}(i:Nat)(r:RelSt ct μ h H σ σs)(q:RV ct μ (Liv μ h) H m v):RelSt ct μ h H (σ.set i (some v)) (σs.set i (some m)):=by
 refine⟨by simp[r.len],λj m' e=>?_⟩;by_cases hj:i=j
 ·subst hj;have hi:i<σs.length:=by
   have:=(Xa.mp e).1;simpa using this
  rw[Ug hi] at e;cases e;exact⟨v,by rw[Ug (by rw[r.len];exact hi)],q⟩
 ·rw[Vf hj] at e;obtain⟨u,a,b⟩:=r.at_ j m' e;exact⟨u,by rw[Vf hj];exact a,b⟩
noncomputable def Po{α:Type}(ct:Tx)(E:XK)(r:R α)(μ:List Addr)(h:MH)(H:Hp)(k:α->List Addr->MH->Hp->Prop):Prop:=match r with
 |.ok x h'=>∀ μ' H',Ext μ h H μ' h' H'->Rel ct μ' h' H'->k x μ' h' H'
 |.exc c h'=>∀ μ' H',Ext μ h H μ' h' H'->Rel ct μ' h' H'->E (.ref (ct c)) none H'
 |.stuck=>False
section
variable {α β:Type} {E:XK} {μ μ1:List Addr} {h h1:MH} {H H1:Hp}
theorem Po.start{r:R α}{k:α->List Addr->MH->Hp->Prop}(e:Ext μ h H μ1 h1 H1)(p:Po ct E r μ h H k):Po ct E r μ1 h1 H1 k:=by
 cases r with
 |ok x h'=>exactλμ' H' e' r'=>p μ' H' (e.trans e') r'
 |exc c h'=>exactλμ' H' e' r'=>p μ' H' (e.trans e') r'
 |stuck=>exact p
theorem Po.bind{r:R α}{g:α->MH->R β}{k:β->List Addr->MH->Hp->Prop}(p:Po ct E (r.bind g) μ h H k):Po ct E r μ h H λx μ1 h1 H1=>Ext μ h H μ1 h1 H1/\Rel ct μ1 h1 H1/\Po ct E (g x h1) μ1 h1 H1 k:=by
 cases r with
 |ok x h'=>exactλμ' H' e' r'=>⟨e',r',Po.start (r:=g x h') e' p⟩
 |exc c h'=>exact p
 |stuck=>exact p
theorem Po.imp{r:R α}{k k':α->List Addr->MH->Hp->Prop}(p:Po ct E r μ h H k)(f:∀ x μ1 h1 H1,k x μ1 h1 H1->k' x μ1 h1 H1):Po ct E r μ h H k':=by
 cases r with
 |ok x h'=>exactλμ' H' e' r'=>f _ _ _ _ (p μ' H' e' r')
 |exc c h'=>exact p
 |stuck=>exact p
theorem Po.opt{o:Option α}{g:α->R β}{k:β->List Addr->MH->Hp->Prop}(p:Po ct E (opt o g) μ h H k):∃ x,o=some x/\Po ct E (g x) μ h H k:=by
 cases o with
 |none=>exact p.elim
 |some x=>exact⟨x,rfl,p⟩
theorem Po.now{x:α}{k:α->List Addr->MH->Hp->Prop}(rel:Rel ct μ h H)(p:Po ct E (.ok x h) μ h H k):k x μ h H:=p μ H (Ext.refl _ _ _) rel
theorem Po.now'{x:α}{h':MH}{k:α->List Addr->MH->Hp->Prop}(p:Po ct E (.ok x h') μ h H k){μ':List Addr}{H':Hp}(e:Ext μ h H μ' h' H')(rel:Rel ct μ' h' H'):k x μ' h' H':=p μ' H' e rel
end
noncomputable def kV(ct:Tx)(Q:VK):MV->List Addr->MH->Hp->Prop:=λm μ h H=>∀ v,RV ct μ (Liv μ h) H m v->Q v H
noncomputable def kVs(ct:Tx)(Q:List V->Hp->Prop):List MV->List Addr->MH->Hp->Prop:=λm μ h H=>∀ v,RVs ct μ (Liv μ h) H m v->Q v H
section
variable (ct) (Ra:L2.St->Prop) (E:XK)
noncomputable def lE(ev:MSt->MH->R MV):TE:=λσ H Q=>∃ μ h σs,Rel ct μ h H/\RelSt ct μ h H σ σs/\Ra σ/\Po ct E (ev σs h) μ h H (kV ct Q)
noncomputable def lT(ev:MSt->MH->R Bool):TT:=λσ H Q=>∃ μ h σs,Rel ct μ h H/\RelSt ct μ h H σ σs/\Ra σ/\Po ct E (ev σs h) μ h H λb _ _ H'=>Q b H'
noncomputable def lA(ev:MSt->MH->R (List MV)):TA:=λσ H Q=>∃ μ h σs,Rel ct μ h H/\RelSt ct μ h H σ σs/\Ra σ/\Po ct E (ev σs h) μ h H (kVs ct Q)
noncomputable def lO(ev:MSt->MH->R (Option Int)):TO:=λσ H Q=>∃ μ h σs,Rel ct μ h H/\RelSt ct μ h H σ σs/\Ra σ/\Po ct E (ev σs h) μ h H λb _ _ H'=>Q b H'
end
section
variable {Ra:L2.St->Prop} {E:XK} {μ:List Addr} {h:MH} {H:Hp} {σ:L2.St} {σs:MSt} {β:Type}
theorem lE.mk{ev:MSt->MH->R MV}{g:MV->MH->R β}{k:β->List Addr->MH->Hp->Prop}{Q:VK}(rel:Rel ct μ h H)(rst:RelSt ct μ h H σ σs)(ra:Ra σ)(p:Po ct E ((ev σs h).bind g) μ h H k)
  (f:∀ m v μ1 h1 H1,Ext μ h H μ1 h1 H1->Rel ct μ1 h1 H1->RelSt ct μ1 h1 H1 σ σs->RV ct μ1 (Liv μ1 h1) H1 m v->Po ct E (g m h1) μ1 h1 H1 k->Q v H1):lE ct Ra E ev σ H Q :=
 ⟨μ,h,σs,rel,rst,ra,(Po.bind p).imp λm μ1 h1 H1 ⟨e1,r1,p1⟩ v rv=>f m v μ1 h1 H1 e1 r1 (rst.ext e1) rv p1⟩
theorem lT.mk{ev:MSt->MH->R Bool}{g:Bool->MH->R β}{k:β->List Addr->MH->Hp->Prop}{Q:Bool->Hp->Prop}(rel:Rel ct μ h H)(rst:RelSt ct μ h H σ σs)(ra:Ra σ)(p:Po ct E ((ev σs h).bind g) μ h H k)
  (f:∀ m μ1 h1 H1,Ext μ h H μ1 h1 H1->Rel ct μ1 h1 H1->RelSt ct μ1 h1 H1 σ σs->Po ct E (g m h1) μ1 h1 H1 k->Q m H1):lT ct Ra E ev σ H Q :=
 ⟨μ,h,σs,rel,rst,ra,(Po.bind p).imp λm μ1 h1 H1 ⟨e1,r1,p1⟩=>f m μ1 h1 H1 e1 r1 (rst.ext e1) p1⟩
theorem lA.mk{ev:MSt->MH->R (List MV)}{g:List MV->MH->R β}{k:β->List Addr->MH->Hp->Prop}{Q:List V->Hp->Prop}(rel:Rel ct μ h H)(rst:RelSt ct μ h H σ σs)(ra:Ra σ)(p:Po ct E ((ev σs h).bind g) μ h H k)
  (f:∀ m v μ1 h1 H1,Ext μ h H μ1 h1 H1->Rel ct μ1 h1 H1->RelSt ct μ1 h1 H1 σ σs->RVs ct μ1 (Liv μ1 h1) H1 m v->Po ct E (g m h1) μ1 h1 H1 k->Q v H1):lA ct Ra E ev σ H Q :=
 ⟨μ,h,σs,rel,rst,ra,(Po.bind p).imp λm μ1 h1 H1 ⟨e1,r1,p1⟩ v rv=>f m v μ1 h1 H1 e1 r1 (rst.ext e1) rv p1⟩
theorem lO.mk{ev:MSt->MH->R (Option Int)}{g:Option Int->MH->R β}{k:β->List Addr->MH->Hp->Prop}{Q:Option Int->Hp->Prop}(rel:Rel ct μ h H)(rst:RelSt ct μ h H σ σs)(ra:Ra σ)(p:Po ct E ((ev σs h).bind g) μ h H k)
  (f:∀ m μ1 h1 H1,Ext μ h H μ1 h1 H1->Rel ct μ1 h1 H1->RelSt ct μ1 h1 H1 σ σs->Po ct E (g m h1) μ1 h1 H1 k->Q m H1):lO ct Ra E ev σ H Q :=
 ⟨μ,h,σs,rel,rst,ra,(Po.bind p).imp λm μ1 h1 H1 ⟨e1,r1,p1⟩=>f m μ1 h1 H1 e1 r1 (rst.ext e1) p1⟩
end
section
variable {μ:List Addr} {h:MH} {H:Hp}
theorem Liv.has(rel:Rel ct μ h H){b:Addr}(l:Liv μ h b):∃ o,H b=some o:=let ⟨i,_,e,_,_⟩:=l;rel.has b (Ui e)
theorem Rel.fresh(rel:Rel ct μ h H){p:Addr}(hp:H p=none):p∉μ:=λz=>by obtain⟨o,e⟩:=rel.has p z;rw[hp] at e;cases e
theorem Ext.new(rel:Rel ct μ h H){p:Addr}(hp:H p=none)(o:HO):Ext μ h H μ h (upd H p o) :=
 ⟨⟨[],by simp⟩,λb u e _=>by rw[qc (Zd e hp)];exact e,λb l=>.inl l⟩
theorem CellOk.to{μ ν:List Addr}{L L':Addr->Prop}{H H':Hp}{b:Addr}{c:Cell}(l:Let L H L' H')(kb:c≠.dead->H' b=H b)(r:CellOk ct μ L H b c):CellOk ct (μ++ν) L' H' b c:=by
 cases c with
 |lst xs =>
  obtain⟨vs,e,q⟩:=r;exact⟨vs,by rw[kb (λz=>nomatch z)];exact e,RVs.to l q⟩
 |obj c fs =>
  obtain⟨dx,gs,e,q1,q⟩:=r;exact⟨dx,gs,by rw[kb (λz=>nomatch z)];exact e,q1,RVs.to l q⟩
 |dic ks=>exact(kb (λz=>nomatch z)).trans r
 |tab ks=>exact(kb (λz=>nomatch z)).trans r
 |msk ks=>exact(kb (λz=>nomatch z)).trans r
 |code =>
  obtain⟨e,r⟩:=r;have kb:=kb (λz=>nomatch z);refine⟨e,r.elim (λr=>.inl (kb.trans r)) λ⟨c',n1,n2,r1,r2⟩=>.inr ⟨c',n1,l.liv _ _ r2 n2,kb.trans r1,l.keep _ _ r2 n2⟩⟩
 |dead=>trivial
theorem Rel.new(rel:Rel ct μ h H){p:Addr}(hp:H p=none)(o:HO):Rel ct μ h (upd H p o):=by
 refine⟨rel.len,rel.nd,λb hb=>?_,λi b c e1 e2=>?_⟩
 ·obtain⟨u,e⟩:=rel.has b hb;exact⟨u,by rw[qc (Zd e hp)];exact e⟩
 ·have:=CellOk.to (ν:=[]) (Ext.new rel hp o).let (b:=b) (λ_=>by
   obtain⟨u,e⟩:=rel.has b (Ui e1);exact qc (Zd e hp)) (rel.cells i b c e1 e2)
  simpa using this
theorem Liv.app{μ:List Addr}{h:MH}(hl:μ.length=h.length){p b:Addr}{c:Cell}(l:Liv (μ++[p]) (h++[c]) b):Liv μ h b\/b=p:=by
 obtain⟨i,d,e1,e2,nd⟩:=l;by_cases hi:i<μ.length
 ·rw[Ub hi] at e1;rw[Ub (by lia)] at e2;exact .inl ⟨i,d,e1,e2,nd⟩
 ·rw[wg (by lia)] at e1;have:i-μ.length=0:=by
   have:=(Xa.mp e1).1;simp at this;lia
  rw[this] at e1;simp at e1;exact .inr e1.symm
theorem Ext.cell(rel:Rel ct μ h H){p:Addr}(hp:H p=none)(c:Cell)(o:HO):Ext μ h H (μ++[p]) (h++[c]) (upd H p o) :=
 ⟨⟨[p],rfl⟩,λb u e _=>by rw[qc (Zd e hp)];exact e,λb l=>(Liv.app rel.len l).imp id λe=>by rw[e];exact hp⟩
theorem Rel.cell(rel:Rel ct μ h H){p:Addr}(hp:H p=none){c:Cell}{o:HO}(q:CellOk ct (μ++[p]) (Liv (μ++[p]) (h++[c])) (upd H p o) p c):Rel ct (μ++[p]) (h++[c]) (upd H p o):=by
 have hn:=rel.fresh hp;refine⟨by simp[rel.len],?_,λb hb=>?_,λi b d e1 e2=>?_⟩
 ·rw[Vp];exact⟨rel.nd,by simp,λa ha b hb e=>by simp at hb;subst hb;subst e;exact hn ha⟩
 ·rcases Uh.mp hb with hb|hb
  ·obtain⟨u,e⟩:=rel.has b hb;exact⟨u,by rw[qc (Zd e hp)];exact e⟩
  ·simp at hb;subst hb;exact⟨o,ye⟩
 ·by_cases hi:i<μ.length
  ·rw[Ub hi] at e1;rw[Ub (by have:=rel.len;lia)] at e2;exact CellOk.to (Ext.cell rel hp c o).let (λ_=>by
    obtain⟨u,e⟩:=rel.has b (Ui e1);exact qc (Zd e hp)) (rel.cells i b d e1 e2)
  ·rw[wg (by lia)] at e1;rw[wg (by have:=rel.len;lia)] at e2;have:i-μ.length=0:=by
    have:=(Xa.mp e1).1;simp at this;lia
   have h2:i-h.length=0:=by rw[<- rel.len];exact this
   rw[this] at e1;rw[h2] at e2;simp at e1 e2;subst e1;subst e2;exact q
theorem Liv.set{i:Nat}{c c':Cell}{b:Addr}(e:h[i]?=some c)(hc:c≠.dead)(l:Liv μ (h.set i c') b):Liv μ h b:=by
 obtain⟨j,d,e1,e2,nd⟩:=l;by_cases hj:i=j
 ·subst hj;exact⟨i,c,e1,e,hc⟩
 ·rw[Vf hj] at e2;exact⟨j,d,e1,e2,nd⟩
theorem Ext.set(rel:Rel ct μ h H){i:Nat}{b:Addr}{c:Cell}(e1:μ[i]?=some b)(e2:h[i]?=some c)(hc:c≠.dead)(c':Cell)(o:HO):Ext μ h H μ (h.set i c') (upd H b o) :=
 ⟨⟨[],by simp⟩,λd u e n=>by rw[qc (λ(z:d=b)=>n (by rw[z];exact⟨i,c,e1,e2,hc⟩))];exact e,λd l=>.inl (Liv.set e2 hc l)⟩
theorem Rel.set(rel:Rel ct μ h H){i:Nat}{b:Addr}{c:Cell}(e1:μ[i]?=some b)(e2:h[i]?=some c)(hc:c≠.dead){c':Cell}{o:HO}(q:CellOk ct μ (Liv μ (h.set i c')) (upd H b o) b c'):Rel ct μ (h.set i c') (upd H b o):=by
 refine⟨by simp[rel.len],rel.nd,λd hd=>?_,λj d u q1 q2=>?_⟩
 ·by_cases hdb:d=b
  ·exact⟨o,by rw[hdb];exact ye⟩
  ·obtain⟨u,e⟩:=rel.has d hd;exact⟨u,by rw[qc hdb];exact e⟩
 ·by_cases hj:i=j
  ·subst hj;rw[e1] at q1;cases q1;rw[Ug (Xa.mp e2).1] at q2;cases q2;exact q
  ·rw[Vf hj] at q2;have ne:d≠b:=λz=>by
    subst z;exact hj ((Xx (Xa.mp e1).1 rel.nd).mp (e1.trans q1.symm))
   have:=CellOk.to (ν:=[]) (Ext.set rel e1 e2 hc c' o).let (b:=d) (λ_=>qc ne) (rel.cells j d u q1 q2);simpa using this
end
end
section
variable {ct:Tx}
section
variable {μ:List Addr} {h:MH} {H:Hp}
theorem QaV{as:List Nat}{i:Nat}{c:Cell}(e:(kill as h)[i]?=some c):(i∈as/\c=.dead)\/(i∉as/\h[i]?=some c):=by
 unfold kill at e;rw[Uu] at e;cases q:h[i]? with
 |none=>rw[q] at e;cases e
 |some d =>
  rw[q] at e;by_cases hi:i∈as
  ·simp[hi] at e;exact .inl ⟨hi,e.symm⟩
  ·simp[hi] at e;subst e;exact .inr ⟨hi,rfl⟩
theorem Liv.kill{as:List Nat}{b:Addr}(l:Liv μ (kill as h) b):Liv μ h b:=by
 obtain⟨i,c,e1,e2,nd⟩:=l
 rcases QaV e2 with ⟨_,z⟩|⟨_,z⟩
 ·exact absurd z nd
 ·exact⟨i,c,e1,z,nd⟩
theorem Ext.kill(as:List Nat):Ext μ h H μ (kill as h) H:=⟨⟨[],by simp⟩,λ_ _ e _=>e,λb l=>.inl l.kill⟩
theorem Rel.kill(rel:Rel ct μ h H)(as:List Nat):Rel ct μ (kill as h) H:=by
 refine⟨by rw[rel.len];simp[MP.kill],rel.nd,rel.has,λi b c e1 e2=>?_⟩
 rcases QaV e2 with ⟨_,z⟩|⟨_,z⟩
 ·subst z;trivial
 ·have:=CellOk.to (ν:=[]) (Ext.kill (H:=H) as).let (b:=b) (λ_=>rfl) (rel.cells i b c e1 z);simpa using this
theorem QU{i:Nat}{xs:List MV}(e:yg h i=some xs):h[i]?=some (.lst xs):=by
 unfold yg at e;split at e
 next q=>cases e;exact q
 next=>cases e
theorem Rel.lst(rel:Rel ct μ h H){i:Nat}{xs:List MV}(e:yg h i=some xs):∃ b vs,μ[i]?=some b/\H b=some (.lst vs)/\RVs ct μ (Liv μ h) H xs vs:=by
 have e2:=QU e;have hi:i<μ.length:=by rw[rel.len];exact(Xa.mp e2).1
 obtain⟨vs,q1,q2⟩:=rel.cells i μ[i] (.lst xs) (by simp[hi]) e2;exact⟨_,vs,by simp[hi],q1,q2⟩
theorem zb6{as:List Nat}(rel:Rel ct μ h H){i:Nat}{b:Addr}(e:μ[i]?=some b)(hi:i∈as):¬ Liv μ (MP.kill as h) b:=λ⟨j,c,e1,e2,nd⟩=>by
 have:i=j:=(Xx (Xa.mp e).1 rel.nd).mp (e.trans e1.symm);subst this
 rcases QaV e2 with ⟨_,z⟩|⟨z,_⟩
 ·exact nd z
 ·exact z hi
theorem QaW{as:List Nat}{g:MV->Option FV}:∀{xs:List MV}{ys:List FV}{vs:List V},xs.mapM g=some ys->RVs ct μ (Liv μ h) H xs vs ->
  (∀ x∈xs,∀ y v,g x=some y->RV ct μ (Liv μ h) H x v->RF ct (Liv μ (MP.kill as h)) H y v)->RFs ct (Liv μ (MP.kill as h)) H ys vs
 |[],ys,vs,e,r,_=>by
  simp at e;subst e;simp only[RVs] at r;subst r;simp only[RFs]
 |x::xs,ys,vs,e,r,f=>by
  simp only[Wm,wr,ub,Option.pure_def,Option.some.injEq] at e;obtain⟨y,e1,zs,e2,rfl⟩:=e;simp only[RVs] at r;obtain⟨v,t,rfl,r1,r2⟩:=r;simp only[RFs];exact⟨v,t,rfl,f x (by simp) y v e1 r1,QaW e2 r2 λz hz=>f z (by simp[hz])⟩
theorem Zbf(rel:Rel ct μ h H){as:List Nat}:∀(n:Nat)(m:MV)(x:FV)(v:V),(∀ a∈QM h n m,a∈as)->qA h n m=some x->RV ct μ (Liv μ h) H m v->RF ct (Liv μ (MP.kill as h)) H x v
 |0,m,x,v,_,e,_=>by simp[qA] at e
 |n+1,.f y,x,v,_,e,r=>by
  simp[qA] at e;subst e;simp only[RV] at r;exact RF.to (Ext.kill (H:=H) as).let r
 |n+1,.tup xs,x,v,hs,e,r=>by
  simp only[qA,xc] at e;obtain⟨ys,e1,rfl⟩:=e;simp only[RV] at r;obtain⟨a,vs,rfl,na,rd,q⟩:=r;simp only[RF];refine⟨a,vs,rfl,λl=>na l.kill,rd,QaW e1 q λz hz y u ez ru=>Zbf rel n z y u (λa ha=>hs a ?_) ez ru⟩;simp only[QM,Vt];exact⟨z,hz,ha⟩
 |n+1,.ref i,x,v,hs,e,r=>by
  simp only[qA,ub,xc] at e;obtain⟨xs,e0,ys,e1,rfl⟩:=e;simp only[RV] at r;obtain⟨b,eb,rfl⟩:=r;obtain⟨b',vs,eb',hb,q⟩:=rel.lst e0;rw[eb] at eb';cases eb';simp only[RF];refine⟨b,vs,rfl,zb6 rel eb (hs i (by simp[QM])),.inl hb,QaW e1 q λz hz y u ez ru=>Zbf rel n z y u (λa ha=>hs a ?_) ez ru⟩;simp only[QM,e0,XD,vb,Vt];exact .inr ⟨z,hz,ha⟩
 |n+1,.exc _,x,v,_,e,_=>by simp[qA] at e
theorem Zcl{E:XK}{m:MV}{v:V}{k:MV->List Addr->MH->Hp->Prop}(rel:Rel ct μ h H)(r:RV ct μ (Liv μ h) H m v)(p:Po ct E (Qao m h) μ h H k) :
  ∃ x h',Ext μ h H μ h' H/\Rel ct μ h' H/\RV ct μ (Liv μ h') H (.f x) v/\k (.f x) μ h' H:=by
 unfold Qao at p;obtain⟨x,e,p⟩:=p.opt;refine⟨x,_,Ext.kill _,rel.kill _,?_,p.now' (Ext.kill _) (rel.kill _)⟩;simp only[RV];exact Zbf rel 5 m x v (λa ha=>ha) e r
end
mutual
noncomputable def Bel(n:Nat):MV->Prop
 |.ref i=>i<n
 |.tup xs=>Bels n xs
 |_=>True
noncomputable def Bels(n:Nat):List MV->Prop
 |[]=>True
 |x::xs=>Bel n x/\Bels n xs
end
mutual
theorem RV.bel{μ:List Addr}{L:Addr->Prop}{H:Hp}:∀{m:MV}{v:V},RV ct μ L H m v->Bel μ.length m
 |.f _,_,_=>by simp only[Bel]
 |.ref i,v,r=>by
  simp only[RV] at r;obtain⟨b,e,_⟩:=r;simp only[Bel];exact(Xa.mp e).1
 |.tup xs,v,r=>by
  simp only[RV] at r;obtain⟨a,vs,_,_,_,q⟩:=r;simp only[Bel];exact RVs.bel q
 |.exc _,_,_=>by simp only[Bel]
theorem RVs.bel{μ:List Addr}{L:Addr->Prop}{H:Hp}:∀{xs:List MV}{vs:List V},RVs ct μ L H xs vs->Bels μ.length xs
 |[],_,_=>by simp only[Bels]
 |x::xs,vs,r=>by
  simp only[RVs] at r;obtain⟨v,t,_,r1,r2⟩:=r;simp only[Bels];exact⟨RV.bel r1,RVs.bel r2⟩
end
mutual
theorem RV.cut{μ ν:List Addr}{L L':Addr->Prop}{H:Hp}(l:∀ b,L' b->L b):∀{m:MV}{v:V},Bel μ.length m->RV ct (μ++ν) L H m v->RV ct μ L' H m v
 |.f x,v,_,r=>by simp only[RV] at r ⊢;exact RF.to ⟨λ_ _ e _=>e,λb _ _ n z=>n (l b z)⟩ r
 |.ref i,v,b,r=>by
  simp only[RV] at r ⊢;simp only[Bel] at b;obtain⟨c,e,q⟩:=r;rw[Ub b] at e;exact⟨c,e,q⟩
 |.tup xs,v,b,r=>by
  simp only[RV] at r ⊢;simp only[Bel] at b;obtain⟨a,vs,e,n,rd,q⟩:=r;exact⟨a,vs,e,λz=>n (l a z),rd,RVs.cut l b q⟩
 |.exc _,v,_,r=>by
  simp only[RV] at r ⊢;obtain⟨a,e,n,q⟩:=r;exact⟨a,e,λz=>n (l a z),q⟩
theorem RVs.cut{μ ν:List Addr}{L L':Addr->Prop}{H:Hp}(l:∀ b,L' b->L b):∀{xs:List MV}{vs:List V},Bels μ.length xs->RVs ct (μ++ν) L H xs vs->RVs ct μ L' H xs vs
 |[],vs,_,r=>by simpa only[RVs] using r
 |x::xs,vs,b,r=>by
  simp only[RVs] at r ⊢;simp only[Bels] at b;obtain⟨v,t,e,r1,r2⟩:=r;exact⟨v,t,e,RV.cut l b.1 r1,RVs.cut l b.2 r2⟩
end
theorem Bels.flat(n:Nat):∀ ys:List FV,Bels n (ys.map MV.f)
 |[]=>by simp only[Vx,Bels]
 |y::ys=>by simp only[Xd,Bels,Bel];exact⟨trivial,Bels.flat n ys⟩
noncomputable def zbe(n:Nat):Cell->Prop
 |.lst xs=>Bels n xs
 |.obj _ fs=>Bels n (fs.map vk)
 |.dic _=>True
 |.tab _=>True
 |.msk _=>True
 |.code=>True
 |.dead=>True
theorem CellOk.bel{μ:List Addr}{L:Addr->Prop}{H:Hp}{b:Addr}{c:Cell}(r:CellOk ct μ L H b c):zbe μ.length c:=by
 cases c with
 |lst xs=>obtain⟨vs,_,q⟩:=r;exact q.bel
 |obj c fs=>obtain⟨dx,gs,_,_,q⟩:=r;exact q.bel
 |dic ks=>trivial
 |tab ks=>trivial
 |msk ks=>trivial
 |code=>trivial
 |dead=>trivial
theorem FlatC.bel{n:Nat}{c:Cell}(r:FlatC c):zbe n c:=by
 cases c with
 |lst xs=>obtain⟨ys,rfl⟩:=r;exact Bels.flat n ys
 |obj c fs =>
  obtain⟨ys,rfl⟩:=r;show Bels n _;rw[ug];have:=Bels.flat n (ys.map vk);rw[ug] at this;exact this
 |dic ks=>trivial
 |tab ks=>trivial
 |msk ks=>trivial
 |code=>trivial
 |dead=>trivial
theorem CellOk.cut{μ ν:List Addr}{L L':Addr->Prop}{H:Hp}{b:Addr}{c:Cell}(l:∀ b,L' b->L b)(k:zbe μ.length c)(r:CellOk ct (μ++ν) L H b c):CellOk ct μ L' H b c:=by
 cases c with
 |lst xs=>obtain⟨vs,e,q⟩:=r;exact⟨vs,e,RVs.cut l k q⟩
 |obj c fs=>obtain⟨dx,gs,e,q1,q⟩:=r;exact⟨dx,gs,e,q1,RVs.cut l k q⟩
 |dic ks=>exact r
 |tab ks=>exact r
 |msk ks=>exact r
 |code=>exact⟨r.1,r.2.imp id λ⟨c',n1,n2,r⟩=>⟨c',n1,λz=>n2 (l _ z),r⟩⟩
 |dead=>trivial
theorem zbM:∀{xs:List MV}{ys:List FV},Qx xs=some ys->xs=ys.map MV.f
 |[],ys,e=>by simp[Qx] at e;subst e;rfl
 |.f x::xs,ys,e=>by
  simp only[Qx,xc] at e;obtain⟨zs,e1,rfl⟩:=e;rw[zbM e1];rfl
 |.ref _::_,_,e=>by simp[Qx] at e
 |.tup _::_,_,e=>by simp[Qx] at e
 |.exc _::_,_,e=>by simp[Qx] at e
section
variable {μ ν:List Addr} {h h':MH} {H H':Hp}
theorem Liv.cut(hl:μ.length=h.length){b:Addr}(l:Liv μ (h'.take h.length) b):Liv (μ++ν) h' b:=by
 obtain⟨i,c,e1,e2,nd⟩:=l;have hi:i<μ.length:=(Xa.mp e1).1;rw[wo (by lia)] at e2;exact⟨i,c,by rw[Ub hi];exact e1,e2,nd⟩
theorem Ext.cut(hl:μ.length=h.length)(e:Ext μ h H (μ++ν) h' H'):Ext μ h H μ (h'.take h.length) H':=⟨⟨[],by simp⟩,e.keep,λb l=>e.liv b (Liv.cut hl l)⟩
theorem Rel.cut(rel:Rel ct μ h H)(t:TrOk h h')(rel':Rel ct (μ++ν) h' H'):Rel ct μ (h'.take h.length) H':=by
 refine⟨by rw[rel.len,Vl];have:=t.1;lia,(Vp.mp rel'.nd).1,λb hb=>rel'.has b (ue _ hb),λi b c e1 e2=>?_⟩;have hi:i<μ.length:=(Xa.mp e1).1;have hi':i<h.length:=by rw[<- rel.len];exact hi
 rw[wo hi'] at e2;refine CellOk.cut (λb l=>Liv.cut rel.len l) ?_ (rel'.cells i b c (by rw[Ub hi];exact e1) e2)
 rcases t.2 i c hi' e2 with q|q
 ·exact(rel.cells i b c e1 q).bel
 ·exact FlatC.bel q
theorem ybt{E:XK}{m:MV}{v:V}{Q:VK}(rel:Rel ct μ h H)(e:Ext μ h H (μ++ν) h' H')(rel':Rel ct (μ++ν) h' H')(r:RV ct (μ++ν) (Liv (μ++ν) h') H' m v)(p:Po ct E (Yu h m h') μ h H (kV ct Q)):Q v H':=by
 unfold Yu at p;split at p
 next t =>
  cases m with
  |f x =>
   refine p μ H' (Ext.cut rel.len e) (rel.cut t rel') v ?_;exact RV.cut (λb l=>Liv.cut rel.len l) (by simp only[Bel]) r
  |ref a =>
   dsimp only at p;split at p
   next ha =>
    split at p
    next xs ex =>
     split at p
     next ys ey =>
      simp only[RV] at r;obtain⟨b,eb,rfl⟩:=r;obtain⟨b',vs,eb',hb,q⟩:=rel'.lst ex;rw[eb] at eb';cases eb';have rc:=rel.cut t rel';have ec:=Ext.cut rel.len e;have nb:b∉μ:=λz=>by
       obtain⟨j,hj,ej⟩:=WA z;have:j=a:=(Xx (by simp;lia) rel'.nd).mp (by rw[Ub hj,eb];simp[hj,ej]);have:=rel.len
       lia
      have lv:∀ d,Liv (μ++[b]) (h'.take h.length++[.lst xs]) d->Liv (μ++ν) h' d:=λd l=>by
       rcases Liv.app (by rw[rc.len]) l with l|l
       ·exact Liv.cut rel.len l
       ·subst l;exact⟨a,.lst xs,eb,QU ex,λz=>nomatch z⟩
      have fl:RFs ct (Liv (μ++ν) h') H' ys vs:=RVs.toF ey q;have xs':xs=ys.map MV.f:=zbM ey;refine p (μ++[b]) H' ⟨⟨[b],rfl⟩,e.keep,λd l=>e.liv d (lv d l)⟩ ?_ (.ref b) ?_
      ·refine⟨by simp[rc.len],?_,λd hd=>?_,λi d c e1 e2=>?_⟩
       ·rw[Vp];exact⟨rc.nd,by simp,λx hx y hy z=>by simp at hy;subst hy;subst z;exact nb hx⟩
       ·rcases Uh.mp hd with hd|hd
        ·exact rc.has d hd
        ·simp at hd;subst hd;exact⟨_,hb⟩
       ·by_cases hi:i<μ.length
        ·rw[Ub hi] at e1;rw[Ub (by rw[<- rc.len];exact hi)] at e2;have c0:=rc.cells i d c e1 e2;have hi':i<h.length:=by rw[<- rel.len];exact hi
         have e2':=e2;rw[wo hi'] at e2';have c1:=rel'.cells i d c (by rw[Ub hi];exact e1) e2';exact CellOk.to (ν:=[b]) (L:=Liv (μ++[b]) (h'.take h.length++[.lst xs])) ⟨λ_ _ e _=>e,λ_ _ _ n=>n⟩ (λ_=>rfl) (CellOk.cut lv c0.bel c1)
        ·rw[wg (by lia)] at e1;rw[wg (by rw[<- rc.len];lia)] at e2;have z:i-μ.length=0:=by
          have:=(Xa.mp e1).1;simp at this;lia
         have z2:i-(h'.take h.length).length=0:=by rw[<- rc.len];exact z
         rw[z] at e1;rw[z2] at e2;simp at e1 e2;subst e1;subst e2;refine⟨vs,hb,?_⟩;rw[xs'];rw[xs'] at lv;exact RVs.ofF (RFs.to ⟨λ_ _ e _=>e,λd _ _ n l=>n (lv d l)⟩ fl)
      ·simp only[RV];exact⟨b,by rw[<- rel.len];simp,rfl⟩
     next=>exact p (μ++ν) H' e rel' v r
    next=>exact p (μ++ν) H' e rel' v r
   next=>exact p (μ++ν) H' e rel' v r
  |tup xs=>exact p (μ++ν) H' e rel' v r
  |exc c=>exact p (μ++ν) H' e rel' v r
 next=>exact p (μ++ν) H' e rel' v r
theorem ZbR{E:XK}{c:String}{k:MV->List Addr->MH->Hp->Prop}(rel:Rel ct μ h H)(e:Ext μ h H (μ++ν) h' H')(rel':Rel ct (μ++ν) h' H')(p:Po ct E (QG h c h') μ h H k):E (.ref (ct c)) none H':=by
 unfold QG at p;split at p
 next t=>exact p μ H' (Ext.cut rel.len e) (rel.cut t rel')
 next=>exact p (μ++ν) H' e rel'
end
end
section
variable {ct:Tx} {X:Cx} {E:XK}
section
variable {μ:List Addr} {h:MH} {L:Addr->Prop} {H:Hp} {m:MV} {v:V}
theorem qu{i:Int}(e:Ze m=some i):m=.f (.int i):=by
 unfold Ze at e;split at e
 next=>cases e;rfl
 next=>cases e
theorem ZaP{i:Bool}(e:qL m=some i):m=.f (.bl i):=by
 unfold qL at e;split at e
 next=>cases e;rfl
 next=>cases e
theorem yC{i:Int}(r:RV ct μ L H (.f (.int i)) v):v=.int i:=by simpa only[RV,RF] using r
theorem Zbb{i:Bool}(r:RV ct μ L H (.f (.bl i)) v):v=.bl i:=by simpa only[RV,RF] using r
theorem zaD(i:Int):RV ct μ L H (.f (.int i)) (.int i):=by simp only[RV,RF]
theorem yR(i:Bool):RV ct μ L H (.f (.bl i)) (.bl i):=by simp only[RV,RF]
theorem yan(i:Str):RV ct μ L H (.f (.str i)) (.str i):=by simp only[RV,RF]
theorem Ya0:RV ct μ L H (.f .non) .non:=by simp only[RV,RF]
theorem zt{xs:List MV}(rel:Rel ct μ h H)(e:MP.listOf h m=some xs)(r:RV ct μ (Liv μ h) H m v):∃ a vs,v=.ref a/\Rd H a (.lst vs)/\RVs ct μ (Liv μ h) H xs vs:=by
 unfold MP.listOf at e;split at e
 next ys =>
  cases e;simp only[RV,RF] at r;obtain⟨a,vs,e1,_,rd,q⟩:=r;exact⟨a,vs,e1,rd,RVs.ofF q⟩
 next i =>
  obtain⟨b,vs,e1,e2,q⟩:=rel.lst e;simp only[RV] at r;obtain⟨b',e3,rfl⟩:=r;rw[e1] at e3;cases e3;exact⟨b,vs,rfl,.inl e2,q⟩
 next=>cases e
theorem ZF{xs:List MV}(e:Qt m=some xs)(r:RV ct μ L H m v):∃ a vs,v=.ref a/\¬ L a/\H a=some (.tup vs)/\RVs ct μ L H xs vs:=by
 unfold Qt at e;split at e
 next ys =>
  cases e;simp only[RV,RF] at r;obtain⟨a,vs,e1,n,rd,q⟩:=r;exact⟨a,vs,e1,n,rd,RVs.ofF q⟩
 next ys =>
  cases e;simp only[RV] at r;exact r
 next=>cases e
theorem qD{xs:List MV}(e:yd h m=some xs):Qt m=some xs\/MP.listOf h m=some xs\/∃ ns,m=.f (.scr ns)/\xs=ns.map λi=>MV.f (.int i):=by
 unfold yd at e;split at e
 next=>exact .inl e
 next=>exact .inr (.inl e)
 next ns=>cases e;exact .inr (.inr ⟨ns,rfl,rfl⟩)
 next=>exact .inl e
 next=>exact .inr (.inl e)
 next=>cases e
noncomputable def SqR(ct:Tx)(H:Hp)(b:Bool)(a:Addr)(vs:List V):Prop:=SqS ct.K H b a vs
theorem SqR.s{K:PySem.W.Frag}{b:Bool}{a:Addr}{vs:List V}(hK:K=ct.K)(q:SqR ct H b a vs):SqS K H b a vs:=by rw[hK];exact q
theorem Yas{L:Addr->Prop}:∀ ns:List Int,RVs ct μ L H (ns.map λi=>MV.f (.int i)) (ns.map V.int)
 |[]=>by simp only[Vx,RVs]
 |i::ns=>by
  simp only[Xd,RVs];exact⟨.int i,_,rfl,zaD i,Yas ns⟩
theorem Zbl{L:Addr->Prop}{a:Addr}{ns:List Int}(q:(¬ L a/\∃ o,H a=some (.frz o (.lst (ns.map V.int))))\/ScrK ct.K a ns):SqL ct.K H a (ns.map V.int):=q.elim (λ⟨_,o,e⟩=>.inl (.inr ⟨o,e⟩)) .inr
theorem Q7{xs:List MV}(rel:Rel ct μ h H)(e:yd h m=some xs)(r:RV ct μ (Liv μ h) H m v):∃ b a vs,v=.ref a/\SqR ct H b a vs/\RVs ct μ (Liv μ h) H xs vs:=by
 rcases qD e with e|e|⟨ns,rfl,rfl⟩
 ·obtain⟨a,vs,q1,_,q2,q3⟩:=ZF e r;exact⟨true,a,vs,q1,SqT.of q2,q3⟩
 ·obtain⟨a,vs,q1,q2,q3⟩:=zt rel e r;exact⟨false,a,vs,q1,.inl q2,q3⟩
 ·simp only[RV,RF] at r;obtain⟨a,rfl,q⟩:=r;exact⟨false,a,_,rfl,Zbl q,Yas ns⟩
theorem zaP(rel:Rel ct μ h H){p:Addr}(hp:H p=none):¬ Liv μ h p:=λl=>by obtain⟨o,e⟩:=Liv.has rel l;rw[hp] at e;cases e
theorem yJ{fz:Bool}{xs:List MV}{vs:List V}{Q:VK}(rel:Rel ct μ h H)(r:RVs ct μ (Liv μ h) H xs vs)(p:Po ct E (Yx fz xs h) μ h H (kV ct Q)):∀ a,H a=none->Q (.ref a) (upd H a (.lst vs)):=by
 intro a ha;cases fz with
 |true =>
  obtain⟨ys,e,p⟩:=Po.opt (o:=Qx xs) (g:=λys=>R.ok (MV.f (.lst ys)) h) p;refine p μ _ (Ext.new rel ha _) (rel.new ha _) _ ?_;simp only[RV,RF];exact⟨a,vs,rfl,zaP rel ha,.inl ye,RFs.to (Ext.new rel ha _).let (RVs.toF e r)⟩
 |false =>
  refine p (μ++[a]) _ (Ext.cell rel ha _ _) (rel.cell ha ?_) _ ?_
  ·exact⟨vs,ye,RVs.to (Ext.cell rel ha _ _).let r⟩
  ·simp only[RV];exact⟨a,by rw[<- rel.len];simp,rfl⟩
theorem yZ{xs:List MV}{vs:List V}{a:Addr}(n:¬ L a)(rd:H a=some (.tup vs))(r:RVs ct μ L H xs vs):RV ct μ L H (qp xs) (.ref a):=by
 unfold qp;split
 next ys e =>
  simp only[RV,RF];exact⟨a,vs,rfl,n,rd,RVs.toF e r⟩
 next =>
  simp only[RV];exact⟨a,vs,rfl,n,rd,r⟩
theorem Yat{xs:List MV}{vs:List V}{Q:VK}(rel:Rel ct μ h H)(r:RVs ct μ (Liv μ h) H xs vs)(p:Po ct E (.ok (qp xs) h) μ h H (kV ct Q)):∀ a,H a=none->Q (.ref a) (upd H a (.tup vs)):=by
 intro a ha;refine p μ _ (Ext.new rel ha _) (rel.new ha _) _ (yZ (zaP rel ha) ye ?_);have:=RVs.to (ν:=[]) (Ext.new rel ha (.tup vs)).let r;simpa using this
end
noncomputable def r2(ct:Tx)(E:XK)(g:MV->MV->MH->R MV):R2:=λx y H Q=>∃ μ h mx my,Rel ct μ h H/\RV ct μ (Liv μ h) H mx x/\RV ct μ (Liv μ h) H my y/\Po ct E (g mx my h) μ h H (kV ct Q)
theorem Qbw{i:Int}(h:i.natAbs<MP.big):Builtin.Int.intBits i<=2^20:=by
 refine intBits_le_iff.mpr (wc h ?_);exact Vk (by decide) (by decide)
theorem qcA:OpR X (binaryOp .Mult) (rI ZaJ λi j=>.int (i*j)):=opI λi j _ _ _ _ _ hc q=>by
 refine mul_int q ?_
 rcases hc with c|c|⟨c,d⟩
 ·exact .of_left (intBits_le_64 (by lia) (by lia))
 ·exact .of_right (intBits_le_64 (by lia) (by lia))
 ·exact .of_bits (Qbw c) (Qbw d)
theorem Yce:OpR X (binaryOp .FloorDiv) (rI qb5 λi j=>.int (i/j)):=opI λi j _ _ _ _ _ hc q=>by
 have h1:(0:Int)<j:=hc.1;refine floordiv_int (by lia) (by rw[Uw i (by lia)];exact q) (.inl (PyProof.noPylong_of_log2 ?_));have:j.natAbs≠0:=by lia
 rcases hc.2 with c|c
 ·have:j.natAbs.log2<30:=(Nat.log2_lt (by lia)).mpr (by lia)
  lia
 ·have:j.natAbs.log2<4096:=(Nat.log2_lt (by lia)).mpr c
  lia
noncomputable def rCatR:R2:=λx y H Q=>∃ l b xs zs,x=.ref l/\y=.ref b/\Rd H l (.lst xs)/\Rd H b (.lst zs)/\xs.length+zs.length<=sizeLine/\∀ p,H p=none->Q (.ref p) (upd H p (.lst (xs++zs)))
theorem zcr:OpR X (binaryOp .Add) rCatR:=by
 intro pins s σ H x y v u Q I rx ry h;obtain⟨l,b,xs,zs,rfl,rfl,hH,hB,hz,q⟩:=h;cases rx;cases ry;obtain⟨z,its,n,r,e⟩:=hH.ok I.hok;obtain⟨z2,its2,n2,r2,e2⟩:=hB.ok I.hok;have hl:=r.length;have hl2:=r2.length;refine PySem.P.add_list e e2 ?_ (by rw[ua,ua];lia);have ea:its.toArray++its2.toArray=(its++its2).toArray:=by simp
 rw[ea];exact⟨.ref _,_,I.lnew (t':=s.toks) (r.append r2) (by rw[Vg];lia),rfl,q _ I.fresh⟩
end
theorem qR:MP.sizeL<=sizeLine:=by decide
section
variable {ct:Tx} {X:Cx} {E:XK}
noncomputable def mOp:BO->Operator
 |.add=>.Add | .sub=>.Sub | .mul=>.Mult | .fdiv=>.FloorDiv | .mod=>.Mod | .pow=>.Pow
theorem OpR.imp{f:Value->Value->Sem Value}{r r':R2}(o:OpR X f r)(k:∀ x y H Q,r' x y H Q->r x y H Q):OpR X f r':=λpins s σ H x y v u Q I rx ry q=>o pins s σ H x y v u Q I rx ry (k _ _ _ _ q)
theorem OpR.ors{f:Value->Value->Sem Value}{r r':R2}(o:OpR X f r)(o':OpR X f r'):OpR X f λx y H Q=>r x y H Q\/r' x y H Q:=λpins s σ H x y v u Q I rx ry q=>q.elim (o pins s σ H x y v u Q I rx ry) (o' pins s σ H x y v u Q I rx ry)
theorem Zad{fz:Bool}{op:BO}{x y:V}{H:Hp}{Q:VK}(q:r2 ct E (Qi fz op) x y H Q):(∃ i j k,x=.int i/\y=.int j/\yW op i j=some k/\Q (.int k) H) \/
  ∃ μ h mx my,Ze mx=none/\Rel ct μ h H/\RV ct μ (Liv μ h) H mx x/\RV ct μ (Liv μ h) H my y/\Po ct E (Qi fz op mx my h) μ h H (kV ct Q):=by
 obtain⟨μ,h,mx,my,rel,rx,ry,p⟩:=q;cases ex:Ze mx with
 |none=>exact .inr ⟨μ,h,mx,my,ex,rel,rx,ry,p⟩
 |some i =>
  have:=qu ex;subst this;cases ey:Ze my with
  |none =>
   unfold Qi at p;rw[ex,ey] at p;exact p.elim
  |some j =>
   have:=qu ey;subst this;unfold Qi at p;rw[ex,ey] at p;obtain⟨k,e,p⟩:=Po.opt p;refine .inl ⟨i,j,k,yC rx,yC ry,e,?_⟩;exact p.now rel _ (zaD k)
theorem ycZ(fz:Bool):OpR X (binaryOp .Sub) (r2 ct E (Qi fz .sub)):=OpR.imp qcL λx y H Q q=>by
 rcases Zad q with ⟨i,j,k,e1,e2,e3,q⟩|⟨μ,h,mx,my,ex,rel,rx,ry,p⟩
 ·cases e3;exact⟨i,j,e1,e2,q⟩
 ·exfalso;unfold Qi at p;rw[ex] at p;cases ey:Ze my <;> rw[ey] at p <;> exact p.elim
theorem ycq(fz:Bool):OpR X (binaryOp .FloorDiv) (r2 ct E (Qi fz .fdiv)):=OpR.imp Yce λx y H Q q=>by
 rcases Zad q with ⟨i,j,k,e1,e2,e3,q⟩|⟨μ,h,mx,my,ex,rel,rx,ry,p⟩
 ·simp only[yW] at e3;split at e3
  next c=>cases e3;exact⟨i,j,e1,e2,c,q⟩
  next=>cases e3
 ·exfalso;unfold Qi at p;rw[ex] at p;cases ey:Ze my <;> rw[ey] at p <;> exact p.elim
theorem Qc1(fz:Bool):OpR X (binaryOp .Mod) (r2 ct E (Qi fz .mod)):=OpR.imp qcX λx y H Q q=>by
 rcases Zad q with ⟨i,j,k,e1,e2,e3,q⟩|⟨μ,h,mx,my,ex,rel,rx,ry,p⟩
 ·simp only[yW] at e3;split at e3
  next c=>cases e3;exact⟨i,j,e1,e2,c,q⟩
  next=>cases e3
 ·exfalso;unfold Qi at p;rw[ex] at p;cases ey:Ze my <;> rw[ey] at p <;> exact p.elim
theorem qcQ(fz:Bool):OpR X (binaryOp .Pow) (r2 ct E (Qi fz .pow)):=OpR.imp ycP λx y H Q q=>by
 rcases Zad q with ⟨i,j,k,e1,e2,e3,q⟩|⟨μ,h,mx,my,ex,rel,rx,ry,p⟩
 ·simp only[yW] at e3;split at e3
  next c=>cases e3;exact⟨i,j,e1,e2,⟨c.1,c.2.1,c.2.2⟩,q⟩
  next=>cases e3
 ·exfalso;unfold Qi at p;rw[ex] at p;cases ey:Ze my <;> rw[ey] at p <;> exact p.elim
noncomputable def rRepR:R2:=λx y H Q=>∃ l k xs,x=.ref l/\y=.int k/\Rd H l (.lst xs)/\-(2^63)<=k/\k<2^63/\xs.length*k.toNat<=sizeLine/\∀ p,H p=none->Q (.ref p) (upd H p (.lst (we k.toNat xs).flatten))
theorem Qcq:OpR X (binaryOp .Mult) rRepR:=by
 intro pins s σ H x y v u Q I rx ry h;obtain⟨l,k,xs,rfl,rfl,hH,h1,h2,hz,q⟩:=h;cases rx;obtain⟨t,rfl⟩:=ry;obtain⟨z,its,n,r,e⟩:=hH.ok I.hok;have hl:=r.length;have hlen:its.toArray.size*k.toNat<=sizeLine:=by rw[ua,<- hl];exact hz
 have hcap:¬ its.toArray.size*k.toNat>(2^63-1)/8:=by
  have:(sizeLine:Nat)<=(2^63-1)/8:=by decide
  lia
 have hfit:¬(!Builtin.List.listFitsIndex k)=true:=by
  rw[fitsIndex_both h1 h2];exact Vc
 have hlong:¬ Builtin.List.listTooLong (its.toArray.size*k.toNat)=true:=by
  rw[YaS hlen];exact Vc
 have hnew:UD (λx1 x2=>x1++x2) #[] (we (if its.toArray.isEmpty=true then 0 else k.toNat) its.toArray)=(we k.toNat its).flatten.toArray:=by
  have f0:∀ m:Nat,UD (λx1 x2=>x1++x2) #[] (we m its.toArray)=(we m its).flatten.toArray:=λm=>by
   have:=zbb its m [];rw[Wg] at this;exact this
  rw[f0];cases its with
  |nil=>simp
  |cons a r'=>rw[if_neg (by simp)]
 refine wpAny_binaryOp_repeat_ref (T:="list") (U:="int") (by decide) ⟨_,e,rfl⟩ (λs'=>typeIs_int s' k t) noFill_list_mul F.fills_int_mul F.slot_int_rmul repeat_list F.slot_int_index.lookup
  (call_meets F.slot_int_rmul (typeIs_int s k t) F.entry_int_rmul (F.args_int_rmul_2 _ _) (int___rmul___int_list k t l its.toArray n)
   ⟨e,rfl,⟨_,e,rfl⟩,call_meets F.slot_list_mul ⟨_,e,rfl⟩ F.entry_list_mul (F.args_list_mul_2 _ _) (AutoListH.list___mul___list_int_3 l its.toArray n k t hfit hcap hlong) ⟨e,?_⟩⟩)
 rw[hnew];exact⟨.ref _,_,I.lnew (t':=s.toks) (r.rep k.toNat) (by rw[ZcA,Ws];exact hz),rfl,q _ I.fresh⟩
theorem RVs.rep{μ:List Addr}{L:Addr->Prop}{H:Hp}{xs:List MV}{vs:List V}(r:RVs ct μ L H xs vs):∀ n:Nat,RVs ct μ L H (we n xs).flatten (we n vs).flatten
 |0=>by simpa using RVs.nil
 |n+1=>by simp only[Ul,Xp];exact r.append (RVs.rep r n)
theorem ycM(fz:Bool):OpR X (binaryOp .Mult) (r2 ct E (Qi fz .mul)):=OpR.imp (OpR.ors qcA Qcq) λx y H Q q=>by
 rcases Zad q with ⟨i,j,k,e1,e2,e3,q⟩|⟨μ,h,mx,my,ex,rel,rx,ry,p⟩
 ·simp only[yW] at e3;split at e3
  next c=>cases e3;exact .inl ⟨i,j,e1,e2,c,q⟩
  next=>cases e3
 ·unfold Qi at p;rw[ex] at p;cases ey:Ze my with
  |none=>rw[ey] at p;exact p.elim
  |some j =>
   rw[ey] at p;have:=qu ey;subst this;obtain⟨xs,e,p⟩:=Po.opt p;obtain⟨a,vs,rfl,rd,rs⟩:=zt rel e rx;split at p
   next c =>
    have hl:=rs.length
    right
    refine⟨a,j,vs,rfl,yC ry,rd,c.1,c.2.1,?_,yJ rel (rs.rep _) p⟩;rw[hl];exact Ve c.2.2 qR
   next=>exact p.elim
theorem zcZ(fz:Bool):OpR X (binaryOp .Add) (r2 ct E (Qi fz .add)):=OpR.imp (OpR.ors qcS (OpR.ors Ycw zcr)) λx y H Q q=>by
 rcases Zad q with ⟨i,j,k,e1,e2,e3,q⟩|⟨μ,h,mx,my,ex,rel,rx,ry,p⟩
 ·cases e3;exact .inl ⟨i,j,e1,e2,q⟩
 ·unfold Qi at p;rw[ex] at p;cases ey:Ze my with
  |some j=>rw[ey] at p;exact p.elim
  |none =>
   rw[ey] at p;dsimp only at p
   right
   split at p
   next xs ys e1 e2 =>
    split at p
    next c =>
     obtain⟨a,vs,rfl,n1,rd1,r1⟩:=ZF e1 rx;obtain⟨b,ws,rfl,n2,rd2,r2⟩:=ZF e2 ry;have h1:=r1.length;have h2:=r2.length;refine .inl ⟨a,b,vs,ws,rfl,rfl,.inl (.inl rd1),.inl (.inl rd2),λz=>c.1 (Vo (by rw[<- h1,z];rfl)),by rw[h1,h2];exact Ve c.2 qR,λz=>?_,λz=>Yat rel (r1.append r2) p⟩;have:ys=[]:=Vo (by rw[<- h2,z];rfl);subst this;rw[Xi] at p;exact p.now rel _ (yZ n1 rd1 r1)
    next=>exact p.elim
   next =>
    obtain⟨xs,e1,p⟩:=Po.opt p;obtain⟨ys,e2,p⟩:=Po.opt p;split at p
    next c =>
     obtain⟨a,vs,rfl,rd1,r1⟩:=zt rel e1 rx;obtain⟨b,ws,rfl,rd2,r2⟩:=zt rel e2 ry;have h1:=r1.length;have h2:=r2.length;exact .inr ⟨a,b,vs,ws,rfl,rfl,rd1,rd2,by rw[h1,h2];exact Ve c qR,yJ rel (r1.append r2) p⟩
    next=>exact p.elim
theorem Zc1(fz:Bool):∀ op:BO,OpR X (binaryOp (mOp op)) (r2 ct E (Qi fz op))
 |.add=>zcZ fz | .sub=>ycZ fz | .mul=>ycM fz | .fdiv=>ycq fz | .mod=>Qc1 fz | .pow=>qcQ fz
end
mutual
noncomputable def toP:FV->PyData
 |.non=>.none
 |.bl b=>.bool b
 |.int i=>.int i
 |.str s=>.str s
 |.tup xs=>.tuple (ZA xs)
 |.lst xs=>.list (ZA xs)
 |.obj _ _ _=>.none
 |.scr _=>.none
 |.tab _=>.none
 |.msk _=>.none
noncomputable def ZA:List FV->List PyData
 |[]=>[]
 |x::xs=>toP x::ZA xs
end
theorem zbs:∀ xs:List FV,ZA xs=xs.map toP
 |[]=>by simp[ZA]
 |x::xs=>by simp[ZA,zbs xs]
section
variable {ct:Tx} {X:Cx} {E:XK}
theorem QaO{n:Nat}:∀ xs:List FV,(∀ x∈xs,(toP x).canLay0=true/\(toP x).depth<=n)->PyData.canLayAll0 (ZA xs)=true/\PyData.depthAll (ZA xs)<=n
 |[],_=>by simp[ZA,PyData.canLayAll0,PyData.depthAll]
 |x::xs,f=>by
  have h1:=f x (by simp);have h2:=QaO xs λy hy=>f y (by simp[hy]);simp only[ZA,PyData.canLayAll0,PyData.depthAll,h1.1,h2.1,Bool.and_self,true_and];have a1:=h1.2;have a2:=h2.2
  lia
theorem QaY:∀(n:Nat)(x:FV),isD n x=true->(toP x).canLay0=true/\(toP x).depth<=n
 |0,x,e=>by cases x <;> simp[isD] at e
 |n+1,.non,_=>by simp[toP,PyData.canLay0,PyData.depth]
 |n+1,.bl _,_=>by simp[toP,PyData.canLay0,PyData.depth]
 |n+1,.int _,_=>by simp[toP,PyData.canLay0,PyData.depth]
 |n+1,.str s,e=>by
  have e':PyData.strOk s=true:=e;simp[toP,PyData.canLay0,PyData.depth,e']
 |n+1,.tup xs,e=>by
  have q:=QaO (n:=n) xs λx hx=>QaY n x (by simp[isD] at e;exact e x hx);have q2:=q.2;simp only[toP,PyData.canLay0,PyData.depth,q.1,true_and]
  lia
 |n+1,.lst xs,e=>by
  have q:=QaO (n:=n) xs λx hx=>QaY n x (by simp[isD] at e;exact e x hx);have q2:=q.2;simp only[toP,PyData.canLay0,PyData.depth,q.1,true_and]
  lia
 |n+1,.obj _ _ _,e=>by simp[isD] at e
 |n+1,.scr _,e=>by simp[isD] at e
 |n+1,.tab _,e=>by simp[isD] at e
 |n+1,.msk _,e=>by simp[isD] at e
theorem qac{x:FV}(e:isD 8 x=true):SeqAt.shaped (toP x)=true:=by
 have:=QaY 8 x e;unfold SeqAt.shaped;rw[this.1,vz];exact decide_eq_true (by have:=this.2;lia)
mutual
theorem qbn:∀(n:Nat)(x y:FV),isD n x=true->isD n y=true->PyData.eqv (toP x) (toP y)=eqD x y
 |0,x,_,e,_=>by cases x <;> simp[isD] at e
 |n+1,.tup xs,.tup ys,e,e'=>by
  simp only[toP,PyData.eqv,eqD];exact qbj n xs ys (by simpa[isD] using e) (by simpa[isD] using e')
 |n+1,.lst xs,.lst ys,e,e'=>by
  simp only[toP,PyData.eqv,eqD];exact qbj n xs ys (by simpa[isD] using e) (by simpa[isD] using e')
 |n+1,.non,y,e,e'=>by cases y <;> simp_all [isD,toP,PyData.eqv,eqD]
 |n+1,.bl _,y,e,e'=>by cases y <;> simp_all [isD,toP,PyData.eqv,eqD]
 |n+1,.int _,y,e,e'=>by cases y <;> simp_all [isD,toP,PyData.eqv,eqD]
 |n+1,.str _,y,e,e'=>by cases y <;> simp_all [isD,toP,PyData.eqv,eqD]
 |n+1,.tup _,.non,e,e'=>by simp[toP,PyData.eqv,eqD]
 |n+1,.tup _,.bl _,e,e'=>by simp[toP,PyData.eqv,eqD]
 |n+1,.tup _,.int _,e,e'=>by simp[toP,PyData.eqv,eqD]
 |n+1,.tup _,.str _,e,e'=>by simp[toP,PyData.eqv,eqD]
 |n+1,.tup _,.lst _,e,e'=>by simp[toP,PyData.eqv,eqD]
 |n+1,.tup _,.obj _ _ _,e,e'=>by simp[isD] at e'
 |n+1,.tup _,.scr _,e,e'=>by simp[isD] at e'
 |n+1,.tup _,.tab _,e,e'=>by simp[isD] at e'
 |n+1,.tup _,.msk _,e,e'=>by simp[isD] at e'
 |n+1,.lst _,.non,e,e'=>by simp[toP,PyData.eqv,eqD]
 |n+1,.lst _,.bl _,e,e'=>by simp[toP,PyData.eqv,eqD]
 |n+1,.lst _,.int _,e,e'=>by simp[toP,PyData.eqv,eqD]
 |n+1,.lst _,.str _,e,e'=>by simp[toP,PyData.eqv,eqD]
 |n+1,.lst _,.tup _,e,e'=>by simp[toP,PyData.eqv,eqD]
 |n+1,.lst _,.obj _ _ _,e,e'=>by simp[isD] at e'
 |n+1,.lst _,.scr _,e,e'=>by simp[isD] at e'
 |n+1,.lst _,.tab _,e,e'=>by simp[isD] at e'
 |n+1,.lst _,.msk _,e,e'=>by simp[isD] at e'
 |n+1,.obj _ _ _,_,e,_=>by simp[isD] at e
 |n+1,.scr _,_,e,_=>by simp[isD] at e
 |n+1,.tab _,_,e,_=>by simp[isD] at e
 |n+1,.msk _,_,e,_=>by simp[isD] at e
theorem qbj:∀(n:Nat)(xs ys:List FV),(∀ x∈xs,isD n x=true)->(∀ y∈ys,isD n y=true)->PyData.eqvAll (ZA xs) (ZA ys)=yaT xs ys
 |n,[],[],_,_=>by simp[ZA,PyData.eqvAll,yaT]
 |n,[],_::_,_,_=>by simp[ZA,PyData.eqvAll,yaT]
 |n,_::_,[],_,_=>by simp[ZA,PyData.eqvAll,yaT]
 |n,x::xs,y::ys,e,e'=>by
  simp only[ZA,PyData.eqvAll,yaT];rw[qbn n x y (e x (by simp)) (e' y (by simp)),qbj n xs ys (λz hz=>e z (by simp[hz])) (λz hz=>e' z (by simp[hz]))]
end
mutual
theorem YR{P:Program}{w:World}{L:Addr->Prop}{H:Hp}{hp:Heap}(hok:HOk P w H hp):∀(n:Nat)(x:FV)(v:V)(u:Value),isD n x=true->RF ct L H x v->RelV v u->∃ as,Reads hp u (toP x) as
 |0,x,_,_,e,_,_=>by cases x <;> simp[isD] at e
 |n+1,.non,v,u,_,r,q=>by simp only[RF] at r;subst r;cases q;exact⟨_,.none⟩
 |n+1,.bl _,v,u,_,r,q=>by simp only[RF] at r;subst r;cases q;exact⟨_,.bool _⟩
 |n+1,.int _,v,u,_,r,q=>by simp only[RF] at r;subst r;obtain⟨t,rfl⟩:=q;exact⟨_,.int _ _⟩
 |n+1,.str _,v,u,_,r,q=>by simp only[RF] at r;subst r;obtain⟨t,rfl⟩:=q;exact⟨_,.str _ _⟩
 |n+1,.tup xs,v,u,e,r,q=>by
  simp only[RF] at r;obtain⟨a,vs,rfl,_,rd,rs⟩:=r;cases q;obtain⟨z,its,rv,o,e1,e2,k,e3⟩:=(Rd.of rd).ok hok;obtain⟨as,ra⟩:=zF hok n xs vs its (by simpa[isD] using e) rs rv;exact⟨as,reads_tuple_at e1 e2 e3 ra⟩
 |n+1,.lst xs,v,u,e,r,q=>by
  simp only[RF] at r;obtain⟨a,vs,rfl,_,rd,rs⟩:=r;cases q;obtain⟨z,its,k,rv,e1⟩:=rd.ok hok;obtain⟨as,ra⟩:=zF hok n xs vs its (by simpa[isD] using e) rs rv;exact⟨_,reads_list_at e1 rfl rfl ra⟩
 |n+1,.obj _ _ _,_,_,e,_,_=>by simp[isD] at e
 |n+1,.scr _,_,_,e,_,_=>by simp[isD] at e
 |n+1,.tab _,_,_,e,_,_=>by simp[isD] at e
 |n+1,.msk _,_,_,e,_,_=>by simp[isD] at e
theorem zF{P:Program}{w:World}{L:Addr->Prop}{H:Hp}{hp:Heap}(hok:HOk P w H hp):∀(n:Nat)(xs:List FV)(vs:List V)(us:List Value),(∀ x∈xs,isD n x=true)->RFs ct L H xs vs->Vals vs us->∃ as,ReadsAll hp us (ZA xs) as
 |n,[],vs,us,_,r,q=>by simp only[RFs] at r;subst r;cases q;exact⟨[],by simpa only[ZA] using ReadsAll.nil⟩
 |n,x::xs,vs,us,e,r,q=>by
  simp only[RFs] at r;obtain⟨v,t,rfl,r1,r2⟩:=r;cases q with
  |cons q1 q2 =>
   obtain⟨as,h1⟩:=YR hok n x v _ (e x (by simp)) r1 q1;obtain⟨bs,h2⟩:=zF hok n xs t _ (λz hz=>e z (by simp[hz])) r2 q2;exact⟨as++bs,by simp only[ZA];exact .cons h1 h2⟩
end
noncomputable abbrev noL:Addr->Prop:=λ_=>False
section
variable {μ:List Addr} {h:MH} {H:Hp}
theorem Yad{g:MV->Option FV}:∀{xs:List MV}{ys:List FV}{vs:List V},xs.mapM g=some ys->RVs ct μ (Liv μ h) H xs vs ->
  (∀ x∈xs,∀ y v,g x=some y->RV ct μ (Liv μ h) H x v->RF ct noL H y v)->RFs ct noL H ys vs
 |[],ys,vs,e,r,_=>by
  simp at e;subst e;simp only[RVs] at r;subst r;simp only[RFs]
 |x::xs,ys,vs,e,r,f=>by
  simp only[Wm,wr,ub,Option.pure_def,Option.some.injEq] at e;obtain⟨y,e1,zs,e2,rfl⟩:=e;simp only[RVs] at r;obtain⟨v,t,rfl,r1,r2⟩:=r;simp only[RFs];exact⟨v,t,rfl,f x (by simp) y v e1 r1,Yad e2 r2 λz hz=>f z (by simp[hz])⟩
theorem Yz(rel:Rel ct μ h H):∀(n:Nat)(m:MV)(x:FV)(v:V),qA h n m=some x->RV ct μ (Liv μ h) H m v->RF ct noL H x v
 |0,m,x,v,e,_=>by simp[qA] at e
 |n+1,.f y,x,v,e,r=>by
  simp[qA] at e;subst e;simp only[RV] at r;exact RF.to ⟨λ_ _ e _=>e,λ_ _ _ _ z=>z⟩ r
 |n+1,.tup xs,x,v,e,r=>by
  simp only[qA,xc] at e;obtain⟨ys,e1,rfl⟩:=e;simp only[RV] at r;obtain⟨a,vs,rfl,na,rd,q⟩:=r;simp only[RF];exact⟨a,vs,rfl,λz=>z,rd,Yad e1 q λz hz y u ez ru=>Yz rel n z y u ez ru⟩
 |n+1,.ref i,x,v,e,r=>by
  simp only[qA,ub,xc] at e;obtain⟨xs,e0,ys,e1,rfl⟩:=e;simp only[RV] at r;obtain⟨b,eb,rfl⟩:=r;obtain⟨b',vs,eb',hb,q⟩:=rel.lst e0;rw[eb] at eb';cases eb';simp only[RF];exact⟨b,vs,rfl,λz=>z,.inl hb,Yad e1 q λz hz y u ez ru=>Yz rel n z y u ez ru⟩
 |n+1,.exc _,x,v,e,_=>by simp[qA] at e
end
noncomputable def zce:CO->CmpOp
 |.lt=>.Lt | .le=>.LtE | .gt=>.Gt | .ge=>.GtE | .eq=>.Eq | .ne=>.NotEq | .inn=>.In | .nin=>.NotIn
noncomputable def Ya3(ct:Tx)(op:CO):R2:=λx y H Q=>∃ μ h mx my b,Rel ct μ h H/\RV ct μ (Liv μ h) H mx x/\RV ct μ (Liv μ h) H my y/\QT op mx my h=some b/\Q (.bl b) H
theorem YaB{op:CO}{x y:V}{H:Hp}{Q:VK}(ho:∀ mx my h,QT op mx my h=(Ze mx).bind λi=>(Ze my).bind λj=>Yap op i j)(q:Ya3 ct op x y H Q):∃ i j b,x=.int i/\y=.int j/\Yap op i j=some b/\Q (.bl b) H:=by
 obtain⟨μ,h,mx,my,b,rel,rx,ry,e,q⟩:=q;rw[ho] at e;simp only[ub] at e;obtain⟨i,e1,j,e2,e3⟩:=e;have:=qu e1;subst this;have:=qu e2;subst this;exact⟨i,j,b,yC rx,yC ry,e3,q⟩
theorem oc_lt:OpR X (compareOp .Lt) (Ya3 ct .lt):=OpR.imp op_lt λx y H Q q=>by
 obtain⟨i,j,b,e1,e2,e3,q⟩:=YaB (λ_ _ _=>rfl) q;cases e3;exact⟨i,j,e1,e2,q⟩
theorem oc_le:OpR X (compareOp .LtE) (Ya3 ct .le):=OpR.imp op_le λx y H Q q=>by
 obtain⟨i,j,b,e1,e2,e3,q⟩:=YaB (λ_ _ _=>rfl) q;cases e3;exact⟨i,j,e1,e2,q⟩
theorem oc_gt:OpR X (compareOp .Gt) (Ya3 ct .gt):=OpR.imp op_gt λx y H Q q=>by
 obtain⟨i,j,b,e1,e2,e3,q⟩:=YaB (λ_ _ _=>rfl) q;cases e3;exact⟨i,j,e1,e2,q⟩
theorem oc_ge:OpR X (compareOp .GtE) (Ya3 ct .ge):=OpR.imp op_ge λx y H Q q=>by
 obtain⟨i,j,b,e1,e2,e3,q⟩:=YaB (λ_ _ _=>rfl) q;cases e3;exact⟨i,j,e1,e2,q⟩
theorem Ybs{x y:FV}{b:Bool}(e:eqF x y=some b):isD 8 x=true/\isD 8 y=true/\eqD x y=b:=by
 unfold eqF at e;split at e
 next c=>cases e;exact⟨c.1,c.2,rfl⟩
 next=>cases e
theorem oc_eq(hu:X.A.units+65<cLine):OpR X (compareOp .Eq) (Ya3 ct .eq):=by
 intro pins s σ H x y v u Q I rx ry q;obtain⟨μ,h,mx,my,b,rel,r1,r2,e,q⟩:=q;simp only[QT,ub] at e;obtain⟨a,e1,c,e2,e3⟩:=e;obtain⟨d1,d2,e4⟩:=Ybs e3;obtain⟨as,ra⟩:=YR I.hok 8 a x v d1 (Yz rel 5 mx a x e1 r1) rx;obtain⟨bs,rb⟩:=YR I.hok 8 c y u d2 (Yz rel 5 my c y e2 r2) ry;refine eq_dataH ra rb (qac d1) (qac d2) (by lia) ?_;rw[qbn 8 a c d1 d2,e4];exact⟨.bl b,H,I,rfl,q⟩
theorem oc_ne(hu:X.A.units+65<cLine):OpR X (compareOp .NotEq) (Ya3 ct .ne):=by
 intro pins s σ H x y v u Q I rx ry q;obtain⟨μ,h,mx,my,b,rel,r1,r2,e,q⟩:=q;simp only[QT,ub,xc] at e;obtain⟨a,e1,c,e2,b',e3,rfl⟩:=e;obtain⟨d1,d2,e4⟩:=Ybs e3;obtain⟨as,ra⟩:=YR I.hok 8 a x v d1 (Yz rel 5 mx a x e1 r1) rx;obtain⟨bs,rb⟩:=YR I.hok 8 c y u d2 (Yz rel 5 my c y e2 r2) ry;refine ne_dataH ra rb (qac d1) (qac d2) (by lia) ?_;rw[qbn 8 a c d1 d2,e4];exact⟨.bl _,H,I,rfl,q⟩
end
end SD
end
section
namespace HT
open PySem PyProof.Rows
section
variable {prog:Program} {w:World} {A:Around} {E:Value->Shared->Prop} {s:Shared}
theorem getItem_tuple_whole{t sl:Addr}{items:Array Value}{vl vu:Value}{lo hi:Option Int}{Q:Value->Shared->Prop}(ht:IsTup s.heap t items)(hs:s.heap.IsSliceOf sl vl vu .none)(pl:IsPart vl lo)(pu:IsPart vu hi)
  (hw:sIx items.size 0 lo=0/\sIx items.size items.size hi=items.size) (h:Q (.ref t) s):wpAny (model prog w) A (getItem (.ref t) (.ref sl)) Q E s:=by
 obtain⟨os,hos,hcs,hds⟩:=id hs;have hTs:s.TypeIs (.ref sl) "slice":=⟨os,hos,hcs⟩;unfold getItem
 try with_reducible refine wpAny_holding ?_
 first|refine wpAny_bind (wpAny_pure ?_)|skip
 refine wpAny_bind (wpAny_sequenceKey ht.typeIs (by decide) ?_);refine wpAny_bind (wpAny_callSpecial?_slot (name:=Str.ofString "__getitem__") ht.typeIs PyProof.Rows.slot_tuple_getitem
  (wpAny_call_entry PyProof.Rows.slot_tuple_getitem ht.typeIs entry_tuple_getitem ?_ (args_tuple_getitem _ _)))
 show wpAny _ _ (Builtin.Tuple.tupleItemsOf (.ref t) >>= _) _ _ s;refine wpAny_bind (tupleItemsOf_ ht ?_);refine wpAny_bind (wpAny_typeOf hTs ?_);rw[if_pos (by decide)];refine wpAny_bind (YS hs pl pu ?_);have hyes:(((sIx items.size 0 lo:Nat):Int)==0&&(1:Int)==1&&(sIx items.size items.size hi-sIx items.size 0 lo)==items.size)=true:=by
  rw[hw.1,hw.2];simp
 show wpAny _ _ (if(((sIx items.size 0 lo:Nat):Int)==0&&(1:Int)==1&&(sIx items.size items.size hi-sIx items.size 0 lo)==items.size)=true then _ else _) _ _ s;rw[if_pos hyes];unfold Builtin.Tuple.tupleIsExact;refine wpAny_bind (wpAny_bind (wpAny_typeOf ht.typeIs (wpAny_pure ?_)));rw[if_pos (by decide)]
 first
  |exact wpAny_bind (wpAny_rule (wpAny_bind (wpAny_pure (wpAny_pure ⟨_,rfl,wpAny_pure h⟩))))
  |exact wpAny_bind (wpAny_rule (wpAny_pure ⟨_,rfl,wpAny_pure h⟩))
  |exact wpAny_bind (wpAny_rule (wpAny_bind (wpAny_pure ⟨_,rfl,wpAny_pure h⟩)))
end
end HT
namespace SD
open PySem PySem.Spec PyProof.Rows L2 L3 M3 MP
section
variable {ct:Tx} {X:Cx} {E:XK}
theorem Qb8{x:FV}{ys:List FV}{b:Bool}(e:inF x ys=some b):isD 8 x=true/\(∀ y∈ys,isD 8 y=true)/\ys.any (λy=>eqD y x)=b:=by
 unfold inF at e;split at e
 next c=>cases e;exact⟨c.1,by simpa using c.2,rfl⟩
 next=>cases e
theorem zcC{x:FV}{ys:List FV}(hx:isD 8 x=true)(hy:∀ y∈ys,isD 8 y=true):(ZA ys).any (λy=>PyData.eqv y (toP x))=ys.any λy=>eqD y x:=by
 rw[zbs,List.any_map]
 induction ys with
 |nil=>rfl
 |cons y ys ih =>
  simp only[Uz,XA];rw[qbn 8 y x (hy y (by simp)) hx,ih λz hz=>hy z (by simp[hz])]
theorem Ybc{μ:List Addr}{h:MH}{H:Hp}{mx my:MV}{ys:List MV}{a:FV}{bs:List FV}{x y:V}{v u:Value}{b:Bool}{pins:List (Addr×Obj)}{σ:L2.St}{s:Shared}(hK:X.K=ct.K)(I:Inv X pins σ H s)(rel:Rel ct μ h H)(rx:RelV x v)(ry:RelV y u)
  (r1:RV ct μ (Liv μ h) H mx x) (r2:RV ct μ (Liv μ h) H my y) (e1:y9 h mx=some a) (e2:yd h my=some ys) (e3:ys.mapM (y9 h)=some bs) (e4:inF a bs=some b) :
  (∃ as as',(Reads s.heap u (.list (ZA bs)) as\/Reads s.heap u (.tuple (ZA bs)) as)/\Reads s.heap v (toP a) as')/\PyData.canLayAll0 (ZA bs)=true/\(toP a).canLay0=true/\PyData.depthAll (ZA bs)<=8/\(ZA bs).any (λy=>PyData.eqv y (toP a))=b:=by
 obtain⟨d1,d2,e5⟩:=Qb8 e4;obtain⟨as',ra⟩:=YR I.hok 8 a x v d1 (Yz rel 5 mx a x e1 r1) rx;obtain⟨k,p,vs,rfl,sq,rs⟩:=Q7 rel e2 r2;cases ry;have rf:RFs ct noL H bs vs:=Yad e3 rs λz hz y u ez ru=>Yz rel 5 z y u ez ru;have ll:=QaO (n:=8) bs λy hy=>QaY 8 y (d2 y hy);refine⟨?_,ll.1,(QaY 8 a d1).1,ll.2,by rw[zcC d1 d2];exact e5⟩;cases k with
 |true =>
  obtain⟨its,rv,⟨o,q1,q2,n,q3⟩,_⟩:=I.tuple (show SqT X.K H p vs from sq.s hK);obtain⟨as,rb⟩:=zF I.hok 8 bs vs its d2 rf rv;exact⟨as,as',.inr (reads_tuple_at q1 q2 q3 rb),ra⟩
 |false =>
  obtain⟨its,rv,⟨o,n,q1,q2,_,q3⟩,_⟩:=I.list (show SqL X.K H p vs from sq.s hK);obtain⟨as,rb⟩:=zF I.hok 8 bs vs its d2 rf rv;exact⟨_,as',.inl (reads_list_at q1 q2 q3 rb),ra⟩
theorem oc_in(hK:X.K=ct.K)(hu:X.A.units+65<cLine):OpR X (compareOp .In) (Ya3 ct .inn):=by
 intro pins s σ H x y v u Q I rx ry q;obtain⟨μ,h,mx,my,b,rel,r1,r2,e,q⟩:=q;simp only[QT,ub] at e;obtain⟨a,e1,ys,e2,bs,e3,e4⟩:=e;obtain⟨⟨as,as',rb,ra⟩,l1,l2,l3,e5⟩:=Ybc hK I rel rx ry r1 r2 e1 e2 e3 e4
 rcases rb with rb|rb
 ·exact SeqAt.in_list_reads rb ra l1 l2 (by have:=Vu (PyData.depthAll (ZA bs)) (toP a).depth;lia) (by rw[e5];exact⟨.bl b,H,I,rfl,q⟩)
 ·exact SeqAt.in_tuple_reads rb ra l1 l2 (by have:=Vu (PyData.depthAll (ZA bs)) (toP a).depth;lia) (by rw[e5];exact⟨.bl b,H,I,rfl,q⟩)
theorem qcZ(hK:X.K=ct.K)(hu:X.A.units+65<cLine):OpR X (compareOp .NotIn) (Ya3 ct .nin):=by
 intro pins s σ H x y v u Q I rx ry q;obtain⟨μ,h,mx,my,b,rel,r1,r2,e,q⟩:=q;simp only[QT,ub,xc] at e;obtain⟨a,e1,ys,e2,bs,e3,b',e4,rfl⟩:=e;obtain⟨⟨as,as',rb,ra⟩,l1,l2,l3,e5⟩:=Ybc hK I rel rx ry r1 r2 e1 e2 e3 e4
 rcases rb with rb|rb
 ·exact SeqAt.notIn_list_reads rb ra l1 l2 (by have:=Vu (PyData.depthAll (ZA bs)) (toP a).depth;lia) (by rw[e5];exact⟨.bl _,H,I,rfl,q⟩)
 ·exact SeqAt.notIn_tuple_reads rb ra l1 l2 (by have:=Vu (PyData.depthAll (ZA bs)) (toP a).depth;lia) (by rw[e5];exact⟨.bl _,H,I,rfl,q⟩)
theorem zca(hK:X.K=ct.K)(hu:X.A.units+65<cLine):∀ op:CO,OpR X (compareOp (zce op)) (Ya3 ct op)
 |.lt=>oc_lt | .le=>oc_le | .gt=>oc_gt | .ge=>oc_ge | .eq=>oc_eq hu | .ne=>oc_ne hu | .inn=>oc_in hK hu | .nin=>qcZ hK hu
theorem qcd(n:Nat)(i:Int):ixM n i=ixN n i:=rfl
noncomputable def rIxM(ct:Tx):R2:=λx y H Q=>∃ μ h mx k xs m,Rel ct μ h H/\RV ct μ (Liv μ h) H mx x/\y=.int k/\yd h mx=some xs/\atM xs k=some m/\∀ v,RV ct μ (Liv μ h) H m v->Q v H
theorem Zcy(hK:X.K=ct.K):IxR X (rIxM ct):=by
 intro value slice pins s σ H x y v u Q I rx ry q hs;obtain⟨μ,h,mx,k,xs,m,rel,r,rfl,e1,e2,q⟩:=q;obtain⟨b,a,vs,rfl,sq,rs⟩:=Q7 rel e1 r;unfold atM at e2;rw[ub] at e2;obtain⟨j,e3,e4⟩:=e2;obtain⟨w,ew,rw_⟩:=rs.get e4;refine k_ix X.K rfl value slice pins s σ H (.ref a) (.int k) v u Q I rx ry ⟨b,a,vs,k,w,rfl,rfl,sq.s hK,?_,q w rw_⟩ hs;unfold atI;rw[rs.length,<- qcd,e3];exact ew
theorem zbm{μ:List Addr}{L:Addr->Prop}{H:Hp}{xs:List MV}{vs:List V}(r:RVs ct μ L H xs vs)(lo hi:Option Int):RVs ct μ L H (Qa3 xs lo hi) (Qbt vs lo hi):=by
 unfold Qa3 Qbt;rw[r.length];exact(r.drop _).take _
noncomputable def rSlM(ct:Tx)(E:XK)(fz:Bool):V->Option Int->Option Int->Hp->VK->Prop:=λx lo hi H Q=>∃ μ h m,Rel ct μ h H/\RV ct μ (Liv μ h) H m x/\Po ct E (y0 fz m lo hi h) μ h H (kV ct Q)
theorem qcs(hK:X.K=ct.K)(fz:Bool):SlR X (rSlM ct E fz):=by
 intro pins s σ H x v vl vu lo hi sl Q I rx hs pl pu q;obtain⟨μ,h,m,rel,r,p⟩:=q;unfold y0 at p;split at p
 next xs e =>
  obtain⟨a,vs,rfl,n,rd,rs⟩:=ZF e r;by_cases hw:HT.sIx vs.length 0 lo=0/\HT.sIx vs.length vs.length hi=vs.length
  ·cases rx;obtain⟨its,rv,ht,hz⟩:=I.tuple (show SqT X.K H a vs from .inl (.inl rd));have hlen:its.toArray.size=vs.length:=by rw[ua];exact rv.length.symm
   refine⟨"tuple",_,PyProof.Rows.slot_tuple_getitem.lookup,ht.typeIs,HT.getItem_tuple_whole ht hs pl pu (by rw[hlen];exact hw) ?_⟩;have hc:Qa3 xs lo hi=xs:=by
    have hl:=rs.length;unfold Qa3;show(xs.drop (HT.sIx xs.length 0 lo)).take (HT.sIx xs.length xs.length hi-HT.sIx xs.length 0 lo)=xs;rw[<- hl,hw.1,hw.2,Xn,uu,hl,wm]
   rw[hc] at p;exact⟨.ref a,H,I,rfl,p.now rel _ (yZ n rd rs)⟩
  ·exact ycW pins s σ H (.ref a) v vl vu lo hi sl Q I rx hs pl pu ⟨a,vs,rfl,.inl (.inl rd),hw,Yat rel (zbm rs lo hi) p⟩
 next e =>
  obtain⟨xs,e1,p⟩:=Po.opt p
  rcases qD e1 with e2|e2|⟨ns,rfl,rfl⟩
  ·rw[e] at e2;cases e2
  ·obtain⟨a,vs,rfl,rd,rs⟩:=zt rel e2 r;exact QbK pins s σ H (.ref a) v vl vu lo hi sl Q I rx hs pl pu ⟨a,vs,rfl,.inl rd,yJ rel (zbm rs lo hi) p⟩
  ·simp only[RV,RF] at r;obtain⟨a,rfl,q⟩:=r;exact QbK pins s σ H (.ref a) v vl vu lo hi sl Q I rx hs pl pu ⟨a,_,rfl,by rw[hK];exact Zbl q,yJ rel (zbm (Yas ns) lo hi) p⟩
end
section
variable {ct:Tx} {X:Cx} {E:XK}
theorem CallR.imp{f:Value}{r r':List V->Hp->VK->Prop}(o:CallR X f r)(k:∀ xs H Q,r' xs H Q->r xs H Q):CallR X f r':=λpins s σ H xs us Q I rv q=>o pins s σ H xs us Q I rv (k _ _ _ q)
noncomputable def rB(ct:Tx)(E:XK)(fz:Bool)(n:String):List V->Hp->VK->Prop:=λvs H Q=>∃ μ h ms,Rel ct μ h H/\RVs ct μ (Liv μ h) H ms vs/\Po ct E (qap fz n ms h) μ h H (kV ct Q)
theorem zX{μ:List Addr}{L:Addr->Prop}{H:Hp}{m:MV}{vs:List V}(r:RVs ct μ L H [m] vs):∃ v,vs=[v]/\RV ct μ L H m v:=by
 simp only[RVs] at r;obtain⟨v,t,rfl,r1,rfl⟩:=r;exact⟨v,rfl,r1⟩
theorem ycw{μ:List Addr}{L:Addr->Prop}{H:Hp}{m m':MV}{vs:List V}(r:RVs ct μ L H [m,m'] vs):∃ v v',vs=[v,v']/\RV ct μ L H m v/\RV ct μ L H m' v':=by
 simp only[RVs] at r;obtain⟨v,t,rfl,r1,v',t',rfl,r2,rfl⟩:=r;exact⟨v,v',rfl,r1,r2⟩
theorem Zcj{μ:List Addr}{L:Addr->Prop}{H:Hp}:∀{xs:List MV}{ns:List Int}{vs:List V},Zn xs=some ns->RVs ct μ L H xs vs->vs=ns.map V.int
 |[],ns,vs,e,r=>by simp[Zn] at e;subst e;simp only[RVs] at r;subst r;rfl
 |.f (.int i)::xs,ns,vs,e,r=>by
  simp only[Zn,xc] at e;obtain⟨ms,e1,rfl⟩:=e;simp only[RVs] at r;obtain⟨v,t,rfl,r1,r2⟩:=r;rw[yC r1,Zcj e1 r2];rfl
 |.f .non::_,_,_,e,_=>by simp[Zn] at e
 |.f (.bl _)::_,_,_,e,_=>by simp[Zn] at e
 |.f (.str _)::_,_,_,e,_=>by simp[Zn] at e
 |.f (.tup _)::_,_,_,e,_=>by simp[Zn] at e
 |.f (.lst _)::_,_,_,e,_=>by simp[Zn] at e
 |.f (.obj _ _ _)::_,_,_,e,_=>by simp[Zn] at e
 |.f (.scr _)::_,_,_,e,_=>by simp[Zn] at e
 |.f (.tab _)::_,_,_,e,_=>by simp[Zn] at e
 |.f (.msk _)::_,_,_,e,_=>by simp[Zn] at e
 |.ref _::_,_,_,e,_=>by simp[Zn] at e
 |.tup _::_,_,_,e,_=>by simp[Zn] at e
 |.exc _::_,_,_,e,_=>by simp[Zn] at e
theorem qbL{μ:List Addr}{L:Addr->Prop}{H:Hp}:∀{xs:List MV}{ns:List Bool}{vs:List V},qz xs=some ns->RVs ct μ L H xs vs->vs=ns.map V.bl
 |[],ns,vs,e,r=>by simp[qz] at e;subst e;simp only[RVs] at r;subst r;rfl
 |.f (.bl i)::xs,ns,vs,e,r=>by
  simp only[qz,xc] at e;obtain⟨ms,e1,rfl⟩:=e;simp only[RVs] at r;obtain⟨v,t,rfl,r1,r2⟩:=r;rw[Zbb r1,qbL e1 r2];rfl
 |.f .non::_,_,_,e,_=>by simp[qz] at e
 |.f (.int _)::_,_,_,e,_=>by simp[qz] at e
 |.f (.str _)::_,_,_,e,_=>by simp[qz] at e
 |.f (.tup _)::_,_,_,e,_=>by simp[qz] at e
 |.f (.lst _)::_,_,_,e,_=>by simp[qz] at e
 |.f (.obj _ _ _)::_,_,_,e,_=>by simp[qz] at e
 |.f (.scr _)::_,_,_,e,_=>by simp[qz] at e
 |.f (.tab _)::_,_,_,e,_=>by simp[qz] at e
 |.f (.msk _)::_,_,_,e,_=>by simp[qz] at e
 |.ref _::_,_,_,e,_=>by simp[qz] at e
 |.tup _::_,_,_,e,_=>by simp[qz] at e
 |.exc _::_,_,_,e,_=>by simp[qz] at e
theorem SqR.len{H:Hp}{K:PySem.W.Frag}{b:Bool}{a:Addr}{vs:List V}(hK:K=ct.K)(q:SqR ct H b a vs):SqL K H a vs\/SqT K H a vs:=by
 subst hK;cases b with
 |false=>exact .inl q
 |true=>exact .inr q
theorem ZcY(hK:X.K=ct.K)(fz:Bool):CallR X (.builtin "len") (rB ct E fz "len"):=CallR.imp (qcH X.K) λvs H Q q=>by
 obtain⟨μ,h,ms,rel,r0,p⟩:=q
 rcases ms with _|⟨m,_|⟨m2,ms⟩⟩
 ·exact p.elim
 ·obtain⟨v,rfl,rm⟩:=zX r0;obtain⟨xs,e,p⟩:=Po.opt p;obtain⟨b,a,ws,rfl,sq,rs⟩:=Q7 rel e rm;exact⟨a,ws,rfl,sq.len hK,by rw[rs.length];exact p.now rel _ (zaD _)⟩
 ·exact p.elim
theorem qcW(hK:X.K=ct.K)(fz:Bool)(hc:X.calm=true):CallR X (.builtin "all") (rB ct E fz "all"):=CallR.imp (k_all X.K hc) λvs H Q q=>by
 obtain⟨μ,h,ms,rel,r0,p⟩:=q
 rcases ms with _|⟨m,_|⟨m2,ms⟩⟩
 ·exact p.elim
 ·obtain⟨v,rfl,rm⟩:=zX r0;obtain⟨ns,e,p⟩:=Po.opt p;rw[ub] at e;obtain⟨xs,e1,e2⟩:=e;obtain⟨b,a,ws,rfl,sq,rs⟩:=Q7 rel e1 rm;have:=qbL e2 rs;subst this;exact⟨b,a,ns,rfl,sq.s hK,p.now rel _ (yR _)⟩
 ·exact p.elim
theorem Zcm(hK:X.K=ct.K)(fz:Bool):CallR X (.type "tuple") (rB ct E fz "tuple"):=CallR.imp (Qcx X.K) λvs H Q q=>by
 obtain⟨μ,h,ms,rel,r0,p⟩:=q
 rcases ms with _|⟨m,_|⟨m2,ms⟩⟩
 ·exact p.elim
 ·obtain⟨v,rfl,rm⟩:=zX r0;obtain⟨xs,e,p⟩:=Po.opt p
  rcases qD e with e|e|⟨ns,rfl,rfl⟩
  ·obtain⟨a,ws,rfl,n,rd,rs⟩:=ZF e rm;exact⟨a,ws,rfl,.inr ⟨.inl (.inl rd),p.now rel _ (yZ n rd rs)⟩⟩
  ·obtain⟨a,ws,rfl,rd,rs⟩:=zt rel e rm;exact⟨a,ws,rfl,.inl ⟨.inl rd,Yat rel rs p⟩⟩
  ·simp only[RV,RF] at rm;obtain⟨a,rfl,q⟩:=rm;exact⟨a,_,rfl,.inl ⟨by rw[hK];exact Zbl q,Yat rel (Yas ns) p⟩⟩
 ·exact p.elim
theorem zcx(hK:X.K=ct.K)(fz:Bool):CallR X (.type "list") (rB ct E fz "list"):=CallR.imp (YcN X.K) λvs H Q q=>by
 obtain⟨μ,h,ms,rel,r0,p⟩:=q
 rcases ms with _|⟨m,_|⟨m2,ms⟩⟩
 ·exact p.elim
 ·obtain⟨v,rfl,rm⟩:=zX r0;obtain⟨xs,e,p⟩:=Po.opt p;obtain⟨b,a,ws,rfl,sq,rs⟩:=Q7 rel e rm;exact⟨a,ws,rfl,sq.len hK,yJ rel rs p⟩
 ·exact p.elim
noncomputable def rLm(ct:Tx)(E:XK)(m:String):V->List V->Hp->VK->Prop:=λx vs H Q=>∃ μ h mo ms,Rel ct μ h H/\RV ct μ (Liv μ h) H mo x/\RVs ct μ (Liv μ h) H ms vs/\Po ct E (lmV m mo ms h) μ h H (kV ct Q)
theorem MtR.imp{id:String}{r r':V->List V->Hp->VK->Prop}(o:MtR X id r)(k:∀ x xs H Q,r' x xs H Q->r x xs H Q):MtR X id r':=λpins s σ H x xs v us Q I rx rv q=>o pins s σ H x xs v us Q I rx rv (k _ _ _ _ q)
theorem ZbA{m:String}{mo:MV}{ms:List MV}{μ:List Addr}{h:MH}{H:Hp}{x:V}{k:MV->List Addr->MH->Hp->Prop}(rel:Rel ct μ h H)(r:RV ct μ (Liv μ h) H mo x)(p:Po ct E (lmV m mo ms h) μ h H k) :
  ∃ i b xs vs,mo=.ref i/\x=.ref b/\μ[i]?=some b/\yg h i=some xs/\H b=some (.lst vs)/\RVs ct μ (Liv μ h) H xs vs:=by
 cases mo with
 |ref i =>
  obtain⟨xs,e,_⟩:=Po.opt p;obtain⟨b,vs,e1,e2,q⟩:=rel.lst e;simp only[RV] at r;obtain⟨b',e3,rfl⟩:=r;rw[e1] at e3;cases e3;exact⟨i,b,xs,vs,rfl,rfl,e1,e,e2,q⟩
 |f _=>exact p.elim
 |tup _=>exact p.elim
 |exc _=>exact p.elim
theorem ybH{μ:List Addr}{h:MH}{H:Hp}{i:Nat}{b:Addr}{xs ys:List MV}{vs:List V}{m:MV}{v:V}{Q:VK}(rel:Rel ct μ h H)(e1:μ[i]?=some b)(e:yg h i=some xs)(r:RVs ct μ (Liv μ h) H ys vs)(rv:RV ct μ (Liv μ h) H m v)
  (p:Po ct E (.ok m (yj h i ys)) μ h H (kV ct Q)):Q v (upd H b (.lst vs)):=by
 have e2:=QU e;have ex:=Ext.set (H:=H) rel e1 e2 (λz=>nomatch z) (.lst ys) (.lst vs);refine p μ _ ex (rel.set e1 e2 (λz=>nomatch z) ⟨vs,ye,?_⟩) v (rv.ext ex);exact RVs.ext ex r
theorem QbY:MtR X "list.append" (rLm ct E "append"):=MtR.imp yba λx ws H Q q=>by
 obtain⟨μ,h,mo,ms,rel,r,rs,p⟩:=q;obtain⟨i,b,xs,vs,rfl,rfl,e1,e,hb,q⟩:=ZbA rel r p
 rcases ms with _|⟨m,_|⟨m2,ms⟩⟩
 ·obtain⟨_,_,p⟩:=Po.opt p;exact p.elim
 ·obtain⟨v,rfl,rm⟩:=zX rs;obtain⟨_,e',p⟩:=Po.opt p;rw[e] at e';cases e';change Po ct E (if xs.length<MP.sizeL then _ else _) μ h H (kV ct Q) at p;split at p
  next c=>exact⟨b,vs,v,rfl,rfl,hb,by rw[q.length];exact wc c qR,ybH rel e1 e (q.append (RVs.cons rm RVs.nil)) Ya0 p⟩
  next=>exact p.elim
 ·obtain⟨_,_,p⟩:=Po.opt p;exact p.elim
theorem YbJ:MtR X "list.reverse" (rLm ct E "reverse"):=MtR.imp Ybz λx ws H Q q=>by
 obtain⟨μ,h,mo,ms,rel,r,rs,p⟩:=q;obtain⟨i,b,xs,vs,rfl,rfl,e1,e,hb,q⟩:=ZbA rel r p
 rcases ms with _|⟨m,ms⟩
 ·simp only[RVs] at rs;subst rs;obtain⟨_,e',p⟩:=Po.opt p;rw[e] at e';cases e';refine⟨b,vs,rfl,rfl,hb,ybH rel e1 e (ys:=xs.reverse) ?_ Ya0 p⟩;clear p e hb
  induction xs generalizing vs with
  |nil=>simp only[RVs] at q;subst q;exact RVs.nil
  |cons x xs ih =>
   simp only[RVs] at q;obtain⟨v,t,rfl,r1,r2⟩:=q;simp only[xp];exact(ih t r2).append (RVs.cons r1 RVs.nil)
 ·obtain⟨_,_,p⟩:=Po.opt p;exact p.elim
theorem Yb1:MtR X "list.extend" (rLm ct E "extend"):=MtR.imp zbH λx ws H Q q=>by
 obtain⟨μ,h,mo,ms,rel,r,rs,p⟩:=q;obtain⟨i,b,xs,vs,rfl,rfl,e1,e,hb,q⟩:=ZbA rel r p
 rcases ms with _|⟨m,_|⟨m2,ms⟩⟩
 ·obtain⟨_,_,p⟩:=Po.opt p;exact p.elim
 ·obtain⟨v,rfl,rm⟩:=zX rs;obtain⟨_,e',p⟩:=Po.opt p;rw[e] at e';cases e';change Po ct E (opt (listOf h m) λys=>if xs.length+ys.length<=MP.sizeL then .ok (.f .non) (yj h i (xs++ys)) else .stuck) μ h H (kV ct Q) at p;obtain⟨ys,e3,p2⟩:=Po.opt p;obtain⟨a,ws,rfl,rd,rs2⟩:=zt rel e3 rm;split at p2
  next c=>exact⟨b,a,vs,ws,rfl,rfl,hb,rd,by rw[q.length,rs2.length];exact Ve c qR,ybH rel e1 e (q.append rs2) Ya0 p2⟩
  next=>exact p2.elim
 ·obtain⟨_,_,p⟩:=Po.opt p;exact p.elim
end
noncomputable def ya:Expr->Bool
 |.Starred ..=>false
 |.Slice ..=>false
 |.Set ..=>false
 |_=>true
noncomputable def Qe:Expr->Bool
 |.Call (.Name x _) [] [] _=>!(x==("super":Str))
 |_=>true
noncomputable def zR(cs sc:Scope):Scope :=
 {cs with names:=cs.names.map λ(n,k)=>if(k==NameKind.free&&sc.kind == .function&&sc.names.lookup n==some .cell) then(n,NameKind.cell) else(n,k)}
noncomputable def gl(sc:Scope)(x:Str):Bool:=sc.names.lookup x==some .globalImplicit&&!(x==("__debug__":Str))&&decide (x≠("__name__":Str))
noncomputable def Zbz(sc:Scope)(x:Str):Bool:=(sc.names.lookup x==some .local||sc.names.lookup x==some .cell||sc.names.lookup x==some .free)&&!(x==("__debug__":Str))&&!(x==("__classdict__":Str))
noncomputable def zbF(lo:Str->Bool)(sc:Scope)(x:Str):Bool:=sc.names.lookup x==some .local||(lo x&&sc.names.lookup x==some .cell)
noncomputable abbrev Za2:Str->Bool:=λ_=>true
noncomputable abbrev ownC(cs:Scope):Str->Bool:=λx=>cs.names.lookup x==some .cell
mutual
noncomputable def zK(lo:Str->Bool)(N:List Str)(sc:Scope):Tg->Expr->Bool
 |.nm i,.Name x _=>N[i]? == some x&&zbF lo sc x
 |.tp ts,.Tuple es _ _=>yal lo N sc ts es
 |_,_=>false
noncomputable def yal(lo:Str->Bool)(N:List Str)(sc:Scope):List Tg->List Expr->Bool
 |[],[]=>true
 |t::ts,e::es=>zK lo N sc t e&&yal lo N sc ts es
 |_,_=>false
end
mutual
noncomputable def tgN:Tg->Expr->List Str
 |.nm _,.Name x _=>[x]
 |.tp ts,.Tuple es _ _=>tgNs ts es
 |_,_=>[]
noncomputable def tgNs:List Tg->List Expr->List Str
 |t::ts,e::es=>tgN t e++tgNs ts es
 |_,_=>[]
end
noncomputable def isTup:Expr->Bool
 |.Tuple ..=>true
 |_=>false
noncomputable def fnNames:List String:=["len","all"]
noncomputable def tyNames:List String:=["tuple","list"]
noncomputable def lmNames:List String:=["append","extend"]
noncomputable def lm0Names:List String:=["reverse"]
noncomputable def isTys:List String:=["dict","list","tuple","str","int","bool"]
noncomputable def QJ:Expr->List Expr
 |.Call (.Name _ _) as [] _=>as
 |_=>[]
noncomputable def ya0(tg:Expr)(it:String):Expr->Bool
 |.Call (.Name x _) as [] _=>(it == "range"&&as.length==1||it == "zip"&&isTup tg&&as.length==2||it == "enumerate"&&false&&as.length==1)&&x==Str.ofString it
 |_=>false
noncomputable def okT:ME->Bool
 |.frz _=>false
 |.ite _ _ _=>false
 |_=>true
noncomputable def zcE:Expr->Bool
 |.Constant (.bool true) _ _=>true
 |_=>false
noncomputable def twoL{α:Type}:List α->Option (α×α)
 |[a,b]=>some (a,b)
 |_=>none
noncomputable def oneL{α:Type}:List α->Option α
 |[a]=>some a
 |_=>none
noncomputable def d2Form:Expr->Option (Expr×Expr)
 |.Dict ks vs _=>(twoL ks).bind λk=>(twoL vs).bind λv=>if zcE v.1&&zcE v.2 then k.1.bind λx=>k.2.map λy=>(x,y) else none
 |_=>none
noncomputable def asC1:Expr->Option (Str×Expr)
 |.Call (.Name x _) as [] _=>(oneL as).map λa=>(x,a)
 |_=>none
noncomputable def YbP(e:Expr):Option (Str×Str×Expr):=(asC1 e).bind λp=>(asC1 p.2).map λq=>(p.1,q.1,q.2)
noncomputable def isM1:Expr->Bool
 |.UnaryOp .USub (.Constant (.int 1) _ _) _=>true
 |_=>false
noncomputable def ZbD:Expr->Option Expr
 |.Subscript x (.Slice none none (some st) _) _=>if isM1 st then some x else none
 |_=>none
noncomputable def Qc5:Expr->Option Expr
 |.Call (.Attribute l n ap) [] [] cp=>if n==("items":Str)&&Qe l&&(ap.endLine==cp.line) then some l else none
 |_=>none
section
variable (Pm:Prog)
mutual
noncomputable def zq(me:ME)(N:List Str)(sc:Scope)(e:Expr):Bool:=match me,e with
 |.var i,.Name x _=>N[i]? == some x&&Zbz sc x
 |.cI i,.Constant (.int j) _ _=>i==j
 |.cB b,.Constant (.bool c) _ _=>b==c
 |.cN,.Constant .none _ _=>true
 |.cS s,.Constant (.str x) _ _=>s==x
 |.bin _ op a b,.BinOp l o r _=>o==mOp op&&(ya l&&zq a N sc l)&&(ya r&&zq b N sc r)
 |.neg a,.UnaryOp .USub x _=>(ya x&&zq a N sc x)
 |.cmp op a b,.Compare l [o] [r] _=>o==zce op&&(ya l&&zq a N sc l)&&(ya r&&zq b N sc r)
 |.and es,.BoolOp .And vs _=>es.all okT&&Yp es N sc vs
 |.or es,.BoolOp .Or vs _=>es.all okT&&Yp es N sc vs
 |.not a,.UnaryOp .Not x _=>okT a&&(ya x&&zq a N sc x)
 |.ite c a b,.IfExp t x y _=>okT c&&(ya t&&zq c N sc t)&&(ya x&&zq a N sc x)&&(ya y&&zq b N sc y)
 |.tup es,.Tuple vs _ _=>decide (vs.length<1000)&&Yp es N sc vs
 |.lst _ es,.List vs _=>decide (vs.length<1000)&&Yp es N sc vs
 |.sub a i,.Subscript x y _=>(ya x&&zq a N sc x)&&(ya y&&zq i N sc y)
 |.slice _ a lo hi,.Subscript x (.Slice l u none _) _=>(ya x&&zq a N sc x)&&qcf lo N sc l&&qcf hi N sc u
 |.fld a n,.Attribute x m _=>m==Str.ofString n&&Qe x&&(ya x&&zq a N sc x)
 |.meth o m es,.Call (.Attribute x n ap) vs [] cp=>n==Str.ofString m&&decide (m≠"__init__")&&Qe x&&(ap.endLine==cp.line)&&(ya x&&zq o N sc x)&&Yp es N sc vs&&decide (vs.length<30)
 |.call f es,.Call (.Name x _) (v::vs) [] _=>x==Str.ofString f&&gl sc x&&!(f.toList.contains '.')&&(Pm.defs f).isSome&&Yp es N sc (v::vs)
 |.make _ c es,.Call (.Name x _) (v::vs) [] _=>x==Str.ofString c&&gl sc x&&(Pm.meths c "__init__").isSome&&Yp es N sc (v::vs)
 |.make _ c [],.Call (.Name x _) [] [] _=>x==Str.ofString c&&gl sc x&&Pm.mk0 c&&(Pm.meths c "__init__").isNone
 |.blt _ n es,.Call (.Name x _) (v::vs) [] _=>x==Str.ofString n&&gl sc x&&(fnNames.contains n||tyNames.contains n)&&Yp es N sc (v::vs)
 |.isI a t,.Call (.Name x _) [v,.Name y _] [] _=>x==("isinstance":Str)&&gl sc x&&y==Str.ofString t&&gl sc y&&(isTys.contains t||(Pm.subs t t).isSome)&&(ya v&&zq a N sc v)
 |.revL _ a,e=>match YbP e with
  |some (x,y,v)=>false
  |none=>match ZbD e with
   |some v=>ya v&&zq a N sc v
   |none=>false
 |.mNew,.Dict [] [] _=>true
 |.mOf a,.Call (.Name x _) [v] [] _=>x==("dict":Str)&&gl sc x&&(ya v&&zq a N sc v)
 |.tx2 .join a b,.Call (.Attribute x n ap) [v] [] cp=>n==("join":Str)&&Qe x&&(ap.endLine==cp.line)&&(ya x&&zq a N sc x)&&(ya v&&zq b N sc v)
 |.tx2 (.split _) a b,.Call (.Attribute x n ap) [v] [] cp=>n==("split":Str)&&Qe x&&(ap.endLine==cp.line)&&(ya x&&zq a N sc x)&&(ya v&&zq b N sc v)
 |.tx2 .at a b,.Subscript x y _=>(ya x&&zq a N sc x)&&(ya y&&zq b N sc y)
 |.tx2 .inn a b,.Compare l [.In] [r] _=>(ya l&&zq a N sc l)&&(ya r&&zq b N sc r)
 |.tx2 .cat a b,.BinOp x .Add y _=>(ya x&&zq a N sc x)&&(ya y&&zq b N sc y)
 |.tx2 .rep a b,.BinOp x .Mult y _=>(ya x&&zq a N sc x)&&(ya y&&zq b N sc y)
 |.tx2 .same a b,.Compare l [.Eq] [r] _=>(ya l&&zq a N sc l)&&(ya r&&zq b N sc r)
 |.tx2 .upd a b,.Call (.Attribute x n ap) [v] [] cp=>n==("update":Str)&&Qe x&&(ap.endLine==cp.line)&&(ya x&&zq a N sc x)&&(ya v&&zq b N sc v)
 |.mNin a b,.Compare l [.NotIn] [r] _=>(ya l&&zq a N sc l)&&(ya r&&zq b N sc r)
 |.lm m o es,.Call (.Attribute x n ap) vs [] cp=>n==Str.ofString m&&Qe x&&(ap.endLine==cp.line)&&(ya x&&zq o N sc x)&&Yp es N sc vs&&(if vs.isEmpty then lm0Names.contains m else lmNames.contains m&&decide (vs.length<30))
 |.comp _ elt tg it src cond ncv js,.ListComp x [⟨t,iter,ifs,a⟩] cs _ =>
   let N':=tgN tg t++js.filterMap λj=>N[j]?
   (a==0)&&ya iter&&YD sc N cs N' ncv js&&decide N'.Nodup&&zK (ownC cs) N' (zR cs sc) tg t&&(ya x&&zq elt N' (zR cs sc) x)&&chkC cond N' (zR cs sc) ifs &&
    (if it == "seq" then YbW src N sc iter else if it == "signs" then false else if it == "enum1" then false else ya0 t it iter&&gl sc (Str.ofString it)&&Yp src N sc (QJ iter))
 |.frz m,e=>(ya e&&zq m N sc e)
 |_,_=>false
noncomputable def Yp(mes:List ME)(N:List Str)(sc:Scope)(es:List Expr):Bool:=match mes,es with
 |[],[]=>true
 |m::ms,e::es=>(ya e&&zq m N sc e)&&Yp ms N sc es
 |_,_=>false
noncomputable def YbW(mes:List ME)(N:List Str)(sc:Scope)(e:Expr):Bool:=match mes with
 |[m]=>(ya e&&zq m N sc e)
 |_=>false
noncomputable def qcf(mo:Option ME)(N:List Str)(sc:Scope)(eo:Option Expr):Bool:=match mo,eo with
 |none,none=>true
 |some m,some e=>(ya e&&zq m N sc e)
 |_,_=>false
noncomputable def chkC(mo:Option ME)(N:List Str)(sc:Scope)(es:List Expr):Bool:=match mo,es with
 |none,[]=>true
 |some m,[e]=>okT m&&(ya e&&zq m N sc e)
 |_,_=>false
end
noncomputable def qe(me:ME)(N:List Str)(sc:Scope)(e:Expr):Bool:=ya e&&zq Pm me N sc e
end
noncomputable def spR(ct:Tx)(W:List MV->MH->R MV):Sp:=λvs H Q E=>∃ μ h ms,Rel ct μ h H/\RVs ct μ (Liv μ h) H ms vs/\Po ct E (W ms h) μ h H (kV ct Q)
structure ClsOk (K:PySem.W.Frag) (C:Addr):Prop where
 cl:Cls K C
 ha:Ua K (.ref C) "__class__"=some (some (.builtin "object.__class__"))
 hn:Wp K (.builtin "object.__class__") "__get__"=some (some (.builtin "getset_descriptor.__get__"))
 tk:Xr K (.builtin "object.__class__")=some true
 hm:Wl K C (.type "object")=some true
noncomputable def spW(ct:Tx)(Pm:Prog)(wd:String):Addr->Addr->Sp:=λx C vs H Q _=>vs=[.ref x]/\∃ c s,C=ct c/\Pm.word wd c=some s/\∀ H',Same H H'->Q (.str s) H'
noncomputable def zcn(mg:Str->Option Value)(x:String):FV->Prop
 |.int i=>∃ t,mg (Str.ofString x)=some (.int i t)
 |.str s=>∃ t,mg (Str.ofString x)=some (.str s t)
 |_=>False
structure Txt (P:Program) (w:World) (K:PySem.W.Frag) (mg:Str->Option Value) (base:Heap) (Pm:Prog) (ct:Tx) (n:Nat):Prop where
 defs:∀ f d,Pm.defs f=some d->f.toList.contains '.'=false->∃ ps,Qbp P w K mg base (Str.ofString f) (2*n) ps (spR ct (run Pm n f))
 inits:∀ c f,Pm.meths c "__init__"=some f->∃ ps,Qcn P w K mg base (Str.ofString c) (ct c) (2*n) ps (spR ct (run Pm n f))
 blts:∀ x∈fnNames++tyNames++isTys++["range","zip","enumerate","isinstance","sorted","reversed"],mg (Str.ofString x)=none
 fok:∀ c f,Pm.fok c f=true->Cls K (ct c)/\NoAttr K (ct c) (Str.ofString f)
 cls:∀ c t b,Pm.subs c t=some b->ClsOk K (ct c)
 subC:∀ c t b,Pm.subs c t=some b->isTys.contains t=false->mg (Str.ofString t)=some (.ref (ct t))/\Ue K (.ref (ct c)) (.ref (ct t))=some b
 subT:∀ c t b,Pm.subs c t=some b->isTys.contains t=true->Ue K (.ref (ct c)) (.type t)=some b
 tyC:∀ t c b,Pm.subs c t=some b->isTys.contains t=false->∀ T∈["NoneType","bool","int","str","list","tuple"],Ue K (.type T) (.ref (ct t))=some false
 excs:∀ c,Pm.excs c=true->zU K (ct c)/\mg (Str.ofString c)=some (.ref (ct c))
 words:∀ wd,Pm.words wd=true->zU K (ct "DotError")/\mg "DotError"=some (.ref (ct "DotError"))/\(∃ ps,DefOkH P w K mg base (Str.ofString wd) 1 ps (spW ct Pm wd)) /\
  ∀ c s,Pm.word wd c=some s->zU K (ct c)/\(QE K (ct c)).contains (.ref (ct "DotError"))=true
 xcls:∀ t,Pm.xcls t=true->(if t="ValueError" then mg "ValueError"=none else mg (Str.ofString t)=some (.ref (ct t)))
 xs:∀ c t b,Pm.xsubs c t=some b->ExcK K (ct c)/\Ue K (.ref (ct c)) (if t="ValueError" then .type "ValueError" else .ref (ct t))=some b
 dfl:∀ f ds,Pm.dfl f ds=true->∃ ps fa fd dvals,FnOk P w K mg base (CX1 P w) (2*n) fa fd ps (spR ct (run Pm n f))/\Binds K fd ps dvals/\Vals (ds.map V.int) dvals/\Uc K (.ref fa)=true/\mg (Str.ofString f)=some (.ref fa)
 xdot:Pm.xt=true->zU K (ct "DotError")/\mg "DotError"=some (.ref (ct "DotError"))/\∀ c b,Pm.xsubs c c=some b->zU K (ct c)/\(QE K (ct c)).contains (.ref (ct "DotError"))=true
 meths:∀ c m f,Pm.meths c m=some f->m≠"__init__"->Qce P w K mg base (2*n) (ct c) (Str.ofString m) (spR ct (run Pm n f))
 mk0:∀ c,Pm.mk0 c=true->Mk0 K (ct c)/\mg (Str.ofString c)=some (.ref (ct c))
 globs:∀ x v,Pm.globs x=some v->zcn mg x v
structure Cc (X:Cx) (Pm:Prog) (ct:Tx) (n:Nat) (Ra:L2.St->Prop) (E:XK) (N:List Str) (sc:Scope):Prop where
 txt:Txt X.prog X.w X.K X.mg X.base Pm ct n
 calm:X.calm=true
 room:Room (2*n+1) X.A
 pas:∀ σ,Ra σ->zy (CX1 X.prog X.w) X σ E
 nm:X.N=N
 sc:X.env.scope=sc
 nd:X.N.Nodup
 hK:X.K=ct.K
section
variable {ct:Tx} {X:Cx} {E:XK} {Pm:Prog} {n:Nat} {Ra:L2.St->Prop} {N:List Str} {sc:Scope}
theorem Cc.units(c:Cc X Pm ct n Ra E N sc):X.A.units+65<cLine:=by have:=c.room.un;lia
theorem YY{x:Str}(hs:X.env.scope=sc)(h:gl sc x=true):Gl X x/\(x==("__debug__":Str))=false/\x≠"__name__":=by
 unfold gl at h;simp only[Wa,beq_iff_eq,vi,decide_eq_true_eq] at h;refine⟨?_,h.1.2,h.2⟩;show X.env.scope.names.lookup x=_;rw[hs];exact h.1.1
theorem zl{e:Expr}{es:List Expr}{env:Env}(h:ya e=true):starEach (e::es) env=(false,eval e env)::starEach es env:=by
 cases e <;> first|rfl|(simp[ya] at h)
theorem qM{e:Expr}(h:ya e=true)(op:CmpOp):behindInMarks op e=false:=by
 cases e <;> first|rfl|(simp[ya] at h)
theorem ybq{e:Expr}(h:ya e=true):ZbK e:=by
 intro o i;cases e <;> first|rfl|(simp[ya] at h)
theorem yV{e:Expr}{env:Env}(h:ya e=true):∀ x,foldedSetIterable e env x=pure x:=by
 intro x;cases e <;> first|rfl|(simp[ya] at h)
theorem Qv{e:Expr}{f:Str}{env:Env}{w:Sem Value}(h:Qe e=true):attributeBase e f env w=w:=by
 cases e with
 |Call g as ks p =>
  cases g with
  |Name x q =>
   cases as with
   |nil =>
    cases ks with
    |nil =>
     have h':(x==("super":Str))=false:=by simpa[Qe] using h
     have e1:(x != ("super":Str))=true:=by simp[bne,h']
     unfold attributeBase;simp only[e1,Bool.true_or,if_true]
    |cons _ _=>rfl
   |cons _ _=>rfl
  |_=>rfl
 |_=>rfl
theorem yo{me:ME}{e:Expr}(h:qe Pm me N sc e=true):ya e=true:=by
 unfold qe at h;exact(Wv.mp h).1
theorem ze{me:ME}{e:Expr}(h:qe Pm me N sc e=true):zq Pm me N sc e=true:=by
 unfold qe at h;exact(Wv.mp h).2
theorem ff{P:Prop}(h:false=true):P:=Vh h
theorem QbI{m:ME}{ms:List ME}{e:Expr}{es:List Expr}(h:Yp Pm (m::ms) N sc (e::es)=true):qe Pm m N sc e=true/\Yp Pm ms N sc es=true:=Wv.mp (show(qe Pm m N sc e&&Yp Pm ms N sc es)=true from h)
theorem zr{env:Env}:∀{es:List Expr},(∀ e∈es,ya e=true)->starEach es env=es.map λe=>(false,eval e env)
 |[],_=>rfl
 |e::es,h=>by
  rw[zl (h e (by simp)),zr λx hx=>h x (by simp[hx])];rfl
theorem Qy{env:Env}{pos:Pos}{es:List Expr}(h:∀ e∈es,ya e=true):(backTo pos (starEach es env)).any (·.1)=false:=by
 rw[zr h];unfold backTo;rw[ug,List.any_map]
 induction es with
 |nil=>rfl
 |cons e es ih=>simp[Function.comp]
theorem PE.imp{e:Expr}{t t':TE}(p:PE X e t)(k:∀ σ H Q,t' σ H Q->t σ H Q):PE X e t':=λpins s σ H Q I h=>p pins s σ H Q I (k σ H Q h)
theorem PT.imp{e:Expr}{t t':TT}(p:PT X e t)(k:∀ σ H Q,t' σ H Q->t σ H Q):PT X e t':=λpins s σ H Q I h=>p pins s σ H Q I (k σ H Q h)
theorem PW.imp{e:Expr}{t t':TT}(p:PW X e t)(k:∀ σ H Q,t' σ H Q->t σ H Q):PW X e t':=λwh pins s σ H Q I h=>p wh pins s σ H Q I (k σ H Q h)
theorem PA.imp{es:List Expr}{t t':TA}(p:PA X es t)(k:∀ σ H Q,t' σ H Q->t σ H Q):PA X es t':=λpos pins s σ H Q I h=>p pos pins s σ H Q I (k σ H Q h)
theorem PS.imp{e:Stmt}{t t':TS}(p:PS X e t)(k:∀ D σ H,t' D σ H->t D σ H):PS X e t':=λpins s σ H D I h=>p pins s σ H D I (k D σ H h)
theorem PSs.imp{e:List Stmt}{t t':TS}(p:PSs X e t)(k:∀ D σ H,t' D σ H->t D σ H):PSs X e t':=λpins s σ H D I h=>p pins s σ H D I (k D σ H h)
noncomputable def lG(ct:Tx)(tg:Tg):TG:=λv σ H Q=>∃ μ h σs m σs',Rel ct μ h H/\RelSt ct μ h H σ σs/\RV ct μ (Liv μ h) H m v/\zT tg m σs=some σs'/\∀ σ',RelSt ct μ h H σ' σs'->Q σ' H
noncomputable def lGs(ct:Tx)(tgs:List Tg):TGs:=λvs σ H Q=>∃ μ h σs ms σs',Rel ct μ h H/\RelSt ct μ h H σ σs/\RVs ct μ (Liv μ h) H ms vs/\zM tgs ms σs=some σs'/\∀ σ',RelSt ct μ h H σ' σs'->Q σ' H
theorem PG.imp{e:Expr}{t t':TG}(p:PG X e t)(k:∀ v σ H Q,t' v σ H Q->t v σ H Q):PG X e t':=λpins s σ H v u Q I r h=>p pins s σ H v u Q I r (k v σ H Q h)
theorem PGs.imp{e:List Expr}{t t':TGs}(p:PGs X e t)(k:∀ v σ H Q,t' v σ H Q->t v σ H Q):PGs X e t':=λpins s σ H v u Q I r h=>p pins s σ H v u Q I r (k v σ H Q h)
theorem YaG{lo:Str->Bool}{t:Tg}{e:Expr}(h:zK lo N sc t e=true):∀(es:List Expr)(env:Env),assignEach (e::es) env=(false,assign e env)::assignEach es env:=by
 intro es env;cases t with
 |nm i=>cases e <;> first|rfl|(simp[zK] at h)
 |tp ts=>cases e <;> first|rfl|(simp[zK] at h)
theorem za2{lo:Str->Bool}{env:Env}:∀{ts:List Tg}{es:List Expr},yal lo N sc ts es=true->(assignEach es env).length=ts.length/\(assignEach es env).findIdx? (·.1)=none
 |[],[],_=>⟨rfl,rfl⟩
 |[],_::_,h=>by simp[yal] at h
 |_::_,[],h=>by simp[yal] at h
 |t::ts,e::es,h=>by
  simp only[yal,Wa] at h;obtain⟨h1,h2⟩:=za2 (env:=env) h.2;rw[YaG h.1 es env];exact⟨by simp[h1],by rw[List.findIdx?_cons];simp[h2]⟩
theorem YaZ:∀{ts:List Tg}{ms:List MV}{σs σs':MSt},zM ts ms σs=some σs'->ms.length=ts.length
 |[],[],_,_,_=>rfl
 |[],_::_,_,_,e=>by simp[zM] at e
 |_::_,[],_,_,e=>by simp[zM] at e
 |t::ts,m::ms,σs,σs',e=>by
  simp only[zM,ub] at e;obtain⟨σ1,_,e2⟩:=e;simp[YaZ e2]
mutual
theorem sG{lo:Str->Bool}(hN:X.N=N)(hs:X.env.scope=sc)(nd:X.N.Nodup)(hc:X.calm=true)(hf:∀ x,lo x=true->X.fn x=true):∀(t:Tg)(e:Expr),zK lo N sc t e=true->PG X e (lG ct t)
 |.nm i,e,h=>by
  cases e with
  |Name x p =>
   simp only[zK,zbF,Wa,beq_iff_eq,Vi] at h;obtain⟨h1,h2⟩:=h;have hi:X.N[i]?=some x:=by rw[hN];exact h1
   have hk:Loc X.env.scope x:=by
    rw[hs]
    rcases h2 with h2|⟨_,h2⟩
    ·exact .inl h2
    ·exact .inr h2
   have hf':X.fn x=true\/X.env.scope.names.lookup x=some .local:=by
    rw[hs]
    rcases h2 with h2|⟨hl,h2⟩
    ·exact .inr h2
    ·exact .inl (hf x hl)
   refine PG.imp (qaN nd hi hk hf') λv σ H Q q=>?_;obtain⟨μ,hh,σs,m,σs',rel,rst,r,e,k⟩:=q;simp[zT] at e;subst e;exact k _ (rst.set i r)
  |_=>simp[zK] at h
 |.tp ts,e,h=>by
  cases e with
  |Tuple es k p =>
   simp only[zK] at h;obtain⟨h1,h2⟩:=za2 (env:=X.env) h;refine PG.imp (qcR hc (sGs hN hs nd hc hf ts es h) h1 h2) λv σ H Q q=>?_;obtain⟨μ,hh,σs,m,σs',rel,rst,r,e,k⟩:=q;simp only[zT,ub] at e;obtain⟨ms,e1,e2⟩:=e;obtain⟨a,vs,rfl,_,rd,rs⟩:=ZF e1 r;exact⟨a,vs,rfl,.inl (.inl rd),by rw[rs.length];exact YaZ e2,μ,hh,σs,ms,σs',rel,rst,rs,e2,k⟩
  |_=>simp[zK] at h
theorem sGs{lo:Str->Bool}(hN:X.N=N)(hs:X.env.scope=sc)(nd:X.N.Nodup)(hc:X.calm=true)(hf:∀ x,lo x=true->X.fn x=true):∀(ts:List Tg)(es:List Expr),yal lo N sc ts es=true->PGs X es (lGs ct ts)
 |[],es,h=>by
  cases es with
  |nil =>
   refine PGs.imp Zcv λv σ H Q q=>?_;obtain⟨μ,hh,σs,ms,σs',rel,rst,rs,e,k⟩:=q;cases ms with
   |nil =>
    simp only[RVs] at rs;subst rs;simp[zM] at e;subst e;exact⟨rfl,k _ rst⟩
   |cons m ms=>simp[zM] at e
  |cons e es=>simp[yal] at h
 |t::ts,es,h=>by
  cases es with
  |nil=>simp[yal] at h
  |cons e es =>
   simp only[yal,Wa] at h;refine PGs.imp (yco (sG hN hs nd hc hf t e h.1) (sGs hN hs nd hc hf ts es h.2) (by rw[YaG h.1 es X.env];rfl)) λv σ H Q q=>?_;obtain⟨μ,hh,σs,ms,σs',rel,rst,rs,e,k⟩:=q;cases ms with
   |nil=>simp[zM] at e
   |cons m ms =>
    simp only[zM,ub] at e;obtain⟨σ1,e1,e2⟩:=e;simp only[RVs] at rs;obtain⟨v1,vr,rfl,r1,r2⟩:=rs;exact⟨v1,vr,rfl,μ,hh,σs,m,σ1,rel,rst,r1,e1,λσ' rst'=>⟨μ,hh,σ1,ms,σs',rel,rst',r2,e2,k⟩⟩
end
end
section
variable {ct:Tx} {X:Cx} {E:XK} {Pm:Prog} {n:Nat} {Ra:L2.St->Prop} {N:List Str} {sc:Scope}
theorem PI.imp{tg e:Expr}{t t':TI}(p:PI X tg e t)(k:∀ σ H Q,t' σ H Q->t σ H Q):PI X tg e t':=λpins s σ H Q I h=>p pins s σ H Q I (k σ H Q h)
noncomputable def Wk(ct:Tx)(J:It)(items:List MV)(g:ZE)(μ1:List Addr)(h1:MH)(H1:Hp):Prop:=∀(i:Nat) μ h H,Ext μ1 h1 H1 μ h H->Rel ct μ h H->GuardOk g h ->
 (i<items.length->J.go i H/\∀ x H2,J.yld i H x H2->∃ m,items[i]?=some m/\Ext μ h H μ h H2/\Rel ct μ h H2/\RV ct μ (Liv μ h) H2 m x)/\(i=items.length->J.stop i H)
noncomputable def Stay(ct:Tx)(b:Bool)(a:Addr)(items:List MV)(g:ZE)(μ1:List Addr)(h1:MH)(H1:Hp):Prop:=∀ μ h H,Ext μ1 h1 H1 μ h H->Rel ct μ h H->GuardOk g h->∃ vs,SqR ct H b a vs/\RVs ct μ (Liv μ h) H items vs
theorem ybn{μ:List Addr}{h:MH}{H:Hp}{m:MV}{v:V}{items:List MV}(rel:Rel ct μ h H)(e:yd h m=some items)(r:RV ct μ (Liv μ h) H m v):∃ b a,v=.ref a/\Stay ct b a items (zd h m) μ h H:=by
 cases m with
 |f x =>
  rcases qD e with e'|e'|⟨ns,e',rfl⟩
  ·obtain⟨a,vs,rfl,na,rd,rs⟩:=ZF e' r;exact⟨true,a,rfl,λμ' h' H' ex _ _=>⟨vs,SqT.of (ex.keep a _ rd na),rs.ext ex⟩⟩
  ·cases x with
   |lst xs =>
    simp only[RV,RF] at r;obtain⟨a,vs,rfl,na,rd,rs⟩:=r;cases e';exact⟨false,a,rfl,λμ' h' H' ex _ _=>⟨vs,.inl (Rd.keep (λo q=>ex.keep a o q na) rd),(RVs.ofF (μ:=μ) rs).ext ex⟩⟩
   |_=>cases e'
  ·cases e';simp only[RV,RF] at r;obtain⟨a,rfl,q⟩:=r;exact⟨false,a,rfl,λμ' h' H' ex _ _=>⟨_,Zbl (L:=Liv μ' h') (q.imp (λ⟨n,o,e⟩=>⟨ex.let.liv a _ e n,o,ex.keep a _ e n⟩) id),Yas ns⟩⟩
 |tup xs =>
  rcases qD e with e'|e'|⟨ns,e',_⟩
  ·obtain⟨a,vs,rfl,na,rd,rs⟩:=ZF e' r;exact⟨true,a,rfl,λμ' h' H' ex _ _=>⟨vs,SqT.of (ex.keep a _ rd na),rs.ext ex⟩⟩
  ·cases e'
  ·cases e'
 |ref i =>
  have e0:yg h i=some items:=e;simp only[RV] at r;obtain⟨b,eb,rfl⟩:=r;refine⟨false,b,rfl,λμ' h' H' ex rel' g=>?_⟩;have g':yg h' i=some items:=g (i,items) (by simp[zd,e0]);obtain⟨b',vs,eb',hb,rs⟩:=rel'.lst g';obtain⟨ν,rfl⟩:=ex.pre;rw[Ub (Xa.mp eb).1,eb] at eb';cases eb';exact⟨vs,SqL.of hb,rs⟩
 |exc c=>cases e
theorem GuardOk.left{g g':ZE}{h:MH}(k:GuardOk (g++g') h):GuardOk g h:=λp hp=>k p (ue _ hp)
theorem GuardOk.right{g g':ZE}{h:MH}(k:GuardOk (g++g') h):GuardOk g' h:=λp hp=>k p (Ud _ hp)
theorem Yc0{K:PySem.W.Frag}(hK:K=ct.K){b:Bool}{a:Addr}{items:List MV}{g:ZE}{μ1:List Addr}{h1:MH}{H1:Hp}(st:Stay ct b a items g μ1 h1 H1):Wk ct (Its K b a) items g μ1 h1 H1:=by
 intro i μ h H ex rel gd;obtain⟨vs,sq,rs⟩:=st μ h H ex rel gd;have hl:=rs.length;refine⟨λhi=>⟨Its.go (sq.s hK) (by lia),λx H2 y=>?_⟩,λhi=>?_⟩
 ·obtain⟨rfl,e⟩:=Its.yld (sq.s hK) y;obtain⟨m,em,rm⟩:=rs.get' e;exact⟨m,em,Ext.refl _ _ _,rel,rm⟩
 ·rw[hi,<- hl];exact Its.stop (sq.s hK)
theorem QcH{K:PySem.W.Frag}(hK:K=ct.K){b1 b2:Bool}{a1 a2:Addr}{xs ys:List MV}{g g':ZE}{μ1:List Addr}{h1:MH}{H1:Hp}(s1:Stay ct b1 a1 xs g μ1 h1 H1)(s2:Stay ct b2 a2 ys g' μ1 h1 H1) :
  Wk ct (Itz K b1 b2 a1 a2) ((xs.zip ys).map λp=>qp [p.1,p.2]) (g++g') μ1 h1 H1:=by
 intro i μ h H ex rel gd;obtain⟨vs,sq,rs⟩:=s1 μ h H ex rel (GuardOk.left gd);obtain⟨ws,sq',rs'⟩:=s2 μ h H ex rel (GuardOk.right gd);have hl:=rs.length;have hl':=rs'.length;refine⟨λhi=>?_,λhi=>?_⟩
 ·simp only[vc,List.length_zip] at hi;refine⟨⟨vs,ws,sq.s hK,sq'.s hK,by lia,by lia⟩,λx H2 y=>?_⟩;obtain⟨T,x1,y1,rfl,hT,rfl,e1,e2⟩:=y;obtain⟨m1,em1,r1⟩:=rs.get' (e1 vs (sq.s hK));obtain⟨m2,em2,r2⟩:=rs'.get' (e2 ws (sq'.s hK));have exn:=Ext.new rel hT (.tup [x1,y1]);refine⟨qp [m1,m2],?_,exn,rel.new hT _,yZ (zaP rel hT) ye (RVs.cons (r1.ext exn) (RVs.cons (r2.ext exn) RVs.nil))⟩;simp only[Uf,List.getElem?_zip_eq_some,xc];exact⟨(m1,m2),⟨em1,em2⟩,rfl⟩
 ·simp only[vc,List.length_zip] at hi;refine⟨vs,ws,sq.s hK,sq'.s hK,?_⟩
  lia
theorem ZcS{lo:Int}{k:Nat}{μ1:List Addr}{h1:MH}{H1:Hp}(f:Nat->Int)(hf:∀ i:Nat,f i=lo+i):Wk ct (Itr lo k) ((uc k).map λi=>MV.f (.int (f i))) [] μ1 h1 H1:=by
 intro i μ h H ex rel gd;refine⟨λhi=>?_,λhi=>?_⟩
 ·have hi':i<k:=by simpa using hi
  refine⟨hi',λx H2 y=>?_⟩;obtain⟨rfl,rfl⟩:=y;refine⟨.f (.int (f i)),by simp[hi'],Ext.refl _ _ _,rel,?_⟩;rw[hf];exact zaD _
 ·have hi':i=k:=by simpa using hi
  exact vn hi'.symm
noncomputable def lI(ct:Tx)(Ra:L2.St->Prop)(E:XK)(ev:MSt->MH->R (List MV))(it:String):TI:=λσ H R=>∃ μ h σs,Rel ct μ h H/\RelSt ct μ h H σ σs/\Ra σ /\
 Po ct E (ev σs h) μ h H λxs μ1 h1 H1=>∃ items g,itV it xs h1=some (items,g)/\Rel ct μ1 h1 H1/\∀ J,Wk ct J items g μ1 h1 H1->R J H1
theorem zcW(hK:X.K=ct.K){tg e:Expr}{ev:MSt->MH->R MV}(h:PE X e (lE ct Ra E ev)):PI X tg e (lI ct Ra E (λσ hh=>(ev σ hh).bind λx h1=>.ok [x] h1) "seq"):=PI.imp (k_sq X.K h) λσ H Q q=>by
 obtain⟨μ,hh,σs,rel,rst,ra,p⟩:=q;refine lE.mk rel rst ra p λm v μ1 h1 H1 ex rel1 rst1 rv p1=>?_;obtain⟨items,g,e1,_,k⟩:=p1.now rel1;simp only[itV,xc,Prod.mk.injEq] at e1;obtain⟨xs,e2,rfl,rfl⟩:=e1;obtain⟨b,a,rfl,st⟩:=ybn rel1 e2 rv;obtain⟨vs,sq,_⟩:=st μ1 h1 H1 (Ext.refl _ _ _) rel1 (λp hp=>by
  cases m with
  |ref i =>
   have e0:yg h1 i=some xs:=e2;simp[zd,e0] at hp;subst hp;exact e0
  |f _=>simp[zd] at hp
  |tup _=>simp[zd] at hp
  |exc _=>simp[zd] at hp)
 exact⟨b,a,rfl,⟨vs,sq.s hK⟩,k _ (Yc0 hK st)⟩
theorem Ya8{h1:MH}{m:MV}{xs:List MV}(e2:yd h1 m=some xs):GuardOk (zd h1 m) h1:=λp hp=>by
 cases m with
 |ref i =>
  have e0:yg h1 i=some xs:=e2;simp[zd,e0] at hp;subst hp;exact e0
 |f _=>simp[zd] at hp
 |tup _=>simp[zd] at hp
 |exc _=>simp[zd] at hp
theorem zb5{tg:Expr}{es:List Expr}{p pos:Pos}{ev:MSt->MH->R (List MV)}(hg:Gl X "range")(hm:X.mg "range"=none)(ha:PA X es (lA ct Ra E ev))(hpl:∀ e∈es,ya e=true)(hl:es.length=1)(hn:∀ σ h xs h',ev σ h=.ok xs h'->xs.length=es.length) :
  PI X tg (.Call (.Name "range" p) es [] pos) (lI ct Ra E ev "range"):=by
 rcases es with _|⟨a,_|⟨b,_|⟨c,_|⟨d,es⟩⟩⟩⟩
 ·simp at hl
 ·refine PI.imp (ZbX hg hm ha (zr hpl)) λσ H Q q=>?_;obtain⟨μ,hh,σs,rel,rst,ra,p⟩:=q;refine⟨μ,hh,σs,rel,rst,ra,?_⟩;cases er:ev σs hh with
  |exc c h'=>rw[er] at p;exact p
  |stuck=>rw[er] at p;exact p
  |ok xs h' =>
   rw[er] at p;have hx:=hn _ _ _ _ er;intro μ' H' ex rel' vs rvs;obtain⟨items,g,e1,_,k⟩:=p μ' H' ex rel'
   rcases xs with _|⟨m,_|⟨m2,xs⟩⟩
   ·simp at hx
   ·obtain⟨v,rfl,rm⟩:=zX rvs;simp only[itV,ub] at e1;obtain⟨j,e2,e3⟩:=e1;have:=qu e2;subst this;split at e3
    next c =>
     simp only[Option.some.injEq,Prod.mk.injEq] at e3;obtain⟨rfl,rfl⟩:=e3;rw[yC rm];exact⟨j,rfl,c.1,c.2,k _ (ZcS _ λi=>by simp)⟩
    next=>cases e3
   ·simp at hx
 ·simp at hl
 ·simp at hl
 ·simp at hl
theorem ycX(hK:X.K=ct.K){a b:Expr}{es:List Expr}{kt:Nat}{pt p pos:Pos}{ev:MSt->MH->R (List MV)}(hg:Gl X "zip")(hm:X.mg "zip"=none)(ha:PA X [a,b] (lA ct Ra E ev))(hpl:∀ e∈[a,b],ya e=true)(hn:∀ σ h xs h',ev σ h=.ok xs h'->xs.length=2) :
  PI X (.Tuple es kt pt) (.Call (.Name "zip" p) [a,b] [] pos) (lI ct Ra E ev "zip"):=by
 refine PI.imp (k_zip X.K hg hm ha (zr hpl) (zr λe he=>hpl e (by simp at he;simp[he]))) λσ H Q q=>?_;obtain⟨μ,hh,σs,rel,rst,ra,p⟩:=q;refine⟨μ,hh,σs,rel,rst,ra,?_⟩;cases er:ev σs hh with
 |exc c h'=>rw[er] at p;exact p
 |stuck=>rw[er] at p;exact p
 |ok xs h' =>
  rw[er] at p;have hx:=hn _ _ _ _ er;intro μ' H' ex rel' vs rvs;obtain⟨items,g,e1,_,k⟩:=p μ' H' ex rel'
  rcases xs with _|⟨m,_|⟨m2,_|⟨m3,xs⟩⟩⟩
  ·simp at hx
  ·simp at hx
  ·obtain⟨v,v',rfl,rm,rm'⟩:=ycw rvs;simp only[itV,ub,xc,Prod.mk.injEq] at e1;obtain⟨us,e2,ws,e3,rfl,rfl⟩:=e1;obtain⟨b1,a1,rfl,s1⟩:=ybn rel' e2 rm;obtain⟨b2,a2,rfl,s2⟩:=ybn rel' e3 rm';obtain⟨vs1,q1,_⟩:=s1 _ _ _ (Ext.refl _ _ _) rel' (Ya8 e2);obtain⟨vs2,q2,_⟩:=s2 _ _ _ (Ext.refl _ _ _) rel' (Ya8 e3);exact⟨b1,b2,a1,a2,rfl,⟨vs1,q1.s hK⟩,⟨vs2,q2.s hK⟩,k _ (QcH hK s1 s2)⟩
  ·simp at hx
end
theorem qJ{a b:String}(h:Str.ofString a=Str.ofString b):a=b:=by
 rw[Str.ofString_eq_toList,Str.ofString_eq_toList] at h;injection h with h
 have h2:a.toList.map Char.toNat=b.toList.map Char.toNat:=by simpa using congrArg uA h
 have h3:a.toList=b.toList:=by
  refine(List.map_inj_right λx y e=>?_).mp h2;exact Char.ext (UInt32.toNat_inj.mp e)
 exact String.ext h3
section
variable {ct:Tx} {X:Cx} {E:XK} {Pm:Prog} {n:Nat} {Ra:L2.St->Prop} {N:List Str} {sc:Scope}
noncomputable def tst(ev:MSt->MH->R MV):MSt->MH->R Bool:=λσ h=>(ev σ h).bind λx h1=>opt (qL x) λk=>.ok k h1
theorem zcl{ev:MSt->MH->R MV}{σ:L2.St}{H:Hp}{Q:Bool->Hp->Prop}(q:lT ct Ra E (tst ev) σ H Q):lE ct Ra E ev σ H λx H'=>∃ k,x=.bl k/\Q k H':=by
 obtain⟨μ,h,σs,rel,rst,ra,p⟩:=q;refine lE.mk rel rst ra p λm v μ1 h1 H1 ex rel1 rst1 rv p1=>?_;obtain⟨k,e,p2⟩:=Po.opt p1;have:=ZaP e;subst this;exact⟨k,Zbb rv,p2.now rel1⟩
theorem qaO{e:Expr}{t:TE}{ev:MSt->MH->R MV}(p:PE X e t)(pt:PT X e (zcH t))(k:∀ σ H Q,lE ct Ra E ev σ H Q->t σ H Q):PE X e (lE ct Ra E ev)/\PT X e (lT ct Ra E (tst ev)) :=
 ⟨PE.imp p k,PT.imp pt λσ H Q q=>k σ H _ (zcl q)⟩
theorem Yc{e:Expr}{ev:MSt->MH->R MV}(p:PE X e (lE ct Ra E ev))(he:∀ whole,isTrue e X.env whole=(do let v<-whole;standAt e.pos;holding [v] (truthy v)):=by intro _;rfl):PE X e (lE ct Ra E ev)/\PT X e (lT ct Ra E (tst ev)) :=
 ⟨p,PT.imp (qbH p he) λσ H Q q=>zcl q⟩
section
variable {ea eb ec:MSt->MH->R MV} {a b c:Expr} {pos:Pos}
theorem zaO{v:V}{x:FV}(h:PE X a (tC v))(r:∀ μ L H,RV ct μ L H (.f x) v):PE X a (lE ct Ra E λ_ h=>.ok (.f x) h):=PE.imp h λσ H Q q=>by
 obtain⟨μ,hh,σs,rel,rst,ra,p⟩:=q;exact p.now rel v (r _ _ _)
theorem e_var{i:Nat}{x:Str}(hN:X.N[i]?=some x)(hv:Zbz X.env.scope x=true):PE X (.Name x pos) (lE ct Ra E λσ h=>opt ((σ[i]?).join) λv=>.ok v h):=by
 unfold Zbz at hv;simp only[Wa,Vi,beq_iff_eq,vi] at hv;refine PE.imp (ybI hN (by rcases hv.1.1 with (h|h)|h;exact .inl h;exact .inr (.inl h);exact .inr (.inr h)) hv.1.2 hv.2) λσ H Q q=>?_;obtain⟨μ,hh,σs,rel,rst,ra,p⟩:=q;obtain⟨m,e,p⟩:=Po.opt p;have e':σs[i]?=some (some m):=by
  cases q:σs[i]? with
  |none=>rw[q] at e;cases e
  |some z=>rw[q] at e;exact congrArg some e
 obtain⟨v,e2,rv⟩:=rst.at_ i m e';exact⟨v,e2,p.now rel v rv⟩
theorem e_bin(fz:Bool)(op:BO)(ha:PE X a (lE ct Ra E ea))(hb:PE X b (lE ct Ra E eb)):PE X (.BinOp a (mOp op) b pos) (lE ct Ra E λσ h=>(ea σ h).bind λx h1=>(eb σ h1).bind λy h2=>Qi fz op x y h2) :=
 PE.imp (Ybr (Zc1 (ct:=ct) (E:=E) fz op) ha hb) λσ H Q q=>by
  obtain⟨μ,h,σs,rel,rst,ra,p⟩:=q;exact lE.mk rel rst ra p λm v μ1 h1 H1 ex rel1 rst1 rv p1=>lE.mk rel1 rst1 ra p1 λm2 v2 μ2 h2 H2 ex2 rel2 rst2 rv2 p2=>⟨μ2,h2,m,m2,rel2,rv.ext ex2,rv2,p2⟩
theorem e_neg(ha:PE X a (lE ct Ra E ea)):PE X (.UnaryOp .USub a pos) (lE ct Ra E λσ h=>(ea σ h).bind λx h1=>opt (Ze x) λi=>.ok (.f (.int (-i))) h1) :=
 PE.imp (qcD Yb9 ha) λσ H Q q=>by
  obtain⟨μ,h,σs,rel,rst,ra,p⟩:=q;refine lE.mk rel rst ra p λm v μ1 h1 H1 ex rel1 rst1 rv p1=>?_;obtain⟨i,e,p2⟩:=Po.opt p1;have:=qu e;subst this;exact⟨i,yC rv,p2.now rel1 _ (zaD _)⟩
theorem e_cmp(hK:X.K=ct.K)(op:CO)(hu:X.A.units+65<cLine)(ha:PE X a (lE ct Ra E ea))(hb:PE X b (lE ct Ra E eb))(hp:ya b=true) :
  PE X (.Compare a [zce op] [b] pos) (lE ct Ra E λσ h=>(ea σ h).bind λx h1=>(eb σ h1).bind λy h2=>opt (QT op x y h2) λk=>.ok (.f (.bl k)) h2) /\
  PT X (.Compare a [zce op] [b] pos) (lT ct Ra E (tst λσ h=>(ea σ h).bind λx h1=>(eb σ h1).bind λy h2=>opt (QT op x y h2) λk=>.ok (.f (.bl k)) h2)) :=
 qaO (Qbk (zca (ct:=ct) hK hu op) ha hb (qM hp _)) (YaO (zca (ct:=ct) hK hu op) ha hb (qM hp _)) λσ H Q q=>by
  obtain⟨μ,h,σs,rel,rst,ra,p⟩:=q;refine lE.mk rel rst ra p λm v μ1 h1 H1 ex rel1 rst1 rv p1=>lE.mk rel1 rst1 ra p1 λm2 v2 μ2 h2 H2 ex2 rel2 rst2 rv2 p2=>?_;obtain⟨k,e,p3⟩:=Po.opt p2;exact⟨μ2,h2,m,m2,k,rel2,rv.ext ex2,rv2,e,p3.now rel2 _ (yR _)⟩
theorem ycK{μ:List Addr}{L:Addr->Prop}{H:Hp}{m:MV}{v:V}(r:RV ct μ L H m v):QK m=decide (v=.non):=by
 cases m with
 |f x =>
  cases x with
  |non=>simp only[RV,RF] at r;subst r;rfl
  |bl _=>simp only[RV,RF] at r;subst r;rfl
  |int _=>simp only[RV,RF] at r;subst r;rfl
  |str _=>simp only[RV,RF] at r;subst r;rfl
  |tup _=>simp only[RV,RF] at r;obtain⟨_,_,rfl,_⟩:=r;rfl
  |lst _=>simp only[RV,RF] at r;obtain⟨_,_,rfl,_⟩:=r;rfl
  |obj _ _ _=>simp only[RV,RF] at r;obtain⟨_,_,_,rfl,_⟩:=r;rfl
  |scr _=>simp only[RV,RF] at r;obtain⟨_,rfl,_⟩:=r;rfl
  |tab _=>simp only[RV,RF] at r;obtain⟨_,_,rfl,_⟩:=r;rfl
  |msk _=>simp only[RV,RF] at r;obtain⟨_,_,rfl,_⟩:=r;rfl
 |ref _=>simp only[RV] at r;obtain⟨_,_,rfl⟩:=r;rfl
 |tup _=>simp only[RV] at r;obtain⟨_,_,rfl,_⟩:=r;rfl
 |exc _=>simp only[RV] at r;obtain⟨_,rfl,_⟩:=r;rfl
theorem e_not(ha:PE X a (lE ct Ra E ea))(ta:PT X a (lT ct Ra E (tst ea))) :
  PE X (.UnaryOp .Not a pos) (lE ct Ra E λσ h=>(ea σ h).bind λx h1=>opt (qL x) λk=>.ok (.f (.bl (!k))) h1) /\
  PT X (.UnaryOp .Not a pos) (lT ct Ra E (tst λσ h=>(ea σ h).bind λx h1=>opt (qL x) λk=>.ok (.f (.bl (!k))) h1)):=by
 refine⟨PE.imp (ZcI ha) λσ H Q q=>?_,PT.imp (Zb6 ta) λσ H Q q=>?_⟩
 ·obtain⟨μ,h,σs,rel,rst,ra,p⟩:=q;refine lE.mk rel rst ra p λm v μ1 h1 H1 ex rel1 rst1 rv p1=>?_;obtain⟨k,e,p2⟩:=Po.opt p1;have:=ZaP e;subst this;exact⟨k,Zbb rv,p2.now rel1 _ (yR _)⟩
 ·obtain⟨μ,h,σs,rel,rst,ra,p⟩:=q;refine⟨μ,h,σs,rel,rst,ra,?_⟩;dsimp only[tst] at p ⊢;cases er:ea σs h with
  |stuck=>rw[er] at p;exact p
  |exc c h'=>rw[er] at p;exact p
  |ok x h' =>
   rw[er] at p;simp only[R.bind_ok] at p ⊢;cases eb:qL x with
   |none=>rw[eb] at p;exact p
   |some k =>
    rw[eb] at p;exact p
theorem e_ite(tc:PT X c (lT ct Ra E (tst ec)))(ha:PE X a (lE ct Ra E ea))(hb:PE X b (lE ct Ra E eb)) :
  PE X (.IfExp c a b pos) (lE ct Ra E λσ h=>(ec σ h).bind λx h1=>opt (qL x) λk=>if k=true then ea σ h1 else eb σ h1) :=
 PE.imp (qcb tc ha hb) λσ H Q q=>by
  obtain⟨μ,h,σs,rel,rst,ra,p⟩:=q;have p':Po ct E ((tst ec σs h).bind λk h1=>if k=true then ea σs h1 else eb σs h1) μ h H (kV ct Q):=by
   dsimp only[tst] at p ⊢;cases er:ec σs h with
   |stuck=>rw[er] at p;exact p
   |exc c h'=>rw[er] at p;exact p
   |ok x h' =>
    rw[er] at p;simp only[R.bind_ok] at p ⊢;cases eb:qL x with
    |none=>rw[eb] at p;exact p
    |some k=>rw[eb] at p;exact p
  refine lT.mk rel rst ra p' λk μ1 h1 H1 ex rel1 rst1 p1=>?_;cases k with
  |true=>exact⟨μ1,h1,σs,rel1,rst1,ra,p1⟩
  |false=>exact⟨μ1,h1,σs,rel1,rst1,ra,p1⟩
theorem e_frz(ha:PE X a (lE ct Ra E ea)):PE X a (lE ct Ra E λσ h=>(ea σ h).bind λx h1=>Qao x h1):=PE.imp ha λσ H Q q=>by
 obtain⟨μ,h,σs,rel,rst,ra,p⟩:=q;refine lE.mk rel rst ra p λm v μ1 h1 H1 ex rel1 rst1 rv p1=>?_;obtain⟨x,h',ex',rel',rv',k⟩:=Zcl rel1 rv p1;exact k v rv'
theorem e_sub(hK:X.K=ct.K)(ha:PE X a (lE ct Ra E ea))(hb:PE X b (lE ct Ra E eb))(hp:ya b=true) :
  PE X (.Subscript a b pos) (lE ct Ra E λσ h=>(ea σ h).bind λx h1=>(eb σ h1).bind λy h2=>opt (yd h2 x) λxs=>opt (Ze y) λk=>opt (atM xs k) λv=>.ok v h2) :=
 PE.imp (Zbx (Zcy (ct:=ct) hK) ha hb (ybq hp)) λσ H Q q=>by
  obtain⟨μ,h,σs,rel,rst,ra,p⟩:=q;refine lE.mk rel rst ra p λm v μ1 h1 H1 ex rel1 rst1 rv p1=>lE.mk rel1 rst1 ra p1 λm2 v2 μ2 h2 H2 ex2 rel2 rst2 rv2 p2=>?_;obtain⟨xs,e1,p3⟩:=Po.opt p2;obtain⟨k,e2,p4⟩:=Po.opt p3;obtain⟨w,e3,p5⟩:=Po.opt p4;have:=qu e2;subst this;exact⟨μ2,h2,m,k,xs,w,rel2,rv.ext ex2,yC rv2,e1,e3,p5.now rel2⟩
end
end
section
variable {ct:Tx} {X:Cx} {E:XK} {Pm:Prog} {n:Nat} {Ra:L2.St->Prop} {N:List Str} {sc:Scope}
noncomputable def Bo(ct:Tx)(X:Cx)(Ra:L2.St->Prop)(E:XK)(Pm:Prog)(n:Nat):List ME->List Expr->Prop
 |[],[]=>True
 |m::ms,e::es=>(ya e=true/\PE X e (lE ct Ra E (Zb Pm (run Pm n) m))/\(okT m=true->PT X e (lT ct Ra E (tst (Zb Pm (run Pm n) m)))))/\Bo ct X Ra E Pm n ms es
 |_,_=>False
theorem Bo.pa:∀{ms:List ME}{es:List Expr},Bo ct X Ra E Pm n ms es->PA X es (lA ct Ra E (Yj Pm (run Pm n) ms))
 |[],[],_=>PA.imp Qp λσ H Q q=>by
  obtain⟨μ,h,σs,rel,rst,ra,p⟩:=q;simp only[Yj] at p;exact p.now rel [] RVs.nil
 |[],_::_,b=>b.elim
 |_::_,[],b=>b.elim
 |m::ms,e::es,b=>PA.imp (Yb b.1.2.1 (Bo.pa b.2) (zl b.1.1)) λσ H Q q=>by
  obtain⟨μ,h,σs,rel,rst,ra,p⟩:=q;simp only[Yj] at p;refine lE.mk rel rst ra p λm' v μ1 h1 H1 ex rel1 rst1 rv p1=>?_;refine lA.mk rel1 rst1 ra p1 λms' vs μ2 h2 H2 ex2 rel2 rst2 rvs p2=>?_;exact p2.now rel2 _ (RVs.cons (rv.ext ex2) rvs)
theorem Bo.plain:∀{ms:List ME}{es:List Expr},Bo ct X Ra E Pm n ms es->∀ e∈es,ya e=true
 |[],[],_,e,he=>by simp at he
 |[],_::_,b,_,_=>b.elim
 |_::_,[],b,_,_=>b.elim
 |m::ms,e::es,b,x,hx=>by
  rcases vb.mp hx with rfl|hx
  ·exact b.1.1
  ·exact Bo.plain b.2 x hx
theorem Bo.length:∀{ms:List ME}{es:List Expr},Bo ct X Ra E Pm n ms es->ms.length=es.length
 |[],[],_=>rfl
 |[],_::_,b=>b.elim
 |_::_,[],b=>b.elim
 |m::ms,e::es,b=>by simp[Bo.length b.2]
theorem qT{W:String->List MV->MH->R MV}:∀{ms:List ME}{σ:MSt}{h:MH}{xs:List MV}{h':MH},Yj Pm W ms σ h=.ok xs h'->xs.length=ms.length
 |[],σ,h,xs,h',e=>by simp only[Yj,R.ok.injEq] at e;simp[<- e.1]
 |m::ms,σ,h,xs,h',e=>by
  simp only[Yj] at e;cases e1:Zb Pm W m σ h with
  |stuck=>rw[e1] at e;cases e
  |exc c h2=>rw[e1] at e;cases e
  |ok x h1 =>
   rw[e1] at e;simp only[R.bind_ok] at e;cases e2:Yj Pm W ms σ h1 with
   |stuck=>rw[e2] at e;cases e
   |exc c h2=>rw[e2] at e;cases e
   |ok ys h2 =>
    rw[e2] at e;simp only[R.bind_ok,R.ok.injEq] at e;rw[<- e.1,We,We,qT e2]
theorem ZcE{pos:Pos}:∀{ms:List ME}{es:List Expr},Bo ct X Ra E Pm n ms es->ms.all okT=true->PE X (.BoolOp .And es pos) (lE ct Ra E (Yy Pm (run Pm n) ms))/\PW X (.BoolOp .And es pos) (lT ct Ra E (tst (Yy Pm (run Pm n) ms)))
 |[],[],_,_=>⟨λpins s σ H Q I q=>by
   obtain⟨μ,h,σs,rel,rst,ra,p⟩:=q;simp only[Yy] at p;exact p.elim,λwh pins s σ H Q I q=>by
   obtain⟨μ,h,σs,rel,rst,ra,p⟩:=q;simp only[tst,Yy] at p;exact p.elim⟩
 |[],_::_,b,_=>b.elim
 |_::_,[],b,_=>b.elim
 |[m],[e],b,ht=>by
  simp at ht;refine⟨PE.imp (zcb b.1.2.1) λσ H Q q=>?_,PW.imp (Zcr (b.1.2.2 ht)) λσ H Q q=>?_⟩
  ·simpa only[Yy] using q
  ·have:Yy Pm (run Pm n) [m]=Zb Pm (run Pm n) m:=by funext σ h;simp only[Yy]
   rw[this] at q;exact q
 |[m],_::_::_,b,_=>b.2.elim
 |_::_::_,[_],b,_=>b.2.elim
 |m::m'::ms,e::e'::es,b,ht=>by
  have ht':okT m=true/\(m'::ms).all okT=true:=by simpa using ht
  obtain⟨i1,i2⟩:=ZcE (ms:=m'::ms) (es:=e'::es) (pos:=pos) b.2 ht'.2;refine⟨PE.imp (QcL b.1.2.1 i1) λσ H Q q=>?_,PW.imp (QcP (b.1.2.2 ht'.1) i2) λσ H Q q=>?_⟩
  ·obtain⟨μ,h,σs,rel,rst,ra,p⟩:=q;simp only[Yy] at p;refine lE.mk rel rst ra p λx v μ1 h1 H1 ex rel1 rst1 rv p1=>?_;obtain⟨k,ek,p2⟩:=Po.opt p1;have:=ZaP ek;subst this;refine⟨k,Zbb rv,?_⟩;cases k with
   |true=>exact⟨μ1,h1,σs,rel1,rst1,ra,p2⟩
   |false=>exact p2.now rel1 _ (yR _)
  ·obtain⟨μ,h,σs,rel,rst,ra,p⟩:=q;have p':Po ct E ((tst (Zb Pm (run Pm n) m) σs h).bind λk h1=>if k=true then tst (Yy Pm (run Pm n) (m'::ms)) σs h1 else .ok false h1) μ h H (λb _ _ H'=>Q b H'):=by
    simp only[tst,Yy] at p ⊢;cases er:Zb Pm (run Pm n) m σs h with
    |stuck=>rw[er] at p;exact p
    |exc c h'=>rw[er] at p;exact p
    |ok x h' =>
     rw[er] at p;simp only[R.bind_ok] at p ⊢;cases eb:qL x with
     |none=>rw[eb] at p;exact p
     |some k =>
      rw[eb] at p;cases k with
      |true=>exact p
      |false=>exact p
   refine lT.mk rel rst ra p' λk μ1 h1 H1 ex rel1 rst1 p1=>?_;cases k with
   |true=>exact⟨μ1,h1,σs,rel1,rst1,ra,p1⟩
   |false=>exact p1.now rel1
theorem e_or{pos:Pos}:∀{ms:List ME}{es:List Expr},Bo ct X Ra E Pm n ms es->ms.all okT=true->PE X (.BoolOp .Or es pos) (lE ct Ra E (qG Pm (run Pm n) ms))/\PW X (.BoolOp .Or es pos) (lT ct Ra E (tst (qG Pm (run Pm n) ms)))
 |[],[],_,_=>⟨λpins s σ H Q I q=>by
   obtain⟨μ,h,σs,rel,rst,ra,p⟩:=q;simp only[qG] at p;exact p.elim,λwh pins s σ H Q I q=>by
   obtain⟨μ,h,σs,rel,rst,ra,p⟩:=q;simp only[tst,qG] at p;exact p.elim⟩
 |[],_::_,b,_=>b.elim
 |_::_,[],b,_=>b.elim
 |[m],[e],b,ht=>by
  simp at ht;refine⟨PE.imp (zcb b.1.2.1) λσ H Q q=>?_,PW.imp (Yb3 (b.1.2.2 ht)) λσ H Q q=>?_⟩
  ·simpa only[qG] using q
  ·have:qG Pm (run Pm n) [m]=Zb Pm (run Pm n) m:=by funext σ h;simp only[qG]
   rw[this] at q;exact q
 |[m],_::_::_,b,_=>b.2.elim
 |_::_::_,[_],b,_=>b.2.elim
 |m::m'::ms,e::e'::es,b,ht=>by
  have ht':okT m=true/\(m'::ms).all okT=true:=by simpa using ht
  obtain⟨i1,i2⟩:=e_or (ms:=m'::ms) (es:=e'::es) (pos:=pos) b.2 ht'.2;refine⟨PE.imp (pe_or b.1.2.1 i1) λσ H Q q=>?_,PW.imp (QcG (b.1.2.2 ht'.1) i2) λσ H Q q=>?_⟩
  ·obtain⟨μ,h,σs,rel,rst,ra,p⟩:=q;simp only[qG] at p;refine lE.mk rel rst ra p λx v μ1 h1 H1 ex rel1 rst1 rv p1=>?_;obtain⟨k,ek,p2⟩:=Po.opt p1;have:=ZaP ek;subst this;refine⟨k,Zbb rv,?_⟩;cases k with
   |false=>exact⟨μ1,h1,σs,rel1,rst1,ra,p2⟩
   |true=>exact p2.now rel1 _ (yR _)
  ·obtain⟨μ,h,σs,rel,rst,ra,p⟩:=q;have p':Po ct E ((tst (Zb Pm (run Pm n) m) σs h).bind λk h1=>if k=true then .ok true h1 else tst (qG Pm (run Pm n) (m'::ms)) σs h1) μ h H (λb _ _ H'=>Q b H'):=by
    simp only[tst,qG] at p ⊢;cases er:Zb Pm (run Pm n) m σs h with
    |stuck=>rw[er] at p;exact p
    |exc c h'=>rw[er] at p;exact p
    |ok x h' =>
     rw[er] at p;simp only[R.bind_ok] at p ⊢;cases eb:qL x with
     |none=>rw[eb] at p;exact p
     |some k =>
      rw[eb] at p;cases k with
      |true=>exact p
      |false=>exact p
   refine lT.mk rel rst ra p' λk μ1 h1 H1 ex rel1 rst1 p1=>?_;cases k with
   |false=>exact⟨μ1,h1,σs,rel1,rst1,ra,p1⟩
   |true=>exact p1.now rel1
section
variable {ea:MSt->MH->R MV} {es:List Expr} {ev:MSt->MH->R (List MV)} {a:Expr} {pos:Pos}
theorem e_tup{k:Nat}(ha:PA X es (lA ct Ra E ev))(hl:∀ σ h xs h',ev σ h=.ok xs h'->xs.length<=sizeLine):PE X (.Tuple es k pos) (lE ct Ra E λσ h=>(ev σ h).bind λxs h1=>.ok (qp xs) h1):=PE.imp (ZcO ha) λσ H Q q=>by
 obtain⟨μ,h,σs,rel,rst,ra,p⟩:=q;refine⟨μ,h,σs,rel,rst,ra,?_⟩;dsimp only at p;cases er:ev σs h with
 |stuck=>rw[er] at p;exact p
 |exc c h'=>rw[er] at p;exact p
 |ok xs h' =>
  rw[er] at p;intro μ1 H1 ex rel1 vs rvs;exact⟨by rw[rvs.length];exact hl _ _ _ _ er,Yat rel1 rvs (Po.start ex p)⟩
theorem e_lst(fz:Bool)(ha:PA X es (lA ct Ra E ev))(hl:∀ σ h xs h',ev σ h=.ok xs h'->xs.length<=sizeLine):PE X (.List es pos) (lE ct Ra E λσ h=>(ev σ h).bind λxs h1=>Yx fz xs h1):=PE.imp (QaU ha) λσ H Q q=>by
 obtain⟨μ,h,σs,rel,rst,ra,p⟩:=q;refine⟨μ,h,σs,rel,rst,ra,?_⟩;dsimp only at p;cases er:ev σs h with
 |stuck=>rw[er] at p;exact p
 |exc c h'=>rw[er] at p;exact p
 |ok xs h' =>
  rw[er] at p;intro μ1 H1 ex rel1 vs rvs;exact⟨by rw[rvs.length];exact hl _ _ _ _ er,yJ rel1 rvs (Po.start ex p)⟩
theorem PO.imp{e:Option Expr}{t t':TO}(p:PO X e t)(k:∀ σ H Q,t' σ H Q->t σ H Q):PO X e t':=λpins s σ H Q I h=>p pins s σ H Q I (k σ H Q h)
theorem zcw(hK:X.K=ct.K)(fz:Bool){lo hi:Option Expr}{el eh:MSt->MH->R (Option Int)}{p2:Pos}(ha:PE X a (lE ct Ra E ea))(hl:PO X lo (lO ct Ra E el))(hh:PO X hi (lO ct Ra E eh)) :
  PE X (.Subscript a (.Slice lo hi none p2) pos) (lE ct Ra E λσ h=>(ea σ h).bind λx h1=>(el σ h1).bind λl h2=>(eh σ h2).bind λu h3=>y0 fz x l u h3) :=
 PE.imp (qb4 (qcs (ct:=ct) (E:=E) hK fz) ha hl hh) λσ H Q q=>by
  obtain⟨μ,h,σs,rel,rst,ra,p⟩:=q;refine lE.mk rel rst ra p λm v μ1 h1 H1 ex rel1 rst1 rv p1=>?_;refine lO.mk rel1 rst1 ra p1 λl μ2 h2 H2 ex2 rel2 rst2 p2=>?_;refine lO.mk rel2 rst2 ra p2 λu μ3 h3 H3 ex3 rel3 rst3 p3=>?_;exact⟨μ3,h3,m,rel3,(rv.ext ex2).ext ex3,p3⟩
theorem zbR{L:Addr->Prop}{H:Hp}{f:String}:∀{ns:List String}{xs:List FV}{fs:List (Str×V)} {x:FV},fs.map uq=ns.map Str.ofString->RFs ct L H xs (fs.map vk)->QaZ f ns xs=some x->∃ v,fs.lookup (Str.ofString f)=some v/\RF ct L H x v
 |[],_,_,_,_,_,e=>by simp[QaZ] at e
 |_::_,[],_,_,_,_,e=>by simp[QaZ] at e
 |m::ns,y::xs,fs,x,h1,h2,e=>by
  cases fs with
  |nil=>simp at h1
  |cons p fs =>
   obtain⟨k,u⟩:=p;simp only[Xd,List.cons.injEq] at h1;simp only[Xd,RFs] at h2;obtain⟨v,r,hvr,r1,r2⟩:=h2;simp only[List.cons.injEq] at hvr;obtain⟨rfl,rfl⟩:=hvr;simp only[QaZ] at e;by_cases hf:f=m
   ·subst hf;simp at e;subst e;exact⟨u,by simp[wb,h1.1],r1⟩
   ·rw[if_neg hf] at e;obtain⟨w,q1,q2⟩:=zbR h1.2 r2 e;refine⟨w,?_,q2⟩;have:(Str.ofString f==k)=false:=by
     rw[h1.1];exact beq_false_of_ne λz=>hf (qJ z)
    simp[wb,this,q1]
theorem qbO{μ:List Addr}{L:Addr->Prop}{H:Hp}{f:String}:∀{fs:List (String×MV)} {gs:List (Str×V)} {m:MV},gs.map uq=fs.map (λp=>Str.ofString p.1)->RVs ct μ L H (fs.map vk) (gs.map vk)->fs.lookup f=some m->∃ v,gs.lookup (Str.ofString f)=some v/\RV ct μ L H m v
 |[],_,_,_,_,e=>by simp at e
 |(k,y)::fs,gs,m,h1,h2,e=>by
  cases gs with
  |nil=>simp at h1
  |cons p gs =>
   obtain⟨k',u⟩:=p;simp only[Xd,List.cons.injEq] at h1;simp only[Xd,RVs] at h2;obtain⟨v,r,hvr,r1,r2⟩:=h2;simp only[List.cons.injEq] at hvr;obtain⟨rfl,rfl⟩:=hvr;by_cases hf:f=k
   ·subst hf;simp[wb] at e;subst e;exact⟨u,by simp[wb,h1.1],r1⟩
   ·have hb:(f==k)=false:=beq_false_of_ne hf;simp[wb,hb] at e;obtain⟨w,q1,q2⟩:=qbO h1.2 r2 e;refine⟨w,?_,q2⟩;have:(Str.ofString f==k')=false:=by
     rw[h1.1];exact beq_false_of_ne λz=>hf (qJ z)
    simp[wb,this,q1]
theorem Rel.obj{μ:List Addr}{h:MH}{H:Hp}(rel:Rel ct μ h H){i:Nat}{c:String}{fs:List (String×MV)}(e:h[i]?=some (.obj c fs)):∃ b dx gs,μ[i]?=some b/\H b=some (.ins (ct c) dx gs)/\gs.map uq=fs.map (λp=>Str.ofString p.1)/\RVs ct μ (Liv μ h) H (fs.map vk) (gs.map vk):=by
 have hi:i<μ.length:=by rw[rel.len];exact(Xa.mp e).1
 obtain⟨dx,gs,q1,q2,q3⟩:=rel.cells i μ[i] _ (by simp[hi]) e;exact⟨_,dx,gs,by simp[hi],q1,q2,q3⟩
theorem e_fld{f:String}(T:Txt X.prog X.w X.K X.mg X.base Pm ct n)(ha:PE X a (lE ct Ra E ea))(hn:Qe a=true):PE X (.Attribute a (Str.ofString f) pos) (lE ct Ra E λσ h=>(ea σ h).bind λx h1=>opt (zbv Pm.fok f x h1) λv=>.ok v h1) :=
 PE.imp (k_fld X.K ha (Qv hn)) λσ H Q q=>by
  obtain⟨μ,h,σs,rel,rst,ra,p⟩:=q;refine lE.mk rel rst ra p λm v μ1 h1 H1 ex rel1 rst1 rv p1=>?_;obtain⟨w,e,p2⟩:=Po.opt p1;unfold zbv at e;split at e
  next c ns xs =>
   split at e
   next ok =>
    simp only[xc] at e;obtain⟨x,e1,rfl⟩:=e;simp only[RV,RF] at rv;obtain⟨b,dx,fs,rfl,nl,hb,q1,q2⟩:=rv;obtain⟨u,e2,ru⟩:=zbR q1 q2 e1;obtain⟨t1,t2⟩:=T.fok c f ok;exact⟨b,ct c,dx,fs,u,rfl,hb,t1,t2,e2,p2.now rel1 u (by simp only[RV];exact ru)⟩
   next=>cases e
  next i =>
   split at e
   next c fs ec =>
    split at e
    next ok =>
     simp only[RV] at rv;obtain⟨b,eb,rfl⟩:=rv;obtain⟨b',dx,gs,eb',hb,q1,q2⟩:=rel1.obj ec;rw[eb] at eb';cases eb';obtain⟨u,e2,ru⟩:=qbO q1 q2 e;obtain⟨t1,t2⟩:=T.fok c f ok;exact⟨b,ct c,dx,gs,u,rfl,hb,t1,t2,e2,p2.now rel1 u ru⟩
    next=>cases e
   next=>cases e
  next=>cases e
end
end
section
variable {ct:Tx} {X:Cx} {E:XK} {Pm:Prog} {n:Nat} {Ra:L2.St->Prop} {N:List Str} {sc:Scope}
section
variable {ea:MSt->MH->R MV} {v:Expr} {es:List Expr} {ev:MSt->MH->R (List MV)} {a:Expr} {p pos:Pos}
theorem YcY{f:String}{d:MDef}(c:Cc X Pm ct n Ra E N sc)(hd:Pm.defs f=some d)(hdot:f.toList.contains '.'=false)(hg:gl sc (Str.ofString f)=true)(ha:PA X (v::es) (lA ct Ra E ev))(hpl:∀ e∈v::es,ya e=true) :
  PE X (.Call (.Name (Str.ofString f) p) (v::es) [] pos) (lE ct Ra E λσ h=>(ev σ h).bind λxs h1=>run Pm n f xs h1):=by
 obtain⟨g1,g2,g3⟩:=YY c.sc hg;obtain⟨ps,D⟩:=c.txt.defs f d hd hdot;intro pins s σ H Q I q;obtain⟨μ,h,σs,rel,rst,ra,p⟩:=q;refine YbR (σ0:=σ) D (c.room.mono (by lia)) g1 (c.pas σ ra) ha g2 (zl (hpl v (by simp))) (Qy λe he=>hpl e (by simp[he])) pins s σ H Q I ⟨rfl,?_⟩;refine lA.mk rel rst ra p λms vs μ1 h1 H1 ex rel1 rst1 rvs p1=>?_;exact⟨μ1,h1,ms,rel1,by simpa using rvs,p1⟩
theorem QcK(fz:Bool){cn f:String}(c:Cc X Pm ct n Ra E N sc)(hi:Pm.meths cn "__init__"=some f)(hg:gl sc (Str.ofString cn)=true)(ha:PA X (v::es) (lA ct Ra E ev))(hpl:∀ e∈v::es,ya e=true) :
  PE X (.Call (.Name (Str.ofString cn) p) (v::es) [] pos) (lE ct Ra E λσ h=>(ev σ h).bind λxs h1=>Qak Pm (run Pm n) fz cn xs h1):=by
 obtain⟨g1,g2,g3⟩:=YY c.sc hg;obtain⟨ps,D⟩:=c.txt.inits cn f hi;intro pins s σ H Q I q;obtain⟨μ,h,σs,rel,rst,ra,p⟩:=q;refine zbZ (σ0:=σ) D c.room g1 (c.pas σ ra) ha g2 (zl (hpl v (by simp))) (Qy λe he=>hpl e (by simp[he])) pins s σ H Q I ⟨rfl,?_⟩;refine lA.mk rel rst ra p λms vs μ1 h1 H1 ex rel1 rst1 rvs p1=>?_;intro x dx hx hdx hne;have hx':upd H1 dx (.own x) x=none:=by rw[qc (Ne.symm hne)];exact hx
 have ex1:=Ext.new rel1 hdx (.own x);have rel2:=rel1.new hdx (.own x);have ex2:=Ext.cell rel2 hx' (.obj cn []) (.ins (ct cn) dx []);have rel3:Rel ct (μ1++[x]) (h1++[.obj cn []]) (upd (upd H1 dx (.own x)) x (.ins (ct cn) dx [])):=rel2.cell hx' ⟨dx,[],ye,rfl,RVs.nil⟩;have ex3:=ex1.trans ex2;refine⟨μ1++[x],h1++[.obj cn []],.ref h1.length::ms,rel3,RVs.cons ?_ (by simpa using rvs.ext ex3),?_⟩
 ·simp only[RV];exact⟨x,by rw[<- rel1.len];simp,rfl⟩
 ·unfold Qak at p1;rw[hi] at p1;dsimp only at p1;cases er:run Pm n f (.ref h1.length::ms) (h1++[.obj cn []]) with
  |stuck=>rw[er] at p1;exact p1.elim
  |exc c h2=>rw[er] at p1;exactλμ2 H2 ex4 rel4=>p1 μ2 H2 (ex3.trans ex4) rel4
  |ok m h2 =>
   rw[er] at p1;simp only[R.bind_ok] at p1;intro μ2 H2 ex4 rel4 u ru;have hnon:QK m=true:=by
    cases em:QK m with
    |true=>rfl
    |false=>rw[em] at p1;simp only[if_true] at p1;exact p1.elim
   rw[hnon] at p1;simp only[XB,if_false] at p1;rw[ycK ru] at hnon;refine⟨of_decide_eq_true hnon,?_⟩;have ext:=ex3.trans ex4;obtain⟨ν,eν⟩:=ex4.pre;rw[vf] at eν;subst eν;have hx2:(μ1++([x]++ν))[h1.length]?=some x:=by rw[<- rel1.len];simp
   cases fz with
   |false=>exact p1 _ H2 ext rel4 _ (by simp only[RV];exact⟨x,hx2,rfl⟩)
   |true =>
    dsimp only at p1;split at p1
    next c' fs ec =>
     obtain⟨ys,ey,p4⟩:=Po.opt p1;split at p4
     next t =>
      obtain⟨b,dx',gs,eb,hb,q1,q2⟩:=rel4.obj ec;rw[hx2] at eb;cases eb;have nx:x∉μ1:=rel1.fresh hx;refine p4 μ1 H2 (Ext.cut rel1.len ext) (rel1.cut t rel4) (.ref x) ?_;simp only[RV,RF];refine⟨x,dx',gs,rfl,λl=>?_,hb,?_,?_⟩
      ·obtain⟨i,_,e1,_,_⟩:=l;exact nx (Ui e1)
      ·rw[q1,ug];rfl
      ·exact RFs.to ⟨λ_ _ e _=>e,λb _ _ nl l=>nl (Liv.cut rel1.len l)⟩ (RVs.toF ey q2)
     next=>exact p4.elim
    next=>exact p1.elim
theorem yce(fz:Bool){id:String}(c:Cc X Pm ct n Ra E N sc)(hx:id∈fnNames)(hg:gl sc (Str.ofString id)=true)(hb:bootBuiltins (Str.ofString id)=some (.builtin id))(hr:CallR X (.builtin id) (rB ct E fz id))(ha:PA X (v::es) (lA ct Ra E ev))(hpl:∀ e∈v::es,ya e=true) :
  PE X (.Call (.Name (Str.ofString id) p) (v::es) [] pos) (lE ct Ra E λσ h=>(ev σ h).bind λxs h1=>qap fz id xs h1):=by
 obtain⟨g1,g2,g3⟩:=YY c.sc hg;have hm:=c.txt.blts id (by simp[hx]);refine PE.imp (Qq hr g1 hm hb ha g3 g2 (zl (hpl v (by simp))) (Qy λe he=>hpl e (by simp[he]))) λσ H Q q=>?_;obtain⟨μ,h,σs,rel,rst,ra,p⟩:=q;exact lA.mk rel rst ra p λms vs μ1 h1 H1 ex rel1 rst1 rvs p1=>⟨μ1,h1,ms,rel1,rvs,p1⟩
theorem Zb4(fz:Bool){id:String}(c:Cc X Pm ct n Ra E N sc)(hx:id∈tyNames)(hg:gl sc (Str.ofString id)=true)(hb:bootBuiltins (Str.ofString id)=some (.type id))(hr:CallR X (.type id) (rB ct E fz id))(ha:PA X (v::es) (lA ct Ra E ev))(hpl:∀ e∈v::es,ya e=true) :
  PE X (.Call (.Name (Str.ofString id) p) (v::es) [] pos) (lE ct Ra E λσ h=>(ev σ h).bind λxs h1=>qap fz id xs h1):=by
 obtain⟨g1,g2,g3⟩:=YY c.sc hg;have hm:=c.txt.blts id (by simp[hx]);refine PE.imp (qa9 hr g1 hm hb ha g3 g2 (zl (hpl v (by simp))) (Qy λe he=>hpl e (by simp[he]))) λσ H Q q=>?_;obtain⟨μ,h,σs,rel,rst,ra,p⟩:=q;exact lA.mk rel rst ra p λms vs μ1 h1 H1 ex rel1 rst1 rvs p1=>⟨μ1,h1,ms,rel1,rvs,p1⟩
theorem e_blt(fz:Bool){id:String}(c:Cc X Pm ct n Ra E N sc)(hx:id∈fnNames\/id∈tyNames)(hg:gl sc (Str.ofString id)=true)(ha:PA X (v::es) (lA ct Ra E ev))(hpl:∀ e∈v::es,ya e=true) :
  PE X (.Call (.Name (Str.ofString id) p) (v::es) [] pos) (lE ct Ra E λσ h=>(ev σ h).bind λxs h1=>qap fz id xs h1):=by
 rcases hx with hx|hx
 ·have hx':=hx;simp only[fnNames,vb,xf,or_false] at hx'
  rcases hx' with rfl|rfl
  ·exact yce fz c hx hg (by decide +kernel) (ZcY c.hK fz) ha hpl
  ·exact yce fz c hx hg (by decide +kernel) (qcW c.hK fz c.calm) ha hpl
 ·have hx':=hx;simp only[tyNames,vb,xf,or_false] at hx'
  rcases hx' with rfl|rfl
  ·exact Zb4 fz c hx hg (by decide +kernel) (Zcm c.hK fz) ha hpl
  ·exact Zb4 fz c hx hg (by decide +kernel) (zcx c.hK fz) ha hpl
theorem zco{t:String}(h:t∈isTys):bootBuiltins (Str.ofString t)=some (.type t):=by
 simp only[isTys,vb,xf,or_false] at h
 rcases h with rfl|rfl|rfl|rfl|rfl|rfl <;> decide +kernel
end
end
noncomputable def bb(T U:String):Bool:=decide (U=T)||(decide (T="bool")&&decide (U="int"))
theorem QcV{K:PySem.W.Frag}{T U:String}(h:T∈["NoneType","bool","int","str","list","tuple"])(h':U∈isTys):Ue K (.type T) (.type U)=some (bb T U):=by
 simp only[isTys,vb,xf,or_false] at h h'
 rcases h with rfl|rfl|rfl|rfl|rfl|rfl <;> rcases h' with rfl|rfl|rfl|rfl|rfl|rfl <;> rfl
section
variable {ct:Tx} {X:Cx} {E:XK} {Pm:Prog} {n:Nat} {Ra:L2.St->Prop} {N:List Str} {sc:Scope}
noncomputable def Q6(h:MH):MV->Option String
 |.f .non=>some "NoneType"
 |.f (.bl _)=>some "bool"
 |.f (.int _)=>some "int"
 |.f (.str _)=>some "str"
 |.f (.tup _)=>some "tuple"
 |.f (.lst _)=>some "list"
 |.tup _=>some "tuple"
 |.ref a=>match h[a]? with
  |some (.lst _)=>some "list"
  |_=>none
 |_=>none
theorem zbt{h:MH}{m:MV}{T:String}(e:Q6 h m=some T):T∈["NoneType","bool","int","str","list","tuple"]:=by
 unfold Q6 at e;split at e
 all_goals first|(cases e;simp;done)|skip
 ·split at e
  next=>cases e;simp
  next=>cases e
 ·cases e
theorem zcv{K:PySem.W.Frag}{μ:List Addr}{h:MH}{H:Hp}{m:MV}{v:V}{T:String}(rel:Rel ct μ h H)(e:Q6 h m=some T)(r:RV ct μ (Liv μ h) H m v):TyOf K H v (.type T):=by
 unfold Q6 at e;split at e
 next=>cases e;simp only[RV,RF] at r;subst r;exact .non
 next=>cases e;simp only[RV,RF] at r;subst r;exact .bl _
 next=>cases e;simp only[RV,RF] at r;subst r;exact .int _
 next=>cases e;simp only[RV,RF] at r;subst r;exact .str _
 next=>cases e;simp only[RV,RF] at r;obtain⟨_,_,rfl,_,hb,_⟩:=r;exact .tup hb
 next =>
  cases e;simp only[RV,RF] at r;obtain⟨_,_,rfl,_,hb,_⟩:=r
  rcases hb with hb|⟨o,hb⟩
  ·exact .lst hb
  ·exact .frz hb
 next=>cases e;simp only[RV] at r;obtain⟨_,_,rfl,_,hb,_⟩:=r;exact .tup hb
 next i =>
  split at e
  next xs q =>
   cases e;simp only[RV] at r;obtain⟨b,eb,rfl⟩:=r;obtain⟨b',vs,eb',hb,_⟩:=rel.lst (show yg h i=some xs by unfold yg;rw[q]);rw[eb] at eb';cases eb';exact .lst hb
  next=>cases e
 next=>cases e
theorem Zcu{subs:String->String->Option Bool}{h:MH}{m:MV}{t T:String}{b:Bool}(e:Q6 h m=some T)(q:zS subs h m t=some b)(hn:t≠"NoneType"):b=bb T t:=by
 unfold Q6 at e;split at e
 next=>cases e;cases q;simp[bb,hn]
 next=>cases e;cases q;simp[bb]
 next=>cases e;cases q;simp[bb]
 next=>cases e;cases q;simp[bb]
 next=>cases e;cases q;simp[bb]
 next=>cases e;cases q;simp[bb]
 next=>cases e;cases q;simp[bb]
 next i =>
  split at e
  next xs w =>
   cases e;simp only[zS,w,Option.some.injEq] at q;rw[<- q];simp[bb]
  next=>cases e
 next=>cases e
theorem ZcT{μ:List Addr}{h:MH}{H:Hp}{m:MV}{v:V}{t:String}{b:Bool}(T:Txt X.prog X.w X.K X.mg X.base Pm ct n)(rel:Rel ct μ h H)(r:RV ct μ (Liv μ h) H m v)(q:zS Pm.subs h m t=some b)(ht:isTys.contains t=true\/(Pm.subs t t).isSome=true) :
  ∃ tv,TyOf X.K H v tv/\Ue X.K tv (if isTys.contains t=true then .type t else .ref (ct t))=some b:=by
 cases ek:Q6 h m with
 |some Tn =>
  refine⟨.type Tn,zcv rel ek r,?_⟩;by_cases hb:isTys.contains t=true
  ·rw[if_pos hb];have hm:t∈isTys:=by simpa using hb
   have hn:t≠"NoneType":=by
    rintro rfl;simp[isTys] at hm
   rw[Zcu ek q hn];exact QcV (zbt ek) hm
  ·rw[if_neg hb];have hb':isTys.contains t=false:=by simpa using hb
   obtain⟨b0,e0⟩:=Wj.mp (ht.resolve_left hb);have hk:=T.tyC t t b0 e0 hb' Tn (zbt ek);rw[hk];have hm:t∉isTys:=by simpa using hb'
   simp only[isTys,vb,xf,or_false,not_or] at hm;unfold Q6 at ek;split at ek
   next=>cases ek;cases q;rfl
   next=>cases ek;cases q;simp[hm]
   next=>cases ek;cases q;simp[hm]
   next=>cases ek;cases q;simp[hm]
   next=>cases ek;cases q;simp[hm]
   next=>cases ek;cases q;simp[hm]
   next=>cases ek;cases q;simp[hm]
   next i =>
    split at ek
    next xs w =>
     simp only[zS,w,Option.some.injEq] at q;rw[<- q];simp[hm]
    next=>cases ek
   next=>cases ek
 |none =>
  have obj:∃ c a dx fs,v=.ref a/\H a=some (.ins (ct c) dx fs)/\Pm.subs c t=some b:=by
   cases m with
   |f x =>
    cases x with
    |obj c ns vs =>
     simp only[RV,RF] at r;obtain⟨a,dx,fs,rfl,_,hb,_⟩:=r;exact⟨c,a,dx,fs,rfl,hb,q⟩
    |scr _=>cases q
    |tab _=>cases q
    |msk _=>cases q
    |_=>simp[Q6] at ek
   |tup _=>simp[Q6] at ek
   |exc _=>cases q
   |ref i =>
    simp only[zS] at q;split at q
    next xs w=>simp[Q6,w] at ek
    next c fs w =>
     obtain⟨a,dx,gs,ea,hb,_⟩:=rel.obj w;simp only[RV] at r;obtain⟨a',ea',rfl⟩:=r;rw[ea] at ea';cases ea';exact⟨c,a,dx,gs,rfl,hb,q⟩
    next=>cases q
  obtain⟨c,a,dx,fs,rfl,hb,q⟩:=obj;have C:=T.cls c t b q;refine⟨.ref (ct c),.ins hb C.cl C.ha C.hn C.tk C.hm,?_⟩;by_cases hb:isTys.contains t=true
  ·rw[if_pos hb];exact T.subT c t b q hb
  ·rw[if_neg hb];exact(T.subC c t b q (by simpa using hb)).2
section
variable {ea:MSt->MH->R MV} {v:Expr} {es:List Expr} {ev:MSt->MH->R (List MV)} {a:Expr} {p p2 pos:Pos}
theorem e_isI{t:String}(c:Cc X Pm ct n Ra E N sc)(ht:isTys.contains t=true\/(Pm.subs t t).isSome=true)(hg:gl sc "isinstance"=true)(hgt:gl sc (Str.ofString t)=true)(ha:PE X a (lE ct Ra E ea))(hp:ya a=true) :
  PE X (.Call (.Name "isinstance" p) [a,.Name (Str.ofString t) p2] [] pos) (lE ct Ra E λσ h=>(ea σ h).bind λx h1=>opt (zS Pm.subs h1 x t) λk=>.ok (.f (.bl k)) h1):=by
 obtain⟨g1,g2,g3⟩:=YY c.sc hg;obtain⟨k1,k2,k3⟩:=YY c.sc hgt;have hm:X.mg "isinstance"=none:=c.txt.blts "isinstance" (by simp);have tyE:∃ cv,clsV cv=some (if isTys.contains t=true then .type t else .ref (ct t))/\PE X (.Name (Str.ofString t) p2) (tC cv):=by
  by_cases hb:isTys.contains t=true
  ·rw[if_pos hb];have hm':t∈isTys:=by simpa using hb
   exact⟨.ty t,rfl,zbL (v:=.ty t) k1 (c.txt.blts t (by simp[hm'])) (zco hm') rfl k3 k2⟩
  ·rw[if_neg hb];obtain⟨b0,e0⟩:=Wj.mp (ht.resolve_left hb);exact⟨.ref (ct t),rfl,Qz (v:=.ref (ct t)) k1 (c.txt.subC t t b0 e0 (by simpa using hb)).1 rfl k2⟩
 obtain⟨cv,ecv,pe⟩:=tyE;refine PE.imp (Qq (k_isi X.K) g1 hm boot_isinstance (Yb ha (Yb pe Qp (by rfl)) (zl hp)) g3 g2 (zl hp) (by rfl)) λσ H Q q=>?_;obtain⟨μ,h,σs,rel,rst,ra,p⟩:=q;refine lE.mk rel rst ra p λm w μ1 h1 H1 ex rel1 rst1 rv p1=>?_;obtain⟨k,e,p2⟩:=Po.opt p1;obtain⟨tv,ty,kit⟩:=ZcT c.txt rel1 rv e ht;exact⟨w,cv,tv,_,k,rfl,ecv,ty,kit,p2.now rel1 _ (yR _)⟩
theorem qcc{K:PySem.W.Frag}{mo:MV}{xs:List MV}{μ:List Addr}{h:MH}{H:Hp}{x:V}(rel:Rel ct μ h H)(r:RV ct μ (Liv μ h) H mo x)(e:lmC mo h=some xs):tyV K "list" x H:=by
 cases mo with
 |ref i =>
  obtain⟨b,vs,e1,e2,q⟩:=rel.lst (show yg h i=some xs from e);simp only[RV] at r;obtain⟨b',e3,rfl⟩:=r;rw[e1] at e3;cases e3;exact .inl ⟨rfl,vs,SqL.of e2⟩
 |f _=>cases e
 |tup _=>cases e
 |exc _=>cases e
theorem ZT{env : Env}{cp : Pos}{es : List Expr}(h : ∀ e∈es, ya e=true)(hl : es.length<30) : ((backTo cp (starEach es env)).all (λx => !x.1)&&(backToKw cp (keywordEach [] env)).all (λx => x.1.isSome)
   && decide (es.length+([]:List Keyword).length+(if([]:List Keyword).isEmpty then 0 else 1)<30))=true:=by
 rw[zr h];have h1:(backTo cp (es.map λe=>(false,eval e env))).all (λx=>!x.1)=true:=by
  unfold backTo;rw[ug,List.all_map]
  induction es with
  |nil=>rfl
  |cons e es ih=>simp[Function.comp]
 rw[h1];simp[keywordEach,backToKw];exact hl
theorem zcD{m id:String}{ap cp:Pos}(slot:Slot "list" (Str.ofString m) id)(hty:typeOf (.builtin id)=pure (.type "method_descriptor"))(hr:MtR X id (rLm ct E m))(ho:PE X a (lE ct Ra E ea))(hn:Qe a=true)(ha:PA X (v::es) (lA ct Ra E ev))(hpl:∀ e∈v::es,ya e=true)
  (hl:(v::es).length<30) (hline:(ap.endLine==cp.line)=true):PE X (.Call (.Attribute a (Str.ofString m) ap) (v::es) [] cp) (lE ct Ra E λσ h=>(ea σ h).bind λx h1=>opt (lmC x h1) λ_=>(ev σ h1).bind λxs h2=>lmV m x xs h2) :=
 PE.imp (YcF PySem.F.plainAttrs_list slot hty hr ho ha (Qv hn) (ZT hpl hl) hline (zl (hpl v (by simp))) (Qy λe he=>hpl e (by simp[he]))) λσ H Q q=>by
  obtain⟨μ,h,σs,rel,rst,ra,p⟩:=q;refine lE.mk rel rst ra p λm' w μ1 h1 H1 ex rel1 rst1 rv p1=>?_;obtain⟨xs,ex1,p2⟩:=Po.opt p1;refine⟨qcc rel1 rv ex1,?_⟩;exact lA.mk rel1 rst1 ra p2 λms vs μ2 h2 H2 ex2 rel2 rst2 rvs p3=>⟨μ2,h2,m',ms,rel2,rv.ext ex2,rvs,p3⟩
theorem e_lm0{m id:String}{ap cp:Pos}(slot:Slot "list" (Str.ofString m) id)(hty:typeOf (.builtin id)=pure (.type "method_descriptor"))(hr:MtR X id (rLm ct E m))(ho:PE X a (lE ct Ra E ea))(hn:Qe a=true)
  (hline:(ap.endLine==cp.line)=true):PE X (.Call (.Attribute a (Str.ofString m) ap) [] [] cp) (lE ct Ra E λσ h=>(ea σ h).bind λx h1=>opt (lmC x h1) λ_=>(R.ok [] h1).bind λxs h2=>lmV m x xs h2) :=
 PE.imp (ycN PySem.F.plainAttrs_list slot hty hr ho (Qv hn) hline) λσ H Q q=>by
  obtain⟨μ,h,σs,rel,rst,ra,p⟩:=q;refine lE.mk rel rst ra p λm' w μ1 h1 H1 ex rel1 rst1 rv p1=>?_;obtain⟨xs,ex1,p2⟩:=Po.opt p1;exact⟨qcc rel1 rv ex1,μ1,h1,m',[],rel1,rv,RVs.nil,p2⟩
noncomputable abbrev kP(k:Int×Int):List Key:=[Sum.inl k.1,Sum.inl k.2]
theorem kP_inj{k l:Int×Int}:kP k=kP l↔k=l:=by
 constructor
 ·intro h;simp only[kP,List.cons.injEq,Sum.inl.injEq,and_true] at h;exact Prod.ext h.1 h.2
 ·rintro rfl;rfl
theorem zcQ(k l:Int×Int):decide (kP k=kP l)=decide (k=l):=by
 by_cases h:k=l
 ·subst h;simp
 ·have h':¬ kP k=kP l:=λz=>h (kP_inj.mp z);rw[decide_eq_false h,decide_eq_false h']
theorem zbh{μ:List Addr}{L:Addr->Prop}{H:Hp}{y:MV}{v:V}{k:Int×Int}(r:RV ct μ L H y v)(e:YaU y=some k):∃ p,v=.ref p/\¬ L p/\H p=some (.tup ((kP k).map L2.kV)):=by
 unfold YaU at e;split at e
 next a b w =>
  cases e;cases y with
  |f x =>
   cases x with
   |tup xs =>
    simp only[Qt,Option.some.injEq] at w
    rcases xs with _|⟨x,_|⟨y,_|⟨z,zs⟩⟩⟩ <;> simp at w
    obtain⟨rfl,rfl⟩:=w;simp only[RV,RF,RFs] at r;obtain⟨p,vs,rfl,n,hp,v1,r1,rfl,rfl,v2,r2,rfl,rfl,rfl⟩:=r;exact⟨p,rfl,n,hp⟩
   |_=>simp[Qt] at w
  |tup xs =>
   simp only[Qt,Option.some.injEq] at w;subst w;simp only[RV,RVs,RF] at r;obtain⟨p,vs,rfl,n,hp,v1,r1,rfl,rfl,v2,r2,rfl,rfl,rfl⟩:=r;exact⟨p,rfl,n,hp⟩
  |ref _=>simp[Qt] at w
  |exc _=>simp[Qt] at w
 next=>cases e
theorem RVs.rev{μ:List Addr}{L:Addr->Prop}{H:Hp}:∀{xs:List MV}{vs:List V},RVs ct μ L H xs vs->RVs ct μ L H xs.reverse vs.reverse
 |[],vs,r=>by simp only[RVs] at r;subst r;exact RVs.nil
 |x::xs,vs,r=>by
  simp only[RVs] at r;obtain⟨v,t,rfl,r1,r2⟩:=r;rw[xp,xp];exact(RVs.rev r2).append (RVs.cons r1 RVs.nil)
theorem qcN(fz:Bool){st:Expr}{p2:Pos}(c:Cc X Pm ct n Ra E N sc)(hs:isM1 st=true)(ha:PE X a (lE ct Ra E ea)) :
  PE X (.Subscript a (.Slice none none (some st) p2) pos) (lE ct Ra E λσ h=>(ea σ h).bind λx h1=>opt (MP.listOf h1 x) λxs=>Yx fz xs.reverse h1):=by
 have hst:∃ p3 p4 k,st=.UnaryOp .USub (.Constant (.int 1) k p3) p4:=by
  unfold isM1 at hs;split at hs
  ·exact⟨_,_,_,rfl⟩
  ·cases hs
 obtain⟨p3,p4,k,rfl⟩:=hst;refine PE.imp (zcA ha (qbP (qcD Yb9 za1))) λσ H Q q=>?_;obtain⟨μ,h,σs,rel,rst,ra,pp⟩:=q;refine lE.mk rel rst ra pp λm w μ1 h1 H1 ex rel1 rst1 rv p1=>?_;obtain⟨xs,e,p2⟩:=Po.opt p1;obtain⟨b,vs,rfl,rd,rs⟩:=zt rel1 e rv;exact⟨1,rfl,-1,rfl,rfl,b,vs,rfl,.inl rd,λl hl=>yJ rel1 rs.rev p2 l hl⟩
theorem qaH{m:String}:∀{ns:List String}{gs:List (Str×V)},gs.map uq=ns.map Str.ofString->m∉ns->gs.lookup (Str.ofString m)=none
 |[],[],_,_=>rfl
 |[],_::_,e,_=>by simp at e
 |_::_,[],e,_=>by simp at e
 |k::ns,(k',u)::gs,e,h=>by
  simp only[Xd,List.cons.injEq] at e;have:(Str.ofString m==k')=false:=by
   rw[e.1];exact beq_false_of_ne λz=>h (by have:=qJ z;subst this;exact Xh)
  rw[wb,this];exact qaH e.2 λz=>h (Xe _ z)
theorem QbL{μ:List Addr}{h:MH}{H:Hp}{m c:String}{x:MV}{v:V}(rel:Rel ct μ h H)(r:RV ct μ (Liv μ h) H x v)(e:QF m x h=some c):∃ b dx fs,v=.ref b/\H b=some (.ins (ct c) dx fs)/\fs.lookup (Str.ofString m)=none:=by
 unfold QF at e;split at e
 next c' ns xs =>
  split at e
  next=>cases e
  next no =>
   cases e;simp only[RV,RF] at r;obtain⟨b,dx,fs,rfl,nl,hb,q1,q2⟩:=r;exact⟨b,dx,fs,rfl,hb,qaH q1 no⟩
 next i =>
  split at e
  next c' fs ec =>
   split at e
   next=>cases e
   next no =>
    cases e;simp only[RV] at r;obtain⟨b,eb,rfl⟩:=r;obtain⟨b',dx,gs,eb',hb,q1,q2⟩:=rel.obj ec;rw[eb] at eb';cases eb';exact⟨b,dx,gs,rfl,hb,qaH (by rw[q1,ug];rfl) no⟩
  next=>cases e
 next=>cases e
theorem zcB{m:String}{ap cp:Pos}(c:Cc X Pm ct n Ra E N sc)(hm:m≠"__init__")(ho:PE X a (lE ct Ra E ea))(hn:Qe a=true)(ha:PA X (v::es) (lA ct Ra E ev))(hpl:∀ e∈v::es,ya e=true)
  (hl:(v::es).length<30) (hline:(ap.endLine==cp.line)=true) :
  PE X (.Call (.Attribute a (Str.ofString m) ap) (v::es) [] cp) (lE ct Ra E λσ h=>(ea σ h).bind λx h1=>opt (QF m x h1) λk=>opt (Pm.meths k m) λf=>(ev σ h1).bind λxs h2=>run Pm n f (x::xs) h2):=by
 intro pins s σ H Q I q;obtain⟨μ,h,σs,rel,rst,ra,p⟩:=q;refine Ycn (k:=2*n) (σ0:=σ) ho (c.room.mono (by lia)) (c.pas σ ra) ha (zl (hpl v (by simp))) (Qy λe he=>hpl e (by simp[he])) (Qv hn) (ZT hpl hl) hline pins s σ H Q I ⟨rfl,?_⟩;refine lE.mk rel rst ra p λm' w μ1 h1 H1 ex rel1 rst1 rv p1=>?_;obtain⟨cn,ec,p2⟩:=Po.opt p1;obtain⟨f,ef,p3⟩:=Po.opt p2;obtain⟨b,dx,fs,rfl,hb,l⟩:=QbL rel1 rv ec;refine⟨b,ct cn,dx,fs,spR ct (run Pm n f),rfl,hb,l,c.txt.meths cn m f ef hm,?_⟩;refine lA.mk rel1 rst1 ra p3 λms vs μ2 h2 H2 ex2 rel2 rst2 rvs p4=>?_;exact⟨μ2,h2,m'::ms,rel2,RVs.cons (rv.ext ex2) rvs,p4⟩
theorem Qcw{m:String}{ap cp:Pos}(c:Cc X Pm ct n Ra E N sc)(hm:m≠"__init__")(ho:PE X a (lE ct Ra E ea))(hn:Qe a=true)(hline:(ap.endLine==cp.line)=true) :
  PE X (.Call (.Attribute a (Str.ofString m) ap) [] [] cp) (lE ct Ra E λσ h=>(ea σ h).bind λx h1=>opt (QF m x h1) λk=>opt (Pm.meths k m) λf=>(R.ok [] h1).bind λxs h2=>run Pm n f (x::xs) h2):=by
 intro pins s σ H Q I q;obtain⟨μ,h,σs,rel,rst,ra,p⟩:=q;refine QbU (k:=2*n) (σ0:=σ) ho (c.room.mono (by lia)) (c.pas σ ra) (Qv hn) hline pins s σ H Q I ⟨rfl,?_⟩;refine lE.mk rel rst ra p λm' w μ1 h1 H1 ex rel1 rst1 rv p1=>?_;obtain⟨cn,ec,p2⟩:=Po.opt p1;obtain⟨f,ef,p3⟩:=Po.opt p2;obtain⟨b,dx,fs,rfl,hb,l⟩:=QbL rel1 rv ec;exact⟨b,ct cn,dx,fs,spR ct (run Pm n f),rfl,hb,l,c.txt.meths cn m f ef hm,μ1,h1,[m'],rel1,RVs.cons rv RVs.nil,p3⟩
theorem Yct(fz:Bool){cn:String}(c:Cc X Pm ct n Ra E N sc)(hk:Pm.mk0 cn=true)(hi:Pm.meths cn "__init__"=none)(hg:gl sc (Str.ofString cn)=true) :
  PE X (.Call (.Name (Str.ofString cn) p) [] [] pos) (lE ct Ra E λσ h=>(R.ok [] h).bind λxs h1=>Qak Pm (run Pm n) fz cn xs h1):=by
 obtain⟨g1,g2,g3⟩:=YY c.sc hg;obtain⟨M,mg⟩:=c.txt.mk0 cn hk;refine PE.imp (ZbS M g1 mg g2) λσ H Q q=>?_;obtain⟨μ,h,σs,rel1,rst,ra,p1⟩:=q;intro x dx hx hdx hne;have hx':upd H dx (.own x) x=none:=by rw[qc (Ne.symm hne)];exact hx
 have ex1:=Ext.new rel1 hdx (.own x);have rel2:=rel1.new hdx (.own x);have ex2:=Ext.cell rel2 hx' (.obj cn []) (.ins (ct cn) dx []);have rel3:Rel ct (μ++[x]) (h++[.obj cn []]) (upd (upd H dx (.own x)) x (.ins (ct cn) dx [])):=rel2.cell hx' ⟨dx,[],ye,rfl,RVs.nil⟩;have ext:=ex1.trans ex2;have hx2:(μ++[x])[h.length]?=some x:=by rw[<- rel1.len];simp
 have p2:Po ct E (Qak Pm (run Pm n) fz cn [] h) μ h H (λm μ' h' H'=>∀ v,RV ct μ' (Liv μ' h') H' m v->Q v H'):=p1;unfold Qak at p2;rw[hi] at p2;simp only[R.bind_ok,qb0,XB,if_false] at p2;cases fz with
 |false=>exact p2 _ _ ext rel3 _ (by simp only[RV];exact⟨x,hx2,rfl⟩)
 |true =>
  dsimp only at p2;split at p2
  next c' fs ec =>
   obtain⟨ys,ey,p4⟩:=Po.opt p2;split at p4
   next t =>
    obtain⟨b,dx',gs,eb,hb,q1,q2⟩:=rel3.obj ec;rw[hx2] at eb;cases eb;have nx:x∉μ:=rel1.fresh hx;refine p4 μ _ (Ext.cut rel1.len ext) (rel1.cut t rel3) (.ref x) ?_;simp only[RV,RF];refine⟨x,dx',gs,rfl,λl=>?_,hb,?_,?_⟩
    ·obtain⟨i,_,e1,_,_⟩:=l;exact nx (Ui e1)
    ·rw[q1,ug];rfl
    ·exact RFs.to ⟨λ_ _ e _=>e,λb _ _ nl l=>nl (Liv.cut rel1.len l)⟩ (RVs.toF ey q2)
   next=>exact p4.elim
  next=>exact p2.elim
theorem Po.calm{α:Type}{r:R α}{μ:List Addr}{h:MH}{H:Hp}{k:α->List Addr->MH->Hp->Prop}(p:Po ct E (MP.calm r) μ h H k):Po ct E0 r μ h H k:=by
 cases r with
 |ok x h'=>exact p
 |exc c h'=>exact p.elim
 |stuck=>exact p.elim
theorem PIf.imp{ifs:List Expr}{t t':TT}(p:PIf X ifs t)(k:∀ σ H Q,t' σ H Q->t σ H Q):PIf X ifs t':=λpins s σ H Q I h=>p pins s σ H Q I (k σ H Q h)
theorem Zb0{μ:List Addr}{h:MH}{H:Hp}{σ:L2.St}{σs:MSt}(ncv:Nat)(js:List Nat)(r:RelSt ct μ h H σ σs):RelSt ct μ h H (stC ncv js σ) (stM ncv js σs):=by
 refine⟨by simp[L3.stC,MP.stM],λi m e=>?_⟩;unfold MP.stM at e;by_cases hi:i<ncv
 ·rw[Ub (by simpa using hi),uo,if_pos hi] at e;cases e
 ·rw[wg (by simpa using hi),um,Uf] at e;cases ej:js[i-ncv]? with
  |none=>rw[ej] at e;cases e
  |some j =>
   rw[ej] at e;simp only[ui,Option.some.injEq] at e;have e':σs[j]?=some (some m):=by
    cases q:σs[j]? with
    |none=>rw[q] at e;cases e
    |some z=>rw[q] at e;exact congrArg some e
   obtain⟨v,ev,rv⟩:=r.at_ j m e';refine⟨v,?_,rv⟩;unfold L3.stC;rw[wg (by simpa using hi),um,Uf,ej];simp[ev]
theorem qa8(fz:Bool){ncv:Nat}{js:List Nat}{it:String}{t:Tg}{es:MSt->MH->R (List MV)}{tc:MSt->MH->R Bool}{te:MSt->MH->R MV}(σ:L2.St)(H:Hp)(Q:VK)
  (q:lE ct Ra E (λσ h=>(es σ h).bind λxs h1=>opt (itV it xs h1) λp=>(Qo p.2 (yn t tc te) p.1 [] (MP.stM ncv js σ) h1).bind λacc h3=>Yx fz acc h3) σ H Q) :
  QbM (lI ct Ra E es it) ncv js (lG ct t) (lT ct (λ_=>True) E0 tc) (lE ct (λ_=>True) E0 te) σ H Q:=by
 obtain⟨μ,h,σs,rel,rst,ra,p⟩:=q;refine⟨μ,h,σs,rel,rst,ra,(Po.bind p).imp λxs μ1 h1 H1 ⟨ex1,rel1,p1⟩=>?_⟩;obtain⟨⟨items,g⟩,e1,p2⟩:=Po.opt p1;refine⟨items,g,e1,rel1,λJ wk=>?_⟩;dsimp only at p2;refine⟨λi m acc σ' H'=>∃ μ' h' σs' macc,m=items.length-i/\i<=items.length/\Ext μ1 h1 H1 μ' h' H'/\Rel ct μ' h' H'/\RelSt ct μ' h' H' σ' σs'/\RVs ct μ' (Liv μ' h') H' macc acc /\
  Po ct E ((Qo g (yn t tc te) (items.drop i) macc σs' h').bind λacc h3=>Yx fz acc h3) μ' h' H' (kV ct Q),?_,?_⟩
 ·exact⟨items.length,μ1,h1,stM ncv js σs,[],by simp,Uk _,Ext.refl _ _ _,rel1,Zb0 ncv js (rst.ext ex1),RVs.nil,by simpa using p2⟩
 ·rintro i m acc σ' H' ⟨μ',h',σs',macc,rfl,hi',ex,rel',rst',racc,p3⟩;by_cases lt:i<items.length
  ·right
   have ed:items.drop i=items[i]::items.drop (i+1):=ur lt;rw[ed] at p3;simp only[Qo] at p3;split at p3
   next gd =>
    obtain⟨w1,_⟩:=wk i μ' h' H' ex rel' gd.1;obtain⟨go,yl⟩:=w1 lt;refine⟨go,λx H2 y=>?_⟩;obtain⟨mx,em,ex2,rel2,rx⟩:=yl x H2 y;have emx:mx=items[i]:=by simpa[lt] using em.symm
    subst emx;have p4:=Po.start ex2 p3;unfold yn at p4;cases eb:zT t items[i] σs' with
    |none=>rw[eb] at p4;exact p4.elim
    |some σ2s =>
     rw[eb] at p4;simp only[yp] at p4;refine⟨μ',h',σs',items[i],σ2s,rel2,rst'.ext ex2,rx,eb,λσ2 rst2=>?_⟩;have p5:Po ct E ((MP.calm (tc σ2s h')).bind λk h2=>(if k=true then(MP.calm (te σ2s h2)).bind λy h3=>R.ok (some y,σ2s) h3 else R.ok (none,σ2s) h2).bind λp h1=>(Qo g (yn t tc te) (items.drop (i+1)) (match p.1 with|some y=>macc++[y]|none=>macc) p.2 h1).bind λacc h3=>Yx fz acc h3) μ' h' H2 (kV ct Q):=by
      cases er:MP.calm (tc σ2s h') with
      |stuck=>rw[er] at p4;exact p4
      |exc c h''=>rw[er] at p4;exact p4
      |ok k h'' =>
       rw[er] at p4;simp only[R.bind_ok] at p4 ⊢;cases k with
       |false=>exact p4
       |true =>
        simp only[if_true] at p4 ⊢;cases er2:MP.calm (te σ2s h'') with
        |stuck=>rw[er2] at p4;exact p4
        |exc c h3=>rw[er2] at p4;exact p4
        |ok y h3=>rw[er2] at p4;exact p4
     refine⟨μ',h',σ2s,rel2,rst2,trivial,Po.calm ((Po.bind p5).imp λk μ3 h3 H3 ⟨ex3,rel3,p6⟩=>?_)⟩;cases k with
     |false =>
      simp only[xj,if_false,R.bind_ok] at p6 ⊢;exact⟨items.length-(i+1),by lia,μ3,h3,σ2s,macc,rfl,lt,(ex.trans ex2).trans ex3,rel3,rst2.ext ex3,(racc.ext ex2).ext ex3,p6⟩
     |true =>
      simp only[if_true] at p6 ⊢;have p7:Po ct E ((MP.calm (te σ2s h3)).bind λy h4=>(Qo g (yn t tc te) (items.drop (i+1)) (macc++[y]) σ2s h4).bind λacc h5=>Yx fz acc h5) μ3 h3 H3 (kV ct Q):=by
       cases er2:MP.calm (te σ2s h3) with
       |stuck=>rw[er2] at p6;exact p6
       |exc c h4=>rw[er2] at p6;exact p6
       |ok y h4=>rw[er2] at p6;exact p6
      refine⟨μ3,h3,σ2s,rel3,rst2.ext ex3,trivial,Po.calm ((Po.bind p7).imp λy μ4 h4 H4 ⟨ex4,rel4,p8⟩ w rw_=>?_)⟩;refine⟨by rw[racc.length];exact wc gd.2 qR,items.length-(i+1),by lia,μ4,h4,σ2s,macc++[y],rfl,lt,((ex.trans ex2).trans ex3).trans ex4,rel4,(rst2.ext ex3).ext ex4,?_,p8⟩;exact(((racc.ext ex2).ext ex3).ext ex4).append (RVs.cons rw_ RVs.nil)
   next=>exact p3.elim
  ·left
   have hi2:i=items.length:=by lia
   subst hi2;rw[xo] at p3;simp only[Qo] at p3;split at p3
   next gd =>
    obtain⟨_,w2⟩:=wk items.length μ' h' H' ex rel' gd;exact⟨w2 rfl,λD hD=>yJ rel' racc p3 D hD⟩
   next=>exact p3.elim
theorem YcV(fz:Bool){elt iter tg:Expr}{ifs:List Expr}{cs:Scope}{N':List Str}{ncv:Nat}{js:List Nat}{it:String}{t:Tg}{es:MSt->MH->R (List MV)}{tc:MSt->MH->R Bool}{te:MSt->MH->R MV}(hok:YD X.env.scope X.N cs N' ncv js=true)(hc:X.calm=true)
  (hi:PI X tg iter (lI ct Ra E es it)) (hg:∀ C s3 H ex,PG (cxC X cs N' C s3 H ex) tg (lG ct t)) (hif:∀ C s3 H ex,PIf (cxC X cs N' C s3 H ex) ifs (lT ct (λ_=>True) E0 tc)) (helt:∀ C s3 H ex,PE (cxC X cs N' C s3 H ex) elt (lE ct (λ_=>True) E0 te)) (hpl:ya iter=true) :
  PE X (.ListComp elt [⟨tg,iter,ifs,0⟩] cs pos) (lE ct Ra E λσ h=>(es σ h).bind λxs h1=>opt (itV it xs h1) λp=>(Qo p.2 (yn t tc te) p.1 [] (stM ncv js σ) h1).bind λacc h3=>Yx fz acc h3):=by
 exact PE.imp (qcx N' ncv js hok hc hi hg hif helt (yV hpl)) (qa8 fz)
end
end
end SD
end
section
namespace SD
open PySem PySem.Spec PyProof.Rows L2 L3 M3 MP
section
variable {ct:Tx} {X:Cx} {E:XK} {Pm:Prog} {n:Nat} {Ra:L2.St->Prop} {N:List Str} {sc:Scope}
noncomputable abbrev YC(ks:List (Int×Int)):List (List Key×V):=ks.map λk=>(kP k,V.bl true)
theorem qbK(ks:List (Int×Int))(k:Int×Int):((YC ks).any λkv=>decide (kv.1=kP k))=decide (k∈ks):=by
 induction ks with
 |nil=>rfl
 |cons a r ih =>
  show(decide (kP a=kP k)||(YC r).any λkv=>decide (kv.1=kP k))=_;rw[ih,zcQ];by_cases h:a=k
  ·subst h;simp
  ·simp[h,Ne.symm h]
theorem yb6(ks:List (Int×Int))(k:Int×Int):qaP (YC ks) (kP k) (V.bl true)=YC (qm ks k):=by
 unfold qaP qm;rw[qbK];by_cases h:k∈ks
 ·rw[if_pos (by simpa using h),if_pos h,YC,ug]
  congr 1
  funext p;show(if kP p=kP k then(kP p,V.bl true) else(kP p,V.bl true))=_;split <;> rfl
 ·rw[if_neg (by simpa using h),if_neg h,YC,YC,xg];rfl
theorem qan:∀(ks acc:List (Int×Int)),yy (YC ks) (YC acc)=YC (ks.foldl qm acc)
 |[],acc=>rfl
 |k::ks,acc=>by
  show yy (YC ks) (qaP (YC acc) (kP k) (V.bl true))=_;rw[yb6];exact qan ks (qm acc k)
theorem Qcd(ks:List (Int×Int))(k:Int×Int):(yaS (YC ks) (kP k)).isSome=decide (k∈ks):=by
 rw[<- qbK,zaW]
theorem yb8{μ:List Addr}{L:Addr->Prop}{H:Hp}{y:MV}{v:V}{k:Int×Int}(r:RV ct μ L H y v)(e:zba y=some k):∃ T K,v=.ref T/\H T=some (.tup [.ref K,V.bl true])/\H K=some (.tup ((kP k).map L2.kV)):=by
 unfold zba at e;split at e
 next q w =>
  cases y with
  |f x =>
   cases x with
   |tup xs =>
    simp only[Qt,Option.some.injEq] at w
    rcases xs with _|⟨x,_|⟨y,_|⟨z,zs⟩⟩⟩ <;> simp at w
    obtain⟨rfl,rfl⟩:=w;simp only[RV,RF,RFs] at r;obtain⟨p,vs,rfl,n,hp,v1,r1,rfl,h1,v2,r2,rfl,rfl,rfl⟩:=r;obtain⟨K,rfl,_,hK⟩:=zbh (y:=MV.f x) (μ:=μ) (L:=L) (H:=H) (by simp only[RV];exact h1) e;exact⟨p,K,rfl,hp,hK⟩
   |_=>simp[Qt] at w
  |tup xs =>
   simp only[Qt,Option.some.injEq] at w;subst w;simp only[RV,RVs,RF] at r;obtain⟨p,vs,rfl,n,hp,v1,r1,rfl,h1,v2,r2,rfl,rfl,rfl⟩:=r;obtain⟨K,rfl,_,hK⟩:=zbh h1 e;exact⟨p,K,rfl,hp,hK⟩
  |ref _=>simp[Qt] at w
  |exc _=>simp[Qt] at w
 next=>cases e
theorem ya9{μ:List Addr}{L:Addr->Prop}{H:Hp}:∀{xs:List MV}{vs:List V}{ks:List (Int×Int)},RVs ct μ L H xs vs->xs.mapM zba=some ks->ZbH H vs (YC ks)
 |[],vs,ks,r,e=>by
  simp only[RVs] at r;subst r;simp at e;subst e;exact .nil
 |x::xs,vs,ks,r,e=>by
  simp only[RVs] at r;obtain⟨v,r',rfl,h1,h2⟩:=r;simp only[Wm,wr,ub] at e;obtain⟨k,e1,ks',e2,e3⟩:=e;cases e3;obtain⟨T,K,q⟩:=yb8 h1 e1;exact .cons ⟨T,K,q⟩ (ya9 h2 e2)
theorem ybb{h:MH}{i:Nat}{ks:List (Int×Int)}(e:QL h (.ref i)=some ks):h[i]?=some (.msk ks):=by
 simp only[QL] at e;split at e
 next ks' w=>cases e;exact w
 next=>cases e
theorem yca{μ:List Addr}{h:MH}{H:Hp}{x:MV}{v:V}{ks:List (Int×Int)}(rel:Rel ct μ h H)(r:RV ct μ (Liv μ h) H x v)(e:QL h x=some ks):∃ a,v=.ref a/\Rd H a (.dT (YC ks)):=by
 cases x with
 |ref i =>
  simp only[RV] at r;obtain⟨b,eb,rfl⟩:=r;exact⟨b,rfl,.inl (rel.cells _ _ _ eb (ybb e))⟩
 |f y =>
  cases y with
  |msk ks =>
   cases e;simp only[RV,RF] at r;obtain⟨a,o,rfl,_,ha⟩:=r;exact⟨a,rfl,.inr ⟨o,ha⟩⟩
  |_=>cases e
 |tup _=>cases e
 |exc _=>cases e
section
variable {ea eb:MSt->MH->R MV} {a b:Expr} {p p2 pos:Pos}
theorem qcU:PE X (.Dict [] [] pos) (lE ct Ra E λ_ h=>.ok (.ref h.length) (h++[.msk []])):=by
 refine PE.imp qcg λσ H Q q d hd=>?_;obtain⟨μ,h,σs,rel,rst,ra,pp⟩:=q;have ex0:=Ext.cell rel hd (.msk []) (.dT []);have rel0:Rel ct (μ++[d]) (h++[.msk []]) (upd H d (.dT [])):=rel.cell hd ye;exact(Po.start ex0 pp).now rel0 _ (by simp only[RV];exact⟨d,by rw[<- rel.len];simp,rfl⟩)
theorem e_mOf(c:Cc X Pm ct n Ra E N sc)(hg:gl sc "dict"=true)(ha:PE X a (lE ct Ra E ea))(hp:ya a=true) :
  PE X (.Call (.Name "dict" p) [a] [] pos) (lE ct Ra E λσ h=>(ea σ h).bind λx h1=>ybL x h1):=by
 obtain⟨k1,k2,k3⟩:=YY c.sc hg;have hm:X.mg "dict"=none:=c.txt.blts "dict" (by simp[isTys]);refine PE.imp (qa9 (QbF c.calm (by have:=c.units;lia)) k1 hm (by decide +kernel) (Yb ha Qp (zl hp)) k3 k2 (zl hp) (by rfl)) λσ H Q q=>?_;obtain⟨μ,h,σs,rel,rst,ra,pp⟩:=q;refine lE.mk rel rst ra pp λm w μ1 h1 H1 ex rel1 rst1 rv p1=>?_;cases m with
 |ref i =>
  obtain⟨xs,e1,p2⟩:=Po.opt p1;obtain⟨ks,e2,p3⟩:=Po.opt p2;split at p3
  next hl =>
   simp only[RV] at rv;obtain⟨b,eb,rfl⟩:=rv;have hc:h1[i]?=some (.lst xs):=by
    simp only[yg] at e1;split at e1
    next w=>cases e1;exact w
    next=>cases e1
   obtain⟨vs,hb,rvs⟩:=(show CellOk ct μ1 (Liv μ1 h1) H1 b (.lst xs) from rel1.cells _ _ _ eb hc);have pv:=ya9 rvs e2;have hlen:ks.length=xs.length:=by
    clear p1 p2 p3 pv hc hl e1 rvs
    induction xs generalizing ks with
    |nil=>simp at e2;subst e2;rfl
    |cons x xs ih =>
     simp only[Wm,wr,ub] at e2;obtain⟨k,_,ks',e3,e4⟩:=e2;cases e4;simp[ih _ e3]
   refine⟨b,vs,YC ks,rfl,.inl hb,pv,by rw[vc,hlen,sizeLine_eq];lia,λq o hq=>?_⟩;have e5:yy (YC ks) []=YC (ks.foldl qm []):=qan ks [];rw[e5];refine p3 μ1 _ (Ext.new rel1 hq _) (rel1.new hq _) _ ?_;simp only[RV,RF];exact⟨q,o,rfl,zaP rel1 hq,ye⟩
  next=>exact p3.elim
 |f _=>exact p1.elim
 |tup _=>exact p1.elim
 |exc _=>exact p1.elim
theorem YcT(hu:X.A.units+65<cLine)(ha:PE X a (lE ct Ra E ea))(hb:PE X b (lE ct Ra E eb))(hp:ya b=true) :
  PE X (.Compare a [.NotIn] [b] pos) (lE ct Ra E λσ h=>(ea σ h).bind λx h1=>(eb σ h1).bind λy h2=>Qa9 x y h2) /\
  PT X (.Compare a [.NotIn] [b] pos) (lT ct Ra E (tst λσ h=>(ea σ h).bind λx h1=>(eb σ h1).bind λy h2=>Qa9 x y h2)):=by
 have main:∀ σ H Q,lE ct Ra E (λσ h=>(ea σ h).bind λx h1=>(eb σ h1).bind λy h2=>Qa9 x y h2) σ H Q->ybK (lE ct Ra E ea) (lE ct Ra E eb) σ H Q:=λσ H Q q=>by
  obtain⟨μ,h,σs,rel,rst,ra,pp⟩:=q;refine lE.mk rel rst ra pp λm w μ1 h1 H1 ex1 rel1 rst1 rv1 p1=>?_;refine lE.mk rel1 rst1 ra p1 λm2 w2 μ2 h2 H2 ex2 rel2 rst2 rv2 p2=>?_;obtain⟨k,e1,p3⟩:=Po.opt p2;obtain⟨ks,e2,p4⟩:=Po.opt p3;obtain⟨c,rfl,rd⟩:=yca rel2 rv2 e2;obtain⟨q,rfl,_,hq⟩:=zbh (rv1.ext ex2) e1;refine⟨c,_,rfl,.inr ⟨_,kP k,q,rd,rfl,hq,rfl⟩,?_⟩;rw[Qcd];have e3:(!decide (k∈ks))=decide (k∉ks):=by by_cases z:k∈ks <;> simp[z]
  rw[e3];exact p4.now rel2 _ (yR _)
 have hb':behindInMarks .NotIn b=false:=qM hp _;exact qaO (qcV (qbc (by lia) ha hb) hb') (ycI (qbc (by lia) ha hb) hb') main
end
end
section
variable {ct:Tx} {X:Cx} {E:XK} {Pm:Prog} {n:Nat} {Ra:L2.St->Prop} {N:List Str} {sc:Scope} {ea eb:MSt->MH->R MV} {a b:Expr} {p pos:Pos}
theorem zQ{μ:List Addr}{L:Addr->Prop}{H:Hp}{m:MV}{v:V}{z:Str}(r:RV ct μ L H m v)(e:Zl m=some z):v=.str z:=by
 cases m with
 |f x =>
  cases x with
  |str s=>cases e;simpa only[RV,RF] using r
  |_=>cases e
 |_=>cases e
theorem ZbM{μ:List Addr}{L:Addr->Prop}{H:Hp}:∀{xs:List MV}{vs:List V}{ts:List Str},RVs ct μ L H xs vs->xs.mapM Zl=some ts->vs=ts.map V.str
 |[],vs,ts,r,e=>by
  simp only[RVs] at r;cases e;rw[r];rfl
 |x::xs,vs,ts,r,e=>by
  simp only[RVs] at r;obtain⟨v,t,rfl,r1,r2⟩:=r;rw[Wm] at e;cases e1:Zl x with
  |none=>rw[e1] at e;cases e
  |some z =>
   rw[e1] at e;cases e2:xs.mapM Zl with
   |none=>rw[e2] at e;cases e
   |some zs =>
    rw[e2] at e;cases e;rw[zQ r1 e1,ZbM r2 e2];rfl
theorem ZaD{k:Nat}(h:k<=sizeL):k<=sizeLine:=by rw[sizeLine_eq];unfold sizeL at h;lia
theorem ycO{ap cp:Pos}(ha:PE X a (lE ct Ra E ea))(hb:PE X b (lE ct Ra E eb))(hn:Qe a=true)(hpl:ya b=true)(hline:(ap.endLine==cp.line)=true) :
  PE X (.Call (.Attribute a "join" ap) [b] [] cp) (lE ct Ra E λσ h=>(ea σ h).bind λx h1=>opt (Zl x) λ_=>(eb σ h1).bind λy h2=>YO .join x y h2):=by
 have hpl':∀ e∈[b],ya e=true:=λe he=>by rw[va.mp he];exact hpl
 refine PE.imp (Ycu ha hb ⟨Qv hn,ZT hpl' (by simp),hline,by rw[zr hpl'];rfl⟩) λσ H Q q=>?_;obtain⟨μ,h,σs,rel,rst,ra,pp⟩:=q;refine lE.mk rel rst ra pp λm w μ1 h1 H1 ex1 rel1 rst1 rv1 p1=>?_;obtain⟨sep,e1,p2⟩:=Po.opt p1;refine⟨sep,zQ rv1 e1,?_⟩;refine lE.mk rel1 rst1 ra p2 λm2 w2 μ2 h2 H2 ex2 rel2 rst2 rv2 p3=>?_;obtain⟨sep',e1',p4⟩:=Po.opt p3;rw[e1] at e1';cases e1';obtain⟨xs,e2,p5⟩:=Po.opt p4;obtain⟨ts,e3,p6⟩:=Po.opt p5;split at p6
 next hz =>
  obtain⟨c,vs,rfl,rd,rs⟩:=zt rel2 e2 rv2;have:=ZbM rs e3;subst this;exact⟨c,ts,rfl,rd,hz,p6.now rel2 _ (yan _)⟩
 next=>exact p6.elim
theorem YbK{μ:List Addr}{L:Addr->Prop}{H:Hp}:∀(ts:List Str),RVs ct μ L H (ts.map λt=>MV.f (.str t)) (ts.map V.str)
 |[]=>RVs.nil
 |t::ts=>RVs.cons (yan t) (YbK ts)
theorem Qcy{ap cp:Pos}(fz:Bool)(ha:PE X a (lE ct Ra E ea))(hb:PE X b (lE ct Ra E eb))(hn:Qe a=true)(hpl:ya b=true)(hline:(ap.endLine==cp.line)=true) :
  PE X (.Call (.Attribute a "split" ap) [b] [] cp) (lE ct Ra E λσ h=>(ea σ h).bind λx h1=>opt (Zl x) λ_=>(eb σ h1).bind λy h2=>YO (.split fz) x y h2):=by
 have hpl':∀ e∈[b],ya e=true:=λe he=>by rw[va.mp he];exact hpl
 refine PE.imp (zcg ha hb ⟨Qv hn,ZT hpl' (by simp),hline,by rw[zr hpl'];rfl⟩) λσ H Q q=>?_;obtain⟨μ,h,σs,rel,rst,ra,pp⟩:=q;refine lE.mk rel rst ra pp λm w μ1 h1 H1 ex1 rel1 rst1 rv1 p1=>?_;obtain⟨z,e1,p2⟩:=Po.opt p1;refine⟨z,zQ rv1 e1,?_⟩;refine lE.mk rel1 rst1 ra p2 λm2 w2 μ2 h2 H2 ex2 rel2 rst2 rv2 p3=>?_;obtain⟨z',e1',p4⟩:=Po.opt p3;rw[e1] at e1';cases e1';obtain⟨sep,e2,p5⟩:=Po.opt p4;split at p5
 next hz=>exact⟨sep,zQ rv2 e2,hz.1,ZaD hz.2,yJ rel2 (YbK _) p5⟩
 next=>exact p5.elim
theorem e_at(ha:PE X a (lE ct Ra E ea))(hb:PE X b (lE ct Ra E eb))(hpl:ya b=true) :
  PE X (.Subscript a b pos) (lE ct Ra E λσ h=>(ea σ h).bind λx h1=>opt (Zl x) λ_=>(eb σ h1).bind λy h2=>YO .at x y h2):=by
 refine PE.imp (Zbx QcQ ha hb (ybq hpl)) λσ H Q q=>?_;obtain⟨μ,h,σs,rel,rst,ra,pp⟩:=q;refine lE.mk rel rst ra pp λm w μ1 h1 H1 ex1 rel1 rst1 rv1 p1=>?_;obtain⟨z,e1,p2⟩:=Po.opt p1;refine lE.mk rel1 rst1 ra p2 λm2 w2 μ2 h2 H2 ex2 rel2 rst2 rv2 p3=>?_;obtain⟨z',e1',p4⟩:=Po.opt p3;rw[e1] at e1';cases e1';obtain⟨i,e2,p5⟩:=Po.opt p4;obtain⟨c,e3,p6⟩:=Po.opt p5;have:=qu e2;subst this;split at e3
 next hz =>
  have hlt:=(Xa.mp e3).1;refine⟨z,i,c,zQ rv1 e1,yC rv2,ZaD hz.1,?_,p6.now rel2 _ (yan _)⟩;unfold atI ixN;rw[if_pos hz.2,if_pos (by lia)];exact e3
 next=>cases e3
theorem e_inS(ha:PE X a (lE ct Ra E ea))(hb:PE X b (lE ct Ra E eb))(hp:ya b=true) :
  PE X (.Compare a [.In] [b] pos) (lE ct Ra E λσ h=>(ea σ h).bind λx h1=>opt (Zl x) λ_=>(eb σ h1).bind λy h2=>YO .inn x y h2) /\
  PT X (.Compare a [.In] [b] pos) (lT ct Ra E (tst λσ h=>(ea σ h).bind λx h1=>opt (Zl x) λ_=>(eb σ h1).bind λy h2=>YO .inn x y h2)):=by
 have main:∀ σ H Q,lE ct Ra E (λσ h=>(ea σ h).bind λx h1=>opt (Zl x) λ_=>(eb σ h1).bind λy h2=>YO .inn x y h2) σ H Q->tOp (λx y H Q=>∃ i j,x=.str i/\y=.str j/\Q (.bl (!(Builtin.Str.occurrences j i 0 j.length 1).isEmpty)) H) (lE ct Ra E ea) (lE ct Ra E eb) σ H Q:=λσ H Q q=>by
  obtain⟨μ,h,σs,rel,rst,ra,pp⟩:=q;refine lE.mk rel rst ra pp λm w μ1 h1 H1 ex1 rel1 rst1 rv1 p1=>?_;obtain⟨z,e1,p2⟩:=Po.opt p1;refine lE.mk rel1 rst1 ra p2 λm2 w2 μ2 h2 H2 ex2 rel2 rst2 rv2 p3=>?_;obtain⟨z',e1',p4⟩:=Po.opt p3;rw[e1] at e1';cases e1';obtain⟨j,e2,p5⟩:=Po.opt p4;exact⟨z,j,zQ rv1 e1,zQ rv2 e2,p5.now rel2 _ (yR _)⟩
 have hb':behindInMarks .In b=false:=qM hp _;exact qaO (Qbk Za8 ha hb hb') (YaO Za8 ha hb hb') main
theorem e_cat(ha:PE X a (lE ct Ra E ea))(hb:PE X b (lE ct Ra E eb)) :
  PE X (.BinOp a .Add b pos) (lE ct Ra E λσ h=>(ea σ h).bind λx h1=>opt (Zl x) λ_=>(eb σ h1).bind λy h2=>YO .cat x y h2):=by
 refine PE.imp (Ybr YbB ha hb) λσ H Q q=>?_;obtain⟨μ,h,σs,rel,rst,ra,pp⟩:=q;refine lE.mk rel rst ra pp λm w μ1 h1 H1 ex1 rel1 rst1 rv1 p1=>?_;obtain⟨z,e1,p2⟩:=Po.opt p1;refine lE.mk rel1 rst1 ra p2 λm2 w2 μ2 h2 H2 ex2 rel2 rst2 rv2 p3=>?_;obtain⟨z',e1',p4⟩:=Po.opt p3;rw[e1] at e1';cases e1';obtain⟨j,e2,p5⟩:=Po.opt p4;split at p5
 next hz=>exact⟨z,j,zQ rv1 e1,zQ rv2 e2,ZaD hz,p5.now rel2 _ (yan _)⟩
 next=>exact p5.elim
theorem e_rep(ha:PE X a (lE ct Ra E ea))(hb:PE X b (lE ct Ra E eb)) :
  PE X (.BinOp a .Mult b pos) (lE ct Ra E λσ h=>(ea σ h).bind λx h1=>opt (Zl x) λ_=>(eb σ h1).bind λy h2=>YO .rep x y h2):=by
 refine PE.imp (Ybr YbA ha hb) λσ H Q q=>?_;obtain⟨μ,h,σs,rel,rst,ra,pp⟩:=q;refine lE.mk rel rst ra pp λm w μ1 h1 H1 ex1 rel1 rst1 rv1 p1=>?_;obtain⟨z,e1,p2⟩:=Po.opt p1;refine lE.mk rel1 rst1 ra p2 λm2 w2 μ2 h2 H2 ex2 rel2 rst2 rv2 p3=>?_;obtain⟨z',e1',p4⟩:=Po.opt p3;rw[e1] at e1';cases e1';obtain⟨j,e2,p5⟩:=Po.opt p4;have:=qu e2;subst this;split at p5
 next hz=>exact⟨z,j,zQ rv1 e1,yC rv2,hz.1,hz.2.1,hz.2.2,p5.now rel2 _ (yan _)⟩
 next=>exact p5.elim
theorem QbQ{μ:List Addr}{L:Addr->Prop}{H:Hp}:∀{xs ys:List MV}{vs ws:List V}{as:List Nat},RVs ct μ L H xs vs->RVs ct μ L H ys ws->ZH xs=some as->ZH ys=some as->vs=ws/\∀ v∈vs,∃ c,v=V.ref c
 |[],ys,vs,ws,as,r,r',e,e'=>by
  simp only[ZH,Option.some.injEq] at e;subst e;have:ys=[]:=by
   cases ys with
   |nil=>rfl
   |cons y ys=>cases y <;> simp[ZH] at e'
  subst this;simp only[RVs] at r r';subst r;subst r';exact⟨rfl,λv h=>by cases h⟩
 |x::xs,ys,vs,ws,as,r,r',e,e'=>by
  cases x with
  |ref i =>
   simp only[ZH,xc] at e;obtain⟨as',e1,rfl⟩:=e;cases ys with
   |nil=>simp[ZH] at e'
   |cons y ys =>
    cases y with
    |ref j =>
     simp only[ZH,xc,List.cons.injEq] at e';obtain⟨as2,e2,rfl,rfl⟩:=e';simp only[RVs,RV] at r r';obtain⟨v,t,rfl,⟨b,eb,rfl⟩,r2⟩:=r;obtain⟨v',t',rfl,⟨b',eb',rfl⟩,r2'⟩:=r';rw[eb] at eb';cases eb';obtain⟨q1,q2⟩:=QbQ r2 r2' e1 e2;subst q1;exact⟨rfl,λv h=>by
      rcases vb.mp h with rfl|h
      ·exact⟨b,rfl⟩
      ·exact q2 v h⟩
    |_=>simp[ZH] at e'
  |_=>simp[ZH] at e
theorem ycU(c:Cc X Pm ct n Ra E N sc)(ha:PE X a (lE ct Ra E ea))(hb:PE X b (lE ct Ra E eb))(hp:ya b=true) :
  PE X (.Compare a [.Eq] [b] pos) (lE ct Ra E λσ h=>(ea σ h).bind λx h1=>opt (some (⟨#[]⟩:Str)) λ_=>(eb σ h1).bind λy h2=>YO .same x y h2) /\
  PT X (.Compare a [.Eq] [b] pos) (lT ct Ra E (tst λσ h=>(ea σ h).bind λx h1=>opt (some (⟨#[]⟩:Str)) λ_=>(eb σ h1).bind λy h2=>YO .same x y h2)):=by
 have main:∀ σ H Q,lE ct Ra E (λσ h=>(ea σ h).bind λx h1=>opt (some (⟨#[]⟩:Str)) λ_=>(eb σ h1).bind λy h2=>YO .same x y h2) σ H Q->tOp (λx y H Q=>∃ a b vs,x=.ref a/\y=.ref b/\Rd H a (.lst vs)/\Rd H b (.lst vs)/\(∀ v∈vs,∃ c,v=V.ref c)/\Q (.bl true) H) (lE ct Ra E ea) (lE ct Ra E eb) σ H Q:=λσ H Q q=>by
  obtain⟨μ,h,σs,rel,rst,ra,pp⟩:=q;refine lE.mk rel rst ra pp λm w μ1 h1 H1 ex1 rel1 rst1 rv1 p1=>?_;refine lE.mk rel1 rst1 ra p1 λm2 w2 μ2 h2 H2 ex2 rel2 rst2 rv2 p3=>?_;obtain⟨as,e1,p4⟩:=Po.opt p3;obtain⟨bs,e2,p5⟩:=Po.opt p4;split at p5
  next hz =>
   subst hz;rw[ub] at e1 e2;obtain⟨xs,e1,f1⟩:=e1;obtain⟨ys,e2,f2⟩:=e2;obtain⟨b1,vs,rfl,rd1,rs1⟩:=zt rel2 e1 (rv1.ext ex2);obtain⟨b2,ws,rfl,rd2,rs2⟩:=zt rel2 e2 rv2;obtain⟨q1,q2⟩:=QbQ rs1 rs2 f1 f2;subst q1;exact⟨b1,b2,vs,rfl,rfl,rd1,rd2,q2,p5.now rel2 _ (yR _)⟩
  next=>exact p5.elim
 have hb':behindInMarks .Eq b=false:=qM hp _;have hu:X.A.units<cLine:=by have:=c.units;lia
 exact qaO (Qbk (qbQ hu) ha hb hb') (YaO (qbQ hu) ha hb hb') main
theorem yaJ{P:Program}{w:World}:∀(ks:List (Int×Int)),ks.all Y4=true->ks.Nodup->(ks.map λk=>(tupleKind (qg P w)).hash (kP k)).Nodup
 |[],_,_=>by simp
 |k::ks,h,n=>by
  rw[List.all_cons,Wa] at h;rw[Xm] at n;rw[Xd,Xm];refine⟨λm=>?_,yaJ ks h.2 n.2⟩;obtain⟨k',hk,e⟩:=Vj.mp m;have:=qb3 (by have q:=uk.mp h.2 k' hk;simpa[Y4,Zbg] using q) (by have q:=h.1;simpa[Y4,Zbg] using q) e;exact n.1 (this ▸ hk)
theorem e_upd{ap cp:Pos}(c:Cc X Pm ct n Ra E N sc)(ha:PE X a (lE ct Ra E ea))(hb:PE X b (lE ct Ra E eb))(hn:Qe a=true)(hpl:ya b=true)(hline:(ap.endLine==cp.line)=true) :
  PE X (.Call (.Attribute a "update" ap) [b] [] cp) (lE ct Ra E λσ h=>(ea σ h).bind λx h1=>opt ((QL h1 x).map λ_=>(⟨#[]⟩:Str)) λ_=>(eb σ h1).bind λy h2=>YO .upd x y h2):=by
 have hpl':∀ e∈[b],ya e=true:=λe he=>by rw[va.mp he];exact hpl
 have hu:X.A.units+3<cLine:=by have:=c.units;lia
 refine PE.imp (ycf hu ha hb ⟨Qv hn,ZT hpl' (by simp),hline,by rw[zr hpl'];rfl⟩) λσ H Q q=>?_;obtain⟨μ,h,σs,rel,rst,ra,pp⟩:=q;refine lE.mk rel rst ra pp λm w μ1 h1 H1 ex1 rel1 rst1 rv1 p1=>?_;obtain⟨st,e0,p2⟩:=Po.opt p1;rw[xc] at e0;obtain⟨ks0,e0,_⟩:=e0;obtain⟨c,rfl,rd0⟩:=yca rel1 rv1 e0;refine⟨c,rfl,.inr ⟨_,rd0⟩,?_⟩;refine lE.mk rel1 rst1 ra p2 λm2 w2 μ2 h2 H2 ex2 rel2 rst2 rv2 p3=>?_;have rv1':=rv1.ext ex2;rw[show YO .upd m m2 h2=updV m m2 h2 from rfl] at p3;cases m with
 |ref i =>
  cases m2 with
  |f y =>
   cases y with
   |msk ks' =>
    obtain⟨ks,e1,p4⟩:=Po.opt p3;simp only[RV] at rv1';obtain⟨c',ec,ecc⟩:=rv1';cases ecc;have hc:=ybb e1;have hH:H2 c=some (.dT (YC ks)):=rel2.cells _ _ _ ec hc;simp only[RV,RF] at rv2;obtain⟨d,o,rfl,nd,hd⟩:=rv2;have ex4:=λl=>Ext.set (H:=H2) rel2 ec hc (λz=>nomatch z) (.msk l) (.dT (YC l));have rel4:=λl=>rel2.set (c':=.msk l) (o:=.dT (YC l)) ec hc (λz=>nomatch z) ye;refine⟨d,YC ks,YC ks',rfl,hH,.inr ⟨o,hd⟩,λz=>?_,?_⟩
    ·rw[z,hd] at hH;cases hH
    ·split at p4
     next hq =>
      split at p4
      next hq2 =>
       left
       have e6:(if YC ks'=[] then YC ks else YC ks')=YC (if ks'=[] then ks else ks'):=by
        by_cases z:ks'=[]
        ·subst z;rfl
        ·rw[if_neg z,if_neg (by intro q;exact z (Vq.mp q))]
       refine⟨?_,?_,?_⟩
       ·rcases hq with z|z
        ·left;rw[z];rfl
        ·right;rw[z];rfl
       ·rw[ug];exact yaJ ks' hq2.1 hq2.2
       ·rw[e6];exact p4.now' (ex4 _) (rel4 _) _ (by simp only[RV,RF])
      next=>exact p4.elim
     next hq =>
      split at p4
      next hz =>
       right
       refine⟨λz=>hq (.inl (Vq.mp z)),λz=>hq (.inr (Vq.mp z)),by rw[vc,vc];exact hz,?_⟩;rw[qan];exact p4.now' (ex4 _) (rel4 _) _ (by simp only[RV,RF])
      next=>exact p4.elim
   |_=>exact p3.elim
  |ref _=>exact p3.elim
  |tup _=>exact p3.elim
  |exc _=>exact p3.elim
 |f _=>cases m2 <;> exact p3.elim
 |tup _=>cases m2 <;> exact p3.elim
 |exc _=>cases m2 <;> exact p3.elim
end
section
variable {ct:Tx} {Pm:Prog} {n:Nat}
section
variable {X:Cx} {E:XK} {Ra:L2.St->Prop} {N:List Str} {sc:Scope}
theorem Zc{e:Expr}{ev ev':MSt->MH->R MV}(p:PE X e (lE ct Ra E ev))(h:∀ σ hh,ev' σ hh=ev σ hh):PE X e (lE ct Ra E ev'):=by
 have:ev'=ev:=funext λσ=>funext λhh=>h σ hh;rw[this];exact p
theorem qy{e:Expr}{ev ev':MSt->MH->R MV}(p:PE X e (lE ct Ra E ev)/\PT X e (lT ct Ra E (tst ev)))(h:∀ σ hh,ev' σ hh=ev σ hh):PE X e (lE ct Ra E ev')/\PT X e (lT ct Ra E (tst ev')):=by
 have:ev'=ev:=funext λσ=>funext λhh=>h σ hh;rw[this];exact p
theorem Cc.comp{cs:Scope}{N':List Str}(c:Cc X Pm ct n Ra E N sc)(nd:N'.Nodup)(C:Addr)(s3:Shared)(H:Hp)(ex:List Addr):Cc (cxC X cs N' C s3 H ex) Pm ct n (λ_=>True) E0 N' (zR cs sc) :=
 ⟨c.txt,c.calm,c.room,λσ _ pins H s e s' I ⟨_,_,_,_,_,_,_,_,_,_,_,_,_,_,_,q⟩=>q.elim,rfl,by rw[<- c.sc];rfl,nd,c.hK⟩
noncomputable def Sd(X:Cx)(ct:Tx)(Pm:Prog)(n:Nat)(Ra:L2.St->Prop)(E:XK)(me:ME)(e:Expr):Prop :=
 PE X e (lE ct Ra E (Zb Pm (run Pm n) me))/\(okT me=true->PT X e (lT ct Ra E (tst (Zb Pm (run Pm n) me))))
theorem Sd.of{me:ME}{e:Expr}(h:PE X e (lE ct Ra E (Zb Pm (run Pm n) me))/\PT X e (lT ct Ra E (tst (Zb Pm (run Pm n) me)))):Sd X ct Pm n Ra E me e:=⟨h.1,λ_=>h.2⟩
theorem zcj{ms:List ME}{es:List Expr}(b:Bo ct X Ra E Pm n ms es)(hl:es.length<1000):∀ σ h xs h',Yj Pm (run Pm n) ms σ h=.ok xs h'->xs.length<=sizeLine:=λσ h xs h' e=>by
 rw[qT e,b.length];exact Ve (ux hl) (by decide)
end
end
end SD
end
section
namespace SD
open PySem PySem.Spec PyProof.Rows L2 L3 M3 MP
variable {ct:Tx} {Pm:Prog} {n:Nat}
theorem Yco{X:Cx}{E:XK}{Ra:L2.St->Prop}{N:List Str}{sc:Scope}{it:String}{t iter:Expr}{ms:List ME}(c:Cc X Pm ct n Ra E N sc)(k1:ya0 t it iter=true)(k2:gl sc (Str.ofString it)=true)(b:Bo ct X Ra E Pm n ms (QJ iter)) :
  PI X t iter (lI ct Ra E (Yj Pm (run Pm n) ms) it):=by
 obtain⟨g1,g2,g3⟩:=YY c.sc k2;unfold ya0 at k1;split at k1
 next x p as p2 =>
  simp only[Wa,Vi,beq_iff_eq] at k1;obtain⟨k1,rfl⟩:=k1;have b':Bo ct X Ra E Pm n ms as:=b
  rcases k1 with (⟨rfl,ha⟩|⟨⟨rfl,ht⟩,ha⟩)|⟨⟨rfl,ht⟩,ha⟩
  ·have hl:=b'.length;have hm:X.mg "range"=none:=c.txt.blts "range" (by simp);exact zb5 g1 hm b'.pa b'.plain ha λσ h xs h' e=>by rw[qT e,hl]
  ·cases t with
   |Tuple es k pt =>
    have hm:X.mg "zip"=none:=c.txt.blts "zip" (by simp)
    rcases as with _|⟨u,_|⟨v,_|⟨w,as⟩⟩⟩
    ·simp at ha
    ·simp at ha
    ·exact ycX c.hK g1 hm b'.pa b'.plain λσ h xs h' e=>by rw[qT e,b'.length];rfl
    ·simp at ha
   |_=>exact Vh ht
  ·exact Vh ht
 next=>exact Vh k1
mutual
theorem sB:∀(me:ME){X:Cx}{E:XK}{Ra:L2.St->Prop}{N:List Str} {sc:Scope} (c:Cc X Pm ct n Ra E N sc) (e:Expr),qe Pm me N sc e=true->Sd X ct Pm n Ra E me e
 |.var i,X,E,Ra,N,sc,c,e,h=>by
  have h:=ze h;cases e with
  |Name x p =>
   have h:(N[i]? == some x&&Zbz sc x)=true:=h;simp only[Wa,beq_iff_eq] at h;exact Sd.of (Yc (Zc (e_var (by rw[c.nm];exact h.1) (by rw[c.sc];exact h.2)) λσ hh=>by simp only[Zb]))
  |_=>exact ff h
 |.cI i,X,E,Ra,N,sc,c,e,h=>by
  have h:=ze h;cases e with
  |Constant k j p =>
   cases k with
   |int z =>
    have hz:i=z:=by simpa using(show(i==z)=true from h)
    subst hz;exact Sd.of (Yc (Zc (zaO za1 λ_ _ _=>zaD _) λσ hh=>by simp only[Zb]))
   |_=>exact ff h
  |_=>exact ff h
 |.cB i,X,E,Ra,N,sc,c,e,h=>by
  have h:=ze h;cases e with
  |Constant k j p =>
   cases k with
   |bool z =>
    have hz:i=z:=by simpa using(show(i==z)=true from h)
    subst hz;exact Sd.of (Yc (Zc (zaO pe_bl λ_ _ _=>yR _) λσ hh=>by simp only[Zb]))
   |_=>exact ff h
  |_=>exact ff h
 |.cN,X,E,Ra,N,sc,c,e,h=>by
  have h:=ze h;cases e with
  |Constant k j p =>
   cases k with
   |none =>
    exact Sd.of (Yc (Zc (zaO ZcJ λ_ _ _=>Ya0) λσ hh=>by simp only[Zb]))
   |_=>exact ff h
  |_=>exact ff h
 |.cS i,X,E,Ra,N,sc,c,e,h=>by
  have h:=ze h;cases e with
  |Constant k j p =>
   cases k with
   |str z =>
    have hz:i=z:=by simpa using(show(i==z)=true from h)
    subst hz;exact Sd.of (Yc (Zc (zaO yH λ_ _ _=>yan _) λσ hh=>by simp only[Zb]))
   |_=>exact ff h
  |_=>exact ff h
 |.bin fz op a b,X,E,Ra,N,sc,c,e,h=>by
  have h:=ze h;cases e with
  |BinOp l o r p =>
   have h:(o==mOp op&&qe Pm a N sc l&&qe Pm b N sc r)=true:=h;simp only[Wa,beq_iff_eq] at h;obtain⟨⟨rfl,h1⟩,h2⟩:=h;exact Sd.of (Yc (Zc (e_bin fz op (sB a c l h1).1 (sB b c r h2).1) λσ hh=>by simp only[Zb]))
  |_=>exact ff h
 |.neg a,X,E,Ra,N,sc,c,e,h=>by
  have h:=ze h;cases e with
  |UnaryOp o x p =>
   cases o with
   |USub=>exact Sd.of (Yc (Zc (e_neg (sB a c x (show qe Pm a N sc x=true from h)).1) λσ hh=>by simp only[Zb]))
   |_=>exact ff h
  |_=>exact ff h
 |.cmp op a b,X,E,Ra,N,sc,c,e,h=>by
  have h:=ze h;cases e with
  |Compare l os rs p =>
   rcases os with _|⟨o,_|⟨o2,os⟩⟩
   ·exact ff h
   ·rcases rs with _|⟨r,_|⟨r2,rs⟩⟩
    ·exact ff h
    ·have h:(o==zce op&&qe Pm a N sc l&&qe Pm b N sc r)=true:=h;simp only[Wa,beq_iff_eq] at h;obtain⟨⟨rfl,h1⟩,h2⟩:=h;exact Sd.of (qy (e_cmp c.hK op c.units (sB a c l h1).1 (sB b c r h2).1 (yo h2)) λσ hh=>by simp only[Zb])
    ·exact ff h
   ·exact ff h
  |_=>exact ff h
 |.isN a,X,E,Ra,N,sc,c,e,h=>ff (ze h)
 |.notN a,X,E,Ra,N,sc,c,e,h=>ff (ze h)
 |.and es,X,E,Ra,N,sc,c,e,h=>by
  have h:=ze h;cases e with
  |BoolOp o vs p =>
   cases o with
   |And =>
    have h:(es.all okT&&Yp Pm es N sc vs)=true:=h;rw[Wa] at h;obtain⟨i1,i2⟩:=ZcE (pos:=p) (sBs es c vs h.2) h.1;exact Sd.of (qy ⟨i1,i2.pt⟩ λσ hh=>by simp only[Zb])
   |_=>exact ff h
  |_=>exact ff h
 |.or es,X,E,Ra,N,sc,c,e,h=>by
  have h:=ze h;cases e with
  |BoolOp o vs p =>
   cases o with
   |Or =>
    have h:(es.all okT&&Yp Pm es N sc vs)=true:=h;rw[Wa] at h;obtain⟨i1,i2⟩:=e_or (pos:=p) (sBs es c vs h.2) h.1;exact Sd.of (qy ⟨i1,i2.pt⟩ λσ hh=>by simp only[Zb])
   |_=>exact ff h
  |_=>exact ff h
 |.not a,X,E,Ra,N,sc,c,e,h=>by
  have h:=ze h;cases e with
  |UnaryOp o x p =>
   cases o with
   |Not =>
    have h:(okT a&&qe Pm a N sc x)=true:=h;rw[Wa] at h;obtain⟨i1,i2⟩:=sB a c x h.2;exact Sd.of (qy (e_not i1 (i2 h.1)) λσ hh=>by simp only[Zb])
   |_=>exact ff h
  |_=>exact ff h
 |.ite d a b,X,E,Ra,N,sc,c,e,h=>by
  have h:=ze h;cases e with
  |IfExp t x y p =>
   have h:(okT d&&qe Pm d N sc t&&qe Pm a N sc x&&qe Pm b N sc y)=true:=h;simp only[Wa] at h;obtain⟨⟨⟨h0,h1⟩,h2⟩,h3⟩:=h;exact⟨Zc (e_ite ((sB d c t h1).2 h0) (sB a c x h2).1 (sB b c y h3).1) λσ hh=>by simp only[Zb],λz=>Vh z⟩
  |_=>exact ff h
 |.tup es,X,E,Ra,N,sc,c,e,h=>by
  have h:=ze h;cases e with
  |Tuple vs k p =>
   have h:(decide (vs.length<1000)&&Yp Pm es N sc vs)=true:=h;rw[Wa] at h;have b:=sBs es c vs h.2;exact Sd.of (Yc (Zc (e_tup b.pa (zcj b (of_decide_eq_true h.1))) λσ hh=>by simp only[Zb]))
  |_=>exact ff h
 |.lst fz es,X,E,Ra,N,sc,c,e,h=>by
  have h:=ze h;cases e with
  |List vs p =>
   have h:(decide (vs.length<1000)&&Yp Pm es N sc vs)=true:=h;rw[Wa] at h;have b:=sBs es c vs h.2;exact Sd.of (Yc (Zc (e_lst fz b.pa (zcj b (of_decide_eq_true h.1))) λσ hh=>by simp only[Zb]))
  |_=>exact ff h
 |.sub a i,X,E,Ra,N,sc,c,e,h=>by
  have h:=ze h;cases e with
  |Subscript x y p =>
   have h:(qe Pm a N sc x&&qe Pm i N sc y)=true:=h;rw[Wa] at h;exact Sd.of (Yc (Zc (e_sub c.hK (sB a c x h.1).1 (sB i c y h.2).1 (yo h.2)) λσ hh=>by simp only[Zb]))
  |_=>exact ff h
 |.slice fz a lo hi,X,E,Ra,N,sc,c,e,h=>by
  have h:=ze h;cases e with
  |Subscript x y p =>
   cases y with
   |Slice l u st p2 =>
    cases st with
    |none =>
     have h:(qe Pm a N sc x&&qcf Pm lo N sc l&&qcf Pm hi N sc u)=true:=h;simp only[Wa] at h;obtain⟨⟨h1,h2⟩,h3⟩:=h;exact Sd.of (Yc (Zc (zcw c.hK fz (sB a c x h1).1 (sBo lo c l h2) (sBo hi c u h3)) λσ hh=>by simp only[Zb]))
    |some _=>exact ff h
   |_=>exact ff h
  |_=>exact ff h
 |.fld a f,X,E,Ra,N,sc,c,e,h=>by
  have h:=ze h;cases e with
  |Attribute x m p =>
   have h:(m==Str.ofString f&&Qe x&&qe Pm a N sc x)=true:=h;simp only[Wa,beq_iff_eq] at h;obtain⟨⟨rfl,h1⟩,h2⟩:=h;exact Sd.of (Yc (Zc (e_fld c.txt (sB a c x h2).1 h1) λσ hh=>by simp only[Zb]))
  |_=>exact ff h
 |.call f es,X,E,Ra,N,sc,c,e,h=>by
  have h:=ze h;cases e with
  |Call g as ks p =>
   cases g with
   |Name x p2 =>
    cases as with
    |nil=>exact ff h
    |cons v vs =>
     cases ks with
     |cons _ _=>exact ff h
     |nil =>
      have h:(x==Str.ofString f&&gl sc x&&!(f.toList.contains '.')&&(Pm.defs f).isSome&&Yp Pm es N sc (v::vs))=true:=h;simp only[Wa,beq_iff_eq,vi] at h;obtain⟨⟨⟨⟨rfl,h1⟩,h2⟩,h3⟩,h4⟩:=h;obtain⟨d,hd⟩:=Wj.mp h3;have b:=sBs es c (v::vs) h4;exact Sd.of (Yc (Zc (YcY c hd h2 h1 b.pa b.plain) λσ hh=>by simp only[Zb]))
   |_=>exact ff h
  |_=>exact ff h
 |.make fz cn es,X,E,Ra,N,sc,c,e,h=>by
  have h:=ze h;cases e with
  |Call g as ks p =>
   cases g with
   |Name x p2 =>
    cases as with
    |nil =>
     cases ks with
     |cons _ _=>cases es <;> exact ff h
     |nil =>
      cases es with
      |cons _ _=>exact ff h
      |nil =>
       have h:(x==Str.ofString cn&&gl sc x&&Pm.mk0 cn&&(Pm.meths cn "__init__").isNone)=true:=h;simp only[Wa,beq_iff_eq,Option.isNone_iff_eq_none] at h;obtain⟨⟨⟨rfl,h1⟩,h3⟩,h4⟩:=h;exact Sd.of (Yc (Zc (Yct fz c h3 h4 h1) λσ hh=>by simp only[Zb,Yj]))
    |cons v vs =>
     cases ks with
     |cons _ _=>exact ff h
     |nil =>
      have h:(x==Str.ofString cn&&gl sc x&&(Pm.meths cn "__init__").isSome&&Yp Pm es N sc (v::vs))=true:=h;simp only[Wa,beq_iff_eq] at h;obtain⟨⟨⟨rfl,h1⟩,h3⟩,h4⟩:=h;obtain⟨d,hd⟩:=Wj.mp h3;have b:=sBs es c (v::vs) h4;exact Sd.of (Yc (Zc (QcK fz c hd h1 b.pa b.plain) λσ hh=>by simp only[Zb]))
   |_=>exact ff h
  |_=>exact ff h
 |.meth o m es,X,E,Ra,N,sc,c,e,h=>by
  have h:=ze h;cases e with
  |Call g as ks p =>
   cases g with
   |Attribute x nm ap =>
    cases ks with
    |cons _ _=>exact ff h
    |nil =>
     have h:(nm==Str.ofString m&&decide (m≠"__init__")&&Qe x&&(ap.endLine==p.line)&&qe Pm o N sc x&&Yp Pm es N sc as&&decide (as.length<30))=true:=h;simp only[Wa,beq_iff_eq,decide_eq_true_eq] at h;obtain⟨⟨⟨⟨⟨⟨rfl,h0⟩,h1⟩,h2⟩,h3⟩,h4⟩,h5⟩:=h;have b:=sBs es c as h4;have ho:=(sB o c x h3).1;have hl:(ap.endLine==p.line)=true:=by simpa using h2
     cases as with
     |nil =>
      cases es with
      |cons _ _=>exact b.elim
      |nil=>exact Sd.of (Yc (Zc (Qcw c h0 ho h1 hl) λσ hh=>by simp only[Zb,Yj]))
     |cons v vs=>exact Sd.of (Yc (Zc (zcB c h0 ho h1 b.pa b.plain h5 hl) λσ hh=>by simp only[Zb]))
   |_=>exact ff h
  |_=>exact ff h
 |.blt fz id es,X,E,Ra,N,sc,c,e,h=>by
  have h:=ze h;cases e with
  |Call g as ks p =>
   cases g with
   |Name x p2 =>
    cases as with
    |nil=>exact ff h
    |cons v vs =>
     cases ks with
     |cons _ _=>exact ff h
     |nil =>
      have h:(x==Str.ofString id&&gl sc x&&(fnNames.contains id||tyNames.contains id)&&Yp Pm es N sc (v::vs))=true:=h;simp only[Wa,beq_iff_eq,Vi] at h;obtain⟨⟨⟨rfl,h1⟩,h2⟩,h4⟩:=h;have b:=sBs es c (v::vs) h4;exact Sd.of (Yc (Zc (e_blt fz c (by simpa using h2) h1 b.pa b.plain) λσ hh=>by simp only[Zb]))
   |_=>exact ff h
  |_=>exact ff h
 |.isI a t,X,E,Ra,N,sc,c,e,h=>by
  have h:=ze h;cases e with
  |Call g as ks p =>
   cases g with
   |Name x p2 =>
    rcases as with _|⟨v,_|⟨y,_|⟨z,as⟩⟩⟩
    ·exact ff h
    ·exact ff h
    ·cases y with
     |Name y p3 =>
      cases ks with
      |nil =>
       have h:(x==("isinstance":Str)&&gl sc x&&y==Str.ofString t&&gl sc y&&(isTys.contains t||(Pm.subs t t).isSome)&&qe Pm a N sc v)=true:=h;simp only[Wa,beq_iff_eq,Vi] at h;obtain⟨⟨⟨⟨⟨rfl,h1⟩,rfl⟩,h2⟩,h3⟩,h4⟩:=h;exact Sd.of (Yc (Zc (e_isI c h3 h1 h2 (sB a c v h4).1 (yo h4)) λσ hh=>by simp only[Zb]))
      |cons _ _=>exact ff h
     |_=>exact ff h
    ·cases y <;> exact ff h
   |_=>exact ff h
  |_=>exact ff h
 |.revL fz a,X,E,Ra,N,sc,c,e,h=>by
  replace h:=ze h;replace h:(match YbP e with|some (x,y,v)=>false|none=>match ZbD e with|some v=>qe Pm a N sc v|none=>false)=true:=h;split at h
  next x y v w=>exact ff h
  next =>
   split at h
   next v w =>
    have hw:∃ st p2 p,e=.Subscript v (.Slice none none (some st) p2) p/\isM1 st=true:=by
     unfold ZbD at w;split at w
     ·split at w
      ·cases w;exact⟨_,_,_,rfl,by assumption⟩
      ·cases w
     ·cases w
    obtain⟨st,p2,p,rfl,hst⟩:=hw;exact Sd.of (Yc (Zc (qcN fz c hst (sB a c v h).1) λσ hh=>by simp only[Zb]))
   next=>exact ff h
 |.mNew,X,E,Ra,N,sc,c,e,h=>by
  replace h:=ze h;cases e with
  |Dict ks vs p =>
   cases ks with
   |nil =>
    cases vs with
    |nil=>exact Sd.of (Yc (Zc qcU λσ hh=>by simp only[Zb]))
    |cons _ _=>exact ff h
   |cons _ _=>exact ff h
  |_=>exact ff h
 |.mOf a,X,E,Ra,N,sc,c,e,h=>by
  replace h:=ze h;cases e with
  |Call f as ks p =>
   cases f with
   |Name x np =>
    rcases as with _|⟨v,_|⟨v2,as⟩⟩
    ·exact ff h
    ·cases ks with
     |nil =>
      replace h:(x==("dict":Str)&&gl sc x&&qe Pm a N sc v)=true:=h;simp only[Wa,beq_iff_eq] at h;obtain⟨⟨rfl,h1⟩,h2⟩:=h;exact Sd.of (Yc (Zc (e_mOf c h1 (sB a c v h2).1 (yo h2)) λσ hh=>by simp only[Zb]))
     |cons _ _=>exact ff h
    ·exact ff h
   |_=>exact ff h
  |_=>exact ff h
 |.tx2 o a b,X,E,Ra,N,sc,c,e,h=>by
  replace h:=ze h;cases o with
  |join =>
   obtain⟨x,ap,v,cp,rfl,h1,h2,h3,h4⟩:∃ x ap v cp,e=.Call (.Attribute x "join" ap) [v] [] cp/\Qe x=true/\(ap.endLine==cp.line)=true/\qe Pm a N sc x=true/\qe Pm b N sc v=true:=by
    cases e with
    |Call f as ks p =>
     cases f with
     |Attribute x n ap =>
      rcases as with _|⟨v,_|⟨v2,as⟩⟩
      ·exact ff h
      ·cases ks with
       |nil =>
        replace h:(n==("join":Str)&&Qe x&&(ap.endLine==p.line)&&qe Pm a N sc x&&qe Pm b N sc v)=true:=h;simp only[Wa,beq_iff_eq] at h;obtain⟨⟨⟨⟨rfl,h1⟩,h2⟩,h3⟩,h4⟩:=h;exact⟨x,ap,v,p,rfl,h1,by simpa using h2,h3,h4⟩
       |cons _ _=>exact ff h
      ·exact ff h
     |_=>exact ff h
    |_=>exact ff h
   exact Sd.of (Yc (Zc (ycO (sB a c x h3).1 (sB b c v h4).1 h1 (yo h4) h2) λσ hh=>by simp only[Zb,t2g]))
  |split fz =>
   obtain⟨x,ap,v,cp,rfl,h1,h2,h3,h4⟩:∃ x ap v cp,e=.Call (.Attribute x "split" ap) [v] [] cp/\Qe x=true/\(ap.endLine==cp.line)=true/\qe Pm a N sc x=true/\qe Pm b N sc v=true:=by
    cases e with
    |Call f as ks p =>
     cases f with
     |Attribute x n ap =>
      rcases as with _|⟨v,_|⟨v2,as⟩⟩
      ·exact ff h
      ·cases ks with
       |nil =>
        replace h:(n==("split":Str)&&Qe x&&(ap.endLine==p.line)&&qe Pm a N sc x&&qe Pm b N sc v)=true:=h;simp only[Wa,beq_iff_eq] at h;obtain⟨⟨⟨⟨rfl,h1⟩,h2⟩,h3⟩,h4⟩:=h;exact⟨x,ap,v,p,rfl,h1,by simpa using h2,h3,h4⟩
       |cons _ _=>exact ff h
      ·exact ff h
     |_=>exact ff h
    |_=>exact ff h
   exact Sd.of (Yc (Zc (Qcy fz (sB a c x h3).1 (sB b c v h4).1 h1 (yo h4) h2) λσ hh=>by simp only[Zb,t2g]))
  |«at» =>
   cases e with
   |Subscript x y p =>
    replace h:(qe Pm a N sc x&&qe Pm b N sc y)=true:=h;rw[Wa] at h;exact Sd.of (Yc (Zc (e_at (sB a c x h.1).1 (sB b c y h.2).1 (yo h.2)) λσ hh=>by simp only[Zb,t2g]))
   |_=>exact ff h
  |inn =>
   cases e with
   |Compare l os rs p =>
    rcases os with _|⟨o,_|⟨o2,os⟩⟩
    ·exact ff h
    ·rcases rs with _|⟨r,_|⟨r2,rs⟩⟩
     ·cases o <;> exact ff h
     ·cases o with
      |In =>
       replace h:(qe Pm a N sc l&&qe Pm b N sc r)=true:=h;simp only[Wa] at h;exact Sd.of (qy (e_inS (sB a c l h.1).1 (sB b c r h.2).1 (yo h.2)) λσ hh=>by simp only[Zb,t2g])
      |_=>exact ff h
     ·cases o <;> exact ff h
    ·cases o <;> exact ff h
   |_=>exact ff h
  |cat =>
   cases e with
   |BinOp x o y p =>
    cases o with
    |Add =>
     replace h:(qe Pm a N sc x&&qe Pm b N sc y)=true:=h;rw[Wa] at h;exact Sd.of (Yc (Zc (e_cat (sB a c x h.1).1 (sB b c y h.2).1) λσ hh=>by simp only[Zb,t2g]))
    |_=>exact ff h
   |_=>exact ff h
  |rep =>
   cases e with
   |BinOp x o y p =>
    cases o with
    |Mult =>
     replace h:(qe Pm a N sc x&&qe Pm b N sc y)=true:=h;rw[Wa] at h;exact Sd.of (Yc (Zc (e_rep (sB a c x h.1).1 (sB b c y h.2).1) λσ hh=>by simp only[Zb,t2g]))
    |_=>exact ff h
   |_=>exact ff h
  |same =>
   cases e with
   |Compare l os rs p =>
    rcases os with _|⟨o,_|⟨o2,os⟩⟩
    ·exact ff h
    ·rcases rs with _|⟨r,_|⟨r2,rs⟩⟩
     ·cases o <;> exact ff h
     ·cases o with
      |Eq =>
       replace h:(qe Pm a N sc l&&qe Pm b N sc r)=true:=h;simp only[Wa] at h;exact Sd.of (qy (ycU c (sB a c l h.1).1 (sB b c r h.2).1 (yo h.2)) λσ hh=>by simp only[Zb,t2g])
      |_=>exact ff h
     ·cases o <;> exact ff h
    ·cases o <;> exact ff h
   |_=>exact ff h
  |upd =>
   obtain⟨x,ap,v,cp,rfl,h1,h2,h3,h4⟩:∃ x ap v cp,e=.Call (.Attribute x "update" ap) [v] [] cp/\Qe x=true/\(ap.endLine==cp.line)=true/\qe Pm a N sc x=true/\qe Pm b N sc v=true:=by
    cases e with
    |Call f as ks p =>
     cases f with
     |Attribute x n ap =>
      rcases as with _|⟨v,_|⟨v2,as⟩⟩
      ·exact ff h
      ·cases ks with
       |nil =>
        replace h:(n==("update":Str)&&Qe x&&(ap.endLine==p.line)&&qe Pm a N sc x&&qe Pm b N sc v)=true:=h;simp only[Wa,beq_iff_eq] at h;obtain⟨⟨⟨⟨rfl,h1⟩,h2⟩,h3⟩,h4⟩:=h;exact⟨x,ap,v,p,rfl,h1,by simpa using h2,h3,h4⟩
       |cons _ _=>exact ff h
      ·exact ff h
     |_=>exact ff h
    |_=>exact ff h
   exact Sd.of (Yc (Zc (e_upd c (sB a c x h3).1 (sB b c v h4).1 h1 (yo h4) h2) λσ hh=>by simp only[Zb,t2g]))
 |.mNin a b,X,E,Ra,N,sc,c,e,h=>by
  replace h:=ze h;cases e with
  |Compare l os rs p =>
   rcases os with _|⟨o,_|⟨o2,os⟩⟩
   ·exact ff h
   ·rcases rs with _|⟨r,_|⟨r2,rs⟩⟩
    ·cases o <;> exact ff h
    ·cases o with
     |NotIn =>
      replace h:(qe Pm a N sc l&&qe Pm b N sc r)=true:=h;simp only[Wa] at h;exact Sd.of (qy (YcT c.units (sB a c l h.1).1 (sB b c r h.2).1 (yo h.2)) λσ hh=>by simp only[Zb])
     |_=>exact ff h
    ·cases o <;> exact ff h
   ·cases o <;> exact ff h
  |_=>exact ff h
 |.nearK a b,X,E,Ra,N,sc,c,e,h=>by
  replace h:=ze h;cases e <;> exact ff h
 |.lm m o es,X,E,Ra,N,sc,c,e,h=>by
  have h:=ze h;cases e with
  |Call g as ks p =>
   cases g with
   |Attribute x nm ap =>
    cases ks with
    |cons _ _=>exact ff h
    |nil =>
     have h:(nm==Str.ofString m&&Qe x&&(ap.endLine==p.line)&&qe Pm o N sc x&&Yp Pm es N sc as&&(if as.isEmpty then lm0Names.contains m else lmNames.contains m&&decide (as.length<30)))=true:=h;simp only[Wa,beq_iff_eq] at h;obtain⟨⟨⟨⟨⟨rfl,h1⟩,h2⟩,h3⟩,h4⟩,h5⟩:=h;have b:=sBs es c as h4;have ho:=(sB o c x h3).1;have hl:(ap.endLine==p.line)=true:=by simpa using h2
     cases as with
     |nil =>
      cases es with
      |cons _ _=>exact b.elim
      |nil =>
       have h5':m∈lm0Names:=by simpa using h5
       simp only[lm0Names,vb,xf,or_false] at h5'
       rcases h5' with rfl
       ·exact Sd.of (Yc (Zc (e_lm0 PySem.F.slot_list_reverse PySem.F.type_list_reverse YbJ ho h1 hl) λσ hh=>by simp only[Zb,Yj]))
     |cons v vs =>
      have h5':m∈lmNames/\(v::vs).length<30:=by simpa using h5
      obtain⟨h6,h7⟩:=h5';simp only[lmNames,vb,xf,or_false] at h6
      rcases h6 with rfl|rfl
      ·exact Sd.of (Yc (Zc (zcD PySem.F.slot_list_append PySem.F.type_list_append QbY ho h1 b.pa b.plain h7 hl) λσ hh=>by simp only[Zb]))
      ·exact Sd.of (Yc (Zc (zcD PySem.F.slot_list_extend PySem.F.type_list_extend Yb1 ho h1 b.pa b.plain h7 hl) λσ hh=>by simp only[Zb]))
   |_=>exact ff h
  |_=>exact ff h
 |.comp fz elt tg it src cond ncv js,X,E,Ra,N,sc,c,e,h=>by
  have h:=ze h;cases e with
  |ListComp x gs cs p =>
   rcases gs with _|⟨⟨t,iter,ifs,a⟩,_|⟨g2,gs⟩⟩
   ·exact ff h
   ·have h:((a==0)&&ya iter&&YD sc N cs (tgN tg t++js.filterMap λj=>N[j]?) ncv js&&decide (tgN tg t++js.filterMap λj=>N[j]?).Nodup&&zK (ownC cs) (tgN tg t++js.filterMap λj=>N[j]?) (zR cs sc) tg t&&qe Pm elt (tgN tg t++js.filterMap λj=>N[j]?) (zR cs sc) x&&chkC Pm cond (tgN tg t++js.filterMap λj=>N[j]?) (zR cs sc) ifs&&(if it == "seq" then YbW Pm src N sc iter else if it == "signs" then false else if it == "enum1" then false else ya0 t it iter&&gl sc (Str.ofString it)&&Yp Pm src N sc (QJ iter)))=true:=h;simp only[Wa,beq_iff_eq,decide_eq_true_eq] at h;obtain⟨⟨⟨⟨⟨⟨⟨ha,h1⟩,h2⟩,h3⟩,h4⟩,h5⟩,h6⟩,h7⟩:=h;subst ha;have hi:PI X t iter (lI ct Ra E (Yj Pm (run Pm n) src) it):=by
     split at h7
     next hs =>
      subst hs;exact sBi src c t iter h7
     next hs =>
      split at h7
      next hs4 =>
       subst hs4;exact ff h7
      next =>
      split at h7
      next hs2 =>
       exact ff h7
      next =>
       simp only[Wa] at h7;obtain⟨⟨k1,k2⟩,k3⟩:=h7;exact Yco c k1 k2 (sBs src c (QJ iter) k3)
    exact Sd.of (Yc (Zc (YcV fz (by rw[c.sc,c.nm];exact h2) c.calm hi (λC s3 H ex=>sG rfl (c.comp h3 C s3 H ex).sc h3 c.calm (λ_ z=>z) tg t h4) (λC s3 H ex=>sBc cond (c.comp h3 C s3 H ex) ifs h6) (λC s3 H ex=>(sB elt (c.comp h3 C s3 H ex) x h5).1) h1) λσ hh=>by simp only[Zb]))
   ·exact ff h
  |_=>exact ff h
 |.frz m,X,E,Ra,N,sc,c,e,h=>by
  have h:=ze h;have h':qe Pm m N sc e=true:=h;exact⟨Zc (e_frz (sB m c e h').1) λσ hh=>by simp only[Zb],λz=>Vh z⟩
theorem sBs:∀(mes:List ME){X:Cx}{E:XK}{Ra:L2.St->Prop}{N:List Str} {sc:Scope} (c:Cc X Pm ct n Ra E N sc) (es:List Expr),Yp Pm mes N sc es=true->Bo ct X Ra E Pm n mes es
 |[],X,E,Ra,N,sc,c,es,h=>by
  cases es with
  |nil=>trivial
  |cons e es=>exact ff h
 |m::ms,X,E,Ra,N,sc,c,es,h=>by
  cases es with
  |nil=>exact ff h
  |cons e es =>
   have h:=QbI h;exact⟨⟨yo h.1,sB m c e h.1⟩,sBs ms c es h.2⟩
theorem sBi:∀(mes:List ME){X:Cx}{E:XK}{Ra:L2.St->Prop}{N:List Str} {sc:Scope} (c:Cc X Pm ct n Ra E N sc) (t e:Expr),YbW Pm mes N sc e=true->PI X t e (lI ct Ra E (Yj Pm (run Pm n) mes) "seq")
 |[],X,E,Ra,N,sc,c,t,e,h=>ff h
 |[m],X,E,Ra,N,sc,c,t,e,h=>by
  have h:qe Pm m N sc e=true:=h;have:=zcW c.hK (tg:=t) (sB m c e h).1;have e2:Yj Pm (run Pm n) [m]=λσ hh=>(Zb Pm (run Pm n) m σ hh).bind λx h1=>.ok [x] h1:=by
   funext σ hh;simp only[Yj] <;> rfl
  rw[e2];exact this
 |_::_::_,X,E,Ra,N,sc,c,t,e,h=>ff h
theorem sBo:∀(mo:Option ME){X:Cx}{E:XK}{Ra:L2.St->Prop}{N:List Str} {sc:Scope} (c:Cc X Pm ct n Ra E N sc) (eo:Option Expr),qcf Pm mo N sc eo=true->PO X eo (lO ct Ra E (Qbr Pm (run Pm n) mo))
 |none,X,E,Ra,N,sc,c,eo,h=>by
  cases eo with
  |none =>
   refine PO.imp QcA λσ H Q q=>?_;obtain⟨μ,hh,σs,rel,rst,ra,p⟩:=q;simp only[Qbr] at p;exact p.now rel
  |some e=>exact ff h
 |some m,X,E,Ra,N,sc,c,eo,h=>by
  cases eo with
  |none=>exact ff h
  |some e =>
   have h:qe Pm m N sc e=true:=h;refine PO.imp (qbP (sB m c e h).1) λσ H Q q=>?_;obtain⟨μ,hh,σs,rel,rst,ra,p⟩:=q;simp only[Qbr] at p;refine lE.mk rel rst ra p λx v μ1 h1 H1 ex rel1 rst1 rv p1=>?_;obtain⟨i,e,p2⟩:=Po.opt p1;have:=qu e;subst this;exact⟨i,yC rv,p2.now rel1⟩
theorem sBc:∀(mo:Option ME){X:Cx}{E:XK}{Ra:L2.St->Prop}{N:List Str} {sc:Scope} (c:Cc X Pm ct n Ra E N sc) (es:List Expr),chkC Pm mo N sc es=true->PIf X es (lT ct Ra E (zbr Pm (run Pm n) mo))
 |none,X,E,Ra,N,sc,c,es,h=>by
  cases es with
  |nil =>
   refine PIf.imp qct λσ H Q q=>?_;obtain⟨μ,hh,σs,rel,rst,ra,p⟩:=q;simp only[zbr] at p;exact p.now rel
  |cons e es=>exact ff h
 |some m,X,E,Ra,N,sc,c,es,h=>by
  rcases es with _|⟨e,_|⟨e2,es⟩⟩
  ·exact ff h
  ·have h:(okT m&&qe Pm m N sc e)=true:=h;rw[Wa] at h;have e2:zbr Pm (run Pm n) (some m)=tst (Zb Pm (run Pm n) m):=by
    funext σ hh;simp only[zbr,tst]
   rw[e2];exact zbP ((sB m c e h.2).2 h.1)
  ·exact ff h
end
end SD
end
section
namespace SD
open PySem PySem.Spec PyProof.Rows L2 L3 M3 MP
noncomputable def PoS(ct:Tx)(E:XK)(r:RS)(μ:List Addr)(h:MH)(H:Hp)(D:Ends):Prop:=match r with
 |.next σ' h'=>∀ μ' H' σ,Ext μ h H μ' h' H'->Rel ct μ' h' H'->RelSt ct μ' h' H' σ σ'->D.nx σ H'
 |.ret m h'=>∀ μ' H' v,Ext μ h H μ' h' H'->Rel ct μ' h' H'->RV ct μ' (Liv μ' h') H' m v->D.rt v H'
 |.brk σ' h'=>∀ μ' H' σ,Ext μ h H μ' h' H'->Rel ct μ' h' H'->RelSt ct μ' h' H' σ σ'->D.bk σ H'
 |.cnt σ' h'=>∀ μ' H' σ,Ext μ h H μ' h' H'->Rel ct μ' h' H'->RelSt ct μ' h' H' σ σ'->D.ct σ H'
 |.exc c h'=>∀ μ' H',Ext μ h H μ' h' H'->Rel ct μ' h' H'->E (.ref (ct c)) none H'
 |.stuck=>False
noncomputable def lS(ct:Tx)(Ra:L2.St->Prop)(E:XK)(ex:MSt->MH->RS):TS:=λD σ H=>∃ μ h σs,Rel ct μ h H/\RelSt ct μ h H σ σs/\Ra σ/\PoS ct E (ex σs h) μ h H D
section
variable {ct:Tx} {Pm:Prog} {n:Nat} {X:Cx} {E:XK} {Ra:L2.St->Prop} {N:List Str} {sc:Scope}
section
variable {μ μ1:List Addr} {h h1:MH} {H H1:Hp} {D:Ends} {α:Type}
theorem PoS.start{r:RS}(e:Ext μ h H μ1 h1 H1)(p:PoS ct E r μ h H D):PoS ct E r μ1 h1 H1 D:=by
 cases r with
 |next σ' h'=>exactλμ' H' σ e' r' q=>p μ' H' σ (e.trans e') r' q
 |ret m h'=>exactλμ' H' v e' r' q=>p μ' H' v (e.trans e') r' q
 |brk σ' h'=>exactλμ' H' σ e' r' q=>p μ' H' σ (e.trans e') r' q
 |cnt σ' h'=>exactλμ' H' σ e' r' q=>p μ' H' σ (e.trans e') r' q
 |exc c h'=>exactλμ' H' e' r'=>p μ' H' (e.trans e') r'
 |stuck=>exact p
theorem PoS.st{r:R α}{k:α->MH->RS}(p:PoS ct E (r.st k) μ h H D):Po ct E r μ h H λx μ1 h1 H1=>Ext μ h H μ1 h1 H1/\Rel ct μ1 h1 H1/\PoS ct E (k x h1) μ1 h1 H1 D:=by
 cases r with
 |ok x h'=>exactλμ' H' e' r'=>⟨e',r',PoS.start (r:=k x h') e' p⟩
 |exc c h'=>exact p
 |stuck=>exact p
theorem PoS.opt{o:Option α}{k:α->RS}(p:PoS ct E (yO o k) μ h H D):∃ x,o=some x/\PoS ct E (k x) μ h H D:=by
 cases o with
 |none=>exact p.elim
 |some x=>exact⟨x,rfl,p⟩
end
section
variable {μ:List Addr} {h:MH} {H:Hp} {σ:L2.St} {σs:MSt} {D:Ends}
theorem lE.st{ev:MSt->MH->R MV}{k:MV->MH->RS}{Q:VK}(rel:Rel ct μ h H)(rst:RelSt ct μ h H σ σs)(ra:Ra σ)(p:PoS ct E ((ev σs h).st k) μ h H D)
  (f:∀ m v μ1 h1 H1,Ext μ h H μ1 h1 H1->Rel ct μ1 h1 H1->RelSt ct μ1 h1 H1 σ σs->RV ct μ1 (Liv μ1 h1) H1 m v->PoS ct E (k m h1) μ1 h1 H1 D->Q v H1):lE ct Ra E ev σ H Q :=
 ⟨μ,h,σs,rel,rst,ra,(PoS.st p).imp λm μ1 h1 H1 ⟨e1,r1,p1⟩ v rv=>f m v μ1 h1 H1 e1 r1 (rst.ext e1) rv p1⟩
end
structure Cs (X:Cx) (Pm:Prog) (ct:Tx) (n:Nat) (E:XK) (N:List Str) (sc:Scope):Prop where
 cc:Cc X Pm ct n (λ_=>True) E N sc
 ex:X.ex=[]
 own:PassesOwn (model X.prog X.w) X.A X.env X.xe
 tk:YbL X E
 fn:∀ x,X.fn x=true
 kd:X.env.scope.kind=.function
 stk:X.stack=X.env::X.outer
 fr:X.env.frame=some X.env.locals
section
variable {ea eb ec:MSt->MH->R MV} {a b c:Expr} {pos p2:Pos}
noncomputable def zaM:Expr->Bool
 |.ListComp ..=>true
 |.SetComp ..=>true
 |.DictComp ..=>true
 |_=>false
theorem QaT{e:Expr}{t:Option Expr}{l:Nat}{env:Env}(h:zaM e=false):swapsWith e t l env=pure false:=by
 cases e <;> first|rfl|(simp[zaM] at h)
theorem ZcG{e t:Expr}{l:Nat}{env:Env}(h1:∀ x gs cs p,swapsWith (.ListComp x gs cs p) (some t) l env=pure false)(h2:∀ x gs cs p,swapsWith (.SetComp x gs cs p) (some t) l env=pure false)(h3:∀ x y gs cs p,swapsWith (.DictComp x y gs cs p) (some t) l env=pure false):swapsWith e (some t) l env=pure false:=by
 cases hl:zaM e with
 |false=>exact QaT hl
 |true =>
  cases e with
  |ListComp x gs cs p=>exact h1 _ _ _ _
  |SetComp x gs cs p=>exact h2 _ _ _ _
  |DictComp x y gs cs p=>exact h3 _ _ _ _ _
  |_=>exact Vh (show false=true from hl)
theorem sw_lc{x:Expr}{gs:List Comprehension}{cs:Scope}{p:Pos}{t:Expr}{l:Nat}{env:Env}(h:∀ x p,t≠.Name x p):swapsWith (.ListComp x gs cs p) (some t) l env=pure false:=by
 cases t with
 |Name x p=>exact absurd rfl (h x p)
 |_=>rfl
theorem Ycg(ha:PE X a (lE ct Ra E ea))(hl:zaM a=false):PS X (.Expr a pos) (lS ct Ra E λσ h=>(ea σ h).st λ_ h1=>.next σ h1):=PS.imp (ZbO ha (QaT hl)) λD σ H q=>by
 obtain⟨μ,h,σs,rel,rst,ra,p⟩:=q;exact lE.st rel rst ra p λm v μ1 h1 H1 ex rel1 rst1 rv p1=>p1 μ1 H1 σ (Ext.refl _ _ _) rel1 rst1
theorem s_ret(ha:PE X a (lE ct Ra E ea)):PS X (.Return (some a) pos) (lS ct Ra E λσ h=>(ea σ h).st λv h1=>.ret v h1):=PS.imp (zbE ha) λD σ H q=>by
 obtain⟨μ,h,σs,rel,rst,ra,p⟩:=q;exact lE.st rel rst ra p λm v μ1 h1 H1 ex rel1 rst1 rv p1=>p1 μ1 H1 v (Ext.refl _ _ _) rel1 rv
theorem s_if{x y:List Stmt}{ex ey:MSt->MH->RS}(tc:PT X c (lT ct Ra E (tst ec)))(hx:PSs X x (lS ct Ra E ex))(hy:PSs X y (lS ct Ra E ey)) :
  PS X (.If c x y pos) (lS ct Ra E λσ h=>(ec σ h).st λv h1=>yO (qL v) λk=>if k=true then ex σ h1 else ey σ h1):=PS.imp (QcC tc hx hy) λD σ H q=>by
 obtain⟨μ,h,σs,rel,rst,ra,p⟩:=q;have p':PoS ct E ((tst ec σs h).st λk h1=>if k=true then ex σs h1 else ey σs h1) μ h H D:=by
  dsimp only[tst] at p ⊢;cases er:ec σs h with
  |stuck=>rw[er] at p;exact p
  |exc c h'=>rw[er] at p;exact p
  |ok x h' =>
   rw[er] at p;simp only[R.bind_ok,R.st_ok] at p ⊢;cases eb:qL x with
   |none=>rw[eb] at p;exact p.elim
   |some k=>rw[eb] at p;exact p
 refine⟨μ,h,σs,rel,rst,ra,(PoS.st p').imp λk μ1 h1 H1 ⟨ex1,rel1,p1⟩=>?_⟩;cases k with
 |true=>exact⟨μ1,h1,σs,rel1,rst.ext ex1,ra,p1⟩
 |false=>exact⟨μ1,h1,σs,rel1,rst.ext ex1,ra,p1⟩
theorem s_set{tg:Tg}(c:Cs X Pm ct n E N sc)(ht:zK Za2 N sc tg b=true)(ha:PE X a (lE ct (λ_=>True) E ea))(hs:swapsWith a (some b) pos.line X.env=pure false)(hw:swappedStores [b] a X.env=pure none) :
  PS X (.Assign [b] a pos) (lS ct (λ_=>True) E λσ h=>(ea σ h).st λv h1=>yO (zT tg v σ) λσ1=>.next σ1 h1):=by
 refine PS.imp (zb9 ha (sG (ct:=ct) c.cc.nm c.cc.sc c.cc.nd c.cc.calm (λx _=>c.fn x) tg b ht) hs hw (by rw[YaG ht [] X.env];rfl)) λD σ H q=>?_;obtain⟨μ,h,σs,rel,rst,ra,p⟩:=q;refine lE.st rel rst ra p λm v μ1 h1 H1 ex rel1 rst1 rv p1=>?_;obtain⟨σ1,e,p2⟩:=PoS.opt p1;exact⟨μ1,h1,σs,m,σ1,rel1,rst1,rv,e,λσ' rst'=>p2 μ1 H1 σ' (Ext.refl _ _ _) rel1 rst'⟩
theorem ZbI{o i : Expr}{env : Env}(hp : ya i=true) : ∀ v, assign (.Subscript o i pos) env v=(do
   let ov<-holding [v] (eval o env)
   let iv<-holding [v,ov] (eval i env)
   standAt pos
   holding [v,ov,iv] (setItem ov iv v)
   release [v,ov,iv] []):=by
 intro v;cases i <;> first|rfl|(simp[ya] at hp)
theorem Ycb{o i:Expr}(ha:PE X a (lE ct Ra E ea))(ho:PE X o (lE ct Ra E eb))(hi:PE X i (lE ct Ra E ec))(hp:ya i=true) :
  PS X (.Assign [.Subscript o i p2] a pos) (lS ct Ra E λσ h=>(ea σ h).st λv h1=>(eb σ h1).st λx h2=>(ec σ h2).st λy h3 =>
   match x with
   |.ref a=>yO (yg h3 a) λxs=>yO (Ze y) λk=>yO (ixM xs.length k) λj=>.next σ (yj h3 a (xs.set j v))
   |_=>.stuck):=by
 refine PS.imp (zb9 ha (YcU ho hi Yb6 (ZbI hp)) (show swapsWithSole [Expr.Subscript o i p2] a pos.line X.env=pure false from ZcG (e:=a) (t:=.Subscript o i p2) (l:=pos.line) (env:=X.env) (λ_ _ _ _=>rfl) (λ_ _ _ _=>rfl) (λ_ _ _ _ _=>rfl)) (by cases a <;> rfl) rfl) λD σ H q=>?_;obtain⟨μ,h,σs,rel,rst,ra,p⟩:=q;refine lE.st rel rst ra p λm v μ1 h1 H1 ex1 rel1 rst1 rv p1=>?_;refine lE.st rel1 rst1 ra p1 λm2 v2 μ2 h2 H2 ex2 rel2 rst2 rv2 p2=>?_;refine lE.st rel2 rst2 ra p2 λm3 v3 μ3 h3 H3 ex3 rel3 rst3 rv3 p3=>?_;cases m2 with
 |ref i0 =>
  obtain⟨xs,e1,p4⟩:=PoS.opt p3;obtain⟨k,e2,p5⟩:=PoS.opt p4;obtain⟨j,e3,p6⟩:=PoS.opt p5;have:=qu e2;subst this;obtain⟨b',vs,eb',hb,rs⟩:=rel3.lst e1;have rv2':=rv2.ext ex3;simp only[RV] at rv2';obtain⟨b0,eb0,rfl⟩:=rv2';rw[eb'] at eb0;cases eb0;have e4:=QU e1;have ex4:=Ext.set (H:=H3) rel3 eb' e4 (λz=>nomatch z) (.lst (xs.set j m)) (.lst (vs.set j v));refine⟨b',vs,k,j,rfl,yC rv3,hb,by rw[rs.length,<- qcd];exact e3,?_⟩;refine p6 μ3 _ σ ex4 (rel3.set eb' e4 (λz=>nomatch z) ⟨_,ye,?_⟩) (rst3.ext ex4);exact RVs.set (((rv.ext ex2).ext ex3).ext ex4) j (rs.ext ex4)
 |f _=>exact p3.elim
 |tup _=>exact p3.elim
 |exc _=>exact p3.elim
theorem Zbq{μ:List Addr}{L:Addr->Prop}{H:Hp}{f:String}{m:MV}{v:V}(r:RV ct μ L H m v):∀{fs:List (String×MV)} {gs:List (Str×V)},gs.map uq=fs.map (λp=>Str.ofString p.1)->RVs ct μ L H (fs.map vk) (gs.map vk) ->
  (ZS (Str.ofString f) v gs).map uq=(Za7 f m fs).map (λp=>Str.ofString p.1)/\RVs ct μ L H ((Za7 f m fs).map vk) ((ZS (Str.ofString f) v gs).map vk)
 |[],gs,h1,h2=>by
  cases gs with
  |nil=>exact⟨rfl,RVs.cons r RVs.nil⟩
  |cons p gs=>simp at h1
 |(k,y)::fs,gs,h1,h2=>by
  cases gs with
  |nil=>simp at h1
  |cons p gs =>
   obtain⟨k',u⟩:=p;simp only[Xd,List.cons.injEq] at h1;obtain⟨rfl,h3⟩:=h1;simp only[Xd,RVs] at h2;obtain⟨w,t,e,q1,q2⟩:=h2;cases e;unfold ZS Za7;by_cases hk:k=f
   ·subst hk;rw[if_pos rfl,if_pos rfl];exact⟨by simp[h3],by simp only[Xd];exact RVs.cons r q2⟩
   ·rw[if_neg hk,if_neg (λz=>hk (qJ z))];obtain⟨i1,i2⟩:=Zbq (f:=f) r h3 q2;exact⟨by simp[i1],by simp only[Xd];exact RVs.cons q1 i2⟩
theorem Zb5{o:Expr}{f:String}(T:Txt X.prog X.w X.K X.mg X.base Pm ct n)(ha:PE X a (lE ct Ra E ea))(ho:PE X o (lE ct Ra E eb)) :
  PS X (.Assign [.Attribute o (Str.ofString f) p2] a pos) (lS ct Ra E λσ h=>(ea σ h).st λv h1=>(eb σ h1).st λx h2=>match x with
   |.ref a=>match h2[a]? with
    |some (.obj c fs)=>if Pm.fok c f=true/\fs.length<100 then .next σ (h2.set a (.obj c (Za7 f v fs))) else .stuck
    |_=>.stuck
   |_=>.stuck):=by
 refine PS.imp (QcR ho ha (ZcG (λ_ _ _ _=>rfl) (λ_ _ _ _=>rfl) (λ_ _ _ _ _=>rfl))) λD σ H q=>?_;obtain⟨μ,h,σs,rel,rst,ra,p⟩:=q;refine lE.st rel rst ra p λm v μ1 h1 H1 ex1 rel1 rst1 rv p1=>?_;refine lE.st rel1 rst1 ra p1 λm2 v2 μ2 h2 H2 ex2 rel2 rst2 rv2 p2=>?_;cases m2 with
 |ref i0 =>
  dsimp only at p2;split at p2
  next c fs ec =>
   split at p2
   next ok =>
    obtain⟨ok1,ok2⟩:=ok;obtain⟨b,dx,gs,eb,hb,q1,q2⟩:=rel2.obj ec;simp only[RV] at rv2;obtain⟨b0,eb0,rfl⟩:=rv2;rw[eb] at eb0;cases eb0;obtain⟨t1,t2⟩:=T.fok c f ok1;have hl:gs.length=fs.length:=by have:=congrArg XC q1;simpa using this
    have ex3:=Ext.set (H:=H2) rel2 eb ec (λz=>nomatch z) (.obj c (Za7 f m fs)) (.ins (ct c) dx (ZS (Str.ofString f) v gs));refine⟨b,ct c,dx,gs,rfl,hb,t1,t2,by lia,?_⟩;obtain⟨s1,s2⟩:=Zbq (f:=f) ((rv.ext ex2).ext ex3) q1 (q2.ext ex3);exact p2 μ2 _ σ ex3 (rel2.set eb ec (λz=>nomatch z) ⟨dx,_,ye,s1,s2⟩) (rst2.ext ex3)
   next=>exact p2.elim
  next=>exact p2.elim
 |f _=>exact p2.elim
 |tup _=>exact p2.elim
 |exc _=>exact p2.elim
end
end
end SD
end
section
namespace SD
open PySem PySem.Spec PyProof.Rows L2 L3 M3 MP
section
variable {ct:Tx} {Pm:Prog} {n:Nat} {X:Cx} {E:XK} {N:List Str} {sc:Scope}
noncomputable abbrev yes:L2.St->Prop:=λ_=>True
section
variable {ea eb ec:MSt->MH->R MV} {a b c:Expr} {pos p2:Pos}
theorem ZcF{st:Stmt}{rest:List Stmt}{ex ey:MSt->MH->RS}(h1:PS X st (lS ct yes E ex))(h2:PSs X rest (lS ct yes E ey)):PSs X (st::rest) (lS ct yes E λσ h=>(ex σ h).bind λσ1 h1=>ey σ1 h1):=PSs.imp (yE h1 h2) λD σ H q=>by
 obtain⟨μ,h,σs,rel,rst,ra,p⟩:=q;refine⟨μ,h,σs,rel,rst,ra,?_⟩;dsimp only at p;cases er:ex σs h with
 |next σ' h' =>
  rw[er] at p;intro μ' H' σv e1 r1 q1;exact⟨μ',h',σ',r1,q1,trivial,PoS.start e1 p⟩
 |ret m h'=>rw[er] at p;exact p
 |brk σ' h'=>rw[er] at p;exact p
 |cnt σ' h'=>rw[er] at p;exact p
 |exc c h'=>rw[er] at p;exact p
 |stuck=>rw[er] at p;exact p
theorem s_nil:PSs X [] (lS ct yes E λσ h=>.next σ h):=PSs.imp Zbn λD σ H q=>by
 obtain⟨μ,h,σs,rel,rst,ra,p⟩:=q;exact p μ H σ (Ext.refl _ _ _) rel rst
theorem Qc0:PS X (.Pass pos) (lS ct yes E λσ h=>.next σ h):=PS.imp ycA λD σ H q=>by
 obtain⟨μ,h,σs,rel,rst,ra,p⟩:=q;exact p μ H σ (Ext.refl _ _ _) rel rst
theorem qcy{cn:String}{v:Expr}{es:List Expr}{ev:MSt->MH->R (List MV)}{np cp:Pos}(c:Cs X Pm ct n E N sc)(hx:Pm.excs cn=true)(hg:gl sc (Str.ofString cn)=true)(ha:PA X (v::es) (lA ct yes E ev))(hpl:∀ e∈v::es,ya e=true)(hl:∀ σ h xs h',ev σ h=.ok xs h'->xs.length<=sizeLine) :
  PS X (.Raise (some (.Call (.Name (Str.ofString cn) np) (v::es) [] cp)) none pos) (lS ct yes E λσ h=>(ev σ h).st λ_ h1=>.exc cn h1):=by
 obtain⟨g1,g2,g3⟩:=YY c.cc.sc hg;obtain⟨x1,x2⟩:=c.cc.txt.excs cn hx;refine PS.imp (Zcc c.cc.calm c.ex c.tk x1 g1 x2 ha g2 (zl (hpl v (by simp))) (Qy λe he=>hpl e (by simp[he]))) λD σ H q=>?_;obtain⟨μ,h,σs,rel,rst,ra,p⟩:=q;refine⟨μ,h,σs,rel,rst,ra,?_⟩;dsimp only at p;cases er:ev σs h with
 |stuck=>rw[er] at p;exact p
 |exc c h'=>rw[er] at p;exact p
 |ok xs h' =>
  rw[er] at p;intro μ1 H1 ex rel1 vs rvs;exact⟨by rw[rvs.length];exact hl _ _ _ _ er,p μ1 H1 ex rel1⟩
theorem s_for{tg:Tg}{t iter:Expr}{body:List Stmt}{it:String}{ev:MSt->MH->R (List MV)}{ex:MSt->MH->RS}(c:Cs X Pm ct n E N sc)(hi:PI X t iter (lI ct yes E ev it))(ht:zK Za2 N sc tg t=true)(hb:PSs X body (lS ct yes E ex))(hpl:ya iter=true) :
  PS X (.For t iter body [] pos) (lS ct yes E λσ h=>(ev σ h).st λxs h1=>yO (itV it xs h1) λp=>Qaf p.2 (QX tg ex) p.1 σ h1):=by
 refine PS.imp (zcI c.own c.cc.calm hi (sG (ct:=ct) c.cc.nm c.cc.sc c.cc.nd c.cc.calm (λx _=>c.fn x) tg t ht) hb (yV hpl)) λD σ H q=>?_;obtain⟨μ,h,σs,rel,rst,ra,p⟩:=q;refine⟨μ,h,σs,rel,rst,ra,(PoS.st p).imp λxs μ1 h1 H1 ⟨ex1,rel1,p1⟩=>?_⟩;obtain⟨⟨items,g⟩,e1,p2⟩:=PoS.opt p1;refine⟨items,g,e1,rel1,λJ wk=>?_⟩;dsimp only at p2;refine⟨λi m σ' H'=>∃ μ' h' σs',m=items.length-i/\i<=items.length/\Ext μ1 h1 H1 μ' h' H'/\Rel ct μ' h' H'/\RelSt ct μ' h' H' σ' σs'/\PoS ct E (Qaf g (QX tg ex) (items.drop i) σs' h') μ' h' H' D,?_,?_⟩
 ·exact⟨items.length,μ1,h1,σs,by simp,Uk _,Ext.refl _ _ _,rel1,rst.ext ex1,by simpa using p2⟩
 ·rintro i m σ' H' ⟨μ',h',σs',rfl,hi',ex2,rel',rst',p3⟩;by_cases lt:i<items.length
  ·right
   have ed:items.drop i=items[i]::items.drop (i+1):=ur lt;rw[ed] at p3;simp only[Qaf] at p3;split at p3
   next gd =>
    obtain⟨w1,_⟩:=wk i μ' h' H' ex2 rel' gd;obtain⟨go,yl⟩:=w1 lt;refine⟨go,λσ2 H2=>∃ μ2 h2 σ2s,Ext μ1 h1 H1 μ2 h2 H2/\Rel ct μ2 h2 H2/\RelSt ct μ2 h2 H2 σ2 σ2s/\PoS ct E (Qaf g (QX tg ex) (items.drop (i+1)) σ2s h2) μ2 h2 H2 D,λσ2 H2 ⟨μ2,h2,σ2s,e2,r2,q2,p4⟩=>⟨items.length-(i+1),by lia,μ2,h2,σ2s,rfl,lt,e2,r2,q2,p4⟩,λx H2 y=>?_⟩;obtain⟨mx,em,ex3,rel2,rx⟩:=yl x H2 y;have emx:mx=items[i]:=by simpa[lt] using em.symm
    subst emx;have p4:=PoS.start ex3 p3;unfold QX at p4;cases eb:zT tg items[i] σs' with
    |none=>rw[eb] at p4;exact p4.elim
    |some σ2s =>
     rw[eb] at p4;simp only[ya8] at p4;refine⟨μ',h',σs',items[i],σ2s,rel2,rst'.ext ex3,rx,eb,λσ2 rst2=>?_⟩;refine⟨μ',h',σ2s,rel2,rst2,trivial,?_⟩;cases er:ex σ2s h' with
     |next σ3 h3 =>
      rw[er] at p4;intro μ3 H3 σv e3 r3 q3;exact⟨μ3,h3,σ3,(ex2.trans ex3).trans e3,r3,q3,PoS.start e3 p4⟩
     |cnt σ3 h3 =>
      rw[er] at p4;intro μ3 H3 σv e3 r3 q3;exact⟨μ3,h3,σ3,(ex2.trans ex3).trans e3,r3,q3,PoS.start e3 p4⟩
     |brk σ3 h3=>rw[er] at p4;exact p4
     |ret m h3=>rw[er] at p4;exact p4
     |exc c h3=>rw[er] at p4;exact p4
     |stuck=>rw[er] at p4;exact p4
   next=>exact p3.elim
  ·left
   have hi2:i=items.length:=by lia
   subst hi2;rw[xo] at p3;simp only[Qaf] at p3;split at p3
   next gd =>
    obtain⟨_,w2⟩:=wk items.length μ' h' H' ex2 rel' gd;exact⟨w2 rfl,p3 μ' H' σ' (Ext.refl _ _ _) rel' rst'⟩
   next=>exact p3.elim
theorem ycr{body:List Stmt}{ex:MSt->MH->RS}(c':Cs X Pm ct n E N sc)(tc:PT X c (lT ct yes E (tst ec)))(hb:PSs X body (lS ct yes E ex))(k:Nat) :
  PS X (.While c body [] pos) (lS ct yes E λσ h=>zO ec ex k σ h):=by
 refine PS.imp (zcp c'.own tc hb) λD σ H q=>?_;obtain⟨μ,h,σs,rel,rst,ra,p⟩:=q;refine⟨λm σ' H'=>∃ μ' h' σs',Rel ct μ' h' H'/\RelSt ct μ' h' H' σ' σs'/\PoS ct E (zO ec ex m σs' h') μ' h' H' D,⟨k,μ,h,σs,rel,rst,p⟩,?_⟩;rintro m σ' H' ⟨μ',h',σs',rel',rst',p1⟩;cases m with
 |zero=>exact p1.elim
 |succ m =>
  simp only[zO] at p1;have p2:PoS ct E ((tst ec σs' h').st λb h1=>if b=true then(ex σs' h1).turn λσ2 h2=>zO ec ex m σ2 h2 else .next σs' h1) μ' h' H' D:=by
   dsimp only[tst];cases er:ec σs' h' with
   |stuck=>rw[er] at p1;exact p1
   |exc c h'=>rw[er] at p1;exact p1
   |ok x h' =>
    rw[er] at p1;simp only[R.bind_ok,R.st_ok] at p1 ⊢;cases eb:qL x with
    |none=>rw[eb] at p1;exact p1.elim
    |some k=>rw[eb] at p1;exact p1
  refine⟨μ',h',σs',rel',rst',trivial,(PoS.st p2).imp λb μ1 h1 H1 ⟨ex1,rel1,p3⟩=>?_⟩;cases b with
  |false=>exact p3 μ1 H1 σ' (Ext.refl _ _ _) rel1 (rst'.ext ex1)
  |true =>
   simp only[if_true] at p3 ⊢;refine⟨λσ2 H2=>∃ μ2 h2 σ2s,Rel ct μ2 h2 H2/\RelSt ct μ2 h2 H2 σ2 σ2s/\PoS ct E (zO ec ex m σ2s h2) μ2 h2 H2 D,λσ2 H2 q2=>⟨m,by lia,q2⟩,μ1,h1,σs',rel1,rst'.ext ex1,trivial,?_⟩;cases er:ex σs' h1 with
   |next σ3 h3 =>
    rw[er] at p3;intro μ3 H3 σv e3 r3 q3;exact⟨μ3,h3,σ3,r3,q3,PoS.start e3 p3⟩
   |cnt σ3 h3 =>
    rw[er] at p3;intro μ3 H3 σv e3 r3 q3;exact⟨μ3,h3,σ3,r3,q3,PoS.start e3 p3⟩
   |brk σ3 h3=>rw[er] at p3;exact p3
   |ret m h3=>rw[er] at p3;exact p3
   |exc c h3=>rw[er] at p3;exact p3
   |stuck=>rw[er] at p3;exact p3
theorem s_frz{i:Nat}{rest:List Stmt}{ey:MSt->MH->RS}(h2:PSs X rest (lS ct yes E ey)):PSs X rest (lS ct yes E λσ h=>(yO ((σ[i]?).join) λv=>(Qao v h).st λx h1=>.next (σ.set i (some x)) h1).bind λσ1 h1=>ey σ1 h1):=PSs.imp h2 λD σ H q=>by
 obtain⟨μ,h,σs,rel,rst,ra,p⟩:=q;dsimp only at p;cases e:(σs[i]?).join with
 |none=>rw[e] at p;exact p.elim
 |some m =>
  rw[e] at p;simp only[ya8] at p;have e':σs[i]?=some (some m):=by
   cases q:σs[i]? with
   |none=>rw[q] at e;cases e
   |some z=>rw[q] at e;exact congrArg some e
  obtain⟨v,ev,rv⟩:=rst.at_ i m e';cases ef:Qao m h with
  |stuck=>rw[ef] at p;exact p.elim
  |exc c h' =>
   unfold Qao at ef;cases ed:y9 h m with
   |none=>rw[ed] at ef;cases ef
   |some x=>rw[ed] at ef;cases ef
  |ok x h' =>
   rw[ef] at p;simp only[R.st_ok,RS.bind_next] at p;have po:Po ct E (Qao m h) μ h H λy μ1 h1 H1=>y=x/\h1=h':=by rw[ef];exactλμ' H' _ _=>⟨rfl,rfl⟩
   obtain⟨y,h'',ex1,rel1,rv1,rfl,rfl⟩:=Zcl rel rv po;refine⟨μ,h'',σs.set i (some (.f y)),rel1,?_,trivial,PoS.start ex1 p⟩;have r2:=(rst.ext ex1).set i rv1;have:σ.set i (some v)=σ:=by
    apply wt;intro j;by_cases hj:i=j
    ·subst hj;rw[Ug (Xa.mp ev).1,ev]
    ·rw[Vf hj]
   rw[this] at r2;exact r2
end
end
end SD
end
section
namespace SD
open PySem PySem.Spec PyProof.Rows L2 L3 M3 MP
noncomputable def swB(sc cs:Scope)(t:Str)(tp vp:Pos):Bool:=sc.names.lookup t==some .local&&tp.line==vp.line&&!(cs.names.any λ(n,k)=>n==t&&(k == .local||k == .cell))
theorem ZbN{env:Env}(kd:env.scope.kind=.function)(e:Expr)(gs:List Comprehension)(cs:Scope)(vp:Pos)(t:Str)(tp:Pos)(l:Nat):swapsWith (.ListComp e gs cs vp) (some (.Name t tp)) l env=pure (swB env.scope cs t tp vp):=by
 have hb:(env.blockKind==ScopeKind.function)=true:=by
  unfold Env.blockKind;rw[kd];rfl
 show(pure (env.blockKind == .function&&env.kindOf t==some .local&&tp.line==vp.line&&!(cs.names.any λ(n,k)=>n==t&&(k == .local||k == .cell))):Sem Bool)=_;rw[hb,vz];rfl
noncomputable def twoN:List Expr->Option (Str×Pos×Str×Pos)
 |[.Name x px,.Name y py]=>some (x,px,y,py)
 |_=>none
noncomputable def ycG:Expr->Option (List Expr)
 |.Tuple es _ _=>some es
 |_=>none
noncomputable def parForm:Stmt->Option ((Str×Pos×Str×Pos)×Expr×Expr)
 |.Assign ts v _=>(oneL ts).bind λt=>(ycG t).bind λes=>(ycG v).bind λvs=>(twoN es).bind λp=>(twoL vs).map λq=>(p,q)
 |_=>none
theorem nn{α:Type}{x:α}{P:Prop}(h:(none:Option α)=some x):P:=nomatch h
noncomputable def qV:Expr->Option Str
 |.Name x _=>some x
 |_=>none
theorem Zae{e:Expr}{x:Str}(h:qV e=some x):∃ p,e=.Name x p:=by
 cases e with
 |Name y p =>
  have h:some y=some x:=h;cases h;exact⟨p,rfl⟩
 |_=>exact nn h
noncomputable def zbf:Expr->Option (Str×Str)
 |.Call f [a] [] _=>(qV f).bind λz=>(qV a).map λn=>(z,n)
 |_=>none
theorem QbC{e:Expr}{z n:Str}(h:zbf e=some (z,n)):∃ p1 p2 p3,e=.Call (.Name z p1) [.Name n p2] [] p3:=by
 cases e with
 |Call f as ks p =>
  rcases as with _|⟨a,_|⟨a2,as⟩⟩
  ·exact nn h
  ·cases ks with
   |cons _ _=>exact nn h
   |nil =>
    have h:((qV f).bind λz=>(qV a).map λn=>(z,n))=some (z,n):=h;obtain⟨z',e1,h⟩:=ub.mp h;obtain⟨n',e2,h⟩:=xc.mp h;cases h;obtain⟨p1,rfl⟩:=Zae e1;obtain⟨p2,rfl⟩:=Zae e2;exact⟨_,_,_,rfl⟩
  ·exact nn h
 |_=>exact nn h
noncomputable def Zb7:Stmt->Option (Str×Str×Str)
 |.Assign [t] v _=>(qV t).bind λy=>(zbf v).map λq=>(y,q.1,q.2)
 |_=>none
theorem Qcc{s:Stmt}{y z n:Str}(h:Zb7 s=some (y,z,n)):∃ p1 p2 p3 p4 p5,s=.Assign [.Name y p1] (.Call (.Name z p2) [.Name n p3] [] p4) p5:=by
 cases s with
 |Assign ts v p =>
  rcases ts with _|⟨t,_|⟨t2,ts⟩⟩
  ·exact nn h
  ·have h:((qV t).bind λy=>(zbf v).map λq=>(y,q.1,q.2))=some (y,z,n):=h;obtain⟨y',e1,h⟩:=ub.mp h;obtain⟨⟨z',n'⟩,e2,h⟩:=xc.mp h;cases h;obtain⟨p1,rfl⟩:=Zae e1;obtain⟨p2,p3,p4,rfl⟩:=QbC e2;exact⟨_,_,_,_,_,rfl⟩
  ·exact nn h
 |_=>exact nn h
noncomputable def qbB(bd:List Stmt):ExceptHandler->Option (List Stmt×Str×Str×Str×Str×Str)
 |.ExceptHandler (some t) (some nm) [s] _=>(qV t).bind λx=>(Zb7 s).map λq=>(bd,x,nm,q)
 |_=>none
theorem QbR{bd bd':List Stmt}{hd:ExceptHandler}{x nm y z nm':Str}(h:qbB bd hd=some (bd',x,nm,y,z,nm')):bd=bd'/\∃ p1 p2 p3 p4 p5 p6 p7,hd=.ExceptHandler (some (.Name x p1)) (some nm) [.Assign [.Name y p2] (.Call (.Name z p3) [.Name nm' p4] [] p5) p6] p7:=by
 obtain⟨ty,nmo,body,hp⟩:=hd;cases ty with
 |none=>exact nn h
 |some t =>
  cases nmo with
  |none=>exact nn h
  |some n0 =>
   rcases body with _|⟨s,_|⟨s2,ss⟩⟩
   ·exact nn h
   ·have h:((qV t).bind λx=>(Zb7 s).map λq=>(bd,x,n0,q))=some (bd',x,nm,y,z,nm'):=h;obtain⟨x',e1,h⟩:=ub.mp h;obtain⟨⟨y',z',n'⟩,e2,h⟩:=xc.mp h;cases h;obtain⟨p1,rfl⟩:=Zae e1;obtain⟨p2,p3,p4,p5,p6,rfl⟩:=Qcc e2;exact⟨rfl,_,_,_,_,_,_,_,rfl⟩
   ·exact nn h
noncomputable def yaP:Stmt->Option (List Stmt×Str×Str×Str×Str×Str)
 |.Try bd [h] [] [] _=>qbB bd h
 |_=>none
theorem ybD{st:Stmt}{bd:List Stmt}{x nm y z nm':Str}(h:yaP st=some (bd,x,nm,y,z,nm')):∃ p1 p2 p3 p4 p5 p6 p7 pos,st=.Try bd [.ExceptHandler (some (.Name x p1)) (some nm) [.Assign [.Name y p2] (.Call (.Name z p3) [.Name nm' p4] [] p5) p6] p7] [] [] pos:=by
 cases st with
 |Try bd' hs oe fin pos =>
  rcases hs with _|⟨hd,_|⟨h2,hs⟩⟩
  ·exact nn h
  ·cases oe with
   |cons _ _=>exact nn h
   |nil =>
    cases fin with
    |cons _ _=>exact nn h
    |nil =>
     obtain⟨rfl,p1,p2,p3,p4,p5,p6,p7,rfl⟩:=QbR (show qbB bd' hd=_ from h);exact⟨_,_,_,_,_,_,_,_,rfl⟩
  ·exact nn h
 |_=>exact nn h
noncomputable def qbJ:ME->Bool
 |.comp ..=>true
 |_=>false
noncomputable def Qbf:Expr->Expr->Bool
 |.Tuple ..,.Tuple ..=>true
 |_,_=>false
section
variable (Pm:Prog)
mutual
noncomputable def yck(ms:MS)(N:List Str)(sc:Scope)(st:Stmt):Bool:=match ms,st with
 |.expr e,.Expr v _=>!(zaM v)&&qe Pm e N sc v
 |.ite c a b,.If t x y _=>okT c&&qe Pm c N sc t&&Zam a N sc x&&Zam b N sc y
 |_,_=>false
noncomputable def Zam(mss:List MS)(N:List Str)(sc:Scope)(sts:List Stmt):Bool:=match mss with
 |[]=>sts.isEmpty
 |m::ms=>match sts with
  |[st]=>ms.isEmpty&&yck m N sc st
  |_=>false
end
mutual
noncomputable def qca(ms:MS)(N:List Str)(sc:Scope)(st:Stmt):Bool:=match ms,st with
 |.set tg e,.Assign [t] v _=>zK Za2 N sc tg t&&qe Pm e N sc v&&!(Qbf t v)&&(if zaM v then qbJ e else true)
 |.setSub o i e,.Assign [.Subscript x y _] v _=>qe Pm e N sc v&&qe Pm o N sc x&&qe Pm i N sc y
 |.setFld o n e,.Assign [.Attribute x m _] v _=>m==Str.ofString n&&qe Pm e N sc v&&qe Pm o N sc x
 |.expr e,.Expr v _=>!(zaM v)&&qe Pm e N sc v
 |.ret e,.Return (some v) _=>qe Pm e N sc v
 |.ite c a b,.If t x y _=>okT c&&qe Pm c N sc t&&qN a N sc x&&qN b N sc y
 |.for_ tg it src body,.For t iter bd [] _=>ya iter&&zK Za2 N sc tg t&&qN body N sc bd &&
   (if it == "seq" then YbW Pm src N sc iter else if it == "keys" then false else if it == "items" then false else if it == "enum1" then false else ya0 t it iter&&gl sc (Str.ofString it)&&Yp Pm src N sc (QJ iter))
 |.while_ c body,.While t bd [] _=>okT c&&qe Pm c N sc t&&qN body N sc bd
 |.raise c es,.Raise (some (.Call (.Name x _) (v::vs) [] _)) none _=>x==Str.ofString c&&gl sc x&&Pm.excs c&&decide ((v::vs).length<1000)&&Yp Pm es N sc (v::vs)
 |.tryW body ei dst wd,st=>match yaP st with
  |some (bd,x,nm,y,z,nm')=>x==("DotError":Str)&&gl sc x&&N[ei]? == some nm&&sc.names.lookup nm==some .local&&nm'==nm&&Zbz sc nm&&N[dst]? == some y&&zbF Za2 sc y&&z==Str.ofString wd&&gl sc z&&decide (ei≠dst)&&Pm.words wd&&Zam Pm body N sc bd
  |none=>false
 |.boom,_=>true
 |.pass,.Pass _=>true
 |_,_=>false
noncomputable def qN(mss:List MS)(N:List Str)(sc:Scope)(sts:List Stmt):Bool:=match mss with
 |[]=>sts.isEmpty
 |.frzS _::ms=>qN ms N sc sts
 |m::ms=>match sts with
  |st::sts=>qca m N sc st&&qN ms N sc sts
  |[]=>false
end
end
section
variable {ct:Tx} {Pm:Prog} {n:Nat}
section
variable {X:Cx} {E:XK} {N:List Str} {sc:Scope}
theorem Zq{st:Stmt}{ex ex':MSt->MH->RS}{Ra:L2.St->Prop}(p:PS X st (lS ct Ra E ex))(h:∀ σ hh,ex' σ hh=ex σ hh):PS X st (lS ct Ra E ex'):=by
 have:ex'=ex:=funext λσ=>funext λhh=>h σ hh;rw[this];exact p
theorem yK{st:List Stmt}{ex ex':MSt->MH->RS}{Ra:L2.St->Prop}(p:PSs X st (lS ct Ra E ex))(h:∀ σ hh,ex' σ hh=ex σ hh):PSs X st (lS ct Ra E ex'):=by
 have:ex'=ex:=funext λσ=>funext λhh=>h σ hh;rw[this];exact p
theorem YcP(fz:Bool){i:Nat}{x:Str}{elt iter tg:Expr}{ifs:List Expr}{cs:Scope}{N':List Str}{ncv:Nat}{js:List Nat}{it:String}{t:Tg}{es:MSt->MH->R (List MV)}{tc:MSt->MH->R Bool}{te:MSt->MH->R MV}{pos tp vp:Pos}(c:Cs X Pm ct n E N sc)(hi0:X.N[i]?=some x)(hx:Loc X.env.scope x)
  (hok:YD X.env.scope X.N cs N' ncv js=true) (hi:PI X tg iter (lI ct yes E es it)) (hg:∀ C s3 H ex,PG (cxC X cs N' C s3 H ex) tg (lG ct t)) (hif:∀ C s3 H ex,PIf (cxC X cs N' C s3 H ex) ifs (lT ct (λ_=>True) E0 tc)) (helt:∀ C s3 H ex,PE (cxC X cs N' C s3 H ex) elt (lE ct (λ_=>True) E0 te)) (hpl:ya iter=true)
  (hsw:swapsWith (.ListComp elt [⟨tg,iter,ifs,0⟩] cs vp) (some (.Name x tp)) pos.line X.env=pure true) :
  PS X (.Assign [.Name x tp] (.ListComp elt [⟨tg,iter,ifs,0⟩] cs vp) pos) (lS ct yes E λσ h=>((es σ h).bind λxs h1=>opt (itV it xs h1) λp=>(Qo p.2 (yn t tc te) p.1 [] (MP.stM ncv js σ) h1).bind λacc h3=>Yx fz acc h3).st λv h1=>yO (zT (.nm i) v σ) λσ1=>.next σ1 h1):=by
 refine PS.imp (ycu c.cc.nd hi0 hx N' ncv js hok c.cc.calm hi hg hif helt hsw (yV hpl) (.inl (c.fn x))) λD σ H q=>?_;obtain⟨μ,h,σs,rel,rst,ra,p⟩:=q;refine qa8 fz σ H _ (lE.st (ev:=λσ h=>(es σ h).bind λxs h1=>opt (itV it xs h1) λp=>(Qo p.2 (yn t tc te) p.1 [] (MP.stM ncv js σ) h1).bind λacc h3=>Yx fz acc h3) rel rst ra p λm v μ1 h1 H1 ex rel1 rst1 rv p1=>?_);obtain⟨σ1,e,p2⟩:=PoS.opt p1;simp only[zT,Option.some.injEq] at e;subst e;exact p2 μ1 H1 _ (Ext.refl _ _ _) rel1 (rst1.set i rv)
theorem Rel.same{μ:List Addr}{h:MH}{H H':Hp}(s:Same H H')(rel:Rel ct μ h H):Rel ct μ h H'/\Ext μ h H μ h H':=by
 have ex:Ext μ h H μ h H':=⟨⟨[],by simp⟩,λb o e _=>s b o e,λb l=>.inl l⟩;refine⟨⟨rel.len,rel.nd,λb hb=>let ⟨o,e⟩:=rel.has b hb;⟨o,s b o e⟩,λi b c e1 e2=>?_⟩,ex⟩;have:=CellOk.to (ν:=[]) ex.let (b:=b) (λ_=>by
  obtain⟨o,e⟩:=rel.has b (Ui e1);rw[e];exact s b o e) (rel.cells i b c e1 e2)
 simpa using this
theorem s_try{ei dst:Nat}{nm y:Str}{wd:String}{bd:List Stmt}{ex:MSt->MH->RS}{p1 p2 p3 p4 p5 p6 p7 pos:Pos}(c:Cs X Pm ct n E N sc)(hw:Pm.words wd=true)(hi:N[ei]?=some nm)(hk:sc.names.lookup nm=some .local)(hv:Zbz sc nm=true)(hd:N[dst]?=some y)(hy:zbF Za2 sc y=true)(hg:gl sc "DotError"=true)(hz:gl sc (Str.ofString wd)=true)(ne:ei≠dst)
  (hb:∀ pins σ0 E',PSs (cxT X pins σ0 E') bd (lS ct (λσ=>σ=σ0) E' ex)) :
  PS X (.Try bd [.ExceptHandler (some (.Name "DotError" p1)) (some nm) [.Assign [.Name y p2] (.Call (.Name (Str.ofString wd) p3) [.Name nm p4] [] p5) p6] p7] [] [] pos)
   (lS ct yes E λσ h=>RS.caught (λc h1=>yO (Pm.word wd c) λs=>if ei<σ.length then .next ((σ.set dst (some (.f (.str s)))).set ei none) h1 else .stuck) (ex σ h)):=by
 obtain⟨qB,mB,⟨ps,Dw⟩,wf⟩:=c.cc.txt.words wd hw;obtain⟨g1,g2,g3⟩:=YY c.cc.sc hg;obtain⟨z1,z2,z3⟩:=YY c.cc.sc hz;have hiX:X.N[ei]?=some nm:=by rw[c.cc.nm];exact hi
 have hdX:X.N[dst]?=some y:=by rw[c.cc.nm];exact hd
 have hkX:X.env.scope.names.lookup nm=some .local:=by rw[c.cc.sc];exact hk
 have hyL:Loc X.env.scope y:=by
  unfold zbF at hy;simp only[vz,Vi,beq_iff_eq] at hy;rw[c.cc.sc];exact hy
 have hvv:=hv;unfold Zbz at hvv;simp only[Wa,Vi,beq_iff_eq,vi] at hvv;refine PS.imp (ycY (i:=ei) (B:=ct "DotError") (tb:=λσ E=>lS ct (λσ'=>σ'=σ) E ex) (th:=λx C t T=>yb9 (Zca (spW ct Pm wd x C) [] E0 (qcE (tVar ei) tNil)) (zaS dst)) c.stk c.fr c.cc.nd hiX hkX qB g1 mB (λpins σ E=>hb pins σ E)
  (λx C t T=>YaN (qaY (X:=cxH X x (qt C t (.ref T))) c.cc.nd hdX hyL (ZbV Dw (c.cc.room.mono (by lia)) z1 (Yb (ybI (X:=cxH X x (qt C t (.ref T))) hiX (.inl hkX) hvv.1.2 hvv.2) Qp (by rfl)) z2 (by rfl) (by rfl)) (by rfl) (.inl (c.fn y)))) g2) λD σ H q=>?_
 obtain⟨μ,h,σs,rel,rst,ra,p⟩:=q;dsimp only at p;cases er:ex σs h with
 |exc cn h1 =>
  rw[er] at p;refine⟨λcv _ H'=>cv=.ref (ct cn)/\∃ μ',Ext μ h H μ' h1 H'/\Rel ct μ' h1 H',⟨μ,h,σs,rel,rst,rfl,by rw[er];exactλμ' H' e1 r1=>⟨rfl,μ',e1,r1⟩⟩,λC H' ⟨eC,μ',e1,r1⟩=>?_⟩;cases eC;simp only[ybF] at p;obtain⟨s,es,p2⟩:=PoS.opt p;obtain⟨w1,w2⟩:=wf cn s es;refine⟨w1,w2,λx t T hx=>?_⟩;split at p2
  next hlt =>
   have hlt':ei<σ.length:=by rw[rst.len];exact hlt
   refine⟨.ref x,by rw[Ug hlt'],rfl,cn,s,rfl,es,λH2 sm=>?_⟩;obtain⟨r2,e2⟩:=Rel.same sm r1;refine p2 μ' H2 _ (e1.trans e2) r2 ?_;have rst2:=(rst.ext e1).ext e2;refine⟨by simp[rst.len],λj m ej=>?_⟩;by_cases hj:ei=j
   ·subst hj;rw[Ug (by simpa using hlt)] at ej;cases ej
   ·rw[Vf hj] at ej;rw[Vf hj];by_cases hj2:dst=j
    ·subst hj2;have hl:dst<σs.length:=by
      have:=(Xa.mp ej).1;simpa using this
     rw[Ug hl] at ej;cases ej;exact⟨.str s,by rw[Ug (by simp[rst.len];exact hl)],yan s⟩
    ·rw[Vf hj2] at ej;obtain⟨v,ev,rv⟩:=rst2.at_ j m ej;exact⟨v,by rw[Vf hj2,Vf hj];exact ev,rv⟩
  next=>exact p2.elim
 |next σ' h'=>rw[er] at p;exact⟨λ_ _ _=>False,⟨μ,h,σs,rel,rst,rfl,by rw[er];exact p⟩,λC H' z=>z.elim⟩
 |ret m h'=>rw[er] at p;exact⟨λ_ _ _=>False,⟨μ,h,σs,rel,rst,rfl,by rw[er];exact p⟩,λC H' z=>z.elim⟩
 |brk σ' h'=>rw[er] at p;exact⟨λ_ _ _=>False,⟨μ,h,σs,rel,rst,rfl,by rw[er];exact p⟩,λC H' z=>z.elim⟩
 |cnt σ' h'=>rw[er] at p;exact⟨λ_ _ _=>False,⟨μ,h,σs,rel,rst,rfl,by rw[er];exact p⟩,λC H' z=>z.elim⟩
 |stuck=>rw[er] at p;exact p.elim
theorem Cc.try(c:Cs X Pm ct n E N sc)(pins:List (Addr×Obj))(σ0:L2.St)(E':XK):Cc (cxT X pins σ0 E') Pm ct n (λσ=>σ=σ0) E' N sc :=
 ⟨c.cc.txt,c.cc.calm,c.cc.room,λσ hσ=>by subst hσ;exact YbH c.ex,c.cc.nm,c.cc.sc,c.cc.nd,c.cc.hK⟩
theorem ycQ{Ra:L2.St->Prop}:PSs X [] (lS ct Ra E λσ h=>.next σ h):=PSs.imp Zbn λD σ H q=>by
 obtain⟨μ,h,σs,rel,rst,ra,p⟩:=q;exact p μ H σ (Ext.refl _ _ _) rel rst
theorem zc1{Ra:L2.St->Prop}{st:Stmt}{ex:MSt->MH->RS}(h1:PS X st (lS ct Ra E ex)):PSs X [st] (lS ct Ra E λσ h=>(ex σ h).bind λσ1 h1=>.next σ1 h1):=PSs.imp (YaN h1) λD σ H q=>by
 obtain⟨μ,h,σs,rel,rst,ra,p⟩:=q;refine⟨μ,h,σs,rel,rst,ra,?_⟩;dsimp only at p;cases er:ex σs h <;> rw[er] at p <;> exact p
theorem qby{t v:Expr}{env:Env}{lo:Str->Bool}{tg:Tg}(ht:zK lo N sc tg t=true)(hv:Qbf t v=false):swappedStores [t] v env=pure none:=by
 cases tg with
 |nm i =>
  cases t with
  |Name x p=>cases v <;> rfl
  |_=>simp[zK] at ht
 |tp ts =>
  cases t with
  |Tuple es k p=>cases v <;> first|rfl|(exact Vh hv)
  |_=>simp[zK] at ht
theorem QcX{tg:Tg}{me:ME}{t v:Expr}{pos:Pos}(c:Cs X Pm ct n E N sc)(h1:zK Za2 N sc tg t=true)(h2:qe Pm me N sc v=true)(h3:Qbf t v=false)(h4:(if zaM v=true then qbJ me else true)=true) :
  PS X (.Assign [t] v pos) (lS ct yes E λσ h=>(Zb Pm (run Pm n) me σ h).st λv h1=>yO (zT tg v σ) λσ1=>.next σ1 h1):=by
 by_cases hs:swapsWith v (some t) pos.line X.env=pure false
 ·exact s_set c h1 (sB me c.cc v h2).1 hs (qby h1 h3)
 ·cases hl:zaM v with
  |false=>exact absurd (QaT hl) hs
  |true =>
   rw[hl] at h4;cases me with
   |comp fz elt tg' it src cond ncv js =>
    have h2':=h2;have h:=ze h2;cases v with
    |ListComp x gs cs p =>
     rcases gs with _|⟨⟨t',iter,ifs,a⟩,_|⟨g2,gs⟩⟩
     ·exact ff h
     ·have h:((a==0)&&ya iter&&YD sc N cs (tgN tg' t'++js.filterMap λj=>N[j]?) ncv js&&decide (tgN tg' t'++js.filterMap λj=>N[j]?).Nodup&&zK (ownC cs) (tgN tg' t'++js.filterMap λj=>N[j]?) (zR cs sc) tg' t'&&qe Pm elt (tgN tg' t'++js.filterMap λj=>N[j]?) (zR cs sc) x&&chkC Pm cond (tgN tg' t'++js.filterMap λj=>N[j]?) (zR cs sc) ifs&&(if it == "seq" then YbW Pm src N sc iter else if it == "signs" then false else if it == "enum1" then false else ya0 t' it iter&&gl sc (Str.ofString it)&&Yp Pm src N sc (QJ iter)))=true:=h;simp only[Wa,beq_iff_eq,decide_eq_true_eq] at h;obtain⟨⟨⟨⟨⟨⟨⟨ha,k1⟩,k2⟩,k3⟩,k4⟩,k5⟩,k6⟩,k7⟩:=h;subst ha;have hi:PI X t' iter (lI ct yes E (Yj Pm (run Pm n) src) it):=by
       split at k7
       next hs=>subst hs;exact sBi src c.cc t' iter k7
       next hs =>
        split at k7
        next hs4=>exact ff k7
        next =>
        split at k7
        next hs2 =>
         exact ff k7
        next =>
         simp only[Wa] at k7;exact Yco c.cc k7.1.1 k7.1.2 (sBs src c.cc (QJ iter) k7.2)
      cases t with
      |Name y tp =>
       cases tg with
       |nm i =>
        simp only[zK,zbF,Wa,beq_iff_eq,Vi] at h1;rw[ZbN c.kd] at hs;have hsw:swB X.env.scope cs y tp p=true:=by
         cases e:swB X.env.scope cs y tp p with
         |true=>rfl
         |false=>rw[e] at hs;exact absurd rfl hs
        have hx:Loc X.env.scope y:=by
         rw[c.cc.sc]
         rcases h1.2 with z|⟨_,z⟩
         ·exact .inl z
         ·exact .inr z
        refine Zq (YcP fz (tp:=tp) c (by rw[c.cc.nm];exact h1.1) hx (by rw[c.cc.sc,c.cc.nm];exact k2) hi (λC s3 H ex=>sG rfl (c.cc.comp k3 C s3 H ex).sc k3 c.cc.calm (λ_ z=>z) tg' t' k4) (λC s3 H ex=>sBc cond (c.cc.comp k3 C s3 H ex) ifs k6) (λC s3 H ex=>(sB elt (c.cc.comp k3 C s3 H ex) x k5).1) k1 (by rw[ZbN c.kd,hsw])) λσ hh=>?_;simp only[Zb]
       |tp ts=>simp[zK] at h1
      |_=>exact absurd (sw_lc (by intro x p z;cases z)) hs
     ·exact ff h
    |_=>first|exact Vh hl|exact ff h
   |_=>exact Vh h4
end
mutual
theorem sTB:∀(ms:MS){X:Cx}{E:XK}{Ra:L2.St->Prop}{N:List Str} {sc:Scope} (c:Cc X Pm ct n Ra E N sc) (st:Stmt),yck Pm ms N sc st=true->PS X st (lS ct Ra E (zz Pm (run Pm n) ms))
 |.expr e,X,E,Ra,N,sc,c,st,h=>by
  cases st with
  |Expr v p =>
   have h:(!(zaM v)&&qe Pm e N sc v)=true:=h;simp only[Wa,vi] at h;exact Zq (Ycg (sB e c v h.2).1 h.1) λσ hh=>by simp only[zz]
  |_=>exact ff h
 |.ite d a b,X,E,Ra,N,sc,c,st,h=>by
  cases st with
  |If t x y p =>
   have h:(okT d&&qe Pm d N sc t&&Zam Pm a N sc x&&Zam Pm b N sc y)=true:=h;simp only[Wa] at h;obtain⟨⟨⟨h0,h1⟩,h2⟩,h3⟩:=h;exact Zq (s_if ((sB d c t h1).2 h0) (sTBs a c x h2) (sTBs b c y h3)) λσ hh=>by simp only[zz]
  |_=>exact ff h
 |.set _ _,X,E,Ra,N,sc,c,st,h=>ff h
 |.setSub _ _ _,X,E,Ra,N,sc,c,st,h=>ff h
 |.setFld _ _ _,X,E,Ra,N,sc,c,st,h=>ff h
 |.boom,X,E,Ra,N,sc,c,st,h=>ff h
 |.par _ _ _ _,X,E,Ra,N,sc,c,st,h=>ff h
 |.ret _,X,E,Ra,N,sc,c,st,h=>ff h
 |.for_ _ _ _ _,X,E,Ra,N,sc,c,st,h=>ff h
 |.while_ _ _,X,E,Ra,N,sc,c,st,h=>ff h
 |.raise _ _,X,E,Ra,N,sc,c,st,h=>ff h
 |.tryW _ _ _ _,X,E,Ra,N,sc,c,st,h=>ff h
 |.pass,X,E,Ra,N,sc,c,st,h=>ff h
 |.frzS _,X,E,Ra,N,sc,c,st,h=>ff h
theorem sTBs:∀(mss:List MS){X:Cx}{E:XK}{Ra:L2.St->Prop}{N:List Str} {sc:Scope} (c:Cc X Pm ct n Ra E N sc) (sts:List Stmt),Zam Pm mss N sc sts=true->PSs X sts (lS ct Ra E (Qb Pm (run Pm n) mss))
 |[],X,E,Ra,N,sc,c,sts,h=>by
  cases sts with
  |nil=>exact yK ycQ λσ hh=>by simp only[Qb]
  |cons _ _=>exact ff h
 |m::ms,X,E,Ra,N,sc,c,sts,h=>by
  rcases sts with _|⟨st,_|⟨st2,sts⟩⟩
  ·exact ff h
  ·have h:(ms.isEmpty&&yck Pm m N sc st)=true:=h;simp only[Wa] at h;cases ms with
   |nil=>exact yK (zc1 (sTB m c st h.2)) λσ hh=>by simp only[Qb]
   |cons _ _=>exact ff h.1
  ·exact ff h
end
mutual
theorem sS:∀(ms:MS){X:Cx}{E:XK}{N:List Str}{sc:Scope} (c:Cs X Pm ct n E N sc) (st:Stmt),qca Pm ms N sc st=true->PS X st (lS ct yes E (zz Pm (run Pm n) ms))
 |.set tg e,X,E,N,sc,c,st,h=>by
  cases st with
  |Assign ts v p =>
   rcases ts with _|⟨t,_|⟨t2,ts⟩⟩
   ·exact ff h
   ·have h:(zK Za2 N sc tg t&&qe Pm e N sc v&&!(Qbf t v)&&(if zaM v then qbJ e else true))=true:=h;simp only[Wa,vi] at h;obtain⟨⟨⟨h1,h2⟩,h3⟩,h4⟩:=h;exact Zq (QcX c h1 h2 h3 h4) λσ hh=>by simp only[zz]
   ·exact ff h
  |_=>exact ff h
 |.setSub o i e,X,E,N,sc,c,st,h=>by
  cases st with
  |Assign ts v p =>
   rcases ts with _|⟨t,_|⟨t2,ts⟩⟩
   ·exact ff h
   ·cases t with
    |Subscript x y p2 =>
     have h:(qe Pm e N sc v&&qe Pm o N sc x&&qe Pm i N sc y)=true:=h;simp only[Wa] at h;obtain⟨⟨h1,h2⟩,h3⟩:=h;exact Zq (Ycb (sB e c.cc v h1).1 (sB o c.cc x h2).1 (sB i c.cc y h3).1 (yo h3)) λσ hh=>by simp only[zz] <;> rfl
    |_=>exact ff h
   ·cases t <;> exact ff h
  |_=>exact ff h
 |.boom,X,E,N,sc,c,st,h=>λpins s σ H D I q=>by
  obtain⟨μ,hh,σs,rel,rst,ra,p⟩:=q;simp only[zz] at p;exact p.elim
 |.par i j a b,X,E,N,sc,c,st,h=>ff h
 |.setFld o f e,X,E,N,sc,c,st,h=>by
  cases st with
  |Assign ts v p =>
   rcases ts with _|⟨t,_|⟨t2,ts⟩⟩
   ·exact ff h
   ·cases t with
    |Attribute x m p2 =>
     have h:(m==Str.ofString f&&qe Pm e N sc v&&qe Pm o N sc x)=true:=h;simp only[Wa,beq_iff_eq] at h;obtain⟨⟨rfl,h2⟩,h3⟩:=h;exact Zq (Zb5 c.cc.txt (sB e c.cc v h2).1 (sB o c.cc x h3).1) λσ hh=>by simp only[zz] <;> rfl
    |_=>exact ff h
   ·cases t <;> exact ff h
  |_=>exact ff h
 |.expr e,X,E,N,sc,c,st,h=>by
  cases st with
  |Expr v p =>
   have h:(!(zaM v)&&qe Pm e N sc v)=true:=h;simp only[Wa,vi] at h;exact Zq (Ycg (sB e c.cc v h.2).1 h.1) λσ hh=>by simp only[zz]
  |_=>exact ff h
 |.ret e,X,E,N,sc,c,st,h=>by
  cases st with
  |Return v p =>
   cases v with
   |some v=>exact Zq (s_ret (sB e c.cc v (show qe Pm e N sc v=true from h)).1) λσ hh=>by simp only[zz]
   |none=>exact ff h
  |_=>exact ff h
 |.ite d a b,X,E,N,sc,c,st,h=>by
  cases st with
  |If t x y p =>
   have h:(okT d&&qe Pm d N sc t&&qN Pm a N sc x&&qN Pm b N sc y)=true:=h;simp only[Wa] at h;obtain⟨⟨⟨h0,h1⟩,h2⟩,h3⟩:=h;exact Zq (s_if ((sB d c.cc t h1).2 h0) (sSs a c x h2) (sSs b c y h3)) λσ hh=>by simp only[zz]
  |_=>exact ff h
 |.for_ tg it src body,X,E,N,sc,c,st,h=>by
  cases st with
  |For t iter bd oe p =>
   cases oe with
   |cons _ _=>exact ff h
   |nil =>
    have h:(ya iter&&zK Za2 N sc tg t&&qN Pm body N sc bd&&(if it == "seq" then YbW Pm src N sc iter else if it == "keys" then false else if it == "items" then false else if it == "enum1" then false else ya0 t it iter&&gl sc (Str.ofString it)&&Yp Pm src N sc (QJ iter)))=true:=h;simp only[Wa] at h;obtain⟨⟨⟨h1,h2⟩,h3⟩,h4⟩:=h;have hi:PI X t iter (lI ct yes E (Yj Pm (run Pm n) src) it):=by
     split at h4
     next hs =>
      have hs':it="seq":=by simpa using hs
      subst hs';exact sBi src c.cc t iter h4
     next hs =>
      split at h4
      next hs2 =>
       have hs':it="keys":=by simpa using hs2
       subst hs';exact ff h4
      next =>
       split at h4
       next hs4 =>
        exact ff h4
       next =>
       split at h4
       next hs3 =>
        exact ff h4
       next =>
        simp only[Wa] at h4;exact Yco c.cc h4.1.1 h4.1.2 (sBs src c.cc (QJ iter) h4.2)
    exact Zq (s_for c hi h2 (sSs body c bd h3) h1) λσ hh=>by simp only[zz]
  |_=>exact ff h
 |.while_ d body,X,E,N,sc,c,st,h=>by
  cases st with
  |While t bd oe p =>
   cases oe with
   |cons _ _=>exact ff h
   |nil =>
    have h:(okT d&&qe Pm d N sc t&&qN Pm body N sc bd)=true:=h;simp only[Wa] at h;obtain⟨⟨h0,h1⟩,h2⟩:=h;exact Zq (ycr c ((sB d c.cc t h1).2 h0) (sSs body c bd h2) Pm.turns) λσ hh=>by simp only[zz]
  |_=>exact ff h
 |.raise cn es,X,E,N,sc,c,st,h=>by
  cases st with
  |Raise x y p =>
   cases x with
   |none=>exact ff h
   |some x =>
    cases x with
    |Call g as ks cp =>
     cases g with
     |Name x np =>
      cases as with
      |nil=>exact ff h
      |cons v vs =>
       cases ks with
       |cons _ _=>exact ff h
       |nil =>
        cases y with
        |some _=>exact ff h
        |none =>
         have h:(x==Str.ofString cn&&gl sc x&&Pm.excs cn&&decide ((v::vs).length<1000)&&Yp Pm es N sc (v::vs))=true:=h;simp only[Wa,beq_iff_eq,decide_eq_true_eq] at h;obtain⟨⟨⟨⟨rfl,h1⟩,h2⟩,h3⟩,h4⟩:=h;have b:=sBs es c.cc (v::vs) h4;exact Zq (qcy c h2 h1 b.pa b.plain (zcj b h3)) λσ hh=>by simp only[zz]
     |_=>exact ff h
    |_=>exact ff h
  |_=>exact ff h
 |.tryW body ei dst wd,X,E,N,sc,c,st,h=>by
  have h':(match yaP st with
   |some (bd,x,nm,y,z,nm')=>x==("DotError":Str)&&gl sc x&&N[ei]? == some nm&&sc.names.lookup nm==some .local&&nm'==nm&&Zbz sc nm&&N[dst]? == some y&&zbF Za2 sc y&&z==Str.ofString wd&&gl sc z&&decide (ei≠dst)&&Pm.words wd&&Zam Pm body N sc bd
   |none=>false)=true:=h
  cases et:yaP st with
  |none=>rw[et] at h';exact Vh h'
  |some t =>
   obtain⟨bd,x,nm,y,z,nm'⟩:=t;rw[et] at h';obtain⟨p1,p2,p3,p4,p5,p6,p7,pos,rfl⟩:=ybD et;simp only[Wa,beq_iff_eq,decide_eq_true_eq] at h';obtain⟨⟨⟨⟨⟨⟨⟨⟨⟨⟨⟨⟨rfl,k1⟩,k2⟩,k3⟩,rfl⟩,k4⟩,k5⟩,k6⟩,rfl⟩,k7⟩,k8⟩,k9⟩,k10⟩:=h';exact Zq (s_try c k9 k2 k3 k4 k5 k6 k1 k7 k8 (λpins σ0 E'=>sTBs body (Cc.try c pins σ0 E') bd k10)) λσ hh=>by simp only[zz]
 |.pass,X,E,N,sc,c,st,h=>by
  cases st with
  |Pass p=>exact Zq Qc0 λσ hh=>by simp only[zz]
  |_=>exact ff h
 |.frzS i,X,E,N,sc,c,st,h=>by
  exact ff h
theorem sSs:∀(mss:List MS){X:Cx}{E:XK}{N:List Str}{sc:Scope} (c:Cs X Pm ct n E N sc) (sts:List Stmt),qN Pm mss N sc sts=true->PSs X sts (lS ct yes E (Qb Pm (run Pm n) mss))
 |[],X,E,N,sc,c,sts,h=>by
  cases sts with
  |nil=>exact yK s_nil λσ hh=>by simp only[Qb]
  |cons _ _=>exact ff h
 |m::ms,X,E,N,sc,c,sts,h=>by
  cases m with
  |frzS i=>exact yK (s_frz (i:=i) (sSs ms c sts h)) λσ hh=>by simp only[Qb,zz]
  |boom =>
   cases sts with
   |nil=>exact ff h
   |cons st sts =>
    have h2:qN Pm ms N sc sts=true:=h;exact yK (ZcF (sS .boom c st rfl) (sSs ms c sts h2)) λσ hh=>by simp only[Qb]
  |_ =>
   cases sts with
   |nil=>exact ff h
   |cons st sts =>
    first
    |(have h:(qca Pm _ N sc st&&qN Pm ms N sc sts)=true:=h;simp only[Wa] at h;exact yK (ZcF (sS _ c st h.1) (sSs ms c sts h.2)) λσ hh=>by simp only[Qb])
    |exact ff h
end
end
end SD
end
section
namespace SD
open PySem PySem.Spec PyProof.Rows L2 L3 M3 MP
noncomputable def Yw(Pm:Prog)(d:MDef)(N ps:List Str)(st:Stmt):Bool :=
 (yb st).kind == .function&&!(yb st).isCoroutine&&!(yb st).isGenerator&&decide N.Nodup&&decide (N.take ps.length=ps)&&ps.all (λx=>(yb st).names.lookup x==some .local||(yb st).names.lookup x==some .cell) &&
  (yb st).names.all (λy=>y.2 != .free)&&d.np==ps.length&&d.ns==N.length&&qN Pm d.body N (yb st) (Zg st)
section
variable {P:Program} {w:World} {K:PySem.W.Frag} {mg:Str->Option Value} {base:Heap} {Pm:Prog} {ct:Tx} {n:Nat} {d:MDef} {N ps:List Str} {st:Stmt} {f:String}
theorem yX(h:Yw Pm d N ps st=true):FnScope N ps (yb st)/\d.np=ps.length/\d.ns=N.length/\qN Pm d.body N (yb st) (Zg st)=true:=by
 unfold Yw at h;simp only[Wa,beq_iff_eq,vi,decide_eq_true_eq,uk,Vi,bne_iff_ne,ne_eq] at h;obtain⟨⟨⟨⟨⟨⟨⟨⟨⟨h1,h2⟩,h3⟩,h4⟩,h5⟩,h6⟩,h7⟩,h8⟩,h9⟩,h10⟩:=h;exact⟨⟨h1,h2,h3,h4,h5,h6,h7⟩,h8,h9,h10⟩
theorem ybM{ms:List MV}{h:MH}{r:R MV}(hd:Pm.defs f=some d)(e:MP.run Pm (n+1) f ms h=r)(hr:r≠.stuck):ms.length=d.np/\r=zg h (Qb Pm (MP.run Pm n) d.body (ms.map some++we (d.ns-d.np) none) h):=by
 simp only[MP.run,hd,yp] at e;split at e
 next c=>exact⟨c,e.symm⟩
 next=>exact absurd e.symm hr
theorem Zbe(hd:Pm.defs f=some d)(hn:d.np=ps.length):∀ vs H Q E,spR ct (MP.run Pm (n+1) f) vs H Q E->vs.length=ps.length:=by
 intro vs H Q E ⟨μ,h,ms,rel,rvs,p⟩;cases er:MP.run Pm (n+1) f ms h with
 |stuck=>rw[er] at p;exact p.elim
 |ok x h'=>rw[rvs.length,(ybM hd er (λz=>nomatch z)).1,hn]
 |exc c h'=>rw[rvs.length,(ybM hd er (λz=>nomatch z)).1,hn]
theorem Ybj(T:Txt P w K mg base Pm ct n)(hK:K=ct.K)(hd:Pm.defs f=some d)(hb:Yw Pm d N ps st=true)(qual:Str)(fa:Addr)(cdv:Value)(A:Around)(outer:List Env)(s:Shared)(H:Hp)(vs:List V)(Q:VK)(E:XK)
  (hr:Room (2*n+1) (A.deeper (envOfC qual (yb st) s.heap.objs.size fa cdv))) (hsp:spR ct (MP.run Pm (n+1) f) vs H Q E) :
  ∃ t,PSs (Zat (CX1 P w) P w K mg base N qual (yb st) fa cdv A outer s H E) (Zg st) t/\t {nx:=λ_ H'=>Q .non H',rt:=Q} (L2.start N vs) H:=by
 obtain⟨S,hn,hs,hc⟩:=yX hb;have cs:Cs (Zat (CX1 P w) P w K mg base N qual (yb st) fa cdv A outer s H E) Pm ct n E N (yb st) :=
  ⟨⟨T,rfl,hr,λσ _ pins H s e s' I h=>YbU rfl Za9 pins σ H s e s' I h,rfl,rfl,S.nd,hK⟩,rfl,qcu,Za9,λ_=>rfl,S.kind,rfl,rfl⟩
 refine⟨_,sSs d.body cs (Zg st) hc,?_⟩;obtain⟨μ,h,ms,rel,rvs,p⟩:=hsp;have hlen:=Zbe hd hn vs H Q E ⟨μ,h,ms,rel,rvs,p⟩;have hml:ms.length=d.np:=by rw[<- rvs.length,hlen,hn]
 refine⟨μ,h,ms.map some++we (d.ns-d.np) none,rel,?_,trivial,?_⟩
 ·refine⟨by unfold L2.start;simp[rvs.length,hml,hs],λi m e=>?_⟩;by_cases hi:i<ms.length
  ·rw[Ub (by simpa using hi),Uf] at e;cases em:ms[i]? with
   |none=>rw[em] at e;cases e
   |some m' =>
    rw[em] at e;simp only[ui,Option.some.injEq] at e;subst e;obtain⟨v,ev,rv⟩:=rvs.get em;refine⟨v,?_,rv⟩;unfold L2.start;rw[Ub (by rw[vc,rvs.length];exact hi),Uf,ev];rfl
  ·rw[wg (by simpa using hi),uo] at e;split at e <;> cases e
 ·have er:MP.run Pm (n+1) f ms h=zg h (Qb Pm (MP.run Pm n) d.body (ms.map some++we (d.ns-d.np) none) h):=by
   simp only[MP.run,hd,yp,if_pos hml]
  rw[er] at p;cases ex:Qb Pm (MP.run Pm n) d.body (ms.map some++we (d.ns-d.np) none) h with
  |next σ' h' =>
   rw[ex] at p;intro μ' H' σ e1 r1 q1;obtain⟨ν,rfl⟩:=e1.pre;exact ybt rel e1 r1 Ya0 p
  |ret m h' =>
   rw[ex] at p;intro μ' H' v e1 r1 rv;obtain⟨ν,rfl⟩:=e1.pre;exact ybt rel e1 r1 rv p
  |exc c h' =>
   rw[ex] at p;intro μ' H' e1 r1;obtain⟨ν,rfl⟩:=e1.pre;exact ZbR rel e1 r1 p
  |brk σ' h'=>rw[ex] at p;exact p.elim
  |cnt σ' h'=>rw[ex] at p;exact p.elim
  |stuck=>rw[ex] at p;exact p.elim
theorem YbT(T:Txt P w K mg base Pm ct n)(hK:K=ct.K)(S:Src K mg (Str.ofString f) st ps)(hd:Pm.defs f=some d)(hb:Yw Pm d N ps st=true):Qbp P w K mg base (Str.ofString f) (2*(n+1)) ps (spR ct (MP.run Pm (n+1) f)) :=
 zcX (k:=2*n+1) S (yX hb).1 (Zbe hd (yX hb).2.1) λfa cdv A outer s H vs Q E hr hsp=>Ybj T hK hd hb _ fa cdv A outer s H vs Q E hr hsp
theorem YaV{x qual:Str}{fa:Addr}{fd:FuncData}(T:Txt P w K mg base Pm ct n)(hK:K=ct.K)(F:Fun K x qual st fa fd)(hd:Pm.defs f=some d)(hb:Yw Pm d N ps st=true):FnOk P w K mg base (CX1 P w) (2*(n+1)) fa fd ps (spR ct (MP.run Pm (n+1) f)):=by
 obtain⟨oc,od,kV,doc,pm,an,cdv,ctv,osl,rfl,lk,hcd⟩:=F.ex;exact qb9 (k:=2*n+1) lk hcd (yX hb).1 (Zbe hd (yX hb).2.1) λA outer s H vs Q E hr hsp=>Ybj T hK hd hb _ fa cdv A outer s H vs Q E hr hsp
theorem qbZ{x qual:Str}{fa:Addr}{fd:FuncData}(T:Txt P w K mg base Pm ct n)(hK:K=ct.K)(F:FunD K x qual st fa fd)(hd:Pm.defs f=some d)(hb:Yw Pm d N ps st=true):FnOk P w K mg base (CX1 P w) (2*(n+1)) fa fd ps (spR ct (MP.run Pm (n+1) f)):=by
 obtain⟨oc,od,dV,kV,doc,pm,an,cdv,ctv,osl,rfl,lk,hcd⟩:=F.ex;exact qb9 (k:=2*n+1) lk hcd (yX hb).1 (Zbe hd (yX hb).2.1) λA outer s H vs Q E hr hsp=>Ybj T hK hd hb _ fa cdv A outer s H vs Q E hr hsp
end
theorem ln0{α:Type}{us:List α}(h:us.length=0):us=[]:=Vo h
theorem lnS{α:Type}{n:Nat}{us:List α}(h:us.length=n+1):∃ a vs,us=a::vs/\vs.length=n:=by
 cases us with
 |nil=>cases h
 |cons a vs=>exact⟨a,vs,rfl,Nat.succ.inj h⟩
theorem ln1{α:Type}{us:List α}(h:us.length=1):∃ a,us=[a]:=by obtain⟨a,vs,rfl,h2⟩:=lnS h;rw[ln0 h2];exact⟨a,rfl⟩
theorem ln2{α:Type}{us:List α}(h:us.length=2):∃ a b,us=[a,b]:=by obtain⟨a,vs,rfl,h2⟩:=lnS h;obtain⟨b,rfl⟩:=ln1 h2;exact⟨a,b,rfl⟩
theorem ln3{α:Type}{us:List α}(h:us.length=3):∃ a b c,us=[a,b,c]:=by obtain⟨a,vs,rfl,h2⟩:=lnS h;obtain⟨b,c,rfl⟩:=ln2 h2;exact⟨a,b,c,rfl⟩
theorem ln4{α:Type}{us:List α}(h:us.length=4):∃ a b c d,us=[a,b,c,d]:=by obtain⟨a,vs,rfl,h2⟩:=lnS h;obtain⟨b,c,d,rfl⟩:=ln3 h2;exact⟨a,b,c,d,rfl⟩
noncomputable def AllL(P:String->MDef->Prop):List (String×MDef)->Prop
 |[]=>True
 |p::r=>P p.1 p.2/\AllL P r
theorem Zbd{P:String->MDef->Prop}{f:String}{d:MDef}:∀{L:List (String×MDef)},AllL P L->L.lookup f=some d->P f d
 |[],_,h=>by cases h
 |(g,e)::r,⟨a,b⟩,h=>by
  rw[wb] at h;cases hb:f==g with
  |true =>
   rw[hb] at h;cases h;rw[show f=g by simpa using hb];exact a
  |false =>
   rw[hb] at h;exact Zbd b h
noncomputable def Yb5(K:PySem.W.Frag)(mg:Str->Option Value)(Pm:Prog)(ct:Tx)(f:String)(ps:List Str):Prop :=
 ∀(P:Program)(w:World)(base:Heap)(n:Nat),K.In base->(ct.cd≠0->LamB mg base ct.cd ct.tb)->Qbp P w K mg base (Str.ofString f) (2*(n+1)) ps (spR ct (MP.run Pm (n+1) f))
structure Text (K:PySem.W.Frag) (mg:Str->Option Value) (Pm:Prog) (ct:Tx):Prop where
 hK:K=ct.K
 defs:∀ f d,Pm.defs f=some d->f.toList.contains '.'=false->∃ st N ps,Src K mg (Str.ofString f) st ps/\(Yw Pm d N ps st=true\/Yb5 K mg Pm ct f ps)
 inits:∀ c f,Pm.meths c "__init__"=some f->∃ d st N ps fa fd x qual,Pm.defs f=some d/\Mk K (ct c) fa/\Fun K x qual st fa fd/\Binds K fd ps []/\mg (Str.ofString c)=some (.ref (ct c))/\Yw Pm d N ps st=true
 blts:∀ x∈fnNames++tyNames++isTys++["range","zip","enumerate","isinstance","sorted","reversed"],mg (Str.ofString x)=none
 fok:∀ c f,Pm.fok c f=true->Cls K (ct c)/\NoAttr K (ct c) (Str.ofString f)
 cls:∀ c t b,Pm.subs c t=some b->ClsOk K (ct c)
 subC:∀ c t b,Pm.subs c t=some b->isTys.contains t=false->mg (Str.ofString t)=some (.ref (ct t))/\Ue K (.ref (ct c)) (.ref (ct t))=some b
 subT:∀ c t b,Pm.subs c t=some b->isTys.contains t=true->Ue K (.ref (ct c)) (.type t)=some b
 tyC:∀ t c b,Pm.subs c t=some b->isTys.contains t=false->∀ T∈["NoneType","bool","int","str","list","tuple"],Ue K (.type T) (.ref (ct t))=some false
 excs:∀ c,Pm.excs c=true->zU K (ct c)/\mg (Str.ofString c)=some (.ref (ct c))
 words:∀ wd,Pm.words wd=true->zU K (ct "DotError")/\mg "DotError"=some (.ref (ct "DotError"))/\(∀(P:Program)(w:World)(base:Heap),∃ ps,DefOkH P w K mg base (Str.ofString wd) 1 ps (spW ct Pm wd)) /\
  ∀ c s,Pm.word wd c=some s->zU K (ct c)/\(QE K (ct c)).contains (.ref (ct "DotError"))=true
 xcls:∀ t,Pm.xcls t=true->(if t="ValueError" then mg "ValueError"=none else mg (Str.ofString t)=some (.ref (ct t)))
 xs:∀ c t b,Pm.xsubs c t=some b->ExcK K (ct c)/\Ue K (.ref (ct c)) (if t="ValueError" then .type "ValueError" else .ref (ct t))=some b
 dfl:∀ f ds,Pm.dfl f ds=true->∃ d st N ps fa fd dvals,Pm.defs f=some d/\FunD K (Str.ofString f) (Str.ofString f) st fa fd/\Binds K fd ps dvals/\Vals (ds.map V.int) dvals/\mg (Str.ofString f)=some (.ref fa)/\Yw Pm d N ps st=true
 meths:∀ c m f,Pm.meths c m=some f->m≠"__init__"->Cls K (ct c)/\∃ d st N ps fa fd x qual,Pm.defs f=some d/\Meth K (ct c) (Str.ofString m) fa/\Fun K x qual st fa fd/\Binds K fd ps []/\Yw Pm d N ps st=true
 mk0:∀ c,Pm.mk0 c=true->Mk0 K (ct c)/\mg (Str.ofString c)=some (.ref (ct c))
 globs:∀ x v,Pm.globs x=some v->zcn mg x v
 xdot:Pm.xt=true->zU K (ct "DotError")/\mg "DotError"=some (.ref (ct "DotError"))/\∀ c b,Pm.xsubs c c=some b->zU K (ct c)/\(QE K (ct c)).contains (.ref (ct "DotError"))=true
theorem sp0{ct:Tx}{Pm:Prog}{f:String}{vs:List V}{H:Hp}{Q:VK}{E:XK}(h:spR ct (MP.run Pm 0 f) vs H Q E):False:=by
 obtain⟨μ,h,ms,rel,rvs,p⟩:=h;exact p
theorem yat{P:Program}{w:World}{K:PySem.W.Frag}{mg:Str->Option Value}{base:Heap}{Pm:Prog}{ct:Tx}(T:Text K mg Pm ct)(kb:K.In base)(lb:ct.cd≠0->LamB mg base ct.cd ct.tb):∀ n,Txt P w K mg base Pm ct n
 |0=>⟨λf d hd hdot=>by
   obtain⟨st,N,ps,⟨fa,fd,F,b,m⟩,hb⟩:=T.defs f d hd hdot;exact⟨ps,fa,fd,⟨λvs H Q E h=>(sp0 h).elim,λA outer s H args us vs Q E _ _ _ _ h=>(sp0 h).elim⟩,b,F.kp,m⟩,
  λc f hi=>by
   obtain⟨d,st,N,ps,fa,fd,x,qual,hd,M,F,b,m,hb⟩:=T.inits c f hi;exact⟨ps,fa,fd,M,⟨λvs H Q E h=>(sp0 h).elim,λA outer s H args us vs Q E _ _ _ _ h=>(sp0 h).elim⟩,b,m⟩,
  T.blts,T.fok,T.cls,T.subC,T.subT,T.tyC,T.excs,λwd hw=>let ⟨a,b,c,d⟩:=T.words wd hw;⟨a,b,c P w base,d⟩,T.xcls,T.xs,λf ds hf=>let ⟨d,st,N,ps,fa,fd,dvals,hd,F,b,vd,m,hb⟩:=T.dfl f ds hf;⟨ps,fa,fd,dvals,⟨λvs H Q E h=>(sp0 h).elim,λA outer s H args us vs Q E _ _ _ _ h=>(sp0 h).elim⟩,b,vd,F.kp,m⟩,T.xdot,λc m f hm hi=>by
   obtain⟨cl,d,st,N,ps,fa,fd,x,qual,hd,M,F,b,hb⟩:=T.meths c m f hm hi;exact⟨cl,fa,fd,ps,M,⟨λvs H Q E h=>(sp0 h).elim,λA outer s H args us vs Q E _ _ _ _ h=>(sp0 h).elim⟩,b⟩,T.mk0,T.globs⟩
 |n+1=>⟨λf d hd hdot=>by
   obtain⟨st,N,ps,S,hb⟩:=T.defs f d hd hdot;exact⟨ps,hb.elim (λhb=>YbT (yat T kb lb n) T.hK S hd hb) λhp=>hp P w base n kb lb⟩,
  λc f hi=>by
   obtain⟨d,st,N,ps,fa,fd,x,qual,hd,M,F,b,m,hb⟩:=T.inits c f hi;exact⟨ps,fa,fd,M,YaV (yat T kb lb n) T.hK F hd hb,b,m⟩,
  T.blts,T.fok,T.cls,T.subC,T.subT,T.tyC,T.excs,λwd hw=>let ⟨a,b,c,d⟩:=T.words wd hw;⟨a,b,c P w base,d⟩,T.xcls,T.xs,λf ds hf=>let ⟨d,st,N,ps,fa,fd,dvals,hd,F,b,vd,m,hb⟩:=T.dfl f ds hf;⟨ps,fa,fd,dvals,qbZ (yat T kb lb n) T.hK F hd hb,b,vd,F.kp,m⟩,T.xdot,λc m f hm hi=>by
   obtain⟨cl,d,st,N,ps,fa,fd,x,qual,hd,M,F,b,hb⟩:=T.meths c m f hm hi;exact⟨cl,fa,fd,ps,M,YaV (yat T kb lb n) T.hK F hd hb,b⟩,T.mk0,T.globs⟩
theorem YcW{K:PySem.W.Frag}{ct:Tx}{Pm:Prog}{n:Nat}{H:Hp}{a:Addr}{ns:List Int}(hK:K=ct.K)(hO:qcm H)(hS:SqL K H a (ns.map V.int))(main:∃ h,MP.run Pm n "law" [.f (.scr ns)] []=.ok (.f (.bl true)) h) :
  spR ct (MP.run Pm n "law") [.ref a] H (λv _=>v=.bl true) λ_ _ _=>False:=by
 subst hK;refine⟨[],[],[.f (.scr ns)],⟨rfl,List.nodup_nil,λb hb=>by simp at hb,λi b c e=>by simp at e⟩,RVs.cons ?_ RVs.nil,?_⟩
 ·simp only[RV,RF];refine⟨a,rfl,?_⟩
  rcases hS with (e|⟨o,e⟩)|e
  ·rcases hO a with z|⟨o,xs,z⟩
   ·rw[z] at e;cases e
   ·rw[z] at e;cases e
  ·exact .inl ⟨λ⟨i,c,e,_⟩=>by simp at e,o,e⟩
  ·exact .inr e
 ·obtain⟨h,e⟩:=main;rw[e];intro μ' H' _ _ v rv;exact Zbb rv
end SD
end
section
namespace SD
open PySem PySem.Spec PyProof.Rows L2 L3 M3 MP
section
variable {K:PySem.W.Frag} {t C:Addr} {cd:ClassData}
theorem Yd{b:Bool}(s0:xa K (.ref t) (.ref t)=some true)(ci:Vd K C=some cd)(ty:uf K (.ref C)=some (.type "type"))(s:xa K (.ref t) (.ref C)=some b):Ue K (.ref t) (.ref C)=some b:=by
 unfold Ue xz;by_cases ne:(Value.ref t==Value.ref C)=true
 ·have e':Value.ref t=Value.ref C:=eq_of_beq ne;rw[if_pos ne];rw[e'] at s0 s;rw[s0] at s;exact s
 rw[if_neg ne];show(if((Vd K C).isSome&&uf K (.ref C)==some (.type "type"))=true then xa K (.ref t) (.ref C) else none)=some b;rw[ci,ty,if_pos (by rfl),s]
theorem Zj{T:String}{b:Bool}(m:xv T=true)(s:xa K (.ref t) (.type T)=some b):Ue K (.ref t) (.type T)=some b:=by
 unfold Ue xz;rw[if_neg (λe=>by have e':Value.ref t=Value.type T:=eq_of_beq e;cases e')];show(if xv T=true then xa K (.ref t) (.type T) else none)=some b;rw[if_pos m,s]
theorem zn{T:String}(m:xa K (.type T) (.ref C)=some false)(ci:Vd K C=some cd)(ty:uf K (.ref C)=some (.type "type")):Ue K (.type T) (.ref C)=some false:=by
 unfold Ue xz;rw[if_neg (λe=>by have e':Value.type T=Value.ref C:=eq_of_beq e;cases e')];show(if((Vd K C).isSome&&uf K (.ref C)==some (.type "type"))=true then xa K (.type T) (.ref C) else none)=some false;rw[ci,ty,if_pos (by rfl),m]
theorem zj(C:Addr):∀ T∈["NoneType","bool","int","str","list","tuple"],xa K (.type T) (.ref C)=some false:=by
 intro T hT;simp only[vb,xf,or_false] at hT
 rcases hT with rfl|rfl|rfl|rfl|rfl|rfl <;> rfl
theorem Qf{T:String}(hT:T∈isTys):xv T=true:=by
 simp only[isTys,vb,xf,or_false] at hT
 rcases hT with rfl|rfl|rfl|rfl|rfl|rfl <;> decide +kernel
theorem qbA:xv "ValueError"=true:=by decide +kernel
theorem ZcX(ci:Vd K C=some cd):QE K C=cd.mro.tail:=by
 unfold Vd at ci;unfold QE;split at ci
 ·next h=>rw[h];cases ci;rfl
 ·cases ci
end
theorem DefOkH.imp{P:Program}{w:World}{K:PySem.W.Frag}{mg:Str->Option Value}{base:Heap}{x:Str}{ps:List Str}{sp sp':Addr->Addr->Sp}{k:Nat}(d:DefOkH P w K mg base x k ps sp)(h:∀ x C vs H Q E,sp' x C vs H Q E->sp x C vs H Q E):DefOkH P w K mg base x k ps sp':=by
 obtain⟨f,fd,F,b,kp,m⟩:=d;exact⟨f,fd,⟨λx C vs H Q E z=>F.len x C vs H Q E (h x C vs H Q E z),λx C t T A outer s H args us vs Q hr e g hx hb hv hs=>F.run x C t T A outer s H args us vs Q hr e g hx hb hv (h x C vs H Q _ hs)⟩,b,kp,m⟩
theorem src_mk{K:PySem.W.Frag}{h:Heap}{mg:Str->Option Value}{x:Str}{st:Stmt}{ps:List Str}{f:Addr}{oc:Value}{od an:Option Addr}{osl:Array (Option Value)}{kV doc pm cdv ct:Value}(X:K.In h)(G:h.Ns mainGlobals mg)
  (hb:∀(kV doc pm:Value)(an:Option Addr)(cdv ct:Value)(us:List Value),us.length=ps.length->bindArgs (Wf x x (Qk st) (Zg st) (yb st) .none kV doc pm an cdv ct) ⟨us,[]⟩=pure (ps.zip us))
  (a:Vb K mainGlobals x=some (some (.ref f))) (l:K.lookup f=some ⟨oc,od,.func (Wf x x (Qk st) (Zg st) (yb st) .none kV doc pm an cdv ct),osl⟩)
  (c:Xg K cdv x=true) (k:Uc K (.ref f)=true):Src K mg x st ps :=
 ⟨f,_,Zcq (st:=st) l c k,(zB (st:=st) l c k).binds hb,Wb X G a⟩
noncomputable def qbN(K:PySem.W.Frag):Sp:=λvs H Q E=>∃(a:Addr)(ns:List Int),vs=[.ref a]/\ns.length<=63/\qcm H/\SqL K H a (ns.map V.int)/\Q=(λv _=>v=.bl true)/\E=λ_ _ _=>False
theorem qcY{P:Program}{w:World}{K:PySem.W.Frag}{mg:Str->Option Value}{base:Heap}{Pm:Prog}{ct:Tx}{n:Nat}{d:MDef}{N ps:List Str}{st:Stmt}{fa:Addr}{fd:FuncData}(T:Text K mg Pm ct)(kb:K.In base)(lb:ct.cd≠0->LamB mg base ct.cd ct.tb)(F:Fun K "law" "law" st fa fd)(hd:Pm.defs "law"=some d)(hb:Yw Pm d N ps st=true)
  (main:∀ ns:List Int,ns.length<=63->∃ h,MP.run Pm (n+1) "law" [.f (.scr ns)] []=.ok (.f (.bl true)) h):FnOk P w K mg base (CX1 P w) (2*(n+1)) fa fd ps (qbN K) :=
 (YaV (yat T kb lb n) T.hK F hd hb).imp λvs H Q E ⟨a,ns,e1,hl,hO,hS,e2,e3⟩=>by
  subst e1;subst e2;subst e3;exact YcW T.hK hO hS (main ns hl)
theorem walk{l:PySem.W.OpenLaw}{q:Program}{loose:List Str}{XP:(Str->Option Value)->Heap->Prop}{YP:World->Heap->Prop}{d:DefRec}{K:Params->PySem.W.Frag}{k:Nat}(hn:l.most=some 63)(hdf:d.params.defaults=[])(hr:Room k callerA)
  (hY:∀(w:World)(h:Heap),YP w h->(K w.params).In h)
  (F:∀(w:World)(mg:Str->Option Value)(fa:Addr)(h:Heap),(K w.params).In h->h.Ns mainGlobals mg->mg d.name=some (.ref fa) ->
   ∃ fd:FuncData,(∀(s:Shared)(u:Value),BindsTo s fd ⟨[u],[]⟩ [("_law_script",u)])/\∀ base:Heap,(K w.params).In base->base.Ns mainGlobals mg->FnOk l.prog w (K w.params) mg base (CX1 l.prog w) k fa fd ["_law_script"] (qbN (K w.params))) :
  PySem.W.WalkO q loose XP YP l.row.toRowW d [] (λf vs=>PySem.call f vs) :=
 L2.walk_of (n:=63) (k:=k) (x:="_law_script") (CX:=λw=>CX1 l.prog w) (sp:=λw=>qbN (K w.params)) hn (by decide) hdf hr hY F (λ_ _ a ns hl hO hS=>⟨a,ns,rfl,hl,hO,hS,rfl,rfl⟩) λ_ _ _ _ _ ⟨_,_,_,_,_,_,_,_,_,_,_,_,_,_,_,z⟩=>z
end SD
end
section
namespace SD
open PySem PySem.Spec PyProof.Rows L2 L3 M3 MP
end SD
end
section
namespace SD
open PySem PySem.Spec PyProof.Rows L2 L3 M3 MP
end SD
end
section
namespace MP
open PySem
noncomputable def d_cells_by_rows:MDef:=⟨2,4,[.set (.nm 2) (.lst false []),.for_ (.nm 3) "range" [.var 0] [.expr (.lm "extend" (.var 2) [.comp true (.tup [.var 1,.var 0]) (.nm 0) "range" [.var 1] none 1 [3]])],.ret (.var 2)]⟩
noncomputable def d_ask_size:MDef:=⟨2,2,[.ite (.or [.cmp .lt (.var 0) (.cI 1),.cmp .lt (.var 1) (.cI 1)]) [.raise "OutOfPicture" [.cS "there would be no cell"]] []]⟩
noncomputable def d_Way_order:MDef:=⟨3,3,[.expr (.call "ask_size" [.var 1,.var 2]),.ret (.call "cells_by_rows" [.var 1,.var 2])]⟩
noncomputable def d_Way_word:MDef:=⟨1,1,[.ret (.cS "rows")]⟩
noncomputable def d_FroWay_order:MDef:=⟨3,6,[.expr (.call "ask_size" [.var 1,.var 2]),.set (.nm 3) (.lst false []),.for_ (.nm 4) "range" [.var 1] [.set (.nm 5) (.comp true (.tup [.var 1,.var 0]) (.nm 0) "range" [.var 2] none 1 [4]),.expr (.lm "extend" (.var 3) [.ite (.cmp .eq (.bin true .mod (.var 4) (.cI 2)) (.cI 1)) (.revL true (.var 5)) (.var 5)])],.ret (.var 3)]⟩
noncomputable def d_FroWay_word:MDef:=⟨1,1,[.ret (.cS "fro")]⟩
noncomputable def d_ColumnWay_order:MDef:=⟨3,3,[.expr (.call "ask_size" [.var 1,.var 2]),.ret (.comp false (.tup [.var 1,.var 0]) (.tp [.nm 0,.nm 1]) "seq" [.frz (.call "cells_by_rows" [.var 2,.var 1])] none 2 [])]⟩
noncomputable def d_ColumnWay_word:MDef:=⟨1,1,[.ret (.cS "columns")]⟩
noncomputable def d_FoldedWay_order:MDef:=⟨3,4,[.expr (.call "ask_size" [.var 1,.var 2]),.set (.nm 3) (.cI 1),.while_ (.or [.cmp .lt (.var 3) (.var 1),.cmp .lt (.var 3) (.var 2)]) [.set (.nm 3) (.bin true .mul (.cI 2) (.var 3))],.ret (.comp false (.tup [.var 0,.var 1]) (.tp [.nm 0,.nm 1]) "seq" [.call "folded_cells" [.var 3]] (some (.and [.cmp .lt (.var 0) (.var 2),.cmp .lt (.var 1) (.var 3)])) 2 [1,2])]⟩
noncomputable def d_FoldedWay_word:MDef:=⟨1,1,[.ret (.cS "folded")]⟩
noncomputable def d_MaskedWay___init__:MDef:=⟨3,3,[.setFld (.var 0) "way" (.var 1),.setFld (.var 0) "mask" (.mOf (.comp false (.tup [.var 0,.cB true]) (.nm 0) "seq" [.var 2] none 1 []))]⟩
noncomputable def d_MaskedWay_order:MDef:=⟨3,6,[.set (.nm 3) (.call "ways_within" [.var 0]),.set (.nm 4) (.mNew),.for_ (.nm 5) "seq" [.slice true (.var 3) none (some (.neg (.cI 1)))] [.expr (.tx2 .upd (.var 4) (.fld (.var 5) "mask"))],.ret (.comp false (.var 0) (.nm 0) "seq" [.frz (.meth (.sub (.var 3) (.neg (.cI 1))) "order" [.var 1,.var 2])] (some (.mNin (.var 0) (.var 1))) 1 [4])]⟩
noncomputable def d_MaskedWay_word:MDef:=⟨1,2,[.set (.nm 1) (.call "ways_within" [.var 0]),.ret (.tx2 .cat (.tx2 .rep (.cS "masked ") (.bin true .sub (.blt true "len" [.var 1]) (.cI 1))) (.meth (.sub (.var 1) (.neg (.cI 1))) "word" []))]⟩
noncomputable def d_ways_within:MDef:=⟨1,2,[.set (.nm 1) (.lst false [.var 0]),.while_ (.isI (.sub (.var 1) (.neg (.cI 1))) "MaskedWay") [.expr (.lm "append" (.var 1) [.fld (.sub (.var 1) (.neg (.cI 1))) "way"])],.ret (.frz (.var 1))]⟩
noncomputable def d_folded_cells:MDef:=⟨1,3,[.set (.nm 1) (.lst true [.tup [.cI 0,.cI 0]]),.set (.nm 2) (.cI 1),.while_ (.cmp .lt (.var 2) (.var 0)) [.set (.nm 1) (.call "folded_once" [.var 1,.var 2]),.set (.nm 2) (.bin true .mul (.cI 2) (.var 2))],.ret (.var 1)]⟩
noncomputable def d_folded_once:MDef:=⟨2,6,[.set (.nm 2) (.comp true (.tup [.var 1,.var 0]) (.tp [.nm 0,.nm 1]) "seq" [.var 0] none 2 []),.set (.nm 3) (.comp true (.tup [.bin true .add (.var 2) (.var 0),.var 1]) (.tp [.nm 0,.nm 1]) "seq" [.var 0] none 2 [1]),.set (.nm 4) (.comp true (.tup [.bin true .add (.var 2) (.var 0),.bin true .add (.var 2) (.var 1)]) (.tp [.nm 0,.nm 1]) "seq" [.var 0] none 2 [1]),.set (.nm 5) (.comp true (.tup [.bin true .sub (.bin true .sub (.var 2) (.cI 1)) (.var 1),.bin true .sub (.bin true .sub (.bin true .mul (.cI 2) (.var 2)) (.cI 1)) (.var 0)]) (.tp [.nm 0,.nm 1]) "seq" [.var 0] none 2 [1]),.ret (.bin true .add (.bin true .add (.bin true .add (.var 2) (.var 3)) (.var 4)) (.var 5))]⟩
noncomputable def yP:MDef:=⟨2,4,[.setSub (.var 1) (.cI 0) (.bin true .add (.sub (.var 1) (.cI 0)) (.cI 1)),.set (.nm 2) (.cI 0),.ite (.cmp .gt (.blt true "len" [.var 0]) (.cI 0)) [.set (.nm 2) (.sub (.var 0) (.bin true .mod (.sub (.var 1) (.cI 0)) (.blt true "len" [.var 0])))] [],.set (.nm 3) (.bin true .mod (.bin true .mul (.bin true .add (.bin true .add (.bin true .mod (.var 2) (.cI 2147483647)) (.bin true .mul (.bin true .mul (.sub (.var 1) (.cI 0)) (.sub (.var 1) (.cI 0))) (.cI 7919))) (.cI 11)) (.cI 48271)) (.cI 2147483647)),.ret (.bin true .mod (.bin true .mul (.var 3) (.var 3)) (.cI 1999999973))]⟩
noncomputable def d__law_same:MDef:=⟨2,2,[.ite (.isI (.var 1) "dict") [.ite (.or [.not (.isI (.var 0) "dict"),.cmp .ne (.blt true "len" [.var 0]) (.blt true "len" [.var 1])]) [.ret (.cB false)] [],.ret (.blt true "all" [.comp true (.and [.cmp .inn (.var 0) (.var 1),.call "_law_same" [.sub (.var 1) (.var 0),.sub (.var 2) (.var 0)]]) (.nm 0) "seq" [.var 1] none 1 [0,1]])] [],.ite (.or [.isI (.var 1) "list",.isI (.var 1) "tuple"]) [.ite (.or [.cmp .ne (.isI (.var 0) "list") (.isI (.var 1) "list"),.cmp .ne (.isI (.var 0) "tuple") (.isI (.var 1) "tuple")]) [.ret (.cB false)] [],.ret (.and [.cmp .eq (.blt true "len" [.var 0]) (.blt true "len" [.var 1]),.blt true "all" [.comp true (.call "_law_same" [.var 0,.var 1]) (.tp [.nm 0,.nm 1]) "zip" [.var 0,.var 1] none 2 []]])] [],.ite (.isI (.var 1) "str") [.ret (.and [.isI (.var 0) "str",.cmp .eq (.var 0) (.var 1)])] [],.ret (.and [.isI (.var 0) "int",.not (.isI (.var 0) "bool"),.cmp .eq (.var 0) (.var 1)])]⟩
noncomputable def d__law_order:MDef:=⟨3,4,[.ite (.cmp .eq (.var 2) (.cS "columns")) [.ret (.comp true (.tup [.bin true .mod (.var 0) (.var 1),.bin true .fdiv (.var 0) (.var 1)]) (.nm 0) "range" [.bin true .mul (.var 0) (.var 1)] none 1 [0])] [],.set (.nm 3) (.comp true (.tup [.bin true .fdiv (.var 0) (.var 1),.bin true .mod (.var 0) (.var 1)]) (.nm 0) "range" [.bin true .mul (.var 0) (.var 1)] none 1 [1]),.ite (.cmp .eq (.var 2) (.cS "fro")) [.ret (.comp true (.tup [.var 0,.ite (.cmp .eq (.bin true .mod (.var 0) (.cI 2)) (.cI 0)) (.var 1) (.bin true .sub (.bin true .sub (.var 2) (.cI 1)) (.var 1))]) (.tp [.nm 0,.nm 1]) "seq" [.var 3] none 2 [1])] [],.ret (.var 3)]⟩
noncomputable def d__law_mask:MDef:=⟨4,8,[.set (.nm 4) (.call "_law_next" [.var 0,.var 1]),.ite (.cmp .eq (.bin true .mod (.var 4) (.cI 7)) (.cI 0)) [.ret (.comp true (.tup [.var 0,.var 1]) (.tp [.nm 0,.nm 1]) "seq" [.call "_law_order" [.var 2,.var 3,.cS "rows"]] none 2 [])] [],.set (.nm 5) (.lst false []),.for_ (.nm 6) "range" [.bin true .mod (.bin true .fdiv (.var 4) (.cI 7)) (.cI 9)] [.set (.nm 7) (.call "_law_next" [.var 0,.var 1]),.expr (.lm "append" (.var 5) [.tup [.bin true .sub (.bin true .mod (.var 7) (.bin true .add (.var 2) (.cI 2))) (.cI 1),.bin true .sub (.bin true .mod (.bin true .fdiv (.var 7) (.cI 100)) (.bin true .add (.var 3) (.cI 2))) (.cI 1)]]),.ite (.cmp .eq (.bin true .mod (.bin true .fdiv (.var 7) (.cI 9000)) (.cI 4)) (.cI 0)) [.expr (.lm "append" (.var 5) [.sub (.var 5) (.bin true .mod (.bin true .fdiv (.var 7) (.cI 40000)) (.blt true "len" [.var 5]))])] []],.ret (.frz (.var 5))]⟩
noncomputable def d__law_no_order:MDef:=⟨3,5,[.set (.nm 3) (.cS ""),.tryW [.expr (.frz (.meth (.var 0) "order" [.var 1,.var 2]))] 4 3 "_law_word",.ret (.cmp .eq (.var 3) (.cS "out"))]⟩
noncomputable def d_law:MDef:=⟨1,16,[.set (.nm 1) (.lst false [.cI 0]),.set (.nm 2) (.lst true [.make true "Way" [],.make true "FroWay" [],.make true "ColumnWay" [],.make true "FoldedWay" []]),.for_ (.nm 3) "seq" [.bin true .add (.slice true (.var 0) none (some (.cI 10))) (.lst true [.cI 0])] [.set (.nm 4) (.call "_law_next" [.var 0,.var 1]),.set (.nm 5) (.sub (.var 2) (.bin true .mod (.bin true .add (.var 3) (.var 4)) (.cI 4))),.set (.nm 6) (.bin true .add (.cI 1) (.bin true .mod (.bin true .fdiv (.var 4) (.cI 4)) (.cI 8))),.set (.nm 7) (.bin true .add (.cI 1) (.bin true .mod (.bin true .fdiv (.var 4) (.cI 32)) (.sub (.lst true [.cI 8,.cI 24]) (.bin true .mod (.bin true .fdiv (.var 4) (.cI 3)) (.cI 2))))),.set (.nm 8) (.call "_law_mask" [.var 0,.var 1,.var 6,.var 7]),.set (.nm 9) (.call "_law_mask" [.var 0,.var 1,.var 6,.var 7]),.set (.nm 10) (.blt false "list" [.var 8]),.set (.nm 11) (.make true "MaskedWay" [.var 5,.var 10]),.expr (.lm "append" (.var 10) [.tup [.cI 0,.cI 0]]),.expr (.lm "reverse" (.var 10) []),.set (.nm 12) (.make true "MaskedWay" [.var 11,.blt true "tuple" [.var 9]]),.set (.nm 13) (.comp true (.var 0) (.nm 0) "seq" [.frz (.meth (.var 5) "order" [.var 6,.var 7])] (some (.cmp .nin (.var 0) (.var 1))) 1 [8]),.set (.nm 14) (.meth (.var 11) "order" [.var 6,.var 7]),.ite (.or [.not (.call "_law_same" [.var 14,.var 13]),.cmp .ne (.meth (.var 11) "word" []) (.tx2 .cat (.cS "masked ") (.meth (.var 5) "word" [])),.not (.isI (.var 11) "Way")]) [.ret (.cB false)] [],.expr (.lm "append" (.var 14) [.tup [.var 6,.cI 0]]),.ite (.not (.call "_law_same" [.frz (.meth (.var 11) "order" [.var 6,.var 7]),.var 13])) [.ret (.cB false)] [],.ite (.not (.call "_law_same" [.frz (.meth (.var 12) "order" [.var 6,.var 7]),.comp true (.var 0) (.nm 0) "seq" [.var 13] (some (.cmp .nin (.var 0) (.var 1))) 1 [9]])) [.ret (.cB false)] [],.set (.nm 15) (.comp true (.var 0) (.nm 0) "seq" [.frz (.meth (.var 5) "order" [.bin true .add (.var 6) (.cI 1),.var 7])] (some (.cmp .nin (.var 0) (.var 1))) 1 [8]),.ite (.not (.call "_law_same" [.frz (.meth (.var 11) "order" [.bin true .add (.var 6) (.cI 1),.var 7]),.var 15])) [.ret (.cB false)] [],.ite (.not (.call "_law_same" [.frz (.meth (.var 12) "order" [.bin true .add (.var 6) (.cI 1),.var 7]),.comp true (.var 0) (.nm 0) "seq" [.var 15] (some (.cmp .nin (.var 0) (.var 1))) 1 [9]])) [.ret (.cB false)] [],.ite (.or [.cmp .ne (.meth (.var 12) "word" []) (.tx2 .cat (.cS "masked masked ") (.meth (.var 5) "word" [])),.not (.call "_law_no_order" [.var 12,.cI 0,.var 7])]) [.ret (.cB false)] [],.ite (.not (.call "_law_no_order" [.var 11,.var 6,.neg (.bin true .mod (.bin true .fdiv (.var 4) (.cI 300)) (.cI 3))])) [.ret (.cB false)] []],.ret (.cB true)]⟩
noncomputable def defsL:List (String×MDef):=[("cells_by_rows",d_cells_by_rows),("ask_size",d_ask_size),("Way.order",d_Way_order),("Way.word",d_Way_word),("FroWay.order",d_FroWay_order),("FroWay.word",d_FroWay_word),("ColumnWay.order",d_ColumnWay_order),("ColumnWay.word",d_ColumnWay_word),("FoldedWay.order",d_FoldedWay_order),("FoldedWay.word",d_FoldedWay_word),("MaskedWay.__init__",d_MaskedWay___init__),("MaskedWay.order",d_MaskedWay_order),("MaskedWay.word",d_MaskedWay_word),("ways_within",d_ways_within),("folded_cells",d_folded_cells),("folded_once",d_folded_once),("_law_next",yP),("_law_same",d__law_same),("_law_order",d__law_order),("_law_mask",d__law_mask),("_law_no_order",d__law_no_order),("law",d_law)]
noncomputable def prog:Prog where
 defs:=λf=>defsL.lookup f
 globs:=λx=>match x with
  |_=>none
 meths:=λc m=>match c,m with
  |"Way","order"=>some "Way.order"
  |"Way","word"=>some "Way.word"
  |"FroWay","order"=>some "FroWay.order"
  |"FroWay","word"=>some "FroWay.word"
  |"ColumnWay","order"=>some "ColumnWay.order"
  |"ColumnWay","word"=>some "ColumnWay.word"
  |"FoldedWay","order"=>some "FoldedWay.order"
  |"FoldedWay","word"=>some "FoldedWay.word"
  |"MaskedWay","__init__"=>some "MaskedWay.__init__"
  |"MaskedWay","order"=>some "MaskedWay.order"
  |"MaskedWay","word"=>some "MaskedWay.word"
  |_,_=>none
 subs:=λc d=>match c,d with
  |"Way","Way"=>some true
  |"Way","FroWay"=>some false
  |"Way","ColumnWay"=>some false
  |"Way","FoldedWay"=>some false
  |"Way","MaskedWay"=>some false
  |"Way","dict"=>some false
  |"Way","list"=>some false
  |"Way","tuple"=>some false
  |"Way","str"=>some false
  |"Way","int"=>some false
  |"Way","bool"=>some false
  |"FroWay","Way"=>some true
  |"FroWay","FroWay"=>some true
  |"FroWay","ColumnWay"=>some false
  |"FroWay","FoldedWay"=>some false
  |"FroWay","MaskedWay"=>some false
  |"FroWay","dict"=>some false
  |"FroWay","list"=>some false
  |"FroWay","tuple"=>some false
  |"FroWay","str"=>some false
  |"FroWay","int"=>some false
  |"FroWay","bool"=>some false
  |"ColumnWay","Way"=>some true
  |"ColumnWay","FroWay"=>some false
  |"ColumnWay","ColumnWay"=>some true
  |"ColumnWay","FoldedWay"=>some false
  |"ColumnWay","MaskedWay"=>some false
  |"ColumnWay","dict"=>some false
  |"ColumnWay","list"=>some false
  |"ColumnWay","tuple"=>some false
  |"ColumnWay","str"=>some false
  |"ColumnWay","int"=>some false
  |"ColumnWay","bool"=>some false
  |"FoldedWay","Way"=>some true
  |"FoldedWay","FroWay"=>some false
  |"FoldedWay","ColumnWay"=>some false
  |"FoldedWay","FoldedWay"=>some true
  |"FoldedWay","MaskedWay"=>some false
  |"FoldedWay","dict"=>some false
  |"FoldedWay","list"=>some false
  |"FoldedWay","tuple"=>some false
  |"FoldedWay","str"=>some false
  |"FoldedWay","int"=>some false
  |"FoldedWay","bool"=>some false
  |"MaskedWay","Way"=>some true
  |"MaskedWay","FroWay"=>some false
  |"MaskedWay","ColumnWay"=>some false
  |"MaskedWay","FoldedWay"=>some false
  |"MaskedWay","MaskedWay"=>some true
  |"MaskedWay","dict"=>some false
  |"MaskedWay","list"=>some false
  |"MaskedWay","tuple"=>some false
  |"MaskedWay","str"=>some false
  |"MaskedWay","int"=>some false
  |"MaskedWay","bool"=>some false
  |_,_=>none
 fok:=λc n=>match c,n with
  |"MaskedWay","way"=>true
  |"MaskedWay","mask"=>true
  |_,_=>false
 mk0:=λc=>match c with
  |"Way"=>true
  |"FroWay"=>true
  |"ColumnWay"=>true
  |"FoldedWay"=>true
  |_=>false
 word:=λw c=>match w,c with
  |"_law_word","OutOfPicture"=>some "out"
  |_,_=>none
 words:=λw=>match w with
  |"_law_word"=>true
  |_=>false
 excs:=λc=>match c with
  |"OutOfPicture"=>true
  |_=>false
 turns:=1000000
@[simp] theorem zax:prog.defs "cells_by_rows"=some d_cells_by_rows:=rfl
@[simp] theorem Ybi:prog.defs "ask_size"=some d_ask_size:=rfl
@[simp] theorem Qa7:prog.defs "Way.order"=some d_Way_order:=rfl
@[simp] theorem qbe:prog.defs "Way.word"=some d_Way_word:=rfl
@[simp] theorem qaC:prog.defs "FroWay.order"=some d_FroWay_order:=rfl
@[simp] theorem YaL:prog.defs "FroWay.word"=some d_FroWay_word:=rfl
@[simp] theorem Qae:prog.defs "ColumnWay.order"=some d_ColumnWay_order:=rfl
@[simp] theorem yao:prog.defs "ColumnWay.word"=some d_ColumnWay_word:=rfl
@[simp] theorem qaj:prog.defs "FoldedWay.order"=some d_FoldedWay_order:=rfl
@[simp] theorem yaq:prog.defs "FoldedWay.word"=some d_FoldedWay_word:=rfl
@[simp] theorem QV:prog.defs "MaskedWay.__init__"=some d_MaskedWay___init__:=rfl
@[simp] theorem Zag:prog.defs "MaskedWay.order"=some d_MaskedWay_order:=rfl
@[simp] theorem Yaq:prog.defs "MaskedWay.word"=some d_MaskedWay_word:=rfl
@[simp] theorem QaK:prog.defs "ways_within"=some d_ways_within:=rfl
@[simp] theorem yaE:prog.defs "folded_cells"=some d_folded_cells:=rfl
@[simp] theorem yaM:prog.defs "folded_once"=some d_folded_once:=rfl
@[simp] theorem ya7:prog.defs "_law_next"=some yP:=rfl
@[simp] theorem za7:prog.defs "_law_same"=some d__law_same:=rfl
@[simp] theorem YaW:prog.defs "_law_order"=some d__law_order:=rfl
@[simp] theorem Za6:prog.defs "_law_mask"=some d__law_mask:=rfl
@[simp] theorem qaB:prog.defs "_law_no_order"=some d__law_no_order:=rfl
@[simp] theorem Ycr:prog.defs "law"=some d_law:=rfl
@[simp] theorem Qc2:prog.subs "Way" "Way"=some true:=rfl
@[simp] theorem zcq:prog.subs "Way" "FroWay"=some false:=rfl
@[simp] theorem yb2:prog.subs "Way" "ColumnWay"=some false:=rfl
@[simp] theorem Qb2:prog.subs "Way" "FoldedWay"=some false:=rfl
@[simp] theorem Zb3:prog.subs "Way" "MaskedWay"=some false:=rfl
@[simp] theorem qcr:prog.subs "FroWay" "Way"=some true:=rfl
@[simp] theorem yb3:prog.subs "FroWay" "FroWay"=some true:=rfl
@[simp] theorem ZbG:prog.subs "FroWay" "ColumnWay"=some false:=rfl
@[simp] theorem QbG:prog.subs "FroWay" "FoldedWay"=some false:=rfl
@[simp] theorem qbE:prog.subs "FroWay" "MaskedWay"=some false:=rfl
@[simp] theorem Yb2:prog.subs "ColumnWay" "Way"=some true:=rfl
@[simp] theorem ZbJ:prog.subs "ColumnWay" "FroWay"=some false:=rfl
@[simp] theorem ybo:prog.subs "ColumnWay" "ColumnWay"=some true:=rfl
@[simp] theorem Ybp:prog.subs "ColumnWay" "FoldedWay"=some false:=rfl
@[simp] theorem qbo:prog.subs "ColumnWay" "MaskedWay"=some false:=rfl
@[simp] theorem qb2:prog.subs "FoldedWay" "Way"=some true:=rfl
@[simp] theorem qbz:prog.subs "FoldedWay" "FroWay"=some false:=rfl
@[simp] theorem Qbo:prog.subs "FoldedWay" "ColumnWay"=some false:=rfl
@[simp] theorem qbp:prog.subs "FoldedWay" "FoldedWay"=some true:=rfl
@[simp] theorem ybp:prog.subs "FoldedWay" "MaskedWay"=some false:=rfl
@[simp] theorem zb3:prog.fok "MaskedWay" "way"=true:=rfl
@[simp] theorem yb0:prog.fok "MaskedWay" "mask"=true:=rfl
@[simp] theorem Zb2:prog.subs "MaskedWay" "Way"=some true:=rfl
@[simp] theorem ybJ:prog.subs "MaskedWay" "FroWay"=some false:=rfl
@[simp] theorem Zbp:prog.subs "MaskedWay" "ColumnWay"=some false:=rfl
@[simp] theorem Ybo:prog.subs "MaskedWay" "FoldedWay"=some false:=rfl
@[simp] theorem zbp:prog.subs "MaskedWay" "MaskedWay"=some true:=rfl
@[simp] theorem zcG:prog.meths "Way" "order"=some "Way.order":=rfl
@[simp] theorem qcM:prog.meths "Way" "word"=some "Way.word":=rfl
@[simp] theorem qcj:prog.meths "FroWay" "order"=some "FroWay.order":=rfl
@[simp] theorem Qcp:prog.meths "FroWay" "word"=some "FroWay.word":=rfl
@[simp] theorem YbO:prog.meths "ColumnWay" "order"=some "ColumnWay.order":=rfl
@[simp] theorem QbX:prog.meths "ColumnWay" "word"=some "ColumnWay.word":=rfl
@[simp] theorem ybP:prog.meths "FoldedWay" "order"=some "FoldedWay.order":=rfl
@[simp] theorem qbW:prog.meths "FoldedWay" "word"=some "FoldedWay.word":=rfl
@[simp] theorem Ybu:prog.meths "MaskedWay" "__init__"=some "MaskedWay.__init__":=rfl
@[simp] theorem QbP:prog.meths "MaskedWay" "order"=some "MaskedWay.order":=rfl
@[simp] theorem YbS:prog.meths "MaskedWay" "word"=some "MaskedWay.word":=rfl
@[simp] theorem Zcp:prog.word "_law_word" "OutOfPicture"=some "out":=rfl
theorem qi(n:Nat)(f:String)(as:List MV)(h:MH):run prog (n+1) f as h=opt (prog.defs f) λd=>if as.length=d.np then zg h (Qb prog (run prog n) d.body (as.map some++we (d.ns-d.np) none) h) else .stuck:=rfl
theorem yaB(n:Nat)(a0 a1:MV)(h:MH):run prog (n+1) "cells_by_rows" [a0,a1] h=zg h (Qb prog (run prog n) d_cells_by_rows.body [some a0,some a1,none,none] h):=by rw[qi,zax];rfl
theorem Qbl(n:Nat)(a0 a1:MV)(h:MH):run prog (n+1) "ask_size" [a0,a1] h=zg h (Qb prog (run prog n) d_ask_size.body [some a0,some a1] h):=by rw[qi,Ybi];rfl
theorem Yak(n:Nat)(a0 a1 a2:MV)(h:MH):run prog (n+1) "Way.order" [a0,a1,a2] h=zg h (Qb prog (run prog n) d_Way_order.body [some a0,some a1,some a2] h):=by rw[qi,Qa7];rfl
theorem Qbm(n:Nat)(a0:MV)(h:MH):run prog (n+1) "Way.word" [a0] h=zg h (Qb prog (run prog n) d_Way_word.body [some a0] h):=by rw[qi,qbe];rfl
theorem yT(n:Nat)(a0 a1 a2:MV)(h:MH):run prog (n+1) "FroWay.order" [a0,a1,a2] h=zg h (Qb prog (run prog n) d_FroWay_order.body [some a0,some a1,some a2,none,none,none] h):=by rw[qi,qaC];rfl
theorem ZaN(n:Nat)(a0:MV)(h:MH):run prog (n+1) "FroWay.word" [a0] h=zg h (Qb prog (run prog n) d_FroWay_word.body [some a0] h):=by rw[qi,YaL];rfl
theorem QI(n:Nat)(a0 a1 a2:MV)(h:MH):run prog (n+1) "ColumnWay.order" [a0,a1,a2] h=zg h (Qb prog (run prog n) d_ColumnWay_order.body [some a0,some a1,some a2] h):=by rw[qi,Qae];rfl
theorem Qan(n:Nat)(a0:MV)(h:MH):run prog (n+1) "ColumnWay.word" [a0] h=zg h (Qb prog (run prog n) d_ColumnWay_word.body [some a0] h):=by rw[qi,yao];rfl
theorem qH(n:Nat)(a0 a1 a2:MV)(h:MH):run prog (n+1) "FoldedWay.order" [a0,a1,a2] h=zg h (Qb prog (run prog n) d_FoldedWay_order.body [some a0,some a1,some a2,none] h):=by rw[qi,qaj];rfl
theorem zar(n:Nat)(a0:MV)(h:MH):run prog (n+1) "FoldedWay.word" [a0] h=zg h (Qb prog (run prog n) d_FoldedWay_word.body [some a0] h):=by rw[qi,yaq];rfl
theorem ZX(n:Nat)(a0 a1 a2:MV)(h:MH):run prog (n+1) "MaskedWay.__init__" [a0,a1,a2] h=zg h (Qb prog (run prog n) d_MaskedWay___init__.body [some a0,some a1,some a2] h):=by rw[qi,QV];rfl
theorem zJ(n:Nat)(a0 a1 a2:MV)(h:MH):run prog (n+1) "MaskedWay.order" [a0,a1,a2] h=zg h (Qb prog (run prog n) d_MaskedWay_order.body [some a0,some a1,some a2,none,none,none] h):=by rw[qi,Zag];rfl
theorem Zap(n:Nat)(a0:MV)(h:MH):run prog (n+1) "MaskedWay.word" [a0] h=zg h (Qb prog (run prog n) d_MaskedWay_word.body [some a0,none] h):=by rw[qi,Yaq];rfl
theorem ZaM(n:Nat)(a0:MV)(h:MH):run prog (n+1) "ways_within" [a0] h=zg h (Qb prog (run prog n) d_ways_within.body [some a0,none] h):=by rw[qi,QaK];rfl
theorem QaF(n:Nat)(a0:MV)(h:MH):run prog (n+1) "folded_cells" [a0] h=zg h (Qb prog (run prog n) d_folded_cells.body [some a0,none,none] h):=by rw[qi,yaE];rfl
theorem yaL(n:Nat)(a0 a1:MV)(h:MH):run prog (n+1) "folded_once" [a0,a1] h=zg h (Qb prog (run prog n) d_folded_once.body [some a0,some a1,none,none,none,none] h):=by rw[qi,yaM];rfl
theorem qak(n:Nat)(a0 a1:MV)(h:MH):run prog (n+1) "_law_same" [a0,a1] h=zg h (Qb prog (run prog n) d__law_same.body [some a0,some a1] h):=by rw[qi,za7];rfl
theorem zaR(n:Nat)(a0 a1 a2:MV)(h:MH):run prog (n+1) "_law_order" [a0,a1,a2] h=zg h (Qb prog (run prog n) d__law_order.body [some a0,some a1,some a2,none] h):=by rw[qi,YaW];rfl
theorem qa4(n:Nat)(a0 a1 a2 a3:MV)(h:MH):run prog (n+1) "_law_mask" [a0,a1,a2,a3] h=zg h (Qb prog (run prog n) d__law_mask.body [some a0,some a1,some a2,some a3,none,none,none,none] h):=by rw[qi,Za6];rfl
theorem QaA(n:Nat)(a0 a1 a2:MV)(h:MH):run prog (n+1) "_law_no_order" [a0,a1,a2] h=zg h (Qb prog (run prog n) d__law_no_order.body [some a0,some a1,some a2,none,none] h):=by rw[qi,qaB];rfl
theorem Qcv(n:Nat)(a0:MV)(h:MH):run prog (n+1) "law" [a0] h=zg h (Qb prog (run prog n) d_law.body [some a0,none,none,none,none,none,none,none,none,none,none,none,none,none,none,none] h):=by rw[qi,Ycr];rfl
theorem Qc:sizeL=4194304:=rfl
section
variable (h:MH)
theorem TrOk.obj(c:String)(fs:List (String×FV))(ds:MH):TrOk (h++[.obj c []]) (h++.obj c (fs.map λp=>(p.1,MV.f p.2))::ds):=by
 refine⟨by simp,λi d hi e=>?_⟩;by_cases hl:i<h.length
 ·rw[Ub hl] at e ⊢;exact .inl e
 ·have:i=h.length:=by simp at hi;lia
  subst this;simp at e;subst e;exact .inr ⟨fs,rfl⟩
end
section
variable (h:MH)
noncomputable abbrev qb(p:Int×Int):FV:=.tup [.int p.1,.int p.2]
end
@[simp] theorem cellL_at(xs:List MV)(t:MH):yg (.lst xs::t) 0=some xs:=rfl
@[simp] theorem QcT(xs ys:List MV)(t:MH):yj (.lst xs::t) 0 ys=.lst ys::t:=rfl
noncomputable def YaY(ns:List Int)(k:Int):Int:=if ns=[] then 0 else ns.getD (k%ns.length).toNat 0
noncomputable def ybx(ns:List Int)(k:Int):Int:=((YaY ns k%2147483647+k*k*7919+11)*48271%2147483647)*((YaY ns k%2147483647+k*k*7919+11)*48271%2147483647)%1999999973
theorem ybm(ns:List Int)(k:Int):0<=ybx ns k/\ybx ns k<1999999973:=⟨Xv _ (by decide),Xs _ (by decide)⟩
noncomputable abbrev atC(k:Int):Cell:=.lst [I k]
theorem QC{i j:Int}(h:j.natAbs<2^64):ZaJ i j:=.inr (.inl h)
section
variable {h:MH}
@[simp] theorem YcX(a:Nat)(y:MV):lmV "append" (.ref a) [y] h=opt (yg h a) λxs=>if xs.length<sizeL then .ok (.f .non) (yj h a (xs++[y])) else .stuck:=rfl
@[simp] theorem QcI(a:Nat)(i:Int)(y:MV):lmV "insert" (.ref a) [.f (.int i),y] h=opt (yg h a) λxs=>if xs.length<sizeL/\-(2^63)<=i/\i<2^63 then .ok (.f .non) (yj h a (qbs xs i y)) else .stuck:=rfl
end
theorem zbK{bd:MV->MSt->MH->RS}(N:Nat)(Pv:Nat->MSt->MH->Prop)(σ:MSt)(h:MH)(h0:Pv 0 σ h)
  (step:∀ i σ h,i<N->Pv i σ h->∃ σ' h',bd (I i) σ h=.next σ' h'/\Pv (i+1) σ' h'):∃ σ' h',Qaf [] bd ((uc N).map λ(k:Nat)=>I k) σ h=.next σ' h'/\Pv N σ' h':=by
 have:=qaS (bd:=bd) (e:=λk:Nat=>I k) Pv (uc N) 0 σ h h0 (λj y σ h hj pj=>by
  have hl:j<N:=by have:=(Xa.mp hj).1;simpa using this
  have hy:y=j:=by rw[Wr hl] at hj;exact(Option.some.inj hj).symm
  subst hy;simp only[WB] at pj ⊢;exact step y σ h hl pj)
 simpa using this
namespace Own
variable {h g:MH} {xs:List MV}
end Own
theorem mod_lt(i j:Int)(hj:0<j):0<=i%j/\i%j<j:=⟨Xv _ (by lia),Xs _ hj⟩
noncomputable def Nx(r:RS)(P:MSt->MH->Prop):Prop:=∃ σ h,r=.next σ h/\P σ h
noncomputable def Ret(r:R MV)(P:MV->MH->Prop):Prop:=∃ v h,r=.ok v h/\P v h
@[simp] theorem Nx_next(σ:MSt)(h:MH)(P:MSt->MH->Prop):Nx (.next σ h) P↔P σ h:=⟨λ⟨_,_,e,p⟩=>by cases e;exact p,λp=>⟨_,_,rfl,p⟩⟩
@[simp] theorem Ret_ok(v:MV)(h:MH)(P:MV->MH->Prop):Ret (.ok v h) P↔P v h:=⟨λ⟨_,_,e,p⟩=>by cases e;exact p,λp=>⟨_,_,rfl,p⟩⟩
section
variable {bd:MV->MSt->MH->RS} {σ:MSt} {h:MH} {k:MSt->MH->RS}
theorem YaE{Q:RS->Prop}(N:Nat)(Pv:Nat->MSt->MH->Prop)(h0:Pv 0 σ h)(step:∀ i σ h,i<N->Pv i σ h->∀ Q:MSt->MH->Prop,(∀ σ h,Pv (i+1) σ h->Q σ h)->Nx (bd (I i) σ h) Q)
  (fin:∀ σ' h',Pv N σ' h'->Q (k σ' h')):Q ((Qaf [] bd ((uc N).map λ(k:Nat)=>I k) σ h).bind k):=by
 obtain⟨σ',h',e,p⟩:=zbK N Pv σ h h0 λi σ h hi p=>step i σ h hi p _ λ_ _ x=>x;rw[e];exact fin σ' h' p
theorem Zbr{α:Type}{e:α->MV}{Q:RS->Prop}(ys:List α)(Pv:Nat->MSt->MH->Prop)(h0:Pv 0 σ h)(step:∀ i y σ h,ys[i]?=some y->Pv i σ h->∀ Q:MSt->MH->Prop,(∀ σ h,Pv (i+1) σ h->Q σ h)->Nx (bd (e y) σ h) Q)
  (fin:∀ σ' h',Pv ys.length σ' h'->Q (k σ' h')):Q ((Qaf [] bd (ys.map e) σ h).bind k):=by
 obtain⟨σ',h',e,p⟩:=qaS (bd:=bd) (e:=e) Pv ys 0 σ h h0 (λj y σ h hj pj=>by simp only[WB] at pj ⊢;exact step j y σ h hj pj _ λ_ _ x=>x);rw[e];exact fin σ' h' (by simpa using p)
end
theorem Ret.of{r:R MV}{P:MV->MH->Prop}(k:∀ Q:MV->MH->Prop,(∀ v h,P v h->Q v h)->Ret r Q):Ret r P:=k P λ_ _ x=>x
section
variable {h:MH} (sub:String->String->Option Bool) (t:String)
@[simp] theorem isIV_non:zS sub h (.f .non) t=some false:=rfl
@[simp] theorem isIV_bl(b:Bool):zS sub h (.f (.bl b)) t=some (decide (t="bool")||decide (t="int")):=rfl
@[simp] theorem isIV_int(i:Int):zS sub h (.f (.int i)) t=some (decide (t="int")):=rfl
@[simp] theorem isIV_str(s:Str):zS sub h (.f (.str s)) t=some (decide (t="str")):=rfl
@[simp] theorem isIV_tup(xs:List FV):zS sub h (.f (.tup xs)) t=some (decide (t="tuple")):=rfl
@[simp] theorem isIV_lst(xs:List FV):zS sub h (.f (.lst xs)) t=some (decide (t="list")):=rfl
@[simp] theorem isIV_obj(c:String)(ns:List String)(xs:List FV):zS sub h (.f (.obj c ns xs)) t=sub c t:=rfl
end
noncomputable def isP:Nat->FV->Bool
 |_+1,.non=>true
 |_+1,.int _=>true
 |_+1,.str s=>sOk s
 |n+1,.tup xs=>decide (xs.length<=sizeL)&&xs.all (isP n)
 |n+1,.lst xs=>decide (xs.length<=sizeL)&&xs.all (isP n)
 |_,_=>false
noncomputable def isQ:Nat->FV->Bool
 |_+1,.int _=>true
 |_+1,.str s=>sOk s
 |n+1,.tup xs=>decide (xs.length<=sizeL)&&xs.all (isQ n)
 |n+1,.lst xs=>decide (xs.length<=sizeL)&&xs.all (isQ n)
 |_,_=>false
@[simp] theorem eqF_bl(a b:Bool):eqF (.bl a) (.bl b)=some (a==b):=by simp[eqF,eqD]
theorem Qaw{α:Type}:∀ xs:List α,xs.zip xs=xs.map λx=>(x,x)
 |[]=>rfl
 |x::r=>by simp[Qaw r]
structure Drawn (most:Int) (rows:List (List Int)) (i j:Nat):Prop where
 len:rows.length=i
 wid:∀ r∈rows,r.length=j
 sh:∀ r∈rows,∀ v∈r,0<=v/\v<=most
theorem Ycs(xs ys:List FV)(h:MH)(c:xs.length+ys.length<=sizeL):Qi true .add (.f (.lst xs)) (.f (.lst ys)) h=.ok (.f (.lst (xs++ys))) h:=by
 have:Yx true (xs.map MV.f++ys.map MV.f) h=.ok (.f (.lst (xs++ys))) h:=by rw[<- xg,qd]
 simp[Qi,c,this]
end MP
end
section
namespace MP
open PySem
section
variable {h:MH}
@[simp] theorem qcJ(a:Nat)(z:MV):lmV "extend" (.ref a) [z] h=opt (yg h a) λxs=>opt (listOf h z) λys=>if xs.length+ys.length<=sizeL then .ok (.f .non) (yj h a (xs++ys)) else .stuck:=rfl
@[simp] theorem lmV_pop(a:Nat):lmV "pop" (.ref a) [] h=opt (yg h a) λxs=>opt (xs[xs.length-1]?) λy=>.ok y (yj h a (xs.take (xs.length-1))):=rfl
@[simp] theorem yc5(a:Nat)(i:Int):lmV "pop" (.ref a) [.f (.int i)] h=opt (yg h a) λxs=>opt (ixM xs.length i) λk=>opt (xs[k]?) λy=>if -(2^63)<=i/\i<2^63 then .ok y (yj h a (xs.take k++xs.drop (k+1))) else .stuck:=rfl
end
theorem QaS{c:MSt->MH->R MV}{bd:MSt->MH->RS}(N:Nat)(Pv:Nat->MSt->MH->Prop)(step:∀ i σ h,i<N->Pv i σ h->∃ h1 σ' h',c σ h=.ok (B true) h1/\bd σ h1=.next σ' h'/\Pv (i+1) σ' h')
  (fin:∀ σ h,Pv N σ h->c σ h=.ok (B false) h):∀(fuel i:Nat)(σ:MSt)(h:MH),i<=N->N<fuel+i->Pv i σ h->∃ σ' h',zO c bd fuel σ h=.next σ' h'/\Pv N σ' h'
 |0,i,σ,h,h1,h2,_=>by lia
 |fuel+1,i,σ,h,h1,h2,p=>by
  by_cases hi:i=N
  ·subst hi;exact⟨σ,h,by simp[zO,fin σ h p],p⟩
  ·obtain⟨h1,σ',h',e1,e2,p'⟩:=step i σ h (by lia) p;obtain⟨σ2,h2,e3,p2⟩:=QaS N Pv step fin fuel (i+1) σ' h' (by lia) (by lia) p';exact⟨σ2,h2,by simp[zO,e1,e2,e3],p2⟩
theorem yaR{c:MSt->MH->R MV}{bd:MSt->MH->RS}{σ:MSt}{h:MH}{k:MSt->MH->RS}{Q:RS->Prop}{fuel:Nat}(N:Nat)(Pv:Nat->MSt->MH->Prop)(hf:N<fuel)(h0:Pv 0 σ h)
  (step:∀ i σ h,i<N->Pv i σ h->c σ h=.ok (B true) h/\∀ Q:MSt->MH->Prop,(∀ σ h,Pv (i+1) σ h->Q σ h)->Nx (bd σ h) Q)
  (fin:∀ σ h,Pv N σ h->c σ h=.ok (B false) h) (go:∀ σ h,Pv N σ h->Q (k σ h)):Q ((zO c bd fuel σ h).bind k):=by
 obtain⟨σ',h',e,p⟩:=QaS (c:=c) (bd:=bd) N Pv (λi σ h hi p=>by
  obtain⟨e1,st⟩:=step i σ h hi p;obtain⟨σ',h',e2,p'⟩:=st _ λ_ _ x=>x;exact⟨h,σ',h',e1,e2,p'⟩) fin fuel 0 σ h (Uk _) (by lia) h0
 rw[e];exact go σ' h' p
section
variable {most:Int} {rows r1 r2:List (List Int)} {H W:Nat}
theorem Drawn.cons(d:Drawn most rows H W)(hH:1<=H):∃ r rs,rows=r::rs/\r.length=W/\rs.length+1=H:=by
 cases rows with
 |nil=>have:=d.len;simp at this;lia
 |cons r rs=>exact⟨r,rs,rfl,d.wid r (by simp),by have:=d.len;simpa using this⟩
end
theorem Zbv{a:Nat}{xs:List MV}{h:MH}(e:yg h a=some xs):GuardOk [(a,xs)] h:=λp hp=>by simp at hp;subst hp;exact e
theorem ZaT{α:Type}{bd:MV->MSt->MH->R (Option MV×MSt)}{h:MH}{G:ZE}{e g:α->MV}{caps:MSt}(hg:GuardOk G h):∀(ys:List α)(acc:List MV)(z:Option MV),acc.length+ys.length<=sizeL ->
  (∀ y∈ys,∀ z,∃ z',bd (e y) (z::caps) h=.ok (some (g y),z'::caps) h)->Qo G bd (ys.map e) acc (z::caps) h=.ok (acc++ys.map g) h
 |[],acc,z,_,_=>by simp[Qo,hg]
 |y::r,acc,z,hl,hb=>by
  obtain⟨z',e1⟩:=hb y (by simp) z;simp only[We] at hl;have ih:=ZaT (bd:=bd) (e:=e) (g:=g) (caps:=caps) hg r (acc++[g y]) z' (by simp;lia) λy hy=>hb y (by simp[hy]);simp only[Xd,Qo,hg,true_and,e1,R.bind_ok,ih];rw[if_pos (by lia)];simp
noncomputable abbrev Za(p:Nat×Nat):FV:=.tup [.int p.1,.int p.2]
theorem qaV{α:Type}{bd:MV->MSt->MH->R (Option MV×MSt)}{h:MH}{G:ZE}{e g:α->MV}{caps:MSt}(hg:GuardOk G h):∀(ys:List α)(acc:List MV)(z w:Option MV),acc.length+ys.length<=sizeL ->
  (∀ y∈ys,∀ z w,∃ z' w',bd (e y) (z::w::caps) h=.ok (some (g y),z'::w'::caps) h)->Qo G bd (ys.map e) acc (z::w::caps) h=.ok (acc++ys.map g) h
 |[],acc,z,w,_,_=>by simp[Qo,hg]
 |y::r,acc,z,w,hl,hb=>by
  obtain⟨z',w',e1⟩:=hb y (by simp) z w;simp only[We] at hl;have ih:=qaV (bd:=bd) (e:=e) (g:=g) (caps:=caps) hg r (acc++[g y]) z' w' (by simp;lia) λy hy=>hb y (by simp[hy]);simp only[Xd,Qo,hg,true_and,e1,R.bind_ok,ih];rw[if_pos (by lia)];simp
structure Inks (most:Int) (inks:List Int):Prop where
 up:inks.Pairwise (· < ·)
 inn:∀ v∈inks,0<=v/\v<=most
 z:0∈inks
 m:most∈inks
 sz:inks.length<=50
namespace Inks
variable {most:Int} {inks:List Int} (K:Inks most inks)
include K
end Inks
end MP
namespace MP
open PySem
theorem zaE{α:Type}{bd:MV->MSt->MH->R (Option MV×MSt)}{h:MH}{G:ZE}{e g:α->MV}{t:α->Bool}{caps:MSt}(hg:GuardOk G h):∀(ys:List α)(acc:List MV)(z:Option MV),acc.length+ys.length<=sizeL ->
  (∀ y∈ys,∀ z,∃ z',bd (e y) (z::caps) h=.ok (if t y=true then some (g y) else none,z'::caps) h)->Qo G bd (ys.map e) acc (z::caps) h=.ok (acc++(ys.filter t).map g) h
 |[],acc,z,_,_=>by simp[Qo,hg]
 |y::r,acc,z,hl,hb=>by
  obtain⟨z',e'⟩:=hb y (by simp) z;simp only[We] at hl;have ih:=λacc' (hl':acc'.length+r.length<=sizeL)=>zaE (bd:=bd) (e:=e) (g:=g) (t:=t) (caps:=caps) hg r acc' z' hl' (λy hy z=>hb y (by simp[hy]) z);cases ht:t y with
  |true =>
   simp[ht] at e';simp[Qo,hg,e',ih (acc++[g y]) (by simp;lia),ht]
   lia
  |false =>
   simp[ht] at e';simp[Qo,hg,e',ih acc (by lia),ht]
   lia
noncomputable def Qd(H W:Nat):List (Nat×Nat):=(uc H).flatMap λr=>(uc W).map λc=>(r,c)
noncomputable def zZ(H W:Nat):List (Nat×Nat):=(uc H).flatMap λr=>(uc W).map λc=>(r,if r%2=0 then c else W-1-c)
noncomputable def yav(H W:Nat):List (Nat×Nat):=(Qd W H).map λp=>(p.2,p.1)
theorem yz(H W:Nat):(Qd H W).length=H*W:=by
 unfold Qd;rw[Vv];simp only[vc,WC]
 induction H with
 |zero=>simp
 |succ H ih=>rw[uv,xg,List.sum_append,ih,uC];simp
theorem Qbx(H W:Nat):(zZ H W).length=H*W:=by
 rw[<- yz H W];unfold zZ Qd;rw[Vv,Vv];simp
theorem Yca(H W:Nat):(yav H W).length=H*W:=by unfold yav;rw[vc,yz,Ws]
theorem qbI(H W:Nat)(hW:1<=W):(uc (H*W)).map (λk=>(k/W,k%W))=Qd H W:=by
 unfold Qd
 induction H with
 |zero=>simp
 |succ H ih =>
  rw[uC,Nat.one_mul,List.range_add,xg,ih,uv,ww,ug]
  congr 1
  simp only[List.flatMap_cons,List.flatMap_nil,Xi];refine List.map_congr_left λj hj=>?_;have hj:=wq.mp hj;simp only[XA,Prod.mk.injEq];rw[Ws H W,Nat.mul_add_div (by lia),Nat.mul_add_mod,Nat.div_eq_of_lt hj,Wo hj];exact⟨by lia,rfl⟩
theorem zb0(H W:Nat):(Qd H W).map (λp=>(p.1,if p.1%2=0 then p.2 else W-1-p.2))=zZ H W:=by
 unfold Qd zZ;rw[List.map_flatMap]
 congr 1
 funext r;rw[ug];rfl
theorem ycm(r W:Nat):((uc W).map λc=>(r,c)).reverse=(uc W).map λc=>(r,W-1-c):=by
 apply List.ext_getElem
 ·simp
 ·intro i h1 h2;simp at h1 h2;rw[List.getElem_reverse];simp
theorem zbN{a b:Str}{c:Bool}(h1:sOk a=true)(h2:sOk b=true)(h3:(a==b)=c):eqF (.str a) (.str b)=some c:=by rw[zbj _ _ h1 h2,h3]
noncomputable def zc(c:String):FV:=.obj c [] []
theorem qZ(h:MH)(a:Nat)(xs:List FV):lmV "extend" (.ref a) [.f (.lst xs)] h=opt (yg h a) λys=>if ys.length+xs.length<=sizeL then .ok (.f .non) (yj h a (ys++xs.map .f)) else .stuck:=by
 have:lmV "extend" (.ref a) [.f (.lst xs)] h=opt (yg h a) λys=>opt (listOf h (.f (.lst xs))) λzs=>if ys.length+zs.length<=sizeL then .ok (.f .non) (yj h a (ys++zs)) else .stuck:=rfl;rw[this];cases yg h a with
 |none=>rfl
 |some ys=>simp
section
variable (n:Nat) (h:MH)
theorem qad(xs:List FV):Yu h (.ref h.length) (h++[.lst (xs.map .f)])=.ok (.ref h.length) (h++[.lst (xs.map .f)]):=by
 have cl:=Yn h [] (xs.map MV.f);have tr:=TrOk.app h [.lst (xs.map MV.f)];have ef:=QS xs;generalize xs.map MV.f=M at *;simp[Yu,cl,tr,ef]
theorem zP(H W:Nat)(hHW:H*W<=100000)(hW:W<=10000)(hH:H<=10000):run prog (n+1) "cells_by_rows" [I H,I W] h=.ok (.ref h.length) (h++[.lst (((Qd H W).map Za).map .f)]):=by
 suffices Ret (run prog (n+1) "cells_by_rows" [I H,I W] h) λv h'=>v=.ref h.length/\h'=h++[.lst (((Qd H W).map Za).map .f)] by
  obtain⟨v,h',e,rfl,rfl⟩:=this;exact e
 refine Ret.of λQ hQ=>?_;rw[yaB];simp only[d_cells_by_rows];simp[YK _ (H:Int) (by lia)];refine YaE (Q:=λr=>Ret (zg _ r) _) H (λi σ hh=>∃(z3:Option MV),hh=h++[.lst (((Qd i W).map Za).map .f)]/\σ=[some (I H),some (I W),some (.ref h.length),z3]) ⟨none,by simp[Qd],rfl⟩ ?_ ?_
 ·rintro i σ hh hil ⟨z3,rfl,rfl⟩ Q hQ;have nx:((Qd (i+1) W).map Za).map MV.f=((Qd i W).map Za).map MV.f++(((uc W).map λc=>Za (i,c)).map MV.f):=by
   unfold Qd;rw[uv,ww,xg,xg];simp[Xc]
  simp only[nx] at hQ;have ml:(((Qd i W).map Za).map MV.f).length+((uc W).map λc=>Za (i,c)).length<=sizeL:=by
   have:i*W<=H*W:=uz _ (by lia);simp[yz,Qc];lia
  generalize ((Qd i W).map Za).map MV.f=M at *;have cl:=Yn h [] M;have st:=λys=>Zz h [] M ys;simp[QX,cl,YK _ (W:Int) (by lia),MP.stM];rw[Qad (e:=λk:Nat=>I k) (g:=λc=>MV.f (Za (i,c))) (uc W) [] none (by simp[Qc];lia) (λc _ z=>⟨some (I c),by simp[yn]⟩)];have e2:(uc W).map (λc=>MV.f (Za (i,c)))=((uc W).map λc=>Za (i,c)).map MV.f:=by simp[Xc]
  simp only[Wg,R.bind_ok,e2,qd];generalize (uc W).map (λc=>Za (i,c))=L at *;simp[qZ,cl,ml,st];exact hQ _ _ ⟨_,rfl,rfl⟩
 ·rintro σ hh ⟨z3,rfl,rfl⟩;have lv:=qad h ((Qd H W).map Za);generalize ((Qd H W).map Za).map MV.f=M at *;simp[lv];exact hQ _ _ ⟨rfl,rfl⟩
theorem qx(a b:Int):run prog (n+1) "ask_size" [I a,I b] h=if 1<=a/\1<=b then .ok (.f .non) h else .exc "OutOfPicture" h:=by
 rw[Qbl];simp only[d_ask_size];by_cases c:1<=a
 ·by_cases c2:1<=b
  ·have e1:¬ a<1:=by lia
   have e2:¬ b<1:=by lia
   simp[c,c2,e1,e2]
  ·have e1:¬ a<1:=by lia
   have e2:b<1:=by lia
   simp[c2,e1,e2]
 ·have e1:a<1:=by lia
  simp[c,e1]
section
variable (w:MV) (H W:Nat) (h1:1<=H) (h2:1<=W) (hHW:H*W<=100000) (hW:W<=10000) (hH:H<=10000)
include h1 h2 hHW hW hH
theorem ZaR:run prog (n+2) "Way.order" [w,I H,I W] h=.ok (.ref h.length) (h++[.lst (((Qd H W).map Za).map .f)]):=by
 have A:=qx n h H W;rw[if_pos (by lia)] at A;have C:=zP n h H W hHW hW hH;have lv:=qad h ((Qd H W).map Za);generalize ((Qd H W).map Za).map MV.f=M at *;rw[Yak];simp only[d_Way_order];simp[A,C,lv]
theorem ya4:run prog (n+2) "FroWay.order" [w,I H,I W] h=.ok (.ref h.length) (h++[.lst (((zZ H W).map Za).map .f)]):=by
 suffices Ret (run prog (n+2) "FroWay.order" [w,I H,I W] h) λv h'=>v=.ref h.length/\h'=h++[.lst (((zZ H W).map Za).map .f)] by
  obtain⟨v,h',e,rfl,rfl⟩:=this;exact e
 refine Ret.of λQ hQ=>?_;have A:=qx n h H W;rw[if_pos (by lia)] at A;rw[yT];simp only[d_FroWay_order];simp[A,YK _ (H:Int) (by lia)];refine YaE (Q:=λr=>Ret (zg _ r) _) H (λi σ hh=>∃(z4 z5:Option MV),hh=h++[.lst (((zZ i W).map Za).map .f)]/\σ=[some w,some (I H),some (I W),some (.ref h.length),z4,z5]) ⟨none,none,by simp[zZ],rfl⟩ ?_ ?_
 ·rintro i σ hh hil ⟨z4,z5,rfl,rfl⟩ Q hQ;have nx:((zZ (i+1) W).map Za).map MV.f=((zZ i W).map Za).map MV.f++(((uc W).map λc=>Za (i,if i%2=0 then c else W-1-c)).map MV.f):=by
   unfold zZ;rw[uv,ww,xg,xg];simp[Xc]
  simp only[nx] at hQ;have ml:(((zZ i W).map Za).map MV.f).length+W<=sizeL:=by
   have:i*W<=H*W:=uz _ (by lia);simp[Qbx,Qc];lia
  generalize ((zZ i W).map Za).map MV.f=M at *;have cl:=Yn h [] M;have st:=λys=>Zz h [] M ys;have m2:∀ hh,Qi true .mod (I i) (I 2) hh=.ok (I ((i:Int)%2)) hh:=λhh=>Yr _ _ _ (by decide);have hL:((uc W).map λc=>Za (i,c)).length=W:=by simp
  have eR:((uc W).map λc=>Za (i,c)).reverse=(uc W).map λc=>Za (i,W-1-c):=by
   have:=congrArg (List.map Za) (ycm i W);rw[uD,ug,ug] at this;exact this
  simp[QX,cl,YK _ (W:Int) (by lia),MP.stM];rw[Qad (e:=λk:Nat=>I k) (g:=λc=>MV.f (Za (i,c))) (uc W) [] none (by simp[Qc];lia) (λc _ z=>⟨some (I c),by simp[yn]⟩)];have e2:(uc W).map (λc=>MV.f (Za (i,c)))=((uc W).map λc=>Za (i,c)).map MV.f:=by simp[Xc]
  simp only[Wg,R.bind_ok,e2,qd];by_cases c:i%2=0
  ·have ci:¬((i:Int)%2=1):=by lia
   simp only[c,if_true] at hQ;generalize (uc W).map (λc=>Za (i,c))=L at *;simp[m2,ci,qZ,cl,hL,ml,st];exact hQ _ _ ⟨_,_,rfl,rfl⟩
  ·have ci:((i:Int)%2=1):=by lia
   simp only[c,if_false] at hQ;rw[<- eR] at hQ;generalize (uc W).map (λc=>Za (i,c))=L at *;have hLR:L.reverse.length=W:=by simp[hL]
   have eM:(L.map MV.f).reverse=L.reverse.map MV.f:=by rw[uD]
   generalize L.reverse=LR at *;simp[m2,ci,eM,qZ,cl,hLR,ml,st];exact hQ _ _ ⟨_,_,rfl,rfl⟩
 ·rintro σ hh ⟨z4,z5,rfl,rfl⟩;have lv:=qad h ((zZ H W).map Za);generalize ((zZ H W).map Za).map MV.f=M at *;simp[lv];exact hQ _ _ ⟨rfl,rfl⟩
theorem Qa6:run prog (n+2) "ColumnWay.order" [w,I H,I W] h=.ok (.ref h.length) (h++[.lst (((yav H W).map Za).map .f)]):=by
 suffices Ret (run prog (n+2) "ColumnWay.order" [w,I H,I W] h) λv h'=>v=.ref h.length/\h'=h++[.lst (((yav H W).map Za).map .f)] by
  obtain⟨v,h',e,rfl,rfl⟩:=this;exact e
 refine Ret.of λQ hQ=>?_;have A:=qx n h H W;rw[if_pos (by lia)] at A;have C:=zP n h W H (by rw[Ws];exact hHW) hH hW;obtain⟨t',F⟩:=zaw h [] ((Qd W H).map Za);have gz:(Qd W H).length<=sizeL:=by rw[yz,Ws,Qc];lia
 have eC:(Qd W H).map (λp=>MV.f (Za (p.2,p.1)))=((yav H W).map Za).map MV.f:=by unfold yav;simp[Xc]
 have hq:∀ hh,yd hh (.f (.lst ((Qd W H).map Za)))=some ((Qd W H).map λp=>MV.f (Za p)):=λhh=>by simp[Xc]
 have gq:∀ hh,zd hh (.f (.lst ((Qd W H).map Za)))=[]:=λhh=>rfl;have lv:Yu h (.ref (h++t').length) (h++t'++[.lst (((yav H W).map Za).map .f)])=.ok (.ref h.length) (h++[.lst (((yav H W).map Za).map .f)]):=by
  have cl:=Yn (h++t') [] (((yav H W).map Za).map MV.f);have tr:TrOk h (h++t'++[.lst (((yav H W).map Za).map MV.f)]):=by rw[vf];exact TrOk.app h _
  have ef:=QS ((yav H W).map Za);generalize ((yav H W).map Za).map MV.f=M at *;have tk:(h++t'++[Cell.lst M]).take h.length=h:=by rw[vf,Xy];rfl
  unfold Yu;rw[if_pos tr];simp only;rw[if_pos (by simp),cl];simp only[ef,tk]
 generalize hvl:FV.lst ((Qd W H).map Za)=vl at *;generalize hvm:((Qd W H).map Za).map MV.f=vm at *;rw[QI];simp only[d_ColumnWay_order];simp[A,C,F,hq,gq,MP.stM];rw[Qu (e:=λp:Nat×Nat=>MV.f (Za p)) (g:=λp=>MV.f (Za (p.2,p.1))) (caps:=[]) (Qd W H) [] none none (by simpa using gz) (λp _ z w=>⟨some (I p.1),some (I p.2),by simp[yn]⟩)];simp only[Wg,R.bind_ok,eC,Qa0,vf] at lv ⊢;generalize ((yav H W).map Za).map MV.f=M at *;simp at lv;simp[lv];exact hQ _ _ ⟨rfl,rfl⟩
end
theorem yb5(w:MV)(a b:Int)(no:¬(1<=a/\1<=b)):run prog (n+2) "Way.order" [w,I a,I b] h=.exc "OutOfPicture" h/\run prog (n+2) "FroWay.order" [w,I a,I b] h=.exc "OutOfPicture" h/\run prog (n+2) "ColumnWay.order" [w,I a,I b] h=.exc "OutOfPicture" h/\run prog (n+2) "FoldedWay.order" [w,I a,I b] h=.exc "OutOfPicture" h:=by
 have A:=qx n h a b;rw[if_neg no] at A;have lx:QG h "OutOfPicture" h=.exc "OutOfPicture" h:=by
  unfold QG;rw[if_pos (TrOk.refl h)];simp
 refine⟨?_,?_,?_,?_⟩
 ·rw[Yak];simp only[d_Way_order];simp[A,lx]
 ·rw[yT];simp only[d_FroWay_order];simp[A,lx]
 ·rw[QI];simp only[d_ColumnWay_order];simp[A,lx]
 ·rw[qH];simp only[d_FoldedWay_order];simp[A,lx]
theorem Zay(W:String->List MV->MH->R MV)(c:String)(hi:prog.meths c "__init__"=none):Qak prog W true c [] h=.ok (.f (zc c)) h:=by
 simp[Qak,hi,Qx,TrOk.app,zc]
end
noncomputable def EiX(c:String)(r:RS)(P:MSt->MH->Prop)(X:MH->Prop):Prop:=(∃ σ h,r=.next σ h/\P σ h)\/∃ h,r=.exc c h/\X h
noncomputable def EiR(c:String)(r:R MV)(P:MV->MH->Prop)(X:MH->Prop):Prop:=(∃ v h,r=.ok v h/\P v h)\/∃ h,r=.exc c h/\X h
@[simp] theorem EiX_next(c:String)(σ:MSt)(h:MH)(P:MSt->MH->Prop)(X:MH->Prop):EiX c (.next σ h) P X↔P σ h:=⟨λz=>by rcases z with ⟨_,_,e,p⟩|⟨_,e,_⟩ <;> cases e;exact p,λp=>.inl ⟨_,_,rfl,p⟩⟩
@[simp] theorem EiX_exc(c:String)(h:MH)(P:MSt->MH->Prop)(X:MH->Prop):EiX c (.exc c h) P X↔X h:=⟨λz=>by rcases z with ⟨_,_,e,_⟩|⟨_,e,p⟩ <;> cases e;exact p,λp=>.inr ⟨_,rfl,p⟩⟩
@[simp] theorem EiR_ok(c:String)(v:MV)(h:MH)(P:MV->MH->Prop)(X:MH->Prop):EiR c (.ok v h) P X↔P v h:=⟨λz=>by rcases z with ⟨_,_,e,p⟩|⟨_,e,_⟩ <;> cases e;exact p,λp=>.inl ⟨_,_,rfl,p⟩⟩
@[simp] theorem EiR_exc(c:String)(h:MH)(P:MV->MH->Prop)(X:MH->Prop):EiR c (.exc c h) P X↔X h:=⟨λz=>by rcases z with ⟨_,_,e,_⟩|⟨_,e,p⟩ <;> cases e;exact p,λp=>.inr ⟨_,rfl,p⟩⟩
end MP
end
section
namespace MP
open PySem
end MP
end
section
namespace MP
open PySem
end MP
namespace MP
end MP
namespace MP
noncomputable def cZ(c:Nat×Nat):Int×Int:=((c.1:Int),(c.2:Int))
theorem cZ_N(c:Nat×Nat):qb (cZ c)=Za c:=rfl
end MP
namespace MP
theorem ybG(g t:MH)(x:FV):Yu g (.f x) (g++t)=.ok (.f x) g:=by
 have tr:TrOk g (g++t):=TrOk.app g _;unfold Yu;rw[if_pos tr];simp
end MP
end
section
namespace MP
open PySem
noncomputable def YaR(cs:List (Nat×Nat))(m:Nat):List (Nat×Nat) :=
 cs.map (λc=>(c.2,c.1))++cs.map (λc=>(m+c.1,c.2))++cs.map (λc=>(m+c.1,m+c.2))++cs.map (λc=>(m-1-c.2,2*m-1-c.1))
noncomputable def zp:Nat->List (Nat×Nat)
 |0=>[(0,0)]
 |k+1=>YaR (zp k) (2^k)
theorem zbx:∀(k:Nat),∀ c∈zp k,c.1<2^k/\c.2<2^k
 |0,c,h=>by
  simp[zp] at h;subst h;simp
 |k+1,c,h=>by
  have ih:=zbx k;have p:2^(k+1)=2*2^k:=by rw[wy,Ws]
  have q:0<2^k:=Nat.two_pow_pos k;rw[p];simp only[zp,YaR,Uh,Vj] at h
  rcases h with ((⟨d,hd,rfl⟩|⟨d,hd,rfl⟩)|⟨d,hd,rfl⟩)|⟨d,hd,rfl⟩ <;> (have:=ih d hd;simp only;lia)
theorem yad:∀ k:Nat,(zp k).length=4^k
 |0=>rfl
 |k+1=>by
  simp only[zp,YaR,Vg,vc,yad k,wy]
  lia
theorem qaa{α:Type}{G:ZE}{bd:MV->MSt->MH->R (Option MV×MSt)}{h:MH}{e g:α->MV}{t:α->Bool}(hg:GuardOk G h)(Iv:MSt->Prop):∀(ys:List α)(acc:List MV)(σ:MSt),Iv σ->acc.length+ys.length<=sizeL ->
  (∀ y∈ys,∀ σ,Iv σ->∃ σ',bd (e y) σ h=.ok (if t y=true then some (g y) else none,σ') h/\Iv σ')->Qo G bd (ys.map e) acc σ h=.ok (acc++(ys.filter t).map g) h
 |[],acc,σ,_,_,_=>by simp[Qo,hg]
 |y::r,acc,σ,iv,hl,hb=>by
  obtain⟨σ',e',iv'⟩:=hb y (by simp) σ iv;simp only[We] at hl;have c:GuardOk G h/\acc.length<sizeL:=⟨hg,by lia⟩;rw[Xd,Qo,if_pos c,e',R.bind_ok];by_cases ht:t y=true
  ·simp only[ht,if_true];rw[qaa hg Iv r _ σ' iv' (by simp;lia) λz hz=>hb z (by simp[hz])];simp[vt,ht]
  ·simp only[ht];have:=qaa hg Iv r acc σ' iv' (by lia) λz hz=>hb z (by simp[hz]);simp only[xj,if_false] at this ⊢;rw[this];simp[vt,ht]
theorem YbD{ks:List (Int×Int)}(h:ks.Nodup)(k:Int×Int):(qm ks k).Nodup:=by
 unfold qm;split
 ·exact h
 next n =>
  rw[Vp];refine⟨h,by simp,λa ha b hb=>?_⟩;rw[va.mp hb]
  exactλe=>n (e ▸ ha)
theorem Qca{ks:List (Int×Int)}{k x:Int×Int}:x∈qm ks k↔x∈ks\/x=k:=by
 unfold qm;split
 next m=>exact⟨.inl,λh=>h.elim id λe=>e ▸ m⟩
 next=>simp
theorem YaJ:∀(ms ks:List (Int×Int)),ks.Nodup->(ms.foldl qm ks).Nodup
 |[],ks,h=>h
 |m::ms,ks,h=>YaJ ms _ (YbD h m)
theorem QR:∀(ms ks:List (Int×Int)) (x:Int×Int),x∈ms.foldl qm ks↔x∈ks\/x∈ms
 |[],ks,x=>by simp
 |m::ms,ks,x=>by
  rw[Um,QR ms,Qca];simp[or_assoc]
theorem Zcn{H W:Nat}{c:Nat×Nat}(h:c∈Qd H W):c.1<H/\c.2<W:=by
 unfold Qd at h;simp only[Vt,Vj,wq] at h;obtain⟨r,hr,c',hc,rfl⟩:=h;exact⟨hr,hc⟩
theorem qU(P:Prog)(W:String->List MV->MH->R MV):∀(a b:List MS)(σ:MSt)(h:MH),Qb P W (a++b) σ h=(Qb P W a σ h).bind (Qb P W b)
 |[],b,σ,h=>by simp[Qb]
 |s::a,b,σ,h=>by
  rw[wu,Qb,Qb];cases e:zz P W s σ h with
  |next σ' h'=>simp[qU P W a b σ' h']
  |_=>simp
end MP
namespace MP
end MP
namespace MP
end MP
namespace MP
end MP
end
section
namespace MP
open PySem
end MP
end
section
namespace MP
open PySem
end MP
end
section
namespace MP
open PySem
end MP
end
section
namespace MP
open PySem
end MP
end
section
namespace MP
open PySem
end MP
end
section
namespace MP
open PySem
end MP
namespace MP
end MP
end
section
namespace MP
open PySem
theorem zck(H W:Nat)(hH:H<=64)(hW:W<=64):∃ k,k<=6/\H<=2^k/\W<=2^k/\∀ i,i<k->2^i<H\/2^i<W:=by
 have key:∀ m,m<=6->(∀ i,i<m->2^i<H\/2^i<W)->∃ k,k<=6/\H<=2^k/\W<=2^k/\∀ i,i<k->2^i<H\/2^i<W:=by
  intro m
  induction h:6-m generalizing m with
  |zero=>intro hm hi;exact⟨6,by lia,by simpa using hH,by simpa using hW,λi q=>hi i (by lia)⟩
  |succ d ih =>
   intro hm hi;by_cases c:2^m<H\/2^m<W
   ·exact ih (m+1) (by lia) (by lia) λi q=>by
     rcases Nat.lt_succ_iff_lt_or_eq.mp q with q|rfl
     ·exact hi i q
     ·exact c
   ·exact⟨m,hm,by lia,by lia,hi⟩
 exact key 0 (by lia) λi q=>absurd q (by lia)
section
variable (n:Nat) (h:MH)
theorem ZaL(cs:List (Nat×Nat))(m:Nat)(hc:∀ c∈cs,c.1<m/\c.2<m)(hl:cs.length<=100000)(hm:m<=1000000):run prog (n+1) "folded_once" [.f (.lst (cs.map Za)),I m] h=.ok (.f (.lst ((YaR cs m).map Za))) h:=by
 have q:yd h (.f (.lst (cs.map Za)))=some (cs.map λc=>MV.f (Za c)):=by simp[Xc]
 have g:zd h (.f (.lst (cs.map Za)))=[]:=rfl;have it:itV "seq" [.f (.lst (cs.map Za))] h=some (cs.map λc=>MV.f (Za c),[]):=by simp only[itV,q,ui,g]
 have sz:cs.length<=sizeL:=by rw[Qc];lia
 have mu2:∀ hh,Qi true .mul (I 2) (I (m:Int)) hh=.ok (I (2*(m:Int))) hh:=λhh=>zad _ _ _ (QC (by lia));have N1:∀ f:Nat×Nat->Nat×Nat,Yx true (cs.map λc=>MV.f (Za (f c))) h=.ok (.f (.lst ((cs.map f).map Za))) h:=λf=>by
  have:=qd (cs.map λc=>Za (f c)) (h:=h);simpa[Xc] using this
 have BA:∀ a b:List (Nat×Nat),a.length+b.length<=sizeL->Qi true .add (.f (.lst (a.map Za))) (.f (.lst (b.map Za))) h=.ok (.f (.lst ((a++b).map Za))) h:=λa b hab=>by
  have:=qd ((a++b).map Za) (h:=h);simp only[Qi,Ze,Qt,listOf,yp,vc];rw[if_pos hab,<- xg,<- xg];exact this
 have B1:=BA (cs.map λc=>(c.2,c.1)) (cs.map λc=>(m+c.1,c.2)) (by simp[Qc];lia);have B2:=BA (cs.map (λc=>(c.2,c.1))++cs.map (λc=>(m+c.1,c.2))) (cs.map λc=>(m+c.1,m+c.2)) (by simp[Qc];lia);have B3:=BA (cs.map (λc=>(c.2,c.1))++cs.map (λc=>(m+c.1,c.2))++cs.map (λc=>(m+c.1,m+c.2))) (cs.map λc=>(m-1-c.2,2*m-1-c.1)) (by simp[Qc];lia);have n1:=N1 λc=>(c.2,c.1);have n2:=N1 λc=>(m+c.1,c.2);have n3:=N1 λc=>(m+c.1,m+c.2);have n4:=N1 λc=>(m-1-c.2,2*m-1-c.1);have e0:YaR cs m=cs.map (λc=>(c.2,c.1))++cs.map (λc=>(m+c.1,c.2))++cs.map (λc=>(m+c.1,m+c.2))++cs.map (λc=>(m-1-c.2,2*m-1-c.1)):=rfl;rw[<- e0] at B3;generalize YaR cs m=out at *;generalize hcl:FV.lst (cs.map Za)=cl at *;rw[yaL];simp only[d_folded_once];simp[it,MP.stM];rw[Qu (e:=λc=>MV.f (Za c)) (g:=λc=>MV.f (Za (c.2,c.1))) (caps:=[]) cs [] none none (by simpa using sz) (λc _ z w=>⟨some (I c.1),some (I c.2),by simp[yn]⟩)];simp only[Wg,R.bind_ok,n1];simp[it,MP.stM];rw[Qu (e:=λc=>MV.f (Za c)) (g:=λc=>MV.f (Za (m+c.1,c.2))) (caps:=[some (I m)]) cs [] none none (by simpa using sz) (λc _ z w=>⟨some (I c.1),some (I c.2),by simp[yn]⟩)];simp only[Wg,R.bind_ok,n2];simp[it,MP.stM];rw[Qu (e:=λc=>MV.f (Za c)) (g:=λc=>MV.f (Za (m+c.1,m+c.2))) (caps:=[some (I m)]) cs [] none none (by simpa using sz) (λc _ z w=>⟨some (I c.1),some (I c.2),by simp[yn]⟩)];simp only[Wg,R.bind_ok,n3];simp[it,MP.stM];rw[Qu (e:=λc=>MV.f (Za c)) (g:=λc=>MV.f (Za (m-1-c.2,2*m-1-c.1))) (caps:=[some (I m)]) cs [] none none (by simpa using sz) (λc hcm z w=>⟨some (I c.1),some (I c.2),by
  have:=hc c hcm;have e1:((m-1-c.2:Nat):Int)=(m:Int)-1-c.2:=by lia
  have e2:((2*m-1-c.1:Nat):Int)=2*(m:Int)-1-c.1:=by lia
  simp[yn,mu2,e1,e2]⟩)]
 simp only[Wg,R.bind_ok,n4];simp at B1 B2 B3;simp[B1,B2,B3]
theorem QaC(k:Nat)(hk:k<=6):run prog (n+2) "folded_cells" [I ((2^k:Nat):Int)] h=.ok (.f (.lst ((zp k).map Za))) h:=by
 suffices Ret (run prog (n+2) "folded_cells" [I ((2^k:Nat):Int)] h) λv h'=>v=.f (.lst ((zp k).map Za))/\h'=h by
  obtain⟨v,h',e,rfl,rfl⟩:=this;exact e
 refine Ret.of λQ hQ=>?_;rw[QaF];simp only[d_folded_cells];simp[Qx,qp];refine yaR (Q:=λr=>Ret (zg _ r) _) k (λi σ hh=>hh=h/\σ=[some (I ((2^k:Nat):Int)),some (.f (.lst ((zp i).map Za))),some (I ((2^i:Nat):Int))]) (by show k<1000000;lia) ⟨rfl,by simp[zp]⟩ ?_ ?_ ?_
 ·rintro i σ hh hi ⟨rfl,rfl⟩;have hp:2^i<2^k:=Nat.pow_lt_pow_right (by lia) hi;have hp6:2^k<=2^6:=Vk (by lia) hk;have F:=ZaL n hh (zp i) (2^i) (zbx i) (by rw[yad];have:4^i<=4^6:=Vk (by lia) (by lia);lia) (by lia);have ee:YaR (zp i) (2^i)=zp (i+1):=rfl;have p2:(2:Int)*((2^i:Nat):Int)=((2^(i+1):Nat):Int):=by rw[wy];push_cast;lia
  have mu:∀ hh,Qi true .mul (I 2) (I ((2^i:Nat):Int)) hh=.ok (I ((2^(i+1):Nat):Int)) hh:=λhh=>by
   have:=zad true 2 ((2^i:Nat):Int) (h:=hh) (QC (by rw[uB];lia));rw[p2] at this;exact this
  have lt:((2^i:Nat):Int)<((2^k:Nat):Int):=by exact_mod_cast hp
  rw[ee] at F;generalize (((2^(i+1):Nat):Int))=b2 at *;generalize (((2^i:Nat):Int))=b at *;generalize (((2^k:Nat):Int))=bk at *;generalize (zp (i+1)).map Za=L2 at *;generalize (zp i).map Za=L1 at *;refine⟨by simp[lt],λQ hQ=>?_⟩;simp[F,mu];exact hQ _ _ ⟨rfl,rfl⟩
 ·rintro σ hh ⟨rfl,rfl⟩;simp
 ·rintro σ hh ⟨rfl,rfl⟩;generalize (zp k).map Za=L at *;simp;exact hQ _ _ ⟨rfl,rfl⟩
theorem yaQ(w:MV)(H W:Nat)(h1:1<=H)(h2:1<=W)(hH:H<=64)(hW:W<=64):∃ k,k<=6/\∀ n h,run prog (n+3) "FoldedWay.order" [w,I H,I W] h=.ok (.ref h.length) (h++[.lst ((((zp k).filter λc=>decide (c.1<H)&&decide (c.2<W)).map Za).map .f)]):=by
 obtain⟨k,hk,kH,kW,kl⟩:=zck H W hH hW;refine⟨k,hk,λn h=>?_⟩
 suffices Ret (run prog (n+3) "FoldedWay.order" [w,I H,I W] h) λv h'=>v=.ref h.length/\h'=h++[.lst ((((zp k).filter λc=>decide (c.1<H)&&decide (c.2<W)).map Za).map .f)] by
  obtain⟨v,h',e,rfl,rfl⟩:=this;exact e
 refine Ret.of λQ hQ=>?_;have A:=qx (n+1) h H W;rw[if_pos (by lia)] at A;rw[qH];simp only[d_FoldedWay_order];simp[A];refine yaR (Q:=λr=>Ret (zg _ r) _) k (λi σ hh=>hh=h/\σ=[some w,some (I H),some (I W),some (I ((2^i:Nat):Int))]) (by show k<1000000;lia) ⟨rfl,by simp⟩ ?_ ?_ ?_
 ·rintro i σ hh hi ⟨rfl,rfl⟩;have hp6:2^i<=2^6:=Vk (by lia) (by lia);have p2:(2:Int)*((2^i:Nat):Int)=((2^(i+1):Nat):Int):=by rw[wy];push_cast;lia
  have mu:∀ hh,Qi true .mul (I 2) (I ((2^i:Nat):Int)) hh=.ok (I ((2^(i+1):Nat):Int)) hh:=λhh=>by
   have:=zad true 2 ((2^i:Nat):Int) (h:=hh) (QC (by rw[uB];lia));rw[p2] at this;exact this
  have or1:((2^i:Nat):Int)<(H:Int)\/((2^i:Nat):Int)<(W:Int):=by
   rcases kl i hi with q|q
   ·left;exact_mod_cast q
   ·right;exact_mod_cast q
  generalize (((2^(i+1):Nat):Int))=b2 at *;generalize (((2^i:Nat):Int))=b at *;refine⟨?_,λQ hQ=>?_⟩
  ·by_cases c:b<(H:Int)
   ·simp[c]
   ·have c2:b<(W:Int):=or1.resolve_left c;simp[c,c2]
  ·simp[mu];exact hQ _ _ ⟨rfl,rfl⟩
 ·rintro σ hh ⟨rfl,rfl⟩;have l1:¬((2^k:Nat):Int)<(H:Int):=by lia
  have l2:¬((2^k:Nat):Int)<(W:Int):=by lia
  generalize (((2^k:Nat):Int))=b at *;simp[l1,l2]
 ·rintro σ hh ⟨rfl,rfl⟩;have C:=QaC n hh k (by lia);have it:itV "seq" [.f (.lst ((zp k).map Za))] hh=some ((zp k).map λc=>MV.f (Za c),[]):=by
   have q:yd hh (.f (.lst ((zp k).map Za)))=some ((zp k).map λc=>MV.f (Za c)):=by simp[Xc]
   have g:zd hh (.f (.lst ((zp k).map Za)))=[]:=rfl;simp only[itV,q,ui,g]
  have sz:(zp k).length<=sizeL:=by rw[yad,Qc];have:4^k<=4^6:=Vk (by lia) (by lia);lia
  have lv:=qad hh (((zp k).filter λc=>decide (c.1<H)&&decide (c.2<W)).map Za);generalize (((2^k:Nat):Int))=b at *;generalize hcl:FV.lst ((zp k).map Za)=cl at *;simp[C,it,MP.stM];rw[qaa (QO _) (λσ=>∃ z0 z1,σ=[z0,z1,some (I H),some (I W)]) (e:=λc=>MV.f (Za c)) (g:=λc=>MV.f (Za c)) (t:=λc=>decide (c.1<H)&&decide (c.2<W)) (zp k) [] _ ⟨none,none,rfl⟩ (by simpa using sz) (by
   rintro c hcm σ ⟨z0,z1,rfl⟩;refine⟨[some (I c.1),some (I c.2),some (I H),some (I W)],?_,_,_,rfl⟩;by_cases q1:c.1<H
   ·by_cases q2:c.2<W
    ·simp[yn,q1,q2]
    ·simp[yn,q1,q2]
   ·simp[yn,q1])]
  have e2:((zp k).filter λc=>decide (c.1<H)&&decide (c.2<W)).map (λc=>MV.f (Za c))=(((zp k).filter λc=>decide (c.1<H)&&decide (c.2<W)).map Za).map MV.f:=by simp[Xc]
  rw[Wg,R.bind_ok,e2];generalize (((zp k).filter λc=>decide (c.1<H)&&decide (c.2<W)).map Za).map MV.f=M at *;simp[lv];exact hQ _ _ ⟨rfl,rfl⟩
end
end MP
end
section
namespace MP
open PySem
noncomputable def zH(c:String):Prop:=c="Way"\/c="FroWay"\/c="ColumnWay"\/c="FoldedWay"
noncomputable def yI(w:FV)(ks:List (Int×Int)):FV:=.obj "MaskedWay" ["way","mask"] [w,.msk ks]
noncomputable def yh:List (List (Int×Int))->FV->FV
 |[],w=>w
 |k::r,w=>yI (yh r w) k
noncomputable def qj:List (List (Int×Int))->FV->List FV
 |[],w=>[w]
 |k::r,w=>yh (k::r) w::qj r w
theorem yB:∀(Ks:List (List (Int×Int))) (w:FV),(qj Ks w).length=Ks.length+1
 |[],w=>rfl
 |k::r,w=>by simp[qj,yB r w]
theorem YaC:∀(Ks:List (List (Int×Int))) (w:FV) (i:Nat),i<=Ks.length->(qj Ks w)[i]?=some (yh (Ks.drop i) w)
 |[],w,i,h=>by
  obtain rfl:i=0:=by simpa using h
  rfl
 |k::r,w,0,h=>rfl
 |k::r,w,i+1,h=>by
  simp only[qj,Xj,Xo];exact YaC r w i (by simpa using h)
theorem zaY(Ks:List (List (Int×Int)))(w:FV)(i:Nat)(h:i<Ks.length):yh (Ks.drop i) w=yI (yh (Ks.drop (i+1)) w) Ks[i]:=by
 rw[ur h];rfl
theorem YL(Ks:List (List (Int×Int)))(w:FV)(i:Nat)(h:i<=Ks.length):(qj Ks w).take (i+1)=(qj Ks w).take i++[yh (Ks.drop i) w]:=by
 rw[Vs,YaC Ks w i h];rfl
noncomputable def yaX(a k:List (Int×Int)):List (Int×Int):=if a=[]\/k=[] then(if k=[] then a else k) else k.foldl qm a
theorem zcf(a k:List (Int×Int))(x:Int×Int):x∈yaX a k↔x∈a\/x∈k:=by
 unfold yaX;split
 next h =>
  by_cases c:k=[]
  ·subst c;simp
  ·rw[if_neg c];have:a=[]:=h.resolve_right c;subst this;simp
 next=>exact QR k a x
theorem Zcd(a:List (Int×Int))(k:Int×Int):(qm a k).length<=a.length+1:=by
 unfold qm;split <;> simp
theorem YaH:∀(k a:List (Int×Int)),(k.foldl qm a).length<=a.length+k.length
 |[],a=>by simp
 |x::k,a=>by
  have h1:=YaH k (qm a x);have h2:=Zcd a x;simp only[Um,We];lia
theorem Qck(a k:List (Int×Int)):(yaX a k).length<=a.length+k.length:=by
 unfold yaX;split
 ·split <;> lia
 ·exact YaH k a
noncomputable def YQ(Ks:List (List (Int×Int))):List (Int×Int):=Ks.foldl yaX []
theorem Ybm:∀(Ks:List (List (Int×Int))) (a:List (Int×Int)) (x:Int×Int),x∈Ks.foldl yaX a↔x∈a\/∃ k∈Ks,x∈k
 |[],a,x=>by simp
 |k::r,a,x=>by
  rw[Um,Ybm r,zcf];simp[or_assoc]
theorem ycy(Ks:List (List (Int×Int)))(hk:∀ k∈Ks,k.length<=1000):∀ a:List (Int×Int),(Ks.foldl yaX a).length<=a.length+Ks.length*1000:=by
 induction Ks with
 |nil=>intro a;simp
 |cons k r ih =>
  intro a;have h1:=ih (λk h=>hk k (Xe _ h)) (yaX a k);have h2:=Qck a k;have h3:=hk k (by simp);simp only[Um,We];lia
theorem Qb5{Ks:List (List (Int×Int))}{i:Nat}(h:i<Ks.length):YQ (Ks.take (i+1))=yaX (YQ (Ks.take i)) Ks[i]:=by
 unfold YQ;rw[Vs,Xf h,Option.toList_some,List.foldl_append];rfl
section
variable (n:Nat) (h:MH)
theorem ybY{c:String}(hc:zH c):prog.subs c "MaskedWay"=some false:=by
 rcases hc with rfl|rfl|rfl|rfl <;> rfl
theorem yG(c:String)(hc:zH c)(Ks:List (List (Int×Int)))(hl:Ks.length<=1000):run prog (n+1) "ways_within" [.f (yh Ks (zc c))] h=.ok (.f (.lst (qj Ks (zc c)))) h:=by
 suffices Ret (run prog (n+1) "ways_within" [.f (yh Ks (zc c))] h) λv h'=>v=.f (.lst (qj Ks (zc c)))/\h'=h by
  obtain⟨v,h',e,rfl,rfl⟩:=this;exact e
 refine Ret.of λQ hQ=>?_;have i1:∀ w ks hh,zS prog.subs hh (.f (yI w ks)) "MaskedWay"=some true:=λw ks hh=>rfl;have i2:∀ hh,zS prog.subs hh (.f (zc c)) "MaskedWay"=some false:=λhh=>ybY hc;have f1:∀ w ks hh,zbv prog.fok "way" (.f (yI w ks)) hh=some (.f w):=λw ks hh=>by simp[zbv,yI]
 have cl:∀ M,yg (h++[.lst M]) h.length=some M:=λM=>Yn h [] M;have st:∀ M ys,yj (h++[.lst M]) h.length ys=h++[.lst ys]:=λM ys=>Zz h [] M ys;have z0:(qj Ks (zc c)).take 1=[yh Ks (zc c)]:=by rw[YL Ks _ 0 (by lia)];rfl
 have tg:=λi hi=>YL Ks (zc c) i hi;have tl:=yB Ks (zc c);have cm:=λi hi=>zaY Ks (zc c) i hi;have ce:yh (Ks.drop Ks.length) (zc c)=zc c:=by rw[xo];rfl
 have F:=λxs=>zaw h [] xs;generalize hT:qj Ks (zc c)=T at *;generalize hC:(λi=>yh (Ks.drop i) (zc c))=C at *;have hC':∀ i,yh (Ks.drop i) (zc c)=C i:=λi=>by rw[<- hC]
 simp only[hC'] at tg cm ce;have z1:yh Ks (zc c)=C 0:=by rw[<- hC' 0];rfl
 rw[z1] at z0 ⊢;rw[ZaM];simp only[d_ways_within];simp;refine yaR (Q:=λr=>Ret (zg _ r) _) Ks.length (λi σ hh=>i<=Ks.length/\σ=[some (.f (C 0)),some (.ref h.length)]/\hh=h++[.lst ((T.take (i+1)).map .f)]) (by show Ks.length<1000000;lia) ⟨by lia,rfl,by rw[z0];rfl⟩ ?_ ?_ ?_
 ·rintro i σ hh hi ⟨hil,rfl,rfl⟩;have e1:=tg i hil;have e2:=tg (i+1) (by lia);have a1:atM ((T.take (i+1)).map MV.f) (-1)=some (.f (C i)):=by rw[e1,xg];exact yac _ _
  have lz:((T.take (i+1)).map MV.f).length<sizeL:=by simp[Qc];lia
  have e3:(T.take (i+1)).map MV.f++[.f (C (i+1))]=(T.take (i+1+1)).map MV.f:=by rw[e2,xg];rfl
  have m1:=cm i hi;rw[m1] at a1;generalize (T.take (i+1)).map MV.f=M at *;have j1:=i1 (C (i+1)) Ks[i];have g1:=f1 (C (i+1)) Ks[i];generalize yI (C (i+1)) Ks[i]=mv at *;refine⟨by simp[cl,a1,j1],λQ hQ=>?_⟩;simp[cl,a1,g1,st,lz,e3];exact hQ _ _ ⟨by lia,rfl,by rw[Vz]⟩
 ·rintro σ hh ⟨hil,rfl,rfl⟩;have e1:=tg Ks.length hil;have a1:atM ((T.take (Ks.length+1)).map MV.f) (-1)=some (.f (C Ks.length)):=by rw[e1,xg];exact yac _ _
  rw[ce] at a1;generalize (T.take (Ks.length+1)).map MV.f=M at *;simp[cl,a1,i2]
 ·rintro σ hh ⟨hil,rfl,rfl⟩;have e1:T.take (Ks.length+1)=T:=by rw[<- tl,wm]
  rw[e1];obtain⟨t',F⟩:=F T;have lv:=ybG h t' (.lst T);generalize T.map MV.f=M at *
  try simp at F
  simp[F,lv];exact hQ _ _ ⟨rfl,rfl⟩
noncomputable def Ybw(Ks:List (List (Int×Int))):Prop:=Ks.length<=10/\∀ k∈Ks,k.all Y4=true/\k.Nodup/\k.length<=1000
theorem zci(g:MH)(a k:List (Int×Int))(sm:k.all Y4=true)(nd:k.Nodup)(hz:a.length+k.length<=20000):updV (.ref g.length) (.f (.msk k)) (g++[.msk a])=.ok (.f .non) (g++[.msk (yaX a k)]):=by
 have c0:QL (g++[.msk a]) (.ref g.length)=some a:=by simp[QL]
 have s0:∀ l:List (Int×Int),(g++[Cell.msk a]).set g.length (.msk l)=g++[.msk l]:=λl=>by simp
 simp only[updV,c0,yp,s0];unfold yaX;by_cases q:a=[]\/k=[]
 ·rw[if_pos q,if_pos ⟨sm,nd⟩,if_pos q]
 ·rw[if_neg q,if_pos (by rw[Qc];lia),if_neg q]
noncomputable def lsK(c:String)(Ks:List (List (Int×Int))):List FV:=(uc Ks.length).map λi=>yh (Ks.drop i) (zc c)
theorem qaW(c:String)(Ks:List (List (Int×Int)))(hh:MH):y0 true (.f (.lst (qj Ks (zc c)))) none (some (-1)) hh=.ok (.f (.lst (lsK c Ks))) hh:=by
 unfold lsK;have e:Qa3 ((qj Ks (zc c)).map MV.f) none (some (-1))=((uc Ks.length).map λi=>yh (Ks.drop i) (zc c)).map MV.f:=by
  simp only[Qa3,ZbY];rw[if_pos (by decide)];have l:((qj Ks (zc c)).map MV.f).length=Ks.length+1:=by simp[yB]
  rw[l];simp only[Xn,uu];rw[show((-1:Int)+((Ks.length+1:Nat):Int)).toNat=Ks.length by lia,<- Vz]
  congr 1
  apply wt;intro i;rw[Uf,List.getElem?_take];by_cases hi:i<Ks.length
  ·rw[if_pos hi,YaC _ _ _ (by lia),Wr hi];rfl
  ·rw[if_neg hi,List.getElem?_eq_none (by simpa using hi)];rfl
 simp only[y0,Qt,yd,yp,e,qd]
theorem ybN(c:String)(Ks:List (List (Int×Int)))(ok:Ybw Ks){W:String->List MV->MH->R MV}{k:MSt->MH->RS}{Q:RS->Prop}(a0 a1 a2 a3:Option MV)
  (fin:∀ z5,Q (k [a0,a1,a2,a3,some (.ref h.length),z5] (h++[.msk (YQ Ks)]))) :
  Q ((Qaf [] (QX (.nm 5) (Qb prog W [.expr (.tx2 .upd (.var 4) (.fld (.var 5) "mask"))])) ((lsK c Ks).map MV.f) [a0,a1,a2,a3,some (.ref h.length),none] (h++[.msk []])).bind k):=by
 unfold lsK;rw[ug];refine Zbr (e:=λi=>MV.f (yh (Ks.drop i) (zc c))) (uc Ks.length) (λi σ hh=>i<=Ks.length/\hh=h++[.msk (YQ (Ks.take i))]/\∃ z5,σ=[a0,a1,a2,a3,some (.ref h.length),z5]) ⟨by lia,rfl,none,rfl⟩ ?_ ?_
 ·rintro i y σ hh hy ⟨hil,rfl,z5,rfl⟩ Q hQ;have hi:i<Ks.length:=by simpa using(Xa.mp hy).1
  obtain rfl:i=y:=by rw[Wr hi] at hy;cases hy;rfl
  obtain⟨s1,s2,s3⟩:=ok.2 Ks[i] (Ut hi);have la:(YQ (Ks.take i)).length<=10000:=by
   have:=ycy (Ks.take i) (λk hk=>(ok.2 k (List.mem_of_mem_take hk)).2.2) [];have q:=ok.1;simp only[Vm,Vl] at this;unfold YQ;have:min i Ks.length<=10:=by lia
   lia
  have U:=zci h (YQ (Ks.take i)) Ks[i] s1 s2 (by lia);rw[<- Qb5 hi] at U;have m1:=zaY Ks (zc c) i hi;have f1:∀ hh,zbv prog.fok "mask" (.f (yh (Ks.drop i) (zc c))) hh=some (.f (.msk Ks[i])):=λhh=>by rw[m1];simp[zbv,yI]
  have c0:QL (h++[.msk (YQ (Ks.take i))]) (.ref h.length)=some (YQ (Ks.take i)):=by simp[QL]
  generalize yh (Ks.drop i) (zc c)=cv at *;simp[QX,c0,f1,YO,U];exact hQ _ _ ⟨by lia,rfl,_,rfl⟩
 ·rintro σ hh ⟨_,rfl,z5,rfl⟩;rw[WC,wm];exact fin z5
theorem ZY(c f:String)(hc:zH c)(mo:prog.meths c "order"=some f)(H W:Nat)(cs:List (Nat×Nat))(hl:cs.length<=100000)(O:∀ h,run prog (n+4) f [.f (zc c),I H,I W] h=.ok (.ref h.length) (h++[.lst ((cs.map Za).map .f)]))
  (Ks:List (List (Int×Int))) (ok:Ybw Ks):run prog (n+5) "MaskedWay.order" [.f (yh Ks (zc c)),I H,I W] h=.ok (.ref h.length) (h++[.lst (((cs.filter λc=>decide (cZ c∉YQ Ks)).map Za).map .f)]):=by
 suffices Ret (run prog (n+5) "MaskedWay.order" [.f (yh Ks (zc c)),I H,I W] h) λv h'=>v=.ref h.length/\h'=h++[.lst (((cs.filter λc=>decide (cZ c∉YQ Ks)).map Za).map .f)] by
  obtain⟨v,h',e,rfl,rfl⟩:=this;exact e
 refine Ret.of λQ hQ=>?_;have WW:=yG (n+3) h c hc Ks (by have:=ok.1;lia);have cm:∀ hh,QF "order" (.f (zc c)) hh=some c:=λhh=>by simp[QF,zc]
 have sl:=qaW c Ks;have a2:atM ((qj Ks (zc c)).map MV.f) (-1)=some (.f (zc c)):=by
  have e:=YL Ks (zc c) Ks.length (by lia);rw[show Ks.length+1=(qj Ks (zc c)).length from(yB _ _).symm,wm,xo] at e;rw[e,xg];exact yac _ _
 have s1:∀ hh,itV "seq" [.f (.lst (lsK c Ks))] hh=some ((lsK c Ks).map .f,[]):=λhh=>rfl;have q1:∀ hh,yd hh (.f (.lst (qj Ks (zc c))))=some ((qj Ks (zc c)).map .f):=λhh=>rfl;have O1:=O (h++[Cell.msk (YQ Ks)]);obtain⟨t',F⟩:=zaw (h++[Cell.msk (YQ Ks)]) [] (cs.map Za);have it:∀ hh,itV "seq" [.f (.lst (cs.map Za))] hh=some (cs.map λc=>MV.f (Za c),[]):=λhh=>by
  have q:yd hh (.f (.lst (cs.map Za)))=some (cs.map λc=>MV.f (Za c)):=by simp[Xc]
  have g:zd hh (.f (.lst (cs.map Za)))=[]:=rfl;simp only[itV,q,ui,g]
 have UA:=@ybN h c Ks ok;generalize YQ Ks=ks at *;generalize lsK c Ks=LK at *;generalize qj Ks (zc c)=TV at *;generalize yh Ks (zc c)=mv at *;generalize zc c=wv at *;have cM:QL ((h++[Cell.msk ks])++t') (.ref h.length)=some ks:=by simp[QL]
 have sz:cs.length<=sizeL:=by rw[Qc];lia
 have lv:Yu h (.ref ((h++[Cell.msk ks])++t').length) (((h++[Cell.msk ks])++t')++[.lst (((cs.filter λc=>decide (cZ c∉ks)).map Za).map .f)])=.ok (.ref h.length) (h++[.lst (((cs.filter λc=>decide (cZ c∉ks)).map Za).map .f)]):=by
  have cl:=Yn ((h++[Cell.msk ks])++t') [] (((cs.filter λc=>decide (cZ c∉ks)).map Za).map MV.f);have tr:TrOk h (((h++[Cell.msk ks])++t')++[.lst (((cs.filter λc=>decide (cZ c∉ks)).map Za).map MV.f)]):=by rw[vf,vf];exact TrOk.app h _
  have ef:=QS ((cs.filter λc=>decide (cZ c∉ks)).map Za);generalize ((cs.filter λc=>decide (cZ c∉ks)).map Za).map MV.f=M at *;have tk:(((h++[Cell.msk ks])++t')++[Cell.lst M]).take h.length=h:=by rw[vf,vf,Xy];rfl
  unfold Yu;rw[if_pos tr];simp only;rw[if_pos (by simp),cl];simp only[ef,tk]
 generalize hcl:FV.lst (cs.map Za)=cl at *;rw[zJ];simp only[d_MaskedWay_order];simp only[vf] at O1 F cM lv;simp at O1 F cM lv;simp[WW,sl,s1];refine UA (Q:=λr=>Ret (zg h r) Q) _ _ _ _ λz5=>?_;simp[q1,a2,cm,mo,O1,F,it,MP.stM];have nin:∀ c:Nat×Nat,Qa9 (.f (Za c)) (.ref h.length) (h++Cell.msk ks::t')=.ok (.f (.bl (decide (cZ c∉ks)))) (h++Cell.msk ks::t'):=λc=>by
  have e:YaU (.f (Za c))=some (cZ c):=rfl;simp only[Qa9,e,cM,yp]
 rw[zaE (QO _) (e:=λc=>MV.f (Za c)) (g:=λc=>MV.f (Za c)) (t:=λc=>decide (cZ c∉ks)) (caps:=[some (.ref h.length)]) cs [] none (by simpa using sz) (λc _ z=>⟨some (.f (Za c)),by
  have nc:=nin c;generalize Za c=cn at nc;by_cases q:cZ c∈ks
  ·simp[q] at nc;simp[yn,nc,q]
  ·simp[q] at nc;simp[yn,nc,q]⟩)]
 have e2:(cs.filter λc=>decide (cZ c∉ks)).map (λc=>MV.f (Za c))=((cs.filter λc=>decide (cZ c∉ks)).map Za).map MV.f:=by simp[Xc]
 rw[Wg,R.bind_ok,e2];simp at hQ ⊢;rw[lv];simpa using hQ
theorem zaG(c f:String)(hc:zH c)(mo:prog.meths c "order"=some f)(a b:Int)(O:∀ h,run prog (n+4) f [.f (zc c),I a,I b] h=.exc "OutOfPicture" h)(Ks:List (List (Int×Int)))(ok:Ybw Ks) :
  run prog (n+5) "MaskedWay.order" [.f (yh Ks (zc c)),I a,I b] h=.exc "OutOfPicture" h:=by
 have WW:=yG (n+3) h c hc Ks (by have:=ok.1;lia);have cm:∀ hh,QF "order" (.f (zc c)) hh=some c:=λhh=>by simp[QF,zc]
 have sl:=qaW c Ks;have a2:atM ((qj Ks (zc c)).map MV.f) (-1)=some (.f (zc c)):=by
  have e:=YL Ks (zc c) Ks.length (by lia);rw[show Ks.length+1=(qj Ks (zc c)).length from(yB _ _).symm,wm,xo] at e;rw[e,xg];exact yac _ _
 have s1:∀ hh,itV "seq" [.f (.lst (lsK c Ks))] hh=some ((lsK c Ks).map .f,[]):=λhh=>rfl;have q1:∀ hh,yd hh (.f (.lst (qj Ks (zc c))))=some ((qj Ks (zc c)).map .f):=λhh=>rfl;have O1:=O (h++[Cell.msk (YQ Ks)]);have UA:=@ybN h c Ks ok;generalize YQ Ks=ks at *;generalize lsK c Ks=LK at *;generalize qj Ks (zc c)=TV at *;generalize yh Ks (zc c)=mv at *;generalize zc c=wv at *;have lx:QG h "OutOfPicture" (h++[Cell.msk ks])=.exc "OutOfPicture" h:=by
  unfold QG;rw[if_pos (TrOk.app h _)];simp
 rw[zJ];simp only[d_MaskedWay_order];simp[WW,sl,s1];refine UA (Q:=λr=>zg h r=R.exc "OutOfPicture" h) _ _ _ _ λz5=>?_;simp[q1,a2,cm,mo,O1,lx]
end
section
variable (n:Nat) (h:MH)
theorem qaT(ns:List Int)(k:Int)(hk:0<=k)(hk2:k<1000000):run prog (n+1) "_law_next" [.f (.scr ns),.ref 0] (atC k::h)=.ok (I (ybx ns (k+1))) (atC (k+1)::h):=by
 have m1:ZaJ (k+1) (k+1):=QC (by lia);have m2:∀ x,ZaJ x 7919:=λx=>QC (by decide);have m3:∀ x,ZaJ x 48271:=λx=>QC (by decide);have m4:∀ x:Int,ZaJ (x%2147483647) (x%2147483647):=λx=>QC (by have:=Xv x (show(2147483647:Int)≠0 by decide);have:=Xs x (show(0:Int)<2147483647 by decide);lia);simp only[qi,ya7,yp,yP];by_cases hn:ns=[]
 ·subst hn;simp[zad,Yr,m1,m2,m3,m4,ixM,ybx,YaY]
 ·have hl:0<ns.length:=List.length_pos_iff.mpr hn;have e1:atM (ns.map λi=>MV.f (.int i)) ((k+1)%ns.length)=some (I (YaY ns (k+1))):=by
   have h0:0<=(k+1)%(ns.length:Int):=Xv _ (by lia);have h1:(k+1)%(ns.length:Int)<ns.length:=Xs _ (by lia);rw[Zcw _ _ h0,Uf,Xf (by lia)];simp[YaY,hn,List.getD,Xf (show((k+1)%(ns.length:Int)).toNat<ns.length by lia)]
  simp[zad,Yr,m1,m2,m3,m4,ixM,ybx,hl,e1]
end
theorem ZM(n:Nat)(h:MH):∀(d:Nat)(x:FV),isQ d x=true->run prog (n+d) "_law_same" [.f x,.f x] h=.ok (B true) h
 |0,x,e=>by cases x <;> simp[isQ] at e
 |d+1,x,e=>by
  rw[show n+(d+1)=(n+d)+1 from rfl,qak];simp only[d__law_same];cases x with
  |non=>simp[isQ] at e
  |bl b=>simp[isQ] at e
  |int i=>simp
  |str s=>simp[isQ] at e;simp[zbj _ _ e e]
  |tup xs =>
   simp[isQ] at e;simp[Qaw,Xc,MP.stM];rw[Qu (e:=λx=>MV.f (.tup [x,x])) (g:=λ_=>B true) (caps:=[]) xs [] none none (by simpa using e.1) (λy hy z w=>⟨some (.f y),some (.f y),by simp[yn,ZM n h d y (e.2 y hy)]⟩)];simp[Xc]
  |lst xs =>
   simp[isQ] at e;simp[Qaw,Xc,MP.stM];rw[Qu (e:=λx=>MV.f (.tup [x,x])) (g:=λ_=>B true) (caps:=[]) xs [] none none (by simpa using e.1) (λy hy z w=>⟨some (.f y),some (.f y),by simp[yn,ZM n h d y (e.2 y hy)]⟩)];simp[Xc]
  |obj c ns vs=>simp[isQ] at e
  |scr ns=>simp[isQ] at e
  |tab ns=>simp[isQ] at e
  |msk ns=>simp[isQ] at e
section
variable (n:Nat) (h:MH)
theorem Yci{a:Nat}{xs:List MV}(e:yg h a=some xs)(t:String):zS prog.subs h (.ref a) t=some (decide (t="list")):=by
 unfold yg at e;split at e
 ·next w=>simp[zS,w]
 ·cases e
theorem Zbm(d:Nat)(a:Nat)(xs:List FV)(e:yg h a=some (xs.map .f))(hl:xs.length<=sizeL)(hq:∀ x∈xs,isQ d x=true):run prog (n+d+1) "_law_same" [.ref a,.f (.lst xs)] h=.ok (B true) h:=by
 have i1:=Yci h e;have gr:zd h (.ref a)=[(a,xs.map .f)]:=by simp[zd,e]
 have zs:List.map (λp:MV×MV=>qp [p.1,p.2]) ((xs.map MV.f).zip (xs.map MV.f))=xs.map λi=>MV.f (.tup [i,i]):=by
  rw[Qaw,ug,ug];rfl
 have gk:=Zbv e;have q:yd h (.f (.lst xs))=some (xs.map .f):=rfl;have ln:(xs.map MV.f).length=xs.length:=by simp
 have iv:∀ t,zS prog.subs h (.f (.lst xs)) t=some (decide (t="list")):=λt=>rfl;have gq:zd h (.f (.lst xs))=[]:=rfl;generalize hv:FV.lst xs=v at *;generalize hm:xs.map MV.f=M at *;rw[qak];simp only[d__law_same];simp[i1,iv,e,q,gr,gq,ln,zs,MP.stM];rw[qaV gk (e:=λi=>MV.f (.tup [i,i])) (g:=λ_=>B true) (caps:=[]) xs [] none none (by simpa using hl) (λi hi z w=>⟨some (.f i),some (.f i),by simp[yn,ZM n h d i (hq i hi)]⟩)];simp[Xc]
end
theorem Zby(p:Nat×Nat):isQ 2 (Za p)=true:=by simp[isQ,Qc]
theorem Qac(O:List (Nat×Nat))(hl:O.length<=sizeL):isQ 3 (.lst (O.map Za))=true:=by
 simp only[isQ,vc,Wa,decide_eq_true_eq,uk];refine⟨hl,λx hx=>?_⟩;obtain⟨p,_,rfl⟩:=Vj.mp hx;exact Zby p
end MP
end
section
namespace MP
open PySem
noncomputable abbrev S(a:String):FV:=.str (Str.ofString a)
section
variable (n:Nat) (h:MH)
noncomputable def Yv(c:String):String:=if c="Way" then "rows" else if c="FroWay" then "fro" else if c="ColumnWay" then "columns" else "folded"
theorem zaQ(c:String)(hc:zH c):∃ f,prog.meths c "word"=some f/\∀ n h w,run prog (n+1) f [w] h=.ok (.f (S (Yv c))) h:=by
 rcases hc with rfl|rfl|rfl|rfl
 ·exact⟨"Way.word",rfl,λn h w=>by rw[Qbm];simp only[d_Way_word];simp[Yv]⟩
 ·exact⟨"FroWay.word",rfl,λn h w=>by rw[ZaN];simp only[d_FroWay_word];simp[Yv]⟩
 ·exact⟨"ColumnWay.word",rfl,λn h w=>by rw[Qan];simp only[d_ColumnWay_word];simp[Yv]⟩
 ·exact⟨"FoldedWay.word",rfl,λn h w=>by rw[zar];simp only[d_FoldedWay_word];simp[Yv]⟩
theorem Y8(c:String)(hc:zH c)(Ks:List (List (Int×Int)))(hl:Ks.length<=10) :
  run prog (n+2) "MaskedWay.word" [.f (yh Ks (zc c))] h=.ok (.f (.str (Txt.mul (Str.ofString "masked ") (Ks.length:Int)++Str.ofString (Yv c)))) h:=by
 have WW:=yG n h c hc Ks (by lia);have cm:∀ hh,QF "word" (.f (zc c)) hh=some c:=λhh=>by simp[QF,zc]
 have a2:atM ((qj Ks (zc c)).map MV.f) (-1)=some (.f (zc c)):=by
  have e:=YL Ks (zc c) Ks.length (by lia);rw[show Ks.length+1=(qj Ks (zc c)).length from(yB _ _).symm,wm,xo] at e;rw[e,xg];exact yac _ _
 have q1:∀ hh,yd hh (.f (.lst (qj Ks (zc c))))=some ((qj Ks (zc c)).map .f):=λhh=>rfl;have ln:((qj Ks (zc c)).map MV.f).length=Ks.length+1:=by simp[yB]
 obtain⟨f,mo,Wd⟩:=zaQ c hc;have Wd:=Wd n h (.f (zc c));have hw:(Str.ofString (Yv c)).length<=10:=by rcases hc with rfl|rfl|rfl|rfl <;> decide +kernel
 have r1:∀ k:Nat,k<=10->(Txt.mul (Str.ofString "masked ") (k:Int)).length<=100:=by decide +kernel
 have r1:=r1 Ks.length hl;have rp:∀ hh,YO .rep (.f (S "masked ")) (I (Ks.length:Int)) hh=.ok (.f (.str (Txt.mul (Str.ofString "masked ") (Ks.length:Int)))) hh:=λhh=>by
  simp only[YO,Zl,Ze,yp];rw[if_pos ⟨by lia,by lia,by decide +kernel⟩]
 generalize Txt.mul (Str.ofString "masked ") (Ks.length:Int)=T at *;have ct:∀ hh,YO .cat (.f (.str T)) (.f (S (Yv c))) hh=.ok (.f (.str (T++Str.ofString (Yv c)))) hh:=λhh=>by
  simp only[YO,Zl,yp];rw[if_pos (by rw[Qc];lia)]
 have sb:∀ hh,Qi true .sub (I ((Ks.length+1:Nat):Int)) (I 1) hh=.ok (I (Ks.length:Int)) hh:=λhh=>by rw[YbM];congr 3;lia
 generalize yh Ks (zc c)=mv at *;generalize qj Ks (zc c)=TV at *;generalize zc c=wv at *;generalize Ks.length=L at *;rw[Zap];simp only[d_MaskedWay_word];simp at sb ln;simp[WW,q1,ln,sb,rp,a2,cm,mo,Wd,ct,Zl]
theorem ya5(w:FV)(v:MV)(G:ZE)(ms:List (Int×Int))(hl:ms.length<=1000)(it:∀ g:MH,itV "seq" [v] (h++g)=some (ms.map λc=>MV.f (qb c),G))(gk:∀ g,GuardOk G (h++g)) :
  run prog (n+1) "MaskedWay.__init__" [.ref h.length,.f w,v] (h++[.obj "MaskedWay" []])=.ok (.f .non) (h++[.obj "MaskedWay" [("way",.f w),("mask",.f (.msk (ms.foldl qm [])))]]):=by
 have sz:ms.length<=sizeL:=by rw[Qc];lia
 have mm:∀ l:List (Int×Int),(l.map λc=>MV.f (.tup [qb c,.bl true])).mapM zba=some l:=by
  intro l
  induction l with
  |nil=>rfl
  |cons c l ih =>
   have e:zba (MV.f (.tup [qb c,.bl true]))=some c:=rfl;rw[Xd,Wm,e,ih];rfl
 have mo:∀ g:MH,ybL (.ref g.length) (g++[.lst (ms.map λc=>MV.f (.tup [qb c,.bl true]))])=.ok (.f (.msk (ms.foldl qm []))) (g++[.lst (ms.map λc=>MV.f (.tup [qb c,.bl true]))]):=λg=>by
  have cl:=Yn g [] (ms.map λc=>MV.f (.tup [qb c,.bl true]));simp only[ybL,cl,yp,mm];rw[if_pos (by rw[vc];lia)]
 have t:=TrOk.obj h "MaskedWay" [("way",w),("mask",.msk (ms.foldl qm []))] [.lst (ms.map λc=>MV.f (.tup [qb c,.bl true]))];have m1:=mo (h++[.obj "MaskedWay" [("way",.f w)]]);have gk1:=gk [.obj "MaskedWay" [("way",.f w)]];have it1:=it [.obj "MaskedWay" [("way",.f w)]];generalize ms.foldl qm []=ks at *;rw[ZX];simp only[d_MaskedWay___init__];simp[it1,MP.stM];rw[ZaT gk1 (e:=λc=>MV.f (qb c)) (g:=λc=>MV.f (.tup [qb c,.bl true])) ms [] none (by simpa using sz) (λc _ z=>⟨some (.f (qb c)),by simp[yn,qp,Qx]⟩)];simp only[Wg,R.bind_ok,Qa0];generalize (ms.map λc=>MV.f (.tup [qb c,.bl true]))=M at *;have tk:∀(a b:Cell),(h++[a,b]).take (h.length+1)=h++[a]:=λa b=>by rw[show h++[a,b]=(h++[a])++[b] by simp,Xy (by simp)]
 simp at m1 t;simp[m1,Yu,t,tk]
theorem Zba(w:FV)(v:MV)(G:ZE)(ms:List (Int×Int))(hl:ms.length<=1000)(it:∀ g:MH,itV "seq" [v] (h++g)=some (ms.map λc=>MV.f (qb c),G))(gk:∀ g,GuardOk G (h++g)) :
  Qak prog (run prog (n+1)) true "MaskedWay" [.f w,v] h=.ok (.f (yI w (ms.foldl qm []))) h:=by
 have R:=ya5 n h w v G ms hl it gk;generalize ms.foldl qm []=ks at *;simp[Qak,R,TrOk.app,yI,Qx]
theorem q_rc:eqF (S "rows") (S "columns")=some false:=zbN (by decide +kernel) (by decide +kernel) (by decide +kernel)
theorem q_rf:eqF (S "rows") (S "fro")=some false:=zbN (by decide +kernel) (by decide +kernel) (by decide +kernel)
section
variable (H W:Nat) (h1:1<=H) (h2:1<=W) (hHW:H*W<=10000) (hW:W<=10000) (hH:H<=10000)
include h1 h2 hHW hW hH
theorem zbi(t:FV)(b:Bool)(e1:eqF t (S "columns")=some false)(e2:eqF t (S "fro")=some b):run prog (n+1) "_law_order" [I H,I W,.f t] h=.ok (.f (.lst ((if b=true then zZ H W else Qd H W).map Za))) h:=by
 obtain⟨K,hK⟩:∃ K,H*W=K:=⟨_,rfl⟩;have mu:∀ hh,Qi true .mul (I H) (I W) hh=.ok (I K) hh:=λhh=>by rw[zad _ _ _ (.inl (by lia)),<- hK,Int.natCast_mul]
 have md:∀(k:Nat) hh,Qi true .mod (I k) (I W) hh=.ok (I ((k%W:Nat):Int)) hh:=λk hh=>by rw[Yr _ _ _ (by lia)];rfl
 have dv:∀(k:Nat) hh,Qi true .fdiv (I k) (I W) hh=.ok (I ((k/W:Nat):Int)) hh:=λk hh=>by rw[zA _ _ _ ⟨by lia,.inl (by lia)⟩];rfl
 have d2:∀(k:Nat) hh,Qi true .mod (I k) (I 2) hh=.ok (I ((k%2:Nat):Int)) hh:=λk hh=>by rw[Yr _ _ _ (by lia)];rfl
 have rl:(Qd H W).length<=sizeL:=by rw[yz,Qc];lia
 have mem:∀ p∈Qd H W,p.2<W:=λp hp=>by
  unfold Qd at hp;obtain⟨r,_,hp⟩:=Vt.mp hp;obtain⟨c,hc,rfl⟩:=Vj.mp hp;exact wq.mp hc
 rw[zaR];simp only[d__law_order];simp[e1,mu,YK _ (K:Int) (by lia),MP.stM];rw[Qad (e:=λk:Nat=>I k) (g:=λk=>MV.f (Za (k/W,k%W))) (uc K) [] none (by simp[Qc];lia) (λk _ z=>⟨some (I k),by simp[yn,md,dv]⟩)];have e3:(uc K).map (λk=>MV.f (Za (k/W,k%W)))=((Qd H W).map Za).map MV.f:=by rw[<- qbI H W h2,hK];simp[Xc]
 simp only[Wg,R.bind_ok,e3,qd];have hq:∀ hh,yd hh (.f (.lst ((Qd H W).map Za)))=some ((Qd H W).map λp=>MV.f (Za p)):=λhh=>by simp[Xc]
 have gq:∀ hh,zd hh (.f (.lst ((Qd H W).map Za)))=[]:=λhh=>rfl;cases b with
 |false =>
  generalize hv:FV.lst ((Qd H W).map Za)=v at *;simp[e2,hv]
 |true =>
  generalize hv:FV.lst ((Qd H W).map Za)=v at *;simp[e2,hq,gq,MP.stM];rw[Qu (e:=λp:Nat×Nat=>MV.f (Za p)) (g:=λp=>MV.f (Za (p.1,if p.1%2=0 then p.2 else W-1-p.2))) (Qd H W) [] none none (by simpa using rl) (λp hp z w=>⟨some (I p.1),some (I p.2),by
   have:=mem p hp;by_cases c:p.1%2=0
   ·have c':((p.1%2:Nat):Int)=0:=by lia
    simp only[c,if_true];simp[yn,d2,c']
   ·have c':¬((p.1%2:Nat):Int)=0:=by lia
    have c2:¬((p.1:Int)%2=0):=by lia
    have e5:(W:Int)-1-(p.2:Int)=((W-1-p.2:Nat):Int):=by lia
    generalize W-1-p.2=q at *;simp only[c,if_false];simp[yn,d2,c',c2,e5]⟩)]
  have e4:(Qd H W).map (λp=>MV.f (Za (p.1,if p.1%2=0 then p.2 else W-1-p.2)))=((zZ H W).map Za).map MV.f:=by rw[<- zb0];simp[Xc]
  simp only[Wg,R.bind_ok,e4,qd];simp
end
end
end MP
end
section
namespace MP
open PySem
section
variable (n:Nat) (h:MH)
noncomputable def qbl(H W:Nat)(ms:List (Int×Int)):Prop:=∀ c∈ms,(-1<=c.1/\c.1<=H)/\-1<=c.2/\c.2<=W
theorem Qay(ns:List Int)(k:Int)(hk:0<=k)(hk2:k<900000)(H W:Nat)(h1:1<=H)(h2:1<=W)(hH:H<=8)(hW:W<=24) :
  Ret (run prog (n+2) "_law_mask" [.f (.scr ns),.ref 0,I H,I W] (atC k::h)) λv h'=>∃ ms kk,qbl H W ms/\ms.length<=300/\k<=kk/\kk<=k+10/\v=.f (.lst (ms.map qb))/\h'=atC kk::h:=by
 have hb:H*W<=8*24:=Nat.mul_le_mul hH hW;refine Ret.of λQ hQ=>?_;have N0:=qaT n h ns k hk (by lia);have hd:=ybm ns (k+1);generalize ybx ns (k+1)=x at N0 hd;have m7:∀ hh,Qi true .mod (I x) (I 7) hh=.ok (I (x%7)) hh:=λhh=>Yr _ _ _ (by decide);have d7:∀ hh,Qi true .fdiv (I x) (I 7) hh=.ok (I (x/7)) hh:=λhh=>zA _ _ _ ⟨by decide,.inl (by decide)⟩;have m9:∀ y hh,Qi true .mod (I y) (I 9) hh=.ok (I (y%9)) hh:=λy hh=>Yr _ _ _ (by decide);rw[qa4];simp only[d__law_mask];by_cases c:x%7=0
 ·have O:=zbi n (atC (k+1)::h) H W h1 h2 (by lia) (by lia) (by lia) (S "rows") false q_rc q_rf;simp only[xj,if_false] at O;have hq:∀ hh,yd hh (.f (.lst ((Qd H W).map Za)))=some ((Qd H W).map λp=>MV.f (Za p)):=λhh=>by simp[Xc]
  have gq:∀ hh,zd hh (.f (.lst ((Qd H W).map Za)))=[]:=λhh=>rfl;have sz:(Qd H W).length<=sizeL:=by rw[yz,Qc];lia
  have hQ:=hQ (.f (.lst (((Qd H W).map cZ).map qb))) _ ⟨(Qd H W).map cZ,k+1,λp hp=>by
   obtain⟨q,hq,rfl⟩:=Vj.mp hp;have:=Zcn hq;simp only[cZ]
   lia,by rw[vc,yz];lia,by lia,by lia,rfl,rfl⟩
  have e0:((Qd H W).map cZ).map qb=(Qd H W).map Za:=by rw[ug];rfl
  rw[e0] at hQ;generalize hv:FV.lst ((Qd H W).map Za)=v at *;simp[N0,m7,c,O,hq,gq,MP.stM];rw[Qu (e:=λp:Nat×Nat=>MV.f (Za p)) (g:=λp=>MV.f (Za p)) (caps:=[]) (Qd H W) [] none none (by simpa using sz) (λp _ z w=>⟨some (I p.1),some (I p.2),by simp[yn]⟩)];have e2:(Qd H W).map (λp=>MV.f (Za p))=((Qd H W).map Za).map MV.f:=by simp[Xc]
  simp only[Wg,R.bind_ok,e2,qd];simp[hv];exact hQ
 ·have hr:=mod_lt (x/7) 9 (by decide);obtain⟨R,hR⟩:=Xl hr.1;simp[N0,m7,c,d7,m9,hR,YK _ (R:Int) (by lia)];refine YaE (Q:=λr=>Ret (zg _ r) _) R (λi σ hh=>∃(ms:List (Int×Int)) (z6 z7:Option MV),qbl H W ms/\ms.length<=2*i/\hh=atC (k+1+i)::(h++[Cell.lst ((ms.map qb).map MV.f)])/\σ=[some (.f (.scr ns)),some (.ref 0),some (I H),some (I W),some (I x),some (.ref (h.length+1)),z6,z7])
   ⟨[],none,none,(λc hc=>by cases hc),by simp,by simp,rfl⟩ ?_ ?_
  ·rintro i σ hh hi ⟨ms,z6,z7,nr,ml,rfl,rfl⟩ Q hQ;have N:=qaT n (h++[.lst ((ms.map qb).map .f)]) ns (k+1+i) (by lia) (by lia);have hd:=ybm ns (k+1+i+1);generalize ybx ns (k+1+i+1)=y at N hd;have a1:=mod_lt y ((H:Int)+2) (by lia);have a2:=mod_lt (y/100) ((W:Int)+2) (by lia);have p1:∀ hh,Qi true .add (I H) (I 2) hh=.ok (I ((H:Int)+2)) hh:=λhh=>ybg ..;have p2:∀ hh,Qi true .add (I W) (I 2) hh=.ok (I ((W:Int)+2)) hh:=λhh=>ybg ..;have q1:∀ hh,Qi true .mod (I y) (I ((H:Int)+2)) hh=.ok (I (y%((H:Int)+2))) hh:=λhh=>Yr _ _ _ (by lia);have q2:∀ hh,Qi true .mod (I (y/100)) (I ((W:Int)+2)) hh=.ok (I (y/100%((W:Int)+2))) hh:=λhh=>Yr _ _ _ (by lia);have q3:∀ hh,Qi true .fdiv (I y) (I 100) hh=.ok (I (y/100)) hh:=λhh=>zA _ _ _ ⟨by decide,.inl (by decide)⟩;have q4:∀ z hh,Qi true .sub (I z) (I 1) hh=.ok (I (z-1)) hh:=λz hh=>YbM ..;have q5:∀ hh,Qi true .fdiv (I y) (I 9000) hh=.ok (I (y/9000)) hh:=λhh=>zA _ _ _ ⟨by decide,.inl (by decide)⟩;have q6:∀ z hh,Qi true .mod (I z) (I 4) hh=.ok (I (z%4)) hh:=λz hh=>Yr _ _ _ (by decide);have q7:∀ hh,Qi true .fdiv (I y) (I 40000) hh=.ok (I (y/40000)) hh:=λhh=>zA _ _ _ ⟨by decide,.inl (by decide)⟩;have q8:∀(m:Nat) hh,0<m->Qi true .mod (I (y/40000)) (I m) hh=.ok (I (y/40000%m)) hh:=λm hh hm=>Yr _ _ _ (by lia);obtain⟨c1,e1⟩:∃ c1:Int×Int,c1=(y%((H:Int)+2)-1,y/100%((W:Int)+2)-1):=⟨_,rfl⟩;have ev:(FV.tup [.int (y%((H:Int)+2)-1),.int (y/100%((W:Int)+2)-1)])=qb c1:=by rw[e1]
   have nr1:qbl H W (ms++[c1]):=λp hp=>by
    rcases Uh.mp hp with hp|hp
    ·exact nr p hp
    ·obtain rfl:=va.mp hp;rw[e1];simp only;lia
   have cl:∀(k:Int) M,yg (atC k::(h++[.lst M])) (h.length+1)=some M:=λk M=>Yn (atC k::h) [] M;have st:∀(k:Int) M ys,yj (atC k::(h++[.lst M])) (h.length+1) ys=atC k::(h++[.lst ys]):=λk M ys=>Zz (atC k::h) [] M ys;have l0:((ms.map qb).map MV.f).length<sizeL:=by simp[Qc];lia
   have ea:∀(l:List (Int×Int)) p,(l.map qb).map MV.f++[MV.f (qb p)]=((l++[p]).map qb).map MV.f:=λl p=>by simp
   have l1:(((ms++[c1]).map qb).map MV.f).length=ms.length+1:=by simp
   have kz:(k+1+(i:Int)+1)=k+1+((i+1:Nat):Int):=by push_cast;lia
   have ea1:=ea ms c1;have sq:∀(k:Int) M,yd (atC k::(h++[.lst M])) (.ref (h.length+1))=some M:=λk M=>cl k M;by_cases c4:y/9000%4=0
   ·have b:=mod_lt (y/40000) ((ms.length+1:Nat):Int) (by lia);obtain⟨j,hj⟩:=Xl b.1;have hjl:j<(ms++[c1]).length:=by simp;lia
    have ga:atM (((ms++[c1]).map qb).map MV.f) (j:Int)=some (.f (qb (ms++[c1])[j])):=by
     rw[qat];simp only[Uf,Xf hjl,ui]
    have nr2:qbl H W ((ms++[c1])++[(ms++[c1])[j]]):=λp hp=>by
     rcases Uh.mp hp with hp|hp
     ·exact nr1 p hp
     ·obtain rfl:=va.mp hp;exact nr1 _ (Ut hjl)
    have ea2:=ea (ms++[c1]) (ms++[c1])[j];have Q8:=λhh=>q8 (ms.length+1) hh (by lia);rw[hj] at Q8;have l1':ms.length+1<sizeL:=by rw[Qc];lia
    have l2:(((ms++[c1])++[(ms++[c1])[j]]):List (Int×Int)).length<=2*(i+1):=by simp;lia
    generalize ((ms++[c1])++[(ms++[c1])[j]])=ms2 at *;generalize (ms++[c1])[j]=c2 at *;generalize hM2:(ms2.map qb).map MV.f=M2 at *;generalize hM1:((ms++[c1]).map qb).map MV.f=M1 at *;generalize hM0:(ms.map qb).map MV.f=M0 at *;generalize hcv:qb c1=cv at *;generalize qb c2=cv2 at *;simp at Q8;simp[QX,N,p1,p2,q1,q2,q3,q4,q5,q6,q7,c4,cl,st,ev,l0,ea1,l1,Q8,ga,l1',ea2,sq];rw[kz];exact hQ _ _ ⟨ms2,_,_,nr2,l2,by rw[hM2],rfl⟩
   ·have l2:(ms++[c1]).length<=2*(i+1):=by simp;lia
    generalize (ms++[c1])=ms1 at *;generalize hM1:(ms1.map qb).map MV.f=M1 at *;generalize hM0:(ms.map qb).map MV.f=M0 at *;generalize hcv:qb c1=cv at *;simp[QX,N,p1,p2,q1,q2,q3,q4,q5,q6,c4,cl,st,ev,l0,ea1];rw[kz];exact hQ _ _ ⟨ms1,_,_,nr1,l2,by rw[hM1],rfl⟩
  ·rintro σ hh ⟨ms,z6,z7,nr,ml,rfl,rfl⟩;obtain⟨t',F⟩:=zaw (atC (k+1+R)::h) [] (ms.map qb);have hQ:=hQ _ _ ⟨ms,k+1+R,nr,by lia,by lia,by lia,rfl,rfl⟩;generalize FV.lst (ms.map qb)=v at *;simp at F;simp[F];exact hQ
theorem Qar(w:FV)(cls:String)(cm:∀ hh,QF "order" (.f w) hh=some cls)(f:String)(mo:prog.meths cls "order"=some f)(a b:Int)(O:run prog (n+5) f [.f w,I a,I b] h=.exc "OutOfPicture" h):run prog (n+6) "_law_no_order" [.f w,I a,I b] h=.ok (B true) h:=by
 have eo:eqF (FV.str (Str.ofString "out")) (FV.str (Str.ofString "out"))=some true:=by rw[zbj _ _ (by decide +kernel) (by decide +kernel)];simp
 rw[QaA];simp only[d__law_no_order];simp[cm,mo,O,eo]
end
end MP
end
section
namespace MP
open PySem
noncomputable def qbu:Option MS->List MS
 |some (.for_ _ _ _ b)=>b
 |_=>[]
theorem yA(tg:Tg)(it:String)(src:List ME)(b:List MS):qbu (some (.for_ tg it src b))=b:=rfl
theorem Zci(h:MH)(a:Nat):lmV "reverse" (.ref a) [] h=opt (yg h a) λxs=>.ok (.f .non) (yj h a xs.reverse):=rfl
theorem qch(c:Int×Int):∀ ms:List (Int×Int),((ms.map qb).any λy=>eqD y (qb c))=decide (c∈ms)
 |[]=>rfl
 |p::ms=>by
  rw[Xd,Uz,qch c ms];have e:eqD (qb p) (qb c)=decide (c=p):=by
   obtain⟨a,b⟩:=p;obtain⟨a',b'⟩:=c;simp only[qb,eqD,yaT,Bool.and_true,Prod.mk.injEq];rw[Uo];simp;constructor
   ·rintro⟨rfl,rfl⟩;exact⟨rfl,rfl⟩
   ·rintro⟨rfl,rfl⟩;exact⟨rfl,rfl⟩
  rw[e];simp
theorem ZaO(c:Nat×Nat)(ms:List (Int×Int))(hh:MH):QT .nin (.f (Za c)) (.f (.lst (ms.map qb))) hh=some (decide (cZ c∉ms)):=by
 have e1:∀ l:List FV,(l.map MV.f).mapM (y9 hh)=some l:=λl=>by
  induction l with
  |nil=>rfl
  |cons x l ih =>
   rw[Xd,Wm,ih];rfl
 have e2:inF (Za c) (ms.map qb)=some (decide (cZ c∈ms)):=by
  unfold inF;rw[if_pos ⟨rfl,by rw[uk];intro x hx;obtain⟨p,_,rfl⟩:=Vj.mp hx;rfl⟩,<- cZ_N,qch]
 have e3:y9 hh (.f (Za c))=some (Za c):=rfl;have e4:yd hh (.f (.lst (ms.map qb)))=some ((ms.map qb).map MV.f):=rfl;simp only[QT,e3,e4,Xq,e1,e2,ui];by_cases q:cZ c∈ms <;> simp[q]
noncomputable def OrdR(w:FV)(H W:Nat)(X:List (Nat×Nat)):Prop:=X.length<=5000/\∃ cls f,(∀ hh,QF "order" (.f w) hh=some cls)/\prog.meths cls "order"=some f/\∀ n h,run prog (n+5) f [.f w,I H,I W] h=.ok (.ref h.length) (h++[.lst ((X.map Za).map .f)])
noncomputable def OrdX(w:FV)(a b:Int):Prop:=∃ cls f,(∀ hh,QF "order" (.f w) hh=some cls)/\prog.meths cls "order"=some f/\∀ n h,run prog (n+5) f [.f w,I a,I b] h=.exc "OutOfPicture" h
theorem ybV(c:String)(hc:zH c)(H W:Nat)(h1:1<=H)(h2:1<=W)(hH:H<=10)(hW:W<=30):∃(f:String)(cs:List (Nat×Nat)),prog.meths c "order"=some f/\cs.length<=5000/\∀ n h,run prog (n+4) f [.f (zc c),I H,I W] h=.ok (.ref h.length) (h++[.lst ((cs.map Za).map .f)]):=by
 have hb:H*W<=10*30:=Nat.mul_le_mul hH hW
 rcases hc with rfl|rfl|rfl|rfl
 ·exact⟨"Way.order",Qd H W,rfl,by rw[yz];lia,λn h=>ZaR (n+2) h _ H W h1 h2 (by lia) (by lia) (by lia)⟩
 ·exact⟨"FroWay.order",zZ H W,rfl,by rw[Qbx];lia,λn h=>ya4 (n+2) h _ H W h1 h2 (by lia) (by lia) (by lia)⟩
 ·exact⟨"ColumnWay.order",yav H W,rfl,by rw[Yca];lia,λn h=>Qa6 (n+2) h _ H W h1 h2 (by lia) (by lia) (by lia)⟩
 ·obtain⟨k,hk,O⟩:=yaQ (.f (zc "FoldedWay")) H W h1 h2 (by lia) (by lia);refine⟨"FoldedWay.order",_,rfl,?_,λn h=>O (n+1) h⟩;have l1:=Wq (λc:Nat×Nat=>decide (c.1<H)&&decide (c.2<W)) (zp k);rw[yad] at l1;have:4^k<=4^6:=Vk (by lia) hk
  lia
theorem YbE(c:String)(hc:zH c)(a b:Int)(no:¬(1<=a/\1<=b)):∃ f,prog.meths c "order"=some f/\∀ n h,run prog (n+4) f [.f (zc c),I a,I b] h=.exc "OutOfPicture" h:=by
 have N:=λn h=>yb5 (n+2) h (.f (zc c)) a b no
 rcases hc with rfl|rfl|rfl|rfl
 ·exact⟨"Way.order",rfl,λn h=>(N n h).1⟩
 ·exact⟨"FroWay.order",rfl,λn h=>(N n h).2.1⟩
 ·exact⟨"ColumnWay.order",rfl,λn h=>(N n h).2.2.1⟩
 ·exact⟨"FoldedWay.order",rfl,λn h=>(N n h).2.2.2⟩
noncomputable def qam(c:String)(ms:List (Int×Int)):FV:=yh [ms.foldl qm []] (zc c)
noncomputable def zY(c:String)(ms mo:List (Int×Int)):FV:=yh [mo.foldl qm [],ms.foldl qm []] (zc c)
theorem yar{H W:Nat}{ms:List (Int×Int)}(nr:qbl H W ms)(hH:H<=30)(hW:W<=30)(hl:ms.length<=300):(ms.foldl qm []).all Y4=true/\(ms.foldl qm []).Nodup/\(ms.foldl qm []).length<=1000:=by
 refine⟨?_,YaJ _ _ (by simp),?_⟩
 ·rw[uk];intro x hx
  rcases(QR ms [] x).mp hx with z|z
  ·cases z
  ·have:=nr x z;simp[Y4];lia
 ·have:=YaH ms [];simp at this;lia
theorem ords(c:String)(hc:zH c){H0 W0:Nat}(ms mo:List (Int×Int))(hH0:H0<=30)(hW0:W0<=30)(n1:qbl H0 W0 ms)(n2:qbl H0 W0 mo)(l1:ms.length<=300)(l2:mo.length<=300)(H W:Nat)(h1:1<=H)(h2:1<=W)(hH:H<=10)(hW:W<=30) :
  ∃ cs,OrdR (zc c) H W cs/\OrdR (qam c ms) H W (cs.filter λp=>decide (cZ p∉ms))/\OrdR (zY c ms mo) H W ((cs.filter λp=>decide (cZ p∉ms)).filter λp=>decide (cZ p∉mo)):=by
 obtain⟨f,cs,mo',hl,O⟩:=ybV c hc H W h1 h2 hH hW;have ok1:Ybw [ms.foldl qm []]:=⟨by simp,λk hk=>by obtain rfl:=va.mp hk;exact yar n1 hH0 hW0 l1⟩;have ok2:Ybw [mo.foldl qm [],ms.foldl qm []]:=⟨by simp,λk hk=>by
  rcases vb.mp hk with rfl|hk
  ·exact yar n2 hH0 hW0 l2
  ·obtain rfl:=va.mp hk;exact yar n1 hH0 hW0 l1⟩
 refine⟨cs,⟨hl,c,f,λhh=>by simp[QF,zc],mo',λn h=>O (n+1) h⟩,⟨Ve (Wq _ _) hl,"MaskedWay","MaskedWay.order",λhh=>by simp[QF,qam,yh,yI],rfl,λn h=>?_⟩,
  Ve (Wq _ _) (Ve (Wq _ _) hl),"MaskedWay","MaskedWay.order",λhh=>by simp[QF,zY,yh,yI],rfl,λn h=>?_⟩
 ·have:=ZY n h c f hc mo' H W cs (by lia) (λh=>O n h) _ ok1;rw[show(cs.filter λp=>decide (cZ p∉ms))=cs.filter λp=>decide (cZ p∉YQ [ms.foldl qm []]) by
   apply xC;intro p _;unfold YQ;rw[decide_eq_decide,Ybm];simp[QR]]
  exact this
 ·have:=ZY n h c f hc mo' H W cs (by lia) (λh=>O n h) _ ok2;rw[show((cs.filter λp=>decide (cZ p∉ms)).filter λp=>decide (cZ p∉mo))=cs.filter λp=>decide (cZ p∉YQ [mo.foldl qm [],ms.foldl qm []]) by
   rw[List.filter_filter];apply xC;intro p _;unfold YQ;rw[<- Bool.decide_and,decide_eq_decide,Ybm];simp[QR,not_or]]
  exact this
theorem qcF(c:String)(hc:zH c){H0 W0:Nat}(Ks:List (List (Int×Int)))(ok:Ybw Ks)(ne:Ks≠[])(a b:Int)(no:¬(1<=a/\1<=b)):OrdX (yh Ks (zc c)) a b:=by
 obtain⟨f,mo',O⟩:=YbE c hc a b no;refine⟨"MaskedWay","MaskedWay.order",λhh=>?_,rfl,λn h=>zaG n h c f hc mo' a b (λh=>O n h) Ks ok⟩;cases Ks with
 |nil=>exact absurd rfl ne
 |cons k r=>simp[QF,yh,yI]
end MP
end
section
namespace MP
open PySem
noncomputable def lawB:List MS:=qbu d_law.body[2]?
structure Ask (c:String) (ms mo:List (Int×Int)) (H W:Nat) (m:Int):Prop where
 pl:zH c
 H1:1<=H
 W1:1<=W
 H8:H<=8
 W24:W<=24
 m0:0<=m
 n1:qbl H W ms
 n2:qbl H W mo
 l1:ms.length<=300
 l2:mo.length<=300
noncomputable abbrev sgA(a0 a2 a3 a10:Option MV)(c:String)(ms mo:List (Int×Int))(H W:Nat)(m:Int)(z13 z14 z15:Option MV):MSt :=
 [a0,some (.ref 0),a2,a3,some (I m),some (.f (zc c)),some (I H),some (I W),some (.f (.lst (ms.map qb))),some (.f (.lst (mo.map qb))),a10,some (.f (qam c ms)),some (.f (zY c ms mo)),z13,z14,z15]
section
variable (n:Nat) (g:MH) (a0 a2 a3 a10:Option MV) {c:String} {ms mo:List (Int×Int)} {H W:Nat} {m:Int}
theorem Ask.ok1(A:Ask c ms mo H W m):Ybw [ms.foldl qm []]:=⟨by simp,λk hk=>by obtain rfl:=va.mp hk;exact yar A.n1 (by have:=A.H8;lia) (by have:=A.W24;lia) A.l1⟩
theorem Ask.ok2(A:Ask c ms mo H W m):Ybw [mo.foldl qm [],ms.foldl qm []]:=⟨by simp,λk hk=>by
  rcases vb.mp hk with rfl|hk
  ·exact yar A.n2 (by have:=A.H8;lia) (by have:=A.W24;lia) A.l2
  ·exact A.ok1.2 k hk⟩
theorem qcK(A:Ask c ms mo H W m)(z13 z14 z15:Option MV):Qb prog (run prog (n+6)) (lawB.drop 20) (sgA a0 a2 a3 a10 c ms mo H W m z13 z14 z15) g=.next (sgA a0 a2 a3 a10 c ms mo H W m z13 z14 z15) g:=by
 have r3:=mod_lt (m/300) 3 (by decide);obtain⟨k1,f1,b1,d1,X1⟩:=qcF c A.pl (H0:=H) (W0:=W) _ A.ok2 (by simp) 0 W (by lia);obtain⟨k2,f2,b2,d2,X2⟩:=qcF c A.pl (H0:=H) (W0:=W) _ A.ok1 (by simp) H (-(m/300%3)) (by lia);have N1:=Qar n g (zY c ms mo) k1 b1 f1 d1 0 W (X1 n g);have N2:=Qar n g (qam c ms) k2 b2 f2 d2 H (-(m/300%3)) (X2 n g);have Wd:=Y8 (n+4) g c A.pl [mo.foldl qm [],ms.foldl qm []] (by simp);obtain⟨f,mw,Ww⟩:=zaQ c A.pl;have Ww:=Ww (n+5) g (.f (zc c));have cW:QF "word" (.f (zc c)) g=some c:=by simp[QF,zc]
 have cB:QF "word" (.f (zY c ms mo)) g=some "MaskedWay":=by simp[QF,zY,yh,yI]
 have mB:prog.meths "MaskedWay" "word"=some "MaskedWay.word":=rfl;have ct:YO .cat (.f (S "masked masked ")) (.f (S (Yv c))) g=.ok (.f (.str (Str.ofString "masked masked "++Str.ofString (Yv c)))) g:=by
  simp only[YO,Zl,yp];rw[if_pos (by rcases A.pl with rfl|rfl|rfl|rfl <;> decide +kernel)]
 have eq:eqF (.str (Txt.mul (Str.ofString "masked ") (([mo.foldl qm [],ms.foldl qm []]:List (List (Int×Int))).length:Int)++Str.ofString (Yv c))) (.str (Str.ofString "masked masked "++Str.ofString (Yv c)))=some true:=by
  show eqF (.str (Txt.mul (Str.ofString "masked ") 2++Str.ofString (Yv c))) _=_
  rcases A.pl with rfl|rfl|rfl|rfl <;> exact zbN (by decide +kernel) (by decide +kernel) (by decide +kernel)
 rw[show yh [mo.foldl qm [],ms.foldl qm []] (zc c)=zY c ms mo from rfl] at Wd;have f3:∀ hh,Qi true .fdiv (I m) (I 300) hh=.ok (I (m/300)) hh:=λhh=>zA _ _ _ ⟨by decide,.inl (by decide)⟩;have g3:∀ hh,Qi true .mod (I (m/300)) (I 3) hh=.ok (I (m/300%3)) hh:=λhh=>Yr _ _ _ (by decide);generalize FV.str (Txt.mul (Str.ofString "masked ") (([mo.foldl qm [],ms.foldl qm []]:List (List (Int×Int))).length:Int)++Str.ofString (Yv c))=T1 at *;generalize FV.str (Str.ofString "masked masked "++Str.ofString (Yv c))=T2 at *;simp only[lawB,d_law,Xj,ul,yA,Xo,Xn,sgA];generalize FV.lst (ms.map qb)=v1 at *;generalize FV.lst (mo.map qb)=v2 at *;generalize zY c ms mo=bv at *;generalize qam c ms=ov at *;generalize zc c=wv at *;simp[cB,mB,Wd,cW,mw,Ww,ct,eq,Zl,N1,f3,g3,N2]
theorem qK(hh:MH)(X:List (Nat×Nat)):∃ t',Qao (.ref hh.length) (hh++[.lst ((X.map Za).map .f)])=.ok (.f (.lst (X.map Za))) (hh++t'):=zaw hh [] (X.map Za)
theorem zaA(X:List (Nat×Nat))(hh:MH):itV "seq" [.f (.lst (X.map Za))] hh=some (X.map λc=>MV.f (Za c),[]):=by
 have q:yd hh (.f (.lst (X.map Za)))=some (X.map λc=>MV.f (Za c)):=by simp[Xc]
 have g:zd hh (.f (.lst (X.map Za)))=[]:=rfl;simp only[itV,q,ui,g]
theorem Qb1(X:List (Nat×Nat)):X.map (λc=>MV.f (Za c))=(X.map Za).map MV.f:=by simp[Xc]
theorem Zaz(v:FV)(ms:List (Int×Int))(nv:∀(c:Nat×Nat)(hh:MH),QT .nin (.f (Za c)) (.f v) hh=some (decide (cZ c∉ms)))(X:List (Nat×Nat))(hX:X.length<=5000)(hh:MH) :
  Qo [] (yn (.nm 0) (λx h=>R.bind (R.bind (opt x[0]?.join λv=>R.ok v h) λx2 h1=>R.bind (opt x[1]?.join λv=>R.ok v h1) λy h2=>opt (QT CO.nin x2 y h2) λb=>R.ok (MV.f (FV.bl b)) h2) λx h1=>opt (qL x) λk=>R.ok k h1) λx h=>opt x[0]?.join λv=>R.ok v h)
   (X.map λc=>MV.f (Za c)) [] [none,some (.f v)] hh=.ok (((X.filter λc=>decide (cZ c∉ms)).map Za).map MV.f) hh:=by
 rw[zaE (QO _) (e:=λc=>MV.f (Za c)) (g:=λc=>MV.f (Za c)) (t:=λc=>decide (cZ c∉ms)) (caps:=[some (.f v)]) X [] none (by rw[Qc];simp;lia) (λc _ z=>⟨some (.f (Za c)),by
  have nc:=nv c;generalize Za c=cn at nc;by_cases q:cZ c∈ms
  ·simp[q] at nc;simp[yn,nc,q]
  ·simp[q] at nc;simp[yn,nc,q]⟩)]
 rw[Wg,Qb1]
theorem zcL(A:Ask c ms mo H W m)(z13 z14 z15:Option MV)(Q:MSt->MH->Prop)(hQ:∀ t z15,Q (sgA a0 a2 a3 a10 c ms mo H W m z13 z14 z15) (g++t)):Nx (Qb prog (run prog (n+6)) (lawB.drop 17) (sgA a0 a2 a3 a10 c ms mo H W m z13 z14 z15) g) Q:=by
 have T20:=λg z15=>qcK n g a0 a2 a3 a10 A z13 z14 z15;obtain⟨X,⟨xl,k0,f0,c0,m0,O0⟩,⟨xl1,k1,f1,c1,m1,O1⟩,xl2,k2,f2,c2,m2,O2⟩:=ords c A.pl ms mo (by have:=A.H8;lia) (by have:=A.W24;lia) A.n1 A.n2 A.l1 A.l2 (H+1) W (by lia) A.W1 (by have:=A.H8;lia) (by have:=A.W24;lia);have nv1:=λc hh=>ZaO c ms hh;have nv2:=λc hh=>ZaO c mo hh;have O0:=O0 (n+1) g;obtain⟨t0,F0⟩:=qK g X;have O1:=O1 (n+1) (g++t0);obtain⟨t1,F1⟩:=qK (g++t0) (X.filter λp=>decide (cZ p∉ms));have O2:=O2 (n+1) (g++t0++t1);obtain⟨t2,F2⟩:=qK (g++t0++t1) ((X.filter λp=>decide (cZ p∉ms)).filter λp=>decide (cZ p∉mo));have hQ:=hQ (t0++t1++t2) (some (.f (.lst ((X.filter λp=>decide (cZ p∉ms)).map Za))));rw[<- vf,<- vf] at hQ;have T20:=T20 (g++t0++t1++t2) (some (.f (.lst ((X.filter λp=>decide (cZ p∉ms)).map Za))));have S1:=λhh=>ZM (n+3) hh 3 _ (Qac (X.filter λp=>decide (cZ p∉ms)) (by rw[Qc];lia));have S2:=λhh=>ZM (n+3) hh 3 _ (Qac ((X.filter λp=>decide (cZ p∉ms)).filter λp=>decide (cZ p∉mo)) (by rw[Qc];lia));have it0:=zaA X;have it1:=zaA (X.filter λp=>decide (cZ p∉ms));have C0:=Zaz (.lst (ms.map qb)) ms nv1 X xl;have C1:=Zaz (.lst (mo.map qb)) mo nv2 (X.filter λp=>decide (cZ p∉ms)) xl1;generalize hY:(X.filter λp=>decide (cZ p∉ms))=Y at *;generalize hZ:(Y.filter λp=>decide (cZ p∉mo))=Z at *;have p1:∀ hh,Qi true .add (I H) (I 1) hh=.ok (I ((H+1:Nat):Int)) hh:=λhh=>by rw[ybg];rfl
 have nx:=qd (Y.map Za);have nz:=qd (Z.map Za);generalize hG2:g++t0++t1++t2=G2 at *;generalize hG1:g++t0++t1=G1 at *;generalize hG0:g++t0=G0 at *;simp only[lawB,d_law,Xj,ul,yA,Xo,Xn,sgA] at T20 hQ ⊢;generalize ((H+1:Nat):Int)=H1 at *;generalize hlx:(X.map Za).map MV.f=LX at *;generalize hly:(Y.map Za).map MV.f=LY at *;generalize hlz:(Z.map Za).map MV.f=LZ at *;generalize (X.map λc=>MV.f (Za c))=PX at *;generalize (Y.map λc=>MV.f (Za c))=PY at *;generalize FV.lst (X.map Za)=VX at *;generalize FV.lst (Y.map Za)=VY at *;generalize FV.lst (Z.map Za)=VZ at *;generalize FV.lst (ms.map qb)=v1 at *;generalize FV.lst (mo.map qb)=v2 at *;generalize zY c ms mo=bv at *;generalize qam c ms=ov at *;generalize zc c=wv at *;simp[p1,c0,m0,O0,F0,it0,MP.stM,C0,nx,c1,m1,O1,F1,S1,c2,m2,O2,F2,it1,C1,nz,S2,T20];exact hQ
end
end MP
end
section
namespace MP
open PySem
section
variable (n:Nat) (g:MH) (a0 a2 a3 a10:Option MV) {c:String} {ms mo:List (Int×Int)} {H W:Nat} {m:Int}
theorem ycV(A:Ask c ms mo H W m)(z13 z14 z15:Option MV)(Q:MSt->MH->Prop)(hQ:∀ t z13 z14 z15,Q (sgA a0 a2 a3 a10 c ms mo H W m z13 z14 z15) (g++t)):Nx (Qb prog (run prog (n+6)) (lawB.drop 11) (sgA a0 a2 a3 a10 c ms mo H W m z13 z14 z15) g) Q:=by
 have hH:=A.H8;have hW:=A.W24;obtain⟨X,⟨xl,k0,f0,c0,m0,O0⟩,⟨xl1,k1,f1,c1,m1,O1⟩,xl2,k2,f2,c2,m2,O2⟩:=ords c A.pl ms mo (by lia) (by lia) A.n1 A.n2 A.l1 A.l2 H W A.H1 A.W1 (by lia) (by lia);have nv1:=λc hh=>ZaO c ms hh;have nv2:=λc hh=>ZaO c mo hh;have C0:=Zaz (.lst (ms.map qb)) ms nv1 X xl;have C1:=Zaz (.lst (mo.map qb)) mo nv2 (X.filter λp=>decide (cZ p∉ms)) xl1;have S1:=λhh=>ZM (n+3) hh 3 _ (Qac (X.filter λp=>decide (cZ p∉ms)) (by rw[Qc];lia));have S2:=λhh=>ZM (n+3) hh 3 _ (Qac ((X.filter λp=>decide (cZ p∉ms)).filter λp=>decide (cZ p∉mo)) (by rw[Qc];lia));have it0:=zaA X;have it1:=zaA (X.filter λp=>decide (cZ p∉ms));generalize hY:(X.filter λp=>decide (cZ p∉ms))=Y at *;generalize hZ:(Y.filter λp=>decide (cZ p∉mo))=Z at *
 -- the heaps
 have O0:=O0 (n+1) g;obtain⟨t0,F0⟩:=qK g X;obtain⟨G0,hG0⟩:∃ G0,G0=g++t0:=⟨_,rfl⟩;rw[<- hG0] at F0;have OT:=O1 (n+1) G0;have cl:=λM=>Yn G0 [] M;have st:=λM ys=>Zz G0 [] M ys;have ST:=Zbm (n+3) (G0++[.lst ((Y.map Za).map .f)]) 2 G0.length (Y.map Za) (cl _) (by simp[Qc];lia) (λx hx=>by obtain⟨p,_,rfl⟩:=Vj.mp hx;exact Zby p);have lz:((Y.map Za).map MV.f).length<sizeL:=by simp[Qc];lia
 obtain⟨G1,hG1⟩:∃ G1,G1=G0++[Cell.lst ((Y.map Za).map MV.f++[MV.f (.tup [.int H,.int 0])])]:=⟨_,rfl⟩;have st1:=st ((Y.map Za).map MV.f) ((Y.map Za).map MV.f++[MV.f (.tup [.int H,.int 0])]);rw[<- hG1] at st1;have O1:=O1 (n+1) G1;obtain⟨t1,F1⟩:=qK G1 Y;obtain⟨G2,hG2⟩:∃ G2,G2=G1++t1:=⟨_,rfl⟩;rw[<- hG2] at F1;have O2:=O2 (n+1) G2;obtain⟨t2,F2⟩:=qK G2 Z;obtain⟨G3,hG3⟩:∃ G3,G3=G2++t2:=⟨_,rfl⟩;rw[<- hG3] at F2;have T17:=zcL n G3 a0 a2 a3 a10 A (some (.f (.lst (Y.map Za)))) (some (.ref G0.length)) z15 Q (λt z15=>by
  have:=hQ (t0++([Cell.lst ((Y.map Za).map MV.f++[MV.f (.tup [.int H,.int 0])])]++(t1++(t2++t)))) (some (.f (.lst (Y.map Za)))) (some (.ref G0.length)) z15;have e:G3++t=g++(t0++([Cell.lst ((Y.map Za).map MV.f++[MV.f (.tup [.int H,.int 0])])]++(t1++(t2++t)))):=by rw[hG3,hG2,hG1,hG0];simp only[vf]
  rw[e];exact this)
 -- the words
 have Wd:=λhh=>Y8 (n+4) hh c A.pl [ms.foldl qm []] (by simp);obtain⟨f,mw,Ww⟩:=zaQ c A.pl;have Ww:=λhh=>Ww (n+5) hh (.f (zc c));have cW:∀ hh,QF "word" (.f (zc c)) hh=some c:=λhh=>by simp[QF,zc]
 have cB:∀ hh,QF "word" (.f (qam c ms)) hh=some "MaskedWay":=λhh=>by simp[QF,qam,yh,yI]
 have mB:prog.meths "MaskedWay" "word"=some "MaskedWay.word":=rfl;have isW:∀ hh,zS prog.subs hh (.f (qam c ms)) "Way"=some true:=λhh=>rfl;have ct:∀ hh,YO .cat (.f (S "masked ")) (.f (S (Yv c))) hh=.ok (.f (.str (Str.ofString "masked "++Str.ofString (Yv c)))) hh:=λhh=>by
  simp only[YO,Zl,yp];rw[if_pos (by rcases A.pl with rfl|rfl|rfl|rfl <;> decide +kernel)]
 have eq:eqF (.str (Txt.mul (Str.ofString "masked ") (([ms.foldl qm []]:List (List (Int×Int))).length:Int)++Str.ofString (Yv c))) (.str (Str.ofString "masked "++Str.ofString (Yv c)))=some true:=by
  show eqF (.str (Txt.mul (Str.ofString "masked ") 1++Str.ofString (Yv c))) _=_
  rcases A.pl with rfl|rfl|rfl|rfl <;> exact zbN (by decide +kernel) (by decide +kernel) (by decide +kernel)
 replace Wd:∀ hh,run prog (n+6) "MaskedWay.word" [.f (qam c ms)] hh=_:=Wd;generalize FV.str (Txt.mul (Str.ofString "masked ") (([ms.foldl qm []]:List (List (Int×Int))).length:Int)++Str.ofString (Yv c))=T1 at *;generalize FV.str (Str.ofString "masked "++Str.ofString (Yv c))=T2 at *;have nx:=qd (Y.map Za);have nz:=qd (Z.map Za);have e17:lawB.drop 11=(lawB.drop 11).take 6++lawB.drop 17:=by rw[show(17:Nat)=11+6 from rfl,<- List.drop_drop,Wu]
 rw[e17,qU];generalize lawB.drop 17=L17 at T17 ⊢;simp only[lawB,d_law,Xj,ul,yA,Xo,Xn,xr,Xw,sgA] at T17 ⊢;generalize hlx:(X.map Za).map MV.f=LX at *;generalize hly:(Y.map Za).map MV.f=LY at *;generalize hlz:(Z.map Za).map MV.f=LZ at *;generalize (X.map λc=>MV.f (Za c))=PX at *;generalize (Y.map λc=>MV.f (Za c))=PY at *;generalize FV.lst (X.map Za)=VX at *;generalize FV.lst (Y.map Za)=VY at *;generalize FV.lst (Z.map Za)=VZ at *;generalize FV.lst (ms.map qb)=v1 at *;generalize FV.lst (mo.map qb)=v2 at *;generalize zY c ms mo=bv at *;generalize qam c ms=ov at *;generalize zc c=wv at *;simp[c0,m0,O0,F0,it0,MP.stM,C0,nx,c1,m1,OT,ST,cB,mB,Wd,cW,mw,Ww,ct,eq,Zl,isW,cl,lz,st1,O1,F1,S1,c2,m2,O2,F2,it1,C1,nz,S2];exact T17
end
end MP
end
section
namespace MP
open PySem
noncomputable abbrev Qci:FV:=.lst [zc "Way",zc "FroWay",zc "ColumnWay",zc "FoldedWay"]
theorem YcZ(i:Int)(h0:0<=i)(h1:i<4):∃ c,zH c/\atM [MV.f (zc "Way"),.f (zc "FroWay"),.f (zc "ColumnWay"),.f (zc "FoldedWay")] i=some (.f (zc c)):=by
 rcases(by lia:i=0\/i=1\/i=2\/i=3) with rfl|rfl|rfl|rfl
 ·exact⟨_,.inl rfl,rfl⟩
 ·exact⟨_,.inr (.inl rfl),rfl⟩
 ·exact⟨_,.inr (.inr (.inl rfl)),rfl⟩
 ·exact⟨_,.inr (.inr (.inr rfl)),rfl⟩
theorem tail6(n:Nat)(k:Int)(t:MH)(a0 a2 a3:Option MV){c:String}{ms mo:List (Int×Int)}{H W:Nat}{m:Int}(A:Ask c ms mo H W m)(z10 z11 z12 z13 z14 z15:Option MV)(Q:MSt->MH->Prop)
  (hQ:∀ t' z10 z13 z14 z15,Q (sgA a0 a2 a3 z10 c ms mo H W m z13 z14 z15) (atC k::t')) :
  Nx (Qb prog (run prog (n+6)) (lawB.drop 6) [a0,some (.ref 0),a2,a3,some (I m),some (.f (zc c)),some (I H),some (I W),some (.f (.lst (ms.map qb))),some (.f (.lst (mo.map qb))),z10,z11,z12,z13,z14,z15] (atC k::t)) Q:=by
 have e11:lawB.drop 6=(lawB.drop 6).take 5++lawB.drop 11:=by rw[show(11:Nat)=6+5 from rfl,<- List.drop_drop,Wu]
 rw[e11,qU];obtain⟨M,hM⟩:∃ M,M=(ms.map qb).map MV.f:=⟨_,rfl⟩;have hlM:M.length<sizeL:=by rw[hM];simp[Qc];have:=A.l1;lia
 have hlm:ms.length<=1000:=by have:=A.l1;lia
 have hlo:mo.length<=1000:=by have:=A.l2;lia
 have cl:=λX=>Yn (atC k::t) [] X;have st:=λX ys=>Zz (atC k::t) [] X ys;have q1:∀ hh,yd hh (.f (.lst (ms.map qb)))=some M:=λhh=>by rw[hM];rfl
 have q2:∀ hh,yd hh (.f (.lst (mo.map qb)))=some ((mo.map qb).map MV.f):=λhh=>rfl;have mt:qp ((mo.map qb).map MV.f)=.f (.tup (mo.map qb)):=by simp only[qp,QS]
 have K1:=Zba (n+5) (atC k::t++[.lst M]) (zc c) (.ref (t.length+1)) [(t.length+1,M)] ms hlm (λg=>by
   have e:yg (atC k::t++[.lst M]++g) (t.length+1)=some M:=by rw[vf];exact Yn (atC k::t) g M
   have e2:(ms.map λc=>MV.f (qb c))=M:=by rw[hM,ug];rfl
   have e3:yd (atC k::t++[.lst M]++g) (.ref (t.length+1))=some M:=e;simp only[itV,zd,e,e2,e3,ui]) (λg p hp=>by
   obtain rfl:=va.mp hp;rw[vf];exact Yn (atC k::t) g M)
 have K2:=λhh=>Zba (n+5) hh (qam c ms) (.f (.tup (mo.map qb))) [] mo hlo (λg=>by
   have e2:(mo.map λc=>MV.f (qb c))=(mo.map qb).map MV.f:=by rw[ug];rfl
   have e3:yd (hh++g) (.f (.tup (mo.map qb)))=some ((mo.map qb).map MV.f):=rfl;have e4:zd (hh++g) (.f (.tup (mo.map qb)))=[]:=rfl;simp only[itV,e2,e3,e4,ui]) (λg=>QO _)
 rw[show yI (zc c) (ms.foldl qm [])=qam c ms from rfl] at K1;rw[show yI (qam c ms) (mo.foldl qm [])=zY c ms mo from rfl] at K2;have T11:=ycV n (atC k::t++[.lst ((M++[MV.f (.tup [.int 0,.int 0])]).reverse)]) a0 a2 a3 (some (.ref (t.length+1))) A z13 z14 z15 Q (λt' z13 z14 z15=>by
  have:=hQ (t++[.lst ((M++[MV.f (.tup [.int 0,.int 0])]).reverse)]++t') (some (.ref (t.length+1))) z13 z14 z15;simpa only[wu] using this)
 generalize lawB.drop 11=L11 at T11 ⊢;simp only[lawB,d_law,Xj,ul,yA,Xo,Xn,xr,Xw,sgA] at T11 ⊢;generalize FV.lst (ms.map qb)=v1 at *;generalize FV.lst (mo.map qb)=v2 at *;generalize FV.tup (mo.map qb)=v3 at *;generalize (mo.map qb).map MV.f=M2 at *;generalize hrev:(M++[MV.f (.tup [.int 0,.int 0])]).reverse=RV at *;generalize zY c ms mo=bv at *;generalize qam c ms=ov at *;generalize zc c=wv at *;simp only[wu] at K1 cl st T11;simp at cl st;simp[q1,K1,cl,hlM,st,Zci,hrev,q2,mt,K2];exact T11
theorem run_law(n:Nat)(ns:List Int)(hl:ns.length<=63):∃ g,run prog (n+7) "law" [.f (.scr ns)] []=.ok (B true) g:=by
 suffices Ret (run prog (n+7) "law" [.f (.scr ns)] []) λv h'=>v=B true by
  obtain⟨v,h',e,rfl⟩:=this;exact⟨h',e⟩
 refine Ret.of λQ hQ=>?_;have k1:=λhh W=>Zay hh W "Way" rfl;have k2:=λhh W=>Zay hh W "FroWay" rfl;have k3:=λhh W=>Zay hh W "ColumnWay" rfl;have k4:=λhh W=>Zay hh W "FoldedWay" rfl;have s20:∀ hh,y0 true (.f (.scr ns)) none (some 10) hh=.ok (.f (.lst ((ns.take 10).map FV.int))) hh:=λhh=>by
  have:Qa3 (ns.map λi=>MV.f (.int i)) none (some 10)=((ns.take 10).map FV.int).map MV.f:=by
   simp only[Qa3,ZbY,vc,Xn,uu];rw[if_neg (by decide),show(10:Int).toNat=10 from rfl];rw[ug,<- Vz]
   congr 1
   rw[List.take_eq_take_iff];lia
  simp only[y0,YbX,Yb0,yp,this,qd]
 have tl:(ns.take 10).length<=10:=by simp;lia
 generalize ns.take 10=ts at *;have ct:∀ hh,Qi true .add (.f (.lst (ts.map FV.int))) (.f (.lst [.int 0])) hh=.ok (.f (.lst ((ts++[0]).map FV.int))) hh:=λhh=>by
  rw[Ycs _ _ _ (by simp[Qc];lia)];simp
 have hyl:(ts++[0]).length<=11:=by simp;lia
 generalize ts++[0]=ys at *;have q:∀ hh,yd hh (.f (.lst (ys.map FV.int)))=some (ys.map λx=>I x):=λhh=>by simp[Xc]
 have gq:∀ hh,zd hh (.f (.lst (ys.map FV.int)))=[]:=λhh=>rfl;have mk:∀ hh,Yx true [.f (zc "Way"),.f (zc "FroWay"),.f (zc "ColumnWay"),.f (zc "FoldedWay")] hh=.ok (.f Qci) hh:=λhh=>rfl;generalize hyv:FV.lst (ys.map FV.int)=yv at *;rw[Qcv];have eB:d_law.body=d_law.body.take 2++(.for_ (.nm 3) "seq" [.bin true .add (.slice true (.var 0) none (some (.cI 10))) (.lst true [.cI 0])] lawB::[.ret (.cB true)]):=rfl;rw[eB,qU];have T:=λ(m:Int)=>m;generalize hLB:lawB=LB;simp only[d_law,xr,Xw];simp[k1,k2,k3,k4,Qx,s20,ct,q,gq];refine Zbr (Q:=λr=>Ret (zg _ r) _) (e:=λx:Int=>I x) ys (λi σ hh=>∃(k:Int)(t:MH)(z3 z4 z5 z6 z7 z8 z9 z10 z11 z12 z13 z14 z15:Option MV),0<=k/\k<=30*i/\hh=atC k::t/\σ=[some (.f (.scr ns)),some (.ref 0),some (.f Qci),z3,z4,z5,z6,z7,z8,z9,z10,z11,z12,z13,z14,z15])
  ⟨0,[],none,none,none,none,none,none,none,none,none,none,none,none,none,by lia,by lia,rfl,rfl⟩ ?_ ?_
 ·rintro i x σ hh hi ⟨k,t,z3,z4,z5,z6,z7,z8,z9,z10,z11,z12,z13,z14,z15,hk0,hk1,rfl,rfl⟩ Q hQ;have hil:=(Xa.mp hi).1;have N:=qaT (n+5) t ns k hk0 (by lia);have hd:=ybm ns (k+1);generalize ybx ns (k+1)=y at N hd;have g4:∀ z hh,Qi true .mod (I z) (I 4) hh=.ok (I (z%4)) hh:=λz hh=>Yr _ _ _ (by decide);have g8:∀ z hh,Qi true .mod (I z) (I 8) hh=.ok (I (z%8)) hh:=λz hh=>Yr _ _ _ (by decide);have g2:∀ z hh,Qi true .mod (I z) (I 2) hh=.ok (I (z%2)) hh:=λz hh=>Yr _ _ _ (by decide);have f4:∀ hh,Qi true .fdiv (I y) (I 4) hh=.ok (I (y/4)) hh:=λhh=>zA _ _ _ ⟨by decide,.inl (by decide)⟩;have f32:∀ hh,Qi true .fdiv (I y) (I 32) hh=.ok (I (y/32)) hh:=λhh=>zA _ _ _ ⟨by decide,.inl (by decide)⟩;have f3:∀ hh,Qi true .fdiv (I y) (I 3) hh=.ok (I (y/3)) hh:=λhh=>zA _ _ _ ⟨by decide,.inl (by decide)⟩;have m4:=mod_lt (x+y) 4 (by decide);have m8:=mod_lt (y/4) 8 (by decide);have m2:=mod_lt (y/3) 2 (by decide);obtain⟨c,hc,ew⟩:=YcZ _ m4.1 m4.2;obtain⟨H,hH⟩:=Xl (show 0<=1+y/4%8 by lia);obtain⟨d,hd1,hd2,ed⟩:∃ d:Int,1<=d/\d<=24/\atM [I 8,I 24] (y/3%2)=some (I d):=by
   rcases(by lia:y/3%2=0\/y/3%2=1) with z|z
   ·exact⟨8,by lia,by lia,by rw[z];rfl⟩
   ·exact⟨24,by lia,by lia,by rw[z];rfl⟩
  have md:=mod_lt (y/32) d (by lia);have gd:∀ hh,Qi true .mod (I (y/32)) (I d) hh=.ok (I (y/32%d)) hh:=λhh=>Yr _ _ _ (by lia);obtain⟨W,hW⟩:=Xl (show 0<=1+y/32%d by lia);obtain⟨v1,g1,M1,ms,kk,nr1,l1,b1,b2,rfl,rfl⟩:=Qay (n+4) t ns (k+1) (by lia) (by lia) H W (by lia) (by lia) (by lia) (by lia);obtain⟨v2,g2',M2,mo,kk2,nr2,l2,b3,b4,rfl,rfl⟩:=Qay (n+4) t ns kk (by lia) (by lia) H W (by lia) (by lia) (by lia) (by lia);have A:Ask c ms mo H W y:=⟨hc,by lia,by lia,by lia,by lia,by lia,nr1,nr2,l1,l2⟩;have T6:=tail6 n kk2 t (some (.f (.scr ns))) (some (.f Qci)) (some (I x)) A z10 z11 z12 z13 z14 z15 Q (λt' z10 z13 z14 z15=>hQ _ _ ⟨kk2,t',_,_,_,_,_,_,_,_,_,_,_,_,_,by lia,by push_cast;lia,rfl,rfl⟩);rw[hLB] at T6;have e6:LB=LB.take 6++LB.drop 6:=(Wu 6 LB).symm;rw[QX,e6];generalize LB.drop 6=L6 at T6 ⊢;rw[<- hLB];simp only[lawB,d_law,Xj,ul,yA,xr,Xw];generalize FV.lst (ms.map qb)=v1 at *;generalize FV.lst (mo.map qb)=v2 at *;simp[N,g4,ew,f4,g8,hH,f32,f3,g2,Qx,ed,gd,hW,M1,M2];exact T6
 ·rintro σ hh ⟨k,t,z3,z4,z5,z6,z7,z8,z9,z10,z11,z12,z13,z14,z15,hk0,hk1,rfl,rfl⟩;simp;obtain⟨h',e⟩:∃ h',Yu [] (B true) (atC k::t)=.ok (B true) h':=by
   unfold Yu;split
   ·exact⟨_,rfl⟩
   ·exact⟨_,rfl⟩
  rw[e];exact⟨_,_,rfl,hQ _ _ rfl⟩
end MP
end
section
namespace SD
open PySem L2 L3 M3 MP PyProof.Rows
noncomputable def top(i:Nat):Stmt:=PySem.Challenge.pw_dotscreen_k22_masked.main.body.getD i (.Pass ⟨0,0,0,0⟩)
noncomputable abbrev YG:Stmt:=top 13
theorem qaL:Yw prog d_cells_by_rows ["high","wide","cells","row"] ["high","wide"] YG=true:=by decide +kernel
noncomputable abbrev qal:Stmt:=top 15
theorem ybB:Yw prog d_ask_size ["high","wide"] ["high","wide"] qal=true:=by decide +kernel
noncomputable abbrev qF:Stmt:=YA (top 17) 0
theorem Qbu:Yw prog d_Way_order ["self","high","wide"] ["self","high","wide"] qF=true:=by decide +kernel
noncomputable abbrev YM:Stmt:=YA (top 17) 1
theorem QbD:Yw prog d_Way_word ["self"] ["self"] YM=true:=by decide +kernel
noncomputable abbrev zw:Stmt:=YA (top 18) 0
theorem qaR:Yw prog d_FroWay_order ["self","high","wide","cells","row","line"] ["self","high","wide"] zw=true:=by decide +kernel
noncomputable abbrev yx:Stmt:=YA (top 18) 1
theorem za4:Yw prog d_FroWay_word ["self"] ["self"] yx=true:=by decide +kernel
noncomputable abbrev Zr:Stmt:=YA (top 19) 0
theorem qar:Yw prog d_ColumnWay_order ["self","high","wide"] ["self","high","wide"] Zr=true:=by decide +kernel
noncomputable abbrev Qs:Stmt:=YA (top 19) 1
theorem QaI:Yw prog d_ColumnWay_word ["self"] ["self"] Qs=true:=by decide +kernel
noncomputable abbrev Yq:Stmt:=YA (top 20) 0
theorem zau:Yw prog d_FoldedWay_order ["self","high","wide","side"] ["self","high","wide"] Yq=true:=by decide +kernel
noncomputable abbrev Yt:Stmt:=YA (top 20) 1
theorem QaG:Yw prog d_FoldedWay_word ["self"] ["self"] Yt=true:=by decide +kernel
noncomputable abbrev Ym:Stmt:=YA (top 21) 0
theorem Z7:Yw prog d_MaskedWay___init__ ["self","way","mask"] ["self","way","mask"] Ym=true:=by decide +kernel
noncomputable abbrev yq:Stmt:=YA (top 21) 1
theorem Zau:Yw prog d_MaskedWay_order ["self","high","wide","ways","left_out","way"] ["self","high","wide"] yq=true:=by decide +kernel
noncomputable abbrev Zt:Stmt:=YA (top 21) 2
theorem yaD:Yw prog d_MaskedWay_word ["self","ways"] ["self"] Zt=true:=by decide +kernel
noncomputable abbrev qQ:Stmt:=top 22
theorem qa2:Yw prog d_ways_within ["way","ways"] ["way"] qQ=true:=by decide +kernel
noncomputable abbrev zL:Stmt:=top 23
theorem QaQ:Yw prog d_folded_cells ["side","cells","reached"] ["side"] zL=true:=by decide +kernel
noncomputable abbrev QP:Stmt:=top 24
theorem za5:Yw prog d_folded_once ["cells","side","first","second","third","fourth"] ["cells","side"] QP=true:=by decide +kernel
noncomputable abbrev Yaa:Stmt:=top 26
theorem Ybv:Yw prog yP ["_law_script","_law_at","_law_cell","_law_m"] ["_law_script","_law_at"] Yaa=true:=by decide +kernel
noncomputable abbrev Y1:Stmt:=top 27
theorem Qbv:Yw prog d__law_same ["_law_found","_law_due"] ["_law_found","_law_due"] Y1=true:=by decide +kernel
noncomputable abbrev QW:Stmt:=top 29
theorem Zbh:Yw prog d__law_order ["_law_rows","_law_columns","_law_word_here","_law_cells"] ["_law_rows","_law_columns","_law_word_here"] QW=true:=by decide +kernel
noncomputable abbrev Zaa:Stmt:=top 30
theorem zbz:Yw prog d__law_mask ["_law_script","_law_at","_law_rows","_law_columns","_law_m","_law_mask_here","_law_k","_law_turn"] ["_law_script","_law_at","_law_rows","_law_columns"] Zaa=true:=by decide +kernel
noncomputable abbrev ZG:Stmt:=top 31
theorem YaK:Yw prog d__law_no_order ["_law_way","_law_rows","_law_columns","_law_word_here","_law_e"] ["_law_way","_law_rows","_law_columns"] ZG=true:=by decide +kernel
noncomputable abbrev zal:Stmt:=top 32
theorem YcG:Yw prog d_law ["_law_script","_law_at","_law_ways","_law_cell","_law_m","_law_way","_law_rows","_law_columns","_law_mask_here","_law_more","_law_given","_law_one","_law_both","_law_due","_law_told","_law_taller"] ["_law_script"] zal=true:=by decide +kernel
end SD
end
section
namespace SD
open PySem PySem.Spec PyProof.Rows L2 L3 M3 MP
noncomputable abbrev qO:Stmt:=top 28
noncomputable def QcY(K:PySem.W.Frag)(cs:List Addr):Addr->Addr->Sp:=λx C vs H Q _=>vs=[.ref x]/\∃ i,WordC K cs C i/\∀ H',Same H H'->Q (.str (zbn i)) H'
theorem ybw:FnScope ["_law_e","_law_told","_law_words","_law_some"] ["_law_e"] (yb qO):=⟨rfl,rfl,rfl,by decide +kernel,rfl,by decide +kernel,by decide +kernel⟩
theorem YcA{P:Program}{w:World}{K:PySem.W.Frag}{mg:Str->Option Value}{base:Heap}{c0 c1 c2 c3 c4 c5 c6 c7 c8 c9:Addr}(S:Src K mg "_law_word" qO ["_law_e"])(b_isinstance:mg "isinstance"=none)(b_range:mg "range"=none)(b_len:mg "len"=none)(b_ValueError:mg "ValueError"=none)(m0:mg "NoPicture"=some (.ref c0))(m1:mg "OutOfPicture"=some (.ref c1))(m2:mg "NoMeet"=some (.ref c2))(m3:mg "NoTile"=some (.ref c3))(m4:mg "NoInks"=some (.ref c4))(m5:mg "NoShares"=some (.ref c5))(m6:mg "NoShade"=some (.ref c6))(m7:mg "NoStretches"=some (.ref c7))(m8:mg "NoWay"=some (.ref c8))(m9:mg "NoText"=some (.ref c9)):DefOkH P w K mg base "_law_word" 1 ["_law_e"] (QcY K [c0,c1,c2,c3,c4,c5,c6,c7,c8,c9]):=by
 have sc:=ybw;refine Qct S sc (λx C vs H Q E h=>by obtain⟨rfl,_⟩:=h;rfl) λf x0 C tt T cdv A outer s H vs Q hr h=>?_;obtain⟨rfl,ix,Z,k⟩:=h;have zC:ExcK K C:=Z.z;refine⟨_,(@yE _ _ _ _ _ (@qaY _ _ (1) _ _ _ _ sc.nd rfl (Or.inr rfl) (@QaU _ _ _ _ (@Yb _ _ _ _ _ (@Qq _ _ _ _ _ _ _ _ _ (Zw zC (.head _)) rfl b_isinstance boot_isinstance (@Yb _ _ _ _ _ (pv 0) (@Yb _ _ _ _ _ (@Qz _ _ (.ref c0) _ _ rfl m0 rfl (by decide)) Qp (by rfl)) (by rfl)) (by decide) (by decide) (by rfl) (by rfl)) (@Yb _ _ _ _ _ (@Qq _ _ _ _ _ _ _ _ _ (Zw zC (.head _)) rfl b_isinstance boot_isinstance (@Yb _ _ _ _ _ (pv 0) (@Yb _ _ _ _ _ (@Qz _ _ (.ref c1) _ _ rfl m1 rfl (by decide)) Qp (by rfl)) (by rfl)) (by decide) (by decide) (by rfl) (by rfl)) (@Yb _ _ _ _ _ (@Qq _ _ _ _ _ _ _ _ _ (Zw zC (.head _)) rfl b_isinstance boot_isinstance (@Yb _ _ _ _ _ (pv 0) (@Yb _ _ _ _ _ (@Qz _ _ (.ref c2) _ _ rfl m2 rfl (by decide)) Qp (by rfl)) (by rfl)) (by decide) (by decide) (by rfl) (by rfl)) Qp (by rfl)) (by rfl)) (by rfl))) (by rfl) (by first|exact .inl rfl|exact .inr rfl|assumption)) (@yE _ _ _ _ _ (@ZbO _ _ _ _ (@YcF _ _ _ _ _ _ _ _ _ _ _ _ PySem.F.plainAttrs_list PySem.F.slot_list_append PySem.F.type_list_append yba (pv 1) (@Yb _ _ _ _ _ (@Qq _ _ _ _ _ _ _ _ _ (Zw zC (.head _)) rfl b_isinstance boot_isinstance (@Yb _ _ _ _ _ (pv 0) (@Yb _ _ _ _ _ (@Qz _ _ (.ref c3) _ _ rfl m3 rfl (by decide)) Qp (by rfl)) (by rfl)) (by decide) (by decide) (by rfl) (by rfl)) Qp (by rfl)) (by rfl) (by rfl) (by rfl) (by rfl) (by rfl)) (by rfl)) (@yE _ _ _ _ _ (@qaY _ _ (1) _ _ _ _ sc.nd rfl (Or.inr rfl) (@Ybr _ _ _ _ _ _ _ _ qb8 (pv 1) (@QaU _ _ _ _ (@Yb _ _ _ _ _ (@Qq _ _ _ _ _ _ _ _ _ (Zw zC (.head _)) rfl b_isinstance boot_isinstance (@Yb _ _ _ _ _ (pv 0) (@Yb _ _ _ _ _ (@Qz _ _ (.ref c4) _ _ rfl m4 rfl (by decide)) Qp (by rfl)) (by rfl)) (by decide) (by decide) (by rfl) (by rfl)) (@Yb _ _ _ _ _ (@Qq _ _ _ _ _ _ _ _ _ (Zw zC (.head _)) rfl b_isinstance boot_isinstance (@Yb _ _ _ _ _ (pv 0) (@Yb _ _ _ _ _ (@Qz _ _ (.ref c5) _ _ rfl m5 rfl (by decide)) Qp (by rfl)) (by rfl)) (by decide) (by decide) (by rfl) (by rfl)) (@Yb _ _ _ _ _ (@Qq _ _ _ _ _ _ _ _ _ (Zw zC (.head _)) rfl b_isinstance boot_isinstance (@Yb _ _ _ _ _ (pv 0) (@Yb _ _ _ _ _ (@Qz _ _ (.ref c6) _ _ rfl m6 rfl (by decide)) Qp (by rfl)) (by rfl)) (by decide) (by decide) (by rfl) (by rfl)) Qp (by rfl)) (by rfl)) (by rfl)))) (by rfl) (by first|exact .inl rfl|exact .inr rfl|assumption)) (@yE _ _ _ _ _ (@qaY _ _ (1) _ _ _ _ sc.nd rfl (Or.inr rfl) (@Ybr _ _ _ _ _ _ _ _ qb8 (pv 1) (@QaU _ _ _ _ (@Yb _ _ _ _ _ (@Qq _ _ _ _ _ _ _ _ _ (Zw zC (.head _)) rfl b_isinstance boot_isinstance (@Yb _ _ _ _ _ (pv 0) (@Yb _ _ _ _ _ (@Qz _ _ (.ref c7) _ _ rfl m7 rfl (by decide)) Qp (by rfl)) (by rfl)) (by decide) (by decide) (by rfl) (by rfl)) (@Yb _ _ _ _ _ (@Qq _ _ _ _ _ _ _ _ _ (Zw zC (.head _)) rfl b_isinstance boot_isinstance (@Yb _ _ _ _ _ (pv 0) (@Yb _ _ _ _ _ (@Qz _ _ (.ref c8) _ _ rfl m8 rfl (by decide)) Qp (by rfl)) (by rfl)) (by decide) (by decide) (by rfl) (by rfl)) (@Yb _ _ _ _ _ (@Qq _ _ _ _ _ _ _ _ _ (Zw zC (.head _)) rfl b_isinstance boot_isinstance (@Yb _ _ _ _ _ (pv 0) (@Yb _ _ _ _ _ (@Qz _ _ (.ref c9) _ _ rfl m9 rfl (by decide)) Qp (by rfl)) (by rfl)) (by decide) (by decide) (by rfl) (by rfl)) Qp (by rfl)) (by rfl)) (by rfl)))) (by rfl) (by first|exact .inl rfl|exact .inr rfl|assumption)) (@yE _ _ _ _ _ (@qaY _ _ (2) _ _ _ _ sc.nd rfl (Or.inr rfl) (@QaU _ _ _ _ (@Yb _ _ _ _ _ yH (@Yb _ _ _ _ _ yH (@Yb _ _ _ _ _ yH (@Yb _ _ _ _ _ yH (@Yb _ _ _ _ _ yH (@Yb _ _ _ _ _ yH (@Yb _ _ _ _ _ yH (@Yb _ _ _ _ _ yH (@Yb _ _ _ _ _ yH (@Yb _ _ _ _ _ yH Qp (by rfl)) (by rfl)) (by rfl)) (by rfl)) (by rfl)) (by rfl)) (by rfl)) (by rfl)) (by rfl)) (by rfl))) (by rfl) (by first|exact .inl rfl|exact .inr rfl|assumption)) (@yE _ _ _ _ _ (@ycb _ _ _ _ _ _ _ _ _ _ _ _ _ _ _ _ _ (3) _ _ _ hr.hd (.head _) sc.nd rfl (Or.inl rfl) ["_law_k","_law_words","_law_told"] 1 [2,1] rfl rfl b_range (@Yb _ _ _ _ _ za1 Qp (by rfl)) (λ_ _ _ _=>(@qaN _ _ (0) _ (show(["_law_k","_law_words","_law_told"]:List Str).Nodup from by decide +kernel) rfl (Or.inl rfl) (by first|exact .inl rfl|exact .inr rfl|assumption))) (λ_ _ _ _=>zbP (@qbH _ _ _ (@Zbx _ _ _ _ _ _ _ (Qcm K) (pv 2) (pv 0) (λ_ _=>rfl)) (by intro _;rfl))) (λ_ _ _ _=>(@Zbx _ _ _ _ _ _ _ (Qcm K) (pv 1) (pv 0) (λ_ _=>rfl))) (by rfl) (by intro _;rfl) (by rfl) (by first|exact .inl rfl|exact .inr rfl|assumption)) (@yE _ _ _ _ _ (@QcC _ _ _ _ _ _ _ _ (PW.pt (@QcG _ _ _ _ _ _ _ (@YaO _ _ _ _ _ _ _ _ op_ne (@Qq _ _ _ _ _ _ _ _ _ (qcH K) rfl b_len PySem.boot_len (@Yb _ _ _ _ _ (pv 3) Qp (by rfl)) (by decide) (by decide) (by rfl) (by rfl)) za1 (zcV _)) (@Yb3 _ _ _ _ (@Zb6 _ _ _ _ (@qbH _ _ _ (@Qq _ _ _ _ _ _ _ _ _ (Zw zC (.head _)) rfl b_isinstance boot_isinstance (@Yb _ _ _ _ _ (pv 0) (@Yb _ _ _ _ _ (@zbL _ _ (.ty "ValueError") _ _ rfl b_ValueError (by rfl) rfl (by decide) (by decide)) Qp (by rfl)) (by rfl)) (by decide) (by decide) (by rfl) (by rfl)) (by intro _;rfl)))))) (@YaN _ _ _ (@zbE _ _ _ _ yH)) Zbn) (@YaN _ _ _ (@zbE _ _ _ _ (@Zbx _ _ _ _ _ _ _ (Qcm K) (pv 3) za1 (λ_ _=>rfl))))))))))),?_⟩;have kj:∀(j:Nat) D,[c0,c1,c2,c3,c4,c5,c6,c7,c8,c9][j]?=some D->Ue K (.ref C) (.ref D)=some (decide (j=ix)):=Z.kj;refine⟨_,rfl,_,_,_,rfl,rfl,kj 0 _ rfl,_,rfl,_,_,_,rfl,rfl,kj 1 _ rfl,_,rfl,_,_,_,rfl,rfl,kj 2 _ rfl,(by show 3<=sizeLine;decide),λp1 h1=>?_⟩;generalize hH:upd _ _ _=H1;have g1:H1 p1=some (.lst [.bl (decide (0=ix)),.bl (decide (1=ix)),.bl (decide (2=ix))]):=by rw[<- hH];exact ye
 have s1:Same H H1:=by rw[<- hH];exact yM h1 _
 clear hH;refine⟨_,rfl,.inl ⟨rfl,_,SqL.of g1⟩,_,rfl,_,_,_,rfl,rfl,kj 3 _ rfl,p1,_,_,rfl,rfl,g1,(by show 3<sizeLine;decide),?_⟩;generalize hH:upd _ _ _=H2;have g2:H2 p1=some (.lst [.bl (decide (0=ix)),.bl (decide (1=ix)),.bl (decide (2=ix)),.bl (decide (3=ix))]):=by rw[<- hH];exact ye
 have s2:Same H H2:=by rw[<- hH];exact Same.turn s1 h1 _
 clear hH g1 s1;refine⟨_,rfl,_,rfl,_,_,_,rfl,rfl,kj 4 _ rfl,_,rfl,_,_,_,rfl,rfl,kj 5 _ rfl,_,rfl,_,_,_,rfl,rfl,kj 6 _ rfl,(by show 3<=sizeLine;decide),λp2 h2=>?_⟩;refine⟨p1,p2,_,_,rfl,rfl,(by rw[qc (Zd g2 h2)];exact g2),ye,(by show 7<=sizeLine;decide),λp3 h3=>?_⟩;generalize hH:upd _ _ _=H3;have g3:H3 p3=some (.lst [.bl (decide (0=ix)),.bl (decide (1=ix)),.bl (decide (2=ix)),.bl (decide (3=ix)),.bl (decide (4=ix)),.bl (decide (5=ix)),.bl (decide (6=ix))]):=by rw[<- hH];exact ye
 have s3:Same H H3:=by rw[<- hH];exact s2.trans ((yM h2 _).trans (yM h3 _))
 clear hH;refine⟨_,rfl,_,rfl,_,_,_,rfl,rfl,kj 7 _ rfl,_,rfl,_,_,_,rfl,rfl,kj 8 _ rfl,_,rfl,_,_,_,rfl,rfl,kj 9 _ rfl,(by show 3<=sizeLine;decide),λp4 h4=>?_⟩;refine⟨p3,p4,_,_,rfl,rfl,(by rw[qc (Zd g3 h4)];exact g3),ye,(by show 10<=sizeLine;decide),λp5 h5=>?_⟩;generalize hH:upd _ _ _=H5;have g5:H5 p5=some (.lst ((uc 10).map λj=>V.bl (decide (j=ix)))):=by rw[<- hH];exact ye
 have s5:Same H H5:=by rw[<- hH];exact s3.trans ((yM h4 _).trans (yM h5 _))
 clear hH;refine⟨(by show 10<=sizeLine;decide),λp6 h6=>?_⟩;have hat:∀ i,i<10->atI ((uc 10).map λj=>V.bl (decide (j=ix))) (0+(i:Nat))=some (.bl (decide (i=ix))):=λi hi=>by
  rw[Int.zero_add];exact ybQ (by rw[Uf,Wr hi];rfl)
 have hat2:∀ i,i<10->atI (words10.map V.str) (0+(i:Nat))=some (.str (zbn i)):=λi hi=>by
  rw[Int.zero_add];exact ybQ (by rw[Uf,Xf (show i<words10.length from hi)];unfold zbn;rw[xn,Xf (show i<words10.length from hi)];rfl)
 generalize hH:upd _ _ _=H6;have g6:H6 p6=some (.lst (words10.map V.str)):=by rw[<- hH];exact ye
 have g5:H6 p5=some (.lst ((uc 10).map λj=>V.bl (decide (j=ix)))):=by rw[<- hH,qc (Zd g5 h6)];exact g5
 have s6:Same H H6:=by rw[<- hH];exact s5.trans (yM h6 _)
 clear hH;refine⟨10,rfl,by decide,by decide,?_⟩;refine qcw (n:=10) (λi acc σ H'=>H'=H6/\(∃ z,σ=[z,some (.ref p6),some (.ref p5)])/\acc=if i<=ix then[] else[V.str (zbn ix)]) ?_ (λi acc σ H' hi h=>hi) (λacc σ H' h=>xb _) (λi acc σ H' y H2 hi h hy=>?_) (λacc σ H' h D hD=>?_)
 ·exact⟨rfl,⟨_,rfl⟩,by rw[if_pos (Uk _)]⟩
 ·obtain⟨rfl,⟨z,rfl⟩,rfl⟩:=h;obtain⟨rfl,rfl⟩:=hy;refine⟨_,rfl,_,rfl,p5,_,_,_,rfl,rfl,SqL.of g5,hat i hi,_,rfl,?_⟩;refine ite2 (λc=>?_) (λc=>?_)
  ·have c':i=ix:=of_decide_eq_true c;subst c';refine⟨_,rfl,_,rfl,p6,_,_,_,rfl,rfl,SqL.of g6,hat2 i hi,?_,rfl,⟨_,rfl⟩,?_⟩
   ·rw[if_pos (xb _)];show 0<sizeLine;decide
   ·rw[if_pos (xb _),if_neg (by omega)];rfl
  ·have c':i≠ix:=λe=>c (decide_eq_true e);refine⟨rfl,⟨_,rfl⟩,?_⟩;by_cases h:i<=ix
   ·rw[if_pos h,if_pos (by omega)]
   ·rw[if_neg h,if_neg (by omega)]
 ·obtain⟨rfl,⟨z,rfl⟩,rfl⟩:=h;have hi:=Z.i10;rw[if_neg (by omega)] at *;refine⟨_,rfl,D,_,rfl,.inl (SqL.of ye),rfl,_,rfl,ite2 (λc=>absurd c (by show ¬(!decide (V.int 1=V.int 1))=true;decide)) (λ_=>?_)⟩;refine⟨_,rfl,_,_,_,rfl,rfl,Z.ve,_,rfl,iteF ?_⟩;exact⟨_,rfl,D,_,0,_,rfl,rfl,SqL.of ye,rfl,k _ (s6.trans (yM hD _))⟩
noncomputable def ctOf(K:PySem.W.Frag)(Qm yc Qa qa Ya c1 B:Addr):Tx:=⟨(λs=>match s with
  |"Way"=>Qm
  |"FroWay"=>yc
  |"ColumnWay"=>Qa
  |"FoldedWay"=>qa
  |"MaskedWay"=>Ya
  |"OutOfPicture"=>c1
  |"DotError"=>B
  |_=>0),K,0,0,⟨0,0,0,0⟩,Str.ofString ""⟩
theorem all_mk{l:PySem.W.OpenLaw}{w:World}{K:PySem.W.Frag}{h:Heap}{mg:Str->Option Value}{fa:Addr}{cd0:ClassData}{c0:Addr}{cd1:ClassData}{c1:Addr}{cd2:ClassData}{c2:Addr}{cd3:ClassData}{c3:Addr}{cd4:ClassData}{c4:Addr}{cd5:ClassData}{c5:Addr}{cd6:ClassData}{c6:Addr}{cd7:ClassData}{c7:Addr}{cd8:ClassData}{c8:Addr}{cd9:ClassData}{c9:Addr}{B:Addr}{Qm:Addr}{zcN:ClassData}{yc:Addr}{QbT:ClassData}{Qa:Addr}{Zbi:ClassData}{qa:Addr}{ybe:ClassData}{Ya:Addr}{qbi:ClassData}{ZD:Addr}{zaU Za0:Option Addr}{ZaZ:Array (Option Value)}{YaX zaV ZaV za0 Q1 ZaU:Value}{yD:Addr}{qaU zaZ:Option Addr}{zaT:Array (Option Value)}{qa0 Ya1 ZaS ZaX Z9 ZaY:Value}{YJ:Addr}{Za4 Za5:Option Addr}{Qa5:Array (Option Value)}{Za3 Qa2 Ya6 ya6 Yal za6:Value}{zx:Addr}{Yau qaz:Option Addr}{YaA:Array (Option Value)}{yay zaz yax Yar ZP Qau:Value}{Zy:Addr}{zaI qaI:Option Addr}{zaF:Array (Option Value)}{ZaE yaH zaC yaC yS YaD:Value}{Qr:Addr}{Y2 Y3:Option Addr}{Zab:Array (Option Value)}{Z3 yab Z5 Z4 QD qab:Value}{yu:Addr}{Qag Zaf:Option Addr}{Yah:Array (Option Value)}{zaj Zak qag Qai QH yae:Value}{qr:Addr}{Y0 Y7:Option Addr}{QZ:Array (Option Value)}{y3 yaa Q4 Z8 YE YZ:Value}{zu:Addr}{yah yaf:Option Addr}{Qah:Array (Option Value)}{Zah zak zai qai ZJ Qaj:Value}{Zs:Addr}{zab Z2:Option Addr}{Y5:Array (Option Value)}{Z0 Y6 Qab Z1 zE Y9:Value}{Zu:Addr}{yaj zag:Option Addr}{zaf:Array (Option Value)}{yag Yaj qaf Yai YI Yag:Value}{ych:Addr}{Yc1 Qch:Option Addr}{QcZ:Array (Option Value)}{ycJ Qb9 Qb7 Ycf QbB zcc:Value}(X:K.In h)(G:h.Ns mainGlobals mg)(hfa:mg "law"=some (.ref fa))
  (zG:Src K mg "cells_by_rows" YG ["high","wide"]) (Qaq:Src K mg "ask_size" qal ["high","wide"]) (yQ:Src K mg "ways_within" qQ ["way"]) (YN:Src K mg "folded_cells" zL ["side"]) (ZR:Src K mg "folded_once" QP ["cells","side"]) (Z6:Src K mg "_law_next" Yaa ["_law_script","_law_at"]) (Zac:Src K mg "_law_same" Y1 ["_law_found","_law_due"]) (YX:Src K mg "_law_order" QW ["_law_rows","_law_columns","_law_word_here"]) (Q2:Src K mg "_law_mask" Zaa ["_law_script","_law_at","_law_rows","_law_columns"]) (YH:Src K mg "_law_no_order" ZG ["_law_way","_law_rows","_law_columns"]) (ycc:Src K mg "law" zal ["_law_script"]) (Yab:Src K mg "_law_word" qO ["_law_e"])
  (z_abs:Vb K mainGlobals "abs"=some none)
  (z_all:Vb K mainGlobals "all"=some none)
  (ycS:Vb K mainGlobals "bool"=some none)
  (qcI:Vb K mainGlobals "dict"=some none)
  (z_divmod:Vb K mainGlobals "divmod"=some none)
  (Zbs:Vb K mainGlobals "enumerate"=some none)
  (z_int:Vb K mainGlobals "int"=some none)
  (qax:Vb K mainGlobals "isinstance"=some none)
  (QcF:Vb K mainGlobals "len"=some none)
  (yci:Vb K mainGlobals "list"=some none)
  (z_max:Vb K mainGlobals "max"=some none)
  (z_min:Vb K mainGlobals "min"=some none)
  (ZbQ:Vb K mainGlobals "range"=some none)
  (QbA:Vb K mainGlobals "reversed"=some none)
  (qci:Vb K mainGlobals "sorted"=some none)
  (z_str:Vb K mainGlobals "str"=some none)
  (z_sum:Vb K mainGlobals "sum"=some none)
  (ZbL:Vb K mainGlobals "tuple"=some none)
  (z_zip:Vb K mainGlobals "zip"=some none)
  (Zbj:Vb K mainGlobals "ValueError"=some none)
  (a0:Vb K mainGlobals "NoPicture"=some (some (.ref c0)))
  (ci0:Vd K c0=some cd0)
  (ty0:uf K (.ref c0)=some (.type "type"))
  (a1:Vb K mainGlobals "OutOfPicture"=some (some (.ref c1)))
  (ci1:Vd K c1=some cd1)
  (ty1:uf K (.ref c1)=some (.type "type"))
  (a2:Vb K mainGlobals "NoMeet"=some (some (.ref c2)))
  (ci2:Vd K c2=some cd2)
  (ty2:uf K (.ref c2)=some (.type "type"))
  (a3:Vb K mainGlobals "NoTile"=some (some (.ref c3)))
  (ci3:Vd K c3=some cd3)
  (ty3:uf K (.ref c3)=some (.type "type"))
  (a4:Vb K mainGlobals "NoInks"=some (some (.ref c4)))
  (ci4:Vd K c4=some cd4)
  (ty4:uf K (.ref c4)=some (.type "type"))
  (a5:Vb K mainGlobals "NoShares"=some (some (.ref c5)))
  (ci5:Vd K c5=some cd5)
  (ty5:uf K (.ref c5)=some (.type "type"))
  (a6:Vb K mainGlobals "NoShade"=some (some (.ref c6)))
  (ci6:Vd K c6=some cd6)
  (ty6:uf K (.ref c6)=some (.type "type"))
  (a7:Vb K mainGlobals "NoStretches"=some (some (.ref c7)))
  (ci7:Vd K c7=some cd7)
  (ty7:uf K (.ref c7)=some (.type "type"))
  (a8:Vb K mainGlobals "NoWay"=some (some (.ref c8)))
  (ci8:Vd K c8=some cd8)
  (ty8:uf K (.ref c8)=some (.type "type"))
  (a9:Vb K mainGlobals "NoText"=some (some (.ref c9)))
  (ci9:Vd K c9=some cd9)
  (ty9:uf K (.ref c9)=some (.type "type"))
  (aB:Vb K mainGlobals "DotError"=some (some (.ref B)))
  (qB:vw K B bmV "ValueError.__new__"=true)
  (gn:Wp K (.builtin "object.__class__") "__get__"=some (some (.builtin "getset_descriptor.__get__")))
  (tk:Xr K (.builtin "object.__class__")=some true)
  (q1:vw K c1 bmV "ValueError.__new__"=true)
  (ga1:Ua K (.ref c1) "__getattribute__"=some (some (.builtin "BaseException.__getattribute__")))
  (gt1:Ua K (.ref c1) "__getattr__"=some none)
  (cl1:Ua K (.ref c1) "__class__"=some (some (.builtin "object.__class__")))
  (mo1:Wl K c1 (.type "object")=some true)
  (sv1:xa K (.ref c1) (.type "ValueError")=some true)
  (un1:cd1.mro.tail.contains (.ref B)=true)
  (s1_0:xa K (.ref c1) (.ref c0)=some false)
  (s1_1:xa K (.ref c1) (.ref c1)=some true)
  (s1_2:xa K (.ref c1) (.ref c2)=some false)
  (s1_3:xa K (.ref c1) (.ref c3)=some false)
  (s1_4:xa K (.ref c1) (.ref c4)=some false)
  (s1_5:xa K (.ref c1) (.ref c5)=some false)
  (s1_6:xa K (.ref c1) (.ref c6)=some false)
  (s1_7:xa K (.ref c1) (.ref c7)=some false)
  (s1_8:xa K (.ref c1) (.ref c8)=some false)
  (s1_9:xa K (.ref c1) (.ref c9)=some false)
  (ZaH:Vb K mainGlobals "Way"=some (some (.ref Qm)))
  (qP:Vd K Qm=some zcN)
  (QQ:uf K (.ref Qm)=some (.type "type"))
  (ZC:wj K Qm Str.empty=true)
  (zD:uj K Qm=true)
  (YB:wl K Qm=true)
  (ZB:Ua K (.ref Qm) "__setattr__"=some (some (.builtin "object.__setattr__")))
  (yN:Ua K (.ref Qm) "__class__"=some (some (.builtin "object.__class__")))
  (ZO:Wl K Qm (.type "object")=some true)
  (zbw:xa K (.ref Qm) (.type "dict")=some false)
  (ybv:xa K (.ref Qm) (.type "list")=some false)
  (ybi:xa K (.ref Qm) (.type "tuple")=some false)
  (ZbB:xa K (.ref Qm) (.type "str")=some false)
  (qbG:xa K (.ref Qm) (.type "int")=some false)
  (Zbt:xa K (.ref Qm) (.type "bool")=some false)
  (ZK:Vb K mainGlobals "FroWay"=some (some (.ref yc)))
  (Zv:Vd K yc=some QbT)
  (zv:uf K (.ref yc)=some (.type "type"))
  (zo:wj K yc Str.empty=true)
  (Zo:uj K yc=true)
  (Yo:wl K yc=true)
  (qo:Ua K (.ref yc) "__setattr__"=some (some (.builtin "object.__setattr__")))
  (Ys:Ua K (.ref yc) "__class__"=some (some (.builtin "object.__class__")))
  (yt:Wl K yc (.type "object")=some true)
  (YaQ:xa K (.ref yc) (.type "dict")=some false)
  (ya1:xa K (.ref yc) (.type "list")=some false)
  (QaM:xa K (.ref yc) (.type "tuple")=some false)
  (ya3:xa K (.ref yc) (.type "str")=some false)
  (Ya2:xa K (.ref yc) (.type "int")=some false)
  (Qa1:xa K (.ref yc) (.type "bool")=some false)
  (Qw:Vb K mainGlobals "ColumnWay"=some (some (.ref Qa)))
  (Zm:Vd K Qa=some Zbi)
  (Yl:uf K (.ref Qa)=some (.type "type"))
  (zi:wj K Qa Str.empty=true)
  (qh:uj K Qa=true)
  (Qh:wl K Qa=true)
  (Qg:Ua K (.ref Qa) "__setattr__"=some (some (.builtin "object.__setattr__")))
  (zk:Ua K (.ref Qa) "__class__"=some (some (.builtin "object.__class__")))
  (Yk:Wl K Qa (.type "object")=some true)
  (Qax:xa K (.ref Qa) (.type "dict")=some false)
  (zay:xa K (.ref Qa) (.type "list")=some false)
  (Zaq:xa K (.ref Qa) (.type "tuple")=some false)
  (zaH:xa K (.ref Qa) (.type "str")=some false)
  (qaF:xa K (.ref Qa) (.type "int")=some false)
  (Qat:xa K (.ref Qa) (.type "bool")=some false)
  (yw:Vb K mainGlobals "FoldedWay"=some (some (.ref qa)))
  (zm:Vd K qa=some ybe)
  (ym:uf K (.ref qa)=some (.type "type"))
  (Yi:wj K qa Str.empty=true)
  (zh:uj K qa=true)
  (Yg:wl K qa=true)
  (yi:Ua K (.ref qa) "__setattr__"=some (some (.builtin "object.__setattr__")))
  (yk:Ua K (.ref qa) "__class__"=some (some (.builtin "object.__class__")))
  (Zk:Wl K qa (.type "object")=some true)
  (zat:xa K (.ref qa) (.type "dict")=some false)
  (Zav:xa K (.ref qa) (.type "list")=some false)
  (yap:xa K (.ref qa) (.type "tuple")=some false)
  (YaI:xa K (.ref qa) (.type "str")=some false)
  (ZaI:xa K (.ref qa) (.type "int")=some false)
  (ZaB:xa K (.ref qa) (.type "bool")=some false)
  (qw:Vb K mainGlobals "MaskedWay"=some (some (.ref Ya)))
  (Ql:Vd K Ya=some qbi)
  (ql:uf K (.ref Ya)=some (.type "type"))
  (zf:wj K Ya Str.empty=true)
  (Yf:uj K Ya=true)
  (yf:wl K Ya=true)
  (Zf:Ua K (.ref Ya) "__setattr__"=some (some (.builtin "object.__setattr__")))
  (qk:Ua K (.ref Ya) "__class__"=some (some (.builtin "object.__class__")))
  (Qj:Wl K Ya (.type "object")=some true)
  (zaL:Ua K (.ref Ya) "way"=some none)
  (qaG:Ua K (.ref Ya) "mask"=some none)
  (qay:xa K (.ref Ya) (.type "dict")=some false)
  (qav:xa K (.ref Ya) (.type "list")=some false)
  (Yam:xa K (.ref Ya) (.type "tuple")=some false)
  (yaF:xa K (.ref Ya) (.type "str")=some false)
  (ZaC:xa K (.ref Ya) (.type "int")=some false)
  (yau:xa K (.ref Ya) (.type "bool")=some false)
  (QA:xa K (.ref Qm) (.ref Qm)=some true)
  (ya2:xa K (.ref Qm) (.ref yc)=some false)
  (qaE:xa K (.ref Qm) (.ref Qa)=some false)
  (QaB:xa K (.ref Qm) (.ref qa)=some false)
  (ZaF:xa K (.ref Qm) (.ref Ya)=some false)
  (za3:xa K (.ref yc) (.ref Qm)=some true)
  (Qn:xa K (.ref yc) (.ref yc)=some true)
  (yak:xa K (.ref yc) (.ref Qa)=some false)
  (qah:xa K (.ref yc) (.ref qa)=some false)
  (Zai:xa K (.ref yc) (.ref Ya)=some false)
  (QaD:xa K (.ref Qa) (.ref Qm)=some true)
  (zah:xa K (.ref Qa) (.ref yc)=some false)
  (Zh:xa K (.ref Qa) (.ref Qa)=some true)
  (YU:xa K (.ref Qa) (.ref qa)=some false)
  (zW:xa K (.ref Qa) (.ref Ya)=some false)
  (qaD:xa K (.ref qa) (.ref Qm)=some true)
  (Yae:xa K (.ref qa) (.ref yc)=some false)
  (YV:xa K (.ref qa) (.ref Qa)=some false)
  (Yh:xa K (.ref qa) (.ref qa)=some true)
  (ZW:xa K (.ref qa) (.ref Ya)=some false)
  (yaG:xa K (.ref Ya) (.ref Qm)=some true)
  (Zaj:xa K (.ref Ya) (.ref yc)=some false)
  (qW:xa K (.ref Ya) (.ref Qa)=some false)
  (yU:xa K (.ref Ya) (.ref qa)=some false)
  (Zi:xa K (.ref Ya) (.ref Ya)=some true)
  (Ybg:Uj K Ya=true)
  (Ybh:Uc K (.ref Ya)=true)
  (Ybl:Ua K (.ref Ya) "__init__"=some (some (.ref ZD)))
  (Ybe:Wi K (.ref ZD)=true)
  (Zbo:K.lookup ZD=some ⟨YaX,zaU,.func (Wf "__init__" "MaskedWay.__init__" (Qk Ym) (Zg Ym) (yb Ym) .none zaV ZaV za0 Za0 Q1 ZaU),ZaZ⟩)
  (Qbn:Xg K Q1 "MaskedWay.__init__"=true)
  (ybl:Uc K (.ref ZD)=true)
  (zbo:Ua K (.ref Qm) "order"=some (some (.ref yD)))
  (Ybn:Wi K (.ref yD)=true)
  (qbm:K.lookup yD=some ⟨qa0,qaU,.func (Wf "order" "Way.order" (Qk qF) (Zg qF) (yb qF) .none Ya1 ZaS ZaX zaZ Z9 ZaY),zaT⟩)
  (qbk:Xg K Z9 "Way.order"=true)
  (Zal:Uc K (.ref yD)=true)
  (Ybx:Ua K (.ref Qm) "word"=some (some (.ref YJ)))
  (Qby:Wi K (.ref YJ)=true)
  (yby:K.lookup YJ=some ⟨Za3,Za4,.func (Wf "word" "Way.word" (Qk YM) (Zg YM) (yb YM) .none Qa2 Ya6 ya6 Za5 Yal za6),Qa5⟩)
  (qbx:Xg K Yal "Way.word"=true)
  (yaw:Uc K (.ref YJ)=true)
  (qaK:Ua K (.ref yc) "order"=some (some (.ref zx)))
  (yaN:Wi K (.ref zx)=true)
  (YaM:K.lookup zx=some ⟨yay,Yau,.func (Wf "order" "FroWay.order" (Qk zw) (Zg zw) (yb zw) .none zaz yax Yar qaz ZP Qau),YaA⟩)
  (qaM:Xg K ZP "FroWay.order"=true)
  (qS:Uc K (.ref zx)=true)
  (QaP:Ua K (.ref yc) "word"=some (some (.ref Zy)))
  (qaZ:Wi K (.ref Zy)=true)
  (yaY:K.lookup Zy=some ⟨ZaE,zaI,.func (Wf "word" "FroWay.word" (Qk yx) (Zg yx) (yb yx) .none yaH zaC yaC qaI yS YaD),zaF⟩)
  (yaW:Xg K yS "FroWay.word"=true)
  (yY:Uc K (.ref Zy)=true)
  (zam:Ua K (.ref Qa) "order"=some (some (.ref Qr)))
  (Zao:Wi K (.ref Qr)=true)
  (zan:K.lookup Qr=some ⟨Z3,Y2,.func (Wf "order" "ColumnWay.order" (Qk Zr) (Zg Zr) (yb Zr) .none yab Z5 Z4 Y3 QD qab),Zab⟩)
  (zao:Xg K QD "ColumnWay.order"=true)
  (qI:Uc K (.ref Qr)=true)
  (qas:Ua K (.ref Qa) "word"=some (some (.ref yu)))
  (Yav:Wi K (.ref yu)=true)
  (yas:K.lookup yu=some ⟨zaj,Qag,.func (Wf "word" "ColumnWay.word" (Qk Qs) (Zg Qs) (yb Qs) .none Zak qag Qai Zaf QH yae),Yah⟩)
  (Zar:Xg K QH "ColumnWay.word"=true)
  (yL:Uc K (.ref yu)=true)
  (yam:Ua K (.ref qa) "order"=some (some (.ref qr)))
  (zaq:Wi K (.ref qr)=true)
  (Yao:K.lookup qr=some ⟨y3,Y0,.func (Wf "order" "FoldedWay.order" (Qk Yq) (Zg Yq) (yb Yq) .none yaa Q4 Z8 Y7 YE YZ),QZ⟩)
  (Qap:Xg K YE "FoldedWay.order"=true)
  (ZI:Uc K (.ref qr)=true)
  (Yay:Ua K (.ref qa) "word"=some (some (.ref zu)))
  (zaB:Wi K (.ref zu)=true)
  (Zaw:K.lookup zu=some ⟨Zah,yah,.func (Wf "word" "FoldedWay.word" (Qk Yt) (Zg Yt) (yb Yt) .none zak zai qai yaf ZJ Qaj),Qah⟩)
  (qaw:Xg K ZJ "FoldedWay.word"=true)
  (QN:Uc K (.ref zu)=true)
  (Zan:Ua K (.ref Ya) "order"=some (some (.ref Zs)))
  (Yan:Wi K (.ref Zs)=true)
  (qaq:K.lookup Zs=some ⟨Z0,zab,.func (Wf "order" "MaskedWay.order" (Qk yq) (Zg yq) (yb yq) .none Y6 Qab Z1 Z2 zE Y9),Y5⟩)
  (qao:Xg K zE "MaskedWay.order"=true)
  (zI:Uc K (.ref Zs)=true)
  (Yaw:Ua K (.ref Ya) "word"=some (some (.ref Zu)))
  (yaz:Wi K (.ref Zu)=true)
  (Zas:K.lookup Zu=some ⟨yag,yaj,.func (Wf "word" "MaskedWay.word" (Qk Zt) (Zg Zt) (yb Zt) .none Yaj qaf Yai zag YI Yag),zaf⟩)
  (Qav:Xg K YI "MaskedWay.word"=true)
  (ZL:Uc K (.ref Zu)=true)
  (zcS:Uj K Qm=true)
  (ycL:Uc K (.ref Qm)=true)
  (ZcM:Ua K (.ref Qm) "__init__"=some (some (.builtin "object.__init__")))
  (Zb1:Uj K yc=true)
  (qbS:Uc K (.ref yc)=true)
  (ZbU:Ua K (.ref yc) "__init__"=some (some (.builtin "object.__init__")))
  (zbl:Uj K Qa=true)
  (ybk:Uc K (.ref Qa)=true)
  (ybh:Ua K (.ref Qa) "__init__"=some (some (.builtin "object.__init__")))
  (ybj:Uj K qa=true)
  (Zbk:Uc K (.ref qa)=true)
  (Qbj:Ua K (.ref qa) "__init__"=some (some (.builtin "object.__init__")))
  (al:Vb K mainGlobals "law"=some (some (.ref ych)))
  (ll:K.lookup ych=some ⟨ycJ,Yc1,.func (Wf "law" "law" (Qk zal) (Zg zal) (yb zal) .none Qb9 Qb7 Ycf Qch QbB zcc),QcZ⟩)
  (kl:Xg K QbB "law"=true)
  (kq:Uc K (.ref ych)=true) :
  ∃ fd:FuncData,(∀(s:Shared)(v:Value),BindsTo s fd ⟨[v],[]⟩ [("_law_script",v)])/\∀ base:Heap,K.In base->base.Ns mainGlobals mg->FnOk l.prog w K mg base (CX1 l.prog w) 14 fa fd ["_law_script"] (qbN K):=by
 have e:=hfa.symm.trans (Wb X G al);cases e;have F_MaskedWay:=zB (st:=Ym) Zbo Qbn ybl;have zbk:=F_MaskedWay.binds (ps:=["self","way","mask"]) λ_ _ _ _ _ _ us hl=>by obtain⟨_,_,_,rfl⟩:=ln3 hl;rfl
 have F_m_Way_order:=zB (st:=qF) qbm qbk Zal;have qaX:=F_m_Way_order.binds (ps:=["self","high","wide"]) λ_ _ _ _ _ _ us hl=>by obtain⟨_,_,_,rfl⟩:=ln3 hl;rfl
 have F_m_Way_word:=zB (st:=YM) yby qbx yaw;have qa3:=F_m_Way_word.binds (ps:=["self"]) λ_ _ _ _ _ _ us hl=>by obtain⟨_,rfl⟩:=ln1 hl;rfl
 have F_m_FroWay_order:=zB (st:=zw) YaM qaM qS;have qau:=F_m_FroWay_order.binds (ps:=["self","high","wide"]) λ_ _ _ _ _ _ us hl=>by obtain⟨_,_,_,rfl⟩:=ln3 hl;rfl
 have F_m_FroWay_word:=zB (st:=yx) yaY yaW yY;have YaF:=F_m_FroWay_word.binds (ps:=["self"]) λ_ _ _ _ _ _ us hl=>by obtain⟨_,rfl⟩:=ln1 hl;rfl
 have F_m_ColumnWay_order:=zB (st:=Zr) zan zao qI;have Q5:=F_m_ColumnWay_order.binds (ps:=["self","high","wide"]) λ_ _ _ _ _ _ us hl=>by obtain⟨_,_,_,rfl⟩:=ln3 hl;rfl
 have F_m_ColumnWay_word:=zB (st:=Qs) yas Zar yL;have Yaf:=F_m_ColumnWay_word.binds (ps:=["self"]) λ_ _ _ _ _ _ us hl=>by obtain⟨_,rfl⟩:=ln1 hl;rfl
 have F_m_FoldedWay_order:=zB (st:=Yq) Yao Qap ZI;have Qaa:=F_m_FoldedWay_order.binds (ps:=["self","high","wide"]) λ_ _ _ _ _ _ us hl=>by obtain⟨_,_,_,rfl⟩:=ln3 hl;rfl
 have F_m_FoldedWay_word:=zB (st:=Yt) Zaw qaw QN;have qae:=F_m_FoldedWay_word.binds (ps:=["self"]) λ_ _ _ _ _ _ us hl=>by obtain⟨_,rfl⟩:=ln1 hl;rfl
 have F_m_MaskedWay_order:=zB (st:=yq) qaq qao zI;have Q0:=F_m_MaskedWay_order.binds (ps:=["self","high","wide"]) λ_ _ _ _ _ _ us hl=>by obtain⟨_,_,_,rfl⟩:=ln3 hl;rfl
 have F_m_MaskedWay_word:=zB (st:=Zt) Zas Qav ZL;have yai:=F_m_MaskedWay_word.binds (ps:=["self"]) λ_ _ _ _ _ _ us hl=>by obtain⟨_,rfl⟩:=ln1 hl;rfl
 have Fl:=zB (st:=zal) ll kl kq;have T:Text K mg prog (ctOf K Qm yc Qa qa Ya c1 B):=by
  refine⟨rfl,?_,?_,?_,?_,?_,?_,?_,?_,?_,?_,?_,?_,?_,?_,?_,?_,?_⟩
  ·exactλf d hd hdot=>Zbd (L:=defsL) (P:=λf d=>f.toList.contains '.'=false->∃ st N ps,Src K mg (Str.ofString f) st ps/\(Yw prog d N ps st=true\/Yb5 K mg prog (ctOf K Qm yc Qa qa Ya c1 B) f ps)) (by
   refine⟨?_,?_,?_,?_,?_,?_,?_,?_,?_,?_,?_,?_,?_,?_,?_,?_,?_,?_,?_,?_,?_,?_,trivial⟩
   ·exactλ_=>⟨_,_,_,zG,.inl qaL⟩
   ·exactλ_=>⟨_,_,_,Qaq,.inl ybB⟩
   ·exactλhdot=>absurd hdot (by decide)
   ·exactλhdot=>absurd hdot (by decide)
   ·exactλhdot=>absurd hdot (by decide)
   ·exactλhdot=>absurd hdot (by decide)
   ·exactλhdot=>absurd hdot (by decide)
   ·exactλhdot=>absurd hdot (by decide)
   ·exactλhdot=>absurd hdot (by decide)
   ·exactλhdot=>absurd hdot (by decide)
   ·exactλhdot=>absurd hdot (by decide)
   ·exactλhdot=>absurd hdot (by decide)
   ·exactλhdot=>absurd hdot (by decide)
   ·exactλ_=>⟨_,_,_,yQ,.inl qa2⟩
   ·exactλ_=>⟨_,_,_,YN,.inl QaQ⟩
   ·exactλ_=>⟨_,_,_,ZR,.inl za5⟩
   ·exactλ_=>⟨_,_,_,Z6,.inl Ybv⟩
   ·exactλ_=>⟨_,_,_,Zac,.inl Qbv⟩
   ·exactλ_=>⟨_,_,_,YX,.inl Zbh⟩
   ·exactλ_=>⟨_,_,_,Q2,.inl zbz⟩
   ·exactλ_=>⟨_,_,_,YH,.inl YaK⟩
   ·exactλ_=>⟨_,_,_,ycc,.inl YcG⟩) hd hdot
  ·intro c f hi;simp only[prog] at hi;split at hi
   ·rename_i z;exact absurd z (by decide)
   ·rename_i z;exact absurd z (by decide)
   ·rename_i z;exact absurd z (by decide)
   ·rename_i z;exact absurd z (by decide)
   ·rename_i z;exact absurd z (by decide)
   ·rename_i z;exact absurd z (by decide)
   ·rename_i z;exact absurd z (by decide)
   ·rename_i z;exact absurd z (by decide)
   ·cases hi;exact⟨_,_,_,_,_,_,_,_,rfl,⟨Ybg,Ybl,Ybe,Ybh⟩,F_MaskedWay,zbk,Wb X G qw,Z7⟩
   ·rename_i z;exact absurd z (by decide)
   ·rename_i z;exact absurd z (by decide)
   ·cases hi
  ·intro x hx;simp only[fnNames,tyNames,isTys,wu,Wg,vb,xf,or_false] at hx
   rcases hx with rfl|rfl|rfl|rfl|rfl|rfl|rfl|rfl|rfl|rfl|rfl|rfl|rfl|rfl|rfl|rfl
   ·exact ud X G QcF
   ·exact ud X G z_all
   ·exact ud X G ZbL
   ·exact ud X G yci
   ·exact ud X G qcI
   ·exact ud X G yci
   ·exact ud X G ZbL
   ·exact ud X G z_str
   ·exact ud X G z_int
   ·exact ud X G ycS
   ·exact ud X G ZbQ
   ·exact ud X G z_zip
   ·exact ud X G Zbs
   ·exact ud X G qax
   ·exact ud X G qci
   ·exact ud X G QbA
  ·intro c f hf;simp only[prog] at hf;split at hf
   ·exact⟨⟨zf,Yf,yf,Zf⟩,zaL⟩
   ·exact⟨⟨zf,Yf,yf,Zf⟩,qaG⟩
   ·cases hf
  ·intro c t b hs;simp only[prog] at hs;split at hs
   ·exact⟨⟨ZC,zD,YB,ZB⟩,yN,gn,tk,ZO⟩
   ·exact⟨⟨ZC,zD,YB,ZB⟩,yN,gn,tk,ZO⟩
   ·exact⟨⟨ZC,zD,YB,ZB⟩,yN,gn,tk,ZO⟩
   ·exact⟨⟨ZC,zD,YB,ZB⟩,yN,gn,tk,ZO⟩
   ·exact⟨⟨ZC,zD,YB,ZB⟩,yN,gn,tk,ZO⟩
   ·exact⟨⟨ZC,zD,YB,ZB⟩,yN,gn,tk,ZO⟩
   ·exact⟨⟨ZC,zD,YB,ZB⟩,yN,gn,tk,ZO⟩
   ·exact⟨⟨ZC,zD,YB,ZB⟩,yN,gn,tk,ZO⟩
   ·exact⟨⟨ZC,zD,YB,ZB⟩,yN,gn,tk,ZO⟩
   ·exact⟨⟨ZC,zD,YB,ZB⟩,yN,gn,tk,ZO⟩
   ·exact⟨⟨ZC,zD,YB,ZB⟩,yN,gn,tk,ZO⟩
   ·exact⟨⟨zo,Zo,Yo,qo⟩,Ys,gn,tk,yt⟩
   ·exact⟨⟨zo,Zo,Yo,qo⟩,Ys,gn,tk,yt⟩
   ·exact⟨⟨zo,Zo,Yo,qo⟩,Ys,gn,tk,yt⟩
   ·exact⟨⟨zo,Zo,Yo,qo⟩,Ys,gn,tk,yt⟩
   ·exact⟨⟨zo,Zo,Yo,qo⟩,Ys,gn,tk,yt⟩
   ·exact⟨⟨zo,Zo,Yo,qo⟩,Ys,gn,tk,yt⟩
   ·exact⟨⟨zo,Zo,Yo,qo⟩,Ys,gn,tk,yt⟩
   ·exact⟨⟨zo,Zo,Yo,qo⟩,Ys,gn,tk,yt⟩
   ·exact⟨⟨zo,Zo,Yo,qo⟩,Ys,gn,tk,yt⟩
   ·exact⟨⟨zo,Zo,Yo,qo⟩,Ys,gn,tk,yt⟩
   ·exact⟨⟨zo,Zo,Yo,qo⟩,Ys,gn,tk,yt⟩
   ·exact⟨⟨zi,qh,Qh,Qg⟩,zk,gn,tk,Yk⟩
   ·exact⟨⟨zi,qh,Qh,Qg⟩,zk,gn,tk,Yk⟩
   ·exact⟨⟨zi,qh,Qh,Qg⟩,zk,gn,tk,Yk⟩
   ·exact⟨⟨zi,qh,Qh,Qg⟩,zk,gn,tk,Yk⟩
   ·exact⟨⟨zi,qh,Qh,Qg⟩,zk,gn,tk,Yk⟩
   ·exact⟨⟨zi,qh,Qh,Qg⟩,zk,gn,tk,Yk⟩
   ·exact⟨⟨zi,qh,Qh,Qg⟩,zk,gn,tk,Yk⟩
   ·exact⟨⟨zi,qh,Qh,Qg⟩,zk,gn,tk,Yk⟩
   ·exact⟨⟨zi,qh,Qh,Qg⟩,zk,gn,tk,Yk⟩
   ·exact⟨⟨zi,qh,Qh,Qg⟩,zk,gn,tk,Yk⟩
   ·exact⟨⟨zi,qh,Qh,Qg⟩,zk,gn,tk,Yk⟩
   ·exact⟨⟨Yi,zh,Yg,yi⟩,yk,gn,tk,Zk⟩
   ·exact⟨⟨Yi,zh,Yg,yi⟩,yk,gn,tk,Zk⟩
   ·exact⟨⟨Yi,zh,Yg,yi⟩,yk,gn,tk,Zk⟩
   ·exact⟨⟨Yi,zh,Yg,yi⟩,yk,gn,tk,Zk⟩
   ·exact⟨⟨Yi,zh,Yg,yi⟩,yk,gn,tk,Zk⟩
   ·exact⟨⟨Yi,zh,Yg,yi⟩,yk,gn,tk,Zk⟩
   ·exact⟨⟨Yi,zh,Yg,yi⟩,yk,gn,tk,Zk⟩
   ·exact⟨⟨Yi,zh,Yg,yi⟩,yk,gn,tk,Zk⟩
   ·exact⟨⟨Yi,zh,Yg,yi⟩,yk,gn,tk,Zk⟩
   ·exact⟨⟨Yi,zh,Yg,yi⟩,yk,gn,tk,Zk⟩
   ·exact⟨⟨Yi,zh,Yg,yi⟩,yk,gn,tk,Zk⟩
   ·exact⟨⟨zf,Yf,yf,Zf⟩,qk,gn,tk,Qj⟩
   ·exact⟨⟨zf,Yf,yf,Zf⟩,qk,gn,tk,Qj⟩
   ·exact⟨⟨zf,Yf,yf,Zf⟩,qk,gn,tk,Qj⟩
   ·exact⟨⟨zf,Yf,yf,Zf⟩,qk,gn,tk,Qj⟩
   ·exact⟨⟨zf,Yf,yf,Zf⟩,qk,gn,tk,Qj⟩
   ·exact⟨⟨zf,Yf,yf,Zf⟩,qk,gn,tk,Qj⟩
   ·exact⟨⟨zf,Yf,yf,Zf⟩,qk,gn,tk,Qj⟩
   ·exact⟨⟨zf,Yf,yf,Zf⟩,qk,gn,tk,Qj⟩
   ·exact⟨⟨zf,Yf,yf,Zf⟩,qk,gn,tk,Qj⟩
   ·exact⟨⟨zf,Yf,yf,Zf⟩,qk,gn,tk,Qj⟩
   ·exact⟨⟨zf,Yf,yf,Zf⟩,qk,gn,tk,Qj⟩
   ·cases hs
  ·intro c t b hs ht;simp only[prog] at hs;split at hs
   ·cases hs;exact⟨Wb X G ZaH,Yd QA qP QQ QA⟩
   ·cases hs;exact⟨Wb X G ZK,Yd QA Zv zv ya2⟩
   ·cases hs;exact⟨Wb X G Qw,Yd QA Zm Yl qaE⟩
   ·cases hs;exact⟨Wb X G yw,Yd QA zm ym QaB⟩
   ·cases hs;exact⟨Wb X G qw,Yd QA Ql ql ZaF⟩
   ·exact absurd ht (by decide)
   ·exact absurd ht (by decide)
   ·exact absurd ht (by decide)
   ·exact absurd ht (by decide)
   ·exact absurd ht (by decide)
   ·exact absurd ht (by decide)
   ·cases hs;exact⟨Wb X G ZaH,Yd Qn qP QQ za3⟩
   ·cases hs;exact⟨Wb X G ZK,Yd Qn Zv zv Qn⟩
   ·cases hs;exact⟨Wb X G Qw,Yd Qn Zm Yl yak⟩
   ·cases hs;exact⟨Wb X G yw,Yd Qn zm ym qah⟩
   ·cases hs;exact⟨Wb X G qw,Yd Qn Ql ql Zai⟩
   ·exact absurd ht (by decide)
   ·exact absurd ht (by decide)
   ·exact absurd ht (by decide)
   ·exact absurd ht (by decide)
   ·exact absurd ht (by decide)
   ·exact absurd ht (by decide)
   ·cases hs;exact⟨Wb X G ZaH,Yd Zh qP QQ QaD⟩
   ·cases hs;exact⟨Wb X G ZK,Yd Zh Zv zv zah⟩
   ·cases hs;exact⟨Wb X G Qw,Yd Zh Zm Yl Zh⟩
   ·cases hs;exact⟨Wb X G yw,Yd Zh zm ym YU⟩
   ·cases hs;exact⟨Wb X G qw,Yd Zh Ql ql zW⟩
   ·exact absurd ht (by decide)
   ·exact absurd ht (by decide)
   ·exact absurd ht (by decide)
   ·exact absurd ht (by decide)
   ·exact absurd ht (by decide)
   ·exact absurd ht (by decide)
   ·cases hs;exact⟨Wb X G ZaH,Yd Yh qP QQ qaD⟩
   ·cases hs;exact⟨Wb X G ZK,Yd Yh Zv zv Yae⟩
   ·cases hs;exact⟨Wb X G Qw,Yd Yh Zm Yl YV⟩
   ·cases hs;exact⟨Wb X G yw,Yd Yh zm ym Yh⟩
   ·cases hs;exact⟨Wb X G qw,Yd Yh Ql ql ZW⟩
   ·exact absurd ht (by decide)
   ·exact absurd ht (by decide)
   ·exact absurd ht (by decide)
   ·exact absurd ht (by decide)
   ·exact absurd ht (by decide)
   ·exact absurd ht (by decide)
   ·cases hs;exact⟨Wb X G ZaH,Yd Zi qP QQ yaG⟩
   ·cases hs;exact⟨Wb X G ZK,Yd Zi Zv zv Zaj⟩
   ·cases hs;exact⟨Wb X G Qw,Yd Zi Zm Yl qW⟩
   ·cases hs;exact⟨Wb X G yw,Yd Zi zm ym yU⟩
   ·cases hs;exact⟨Wb X G qw,Yd Zi Ql ql Zi⟩
   ·exact absurd ht (by decide)
   ·exact absurd ht (by decide)
   ·exact absurd ht (by decide)
   ·exact absurd ht (by decide)
   ·exact absurd ht (by decide)
   ·exact absurd ht (by decide)
   ·cases hs
  ·intro c t b hs ht;simp only[prog] at hs;split at hs
   ·exact absurd ht (by decide)
   ·exact absurd ht (by decide)
   ·exact absurd ht (by decide)
   ·exact absurd ht (by decide)
   ·exact absurd ht (by decide)
   ·cases hs;exact Zj (Qf (by decide)) zbw
   ·cases hs;exact Zj (Qf (by decide)) ybv
   ·cases hs;exact Zj (Qf (by decide)) ybi
   ·cases hs;exact Zj (Qf (by decide)) ZbB
   ·cases hs;exact Zj (Qf (by decide)) qbG
   ·cases hs;exact Zj (Qf (by decide)) Zbt
   ·exact absurd ht (by decide)
   ·exact absurd ht (by decide)
   ·exact absurd ht (by decide)
   ·exact absurd ht (by decide)
   ·exact absurd ht (by decide)
   ·cases hs;exact Zj (Qf (by decide)) YaQ
   ·cases hs;exact Zj (Qf (by decide)) ya1
   ·cases hs;exact Zj (Qf (by decide)) QaM
   ·cases hs;exact Zj (Qf (by decide)) ya3
   ·cases hs;exact Zj (Qf (by decide)) Ya2
   ·cases hs;exact Zj (Qf (by decide)) Qa1
   ·exact absurd ht (by decide)
   ·exact absurd ht (by decide)
   ·exact absurd ht (by decide)
   ·exact absurd ht (by decide)
   ·exact absurd ht (by decide)
   ·cases hs;exact Zj (Qf (by decide)) Qax
   ·cases hs;exact Zj (Qf (by decide)) zay
   ·cases hs;exact Zj (Qf (by decide)) Zaq
   ·cases hs;exact Zj (Qf (by decide)) zaH
   ·cases hs;exact Zj (Qf (by decide)) qaF
   ·cases hs;exact Zj (Qf (by decide)) Qat
   ·exact absurd ht (by decide)
   ·exact absurd ht (by decide)
   ·exact absurd ht (by decide)
   ·exact absurd ht (by decide)
   ·exact absurd ht (by decide)
   ·cases hs;exact Zj (Qf (by decide)) zat
   ·cases hs;exact Zj (Qf (by decide)) Zav
   ·cases hs;exact Zj (Qf (by decide)) yap
   ·cases hs;exact Zj (Qf (by decide)) YaI
   ·cases hs;exact Zj (Qf (by decide)) ZaI
   ·cases hs;exact Zj (Qf (by decide)) ZaB
   ·exact absurd ht (by decide)
   ·exact absurd ht (by decide)
   ·exact absurd ht (by decide)
   ·exact absurd ht (by decide)
   ·exact absurd ht (by decide)
   ·cases hs;exact Zj (Qf (by decide)) qay
   ·cases hs;exact Zj (Qf (by decide)) qav
   ·cases hs;exact Zj (Qf (by decide)) Yam
   ·cases hs;exact Zj (Qf (by decide)) yaF
   ·cases hs;exact Zj (Qf (by decide)) ZaC
   ·cases hs;exact Zj (Qf (by decide)) yau
   ·cases hs
  ·intro t c b hs ht TT hTT;simp only[prog] at hs;split at hs
   ·exact zn (zj _ TT hTT) qP QQ
   ·exact zn (zj _ TT hTT) Zv zv
   ·exact zn (zj _ TT hTT) Zm Yl
   ·exact zn (zj _ TT hTT) zm ym
   ·exact zn (zj _ TT hTT) Ql ql
   ·exact absurd ht (by decide)
   ·exact absurd ht (by decide)
   ·exact absurd ht (by decide)
   ·exact absurd ht (by decide)
   ·exact absurd ht (by decide)
   ·exact absurd ht (by decide)
   ·exact zn (zj _ TT hTT) qP QQ
   ·exact zn (zj _ TT hTT) Zv zv
   ·exact zn (zj _ TT hTT) Zm Yl
   ·exact zn (zj _ TT hTT) zm ym
   ·exact zn (zj _ TT hTT) Ql ql
   ·exact absurd ht (by decide)
   ·exact absurd ht (by decide)
   ·exact absurd ht (by decide)
   ·exact absurd ht (by decide)
   ·exact absurd ht (by decide)
   ·exact absurd ht (by decide)
   ·exact zn (zj _ TT hTT) qP QQ
   ·exact zn (zj _ TT hTT) Zv zv
   ·exact zn (zj _ TT hTT) Zm Yl
   ·exact zn (zj _ TT hTT) zm ym
   ·exact zn (zj _ TT hTT) Ql ql
   ·exact absurd ht (by decide)
   ·exact absurd ht (by decide)
   ·exact absurd ht (by decide)
   ·exact absurd ht (by decide)
   ·exact absurd ht (by decide)
   ·exact absurd ht (by decide)
   ·exact zn (zj _ TT hTT) qP QQ
   ·exact zn (zj _ TT hTT) Zv zv
   ·exact zn (zj _ TT hTT) Zm Yl
   ·exact zn (zj _ TT hTT) zm ym
   ·exact zn (zj _ TT hTT) Ql ql
   ·exact absurd ht (by decide)
   ·exact absurd ht (by decide)
   ·exact absurd ht (by decide)
   ·exact absurd ht (by decide)
   ·exact absurd ht (by decide)
   ·exact absurd ht (by decide)
   ·exact zn (zj _ TT hTT) qP QQ
   ·exact zn (zj _ TT hTT) Zv zv
   ·exact zn (zj _ TT hTT) Zm Yl
   ·exact zn (zj _ TT hTT) zm ym
   ·exact zn (zj _ TT hTT) Ql ql
   ·exact absurd ht (by decide)
   ·exact absurd ht (by decide)
   ·exact absurd ht (by decide)
   ·exact absurd ht (by decide)
   ·exact absurd ht (by decide)
   ·exact absurd ht (by decide)
   ·cases hs
  ·intro c hc;simp only[prog] at hc;split at hc
   ·exact⟨q1,Wb X G a1⟩
   ·cases hc
  ·intro wd hw;simp only[prog] at hw;split at hw
   ·refine⟨qB,Wb X G aB,λP w base=>⟨_,DefOkH.imp (YcA Yab (ud X G qax) (ud X G ZbQ) (ud X G QcF) (ud X G Zbj) (Wb X G a0) (Wb X G a1) (Wb X G a2) (Wb X G a3) (Wb X G a4) (Wb X G a5) (Wb X G a6) (Wb X G a7) (Wb X G a8) (Wb X G a9)) ?_⟩,?_⟩
    ·intro x C vs H Q E ⟨e1,c,s,e2,hs,hQ⟩;refine⟨e1,?_⟩;simp only[prog] at hs;split at hs
     ·cases hs;rw[show C=c1 from e2];exact⟨1,⟨⟨q1,ga1,gt1,cl1,gn,tk,mo1,by show(Vd K c1).isSome=true;rw[ci1];rfl⟩,λj D h=>match j,D,h with
      |0,D,h=>by cases h;exact Yd s1_1 ci0 ty0 s1_0
      |1,D,h=>by cases h;exact Yd s1_1 ci1 ty1 s1_1
      |2,D,h=>by cases h;exact Yd s1_1 ci2 ty2 s1_2
      |3,D,h=>by cases h;exact Yd s1_1 ci3 ty3 s1_3
      |4,D,h=>by cases h;exact Yd s1_1 ci4 ty4 s1_4
      |5,D,h=>by cases h;exact Yd s1_1 ci5 ty5 s1_5
      |6,D,h=>by cases h;exact Yd s1_1 ci6 ty6 s1_6
      |7,D,h=>by cases h;exact Yd s1_1 ci7 ty7 s1_7
      |8,D,h=>by cases h;exact Yd s1_1 ci8 ty8 s1_8
      |9,D,h=>by cases h;exact Yd s1_1 ci9 ty9 s1_9
      |_+10,D,h=>by simp at h,Zj qbA sv1,by decide⟩,hQ⟩
     ·cases hs
    ·intro c s hs;simp only[prog] at hs;split at hs
     ·exact⟨q1,by show(QE K c1).contains (.ref B)=true;rw[ZcX ci1];exact un1⟩
     ·cases hs
   ·cases hw
  ·exactλt ht=>nomatch (show false=true from ht)
  ·exactλc t b hs=>nomatch (show none=some b from hs)
  ·exactλf ds h=>nomatch (show false=true from h)
  ·intro c m f hm hi;simp only[prog] at hm;split at hm
   ·cases hm;exact⟨⟨ZC,zD,YB,ZB⟩,_,_,_,_,_,_,_,_,rfl,⟨zbo,Ybn,Zal⟩,F_m_Way_order,qaX,Qbu⟩
   ·cases hm;exact⟨⟨ZC,zD,YB,ZB⟩,_,_,_,_,_,_,_,_,rfl,⟨Ybx,Qby,yaw⟩,F_m_Way_word,qa3,QbD⟩
   ·cases hm;exact⟨⟨zo,Zo,Yo,qo⟩,_,_,_,_,_,_,_,_,rfl,⟨qaK,yaN,qS⟩,F_m_FroWay_order,qau,qaR⟩
   ·cases hm;exact⟨⟨zo,Zo,Yo,qo⟩,_,_,_,_,_,_,_,_,rfl,⟨QaP,qaZ,yY⟩,F_m_FroWay_word,YaF,za4⟩
   ·cases hm;exact⟨⟨zi,qh,Qh,Qg⟩,_,_,_,_,_,_,_,_,rfl,⟨zam,Zao,qI⟩,F_m_ColumnWay_order,Q5,qar⟩
   ·cases hm;exact⟨⟨zi,qh,Qh,Qg⟩,_,_,_,_,_,_,_,_,rfl,⟨qas,Yav,yL⟩,F_m_ColumnWay_word,Yaf,QaI⟩
   ·cases hm;exact⟨⟨Yi,zh,Yg,yi⟩,_,_,_,_,_,_,_,_,rfl,⟨yam,zaq,ZI⟩,F_m_FoldedWay_order,Qaa,zau⟩
   ·cases hm;exact⟨⟨Yi,zh,Yg,yi⟩,_,_,_,_,_,_,_,_,rfl,⟨Yay,zaB,QN⟩,F_m_FoldedWay_word,qae,QaG⟩
   ·exact absurd (by rfl) hi
   ·cases hm;exact⟨⟨zf,Yf,yf,Zf⟩,_,_,_,_,_,_,_,_,rfl,⟨Zan,Yan,zI⟩,F_m_MaskedWay_order,Q0,Zau⟩
   ·cases hm;exact⟨⟨zf,Yf,yf,Zf⟩,_,_,_,_,_,_,_,_,rfl,⟨Yaw,yaz,ZL⟩,F_m_MaskedWay_word,yai,yaD⟩
   ·cases hm
  ·intro c hc;simp only[prog] at hc;split at hc
   ·exact⟨⟨zcS,ZcM,ycL⟩,Wb X G ZaH⟩
   ·exact⟨⟨Zb1,ZbU,qbS⟩,Wb X G ZK⟩
   ·exact⟨⟨zbl,ybh,ybk⟩,Wb X G Qw⟩
   ·exact⟨⟨ybj,Qbj,Zbk⟩,Wb X G yw⟩
   ·cases hc
  ·intro x i hx;simp only[prog] at hx;cases hx
  ·exactλh=>nomatch (show false=true from h)
 exact⟨Wf "law" "law" (Qk zal) (Zg zal) (yb zal) .none Qb9 Qb7 Ycf Qch QbB zcc,λs v=>.of_eq rfl,λbase kb _=>qcY (n:=6) T kb (λz=>absurd rfl z) Fl rfl YcG (λns hl=>MP.run_law 0 ns hl)⟩
end SD
open PySem PySem.W PyProof.Rows L2 L3 M3 SD
set_option maxRecDepth 100000 in
set_option maxHeartbeats 0 in
theorem PySem.Challenge.cw_dotscreen_k22_masked_holds : PySem.Challenge.rw_dotscreen_k22_masked.Holds := by
 w_on;o_law;k_head;(case hw=>w_witness2)
 k_fill
 refine SD.walk (l:=PySem.Challenge.rw_dotscreen_k22_masked) (k:=14) rfl rfl ⟨rfl,by decide,by decide⟩ (λw h Y=>PySem.W.kIn_of Y) ?F
 case F =>
  intro w mg fa h KX G hmg;have zG:Src (L2.KOf KX) mg "cells_by_rows" YG ["high","wide"]:=by
   dsimp only[L2.KOf];refine' SD.src_mk KX G (λ_ _ _ _ _ _ us hl=>by obtain⟨_,_,rfl⟩:=SD.ln2 hl;rfl) ?a ?l ?c ?k
   (case a|l|c|k=>k_is)
  have Qaq:Src (L2.KOf KX) mg "ask_size" qal ["high","wide"]:=by
   dsimp only[L2.KOf];refine' SD.src_mk KX G (λ_ _ _ _ _ _ us hl=>by obtain⟨_,_,rfl⟩:=SD.ln2 hl;rfl) ?a ?l ?c ?k
   (case a|l|c|k=>k_is)
  have yQ:Src (L2.KOf KX) mg "ways_within" qQ ["way"]:=by
   dsimp only[L2.KOf];refine' SD.src_mk KX G (λ_ _ _ _ _ _ us hl=>by obtain⟨_,rfl⟩:=SD.ln1 hl;rfl) ?a ?l ?c ?k
   (case a|l|c|k=>k_is)
  have YN:Src (L2.KOf KX) mg "folded_cells" zL ["side"]:=by
   dsimp only[L2.KOf];refine' SD.src_mk KX G (λ_ _ _ _ _ _ us hl=>by obtain⟨_,rfl⟩:=SD.ln1 hl;rfl) ?a ?l ?c ?k
   (case a|l|c|k=>k_is)
  have ZR:Src (L2.KOf KX) mg "folded_once" QP ["cells","side"]:=by
   dsimp only[L2.KOf];refine' SD.src_mk KX G (λ_ _ _ _ _ _ us hl=>by obtain⟨_,_,rfl⟩:=SD.ln2 hl;rfl) ?a ?l ?c ?k
   (case a|l|c|k=>k_is)
  have Z6:Src (L2.KOf KX) mg "_law_next" Yaa ["_law_script","_law_at"]:=by
   dsimp only[L2.KOf];refine' SD.src_mk KX G (λ_ _ _ _ _ _ us hl=>by obtain⟨_,_,rfl⟩:=SD.ln2 hl;rfl) ?a ?l ?c ?k
   (case a|l|c|k=>k_is)
  have Zac:Src (L2.KOf KX) mg "_law_same" Y1 ["_law_found","_law_due"]:=by
   dsimp only[L2.KOf];refine' SD.src_mk KX G (λ_ _ _ _ _ _ us hl=>by obtain⟨_,_,rfl⟩:=SD.ln2 hl;rfl) ?a ?l ?c ?k
   (case a|l|c|k=>k_is)
  have YX:Src (L2.KOf KX) mg "_law_order" QW ["_law_rows","_law_columns","_law_word_here"]:=by
   dsimp only[L2.KOf];refine' SD.src_mk KX G (λ_ _ _ _ _ _ us hl=>by obtain⟨_,_,_,rfl⟩:=SD.ln3 hl;rfl) ?a ?l ?c ?k
   (case a|l|c|k=>k_is)
  have Q2:Src (L2.KOf KX) mg "_law_mask" Zaa ["_law_script","_law_at","_law_rows","_law_columns"]:=by
   dsimp only[L2.KOf];refine' SD.src_mk KX G (λ_ _ _ _ _ _ us hl=>by obtain⟨_,_,_,_,rfl⟩:=SD.ln4 hl;rfl) ?a ?l ?c ?k
   (case a|l|c|k=>k_is)
  have YH:Src (L2.KOf KX) mg "_law_no_order" ZG ["_law_way","_law_rows","_law_columns"]:=by
   dsimp only[L2.KOf];refine' SD.src_mk KX G (λ_ _ _ _ _ _ us hl=>by obtain⟨_,_,_,rfl⟩:=SD.ln3 hl;rfl) ?a ?l ?c ?k
   (case a|l|c|k=>k_is)
  have ycc:Src (L2.KOf KX) mg "law" zal ["_law_script"]:=by
   dsimp only[L2.KOf];refine' SD.src_mk KX G (λ_ _ _ _ _ _ us hl=>by obtain⟨_,rfl⟩:=SD.ln1 hl;rfl) ?a ?l ?c ?k
   (case a|l|c|k=>k_is)
  have Yab:Src (L2.KOf KX) mg "_law_word" qO ["_law_e"]:=by
   dsimp only[L2.KOf];refine' SD.src_mk KX G (λ_ _ _ _ _ _ us hl=>by obtain⟨_,rfl⟩:=SD.ln1 hl;rfl) ?a ?l ?c ?k
   (case a|l|c|k=>k_is)
  refine' SD.all_mk KX G hmg zG Qaq yQ YN ZR Z6 Zac YX Q2 YH ycc Yab  ?x0 ?x1 ?x2 ?x3 ?x4 ?x5 ?x6 ?x7 ?x8 ?x9 ?x10 ?x11 ?x12 ?x13 ?x14 ?x15 ?x16 ?x17 ?x18 ?x19 ?x20 ?x21 ?x22 ?x23 ?x24 ?x25 ?x26 ?x27 ?x28 ?x29 ?x30 ?x31 ?x32 ?x33 ?x34 ?x35 ?x36 ?x37 ?x38 ?x39 ?x40 ?x41 ?x42 ?x43 ?x44 ?x45 ?x46 ?x47 ?x48 ?x49 ?x50 ?x51 ?x52 ?x53 ?x54 ?x55 ?x56 ?x57 ?x58 ?x59 ?x60 ?x61 ?x62 ?x63 ?x64 ?x65 ?x66 ?x67 ?x68 ?x69 ?x70 ?x71 ?x72 ?x73 ?x74 ?x75 ?x76 ?x77 ?x78 ?x79 ?x80 ?x81 ?x82 ?x83 ?x84 ?x85 ?x86 ?x87 ?x88 ?x89 ?x90 ?x91 ?x92 ?x93 ?x94 ?x95 ?x96 ?x97 ?x98 ?x99 ?x100 ?x101 ?x102 ?x103 ?x104 ?x105 ?x106 ?x107 ?x108 ?x109 ?x110 ?x111 ?x112 ?x113 ?x114 ?x115 ?x116 ?x117 ?x118 ?x119 ?x120 ?x121 ?x122 ?x123 ?x124 ?x125 ?x126 ?x127 ?x128 ?x129 ?x130 ?x131 ?x132 ?x133 ?x134 ?x135 ?x136 ?x137 ?x138 ?x139 ?x140 ?x141 ?x142 ?x143 ?x144 ?x145 ?x146 ?x147 ?x148 ?x149 ?x150 ?x151 ?x152 ?x153 ?x154 ?x155 ?x156 ?x157 ?x158 ?x159 ?x160 ?x161 ?x162 ?x163 ?x164 ?x165 ?x166 ?x167 ?x168 ?x169 ?x170 ?x171 ?x172 ?x173 ?x174 ?x175 ?x176 ?x177 ?x178 ?x179 ?x180 ?x181 ?x182 ?x183 ?x184 ?x185 ?x186 ?x187 ?x188 ?x189 ?x190 ?x191 ?x192 ?x193 ?x194 ?x195 ?x196 ?x197 ?x198 ?x199 ?x200 ?x201 ?x202 ?x203 ?x204 ?x205 ?x206 ?x207 ?x208 ?x209 ?x210 ?x211 ?x212 ?x213 ?x214 ?x215 ?x216 ?x217 ?x218 ?x219 ?x220 ?x221 ?x222 ?x223 ?x224 ?x225 ?x226 ?x227 ?x228 ?x229 ?x230 ?x231 ?x232 ?x233 ?x234 ?x235 ?x236 ?x237 ?x238 ?x239 ?x240 ?x241 ?x242 ?x243 ?x244 ?x245
  (case x0|x1|x2|x3|x4|x5|x6|x7|x8|x9|x10|x11|x12|x13|x14|x15|x16|x17|x18|x19|x20|x21|x22|x23|x24|x25|x26|x27|x28|x29|x30|x31|x32|x33|x34|x35|x36|x37|x38|x39|x40|x41|x42|x43|x44|x45|x46|x47|x48|x49|x50|x52|x53|x55|x56|x57|x58|x59|x61|x62|x63|x64|x65|x66|x67|x68|x69|x70|x71|x72|x73|x74|x75|x76|x77|x78|x79|x80|x81|x82|x83|x84|x85|x86|x87|x88|x89|x90|x91|x92|x93|x94|x95|x96|x97|x98|x99|x100|x101|x102|x103|x104|x105|x106|x107|x108|x109|x110|x111|x112|x113|x114|x115|x116|x117|x118|x119|x120|x121|x122|x123|x124|x125|x126|x127|x128|x129|x130|x131|x132|x133|x134|x135|x136|x137|x138|x139|x140|x141|x142|x143|x144|x145|x146|x147|x148|x149|x150|x151|x152|x153|x154|x155|x156|x157|x158|x159|x160|x161|x162|x163|x164|x165|x166|x167|x168|x169|x170|x171|x172|x173|x174|x175|x176|x177|x178|x179|x180|x181|x182|x183|x184|x185|x186|x187|x188|x189|x190|x191|x192|x193|x194|x195|x196|x197|x198|x199|x200|x201|x202|x203|x204|x205|x206|x207|x208|x209|x210|x211|x212|x213|x214|x215|x216|x217|x218|x219|x220|x221|x222|x223|x224|x225|x226|x227|x228|x229|x230|x231|x232|x233|x234|x235|x236|x237|x238|x239|x240|x241|x242|x243|x244|x245=>k_is)
  (case x51|x54=>k_exc)
  (case x60=>rfl)
end