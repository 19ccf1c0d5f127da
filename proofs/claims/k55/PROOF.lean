import PyProof.Rows.All
import Wide.All
import OpenK.AllK
import Wide.FinOn
import PySem.Challenge.RW_dotscreen_k55_laid_over
import Lean
import PyProof.EqAt
import PyProof.EqKinds
import PyProof.TupleCall
import PyProof.CompFree
import PyProof.StationsW
import PyProof.ExcClass3
import PyProof.Cells
import PyProof.PassesOwn
import PyProof.RangeIter
import PyProof.TableTree
import PyProof.ZipIter
import PyProof.Draws
import PyProof.TupleIter
import PyProof.EnumMake
import PyProof.EnumStmt
import KE.KDictList
import PyProof.Rows.SortWalk
import KE.KRevIter
import PyProof.CollectIter
import KE.KRevSl
import KE.KMinKey
import KE.KLam
import PyProof.DictIter
import PyProof.AttrMiss
import PyProof.IsiH_list
import PyProof.CollectWalk
import KE.KDictOf
import PyProof.DictCopy
import PyProof.FactsAll.tuple_1
import PyProof.FactsAll.dict_3
import PyProof.DictItems
import KE.KIntText
import PyProof.StrBlock2
import PyProof.Rows.StrMul
import PySem.Str
import PyProof.StrBlockL
import KE.IntTextText
import KE.IntBitsLaws
import PyProof.FitsBits
import PyProof.Rows.InDataRows
set_option maxHeartbeats 4000000
open PySem.Heap renaming get?_push_of_some->wa,lt_size->wb,get?_push_size->ub,size_push->xg,get?_update_other->Uh,get?_update_self->wj,size_after_update->Uz,get?_none_of_le->UA
open List renaming getElem?_eq_getElem->Wa,getElem?_eq_some_iff->Xa,mem_cons->ua,size_toArray->Ua,getElem?_append_left->va,replicate->Wb,lookup_cons->xb,map_cons->Xb,mem_singleton->Ub,range->wc,getElem?_map->xc,not_mem_nil->uc,mem_of_getElem?->Uc,length_map->Wd,length_cons->Xd,getElem?_append_right->we,mem_append_right->We,mem_append_left->ue,append_assoc->Ve,mem_append->Xf,mem_cons_of_mem->uf,getElem?_set_ne->Uf,mem_map->vf,length_append->Vf,getElem?_set_self->wg,take_append_drop->Vg,getElem_mem->Wh,getD->uh,map_map->vh,getD_eq_getElem?_getD->Vh,mem_cons_self->Wi,map_append->Xi,getElem?_range->Ui,mem_range->Xj,append_nil->Uj,nodup_cons->Vj,foldl_cons->xk,map_nil->Uk,ext_getElem?->vk,nil_append->Vk,getElem?_eq_none->ul,length_nil->Vl,getElem?_mapIdx->Wm,eq_of_mem_replicate->xm,eq_nil_of_length_eq_zero->um,replicate_succ->Um,length_pos_iff->vm,length_take->Vm,take_of_length_le->Xn,length_replicate->Vn,mem_of_mem_take->Wo,getElem?_take_of_lt->uo,mem_flatMap->Vo,take_length->Wp,flatten_replicate_singleton->xp,getElem?_replicate->Xp,length_eq_zero_iff->Up,mem_filter->wq,flatten_cons->Uq,take_add_one->vq,drop_drop->Vq,all_eq_true->Wr,cons_append->Xr,ext_getElem->ur,mem_of_mem_drop->Ur,lookup->Xs,length->Us,map_eq_nil_iff->Vs,range_succ->Ut,drop->Vt,foldl_nil->wu,mapM_cons->Wu,nodup_append->Xu,length_drop->wv,take->xv,of_mem_zip->Xv,find?_cons->uv,getElem?_modify->xw,getElem?_zipIdx->Xw,filterMap_cons->uw,getElem_of_mem->Uw,flatMap_append->Vw,map_congr_left->wx,contains_cons->ux,reverse_cons->Xy,getElem?_inj->uy,length_range->Uy,drop_eq_getElem_cons->vy,getElem?_modify_eq->Wz,forIn_cons->Xz,length_singleton->wA,forIn_nil->xA,set_append_left->vA,map->VA,mem_filterMap->uB,length_mapIdx->XC,map_set->UC,getElem?_set->WD,foldl_append->xD,zipIdx_cons->vD,filter_cons->wE,range'_succ->xE,drop_length->XE,foldl->uE
open Bool renaming and_eq_true->xa,false_ne_true->Ud,noConfusion->ui,not_eq_true'->uj,or_eq_true->Xk,false_eq_true->Xl,eq_iff_iff->Wq,and_eq_true_iff->ww,and_eq_false_iff->XA,true_and->WB,true_eq_false->uC
open PySem.W renaming subIn->Va,findIn->Vc,nsIn->ud,mg_none_of->Vd,clsIn->Xe,kitOne->Ue,emptyDict->Wg,mg_of->Xg,typeIn->ug,keepIn->Ug,instObj->vg,kia_one->xi,fnOf->Vi,codeIn->xn,mroIn->Vp,specialIn->uq,looks_findIn->wr,excIn->Ws,makesIn->wt,takesIn->Xt,hasDictIn->xu,cellsFrom_some->uu,plainGet->Vu,kitMeta->Ww,callWith_K->Ux,methodObj->Wy,plainOver->xy,makes_of->wz,takerIn->xz,lookIn->Vz,kitCls->uA,isFn->UB,codeRec_of->vB,make_core->vC,kitx_list->VC,kitx_dict->wD,handedIn->XD
open Nat renaming le_refl->vb,lt_of_lt_of_le->Xc,ne_of_lt->vc,le_trans->xf,lt_irrefl->xj,mod_lt->Wl,lt_succ_self->xl,ne_of_gt->Ul,lt_succ_of_lt->Xm,zero_add->vn,mul_le_mul->xo,le_of_eq->Xo,mod_eq_of_lt->vo,zero_le->Xq,mul_mod->Uu,le_of_not_lt->Wv,div_add_mod->Uv,min_le_left->Vv,add_mul->Xx,le_of_lt->Vy,min_eq_left->uz,le_succ->vz,mul_le_mul_right->wB,sub_zero->wC,add_sub_cancel->WC,mul_comm->xC,le_add_right->VD
open Option renaming bind_eq_some_iff->Vb,map_eq_some_iff->Wc,map_some->Wj,isSome_iff_exists->uk,bind_some->Uo,getD_some->xr,toList_some->vx,bind_eq_bind->xB,isSome_some->VB,getD_none->UD
open Function renaming comp_def->Wf,comp_apply->vw
open Int renaming eq_ofNat_of_zero_le->xh,toNat_natCast->wo,emod_lt_of_pos->xq,emod_nonneg->ut,le_refl->Wx,fdiv_eq_ediv_of_nonneg->Vx
open Array renaming length_toList->wl,getElem?_eq_some_iff->Vr,eq_empty_of_size_eq_zero->vv,isEmpty_eq_false_iff->wy,getElem?_toList->WA,toList->XB,all_toList->WE
open Prod renaming snd->wm,fst->vt,ext->uD
set_option Elab.async false
set_option linter.all false
set_option maxRecDepth 100000
set_option genSizeOf false
set_option genSizeOfSpec false
set_option bootstrap.genMatcherCode false
def PySem.W.Fast.tw11539526745049572482:Nat:=0
def PySem.W.Fast.tw6051645443722473285:Nat:=0
def PySem.W.Fast.tw411908006877174977:Nat:=0
def PySem.W.Fast.tw13337071329775611337:Nat:=0
def PySem.W.Fast.tw12645818492450593846:Nat:=0
def PySem.W.Fast.tw4725115919355721818:Nat:=0
def PySem.W.Fast.tw6786747302889098233:Nat:=0
def PySem.W.Fast.tw4290083493293748983:Nat:=0
def PySem.W.Fast.tw3851870992226688624:Nat:=0
def PySem.W.Fast.tw15477810295977573407:Nat:=0
def PySem.W.Fast.tw1664795181055978881:Nat:=0
def PySem.W.Fast.tw17347045473851837374:Nat:=0
def PySem.W.Fast.tw7791793638980875135:Nat:=0
def PySem.W.Fast.tw11113516711753902084:Nat:=0
def PySem.W.Fast.tw16722026803127847692:Nat:=0
def PySem.W.Fast.tw11005694946269641728:Nat:=0
def PySem.W.Fast.tw8788717072886059882:Nat:=0
def PySem.W.Fast.tw11428909406224660343:Nat:=0
def PySem.W.Fast.tw14259395580769887732:Nat:=0
def PySem.W.Fast.tw12780333722782041031:Nat:=0
def PySem.W.Fast.tw16267258666337426990:Nat:=0
def PySem.W.Fast.tw9227887863370026691:Nat:=0
def PySem.W.Fast.tw11058201799997467052:Nat:=0
def PySem.W.Fast.tw6694691989890057063:Nat:=0
def PySem.W.Fast.tw15648068316621762728:Nat:=0
def PySem.W.Fast.tw16400208325302213788:Nat:=0
def PySem.W.Fast.tw13065724248107655478:Nat:=0
def PySem.W.Fast.tw853690215986054905:Nat:=0
def PySem.W.Fast.tw5213517204803644024:Nat:=0
def PySem.W.Fast.tw6651322517085121504:Nat:=0
def PySem.W.Fast.tw17659928555536699017:Nat:=0
def PySem.W.Fast.tw12048591923072455391:Nat:=0
def PySem.W.Fast.tw401924129156920415:Nat:=0
def PySem.W.Fast.tw9558802535472876831:Nat:=0
def PySem.W.Fast.tw1128953097609923312:Nat:=0
def PySem.W.Fast.tw15565412097342805594:Nat:=0
def PySem.W.Fast.tw5161692766270733516:Nat:=0
def PySem.W.Fast.tw71450155604275096:Nat:=0
def PySem.W.Fast.tw13943051818453209592:Nat:=0
def PySem.W.Fast.tw10968185382608691131:Nat:=0
def PySem.W.Fast.tw13207774833676663750:Nat:=0
def PySem.W.Fast.tw13136086866186748954:Nat:=0
def PySem.W.Fast.tw10617524083248539913:Nat:=0
def PySem.W.Fast.tw7548507162279063877:Nat:=0
def PySem.W.Fast.tw15740152361493469599:Nat:=0
def PySem.W.Fast.tw14539527015764417467:Nat:=0
def PySem.W.Fast.tw4237937300258520838:Nat:=0
def PySem.W.Fast.tw17429814748932165045:Nat:=0
def PySem.W.Fast.tw11019692634730410429:Nat:=0
def PySem.W.Fast.tw5945626360056449986:Nat:=0
def PySem.W.Fast.tw5836086297923188580:Nat:=0
def PySem.W.Fast.tw12642822200255840200:Nat:=0
def PySem.W.Fast.tw7330681226289644027:Nat:=0
def PySem.W.Fast.tw16095442477038509992:Nat:=0
def PySem.W.Fast.tw8303496738829085505:Nat:=0
def PySem.W.Fast.tw6238171262489743209:Nat:=0
def PySem.W.Fast.tw16566158820137266177:Nat:=0
def PySem.W.Fast.tw16149329454429691024:Nat:=0
def PySem.W.Fast.tw14214185993699743126:Nat:=0
def PySem.W.Fast.tw17094175232001723048:Nat:=0
def PySem.W.Fast.tw4939914102940996435:Nat:=0
def PySem.W.Fast.tw13841327323484219606:Nat:=0
def PySem.W.Fast.tw12052025242498363162:Nat:=0
def PySem.W.Fast.tw13017765641540438174:Nat:=0
def PySem.W.Fast.tw502080901332687338:Nat:=0
def PySem.W.Fast.tw17955528818662211473:Nat:=0
def PySem.W.Fast.tw923674872223004477:Nat:=0
def PySem.W.Fast.tw2973914374417751511:Nat:=0
def PySem.W.Fast.tw5909564168743222586:Nat:=0
def PySem.W.Fast.tw4798436453510872863:Nat:=0
def PySem.W.Fast.tw13944913922159476720:Nat:=0
def PySem.W.Fast.tw7231438728800707080:Nat:=0
def PySem.W.Fast.tw12785533372436815135:Nat:=0
def PySem.W.Fast.tw8519245889348310100:Nat:=0
def PySem.W.Fast.tw15638351143975833280:Nat:=0
def PySem.W.Fast.tw1557015313543271785:Nat:=0
def PySem.W.Fast.tw120091878971690912:Nat:=0
def PySem.W.Fast.tw8825393785007303640:Nat:=0
def PySem.W.Fast.tw16260455571839393074:Nat:=0
def PySem.W.Fast.tw9940140030342462705:Nat:=0
def PySem.W.Fast.tw7087277461459569522:Nat:=0
def PySem.W.Fast.tw17509432422242920215:Nat:=0
def PySem.W.Fast.tw14469328735300031021:Nat:=0
def PySem.W.Fast.tw3195896543398100347:Nat:=0
def PySem.W.Fast.tw167126458790860600:Nat:=0
def PySem.W.Fast.tw14060407661593299045:Nat:=0
def PySem.W.Fast.tw10701574170809847045:Nat:=0
def PySem.W.Fast.tw6429735822167266177:Nat:=0
def PySem.W.Fast.tw8138607403223771751:Nat:=0
def PySem.W.Fast.tw13416087697997605824:Nat:=0
def PySem.W.Fast.tw446076640397356200:Nat:=0
def PySem.W.Fast.tw9563991441276591065:Nat:=0
def PySem.W.Fast.tw7056779223293312818:Nat:=0
def PySem.W.Fast.tw16218486233886436243:Nat:=0
def PySem.W.Fast.tw18187069196247985235:Nat:=0
def PySem.W.Fast.tw1407975075245091790:Nat:=0
def PySem.W.Fast.tw4344784934144274580:Nat:=0
def PySem.W.Fast.tw5680289746323134737:Nat:=0
def PySem.W.Fast.tw150828870773843229:Nat:=0
def PySem.W.Fast.tw753316814849505100:Nat:=0
def PySem.W.Fast.tw4935248031861238651:Nat:=0
def PySem.W.Fast.tw17005833336776092089:Nat:=0
def PySem.W.Fast.tw10736282204005742767:Nat:=0
def PySem.W.Fast.tw12770582480076199312:Nat:=0
def PySem.W.Fast.tw17467688900651782505:Nat:=0
def PySem.W.Fast.tw882751179008816994:Nat:=0
def PySem.W.Fast.tw298279212068989562:Nat:=0
def PySem.W.Fast.tw8417962159291479621:Nat:=0
def PySem.W.Fast.tw15810049339333312455:Nat:=0
def PySem.W.Fast.tw17804323779292609176:Nat:=0
def PySem.W.Fast.tw9963116422042489733:Nat:=0
def PySem.W.Fast.tw9400374172853040600:Nat:=0
def PySem.W.Fast.tw1008230841798556470:Nat:=0
def PySem.W.Fast.tw9398749563230570893:Nat:=0
def PySem.W.Fast.tw3056092273471044607:Nat:=0
def PySem.W.Fast.tw5976164139185067147:Nat:=0
def PySem.W.Fast.tw2285666047465171380:Nat:=0
def PySem.W.Fast.tw1042312540861413060:Nat:=0
def PySem.W.Fast.tw16067484746324739246:Nat:=0
def PySem.W.Fast.tw10127283057604265065:Nat:=0
def PySem.W.Fast.tw9926240442246962047:Nat:=0
def PySem.W.Fast.tw6241666341820629745:Nat:=0
def PySem.W.Fast.tw17657371908189567153:Nat:=0
def PySem.W.Fast.tw6603413071900087823:Nat:=0
def PySem.W.Fast.tw2777243265603961757:Nat:=0
def PySem.W.Fast.tw13652558724504597431:Nat:=0
def PySem.W.Fast.tw4882434477731547921:Nat:=0
def PySem.W.Fast.tw1352211535520183140:Nat:=0
def PySem.W.Fast.tw8158439916916306571:Nat:=0
def PySem.W.Fast.tw4463723956689525413:Nat:=0
def PySem.W.Fast.tw6264087287798278257:Nat:=0
def PySem.W.Fast.tw4951981228569910319:Nat:=0
def PySem.W.Fast.tw5756686360913694607:Nat:=0
def PySem.W.Fast.tw3625670217770339930:Nat:=0
def PySem.W.Fast.tw12957669161633879581:Nat:=0
def PySem.W.Fast.tw18234445460842005523:Nat:=0
def PySem.W.Fast.tw567548093610855838:Nat:=0
def PySem.W.Fast.tw6867240017463373322:Nat:=0
def PySem.W.Fast.tw4309953942254827701:Nat:=0
def PySem.W.Fast.tw16957007822767806467:Nat:=0
def PySem.W.Fast.tw666047844661817586:Nat:=0
def PySem.W.Fast.tw7517945504632581020:Nat:=0
def PySem.W.Fast.tw9699003132827467664:Nat:=0
def PySem.W.Fast.tw5011650254240381361:Nat:=0
def PySem.W.Fast.tw8018322510137523628:Nat:=0
def PySem.W.Fast.tw11104810592372301215:Nat:=0
def PySem.W.Fast.tw6283908363904086333:Nat:=0
def PySem.W.Fast.tw1629308705300354769:Nat:=0
def PySem.W.Fast.tw7209558195916079822:Nat:=0
def PySem.W.Fast.tw1077365755462310443:Nat:=0
def PySem.W.Fast.tw7863610736202536564:Nat:=0
def PySem.W.Fast.tw14075533308497287420:Nat:=0
def PySem.W.Fast.tw3379060792756054777:Nat:=0
def PySem.W.Fast.tw6696633368338535877:Nat:=0
def PySem.W.Fast.tw10318609797638270053:Nat:=0
def PySem.W.Fast.tw2573124761957864864:Nat:=0
def PySem.W.Fast.tw870719558981275412:Nat:=0
def PySem.W.Fast.tw4313234161895739247:Nat:=0
def PySem.W.Fast.tw4866708267564564467:Nat:=0
def PySem.W.Fast.tw8681533932375099682:Nat:=0
def PySem.W.Fast.tw11961159767363548290:Nat:=0
def PySem.W.Fast.tw9867133292816206522:Nat:=0
def PySem.W.Fast.tw10661906547714318673:Nat:=0
def PySem.W.Fast.tw9405305343485858036:Nat:=0
def PySem.W.Fast.tw8271337577786285356:Nat:=0
def PySem.W.Fast.tw12804298297491434145:Nat:=0
def PySem.W.Fast.tw2698449086065384159:Nat:=0
def PySem.W.Fast.tw15660060789414269630:Nat:=0
def PySem.W.Fast.tw17226904709727787823:Nat:=0
def PySem.W.Fast.tw17693792508155777856:Nat:=0
def PySem.W.Fast.tw9019125925100112169:Nat:=0
def PySem.W.Fast.tw12339911076152970375:Nat:=0
def PySem.W.Fast.tw11577087459861851204:Nat:=0
def PySem.W.Fast.tw7233769224482633062:Nat:=0
def PySem.W.Fast.tw10990338425113597250:Nat:=0
def PySem.W.Fast.tw7570715045448521374:Nat:=0
def PySem.W.Fast.tw5139889914443573396:Nat:=0
def PySem.W.Fast.tw11402009223754994697:Nat:=0
def PySem.W.Fast.tw17900835004338071376:Nat:=0
def PySem.W.Fast.tw2687910347288708328:Nat:=0
def PySem.W.Fast.tw5980262345267862581:Nat:=0
def PySem.W.Fast.tw16299540729725717695:Nat:=0
def PySem.W.Fast.tw4257810966990637497:Nat:=0
def PySem.W.Fast.tw10954615313114574767:Nat:=0
def PySem.W.Fast.tw621340069597729881:Nat:=0
def PySem.W.Fast.tw13040000482408254974:Nat:=0
def PySem.W.Fast.tw11006376901608437383:Nat:=0
def PySem.W.Fast.tw13921777470142314394:Nat:=0
def PySem.W.Fast.tw7207382857722295428:Nat:=0
def PySem.W.Fast.tw11451268667311497243:Nat:=0
def PySem.W.Fast.tw7192221195332106378:Nat:=0
def PySem.W.Fast.tw5230228621952825454:Nat:=0
def PySem.W.Fast.tw5963497222493226245:Nat:=0
def PySem.W.Fast.tw8157688207267375300:Nat:=0
def PySem.W.Fast.tw7377640846074075947:Nat:=0
def PySem.W.Fast.tw16962703680530297593:Nat:=0
def PySem.W.Fast.tw151778283107317433:Nat:=0
def PySem.W.Fast.tw10898320867022811591:Nat:=0
def PySem.W.Fast.tw6089835643407549678:Nat:=0
def PySem.W.Fast.tw18358356665680408688:Nat:=0
def PySem.W.Fast.tw18248150531302386475:Nat:=0
def PySem.W.Fast.tw16103728335535698122:Nat:=0
def PySem.W.Fast.tw7860162544972606842:Nat:=0
def PySem.W.Fast.tw12111946497672107136:Nat:=0
def PySem.W.Fast.tw8382413977877069145:Nat:=0
def PySem.W.Fast.tw18233650054095376400:Nat:=0
def PySem.W.Fast.tw10557258550083607832:Nat:=0
def PySem.W.Fast.tw13577941527761175389:Nat:=0
def PySem.W.Fast.tw15364614600294363097:Nat:=0
def PySem.W.Fast.tw2411680224588455950:Nat:=0
def PySem.W.Fast.tw10984312034249264923:Nat:=0
def PySem.W.Fast.tw15689884456948957652:Nat:=0
def PySem.W.Fast.tw2117304332587619618:Nat:=0
def PySem.W.Fast.tw4270134003269799519:Nat:=0
def PySem.W.Fast.tw18352216863157360186:Nat:=0
def PySem.W.Fast.tw7643100272833374864:Nat:=0
def PySem.W.Fast.tw725989473343724076:Nat:=0
def PySem.W.Fast.tw13937802723986785371:Nat:=0
def PySem.W.Fast.tw72232155152386703:Nat:=0
def PySem.W.Fast.tw16605053961683116323:Nat:=0
def PySem.W.Fast.tw12445168177858451704:Nat:=0
def PySem.W.Fast.tw7684512175255082647:Nat:=0
def PySem.W.Fast.tw13612491018974953547:Nat:=0
def PySem.W.Fast.tw1184284317455328219:Nat:=0
def PySem.W.Fast.tw6306644264287961144:Nat:=0
def PySem.W.Fast.tw4737585991547402836:Nat:=0
def PySem.W.Fast.tw11679645003031422617:Nat:=0
def PySem.W.Fast.tw10520504440909542384:Nat:=0
def PySem.W.Fast.tw10818779399336009439:Nat:=0
def PySem.W.Fast.tw11907926260899483547:Nat:=0
def PySem.W.Fast.tw10982488710607113009:Nat:=0
def PySem.W.Fast.tw12077988322987229251:Nat:=0
def PySem.W.Fast.tw9729203450061031191:Nat:=0
def PySem.W.Fast.tw17340247121843727435:Nat:=0
def PySem.W.Fast.tw10555564064178899886:Nat:=0
def PySem.W.Fast.tw15607306254900066255:Nat:=0
def PySem.W.Fast.tw14895037784735131443:Nat:=0
def PySem.W.Fast.tw8233143628742413986:Nat:=0
def PySem.W.Fast.tw15432053071562233696:Nat:=0
def PySem.W.Fast.tw1767025571267283497:Nat:=0
def PySem.W.Fast.tw13360012162434208292:Nat:=0
def PySem.W.Fast.tw13925695625844934299:Nat:=0
def PySem.W.Fast.tw15013770744868762137:Nat:=0
def PySem.W.Fast.tw13938829199029451454:Nat:=0
def PySem.W.Fast.tw8091269902794656808:Nat:=0
def PySem.W.Fast.tw4363359948990721884:Nat:=0
def PySem.W.Fast.tw6209215497866492630:Nat:=0
section
namespace L2
open PySem PySem.Spec PyProof.Rows
noncomputable abbrev Key:=Sum Int Str
noncomputable def YaA:Key->Value->Bool
 |.inl k,v=>Value.isInt k v
 |.inr x,v=>Value.isStrOf x v
noncomputable def keyH(w:World):Key->Int
 |.inl k=>hashInt k
 |.inr x=>hashStr w x
theorem yj:∀{k:Key}{v:Value},YaA k v=true->(∃ i t,k=Sum.inl i/\v=Value.int i t)\/(∃ x t,k=Sum.inr x/\v=Value.str x t)
 |.inl i,v,h=>by
  obtain⟨t,e⟩:=Value.isInt_shape (k:=i) (v:=v) h;exact .inl ⟨i,t,rfl,e⟩
 |.inr x,v,h=>by
  obtain⟨t,e⟩:=Value.isStrOf_shape (x:=x) (v:=v) h;exact .inr ⟨x,t,rfl,e⟩
theorem qbt(i:Int)(t:Tok):YaA (.inl i) (.int i t)=true:=by simp[YaA,Value.isInt]
theorem ybu(x:Str)(t:Tok):YaA (.inr x) (.str x t)=true:=by simp[YaA,Value.isStrOf]
theorem Ycr(a b:Int):decide ((Sum.inl a:Key)=Sum.inl b)=(a==b):=by
 by_cases e:a=b
 ·subst e;simp
 ·have h:¬(Sum.inl a:Key)=Sum.inl b:=λq=>e (Sum.inl.inj q);rw[decide_eq_false h];exact(beq_eq_false_iff_ne.mpr e).symm
theorem Ycc(a b:Str):decide ((Sum.inr a:Key)=Sum.inr b)=decide (a=b):=by
 by_cases e:a=b
 ·subst e;simp
 ·have h:¬(Sum.inr a:Key)=Sum.inr b:=λq=>e (Sum.inr.inj q);rw[decide_eq_false h,decide_eq_false e]
theorem Zcs(a:Int)(b:Str):decide ((Sum.inl a:Key)=Sum.inr b)=false:=decide_eq_false (λq=>nomatch q)
theorem ycl(a:Str)(b:Int):decide ((Sum.inr a:Key)=Sum.inl b)=false:=decide_eq_false (λq=>nomatch q)
noncomputable def qh(prog:Program)(w:World):PySem.KeyKind prog w Key where
 is:=YaA
 hash:=keyH w
 inj:=λv a b ha hb=>by
  rcases yj ha with ⟨i,t,rfl,rfl⟩|⟨x,t,rfl,rfl⟩
  ·rcases yj hb with ⟨j,u,rfl,e⟩|⟨y,u,rfl,e⟩
   ·injection e with e1 _;rw[e1]
   ·exact nomatch e
  ·rcases yj hb with ⟨j,u,rfl,e⟩|⟨y,u,rfl,e⟩
   ·exact nomatch e
   ·injection e with e1 _;rw[e1]
 byValue:=λk v h=>by
  rcases yj h with ⟨i,t,rfl,rfl⟩|⟨x,t,rfl,rfl⟩ <;> rfl
 pyHash:=λhv h=>by
  rcases yj hv with ⟨i,t,rfl,rfl⟩|⟨x,t,rfl,rfl⟩
  ·exact wpAny_pyHash_int h
  ·exact wpAny_pyHash_str h
 eqBool:=λhu hv h=>by
  rcases yj hu with ⟨i,t,rfl,rfl⟩|⟨x,t,rfl,rfl⟩
  ·rcases yj hv with ⟨j,u,rfl,rfl⟩|⟨y,u,rfl,rfl⟩
   ·rw[Ycr] at h;exact wpAny_eqBool_int h
   ·rw[Zcs] at h;exact SeqAt.EqAt.int_str i t y u _ _ _ _ h
  ·rcases yj hv with ⟨j,u,rfl,rfl⟩|⟨y,u,rfl,rfl⟩
   ·rw[ycl] at h;exact SeqAt.EqAt.str_int x t j u _ _ _ _ h
   ·rw[Ycc] at h;exact wpAny_eqBool_str h
 «strs»:=λk x t v h=>by
  rcases yj h with ⟨i,u,rfl,e⟩|⟨y,u,rfl,e⟩
  ·exact nomatch e
  ·injection e with e1 _
   subst e1;cases v <;> rfl
theorem zaY(prog:Program)(w:World)(i:Int)(t:Tok):(qh prog w).is (.inl i) (.int i t)=true:=qbt i t
theorem QaU(prog:Program)(w:World)(x:Str)(t:Tok):(qh prog w).is (.inr x) (.str x t)=true:=ybu x t
inductive V where
 |non|bl (b:Bool)|int (i:Int)|str (x:Str)|byt (b:Array UInt8)|flt (b:UInt64)|ref (a:Addr)|ty (n:String)
 deriving DecidableEq
noncomputable def RelV:V->Value->Prop
 |.non,u=>u=Value.none
 |.bl b,u=>u=Value.bool b
 |.int i,u=>∃ t,u=Value.int i t
 |.str x,u=>∃ t,u=Value.str x t
 |.byt b,u=>∃ t,u=Value.bytes b t
 |.flt b,u=>∃ t,u=Value.float b t
 |.ref a,u=>u=Value.ref a
 |.ty n,u=>u=Value.type n
noncomputable abbrev Vals:List V->List Value->Prop:=Paired RelV
theorem Vals.length{xs:List V}{us:List Value}(r:Vals xs us):xs.length=us.length:=Paired.length r
theorem Vals.get:∀{xs:List V}{us:List Value}{i:Nat}{x:V},Vals xs us->xs[i]?=some x->∃ u,us[i]?=some u/\RelV x u
 |_,_,_,_,.nil,e=>by simp at e
 |_,_,0,_,.cons r _,e=>by simp at e;subst e;exact⟨_,rfl,r⟩
 |_,_,i+1,x,.cons _ t,e=>by
  obtain⟨u,h1,h2⟩:=Vals.get (i:=i) (x:=x) t (by simpa using e);exact⟨u,by simpa using h1,h2⟩
theorem Vals.set{x:V}{u:Value}(r:RelV x u):∀{xs:List V}{us:List Value}(i:Nat),Vals xs us->Vals (xs.set i x) (us.set i u)
 |_,_,_,.nil=>.nil
 |_,_,0,.cons _ t=>.cons r t
 |_,_,i+1,.cons q t=>.cons q (Vals.set r i t)
theorem Vals.append:∀{xs ys:List V}{us ws:List Value},Vals xs us->Vals ys ws->Vals (xs++ys) (us++ws)
 |_,_,_,_,.nil,s=>s
 |_,_,_,_,.cons r t,s=>.cons r (Vals.append t s)
theorem Vals.take:∀{xs:List V}{us:List Value}(n:Nat),Vals xs us->Vals (xs.take n) (us.take n)
 |_,_,0,_=>.nil
 |_,_,_+1,.nil=>.nil
 |_,_,n+1,.cons r t=>.cons r (Vals.take n t)
theorem Vals.drop:∀{xs:List V}{us:List Value}(n:Nat),Vals xs us->Vals (xs.drop n) (us.drop n)
 |_,_,0,r=>r
 |_,_,_+1,.nil=>.nil
 |_,_,n+1,.cons _ t=>Vals.drop n t
noncomputable def RelO:Option V->Option Value->Prop
 |some v,some u=>RelV v u
 |none,none=>True
 |_,_=>False
noncomputable def KV{κ:Type}:List (κ×V)->List (κ×Value)->Prop:=Paired λ(p:κ×V)(q:κ×Value)=>p.1=q.1/\RelV p.2 q.2
noncomputable def kV:Key->V
 |.inl i=>.int i
 |.inr x=>.str x
inductive HO where
 |lst (xs:List V)
 |tup (xs:List V)
 |dK (kvs:List (Key×V))|dT (kvs:List (List Key×V))
 |set (S:Int->Bool) (n:Nat)
 |ins (C dx:Addr) (fs:List (Str×V))
 |own (x:Addr)
 |xd (fs:List (Str×V))
 |met (f x:Addr)
 |rng (lo hi:Int)
 |frz (o:Obj) (u:HO)
 |tbl (ps:Array Value)
 |ext (φ:Heap->Prop)
noncomputable abbrev Hp:=Addr->Option HO
noncomputable def upd(H:Hp)(a:Addr)(o:HO):Hp:=λb=>if b=a then some o else H b
theorem zf{H:Hp}{a:Addr}{o:HO}:upd H a o a=some o:=by unfold upd;rw[if_pos rfl]
theorem Zd{H:Hp}{a b:Addr}{o:HO}(h:b≠a):upd H a o b=H b:=by unfold upd;rw[if_neg h]
theorem Yb7{H:Hp}{a b:Addr}{o u:HO}(h:H a=some o)(h':H b=some u)(d:o≠u):a≠b:=by
 intro e;subst e;rw[h] at h';exact d (Option.some.inj h')
theorem ze{H:Hp}{a b:Addr}{o:HO}(h:H a=some o)(h':H b=none):a≠b:=by
 intro e;subst e;rw[h] at h';cases h'
section
variable (P:Program) (w:World)
noncomputable def ObjOk(H:Hp)(h:Heap)(a:Addr):HO->Prop
 |.lst xs=>xs.length<=sizeLine/\∃(its:List Value)(n:Nat),Vals xs its/\h.get? a=some {cls:=.type "list",data:=.seq its.toArray n}
 |.tup xs=>xs.length<=sizeLine/\∃ its:List Value,Vals xs its/\IsTup h a its.toArray
 |.dK kvs=>kvs.length<=sizeLine/\(a==sysModules)=false/\∃ vs,KV kvs vs/\h.DictOf (qh P w) a vs
 |.dT kvs=>kvs.length<=sizeLine/\(a==sysModules)=false/\∃ xs:List (List Key×Addr×Value),
   Paired (λ(p:List Key×V)(q:List Key×Addr×Value)=>p.1=q.1/\H q.2.1=some (.tup (p.1.map kV))/\RelV p.2 q.2.2) kvs xs /\
   ∃ o es ep,h.get? a=some o/\o.ExactDict/\o.data=.dict es ep/\es.toList=xs.map (entryOfKey (tupleKind (qh P w)))/\(xs.map (·.1)).Nodup
 |.set S n=>h.SetOf (intKind P w) a S n
 |.ins C dx fs=>H dx=some (.own a)/\fs.length<=1000/\dx≠a/\h.get? a=some (vg C dx) /\
   ∃ mA,h.Ns1 dx mA/\(∀ f,RelO (fs.lookup f) (mA f))/\PySem.Within mA (fs.map (·.1))
 |.own _=>∃ o,h.get? a=some o
 |.xd fs=>∃ mA,h.Ns1 a mA/\∀ f,RelO (fs.lookup f) (mA f)
 |.rng lo hi=>∃ t u v,h.get? a=some {cls:=.type "range",data:=.fields #[.int lo t,.int hi u,.int 1 v]}
 |.frz o u=>h.get? a=some o/\ObjOk H h a u
 |.tbl ps=>h.get? a=some {cls:=.none,data:=.fields ps}
 |.met f x=>h.get? a=some (Wy (.ref f) (.ref x))
 |.ext φ=>φ h/\(∃ o,h.get? a=some o)/\∀ h1 h2:Heap,φ h1->(∀ o,h1.get? a=some o->h2.get? a=some o)->φ h2
noncomputable def HOk(H:Hp)(h:Heap):Prop:=∀ a o,H a=some o->ObjOk P w H h a o
end
section
variable {P:Program} {w:World} {H H':Hp} {h h':Heap} {a:Addr} {o:HO}
theorem ObjOk.lt(x:ObjOk P w H h a o):a<h.objs.size:=by
 cases o with
 |lst xs=>obtain⟨_,_,_,_,e⟩:=x;exact wb e
 |tup xs=>obtain⟨_,_,_,p⟩:=x;exact p.lt
 |dK kvs=>obtain⟨_,_,_,_,o,_,_,e,_⟩:=x;exact wb e
 |dT kvs=>obtain⟨_,_,_,_,o,_,_,e,_⟩:=x;exact wb e
 |set S n=>obtain⟨o,_,_,_,e,_⟩:=x;exact wb e
 |ins C dx fs=>obtain⟨_,_,_,e,_⟩:=x;exact wb e
 |own y=>obtain⟨_,e⟩:=x;exact wb e
 |xd fs=>obtain⟨_,⟨_,_,_,e,_⟩,_⟩:=x;exact wb e
 |rng lo hi=>obtain⟨_,_,_,e⟩:=x;exact wb e
 |frz ob u=>obtain⟨e,_⟩:=x;exact wb e
 |tbl ps=>exact wb (show h.get? a=some _ from x)
 |met f y=>exact wb (show h.get? a=some _ from x)
 |ext φ=>obtain⟨_,⟨_,e⟩,_⟩:=x;exact wb e
theorem Paired.mapP{α β:Type}{F G:α->β->Prop}:∀{l₁:List α}{l₂:List β},Paired F l₁ l₂->(∀ a b,F a b->G a b)->Paired G l₁ l₂
 |_,_,.nil,_=>.nil
 |_,_,.cons r t,f=>.cons (f _ _ r) (Paired.mapP t f)
theorem ObjOk.stay(x:ObjOk P w H h a o)(k:∀ b u,(b=a\/H b=some (.own a))->h.get? b=some u->h'.get? b=some u)
  (ho:∀ b,H b=some (.own a)->H' b=some (.own a)) (ht:∀ b xs,H b=some (.tup xs)->H' b=some (.tup xs)):ObjOk P w H' h' a o:=by
 induction o with
 |lst xs=>obtain⟨z,its,n,r,e⟩:=x;exact⟨z,its,n,r,k _ _ (.inl rfl) e⟩
 |tup xs=>obtain⟨z,its,r,ob,e,c⟩:=x;exact⟨z,its,r,ob,k _ _ (.inl rfl) e,c⟩
 |dK kvs=>obtain⟨z,y,vs,r,ob,es,ep,e,c⟩:=x;exact⟨z,y,vs,r,ob,es,ep,k _ _ (.inl rfl) e,c⟩
 |dT kvs =>
  obtain⟨z,y,xs,r,ob,es,ep,e,c⟩:=x;exact⟨z,y,xs,Paired.mapP r λp q z=>⟨z.1,ht _ _ z.2.1,z.2.2⟩,ob,es,ep,k _ _ (.inl rfl) e,c⟩
 |set S n=>obtain⟨ob,es,ep,t,e,c⟩:=x;exact⟨ob,es,ep,t,k _ _ (.inl rfl) e,c⟩
 |ins C dx fs =>
  obtain⟨d,z,ne,e,mA,⟨od,es,ep,e2,c⟩,r⟩:=x;exact⟨ho _ d,z,ne,k _ _ (.inl rfl) e,mA,⟨od,es,ep,k _ _ (.inr d) e2,c⟩,r⟩
 |own y=>obtain⟨ob,e⟩:=x;exact⟨ob,k _ _ (.inl rfl) e⟩
 |xd fs=>obtain⟨mA,⟨od,es,ep,e,c⟩,r⟩:=x;exact⟨mA,⟨od,es,ep,k _ _ (.inl rfl) e,c⟩,r⟩
 |rng lo hi=>obtain⟨t,u,v,e⟩:=x;exact⟨t,u,v,k _ _ (.inl rfl) e⟩
 |frz ob u ih=>obtain⟨e,q⟩:=x;exact⟨k _ _ (.inl rfl) e,ih q⟩
 |tbl ps =>
  have e:h.get? a=some {cls:=.none,data:=.fields ps}:=x;show h'.get? a=some {cls:=.none,data:=.fields ps};exact k a _ (.inl rfl) e
 |met f y =>
  have e:h.get? a=some (Wy (.ref f) (.ref y)):=x;show h'.get? a=some (Wy (.ref f) (.ref y));exact k a _ (.inl rfl) e
 |ext φ=>obtain⟨p,⟨o,e⟩,st⟩:=x;exact⟨st _ _ p λo q=>k _ _ (.inl rfl) q,⟨o,k _ _ (.inl rfl) e⟩,st⟩
theorem HOk.lt(x:HOk P w H h)(e:H a=some o):a<h.objs.size:=(x a o e).lt
theorem HOk.fresh(x:HOk P w H h)(e:h.objs.size<=a):H a=none:=by
 cases q:H a with
 |none=>rfl
 |some u=>exact absurd (Xc (x.lt q) e) (xj _)
theorem HOk.kept(x:HOk P w H h)(k:∀ b u,h.get? b=some u->h'.get? b=some u):HOk P w H h':=λa o e =>
 (x a o e).stay (λb u _ q=>k b u q) (λ_ q=>q) λ_ _ q=>q
theorem HOk.laid(x:HOk P w H h)(k:∀ b u,h.get? b=some u->h'.get? b=some u)(hp:h.objs.size<=a)(new:ObjOk P w (upd H a o) h' a o):HOk P w (upd H a o) h':=λb u e=>by
 have hn:=x.fresh hp;by_cases hb:b=a
 ·subst hb;rw[zf] at e;cases e;exact new
 ·rw[Zd hb] at e;exact(x b u e).stay (λc v _ q=>k c v q) (λc q=>by rw[Zd (ze q hn)];exact q) λc xs q=>by rw[Zd (ze q hn)];exact q
end
noncomputable def Rd(H:Hp)(a:Addr)(u:HO):Prop:=H a=some u\/∃ o,H a=some (.frz o u)
theorem Rd.of{H:Hp}{a:Addr}{u:HO}(h:H a=some u):Rd H a u:=.inl h
theorem Rd.ok{P:Program}{w:World}{H:Hp}{h:Heap}{a:Addr}{u:HO}(r:Rd H a u)(x:HOk P w H h):ObjOk P w H h a u:=by
 rcases r with r|⟨o,r⟩
 ·exact x a u r
 ·obtain⟨_,q⟩:=x a _ r;exact q
noncomputable def Mut:Option HO->Prop
 |some (.lst _)=>True
 |some (.dK _)=>True
 |some (.dT _)=>True
 |some (.set _ _)=>True
 |some (.ins _ _ _)=>True
 |some (.ext _)=>True
 |_=>False
section
variable {P:Program} {w:World} {H:Hp} {h h':Heap} {x e:Addr} {o':HO}
theorem HOk.write(ok:HOk P w H h)(mu:Mut (H x))(he:e=x\/H e=some (.own x))(k:∀ b u,b≠e->h.get? b=some u->h'.get? b=some u)(heo:∃ u,h'.get? e=some u)
  (new:ObjOk P w (upd H x o') h' x o'):HOk P w (upd H x o') h':=λb u q=>by
 have nown:∀ c y,H c=some (.own y)->c≠x:=λc y r z=>by subst z;rw[r] at mu;exact mu
 have ntup:∀ c xs,H c=some (.tup xs)->c≠x:=λc xs r z=>by subst z;rw[r] at mu;exact mu
 by_cases hb:b=x
 ·subst hb;rw[zf] at q;cases q;exact new
 ·rw[Zd hb] at q;by_cases hbe:b=e
  ·have q':H b=some (.own x):=by
    rcases he with z|z
    ·exact absurd (hbe.trans z) hb
    ·rw[hbe];exact z
   rw[q] at q';cases q';obtain⟨v,hv⟩:=heo;exact⟨v,by rw[hbe];exact hv⟩
  ·refine(ok b u q).stay (λc v hc r=>k c v ?_ r) (λc r=>by rw[Zd (nown c b r)];exact r) λc xs r=>by rw[Zd (ntup c xs r)];exact r
   rcases hc with rfl|hc
   ·exact hbe
   ·rintro rfl
    rcases he with z|z
    ·exact nown c b hc z
    ·rw[hc] at z;cases z;exact hb rfl
end
structure Un (fs ex:List Addr) (H H':Hp) (h h':Heap):Prop where
 keep:∀ b o,h.get? b=some o->H b=none->b∉fs->b∉ex->h'.get? b=some o
 slot:∀ b o,h.get? b=some o->H b=none->b∈fs->b∉ex->∃ sl,h'.get? b=some {o with slots:=sl}
 free:∀ b o,h.get? b=some o->H b=none->b∉ex->H' b=none
 there:∀ b o,h.get? b=some o->b∉ex->∃ o',h'.get? b=some o'
 tups:∀ b xs,H b=some (.tup xs)->H' b=some (.tup xs)
 frzs:∀ b o u,H b=some (.frz o u)->H' b=some (.frz o u)
 tbls:∀ b ps,H b=some (.tbl ps)->∃ more,H' b=some (.tbl (ps++more))
section
variable {fs fs' ex ex':List Addr} {H H1 H2:Hp} {h h1 h2 h':Heap} {a x e:Addr} {o:HO}
theorem Un.any(u:Un fs ex H H1 h h1){b:Addr}{ob:Obj}(q:h.get? b=some ob)(n:H b=none)(hx:b∉ex):∃ sl,h1.get? b=some {ob with slots:=sl}:=by
 by_cases hb:b∈fs
 ·exact u.slot b ob q n hb hx
 ·exact⟨ob.slots,u.keep b ob q n hb hx⟩
theorem Un.kept(k:∀ b u,h.get? b=some u->h'.get? b=some u):Un fs ex H H h h' :=
 ⟨λb ob q _ _ _=>k b ob q,λb ob q _ _ _=>⟨ob.slots,k b ob q⟩,λ_ _ _ n _=>n,λb ob q _=>⟨ob,k b ob q⟩,λ_ _ q=>q,λ_ _ _ q=>q,λ_ ps q=>⟨#[],by rw[q];simp⟩⟩
theorem Un.refl:Un fs ex H H h h:=Un.kept λ_ _ q=>q
theorem Un.laid(k:∀ b u,h.get? b=some u->h'.get? b=some u)(hp:h.objs.size<=a)(hn:H a=none):Un fs ex H (upd H a o) h h' where
 keep:=λb u q _ _ _=>k b u q
 slot:=λb u q _ _ _=>⟨u.slots,k b u q⟩
 free:=λb u q n _=>by rw[Zd (vc (Xc (wb q) hp))];exact n
 there:=λb u q _=>⟨u,k b u q⟩
 tups:=λb xs q=>by rw[Zd (ze q hn)];exact q
 frzs:=λb u xs q=>by rw[Zd (ze q hn)];exact q
 tbls:=λb ps q=>⟨#[],by rw[Zd (ze q hn),q];simp⟩
theorem Un.write(mu:Mut (H x))(he:e=x\/H e=some (.own x))(k:∀ b u,b≠e->h.get? b=some u->h'.get? b=some u)(heo:∃ u,h'.get? e=some u):Un fs ex H (upd H x o) h h':=by
 have hx:∀ b,H b=none->b≠x:=λb n z=>by subst z;rw[n] at mu;exact mu
 have hb:∀ b,H b=none->b≠e:=λb n z=>by
  subst z
  rcases he with r|r
  ·exact hx b n r
  ·rw[n] at r;cases r
 have hm:∀ b u,H b=some u->¬ Mut (some u)->b≠x:=λb u q nm z=>by subst z;rw[q] at mu;exact nm mu
 refine⟨λb u q n _ _=>k b u (hb b n) q,λb u q n _ _=>⟨u.slots,k b u (hb b n) q⟩,λb u q n _=>by rw[Zd (hx b n)];exact n,λb u q _=>?_,
  λb xs q=>by rw[Zd (hm b _ q λz=>z)];exact q,λb u xs q=>by rw[Zd (hm b _ q λz=>z)];exact q,λb ps q=>⟨#[],by rw[Zd (hm b _ q λz=>z),q];simp⟩⟩
 by_cases hbe:b=e
 ·subst hbe;exact heo
 ·exact⟨u,k b u hbe q⟩
end
noncomputable def trk(h:Heap)(H:Hp):List Addr:=(wc h.objs.size).filter λa=>(H a).isSome
noncomputable def QaM(h:Heap)(H:Hp):Heap:=PySem.W.hideAll h (trk h H)
theorem qbs(h:Heap)(H:Hp):(QaM h H).objs.size=h.objs.size:=PySem.W.hideAll_size _ _
theorem qbB{h:Heap}{H:Hp}{b:Addr}{o:Obj}(e:h.get? b=some o)(n:H b=none):(QaM h H).get? b=some o :=
 PySem.W.hideAll_get _ e λhm=>by
  have q:(H b).isSome=true:=(wq.mp hm).2;rw[n] at q;simp at q
theorem ZbX{h:Heap}{H:Hp}{b:Addr}{o:Obj}(e:(QaM h H).get? b=some o):h.get? b=some o/\H b=none:=by
 have e':h.get? b=some o:=PySem.W.of_hideAll (trk h H) e;refine⟨e',?_⟩;cases q:H b with
 |none=>rfl
 |some x =>
  have hm:b∈trk h H:=wq.mpr ⟨Xj.mpr (wb e'),by simp[q]⟩;have z:(QaM h H).get? b=none:=PySem.W.hideAll_none (trk h H) hm;rw[z] at e;cases e
structure Mod (K:PySem.W.Frag) (mg:Str->Option Value) (base:Heap):Prop where
 kin:K.In base
 glob:base.Ns mainGlobals mg
 blt:∃ mb,base.Ns builtinsNs mb/\∀ x:Str,x≠"__name__"->mb x=bootBuiltins x
 nolimit:base.NoLimit
structure Cx where
 prog:Program
 w:World
 K:PySem.W.Frag
 mg:Str->Option Value
 base:Heap
 A:Around
 N:List Str
 s₀:Shared
 H₀:Hp
 env:Env
 outer:List Env
 stack:List Env
 ex:List Addr
 fn:Str->Bool
 calm:Bool
 pn:List (Addr×Obj)
 xe:Value->Shared->Prop
noncomputable def frs(l:List Env):List Addr:=l.filterMap (·.frame)
noncomputable abbrev Cx.fs(X:Cx):List Addr:=frs X.outer
noncomputable def Vis(sc:Scope)(x:Str):Prop:=sc.names.lookup x=some .local\/sc.names.lookup x=some .cell\/sc.names.lookup x=some .free
noncomputable def Loc(sc:Scope)(x:Str):Prop:=sc.names.lookup x=some .local\/sc.names.lookup x=some .cell
noncomputable def Look(env:Env)(h:Heap)(m:Str->Option Value)(x:Str)(u:Value):Prop :=
 (env.kindOf x=some .local/\m x=some u)\/((env.kindOf x=some .cell\/env.kindOf x=some .free)/\∃ c,env.cells.lookup x=some c/\h.IsCell c (some u))
structure Cx.Ok (X:Cx):Prop where
 mod:Mod X.K X.mg X.base
 kind:X.env.scope.kind=.function
 glob:X.env.globals=mainGlobals
 blt:X.env.builtins=builtinsNs
 above:X.s₀.heap.objs.size<=X.env.locals
 inj:∀ x y c,X.env.cells.lookup x=some c->X.env.cells.lookup y=some c->x=y
 has:∀ x,(X.env.kindOf x=some .cell\/X.env.kindOf x=some .free)->∃ c,X.env.cells.lookup x=some c
 cab:∀ x c,X.fn x=true->X.env.cells.lookup x=some c->X.s₀.heap.objs.size<=c
 hd:X.calm=true->X.A.handled=none
 frames:X.A.frames=some X.stack
 stk:X.stack=X.outer\/(X.stack=X.env::X.outer/\X.env.frame=some X.env.locals)
 exf:∀ b∈X.ex,b≠X.env.locals/\∀ x c,X.env.cells.lookup x=some c->c≠b
 bs:∀ b o,X.base.get? b=some o->X.s₀.heap.get? b=some o/\X.H₀ b=none
 bsz:X.base.objs.size<=X.s₀.heap.objs.size
 noex:∀ b o,X.base.get? b=some o->b∉X.ex
 exfs:∀ b∈X.ex,b∉X.fs
 funs:X.s₀.heap.FunFrames X.base X.outer
 frf:∀ b∈X.fs,X.H₀ b=none
structure Inv (X:Cx) (pins:List (Addr×Obj)) (σ:List (Option V)) (H:Hp) (s:Shared):Prop where
 ok:X.Ok
 os:s.os=X.s₀.os
 bare:AllBare s.gens
 base:Un X.fs X.ex X.H₀ H X.s₀.heap s.heap
 loc:∃ m,s.heap.Ns X.env.locals m/\∀(i:Nat)(x:Str)(v:V),X.N[i]?=some x->σ[i]?=some (some v)->Vis X.env.scope x->∃ u,RelV v u/\Look X.env s.heap m x u
 cell:∀ x c,X.env.cells.lookup x=some c->∃ v,s.heap.IsCell c v
 free:H X.env.locals=none
 freeC:∀ x c,X.env.cells.lookup x=some c->H c=none
 pin:∀ p∈X.pn++pins,s.heap.get? p.1=some p.2/\H p.1=none/\p.1≠X.env.locals/\p.1∉X.fs/\∀ v,p.2.data≠.cell v
 hok:HOk X.prog X.w H s.heap
 len:σ.length=X.N.length
section
variable {X:Cx} {pins:List (Addr×Obj)} {σ:List (Option V)} {H H':Hp} {s:Shared} {h':Heap}
theorem Cx.Ok.nofr(ok:X.Ok){b:Addr}{o:Obj}(e:X.base.get? b=some o):b∉X.fs:=λhb=>by
 have:=(ok.funs.mem hb).1;rw[e] at this;cases this
theorem Inv.bs(I:Inv X pins σ H s):∀ b o,X.base.get? b=some o->s.heap.get? b=some o/\H b=none:=λb o e =>
 ⟨I.base.keep b o (I.ok.bs b o e).1 (I.ok.bs b o e).2 (I.ok.nofr e) (I.ok.noex b o e),I.base.free b o (I.ok.bs b o e).1 (I.ok.bs b o e).2 (I.ok.noex b o e)⟩
theorem Inv.bk(I:Inv X pins σ H s):∀ b o,X.base.get? b=some o->s.heap.get? b=some o:=λb o e=>(I.bs b o e).1
theorem Inv.mod(I:Inv X pins σ H s):Mod X.K X.mg X.base:=I.ok.mod
theorem Inv.kIn(I:Inv X pins σ H s):X.K.In s.heap:=I.ok.mod.kin.keeps I.bk
theorem Inv.lt(I:Inv X pins σ H s):X.env.locals<s.heap.objs.size:=let ⟨_,hn,_⟩:=I.loc;hn.lt
theorem Inv.sz(I:Inv X pins σ H s):X.s₀.heap.objs.size<=s.heap.objs.size:=xf I.ok.above (Vy I.lt)
theorem Inv.nofs(I:Inv X pins σ H s){a:Addr}(h:s.heap.objs.size<=a):a∉X.fs:=λhb=>by
 obtain⟨_,o,ho,_⟩:=I.ok.funs.mem hb;exact absurd (Xc (wb ho) (xf I.sz h)) (xj _)
theorem Inv.cne(I:Inv X pins σ H s):∀ x c,X.env.cells.lookup x=some c->c≠X.env.locals:=λx c e z=>by
 obtain⟨v,o,ho,hd⟩:=I.cell x c e;obtain⟨m,⟨o',es,ep,ho',hd',_⟩,_⟩:=I.loc;rw[z,ho'] at ho;cases ho;rw[hd'] at hd;cases hd
theorem Inv.funs(I:Inv X pins σ H s):s.heap.FunFrames X.base X.outer:=by
 have all:∀(l:List Env),(∀ b∈frs l,b∈X.fs)->X.s₀.heap.FunFrames X.base l->s.heap.FunFrames X.base l:=by
  intro l
  induction l with
  |nil=>intro _ _;trivial
  |cons env r ih =>
   intro hs hl;obtain⟨hk,⟨L,o,hf,hn,ho,hd⟩,hr⟩:=hl;have hL:L∈X.fs:=hs L (by unfold frs;rw[uw,hf];exact Wi);obtain⟨sl,e⟩:=I.base.slot L o ho (I.ok.frf L hL) hL λz=>I.ok.exfs L z hL;exact⟨hk,⟨L,_,hf,hn,e,hd⟩,ih (λb hb=>hs b (by unfold frs;rw[uw,hf];exact uf _ hb)) hr⟩
 exact all X.outer (λ_ hb=>hb) I.ok.funs
theorem Inv.stack(I:Inv X pins σ H s):s.heap.FunFrames X.base X.stack:=by
 rcases I.ok.stk with e|⟨e,hf⟩
 ·rw[e];exact I.funs
 ·rw[e];obtain⟨m,hn,_⟩:=I.loc;refine .cons (by rw[I.ok.kind];decide) hf hn ?_ I.funs;exact UA (xf I.ok.bsz I.ok.above)
theorem Inv.stkSub(I:Inv X pins σ H s):∀ b∈frs X.stack,b∈X.env.locals::X.fs:=λb hb=>by
 rcases I.ok.stk with e|⟨e,hf⟩
 ·rw[e] at hb;exact uf _ hb
 ·rw[e] at hb;unfold frs at hb;rw[uw,hf] at hb;exact hb
theorem Inv.stkFree(I:Inv X pins σ H s):∀ b∈frs X.stack,H b=none:=λb hb=>by
 rcases ua.mp (I.stkSub b hb) with e|hb
 ·rw[e];exact I.free
 ·obtain⟨_,o,ho,_⟩:=I.ok.funs.mem hb;exact I.base.free b o ho (I.ok.frf b hb) λz=>I.ok.exfs b z hb
theorem Inv.step{g':Array GenState}{t':Nat}{d':Drawn}{ch:List Addr}(I:Inv X pins σ H s)
  (hch:∀ b∈ch,(b∈X.ex\/X.s₀.heap.objs.size<=b)/\b≠X.env.locals/\(∀ x c,X.env.cells.lookup x=some c->c≠b)/\∀ p∈X.pn++pins,p.1≠b)
  (keep:∀ b o,b≠X.env.locals->b∉X.fs->b∉ch->s.heap.get? b=some o->H b=none->h'.get? b=some o)
  (slot:∀ b o,b≠X.env.locals->b∈X.fs->b∉ch->s.heap.get? b=some o->H b=none->∃ sl,h'.get? b=some {o with slots:=sl}) (free:∀ b o,b∉ch->s.heap.get? b=some o->H b=none->H' b=none)
  (there:∀ b o,b∉ch->s.heap.get? b=some o->∃ o',h'.get? b=some o')
  (tups:∀ b xs,H b=some (.tup xs)->H' b=some (.tup xs)) (frzs:∀ b o u,H b=some (.frz o u)->H' b=some (.frz o u)) (tbls:∀ b ps,H b=some (.tbl ps)->∃ more,H' b=some (.tbl (ps++more)))
  (ns:∀ m,s.heap.Ns X.env.locals m->h'.Ns X.env.locals m) (hok:HOk X.prog X.w H' h') (hg:AllBare g') :
  Inv X pins σ H' {s with heap:=h',gens:=g',drawn:=d',toks:=t'}:=by
 have neL:∀ b o,X.s₀.heap.get? b=some o->b≠X.env.locals:=λb o e=>vc (Xc (wb e) I.ok.above);have neC:∀ b o,X.s₀.heap.get? b=some o->b∉X.ex->b∉ch:=λb o e hx hb=>by
  rcases(hch b hb).1 with z|z
  ·exact hx z
  ·exact absurd (Xc (wb e) z) (xj _)
 have cellK:∀ x c,X.env.cells.lookup x=some c->∀ v,s.heap.IsCell c v->h'.IsCell c v:=λx c e v ⟨o,ho,hd⟩=>by
  have nch:c∉ch:=λz=>(hch c z).2.2.1 x c e rfl;by_cases hc:c∈X.fs
  ·obtain⟨sl,q⟩:=slot c o (I.cne x c e) hc nch ho (I.freeC x c e);exact⟨_,q,hd⟩
  ·exact⟨o,keep c o (I.cne x c e) hc nch ho (I.freeC x c e),hd⟩
 refine⟨I.ok,I.os,hg,⟨λb o e n hb hx=>?_,λb o e n hb hx=>?_,λb o e n hx=>?_,λb o e hx=>?_,λb xs e=>tups b xs (I.base.tups b xs e),λb o xs e=>frzs b o xs (I.base.frzs b o xs e),λb ps e=>?_⟩,?_,λx c e=>?_,?_,λx c e=>?_,λp hp=>?_,hok,I.len⟩
 ·exact keep b o (neL b o e) hb (neC b o e hx) (I.base.keep b o e n hb hx) (I.base.free b o e n hx)
 ·obtain⟨sl,e1⟩:=I.base.slot b o e n hb hx;obtain⟨sl',e2⟩:=slot b _ (neL b o e) hb (neC b o e hx) e1 (I.base.free b o e n hx);exact⟨sl',e2⟩
 ·obtain⟨o',e1⟩:=I.base.there b o e hx;exact free b o' (neC b o e hx) e1 (I.base.free b o e n hx)
 ·obtain⟨o',e1⟩:=I.base.there b o e hx;exact there b o' (neC b o e hx) e1
 ·obtain⟨m1,e1⟩:=I.base.tbls b ps e;obtain⟨m2,e2⟩:=tbls b _ e1;exact⟨m1++m2,by rw[e2,Array.append_assoc]⟩
 ·obtain⟨m,hn,hl⟩:=I.loc;refine⟨m,ns m hn,λi x v e1 e2 e3=>?_⟩;obtain⟨u,r,l⟩:=hl i x v e1 e2 e3;refine⟨u,r,?_⟩
  rcases l with l|⟨k,c,e,z⟩
  ·exact .inl l
  ·exact .inr ⟨k,c,e,cellK x c e _ z⟩
 ·obtain⟨v,z⟩:=I.cell x c e;exact⟨v,cellK x c e v z⟩
 ·obtain⟨m,⟨o,_,_,ho,_⟩,_⟩:=I.loc;exact free _ o (λz=>(hch _ z).2.1 rfl) ho I.free
 ·obtain⟨v,o,ho,hd⟩:=I.cell x c e;exact free c o (λz=>(hch c z).2.2.1 x c e rfl) ho (I.freeC x c e)
 ·obtain⟨e,n,ne,nf,d⟩:=I.pin p hp;have nch:p.1∉ch:=λz=>(hch p.1 z).2.2.2 p hp rfl;exact⟨keep p.1 p.2 ne nf nch e n,free p.1 p.2 nch e n,ne,nf,d⟩
theorem Inv.un{t':Nat}(I:Inv X pins σ H s)(u:Un X.fs [] H H' s.heap h')(hok:HOk X.prog X.w H' h'):Inv X pins σ H' {s with heap:=h',toks:=t'}:=by
 obtain⟨m,⟨o,es,ep,ho,r⟩,_⟩:=id I.loc;obtain⟨sl,hL⟩:=u.any ho I.free (by simp);exact I.step (g':=s.gens) (d':=s.drawn) (ch:=[]) (λ_ z=>nomatch z) (λb o _ hb _ e n=>u.keep b o e n hb (by simp)) (λb o _ hb _ e n=>u.slot b o e n hb (by simp)) (λb o _ e n=>u.free b o e n (by simp)) (λb o _ e=>u.there b o e (by simp)) u.tups u.frzs u.tbls (λm' hm=>by
  obtain⟨o',es',ep',ho',r'⟩:=hm;rw[ho] at ho';cases ho';exact⟨_,es',ep',hL,r'⟩) hok I.bare
theorem Inv.call{g':Array GenState}{t':Nat}{d':Drawn}{ch:List Addr}(I:Inv X pins σ H s)(u:Un (frs X.stack) ch H H' s.heap h')(hok:HOk X.prog X.w H' h')(hg:AllBare g')
  (hch:∀ b∈ch,(b∈X.ex\/X.s₀.heap.objs.size<=b)/\b≠X.env.locals/\(∀ x c,X.env.cells.lookup x=some c->c≠b)/\∀ p∈X.pn++pins,p.1≠b) :
  Inv X pins σ H' {s with heap:=h',gens:=g',drawn:=d',toks:=t'}:=by
 obtain⟨m,⟨o,es,ep,ho,r⟩,_⟩:=id I.loc;obtain⟨sl,hL⟩:=u.any ho I.free λz=>(hch _ z).2.1 rfl;exact I.step (ch:=ch) hch (λb o hL hb hc e n=>u.keep b o e n (λz=>(ua.mp (I.stkSub b z)).elim hL hb) hc) (λb o _ _ hc e n=>u.any e n hc) (λb o hc e n=>u.free b o e n hc) (λb o hc e=>u.there b o e hc) u.tups u.frzs u.tbls (λm' hm=>by
  obtain⟨o',es',ep',ho',r'⟩:=hm;rw[ho] at ho';cases ho';exact⟨_,es',ep',hL,r'⟩) hok hg
theorem Inv.turned{t':Nat}{it:Addr}(I:Inv X pins σ H s)(k:∀ b o,b≠it->s.heap.get? b=some o->h'.get? b=some o)(hn:H it=none)(hL:it≠X.env.locals)
  (h1:it∈X.ex\/X.s₀.heap.objs.size<=it) (h2:∀ x c,X.env.cells.lookup x=some c->c≠it) (h3:∀ p∈X.pn++pins,p.1≠it):Inv X pins σ H {s with heap:=h',toks:=t'}:=by
 have nit:∀ b u,H b=some u->b≠it:=λb u e z=>by rw[z,hn] at e;cases e
 refine I.step (g':=s.gens) (d':=s.drawn) (ch:=[it]) (λb hb=>?_) (λb o _ _ hc e _=>k b o (λz=>hc (by simp[z])) e) (λb o _ _ hc e _=>⟨o.slots,k b o (λz=>hc (by simp[z])) e⟩) (λ_ _ _ _ n=>n)
  (λb o hc e=>⟨o,k b o (λz=>hc (by simp[z])) e⟩) (λ_ _ e=>e) (λ_ _ _ e=>e) (λb ps e=>⟨#[],by rw[e];simp⟩) (λm hm=>?_) (λb u e=>?_) I.bare
 ·have e:b=it:=by simpa using hb
  subst e;exact⟨h1,hL,h2,h3⟩
 ·obtain⟨o,es,ep,ho,r⟩:=hm;exact⟨o,es,ep,k _ o (Ne.symm hL) ho,r⟩
 ·refine(I.hok b u e).stay (λc v hc q=>k c v ?_ q) (λ_ q=>q) λ_ _ q=>q
  rcases hc with z|z
  ·rw[z];exact nit b u e
  ·exact nit c _ z
theorem Inv.tok(I:Inv X pins σ H s)(t:Nat):Inv X pins σ H {s with toks:=t}:=I.un (h':=s.heap) (t':=t) Un.refl I.hok
theorem Inv.kept{t':Nat}(I:Inv X pins σ H s)(k:∀ b u,s.heap.get? b=some u->h'.get? b=some u):Inv X pins σ H {s with heap:=h',toks:=t'}:=I.un (Un.kept k) (I.hok.kept k)
theorem Inv.laid{a:Addr}{o:HO}{t':Nat}(I:Inv X pins σ H s)(k:∀ b u,s.heap.get? b=some u->h'.get? b=some u)(hp:s.heap.objs.size<=a)(new:ObjOk X.prog X.w (upd H a o) h' a o) :
  Inv X pins σ (upd H a o) {s with heap:=h',toks:=t'}:=I.un (Un.laid k hp (I.hok.fresh hp)) (I.hok.laid k hp new)
theorem Inv.write{x e:Addr}{o:HO}{t':Nat}(I:Inv X pins σ H s)(mu:Mut (H x))(he:e=x\/H e=some (.own x))(k:∀ b u,b≠e->s.heap.get? b=some u->h'.get? b=some u)(heo:∃ u,h'.get? e=some u)
  (new:ObjOk X.prog X.w (upd H x o) h' x o):Inv X pins σ (upd H x o) {s with heap:=h',toks:=t'}:=I.un (Un.write mu he k heo) (I.hok.write mu he k heo new)
theorem Inv.pins_of{pins':List (Addr×Obj)}(I:Inv X pins σ H s)(h:∀ p∈pins',s.heap.get? p.1=some p.2/\H p.1=none/\p.1≠X.env.locals/\p.1∉X.fs/\∀ v,p.2.data≠.cell v):Inv X pins' σ H s :=
 ⟨I.ok,I.os,I.bare,I.base,I.loc,I.cell,I.free,I.freeC,λp hp=>(Xf.mp hp).elim (λz=>I.pin p (ue _ z)) (h p),I.hok,I.len⟩
theorem qal{N:List Str}(hN:N.Nodup){i j:Nat}{x:Str}(a:N[i]?=some x)(b:N[j]?=some x):i=j:=by
 obtain⟨h1,e1⟩:=Xa.mp a;obtain⟨h2,e2⟩:=Xa.mp b;exact(List.getElem_inj hN).mp (e1.trans e2.symm)
theorem Zbl{M:Model}{A:Around}{E:Value->Shared->Prop}{i:Nat}{x:Str}{v:V}{u:Value}{Q:Unit->Shared->Prop}(I:Inv X pins σ H s)(hN:X.N.Nodup)(hi:X.N[i]?=some x)(hx:Loc X.env.scope x)(r:RelV v u)
  (h:∀ s',Inv X pins (σ.set i (some v)) H s'->(∃ a,Heap.SameBut a s.heap s'.heap/\(a=X.env.locals\/X.env.cells.lookup x=some a))->Q () s') (hf:X.fn x=true\/X.env.scope.names.lookup x=some .local:=by first|exact .inl rfl|exact .inr rfl|assumption):wpAny M A (storeName X.env x u) Q E s:=by
 obtain⟨m,hn,hl⟩:=id I.loc;have hcls:(X.env.scope.kind == .class||(X.env.scope.kind == .module&&X.env.locals != X.env.globals))=false:=by rw[I.ok.kind];rfl
 have hiσ:i<σ.length:=by rw[I.len];exact(Xa.mp hi).1
 have cne:=I.cne;have tracked:∀{a:Addr}{h':Heap},(∃ o,s.heap.get? a=some o/\H a=none)->Heap.SameBut a s.heap h'->HOk X.prog X.w H h':=λ{a h'} ha hs b ob e=>by
  obtain⟨_,_,hfree⟩:=ha;refine(I.hok b ob e).stay (λc w' hc q=>(hs.2 c ?_).trans q) (λ_ q=>q) λ_ _ q=>q;rintro rfl
  rcases hc with rfl|hc
  ·rw[hfree] at e;cases e
  ·rw[hfree] at hc;cases hc
 rcases hx with hk|hk
 ·refine wpAny_storeName_local hk hn (λh' hn' hs=>?_) hcls;obtain⟨oL,_,_,hoL,_⟩:=id hn;refine h _ ⟨I.ok,I.os,I.bare,⟨λb o e n hb hx=>?_,λb o e n hb hx=>?_,I.base.free,λb o e hx=>?_,I.base.tups,I.base.frzs,I.base.tbls⟩,⟨_,hn',λj y v' e1 e2 e3=>?_⟩,λy c e=>?_,I.free,I.freeC,λp hp=>?_,tracked ⟨oL,hoL,I.free⟩ hs,by simpa using I.len⟩ ⟨_,hs,.inl rfl⟩
  ·exact(hs.2 b (vc (Xc (wb e) I.ok.above))).trans (I.base.keep b o e n hb hx)
  ·obtain⟨sl,e1⟩:=I.base.slot b o e n hb hx;exact⟨sl,(hs.2 b (vc (Xc (wb e) I.ok.above))).trans e1⟩
  ·obtain⟨o',e1⟩:=I.base.there b o e hx;exact⟨o',(hs.2 b (vc (Xc (wb e) I.ok.above))).trans e1⟩
  ·by_cases hj:j=i
   ·subst hj;rw[hi] at e1;cases e1;rw[wg hiσ] at e2;cases e2;exact⟨u,r,.inl ⟨hk,by simp⟩⟩
   ·rw[Uf (Ne.symm hj)] at e2;obtain⟨u',r',q⟩:=hl j y v' e1 e2 e3;refine⟨u',r',?_⟩
    rcases q with ⟨k,e⟩|⟨k,c,e,z⟩
    ·refine .inl ⟨k,?_⟩;have:y≠x:=λe=>hj (qal hN e1 (e ▸ hi));simp[this,e]
    ·exact .inr ⟨k,c,e,z.sameBut hs (cne y c e)⟩
  ·obtain⟨w',z⟩:=I.cell y c e;exact⟨w',z.sameBut hs (cne y c e)⟩
  ·obtain⟨e,n,ne,nf,d⟩:=I.pin p hp;exact⟨(hs.2 p.1 ne).trans e,n,ne,nf,d⟩
 ·have hfn:X.fn x=true:=by
   rcases hf with z|z
   ·exact z
   ·rw[z] at hk;cases hk
  obtain⟨c,hc⟩:=I.ok.has x (.inl hk);obtain⟨w',z⟩:=I.cell x c hc;refine wpAny_storeName_cell I.ok.kind hk hc z (λh' hc' hs=>?_);obtain⟨oc,hoc,hocd⟩:=id z;refine h {s with heap:=h'} ⟨I.ok,I.os,I.bare,⟨λb o e n hb hx=>?_,λb o e n hb hx=>?_,I.base.free,λb o e hx=>?_,I.base.tups,I.base.frzs,I.base.tbls⟩,⟨m,hn.sameBut hs (Ne.symm (cne x c hc)),λj y v' e1 e2 e3=>?_⟩,λy c' e=>?_,I.free,I.freeC,λp hp=>?_,tracked ⟨oc,hoc,I.freeC x c hc⟩ hs,by simpa using I.len⟩ ⟨c,hs,.inr hc⟩
  ·exact(hs.2 b (vc (Xc (wb e) (I.ok.cab x c hfn hc)))).trans (I.base.keep b o e n hb hx)
  ·obtain⟨sl,e1⟩:=I.base.slot b o e n hb hx;exact⟨sl,(hs.2 b (vc (Xc (wb e) (I.ok.cab x c hfn hc)))).trans e1⟩
  ·obtain⟨o',e1⟩:=I.base.there b o e hx;exact⟨o',(hs.2 b (vc (Xc (wb e) (I.ok.cab x c hfn hc)))).trans e1⟩
  ·by_cases hj:j=i
   ·subst hj;rw[hi] at e1;cases e1;rw[wg hiσ] at e2;cases e2;exact⟨u,r,.inr ⟨.inl hk,c,hc,hc'⟩⟩
   ·rw[Uf (Ne.symm hj)] at e2;obtain⟨u',r',q⟩:=hl j y v' e1 e2 e3;refine⟨u',r',?_⟩
    rcases q with q|⟨k,c',e,z'⟩
    ·exact .inl q
    ·refine .inr ⟨k,c',e,z'.sameBut hs ?_⟩;rintro rfl;exact hj (qal hN e1 (I.ok.inj _ _ _ e hc ▸ hi))
  ·by_cases hcc:c'=c
   ·subst hcc;exact⟨_,hc'⟩
   ·obtain⟨w2,z2⟩:=I.cell y c' e;exact⟨w2,z2.sameBut hs hcc⟩
  ·obtain⟨e,n,ne,nf,d⟩:=I.pin p hp;refine⟨(hs.2 p.1 ?_).trans e,n,ne,nf,d⟩;intro q;rw[q,hoc] at e;have q':oc=p.2:=Option.some.inj e;exact d w' (by rw[<- q'];exact hocd)
theorem Zao{M:Model}{A:Around}{E:Value->Shared->Prop}{i:Nat}{x:Str}{v:V}{u:Value}{Q:Unit->Shared->Prop}(I:Inv X pins σ H s)(hN:X.N.Nodup)(hi:X.N[i]?=some x)(hx:Loc X.env.scope x)(r:RelV v u)
  (h:∀ s',Inv X pins (σ.set i (some v)) H s'->Q () s') (hf:X.fn x=true\/X.env.scope.names.lookup x=some .local:=by first|exact .inl rfl|exact .inr rfl|assumption):wpAny M A (storeName X.env x u) Q E s :=
 Zbl I hN hi hx r (λs' I' _=>h s' I') hf
theorem Inv.call'{s':Shared}{ch:List Addr}(I:Inv X pins σ H s)(ho:s'.os=s.os)(u:Un (frs X.stack) ch H H' s.heap s'.heap)(hok:HOk X.prog X.w H' s'.heap)(hg:AllBare s'.gens)
  (hch:∀ b∈ch,(b∈X.ex\/X.s₀.heap.objs.size<=b)/\b≠X.env.locals/\(∀ x c,X.env.cells.lookup x=some c->c≠b)/\∀ p∈X.pn++pins,p.1≠b):Inv X pins σ H' s':=by
 obtain⟨h',g',d',t',o'⟩:=s';have e:o'=s.os:=ho;subst e;exact I.call (g':=g') (t':=t') (d':=d') u hok hg hch
end
noncomputable abbrev XK:=Value->Option Addr->Hp->Prop
noncomputable abbrev St:=List (Option V)
noncomputable abbrev VK:=V->Hp->Prop
noncomputable abbrev TE:=St->Hp->VK->Prop
noncomputable abbrev TT:=St->Hp->(Bool->Hp->Prop)->Prop
noncomputable abbrev TA:=St->Hp->(List V->Hp->Prop)->Prop
structure Ends where
 nx:St->Hp->Prop
 rt:VK
 bk:St->Hp->Prop:=λ_ _=>False
 ct:St->Hp->Prop:=λ_ _=>False
noncomputable abbrev TS:=Ends->St->Hp->Prop
noncomputable def EP(X:Cx)(pins:List (Addr×Obj))(σ:St)(Q:VK)(u:Value)(s':Shared):Prop:=∃ v H',Inv X pins σ H' s'/\RelV v u/\Q v H'
noncomputable def TP(X:Cx)(pins:List (Addr×Obj))(σ:St)(Q:Bool->Hp->Prop)(b:Bool)(s':Shared):Prop:=∃ H',Inv X pins σ H' s'/\Q b H'
noncomputable def AP(X:Cx)(pins:List (Addr×Obj))(σ:St)(Q:List V->Hp->Prop)(us:List Value)(s':Shared):Prop:=∃ vs H',Inv X pins σ H' s'/\Vals vs us/\Q vs H'
noncomputable def SP(X:Cx)(pins:List (Addr×Obj))(D:Ends)(f:Flow)(s':Shared):Prop :=
 match f with
 |.next=>∃ σ' H',Inv X pins σ' H' s'/\D.nx σ' H'
 |.brk=>∃ σ' H',Inv X pins σ' H' s'/\D.bk σ' H'
 |.cont=>∃ σ' H',Inv X pins σ' H' s'/\D.ct σ' H'
 |.ret u=>∃ v σ' H',Inv X pins σ' H' s'/\RelV v u/\D.rt v H'
noncomputable def PE(X:Cx)(e:Expr)(t:TE):Prop :=
 ∀(pins:List (Addr×Obj)) (s:Shared) (σ:St) (H:Hp) (Q:VK),Inv X pins σ H s->t σ H Q->wpAny (model X.prog X.w) X.A (eval e X.env) (EP X pins σ Q) X.xe s
noncomputable def PT(X:Cx)(e:Expr)(t:TT):Prop :=
 ∀(pins:List (Addr×Obj)) (s:Shared) (σ:St) (H:Hp) (Q:Bool->Hp->Prop),Inv X pins σ H s->t σ H Q->wpAny (model X.prog X.w) X.A (isTrue e X.env (eval e X.env)) (TP X pins σ Q) X.xe s
noncomputable def PW(X:Cx)(e:Expr)(t:TT):Prop :=
 ∀(whole:Sem Value)(pins:List (Addr×Obj)) (s:Shared) (σ:St) (H:Hp) (Q:Bool->Hp->Prop),Inv X pins σ H s->t σ H Q->wpAny (model X.prog X.w) X.A (isTrue e X.env whole) (TP X pins σ Q) X.xe s
theorem PW.pt{X:Cx}{e:Expr}{t:TT}(h:PW X e t):PT X e t:=h _
noncomputable def PA(X:Cx)(es:List Expr)(t:TA):Prop :=
 ∀(pos:Pos)(pins:List (Addr×Obj)) (s:Shared) (σ:St) (H:Hp) (Q:List V->Hp->Prop),Inv X pins σ H s->t σ H Q->wpAny (model X.prog X.w) X.A (spliced (backTo pos (starEach es X.env))) (AP X pins σ Q) X.xe s
noncomputable def PS(X:Cx)(st:Stmt)(t:TS):Prop :=
 ∀(pins:List (Addr×Obj)) (s:Shared) (σ:St) (H:Hp) (D:Ends),Inv X pins σ H s->t D σ H->wpAny (model X.prog X.w) X.A (exec st X.env) (SP X pins D) X.xe s
noncomputable def PSs(X:Cx)(st:List Stmt)(t:TS):Prop :=
 ∀(pins:List (Addr×Obj)) (s:Shared) (σ:St) (H:Hp) (D:Ends),Inv X pins σ H s->t D σ H->wpAny (model X.prog X.w) X.A (execs st X.env) (SP X pins D) X.xe s
theorem thn{α:Type}{t:Sem α}{Q Q':α->Shared->Prop}{M:Model}{A:Around}{E:Value->Shared->Prop}{s:Shared}(h:wpAny M A t Q E s)(hQ:∀ a s,Q a s->Q' a s):wpAny M A t Q' E s:=wpAny_mono h hQ λ_ _ x=>x
section
variable {X:Cx}
theorem bin{a b:Expr}{ta tb:TE}(ha:PE X a ta)(hb:PE X b tb){pins:List (Addr×Obj)}{s:Shared}{σ:St}{H:Hp}{R:V->V->Hp->Prop}(I:Inv X pins σ H s)(h:ta σ H λx H1=>tb σ H1 λy H2=>R x y H2)
  {α:Type} {Q:α->Shared->Prop} {f:Value->Value->Sem α}
  (hf:∀ v u s2 x y H2,Inv X pins σ H2 s2->RelV x v->RelV y u->R x y H2->wpAny (model X.prog X.w) X.A (f v u) Q X.xe s2) :
  wpAny (model X.prog X.w) X.A (eval a X.env) (λv s₁=>wpAny (model X.prog X.w) X.A (eval b X.env) (λu s₂=>wpAny (model X.prog X.w) X.A (f v u) Q X.xe s₂) X.xe s₁) X.xe s:=by
 refine thn (ha pins s σ H _ I h) λv s1 ⟨x,H1,I1,r1,q1⟩=>?_;refine thn (hb pins s1 σ H1 _ I1 q1) λu s2 ⟨y,H2,I2,r2,q2⟩=>?_;exact hf v u s2 x y H2 I2 r1 r2 q2
noncomputable def tVar(i:Nat):TE:=λσ H Q=>∃ v,σ[i]?=some (some v)/\Q v H
noncomputable def tC(v:V):TE:=λ_ H Q=>Q v H
theorem Ya2{i:Nat}{x:Str}{pos:Pos}(hN:X.N[i]?=some x)(hv:Vis X.env.scope x)(hd:(x==("__debug__":Str))=false:=by decide)(hcd:(x==("__classdict__":Str))=false:=by decide):PE X (.Name x pos) (tVar i):=by
 intro pins s σ H Q I h;obtain⟨v,e,h⟩:=h;obtain⟨m,hn,hl⟩:=I.loc;obtain⟨u,r,l⟩:=hl i x v hN e hv;have fin:EP X pins σ Q u s:=⟨v,H,I,r,h⟩
 rcases l with ⟨hk,hm⟩|⟨hk,c,hc,hcell⟩
 ·exact wpAny_Name (wpAny_loadName_local I.ok.kind hk hn hm fin) hd
 ·rcases hk with hk|hk
  ·exact wpAny_Name (wpAny_loadName_cell I.ok.kind hk hc hcell fin) hd
  ·exact wpAny_Name (wpAny_loadName_free I.ok.kind hk hc hcell fin hcd) hd
theorem ZaF{i j pos}:PE X (.Constant (.int i) j pos) (tC (.int i)):=λ_ _ _ H _ I h=>wpAny_Constant_int ⟨.int i,H,I.tok _,⟨_,rfl⟩,h⟩
theorem pe_bl{b j pos}:PE X (.Constant (.bool b) j pos) (tC (.bl b)):=λ_ _ _ H _ I h=>Constant_bool ⟨.bl b,H,I,rfl,h⟩
theorem Zcl{j pos}:PE X (.Constant .none j pos) (tC .non):=λ_ _ _ H _ I h=>Constant_none ⟨.non,H,I,rfl,h⟩
theorem zy{x j pos}:PE X (.Constant (.str x) j pos) (tC (.str x)):=λ_ _ _ H _ I h=>Calls.Constant_str ⟨.str x,H,I.tok _,⟨_,rfl⟩,h⟩
noncomputable def Gl(X:Cx)(x:Str):Prop:=X.env.kindOf x=some .globalImplicit
theorem YK{E:Value->Shared->Prop}{pins:List (Addr×Obj)}{s:Shared}{σ:St}{H:Hp}{x:Str}{u:Value}{pos:Pos}{Q:Value->Shared->Prop}(I:Inv X pins σ H s)(hg:Gl X x)(hm:X.mg x=some u)(h:Q u s)
  (hd:(x==("__debug__":Str))=false:=by decide):wpAny (model X.prog X.w) X.A (eval (.Name x pos) X.env) Q E s :=
 Calls.Name_function_global I.ok.kind hg (Calls.loadGlobal_global (by rw[I.ok.glob];exact I.mod.glob.keeps I.bk) hm h) hd
theorem yX{E:Value->Shared->Prop}{pins:List (Addr×Obj)}{s:Shared}{σ:St}{H:Hp}{x:Str}{u:Value}{pos:Pos}{Q:Value->Shared->Prop}(I:Inv X pins σ H s)(hg:Gl X x)(hm:X.mg x=none)(hv:bootBuiltins x=some u)(h:Q u s)
  (hn:x≠"__name__":=by decide) (hd:(x==("__debug__":Str))=false:=by decide):wpAny (model X.prog X.w) X.A (eval (.Name x pos) X.env) Q E s:=by
 obtain⟨mb,h1,h2⟩:=I.mod.blt;exact Calls.Name_function_global I.ok.kind hg (Calls.loadGlobal_builtin (by rw[I.ok.glob];exact I.mod.glob.keeps I.bk) hm (by rw[I.ok.blt];exact h1.keeps I.bk) ((h2 x hn).trans hv) h) hd
theorem Yt{x:Str}{v:V}{u:Value}{pos:Pos}(hg:Gl X x)(hm:X.mg x=some u)(r:RelV v u)(hd:(x==("__debug__":Str))=false:=by decide):PE X (.Name x pos) (tC v) :=
 λ_ _ _ H _ I h=>YK I hg hm ⟨v,H,I,r,h⟩ hd
theorem zbe{x:Str}{v:V}{u:Value}{pos:Pos}(hg:Gl X x)(hm:X.mg x=none)(hv:bootBuiltins x=some u)(r:RelV v u)(hn:x≠"__name__":=by decide)(hd:(x==("__debug__":Str))=false:=by decide):PE X (.Name x pos) (tC v) :=
 λ_ _ _ H _ I h=>yX I hg hm hv ⟨v,H,I,r,h⟩ hn hd
variable {a b:Expr} {ta tb:TE} {pos:Pos}
noncomputable def PC(X:Cx)(op:CmpOp)(a b:Expr)(t:TE):Prop :=
 ∀(pins:List (Addr×Obj)) (s:Shared) (σ:St) (H:Hp) (Q:VK),Inv X pins σ H s->t σ H Q ->
  wpAny (model X.prog X.w) X.A (eval a X.env) (λv s₁=>wpAny (model X.prog X.w) X.A (eval b X.env) (λu s₂=>wpAny (model X.prog X.w) X.A (compareOp op v u) (EP X pins σ Q) X.xe s₂) X.xe s₁) X.xe s
theorem QaW(b:Expr){op:CmpOp}(h:op≠.In)(h2:op≠.NotIn):behindInMarks op b=false:=by
 have e1:(op==CmpOp.In)=false:=by cases op <;> first|rfl|exact absurd rfl h
 have e2:(op==CmpOp.NotIn)=false:=by cases op <;> first|rfl|exact absurd rfl h2
 cases b <;> simp[behindInMarks,e1,e2]
noncomputable def tIsN(ta:TE):TE:=λσ H Q=>ta σ H λx H1=>Q (.bl (decide (x=.non))) H1
noncomputable def tNotN(ta:TE):TE:=λσ H Q=>ta σ H λx H1=>Q (.bl (!decide (x=.non))) H1
theorem RelV.none_iff{x:V}{v:Value}(r:RelV x v):(v==Value.none)=decide (x=.non):=by
 cases x with
 |non=>cases r;rfl
 |bl _=>cases r;rfl
 |int _=>obtain⟨t,rfl⟩:=r;rfl
 |str _=>obtain⟨t,rfl⟩:=r;rfl
 |byt _=>obtain⟨t,rfl⟩:=r;rfl
 |flt _=>obtain⟨t,rfl⟩:=r;rfl
 |ref _=>cases r;rfl
 |ty _=>cases r;rfl
theorem ZbH{j pos'}(ha:PE X a ta):PC X .Is a (.Constant .none j pos') (tIsN ta):=by
 intro pins s σ H Q I h;refine thn (ha pins s σ H _ I h) λv s1 ⟨x,H1,I1,r1,q1⟩=>?_;exact Constant_none (is_none_gen ⟨.bl _,H1,I1,by rw[r1.none_iff];rfl,q1⟩)
theorem qbh{j pos'}(ha:PE X a ta):PC X .IsNot a (.Constant .none j pos') (tNotN ta):=by
 intro pins s σ H Q I h;refine thn (ha pins s σ H _ I h) λv s1 ⟨x,H1,I1,r1,q1⟩=>?_;exact Constant_none (isnot_none_gen ⟨.bl _,H1,I1,by rw[r1.none_iff];rfl,q1⟩)
noncomputable def tB(t:TE):TT:=λσ H Q=>t σ H λx H1=>∃ c,x=.bl c/\Q c H1
theorem zbH{op:CmpOp}{t:TE}(h:PC X op a b t)(h1:behindInMarks op b=false:=by first|exact QaW _ (by decide) (by decide)|rfl):PE X (.Compare a [op] [b] pos) t:=λpins s σ H Q I hw=>wpAny_Compare1 (h pins s σ H Q I hw) h1
theorem qbN{op:CmpOp}{t:TE}(h:PC X op a b t)(h1:behindInMarks op b=false:=by first|exact QaW _ (by decide) (by decide)|rfl):PT X (.Compare a [op] [b] pos) (tB t):=by
 intro pins s σ H Q I hw;refine wpAny_isTrue_Compare1 (thn (h pins s σ H _ I hw) λv s1 h1=>thn h1 λu s2 h2=>thn h2 λc s3 ⟨x,H1,I1,r1,q1⟩=>?_) h1;obtain⟨d,rfl,q⟩:=q1;cases r1;exact wpAny_truthy_bool ⟨H1,I1,q⟩
theorem Qa5{e:Expr}{t:TE}(h:PE X e t)(he:∀ whole,isTrue e X.env whole=(do let v<-whole;standAt e.pos;holding [v] (truthy v)):=by intro _;rfl):PT X e (tB t):=by
 intro pins s σ H Q I hw;refine isTrue_plain (thn (h pins s σ H _ I hw) λv s1 ⟨x,H1,I1,r1,q1⟩=>?_) (he _);obtain⟨d,rfl,q⟩:=q1;cases r1;exact wpAny_truthy_bool ⟨H1,I1,q⟩
variable {tA tB':TT} {rest:List Expr}
noncomputable def tAnd(t u:TT):TT:=λσ H Q=>t σ H λc H1=>if c=true then u σ H1 Q else Q false H1
noncomputable def tOr(t u:TT):TT:=λσ H Q=>t σ H λc H1=>if c=true then Q true H1 else u σ H1 Q
noncomputable def tNot(t:TT):TT:=λσ H Q=>t σ H λc H1=>Q (!c) H1
theorem QbT(ha:PT X a tA):PW X (.BoolOp .And [a] pos) tA:=by
 intro wh pins s σ H Q I h;refine isTrue_and (thn (ha pins s σ H Q I h) λc s1 e=>?_);cases c with
 |true=>exact isTrue_and_nil e
 |false=>exact e
theorem Yby(ha:PT X a tA):PW X (.BoolOp .Or [a] pos) tA:=by
 intro wh pins s σ H Q I h;refine isTrue_or (thn (ha pins s σ H Q I h) λc s1 e=>?_);cases c with
 |false=>exact isTrue_or_nil e
 |true=>exact e
theorem qcj(ha:PT X a tA)(hb:PW X (.BoolOp .And (b::rest) pos) tB'):PW X (.BoolOp .And (a::b::rest) pos) (tAnd tA tB'):=by
 intro wh pins s σ H Q I h;refine isTrue_and (thn (ha pins s σ H _ I h) λc s1 ⟨H1,I1,q1⟩=>?_);cases c with
 |true=>exact hb wh pins s1 σ H1 Q I1 q1
 |false=>exact⟨H1,I1,q1⟩
theorem qb8(ha:PT X a tA)(hb:PW X (.BoolOp .Or (b::rest) pos) tB'):PW X (.BoolOp .Or (a::b::rest) pos) (tOr tA tB'):=by
 intro wh pins s σ H Q I h;refine isTrue_or (thn (ha pins s σ H _ I h) λc s1 ⟨H1,I1,q1⟩=>?_);cases c with
 |true=>exact⟨H1,I1,q1⟩
 |false=>exact hb wh pins s1 σ H1 Q I1 q1
theorem ZbA(ha:PT X a tA):PT X (.UnaryOp .Not a pos) (tNot tA):=by
 intro pins s σ H Q I h;exact isTrue_not (ha pins s σ H (λc H1=>Q (!c) H1) I h)
noncomputable def tAndV(ta tb:TE):TE:=λσ H Q=>ta σ H λx H1=>∃ c,x=.bl c/\if c=true then tb σ H1 Q else Q (.bl false) H1
noncomputable def tOrV(ta tb:TE):TE:=λσ H Q=>ta σ H λx H1=>∃ c,x=.bl c/\if c=true then Q (.bl true) H1 else tb σ H1 Q
noncomputable def tNotV(ta:TE):TE:=λσ H Q=>ta σ H λx H1=>∃ c,x=.bl c/\Q (.bl (!c)) H1
theorem QbI{op}{t:TE}(h:PE X a t):PE X (.BoolOp op [a] pos) t:=λpins s σ H Q I hw=>BoolOp_one (h pins s σ H Q I hw)
theorem qcg(ha:PE X a ta)(hb:PE X (.BoolOp .And (b::rest) pos) tb):PE X (.BoolOp .And (a::b::rest) pos) (tAndV ta tb):=by
 intro pins s σ H Q I h;refine BoolOp_and (thn (ha pins s σ H _ I h) λv s1 ⟨x,H1,I1,r1,q1⟩=>?_);obtain⟨c,rfl,q1⟩:=q1;cases r1;refine wpAny_truthy_bool ?_;cases c with
 |true=>exact hb pins s1 σ H1 Q I1 q1
 |false=>exact⟨.bl false,H1,I1,rfl,q1⟩
theorem pe_or(ha:PE X a ta)(hb:PE X (.BoolOp .Or (b::rest) pos) tb):PE X (.BoolOp .Or (a::b::rest) pos) (tOrV ta tb):=by
 intro pins s σ H Q I h;refine BoolOp_or (thn (ha pins s σ H _ I h) λv s1 ⟨x,H1,I1,r1,q1⟩=>?_);obtain⟨c,rfl,q1⟩:=q1;cases r1;refine wpAny_truthy_bool ?_;cases c with
 |false=>exact hb pins s1 σ H1 Q I1 q1
 |true=>exact⟨.bl true,H1,I1,rfl,q1⟩
theorem Yca(ha:PE X a ta):PE X (.UnaryOp .Not a pos) (tNotV ta):=by
 intro pins s σ H Q I h;refine UnaryOp_ (thn (ha pins s σ H _ I h) λv s1 ⟨x,H1,I1,r1,q1⟩=>?_);obtain⟨c,rfl,q1⟩:=q1;cases r1;exact not_of (wpAny_truthy_bool ⟨.bl (!c),H1,I1,rfl,q1⟩)
noncomputable def tIf(t:TT)(ta tb:TE):TE:=λσ H Q=>t σ H λc H1=>if c=true then ta σ H1 Q else tb σ H1 Q
theorem QbO{c:Expr}(hc:PT X c tA)(ha:PE X a ta)(hb:PE X b tb):PE X (.IfExp c a b pos) (tIf tA ta tb):=by
 intro pins s σ H Q I h;refine wpAny_IfExp (thn (hc pins s σ H _ I h) λd s1 ⟨H1,I1,q1⟩=>?_);cases d with
 |true=>exact ha pins s1 σ H1 Q I1 q1
 |false=>exact hb pins s1 σ H1 Q I1 q1
end
noncomputable def SqL(K:PySem.W.Frag)(H:Hp)(a:Addr)(xs:List V):Prop :=
 Rd H a (.lst xs) \/
  ∃(o:Obj)(its:Array Value)(n:Nat),K.lookup a=some o/\o.cls=.type "list"/\o.dict=none/\o.data=.seq its n/\its.size<=sizeLine/\Vals xs its.toList
noncomputable def SqT(K:PySem.W.Frag)(H:Hp)(a:Addr)(xs:List V):Prop :=
 Rd H a (.tup xs) \/
  ∃(o:Obj)(its:Array Value)(n:Nat),K.lookup a=some o/\o.cls=.type "tuple"/\o.data=.seq its n/\its.size<=sizeLine/\Vals xs its.toList
noncomputable def absV:Value->Option V
 |.none=>some .non
 |.bool b=>some (.bl b)
 |.int i _=>some (.int i)
 |.str x _=>some (.str x)
 |.bytes b _=>some (.byt b)
 |.float b _=>some (.flt b)
 |.ref a=>some (.ref a)
 |.type n=>some (.ty n)
 |_=>none
theorem RelV.abs{x:V}{u:Value}(r:RelV x u):absV u=some x:=by
 cases x with
 |non=>cases r;rfl
 |bl _=>cases r;rfl
 |int _=>obtain⟨t,rfl⟩:=r;rfl
 |str _=>obtain⟨t,rfl⟩:=r;rfl
 |byt _=>obtain⟨t,rfl⟩:=r;rfl
 |flt _=>obtain⟨t,rfl⟩:=r;rfl
 |ref _=>cases r;rfl
 |ty _=>cases r;rfl
theorem RelV.inj{x y:V}{u:Value}(r:RelV x u)(q:RelV y u):x=y:=Option.some.inj (r.abs.symm.trans q.abs)
theorem Vals.inj:∀{xs ys:List V}{us:List Value},Vals xs us->Vals ys us->xs=ys
 |_,_,_,.nil,.nil=>rfl
 |_,_,_,.cons r t,.cons r' t'=>by rw[r.inj r',Vals.inj t t']
section
variable {X:Cx} {pins:List (Addr×Obj)} {σ:St} {H:Hp} {s:Shared} {a:Addr} {xs ys:List V}
theorem SqL.of{K:PySem.W.Frag}(h:H a=some (.lst xs)):SqL K H a xs:=.inl (.inl h)
theorem SqT.of{K:PySem.W.Frag}(h:H a=some (.tup xs)):SqT K H a xs:=.inl (.inl h)
theorem Inv.list(I:Inv X pins σ H s)(h:SqL X.K H a xs):∃ its:List Value,Vals xs its/\PlainL s.heap a its.toArray/\xs.length<=sizeLine:=by
 rcases h with h|⟨o,its,n,hk,hc,hd,hs,hz,r⟩
 ·obtain⟨z,its,n,r,e⟩:=h.ok I.hok;exact⟨its,r,⟨_,n,e,rfl,rfl,rfl⟩,z⟩
 ·refine⟨its.toList,r,⟨o,n,I.kIn a o hk,hc,hd,by simpa using hs⟩,?_⟩;have e:=r.length;simp only[wl] at e
  lia
theorem Inv.tuple(I:Inv X pins σ H s)(h:SqT X.K H a xs):∃ its:List Value,Vals xs its/\IsTup s.heap a its.toArray/\xs.length<=sizeLine:=by
 rcases h with h|⟨o,its,n,hk,hc,hs,hz,r⟩
 ·obtain⟨z,its,r,p⟩:=h.ok I.hok;exact⟨its,r,p,z⟩
 ·refine⟨its.toList,r,⟨o,I.kIn a o hk,hc,n,by simpa using hs⟩,?_⟩;have e:=r.length;simp only[wl] at e
  lia
theorem Inv.list_inj(I:Inv X pins σ H s)(h:SqL X.K H a xs)(h':SqL X.K H a ys):xs=ys:=by
 obtain⟨its,r,⟨o,n,e,_,_,d⟩,_⟩:=I.list h;obtain⟨its',r',⟨o',n',e',_,_,d'⟩,_⟩:=I.list h';rw[e] at e';cases e';rw[d] at d';injection d' with d1 _
 have:its=its':=by simpa using congrArg XB d1
 subst this;exact r.inj r'
theorem Inv.tuple_inj(I:Inv X pins σ H s)(h:SqT X.K H a xs)(h':SqT X.K H a ys):xs=ys:=by
 obtain⟨its,r,⟨o,e,_,n,d⟩,_⟩:=I.tuple h;obtain⟨its',r',⟨o',e',_,n',d'⟩,_⟩:=I.tuple h';rw[e] at e';cases e';rw[d] at d';injection d' with d1 _
 have:its=its':=by simpa using congrArg XB d1
 subst this;exact r.inj r'
end
section
variable {X:Cx} {st:Stmt} {rest:List Stmt} {t u:TS} {e:Expr} {te:TE} {pos:Pos}
noncomputable def yb7:TS:=λD σ H=>D.nx σ H
noncomputable def tSeq(t u:TS):TS:=λD σ H=>t {D with nx:=u D} σ H
theorem QaF:PSs X [] yb7:=λ_ _ σ H _ I h=>wpAny_execs_nil ⟨σ,H,I,h⟩
theorem zD(h1:PS X st t)(h2:PSs X rest u):PSs X (st::rest) (tSeq t u):=by
 intro pins s σ H D I h;refine wpAny_execs_cons (thn (h1 pins s σ H {D with nx:=u D} I h) λf s1 q=>?_);cases f with
 |next =>
  obtain⟨σ',H',I',q⟩:=q;exact h2 pins s1 σ' H' D I' q
 |ret v=>exact q
 |brk=>exact q
 |cont=>exact q
theorem qah(h1:PS X st t):PSs X [st] t:=by
 intro pins s σ H D I h;refine wpAny_execs_cons (thn (h1 pins s σ H D I h) λf s1 q=>?_);cases f with
 |next=>exact wpAny_execs_nil q
 |ret v=>exact q
 |brk=>exact q
 |cont=>exact q
theorem qbT:PS X (.Pass pos) yb7:=λ_ _ σ H _ I h=>wpAny_Pass ⟨σ,H,I,h⟩
theorem Inv.quiet{pins:List (Addr×Obj)}{σ:St}{H:Hp}{s:Shared}(I:Inv X pins σ H s):interactive X.env=false:=by simp[interactive,I.ok.kind]
noncomputable def tDrop(te:TE):TS:=λD σ H=>te σ H λ_ H1=>D.nx σ H1
theorem YbS(he:PE X e te)(hs:swapsWith e none pos.line X.env=pure false:=by rfl):PS X (.Expr e pos) (tDrop te):=by
 intro pins s σ H D I h;exact wpAny_Expr_any (thn (he pins s σ H _ I h) λv s1 ⟨x,H1,I1,r1,q1⟩=>⟨σ,H1,I1,q1⟩) I.quiet hs
noncomputable def tRet(te:TE):TS:=λD σ H=>te σ H D.rt
theorem ya8(he:PE X e te):PS X (.Return (some e) pos) (tRet te):=by
 intro pins s σ H D I h;exact wpAny_Return_some (thn (he pins s σ H _ I h) λv s1 ⟨x,H1,I1,r1,q1⟩=>⟨x,σ,H1,I1,r1,q1⟩)
noncomputable def tIfS(c:TT)(t u:TS):TS:=λD σ H=>c σ H λb H1=>if b=true then t D σ H1 else u D σ H1
theorem qb7{c:Expr}{a b:List Stmt}{tc:TT}(hc:PT X c tc)(ha:PSs X a t)(hb:PSs X b u):PS X (.If c a b pos) (tIfS tc t u):=by
 intro pins s σ H D I h;refine wpAny_If (thn (hc pins s σ H _ I h) λd s1 ⟨H1,I1,q1⟩=>?_);cases d with
 |true=>exact ha pins s1 σ H1 D I1 q1
 |false=>exact hb pins s1 σ H1 D I1 q1
end
noncomputable abbrev TG:=V->St->Hp->(St->Hp->Prop)->Prop
noncomputable abbrev TGs:=List V->St->Hp->(St->Hp->Prop)->Prop
noncomputable def PG(X:Cx)(target:Expr)(t:TG):Prop :=
 ∀(pins:List (Addr×Obj)) (s:Shared) (σ:St) (H:Hp) (v:V) (u:Value) (Q:St->Hp->Prop),Inv X pins σ H s->RelV v u->t v σ H Q ->
  wpAny (model X.prog X.w) X.A (assign target X.env u) (λ_ s'=>∃ σ' H',Inv X pins σ' H' s'/\Q σ' H') X.xe s
noncomputable def PGs(X:Cx)(ts:List Expr)(t:TGs):Prop :=
 ∀(pins:List (Addr×Obj)) (s:Shared) (σ:St) (H:Hp) (vs:List V) (us:List Value) (Q:St->Hp->Prop),Inv X pins σ H s->Vals vs us->t vs σ H Q ->
  wpAny (model X.prog X.w) X.A (assignInOrder ((assignEach ts X.env).map (·.2)) us) (λ_ s'=>∃ σ' H',Inv X pins σ' H' s'/\Q σ' H') X.xe s
noncomputable abbrev TSet:=V->V->V->Hp->(Hp->Prop)->Prop
noncomputable def PSet(X:Cx)(t:TSet):Prop :=
 ∀(pins:List (Addr×Obj)) (s:Shared) (σ:St) (H:Hp) (o i v:V) (ov iv u:Value) (Q:Hp->Prop),Inv X pins σ H s->RelV o ov->RelV i iv->RelV v u->t o i v H Q ->
  wpAny (model X.prog X.w) X.A (setItem ov iv u) (λ_ s'=>∃ H',Inv X pins σ H' s'/\Q H') X.xe s
section
variable {X:Cx} {pos:Pos}
noncomputable def yal(i:Nat):TG:=λv σ H Q=>Q (σ.set i (some v)) H
theorem Zah{i:Nat}{x:Str}(hN:X.N.Nodup)(hi:X.N[i]?=some x)(hx:Loc X.env.scope x)(hf:X.fn x=true\/X.env.scope.names.lookup x=some .local:=by first|exact .inl rfl|exact .inr rfl|assumption):PG X (.Name x pos) (yal i):=by
 intro pins s σ H v u Q I r h;exact wpAny_assign_Name (Zao I hN hi hx r (λs' I'=>⟨_,H,I',h⟩) hf)
noncomputable def gNil:TGs:=λvs σ H Q=>vs=[]/\Q σ H
noncomputable def gCons(t:TG)(u:TGs):TGs:=λvs σ H Q=>∃ v r,vs=v::r/\t v σ H λσ' H'=>u r σ' H' Q
theorem zb3:PGs X [] gNil:=by
 intro pins s σ H vs us Q I r h;obtain⟨e,h⟩:=h;subst e;cases r;exact assignInOrder_nil ⟨σ,H,I,h⟩
theorem QbG{e:Expr}{es:List Expr}{t:TG}{u:TGs}(h1:PG X e t)(h2:PGs X es u)
  (hs:(assignEach (e::es) X.env).map (·.2)=assign e X.env::(assignEach es X.env).map (·.2):=by rfl):PGs X (e::es) (gCons t u):=by
 intro pins s σ H vs us Q I r h;obtain⟨v,vr,e1,h⟩:=h;subst e1;cases r with
 |cons r rr =>
  rw[hs];refine assignInOrder_cons (thn (h1 pins s σ H _ _ _ I r h) λ_ s1 ⟨σ1,H1,I1,q1⟩=>?_);exact h2 pins s1 σ1 H1 _ _ Q I1 rr q1
noncomputable def gTup(K:PySem.W.Frag)(n:Nat)(t:TGs):TG:=λv σ H Q=>∃ a xs,v=.ref a/\SqT K H a xs/\xs.length=n/\t xs σ H Q
theorem Zcp{es:List Expr}{k:Nat}{t:TGs}{n:Nat}(hc:X.calm=true)(h:PGs X es t)
  (hn:(assignEach es X.env).length=n:=by rfl) (hst:(assignEach es X.env).findIdx? (·.1)=none:=by rfl):PG X (.Tuple es k pos) (gTup X.K n t):=by
 intro pins s σ H v u Q I r hw;obtain⟨a,xs,e1,hq,hl,hw⟩:=hw;subst e1;cases r;obtain⟨its,rv,ht,hz⟩:=I.tuple hq;refine assign_Tuple_tuple (I.ok.hd hc) ht (by simp[hn,<- hl,rv.length]) hst λh' hx=>?_;have I1:Inv X pins σ H {s with heap:=h'}:=I.kept (t':=s.toks) λb o e=>hx b o (vc (wb e)) e;exact h pins _ σ H xs _ Q I1 (by simpa using rv) hw
noncomputable def gSub(to ti:TE)(t:TSet):TG:=λv σ H Q=>to σ H λo H1=>ti σ H1 λi H2=>t o i v H2 λH3=>Q σ H3
theorem Qco{o i:Expr}{to ti:TE}{t:TSet}(ho:PE X o to)(hi:PE X i ti)(hs:PSet X t)
  (ha:∀ v,assign (.Subscript o i pos) X.env v=(do
   let ov<-holding [v] (eval o X.env)
   let iv<-holding [v,ov] (eval i X.env)
   standAt pos
   holding [v,ov,iv] (setItem ov iv v)
   release [v,ov,iv] []):=by intro _;rfl):PG X (.Subscript o i pos) (gSub to ti t):=by
 intro pins s σ H v u Q I r h;rw[ha];refine wpAny_bind (wpAny_holding (thn (ho pins s σ H _ I h) λov s1 ⟨x,H1,I1,r1,q1⟩=>?_));refine wpAny_bind (wpAny_holding (thn (hi pins s1 σ H1 _ I1 q1) λiv s2 ⟨y,H2,I2,r2,q2⟩=>?_));refine wpAny_bind (wpAny_standAt (wpAny_bind (wpAny_holding (thn (hs pins s2 σ H2 x y v ov iv u _ I2 r1 r2 r q2) λ_ s3 ⟨H3,I3,q3⟩=>?_))));exact wpAny_release ⟨σ,H3,I3,q3⟩
noncomputable def ZbC(te:TE)(g:TG):TS:=λD σ H=>te σ H λx H1=>g x σ H1 D.nx
theorem zbE{tg e:Expr}{te:TE}{g:TG}(he:PE X e te)(hg:PG X tg g)(hs:swapsWithSole [tg] e pos.line X.env=pure false:=by rfl)(hw:swappedStores [tg] e X.env=pure none:=by rfl)
  (h1:(assignEach [tg] X.env).map (·.2)=[assign tg X.env]:=by rfl):PS X (.Assign [tg] e pos) (ZbC te g):=by
 intro pins s σ H D I h;refine wpAny_Assign_stores (thn (he pins s σ H _ I h) λv s1 ⟨x,H1,I1,r1,q1⟩=>?_) hs hw;rw[h1];exact thn (hg pins s1 σ H1 x v _ I1 r1 q1) λ_ s2 q=>q
theorem Zar{i:Nat}{x:Str}{e:Expr}{te:TE}{pos':Pos}(hN:X.N.Nodup)(hi:X.N[i]?=some x)(hx:Loc X.env.scope x)(he:PE X e te)(hs:swapsWith e (some (.Name x pos')) pos.line X.env=pure false:=by rfl)(hf:X.fn x=true\/X.env.scope.names.lookup x=some .local:=by first|exact .inl rfl|exact .inr rfl|assumption) :
  PS X (.Assign [.Name x pos'] e pos) (ZbC te (yal i)):=by
 intro pins s σ H D I h;refine wpAny_Assign_Name (thn (he pins s σ H _ I h) λv s1 ⟨y,H1,I1,r1,q1⟩=>?_) hs;exact Zao I1 hN hi hx r1 (λs2 I2=>⟨_,H1,I2,q1⟩) hf
end
structure It where
 go:Nat->Hp->Prop
 yld:Nat->Hp->V->Hp->Prop
 stop:Nat->Hp->Prop
noncomputable def YM(X:Cx)(pins:List (Addr×Obj))(H:Hp)(b:Addr):Prop :=
 H b=none/\b≠X.env.locals/\b∉X.fs/\(b∈X.ex\/X.s₀.heap.objs.size<=b)/\(∀ x c,X.env.cells.lookup x=some c->c≠b)/\∀ p∈X.pn++pins,p.1≠b
theorem Inv.fpOk{X:Cx}{pins:List (Addr×Obj)}{σ:St}{H H':Hp}{s:Shared}{b:Addr}(I:Inv X pins σ H s)(hb:s.heap.objs.size<=b)(hn:H' b=none):YM X pins H' b:=by
 refine⟨hn,Ul (Xc I.lt hb),I.nofs hb,.inr (xf I.sz hb),λx c e z=>?_,λp hp z=>?_⟩
 ·obtain⟨v,q⟩:=I.cell x c e;exact absurd (Xc q.lt (by rw[z];exact hb)) (xj _)
 ·exact absurd (Xc (wb (I.pin p hp).1) (by rw[z];exact hb)) (xj _)
structure Turn (P:Program) (w:World) (K:PySem.W.Frag) (tg:Expr) (J:It) (fp:List Addr) (it:Addr) (tn:Nat->Heap->Prop):Prop where
 mem:it∈fp
 obj:∀ i h,tn i h->∀ b∈fp,∃ o,h.get? b=some o/\∀ v,o.data≠.cell v
 keep:∀ i h h',tn i h->(∀ b∈fp,∀ o,h.get? b=some o->h'.get? b=some o)->tn i h'
 item:∀(X:Cx),X.prog=P->X.w=w->X.K=K->X.calm=true->∀(i:Nat)(pins:List (Addr×Obj)) (s:Shared) (σ:St) (H:Hp) (E:Value->Shared->Prop),Inv X pins σ H s->(∀ b∈fp,YM X pins H b)->tn i s.heap->J.go i H ->
  wpAny (model P w) X.A (pyNext (.ref it)) (λr s1=>∃ u,r=some u /\
   wpAny (model P w) X.A (letOwnedTupleGo tg (.ref it) u) (λ_ s2=>∃ x H',Inv X pins σ H' s2/\RelV x u/\J.yld i H x H'/\tn (i+1) s2.heap/\∀ b∈fp,H' b=none) E s1) E s
 done:∀(X:Cx),X.prog=P->X.w=w->X.K=K->X.calm=true->∀(i:Nat)(pins:List (Addr×Obj)) (s:Shared) (σ:St) (H:Hp) (E:Value->Shared->Prop),Inv X pins σ H s->(∀ b∈fp,YM X pins H b)->tn i s.heap->J.stop i H ->
  wpAny (model P w) X.A (pyNext (.ref it)) (λr s1=>r=none/\Inv X pins σ H s1) E s
 self:∀(A:Around)(i:Nat)(s:Shared)(Q:Value->Shared->Prop)(E:Value->Shared->Prop),tn i s.heap->Q (.ref it) s->wpAny (model P w) A (pyIter (.ref it)) Q E s
noncomputable abbrev TI:=St->Hp->(It->Hp->Prop)->Prop
noncomputable def PIE(X:Cx)(pins:List (Addr×Obj))(σ:St)(tg:Expr)(R:It->Hp->Prop)(itv:Value)(s2:Shared):Prop :=
 ∃(it:Addr)(fp:List Addr)(tn:Nat->Heap->Prop)(J:It)(H':Hp),itv=.ref it/\Inv X pins σ H' s2/\Turn X.prog X.w X.K tg J fp it tn/\tn 0 s2.heap/\(∀ b∈fp,YM X pins H' b)/\R J H'
noncomputable def PI(X:Cx)(tg iter:Expr)(wi:TI):Prop :=
 ∀(pins:List (Addr×Obj)) (s:Shared) (σ:St) (H:Hp) (R:It->Hp->Prop),Inv X pins σ H s->wi σ H R ->
  wpAny (model X.prog X.w) X.A (eval iter X.env) (λv s1=>wpAny (model X.prog X.w) X.A (pyIter v) (PIE X pins σ tg R) X.xe s1) X.xe s
theorem Qbc {M:Model} {A:Around} {E:Value→Shared→Prop} {s:Shared} {tg:Expr} {it:Addr} {u:Value} {o:Obj} {n:String} {vs:Array Value} {Q:Unit→Shared→Prop} (ho:s.heap.get? it=some o) (hc:o.cls=.type n) (hd:o.data=.fields vs)
    (hn:["enumerate","zip","dict_itemiterator","dict_reverseitemiterator","odict_iterator","itertools.zip_longest","itertools.pairwise"].contains n=false) (hQ:Q () s):wpAny M A (letOwnedTupleGo tg (.ref it) u) Q E s:=by
  unfold letOwnedTupleGo
  cases tg <;> first
    | exact wpAny_pure hQ
    | (cases u <;> first
        | exact wpAny_pure hQ
        | (refine wpAny_bind (wpAny_load ho ?_)
           rw [hc,hd]
           show wpAny M A (if (["enumerate","zip","dict_itemiterator","dict_reverseitemiterator","odict_iterator","itertools.zip_longest","itertools.pairwise"].contains n&&vs[0]? == some (rawInt _))=true then _ else _) Q E s
           rw [if_neg (by intro h; rw [hn,Bool.false_and] at h; cases h)]
           exact wpAny_pure hQ))
noncomputable def Itl(K:PySem.W.Frag)(a:Addr):It :=
 ⟨λi H=>∃ xs x,SqL K H a xs/\xs[i]?=some x,λi H x H'=>H'=H/\∀ xs,SqL K H a xs->xs[i]?=some x,λi H=>∃ xs,SqL K H a xs/\xs.length<=i⟩
noncomputable def Itt(K:PySem.W.Frag)(a:Addr):It :=
 ⟨λi H=>∃ xs x,SqT K H a xs/\xs[i]?=some x,λi H x H'=>H'=H/\∀ xs,SqT K H a xs->xs[i]?=some x,λi H=>∃ xs,SqT K H a xs/\xs.length<=i⟩
noncomputable def Itr(lo:Int)(n:Nat):It:=⟨λi _=>i<n,λi H x H'=>H'=H/\x=.int (lo+i),λi _=>n<=i⟩
theorem ybq{P:Program}{w:World}{K:PySem.W.Frag}{tg:Expr}(a it:Addr):Turn P w K tg (Itl K a) [it] it (λi h=>h.IsListIter it a i) where
 mem:=by simp
 obj:=λi h st b hb=>by
  have e:b=it:=by simpa using hb
  subst e;obtain⟨o,e,c,d⟩:=st;exact⟨o,e,λv z=>by rw[d] at z;cases z⟩
 keep:=λi h h' st k=>st.at λo e=>k it (by simp) o e
 item:=by
  intro X hP hw hK hc i pins s σ H E I hf st hg;subst hP hw hK;obtain⟨xs,x,hq,hx⟩:=hg;obtain⟨its,rv,p,hz⟩:=I.list hq;obtain⟨u,hu,ru⟩:=rv.get hx;obtain⟨f0,f1,f2,f3,f4,f5⟩:=hf it (by simp);refine wpAny_pyNext_list_item st p.isList (x:=u) (by simpa using hu) λh' st' sb=>?_;have I1:Inv X pins σ H {s with heap:=h'}:=I.turned (t':=s.toks) (λb o hb e=>(sb.2 b hb).trans e) f0 f1 f3 f4 f5;obtain⟨o,e,c,d⟩:=id st';exact⟨u,rfl,Qbc (s:={s with heap:=h'}) e c d (by decide) ⟨x,H,I1,ru,⟨rfl,λys hy=>by rw[I.list_inj hy hq];exact hx⟩,st',λb hb=>(hf b hb).1⟩⟩
 done:=by
  intro X hP hw hK hc i pins s σ H E I hf st hg;subst hP hw hK;obtain⟨xs,hq,hx⟩:=hg;obtain⟨its,rv,p,hz⟩:=I.list hq;obtain⟨f0,f1,f2,f3,f4,f5⟩:=hf it (by simp);have hl:=rv.length;exact wpAny_pyNext_list_end (I.ok.hd hc) st p.isList (by simp;lia) λh' eb=>⟨rfl,I.turned (t':=s.toks) (λb o hb e=>eb b o hb e) f0 f1 f3 f4 f5⟩
 self:=λ_ _ _ _ _ st h=>wpAny_pyIter_listiter st h
theorem qaZ{P:Program}{w:World}{K:PySem.W.Frag}{tg:Expr}(a it:Addr):Turn P w K tg (Itt K a) [it] it (λi h=>h.IsTupleIter it a i) where
 mem:=by simp
 obj:=λi h st b hb=>by
  have e:b=it:=by simpa using hb
  subst e;obtain⟨o,e,c,d⟩:=st;exact⟨o,e,λv z=>by rw[d] at z;cases z⟩
 keep:=λi h h' st k=>st.at λo e=>k it (by simp) o e
 item:=by
  intro X hP hw hK hc i pins s σ H E I hf st hg;subst hP hw hK;obtain⟨xs,x,hq,hx⟩:=hg;obtain⟨its,rv,p,hz⟩:=I.tuple hq;obtain⟨u,hu,ru⟩:=rv.get hx;obtain⟨f0,f1,f2,f3,f4,f5⟩:=hf it (by simp);refine wpAny_pyNext_tuple_item st (show s.heap.IsTuple a its.toArray from p) (x:=u) (by simpa using hu) λh' st' sb=>?_;have I1:Inv X pins σ H {s with heap:=h'}:=I.turned (t':=s.toks) (λb o hb e=>(sb.2 b hb).trans e) f0 f1 f3 f4 f5;obtain⟨o,e,c,d⟩:=id st';exact⟨u,rfl,Qbc (s:={s with heap:=h'}) e c d (by decide) ⟨x,H,I1,ru,⟨rfl,λys hy=>by rw[I.tuple_inj hy hq];exact hx⟩,st',λb hb=>(hf b hb).1⟩⟩
 done:=by
  intro X hP hw hK hc i pins s σ H E I hf st hg;subst hP hw hK;obtain⟨xs,hq,hx⟩:=hg;obtain⟨its,rv,p,hz⟩:=I.tuple hq;obtain⟨f0,f1,f2,f3,f4,f5⟩:=hf it (by simp);have hl:=rv.length;exact wpAny_pyNext_tuple_end (I.ok.hd hc) st (show s.heap.IsTuple a its.toArray from p) (by simp;lia) λh' eb=>⟨rfl,I.turned (t':=s.toks) (λb o hb e=>eb b o hb e) f0 f1 f3 f4 f5⟩
 self:=λ_ _ _ _ _ st h=>wpAny_pyIter_tupleiter st h
theorem QaY{P:Program}{w:World}{K:PySem.W.Frag}{tg:Expr}(it:Addr)(lo:Int)(n:Nat):Turn P w K tg (Itr lo n) [it] it (λi h=>IsRangeIter h it (lo+(i:Nat)*1) ((n:Int)-(i:Nat)) 1) where
 mem:=by simp
 obj:=λi h st b hb=>by
  have e:b=it:=by simpa using hb
  subst e;exact⟨_,st,λv z=>by
   have z':Data.fields _=Data.cell v:=z;cases z'⟩
 keep:=λi h h' st k=>k it (by simp) _ st
 item:=by
  intro X hP hw hK hc i pins s σ H E I hf st hg;subst hP hw hK;obtain⟨f0,f1,f2,f3,f4,f5⟩:=hf it (by simp);have W:=Walks.range (prog:=X.prog) (w:=X.w) (I.ok.hd hc) it lo 1 n;refine W.item i s _ _ hg st λv h' tk hv st' kk=>?_;obtain⟨t,rfl⟩:=hv;have I1:Inv X pins σ H {s with heap:=h',toks:=tk}:=I.turned (λb o hb e=>kk b o (by simpa using hb) e) f0 f1 f3 f4 f5;refine⟨_,rfl,Qbc (s:={s with heap:=h',toks:=tk}) (n:="range_iterator") st' rfl rfl (by decide) ⟨.int (lo+i),H,I1,⟨t,?_⟩,⟨rfl,rfl⟩,st',λb hb=>(hf b hb).1⟩⟩;rw[Int.mul_one]
 done:=by
  intro X hP hw hK hc i pins s σ H E I hf st hg;subst hP hw hK;obtain⟨f0,f1,f2,f3,f4,f5⟩:=hf it (by simp);exact wpAny_pyNext_range_end (I.ok.hd hc) st (by have:n<=i:=hg;lia) λh' eb=>⟨rfl,I.turned (t':=s.toks) (λb o hb e=>eb b o hb e) f0 f1 f3 f4 f5⟩
 self:=λ_ _ _ _ _ st h=>wpAny_pyIter_rangeiter st h
section
variable {X:Cx} {tg:Expr}
theorem qbH{pins:List (Addr×Obj)}{σ:St}{H:Hp}{s:Shared}{R:It->Hp->Prop}{E:Value->Shared->Prop}{lo hi:Int}{t u v:Tok}{tk:Nat}(I:Inv X pins σ H s)(h1:-(2^62)<=lo)(h2:lo<2^62)(h3:-(2^62)<=hi)(h4:hi<2^62)
  (q:R (Itr lo (hi-lo).toNat) H):wpAny (model X.prog X.w) X.A (pyIter (.ref s.heap.objs.size)) (PIE X pins σ tg R) E {s with heap:=s.heap.push {cls:=.type "range",data:=.fields #[.int lo t,.int hi u,.int 1 v]},toks:=tk}:=by
 refine wpAny_pyIter_range (IsRange.new ..) (small_one h1 h2 h3 h4) ?_;have I1:Inv X pins σ H {s with heap:=s.heap.push {cls:=.type "range",data:=.fields #[.int lo t,.int hi u,.int 1 v]},toks:=tk}:=I.kept λb o e=>wa _ e;refine⟨(s.heap.push {cls:=.type "range",data:=.fields #[.int lo t,.int hi u,.int 1 v]}).objs.size,[(s.heap.push {cls:=.type "range",data:=.fields #[.int lo t,.int hi u,.int 1 v]}).objs.size],_,_,H,rfl,
  I1.kept (t':=tk) λb o e=>wa _ e,QaY _ lo (hi-lo).toNat,?_,λb hb=>?_,q⟩
 ·have e1:lo+((0:Nat):Int)*1=lo:=by simp
  have e2:(((hi-lo).toNat:Nat):Int)-((0:Nat):Int)=Builtin.Range.rangeSize lo hi 1:=by rw[rangeSize_one];split <;> lia
  show IsRangeIter _ _ (lo+((0:Nat):Int)*1) ((((hi-lo).toNat:Nat):Int)-((0:Nat):Int)) 1;rw[e1,e2];exact ub _ rfl
 ·have e:b=(s.heap.push {cls:=.type "range",data:=.fields #[.int lo t,.int hi u,.int 1 v]}).objs.size:=by simpa using hb
  subst e;exact I1.fpOk (vb _) (I1.hok.fresh (vb _))
noncomputable def Zb8(ta:TA):TI:=λσ H R=>ta σ H λvs H1=>∃ j:Int,vs=[.int j]/\-(2^62)<=j/\j<2^62/\R (Itr 0 j.toNat) H1
theorem zbm{a:Expr}{ta:TA}{p pos:Pos}(hg:Gl X "range")(hm:X.mg "range"=none)(ha:PA X [a] ta)(hs:starEach [a] X.env=[(false,eval a X.env)]:=by rfl):PI X tg (.Call (.Name "range" p) [a] [] pos) (Zb8 ta):=by
 intro pins s σ H R I h;refine Call_ (yX I hg hm boot_range (PyProof.Rows.callWith_type1 (thn (ha pos pins s σ H _ I h) λus s1 ⟨vs,H1,I1,r1,q1⟩=>?_) hs rfl));obtain⟨j,e,q1,q2,q⟩:=q1;subst e;cases r1 with
 |cons r rr =>
  cases rr;obtain⟨t,rfl⟩:=r;exact call_range_1 (qbH I1 (by lia) (by lia) q1 q2 (by simpa using q))
noncomputable def tFor(wi:TI)(g:TG)(tb:TS):TS:=λD σ H=>wi σ H λJ H1=>∃ W:Nat->Nat->St->Hp->Prop,(∃ m,W 0 m σ H1)/\∀ i m σ H,W i m σ H ->
 (J.stop i H/\D.nx σ H)\/(J.go i H/\∃ N:St->Hp->Prop,(∀ σ' H',N σ' H'->∃ m',m'<m/\W (i+1) m' σ' H')/\∀ x H',J.yld i H x H'->g x σ H' λσ2 H2=>tb {D with nx:=N,ct:=N,bk:=D.nx} σ2 H2)
noncomputable def Y9(fp:List Addr)(h:Heap):List (Addr×Obj):=fp.filterMap λb=>(h.get? b).map λo=>(b,o)
theorem qo{fp:List Addr}{h:Heap}{b:Addr}{o:Obj}(hb:b∈fp)(e:h.get? b=some o):(b,o)∈Y9 fp h:=uB.mpr ⟨b,hb,by rw[e];rfl⟩
theorem Qbm{fp:List Addr}{h:Heap}{p:Addr×Obj}(hp:p∈Y9 fp h):p.1∈fp/\h.get? p.1=some p.2:=by
 obtain⟨b,hb,e⟩:=uB.mp hp;cases q:h.get? b with
 |none=>rw[q] at e;cases e
 |some o =>
  rw[q] at e;have e':(b,o)=p:=Option.some.inj e;subst e';exact⟨hb,q⟩
theorem Inv.pinned{pins:List (Addr×Obj)}{σ:St}{H:Hp}{s:Shared}{fp:List Addr}(I:Inv X pins σ H s)(hf:∀ b∈fp,YM X pins H b)(ho:∀ b∈fp,∃ o,s.heap.get? b=some o/\∀ v,o.data≠.cell v):Inv X (pins++Y9 fp s.heap) σ H s :=
 I.pins_of λp hp=>(Xf.mp hp).elim (λz=>I.pin p (We _ z)) λz=>by
  obtain⟨hb,e⟩:=Qbm z;obtain⟨f0,f1,f2,_⟩:=hf p.1 hb;obtain⟨o,e',d⟩:=ho p.1 hb;rw[e] at e';cases e';exact⟨e,f0,f1,f2,d⟩
theorem Inv.unpinned{pins pl:List (Addr×Obj)}{σ:St}{H:Hp}{s:Shared}(I:Inv X (pins++pl) σ H s):Inv X pins σ H s:=I.pins_of λp hp=>I.pin p (We _ (ue _ hp))
theorem yck{iter:Expr}{body:List Stmt}{wi:TI}{g:TG}{tb:TS}{pos:Pos}(hp:PassesOwn (model X.prog X.w) X.A X.env X.xe)(hc:X.calm=true)(hi:PI X tg iter wi)(hg:PG X tg g)(hb:PSs X body tb)
  (hs:∀ x,foldedSetIterable iter X.env x=pure x:=by intro _;rfl):PS X (.For tg iter body [] pos) (tFor wi g tb):=by
 intro pins s σ H D I h;refine wpAny_For (thn (hi pins s σ H _ I h) λv s1 h1=>thn h1 λitv s2 h2=>?_) hs;obtain⟨it,fp,tn,J,H2,e,I2,T,st2,f2,W,⟨m0,w0⟩,turn⟩:=h2;subst e
 -- what stays true of the iterator's objects through the loop
 have stat:∀{H':Hp},(∀ b∈fp,H' b=none)->∀ b∈fp,YM X pins H' b:=λhn b hb=>⟨hn b hb,(f2 b hb).2⟩;refine codeAny_forLoop_any (λn s'=>∃ i σ' H',Inv X pins σ' H' s'/\tn i s'.heap/\(∀ b∈fp,H' b=none)/\W i n σ' H') ?_ m0 ⟨0,σ,H2,I2,st2,λb hb=>(f2 b hb).1,w0⟩;rintro n s3 ⟨i,σ3,H3,I3,st3,fr3,w3⟩
 rcases turn i n σ3 H3 w3 with ⟨stop,qn⟩|⟨go,N,hN,step⟩
 ·refine wpAny_passesOwn hp (thn (T.done X rfl rfl rfl hc i pins s3 σ3 H3 X.xe I3 (stat fr3) st3 stop) λr s4 ⟨hr,I4⟩=>?_);subst hr;exact wpAny_execs_nil ⟨σ3,H3,I4,qn⟩
 ·refine wpAny_passesOwn hp (thn (T.item X rfl rfl rfl hc i pins s3 σ3 H3 X.xe I3 (stat fr3) st3 go) λr s4 ⟨u,hr,h4⟩=>?_);subst hr;refine wpAny_passesOwn hp (thn h4 λ_ s5 ⟨x,H5,I5,r5,y5,st5,fr5⟩=>?_);have I5':=I5.pinned (stat fr5) (T.obj _ _ st5);refine wpAny_passesOwn hp (thn (hg _ s5 σ3 H5 x u _ I5' r5 (step x H5 y5)) λ_ s6 ⟨σ6,H6,I6,q6⟩=>?_);refine wpAny_passesOwn hp (thn (hb _ s6 σ6 H6 _ I6 q6) λf s7 q7=>?_);have again:∀{σ7:St}{H7:Hp},Inv X (pins++Y9 fp s5.heap) σ7 H7 s7->N σ7 H7->∃ m,m<n/\∃ i σ' H',Inv X pins σ' H' s7/\tn i s7.heap/\(∀ b∈fp,H' b=none)/\W i m σ' H':=λ{σ7 H7} I7 n7=>by
   obtain⟨m',hm,w7⟩:=hN σ7 H7 n7;refine⟨m',hm,i+1,σ7,H7,I7.unpinned,T.keep _ _ _ st5 λb hb o e=>(I7.pin (b,o) (We _ (We _ (qo hb e)))).1,λb hb=>?_,w7⟩;obtain⟨o,e,d⟩:=T.obj _ _ st5 b hb;exact(I7.pin (b,o) (We _ (We _ (qo hb e)))).2.1
  cases f with
  |next=>obtain⟨σ7,H7,I7,n7⟩:=q7;exact again I7 n7
  |cont=>obtain⟨σ7,H7,I7,n7⟩:=q7;exact again I7 n7
  |brk=>obtain⟨σ7,H7,I7,q7⟩:=q7;exact⟨σ7,H7,I7.unpinned,q7⟩
  |ret v=>obtain⟨x7,σ7,H7,I7,r7,q7⟩:=q7;exact⟨x7,σ7,H7,I7.unpinned,r7,q7⟩
end
noncomputable abbrev R2:=V->V->Hp->VK->Prop
noncomputable def OpR(X:Cx)(f:Value->Value->Sem Value)(r:R2):Prop :=
 ∀(pins:List (Addr×Obj)) (s:Shared) (σ:St) (H:Hp) (x y:V) (v u:Value) (Q:VK),Inv X pins σ H s->RelV x v->RelV y u->r x y H Q ->
  wpAny (model X.prog X.w) X.A (f v u) (EP X pins σ Q) X.xe s
noncomputable def UnR(X:Cx)(f:Value->Sem Value)(r:V->Hp->VK->Prop):Prop :=
 ∀(pins:List (Addr×Obj)) (s:Shared) (σ:St) (H:Hp) (x:V) (v:Value) (Q:VK),Inv X pins σ H s->RelV x v->r x H Q ->
  wpAny (model X.prog X.w) X.A (f v) (EP X pins σ Q) X.xe s
noncomputable def CallR(X:Cx)(f:Value)(r:List V->Hp->VK->Prop):Prop :=
 ∀(pins:List (Addr×Obj)) (s:Shared) (σ:St) (H:Hp) (xs:List V) (us:List Value) (Q:VK),Inv X pins σ H s->Vals xs us->r xs H Q ->
  wpAny (model X.prog X.w) X.A (call f us) (EP X pins σ Q) X.xe s
noncomputable def tOp(r:R2)(ta tb:TE):TE:=λσ H Q=>ta σ H λx H1=>tb σ H1 λy H2=>r x y H2 Q
noncomputable def tUn(r:V->Hp->VK->Prop)(ta:TE):TE:=λσ H Q=>ta σ H λx H1=>r x H1 Q
noncomputable def rI(C:Int->Int->Prop)(g:Int->Int->V):R2:=λx y H Q=>∃ i j,x=.int i/\y=.int j/\C i j/\Q (g i j) H
noncomputable def rI0(g:Int->Int->V):R2:=λx y H Q=>∃ i j,x=.int i/\y=.int j/\Q (g i j) H
noncomputable def rU(g:Int->V):V->Hp->VK->Prop:=λx H Q=>∃ i,x=.int i/\Q (g i) H
section
variable {X:Cx} {a b c:Expr} {ta tb tc:TE} {pos:Pos}
theorem binT(ha:PE X a ta)(hb:PE X b tb){pins:List (Addr×Obj)}{s:Shared}{σ:St}{H:Hp}{R:V->V->Hp->Prop}(I:Inv X pins σ H s)
  (h:ta σ H λx H1=>tb σ H1 λy H2=>R x y H2) {Q:Value->Shared->Prop} {f:Value->Value->Sem Value}
  (hf:∀ v u s2 x y H2,Inv X pins σ H2 s2->RelV x v->RelV y u->R x y H2->wpAny (model X.prog X.w) X.A (f v u) Q X.xe s2) :
  wpAny (model X.prog X.w) X.A (eval a X.env) (λv s₁=>wpAny (model X.prog X.w) X.A (eval b X.env) (λu s₂=>wpAny (model X.prog X.w) X.A (f v u) Q X.xe s₂) X.xe s₁) X.xe s:=by
 refine thn (ha pins s σ H _ I h) λv s1 ⟨x,H1,I1,r1,q1⟩=>?_;refine thn (hb pins s1 σ H1 _ I1 q1) λu s2 ⟨y,H2,I2,r2,q2⟩=>?_;exact hf v u s2 x y H2 I2 r1 r2 q2
theorem ZaY{op:Operator}{r:R2}(ho:OpR X (binaryOp op) r)(ha:PE X a ta)(hb:PE X b tb):PE X (.BinOp a op b pos) (tOp r ta tb):=by
 intro pins s σ H Q I h;exact wpAny_BinOp (binT ha hb I h λv u s2 x y H2 I2 rx ry q=>ho pins s2 σ H2 x y v u Q I2 rx ry q)
theorem pe_un{op:UnaryOp}{r:V->Hp->VK->Prop}(ho:UnR X (unaryOp op) r)(ha:PE X a ta):PE X (.UnaryOp op a pos) (tUn r ta):=by
 intro pins s σ H Q I h;exact UnaryOp_ (thn (ha pins s σ H _ I h) λv s1 ⟨x,H1,I1,r1,q1⟩=>ho pins s1 σ H1 x v Q I1 r1 q1)
theorem opI{f:Value->Value->Sem Value}{C:Int->Int->Prop}{g:Int->Int->Int}
  (rule:∀(i j:Int)(t u:Tok)(s:Shared)(Q:Value->Shared->Prop)(E:Value->Shared->Prop),C i j->Q (.int (g i j) s.toks) {s with toks:=s.toks+1}->wpAny (model X.prog X.w) X.A (f (.int i t) (.int j u)) Q E s) :
  OpR X f (rI C λi j=>.int (g i j)):=by
 intro pins s σ H x y v u Q I rx ry h;obtain⟨i,j,rfl,rfl,hc,q⟩:=h;obtain⟨t,rfl⟩:=rx;obtain⟨t',rfl⟩:=ry;exact rule i j t t' s _ _ hc ⟨.int (g i j),H,I.tok _,⟨_,rfl⟩,q⟩
theorem opI0{f:Value->Value->Sem Value}{g:Int->Int->Int}
  (rule:∀(i j:Int)(t u:Tok)(s:Shared)(Q:Value->Shared->Prop)(E:Value->Shared->Prop),Q (.int (g i j) s.toks) {s with toks:=s.toks+1}->wpAny (model X.prog X.w) X.A (f (.int i t) (.int j u)) Q E s) :
  OpR X f (rI0 λi j=>.int (g i j)):=by
 intro pins s σ H x y v u Q I rx ry h;obtain⟨i,j,rfl,rfl,q⟩:=h;obtain⟨t,rfl⟩:=rx;obtain⟨t',rfl⟩:=ry;exact rule i j t t' s _ _ ⟨.int (g i j),H,I.tok _,⟨_,rfl⟩,q⟩
theorem opB0{f:Value->Value->Sem Value}{g:Int->Int->Bool}
  (rule:∀(i j:Int)(t u:Tok)(s:Shared)(Q:Value->Shared->Prop)(E:Value->Shared->Prop),Q (.bool (g i j)) s->wpAny (model X.prog X.w) X.A (f (.int i t) (.int j u)) Q E s) :
  OpR X f (rI0 λi j=>.bl (g i j)):=by
 intro pins s σ H x y v u Q I rx ry h;obtain⟨i,j,rfl,rfl,q⟩:=h;obtain⟨t,rfl⟩:=rx;obtain⟨t',rfl⟩:=ry;exact rule i j t t' s _ _ ⟨.bl (g i j),H,I,rfl,q⟩
noncomputable def CDiv(i j:Int):Prop:=0<j/\j<1073741824
noncomputable def CPow(i j:Int):Prop:=0<=j/\j<=1000000/\i.natAbs<2^64
theorem Qck:OpR X (binaryOp .Add) (rI0 λi j=>.int (i+j)):=opI0 λ_ _ _ _ _ _ _ q=>add_int q
theorem qca:OpR X (binaryOp .Sub) (rI0 λi j=>.int (i-j)):=opI0 λ_ _ _ _ _ _ _ q=>sub_int q
theorem op_fdiv:OpR X (binaryOp .FloorDiv) (rI CDiv λi j=>.int (i/j)):=opI λi j _ _ _ _ _ hc q=>by
 have h1:(0:Int)<j:=hc.1;have h2:j<1073741824:=hc.2;exact floordiv_int (by lia) (by rw[Vx i (by lia)];exact q) (.inl (PyProof.noPylong_small (by lia)))
theorem qcq:OpR X (binaryOp .Mod) (rI (λ_ j=>0<j) λi j=>.int (i%j)):=opI λi j _ _ _ _ _ hc q=>by
 have h1:(0:Int)<j:=hc;exact mod_int' (by lia) (by rw[Int.fmod_eq_emod_of_nonneg i (by lia)];exact q)
theorem Ycb:OpR X (binaryOp .Pow) (rI CPow λi j=>.int (i^j.toNat)):=opI λ_ _ _ _ _ _ _ hc q=>pow_int_small hc.1 hc.2.1 hc.2.2 q
theorem unI{f:Value->Sem Value}{g:Int->Int}
  (rule:∀(i:Int)(t:Tok)(s:Shared)(Q:Value->Shared->Prop)(E:Value->Shared->Prop),Q (.int (g i) s.toks) {s with toks:=s.toks+1}->wpAny (model X.prog X.w) X.A (f (.int i t)) Q E s) :
  UnR X f (rU λi=>.int (g i)):=by
 intro pins s σ H x v Q I rx h;obtain⟨i,rfl,q⟩:=h;obtain⟨t,rfl⟩:=rx;exact rule i t s _ _ ⟨.int (g i),H,I.tok _,⟨_,rfl⟩,q⟩
theorem qce:UnR X (unaryOp .USub) (rU λi=>.int (-i)):=unI λ_ _ _ _ _ q=>neg_int q
end
noncomputable def scal:V->V->Bool
 |.non,.non=>true | .non,.int _=>true | .int _,.non=>true | .non,.bl _=>true | .bl _,.non=>true | .non,.str _=>true | .str _,.non=>true
 |.int _,.int _=>true | .bl _,.bl _=>true | .str _,.str _=>true | .byt _,.byt _=>true
 |.int _,.str _=>true | .str _,.int _=>true | .bl _,.str _=>true | .str _,.bl _=>true
 |_,_=>false
noncomputable def rNe:R2:=λx y H Q=>scal x y=true/\Q (.bl (!decide (x=y))) H
theorem zb4{i j:Int}:decide (V.int i=V.int j)=(i==j):=by
 rw[Wq];simp
theorem ycc{i j:Bool}:decide (V.bl i=V.bl j)=(i==j):=by
 rw[Wq];simp
theorem qb1{i j:Str}:decide (V.str i=V.str j)=(i==j):=by
 rw[Wq];simp
theorem Qb4{i j:Array UInt8}:decide (V.byt i=V.byt j)=(i.toList==j.toList):=by
 rw[Wq];cases i;cases j;simp
section
variable {X:Cx} {a b c:Expr} {ta tb tc:TE} {pos:Pos}
theorem Qp{pins:List (Addr×Obj)}{σ:St}{H:Hp}{s:Shared}{Q:VK}{k k':Bool}(I:Inv X pins σ H s)(q:Q (.bl k) H)(e:k=k'):EP X pins σ Q (.bool k') s:=by
 subst e;exact⟨.bl k,H,I,rfl,q⟩
theorem op_ne:OpR X (compareOp .NotEq) rNe:=by
 intro pins s σ H x y v u Q I rx ry h;obtain⟨hs,q⟩:=h;cases x with
 |non =>
  cases rx;cases y with
  |non=>cases ry;exact PySem.EqNone.ne_none_none (Qp I q (by simp))
  |bl j=>cases ry;exact PySem.EqNone.ne_none_bool (Qp I q (by simp))
  |int j=>obtain⟨t',rfl⟩:=ry;exact PySem.EqNone.ne_none_int (Qp I q (by simp))
  |str j=>obtain⟨t',rfl⟩:=ry;exact PySem.EqNone.ne_none_str (Qp I q (by simp))
  |_=>exact absurd (show false=true from hs) Ud
 |bl i =>
  cases rx;cases y with
  |non=>cases ry;exact PySem.EqNone.ne_bool_none (Qp I q (by simp))
  |bl j=>cases ry;exact ne_bool (Qp I q (congrArg not ycc))
  |str j=>obtain⟨t',rfl⟩:=ry;exact PySem.EqMixed.ne_bool_str (Qp I q (by simp))
  |_=>exact absurd (show false=true from hs) Ud
 |int i =>
  obtain⟨t,rfl⟩:=rx;cases y with
  |non=>cases ry;exact PySem.EqNone.ne_int_none (Qp I q (by simp))
  |int j=>obtain⟨t',rfl⟩:=ry;exact ne_int (Qp I q (congrArg not zb4))
  |str j=>obtain⟨t',rfl⟩:=ry;exact PySem.EqMixed.ne_int_str (Qp I q (by simp))
  |_=>exact absurd (show false=true from hs) Ud
 |str i =>
  obtain⟨t,rfl⟩:=rx;cases y with
  |non=>cases ry;exact PySem.EqNone.ne_str_none (Qp I q (by simp))
  |bl j=>cases ry;exact PySem.EqMixed.ne_str_bool (Qp I q (by simp))
  |int j=>obtain⟨t',rfl⟩:=ry;exact PySem.EqMixed.ne_str_int (Qp I q (by simp))
  |str j=>obtain⟨t',rfl⟩:=ry;exact ne_str (Qp I q (congrArg not qb1))
  |_=>exact absurd (show false=true from hs) Ud
 |byt i =>
  obtain⟨t,rfl⟩:=rx;cases y with
  |byt j=>obtain⟨t',rfl⟩:=ry;exact PySem.W.ne_bytes (Qp I q (congrArg not Qb4))
  |_=>exact absurd (show false=true from hs) Ud
 |_=>cases y <;> exact absurd (show false=true from hs) Ud
theorem op_lt:OpR X (compareOp .Lt) (rI0 λi j=>.bl (decide (i<j))):=opB0 λ_ _ _ _ _ _ _ q=>lt_int q
theorem op_le:OpR X (compareOp .LtE) (rI0 λi j=>.bl (decide (i<=j))):=opB0 λ_ _ _ _ _ _ _ q=>le_int q
theorem op_gt:OpR X (compareOp .Gt) (rI0 λi j=>.bl (decide (j<i))):=opB0 λ_ _ _ _ _ _ _ q=>gt_int q
theorem op_ge:OpR X (compareOp .GtE) (rI0 λi j=>.bl (decide (j<=i))):=opB0 λ_ _ _ _ _ _ _ q=>ge_int q
theorem zaA:OpR X (compareOp .In) (λx y H Q=>∃ i j,x=.str i/\y=.str j/\Q (.bl (!(Builtin.Str.occurrences j i 0 j.length 1).isEmpty)) H):=by
 intro pins s σ H x y v u Q I rx ry h;obtain⟨i,j,rfl,rfl,q⟩:=h;obtain⟨t,rfl⟩:=rx;obtain⟨t',rfl⟩:=ry;exact in_str (Qp I q rfl)
theorem Zce(b:Expr){op:CmpOp}(h:op≠.In:=by decide)(h2:op≠.NotIn:=by decide):behindInMarks op b=false:=by
 have e1:(op==CmpOp.In)=false:=by cases op <;> first|rfl|exact absurd rfl h
 have e2:(op==CmpOp.NotIn)=false:=by cases op <;> first|rfl|exact absurd rfl h2
 cases b <;> simp[behindInMarks,e1,e2]
theorem QaH{op:CmpOp}{r:R2}(ho:OpR X (compareOp op) r)(ha:PE X a ta)(hb:PE X b tb)(hm:behindInMarks op b=false):PE X (.Compare a [op] [b] pos) (tOp r ta tb):=by
 intro pins s σ H Q I h;exact wpAny_Compare1 (binT ha hb I h λv u s2 x y H2 I2 rx ry q=>ho pins s2 σ H2 x y v u Q I2 rx ry q) hm
noncomputable def QbL(t:TE):TT:=λσ H Q=>t σ H λx H'=>∃ k,x=.bl k/\Q k H'
theorem yai{op:CmpOp}{r:R2}(ho:OpR X (compareOp op) r)(ha:PE X a ta)(hb:PE X b tb)(hm:behindInMarks op b=false):PT X (.Compare a [op] [b] pos) (QbL (tOp r ta tb)):=by
 intro pins s σ H Q I h;refine wpAny_isTrue_Compare1 (thn (ha pins s σ H _ I h) λv s1 ⟨x,H1,I1,r1,q1⟩=>thn (hb pins s1 σ H1 _ I1 q1) λu s2 ⟨y,H2,I2,r2,q2⟩ =>
  thn (ho pins s2 σ H2 x y v u _ I2 r1 r2 q2) λc s3 ⟨z,H3,I3,r3,k,e,q3⟩=>?_) hm
 subst e;cases r3;exact wpAny_truthy_bool ⟨H3,I3,q3⟩
noncomputable def qbP(r r':R2)(ta tb tc:TE):TE:=λσ H Q=>ta σ H λx H1=>tb σ H1 λy H2=>r x y H2 λz H3=>∃ k,z=.bl k /\
 (if k=true then tc σ H3 λw' H4=>r' y w' H4 Q else Q (.bl false) H3)
theorem ybK{op op':CmpOp}{r r':R2}(ho:OpR X (compareOp op) r)(ho':OpR X (compareOp op') r')(ha:PE X a ta)(hb:PE X b tb)(hc:PE X c tc)
  (hm:lastMarks [op,op'] [b,c]=false:=by with_unfolding_all rfl):PE X (.Compare a [op,op'] [b,c] pos) (qbP r r' ta tb tc):=by
 intro pins s σ H Q I h;refine Compare_chain (thn (ha pins s σ H _ I h) λv s1 ⟨x,H1,I1,r1,q1⟩=>chain_link (thn (hb pins s1 σ H1 _ I1 q1) λu s2 ⟨y,H2,I2,r2,q2⟩ =>
  thn (ho pins s2 σ H2 x y v u _ I2 r1 r2 q2) λd s3 ⟨z,H3,I3,r3,k,e,q3⟩=>?_)) hm
 subst e;cases r3;refine wpAny_truthy_bool ?_;cases k with
 |false=>exact ite_ff ⟨.bl false,H3,I3,rfl,q3⟩
 |true=>exact ite_tt (chain_last (thn (hc pins s3 σ H3 _ I3 q3) λw' s4 ⟨z',H4,I4,r4,q4⟩=>ho' pins s4 σ H4 y z' u w' Q I4 r2 r4 q4))
theorem ybP{op op':CmpOp}{r r':R2}(ho:OpR X (compareOp op) r)(ho':OpR X (compareOp op') r')(ha:PE X a ta)(hb:PE X b tb)(hc:PE X c tc)
  (hm:lastMarks [op,op'] [b,c]=false:=by with_unfolding_all rfl):PT X (.Compare a [op,op'] [b,c] pos) (QbL (qbP r r' ta tb tc)):=by
 intro pins s σ H Q I h;refine isTrue_chain (thn (ha pins s σ H _ I h) λv s1 ⟨x,H1,I1,r1,q1⟩=>test_link (thn (hb pins s1 σ H1 _ I1 q1) λu s2 ⟨y,H2,I2,r2,q2⟩ =>
  thn (ho pins s2 σ H2 x y v u _ I2 r1 r2 q2) λd s3 ⟨z,H3,I3,r3,k,e,q3⟩=>?_)) hm
 subst e;cases r3;refine wpAny_truthy_bool ?_;cases k with
 |false =>
  obtain⟨k',e',q'⟩:=q3;cases e';exact ite_ff ⟨H3,I3,q'⟩
 |true =>
  refine ite_tt (test_last (thn (hc pins s3 σ H3 _ I3 q3) λw' s4 ⟨z',H4,I4,r4,q4⟩=>thn (ho' pins s4 σ H4 y z' u w' _ I4 r2 r4 q4) λd' s5 ⟨z2,H5,I5,r5,k2,e2,q5⟩=>?_));subst e2;cases r5;exact wpAny_truthy_bool ⟨H5,I5,q5⟩
theorem Zap:(sizeLine:Nat)<2^63:=by rw[sizeLine_eq];decide
theorem zbc:OpR X (binaryOp .Add) (λx y H Q=>∃ i j,x=.str i/\y=.str j/\i.length+j.length<=sizeLine/\Q (.str (i++j)) H):=by
 intro pins s σ H x y v u Q I rx ry h;obtain⟨i,j,rfl,rfl,hz,q⟩:=h;obtain⟨t,rfl⟩:=rx;obtain⟨t',rfl⟩:=ry;exact add_str (λt' tk=>⟨.str (i++j),H,I.tok _,⟨_,rfl⟩,q⟩) hz
theorem ybI{x:V}{us:List Value}(r:Vals [x] us):∃ u,us=[u]/\RelV x u:=by
 cases r with
 |cons r1 r2=>cases r2;exact⟨_,rfl,r1⟩
theorem zb6{x y:V}{us:List Value}(r:Vals [x,y] us):∃ u w',us=[u,w']/\RelV x u/\RelV y w':=by
 cases r with
 |cons r1 r2 =>
  cases r2 with
  |cons r3 r4=>cases r4;exact⟨_,_,rfl,r1,r3⟩
theorem ybn(hc:X.calm=true):CallR X (.builtin "max") (λxs H Q=>∃ i j,xs=[.int i,.int j]/\Q (.int (if j>i then j else i)) H):=by
 intro pins s σ H xs us Q I r h;obtain⟨i,j,rfl,q⟩:=h;obtain⟨u,w',rfl,⟨t,rfl⟩,⟨t',rfl⟩⟩:=zb6 r;refine max_two_ints (I.ok.hd hc) λh' tk k=>⟨_,H,I.kept k,?_,q⟩;by_cases hj:j>i
 ·rw[if_pos hj,if_pos hj];exact⟨_,rfl⟩
 ·rw[if_neg hj,if_neg hj];exact⟨_,rfl⟩
theorem Ybo(hc:X.calm=true):CallR X (.builtin "min") (λxs H Q=>∃ i j,xs=[.int i,.int j]/\Q (.int (if j<i then j else i)) H):=by
 intro pins s σ H xs us Q I r h;obtain⟨i,j,rfl,q⟩:=h;obtain⟨u,w',rfl,⟨t,rfl⟩,⟨t',rfl⟩⟩:=zb6 r;refine min_two_ints (I.ok.hd hc) λh' tk k=>⟨_,H,I.kept k,?_,q⟩;by_cases hj:j<i
 ·rw[if_pos hj,if_pos hj];exact⟨_,rfl⟩
 ·rw[if_neg hj,if_neg hj];exact⟨_,rfl⟩
end
structure ObjM (h:Heap) (x dx C:Addr) (mA:Str->Option Value):Prop where
 obj:h.get? x=some (vg C dx)
 ns:h.Ns1 dx mA
 ne:dx≠x
theorem Ybm{h:Heap}{dx:Addr}{mA:Str->Option Value}(n:h.Ns1 dx mA):∃ od,h.get? dx=some od/\∀ name,Vz name od=some (mA name):=by
 obtain⟨o,es,ep,ho,hd,hk,_,hm⟩:=n;refine⟨o,ho,λname=>?_⟩;have e:=hm name;unfold nsFind findBy at e;rw[<- Array.find?_toList] at e;unfold Vz;rw[hd];dsimp only;split
 ·rename_i y q;rw[q] at e;exact congrArg some e
 ·rename_i q;rw[q] at e;have a:es.toList.any (·.refKey)=false:=by
   rw[List.any_eq_false];intro y hy;obtain⟨z,t,hkey⟩:=hk y (Array.mem_toList_iff.mp hy);simp[DictEntry.refKey,hkey]
  have a':¬ es.toList.any (·.refKey)=true:=by rw[a];exact Ud
  rw[if_neg a'];exact congrArg some e
theorem ObjM.look{h:Heap}{x dx C:Addr}{mA:Str->Option Value}(I:ObjM h x dx C mA):∃ od,PySem.W.InstAt h x (vg C dx) C (some od)/\∀ name,Vz name od=some (mA name) :=
 let ⟨od,ho,hl⟩:=Ybm I.ns
 ⟨od,⟨I.obj,rfl,rfl,ho⟩,hl⟩
section
variable {prog:Program} {w:World} {A:Around} {E:Value->Shared->Prop} {s:Shared} {K:PySem.W.Frag} {x dx C f:Addr} {mA:Str->Option Value} {name:Str} {v:Value}
theorem YbY{expr:Bool}{Q:Value->Shared->Prop}(X:K.In s.heap)(I:ObjM s.heap x dx C mA)(hg:Vu K C name=true)(hh:xu K C=true)
  (ha:Vc K (.ref C) name=some none) (hv:mA name=some v) (hv':XD v=true) (h:Q v {s with toks:=s.toks+1}) :
  wpAny (model prog w) A (getAttr (.ref x) name expr) Q E s:=by
 obtain⟨od,J,hl⟩:=I.look;exact PySem.W.get_value X J (PySem.W.plainGet_of hg).1 (PySem.W.findObj_own hh ha rfl (by rw[hl,hv])) hv' h
theorem zbY{ns:List Str}{Q:Unit->Shared->Prop}(X:K.In s.heap)(I:ObjM s.heap x dx C mA)
  (hs:Vc K (.ref C) "__setattr__"=some (some (.builtin "object.__setattr__"))) (hp:xy K C=true) (ht:xz K C name=some none) (hh:xu K C=true)
  (hw:PySem.Within mA ns) (hsz:ns.length<=sizeLine)
  (h:∀ h',ObjM h' x dx C (λy=>if y=name then some v else mA y)->Heap.SameBut dx s.heap h'->Q () {s with heap:=h',toks:=s.toks+2}) :
  wpAny (model prog w) A (setAttr (.ref x) name v) Q E s:=by
 obtain⟨od,J,hl⟩:=I.look;refine PySem.W.set_plain X J hs (PySem.W.osa_open (s:={s with toks:=s.toks+1}) (r:=none) X J hp ht λb=>?_);obtain⟨cd,hc,hd'⟩:=PySem.W.any_some hh;have hx:s.heap.get? x=some ⟨.ref C,some dx,.plain,#[]⟩:=I.obj;refine wpAny_bind (wpAny_pure (wpAny_bind (wpAny_bind (wpAny_loadPart hx (wpAny_bind (PySem.W.Looks.here (s:={s with toks:=s.toks+1}) (PySem.W.looks_clsIn X hc) ?_))))));rw[hd'];refine wpAny_pure (a:=some dx) (wpAny_bind (wpAny_pure (wpAny_bind ?_)));refine wpAny_nsSet1 (s:={s with toks:=s.toks+1}) I.ns λh' hn2 hs2=>?_;obtain⟨oD,esD,epD,hoD,hdD,hcD⟩:=hn2.count (PySem.Within.cons name v hw);refine wpAny_bind (wpAny_lookBehind hoD (by rw[hdD];exact pastItsLine_dict (xf hcD (by rw[Xd];lia))) ?_);exact wpAny_pure (h _ ⟨(hs2.2 _ (Ne.symm I.ne)).trans I.obj,hn2,I.ne⟩ hs2)
theorem Zbw{R:Result->Shared->Prop}{vs:List Value}{kw:List (Str×Value)}(X:K.In s.heap)(hm:wt K C=true)
  (hi:Vc K (.ref C) "__init__"=some (some (.ref f))) (hf:ug K (.ref f)=some (.type "function"))
  (h:codeAny (model prog w) (A.under (.builtin "type.__call__" ⟨.ref C::vs,kw⟩)) (.call (.ref f) ⟨.ref (s.heap.objs.size+1)::vs,kw⟩) (PySem.W.InitBack (s.heap.objs.size+1) R)
   {s with heap:=(s.heap.push Wg).push (vg C s.heap.objs.size)}) :
  codeAny (model prog w) A (.call (.ref C) ⟨vs,kw⟩) R s:=by
 obtain⟨hh,g,d,t,os⟩:=s;exact vC (wz X hm) (wr X hi) (λself=>PySem.W.bind_fn X self hf) (.inl rfl) h
theorem Qbp{R:Result->Shared->Prop}(X:K.In s.heap)(hm:wt K C=true)
  (hi:Vc K (.ref C) "__init__"=some (some (.builtin "object.__init__")))
  (hb:∀ self,PySem.W.Looks (model prog w) s.heap (bindSpecial (.builtin "object.__init__") self) (.builtin "object.__init__",[self]))
  (h:codeAny (model prog w) (A.under (.builtin "type.__call__" ⟨[.ref C],[]⟩)) (.call (.builtin "object.__init__") ⟨[.ref (s.heap.objs.size+1)],[]⟩) (PySem.W.InitBack (s.heap.objs.size+1) R)
   {s with heap:=(s.heap.push Wg).push (vg C s.heap.objs.size)}) :
  codeAny (model prog w) A (.call (.ref C) ⟨[],[]⟩) R s:=by
 obtain⟨hh,g,d,t,os⟩:=s;exact vC (wz X hm) (wr X hi) hb (.inr ⟨rfl,rfl⟩) h
end
noncomputable def zI(f:Str)(v:V):List (Str×V)->List (Str×V)
 |[]=>[(f,v)]
 |(g,x)::r=>if g=f then(g,v)::r else(g,x)::zI f v r
theorem Yad(f g:Str)(v:V):∀ fs:List (Str×V),(zI f v fs).lookup g=if g=f then some v else fs.lookup g
 |[]=>by
  show Xs g [(f,v)]=_;by_cases h:g=f
  ·have hb:(g==f)=true:=beq_iff_eq.mpr h;simp only[Xs,hb,if_pos h]
  ·have hb:(g==f)=false:=beq_eq_false_iff_ne.mpr h;simp only[Xs,hb,if_neg h]
 |(k,x)::r=>by
  have ih:=Yad f g v r;rw[show zI f v ((k,x)::r)=(if k=f then(k,v)::r else(k,x)::zI f v r) from rfl];by_cases hk:k=f
  ·rw[if_pos hk];by_cases h:g=k
   ·have hb:(g==k)=true:=beq_iff_eq.mpr h;simp only[Xs,hb,if_pos (h.trans hk)]
   ·have hb:(g==k)=false:=beq_eq_false_iff_ne.mpr h;simp only[Xs,hb,if_neg (λe:g=f=>h (e.trans hk.symm))]
  ·rw[if_neg hk];by_cases h:g=k
   ·have hb:(g==k)=true:=beq_iff_eq.mpr h;simp only[Xs,hb,if_neg (λe:g=f=>hk (h.symm.trans e))]
   ·have hb:(g==k)=false:=beq_eq_false_iff_ne.mpr h;simp only[Xs,hb];exact ih
theorem qaa(f:Str)(v:V):∀ fs:List (Str×V),f∈(zI f v fs).map (·.1)/\∀ g,g∈fs.map (·.1)->g∈(zI f v fs).map (·.1)
 |[]=>⟨by simp[zI],λg h=>by simp at h⟩
 |(k,x)::r=>by
  obtain⟨i1,i2⟩:=qaa f v r;rw[show zI f v ((k,x)::r)=(if k=f then(k,v)::r else(k,x)::zI f v r) from rfl];by_cases hk:k=f
  ·rw[if_pos hk];subst hk;exact⟨by simp,λg h=>by simpa using h⟩
  ·rw[if_neg hk];refine⟨?_,λg h=>?_⟩
   ·rw[Xb];exact uf _ i1
   ·rw[Xb] at h ⊢
    rcases ua.mp h with e|e
    ·exact ua.mpr (.inl e)
    ·exact uf _ (i2 g e)
theorem yad(f:Str)(v:V):∀ fs:List (Str×V),(zI f v fs).length<=fs.length+1
 |[]=>by simp[zI]
 |(k,x)::r=>by
  have ih:=yad f v r;rw[show zI f v ((k,x)::r)=(if k=f then(k,v)::r else(k,x)::zI f v r) from rfl];by_cases hk:k=f
  ·rw[if_pos hk,Xd,Xd];lia
  ·rw[if_neg hk,Xd,Xd];lia
theorem RelO.some_of{v:V}{o:Option Value}(r:RelO (some v) o):∃ u,o=some u/\RelV v u:=by
 cases o with
 |none=>exact(show False from r).elim
 |some u=>exact⟨u,rfl,r⟩
theorem Qbo{v:V}{u:Value}(r:RelV v u):XD u=true:=by
 cases v with
 |non=>cases(show u=Value.none from r);rfl
 |bl b=>cases(show u=Value.bool b from r);rfl
 |int i=>obtain⟨t,e⟩:=(show ∃ t,u=Value.int i t from r);cases e;rfl
 |str x=>obtain⟨t,e⟩:=(show ∃ t,u=Value.str x t from r);cases e;rfl
 |byt b=>obtain⟨t,e⟩:=(show ∃ t,u=Value.bytes b t from r);cases e;rfl
 |flt b=>obtain⟨t,e⟩:=(show ∃ t,u=Value.float b t from r);cases e;rfl
 |ref a=>cases(show u=Value.ref a from r);rfl
 |ty n=>cases(show u=Value.type n from r);rfl
section
variable {P:Program} {w:World} {H H':Hp} {h h':Heap} {a C dx:Addr} {fs fs':List (Str×V)}
theorem zaG(hok:HOk P w H h)(e:H a=some (.ins C dx fs)):∃ mA,ObjM h a dx C mA/\(∀ f,RelO (fs.lookup f) (mA f))/\PySem.Within mA (fs.map (·.1))/\fs.length<=1000/\H dx=some (.own a):=by
 obtain⟨d,z,ne,ob,mA,n,r,q⟩:=(show ObjOk P w H h a (.ins C dx fs) from hok a _ e);exact⟨mA,⟨ob,n,ne⟩,r,q,z,d⟩
end
structure Cls (K:PySem.W.Frag) (C:Addr):Prop where
 pg:Vu K C Str.empty=true
 hd:xu K C=true
 po:xy K C=true
 sa:Vc K (.ref C) "__setattr__"=some (some (.builtin "object.__setattr__"))
theorem Cls.get{K:PySem.W.Frag}{C:Addr}(c:Cls K C)(f:Str):Vu K C f=true:=c.pg
noncomputable def NoAttr(K:PySem.W.Frag)(C:Addr)(f:Str):Prop:=Vc K (.ref C) f=some none
theorem NoAttr.taker{K:PySem.W.Frag}{C:Addr}{f:Str}(n:NoAttr K C f):xz K C f=some none:=by
 unfold xz;rw[show Vc K (.ref C) f=some none from n];rfl
structure Meth (K:PySem.W.Frag) (C:Addr) (m:Str) (f:Addr):Prop where
 at_:Vc K (.ref C) m=some (some (.ref f))
 fn:UB K (.ref f)=true
 kp:Ug K (.ref f)=true
section
variable {X:Cx} {pins:List (Addr×Obj)} {σ:St} {H:Hp} {s:Shared} {a C dx:Addr} {fs:List (Str×V)} {f:Str} {v:V} {A:Around} {E:Value->Shared->Prop}
theorem yaY{b:Bool}{Q:Value->Shared->Prop}(I:Inv X pins σ H s)(e:H a=some (.ins C dx fs))(c:Cls X.K C)(n:NoAttr X.K C f)(l:fs.lookup f=some v)
  (h:∀ u s',Inv X pins σ H s'->RelV v u->Q u s'):wpAny (model X.prog X.w) A (getAttr (.ref a) f b) Q E s:=by
 obtain⟨mA,O,r,_,_,_⟩:=zaG I.hok e;obtain⟨u,hu,ru⟩:=RelO.some_of (v:=v) (o:=mA f) (by rw[<- l];exact r f);exact YbY I.kIn O (c.get f) c.hd n hu (Qbo ru) (h u _ (I.tok _) ru)
theorem Qa2{y:V}{u:Value}{Q:Unit->Shared->Prop}(I:Inv X pins σ H s)(e:H a=some (.ins C dx fs))(c:Cls X.K C)(n:NoAttr X.K C f)(hl:fs.length<1000)(ry:RelV y u)
  (h:∀ s',Inv X pins σ (upd H a (.ins C dx (zI f y fs))) s'->Q () s'):wpAny (model X.prog X.w) A (setAttr (.ref a) f u) Q E s:=by
 obtain⟨mA,O,r,wi,_,ho⟩:=zaG I.hok e;have hz:(fs.map (·.1)).length<=sizeLine:=by rw[Wd,sizeLine_eq];lia
 refine zbY I.kIn O c.sa c.po n.taker c.hd wi hz λh' O' sb=>h _ ?_;have hd:∃ o,h'.get? dx=some o:=let ⟨o,_,_,e',_⟩:=O'.ns;⟨o,e'⟩;refine I.write (x:=a) (e:=dx) (by rw[e];exact True.intro) (.inr ho) (λb q hb z=>(sb.2 b hb).trans z) hd ?_;refine⟨by rw[Zd O.ne];exact ho,?_,O.ne,O'.obj,_,O'.ns,λg=>?_,λg hg=>?_⟩
 ·have:=yad f y fs;lia
 ·show RelO ((zI f y fs).lookup g) (if g=f then some u else mA g);rw[Yad];by_cases q:g=f
  ·rw[if_pos q,if_pos q];exact ry
  ·rw[if_neg q,if_neg q];exact r g
 ·by_cases q:g=f
  ·rw[q];exact(qaa f y fs).1
  ·refine(qaa f y fs).2 g (wi g λz=>hg ?_);show(if g=f then some u else mA g)=none;rw[if_neg q];exact z
theorem Inv.made(I:Inv X pins σ H s):Inv X pins σ (upd (upd H s.heap.objs.size (.own (s.heap.objs.size+1))) (s.heap.objs.size+1) (.ins C s.heap.objs.size []))
  {s with heap:=(s.heap.push Wg).push (vg C s.heap.objs.size)}:=by
 have e1:(s.heap.push Wg).get? s.heap.objs.size=some Wg:=ub s.heap rfl;have e2:((s.heap.push Wg).push (vg C s.heap.objs.size)).get? (s.heap.objs.size+1)=some (vg C s.heap.objs.size):=by
  have:=ub (s.heap.push Wg) (o:=vg C s.heap.objs.size) rfl
  rwa [xg] at this
 have e3:(s.heap.push Wg).Ns s.heap.objs.size (λ_=>none):=⟨Wg,#[],_,e1,rfl,(λe he=>absurd he (by simp)),λ_=>rfl⟩;have I1:=I.laid (a:=s.heap.objs.size) (o:=.own (s.heap.objs.size+1)) (h':=s.heap.push Wg) (t':=s.toks) (λb u q=>wa _ q) (vb _) ⟨_,e1⟩;refine I1.laid (a:=s.heap.objs.size+1) (o:=.ins C s.heap.objs.size []) (t':=s.toks) (λb u q=>wa _ q) (Xo (xg _ _)) ?_;have ne:s.heap.objs.size≠s.heap.objs.size+1:=vc (xl _);refine⟨by rw[Zd ne,zf],Xq _,ne,e2,λ_=>none,(Heap.Ns1.of_empty e3).at λo q=>wa _ q,λ_=>True.intro,λy hy=>absurd rfl hy⟩
theorem ZbW{prog:Program}{w:World}{env:Env}{e:Expr}{f:Str}{pos:Pos}{s:Shared}{Q:Value->Shared->Prop}(hb:attributeBase e f env (eval e env)=eval e env)
  (h:wpAny (model prog w) A (eval e env) (λo s₁=>wpAny (model prog w) A (getAttr o f true) Q E s₁) E s):wpAny (model prog w) A (eval (.Attribute e f pos) env) Q E s :=
 Attribute_any_ h (by rw[arm_eval_Attribute,hb])
end
noncomputable def tFld(K:PySem.W.Frag)(ta:TE)(f:Str):TE:=λσ H Q=>ta σ H λx H1=>∃ a C dx fs v,x=.ref a/\H1 a=some (.ins C dx fs)/\Cls K C/\NoAttr K C f/\fs.lookup f=some v/\Q v H1
noncomputable def sFld(K:PySem.W.Frag)(ta tv:TE)(f:Str):TS:=λD σ H=>tv σ H λy H1=>ta σ H1 λx H2=>∃ a C dx fs,x=.ref a/\H2 a=some (.ins C dx fs)/\Cls K C/\NoAttr K C f/\fs.length<1000 /\
 D.nx σ (upd H2 a (.ins C dx (zI f y fs)))
section
variable {X:Cx} {o e value:Expr} {f:Str} {pos pos' tpos:Pos} {ta tv:TE}
theorem Ycm(he:PE X e ta)(hb:attributeBase e f X.env (eval e X.env)=eval e X.env):PE X (.Attribute e f pos) (tFld X.K ta f):=by
 intro pins s σ H Q I h;refine ZbW hb (thn (he pins s σ H _ I h) λu s1 ⟨x,H1,I1,rx,a,C,dx,fs,v,ex,ea,c,n,l,q⟩=>?_);subst ex;obtain rfl:u=Value.ref a:=rx;exact yaY I1 ea c n l λu' s2 I2 ru=>⟨v,H1,I2,ru,q⟩
theorem zcj(ha:PE X o ta)(hv:PE X value tv)(hs:swapsWith value (some (.Attribute o f pos')) pos.line X.env=pure false):PS X (.Assign [.Attribute o f pos'] value pos) (sFld X.K ta tv f):=by
 intro pins s σ H D I h;refine plainObj_wpAny_Assign_Attribute (thn (hv pins s σ H _ I h) λu s1 ⟨y,H1,I1,ry,q⟩=>thn (ha pins s1 σ H1 _ I1 q) λov s2 ⟨x,H2,I2,rx,a,C,dx,fs,ex,ea,c,n,l,q2⟩=>?_) hs;subst ex;obtain rfl:ov=Value.ref a:=rx;exact Qa2 I2 ea c n l ry λs3 I3=>⟨σ,_,I3,q2⟩
end
section
variable {X:Cx} {pins:List (Addr×Obj)} {σ:St} {H:Hp} {s:Shared} {A:Around} {E:Value->Shared->Prop} {Q:Value->Shared->Prop} {c:Value} {b:Bool}
inductive TyOf (K:PySem.W.Frag) (H:Hp):V->Value->Prop where
 |non:TyOf K H .non (.type "NoneType")
 |bl (x:Bool):TyOf K H (.bl x) (.type "bool")
 |int (i:Int):TyOf K H (.int i) (.type "int")
 |str (x:Str):TyOf K H (.str x) (.type "str")
 |flt (x:UInt64):TyOf K H (.flt x) (.type "float")
 |lst {a:Addr} {xs:List V} (e:H a=some (.lst xs)):TyOf K H (.ref a) (.type "list")
 |frz {a:Addr} {o:Obj} {xs:List V} (e:H a=some (.frz o (.lst xs))):TyOf K H (.ref a) (.type "list")
 |tup {a:Addr} {xs:List V} (e:H a=some (.tup xs)):TyOf K H (.ref a) (.type "tuple")
 |dK {a:Addr} {kvs:List (Key×V)} (e:H a=some (.dK kvs)):TyOf K H (.ref a) (.type "dict")
 |dT {a:Addr} {kvs:List (List Key×V)} (e:H a=some (.dT kvs)):TyOf K H (.ref a) (.type "dict")
 |ins {a C dx:Addr} {fs:List (Str×V)} (e:H a=some (.ins C dx fs)) (cl:Cls K C) (ha:Vc K (.ref C) "__class__"=some (some (.builtin "object.__class__")))
   (hn:uq K (.builtin "object.__class__") "__get__"=some (some (.builtin "getset_descriptor.__get__"))) (htk:Xt K (.builtin "object.__class__")=some true)
   (hm:Vp K C (.type "object")=some true):TyOf K H (.ref a) (.ref C)
theorem Zbs{x:V}{u t:Value}(I:Inv X pins σ H s)(rx:RelV x u)(ty:TyOf X.K H x t)(e:Ue X.K t c=some b)(h:∀ tk,Q (.bool b) {s with toks:=tk}) :
  wpAny (model X.prog X.w) A (call (.builtin "isinstance") [u,c]) Q E s:=by
 cases ty with
 |non=>cases(show u=Value.none from rx);exact xi PySem.W.kitx_none I.kIn True.intro e (λz=>nomatch z) h
 |bl y=>cases(show u=Value.bool y from rx);exact xi PySem.W.kitx_bool I.kIn True.intro e (λz=>nomatch z) h
 |int i=>obtain⟨t,q⟩:=(show ∃ t,u=Value.int i t from rx);cases q;exact xi PySem.W.kitx_int I.kIn True.intro e (λz=>nomatch z) h
 |str y=>obtain⟨t,q⟩:=(show ∃ t,u=Value.str y t from rx);cases q;exact xi PySem.W.kitx_str I.kIn True.intro e (λz=>nomatch z) h
 |flt y=>obtain⟨t,q⟩:=(show ∃ t,u=Value.float y t from rx);cases q;exact xi PySem.W.kitx_float I.kIn True.intro e (λz=>nomatch z) h
 |@lst a xs ea =>
  cases(show u=Value.ref a from rx);obtain⟨_,_,n,_,h1⟩:=(show ObjOk X.prog X.w H s.heap a (.lst xs) from I.hok a _ ea);exact xi VC I.kIn ⟨_,h1,rfl⟩ e (λz=>nomatch z) h
 |@frz a ob xs ea =>
  cases(show u=Value.ref a from rx);obtain⟨_,_,_,n,_,h1⟩:=(show ObjOk X.prog X.w H s.heap a (.frz ob (.lst xs)) from I.hok a _ ea);exact xi VC I.kIn ⟨_,h1,rfl⟩ e (λz=>nomatch z) h
 |@tup a xs ea =>
  cases(show u=Value.ref a from rx);obtain⟨_,_,_,p⟩:=(show ObjOk X.prog X.w H s.heap a (.tup xs) from I.hok a _ ea);obtain⟨o,h1,h2,_⟩:=p;exact xi PySem.W.kitx_tuple I.kIn ⟨o,h1,h2⟩ e (λz=>nomatch z) h
 |@dK a kvs ea =>
  cases(show u=Value.ref a from rx);obtain⟨_,_,vs,_,p⟩:=(show ObjOk X.prog X.w H s.heap a (.dK kvs) from I.hok a _ ea);obtain⟨o,es,ep,h1,h2,_⟩:=p;exact xi wD I.kIn ⟨o,h1,h2.1⟩ e (λz=>nomatch z) h
 |@dT a kvs ea =>
  cases(show u=Value.ref a from rx);obtain⟨_,_,xs,_,o,es,ep,h1,h2,_⟩:=(show ObjOk X.prog X.w H s.heap a (.dT kvs) from I.hok a _ ea);exact xi wD I.kIn ⟨o,h1,h2.1⟩ e (λz=>nomatch z) h
 |@ins a C dx fs ea cl ha hn htk hm =>
  cases(show u=Value.ref a from rx);obtain⟨mA,O,_⟩:=zaG I.hok ea;obtain⟨od,J,_⟩:=O.look;exact xi (PySem.W.kitx_own (cl.get _) cl.hd ha hn htk hm) I.kIn J e (λz=>nomatch z) h
end
structure Room (k:Nat) (A:Around):Prop where
 hd:A.handled=none
 dp:A.depth+3*k+5<recursionLimit
 un:A.units+16*k+200<cLine
theorem Room.mono{j k:Nat}{A:Around}(r:Room k A)(h:j<=k):Room j A:=⟨r.hd,by have:=r.dp;lia,by have:=r.un;lia⟩
theorem Room.deeper{k:Nat}{A:Around}(r:Room (k+1) A)(env:Env):Room k (A.deeper env) :=
 ⟨r.hd,by have:=r.dp;show A.depth+1+3*k+5<_;lia,by have:=r.un;show A.units+3+16*k+200<_;lia⟩
theorem Za1{A:Around}{C:Addr}{us:List Value}{kw:List (Str×Value)}:(A.under (.builtin "type.__call__" ⟨.ref C::us,kw⟩)).depth=A.depth+1:=by
 first|rfl|simp[Around.under,Code.weight,Code.isCreation,Code.isGuard,Code.isCaller,Code.frames,Code.isFrame,guardIds]
theorem qbb{A:Around}{C:Addr}{us:List Value}{kw:List (Str×Value)}:(A.under (.builtin "type.__call__" ⟨.ref C::us,kw⟩)).units=A.units+1:=by
 first|rfl|simp[Around.under,Code.cUnits,Code.frames,Code.isFrame]
theorem Room.make{k:Nat}{A:Around}(r:Room (k+1) A)(C:Addr)(us:List Value)(kw:List (Str×Value)):Room k (A.under (.builtin "type.__call__" ⟨.ref C::us,kw⟩)) :=
 ⟨r.hd,by have:=r.dp;rw[Za1];lia,by have:=r.un;rw[qbb];lia⟩
theorem Room.depth{k:Nat}{A:Around}(r:Room k A):A.depth<recursionLimit:=by have:=r.dp;lia
noncomputable def tNil:TA:=λ_ H Q=>Q [] H
noncomputable def yb6(ta:TE)(tr:TA):TA:=λσ H Q=>ta σ H λx H1=>tr σ H1 λxs H2=>Q (x::xs) H2
section
variable {X:Cx} {e:Expr} {es:List Expr} {te:TE} {t:TA} {pos:Pos}
theorem Qk:PA X [] tNil:=λ_ _ _ _ H Q I h=>Calls.spliced_nil ⟨[],H,I,.nil,h⟩
theorem Yb(ha:PE X e te)(hr:PA X es t)(hs:starEach (e::es) X.env=(false,eval e X.env)::starEach es X.env:=by rfl):PA X (e::es) (yb6 te t):=by
 intro pos pins s σ H Q I h;rw[hs];show wpAny _ _ (spliced ((false,eval e X.env)::backTo pos (starEach es X.env))) _ _ s;refine Calls.spliced_cons (thn (ha pins s σ H _ I h) λu s1 ⟨x,H1,I1,r1,q1⟩=>?_);exact thn (hr pos pins s1 σ H1 _ I1 q1) λus s2 ⟨xs,H2,I2,r2,q2⟩=>⟨x::xs,H2,I2,.cons r1 r2,q2⟩
noncomputable def tTup(t:TA):TE:=λσ H Q=>t σ H λxs H1=>xs.length<=sizeLine/\∀ p,H1 p=none->Q (.ref p) (upd H1 p (.tup xs))
noncomputable def tLst(t:TA):TE:=λσ H Q=>t σ H λxs H1=>xs.length<=sizeLine/\∀ p,H1 p=none->Q (.ref p) (upd H1 p (.lst xs))
theorem Zcc{x1}(h:PA X es t):PE X (.Tuple es x1 pos) (tTup t):=by
 intro pins s σ H Q I hq;refine wpAny_Tuple_spliced (thn (h pos pins s σ H _ I hq) λus s1 ⟨xs,H1,I1,r,z,q⟩=>⟨by rw[<- r.length];exact z,?_⟩);have hf:H1 s1.heap.objs.size=none:=I1.hok.fresh (vb _);refine⟨.ref s1.heap.objs.size,upd H1 s1.heap.objs.size (.tup xs),I1.laid (t':=s1.toks) (λb u e=>wa _ e) (vb _) ?_,rfl,q _ hf⟩;exact⟨z,us,r,⟨_,ub _ rfl,rfl,_,rfl⟩⟩
theorem qam(h:PA X es t):PE X (.List es pos) (tLst t):=by
 intro pins s σ H Q I hq;refine wpAny_List_spliced (thn (h pos pins s σ H _ I hq) λus s1 ⟨xs,H1,I1,r,z,q⟩=>⟨by rw[<- r.length];exact z,?_⟩);have hf:H1 s1.heap.objs.size=none:=I1.hok.fresh (vb _);refine⟨.ref s1.heap.objs.size,upd H1 s1.heap.objs.size (.lst xs),I1.laid (t':=s1.toks) (λb u e=>wa _ e) (vb _) ?_,rfl,q _ hf⟩;exact⟨z,us,0,r,ub _ rfl⟩
end
noncomputable abbrev Sp:=List V->Hp->VK->XK->Prop
noncomputable abbrev CXT:=List Env->Hp->Shared->XK->Value->Shared->Prop
structure Env0 (P:Program) (w:World) (K:PySem.W.Frag) (mg:Str->Option Value) (base:Heap) (A:Around) (outer:List Env) (s:Shared) (H:Hp):Prop where
 frames:A.frames=some outer
 mod:Mod K mg base
 bs:∀ b o,base.get? b=some o->s.heap.get? b=some o/\H b=none
 bsz:base.objs.size<=s.heap.objs.size
 funs:s.heap.FunFrames base outer
 frf:∀ b∈frs outer,H b=none
 hok:HOk P w H s.heap
 bare:AllBare s.gens
noncomputable def CE(outer:List Env)(P:Program)(w:World)(H:Hp)(s:Shared)(Q:VK)(u:Value)(s':Shared):Prop :=
 ∃ v H',s'.os=s.os/\AllBare s'.gens/\Un (frs outer) [] H H' s.heap s'.heap/\HOk P w H' s'.heap/\RelV v u/\Q v H'
noncomputable def CR(CX:CXT)(outer:List Env)(P:Program)(w:World)(H:Hp)(s:Shared)(Q:VK)(E:XK)(r:Result)(s':Shared):Prop :=
 match r with
 |.ok (.ret u)=>CE outer P w H s Q u s'
 |.ok _=>False
 |.error e=>CX outer H s E e s'
structure FnOk (P:Program) (w:World) (K:PySem.W.Frag) (mg:Str->Option Value) (base:Heap) (CX:CXT) (k:Nat) (f:Addr) (fd:FuncData) (ps:List Str) (sp:Sp):Prop where
 len:∀ vs H Q E,sp vs H Q E->vs.length=ps.length
 run:∀(A:Around)(outer:List Env)(s:Shared)(H:Hp)(args:Args) (us:List Value) (vs:List V) (Q:VK) (E:XK),Room k A->Env0 P w K mg base A outer s H->BindsTo s fd args (ps.zip us)->Vals vs us->sp vs H Q E ->
  codeAny (model P w) A (.call (.ref f) args) (CR CX outer P w H s Q E) s
theorem FnOk.imp{P:Program}{w:World}{K:PySem.W.Frag}{mg:Str->Option Value}{base:Heap}{CX:CXT}{k:Nat}{f:Addr}{fd:FuncData}{ps:List Str}{sp sp':Sp}(F:FnOk P w K mg base CX k f fd ps sp)
  (h:∀ vs H Q E,sp' vs H Q E->sp vs H Q E):FnOk P w K mg base CX k f fd ps sp' :=
 ⟨λvs H Q E q=>F.len vs H Q E (h _ _ _ _ q),λA outer s H args us vs Q E hr he hb hv hs=>F.run A outer s H args us vs Q E hr he hb hv (h _ _ _ _ hs)⟩
theorem Env0.make{P:Program}{w:World}{K:PySem.W.Frag}{mg:Str->Option Value}{base:Heap}{A:Around}{outer:List Env}{s:Shared}{H:Hp}(e:Env0 P w K mg base A outer s H)(C:Addr)(us:List Value)(kw:List (Str×Value)) :
  Env0 P w K mg base (A.under (.builtin "type.__call__" ⟨.ref C::us,kw⟩)) outer s H:=⟨by first|exact e.frames|(simpa[Around.under,Code.envs,Code.isFrame,pushEnvs] using e.frames),e.mod,e.bs,e.bsz,e.funs,e.frf,e.hok,e.bare⟩
section
variable {X:Cx} {pins:List (Addr×Obj)} {σ:St} {H:Hp} {s s':Shared}
theorem Inv.env0(I:Inv X pins σ H s):Env0 X.prog X.w X.K X.mg X.base X.A X.stack s H :=
 ⟨I.ok.frames,I.ok.mod,I.bs,xf I.ok.bsz I.sz,I.stack,I.stkFree,I.hok,I.bare⟩
theorem Inv.after{Q:VK}{u:Value}(I:Inv X pins σ H s)(h:CE X.stack X.prog X.w H s Q u s'):EP X pins σ Q u s':=by
 obtain⟨v,H',os,bare,un,hok,r,q⟩:=h;obtain⟨hh,g,d,t,os'⟩:=s';obtain rfl:os'=s.os:=os;exact⟨v,H',I.call (h':=hh) (g':=g) (d':=d) (t':=t) (ch:=[]) un hok bare (λb z=>absurd z (by simp)),r,q⟩
end
noncomputable def qbw(sp:Sp)(dvs:List V)(E:XK)(t:TA):TE:=λσ H Q=>t σ H λvs H1=>sp (vs++dvs) H1 Q E
noncomputable def Binds(K:PySem.W.Frag)(fd:FuncData)(ps:List Str)(ds:List Value):Prop :=
 ∀(s:Shared)(us:List Value),K.In s.heap->(us++ds).length=ps.length->BindsTo s fd ⟨us,[]⟩ (ps.zip (us++ds))
theorem Binds.all{K:PySem.W.Frag}{fd:FuncData}{ps:List Str}(h:∀ us:List Value,us.length=ps.length->bindArgs fd ⟨us,[]⟩=pure (ps.zip us)):Binds K fd ps []:=λs us _ hl=>by
 rw[Uj] at hl ⊢;exact .of_eq (h us hl)
noncomputable def zcs(CX:CXT)(X:Cx)(E:XK):Prop:=∀(pins:List (Addr×Obj)) (σ:St) (H:Hp) (s:Shared) (e:Value) (s':Shared),Inv X pins σ H s->CX X.stack H s E e s'->X.xe e s'
section
variable {X:Cx} {CX:CXT} {k:Nat} {f C:Addr} {fd:FuncData} {ps:List Str} {sp:Sp} {dvs:List V} {ds:List Value} {E:XK} {x m:Str} {p pos apos:Pos} {e o:Expr} {es:List Expr} {ta:TE} {t:TA}
structure Mk (K:PySem.W.Frag) (C f:Addr):Prop where
 makes:wt K C=true
 init:Vc K (.ref C) "__init__"=some (some (.ref f))
 fn:UB K (.ref f)=true
 kp:Ug K (.ref C)=true
end
structure FnScope (N P:List Str) (sc:Scope):Prop where
 kind:sc.kind=.function
 co:sc.isCoroutine=false
 gen:sc.isGenerator=false
 nd:N.Nodup
 pre:N.take P.length=P
 par:∀ x∈P,sc.names.lookup x=some .local\/sc.names.lookup x=some .cell
 nofree:∀ y∈sc.names,y.2≠.free
theorem zay{kindOf:Str->Option NameKind}{x:Str}:∀{binds:List (Str×Value)} {m:Str->Option Value},(∀ v,(x,v)∉binds)->bindL kindOf binds m x=m x
 |[],_,_=>rfl
 |(n,v)::r,m,h=>by
  unfold bindL;rw[zay λw hw=>h w (uf _ hw)];split
  ·have:x≠n:=by rintro rfl;exact h v Wi
   simp[this]
  ·rfl
theorem yay{kindOf:Str->Option NameKind}{x:Str}:∀{binds:List (Str×Value)} {m:Str->Option Value},(∀ v,(x,v)∉binds)->bindC kindOf binds m x=m x
 |[],_,_=>rfl
 |(n,v)::r,m,h=>by
  unfold bindC;rw[yay λw hw=>h w (uf _ hw)];split
  ·rfl
  ·have:x≠n:=by rintro rfl;exact h v Wi
   simp[this]
theorem zaz{kindOf:Str->Option NameKind}{x:Str}{v:Value}:∀{P:List Str}{vs:List Value}{i:Nat}{m:Str->Option Value},P.Nodup->P[i]?=some x->vs[i]?=some v->kindOf x=some .local ->
  bindL kindOf (P.zip vs) m x=some v
 |[],_,_,_,_,h,_,_=>by simp at h
 |_::_,[],_,_,_,_,h,_=>by simp at h
 |p::P,w::vs,0,m,nd,h1,h2,hk=>by
  simp at h1 h2;subst h1;subst h2;show bindL kindOf ((p,w)::P.zip vs) m p=_;unfold bindL;rw[zay λv hv=>(Vj.mp nd).1 (Xv hv).1,if_pos hk];simp
 |p::P,w::vs,i+1,m,nd,h1,h2,hk=>by
  show bindL kindOf ((p,w)::P.zip vs) m x=_;unfold bindL;exact zaz (i:=i) (Vj.mp nd).2 (by simpa using h1) (by simpa using h2) hk
theorem yax{kindOf:Str->Option NameKind}{x:Str}{v:Value}:∀{P:List Str}{vs:List Value}{i:Nat}{m:Str->Option Value},P.Nodup->P[i]?=some x->vs[i]?=some v->kindOf x≠some .local ->
  bindC kindOf (P.zip vs) m x=some v
 |[],_,_,_,_,h,_,_=>by simp at h
 |_::_,[],_,_,_,_,h,_=>by simp at h
 |p::P,w::vs,0,m,nd,h1,h2,hk=>by
  simp at h1 h2;subst h1;subst h2;show bindC kindOf ((p,w)::P.zip vs) m p=_;unfold bindC;rw[yay λv hv=>(Vj.mp nd).1 (Xv hv).1,if_neg hk];simp
 |p::P,w::vs,i+1,m,nd,h1,h2,hk=>by
  show bindC kindOf ((p,w)::P.zip vs) m x=_;unfold bindC;exact yax (i:=i) (Vj.mp nd).2 (by simpa using h1) (by simpa using h2) hk
noncomputable def start(N:List Str)(vs:List V):St:=vs.map some++Wb (N.length-vs.length) none
noncomputable def zZ(CX:CXT)(P:Program)(w:World)(K:PySem.W.Frag)(mg:Str->Option Value)(base:Heap)(N:List Str)(qual:Str)(scope:Scope)(f:Addr)(cd:Value)(A:Around)(outer:List Env)(s:Shared)(H:Hp)(E:XK):Cx where
 prog:=P
 w:=w
 K:=K
 mg:=mg
 base:=base
 A:=A.deeper (envOfC qual scope s.heap.objs.size f cd)
 N:=N
 s₀:=s
 H₀:=H
 env:=envOfC qual scope s.heap.objs.size f cd
 outer:=outer
 stack:=envOfC qual scope s.heap.objs.size f cd::outer
 ex:=[]
 calm:=true
 fn:=λ_=>true
 pn:=[]
 xe:=λe s'=>wpAny (model P w) (A.deeper (envOfC qual scope s.heap.objs.size f cd)) (leaving (envOfC qual scope s.heap.objs.size f cd) e) (λ_ s''=>CX outer H s E e s'') (λe' s''=>CX outer H s E e' s'') s'
theorem qaX{sc:Scope}{n:Nat}{x:Str}(h:sc.names.lookup x=some .cell):∃ c,(cellsFrom n sc.names []).lookup x=some c:=by
 have q:=uu sc.names n [] (.inl h);exact uk.mp q
theorem zax{CX:CXT}{P:Program}{w:World}{K:PySem.W.Frag}{mg:Str->Option Value}{base:Heap}{N ps:List Str}{qual:Str}{scope:Scope}{f:Addr}{cd:Value}{A:Around}{outer:List Env}{s s1:Shared}{H:Hp}{E:XK}{us:List Value}{vs:List V}
  (S:FnScope N ps scope) (hd:A.handled=none) (e0:Env0 P w K mg base A outer s H) (hl:vs.length=ps.length) (r:Vals vs us)
  (x:InCallC s s.heap.objs.size (bindL (envOfC qual scope s.heap.objs.size f cd).kindOf (ps.zip us) λ_=>none) (cellsFrom (s.heap.objs.size+1) scope.names []) (bindC (envOfC qual scope s.heap.objs.size f cd).kindOf (ps.zip us) λ_=>none) s1) :
  Inv (zZ CX P w K mg base N qual scope f cd A outer s H E) [] (start N vs) H s1:=by
 have hpl:ps.length<=N.length:=by have:=congrArg Us S.pre;rw[Vm] at this;lia
 obtain⟨h1,tk,rfl,hk⟩:=x.done;have noA:∀ b:Addr,b∉(zZ CX P w K mg base N qual scope f cd A outer s H E).ex:=λb z=>absurd (show b∈([]:List Addr) from z) (by simp);refine⟨⟨e0.mod,S.kind,rfl,rfl,vb _,λy z c h1 h2=>?_,λy hy=>?_,λy c _ h=>?_,λ_=>hd,Around.frames_deeper e0.frames,.inr ⟨rfl,rfl⟩,λb z=>absurd z (noA b),e0.bs,e0.bsz,λb _ _=>noA b,λb z=>absurd z (noA b),e0.funs,e0.frf⟩,
  rfl,e0.bare,Un.kept hk,⟨_,x.toInCall.ns,λi y v h1 h2 h3=>?_⟩,λy c h=>⟨_,x.cell y c h⟩,e0.hok.fresh (vb _),λy c h=>?_,λp hp=>absurd (show p∈([]:List (Addr×Obj)) from hp) (by simp),e0.hok.kept hk,?_⟩
 ·exact name_of_addr x.apart (PySem.mem_of_lookup h1) (PySem.mem_of_lookup h2)
 ·have hy:scope.names.lookup y=some .cell\/scope.names.lookup y=some .free:=hy
  rcases hy with hy|hy
  ·exact qaX hy
  ·exact absurd rfl (S.nofree _ (PySem.mem_of_lookup hy))
 ·exact Vy (x.above y c (PySem.mem_of_lookup h))
 ·have hi:i<vs.length:=by
   unfold start at h2;by_cases hi:i<vs.length
   ·exact hi
   ·rw[we (by simpa using hi)] at h2;rw[Xp] at h2;split at h2 <;> cases h2
  have ha:vs[i]?=some v:=by
   unfold start at h2;rw[va (by simpa using hi),xc] at h2;cases e:vs[i]? with
   |none=>rw[e] at h2;cases h2
   |some a=>rw[e] at h2;cases h2;rfl
  obtain⟨u,hu,rv⟩:=r.get ha;have hp:ps[i]?=some y:=by
   rw[<- S.pre,uo (by lia)];exact h1
  have ndP:ps.Nodup:=by rw[<- S.pre];exact S.nd.sublist (List.take_sublist _ _)
  refine⟨u,rv,?_⟩
  rcases S.par y (Uc hp) with k|k
  ·exact .inl ⟨k,zaz ndP hp hu k⟩
  ·obtain⟨c,e⟩:=qaX (n:=s.heap.objs.size+1) k;refine .inr ⟨.inl k,c,e,?_⟩;have q:=x.cell y c e;rw[yax ndP hp hu (by show scope.names.lookup y≠_;rw[k];decide)] at q;exact q
 ·exact e0.hok.fresh (Vy (x.above y c (PySem.mem_of_lookup h)))
 ·unfold start;show _=N.length;rw[Vf,Wd,Vn]
  lia
theorem Ybx{CX:CXT}{P:Program}{w:World}{K:PySem.W.Frag}{mg:Str->Option Value}{base:Heap}{k:Nat}{f:Addr}{name qual:Str}{params:Arguments}{body:List Stmt}{scope:Scope}{dV kV doc pm cdv ct oc:Value}{an od:Option Addr}
  {osl:Array (Option Value)} {N ps:List Str} {sp:Sp} (lk:K.lookup f=some ⟨oc,od,.func (Vi name qual params body scope dV kV doc pm an cdv ct),osl⟩) (hcd:xn K cdv qual=true) (S:FnScope N ps scope)
  (len:∀ vs H Q E,sp vs H Q E->vs.length=ps.length)
  (hbody:∀(A:Around)(outer:List Env)(s:Shared)(H:Hp)(vs:List V) (Q:VK) (E:XK),Room k (A.deeper (envOfC qual scope s.heap.objs.size f cdv))->sp vs H Q E ->
   ∃ t,PSs (zZ CX P w K mg base N qual scope f cdv A outer s H E) body t/\t {nx:=λ_ H'=>Q .non H',rt:=Q} (start N vs) H) :
  FnOk P w K mg base CX (k+1) f (Vi name qual params body scope dV kV doc pm an cdv ct) ps sp:=by
 refine⟨len,λA outer s H args us vs Q E hr e0 hb r hsp=>?_⟩;have hl:=len _ _ _ _ hsp;have KX:K.In s.heap:=e0.mod.kin.keeps λb o e=>(e0.bs b o e).1;have lim:s.heap.NoLimit:=e0.mod.nolimit.keeps λb o e=>(e0.bs b o e).1;have hkind:∀ y∈ps.zip us,scope.names.lookup y.1=some .local\/(scope.names.lookup y.1=some .cell/\((cellsFrom (s.heap.objs.size+1) scope.names []).lookup y.1).isSome=true):=λ⟨n,v⟩ hy=>by
  rcases S.par n (Xv hy).1 with q|q
  ·exact .inl q
  ·exact .inr ⟨q,uu _ _ _ (.inl q)⟩
 refine codeAny_call_function hr.depth (KX _ _ lk) rfl S.co S.gen rfl (vB KX hcd) (hb _ _ _ _ ?_);refine wpAny_newFunctionEnv_cells S.kind hkind λenv he s1 x=>?_;subst he;refine⟨lim.keeps x.toInCall.keep,codeAny_func ?_⟩;obtain⟨t,ht,hq⟩:=hbody A outer s H vs Q E (hr.deeper _) hsp;have I:Inv (zZ CX P w K mg base N qual scope f cdv A outer s H E) [] (start N vs) H s1:=zax S hr.hd e0 hl r x;refine wpAny_mono (ht [] s1 (start N vs) H _ I hq) (λfl s' hs=>?_) λe s' hs=>hs;have fin:∀{σ':St}{H':Hp}{v:V}{u:Value},Inv (zZ CX P w K mg base N qual scope f cdv A outer s H E) [] σ' H' s'->RelV v u->Q v H'->CE outer P w H s Q u s' :=
  λ{σ' H' v u} J rv q=>⟨v,H',J.os,J.bare,J.base,J.hok,rv,q⟩
 cases fl with
 |ret u =>
  obtain⟨v,σ',H',J,rv,q⟩:=hs;exact fin J rv q
 |next =>
  obtain⟨σ',H',J,q⟩:=hs;exact fin (v:=V.non) (u:=Value.none) J rfl q
 |brk =>
  obtain⟨_,_,_,q⟩:=hs;exact False.elim q
 |cont =>
  obtain⟨_,_,_,q⟩:=hs;exact False.elim q
section
variable {X:Cx} {x:Str} {p pos:Pos} {e:Expr} {es:List Expr} {t:TA} {id T:String} {r:List V->Hp->VK->Prop}
noncomputable def tCB(r:List V->Hp->VK->Prop)(t:TA):TE:=λσ H Q=>t σ H λvs H1=>r vs H1 Q
theorem Zj(hc:CallR X (.builtin id) r)(hg:Gl X x)(hm:X.mg x=none)(hv:bootBuiltins x=some (.builtin id))(ha:PA X (e::es) t)(hn:x≠"__name__":=by decide)(hdb:(x==("__debug__":Str))=false:=by decide)
  (he:starEach (e::es) X.env=(false,eval e X.env)::starEach es X.env:=by rfl) (hpl:(backTo pos (starEach es X.env)).any (·.1)=false:=by rfl):PE X (.Call (.Name x p) (e::es) [] pos) (tCB r t):=by
 intro pins s σ H Q I h;refine wpAny_Call_Name_kw (yX I hg hm hv ?_ hn hdb);exact PyProof.Rows.callWith_builtin1 (thn (ha pos pins s σ H _ I h) λus s1 ⟨vs,H1,I1,r1,q1⟩=>hc pins s1 σ H1 vs us Q I1 r1 q1) he hpl
theorem ybt(hc:CallR X (.type T) r)(hg:Gl X x)(hm:X.mg x=none)(hv:bootBuiltins x=some (.type T))(ha:PA X (e::es) t)(hn:x≠"__name__":=by decide)(hdb:(x==("__debug__":Str))=false:=by decide)
  (he:starEach (e::es) X.env=(false,eval e X.env)::starEach es X.env:=by rfl) (hpl:(backTo pos (starEach es X.env)).any (·.1)=false:=by rfl):PE X (.Call (.Name x p) (e::es) [] pos) (tCB r t):=by
 intro pins s σ H Q I h;refine wpAny_Call_Name_kw (yX I hg hm hv ?_ hn hdb);exact PyProof.Rows.callWith_type1 (thn (ha pos pins s σ H _ I h) λus s1 ⟨vs,H1,I1,r1,q1⟩=>hc pins s1 σ H1 vs us Q I1 r1 q1) he hpl
end
end L2
namespace HT
open PySem PyProof.Rows
section
variable {prog:Program} {w:World} {A:Around} {E:Value->Shared->Prop} {s:Shared}
theorem cat_tup{t b:Addr}{vs ws:List Value}{Q:Value->Shared->Prop}(ht:IsTup s.heap t vs.toArray)(hb:IsTup s.heap b ws.toArray)(hv:vs≠[])
  (h1:ws=[]->Q (.ref t) s) (h2:ws≠[]->Q (.ref s.heap.objs.size) {s with heap:=s.heap.push {cls:=.type "tuple",data:=.seq (vs++ws).toArray}})
  (hsz:vs.length+ws.length<=sizeLine):wpAny (model prog w) A (binaryOp .Add (.ref t) (.ref b)) Q E s:=by
 obtain⟨⟨cls,dd,data,sl⟩,ho,hc,n,hd⟩:=id ht;obtain⟨⟨cls2,dd2,data2,sl2⟩,ho2,hc2,n2,hd2⟩:=id hb;simp only at hc hd hc2 hd2;subst hc hd hc2 hd2;have e:vs.toArray++ws.toArray=(vs++ws).toArray:=by simp
 by_cases hw:ws=[]
 ·exact concat_meets ⟨_,ho,rfl⟩ ⟨_,ho2,rfl⟩ noFill_tuple_add seq_tuple_add PySem.F.slot_tuple_add PySem.F.entry_tuple_add (PySem.F.args_tuple_add_2 _ _)
   (tuple_addW1 t b vs.toArray ws.toArray n n2 dd dd2 sl sl2 (by simpa using hv) (by simp[hw])) ⟨ho,ho2,h1 hw⟩
 ·refine concat_meets ⟨_,ho,rfl⟩ ⟨_,ho2,rfl⟩ noFill_tuple_add seq_tuple_add PySem.F.slot_tuple_add PySem.F.entry_tuple_add (PySem.F.args_tuple_add_2 _ _)
   (tuple_addW2 t b vs.toArray ws.toArray n n2 dd dd2 sl sl2 (by simpa using hv) (by simpa using hw) (by rw[Ua,Ua];exact hsz)) ⟨ho,ho2,?_⟩
  rw[e];exact h2 hw
noncomputable def sIx(n d:Nat):Option Int->Nat
 |none=>d
 |some v=>if v<0 then(v+(n:Int)).toNat else min v.toNat n
theorem qcd(n d:Nat)(hd:d<=n)(o:Option Int):sIx n d o<=n:=by
 cases o with
 |none=>exact hd
 |some v =>
  show(if v<0 then(v+(n:Int)).toNat else min v.toNat n)<=n;by_cases hv:v<0
  ·rw[if_pos hv];lia
  ·rw[if_neg hv];exact Nat.min_le_right _ _
theorem ybi(v:Int)(n d:Nat):(if v<0 then max (v+(n:Int)) 0 else min v (n:Int))=((sIx n d (some v):Nat):Int):=by
 show(if v<0 then max (v+(n:Int)) 0 else min v (n:Int))=(((if v<0 then(v+(n:Int)).toNat else min v.toNat n):Nat):Int);by_cases hv:v<0
 ·simp only[if_pos hv];lia
 ·simp only[if_neg hv];lia
theorem Qa1(lo hi:Option Int)(n:Nat):Builtin.Slice.sliceAdjust lo hi 1 (n:Int)=(((sIx n 0 lo:Nat):Int),((sIx n n hi:Nat):Int)):=by
 have h1:¬((1:Int)<0):=by lia
 unfold Builtin.Slice.sliceAdjust;simp only[h1,if_false];refine uD ?_ ?_
 ·cases lo with
  |none=>rfl
  |some v=>exact ybi v n 0
 ·cases hi with
  |none=>rfl
  |some v=>exact ybi v n n
theorem Ya0(i j:Nat):Builtin.Slice.slicePlaces (i:Int) (j:Int) 1=j-i:=by
 unfold Builtin.Slice.slicePlaces;have h1:(1:Int)>0:=by lia
 simp only[h1,if_true,Int.ediv_one];split <;> lia
theorem qan{v:Value}{o:Option Int}{Q:Option Int->Shared->Prop}(p:IsPart v o)(h:Q o s):wpAny (model prog w) A (Builtin.Slice.slicePartIndex v) Q E s:=by
 cases p with
 |none=>exact slicePart_none h
 |int i t=>exact slicePart_int h
theorem yG{sl:Addr}{vl vu:Value}{lo hi:Option Int}{n:Nat}{Q:Int×Int×Nat->Shared->Prop}(hs:s.heap.IsSliceOf sl vl vu .none)(pl:IsPart vl lo)(pu:IsPart vu hi)
  (h:Q (((sIx n 0 lo:Nat):Int),1,sIx n n hi-sIx n 0 lo) s):wpAny (model prog w) A (Builtin.Slice.sliceApplied (.ref sl) (pure (n:Int))) Q E s:=by
 obtain⟨os,hos,hcs,hds⟩:=id hs;unfold Builtin.Slice.sliceApplied Builtin.Slice.sliceFields;refine wpAny_bind (wpAny_bind (wpAny_field hos hds (x:=vl) rfl (wpAny_bind (wpAny_field hos hds (x:=vu) rfl (wpAny_bind (wpAny_field hos hds (x:=.none) rfl (wpAny_pure ?_)))))));refine wpAny_bind (slicePart_none ?_);show wpAny _ _ (if((1:Int)==0)=true then _ else _) _ _ s;rw[if_neg (by decide)];refine wpAny_bind (qan pl (wpAny_bind (qan pu (wpAny_bind (wpAny_pure ?_)))));show wpAny _ _ (match Builtin.Slice.sliceAdjust lo hi 1 (n:Int) with|(lo,hi)=>pure (lo,(1:Int),Builtin.Slice.slicePlaces lo hi 1)) _ _ s;rw[Qa1 lo hi n];show wpAny _ _ (pure (((sIx n 0 lo:Nat):Int),(1:Int),Builtin.Slice.slicePlaces ((sIx n 0 lo:Nat):Int) ((sIx n n hi:Nat):Int) 1)) _ _ s;rw[Ya0];exact wpAny_pure h
theorem qbL(xs:Array Value)(i k:Nat):((wc k).filterMap λ(m:Nat)=>xs[((i:Int)+(m:Int)*1).toNat]?).toArray=((xs.toList.drop i).take k).toArray:=by
 have e:(λ(m:Nat)=>xs[((i:Int)+(m:Int)*1).toNat]?)=λm=>xs[i+m]?:=by
  funext m;have:((i:Int)+(m:Int)*1).toNat=i+m:=by lia
  rw[this]
 rw[e];have:=pick_run xs i k;rw[List.filterMap_map] at this;have e2:((λx=>xs[x]?)∘λx=>i+x)=λm=>xs[i+m]?:=rfl;rw[e2] at this;rw[this]
theorem getItem_tuple_cut{t sl:Addr}{items:Array Value}{vl vu:Value}{lo hi:Option Int}{Q:Value->Shared->Prop}(ht:IsTup s.heap t items)(hs:s.heap.IsSliceOf sl vl vu .none)(pl:IsPart vl lo)(pu:IsPart vu hi)
  (hw:¬(sIx items.size 0 lo=0/\sIx items.size items.size hi=items.size))
  (h:Q (.ref s.heap.objs.size) {s with heap:=s.heap.push {cls:=.type "tuple",data:=.seq ((items.toList.drop (sIx items.size 0 lo)).take (sIx items.size items.size hi-sIx items.size 0 lo)).toArray}})
  (hsz:items.size<=sizeLine):wpAny (model prog w) A (getItem (.ref t) (.ref sl)) Q E s:=by
 have htake:sizeOk (.seq ((items.toList.drop (sIx items.size 0 lo)).take (sIx items.size items.size hi-sIx items.size 0 lo)).toArray):=by
  show((items.toList.drop (sIx items.size 0 lo)).take (sIx items.size items.size hi-sIx items.size 0 lo)).toArray.size<=sizeLine;rw[Ua,Vm,wv,wl]
  lia
 have hj:sIx items.size items.size hi<=items.size:=qcd _ _ (vb _) hi;obtain⟨os,hos,hcs,hds⟩:=id hs;have hTs:s.TypeIs (.ref sl) "slice":=⟨os,hos,hcs⟩;unfold getItem
 try with_reducible refine wpAny_holding ?_
 first|refine wpAny_bind (wpAny_pure ?_)|skip
 refine wpAny_bind (wpAny_sequenceKey ht.typeIs (by decide) ?_);refine wpAny_bind (wpAny_callSpecial?_slot (name:=Str.ofString "__getitem__") ht.typeIs PyProof.Rows.slot_tuple_getitem
  (wpAny_call_entry PyProof.Rows.slot_tuple_getitem ht.typeIs entry_tuple_getitem ?_ (args_tuple_getitem _ _)))
 show wpAny _ _ (Builtin.Tuple.tupleItemsOf (.ref t) >>= _) _ _ s;refine wpAny_bind (tupleItemsOf_ ht ?_);refine wpAny_bind (wpAny_typeOf hTs ?_);rw[if_pos (by decide)];refine wpAny_bind (yG hs pl pu ?_);have hno:¬((((sIx items.size 0 lo:Nat):Int)==0&&(1:Int)==1&&(sIx items.size items.size hi-sIx items.size 0 lo)==items.size)=true):=by
  intro q;rw[xa,xa] at q;have q1:((sIx items.size 0 lo:Nat):Int)=0:=eq_of_beq q.1.1;have q2:sIx items.size items.size hi-sIx items.size 0 lo=items.size:=eq_of_beq q.2;exact hw ⟨by lia,by lia⟩
 show wpAny _ _ (if(((sIx items.size 0 lo:Nat):Int)==0&&(1:Int)==1&&(sIx items.size items.size hi-sIx items.size 0 lo)==items.size)=true then _ else _) _ _ s;rw[if_neg hno,qbL]
 first
  |exact wpAny_bind (m:=Builtin.Tuple.tupleExact _) (wpAny_newObj_type (wpAny_pure ⟨_,rfl,wpAny_pure h⟩) htake)
  |exact wpAny_bind (m:=Builtin.Tuple.tupleExact _) (wpAny_newObj_type (wpAny_bind (wpAny_pure (wpAny_pure ⟨_,rfl,wpAny_pure h⟩))) htake)
  |exact wpAny_bind (wpAny_bind (m:=Builtin.Tuple.tupleExact _) (wpAny_newObj_type (wpAny_pure (wpAny_pure ⟨_,rfl,wpAny_pure h⟩)) htake))
  |exact wpAny_bind (wpAny_bind (m:=Builtin.Tuple.tupleExact _) (wpAny_newObj_type (wpAny_pure ⟨_,rfl,wpAny_pure h⟩) htake))
end
end HT
namespace L2
open PySem PySem.Spec PyProof.Rows
noncomputable abbrev TO:=St->Hp->(Option Int->Hp->Prop)->Prop
noncomputable def PO(X:Cx)(e:Option Expr)(t:TO):Prop :=
 ∀(pins:List (Addr×Obj)) (s:Shared) (σ:St) (H:Hp) (Q:Option Int->Hp->Prop),Inv X pins σ H s->t σ H Q ->
  wpAny (model X.prog X.w) X.A (evalPart e X.env) (λu s'=>∃ o H',Inv X pins σ H' s'/\IsPart u o/\Q o H') X.xe s
noncomputable def qb2:TO:=λ_ H Q=>Q none H
noncomputable def tPart(t:TE):TO:=λσ H Q=>t σ H λx H1=>∃ i,x=.int i/\Q (some i) H1
section
variable {X:Cx} {e:Expr} {te:TE} {lo hi:Option Expr} {tl th:TO} {pos p2:Pos}
theorem ybT:PO X none qb2:=by
 intro pins s σ H Q I h;rw[evalPart_none];exact wpAny_pure ⟨none,H,I,.none,h⟩
theorem Yb3(h:PE X e te):PO X (some e) (tPart te):=by
 intro pins s σ H Q I hw;rw[evalPart_some];refine thn (h pins s σ H _ I hw) λu s1 ⟨x,H1,I1,r1,q1⟩=>?_;obtain⟨i,rfl,q⟩:=q1;obtain⟨t,rfl⟩:=r1;exact⟨some i,H1,I1,.int i t,q⟩
noncomputable def SlR(X:Cx)(r:V->Option Int->Option Int->Hp->VK->Prop):Prop :=
 ∀(pins:List (Addr×Obj)) (s:Shared) (σ:St) (H:Hp) (x:V) (v vl vu:Value) (lo hi:Option Int) (sl:Addr) (Q:VK),Inv X pins σ H s->RelV x v->s.heap.IsSliceOf sl vl vu .none->IsPart vl lo->IsPart vu hi->r x lo hi H Q ->
  ∃ T id,typeLookup (.type T) "__getitem__"=pure (some (.builtin id))/\s.TypeIs v T/\wpAny (model X.prog X.w) X.A (getItem v (.ref sl)) (EP X pins σ Q) X.xe s
noncomputable def tSl(r:V->Option Int->Option Int->Hp->VK->Prop)(te:TE)(tl th:TO):TE:=λσ H Q=>te σ H λx H1=>tl σ H1 λl H2=>th σ H2 λu H3=>r x l u H3 Q
theorem ybM{r:V->Option Int->Option Int->Hp->VK->Prop}(hr:SlR X r)(he:PE X e te)(hl:PO X lo tl)(hu:PO X hi th):PE X (.Subscript e (.Slice lo hi none p2) pos) (tSl r te tl th):=by
 intro pins s σ H Q I h;refine Subscript_ (thn (he pins s σ H _ I h) λv s1 ⟨x,H1,I1,r1,q1⟩=>?_);refine wpAny_Slice (thn (hl pins s1 σ H1 _ I1 q1) λvl s2 ⟨l,H2,I2,pl,q2⟩=>thn (hu pins s2 σ H2 _ I2 q2) λvu s3 ⟨u,H3,I3,pu,q3⟩=>?_);rw[evalPart_none];refine wpAny_pure ?_;have I4:Inv X pins σ H3 {s3 with heap:=s3.heap.push {cls:=.type "slice",data:=.fields #[vl,vu,.none]}}:=I3.kept (t':=s3.toks) λb ob q=>wa _ q;obtain⟨T,id,hT,ht,hg⟩:=hr pins {s3 with heap:=s3.heap.push {cls:=.type "slice",data:=.fields #[vl,vu,.none]}} σ H3 x v vl vu l u s3.heap.objs.size Q I4 r1 (Heap.IsSliceOf.new ..) pl pu q3;show wpAny (model X.prog X.w) X.A (subscriptTail e (.Slice lo hi none p2) v (.ref s3.heap.objs.size)) (EP X pins σ Q) X.xe {s3 with heap:=s3.heap.push {cls:=.type "slice",data:=.fields #[vl,vu,.none]}};exact tail_any (ops:=[.ref s3.heap.objs.size,v]) ht hT hg (by with_unfolding_all rfl)
noncomputable def zaO(xs:List V)(lo hi:Option Int):List V:=(xs.drop (HT.sIx xs.length 0 lo)).take (HT.sIx xs.length xs.length hi-HT.sIx xs.length 0 lo)
theorem qad(xs:List V)(lo hi:Option Int):(zaO xs lo hi).length<=xs.length:=by
 unfold zaO;rw[Vm,wv]
 lia
noncomputable def rSlT(K:PySem.W.Frag):V->Option Int->Option Int->Hp->VK->Prop:=λx lo hi H Q=>∃ a xs,x=.ref a/\SqT K H a xs /\
 ¬(HT.sIx xs.length 0 lo=0/\HT.sIx xs.length xs.length hi=xs.length)/\∀ p,H p=none->Q (.ref p) (upd H p (.tup (zaO xs lo hi)))
theorem qcp:SlR X (rSlT X.K):=by
 intro pins s σ H x v vl vu lo hi sl Q I rx hs pl pu h;obtain⟨a,xs,rfl,hx,hw,q⟩:=h;cases rx;obtain⟨its,r,ht,hz⟩:=I.tuple hx;have hlen:its.toArray.size=xs.length:=by rw[Ua];exact r.length.symm
 refine⟨"tuple",_,PyProof.Rows.slot_tuple_getitem.lookup,ht.typeIs,?_⟩;refine HT.getItem_tuple_cut ht hs pl pu (by rw[hlen];exact hw) ?_ (by rw[hlen];exact hz);rw[hlen];refine⟨.ref s.heap.objs.size,_,I.laid (t':=s.toks) (o:=.tup (zaO xs lo hi)) (λb ob q=>wa _ q) (vb _) ?_,rfl,q _ (I.hok.fresh (vb _))⟩;exact⟨xf (qad xs lo hi) hz,_,(r.drop (HT.sIx xs.length 0 lo)).take (HT.sIx xs.length xs.length hi-HT.sIx xs.length 0 lo),IsTup.new _ _⟩
noncomputable def rCatT(K:PySem.W.Frag):R2:=λx y H Q=>∃ a b xs ys,x=.ref a/\y=.ref b/\SqT K H a xs/\SqT K H b ys/\xs≠[]/\xs.length+ys.length<=sizeLine /\
 (ys=[]->Q (.ref a) H)/\(ys≠[]->∀ p,H p=none->Q (.ref p) (upd H p (.tup (xs++ys))))
theorem Vals.nil_iff{xs:List V}{us:List Value}(r:Vals xs us):us=[]↔xs=[]:=by
 cases r with
 |nil=>simp
 |cons _ _=>simp
theorem Qb0:OpR X (binaryOp .Add) (rCatT X.K):=by
 intro pins s σ H x y v u Q I rx ry h;obtain⟨a,b,xs,ys,rfl,rfl,ha,hb,hx,hz,q1,q2⟩:=h;cases rx;cases ry;obtain⟨its,r1,p1,_⟩:=I.tuple ha;obtain⟨its2,r2,p2,_⟩:=I.tuple hb;refine HT.cat_tup p1 p2 (λz=>hx (r1.nil_iff.mp z)) (λz=>⟨.ref a,H,I,rfl,q1 (r2.nil_iff.mp z)⟩) (λz=>?_) (by rw[<- r1.length,<- r2.length];exact hz);refine⟨.ref s.heap.objs.size,_,I.laid (t':=s.toks) (o:=.tup (xs++ys)) (λb ob q=>wa _ q) (vb _) ?_,rfl,q2 (λw=>z (r2.nil_iff.mpr w)) _ (I.hok.fresh (vb _))⟩;exact⟨by rw[Vf];exact hz,_,r1.append r2,IsTup.new _ _⟩
end
noncomputable def ixN(n:Nat)(i:Int):Option Nat:=if 0<=i then(if i<n then some i.toNat else none) else if -(n:Int)<=i then some (i+n).toNat else none
noncomputable def atI{α:Type}(xs:List α)(i:Int):Option α:=(ixN xs.length i).bind λj=>xs[j]?
theorem Ybi{n:Nat}{i:Int}{j:Nat}(h:ixN n i=some j):seqIndex? i n=some j/\j<n/\-(n:Int)<=i/\i<n:=by
 unfold ixN at h;by_cases h0:0<=i
 ·rw[if_pos h0] at h;by_cases h1:i<n
  ·rw[if_pos h1] at h;have e:i.toNat=j:=Option.some.inj h;exact⟨by rw[seqIndex_of h0 h1,e],by lia,by lia,h1⟩
  ·rw[if_neg h1] at h;cases h
 ·rw[if_neg h0] at h;by_cases h1:-(n:Int)<=i
  ·rw[if_pos h1] at h;have e:(i+n).toNat=j:=Option.some.inj h;exact⟨by rw[seqIndex_neg (by lia) h1,e],by lia,h1,by lia⟩
  ·rw[if_neg h1] at h;cases h
theorem yaH{α:Type}{xs:List α}{i:Int}{v:α}(h:atI xs i=some v):∃ j,seqIndex? i xs.length=some j/\xs[j]?=some v/\j<xs.length/\-(xs.length:Int)<=i/\i<xs.length:=by
 unfold atI at h;cases e:ixN xs.length i with
 |none=>rw[e] at h;cases h
 |some j =>
  rw[e] at h;obtain⟨h1,h2,h3,h4⟩:=Ybi e;exact⟨j,h1,h,h2,h3,h4⟩
theorem Qbf{α:Type}{xs:List α}{j:Nat}{v:α}(h:xs[j]?=some v):atI xs (j:Int)=some v:=by
 have hj:j<xs.length:=(Xa.mp h).1;have e:ixN xs.length (j:Int)=some j:=by
  unfold ixN;rw[if_pos (by lia),if_pos (by lia)];simp
 unfold atI;rw[e];exact h
noncomputable def qbf(b:Expr):Prop:=∀ o i,subscripted b false o i=operate [o,i] (getItem o i)
noncomputable def IxR(X:Cx)(r:R2):Prop :=
 ∀(value slice:Expr)(pins:List (Addr×Obj)) (s:Shared) (σ:St) (H:Hp) (x y:V) (v u:Value) (Q:VK),Inv X pins σ H s->RelV x v->RelV y u->r x y H Q ->
  subscripted slice false v u=operate [v,u] (getItem v u)->wpAny (model X.prog X.w) X.A (subscriptTail value slice v u) (EP X pins σ Q) X.xe s
noncomputable def MtR(X:Cx)(id:String)(r:V->List V->Hp->VK->Prop):Prop :=
 ∀(pins:List (Addr×Obj)) (s:Shared) (σ:St) (H:Hp) (x:V) (xs:List V) (v:Value) (us:List Value) (Q:VK),Inv X pins σ H s->RelV x v->Vals xs us->r x xs H Q ->
  wpAny (model X.prog X.w) X.A (call (.builtin id) (v::us)) (EP X pins σ Q) X.xe s
section
variable {X:Cx} {a b:Expr} {ta tb:TE} {pos:Pos}
theorem zaW{r:R2}(hr:IxR X r)(ha:PE X a ta)(hb:PE X b tb)(hs:qbf b):PE X (.Subscript a b pos) (tOp r ta tb):=by
 intro pins s σ H Q I h;exact Subscript_ (binT ha hb I h λv u s2 x y H2 I2 rx ry q=>hr a b pins s2 σ H2 x y v u Q I2 rx ry q (hs _ _))
noncomputable def rIxL(K:PySem.W.Frag):R2:=λx y H Q=>∃ p xs i v,x=.ref p/\y=.int i/\SqL K H p xs/\atI xs i=some v/\Q v H
noncomputable def rIxT(K:PySem.W.Frag):R2:=λx y H Q=>∃ p xs i v,x=.ref p/\y=.int i/\SqT K H p xs/\atI xs i=some v/\Q v H
noncomputable def rIxS:R2:=λx y H Q=>∃ z i c,x=.str z/\y=.int i/\z.length<=sizeLine/\atI z.cps.toList i=some c/\Q (.str ⟨#[c]⟩) H
theorem Ybc:IxR X (rIxL X.K):=by
 intro value slice pins s σ H x y v u Q I rx ry h hs;obtain⟨p,xs,i,z,rfl,rfl,hq,he,q⟩:=h;cases rx;obtain⟨t,rfl⟩:=ry;obtain⟨its,r,pl,hz⟩:=I.list hq;obtain⟨j,h1,h2,h3,h4,h5⟩:=yaH he;obtain⟨w,ew,rw'⟩:=r.get h2;have hl:=r.length;have hn:=Zap;have fin:EP X pins σ Q w s:=⟨z,H,I,rw',q⟩;by_cases h0:0<=i
 ·have hj:i.toNat=j:=by
   rw[seqIndex_of h0 h5] at h1;exact Option.some.inj h1
  exact item_listR pl.isList h0 (by lia) (by rw[hj];simpa using ew) fin hs
 ·have hj:(i+(its.toArray.size:Int)).toNat=j:=by
   rw[seqIndex_neg (by lia) h4] at h1;rw[Ua,<- hl];exact Option.some.inj h1
  exact subscriptTail_builtinR (x:=w) pl.isList.typeIs slot_list_getitem.lookup
   (wpAny_getItem_list_neg (Q:=λr s'=>r=w/\EP X pins σ Q r s') pl.isList (by lia) (by rw[Ua] <;> lia) (by lia) (by rw[hj];simpa using ew) ⟨rfl,fin⟩) hs
theorem Zck:IxR X (rIxT X.K):=by
 intro value slice pins s σ H x y v u Q I rx ry h hs;obtain⟨p,xs,i,z,rfl,rfl,hq,he,q⟩:=h;cases rx;obtain⟨t,rfl⟩:=ry;obtain⟨its,r,pl,hz⟩:=I.tuple hq;obtain⟨j,h1,h2,h3,h4,h5⟩:=yaH he;obtain⟨w,ew,rw'⟩:=r.get h2;have hl:=r.length;have hn:=Zap;have fin:EP X pins σ Q w s:=⟨z,H,I,rw',q⟩;exact subscriptTail_builtinR (x:=w) pl.typeIs slot_tuple_getitem.lookup
  (getItem_tuple (j:=j) (Q:=λr s'=>r=w/\EP X pins σ Q r s') pl (by lia) (by lia) (by rw[Ua,<- hl];exact h1) (by simpa using ew) ⟨rfl,fin⟩) hs
theorem zcg:IxR X rIxS:=by
 intro value slice pins s σ H x y v u Q I rx ry h hs;obtain⟨z,i,c,rfl,rfl,hz,he,q⟩:=h;obtain⟨t,rfl⟩:=rx;obtain⟨t',rfl⟩:=ry;obtain⟨j,h1,h2,h3,h4,h5⟩:=yaH he;have hl:z.cps.toList.length=z.length:=by simp[Str.length]
 rw[hl] at h1 h4 h5;have hn:=Zap;exact tail_any (typeIs_str s z t) slot_str_getitem.lookup (getItem_str (c:=c) (by
  have e1:decide (i < -(2^63:Int))=false:=decide_eq_false (by lia);have e2:decide (i>=2^63)=false:=decide_eq_false (by lia);rw[e1,e2,Bool.or_false]) (by rw[h1];simpa using h2) ⟨.str ⟨#[c]⟩,H,I.tok _,⟨_,rfl⟩,q⟩) hs
theorem Ya6(its:List Value)(n j:Nat)(u:Value):Obj.mapSeq (·.setIfInBounds j u) {cls:=.type "list",data:=.seq its.toArray n}={cls:=.type "list",data:=.seq (its.set j u).toArray n}:=by
 simp[Obj.mapSeq]
theorem Inv.lst{pins:List (Addr×Obj)}{σ:St}{H:Hp}{s:Shared}{p:Addr}{xs:List V}(I:Inv X pins σ H s)(h:H p=some (.lst xs)) :
  ∃(its:List Value)(n:Nat),Vals xs its/\s.heap.get? p=some {cls:=.type "list",data:=.seq its.toArray n}/\xs.length<=sizeLine:=by
 obtain⟨z,its,n,r,e⟩:=I.hok p _ h;exact⟨its,n,r,e,z⟩
theorem Inv.lstUpd{pins:List (Addr×Obj)}{σ:St}{H:Hp}{s:Shared}{p:Addr}{xs ys:List V}{its its':List Value}{n n':Nat}{f:Obj->Obj}(I:Inv X pins σ H s)(h:H p=some (.lst xs))
  (ho:s.heap.get? p=some {cls:=.type "list",data:=.seq its.toArray n}) (hf:f {cls:=.type "list",data:=.seq its.toArray n}={cls:=.type "list",data:=.seq its'.toArray n'}) (r:Vals ys its') (hz:ys.length<=sizeLine) (t:Nat) :
  Inv X pins σ (upd H p (.lst ys)) {s with heap:=s.heap.update p f,toks:=t}:=by
 have e:(s.heap.update p f).get? p=some {cls:=.type "list",data:=.seq its'.toArray n'}:=by
  rw[wj f ho (by rw[hf] <;> rfl),hf]
 refine I.write (x:=p) (e:=p) (by rw[h];trivial) (.inl rfl) (λb u hb q=>(Uh _ _ (Ne.symm hb)).trans q) ⟨_,e⟩ ?_;exact⟨hz,its',n',r,e⟩
noncomputable def rSetL:V->V->V->Hp->(Hp->Prop)->Prop:=λo i v H Q=>∃ p xs k j,o=.ref p/\i=.int k/\H p=some (.lst xs)/\ixN xs.length k=some j/\Q (upd H p (.lst (xs.set j v)))
theorem qbR:PSet X rSetL:=by
 intro pins s σ H o i v ov iv u Q I ro ri rv h;obtain⟨p,xs,k,j,rfl,rfl,hp,hj,q⟩:=h;cases ro;obtain⟨t,rfl⟩:=ri;obtain⟨its,n,r,ho,hz⟩:=I.lst hp;obtain⟨h1,h2,h3,h4⟩:=Ybi hj;have hl:=r.length;have hn:=Zap;have I':Inv X pins σ (upd H p (.lst (xs.set j v))) {s with heap:=s.heap.update p (Obj.mapSeq (·.setIfInBounds j u))} :=
  I.lstUpd hp ho (Ya6 its n j u) (r.set rv j) (by rw[List.length_set];exact hz) s.toks
 by_cases h0:0<=k
 ·have hk:k.toNat=j:=by
   rw[seqIndex_of h0 h4] at h1;exact Option.some.inj h1
  exact PySem.W.ki_setAt ho h0 (by lia) (by rw[Ua,<- hl];exact h4) (by rw[hk];exact⟨_,I',q⟩)
 ·have hk:(k+(its.toArray.size:Int)).toNat=j:=by
   rw[seqIndex_neg (by lia) h3] at h1;rw[Ua,<- hl];exact Option.some.inj h1
  exact PySem.W.ki_setBack ho (by lia) (by rw[Ua,<- hl];exact h3) (by lia) (by rw[hk];exact⟨_,I',q⟩)
theorem zaK(lo hi:Option Int)(n:Nat):(sliceBounds lo hi none n).1=((HT.sIx n 0 lo:Nat):Int)/\(sliceBounds lo hi none n).2.1=((HT.sIx n n hi:Nat):Int)/\(sliceBounds lo hi none n).2.2=1:=by
 refine⟨?_,?_,rfl⟩
 ·cases lo with
  |none=>simp[sliceBounds,HT.sIx]
  |some i =>
   simp only[sliceBounds,HT.sIx,UD,show(1:Int)>0 by decide,if_true];by_cases h:i<0
   ·simp only[h,if_true] <;> lia
   ·simp only[h,if_false] <;> lia
 ·cases hi with
  |none=>simp[sliceBounds,HT.sIx]
  |some i =>
   simp only[sliceBounds,HT.sIx,UD,show(1:Int)>0 by decide,if_true];by_cases h:i<0
   ·simp only[h,if_true] <;> lia
   ·simp only[h,if_false] <;> lia
theorem zau(its:List Value)(lo hi:Option Int):slicePick its.toArray lo hi none=((its.drop (HT.sIx its.length 0 lo)).take (HT.sIx its.length its.length hi-HT.sIx its.length 0 lo)).toArray:=by
 obtain⟨h1,h2,h3⟩:=zaK lo hi its.toArray.size;unfold slicePick;rw[h1,h2,h3];simp only[sliceRange_one,pick_run,Ua] <;> rfl
noncomputable def rSlL(K:PySem.W.Frag):V->Option Int->Option Int->Hp->VK->Prop:=λx lo hi H Q=>∃ a xs,x=.ref a/\SqL K H a xs/\∀ p,H p=none->Q (.ref p) (upd H p (.lst (zaO xs lo hi)))
theorem qbd:SlR X (rSlL X.K):=by
 intro pins s σ H x v vl vu lo hi sl Q I rx hs pl pu h;obtain⟨a,xs,rfl,hx,q⟩:=h;cases rx;obtain⟨its,r,ht,hz⟩:=I.list hx;have hlen:=r.length;refine⟨"list",_,slot_list_getitem.lookup,ht.isList.typeIs,?_⟩;refine wpAny_getItem_list_slice ht.isList hs pl pu .none (by simp) ?_ (by rw[Ua] <;> lia);rw[zau,<- hlen];refine⟨.ref s.heap.objs.size,_,I.laid (t':=s.toks) (o:=.lst (zaO xs lo hi)) (λb ob q=>wa _ q) (vb _) ?_,rfl,q _ (I.hok.fresh (vb _))⟩;exact⟨xf (qad xs lo hi) hz,_,0,(r.drop (HT.sIx xs.length 0 lo)).take (HT.sIx xs.length xs.length hi-HT.sIx xs.length 0 lo),ub _ rfl⟩
theorem ZaN:CallR X (.builtin "len") (λxs H Q=>∃ p ys,xs=[.ref p]/\(SqL X.K H p ys\/SqT X.K H p ys)/\Q (.int ys.length) H):=by
 intro pins s σ H xs us Q I r h;obtain⟨p,ys,rfl,hq,q⟩:=h;obtain⟨u,rfl,rx⟩:=ybI r;cases rx;have hn:=Zap
 rcases hq with hq|hq
 ·obtain⟨its,r',pl,hz⟩:=I.list hq;have hlen:=r'.length;exact Calls.call_len_list pl.isList (by simp only[Ua] <;> lia) ⟨.int ys.length,H,I.tok _,⟨s.toks+1,by rw[Ua,hlen]⟩,q⟩
 ·obtain⟨its,r',pl,hz⟩:=I.tuple hq;have hlen:=r'.length;exact len_tuple pl (by simp only[Ua] <;> lia) ⟨.int ys.length,H,I.tok _,⟨s.toks+1,by rw[Ua,hlen]⟩,q⟩
theorem qaG:CallR X (.type "list") (λxs H Q=>∃ p ys,xs=[.ref p]/\(SqL X.K H p ys\/SqT X.K H p ys)/\∀ l,H l=none->Q (.ref l) (upd H l (.lst ys))):=by
 intro pins s σ H xs us Q I r h;obtain⟨p,ys,rfl,hq,q⟩:=h;obtain⟨u,rfl,rx⟩:=ybI r;cases rx;have fin:∀(its:List Value),Vals ys its->ys.length<=sizeLine->∀(h':Heap)(c':Nat),(∀ b o',s.heap.get? b=some o'->h'.get? b=some o') ->
   h'.get? s.heap.objs.size=some {cls:=.type "list",dict:=none,data:=.seq its.toArray c',slots:=#[]}->EP X pins σ Q (.ref s.heap.objs.size) {s with heap:=h'}:=λits r' hz h' c' kp e =>
  ⟨.ref s.heap.objs.size,_,I.laid (t':=s.toks) kp (vb _) (show ObjOk X.prog X.w _ h' _ (.lst ys) from⟨hz,its,c',r',e⟩),rfl,q _ (I.hok.fresh (vb _))⟩
 rcases hq with hq|hq
 ·obtain⟨its,r',pl,hz⟩:=I.list hq;have hlen:=r'.length;obtain⟨o,ho,hc,n,hd⟩:=pl.isList;exact call_list_seq p (.inl rfl) ho hc hd (λh' c' kp e=>fin its r' hz h' c' kp e) (by simp only[Ua] <;> lia)
 ·obtain⟨its,r',pl,hz⟩:=I.tuple hq;have hlen:=r'.length;obtain⟨o,ho,hc,n,hd⟩:=pl;exact call_list_seq p (.inr rfl) ho hc hd (λh' c' kp e=>fin its r' hz h' c' kp e) (by simp only[Ua] <;> lia)
theorem Yat:CallR X (.type "tuple") (λxs H Q=>∃ p ys,xs=[.ref p]/\((SqL X.K H p ys/\∀ l,H l=none->Q (.ref l) (upd H l (.tup ys)))\/(SqT X.K H p ys/\Q (.ref p) H))):=by
 intro pins s σ H xs us Q I r h;obtain⟨p,ys,rfl,h⟩:=h;obtain⟨u,rfl,rx⟩:=ybI r;cases rx
 rcases h with ⟨hq,q⟩|⟨hq,q⟩
 ·obtain⟨its,r',pl,hz⟩:=I.list hq;have hlen:=r'.length;refine call_tuple_list pl.isList (λh' kp=>?_) (by simp only[Ua] <;> lia);have I1:Inv X pins σ H {s with heap:=h'}:=I.kept (t':=s.toks) kp;have I2:Inv X pins σ (upd H h'.objs.size (.tup ys)) {s with heap:=h'.push {cls:=.type "tuple",data:=.seq its.toArray}} :=
   I1.laid (t':=s.toks) (λb o e=>wa _ e) (vb _) (show ObjOk X.prog X.w _ _ _ (.tup ys) from⟨hz,its,r',IsTup.new _ _⟩)
  exact⟨.ref h'.objs.size,_,I2,rfl,q _ (I1.hok.fresh (vb _))⟩
 ·obtain⟨its,r',pl,hz⟩:=I.tuple hq;exact call_tuple_same pl ⟨.ref p,H,I,rfl,q⟩
noncomputable def tyV(K:PySem.W.Frag)(T:String)(x:V)(H:Hp):Prop:=match x with
 |.str _=>T="str"
 |.int _=>T="int"
 |.ref p=>(T="list"/\∃ xs,SqL K H p xs)\/(T="tuple"/\∃ o,K.lookup p=some o/\o.cls=.type "tuple"/\o.dict=none) \/
   (T="dict"/\((∃ kvs,H p=some (.dK kvs))\/∃ kvs,H p=some (.dT kvs)))\/(T="set"/\∃ S n,H p=some (.set S n))
 |_=>False
theorem zbR{pins:List (Addr×Obj)}{σ:St}{H:Hp}{s:Shared}{T:String}{x:V}{v:Value}(I:Inv X pins σ H s)(r:RelV x v)(ty:tyV X.K T x H) :
  s.TypeIs v T/\∀ a,v=.ref a->∃ ob,s.heap.get? a=some ob/\ob.dict=none:=by
 cases x with
 |str z =>
  obtain⟨t,rfl⟩:=r;cases(show T="str" from ty);exact⟨typeIs_str s z t,λ_ e=>nomatch e⟩
 |int i =>
  obtain⟨t,rfl⟩:=r;cases(show T="int" from ty);exact⟨typeIs_int s i t,λ_ e=>nomatch e⟩
 |ref p =>
  cases r
  rcases ty with ⟨rfl,xs,hq⟩|⟨rfl,o,hk,hc,hd⟩|⟨rfl,hk⟩|⟨rfl,S,n,hk⟩
  ·obtain⟨its,_,pl,_⟩:=I.list hq;refine⟨pl.isList.typeIs,λa e=>?_⟩;cases e;obtain⟨o,n,e,c,hd,_⟩:=pl;exact⟨o,e,hd⟩
  ·refine⟨⟨o,I.kIn p o hk,hc⟩,λa e=>?_⟩;cases e;exact⟨o,I.kIn _ o hk,hd⟩
  ·have z:∃ o,s.heap.get? p=some o/\o.ExactDict:=by
    rcases hk with ⟨kvs,hk⟩|⟨kvs,hk⟩
    ·obtain⟨_,_,_,_,o,_,_,e,ex,_⟩:=I.hok p _ hk;exact⟨o,e,ex⟩
    ·obtain⟨_,_,_,_,o,_,_,e,ex,_⟩:=I.hok p _ hk;exact⟨o,e,ex⟩
   obtain⟨o,e,ex⟩:=z;refine⟨⟨o,e,ex.1⟩,λa e2=>?_⟩;cases e2;exact⟨o,e,ex.2.1⟩
  ·obtain⟨o,_,_,_,e,ex,_⟩:=I.hok p _ hk;refine⟨⟨o,e,ex.1⟩,λa e2=>?_⟩;cases e2;exact⟨o,e,ex.2.1⟩
 |_=>exact False.elim ty
noncomputable def tBM0(K:PySem.W.Frag)(T:String)(r:V->List V->Hp->VK->Prop)(to:TE):TE:=λσ H Q=>to σ H λx H1=>tyV K T x H1/\r x [] H1 Q
noncomputable def tBM(K:PySem.W.Frag)(T:String)(r:V->List V->Hp->VK->Prop)(to:TE)(t:TA):TE:=λσ H Q=>to σ H λx H1=>tyV K T x H1/\t σ H1 λxs H2=>r x xs H2 Q
variable {o e:Expr} {es:List Expr} {to:TE} {t:TA} {name:Str} {apos cpos:Pos} {T id:String} {r:V->List V->Hp->VK->Prop}
theorem qcc(pa:PlainAttrs T)(slot:Slot T name id)(hty:typeOf (.builtin id)=pure (.type "method_descriptor"))(hm:MtR X id r)(ho:PE X o to)
  (hbase:attributeBase o name X.env (eval o X.env)=eval o X.env:=by rfl) (hline:(apos.endLine==cpos.line)=true:=by rfl):PE X (.Call (.Attribute o name apos) [] [] cpos) (tBM0 X.K T r to):=by
 intro pins s σ H Q I h;refine wpAny_Call_method0_late hbase hline (thn (ho pins s σ H _ I h) λv s1 ⟨x,H1,I1,r1,ty,q1⟩=>?_);obtain⟨h1,h2⟩:=zbR I1 r1 ty;exact⟨T,id,pa,slot,hty,h1,h2,Calls.callWith_builtin rfl (PySem.evalArgs_none (hm pins s1 σ H1 x [] v [] Q I1 r1 .nil q1))⟩
theorem pe_bm(pa:PlainAttrs T)(slot:Slot T name id)(hty:typeOf (.builtin id)=pure (.type "method_descriptor"))(hm:MtR X id r)(ho:PE X o to)(ha:PA X (e::es) t)
  (hbase:attributeBase o name X.env (eval o X.env)=eval o X.env:=by rfl)
  (hfew:((backTo cpos (starEach (e::es) X.env)).all (λx=>!x.1)&&(backToKw cpos (keywordEach [] X.env)).all (λx=>x.1.isSome)
   && decide ((e::es).length+([]:List Keyword).length+(if([]:List Keyword).isEmpty then 0 else 1)<30))=true:=by rfl)
  (hline:(apos.endLine==cpos.line)=true:=by rfl) (hs:starEach (e::es) X.env=(false,eval e X.env)::starEach es X.env:=by rfl) (hplain:(backTo cpos (starEach es X.env)).any (·.1)=false:=by rfl) :
  PE X (.Call (.Attribute o name apos) (e::es) [] cpos) (tBM X.K T r to t):=by
 intro pins s σ H Q I h;refine wpAny_Call_method_late hbase hfew hline rfl (thn (ho pins s σ H _ I h) λv s1 ⟨x,H1,I1,r1,ty,q1⟩=>?_);obtain⟨h1,h2⟩:=zbR I1 r1 ty;refine⟨T,id,pa,slot,hty,h1,h2,?_⟩;have hA:=ha cpos pins s1 σ H1 _ I1 q1;rw[hs] at hA ⊢;refine Calls.callWith_builtin (by show(false||(backTo cpos (starEach es X.env)).any (·.1))=false;rw[hplain] <;> rfl) (Calls.evalArgs_plain ?_);exact thn hA λus s2 ⟨vs,H2,I2,r2,q2⟩=>hm pins s2 σ H2 x vs v us Q I2 r1 r2 q2
end
noncomputable def MtM(X:Cx)(id:String)(r:V->List V->Hp->VK->Prop):Prop :=
 ∀(pins:List (Addr×Obj)) (s:Shared) (σ:St) (H:Hp) (x:V) (xs:List V) (v:Value) (us:List Value) (Q:VK),Inv X pins σ H s->RelV x v->Vals xs us->r x xs H Q ->
  wpAny (model X.prog X.w) X.A (call (.builtin id) (v::us)) (EP X pins σ Q) X.xe s
theorem Vals.one:∀{x:V}{us:List Value},Vals [x] us->∃ u,us=[u]/\RelV x u
 |_,_,.cons r .nil=>⟨_,rfl,r⟩
theorem Vals.two:∀{x y:V}{us:List Value},Vals [x,y] us->∃ u v,us=[u,v]/\RelV x u/\RelV y v
 |_,_,_,.cons r (.cons q .nil)=>⟨_,_,rfl,r,q⟩
theorem Vals.zero:∀{us:List Value},Vals [] us->us=[]
 |_,.nil=>rfl
theorem Vals.dropLast{xs:List V}{us:List Value}(h:Vals xs us):Vals xs.dropLast us.dropLast:=by
 induction h with
 |nil=>exact .nil
 |cons r t ih =>
  cases t with
  |nil=>exact .nil
  |cons q t'=>exact .cons r ih
theorem Vals.reverse{xs:List V}{us:List Value}(h:Vals xs us):Vals xs.reverse us.reverse:=by
 induction h with
 |nil=>exact .nil
 |cons r t ih=>rw[Xy,Xy];exact Vals.append ih (.cons r .nil)
theorem Vals.rep{xs:List V}{us:List Value}(h:Vals xs us):∀ k:Nat,Vals (Wb k xs).flatten (Wb k us).flatten
 |0=>.nil
 |k+1=>by
  rw[Um,Um,Uq,Uq];exact Vals.append h (Vals.rep h k)
theorem Ya8{α:Type}(l:List α):l.eraseIdx (l.length-1)=l.dropLast:=by
 induction l with
 |nil=>rfl
 |cons a r ih =>
  cases r with
  |nil=>rfl
  |cons b r =>
   have e:(a::b::r).length-1=((b::r).length-1)+1:=by
    have h1:(a::b::r).length=r.length+2:=rfl;have h2:(b::r).length=r.length+1:=rfl
    lia
   rw[e,List.eraseIdx_cons_succ,ih]
   all_goals rfl
theorem Zax(its:List Value):∀(k:Nat)(acc:List Value),
  uE (λx1 x2=>x1++x2) acc.toArray (Wb k its.toArray)=(acc++(Wb k its).flatten).toArray
 |0,acc=>by simp
 |k+1,acc=>by
  have e:acc.toArray++its.toArray=(acc++its).toArray:=by simp
  have e2:(acc++its)++(Wb k its).flatten=acc++(Wb (k+1) its).flatten:=by
   rw[Um,Uq,Ve]
  rw[<- e2,<- Zax its k (acc++its),<- e,Um,xk]
section
variable {X:Cx} {pins:List (Addr×Obj)} {σ:St} {H:Hp} {s:Shared} {l b:Addr} {xs ys zs:List V}
theorem Inv.lset{its its':List Value}{n:Nat}{f:Array Value->Array Value}{t':Nat}(I:Inv X pins σ H s)(hH:H l=some (.lst xs))
  (e:s.heap.get? l=some {cls:=.type "list",data:=.seq its.toArray n}) (hf:f its.toArray=its'.toArray) (hv:Vals ys its') (hz:ys.length<=sizeLine) :
  Inv X pins σ (upd H l (.lst ys)) {s with heap:=s.heap.update l (Obj.mapSeq f),toks:=t'}:=by
 have q:=PySem.IsL.update e f;rw[hf] at q;refine I.write (x:=l) (e:=l) (by rw[hH];exact trivial) (.inl rfl) (λb' u hb hu=>(Uh s.heap (Obj.mapSeq f) (Ne.symm hb)).trans hu) ⟨_,q⟩ ?_;exact⟨hz,its',_,hv,q⟩
theorem Inv.lnew{its:List Value}{t':Nat}(I:Inv X pins σ H s)(hv:Vals ys its)(hz:ys.length<=sizeLine) :
  Inv X pins σ (upd H s.heap.objs.size (.lst ys)) {s with heap:=s.heap.push {cls:=.type "list",data:=.seq its.toArray},toks:=t'} :=
 I.laid (λ_ _ q=>wa _ q) (vb _) ⟨hz,its,0,hv,ub _ rfl⟩
theorem Inv.fresh(I:Inv X pins σ H s):H s.heap.objs.size=none:=I.hok.fresh (vb _)
theorem Inv.lstM(I:Inv X pins σ H s)(hH:H l=some (.lst xs)):xs.length<=sizeLine/\∃(its:List Value)(n:Nat),Vals xs its/\xs.length=its.length/\s.heap.get? l=some {cls:=.type "list",data:=.seq its.toArray n}:=by
 obtain⟨z,its,n,r,e⟩:=I.hok l _ hH;exact⟨z,its,n,r,r.length,e⟩
theorem qak{n:Nat}(h:n<=sizeLine):Builtin.List.listTooLong n=false:=by
 unfold Builtin.List.listTooLong;exact decide_eq_false (by lia)
end
section
variable {X:Cx}
noncomputable def Yb2:V->List V->Hp->VK->Prop:=λx vs H Q=>∃ l xs y,x=.ref l/\vs=[y]/\H l=some (.lst xs)/\xs.length<sizeLine/\Q .non (upd H l (.lst (xs++[y])))
theorem Zbu:MtM X "list.append" Yb2:=by
 intro pins s σ H x vs v us Q I rx rv h;obtain⟨l,xs,y,rfl,rfl,hH,hz,q⟩:=h;cases rx;obtain⟨u,rfl,ru⟩:=rv.one;obtain⟨z,its,n,r,hl,e⟩:=I.lstM hH;refine call_meets F.slot_list_append ⟨_,e,rfl⟩ F.entry_list_append (F.args_list_append_2 _ _) (PySem.list_append l its.toArray n u (by rw[Ua];lia)) ⟨e,?_⟩;refine⟨.non,_,I.lset (its':=its++[u]) hH e (by simp) (r.append (.cons ru .nil)) ?_,rfl,q⟩;rw[Vf,wA]
 lia
noncomputable def ZbY:V->List V->Hp->VK->Prop:=λx vs H Q=>∃ l b xs zs,x=.ref l/\vs=[.ref b]/\H l=some (.lst xs)/\H b=some (.lst zs)/\xs.length+zs.length<=sizeLine/\Q .non (upd H l (.lst (xs++zs)))
theorem Zcz:MtM X "list.extend" ZbY:=by
 intro pins s σ H x vs v us Q I rx rv h;obtain⟨l,b,xs,zs,rfl,rfl,hH,hB,hz,q⟩:=h;cases rx;obtain⟨u,rfl,ru⟩:=rv.one;cases ru;obtain⟨z,its,n,r,hl,e⟩:=I.lstM hH;obtain⟨z2,its2,n2,r2,hl2,e2⟩:=I.lstM hB;have hsz:its.toArray.size+its2.toArray.size<=sizeLine:=by rw[Ua,Ua];lia
 have hlong:¬(!its.toArray.isEmpty&&Builtin.List.listTooLong (its.toArray.size+its2.toArray.size))=true:=by
  rw[qak hsz,Bool.and_false];exact Ud
 refine call_meets F.slot_list_extend ⟨_,e,rfl⟩ F.entry_list_extend (F.args_list_extend_2 _ _)
  (AutoSeq1.list_extend_list_list_0 l its.toArray n b its2.toArray n2 hlong (by rw[Ua];lia) (by lia)) ⟨e,e2,?_⟩
 refine⟨.non,_,I.lset (its':=its++its2) hH e (by simp) (r.append r2) ?_,rfl,q⟩;rw[Vf]
 lia
noncomputable def rPop:V->List V->Hp->VK->Prop:=λx vs H Q=>∃ l xs y,x=.ref l/\vs=[]/\H l=some (.lst xs)/\xs[xs.length-1]?=some y/\Q y (upd H l (.lst xs.dropLast))
theorem mt_pop:MtM X "list.pop" rPop:=by
 intro pins s σ H x vs v us Q I rx rv h;obtain⟨l,xs,y,rfl,rfl,hH,hy,q⟩:=h;cases rx;have hus:=rv.zero;subst hus;obtain⟨z,its,n,r,hl,e⟩:=I.lstM hH;obtain⟨u,hu,ru⟩:=r.get hy;have hy':its.toArray[its.toArray.size-1]?=some u:=by
  show its.toArray[its.length-1]?=some u;rw[<- WA,<- hl];exact hu
 refine call_meets F.slot_list_pop ⟨_,e,rfl⟩ F.entry_list_pop (F.args_list_pop_1 _) (MeetsSeq.list_pop_last l its.toArray n u hy' (by rw[Ua];lia)) ⟨e,?_⟩;refine⟨y,_,I.lset (its':=its.dropLast) hH e ?_ r.dropLast ?_,ru,q⟩
 ·show its.toArray.eraseIdxIfInBounds (its.toArray.size-1)=its.dropLast.toArray;rw[Ua,List.eraseIdxIfInBounds_toArray,Ya8]
 ·rw[List.length_dropLast]
  lia
noncomputable def ybA:V->List V->Hp->VK->Prop:=λx vs H Q=>∃ l xs,x=.ref l/\vs=[]/\H l=some (.lst xs)/\Q .non (upd H l (.lst xs.reverse))
theorem Ya7:MtM X "list.reverse" ybA:=by
 intro pins s σ H x vs v us Q I rx rv h;obtain⟨l,xs,rfl,rfl,hH,q⟩:=h;cases rx;have hus:=rv.zero;subst hus;obtain⟨z,its,n,r,hl,e⟩:=I.lstM hH;refine call_meets F.slot_list_reverse ⟨_,e,rfl⟩ F.entry_list_reverse (F.args_list_reverse_1 _) (AutoSeq1.list_reverse_list_0 l its.toArray n (by rw[Ua];lia)) ⟨e,?_⟩;refine⟨.non,_,I.lset (its':=its.reverse) hH e (by simp) r.reverse ?_,rfl,q⟩;rw[List.length_reverse]
 lia
noncomputable def rCat:R2:=λx y H Q=>∃ l b xs zs,x=.ref l/\y=.ref b/\H l=some (.lst xs)/\H b=some (.lst zs)/\xs.length+zs.length<=sizeLine/\∀ p,H p=none->Q (.ref p) (upd H p (.lst (xs++zs)))
theorem YbK:OpR X (binaryOp .Add) rCat:=by
 intro pins s σ H x y v u Q I rx ry h;obtain⟨l,b,xs,zs,rfl,rfl,hH,hB,hz,q⟩:=h;cases rx;cases ry;obtain⟨z,its,n,r,hl,e⟩:=I.lstM hH;obtain⟨z2,its2,n2,r2,hl2,e2⟩:=I.lstM hB;refine PySem.P.add_list e e2 ?_ (by rw[Ua,Ua];lia);have ea:its.toArray++its2.toArray=(its++its2).toArray:=by simp
 rw[ea];exact⟨.ref _,_,I.lnew (t':=s.toks) (r.append r2) (by rw[Vf];lia),rfl,q _ I.fresh⟩
theorem qbU{α:Type}(xs:List α)(k:Nat):(Wb k xs).flatten.length=k*xs.length:=by
 induction k with
 |zero=>simp
 |succ k ih=>rw[Um,Uq,Vf,ih,Nat.succ_mul,Nat.add_comm]
end
end L2
namespace Att
open PySem PySem.W PySem.Calls PyProof.Rows
theorem Yaf{P:Params}{h:Heap}:∀(ns:List Int)(vs:List Value),WellAll P h vs (ns.map WData.int)->IntsAre vs ns:=by
 intro ns
 induction ns with
 |nil =>
  intro vs w;rw[Uk] at w;cases w;exact .nil
 |cons n ns ih =>
  intro vs w;rw[Xb] at w;cases w with
  |cons a b =>
   cases a;exact .cons _ _ (ih _ b)
theorem Zbp{l:OpenLaw}{n:Nat}(hn:l.most=some n){P:Params}{h:Heap}{args:List WData}{vals:List Value}
  (hpre:l.row.toRowW.claim.pre args=true) (hwl:WellAll P h vals args) :
  ∃ a vs ns,vals=[Value.ref a]/\args=[WData.list (ns.map WData.int)]/\h.get? a=some {cls:=.type "list",data:=.seq vs.toArray}/\IntsAre vs ns/\ns.length<=n:=by
 have hsh:WShape.hasAll [] args [.list .int]=true:=(pre_splitW hpre).1;have hc:l.pre.holds [] {args:=args}=true:=(pre_splitW hpre).2;obtain⟨d,r,rfl,h1,h2⟩:=hasAllW_cons hsh;obtain rfl:=hasAllW_nil h2;obtain⟨xs,rfl,h3⟩:=hasW_list h1;obtain⟨ns,rfl⟩:=items_int h3;have hlen:ns.length<=n:=by
  unfold OpenLaw.pre at hc;have h4:(WTm.not (.lt (.lit (.int (n:Int))) (.len (.arg 0)))).holds [] {args:=[.list (ns.map .int)]}=true:=by
   have h4:=(holds_andW hc).1;rw[hn] at h4;exact h4
  have h5:=condW_of h4 (w_not (w_lt w_lit (w_len_list (w_arg rfl))));rw[Wd] at h5;refine Wv λq=>?_;have q':(n:Int)<((ns.length:Nat):Int):=by lia
  first
   |(rw[decide_eq_true q'] at h5;exact absurd h5 (by decide))
   |(simp at h5;lia)
 cases hwl with
 |cons w1 w2 =>
  cases w2;cases w1 with
  |list ho hall=>exact⟨_,_,ns,rfl,rfl,ho,Yaf ns _ hall,hlen⟩
theorem Ybq(l:OpenLaw)(args:List WData):l.row.toRowW.claim.post args (.bool true) args=true :=
 postW_of (r:=l.row.toRowW) (X:=(true==true))
  (show WShape.has [] (.bool true) .bool=true by first|rfl|decide|simp[WShape.has,WShape.arms,WShape.armsAll])
  (show(WTm.eq .res (.lit (.bool true))).value [] {args:=args,res:=some (.bool true),after:=args}=some (.bool (true==true)) from w_eq_bool (w_res rfl) w_lit) rfl
theorem attach_call{l:OpenLaw}{n:Nat}{q:Program}{loose:List Str}{XP:(Str->Option Value)->Heap->Prop}{YP:World->Heap->Prop}{d:DefRec}
  (hn:l.most=some n) (hdf:d.params.defaults=[])
  (call:∀(w:World)(s₀ s₁:Shared)(mg mb:Str->Option Value)(fa:Addr)(o:Obj) (pm cd doc:Value) (a:Addr) (vs:List Value) (ns:List Int),
   Ground q loose [] XP w s₀ mg mb s₁.heap->YP w s₁.heap ->
   s₁.heap.get? fa=some o->o.data=.func (docDef d.name d.params d.body d.scope pm cd doc)->s₁.heap.CodeRec cd d.name->mg d.name=some (.ref fa) ->
   s₁.heap.get? a=some {cls:=.type "list",data:=.seq vs.toArray}->IntsAre vs ns->ns.length<=n->s₁.gens=#[] ->
   codeAny (model l.prog w) callerA (.call (.ref fa) ⟨[.ref a],[]⟩) (λr s'=>r=.ok (.ret (.bool true))/\OldK s₁.heap s'.heap/\s'.os=s₁.os/\AllBare s'.gens) s₁) :
  WalkO q loose XP YP l.row.toRowW d [] (λf vs=>PySem.call f vs):=by
 intro w s₀ s₁ mg mb G Y fa o pm cd doc dV kV ho hd hcd hD hmg hg args vals as hpre hlay hrd hwl hlo;obtain rfl:dV=.none:=Dflts.none hD hdf;obtain rfl:kV=.none:=Dflts.noKw hD;obtain⟨a,vs,ns,rfl,rfl,hobj,hints,hlen⟩:=Zbp hn hpre hwl;refine enter_call (codeAny_mono (call w s₀ s₁ mg mb fa o pm cd doc a vs ns G Y ho (fd_plain hd) hcd hmg hobj hints hlen hg) λr s' hq=>?_);obtain⟨rfl,h2,h3,h4⟩:=hq;exact⟨.inl ⟨.bool true,.bool true,[],rfl,λ_=>rfl,.bool true,Ybq l _,λ_=>⟨List.Pairwise.nil,λ_ hm=>(nomatch hm)⟩⟩,h2,h3,h4⟩
end Att
namespace L2
open PySem PySem.Spec PyProof.Rows
theorem yaz:∀{vs:List Value}{ns:List Int},IntsAre vs ns->Vals (ns.map V.int) vs
 |_,_,.nil=>.nil
 |_,_,.cons n t h=>.cons ⟨t,rfl⟩ (yaz h)
noncomputable def ybD(H:Hp):Prop:=∀ b,H b=none\/∃ o xs,H b=some (.frz o (.lst xs))
theorem ZbQ{P:Program}{w:World}{K:PySem.W.Frag}{mg mb:Str->Option Value}{CX:CXT}{k:Nat}{fa a:Addr}{fd:FuncData}{x:Str}{sp:Sp}{s₁:Shared}{vs:List Value}{ns:List Int}
  (KX:K.In s₁.heap) (hns:s₁.heap.Ns mainGlobals mg) (hb:s₁.heap.Ns builtinsNs mb) (hbb:∀ x:Str,x≠"__name__"->mb x=bootBuiltins x) (hlim:s₁.heap.NoLimit) (hg:s₁.gens=#[])
  (ha:s₁.heap.get? a=some {cls:=.type "list",data:=.seq vs.toArray}) (hi:IntsAre vs ns) (hl:ns.length<=sizeLine) (hr:Room k callerA)
  (F:∀ base:Heap,K.In base->base.Ns mainGlobals mg->FnOk P w K mg base CX k fa fd [x] sp) (hbind:∀(s:Shared)(u:Value),BindsTo s fd ⟨[u],[]⟩ [(x,u)])
  (hsp:∀ H:Hp,ybD H->SqL K H a (ns.map V.int)->sp [.ref a] H (λv _=>v=.bl true) λ_ _ _=>False)
  (hCX:∀ H e s',CX [] H s₁ (λ_ _ _=>False) e s'->False) :
  codeAny (model P w) callerA (.call (.ref fa) ⟨[.ref a],[]⟩) (λr s'=>r=.ok (.ret (.bool true))/\OldK s₁.heap s'.heap/\s'.os=s₁.os/\AllBare s'.gens) s₁:=by
 have rv:=yaz hi;have lenV:=hi.length
 -- from an abstract heap in which nothing but the script may be tracked
 have core:∀ H:Hp,ybD H->SqL K H a (ns.map V.int)->HOk P w H s₁.heap->(∀ b,H b≠none->b=a)->(H a≠none->K.lookup a=none) ->
   codeAny (model P w) callerA (.call (.ref fa) ⟨[.ref a],[]⟩) (λr s'=>r=.ok (.ret (.bool true))/\OldK s₁.heap s'.heap/\s'.os=s₁.os/\AllBare s'.gens) s₁:=by
  intro H hO hS hok hA hK;have base_of:∀{b:Addr}{o:Obj},s₁.heap.get? b=some o->H b=none->(QaM s₁.heap H).get? b=some o:=λe n=>qbB e n;have noA:∀{b:Addr}{o:Obj}{es:Array DictEntry}{ep:Nat},s₁.heap.get? b=some o->o.data=.dict es ep->H b=none:=λ{b o es ep} e d=>by
   cases q:H b with
   |none=>rfl
   |some u =>
    have e':b=a:=hA b (by rw[q];simp);subst e';rw[ha] at e;cases e;have d':Data.seq vs.toArray _=Data.dict es ep:=d;cases d'
  have nsK:∀{b:Addr}{m:Str->Option Value},s₁.heap.Ns b m->(QaM s₁.heap H).Ns b m:=λ{b m} ⟨o,es,ep,e,d,r⟩=>⟨o,es,ep,base_of e (noA e d),d,r⟩;have hKb:K.In (QaM s₁.heap H):=λb o e=>base_of (KX b o e) (by
   cases q:H b with
   |none=>rfl
   |some u =>
    have e':b=a:=hA b (by rw[q];simp);subst e';rw[hK (by rw[q];simp)] at e;cases e)
  have hM:Mod K mg (QaM s₁.heap H):=⟨hKb,nsK hns,⟨mb,nsK hb,hbb⟩,let ⟨mc,h1,h2⟩:=hlim;⟨mc,nsK h1,h2⟩⟩;have e0:Env0 P w K mg (QaM s₁.heap H) callerA [] s₁ H:=⟨rfl,hM,λb o e=>ZbX e,Xo (qbs _ _),trivial,λb hb=>absurd (show b∈([]:List Addr) from hb) (by simp),hok,.of_eq hg⟩;refine codeAny_mono ((F _ hKb (nsK hns)).run callerA [] s₁ H ⟨[.ref a],[]⟩ [.ref a] [.ref a] _ _ hr e0 (hbind s₁ (.ref a)) (.cons rfl .nil) (hsp H hO hS)) λr s' h=>?_;cases r with
  |error e=>exact(hCX H e s' h).elim
  |ok fl =>
   cases fl with
   |next=>exact False.elim h
   |brk=>exact False.elim h
   |cont=>exact False.elim h
   |ret u =>
    obtain⟨v,H',os,bare,un,hok',r',q⟩:=h;have q':v=.bl true:=q;subst q';obtain rfl:u=Value.bool true:=r';refine⟨rfl,OldK.of_keep λb o e=>?_,os,bare⟩;cases q:H b with
    |none=>exact un.keep b o e q (by intro z;exact absurd (show b∈([]:List Addr) from z) (by simp)) (by simp)
    |some u =>
     rcases hO b with z|⟨ob,xs,z⟩
     ·rw[q] at z;cases z
     ·have z2:=un.frzs b ob _ z;obtain⟨e1,_⟩:=hok b _ z;obtain⟨e2,_⟩:=hok' b _ z2;rw[e] at e1;cases e1;exact e2
 cases hk:K.lookup a with
 |some o =>
  -- the script is one of the module's own objects
  have e:=KX a o hk;rw[ha] at e;cases e;refine core (λ_=>none) (λ_=>.inl rfl) (.inr ⟨_,vs.toArray,_,hk,rfl,rfl,rfl,by rw[Ua,lenV];exact hl,by simpa using rv⟩) (λb u z=>by have z':(none:Option HO)=some u:=z;cases z') (λb z=>absurd rfl z) λz=>absurd rfl z
 |none =>
  refine core (λb=>if b=a then some (.frz {cls:=.type "list",data:=.seq vs.toArray} (.lst (ns.map V.int))) else none) (λb=>?_) (.inl (.inr ⟨{cls:=.type "list",data:=.seq vs.toArray},if_pos rfl⟩)) (λb u z=>?_) (λb z=>?_) λ_=>hk
  ·by_cases hb:b=a
   ·exact .inr ⟨_,_,if_pos hb⟩
   ·exact .inl (if_neg hb)
  ·by_cases hb:b=a
   ·have z':=(if_pos hb).symm.trans z;cases z';subst hb;exact⟨ha,by rw[Wd];exact hl,vs,_,rv,ha⟩
   ·have z':=(if_neg hb).symm.trans z;cases z'
  ·by_cases hb:b=a
   ·exact hb
   ·exact absurd (if_neg hb) z
noncomputable abbrev KOf{K:PySem.W.Frag}{h:Heap}(_:K.In h):PySem.W.Frag:=K
theorem walk_of{l:PySem.W.OpenLaw}{n k:Nat}{q:Program}{loose:List Str}{XP:(Str->Option Value)->Heap->Prop}{YP:World->Heap->Prop}{d:DefRec}{K:Params->PySem.W.Frag}{CX:World->CXT}{sp:World->Sp}{x:Str}
  (hn:l.most=some n) (hn2:n<=sizeLine) (hdf:d.params.defaults=[]) (hr:Room k callerA)
  (hY:∀(w:World)(h:Heap),YP w h->(K w.params).In h)
  (F:∀(w:World)(mg:Str->Option Value)(fa:Addr)(h:Heap),(K w.params).In h->h.Ns mainGlobals mg->mg d.name=some (.ref fa) ->
   ∃ fd:FuncData,(∀(s:Shared)(u:Value),BindsTo s fd ⟨[u],[]⟩ [(x,u)]) /\
    ∀ base:Heap,(K w.params).In base->base.Ns mainGlobals mg->FnOk l.prog w (K w.params) mg base (CX w) k fa fd [x] (sp w))
  (hsp:∀(w:World)(H:Hp)(a:Addr)(ns:List Int),ns.length<=n->ybD H->SqL (K w.params) H a (ns.map V.int)->sp w [.ref a] H (λv _=>v=.bl true) λ_ _ _=>False)
  (hCX:∀(w:World)(H:Hp)(s:Shared)(e:Value)(s':Shared),CX w [] H s (λ_ _ _=>False) e s'->False) :
  PySem.W.WalkO q loose XP YP l.row.toRowW d [] (λf vs=>PySem.call f vs):=by
 refine Att.attach_call hn hdf λw s₀ s₁ mg mb fa o pm cd doc a vs ns G Y ho hd hcd hmg hobj hints hlen hg=>?_;have KX:=hY w _ Y;obtain⟨fd,hb,hF⟩:=F w mg fa _ KX G.T.g hmg;exact ZbQ KX G.T.g G.T.b G.T.builtins G.T.nolimit hg hobj hints (xf hlen hn2) hr hF hb (λH hO hS=>hsp w H a ns hlen hO hS) λH e s'=>hCX w H s₁ e s'
noncomputable def qbX(s:Stmt)(j:Nat):Stmt:=match s with
 |.ClassDef _ _ _ body _ _ _ _ _ _ _=>body.getD j (.Pass ⟨0,0,0,0⟩)
 |_=>.Pass ⟨0,0,0,0⟩
noncomputable def Qq(s:Stmt):Arguments:=match s with
 |.FunctionDef _ a _ _ _ _ _ _ _ _=>a
 |_=>{posonlyargs:=[],args:=[],vararg:=none,kwonlyargs:=[],kw_defaults:=[],kwarg:=none,defaults:=[]}
noncomputable def Qh(s:Stmt):List Stmt:=match s with
 |.FunctionDef _ _ b _ _ _ _ _ _ _=>b
 |_=>[]
noncomputable def yb(s:Stmt):Scope:=match s with
 |.FunctionDef _ _ _ _ _ _ sc _ _ _=>sc
 |_=>{kind:=.function,names:=[],isGenerator:=false,isCoroutine:=false}
noncomputable abbrev CX0:CXT:=λ_ _ _ _ _ _=>False
noncomputable abbrev E0:XK:=λ_ _ _=>False
structure Fun (K:PySem.W.Frag) (x qual:Str) (st:Stmt) (f:Addr) (fd:FuncData):Prop where
 ex:∃(oc:Value)(od:Option Addr)(kV doc pm:Value)(an:Option Addr)(cdv ct:Value) (osl:Array (Option Value)),
  fd=Vi x qual (Qq st) (Qh st) (yb st) .none kV doc pm an cdv ct/\K.lookup f=some ⟨oc,od,.func fd,osl⟩/\xn K cdv qual=true
 kp:Ug K (.ref f)=true
section
variable {P:Program} {w:World} {K:PySem.W.Frag} {mg:Str->Option Value} {base:Heap}
theorem Fun.binds{x qual:Str}{st:Stmt}{f:Addr}{fd:FuncData}{ps:List Str}(F:Fun K x qual st f fd)
  (h:∀(kV doc pm:Value)(an:Option Addr)(cdv ct:Value)(us:List Value),us.length=ps.length->bindArgs (Vi x qual (Qq st) (Qh st) (yb st) .none kV doc pm an cdv ct) ⟨us,[]⟩=pure (ps.zip us)):Binds K fd ps []:=by
 obtain⟨oc,od,kV,doc,pm,an,cdv,ct,osl,rfl,lk,hcd⟩:=F.ex;exact .all (h kV doc pm an cdv ct)
theorem zba{x qual:Str}{st:Stmt}{f:Addr}{oc:Value}{od an:Option Addr}{osl:Array (Option Value)}{kV doc pm cdv ct:Value}(l:K.lookup f=some ⟨oc,od,.func (Vi x qual (Qq st) (Qh st) (yb st) .none kV doc pm an cdv ct),osl⟩)
  (c:xn K cdv qual=true) (k:Ug K (.ref f)=true):Fun K x qual st f (Vi x qual (Qq st) (Qh st) (yb st) .none kV doc pm an cdv ct):=⟨⟨oc,od,kV,doc,pm,an,cdv,ct,osl,rfl,l,c⟩,k⟩
end
section
variable {X:Cx}
theorem pv(i:Nat){x:Str}{pos:Pos}(hN:X.N[i]?=some x:=by rfl)(hv:Vis X.env.scope x:=by first|exact Or.inl rfl|exact Or.inr (Or.inl rfl)|exact Or.inr (Or.inr rfl))(hd:(x==("__debug__":Str))=false:=by decide)
  (hcd:(x==("__classdict__":Str))=false:=by decide):PE X (.Name x pos) (tVar i):=Ya2 hN hv hd hcd
end
theorem iteF{A B:Prop}(h:B):if false=true then A else B:=by
 rw[if_neg Ud];exact h
theorem ite2{c A B:Prop} [Decidable c] (h1:c->A)(h2:¬ c->B):if c then A else B:=by
 by_cases h:c
 ·rw[if_pos h];exact h1 h
 ·rw[if_neg h];exact h2 h
noncomputable def Same(H H':Hp):Prop:=∀ b o,H b=some o->H' b=some o
theorem Same.trans{H H1 H2:Hp}(a:Same H H1)(b:Same H1 H2):Same H H2:=λc o h=>b c o (a c o h)
section
variable {κ:Type} [DecidableEq κ]
noncomputable def Za9(kvs:List (κ×V))(k:κ):Option V:=(kvs.find? λkv=>decide (kv.1=k)).map (·.2)
noncomputable def yam(kvs:List (κ×V))(k:κ)(v:V):List (κ×V) :=
 if(kvs.any λkv=>decide (kv.1=k))=true then kvs.map (λkv=>if kv.1=k then(kv.1,v) else kv) else kvs++[(k,v)]
theorem yaQ{p:κ×V}{r:List (κ×V)}{k:κ}(e:p.1=k):Za9 (p::r) k=some p.2:=by simp[Za9,uv,e]
theorem ZaX{p:κ×V}{r:List (κ×V)}{k:κ}(e:¬ p.1=k):Za9 (p::r) k=Za9 r k:=by simp[Za9,uv,e]
theorem zaS(k:κ):∀ kvs:List (κ×V),(kvs.any λkv=>decide (kv.1=k))=(Za9 kvs k).isSome
 |[]=>rfl
 |p::r=>by
  rw[List.any_cons];by_cases e:p.1=k
  ·simp only[yaQ e,decide_eq_true e,Bool.true_or,VB]
  ·rw[ZaX e,decide_eq_false e,Bool.false_or];exact zaS k r
theorem ZaP(kvs:List (κ×V))(k:κ)(v:V):(yam kvs k v).length<=kvs.length+1:=by
 unfold yam;split
 ·rw[Wd];lia
 ·rw[Vf,Xd,Vl];lia
theorem RelO.isSome_eq{o:Option V}{u:Option Value}(r:RelO o u):o.isSome=u.isSome:=by
 cases o with
 |none=>cases u with
  |none=>rfl
  |some _=>exact(show False from r).elim
 |some _=>cases u with
  |none=>exact(show False from r).elim
  |some _=>rfl
end
theorem kV_is{P:Program}{w:World}{k:Key}{u:Value}(r:RelV (kV k) u):(qh P w).is k u=true:=by
 cases k with
 |inl i=>obtain⟨t,e⟩:=(show ∃ t,u=Value.int i t from r);subst e;exact zaY P w i t
 |inr x=>obtain⟨t,e⟩:=(show ∃ t,u=Value.str x t from r);subst e;exact QaU P w x t
theorem YaB{P:Program}{w:World}:∀{ks:List Key}{us:List Value},Vals (ks.map kV) us->ItemsAre (qh P w) ks us
 |[],_,r=>by rw[Uk] at r;cases r;exact .nil
 |k::ks,_,r=>by
  rw[Xb] at r;cases r with
  |cons h t=>exact .cons (kV_is h) (YaB t)
noncomputable abbrev KT(H:Hp):List (List Key×V)->List (List Key×Addr×Value)->Prop:=Paired λp q=>p.1=q.1/\H q.2.1=some (.tup (p.1.map kV))/\RelV p.2 q.2.2
theorem KT.val{H:Hp}{kvs:List (List Key×V)}{xs:List (List Key×Addr×Value)}(r:KT H kvs xs)(k:List Key):RelO (Za9 kvs k) ((atKey xs k).map (·.2)):=by
 induction r with
 |nil=>exact True.intro
 |@cons p q ps qs h t ih =>
  obtain⟨h1,_,h2⟩:=h;by_cases e:p.1=k
  ·have e':q.1=k:=h1.symm.trans e;have b:atKey (q::qs) k=some q.2:=by simp[atKey,uv,e']
   rw[yaQ e,b];exact h2
  ·have e':¬ q.1=k:=λz=>e (h1.trans z);have b:atKey (q::qs) k=atKey qs k:=by simp[atKey,uv,e']
   rw[ZaX e,b];exact ih
theorem KT.repl{H:Hp}{kvs:List (List Key×V)}{xs:List (List Key×Addr×Value)}(r:KT H kvs xs)(k:List Key){y:V}{u:Value}(ry:RelV y u) :
  KT H (kvs.map λkv=>if kv.1=k then(kv.1,y) else kv) (xs.map (putAt k u)):=by
 induction r with
 |nil=>exact .nil
 |@cons p q ps qs h t ih =>
  rw[Xb,Xb];refine .cons ?_ ih;obtain⟨h1,h2,h3⟩:=h;unfold putAt;by_cases e:p.1=k
  ·rw[if_pos e,if_pos (h1.symm.trans e)];exact⟨h1,h2,ry⟩
  ·rw[if_neg e,if_neg (λz=>e (h1.trans z))];exact⟨h1,h2,h3⟩
theorem KT.put{H:Hp}{kvs:List (List Key×V)}{xs:List (List Key×Addr×Value)}(r:KT H kvs xs)(k:List Key){b:Addr}{y:V}{u:Value}(hb:H b=some (.tup (k.map kV)))(ry:RelV y u) :
  KT H (yam kvs k y) (storedH xs k b u):=by
 have e:(kvs.any λkv=>decide (kv.1=k))=(atKey xs k).isSome:=by
  rw[zaS,(r.val k).isSome_eq,Option.isSome_map]
 unfold yam storedH;rw[e];by_cases q:(atKey xs k).isSome=true
 ·rw[if_pos q,if_pos q];exact r.repl k ry
 ·rw[if_neg q,if_neg q];exact Paired.snoc r ⟨rfl,hb,ry⟩
theorem KT.keeps{H H':Hp}{kvs:List (List Key×V)}{xs:List (List Key×Addr×Value)}(r:KT H kvs xs)(ht:∀ b ys,H b=some (.tup ys)->H' b=some (.tup ys)):KT H' kvs xs :=
 Paired.mapP r λ_ _ z=>⟨z.1,ht _ _ z.2.1,z.2.2⟩
section
variable {P:Program} {w:World} {H:Hp} {h:Heap} {a:Addr}
theorem Zb9{u:HO}(ok:HOk P w H h)(e:Rd H a u):ObjOk P w H h a u:=e.ok ok
theorem dk_rd{kvs:List (Key×V)}(ok:HOk P w H h)(e:Rd H a (.dK kvs)):kvs.length<=sizeLine/\(a==sysModules)=false/\∃ vs,KV kvs vs/\h.DictOf (qh P w) a vs :=
 show ObjOk P w H h a (.dK kvs) from Zb9 ok e
theorem zcf{ks:List Key}(ok:HOk P w H h)(e:H a=some (.tup (ks.map kV))):(tupleKind (qh P w)).is h ks a:=by
 obtain⟨_,its,r,o,h1,h2,n,h3⟩:=(show ObjOk P w H h a (.tup (ks.map kV)) from ok a _ e);exact⟨o,its.toArray,n,h1,h2,h3,by simpa using YaB r⟩
theorem Zbh{kvs:List (List Key×V)}(ok:HOk P w H h)(e:Rd H a (.dT kvs)):kvs.length<=sizeLine/\(a==sysModules)=false /\
  ∃ xs,KT H kvs xs/\h.DictOfH (tupleKind (qh P w)) a xs:=by
 obtain⟨z,y,xs,r,o,es,ep,h1,h2,h3,h4,h5⟩:=(show ObjOk P w H h a (.dT kvs) from Zb9 ok e);refine⟨z,y,xs,r,o,es,ep,h1,h2,h3,h4,λx hx=>?_,h5⟩;have all:∀{l:List (List Key×V)} {m:List (List Key×Addr×Value)},KT H l m->∀ x∈m,(tupleKind (qh P w)).is h x.1 x.2.1:=by
  intro l m q
  induction q with
  |nil=>intro x hx;exact nomatch hx
  |@cons p q ps qs hq t ih =>
   intro x hx
   rcases ua.mp hx with e|hx
   ·subst e;exact zcf ok (by rw[<- hq.1];exact hq.2.1)
   ·exact ih x hx
 exact all r x hx
theorem Zb7{kvs:List (List Key×V)}(ok:HOk P w H h)(e:H a=some (.dT kvs)):kvs.length<=sizeLine/\(a==sysModules)=false /\
  ∃ xs,KT H kvs xs/\h.DictOfH (tupleKind (qh P w)) a xs:=Zbh ok (.inl e)
end
section
variable {X:Cx} {pins:List (Addr×Obj)} {σ:St} {H:Hp} {s:Shared} {a:Addr} {y v:V} {u r:Value} {o:Option V} {A:Around} {E:Value->Shared->Prop}
theorem ybe{h':Heap}{t':Nat}{ob:HO}(I:Inv X pins σ H s)(mu:Mut (H a))(hs:Heap.SameBut a s.heap h')(he:∃ q,h'.get? a=some q)(new:ObjOk X.prog X.w (upd H a ob) h' a ob) :
  Inv X pins σ (upd H a ob) {s with heap:=h',toks:=t'} :=
 I.write (x:=a) (e:=a) mu (.inl rfl) (λb q hb z=>(hs.2 b hb).trans z) he new
end
structure M1 (X:Cx) (o:Expr) (m:Str) (apos:Pos) (e:Expr) (cpos:Pos):Prop where
 base:attributeBase o m X.env (eval o X.env)=eval o X.env
 few:((backTo cpos (starEach [e] X.env)).all (λx=>!x.1)&&(backToKw cpos (keywordEach [] X.env)).all (λx=>x.1.isSome)
  && decide (([e]:List Expr).length+([]:List Keyword).length+(if([]:List Keyword).isEmpty then 0 else 1)<30))=true
 line:(apos.endLine==cpos.line)=true
 trees:backTo cpos (starEach [e] X.env)=[(false,eval e X.env)]
noncomputable def IsD(H:Hp)(a:Addr):Prop:=(∃ kvs,Rd H a (.dK kvs))\/∃ kvs,Rd H a (.dT kvs)
theorem Ych{X:Cx}{pins:List (Addr×Obj)}{σ:St}{H:Hp}{s:Shared}{a:Addr}(I:Inv X pins σ H s)(d:IsD H a) :
  s.TypeIs (.ref a) "dict"/\(∀ b,Value.ref a=.ref b->∃ ob,s.heap.get? b=some ob/\ob.dict=none)/\(a==sysModules)=false:=by
 rcases d with ⟨kvs,e⟩|⟨kvs,e⟩
 ·obtain⟨_,hd,vs,_,dd⟩:=dk_rd I.hok e;refine⟨dd.typeIs,λb q=>?_,hd⟩;cases q;obtain⟨ob,_,_,h1,h2,_⟩:=dd;exact⟨ob,h1,h2.2.1⟩
 ·obtain⟨_,hd,xs,_,dd⟩:=Zbh I.hok e;refine⟨dd.typeIs,λb q=>?_,hd⟩;cases q;obtain⟨ob,_,_,h1,h2,_⟩:=dd;exact⟨ob,h1,h2.2.1⟩
end L2
end
section
namespace M3
open PySem
open Sem (wp)
noncomputable def Qd(env:Env):List (Str×NameKind)->List (Str×Addr)->List (Str×Addr)
 |[],cs=>cs
 |(n,k)::r,cs=>Qd env r (if(k == .free)=true then(n,(env.cells.lookup n).getD 0)::cs else cs)
theorem yao(env:Env):∀(names:List (Str×NameKind)) (cs:List (Str×Addr)),(∀ y∈names,y.2=.free->∃ c,env.cells.lookup y.1=some c) ->
  (forIn names cs λ(y:Str×NameKind)(r:List (Str×Addr))=>if(y.2 == .free)=true then do let c<-cellOf env y.1;pure (ForInStep.yield ((y.1,c)::r)) else pure (ForInStep.yield r):Sem (List (Str×Addr)))=pure (Qd env names cs)
 |[],cs,_=>rfl
 |(n,k)::r,cs,h=>by
  have ih:=λcs'=>yao env r cs' λy hy=>h y (uf _ hy);rw[Xz];by_cases hk:(k == .free)=true
  ·obtain⟨c,e⟩:=h (n,k) Wi (by simpa using hk);have e':cellOf env n=pure c:=by unfold cellOf;rw[e]
   show(if(k == .free)=true then _ else _) >>= _=_;rw[if_pos hk];show(cellOf env n >>= λc=>_) >>= _=_;rw[e'];show(forIn r ((n,c)::cs) _:Sem _)=_;rw[ih];show _=pure (Qd env r (if(k == .free)=true then(n,(env.cells.lookup n).getD 0)::cs else cs));rw[if_pos hk,e];rfl
  ·show(if(k == .free)=true then _ else _) >>= _=_;rw[if_neg hk];show(forIn r cs _:Sem _)=_;rw[ih];show _=pure (Qd env r (if(k == .free)=true then(n,(env.cells.lookup n).getD 0)::cs else cs));rw[if_neg hk]
theorem qW{env:Env}{scope:Scope}(h:∀ y∈scope.names,y.2=.free->∃ c,env.cells.lookup y.1=some c):closureFor scope env=pure (Qd env scope.names []):=by
 have q:=yao env scope.names [] h;unfold closureFor;have e:∀(t:Sem (List (Str×Addr))),t=pure (Qd env scope.names [])->(t >>= λr=>pure r)=pure (Qd env scope.names []):=λt z=>by rw[z];rfl
 refine e _ (Eq.trans ?_ q)
 congr 1
end M3
end
section
namespace M3
open PySem
open Sem (wp)
section
variable {prog:Program} {w:World} {A:Around} {R:Result->Shared->Prop} {s:Shared}
noncomputable abbrev zb9(ifs:List Expr)(env:Env):Sem Bool:=forIn ifs true λc r=>if r=true then do let ok<-isTrue c env (eval c env);pure (ForInStep.yield ok) else pure (ForInStep.yield r)
theorem zbk{elt target iter:Expr}{ifs:List Expr}{scope:Scope}{pos:Pos}{it acc:Value}{env:Env}(I:Nat->Shared->Prop)
  (turn:∀ n s,I n s->wpAny (model prog w) A (pyNext it) (λr s1=>match r with
   |none=>R (.ok .next) s1
   |some v=>wpAny (model prog w) A (letOwnedTupleGo target it v) (λ_ s2=>wpAny (model prog w) A (assign target env v) (λ_ s3 =>
     wpAny (model prog w) A (zb9 ifs env) (λok s4=>if ok=true then wpAny (model prog w) A (eval elt env) (λx s5 =>
       wpAny (model prog w) A (call (.builtin "list.append") [acc,x]) (λ_ s6=>∃ m,m<n/\I m s6) (λ_ _=>False) s5) (λ_ _=>False) s4
      else ∃ m,m<n/\I m s4) (λ_ _=>False) s3) (λ_ _=>False) s2) (λ_ _=>False) s1) (λ_ _=>False) s)
  (n:Nat) (h:I n s):codeAny (model prog w) A (.compLoop (.ListComp elt [⟨target,iter,ifs,0⟩] scope pos) 0 it acc env) R s:=by
 refine codeAny_loop rfl I (λn s hI=>?_) n h;show wpAny _ A ((compTurn (.ListComp elt [⟨target,iter,ifs,0⟩] scope pos) 0 it acc env).onRaise (λx=>do noteFrame x env;theTreesLotGoes x)) _ _ s;refine wpAny_noted ?_;rw[compTurn_list];refine wpAny_bind (wpAny_standAt (wpAny_bind (wpAny_mono (turn n s hI) (λr s1 h1=>?_) λ_ _ z=>z.elim)));cases r with
 |none=>exact wpAny_pure h1
 |some v =>
  refine wpAny_bind (wpAny_mono h1 (λ_ s2 h2=>?_) λ_ _ z=>z.elim);refine wpAny_bind (wpAny_mono h2 (λ_ s3 h3=>wpAny_bind (wpAny_mono h3 (λok s4 h4=>?_) λ_ _ z=>z.elim)) λ_ _ z=>z.elim);cases ok with
  |false=>exact wpAny_pure ⟨rfl,h4⟩
  |true =>
   refine wpAny_bind (wpAny_bind (wpAny_mono h4 (λx s5 h5=>?_) λ_ _ z=>z.elim));exact wpAny_bind (wpAny_mono h5 (λ_ s6 h6=>wpAny_pure (wpAny_pure ⟨rfl,h6⟩)) λ_ _ z=>z.elim)
end
noncomputable abbrev Yl(C t:Addr)(tb:Value):Obj:={cls:=.ref C,data:=.fields #[.ref t,tb,.none,.none,.bool false,.none]}
inductive Tb (h:Heap) (x:Addr):Value->Prop where
 |no:Tb h x .none
 |at {T:Addr} {o:Obj} {ts:Array Value} (ne:T≠x) (ho:h.get? T=some o) (hd:o.data=.fields ts) (h3:ts[3]?=some .none):Tb h x (.ref T)
structure Noted (fs:List Addr) (x:Addr) (tb:Value) (h h':Heap):Prop where
 keep:∀ b o,b∉fs->b≠x->Value.ref b≠tb->h.get? b=some o->h'.get? b=some o
 slot:∀ b o,b∈fs->b≠x->Value.ref b≠tb->h.get? b=some o->∃ sl,h'.get? b=some {o with slots:=sl}
section
variable {M:Model} {A:Around} {E:Value->Shared->Prop} {s:Shared}
theorem qK{base:Heap}{env:Env}{outer:List Env}{L x C t:Addr}{head tb0:Value}{had:Bool}{Q:Unit->Shared->Prop}
  (hfr:A.frames=some (env::outer)) (hl:s.heap.FunFrames base (env::outer)) (hf:env.frame=some L) (he:s.heap.get? x=some (Yl C t tb0))
  (h:∀ h' T,(∀ b o,b∉(env::outer).filterMap (·.frame)->b≠x->s.heap.get? b=some o->h'.get? b=some o) ->
   (∀ b o,b∈(env::outer).filterMap (·.frame)->s.heap.get? b=some o->∃ sl,h'.get? b=some {o with slots:=sl}) ->
   h'.get? x=some (Yl C t (.ref T))->Tb h' x (.ref T)->s.heap.objs.size<=T->Q () {s with heap:=h'}) :
  wpAny M A (do let a<-frameOf env;let pl<-entryPlaceOf L had;let b<-EntryCells.newEntry head a .none (rawInt L) .none pl;setField (.ref x) 1 b) (λ_ s'=>wpAny M A (setFlight (.ref x) none) Q E s') E s:=by
 have hx:x∉(env::outer).filterMap (·.frame):=λhm=>by
  obtain⟨_,o,ho,nf⟩:=hl.mem hm;rw[he] at ho;cases ho;exact nf _ rfl
 refine wpAny_bind (wpAny_frameOf_fun hfr hl hf λh1 k1=>?_);refine wpAny_bind (wpAny_entryPlaceOf λpl hpl=>?_);unfold EntryCells.newEntry newFields;refine wpAny_bind (wpAny_newObj_type ?_ (hpl.sizeOk5 _ _ _ _ _));generalize hcells:([head,Value.ref L,Value.none,rawInt L,Value.none]++(if pl.isEmpty=true then Wb 6 Value.none else pl))=cells;have len:3<cells.length:=by rw[<- hcells];simp only[Vf,Xd,Vl];lia
 have e1:h1.get? x=some (Yl C t tb0):=(k1.2.1 x hx).trans he;have e2:=wa {cls:=.type "traceback",dict:=none,data:=.fields cells.toArray} e1;have neT:x≠h1.objs.size:=vc (wb e1);refine wpAny_setField e2 rfl (by simp) ?_;have e3:=wj (Obj.mapFields (·.setIfInBounds 1 (Value.ref h1.objs.size))) e2 (Obj.isFreed_of_fields (Obj.data_mapFields rfl _));have e4:((h1.push {cls:=.type "traceback",dict:=none,data:=.fields cells.toArray}).update x (Obj.mapFields (·.setIfInBounds 1 (Value.ref h1.objs.size)))).get? h1.objs.size=some {cls:=.type "traceback",dict:=none,data:=.fields cells.toArray} :=
  (Uh _ _ neT).trans (ub h1 rfl)
 unfold setFlight;refine wpAny_bind (wpAny_field e3 (vs:=#[.ref t,.ref h1.objs.size,.none,.none,.bool false,.none]) (x:=.ref h1.objs.size) rfl rfl ?_);rw[if_pos (show(Value.ref h1.objs.size != Value.none)=true from by simp)];refine wpAny_setField e4 rfl (by simpa using len) ?_;have e5:=wj (Obj.mapFields (·.setIfInBounds 3 ((none:Option Addr).elim Value.none λf=>rawInt f))) e4 (Obj.isFreed_of_fields (Obj.data_mapFields rfl _));have sz:h1.objs.size=s.heap.objs.size:=k1.1;have other:∀ b o,b≠x->h1.get? b=some o->(((h1.push {cls:=.type "traceback",dict:=none,data:=.fields cells.toArray}).update x (Obj.mapFields (·.setIfInBounds 1 (Value.ref h1.objs.size)))).update h1.objs.size (Obj.mapFields (·.setIfInBounds 3 ((none:Option Addr).elim Value.none λf=>rawInt f)))).get? b=some o:=λb o nb eb=>by
  rw[Uh _ _ (Ul (wb eb)),Uh _ _ (Ne.symm nb)];exact wa _ eb
 refine h _ h1.objs.size (λb o hb nb eb=>other b o nb ((k1.2.1 b hb).trans eb)) (λb o hb eb=>?_) ?_ (.at (Ne.symm neT) e5 (Obj.data_mapFields rfl _) ?_) (Xo sz.symm)
 ·obtain⟨sl,q⟩:=k1.2.2 b o eb;exact⟨sl,other b _ (λz=>hx (z ▸ hb)) q⟩
 ·rw[Uh _ _ (Ne.symm neT)];exact e3
 ·simp[Array.getElem?_setIfInBounds,len]
theorem ybm{base:Heap}{env:Env}{outer:List Env}{L x C t:Addr}{tb:Value}{Q:Unit->Shared->Prop}
  (hfr:A.frames=some (env::outer)) (hl:s.heap.FunFrames base (env::outer)) (hf:env.frame=some L) (he:s.heap.get? x=some (Yl C t tb)) (ht:Tb s.heap x tb)
  (h:∀ h' T,Noted ((env::outer).filterMap (·.frame)) x tb s.heap h'->h'.get? x=some (Yl C t (.ref T))->Tb h' x (.ref T)->s.heap.objs.size<=T->Q () {s with heap:=h'}) :
  wpAny M A (leaving env (.ref x)) Q E s:=by
 unfold leaving noteFrame;simp only[hf];refine wpAny_bind (wpAny_bind (wpAny_field he rfl (x:=tb) rfl ?_));cases ht with
 |no =>
  rw[if_neg (by decide)];exact qK hfr hl hf he λh' T k1 k2 e1 e2 e3=>h h' T ⟨λb o hb nb _ eb=>k1 b o hb nb eb,λb o hb _ _ eb=>k2 b o hb eb⟩ e1 e2 e3
 |@«at» T o ts ne ho hd h3 =>
  rw[if_pos (show(Value.ref T != Value.none)=true from by simp)];refine wpAny_bind (wpAny_field ho hd h3 ?_);rw[if_neg (show ¬((Value.none==rawInt L)=true) from by simp[rawInt])];refine wpAny_bind (wpAny_setField ho hd (Vr.mp h3).1 ?_);have other:∀ b,b≠T->(s.heap.update T (Obj.mapFields (·.setIfInBounds 3 Value.none))).get? b=s.heap.get? b:=λb nb=>Uh _ _ (Ne.symm nb);have nrec:∀ b o,s.heap.get? b=some o->(∀ vs,o.data≠.fields vs)->b≠T:=λb o eb nf z=>by
   rw[z,ho] at eb;cases eb;exact nf ts hd
  refine qK (s:={s with heap:=s.heap.update T (Obj.mapFields (·.setIfInBounds 3 Value.none))}) hfr (hl.of_keeps λb o eb nf=>⟨o,(other b (nrec b o eb nf)).trans eb,rfl⟩) hf ((other x (Ne.symm ne)).trans he)
   λh' T' k1 k2 e1 e2 e3=>h h' T' ⟨λb o hb nb nt eb=>k1 b o hb nb ((other b λz=>nt (z ▸ rfl)).trans eb),λb o hb _ nt eb=>k2 b o hb ((other b λz=>nt (z ▸ rfl)).trans eb)⟩ e1 e2 ?_
  have e3':(s.heap.update T (Obj.mapFields (·.setIfInBounds 3 Value.none))).objs.size<=T':=e3;rw[Uz] at e3';exact e3'
end
end M3
end
section
namespace M3
open PySem
open Sem (wp)
theorem yav:entryFor table "proto.unchain"=some Builtin.«proto.unchain»:=entryFor_of_fast (by kernel_rfl)
section
variable {prog:Program} {w:World} {A:Around} {E:Value->Shared->Prop} {s:Shared}
theorem qat{α:Type}{e h:Addr}{oh oe:Obj}{vs es:Array Value}{Q:α->Shared->Prop}(hh:A.handled=some (.ref h))(ne:h≠e)(h1:s.heap.get? h=some oh)(h2:oh.data=.fields vs)(h3:vs[2]?=some .none)
  (e1:s.heap.get? e=some oe) (e2:oe.data=.fields es) (e3:2<es.size) (hE:E (.ref e) {s with heap:=s.heap.update e (Obj.mapFields (·.setIfInBounds 2 (.ref h)))}) :
  wpAny (model prog w) A (raiseNew (.ref e):Sem α) Q E s:=by
 unfold raiseNew;refine wpAny_bind (wpAny_handled ?_);rw[hh];have hne:(Value.ref h != Value.ref e)=true:=by
  simp only[bne_iff_ne,ne_eq,Value.ref.injEq];exact ne
 show wpAny _ _ (if(Value.ref h != Value.ref e)=true then _ else _) _ _ s;rw[if_pos hne];refine wpAny_bind ((wpAny_holding (wpAny_runValue (codeAny_builtin yav ?_))));show wpAny _ _ (field (.ref h) 2 >>= _) _ _ s;refine wpAny_bind (wpAny_field h1 h2 h3 ?_);show wpAny _ _ (if(Value.none==Value.none)=true then _ else _) _ _ s;rw[if_pos (by decide)];refine wpAny_bind (wpAny_pure (wpAny_pure ?_));refine wpAny_bind ?_;show wpAny _ _ (setField (.ref e) 2 (.ref h)) _ _ s;refine wpAny_setField e1 e2 e3 ?_;exact wpAny_throw hE
theorem zap{r h:Addr}{a m k:Int}{oh:Obj}{vs:Array Value}{Q:Option Value->Shared->Prop}(hh:A.handled=some (.ref h))(h1:s.heap.get? h=some oh)(h2:oh.data=.fields vs)(h3:vs[2]?=some .none)
  (ri:IsRangeIter s.heap r a m k) (lo:m<=0) (hQ:∀ h',(∀ b o,s.heap.get? b=some o->h'.get? b=some o)->Q none {s with heap:=h'}):wpAny (model prog w) A (pyNext (.ref r)) Q E s:=by
 have ty:s.TypeIs (.ref r) "range_iterator":=⟨_,ri,rfl⟩;have n1:h≠(s.heap.push {cls:=.type "tuple",data:=.seq ([]:List Value).toArray}).objs.size:=by rw[xg];exact vc (Xm (wb h1))
 have q0:∀(i:Nat)(v:Value)(B:Around)(F:Value->Shared->Prop)(P:Value->Shared->Prop),#[rawInt a,rawInt m,rawInt k][i]?=some v->P v s->wpAny (model prog w) B (field (.ref r) i) P F s:=λi v B F P e p=>wpAny_field ri rfl e p;unfold pyNext;apply wpAny_bind;apply wpAny_attempt;apply wpAny_callSpecial?_slot (name:=Str.ofString "__next__") ty F.slot_range_iterator_next;refine wpAny_call_entry F.slot_range_iterator_next ty F.entry_range_iterator_next ?_ (F.args_range_iterator_next_1 _);show wpAny _ _ (field (.ref r) 0 >>= _) _ _ s;apply wpAny_bind;apply q0 0 (rawInt a) _ _ _ rfl;show wpAny _ _ (field (.ref r) 1 >>= _) _ _ s;apply wpAny_bind;apply q0 1 (rawInt m) _ _ _ rfl;show wpAny _ _ (field (.ref r) 2 >>= _) _ _ s;apply wpAny_bind;apply q0 2 (rawInt k) _ _ _ rfl;show wpAny _ _ (if m<=0 then _ else _) _ _ s;rw[if_pos lo];apply wpAny_bind;apply wpAny_rule;apply wpAny_bind;show wpAny _ _ (newExc (.type "StopIteration") [] >>= _) _ _ _;apply wpAny_bind;simp only[newExc,newTuple];apply wpAny_bind;refine wpAny_newObj_type ?_ (by size_fits);refine wpAny_bind (m:=firstArgMember _ _) (wpAny_of_eq (a:=Value.none) (by first|rfl|(unfold firstArgMember;rfl)) (wpAny_newObj_type ?_ (by size_fits)));refine qat (by first|exact hh|(show A.in1.handled=_;exact hh)) n1 (wa _ (wa _ h1)) h2 h3 (ub _ rfl) rfl (by simp;lia) ?_;apply wpAny_bind;refine wpAny_isInstance (T:="StopIteration") (b:=true) ⟨_,wj _ (ub _ rfl) (Obj.isFreed_of_fields (Obj.data_mapFields rfl _)),rfl⟩ isSubtype_stop (wpAny_pure (hQ _ λb o eb=>?_));have lt:b<(s.heap.push {cls:=.type "tuple",data:=.seq ([]:List Value).toArray}).objs.size:=by rw[xg];exact Xm (wb eb)
 exact(Uh _ _ (Ul lt)).trans (wa _ (wa _ eb))
end
end M3
end
section
namespace M3
open PySem
open Sem (wp)
section
variable {prog:Program} {w:World} {A:Around} {E:Value->Shared->Prop} {s:Shared}
theorem Y3{r l:Addr}{i:Nat}{items:Array Value}{x:Value}{Q:Value->Shared->Prop}(ri:s.heap.IsTupleIter r l i)(hl:s.heap.IsTuple l items)(hx:items[i]?=some x)
  (hQ:∀ h',h'.IsTupleIter r l (i+1)->Heap.SameBut r s.heap h'->Q x {s with heap:=h'}):wpAny (model prog w) A (Builtin.SmallTypes.nextOf (.ref r)) Q E s:=by
 obtain⟨o,ho,hc,hd⟩:=id ri;obtain⟨ol,hol,_,nl,hdl⟩:=hl;unfold Builtin.SmallTypes.nextOf;apply wpAny_bind;refine wpAny_callSpecial?_slot (name:=Str.ofString "__next__") ri.typeIs F.slot_tuple_iterator_next (wpAny_call_entry F.slot_tuple_iterator_next ri.typeIs F.entry_tuple_iterator_next ?_ (F.args_tuple_iterator_next_1 _));show wpAny _ _ (field (.ref r) 0 >>= _) _ _ s;apply wpAny_bind;apply wpAny_field ho hd (x:=.ref l) rfl;show wpAny _ _ (if(Value.ref l==Value.none)=true then _ else _) _ _ s;rw[if_neg (λz:(Value.ref l==Value.none)=true=>absurd z Ud)];show wpAny _ _ (field (.ref r) 1 >>= _) _ _ s;apply wpAny_bind;apply wpAny_field ho hd (x:=.int i 0) rfl;show wpAny _ _ (seqItems? (.ref l) >>= _) _ _ s;apply wpAny_bind;apply wpAny_seqItems hol hdl;simp only[wo,hx];apply wpAny_bind;refine wpAny_setField ho hd (by simp) (wpAny_pure ⟨x,rfl,wpAny_pure (hQ _ ⟨_,wj _ ho (Obj.isFreed_of_fields (Obj.data_mapFields hd _)),(Obj.cls_mapFields ..).trans hc,?_⟩ (Heap.SameBut.update ..))⟩);rw[Obj.data_mapFields hd];simp[rawInt]
theorem Q7{r l:Addr}{i:Nat}{items:Array Value}{Q:Value->Shared->Prop}(hh:A.handled=none)(ri:s.heap.IsTupleIter r l i)(hl:s.heap.IsTuple l items)(hx:items[i]?=none)
  (hE:∀ h' e,Heap.ExtBut r s.heap h'->(∃ o,h'.get? e=some o/\o.cls=.type "StopIteration")->E (.ref e) {s with heap:=h'}):wpAny (model prog w) A (Builtin.SmallTypes.nextOf (.ref r)) Q E s:=by
 obtain⟨o,ho,hc,hd⟩:=id ri;obtain⟨ol,hol,_,nl,hdl⟩:=hl;unfold Builtin.SmallTypes.nextOf;apply wpAny_bind;refine wpAny_callSpecial?_slot (name:=Str.ofString "__next__") ri.typeIs F.slot_tuple_iterator_next (wpAny_call_entry F.slot_tuple_iterator_next ri.typeIs F.entry_tuple_iterator_next ?_ (F.args_tuple_iterator_next_1 _));show wpAny _ _ (field (.ref r) 0 >>= _) _ _ s;apply wpAny_bind;apply wpAny_field ho hd (x:=.ref l) rfl;show wpAny _ _ (if(Value.ref l==Value.none)=true then _ else _) _ _ s;rw[if_neg (λz:(Value.ref l==Value.none)=true=>absurd z Ud)];show wpAny _ _ (field (.ref r) 1 >>= _) _ _ s;apply wpAny_bind;apply wpAny_field ho hd (x:=.int i 0) rfl;show wpAny _ _ (seqItems? (.ref l) >>= _) _ _ s;apply wpAny_bind;apply wpAny_seqItems hol hdl;simp only[wo,hx];apply wpAny_bind;apply wpAny_rule;apply wpAny_bind;refine wpAny_setField ho hd (by simp) ?_;show wpAny _ _ (newExc (.type "StopIteration") [] >>= _) _ _ _;apply wpAny_bind;simp only[newExc,newTuple];apply wpAny_bind;refine wpAny_newObj_type ?_ (by size_fits);refine wpAny_bind (m:=firstArgMember _ _) (wpAny_of_eq (a:=Value.none) (by first|rfl|(unfold firstArgMember;rfl)) (wpAny_newObj_type ?_ (by size_fits)));refine wpAny_raiseNew_none (by first|exact hh|(show A.in1.handled=_;exact hh)) (hE _ _ ((((Heap.SameBut.update ..).extBut).push _).push _) ⟨_,ub _ rfl,rfl⟩)
theorem za4(hh:A.handled=none)(r l:Addr)(hne:l≠r)(items:Array Value) :
  Draws prog w A r [r,l] items.size (λi v=>items[i]?=some v) (λi h=>h.IsTupleIter r l i/\h.IsTuple l items) where
 live:=λ_ _ st=>let ⟨o,ho,_⟩:=st.1;⟨o,ho⟩
 frame:=λ_ _ _ st hk=>let ⟨⟨o,e,c⟩,⟨u,f,d⟩⟩:=st;⟨⟨o,hk r (by simp) o e,c⟩,⟨u,hk l (by simp) u f,d⟩⟩
 item:=λi s Q E hi st hQ=>Y3 st.1 st.2 (x:=items[i]) (by simp[hi]) λh' a b=>hQ _ h' s.toks (by simp[hi]) ⟨a,let ⟨u,f,d⟩:=st.2;⟨u,b.extBut l u hne f,d⟩⟩ b
 done:=λs Q E st hE=>Q7 hh st.1 st.2 (by simp) hE
structure ZAp (z TI TO i1 i2:Addr) (fp1 fp2:List Addr):Prop where
 tiz:TI≠z
 toz:TO≠z
 tito:TI≠TO
 ti1:TI≠i1
 ti2:TI≠i2
 z1:z∉fp1
 z2:z∉fp2
 t1:TO∉fp1
 t2:TO∉fp2
 m1:i1∈fp1
 m2:i2∈fp2
 a1:i1∉fp2
 a2:i2∉fp1
variable {z TI TO i1 i2:Addr} {fp1 fp2:List Addr} {n1 n2 k:Nat} {P1 P2:Nat->Value->Prop} {S1 S2:Nat->Heap->Prop} {a b:Value}
theorem Ybj{Q:Value->Shared->Prop}(Z:ZAp z TI TO i1 i2 fp1 fp2)(D1:Draws prog w A i1 fp1 n1 P1 S1)(D2:Draws prog w A i2 fp2 n2 P2 S2)(hz:IsZip s.heap z TI TO .none)(hI:IsPair s.heap TI (.ref i1) (.ref i2))(hO:IsPair s.heap TO a b)
  (s1:S1 k s.heap) (s2:S2 k s.heap) (k1:k<n1) (k2:k<n2)
  (hQ:∀ x y h' tk,P1 k x->P2 k y->IsZip h' z TI TO (rawInt s.heap.objs.size)->IsPair h' TO x y->S1 (k+1) h'->S2 (k+1) h'->IsPair h' s.heap.objs.size x y->h'.objs.size=s.heap.objs.size+1 ->
   (∀ c o,c≠z->c≠TO->c≠i1->c≠i2->s.heap.get? c=some o->h'.get? c=some o)->Q (.ref s.heap.objs.size) {s with heap:=h',toks:=tk}) :
  wpAny (model prog w) A (Builtin.«zip.__next__» ⟨[.ref z],[]⟩) (λfin s'=>∃ v,fin=.done (.ret v)/\Q v s') E s:=by
 have iz1:i1≠z:=λe=>Z.z1 (e ▸ Z.m1);have iz2:i2≠z:=λe=>Z.z2 (e ▸ Z.m2);have it1:i1≠TO:=λe=>Z.t1 (e ▸ Z.m1);have it2:i2≠TO:=λe=>Z.t2 (e ▸ Z.m2);have i12:i1≠i2:=λe=>Z.a1 (e ▸ Z.m2);show wpAny _ _ (field (.ref z) 2 >>= _) _ _ _;apply wpAny_bind;apply wpAny_field hz rfl (x:=.bool false) rfl;show wpAny _ _ (field (.ref z) 3 >>= _) _ _ _;apply wpAny_bind;apply wpAny_field hz rfl (x:=.ref TI) rfl;apply wpAny_bind;apply wpAny_seqItems hI rfl;show wpAny _ _ (Builtin.SmallTypes.ownedTupleIsFree (.ref z) >>= _) _ _ _;apply wpAny_bind;unfold Builtin.SmallTypes.ownedTupleIsFree;apply wpAny_bind;apply wpAny_field hz rfl (x:=.none) rfl;apply wpAny_pure;simp only[if_true];apply wpAny_bind;apply wpAny_rule;apply wpAny_bind;apply wpAny_field hz rfl (x:=.ref TO) rfl;apply wpAny_bind;refine wpAny_setField_rec hz (by simp) λh1 y1 g1=>?_;replace y1:IsZip h1 z TI TO .ellipsis:=y1;apply wpAny_bind;simp only[vD,List.zipIdx_nil,Xz,xA];apply wpAny_bind;apply wpAny_bind;apply wpAny_onRaise;show wpAny _ _ (Builtin.SmallTypes.nextOf (.ref i1) >>= _) _ _ _;apply wpAny_bind;refine D1.item k _ _ _ k1 (D1.frame _ _ _ s1 λc hc o e=>g1.extBut c o (λq=>Z.z1 (q ▸ hc)) e) λx h2 t2 px q2 g2=>wpAny_pure ?_;have o2:IsPair h2 TO a b:=g2.extBut _ _ (Ne.symm it1) (g1.extBut _ _ Z.toz hO);apply wpAny_bind;apply wpAny_seqItems o2 rfl;apply wpAny_bind;refine wpAny_updateSeq_pair o2 λh3 o3 g3=>wpAny_bind (wpAny_letGo (wpAny_pure ?_));replace o3:IsPair h3 TO x b:=o3;apply wpAny_bind;apply wpAny_bind;apply wpAny_onRaise;show wpAny _ _ (Builtin.SmallTypes.nextOf (.ref i2) >>= _) _ _ _;apply wpAny_bind;refine D2.item k _ _ _ k2 (D2.frame _ _ _ s2 λc hc o e=>g3.extBut c o (λq=>Z.t2 (q ▸ hc)) (g2.extBut c o (λq=>Z.a1 (q ▸ hc)) (g1.extBut c o (λq=>Z.z2 (q ▸ hc)) e))) λy h4 t4 py q4 g4=>wpAny_pure ?_;have o4:IsPair h4 TO x b:=g4.extBut _ _ (Ne.symm it2) o3;apply wpAny_bind;apply wpAny_seqItems o4 rfl;apply wpAny_bind;refine wpAny_updateSeq_pair o4 λh5 o5 g5=>wpAny_bind (wpAny_letGo (wpAny_pure (wpAny_pure ?_)));replace o5:IsPair h5 TO x y:=o5;apply wpAny_bind;apply wpAny_seqItems o5 rfl;apply wpAny_bind;refine wpAny_newTuple ?_;have sz:h5.objs.size=s.heap.objs.size:=by rw[g5.1,g4.1,g3.1,g2.1,g1.1]
 have y5:IsZip h5 z TI TO .ellipsis:=g5.extBut _ _ (Ne.symm Z.toz) (g4.extBut _ _ (Ne.symm iz2) (g3.extBut _ _ (Ne.symm Z.toz) (g2.extBut _ _ (Ne.symm iz1) y1)));have c5:∀ c o,c≠z->c≠TO->c≠i1->c≠i2->s.heap.get? c=some o->h5.get? c=some o:=λc o c1 c2 c3 c4 e=>g5.extBut _ _ c2 (g4.extBut _ _ c4 (g3.extBut _ _ c2 (g2.extBut _ _ c3 (g1.extBut _ _ c1 e))));have r1:S1 (k+1) h5:=D1.frame _ _ _ q2 λc hc o e=>g5.extBut c o (λq=>Z.t1 (q ▸ hc)) (g4.extBut c o (λq=>Z.a2 (q ▸ hc)) (g3.extBut c o (λq=>Z.t1 (q ▸ hc)) e));have r2:S2 (k+1) h5:=D2.frame _ _ _ q4 λc hc o e=>g5.extBut c o (λq=>Z.t2 (q ▸ hc)) e;have lz:z<h5.objs.size:=wb y5;show wpAny _ _ (Builtin.SmallTypes.ownedTupleHandOut (.ref z) (.ref h5.objs.size) >>= _) _ _ _;apply wpAny_bind;unfold Builtin.SmallTypes.ownedTupleHandOut;have y6:IsZip (h5.push {cls:=.type "tuple",data:=.seq #[x,y]}) z TI TO .ellipsis:=wa _ y5;apply wpAny_bind;refine wpAny_setField_rec y6 (by simp) λh7 y7 g7=>?_;replace y7:IsZip h7 z TI TO (rawInt h5.objs.size):=y7;refine wpAny_setField_rec y7 (by simp) λh8 y8 g8=>?_;replace y8:IsZip h8 z TI TO (rawInt h5.objs.size):=y8;have up:∀ c o,c≠z->h5.get? c=some o->h8.get? c=some o:=λc o c1 e=>g8.extBut _ _ c1 (g7.extBut _ _ c1 (wa _ e));have p8:IsPair h8 h5.objs.size x y:=g8.extBut _ _ (Ul lz) (g7.extBut _ _ (Ul lz) (ub _ rfl));have n8:h8.objs.size=h5.objs.size+1:=by rw[g8.1,g7.1,xg]
 rw[sz] at y8 p8 n8;refine wpAny_pure ⟨_,rfl,?_⟩;show Q (.ref h5.objs.size) _;rw[sz];exact hQ x y h8 t4 px py y8 (up _ _ Z.toz o5) (D1.frame _ _ _ r1 λc hc o e=>up c o (λq=>Z.z1 (q ▸ hc)) e) (D2.frame _ _ _ r2 λc hc o e=>up c o (λq=>Z.z2 (q ▸ hc)) e) p8 n8 λc o c1 c2 c3 c4 e=>up c o c1 (c5 c o c1 c2 c3 c4 e)
theorem qbJ{Q:Fin->Shared->Prop}(Z:ZAp z TI TO i1 i2 fp1 fp2)(D1:Draws prog w A i1 fp1 n1 P1 S1)(D2:Draws prog w A i2 fp2 n2 P2 S2)(hz:IsZip s.heap z TI TO .none)(hI:IsPair s.heap TI (.ref i1) (.ref i2))(hO:IsPair s.heap TO a b)
  (s1:S1 k s.heap) (s2:S2 k s.heap) (hk:k=n1\/(k<n1/\k=n2))
  (hE:∀ h' e,(∀ c o,c≠z->c≠TO->c≠i1->c≠i2->s.heap.get? c=some o->h'.get? c=some o)->(∃ o,h'.get? e=some o/\o.cls=.type "StopIteration")->∀ tk,E (.ref e) {s with heap:=h',toks:=tk}) :
  wpAny (model prog w) A (Builtin.«zip.__next__» ⟨[.ref z],[]⟩) Q E s:=by
 have iz1:i1≠z:=λe=>Z.z1 (e ▸ Z.m1);have iz2:i2≠z:=λe=>Z.z2 (e ▸ Z.m2);have it1:i1≠TO:=λe=>Z.t1 (e ▸ Z.m1);have it2:i2≠TO:=λe=>Z.t2 (e ▸ Z.m2);show wpAny _ _ (field (.ref z) 2 >>= _) _ _ _;apply wpAny_bind;apply wpAny_field hz rfl (x:=.bool false) rfl;show wpAny _ _ (field (.ref z) 3 >>= _) _ _ _;apply wpAny_bind;apply wpAny_field hz rfl (x:=.ref TI) rfl;apply wpAny_bind;apply wpAny_seqItems hI rfl;show wpAny _ _ (Builtin.SmallTypes.ownedTupleIsFree (.ref z) >>= _) _ _ _;apply wpAny_bind;unfold Builtin.SmallTypes.ownedTupleIsFree;apply wpAny_bind;apply wpAny_field hz rfl (x:=.none) rfl;apply wpAny_pure;simp only[if_true];apply wpAny_bind;apply wpAny_rule;apply wpAny_bind;apply wpAny_field hz rfl (x:=.ref TO) rfl;apply wpAny_bind;refine wpAny_setField_rec hz (by simp) λh1 y1 g1=>?_;replace y1:IsZip h1 z TI TO .ellipsis:=y1;apply wpAny_bind;simp only[vD,List.zipIdx_nil,Xz,xA];apply wpAny_bind;apply wpAny_bind;apply wpAny_onRaise;show wpAny _ _ (Builtin.SmallTypes.nextOf (.ref i1) >>= _) _ _ _;apply wpAny_bind;have f1:S1 k h1:=D1.frame _ _ _ s1 λc hc o e=>g1.extBut c o (λq=>Z.z1 (q ▸ hc)) e
 rcases hk with hk|⟨k1,hk⟩
 ·refine D1.done _ _ _ (hk ▸ f1) λh2 e g2 he=>?_;obtain⟨oe,e1,e2⟩:=he;have y2:IsZip h2 z TI TO .ellipsis:=g2 _ _ (Ne.symm iz1) y1;have ez:e≠z:=λq=>by subst q;rw[y2] at e1;cases e1;simp at e2
  exact wpAny_setField_rec y2 (by simp) λh3 _ g3=>hE h3 e (λc o c1 _ c3 _ q=>g3.extBut _ _ c1 (g2 _ _ c3 (g1.extBut _ _ c1 q))) ⟨oe,g3.extBut _ _ ez e1,e2⟩ _
 ·refine D1.item k _ _ _ k1 f1 λx h2 t2 px q2 g2=>wpAny_pure ?_;have o2:IsPair h2 TO a b:=g2.extBut _ _ (Ne.symm it1) (g1.extBut _ _ Z.toz hO);apply wpAny_bind;apply wpAny_seqItems o2 rfl;apply wpAny_bind;refine wpAny_updateSeq_pair o2 λh3 o3 g3=>wpAny_bind (wpAny_letGo (wpAny_pure ?_));apply wpAny_bind;apply wpAny_bind;apply wpAny_onRaise;show wpAny _ _ (Builtin.SmallTypes.nextOf (.ref i2) >>= _) _ _ _;apply wpAny_bind;have f2:S2 k h3:=D2.frame _ _ _ s2 λc hc o e=>g3.extBut c o (λq=>Z.t2 (q ▸ hc)) (g2.extBut c o (λq=>Z.a1 (q ▸ hc)) (g1.extBut c o (λq=>Z.z2 (q ▸ hc)) e));refine D2.done _ _ _ (hk ▸ f2) λh4 e g4 he=>?_;obtain⟨oe,e1,e2⟩:=he;have y4:IsZip h4 z TI TO .ellipsis:=g4 _ _ (Ne.symm iz2) (g3.extBut _ _ (Ne.symm Z.toz) (g2.extBut _ _ (Ne.symm iz1) y1));have ez:e≠z:=λq=>by subst q;rw[y4] at e1;cases e1;simp at e2
  exact wpAny_setField_rec y4 (by simp) λh5 _ g5=>hE h5 e (λc o c1 c2 c3 c4 q=>g5.extBut _ _ c1 (g4 _ _ c4 (g3.extBut _ _ c2 (g2.extBut _ _ c3 (g1.extBut _ _ c1 q))))) ⟨oe,g5.extBut _ _ ez e1,e2⟩ _
end
end M3
end
section
namespace M3
open PySem
open Sem (wp)
noncomputable def SeqIs(h:Heap)(tup:Bool)(l:Addr)(xs:Array Value):Prop:=if tup=true then h.IsTuple l xs else h.IsList l xs
noncomputable def SeqIt(h:Heap)(tup:Bool)(r l:Addr)(k:Nat):Prop:=if tup=true then h.IsTupleIter r l k else h.IsListIter r l k
noncomputable abbrev itO(tup:Bool)(l:Addr):Obj:={cls:=.type (if tup=true then "tuple_iterator" else "list_iterator"),data:=.fields #[.ref l,.int 0 0]}
theorem SeqIs.keeps{h h':Heap}{tup:Bool}{l:Addr}{xs:Array Value}(x:SeqIs h tup l xs)(k:∀ o,h.get? l=some o->h'.get? l=some o):SeqIs h' tup l xs:=by
 cases tup with
 |true=>obtain⟨o,e,c⟩:=(show h.IsTuple l xs from x);exact(show h'.IsTuple l xs from⟨o,k o e,c⟩)
 |false=>exact(show h'.IsList l xs from Heap.IsList.at (show h.IsList l xs from x) k)
theorem SeqIs.lt{h:Heap}{tup:Bool}{l:Addr}{xs:Array Value}(x:SeqIs h tup l xs):l<h.objs.size:=by
 cases tup with
 |true=>obtain⟨o,e,c⟩:=(show h.IsTuple l xs from x);exact wb e
 |false=>obtain⟨o,e,c⟩:=(show h.IsList l xs from x);exact wb e
theorem SeqIt.keeps{h h':Heap}{tup:Bool}{r l:Addr}{k:Nat}(x:SeqIt h tup r l k)(q:∀ o,h.get? r=some o->h'.get? r=some o):SeqIt h' tup r l k:=by
 cases tup with
 |true=>obtain⟨o,e,c⟩:=(show h.IsTupleIter r l k from x);exact(show h'.IsTupleIter r l k from⟨o,q o e,c⟩)
 |false=>obtain⟨o,e,c⟩:=(show h.IsListIter r l k from x);exact(show h'.IsListIter r l k from⟨o,q o e,c⟩)
theorem SeqIt.new{h:Heap}{tup:Bool}{r l:Addr}(e:h.get? r=some (itO tup l)):SeqIt h tup r l 0:=by
 cases tup with
 |true=>exact(show h.IsTupleIter r l 0 from⟨_,e,rfl,rfl⟩)
 |false=>exact(show h.IsListIter r l 0 from⟨_,e,rfl,rfl⟩)
theorem SeqIt.obj{h:Heap}{tup:Bool}{r l:Addr}{k:Nat}(x:SeqIt h tup r l k):∃ o,h.get? r=some o/\∀ v,o.data≠.cell v:=by
 cases tup with
 |true=>obtain⟨o,e,c,d⟩:=(show h.IsTupleIter r l k from x);exact⟨o,e,λv z=>by rw[d] at z;cases z⟩
 |false=>obtain⟨o,e,c,d⟩:=(show h.IsListIter r l k from x);exact⟨o,e,λv z=>by rw[d] at z;cases z⟩
section
variable {prog:Program} {w:World} {A:Around} {E:Value->Shared->Prop} {s:Shared}
theorem zp{tup:Bool}{l:Addr}{xs:Array Value}{Q:Value->Shared->Prop}(x:SeqIs s.heap tup l xs)(h:Q (.ref s.heap.objs.size) {s with heap:=s.heap.push (itO tup l)}):wpAny (model prog w) A (pyIter (.ref l)) Q E s:=by
 cases tup with
 |true=>exact wpAny_pyIter_tuple (show s.heap.IsTuple l xs from x) h
 |false=>exact wpAny_pyIter_list (show s.heap.IsList l xs from x) h
theorem yH(hh:A.handled=none)(tup:Bool)(r l:Addr)(hne:l≠r)(items:Array Value) :
  Draws prog w A r [r,l] items.size (λi v=>items[i]?=some v) (λi h=>SeqIt h tup r l i/\SeqIs h tup l items):=by
 cases tup with
 |true=>exact za4 hh r l hne items
 |false=>exact Draws.list hh r l hne items
end
theorem qbv(b1 b2:Bool)(l1 l2:Addr)(xs ys:Array Value) :
  Meets (Builtin.«zip.__new__» ⟨[.type "zip",.ref l1,.ref l2],[]⟩) (λ_ R s=>SeqIs s.heap b1 l1 xs/\SeqIs s.heap b2 l2 ys /\
   ∀ h5,h5=((((s.heap.push (itO b1 l1)).push (itO b2 l2)).push {cls:=.type "tuple",data:=.seq #[.ref s.heap.objs.size,.ref (s.heap.push (itO b1 l1)).objs.size]}).push {cls:=.type "tuple",data:=.seq #[.none,.none]}).push
    {cls:=.type "zip",data:=.fields #[.none,.bool false,.bool false,.ref ((s.heap.push (itO b1 l1)).push (itO b2 l2)).objs.size,.ref (((s.heap.push (itO b1 l1)).push (itO b2 l2)).push {cls:=.type "tuple",data:=.seq #[.ref s.heap.objs.size,.ref (s.heap.push (itO b1 l1)).objs.size]}).objs.size]} ->
   R (.ok (.ret (.ref ((((s.heap.push (itO b1 l1)).push (itO b2 l2)).push {cls:=.type "tuple",data:=.seq #[.ref s.heap.objs.size,.ref (s.heap.push (itO b1 l1)).objs.size]}).push {cls:=.type "tuple",data:=.seq #[.none,.none]}).objs.size))) {s with heap:=h5}) :=
 .of_wp λprog w A R s h=>by
  obtain⟨hp,g,d,tk,os⟩:=s;obtain⟨x1,x2,h⟩:=h;have hsub:=sub_zip;have y1:SeqIs (Shared.heap ⟨hp,g,d,tk,os⟩) b1 l1 xs:=x1;have y2:SeqIs (Shared.heap ⟨hp.push (itO b1 l1),g,d,tk,os⟩) b2 l2 ys:=SeqIs.keeps x2 λo e=>wa _ e
  wp_walk using zp y1,zp y2
  exact⟨_,rfl,h _ rfl⟩
section
variable {prog:Program} {w:World} {A:Around} {E:Value->Shared->Prop} {s:Shared}
theorem QbQ{b1 b2:Bool}{l1 l2:Addr}{xs ys:Array Value}{Q:Value->Shared->Prop}(x1:SeqIs s.heap b1 l1 xs)(x2:SeqIs s.heap b2 l2 ys)
  (h:∀ h',IsZip h' (s.heap.objs.size+4) (s.heap.objs.size+2) (s.heap.objs.size+3) .none->IsPair h' (s.heap.objs.size+2) (.ref s.heap.objs.size) (.ref (s.heap.objs.size+1))->IsPair h' (s.heap.objs.size+3) .none .none ->
   SeqIt h' b1 s.heap.objs.size l1 0->SeqIt h' b2 (s.heap.objs.size+1) l2 0->(∀ c o,s.heap.get? c=some o->h'.get? c=some o)->Q (.ref (s.heap.objs.size+4)) {s with heap:=h'}) :
  wpAny (model prog w) A (call (.type "zip") [.ref l1,.ref l2]) Q E s:=by
 refine callType_new F.called_zip (by decide) (F.typeCall_zip_2 _ _) (F.newCall_zip_2 _ _) (λobj=>F.args_object_init_3 obj _ _) F.entry_zip_new (qbv b1 b2 l1 l2 xs ys) ⟨x1,x2,λh5 e5=>?_⟩;have n1:(s.heap.push (itO b1 l1)).objs.size=s.heap.objs.size+1:=xg ..;have n2:((s.heap.push (itO b1 l1)).push (itO b2 l2)).objs.size=s.heap.objs.size+2:=by rw[xg,n1]
 have n3:(((s.heap.push (itO b1 l1)).push (itO b2 l2)).push {cls:=.type "tuple",data:=.seq #[.ref s.heap.objs.size,.ref (s.heap.push (itO b1 l1)).objs.size]}).objs.size=s.heap.objs.size+3:=by rw[xg,n2]
 have n4:((((s.heap.push (itO b1 l1)).push (itO b2 l2)).push {cls:=.type "tuple",data:=.seq #[.ref s.heap.objs.size,.ref (s.heap.push (itO b1 l1)).objs.size]}).push {cls:=.type "tuple",data:=.seq #[.none,.none]}).objs.size=s.heap.objs.size+4:=by rw[xg,n3]
 have q5:IsZip h5 ((((s.heap.push (itO b1 l1)).push (itO b2 l2)).push {cls:=.type "tuple",data:=.seq #[.ref s.heap.objs.size,.ref (s.heap.push (itO b1 l1)).objs.size]}).push {cls:=.type "tuple",data:=.seq #[.none,.none]}).objs.size ((s.heap.push (itO b1 l1)).push (itO b2 l2)).objs.size (((s.heap.push (itO b1 l1)).push (itO b2 l2)).push {cls:=.type "tuple",data:=.seq #[.ref s.heap.objs.size,.ref (s.heap.push (itO b1 l1)).objs.size]}).objs.size .none:=by rw[e5];exact ub _ rfl
 have q4:IsPair h5 (((s.heap.push (itO b1 l1)).push (itO b2 l2)).push {cls:=.type "tuple",data:=.seq #[.ref s.heap.objs.size,.ref (s.heap.push (itO b1 l1)).objs.size]}).objs.size .none .none:=by rw[e5];exact wa _ (ub _ rfl)
 have q3:IsPair h5 ((s.heap.push (itO b1 l1)).push (itO b2 l2)).objs.size (.ref s.heap.objs.size) (.ref (s.heap.push (itO b1 l1)).objs.size):=by rw[e5];exact wa _ (wa _ (ub _ rfl))
 have q2:h5.get? (s.heap.push (itO b1 l1)).objs.size=some (itO b2 l2):=by rw[e5];exact wa _ (wa _ (wa _ (ub _ rfl)))
 have q1:h5.get? s.heap.objs.size=some (itO b1 l1):=by rw[e5];exact wa _ (wa _ (wa _ (wa _ (ub _ rfl))))
 show _/\_;rw[n2,n3,n4] at q5;rw[n2,n1] at q3;rw[n3] at q4;rw[n1] at q2;rw[n4];exact⟨⟨_,q5,rfl⟩,h _ q5 q3 q4 (.new q1) (.new q2) λc o e=>by rw[e5];exact wa _ (wa _ (wa _ (wa _ (wa _ e))))⟩
variable {z TI TO i1 i2:Addr} {fp1 fp2:List Addr} {n1 n2 k:Nat} {P1 P2:Nat->Value->Prop} {S1 S2:Nat->Heap->Prop} {a b:Value}
theorem zag{Q:Option Value->Shared->Prop}(Z:ZAp z TI TO i1 i2 fp1 fp2)(D1:Draws prog w A.in1 i1 fp1 n1 P1 S1)(D2:Draws prog w A.in1 i2 fp2 n2 P2 S2)(hz:IsZip s.heap z TI TO .none)(hI:IsPair s.heap TI (.ref i1) (.ref i2))(hO:IsPair s.heap TO a b)
  (s1:S1 k s.heap) (s2:S2 k s.heap) (k1:k<n1) (k2:k<n2)
  (hQ:∀ x y h' tk,P1 k x->P2 k y->IsZip h' z TI TO (rawInt s.heap.objs.size)->IsPair h' TO x y->S1 (k+1) h'->S2 (k+1) h'->IsPair h' s.heap.objs.size x y->h'.objs.size=s.heap.objs.size+1 ->
   (∀ c o,c≠z->c≠TO->c≠i1->c≠i2->s.heap.get? c=some o->h'.get? c=some o)->Q (some (.ref s.heap.objs.size)) {s with heap:=h',toks:=tk}) :
  wpAny (model prog w) A (pyNext (.ref z)) Q E s:=by
 have ty:s.TypeIs (.ref z) "zip":=⟨_,hz,rfl⟩;unfold pyNext;refine wpAny_bind (wpAny_attempt (wpAny_callSpecial?_slot (name:=Str.ofString "__next__") ty F.slot_zip_next (wpAny_call_entry F.slot_zip_next ty F.entry_zip_next ?_ (F.args_zip_next_1 _))));exact Ybj Z D1 D2 hz hI hO s1 s2 k1 k2 λx y h' tk p1 p2 e1 e2 e3 e4 e5 e6 e7=>wpAny_pure (hQ x y h' tk p1 p2 e1 e2 e3 e4 e5 e6 e7)
theorem yaq{Q:Option Value->Shared->Prop}(Z:ZAp z TI TO i1 i2 fp1 fp2)(D1:Draws prog w A.in1 i1 fp1 n1 P1 S1)(D2:Draws prog w A.in1 i2 fp2 n2 P2 S2)(hz:IsZip s.heap z TI TO .none)(hI:IsPair s.heap TI (.ref i1) (.ref i2))(hO:IsPair s.heap TO a b)
  (s1:S1 k s.heap) (s2:S2 k s.heap) (hk:k=n1\/(k<n1/\k=n2))
  (hQ:∀ h' tk,(∀ c o,c≠z->c≠TO->c≠i1->c≠i2->s.heap.get? c=some o->h'.get? c=some o)->Q none {s with heap:=h',toks:=tk}) :
  wpAny (model prog w) A (pyNext (.ref z)) Q E s:=by
 have ty:s.TypeIs (.ref z) "zip":=⟨_,hz,rfl⟩;unfold pyNext;refine wpAny_bind (wpAny_attempt (wpAny_callSpecial?_slot (name:=Str.ofString "__next__") ty F.slot_zip_next (wpAny_call_entry F.slot_zip_next ty F.entry_zip_next ?_ (F.args_zip_next_1 _))));refine qbJ Z D1 D2 hz hI hO s1 s2 hk λh' e kk ho tk=>?_;obtain⟨o,e1,e2⟩:=ho;exact wpAny_bind (wpAny_isInstance (T:="StopIteration") (b:=true) ⟨o,e1,e2⟩ isSubtype_stop (wpAny_pure (hQ h' tk kk)))
end
end M3
end
section
namespace M3
open PySem
open Sem (wp)
theorem za0(tup:Bool)(l:Addr)(xs:Array Value) :
  Meets (Builtin.«enumerate.__new__» ⟨[.type "enumerate",.ref l],[]⟩) (λ_ R s=>(SeqIs s.heap tup l xs/\∃ o,s.heap.get? l=some o) /\
   ∀ h2,h2=(s.heap.push (itO tup l)).push {cls:=.type "enumerate",data:=.fields #[.none,.bool false,.ref s.heap.objs.size,rawInt 0,.none,.none]} ->
   R (.ok (.ret (.ref (s.heap.push (itO tup l)).objs.size))) {s with heap:=h2}) :=
 .of_wp λprog w A R s h=>by
  obtain⟨hp,g,d,tk,os⟩:=s;obtain⟨⟨x1,o,ho⟩,h⟩:=h;have hsub:=sub_enumerate;have ho':Heap.get? (Shared.heap ⟨hp,g,d,tk,os⟩) l=some o:=ho;have y1:SeqIs (Shared.heap ⟨hp,g,d,tk,os⟩) tup l xs:=x1
  wp_walk using wpAny_loadPart' ho'
  refine wpAny_stack_any λst=>wpAny_pure ?_;split
  ·rename_i c _ _ _ _ _;cases(c==Value.type "enumerate")
   ·wp_walk using wpAny_loadPart' ho',zp y1;exact⟨_,rfl,h _ rfl⟩
   ·wp_walk using wpAny_loadPart' ho',zp y1;exact⟨_,rfl,h _ rfl⟩
  ·wp_walk using wpAny_loadPart' ho',zp y1;exact⟨_,rfl,h _ rfl⟩
section
variable {prog:Program} {w:World} {A:Around} {E:Value->Shared->Prop} {s:Shared}
theorem qbr{tup:Bool}{l:Addr}{xs:Array Value}{Q:Value->Shared->Prop}(x1:SeqIs s.heap tup l xs)
  (h:∀ h',IsEnum h' (s.heap.objs.size+1) s.heap.objs.size 0 .none->SeqIt h' tup s.heap.objs.size l 0->(∀ b o,s.heap.get? b=some o->h'.get? b=some o)->Q (.ref (s.heap.objs.size+1)) {s with heap:=h'}) :
  wpAny (model prog w) A (call (.type "enumerate") [.ref l]) Q E s:=by
 have ho:∃ o,s.heap.get? l=some o:=by
  cases tup with
  |true=>obtain⟨o,e,_⟩:=(show s.heap.IsTuple l xs from x1);exact⟨o,e⟩
  |false=>obtain⟨o,e,_⟩:=(show s.heap.IsList l xs from x1);exact⟨o,e⟩
 refine callType_new F.called_enumerate (by decide) (F.typeCall_enumerate_1 _) (F.newCall_enumerate_1 _) (λobj=>F.args_object_init_2 obj _) F.entry_enumerate_new (za0 tup l xs) ⟨⟨x1,ho⟩,λh2 e2=>?_⟩;have n1:(s.heap.push (itO tup l)).objs.size=s.heap.objs.size+1:=xg ..;have q2:IsEnum h2 (s.heap.push (itO tup l)).objs.size s.heap.objs.size 0 .none:=by rw[e2];exact ub _ rfl
 have q1:h2.get? s.heap.objs.size=some (itO tup l):=by rw[e2];exact wa _ (ub _ rfl)
 rw[n1] at q2;show _/\_;rw[n1];exact⟨⟨_,q2,rfl⟩,h _ q2 (.new q1) λb o e=>by rw[e2];exact wa _ (wa _ e)⟩
end
end M3
end
section
namespace L3
open PySem PySem.Spec PyProof.Rows L2 M3
section
variable {X:Cx} {pins:List (Addr×Obj)} {σ:L2.St} {H:Hp} {s:Shared}
theorem Ybv{P:Program}{w:World}{h:Heap}{D:Addr}{o:HO}(ok:HOk P w H h)(hn:H D=none)(new:ObjOk P w (upd H D o) h D o):HOk P w (upd H D o) h:=λb u e=>by
 by_cases hb:b=D
 ·subst hb;rw[zf] at e;cases e;exact new
 ·rw[Zd hb] at e;exact(ok b u e).stay (λ_ _ _ q=>q) (λc q=>by rw[Zd (ze q hn)];exact q) λc xs q=>by rw[Zd (ze q hn)];exact q
theorem qac{D:Addr}{o:HO}(I:Inv X pins σ H s)(f:YM X pins H D)(h0:X.s₀.heap.objs.size<=D)(new:ObjOk X.prog X.w (upd H D o) s.heap D o):Inv X pins σ (upd H D o) s:=by
 obtain⟨f0,f1,f2,f3,f4,f5⟩:=f;refine⟨I.ok,I.os,I.bare,⟨I.base.keep,I.base.slot,λb u e n hx=>?_,I.base.there,λb xs e=>?_,λb u xs e=>?_,λb ps e=>?_⟩,I.loc,I.cell,?_,λx c e=>?_,λp hp=>?_,Ybv I.hok f0 new,I.len⟩
 ·rw[Zd (vc (Xc (wb e) h0))];exact I.base.free b u e n hx
 ·have q:=I.base.tups b xs e;rw[Zd (ze q f0)];exact q
 ·have q:=I.base.frzs b u xs e;rw[Zd (ze q f0)];exact q
 ·obtain⟨m,q⟩:=I.base.tbls b ps e;exact⟨m,by rw[Zd (ze q f0)];exact q⟩
 ·rw[Zd (Ne.symm f1)];exact I.free
 ·rw[Zd (f4 x c e)];exact I.freeC x c e
 ·obtain⟨e1,e2,e3,e4,e5⟩:=I.pin p hp;exact⟨e1,by rw[Zd (f5 p hp)];exact e2,e3,e4,e5⟩
end
noncomputable def qv(sc:Scope)(N:List Str)(cs:Scope)(N':List Str)(ncv:Nat)(js:List Nat):Bool :=
 cs.kind == .function&&cs.names.all (λy=>y.2 != .cell||cs.names.lookup y.1==some .cell)&&cs.names.all (λy=>y.2 != .free||(sc.names.lookup y.1==some .cell||sc.names.lookup y.1==some .free)) &&
 cs.names.all (λy=>y.2 != .local||cs.names.lookup y.1==some .local)&&(N'.drop ncv).all (λx=>cs.names.lookup x==some .free)&&decide ((N'.drop ncv).map some=js.map (λj=>N[j]?))&&decide (ncv<=N'.length)
structure CompOk (sc:Scope) (N:List Str) (cs:Scope) (N':List Str) (ncv:Nat) (js:List Nat):Prop where
 kind:cs.kind=.function
 cel:∀ y∈cs.names,y.2=.cell->cs.names.lookup y.1=some .cell
 free:∀ y∈cs.names,y.2=.free->sc.names.lookup y.1=some .cell\/sc.names.lookup y.1=some .free
 locs:∀ y∈cs.names,y.2=.local->cs.names.lookup y.1=some .local
 frees:∀ x∈N'.drop ncv,cs.names.lookup x=some .free
 at_:(N'.drop ncv).map some=js.map (λj=>N[j]?)
 ncv:ncv<=N'.length
theorem CompOk.of{sc:Scope}{N:List Str}{cs:Scope}{N':List Str}{ncv:Nat}{js:List Nat}(h:qv sc N cs N' ncv js=true):CompOk sc N cs N' ncv js:=by
 simp only[qv,xa,Wr,decide_eq_true_eq,Xk,beq_iff_eq,bne_iff_ne,ne_eq] at h;obtain⟨⟨⟨⟨⟨⟨h1,h2⟩,h3⟩,h4⟩,h5⟩,h6⟩,h7⟩:=h;exact⟨h1,λy hy e=>(h2 y hy).resolve_left λz=>z e,λy hy e=>(h3 y hy).resolve_left λz=>z e,λy hy e=>(h4 y hy).resolve_left λz=>z e,h5,h6,h7⟩
theorem ZB{names:List (Str×NameKind)}{x:Str}{k:NameKind}(h:names.lookup x=some k):(x,k)∈names:=PySem.mem_of_lookup h
theorem y3{env:Env}:∀{names:List (Str×NameKind)} {x:Str},
  ((names.map λ(n,k)=>if(k==NameKind.free&&env.scope.kind == .function&&env.kindOf n==some .cell) then(n,NameKind.cell) else(n,k)).lookup x=some .cell \/
   (names.map λ(n,k)=>if(k==NameKind.free&&env.scope.kind == .function&&env.kindOf n==some .cell) then(n,NameKind.cell) else(n,k)).lookup x=some .free)->names.lookup x=some .free\/names.lookup x=some .cell
 |[],_,h=>by simp at h
 |(n,k)::r,x,h=>by
  have ih:=@y3 env r x;rw[Xb] at h;by_cases hb:(k==NameKind.free&&env.scope.kind == .function&&env.kindOf n==some .cell)=true
  ·have hkf:k=.free:=by
    simp only[xa,beq_iff_eq] at hb;exact hb.1.1
   simp only[hb,if_true] at h;cases hx:x==n with
   |true=>simp only[xb,hx];rw[hkf];exact .inl rfl
   |false =>
    simp only[xb,hx] at h ⊢;exact ih h
  ·simp only[hb,Xl,if_false] at h;cases hx:x==n with
   |true =>
    simp only[xb,hx] at h ⊢;exact h.symm
   |false =>
    simp only[xb,hx] at h ⊢;exact ih h
theorem yM{env:Env}:∀{names:List (Str×NameKind)} {x:Str},names.lookup x=some .free ->
  ((names.map λ(n,k)=>if(k==NameKind.free&&env.scope.kind == .function&&env.kindOf n==some .cell) then(n,NameKind.cell) else(n,k)).lookup x=some .cell \/
   (names.map λ(n,k)=>if(k==NameKind.free&&env.scope.kind == .function&&env.kindOf n==some .cell) then(n,NameKind.cell) else(n,k)).lookup x=some .free)
 |[],_,h=>by simp at h
 |(n,k)::r,x,h=>by
  have ih:=@yM env r x;rw[Xb];cases hx:x==n with
  |true =>
   simp only[xb,hx] at h;cases h;by_cases hb:((NameKind.free:NameKind)==NameKind.free&&env.scope.kind == .function&&env.kindOf n==some .cell)=true
   ·simp only[hb,if_true,xb,hx];simp
   ·simp only[hb,Xl,if_false,xb,hx];simp
  |false =>
   simp only[xb,hx] at h;by_cases hb:(k==NameKind.free&&env.scope.kind == .function&&env.kindOf n==some .cell)=true
   ·simp only[hb,if_true,xb,hx];exact ih h
   ·simp only[hb,Xl,if_false,xb,hx];exact ih h
theorem Zv{env:Env}:∀(names:List (Str×NameKind)) (cs:List (Str×Addr)) {x:Str} {c:Addr},(∀ y∈names,y.2=.free->∃ c,env.cells.lookup y.1=some c)->(∀ x c,cs.lookup x=some c->env.cells.lookup x=some c) ->
  (Qd env names cs).lookup x=some c->env.cells.lookup x=some c
 |[],cs,x,c,_,hcs,h=>hcs x c h
 |(n,k)::r,cs,x,c,hn,hcs,h=>by
  refine Zv r _ (λy hy=>hn y (uf _ hy)) (λx' c' h'=>?_) h;by_cases hk:(k == .free)=true
  ·rw[if_pos hk] at h';obtain⟨c0,e0⟩:=hn (n,k) Wi (by simpa using hk);cases hx:x'==n with
   |true =>
    simp only[xb,hx] at h';cases h';rw[beq_iff_eq.mp hx,e0];rfl
   |false =>
    simp only[xb,hx] at h';exact hcs x' c' h'
  ·rw[if_neg hk] at h';exact hcs x' c' h'
theorem zR{env:Env}:∀(names:List (Str×NameKind)) (cs:List (Str×Addr)) {x:Str},(∃ c,cs.lookup x=some c)->∃ c,(Qd env names cs).lookup x=some c
 |[],cs,x,h=>h
 |(n,k)::r,cs,x,h=>by
  refine zR r _ ?_;by_cases hk:(k == .free)=true
  ·rw[if_pos hk];cases hx:x==n with
   |true=>exact⟨(env.cells.lookup n).getD 0,by simp only[xb,hx]⟩
   |false =>
    obtain⟨c,e⟩:=h;exact⟨c,by simp only[xb,hx];exact e⟩
  ·rw[if_neg hk];exact h
theorem ZF{env:Env}:∀(names:List (Str×NameKind)) (cs:List (Str×Addr)) {x:Str},(x,NameKind.free)∈names->∃ c,(Qd env names cs).lookup x=some c
 |[],_,_,h=>nomatch h
 |(n,k)::r,cs,x,h=>by
  rcases ua.mp h with e|h
  ·cases e;refine zR r _ ?_;rw[if_pos (by decide)];exact⟨(env.cells.lookup n).getD 0,by simp only[xb,beq_self_eq_true]⟩
  ·exact ZF r _ h
theorem zaL:∀(names:List (Str×NameKind)) (n n0:Nat) (acc:List (Str×Addr)) {x:Str},n0<=n->(∃ c,acc.lookup x=some c/\n0<=c)->∃ c,(cellsFrom n names acc).lookup x=some c/\n0<=c
 |[],_,_,_,_,_,h=>h
 |(y,k)::r,n,n0,acc,x,hn,h=>by
  unfold cellsFrom;split
  ·refine zaL r (n+1) n0 _ (by lia) ?_;cases hx:x==y with
   |true=>exact⟨n,by simp only[xb,hx],hn⟩
   |false =>
    obtain⟨c,e,l⟩:=h;exact⟨c,by simp only[xb,hx];exact e,l⟩
  ·exact zaL r n n0 acc hn h
theorem YaE:∀(names:List (Str×NameKind)) (n:Nat) (acc:List (Str×Addr)) {x:Str},(x,NameKind.cell)∈names->∃ c,(cellsFrom n names acc).lookup x=some c/\n<=c
 |[],_,_,_,h=>nomatch h
 |(y,k)::r,n,acc,x,h=>by
  unfold cellsFrom
  rcases ua.mp h with e|h
  ·cases e;rw[if_pos (by decide)];exact zaL r (n+1) n _ (by lia) ⟨n,by simp only[xb,beq_self_eq_true],vb _⟩
  ·split
   ·obtain⟨c,e,l⟩:=YaE r (n+1) ((y,n)::acc) h;exact⟨c,e,by lia⟩
   ·exact YaE r n acc h
theorem Z5:∀(names:List (Str×NameKind)) (n:Nat) (acc:List (Str×Addr)) {x:Str},(x,NameKind.cell)∉names->(cellsFrom n names acc).lookup x=acc.lookup x
 |[],_,_,_,_=>rfl
 |(y,k)::r,n,acc,x,h=>by
  unfold cellsFrom;split
  ·rename_i hk;rw[Z5 r (n+1) _ λz=>h (uf _ z)];have:(x==y)=false:=by
    rw[beq_eq_false_iff_ne];intro e;subst e;have:k=.cell:=by simpa using hk
    subst this;exact h Wi
   simp only[xb,this]
  ·exact Z5 r n acc λz=>h (uf _ z)
theorem YZ:∀(names:List (Str×NameKind)) (n:Nat) (acc:List (Str×Addr)) {x:Str} {c:Addr},(cellsFrom n names acc).lookup x=some c->acc.lookup x=some c\/n<=c
 |[],_,_,_,_,h=>.inl h
 |(y,k)::r,n,acc,x,c,h=>by
  unfold cellsFrom at h;split at h
  ·rcases YZ r (n+1) _ h with e|e
   ·cases hx:x==y with
    |true=>simp only[xb,hx] at e;cases e;exact .inr (vb _)
    |false=>simp only[xb,hx] at e;exact .inl e
   ·exact .inr (by lia)
  ·exact YZ r n acc h
theorem za5:∀(names:List (Str×NameKind)) (n:Nat) (acc:List (Str×Addr)),(∀ x c,acc.lookup x=some c->c<n)->(∀ x y c,acc.lookup x=some c->acc.lookup y=some c->x=y) ->
  ∀ x y c,(cellsFrom n names acc).lookup x=some c->(cellsFrom n names acc).lookup y=some c->x=y
 |[],_,_,_,hi=>hi
 |(z,k)::r,n,acc,hb,hi=>by
  unfold cellsFrom;split
  ·refine za5 r (n+1) _ (λx c e=>?_) λx y c e1 e2=>?_
   ·cases hx:x==z with
    |true=>simp only[xb,hx] at e;cases e;exact xl _
    |false=>simp only[xb,hx] at e;exact Xm (hb x c e)
   ·cases hx:x==z with
    |true =>
     simp only[xb,hx] at e1;cases e1;cases hy:y==z with
     |true=>rw[beq_iff_eq.mp hx,beq_iff_eq.mp hy]
     |false=>simp only[xb,hy] at e2;exact absurd (hb y _ e2) (xj _)
    |false =>
     simp only[xb,hx] at e1;cases hy:y==z with
     |true=>simp only[xb,hy] at e2;cases e2;exact absurd (hb x _ e1) (xj _)
     |false=>simp only[xb,hy] at e2;exact hi x y c e1 e2
  ·exact za5 r n acc hb hi
theorem YaK:∀(names:List (Str×NameKind)) (h:Heap) (acc:List (Str×Addr)),(∀ x c,acc.lookup x=some c->∃ v,h.IsCell c v)->∀ x c,(cellsFrom h.objs.size names acc).lookup x=some c->∃ v,(pushCells h names).IsCell c v
 |[],_,_,hc=>hc
 |(y,k)::r,h,acc,hc=>by
  unfold cellsFrom pushCells;split
  ·have:=YaK r (h.push {cls:=.type "cell",data:=.cell none}) ((y,h.objs.size)::acc) λx c e=>by
    cases hx:x==y with
    |true=>simp only[xb,hx] at e;cases e;exact⟨none,_,ub _ rfl,rfl⟩
    |false =>
     simp only[xb,hx] at e;obtain⟨v,q⟩:=hc x c e;exact⟨v,q.keeps λb o e=>wa _ e⟩
   rwa [xg] at this
  ·exact YaK r h acc hc
theorem Qas{M:Model}{A:Around}{E:Value->Shared->Prop}{s:Shared}{scope:Scope}{globals:Addr}{closure:List (Str×Addr)}{qual:Str}{func:Option Addr}{code:Value}{env:Env}{builtins:Addr}{Q:Env->Shared->Prop}
  (hQ:∀ h',h'.Ns s.heap.objs.size (λ_=>none)->(∀ b o,s.heap.get? b=some o->h'.get? b=some o) ->
   ((∀ x c,closure.lookup x=some c->∃ v,s.heap.IsCell c v)->∀ x c,(cellsFrom (s.heap.objs.size+1) scope.names closure).lookup x=some c->∃ v,h'.IsCell c v) ->
   Q (newEnv scope s.heap.objs.size globals (cellsFrom (s.heap.objs.size+1) scope.names closure) qual func code (some env) builtins) {s with heap:=h'}) :
  wpAny M A (newFunctionEnv scope globals closure [] qual func code (some env) builtins) Q E s:=by
 simp only[newFunctionEnv,VB,if_true];refine wpAny_bind (wpAny_alloc ?_);refine wpAny_bind (wpAny_layCells _ (λname kind cells=>by cases hkc:kind==NameKind.cell <;> simp[hkc]) _ _ _ _ ?_);rw[show({s with heap:=s.heap.push {cls:=.type "dict",data:=.dict #[]}}:Shared).heap.objs.size=s.heap.objs.size+1 from xg ..];refine wpAny_bind (wpAny_pure (wpAny_pure (hQ _ ?_ ?_ ?_)))
 ·exact(Heap.Ns.new s.heap (.type "dict")).keeps (pushCells_keeps _ _)
 ·exactλb o e=>pushCells_keeps _ _ b o (wa _ e)
 ·intro hc;have:=YaK scope.names (s.heap.push {cls:=.type "dict",data:=.dict #[]}) closure λx c e=>let ⟨v,q⟩:=hc x c e;⟨v,q.keeps λb o e=>wa _ e⟩
  rwa [xg] at this
noncomputable def cxC(X:Cx)(cs:Scope)(N':List Str)(C:Addr)(s3:Shared)(H:Hp)(ex:List Addr):Cx :=
 {X with N:=N',s₀:=s3,H₀:=H,env:=compEnvC cs (cellsFrom (C+1) cs.names (Qd X.env cs.names [])) C X.env,outer:=X.stack,stack:=X.stack,ex:=ex,fn:=λx=>cs.names.lookup x==some .cell,xe:=λ_ _=>False}
noncomputable def stC(ncv:Nat)(js:List Nat)(σ:L2.St):L2.St:=Wb ncv none++js.map λj=>(σ[j]?).join
section
variable {X:Cx} {pins:List (Addr×Obj)} {σ:L2.St} {H:Hp} {s3:Shared}
theorem za1{cs:Scope}{N':List Str}{ncv:Nat}{js:List Nat}{ex:List Addr}{h1:Heap}{tk:Nat}(I:Inv X pins σ H s3)(ok:CompOk X.env.scope X.N cs N' ncv js)(hex:∀ b∈ex,YM X pins H b/\b<s3.heap.objs.size)
  (hns:h1.Ns s3.heap.objs.size λ_=>none) (hk:∀ b o,s3.heap.get? b=some o->h1.get? b=some o)
  (hcl:(∀ x c,(Qd X.env cs.names []).lookup x=some c->∃ v,s3.heap.IsCell c v)->∀ x c,(cellsFrom (s3.heap.objs.size+1) cs.names (Qd X.env cs.names [])).lookup x=some c->∃ v,h1.IsCell c v) :
  Inv (cxC X cs N' s3.heap.objs.size s3 H ex) [] (stC ncv js σ) H {s3 with heap:=h1,toks:=tk}:=by
 have hfc:∀ y∈cs.names,y.2=.free->∃ c,X.env.cells.lookup y.1=some c:=λy hy e=>I.ok.has y.1 (ok.free y hy e);have lk:∀{x c},(Qd X.env cs.names []).lookup x=some c->X.env.cells.lookup x=some c:=λ{x c} h=>Zv cs.names [] hfc (λ_ _ z=>by simp at z) h;have clt:∀{x c},X.env.cells.lookup x=some c->c<s3.heap.objs.size:=λ{x c} e=>let ⟨v,q⟩:=I.cell x c e;q.lt;have cl2:=hcl λx c e=>I.cell x c (lk e);have spl:∀{x c},(cellsFrom (s3.heap.objs.size+1) cs.names (Qd X.env cs.names [])).lookup x=some c->X.env.cells.lookup x=some c\/s3.heap.objs.size+1<=c:=λ{x c} e=>(YZ cs.names _ _ e).imp lk id;have nown:∀{x},cs.names.lookup x=some .free->(x,NameKind.cell)∉cs.names:=λ{x} e z=>by have:=ok.cel _ z rfl;rw[e] at this;cases this
 refine⟨⟨I.ok.mod,ok.kind,I.ok.glob,I.ok.blt,vb _,λx y c e1 e2=>za5 cs.names _ _ (λx c e=>Xm (clt (lk e))) (λx y c e1 e2=>I.ok.inj x y c (lk e1) (lk e2)) x y c e1 e2,λx hx=>?_,λx c z e=>?_,I.ok.hd,I.ok.frames,.inl rfl,λb hb=>?_,I.bs,xf I.ok.bsz I.sz,λb o e hb=>?_,λb hb=>?_,I.stack,I.stkFree⟩,
  rfl,I.bare,Un.kept hk,⟨_,hns,λi x v e1 e2 e3=>?_⟩,λx c e=>cl2 x c e,I.hok.fresh (vb _),λx c e=>(spl e).elim (λq=>I.freeC x c q) λq=>I.hok.fresh (by lia),λp hp=>?_,I.hok.kept hk,?_⟩
 ·rcases y3 hx with hx|hx
  ·rw[show ∀ n,(cxC X cs N' s3.heap.objs.size s3 H ex).env.cells.lookup x=(cellsFrom (s3.heap.objs.size+1) cs.names (Qd X.env cs.names [])).lookup x fromλ_=>rfl]
   ·rw[Z5 _ _ _ (nown hx)];exact ZF cs.names [] (ZB hx)
   ·exact 0
  ·obtain⟨c,e,_⟩:=YaE cs.names (s3.heap.objs.size+1) (Qd X.env cs.names []) (ZB hx);exact⟨c,e⟩
 ·have z':cs.names.lookup x=some .cell:=by simpa using(show(cs.names.lookup x==some .cell)=true from z)
  obtain⟨c',e',l⟩:=YaE cs.names (s3.heap.objs.size+1) (Qd X.env cs.names []) (ZB z');have:c=c':=by
   have e2:(cellsFrom (s3.heap.objs.size+1) cs.names (Qd X.env cs.names [])).lookup x=some c:=e;rw[e'] at e2;exact(Option.some.inj e2).symm
  rw[this];exact Nat.le_of_succ_le l
 ·obtain⟨⟨_,_,_,_,f4,_⟩,lt⟩:=hex b hb;refine⟨vc lt,λx c e=>?_⟩
  rcases spl e with q|q
  ·exact f4 x c q
  ·exact Ul (Nat.lt_trans lt q)
 ·obtain⟨⟨_,_,_,f3,_,_⟩,_⟩:=hex b hb
  rcases f3 with f3|f3
  ·exact I.ok.noex b o e f3
  ·exact absurd (Xc (wb e) (xf I.ok.bsz f3)) (xj _)
 ·obtain⟨⟨_,f1,f2,_,_,_⟩,_⟩:=hex b hb;intro z
  rcases ua.mp (I.stkSub b z) with e|e
  ·exact f1 e
  ·exact f2 e
 ·-- a name around, by its cell
  have hi:¬ i<ncv:=λhi=>by
   unfold stC at e2;rw[va (by simpa using hi),Xp,if_pos hi] at e2;cases e2
  have ex1:(N'.drop ncv)[i-ncv]?=some x:=by
   rw[List.getElem?_drop];have q:ncv+(i-ncv)=i:=by lia
   rw[q];exact e1
  have hfree:=ok.frees x (Uc ex1);have eN:(js.map λj=>X.N[j]?)[i-ncv]?=some (some x):=by rw[<- ok.at_,xc,ex1];rfl
  unfold stC at e2;rw[we (by simpa using Wv hi),Vn,xc] at e2;rw[xc] at eN;cases ej:js[i-ncv]? with
  |none=>rw[ej] at e2;cases e2
  |some j =>
   rw[ej] at e2 eN;have e2':(σ[j]?).join=some v:=Option.some.inj e2;have eN':X.N[j]?=some x:=Option.some.inj eN;have eσ:σ[j]?=some (some v):=by
    cases q:σ[j]? with
    |none=>rw[q] at e2';cases e2'
    |some u=>rw[q] at e2';exact congrArg some e2'
   have hvis:X.env.scope.names.lookup x=some .cell\/X.env.scope.names.lookup x=some .free:=ok.free (x,.free) (ZB hfree) rfl;obtain⟨m,hn,hl⟩:=I.loc;obtain⟨u,r,l⟩:=hl j x v eN' eσ (.inr hvis);refine⟨u,r,.inr ⟨yM hfree,?_⟩⟩
   rcases l with ⟨k,_⟩|⟨_,c,ec,z⟩
   ·rcases hvis with q|q
    ·rw[show X.env.kindOf x=X.env.scope.names.lookup x from rfl,q] at k;cases k
    ·rw[show X.env.kindOf x=X.env.scope.names.lookup x from rfl,q] at k;cases k
   ·obtain⟨c',ec'⟩:=ZF (env:=X.env) cs.names [] (ZB hfree);have:=lk ec';rw[ec] at this;cases this;obtain⟨o,ho,hd⟩:=z;refine⟨c,?_,o,hk c o ho,hd⟩;show(cellsFrom (s3.heap.objs.size+1) cs.names (Qd X.env cs.names [])).lookup x=some c;rw[Z5 _ _ _ (nown hfree)];exact ec'
 ·have hp':p∈X.pn:=by
   have hp1:p∈X.pn++[]:=hp;rw[Uj] at hp1;exact hp1
  obtain⟨e1,e2,e3,e4,e5⟩:=I.pin p (ue _ hp');refine⟨hk _ _ e1,e2,vc (wb e1),λz=>?_,e5⟩
  rcases ua.mp (I.stkSub p.1 z) with e|e
  ·exact e3 e
  ·exact e4 e
 ·have q:=congrArg Us ok.at_;rw[Wd,Wd,wv] at q;unfold stC;show _=N'.length;rw[Vf,Vn,Wd];have:=ok.ncv
  lia
end
section
variable {X:Cx}
noncomputable def PIf(X:Cx)(ifs:List Expr)(t:TT):Prop:=∀(pins:List (Addr×Obj)) (s:Shared) (σ:L2.St) (H:Hp) (Q:Bool->Hp->Prop),Inv X pins σ H s->t σ H Q->wpAny (model X.prog X.w) X.A (zb9 ifs X.env) (TP X pins σ Q) X.xe s
noncomputable def tYes:TT:=λ_ H Q=>Q true H
theorem qbW:PIf X [] tYes:=λpins s σ H Q I h=>wpAny_tests_nil ⟨H,I,h⟩
theorem zbj{c:Expr}{t:TT}(h:PT X c t):PIf X [c] t:=λpins s σ H Q I hw=>wpAny_tests_one (h pins s σ H Q I hw)
noncomputable def zbD(J:It)(ncv:Nat)(js:List Nat)(g:TG)(tc:TT)(te:TE)(σ:L2.St)(H:Hp)(Q:VK):Prop :=
 ∃ W:Nat->Nat->List V->L2.St->Hp->Prop,(∃ m,W 0 m [] (stC ncv js σ) H)/\∀ i m acc σ' H',W i m acc σ' H' ->
  (J.stop i H'/\∀ D,H' D=none->Q (.ref D) (upd H' D (.lst acc))) \/
  (J.go i H'/\∀ x H2,J.yld i H' x H2->g x σ' H2 λσ2 H3=>tc σ2 H3 λb H4 =>
   if b=true then te σ2 H4 λy H5=>acc.length<sizeLine/\∃ m',m'<m/\W (i+1) m' (acc++[y]) σ2 H5 else ∃ m',m'<m/\W (i+1) m' acc σ2 H4)
noncomputable def Zbf(wi:TI)(ncv:Nat)(js:List Nat)(g:TG)(tc:TT)(te:TE):TE:=λσ H Q=>wi σ H λJ H1=>zbD J ncv js g tc te σ H1 Q
theorem Zk{Y:Cx}{pins:List (Addr×Obj)}{σ:L2.St}{H:Hp}{s:Shared}{b:Addr}{o:Obj}(I:Inv Y pins σ H s)(h:(b,o)∈pins):s.heap.get? b=some o/\H b=none :=
 let z:=I.pin (b,o) (We _ h);⟨z.1,z.2.1⟩
noncomputable def Zby(X:Cx)(J:It)(fp:List Addr)(it:Addr)(tn:Nat->Heap->Prop):Prop :=
 ∀(Y:Cx),Y.prog=X.prog->Y.w=X.w->Y.K=X.K->Y.calm=X.calm->Y.A=X.A->Y.pn=X.pn->∀(i:Nat)(pins:List (Addr×Obj)) (s:Shared) (σ:L2.St) (H:Hp) (E:Value->Shared->Prop),Inv Y pins σ H s->(∀ b∈fp,YM Y pins H b)->tn i s.heap->J.stop i H ->
  wpAny (model X.prog X.w) X.A (pyNext (.ref it)) (λr s1=>r=none/\Inv Y pins σ H s1) E s
noncomputable def qbF(X:Cx)(tg:Expr)(J:It)(fp:List Addr)(it:Addr)(tn:Nat->Heap->Prop):Prop :=
 ∀(Y:Cx),Y.prog=X.prog->Y.w=X.w->Y.K=X.K->Y.calm=X.calm->Y.A=X.A->∀(i:Nat)(pins:List (Addr×Obj)) (s:Shared) (σ:L2.St) (H:Hp) (E:Value->Shared->Prop),Inv Y pins σ H s->(∀ b∈fp,YM Y pins H b)->tn i s.heap->J.go i H ->
  wpAny (model X.prog X.w) X.A (pyNext (.ref it)) (λr s1=>∃ u,r=some u /\
   wpAny (model X.prog X.w) X.A (letOwnedTupleGo tg (.ref it) u) (λ_ s2=>∃ x H',Inv Y pins σ H' s2/\RelV x u/\J.yld i H x H'/\tn (i+1) s2.heap/\∀ b∈fp,H' b=none) E s1) E s
theorem yY{elt iter tg:Expr}{ifs:List Expr}{cs:Scope}{pos:Pos}{N':List Str}{ncv:Nat}{js:List Nat}{g:TG}{tc:TT}{te:TE}{pins:List (Addr×Obj)}{σ:L2.St}{H2:Hp}{s2:Shared}{it:Addr}{fp:List Addr}{tn:Nat->Heap->Prop}{J:It}{Q:VK}
  {RR:Value->Addr->Result->Shared->Prop} {E:Value->Shared->Prop}
  (ok:CompOk X.env.scope X.N cs N' ncv js) (hg:∀ C s3 H ex,PG (cxC X cs N' C s3 H ex) tg g) (hif:∀ C s3 H ex,PIf (cxC X cs N' C s3 H ex) ifs tc) (helt:∀ C s3 H ex,PE (cxC X cs N' C s3 H ex) elt te)
  (I2:Inv X pins σ H2 s2) (mem:it∈fp) (obj:∀ i h,tn i h->∀ b∈fp,∃ o,h.get? b=some o/\∀ v,o.data≠.cell v) (keep:∀ i h h',tn i h->(∀ b∈fp,∀ o,h.get? b=some o->h'.get? b=some o)->tn i h')
  (item:qbF X tg J fp it tn) (done:Zby X J fp it tn) (self:∀(A:Around)(i:Nat)(s:Shared)(Q:Value->Shared->Prop)(E:Value->Shared->Prop),tn i s.heap->Q (.ref it) s->wpAny (model X.prog X.w) A (pyIter (.ref it)) Q E s)
  (st2:tn 0 s2.heap) (f2:∀ b∈fp,YM X pins H2 b) (W:Nat->Nat->List V->L2.St->Hp->Prop) (w0:∃ m,W 0 m [] (stC ncv js σ) H2)
  (turn:∀ i m acc σ' H',W i m acc σ' H'->(J.stop i H'/\∀ D,H' D=none->Q (.ref D) (upd H' D (.lst acc))) \/
   (J.go i H'/\∀ x H2,J.yld i H' x H2->g x σ' H2 λσ2 H3=>tc σ2 H3 λb H4 =>
    if b=true then te σ2 H4 λy H5=>acc.length<sizeLine/\∃ m',m'<m/\W (i+1) m' (acc++[y]) σ2 H5 else ∃ m',m'<m/\W (i+1) m' acc σ2 H4))
  (fin:∀(D C:Addr)(acc:List V)(H':Hp)(s6:Shared),Inv X pins σ (upd H' D (.lst acc)) s6->YM X pins (upd H' D (.lst acc)) C->X.s₀.heap.objs.size<=C->(∃ m,s6.heap.Ns C m)->Q (.ref D) (upd H' D (.lst acc))->RR (.ref D) C (.ok .next) s6) :
  wpAny (model X.prog X.w) X.A (newList []) (λacc s3=>wpAny (model X.prog X.w) X.A (newFunctionEnv cs X.env.globals (Qd X.env cs.names []) [] X.env.qual none .none (some X.env)) (λcenv s4 =>
   codeAny (model X.prog X.w) X.A (.compStart (.ListComp elt [⟨tg,iter,ifs,0⟩] cs pos) 0 (.ref it) acc {cenv with scope:=relabel cs X.env}) (RR acc cenv.locals) s4) E s3) E s2:=by
 refine wpAny_newObj_type (Qas λh1 hns hup hcl=>?_);obtain⟨s3,es3⟩:∃ s3:Shared,s3={s2 with heap:=s2.heap.push {cls:=.type "list",dict:=none,data:=.seq ([]:List Value).toArray}}:=⟨_,rfl⟩;have I3:Inv X pins σ H2 s3:=by rw[es3];exact I2.kept (t':=s2.toks) λb o e=>wa _ e
 have sz3:s3.heap.objs.size=s2.heap.objs.size+1:=by rw[es3];exact xg ..
 have gD3:s3.heap.get? s2.heap.objs.size=some {cls:=.type "list",dict:=none,data:=.seq ([]:List Value).toArray}:=by rw[es3];exact ub _ rfl
 have up3:∀ b o,s2.heap.get? b=some o->s3.heap.get? b=some o:=λb o e=>by rw[es3];exact wa _ e
 have es4:∀ tk,({s2 with heap:=h1,toks:=tk}:Shared)={s3 with heap:=h1,toks:=tk}:=λtk=>by rw[es3]
 have hns':h1.Ns s3.heap.objs.size λ_=>none:=by rw[es3];exact hns
 have up4:∀ b o,s3.heap.get? b=some o->h1.get? b=some o:=by rw[es3];exact hup
 have hcl':(∀ x c,(Qd X.env cs.names []).lookup x=some c->∃ v,s3.heap.IsCell c v)->∀ x c,(cellsFrom (s3.heap.objs.size+1) cs.names (Qd X.env cs.names [])).lookup x=some c->∃ v,h1.IsCell c v:=by rw[es3];exact hcl
 generalize hD:s2.heap.objs.size=D at *;have fD:YM X pins H2 D:=I2.fpOk (Xo hD) (I2.hok.fresh (Xo hD));have szD:X.s₀.heap.objs.size<=D:=hD ▸ I2.sz;have ltf:∀ b∈fp,b<D:=λb hb=>let ⟨o,e,_⟩:=obj 0 _ st2 b hb;hD ▸ wb e;have hex:∀ b∈D::fp,YM X pins H2 b/\b<s3.heap.objs.size:=λb hb=>by
  rcases ua.mp hb with e|hb
  ·subst e;exact⟨fD,by rw[sz3];exact xl _⟩
  ·exact⟨f2 b hb,by rw[sz3];exact Xm (ltf b hb)⟩
 obtain⟨C,hC⟩:∃ C,C=s3.heap.objs.size:=⟨_,rfl⟩;have I4:∀ tk,Inv (cxC X cs N' C s3 H2 (D::fp)) [] (stC ncv js σ) H2 {s3 with heap:=h1,toks:=tk}:=λtk=>by rw[hC];exact za1 I3 ok hex hns' up4 hcl'
 have DC:D≠C:=by rw[hC,sz3];exact vc (xl _)
 -- the iterator's objects, and the list, in the block
 have fpY:∀{pl:List (Addr×Obj)} {H':Hp} {b:Addr},b∈D::fp->H' b=none->(∀ p∈pl,p.1≠b)->YM (cxC X cs N' C s3 H2 (D::fp)) pl H' b:=λ{pl H' b} hb hn hp=>by
  obtain⟨⟨g0,g1,g2,g3,g4,g5⟩,lt⟩:=hex b hb;refine⟨hn,hC ▸ vc lt,λz=>?_,.inl hb,λx c e=>?_,λp hp'=>?_⟩
  ·rcases ua.mp (I3.stkSub b z) with e|e
   ·exact g1 e
   ·exact g2 e
  ·rcases YZ cs.names _ _ e with q|q
   ·exact g4 x c (Zv cs.names [] (λy hy e=>I3.ok.has y.1 (ok.free y hy e)) (λ_ _ z=>by simp at z) q)
   ·exact Ul (Nat.lt_trans (hC ▸ lt) q)
  ·rcases Xf.mp hp' with z|z
   ·exact g5 p (ue _ z)
   ·exact hp p z
 have lp:∀ tk,codeAny (model X.prog X.w) X.A (.compLoop (.ListComp elt [⟨tg,iter,ifs,0⟩] cs pos) 0 (.ref it) (.ref D) (cxC X cs N' C s3 H2 (D::fp)).env) (RR (.ref D) C) {s3 with heap:=h1,toks:=tk}:=λtk=>by
  obtain⟨m0,w0⟩:=w0;refine zbk (λn s=>∃ i acc ys k σ' H',Inv (cxC X cs N' C s3 H2 (D::fp)) [] σ' H' s/\tn i s.heap/\(∀ b∈fp,H' b=none)/\H' D=none/\s.heap.get? D=some {cls:=.type "list",data:=.seq ys k}/\Vals acc ys.toList/\acc.length<=sizeLine/\W i n acc σ' H') ?_ m0
   ⟨0,[],#[],0,_,_,I4 tk,keep _ _ _ st2 λb hb o e=>up4 b o (up3 b o e),λb hb=>(f2 b hb).1,fD.1,up4 _ _ gD3,.nil,Xq _,w0⟩
  rintro n s5 ⟨i,acc,ys,k,σ5,H5,I5,t5,n5,d5,g5,v5,l5,w5⟩;have I5p:=I5.pinned (fp:=[D]) (λb hb=>by obtain rfl:=Ub.mp hb;exact fpY Wi d5 λp hp=>nomatch hp) (λb hb=>by obtain rfl:=Ub.mp hb;exact⟨_,g5,λv z=>nomatch z⟩);have hpin:Y9 [D] s5.heap=[(D,{cls:=.type "list",data:=.seq ys k})]:=by simp[Y9,g5]
  rw[hpin,Vk] at I5p;have fpp:∀ b∈fp,YM (cxC X cs N' C s3 H2 (D::fp)) [(D,{cls:=.type "list",data:=.seq ys k})] H5 b:=λb hb=>fpY (uf _ hb) (n5 b hb) λp hp=>by
   obtain rfl:=Ub.mp hp;exact Ul (ltf b hb)
  rcases turn i n acc σ5 H5 w5 with ⟨stop,qf⟩|⟨go,step⟩
  ·refine thn (done (cxC X cs N' C s3 H2 (D::fp)) rfl rfl rfl rfl rfl rfl i _ s5 σ5 H5 _ I5p fpp t5 stop) λr s6 ⟨hr,I6⟩=>?_;subst hr;obtain⟨g6,d6⟩:=Zk I6 (Ub.mpr rfl);have IX:Inv X pins σ H5 s6:=I3.call' (ch:=D::fp) I6.os I6.base I6.hok I6.bare λb hb=>by
    obtain⟨⟨_,e1,_,e3,e4,e5⟩,_⟩:=hex b hb;exact⟨e3,e1,e4,e5⟩
   obtain⟨_,e1,e2,e3,e4,e5⟩:=fD;have IXD:=qac (o:=.lst acc) IX ⟨d6,e1,e2,e3,e4,e5⟩ szD ⟨l5,ys.toList,k,v5,by simpa using g6⟩;have fC:YM X pins (upd H5 D (.lst acc)) C:=by
    have hn:(upd H5 D (.lst acc)) C=none:=by rw[Zd (Ne.symm DC)];exact I6.free
    have z:=I3.fpOk (b:=C) (Xo hC.symm) (I3.hok.fresh (Xo hC.symm));exact⟨hn,z.2⟩
   obtain⟨m,hm,_⟩:=I6.loc;exact fin D C acc H5 s6 IXD fC (xf szD (by rw[hC,sz3];exact vz _)) ⟨m,hm⟩ (qf D d6)
  ·refine thn (item (cxC X cs N' C s3 H2 (D::fp)) rfl rfl rfl rfl rfl i _ s5 σ5 H5 _ I5p fpp t5 go) λr s6 ⟨u,hr,h6⟩=>?_;subst hr;refine thn h6 λ_ s7 ⟨x,H7,I7,r7,y7,t7,n7⟩=>?_;obtain⟨g7,d7⟩:=Zk I7 (Ub.mpr rfl);have I7p:=I7.pinned (fp:=fp) (λb hb=>fpY (uf _ hb) (n7 b hb) λp hp=>by obtain rfl:=Ub.mp hp;exact Ul (ltf b hb)) (obj _ _ t7);refine thn (hg _ _ _ _ _ s7 σ5 H7 x u _ I7p r7 (step x H7 y7)) λ_ s8 ⟨σ8,H8,I8,q8⟩=>?_;refine thn (hif _ _ _ _ _ s8 σ8 H8 _ I8 q8) λb s9 ⟨H9,I9,q9⟩=>?_;cases b with
   |false =>
    rw[if_neg Ud] at q9 ⊢;obtain⟨m',hm,w9⟩:=q9;obtain⟨g9,d9⟩:=Zk I9 (ue _ (Ub.mpr rfl));refine⟨m',hm,i+1,acc,ys,k,σ8,H9,I9.pins_of (λp hp=>nomatch hp),keep _ _ _ t7 λb hb o e=>(Zk I9 (We _ (qo hb e))).1,λb hb=>?_,d9,g9,v5,l5,w9⟩;obtain⟨o,e,_⟩:=obj _ _ t7 b hb;exact(Zk I9 (We _ (qo hb e))).2
   |true =>
    rw[if_pos rfl] at q9 ⊢;refine thn (helt _ _ _ _ _ s9 σ8 H9 _ I9 q9) λyv s10 ⟨y,H10,I10,r10,lt,m',hm,w10⟩=>?_;obtain⟨g10,d10⟩:=Zk I10 (ue _ (Ub.mpr rfl));have t10:tn (i+1) s10.heap:=keep _ _ _ t7 λb hb o e=>(Zk I10 (We _ (qo hb e))).1;have n10:∀ b∈fp,H10 b=none:=λb hb=>by
     obtain⟨o,e,_⟩:=obj _ _ t7 b hb;exact(Zk I10 (We _ (qo hb e))).2
    have I10':Inv (cxC X cs N' C s3 H2 (D::fp)) [] σ8 H10 s10:=I10.pins_of λp hp=>nomatch hp;have lys:ys.size=acc.length:=by have:=v5.length;simp at this;lia
    refine wpAny_list_append_plain (hsz:=by lia) (show s10.heap.PlainList D ys from⟨k,g10⟩) λh11 p11 sb11=>?_;obtain⟨_,a1,a2,a3,a4,a5⟩:=fpY (pl:=[]) (H':=H10) (b:=D) Wi d10 λp hp=>nomatch hp;obtain⟨k11,g11⟩:=p11;refine⟨m',hm,i+1,acc++[y],ys.push yv,k11,σ8,H10,I10'.turned (t':=s10.toks) (it:=D) (λb o hb e=>(sb11.2 b hb).trans e) d10 a1 a3 a4 a5,keep _ _ _ t10 λb hb o e=>(sb11.2 b (vc (ltf b hb))).trans e,n10,d10,g11,?_,by rw[Vf,wA];exact lt,w10⟩;rw[Array.toList_push];exact v5.append (.cons r10 .nil)
 have R1:∀ tk,codeAny (model X.prog X.w) X.A (.compStart (.ListComp elt [⟨tg,iter,ifs,0⟩] cs pos) 0 (.ref it) (.ref D) (cxC X cs N' C s3 H2 (D::fp)).env) (RR (.ref D) C) {s3 with heap:=h1,toks:=tk}:=λtk =>
  codeAny_compStart_list (lp tk) (self _ 0 _ _ _ (keep _ _ _ st2 λb hb o e=>up4 b o (up3 b o e)) (lp tk))
 have R2:=R1 s2.toks;rw[<- es4] at R2;subst hD;rw[hC,es3] at R2;exact R2
end
section
variable {X:Cx} {pins:List (Addr×Obj)} {σ:L2.St} {H:Hp} {s:Shared} {h':Heap}
theorem yo{t':Nat}{ch:List Addr}(I:Inv X pins σ H s)(f:∀ b∈ch,YM X pins H b)(k:∀ b o,b∉ch->s.heap.get? b=some o->h'.get? b=some o):Inv X pins σ H {s with heap:=h',toks:=t'}:=by
 have nt:∀ b u,H b=some u->b∉ch:=λb u e z=>by
  have q:=(f b z).1;rw[e] at q;cases q
 refine I.step (g':=s.gens) (d':=s.drawn) (ch:=ch) (λb hb=>?_) (λb o _ _ hc e _=>k b o hc e) (λb o _ _ hc e _=>⟨o.slots,k b o hc e⟩) (λ_ _ _ _ n=>n) (λb o hc e=>⟨o,k b o hc e⟩) (λ_ _ e=>e) (λ_ _ _ e=>e) (λb ps e=>⟨#[],by rw[e];simp⟩) (λm hm=>?_) (λb u e=>?_) I.bare
 ·obtain⟨_,f1,f2,f3,f4,f5⟩:=f b hb;exact⟨f3,f1,f4,f5⟩
 ·obtain⟨o,es,ep,ho,r⟩:=hm;exact⟨o,es,ep,k _ o (λz=>(f _ z).2.1 rfl) ho,r⟩
 ·refine(I.hok b u e).stay (λc v hc q=>k c v ?_ q) (λ_ q=>q) λ_ _ q=>q
  rcases hc with z|z
  ·rw[z];exact nt b u e
  ·exact nt c _ z
noncomputable def SqS(K:PySem.W.Frag)(H:Hp)(b:Bool)(a:Addr)(xs:List V):Prop:=if b=true then SqT K H a xs else SqL K H a xs
theorem Yq{b:Bool}{a:Addr}{xs:List V}(I:Inv X pins σ H s)(h:SqS X.K H b a xs):∃ its:List Value,Vals xs its/\SeqIs s.heap b a its.toArray/\xs.length<=sizeLine:=by
 cases b with
 |false=>obtain⟨its,r,p,z⟩:=I.list (show SqL X.K H a xs from h);exact⟨its,r,p.isList,z⟩
 |true=>obtain⟨its,r,p,z⟩:=I.tuple (show SqT X.K H a xs from h);exact⟨its,r,p,z⟩
theorem qQ{b:Bool}{a:Addr}{xs ys:List V}(I:Inv X pins σ H s)(h:SqS X.K H b a xs)(h':SqS X.K H b a ys):xs=ys:=by
 cases b with
 |false=>exact I.list_inj (show SqL X.K H a xs from h) h'
 |true=>exact I.tuple_inj (show SqT X.K H a xs from h) h'
noncomputable def Itz(K:PySem.W.Frag)(b1 b2:Bool)(a1 a2:Addr):It :=
 ⟨λi H=>∃ xs ys,SqS K H b1 a1 xs/\SqS K H b2 a2 ys/\i<xs.length/\i<ys.length,
 λi H x H'=>∃ T x1 y1,x=.ref T/\H T=none/\H'=upd H T (.tup [x1,y1])/\(∀ xs,SqS K H b1 a1 xs->xs[i]?=some x1)/\(∀ ys,SqS K H b2 a2 ys->ys[i]?=some y1),
 λi H=>∃ xs ys,SqS K H b1 a1 xs/\SqS K H b2 a2 ys/\(i=xs.length\/(i<xs.length/\i=ys.length))⟩
noncomputable def Ite(K:PySem.W.Frag)(b:Bool)(a:Addr):It :=
 ⟨λi H=>∃ xs,SqS K H b a xs/\i<xs.length,
 λi H x H'=>∃ T x1,x=.ref T/\H T=none/\H'=upd H T (.tup [.int i,x1])/\(∀ xs,SqS K H b a xs->xs[i]?=some x1),
 λi H=>∃ xs,SqS K H b a xs/\i=xs.length⟩
theorem qj{A:Around}(h:A.handled=none):A.in1.handled=none:=h
theorem qbD{P:Program}{w:World}{K:PySem.W.Frag}{es:List Expr}{kt:Nat}{pt:Pos}{b1 b2:Bool}{a1 a2 z TI TO i1 i2:Addr}(Z:∀ m,(∀ a∈[a1,a2],a<m)->(∀ a∈[z,TI,TO,i1,i2],m<=a)->ZAp z TI TO i1 i2 [i1,a1] [i2,a2])
  (m:Nat) (h1:∀ a∈[a1,a2],a<m) (h2:∀ a∈[z,TI,TO,i1,i2],m<=a) :
  Turn P w K (.Tuple es kt pt) (Itz K b1 b2 a1 a2) [z,TI,TO,i1,i2] z (λi h=>IsZip h z TI TO .none/\IsPair h TI (.ref i1) (.ref i2)/\(∃ a b,IsPair h TO a b)/\SeqIt h b1 i1 a1 i/\SeqIt h b2 i2 a2 i) where
 mem:=by simp
 obj:=λi h ⟨e1,e2,⟨a,b,e3⟩,e4,e5⟩ c hc=>by
  simp only[ua,uc,or_false] at hc
  rcases hc with rfl|rfl|rfl|rfl|rfl
  ·exact⟨_,e1,λv q=>nomatch q⟩
  ·exact⟨_,e2,λv q=>nomatch q⟩
  ·exact⟨_,e3,λv q=>nomatch q⟩
  ·exact e4.obj
  ·exact e5.obj
 keep:=λi h h' ⟨e1,e2,⟨a,b,e3⟩,e4,e5⟩ k=>⟨k z (by simp) _ e1,k TI (by simp) _ e2,⟨a,b,k TO (by simp) _ e3⟩,e4.keeps λo e=>k i1 (by simp) o e,e5.keeps λo e=>k i2 (by simp) o e⟩
 item:=by
  intro X hP hw hK hc i pins s σ H E I hf ⟨e1,e2,⟨a,b,e3⟩,e4,e5⟩ hg;subst hP hw hK;obtain⟨xs,ys,q1,q2,l1,l2⟩:=hg;obtain⟨its1,v1,p1,_⟩:=Yq I q1;obtain⟨its2,v2,p2,_⟩:=Yq I q2;have ZZ:=Z m h1 h2;have n1:a1≠i1:=vc (Xc (h1 a1 (by simp)) (h2 i1 (by simp)));have n2:a2≠i2:=vc (Xc (h1 a2 (by simp)) (h2 i2 (by simp)));have D1:=yH (prog:=X.prog) (w:=X.w) (qj (I.ok.hd hc)) b1 i1 a1 n1 its1.toArray;have D2:=yH (prog:=X.prog) (w:=X.w) (qj (I.ok.hd hc)) b2 i2 a2 n2 its2.toArray;have hl1:=v1.length;have hl2:=v2.length;refine zag ZZ D1 D2 e1 e2 e3 ⟨e4,p1⟩ ⟨e5,p2⟩ (by simp;lia) (by simp;lia) λx y g tk px py f1 f2 f3 f4 f5 f6 f7=>⟨_,rfl,?_⟩;refine wpAny_letOwnedTupleGo_zip (s:={s with heap:=g,toks:=tk}) f1 λg' f8 f9=>?_;obtain⟨x1,hx1⟩:∃ x1,xs[i]?=some x1:=⟨xs[i],by simp[l1]⟩;obtain⟨y1,hy1⟩:∃ y1,ys[i]?=some y1:=⟨ys[i],by simp[l2]⟩;obtain⟨u1,hu1,r1⟩:=v1.get hx1;obtain⟨u2,hu2,r2⟩:=v2.get hy1;have ex:x=u1:=by have z:its1.toArray[i]?=some x:=px;simp[hu1] at z;exact z.symm
  have ey:y=u2:=by have z:its2.toArray[i]?=some y:=py;simp[hu2] at z;exact z.symm
  subst ex ey;have zlt:z≠s.heap.objs.size:=vc (wb e1);have I1:Inv X pins σ H {s with heap:=g',toks:=tk}:=yo (ch:=[z,TI,TO,i1,i2]) I hf λc o hc' e=>by
   simp only[ua,uc,or_false,not_or] at hc';exact(f9.2 c hc'.1).trans (f7 c o hc'.1 hc'.2.2.1 hc'.2.2.2.1 hc'.2.2.2.2 e)
  have fT:=I.fpOk (b:=s.heap.objs.size) (vb _) (I.hok.fresh (vb _));have gT:g'.get? s.heap.objs.size=some {cls:=.type "tuple",data:=.seq #[x,y]}:=(f9.2 _ (Ne.symm zlt)).trans f5;have I2:Inv X pins σ (upd H s.heap.objs.size (.tup [x1,y1])) {s with heap:=g',toks:=tk}:=qac I1 fT I.sz ⟨by show 2<=sizeLine;decide,[x,y],.cons r1 (.cons r2 .nil),⟨_,gT,rfl,_,rfl⟩⟩;have kz:∀ c∈[TI,TO,i1,i2],c≠z:=λc hc'=>by
   simp only[ua,uc,or_false] at hc'
   rcases hc' with rfl|rfl|rfl|rfl
   ·exact ZZ.tiz
   ·exact ZZ.toz
   ·exactλq=>ZZ.z1 (q ▸ ZZ.m1)
   ·exactλq=>ZZ.z2 (q ▸ ZZ.m2)
  refine⟨.ref s.heap.objs.size,_,I2,rfl,⟨_,x1,y1,rfl,fT.1,rfl,λzs hz=>by rw[qQ I hz q1];exact hx1,λzs hz=>by rw[qQ I hz q2];exact hy1⟩,
   ⟨f8,(f9.2 TI (kz TI (by simp))).trans (f7 TI _ ZZ.tiz ZZ.tito ZZ.ti1 ZZ.ti2 e2),⟨x,y,(f9.2 TO (kz TO (by simp))).trans f2⟩,f3.1.keeps λo e=>(f9.2 i1 (kz i1 (by simp))).trans e,f4.1.keeps λo e=>(f9.2 i2 (kz i2 (by simp))).trans e⟩,λc hc'=>?_⟩
  have lt:c<s.heap.objs.size:=by
   simp only[ua,uc,or_false] at hc'
   rcases hc' with rfl|rfl|rfl|rfl|rfl
   ·exact wb e1
   ·exact wb e2
   ·exact wb e3
   ·exact let ⟨o,e,_⟩:=e4.obj;wb e
   ·exact let ⟨o,e,_⟩:=e5.obj;wb e
  rw[Zd (vc lt)];exact(hf c hc').1
 done:=by
  intro X hP hw hK hc i pins s σ H E I hf ⟨e1,e2,⟨a,b,e3⟩,e4,e5⟩ hg;subst hP hw hK;obtain⟨xs,ys,q1,q2,hk⟩:=hg;obtain⟨its1,v1,p1,_⟩:=Yq I q1;obtain⟨its2,v2,p2,_⟩:=Yq I q2;have ZZ:=Z m h1 h2;have n1:a1≠i1:=vc (Xc (h1 a1 (by simp)) (h2 i1 (by simp)));have n2:a2≠i2:=vc (Xc (h1 a2 (by simp)) (h2 i2 (by simp)));have D1:=yH (prog:=X.prog) (w:=X.w) (qj (I.ok.hd hc)) b1 i1 a1 n1 its1.toArray;have D2:=yH (prog:=X.prog) (w:=X.w) (qj (I.ok.hd hc)) b2 i2 a2 n2 its2.toArray;have hl1:=v1.length;have hl2:=v2.length;refine yaq ZZ D1 D2 e1 e2 e3 ⟨e4,p1⟩ ⟨e5,p2⟩ (by simp;lia) λg tk k=>⟨rfl,?_⟩;exact yo (ch:=[z,TI,TO,i1,i2]) I hf λc o hc' e=>by
   simp only[ua,uc,or_false,not_or] at hc';exact k c o hc'.1 hc'.2.2.1 hc'.2.2.2.1 hc'.2.2.2.2 e
 self:=λ_ _ _ _ _ st h=>wpAny_pyIter_zip st.1 h
theorem Zbv{P:Program}{w:World}{K:PySem.W.Frag}{es:List Expr}{kt:Nat}{pt:Pos}{b:Bool}{a e it:Addr}(h1:a≠it)(h2:a≠e)(h3:e≠it) :
  Turn P w K (.Tuple es kt pt) (Ite K b a) [e,it] e (λi h=>(∃ old,IsEnum h e it i old)/\SeqIt h b it a i) where
 mem:=by simp
 obj:=λi h ⟨⟨old,e1⟩,e2⟩ c hc=>by
  simp only[ua,uc,or_false] at hc
  rcases hc with rfl|rfl
  ·exact⟨_,e1,λv q=>nomatch q⟩
  ·exact e2.obj
 keep:=λi h h' ⟨⟨old,e1⟩,e2⟩ k=>⟨⟨old,k e (by simp) _ e1⟩,e2.keeps λo q=>k it (by simp) o q⟩
 item:=by
  intro X hP hw hK hc i pins s σ H E I hf ⟨⟨old,e1⟩,e2⟩ hg;subst hP hw hK;obtain⟨xs,q1,l1⟩:=hg;obtain⟨its1,v1,p1,_⟩:=Yq I q1;have D1:=yH (prog:=X.prog) (w:=X.w) (qj (I.ok.hd hc)) b it a h1 its1.toArray;have hl1:=v1.length;refine wpAny_pyNext_enum_itemD D1 e1 ⟨e2,p1⟩ (by simp;lia) h3 (by simp[h3,Ne.symm h2]) λx g tk px f1 f2 f3 f4 f5=>⟨_,rfl,?_⟩;refine wpAny_letOwnedTupleGo_enum (s:={s with heap:=g,toks:=tk+1}) f1 λg' f6 f7=>?_;obtain⟨x1,hx1⟩:∃ x1,xs[i]?=some x1:=⟨xs[i],by simp[l1]⟩;obtain⟨u1,hu1,r1⟩:=v1.get hx1;have ex:x=u1:=by have z:its1.toArray[i]?=some x:=px;simp[hu1] at z;exact z.symm
  subst ex;have elt:e≠s.heap.objs.size:=vc (wb e1);have I1:Inv X pins σ H {s with heap:=g',toks:=tk+1}:=yo (ch:=[e,it]) I hf λc o hc' q=>by
   simp only[ua,uc,or_false,not_or] at hc';exact(f7.2 c hc'.1).trans (f5 c o hc'.1 hc'.2 q)
  have fT:=I.fpOk (b:=s.heap.objs.size) (vb _) (I.hok.fresh (vb _));have gT:g'.get? s.heap.objs.size=some {cls:=.type "tuple",data:=.seq #[.int i tk,x]}:=(f7.2 _ (Ne.symm elt)).trans f3;have I2:Inv X pins σ (upd H s.heap.objs.size (.tup [.int i,x1])) {s with heap:=g',toks:=tk+1}:=qac I1 fT I.sz ⟨by show 2<=sizeLine;decide,[.int i tk,x],.cons ⟨_,rfl⟩ (.cons r1 .nil),⟨_,gT,rfl,_,rfl⟩⟩;refine⟨.ref s.heap.objs.size,_,I2,rfl,⟨_,x1,rfl,fT.1,rfl,λzs hz=>by rw[qQ I hz q1];exact hx1⟩,⟨⟨_,by have q:=f6;exact q⟩,f2.1.keeps λo q=>(f7.2 it (Ne.symm h3)).trans q⟩,λc hc'=>?_⟩;have lt:c<s.heap.objs.size:=by
   simp only[ua,uc,or_false] at hc'
   rcases hc' with rfl|rfl
   ·exact wb e1
   ·exact let ⟨o,q,_⟩:=e2.obj;wb q
  rw[Zd (vc lt)];exact(hf c hc').1
 done:=by
  intro X hP hw hK hc i pins s σ H E I hf ⟨⟨old,e1⟩,e2⟩ hg;subst hP hw hK;obtain⟨xs,q1,hk⟩:=hg;obtain⟨its1,v1,p1,_⟩:=Yq I q1;have D1:=yH (prog:=X.prog) (w:=X.w) (qj (I.ok.hd hc)) b it a h1 its1.toArray;have hl1:=v1.length;refine wpAny_pyNext_enum_endD D1 e1 (by rw[show its1.toArray.size=i from by simp;lia];exact⟨e2,p1⟩) λg k=>⟨rfl,?_⟩;exact yo (t':=s.toks) (ch:=[e,it]) I hf λc o hc' q=>by
   simp only[ua,uc,or_false,not_or] at hc';exact k c o hc'.2 q
 self:=λ_ _ _ _ _ st h=>let ⟨_,e1⟩:=st.1;wpAny_pyIter_enum e1 h
end
section
variable {X:Cx}
theorem Ybe{tg:Expr}{J:It}{fp:List Addr}{it:Addr}{tn:Nat->Heap->Prop}(hc:X.calm=true)(T:Turn X.prog X.w X.K tg J fp it tn):qbF X tg J fp it tn :=
 λY e1 e2 e3 e4 e5 i pins s σ H E I f t g=>by
  have q:=T.item Y e1 e2 e3 (e4.trans hc) i pins s σ H E I f t g;rw[e5] at q;exact q
theorem zbg{tg:Expr}{J:It}{fp:List Addr}{it:Addr}{tn:Nat->Heap->Prop}(hc:X.calm=true)(T:Turn X.prog X.w X.K tg J fp it tn):Zby X J fp it tn :=
 λY e1 e2 e3 e4 e5 _ i pins s σ H E I f t g=>by
  have q:=T.done Y e1 e2 e3 (e4.trans hc) i pins s σ H E I f t g;rw[e5] at q;exact q
variable {elt iter tg:Expr} {ifs:List Expr} {cs:Scope} {pos:Pos} {wi:TI} {g:TG} {tc:TT} {te:TE}
theorem zbX(N':List Str)(ncv:Nat)(js:List Nat)(hok:qv X.env.scope X.N cs N' ncv js=true)(hc:X.calm=true)(hi:PI X tg iter wi)(hg:∀ C s3 H ex,PG (cxC X cs N' C s3 H ex) tg g)(hif:∀ C s3 H ex,PIf (cxC X cs N' C s3 H ex) ifs tc)
  (helt:∀ C s3 H ex,PE (cxC X cs N' C s3 H ex) elt te) (hs:∀ x,foldedSetIterable iter X.env x=pure x:=by intro _;rfl):PE X (.ListComp elt [⟨tg,iter,ifs,0⟩] cs pos) (Zbf wi ncv js g tc te):=by
 intro pins s σ H Q I h;have ok:=CompOk.of hok;rw[eval_ListComp];refine wpAny_comprehension_free (use:=none) rfl hs (qW λy hy e=>I.ok.has y.1 (ok.free y hy e)) ok.kind ok.locs (thn (hi pins s σ H _ I h) λv s1 h1=>thn h1 λitv s2 h2=>?_);obtain⟨it,fp,tn,J,H2,e,I2,T,st2,f2,W,w0,turn⟩:=h2;subst e;refine yY (Q:=Q) (RR:=λacc C=>compPost (model X.prog X.w) X.A X.xe none (EP X pins σ Q) acc C) ok hg hif helt I2 T.mem T.obj T.keep (Ybe hc T) (zbg hc T) T.self st2 f2 W w0 turn λD C acc H' s6 IX fC zC hm q=>?_;obtain⟨m,hm⟩:=hm;refine⟨m,hm,λh' sb=>⟨.ref D,_,?_,rfl,q⟩⟩;exact yo (t':=s6.toks) (ch:=[C]) IX (λb hb=>by obtain rfl:=Ub.mp hb;exact fC) λb o hb e=>(sb.2 b λz=>hb (by simp[z])).trans e
theorem Yb4{i:Nat}{x:Str}{pos' spos:Pos}(hN:X.N.Nodup)(hi0:X.N[i]?=some x)(hx:Loc X.env.scope x)(N':List Str)(ncv:Nat)(js:List Nat)(hok:qv X.env.scope X.N cs N' ncv js=true)(hc:X.calm=true)(hi:PI X tg iter wi)
  (hg:∀ C s3 H ex,PG (cxC X cs N' C s3 H ex) tg g) (hif:∀ C s3 H ex,PIf (cxC X cs N' C s3 H ex) ifs tc) (helt:∀ C s3 H ex,PE (cxC X cs N' C s3 H ex) elt te)
  (hsw:swapsWith (.ListComp elt [⟨tg,iter,ifs,0⟩] cs pos) (some (.Name x pos')) spos.line X.env=pure true:=by rfl) (hs:∀ x,foldedSetIterable iter X.env x=pure x:=by intro _;rfl)
  (hf:X.fn x=true\/X.env.scope.names.lookup x=some .local:=by first|exact .inl rfl|exact .inr rfl|assumption) :
  PS X (.Assign [.Name x pos'] (.ListComp elt [⟨tg,iter,ifs,0⟩] cs pos) spos) (ZbC (Zbf wi ncv js g tc te) (yal i)):=by
 intro pins s σ H D0 I h;have ok:=CompOk.of hok;rw[exec_Assign_Name_used _ _ _ _ hsw];refine wpAny_bind (wpAny_standAt (wpAny_bind ?_));show wpAny _ X.A (do let _<-comprehension (.ListComp elt [⟨tg,iter,ifs,0⟩] cs pos) cs X.env _ (newList []) false (eval iter X.env) (some (assign (.Name x pos') X.env))) _ _ s;refine wpAny_bind (wpAny_mono (wpAny_comprehension_free (use:=some (assign (.Name x pos') X.env)) (Q:=λ_ s'=>SP X pins D0 .next s') rfl hs (qW λy hy e=>I.ok.has y.1 (ok.free y hy e)) ok.kind ok.locs (thn (hi pins s σ H _ I h) λv s1 h1=>thn h1 λitv s2 h2=>?_))
  (λ_ s' hq=>wpAny_pure (wpAny_pure hq)) λ_ _ e=>e)
 obtain⟨it,fp,tn,J,H2,e,I2,T,st2,f2,W,w0,turn⟩:=h2;subst e;refine yY (Q:=λv H'=>yal i v σ H' D0.nx) (RR:=λacc C=>compPost (model X.prog X.w) X.A X.xe (some (assign (.Name x pos') X.env)) (λ_ s'=>SP X pins D0 .next s') acc C) ok hg hif helt I2 T.mem T.obj T.keep (Ybe hc T) (zbg hc T) T.self st2 f2 W w0 turn λD C acc H' s6 IX fC zC hm q=>?_;obtain⟨m,hm⟩:=hm;obtain⟨oC,esC,epC,gC,dC,rC⟩:=id hm;have nc:∀ v,oC.data≠.cell v:=λv z=>by rw[dC] at z;cases z
 have IXp:=IX.pinned (fp:=[C]) (λb hb=>by obtain rfl:=Ub.mp hb;exact fC) (λb hb=>by obtain rfl:=Ub.mp hb;exact⟨oC,gC,nc⟩);show wpAny (model X.prog X.w) X.A (assign (.Name x pos') X.env (.ref D)) _ X.xe s6;refine thn (Zah hN hi0 hx hf _ s6 σ _ (.ref D) (.ref D) _ IXp rfl q) λ_ s7 ⟨σ7,H7,I7,q7⟩=>?_;obtain⟨g7,d7⟩:=Zk I7 (We _ (qo (Ub.mpr rfl) gC));refine⟨m,⟨oC,esC,epC,g7,dC,rC⟩,λh' sb=>⟨σ7,H7,?_,q7⟩⟩;obtain⟨_,c1,c2,c3,c4,c5⟩:=fC;exact yo (t':=s7.toks) (ch:=[C]) I7.unpinned (λb hb=>by obtain rfl:=Ub.mp hb;exact⟨d7,c1,c2,c3,c4,c5⟩) λb o hb e=>(sb.2 b λz=>hb (by simp[z])).trans e
theorem Qw{a b:Nat}(h:a<b\/b<a):a≠b:=by lia
theorem ZaB{a b c:Nat}(h1:a≠b)(h2:a≠c):(a:Addr)∉([b,c]:List Addr):=by
 simp only[ua,uc,or_false,not_or];exact⟨h1,h2⟩
theorem ybV(n a1 a2:Nat)(h1:a1<n)(h2:a2<n):ZAp (n+4) (n+2) (n+3) n (n+1) [n,a1] [n+1,a2] where
 tiz:=Qw (a:=n+2) (b:=n+4) (by lia)
 toz:=Qw (a:=n+3) (b:=n+4) (by lia)
 tito:=Qw (a:=n+2) (b:=n+3) (by lia)
 ti1:=Qw (a:=n+2) (b:=n) (by lia)
 ti2:=Qw (a:=n+2) (b:=n+1) (by lia)
 z1:=ZaB (Qw (by lia)) (Qw (by lia))
 z2:=ZaB (Qw (by lia)) (Qw (by lia))
 t1:=ZaB (Qw (by lia)) (Qw (by lia))
 t2:=ZaB (Qw (by lia)) (Qw (by lia))
 m1:=by simp
 m2:=by simp
 a1:=ZaB (Qw (by lia)) (Qw (by lia))
 a2:=ZaB (Qw (by lia)) (Qw (by lia))
theorem ge5{n b:Nat}(h:(b:Addr)∈([n+4,n+2,n+3,n,n+1]:List Addr)):n<=b:=by
 simp only[ua,uc,or_false] at h
 rcases h with h|h|h|h|h <;> (have h':b=_:=h;rw[h'];first|exact VD _ _|exact vb _)
theorem ge2{n b:Nat}(h:(b:Addr)∈([n+1,n]:List Addr)):n<=b:=by
 simp only[ua,uc,or_false] at h
 rcases h with h|h <;> (have h':b=_:=h;rw[h'];first|exact VD _ _|exact vb _)
noncomputable def iZip(K:PySem.W.Frag)(ta:TA):TI:=λσ H R=>ta σ H λvs H1=>∃ b1 b2 a1 a2,vs=[.ref a1,.ref a2]/\(∃ xs,SqS K H1 b1 a1 xs)/\(∃ ys,SqS K H1 b2 a2 ys)/\R (Itz K b1 b2 a1 a2) H1
noncomputable def Yb6(K:PySem.W.Frag)(ta:TA):TI:=λσ H R=>ta σ H λvs H1=>∃ b a,vs=[.ref a]/\(∃ xs,SqS K H1 b a xs)/\R (Ite K b a) H1
theorem Zcq{a b:Expr}{ta:TA}{p pos:Pos}{es:List Expr}{kt:Nat}{pt:Pos}(hg:Gl X "zip")(hm:X.mg "zip"=none)(ha:PA X [a,b] ta)(hs:starEach [a,b] X.env=[(false,eval a X.env),(false,eval b X.env)]:=by rfl)(hs2:starEach [b] X.env=[(false,eval b X.env)]:=by rfl) :
  PI X (.Tuple es kt pt) (.Call (.Name "zip" p) [a,b] [] pos) (iZip X.K ta):=by
 intro pins s σ H R I h;refine Call_ (yX I hg hm boot_zip (PyProof.Rows.callWith_type1 (thn (ha pos pins s σ H _ I h) λus s1 ⟨vs,H1,I1,r1,q1⟩=>?_) (by rw[hs,hs2]) (by rw[hs2];rfl)));obtain⟨b1,b2,a1,a2,e,⟨xs,h1⟩,⟨ys,h2⟩,q⟩:=q1;subst e;cases r1 with
 |cons r rr =>
  cases rr with
  |cons r' rr =>
   cases rr;obtain rfl:_=Value.ref a1:=r;obtain rfl:_=Value.ref a2:=r';obtain⟨its1,v1,p1,_⟩:=Yq I1 h1;obtain⟨its2,v2,p2,_⟩:=Yq I1 h2;have l1:=p1.lt;have l2:=p2.lt;refine QbQ p1 p2 λg f1 f2 f3 f4 f5 f6=>?_;refine wpAny_pyIter_zip f1 ?_;refine⟨s1.heap.objs.size+4,[s1.heap.objs.size+4,s1.heap.objs.size+2,s1.heap.objs.size+3,s1.heap.objs.size,s1.heap.objs.size+1],_,_,H1,rfl,I1.kept (t':=s1.toks) f6,qbD (b1:=b1) (b2:=b2) (a1:=a1) (a2:=a2) (λ_ _ _=>ybV _ a1 a2 l1 l2) s1.heap.objs.size (λa ha'=>?_) (λa ha'=>ge5 ha'),⟨f1,f2,⟨_,_,f3⟩,f4,f5⟩,λb hb=>I1.fpOk (ge5 hb) (I1.hok.fresh (ge5 hb)),q⟩;simp only[ua,uc,or_false] at ha'
   rcases ha' with rfl|rfl <;> assumption
theorem yb1{a:Expr}{ta:TA}{p pos:Pos}{es:List Expr}{kt:Nat}{pt:Pos}(hg:Gl X "enumerate")(hm:X.mg "enumerate"=none)(ha:PA X [a] ta)(hs:starEach [a] X.env=[(false,eval a X.env)]:=by rfl) :
  PI X (.Tuple es kt pt) (.Call (.Name "enumerate" p) [a] [] pos) (Yb6 X.K ta):=by
 intro pins s σ H R I h;refine Call_ (yX I hg hm boot_enumerate (PyProof.Rows.callWith_type1 (thn (ha pos pins s σ H _ I h) λus s1 ⟨vs,H1,I1,r1,q1⟩=>?_) hs rfl));obtain⟨b,l,e,⟨xs,h1⟩,q⟩:=q1;subst e;cases r1 with
 |cons r rr =>
  cases rr;obtain rfl:_=Value.ref l:=r;obtain⟨its1,v1,p1,_⟩:=Yq I1 h1;have l1:=p1.lt;refine qbr p1 λg f1 f2 f3=>?_;refine wpAny_pyIter_enum f1 ?_;exact⟨s1.heap.objs.size+1,[s1.heap.objs.size+1,s1.heap.objs.size],_,_,H1,rfl,I1.kept (t':=s1.toks) f3,Zbv (b:=b) (a:=l) (vc l1) (vc (Xm l1)) (Ul (xl _)),⟨⟨_,f1⟩,f2⟩,λc hc=>I1.fpOk (ge2 hc) (I1.hok.fresh (ge2 hc)),q⟩
end
noncomputable def CX1(P:Program)(w:World):CXT:=λouter H s E e s'=>∃ x C t tb H',e=.ref x/\s'.os=s.os/\AllBare s'.gens/\Un (frs outer) [] H H' s.heap s'.heap/\HOk P w H' s'.heap/\s'.heap.get? x=some (Yl C t tb)/\Tb s'.heap x tb /\
 H' x=none/\s.heap.get? x=none/\(∀ T,tb=.ref T->H' T=none/\s.heap.get? T=none)/\E (.ref C) none H'
structure ExOk (X:Cx) (pins:List (Addr×Obj)) (H:Hp) (b:Addr):Prop where
 un:H b=none
 loc:b≠X.env.locals
 fs:b∉X.fs
 new:X.s₀.heap.get? b=none
 cell:∀ x c,X.env.cells.lookup x=some c->c≠b
 pin:∀ p∈X.pn++pins,p.1≠b
noncomputable def Zbg(X:Cx)(E:XK):Prop:=∀(pins:List (Addr×Obj)) (σ:L2.St) (H:Hp) (s:Shared) (x C t:Addr) (tb:Value),Inv X pins σ H s->s.heap.get? x=some (Yl C t tb)->Tb s.heap x tb->ExOk X pins H x->(∀ T,tb=.ref T->ExOk X pins H T)->E (.ref C) none H->X.xe (.ref x) s
section
variable {X:Cx} {pins:List (Addr×Obj)} {σ:L2.St} {H H':Hp} {s:Shared}
theorem zO{b:Addr}(I:Inv X pins σ H s)(hx:X.ex=[])(hb:s.heap.get? b=none)(hn:H' b=none):ExOk X pins H' b:=by
 have al:∀{c o},s.heap.get? c=some o->c≠b:=λ{c o} e z=>by rw[z,hb] at e;cases e
 refine⟨hn,λz=>?_,λz=>?_,?_,λx c e=>?_,λp hp=>al (I.pin p hp).1⟩
 ·obtain⟨m,⟨o,_,_,e,_⟩,_⟩:=I.loc;exact al e z.symm
 ·obtain⟨_,o,e,_⟩:=I.funs.mem z;exact al e rfl
 ·cases q:X.s₀.heap.get? b with
  |none=>rfl
  |some o =>
   obtain⟨o',e⟩:=I.base.there b o q (by rw[hx];exactλz=>nomatch z);exact absurd rfl (al e)
 ·obtain⟨v,o,e,_⟩:=I.cell x c e;exact al e
theorem ybl{E:XK}(hx:X.ex=[])(T:Zbg X E):zcs (CX1 X.prog X.w) X E:=by
 intro pins σ H s e s' I h;obtain⟨x,C,t,tb,H',rfl,os,bare,un,hok,e1,e2,e3,e4,e5,q⟩:=h;have I':Inv X pins σ H' s':=I.call' (ch:=[]) os un hok bare λb z=>nomatch z;exact T pins σ H' s' x C t tb I' e1 e2 (zO I hx e4 e3) (λT' z=>zO I hx (e5 T' z).2 (e5 T' z).1) q
theorem yaw{P:Program}{w:World}{h h':Heap}{fs:List Addr}{x:Addr}{tb:Value}(ok:HOk P w H h)(n:Noted fs x tb h h')(hf:∀ b∈fs,H b=none)(hx:H x=none)(ht:∀ T,tb=.ref T->H T=none):HOk P w H h':=λb u e=>by
 have go:∀ c v,H c≠none->h.get? c=some v->h'.get? c=some v:=λc v hc q=>n.keep c v (λz=>hc (hf c z)) (λz=>hc (z ▸ hx)) (λz=>hc (ht c z.symm)) q;refine(ok b u e).stay (λc v hc q=>go c v ?_ q) (λ_ q=>q) λ_ _ q=>q
 rcases hc with z|z
 ·rw[z,e];exactλz=>nomatch z
 ·rw[z];exactλz=>nomatch z
theorem ZL{h h':Heap}{fs:List Addr}{x:Addr}{tb:Value}{b:Addr}{o:Obj}(n:Noted fs x tb h h')(h1:b≠x)(h2:Value.ref b≠tb)(e:h.get? b=some o):∃ sl,h'.get? b=some {o with slots:=sl}:=by
 by_cases z:b∈fs
 ·exact n.slot b o z h1 h2 e
 ·exact⟨o.slots,n.keep b o z h1 h2 e⟩
theorem yaP{fs fs' ex:List Addr}{H0:Hp}{h0 h h':Heap}{x:Addr}{tb:Value}(u:Un fs ex H0 H h0 h)(n:Noted fs' x tb h h')(hx:h0.get? x=none)(ht:∀ T,tb=.ref T->h0.get? T=none)(hs:∀ b o,h0.get? b=some o->b∉fs->b∉fs'):Un fs ex H0 H h0 h':=by
 have ne:∀ b o,h0.get? b=some o->b≠x/\Value.ref b≠tb:=λb o e=>⟨λz=>(by rw[z,hx] at e;cases e),λz=>(by rw[ht b z.symm] at e;cases e)⟩;refine⟨λb o e q hb hx'=>n.keep b o (hs b o e hb) (ne b o e).1 (ne b o e).2 (u.keep b o e q hb hx'),λb o e q hb hx'=>?_,u.free,λb o e hx'=>?_,u.tups,u.frzs,u.tbls⟩
 ·obtain⟨sl,z⟩:=u.slot b o e q hb hx';obtain⟨sl',z'⟩:=ZL n (ne b o e).1 (ne b o e).2 z;exact⟨sl',z'⟩
 ·obtain⟨o',z⟩:=u.there b o e hx';obtain⟨sl',z'⟩:=ZL n (ne b o e).1 (ne b o e).2 z;exact⟨_,z'⟩
theorem Yax(I:Inv X pins σ H s){b:Addr}{o:Obj}(e:X.s₀.heap.get? b=some o)(hb:b∉X.fs):b∉frs X.stack:=λz=>by
 rcases ua.mp (I.stkSub b z) with y|y
 ·exact absurd (Xc (wb e) I.ok.above) (by rw[y];exact xj _)
 ·exact hb y
theorem zbl{h':Heap}{x C t:Addr}{tb:Value}{t':Nat}(I:Inv X pins σ H s)(n:Noted (frs X.stack) x tb s.heap h')(he:s.heap.get? x=some (Yl C t tb))(htb:Tb s.heap x tb)(fx:ExOk X pins H x)(ft:∀ T,tb=.ref T->ExOk X pins H T):Inv X pins σ H {s with heap:=h',toks:=t'}:=by
 -- a thing that is no record is neither the exception nor its traceback
 have nrec:∀ b o,s.heap.get? b=some o->(∀ vs,o.data≠.fields vs)->b≠x/\Value.ref b≠tb:=λb o e nf=>by
  refine⟨λz=>?_,λz=>?_⟩
  ·rw[z,he] at e;cases e;exact nf _ rfl
  ·cases htb with
   |no=>cases z
   |@«at» T oT ts ne ho hd h3 =>
    cases z;rw[ho] at e;cases e;exact nf ts hd
 have cellK:∀ c v,s.heap.IsCell c v->h'.IsCell c v:=λc v ⟨o,ho,hd⟩=>by
  obtain⟨a,b⟩:=nrec c o ho λvs z=>by rw[hd] at z;cases z
  obtain⟨sl,q⟩:=ZL n a b ho;exact⟨_,q,hd⟩
 refine⟨I.ok,I.os,I.bare,yaP I.base n fx.new (λT z=>(ft T z).new) λb o e hb=>Yax I e hb,?_,λy c e=>?_,I.free,I.freeC,λp hp=>?_,yaw I.hok n I.stkFree fx.un λT z=>(ft T z).un,I.len⟩
 ·obtain⟨m,⟨o,es,ep,ho,hd,r⟩,hl⟩:=I.loc;obtain⟨a,b⟩:=nrec _ o ho λvs z=>by rw[hd] at z;cases z
  obtain⟨sl,q⟩:=ZL n a b ho;refine⟨m,⟨_,es,ep,q,hd,r⟩,λi y v e1 e2 e3=>?_⟩;obtain⟨u,ru,l⟩:=hl i y v e1 e2 e3;refine⟨u,ru,?_⟩
  rcases l with l|⟨k,c,e,z⟩
  ·exact .inl l
  ·exact .inr ⟨k,c,e,cellK c _ z⟩
 ·obtain⟨v,z⟩:=I.cell y c e;exact⟨v,cellK c v z⟩
 ·obtain⟨e1,e2,e3,e4,e5⟩:=I.pin p hp;refine⟨n.keep _ _ (λz=>?_) (fx.pin p hp) (λz=>(ft p.1 z.symm).pin p hp rfl) e1,e2,e3,e4,e5⟩
  rcases ua.mp (I.stkSub p.1 z) with y|y
  ·exact e3 y
  ·exact e4 y
end
theorem zaB{P:Program}{w:World}{K:PySem.W.Frag}{mg:Str->Option Value}{base:Heap}{N:List Str}{qual:Str}{scope:Scope}{f:Addr}{cd:Value}{A:Around}{outer:List Env}{s0:Shared}{H0:Hp}{E:XK} :
  Zbg (zZ (CX1 P w) P w K mg base N qual scope f cd A outer s0 H0 E) E:=by
 intro pins σ H s x C t tb I e1 e2 fx ft q;refine ybm (env:=envOfC qual scope s0.heap.objs.size f cd) (outer:=outer) (L:=s0.heap.objs.size) I.ok.frames I.stack rfl e1 e2 λh' T n g1 g2 g3=>?_;refine⟨x,C,t,.ref T,H,rfl,I.os,I.bare,yaP I.base n fx.new (λT z=>(ft T z).new) λb o e hb=>Yax I e hb,yaw I.hok n I.stkFree fx.un λT z=>(ft T z).un,g1,g2,fx.un,fx.new,λT' z=>?_,q⟩;cases z;exact⟨I.hok.fresh g3,UA (xf I.sz g3)⟩
theorem Qb2{P:Program}{w:World}{K:PySem.W.Frag}{mg:Str->Option Value}{base:Heap}{N:List Str}{qual:Str}{scope:Scope}{f:Addr}{cd:Value}{A:Around}{outer:List Env}{s0:Shared}{H0:Hp}{E:XK}{CX:CXT} :
  PassesOwn (model P w) (zZ CX P w K mg base N qual scope f cd A outer s0 H0 E).A (zZ CX P w K mg base N qual scope f cd A outer s0 H0 E).env (zZ CX P w K mg base N qual scope f cd A outer s0 H0 E).xe:=PassesOwn.leaving
abbrev bmV:List Value:=[.type "ValueError",.type "Exception",.type "BaseException",.type "object"]
noncomputable def QK(K:PySem.W.Frag)(C:Addr):Prop:=Ws K C bmV "ValueError.__new__"=true
noncomputable def zt(K:PySem.W.Frag)(C:Addr):List Value:=match K.lookup C with
 |some ⟨_,_,.cls cd,_⟩=>cd.mro.tail
 |_=>[]
theorem Q4{K:PySem.W.Frag}{h:Heap}{C:Addr}(KX:K.In h)(q:QK K C) :
  ∃ N nm qn bs hdct sn sub ab col dd k0 k1 k2 k3 k5 mN,h.get? C=some (excClassObj nm qn C N bs (zt K C) hdct sn sub ab col dd k0 k1 k2 k3 k5 "ValueError.__new__")/\h.Ns N mN/\mN "__init__"=none/\OwnTail h bmV (zt K C):=by
 unfold QK Ws at q;split at q
 next dd cd sl ho =>
  split at q
  next C' bm k0 k1 k2 k3 n k5 hm hs =>
   simp only[xa,beq_iff_eq,uj] at q;obtain⟨⟨⟨⟨⟨q1,q2⟩,q3⟩,q4⟩,q5⟩,q6⟩:=q;subst q1 q2;have emro:zt K C'=bm:=by unfold zt;rw[ho];dsimp only;rw[hm];rfl
   cases cd with
   |mk nm bs mro ns qn hd sn sub ab col del =>
    dsimp only at hm q3 q5 q6;subst hm q3;obtain⟨l⟩:=sl;dsimp only at hs;subst hs;rw[emro];exact⟨ns,nm,qn,bs,hd,sn,sub,ab,col,dd,k0,k1,k2,k3,k5,_,KX _ _ ho,.of_isNs (PySem.W.isNs_of_in KX q5),PySem.W.nsMap_none_of_in KX q5 q6,PySem.W.tail_of_in KX q4⟩
  next=>cases q
 next=>cases q
section
variable {X:Cx} {e:Expr} {es:List Expr} {ta:TA} {c:Str} {np cpos pos:Pos} {C:Addr} {E:XK}
noncomputable def Qcj(C:Addr)(E:XK)(ta:TA):TS:=λ_ σ H=>ta σ H λvs H1=>vs.length<=sizeLine/\E (.ref C) none H1
theorem Zbz(hc:X.calm=true)(hx:X.ex=[])(T:Zbg X E)(q:QK X.K C)(hg:Gl X c)(hm:X.mg c=some (.ref C))(ha:PA X (e::es) ta)(hd:(c==("__debug__":Str))=false:=by decide)
  (he:starEach (e::es) X.env=(false,eval e X.env)::starEach es X.env:=by rfl) (hpl:(backTo cpos (starEach es X.env)).any (·.1)=false:=by rfl) :
  PS X (.Raise (some (.Call (.Name c np) (e::es) [] cpos)) none pos) (Qcj C E ta):=by
 intro pins s σ H D I h;obtain⟨N,nm,qn,bs,hdct,sn,sub,ab,col,dd,k0,k1,k2,k3,k5,mN,oC,oN,ni,TL⟩:=Q4 I.ok.mod.kin q;refine wpAny_Raise_call_subT (C:=C) (nm:=nm) (q:=qn) (N:=N) (bs:=bs) (bm:=zt X.K C) (hdct:=hdct) (sn:=sn) (sub:=sub) (ab:=ab) (col:=col) (dd:=dd) (k0:=k0) (k1:=k1) (k2:=k2) (k3:=k3) (k5:=k5) (mN:=mN)
  PySem.F.excBase_ValueError (TL.hasType (by decide)) (I.ok.hd hc) (by rw[he];show(false||(backTo cpos (starEach es X.env)).any (·.1))=false;rw[hpl];rfl) ni (YK I hg hm ⟨rfl,?_⟩ hd)
 have hw:=ha cpos pins s σ H _ I h;rw[he] at hw ⊢;refine Calls.evalArgs_plain (wpAny_mono hw (λus s2 ⟨vs,H2,I2,r,z,q2⟩=>?_) λ_ _ y=>y);refine⟨rfl,by rw[<- r.length];exact z,I2.bk _ _ oC,oN.keeps I2.bk,TL.keeps I2.bk,λh' x hm'=>?_⟩;obtain⟨t,e1,e2,e3⟩:=hm'.there;have I3:Inv X pins σ H2 {s2 with heap:=h'}:=I2.kept (t':=s2.toks) hm'.keeps;have nx:H2 x=none:=by
  cases z:H2 x with
  |none=>rfl
  |some o =>
   obtain⟨o',e'⟩:∃ o',s2.heap.get? x=some o':=by
    have lt:=I2.hok x o z;cases q0:s2.heap.get? x with
    |some o'=>exact⟨o',rfl⟩
    |none =>
     exfalso;have z0:=lt;cases o with
     |lst xs=>obtain⟨_,_,_,_,e0⟩:=z0;rw[q0] at e0;cases e0
     |tup xs=>obtain⟨_,_,_,ob,e0,_⟩:=z0;rw[q0] at e0;cases e0
     |dK kvs=>obtain⟨_,_,_,_,ob,_,_,e0,_⟩:=z0;rw[q0] at e0;cases e0
     |dT kvs=>obtain⟨_,_,_,_,ob,_,_,e0,_⟩:=z0;rw[q0] at e0;cases e0
     |set S n=>obtain⟨ob,_,_,_,e0,_⟩:=z0;rw[q0] at e0;cases e0
     |ins C dx fs=>obtain⟨_,_,_,e0,_⟩:=z0;rw[q0] at e0;cases e0
     |own y=>obtain⟨_,e0⟩:=z0;rw[q0] at e0;cases e0
     |xd fs=>obtain⟨_,⟨_,_,_,e0,_⟩,_⟩:=z0;rw[q0] at e0;cases e0
     |rng lo hi=>obtain⟨_,_,_,e0⟩:=z0;rw[q0] at e0;cases e0
     |frz ob u=>obtain⟨e0,_⟩:=z0;rw[q0] at e0;cases e0
     |tbl ps=>have e0:s2.heap.get? x=some _:=z0;rw[q0] at e0;cases e0
     |met f y=>have e0:s2.heap.get? x=some _:=z0;rw[q0] at e0;cases e0
     |ext φ=>obtain⟨_,⟨_,e0⟩,_⟩:=z0;rw[q0] at e0;cases e0
   rw[hm'.new] at e';cases e'
 exact T pins σ H2 _ x C t .none I3 e1 .no (zO I2 hx hm'.new nx) (λT z=>nomatch z) q2
end
structure ExcK (K:PySem.W.Frag) (C:Addr):Prop where
 q:QK K C
 ga:Vc K (.ref C) "__getattribute__"=some (some (.builtin "BaseException.__getattribute__"))
 gt:Vc K (.ref C) "__getattr__"=some none
 cl:Vc K (.ref C) "__class__"=some (some (.builtin "object.__class__"))
 gn:uq K (.builtin "object.__class__") "__get__"=some (some (.builtin "getset_descriptor.__get__"))
 tk:Xt K (.builtin "object.__class__")=some true
 mo:Vp K C (.type "object")=some true
 ci:(Xe K C).isSome=true
noncomputable def ExcAt(x C:Addr)(h:Heap):Prop:=∃ t tb,h.get? x=some (Yl C t tb)
theorem YaU{x C t:Addr}{tb:Value}{h:Heap}(e:h.get? x=some (Yl C t tb)):PySem.W.InstAt h x (Yl C t tb) C none:=⟨e,rfl,rfl,True.intro⟩
theorem YaD{K:PySem.W.Frag}{C:Addr}{a g:Value}{name:Str}(hc:(Xe K C).isSome=true)(ha:Vc K (.ref C) name=some (some a))(hg:uq K a "__get__"=some (some g))(ht:Xt K a=some true) :
  PySem.W.findObj K C none name=some (.bind g a):=by
 obtain⟨cd,hc⟩:=uk.mp hc;unfold PySem.W.findObj;rw[hc,Uo,ha,Uo];simp[hg,ht]
theorem za3{K:PySem.W.Frag}{C:Addr}(ci:(Xe K C).isSome=true)(M:Model)(h:Heap)(X:K.In h):PySem.W.Looks M h (isType (.ref C)) true:=by
 unfold Xe at ci;split at ci
 next ho =>
  intro A' Q' E' s' k q;unfold isType loadHead;exact wpAny_bind (wpAny_loadPart (k _ _ (X _ _ ho)) (wpAny_pure q))
 next=>cases ci
theorem Zbo(v:Value):bindSpecial (.builtin "BaseException.__getattribute__") v=pure (.builtin "BaseException.__getattribute__",[v]):=PySem.F.attrBase_ValueError.ga.bind v
theorem Qbn{K:PySem.W.Frag}{C x t:Addr}{tb nameV:Value}(q:QK K C){M:Model}{A:Around}{E:Value->Shared->Prop}{Q:Unit->Shared->Prop}{s:Shared}(X:K.In s.heap)(e:s.heap.get? x=some (Yl C t tb))(hq:Q () s) :
  wpAny M A (checkBuiltinCall "BaseException.__getattribute__" ⟨[.ref x,nameV],[]⟩) Q E s:=by
 obtain⟨N,nm,qn,bs,hdct,sn,sub,ab,col,dd,k0,k1,k2,k3,k5,mN,oC,oN,ni,TL⟩:=Q4 X q;obtain⟨hh,g,d,tk,os⟩:=s;have hcB:(Value.ref C::zt K C).contains (.type "BaseException")=true:=by rw[ux,TL.hasType (show bmV.contains (.type "BaseException")=true by decide)];rfl
 have hk:builtinKind "BaseException.__getattribute__"=some .slot:=by decide +kernel
 have hsp:splitId "BaseException.__getattribute__"=some ("BaseException","__getattribute__"):=by decide +kernel
 have ha:=PySem.F.args_bexc_ga (.ref x) nameV;simp only[checkBuiltinCall,hk,hsp];refine wpAny_bind ?_;unfold isInstance
 repeat (first|(with_reducible refine wpAny_loadPart_at e ?_)|(with_reducible refine wpAny_isSubtype_exc oC ?_;rw[hcB])|wp_step)
 exact hq
theorem Ybp{K:PySem.W.Frag}{C x t:Addr}{tb:Value}(Z:ExcK K C){prog:Program}{w:World}{A:Around}{E:Value->Shared->Prop}{Q:Option Value->Shared->Prop}{s:Shared}(X:K.In s.heap)(e:s.heap.get? x=some (Yl C t tb))(k:Q (some (.ref C)) {s with toks:=s.toks+1}) :
  wpAny (model prog w) A (getAttr? (.ref x) "__class__") Q E s:=by
 have I:=YaU e;obtain⟨N,nm,qn,bs,hdct,sn,sub,ab,col,dd,k0,k1,k2,k3,k5,mN,oC,oN,ni,TL⟩:=Q4 X Z.q;obtain⟨hh,g,d,tk,os⟩:=s;have L0:=I.type (M:=model prog w);have L1:=wr (M:=model prog w) X Z.ga;have L2:=wr (M:=model prog w) X Z.gt;have L3:=PySem.W.looks_find (M:=model prog w) X I (YaD Z.ci Z.cl Z.gn Z.tk);have nb:(onTheHeap (Value.ref C)&&Value.builtin "BaseException.__getattribute__" == Value.builtin "object.__getattribute__")=false:=by
  rw[show(Value.builtin "BaseException.__getattribute__" == Value.builtin "object.__getattribute__")=false from by decide +kernel];rfl
 unfold getAttr? getAttrBy? getAttrBy;refine wpAny_bind (wpAny_mkText (wpAny_bind (wpAny_attempt (wpAny_holding (wpAny_bind (L0.at (wpAny_bind (L1.at ?_))))))));show wpAny _ _ (if(onTheHeap (Value.ref C)&&Value.builtin "BaseException.__getattribute__" == Value.builtin "object.__getattribute__")=true then _ else _) _ _ _;rw[if_neg (by rw[nb];exact Ud)];unfold getAttrByItsOwn hookBefore;rw[if_pos (show onTheHeap (Value.ref C)=true from rfl)];refine wpAny_bind (L2.at (wpAny_bind (wpAny_attempt (wpAny_holding ?_))));show wpAny _ _ (boundAndCalled (.builtin "BaseException.__getattribute__") (.ref x) _) _ _ _;unfold boundAndCalled;rw[Zbo];refine wpAny_bind (wpAny_pure (wpAny_call (codeAny_call_builtin PySem.F.attrBase_ValueError.ga.plain PySem.F.entry_bexc_ga ?_)));refine Qbn Z.q X e ?_;show wpAny _ _ (typeOf (.ref x) >>= _) _ _ _;refine wpAny_bind (L0.at (wpAny_bind (L3.at ?_)));show wpAny _ _ (Builtin.ObjectAttr.bindTo (.builtin "getset_descriptor.__get__") (.builtin "object.__class__") (.ref x) (.ref C)) _ _ _;unfold Builtin.ObjectAttr.bindTo;refine wpAny_bind (wpAny_holding (wpAny_call (PySem.W.class_get (ox:=Yl C t tb) (od:=none) X I Z.mo (wpAny_pure ?_))));exact PySem.W.handed_on rfl (wpAny_pure k)
theorem zbQ{K:PySem.W.Frag}{C x:Addr}(Z:ExcK K C):PySem.W.KitX K (.ref x) (.ref C) (ExcAt x C) where
 ty:=λM h _ ⟨t,tb,e⟩=>(YaU e).type
 it:=λM h X _=>za3 Z.ci M h X
 ne:=λh tp dd its n sl X htp=>by
  refine Bool.eq_false_iff.mpr λq=>?_;have e:C=tp:=Value.ref.inj (beq_iff_eq.mp q);subst e;have ci:=Z.ci;unfold Xe at ci;split at ci
  next ho =>
   have z:=(X _ _ ho).symm.trans htp;cases z
  next=>cases ci
 ca:=λX ⟨t,tb,e⟩ k=>Ybp Z X e k
section
variable {X:Cx} {pins:List (Addr×Obj)} {σ:L2.St} {H:Hp} {s:Shared}
theorem Qbt{i:Nat}{n:Str}{h':Heap}{t':Nat}(I:Inv X pins σ H s)(hN:X.N.Nodup)(hi:X.N[i]?=some n)
  {m m':Str->Option Value} (hn:s.heap.Ns X.env.locals m) (hl:∀(i:Nat)(x:Str)(v:V),X.N[i]?=some x->σ[i]?=some (some v)->Vis X.env.scope x->∃ u,RelV v u/\Look X.env s.heap m x u) (hn':h'.Ns X.env.locals m') (hm:∀ y,y≠n->m' y=m y) (hs:Heap.SameBut X.env.locals s.heap h'):Inv X pins (σ.set i none) H {s with heap:=h',toks:=t'}:=by
 obtain⟨oL,_,_,gL,_⟩:=id hn;have hiσ:i<σ.length:=by rw[I.len];exact(Xa.mp hi).1
 have nl:∀ b o,X.s₀.heap.get? b=some o->b≠X.env.locals:=λb o e=>vc (Xc (wb e) I.ok.above);refine⟨I.ok,I.os,I.bare,⟨λb o e q hb hx=>(hs.2 b (nl b o e)).trans (I.base.keep b o e q hb hx),λb o e q hb hx=>?_,I.base.free,λb o e hx=>?_,I.base.tups,I.base.frzs,I.base.tbls⟩,⟨m',hn',λj y v e1 e2 e3=>?_⟩,λy c e=>?_,I.free,I.freeC,λp hp=>?_,λb u e=>?_,by simpa using I.len⟩
 ·obtain⟨sl,z⟩:=I.base.slot b o e q hb hx;exact⟨sl,(hs.2 b (nl b o e)).trans z⟩
 ·obtain⟨o',z⟩:=I.base.there b o e hx;exact⟨o',(hs.2 b (nl b o e)).trans z⟩
 ·by_cases hj:j=i
  ·subst hj;rw[wg hiσ] at e2;cases e2
  ·rw[Uf (Ne.symm hj)] at e2;obtain⟨u,r,q⟩:=hl j y v e1 e2 e3;refine⟨u,r,?_⟩
   rcases q with ⟨k,e⟩|⟨k,c,e,z⟩
   ·exact .inl ⟨k,by rw[hm y λz=>hj (qal hN e1 (z ▸ hi))];exact e⟩
   ·exact .inr ⟨k,c,e,z.sameBut hs (I.cne y c e)⟩
 ·obtain⟨v,z⟩:=I.cell y c e;exact⟨v,z.sameBut hs (I.cne y c e)⟩
 ·obtain⟨e,q,ne,nf,d⟩:=I.pin p hp;exact⟨(hs.2 p.1 ne).trans e,q,ne,nf,d⟩
 ·refine(I.hok b u e).stay (λc v hc q=>(hs.2 c ?_).trans q) (λ_ q=>q) λ_ _ q=>q;rintro rfl
  rcases hc with rfl|hc
  ·rw[I.free] at e;cases e
  ·rw[I.free] at hc;cases hc
theorem QR{i:Nat}{n:Str}{pos:Pos}{A:Around}{E:Value->Shared->Prop}{Q:Unit->Shared->Prop}(I:Inv X pins σ H s)(hN:X.N.Nodup)(hi:X.N[i]?=some n)(hk:X.env.scope.names.lookup n=some .local)
  (h:∀ s',Inv X pins (σ.set i none) H s'->Q () s'):wpAny (model X.prog X.w) A (do bindName X.env n .none;unbindBehindTheSuite X.env n pos) Q E s:=by
 have hp:(X.env.scope.kind == .class||(X.env.scope.kind == .module&&X.env.locals != X.env.globals))=false:=by rw[I.ok.kind];rfl
 obtain⟨m,hn,hl⟩:=id I.loc;refine wpAny_bind (wpAny_bindName (wpAny_storeName_local hk hn (λh1 n1 s1=>?_) hp));unfold unbindBehindTheSuite;refine wpAny_onRaise (wpAny_unbindName_local hk n1 (v:=.none) (by simp) hp λh2 u n2 s2=>h _ ?_);show Inv X pins (σ.set i none) H {s with heap:=h2,toks:=s.toks+1};exact Qbt (s:=s) I hN hi hn hl n2 (λy hy=>by simp[hy]) (s1.trans s2)
end
theorem yaN{K:PySem.W.Frag}{C B x t:Addr}{tb:Value}(q:QK K C)(qB:QK K B)(hin:(zt K C).contains (.ref B)=true){M:Model}{A:Around}{E:Value->Shared->Prop}{Q:Bool->Shared->Prop}{s:Shared}(X:K.In s.heap)(e:s.heap.get? x=some (Yl C t tb))(hq:Q true s) :
  wpAny M A (excMatches (.ref x) (.ref B)) Q E s:=by
 obtain⟨N,nm,qn,bs,hdct,sn,sub,ab,col,dd,k0,k1,k2,k3,k5,mN,oC,oN,ni,TL⟩:=Q4 X q;obtain⟨N',nm',qn',bs',hdct',sn',sub',ab',col',dd',k0',k1',k2',k3',k5',mN',oB,oN',ni',TL'⟩:=Q4 X qB;obtain⟨hh,g,d,tk,os⟩:=s;have hB:(Value.ref B::zt K B).contains (.type "BaseException")=true:=by rw[ux,TL'.hasType (show bmV.contains (.type "BaseException")=true by decide)];rfl
 have hC:(Value.ref C::zt K C).contains (.ref B)=true:=by rw[ux,hin,Bool.or_true]
 have f:=tc_notTuple;unfold excMatches
 repeat (first|(with_reducible refine wpAny_loadPart_at e ?_)|(with_reducible refine wpAny_loadPart_at oB ?_)|(with_reducible refine wpAny_isSubtype_exc oB ?_;rw[hB])|(with_reducible refine wpAny_isSubtype_exc oC ?_;rw[hC])|wp_step)
 exact hq
noncomputable def Wt(X:Cx)(pins:List (Addr×Obj))(σ:L2.St)(E:XK):Value->Shared->Prop:=λe s'=>∃ x C t tb H',e=.ref x/\Inv X pins σ H' s'/\s'.heap.get? x=some (Yl C t tb)/\Tb s'.heap x tb/\ExOk X pins H' x/\(∀ T,tb=.ref T->ExOk X pins H' T)/\E (.ref C) none H'
noncomputable def cxT(X:Cx)(pins:List (Addr×Obj))(σ:L2.St)(E:XK):Cx:={X with pn:=X.pn++pins,xe:=Wt X pins σ E}
section
variable {X:Cx} {pins pl:List (Addr×Obj)} {σ σ0:L2.St} {H:Hp} {s:Shared} {E:XK}
theorem ybU(I:Inv X pins σ H s):Inv (cxT X pins σ0 E) [] σ H s :=
 ⟨⟨I.ok.mod,I.ok.kind,I.ok.glob,I.ok.blt,I.ok.above,I.ok.inj,I.ok.has,I.ok.cab,I.ok.hd,I.ok.frames,I.ok.stk,I.ok.exf,I.ok.bs,I.ok.bsz,I.ok.noex,I.ok.exfs,I.ok.funs,I.ok.frf⟩,I.os,I.bare,I.base,I.loc,I.cell,I.free,I.freeC,λp hp=>I.pin p (by rw[Uj] at hp;exact hp),I.hok,I.len⟩
theorem QZ(I:Inv (cxT X pins σ0 E) pl σ H s):Inv X pins σ H s :=
 ⟨⟨I.ok.mod,I.ok.kind,I.ok.glob,I.ok.blt,I.ok.above,I.ok.inj,I.ok.has,I.ok.cab,I.ok.hd,I.ok.frames,I.ok.stk,I.ok.exf,I.ok.bs,I.ok.bsz,I.ok.noex,I.ok.exfs,I.ok.funs,I.ok.frf⟩,I.os,I.bare,I.base,I.loc,I.cell,I.free,I.freeC,λp hp=>I.pin p (ue _ hp),I.hok,I.len⟩
theorem ZaT{b:Addr}(f:ExOk (cxT X pins σ0 E) pl H b):ExOk X pins H b:=⟨f.un,f.loc,f.fs,f.new,f.cell,λp hp=>f.pin p (ue _ hp)⟩
noncomputable def zx(CX:CXT)(X:Cx)(σ:L2.St)(E:XK):Prop:=∀(pins:List (Addr×Obj)) (H:Hp) (s:Shared) (e:Value) (s':Shared),Inv X pins σ H s->CX X.stack H s E e s'->X.xe e s'
theorem za9(hx:X.ex=[]):zx (CX1 X.prog X.w) (cxT X pins σ E) σ E:=by
 intro pl H s e s' I h;obtain⟨x,C,t,tb,H',rfl,os,bare,un,hok,e1,e2,e3,e4,e5,q⟩:=h;have I':Inv (cxT X pins σ E) pl σ H' s':=I.call' (ch:=[]) os un hok bare λb z=>nomatch z;exact⟨x,C,t,tb,H',rfl,QZ I',e1,e2,ZaT (zO I hx e4 e3),λT' z=>ZaT (zO I hx (e5 T' z).2 (e5 T' z).1),q⟩
end
section
variable {X:Cx} {CX:CXT} {k:Nat} {f C:Addr} {fd:FuncData} {ps:List Str} {sp:Sp} {dvs:List V} {ds:List Value} {E:XK} {x m:Str} {p pos apos:Pos} {e o:Expr} {es:List Expr} {ta:TE} {t:TA} {σ0:L2.St}
theorem QbS{pins:List (Addr×Obj)}{H:Hp}{s:Shared}{Q:VK}{us:List Value}{vs:List V}(F:FnOk X.prog X.w X.K X.mg X.base CX k f fd ps sp)(hr:Room k X.A)(hb:Binds X.K fd ps ds)(hd:Vals dvs ds)(hx:zx CX X σ0 E)
  (I:Inv X pins σ0 H s) (r:Vals vs us) (h:sp (vs++dvs) H Q E):wpAny (model X.prog X.w) X.A (call (.ref f) us) (EP X pins σ0 Q) X.xe s:=by
 have r2:Vals (vs++dvs) (us++ds):=r.append hd;have hl:(us++ds).length=ps.length:=by rw[<- r2.length];exact F.len _ _ _ _ h
 refine wpAny_call (codeAny_mono (F.run X.A X.stack s H ⟨us,[]⟩ (us++ds) (vs++dvs) Q E hr I.env0 (hb s us I.kIn hl) r2 h) λr s' hq=>?_);cases r with
 |error e=>exact hx pins H s e s' I hq
 |ok fl =>
  cases fl with
  |ret u=>exact I.after hq
  |next=>exact False.elim hq
  |brk=>exact False.elim hq
  |cont=>exact False.elim hq
noncomputable def qbz(σ0:L2.St)(sp:Sp)(dvs:List V)(E:XK)(t:TA):TE:=λσ H Q=>σ=σ0/\t σ H λvs H1=>sp (vs++dvs) H1 Q E
theorem ZbE(F:FnOk X.prog X.w X.K X.mg X.base CX k f fd ps sp)(hr:Room k X.A)(hg:Gl X x)(hm:X.mg x=some (.ref f))(hk:Ug X.K (.ref f)=true)(hb:Binds X.K fd ps ds)(hd:Vals dvs ds)(hx:zx CX X σ0 E)
  (ha:PA X (e::es) t) (hdb:(x==("__debug__":Str))=false:=by decide) (he:starEach (e::es) X.env=(false,eval e X.env)::starEach es X.env:=by rfl) (hpl:(backTo pos (starEach es X.env)).any (·.1)=false:=by rfl) :
  PE X (.Call (.Name x p) (e::es) [] pos) (qbz σ0 sp dvs E t):=by
 intro pins s σ H Q I h;obtain⟨rfl,h⟩:=h;refine wpAny_Call_Name_kw (YK I hg hm ?_ hdb);refine Ux (h₀:=X.base) I.ok.mod.kin hk (thn (ha pos pins s σ H _ I h) λus s1 ⟨vs,H1,I1,r,q⟩=>⟨I1.kIn,?_⟩) he hpl;exact QbS F hr hb hd hx I1 r q
theorem Zbr{pins:List (Addr×Obj)}{H:Hp}{s:Shared}{Q:VK}{us:List Value}{vs:List V}(M:Mk X.K C f)(F:FnOk X.prog X.w X.K X.mg X.base CX k f fd ps sp)(hr:Room (k+1) X.A)(hb:Binds X.K fd ps ds)(hd:Vals dvs ds)
  (hx:zx CX X σ0 E) (I:Inv X pins σ0 H s) (r:Vals vs us)
  (h:∀ x dx,H x=none->H dx=none->dx≠x->sp (.ref x::(vs++dvs)) (upd (upd H dx (.own x)) x (.ins C dx [])) (λv H2=>v=.non/\Q (.ref x) H2) E) :
  wpAny (model X.prog X.w) X.A (call (.ref C) us) (EP X pins σ0 Q) X.xe s:=by
 have hq:=h (s.heap.objs.size+1) s.heap.objs.size (I.hok.fresh (vz _)) (I.hok.fresh (vb _)) (vc (xl _));have I2:=Inv.made (C:=C) I;have r2:Vals (V.ref (s.heap.objs.size+1)::(vs++dvs)) (Value.ref (s.heap.objs.size+1)::(us++ds)):=.cons rfl (r.append hd);have hl:(Value.ref (s.heap.objs.size+1)::us++ds).length=ps.length:=by
  have e:=r2.length;rw[F.len _ _ _ _ hq] at e;exact e.symm
 refine wpAny_call (Zbw (f:=f) I.kIn M.makes M.init (beq_iff_eq.mp M.fn) (codeAny_mono (F.run _ X.stack _ _ ⟨Value.ref (s.heap.objs.size+1)::us,[]⟩ (Value.ref (s.heap.objs.size+1)::(us++ds)) _ _ E (hr.make C us [])
  (I2.env0.make C us []) (hb _ (Value.ref (s.heap.objs.size+1)::us) I2.kIn hl) r2 hq) λr s' hq'=>?_))
 cases r with
 |error e=>exact hx pins _ _ e s' I2 hq'
 |ok fl =>
  cases fl with
  |ret u =>
   obtain⟨v,H',I3,rv,ev,q3⟩:=I2.after hq';subst ev;exact⟨rv,⟨V.ref (s.heap.objs.size+1),H',I3,rfl,q3⟩⟩
  |next=>exact False.elim hq'
  |brk=>exact False.elim hq'
  |cont=>exact False.elim hq'
noncomputable def YbH(σ0:L2.St)(C:Addr)(sp:Sp)(dvs:List V)(E:XK)(t:TA):TE:=λσ H Q=>σ=σ0/\t σ H λvs H1=>∀ x dx,H1 x=none->H1 dx=none->dx≠x ->
 sp (.ref x::(vs++dvs)) (upd (upd H1 dx (.own x)) x (.ins C dx [])) (λv H2=>v=.non/\Q (.ref x) H2) E
theorem ZbI(M:Mk X.K C f)(F:FnOk X.prog X.w X.K X.mg X.base CX k f fd ps sp)(hr:Room (k+1) X.A)(hg:Gl X x)(hm:X.mg x=some (.ref C))(hb:Binds X.K fd ps ds)(hd:Vals dvs ds)(hx:zx CX X σ0 E)
  (ha:PA X (e::es) t) (hdb:(x==("__debug__":Str))=false:=by decide) (he:starEach (e::es) X.env=(false,eval e X.env)::starEach es X.env:=by rfl) (hpl:(backTo pos (starEach es X.env)).any (·.1)=false:=by rfl) :
  PE X (.Call (.Name x p) (e::es) [] pos) (YbH σ0 C sp dvs E t):=by
 intro pins s σ H Q I h;obtain⟨rfl,h⟩:=h;refine wpAny_Call_Name_kw (YK I hg hm ?_ hdb);refine Ux (h₀:=X.base) I.ok.mod.kin M.kp (thn (ha pos pins s σ H _ I h) λus s1 ⟨vs,H1,I1,r,q⟩=>⟨I1.kIn,?_⟩) he hpl;exact Zbr M F hr hb hd hx I1 r q
end
section
variable {M:Model} {A:Around} {E:Value->Shared->Prop} {s:Shared}
theorem Ya4{base:Heap}{env:Env}{outer:List Env}{L x C t:Addr}{tb:Value}{Q:Unit->Shared->Prop}
  (hfr:A.frames=some (env::outer)) (hl:s.heap.FunFrames base (env::outer)) (hf:env.frame=some L) (he:s.heap.get? x=some (Yl C t tb)) (ht:Tb s.heap x tb)
  (h:∀ h' T,Noted ((env::outer).filterMap (·.frame)) x tb s.heap h'->h'.get? x=some (Yl C t (.ref T))->Tb h' x (.ref T)->s.heap.objs.size<=T->Q () {s with heap:=h'}) :
  wpAny M A (noteFrame (.ref x) env) (λ_ s'=>wpAny M A (setFlight (.ref x) none) Q E s') E s:=by
 unfold noteFrame;simp only[hf];refine wpAny_bind (wpAny_field he rfl (x:=tb) rfl ?_);cases ht with
 |no =>
  rw[if_neg (by decide)];exact qK hfr hl hf he λh' T k1 k2 e1 e2 e3=>h h' T ⟨λb o hb nb _ eb=>k1 b o hb nb eb,λb o hb _ _ eb=>k2 b o hb eb⟩ e1 e2 e3
 |@«at» T o ts ne ho hd h3 =>
  rw[if_pos (show(Value.ref T != Value.none)=true from by simp)];refine wpAny_bind (wpAny_field ho hd h3 ?_);rw[if_neg (show ¬((Value.none==rawInt L)=true) from by simp[rawInt])];refine wpAny_bind (wpAny_setField ho hd (Vr.mp h3).1 ?_);have other:∀ b,b≠T->(s.heap.update T (Obj.mapFields (·.setIfInBounds 3 Value.none))).get? b=s.heap.get? b:=λb nb=>Uh _ _ (Ne.symm nb);have nrec:∀ b o,s.heap.get? b=some o->(∀ vs,o.data≠.fields vs)->b≠T:=λb o eb nf z=>by
   rw[z,ho] at eb;cases eb;exact nf ts hd
  refine qK (s:={s with heap:=s.heap.update T (Obj.mapFields (·.setIfInBounds 3 Value.none))}) hfr (hl.of_keeps λb o eb nf=>⟨o,(other b (nrec b o eb nf)).trans eb,rfl⟩) hf ((other x (Ne.symm ne)).trans he)
   λh' T' k1 k2 e1 e2 e3=>h h' T' ⟨λb o hb nb nt eb=>k1 b o hb nb ((other b λz=>nt (z ▸ rfl)).trans eb),λb o hb _ nt eb=>k2 b o hb ((other b λz=>nt (z ▸ rfl)).trans eb)⟩ e1 e2 ?_
  have e3':(s.heap.update T (Obj.mapFields (·.setIfInBounds 3 Value.none))).objs.size<=T':=e3;rw[Uz] at e3';exact e3'
theorem QaS{x C t T:Addr}{Q:Unit->Shared->Prop}(he:s.heap.get? x=some (Yl C t (.ref T)))(ht:Tb s.heap x (.ref T))(h:Q () s):wpAny M A (setFlight (.ref x) none) Q E s:=by
 cases ht with
 |@«at» _ o ts ne ho hd h3 =>
  refine wpAny_setFlight_none he rfl rfl ho hd (Vr.mp h3).1 ?_;have e:=Heap.update_setField_same s.heap T o ts 3 .none ho hd h3;have e':({s with heap:=s.heap.update T (Obj.mapFields (·.setIfInBounds 3 Value.none))}:Shared)=s:=by rw[e]
  rw[e'];exact h
end
noncomputable def cxH(X:Cx)(x:Addr)(o:Obj):Cx:={X with A:=X.A.mark (some (.ref x)),calm:=false,pn:=X.pn++[(x,o)],xe:=λ_ _=>False}
section
variable {X:Cx} {pins:List (Addr×Obj)} {σ:L2.St} {H:Hp} {s:Shared} {x:Addr} {o:Obj}
theorem zbW(I:Inv X pins σ H s)(g:s.heap.get? x=some o)(f:ExOk X pins H x)(d:∀ v,o.data≠.cell v):Inv (cxH X x o) pins σ H s :=
 ⟨⟨I.ok.mod,I.ok.kind,I.ok.glob,I.ok.blt,I.ok.above,I.ok.inj,I.ok.has,I.ok.cab,λz=>absurd (show false=true from z) Ud,I.ok.frames,I.ok.stk,I.ok.exf,I.ok.bs,I.ok.bsz,I.ok.noex,I.ok.exfs,I.ok.funs,I.ok.frf⟩,I.os,I.bare,I.base,I.loc,I.cell,I.free,I.freeC,λp hp=>by
  rcases Xf.mp hp with hp|hp
  ·rcases Xf.mp hp with hp|hp
   ·exact I.pin p (ue _ hp)
   ·obtain rfl:=Ub.mp hp;exact⟨g,f.un,f.loc,f.fs,d⟩
  ·exact I.pin p (We _ hp),I.hok,I.len⟩
theorem Zaj(ok:X.Ok)(I:Inv (cxH X x o) pins σ H s):Inv X pins σ H s :=
 ⟨ok,I.os,I.bare,I.base,I.loc,I.cell,I.free,I.freeC,λp hp=>by
  rcases Xf.mp hp with hp|hp
  ·exact I.pin p (ue _ (ue _ hp))
  ·exact I.pin p (We _ hp),I.hok,I.len⟩
end
section
variable {X:Cx} {body suite:List Stmt} {c0 n:Str} {b0:Stmt} {np hpos pos:Pos} {i:Nat} {B:Addr} {tb:L2.St->XK->TS} {th:Addr->Addr->Addr->Addr->TS}
noncomputable def tTry(K:PySem.W.Frag)(i:Nat)(B:Addr)(tb:L2.St->XK->TS)(th:Addr->Addr->Addr->Addr->TS):TS:=λD σ H=>∃ E:XK,tb σ E D σ H/\∀ C H',E (.ref C) none H'->QK K C/\(zt K C).contains (.ref B)=true /\
 ∀ x t T,H' x=none->th x C t T {nx:=λσ' H2=>D.nx (σ'.set i none) H2,rt:=D.rt,bk:=λσ' H2=>D.bk (σ'.set i none) H2,ct:=λσ' H2=>D.ct (σ'.set i none) H2} (σ.set i (some (.ref x))) H'
theorem Qcs(hst:X.stack=X.env::X.outer)(hef:X.env.frame=some X.env.locals)(hN:X.N.Nodup)(hi:X.N[i]?=some n)(hk:X.env.scope.names.lookup n=some .local)(qB:QK X.K B)(hg:Gl X c0)(hm:X.mg c0=some (.ref B))
  (hb:∀ pins σ E,PSs (cxT X pins σ E) body (tb σ E)) (hh:∀ x C t T,PSs (cxH X x (Yl C t (.ref T))) (b0::suite) (th x C t T)) (hd:(c0==("__debug__":Str))=false:=by decide) :
  PS X (.Try body [.ExceptHandler (some (.Name c0 np)) (some n) (b0::suite) hpos] [] [] pos) (tTry X.K i B tb th):=by
 intro pins s σ H D I h;obtain⟨E,hbod,hand⟩:=h;refine wpAny_Try_except (wpAny_mono (hb pins σ E [] s σ H D (ybU I) hbod) (λf s1 q=>?_) λe s1 q=>?_)
 ·cases f with
  |next=>obtain⟨σ',H',I',q⟩:=q;exact wpAny_execs_nil ⟨σ',H',QZ I',q⟩
  |brk=>obtain⟨σ',H',I',q⟩:=q;exact⟨σ',H',QZ I',q⟩
  |cont=>obtain⟨σ',H',I',q⟩:=q;exact⟨σ',H',QZ I',q⟩
  |ret u=>obtain⟨v,σ',H',I',r,q⟩:=q;exact⟨v,σ',H',QZ I',r,q⟩
 ·obtain⟨x,C,t,tb',H',rfl,I1,g1,t1,fx,ft,q⟩:=q;obtain⟨qC,hin,hand⟩:=hand C H' q;refine Ya4 (env:=X.env) (outer:=X.outer) (L:=X.env.locals) (by rw[I1.ok.frames,hst]) (by have z:=I1.stack;rw[hst] at z;exact z) hef g1 t1 λh' T n1 g2 t2 g3=>?_;have n1':Noted (frs X.stack) x tb' s1.heap h':=by rw[hst];exact n1
  have I2:Inv X pins σ H' {s1 with heap:=h'}:=zbl (t':=s1.toks) I1 n1' g1 t1 fx ft;have IH:=zbW (o:=Yl C t (.ref T)) I2 g2 fx (λv z=>nomatch z);refine wpAny_handleBy_cons (codeAny_handlers_test (YK (X:=cxH X x (Yl C t (.ref T))) IH hg hm ?_ hd)) (λz=>nomatch z);refine yaN qC qB hin IH.kIn g2 (codeAny_handlers_suite_as (QaS g2 t2 ?_));refine Zao (X:=cxH X x (Yl C t (.ref T))) IH hN hi (.inl hk) (v:=.ref x) (u:=.ref x) rfl (λs3 I3=>?_) (.inr hk);refine wpAny_mono (hh x C t T pins s3 _ H' _ I3 (hand x t T fx.un)) (λf s4 q4=>?_) λ_ _ z=>z.elim;cases f with
  |next=>obtain⟨σ4,H4,I4,q4⟩:=q4;exact QR (Zaj I.ok I4) hN hi hk λs5 I5=>⟨_,H4,I5,q4⟩
  |brk=>obtain⟨σ4,H4,I4,q4⟩:=q4;exact QR (Zaj I.ok I4) hN hi hk λs5 I5=>⟨_,H4,I5,q4⟩
  |cont=>obtain⟨σ4,H4,I4,q4⟩:=q4;exact QR (Zaj I.ok I4) hN hi hk λs5 I5=>⟨_,H4,I5,q4⟩
  |ret u=>obtain⟨v,σ4,H4,I4,r4,q4⟩:=q4;exact QR (Zaj I.ok I4) hN hi hk λs5 I5=>⟨v,_,H4,I5,r4,q4⟩
end
structure FunD (K:PySem.W.Frag) (x qual:Str) (st:Stmt) (f:Addr) (fd:FuncData):Prop where
 ex:∃(oc:Value)(od:Option Addr)(dV kV doc pm:Value)(an:Option Addr)(cdv ct:Value) (osl:Array (Option Value)),
  fd=Vi x qual (Qq st) (Qh st) (yb st) dV kV doc pm an cdv ct/\K.lookup f=some ⟨oc,od,.func fd,osl⟩/\xn K cdv qual=true
 kp:Ug K (.ref f)=true
theorem Yb1{K:PySem.W.Frag}{x qual:Str}{st:Stmt}{f:Addr}{oc:Value}{od an:Option Addr}{osl:Array (Option Value)}{dV kV doc pm cdv ct:Value}(l:K.lookup f=some ⟨oc,od,.func (Vi x qual (Qq st) (Qh st) (yb st) dV kV doc pm an cdv ct),osl⟩)
  (c:xn K cdv qual=true) (k:Ug K (.ref f)=true):FunD K x qual st f (Vi x qual (Qq st) (Qh st) (yb st) dV kV doc pm an cdv ct):=⟨⟨oc,od,dV,kV,doc,pm,an,cdv,ct,osl,rfl,l,c⟩,k⟩
structure RoomH (k:Nat) (A:Around) (x:Addr):Prop where
 hd:A.handled=some (.ref x)
 dp:A.depth+3*k+5<recursionLimit
 un:A.units+16*k+200<cLine
theorem RoomH.of{k:Nat}{A:Around}{x:Addr}(r:Room k A):RoomH k (A.mark (some (.ref x))) x:=⟨rfl,r.dp,r.un⟩
theorem RoomH.deeper{k:Nat}{A:Around}{x:Addr}(r:RoomH (k+1) A x)(env:Env):RoomH k (A.deeper env) x :=
 ⟨r.hd,by have:=r.dp;show A.depth+1+3*k+5<_;lia,by have:=r.un;show A.units+3+16*k+200<_;lia⟩
structure FnOkH (P:Program) (w:World) (K:PySem.W.Frag) (mg:Str->Option Value) (base:Heap) (k:Nat) (f:Addr) (fd:FuncData) (ps:List Str) (sp:Addr->Addr->Sp):Prop where
 len:∀ x C vs H Q E,sp x C vs H Q E->vs.length=ps.length
 run:∀(x C t T:Addr)(A:Around)(outer:List Env)(s:Shared)(H:Hp) (args:Args) (us:List Value) (vs:List V) (Q:VK),RoomH k A x->Env0 P w K mg base A outer s H->s.heap.get? x=some (Yl C t (.ref T))->H x=none->BindsTo s fd args (ps.zip us)->Vals vs us->sp x C vs H Q E0 ->
  codeAny (model P w) A (.call (.ref f) args) (CR CX0 outer P w H s Q E0) s
theorem ybS{X:Cx}{σ:L2.St}{H:Hp}{s:Shared}{x:Addr}{o:Obj}{A':Around}(I:Inv X [] σ H s)(hpn:X.pn=[])(hA:A'.frames=X.A.frames)(g:s.heap.get? x=some o)(un:H x=none)(nl:x≠X.env.locals)(nf:x∉X.fs)(d:∀ v,o.data≠.cell v) :
  Inv {X with A:=A',calm:=false,pn:=[(x,o)],xe:=λ_ _=>False} [] σ H s :=
 ⟨⟨I.ok.mod,I.ok.kind,I.ok.glob,I.ok.blt,I.ok.above,I.ok.inj,I.ok.has,I.ok.cab,λz=>absurd (show false=true from z) Ud,hA.trans I.ok.frames,I.ok.stk,I.ok.exf,I.ok.bs,I.ok.bsz,I.ok.noex,I.ok.exfs,I.ok.funs,I.ok.frf⟩,I.os,I.bare,I.base,I.loc,I.cell,I.free,I.freeC,λp hp=>by
  have hp':p∈[(x,o)]++[]:=hp;rw[Uj] at hp';obtain rfl:=Ub.mp hp';exact⟨g,un,nl,nf,d⟩,I.hok,I.len⟩
noncomputable def cxFH(P:Program)(w:World)(K:PySem.W.Frag)(mg:Str->Option Value)(base:Heap)(N:List Str)(qual:Str)(scope:Scope)(f:Addr)(cd:Value)(A:Around)(outer:List Env)(s:Shared)(H:Hp)(x:Addr)(o:Obj):Cx :=
 {zZ CX0 P w K mg base N qual scope f cd {A with handled:=none} outer s H E0 with A:=A.deeper (envOfC qual scope s.heap.objs.size f cd),calm:=false,pn:=[(x,o)],xe:=λ_ _=>False}
theorem qco{P:Program}{w:World}{K:PySem.W.Frag}{mg:Str->Option Value}{base:Heap}{k:Nat}{f:Addr}{nm qual:Str}{st:Stmt}{fd:FuncData}{N ps:List Str}{sp:Addr->Addr->Sp}(F:FunD K nm qual st f fd)(S:FnScope N ps (yb st))
  (len:∀ x C vs H Q E,sp x C vs H Q E->vs.length=ps.length)
  (hbody:∀(x C t T:Addr)(cdv:Value)(A:Around)(outer:List Env)(s:Shared) (H:Hp) (vs:List V) (Q:VK),RoomH k (A.deeper (envOfC qual (yb st) s.heap.objs.size f cdv)) x->sp x C vs H Q E0 ->
   ∃ tr,PSs (cxFH P w K mg base N qual (yb st) f cdv A outer s H x (Yl C t (.ref T))) (Qh st) tr/\tr {nx:=λ_ H'=>Q .non H',rt:=Q} (start N vs) H) :
  FnOkH P w K mg base (k+1) f fd ps sp:=by
 obtain⟨oc,od,dV,kV,doc,pm,an,cdv,ct,osl,rfl,lk,hcd⟩:=F.ex;refine⟨len,λx C t T A outer s H args us vs Q hr e0 gx nx hb r hsp=>?_⟩;have hl:=len _ _ _ _ _ _ hsp;have KX:K.In s.heap:=e0.mod.kin.keeps λb o e=>(e0.bs b o e).1;have lim:s.heap.NoLimit:=e0.mod.nolimit.keeps λb o e=>(e0.bs b o e).1;have hkind:∀ y∈ps.zip us,(yb st).names.lookup y.1=some .local\/((yb st).names.lookup y.1=some .cell/\((cellsFrom (s.heap.objs.size+1) (yb st).names []).lookup y.1).isSome=true):=λ⟨n,v⟩ hy=>by
  rcases S.par n (Xv hy).1 with q|q
  ·exact .inl q
  ·exact .inr ⟨q,uu _ _ _ (.inl q)⟩
 refine codeAny_call_function (by have:=hr.dp;lia) (KX _ _ lk) rfl S.co S.gen rfl (vB KX hcd) (hb _ _ _ _ ?_);refine wpAny_newFunctionEnv_cells S.kind hkind λenv he s1 xx=>?_;subst he;refine⟨lim.keeps xx.toInCall.keep,codeAny_func ?_⟩;obtain⟨tr,ht,hq⟩:=hbody x C t T cdv A outer s H vs Q (hr.deeper _) hsp;have e0':Env0 P w K mg base {A with handled:=none} outer s H:=⟨e0.frames,e0.mod,e0.bs,e0.bsz,e0.funs,e0.frf,e0.hok,e0.bare⟩;have I0:Inv (zZ CX0 P w K mg base N qual (yb st) f cdv {A with handled:=none} outer s H E0) [] (start N vs) H s1:=zax S rfl e0' hl r xx;have I:Inv (cxFH P w K mg base N qual (yb st) f cdv A outer s H x (Yl C t (.ref T))) [] (start N vs) H s1:=by
  refine ybS I0 rfl rfl (xx.toInCall.keep _ _ gx) nx (vc (wb gx)) (λz=>?_) (λv z=>nomatch z);obtain⟨_,o,e,nf⟩:=e0.funs.mem z;rw[gx] at e;cases e;exact nf _ rfl
 refine wpAny_mono (ht [] s1 (start N vs) H _ I hq) (λfl s' hs=>?_) λe s' hs=>hs.elim;have fin:∀{σ':L2.St}{H':Hp}{v:V}{u:Value},Inv (cxFH P w K mg base N qual (yb st) f cdv A outer s H x (Yl C t (.ref T))) [] σ' H' s'->RelV v u->Q v H'->CE outer P w H s Q u s' :=
  λ{σ' H' v u} J rv q=>⟨v,H',J.os,J.bare,J.base,J.hok,rv,q⟩
 cases fl with
 |ret u=>obtain⟨v,σ',H',J,rv,q⟩:=hs;exact fin J rv q
 |next=>obtain⟨σ',H',J,q⟩:=hs;exact fin (v:=V.non) (u:=Value.none) J rfl q
 |brk=>obtain⟨_,_,_,q⟩:=hs;exact False.elim q
 |cont=>obtain⟨_,_,_,q⟩:=hs;exact False.elim q
section
variable {X:Cx} {k:Nat} {f x0 C t T:Addr} {fd:FuncData} {ps:List Str} {sp:Addr->Addr->Sp} {x:Str} {p pos:Pos} {e:Expr} {es:List Expr} {ta:TA}
theorem Qbw(F:FnOkH X.prog X.w X.K X.mg X.base k f fd ps sp)(hr:Room k X.A)(hg:Gl X x)(hm:X.mg x=some (.ref f))(hk:Ug X.K (.ref f)=true)(hb:Binds X.K fd ps [])
  (ha:PA (cxH X x0 (Yl C t (.ref T))) (e::es) ta) (hdb:(x==("__debug__":Str))=false:=by decide) (he:starEach (e::es) X.env=(false,eval e X.env)::starEach es X.env:=by rfl) (hpl:(backTo pos (starEach es X.env)).any (·.1)=false:=by rfl) :
  PE (cxH X x0 (Yl C t (.ref T))) (.Call (.Name x p) (e::es) [] pos) (qbw (sp x0 C) [] E0 ta):=by
 intro pins s σ H Q I h;refine wpAny_Call_Name_kw (YK I hg hm ?_ hdb);refine Ux (h₀:=X.base) I.ok.mod.kin hk (thn (ha pos pins s σ H _ I h) λus s1 ⟨vs,H1,I1,r,q⟩=>⟨I1.kIn,?_⟩) he hpl;have q':sp x0 C (vs++[]) H1 Q E0:=q;rw[Uj] at q';have pin:=I1.pin (x0,Yl C t (.ref T)) (ue _ (We _ (Ub.mpr rfl)));have hl:us.length=ps.length:=by rw[<- r.length];exact F.len _ _ _ _ _ _ q'
 have bb:=hb s1 us I1.kIn (by rw[Uj];exact hl);rw[Uj] at bb;refine wpAny_call (codeAny_mono (F.run x0 C t T _ X.stack s1 H1 ⟨us,[]⟩ us vs Q (RoomH.of hr) I1.env0 pin.1 pin.2.1 bb r q') λr s' hq=>?_);cases r with
 |error e=>exact False.elim hq
 |ok fl =>
  cases fl with
  |ret u=>exact I1.after hq
  |next=>exact False.elim hq
  |brk=>exact False.elim hq
  |cont=>exact False.elim hq
end
theorem zbN{X:Cx}{tg:Expr}(it:Addr)(lo:Int)(n:Nat):qbF X tg (Itr lo n) [it] it (λi h=>IsRangeIter h it (lo+(i:Nat)*1) ((n:Int)-(i:Nat)) 1):=by
 intro Y e1 e2 e3 e4 e5 i pins s σ H E I hf st hg;obtain⟨f0,f1,f2,f3,f4,f5⟩:=hf it (by simp);have hg':i<n:=hg;refine wpAny_pyNext_range_item st (by lia) λh' st' sb=>?_;have I1:Inv Y pins σ H {s with heap:=h',toks:=s.toks+1}:=I.turned (λb o hb e=>(sb.2 b hb).trans e) f0 f1 f3 f4 f5;have st2:IsRangeIter h' it (lo+((i+1:Nat):Int)*1) ((n:Int)-((i+1:Nat):Int)) 1:=by
  have a:lo+((i+1:Nat):Int)*1=lo+(i:Nat)*1+1:=by push_cast;lia
  have b:(n:Int)-((i+1:Nat):Int)=(n:Int)-(i:Nat)-1:=by push_cast;lia
  rw[a,b];exact st'
 refine⟨_,rfl,Qbc (s:={s with heap:=h',toks:=s.toks+1}) (n:="range_iterator") st' rfl rfl (by decide) ⟨.int (lo+i),H,I1,⟨s.toks,?_⟩,⟨rfl,rfl⟩,st2,λb hb=>(hf b hb).1⟩⟩;rw[Int.mul_one]
theorem QbK{X:Cx}{x C t T:Addr}(it:Addr)(lo:Int)(n:Nat)(hA:X.A.handled=some (.ref x))(hp:(x,Yl C t (.ref T))∈X.pn):Zby X (Itr lo n) [it] it (λi h=>IsRangeIter h it (lo+(i:Nat)*1) ((n:Int)-(i:Nat)) 1):=by
 intro Y e1 e2 e3 e4 e5 e6 i pins s σ H E I hf st hg;have pin:=I.pin (x,Yl C t (.ref T)) (ue _ (by rw[e6];exact hp));have hg':n<=i:=hg;exact zap hA pin.1 rfl rfl st (by lia) λh' kk=>⟨rfl,I.kept (t':=s.toks) kk⟩
section
variable {X:Cx} {elt a:Expr} {tg:Expr} {ifs:List Expr} {cs:Scope} {pos p rpos:Pos} {ta:TA} {g:TG} {tc:TT} {te:TE}
theorem ybJ{x C t T:Addr}{i:Nat}{y:Str}{pos' spos:Pos}(hA:X.A.handled=some (.ref x))(hpn:(x,Yl C t (.ref T))∈X.pn)(hN:X.N.Nodup)(hi0:X.N[i]?=some y)(hx:Loc X.env.scope y)(N':List Str)(ncv:Nat)(js:List Nat)(hok:qv X.env.scope X.N cs N' ncv js=true)
  (hgr:Gl X "range") (hm:X.mg "range"=none) (ha:PA X [a] ta) (hg:∀ C s3 H ex,PG (cxC X cs N' C s3 H ex) tg g) (hif:∀ C s3 H ex,PIf (cxC X cs N' C s3 H ex) ifs tc) (helt:∀ C s3 H ex,PE (cxC X cs N' C s3 H ex) elt te)
  (hsw:swapsWith (.ListComp elt [⟨tg,.Call (.Name "range" p) [a] [] rpos,ifs,0⟩] cs pos) (some (.Name y pos')) spos.line X.env=pure true:=by rfl) (hs:∀ x,foldedSetIterable (.Call (.Name "range" p) [a] [] rpos) X.env x=pure x:=by intro _;rfl)
  (hst:starEach [a] X.env=[(false,eval a X.env)]:=by rfl) (hf:X.fn y=true\/X.env.scope.names.lookup y=some .local:=by first|exact .inl rfl|exact .inr rfl|assumption) :
  PS X (.Assign [.Name y pos'] (.ListComp elt [⟨tg,.Call (.Name "range" p) [a] [] rpos,ifs,0⟩] cs pos) spos) (ZbC (Zbf (Zb8 ta) ncv js g tc te) (yal i)):=by
 intro pins s σ H D0 I h;have ok:=CompOk.of hok;rw[exec_Assign_Name_used _ _ _ _ hsw];refine wpAny_bind (wpAny_standAt (wpAny_bind ?_));show wpAny _ X.A (do let _<-comprehension (.ListComp elt [⟨tg,.Call (.Name "range" p) [a] [] rpos,ifs,0⟩] cs pos) cs X.env _ (newList []) false (eval (.Call (.Name "range" p) [a] [] rpos) X.env) (some (assign (.Name y pos') X.env))) _ _ s;refine wpAny_bind (wpAny_mono (wpAny_comprehension_free (use:=some (assign (.Name y pos') X.env)) (Q:=λ_ s'=>SP X pins D0 .next s') rfl hs (qW λy hy e=>I.ok.has y.1 (ok.free y hy e)) ok.kind ok.locs ?_)
  (λ_ s' hq=>wpAny_pure (wpAny_pure hq)) λ_ _ e=>e)
 refine Call_ (yX I hgr hm boot_range (PyProof.Rows.callWith_type1 (thn (ha rpos pins s σ H _ I h) λus s1 ⟨vs,H1,I1,r1,q1⟩=>?_) hst rfl));obtain⟨j,e,b1,b2,W,w0,turn⟩:=q1;subst e;cases r1 with
 |cons r rr =>
  cases rr;obtain⟨tk0,rfl⟩:=r;refine call_range_1 ?_;refine wpAny_pyIter_range (IsRange.new ..) (small_one (by lia) (by lia) b1 b2) ?_;obtain⟨R0,hR0⟩:∃ R0:Obj,R0={cls:=.type "range",data:=.fields #[.int 0 s1.toks,.int j tk0,.int 1 (s1.toks+1)]}:=⟨_,rfl⟩;have hit:s1.heap.objs.size<=(s1.heap.push R0).objs.size:=by rw[xg];exact vz _
  have I2:Inv X pins σ H1 {s1 with heap:=(s1.heap.push R0).push {cls:=.type "range_iterator",data:=.fields #[rawInt 0,rawInt (Builtin.Range.rangeSize 0 j 1),rawInt 1]},toks:=s1.toks+1+1}:=I1.kept λb o e=>wa _ (wa _ e);have st0:IsRangeIter ((s1.heap.push R0).push {cls:=.type "range_iterator",data:=.fields #[rawInt 0,rawInt (Builtin.Range.rangeSize 0 j 1),rawInt 1]}) (s1.heap.push R0).objs.size (0+((0:Nat):Int)*1) ((j.toNat:Int)-((0:Nat):Int)) 1:=by
   have e1:(0:Int)+((0:Nat):Int)*1=0:=by simp
   have e2:(j.toNat:Int)-((0:Nat):Int)=Builtin.Range.rangeSize 0 j 1:=by rw[rangeSize_one];split <;> lia
   rw[e1,e2];exact ub _ rfl
  rw[<- hR0];refine yY (Q:=λv H'=>yal i v σ H' D0.nx) (J:=Itr 0 j.toNat) (fp:=[(s1.heap.push R0).objs.size]) (tn:=λi h=>IsRangeIter h (s1.heap.push R0).objs.size (0+(i:Nat)*1) ((j.toNat:Int)-(i:Nat)) 1) (RR:=λacc C=>compPost (model X.prog X.w) X.A X.xe (some (assign (.Name y pos') X.env)) (λ_ s'=>SP X pins D0 .next s') acc C)
   ok hg hif helt I2 (by simp) (λi h st b hb=>?_) (λi h h' st k=>k _ (by simp) _ st) (zbN _ 0 j.toNat) (QbK _ 0 j.toNat hA hpn) (λ_ _ _ _ _ st h=>wpAny_pyIter_rangeiter st h) st0 (λb hb=>?_) W w0 turn λD C acc H' s6 IX fC zC hm' q=>?_
  ·obtain rfl:=Ub.mp hb;exact⟨_,st,λv z=>nomatch z⟩
  ·obtain rfl:=Ub.mp hb;exact I1.fpOk hit (I1.hok.fresh hit)
  ·obtain⟨m,hm'⟩:=hm';obtain⟨oC,esC,epC,gC,dC,rC⟩:=id hm';have nc:∀ v,oC.data≠.cell v:=λv z=>by rw[dC] at z;cases z
   have IXp:=IX.pinned (fp:=[C]) (λb hb=>by obtain rfl:=Ub.mp hb;exact fC) (λb hb=>by obtain rfl:=Ub.mp hb;exact⟨oC,gC,nc⟩);show wpAny (model X.prog X.w) X.A (assign (.Name y pos') X.env (.ref D)) _ X.xe s6;refine thn (Zah hN hi0 hx hf _ s6 σ _ (.ref D) (.ref D) _ IXp rfl q) λ_ s7 ⟨σ7,H7,I7,q7⟩=>?_;obtain⟨g7,d7⟩:=Zk I7 (We _ (qo (Ub.mpr rfl) gC));refine⟨m,⟨oC,esC,epC,g7,dC,rC⟩,λh' sb=>⟨σ7,H7,?_,q7⟩⟩;obtain⟨_,c1,c2,c3,c4,c5⟩:=fC;exact yo (t':=s7.toks) (ch:=[C]) I7.unpinned (λb hb=>by obtain rfl:=Ub.mp hb;exact⟨d7,c1,c2,c3,c4,c5⟩) λb o hb e=>(sb.2 b λz=>hb (by simp[z])).trans e
end
theorem Qan{prog:Program}{w:World}{A:Around}(hh:A.handled=none)(b:Bool)(I ax:Addr)(hne:ax≠I)(items:Array Value) :
  Walks prog w A I [I,ax] [I] items.size (λi v=>items[i]?=some v) (λi h=>SeqIt h b I ax i/\SeqIs h b ax items):=by
 cases b with
 |false=>exact Walks.list hh I ax hne items
 |true =>
  exact{
   sub:=λb hb=>by simp at hb;simp[hb]
   frame:=λ_ _ _ st hk=>⟨st.1.keeps λo e=>hk I (by simp) o e,st.2.keeps λo e=>hk ax (by simp) o e⟩
   item:=λi s Q E hi st hQ=>by
    refine wpAny_pyNext_tuple_item (show s.heap.IsTupleIter I ax i from st.1) (show s.heap.IsTuple ax items from st.2) (x:=items[i]) (by simp[hi]) λh' a sb=>?_;exact hQ _ h' s.toks (by simp[hi]) ⟨a,st.2.keeps λo e=>sb.extBut ax o hne e⟩ λb o hb e=>sb.extBut b o (λz=>hb (by simp[z])) e
   done:=λs Q E st hQ=>wpAny_pyNext_tuple_end hh (show s.heap.IsTupleIter I ax items.size from st.1) (show s.heap.IsTuple ax items from st.2) (by simp) λh' he=>hQ h' s.toks λb o hb e=>he b o (λz=>hb (by simp[z])) e
   self:=λ_ _ _ _ st hQ=>wpAny_pyIter_tupleiter (show Heap.IsTupleIter _ I ax _ from st.1) hQ}
theorem yI{ns:List Int}{us:List Value}(r:Vals (ns.map V.int) us){i:Nat}{v:Value}(h:us.toArray[i]?=some v):∃ t,v=.int (ns.getD i 0) t:=by
 have h':us[i]?=some v:=by simpa using h
 have lt:i<us.length:=(Xa.mp h').1;have hl:=r.length;rw[Wd] at hl;obtain⟨u,hu,ru⟩:=r.get (i:=i) (x:=.int (ns.getD i 0)) (by rw[xc,Wa (by lia),Vh,Wa (by lia)];rfl);rw[hu] at h';cases h';exact ru
theorem Qb3{bs:List Bool}{us:List Value}(r:Vals (bs.map V.bl) us){i:Nat}{v:Value}(h:us.toArray[i]?=some v):v=.bool (bs.getD i true):=by
 have h':us[i]?=some v:=by simpa using h
 have lt:i<us.length:=(Xa.mp h').1;have hl:=r.length;rw[Wd] at hl;obtain⟨u,hu,ru⟩:=r.get (i:=i) (x:=.bl (bs.getD i true)) (by rw[xc,Wa (by lia),Vh,Wa (by lia)];rfl);rw[hu] at h';cases h';exact ru
theorem YbL(bs:List Bool):(wc bs.length).all (λi=>bs.getD i true)=bs.all id:=by
 rw[Wq,Wr,Wr];constructor
 ·intro h x hx;obtain⟨i,hi,e⟩:=Uw hx;have:=h i (Xj.mpr hi);rw[Vh,Wa hi] at this;rw[<- e];exact this
 ·intro h i hi;rw[Vh,Wa (Xj.mp hi)];exact h _ (Wh _)
theorem yaC(val:Nat->Int)(bt:Nat->Nat->Bool)(hb:∀ i j,bt i j=decide (val i<val j)):∀ k,argBest bt k<=k/\∀ j,j<=k->val (argBest bt k)<=val j
 |0=>⟨vb _,λj hj=>by
  have:j=0:=by lia
  subst this;exact Wx _⟩
 |k+1=>by
  obtain⟨h1,h2⟩:=yaC val bt hb k;show(if bt (k+1) (argBest bt k) then k+1 else argBest bt k)<=k+1/\∀ j,j<=k+1->val (if bt (k+1) (argBest bt k) then k+1 else argBest bt k)<=val j;rw[hb];by_cases c:val (k+1)<val (argBest bt k)
  ·simp only[c,decide_true,if_true];refine⟨vb _,λj hj=>?_⟩;by_cases e:j=k+1
   ·rw[e];exact Wx _
   ·have:=h2 j (by lia);lia
  ·simp only[c,decide_false,Xl,if_false];refine⟨by lia,λj hj=>?_⟩;by_cases e:j=k+1
   ·rw[e];lia
   ·exact h2 j (by lia)
theorem QbV(val:Nat->Int)(bt:Nat->Nat->Bool)(hb:∀ i j,bt i j=decide (val j<val i)):∀ k,argBest bt k<=k/\∀ j,j<=k->val j<=val (argBest bt k):=λk=>by
 have h:=yaC (λi=>- val i) bt (λi j=>by rw[hb];congr 1;apply propext;constructor <;> intro h <;> lia) k;exact⟨h.1,λj hj=>by have:=h.2 j hj;lia⟩
section
variable {X:Cx}
noncomputable def rAll(K:PySem.W.Frag):List V->Hp->VK->Prop:=λxs H Q=>∃(b:Bool)(a:Addr)(bs:List Bool),xs=[.ref a]/\SqS K H b a (bs.map V.bl)/\Q (.bl (bs.all id)) H
noncomputable def rMin(K:PySem.W.Frag):List V->Hp->VK->Prop:=λxs H Q=>∃(b:Bool)(a:Addr)(ns:List Int),xs=[.ref a]/\SqS K H b a (ns.map V.int)/\ns≠[]/\∀ m,m∈ns->(∀ k∈ns,m<=k)->Q (.int m) H
noncomputable def rMax(K:PySem.W.Frag):List V->Hp->VK->Prop:=λxs H Q=>∃(b:Bool)(a:Addr)(ns:List Int),xs=[.ref a]/\SqS K H b a (ns.map V.int)/\ns≠[]/\∀ m,m∈ns->(∀ k∈ns,k<=m)->Q (.int m) H
theorem YaC{a:Addr}{us:List Value}(r:Vals [V.ref a] us):us=[Value.ref a]:=by
 cases r with
 |cons r rr =>
  cases rr;obtain rfl:_=Value.ref a:=r;rfl
theorem Yb9{s:Shared}{a:Addr}(h:a<s.heap.objs.size)(o:Obj):∀ b∈[s.heap.objs.size,a],b<(s.heap.push o).objs.size:=λb hb=>by
 rw[xg];simp only[ua,uc,or_false] at hb
 rcases hb with e|e
 ·rw[e];exact xl _
 ·rw[e];exact Xm h
theorem YbE(hc:X.calm=true):CallR X (.builtin "all") (rAll X.K):=by
 intro pins s σ H xs us Q I r h;obtain⟨b,a,bs,rfl,hq,q⟩:=h;obtain rfl:=YaC r;obtain⟨its,v,p,_⟩:=Yq I hq;have lt:=p.lt;refine call_all_walk (zp p ⟨s.heap.objs.size,[s.heap.objs.size,a],[s.heap.objs.size],its.toArray.size,_,_,λi=>bs.getD i true,rfl,Qan (qj (I.ok.hd hc)) b _ a (vc lt) its.toArray,⟨.new (ub _ rfl),p.keeps λo e=>wa _ e⟩,λi u s' Q' E' hu hQ=>?_,λh' tk k=>?_⟩)
 ·rw[Qb3 v hu];exact wpAny_truthy_bool hQ
 have hl:=v.length;rw[Wd] at hl;rw[Ua,<- hl,YbL];exact⟨.bl _,H,I.kept (t':=tk) (λc o e=>k c o (λz=>absurd (wb e) (by simp at z;rw[z];exact xj _)) (wa _ e)),rfl,q⟩
theorem QaO{ns:List Int}{i:Nat}(h:i<ns.length):ns.getD i 0∈ns:=by
 rw[Vh,Wa h];exact Wh _
theorem qae{ns:List Int}{k:Int}(h:k∈ns):∃ i,i<ns.length/\ns.getD i 0=k:=by
 obtain⟨i,hi,e⟩:=Uw h;exact⟨i,hi,by rw[Vh,Wa hi];exact e⟩
theorem zbr(hc:X.calm=true):CallR X (.builtin "min") (rMin X.K):=by
 intro pins s σ H xs us Q I r h;obtain⟨b,a,ns,rfl,hq,ne,q⟩:=h;obtain rfl:=YaC r;obtain⟨its,v,p,_⟩:=Yq I hq;have lt:=p.lt;have hl:=v.length;rw[Wd] at hl;have pos:0<ns.length:=vm.mpr ne;refine call_min_walk (zp p ⟨s.heap.objs.size,[s.heap.objs.size,a],[s.heap.objs.size],its.toArray.size,_,_,λi j=>decide (ns.getD i 0<ns.getD j 0),rfl,Qan (qj (I.ok.hd hc)) b _ a (vc lt) its.toArray,⟨.new (ub _ rfl),p.keeps λo e=>wa _ e⟩,Yb9 lt _,by simp;lia,λi j vi vj s' Q' E' hi hj hQ=>?_,λu h' tk hu k=>?_⟩)
 ·obtain⟨t1,rfl⟩:=yI v hi;obtain⟨t2,rfl⟩:=yI v hj;exact lt_int hQ
 obtain⟨t,rfl⟩:=yI v hu;obtain⟨b1,b2⟩:=yaC (λi=>ns.getD i 0) _ (λ_ _=>rfl) (its.toArray.size-1);rw[Ua] at b1 b2 ⊢;refine⟨.int _,H,I.kept (t':=tk) (λc o e=>k c o (λz=>absurd (wb e) (by simp at z;rw[z];exact xj _)) (wa _ e)),⟨t,rfl⟩,q _ (QaO (by lia)) λm hm=>?_⟩;obtain⟨i,hi,e⟩:=qae hm;rw[<- e];exact b2 i (by lia)
theorem zbp(hc:X.calm=true):CallR X (.builtin "max") (rMax X.K):=by
 intro pins s σ H xs us Q I r h;obtain⟨b,a,ns,rfl,hq,ne,q⟩:=h;obtain rfl:=YaC r;obtain⟨its,v,p,_⟩:=Yq I hq;have lt:=p.lt;have hl:=v.length;rw[Wd] at hl;have pos:0<ns.length:=vm.mpr ne;refine call_max_walk (zp p ⟨s.heap.objs.size,[s.heap.objs.size,a],[s.heap.objs.size],its.toArray.size,_,_,λi j=>decide (ns.getD j 0<ns.getD i 0),rfl,Qan (qj (I.ok.hd hc)) b _ a (vc lt) its.toArray,⟨.new (ub _ rfl),p.keeps λo e=>wa _ e⟩,Yb9 lt _,by simp;lia,λi j vi vj s' Q' E' hi hj hQ=>?_,λu h' tk hu k=>?_⟩)
 ·obtain⟨t1,rfl⟩:=yI v hi;obtain⟨t2,rfl⟩:=yI v hj;exact gt_int hQ
 obtain⟨t,rfl⟩:=yI v hu;obtain⟨b1,b2⟩:=QbV (λi=>ns.getD i 0) _ (λ_ _=>rfl) (its.toArray.size-1);rw[Ua] at b1 b2 ⊢;refine⟨.int _,H,I.kept (t':=tk) (λc o e=>k c o (λz=>absurd (wb e) (by simp at z;rw[z];exact xj _)) (wa _ e)),⟨t,rfl⟩,q _ (QaO (by lia)) λm hm=>?_⟩;obtain⟨i,hi,e⟩:=qae hm;rw[<- e];exact b2 i (by lia)
noncomputable def clsV:V->Option Value
 |.ty n=>some (.type n)
 |.ref a=>some (.ref a)
 |_=>none
theorem zaR{x:V}{c u:Value}(h:clsV x=some c)(r:RelV x u):u=c:=by
 cases x with
 |ty n=>cases h;exact r
 |ref a=>cases h;exact r
 |_=>cases h
noncomputable def rIs(K:PySem.W.Frag):List V->Hp->VK->Prop:=λxs H Q=>∃ x cv t c b,xs=[x,cv]/\clsV cv=some c/\TyOf K H x t/\Ue K t c=some b/\Q (.bl b) H
theorem Zb2:CallR X (.builtin "isinstance") (rIs X.K):=by
 intro pins s σ H xs us Q I r h;obtain⟨x,cv,t,c,b,rfl,e,ty,k,q⟩:=h;cases r with
 |cons r rr =>
  cases rr with
  |cons r' rr =>
   cases rr;have:=zaR e r';subst this;exact Zbs I r ty k λtk=>⟨.bl b,H,I.tok tk,rfl,q⟩
noncomputable def rIsX(K:PySem.W.Frag)(x C:Addr):List V->Hp->VK->Prop:=λxs H Q=>∃ cv c b,xs=[.ref x,cv]/\clsV cv=some c/\Ue K (.ref C) c=some b/\Q (.bl b) H
theorem Qo{x C t T:Addr}(Z:ExcK X.K C)(hp:(x,Yl C t (.ref T))∈X.pn):CallR X (.builtin "isinstance") (rIsX X.K x C):=by
 intro pins s σ H xs us Q I r h;obtain⟨cv,c,b,rfl,e,k,q⟩:=h;cases r with
 |cons r rr =>
  cases rr with
  |cons r' rr =>
   cases rr;have:=zaR e r';subst this;obtain rfl:_=Value.ref x:=r;exact xi (zbQ Z) I.kIn ⟨t,_,(I.pin _ (ue _ hp)).1⟩ k (λz=>nomatch z) λtk=>⟨.bl b,H,I.tok tk,rfl,q⟩
end
noncomputable def excP(C x:Addr):Heap->Prop:=λh=>∃ t T,h.get? x=some (Yl C t (.ref T))
noncomputable def Src(K:PySem.W.Frag)(mg:Str->Option Value)(x:Str)(st:Stmt)(ps:List Str):Prop:=∃ f fd,FunD K x x st f fd/\Binds K fd ps []/\mg x=some (.ref f)
noncomputable def QaQ(P:Program)(w:World)(K:PySem.W.Frag)(mg:Str->Option Value)(base:Heap)(x:Str)(k:Nat)(ps:List Str)(sp:Sp):Prop :=
 ∃ f fd,FnOk P w K mg base (CX1 P w) k f fd ps sp/\Binds K fd ps []/\Ug K (.ref f)=true/\mg x=some (.ref f)
section
variable {P:Program} {w:World} {K:PySem.W.Frag} {mg:Str->Option Value} {base:Heap} {x:Str} {ps:List Str} {sp:Sp}
noncomputable abbrev cxD(P:Program)(w:World)(K:PySem.W.Frag)(mg:Str->Option Value)(base:Heap)(N:List Str)(x:Str)(st:Stmt)(f:Addr)(cd:Value)(A:Around)(outer:List Env)(s:Shared)(H:Hp)(E:XK):Cx :=
 zZ (CX1 P w) P w K mg base N x (yb st) f cd A outer s H E
theorem Ycj{st:Stmt}{N:List Str}{k:Nat}(S:Src K mg x st ps)(sc:FnScope N ps (yb st))(len:∀ vs H Q E,sp vs H Q E->vs.length=ps.length)
  (hbody:∀(f:Addr)(cdv:Value)(A:Around)(outer:List Env)(s:Shared) (H:Hp) (vs:List V) (Q:VK) (E:XK),Room k (A.deeper (envOfC x (yb st) s.heap.objs.size f cdv))->sp vs H Q E ->
   ∃ t,PSs (cxD P w K mg base N x st f cdv A outer s H E) (Qh st) t/\t {nx:=λ_ H'=>Q .non H',rt:=Q} (start N vs) H):QaQ P w K mg base x (k+1) ps sp:=by
 obtain⟨f,fd,F,b,m⟩:=S;refine⟨f,fd,?_,b,F.kp,m⟩;obtain⟨oc,od,dV,kV,doc,pm,an,cdv,ct,osl,rfl,lk,hcd⟩:=F.ex;exact Ybx lk hcd sc len λA outer s H vs Q E hr hsp=>hbody f cdv A outer s H vs Q E hr hsp
end
section
variable {X:Cx} {k:Nat} {ps:List Str} {sp:Sp} {E:XK} {x:Str} {p pos:Pos} {e:Expr} {es:List Expr} {t:TA} {σ0:L2.St}
theorem ybv(d:QaQ X.prog X.w X.K X.mg X.base x k ps sp)(hr:Room k X.A)(hg:Gl X x)(hx:zx (CX1 X.prog X.w) X σ0 E)(ha:PA X (e::es) t)(hdb:(x==("__debug__":Str))=false:=by decide)
  (he:starEach (e::es) X.env=(false,eval e X.env)::starEach es X.env:=by rfl) (hpl:(backTo pos (starEach es X.env)).any (·.1)=false:=by rfl):PE X (.Call (.Name x p) (e::es) [] pos) (qbz σ0 sp [] E t):=by
 obtain⟨f,fd,F,b,kp,m⟩:=d;exact ZbE F hr hg m kp b .nil hx ha hdb he hpl
end
section
variable {q p a:Addr} {H H' H2:Hp} {o u:HO}
theorem YC(h:H p=none)(o:HO):Same H (upd H p o):=λb u z=>by rw[Zd (ze z h)];exact z
end
section
variable {X:Cx} {tg:Expr}
noncomputable def Its(K:PySem.W.Frag)(b:Bool)(a:Addr):It:=if b=true then Itt K a else Itl K a
noncomputable def iSq(K:PySem.W.Frag)(tl:TE):TI:=λσ H R=>tl σ H λx H1=>∃ b a,x=.ref a/\(∃ xs,SqS K H1 b a xs)/\R (Its K b a) H1
theorem pi_sq{l:Expr}{tl:TE}(hl:PE X l tl):PI X tg l (iSq X.K tl):=by
 intro pins s σ H R I h;refine thn (hl pins s σ H _ I h) λv s1 ⟨x,H1,I1,r1,q1⟩=>?_;obtain⟨b,a,e,⟨xs,hq⟩,q⟩:=q1;subst e;cases r1;cases b with
 |false =>
  obtain⟨its,rv,p,hz⟩:=I1.list (show SqL X.K H1 a xs from hq);refine wpAny_pyIter_list p.isList ?_;refine⟨s1.heap.objs.size,[s1.heap.objs.size],_,_,H1,rfl,I1.kept (t':=s1.toks) λb o e=>wa _ e,ybq a _,⟨_,ub _ rfl,rfl,rfl⟩,λb hb=>?_,q⟩;obtain rfl:=Ub.mp hb;exact I1.fpOk (vb _) (I1.hok.fresh (vb _))
 |true =>
  obtain⟨its,rv,p,hz⟩:=I1.tuple (show SqT X.K H1 a xs from hq);refine wpAny_pyIter_tuple (show s1.heap.IsTuple a its.toArray from p) ?_;refine⟨s1.heap.objs.size,[s1.heap.objs.size],_,_,H1,rfl,I1.kept (t':=s1.toks) λb o e=>wa _ e,qaZ a _,⟨_,ub _ rfl,rfl,rfl⟩,λb hb=>?_,q⟩;obtain rfl:=Ub.mp hb;exact I1.fpOk (vb _) (I1.hok.fresh (vb _))
end
theorem Its.go{K:PySem.W.Frag}{b:Bool}{a:Addr}{i:Nat}{H:Hp}{xs:List V}(h:SqS K H b a xs)(hi:i<xs.length):(Its K b a).go i H:=by
 cases b with
 |false=>exact⟨xs,xs[i],h,by simp[hi]⟩
 |true=>exact⟨xs,xs[i],h,by simp[hi]⟩
theorem Its.stop{K:PySem.W.Frag}{b:Bool}{a:Addr}{H:Hp}{xs:List V}(h:SqS K H b a xs):(Its K b a).stop xs.length H:=by
 cases b with
 |false=>exact⟨xs,h,vb _⟩
 |true=>exact⟨xs,h,vb _⟩
theorem Its.yld{K:PySem.W.Frag}{b:Bool}{a:Addr}{i:Nat}{H H':Hp}{xs:List V}{x:V}(h:SqS K H b a xs)(y:(Its K b a).yld i H x H'):H'=H/\xs[i]?=some x:=by
 cases b with
 |false=>exact⟨y.1,y.2 xs h⟩
 |true=>exact⟨y.1,y.2 xs h⟩
theorem for_by{J:It}{n:Nat}{g:TG}{tb:TS}{D:Ends}{σ:L2.St}{H:Hp}(Pv:Nat->L2.St->Hp->Prop)(h0:Pv 0 σ H)(go:∀ i σ H,i<n->Pv i σ H->J.go i H)(stop:∀ σ H,Pv n σ H->J.stop n H)
  (turn:∀ i σ H x H2,i<n->Pv i σ H->J.yld i H x H2->g x σ H2 λσ2 H3=>tb {D with nx:=Pv (i+1),ct:=Pv (i+1),bk:=D.nx} σ2 H3) (fin:∀ σ H,Pv n σ H->D.nx σ H) :
  ∃ W:Nat->Nat->L2.St->Hp->Prop,(∃ m,W 0 m σ H)/\∀ i m σ H,W i m σ H ->
   (J.stop i H/\D.nx σ H)\/(J.go i H/\∃ N:L2.St->Hp->Prop,(∀ σ' H',N σ' H'->∃ m',m'<m/\W (i+1) m' σ' H')/\∀ x H',J.yld i H x H'->g x σ H' λσ2 H2=>tb {D with nx:=N,ct:=N,bk:=D.nx} σ2 H2):=by
 refine⟨λi m σ H=>m=n-i/\i<=n/\Pv i σ H,⟨n,by simp,Xq _,h0⟩,?_⟩;rintro i m σ H ⟨rfl,hi,p⟩;by_cases lt:i<n
 ·exact .inr ⟨go i σ H lt p,Pv (i+1),λσ' H' p'=>⟨n-(i+1),by lia,rfl,lt,p'⟩,λx H' y=>turn i σ H x H' lt p y⟩
 ·obtain rfl:i=n:=by lia
  exact .inl ⟨stop σ H p,fin σ H p⟩
noncomputable def Wn(n:Nat)(Pv:Nat->List V->L2.St->Hp->Prop):Nat->Nat->List V->L2.St->Hp->Prop:=λi m acc σ H=>m=n-i/\i<=n/\Pv i acc σ H
theorem wn{n i:Nat}{Pv:Nat->List V->L2.St->Hp->Prop}{acc:List V}{σ:L2.St}{H:Hp}(lt:i<n)(p:Pv (i+1) acc σ H):∃ m',m'<n-i/\Wn n Pv (i+1) m' acc σ H:=⟨n-(i+1),by lia,rfl,lt,p⟩
theorem QbU{J:It}{n ncv:Nat}{js:List Nat}{g:TG}{tc:TT}{te:TE}{σ:L2.St}{H:Hp}{Q:VK}(Pv:Nat->List V->L2.St->Hp->Prop)(h0:Pv 0 [] (stC ncv js σ) H)(go:∀ i acc σ H,i<n->Pv i acc σ H->J.go i H)(stop:∀ acc σ H,Pv n acc σ H->J.stop n H)
  (turn:∀ i acc σ H x H2,i<n->Pv i acc σ H->J.yld i H x H2->g x σ H2 λσ2 H3=>tc σ2 H3 λb H4 =>
   if b=true then te σ2 H4 λy H5=>acc.length<sizeLine/\∃ m',m'<n-i/\Wn n Pv (i+1) m' (acc++[y]) σ2 H5 else ∃ m',m'<n-i/\Wn n Pv (i+1) m' acc σ2 H4)
  (fin:∀ acc σ H,Pv n acc σ H->∀ D,H D=none->Q (.ref D) (upd H D (.lst acc))) :
  zbD J ncv js g tc te σ H Q:=by
 refine⟨Wn n Pv,⟨n,by simp,Xq _,h0⟩,?_⟩;rintro i m acc σ' H' ⟨rfl,hi,p⟩;by_cases lt:i<n
 ·exact .inr ⟨go i acc σ' H' lt p,λx H2 y=>turn i acc σ' H' x H2 lt p y⟩
 ·obtain rfl:i=n:=by lia
  exact .inl ⟨stop acc σ' H' p,fin acc σ' H' p⟩
theorem wn_eq{n i:Nat}{Pv:Nat->List V->L2.St->Hp->Prop}(lt:i<n)(acc:List V)(σ:L2.St)(H:Hp):(∃ m',m'<n-i/\Wn n Pv (i+1) m' acc σ H)=Pv (i+1) acc σ H :=
 propext ⟨λ⟨_,_,_,_,p⟩=>p,λp=>wn lt p⟩
theorem yb4{J:It}{n ncv:Nat}{js:List Nat}{g:TG}{tc:TT}{te:TE}{σ:L2.St}{H:Hp}{Q:VK}(Pv:Nat->List V->L2.St->Hp->Prop)(h0:Pv 0 [] (stC ncv js σ) H)(go:∀ i acc σ H,i<n->Pv i acc σ H->J.go i H)(stop:∀ acc σ H,Pv n acc σ H->J.stop n H)
  (turn:∀ i acc σ H x H2,i<n->Pv i acc σ H->J.yld i H x H2->g x σ H2 λσ2 H3=>tc σ2 H3 λb H4 =>
   if b=true then te σ2 H4 λy H5=>acc.length<sizeLine/\Pv (i+1) (acc++[y]) σ2 H5 else Pv (i+1) acc σ2 H4)
  (fin:∀ acc σ H,Pv n acc σ H->∀ D,H D=none->Q (.ref D) (upd H D (.lst acc))):zbD J ncv js g tc te σ H Q :=
 QbU Pv h0 go stop (λi acc σ H x H2 lt p y=>by simp only[wn_eq lt];exact turn i acc σ H x H2 lt p y) fin
noncomputable def zbL(P:Program)(w:World)(K:PySem.W.Frag)(mg:Str->Option Value)(base:Heap)(x:Str)(C:Addr)(k:Nat)(ps:List Str)(sp:Sp):Prop :=
 ∃ f fd,Mk K C f/\FnOk P w K mg base (CX1 P w) k f fd ps sp/\Binds K fd ps []/\mg x=some (.ref C)
section
variable {X:Cx} {k:Nat} {ps:List Str} {sp:Sp} {E:XK} {x:Str} {C:Addr} {p pos:Pos} {e:Expr} {es:List Expr} {t:TA} {σ0:L2.St}
theorem Qbq(d:zbL X.prog X.w X.K X.mg X.base x C k ps sp)(hr:Room (k+1) X.A)(hg:Gl X x)(hx:zx (CX1 X.prog X.w) X σ0 E)(ha:PA X (e::es) t)(hdb:(x==("__debug__":Str))=false:=by decide)
  (he:starEach (e::es) X.env=(false,eval e X.env)::starEach es X.env:=by rfl) (hpl:(backTo pos (starEach es X.env)).any (·.1)=false:=by rfl):PE X (.Call (.Name x p) (e::es) [] pos) (YbH σ0 C sp [] E t):=by
 obtain⟨f,fd,M,F,b,m⟩:=d;exact ZbI M F hr hg m b .nil hx ha hdb he hpl
end
section
variable {X:Cx} (K:PySem.W.Frag)
noncomputable def rLen(K:PySem.W.Frag):List V->Hp->VK->Prop:=λxs H Q=>∃ p ys,xs=[.ref p]/\(SqL K H p ys\/SqT K H p ys)/\Q (.int ys.length) H
noncomputable def rLst(K:PySem.W.Frag):List V->Hp->VK->Prop:=λxs H Q=>∃ p ys,xs=[.ref p]/\(SqL K H p ys\/SqT K H p ys)/\∀ l,H l=none->Q (.ref l) (upd H l (.lst ys))
noncomputable def rTup(K:PySem.W.Frag):List V->Hp->VK->Prop:=λxs H Q=>∃ p ys,xs=[.ref p]/\((SqL K H p ys/\∀ l,H l=none->Q (.ref l) (upd H l (.tup ys)))\/(SqT K H p ys/\Q (.ref p) H))
theorem yb9(h:X.K=K:=by rfl):CallR X (.builtin "len") (rLen K):=h ▸ ZaN
theorem qcl(h:X.K=K:=by rfl):CallR X (.type "list") (rLst K):=h ▸ qaG
theorem qb4(h:X.K=K:=by rfl):CallR X (.type "tuple") (rTup K):=h ▸ Yat
theorem k_all(c:X.calm=true:=by rfl)(h:X.K=K:=by rfl):CallR X (.builtin "all") (rAll K):=h ▸ YbE c
theorem k_min(c:X.calm=true:=by rfl)(h:X.K=K:=by rfl):CallR X (.builtin "min") (rMin K):=h ▸ zbr c
theorem k_max(c:X.calm=true:=by rfl)(h:X.K=K:=by rfl):CallR X (.builtin "max") (rMax K):=h ▸ zbp c
theorem k_isi(h:X.K=K:=by rfl):CallR X (.builtin "isinstance") (rIs K):=h ▸ Zb2
theorem ybL(h:X.K=K:=by rfl):IxR X (rIxL K):=h ▸ Ybc
noncomputable def rIxQ(K:PySem.W.Frag):R2:=λx y H Q=>∃ b p xs i v,x=.ref p/\y=.int i/\SqS K H b p xs/\atI xs i=some v/\Q v H
theorem k_ix(h:X.K=K:=by rfl):IxR X (rIxQ K):=by
 subst h;intro value slice pins s σ H x y v u Q I rx ry hq hs;obtain⟨b,p,xs,i,z,e1,e2,hq,ha,q⟩:=hq;cases b with
 |false=>exact Ybc value slice pins s σ H x y v u Q I rx ry ⟨p,xs,i,z,e1,e2,hq,ha,q⟩ hs
 |true=>exact Zck value slice pins s σ H x y v u Q I rx ry ⟨p,xs,i,z,e1,e2,hq,ha,q⟩ hs
theorem k_fld{e:Expr}{f:Str}{pos:Pos}{ta:TE}(he:PE X e ta)(hb:attributeBase e f X.env (eval e X.env)=eval e X.env:=by rfl)(h:X.K=K:=by rfl):PE X (.Attribute e f pos) (tFld K ta f):=h ▸ Ycm he hb
theorem k_sq{tg l:Expr}{tl:TE}(hl:PE X l tl)(h:X.K=K:=by rfl):PI X tg l (iSq K tl):=h ▸ pi_sq hl
theorem k_zip{a b:Expr}{ta:TA}{p pos:Pos}{es:List Expr}{kt:Nat}{pt:Pos}(hg:Gl X "zip")(hm:X.mg "zip"=none)(ha:PA X [a,b] ta)(hs:starEach [a,b] X.env=[(false,eval a X.env),(false,eval b X.env)]:=by rfl)(hs2:starEach [b] X.env=[(false,eval b X.env)]:=by rfl)(h:X.K=K:=by rfl) :
  PI X (.Tuple es kt pt) (.Call (.Name "zip" p) [a,b] [] pos) (iZip K ta):=h ▸ Zcq hg hm ha hs hs2
theorem zcb{a:Expr}{ta:TA}{p pos:Pos}{es:List Expr}{kt:Nat}{pt:Pos}(hg:Gl X "enumerate")(hm:X.mg "enumerate"=none)(ha:PA X [a] ta)(hs:starEach [a] X.env=[(false,eval a X.env)]:=by rfl)(h:X.K=K:=by rfl) :
  PI X (.Tuple es kt pt) (.Call (.Name "enumerate" p) [a] [] pos) (Yb6 K ta):=h ▸ yb1 hg hm ha hs
end
end L3
end
section
namespace L3
open PySem PySem.Spec PyProof.Rows L2 M3
structure WordC (K:PySem.W.Frag) (cs:List Addr) (C:Addr) (i:Nat):Prop where
 z:ExcK K C
 kj:∀(j:Nat) D,cs[j]?=some D->Ue K (.ref C) (.ref D)=some (decide (j=i))
 ve:Ue K (.ref C) (.type "ValueError")=some true
 i10:i<10
noncomputable def words10:List Str:=["picture","out","meet","tile","inks","shares","shade","stretches","way","text"]
noncomputable def QaJ(i:Nat):Str:=words10.getD i ""
noncomputable def DefOkH(P:Program)(w:World)(K:PySem.W.Frag)(mg:Str->Option Value)(base:Heap)(x:Str)(k:Nat)(ps:List Str)(sp:Addr->Addr->Sp):Prop :=
 ∃ f fd,FnOkH P w K mg base k f fd ps sp/\Binds K fd ps []/\Ug K (.ref f)=true/\mg x=some (.ref f)
section
variable {X:Cx} {k:Nat} {x0 C t T:Addr} {ps:List Str} {sp:Addr->Addr->Sp} {x:Str} {p pos:Pos} {e:Expr} {es:List Expr} {ta:TA}
theorem Zbk(d:DefOkH X.prog X.w X.K X.mg X.base x k ps sp)(hr:Room k X.A)(hg:Gl X x)
  (ha:PA (cxH X x0 (Yl C t (.ref T))) (e::es) ta) (hdb:(x==("__debug__":Str))=false:=by decide) (he:starEach (e::es) X.env=(false,eval e X.env)::starEach es X.env:=by rfl) (hpl:(backTo pos (starEach es X.env)).any (·.1)=false:=by rfl) :
  PE (cxH X x0 (Yl C t (.ref T))) (.Call (.Name x p) (e::es) [] pos) (qbw (sp x0 C) [] E0 ta):=by
 obtain⟨f,fd,F,b,kp,m⟩:=d;exact Qbw F hr hg m kp b ha hdb he hpl
end
theorem qbZ{P:Program}{w:World}{K:PySem.W.Frag}{mg:Str->Option Value}{base:Heap}{x:Str}{st:Stmt}{N ps:List Str}{k:Nat}{sp:Addr->Addr->Sp}(S:Src K mg x st ps)(sc:FnScope N ps (yb st))(len:∀ x C vs H Q E,sp x C vs H Q E->vs.length=ps.length)
  (hbody:∀(f:Addr)(x0 C t T:Addr)(cdv:Value)(A:Around)(outer:List Env) (s:Shared) (H:Hp) (vs:List V) (Q:VK),RoomH k (A.deeper (envOfC x (yb st) s.heap.objs.size f cdv)) x0->sp x0 C vs H Q E0 ->
   ∃ tr,PSs (cxFH P w K mg base N x (yb st) f cdv A outer s H x0 (Yl C t (.ref T))) (Qh st) tr/\tr {nx:=λ_ H'=>Q .non H',rt:=Q} (start N vs) H):DefOkH P w K mg base x (k+1) ps sp:=by
 obtain⟨f,fd,F,b,m⟩:=S;exact⟨f,fd,qco F sc len λx0 C t T cdv A outer s H vs Q hr hsp=>hbody f x0 C t T cdv A outer s H vs Q hr hsp,b,F.kp,m⟩
end L3
end
section
namespace L2
open PySem PySem.Spec PyProof.Rows
section
variable {X:Cx} {tg:Expr}
noncomputable def QbH:V->List V->Hp->VK->Prop:=λx vs H Q=>∃ l b xs zs,x=.ref l/\vs=[.ref b]/\H l=some (.lst xs)/\Rd H b (.lst zs)/\xs.length+zs.length<=sizeLine/\Q .non (upd H l (.lst (xs++zs)))
theorem qa9:MtM X "list.extend" QbH:=by
 intro pins s σ H x vs v us Q I rx rv h;obtain⟨l,b,xs,zs,rfl,rfl,hH,hB,hz,q⟩:=h;cases rx;obtain⟨u,rfl,ru⟩:=rv.one;cases ru;obtain⟨z,its,n,r,hl,e⟩:=I.lstM hH;obtain⟨z2,its2,n2,r2,e2⟩:=hB.ok I.hok;have hl2:=r2.length;have hsz:its.toArray.size+its2.toArray.size<=sizeLine:=by rw[Ua,Ua];lia
 have hlong:¬(!its.toArray.isEmpty&&Builtin.List.listTooLong (its.toArray.size+its2.toArray.size))=true:=by
  rw[qak hsz,Bool.and_false];exact Ud
 refine call_meets F.slot_list_extend ⟨_,e,rfl⟩ F.entry_list_extend (F.args_list_extend_2 _ _)
  (AutoSeq1.list_extend_list_list_0 l its.toArray n b its2.toArray n2 hlong (by rw[Ua];lia) (by lia)) ⟨e,e2,?_⟩
 refine⟨.non,_,I.lset (its':=its++its2) hH e (by simp) (r.append r2) ?_,rfl,q⟩;rw[Vf]
 lia
end
end L2
end
section
namespace L3
open PySem PySem.Spec PyProof.Rows L2 M3
section
variable {X:Cx} {k:Nat} {E:XK} {x m:Str} {p pos apos:Pos} {e o:Expr} {es:List Expr} {ta:TE} {t:TA} {σ0:L2.St}
noncomputable def zcp(P:Program)(w:World)(K:PySem.W.Frag)(mg:Str->Option Value)(base:Heap)(k:Nat)(C:Addr)(m:Str)(sp:Sp):Prop :=
 Cls K C/\∃ f fd ps,Meth K C m f/\FnOk P w K mg base (CX1 P w) k f fd ps sp/\Binds K fd ps []
structure Mk0 (K:PySem.W.Frag) (C:Addr):Prop where
 makes:wt K C=true
 init:Vc K (.ref C) "__init__"=some (some (.builtin "object.__init__"))
 kp:Ug K (.ref C)=true
theorem Zbm{C:Addr}{pins:List (Addr×Obj)}{σ:L2.St}{H:Hp}{s:Shared}{Q:VK}(M:Mk0 X.K C)(I:Inv X pins σ H s)
  (h:∀ x dx,H x=none->H dx=none->dx≠x->Q (.ref x) (upd (upd H dx (.own x)) x (.ins C dx []))):wpAny (model X.prog X.w) X.A (call (.ref C) []) (EP X pins σ Q) X.xe s:=by
 have hq:=h (s.heap.objs.size+1) s.heap.objs.size (I.hok.fresh (vz _)) (I.hok.fresh (vb _)) (vc (xl _));have I2:=Inv.made (C:=C) I;have Y:=wz (M:=model X.prog X.w) I.kIn M.makes;have hx:((s.heap.push Wg).push (vg C s.heap.objs.size)).get? (s.heap.objs.size+1)=some (vg C s.heap.objs.size):=by
  have:=ub (s.heap.push Wg) (o:=vg C s.heap.objs.size) rfl
  rwa [xg] at this
 refine wpAny_call (Qbp I.kIn M.makes M.init (λself=>PySem.W.Looks.of_pure (PySem.W.oi_bind self)) ?_);have t1:PySem.W.Looks (model X.prog X.w) ((s.heap.push Wg).push (vg C s.heap.objs.size)) (typeOf (.ref (s.heap.objs.size+1))) (.ref C):=(PySem.W.Looks.ld hx).andThen .now;have t2:PySem.W.Looks (model X.prog X.w) ((s.heap.push Wg).push (vg C s.heap.objs.size)) (isInstance (.ref (s.heap.objs.size+1)) (.type "object")) true:=t1.andThen (Y.top.keeps λb o e=>wa _ (wa _ e));refine codeAny_call_builtin PySem.W.oi_plain PySem.W.entry_oi (@PySem.W.check_slot (model X.prog X.w) _ _ _ "object.__init__" "object" "__init__" (.ref (s.heap.objs.size+1)) [] [] _ PySem.W.oi_kind PySem.W.oi_split t2 (PySem.W.oi_args (.ref (s.heap.objs.size+1))) ?_);rw[PySem.W.oi_run];exact wpAny_pure (And.intro rfl ⟨V.ref (s.heap.objs.size+1),_,I2,rfl,hq⟩)
noncomputable def zco(C:Addr):TE:=λσ H Q=>∀ x dx,H x=none->H dx=none->dx≠x->Q (.ref x) (upd (upd H dx (.own x)) x (.ins C dx []))
theorem zbt{C:Addr}(M:Mk0 X.K C)(hg:Gl X x)(hm:X.mg x=some (.ref C))(hdb:(x==("__debug__":Str))=false):PE X (.Call (.Name x p) [] [] pos) (zco C):=by
 intro pins s σ H Q I h;refine wpAny_Call_Name_kw (YK I hg hm ?_ hdb);exact PySem.W.callWith_K0 I.kIn M.kp (Zbm M I h)
end
end L3
end
section
namespace L3
open PySem PySem.Spec PyProof.Rows L2 M3
end L3
end
section
namespace L3
open PySem PySem.Spec PyProof.Rows L2 M3
noncomputable def tabF(P:Addr)(lp:Pos)(oc:Option Addr):Heap->Prop:=λh=>∃ ps:Array Value,h.get? P=some (PySem.W.tabObj ps)/\TriplesOk ps.toList/\codeAmong lp ps.toList=oc.map Value.ref
noncomputable def codF(c':Addr)(q:Str):Heap->Prop:=λh=>h.CodeRec (.ref c') q
structure LamB (mg:Str->Option Value) (base:Heap) (c P:Addr):Prop where
 code:PySem.W.CodeHd base c P
 bmain:∃ bm ob,mg "__builtins__"=some (.ref bm)/\bm≠builtinsNs/\base.get? bm=some ob/\ob.cls=.type "module"/\ob.dict=some builtinsNs/\ob.data=.plain
end L3
end
section
namespace L3
open PySem PySem.Spec PyProof.Rows L2 M3
theorem qR{α β:Type}{F:α->β->Prop}:∀{l₁:List α}{l₂:List β},Paired F l₁ l₂->l₁.length=l₂.length
 |_,_,.nil=>rfl
 |_,_,.cons r t=>by simp[qR t]
end L3
end
section
namespace L3
open PySem PySem.Spec PyProof.Rows L2 M3
noncomputable def QaV(ps:List (List Key×Addr×Value))(xs:List (List Key×Addr×Value)):List (List Key×Addr×Value):=ps.foldl (λacc p=>storedH acc p.1 p.2.1 p.2.2) xs
theorem QaR{K:Type} [DecidableEq K] (xs:List (K×Addr×Value))(k:K)(a:Addr)(v:Value):(storedH xs k a v).length<=xs.length+1:=by
 unfold storedH;split <;> simp
section
variable {X:Cx}
noncomputable def Yy(kas kvs:List (List Key×V)):List (List Key×V):=kas.foldl (λacc kv=>yam acc kv.1 kv.2) kvs
theorem zad:∀(kas kvs:List (List Key×V)),(Yy kas kvs).length<=kvs.length+kas.length
 |[],kvs=>by simp[Yy]
 |p::kas,kvs=>by
  have h1:=zad kas (yam kvs p.1 p.2);have h2:=ZaP kvs p.1 p.2;show(Yy kas (yam kvs p.1 p.2)).length<=_;simp only[Xd];lia
theorem Zcb{H:Hp}{kas:List (List Key×V)}{ps:List (List Key×Addr×Value)}(k:KT H kas ps):∀{kvs:List (List Key×V)} {xs:List (List Key×Addr×Value)},KT H kvs xs->KT H (Yy kas kvs) (QaV ps xs):=by
 induction k with
 |nil=>intro kvs xs r;exact r
 |@cons p q as bs h t ih =>
  intro kvs xs r;have e:=r.put p.1 (b:=q.2.1) h.2.1 h.2.2;show KT H (Yy as (yam kvs p.1 p.2)) (QaV bs (storedH xs q.1 q.2.1 q.2.2));rw[<- h.1];exact ih e
end
end L3
end
section
namespace L3
open PySem PySem.Spec PyProof.Rows L2 M3
noncomputable def hP1:Nat:=11400714785074694791
noncomputable def hP2:Nat:=14029467366897019727
noncomputable def hP5:Nat:=2870177450012600261
noncomputable def hI2:Nat:=839798700976720815
noncomputable def hM:Nat:=18446744073709551616
noncomputable def Qaz(x:Nat):Nat:=((x*2147483648)%hM+x/8589934592)*hP1%hM
noncomputable def hI1:Nat:=614540362697595703
theorem Zb5:hP1*hI1%hM=1:=by decide +kernel
theorem ZbU:hP2*hI2%hM=1:=by decide +kernel
theorem qaR{p i x y:Nat}(hi:p*i%hM=1)(h:x*p%hM=y*p%hM):x%hM=y%hM:=by
 have e:∀ z,(z*p%hM)*i%hM=z%hM:=λz=>by
  rw[Uu (z*p%hM),Nat.mod_mod,<- Uu,Nat.mul_assoc,Uu,hi];simp
 rw[<- e x,<- e y,h]
theorem ZbD{x:Nat}(hx:x<hM):(x*2147483648)%hM+x/8589934592=(x%8589934592)*2147483648+x/8589934592:=by
 have e:x*2147483648=(x%8589934592)*2147483648+hM*(x/8589934592):=by unfold hM;lia
 rw[e,Nat.add_mul_mod_self_left,vo];unfold hM;lia
theorem Ybk{x y:Nat}(hx:x<hM)(hy:y<hM)(h:Qaz x=Qaz y):x=y:=by
 have:=qaR Zb5 h;rw[ZbD hx,ZbD hy] at this;have q1:x/8589934592<2147483648:=by unfold hM at hx;lia
 have q2:y/8589934592<2147483648:=by unfold hM at hy;lia
 have r1:x%8589934592<8589934592:=Wl _ (by lia);have r2:y%8589934592<8589934592:=Wl _ (by lia);have x1:=Uv x 8589934592;have y1:=Uv y 8589934592;generalize x/8589934592=q at *;generalize y/8589934592=q' at *;generalize x%8589934592=r at *;generalize y%8589934592=r' at *;rw[vo (by unfold hM;lia),vo (by unfold hM;lia)] at this;omega
noncomputable def ZbF(a:Nat):Nat:=Qaz ((hP5+a*hP2)%hM)
noncomputable def y0(a b:Nat):Nat:=Qaz ((ZbF a+b*hP2)%hM)
noncomputable def Zal(z:Nat):Nat:=(z+(2 ^^^ (hP5 ^^^ 3527539)))%hM
noncomputable def hBnd:Nat:=64
theorem zat:∀ a<hBnd,hashInt (a:Int)=(a:Int):=by decide +kernel
noncomputable def Zbn(m p1 p2 p5 q u v:Nat)(hashes:List Int):Int :=
 let acc:=hashes.foldl (init:=p5) λacc h =>
  let acc:=(acc+(h%(m:Int)).toNat*p2)%m
  let acc:=(acc*u)%m+acc/v
  (acc*p1)%m
 let acc:=(acc+(hashes.length ^^^ q))%m
 if acc==m-1 then 1546275796 else if acc<2^63 then acc else(acc:Int)-m
noncomputable def zbC(m p1 u v x:Nat):Nat:=((x*u)%m+x/v)*p1%m
noncomputable def Ybw(m p1 p2 p5 u v a b:Nat):Nat:=zbC m p1 u v ((zbC m p1 u v ((p5+(a%m)*p2)%m)+(b%m)*p2)%m)
theorem Za0(hs:List Int):Builtin.Tuple.tupleHashOf hs=Zbn (2^64) 11400714785074694791 14029467366897019727 2870177450012600261 (2870177450012600261 ^^^ 3527539) (2^31) (2^33) hs:=rfl
theorem yby(m p1 p2 p5 q u v a b:Nat):Zbn m p1 p2 p5 q u v [(a:Int),(b:Int)]=if(Ybw m p1 p2 p5 u v a b+(2 ^^^ q))%m=m-1 then 1546275796 else if(Ybw m p1 p2 p5 u v a b+(2 ^^^ q))%m<2^63 then(((Ybw m p1 p2 p5 u v a b+(2 ^^^ q))%m:Nat):Int) else(((Ybw m p1 p2 p5 u v a b+(2 ^^^ q))%m:Nat):Int)-(m:Int):=by
 have e:∀ x:Nat,((x:Int)%(m:Int)).toNat=x%m:=λx=>by
  rw[<- Int.natCast_emod,wo]
 simp only[Zbn,Ybw,zbC,xk,wu,beq_iff_eq,Xd,Vl,e,vn,Nat.reduceAdd];rfl
theorem zb8:(2^64:Nat)=hM:=by decide +kernel
theorem pow31:(2^31:Nat)=2147483648:=by decide +kernel
theorem pow33:(2^33:Nat)=8589934592:=by decide +kernel
theorem pow63:(2^63:Nat)=9223372036854775808:=by decide +kernel
noncomputable def zbv(a b:Nat):Nat:=Zal (Qaz ((Qaz ((hP5+(a%hM)*hP2)%hM)+(b%hM)*hP2)%hM))
theorem zbn(a b:Nat):Builtin.Tuple.tupleHashOf [(a:Int),(b:Int)]=if zbv a b=hM-1 then 1546275796 else if zbv a b<9223372036854775808 then(zbv a b:Int) else(zbv a b:Int)-(hM:Int):=by
 have h:=yby (2^64) 11400714785074694791 14029467366897019727 2870177450012600261 (2870177450012600261 ^^^ 3527539) (2^31) (2^33) a b;rw[<- Za0,zb8,pow31,pow33,pow63] at h;exact h
end L3
end
section
namespace L3
open PySem PySem.Spec PyProof.Rows L2 M3
theorem Z4{α:Type}(f:α->Int):∀(l:List α)(c:Int),(l.map f).Nodup->(l.filter λx=>f x==c).length<=1
 |[],_,_=>by simp
 |x::l,c,h=>by
  rw[Xb,Vj] at h;have ih:=Z4 f l c h.2;by_cases e:f x=c
  ·have z:(l.filter λx=>f x==c)=[]:=by
    rw[List.filter_eq_nil_iff];intro y hy q;exact h.1 (vf.mpr ⟨y,hy,by rw[e];simpa using q⟩)
   simp[wE,e,z]
  ·simp[wE,e];exact ih
section
variable {prog:Program} {w:World} {A:Around} {E:Value->Shared->Prop} {s:Shared} {K:Type} [DecidableEq K] {knd:KeyKind prog w K}
theorem ZaW{a:Addr}{Q:Bool->Shared->Prop}(hT:s.TypeIs (.ref a) "tuple")(h:Q false s):wpAny (model prog w) A (Builtin.Dict.quietEq (.ref a)) Q E s:=by
 unfold Builtin.Dict.quietEq;refine wpAny_bind (wpAny_specialOf hT PySem.F.slot_tuple_eq.lookup ?_);exact wpAny_pure h
theorem ybZ{id:String}{d:Addr}{o:Obj}{es:Array DictEntry}{ep:Nat}{xs:List (List K×Addr×Value)}{Q:Array DictEntry->Shared->Prop}(ho:s.heap.get? d=some o)(hd:o.data=.dict es ep)
  (he:es.toList=xs.map (entryOfKey (tupleKind knd))) (his:∀ x∈xs,(tupleKind knd).is s.heap x.1 x.2.1) (hn:(xs.map λx=>(tupleKind knd).hash x.1).Nodup) (h:Q es s) :
  wpAny (model prog w) A (Builtin.Dict.entriesForEmpty id d) Q E s:=by
 unfold Builtin.Dict.entriesForEmpty;refine wpAny_bind (wpAny_dictEntries ho hd (wpAny_bind ?_));rw[<- Array.forIn_toList];have hcount:∀ c:Int,¬(es.filter λe=>e.hash==c).size>1:=λc q=>by
  have h1:(es.filter λe=>e.hash==c).size=(es.toList.filter λe=>e.hash==c).length:=by rw[<- Array.toList_filter,wl]
  have h2:=Z4 (λe:DictEntry=>e.hash) es.toList c (by rw[he,vh];exact hn)
  lia
 refine wpAny_forIn_list _ (λrest _ s'=>s'=s/\∀ e∈rest,∃ x∈xs,e=entryOfKey (tupleKind knd) x) _ ?_ ?_ _ _ ⟨rfl,λe hm=>?_⟩
 ·rintro e rest b s' ⟨rfl,hr⟩;obtain⟨x,hx,rfl⟩:=hr e (Wi);obtain⟨ok,ik,nk,k1,k2,k3⟩:=his x hx;refine wpAny_bind (ZaW ⟨ok,k1,k2⟩ ?_);rw[if_pos (by rfl)];rw[if_neg (hcount _)];exact wpAny_pure ⟨rfl,λe he=>hr e (uf _ he)⟩
 ·rintro b s' ⟨rfl,_⟩;exact wpAny_pure h
 ·rw[he] at hm;obtain⟨x,hx,rfl⟩:=vf.mp hm;exact⟨x,hx,rfl⟩
theorem Qbj{nm:String}{d o:Addr}{xs more:List (List K×Addr×Value)}{Q:Unit->Shared->Prop}(hdo:d≠o)(hoS:(o==sysModules)=false)
  (hd:s.heap.DictOfH (tupleKind knd) d xs) (ho:s.heap.DictOfH (tupleKind knd) o more) (hz:more.length<=sizeLine) (hn:(more.map λx=>(tupleKind knd).hash x.1).Nodup) (hx:xs=[]\/more=[])
  (hQ:∀ h',h'.DictOfH (tupleKind knd) d (if more=[] then xs else more)->Heap.SameBut d s.heap h'->Q () {s with heap:=h'}) :
  wpAny (model prog w) A (Builtin.Dict.mergeDict nm d o) Q E s:=by
 obtain⟨od,esd,epd,d1,d2,d3,d4,d5,d6⟩:=id hd;obtain⟨oo,eso,epo,o1,o2,o3,o4,o5,o6⟩:=id ho;have hlen:eso.size=more.length:=by rw[<- wl,o4,Wd]
 unfold Builtin.Dict.mergeDict;rw[if_neg (by simpa using hdo)];unfold Builtin.Dict.showsAll;rw[if_neg (by rw[hoS];exact Ud)];refine wpAny_bind (wpAny_pure ?_);refine wpAny_bind (wpAny_dictEntries o1 o3 ?_);by_cases hm:more=[]
 ·subst hm;obtain rfl:eso=#[]:=by
   apply vv;rw[hlen];rfl
  rw[if_neg (by simp)];refine wpAny_bind (wpAny_dictEpoch o1 o3 ?_);refine wpAny_bind (wpAny_dictEntries o1 o3 ?_);have hq:=hQ s.heap (by rw[if_pos rfl];exact hd) (Heap.SameBut.refl _ _);refine wpAny_bind ?_;rw[Std.Legacy.Range.forIn_eq_forIn_range'];simp only[Std.Legacy.Range.size,Ua,Vl,wC,WC,Nat.div_one,List.range'_zero,xA];exact wpAny_pure (wpAny_pure hq)
 ·obtain rfl:xs=[]:=hx.resolve_right hm;have he:esd=#[]:=by
   apply vv;rw[<- wl,d4];rfl
  subst he;have hall:(decide (eso.size<=8)&&eso.all λe=>(keyPart e.key).isSome)=false:=by
   rw[XA]
   right
   rw[<- WE,o4];cases more with
   |nil=>exact absurd rfl hm
   |cons x r=>rfl
  simp only[hall];rw[if_pos (by rfl)];refine wpAny_bind (wpAny_dictEntries d1 d3 ?_);rw[if_pos (by rfl)];refine wpAny_bind (ybZ o1 o3 o4 o5 hn ?_);have hne:eso.isEmpty=false:=by
   rw[wy];intro z;rw[z] at hlen;exact hm (Up.mp (by simpa using hlen.symm))
  rw[if_pos (by rw[hne];rfl)];refine wpAny_bind (wpAny_updateDictKeysTo d1 d3 (wpAny_pure (hQ _ ?_ (Heap.SameBut.update ..))) (by lia));rw[if_neg hm];refine⟨_,_,epd+1,wj _ d1 (Obj.isFreed_of_dict (Obj.data_mapDictKeys d3 _)),d2.mapDictKeys _,Obj.data_mapDictKeys d3 _,o4,λx hx=>?_,o6⟩;exact(tupleKind knd).keeps (o5 x hx) d1 d3 (Heap.SameBut.update ..)
end
theorem qbl:typeOf (.builtin "dict.update")=pure (.type "method_descriptor"):=by
 show builtinType _=_;rw[builtinType_eq_fast]
 kernel_rfl
theorem zam:entryFor table "dict.update"=some Builtin.«dict.update»:=entryFor_of_tree (by kernel_rfl)
theorem zaw(u v:Value):argsOk "dict.update" ⟨[u,v],[]⟩:=by
 unfold argsOk;rw[signature?_of (id:="dict.update") (n:="etadpu".toList) (o:="tcid".toList) (by kernel_rfl) PySem.F.owner_dict]
 kernel_rfl
section
variable {X:Cx} {pins:List (Addr×Obj)} {σ:L2.St} {H:Hp} {s:Shared} {a b:Addr} {A:Around} {E:Value->Shared->Prop}
theorem YbN{kvs more:List (List Key×V)}{Q:Value->Shared->Prop}(I:Inv X pins σ H s)(ea:H a=some (.dT kvs))(eb:Rd H b (.dT more))(hne:a≠b)(hx:kvs=[]\/more=[])
  (hn:(more.map λx=>(tupleKind (qh X.prog X.w)).hash x.1).Nodup) (h:∀ s',Inv X pins σ (upd H a (.dT (if more=[] then kvs else more))) s'->Q .none s') :
  wpAny (model X.prog X.w) A (call (.builtin "dict.update") [.ref a,.ref b]) Q E s:=by
 obtain⟨za,ha,xs,ra,da⟩:=Zb7 I.hok ea;obtain⟨zb,hb,ys,rb,db⟩:=Zbh I.hok eb;have hl:=qR rb;have hk:∀(l:List (List Key×V)) (m:List (List Key×Addr×Value)),KT H l m->(m.map λx=>(tupleKind (qh X.prog X.w)).hash x.1)=l.map λx=>(tupleKind (qh X.prog X.w)).hash x.1:=by
  intro l m r
  induction r with
  |nil=>rfl
  |cons h t ih=>rw[Xb,Xb,ih,h.1]
 have e1:xs=[]\/ys=[]:=by
  rcases hx with rfl|rfl
  ·left;cases ra;rfl
  ·right;cases rb;rfl
 refine wpAny_call_entry PySem.F.slot_dict_update da.typeIs zam ?_ (zaw _ _);unfold Builtin.«dict.update»;refine wpAny_bind ?_;unfold Builtin.Dict.selfAndRest;refine wpAny_bind (wpAny_notOrdered_dict da.typeIs ?_);show wpAny _ _ (pure (a,[Value.ref b])) _ _ s;refine wpAny_pure ?_;show wpAny _ _ (Builtin.Dict.updateFrom "dict.update" a (.ref b) [] .none) _ _ s;unfold Builtin.Dict.updateFrom;refine wpAny_bind (wpAny_typeOf db.typeIs ?_);rw[if_neg (by decide)];refine wpAny_bind ?_;unfold Builtin.Dict.merge;refine wpAny_bind ?_;unfold Builtin.Dict.readDirectly;refine wpAny_bind (wpAny_isInstance db.typeIs isSubtype_dict_dict ?_);simp only[Bool.not_true,Xl,if_false];refine wpAny_bind (wpAny_specialOf db.typeIs PySem.F.slot_dict_iter.lookup (wpAny_pure ?_));simp only[beq_self_eq_true,if_true];refine wpAny_bind (wpAny_pure ?_);refine Qbj (knd:=qh X.prog X.w) hne hb da db (by rw[<- hl];exact zb) (by rw[hk _ _ rb];exact hn) e1 λh' dd hs=>?_;show wpAny _ _ (Builtin.Dict.addKeywords a [] >>= _) _ _ _;refine wpAny_bind (wpAny_pure (wpAny_pure ⟨_,rfl,h _ ?_⟩));obtain⟨q,es,ep,hq,h2,h3,h4,_,h5⟩:=dd;have kt:KT H (if more=[] then kvs else more) (if ys=[] then xs else ys):=by
  by_cases z:more=[]
  ·have z2:ys=[]:=by subst z;cases rb;rfl
   rw[if_pos z,if_pos z2];exact ra
  ·have z2:ys≠[]:=λz3=>z (by subst z3;cases rb;rfl);rw[if_neg z,if_neg z2];exact rb
 refine ybe (t':=s.toks) I (by rw[ea];exact True.intro) hs ⟨q,hq⟩ ⟨by split <;> assumption,ha,_,kt.keeps λc ys ec=>?_,q,es,ep,hq,h2,h3,h4,h5⟩;rw[Zd (Yb7 ec ea (λz=>nomatch z))];exact ec
end
end L3
end
section
namespace M3
open PySem
open Sem (wp)
end M3
namespace L3
open PySem PySem.Spec PyProof.Rows L2 M3
end L3
end
section
namespace L3
open PySem PySem.Spec PyProof.Rows L2 M3
end L3
end
section
namespace L3
open PySem L2 PyProof.Rows
end L3
end
section
namespace L3
open PySem PySem.Spec PyProof.Rows L2 M3 PySem.Builtin PySem.Builtin.Str
section
variable {prog:Program} {w:World} {A:Around} {E:Value->Shared->Prop} {s:Shared} {x y:Str} {t u:Tok} {Q:Value->Shared->Prop}
theorem Ybb(hy:(y.length==0)=false)(hsz:x.length+2<=sizeLine)
  (h:∀(l:List (Str×Tok)) (k:Tok),l.map (·.1)=Txt.split x y->Q (.ref s.heap.objs.size) {s with heap:=s.heap.push {cls:=.type "list",data:=.seq (strValues l).toArray},toks:=k}) :
  wpAny (model prog w) A (call (.builtin "str.split") [.str x t,.str y u]) Q E s:=by
 have hn:(partsBetween x (occurrences x y 0 x.length (x.length+1)) y.length).length<=sizeLine:=by
  have e1:=StrLaws.occ_length_le x y 0 x.length (x.length+1);rw[length_partsBetween];lia
 cases h1:(decide (x.length<y.length)||decide (strKind x<strKind y))
 ·cases hf:(occurrences x y 0 x.length (x.length+1)).isEmpty
  ·refine call_meets F.slot_str_split (typeIs_str _ _ _) F.entry_str_split (F.args_str_split_2 _ _) (meets_str_split_sep x y t u h1 hy hf (by lia) hn) ?_;show wants Q E _ {s with toks:=_,heap:=s.heap.push {cls:=.type "list",data:=.seq (strsFrom s.toks (partsBetween x (occurrences x y 0 x.length (x.length+1)) y.length)).toArray}};rw[strsFrom_eq];exact h (numbered s.toks _) _ ((numbered_texts _ _).trans ((if_neg (ne_true_of_eq_false h1)).trans (if_neg (ne_true_of_eq_false hf))).symm)
  ·exact call_meets F.slot_str_split (typeIs_str _ _ _) F.entry_str_split (F.args_str_split_2 _ _) (meets_str_split_not_found x y t u h1 hy hf)
    (h [(x,t)] s.toks ((if_neg (ne_true_of_eq_false h1)).trans (if_pos hf)).symm)
 ·exact call_meets F.slot_str_split (typeIs_str _ _ _) F.entry_str_split (F.args_str_split_2 _ _) (meets_str_split_cannot_occur x y t u h1)
   (h [(x,t)] s.toks (if_pos h1).symm)
end
section
variable {X:Cx} {o e:Expr} {apos cpos:Pos} {td ty:TE}
theorem zbf:∀{ts:List Str}{us:List Value},Vals (ts.map V.str) us->StrsAre us ts
 |[],_,.nil=>.nil
 |y::ts,_,.cons r rr=>by
  obtain⟨t,rfl⟩:=(show ∃ t,_=Value.str y t from r);exact .cons y t (zbf rr)
theorem Zaw:∀(l:List (Str×Tok)),Vals ((l.map (·.1)).map V.str) (strValues l)
 |[]=>.nil
 |p::l=>.cons ⟨p.2,rfl⟩ (Zaw l)
noncomputable def tJoin(td ty:TE):TE:=λσ H Q=>td σ H λx H1=>∃ sep,x=.str sep/\ty σ H1 λy H2=>∃ a ts,y=.ref a/\Rd H2 a (.lst (ts.map V.str))/\(ts.map (·.length)).sum+ts.length*sep.length<=16777216/\Q (.str (Txt.join sep ts)) H2
theorem ybW(ho:PE X o td)(he:PE X e ty)(m:M1 X o "join" apos e cpos):PE X (.Call (.Attribute o "join" apos) [e] [] cpos) (tJoin td ty):=by
 intro pins s σ H Q I h;refine wpAny_Call_method m.base m.few m.line PySem.F.plainAttrs_str PySem.F.slot_str_join PySem.F.type_str_join (thn (ho pins s σ H _ I h) λu s1 ⟨x,H1,I1,rx,sep,ex,q1⟩=>?_);subst ex;obtain⟨t,rfl⟩:=(show ∃ t,u=Value.str sep t from rx);refine⟨typeIs_str _ _ _,(λ_ e=>nomatch e),?_⟩;rw[m.trees];refine Calls.callWith_builtin rfl (Calls.evalArgs_plain (Calls.spliced_cons (thn (he pins s1 σ H1 _ I1 q1) λiv s2 ⟨y,H2,I2,ry,a,ts,ey,ea,hz,q2⟩=>Calls.spliced_nil ?_)));subst ey;obtain rfl:iv=Value.ref a:=ry;obtain⟨_,its,n,rv,hg⟩:=ea.ok I2.hok;exact join_list ⟨_,hg,rfl,n,rfl⟩ (by simpa using zbf rv) hz λt' k=>⟨.str (Txt.join sep ts),H2,I2.tok _,⟨_,rfl⟩,q2⟩
noncomputable def yci(td ty:TE):TE:=λσ H Q=>td σ H λx H1=>∃ z,x=.str z/\ty σ H1 λy H2=>∃ sep,y=.str sep/\(sep.length==0)=false/\z.length+2<=sizeLine/\∀ p,H2 p=none->Q (.ref p) (upd H2 p (.lst ((Txt.split z sep).map V.str)))
theorem Ybl(x y:Str):(Txt.split x y).length<=x.length+2:=by
 unfold Txt.split;split
 ·simp
 ·split
  ·simp
  ·have e1:=StrLaws.occ_length_le x y 0 x.length (x.length+1);rw[length_partsBetween];lia
theorem Zbx(ho:PE X o td)(he:PE X e ty)(m:M1 X o "split" apos e cpos):PE X (.Call (.Attribute o "split" apos) [e] [] cpos) (yci td ty):=by
 intro pins s σ H Q I h;refine wpAny_Call_method m.base m.few m.line PySem.F.plainAttrs_str PySem.F.slot_str_split PySem.F.type_str_split (thn (ho pins s σ H _ I h) λu s1 ⟨x,H1,I1,rx,z,ex,q1⟩=>?_);subst ex;obtain⟨t,rfl⟩:=(show ∃ t,u=Value.str z t from rx);refine⟨typeIs_str _ _ _,(λ_ e=>nomatch e),?_⟩;rw[m.trees];refine Calls.callWith_builtin rfl (Calls.evalArgs_plain (Calls.spliced_cons (thn (he pins s1 σ H1 _ I1 q1) λiv s2 ⟨y,H2,I2,ry,sep,ey,h0,hz,q2⟩=>Calls.spliced_nil ?_)));subst ey;obtain⟨t2,rfl⟩:=(show ∃ t,iv=Value.str sep t from ry);refine Ybb h0 hz λl k el=>?_;have hf:H2 s2.heap.objs.size=none:=I2.hok.fresh (vb _);refine⟨.ref s2.heap.objs.size,_,I2.laid (a:=s2.heap.objs.size) (o:=.lst ((Txt.split z sep).map V.str)) (t':=k) (λb u e=>wa _ e) (vb _) ?_,rfl,q2 _ hf⟩;refine⟨by rw[Wd];exact xf (Ybl z sep) hz,strValues l,0,?_,ub _ rfl⟩;rw[<- el];exact Zaw l
end
end L3
end
section
namespace L3
open PySem PySem.Spec PyProof.Rows L2 M3
noncomputable def kN(n:Nat):Nat:=(n+(hM-2))%hM
noncomputable def kG(n:Nat):Nat:=ZbF (kN n)*hI2%hM
noncomputable def qJ:Nat:=66
theorem QaN:∀ a<qJ,∀ c<qJ,a≠c->qJ<=(kG a+(hM-kG c))%hM:=by decide +kernel
theorem zaD:∀ a<qJ,∀ b<qJ,Zal (y0 (kN a) (kN b))≠hM-1:=by decide +kernel
theorem zbK{a b c d:Nat}(ha:a<qJ)(hb:b<qJ)(hc:c<qJ)(hd:d<qJ)(h:y0 (kN a) (kN b)=y0 (kN c) (kN d)):a=c/\b=d:=by
 have hm:0<hM:=by decide
 have h1:=Ybk (Wl _ hm) (Wl _ hm) h;have h2:(kG a+kN b)%hM=(kG c+kN d)%hM:=by
  have e:∀ u v,((ZbF u+v*hP2)%hM*hI2)%hM=(ZbF u*hI2%hM+v)%hM:=λu v=>by
   rw[Uu,Nat.mod_mod,<- Uu,Xx,Nat.add_mod,Nat.mul_assoc,Uu v,ZbU];simp[Nat.add_mod]
  unfold kG;rw[<- e,<- e,h1]
 by_cases hac:a=c
 ·refine⟨hac,?_⟩;rw[hac] at h2;have:kG c<hM:=Wl _ hm;unfold kN at h2;unfold hM qJ at *
  lia
 ·exfalso;have q1:=QaN a ha c hc hac;have q2:=QaN c hc a ha (Ne.symm hac);have l1:kG a<hM:=Wl _ hm;have l2:kG c<hM:=Wl _ hm;generalize kG a=x at *;generalize kG c=y at *;unfold kN at h2;unfold hM qJ at *
  lia
theorem ybN(m p1 p2 p5 q u v:Nat)(x y x' y':Int)(hx:x%(m:Int)=x'%(m:Int))(hy:y%(m:Int)=y'%(m:Int)):Zbn m p1 p2 p5 q u v [x,y]=Zbn m p1 p2 p5 q u v [x',y']:=by
 simp only[Zbn,xk,wu,hx,hy];rfl
noncomputable def zN(z:Int):Nat:=if z=-1 then 0 else z.toNat+2
theorem zai{z:Int}(h0:-1<=z)(h1:z<64):hashInt z%((2^64:Nat):Int)=(kN (zN z):Int)%((2^64:Nat):Int)/\zN z<qJ:=by
 by_cases e:z=-1
 ·subst e;decide +kernel
 ·obtain⟨a,rfl⟩:=xh (show 0<=z by lia);have la:a<hBnd:=by unfold hBnd;lia
  rw[zat a la,zb8];unfold zN;rw[if_neg e];unfold kN hM qJ;constructor
  ·simp;lia
  ·simp;lia
theorem ZbN{x y:Int}(hx:-1<=x)(hy:-1<=y)(h:zN x=zN y):x=y:=by
 unfold zN at h;split at h <;> split at h <;> lia
theorem YbG{a b:Nat}(ha:a<qJ)(hb:b<qJ):Builtin.Tuple.tupleHashOf [(kN a:Int),(kN b:Int)]=if Zal (y0 (kN a) (kN b))<9223372036854775808 then(Zal (y0 (kN a) (kN b)):Int) else(Zal (y0 (kN a) (kN b)):Int)-(hM:Int):=by
 have la:kN a<hM:=Wl _ (by decide);have lb:kN b<hM:=Wl _ (by decide);rw[zbn];have e:zbv (kN a) (kN b)=Zal (y0 (kN a) (kN b)):=by
  unfold zbv y0 ZbF;rw[vo la,vo lb]
 rw[e,if_neg (zaD a ha b hb)]
theorem ybs{a b c d:Nat}(ha:a<qJ)(hb:b<qJ)(hc:c<qJ)(hd:d<qJ)(h:reduceHash (Builtin.Tuple.tupleHashOf [(kN a:Int),(kN b:Int)])=reduceHash (Builtin.Tuple.tupleHashOf [(kN c:Int),(kN d:Int)])):a=c/\b=d:=by
 have n1:=zaD a ha b hb;have n2:=zaD c hc d hd;have l1:Zal (y0 (kN a) (kN b))<hM:=Wl _ (by decide);have l2:Zal (y0 (kN c) (kN d))<hM:=Wl _ (by decide);have r:∀ z:Nat,z<hM->z≠hM-1->reduceHash (if z<9223372036854775808 then(z:Int) else(z:Int)-(hM:Int))=if z<9223372036854775808 then(z:Int) else(z:Int)-(hM:Int):=λz l n=>by
  unfold hM at *;unfold reduceHash;split
  ·rw[if_pos (by simp;lia),if_neg (by simp)]
  ·rw[if_pos (by simp;lia),if_neg (by simp;lia)]
 rw[YbG ha hb,YbG hc hd,r _ l1 n1,r _ l2 n2] at h;have e:Zal (y0 (kN a) (kN b))=Zal (y0 (kN c) (kN d)):=by
  unfold hM at *;split at h <;> split at h <;> lia
 refine zbK ha hb hc hd ?_;have s1:y0 (kN a) (kN b)<hM:=Wl _ (by decide);have s2:y0 (kN c) (kN d)<hM:=Wl _ (by decide);unfold Zal at e;generalize (2 ^^^ (hP5 ^^^ 3527539))=k at e;unfold hM at *
 lia
noncomputable def qaE(k:Int×Int):Prop:=(-1<=k.1/\k.1<64)/\-1<=k.2/\k.2<64
theorem qby{P:Program}{w:World}{k k':Int×Int}(h1:qaE k)(h2:qaE k')(h:(tupleKind (qh P w)).hash [(Sum.inl k.1:Key),Sum.inl k.2]=(tupleKind (qh P w)).hash [(Sum.inl k'.1:Key),Sum.inl k'.2]):k=k':=by
 obtain⟨a,b⟩:=k;obtain⟨c,d⟩:=k';obtain⟨⟨a0,a1⟩,b0,b1⟩:=h1;obtain⟨⟨c0,c1⟩,d0,d1⟩:=h2;simp only at a0 a1 b0 b1 c0 c1 d0 d1;have h:reduceHash (Builtin.Tuple.tupleHashOf [hashInt a,hashInt b])=reduceHash (Builtin.Tuple.tupleHashOf [hashInt c,hashInt d]):=h;obtain⟨ea,la⟩:=zai a0 a1;obtain⟨eb,lb⟩:=zai b0 b1;obtain⟨ec,lc⟩:=zai c0 c1;obtain⟨ed,ld⟩:=zai d0 d1;have r:∀(x y:Int)(m n:Nat),x%((2^64:Nat):Int)=(kN m:Int)%((2^64:Nat):Int)->y%((2^64:Nat):Int)=(kN n:Int)%((2^64:Nat):Int)->Builtin.Tuple.tupleHashOf [x,y]=Builtin.Tuple.tupleHashOf [(kN m:Int),(kN n:Int)]:=λx y m n e1 e2=>by
  rw[Za0,Za0];exact ybN _ _ _ _ _ _ _ _ _ _ _ e1 e2
 rw[r _ _ _ _ ea eb,r _ _ _ _ ec ed] at h;obtain⟨e1,e2⟩:=ybs la lb lc ld h;rw[ZbN a0 c0 e1,ZbN b0 d0 e2]
section
variable {prog:Program} {w:World} {A:Around} {E:Value->Shared->Prop} {s:Shared} {K:Type} [DecidableEq K] {knd:HeapKind prog w K}
theorem ya9{D b:Addr}{ys:List (K×Addr×Value)}{k:K}{v:Value}{Q:Unit->Shared->Prop}(ru:knd.room A)(ik:knd.is s.heap k b)(dd:s.heap.DictOfH knd D ys)(lz:ys.length<=sizeLine)
  (go:∀ h',h'.DictOfH knd D (storedH ys k b v)->Heap.SameBut D s.heap h'->Q () {s with heap:=h'}):wpAny (model prog w) A (dictSetHashed D (.ref b) (knd.hash k) v) Q E s:=by
 obtain⟨o,es,ep,o1,o2,o3,o4,o5,o6⟩:=dd;have sz:=size_of_entries o4;unfold dictSetHashed;refine wpAny_holding (wpAny_bind (wpAny_dictFind_heap ru ik o1 o3 o4 o5 o6 (λno=>?_) λj p hj=>?_))
 ·have e:=storedH_new (a:=b) (v:=v) (atKey_none_of_get no);refine wpAny_bind (wpAny_rule (wpAny_updateDictKeys (hz:=by lia) o1 o3 (go _ ?_ (Heap.SameBut.update ..))));rw[e];refine⟨_,_,ep+1,wj _ o1 (Obj.isFreed_of_dict (Obj.data_mapDictKeys o3 _)),o2.mapDictKeys _,Obj.data_mapDictKeys o3 _,by simp[o4,entryOfKey],λy hy=>?_,?_⟩
  ·rcases Xf.mp hy with hy|hy
   ·exact knd.keeps (o5 y hy) o1 o3 (Heap.SameBut.update ..)
   ·obtain rfl:=Ub.mp hy;exact knd.keeps ik o1 o3 (Heap.SameBut.update ..)
  ·rw[Xi,Xu];refine⟨o6,by simp,λx hx y hy z=>?_⟩;have:y=k:=by simpa using hy
   exact not_mem_keys_of_get no (by rw[<- this,<- z];exact hx)
 ·have e:=storedH_old (a:=b) (v:=v) (atKey_of_get o6 hj);refine wpAny_bind (wpAny_rule (wpAny_bind (wpAny_updateDict o1 o3 (wpAny_point (go _ ?_ (Heap.SameBut.update ..))))));rw[e];refine⟨_,_,ep,wj _ o1 (Obj.isFreed_of_dict (Obj.data_mapDict o3 _)),o2.mapDict _,Obj.data_mapDict o3 _,?_,λy hy=>?_,by rw[keys_map_putAt];exact o6⟩
  ·have m:=modify_map_putAt (entryOfKey knd) (λe:DictEntry=>{e with val:=v}) k v (λ_ _=>rfl) o6 hj;rw[<- o4] at m;obtain⟨l⟩:=es;simpa using m
  ·obtain⟨z,hz,rfl⟩:=vf.mp hy;unfold putAt;split <;> exact knd.keeps (o5 z hz) o1 o3 (Heap.SameBut.update ..)
end
section
variable {prog:Program} {w:World} {A:Around} {E:Value->Shared->Prop} {s:Shared} {K:Type} [DecidableEq K] {knd:KeyKind prog w K}
noncomputable def yae(ps xs:List (List K×Addr×Value)):List (List K×Addr×Value):=ps.foldl (λacc p=>storedH acc p.1 p.2.1 p.2.2) xs
theorem yaA:∀(ps xs:List (List K×Addr×Value)),(yae ps xs).length<=xs.length+ps.length
 |[],xs=>by simp[yae]
 |p::ps,xs=>by
  have h1:=yaA ps (storedH xs p.1 p.2.1 p.2.2);have h2:=QaR xs p.1 p.2.1 p.2.2;show(yae ps (storedH xs p.1 p.2.1 p.2.2)).length<=_;simp only[Xd];lia
theorem Zba(ps xs:List (List K×Addr×Value))(i:Nat)(p:List K×Addr×Value)(h:ps[i]?=some p):yae (ps.take (i+1)) xs=storedH (yae (ps.take i) xs) p.1 p.2.1 p.2.2:=by
 unfold yae;rw[vq,h];simp
theorem ybE{h h':Heap}{D O:Addr}{ys zs:List (List K×Addr×Value)}(dd:h.DictOfH (tupleKind knd) D ys)(x:h.DictOfH (tupleKind knd) O zs)(hne:D≠O)(sb:Heap.SameBut D h h'):h'.DictOfH (tupleKind knd) O zs:=by
 obtain⟨od,esd,epd,d1,_,d3,_⟩:=dd;obtain⟨o,es,ep,e1,e2,e3,e4,e5,e6⟩:=x;exact⟨o,es,ep,(sb.2 O (Ne.symm hne)).trans e1,e2,e3,e4,λy hy=>(tupleKind knd).keeps (e5 y hy) d1 d3 sb,e6⟩
theorem yaZ{nm:String}{d o:Addr}{xs more:List (List K×Addr×Value)}{Q:Unit->Shared->Prop}(hdo:d≠o)(hoS:(o==sysModules)=false)(ru:(tupleKind knd).room A)
  (hd:s.heap.DictOfH (tupleKind knd) d xs) (ho:s.heap.DictOfH (tupleKind knd) o more) (hz:xs.length+more.length<=sizeLine) (hx:xs≠[]) (hm:more≠[])
  (hQ:∀ h',h'.DictOfH (tupleKind knd) d (yae more xs)->Heap.SameBut d s.heap h'->Q () {s with heap:=h'}) :
  wpAny (model prog w) A (Builtin.Dict.mergeDict nm d o) Q E s:=by
 obtain⟨od,esd,epd,d1,d2,d3,d4,d5,d6⟩:=id hd;obtain⟨oo,eso,epo,o1,o2,o3,o4,o5,o6⟩:=id ho;have hlen:eso.size=more.length:=by rw[<- wl,o4,Wd]
 unfold Builtin.Dict.mergeDict;rw[if_neg (by simpa using hdo)];unfold Builtin.Dict.showsAll;rw[if_neg (by rw[hoS];exact Ud)];refine wpAny_bind (wpAny_pure ?_);refine wpAny_bind (wpAny_dictEntries o1 o3 ?_);have hall:(decide (eso.size<=8)&&eso.all λe=>(keyPart e.key).isSome)=false:=by
  rw[XA]
  right
  rw[<- WE,o4];cases more with
  |nil=>exact absurd rfl hm
  |cons x r=>rfl
 simp only[hall];rw[if_pos (by rfl)];refine wpAny_bind (wpAny_dictEntries d1 d3 ?_);have hne:esd.isEmpty=false:=by
  rw[wy];intro z;rw[z] at d4;exact hx (Vs.mp d4.symm)
 rw[if_neg (by rw[hne];exact Ud)];refine wpAny_bind (wpAny_dictEpoch o1 o3 (wpAny_bind (wpAny_dictEntries o1 o3 (wpAny_bind ?_))));rw[Std.Legacy.Range.forIn_eq_forIn_range'];simp only[Std.Legacy.Range.size,wC,WC,Nat.div_one];refine wpAny_forIn_list _ (λrest _ s'=>∃ h' i,s'={s with heap:=h'}/\rest=List.range' i (eso.size-i)/\i<=eso.size/\h'.DictOfH (tupleKind knd) d (yae (more.take i) xs)/\h'.DictOfH (tupleKind knd) o more/\h'.get? o=some oo/\Heap.SameBut d s.heap h') _ ?_ ?_ _ _
  ⟨s.heap,0,rfl,by simp,Xq _,hd,ho,o1,Heap.SameBut.refl _ _⟩
 ·rintro x rest b s' ⟨h',i,rfl,hr,hi,hd',ho',hoo',hs'⟩;by_cases hlt:i<eso.size
  ·rw[show eso.size-i=(eso.size-(i+1))+1 by lia,xE] at hr;obtain⟨rfl,hrest⟩:=List.cons.inj hr;have hix:x<more.length:=by lia
   have hex:eso[x]?=some (entryOfKey (tupleKind knd) more[x]):=by
    rw[<- WA,o4,xc,Wa hix];rfl
   refine wpAny_bind (wpAny_dictEntries hoo' o3 ?_);rw[hex];have ik:(tupleKind knd).is h' more[x].1 more[x].2.1:=by
    obtain⟨_,_,_,_,_,_,_,k5,_⟩:=ho';exact k5 _ (Wh hix)
   refine wpAny_bind (wpAny_holding (ya9 (s:={s with heap:=h'}) ru ik hd' ?_ λh'' hd'' sb=>?_))
   ·have:=yaA (more.take x) xs;rw[Vm] at this
    lia
   ·have hoo'':h''.get? o=some oo:=(sb.2 o (Ne.symm hdo)).trans hoo';refine wpAny_bind (wpAny_dictEpoch hoo'' o3 ?_);rw[if_neg (by simp)];exact wpAny_pure ⟨h'',x+1,rfl,hrest,hlt,by rw[Zba more xs x more[x] (Wa hix)];exact hd'',ybE hd' ho' hdo sb,hoo'',hs'.trans sb⟩
  ·rw[Nat.sub_eq_zero_of_le (by lia)] at hr;cases hr
 ·rintro b s' ⟨h',i,rfl,hr,hi,hd',ho',hoo',hs'⟩;have hin:more.length<=i:=by
   by_cases hlt:i<eso.size
   ·rw[show eso.size-i=(eso.size-(i+1))+1 by lia,xE] at hr;cases hr
   ·lia
  rw[Xn hin] at hd';exact wpAny_pure (hQ h' hd' hs')
end
noncomputable def qaY:Nat:=4194304
theorem yca{n:Nat}(h:n<=qaY):n<=sizeLine:=xf h (by decide)
section
variable {X:Cx} {pins:List (Addr×Obj)} {σ:L2.St} {H:Hp} {s:Shared} {a b:Addr} {E:Value->Shared->Prop}
theorem Ybt{kvs more:List (List Key×V)}{Q:Value->Shared->Prop}(I:Inv X pins σ H s)(ru:X.A.units+3<cLine)(ea:H a=some (.dT kvs))(eb:Rd H b (.dT more))(hne:a≠b)(hx:kvs≠[])(hm:more≠[])(hz:kvs.length+more.length<=qaY)
  (h:∀ s',Inv X pins σ (upd H a (.dT (Yy more kvs))) s'->Q .none s') :
  wpAny (model X.prog X.w) X.A (call (.builtin "dict.update") [.ref a,.ref b]) Q E s:=by
 obtain⟨za,ha,xs,ra,da⟩:=Zb7 I.hok ea;obtain⟨zb,hb,ys,rb,db⟩:=Zbh I.hok eb;have hl:=qR rb;have hl':=qR ra;have e1:xs≠[]:=λz=>hx (Up.mp (by rw[hl',z];rfl));have e2:ys≠[]:=λz=>hm (Up.mp (by rw[hl,z];rfl));refine wpAny_call_entry PySem.F.slot_dict_update da.typeIs zam ?_ (zaw _ _);unfold Builtin.«dict.update»;refine wpAny_bind ?_;unfold Builtin.Dict.selfAndRest;refine wpAny_bind (wpAny_notOrdered_dict da.typeIs ?_);show wpAny _ _ (pure (a,[Value.ref b])) _ _ s;refine wpAny_pure ?_;show wpAny _ _ (Builtin.Dict.updateFrom "dict.update" a (.ref b) [] .none) _ _ s;unfold Builtin.Dict.updateFrom;refine wpAny_bind (wpAny_typeOf db.typeIs ?_);rw[if_neg (by decide)];refine wpAny_bind ?_;unfold Builtin.Dict.merge;refine wpAny_bind ?_;unfold Builtin.Dict.readDirectly;refine wpAny_bind (wpAny_isInstance db.typeIs isSubtype_dict_dict ?_);simp only[Bool.not_true,Xl,if_false];refine wpAny_bind (wpAny_specialOf db.typeIs PySem.F.slot_dict_iter.lookup (wpAny_pure ?_));simp only[beq_self_eq_true,if_true];refine wpAny_bind (wpAny_pure ?_);refine yaZ (knd:=qh X.prog X.w) hne hb (by first|exact tupleKind_room_in1 (by lia)|skip) da db (by rw[<- hl,<- hl'];exact yca hz) e1 e2 λh' dd hs=>?_;show wpAny _ _ (Builtin.Dict.addKeywords a [] >>= _) _ _ _;refine wpAny_bind (wpAny_pure (wpAny_pure ⟨_,rfl,h _ ?_⟩));obtain⟨q,es,ep,hq,h2,h3,h4,_,h5⟩:=dd;have kt:=Zcb rb ra;have lk:=zad more kvs;refine ybe (t':=s.toks) I (by rw[ea];exact True.intro) hs ⟨q,hq⟩ ⟨xf lk (yca hz),ha,_,kt.keeps λc ys ec=>?_,q,es,ep,hq,h2,h3,h4,h5⟩;rw[Zd (Yb7 ec ea (λz=>nomatch z))];exact ec
end
noncomputable def ycb (X:Cx) (td ty:TE):TE:=fun σ H Q=>td σ H fun x H1=>∃ a,x=.ref a∧IsD H1 a∧ty σ H1 fun y H2=>∃ b kvs more,y=.ref b∧H2 a=some (.dT kvs)∧Rd H2 b (.dT more)∧a≠b ∧
  ((kvs=[]∨more=[])∧(more.map fun x=>(tupleKind (qh X.prog X.w)).hash x.1).Nodup∧Q .non (upd H2 a (.dT (if more=[] then kvs else more))) ∨
   kvs≠[]∧more≠[]∧kvs.length + more.length≤qaY∧Q .non (upd H2 a (.dT (Yy more kvs))))
theorem QbP{X:Cx}{o e:Expr}{apos cpos:Pos}{td ty:TE}(ru:X.A.units+3<cLine)(ho:PE X o td)(he:PE X e ty)(m:M1 X o "update" apos e cpos):PE X (.Call (.Attribute o "update" apos) [e] [] cpos) (ycb X td ty):=by
 intro pins s σ H Q I h;refine wpAny_Call_method m.base m.few m.line PySem.F.plainAttrs_dict PySem.F.slot_dict_update qbl (thn (ho pins s σ H _ I h) λu s1 ⟨x,H1,I1,rx,a,ex,d,q1⟩=>?_);subst ex;obtain rfl:u=Value.ref a:=rx;obtain⟨t1,t2,_⟩:=Ych I1 d;refine⟨t1,t2,?_⟩;rw[m.trees];refine Calls.callWith_builtin rfl (Calls.evalArgs_plain (Calls.spliced_cons (thn (he pins s1 σ H1 _ I1 q1) λiv s2 ⟨y,H2,I2,ry,b,kvs,more,ey,ea,eb,hne,q2⟩=>Calls.spliced_nil ?_)));subst ey;obtain rfl:iv=Value.ref b:=ry
 rcases q2 with ⟨hx,hn,q2⟩|⟨hx,hm,hz,q2⟩
 ·exact YbN I2 ea eb hne hx hn λs3 I3=>⟨.non,_,I3,rfl,q2⟩
 ·exact Ybt I2 ru ea eb hne hx hm hz λs3 I3=>⟨.non,_,I3,rfl,q2⟩
section
variable {X:Cx}
theorem ybc:OpR X (binaryOp .Mult) (λx y H Q=>∃ i n,x=.str i/\y=.int n/\0<=n/\n<=4096/\i.length<=4096/\Q (.str (Txt.mul i n)) H):=by
 intro pins s σ H x y v u Q I rx ry h;obtain⟨i,n,rfl,rfl,h0,h1,h2,q⟩:=h;obtain⟨t,rfl⟩:=rx;obtain⟨t',rfl⟩:=ry;exact SB.mul (mulOk_of 4096 4096 h2 h1 (by lia) (by decide) (by decide)) λt' k=>⟨.str (Txt.mul i n),H,I.tok _,⟨_,rfl⟩,q⟩
theorem qaw:∀{vs:List V}{us ws:List Value},(∀ v∈vs,∃ c,v=V.ref c)->Vals vs us->Vals vs ws->us=ws
 |_,_,_,_,.nil,.nil=>rfl
 |_,_,_,h,.cons r rr,.cons r' rr'=>by
  obtain⟨c,rfl⟩:=h _ Wi;cases r;cases r';rw[qaw (λv hv=>h v (uf _ hv)) rr rr']
theorem zbi(hu:X.A.units<cLine):OpR X (compareOp .Eq) (λx y H Q=>∃ a b vs,x=.ref a/\y=.ref b/\Rd H a (.lst vs)/\Rd H b (.lst vs)/\(∀ v∈vs,∃ c,v=V.ref c)/\Q (.bl true) H):=by
 intro pins s σ H x y v u Q I rx ry h;obtain⟨a,b,vs,rfl,rfl,ha,hb,hv,q⟩:=h;obtain rfl:v=Value.ref a:=rx;obtain rfl:u=Value.ref b:=ry;obtain⟨_,its,n,r,e⟩:=ha.ok I.hok;obtain⟨_,its2,n2,r2,e2⟩:=hb.ok I.hok;have:=qaw hv r r2;subst this;refine PySem.SeqAt.eq_listAt (e:=λ_=>true) (items:=its.toArray) (items2:=its.toArray) ⟨_,e,rfl,n,rfl⟩ ⟨_,e2,rfl,n2,rfl⟩ rfl hu (λj _ _=>PySem.SeqAt.EqAt.same _) ?_;rw[show((wc its.toArray.size).all λ_=>true)=true by simp];exact⟨.bl true,H,I,rfl,q⟩
end
end L3
end
section
namespace MP
open PySem
inductive FV where
 |non|bl (b:Bool)|int (i:Int)|str (s:Str)
 |tup (xs:List FV)|lst (xs:List FV)|obj (c:String) (ns:List String) (vs:List FV)|scr (ns:List Int)|tab (kvs:List ((Int×Int)×Int))|msk (ks:List (Int×Int))
inductive MV where
 |f (x:FV)|ref (a:Nat)|tup (xs:List MV)|exc (c:String)
inductive Cell where
 |lst (xs:List MV)|obj (c:String) (fs:List (String×MV))|dic (ks:List Int)|tab (kvs:List ((Int×Int)×Int))|msk (ks:List (Int×Int))|code|dead
noncomputable abbrev MH:=List Cell
noncomputable abbrev MSt:=List (Option MV)
inductive R (α:Type) where
 |ok (x:α) (h:MH)|exc (c:String) (h:MH)|stuck
noncomputable abbrev RD{γ δ:Sort _}(_k:γ->δ)(τ:Type):Type:=τ
namespace R
noncomputable def bind{α β:Type}(r:R α)(k:α->MH->R β):RD k (R β):=match r with
 |.ok x h=>k x h
 |.exc c h=>.exc c h
 |.stuck=>.stuck
variable {α β:Type}
@[simp] theorem bind_ok{x:α}{h:MH}{k:α->MH->R β}:(R.ok x h).bind k=k x h:=id rfl
@[simp] theorem bind_exc{c:String}{h:MH}{k:α->MH->R β}:(R.exc c h:R α).bind k=.exc c h:=id rfl
@[simp] theorem bind_stuck{k:α->MH->R β}:(R.stuck:R α).bind k=.stuck:=id rfl
end R
noncomputable def opt{α β:Type}(o:Option α)(k:α->R β):RD k (R β):=match o with
 |some x=>k x
 |none=>.stuck
@[simp] theorem zj{α β:Type}{x:α}{k:α->R β}:opt (some x) k=k x:=id rfl
@[simp] theorem opt_none{α β:Type}{k:α->R β}:opt none k=.stuck:=id rfl
noncomputable def Yr:MV->Bool
 |.f .non=>true
 |_=>false
noncomputable def qi:List MV->Option (List FV)
 |[]=>some []
 |.f x::r=>(qi r).map (x::·)
 |_::_=>none
noncomputable def yf(xs:List MV):MV:=match qi xs with
 |some ys=>.f (.tup ys)
 |none=>.tup xs
noncomputable def yu(fz:Bool)(xs:List MV)(h:MH):R MV:=match fz with
 |true=>opt (qi xs) λys=>.ok (.f (.lst ys)) h
 |false=>.ok (.ref h.length) (h++[.lst xs])
noncomputable def Zb(h:MH)(a:Nat):Option (List MV):=match h[a]? with
 |some (.lst xs)=>some xs
 |_=>none
noncomputable def zc(h:MH):MV->Option (List MV)
 |.f (.tup xs)=>some (xs.map .f)
 |.f (.lst xs)=>some (xs.map .f)
 |.f (.scr ns)=>some (ns.map λi=>.f (.int i))
 |.tup xs=>some xs
 |.ref a=>Zb h a
 |_=>none
noncomputable def listOf(h:MH):MV->Option (List MV)
 |.f (.lst xs)=>some (xs.map .f)
 |.ref a=>Zb h a
 |_=>none
noncomputable def ZD:MV->Option (List MV)
 |.f (.tup xs)=>some (xs.map .f)
 |.tup xs=>some xs
 |_=>none
noncomputable def Yd:MV->Option Int
 |.f (.int i)=>some i
 |_=>none
noncomputable def qF:MV->Option Bool
 |.f (.bl b)=>some b
 |_=>none
@[simp] noncomputable def yg:List MV->Option (List Int)
 |[]=>some []
 |.f (.int i)::r=>(yg r).map (i::·)
 |_::_=>none
@[simp] noncomputable def Qr:List MV->Option (List Bool)
 |[]=>some []
 |.f (.bl i)::r=>(Qr r).map (i::·)
 |_::_=>none
noncomputable def yn(h:MH):Nat->MV->Option FV
 |0,_=>none
 |_+1,.f x=>some x
 |n+1,.tup xs=>(xs.mapM (yn h n)).map .tup
 |n+1,.ref a=>(Zb h a).bind λxs=>(xs.mapM (yn h n)).map .lst
 |_+1,.exc _=>none
noncomputable def qG(h:MH)(v:MV):Option FV:=yn h 5 v
noncomputable def zq(h:MH):Nat->MV->List Nat
 |0,_=>[]
 |_+1,.f _=>[]
 |n+1,.tup xs=>xs.flatMap (zq h n)
 |n+1,.ref a=>a::((Zb h a).getD []).flatMap (zq h n)
 |_+1,.exc _=>[]
noncomputable def kill(as:List Nat)(h:MH):MH:=h.mapIdx λi c=>if i∈as then .dead else c
noncomputable def zL(v:MV)(h:MH):R MV:=opt (qG h v) λx=>.ok (.f x) (kill (zq h 5 v) h)
noncomputable def sOk(x:Str):Bool:=x.cps.all (· < 0x110000)
noncomputable def isD:Nat->FV->Bool
 |_+1,.non=>true
 |_+1,.bl _=>true
 |_+1,.int _=>true
 |_+1,.str s=>sOk s
 |n+1,.tup xs=>xs.all (isD n)
 |n+1,.lst xs=>xs.all (isD n)
 |_,_=>false
mutual
noncomputable def eqD:FV->FV->Bool
 |.non,.non=>true
 |.bl a,.bl b=>a==b
 |.bl a,.int j=>(if a then 1 else 0)==j
 |.int i,.bl b=>i==(if b then 1 else 0)
 |.int a,.int b=>a==b
 |.str a,.str b=>a==b
 |.tup xs,.tup ys=>Zan xs ys
 |.lst xs,.lst ys=>Zan xs ys
 |_,_=>false
noncomputable def Zan:List FV->List FV->Bool
 |[],[]=>true
 |x::xs,y::ys=>eqD x y&&Zan xs ys
 |_,_=>false
end
noncomputable def eqF(x y:FV):Option Bool:=if isD 8 x=true/\isD 8 y=true then some (eqD x y) else none
noncomputable def inF(x:FV)(ys:List FV):Option Bool:=if isD 8 x=true/\ys.all (isD 8)=true then some (ys.any λy=>eqD y x) else none
inductive BO where
 |add|sub|mul|fdiv|mod|pow
inductive CO where
 |lt|le|gt|ge|eq|ne|inn|nin
noncomputable def big:Nat:=2^4096
noncomputable def Q5(i j:Int):Prop:=i.natAbs<2^64\/j.natAbs<2^64\/(i.natAbs<big/\j.natAbs<big)
noncomputable def zU(i j:Int):Prop:=0<j/\(j<1073741824\/j.natAbs<big)
open Classical in
noncomputable def QE:BO->Int->Int->Option Int
 |.add,i,j=>some (i+j)
 |.sub,i,j=>some (i-j)
 |.mul,i,j=>if Q5 i j then some (i*j) else none
 |.fdiv,i,j=>if zU i j then some (i/j) else none
 |.mod,i,j=>if 0<j then some (i%j) else none
 |.pow,i,j=>if 0<=j/\j<=1000000/\i.natAbs<2^64 then some (i^j.toNat) else none
noncomputable def sizeL:Nat:=4194304
open Classical in
noncomputable def yh(fz:Bool)(op:BO)(x y:MV)(h:MH):R MV:=match Yd x,Yd y with
 |some i,some j=>opt (QE op i j) λk=>.ok (.f (.int k)) h
 |none,some j=>match op with
  |.mul=>opt (listOf h x) λxs=>if -(2^63)<=j/\j<2^63/\xs.length*j.toNat<=sizeL then yu fz (Wb j.toNat xs).flatten h else .stuck
  |_=>.stuck
 |none,none=>match op with
  |.add=>match ZD x,ZD y with
   |some xs,some ys=>if xs≠[]/\xs.length+ys.length<=sizeL then .ok (yf (xs++ys)) h else .stuck
   |_,_=>opt (listOf h x) λxs=>opt (listOf h y) λys=>if xs.length+ys.length<=sizeL then yu fz (xs++ys) h else .stuck
  |_=>.stuck
 |_,_=>.stuck
noncomputable def ZX:CO->Int->Int->Option Bool
 |.lt,i,j=>some (decide (i<j))
 |.le,i,j=>some (decide (i<=j))
 |.gt,i,j=>some (decide (j<i))
 |.ge,i,j=>some (decide (j<=i))
 |_,_,_=>none
noncomputable def Yv(op:CO)(x y:MV)(h:MH):Option Bool:=match op with
 |.eq=>(qG h x).bind λa=>(qG h y).bind λb=>eqF a b
 |.ne=>(qG h x).bind λa=>(qG h y).bind λb=>(eqF a b).map (!·)
 |.inn=>(qG h x).bind λa=>(zc h y).bind λys=>(ys.mapM (qG h)).bind λbs=>inF a bs
 |.nin=>(qG h x).bind λa=>(zc h y).bind λys=>(ys.mapM (qG h)).bind λbs=>(inF a bs).map (!·)
 |op=>(Yd x).bind λi=>(Yd y).bind λj=>ZX op i j
noncomputable def ixM(n:Nat)(i:Int):Option Nat:=if 0<=i then(if i<n then some i.toNat else none) else if -(n:Int)<=i then some (i+n).toNat else none
noncomputable def atM(xs:List MV)(i:Int):Option MV:=(ixM xs.length i).bind λj=>xs[j]?
noncomputable def ya7(n d:Nat):Option Int->Nat
 |none=>d
 |some i=>if i<0 then(i+(n:Int)).toNat else min i.toNat n
noncomputable def zao(xs:List MV)(lo hi:Option Int):List MV:=(xs.drop (ya7 xs.length 0 lo)).take (ya7 xs.length xs.length hi-ya7 xs.length 0 lo)
noncomputable def yab(fz:Bool)(x:MV)(lo hi:Option Int)(h:MH):R MV:=match ZD x with
 |some xs=>.ok (yf (zao xs lo hi)) h
 |none=>opt (zc h x) λxs=>yu fz (zao xs lo hi) h
noncomputable def zas(n:String)(v:MV):List (String×MV)->List (String×MV)
 |[]=>[(n,v)]
 |(k,x)::r=>if k=n then(k,v)::r else(k,x)::zas n v r
inductive T2 where
 |join|split (fz:Bool)|at|inn|cat|rep|same|upd
inductive Tg where
 |nm (i:Nat)|tp (ts:List Tg)
inductive ME where
 |var (i:Nat)|cI (i:Int)|cB (b:Bool)|cN|cS (s:Str)
 |bin (fz:Bool) (op:BO) (a b:ME)|neg (a:ME)
 |cmp (op:CO) (a b:ME)|chain (op op':CO) (a b c:ME)
 |isN (a:ME)|notN (a:ME)
 |and (es:List ME)|or (es:List ME)|not (a:ME)|ite (c a b:ME)
 |tup (es:List ME)|lst (fz:Bool) (es:List ME)
 |sub (a i:ME)|slice (fz:Bool) (a:ME) (lo hi:Option ME)
 |fld (a:ME) (n:String)
 |call (f:String) (es:List ME)|make (fz:Bool) (c:String) (es:List ME)|meth (o:ME) (m:String) (es:List ME)
 |blt (fz:Bool) (n:String) (es:List ME)
 |isI (a:ME) (t:String)
 |nearK (a b:ME)
 |tx2 (o:T2) (a b:ME)
 |lm (m:String) (o:ME) (es:List ME)
 |comp (fz:Bool) (elt:ME) (tg:Tg) (it:String) (src:List ME) (cond:Option ME) (ncv:Nat) (js:List Nat)
 |frz (e:ME)
inductive MS where
 |set (tg:Tg) (e:ME)
 |setSub (o i e:ME)
 |setFld (o:ME) (n:String) (e:ME)
 |par (i j:Nat) (a b:ME)
 |expr (e:ME)
 |ret (e:ME)
 |ite (c:ME) (a b:List MS)
 |for_ (tg:Tg) (it:String) (src:List ME) (body:List MS)
 |while_ (c:ME) (body:List MS)
 |raise (c:String) (es:List ME)
 |tryW (body:List MS) (ei dst:Nat) (word:String)
 |pass|boom
 |frzS (i:Nat)
structure MDef where
 np:Nat
 ns:Nat
 body:List MS
structure Prog where
 defs:String->Option MDef
 globs:String->Option FV
 meths:String->String->Option String
 subs:String->String->Option Bool
 fok:String->String->Bool
 excs:String->Bool
 word:String->String->Option Str
 words:String->Bool
 xsubs:String->String->Option Bool:=λ_ _=>none
 xcls:String->Bool:=λ_=>false
 xt:Bool:=false
 dfl:String->List Int->Bool:=λ_ _=>false
 mk0:String->Bool:=λ_=>false
 turns:Nat
@[simp] noncomputable def qaq(n:String):List String->List FV->Option FV
 |m::ns,v::vs=>if n=m then some v else qaq n ns vs
 |_,_=>none
noncomputable def QY(ok:String->String->Bool)(n:String)(v:MV)(h:MH):Option MV:=match v with
 |.f (.obj c ns vs)=>if ok c n=true then(qaq n ns vs).map .f else none
 |.ref a=>match h[a]? with
  |some (.obj c fs)=>if ok c n=true then fs.lookup n else none
  |_=>none
 |_=>none
noncomputable def clsM(m:String)(v:MV)(h:MH):Option String:=match v with
 |.f (.obj c ns _)=>if m∈ns then none else some c
 |.ref a=>match h[a]? with
  |some (.obj c fs)=>if m∈fs.map vt then none else some c
  |_=>none
 |_=>none
noncomputable def excOf:MV->Option String
 |.exc c=>some c
 |_=>none
@[simp] theorem zcv(c:String):excOf (.exc c)=some c:=rfl
noncomputable def QQ(sub:String->String->Option Bool)(h:MH)(v:MV)(t:String):Option Bool:=match v with
 |.f .non=>some false
 |.f (.bl _)=>some (decide (t="bool")||decide (t="int"))
 |.f (.int _)=>some (decide (t="int"))
 |.f (.str _)=>some (decide (t="str"))
 |.f (.tup _)=>some (decide (t="tuple"))
 |.f (.tab _)=>none
 |.f (.msk _)=>none
 |.f (.lst _)=>some (decide (t="list"))
 |.f (.obj c _ _)=>sub c t
 |.f (.scr _)=>none
 |.tup _=>some (decide (t="tuple"))
 |.ref a=>match h[a]? with
  |some (.lst _)=>some (decide (t="list"))
  |some (.obj c _)=>sub c t
  |_=>none
 |.exc _=>none
noncomputable def lmC(x:MV)(h:MH):Option (List MV):=match x with
 |.ref a=>Zb h a
 |_=>none
noncomputable def ZI(xs:List MV)(i:Int)(y:MV):List MV:=let k:=ya7 xs.length 0 (some i);xs.take k++y::xs.drop k
noncomputable def ye(h:MH)(a:Nat)(xs:List MV):MH:=h.set a (.lst xs)
open Classical in
noncomputable def lmV(m:String)(o:MV)(as:List MV)(h:MH):R MV:=match o with
 |.ref a=>opt (Zb h a) λxs=>match m,as with
  |"append",[y]=>if xs.length<sizeL then .ok (.f .non) (ye h a (xs++[y])) else .stuck
  |"extend",[z]=>opt (listOf h z) λys=>if xs.length+ys.length<=sizeL then .ok (.f .non) (ye h a (xs++ys)) else .stuck
  |"insert",[u,y]=>opt (Yd u) λi=>if xs.length<sizeL/\-(2^63)<=i/\i<2^63 then .ok (.f .non) (ye h a (ZI xs i y)) else .stuck
  |"reverse",[]=>.ok (.f .non) (ye h a xs.reverse)
  |"clear",[]=>.ok (.f .non) (ye h a [])
  |"pop",[]=>opt (xs[xs.length-1]?) λy=>.ok y (ye h a (xs.take (xs.length-1)))
  |"pop",[u]=>opt (Yd u) λi=>opt (ixM xs.length i) λk=>opt (xs[k]?) λy=>if -(2^63)<=i/\i<2^63 then .ok y (ye h a (xs.take k++xs.drop (k+1))) else .stuck
  |_,_=>.stuck
 |_=>.stuck
noncomputable def Zau:Int->List Int->Int
 |m,[]=>m
 |m,x::r=>Zau (if x<m then x else m) r
noncomputable def yat:Int->List Int->Int
 |m,[]=>m
 |m,x::r=>yat (if x>m then x else m) r
noncomputable def YN(fz:Bool)(n:String)(as:List MV)(h:MH):R MV:=match n,as with
 |"len",[v]=>opt (zc h v) λxs=>.ok (.f (.int xs.length)) h
 |"sum",[v]=>opt ((zc h v).bind yg) λxs=>.ok (.f (.int xs.sum)) h
 |"all",[v]=>opt ((zc h v).bind Qr) λxs=>.ok (.f (.bl (xs.all id))) h
 |"min",[v]=>opt ((zc h v).bind yg) λxs=>match xs with | []=>.stuck|x::r=>.ok (.f (.int (Zau x r))) h
 |"max",[v]=>opt ((zc h v).bind yg) λxs=>match xs with | []=>.stuck|x::r=>.ok (.f (.int (yat x r))) h
 |"min",[u,v]=>opt (Yd u) λi=>opt (Yd v) λj=>.ok (.f (.int (if j<i then j else i))) h
 |"max",[u,v]=>opt (Yd u) λi=>opt (Yd v) λj=>.ok (.f (.int (if j>i then j else i))) h
 |"abs",[v]=>opt (Yd v) λi=>.ok (.f (.int (if i<0 then -i else i))) h
 |"int",[v]=>match qF v with
  |some b=>.ok (.f (.int (if b then 1 else 0))) h
  |none=>opt (Yd v) λi=>.ok (.f (.int i)) h
 |"tuple",[v]=>opt (zc h v) λxs=>.ok (yf xs) h
 |"list",[v]=>opt (zc h v) λxs=>yu fz xs h
 |"divmod",[u,v]=>opt (Yd u) λi=>opt (Yd v) λj=>if 0<j/\j<1073741824 then .ok (.f (.tup [.int (i/j),.int (i%j)])) h else .stuck
 |_,_=>.stuck
noncomputable def cellT(h:MH)(v:MV):Option (List ((Int×Int)×Int)):=match v with
 |.ref a=>match h[a]? with
  |some (.tab kvs)=>some kvs
  |_=>none
 |.f (.tab kvs)=>some kvs
 |_=>none
noncomputable def ZbB(ks:List (Int×Int))(k:Int×Int):List (Int×Int):=if k∈ks then ks else ks++[k]
noncomputable def Qad(h:MH)(v:MV):Option (List (Int×Int)):=match v with
 |.ref a=>match h[a]? with
  |some (.msk ks)=>some ks
  |_=>none
 |.f (.msk ks)=>some ks
 |_=>none
noncomputable def ycr(k:Int×Int):Bool:=decide ((0<=k.1/\k.1<64)/\0<=k.2/\k.2<64)
noncomputable def mUpdV(x y:MV)(h:MH):R MV:=match x,y with
 |.ref i,.f (.msk ks')=>opt (Qad h (.ref i)) λks=>if(ks=[]\/ks'=[])/\ks'.all ycr=true/\ks'.Nodup then .ok (.f .non) (h.set i (.msk (if ks'=[] then ks else ks'))) else .stuck
 |_,_=>.stuck
noncomputable def Yj:MV->Option Str
 |.f (.str s)=>some s
 |_=>none
noncomputable def yt:List MV->Option (List Nat)
 |[]=>some []
 |.ref a::r=>(yt r).map (a::·)
 |_::_=>none
noncomputable def yaM(k:Int×Int):Bool:=decide ((-1<=k.1/\k.1<64)/\-1<=k.2/\k.2<64)
noncomputable def updV(x y:MV)(h:MH):R MV:=match x,y with
 |.ref i,.f (.msk ks')=>opt (Qad h (.ref i)) λks=>if ks=[]\/ks'=[] then(if ks'.all yaM=true/\ks'.Nodup then .ok (.f .non) (h.set i (.msk (if ks'=[] then ks else ks'))) else .stuck)
  else if ks.length+ks'.length<=sizeL then .ok (.f .non) (h.set i (.msk (ks'.foldl ZbB ks))) else .stuck
 |_,_=>.stuck
noncomputable def t2g(o:T2)(x:MV)(h:MH):Option Str:=match o with
 |.same=>some ⟨#[]⟩
 |.upd=>(Qad h x).map λ_=>⟨#[]⟩
 |_=>Yj x
@[simp] theorem t2g_join{x:MV}{h:MH}:t2g .join x h=Yj x:=rfl
@[simp] theorem zcy{fz:Bool}{x:MV}{h:MH}:t2g (.split fz) x h=Yj x:=rfl
@[simp] theorem t2g_at{x:MV}{h:MH}:t2g .at x h=Yj x:=rfl
@[simp] theorem t2g_inn{x:MV}{h:MH}:t2g .inn x h=Yj x:=rfl
@[simp] theorem t2g_cat{x:MV}{h:MH}:t2g .cat x h=Yj x:=rfl
@[simp] theorem t2g_rep{x:MV}{h:MH}:t2g .rep x h=Yj x:=rfl
@[simp] theorem t2g_same{x:MV}{h:MH}:t2g .same x h=some ⟨#[]⟩:=rfl
@[simp] theorem t2g_upd{x:MV}{h:MH}:t2g .upd x h=(Qad h x).map λ_=>⟨#[]⟩:=rfl
noncomputable def YW(o:T2)(x y:MV)(h:MH):R MV:=match o with
 |.join=>opt (Yj x) λsep=>opt (listOf h y) λxs=>opt (xs.mapM Yj) λts=>if(ts.map (·.length)).sum+ts.length*sep.length<=16777216 then .ok (.f (.str (Txt.join sep ts))) h else .stuck
 |.split fz=>opt (Yj x) λz=>opt (Yj y) λsep=>if(sep.length==0)=false/\z.length+2<=sizeL then yu fz ((Txt.split z sep).map λt=>.f (.str t)) h else .stuck
 |.at=>opt (Yj x) λz=>opt (Yd y) λi=>opt (if z.length<=sizeL/\0<=i then z.cps.toList[i.toNat]? else none) λc=>.ok (.f (.str ⟨#[c]⟩)) h
 |.inn=>opt (Yj x) λi=>opt (Yj y) λj=>.ok (.f (.bl (!(Builtin.Str.occurrences j i 0 j.length 1).isEmpty))) h
 |.cat=>opt (Yj x) λi=>opt (Yj y) λj=>if i.length+j.length<=sizeL then .ok (.f (.str (i++j))) h else .stuck
 |.rep=>opt (Yj x) λi=>opt (Yd y) λn=>if 0<=n/\n<=4096/\i.length<=4096 then .ok (.f (.str (Txt.mul i n))) h else .stuck
 |.same=>opt ((listOf h x).bind yt) λas=>opt ((listOf h y).bind yt) λbs=>if as=bs then .ok (.f (.bl true)) h else .stuck
 |.upd=>updV x y h
noncomputable def bestI(w:Int)(n:Int)(r:List Int):Int:=r.foldl (λb k=>if(if w-k<0 then -(w-k) else w-k)<(if w-b<0 then -(w-b) else w-b) then k else b) n
noncomputable def nearV(x y:MV)(h:MH):R MV:=opt (Yd x) λw=>opt (zc h y) λvs=>opt (yg vs) λns=>match ns with
 |n::r=>match (h[0]?:Option Cell) with
  |some .code=>.ok (.f (.int (bestI w n r))) h
  |_=>.stuck
 |[]=>.stuck
mutual
@[simp] noncomputable def YH:Tg->MV->MSt->Option MSt
 |.nm i,v,σ=>some (σ.set i (some v))
 |.tp ts,v,σ=>(ZD v).bind λvs=>yC ts vs σ
@[simp] noncomputable def yC:List Tg->List MV->MSt->Option MSt
 |[],[],σ=>some σ
 |t::ts,v::vs,σ=>(YH t v σ).bind λσ'=>yC ts vs σ'
 |_,_,_=>none
end
noncomputable abbrev yy:=List (Nat×List MV)
noncomputable def GuardOk(g:yy)(h:MH):Prop:=∀ p∈g,Zb h p.1=some p.2
noncomputable def yc(h:MH):MV->yy
 |.ref a=>match Zb h a with
  |some xs=>[(a,xs)]
  |none=>[]
 |_=>[]
noncomputable def rlen(lo hi st:Int):Nat:=if lo<hi then((hi-lo-1)/st+1).toNat else 0
noncomputable def itV(it:String)(as:List MV)(h:MH):Option (List MV×yy):=match it,as with
 |"seq",[v]=>(zc h v).map λxs=>(xs,yc h v)
 |"range",[u]=>(Yd u).bind λn=>if -(2^62)<=n/\n<2^62 then some ((wc n.toNat).map λ(k:Nat)=>.f (.int k),[]) else none
 |"range",[u,v]=>(Yd u).bind λa=>(Yd v).bind λb=>if -(2^62)<=a/\a<2^62/\-(2^62)<=b/\b<2^62 then some ((wc (b-a).toNat).map λ(k:Nat)=>.f (.int (a+k)),[]) else none
 |"range",[u,v,w]=>(Yd u).bind λa=>(Yd v).bind λb=>(Yd w).bind λs=>if -(2^30)<=a/\a<2^30/\-(2^30)<=b/\b<2^30/\0<s/\s<2^30 then some ((wc (rlen a b s)).map λ(k:Nat)=>.f (.int (a+k*s)),[]) else none
 |"zip",[u,v]=>(zc h u).bind λxs=>(zc h v).map λys=>((xs.zip ys).map λp=>yf [p.1,p.2],yc h u++yc h v)
 |"keys",[.f (.tab kvs)]=>some (kvs.map λkv=>.f (.tup [.int kv.1.1,.int kv.1.2]),[])
 |"signs",[.f (.str s)]=>some (s.cps.toList.map λc=>.f (.str ⟨#[c]⟩),[])
 |"items",[.f (.tab kvs)]=>some (kvs.map λkv=>.f (.tup [.tup [.int kv.1.1,.int kv.1.2],.int kv.2]),[])
 |"enumerate",[v]=>(zc h v).map λxs=>(xs.mapIdx λk x=>yf [.f (.int k),x],yc h v)
 |"enum1",[v]=>(zc h v).map λxs=>(xs.mapIdx λk x=>yf [.f (.int ((k+1:Nat):Int)),x],yc h v)
 |_,_=>none
inductive RS where
 |next (σ:MSt) (h:MH)|ret (v:MV) (h:MH)|brk (σ:MSt) (h:MH)|cnt (σ:MSt) (h:MH)|exc (c:String) (h:MH)|stuck
namespace RS
noncomputable def bind(r:RS)(k:MSt->MH->RS):RD k RS:=match r with
 |.next σ h=>k σ h
 |.ret v h=>.ret v h
 |.brk σ h=>.brk σ h
 |.cnt σ h=>.cnt σ h
 |.exc c h=>.exc c h
 |.stuck=>.stuck
@[simp] theorem bind_next{σ:MSt}{h:MH}{k:MSt->MH->RS}:(RS.next σ h).bind k=k σ h:=id rfl
@[simp] theorem bind_ret{v:MV}{h:MH}{k:MSt->MH->RS}:(RS.ret v h).bind k=.ret v h:=id rfl
@[simp] theorem bind_brk{σ:MSt}{h:MH}{k:MSt->MH->RS}:(RS.brk σ h).bind k=.brk σ h:=id rfl
@[simp] theorem bind_cnt{σ:MSt}{h:MH}{k:MSt->MH->RS}:(RS.cnt σ h).bind k=.cnt σ h:=id rfl
@[simp] theorem bind_exc{c:String}{h:MH}{k:MSt->MH->RS}:(RS.exc c h).bind k=.exc c h:=id rfl
@[simp] theorem bind_stuck{k:MSt->MH->RS}:(RS.stuck).bind k=.stuck:=id rfl
noncomputable def turn(r:RS)(k:MSt->MH->RS):RD k RS:=match r with
 |.next σ h=>k σ h
 |.cnt σ h=>k σ h
 |.brk σ h=>.next σ h
 |.ret v h=>.ret v h
 |.exc c h=>.exc c h
 |.stuck=>.stuck
@[simp] theorem turn_next{σ:MSt}{h:MH}{k:MSt->MH->RS}:(RS.next σ h).turn k=k σ h:=id rfl
@[simp] theorem turn_cnt{σ:MSt}{h:MH}{k:MSt->MH->RS}:(RS.cnt σ h).turn k=k σ h:=id rfl
@[simp] theorem turn_brk{σ:MSt}{h:MH}{k:MSt->MH->RS}:(RS.brk σ h).turn k=.next σ h:=id rfl
@[simp] theorem turn_ret{v:MV}{h:MH}{k:MSt->MH->RS}:(RS.ret v h).turn k=.ret v h:=id rfl
@[simp] theorem turn_exc{c:String}{h:MH}{k:MSt->MH->RS}:(RS.exc c h).turn k=.exc c h:=id rfl
@[simp] theorem Zcf{k:MSt->MH->RS}:(RS.stuck).turn k=.stuck:=id rfl
end RS
noncomputable def RS.caught(k:String->MH->RS)(r:RS):RD k RS:=match r with
 |.exc c h=>k c h
 |r=>r
noncomputable def R.st{α:Type}(r:R α)(k:α->MH->RS):RD k RS:=match r with
 |.ok x h=>k x h
 |.exc c h=>.exc c h
 |.stuck=>.stuck
@[simp] theorem R.st_ok{α:Type}{x:α}{h:MH}{k:α->MH->RS}:(R.ok x h).st k=k x h:=id rfl
@[simp] theorem R.st_exc{α:Type}{c:String}{h:MH}{k:α->MH->RS}:(R.exc c h:R α).st k=.exc c h:=id rfl
@[simp] theorem R.st_stuck{α:Type}{k:α->MH->RS}:(R.stuck:R α).st k=.stuck:=id rfl
noncomputable def ZC{α:Type}(o:Option α)(k:α->RS):RD k RS:=match o with
 |some x=>k x
 |none=>.stuck
@[simp] theorem Q9{α:Type}{x:α}{k:α->RS}:ZC (some x) k=k x:=id rfl
@[simp] theorem ycz{α:Type}{k:α->RS}:ZC none k=.stuck:=id rfl
open Classical in
noncomputable def zu(g:yy)(bd:MV->MSt->MH->RS):List MV->MSt->MH->RS
 |[],σ,h=>if GuardOk g h then .next σ h else .stuck
 |x::r,σ,h=>if GuardOk g h then(bd x σ h).turn λσ1 h1=>zu g bd r σ1 h1 else .stuck
open Classical in
noncomputable def Yi(g:yy)(bd:MV->MSt->MH->R (Option MV×MSt)):List MV->List MV->MSt->MH->R (List MV)
 |[],acc,σ,h=>if GuardOk g h then .ok acc h else .stuck
 |x::r,acc,σ,h=>if GuardOk g h/\acc.length<sizeL then(bd x σ h).bind λp h1=>Yi g bd r (match p.1 with|some y=>acc++[y]|none=>acc) p.2 h1 else .stuck
noncomputable def stM(ncv:Nat)(js:List Nat)(σ:MSt):MSt:=Wb ncv none++js.map λj=>(σ[j]?).join
noncomputable def ybB(c:MSt->MH->R MV)(bd:MSt->MH->RS):Nat->MSt->MH->RS
 |0,_,_=>.stuck
 |n+1,σ,h=>(c σ h).st λv h1=>ZC (qF v) λb=>if b=true then(bd σ h1).turn λσ2 h2=>ybB c bd n σ2 h2 else .next σ h1
noncomputable def calm{α:Type}(r:R α):R α:=match r with
 |.ok x h=>.ok x h
 |_=>.stuck
@[simp] theorem calm_ok{α:Type}{x:α}{h:MH}:calm (R.ok x h)=.ok x h:=id rfl
noncomputable def zi(tg:Tg)(ex:MSt->MH->RS):MV->MSt->MH->RS:=λx σ h=>ZC (YH tg x σ) λσ2=>ex σ2 h
noncomputable def Zt(tg:Tg)(tc:MSt->MH->R Bool)(te:MSt->MH->R MV):MV->MSt->MH->R (Option MV×MSt):=λx σ h =>
 opt (YH tg x σ) λσ2=>(calm (tc σ2 h)).bind λk h2=>if k=true then(calm (te σ2 h2)).bind λy h3=>.ok (some y,σ2) h3 else .ok (none,σ2) h2
noncomputable def FlatC:Cell->Prop
 |.lst xs=>∃ ys:List FV,xs=ys.map MV.f
 |.obj _ fs=>∃ ys:List (String×FV),fs=ys.map λp=>(p.1,MV.f p.2)
 |.dic _=>True
 |.tab _=>True
 |.msk _=>True
 |.code=>True
 |.dead=>True
noncomputable def TrOk(h h':MH):Prop:=h.length<=h'.length/\∀ i c,i<h.length->h'[i]?=some c->h[i]?=some c\/FlatC c
open Classical in
noncomputable def zk(h:MH)(v:MV)(h':MH):R MV:=if TrOk h h' then(match v with
 |.f x=>.ok (.f x) (h'.take h.length)
 |.ref a=>if h.length<=a then(match Zb h' a with
   |some xs=>match qi xs with
    |some _=>.ok (.ref h.length) (h'.take h.length++[.lst xs])
    |none=>.ok v h'
   |none=>.ok v h') else .ok v h'
 |v=>.ok v h') else .ok v h'
open Classical in
noncomputable def yP(h:MH)(c:String)(h':MH):R MV:=if TrOk h h' then .exc c (h'.take h.length) else .exc c h'
section
variable (P:Prog) (W:String->List MV->MH->R MV)
open Classical in
noncomputable def qT(fz:Bool)(c:String)(as:List MV)(h:MH):R MV :=
 (match P.meths c "__init__" with
  |some f=>W f (.ref h.length::as) (h++[Cell.obj c []])
  |none=>match as with | []=>R.ok (MV.f FV.non) (h++[Cell.obj c []])|_=>.stuck).bind λv (h1:MH)=>if Yr v=false then .stuck else
 match fz with
 |true=>match h1[h.length]? with
  |some (Cell.obj c' fs)=>opt (qi (fs.map wm)) λvs=>if TrOk h h1 then R.ok (MV.f (FV.obj c' (fs.map vt) vs)) (h1.take h.length) else .stuck
  |_=>.stuck
 |false=>R.ok (MV.ref h.length) h1
mutual
@[simp] noncomputable def qa:ME->MSt->MH->R MV
 |.var i,σ,h=>opt ((σ[i]?).join) λv=>.ok v h
 |.cI i,_,h=>.ok (.f (.int i)) h
 |.cB b,_,h=>.ok (.f (.bl b)) h
 |.cN,_,h=>.ok (.f .non) h
 |.cS s,_,h=>.ok (.f (.str s)) h
 |.bin fz op a b,σ,h=>(qa a σ h).bind λx h1=>(qa b σ h1).bind λy h2=>yh fz op x y h2
 |.neg a,σ,h=>(qa a σ h).bind λx h1=>opt (Yd x) λi=>.ok (.f (.int (-i))) h1
 |.cmp op a b,σ,h=>(qa a σ h).bind λx h1=>(qa b σ h1).bind λy h2=>opt (Yv op x y h2) λb=>.ok (.f (.bl b)) h2
 |.chain op op' a b c,σ,h=>(qa a σ h).bind λx h1=>(qa b σ h1).bind λy h2=>opt (Yv op x y h2) λk =>
   if k=true then(qa c σ h2).bind λz h3=>opt (Yv op' y z h3) λk=>.ok (.f (.bl k)) h3 else .ok (.f (.bl false)) h2
 |.isN a,σ,h=>(qa a σ h).bind λx h1=>.ok (.f (.bl (Yr x))) h1
 |.notN a,σ,h=>(qa a σ h).bind λx h1=>.ok (.f (.bl (!Yr x))) h1
 |.and es,σ,h=>qq es σ h
 |.or es,σ,h=>Zx es σ h
 |.not a,σ,h=>(qa a σ h).bind λx h1=>opt (qF x) λk=>.ok (.f (.bl (!k))) h1
 |.ite c a b,σ,h=>(qa c σ h).bind λx h1=>opt (qF x) λk=>if k=true then qa a σ h1 else qa b σ h1
 |.tup es,σ,h=>(qg es σ h).bind λxs h1=>.ok (yf xs) h1
 |.lst fz es,σ,h=>(qg es σ h).bind λxs h1=>yu fz xs h1
 |.sub a i,σ,h=>(qa a σ h).bind λx h1=>(qa i σ h1).bind λy h2=>opt (zc h2 x) λxs=>opt (Yd y) λk=>opt (atM xs k) λv=>.ok v h2
 |.slice fz a lo hi,σ,h=>(qa a σ h).bind λx h1=>(zaP lo σ h1).bind λl h2=>(zaP hi σ h2).bind λu h3=>yab fz x l u h3
 |.fld a n,σ,h=>(qa a σ h).bind λx h1=>opt (QY P.fok n x h1) λv=>.ok v h1
 |.call f es,σ,h=>(qg es σ h).bind λxs h1=>W f xs h1
 |.make fz c es,σ,h=>(qg es σ h).bind λxs h1=>qT P W fz c xs h1
 |.meth o m es,σ,h=>(qa o σ h).bind λx h1=>opt (clsM m x h1) λc=>opt (P.meths c m) λf=>(qg es σ h1).bind λxs h2=>W f (x::xs) h2
 |.blt fz n es,σ,h=>(qg es σ h).bind λxs h1=>YN fz n xs h1
 |.isI a t,σ,h=>(qa a σ h).bind λx h1=>opt (QQ P.subs h1 x t) λk=>.ok (.f (.bl k)) h1
 |.tx2 o a b,σ,h=>(qa a σ h).bind λx h1=>opt (t2g o x h1) λ_=>(qa b σ h1).bind λy h2=>YW o x y h2
 |.nearK a b,σ,h=>(qa a σ h).bind λx h1=>(qa b σ h1).bind λy h2=>nearV x y h2
 |.lm m o es,σ,h=>(qa o σ h).bind λx h1=>opt (lmC x h1) λ_=>(qg es σ h1).bind λxs h2=>lmV m x xs h2
 |.comp fz elt tg it src cond ncv js,σ,h=>(qg src σ h).bind λxs h1=>opt (itV it xs h1) λp =>
   (Yi p.2 (Zt tg (QaT cond) (qa elt)) p.1 [] (stM ncv js σ) h1).bind λacc h3=>yu fz acc h3
 |.frz e,σ,h=>(qa e σ h).bind λx h1=>zL x h1
@[simp] noncomputable def qq:List ME->MSt->MH->R MV
 |[],_,_=>.stuck
 |[e],σ,h=>qa e σ h
 |e::e'::r,σ,h=>(qa e σ h).bind λx h1=>opt (qF x) λk=>if k=true then qq (e'::r) σ h1 else .ok (.f (.bl false)) h1
@[simp] noncomputable def Zx:List ME->MSt->MH->R MV
 |[],_,_=>.stuck
 |[e],σ,h=>qa e σ h
 |e::e'::r,σ,h=>(qa e σ h).bind λx h1=>opt (qF x) λk=>if k=true then .ok (.f (.bl true)) h1 else Zx (e'::r) σ h1
@[simp] noncomputable def qg:List ME->MSt->MH->R (List MV)
 |[],_,h=>.ok [] h
 |e::es,σ,h=>(qa e σ h).bind λx h1=>(qg es σ h1).bind λxs h2=>.ok (x::xs) h2
@[simp] noncomputable def zaP:Option ME->MSt->MH->R (Option Int)
 |none,_,h=>.ok none h
 |some e,σ,h=>(qa e σ h).bind λx h1=>opt (Yd x) λi=>.ok (some i) h1
@[simp] noncomputable def QaT:Option ME->MSt->MH->R Bool
 |none,_,h=>.ok true h
 |some e,σ,h=>(qa e σ h).bind λx h1=>opt (qF x) λk=>.ok k h1
end
mutual
@[simp] noncomputable def Qt:MS->MSt->MH->RS
 |.set tg e,σ,h=>(qa P W e σ h).st λv h1=>ZC (YH tg v σ) λσ1=>.next σ1 h1
 |.setSub o i e,σ,h=>(qa P W e σ h).st λv h1=>(qa P W o σ h1).st λx h2=>(qa P W i σ h2).st λy h3 =>
   match x with
   |.ref a=>ZC (Zb h3 a) λxs=>ZC (Yd y) λk=>ZC (ixM xs.length k) λj=>.next σ (ye h3 a (xs.set j v))
   |_=>.stuck
 |.par i j a b,σ,h=>(qg P W [a,b] σ h).st λxs h1=>match xs with
  |[v,w]=>.next ((σ.set i (some v)).set j (some w)) h1
  |_=>.stuck
 |.setFld o n e,σ,h=>(qa P W e σ h).st λv h1=>(qa P W o σ h1).st λx h2=>match x with
   |.ref a=>match h2[a]? with
    |some (.obj c fs)=>if P.fok c n=true/\fs.length<100 then .next σ (h2.set a (.obj c (zas n v fs))) else .stuck
    |_=>.stuck
   |_=>.stuck
 |.expr e,σ,h=>(qa P W e σ h).st λ_ h1=>.next σ h1
 |.ret e,σ,h=>(qa P W e σ h).st λv h1=>.ret v h1
 |.ite c a b,σ,h=>(qa P W c σ h).st λv h1=>ZC (qF v) λk=>if k=true then Qa a σ h1 else Qa b σ h1
 |.for_ tg it src body,σ,h=>(qg P W src σ h).st λxs h1=>ZC (itV it xs h1) λp =>
   zu p.2 (zi tg (Qa body)) p.1 σ h1
 |.while_ c body,σ,h=>ybB (qa P W c) (Qa body) P.turns σ h
 |.raise c es,σ,h=>(qg P W es σ h).st λ_ h1=>.exc c h1
 |.tryW body ei dst word,σ,h=>RS.caught (λc h1=>ZC (P.word word c) λs=>if ei<σ.length then .next ((σ.set dst (some (.f (.str s)))).set ei none) h1 else .stuck) (Qa body σ h)
 |.pass,σ,h=>.next σ h
 |.boom,_,_=>.stuck
 |.frzS i,σ,h=>ZC ((σ[i]?).join) λv=>(zL v h).st λx h1=>.next (σ.set i (some x)) h1
noncomputable def Qa:List MS->MSt->MH->RS
 |[],σ,h=>.next σ h
 |s::r,σ,h=>(Qt s σ h).bind (Qa r)
end
end
noncomputable def Qc(h:MH)(r:RS):R MV:=match r with
 |.next _ h'=>zk h (.f .non) h'
 |.ret v h'=>zk h v h'
 |.exc c h'=>yP h c h'
 |_=>.stuck
noncomputable def run(P:Prog):Nat->String->List MV->MH->R MV
 |0,_,_,_=>.stuck
 |n+1,f,as,h=>opt (P.defs f) λd=>if as.length=d.np then Qc h (Qa P (run P n) d.body (as.map some++Wb (d.ns-d.np) none) h) else .stuck
end MP
end
section
namespace MP
open PySem
noncomputable abbrev I(i:Int):MV:=.f (.int i)
noncomputable abbrev B(b:Bool):MV:=.f (.bl b)
@[simp] theorem YaR{α:Type}(g:α->FV):∀ xs:List α,qi (xs.map λx=>MV.f (g x))=some (xs.map g)
 |[]=>rfl
 |x::r=>by simp[qi,YaR g r]
@[simp] theorem Qaw:∀ xs:List FV,qi (xs.map MV.f)=some xs
 |[]=>rfl
 |x::r=>by simp[qi,Qaw r]
@[simp] theorem ycu{α:Type}(g:α->FV)(xs:List α):qi (xs.map (MV.f∘g))=some (xs.map g):=YaR g xs
@[simp] theorem Qba{α:Type}(g:α->Int):∀ xs:List α,yg (xs.map λx=>MV.f (.int (g x)))=some (xs.map g)
 |[]=>rfl
 |x::r=>by simp[yg,Qba g r]
@[simp] theorem QaX:∀ xs:List Int,yg (xs.map (MV.f∘FV.int))=some xs
 |[]=>rfl
 |x::r=>by
  show Option.map _ (yg (r.map (MV.f∘FV.int)))=_;rw[QaX r];rfl
@[simp] theorem ybp{α:Type}(g:α->Bool):∀ xs:List α,Qr (xs.map λx=>MV.f (.bl (g x)))=some (xs.map g)
 |[]=>rfl
 |x::r=>by simp[Qr,ybp g r]
@[simp] theorem Ycf(xs:List FV):yf (xs.map MV.f)=.f (.tup xs):=by simp[yf]
@[simp] theorem Yce{α:Type}(g:α->FV)(xs:List α):yf (xs.map (MV.f∘g))=.f (.tup (xs.map g)):=by simp[yf]
@[simp] theorem ZcA{α:Type}(g:α->FV)(xs:List α):yf (xs.map λx=>MV.f (g x))=.f (.tup (xs.map g)):=by simp[yf]
@[simp] theorem Ybs(x y:FV):yf [.f x,.f y]=.f (.tup [x,y]):=rfl
@[simp] theorem qcw:yf []=.f (.tup []):=rfl
@[simp] theorem qcu(x:FV):yf [.f x]=.f (.tup [x]):=rfl
@[simp] theorem Yo(xs:List FV)(h:MH):yu true (xs.map MV.f) h=.ok (.f (.lst xs)) h:=by simp[yu]
@[simp] theorem QbN{α:Type}(g:α->FV)(xs:List α)(h:MH):yu true (xs.map (MV.f∘g)) h=.ok (.f (.lst (xs.map g))) h:=by simp[yu]
@[simp] theorem zbS{α:Type}(g:α->FV)(xs:List α)(h:MH):yu true (xs.map λx=>MV.f (g x)) h=.ok (.f (.lst (xs.map g))) h:=by simp[yu]
@[simp] theorem QbR(h:MH):yu true [] h=.ok (.f (.lst [])) h:=rfl
@[simp] theorem qbI(x:FV)(r:List MV)(h:MH):yu true (.f x::r) h=opt (qi r) λys=>.ok (.f (.lst (x::ys))) h:=by
 simp only[yu,qi];cases qi r <;> rfl
@[simp] theorem YA(xs:List MV)(h:MH):yu false xs h=.ok (.ref h.length) (h++[.lst xs]):=rfl
@[simp] theorem Qbb(P:Prog)(W:String->List MV->MH->R MV)(σ:MSt)(h:MH):Qa P W [] σ h=.next σ h:=by simp only[Qa]
@[simp] theorem qb9(P:Prog)(W:String->List MV->MH->R MV)(s:MS)(r:List MS)(σ:MSt)(h:MH):Qa P W (s::r) σ h=(Qt P W s σ h).bind (Qa P W r):=by simp only[Qa]
section
variable {h:MH}
@[simp] theorem fldV_obj(ok:String->String->Bool)(n c:String)(ns:List String)(vs:List FV):QY ok n (.f (.obj c ns vs)) h=if ok c n=true then(qaq n ns vs).map .f else none:=rfl
@[simp] theorem lmC_ref(a:Nat):lmC (.ref a) h=Zb h a:=rfl
@[simp] theorem qbu:Yr (.f .non)=true:=rfl
@[simp] theorem ycw(s:Str):Yr (.f (.str s))=false:=rfl
@[simp] theorem Zcy(s:Int):Yr (.f (.int s))=false:=rfl
@[simp] theorem isNon_bl(s:Bool):Yr (.f (.bl s))=false:=rfl
@[simp] theorem Zcv(s:List FV):Yr (.f (.tup s))=false:=rfl
@[simp] theorem Qcu(s:List FV):Yr (.f (.lst s))=false:=rfl
@[simp] theorem Qcx(c:String)(ns:List String)(s:List FV):Yr (.f (.obj c ns s))=false:=rfl
@[simp] theorem ycv(s:Nat):Yr (.ref s)=false:=rfl
@[simp] theorem Qcn(s:List MV):Yr (.tup s)=false:=rfl
@[simp] theorem Qcv(xs:List FV):zc h (.f (.tup xs))=some (xs.map .f):=rfl
@[simp] theorem Ycz(xs:List FV):zc h (.f (.lst xs))=some (xs.map .f):=rfl
@[simp] theorem YcA(ns:List Int):zc h (.f (.scr ns))=some (ns.map λi=>MV.f (.int i)):=rfl
@[simp] theorem qcA(ns:List Int):ZD (.f (.scr ns))=none:=rfl
@[simp] theorem ycq(xs:List MV):zc h (.tup xs)=some xs:=rfl
@[simp] theorem qcz(a:Nat):zc h (.ref a)=Zb h a:=rfl
@[simp] theorem setF_nil(n:String)(v:MV):zas n v []=[(n,v)]:=rfl
@[simp] theorem ycA(n k:String)(v x:MV)(r:List (String×MV)):zas n v ((k,x)::r)=if k=n then(k,v)::r else(k,x)::zas n v r:=rfl
@[simp] theorem zcd(xs:List FV):listOf h (.f (.tup xs))=none:=rfl
@[simp] theorem Ycd(xs:List FV):listOf h (.f (.lst xs))=some (xs.map .f):=rfl
@[simp] theorem zct(a:Nat):listOf h (.ref a)=Zb h a:=rfl
@[simp] theorem Zcx(xs:List FV):ZD (.f (.tup xs))=some (xs.map .f):=rfl
@[simp] theorem zcn(xs:List MV):ZD (.tup xs)=some xs:=rfl
@[simp] theorem qcx(xs:List FV):ZD (.f (.lst xs))=none:=rfl
@[simp] theorem Ycu(a:Nat):ZD (.ref a)=none:=rfl
@[simp] theorem zcz(i:Int):Yd (.f (.int i))=some i:=rfl
@[simp] theorem Qcw(xs:List FV):Yd (.f (.tup xs))=none:=rfl
@[simp] theorem Qcy(xs:List FV):Yd (.f (.lst xs))=none:=rfl
@[simp] theorem ycx(a:Nat):Yd (.ref a)=none:=rfl
@[simp] theorem blOf_bl(b:Bool):qF (.f (.bl b))=some b:=rfl
@[simp] theorem Ycx(i j:Int):ZX .lt i j=some (decide (i<j)):=rfl
@[simp] theorem Ycw(i j:Int):ZX .le i j=some (decide (i<=j)):=rfl
@[simp] theorem Qcz(i j:Int):ZX .gt i j=some (decide (j<i)):=rfl
@[simp] theorem zcx(i j:Int):ZX .ge i j=some (decide (j<=i)):=rfl
@[simp] theorem cmp_lt(x y:MV):Yv .lt x y h=(Yd x).bind λi=>(Yd y).bind λj=>some (decide (i<j)):=rfl
@[simp] theorem cmp_le(x y:MV):Yv .le x y h=(Yd x).bind λi=>(Yd y).bind λj=>some (decide (i<=j)):=rfl
@[simp] theorem cmp_gt(x y:MV):Yv .gt x y h=(Yd x).bind λi=>(Yd y).bind λj=>some (decide (j<i)):=rfl
@[simp] theorem cmp_ge(x y:MV):Yv .ge x y h=(Yd x).bind λi=>(Yd y).bind λj=>some (decide (j<=i)):=rfl
@[simp] theorem deep_f(x:FV):qG h (.f x)=some x:=rfl
@[simp] theorem cmp_eq_f(x y:FV):Yv .eq (.f x) (.f y) h=eqF x y:=rfl
@[simp] theorem cmp_ne_f(x y:FV):Yv .ne (.f x) (.f y) h=(eqF x y).map (!·):=rfl
@[simp] theorem isD_non(n:Nat):isD (n+1) .non=true:=rfl
@[simp] theorem isD_bl(n:Nat)(b:Bool):isD (n+1) (.bl b)=true:=rfl
@[simp] theorem isD_int(n:Nat)(i:Int):isD (n+1) (.int i)=true:=rfl
@[simp] theorem isD_str(n:Nat)(s:Str):isD (n+1) (.str s)=sOk s:=rfl
@[simp] theorem isD_tup(n:Nat)(xs:List FV):isD (n+1) (.tup xs)=xs.all (isD n):=rfl
@[simp] theorem isD_lst(n:Nat)(xs:List FV):isD (n+1) (.lst xs)=xs.all (isD n):=rfl
@[simp] theorem eqD_int(i j:Int):eqD (.int i) (.int j)=(i==j):=by simp[eqD]
@[simp] theorem eqD_str(i j:Str):eqD (.str i) (.str j)=(i==j):=by simp[eqD]
@[simp] theorem eqD_tup(xs ys:List FV):eqD (.tup xs) (.tup ys)=Zan xs ys:=by simp[eqD]
@[simp] theorem eqD_lst(xs ys:List FV):eqD (.lst xs) (.lst ys)=Zan xs ys:=by simp[eqD]
@[simp] theorem eqF_int(i j:Int):eqF (.int i) (.int j)=some (i==j):=by simp[eqF]
theorem qbg(i j:Str)(a:sOk i=true)(b:sOk j=true):eqF (.str i) (.str j)=some (i==j):=by simp[eqF,a,b]
@[simp] theorem zw(fz:Bool)(i j:Int):yh fz .add (.f (.int i)) (.f (.int j)) h=.ok (.f (.int (i+j))) h:=rfl
@[simp] theorem bin_sub(fz:Bool)(i j:Int):yh fz .sub (.f (.int i)) (.f (.int j)) h=.ok (.f (.int (i-j))) h:=rfl
theorem zah(fz:Bool)(i j:Int)(c:Q5 i j):yh fz .mul (.f (.int i)) (.f (.int j)) h=.ok (.f (.int (i*j))) h:=by simp[yh,QE,c]
theorem qt(fz:Bool)(i j:Int)(c:zU i j):yh fz .fdiv (.f (.int i)) (.f (.int j)) h=.ok (.f (.int (i/j))) h:=by simp[yh,QE,c]
theorem yp(fz:Bool)(i j:Int)(c:0<j):yh fz .mod (.f (.int i)) (.f (.int j)) h=.ok (.f (.int (i%j))) h:=by simp[yh,QE,c]
theorem ZbS(fz:Bool)(i j:Int)(c:0<=j/\j<=1000000/\i.natAbs<2^64):yh fz .pow (.f (.int i)) (.f (.int j)) h=.ok (.f (.int (i^j.toNat))) h:=by simp[yh,QE,c]
@[simp] theorem bltV_len(fz:Bool)(v:MV):YN fz "len" [v] h=opt (zc h v) λxs=>.ok (.f (.int xs.length)) h:=rfl
@[simp] theorem bltV_sum(fz:Bool)(v:MV):YN fz "sum" [v] h=opt ((zc h v).bind yg) λxs=>.ok (.f (.int xs.sum)) h:=rfl
@[simp] theorem bltV_all(fz:Bool)(v:MV):YN fz "all" [v] h=opt ((zc h v).bind Qr) λxs=>.ok (.f (.bl (xs.all id))) h:=rfl
@[simp] theorem Qca(fz:Bool)(v:MV):YN fz "tuple" [v] h=opt (zc h v) λxs=>.ok (yf xs) h:=rfl
@[simp] theorem zcA(fz:Bool)(v:MV):YN fz "list" [v] h=opt (zc h v) λxs=>yu fz xs h:=rfl
@[simp] theorem ycy(fz:Bool)(i j:Int):YN fz "min" [.f (.int i),.f (.int j)] h=.ok (.f (.int (if j<i then j else i))) h:=rfl
@[simp] theorem qcy(fz:Bool)(i j:Int):YN fz "max" [.f (.int i),.f (.int j)] h=.ok (.f (.int (if j>i then j else i))) h:=rfl
@[simp] theorem bltV_abs(fz:Bool)(i:Int):YN fz "abs" [.f (.int i)] h=.ok (.f (.int (if i<0 then -i else i))) h:=rfl
@[simp] theorem zcw(fz:Bool)(i:Int):YN fz "int" [.f (.int i)] h=.ok (.f (.int i)) h:=rfl
@[simp] theorem Ycv(fz:Bool)(b:Bool):YN fz "int" [.f (.bl b)] h=.ok (.f (.int (if b then 1 else 0))) h:=rfl
end
@[simp] theorem ite_okH{α:Type}(c:Prop) [Decidable c] (x y:α)(h:MH):(if c then R.ok x h else R.ok y h)=R.ok (if c then x else y) h:=by split <;> rfl
@[simp] theorem ite_f(c:Prop) [Decidable c] (x y:FV):(if c then MV.f x else MV.f y)=MV.f (if c then x else y):=by split <;> rfl
@[simp] theorem ite_bl(c:Prop) [Decidable c] (x y:Bool):(if c then FV.bl x else FV.bl y)=FV.bl (if c then x else y):=by split <;> rfl
@[simp] theorem ite_int(c:Prop) [Decidable c] (x y:Int):(if c then FV.int x else FV.int y)=FV.int (if c then x else y):=by split <;> rfl
theorem Yh(xs:List MV)(k:Nat):atM xs (k:Int)=xs[k]?:=by
 unfold atM ixM;by_cases h:k<xs.length
 ·simp[h]
 ·simp[h]
theorem qaM(xs:List MV)(i:Int)(h:0<=i):atM xs i=xs[i.toNat]?:=by
 have:=Yh xs i.toNat
 rwa [Int.toNat_of_nonneg h] at this
@[simp] theorem atM_zero(x:MV)(xs:List MV):atM (x::xs) 0=some x:=by have:=Yh (x::xs) 0;simpa using this
@[simp] theorem atM_one(x y:MV)(xs:List MV):atM (x::y::xs) 1=some y:=by have:=Yh (x::y::xs) 1;simpa using this
@[simp] theorem atM_two(x y z:MV)(xs:List MV):atM (x::y::z::xs) 2=some z:=by have:=Yh (x::y::z::xs) 2;simpa using this
noncomputable def sq(b:Bool)(xs:List FV):FV:=if b=true then .tup xs else .lst xs
@[simp] theorem seqOf_sq(h:MH)(b:Bool)(xs:List FV):zc h (.f (sq b xs))=some (xs.map .f):=by cases b <;> rfl
@[simp] theorem Zcd(h:MH)(b:Bool)(xs:List FV):yc h (.f (sq b xs))=[]:=rfl
noncomputable def QbJ:List Int->Int
 |[]=>0
 |x::r=>Zau x r
noncomputable def YbC:List Int->Int
 |[]=>0
 |x::r=>yat x r
theorem qaB:∀(r:List Int)(m:Int),Zau m r<=m/\∀ v∈r,Zau m r<=v
 |[],m=>⟨Wx _,λv hv=>by simp at hv⟩
 |x::r,m=>by
  obtain⟨a,b⟩:=qaB r (if x<m then x else m);simp only[Zau];refine⟨by split at a <;> rename_i hc <;> simp only[hc,if_true,if_false] <;> lia,λv hv=>?_⟩
  rcases ua.mp hv with rfl|hv
  ·split at a <;> rename_i hc <;> simp only[hc,if_true,if_false] <;> lia
  ·exact b v hv
theorem zaV:∀(r:List Int)(m:Int),Zau m r=m\/Zau m r∈r
 |[],m=>.inl rfl
 |x::r,m=>by
  simp only[Zau]
  rcases zaV r (if x<m then x else m) with e|e
  ·rw[e];split
   ·exact .inr (by simp)
   ·exact .inl rfl
  ·exact .inr (by simp[e])
theorem ZaE:∀(r:List Int)(m:Int),m<=yat m r/\∀ v∈r,v<=yat m r
 |[],m=>⟨Wx _,λv hv=>by simp at hv⟩
 |x::r,m=>by
  obtain⟨a,b⟩:=ZaE r (if x>m then x else m);simp only[yat];refine⟨by split at a <;> rename_i hc <;> simp only[hc,if_true,if_false] <;> lia,λv hv=>?_⟩
  rcases ua.mp hv with rfl|hv
  ·split at a <;> rename_i hc <;> simp only[hc,if_true,if_false] <;> lia
  ·exact b v hv
theorem YaO:∀(r:List Int)(m:Int),yat m r=m\/yat m r∈r
 |[],m=>.inl rfl
 |x::r,m=>by
  simp only[yat]
  rcases YaO r (if x>m then x else m) with e|e
  ·rw[e];split
   ·exact .inr (by simp)
   ·exact .inl rfl
  ·exact .inr (by simp[e])
theorem qaV{r:List Int}(h:r≠[]):QbJ r∈r:=by
 cases r with
 |nil=>exact absurd rfl h
 |cons x r=>rcases zaV r x with e|e <;> simp[QbJ,e]
theorem qaO{r:List Int}(h:r≠[]):YbC r∈r:=by
 cases r with
 |nil=>exact absurd rfl h
 |cons x r=>rcases YaO r x with e|e <;> simp[YbC,e]
theorem yb2{r:List Int}{v:Int}(h:v∈r):QbJ r<=v:=by
 cases r with
 |nil=>simp at h
 |cons x r =>
  rcases ua.mp h with rfl|h
  ·exact(qaB r v).1
  ·exact(qaB r x).2 v h
theorem yb0{r:List Int}{v:Int}(h:v∈r):v<=YbC r:=by
 cases r with
 |nil=>simp at h
 |cons x r =>
  rcases ua.mp h with rfl|h
  ·exact(ZaE r v).1
  ·exact(ZaE r x).2 v h
theorem QbC(fz:Bool)(h:MH)(v:MV)(ns:List Int)(e:(zc h v).bind yg=some ns)(ne:ns≠[]):YN fz "min" [v] h=.ok (I (QbJ ns)) h:=by
 cases ns with
 |nil=>exact absurd rfl ne
 |cons x r=>show opt ((zc h v).bind yg) _=_;rw[e];rfl
theorem qbG(fz:Bool)(h:MH)(v:MV)(ns:List Int)(e:(zc h v).bind yg=some ns)(ne:ns≠[]):YN fz "max" [v] h=.ok (I (YbC ns)) h:=by
 cases ns with
 |nil=>exact absurd rfl ne
 |cons x r=>show opt ((zc h v).bind yg) _=_;rw[e];rfl
theorem qb(h t:MH)(xs:List MV):Zb (h++.lst xs::t) h.length=some xs:=by simp[Zb]
theorem Qg(h t:MH)(xs ys:List MV):ye (h++.lst xs::t) h.length ys=h++.lst ys::t:=by simp[ye]
theorem qa0(h:MH)(n:Nat):∀ xs:List FV,(xs.map MV.f).mapM (yn h (n+1))=some xs
 |[]=>rfl
 |x::r=>by simp[Wu,qa0 h n r,yn]
theorem Qa8(h:MH)(n:Nat):∀ xs:List FV,(xs.map MV.f).flatMap (zq h (n+1))=[]
 |[]=>rfl
 |x::r=>by simp[zq]
theorem ZaV(h t:MH)(as:List Nat)(ha:∀ a∈as,h.length<=a):∃ t',kill as (h++t)=h++t':=by
 refine⟨(t.mapIdx λi c=>if i+h.length∈as then .dead else c),?_⟩;unfold kill;rw[List.mapIdx_append]
 congr 1
 ·refine vk λi=>?_;rw[Wm];cases q:h[i]? with
  |none=>rfl
  |some c =>
   have hi:=(Xa.mp q).1;have:i∉as:=λz=>by have:=ha i z;lia
   simp[this]
theorem YaP(h:MH)(a:Nat)(xs:List FV)(e:Zb h a=some (xs.map .f)):zL (.ref a) h=.ok (.f (.lst xs)) (kill [a] h):=by
 simp only[zL,qG,yn,e,Uo,qa0,Wj,zj,zq,xr,Qa8]
theorem Yai(h t:MH)(xs:List FV):∃ t',zL (.ref h.length) (h++.lst (xs.map .f)::t)=.ok (.f (.lst xs)) (h++t'):=by
 obtain⟨t',e⟩:=ZaV h (.lst (xs.map .f)::t) [h.length] (by simp);exact⟨t',by rw[YaP _ _ xs (qb h t _),e]⟩
@[simp] theorem frz_f(h:MH)(x:FV):zL (.f x) h=.ok (.f x) h:=by
 have:kill [] h=h:=by unfold kill;refine vk λi=>?_;rw[Wm];cases h[i]? <;> rfl
 simp[zL,qG,yn,zq,this]
@[simp] theorem Ya5(k:String->MH->RS)(c:String)(h:MH):RS.caught k (.exc c h)=k c h:=id rfl
@[simp] theorem zb7(k:String->MH->RS)(σ:MSt)(h:MH):RS.caught k (.next σ h)=.next σ h:=id rfl
@[simp] theorem ycs(k:String->MH->RS)(v:MV)(h:MH):RS.caught k (.ret v h)=.ret v h:=id rfl
theorem TrOk.refl(h:MH):TrOk h h:=⟨vb _,λi c _ e=>.inl e⟩
theorem TrOk.app(h t:MH):TrOk h (h++t):=⟨by simp,λi c hi e=>.inl (by rw[va hi] at e;exact e)⟩
theorem TrOk.cons{c c':Cell}{h h':MH}(t:TrOk h h')(e:c'=c\/FlatC c'):TrOk (c::h) (c'::h'):=by
 refine⟨by have:=t.1;simp;lia,λi d hi q=>?_⟩;cases i with
 |zero =>
  simp at q;subst q;rcases e with e|e
  ·left;simp[e]
  ·exact .inr e
 |succ i=>simp at q hi ⊢;exact t.2 i d hi q
@[simp] theorem Qcq(h:MH)(x:FV):zk h (.f x) h=.ok (.f x) h:=by simp[zk,TrOk.refl]
@[simp] theorem qbq(h t:MH)(x:FV):zk h (.f x) (h++t)=.ok (.f x) h:=by simp[zk,TrOk.app]
@[simp] theorem leave_at(h:MH)(k k':Int)(x:FV):zk (.lst [I k]::h) (.f x) (.lst [I k']::h)=.ok (.f x) (.lst [I k']::h):=by
 simp[zk,TrOk.cons (TrOk.refl h) (.inr ⟨[.int k'],rfl⟩:Cell.lst [I k']=Cell.lst [I k]\/FlatC (.lst [I k']))]
@[simp] theorem zb5(h t:MH)(k k':Int)(x:FV):zk (.lst [I k]::h) (.f x) (.lst [I k']::(h++t))=.ok (.f x) (.lst [I k']::h):=by
 simp[zk,TrOk.cons (TrOk.app h t) (.inr ⟨[.int k'],rfl⟩:Cell.lst [I k']=Cell.lst [I k]\/FlatC (.lst [I k']))]
@[simp] theorem Qb6(h:MH)(c:String):yP h c h=.exc c h:=by simp[yP,TrOk.refl]
@[simp] theorem ycd(h t:MH)(c:String):yP h c (h++t)=.exc c h:=by simp[yP,TrOk.app]
@[simp] theorem Qb8(h:MH)(σ:MSt)(h':MH):Qc h (.next σ h')=zk h (.f .non) h':=id rfl
@[simp] theorem ycm(h:MH)(v:MV)(h':MH):Qc h (.ret v h')=zk h v h':=id rfl
@[simp] theorem ycf(h:MH)(c:String)(h':MH):Qc h (.exc c h')=yP h c h':=id rfl
@[simp] theorem yQ(h:MH):GuardOk [] h:=λp hp=>by simp at hp
@[simp] theorem qcv(h:MH)(x:FV):yc h (.f x)=[]:=rfl
@[simp] theorem Yb8(h:MH)(x:List MV):yc h (.tup x)=[]:=rfl
theorem Q8(bd:MV->MSt->MH->RS)(x:MV)(r:List MV)(σ:MSt)(h:MH):zu [] bd (x::r) σ h=(bd x σ h).turn λσ1 h1=>zu [] bd r σ1 h1:=by simp[zu]
@[simp] theorem itV_seq(h:MH)(v:MV):itV "seq" [v] h=(zc h v).map λxs=>(xs,yc h v):=rfl
theorem qp(h:MH)(n:Int)(c:-(2^62)<=n/\n<2^62):itV "range" [.f (.int n)] h=some ((wc n.toNat).map λ(k:Nat)=>I k,[]):=if_pos c
@[simp] theorem itV_zip(h:MH)(u v:MV):itV "zip" [u,v] h=(zc h u).bind λxs=>(zc h v).map λys=>((xs.zip ys).map λp=>yf [p.1,p.2],yc h u++yc h v):=rfl
@[simp] theorem itV_enum(h:MH)(v:MV):itV "enumerate" [v] h=(zc h v).map λxs=>(xs.mapIdx λk x=>yf [.f (.int k),x],yc h v):=rfl
@[simp] theorem qci(n:Nat):(((n:Int)+1=0)=False):=eq_false (by lia)
@[simp] theorem Yb5(n:Nat):(((n:Int)+1==0)=false):=beq_false_of_ne (by lia)
theorem zT{α:Type}{bd:MV->MSt->MH->R (Option MV×MSt)}{h:MH}{e g:α->MV}{caps:MSt}:∀(ys:List α)(acc:List MV)(z:Option MV),acc.length+ys.length<=sizeL ->
  (∀ y∈ys,∀ z,∃ z',bd (e y) (z::caps) h=.ok (some (g y),z'::caps) h)->Yi [] bd (ys.map e) acc (z::caps) h=.ok (acc++ys.map g) h
 |[],acc,z,_,_=>by simp[Yi]
 |y::r,acc,z,hl,hb=>by
  obtain⟨z',e'⟩:=hb y (by simp) z;simp only[Xd] at hl;have:=zT (bd:=bd) (h:=h) (e:=e) (g:=g) (caps:=caps) r (acc++[g y]) z' (by simp;lia) (λy hy z=>hb y (by simp[hy]) z);simp[Yi,e',this]
  lia
theorem zaa{α:Type}{bd:MV->MSt->MH->R (Option MV×MSt)}{h:MH}{e g:α->MV}{caps:MSt}:∀(ys:List α)(acc:List MV)(z w:Option MV),acc.length+ys.length<=sizeL ->
  (∀ y∈ys,∀ z w,∃ z' w',bd (e y) (z::w::caps) h=.ok (some (g y),z'::w'::caps) h)->Yi [] bd (ys.map e) acc (z::w::caps) h=.ok (acc++ys.map g) h
 |[],acc,z,w,_,_=>by simp[Yi]
 |y::r,acc,z,w,hl,hb=>by
  obtain⟨z',w',e'⟩:=hb y (by simp) z w;simp only[Xd] at hl;have:=zaa (bd:=bd) (h:=h) (e:=e) (g:=g) (caps:=caps) r (acc++[g y]) z' w' (by simp;lia) (λy hy z=>hb y (by simp[hy]) z);simp[Yi,e',this]
  lia
theorem Qax{α β:Type}{bd:MV->MSt->MH->RS}{e:α->MV}{st:β->MSt}{hp:β->MH}{f:β->α->β}:∀(ys:List α)(b:β),
  (∀ y∈ys,∀ b,bd (e y) (st b) (hp b)=.next (st (f b y)) (hp (f b y)))->zu [] bd (ys.map e) (st b) (hp b)=.next (st (ys.foldl f b)) (hp (ys.foldl f b))
 |[],b,_=>by simp[zu]
 |y::r,b,hb=>by
  simp only[Xb,Q8,hb y (by simp) b,RS.turn_next,xk];exact Qax r (f b y) λy hy b=>hb y (by simp[hy]) b
theorem zak{α β:Type}{bd:MV->MSt->MH->RS}{e:α->MV}{st:β->MSt}{hp:β->MH}{f:β->α->β}(Pb:β->Prop):∀(ys:List α)(b:β),Pb b ->
  (∀ y∈ys,∀ b,Pb b->bd (e y) (st b) (hp b)=.next (st (f b y)) (hp (f b y))/\Pb (f b y))->zu [] bd (ys.map e) (st b) (hp b)=.next (st (ys.foldl f b)) (hp (ys.foldl f b))/\Pb (ys.foldl f b)
 |[],b,p,_=>⟨by simp[zu],p⟩
 |y::r,b,p,hb=>by
  obtain⟨e1,p1⟩:=hb y (by simp) b p;simp only[Xb,Q8,e1,RS.turn_next,xk];exact zak Pb r (f b y) p1 λy hy b=>hb y (by simp[hy]) b
theorem Zak{α:Type}{bd:MV->MSt->MH->RS}{e:α->MV}(Pv:Nat->MSt->MH->Prop):∀(ys:List α)(i:Nat)(σ:MSt)(h:MH),Pv i σ h ->
  (∀ j y σ h,ys[j]?=some y->Pv (i+j) σ h->∃ σ' h',bd (e y) σ h=.next σ' h'/\Pv (i+j+1) σ' h')->∃ σ' h',zu [] bd (ys.map e) σ h=.next σ' h'/\Pv (i+ys.length) σ' h'
 |[],i,σ,h,p,_=>⟨σ,h,by simp[zu],p⟩
 |y::r,i,σ,h,p,hb=>by
  obtain⟨σ1,h1,e1,p1⟩:=hb 0 y σ h rfl p;obtain⟨σ2,h2,e2,p2⟩:=Zak (bd:=bd) (e:=e) Pv r (i+1) σ1 h1 p1 (λj y σ h hj pj=>by
   have:=hb (j+1) y σ h (by simpa using hj) (by rw[show i+(j+1)=i+1+j by lia];exact pj)
   rwa [show i+(j+1)+1=i+1+j+1 by lia] at this)
  refine⟨σ2,h2,by simp[Q8,e1,e2],?_⟩
  rwa [show i+(y::r).length=i+1+r.length by simp;lia]
end MP
end
section
namespace SD
open PySem PySem.Spec PyProof.Rows L2 L3 M3 MP
structure Tx where
 adr:String->Addr
 K:PySem.W.Frag
 cd:Addr:=0
 tb:Addr:=0
 lp:Pos:=⟨0,0,0,0⟩
 lq:Str:=Str.ofString ""
instance:CoeFun Tx (λ_=>String->Addr):=⟨Tx.adr⟩
noncomputable def ScrK(K:PySem.W.Frag)(a:Addr)(ns:List Int):Prop:=∃(o:Obj)(its:Array Value)(n:Nat),K.lookup a=some o/\o.cls=.type "list"/\o.dict=none/\o.data=.seq its n/\its.size<=sizeLine/\Vals (ns.map V.int) its.toList
noncomputable def Liv(μ:List Addr)(h:MH)(b:Addr):Prop:=∃(i:Nat)(c:Cell),μ[i]?=some b/\h[i]?=some c/\c≠Cell.dead
section
variable (ct:Tx)
mutual
noncomputable def RF(L:Addr->Prop)(H:Hp):FV->V->Prop
 |.non,v=>v=.non
 |.bl b,v=>v=.bl b
 |.int i,v=>v=.int i
 |.str x,v=>v=.str x
 |.tup xs,v=>∃ a vs,v=.ref a/\¬ L a/\H a=some (.tup vs)/\RFs L H xs vs
 |.lst xs,v=>∃ a vs,v=.ref a/\¬ L a/\Rd H a (.lst vs)/\RFs L H xs vs
 |.obj c ns xs,v=>∃ a dx fs,v=.ref a/\¬ L a/\H a=some (.ins (ct c) dx fs)/\fs.map vt=ns.map Str.ofString/\RFs L H xs (fs.map wm)
 |.tab kvs,v=>∃ a o,v=.ref a/\¬ L a/\H a=some (.frz o (.dT (kvs.map λkv=>([(Sum.inl kv.1.1:Key),Sum.inl kv.1.2],V.int kv.2))))
 |.msk ks,v=>∃ a o,v=.ref a/\¬ L a/\H a=some (.frz o (.dT (ks.map λk=>([(Sum.inl k.1:Key),Sum.inl k.2],V.bl true))))
 |.scr ns,v=>∃ a,v=.ref a/\((¬ L a/\∃ o,H a=some (.frz o (.lst (ns.map V.int))))\/ScrK ct.K a ns)
noncomputable def RFs(L:Addr->Prop)(H:Hp):List FV->List V->Prop
 |[],vs=>vs=[]
 |x::xs,vs=>∃ v r,vs=v::r/\RF L H x v/\RFs L H xs r
end
mutual
noncomputable def RV(μ:List Addr)(L:Addr->Prop)(H:Hp):MV->V->Prop
 |.f x,v=>RF ct L H x v
 |.ref i,v=>∃ b,μ[i]?=some b/\v=.ref b
 |.tup xs,v=>∃ a vs,v=.ref a/\¬ L a/\H a=some (.tup vs)/\RVs μ L H xs vs
 |.exc c,v=>∃ a,v=.ref a/\¬ L a/\H a=some (.ext (excP (ct c) a))
noncomputable def RVs(μ:List Addr)(L:Addr->Prop)(H:Hp):List MV->List V->Prop
 |[],vs=>vs=[]
 |x::xs,vs=>∃ v r,vs=v::r/\RV μ L H x v/\RVs μ L H xs r
end
noncomputable def CellOk(μ:List Addr)(L:Addr->Prop)(H:Hp)(b:Addr):Cell->Prop
 |.lst xs=>∃ vs,H b=some (.lst vs)/\RVs ct μ L H xs vs
 |.obj c fs=>∃ dx gs,H b=some (.ins (ct c) dx gs)/\gs.map vt=fs.map (λp=>Str.ofString p.1)/\RVs ct μ L H (fs.map wm) (gs.map wm)
 |.dic ks=>H b=some (.dK (ks.map λk=>((Sum.inl k:Key),V.bl true)))
 |.tab kvs=>H b=some (.dT (kvs.map λkv=>([(Sum.inl kv.1.1:Key),Sum.inl kv.1.2],V.int kv.2)))
 |.msk ks=>H b=some (.dT (ks.map λk=>([(Sum.inl k.1:Key),Sum.inl k.2],V.bl true)))
 |.code=>b=ct.tb/\(H b=some (.ext (tabF b ct.lp none))\/∃ c',c'≠b/\¬ L c'/\H b=some (.ext (tabF b ct.lp (some c')))/\H c'=some (.ext (codF c' ct.lq)))
 |.dead=>True
structure Rel (μ:List Addr) (h:MH) (H:Hp):Prop where
 len:μ.length=h.length
 nd:μ.Nodup
 has:∀ b∈μ,∃ o,H b=some o
 cells:∀(i:Nat)(b:Addr)(c:Cell),μ[i]?=some b->h[i]?=some c->CellOk ct μ (Liv μ h) H b c
end
structure Ext (μ:List Addr) (h:MH) (H:Hp) (μ':List Addr) (h':MH) (H':Hp):Prop where
 pre:∃ ν,μ'=μ++ν
 keep:∀ b o,H b=some o->¬ Liv μ h b->H' b=some o
 liv:∀ b,Liv μ' h' b->Liv μ h b\/H b=none
theorem Ext.refl(μ:List Addr)(h:MH)(H:Hp):Ext μ h H μ h H:=⟨⟨[],by simp⟩,λ_ _ e _=>e,λ_ l=>.inl l⟩
theorem Ext.trans{μ μ1 μ2:List Addr}{h h1 h2:MH}{H H1 H2:Hp}(a:Ext μ h H μ1 h1 H1)(b:Ext μ1 h1 H1 μ2 h2 H2):Ext μ h H μ2 h2 H2:=by
 obtain⟨ν,e⟩:=a.pre;obtain⟨ν',e'⟩:=b.pre;refine⟨⟨ν++ν',by rw[e',e,Ve]⟩,λc o q n=>?_,λc l=>?_⟩
 ·refine b.keep c o (a.keep c o q n) λl=>?_
  rcases a.liv c l with z|z
  ·exact n z
  ·rw[q] at z;cases z
 ·rcases b.liv c l with z|z
  ·exact a.liv c z
  ·by_cases n:Liv μ h c
   ·exact .inl n
   ·cases q:H c with
    |none=>exact .inr rfl
    |some o=>rw[a.keep c o q n] at z;cases z
theorem Rd.keep{H H':Hp}{a:Addr}{u:HO}(k:∀ o,H a=some o->H' a=some o)(r:Rd H a u):Rd H' a u:=r.elim (λe=>.inl (k _ e)) λ⟨o,e⟩=>.inr ⟨o,k _ e⟩
theorem Rd.some{H:Hp}{a:Addr}{u:HO}(r:Rd H a u):∃ o,H a=some o:=r.elim (λe=>⟨_,e⟩) λ⟨_,e⟩=>⟨_,e⟩
section
variable {ct:Tx}
structure Let (L:Addr->Prop) (H:Hp) (L':Addr->Prop) (H':Hp):Prop where
 keep:∀ b o,H b=some o->¬ L b->H' b=some o
 liv:∀ b o,H b=some o->¬ L b->¬ L' b
theorem Ext.let{μ μ':List Addr}{h h':MH}{H H':Hp}(e:Ext μ h H μ' h' H'):Let (Liv μ h) H (Liv μ' h') H' :=
 ⟨e.keep,λb o q n l=>(e.liv b l).elim n λz=>by rw[q] at z;cases z⟩
mutual
theorem RF.to{L L':Addr->Prop}{H H':Hp}(l:Let L H L' H'):∀{x:FV}{v:V},RF ct L H x v->RF ct L' H' x v
 |.non,_,r=>by simpa only[RF] using r
 |.bl _,_,r=>by simpa only[RF] using r
 |.int _,_,r=>by simpa only[RF] using r
 |.str _,_,r=>by simpa only[RF] using r
 |.tup xs,v,r=>by
  simp only[RF] at r ⊢;obtain⟨a,vs,e,n,rd,q⟩:=r;exact⟨a,vs,e,l.liv a _ rd n,l.keep a _ rd n,RFs.to l q⟩
 |.lst xs,v,r=>by
  simp only[RF] at r ⊢;obtain⟨a,vs,e,n,rd,q⟩:=r;obtain⟨o,ho⟩:=Rd.some rd;exact⟨a,vs,e,l.liv a o ho n,Rd.keep (λo e=>l.keep a o e n) rd,RFs.to l q⟩
 |.obj c ns xs,v,r=>by
  simp only[RF] at r ⊢;obtain⟨a,dx,fs,e,n,ho,q1,q⟩:=r;exact⟨a,dx,fs,e,l.liv a _ ho n,l.keep a _ ho n,q1,RFs.to l q⟩
 |.tab kvs,v,r=>by
  simp only[RF] at r ⊢;obtain⟨a,o,e,n,q⟩:=r;exact⟨a,o,e,l.liv a _ q n,l.keep a _ q n⟩
 |.msk ks,v,r=>by
  simp only[RF] at r ⊢;obtain⟨a,o,e,n,q⟩:=r;exact⟨a,o,e,l.liv a _ q n,l.keep a _ q n⟩
 |.scr ns,v,r=>by
  simp only[RF] at r ⊢;obtain⟨a,e,q⟩:=r;exact⟨a,e,q.imp (λ⟨n,o,h⟩=>⟨l.liv a _ h n,o,l.keep a _ h n⟩) id⟩
theorem RFs.to{L L':Addr->Prop}{H H':Hp}(l:Let L H L' H'):∀{xs:List FV}{vs:List V},RFs ct L H xs vs->RFs ct L' H' xs vs
 |[],_,r=>by simpa only[RFs] using r
 |x::xs,vs,r=>by
  simp only[RFs] at r ⊢;obtain⟨v,t,e,q1,q2⟩:=r;exact⟨v,t,e,RF.to l q1,RFs.to l q2⟩
end
mutual
theorem RV.to{μ ν:List Addr}{L L':Addr->Prop}{H H':Hp}(l:Let L H L' H'):∀{x:MV}{v:V},RV ct μ L H x v->RV ct (μ++ν) L' H' x v
 |.f x,v,r=>by simp only[RV] at r ⊢;exact RF.to l r
 |.ref i,v,r=>by
  simp only[RV] at r ⊢;obtain⟨b,e,q⟩:=r;exact⟨b,by rw[va (Xa.mp e).1];exact e,q⟩
 |.tup xs,v,r=>by
  simp only[RV] at r ⊢;obtain⟨a,vs,e,n,rd,q⟩:=r;exact⟨a,vs,e,l.liv a _ rd n,l.keep a _ rd n,RVs.to l q⟩
 |.exc _,v,r=>by
  simp only[RV] at r ⊢;obtain⟨a,e,n,q⟩:=r;exact⟨a,e,l.liv a _ q n,l.keep a _ q n⟩
theorem RVs.to{μ ν:List Addr}{L L':Addr->Prop}{H H':Hp}(l:Let L H L' H'):∀{xs:List MV}{vs:List V},RVs ct μ L H xs vs->RVs ct (μ++ν) L' H' xs vs
 |[],_,r=>by simpa only[RVs] using r
 |x::xs,vs,r=>by
  simp only[RVs] at r ⊢;obtain⟨v,t,e,q1,q2⟩:=r;exact⟨v,t,e,RV.to l q1,RVs.to l q2⟩
end
theorem RV.ext{μ μ':List Addr}{h h':MH}{H H':Hp}{x:MV}{v:V}(e:Ext μ h H μ' h' H')(r:RV ct μ (Liv μ h) H x v):RV ct μ' (Liv μ' h') H' x v:=by
 obtain⟨ν,q⟩:=e.pre;subst q;exact RV.to e.let r
theorem RVs.ext{μ μ':List Addr}{h h':MH}{H H':Hp}{x:List MV}{v:List V}(e:Ext μ h H μ' h' H')(r:RVs ct μ (Liv μ h) H x v):RVs ct μ' (Liv μ' h') H' x v:=by
 obtain⟨ν,q⟩:=e.pre;subst q;exact RVs.to e.let r
theorem RVs.length{μ:List Addr}{L:Addr->Prop}{H:Hp}:∀{xs:List MV}{vs:List V},RVs ct μ L H xs vs->vs.length=xs.length
 |[],_,r=>by simp only[RVs] at r;simp[r]
 |x::xs,vs,r=>by
  simp only[RVs] at r;obtain⟨v,t,e,_,q⟩:=r;simp[e,RVs.length q]
theorem RVs.get{μ:List Addr}{L:Addr->Prop}{H:Hp}:∀{xs:List MV}{vs:List V}{i:Nat}{x:MV},RVs ct μ L H xs vs->xs[i]?=some x->∃ v,vs[i]?=some v/\RV ct μ L H x v
 |[],_,_,_,_,e=>by simp at e
 |x::xs,vs,0,y,r,e=>by
  simp only[RVs] at r;obtain⟨v,t,q,r1,_⟩:=r;simp at e;subst e;exact⟨v,by simp[q],r1⟩
 |x::xs,vs,i+1,y,r,e=>by
  simp only[RVs] at r;obtain⟨v,t,q,_,r2⟩:=r;obtain⟨u,h1,h2⟩:=RVs.get (i:=i) r2 (by simpa using e);exact⟨u,by simp[q,h1],h2⟩
theorem RVs.get'{μ:List Addr}{L:Addr->Prop}{H:Hp}{xs:List MV}{vs:List V}{i:Nat}{v:V}(r:RVs ct μ L H xs vs)(e:vs[i]?=some v):∃ x,xs[i]?=some x/\RV ct μ L H x v:=by
 have hl:=r.length;have hi:i<xs.length:=by rw[<- hl];exact(Xa.mp e).1
 obtain⟨u,h1,h2⟩:=r.get (i:=i) (x:=xs[i]) (by simp[hi]);rw[e] at h1;cases h1;exact⟨_,by simp[hi],h2⟩
theorem RVs.cons{μ:List Addr}{L:Addr->Prop}{H:Hp}{x:MV}{v:V}{xs:List MV}{vs:List V}(a:RV ct μ L H x v)(b:RVs ct μ L H xs vs):RVs ct μ L H (x::xs) (v::vs):=by
 simp only[RVs];exact⟨v,vs,rfl,a,b⟩
theorem RVs.nil{μ:List Addr}{L:Addr->Prop}{H:Hp}:RVs ct μ L H [] []:=by simp only[RVs]
theorem RVs.append{μ:List Addr}{L:Addr->Prop}{H:Hp}:∀{xs ys:List MV}{vs ws:List V},RVs ct μ L H xs vs->RVs ct μ L H ys ws->RVs ct μ L H (xs++ys) (vs++ws)
 |[],_,_,_,r,s=>by simp only[RVs] at r;subst r;exact s
 |x::xs,ys,vs,ws,r,s=>by
  simp only[RVs] at r;obtain⟨v,t,rfl,r1,r2⟩:=r;exact RVs.cons r1 (RVs.append r2 s)
theorem RVs.take{μ:List Addr}{L:Addr->Prop}{H:Hp}:∀(n:Nat){xs:List MV}{vs:List V},RVs ct μ L H xs vs->RVs ct μ L H (xs.take n) (vs.take n)
 |0,_,_,_=>RVs.nil
 |n+1,[],_,r=>by simp only[RVs] at r;subst r;exact RVs.nil
 |n+1,x::xs,vs,r=>by
  simp only[RVs] at r;obtain⟨v,t,rfl,r1,r2⟩:=r;exact RVs.cons r1 (RVs.take n r2)
theorem RVs.drop{μ:List Addr}{L:Addr->Prop}{H:Hp}:∀(n:Nat){xs:List MV}{vs:List V},RVs ct μ L H xs vs->RVs ct μ L H (xs.drop n) (vs.drop n)
 |0,_,_,r=>r
 |n+1,[],_,r=>by simp only[RVs] at r;subst r;exact RVs.nil
 |n+1,x::xs,vs,r=>by
  simp only[RVs] at r;obtain⟨v,t,rfl,r1,r2⟩:=r;exact RVs.drop n r2
theorem RVs.set{μ:List Addr}{L:Addr->Prop}{H:Hp}{y:MV}{u:V}(q:RV ct μ L H y u):∀(n:Nat){xs:List MV}{vs:List V},RVs ct μ L H xs vs->RVs ct μ L H (xs.set n y) (vs.set n u)
 |_,[],_,r=>by simp only[RVs] at r;subst r;exact RVs.nil
 |0,x::xs,vs,r=>by
  simp only[RVs] at r;obtain⟨v,t,rfl,r1,r2⟩:=r;exact RVs.cons q r2
 |n+1,x::xs,vs,r=>by
  simp only[RVs] at r;obtain⟨v,t,rfl,r1,r2⟩:=r;exact RVs.cons r1 (RVs.set q n r2)
theorem RVs.ofF{μ:List Addr}{L:Addr->Prop}{H:Hp}:∀{xs:List FV}{vs:List V},RFs ct L H xs vs->RVs ct μ L H (xs.map MV.f) vs
 |[],_,r=>by simp only[RFs] at r;subst r;exact RVs.nil
 |x::xs,vs,r=>by
  simp only[RFs] at r;obtain⟨v,t,rfl,r1,r2⟩:=r;exact RVs.cons (by simp only[RV];exact r1) (RVs.ofF r2)
theorem RVs.toF{μ:List Addr}{L:Addr->Prop}{H:Hp}:∀{xs:List MV}{ys:List FV}{vs:List V},qi xs=some ys->RVs ct μ L H xs vs->RFs ct L H ys vs
 |[],ys,vs,e,r=>by simp[qi] at e;subst e;simp only[RVs] at r;subst r;simp only[RFs]
 |.f x::xs,ys,vs,e,r=>by
  simp only[qi,Wc] at e;obtain⟨zs,e1,rfl⟩:=e;simp only[RVs] at r;obtain⟨v,t,rfl,r1,r2⟩:=r;simp only[RFs];exact⟨v,t,rfl,by simpa only[RV] using r1,RVs.toF e1 r2⟩
 |.ref _::_,_,_,e,_=>by simp[qi] at e
 |.tup _::_,_,_,e,_=>by simp[qi] at e
 |.exc _::_,_,_,e,_=>by simp[qi] at e
end
section
variable {ct:Tx}
structure RelSt (ct:Tx) (μ:List Addr) (h:MH) (H:Hp) (σ:L2.St) (σs:MSt):Prop where
 len:σ.length=σs.length
 at_:∀(i:Nat)(m:MV),σs[i]?=some (some m)->∃ v,σ[i]?=some (some v)/\RV ct μ (Liv μ h) H m v
theorem RelSt.ext{μ μ':List Addr}{h h':MH}{H H':Hp}{σ:L2.St}{σs:MSt}(e:Ext μ h H μ' h' H')(r:RelSt ct μ h H σ σs):RelSt ct μ' h' H' σ σs :=
 ⟨r.len,λi m q=>let ⟨v,a,b⟩:=r.at_ i m q;⟨v,a,b.ext e⟩⟩
theorem RelSt.set{μ:List Addr}{h:MH}{H:Hp}{σ:L2.St}{σs:MSt}{m:MV}{v:V}(i:Nat)(r:RelSt ct μ h H σ σs)(q:RV ct μ (Liv μ h) H m v):RelSt ct μ h H (σ.set i (some v)) (σs.set i (some m)):=by
 refine⟨by simp[r.len],λj m' e=>?_⟩;by_cases hj:i=j
 ·subst hj;have hi:i<σs.length:=by
   have:=(Xa.mp e).1;simpa using this
  rw[wg hi] at e;cases e;exact⟨v,by rw[wg (by rw[r.len];exact hi)],q⟩
 ·rw[Uf hj] at e;obtain⟨u,a,b⟩:=r.at_ j m' e;exact⟨u,by rw[Uf hj];exact a,b⟩
noncomputable def Po{α:Type}(ct:Tx)(E:XK)(r:R α)(μ:List Addr)(h:MH)(H:Hp)(k:α->List Addr->MH->Hp->Prop):Prop:=match r with
 |.ok x h'=>∀ μ' H',Ext μ h H μ' h' H'->Rel ct μ' h' H'->k x μ' h' H'
 |.exc c h'=>∀ μ' H',Ext μ h H μ' h' H'->Rel ct μ' h' H'->E (.ref (ct c)) none H'
 |.stuck=>False
section
variable {α β:Type} {E:XK} {μ μ1:List Addr} {h h1:MH} {H H1:Hp}
theorem Po.start{r:R α}{k:α->List Addr->MH->Hp->Prop}(e:Ext μ h H μ1 h1 H1)(p:Po ct E r μ h H k):Po ct E r μ1 h1 H1 k:=by
 cases r with
 |ok x h'=>exactλμ' H' e' r'=>p μ' H' (e.trans e') r'
 |exc c h'=>exactλμ' H' e' r'=>p μ' H' (e.trans e') r'
 |stuck=>exact p
theorem Po.bind{r:R α}{g:α->MH->R β}{k:β->List Addr->MH->Hp->Prop}(p:Po ct E (r.bind g) μ h H k):Po ct E r μ h H λx μ1 h1 H1=>Ext μ h H μ1 h1 H1/\Rel ct μ1 h1 H1/\Po ct E (g x h1) μ1 h1 H1 k:=by
 cases r with
 |ok x h'=>exactλμ' H' e' r'=>⟨e',r',Po.start (r:=g x h') e' p⟩
 |exc c h'=>exact p
 |stuck=>exact p
theorem Po.imp{r:R α}{k k':α->List Addr->MH->Hp->Prop}(p:Po ct E r μ h H k)(f:∀ x μ1 h1 H1,k x μ1 h1 H1->k' x μ1 h1 H1):Po ct E r μ h H k':=by
 cases r with
 |ok x h'=>exactλμ' H' e' r'=>f _ _ _ _ (p μ' H' e' r')
 |exc c h'=>exact p
 |stuck=>exact p
theorem Po.opt{o:Option α}{g:α->R β}{k:β->List Addr->MH->Hp->Prop}(p:Po ct E (opt o g) μ h H k):∃ x,o=some x/\Po ct E (g x) μ h H k:=by
 cases o with
 |none=>exact p.elim
 |some x=>exact⟨x,rfl,p⟩
theorem Po.now{x:α}{k:α->List Addr->MH->Hp->Prop}(rel:Rel ct μ h H)(p:Po ct E (.ok x h) μ h H k):k x μ h H:=p μ H (Ext.refl _ _ _) rel
theorem Po.now'{x:α}{h':MH}{k:α->List Addr->MH->Hp->Prop}(p:Po ct E (.ok x h') μ h H k){μ':List Addr}{H':Hp}(e:Ext μ h H μ' h' H')(rel:Rel ct μ' h' H'):k x μ' h' H':=p μ' H' e rel
end
noncomputable def kV(ct:Tx)(Q:VK):MV->List Addr->MH->Hp->Prop:=λm μ h H=>∀ v,RV ct μ (Liv μ h) H m v->Q v H
noncomputable def kVs(ct:Tx)(Q:List V->Hp->Prop):List MV->List Addr->MH->Hp->Prop:=λm μ h H=>∀ v,RVs ct μ (Liv μ h) H m v->Q v H
section
variable (ct) (Ra:L2.St->Prop) (E:XK)
noncomputable def lE(ev:MSt->MH->R MV):TE:=λσ H Q=>∃ μ h σs,Rel ct μ h H/\RelSt ct μ h H σ σs/\Ra σ/\Po ct E (ev σs h) μ h H (kV ct Q)
noncomputable def lT(ev:MSt->MH->R Bool):TT:=λσ H Q=>∃ μ h σs,Rel ct μ h H/\RelSt ct μ h H σ σs/\Ra σ/\Po ct E (ev σs h) μ h H λb _ _ H'=>Q b H'
noncomputable def lA(ev:MSt->MH->R (List MV)):TA:=λσ H Q=>∃ μ h σs,Rel ct μ h H/\RelSt ct μ h H σ σs/\Ra σ/\Po ct E (ev σs h) μ h H (kVs ct Q)
noncomputable def lO(ev:MSt->MH->R (Option Int)):TO:=λσ H Q=>∃ μ h σs,Rel ct μ h H/\RelSt ct μ h H σ σs/\Ra σ/\Po ct E (ev σs h) μ h H λb _ _ H'=>Q b H'
end
section
variable {Ra:L2.St->Prop} {E:XK} {μ:List Addr} {h:MH} {H:Hp} {σ:L2.St} {σs:MSt} {β:Type}
theorem lE.mk{ev:MSt->MH->R MV}{g:MV->MH->R β}{k:β->List Addr->MH->Hp->Prop}{Q:VK}(rel:Rel ct μ h H)(rst:RelSt ct μ h H σ σs)(ra:Ra σ)(p:Po ct E ((ev σs h).bind g) μ h H k)
  (f:∀ m v μ1 h1 H1,Ext μ h H μ1 h1 H1->Rel ct μ1 h1 H1->RelSt ct μ1 h1 H1 σ σs->RV ct μ1 (Liv μ1 h1) H1 m v->Po ct E (g m h1) μ1 h1 H1 k->Q v H1):lE ct Ra E ev σ H Q :=
 ⟨μ,h,σs,rel,rst,ra,(Po.bind p).imp λm μ1 h1 H1 ⟨e1,r1,p1⟩ v rv=>f m v μ1 h1 H1 e1 r1 (rst.ext e1) rv p1⟩
theorem lT.mk{ev:MSt->MH->R Bool}{g:Bool->MH->R β}{k:β->List Addr->MH->Hp->Prop}{Q:Bool->Hp->Prop}(rel:Rel ct μ h H)(rst:RelSt ct μ h H σ σs)(ra:Ra σ)(p:Po ct E ((ev σs h).bind g) μ h H k)
  (f:∀ m μ1 h1 H1,Ext μ h H μ1 h1 H1->Rel ct μ1 h1 H1->RelSt ct μ1 h1 H1 σ σs->Po ct E (g m h1) μ1 h1 H1 k->Q m H1):lT ct Ra E ev σ H Q :=
 ⟨μ,h,σs,rel,rst,ra,(Po.bind p).imp λm μ1 h1 H1 ⟨e1,r1,p1⟩=>f m μ1 h1 H1 e1 r1 (rst.ext e1) p1⟩
theorem lA.mk{ev:MSt->MH->R (List MV)}{g:List MV->MH->R β}{k:β->List Addr->MH->Hp->Prop}{Q:List V->Hp->Prop}(rel:Rel ct μ h H)(rst:RelSt ct μ h H σ σs)(ra:Ra σ)(p:Po ct E ((ev σs h).bind g) μ h H k)
  (f:∀ m v μ1 h1 H1,Ext μ h H μ1 h1 H1->Rel ct μ1 h1 H1->RelSt ct μ1 h1 H1 σ σs->RVs ct μ1 (Liv μ1 h1) H1 m v->Po ct E (g m h1) μ1 h1 H1 k->Q v H1):lA ct Ra E ev σ H Q :=
 ⟨μ,h,σs,rel,rst,ra,(Po.bind p).imp λm μ1 h1 H1 ⟨e1,r1,p1⟩ v rv=>f m v μ1 h1 H1 e1 r1 (rst.ext e1) rv p1⟩
theorem lO.mk{ev:MSt->MH->R (Option Int)}{g:Option Int->MH->R β}{k:β->List Addr->MH->Hp->Prop}{Q:Option Int->Hp->Prop}(rel:Rel ct μ h H)(rst:RelSt ct μ h H σ σs)(ra:Ra σ)(p:Po ct E ((ev σs h).bind g) μ h H k)
  (f:∀ m μ1 h1 H1,Ext μ h H μ1 h1 H1->Rel ct μ1 h1 H1->RelSt ct μ1 h1 H1 σ σs->Po ct E (g m h1) μ1 h1 H1 k->Q m H1):lO ct Ra E ev σ H Q :=
 ⟨μ,h,σs,rel,rst,ra,(Po.bind p).imp λm μ1 h1 H1 ⟨e1,r1,p1⟩=>f m μ1 h1 H1 e1 r1 (rst.ext e1) p1⟩
end
section
variable {μ:List Addr} {h:MH} {H:Hp}
theorem Liv.has(rel:Rel ct μ h H){b:Addr}(l:Liv μ h b):∃ o,H b=some o:=let ⟨i,_,e,_,_⟩:=l;rel.has b (Uc e)
theorem Rel.fresh(rel:Rel ct μ h H){p:Addr}(hp:H p=none):p∉μ:=λz=>by obtain⟨o,e⟩:=rel.has p z;rw[hp] at e;cases e
theorem Ext.new(rel:Rel ct μ h H){p:Addr}(hp:H p=none)(o:HO):Ext μ h H μ h (upd H p o) :=
 ⟨⟨[],by simp⟩,λb u e _=>by rw[Zd (ze e hp)];exact e,λb l=>.inl l⟩
theorem CellOk.to{μ ν:List Addr}{L L':Addr->Prop}{H H':Hp}{b:Addr}{c:Cell}(l:Let L H L' H')(kb:c≠.dead->H' b=H b)(r:CellOk ct μ L H b c):CellOk ct (μ++ν) L' H' b c:=by
 cases c with
 |lst xs =>
  obtain⟨vs,e,q⟩:=r;exact⟨vs,by rw[kb (λz=>nomatch z)];exact e,RVs.to l q⟩
 |obj c fs =>
  obtain⟨dx,gs,e,q1,q⟩:=r;exact⟨dx,gs,by rw[kb (λz=>nomatch z)];exact e,q1,RVs.to l q⟩
 |dic ks=>exact(kb (λz=>nomatch z)).trans r
 |tab ks=>exact(kb (λz=>nomatch z)).trans r
 |msk ks=>exact(kb (λz=>nomatch z)).trans r
 |code =>
  obtain⟨e,r⟩:=r;have kb:=kb (λz=>nomatch z);refine⟨e,r.elim (λr=>.inl (kb.trans r)) λ⟨c',n1,n2,r1,r2⟩=>.inr ⟨c',n1,l.liv _ _ r2 n2,kb.trans r1,l.keep _ _ r2 n2⟩⟩
 |dead=>trivial
theorem Rel.new(rel:Rel ct μ h H){p:Addr}(hp:H p=none)(o:HO):Rel ct μ h (upd H p o):=by
 refine⟨rel.len,rel.nd,λb hb=>?_,λi b c e1 e2=>?_⟩
 ·obtain⟨u,e⟩:=rel.has b hb;exact⟨u,by rw[Zd (ze e hp)];exact e⟩
 ·have:=CellOk.to (ν:=[]) (Ext.new rel hp o).let (b:=b) (λ_=>by
   obtain⟨u,e⟩:=rel.has b (Uc e1);exact Zd (ze e hp)) (rel.cells i b c e1 e2)
  simpa using this
theorem Liv.app{μ:List Addr}{h:MH}(hl:μ.length=h.length){p b:Addr}{c:Cell}(l:Liv (μ++[p]) (h++[c]) b):Liv μ h b\/b=p:=by
 obtain⟨i,d,e1,e2,nd⟩:=l;by_cases hi:i<μ.length
 ·rw[va hi] at e1;rw[va (by lia)] at e2;exact .inl ⟨i,d,e1,e2,nd⟩
 ·rw[we (by lia)] at e1;have:i-μ.length=0:=by
   have:=(Xa.mp e1).1;simp at this;lia
  rw[this] at e1;simp at e1;exact .inr e1.symm
theorem Ext.cell(rel:Rel ct μ h H){p:Addr}(hp:H p=none)(c:Cell)(o:HO):Ext μ h H (μ++[p]) (h++[c]) (upd H p o) :=
 ⟨⟨[p],rfl⟩,λb u e _=>by rw[Zd (ze e hp)];exact e,λb l=>(Liv.app rel.len l).imp id λe=>by rw[e];exact hp⟩
theorem Rel.cell(rel:Rel ct μ h H){p:Addr}(hp:H p=none){c:Cell}{o:HO}(q:CellOk ct (μ++[p]) (Liv (μ++[p]) (h++[c])) (upd H p o) p c):Rel ct (μ++[p]) (h++[c]) (upd H p o):=by
 have hn:=rel.fresh hp;refine⟨by simp[rel.len],?_,λb hb=>?_,λi b d e1 e2=>?_⟩
 ·rw[Xu];exact⟨rel.nd,by simp,λa ha b hb e=>by simp at hb;subst hb;subst e;exact hn ha⟩
 ·rcases Xf.mp hb with hb|hb
  ·obtain⟨u,e⟩:=rel.has b hb;exact⟨u,by rw[Zd (ze e hp)];exact e⟩
  ·simp at hb;subst hb;exact⟨o,zf⟩
 ·by_cases hi:i<μ.length
  ·rw[va hi] at e1;rw[va (by have:=rel.len;lia)] at e2;exact CellOk.to (Ext.cell rel hp c o).let (λ_=>by
    obtain⟨u,e⟩:=rel.has b (Uc e1);exact Zd (ze e hp)) (rel.cells i b d e1 e2)
  ·rw[we (by lia)] at e1;rw[we (by have:=rel.len;lia)] at e2;have:i-μ.length=0:=by
    have:=(Xa.mp e1).1;simp at this;lia
   have h2:i-h.length=0:=by rw[<- rel.len];exact this
   rw[this] at e1;rw[h2] at e2;simp at e1 e2;subst e1;subst e2;exact q
theorem Liv.set{i:Nat}{c c':Cell}{b:Addr}(e:h[i]?=some c)(hc:c≠.dead)(l:Liv μ (h.set i c') b):Liv μ h b:=by
 obtain⟨j,d,e1,e2,nd⟩:=l;by_cases hj:i=j
 ·subst hj;exact⟨i,c,e1,e,hc⟩
 ·rw[Uf hj] at e2;exact⟨j,d,e1,e2,nd⟩
theorem Ext.set(rel:Rel ct μ h H){i:Nat}{b:Addr}{c:Cell}(e1:μ[i]?=some b)(e2:h[i]?=some c)(hc:c≠.dead)(c':Cell)(o:HO):Ext μ h H μ (h.set i c') (upd H b o) :=
 ⟨⟨[],by simp⟩,λd u e n=>by rw[Zd (λ(z:d=b)=>n (by rw[z];exact⟨i,c,e1,e2,hc⟩))];exact e,λd l=>.inl (Liv.set e2 hc l)⟩
theorem Rel.set(rel:Rel ct μ h H){i:Nat}{b:Addr}{c:Cell}(e1:μ[i]?=some b)(e2:h[i]?=some c)(hc:c≠.dead){c':Cell}{o:HO}(q:CellOk ct μ (Liv μ (h.set i c')) (upd H b o) b c'):Rel ct μ (h.set i c') (upd H b o):=by
 refine⟨by simp[rel.len],rel.nd,λd hd=>?_,λj d u q1 q2=>?_⟩
 ·by_cases hdb:d=b
  ·exact⟨o,by rw[hdb];exact zf⟩
  ·obtain⟨u,e⟩:=rel.has d hd;exact⟨u,by rw[Zd hdb];exact e⟩
 ·by_cases hj:i=j
  ·subst hj;rw[e1] at q1;cases q1;rw[wg (Xa.mp e2).1] at q2;cases q2;exact q
  ·rw[Uf hj] at q2;have ne:d≠b:=λz=>by
    subst z;exact hj ((uy (Xa.mp e1).1 rel.nd).mp (e1.trans q1.symm))
   have:=CellOk.to (ν:=[]) (Ext.set rel e1 e2 hc c' o).let (b:=d) (λ_=>Zd ne) (rel.cells j d u q1 q2);simpa using this
end
end
section
variable {ct:Tx}
section
variable {μ:List Addr} {h:MH} {H:Hp}
theorem Qar{as:List Nat}{i:Nat}{c:Cell}(e:(kill as h)[i]?=some c):(i∈as/\c=.dead)\/(i∉as/\h[i]?=some c):=by
 unfold kill at e;rw[Wm] at e;cases q:h[i]? with
 |none=>rw[q] at e;cases e
 |some d =>
  rw[q] at e;by_cases hi:i∈as
  ·simp[hi] at e;exact .inl ⟨hi,e.symm⟩
  ·simp[hi] at e;subst e;exact .inr ⟨hi,rfl⟩
theorem Liv.kill{as:List Nat}{b:Addr}(l:Liv μ (kill as h) b):Liv μ h b:=by
 obtain⟨i,c,e1,e2,nd⟩:=l
 rcases Qar e2 with ⟨_,z⟩|⟨_,z⟩
 ·exact absurd z nd
 ·exact⟨i,c,e1,z,nd⟩
theorem Ext.kill(as:List Nat):Ext μ h H μ (kill as h) H:=⟨⟨[],by simp⟩,λ_ _ e _=>e,λb l=>.inl l.kill⟩
theorem Rel.kill(rel:Rel ct μ h H)(as:List Nat):Rel ct μ (kill as h) H:=by
 refine⟨by rw[rel.len];simp[MP.kill],rel.nd,rel.has,λi b c e1 e2=>?_⟩
 rcases Qar e2 with ⟨_,z⟩|⟨_,z⟩
 ·subst z;trivial
 ·have:=CellOk.to (ν:=[]) (Ext.kill (H:=H) as).let (b:=b) (λ_=>rfl) (rel.cells i b c e1 z);simpa using this
theorem YJ{i:Nat}{xs:List MV}(e:Zb h i=some xs):h[i]?=some (.lst xs):=by
 unfold Zb at e;split at e
 next q=>cases e;exact q
 next=>cases e
theorem Rel.lst(rel:Rel ct μ h H){i:Nat}{xs:List MV}(e:Zb h i=some xs):∃ b vs,μ[i]?=some b/\H b=some (.lst vs)/\RVs ct μ (Liv μ h) H xs vs:=by
 have e2:=YJ e;have hi:i<μ.length:=by rw[rel.len];exact(Xa.mp e2).1
 obtain⟨vs,q1,q2⟩:=rel.cells i μ[i] (.lst xs) (by simp[hi]) e2;exact⟨_,vs,by simp[hi],q1,q2⟩
theorem ybx{as:List Nat}(rel:Rel ct μ h H){i:Nat}{b:Addr}(e:μ[i]?=some b)(hi:i∈as):¬ Liv μ (MP.kill as h) b:=λ⟨j,c,e1,e2,nd⟩=>by
 have:i=j:=(uy (Xa.mp e).1 rel.nd).mp (e.trans e1.symm);subst this
 rcases Qar e2 with ⟨_,z⟩|⟨z,_⟩
 ·exact nd z
 ·exact z hi
theorem Yar{as:List Nat}{g:MV->Option FV}:∀{xs:List MV}{ys:List FV}{vs:List V},xs.mapM g=some ys->RVs ct μ (Liv μ h) H xs vs ->
  (∀ x∈xs,∀ y v,g x=some y->RV ct μ (Liv μ h) H x v->RF ct (Liv μ (MP.kill as h)) H y v)->RFs ct (Liv μ (MP.kill as h)) H ys vs
 |[],ys,vs,e,r,_=>by
  simp at e;subst e;simp only[RVs] at r;subst r;simp only[RFs]
 |x::xs,ys,vs,e,r,f=>by
  simp only[Wu,xB,Vb,Option.pure_def,Option.some.injEq] at e;obtain⟨y,e1,zs,e2,rfl⟩:=e;simp only[RVs] at r;obtain⟨v,t,rfl,r1,r2⟩:=r;simp only[RFs];exact⟨v,t,rfl,f x (by simp) y v e1 r1,Yar e2 r2 λz hz=>f z (by simp[hz])⟩
theorem ZaI(rel:Rel ct μ h H){as:List Nat}:∀(n:Nat)(m:MV)(x:FV)(v:V),(∀ a∈zq h n m,a∈as)->yn h n m=some x->RV ct μ (Liv μ h) H m v->RF ct (Liv μ (MP.kill as h)) H x v
 |0,m,x,v,_,e,_=>by simp[yn] at e
 |n+1,.f y,x,v,_,e,r=>by
  simp[yn] at e;subst e;simp only[RV] at r;exact RF.to (Ext.kill (H:=H) as).let r
 |n+1,.tup xs,x,v,hs,e,r=>by
  simp only[yn,Wc] at e;obtain⟨ys,e1,rfl⟩:=e;simp only[RV] at r;obtain⟨a,vs,rfl,na,rd,q⟩:=r;simp only[RF];refine⟨a,vs,rfl,λl=>na l.kill,rd,Yar e1 q λz hz y u ez ru=>ZaI rel n z y u (λa ha=>hs a ?_) ez ru⟩;simp only[zq,Vo];exact⟨z,hz,ha⟩
 |n+1,.ref i,x,v,hs,e,r=>by
  simp only[yn,Vb,Wc] at e;obtain⟨xs,e0,ys,e1,rfl⟩:=e;simp only[RV] at r;obtain⟨b,eb,rfl⟩:=r;obtain⟨b',vs,eb',hb,q⟩:=rel.lst e0;rw[eb] at eb';cases eb';simp only[RF];refine⟨b,vs,rfl,ybx rel eb (hs i (by simp[zq])),.inl hb,Yar e1 q λz hz y u ez ru=>ZaI rel n z y u (λa ha=>hs a ?_) ez ru⟩;simp only[zq,e0,xr,ua,Vo];exact .inr ⟨z,hz,ha⟩
 |n+1,.exc _,x,v,_,e,_=>by simp[yn] at e
theorem QbA{E:XK}{m:MV}{v:V}{k:MV->List Addr->MH->Hp->Prop}(rel:Rel ct μ h H)(r:RV ct μ (Liv μ h) H m v)(p:Po ct E (zL m h) μ h H k) :
  ∃ x h',Ext μ h H μ h' H/\Rel ct μ h' H/\RV ct μ (Liv μ h') H (.f x) v/\k (.f x) μ h' H:=by
 unfold zL at p;obtain⟨x,e,p⟩:=p.opt;refine⟨x,_,Ext.kill _,rel.kill _,?_,p.now' (Ext.kill _) (rel.kill _)⟩;simp only[RV];exact ZaI rel 5 m x v (λa ha=>ha) e r
end
mutual
noncomputable def Bel(n:Nat):MV->Prop
 |.ref i=>i<n
 |.tup xs=>Bels n xs
 |_=>True
noncomputable def Bels(n:Nat):List MV->Prop
 |[]=>True
 |x::xs=>Bel n x/\Bels n xs
end
mutual
theorem RV.bel{μ:List Addr}{L:Addr->Prop}{H:Hp}:∀{m:MV}{v:V},RV ct μ L H m v->Bel μ.length m
 |.f _,_,_=>by simp only[Bel]
 |.ref i,v,r=>by
  simp only[RV] at r;obtain⟨b,e,_⟩:=r;simp only[Bel];exact(Xa.mp e).1
 |.tup xs,v,r=>by
  simp only[RV] at r;obtain⟨a,vs,_,_,_,q⟩:=r;simp only[Bel];exact RVs.bel q
 |.exc _,_,_=>by simp only[Bel]
theorem RVs.bel{μ:List Addr}{L:Addr->Prop}{H:Hp}:∀{xs:List MV}{vs:List V},RVs ct μ L H xs vs->Bels μ.length xs
 |[],_,_=>by simp only[Bels]
 |x::xs,vs,r=>by
  simp only[RVs] at r;obtain⟨v,t,_,r1,r2⟩:=r;simp only[Bels];exact⟨RV.bel r1,RVs.bel r2⟩
end
mutual
theorem RV.cut{μ ν:List Addr}{L L':Addr->Prop}{H:Hp}(l:∀ b,L' b->L b):∀{m:MV}{v:V},Bel μ.length m->RV ct (μ++ν) L H m v->RV ct μ L' H m v
 |.f x,v,_,r=>by simp only[RV] at r ⊢;exact RF.to ⟨λ_ _ e _=>e,λb _ _ n z=>n (l b z)⟩ r
 |.ref i,v,b,r=>by
  simp only[RV] at r ⊢;simp only[Bel] at b;obtain⟨c,e,q⟩:=r;rw[va b] at e;exact⟨c,e,q⟩
 |.tup xs,v,b,r=>by
  simp only[RV] at r ⊢;simp only[Bel] at b;obtain⟨a,vs,e,n,rd,q⟩:=r;exact⟨a,vs,e,λz=>n (l a z),rd,RVs.cut l b q⟩
 |.exc _,v,_,r=>by
  simp only[RV] at r ⊢;obtain⟨a,e,n,q⟩:=r;exact⟨a,e,λz=>n (l a z),q⟩
theorem RVs.cut{μ ν:List Addr}{L L':Addr->Prop}{H:Hp}(l:∀ b,L' b->L b):∀{xs:List MV}{vs:List V},Bels μ.length xs->RVs ct (μ++ν) L H xs vs->RVs ct μ L' H xs vs
 |[],vs,_,r=>by simpa only[RVs] using r
 |x::xs,vs,b,r=>by
  simp only[RVs] at r ⊢;simp only[Bels] at b;obtain⟨v,t,e,r1,r2⟩:=r;exact⟨v,t,e,RV.cut l b.1 r1,RVs.cut l b.2 r2⟩
end
theorem Bels.flat(n:Nat):∀ ys:List FV,Bels n (ys.map MV.f)
 |[]=>by simp only[Uk,Bels]
 |y::ys=>by simp only[Xb,Bels,Bel];exact⟨trivial,Bels.flat n ys⟩
noncomputable def yaJ(n:Nat):Cell->Prop
 |.lst xs=>Bels n xs
 |.obj _ fs=>Bels n (fs.map wm)
 |.dic _=>True
 |.tab _=>True
 |.msk _=>True
 |.code=>True
 |.dead=>True
theorem CellOk.bel{μ:List Addr}{L:Addr->Prop}{H:Hp}{b:Addr}{c:Cell}(r:CellOk ct μ L H b c):yaJ μ.length c:=by
 cases c with
 |lst xs=>obtain⟨vs,_,q⟩:=r;exact q.bel
 |obj c fs=>obtain⟨dx,gs,_,_,q⟩:=r;exact q.bel
 |dic ks=>trivial
 |tab ks=>trivial
 |msk ks=>trivial
 |code=>trivial
 |dead=>trivial
theorem FlatC.bel{n:Nat}{c:Cell}(r:FlatC c):yaJ n c:=by
 cases c with
 |lst xs=>obtain⟨ys,rfl⟩:=r;exact Bels.flat n ys
 |obj c fs =>
  obtain⟨ys,rfl⟩:=r;show Bels n _;rw[vh];have:=Bels.flat n (ys.map wm);rw[vh] at this;exact this
 |dic ks=>trivial
 |tab ks=>trivial
 |msk ks=>trivial
 |code=>trivial
 |dead=>trivial
theorem CellOk.cut{μ ν:List Addr}{L L':Addr->Prop}{H:Hp}{b:Addr}{c:Cell}(l:∀ b,L' b->L b)(k:yaJ μ.length c)(r:CellOk ct (μ++ν) L H b c):CellOk ct μ L' H b c:=by
 cases c with
 |lst xs=>obtain⟨vs,e,q⟩:=r;exact⟨vs,e,RVs.cut l k q⟩
 |obj c fs=>obtain⟨dx,gs,e,q1,q⟩:=r;exact⟨dx,gs,e,q1,RVs.cut l k q⟩
 |dic ks=>exact r
 |tab ks=>exact r
 |msk ks=>exact r
 |code=>exact⟨r.1,r.2.imp id λ⟨c',n1,n2,r⟩=>⟨c',n1,λz=>n2 (l _ z),r⟩⟩
 |dead=>trivial
theorem zbh:∀{xs:List MV}{ys:List FV},qi xs=some ys->xs=ys.map MV.f
 |[],ys,e=>by simp[qi] at e;subst e;rfl
 |.f x::xs,ys,e=>by
  simp only[qi,Wc] at e;obtain⟨zs,e1,rfl⟩:=e;rw[zbh e1];rfl
 |.ref _::_,_,e=>by simp[qi] at e
 |.tup _::_,_,e=>by simp[qi] at e
 |.exc _::_,_,e=>by simp[qi] at e
section
variable {μ ν:List Addr} {h h':MH} {H H':Hp}
theorem Liv.cut(hl:μ.length=h.length){b:Addr}(l:Liv μ (h'.take h.length) b):Liv (μ++ν) h' b:=by
 obtain⟨i,c,e1,e2,nd⟩:=l;have hi:i<μ.length:=(Xa.mp e1).1;rw[uo (by lia)] at e2;exact⟨i,c,by rw[va hi];exact e1,e2,nd⟩
theorem Ext.cut(hl:μ.length=h.length)(e:Ext μ h H (μ++ν) h' H'):Ext μ h H μ (h'.take h.length) H':=⟨⟨[],by simp⟩,e.keep,λb l=>e.liv b (Liv.cut hl l)⟩
theorem Rel.cut(rel:Rel ct μ h H)(t:TrOk h h')(rel':Rel ct (μ++ν) h' H'):Rel ct μ (h'.take h.length) H':=by
 refine⟨by rw[rel.len,Vm];have:=t.1;lia,(Xu.mp rel'.nd).1,λb hb=>rel'.has b (ue _ hb),λi b c e1 e2=>?_⟩;have hi:i<μ.length:=(Xa.mp e1).1;have hi':i<h.length:=by rw[<- rel.len];exact hi
 rw[uo hi'] at e2;refine CellOk.cut (λb l=>Liv.cut rel.len l) ?_ (rel'.cells i b c (by rw[va hi];exact e1) e2)
 rcases t.2 i c hi' e2 with q|q
 ·exact(rel.cells i b c e1 q).bel
 ·exact FlatC.bel q
theorem YaV{E:XK}{m:MV}{v:V}{Q:VK}(rel:Rel ct μ h H)(e:Ext μ h H (μ++ν) h' H')(rel':Rel ct (μ++ν) h' H')(r:RV ct (μ++ν) (Liv (μ++ν) h') H' m v)(p:Po ct E (zk h m h') μ h H (kV ct Q)):Q v H':=by
 unfold zk at p;split at p
 next t =>
  cases m with
  |f x =>
   refine p μ H' (Ext.cut rel.len e) (rel.cut t rel') v ?_;exact RV.cut (λb l=>Liv.cut rel.len l) (by simp only[Bel]) r
  |ref a =>
   dsimp only at p;split at p
   next ha =>
    split at p
    next xs ex =>
     split at p
     next ys ey =>
      simp only[RV] at r;obtain⟨b,eb,rfl⟩:=r;obtain⟨b',vs,eb',hb,q⟩:=rel'.lst ex;rw[eb] at eb';cases eb';have rc:=rel.cut t rel';have ec:=Ext.cut rel.len e;have nb:b∉μ:=λz=>by
       obtain⟨j,hj,ej⟩:=Uw z;have:j=a:=(uy (by simp;lia) rel'.nd).mp (by rw[va hj,eb];simp[hj,ej]);have:=rel.len
       lia
      have lv:∀ d,Liv (μ++[b]) (h'.take h.length++[.lst xs]) d->Liv (μ++ν) h' d:=λd l=>by
       rcases Liv.app (by rw[rc.len]) l with l|l
       ·exact Liv.cut rel.len l
       ·subst l;exact⟨a,.lst xs,eb,YJ ex,λz=>nomatch z⟩
      have fl:RFs ct (Liv (μ++ν) h') H' ys vs:=RVs.toF ey q;have xs':xs=ys.map MV.f:=zbh ey;refine p (μ++[b]) H' ⟨⟨[b],rfl⟩,e.keep,λd l=>e.liv d (lv d l)⟩ ?_ (.ref b) ?_
      ·refine⟨by simp[rc.len],?_,λd hd=>?_,λi d c e1 e2=>?_⟩
       ·rw[Xu];exact⟨rc.nd,by simp,λx hx y hy z=>by simp at hy;subst hy;subst z;exact nb hx⟩
       ·rcases Xf.mp hd with hd|hd
        ·exact rc.has d hd
        ·simp at hd;subst hd;exact⟨_,hb⟩
       ·by_cases hi:i<μ.length
        ·rw[va hi] at e1;rw[va (by rw[<- rc.len];exact hi)] at e2;have c0:=rc.cells i d c e1 e2;have hi':i<h.length:=by rw[<- rel.len];exact hi
         have e2':=e2;rw[uo hi'] at e2';have c1:=rel'.cells i d c (by rw[va hi];exact e1) e2';exact CellOk.to (ν:=[b]) (L:=Liv (μ++[b]) (h'.take h.length++[.lst xs])) ⟨λ_ _ e _=>e,λ_ _ _ n=>n⟩ (λ_=>rfl) (CellOk.cut lv c0.bel c1)
        ·rw[we (by lia)] at e1;rw[we (by rw[<- rc.len];lia)] at e2;have z:i-μ.length=0:=by
          have:=(Xa.mp e1).1;simp at this;lia
         have z2:i-(h'.take h.length).length=0:=by rw[<- rc.len];exact z
         rw[z] at e1;rw[z2] at e2;simp at e1 e2;subst e1;subst e2;refine⟨vs,hb,?_⟩;rw[xs'];rw[xs'] at lv;exact RVs.ofF (RFs.to ⟨λ_ _ e _=>e,λd _ _ n l=>n (lv d l)⟩ fl)
      ·simp only[RV];exact⟨b,by rw[<- rel.len];simp,rfl⟩
     next=>exact p (μ++ν) H' e rel' v r
    next=>exact p (μ++ν) H' e rel' v r
   next=>exact p (μ++ν) H' e rel' v r
  |tup xs=>exact p (μ++ν) H' e rel' v r
  |exc c=>exact p (μ++ν) H' e rel' v r
 next=>exact p (μ++ν) H' e rel' v r
theorem qbm{E:XK}{c:String}{k:MV->List Addr->MH->Hp->Prop}(rel:Rel ct μ h H)(e:Ext μ h H (μ++ν) h' H')(rel':Rel ct (μ++ν) h' H')(p:Po ct E (yP h c h') μ h H k):E (.ref (ct c)) none H':=by
 unfold yP at p;split at p
 next t=>exact p μ H' (Ext.cut rel.len e) (rel.cut t rel')
 next=>exact p (μ++ν) H' e rel'
end
end
section
variable {ct:Tx} {X:Cx} {E:XK}
section
variable {μ:List Addr} {h:MH} {L:Addr->Prop} {H:Hp} {m:MV} {v:V}
theorem Zh{i:Int}(e:Yd m=some i):m=.f (.int i):=by
 unfold Yd at e;split at e
 next=>cases e;rfl
 next=>cases e
theorem Yah{i:Bool}(e:qF m=some i):m=.f (.bl i):=by
 unfold qF at e;split at e
 next=>cases e;rfl
 next=>cases e
theorem zo{i:Int}(r:RV ct μ L H (.f (.int i)) v):v=.int i:=by simpa only[RV,RF] using r
theorem QaA{i:Bool}(r:RV ct μ L H (.f (.bl i)) v):v=.bl i:=by simpa only[RV,RF] using r
theorem QC(i:Int):RV ct μ L H (.f (.int i)) (.int i):=by simp only[RV,RF]
theorem zv(i:Bool):RV ct μ L H (.f (.bl i)) (.bl i):=by simp only[RV,RF]
theorem yW(i:Str):RV ct μ L H (.f (.str i)) (.str i):=by simp only[RV,RF]
theorem Zaa:RV ct μ L H (.f .non) .non:=by simp only[RV,RF]
theorem Yn{xs:List MV}(rel:Rel ct μ h H)(e:MP.listOf h m=some xs)(r:RV ct μ (Liv μ h) H m v):∃ a vs,v=.ref a/\Rd H a (.lst vs)/\RVs ct μ (Liv μ h) H xs vs:=by
 unfold MP.listOf at e;split at e
 next ys =>
  cases e;simp only[RV,RF] at r;obtain⟨a,vs,e1,_,rd,q⟩:=r;exact⟨a,vs,e1,rd,RVs.ofF q⟩
 next i =>
  obtain⟨b,vs,e1,e2,q⟩:=rel.lst e;simp only[RV] at r;obtain⟨b',e3,rfl⟩:=r;rw[e1] at e3;cases e3;exact⟨b,vs,rfl,.inl e2,q⟩
 next=>cases e
theorem yw{xs:List MV}(e:ZD m=some xs)(r:RV ct μ L H m v):∃ a vs,v=.ref a/\¬ L a/\H a=some (.tup vs)/\RVs ct μ L H xs vs:=by
 unfold ZD at e;split at e
 next ys =>
  cases e;simp only[RV,RF] at r;obtain⟨a,vs,e1,n,rd,q⟩:=r;exact⟨a,vs,e1,n,rd,RVs.ofF q⟩
 next ys =>
  cases e;simp only[RV] at r;exact r
 next=>cases e
theorem Yw{xs:List MV}(e:zc h m=some xs):ZD m=some xs\/MP.listOf h m=some xs\/∃ ns,m=.f (.scr ns)/\xs=ns.map λi=>MV.f (.int i):=by
 unfold zc at e;split at e
 next=>exact .inl e
 next=>exact .inr (.inl e)
 next ns=>cases e;exact .inr (.inr ⟨ns,rfl,rfl⟩)
 next=>exact .inl e
 next=>exact .inr (.inl e)
 next=>cases e
noncomputable def SqR(ct:Tx)(H:Hp)(b:Bool)(a:Addr)(vs:List V):Prop:=SqS ct.K H b a vs
theorem SqR.s{K:PySem.W.Frag}{b:Bool}{a:Addr}{vs:List V}(hK:K=ct.K)(q:SqR ct H b a vs):SqS K H b a vs:=by rw[hK];exact q
theorem Z1{L:Addr->Prop}:∀ ns:List Int,RVs ct μ L H (ns.map λi=>MV.f (.int i)) (ns.map V.int)
 |[]=>by simp only[Uk,RVs]
 |i::ns=>by
  simp only[Xb,RVs];exact⟨.int i,_,rfl,QC i,Z1 ns⟩
theorem zaJ{L:Addr->Prop}{a:Addr}{ns:List Int}(q:(¬ L a/\∃ o,H a=some (.frz o (.lst (ns.map V.int))))\/ScrK ct.K a ns):SqL ct.K H a (ns.map V.int):=q.elim (λ⟨_,o,e⟩=>.inl (.inr ⟨o,e⟩)) .inr
theorem yB{xs:List MV}(rel:Rel ct μ h H)(e:zc h m=some xs)(r:RV ct μ (Liv μ h) H m v):∃ b a vs,v=.ref a/\SqR ct H b a vs/\RVs ct μ (Liv μ h) H xs vs:=by
 rcases Yw e with e|e|⟨ns,rfl,rfl⟩
 ·obtain⟨a,vs,q1,_,q2,q3⟩:=yw e r;exact⟨true,a,vs,q1,SqT.of q2,q3⟩
 ·obtain⟨a,vs,q1,q2,q3⟩:=Yn rel e r;exact⟨false,a,vs,q1,.inl q2,q3⟩
 ·simp only[RV,RF] at r;obtain⟨a,rfl,q⟩:=r;exact⟨false,a,_,rfl,zaJ q,Z1 ns⟩
theorem qai(rel:Rel ct μ h H){p:Addr}(hp:H p=none):¬ Liv μ h p:=λl=>by obtain⟨o,e⟩:=Liv.has rel l;rw[hp] at e;cases e
theorem yE{fz:Bool}{xs:List MV}{vs:List V}{Q:VK}(rel:Rel ct μ h H)(r:RVs ct μ (Liv μ h) H xs vs)(p:Po ct E (yu fz xs h) μ h H (kV ct Q)):∀ a,H a=none->Q (.ref a) (upd H a (.lst vs)):=by
 intro a ha;cases fz with
 |true =>
  obtain⟨ys,e,p⟩:=Po.opt (o:=qi xs) (g:=λys=>R.ok (MV.f (.lst ys)) h) p;refine p μ _ (Ext.new rel ha _) (rel.new ha _) _ ?_;simp only[RV,RF];exact⟨a,vs,rfl,qai rel ha,.inl zf,RFs.to (Ext.new rel ha _).let (RVs.toF e r)⟩
 |false =>
  refine p (μ++[a]) _ (Ext.cell rel ha _ _) (rel.cell ha ?_) _ ?_
  ·exact⟨vs,zf,RVs.to (Ext.cell rel ha _ _).let r⟩
  ·simp only[RV];exact⟨a,by rw[<- rel.len];simp,rfl⟩
theorem zH{xs:List MV}{vs:List V}{a:Addr}(n:¬ L a)(rd:H a=some (.tup vs))(r:RVs ct μ L H xs vs):RV ct μ L H (yf xs) (.ref a):=by
 unfold yf;split
 next ys e =>
  simp only[RV,RF];exact⟨a,vs,rfl,n,rd,RVs.toF e r⟩
 next =>
  simp only[RV];exact⟨a,vs,rfl,n,rd,r⟩
theorem Z3{xs:List MV}{vs:List V}{Q:VK}(rel:Rel ct μ h H)(r:RVs ct μ (Liv μ h) H xs vs)(p:Po ct E (.ok (yf xs) h) μ h H (kV ct Q)):∀ a,H a=none->Q (.ref a) (upd H a (.tup vs)):=by
 intro a ha;refine p μ _ (Ext.new rel ha _) (rel.new ha _) _ (zH (qai rel ha) zf ?_);have:=RVs.to (ν:=[]) (Ext.new rel ha (.tup vs)).let r;simpa using this
end
noncomputable def r2(ct:Tx)(E:XK)(g:MV->MV->MH->R MV):R2:=λx y H Q=>∃ μ h mx my,Rel ct μ h H/\RV ct μ (Liv μ h) H mx x/\RV ct μ (Liv μ h) H my y/\Po ct E (g mx my h) μ h H (kV ct Q)
theorem YaW{i:Int}(h:i.natAbs<MP.big):Builtin.Int.intBits i<=2^20:=by
 refine intBits_le_iff.mpr (Xc h ?_);exact Nat.pow_le_pow_right (by decide) (by decide)
theorem qbS:OpR X (binaryOp .Mult) (rI Q5 λi j=>.int (i*j)):=opI λi j _ _ _ _ _ hc q=>by
 refine mul_int q ?_
 rcases hc with c|c|⟨c,d⟩
 ·exact .of_left (intBits_le_64 (by lia) (by lia))
 ·exact .of_right (intBits_le_64 (by lia) (by lia))
 ·exact .of_bits (YaW c) (YaW d)
theorem qbQ:OpR X (binaryOp .FloorDiv) (rI zU λi j=>.int (i/j)):=opI λi j _ _ _ _ _ hc q=>by
 have h1:(0:Int)<j:=hc.1;refine floordiv_int (by lia) (by rw[Vx i (by lia)];exact q) (.inl (PyProof.noPylong_of_log2 ?_));have:j.natAbs≠0:=by lia
 rcases hc.2 with c|c
 ·have:j.natAbs.log2<30:=(Nat.log2_lt (by lia)).mpr (by lia)
  lia
 ·have:j.natAbs.log2<4096:=(Nat.log2_lt (by lia)).mpr c
  lia
noncomputable def rCatR:R2:=λx y H Q=>∃ l b xs zs,x=.ref l/\y=.ref b/\Rd H l (.lst xs)/\Rd H b (.lst zs)/\xs.length+zs.length<=sizeLine/\∀ p,H p=none->Q (.ref p) (upd H p (.lst (xs++zs)))
theorem ybY:OpR X (binaryOp .Add) rCatR:=by
 intro pins s σ H x y v u Q I rx ry h;obtain⟨l,b,xs,zs,rfl,rfl,hH,hB,hz,q⟩:=h;cases rx;cases ry;obtain⟨z,its,n,r,e⟩:=hH.ok I.hok;obtain⟨z2,its2,n2,r2,e2⟩:=hB.ok I.hok;have hl:=r.length;have hl2:=r2.length;refine PySem.P.add_list e e2 ?_ (by rw[Ua,Ua];lia);have ea:its.toArray++its2.toArray=(its++its2).toArray:=by simp
 rw[ea];exact⟨.ref _,_,I.lnew (t':=s.toks) (r.append r2) (by rw[Vf];lia),rfl,q _ I.fresh⟩
end
theorem YB:MP.sizeL<=sizeLine:=by decide
section
variable {ct:Tx} {X:Cx} {E:XK}
noncomputable def mOp:BO->Operator
 |.add=>.Add | .sub=>.Sub | .mul=>.Mult | .fdiv=>.FloorDiv | .mod=>.Mod | .pow=>.Pow
theorem OpR.imp{f:Value->Value->Sem Value}{r r':R2}(o:OpR X f r)(k:∀ x y H Q,r' x y H Q->r x y H Q):OpR X f r':=λpins s σ H x y v u Q I rx ry q=>o pins s σ H x y v u Q I rx ry (k _ _ _ _ q)
theorem OpR.ors{f:Value->Value->Sem Value}{r r':R2}(o:OpR X f r)(o':OpR X f r'):OpR X f λx y H Q=>r x y H Q\/r' x y H Q:=λpins s σ H x y v u Q I rx ry q=>q.elim (o pins s σ H x y v u Q I rx ry) (o' pins s σ H x y v u Q I rx ry)
theorem yS{fz:Bool}{op:BO}{x y:V}{H:Hp}{Q:VK}(q:r2 ct E (yh fz op) x y H Q):(∃ i j k,x=.int i/\y=.int j/\QE op i j=some k/\Q (.int k) H) \/
  ∃ μ h mx my,Yd mx=none/\Rel ct μ h H/\RV ct μ (Liv μ h) H mx x/\RV ct μ (Liv μ h) H my y/\Po ct E (yh fz op mx my h) μ h H (kV ct Q):=by
 obtain⟨μ,h,mx,my,rel,rx,ry,p⟩:=q;cases ex:Yd mx with
 |none=>exact .inr ⟨μ,h,mx,my,ex,rel,rx,ry,p⟩
 |some i =>
  have:=Zh ex;subst this;cases ey:Yd my with
  |none =>
   unfold yh at p;rw[ex,ey] at p;exact p.elim
  |some j =>
   have:=Zh ey;subst this;unfold yh at p;rw[ex,ey] at p;obtain⟨k,e,p⟩:=Po.opt p;refine .inl ⟨i,j,k,zo rx,zo ry,e,?_⟩;exact p.now rel _ (QC k)
theorem ycj(fz:Bool):OpR X (binaryOp .Sub) (r2 ct E (yh fz .sub)):=OpR.imp qca λx y H Q q=>by
 rcases yS q with ⟨i,j,k,e1,e2,e3,q⟩|⟨μ,h,mx,my,ex,rel,rx,ry,p⟩
 ·cases e3;exact⟨i,j,e1,e2,q⟩
 ·exfalso;unfold yh at p;rw[ex] at p;cases ey:Yd my <;> rw[ey] at p <;> exact p.elim
theorem QbY(fz:Bool):OpR X (binaryOp .FloorDiv) (r2 ct E (yh fz .fdiv)):=OpR.imp qbQ λx y H Q q=>by
 rcases yS q with ⟨i,j,k,e1,e2,e3,q⟩|⟨μ,h,mx,my,ex,rel,rx,ry,p⟩
 ·simp only[QE] at e3;split at e3
  next c=>cases e3;exact⟨i,j,e1,e2,c,q⟩
  next=>cases e3
 ·exfalso;unfold yh at p;rw[ex] at p;cases ey:Yd my <;> rw[ey] at p <;> exact p.elim
theorem Ycn(fz:Bool):OpR X (binaryOp .Mod) (r2 ct E (yh fz .mod)):=OpR.imp qcq λx y H Q q=>by
 rcases yS q with ⟨i,j,k,e1,e2,e3,q⟩|⟨μ,h,mx,my,ex,rel,rx,ry,p⟩
 ·simp only[QE] at e3;split at e3
  next c=>cases e3;exact⟨i,j,e1,e2,c,q⟩
  next=>cases e3
 ·exfalso;unfold yh at p;rw[ex] at p;cases ey:Yd my <;> rw[ey] at p <;> exact p.elim
theorem Zcj(fz:Bool):OpR X (binaryOp .Pow) (r2 ct E (yh fz .pow)):=OpR.imp Ycb λx y H Q q=>by
 rcases yS q with ⟨i,j,k,e1,e2,e3,q⟩|⟨μ,h,mx,my,ex,rel,rx,ry,p⟩
 ·simp only[QE] at e3;split at e3
  next c=>cases e3;exact⟨i,j,e1,e2,⟨c.1,c.2.1,c.2.2⟩,q⟩
  next=>cases e3
 ·exfalso;unfold yh at p;rw[ex] at p;cases ey:Yd my <;> rw[ey] at p <;> exact p.elim
noncomputable def rRepR:R2:=λx y H Q=>∃ l k xs,x=.ref l/\y=.int k/\Rd H l (.lst xs)/\-(2^63)<=k/\k<2^63/\xs.length*k.toNat<=sizeLine/\∀ p,H p=none->Q (.ref p) (upd H p (.lst (Wb k.toNat xs).flatten))
theorem qbV:OpR X (binaryOp .Mult) rRepR:=by
 intro pins s σ H x y v u Q I rx ry h;obtain⟨l,k,xs,rfl,rfl,hH,h1,h2,hz,q⟩:=h;cases rx;obtain⟨t,rfl⟩:=ry;obtain⟨z,its,n,r,e⟩:=hH.ok I.hok;have hl:=r.length;have hlen:its.toArray.size*k.toNat<=sizeLine:=by rw[Ua,<- hl];exact hz
 have hcap:¬ its.toArray.size*k.toNat>(2^63-1)/8:=by
  have:(sizeLine:Nat)<=(2^63-1)/8:=by decide
  lia
 have hfit:¬(!Builtin.List.listFitsIndex k)=true:=by
  rw[fitsIndex_both h1 h2];exact Ud
 have hlong:¬ Builtin.List.listTooLong (its.toArray.size*k.toNat)=true:=by
  rw[qak hlen];exact Ud
 have hnew:uE (λx1 x2=>x1++x2) #[] (Wb (if its.toArray.isEmpty=true then 0 else k.toNat) its.toArray)=(Wb k.toNat its).flatten.toArray:=by
  have f0:∀ m:Nat,uE (λx1 x2=>x1++x2) #[] (Wb m its.toArray)=(Wb m its).flatten.toArray:=λm=>by
   have:=Zax its m [];rw[Vk] at this;exact this
  rw[f0];cases its with
  |nil=>simp
  |cons a r'=>rw[if_neg (by simp)]
 refine wpAny_binaryOp_repeat_ref (T:="list") (U:="int") (by decide) ⟨_,e,rfl⟩ (λs'=>typeIs_int s' k t) noFill_list_mul F.fills_int_mul F.slot_int_rmul repeat_list F.slot_int_index.lookup
  (call_meets F.slot_int_rmul (typeIs_int s k t) F.entry_int_rmul (F.args_int_rmul_2 _ _) (int___rmul___int_list k t l its.toArray n)
   ⟨e,rfl,⟨_,e,rfl⟩,call_meets F.slot_list_mul ⟨_,e,rfl⟩ F.entry_list_mul (F.args_list_mul_2 _ _) (AutoListH.list___mul___list_int_3 l its.toArray n k t hfit hcap hlong) ⟨e,?_⟩⟩)
 rw[hnew];exact⟨.ref _,_,I.lnew (t':=s.toks) (r.rep k.toNat) (by rw[qbU,xC];exact hz),rfl,q _ I.fresh⟩
theorem RVs.rep{μ:List Addr}{L:Addr->Prop}{H:Hp}{xs:List MV}{vs:List V}(r:RVs ct μ L H xs vs):∀ n:Nat,RVs ct μ L H (Wb n xs).flatten (Wb n vs).flatten
 |0=>by simpa using RVs.nil
 |n+1=>by simp only[Um,Uq];exact r.append (RVs.rep r n)
theorem yce(fz:Bool):OpR X (binaryOp .Mult) (r2 ct E (yh fz .mul)):=OpR.imp (OpR.ors qbS qbV) λx y H Q q=>by
 rcases yS q with ⟨i,j,k,e1,e2,e3,q⟩|⟨μ,h,mx,my,ex,rel,rx,ry,p⟩
 ·simp only[QE] at e3;split at e3
  next c=>cases e3;exact .inl ⟨i,j,e1,e2,c,q⟩
  next=>cases e3
 ·unfold yh at p;rw[ex] at p;cases ey:Yd my with
  |none=>rw[ey] at p;exact p.elim
  |some j =>
   rw[ey] at p;have:=Zh ey;subst this;obtain⟨xs,e,p⟩:=Po.opt p;obtain⟨a,vs,rfl,rd,rs⟩:=Yn rel e rx;split at p
   next c =>
    have hl:=rs.length
    right
    refine⟨a,j,vs,rfl,zo ry,rd,c.1,c.2.1,?_,yE rel (rs.rep _) p⟩;rw[hl];exact xf c.2.2 YB
   next=>exact p.elim
theorem zcm(fz:Bool):OpR X (binaryOp .Add) (r2 ct E (yh fz .add)):=OpR.imp (OpR.ors Qck (OpR.ors Qb0 ybY)) λx y H Q q=>by
 rcases yS q with ⟨i,j,k,e1,e2,e3,q⟩|⟨μ,h,mx,my,ex,rel,rx,ry,p⟩
 ·cases e3;exact .inl ⟨i,j,e1,e2,q⟩
 ·unfold yh at p;rw[ex] at p;cases ey:Yd my with
  |some j=>rw[ey] at p;exact p.elim
  |none =>
   rw[ey] at p;dsimp only at p
   right
   split at p
   next xs ys e1 e2 =>
    split at p
    next c =>
     obtain⟨a,vs,rfl,n1,rd1,r1⟩:=yw e1 rx;obtain⟨b,ws,rfl,n2,rd2,r2⟩:=yw e2 ry;have h1:=r1.length;have h2:=r2.length;refine .inl ⟨a,b,vs,ws,rfl,rfl,.inl (.inl rd1),.inl (.inl rd2),λz=>c.1 (um (by rw[<- h1,z];rfl)),by rw[h1,h2];exact xf c.2 YB,λz=>?_,λz=>Z3 rel (r1.append r2) p⟩;have:ys=[]:=um (by rw[<- h2,z];rfl);subst this;rw[Uj] at p;exact p.now rel _ (zH n1 rd1 r1)
    next=>exact p.elim
   next =>
    obtain⟨xs,e1,p⟩:=Po.opt p;obtain⟨ys,e2,p⟩:=Po.opt p;split at p
    next c =>
     obtain⟨a,vs,rfl,rd1,r1⟩:=Yn rel e1 rx;obtain⟨b,ws,rfl,rd2,r2⟩:=Yn rel e2 ry;have h1:=r1.length;have h2:=r2.length;exact .inr ⟨a,b,vs,ws,rfl,rfl,rd1,rd2,by rw[h1,h2];exact xf c YB,yE rel (r1.append r2) p⟩
    next=>exact p.elim
theorem Qcm(fz:Bool):∀ op:BO,OpR X (binaryOp (mOp op)) (r2 ct E (yh fz op))
 |.add=>zcm fz | .sub=>ycj fz | .mul=>yce fz | .fdiv=>QbY fz | .mod=>Ycn fz | .pow=>Zcj fz
end
mutual
noncomputable def toP:FV->PyData
 |.non=>.none
 |.bl b=>.bool b
 |.int i=>.int i
 |.str s=>.str s
 |.tup xs=>.tuple (Ys xs)
 |.lst xs=>.list (Ys xs)
 |.obj _ _ _=>.none
 |.scr _=>.none
 |.tab _=>.none
 |.msk _=>.none
noncomputable def Ys:List FV->List PyData
 |[]=>[]
 |x::xs=>toP x::Ys xs
end
theorem yaW:∀ xs:List FV,Ys xs=xs.map toP
 |[]=>by simp[Ys]
 |x::xs=>by simp[Ys,yaW xs]
section
variable {ct:Tx} {X:Cx} {E:XK}
theorem Qah{n:Nat}:∀ xs:List FV,(∀ x∈xs,(toP x).canLay0=true/\(toP x).depth<=n)->PyData.canLayAll0 (Ys xs)=true/\PyData.depthAll (Ys xs)<=n
 |[],_=>by simp[Ys,PyData.canLayAll0,PyData.depthAll]
 |x::xs,f=>by
  have h1:=f x (by simp);have h2:=Qah xs λy hy=>f y (by simp[hy]);simp only[Ys,PyData.canLayAll0,PyData.depthAll,h1.1,h2.1,Bool.and_self,true_and];have a1:=h1.2;have a2:=h2.2
  lia
theorem Qam:∀(n:Nat)(x:FV),isD n x=true->(toP x).canLay0=true/\(toP x).depth<=n
 |0,x,e=>by cases x <;> simp[isD] at e
 |n+1,.non,_=>by simp[toP,PyData.canLay0,PyData.depth]
 |n+1,.bl _,_=>by simp[toP,PyData.canLay0,PyData.depth]
 |n+1,.int _,_=>by simp[toP,PyData.canLay0,PyData.depth]
 |n+1,.str s,e=>by
  have e':PyData.strOk s=true:=e;simp[toP,PyData.canLay0,PyData.depth,e']
 |n+1,.tup xs,e=>by
  have q:=Qah (n:=n) xs λx hx=>Qam n x (by simp[isD] at e;exact e x hx);have q2:=q.2;simp only[toP,PyData.canLay0,PyData.depth,q.1,true_and]
  lia
 |n+1,.lst xs,e=>by
  have q:=Qah (n:=n) xs λx hx=>Qam n x (by simp[isD] at e;exact e x hx);have q2:=q.2;simp only[toP,PyData.canLay0,PyData.depth,q.1,true_and]
  lia
 |n+1,.obj _ _ _,e=>by simp[isD] at e
 |n+1,.scr _,e=>by simp[isD] at e
 |n+1,.tab _,e=>by simp[isD] at e
 |n+1,.msk _,e=>by simp[isD] at e
theorem QS{x:FV}(e:isD 8 x=true):SeqAt.shaped (toP x)=true:=by
 have:=Qam 8 x e;unfold SeqAt.shaped;rw[this.1,WB];exact decide_eq_true (by have:=this.2;lia)
mutual
theorem ZaJ:∀(n:Nat)(x y:FV),isD n x=true->isD n y=true->PyData.eqv (toP x) (toP y)=eqD x y
 |0,x,_,e,_=>by cases x <;> simp[isD] at e
 |n+1,.tup xs,.tup ys,e,e'=>by
  simp only[toP,PyData.eqv,eqD];exact yaF n xs ys (by simpa[isD] using e) (by simpa[isD] using e')
 |n+1,.lst xs,.lst ys,e,e'=>by
  simp only[toP,PyData.eqv,eqD];exact yaF n xs ys (by simpa[isD] using e) (by simpa[isD] using e')
 |n+1,.non,y,e,e'=>by cases y <;> simp_all [isD,toP,PyData.eqv,eqD]
 |n+1,.bl _,y,e,e'=>by cases y <;> simp_all [isD,toP,PyData.eqv,eqD]
 |n+1,.int _,y,e,e'=>by cases y <;> simp_all [isD,toP,PyData.eqv,eqD]
 |n+1,.str _,y,e,e'=>by cases y <;> simp_all [isD,toP,PyData.eqv,eqD]
 |n+1,.tup _,.non,e,e'=>by simp[toP,PyData.eqv,eqD]
 |n+1,.tup _,.bl _,e,e'=>by simp[toP,PyData.eqv,eqD]
 |n+1,.tup _,.int _,e,e'=>by simp[toP,PyData.eqv,eqD]
 |n+1,.tup _,.str _,e,e'=>by simp[toP,PyData.eqv,eqD]
 |n+1,.tup _,.lst _,e,e'=>by simp[toP,PyData.eqv,eqD]
 |n+1,.tup _,.obj _ _ _,e,e'=>by simp[isD] at e'
 |n+1,.tup _,.scr _,e,e'=>by simp[isD] at e'
 |n+1,.tup _,.tab _,e,e'=>by simp[isD] at e'
 |n+1,.tup _,.msk _,e,e'=>by simp[isD] at e'
 |n+1,.lst _,.non,e,e'=>by simp[toP,PyData.eqv,eqD]
 |n+1,.lst _,.bl _,e,e'=>by simp[toP,PyData.eqv,eqD]
 |n+1,.lst _,.int _,e,e'=>by simp[toP,PyData.eqv,eqD]
 |n+1,.lst _,.str _,e,e'=>by simp[toP,PyData.eqv,eqD]
 |n+1,.lst _,.tup _,e,e'=>by simp[toP,PyData.eqv,eqD]
 |n+1,.lst _,.obj _ _ _,e,e'=>by simp[isD] at e'
 |n+1,.lst _,.scr _,e,e'=>by simp[isD] at e'
 |n+1,.lst _,.tab _,e,e'=>by simp[isD] at e'
 |n+1,.lst _,.msk _,e,e'=>by simp[isD] at e'
 |n+1,.obj _ _ _,_,e,_=>by simp[isD] at e
 |n+1,.scr _,_,e,_=>by simp[isD] at e
 |n+1,.tab _,_,e,_=>by simp[isD] at e
 |n+1,.msk _,_,e,_=>by simp[isD] at e
theorem yaF:∀(n:Nat)(xs ys:List FV),(∀ x∈xs,isD n x=true)->(∀ y∈ys,isD n y=true)->PyData.eqvAll (Ys xs) (Ys ys)=Zan xs ys
 |n,[],[],_,_=>by simp[Ys,PyData.eqvAll,Zan]
 |n,[],_::_,_,_=>by simp[Ys,PyData.eqvAll,Zan]
 |n,_::_,[],_,_=>by simp[Ys,PyData.eqvAll,Zan]
 |n,x::xs,y::ys,e,e'=>by
  simp only[Ys,PyData.eqvAll,Zan];rw[ZaJ n x y (e x (by simp)) (e' y (by simp)),yaF n xs ys (λz hz=>e z (by simp[hz])) (λz hz=>e' z (by simp[hz]))]
end
mutual
theorem qH{P:Program}{w:World}{L:Addr->Prop}{H:Hp}{hp:Heap}(hok:HOk P w H hp):∀(n:Nat)(x:FV)(v:V)(u:Value),isD n x=true->RF ct L H x v->RelV v u->∃ as,Reads hp u (toP x) as
 |0,x,_,_,e,_,_=>by cases x <;> simp[isD] at e
 |n+1,.non,v,u,_,r,q=>by simp only[RF] at r;subst r;cases q;exact⟨_,.none⟩
 |n+1,.bl _,v,u,_,r,q=>by simp only[RF] at r;subst r;cases q;exact⟨_,.bool _⟩
 |n+1,.int _,v,u,_,r,q=>by simp only[RF] at r;subst r;obtain⟨t,rfl⟩:=q;exact⟨_,.int _ _⟩
 |n+1,.str _,v,u,_,r,q=>by simp only[RF] at r;subst r;obtain⟨t,rfl⟩:=q;exact⟨_,.str _ _⟩
 |n+1,.tup xs,v,u,e,r,q=>by
  simp only[RF] at r;obtain⟨a,vs,rfl,_,rd,rs⟩:=r;cases q;obtain⟨z,its,rv,o,e1,e2,k,e3⟩:=(Rd.of rd).ok hok;obtain⟨as,ra⟩:=qw hok n xs vs its (by simpa[isD] using e) rs rv;exact⟨as,reads_tuple_at e1 e2 e3 ra⟩
 |n+1,.lst xs,v,u,e,r,q=>by
  simp only[RF] at r;obtain⟨a,vs,rfl,_,rd,rs⟩:=r;cases q;obtain⟨z,its,k,rv,e1⟩:=rd.ok hok;obtain⟨as,ra⟩:=qw hok n xs vs its (by simpa[isD] using e) rs rv;exact⟨_,reads_list_at e1 rfl rfl ra⟩
 |n+1,.obj _ _ _,_,_,e,_,_=>by simp[isD] at e
 |n+1,.scr _,_,_,e,_,_=>by simp[isD] at e
 |n+1,.tab _,_,_,e,_,_=>by simp[isD] at e
 |n+1,.msk _,_,_,e,_,_=>by simp[isD] at e
theorem qw{P:Program}{w:World}{L:Addr->Prop}{H:Hp}{hp:Heap}(hok:HOk P w H hp):∀(n:Nat)(xs:List FV)(vs:List V)(us:List Value),(∀ x∈xs,isD n x=true)->RFs ct L H xs vs->Vals vs us->∃ as,ReadsAll hp us (Ys xs) as
 |n,[],vs,us,_,r,q=>by simp only[RFs] at r;subst r;cases q;exact⟨[],by simpa only[Ys] using ReadsAll.nil⟩
 |n,x::xs,vs,us,e,r,q=>by
  simp only[RFs] at r;obtain⟨v,t,rfl,r1,r2⟩:=r;cases q with
  |cons q1 q2 =>
   obtain⟨as,h1⟩:=qH hok n x v _ (e x (by simp)) r1 q1;obtain⟨bs,h2⟩:=qw hok n xs t _ (λz hz=>e z (by simp[hz])) r2 q2;exact⟨as++bs,by simp only[Ys];exact .cons h1 h2⟩
end
noncomputable abbrev noL:Addr->Prop:=λ_=>False
section
variable {μ:List Addr} {h:MH} {H:Hp}
theorem qS{g:MV->Option FV}:∀{xs:List MV}{ys:List FV}{vs:List V},xs.mapM g=some ys->RVs ct μ (Liv μ h) H xs vs ->
  (∀ x∈xs,∀ y v,g x=some y->RV ct μ (Liv μ h) H x v->RF ct noL H y v)->RFs ct noL H ys vs
 |[],ys,vs,e,r,_=>by
  simp at e;subst e;simp only[RVs] at r;subst r;simp only[RFs]
 |x::xs,ys,vs,e,r,f=>by
  simp only[Wu,xB,Vb,Option.pure_def,Option.some.injEq] at e;obtain⟨y,e1,zs,e2,rfl⟩:=e;simp only[RVs] at r;obtain⟨v,t,rfl,r1,r2⟩:=r;simp only[RFs];exact⟨v,t,rfl,f x (by simp) y v e1 r1,qS e2 r2 λz hz=>f z (by simp[hz])⟩
theorem Zs(rel:Rel ct μ h H):∀(n:Nat)(m:MV)(x:FV)(v:V),yn h n m=some x->RV ct μ (Liv μ h) H m v->RF ct noL H x v
 |0,m,x,v,e,_=>by simp[yn] at e
 |n+1,.f y,x,v,e,r=>by
  simp[yn] at e;subst e;simp only[RV] at r;exact RF.to ⟨λ_ _ e _=>e,λ_ _ _ _ z=>z⟩ r
 |n+1,.tup xs,x,v,e,r=>by
  simp only[yn,Wc] at e;obtain⟨ys,e1,rfl⟩:=e;simp only[RV] at r;obtain⟨a,vs,rfl,na,rd,q⟩:=r;simp only[RF];exact⟨a,vs,rfl,λz=>z,rd,qS e1 q λz hz y u ez ru=>Zs rel n z y u ez ru⟩
 |n+1,.ref i,x,v,e,r=>by
  simp only[yn,Vb,Wc] at e;obtain⟨xs,e0,ys,e1,rfl⟩:=e;simp only[RV] at r;obtain⟨b,eb,rfl⟩:=r;obtain⟨b',vs,eb',hb,q⟩:=rel.lst e0;rw[eb] at eb';cases eb';simp only[RF];exact⟨b,vs,rfl,λz=>z,.inl hb,qS e1 q λz hz y u ez ru=>Zs rel n z y u ez ru⟩
 |n+1,.exc _,x,v,e,_=>by simp[yn] at e
end
noncomputable def Yac:CO->CmpOp
 |.lt=>.Lt | .le=>.LtE | .gt=>.Gt | .ge=>.GtE | .eq=>.Eq | .ne=>.NotEq | .inn=>.In | .nin=>.NotIn
noncomputable def Qat(ct:Tx)(op:CO):R2:=λx y H Q=>∃ μ h mx my b,Rel ct μ h H/\RV ct μ (Liv μ h) H mx x/\RV ct μ (Liv μ h) H my y/\Yv op mx my h=some b/\Q (.bl b) H
theorem Q1{op:CO}{x y:V}{H:Hp}{Q:VK}(ho:∀ mx my h,Yv op mx my h=(Yd mx).bind λi=>(Yd my).bind λj=>ZX op i j)(q:Qat ct op x y H Q):∃ i j b,x=.int i/\y=.int j/\ZX op i j=some b/\Q (.bl b) H:=by
 obtain⟨μ,h,mx,my,b,rel,rx,ry,e,q⟩:=q;rw[ho] at e;simp only[Vb] at e;obtain⟨i,e1,j,e2,e3⟩:=e;have:=Zh e1;subst this;have:=Zh e2;subst this;exact⟨i,j,b,zo rx,zo ry,e3,q⟩
theorem oc_lt:OpR X (compareOp .Lt) (Qat ct .lt):=OpR.imp op_lt λx y H Q q=>by
 obtain⟨i,j,b,e1,e2,e3,q⟩:=Q1 (λ_ _ _=>rfl) q;cases e3;exact⟨i,j,e1,e2,q⟩
theorem oc_le:OpR X (compareOp .LtE) (Qat ct .le):=OpR.imp op_le λx y H Q q=>by
 obtain⟨i,j,b,e1,e2,e3,q⟩:=Q1 (λ_ _ _=>rfl) q;cases e3;exact⟨i,j,e1,e2,q⟩
theorem oc_gt:OpR X (compareOp .Gt) (Qat ct .gt):=OpR.imp op_gt λx y H Q q=>by
 obtain⟨i,j,b,e1,e2,e3,q⟩:=Q1 (λ_ _ _=>rfl) q;cases e3;exact⟨i,j,e1,e2,q⟩
theorem oc_ge:OpR X (compareOp .GtE) (Qat ct .ge):=OpR.imp op_ge λx y H Q q=>by
 obtain⟨i,j,b,e1,e2,e3,q⟩:=Q1 (λ_ _ _=>rfl) q;cases e3;exact⟨i,j,e1,e2,q⟩
theorem yaR{x y:FV}{b:Bool}(e:eqF x y=some b):isD 8 x=true/\isD 8 y=true/\eqD x y=b:=by
 unfold eqF at e;split at e
 next c=>cases e;exact⟨c.1,c.2,rfl⟩
 next=>cases e
theorem oc_eq(hu:X.A.units+65<cLine):OpR X (compareOp .Eq) (Qat ct .eq):=by
 intro pins s σ H x y v u Q I rx ry q;obtain⟨μ,h,mx,my,b,rel,r1,r2,e,q⟩:=q;simp only[Yv,Vb] at e;obtain⟨a,e1,c,e2,e3⟩:=e;obtain⟨d1,d2,e4⟩:=yaR e3;obtain⟨as,ra⟩:=qH I.hok 8 a x v d1 (Zs rel 5 mx a x e1 r1) rx;obtain⟨bs,rb⟩:=qH I.hok 8 c y u d2 (Zs rel 5 my c y e2 r2) ry;refine eq_dataH ra rb (QS d1) (QS d2) (by lia) ?_;rw[ZaJ 8 a c d1 d2,e4];exact⟨.bl b,H,I,rfl,q⟩
theorem oc_ne(hu:X.A.units+65<cLine):OpR X (compareOp .NotEq) (Qat ct .ne):=by
 intro pins s σ H x y v u Q I rx ry q;obtain⟨μ,h,mx,my,b,rel,r1,r2,e,q⟩:=q;simp only[Yv,Vb,Wc] at e;obtain⟨a,e1,c,e2,b',e3,rfl⟩:=e;obtain⟨d1,d2,e4⟩:=yaR e3;obtain⟨as,ra⟩:=qH I.hok 8 a x v d1 (Zs rel 5 mx a x e1 r1) rx;obtain⟨bs,rb⟩:=qH I.hok 8 c y u d2 (Zs rel 5 my c y e2 r2) ry;refine ne_dataH ra rb (QS d1) (QS d2) (by lia) ?_;rw[ZaJ 8 a c d1 d2,e4];exact⟨.bl _,H,I,rfl,q⟩
end
end SD
end
section
namespace HT
open PySem PyProof.Rows
section
variable {prog:Program} {w:World} {A:Around} {E:Value->Shared->Prop} {s:Shared}
theorem getItem_tuple_whole{t sl:Addr}{items:Array Value}{vl vu:Value}{lo hi:Option Int}{Q:Value->Shared->Prop}(ht:IsTup s.heap t items)(hs:s.heap.IsSliceOf sl vl vu .none)(pl:IsPart vl lo)(pu:IsPart vu hi)
  (hw:sIx items.size 0 lo=0/\sIx items.size items.size hi=items.size) (h:Q (.ref t) s):wpAny (model prog w) A (getItem (.ref t) (.ref sl)) Q E s:=by
 obtain⟨os,hos,hcs,hds⟩:=id hs;have hTs:s.TypeIs (.ref sl) "slice":=⟨os,hos,hcs⟩;unfold getItem
 try with_reducible refine wpAny_holding ?_
 first|refine wpAny_bind (wpAny_pure ?_)|skip
 refine wpAny_bind (wpAny_sequenceKey ht.typeIs (by decide) ?_);refine wpAny_bind (wpAny_callSpecial?_slot (name:=Str.ofString "__getitem__") ht.typeIs PyProof.Rows.slot_tuple_getitem
  (wpAny_call_entry PyProof.Rows.slot_tuple_getitem ht.typeIs entry_tuple_getitem ?_ (args_tuple_getitem _ _)))
 show wpAny _ _ (Builtin.Tuple.tupleItemsOf (.ref t) >>= _) _ _ s;refine wpAny_bind (tupleItemsOf_ ht ?_);refine wpAny_bind (wpAny_typeOf hTs ?_);rw[if_pos (by decide)];refine wpAny_bind (yG hs pl pu ?_);have hyes:(((sIx items.size 0 lo:Nat):Int)==0&&(1:Int)==1&&(sIx items.size items.size hi-sIx items.size 0 lo)==items.size)=true:=by
  rw[hw.1,hw.2];simp
 show wpAny _ _ (if(((sIx items.size 0 lo:Nat):Int)==0&&(1:Int)==1&&(sIx items.size items.size hi-sIx items.size 0 lo)==items.size)=true then _ else _) _ _ s;rw[if_pos hyes];unfold Builtin.Tuple.tupleIsExact;refine wpAny_bind (wpAny_bind (wpAny_typeOf ht.typeIs (wpAny_pure ?_)));rw[if_pos (by decide)]
 first
  |exact wpAny_bind (wpAny_rule (wpAny_bind (wpAny_pure (wpAny_pure ⟨_,rfl,wpAny_pure h⟩))))
  |exact wpAny_bind (wpAny_rule (wpAny_pure ⟨_,rfl,wpAny_pure h⟩))
  |exact wpAny_bind (wpAny_rule (wpAny_bind (wpAny_pure ⟨_,rfl,wpAny_pure h⟩)))
end
end HT
namespace SD
open PySem PySem.Spec PyProof.Rows L2 L3 M3 MP
section
variable {ct:Tx} {X:Cx} {E:XK}
theorem ZbL{x:FV}{ys:List FV}{b:Bool}(e:inF x ys=some b):isD 8 x=true/\(∀ y∈ys,isD 8 y=true)/\ys.any (λy=>eqD y x)=b:=by
 unfold inF at e;split at e
 next c=>cases e;exact⟨c.1,by simpa using c.2,rfl⟩
 next=>cases e
theorem YbU{x:FV}{ys:List FV}(hx:isD 8 x=true)(hy:∀ y∈ys,isD 8 y=true):(Ys ys).any (λy=>PyData.eqv y (toP x))=ys.any λy=>eqD y x:=by
 rw[yaW,List.any_map]
 induction ys with
 |nil=>rfl
 |cons y ys ih =>
  simp only[List.any_cons,vw];rw[ZaJ 8 y x (hy y (by simp)) hx,ih λz hz=>hy z (by simp[hz])]
theorem Yav{μ:List Addr}{h:MH}{H:Hp}{mx my:MV}{ys:List MV}{a:FV}{bs:List FV}{x y:V}{v u:Value}{b:Bool}{pins:List (Addr×Obj)}{σ:L2.St}{s:Shared}(hK:X.K=ct.K)(I:Inv X pins σ H s)(rel:Rel ct μ h H)(rx:RelV x v)(ry:RelV y u)
  (r1:RV ct μ (Liv μ h) H mx x) (r2:RV ct μ (Liv μ h) H my y) (e1:qG h mx=some a) (e2:zc h my=some ys) (e3:ys.mapM (qG h)=some bs) (e4:inF a bs=some b) :
  (∃ as as',(Reads s.heap u (.list (Ys bs)) as\/Reads s.heap u (.tuple (Ys bs)) as)/\Reads s.heap v (toP a) as')/\PyData.canLayAll0 (Ys bs)=true/\(toP a).canLay0=true/\PyData.depthAll (Ys bs)<=8/\(Ys bs).any (λy=>PyData.eqv y (toP a))=b:=by
 obtain⟨d1,d2,e5⟩:=ZbL e4;obtain⟨as',ra⟩:=qH I.hok 8 a x v d1 (Zs rel 5 mx a x e1 r1) rx;obtain⟨k,p,vs,rfl,sq,rs⟩:=yB rel e2 r2;cases ry;have rf:RFs ct noL H bs vs:=qS e3 rs λz hz y u ez ru=>Zs rel 5 z y u ez ru;have ll:=Qah (n:=8) bs λy hy=>Qam 8 y (d2 y hy);refine⟨?_,ll.1,(Qam 8 a d1).1,ll.2,by rw[YbU d1 d2];exact e5⟩;cases k with
 |true =>
  obtain⟨its,rv,⟨o,q1,q2,n,q3⟩,_⟩:=I.tuple (show SqT X.K H p vs from sq.s hK);obtain⟨as,rb⟩:=qw I.hok 8 bs vs its d2 rf rv;exact⟨as,as',.inr (reads_tuple_at q1 q2 q3 rb),ra⟩
 |false =>
  obtain⟨its,rv,⟨o,n,q1,q2,_,q3⟩,_⟩:=I.list (show SqL X.K H p vs from sq.s hK);obtain⟨as,rb⟩:=qw I.hok 8 bs vs its d2 rf rv;exact⟨_,as',.inl (reads_list_at q1 q2 q3 rb),ra⟩
theorem oc_in(hK:X.K=ct.K)(hu:X.A.units+65<cLine):OpR X (compareOp .In) (Qat ct .inn):=by
 intro pins s σ H x y v u Q I rx ry q;obtain⟨μ,h,mx,my,b,rel,r1,r2,e,q⟩:=q;simp only[Yv,Vb] at e;obtain⟨a,e1,ys,e2,bs,e3,e4⟩:=e;obtain⟨⟨as,as',rb,ra⟩,l1,l2,l3,e5⟩:=Yav hK I rel rx ry r1 r2 e1 e2 e3 e4
 rcases rb with rb|rb
 ·exact SeqAt.in_list_reads rb ra l1 l2 (by have:=Vv (PyData.depthAll (Ys bs)) (toP a).depth;lia) (by rw[e5];exact⟨.bl b,H,I,rfl,q⟩)
 ·exact SeqAt.in_tuple_reads rb ra l1 l2 (by have:=Vv (PyData.depthAll (Ys bs)) (toP a).depth;lia) (by rw[e5];exact⟨.bl b,H,I,rfl,q⟩)
theorem qcr(hK:X.K=ct.K)(hu:X.A.units+65<cLine):OpR X (compareOp .NotIn) (Qat ct .nin):=by
 intro pins s σ H x y v u Q I rx ry q;obtain⟨μ,h,mx,my,b,rel,r1,r2,e,q⟩:=q;simp only[Yv,Vb,Wc] at e;obtain⟨a,e1,ys,e2,bs,e3,b',e4,rfl⟩:=e;obtain⟨⟨as,as',rb,ra⟩,l1,l2,l3,e5⟩:=Yav hK I rel rx ry r1 r2 e1 e2 e3 e4
 rcases rb with rb|rb
 ·exact SeqAt.notIn_list_reads rb ra l1 l2 (by have:=Vv (PyData.depthAll (Ys bs)) (toP a).depth;lia) (by rw[e5];exact⟨.bl _,H,I,rfl,q⟩)
 ·exact SeqAt.notIn_tuple_reads rb ra l1 l2 (by have:=Vv (PyData.depthAll (Ys bs)) (toP a).depth;lia) (by rw[e5];exact⟨.bl _,H,I,rfl,q⟩)
theorem Z8(hK:X.K=ct.K)(hu:X.A.units+65<cLine):∀ op:CO,OpR X (compareOp (Yac op)) (Qat ct op)
 |.lt=>oc_lt | .le=>oc_le | .gt=>oc_gt | .ge=>oc_ge | .eq=>oc_eq hu | .ne=>oc_ne hu | .inn=>oc_in hK hu | .nin=>qcr hK hu
theorem zbx(n:Nat)(i:Int):ixM n i=ixN n i:=rfl
noncomputable def rIxM(ct:Tx):R2:=λx y H Q=>∃ μ h mx k xs m,Rel ct μ h H/\RV ct μ (Liv μ h) H mx x/\y=.int k/\zc h mx=some xs/\atM xs k=some m/\∀ v,RV ct μ (Liv μ h) H m v->Q v H
theorem YbX(hK:X.K=ct.K):IxR X (rIxM ct):=by
 intro value slice pins s σ H x y v u Q I rx ry q hs;obtain⟨μ,h,mx,k,xs,m,rel,r,rfl,e1,e2,q⟩:=q;obtain⟨b,a,vs,rfl,sq,rs⟩:=yB rel e1 r;unfold atM at e2;rw[Vb] at e2;obtain⟨j,e3,e4⟩:=e2;obtain⟨w,ew,rw_⟩:=rs.get e4;refine k_ix X.K rfl value slice pins s σ H (.ref a) (.int k) v u Q I rx ry ⟨b,a,vs,k,w,rfl,rfl,sq.s hK,?_,q w rw_⟩ hs;unfold atI;rw[rs.length,<- zbx,e3];exact ew
theorem YaM{μ:List Addr}{L:Addr->Prop}{H:Hp}{xs:List MV}{vs:List V}(r:RVs ct μ L H xs vs)(lo hi:Option Int):RVs ct μ L H (zao xs lo hi) (zaO vs lo hi):=by
 unfold zao zaO;rw[r.length];exact(r.drop _).take _
noncomputable def rSlM(ct:Tx)(E:XK)(fz:Bool):V->Option Int->Option Int->Hp->VK->Prop:=λx lo hi H Q=>∃ μ h m,Rel ct μ h H/\RV ct μ (Liv μ h) H m x/\Po ct E (yab fz m lo hi h) μ h H (kV ct Q)
theorem QbZ(hK:X.K=ct.K)(fz:Bool):SlR X (rSlM ct E fz):=by
 intro pins s σ H x v vl vu lo hi sl Q I rx hs pl pu q;obtain⟨μ,h,m,rel,r,p⟩:=q;unfold yab at p;split at p
 next xs e =>
  obtain⟨a,vs,rfl,n,rd,rs⟩:=yw e r;by_cases hw:HT.sIx vs.length 0 lo=0/\HT.sIx vs.length vs.length hi=vs.length
  ·cases rx;obtain⟨its,rv,ht,hz⟩:=I.tuple (show SqT X.K H a vs from .inl (.inl rd));have hlen:its.toArray.size=vs.length:=by rw[Ua];exact rv.length.symm
   refine⟨"tuple",_,PyProof.Rows.slot_tuple_getitem.lookup,ht.typeIs,HT.getItem_tuple_whole ht hs pl pu (by rw[hlen];exact hw) ?_⟩;have hc:zao xs lo hi=xs:=by
    have hl:=rs.length;unfold zao;show(xs.drop (HT.sIx xs.length 0 lo)).take (HT.sIx xs.length xs.length hi-HT.sIx xs.length 0 lo)=xs;rw[<- hl,hw.1,hw.2,List.drop_zero,wC,hl,Wp]
   rw[hc] at p;exact⟨.ref a,H,I,rfl,p.now rel _ (zH n rd rs)⟩
  ·exact qcp pins s σ H (.ref a) v vl vu lo hi sl Q I rx hs pl pu ⟨a,vs,rfl,.inl (.inl rd),hw,Z3 rel (YaM rs lo hi) p⟩
 next e =>
  obtain⟨xs,e1,p⟩:=Po.opt p
  rcases Yw e1 with e2|e2|⟨ns,rfl,rfl⟩
  ·rw[e] at e2;cases e2
  ·obtain⟨a,vs,rfl,rd,rs⟩:=Yn rel e2 r;exact qbd pins s σ H (.ref a) v vl vu lo hi sl Q I rx hs pl pu ⟨a,vs,rfl,.inl rd,yE rel (YaM rs lo hi) p⟩
  ·simp only[RV,RF] at r;obtain⟨a,rfl,q⟩:=r;exact qbd pins s σ H (.ref a) v vl vu lo hi sl Q I rx hs pl pu ⟨a,_,rfl,by rw[hK];exact zaJ q,yE rel (YaM (Z1 ns) lo hi) p⟩
end
section
variable {ct:Tx} {X:Cx} {E:XK}
theorem CallR.imp{f:Value}{r r':List V->Hp->VK->Prop}(o:CallR X f r)(k:∀ xs H Q,r' xs H Q->r xs H Q):CallR X f r':=λpins s σ H xs us Q I rv q=>o pins s σ H xs us Q I rv (k _ _ _ q)
theorem CallR.ors{f:Value}{r r':List V->Hp->VK->Prop}(o:CallR X f r)(o':CallR X f r'):CallR X f λxs H Q=>r xs H Q\/r' xs H Q:=λpins s σ H xs us Q I rv q=>q.elim (o pins s σ H xs us Q I rv) (o' pins s σ H xs us Q I rv)
noncomputable def rB(ct:Tx)(E:XK)(fz:Bool)(n:String):List V->Hp->VK->Prop:=λvs H Q=>∃ μ h ms,Rel ct μ h H/\RVs ct μ (Liv μ h) H ms vs/\Po ct E (YN fz n ms h) μ h H (kV ct Q)
theorem Qv{μ:List Addr}{L:Addr->Prop}{H:Hp}{m:MV}{vs:List V}(r:RVs ct μ L H [m] vs):∃ v,vs=[v]/\RV ct μ L H m v:=by
 simp only[RVs] at r;obtain⟨v,t,rfl,r1,rfl⟩:=r;exact⟨v,rfl,r1⟩
theorem zaj{μ:List Addr}{L:Addr->Prop}{H:Hp}{m m':MV}{vs:List V}(r:RVs ct μ L H [m,m'] vs):∃ v v',vs=[v,v']/\RV ct μ L H m v/\RV ct μ L H m' v':=by
 simp only[RVs] at r;obtain⟨v,t,rfl,r1,v',t',rfl,r2,rfl⟩:=r;exact⟨v,v',rfl,r1,r2⟩
theorem Zam{μ:List Addr}{L:Addr->Prop}{H:Hp}:∀{xs:List MV}{ns:List Int}{vs:List V},yg xs=some ns->RVs ct μ L H xs vs->vs=ns.map V.int
 |[],ns,vs,e,r=>by simp[yg] at e;subst e;simp only[RVs] at r;subst r;rfl
 |.f (.int i)::xs,ns,vs,e,r=>by
  simp only[yg,Wc] at e;obtain⟨ms,e1,rfl⟩:=e;simp only[RVs] at r;obtain⟨v,t,rfl,r1,r2⟩:=r;rw[zo r1,Zam e1 r2];rfl
 |.f .non::_,_,_,e,_=>by simp[yg] at e
 |.f (.bl _)::_,_,_,e,_=>by simp[yg] at e
 |.f (.str _)::_,_,_,e,_=>by simp[yg] at e
 |.f (.tup _)::_,_,_,e,_=>by simp[yg] at e
 |.f (.lst _)::_,_,_,e,_=>by simp[yg] at e
 |.f (.obj _ _ _)::_,_,_,e,_=>by simp[yg] at e
 |.f (.scr _)::_,_,_,e,_=>by simp[yg] at e
 |.f (.tab _)::_,_,_,e,_=>by simp[yg] at e
 |.f (.msk _)::_,_,_,e,_=>by simp[yg] at e
 |.ref _::_,_,_,e,_=>by simp[yg] at e
 |.tup _::_,_,_,e,_=>by simp[yg] at e
 |.exc _::_,_,_,e,_=>by simp[yg] at e
theorem ybg{μ:List Addr}{L:Addr->Prop}{H:Hp}:∀{xs:List MV}{ns:List Bool}{vs:List V},Qr xs=some ns->RVs ct μ L H xs vs->vs=ns.map V.bl
 |[],ns,vs,e,r=>by simp[Qr] at e;subst e;simp only[RVs] at r;subst r;rfl
 |.f (.bl i)::xs,ns,vs,e,r=>by
  simp only[Qr,Wc] at e;obtain⟨ms,e1,rfl⟩:=e;simp only[RVs] at r;obtain⟨v,t,rfl,r1,r2⟩:=r;rw[QaA r1,ybg e1 r2];rfl
 |.f .non::_,_,_,e,_=>by simp[Qr] at e
 |.f (.int _)::_,_,_,e,_=>by simp[Qr] at e
 |.f (.str _)::_,_,_,e,_=>by simp[Qr] at e
 |.f (.tup _)::_,_,_,e,_=>by simp[Qr] at e
 |.f (.lst _)::_,_,_,e,_=>by simp[Qr] at e
 |.f (.obj _ _ _)::_,_,_,e,_=>by simp[Qr] at e
 |.f (.scr _)::_,_,_,e,_=>by simp[Qr] at e
 |.f (.tab _)::_,_,_,e,_=>by simp[Qr] at e
 |.f (.msk _)::_,_,_,e,_=>by simp[Qr] at e
 |.ref _::_,_,_,e,_=>by simp[Qr] at e
 |.tup _::_,_,_,e,_=>by simp[Qr] at e
 |.exc _::_,_,_,e,_=>by simp[Qr] at e
theorem SqR.len{H:Hp}{K:PySem.W.Frag}{b:Bool}{a:Addr}{vs:List V}(hK:K=ct.K)(q:SqR ct H b a vs):SqL K H a vs\/SqT K H a vs:=by
 subst hK;cases b with
 |false=>exact .inl q
 |true=>exact .inr q
theorem ycp(hK:X.K=ct.K)(fz:Bool):CallR X (.builtin "len") (rB ct E fz "len"):=CallR.imp (yb9 X.K) λvs H Q q=>by
 obtain⟨μ,h,ms,rel,r0,p⟩:=q
 rcases ms with _|⟨m,_|⟨m2,ms⟩⟩
 ·exact p.elim
 ·obtain⟨v,rfl,rm⟩:=Qv r0;obtain⟨xs,e,p⟩:=Po.opt p;obtain⟨b,a,ws,rfl,sq,rs⟩:=yB rel e rm;exact⟨a,ws,rfl,sq.len hK,by rw[rs.length];exact p.now rel _ (QC _)⟩
 ·exact p.elim
theorem zcq(hK:X.K=ct.K)(fz:Bool)(hc:X.calm=true):CallR X (.builtin "all") (rB ct E fz "all"):=CallR.imp (k_all X.K hc) λvs H Q q=>by
 obtain⟨μ,h,ms,rel,r0,p⟩:=q
 rcases ms with _|⟨m,_|⟨m2,ms⟩⟩
 ·exact p.elim
 ·obtain⟨v,rfl,rm⟩:=Qv r0;obtain⟨ns,e,p⟩:=Po.opt p;rw[Vb] at e;obtain⟨xs,e1,e2⟩:=e;obtain⟨b,a,ws,rfl,sq,rs⟩:=yB rel e1 rm;have:=ybg e2 rs;subst this;exact⟨b,a,ns,rfl,sq.s hK,p.now rel _ (zv _)⟩
 ·exact p.elim
theorem Zch(hK:X.K=ct.K)(fz:Bool)(hc:X.calm=true):CallR X (.builtin "min") (rB ct E fz "min"):=CallR.imp (CallR.ors (k_min X.K hc) (Ybo hc)) λvs H Q q=>by
 obtain⟨μ,h,ms,rel,r0,p⟩:=q
 rcases ms with _|⟨m,_|⟨m2,_|⟨m3,ms⟩⟩⟩
 ·exact p.elim
 ·left
  obtain⟨v,rfl,rm⟩:=Qv r0;obtain⟨ns,e,p⟩:=Po.opt p;rw[Vb] at e;obtain⟨xs,e1,e2⟩:=e;obtain⟨b,a,ws,rfl,sq,rs⟩:=yB rel e1 rm;have:=Zam e2 rs;subst this;cases ns with
  |nil=>exact p.elim
  |cons n ns =>
   refine⟨b,a,n::ns,rfl,sq.s hK,by simp,λk hk hl=>?_⟩;have:k=Zau n ns:=by
    have a1:=hl _ (qaV (r:=n::ns) (by simp));have a2:=yb2 (r:=n::ns) hk;exact Int.le_antisymm a1 a2
   subst this;exact p.now rel _ (QC _)
 ·right
  obtain⟨v,v',rfl,rm,rm'⟩:=zaj r0;obtain⟨i,e,p⟩:=Po.opt p;obtain⟨j,e',p⟩:=Po.opt p;have:=Zh e;subst this;have:=Zh e';subst this;rw[zo rm,zo rm'];exact⟨i,j,rfl,p.now rel _ (QC _)⟩
 ·exact p.elim
theorem Qcb(hK:X.K=ct.K)(fz:Bool)(hc:X.calm=true):CallR X (.builtin "max") (rB ct E fz "max"):=CallR.imp (CallR.ors (k_max X.K hc) (ybn hc)) λvs H Q q=>by
 obtain⟨μ,h,ms,rel,r0,p⟩:=q
 rcases ms with _|⟨m,_|⟨m2,_|⟨m3,ms⟩⟩⟩
 ·exact p.elim
 ·left
  obtain⟨v,rfl,rm⟩:=Qv r0;obtain⟨ns,e,p⟩:=Po.opt p;rw[Vb] at e;obtain⟨xs,e1,e2⟩:=e;obtain⟨b,a,ws,rfl,sq,rs⟩:=yB rel e1 rm;have:=Zam e2 rs;subst this;cases ns with
  |nil=>exact p.elim
  |cons n ns =>
   refine⟨b,a,n::ns,rfl,sq.s hK,by simp,λk hk hl=>?_⟩;have:k=yat n ns:=by
    have a1:=hl _ (qaO (r:=n::ns) (by simp));have a2:=yb0 (r:=n::ns) hk;exact Int.le_antisymm a2 a1
   subst this;exact p.now rel _ (QC _)
 ·right
  obtain⟨v,v',rfl,rm,rm'⟩:=zaj r0;obtain⟨i,e,p⟩:=Po.opt p;obtain⟨j,e',p⟩:=Po.opt p;have:=Zh e;subst this;have:=Zh e';subst this;rw[zo rm,zo rm'];exact⟨i,j,rfl,p.now rel _ (QC _)⟩
 ·exact p.elim
theorem zbM(hK:X.K=ct.K)(fz:Bool):CallR X (.type "tuple") (rB ct E fz "tuple"):=CallR.imp (qb4 X.K) λvs H Q q=>by
 obtain⟨μ,h,ms,rel,r0,p⟩:=q
 rcases ms with _|⟨m,_|⟨m2,ms⟩⟩
 ·exact p.elim
 ·obtain⟨v,rfl,rm⟩:=Qv r0;obtain⟨xs,e,p⟩:=Po.opt p
  rcases Yw e with e|e|⟨ns,rfl,rfl⟩
  ·obtain⟨a,ws,rfl,n,rd,rs⟩:=yw e rm;exact⟨a,ws,rfl,.inr ⟨.inl (.inl rd),p.now rel _ (zH n rd rs)⟩⟩
  ·obtain⟨a,ws,rfl,rd,rs⟩:=Yn rel e rm;exact⟨a,ws,rfl,.inl ⟨.inl rd,Z3 rel rs p⟩⟩
  ·simp only[RV,RF] at rm;obtain⟨a,rfl,q⟩:=rm;exact⟨a,_,rfl,.inl ⟨by rw[hK];exact zaJ q,Z3 rel (Z1 ns) p⟩⟩
 ·exact p.elim
theorem ybX(hK:X.K=ct.K)(fz:Bool):CallR X (.type "list") (rB ct E fz "list"):=CallR.imp (qcl X.K) λvs H Q q=>by
 obtain⟨μ,h,ms,rel,r0,p⟩:=q
 rcases ms with _|⟨m,_|⟨m2,ms⟩⟩
 ·exact p.elim
 ·obtain⟨v,rfl,rm⟩:=Qv r0;obtain⟨xs,e,p⟩:=Po.opt p;obtain⟨b,a,ws,rfl,sq,rs⟩:=yB rel e rm;exact⟨a,ws,rfl,sq.len hK,yE rel rs p⟩
 ·exact p.elim
noncomputable def rLm(ct:Tx)(E:XK)(m:String):V->List V->Hp->VK->Prop:=λx vs H Q=>∃ μ h mo ms,Rel ct μ h H/\RV ct μ (Liv μ h) H mo x/\RVs ct μ (Liv μ h) H ms vs/\Po ct E (lmV m mo ms h) μ h H (kV ct Q)
theorem MtR.imp{id:String}{r r':V->List V->Hp->VK->Prop}(o:MtR X id r)(k:∀ x xs H Q,r' x xs H Q->r x xs H Q):MtR X id r':=λpins s σ H x xs v us Q I rx rv q=>o pins s σ H x xs v us Q I rx rv (k _ _ _ _ q)
theorem ZaM{m:String}{mo:MV}{ms:List MV}{μ:List Addr}{h:MH}{H:Hp}{x:V}{k:MV->List Addr->MH->Hp->Prop}(rel:Rel ct μ h H)(r:RV ct μ (Liv μ h) H mo x)(p:Po ct E (lmV m mo ms h) μ h H k) :
  ∃ i b xs vs,mo=.ref i/\x=.ref b/\μ[i]?=some b/\Zb h i=some xs/\H b=some (.lst vs)/\RVs ct μ (Liv μ h) H xs vs:=by
 cases mo with
 |ref i =>
  obtain⟨xs,e,_⟩:=Po.opt p;obtain⟨b,vs,e1,e2,q⟩:=rel.lst e;simp only[RV] at r;obtain⟨b',e3,rfl⟩:=r;rw[e1] at e3;cases e3;exact⟨i,b,xs,vs,rfl,rfl,e1,e,e2,q⟩
 |f _=>exact p.elim
 |tup _=>exact p.elim
 |exc _=>exact p.elim
theorem qaJ{μ:List Addr}{h:MH}{H:Hp}{i:Nat}{b:Addr}{xs ys:List MV}{vs:List V}{m:MV}{v:V}{Q:VK}(rel:Rel ct μ h H)(e1:μ[i]?=some b)(e:Zb h i=some xs)(r:RVs ct μ (Liv μ h) H ys vs)(rv:RV ct μ (Liv μ h) H m v)
  (p:Po ct E (.ok m (ye h i ys)) μ h H (kV ct Q)):Q v (upd H b (.lst vs)):=by
 have e2:=YJ e;have ex:=Ext.set (H:=H) rel e1 e2 (λz=>nomatch z) (.lst ys) (.lst vs);refine p μ _ ex (rel.set e1 e2 (λz=>nomatch z) ⟨vs,zf,?_⟩) v (rv.ext ex);exact RVs.ext ex r
theorem qbj:MtR X "list.append" (rLm ct E "append"):=MtR.imp Zbu λx ws H Q q=>by
 obtain⟨μ,h,mo,ms,rel,r,rs,p⟩:=q;obtain⟨i,b,xs,vs,rfl,rfl,e1,e,hb,q⟩:=ZaM rel r p
 rcases ms with _|⟨m,_|⟨m2,ms⟩⟩
 ·obtain⟨_,_,p⟩:=Po.opt p;exact p.elim
 ·obtain⟨v,rfl,rm⟩:=Qv rs;obtain⟨_,e',p⟩:=Po.opt p;rw[e] at e';cases e';change Po ct E (if xs.length<MP.sizeL then _ else _) μ h H (kV ct Q) at p;split at p
  next c=>exact⟨b,vs,v,rfl,rfl,hb,by rw[q.length];exact Xc c YB,qaJ rel e1 e (q.append (RVs.cons rm RVs.nil)) Zaa p⟩
  next=>exact p.elim
 ·obtain⟨_,_,p⟩:=Po.opt p;exact p.elim
theorem qa5:MtR X "list.reverse" (rLm ct E "reverse"):=MtR.imp Ya7 λx ws H Q q=>by
 obtain⟨μ,h,mo,ms,rel,r,rs,p⟩:=q;obtain⟨i,b,xs,vs,rfl,rfl,e1,e,hb,q⟩:=ZaM rel r p
 rcases ms with _|⟨m,ms⟩
 ·simp only[RVs] at rs;subst rs;obtain⟨_,e',p⟩:=Po.opt p;rw[e] at e';cases e';refine⟨b,vs,rfl,rfl,hb,qaJ rel e1 e (ys:=xs.reverse) ?_ Zaa p⟩;clear p e hb
  induction xs generalizing vs with
  |nil=>simp only[RVs] at q;subst q;exact RVs.nil
  |cons x xs ih =>
   simp only[RVs] at q;obtain⟨v,t,rfl,r1,r2⟩:=q;simp only[Xy];exact(ih t r2).append (RVs.cons r1 RVs.nil)
 ·obtain⟨_,_,p⟩:=Po.opt p;exact p.elim
noncomputable def zb0:V->List V->Hp->VK->Prop:=λx vs H Q=>∃ l xs i y,x=.ref l/\vs=[.int i,y]/\H l=some (.lst xs)/\xs.length<sizeLine/\-(2^63)<=i/\i<2^63 /\
 Q .non (upd H l (.lst (xs.take (HT.sIx xs.length 0 (some i))++y::xs.drop (HT.sIx xs.length 0 (some i)))))
theorem Ybn:MtM X "list.insert" zb0:=by
 intro pins s σ H x vs v us Q I rx rv h;obtain⟨l,xs,i,y,rfl,rfl,hH,hz,h1,h2,q⟩:=h;cases rx;obtain⟨u,w,rfl,ru,rw'⟩:=L2.Vals.two rv;obtain⟨t,rfl⟩:=ru;obtain⟨z,its,n,r,hl,e⟩:=I.lstM hH;have hfit:¬(!Builtin.List.listFitsIndex i)=true:=by rw[fitsIndex_both h1 h2];exact Ud
 refine call_meets F.slot_list_insert ⟨_,e,rfl⟩ F.entry_list_insert (F.args_list_insert_3 _ _ _) (AutoSeq1.list_insert_list_int_val_1 l its.toArray n i t w hfit (by rw[Ua];lia)) ⟨e,?_⟩;refine⟨.non,_,I.lset (its':=its.take (HT.sIx xs.length 0 (some i))++w::its.drop (HT.sIx xs.length 0 (some i))) hH e ?_ ((r.take _).append (.cons rw' (r.drop _))) ?_,rfl,q⟩
 ·rw[hl];show(its.toArray.extract 0 (if i<0 then(i+(its.toArray.size:Int)).toNat else min i.toNat its.toArray.size)).push w++its.toArray.extract (if i<0 then(i+(its.toArray.size:Int)).toNat else min i.toNat its.toArray.size)=_;rw[Ua];show(its.toArray.extract 0 (HT.sIx its.length 0 (some i))).push w++its.toArray.extract (HT.sIx its.length 0 (some i))=_;apply Array.ext';simp;exact Xn (by simp)
 ·simp only[Vf,Xd,Vm,wv]
  lia
theorem zbu:MtR X "list.insert" (rLm ct E "insert"):=MtR.imp Ybn λx ws H Q q=>by
 obtain⟨μ,h,mo,ms,rel,r,rs,p⟩:=q;obtain⟨i,b,xs,vs,rfl,rfl,e1,e,hb,q⟩:=ZaM rel r p
 rcases ms with _|⟨m,_|⟨m2,_|⟨m3,ms⟩⟩⟩
 ·obtain⟨_,_,p⟩:=Po.opt p;exact p.elim
 ·obtain⟨_,_,p⟩:=Po.opt p;exact p.elim
 ·obtain⟨v,v',rfl,rm,rm'⟩:=zaj rs;obtain⟨_,e',p⟩:=Po.opt p;rw[e] at e';cases e';change Po ct E (opt (Yd m) λi'=>if xs.length<MP.sizeL/\-(2^63)<=i'/\i'<2^63 then .ok (.f .non) (ye h i (ZI xs i' m2)) else .stuck) μ h H (kV ct Q) at p;obtain⟨k,e3,p2⟩:=Po.opt p;have:=Zh e3;subst this;rw[zo rm];split at p2
  next c =>
   have hl:=q.length;refine⟨b,vs,k,v',rfl,rfl,hb,by rw[hl];exact Xc c.1 YB,c.2.1,c.2.2,qaJ rel e1 e (ys:=ZI xs k m2) ?_ Zaa p2⟩;rw[hl];exact(q.take _).append (RVs.cons rm' (q.drop _))
  next=>exact p2.elim
 ·obtain⟨_,_,p⟩:=Po.opt p;exact p.elim
theorem qbn:MtR X "list.extend" (rLm ct E "extend"):=MtR.imp qa9 λx ws H Q q=>by
 obtain⟨μ,h,mo,ms,rel,r,rs,p⟩:=q;obtain⟨i,b,xs,vs,rfl,rfl,e1,e,hb,q⟩:=ZaM rel r p
 rcases ms with _|⟨m,_|⟨m2,ms⟩⟩
 ·obtain⟨_,_,p⟩:=Po.opt p;exact p.elim
 ·obtain⟨v,rfl,rm⟩:=Qv rs;obtain⟨_,e',p⟩:=Po.opt p;rw[e] at e';cases e';change Po ct E (opt (listOf h m) λys=>if xs.length+ys.length<=MP.sizeL then .ok (.f .non) (ye h i (xs++ys)) else .stuck) μ h H (kV ct Q) at p;obtain⟨ys,e3,p2⟩:=Po.opt p;obtain⟨a,ws,rfl,rd,rs2⟩:=Yn rel e3 rm;split at p2
  next c=>exact⟨b,a,vs,ws,rfl,rfl,hb,rd,by rw[q.length,rs2.length];exact xf c YB,qaJ rel e1 e (q.append rs2) Zaa p2⟩
  next=>exact p2.elim
 ·obtain⟨_,_,p⟩:=Po.opt p;exact p.elim
end
noncomputable def ya:Expr->Bool
 |.Starred ..=>false
 |.Slice ..=>false
 |.Set ..=>false
 |_=>true
noncomputable def Yf:Expr->Bool
 |.Call (.Name x _) [] [] _=>!(x==("super":Str))
 |_=>true
noncomputable def yF(cs sc:Scope):Scope :=
 {cs with names:=cs.names.map λ(n,k)=>if(k==NameKind.free&&sc.kind == .function&&sc.names.lookup n==some .cell) then(n,NameKind.cell) else(n,k)}
noncomputable def gl(sc:Scope)(x:Str):Bool:=sc.names.lookup x==some .globalImplicit&&!(x==("__debug__":Str))&&decide (x≠("__name__":Str))
noncomputable def YaQ(sc:Scope)(x:Str):Bool:=(sc.names.lookup x==some .local||sc.names.lookup x==some .cell||sc.names.lookup x==some .free)&&!(x==("__debug__":Str))&&!(x==("__classdict__":Str))
noncomputable def ya1(lo:Str->Bool)(sc:Scope)(x:Str):Bool:=sc.names.lookup x==some .local||(lo x&&sc.names.lookup x==some .cell)
noncomputable abbrev Yau:Str->Bool:=λ_=>true
noncomputable abbrev ownC(cs:Scope):Str->Bool:=λx=>cs.names.lookup x==some .cell
mutual
noncomputable def qy(lo:Str->Bool)(N:List Str)(sc:Scope):Tg->Expr->Bool
 |.nm i,.Name x _=>N[i]? == some x&&ya1 lo sc x
 |.tp ts,.Tuple es _ _=>YT lo N sc ts es
 |_,_=>false
noncomputable def YT(lo:Str->Bool)(N:List Str)(sc:Scope):List Tg->List Expr->Bool
 |[],[]=>true
 |t::ts,e::es=>qy lo N sc t e&&YT lo N sc ts es
 |_,_=>false
end
mutual
noncomputable def tgN:Tg->Expr->List Str
 |.nm _,.Name x _=>[x]
 |.tp ts,.Tuple es _ _=>tgNs ts es
 |_,_=>[]
noncomputable def tgNs:List Tg->List Expr->List Str
 |t::ts,e::es=>tgN t e++tgNs ts es
 |_,_=>[]
end
noncomputable def Qb9:Expr->Bool
 |.Tuple ..=>true
 |_=>false
noncomputable def fnNames:List String:=["len","all","min","max"]
noncomputable def tyNames:List String:=["tuple","list"]
noncomputable def lmNames:List String:=["append","insert","extend"]
noncomputable def lm0Names:List String:=["reverse"]
noncomputable def isTys:List String:=["dict","list","tuple","str","int","bool"]
noncomputable def Qy:Expr->List Expr
 |.Call (.Name _ _) as [] _=>as
 |_=>[]
noncomputable def yar(tg:Expr)(it:String):Expr->Bool
 |.Call (.Name x _) as [] _=>(it == "range"&&as.length==1||it == "zip"&&Qb9 tg&&as.length==2||it == "enumerate"&&Qb9 tg&&as.length==1)&&x==Str.ofString it
 |_=>false
noncomputable def okT:ME->Bool
 |.frz _=>false
 |.ite _ _ _=>false
 |_=>true
noncomputable def isTru:Expr->Bool
 |.Constant (.bool true) _ _=>true
 |_=>false
noncomputable def twoL{α:Type}:List α->Option (α×α)
 |[a,b]=>some (a,b)
 |_=>none
noncomputable def oneL{α:Type}:List α->Option α
 |[a]=>some a
 |_=>none
noncomputable def isM1:Expr->Bool
 |.UnaryOp .USub (.Constant (.int 1) _ _) _=>true
 |_=>false
noncomputable def rvForm:Expr->Option Expr
 |.Subscript x (.Slice none none (some st) _) _=>if isM1 st then some x else none
 |_=>none
noncomputable def Zcw:Expr->Option Expr
 |.Call (.Attribute l n ap) [] [] cp=>if n==("items":Str)&&Yf l&&(ap.endLine==cp.line) then some l else none
 |_=>none
section
variable (Pm:Prog)
mutual
noncomputable def Qj(me:ME)(N:List Str)(sc:Scope)(e:Expr):Bool:=match me,e with
 |.var i,.Name x _=>N[i]? == some x&&YaQ sc x
 |.cI i,.Constant (.int j) _ _=>i==j
 |.cB b,.Constant (.bool c) _ _=>b==c
 |.cN,.Constant .none _ _=>true
 |.cS s,.Constant (.str x) _ _=>s==x
 |.bin _ op a b,.BinOp l o r _=>o==mOp op&&(ya l&&Qj a N sc l)&&(ya r&&Qj b N sc r)
 |.neg a,.UnaryOp .USub x _=>(ya x&&Qj a N sc x)
 |.cmp op a b,.Compare l [o] [r] _=>o==Yac op&&(ya l&&Qj a N sc l)&&(ya r&&Qj b N sc r)
 |.chain op op' a b c,.Compare l [o,o'] [m,r] _=>o==Yac op&&o'==Yac op'&&(ya l&&Qj a N sc l)&&(ya m&&Qj b N sc m)&&(ya r&&Qj c N sc r)
 |.isN a,.Compare l [.Is] [.Constant .none _ _] _=>(ya l&&Qj a N sc l)
 |.notN a,.Compare l [.IsNot] [.Constant .none _ _] _=>(ya l&&Qj a N sc l)
 |.and es,.BoolOp .And vs _=>es.all okT&&Yk es N sc vs
 |.or es,.BoolOp .Or vs _=>es.all okT&&Yk es N sc vs
 |.not a,.UnaryOp .Not x _=>okT a&&(ya x&&Qj a N sc x)
 |.ite c a b,.IfExp t x y _=>okT c&&(ya t&&Qj c N sc t)&&(ya x&&Qj a N sc x)&&(ya y&&Qj b N sc y)
 |.tup es,.Tuple vs _ _=>decide (vs.length<1000)&&Yk es N sc vs
 |.lst _ es,.List vs _=>decide (vs.length<1000)&&Yk es N sc vs
 |.sub a i,.Subscript x y _=>(ya x&&Qj a N sc x)&&(ya y&&Qj i N sc y)
 |.slice _ a lo hi,.Subscript x (.Slice l u none _) _=>(ya x&&Qj a N sc x)&&zbG lo N sc l&&zbG hi N sc u
 |.fld a n,.Attribute x m _=>m==Str.ofString n&&Yf x&&(ya x&&Qj a N sc x)
 |.call f es,.Call (.Name x _) (v::vs) [] _=>x==Str.ofString f&&gl sc x&&!(f.toList.contains '.')&&(Pm.defs f).isSome&&Yk es N sc (v::vs)
 |.make _ c es,.Call (.Name x _) (v::vs) [] _=>x==Str.ofString c&&gl sc x&&(Pm.meths c "__init__").isSome&&Yk es N sc (v::vs)
 |.make _ c [],.Call (.Name x _) [] [] _=>x==Str.ofString c&&gl sc x&&Pm.mk0 c&&(Pm.meths c "__init__").isNone
 |.blt _ n es,.Call (.Name x _) (v::vs) [] _=>x==Str.ofString n&&gl sc x&&(fnNames.contains n||tyNames.contains n)&&Yk es N sc (v::vs)
 |.isI a t,.Call (.Name x _) [v,.Name y _] [] _=>x==("isinstance":Str)&&gl sc x&&y==Str.ofString t&&gl sc y&&(isTys.contains t||(Pm.subs t t).isSome)&&(ya v&&Qj a N sc v)
 |.tx2 .join a b,.Call (.Attribute x n ap) [v] [] cp=>n==("join":Str)&&Yf x&&(ap.endLine==cp.line)&&(ya x&&Qj a N sc x)&&(ya v&&Qj b N sc v)
 |.tx2 (.split _) a b,.Call (.Attribute x n ap) [v] [] cp=>n==("split":Str)&&Yf x&&(ap.endLine==cp.line)&&(ya x&&Qj a N sc x)&&(ya v&&Qj b N sc v)
 |.tx2 .at a b,.Subscript x y _=>(ya x&&Qj a N sc x)&&(ya y&&Qj b N sc y)
 |.tx2 .inn a b,.Compare l [.In] [r] _=>(ya l&&Qj a N sc l)&&(ya r&&Qj b N sc r)
 |.tx2 .cat a b,.BinOp x .Add y _=>(ya x&&Qj a N sc x)&&(ya y&&Qj b N sc y)
 |.tx2 .rep a b,.BinOp x .Mult y _=>(ya x&&Qj a N sc x)&&(ya y&&Qj b N sc y)
 |.tx2 .same a b,.Compare l [.Eq] [r] _=>(ya l&&Qj a N sc l)&&(ya r&&Qj b N sc r)
 |.tx2 .upd a b,.Call (.Attribute x n ap) [v] [] cp=>n==("update":Str)&&Yf x&&(ap.endLine==cp.line)&&(ya x&&Qj a N sc x)&&(ya v&&Qj b N sc v)
 |.lm m o es,.Call (.Attribute x n ap) vs [] cp=>n==Str.ofString m&&Yf x&&(ap.endLine==cp.line)&&(ya x&&Qj o N sc x)&&Yk es N sc vs&&(if vs.isEmpty then lm0Names.contains m else lmNames.contains m&&decide (vs.length<30))
 |.comp _ elt tg it src cond ncv js,.ListComp x [⟨t,iter,ifs,a⟩] cs _ =>
   let N':=tgN tg t++js.filterMap λj=>N[j]?
   (a==0)&&ya iter&&qv sc N cs N' ncv js&&decide N'.Nodup&&qy (ownC cs) N' (yF cs sc) tg t&&(ya x&&Qj elt N' (yF cs sc) x)&&chkC cond N' (yF cs sc) ifs &&
    (if it == "seq" then ybj src N sc iter else if it == "signs" then false else if it == "enum1" then false else yar t it iter&&gl sc (Str.ofString it)&&Yk src N sc (Qy iter))
 |.frz m,e=>(ya e&&Qj m N sc e)
 |_,_=>false
noncomputable def Yk(mes:List ME)(N:List Str)(sc:Scope)(es:List Expr):Bool:=match mes,es with
 |[],[]=>true
 |m::ms,e::es=>(ya e&&Qj m N sc e)&&Yk ms N sc es
 |_,_=>false
noncomputable def ybj(mes:List ME)(N:List Str)(sc:Scope)(e:Expr):Bool:=match mes with
 |[m]=>(ya e&&Qj m N sc e)
 |_=>false
noncomputable def zbG(mo:Option ME)(N:List Str)(sc:Scope)(eo:Option Expr):Bool:=match mo,eo with
 |none,none=>true
 |some m,some e=>(ya e&&Qj m N sc e)
 |_,_=>false
noncomputable def chkC(mo:Option ME)(N:List Str)(sc:Scope)(es:List Expr):Bool:=match mo,es with
 |none,[]=>true
 |some m,[e]=>okT m&&(ya e&&Qj m N sc e)
 |_,_=>false
end
noncomputable def Qe(me:ME)(N:List Str)(sc:Scope)(e:Expr):Bool:=ya e&&Qj Pm me N sc e
end
noncomputable def spR(ct:Tx)(W:List MV->MH->R MV):Sp:=λvs H Q E=>∃ μ h ms,Rel ct μ h H/\RVs ct μ (Liv μ h) H ms vs/\Po ct E (W ms h) μ h H (kV ct Q)
structure ClsOk (K:PySem.W.Frag) (C:Addr):Prop where
 cl:Cls K C
 ha:Vc K (.ref C) "__class__"=some (some (.builtin "object.__class__"))
 hn:uq K (.builtin "object.__class__") "__get__"=some (some (.builtin "getset_descriptor.__get__"))
 tk:Xt K (.builtin "object.__class__")=some true
 hm:Vp K C (.type "object")=some true
noncomputable def spW(ct:Tx)(Pm:Prog)(wd:String):Addr->Addr->Sp:=λx C vs H Q _=>vs=[.ref x]/\∃ c s,C=ct c/\Pm.word wd c=some s/\∀ H',Same H H'->Q (.str s) H'
noncomputable def zbO(mg:Str->Option Value)(x:String):FV->Prop
 |.int i=>∃ t,mg (Str.ofString x)=some (.int i t)
 |.str s=>∃ t,mg (Str.ofString x)=some (.str s t)
 |_=>False
structure Txt (P:Program) (w:World) (K:PySem.W.Frag) (mg:Str->Option Value) (base:Heap) (Pm:Prog) (ct:Tx) (n:Nat):Prop where
 defs:∀ f d,Pm.defs f=some d->f.toList.contains '.'=false->∃ ps,QaQ P w K mg base (Str.ofString f) (2*n) ps (spR ct (run Pm n f))
 inits:∀ c f,Pm.meths c "__init__"=some f->∃ ps,zbL P w K mg base (Str.ofString c) (ct c) (2*n) ps (spR ct (run Pm n f))
 blts:∀ x∈fnNames++tyNames++isTys++["range","zip","enumerate","isinstance","sorted","reversed"],mg (Str.ofString x)=none
 fok:∀ c f,Pm.fok c f=true->Cls K (ct c)/\NoAttr K (ct c) (Str.ofString f)
 cls:∀ c t b,Pm.subs c t=some b->ClsOk K (ct c)
 subC:∀ c t b,Pm.subs c t=some b->isTys.contains t=false->mg (Str.ofString t)=some (.ref (ct t))/\Ue K (.ref (ct c)) (.ref (ct t))=some b
 subT:∀ c t b,Pm.subs c t=some b->isTys.contains t=true->Ue K (.ref (ct c)) (.type t)=some b
 tyC:∀ t c b,Pm.subs c t=some b->isTys.contains t=false->∀ T∈["NoneType","bool","int","str","list","tuple"],Ue K (.type T) (.ref (ct t))=some false
 excs:∀ c,Pm.excs c=true->QK K (ct c)/\mg (Str.ofString c)=some (.ref (ct c))
 words:∀ wd,Pm.words wd=true->QK K (ct "DotError")/\mg "DotError"=some (.ref (ct "DotError"))/\(∃ ps,DefOkH P w K mg base (Str.ofString wd) 1 ps (spW ct Pm wd)) /\
  ∀ c s,Pm.word wd c=some s->QK K (ct c)/\(zt K (ct c)).contains (.ref (ct "DotError"))=true
 xcls:∀ t,Pm.xcls t=true->(if t="ValueError" then mg "ValueError"=none else mg (Str.ofString t)=some (.ref (ct t)))
 xs:∀ c t b,Pm.xsubs c t=some b->ExcK K (ct c)/\Ue K (.ref (ct c)) (if t="ValueError" then .type "ValueError" else .ref (ct t))=some b
 dfl:∀ f ds,Pm.dfl f ds=true->∃ ps fa fd dvals,FnOk P w K mg base (CX1 P w) (2*n) fa fd ps (spR ct (run Pm n f))/\Binds K fd ps dvals/\Vals (ds.map V.int) dvals/\Ug K (.ref fa)=true/\mg (Str.ofString f)=some (.ref fa)
 xdot:Pm.xt=true->QK K (ct "DotError")/\mg "DotError"=some (.ref (ct "DotError"))/\∀ c b,Pm.xsubs c c=some b->QK K (ct c)/\(zt K (ct c)).contains (.ref (ct "DotError"))=true
 meths:∀ c m f,Pm.meths c m=some f->m≠"__init__"->zcp P w K mg base (2*n) (ct c) (Str.ofString m) (spR ct (run Pm n f))
 mk0:∀ c,Pm.mk0 c=true->Mk0 K (ct c)/\mg (Str.ofString c)=some (.ref (ct c))
 globs:∀ x v,Pm.globs x=some v->zbO mg x v
structure Cc (X:Cx) (Pm:Prog) (ct:Tx) (n:Nat) (Ra:L2.St->Prop) (E:XK) (N:List Str) (sc:Scope):Prop where
 txt:Txt X.prog X.w X.K X.mg X.base Pm ct n
 calm:X.calm=true
 room:Room (2*n+1) X.A
 pas:∀ σ,Ra σ->zx (CX1 X.prog X.w) X σ E
 nm:X.N=N
 sc:X.env.scope=sc
 nd:X.N.Nodup
 hK:X.K=ct.K
section
variable {ct:Tx} {X:Cx} {E:XK} {Pm:Prog} {n:Nat} {Ra:L2.St->Prop} {N:List Str} {sc:Scope}
theorem Cc.units(c:Cc X Pm ct n Ra E N sc):X.A.units+65<cLine:=by have:=c.room.un;lia
theorem qN{x:Str}(hs:X.env.scope=sc)(h:gl sc x=true):Gl X x/\(x==("__debug__":Str))=false/\x≠"__name__":=by
 unfold gl at h;simp only[xa,beq_iff_eq,uj,decide_eq_true_eq] at h;refine⟨?_,h.1.2,h.2⟩;show X.env.scope.names.lookup x=_;rw[hs];exact h.1.1
theorem yk{e:Expr}{es:List Expr}{env:Env}(h:ya e=true):starEach (e::es) env=(false,eval e env)::starEach es env:=by
 cases e <;> first|rfl|(simp[ya] at h)
theorem Zu{e:Expr}(h:ya e=true)(op:CmpOp):behindInMarks op e=false:=by
 cases e <;> first|rfl|(simp[ya] at h)
theorem yaV{e:Expr}(h:ya e=true):qbf e:=by
 intro o i;cases e <;> first|rfl|(simp[ya] at h)
theorem QJ{e:Expr}{env:Env}(h:ya e=true):∀ x,foldedSetIterable e env x=pure x:=by
 intro x;cases e <;> first|rfl|(simp[ya] at h)
theorem Qu{e:Expr}{f:Str}{env:Env}{w:Sem Value}(h:Yf e=true):attributeBase e f env w=w:=by
 cases e with
 |Call g as ks p =>
  cases g with
  |Name x q =>
   cases as with
   |nil =>
    cases ks with
    |nil =>
     have h':(x==("super":Str))=false:=by simpa[Yf] using h
     have e1:(x != ("super":Str))=true:=by simp[bne,h']
     unfold attributeBase;simp only[e1,Bool.true_or,if_true]
    |cons _ _=>rfl
   |cons _ _=>rfl
  |_=>rfl
 |_=>rfl
theorem Qi{me:ME}{e:Expr}(h:Qe Pm me N sc e=true):ya e=true:=by
 unfold Qe at h;exact(ww.mp h).1
theorem qe{me:ME}{e:Expr}(h:Qe Pm me N sc e=true):Qj Pm me N sc e=true:=by
 unfold Qe at h;exact(ww.mp h).2
theorem ff{P:Prop}(h:false=true):P:=ui h
theorem qba{m:ME}{ms:List ME}{e:Expr}{es:List Expr}(h:Yk Pm (m::ms) N sc (e::es)=true):Qe Pm m N sc e=true/\Yk Pm ms N sc es=true:=ww.mp (show(Qe Pm m N sc e&&Yk Pm ms N sc es)=true from h)
theorem Zi{env:Env}:∀{es:List Expr},(∀ e∈es,ya e=true)->starEach es env=es.map λe=>(false,eval e env)
 |[],_=>rfl
 |e::es,h=>by
  rw[yk (h e (by simp)),Zi λx hx=>h x (by simp[hx])];rfl
theorem qu{env:Env}{pos:Pos}{es:List Expr}(h:∀ e∈es,ya e=true):(backTo pos (starEach es env)).any (·.1)=false:=by
 rw[Zi h];unfold backTo;rw[vh,List.any_map]
 induction es with
 |nil=>rfl
 |cons e es ih=>simp[Function.comp]
theorem PE.imp{e:Expr}{t t':TE}(p:PE X e t)(k:∀ σ H Q,t' σ H Q->t σ H Q):PE X e t':=λpins s σ H Q I h=>p pins s σ H Q I (k σ H Q h)
theorem PT.imp{e:Expr}{t t':TT}(p:PT X e t)(k:∀ σ H Q,t' σ H Q->t σ H Q):PT X e t':=λpins s σ H Q I h=>p pins s σ H Q I (k σ H Q h)
theorem PW.imp{e:Expr}{t t':TT}(p:PW X e t)(k:∀ σ H Q,t' σ H Q->t σ H Q):PW X e t':=λwh pins s σ H Q I h=>p wh pins s σ H Q I (k σ H Q h)
theorem PA.imp{es:List Expr}{t t':TA}(p:PA X es t)(k:∀ σ H Q,t' σ H Q->t σ H Q):PA X es t':=λpos pins s σ H Q I h=>p pos pins s σ H Q I (k σ H Q h)
theorem PS.imp{e:Stmt}{t t':TS}(p:PS X e t)(k:∀ D σ H,t' D σ H->t D σ H):PS X e t':=λpins s σ H D I h=>p pins s σ H D I (k D σ H h)
theorem PSs.imp{e:List Stmt}{t t':TS}(p:PSs X e t)(k:∀ D σ H,t' D σ H->t D σ H):PSs X e t':=λpins s σ H D I h=>p pins s σ H D I (k D σ H h)
noncomputable def lG(ct:Tx)(tg:Tg):TG:=λv σ H Q=>∃ μ h σs m σs',Rel ct μ h H/\RelSt ct μ h H σ σs/\RV ct μ (Liv μ h) H m v/\YH tg m σs=some σs'/\∀ σ',RelSt ct μ h H σ' σs'->Q σ' H
noncomputable def lGs(ct:Tx)(tgs:List Tg):TGs:=λvs σ H Q=>∃ μ h σs ms σs',Rel ct μ h H/\RelSt ct μ h H σ σs/\RVs ct μ (Liv μ h) H ms vs/\yC tgs ms σs=some σs'/\∀ σ',RelSt ct μ h H σ' σs'->Q σ' H
theorem PG.imp{e:Expr}{t t':TG}(p:PG X e t)(k:∀ v σ H Q,t' v σ H Q->t v σ H Q):PG X e t':=λpins s σ H v u Q I r h=>p pins s σ H v u Q I r (k v σ H Q h)
theorem PGs.imp{e:List Expr}{t t':TGs}(p:PGs X e t)(k:∀ v σ H Q,t' v σ H Q->t v σ H Q):PGs X e t':=λpins s σ H v u Q I r h=>p pins s σ H v u Q I r (k v σ H Q h)
theorem qab{lo:Str->Bool}{t:Tg}{e:Expr}(h:qy lo N sc t e=true):∀(es:List Expr)(env:Env),assignEach (e::es) env=(false,assign e env)::assignEach es env:=by
 intro es env;cases t with
 |nm i=>cases e <;> first|rfl|(simp[qy] at h)
 |tp ts=>cases e <;> first|rfl|(simp[qy] at h)
theorem Qao{lo:Str->Bool}{env:Env}:∀{ts:List Tg}{es:List Expr},YT lo N sc ts es=true->(assignEach es env).length=ts.length/\(assignEach es env).findIdx? (·.1)=none
 |[],[],_=>⟨rfl,rfl⟩
 |[],_::_,h=>by simp[YT] at h
 |_::_,[],h=>by simp[YT] at h
 |t::ts,e::es,h=>by
  simp only[YT,xa] at h;obtain⟨h1,h2⟩:=Qao (env:=env) h.2;rw[qab h.1 es env];exact⟨by simp[h1],by rw[List.findIdx?_cons];simp[h2]⟩
theorem Yam:∀{ts:List Tg}{ms:List MV}{σs σs':MSt},yC ts ms σs=some σs'->ms.length=ts.length
 |[],[],_,_,_=>rfl
 |[],_::_,_,_,e=>by simp[yC] at e
 |_::_,[],_,_,e=>by simp[yC] at e
 |t::ts,m::ms,σs,σs',e=>by
  simp only[yC,Vb] at e;obtain⟨σ1,_,e2⟩:=e;simp[Yam e2]
mutual
theorem sG{lo:Str->Bool}(hN:X.N=N)(hs:X.env.scope=sc)(nd:X.N.Nodup)(hc:X.calm=true)(hf:∀ x,lo x=true->X.fn x=true):∀(t:Tg)(e:Expr),qy lo N sc t e=true->PG X e (lG ct t)
 |.nm i,e,h=>by
  cases e with
  |Name x p =>
   simp only[qy,ya1,xa,beq_iff_eq,Xk] at h;obtain⟨h1,h2⟩:=h;have hi:X.N[i]?=some x:=by rw[hN];exact h1
   have hk:Loc X.env.scope x:=by
    rw[hs]
    rcases h2 with h2|⟨_,h2⟩
    ·exact .inl h2
    ·exact .inr h2
   have hf':X.fn x=true\/X.env.scope.names.lookup x=some .local:=by
    rw[hs]
    rcases h2 with h2|⟨hl,h2⟩
    ·exact .inr h2
    ·exact .inl (hf x hl)
   refine PG.imp (Zah nd hi hk hf') λv σ H Q q=>?_;obtain⟨μ,hh,σs,m,σs',rel,rst,r,e,k⟩:=q;simp[YH] at e;subst e;exact k _ (rst.set i r)
  |_=>simp[qy] at h
 |.tp ts,e,h=>by
  cases e with
  |Tuple es k p =>
   simp only[qy] at h;obtain⟨h1,h2⟩:=Qao (env:=X.env) h;refine PG.imp (Zcp hc (sGs hN hs nd hc hf ts es h) h1 h2) λv σ H Q q=>?_;obtain⟨μ,hh,σs,m,σs',rel,rst,r,e,k⟩:=q;simp only[YH,Vb] at e;obtain⟨ms,e1,e2⟩:=e;obtain⟨a,vs,rfl,_,rd,rs⟩:=yw e1 r;exact⟨a,vs,rfl,.inl (.inl rd),by rw[rs.length];exact Yam e2,μ,hh,σs,ms,σs',rel,rst,rs,e2,k⟩
  |_=>simp[qy] at h
theorem sGs{lo:Str->Bool}(hN:X.N=N)(hs:X.env.scope=sc)(nd:X.N.Nodup)(hc:X.calm=true)(hf:∀ x,lo x=true->X.fn x=true):∀(ts:List Tg)(es:List Expr),YT lo N sc ts es=true->PGs X es (lGs ct ts)
 |[],es,h=>by
  cases es with
  |nil =>
   refine PGs.imp zb3 λv σ H Q q=>?_;obtain⟨μ,hh,σs,ms,σs',rel,rst,rs,e,k⟩:=q;cases ms with
   |nil =>
    simp only[RVs] at rs;subst rs;simp[yC] at e;subst e;exact⟨rfl,k _ rst⟩
   |cons m ms=>simp[yC] at e
  |cons e es=>simp[YT] at h
 |t::ts,es,h=>by
  cases es with
  |nil=>simp[YT] at h
  |cons e es =>
   simp only[YT,xa] at h;refine PGs.imp (QbG (sG hN hs nd hc hf t e h.1) (sGs hN hs nd hc hf ts es h.2) (by rw[qab h.1 es X.env];rfl)) λv σ H Q q=>?_;obtain⟨μ,hh,σs,ms,σs',rel,rst,rs,e,k⟩:=q;cases ms with
   |nil=>simp[yC] at e
   |cons m ms =>
    simp only[yC,Vb] at e;obtain⟨σ1,e1,e2⟩:=e;simp only[RVs] at rs;obtain⟨v1,vr,rfl,r1,r2⟩:=rs;exact⟨v1,vr,rfl,μ,hh,σs,m,σ1,rel,rst,r1,e1,λσ' rst'=>⟨μ,hh,σ1,ms,σs',rel,rst',r2,e2,k⟩⟩
end
end
section
variable {ct:Tx} {X:Cx} {E:XK} {Pm:Prog} {n:Nat} {Ra:L2.St->Prop} {N:List Str} {sc:Scope}
theorem PI.imp{tg e:Expr}{t t':TI}(p:PI X tg e t)(k:∀ σ H Q,t' σ H Q->t σ H Q):PI X tg e t':=λpins s σ H Q I h=>p pins s σ H Q I (k σ H Q h)
noncomputable def Wk(ct:Tx)(J:It)(items:List MV)(g:yy)(μ1:List Addr)(h1:MH)(H1:Hp):Prop:=∀(i:Nat) μ h H,Ext μ1 h1 H1 μ h H->Rel ct μ h H->GuardOk g h ->
 (i<items.length->J.go i H/\∀ x H2,J.yld i H x H2->∃ m,items[i]?=some m/\Ext μ h H μ h H2/\Rel ct μ h H2/\RV ct μ (Liv μ h) H2 m x)/\(i=items.length->J.stop i H)
noncomputable def QbE(ct:Tx)(b:Bool)(a:Addr)(items:List MV)(g:yy)(μ1:List Addr)(h1:MH)(H1:Hp):Prop:=∀ μ h H,Ext μ1 h1 H1 μ h H->Rel ct μ h H->GuardOk g h->∃ vs,SqR ct H b a vs/\RVs ct μ (Liv μ h) H items vs
theorem Qag{μ:List Addr}{h:MH}{H:Hp}{m:MV}{v:V}{items:List MV}(rel:Rel ct μ h H)(e:zc h m=some items)(r:RV ct μ (Liv μ h) H m v):∃ b a,v=.ref a/\QbE ct b a items (yc h m) μ h H:=by
 cases m with
 |f x =>
  rcases Yw e with e'|e'|⟨ns,e',rfl⟩
  ·obtain⟨a,vs,rfl,na,rd,rs⟩:=yw e' r;exact⟨true,a,rfl,λμ' h' H' ex _ _=>⟨vs,SqT.of (ex.keep a _ rd na),rs.ext ex⟩⟩
  ·cases x with
   |lst xs =>
    simp only[RV,RF] at r;obtain⟨a,vs,rfl,na,rd,rs⟩:=r;cases e';exact⟨false,a,rfl,λμ' h' H' ex _ _=>⟨vs,.inl (Rd.keep (λo q=>ex.keep a o q na) rd),(RVs.ofF (μ:=μ) rs).ext ex⟩⟩
   |_=>cases e'
  ·cases e';simp only[RV,RF] at r;obtain⟨a,rfl,q⟩:=r;exact⟨false,a,rfl,λμ' h' H' ex _ _=>⟨_,zaJ (L:=Liv μ' h') (q.imp (λ⟨n,o,e⟩=>⟨ex.let.liv a _ e n,o,ex.keep a _ e n⟩) id),Z1 ns⟩⟩
 |tup xs =>
  rcases Yw e with e'|e'|⟨ns,e',_⟩
  ·obtain⟨a,vs,rfl,na,rd,rs⟩:=yw e' r;exact⟨true,a,rfl,λμ' h' H' ex _ _=>⟨vs,SqT.of (ex.keep a _ rd na),rs.ext ex⟩⟩
  ·cases e'
  ·cases e'
 |ref i =>
  have e0:Zb h i=some items:=e;simp only[RV] at r;obtain⟨b,eb,rfl⟩:=r;refine⟨false,b,rfl,λμ' h' H' ex rel' g=>?_⟩;have g':Zb h' i=some items:=g (i,items) (by simp[yc,e0]);obtain⟨b',vs,eb',hb,rs⟩:=rel'.lst g';obtain⟨ν,rfl⟩:=ex.pre;rw[va (Xa.mp eb).1,eb] at eb';cases eb';exact⟨vs,SqL.of hb,rs⟩
 |exc c=>cases e
theorem GuardOk.left{g g':yy}{h:MH}(k:GuardOk (g++g') h):GuardOk g h:=λp hp=>k p (ue _ hp)
theorem GuardOk.right{g g':yy}{h:MH}(k:GuardOk (g++g') h):GuardOk g' h:=λp hp=>k p (We _ hp)
theorem Zcn{K:PySem.W.Frag}(hK:K=ct.K){b:Bool}{a:Addr}{items:List MV}{g:yy}{μ1:List Addr}{h1:MH}{H1:Hp}(st:QbE ct b a items g μ1 h1 H1):Wk ct (Its K b a) items g μ1 h1 H1:=by
 intro i μ h H ex rel gd;obtain⟨vs,sq,rs⟩:=st μ h H ex rel gd;have hl:=rs.length;refine⟨λhi=>⟨Its.go (sq.s hK) (by lia),λx H2 y=>?_⟩,λhi=>?_⟩
 ·obtain⟨rfl,e⟩:=Its.yld (sq.s hK) y;obtain⟨m,em,rm⟩:=rs.get' e;exact⟨m,em,Ext.refl _ _ _,rel,rm⟩
 ·rw[hi,<- hl];exact Its.stop (sq.s hK)
theorem Qcf{K:PySem.W.Frag}(hK:K=ct.K){b1 b2:Bool}{a1 a2:Addr}{xs ys:List MV}{g g':yy}{μ1:List Addr}{h1:MH}{H1:Hp}(s1:QbE ct b1 a1 xs g μ1 h1 H1)(s2:QbE ct b2 a2 ys g' μ1 h1 H1) :
  Wk ct (Itz K b1 b2 a1 a2) ((xs.zip ys).map λp=>yf [p.1,p.2]) (g++g') μ1 h1 H1:=by
 intro i μ h H ex rel gd;obtain⟨vs,sq,rs⟩:=s1 μ h H ex rel (GuardOk.left gd);obtain⟨ws,sq',rs'⟩:=s2 μ h H ex rel (GuardOk.right gd);have hl:=rs.length;have hl':=rs'.length;refine⟨λhi=>?_,λhi=>?_⟩
 ·simp only[Wd,List.length_zip] at hi;refine⟨⟨vs,ws,sq.s hK,sq'.s hK,by lia,by lia⟩,λx H2 y=>?_⟩;obtain⟨T,x1,y1,rfl,hT,rfl,e1,e2⟩:=y;obtain⟨m1,em1,r1⟩:=rs.get' (e1 vs (sq.s hK));obtain⟨m2,em2,r2⟩:=rs'.get' (e2 ws (sq'.s hK));have exn:=Ext.new rel hT (.tup [x1,y1]);refine⟨yf [m1,m2],?_,exn,rel.new hT _,zH (qai rel hT) zf (RVs.cons (r1.ext exn) (RVs.cons (r2.ext exn) RVs.nil))⟩;simp only[xc,List.getElem?_zip_eq_some,Wc];exact⟨(m1,m2),⟨em1,em2⟩,rfl⟩
 ·simp only[Wd,List.length_zip] at hi;refine⟨vs,ws,sq.s hK,sq'.s hK,?_⟩
  lia
theorem QbW{K:PySem.W.Frag}(hK:K=ct.K){b:Bool}{a:Addr}{xs:List MV}{g:yy}{μ1:List Addr}{h1:MH}{H1:Hp}(s1:QbE ct b a xs g μ1 h1 H1):Wk ct (Ite K b a) (xs.mapIdx λk x=>yf [.f (.int k),x]) g μ1 h1 H1:=by
 intro i μ h H ex rel gd;obtain⟨vs,sq,rs⟩:=s1 μ h H ex rel gd;have hl:=rs.length;refine⟨λhi=>?_,λhi=>?_⟩
 ·simp only[XC] at hi;refine⟨⟨vs,sq.s hK,by lia⟩,λx H2 y=>?_⟩;obtain⟨T,x1,rfl,hT,rfl,e1⟩:=y;obtain⟨m1,em1,r1⟩:=rs.get' (e1 vs (sq.s hK));have exn:=Ext.new rel hT (.tup [.int i,x1]);refine⟨yf [.f (.int i),m1],?_,exn,rel.new hT _,zH (qai rel hT) zf (RVs.cons (QC _) (RVs.cons (r1.ext exn) RVs.nil))⟩;rw[Wm,em1];rfl
 ·simp only[XC] at hi;exact⟨vs,sq.s hK,by lia⟩
theorem Ycs{lo:Int}{k:Nat}{μ1:List Addr}{h1:MH}{H1:Hp}(f:Nat->Int)(hf:∀ i:Nat,f i=lo+i):Wk ct (Itr lo k) ((wc k).map λi=>MV.f (.int (f i))) [] μ1 h1 H1:=by
 intro i μ h H ex rel gd;refine⟨λhi=>?_,λhi=>?_⟩
 ·have hi':i<k:=by simpa using hi
  refine⟨hi',λx H2 y=>?_⟩;obtain⟨rfl,rfl⟩:=y;refine⟨.f (.int (f i)),by simp[hi'],Ext.refl _ _ _,rel,?_⟩;rw[hf];exact QC _
 ·have hi':i=k:=by simpa using hi
  exact Xo hi'.symm
noncomputable def lI(ct:Tx)(Ra:L2.St->Prop)(E:XK)(ev:MSt->MH->R (List MV))(it:String):TI:=λσ H R=>∃ μ h σs,Rel ct μ h H/\RelSt ct μ h H σ σs/\Ra σ /\
 Po ct E (ev σs h) μ h H λxs μ1 h1 H1=>∃ items g,itV it xs h1=some (items,g)/\Rel ct μ1 h1 H1/\∀ J,Wk ct J items g μ1 h1 H1->R J H1
theorem zch(hK:X.K=ct.K){tg e:Expr}{ev:MSt->MH->R MV}(h:PE X e (lE ct Ra E ev)):PI X tg e (lI ct Ra E (λσ hh=>(ev σ hh).bind λx h1=>.ok [x] h1) "seq"):=PI.imp (k_sq X.K h) λσ H Q q=>by
 obtain⟨μ,hh,σs,rel,rst,ra,p⟩:=q;refine lE.mk rel rst ra p λm v μ1 h1 H1 ex rel1 rst1 rv p1=>?_;obtain⟨items,g,e1,_,k⟩:=p1.now rel1;simp only[itV,Wc,Prod.mk.injEq] at e1;obtain⟨xs,e2,rfl,rfl⟩:=e1;obtain⟨b,a,rfl,st⟩:=Qag rel1 e2 rv;obtain⟨vs,sq,_⟩:=st μ1 h1 H1 (Ext.refl _ _ _) rel1 (λp hp=>by
  cases m with
  |ref i =>
   have e0:Zb h1 i=some xs:=e2;simp[yc,e0] at hp;subst hp;exact e0
  |f _=>simp[yc] at hp
  |tup _=>simp[yc] at hp
  |exc _=>simp[yc] at hp)
 exact⟨b,a,rfl,⟨vs,sq.s hK⟩,k _ (Zcn hK st)⟩
theorem Yab{h1:MH}{m:MV}{xs:List MV}(e2:zc h1 m=some xs):GuardOk (yc h1 m) h1:=λp hp=>by
 cases m with
 |ref i =>
  have e0:Zb h1 i=some xs:=e2;simp[yc,e0] at hp;subst hp;exact e0
 |f _=>simp[yc] at hp
 |tup _=>simp[yc] at hp
 |exc _=>simp[yc] at hp
theorem QbD{tg:Expr}{es:List Expr}{p pos:Pos}{ev:MSt->MH->R (List MV)}(hg:Gl X "range")(hm:X.mg "range"=none)(ha:PA X es (lA ct Ra E ev))(hpl:∀ e∈es,ya e=true)(hl:es.length=1)(hn:∀ σ h xs h',ev σ h=.ok xs h'->xs.length=es.length) :
  PI X tg (.Call (.Name "range" p) es [] pos) (lI ct Ra E ev "range"):=by
 rcases es with _|⟨a,_|⟨b,_|⟨c,_|⟨d,es⟩⟩⟩⟩
 ·simp at hl
 ·refine PI.imp (zbm hg hm ha (Zi hpl)) λσ H Q q=>?_;obtain⟨μ,hh,σs,rel,rst,ra,p⟩:=q;refine⟨μ,hh,σs,rel,rst,ra,?_⟩;cases er:ev σs hh with
  |exc c h'=>rw[er] at p;exact p
  |stuck=>rw[er] at p;exact p
  |ok xs h' =>
   rw[er] at p;have hx:=hn _ _ _ _ er;intro μ' H' ex rel' vs rvs;obtain⟨items,g,e1,_,k⟩:=p μ' H' ex rel'
   rcases xs with _|⟨m,_|⟨m2,xs⟩⟩
   ·simp at hx
   ·obtain⟨v,rfl,rm⟩:=Qv rvs;simp only[itV,Vb] at e1;obtain⟨j,e2,e3⟩:=e1;have:=Zh e2;subst this;split at e3
    next c =>
     simp only[Option.some.injEq,Prod.mk.injEq] at e3;obtain⟨rfl,rfl⟩:=e3;rw[zo rm];exact⟨j,rfl,c.1,c.2,k _ (Ycs _ λi=>by simp)⟩
    next=>cases e3
   ·simp at hx
 ·simp at hl
 ·simp at hl
 ·simp at hl
theorem qck(hK:X.K=ct.K){a b:Expr}{es:List Expr}{kt:Nat}{pt p pos:Pos}{ev:MSt->MH->R (List MV)}(hg:Gl X "zip")(hm:X.mg "zip"=none)(ha:PA X [a,b] (lA ct Ra E ev))(hpl:∀ e∈[a,b],ya e=true)(hn:∀ σ h xs h',ev σ h=.ok xs h'->xs.length=2) :
  PI X (.Tuple es kt pt) (.Call (.Name "zip" p) [a,b] [] pos) (lI ct Ra E ev "zip"):=by
 refine PI.imp (k_zip X.K hg hm ha (Zi hpl) (Zi λe he=>hpl e (by simp at he;simp[he]))) λσ H Q q=>?_;obtain⟨μ,hh,σs,rel,rst,ra,p⟩:=q;refine⟨μ,hh,σs,rel,rst,ra,?_⟩;cases er:ev σs hh with
 |exc c h'=>rw[er] at p;exact p
 |stuck=>rw[er] at p;exact p
 |ok xs h' =>
  rw[er] at p;have hx:=hn _ _ _ _ er;intro μ' H' ex rel' vs rvs;obtain⟨items,g,e1,_,k⟩:=p μ' H' ex rel'
  rcases xs with _|⟨m,_|⟨m2,_|⟨m3,xs⟩⟩⟩
  ·simp at hx
  ·simp at hx
  ·obtain⟨v,v',rfl,rm,rm'⟩:=zaj rvs;simp only[itV,Vb,Wc,Prod.mk.injEq] at e1;obtain⟨us,e2,ws,e3,rfl,rfl⟩:=e1;obtain⟨b1,a1,rfl,s1⟩:=Qag rel' e2 rm;obtain⟨b2,a2,rfl,s2⟩:=Qag rel' e3 rm';obtain⟨vs1,q1,_⟩:=s1 _ _ _ (Ext.refl _ _ _) rel' (Yab e2);obtain⟨vs2,q2,_⟩:=s2 _ _ _ (Ext.refl _ _ _) rel' (Yab e3);exact⟨b1,b2,a1,a2,rfl,⟨vs1,q1.s hK⟩,⟨vs2,q2.s hK⟩,k _ (Qcf hK s1 s2)⟩
  ·simp at hx
theorem qbY(hK:X.K=ct.K){a:Expr}{es:List Expr}{kt:Nat}{pt p pos:Pos}{ev:MSt->MH->R (List MV)}(hg:Gl X "enumerate")(hm:X.mg "enumerate"=none)(ha:PA X [a] (lA ct Ra E ev))(hpl:∀ e∈[a],ya e=true)(hn:∀ σ h xs h',ev σ h=.ok xs h'->xs.length=1) :
  PI X (.Tuple es kt pt) (.Call (.Name "enumerate" p) [a] [] pos) (lI ct Ra E ev "enumerate"):=by
 refine PI.imp (zcb X.K hg hm ha (Zi hpl)) λσ H Q q=>?_;obtain⟨μ,hh,σs,rel,rst,ra,p⟩:=q;refine⟨μ,hh,σs,rel,rst,ra,?_⟩;cases er:ev σs hh with
 |exc c h'=>rw[er] at p;exact p
 |stuck=>rw[er] at p;exact p
 |ok xs h' =>
  rw[er] at p;have hx:=hn _ _ _ _ er;intro μ' H' ex rel' vs rvs;obtain⟨items,g,e1,_,k⟩:=p μ' H' ex rel'
  rcases xs with _|⟨m,_|⟨m2,xs⟩⟩
  ·simp at hx
  ·obtain⟨v,rfl,rm⟩:=Qv rvs;simp only[itV,Wc,Prod.mk.injEq] at e1;obtain⟨us,e2,rfl,rfl⟩:=e1;obtain⟨b1,a1,rfl,s1⟩:=Qag rel' e2 rm;obtain⟨vs1,q1,_⟩:=s1 _ _ _ (Ext.refl _ _ _) rel' (Yab e2);exact⟨b1,a1,rfl,⟨vs1,q1.s hK⟩,k _ (QbW hK s1)⟩
  ·simp at hx
end
theorem ZK{a b:String}(h:Str.ofString a=Str.ofString b):a=b:=by
 rw[Str.ofString_eq_toList,Str.ofString_eq_toList] at h;injection h with h
 have h2:a.toList.map Char.toNat=b.toList.map Char.toNat:=by simpa using congrArg XB h
 have h3:a.toList=b.toList:=by
  refine(List.map_inj_right λx y e=>?_).mp h2;exact Char.ext (UInt32.toNat_inj.mp e)
 exact String.ext h3
section
variable {ct:Tx} {X:Cx} {E:XK} {Pm:Prog} {n:Nat} {Ra:L2.St->Prop} {N:List Str} {sc:Scope}
noncomputable def tst(ev:MSt->MH->R MV):MSt->MH->R Bool:=λσ h=>(ev σ h).bind λx h1=>opt (qF x) λk=>.ok k h1
theorem zbI{ev:MSt->MH->R MV}{σ:L2.St}{H:Hp}{Q:Bool->Hp->Prop}(q:lT ct Ra E (tst ev) σ H Q):lE ct Ra E ev σ H λx H'=>∃ k,x=.bl k/\Q k H':=by
 obtain⟨μ,h,σs,rel,rst,ra,p⟩:=q;refine lE.mk rel rst ra p λm v μ1 h1 H1 ex rel1 rst1 rv p1=>?_;obtain⟨k,e,p2⟩:=Po.opt p1;have:=Yah e;subst this;exact⟨k,QaA rv,p2.now rel1⟩
theorem yR{e:Expr}{t:TE}{ev:MSt->MH->R MV}(p:PE X e t)(pt:PT X e (QbL t))(k:∀ σ H Q,lE ct Ra E ev σ H Q->t σ H Q):PE X e (lE ct Ra E ev)/\PT X e (lT ct Ra E (tst ev)) :=
 ⟨PE.imp p k,PT.imp pt λσ H Q q=>k σ H _ (zbI q)⟩
theorem qd{e:Expr}{ev:MSt->MH->R MV}(p:PE X e (lE ct Ra E ev))(he:∀ whole,isTrue e X.env whole=(do let v<-whole;standAt e.pos;holding [v] (truthy v)):=by intro _;rfl):PE X e (lE ct Ra E ev)/\PT X e (lT ct Ra E (tst ev)) :=
 ⟨p,PT.imp (Qa5 p he) λσ H Q q=>zbI q⟩
section
variable {ea eb ec:MSt->MH->R MV} {a b c:Expr} {pos:Pos}
theorem Zai{v:V}{x:FV}(h:PE X a (tC v))(r:∀ μ L H,RV ct μ L H (.f x) v):PE X a (lE ct Ra E λ_ h=>.ok (.f x) h):=PE.imp h λσ H Q q=>by
 obtain⟨μ,hh,σs,rel,rst,ra,p⟩:=q;exact p.now rel v (r _ _ _)
theorem e_var{i:Nat}{x:Str}(hN:X.N[i]?=some x)(hv:YaQ X.env.scope x=true):PE X (.Name x pos) (lE ct Ra E λσ h=>opt ((σ[i]?).join) λv=>.ok v h):=by
 unfold YaQ at hv;simp only[xa,Xk,beq_iff_eq,uj] at hv;refine PE.imp (Ya2 hN (by rcases hv.1.1 with (h|h)|h;exact .inl h;exact .inr (.inl h);exact .inr (.inr h)) hv.1.2 hv.2) λσ H Q q=>?_;obtain⟨μ,hh,σs,rel,rst,ra,p⟩:=q;obtain⟨m,e,p⟩:=Po.opt p;have e':σs[i]?=some (some m):=by
  cases q:σs[i]? with
  |none=>rw[q] at e;cases e
  |some z=>rw[q] at e;exact congrArg some e
 obtain⟨v,e2,rv⟩:=rst.at_ i m e';exact⟨v,e2,p.now rel v rv⟩
theorem e_bin(fz:Bool)(op:BO)(ha:PE X a (lE ct Ra E ea))(hb:PE X b (lE ct Ra E eb)):PE X (.BinOp a (mOp op) b pos) (lE ct Ra E λσ h=>(ea σ h).bind λx h1=>(eb σ h1).bind λy h2=>yh fz op x y h2) :=
 PE.imp (ZaY (Qcm (ct:=ct) (E:=E) fz op) ha hb) λσ H Q q=>by
  obtain⟨μ,h,σs,rel,rst,ra,p⟩:=q;exact lE.mk rel rst ra p λm v μ1 h1 H1 ex rel1 rst1 rv p1=>lE.mk rel1 rst1 ra p1 λm2 v2 μ2 h2 H2 ex2 rel2 rst2 rv2 p2=>⟨μ2,h2,m,m2,rel2,rv.ext ex2,rv2,p2⟩
theorem e_neg(ha:PE X a (lE ct Ra E ea)):PE X (.UnaryOp .USub a pos) (lE ct Ra E λσ h=>(ea σ h).bind λx h1=>opt (Yd x) λi=>.ok (.f (.int (-i))) h1) :=
 PE.imp (pe_un qce ha) λσ H Q q=>by
  obtain⟨μ,h,σs,rel,rst,ra,p⟩:=q;refine lE.mk rel rst ra p λm v μ1 h1 H1 ex rel1 rst1 rv p1=>?_;obtain⟨i,e,p2⟩:=Po.opt p1;have:=Zh e;subst this;exact⟨i,zo rv,p2.now rel1 _ (QC _)⟩
theorem e_cmp(hK:X.K=ct.K)(op:CO)(hu:X.A.units+65<cLine)(ha:PE X a (lE ct Ra E ea))(hb:PE X b (lE ct Ra E eb))(hp:ya b=true) :
  PE X (.Compare a [Yac op] [b] pos) (lE ct Ra E λσ h=>(ea σ h).bind λx h1=>(eb σ h1).bind λy h2=>opt (Yv op x y h2) λk=>.ok (.f (.bl k)) h2) /\
  PT X (.Compare a [Yac op] [b] pos) (lT ct Ra E (tst λσ h=>(ea σ h).bind λx h1=>(eb σ h1).bind λy h2=>opt (Yv op x y h2) λk=>.ok (.f (.bl k)) h2)) :=
 yR (QaH (Z8 (ct:=ct) hK hu op) ha hb (Zu hp _)) (yai (Z8 (ct:=ct) hK hu op) ha hb (Zu hp _)) λσ H Q q=>by
  obtain⟨μ,h,σs,rel,rst,ra,p⟩:=q;refine lE.mk rel rst ra p λm v μ1 h1 H1 ex rel1 rst1 rv p1=>lE.mk rel1 rst1 ra p1 λm2 v2 μ2 h2 H2 ex2 rel2 rst2 rv2 p2=>?_;obtain⟨k,e,p3⟩:=Po.opt p2;exact⟨μ2,h2,m,m2,k,rel2,rv.ext ex2,rv2,e,p3.now rel2 _ (zv _)⟩
theorem zbV(hK:X.K=ct.K)(op op':CO)(hu:X.A.units+65<cLine)(ha:PE X a (lE ct Ra E ea))(hb:PE X b (lE ct Ra E eb))(hc:PE X c (lE ct Ra E ec))(hp:ya c=true) :
  PE X (.Compare a [Yac op,Yac op'] [b,c] pos) (lE ct Ra E λσ h=>(ea σ h).bind λx h1=>(eb σ h1).bind λy h2=>opt (Yv op x y h2) λk=>if k=true then(ec σ h2).bind λz h3=>opt (Yv op' y z h3) λk=>.ok (.f (.bl k)) h3 else .ok (.f (.bl false)) h2) /\
  PT X (.Compare a [Yac op,Yac op'] [b,c] pos) (lT ct Ra E (tst λσ h=>(ea σ h).bind λx h1=>(eb σ h1).bind λy h2=>opt (Yv op x y h2) λk=>if k=true then(ec σ h2).bind λz h3=>opt (Yv op' y z h3) λk=>.ok (.f (.bl k)) h3 else .ok (.f (.bl false)) h2)) :=
 yR (ybK (Z8 (ct:=ct) hK hu op) (Z8 (ct:=ct) hK hu op') ha hb hc (Zu hp _)) (ybP (Z8 (ct:=ct) hK hu op) (Z8 (ct:=ct) hK hu op') ha hb hc (Zu hp _)) λσ H Q q=>by
  obtain⟨μ,h,σs,rel,rst,ra,p⟩:=q;refine lE.mk rel rst ra p λm v μ1 h1 H1 ex rel1 rst1 rv p1=>lE.mk rel1 rst1 ra p1 λm2 v2 μ2 h2 H2 ex2 rel2 rst2 rv2 p2=>?_;obtain⟨k,e,p3⟩:=Po.opt p2;refine⟨μ2,h2,m,m2,k,rel2,rv.ext ex2,rv2,e,k,rfl,?_⟩;cases k with
  |false=>exact p3.now rel2 _ (zv _)
  |true =>
   refine lE.mk rel2 rst2 ra p3 λm3 v3 μ3 h3 H3 ex3 rel3 rst3 rv3 p4=>?_;obtain⟨k',e',p5⟩:=Po.opt p4;exact⟨μ3,h3,m2,m3,k',rel3,rv2.ext ex3,rv3,e',p5.now rel3 _ (zv _)⟩
theorem Za3{μ:List Addr}{L:Addr->Prop}{H:Hp}{m:MV}{v:V}(r:RV ct μ L H m v):Yr m=decide (v=.non):=by
 cases m with
 |f x =>
  cases x with
  |non=>simp only[RV,RF] at r;subst r;rfl
  |bl _=>simp only[RV,RF] at r;subst r;rfl
  |int _=>simp only[RV,RF] at r;subst r;rfl
  |str _=>simp only[RV,RF] at r;subst r;rfl
  |tup _=>simp only[RV,RF] at r;obtain⟨_,_,rfl,_⟩:=r;rfl
  |lst _=>simp only[RV,RF] at r;obtain⟨_,_,rfl,_⟩:=r;rfl
  |obj _ _ _=>simp only[RV,RF] at r;obtain⟨_,_,_,rfl,_⟩:=r;rfl
  |scr _=>simp only[RV,RF] at r;obtain⟨_,rfl,_⟩:=r;rfl
  |tab _=>simp only[RV,RF] at r;obtain⟨_,_,rfl,_⟩:=r;rfl
  |msk _=>simp only[RV,RF] at r;obtain⟨_,_,rfl,_⟩:=r;rfl
 |ref _=>simp only[RV] at r;obtain⟨_,_,rfl⟩:=r;rfl
 |tup _=>simp only[RV] at r;obtain⟨_,_,rfl,_⟩:=r;rfl
 |exc _=>simp only[RV] at r;obtain⟨_,rfl,_⟩:=r;rfl
theorem e_isN{j:Nat}{p2:Pos}(ha:PE X a (lE ct Ra E ea)) :
  PE X (.Compare a [.Is] [.Constant .none j p2] pos) (lE ct Ra E λσ h=>(ea σ h).bind λx h1=>.ok (.f (.bl (Yr x))) h1) /\
  PT X (.Compare a [.Is] [.Constant .none j p2] pos) (lT ct Ra E (tst λσ h=>(ea σ h).bind λx h1=>.ok (.f (.bl (Yr x))) h1)) :=
 yR (zbH (ZbH ha)) (qbN (ZbH ha)) λσ H Q q=>by
  obtain⟨μ,h,σs,rel,rst,ra,p⟩:=q;refine lE.mk rel rst ra p λm v μ1 h1 H1 ex rel1 rst1 rv p1=>?_;rw[<- Za3 rv];exact p1.now rel1 _ (zv _)
theorem qcs{j:Nat}{p2:Pos}(ha:PE X a (lE ct Ra E ea)) :
  PE X (.Compare a [.IsNot] [.Constant .none j p2] pos) (lE ct Ra E λσ h=>(ea σ h).bind λx h1=>.ok (.f (.bl (!Yr x))) h1) /\
  PT X (.Compare a [.IsNot] [.Constant .none j p2] pos) (lT ct Ra E (tst λσ h=>(ea σ h).bind λx h1=>.ok (.f (.bl (!Yr x))) h1)) :=
 yR (zbH (qbh ha)) (qbN (qbh ha)) λσ H Q q=>by
  obtain⟨μ,h,σs,rel,rst,ra,p⟩:=q;refine lE.mk rel rst ra p λm v μ1 h1 H1 ex rel1 rst1 rv p1=>?_;rw[<- Za3 rv];exact p1.now rel1 _ (zv _)
theorem e_not(ha:PE X a (lE ct Ra E ea))(ta:PT X a (lT ct Ra E (tst ea))) :
  PE X (.UnaryOp .Not a pos) (lE ct Ra E λσ h=>(ea σ h).bind λx h1=>opt (qF x) λk=>.ok (.f (.bl (!k))) h1) /\
  PT X (.UnaryOp .Not a pos) (lT ct Ra E (tst λσ h=>(ea σ h).bind λx h1=>opt (qF x) λk=>.ok (.f (.bl (!k))) h1)):=by
 refine⟨PE.imp (Yca ha) λσ H Q q=>?_,PT.imp (ZbA ta) λσ H Q q=>?_⟩
 ·obtain⟨μ,h,σs,rel,rst,ra,p⟩:=q;refine lE.mk rel rst ra p λm v μ1 h1 H1 ex rel1 rst1 rv p1=>?_;obtain⟨k,e,p2⟩:=Po.opt p1;have:=Yah e;subst this;exact⟨k,QaA rv,p2.now rel1 _ (zv _)⟩
 ·obtain⟨μ,h,σs,rel,rst,ra,p⟩:=q;refine⟨μ,h,σs,rel,rst,ra,?_⟩;dsimp only[tst] at p ⊢;cases er:ea σs h with
  |stuck=>rw[er] at p;exact p
  |exc c h'=>rw[er] at p;exact p
  |ok x h' =>
   rw[er] at p;simp only[R.bind_ok] at p ⊢;cases eb:qF x with
   |none=>rw[eb] at p;exact p
   |some k =>
    rw[eb] at p;exact p
theorem e_ite(tc:PT X c (lT ct Ra E (tst ec)))(ha:PE X a (lE ct Ra E ea))(hb:PE X b (lE ct Ra E eb)) :
  PE X (.IfExp c a b pos) (lE ct Ra E λσ h=>(ec σ h).bind λx h1=>opt (qF x) λk=>if k=true then ea σ h1 else eb σ h1) :=
 PE.imp (QbO tc ha hb) λσ H Q q=>by
  obtain⟨μ,h,σs,rel,rst,ra,p⟩:=q;have p':Po ct E ((tst ec σs h).bind λk h1=>if k=true then ea σs h1 else eb σs h1) μ h H (kV ct Q):=by
   dsimp only[tst] at p ⊢;cases er:ec σs h with
   |stuck=>rw[er] at p;exact p
   |exc c h'=>rw[er] at p;exact p
   |ok x h' =>
    rw[er] at p;simp only[R.bind_ok] at p ⊢;cases eb:qF x with
    |none=>rw[eb] at p;exact p
    |some k=>rw[eb] at p;exact p
  refine lT.mk rel rst ra p' λk μ1 h1 H1 ex rel1 rst1 p1=>?_;cases k with
  |true=>exact⟨μ1,h1,σs,rel1,rst1,ra,p1⟩
  |false=>exact⟨μ1,h1,σs,rel1,rst1,ra,p1⟩
theorem e_frz(ha:PE X a (lE ct Ra E ea)):PE X a (lE ct Ra E λσ h=>(ea σ h).bind λx h1=>zL x h1):=PE.imp ha λσ H Q q=>by
 obtain⟨μ,h,σs,rel,rst,ra,p⟩:=q;refine lE.mk rel rst ra p λm v μ1 h1 H1 ex rel1 rst1 rv p1=>?_;obtain⟨x,h',ex',rel',rv',k⟩:=QbA rel1 rv p1;exact k v rv'
theorem e_sub(hK:X.K=ct.K)(ha:PE X a (lE ct Ra E ea))(hb:PE X b (lE ct Ra E eb))(hp:ya b=true) :
  PE X (.Subscript a b pos) (lE ct Ra E λσ h=>(ea σ h).bind λx h1=>(eb σ h1).bind λy h2=>opt (zc h2 x) λxs=>opt (Yd y) λk=>opt (atM xs k) λv=>.ok v h2) :=
 PE.imp (zaW (YbX (ct:=ct) hK) ha hb (yaV hp)) λσ H Q q=>by
  obtain⟨μ,h,σs,rel,rst,ra,p⟩:=q;refine lE.mk rel rst ra p λm v μ1 h1 H1 ex rel1 rst1 rv p1=>lE.mk rel1 rst1 ra p1 λm2 v2 μ2 h2 H2 ex2 rel2 rst2 rv2 p2=>?_;obtain⟨xs,e1,p3⟩:=Po.opt p2;obtain⟨k,e2,p4⟩:=Po.opt p3;obtain⟨w,e3,p5⟩:=Po.opt p4;have:=Zh e2;subst this;exact⟨μ2,h2,m,k,xs,w,rel2,rv.ext ex2,zo rv2,e1,e3,p5.now rel2⟩
end
end
section
variable {ct:Tx} {X:Cx} {E:XK} {Pm:Prog} {n:Nat} {Ra:L2.St->Prop} {N:List Str} {sc:Scope}
noncomputable def Bo(ct:Tx)(X:Cx)(Ra:L2.St->Prop)(E:XK)(Pm:Prog)(n:Nat):List ME->List Expr->Prop
 |[],[]=>True
 |m::ms,e::es=>(ya e=true/\PE X e (lE ct Ra E (qa Pm (run Pm n) m))/\(okT m=true->PT X e (lT ct Ra E (tst (qa Pm (run Pm n) m)))))/\Bo ct X Ra E Pm n ms es
 |_,_=>False
theorem Bo.pa:∀{ms:List ME}{es:List Expr},Bo ct X Ra E Pm n ms es->PA X es (lA ct Ra E (qg Pm (run Pm n) ms))
 |[],[],_=>PA.imp Qk λσ H Q q=>by
  obtain⟨μ,h,σs,rel,rst,ra,p⟩:=q;simp only[qg] at p;exact p.now rel [] RVs.nil
 |[],_::_,b=>b.elim
 |_::_,[],b=>b.elim
 |m::ms,e::es,b=>PA.imp (Yb b.1.2.1 (Bo.pa b.2) (yk b.1.1)) λσ H Q q=>by
  obtain⟨μ,h,σs,rel,rst,ra,p⟩:=q;simp only[qg] at p;refine lE.mk rel rst ra p λm' v μ1 h1 H1 ex rel1 rst1 rv p1=>?_;refine lA.mk rel1 rst1 ra p1 λms' vs μ2 h2 H2 ex2 rel2 rst2 rvs p2=>?_;exact p2.now rel2 _ (RVs.cons (rv.ext ex2) rvs)
theorem Bo.plain:∀{ms:List ME}{es:List Expr},Bo ct X Ra E Pm n ms es->∀ e∈es,ya e=true
 |[],[],_,e,he=>by simp at he
 |[],_::_,b,_,_=>b.elim
 |_::_,[],b,_,_=>b.elim
 |m::ms,e::es,b,x,hx=>by
  rcases ua.mp hx with rfl|hx
  ·exact b.1.1
  ·exact Bo.plain b.2 x hx
theorem Bo.length:∀{ms:List ME}{es:List Expr},Bo ct X Ra E Pm n ms es->ms.length=es.length
 |[],[],_=>rfl
 |[],_::_,b=>b.elim
 |_::_,[],b=>b.elim
 |m::ms,e::es,b=>by simp[Bo.length b.2]
theorem zB{W:String->List MV->MH->R MV}:∀{ms:List ME}{σ:MSt}{h:MH}{xs:List MV}{h':MH},qg Pm W ms σ h=.ok xs h'->xs.length=ms.length
 |[],σ,h,xs,h',e=>by simp only[qg,R.ok.injEq] at e;simp[<- e.1]
 |m::ms,σ,h,xs,h',e=>by
  simp only[qg] at e;cases e1:qa Pm W m σ h with
  |stuck=>rw[e1] at e;cases e
  |exc c h2=>rw[e1] at e;cases e
  |ok x h1 =>
   rw[e1] at e;simp only[R.bind_ok] at e;cases e2:qg Pm W ms σ h1 with
   |stuck=>rw[e2] at e;cases e
   |exc c h2=>rw[e2] at e;cases e
   |ok ys h2 =>
    rw[e2] at e;simp only[R.bind_ok,R.ok.injEq] at e;rw[<- e.1,Xd,Xd,zB e2]
theorem Qb7{pos:Pos}:∀{ms:List ME}{es:List Expr},Bo ct X Ra E Pm n ms es->ms.all okT=true->PE X (.BoolOp .And es pos) (lE ct Ra E (qq Pm (run Pm n) ms))/\PW X (.BoolOp .And es pos) (lT ct Ra E (tst (qq Pm (run Pm n) ms)))
 |[],[],_,_=>⟨λpins s σ H Q I q=>by
   obtain⟨μ,h,σs,rel,rst,ra,p⟩:=q;simp only[qq] at p;exact p.elim,λwh pins s σ H Q I q=>by
   obtain⟨μ,h,σs,rel,rst,ra,p⟩:=q;simp only[tst,qq] at p;exact p.elim⟩
 |[],_::_,b,_=>b.elim
 |_::_,[],b,_=>b.elim
 |[m],[e],b,ht=>by
  simp at ht;refine⟨PE.imp (QbI b.1.2.1) λσ H Q q=>?_,PW.imp (QbT (b.1.2.2 ht)) λσ H Q q=>?_⟩
  ·simpa only[qq] using q
  ·have:qq Pm (run Pm n) [m]=qa Pm (run Pm n) m:=by funext σ h;simp only[qq]
   rw[this] at q;exact q
 |[m],_::_::_,b,_=>b.2.elim
 |_::_::_,[_],b,_=>b.2.elim
 |m::m'::ms,e::e'::es,b,ht=>by
  have ht':okT m=true/\(m'::ms).all okT=true:=by simpa using ht
  obtain⟨i1,i2⟩:=Qb7 (ms:=m'::ms) (es:=e'::es) (pos:=pos) b.2 ht'.2;refine⟨PE.imp (qcg b.1.2.1 i1) λσ H Q q=>?_,PW.imp (qcj (b.1.2.2 ht'.1) i2) λσ H Q q=>?_⟩
  ·obtain⟨μ,h,σs,rel,rst,ra,p⟩:=q;simp only[qq] at p;refine lE.mk rel rst ra p λx v μ1 h1 H1 ex rel1 rst1 rv p1=>?_;obtain⟨k,ek,p2⟩:=Po.opt p1;have:=Yah ek;subst this;refine⟨k,QaA rv,?_⟩;cases k with
   |true=>exact⟨μ1,h1,σs,rel1,rst1,ra,p2⟩
   |false=>exact p2.now rel1 _ (zv _)
  ·obtain⟨μ,h,σs,rel,rst,ra,p⟩:=q;have p':Po ct E ((tst (qa Pm (run Pm n) m) σs h).bind λk h1=>if k=true then tst (qq Pm (run Pm n) (m'::ms)) σs h1 else .ok false h1) μ h H (λb _ _ H'=>Q b H'):=by
    simp only[tst,qq] at p ⊢;cases er:qa Pm (run Pm n) m σs h with
    |stuck=>rw[er] at p;exact p
    |exc c h'=>rw[er] at p;exact p
    |ok x h' =>
     rw[er] at p;simp only[R.bind_ok] at p ⊢;cases eb:qF x with
     |none=>rw[eb] at p;exact p
     |some k =>
      rw[eb] at p;cases k with
      |true=>exact p
      |false=>exact p
   refine lT.mk rel rst ra p' λk μ1 h1 H1 ex rel1 rst1 p1=>?_;cases k with
   |true=>exact⟨μ1,h1,σs,rel1,rst1,ra,p1⟩
   |false=>exact p1.now rel1
theorem e_or{pos:Pos}:∀{ms:List ME}{es:List Expr},Bo ct X Ra E Pm n ms es->ms.all okT=true->PE X (.BoolOp .Or es pos) (lE ct Ra E (Zx Pm (run Pm n) ms))/\PW X (.BoolOp .Or es pos) (lT ct Ra E (tst (Zx Pm (run Pm n) ms)))
 |[],[],_,_=>⟨λpins s σ H Q I q=>by
   obtain⟨μ,h,σs,rel,rst,ra,p⟩:=q;simp only[Zx] at p;exact p.elim,λwh pins s σ H Q I q=>by
   obtain⟨μ,h,σs,rel,rst,ra,p⟩:=q;simp only[tst,Zx] at p;exact p.elim⟩
 |[],_::_,b,_=>b.elim
 |_::_,[],b,_=>b.elim
 |[m],[e],b,ht=>by
  simp at ht;refine⟨PE.imp (QbI b.1.2.1) λσ H Q q=>?_,PW.imp (Yby (b.1.2.2 ht)) λσ H Q q=>?_⟩
  ·simpa only[Zx] using q
  ·have:Zx Pm (run Pm n) [m]=qa Pm (run Pm n) m:=by funext σ h;simp only[Zx]
   rw[this] at q;exact q
 |[m],_::_::_,b,_=>b.2.elim
 |_::_::_,[_],b,_=>b.2.elim
 |m::m'::ms,e::e'::es,b,ht=>by
  have ht':okT m=true/\(m'::ms).all okT=true:=by simpa using ht
  obtain⟨i1,i2⟩:=e_or (ms:=m'::ms) (es:=e'::es) (pos:=pos) b.2 ht'.2;refine⟨PE.imp (pe_or b.1.2.1 i1) λσ H Q q=>?_,PW.imp (qb8 (b.1.2.2 ht'.1) i2) λσ H Q q=>?_⟩
  ·obtain⟨μ,h,σs,rel,rst,ra,p⟩:=q;simp only[Zx] at p;refine lE.mk rel rst ra p λx v μ1 h1 H1 ex rel1 rst1 rv p1=>?_;obtain⟨k,ek,p2⟩:=Po.opt p1;have:=Yah ek;subst this;refine⟨k,QaA rv,?_⟩;cases k with
   |false=>exact⟨μ1,h1,σs,rel1,rst1,ra,p2⟩
   |true=>exact p2.now rel1 _ (zv _)
  ·obtain⟨μ,h,σs,rel,rst,ra,p⟩:=q;have p':Po ct E ((tst (qa Pm (run Pm n) m) σs h).bind λk h1=>if k=true then .ok true h1 else tst (Zx Pm (run Pm n) (m'::ms)) σs h1) μ h H (λb _ _ H'=>Q b H'):=by
    simp only[tst,Zx] at p ⊢;cases er:qa Pm (run Pm n) m σs h with
    |stuck=>rw[er] at p;exact p
    |exc c h'=>rw[er] at p;exact p
    |ok x h' =>
     rw[er] at p;simp only[R.bind_ok] at p ⊢;cases eb:qF x with
     |none=>rw[eb] at p;exact p
     |some k =>
      rw[eb] at p;cases k with
      |true=>exact p
      |false=>exact p
   refine lT.mk rel rst ra p' λk μ1 h1 H1 ex rel1 rst1 p1=>?_;cases k with
   |false=>exact⟨μ1,h1,σs,rel1,rst1,ra,p1⟩
   |true=>exact p1.now rel1
section
variable {ea:MSt->MH->R MV} {es:List Expr} {ev:MSt->MH->R (List MV)} {a:Expr} {pos:Pos}
theorem e_tup{k:Nat}(ha:PA X es (lA ct Ra E ev))(hl:∀ σ h xs h',ev σ h=.ok xs h'->xs.length<=sizeLine):PE X (.Tuple es k pos) (lE ct Ra E λσ h=>(ev σ h).bind λxs h1=>.ok (yf xs) h1):=PE.imp (Zcc ha) λσ H Q q=>by
 obtain⟨μ,h,σs,rel,rst,ra,p⟩:=q;refine⟨μ,h,σs,rel,rst,ra,?_⟩;dsimp only at p;cases er:ev σs h with
 |stuck=>rw[er] at p;exact p
 |exc c h'=>rw[er] at p;exact p
 |ok xs h' =>
  rw[er] at p;intro μ1 H1 ex rel1 vs rvs;exact⟨by rw[rvs.length];exact hl _ _ _ _ er,Z3 rel1 rvs (Po.start ex p)⟩
theorem e_lst(fz:Bool)(ha:PA X es (lA ct Ra E ev))(hl:∀ σ h xs h',ev σ h=.ok xs h'->xs.length<=sizeLine):PE X (.List es pos) (lE ct Ra E λσ h=>(ev σ h).bind λxs h1=>yu fz xs h1):=PE.imp (qam ha) λσ H Q q=>by
 obtain⟨μ,h,σs,rel,rst,ra,p⟩:=q;refine⟨μ,h,σs,rel,rst,ra,?_⟩;dsimp only at p;cases er:ev σs h with
 |stuck=>rw[er] at p;exact p
 |exc c h'=>rw[er] at p;exact p
 |ok xs h' =>
  rw[er] at p;intro μ1 H1 ex rel1 vs rvs;exact⟨by rw[rvs.length];exact hl _ _ _ _ er,yE rel1 rvs (Po.start ex p)⟩
theorem PO.imp{e:Option Expr}{t t':TO}(p:PO X e t)(k:∀ σ H Q,t' σ H Q->t σ H Q):PO X e t':=λpins s σ H Q I h=>p pins s σ H Q I (k σ H Q h)
theorem zbU(hK:X.K=ct.K)(fz:Bool){lo hi:Option Expr}{el eh:MSt->MH->R (Option Int)}{p2:Pos}(ha:PE X a (lE ct Ra E ea))(hl:PO X lo (lO ct Ra E el))(hh:PO X hi (lO ct Ra E eh)) :
  PE X (.Subscript a (.Slice lo hi none p2) pos) (lE ct Ra E λσ h=>(ea σ h).bind λx h1=>(el σ h1).bind λl h2=>(eh σ h2).bind λu h3=>yab fz x l u h3) :=
 PE.imp (ybM (QbZ (ct:=ct) (E:=E) hK fz) ha hl hh) λσ H Q q=>by
  obtain⟨μ,h,σs,rel,rst,ra,p⟩:=q;refine lE.mk rel rst ra p λm v μ1 h1 H1 ex rel1 rst1 rv p1=>?_;refine lO.mk rel1 rst1 ra p1 λl μ2 h2 H2 ex2 rel2 rst2 p2=>?_;refine lO.mk rel2 rst2 ra p2 λu μ3 h3 H3 ex3 rel3 rst3 p3=>?_;exact⟨μ3,h3,m,rel3,(rv.ext ex2).ext ex3,p3⟩
theorem Qbh{L:Addr->Prop}{H:Hp}{f:String}:∀{ns:List String}{xs:List FV}{fs:List (Str×V)} {x:FV},fs.map vt=ns.map Str.ofString->RFs ct L H xs (fs.map wm)->qaq f ns xs=some x->∃ v,fs.lookup (Str.ofString f)=some v/\RF ct L H x v
 |[],_,_,_,_,_,e=>by simp[qaq] at e
 |_::_,[],_,_,_,_,e=>by simp[qaq] at e
 |m::ns,y::xs,fs,x,h1,h2,e=>by
  cases fs with
  |nil=>simp at h1
  |cons p fs =>
   obtain⟨k,u⟩:=p;simp only[Xb,List.cons.injEq] at h1;simp only[Xb,RFs] at h2;obtain⟨v,r,hvr,r1,r2⟩:=h2;simp only[List.cons.injEq] at hvr;obtain⟨rfl,rfl⟩:=hvr;simp only[qaq] at e;by_cases hf:f=m
   ·subst hf;simp at e;subst e;exact⟨u,by simp[xb,h1.1],r1⟩
   ·rw[if_neg hf] at e;obtain⟨w,q1,q2⟩:=Qbh h1.2 r2 e;refine⟨w,?_,q2⟩;have:(Str.ofString f==k)=false:=by
     rw[h1.1];exact beq_false_of_ne λz=>hf (ZK z)
    simp[xb,this,q1]
theorem Qbe{μ:List Addr}{L:Addr->Prop}{H:Hp}{f:String}:∀{fs:List (String×MV)} {gs:List (Str×V)} {m:MV},gs.map vt=fs.map (λp=>Str.ofString p.1)->RVs ct μ L H (fs.map wm) (gs.map wm)->fs.lookup f=some m->∃ v,gs.lookup (Str.ofString f)=some v/\RV ct μ L H m v
 |[],_,_,_,_,e=>by simp at e
 |(k,y)::fs,gs,m,h1,h2,e=>by
  cases gs with
  |nil=>simp at h1
  |cons p gs =>
   obtain⟨k',u⟩:=p;simp only[Xb,List.cons.injEq] at h1;simp only[Xb,RVs] at h2;obtain⟨v,r,hvr,r1,r2⟩:=h2;simp only[List.cons.injEq] at hvr;obtain⟨rfl,rfl⟩:=hvr;by_cases hf:f=k
   ·subst hf;simp[xb] at e;subst e;exact⟨u,by simp[xb,h1.1],r1⟩
   ·have hb:(f==k)=false:=beq_false_of_ne hf;simp[xb,hb] at e;obtain⟨w,q1,q2⟩:=Qbe h1.2 r2 e;refine⟨w,?_,q2⟩;have:(Str.ofString f==k')=false:=by
     rw[h1.1];exact beq_false_of_ne λz=>hf (ZK z)
    simp[xb,this,q1]
theorem Rel.obj{μ:List Addr}{h:MH}{H:Hp}(rel:Rel ct μ h H){i:Nat}{c:String}{fs:List (String×MV)}(e:h[i]?=some (.obj c fs)):∃ b dx gs,μ[i]?=some b/\H b=some (.ins (ct c) dx gs)/\gs.map vt=fs.map (λp=>Str.ofString p.1)/\RVs ct μ (Liv μ h) H (fs.map wm) (gs.map wm):=by
 have hi:i<μ.length:=by rw[rel.len];exact(Xa.mp e).1
 obtain⟨dx,gs,q1,q2,q3⟩:=rel.cells i μ[i] _ (by simp[hi]) e;exact⟨_,dx,gs,by simp[hi],q1,q2,q3⟩
theorem e_fld{f:String}(T:Txt X.prog X.w X.K X.mg X.base Pm ct n)(ha:PE X a (lE ct Ra E ea))(hn:Yf a=true):PE X (.Attribute a (Str.ofString f) pos) (lE ct Ra E λσ h=>(ea σ h).bind λx h1=>opt (QY Pm.fok f x h1) λv=>.ok v h1) :=
 PE.imp (k_fld X.K ha (Qu hn)) λσ H Q q=>by
  obtain⟨μ,h,σs,rel,rst,ra,p⟩:=q;refine lE.mk rel rst ra p λm v μ1 h1 H1 ex rel1 rst1 rv p1=>?_;obtain⟨w,e,p2⟩:=Po.opt p1;unfold QY at e;split at e
  next c ns xs =>
   split at e
   next ok =>
    simp only[Wc] at e;obtain⟨x,e1,rfl⟩:=e;simp only[RV,RF] at rv;obtain⟨b,dx,fs,rfl,nl,hb,q1,q2⟩:=rv;obtain⟨u,e2,ru⟩:=Qbh q1 q2 e1;obtain⟨t1,t2⟩:=T.fok c f ok;exact⟨b,ct c,dx,fs,u,rfl,hb,t1,t2,e2,p2.now rel1 u (by simp only[RV];exact ru)⟩
   next=>cases e
  next i =>
   split at e
   next c fs ec =>
    split at e
    next ok =>
     simp only[RV] at rv;obtain⟨b,eb,rfl⟩:=rv;obtain⟨b',dx,gs,eb',hb,q1,q2⟩:=rel1.obj ec;rw[eb] at eb';cases eb';obtain⟨u,e2,ru⟩:=Qbe q1 q2 e;obtain⟨t1,t2⟩:=T.fok c f ok;exact⟨b,ct c,dx,gs,u,rfl,hb,t1,t2,e2,p2.now rel1 u ru⟩
    next=>cases e
   next=>cases e
  next=>cases e
end
end
section
variable {ct:Tx} {X:Cx} {E:XK} {Pm:Prog} {n:Nat} {Ra:L2.St->Prop} {N:List Str} {sc:Scope}
section
variable {ea:MSt->MH->R MV} {v:Expr} {es:List Expr} {ev:MSt->MH->R (List MV)} {a:Expr} {p pos:Pos}
theorem Qcl{f:String}{d:MDef}(c:Cc X Pm ct n Ra E N sc)(hd:Pm.defs f=some d)(hdot:f.toList.contains '.'=false)(hg:gl sc (Str.ofString f)=true)(ha:PA X (v::es) (lA ct Ra E ev))(hpl:∀ e∈v::es,ya e=true) :
  PE X (.Call (.Name (Str.ofString f) p) (v::es) [] pos) (lE ct Ra E λσ h=>(ev σ h).bind λxs h1=>run Pm n f xs h1):=by
 obtain⟨g1,g2,g3⟩:=qN c.sc hg;obtain⟨ps,D⟩:=c.txt.defs f d hd hdot;intro pins s σ H Q I q;obtain⟨μ,h,σs,rel,rst,ra,p⟩:=q;refine ybv (σ0:=σ) D (c.room.mono (by lia)) g1 (c.pas σ ra) ha g2 (yk (hpl v (by simp))) (qu λe he=>hpl e (by simp[he])) pins s σ H Q I ⟨rfl,?_⟩;refine lA.mk rel rst ra p λms vs μ1 h1 H1 ex rel1 rst1 rvs p1=>?_;exact⟨μ1,h1,ms,rel1,by simpa using rvs,p1⟩
theorem Qcc(fz:Bool){cn f:String}(c:Cc X Pm ct n Ra E N sc)(hi:Pm.meths cn "__init__"=some f)(hg:gl sc (Str.ofString cn)=true)(ha:PA X (v::es) (lA ct Ra E ev))(hpl:∀ e∈v::es,ya e=true) :
  PE X (.Call (.Name (Str.ofString cn) p) (v::es) [] pos) (lE ct Ra E λσ h=>(ev σ h).bind λxs h1=>qT Pm (run Pm n) fz cn xs h1):=by
 obtain⟨g1,g2,g3⟩:=qN c.sc hg;obtain⟨ps,D⟩:=c.txt.inits cn f hi;intro pins s σ H Q I q;obtain⟨μ,h,σs,rel,rst,ra,p⟩:=q;refine Qbq (σ0:=σ) D c.room g1 (c.pas σ ra) ha g2 (yk (hpl v (by simp))) (qu λe he=>hpl e (by simp[he])) pins s σ H Q I ⟨rfl,?_⟩;refine lA.mk rel rst ra p λms vs μ1 h1 H1 ex rel1 rst1 rvs p1=>?_;intro x dx hx hdx hne;have hx':upd H1 dx (.own x) x=none:=by rw[Zd (Ne.symm hne)];exact hx
 have ex1:=Ext.new rel1 hdx (.own x);have rel2:=rel1.new hdx (.own x);have ex2:=Ext.cell rel2 hx' (.obj cn []) (.ins (ct cn) dx []);have rel3:Rel ct (μ1++[x]) (h1++[.obj cn []]) (upd (upd H1 dx (.own x)) x (.ins (ct cn) dx [])):=rel2.cell hx' ⟨dx,[],zf,rfl,RVs.nil⟩;have ex3:=ex1.trans ex2;refine⟨μ1++[x],h1++[.obj cn []],.ref h1.length::ms,rel3,RVs.cons ?_ (by simpa using rvs.ext ex3),?_⟩
 ·simp only[RV];exact⟨x,by rw[<- rel1.len];simp,rfl⟩
 ·unfold qT at p1;rw[hi] at p1;dsimp only at p1;cases er:run Pm n f (.ref h1.length::ms) (h1++[.obj cn []]) with
  |stuck=>rw[er] at p1;exact p1.elim
  |exc c h2=>rw[er] at p1;exactλμ2 H2 ex4 rel4=>p1 μ2 H2 (ex3.trans ex4) rel4
  |ok m h2 =>
   rw[er] at p1;simp only[R.bind_ok] at p1;intro μ2 H2 ex4 rel4 u ru;have hnon:Yr m=true:=by
    cases em:Yr m with
    |true=>rfl
    |false=>rw[em] at p1;simp only[if_true] at p1;exact p1.elim
   rw[hnon] at p1;simp only[uC,if_false] at p1;rw[Za3 ru] at hnon;refine⟨of_decide_eq_true hnon,?_⟩;have ext:=ex3.trans ex4;obtain⟨ν,eν⟩:=ex4.pre;rw[Ve] at eν;subst eν;have hx2:(μ1++([x]++ν))[h1.length]?=some x:=by rw[<- rel1.len];simp
   cases fz with
   |false=>exact p1 _ H2 ext rel4 _ (by simp only[RV];exact⟨x,hx2,rfl⟩)
   |true =>
    dsimp only at p1;split at p1
    next c' fs ec =>
     obtain⟨ys,ey,p4⟩:=Po.opt p1;split at p4
     next t =>
      obtain⟨b,dx',gs,eb,hb,q1,q2⟩:=rel4.obj ec;rw[hx2] at eb;cases eb;have nx:x∉μ1:=rel1.fresh hx;refine p4 μ1 H2 (Ext.cut rel1.len ext) (rel1.cut t rel4) (.ref x) ?_;simp only[RV,RF];refine⟨x,dx',gs,rfl,λl=>?_,hb,?_,?_⟩
      ·obtain⟨i,_,e1,_,_⟩:=l;exact nx (Uc e1)
      ·rw[q1,vh];rfl
      ·exact RFs.to ⟨λ_ _ e _=>e,λb _ _ nl l=>nl (Liv.cut rel1.len l)⟩ (RVs.toF ey q2)
     next=>exact p4.elim
    next=>exact p1.elim
theorem qaC(fz:Bool){id:String}(c:Cc X Pm ct n Ra E N sc)(hx:id∈fnNames)(hg:gl sc (Str.ofString id)=true)(hb:bootBuiltins (Str.ofString id)=some (.builtin id))(hr:CallR X (.builtin id) (rB ct E fz id))(ha:PA X (v::es) (lA ct Ra E ev))(hpl:∀ e∈v::es,ya e=true) :
  PE X (.Call (.Name (Str.ofString id) p) (v::es) [] pos) (lE ct Ra E λσ h=>(ev σ h).bind λxs h1=>YN fz id xs h1):=by
 obtain⟨g1,g2,g3⟩:=qN c.sc hg;have hm:=c.txt.blts id (by simp[hx]);refine PE.imp (Zj hr g1 hm hb ha g3 g2 (yk (hpl v (by simp))) (qu λe he=>hpl e (by simp[he]))) λσ H Q q=>?_;obtain⟨μ,h,σs,rel,rst,ra,p⟩:=q;exact lA.mk rel rst ra p λms vs μ1 h1 H1 ex rel1 rst1 rvs p1=>⟨μ1,h1,ms,rel1,rvs,p1⟩
theorem Qbv(fz:Bool){id:String}(c:Cc X Pm ct n Ra E N sc)(hx:id∈tyNames)(hg:gl sc (Str.ofString id)=true)(hb:bootBuiltins (Str.ofString id)=some (.type id))(hr:CallR X (.type id) (rB ct E fz id))(ha:PA X (v::es) (lA ct Ra E ev))(hpl:∀ e∈v::es,ya e=true) :
  PE X (.Call (.Name (Str.ofString id) p) (v::es) [] pos) (lE ct Ra E λσ h=>(ev σ h).bind λxs h1=>YN fz id xs h1):=by
 obtain⟨g1,g2,g3⟩:=qN c.sc hg;have hm:=c.txt.blts id (by simp[hx]);refine PE.imp (ybt hr g1 hm hb ha g3 g2 (yk (hpl v (by simp))) (qu λe he=>hpl e (by simp[he]))) λσ H Q q=>?_;obtain⟨μ,h,σs,rel,rst,ra,p⟩:=q;exact lA.mk rel rst ra p λms vs μ1 h1 H1 ex rel1 rst1 rvs p1=>⟨μ1,h1,ms,rel1,rvs,p1⟩
theorem e_blt(fz:Bool){id:String}(c:Cc X Pm ct n Ra E N sc)(hx:id∈fnNames\/id∈tyNames)(hg:gl sc (Str.ofString id)=true)(ha:PA X (v::es) (lA ct Ra E ev))(hpl:∀ e∈v::es,ya e=true) :
  PE X (.Call (.Name (Str.ofString id) p) (v::es) [] pos) (lE ct Ra E λσ h=>(ev σ h).bind λxs h1=>YN fz id xs h1):=by
 rcases hx with hx|hx
 ·have hx':=hx;simp only[fnNames,ua,uc,or_false] at hx'
  rcases hx' with rfl|rfl|rfl|rfl
  ·exact qaC fz c hx hg (by decide +kernel) (ycp c.hK fz) ha hpl
  ·exact qaC fz c hx hg (by decide +kernel) (zcq c.hK fz c.calm) ha hpl
  ·exact qaC fz c hx hg (by decide +kernel) (Zch c.hK fz c.calm) ha hpl
  ·exact qaC fz c hx hg (by decide +kernel) (Qcb c.hK fz c.calm) ha hpl
 ·have hx':=hx;simp only[tyNames,ua,uc,or_false] at hx'
  rcases hx' with rfl|rfl
  ·exact Qbv fz c hx hg (by decide +kernel) (zbM c.hK fz) ha hpl
  ·exact Qbv fz c hx hg (by decide +kernel) (ybX c.hK fz) ha hpl
theorem ybQ{t:String}(h:t∈isTys):bootBuiltins (Str.ofString t)=some (.type t):=by
 simp only[isTys,ua,uc,or_false] at h
 rcases h with rfl|rfl|rfl|rfl|rfl|rfl <;> decide +kernel
end
end
noncomputable def bb(T U:String):Bool:=decide (U=T)||(decide (T="bool")&&decide (U="int"))
theorem ycg{K:PySem.W.Frag}{T U:String}(h:T∈["NoneType","bool","int","str","list","tuple"])(h':U∈isTys):Ue K (.type T) (.type U)=some (bb T U):=by
 simp only[isTys,ua,uc,or_false] at h h'
 rcases h with rfl|rfl|rfl|rfl|rfl|rfl <;> rcases h' with rfl|rfl|rfl|rfl|rfl|rfl <;> rfl
section
variable {ct:Tx} {X:Cx} {E:XK} {Pm:Prog} {n:Nat} {Ra:L2.St->Prop} {N:List Str} {sc:Scope}
noncomputable def qO(h:MH):MV->Option String
 |.f .non=>some "NoneType"
 |.f (.bl _)=>some "bool"
 |.f (.int _)=>some "int"
 |.f (.str _)=>some "str"
 |.f (.tup _)=>some "tuple"
 |.f (.lst _)=>some "list"
 |.tup _=>some "tuple"
 |.ref a=>match h[a]? with
  |some (.lst _)=>some "list"
  |_=>none
 |_=>none
theorem qaN{h:MH}{m:MV}{T:String}(e:qO h m=some T):T∈["NoneType","bool","int","str","list","tuple"]:=by
 unfold qO at e;split at e
 all_goals first|(cases e;simp;done)|skip
 ·split at e
  next=>cases e;simp
  next=>cases e
 ·cases e
theorem Zb1{K:PySem.W.Frag}{μ:List Addr}{h:MH}{H:Hp}{m:MV}{v:V}{T:String}(rel:Rel ct μ h H)(e:qO h m=some T)(r:RV ct μ (Liv μ h) H m v):TyOf K H v (.type T):=by
 unfold qO at e;split at e
 next=>cases e;simp only[RV,RF] at r;subst r;exact .non
 next=>cases e;simp only[RV,RF] at r;subst r;exact .bl _
 next=>cases e;simp only[RV,RF] at r;subst r;exact .int _
 next=>cases e;simp only[RV,RF] at r;subst r;exact .str _
 next=>cases e;simp only[RV,RF] at r;obtain⟨_,_,rfl,_,hb,_⟩:=r;exact .tup hb
 next =>
  cases e;simp only[RV,RF] at r;obtain⟨_,_,rfl,_,hb,_⟩:=r
  rcases hb with hb|⟨o,hb⟩
  ·exact .lst hb
  ·exact .frz hb
 next=>cases e;simp only[RV] at r;obtain⟨_,_,rfl,_,hb,_⟩:=r;exact .tup hb
 next i =>
  split at e
  next xs q =>
   cases e;simp only[RV] at r;obtain⟨b,eb,rfl⟩:=r;obtain⟨b',vs,eb',hb,_⟩:=rel.lst (show Zb h i=some xs by unfold Zb;rw[q]);rw[eb] at eb';cases eb';exact .lst hb
  next=>cases e
 next=>cases e
theorem Zb4{subs:String->String->Option Bool}{h:MH}{m:MV}{t T:String}{b:Bool}(e:qO h m=some T)(q:QQ subs h m t=some b)(hn:t≠"NoneType"):b=bb T t:=by
 unfold qO at e;split at e
 next=>cases e;cases q;simp[bb,hn]
 next=>cases e;cases q;simp[bb]
 next=>cases e;cases q;simp[bb]
 next=>cases e;cases q;simp[bb]
 next=>cases e;cases q;simp[bb]
 next=>cases e;cases q;simp[bb]
 next=>cases e;cases q;simp[bb]
 next i =>
  split at e
  next xs w =>
   cases e;simp only[QQ,w,Option.some.injEq] at q;rw[<- q];simp[bb]
  next=>cases e
 next=>cases e
theorem zcu{μ:List Addr}{h:MH}{H:Hp}{m:MV}{v:V}{t:String}{b:Bool}(T:Txt X.prog X.w X.K X.mg X.base Pm ct n)(rel:Rel ct μ h H)(r:RV ct μ (Liv μ h) H m v)(q:QQ Pm.subs h m t=some b)(ht:isTys.contains t=true\/(Pm.subs t t).isSome=true) :
  ∃ tv,TyOf X.K H v tv/\Ue X.K tv (if isTys.contains t=true then .type t else .ref (ct t))=some b:=by
 cases ek:qO h m with
 |some Tn =>
  refine⟨.type Tn,Zb1 rel ek r,?_⟩;by_cases hb:isTys.contains t=true
  ·rw[if_pos hb];have hm:t∈isTys:=by simpa using hb
   have hn:t≠"NoneType":=by
    rintro rfl;simp[isTys] at hm
   rw[Zb4 ek q hn];exact ycg (qaN ek) hm
  ·rw[if_neg hb];have hb':isTys.contains t=false:=by simpa using hb
   obtain⟨b0,e0⟩:=uk.mp (ht.resolve_left hb);have hk:=T.tyC t t b0 e0 hb' Tn (qaN ek);rw[hk];have hm:t∉isTys:=by simpa using hb'
   simp only[isTys,ua,uc,or_false,not_or] at hm;unfold qO at ek;split at ek
   next=>cases ek;cases q;rfl
   next=>cases ek;cases q;simp[hm]
   next=>cases ek;cases q;simp[hm]
   next=>cases ek;cases q;simp[hm]
   next=>cases ek;cases q;simp[hm]
   next=>cases ek;cases q;simp[hm]
   next=>cases ek;cases q;simp[hm]
   next i =>
    split at ek
    next xs w =>
     simp only[QQ,w,Option.some.injEq] at q;rw[<- q];simp[hm]
    next=>cases ek
   next=>cases ek
 |none =>
  have obj:∃ c a dx fs,v=.ref a/\H a=some (.ins (ct c) dx fs)/\Pm.subs c t=some b:=by
   cases m with
   |f x =>
    cases x with
    |obj c ns vs =>
     simp only[RV,RF] at r;obtain⟨a,dx,fs,rfl,_,hb,_⟩:=r;exact⟨c,a,dx,fs,rfl,hb,q⟩
    |scr _=>cases q
    |tab _=>cases q
    |msk _=>cases q
    |_=>simp[qO] at ek
   |tup _=>simp[qO] at ek
   |exc _=>cases q
   |ref i =>
    simp only[QQ] at q;split at q
    next xs w=>simp[qO,w] at ek
    next c fs w =>
     obtain⟨a,dx,gs,ea,hb,_⟩:=rel.obj w;simp only[RV] at r;obtain⟨a',ea',rfl⟩:=r;rw[ea] at ea';cases ea';exact⟨c,a,dx,gs,rfl,hb,q⟩
    next=>cases q
  obtain⟨c,a,dx,fs,rfl,hb,q⟩:=obj;have C:=T.cls c t b q;refine⟨.ref (ct c),.ins hb C.cl C.ha C.hn C.tk C.hm,?_⟩;by_cases hb:isTys.contains t=true
  ·rw[if_pos hb];exact T.subT c t b q hb
  ·rw[if_neg hb];exact(T.subC c t b q (by simpa using hb)).2
section
variable {ea:MSt->MH->R MV} {v:Expr} {es:List Expr} {ev:MSt->MH->R (List MV)} {a:Expr} {p p2 pos:Pos}
theorem e_isI{t:String}(c:Cc X Pm ct n Ra E N sc)(ht:isTys.contains t=true\/(Pm.subs t t).isSome=true)(hg:gl sc "isinstance"=true)(hgt:gl sc (Str.ofString t)=true)(ha:PE X a (lE ct Ra E ea))(hp:ya a=true) :
  PE X (.Call (.Name "isinstance" p) [a,.Name (Str.ofString t) p2] [] pos) (lE ct Ra E λσ h=>(ea σ h).bind λx h1=>opt (QQ Pm.subs h1 x t) λk=>.ok (.f (.bl k)) h1):=by
 obtain⟨g1,g2,g3⟩:=qN c.sc hg;obtain⟨k1,k2,k3⟩:=qN c.sc hgt;have hm:X.mg "isinstance"=none:=c.txt.blts "isinstance" (by simp);have tyE:∃ cv,clsV cv=some (if isTys.contains t=true then .type t else .ref (ct t))/\PE X (.Name (Str.ofString t) p2) (tC cv):=by
  by_cases hb:isTys.contains t=true
  ·rw[if_pos hb];have hm':t∈isTys:=by simpa using hb
   exact⟨.ty t,rfl,zbe (v:=.ty t) k1 (c.txt.blts t (by simp[hm'])) (ybQ hm') rfl k3 k2⟩
  ·rw[if_neg hb];obtain⟨b0,e0⟩:=uk.mp (ht.resolve_left hb);exact⟨.ref (ct t),rfl,Yt (v:=.ref (ct t)) k1 (c.txt.subC t t b0 e0 (by simpa using hb)).1 rfl k2⟩
 obtain⟨cv,ecv,pe⟩:=tyE;refine PE.imp (Zj (k_isi X.K) g1 hm boot_isinstance (Yb ha (Yb pe Qk (by rfl)) (yk hp)) g3 g2 (yk hp) (by rfl)) λσ H Q q=>?_;obtain⟨μ,h,σs,rel,rst,ra,p⟩:=q;refine lE.mk rel rst ra p λm w μ1 h1 H1 ex rel1 rst1 rv p1=>?_;obtain⟨k,e,p2⟩:=Po.opt p1;obtain⟨tv,ty,kit⟩:=zcu c.txt rel1 rv e ht;exact⟨w,cv,tv,_,k,rfl,ecv,ty,kit,p2.now rel1 _ (zv _)⟩
theorem zbA{K:PySem.W.Frag}{mo:MV}{xs:List MV}{μ:List Addr}{h:MH}{H:Hp}{x:V}(rel:Rel ct μ h H)(r:RV ct μ (Liv μ h) H mo x)(e:lmC mo h=some xs):tyV K "list" x H:=by
 cases mo with
 |ref i =>
  obtain⟨b,vs,e1,e2,q⟩:=rel.lst (show Zb h i=some xs from e);simp only[RV] at r;obtain⟨b',e3,rfl⟩:=r;rw[e1] at e3;cases e3;exact .inl ⟨rfl,vs,SqL.of e2⟩
 |f _=>cases e
 |tup _=>cases e
 |exc _=>cases e
theorem ZR{env : Env}{cp : Pos}{es : List Expr}(h : ∀ e∈es, ya e=true)(hl : es.length<30) : ((backTo cp (starEach es env)).all (λx => !x.1)&&(backToKw cp (keywordEach [] env)).all (λx => x.1.isSome)
   && decide (es.length+([]:List Keyword).length+(if([]:List Keyword).isEmpty then 0 else 1)<30))=true:=by
 rw[Zi h];have h1:(backTo cp (es.map λe=>(false,eval e env))).all (λx=>!x.1)=true:=by
  unfold backTo;rw[vh,List.all_map]
  induction es with
  |nil=>rfl
  |cons e es ih=>simp[Function.comp]
 rw[h1];simp[keywordEach,backToKw];exact hl
theorem YbO{m id:String}{ap cp:Pos}(slot:Slot "list" (Str.ofString m) id)(hty:typeOf (.builtin id)=pure (.type "method_descriptor"))(hr:MtR X id (rLm ct E m))(ho:PE X a (lE ct Ra E ea))(hn:Yf a=true)(ha:PA X (v::es) (lA ct Ra E ev))(hpl:∀ e∈v::es,ya e=true)
  (hl:(v::es).length<30) (hline:(ap.endLine==cp.line)=true):PE X (.Call (.Attribute a (Str.ofString m) ap) (v::es) [] cp) (lE ct Ra E λσ h=>(ea σ h).bind λx h1=>opt (lmC x h1) λ_=>(ev σ h1).bind λxs h2=>lmV m x xs h2) :=
 PE.imp (pe_bm PySem.F.plainAttrs_list slot hty hr ho ha (Qu hn) (ZR hpl hl) hline (yk (hpl v (by simp))) (qu λe he=>hpl e (by simp[he]))) λσ H Q q=>by
  obtain⟨μ,h,σs,rel,rst,ra,p⟩:=q;refine lE.mk rel rst ra p λm' w μ1 h1 H1 ex rel1 rst1 rv p1=>?_;obtain⟨xs,ex1,p2⟩:=Po.opt p1;refine⟨zbA rel1 rv ex1,?_⟩;exact lA.mk rel1 rst1 ra p2 λms vs μ2 h2 H2 ex2 rel2 rst2 rvs p3=>⟨μ2,h2,m',ms,rel2,rv.ext ex2,rvs,p3⟩
theorem e_lm0{m id:String}{ap cp:Pos}(slot:Slot "list" (Str.ofString m) id)(hty:typeOf (.builtin id)=pure (.type "method_descriptor"))(hr:MtR X id (rLm ct E m))(ho:PE X a (lE ct Ra E ea))(hn:Yf a=true)
  (hline:(ap.endLine==cp.line)=true):PE X (.Call (.Attribute a (Str.ofString m) ap) [] [] cp) (lE ct Ra E λσ h=>(ea σ h).bind λx h1=>opt (lmC x h1) λ_=>(R.ok [] h1).bind λxs h2=>lmV m x xs h2) :=
 PE.imp (qcc PySem.F.plainAttrs_list slot hty hr ho (Qu hn) hline) λσ H Q q=>by
  obtain⟨μ,h,σs,rel,rst,ra,p⟩:=q;refine lE.mk rel rst ra p λm' w μ1 h1 H1 ex rel1 rst1 rv p1=>?_;obtain⟨xs,ex1,p2⟩:=Po.opt p1;exact⟨zbA rel1 rv ex1,μ1,h1,m',[],rel1,rv,RVs.nil,p2⟩
noncomputable abbrev kP(k:Int×Int):List Key:=[Sum.inl k.1,Sum.inl k.2]
theorem kP_inj{k l:Int×Int}:kP k=kP l↔k=l:=by
 constructor
 ·intro h;simp only[kP,List.cons.injEq,Sum.inl.injEq,and_true] at h;exact uD h.1 h.2
 ·rintro rfl;rfl
theorem Qcg(k l:Int×Int):decide (kP k=kP l)=decide (k=l):=by
 by_cases h:k=l
 ·subst h;simp
 ·have h':¬ kP k=kP l:=λz=>h (kP_inj.mp z);rw[decide_eq_false h,decide_eq_false h']
theorem Zb3(fz:Bool){cn:String}(c:Cc X Pm ct n Ra E N sc)(hk:Pm.mk0 cn=true)(hi:Pm.meths cn "__init__"=none)(hg:gl sc (Str.ofString cn)=true) :
  PE X (.Call (.Name (Str.ofString cn) p) [] [] pos) (lE ct Ra E λσ h=>(R.ok [] h).bind λxs h1=>qT Pm (run Pm n) fz cn xs h1):=by
 obtain⟨g1,g2,g3⟩:=qN c.sc hg;obtain⟨M,mg⟩:=c.txt.mk0 cn hk;refine PE.imp (zbt M g1 mg g2) λσ H Q q=>?_;obtain⟨μ,h,σs,rel1,rst,ra,p1⟩:=q;intro x dx hx hdx hne;have hx':upd H dx (.own x) x=none:=by rw[Zd (Ne.symm hne)];exact hx
 have ex1:=Ext.new rel1 hdx (.own x);have rel2:=rel1.new hdx (.own x);have ex2:=Ext.cell rel2 hx' (.obj cn []) (.ins (ct cn) dx []);have rel3:Rel ct (μ++[x]) (h++[.obj cn []]) (upd (upd H dx (.own x)) x (.ins (ct cn) dx [])):=rel2.cell hx' ⟨dx,[],zf,rfl,RVs.nil⟩;have ext:=ex1.trans ex2;have hx2:(μ++[x])[h.length]?=some x:=by rw[<- rel1.len];simp
 have p2:Po ct E (qT Pm (run Pm n) fz cn [] h) μ h H (λm μ' h' H'=>∀ v,RV ct μ' (Liv μ' h') H' m v->Q v H'):=p1;unfold qT at p2;rw[hi] at p2;simp only[R.bind_ok,qbu,uC,if_false] at p2;cases fz with
 |false=>exact p2 _ _ ext rel3 _ (by simp only[RV];exact⟨x,hx2,rfl⟩)
 |true =>
  dsimp only at p2;split at p2
  next c' fs ec =>
   obtain⟨ys,ey,p4⟩:=Po.opt p2;split at p4
   next t =>
    obtain⟨b,dx',gs,eb,hb,q1,q2⟩:=rel3.obj ec;rw[hx2] at eb;cases eb;have nx:x∉μ:=rel1.fresh hx;refine p4 μ _ (Ext.cut rel1.len ext) (rel1.cut t rel3) (.ref x) ?_;simp only[RV,RF];refine⟨x,dx',gs,rfl,λl=>?_,hb,?_,?_⟩
    ·obtain⟨i,_,e1,_,_⟩:=l;exact nx (Uc e1)
    ·rw[q1,vh];rfl
    ·exact RFs.to ⟨λ_ _ e _=>e,λb _ _ nl l=>nl (Liv.cut rel1.len l)⟩ (RVs.toF ey q2)
   next=>exact p4.elim
  next=>exact p2.elim
theorem Po.calm{α:Type}{r:R α}{μ:List Addr}{h:MH}{H:Hp}{k:α->List Addr->MH->Hp->Prop}(p:Po ct E (MP.calm r) μ h H k):Po ct E0 r μ h H k:=by
 cases r with
 |ok x h'=>exact p
 |exc c h'=>exact p.elim
 |stuck=>exact p.elim
theorem PIf.imp{ifs:List Expr}{t t':TT}(p:PIf X ifs t)(k:∀ σ H Q,t' σ H Q->t σ H Q):PIf X ifs t':=λpins s σ H Q I h=>p pins s σ H Q I (k σ H Q h)
theorem qbk{μ:List Addr}{h:MH}{H:Hp}{σ:L2.St}{σs:MSt}(ncv:Nat)(js:List Nat)(r:RelSt ct μ h H σ σs):RelSt ct μ h H (stC ncv js σ) (stM ncv js σs):=by
 refine⟨by simp[L3.stC,MP.stM],λi m e=>?_⟩;unfold MP.stM at e;by_cases hi:i<ncv
 ·rw[va (by simpa using hi),Xp,if_pos hi] at e;cases e
 ·rw[we (by simpa using hi),Vn,xc] at e;cases ej:js[i-ncv]? with
  |none=>rw[ej] at e;cases e
  |some j =>
   rw[ej] at e;simp only[Wj,Option.some.injEq] at e;have e':σs[j]?=some (some m):=by
    cases q:σs[j]? with
    |none=>rw[q] at e;cases e
    |some z=>rw[q] at e;exact congrArg some e
   obtain⟨v,ev,rv⟩:=r.at_ j m e';refine⟨v,?_,rv⟩;unfold L3.stC;rw[we (by simpa using hi),Vn,xc,ej];simp[ev]
theorem Yaz(fz:Bool){ncv:Nat}{js:List Nat}{it:String}{t:Tg}{es:MSt->MH->R (List MV)}{tc:MSt->MH->R Bool}{te:MSt->MH->R MV}(σ:L2.St)(H:Hp)(Q:VK)
  (q:lE ct Ra E (λσ h=>(es σ h).bind λxs h1=>opt (itV it xs h1) λp=>(Yi p.2 (Zt t tc te) p.1 [] (MP.stM ncv js σ) h1).bind λacc h3=>yu fz acc h3) σ H Q) :
  Zbf (lI ct Ra E es it) ncv js (lG ct t) (lT ct (λ_=>True) E0 tc) (lE ct (λ_=>True) E0 te) σ H Q:=by
 obtain⟨μ,h,σs,rel,rst,ra,p⟩:=q;refine⟨μ,h,σs,rel,rst,ra,(Po.bind p).imp λxs μ1 h1 H1 ⟨ex1,rel1,p1⟩=>?_⟩;obtain⟨⟨items,g⟩,e1,p2⟩:=Po.opt p1;refine⟨items,g,e1,rel1,λJ wk=>?_⟩;dsimp only at p2;refine⟨λi m acc σ' H'=>∃ μ' h' σs' macc,m=items.length-i/\i<=items.length/\Ext μ1 h1 H1 μ' h' H'/\Rel ct μ' h' H'/\RelSt ct μ' h' H' σ' σs'/\RVs ct μ' (Liv μ' h') H' macc acc /\
  Po ct E ((Yi g (Zt t tc te) (items.drop i) macc σs' h').bind λacc h3=>yu fz acc h3) μ' h' H' (kV ct Q),?_,?_⟩
 ·exact⟨items.length,μ1,h1,stM ncv js σs,[],by simp,Xq _,Ext.refl _ _ _,rel1,qbk ncv js (rst.ext ex1),RVs.nil,by simpa using p2⟩
 ·rintro i m acc σ' H' ⟨μ',h',σs',macc,rfl,hi',ex,rel',rst',racc,p3⟩;by_cases lt:i<items.length
  ·right
   have ed:items.drop i=items[i]::items.drop (i+1):=vy lt;rw[ed] at p3;simp only[Yi] at p3;split at p3
   next gd =>
    obtain⟨w1,_⟩:=wk i μ' h' H' ex rel' gd.1;obtain⟨go,yl⟩:=w1 lt;refine⟨go,λx H2 y=>?_⟩;obtain⟨mx,em,ex2,rel2,rx⟩:=yl x H2 y;have emx:mx=items[i]:=by simpa[lt] using em.symm
    subst emx;have p4:=Po.start ex2 p3;unfold Zt at p4;cases eb:YH t items[i] σs' with
    |none=>rw[eb] at p4;exact p4.elim
    |some σ2s =>
     rw[eb] at p4;simp only[zj] at p4;refine⟨μ',h',σs',items[i],σ2s,rel2,rst'.ext ex2,rx,eb,λσ2 rst2=>?_⟩;have p5:Po ct E ((MP.calm (tc σ2s h')).bind λk h2=>(if k=true then(MP.calm (te σ2s h2)).bind λy h3=>R.ok (some y,σ2s) h3 else R.ok (none,σ2s) h2).bind λp h1=>(Yi g (Zt t tc te) (items.drop (i+1)) (match p.1 with|some y=>macc++[y]|none=>macc) p.2 h1).bind λacc h3=>yu fz acc h3) μ' h' H2 (kV ct Q):=by
      cases er:MP.calm (tc σ2s h') with
      |stuck=>rw[er] at p4;exact p4
      |exc c h''=>rw[er] at p4;exact p4
      |ok k h'' =>
       rw[er] at p4;simp only[R.bind_ok] at p4 ⊢;cases k with
       |false=>exact p4
       |true =>
        simp only[if_true] at p4 ⊢;cases er2:MP.calm (te σ2s h'') with
        |stuck=>rw[er2] at p4;exact p4
        |exc c h3=>rw[er2] at p4;exact p4
        |ok y h3=>rw[er2] at p4;exact p4
     refine⟨μ',h',σ2s,rel2,rst2,trivial,Po.calm ((Po.bind p5).imp λk μ3 h3 H3 ⟨ex3,rel3,p6⟩=>?_)⟩;cases k with
     |false =>
      simp only[Xl,if_false,R.bind_ok] at p6 ⊢;exact⟨items.length-(i+1),by lia,μ3,h3,σ2s,macc,rfl,lt,(ex.trans ex2).trans ex3,rel3,rst2.ext ex3,(racc.ext ex2).ext ex3,p6⟩
     |true =>
      simp only[if_true] at p6 ⊢;have p7:Po ct E ((MP.calm (te σ2s h3)).bind λy h4=>(Yi g (Zt t tc te) (items.drop (i+1)) (macc++[y]) σ2s h4).bind λacc h5=>yu fz acc h5) μ3 h3 H3 (kV ct Q):=by
       cases er2:MP.calm (te σ2s h3) with
       |stuck=>rw[er2] at p6;exact p6
       |exc c h4=>rw[er2] at p6;exact p6
       |ok y h4=>rw[er2] at p6;exact p6
      refine⟨μ3,h3,σ2s,rel3,rst2.ext ex3,trivial,Po.calm ((Po.bind p7).imp λy μ4 h4 H4 ⟨ex4,rel4,p8⟩ w rw_=>?_)⟩;refine⟨by rw[racc.length];exact Xc gd.2 YB,items.length-(i+1),by lia,μ4,h4,σ2s,macc++[y],rfl,lt,((ex.trans ex2).trans ex3).trans ex4,rel4,(rst2.ext ex3).ext ex4,?_,p8⟩;exact(((racc.ext ex2).ext ex3).ext ex4).append (RVs.cons rw_ RVs.nil)
   next=>exact p3.elim
  ·left
   have hi2:i=items.length:=by lia
   subst hi2;rw[XE] at p3;simp only[Yi] at p3;split at p3
   next gd =>
    obtain⟨_,w2⟩:=wk items.length μ' h' H' ex rel' gd;exact⟨w2 rfl,λD hD=>yE rel' racc p3 D hD⟩
   next=>exact p3.elim
theorem Qcr(fz:Bool){elt iter tg:Expr}{ifs:List Expr}{cs:Scope}{N':List Str}{ncv:Nat}{js:List Nat}{it:String}{t:Tg}{es:MSt->MH->R (List MV)}{tc:MSt->MH->R Bool}{te:MSt->MH->R MV}(hok:qv X.env.scope X.N cs N' ncv js=true)(hc:X.calm=true)
  (hi:PI X tg iter (lI ct Ra E es it)) (hg:∀ C s3 H ex,PG (cxC X cs N' C s3 H ex) tg (lG ct t)) (hif:∀ C s3 H ex,PIf (cxC X cs N' C s3 H ex) ifs (lT ct (λ_=>True) E0 tc)) (helt:∀ C s3 H ex,PE (cxC X cs N' C s3 H ex) elt (lE ct (λ_=>True) E0 te)) (hpl:ya iter=true) :
  PE X (.ListComp elt [⟨tg,iter,ifs,0⟩] cs pos) (lE ct Ra E λσ h=>(es σ h).bind λxs h1=>opt (itV it xs h1) λp=>(Yi p.2 (Zt t tc te) p.1 [] (stM ncv js σ) h1).bind λacc h3=>yu fz acc h3):=by
 exact PE.imp (zbX N' ncv js hok hc hi hg hif helt (QJ hpl)) (Yaz fz)
end
end
end SD
end
section
namespace SD
open PySem PySem.Spec PyProof.Rows L2 L3 M3 MP
section
variable {ct:Tx} {X:Cx} {E:XK} {Pm:Prog} {n:Nat} {Ra:L2.St->Prop} {N:List Str} {sc:Scope}
noncomputable abbrev YD(ks:List (Int×Int)):List (List Key×V):=ks.map λk=>(kP k,V.bl true)
theorem zb1(ks:List (Int×Int))(k:Int×Int):((YD ks).any λkv=>decide (kv.1=kP k))=decide (k∈ks):=by
 induction ks with
 |nil=>rfl
 |cons a r ih =>
  show(decide (kP a=kP k)||(YD r).any λkv=>decide (kv.1=kP k))=_;rw[ih,Qcg];by_cases h:a=k
  ·subst h;simp
  ·simp[h,Ne.symm h]
theorem YbA(ks:List (Int×Int))(k:Int×Int):yam (YD ks) (kP k) (V.bl true)=YD (ZbB ks k):=by
 unfold yam ZbB;rw[zb1];by_cases h:k∈ks
 ·rw[if_pos (by simpa using h),if_pos h,YD,vh]
  congr 1
  funext p;show(if kP p=kP k then(kP p,V.bl true) else(kP p,V.bl true))=_;split <;> rfl
 ·rw[if_neg (by simpa using h),if_neg h,YD,YD,Xi];rfl
theorem Qaq:∀(ks acc:List (Int×Int)),Yy (YD ks) (YD acc)=YD (ks.foldl ZbB acc)
 |[],acc=>rfl
 |k::ks,acc=>by
  show Yy (YD ks) (yam (YD acc) (kP k) (V.bl true))=_;rw[YbA];exact Qaq ks (ZbB acc k)
theorem qaz{h:MH}{i:Nat}{ks:List (Int×Int)}(e:Qad h (.ref i)=some ks):h[i]?=some (.msk ks):=by
 simp only[Qad] at e;split at e
 next ks' w=>cases e;exact w
 next=>cases e
theorem Zcm{μ:List Addr}{h:MH}{H:Hp}{x:MV}{v:V}{ks:List (Int×Int)}(rel:Rel ct μ h H)(r:RV ct μ (Liv μ h) H x v)(e:Qad h x=some ks):∃ a,v=.ref a/\Rd H a (.dT (YD ks)):=by
 cases x with
 |ref i =>
  simp only[RV] at r;obtain⟨b,eb,rfl⟩:=r;exact⟨b,rfl,.inl (rel.cells _ _ _ eb (qaz e))⟩
 |f y =>
  cases y with
  |msk ks =>
   cases e;simp only[RV,RF] at r;obtain⟨a,o,rfl,_,ha⟩:=r;exact⟨a,rfl,.inr ⟨o,ha⟩⟩
  |_=>cases e
 |tup _=>cases e
 |exc _=>cases e
end
section
variable {ct:Tx} {X:Cx} {E:XK} {Pm:Prog} {n:Nat} {Ra:L2.St->Prop} {N:List Str} {sc:Scope} {ea eb:MSt->MH->R MV} {a b:Expr} {p pos:Pos}
theorem zF{μ:List Addr}{L:Addr->Prop}{H:Hp}{m:MV}{v:V}{z:Str}(r:RV ct μ L H m v)(e:Yj m=some z):v=.str z:=by
 cases m with
 |f x =>
  cases x with
  |str s=>cases e;simpa only[RV,RF] using r
  |_=>cases e
 |_=>cases e
theorem ybd{μ:List Addr}{L:Addr->Prop}{H:Hp}:∀{xs:List MV}{vs:List V}{ts:List Str},RVs ct μ L H xs vs->xs.mapM Yj=some ts->vs=ts.map V.str
 |[],vs,ts,r,e=>by
  simp only[RVs] at r;cases e;rw[r];rfl
 |x::xs,vs,ts,r,e=>by
  simp only[RVs] at r;obtain⟨v,t,rfl,r1,r2⟩:=r;rw[Wu] at e;cases e1:Yj x with
  |none=>rw[e1] at e;cases e
  |some z =>
   rw[e1] at e;cases e2:xs.mapM Yj with
   |none=>rw[e2] at e;cases e
   |some zs =>
    rw[e2] at e;cases e;rw[zF r1 e1,ybd r2 e2];rfl
theorem Z9{k:Nat}(h:k<=sizeL):k<=sizeLine:=by rw[sizeLine_eq];unfold sizeL at h;lia
theorem Yct{ap cp:Pos}(ha:PE X a (lE ct Ra E ea))(hb:PE X b (lE ct Ra E eb))(hn:Yf a=true)(hpl:ya b=true)(hline:(ap.endLine==cp.line)=true) :
  PE X (.Call (.Attribute a "join" ap) [b] [] cp) (lE ct Ra E λσ h=>(ea σ h).bind λx h1=>opt (Yj x) λ_=>(eb σ h1).bind λy h2=>YW .join x y h2):=by
 have hpl':∀ e∈[b],ya e=true:=λe he=>by rw[Ub.mp he];exact hpl
 refine PE.imp (ybW ha hb ⟨Qu hn,ZR hpl' (by simp),hline,by rw[Zi hpl'];rfl⟩) λσ H Q q=>?_;obtain⟨μ,h,σs,rel,rst,ra,pp⟩:=q;refine lE.mk rel rst ra pp λm w μ1 h1 H1 ex1 rel1 rst1 rv1 p1=>?_;obtain⟨sep,e1,p2⟩:=Po.opt p1;refine⟨sep,zF rv1 e1,?_⟩;refine lE.mk rel1 rst1 ra p2 λm2 w2 μ2 h2 H2 ex2 rel2 rst2 rv2 p3=>?_;obtain⟨sep',e1',p4⟩:=Po.opt p3;rw[e1] at e1';cases e1';obtain⟨xs,e2,p5⟩:=Po.opt p4;obtain⟨ts,e3,p6⟩:=Po.opt p5;split at p6
 next hz =>
  obtain⟨c,vs,rfl,rd,rs⟩:=Yn rel2 e2 rv2;have:=ybd rs e3;subst this;exact⟨c,ts,rfl,rd,hz,p6.now rel2 _ (yW _)⟩
 next=>exact p6.elim
theorem Qbi{μ:List Addr}{L:Addr->Prop}{H:Hp}:∀(ts:List Str),RVs ct μ L H (ts.map λt=>MV.f (.str t)) (ts.map V.str)
 |[]=>RVs.nil
 |t::ts=>RVs.cons (yW t) (Qbi ts)
theorem YbZ{ap cp:Pos}(fz:Bool)(ha:PE X a (lE ct Ra E ea))(hb:PE X b (lE ct Ra E eb))(hn:Yf a=true)(hpl:ya b=true)(hline:(ap.endLine==cp.line)=true) :
  PE X (.Call (.Attribute a "split" ap) [b] [] cp) (lE ct Ra E λσ h=>(ea σ h).bind λx h1=>opt (Yj x) λ_=>(eb σ h1).bind λy h2=>YW (.split fz) x y h2):=by
 have hpl':∀ e∈[b],ya e=true:=λe he=>by rw[Ub.mp he];exact hpl
 refine PE.imp (Zbx ha hb ⟨Qu hn,ZR hpl' (by simp),hline,by rw[Zi hpl'];rfl⟩) λσ H Q q=>?_;obtain⟨μ,h,σs,rel,rst,ra,pp⟩:=q;refine lE.mk rel rst ra pp λm w μ1 h1 H1 ex1 rel1 rst1 rv1 p1=>?_;obtain⟨z,e1,p2⟩:=Po.opt p1;refine⟨z,zF rv1 e1,?_⟩;refine lE.mk rel1 rst1 ra p2 λm2 w2 μ2 h2 H2 ex2 rel2 rst2 rv2 p3=>?_;obtain⟨z',e1',p4⟩:=Po.opt p3;rw[e1] at e1';cases e1';obtain⟨sep,e2,p5⟩:=Po.opt p4;split at p5
 next hz=>exact⟨sep,zF rv2 e2,hz.1,Z9 hz.2,yE rel2 (Qbi _) p5⟩
 next=>exact p5.elim
theorem e_at(ha:PE X a (lE ct Ra E ea))(hb:PE X b (lE ct Ra E eb))(hpl:ya b=true) :
  PE X (.Subscript a b pos) (lE ct Ra E λσ h=>(ea σ h).bind λx h1=>opt (Yj x) λ_=>(eb σ h1).bind λy h2=>YW .at x y h2):=by
 refine PE.imp (zaW zcg ha hb (yaV hpl)) λσ H Q q=>?_;obtain⟨μ,h,σs,rel,rst,ra,pp⟩:=q;refine lE.mk rel rst ra pp λm w μ1 h1 H1 ex1 rel1 rst1 rv1 p1=>?_;obtain⟨z,e1,p2⟩:=Po.opt p1;refine lE.mk rel1 rst1 ra p2 λm2 w2 μ2 h2 H2 ex2 rel2 rst2 rv2 p3=>?_;obtain⟨z',e1',p4⟩:=Po.opt p3;rw[e1] at e1';cases e1';obtain⟨i,e2,p5⟩:=Po.opt p4;obtain⟨c,e3,p6⟩:=Po.opt p5;have:=Zh e2;subst this;split at e3
 next hz =>
  have hlt:=(Xa.mp e3).1;refine⟨z,i,c,zF rv1 e1,zo rv2,Z9 hz.1,?_,p6.now rel2 _ (yW _)⟩;unfold atI ixN;rw[if_pos hz.2,if_pos (by lia)];exact e3
 next=>cases e3
theorem e_inS(ha:PE X a (lE ct Ra E ea))(hb:PE X b (lE ct Ra E eb))(hp:ya b=true) :
  PE X (.Compare a [.In] [b] pos) (lE ct Ra E λσ h=>(ea σ h).bind λx h1=>opt (Yj x) λ_=>(eb σ h1).bind λy h2=>YW .inn x y h2) /\
  PT X (.Compare a [.In] [b] pos) (lT ct Ra E (tst λσ h=>(ea σ h).bind λx h1=>opt (Yj x) λ_=>(eb σ h1).bind λy h2=>YW .inn x y h2)):=by
 have main:∀ σ H Q,lE ct Ra E (λσ h=>(ea σ h).bind λx h1=>opt (Yj x) λ_=>(eb σ h1).bind λy h2=>YW .inn x y h2) σ H Q->tOp (λx y H Q=>∃ i j,x=.str i/\y=.str j/\Q (.bl (!(Builtin.Str.occurrences j i 0 j.length 1).isEmpty)) H) (lE ct Ra E ea) (lE ct Ra E eb) σ H Q:=λσ H Q q=>by
  obtain⟨μ,h,σs,rel,rst,ra,pp⟩:=q;refine lE.mk rel rst ra pp λm w μ1 h1 H1 ex1 rel1 rst1 rv1 p1=>?_;obtain⟨z,e1,p2⟩:=Po.opt p1;refine lE.mk rel1 rst1 ra p2 λm2 w2 μ2 h2 H2 ex2 rel2 rst2 rv2 p3=>?_;obtain⟨z',e1',p4⟩:=Po.opt p3;rw[e1] at e1';cases e1';obtain⟨j,e2,p5⟩:=Po.opt p4;exact⟨z,j,zF rv1 e1,zF rv2 e2,p5.now rel2 _ (zv _)⟩
 have hb':behindInMarks .In b=false:=Zu hp _;exact yR (QaH zaA ha hb hb') (yai zaA ha hb hb') main
theorem e_cat(ha:PE X a (lE ct Ra E ea))(hb:PE X b (lE ct Ra E eb)) :
  PE X (.BinOp a .Add b pos) (lE ct Ra E λσ h=>(ea σ h).bind λx h1=>opt (Yj x) λ_=>(eb σ h1).bind λy h2=>YW .cat x y h2):=by
 refine PE.imp (ZaY zbc ha hb) λσ H Q q=>?_;obtain⟨μ,h,σs,rel,rst,ra,pp⟩:=q;refine lE.mk rel rst ra pp λm w μ1 h1 H1 ex1 rel1 rst1 rv1 p1=>?_;obtain⟨z,e1,p2⟩:=Po.opt p1;refine lE.mk rel1 rst1 ra p2 λm2 w2 μ2 h2 H2 ex2 rel2 rst2 rv2 p3=>?_;obtain⟨z',e1',p4⟩:=Po.opt p3;rw[e1] at e1';cases e1';obtain⟨j,e2,p5⟩:=Po.opt p4;split at p5
 next hz=>exact⟨z,j,zF rv1 e1,zF rv2 e2,Z9 hz,p5.now rel2 _ (yW _)⟩
 next=>exact p5.elim
theorem e_rep(ha:PE X a (lE ct Ra E ea))(hb:PE X b (lE ct Ra E eb)) :
  PE X (.BinOp a .Mult b pos) (lE ct Ra E λσ h=>(ea σ h).bind λx h1=>opt (Yj x) λ_=>(eb σ h1).bind λy h2=>YW .rep x y h2):=by
 refine PE.imp (ZaY ybc ha hb) λσ H Q q=>?_;obtain⟨μ,h,σs,rel,rst,ra,pp⟩:=q;refine lE.mk rel rst ra pp λm w μ1 h1 H1 ex1 rel1 rst1 rv1 p1=>?_;obtain⟨z,e1,p2⟩:=Po.opt p1;refine lE.mk rel1 rst1 ra p2 λm2 w2 μ2 h2 H2 ex2 rel2 rst2 rv2 p3=>?_;obtain⟨z',e1',p4⟩:=Po.opt p3;rw[e1] at e1';cases e1';obtain⟨j,e2,p5⟩:=Po.opt p4;have:=Zh e2;subst this;split at p5
 next hz=>exact⟨z,j,zF rv1 e1,zo rv2,hz.1,hz.2.1,hz.2.2,p5.now rel2 _ (yW _)⟩
 next=>exact p5.elim
theorem zbd{μ:List Addr}{L:Addr->Prop}{H:Hp}:∀{xs ys:List MV}{vs ws:List V}{as:List Nat},RVs ct μ L H xs vs->RVs ct μ L H ys ws->yt xs=some as->yt ys=some as->vs=ws/\∀ v∈vs,∃ c,v=V.ref c
 |[],ys,vs,ws,as,r,r',e,e'=>by
  simp only[yt,Option.some.injEq] at e;subst e;have:ys=[]:=by
   cases ys with
   |nil=>rfl
   |cons y ys=>cases y <;> simp[yt] at e'
  subst this;simp only[RVs] at r r';subst r;subst r';exact⟨rfl,λv h=>by cases h⟩
 |x::xs,ys,vs,ws,as,r,r',e,e'=>by
  cases x with
  |ref i =>
   simp only[yt,Wc] at e;obtain⟨as',e1,rfl⟩:=e;cases ys with
   |nil=>simp[yt] at e'
   |cons y ys =>
    cases y with
    |ref j =>
     simp only[yt,Wc,List.cons.injEq] at e';obtain⟨as2,e2,rfl,rfl⟩:=e';simp only[RVs,RV] at r r';obtain⟨v,t,rfl,⟨b,eb,rfl⟩,r2⟩:=r;obtain⟨v',t',rfl,⟨b',eb',rfl⟩,r2'⟩:=r';rw[eb] at eb';cases eb';obtain⟨q1,q2⟩:=zbd r2 r2' e1 e2;subst q1;exact⟨rfl,λv h=>by
      rcases ua.mp h with rfl|h
      ·exact⟨b,rfl⟩
      ·exact q2 v h⟩
    |_=>simp[yt] at e'
  |_=>simp[yt] at e
theorem Qcd(c:Cc X Pm ct n Ra E N sc)(ha:PE X a (lE ct Ra E ea))(hb:PE X b (lE ct Ra E eb))(hp:ya b=true) :
  PE X (.Compare a [.Eq] [b] pos) (lE ct Ra E λσ h=>(ea σ h).bind λx h1=>opt (some (⟨#[]⟩:Str)) λ_=>(eb σ h1).bind λy h2=>YW .same x y h2) /\
  PT X (.Compare a [.Eq] [b] pos) (lT ct Ra E (tst λσ h=>(ea σ h).bind λx h1=>opt (some (⟨#[]⟩:Str)) λ_=>(eb σ h1).bind λy h2=>YW .same x y h2)):=by
 have main:∀ σ H Q,lE ct Ra E (λσ h=>(ea σ h).bind λx h1=>opt (some (⟨#[]⟩:Str)) λ_=>(eb σ h1).bind λy h2=>YW .same x y h2) σ H Q->tOp (λx y H Q=>∃ a b vs,x=.ref a/\y=.ref b/\Rd H a (.lst vs)/\Rd H b (.lst vs)/\(∀ v∈vs,∃ c,v=V.ref c)/\Q (.bl true) H) (lE ct Ra E ea) (lE ct Ra E eb) σ H Q:=λσ H Q q=>by
  obtain⟨μ,h,σs,rel,rst,ra,pp⟩:=q;refine lE.mk rel rst ra pp λm w μ1 h1 H1 ex1 rel1 rst1 rv1 p1=>?_;refine lE.mk rel1 rst1 ra p1 λm2 w2 μ2 h2 H2 ex2 rel2 rst2 rv2 p3=>?_;obtain⟨as,e1,p4⟩:=Po.opt p3;obtain⟨bs,e2,p5⟩:=Po.opt p4;split at p5
  next hz =>
   subst hz;rw[Vb] at e1 e2;obtain⟨xs,e1,f1⟩:=e1;obtain⟨ys,e2,f2⟩:=e2;obtain⟨b1,vs,rfl,rd1,rs1⟩:=Yn rel2 e1 (rv1.ext ex2);obtain⟨b2,ws,rfl,rd2,rs2⟩:=Yn rel2 e2 rv2;obtain⟨q1,q2⟩:=zbd rs1 rs2 f1 f2;subst q1;exact⟨b1,b2,vs,rfl,rfl,rd1,rd2,q2,p5.now rel2 _ (zv _)⟩
  next=>exact p5.elim
 have hb':behindInMarks .Eq b=false:=Zu hp _;have hu:X.A.units<cLine:=by have:=c.units;lia
 exact yR (QaH (zbi hu) ha hb hb') (yai (zbi hu) ha hb hb') main
theorem Zad{P:Program}{w:World}:∀(ks:List (Int×Int)),ks.all yaM=true->ks.Nodup->(ks.map λk=>(tupleKind (qh P w)).hash (kP k)).Nodup
 |[],_,_=>by simp
 |k::ks,h,n=>by
  rw[List.all_cons,xa] at h;rw[Vj] at n;rw[Xb,Vj];refine⟨λm=>?_,Zad ks h.2 n.2⟩;obtain⟨k',hk,e⟩:=vf.mp m;have:=qby (by have q:=Wr.mp h.2 k' hk;simpa[yaM,qaE] using q) (by have q:=h.1;simpa[yaM,qaE] using q) e;exact n.1 (this ▸ hk)
theorem e_upd{ap cp:Pos}(c:Cc X Pm ct n Ra E N sc)(ha:PE X a (lE ct Ra E ea))(hb:PE X b (lE ct Ra E eb))(hn:Yf a=true)(hpl:ya b=true)(hline:(ap.endLine==cp.line)=true) :
  PE X (.Call (.Attribute a "update" ap) [b] [] cp) (lE ct Ra E λσ h=>(ea σ h).bind λx h1=>opt ((Qad h1 x).map λ_=>(⟨#[]⟩:Str)) λ_=>(eb σ h1).bind λy h2=>YW .upd x y h2):=by
 have hpl':∀ e∈[b],ya e=true:=λe he=>by rw[Ub.mp he];exact hpl
 have hu:X.A.units+3<cLine:=by have:=c.units;lia
 refine PE.imp (QbP hu ha hb ⟨Qu hn,ZR hpl' (by simp),hline,by rw[Zi hpl'];rfl⟩) λσ H Q q=>?_;obtain⟨μ,h,σs,rel,rst,ra,pp⟩:=q;refine lE.mk rel rst ra pp λm w μ1 h1 H1 ex1 rel1 rst1 rv1 p1=>?_;obtain⟨st,e0,p2⟩:=Po.opt p1;rw[Wc] at e0;obtain⟨ks0,e0,_⟩:=e0;obtain⟨c,rfl,rd0⟩:=Zcm rel1 rv1 e0;refine⟨c,rfl,.inr ⟨_,rd0⟩,?_⟩;refine lE.mk rel1 rst1 ra p2 λm2 w2 μ2 h2 H2 ex2 rel2 rst2 rv2 p3=>?_;have rv1':=rv1.ext ex2;rw[show YW .upd m m2 h2=updV m m2 h2 from rfl] at p3;cases m with
 |ref i =>
  cases m2 with
  |f y =>
   cases y with
   |msk ks' =>
    obtain⟨ks,e1,p4⟩:=Po.opt p3;simp only[RV] at rv1';obtain⟨c',ec,ecc⟩:=rv1';cases ecc;have hc:=qaz e1;have hH:H2 c=some (.dT (YD ks)):=rel2.cells _ _ _ ec hc;simp only[RV,RF] at rv2;obtain⟨d,o,rfl,nd,hd⟩:=rv2;have ex4:=λl=>Ext.set (H:=H2) rel2 ec hc (λz=>nomatch z) (.msk l) (.dT (YD l));have rel4:=λl=>rel2.set (c':=.msk l) (o:=.dT (YD l)) ec hc (λz=>nomatch z) zf;refine⟨d,YD ks,YD ks',rfl,hH,.inr ⟨o,hd⟩,λz=>?_,?_⟩
    ·rw[z,hd] at hH;cases hH
    ·split at p4
     next hq =>
      split at p4
      next hq2 =>
       left
       have e6:(if YD ks'=[] then YD ks else YD ks')=YD (if ks'=[] then ks else ks'):=by
        by_cases z:ks'=[]
        ·subst z;rfl
        ·rw[if_neg z,if_neg (by intro q;exact z (Vs.mp q))]
       refine⟨?_,?_,?_⟩
       ·rcases hq with z|z
        ·left;rw[z];rfl
        ·right;rw[z];rfl
       ·rw[vh];exact Zad ks' hq2.1 hq2.2
       ·rw[e6];exact p4.now' (ex4 _) (rel4 _) _ (by simp only[RV,RF])
      next=>exact p4.elim
     next hq =>
      split at p4
      next hz =>
       right
       refine⟨λz=>hq (.inl (Vs.mp z)),λz=>hq (.inr (Vs.mp z)),by rw[Wd,Wd];exact hz,?_⟩;rw[Qaq];exact p4.now' (ex4 _) (rel4 _) _ (by simp only[RV,RF])
      next=>exact p4.elim
   |_=>exact p3.elim
  |ref _=>exact p3.elim
  |tup _=>exact p3.elim
  |exc _=>exact p3.elim
 |f _=>cases m2 <;> exact p3.elim
 |tup _=>cases m2 <;> exact p3.elim
 |exc _=>cases m2 <;> exact p3.elim
end
section
variable {ct:Tx} {Pm:Prog} {n:Nat}
section
variable {X:Cx} {E:XK} {Ra:L2.St->Prop} {N:List Str} {sc:Scope}
theorem yd{e:Expr}{ev ev':MSt->MH->R MV}(p:PE X e (lE ct Ra E ev))(h:∀ σ hh,ev' σ hh=ev σ hh):PE X e (lE ct Ra E ev'):=by
 have:ev'=ev:=funext λσ=>funext λhh=>h σ hh;rw[this];exact p
theorem zm{e:Expr}{ev ev':MSt->MH->R MV}(p:PE X e (lE ct Ra E ev)/\PT X e (lT ct Ra E (tst ev)))(h:∀ σ hh,ev' σ hh=ev σ hh):PE X e (lE ct Ra E ev')/\PT X e (lT ct Ra E (tst ev')):=by
 have:ev'=ev:=funext λσ=>funext λhh=>h σ hh;rw[this];exact p
theorem Cc.comp{cs:Scope}{N':List Str}(c:Cc X Pm ct n Ra E N sc)(nd:N'.Nodup)(C:Addr)(s3:Shared)(H:Hp)(ex:List Addr):Cc (cxC X cs N' C s3 H ex) Pm ct n (λ_=>True) E0 N' (yF cs sc) :=
 ⟨c.txt,c.calm,c.room,λσ _ pins H s e s' I ⟨_,_,_,_,_,_,_,_,_,_,_,_,_,_,_,q⟩=>q.elim,rfl,by rw[<- c.sc];rfl,nd,c.hK⟩
noncomputable def Sd(X:Cx)(ct:Tx)(Pm:Prog)(n:Nat)(Ra:L2.St->Prop)(E:XK)(me:ME)(e:Expr):Prop :=
 PE X e (lE ct Ra E (qa Pm (run Pm n) me))/\(okT me=true->PT X e (lT ct Ra E (tst (qa Pm (run Pm n) me))))
theorem Sd.of{me:ME}{e:Expr}(h:PE X e (lE ct Ra E (qa Pm (run Pm n) me))/\PT X e (lT ct Ra E (tst (qa Pm (run Pm n) me)))):Sd X ct Pm n Ra E me e:=⟨h.1,λ_=>h.2⟩
theorem zbJ{ms:List ME}{es:List Expr}(b:Bo ct X Ra E Pm n ms es)(hl:es.length<1000):∀ σ h xs h',qg Pm (run Pm n) ms σ h=.ok xs h'->xs.length<=sizeLine:=λσ h xs h' e=>by
 rw[zB e,b.length];exact xf (Vy hl) (by decide)
end
end
end SD
end
section
namespace SD
open PySem PySem.Spec PyProof.Rows L2 L3 M3 MP
variable {ct:Tx} {Pm:Prog} {n:Nat}
theorem qbx{X:Cx}{E:XK}{Ra:L2.St->Prop}{N:List Str}{sc:Scope}{it:String}{t iter:Expr}{ms:List ME}(c:Cc X Pm ct n Ra E N sc)(k1:yar t it iter=true)(k2:gl sc (Str.ofString it)=true)(b:Bo ct X Ra E Pm n ms (Qy iter)) :
  PI X t iter (lI ct Ra E (qg Pm (run Pm n) ms) it):=by
 obtain⟨g1,g2,g3⟩:=qN c.sc k2;unfold yar at k1;split at k1
 next x p as p2 =>
  simp only[xa,Xk,beq_iff_eq] at k1;obtain⟨k1,rfl⟩:=k1;have b':Bo ct X Ra E Pm n ms as:=b
  rcases k1 with (⟨rfl,ha⟩|⟨⟨rfl,ht⟩,ha⟩)|⟨⟨rfl,ht⟩,ha⟩
  ·have hl:=b'.length;have hm:X.mg "range"=none:=c.txt.blts "range" (by simp);exact QbD g1 hm b'.pa b'.plain ha λσ h xs h' e=>by rw[zB e,hl]
  ·cases t with
   |Tuple es k pt =>
    have hm:X.mg "zip"=none:=c.txt.blts "zip" (by simp)
    rcases as with _|⟨u,_|⟨v,_|⟨w,as⟩⟩⟩
    ·simp at ha
    ·simp at ha
    ·exact qck c.hK g1 hm b'.pa b'.plain λσ h xs h' e=>by rw[zB e,b'.length];rfl
    ·simp at ha
   |_=>exact ui ht
  ·cases t with
   |Tuple es k pt =>
    have hm:X.mg "enumerate"=none:=c.txt.blts "enumerate" (by simp)
    rcases as with _|⟨u,_|⟨v,as⟩⟩
    ·simp at ha
    ·exact qbY c.hK g1 hm b'.pa b'.plain λσ h xs h' e=>by rw[zB e,b'.length];rfl
    ·simp at ha
   |_=>exact ui ht
 next=>exact ui k1
mutual
theorem sB:∀(me:ME){X:Cx}{E:XK}{Ra:L2.St->Prop}{N:List Str} {sc:Scope} (c:Cc X Pm ct n Ra E N sc) (e:Expr),Qe Pm me N sc e=true->Sd X ct Pm n Ra E me e
 |.var i,X,E,Ra,N,sc,c,e,h=>by
  have h:=qe h;cases e with
  |Name x p =>
   have h:(N[i]? == some x&&YaQ sc x)=true:=h;simp only[xa,beq_iff_eq] at h;exact Sd.of (qd (yd (e_var (by rw[c.nm];exact h.1) (by rw[c.sc];exact h.2)) λσ hh=>by simp only[qa]))
  |_=>exact ff h
 |.cI i,X,E,Ra,N,sc,c,e,h=>by
  have h:=qe h;cases e with
  |Constant k j p =>
   cases k with
   |int z =>
    have hz:i=z:=by simpa using(show(i==z)=true from h)
    subst hz;exact Sd.of (qd (yd (Zai ZaF λ_ _ _=>QC _) λσ hh=>by simp only[qa]))
   |_=>exact ff h
  |_=>exact ff h
 |.cB i,X,E,Ra,N,sc,c,e,h=>by
  have h:=qe h;cases e with
  |Constant k j p =>
   cases k with
   |bool z =>
    have hz:i=z:=by simpa using(show(i==z)=true from h)
    subst hz;exact Sd.of (qd (yd (Zai pe_bl λ_ _ _=>zv _) λσ hh=>by simp only[qa]))
   |_=>exact ff h
  |_=>exact ff h
 |.cN,X,E,Ra,N,sc,c,e,h=>by
  have h:=qe h;cases e with
  |Constant k j p =>
   cases k with
   |none =>
    exact Sd.of (qd (yd (Zai Zcl λ_ _ _=>Zaa) λσ hh=>by simp only[qa]))
   |_=>exact ff h
  |_=>exact ff h
 |.cS i,X,E,Ra,N,sc,c,e,h=>by
  have h:=qe h;cases e with
  |Constant k j p =>
   cases k with
   |str z =>
    have hz:i=z:=by simpa using(show(i==z)=true from h)
    subst hz;exact Sd.of (qd (yd (Zai zy λ_ _ _=>yW _) λσ hh=>by simp only[qa]))
   |_=>exact ff h
  |_=>exact ff h
 |.bin fz op a b,X,E,Ra,N,sc,c,e,h=>by
  have h:=qe h;cases e with
  |BinOp l o r p =>
   have h:(o==mOp op&&Qe Pm a N sc l&&Qe Pm b N sc r)=true:=h;simp only[xa,beq_iff_eq] at h;obtain⟨⟨rfl,h1⟩,h2⟩:=h;exact Sd.of (qd (yd (e_bin fz op (sB a c l h1).1 (sB b c r h2).1) λσ hh=>by simp only[qa]))
  |_=>exact ff h
 |.neg a,X,E,Ra,N,sc,c,e,h=>by
  have h:=qe h;cases e with
  |UnaryOp o x p =>
   cases o with
   |USub=>exact Sd.of (qd (yd (e_neg (sB a c x (show Qe Pm a N sc x=true from h)).1) λσ hh=>by simp only[qa]))
   |_=>exact ff h
  |_=>exact ff h
 |.cmp op a b,X,E,Ra,N,sc,c,e,h=>by
  have h:=qe h;cases e with
  |Compare l os rs p =>
   rcases os with _|⟨o,_|⟨o2,os⟩⟩
   ·exact ff h
   ·rcases rs with _|⟨r,_|⟨r2,rs⟩⟩
    ·exact ff h
    ·have h:(o==Yac op&&Qe Pm a N sc l&&Qe Pm b N sc r)=true:=h;simp only[xa,beq_iff_eq] at h;obtain⟨⟨rfl,h1⟩,h2⟩:=h;exact Sd.of (zm (e_cmp c.hK op c.units (sB a c l h1).1 (sB b c r h2).1 (Qi h2)) λσ hh=>by simp only[qa])
    ·exact ff h
   ·exact ff h
  |_=>exact ff h
 |.chain op op2 a b d,X,E,Ra,N,sc,c,e,h=>by
  have h:=qe h;cases e with
  |Compare l os rs p =>
   rcases os with _|⟨o,_|⟨o2,_|⟨o3,os⟩⟩⟩
   ·exact ff h
   ·exact ff h
   ·rcases rs with _|⟨m,_|⟨r,_|⟨r2,rs⟩⟩⟩
    ·exact ff h
    ·exact ff h
    ·have h:(o==Yac op&&o2==Yac op2&&Qe Pm a N sc l&&Qe Pm b N sc m&&Qe Pm d N sc r)=true:=h;simp only[xa,beq_iff_eq] at h;obtain⟨⟨⟨⟨rfl,rfl⟩,h1⟩,h2⟩,h3⟩:=h;exact Sd.of (zm (zbV c.hK op op2 c.units (sB a c l h1).1 (sB b c m h2).1 (sB d c r h3).1 (Qi h3)) λσ hh=>by simp only[qa])
    ·exact ff h
   ·exact ff h
  |_=>exact ff h
 |.isN a,X,E,Ra,N,sc,c,e,h=>by
  have h:=qe h;cases e with
  |Compare l os rs p =>
   rcases os with _|⟨o,_|⟨o2,os⟩⟩
   ·exact ff h
   ·cases o with
    |Is =>
     rcases rs with _|⟨r,_|⟨r2,rs⟩⟩
     ·exact ff h
     ·cases r with
      |Constant k j p2 =>
       cases k with
       |none =>
        have h:Qe Pm a N sc l=true:=h;exact Sd.of (zm (e_isN (sB a c l h).1) λσ hh=>by simp only[qa])
       |_=>exact ff h
      |_=>exact ff h
     ·cases r with
      |Constant k j p2=>cases k <;> exact ff h
      |_=>exact ff h
    |_=>exact ff h
   ·cases o <;> exact ff h
  |_=>exact ff h
 |.notN a,X,E,Ra,N,sc,c,e,h=>by
  have h:=qe h;cases e with
  |Compare l os rs p =>
   rcases os with _|⟨o,_|⟨o2,os⟩⟩
   ·exact ff h
   ·cases o with
    |IsNot =>
     rcases rs with _|⟨r,_|⟨r2,rs⟩⟩
     ·exact ff h
     ·cases r with
      |Constant k j p2 =>
       cases k with
       |none =>
        have h:Qe Pm a N sc l=true:=h;exact Sd.of (zm (qcs (sB a c l h).1) λσ hh=>by simp only[qa])
       |_=>exact ff h
      |_=>exact ff h
     ·cases r with
      |Constant k j p2=>cases k <;> exact ff h
      |_=>exact ff h
    |_=>exact ff h
   ·cases o <;> exact ff h
  |_=>exact ff h
 |.and es,X,E,Ra,N,sc,c,e,h=>by
  have h:=qe h;cases e with
  |BoolOp o vs p =>
   cases o with
   |And =>
    have h:(es.all okT&&Yk Pm es N sc vs)=true:=h;rw[xa] at h;obtain⟨i1,i2⟩:=Qb7 (pos:=p) (sBs es c vs h.2) h.1;exact Sd.of (zm ⟨i1,i2.pt⟩ λσ hh=>by simp only[qa])
   |_=>exact ff h
  |_=>exact ff h
 |.or es,X,E,Ra,N,sc,c,e,h=>by
  have h:=qe h;cases e with
  |BoolOp o vs p =>
   cases o with
   |Or =>
    have h:(es.all okT&&Yk Pm es N sc vs)=true:=h;rw[xa] at h;obtain⟨i1,i2⟩:=e_or (pos:=p) (sBs es c vs h.2) h.1;exact Sd.of (zm ⟨i1,i2.pt⟩ λσ hh=>by simp only[qa])
   |_=>exact ff h
  |_=>exact ff h
 |.not a,X,E,Ra,N,sc,c,e,h=>by
  have h:=qe h;cases e with
  |UnaryOp o x p =>
   cases o with
   |Not =>
    have h:(okT a&&Qe Pm a N sc x)=true:=h;rw[xa] at h;obtain⟨i1,i2⟩:=sB a c x h.2;exact Sd.of (zm (e_not i1 (i2 h.1)) λσ hh=>by simp only[qa])
   |_=>exact ff h
  |_=>exact ff h
 |.ite d a b,X,E,Ra,N,sc,c,e,h=>by
  have h:=qe h;cases e with
  |IfExp t x y p =>
   have h:(okT d&&Qe Pm d N sc t&&Qe Pm a N sc x&&Qe Pm b N sc y)=true:=h;simp only[xa] at h;obtain⟨⟨⟨h0,h1⟩,h2⟩,h3⟩:=h;exact⟨yd (e_ite ((sB d c t h1).2 h0) (sB a c x h2).1 (sB b c y h3).1) λσ hh=>by simp only[qa],λz=>ui z⟩
  |_=>exact ff h
 |.tup es,X,E,Ra,N,sc,c,e,h=>by
  have h:=qe h;cases e with
  |Tuple vs k p =>
   have h:(decide (vs.length<1000)&&Yk Pm es N sc vs)=true:=h;rw[xa] at h;have b:=sBs es c vs h.2;exact Sd.of (qd (yd (e_tup b.pa (zbJ b (of_decide_eq_true h.1))) λσ hh=>by simp only[qa]))
  |_=>exact ff h
 |.lst fz es,X,E,Ra,N,sc,c,e,h=>by
  have h:=qe h;cases e with
  |List vs p =>
   have h:(decide (vs.length<1000)&&Yk Pm es N sc vs)=true:=h;rw[xa] at h;have b:=sBs es c vs h.2;exact Sd.of (qd (yd (e_lst fz b.pa (zbJ b (of_decide_eq_true h.1))) λσ hh=>by simp only[qa]))
  |_=>exact ff h
 |.sub a i,X,E,Ra,N,sc,c,e,h=>by
  have h:=qe h;cases e with
  |Subscript x y p =>
   have h:(Qe Pm a N sc x&&Qe Pm i N sc y)=true:=h;rw[xa] at h;exact Sd.of (qd (yd (e_sub c.hK (sB a c x h.1).1 (sB i c y h.2).1 (Qi h.2)) λσ hh=>by simp only[qa]))
  |_=>exact ff h
 |.slice fz a lo hi,X,E,Ra,N,sc,c,e,h=>by
  have h:=qe h;cases e with
  |Subscript x y p =>
   cases y with
   |Slice l u st p2 =>
    cases st with
    |none =>
     have h:(Qe Pm a N sc x&&zbG Pm lo N sc l&&zbG Pm hi N sc u)=true:=h;simp only[xa] at h;obtain⟨⟨h1,h2⟩,h3⟩:=h;exact Sd.of (qd (yd (zbU c.hK fz (sB a c x h1).1 (sBo lo c l h2) (sBo hi c u h3)) λσ hh=>by simp only[qa]))
    |some _=>exact ff h
   |_=>exact ff h
  |_=>exact ff h
 |.fld a f,X,E,Ra,N,sc,c,e,h=>by
  have h:=qe h;cases e with
  |Attribute x m p =>
   have h:(m==Str.ofString f&&Yf x&&Qe Pm a N sc x)=true:=h;simp only[xa,beq_iff_eq] at h;obtain⟨⟨rfl,h1⟩,h2⟩:=h;exact Sd.of (qd (yd (e_fld c.txt (sB a c x h2).1 h1) λσ hh=>by simp only[qa]))
  |_=>exact ff h
 |.call f es,X,E,Ra,N,sc,c,e,h=>by
  have h:=qe h;cases e with
  |Call g as ks p =>
   cases g with
   |Name x p2 =>
    cases as with
    |nil=>exact ff h
    |cons v vs =>
     cases ks with
     |cons _ _=>exact ff h
     |nil =>
      have h:(x==Str.ofString f&&gl sc x&&!(f.toList.contains '.')&&(Pm.defs f).isSome&&Yk Pm es N sc (v::vs))=true:=h;simp only[xa,beq_iff_eq,uj] at h;obtain⟨⟨⟨⟨rfl,h1⟩,h2⟩,h3⟩,h4⟩:=h;obtain⟨d,hd⟩:=uk.mp h3;have b:=sBs es c (v::vs) h4;exact Sd.of (qd (yd (Qcl c hd h2 h1 b.pa b.plain) λσ hh=>by simp only[qa]))
   |_=>exact ff h
  |_=>exact ff h
 |.make fz cn es,X,E,Ra,N,sc,c,e,h=>by
  have h:=qe h;cases e with
  |Call g as ks p =>
   cases g with
   |Name x p2 =>
    cases as with
    |nil =>
     cases ks with
     |cons _ _=>cases es <;> exact ff h
     |nil =>
      cases es with
      |cons _ _=>exact ff h
      |nil =>
       have h:(x==Str.ofString cn&&gl sc x&&Pm.mk0 cn&&(Pm.meths cn "__init__").isNone)=true:=h;simp only[xa,beq_iff_eq,Option.isNone_iff_eq_none] at h;obtain⟨⟨⟨rfl,h1⟩,h3⟩,h4⟩:=h;exact Sd.of (qd (yd (Zb3 fz c h3 h4 h1) λσ hh=>by simp only[qa,qg]))
    |cons v vs =>
     cases ks with
     |cons _ _=>exact ff h
     |nil =>
      have h:(x==Str.ofString cn&&gl sc x&&(Pm.meths cn "__init__").isSome&&Yk Pm es N sc (v::vs))=true:=h;simp only[xa,beq_iff_eq] at h;obtain⟨⟨⟨rfl,h1⟩,h3⟩,h4⟩:=h;obtain⟨d,hd⟩:=uk.mp h3;have b:=sBs es c (v::vs) h4;exact Sd.of (qd (yd (Qcc fz c hd h1 b.pa b.plain) λσ hh=>by simp only[qa]))
   |_=>exact ff h
  |_=>exact ff h
 |.meth o m es,X,E,Ra,N,sc,c,e,h=>ff (qe h)
 |.blt fz id es,X,E,Ra,N,sc,c,e,h=>by
  have h:=qe h;cases e with
  |Call g as ks p =>
   cases g with
   |Name x p2 =>
    cases as with
    |nil=>exact ff h
    |cons v vs =>
     cases ks with
     |cons _ _=>exact ff h
     |nil =>
      have h:(x==Str.ofString id&&gl sc x&&(fnNames.contains id||tyNames.contains id)&&Yk Pm es N sc (v::vs))=true:=h;simp only[xa,beq_iff_eq,Xk] at h;obtain⟨⟨⟨rfl,h1⟩,h2⟩,h4⟩:=h;have b:=sBs es c (v::vs) h4;exact Sd.of (qd (yd (e_blt fz c (by simpa using h2) h1 b.pa b.plain) λσ hh=>by simp only[qa]))
   |_=>exact ff h
  |_=>exact ff h
 |.isI a t,X,E,Ra,N,sc,c,e,h=>by
  have h:=qe h;cases e with
  |Call g as ks p =>
   cases g with
   |Name x p2 =>
    rcases as with _|⟨v,_|⟨y,_|⟨z,as⟩⟩⟩
    ·exact ff h
    ·exact ff h
    ·cases y with
     |Name y p3 =>
      cases ks with
      |nil =>
       have h:(x==("isinstance":Str)&&gl sc x&&y==Str.ofString t&&gl sc y&&(isTys.contains t||(Pm.subs t t).isSome)&&Qe Pm a N sc v)=true:=h;simp only[xa,beq_iff_eq,Xk] at h;obtain⟨⟨⟨⟨⟨rfl,h1⟩,rfl⟩,h2⟩,h3⟩,h4⟩:=h;exact Sd.of (qd (yd (e_isI c h3 h1 h2 (sB a c v h4).1 (Qi h4)) λσ hh=>by simp only[qa]))
      |cons _ _=>exact ff h
     |_=>exact ff h
    ·cases y <;> exact ff h
   |_=>exact ff h
  |_=>exact ff h
 |.tx2 o a b,X,E,Ra,N,sc,c,e,h=>by
  replace h:=qe h;cases o with
  |join =>
   obtain⟨x,ap,v,cp,rfl,h1,h2,h3,h4⟩:∃ x ap v cp,e=.Call (.Attribute x "join" ap) [v] [] cp/\Yf x=true/\(ap.endLine==cp.line)=true/\Qe Pm a N sc x=true/\Qe Pm b N sc v=true:=by
    cases e with
    |Call f as ks p =>
     cases f with
     |Attribute x n ap =>
      rcases as with _|⟨v,_|⟨v2,as⟩⟩
      ·exact ff h
      ·cases ks with
       |nil =>
        replace h:(n==("join":Str)&&Yf x&&(ap.endLine==p.line)&&Qe Pm a N sc x&&Qe Pm b N sc v)=true:=h;simp only[xa,beq_iff_eq] at h;obtain⟨⟨⟨⟨rfl,h1⟩,h2⟩,h3⟩,h4⟩:=h;exact⟨x,ap,v,p,rfl,h1,by simpa using h2,h3,h4⟩
       |cons _ _=>exact ff h
      ·exact ff h
     |_=>exact ff h
    |_=>exact ff h
   exact Sd.of (qd (yd (Yct (sB a c x h3).1 (sB b c v h4).1 h1 (Qi h4) h2) λσ hh=>by simp only[qa,t2g]))
  |split fz =>
   obtain⟨x,ap,v,cp,rfl,h1,h2,h3,h4⟩:∃ x ap v cp,e=.Call (.Attribute x "split" ap) [v] [] cp/\Yf x=true/\(ap.endLine==cp.line)=true/\Qe Pm a N sc x=true/\Qe Pm b N sc v=true:=by
    cases e with
    |Call f as ks p =>
     cases f with
     |Attribute x n ap =>
      rcases as with _|⟨v,_|⟨v2,as⟩⟩
      ·exact ff h
      ·cases ks with
       |nil =>
        replace h:(n==("split":Str)&&Yf x&&(ap.endLine==p.line)&&Qe Pm a N sc x&&Qe Pm b N sc v)=true:=h;simp only[xa,beq_iff_eq] at h;obtain⟨⟨⟨⟨rfl,h1⟩,h2⟩,h3⟩,h4⟩:=h;exact⟨x,ap,v,p,rfl,h1,by simpa using h2,h3,h4⟩
       |cons _ _=>exact ff h
      ·exact ff h
     |_=>exact ff h
    |_=>exact ff h
   exact Sd.of (qd (yd (YbZ fz (sB a c x h3).1 (sB b c v h4).1 h1 (Qi h4) h2) λσ hh=>by simp only[qa,t2g]))
  |«at» =>
   cases e with
   |Subscript x y p =>
    replace h:(Qe Pm a N sc x&&Qe Pm b N sc y)=true:=h;rw[xa] at h;exact Sd.of (qd (yd (e_at (sB a c x h.1).1 (sB b c y h.2).1 (Qi h.2)) λσ hh=>by simp only[qa,t2g]))
   |_=>exact ff h
  |inn =>
   cases e with
   |Compare l os rs p =>
    rcases os with _|⟨o,_|⟨o2,os⟩⟩
    ·exact ff h
    ·rcases rs with _|⟨r,_|⟨r2,rs⟩⟩
     ·cases o <;> exact ff h
     ·cases o with
      |In =>
       replace h:(Qe Pm a N sc l&&Qe Pm b N sc r)=true:=h;simp only[xa] at h;exact Sd.of (zm (e_inS (sB a c l h.1).1 (sB b c r h.2).1 (Qi h.2)) λσ hh=>by simp only[qa,t2g])
      |_=>exact ff h
     ·cases o <;> exact ff h
    ·cases o <;> exact ff h
   |_=>exact ff h
  |cat =>
   cases e with
   |BinOp x o y p =>
    cases o with
    |Add =>
     replace h:(Qe Pm a N sc x&&Qe Pm b N sc y)=true:=h;rw[xa] at h;exact Sd.of (qd (yd (e_cat (sB a c x h.1).1 (sB b c y h.2).1) λσ hh=>by simp only[qa,t2g]))
    |_=>exact ff h
   |_=>exact ff h
  |rep =>
   cases e with
   |BinOp x o y p =>
    cases o with
    |Mult =>
     replace h:(Qe Pm a N sc x&&Qe Pm b N sc y)=true:=h;rw[xa] at h;exact Sd.of (qd (yd (e_rep (sB a c x h.1).1 (sB b c y h.2).1) λσ hh=>by simp only[qa,t2g]))
    |_=>exact ff h
   |_=>exact ff h
  |same =>
   cases e with
   |Compare l os rs p =>
    rcases os with _|⟨o,_|⟨o2,os⟩⟩
    ·exact ff h
    ·rcases rs with _|⟨r,_|⟨r2,rs⟩⟩
     ·cases o <;> exact ff h
     ·cases o with
      |Eq =>
       replace h:(Qe Pm a N sc l&&Qe Pm b N sc r)=true:=h;simp only[xa] at h;exact Sd.of (zm (Qcd c (sB a c l h.1).1 (sB b c r h.2).1 (Qi h.2)) λσ hh=>by simp only[qa,t2g])
      |_=>exact ff h
     ·cases o <;> exact ff h
    ·cases o <;> exact ff h
   |_=>exact ff h
  |upd =>
   obtain⟨x,ap,v,cp,rfl,h1,h2,h3,h4⟩:∃ x ap v cp,e=.Call (.Attribute x "update" ap) [v] [] cp/\Yf x=true/\(ap.endLine==cp.line)=true/\Qe Pm a N sc x=true/\Qe Pm b N sc v=true:=by
    cases e with
    |Call f as ks p =>
     cases f with
     |Attribute x n ap =>
      rcases as with _|⟨v,_|⟨v2,as⟩⟩
      ·exact ff h
      ·cases ks with
       |nil =>
        replace h:(n==("update":Str)&&Yf x&&(ap.endLine==p.line)&&Qe Pm a N sc x&&Qe Pm b N sc v)=true:=h;simp only[xa,beq_iff_eq] at h;obtain⟨⟨⟨⟨rfl,h1⟩,h2⟩,h3⟩,h4⟩:=h;exact⟨x,ap,v,p,rfl,h1,by simpa using h2,h3,h4⟩
       |cons _ _=>exact ff h
      ·exact ff h
     |_=>exact ff h
    |_=>exact ff h
   exact Sd.of (qd (yd (e_upd c (sB a c x h3).1 (sB b c v h4).1 h1 (Qi h4) h2) λσ hh=>by simp only[qa,t2g]))
 |.nearK a b,X,E,Ra,N,sc,c,e,h=>by
  replace h:=qe h;cases e <;> exact ff h
 |.lm m o es,X,E,Ra,N,sc,c,e,h=>by
  have h:=qe h;cases e with
  |Call g as ks p =>
   cases g with
   |Attribute x nm ap =>
    cases ks with
    |cons _ _=>exact ff h
    |nil =>
     have h:(nm==Str.ofString m&&Yf x&&(ap.endLine==p.line)&&Qe Pm o N sc x&&Yk Pm es N sc as&&(if as.isEmpty then lm0Names.contains m else lmNames.contains m&&decide (as.length<30)))=true:=h;simp only[xa,beq_iff_eq] at h;obtain⟨⟨⟨⟨⟨rfl,h1⟩,h2⟩,h3⟩,h4⟩,h5⟩:=h;have b:=sBs es c as h4;have ho:=(sB o c x h3).1;have hl:(ap.endLine==p.line)=true:=by simpa using h2
     cases as with
     |nil =>
      cases es with
      |cons _ _=>exact b.elim
      |nil =>
       have h5':m∈lm0Names:=by simpa using h5
       simp only[lm0Names,ua,uc,or_false] at h5'
       rcases h5' with rfl
       ·exact Sd.of (qd (yd (e_lm0 PySem.F.slot_list_reverse PySem.F.type_list_reverse qa5 ho h1 hl) λσ hh=>by simp only[qa,qg]))
     |cons v vs =>
      have h5':m∈lmNames/\(v::vs).length<30:=by simpa using h5
      obtain⟨h6,h7⟩:=h5';simp only[lmNames,ua,uc,or_false] at h6
      rcases h6 with rfl|rfl|rfl
      ·exact Sd.of (qd (yd (YbO PySem.F.slot_list_append PySem.F.type_list_append qbj ho h1 b.pa b.plain h7 hl) λσ hh=>by simp only[qa]))
      ·exact Sd.of (qd (yd (YbO PySem.F.slot_list_insert PySem.F.type_list_insert zbu ho h1 b.pa b.plain h7 hl) λσ hh=>by simp only[qa]))
      ·exact Sd.of (qd (yd (YbO PySem.F.slot_list_extend PySem.F.type_list_extend qbn ho h1 b.pa b.plain h7 hl) λσ hh=>by simp only[qa]))
   |_=>exact ff h
  |_=>exact ff h
 |.comp fz elt tg it src cond ncv js,X,E,Ra,N,sc,c,e,h=>by
  have h:=qe h;cases e with
  |ListComp x gs cs p =>
   rcases gs with _|⟨⟨t,iter,ifs,a⟩,_|⟨g2,gs⟩⟩
   ·exact ff h
   ·have h:((a==0)&&ya iter&&qv sc N cs (tgN tg t++js.filterMap λj=>N[j]?) ncv js&&decide (tgN tg t++js.filterMap λj=>N[j]?).Nodup&&qy (ownC cs) (tgN tg t++js.filterMap λj=>N[j]?) (yF cs sc) tg t&&Qe Pm elt (tgN tg t++js.filterMap λj=>N[j]?) (yF cs sc) x&&chkC Pm cond (tgN tg t++js.filterMap λj=>N[j]?) (yF cs sc) ifs&&(if it == "seq" then ybj Pm src N sc iter else if it == "signs" then false else if it == "enum1" then false else yar t it iter&&gl sc (Str.ofString it)&&Yk Pm src N sc (Qy iter)))=true:=h;simp only[xa,beq_iff_eq,decide_eq_true_eq] at h;obtain⟨⟨⟨⟨⟨⟨⟨ha,h1⟩,h2⟩,h3⟩,h4⟩,h5⟩,h6⟩,h7⟩:=h;subst ha;have hi:PI X t iter (lI ct Ra E (qg Pm (run Pm n) src) it):=by
     split at h7
     next hs =>
      subst hs;exact sBi src c t iter h7
     next hs =>
      split at h7
      next hs4 =>
       subst hs4;exact ff h7
      next =>
      split at h7
      next hs2 =>
       exact ff h7
      next =>
       simp only[xa] at h7;obtain⟨⟨k1,k2⟩,k3⟩:=h7;exact qbx c k1 k2 (sBs src c (Qy iter) k3)
    exact Sd.of (qd (yd (Qcr fz (by rw[c.sc,c.nm];exact h2) c.calm hi (λC s3 H ex=>sG rfl (c.comp h3 C s3 H ex).sc h3 c.calm (λ_ z=>z) tg t h4) (λC s3 H ex=>sBc cond (c.comp h3 C s3 H ex) ifs h6) (λC s3 H ex=>(sB elt (c.comp h3 C s3 H ex) x h5).1) h1) λσ hh=>by simp only[qa]))
   ·exact ff h
  |_=>exact ff h
 |.frz m,X,E,Ra,N,sc,c,e,h=>by
  have h:=qe h;have h':Qe Pm m N sc e=true:=h;exact⟨yd (e_frz (sB m c e h').1) λσ hh=>by simp only[qa],λz=>ui z⟩
theorem sBs:∀(mes:List ME){X:Cx}{E:XK}{Ra:L2.St->Prop}{N:List Str} {sc:Scope} (c:Cc X Pm ct n Ra E N sc) (es:List Expr),Yk Pm mes N sc es=true->Bo ct X Ra E Pm n mes es
 |[],X,E,Ra,N,sc,c,es,h=>by
  cases es with
  |nil=>trivial
  |cons e es=>exact ff h
 |m::ms,X,E,Ra,N,sc,c,es,h=>by
  cases es with
  |nil=>exact ff h
  |cons e es =>
   have h:=qba h;exact⟨⟨Qi h.1,sB m c e h.1⟩,sBs ms c es h.2⟩
theorem sBi:∀(mes:List ME){X:Cx}{E:XK}{Ra:L2.St->Prop}{N:List Str} {sc:Scope} (c:Cc X Pm ct n Ra E N sc) (t e:Expr),ybj Pm mes N sc e=true->PI X t e (lI ct Ra E (qg Pm (run Pm n) mes) "seq")
 |[],X,E,Ra,N,sc,c,t,e,h=>ff h
 |[m],X,E,Ra,N,sc,c,t,e,h=>by
  have h:Qe Pm m N sc e=true:=h;have:=zch c.hK (tg:=t) (sB m c e h).1;have e2:qg Pm (run Pm n) [m]=λσ hh=>(qa Pm (run Pm n) m σ hh).bind λx h1=>.ok [x] h1:=by
   funext σ hh;simp only[qg] <;> rfl
  rw[e2];exact this
 |_::_::_,X,E,Ra,N,sc,c,t,e,h=>ff h
theorem sBo:∀(mo:Option ME){X:Cx}{E:XK}{Ra:L2.St->Prop}{N:List Str} {sc:Scope} (c:Cc X Pm ct n Ra E N sc) (eo:Option Expr),zbG Pm mo N sc eo=true->PO X eo (lO ct Ra E (zaP Pm (run Pm n) mo))
 |none,X,E,Ra,N,sc,c,eo,h=>by
  cases eo with
  |none =>
   refine PO.imp ybT λσ H Q q=>?_;obtain⟨μ,hh,σs,rel,rst,ra,p⟩:=q;simp only[zaP] at p;exact p.now rel
  |some e=>exact ff h
 |some m,X,E,Ra,N,sc,c,eo,h=>by
  cases eo with
  |none=>exact ff h
  |some e =>
   have h:Qe Pm m N sc e=true:=h;refine PO.imp (Yb3 (sB m c e h).1) λσ H Q q=>?_;obtain⟨μ,hh,σs,rel,rst,ra,p⟩:=q;simp only[zaP] at p;refine lE.mk rel rst ra p λx v μ1 h1 H1 ex rel1 rst1 rv p1=>?_;obtain⟨i,e,p2⟩:=Po.opt p1;have:=Zh e;subst this;exact⟨i,zo rv,p2.now rel1⟩
theorem sBc:∀(mo:Option ME){X:Cx}{E:XK}{Ra:L2.St->Prop}{N:List Str} {sc:Scope} (c:Cc X Pm ct n Ra E N sc) (es:List Expr),chkC Pm mo N sc es=true->PIf X es (lT ct Ra E (QaT Pm (run Pm n) mo))
 |none,X,E,Ra,N,sc,c,es,h=>by
  cases es with
  |nil =>
   refine PIf.imp qbW λσ H Q q=>?_;obtain⟨μ,hh,σs,rel,rst,ra,p⟩:=q;simp only[QaT] at p;exact p.now rel
  |cons e es=>exact ff h
 |some m,X,E,Ra,N,sc,c,es,h=>by
  rcases es with _|⟨e,_|⟨e2,es⟩⟩
  ·exact ff h
  ·have h:(okT m&&Qe Pm m N sc e)=true:=h;rw[xa] at h;have e2:QaT Pm (run Pm n) (some m)=tst (qa Pm (run Pm n) m):=by
    funext σ hh;simp only[QaT,tst]
   rw[e2];exact zbj ((sB m c e h.2).2 h.1)
  ·exact ff h
end
end SD
end
section
namespace SD
open PySem PySem.Spec PyProof.Rows L2 L3 M3 MP
noncomputable def PoS(ct:Tx)(E:XK)(r:RS)(μ:List Addr)(h:MH)(H:Hp)(D:Ends):Prop:=match r with
 |.next σ' h'=>∀ μ' H' σ,Ext μ h H μ' h' H'->Rel ct μ' h' H'->RelSt ct μ' h' H' σ σ'->D.nx σ H'
 |.ret m h'=>∀ μ' H' v,Ext μ h H μ' h' H'->Rel ct μ' h' H'->RV ct μ' (Liv μ' h') H' m v->D.rt v H'
 |.brk σ' h'=>∀ μ' H' σ,Ext μ h H μ' h' H'->Rel ct μ' h' H'->RelSt ct μ' h' H' σ σ'->D.bk σ H'
 |.cnt σ' h'=>∀ μ' H' σ,Ext μ h H μ' h' H'->Rel ct μ' h' H'->RelSt ct μ' h' H' σ σ'->D.ct σ H'
 |.exc c h'=>∀ μ' H',Ext μ h H μ' h' H'->Rel ct μ' h' H'->E (.ref (ct c)) none H'
 |.stuck=>False
noncomputable def lS(ct:Tx)(Ra:L2.St->Prop)(E:XK)(ex:MSt->MH->RS):TS:=λD σ H=>∃ μ h σs,Rel ct μ h H/\RelSt ct μ h H σ σs/\Ra σ/\PoS ct E (ex σs h) μ h H D
section
variable {ct:Tx} {Pm:Prog} {n:Nat} {X:Cx} {E:XK} {Ra:L2.St->Prop} {N:List Str} {sc:Scope}
section
variable {μ μ1:List Addr} {h h1:MH} {H H1:Hp} {D:Ends} {α:Type}
theorem PoS.start{r:RS}(e:Ext μ h H μ1 h1 H1)(p:PoS ct E r μ h H D):PoS ct E r μ1 h1 H1 D:=by
 cases r with
 |next σ' h'=>exactλμ' H' σ e' r' q=>p μ' H' σ (e.trans e') r' q
 |ret m h'=>exactλμ' H' v e' r' q=>p μ' H' v (e.trans e') r' q
 |brk σ' h'=>exactλμ' H' σ e' r' q=>p μ' H' σ (e.trans e') r' q
 |cnt σ' h'=>exactλμ' H' σ e' r' q=>p μ' H' σ (e.trans e') r' q
 |exc c h'=>exactλμ' H' e' r'=>p μ' H' (e.trans e') r'
 |stuck=>exact p
theorem PoS.st{r:R α}{k:α->MH->RS}(p:PoS ct E (r.st k) μ h H D):Po ct E r μ h H λx μ1 h1 H1=>Ext μ h H μ1 h1 H1/\Rel ct μ1 h1 H1/\PoS ct E (k x h1) μ1 h1 H1 D:=by
 cases r with
 |ok x h'=>exactλμ' H' e' r'=>⟨e',r',PoS.start (r:=k x h') e' p⟩
 |exc c h'=>exact p
 |stuck=>exact p
theorem PoS.opt{o:Option α}{k:α->RS}(p:PoS ct E (ZC o k) μ h H D):∃ x,o=some x/\PoS ct E (k x) μ h H D:=by
 cases o with
 |none=>exact p.elim
 |some x=>exact⟨x,rfl,p⟩
end
section
variable {μ:List Addr} {h:MH} {H:Hp} {σ:L2.St} {σs:MSt} {D:Ends}
theorem lE.st{ev:MSt->MH->R MV}{k:MV->MH->RS}{Q:VK}(rel:Rel ct μ h H)(rst:RelSt ct μ h H σ σs)(ra:Ra σ)(p:PoS ct E ((ev σs h).st k) μ h H D)
  (f:∀ m v μ1 h1 H1,Ext μ h H μ1 h1 H1->Rel ct μ1 h1 H1->RelSt ct μ1 h1 H1 σ σs->RV ct μ1 (Liv μ1 h1) H1 m v->PoS ct E (k m h1) μ1 h1 H1 D->Q v H1):lE ct Ra E ev σ H Q :=
 ⟨μ,h,σs,rel,rst,ra,(PoS.st p).imp λm μ1 h1 H1 ⟨e1,r1,p1⟩ v rv=>f m v μ1 h1 H1 e1 r1 (rst.ext e1) rv p1⟩
end
structure Cs (X:Cx) (Pm:Prog) (ct:Tx) (n:Nat) (E:XK) (N:List Str) (sc:Scope):Prop where
 cc:Cc X Pm ct n (λ_=>True) E N sc
 ex:X.ex=[]
 own:PassesOwn (model X.prog X.w) X.A X.env X.xe
 tk:Zbg X E
 fn:∀ x,X.fn x=true
 kd:X.env.scope.kind=.function
 stk:X.stack=X.env::X.outer
 fr:X.env.frame=some X.env.locals
section
variable {ea eb ec:MSt->MH->R MV} {a b c:Expr} {pos p2:Pos}
noncomputable def Yag:Expr->Bool
 |.ListComp ..=>true
 |.SetComp ..=>true
 |.DictComp ..=>true
 |_=>false
theorem qaj{e:Expr}{t:Option Expr}{l:Nat}{env:Env}(h:Yag e=false):swapsWith e t l env=pure false:=by
 cases e <;> first|rfl|(simp[Yag] at h)
theorem Zb6{e t:Expr}{l:Nat}{env:Env}(h1:∀ x gs cs p,swapsWith (.ListComp x gs cs p) (some t) l env=pure false)(h2:∀ x gs cs p,swapsWith (.SetComp x gs cs p) (some t) l env=pure false)(h3:∀ x y gs cs p,swapsWith (.DictComp x y gs cs p) (some t) l env=pure false):swapsWith e (some t) l env=pure false:=by
 cases hl:Yag e with
 |false=>exact qaj hl
 |true =>
  cases e with
  |ListComp x gs cs p=>exact h1 _ _ _ _
  |SetComp x gs cs p=>exact h2 _ _ _ _
  |DictComp x y gs cs p=>exact h3 _ _ _ _ _
  |_=>exact ui (show false=true from hl)
theorem sw_lc{x:Expr}{gs:List Comprehension}{cs:Scope}{p:Pos}{t:Expr}{l:Nat}{env:Env}(h:∀ x p,t≠.Name x p):swapsWith (.ListComp x gs cs p) (some t) l env=pure false:=by
 cases t with
 |Name x p=>exact absurd rfl (h x p)
 |_=>rfl
theorem ZbP(ha:PE X a (lE ct Ra E ea))(hl:Yag a=false):PS X (.Expr a pos) (lS ct Ra E λσ h=>(ea σ h).st λ_ h1=>.next σ h1):=PS.imp (YbS ha (qaj hl)) λD σ H q=>by
 obtain⟨μ,h,σs,rel,rst,ra,p⟩:=q;exact lE.st rel rst ra p λm v μ1 h1 H1 ex rel1 rst1 rv p1=>p1 μ1 H1 σ (Ext.refl _ _ _) rel1 rst1
theorem s_ret(ha:PE X a (lE ct Ra E ea)):PS X (.Return (some a) pos) (lS ct Ra E λσ h=>(ea σ h).st λv h1=>.ret v h1):=PS.imp (ya8 ha) λD σ H q=>by
 obtain⟨μ,h,σs,rel,rst,ra,p⟩:=q;exact lE.st rel rst ra p λm v μ1 h1 H1 ex rel1 rst1 rv p1=>p1 μ1 H1 v (Ext.refl _ _ _) rel1 rv
theorem s_if{x y:List Stmt}{ex ey:MSt->MH->RS}(tc:PT X c (lT ct Ra E (tst ec)))(hx:PSs X x (lS ct Ra E ex))(hy:PSs X y (lS ct Ra E ey)) :
  PS X (.If c x y pos) (lS ct Ra E λσ h=>(ec σ h).st λv h1=>ZC (qF v) λk=>if k=true then ex σ h1 else ey σ h1):=PS.imp (qb7 tc hx hy) λD σ H q=>by
 obtain⟨μ,h,σs,rel,rst,ra,p⟩:=q;have p':PoS ct E ((tst ec σs h).st λk h1=>if k=true then ex σs h1 else ey σs h1) μ h H D:=by
  dsimp only[tst] at p ⊢;cases er:ec σs h with
  |stuck=>rw[er] at p;exact p
  |exc c h'=>rw[er] at p;exact p
  |ok x h' =>
   rw[er] at p;simp only[R.bind_ok,R.st_ok] at p ⊢;cases eb:qF x with
   |none=>rw[eb] at p;exact p.elim
   |some k=>rw[eb] at p;exact p
 refine⟨μ,h,σs,rel,rst,ra,(PoS.st p').imp λk μ1 h1 H1 ⟨ex1,rel1,p1⟩=>?_⟩;cases k with
 |true=>exact⟨μ1,h1,σs,rel1,rst.ext ex1,ra,p1⟩
 |false=>exact⟨μ1,h1,σs,rel1,rst.ext ex1,ra,p1⟩
theorem s_set{tg:Tg}(c:Cs X Pm ct n E N sc)(ht:qy Yau N sc tg b=true)(ha:PE X a (lE ct (λ_=>True) E ea))(hs:swapsWith a (some b) pos.line X.env=pure false)(hw:swappedStores [b] a X.env=pure none) :
  PS X (.Assign [b] a pos) (lS ct (λ_=>True) E λσ h=>(ea σ h).st λv h1=>ZC (YH tg v σ) λσ1=>.next σ1 h1):=by
 refine PS.imp (zbE ha (sG (ct:=ct) c.cc.nm c.cc.sc c.cc.nd c.cc.calm (λx _=>c.fn x) tg b ht) hs hw (by rw[qab ht [] X.env];rfl)) λD σ H q=>?_;obtain⟨μ,h,σs,rel,rst,ra,p⟩:=q;refine lE.st rel rst ra p λm v μ1 h1 H1 ex rel1 rst1 rv p1=>?_;obtain⟨σ1,e,p2⟩:=PoS.opt p1;exact⟨μ1,h1,σs,m,σ1,rel1,rst1,rv,e,λσ' rst'=>p2 μ1 H1 σ' (Ext.refl _ _ _) rel1 rst'⟩
theorem zbb{o i : Expr}{env : Env}(hp : ya i=true) : ∀ v, assign (.Subscript o i pos) env v=(do
   let ov<-holding [v] (eval o env)
   let iv<-holding [v,ov] (eval i env)
   standAt pos
   holding [v,ov,iv] (setItem ov iv v)
   release [v,ov,iv] []):=by
 intro v;cases i <;> first|rfl|(simp[ya] at hp)
theorem ybO{o i:Expr}(ha:PE X a (lE ct Ra E ea))(ho:PE X o (lE ct Ra E eb))(hi:PE X i (lE ct Ra E ec))(hp:ya i=true) :
  PS X (.Assign [.Subscript o i p2] a pos) (lS ct Ra E λσ h=>(ea σ h).st λv h1=>(eb σ h1).st λx h2=>(ec σ h2).st λy h3 =>
   match x with
   |.ref a=>ZC (Zb h3 a) λxs=>ZC (Yd y) λk=>ZC (ixM xs.length k) λj=>.next σ (ye h3 a (xs.set j v))
   |_=>.stuck):=by
 refine PS.imp (zbE ha (Qco ho hi qbR (zbb hp)) (show swapsWithSole [Expr.Subscript o i p2] a pos.line X.env=pure false from Zb6 (e:=a) (t:=.Subscript o i p2) (l:=pos.line) (env:=X.env) (λ_ _ _ _=>rfl) (λ_ _ _ _=>rfl) (λ_ _ _ _ _=>rfl)) (by cases a <;> rfl) rfl) λD σ H q=>?_;obtain⟨μ,h,σs,rel,rst,ra,p⟩:=q;refine lE.st rel rst ra p λm v μ1 h1 H1 ex1 rel1 rst1 rv p1=>?_;refine lE.st rel1 rst1 ra p1 λm2 v2 μ2 h2 H2 ex2 rel2 rst2 rv2 p2=>?_;refine lE.st rel2 rst2 ra p2 λm3 v3 μ3 h3 H3 ex3 rel3 rst3 rv3 p3=>?_;cases m2 with
 |ref i0 =>
  obtain⟨xs,e1,p4⟩:=PoS.opt p3;obtain⟨k,e2,p5⟩:=PoS.opt p4;obtain⟨j,e3,p6⟩:=PoS.opt p5;have:=Zh e2;subst this;obtain⟨b',vs,eb',hb,rs⟩:=rel3.lst e1;have rv2':=rv2.ext ex3;simp only[RV] at rv2';obtain⟨b0,eb0,rfl⟩:=rv2';rw[eb'] at eb0;cases eb0;have e4:=YJ e1;have ex4:=Ext.set (H:=H3) rel3 eb' e4 (λz=>nomatch z) (.lst (xs.set j m)) (.lst (vs.set j v));refine⟨b',vs,k,j,rfl,zo rv3,hb,by rw[rs.length,<- zbx];exact e3,?_⟩;refine p6 μ3 _ σ ex4 (rel3.set eb' e4 (λz=>nomatch z) ⟨_,zf,?_⟩) (rst3.ext ex4);exact RVs.set (((rv.ext ex2).ext ex3).ext ex4) j (rs.ext ex4)
 |f _=>exact p3.elim
 |tup _=>exact p3.elim
 |exc _=>exact p3.elim
theorem ZaS{μ:List Addr}{L:Addr->Prop}{H:Hp}{f:String}{m:MV}{v:V}(r:RV ct μ L H m v):∀{fs:List (String×MV)} {gs:List (Str×V)},gs.map vt=fs.map (λp=>Str.ofString p.1)->RVs ct μ L H (fs.map wm) (gs.map wm) ->
  (zI (Str.ofString f) v gs).map vt=(zas f m fs).map (λp=>Str.ofString p.1)/\RVs ct μ L H ((zas f m fs).map wm) ((zI (Str.ofString f) v gs).map wm)
 |[],gs,h1,h2=>by
  cases gs with
  |nil=>exact⟨rfl,RVs.cons r RVs.nil⟩
  |cons p gs=>simp at h1
 |(k,y)::fs,gs,h1,h2=>by
  cases gs with
  |nil=>simp at h1
  |cons p gs =>
   obtain⟨k',u⟩:=p;simp only[Xb,List.cons.injEq] at h1;obtain⟨rfl,h3⟩:=h1;simp only[Xb,RVs] at h2;obtain⟨w,t,e,q1,q2⟩:=h2;cases e;unfold zI zas;by_cases hk:k=f
   ·subst hk;rw[if_pos rfl,if_pos rfl];exact⟨by simp[h3],by simp only[Xb];exact RVs.cons r q2⟩
   ·rw[if_neg hk,if_neg (λz=>hk (ZK z))];obtain⟨i1,i2⟩:=ZaS (f:=f) r h3 q2;exact⟨by simp[i1],by simp only[Xb];exact RVs.cons q1 i2⟩
theorem zbF{o:Expr}{f:String}(T:Txt X.prog X.w X.K X.mg X.base Pm ct n)(ha:PE X a (lE ct Ra E ea))(ho:PE X o (lE ct Ra E eb)) :
  PS X (.Assign [.Attribute o (Str.ofString f) p2] a pos) (lS ct Ra E λσ h=>(ea σ h).st λv h1=>(eb σ h1).st λx h2=>match x with
   |.ref a=>match h2[a]? with
    |some (.obj c fs)=>if Pm.fok c f=true/\fs.length<100 then .next σ (h2.set a (.obj c (zas f v fs))) else .stuck
    |_=>.stuck
   |_=>.stuck):=by
 refine PS.imp (zcj ho ha (Zb6 (λ_ _ _ _=>rfl) (λ_ _ _ _=>rfl) (λ_ _ _ _ _=>rfl))) λD σ H q=>?_;obtain⟨μ,h,σs,rel,rst,ra,p⟩:=q;refine lE.st rel rst ra p λm v μ1 h1 H1 ex1 rel1 rst1 rv p1=>?_;refine lE.st rel1 rst1 ra p1 λm2 v2 μ2 h2 H2 ex2 rel2 rst2 rv2 p2=>?_;cases m2 with
 |ref i0 =>
  dsimp only at p2;split at p2
  next c fs ec =>
   split at p2
   next ok =>
    obtain⟨ok1,ok2⟩:=ok;obtain⟨b,dx,gs,eb,hb,q1,q2⟩:=rel2.obj ec;simp only[RV] at rv2;obtain⟨b0,eb0,rfl⟩:=rv2;rw[eb] at eb0;cases eb0;obtain⟨t1,t2⟩:=T.fok c f ok1;have hl:gs.length=fs.length:=by have:=congrArg Us q1;simpa using this
    have ex3:=Ext.set (H:=H2) rel2 eb ec (λz=>nomatch z) (.obj c (zas f m fs)) (.ins (ct c) dx (zI (Str.ofString f) v gs));refine⟨b,ct c,dx,gs,rfl,hb,t1,t2,by lia,?_⟩;obtain⟨s1,s2⟩:=ZaS (f:=f) ((rv.ext ex2).ext ex3) q1 (q2.ext ex3);exact p2 μ2 _ σ ex3 (rel2.set eb ec (λz=>nomatch z) ⟨dx,_,zf,s1,s2⟩) (rst2.ext ex3)
   next=>exact p2.elim
  next=>exact p2.elim
 |f _=>exact p2.elim
 |tup _=>exact p2.elim
 |exc _=>exact p2.elim
end
end
end SD
end
section
namespace SD
open PySem PySem.Spec PyProof.Rows L2 L3 M3 MP
section
variable {ct:Tx} {Pm:Prog} {n:Nat} {X:Cx} {E:XK} {N:List Str} {sc:Scope}
noncomputable abbrev yes:L2.St->Prop:=λ_=>True
section
variable {ea eb ec:MSt->MH->R MV} {a b c:Expr} {pos p2:Pos}
theorem zca{st:Stmt}{rest:List Stmt}{ex ey:MSt->MH->RS}(h1:PS X st (lS ct yes E ex))(h2:PSs X rest (lS ct yes E ey)):PSs X (st::rest) (lS ct yes E λσ h=>(ex σ h).bind λσ1 h1=>ey σ1 h1):=PSs.imp (zD h1 h2) λD σ H q=>by
 obtain⟨μ,h,σs,rel,rst,ra,p⟩:=q;refine⟨μ,h,σs,rel,rst,ra,?_⟩;dsimp only at p;cases er:ex σs h with
 |next σ' h' =>
  rw[er] at p;intro μ' H' σv e1 r1 q1;exact⟨μ',h',σ',r1,q1,trivial,PoS.start e1 p⟩
 |ret m h'=>rw[er] at p;exact p
 |brk σ' h'=>rw[er] at p;exact p
 |cnt σ' h'=>rw[er] at p;exact p
 |exc c h'=>rw[er] at p;exact p
 |stuck=>rw[er] at p;exact p
theorem s_nil:PSs X [] (lS ct yes E λσ h=>.next σ h):=PSs.imp QaF λD σ H q=>by
 obtain⟨μ,h,σs,rel,rst,ra,p⟩:=q;exact p μ H σ (Ext.refl _ _ _) rel rst
theorem Zcr:PS X (.Pass pos) (lS ct yes E λσ h=>.next σ h):=PS.imp qbT λD σ H q=>by
 obtain⟨μ,h,σs,rel,rst,ra,p⟩:=q;exact p μ H σ (Ext.refl _ _ _) rel rst
theorem YbT{cn:String}{v:Expr}{es:List Expr}{ev:MSt->MH->R (List MV)}{np cp:Pos}(c:Cs X Pm ct n E N sc)(hx:Pm.excs cn=true)(hg:gl sc (Str.ofString cn)=true)(ha:PA X (v::es) (lA ct yes E ev))(hpl:∀ e∈v::es,ya e=true)(hl:∀ σ h xs h',ev σ h=.ok xs h'->xs.length<=sizeLine) :
  PS X (.Raise (some (.Call (.Name (Str.ofString cn) np) (v::es) [] cp)) none pos) (lS ct yes E λσ h=>(ev σ h).st λ_ h1=>.exc cn h1):=by
 obtain⟨g1,g2,g3⟩:=qN c.cc.sc hg;obtain⟨x1,x2⟩:=c.cc.txt.excs cn hx;refine PS.imp (Zbz c.cc.calm c.ex c.tk x1 g1 x2 ha g2 (yk (hpl v (by simp))) (qu λe he=>hpl e (by simp[he]))) λD σ H q=>?_;obtain⟨μ,h,σs,rel,rst,ra,p⟩:=q;refine⟨μ,h,σs,rel,rst,ra,?_⟩;dsimp only at p;cases er:ev σs h with
 |stuck=>rw[er] at p;exact p
 |exc c h'=>rw[er] at p;exact p
 |ok xs h' =>
  rw[er] at p;intro μ1 H1 ex rel1 vs rvs;exact⟨by rw[rvs.length];exact hl _ _ _ _ er,p μ1 H1 ex rel1⟩
theorem s_for{tg:Tg}{t iter:Expr}{body:List Stmt}{it:String}{ev:MSt->MH->R (List MV)}{ex:MSt->MH->RS}(c:Cs X Pm ct n E N sc)(hi:PI X t iter (lI ct yes E ev it))(ht:qy Yau N sc tg t=true)(hb:PSs X body (lS ct yes E ex))(hpl:ya iter=true) :
  PS X (.For t iter body [] pos) (lS ct yes E λσ h=>(ev σ h).st λxs h1=>ZC (itV it xs h1) λp=>zu p.2 (zi tg ex) p.1 σ h1):=by
 refine PS.imp (yck c.own c.cc.calm hi (sG (ct:=ct) c.cc.nm c.cc.sc c.cc.nd c.cc.calm (λx _=>c.fn x) tg t ht) hb (QJ hpl)) λD σ H q=>?_;obtain⟨μ,h,σs,rel,rst,ra,p⟩:=q;refine⟨μ,h,σs,rel,rst,ra,(PoS.st p).imp λxs μ1 h1 H1 ⟨ex1,rel1,p1⟩=>?_⟩;obtain⟨⟨items,g⟩,e1,p2⟩:=PoS.opt p1;refine⟨items,g,e1,rel1,λJ wk=>?_⟩;dsimp only at p2;refine⟨λi m σ' H'=>∃ μ' h' σs',m=items.length-i/\i<=items.length/\Ext μ1 h1 H1 μ' h' H'/\Rel ct μ' h' H'/\RelSt ct μ' h' H' σ' σs'/\PoS ct E (zu g (zi tg ex) (items.drop i) σs' h') μ' h' H' D,?_,?_⟩
 ·exact⟨items.length,μ1,h1,σs,by simp,Xq _,Ext.refl _ _ _,rel1,rst.ext ex1,by simpa using p2⟩
 ·rintro i m σ' H' ⟨μ',h',σs',rfl,hi',ex2,rel',rst',p3⟩;by_cases lt:i<items.length
  ·right
   have ed:items.drop i=items[i]::items.drop (i+1):=vy lt;rw[ed] at p3;simp only[zu] at p3;split at p3
   next gd =>
    obtain⟨w1,_⟩:=wk i μ' h' H' ex2 rel' gd;obtain⟨go,yl⟩:=w1 lt;refine⟨go,λσ2 H2=>∃ μ2 h2 σ2s,Ext μ1 h1 H1 μ2 h2 H2/\Rel ct μ2 h2 H2/\RelSt ct μ2 h2 H2 σ2 σ2s/\PoS ct E (zu g (zi tg ex) (items.drop (i+1)) σ2s h2) μ2 h2 H2 D,λσ2 H2 ⟨μ2,h2,σ2s,e2,r2,q2,p4⟩=>⟨items.length-(i+1),by lia,μ2,h2,σ2s,rfl,lt,e2,r2,q2,p4⟩,λx H2 y=>?_⟩;obtain⟨mx,em,ex3,rel2,rx⟩:=yl x H2 y;have emx:mx=items[i]:=by simpa[lt] using em.symm
    subst emx;have p4:=PoS.start ex3 p3;unfold zi at p4;cases eb:YH tg items[i] σs' with
    |none=>rw[eb] at p4;exact p4.elim
    |some σ2s =>
     rw[eb] at p4;simp only[Q9] at p4;refine⟨μ',h',σs',items[i],σ2s,rel2,rst'.ext ex3,rx,eb,λσ2 rst2=>?_⟩;refine⟨μ',h',σ2s,rel2,rst2,trivial,?_⟩;cases er:ex σ2s h' with
     |next σ3 h3 =>
      rw[er] at p4;intro μ3 H3 σv e3 r3 q3;exact⟨μ3,h3,σ3,(ex2.trans ex3).trans e3,r3,q3,PoS.start e3 p4⟩
     |cnt σ3 h3 =>
      rw[er] at p4;intro μ3 H3 σv e3 r3 q3;exact⟨μ3,h3,σ3,(ex2.trans ex3).trans e3,r3,q3,PoS.start e3 p4⟩
     |brk σ3 h3=>rw[er] at p4;exact p4
     |ret m h3=>rw[er] at p4;exact p4
     |exc c h3=>rw[er] at p4;exact p4
     |stuck=>rw[er] at p4;exact p4
   next=>exact p3.elim
  ·left
   have hi2:i=items.length:=by lia
   subst hi2;rw[XE] at p3;simp only[zu] at p3;split at p3
   next gd =>
    obtain⟨_,w2⟩:=wk items.length μ' h' H' ex2 rel' gd;exact⟨w2 rfl,p3 μ' H' σ' (Ext.refl _ _ _) rel' rst'⟩
   next=>exact p3.elim
theorem s_frz{i:Nat}{rest:List Stmt}{ey:MSt->MH->RS}(h2:PSs X rest (lS ct yes E ey)):PSs X rest (lS ct yes E λσ h=>(ZC ((σ[i]?).join) λv=>(zL v h).st λx h1=>.next (σ.set i (some x)) h1).bind λσ1 h1=>ey σ1 h1):=PSs.imp h2 λD σ H q=>by
 obtain⟨μ,h,σs,rel,rst,ra,p⟩:=q;dsimp only at p;cases e:(σs[i]?).join with
 |none=>rw[e] at p;exact p.elim
 |some m =>
  rw[e] at p;simp only[Q9] at p;have e':σs[i]?=some (some m):=by
   cases q:σs[i]? with
   |none=>rw[q] at e;cases e
   |some z=>rw[q] at e;exact congrArg some e
  obtain⟨v,ev,rv⟩:=rst.at_ i m e';cases ef:zL m h with
  |stuck=>rw[ef] at p;exact p.elim
  |exc c h' =>
   unfold zL at ef;cases ed:qG h m with
   |none=>rw[ed] at ef;cases ef
   |some x=>rw[ed] at ef;cases ef
  |ok x h' =>
   rw[ef] at p;simp only[R.st_ok,RS.bind_next] at p;have po:Po ct E (zL m h) μ h H λy μ1 h1 H1=>y=x/\h1=h':=by rw[ef];exactλμ' H' _ _=>⟨rfl,rfl⟩
   obtain⟨y,h'',ex1,rel1,rv1,rfl,rfl⟩:=QbA rel rv po;refine⟨μ,h'',σs.set i (some (.f y)),rel1,?_,trivial,PoS.start ex1 p⟩;have r2:=(rst.ext ex1).set i rv1;have:σ.set i (some v)=σ:=by
    apply vk;intro j;by_cases hj:i=j
    ·subst hj;rw[wg (Xa.mp ev).1,ev]
    ·rw[Uf hj]
   rw[this] at r2;exact r2
end
end
end SD
end
section
namespace SD
open PySem PySem.Spec PyProof.Rows L2 L3 M3 MP
noncomputable def swB(sc cs:Scope)(t:Str)(tp vp:Pos):Bool:=sc.names.lookup t==some .local&&tp.line==vp.line&&!(cs.names.any λ(n,k)=>n==t&&(k == .local||k == .cell))
theorem Qbg{env:Env}(kd:env.scope.kind=.function)(e:Expr)(gs:List Comprehension)(cs:Scope)(vp:Pos)(t:Str)(tp:Pos)(l:Nat):swapsWith (.ListComp e gs cs vp) (some (.Name t tp)) l env=pure (swB env.scope cs t tp vp):=by
 have hb:(env.blockKind==ScopeKind.function)=true:=by
  unfold Env.blockKind;rw[kd];rfl
 show(pure (env.blockKind == .function&&env.kindOf t==some .local&&tp.line==vp.line&&!(cs.names.any λ(n,k)=>n==t&&(k == .local||k == .cell))):Sem Bool)=_;rw[hb,WB];rfl
noncomputable def twoN:List Expr->Option (Str×Pos×Str×Pos)
 |[.Name x px,.Name y py]=>some (x,px,y,py)
 |_=>none
noncomputable def Zca:Expr->Option (List Expr)
 |.Tuple es _ _=>some es
 |_=>none
noncomputable def parForm:Stmt->Option ((Str×Pos×Str×Pos)×Expr×Expr)
 |.Assign ts v _=>(oneL ts).bind λt=>(Zca t).bind λes=>(Zca v).bind λvs=>(twoN es).bind λp=>(twoL vs).map λq=>(p,q)
 |_=>none
theorem nn{α:Type}{x:α}{P:Prop}(h:(none:Option α)=some x):P:=nomatch h
noncomputable def qL:Expr->Option Str
 |.Name x _=>some x
 |_=>none
theorem zS{e:Expr}{x:Str}(h:qL e=some x):∃ p,e=.Name x p:=by
 cases e with
 |Name y p =>
  have h:some y=some x:=h;cases h;exact⟨p,rfl⟩
 |_=>exact nn h
noncomputable def qaD:Expr->Option (Str×Str)
 |.Call f [a] [] _=>(qL f).bind λz=>(qL a).map λn=>(z,n)
 |_=>none
theorem qa4{e:Expr}{z n:Str}(h:qaD e=some (z,n)):∃ p1 p2 p3,e=.Call (.Name z p1) [.Name n p2] [] p3:=by
 cases e with
 |Call f as ks p =>
  rcases as with _|⟨a,_|⟨a2,as⟩⟩
  ·exact nn h
  ·cases ks with
   |cons _ _=>exact nn h
   |nil =>
    have h:((qL f).bind λz=>(qL a).map λn=>(z,n))=some (z,n):=h;obtain⟨z',e1,h⟩:=Vb.mp h;obtain⟨n',e2,h⟩:=Wc.mp h;cases h;obtain⟨p1,rfl⟩:=zS e1;obtain⟨p2,rfl⟩:=zS e2;exact⟨_,_,_,rfl⟩
  ·exact nn h
 |_=>exact nn h
noncomputable def qbA:Stmt->Option (Str×Str×Str)
 |.Assign [t] v _=>(qL t).bind λy=>(qaD v).map λq=>(y,q.1,q.2)
 |_=>none
theorem qbO{s:Stmt}{y z n:Str}(h:qbA s=some (y,z,n)):∃ p1 p2 p3 p4 p5,s=.Assign [.Name y p1] (.Call (.Name z p2) [.Name n p3] [] p4) p5:=by
 cases s with
 |Assign ts v p =>
  rcases ts with _|⟨t,_|⟨t2,ts⟩⟩
  ·exact nn h
  ·have h:((qL t).bind λy=>(qaD v).map λq=>(y,q.1,q.2))=some (y,z,n):=h;obtain⟨y',e1,h⟩:=Vb.mp h;obtain⟨⟨z',n'⟩,e2,h⟩:=Wc.mp h;cases h;obtain⟨p1,rfl⟩:=zS e1;obtain⟨p2,p3,p4,rfl⟩:=qa4 e2;exact⟨_,_,_,_,_,rfl⟩
  ·exact nn h
 |_=>exact nn h
noncomputable def Za5(bd:List Stmt):ExceptHandler->Option (List Stmt×Str×Str×Str×Str×Str)
 |.ExceptHandler (some t) (some nm) [s] _=>(qL t).bind λx=>(qbA s).map λq=>(bd,x,nm,q)
 |_=>none
theorem Zbj{bd bd':List Stmt}{hd:ExceptHandler}{x nm y z nm':Str}(h:Za5 bd hd=some (bd',x,nm,y,z,nm')):bd=bd'/\∃ p1 p2 p3 p4 p5 p6 p7,hd=.ExceptHandler (some (.Name x p1)) (some nm) [.Assign [.Name y p2] (.Call (.Name z p3) [.Name nm' p4] [] p5) p6] p7:=by
 obtain⟨ty,nmo,body,hp⟩:=hd;cases ty with
 |none=>exact nn h
 |some t =>
  cases nmo with
  |none=>exact nn h
  |some n0 =>
   rcases body with _|⟨s,_|⟨s2,ss⟩⟩
   ·exact nn h
   ·have h:((qL t).bind λx=>(qbA s).map λq=>(bd,x,n0,q))=some (bd',x,nm,y,z,nm'):=h;obtain⟨x',e1,h⟩:=Vb.mp h;obtain⟨⟨y',z',n'⟩,e2,h⟩:=Wc.mp h;cases h;obtain⟨p1,rfl⟩:=zS e1;obtain⟨p2,p3,p4,p5,p6,rfl⟩:=qbO e2;exact⟨rfl,_,_,_,_,_,_,_,rfl⟩
   ·exact nn h
noncomputable def yah:Stmt->Option (List Stmt×Str×Str×Str×Str×Str)
 |.Try bd [h] [] [] _=>Za5 bd h
 |_=>none
theorem ya0{st:Stmt}{bd:List Stmt}{x nm y z nm':Str}(h:yah st=some (bd,x,nm,y,z,nm')):∃ p1 p2 p3 p4 p5 p6 p7 pos,st=.Try bd [.ExceptHandler (some (.Name x p1)) (some nm) [.Assign [.Name y p2] (.Call (.Name z p3) [.Name nm' p4] [] p5) p6] p7] [] [] pos:=by
 cases st with
 |Try bd' hs oe fin pos =>
  rcases hs with _|⟨hd,_|⟨h2,hs⟩⟩
  ·exact nn h
  ·cases oe with
   |cons _ _=>exact nn h
   |nil =>
    cases fin with
    |cons _ _=>exact nn h
    |nil =>
     obtain⟨rfl,p1,p2,p3,p4,p5,p6,p7,rfl⟩:=Zbj (show Za5 bd' hd=_ from h);exact⟨_,_,_,_,_,_,_,_,rfl⟩
  ·exact nn h
 |_=>exact nn h
noncomputable def Za4:ME->Bool
 |.comp ..=>true
 |_=>false
noncomputable def ZaH:Expr->Expr->Bool
 |.Tuple ..,.Tuple ..=>true
 |_,_=>false
section
variable (Pm:Prog)
mutual
noncomputable def zbw(ms:MS)(N:List Str)(sc:Scope)(st:Stmt):Bool:=match ms,st with
 |.expr e,.Expr v _=>!(Yag v)&&Qe Pm e N sc v
 |.ite c a b,.If t x y _=>okT c&&Qe Pm c N sc t&&zV a N sc x&&zV b N sc y
 |_,_=>false
noncomputable def zV(mss:List MS)(N:List Str)(sc:Scope)(sts:List Stmt):Bool:=match mss with
 |[]=>sts.isEmpty
 |m::ms=>match sts with
  |[st]=>ms.isEmpty&&zbw m N sc st
  |_=>false
end
mutual
noncomputable def ybH(ms:MS)(N:List Str)(sc:Scope)(st:Stmt):Bool:=match ms,st with
 |.set tg e,.Assign [t] v _=>qy Yau N sc tg t&&Qe Pm e N sc v&&!(ZaH t v)&&(if Yag v then Za4 e else true)
 |.setSub o i e,.Assign [.Subscript x y _] v _=>Qe Pm e N sc v&&Qe Pm o N sc x&&Qe Pm i N sc y
 |.setFld o n e,.Assign [.Attribute x m _] v _=>m==Str.ofString n&&Qe Pm e N sc v&&Qe Pm o N sc x
 |.expr e,.Expr v _=>!(Yag v)&&Qe Pm e N sc v
 |.ret e,.Return (some v) _=>Qe Pm e N sc v
 |.ite c a b,.If t x y _=>okT c&&Qe Pm c N sc t&&QG a N sc x&&QG b N sc y
 |.for_ tg it src body,.For t iter bd [] _=>ya iter&&qy Yau N sc tg t&&QG body N sc bd &&
   (if it == "seq" then ybj Pm src N sc iter else if it == "keys" then false else if it == "items" then false else if it == "enum1" then false else yar t it iter&&gl sc (Str.ofString it)&&Yk Pm src N sc (Qy iter))
 |.raise c es,.Raise (some (.Call (.Name x _) (v::vs) [] _)) none _=>x==Str.ofString c&&gl sc x&&Pm.excs c&&decide ((v::vs).length<1000)&&Yk Pm es N sc (v::vs)
 |.tryW body ei dst wd,st=>match yah st with
  |some (bd,x,nm,y,z,nm')=>x==("DotError":Str)&&gl sc x&&N[ei]? == some nm&&sc.names.lookup nm==some .local&&nm'==nm&&YaQ sc nm&&N[dst]? == some y&&ya1 Yau sc y&&z==Str.ofString wd&&gl sc z&&decide (ei≠dst)&&Pm.words wd&&zV Pm body N sc bd
  |none=>false
 |.boom,_=>true
 |.pass,.Pass _=>true
 |_,_=>false
noncomputable def QG(mss:List MS)(N:List Str)(sc:Scope)(sts:List Stmt):Bool:=match mss with
 |[]=>sts.isEmpty
 |.frzS _::ms=>QG ms N sc sts
 |m::ms=>match sts with
  |st::sts=>ybH m N sc st&&QG ms N sc sts
  |[]=>false
end
end
section
variable {ct:Tx} {Pm:Prog} {n:Nat}
section
variable {X:Cx} {E:XK} {N:List Str} {sc:Scope}
theorem Zl{st:Stmt}{ex ex':MSt->MH->RS}{Ra:L2.St->Prop}(p:PS X st (lS ct Ra E ex))(h:∀ σ hh,ex' σ hh=ex σ hh):PS X st (lS ct Ra E ex'):=by
 have:ex'=ex:=funext λσ=>funext λhh=>h σ hh;rw[this];exact p
theorem Zz{st:List Stmt}{ex ex':MSt->MH->RS}{Ra:L2.St->Prop}(p:PSs X st (lS ct Ra E ex))(h:∀ σ hh,ex' σ hh=ex σ hh):PSs X st (lS ct Ra E ex'):=by
 have:ex'=ex:=funext λσ=>funext λhh=>h σ hh;rw[this];exact p
theorem ych(fz:Bool){i:Nat}{x:Str}{elt iter tg:Expr}{ifs:List Expr}{cs:Scope}{N':List Str}{ncv:Nat}{js:List Nat}{it:String}{t:Tg}{es:MSt->MH->R (List MV)}{tc:MSt->MH->R Bool}{te:MSt->MH->R MV}{pos tp vp:Pos}(c:Cs X Pm ct n E N sc)(hi0:X.N[i]?=some x)(hx:Loc X.env.scope x)
  (hok:qv X.env.scope X.N cs N' ncv js=true) (hi:PI X tg iter (lI ct yes E es it)) (hg:∀ C s3 H ex,PG (cxC X cs N' C s3 H ex) tg (lG ct t)) (hif:∀ C s3 H ex,PIf (cxC X cs N' C s3 H ex) ifs (lT ct (λ_=>True) E0 tc)) (helt:∀ C s3 H ex,PE (cxC X cs N' C s3 H ex) elt (lE ct (λ_=>True) E0 te)) (hpl:ya iter=true)
  (hsw:swapsWith (.ListComp elt [⟨tg,iter,ifs,0⟩] cs vp) (some (.Name x tp)) pos.line X.env=pure true) :
  PS X (.Assign [.Name x tp] (.ListComp elt [⟨tg,iter,ifs,0⟩] cs vp) pos) (lS ct yes E λσ h=>((es σ h).bind λxs h1=>opt (itV it xs h1) λp=>(Yi p.2 (Zt t tc te) p.1 [] (MP.stM ncv js σ) h1).bind λacc h3=>yu fz acc h3).st λv h1=>ZC (YH (.nm i) v σ) λσ1=>.next σ1 h1):=by
 refine PS.imp (Yb4 c.cc.nd hi0 hx N' ncv js hok c.cc.calm hi hg hif helt hsw (QJ hpl) (.inl (c.fn x))) λD σ H q=>?_;obtain⟨μ,h,σs,rel,rst,ra,p⟩:=q;refine Yaz fz σ H _ (lE.st (ev:=λσ h=>(es σ h).bind λxs h1=>opt (itV it xs h1) λp=>(Yi p.2 (Zt t tc te) p.1 [] (MP.stM ncv js σ) h1).bind λacc h3=>yu fz acc h3) rel rst ra p λm v μ1 h1 H1 ex rel1 rst1 rv p1=>?_);obtain⟨σ1,e,p2⟩:=PoS.opt p1;simp only[YH,Option.some.injEq] at e;subst e;exact p2 μ1 H1 _ (Ext.refl _ _ _) rel1 (rst1.set i rv)
theorem Rel.same{μ:List Addr}{h:MH}{H H':Hp}(s:Same H H')(rel:Rel ct μ h H):Rel ct μ h H'/\Ext μ h H μ h H':=by
 have ex:Ext μ h H μ h H':=⟨⟨[],by simp⟩,λb o e _=>s b o e,λb l=>.inl l⟩;refine⟨⟨rel.len,rel.nd,λb hb=>let ⟨o,e⟩:=rel.has b hb;⟨o,s b o e⟩,λi b c e1 e2=>?_⟩,ex⟩;have:=CellOk.to (ν:=[]) ex.let (b:=b) (λ_=>by
  obtain⟨o,e⟩:=rel.has b (Uc e1);rw[e];exact s b o e) (rel.cells i b c e1 e2)
 simpa using this
theorem s_try{ei dst:Nat}{nm y:Str}{wd:String}{bd:List Stmt}{ex:MSt->MH->RS}{p1 p2 p3 p4 p5 p6 p7 pos:Pos}(c:Cs X Pm ct n E N sc)(hw:Pm.words wd=true)(hi:N[ei]?=some nm)(hk:sc.names.lookup nm=some .local)(hv:YaQ sc nm=true)(hd:N[dst]?=some y)(hy:ya1 Yau sc y=true)(hg:gl sc "DotError"=true)(hz:gl sc (Str.ofString wd)=true)(ne:ei≠dst)
  (hb:∀ pins σ0 E',PSs (cxT X pins σ0 E') bd (lS ct (λσ=>σ=σ0) E' ex)) :
  PS X (.Try bd [.ExceptHandler (some (.Name "DotError" p1)) (some nm) [.Assign [.Name y p2] (.Call (.Name (Str.ofString wd) p3) [.Name nm p4] [] p5) p6] p7] [] [] pos)
   (lS ct yes E λσ h=>RS.caught (λc h1=>ZC (Pm.word wd c) λs=>if ei<σ.length then .next ((σ.set dst (some (.f (.str s)))).set ei none) h1 else .stuck) (ex σ h)):=by
 obtain⟨qB,mB,⟨ps,Dw⟩,wf⟩:=c.cc.txt.words wd hw;obtain⟨g1,g2,g3⟩:=qN c.cc.sc hg;obtain⟨z1,z2,z3⟩:=qN c.cc.sc hz;have hiX:X.N[ei]?=some nm:=by rw[c.cc.nm];exact hi
 have hdX:X.N[dst]?=some y:=by rw[c.cc.nm];exact hd
 have hkX:X.env.scope.names.lookup nm=some .local:=by rw[c.cc.sc];exact hk
 have hyL:Loc X.env.scope y:=by
  unfold ya1 at hy;simp only[WB,Xk,beq_iff_eq] at hy;rw[c.cc.sc];exact hy
 have hvv:=hv;unfold YaQ at hvv;simp only[xa,Xk,beq_iff_eq,uj] at hvv;refine PS.imp (Qcs (i:=ei) (B:=ct "DotError") (tb:=λσ E=>lS ct (λσ'=>σ'=σ) E ex) (th:=λx C t T=>ZbC (qbw (spW ct Pm wd x C) [] E0 (yb6 (tVar ei) tNil)) (yal dst)) c.stk c.fr c.cc.nd hiX hkX qB g1 mB (λpins σ E=>hb pins σ E)
  (λx C t T=>qah (Zar (X:=cxH X x (Yl C t (.ref T))) c.cc.nd hdX hyL (Zbk Dw (c.cc.room.mono (by lia)) z1 (Yb (Ya2 (X:=cxH X x (Yl C t (.ref T))) hiX (.inl hkX) hvv.1.2 hvv.2) Qk (by rfl)) z2 (by rfl) (by rfl)) (by rfl) (.inl (c.fn y)))) g2) λD σ H q=>?_
 obtain⟨μ,h,σs,rel,rst,ra,p⟩:=q;dsimp only at p;cases er:ex σs h with
 |exc cn h1 =>
  rw[er] at p;refine⟨λcv _ H'=>cv=.ref (ct cn)/\∃ μ',Ext μ h H μ' h1 H'/\Rel ct μ' h1 H',⟨μ,h,σs,rel,rst,rfl,by rw[er];exactλμ' H' e1 r1=>⟨rfl,μ',e1,r1⟩⟩,λC H' ⟨eC,μ',e1,r1⟩=>?_⟩;cases eC;simp only[Ya5] at p;obtain⟨s,es,p2⟩:=PoS.opt p;obtain⟨w1,w2⟩:=wf cn s es;refine⟨w1,w2,λx t T hx=>?_⟩;split at p2
  next hlt =>
   have hlt':ei<σ.length:=by rw[rst.len];exact hlt
   refine⟨.ref x,by rw[wg hlt'],rfl,cn,s,rfl,es,λH2 sm=>?_⟩;obtain⟨r2,e2⟩:=Rel.same sm r1;refine p2 μ' H2 _ (e1.trans e2) r2 ?_;have rst2:=(rst.ext e1).ext e2;refine⟨by simp[rst.len],λj m ej=>?_⟩;by_cases hj:ei=j
   ·subst hj;rw[wg (by simpa using hlt)] at ej;cases ej
   ·rw[Uf hj] at ej;rw[Uf hj];by_cases hj2:dst=j
    ·subst hj2;have hl:dst<σs.length:=by
      have:=(Xa.mp ej).1;simpa using this
     rw[wg hl] at ej;cases ej;exact⟨.str s,by rw[wg (by simp[rst.len];exact hl)],yW s⟩
    ·rw[Uf hj2] at ej;obtain⟨v,ev,rv⟩:=rst2.at_ j m ej;exact⟨v,by rw[Uf hj2,Uf hj];exact ev,rv⟩
  next=>exact p2.elim
 |next σ' h'=>rw[er] at p;exact⟨λ_ _ _=>False,⟨μ,h,σs,rel,rst,rfl,by rw[er];exact p⟩,λC H' z=>z.elim⟩
 |ret m h'=>rw[er] at p;exact⟨λ_ _ _=>False,⟨μ,h,σs,rel,rst,rfl,by rw[er];exact p⟩,λC H' z=>z.elim⟩
 |brk σ' h'=>rw[er] at p;exact⟨λ_ _ _=>False,⟨μ,h,σs,rel,rst,rfl,by rw[er];exact p⟩,λC H' z=>z.elim⟩
 |cnt σ' h'=>rw[er] at p;exact⟨λ_ _ _=>False,⟨μ,h,σs,rel,rst,rfl,by rw[er];exact p⟩,λC H' z=>z.elim⟩
 |stuck=>rw[er] at p;exact p.elim
theorem Cc.try(c:Cs X Pm ct n E N sc)(pins:List (Addr×Obj))(σ0:L2.St)(E':XK):Cc (cxT X pins σ0 E') Pm ct n (λσ=>σ=σ0) E' N sc :=
 ⟨c.cc.txt,c.cc.calm,c.cc.room,λσ hσ=>by subst hσ;exact za9 c.ex,c.cc.nm,c.cc.sc,c.cc.nd,c.cc.hK⟩
theorem Zci{Ra:L2.St->Prop}:PSs X [] (lS ct Ra E λσ h=>.next σ h):=PSs.imp QaF λD σ H q=>by
 obtain⟨μ,h,σs,rel,rst,ra,p⟩:=q;exact p μ H σ (Ext.refl _ _ _) rel rst
theorem Qcp{Ra:L2.St->Prop}{st:Stmt}{ex:MSt->MH->RS}(h1:PS X st (lS ct Ra E ex)):PSs X [st] (lS ct Ra E λσ h=>(ex σ h).bind λσ1 h1=>.next σ1 h1):=PSs.imp (qah h1) λD σ H q=>by
 obtain⟨μ,h,σs,rel,rst,ra,p⟩:=q;refine⟨μ,h,σs,rel,rst,ra,?_⟩;dsimp only at p;cases er:ex σs h <;> rw[er] at p <;> exact p
theorem ZaO{t v:Expr}{env:Env}{lo:Str->Bool}{tg:Tg}(ht:qy lo N sc tg t=true)(hv:ZaH t v=false):swappedStores [t] v env=pure none:=by
 cases tg with
 |nm i =>
  cases t with
  |Name x p=>cases v <;> rfl
  |_=>simp[qy] at ht
 |tp ts =>
  cases t with
  |Tuple es k p=>cases v <;> first|rfl|(exact ui hv)
  |_=>simp[qy] at ht
theorem zci{tg:Tg}{me:ME}{t v:Expr}{pos:Pos}(c:Cs X Pm ct n E N sc)(h1:qy Yau N sc tg t=true)(h2:Qe Pm me N sc v=true)(h3:ZaH t v=false)(h4:(if Yag v=true then Za4 me else true)=true) :
  PS X (.Assign [t] v pos) (lS ct yes E λσ h=>(qa Pm (run Pm n) me σ h).st λv h1=>ZC (YH tg v σ) λσ1=>.next σ1 h1):=by
 by_cases hs:swapsWith v (some t) pos.line X.env=pure false
 ·exact s_set c h1 (sB me c.cc v h2).1 hs (ZaO h1 h3)
 ·cases hl:Yag v with
  |false=>exact absurd (qaj hl) hs
  |true =>
   rw[hl] at h4;cases me with
   |comp fz elt tg' it src cond ncv js =>
    have h2':=h2;have h:=qe h2;cases v with
    |ListComp x gs cs p =>
     rcases gs with _|⟨⟨t',iter,ifs,a⟩,_|⟨g2,gs⟩⟩
     ·exact ff h
     ·have h:((a==0)&&ya iter&&qv sc N cs (tgN tg' t'++js.filterMap λj=>N[j]?) ncv js&&decide (tgN tg' t'++js.filterMap λj=>N[j]?).Nodup&&qy (ownC cs) (tgN tg' t'++js.filterMap λj=>N[j]?) (yF cs sc) tg' t'&&Qe Pm elt (tgN tg' t'++js.filterMap λj=>N[j]?) (yF cs sc) x&&chkC Pm cond (tgN tg' t'++js.filterMap λj=>N[j]?) (yF cs sc) ifs&&(if it == "seq" then ybj Pm src N sc iter else if it == "signs" then false else if it == "enum1" then false else yar t' it iter&&gl sc (Str.ofString it)&&Yk Pm src N sc (Qy iter)))=true:=h;simp only[xa,beq_iff_eq,decide_eq_true_eq] at h;obtain⟨⟨⟨⟨⟨⟨⟨ha,k1⟩,k2⟩,k3⟩,k4⟩,k5⟩,k6⟩,k7⟩:=h;subst ha;have hi:PI X t' iter (lI ct yes E (qg Pm (run Pm n) src) it):=by
       split at k7
       next hs=>subst hs;exact sBi src c.cc t' iter k7
       next hs =>
        split at k7
        next hs4=>exact ff k7
        next =>
        split at k7
        next hs2 =>
         exact ff k7
        next =>
         simp only[xa] at k7;exact qbx c.cc k7.1.1 k7.1.2 (sBs src c.cc (Qy iter) k7.2)
      cases t with
      |Name y tp =>
       cases tg with
       |nm i =>
        simp only[qy,ya1,xa,beq_iff_eq,Xk] at h1;rw[Qbg c.kd] at hs;have hsw:swB X.env.scope cs y tp p=true:=by
         cases e:swB X.env.scope cs y tp p with
         |true=>rfl
         |false=>rw[e] at hs;exact absurd rfl hs
        have hx:Loc X.env.scope y:=by
         rw[c.cc.sc]
         rcases h1.2 with z|⟨_,z⟩
         ·exact .inl z
         ·exact .inr z
        refine Zl (ych fz (tp:=tp) c (by rw[c.cc.nm];exact h1.1) hx (by rw[c.cc.sc,c.cc.nm];exact k2) hi (λC s3 H ex=>sG rfl (c.cc.comp k3 C s3 H ex).sc k3 c.cc.calm (λ_ z=>z) tg' t' k4) (λC s3 H ex=>sBc cond (c.cc.comp k3 C s3 H ex) ifs k6) (λC s3 H ex=>(sB elt (c.cc.comp k3 C s3 H ex) x k5).1) k1 (by rw[Qbg c.kd,hsw])) λσ hh=>?_;simp only[qa]
       |tp ts=>simp[qy] at h1
      |_=>exact absurd (sw_lc (by intro x p z;cases z)) hs
     ·exact ff h
    |_=>first|exact ui hl|exact ff h
   |_=>exact ui h4
end
mutual
theorem sTB:∀(ms:MS){X:Cx}{E:XK}{Ra:L2.St->Prop}{N:List Str} {sc:Scope} (c:Cc X Pm ct n Ra E N sc) (st:Stmt),zbw Pm ms N sc st=true->PS X st (lS ct Ra E (Qt Pm (run Pm n) ms))
 |.expr e,X,E,Ra,N,sc,c,st,h=>by
  cases st with
  |Expr v p =>
   have h:(!(Yag v)&&Qe Pm e N sc v)=true:=h;simp only[xa,uj] at h;exact Zl (ZbP (sB e c v h.2).1 h.1) λσ hh=>by simp only[Qt]
  |_=>exact ff h
 |.ite d a b,X,E,Ra,N,sc,c,st,h=>by
  cases st with
  |If t x y p =>
   have h:(okT d&&Qe Pm d N sc t&&zV Pm a N sc x&&zV Pm b N sc y)=true:=h;simp only[xa] at h;obtain⟨⟨⟨h0,h1⟩,h2⟩,h3⟩:=h;exact Zl (s_if ((sB d c t h1).2 h0) (sTBs a c x h2) (sTBs b c y h3)) λσ hh=>by simp only[Qt]
  |_=>exact ff h
 |.set _ _,X,E,Ra,N,sc,c,st,h=>ff h
 |.setSub _ _ _,X,E,Ra,N,sc,c,st,h=>ff h
 |.setFld _ _ _,X,E,Ra,N,sc,c,st,h=>ff h
 |.boom,X,E,Ra,N,sc,c,st,h=>ff h
 |.par _ _ _ _,X,E,Ra,N,sc,c,st,h=>ff h
 |.ret _,X,E,Ra,N,sc,c,st,h=>ff h
 |.for_ _ _ _ _,X,E,Ra,N,sc,c,st,h=>ff h
 |.while_ _ _,X,E,Ra,N,sc,c,st,h=>ff h
 |.raise _ _,X,E,Ra,N,sc,c,st,h=>ff h
 |.tryW _ _ _ _,X,E,Ra,N,sc,c,st,h=>ff h
 |.pass,X,E,Ra,N,sc,c,st,h=>ff h
 |.frzS _,X,E,Ra,N,sc,c,st,h=>ff h
theorem sTBs:∀(mss:List MS){X:Cx}{E:XK}{Ra:L2.St->Prop}{N:List Str} {sc:Scope} (c:Cc X Pm ct n Ra E N sc) (sts:List Stmt),zV Pm mss N sc sts=true->PSs X sts (lS ct Ra E (Qa Pm (run Pm n) mss))
 |[],X,E,Ra,N,sc,c,sts,h=>by
  cases sts with
  |nil=>exact Zz Zci λσ hh=>by simp only[Qa]
  |cons _ _=>exact ff h
 |m::ms,X,E,Ra,N,sc,c,sts,h=>by
  rcases sts with _|⟨st,_|⟨st2,sts⟩⟩
  ·exact ff h
  ·have h:(ms.isEmpty&&zbw Pm m N sc st)=true:=h;simp only[xa] at h;cases ms with
   |nil=>exact Zz (Qcp (sTB m c st h.2)) λσ hh=>by simp only[Qa]
   |cons _ _=>exact ff h.1
  ·exact ff h
end
mutual
theorem sS:∀(ms:MS){X:Cx}{E:XK}{N:List Str}{sc:Scope} (c:Cs X Pm ct n E N sc) (st:Stmt),ybH Pm ms N sc st=true->PS X st (lS ct yes E (Qt Pm (run Pm n) ms))
 |.set tg e,X,E,N,sc,c,st,h=>by
  cases st with
  |Assign ts v p =>
   rcases ts with _|⟨t,_|⟨t2,ts⟩⟩
   ·exact ff h
   ·have h:(qy Yau N sc tg t&&Qe Pm e N sc v&&!(ZaH t v)&&(if Yag v then Za4 e else true))=true:=h;simp only[xa,uj] at h;obtain⟨⟨⟨h1,h2⟩,h3⟩,h4⟩:=h;exact Zl (zci c h1 h2 h3 h4) λσ hh=>by simp only[Qt]
   ·exact ff h
  |_=>exact ff h
 |.setSub o i e,X,E,N,sc,c,st,h=>by
  cases st with
  |Assign ts v p =>
   rcases ts with _|⟨t,_|⟨t2,ts⟩⟩
   ·exact ff h
   ·cases t with
    |Subscript x y p2 =>
     have h:(Qe Pm e N sc v&&Qe Pm o N sc x&&Qe Pm i N sc y)=true:=h;simp only[xa] at h;obtain⟨⟨h1,h2⟩,h3⟩:=h;exact Zl (ybO (sB e c.cc v h1).1 (sB o c.cc x h2).1 (sB i c.cc y h3).1 (Qi h3)) λσ hh=>by simp only[Qt] <;> rfl
    |_=>exact ff h
   ·cases t <;> exact ff h
  |_=>exact ff h
 |.boom,X,E,N,sc,c,st,h=>λpins s σ H D I q=>by
  obtain⟨μ,hh,σs,rel,rst,ra,p⟩:=q;simp only[Qt] at p;exact p.elim
 |.par i j a b,X,E,N,sc,c,st,h=>ff h
 |.setFld o f e,X,E,N,sc,c,st,h=>by
  cases st with
  |Assign ts v p =>
   rcases ts with _|⟨t,_|⟨t2,ts⟩⟩
   ·exact ff h
   ·cases t with
    |Attribute x m p2 =>
     have h:(m==Str.ofString f&&Qe Pm e N sc v&&Qe Pm o N sc x)=true:=h;simp only[xa,beq_iff_eq] at h;obtain⟨⟨rfl,h2⟩,h3⟩:=h;exact Zl (zbF c.cc.txt (sB e c.cc v h2).1 (sB o c.cc x h3).1) λσ hh=>by simp only[Qt] <;> rfl
    |_=>exact ff h
   ·cases t <;> exact ff h
  |_=>exact ff h
 |.expr e,X,E,N,sc,c,st,h=>by
  cases st with
  |Expr v p =>
   have h:(!(Yag v)&&Qe Pm e N sc v)=true:=h;simp only[xa,uj] at h;exact Zl (ZbP (sB e c.cc v h.2).1 h.1) λσ hh=>by simp only[Qt]
  |_=>exact ff h
 |.ret e,X,E,N,sc,c,st,h=>by
  cases st with
  |Return v p =>
   cases v with
   |some v=>exact Zl (s_ret (sB e c.cc v (show Qe Pm e N sc v=true from h)).1) λσ hh=>by simp only[Qt]
   |none=>exact ff h
  |_=>exact ff h
 |.ite d a b,X,E,N,sc,c,st,h=>by
  cases st with
  |If t x y p =>
   have h:(okT d&&Qe Pm d N sc t&&QG Pm a N sc x&&QG Pm b N sc y)=true:=h;simp only[xa] at h;obtain⟨⟨⟨h0,h1⟩,h2⟩,h3⟩:=h;exact Zl (s_if ((sB d c.cc t h1).2 h0) (sSs a c x h2) (sSs b c y h3)) λσ hh=>by simp only[Qt]
  |_=>exact ff h
 |.for_ tg it src body,X,E,N,sc,c,st,h=>by
  cases st with
  |For t iter bd oe p =>
   cases oe with
   |cons _ _=>exact ff h
   |nil =>
    have h:(ya iter&&qy Yau N sc tg t&&QG Pm body N sc bd&&(if it == "seq" then ybj Pm src N sc iter else if it == "keys" then false else if it == "items" then false else if it == "enum1" then false else yar t it iter&&gl sc (Str.ofString it)&&Yk Pm src N sc (Qy iter)))=true:=h;simp only[xa] at h;obtain⟨⟨⟨h1,h2⟩,h3⟩,h4⟩:=h;have hi:PI X t iter (lI ct yes E (qg Pm (run Pm n) src) it):=by
     split at h4
     next hs =>
      have hs':it="seq":=by simpa using hs
      subst hs';exact sBi src c.cc t iter h4
     next hs =>
      split at h4
      next hs2 =>
       have hs':it="keys":=by simpa using hs2
       subst hs';exact ff h4
      next =>
       split at h4
       next hs4 =>
        exact ff h4
       next =>
       split at h4
       next hs3 =>
        exact ff h4
       next =>
        simp only[xa] at h4;exact qbx c.cc h4.1.1 h4.1.2 (sBs src c.cc (Qy iter) h4.2)
    exact Zl (s_for c hi h2 (sSs body c bd h3) h1) λσ hh=>by simp only[Qt]
  |_=>exact ff h
 |.while_ d body,X,E,N,sc,c,st,h=>ff h
 |.raise cn es,X,E,N,sc,c,st,h=>by
  cases st with
  |Raise x y p =>
   cases x with
   |none=>exact ff h
   |some x =>
    cases x with
    |Call g as ks cp =>
     cases g with
     |Name x np =>
      cases as with
      |nil=>exact ff h
      |cons v vs =>
       cases ks with
       |cons _ _=>exact ff h
       |nil =>
        cases y with
        |some _=>exact ff h
        |none =>
         have h:(x==Str.ofString cn&&gl sc x&&Pm.excs cn&&decide ((v::vs).length<1000)&&Yk Pm es N sc (v::vs))=true:=h;simp only[xa,beq_iff_eq,decide_eq_true_eq] at h;obtain⟨⟨⟨⟨rfl,h1⟩,h2⟩,h3⟩,h4⟩:=h;have b:=sBs es c.cc (v::vs) h4;exact Zl (YbT c h2 h1 b.pa b.plain (zbJ b h3)) λσ hh=>by simp only[Qt]
     |_=>exact ff h
    |_=>exact ff h
  |_=>exact ff h
 |.tryW body ei dst wd,X,E,N,sc,c,st,h=>by
  have h':(match yah st with
   |some (bd,x,nm,y,z,nm')=>x==("DotError":Str)&&gl sc x&&N[ei]? == some nm&&sc.names.lookup nm==some .local&&nm'==nm&&YaQ sc nm&&N[dst]? == some y&&ya1 Yau sc y&&z==Str.ofString wd&&gl sc z&&decide (ei≠dst)&&Pm.words wd&&zV Pm body N sc bd
   |none=>false)=true:=h
  cases et:yah st with
  |none=>rw[et] at h';exact ui h'
  |some t =>
   obtain⟨bd,x,nm,y,z,nm'⟩:=t;rw[et] at h';obtain⟨p1,p2,p3,p4,p5,p6,p7,pos,rfl⟩:=ya0 et;simp only[xa,beq_iff_eq,decide_eq_true_eq] at h';obtain⟨⟨⟨⟨⟨⟨⟨⟨⟨⟨⟨⟨rfl,k1⟩,k2⟩,k3⟩,rfl⟩,k4⟩,k5⟩,k6⟩,rfl⟩,k7⟩,k8⟩,k9⟩,k10⟩:=h';exact Zl (s_try c k9 k2 k3 k4 k5 k6 k1 k7 k8 (λpins σ0 E'=>sTBs body (Cc.try c pins σ0 E') bd k10)) λσ hh=>by simp only[Qt]
 |.pass,X,E,N,sc,c,st,h=>by
  cases st with
  |Pass p=>exact Zl Zcr λσ hh=>by simp only[Qt]
  |_=>exact ff h
 |.frzS i,X,E,N,sc,c,st,h=>by
  exact ff h
theorem sSs:∀(mss:List MS){X:Cx}{E:XK}{N:List Str}{sc:Scope} (c:Cs X Pm ct n E N sc) (sts:List Stmt),QG Pm mss N sc sts=true->PSs X sts (lS ct yes E (Qa Pm (run Pm n) mss))
 |[],X,E,N,sc,c,sts,h=>by
  cases sts with
  |nil=>exact Zz s_nil λσ hh=>by simp only[Qa]
  |cons _ _=>exact ff h
 |m::ms,X,E,N,sc,c,sts,h=>by
  cases m with
  |frzS i=>exact Zz (s_frz (i:=i) (sSs ms c sts h)) λσ hh=>by simp only[Qa,Qt]
  |boom =>
   cases sts with
   |nil=>exact ff h
   |cons st sts =>
    have h2:QG Pm ms N sc sts=true:=h;exact Zz (zca (sS .boom c st rfl) (sSs ms c sts h2)) λσ hh=>by simp only[Qa]
  |_ =>
   cases sts with
   |nil=>exact ff h
   |cons st sts =>
    first
    |(have h:(ybH Pm _ N sc st&&QG Pm ms N sc sts)=true:=h;simp only[xa] at h;exact Zz (zca (sS _ c st h.1) (sSs ms c sts h.2)) λσ hh=>by simp only[Qa])
    |exact ff h
end
end
end SD
end
section
namespace SD
open PySem PySem.Spec PyProof.Rows L2 L3 M3 MP
noncomputable def ym(Pm:Prog)(d:MDef)(N ps:List Str)(st:Stmt):Bool :=
 (yb st).kind == .function&&!(yb st).isCoroutine&&!(yb st).isGenerator&&decide N.Nodup&&decide (N.take ps.length=ps)&&ps.all (λx=>(yb st).names.lookup x==some .local||(yb st).names.lookup x==some .cell) &&
  (yb st).names.all (λy=>y.2 != .free)&&d.np==ps.length&&d.ns==N.length&&QG Pm d.body N (yb st) (Qh st)
section
variable {P:Program} {w:World} {K:PySem.W.Frag} {mg:Str->Option Value} {base:Heap} {Pm:Prog} {ct:Tx} {n:Nat} {d:MDef} {N ps:List Str} {st:Stmt} {f:String}
theorem zJ(h:ym Pm d N ps st=true):FnScope N ps (yb st)/\d.np=ps.length/\d.ns=N.length/\QG Pm d.body N (yb st) (Qh st)=true:=by
 unfold ym at h;simp only[xa,beq_iff_eq,uj,decide_eq_true_eq,Wr,Xk,bne_iff_ne,ne_eq] at h;obtain⟨⟨⟨⟨⟨⟨⟨⟨⟨h1,h2⟩,h3⟩,h4⟩,h5⟩,h6⟩,h7⟩,h8⟩,h9⟩,h10⟩:=h;exact⟨⟨h1,h2,h3,h4,h5,h6,h7⟩,h8,h9,h10⟩
theorem ybf{ms:List MV}{h:MH}{r:R MV}(hd:Pm.defs f=some d)(e:MP.run Pm (n+1) f ms h=r)(hr:r≠.stuck):ms.length=d.np/\r=Qc h (Qa Pm (MP.run Pm n) d.body (ms.map some++Wb (d.ns-d.np) none) h):=by
 simp only[MP.run,hd,zj] at e;split at e
 next c=>exact⟨c,e.symm⟩
 next=>exact absurd e.symm hr
theorem ZaC(hd:Pm.defs f=some d)(hn:d.np=ps.length):∀ vs H Q E,spR ct (MP.run Pm (n+1) f) vs H Q E->vs.length=ps.length:=by
 intro vs H Q E ⟨μ,h,ms,rel,rvs,p⟩;cases er:MP.run Pm (n+1) f ms h with
 |stuck=>rw[er] at p;exact p.elim
 |ok x h'=>rw[rvs.length,(ybf hd er (λz=>nomatch z)).1,hn]
 |exc c h'=>rw[rvs.length,(ybf hd er (λz=>nomatch z)).1,hn]
theorem yaL(T:Txt P w K mg base Pm ct n)(hK:K=ct.K)(hd:Pm.defs f=some d)(hb:ym Pm d N ps st=true)(qual:Str)(fa:Addr)(cdv:Value)(A:Around)(outer:List Env)(s:Shared)(H:Hp)(vs:List V)(Q:VK)(E:XK)
  (hr:Room (2*n+1) (A.deeper (envOfC qual (yb st) s.heap.objs.size fa cdv))) (hsp:spR ct (MP.run Pm (n+1) f) vs H Q E) :
  ∃ t,PSs (zZ (CX1 P w) P w K mg base N qual (yb st) fa cdv A outer s H E) (Qh st) t/\t {nx:=λ_ H'=>Q .non H',rt:=Q} (L2.start N vs) H:=by
 obtain⟨S,hn,hs,hc⟩:=zJ hb;have cs:Cs (zZ (CX1 P w) P w K mg base N qual (yb st) fa cdv A outer s H E) Pm ct n E N (yb st) :=
  ⟨⟨T,rfl,hr,λσ _ pins H s e s' I h=>ybl rfl zaB pins σ H s e s' I h,rfl,rfl,S.nd,hK⟩,rfl,Qb2,zaB,λ_=>rfl,S.kind,rfl,rfl⟩
 refine⟨_,sSs d.body cs (Qh st) hc,?_⟩;obtain⟨μ,h,ms,rel,rvs,p⟩:=hsp;have hlen:=ZaC hd hn vs H Q E ⟨μ,h,ms,rel,rvs,p⟩;have hml:ms.length=d.np:=by rw[<- rvs.length,hlen,hn]
 refine⟨μ,h,ms.map some++Wb (d.ns-d.np) none,rel,?_,trivial,?_⟩
 ·refine⟨by unfold L2.start;simp[rvs.length,hml,hs],λi m e=>?_⟩;by_cases hi:i<ms.length
  ·rw[va (by simpa using hi),xc] at e;cases em:ms[i]? with
   |none=>rw[em] at e;cases e
   |some m' =>
    rw[em] at e;simp only[Wj,Option.some.injEq] at e;subst e;obtain⟨v,ev,rv⟩:=rvs.get em;refine⟨v,?_,rv⟩;unfold L2.start;rw[va (by rw[Wd,rvs.length];exact hi),xc,ev];rfl
  ·rw[we (by simpa using hi),Xp] at e;split at e <;> cases e
 ·have er:MP.run Pm (n+1) f ms h=Qc h (Qa Pm (MP.run Pm n) d.body (ms.map some++Wb (d.ns-d.np) none) h):=by
   simp only[MP.run,hd,zj,if_pos hml]
  rw[er] at p;cases ex:Qa Pm (MP.run Pm n) d.body (ms.map some++Wb (d.ns-d.np) none) h with
  |next σ' h' =>
   rw[ex] at p;intro μ' H' σ e1 r1 q1;obtain⟨ν,rfl⟩:=e1.pre;exact YaV rel e1 r1 Zaa p
  |ret m h' =>
   rw[ex] at p;intro μ' H' v e1 r1 rv;obtain⟨ν,rfl⟩:=e1.pre;exact YaV rel e1 r1 rv p
  |exc c h' =>
   rw[ex] at p;intro μ' H' e1 r1;obtain⟨ν,rfl⟩:=e1.pre;exact qbm rel e1 r1 p
  |brk σ' h'=>rw[ex] at p;exact p.elim
  |cnt σ' h'=>rw[ex] at p;exact p.elim
  |stuck=>rw[ex] at p;exact p.elim
theorem qbo(T:Txt P w K mg base Pm ct n)(hK:K=ct.K)(S:Src K mg (Str.ofString f) st ps)(hd:Pm.defs f=some d)(hb:ym Pm d N ps st=true):QaQ P w K mg base (Str.ofString f) (2*(n+1)) ps (spR ct (MP.run Pm (n+1) f)) :=
 Ycj (k:=2*n+1) S (zJ hb).1 (ZaC hd (zJ hb).2.1) λfa cdv A outer s H vs Q E hr hsp=>yaL T hK hd hb _ fa cdv A outer s H vs Q E hr hsp
theorem yaj{x qual:Str}{fa:Addr}{fd:FuncData}(T:Txt P w K mg base Pm ct n)(hK:K=ct.K)(F:Fun K x qual st fa fd)(hd:Pm.defs f=some d)(hb:ym Pm d N ps st=true):FnOk P w K mg base (CX1 P w) (2*(n+1)) fa fd ps (spR ct (MP.run Pm (n+1) f)):=by
 obtain⟨oc,od,kV,doc,pm,an,cdv,ctv,osl,rfl,lk,hcd⟩:=F.ex;exact Ybx (k:=2*n+1) lk hcd (zJ hb).1 (ZaC hd (zJ hb).2.1) λA outer s H vs Q E hr hsp=>yaL T hK hd hb _ fa cdv A outer s H vs Q E hr hsp
theorem Qbu{x qual:Str}{fa:Addr}{fd:FuncData}(T:Txt P w K mg base Pm ct n)(hK:K=ct.K)(F:FunD K x qual st fa fd)(hd:Pm.defs f=some d)(hb:ym Pm d N ps st=true):FnOk P w K mg base (CX1 P w) (2*(n+1)) fa fd ps (spR ct (MP.run Pm (n+1) f)):=by
 obtain⟨oc,od,dV,kV,doc,pm,an,cdv,ctv,osl,rfl,lk,hcd⟩:=F.ex;exact Ybx (k:=2*n+1) lk hcd (zJ hb).1 (ZaC hd (zJ hb).2.1) λA outer s H vs Q E hr hsp=>yaL T hK hd hb _ fa cdv A outer s H vs Q E hr hsp
end
theorem ln0{α:Type}{us:List α}(h:us.length=0):us=[]:=um h
theorem lnS{α:Type}{n:Nat}{us:List α}(h:us.length=n+1):∃ a vs,us=a::vs/\vs.length=n:=by
 cases us with
 |nil=>cases h
 |cons a vs=>exact⟨a,vs,rfl,Nat.succ.inj h⟩
theorem ln1{α:Type}{us:List α}(h:us.length=1):∃ a,us=[a]:=by obtain⟨a,vs,rfl,h2⟩:=lnS h;rw[ln0 h2];exact⟨a,rfl⟩
theorem ln2{α:Type}{us:List α}(h:us.length=2):∃ a b,us=[a,b]:=by obtain⟨a,vs,rfl,h2⟩:=lnS h;obtain⟨b,rfl⟩:=ln1 h2;exact⟨a,b,rfl⟩
theorem ln3{α:Type}{us:List α}(h:us.length=3):∃ a b c,us=[a,b,c]:=by obtain⟨a,vs,rfl,h2⟩:=lnS h;obtain⟨b,c,rfl⟩:=ln2 h2;exact⟨a,b,c,rfl⟩
theorem ln4{α:Type}{us:List α}(h:us.length=4):∃ a b c d,us=[a,b,c,d]:=by obtain⟨a,vs,rfl,h2⟩:=lnS h;obtain⟨b,c,d,rfl⟩:=ln3 h2;exact⟨a,b,c,d,rfl⟩
theorem ln5{α:Type}{us:List α}(h:us.length=5):∃ a b c d e,us=[a,b,c,d,e]:=by obtain⟨a,vs,rfl,h2⟩:=lnS h;obtain⟨b,c,d,e,rfl⟩:=ln4 h2;exact⟨a,b,c,d,e,rfl⟩
noncomputable def AllL(P:String->MDef->Prop):List (String×MDef)->Prop
 |[]=>True
 |p::r=>P p.1 p.2/\AllL P r
theorem Qav{P:String->MDef->Prop}{f:String}{d:MDef}:∀{L:List (String×MDef)},AllL P L->L.lookup f=some d->P f d
 |[],_,h=>by cases h
 |(g,e)::r,⟨a,b⟩,h=>by
  rw[xb] at h;cases hb:f==g with
  |true =>
   rw[hb] at h;cases h;rw[show f=g by simpa using hb];exact a
  |false =>
   rw[hb] at h;exact Qav b h
noncomputable def YbM(K:PySem.W.Frag)(mg:Str->Option Value)(Pm:Prog)(ct:Tx)(f:String)(ps:List Str):Prop :=
 ∀(P:Program)(w:World)(base:Heap)(n:Nat),K.In base->(ct.cd≠0->LamB mg base ct.cd ct.tb)->QaQ P w K mg base (Str.ofString f) (2*(n+1)) ps (spR ct (MP.run Pm (n+1) f))
structure Text (K:PySem.W.Frag) (mg:Str->Option Value) (Pm:Prog) (ct:Tx):Prop where
 hK:K=ct.K
 defs:∀ f d,Pm.defs f=some d->f.toList.contains '.'=false->∃ st N ps,Src K mg (Str.ofString f) st ps/\(ym Pm d N ps st=true\/YbM K mg Pm ct f ps)
 inits:∀ c f,Pm.meths c "__init__"=some f->∃ d st N ps fa fd x qual,Pm.defs f=some d/\Mk K (ct c) fa/\Fun K x qual st fa fd/\Binds K fd ps []/\mg (Str.ofString c)=some (.ref (ct c))/\ym Pm d N ps st=true
 blts:∀ x∈fnNames++tyNames++isTys++["range","zip","enumerate","isinstance","sorted","reversed"],mg (Str.ofString x)=none
 fok:∀ c f,Pm.fok c f=true->Cls K (ct c)/\NoAttr K (ct c) (Str.ofString f)
 cls:∀ c t b,Pm.subs c t=some b->ClsOk K (ct c)
 subC:∀ c t b,Pm.subs c t=some b->isTys.contains t=false->mg (Str.ofString t)=some (.ref (ct t))/\Ue K (.ref (ct c)) (.ref (ct t))=some b
 subT:∀ c t b,Pm.subs c t=some b->isTys.contains t=true->Ue K (.ref (ct c)) (.type t)=some b
 tyC:∀ t c b,Pm.subs c t=some b->isTys.contains t=false->∀ T∈["NoneType","bool","int","str","list","tuple"],Ue K (.type T) (.ref (ct t))=some false
 excs:∀ c,Pm.excs c=true->QK K (ct c)/\mg (Str.ofString c)=some (.ref (ct c))
 words:∀ wd,Pm.words wd=true->QK K (ct "DotError")/\mg "DotError"=some (.ref (ct "DotError"))/\(∀(P:Program)(w:World)(base:Heap),∃ ps,DefOkH P w K mg base (Str.ofString wd) 1 ps (spW ct Pm wd)) /\
  ∀ c s,Pm.word wd c=some s->QK K (ct c)/\(zt K (ct c)).contains (.ref (ct "DotError"))=true
 xcls:∀ t,Pm.xcls t=true->(if t="ValueError" then mg "ValueError"=none else mg (Str.ofString t)=some (.ref (ct t)))
 xs:∀ c t b,Pm.xsubs c t=some b->ExcK K (ct c)/\Ue K (.ref (ct c)) (if t="ValueError" then .type "ValueError" else .ref (ct t))=some b
 dfl:∀ f ds,Pm.dfl f ds=true->∃ d st N ps fa fd dvals,Pm.defs f=some d/\FunD K (Str.ofString f) (Str.ofString f) st fa fd/\Binds K fd ps dvals/\Vals (ds.map V.int) dvals/\mg (Str.ofString f)=some (.ref fa)/\ym Pm d N ps st=true
 meths:∀ c m f,Pm.meths c m=some f->m≠"__init__"->Cls K (ct c)/\∃ d st N ps fa fd x qual,Pm.defs f=some d/\Meth K (ct c) (Str.ofString m) fa/\Fun K x qual st fa fd/\Binds K fd ps []/\ym Pm d N ps st=true
 mk0:∀ c,Pm.mk0 c=true->Mk0 K (ct c)/\mg (Str.ofString c)=some (.ref (ct c))
 globs:∀ x v,Pm.globs x=some v->zbO mg x v
 xdot:Pm.xt=true->QK K (ct "DotError")/\mg "DotError"=some (.ref (ct "DotError"))/\∀ c b,Pm.xsubs c c=some b->QK K (ct c)/\(zt K (ct c)).contains (.ref (ct "DotError"))=true
theorem sp0{ct:Tx}{Pm:Prog}{f:String}{vs:List V}{H:Hp}{Q:VK}{E:XK}(h:spR ct (MP.run Pm 0 f) vs H Q E):False:=by
 obtain⟨μ,h,ms,rel,rvs,p⟩:=h;exact p
theorem qZ{P:Program}{w:World}{K:PySem.W.Frag}{mg:Str->Option Value}{base:Heap}{Pm:Prog}{ct:Tx}(T:Text K mg Pm ct)(kb:K.In base)(lb:ct.cd≠0->LamB mg base ct.cd ct.tb):∀ n,Txt P w K mg base Pm ct n
 |0=>⟨λf d hd hdot=>by
   obtain⟨st,N,ps,⟨fa,fd,F,b,m⟩,hb⟩:=T.defs f d hd hdot;exact⟨ps,fa,fd,⟨λvs H Q E h=>(sp0 h).elim,λA outer s H args us vs Q E _ _ _ _ h=>(sp0 h).elim⟩,b,F.kp,m⟩,
  λc f hi=>by
   obtain⟨d,st,N,ps,fa,fd,x,qual,hd,M,F,b,m,hb⟩:=T.inits c f hi;exact⟨ps,fa,fd,M,⟨λvs H Q E h=>(sp0 h).elim,λA outer s H args us vs Q E _ _ _ _ h=>(sp0 h).elim⟩,b,m⟩,
  T.blts,T.fok,T.cls,T.subC,T.subT,T.tyC,T.excs,λwd hw=>let ⟨a,b,c,d⟩:=T.words wd hw;⟨a,b,c P w base,d⟩,T.xcls,T.xs,λf ds hf=>let ⟨d,st,N,ps,fa,fd,dvals,hd,F,b,vd,m,hb⟩:=T.dfl f ds hf;⟨ps,fa,fd,dvals,⟨λvs H Q E h=>(sp0 h).elim,λA outer s H args us vs Q E _ _ _ _ h=>(sp0 h).elim⟩,b,vd,F.kp,m⟩,T.xdot,λc m f hm hi=>by
   obtain⟨cl,d,st,N,ps,fa,fd,x,qual,hd,M,F,b,hb⟩:=T.meths c m f hm hi;exact⟨cl,fa,fd,ps,M,⟨λvs H Q E h=>(sp0 h).elim,λA outer s H args us vs Q E _ _ _ _ h=>(sp0 h).elim⟩,b⟩,T.mk0,T.globs⟩
 |n+1=>⟨λf d hd hdot=>by
   obtain⟨st,N,ps,S,hb⟩:=T.defs f d hd hdot;exact⟨ps,hb.elim (λhb=>qbo (qZ T kb lb n) T.hK S hd hb) λhp=>hp P w base n kb lb⟩,
  λc f hi=>by
   obtain⟨d,st,N,ps,fa,fd,x,qual,hd,M,F,b,m,hb⟩:=T.inits c f hi;exact⟨ps,fa,fd,M,yaj (qZ T kb lb n) T.hK F hd hb,b,m⟩,
  T.blts,T.fok,T.cls,T.subC,T.subT,T.tyC,T.excs,λwd hw=>let ⟨a,b,c,d⟩:=T.words wd hw;⟨a,b,c P w base,d⟩,T.xcls,T.xs,λf ds hf=>let ⟨d,st,N,ps,fa,fd,dvals,hd,F,b,vd,m,hb⟩:=T.dfl f ds hf;⟨ps,fa,fd,dvals,Qbu (qZ T kb lb n) T.hK F hd hb,b,vd,F.kp,m⟩,T.xdot,λc m f hm hi=>by
   obtain⟨cl,d,st,N,ps,fa,fd,x,qual,hd,M,F,b,hb⟩:=T.meths c m f hm hi;exact⟨cl,fa,fd,ps,M,yaj (qZ T kb lb n) T.hK F hd hb,b⟩,T.mk0,T.globs⟩
theorem Qce{K:PySem.W.Frag}{ct:Tx}{Pm:Prog}{n:Nat}{H:Hp}{a:Addr}{ns:List Int}(hK:K=ct.K)(hO:ybD H)(hS:SqL K H a (ns.map V.int))(main:∃ h,MP.run Pm n "law" [.f (.scr ns)] []=.ok (.f (.bl true)) h) :
  spR ct (MP.run Pm n "law") [.ref a] H (λv _=>v=.bl true) λ_ _ _=>False:=by
 subst hK;refine⟨[],[],[.f (.scr ns)],⟨rfl,List.nodup_nil,λb hb=>by simp at hb,λi b c e=>by simp at e⟩,RVs.cons ?_ RVs.nil,?_⟩
 ·simp only[RV,RF];refine⟨a,rfl,?_⟩
  rcases hS with (e|⟨o,e⟩)|e
  ·rcases hO a with z|⟨o,xs,z⟩
   ·rw[z] at e;cases e
   ·rw[z] at e;cases e
  ·exact .inl ⟨λ⟨i,c,e,_⟩=>by simp at e,o,e⟩
  ·exact .inr e
 ·obtain⟨h,e⟩:=main;rw[e];intro μ' H' _ _ v rv;exact QaA rv
end SD
end
section
namespace SD
open PySem PySem.Spec PyProof.Rows L2 L3 M3 MP
section
variable {K:PySem.W.Frag} {t C:Addr} {cd:ClassData}
theorem Ye{b:Bool}(s0:Va K (.ref t) (.ref t)=some true)(ci:Xe K C=some cd)(ty:ug K (.ref C)=some (.type "type"))(s:Va K (.ref t) (.ref C)=some b):Ue K (.ref t) (.ref C)=some b:=by
 unfold Ue uA;by_cases ne:(Value.ref t==Value.ref C)=true
 ·have e':Value.ref t=Value.ref C:=eq_of_beq ne;rw[if_pos ne];rw[e'] at s0 s;rw[s0] at s;exact s
 rw[if_neg ne];show(if((Xe K C).isSome&&ug K (.ref C)==some (.type "type"))=true then Va K (.ref t) (.ref C) else none)=some b;rw[ci,ty,if_pos (by rfl),s]
theorem YL{T:String}{b:Bool}(m:Ww T=true)(s:Va K (.ref t) (.type T)=some b):Ue K (.ref t) (.type T)=some b:=by
 unfold Ue uA;rw[if_neg (λe=>by have e':Value.ref t=Value.type T:=eq_of_beq e;cases e')];show(if Ww T=true then Va K (.ref t) (.type T) else none)=some b;rw[if_pos m,s]
theorem Qch{T:String}(m:Va K (.type T) (.ref C)=some false)(ci:Xe K C=some cd)(ty:ug K (.ref C)=some (.type "type")):Ue K (.type T) (.ref C)=some false:=by
 unfold Ue uA;rw[if_neg (λe=>by have e':Value.type T=Value.ref C:=eq_of_beq e;cases e')];show(if((Xe K C).isSome&&ug K (.ref C)==some (.type "type"))=true then Va K (.type T) (.ref C) else none)=some false;rw[ci,ty,if_pos (by rfl),m]
theorem zb2(C:Addr):∀ T∈["NoneType","bool","int","str","list","tuple"],Va K (.type T) (.ref C)=some false:=by
 intro T hT;simp only[ua,uc,or_false] at hT
 rcases hT with rfl|rfl|rfl|rfl|rfl|rfl <;> rfl
theorem YS{T:String}(hT:T∈isTys):Ww T=true:=by
 simp only[isTys,ua,uc,or_false] at hT
 rcases hT with rfl|rfl|rfl|rfl|rfl|rfl <;> decide +kernel
theorem ZY:Ww "ValueError"=true:=by decide +kernel
theorem Za2(ci:Xe K C=some cd):zt K C=cd.mro.tail:=by
 unfold Xe at ci;unfold zt;split at ci
 ·next h=>rw[h];cases ci;rfl
 ·cases ci
end
theorem DefOkH.imp{P:Program}{w:World}{K:PySem.W.Frag}{mg:Str->Option Value}{base:Heap}{x:Str}{ps:List Str}{sp sp':Addr->Addr->Sp}{k:Nat}(d:DefOkH P w K mg base x k ps sp)(h:∀ x C vs H Q E,sp' x C vs H Q E->sp x C vs H Q E):DefOkH P w K mg base x k ps sp':=by
 obtain⟨f,fd,F,b,kp,m⟩:=d;exact⟨f,fd,⟨λx C vs H Q E z=>F.len x C vs H Q E (h x C vs H Q E z),λx C t T A outer s H args us vs Q hr e g hx hb hv hs=>F.run x C t T A outer s H args us vs Q hr e g hx hb hv (h x C vs H Q _ hs)⟩,b,kp,m⟩
theorem src_mk{K:PySem.W.Frag}{h:Heap}{mg:Str->Option Value}{x:Str}{st:Stmt}{ps:List Str}{f:Addr}{oc:Value}{od an:Option Addr}{osl:Array (Option Value)}{kV doc pm cdv ct:Value}(X:K.In h)(G:h.Ns mainGlobals mg)
  (hb:∀(kV doc pm:Value)(an:Option Addr)(cdv ct:Value)(us:List Value),us.length=ps.length->bindArgs (Vi x x (Qq st) (Qh st) (yb st) .none kV doc pm an cdv ct) ⟨us,[]⟩=pure (ps.zip us))
  (a:ud K mainGlobals x=some (some (.ref f))) (l:K.lookup f=some ⟨oc,od,.func (Vi x x (Qq st) (Qh st) (yb st) .none kV doc pm an cdv ct),osl⟩)
  (c:xn K cdv x=true) (k:Ug K (.ref f)=true):Src K mg x st ps :=
 ⟨f,_,Yb1 (st:=st) l c k,(zba (st:=st) l c k).binds hb,Xg X G a⟩
noncomputable def Zbe(K:PySem.W.Frag):Sp:=λvs H Q E=>∃(a:Addr)(ns:List Int),vs=[.ref a]/\ns.length<=63/\ybD H/\SqL K H a (ns.map V.int)/\Q=(λv _=>v=.bl true)/\E=λ_ _ _=>False
theorem yct{P:Program}{w:World}{K:PySem.W.Frag}{mg:Str->Option Value}{base:Heap}{Pm:Prog}{ct:Tx}{n:Nat}{d:MDef}{N ps:List Str}{st:Stmt}{fa:Addr}{fd:FuncData}(T:Text K mg Pm ct)(kb:K.In base)(lb:ct.cd≠0->LamB mg base ct.cd ct.tb)(F:Fun K "law" "law" st fa fd)(hd:Pm.defs "law"=some d)(hb:ym Pm d N ps st=true)
  (main:∀ ns:List Int,ns.length<=63->∃ h,MP.run Pm (n+1) "law" [.f (.scr ns)] []=.ok (.f (.bl true)) h):FnOk P w K mg base (CX1 P w) (2*(n+1)) fa fd ps (Zbe K) :=
 (yaj (qZ T kb lb n) T.hK F hd hb).imp λvs H Q E ⟨a,ns,e1,hl,hO,hS,e2,e3⟩=>by
  subst e1;subst e2;subst e3;exact Qce T.hK hO hS (main ns hl)
theorem walk{l:PySem.W.OpenLaw}{q:Program}{loose:List Str}{XP:(Str->Option Value)->Heap->Prop}{YP:World->Heap->Prop}{d:DefRec}{K:Params->PySem.W.Frag}{k:Nat}(hn:l.most=some 63)(hdf:d.params.defaults=[])(hr:Room k callerA)
  (hY:∀(w:World)(h:Heap),YP w h->(K w.params).In h)
  (F:∀(w:World)(mg:Str->Option Value)(fa:Addr)(h:Heap),(K w.params).In h->h.Ns mainGlobals mg->mg d.name=some (.ref fa) ->
   ∃ fd:FuncData,(∀(s:Shared)(u:Value),BindsTo s fd ⟨[u],[]⟩ [("_law_script",u)])/\∀ base:Heap,(K w.params).In base->base.Ns mainGlobals mg->FnOk l.prog w (K w.params) mg base (CX1 l.prog w) k fa fd ["_law_script"] (Zbe (K w.params))) :
  PySem.W.WalkO q loose XP YP l.row.toRowW d [] (λf vs=>PySem.call f vs) :=
 L2.walk_of (n:=63) (k:=k) (x:="_law_script") (CX:=λw=>CX1 l.prog w) (sp:=λw=>Zbe (K w.params)) hn (by decide) hdf hr hY F (λ_ _ a ns hl hO hS=>⟨a,ns,rfl,hl,hO,hS,rfl,rfl⟩) λ_ _ _ _ _ ⟨_,_,_,_,_,_,_,_,_,_,_,_,_,_,_,z⟩=>z
end SD
end
section
namespace SD
open PySem PySem.Spec PyProof.Rows L2 L3 M3 MP
end SD
end
section
namespace SD
open PySem PySem.Spec PyProof.Rows L2 L3 M3 MP
end SD
end
section
namespace MP
open PySem
noncomputable def ZM:MDef:=⟨1,1,[.ret (.blt true "tuple" [.comp true (.blt true "tuple" [.var 0]) (.nm 0) "seq" [.var 0] none 1 []])]⟩
noncomputable def QL:MDef:=⟨3,4,[.ite (.cmp .lt (.var 2) (.cI 1)) [.ret (.cS "the greatest number is below 1")] [],.ite (.or [.cmp .eq (.blt true "len" [.var 0]) (.cI 0),.cmp .eq (.blt true "len" [.sub (.var 0) (.cI 0)]) (.cI 0)]) [.ret (.cS "there are no cells")] [],.for_ (.nm 3) "seq" [.var 0] [.ite (.cmp .ne (.blt true "len" [.var 3]) (.blt true "len" [.sub (.var 0) (.cI 0)])) [.ret (.cS "the rows' lengths differ")] [],.ite (.or [.cmp .lt (.blt true "min" [.var 3]) (.var 1),.cmp .gt (.blt true "max" [.var 3]) (.var 2)]) [.ret (.cS "a number is below the least or above the greatest")] []],.ret (.cN)]⟩
noncomputable def d_cells_by_rows:MDef:=⟨2,4,[.set (.nm 2) (.lst false []),.for_ (.nm 3) "range" [.var 0] [.expr (.lm "extend" (.var 2) [.comp true (.tup [.var 1,.var 0]) (.nm 0) "range" [.var 1] none 1 [3]])],.ret (.frz (.var 2))]⟩
noncomputable def Zn:MDef:=⟨3,5,[.set (.nm 3) (.call "own_rows" [.var 2]),.set (.nm 4) (.call "fault_of" [.var 3,.cI 0,.var 1]),.ite (.notN (.var 4)) [.raise "NoPicture" [.var 4]] [],.setFld (.var 0) "most" (.var 1),.setFld (.var 0) "rows" (.var 3)]⟩
noncomputable def d_high:MDef:=⟨1,1,[.ret (.blt true "len" [.fld (.var 0) "rows"])]⟩
noncomputable def d_wide:MDef:=⟨1,1,[.ret (.blt true "len" [.sub (.fld (.var 0) "rows") (.cI 0)])]⟩
noncomputable def d_size_of:MDef:=⟨1,1,[.ret (.tup [.call "high" [.var 0],.call "wide" [.var 0]])]⟩
noncomputable def d_has_cell:MDef:=⟨2,2,[.ret (.and [.chain .le .lt (.cI 0) (.sub (.var 1) (.cI 0)) (.call "high" [.var 0]),.chain .le .lt (.cI 0) (.sub (.var 1) (.cI 1)) (.call "wide" [.var 0])])]⟩
noncomputable def d_ask_cell:MDef:=⟨2,2,[.ite (.not (.call "has_cell" [.var 0,.var 1])) [.raise "OutOfPicture" [.cS "the picture has no such cell"]] []]⟩
noncomputable def d_shade_at:MDef:=⟨2,2,[.expr (.call "ask_cell" [.var 0,.var 1]),.ret (.sub (.sub (.fld (.var 0) "rows") (.sub (.var 1) (.cI 0))) (.sub (.var 1) (.cI 1)))]⟩
noncomputable def Zw:MDef:=⟨2,5,[.set (.nm 2) (.comp false (.blt false "list" [.var 0]) (.nm 0) "seq" [.fld (.var 0) "rows"] none 1 []),.for_ (.tp [.nm 3,.nm 4]) "seq" [.var 1] [.setSub (.sub (.var 2) (.sub (.var 3) (.cI 0))) (.sub (.var 3) (.cI 1)) (.var 4)],.ret (.make true "Picture" [.fld (.var 0) "most",.frz (.var 2)])]⟩
noncomputable def d_laid_out:MDef:=⟨3,3,[.ret (.call "with_shades" [.make true "Picture" [.var 0,.bin true .mul (.lst true [.bin true .mul (.lst true [.cI 0]) (.sub (.var 1) (.cI 1))]) (.sub (.var 1) (.cI 0))],.var 2])]⟩
noncomputable def d_ask_mosts:MDef:=⟨2,2,[.ite (.cmp .ne (.fld (.var 0) "most") (.fld (.var 1) "most")) [.raise "NoMeet" [.cS "the mosts differ"]] []]⟩
noncomputable def d_laid_over:MDef:=⟨1,4,[.expr (.call "ask_layers" [.var 0]),.set (.nm 1) (.lst false []),.for_ (.tp [.nm 2,.nm 3]) "seq" [.call "seen_by_cells" [.var 0]] [.ite (.cmp .lt (.var 3) (.blt true "len" [.var 0])) [.expr (.lm "append" (.var 1) [.tup [.var 2,.call "shade_at" [.sub (.var 0) (.var 3),.var 2]]])] []],.ret (.call "laid_out" [.fld (.sub (.var 0) (.cI 0)) "most",.call "size_of" [.sub (.var 0) (.cI 0)],.frz (.var 1)])]⟩
noncomputable def d_seen_of:MDef:=⟨1,4,[.expr (.call "ask_layers" [.var 0]),.set (.nm 1) (.bin false .mul (.lst true [.cI 0]) (.bin true .add (.blt true "len" [.var 0]) (.cI 1))),.for_ (.tp [.nm 2,.nm 3]) "seq" [.call "seen_by_cells" [.var 0]] [.setSub (.var 1) (.var 3) (.bin true .add (.sub (.var 1) (.var 3)) (.cI 1))],.ret (.var 1)]⟩
noncomputable def d_ask_layers:MDef:=⟨1,2,[.ite (.cmp .eq (.blt true "len" [.var 0]) (.cI 0)) [.raise "NoMeet" [.cS "there is no picture"]] [],.for_ (.nm 1) "seq" [.var 0] [.expr (.call "ask_mosts" [.var 1,.sub (.var 0) (.cI 0)]),.ite (.cmp .ne (.call "size_of" [.var 1]) (.call "size_of" [.sub (.var 0) (.cI 0)])) [.raise "NoMeet" [.cS "the sizes differ"]] []]]⟩
noncomputable def d_seen_by_cells:MDef:=⟨1,2,[.set (.nm 1) (.call "size_of" [.sub (.var 0) (.cI 0)]),.ret (.comp true (.tup [.var 0,.call "number_seen" [.var 1,.var 0]]) (.nm 0) "seq" [.call "cells_by_rows" [.sub (.var 1) (.cI 0),.sub (.var 1) (.cI 1)]] none 1 [0])]⟩
noncomputable def d_number_seen:MDef:=⟨2,5,[.set (.nm 2) (.blt true "len" [.var 0]),.for_ (.tp [.nm 3,.nm 4]) "enumerate" [.var 0] [.ite (.cmp .ne (.call "shade_at" [.var 4,.var 1]) (.cI 0)) [.set (.nm 2) (.var 3)] []],.ret (.var 2)]⟩
noncomputable def zE:MDef:=⟨2,4,[.setSub (.var 1) (.cI 0) (.bin true .add (.sub (.var 1) (.cI 0)) (.cI 1)),.set (.nm 2) (.cI 0),.ite (.cmp .gt (.blt true "len" [.var 0]) (.cI 0)) [.set (.nm 2) (.sub (.var 0) (.bin true .mod (.sub (.var 1) (.cI 0)) (.blt true "len" [.var 0])))] [],.set (.nm 3) (.bin true .mod (.bin true .mul (.bin true .add (.bin true .add (.bin true .mod (.var 2) (.cI 2147483647)) (.bin true .mul (.bin true .mul (.sub (.var 1) (.cI 0)) (.sub (.var 1) (.cI 0))) (.cI 7919))) (.cI 11)) (.cI 48271)) (.cI 2147483647)),.ret (.bin true .mod (.bin true .mul (.var 3) (.var 3)) (.cI 1999999973))]⟩
noncomputable def d__law_same:MDef:=⟨2,2,[.ite (.isN (.var 1)) [.ret (.isN (.var 0))] [],.ite (.isI (.var 1) "dict") [.ite (.or [.not (.isI (.var 0) "dict"),.cmp .ne (.blt true "len" [.var 0]) (.blt true "len" [.var 1])]) [.ret (.cB false)] [],.ret (.blt true "all" [.comp true (.and [.cmp .inn (.var 0) (.var 1),.call "_law_same" [.sub (.var 1) (.var 0),.sub (.var 2) (.var 0)]]) (.nm 0) "seq" [.var 1] none 1 [0,1]])] [],.ite (.or [.isI (.var 1) "list",.isI (.var 1) "tuple"]) [.ite (.and [.isI (.var 1) "list",.not (.isI (.var 0) "list")]) [.ret (.cB false)] [],.ite (.or [.and [.isI (.var 1) "tuple",.not (.isI (.var 0) "tuple")],.cmp .ne (.blt true "len" [.var 0]) (.blt true "len" [.var 1])]) [.ret (.cB false)] [],.ret (.blt true "all" [.comp true (.call "_law_same" [.var 0,.var 1]) (.tp [.nm 0,.nm 1]) "zip" [.var 0,.var 1] none 2 []])] [],.ite (.isI (.var 1) "str") [.ret (.and [.isI (.var 0) "str",.cmp .eq (.var 0) (.var 1)])] [],.ret (.and [.isI (.var 0) "int",.not (.isI (.var 0) "bool"),.cmp .eq (.var 0) (.var 1)])]⟩
noncomputable def QD:MDef:=⟨2,4,[.set (.nm 2) (.call "_law_next" [.var 0,.var 1]),.set (.nm 3) (.cI 0),.ite (.cmp .gt (.blt true "len" [.var 0]) (.cI 0)) [.set (.nm 3) (.sub (.var 0) (.bin true .mod (.sub (.var 1) (.cI 0)) (.blt true "len" [.var 0])))] [],.ret (.sub (.lst true [.cI 1,.cI 2,.cI 3,.cI 9,.cI 255,.bin true .add (.bin true .mod (.var 3) (.bin true .pow (.cI 10) (.cI 29))) (.cI 1)]) (.bin true .mod (.var 2) (.cI 6)))]⟩
noncomputable def d__law_layer:MDef:=⟨5,12,[.set (.nm 5) (.call "_law_next" [.var 0,.var 1]),.set (.nm 6) (.lst false []),.for_ (.nm 7) "range" [.var 3] [.set (.nm 8) (.lst false []),.for_ (.nm 9) "range" [.var 4] [.set (.nm 10) (.call "_law_next" [.var 0,.var 1]),.set (.nm 11) (.bin true .add (.cI 1) (.bin true .mod (.bin true .mul (.var 10) (.cI 48271)) (.var 2))),.ite (.cmp .lt (.bin true .mod (.var 10) (.cI 5)) (.bin true .mod (.var 5) (.cI 5))) [.set (.nm 11) (.cI 0)] [],.expr (.lm "append" (.var 8) [.var 11])],.expr (.lm "append" (.var 6) [.frz (.var 8)])],.ret (.make false "Picture" [.var 2,.frz (.var 6)])]⟩
noncomputable def d__law_due:MDef:=⟨1,8,[.set (.nm 1) (.comp false (.blt false "list" [.var 0]) (.nm 0) "seq" [.fld (.sub (.var 0) (.cI 0)) "rows"] none 1 []),.set (.nm 2) (.bin false .mul (.lst true [.cI 0]) (.bin true .add (.blt true "len" [.var 0]) (.cI 1))),.for_ (.nm 3) "range" [.blt true "len" [.var 1]] [.for_ (.nm 4) "range" [.blt true "len" [.sub (.var 1) (.cI 0)]] [.set (.nm 5) (.blt true "len" [.var 0]),.for_ (.tp [.nm 6,.nm 7]) "enumerate" [.var 0] [.ite (.cmp .gt (.sub (.sub (.fld (.var 7) "rows") (.var 3)) (.var 4)) (.cI 0)) [.set (.nm 5) (.var 6)] []],.setSub (.sub (.var 1) (.var 3)) (.var 4) (.cI 0),.ite (.cmp .lt (.var 5) (.blt true "len" [.var 0])) [.setSub (.sub (.var 1) (.var 3)) (.var 4) (.sub (.sub (.fld (.sub (.var 0) (.var 5)) "rows") (.var 3)) (.var 4))] [],.setSub (.var 2) (.var 5) (.bin true .add (.sub (.var 2) (.var 5)) (.cI 1))]],.ret (.tup [.blt true "tuple" [.comp true (.blt true "tuple" [.var 0]) (.nm 0) "seq" [.var 1] none 1 []],.frz (.var 2)])]⟩
noncomputable def d__law_refused:MDef:=⟨1,4,[.for_ (.nm 1) "range" [.cI 2] [.set (.nm 2) (.cS ""),.tryW [.ite (.cmp .eq (.var 1) (.cI 0)) [.expr (.call "laid_over" [.var 0])] [.expr (.frz (.call "seen_of" [.var 0]))]] 3 2 "_law_word",.ite (.cmp .ne (.var 2) (.cS "meet")) [.ret (.cB false)] []],.ret (.cB true)]⟩
noncomputable def d__law_is:MDef:=⟨3,3,[.ret (.and [.isI (.var 0) "Picture",.call "_law_same" [.fld (.var 0) "most",.var 1],.call "_law_same" [.fld (.var 0) "rows",.var 2]])]⟩
noncomputable def d__law_one:MDef:=⟨2,16,[.set (.nm 2) (.call "_law_next" [.var 0,.var 1]),.set (.nm 3) (.bin false .add (.cI 1) (.bin false .mod (.var 2) (.cI 7))),.set (.nm 4) (.bin false .add (.cI 1) (.bin false .mod (.bin false .fdiv (.var 2) (.cI 7)) (.cI 7))),.set (.nm 5) (.call "_law_most" [.var 0,.var 1]),.set (.nm 6) (.comp false (.call "_law_layer" [.var 1,.var 2,.var 3,.var 4,.var 5]) (.nm 0) "range" [.bin false .add (.cI 1) (.bin false .mod (.bin false .fdiv (.var 2) (.cI 49)) (.cI 5))] none 1 [0,1,5,3,4]),.ite (.cmp .eq (.bin false .mod (.bin false .fdiv (.var 2) (.cI 245)) (.cI 3)) (.cI 0)) [.expr (.lm "insert" (.var 6) [.bin false .mod (.bin false .fdiv (.var 2) (.cI 735)) (.bin false .add (.blt false "len" [.var 6]) (.cI 1)),.sub (.var 6) (.cI 0)])] [],.set (.nm 7) (.blt false "list" [.var 6]),.set (.tp [.nm 8,.nm 9]) (.call "_law_due" [.var 6]),.ite (.or [.not (.call "_law_is" [.call "laid_over" [.var 6],.var 5,.var 8]),.not (.call "_law_is" [.call "laid_over" [.blt false "tuple" [.var 6]],.var 5,.var 8])]) [.ret (.cB false)] [],.set (.nm 10) (.call "seen_of" [.var 6]),.ite (.or [.not (.call "_law_same" [.var 10,.var 9]),.not (.call "_law_same" [.call "seen_of" [.blt false "tuple" [.var 6]],.var 9])]) [.ret (.cB false)] [],.expr (.lm "append" (.var 10) [.cI 1]),.expr (.lm "reverse" (.var 10) []),.set (.nm 11) (.bin false .add (.cI 1) (.bin false .mod (.bin false .fdiv (.var 2) (.cI 5000)) (.blt false "len" [.var 6]))),.set (.nm 12) (.lst false [.call "laid_over" [.slice false (.var 6) none (some (.var 11))]]),.ite (.cmp .lt (.var 11) (.blt false "len" [.var 6])) [.expr (.lm "append" (.var 12) [.call "laid_over" [.slice false (.var 6) (some (.var 11)) none]])] [],.ite (.or [.not (.call "_law_is" [.call "laid_over" [.var 12],.var 5,.var 8]),.cmp .ne (.sub (.call "seen_of" [.bin false .add (.slice false (.var 6) (some (.var 11)) none) (.slice false (.var 6) none (some (.var 11)))]) (.neg (.cI 1))) (.sub (.var 9) (.neg (.cI 1)))]) [.ret (.cB false)] [],.set (.nm 13) (.lst false [.call "_law_layer" [.var 0,.var 1,.bin false .add (.var 5) (.cI 1),.var 3,.var 4],.call "_law_layer" [.var 0,.var 1,.var 5,.bin false .add (.var 3) (.cI 1),.var 4]]),.expr (.lm "append" (.var 13) [.call "_law_layer" [.var 0,.var 1,.var 5,.var 3,.bin false .add (.var 4) (.cI 1)]]),.set (.nm 14) (.bin false .mod (.bin false .fdiv (.var 2) (.cI 40000)) (.bin false .add (.blt false "len" [.var 6]) (.cI 1))),.ite (.cmp .ne (.var 3) (.var 4)) [.expr (.lm "append" (.var 13) [.call "_law_layer" [.var 0,.var 1,.var 5,.var 4,.var 3]])] [],.set (.nm 15) (.bin false .add (.bin false .add (.slice false (.var 6) none (some (.var 14))) (.lst false [.sub (.var 13) (.bin false .mod (.bin false .fdiv (.var 2) (.cI 3)) (.blt false "len" [.var 13]))])) (.slice false (.var 6) (some (.var 14)) none)),.ite (.or [.not (.call "_law_refused" [.lst false []]),.not (.call "_law_refused" [.tup []]),.not (.call "_law_refused" [.var 15]),.not (.call "_law_refused" [.blt false "tuple" [.var 15]])]) [.ret (.cB false)] [],.ret (.and [.tx2 .same (.var 6) (.var 7),.call "_law_same" [.call "seen_of" [.var 6],.var 9],.call "_law_is" [.call "laid_over" [.var 6],.var 5,.var 8]])]⟩
noncomputable def d_law:MDef:=⟨1,3,[.set (.nm 1) (.lst false [.cI 0]),.for_ (.nm 2) "range" [.bin true .add (.cI 1) (.blt true "min" [.cI 3,.bin true .fdiv (.blt true "len" [.var 0]) (.cI 16)])] [.ite (.not (.call "_law_one" [.var 0,.var 1])) [.ret (.cB false)] []],.ret (.cB true)]⟩
noncomputable def defsL:List (String×MDef):=[("own_rows",ZM),("fault_of",QL),("cells_by_rows",d_cells_by_rows),("Picture.__init__",Zn),("high",d_high),("wide",d_wide),("size_of",d_size_of),("has_cell",d_has_cell),("ask_cell",d_ask_cell),("shade_at",d_shade_at),("with_shades",Zw),("laid_out",d_laid_out),("ask_mosts",d_ask_mosts),("laid_over",d_laid_over),("seen_of",d_seen_of),("ask_layers",d_ask_layers),("seen_by_cells",d_seen_by_cells),("number_seen",d_number_seen),("_law_next",zE),("_law_same",d__law_same),("_law_most",QD),("_law_layer",d__law_layer),("_law_due",d__law_due),("_law_refused",d__law_refused),("_law_is",d__law_is),("_law_one",d__law_one),("law",d_law)]
noncomputable def prog:Prog where
 defs:=λf=>defsL.lookup f
 globs:=λx=>match x with
  |_=>none
 meths:=λc m=>match c,m with
  |"Picture","__init__"=>some "Picture.__init__"
  |_,_=>none
 subs:=λc d=>match c,d with
  |"Picture","Picture"=>some true
  |"Picture","dict"=>some false
  |"Picture","list"=>some false
  |"Picture","tuple"=>some false
  |"Picture","str"=>some false
  |"Picture","int"=>some false
  |"Picture","bool"=>some false
  |_,_=>none
 fok:=λc n=>match c,n with
  |"Picture","most"=>true
  |"Picture","rows"=>true
  |_,_=>false
 word:=λw c=>match w,c with
  |"_law_word","NoPicture"=>some "picture"
  |"_law_word","OutOfPicture"=>some "out"
  |"_law_word","NoMeet"=>some "meet"
  |_,_=>none
 words:=λw=>match w with
  |"_law_word"=>true
  |_=>false
 excs:=λc=>match c with
  |"NoPicture"=>true
  |"OutOfPicture"=>true
  |"NoMeet"=>true
  |_=>false
 turns:=1000000
@[simp] theorem ZbT:prog.defs "own_rows"=some ZM:=rfl
@[simp] theorem QbX:prog.defs "fault_of"=some QL:=rfl
@[simp] theorem Q0:prog.defs "cells_by_rows"=some d_cells_by_rows:=rfl
@[simp] theorem qaU:prog.defs "Picture.__init__"=some Zn:=rfl
@[simp] theorem YbI:prog.defs "high"=some d_high:=rfl
@[simp] theorem Qby:prog.defs "wide"=some d_wide:=rfl
@[simp] theorem qaP:prog.defs "size_of"=some d_size_of:=rfl
@[simp] theorem YaI:prog.defs "has_cell"=some d_has_cell:=rfl
@[simp] theorem zaH:prog.defs "ask_cell"=some d_ask_cell:=rfl
@[simp] theorem YaJ:prog.defs "shade_at"=some d_shade_at:=rfl
@[simp] theorem Zag:prog.defs "with_shades"=some Zw:=rfl
@[simp] theorem qaI:prog.defs "laid_out"=some d_laid_out:=rfl
@[simp] theorem yau:prog.defs "ask_mosts"=some d_ask_mosts:=rfl
@[simp] theorem qau:prog.defs "laid_over"=some d_laid_over:=rfl
@[simp] theorem YaT:prog.defs "seen_of"=some d_seen_of:=rfl
@[simp] theorem yak:prog.defs "ask_layers"=some d_ask_layers:=rfl
@[simp] theorem Y1:prog.defs "seen_by_cells"=some d_seen_by_cells:=rfl
@[simp] theorem qag:prog.defs "number_seen"=some d_number_seen:=rfl
@[simp] theorem Zav:prog.defs "_law_next"=some zE:=rfl
@[simp] theorem yas:prog.defs "_law_same"=some d__law_same:=rfl
@[simp] theorem zav:prog.defs "_law_most"=some QD:=rfl
@[simp] theorem Qak:prog.defs "_law_layer"=some d__law_layer:=rfl
@[simp] theorem YaF:prog.defs "_law_due"=some d__law_due:=rfl
@[simp] theorem Zab:prog.defs "_law_refused"=some d__law_refused:=rfl
@[simp] theorem ZaU:prog.defs "_law_is"=some d__law_is:=rfl
@[simp] theorem ZaD:prog.defs "_law_one"=some d__law_one:=rfl
@[simp] theorem zbT:prog.defs "law"=some d_law:=rfl
@[simp] theorem zbB:prog.fok "Picture" "most"=true:=rfl
@[simp] theorem qbM:prog.fok "Picture" "rows"=true:=rfl
@[simp] theorem Ybf:prog.subs "Picture" "Picture"=some true:=rfl
@[simp] theorem ya3:prog.meths "Picture" "__init__"=some "Picture.__init__":=rfl
@[simp] theorem qb6:prog.word "_law_word" "NoPicture"=some "picture":=rfl
@[simp] theorem zby:prog.word "_law_word" "OutOfPicture"=some "out":=rfl
@[simp] theorem w_NoMeet:prog.word "_law_word" "NoMeet"=some "meet":=rfl
theorem Ze(n:Nat)(f:String)(as:List MV)(h:MH):run prog (n+1) f as h=opt (prog.defs f) λd=>if as.length=d.np then Qc h (Qa prog (run prog n) d.body (as.map some++Wb (d.ns-d.np) none) h) else .stuck:=rfl
theorem Y0(n:Nat)(a0 a1:MV)(h:MH):run prog (n+1) "cells_by_rows" [a0,a1] h=Qc h (Qa prog (run prog n) d_cells_by_rows.body [some a0,some a1,none,none] h):=by rw[Ze,Q0];rfl
theorem ZbM(n:Nat)(a0:MV)(h:MH):run prog (n+1) "high" [a0] h=Qc h (Qa prog (run prog n) d_high.body [some a0] h):=by rw[Ze,YbI];rfl
theorem YbD(n:Nat)(a0:MV)(h:MH):run prog (n+1) "wide" [a0] h=Qc h (Qa prog (run prog n) d_wide.body [some a0] h):=by rw[Ze,Qby];rfl
theorem YaN(n:Nat)(a0:MV)(h:MH):run prog (n+1) "size_of" [a0] h=Qc h (Qa prog (run prog n) d_size_of.body [some a0] h):=by rw[Ze,qaP];rfl
theorem YaG(n:Nat)(a0 a1:MV)(h:MH):run prog (n+1) "has_cell" [a0,a1] h=Qc h (Qa prog (run prog n) d_has_cell.body [some a0,some a1] h):=by rw[Ze,YaI];rfl
theorem YaL(n:Nat)(a0 a1:MV)(h:MH):run prog (n+1) "ask_cell" [a0,a1] h=Qc h (Qa prog (run prog n) d_ask_cell.body [some a0,some a1] h):=by rw[Ze,zaH];rfl
theorem zaF(n:Nat)(a0 a1:MV)(h:MH):run prog (n+1) "shade_at" [a0,a1] h=Qc h (Qa prog (run prog n) d_shade_at.body [some a0,some a1] h):=by rw[Ze,YaJ];rfl
theorem QaI(n:Nat)(a0 a1 a2:MV)(h:MH):run prog (n+1) "laid_out" [a0,a1,a2] h=Qc h (Qa prog (run prog n) d_laid_out.body [some a0,some a1,some a2] h):=by rw[Ze,qaI];rfl
theorem Qau(n:Nat)(a0 a1:MV)(h:MH):run prog (n+1) "ask_mosts" [a0,a1] h=Qc h (Qa prog (run prog n) d_ask_mosts.body [some a0,some a1] h):=by rw[Ze,yau];rfl
theorem yT(n:Nat)(a0:MV)(h:MH):run prog (n+1) "laid_over" [a0] h=Qc h (Qa prog (run prog n) d_laid_over.body [some a0,none,none,none] h):=by rw[Ze,qau];rfl
theorem Qac(n:Nat)(a0:MV)(h:MH):run prog (n+1) "seen_of" [a0] h=Qc h (Qa prog (run prog n) d_seen_of.body [some a0,none,none,none] h):=by rw[Ze,YaT];rfl
theorem yA(n:Nat)(a0:MV)(h:MH):run prog (n+1) "ask_layers" [a0] h=Qc h (Qa prog (run prog n) d_ask_layers.body [some a0,none] h):=by rw[Ze,yak];rfl
theorem Y2(n:Nat)(a0:MV)(h:MH):run prog (n+1) "seen_by_cells" [a0] h=Qc h (Qa prog (run prog n) d_seen_by_cells.body [some a0,none] h):=by rw[Ze,Y1];rfl
theorem Zaf(n:Nat)(a0 a1:MV)(h:MH):run prog (n+1) "number_seen" [a0,a1] h=Qc h (Qa prog (run prog n) d_number_seen.body [some a0,some a1,none,none,none] h):=by rw[Ze,qag];rfl
theorem ZU(n:Nat)(a0 a1:MV)(h:MH):run prog (n+1) "_law_same" [a0,a1] h=Qc h (Qa prog (run prog n) d__law_same.body [some a0,some a1] h):=by rw[Ze,yas];rfl
theorem Qaj(n:Nat)(a0 a1 a2 a3 a4:MV)(h:MH):run prog (n+1) "_law_layer" [a0,a1,a2,a3,a4] h=Qc h (Qa prog (run prog n) d__law_layer.body [some a0,some a1,some a2,some a3,some a4,none,none,none,none,none,none,none] h):=by rw[Ze,Qak];rfl
theorem ZaK(n:Nat)(a0:MV)(h:MH):run prog (n+1) "_law_due" [a0] h=Qc h (Qa prog (run prog n) d__law_due.body [some a0,none,none,none,none,none,none,none] h):=by rw[Ze,YaF];rfl
theorem Y6(n:Nat)(a0:MV)(h:MH):run prog (n+1) "_law_refused" [a0] h=Qc h (Qa prog (run prog n) d__law_refused.body [some a0,none,none,none] h):=by rw[Ze,Zab];rfl
theorem yaO(n:Nat)(a0 a1 a2:MV)(h:MH):run prog (n+1) "_law_is" [a0,a1,a2] h=Qc h (Qa prog (run prog n) d__law_is.body [some a0,some a1,some a2] h):=by rw[Ze,ZaU];rfl
theorem zaN(n:Nat)(a0 a1:MV)(h:MH):run prog (n+1) "_law_one" [a0,a1] h=Qc h (Qa prog (run prog n) d__law_one.body [some a0,some a1,none,none,none,none,none,none,none,none,none,none,none,none,none,none] h):=by rw[Ze,ZaD];rfl
theorem YbW(n:Nat)(a0:MV)(h:MH):run prog (n+1) "law" [a0] h=Qc h (Qa prog (run prog n) d_law.body [some a0,none,none] h):=by rw[Ze,zbT];rfl
noncomputable def Qf(b:Bool)(r:List Int):FV:=sq b (r.map .int)
noncomputable def zh(b1 b2:Bool)(rows:List (List Int)):FV:=sq b1 (rows.map (Qf b2))
noncomputable def Qz(most:Int)(rows:List (List Int)):FV:=.obj "Picture" ["most","rows"] [.int most,zh true true rows]
structure Good (most:Int) (rows:List (List Int)):Prop where
 m1:1<=most
 ne:rows≠[]
 len:∃ n:Nat,0<n/\∀ r∈rows,r.length=n
 sh:∀ r∈rows,∀ v∈r,0<=v/\v<=most
 sz:rows.length<=1000
theorem Yg:sizeL=4194304:=rfl
section
variable (h:MH)
theorem TrOk.obj(c:String)(fs:List (String×FV))(ds:MH):TrOk (h++[.obj c []]) (h++.obj c (fs.map λp=>(p.1,MV.f p.2))::ds):=by
 refine⟨by simp,λi d hi e=>?_⟩;by_cases hl:i<h.length
 ·rw[va hl] at e ⊢;exact .inl e
 ·have:i=h.length:=by simp at hi;lia
  subst this;simp at e;subst e;exact .inr ⟨fs,rfl⟩
end
noncomputable def Zf(rows:List (List Int))(i j:Nat)(v:Int):List (List Int):=rows.modify i (·.set j v)
noncomputable def QA(r:List Int):Cell:=.lst (r.map λi=>.f (.int i))
section
variable (h:MH)
theorem Y8(bd:MV->MSt->MH->R (Option MV×MSt))(e:List Int->MV)(hb:∀ r z h,∃ z',bd (e r) [z] h=.ok (some (.ref h.length),[z']) (h++[QA r])):∀(rows:List (List Int)) (acc:List MV) (z:Option MV) (h:MH),acc.length+rows.length<=sizeL ->
  Yi [] bd (rows.map e) acc [z] h=.ok (acc++(wc rows.length).map λi=>MV.ref (h.length+i)) (h++rows.map QA)
 |[],acc,z,h,_=>by simp[Yi]
 |r::rows,acc,z,h,hl=>by
  obtain⟨z',e1⟩:=hb r z h;simp only[Xd] at hl;have ih:=Y8 bd e hb rows (acc++[.ref h.length]) z' (h++[QA r]) (by simp;lia);simp only[Xb,Yi,yQ,true_and,e1,R.bind_ok,ih,Vf,Xd,Vl];rw[if_pos (by lia)]
  congr 1
  ·simp[List.range_succ_eq_map,Wf];intro a _
   lia
  ·simp
noncomputable def own(h:MH)(rows:List (List Int)):MH:=h++(rows.map QA++[.lst ((wc rows.length).map λi=>MV.ref (h.length+i))])
theorem yK(rows:List (List Int)):Zb (own h rows) (h.length+rows.length)=some ((wc rows.length).map λi=>MV.ref (h.length+i)):=by
 unfold own Zb;rw[we (by lia),we (by simp)];simp
theorem ZS(rows:List (List Int))(i:Nat)(r:List Int)(e:rows[i]?=some r):Zb (own h rows) (h.length+i)=some (r.map λi=>.f (.int i)):=by
 have hi:=(Xa.mp e).1;unfold own Zb;rw[we (by lia),va (by simp;lia)];simp[e,QA]
theorem ybh(rows:List (List Int))(i j:Nat)(r:List Int)(v:Int)(e:rows[i]?=some r):ye (own h rows) (h.length+i) ((r.map λi=>MV.f (.int i)).set j (I v))=own h (Zf rows i j v):=by
 have hi:=(Xa.mp e).1;unfold own ye Zf;rw[List.set_append_right _ _ (by lia),vA _ _ (by simp;lia)]
 congr 2
 ·rw[show h.length+i-h.length=i by lia];apply vk;intro k;rw[WD,xc,xc,xw];by_cases hk:i=k
  ·subst hk;simp[hi,e,QA,UC];rw[Wa hi] at e;simp at e;rw[e]
  ·simp[hk]
 ·simp
theorem ZbK(rows:List (List Int)):qG (own h rows) (.ref (h.length+rows.length))=some (zh false false rows):=by
 have hr:∀ m (xs:List Nat),(∀ i∈xs,i<rows.length)->(xs.map λi=>MV.ref (h.length+i)).mapM (yn (own h rows) (m+2))=some (xs.map λi=>Qf false (rows.getD i [])):=by
  intro m xs
  induction xs with
  |nil=>intro _;rfl
  |cons x xs ih =>
   intro hx;have hx0:=hx x (by simp);have e:rows[x]?=some (rows.getD x []):=by simp[uh,hx0]
   have e1:yn (own h rows) (m+2) (.ref (h.length+x))=some (Qf false (rows.getD x [])):=by
    simp only[yn,ZS h rows x _ e,Uo];have:(VA (λi=>MV.f (FV.int i)) (rows.getD x []))=((rows.getD x []).map FV.int).map MV.f:=by simp
    rw[this,qa0];rfl
   simp only[Xb,Wu,e1,ih λi hi=>hx i (by simp[hi])];rfl
 unfold qG;simp only[yn,yK,Uo];rw[hr 2 _ (by simp)];simp only[Wj,zh,sq,Option.some.injEq]
 congr 1
 apply vk;intro k;by_cases hk:k<rows.length
 ·simp[hk,uh]
 ·simp[hk]
theorem Ybu(rows:List (List Int)):∀ a∈zq (own h rows) 5 (.ref (h.length+rows.length)),h.length<=a:=by
 intro a ha;simp only[zq,yK,xr,ua,Vo,vf,Xj] at ha
 rcases ha with rfl|⟨m,⟨i,hi,rfl⟩,ha⟩
 ·lia
 ·have e:rows[i]?=some (rows[i]):=by simp[hi]
  simp only[zq,ZS h rows i _ e,xr,ua,Vo,vf] at ha
  rcases ha with rfl|⟨m,⟨i,_,rfl⟩,ha⟩
  ·lia
  ·simp[zq] at ha
theorem Yb0(rows:List (List Int)):∃ t',zL (.ref (h.length+rows.length)) (own h rows)=.ok (.f (zh false false rows)) (h++t'):=by
 obtain⟨t',e⟩:=ZaV h (rows.map QA++[.lst ((wc rows.length).map λi=>MV.ref (h.length+i))]) (zq (own h rows) 5 (.ref (h.length+rows.length))) (Ybu h rows);refine⟨t',?_⟩;unfold zL;rw[ZbK,zj];unfold own at e ⊢;rw[e]
noncomputable abbrev ybG(p:Int×Int):FV:=.tup [.int p.1,.int p.2]
noncomputable abbrev Ql(p:(Int×Int)×Int):FV:=.tup [ybG p.1,.int p.2]
noncomputable def zr(rows:List (List Int))(ps:List ((Int×Int)×Int)):List (List Int):=ps.foldl (λrows p=>Zf rows p.1.1.toNat p.1.2.toNat p.2) rows
noncomputable def Inn(rows:List (List Int))(p:Int×Int):Prop:=0<=p.1/\p.1<rows.length/\0<=p.2/\∀ r∈rows,p.2<r.length
theorem Yp(rows:List (List Int))(i j:Nat)(v:Int):(Zf rows i j v).length=rows.length:=by simp[Zf]
theorem Yz{rows:List (List Int)}{i j:Nat}{v:Int}{r:List Int}(hr:r∈Zf rows i j v):r∈rows\/∃ r0∈rows,r=r0.set j v:=by
 unfold Zf at hr;obtain⟨k,hk⟩:=List.mem_iff_getElem?.mp hr;rw[xw] at hk;cases e:rows[k]? with
 |none=>rw[e] at hk;simp at hk
 |some r0 =>
  rw[e] at hk;have hk':(if i=k then r0.set j v else r0)=r:=by simpa using hk
  have hm:=Uc e;split at hk'
  ·exact .inr ⟨r0,hm,hk'.symm⟩
  ·exact .inl (hk' ▸ hm)
theorem za2{most:Int}{rows:List (List Int)}{i j:Nat}{v:Int}(g:Good most rows)(h0:0<=v)(h1:v<=most):Good most (Zf rows i j v):=by
 obtain⟨m1,ne,⟨w,w0,hw⟩,sh,sz⟩:=g;refine⟨m1,λe=>ne (um (by rw[<- Yp rows i j v,e];rfl)),⟨w,w0,λr hr=>?_⟩,λr hr x hx=>?_,by rw[Yp];exact sz⟩
 ·rcases Yz hr with hr|⟨r0,hr0,rfl⟩
  ·exact hw r hr
  ·simp[hw r0 hr0]
 ·rcases Yz hr with hr|⟨r0,hr0,rfl⟩
  ·exact sh r hr x hx
  ·rcases List.mem_or_eq_of_mem_set hx with hx|hx
   ·exact sh r0 hr0 x hx
   ·subst hx;exact⟨h0,h1⟩
theorem Qbr{rows:List (List Int)}{i j:Nat}{v:Int}{p:Int×Int}(h:Inn rows p):Inn (Zf rows i j v) p:=by
 refine⟨h.1,by rw[Yp];exact h.2.1,h.2.2.1,λr hr=>?_⟩
 rcases Yz hr with hr|⟨r0,hr0,rfl⟩
 ·exact h.2.2.2 r hr
 ·simp;exact h.2.2.2 r0 hr0
theorem qay{α β γ:Type}(F:β×γ->α->β×γ)(G:β->α->β)(hFG:∀ b a,(F b a).1=G b.1 a):∀(xs:List α)(z:β×γ),(xs.foldl F z).1=xs.foldl G z.1
 |[],z=>rfl
 |x::xs,z=>by rw[xk,xk,qay F G hFG xs,hFG]
end
@[simp] theorem cellL_at(xs:List MV)(t:MH):Zb (.lst xs::t) 0=some xs:=rfl
@[simp] theorem ycn(xs ys:List MV)(t:MH):ye (.lst xs::t) 0 ys=.lst ys::t:=rfl
noncomputable def zM(ns:List Int)(k:Int):Int:=if ns=[] then 0 else ns.getD (k%ns.length).toNat 0
noncomputable def Zat(ns:List Int)(k:Int):Int:=((zM ns k%2147483647+k*k*7919+11)*48271%2147483647)*((zM ns k%2147483647+k*k*7919+11)*48271%2147483647)%1999999973
theorem yaK(ns:List Int)(k:Int):0<=Zat ns k/\Zat ns k<1999999973:=⟨ut _ (by decide),xq _ (by decide)⟩
noncomputable abbrev atC(k:Int):Cell:=.lst [I k]
theorem YR{i j:Int}(h:j.natAbs<2^64):Q5 i j:=.inr (.inl h)
section
variable {h:MH}
@[simp] theorem zcr(a:Nat)(y:MV):lmV "append" (.ref a) [y] h=opt (Zb h a) λxs=>if xs.length<sizeL then .ok (.f .non) (ye h a (xs++[y])) else .stuck:=rfl
@[simp] theorem qcn(a:Nat)(i:Int)(y:MV):lmV "insert" (.ref a) [.f (.int i),y] h=opt (Zb h a) λxs=>if xs.length<sizeL/\-(2^63)<=i/\i<2^63 then .ok (.f .non) (ye h a (ZI xs i y)) else .stuck:=rfl
end
theorem Qa0{bd:MV->MSt->MH->RS}(N:Nat)(Pv:Nat->MSt->MH->Prop)(σ:MSt)(h:MH)(h0:Pv 0 σ h)
  (step:∀ i σ h,i<N->Pv i σ h->∃ σ' h',bd (I i) σ h=.next σ' h'/\Pv (i+1) σ' h'):∃ σ' h',zu [] bd ((wc N).map λ(k:Nat)=>I k) σ h=.next σ' h'/\Pv N σ' h':=by
 have:=Zak (bd:=bd) (e:=λk:Nat=>I k) Pv (wc N) 0 σ h h0 (λj y σ h hj pj=>by
  have hl:j<N:=by have:=(Xa.mp hj).1;simpa using this
  have hy:y=j:=by rw[Ui hl] at hj;exact(Option.some.inj hj).symm
  subst hy;simp only[vn] at pj ⊢;exact step y σ h hl pj)
 simpa using this
noncomputable def Own(h g:MH)(xs:List MV):Prop:=∃ t,g=h++.lst xs::t
namespace Own
variable {h g:MH} {xs:List MV}
theorem new(h:MH):Own h (h++[.lst xs]) xs:=⟨[],rfl⟩
theorem cell(o:Own h g xs)(c:Cell):Zb (c::g) (h.length+1)=some xs:=by
 obtain⟨t,rfl⟩:=o;have:=qb (c::h) t xs;simpa using this
theorem more(o:Own h g xs)(ds:MH):Own h (g++ds) xs:=by
 obtain⟨t,rfl⟩:=o;exact⟨t++ds,by simp⟩
theorem set(o:Own h g xs)(c:Cell)(ys:List MV):∃ g',ye (c::g) (h.length+1) ys=c::g'/\Own h g' ys:=by
 obtain⟨t,rfl⟩:=o;exact⟨h++.lst ys::t,by have:=Qg (c::h) t xs ys;simpa using this,t,rfl⟩
theorem frz{ys:List FV}(o:Own h g (ys.map .f))(c:Cell):∃ t',zL (.ref (h.length+1)) (c::g)=.ok (.f (.lst ys)) (c::(h++t')):=by
 obtain⟨t,rfl⟩:=o;obtain⟨t',e⟩:=Yai (c::h) t ys;exact⟨t',by simpa using e⟩
end Own
theorem mod_lt(i j:Int)(hj:0<j):0<=i%j/\i%j<j:=⟨ut _ (by lia),xq _ hj⟩
theorem qb3(a b c d e f:MV)(i:Int)(hi:0<=i)(hj:i<6):∃ v∈[a,b,c,d,e,f],atM [a,b,c,d,e,f] i=some v:=by
 have:i=0\/i=1\/i=2\/i=3\/i=4\/i=5:=by lia
 rcases this with rfl|rfl|rfl|rfl|rfl|rfl
 ·exact⟨a,by simp,rfl⟩
 ·exact⟨b,by simp,rfl⟩
 ·exact⟨c,by simp,rfl⟩
 ·exact⟨d,by simp,rfl⟩
 ·exact⟨e,by simp,rfl⟩
 ·exact⟨f,by simp,rfl⟩
theorem zbs(ns:List Int)(hn:ns≠[])(k:Int):atM (ns.map λi=>MV.f (.int i)) (k%ns.length)=some (I (zM ns k)):=by
 have hl:0<ns.length:=vm.mpr hn;have h0:0<=k%(ns.length:Int):=ut _ (by lia);have h1:k%(ns.length:Int)<ns.length:=xq _ (by lia);rw[qaM _ _ h0,xc,Wa (by lia)];simp[zM,hn,uh,Wa (show(k%(ns.length:Int)).toNat<ns.length by lia)]
noncomputable def Nx(r:RS)(P:MSt->MH->Prop):Prop:=∃ σ h,r=.next σ h/\P σ h
noncomputable def Ret(r:R MV)(P:MV->MH->Prop):Prop:=∃ v h,r=.ok v h/\P v h
@[simp] theorem Nx_next(σ:MSt)(h:MH)(P:MSt->MH->Prop):Nx (.next σ h) P↔P σ h:=⟨λ⟨_,_,e,p⟩=>by cases e;exact p,λp=>⟨_,_,rfl,p⟩⟩
@[simp] theorem zck(v:MV)(h:MH)(P:MV->MH->Prop):Ret (.ok v h) P↔P v h:=⟨λ⟨_,_,e,p⟩=>by cases e;exact p,λp=>⟨_,_,rfl,p⟩⟩
section
variable {bd:MV->MSt->MH->RS} {σ:MSt} {h:MH} {k:MSt->MH->RS}
theorem Yu{Q:RS->Prop}(N:Nat)(Pv:Nat->MSt->MH->Prop)(h0:Pv 0 σ h)(step:∀ i σ h,i<N->Pv i σ h->∀ Q:MSt->MH->Prop,(∀ σ h,Pv (i+1) σ h->Q σ h)->Nx (bd (I i) σ h) Q)
  (fin:∀ σ' h',Pv N σ' h'->Q (k σ' h')):Q ((zu [] bd ((wc N).map λ(k:Nat)=>I k) σ h).bind k):=by
 obtain⟨σ',h',e,p⟩:=Qa0 N Pv σ h h0 λi σ h hi p=>step i σ h hi p _ λ_ _ x=>x;rw[e];exact fin σ' h' p
theorem QaP{α:Type}{e:α->MV}{Q:RS->Prop}(ys:List α)(Pv:Nat->MSt->MH->Prop)(h0:Pv 0 σ h)(step:∀ i y σ h,ys[i]?=some y->Pv i σ h->∀ Q:MSt->MH->Prop,(∀ σ h,Pv (i+1) σ h->Q σ h)->Nx (bd (e y) σ h) Q)
  (fin:∀ σ' h',Pv ys.length σ' h'->Q (k σ' h')):Q ((zu [] bd (ys.map e) σ h).bind k):=by
 obtain⟨σ',h',e,p⟩:=Zak (bd:=bd) (e:=e) Pv ys 0 σ h h0 (λj y σ h hj pj=>by simp only[vn] at pj ⊢;exact step j y σ h hj pj _ λ_ _ x=>x);rw[e];exact fin σ' h' (by simpa using p)
end
theorem Ret.of{r:R MV}{P:MV->MH->Prop}(k:∀ Q:MV->MH->Prop,(∀ v h,P v h->Q v h)->Ret r Q):Ret r P:=k P λ_ _ x=>x
theorem Qbk(c:Cell)(g:MH)(d:Cell):kill [g.length+1] (c::(g++[d]))=c::(g++[.dead]):=by
 unfold kill;refine vk λi=>?_;rw[Wm];cases i with
 |zero=>simp
 |succ i =>
  simp only[List.getElem?_cons_succ,Ub]
  rcases Nat.lt_trichotomy i g.length with hi|hi|hi
  ·rw[va hi,va hi];have:¬ i+1=g.length+1:=by lia
   simp only[this,if_false];cases g[i]? <;> rfl
  ·subst hi;simp
  ·rw[ul (by simp;lia),ul (by simp;lia)];rfl
theorem Qbx(c:Cell)(g:MH)(ys:List FV):zL (.ref (g.length+1)) (c::(g++[.lst (ys.map .f)]))=.ok (.f (.lst ys)) (c::(g++[.dead])):=by
 rw[YaP _ _ ys ((Own.new (xs:=ys.map .f) g).cell c),Qbk]
theorem zaX(c:Cell)(g:MH)(xs ys:List MV):ye (c::(g++[.lst xs])) (g.length+1) ys=c::(g++[.lst ys]):=by
 have:=Qg (c::g) [] xs ys;simpa using this
section
variable {h:MH} (sub:String->String->Option Bool) (t:String)
@[simp] theorem isIV_non:QQ sub h (.f .non) t=some false:=rfl
@[simp] theorem isIV_bl(b:Bool):QQ sub h (.f (.bl b)) t=some (decide (t="bool")||decide (t="int")):=rfl
@[simp] theorem isIV_int(i:Int):QQ sub h (.f (.int i)) t=some (decide (t="int")):=rfl
@[simp] theorem isIV_str(s:Str):QQ sub h (.f (.str s)) t=some (decide (t="str")):=rfl
@[simp] theorem isIV_tup(xs:List FV):QQ sub h (.f (.tup xs)) t=some (decide (t="tuple")):=rfl
@[simp] theorem isIV_lst(xs:List FV):QQ sub h (.f (.lst xs)) t=some (decide (t="list")):=rfl
@[simp] theorem isIV_obj(c:String)(ns:List String)(xs:List FV):QQ sub h (.f (.obj c ns xs)) t=sub c t:=rfl
end
noncomputable def isP:Nat->FV->Bool
 |_+1,.non=>true
 |_+1,.int _=>true
 |_+1,.str s=>sOk s
 |n+1,.tup xs=>decide (xs.length<=sizeL)&&xs.all (isP n)
 |n+1,.lst xs=>decide (xs.length<=sizeL)&&xs.all (isP n)
 |_,_=>false
@[simp] theorem eqF_bl(a b:Bool):eqF (.bl a) (.bl b)=some (a==b):=by simp[eqF,eqD]
theorem Y5{α:Type}:∀ xs:List α,xs.zip xs=xs.map λx=>(x,x)
 |[]=>rfl
 |x::r=>by simp[Y5 r]
structure Drawn (most:Int) (rows:List (List Int)) (i j:Nat):Prop where
 len:rows.length=i
 wid:∀ r∈rows,r.length=j
 sh:∀ r∈rows,∀ v∈r,0<=v/\v<=most
theorem Drawn.snoc{most:Int}{rows:List (List Int)}{i j:Nat}{r:List Int}(d:Drawn most rows i j)(hr:r.length=j/\∀ v∈r,0<=v/\v<=most):Drawn most (rows++[r]) (i+1) j :=
 ⟨by simp[d.len],λx hx=>by
  rcases Xf.mp hx with hx|hx
  ·exact d.wid x hx
  ·simp at hx;subst hx;exact hr.1,λx hx=>by
  rcases Xf.mp hx with hx|hx
  ·exact d.sh x hx
  ·simp at hx;subst hx;exact hr.2⟩
theorem Drawn.good{most:Int}{rows:List (List Int)}{i j:Nat}(d:Drawn most rows i j)(hm:1<=most)(hi:1<=i)(hi2:i<=1000)(hj:1<=j):Good most rows :=
 ⟨hm,λe=>by have:=d.len;rw[e] at this;simp at this;lia,⟨j,hj,d.wid⟩,d.sh,by rw[d.len];exact hi2⟩
end MP
end
section
namespace MP
open PySem
section
variable (n:Nat) (h:MH)
theorem qaH(b1 b2:Bool)(rows:List (List Int))(hl:rows.length<=sizeL):run prog (n+1) "own_rows" [.f (zh b1 b2 rows)] h=.ok (.f (zh true true rows)) h:=by
 simp[Ze,ZM,itV,zh,stM];rw[zT (e:=MV.f∘Qf b2) (g:=MV.f∘Qf true) rows [] none (by simpa using hl) (λy _ z=>⟨_,by simp[Zt,Qf];exact⟨rfl,rfl⟩⟩)];simp[zh,Qf,sq]
theorem Yao(most:Int)(rows:List (List Int))(g:Good most rows):run prog (n+1) "fault_of" [.f (zh true true rows),I 0,I most] h=.ok (.f .non) h:=by
 obtain⟨m1,ne,⟨w,w0,hw⟩,sh,sz⟩:=g;cases rows with
 |nil=>exact absurd rfl ne
 |cons r0 rs =>
  have hr0:=hw r0 (by simp);have e1:¬ most<1:=by lia
  have e2:r0≠[]:=by intro e;subst e;simp at hr0;lia
  have e7:zc h (.f (Qf true r0))=some (r0.map (MV.f∘FV.int)):=by simp[Qf]
  simp[Ze,QL,e1,zh,e7,e2];rw[<- vw (f:=MV.f) (g:=Qf true),<- Xb (f:=MV.f∘Qf true),Qax (e:=MV.f∘Qf true) (st:=λz=>[some (.f (sq true (Qf true r0::rs.map (Qf true)))),some (I 0),some (I most),z]) (hp:=λ_=>h) (f:=λ_ r=>some (.f (Qf true r))) _ none]
  ·simp
  ·intro r hr z;have e3:=hw r hr;have e4:r≠[]:=by intro e;subst e;simp at e3;lia
   have e5:¬ QbJ r<0:=by have:=sh r hr _ (qaV e4);lia
   have e6:¬ most<YbC r:=by have:=sh r hr _ (qaO e4);lia
   have q1:=QbC true h (.f (Qf true r)) r (by simp[Qf]) e4;have q2:=qbG true h (.f (Qf true r)) r (by simp[Qf]) e4;have q3:zc h (.f (Qf true r))=some (r.map (MV.f∘FV.int)):=by simp[Qf]
   simp[zi,q1,q2,q3,e5,e6,e7,e3,hr0]
theorem ZH(most:Int)(b1 b2:Bool)(rows:List (List Int))(g:Good most rows):run prog (n+2) "Picture.__init__" [.ref h.length,I most,.f (zh b1 b2 rows)] (h++[.obj "Picture" []]) =
  .ok (.f .non) (h++[.obj "Picture" [("most",I most),("rows",.f (zh true true rows))]]):=by
 have hz:rows.length<=sizeL:=xf g.sz (by decide);have t:=TrOk.obj h "Picture" [("most",.int most),("rows",zh true true rows)] [];simp only[Xb,Uk] at t;simp[Ze n.succ,Zn,qaH _ _ b1 b2 rows hz,Yao _ _ most rows g,zk,t];exact Xn (by simp)
theorem Q2(most:Int)(b1 b2:Bool)(rows:List (List Int))(g:Good most rows):qT prog (run prog (n+2)) true "Picture" [I most,.f (zh b1 b2 rows)] h=.ok (.f (Qz most rows)) h:=by
 simp[qT,ZH n h most b1 b2 rows g,TrOk.app,Qz,qi]
end
section
variable {h:MH}
@[simp] theorem Zcg(a:Nat)(z:MV):lmV "extend" (.ref a) [z] h=opt (Zb h a) λxs=>opt (listOf h z) λys=>if xs.length+ys.length<=sizeL then .ok (.f .non) (ye h a (xs++ys)) else .stuck:=rfl
@[simp] theorem lmV_pop(a:Nat):lmV "pop" (.ref a) [] h=opt (Zb h a) λxs=>opt (xs[xs.length-1]?) λy=>.ok y (ye h a (xs.take (xs.length-1))):=rfl
@[simp] theorem Ycy(a:Nat)(i:Int):lmV "pop" (.ref a) [.f (.int i)] h=opt (Zb h a) λxs=>opt (ixM xs.length i) λk=>opt (xs[k]?) λy=>if -(2^63)<=i/\i<2^63 then .ok y (ye h a (xs.take k++xs.drop (k+1))) else .stuck:=rfl
end
section
variable {most:Int} {rows r1 r2:List (List Int)} {H W:Nat}
theorem Drawn.cons(d:Drawn most rows H W)(hH:1<=H):∃ r rs,rows=r::rs/\r.length=W/\rs.length+1=H:=by
 cases rows with
 |nil=>have:=d.len;simp at this;lia
 |cons r rs=>exact⟨r,rs,rfl,d.wid r (by simp),by have:=d.len;simpa using this⟩
end
theorem ZbO{α β:Type}(f:α->FV)(g:β->FV)(xs:List α)(ys:List β):VA (λp:MV×MV=>yf [p.1,p.2]) ((xs.map (MV.f∘f)).zip (ys.map (MV.f∘g)))=(xs.zip ys).map λp=>MV.f (.tup [f p.1,g p.2]):=by
 rw[List.zip_map,vh];rfl
theorem yN{a:Nat}{xs:List MV}{h:MH}(e:Zb h a=some xs):GuardOk [(a,xs)] h:=λp hp=>by simp at hp;subst hp;exact e
theorem qao{α:Type}{bd:MV->MSt->MH->R (Option MV×MSt)}{h:MH}{G:yy}{e g:α->MV}{caps:MSt}(hg:GuardOk G h):∀(ys:List α)(acc:List MV)(z:Option MV),acc.length+ys.length<=sizeL ->
  (∀ y∈ys,∀ z,∃ z',bd (e y) (z::caps) h=.ok (some (g y),z'::caps) h)->Yi G bd (ys.map e) acc (z::caps) h=.ok (acc++ys.map g) h
 |[],acc,z,_,_=>by simp[Yi,hg]
 |y::r,acc,z,hl,hb=>by
  obtain⟨z',e1⟩:=hb y (by simp) z;simp only[Xd] at hl;have ih:=qao (bd:=bd) (e:=e) (g:=g) (caps:=caps) hg r (acc++[g y]) z' (by simp;lia) λy hy=>hb y (by simp[hy]);simp only[Xb,Yi,hg,true_and,e1,R.bind_ok,ih];rw[if_pos (by lia)];simp
theorem qaW{α:Type}{bd:MV->MSt->MH->R (Option MV×MSt)}{e:α->MV}{caps:MSt}(Pv:Nat->List MV->MH->Prop):∀(ys:List α)(i:Nat)(acc:List MV)(z:Option MV)(h:MH),Pv i acc h->acc.length+ys.length<=sizeL ->
  (∀ j y acc z h,ys[j]?=some y->Pv (i+j) acc h->∃ v z' h',bd (e y) (z::caps) h=.ok (some v,z'::caps) h'/\Pv (i+j+1) (acc++[v]) h')->∃ acc' h',Yi [] bd (ys.map e) acc (z::caps) h=.ok acc' h'/\Pv (i+ys.length) acc' h'
 |[],i,acc,z,h,p,_,_=>⟨acc,h,by simp[Yi],p⟩
 |y::r,i,acc,z,h,p,hl,hb=>by
  obtain⟨v,z',h',e1,p1⟩:=hb 0 y acc z h rfl p;simp only[Xd] at hl;obtain⟨acc',h2,e2,p2⟩:=qaW Pv r (i+1) (acc++[v]) z' h' p1 (by simp;lia) (λj y acc z h hj q=>by
   have:=hb (j+1) y acc z h (by simpa using hj) (by rw[show i+(j+1)=i+1+j by lia];exact q);rw[show i+(j+1)+1=i+1+j+1 by lia] at this;exact this)
  refine⟨acc',h2,?_,by rw[Xd,show i+(r.length+1)=i+1+r.length by lia];exact p2⟩;simp only[Xb,Yi,yQ,true_and,e1,R.bind_ok];rw[if_pos (by lia)];exact e2
theorem Qb1{α:Type}{bd:MV->MSt->MH->R (Option MV×MSt)}{e:α->MV}{caps:MSt}{ys:List α}{z:Option MV}{h:MH}{c:R (List MV)}(hc:Yi [] bd (ys.map e) [] (z::caps) h=c)(Pv:Nat->List MV->MH->Prop)(h0:Pv 0 [] h)(hl:ys.length<=sizeL)
  (step:∀ j y acc z h,ys[j]?=some y->Pv j acc h->∃ v z' h',bd (e y) (z::caps) h=.ok (some v,z'::caps) h'/\Pv (j+1) (acc++[v]) h'):∃ acc' h',c=.ok acc' h'/\Pv ys.length acc' h':=by
 obtain⟨acc',h',e1,p⟩:=qaW (bd:=bd) (e:=e) (caps:=caps) Pv ys 0 [] z h h0 (by simpa using hl) (λj y acc z h hj q=>by rw[vn] at q ⊢;exact step j y acc z h hj q);rw[hc,vn] at *;exact⟨acc',h',e1,p⟩
noncomputable abbrev zg(p:Nat×Nat):FV:=.tup [.int p.1,.int p.2]
theorem Yak{α:Type}{bd:MV->MSt->MH->R (Option MV×MSt)}{h:MH}{G:yy}{e g:α->MV}{caps:MSt}(hg:GuardOk G h):∀(ys:List α)(acc:List MV)(z w:Option MV),acc.length+ys.length<=sizeL ->
  (∀ y∈ys,∀ z w,∃ z' w',bd (e y) (z::w::caps) h=.ok (some (g y),z'::w'::caps) h)->Yi G bd (ys.map e) acc (z::w::caps) h=.ok (acc++ys.map g) h
 |[],acc,z,w,_,_=>by simp[Yi,hg]
 |y::r,acc,z,w,hl,hb=>by
  obtain⟨z',w',e1⟩:=hb y (by simp) z w;simp only[Xd] at hl;have ih:=Yak (bd:=bd) (e:=e) (g:=g) (caps:=caps) hg r (acc++[g y]) z' w' (by simp;lia) λy hy=>hb y (by simp[hy]);simp only[Xb,Yi,hg,true_and,e1,R.bind_ok,ih];rw[if_pos (by lia)];simp
structure Inks (most:Int) (inks:List Int):Prop where
 up:inks.Pairwise (· < ·)
 inn:∀ v∈inks,0<=v/\v<=most
 z:0∈inks
 m:most∈inks
 sz:inks.length<=50
namespace Inks
variable {most:Int} {inks:List Int} (K:Inks most inks)
include K
end Inks
end MP
namespace MP
open PySem
theorem Yae{α:Type}{G:yy}{bd:MV->MSt->MH->RS}{e:α->MV}{c:String}(Pv:Nat->MSt->MH->Prop)(Xh:MH->Prop)(hG:∀ i σ h,Pv i σ h->GuardOk G h):∀(ys:List α)(i:Nat)(σ:MSt)(h:MH),Pv i σ h ->
  (∀ j y σ h,ys[j]?=some y->Pv (i+j) σ h->(∃ σ' h',bd (e y) σ h=.next σ' h'/\Pv (i+j+1) σ' h')\/∃ h',bd (e y) σ h=.exc c h'/\Xh h') ->
  (∃ σ' h',zu G bd (ys.map e) σ h=.next σ' h'/\Pv (i+ys.length) σ' h')\/∃ h',zu G bd (ys.map e) σ h=.exc c h'/\Xh h'
 |[],i,σ,h,p,_=>.inl ⟨σ,h,by simp[zu,hG i σ h p],p⟩
 |y::r,i,σ,h,p,hb=>by
  rcases hb 0 y σ h rfl p with ⟨σ1,h1,e1,p1⟩|⟨h1,e1,x1⟩
  ·rcases Yae (G:=G) (bd:=bd) (e:=e) (c:=c) Pv Xh hG r (i+1) σ1 h1 p1 (λj y σ h hj pj=>by
    have:=hb (j+1) y σ h (by simpa using hj) (by rw[show i+(j+1)=i+1+j by lia];exact pj)
    rwa [show i+(j+1)+1=i+1+j+1 by lia] at this) with ⟨σ2,h2,e2,p2⟩|⟨h2,e2,x2⟩
   ·refine .inl ⟨σ2,h2,by simp[zu,hG i σ h p,e1,e2],?_⟩
    rwa [show i+(y::r).length=i+1+r.length by simp;lia]
   ·exact .inr ⟨h2,by simp[zu,hG i σ h p,e1,e2],x2⟩
  ·exact .inr ⟨h1,by simp only[Xb,zu,hG i σ h p,if_true,e1];rfl,x1⟩
theorem ZJ{α:Type}{G:yy}{bd:MV->MSt->MH->RS}{e:α->MV}{c:String}{σ:MSt}{h:MH}{k:MSt->MH->RS}{Q:RS->Prop}(ys:List α)(Pv:Nat->MSt->MH->Prop)(Xh:MH->Prop)(hG:∀ i σ h,Pv i σ h->GuardOk G h)(h0:Pv 0 σ h)
  (step:∀ i y σ h,ys[i]?=some y->Pv i σ h->(∃ σ' h',bd (e y) σ h=.next σ' h'/\Pv (i+1) σ' h')\/∃ h',bd (e y) σ h=.exc c h'/\Xh h')
  (fin:∀ σ' h',Pv ys.length σ' h'->Q (k σ' h')) (bad:∀ h',Xh h'->Q (.exc c h')):Q ((zu G bd (ys.map e) σ h).bind k):=by
 rcases Yae (G:=G) (bd:=bd) (e:=e) (c:=c) Pv Xh hG ys 0 σ h h0 (λj y σ h hj pj=>by simp only[vn] at pj ⊢;exact step j y σ h hj pj) with ⟨σ',h',e1,p⟩|⟨h',e1,x⟩
 ·rw[e1];exact fin σ' h' (by simpa using p)
 ·rw[e1];exact bad h' x
noncomputable def Za(H W:Nat):List (Nat×Nat):=(wc H).flatMap λr=>(wc W).map λc=>(r,c)
theorem Zac(H W:Nat):(Za H W).length=H*W:=by
 unfold Za;rw[List.length_flatMap];simp only[Wd,Uy]
 induction H with
 |zero=>simp
 |succ H ih=>rw[Ut,Xi,List.sum_append,ih,Xx];simp
theorem qa2(H W:Nat)(hW:1<=W):(wc (H*W)).map (λk=>(k/W,k%W))=Za H W:=by
 unfold Za
 induction H with
 |zero=>simp
 |succ H ih =>
  rw[Xx,Nat.one_mul,List.range_add,Xi,ih,Ut,Vw,vh]
  congr 1
  simp only[List.flatMap_cons,List.flatMap_nil,Uj];refine wx λj hj=>?_;have hj:=Xj.mp hj;simp only[vw,Prod.mk.injEq];rw[xC H W,Nat.mul_add_div (by lia),Nat.mul_add_mod,Nat.div_eq_of_lt hj,vo hj];exact⟨by lia,rfl⟩
noncomputable def EiX(c:String)(r:RS)(P:MSt->MH->Prop)(X:MH->Prop):Prop:=(∃ σ h,r=.next σ h/\P σ h)\/∃ h,r=.exc c h/\X h
noncomputable def EiR(c:String)(r:R MV)(P:MV->MH->Prop)(X:MH->Prop):Prop:=(∃ v h,r=.ok v h/\P v h)\/∃ h,r=.exc c h/\X h
@[simp] theorem EiX_next(c:String)(σ:MSt)(h:MH)(P:MSt->MH->Prop)(X:MH->Prop):EiX c (.next σ h) P X↔P σ h:=⟨λz=>by rcases z with ⟨_,_,e,p⟩|⟨_,e,_⟩ <;> cases e;exact p,λp=>.inl ⟨_,_,rfl,p⟩⟩
@[simp] theorem EiX_exc(c:String)(h:MH)(P:MSt->MH->Prop)(X:MH->Prop):EiX c (.exc c h) P X↔X h:=⟨λz=>by rcases z with ⟨_,_,e,_⟩|⟨_,e,p⟩ <;> cases e;exact p,λp=>.inr ⟨_,rfl,p⟩⟩
@[simp] theorem EiR_ok(c:String)(v:MV)(h:MH)(P:MV->MH->Prop)(X:MH->Prop):EiR c (.ok v h) P X↔P v h:=⟨λz=>by rcases z with ⟨_,_,e,p⟩|⟨_,e,_⟩ <;> cases e;exact p,λp=>.inl ⟨_,_,rfl,p⟩⟩
@[simp] theorem EiR_exc(c:String)(h:MH)(P:MV->MH->Prop)(X:MH->Prop):EiR c (.exc c h) P X↔X h:=⟨λz=>by rcases z with ⟨_,_,e,_⟩|⟨_,e,p⟩ <;> cases e;exact p,λp=>.inr ⟨_,rfl,p⟩⟩
end MP
end
section
namespace MP
open PySem
end MP
end
section
namespace MP
open PySem
end MP
namespace MP
end MP
namespace MP
theorem zbq(g t:MH)(xs:List FV):zk g (.ref g.length) (g++.lst (xs.map .f)::t)=.ok (.ref g.length) (g++[.lst (xs.map .f)]):=by
 have cl:=qb g t (xs.map MV.f);have tr:TrOk g (g++.lst (xs.map MV.f)::t):=TrOk.app g _;have ef:=Qaw xs;generalize xs.map MV.f=M at *;have tk:(g++Cell.lst M::t).take g.length=g:=by rw[List.take_left'];rfl
 unfold zk;rw[if_pos tr];simp only;rw[if_pos (by simp),cl];simp only[ef,tk]
noncomputable def cZ(c:Nat×Nat):Int×Int:=((c.1:Int),(c.2:Int))
end MP
namespace MP
theorem qar(g t:MH)(x:FV):zk g (.f x) (g++t)=.ok (.f x) g:=by
 have tr:TrOk g (g++t):=TrOk.app g _;unfold zk;rw[if_pos tr];simp
end MP
end
section
namespace MP
open PySem
noncomputable def yb8(cs:List (Nat×Nat))(m:Nat):List (Nat×Nat) :=
 cs.map (λc=>(c.2,c.1))++cs.map (λc=>(m+c.1,c.2))++cs.map (λc=>(m+c.1,m+c.2))++cs.map (λc=>(m-1-c.2,2*m-1-c.1))
noncomputable def Zbi:Nat->List (Nat×Nat)
 |0=>[(0,0)]
 |k+1=>yb8 (Zbi k) (2^k)
theorem ybw:∀(k:Nat),∀ c∈Zbi k,c.1<2^k/\c.2<2^k
 |0,c,h=>by
  simp[Zbi] at h;subst h;simp
 |k+1,c,h=>by
  have ih:=ybw k;have p:2^(k+1)=2*2^k:=by rw[Nat.pow_succ,xC]
  have q:0<2^k:=Nat.two_pow_pos k;rw[p];simp only[Zbi,yb8,Xf,vf] at h
  rcases h with ((⟨d,hd,rfl⟩|⟨d,hd,rfl⟩)|⟨d,hd,rfl⟩)|⟨d,hd,rfl⟩ <;> (have:=ih d hd;simp only;lia)
theorem ZP{H W:Nat}{c:Nat×Nat}(h:c∈Za H W):c.1<H/\c.2<W:=by
 unfold Za at h;simp only[Vo,vf,Xj] at h;obtain⟨r,hr,c',hc,rfl⟩:=h;exact⟨hr,hc⟩
theorem Zp(P:Prog)(W:String->List MV->MH->R MV):∀(a b:List MS)(σ:MSt)(h:MH),Qa P W (a++b) σ h=(Qa P W a σ h).bind (Qa P W b)
 |[],b,σ,h=>by simp[Qa]
 |s::a,b,σ,h=>by
  rw[Xr,Qa,Qa];cases e:Qt P W s σ h with
  |next σ' h'=>simp[Zp P W a b σ' h']
  |_=>simp
end MP
namespace MP
end MP
namespace MP
end MP
namespace MP
end MP
end
section
namespace MP
open PySem
end MP
end
section
namespace MP
open PySem
end MP
end
section
namespace MP
open PySem
end MP
end
section
namespace MP
open PySem
end MP
end
section
namespace MP
open PySem
end MP
end
section
namespace MP
open PySem
theorem zK{α β:Type}{f:α->β}:∀{l:List α},(∀ a∈l,∀ b∈l,f a=f b->a=b)->l.Nodup->(l.map f).Nodup
 |[],_,_=>by simp
 |a::l,h,n=>by
  rw[Vj] at n;rw[Xb,Vj];refine⟨λm=>?_,zK (λx hx y hy=>h x (by simp[hx]) y (by simp[hy])) n.2⟩;obtain⟨b,hb,e⟩:=vf.mp m;have:=h b (by simp[hb]) a (by simp) e;exact n.1 (this ▸ hb)
theorem qaS(H W:Nat)(hW:1<=W):(Za H W).Nodup:=by
 rw[<- qa2 H W hW];refine zK (λa _ b _ e=>?_) List.nodup_range;simp only[Prod.mk.injEq] at e;have h1:=Uv a W;have h2:=Uv b W;rw[e.1,e.2] at h1
 lia
end MP
namespace MP
noncomputable def zY(R:List (List Int))(p:Int×Int):Int:=(R.getD p.1.toNat []).getD p.2.toNat 0
theorem Yaq(R:List (List Int))(q p:Int×Int)(v:Int)(hq:0<=q.1/\0<=q.2)(hp:0<=p.1/\0<=p.2)(ne:q≠p):zY (Zf R q.1.toNat q.2.toNat v) p=zY R p:=by
 unfold zY Zf;by_cases h:q.1.toNat=p.1.toNat
 ·have h2:q.2.toNat≠p.2.toNat:=λe=>ne (uD (by lia) (by lia));rw[h];simp only[uh,Wz];cases R[p.1.toNat]? with
  |none=>rfl
  |some r=>simp[Uf h2]
 ·simp[uh,xw,h]
theorem qav(R:List (List Int))(p:Int×Int)(v:Int)(hl:p.1.toNat<R.length)(hw:∀ r∈R,p.2.toNat<r.length):zY (Zf R p.1.toNat p.2.toNat v) p=v:=by
 unfold zY Zf;have e:R[p.1.toNat]?=some R[p.1.toNat]:=by simp[hl]
 have h2:=hw _ (Wh hl);simp[uh,Wz,e,h2]
theorem yL:∀(ps:List ((Int×Int)×Int)) (R:List (List Int)) (p:Int×Int),(∀ q∈ps,0<=q.1.1/\0<=q.1.2)->(0<=p.1/\0<=p.2)->p∉ps.map (·.1)->zY (zr R ps) p=zY R p
 |[],R,p,_,_,_=>rfl
 |q::ps,R,p,h,hp,n=>by
  simp only[Xb,ua,not_or] at n;show zY (zr (Zf R q.1.1.toNat q.1.2.toNat q.2) ps) p=_;rw[yL ps _ p (λx hx=>h x (by simp[hx])) hp n.2,Yaq R q.1 p q.2 (h q (by simp)) hp (Ne.symm n.1)]
theorem qaA(H W:Nat):∀(ps:List ((Int×Int)×Int)) (R:List (List Int)),R.length=H->(∀ r∈R,r.length=W)->(∀ q∈ps,0<=q.1.1/\q.1.1<H/\0<=q.1.2/\q.1.2<W)->(ps.map (·.1)).Nodup->∀ q∈ps,zY (zr R ps) q.1=q.2
 |[],R,_,_,_,_,q,hq=>by simp at hq
 |x::ps,R,hl,hw,h,nd,q,hq=>by
  rw[Xb,Vj] at nd;have hl':(Zf R x.1.1.toNat x.1.2.toNat x.2).length=H:=by rw[Yp];exact hl
  have hw':∀ r∈Zf R x.1.1.toNat x.1.2.toNat x.2,r.length=W:=λr hr=>by
   rcases Yz hr with hr|⟨r0,hr0,rfl⟩
   ·exact hw r hr
   ·simp;exact hw r0 hr0
  show zY (zr (Zf R x.1.1.toNat x.1.2.toNat x.2) ps) q.1=q.2
  rcases ua.mp hq with rfl|hq
  ·have hx:=h q (by simp);rw[yL ps _ q.1 (λy hy=>by have:=h y (by simp[hy]);lia) (by lia) nd.1];exact qav R q.1 q.2 (by lia) (λr hr=>by rw[hw r hr];lia)
  ·exact qaA H W ps _ hl' hw' (λy hy=>h y (by simp[hy])) nd.2 q hq
section
variable (n:Nat) (h:MH)
theorem yaf(most:Int)(rows:List (List Int))(b:Bool)(ps:List ((Int×Int)×Int))(g:Good most rows)(hp:∀ p∈ps,Inn rows p.1/\0<=p.2/\p.2<=most) :
  run prog (n+3) "with_shades" [.f (Qz most rows),.f (sq b (ps.map Ql))] h=.ok (.f (Qz most (zr rows ps))) h/\Good most (zr rows ps):=by
 have hz:rows.length<=sizeL:=xf g.sz (by decide);simp only[Ze n.succ.succ,Zag,zj,Zw];simp[Qz,zh,MP.stM];rw[Y8 _ (MV.f∘Qf true) (λr z h=>⟨some (.f (Qf true r)),by simp[Zt,Qf,QA]⟩) rows [] none h (by simpa using hz)];simp only[R.bind_ok,YA,R.st_ok,Vk];have eo:(h++rows.map QA)++[.lst ((wc rows.length).map λi=>MV.ref (h.length+i))]=own h rows:=by simp[own]
 have el:(h++rows.map QA).length=h.length+rows.length:=by simp
 rw[eo,el];have L:=zak (bd:=zi (.tp [.nm 3,.nm 4]) (Qa prog (run prog (n+1+1)) [MS.setSub ((ME.var 2).sub ((ME.var 3).sub (ME.cI 0))) ((ME.var 3).sub (ME.cI 1)) (ME.var 4)])) (e:=MV.f∘Ql)
  (st:=λb':List (List Int)×Option MV×Option MV=>[some (MV.f (FV.obj "Picture" ["most","rows"] [FV.int most,sq true (VA (Qf true) rows)])),some (MV.f (sq b (VA Ql ps))),some (MV.ref (Us h+rows.length)),b'.2.1,b'.2.2]) (hp:=λb'=>own h b'.1)
  (f:=λb' p=>(Zf b'.1 p.1.1.toNat p.1.2.toNat p.2,some (.f (ybG p.1)),some (I p.2))) (λb'=>b'.1.length=rows.length/\(∀ p,Inn rows p->Inn b'.1 p)/\Good most b'.1) ps (rows,none,none) ⟨rfl,λ_ h=>h,g⟩ (λp hpm b' hb'=>by
   obtain⟨hl,hin,hg⟩:=hb';obtain⟨hp1,hp2,hp3⟩:=hp p hpm;have hi:=hin p.1 hp1;have hlt:p.1.1.toNat<b'.1.length:=by have:=hi.1;have:=hi.2.1;lia
   have er:b'.1[p.1.1.toNat]?=some b'.1[p.1.1.toNat]:=by simp[hlt]
   have hj:=hi.2.2.2 _ (Uc er);have e1:atM ((wc rows.length).map λi=>MV.ref (h.length+i)) p.1.1=some (.ref (h.length+p.1.1.toNat)):=by
    rw[qaM _ _ hi.1];rw[xc,Ui (by lia)];rfl
   have e2:ixM b'.1[p.1.1.toNat].length p.1.2=some p.1.2.toNat:=by
    unfold ixM;rw[if_pos hi.2.2.1,if_pos hj]
   have ht:=yK h b'.1;rw[hl] at ht;refine⟨?_,by rw[Yp];exact hl,λq hq=>Qbr (hin q hq),za2 hg hp2 hp3⟩;simp[zi,ht,e1,ZS h b'.1 _ _ er,e2];exact ybh h b'.1 _ _ _ p.2 er)
 obtain⟨L1,L2⟩:=L;have hfold:(ps.foldl (λ(b':List (List Int)×Option MV×Option MV) p=>(Zf b'.1 p.1.1.toNat p.1.2.toNat p.2,some (.f (ybG p.1)),some (I p.2))) (rows,none,none)).1=zr rows ps:=by
  unfold zr;exact qay _ _ (λb p=>rfl) ps _
 refine⟨?_,?_⟩
 ·have hl:=L2.1;rw[hfold] at hl;obtain⟨t',ef⟩:=Yb0 h (zr rows ps);rw[hl] at ef;have g2:Good most (zr rows ps):=by rw[<- hfold];exact L2.2.2
  have mk:=Q2 n (h++t') most false false (zr rows ps) g2;simp only[zh,Qz] at mk ef;simp;rw[L1];simp[hfold,ef,mk]
 ·rw[<- hfold];exact L2.2.2
noncomputable def zl(H W:Nat):List (List Int):=Wb H (Wb W 0)
theorem QaL(most:Int)(H W:Nat)(hm:1<=most)(h1:1<=H)(h2:H<=1000)(w1:1<=W)(w2:W<=1000)(b:Bool)(ps:List ((Int×Int)×Int))(hp:∀ p∈ps,(0<=p.1.1/\p.1.1<H/\0<=p.1.2/\p.1.2<W)/\0<=p.2/\p.2<=most) :
  run prog (n+4) "laid_out" [I most,.f (.tup [.int H,.int W]),.f (sq b (ps.map Ql))] h=.ok (.f (Qz most (zr (zl H W) ps))) h:=by
 have g:Good most (zl H W):=by
  refine⟨hm,by simp[zl];lia,⟨W,w1,λr hr=>by rw[xm hr];simp⟩,λr hr v hv=>?_,by simp[zl];lia⟩;rw[xm hr] at hv;rw[xm hv];lia
 have WS:=(yaf n h most (zl H W) b ps g (λp hp'=>⟨⟨(hp p hp').1.1,by simpa[zl] using(hp p hp').1.2.1,(hp p hp').1.2.2.1,λr hr=>by rw[xm hr];simpa using(hp p hp').1.2.2.2⟩,(hp p hp').2⟩)).1;have mk:=Q2 (n+1) h most false false (zl H W) g;have b1:∀ hh,yh true .mul (.f (.lst [.int 0])) (I (W:Int)) hh=.ok (.f (Qf false (Wb W 0))) hh:=λhh=>by
  have c:-(2^63)<=(W:Int)/\(W:Int)<2^63/\1*(W:Int).toNat<=sizeL:=⟨by lia,by lia,by rw[Yg];lia⟩;have e:(Wb W [MV.f (.int 0)]).flatten=((Wb W (0:Int)).map FV.int).map MV.f:=by
   rw[xp];simp
  unfold yh;simp only[Yd,listOf,zj,Xb,Uk,Xd,Vl,vn];rw[if_pos c,wo,e,Yo];rfl
 have b2:∀ hh,yh true .mul (.f (.lst [Qf false (Wb W 0)])) (I (H:Int)) hh=.ok (.f (zh false false (zl H W))) hh:=λhh=>by
  have c:-(2^63)<=(H:Int)/\(H:Int)<2^63/\1*(H:Int).toNat<=sizeL:=⟨by lia,by lia,by rw[Yg];lia⟩;have e:(Wb H [MV.f (Qf false (Wb W 0))]).flatten=((zl H W).map (Qf false)).map MV.f:=by
   rw[xp];simp[zl]
  unfold yh;simp only[Yd,listOf,zj,Xb,Uk,Xd,Vl,vn];rw[if_pos c,wo,e,Yo];rfl
 rw[QaI];simp only[d_laid_out];have a0:atM [I (H:Int),I (W:Int)] 0=some (I (H:Int)):=rfl;have a1:atM [I (H:Int),I (W:Int)] 1=some (I (W:Int)):=rfl;generalize Qf false (Wb W 0)=z at *;generalize zh false false (zl H W)=zz at *;generalize sq b (ps.map Ql)=pp at *;generalize Qz most (zl H W)=p0 at *;simp[a0,a1,b1,b2,qi,mk,WS]
end
section
variable (n:Nat) (h:MH)
theorem Z0(ns:List Int)(k:Int)(hk:0<=k)(hk2:k<1000000):run prog (n+1) "_law_next" [.f (.scr ns),.ref 0] (atC k::h)=.ok (I (Zat ns (k+1))) (atC (k+1)::h):=by
 have m1:Q5 (k+1) (k+1):=YR (by lia);have m2:∀ x,Q5 x 7919:=λx=>YR (by decide);have m3:∀ x,Q5 x 48271:=λx=>YR (by decide);have m4:∀ x:Int,Q5 (x%2147483647) (x%2147483647):=λx=>YR (by have:=ut x (show(2147483647:Int)≠0 by decide);have:=xq x (show(0:Int)<2147483647 by decide);lia);simp only[Ze,Zav,zj,zE];by_cases hn:ns=[]
 ·subst hn;simp[zah,yp,m1,m2,m3,m4,ixM,Zat,zM]
 ·have hl:0<ns.length:=vm.mpr hn;have e1:atM (ns.map λi=>MV.f (.int i)) ((k+1)%ns.length)=some (I (zM ns (k+1))):=by
   have h0:0<=(k+1)%(ns.length:Int):=ut _ (by lia);have h1:(k+1)%(ns.length:Int)<ns.length:=xq _ (by lia);rw[qaM _ _ h0,xc,Wa (by lia)];simp[zM,hn,uh,Wa (show((k+1)%(ns.length:Int)).toNat<ns.length by lia)]
  simp[zah,yp,m1,m2,m3,m4,ixM,Zat,hl,e1]
end
section
variable (n:Nat) (h:MH)
theorem ybC(ns:List Int)(k:Int)(hk:0<=k)(hk2:k<1000000):∃ m:Int,1<=m/\m<=100000000000000000000000000000/\run prog (n+2) "_law_most" [.f (.scr ns),.ref 0] (atC k::h)=.ok (I m) (atC (k+1)::h):=by
 have N:=Z0 n h ns k hk hk2;have hm:=mod_lt (Zat ns (k+1)) 6 (by decide);have hp:∀ hh,yh true .pow (I 10) (I 29) hh=.ok (I 100000000000000000000000000000) hh:=λhh=>ZbS true 10 29 (by decide);have key:∀ c:Int,∃ m:Int,(1<=m/\m<=100000000000000000000000000000)/\atM [I 1,I 2,I 3,I 9,I 255,I (c%100000000000000000000000000000+1)] (Zat ns (k+1)%6)=some (I m):=λc=>by
  obtain⟨v,hv,e⟩:=qb3 (I 1) (I 2) (I 3) (I 9) (I 255) (I (c%100000000000000000000000000000+1)) _ hm.1 hm.2;have hc:=mod_lt c 100000000000000000000000000000 (by decide);simp only[ua,uc,or_false] at hv
  rcases hv with rfl|rfl|rfl|rfl|rfl|rfl
  all_goals exact⟨_,by lia,e⟩
 obtain⟨m,hm1,e⟩:=key (zM ns (k+1));refine⟨m,hm1.1,hm1.2,?_⟩;rw[Ze (n+1)];simp only[zav,zj,QD];by_cases hn:ns=[]
 ·subst hn;simp[zM] at e;simp[N,hp,yp,qi,e]
 ·have hl:0<ns.length:=vm.mpr hn;simp[N,hp,yp,hl,zbs ns hn (k+1),qi,e]
end
theorem qM(n:Nat)(h:MH):∀(d:Nat)(x:FV),isP d x=true->run prog (n+d) "_law_same" [.f x,.f x] h=.ok (B true) h
 |0,x,e=>by cases x <;> simp[isP] at e
 |d+1,x,e=>by
  rw[show n+(d+1)=(n+d)+1 from rfl,ZU];simp only[d__law_same];cases x with
  |non=>simp
  |bl b=>simp[isP] at e
  |int i=>simp
  |str s=>simp[isP] at e;simp[qbg _ _ e e]
  |tup xs =>
   simp[isP] at e;simp[Y5,Wf,MP.stM];rw[zaa (e:=λx=>MV.f (.tup [x,x])) (g:=λ_=>B true) (caps:=[]) xs [] none none (by simpa using e.1) (λy hy z w=>⟨some (.f y),some (.f y),by simp[Zt,qM n h d y (e.2 y hy)]⟩)];simp[Wf]
  |lst xs =>
   simp[isP] at e;simp[Y5,Wf,MP.stM];rw[zaa (e:=λx=>MV.f (.tup [x,x])) (g:=λ_=>B true) (caps:=[]) xs [] none none (by simpa using e.1) (λy hy z w=>⟨some (.f y),some (.f y),by simp[Zt,qM n h d y (e.2 y hy)]⟩)];simp[Wf]
  |obj c ns vs=>simp[isP] at e
  |scr ns=>simp[isP] at e
  |tab ns=>simp[isP] at e
  |msk ns=>simp[isP] at e
section
variable (n:Nat) (h:MH)
theorem QbB{a:Nat}{xs:List MV}(e:Zb h a=some xs)(t:String):QQ prog.subs h (.ref a) t=some (decide (t="list")):=by
 unfold Zb at e;split at e
 ·next w=>simp[QQ,w]
 ·cases e
theorem yaI(a:Nat)(r:List Int)(e:Zb h a=some (r.map (MV.f∘FV.int)))(hl:r.length<=1000):run prog (n+2) "_law_same" [.ref a,.f (Qf false r)] h=.ok (B true) h:=by
 have i1:=QbB h e;have q:zc h (.f (Qf false r))=some (r.map (MV.f∘FV.int)):=by simp[Qf]
 have gq:yc h (.f (Qf false r))=[]:=rfl;have gr:yc h (.ref a)=[(a,r.map (MV.f∘FV.int))]:=by simp[yc,e]
 have iv:∀ t,QQ prog.subs h (.f (Qf false r)) t=some (decide (t="list")):=λt=>rfl;have nn:Yr (.f (Qf false r))=false:=rfl;have S:=λi=>qM n h 1 (.int i) (by simp[isP]);have zs:VA (λp:MV×MV=>yf [p.1,p.2]) ((r.map (MV.f∘FV.int)).zip (r.map (MV.f∘FV.int)))=r.map λi=>MV.f (.tup [.int i,.int i]):=by
  rw[ZbO,Y5,vh];rfl
 rw[ZU];simp only[d__law_same];generalize hrv:Qf false r=rv at *;simp[nn,iv,i1,e,q,gq,gr,zs,MP.stM];rw[Yak (yN e) (e:=λi=>MV.f (.tup [.int i,.int i])) (g:=λ_=>B true) (caps:=[]) r [] none none (by simp[Yg];lia) (λi _ z w=>⟨some (I i),some (I i),by simp[Zt,S]⟩)];simp[Wf]
end
end MP
end
section
namespace MP
open PySem
theorem ZaQ(h:MH)(a:Nat)(xs:List FV):lmV "extend" (.ref a) [.f (.lst xs)] h=opt (Zb h a) λys=>if ys.length+xs.length<=sizeL then .ok (.f .non) (ye h a (ys++xs.map .f)) else .stuck:=by
 have:lmV "extend" (.ref a) [.f (.lst xs)] h=opt (Zb h a) λys=>opt (listOf h (.f (.lst xs))) λzs=>if ys.length+zs.length<=sizeL then .ok (.f .non) (ye h a (ys++zs)) else .stuck:=rfl;rw[this];cases Zb h a with
 |none=>rfl
 |some ys=>simp
structure PV (h:MH) (v:MV) (m:Int) (R:List (List Int)):Prop where
 most:QY prog.fok "most" v h=some (I m)
 rows:QY prog.fok "rows" v h=some (.f (zh true true R))
structure Grid (R:List (List Int)) (H W:Nat):Prop where
 len:R.length=H
 all:∀ r∈R,r.length=W
 h1:1<=H
 w1:1<=W
noncomputable def gP(R:List (List Int))(i j:Nat):Int:=(R.getD i []).getD j 0
section
variable (n:Nat) (h:MH)
theorem Zbq(H W:Nat)(hHW:H*W<=100000)(hW:W<=10000)(hH:H<=10000):run prog (n+1) "cells_by_rows" [I H,I W] h=.ok (.f (.lst ((Za H W).map zg))) h:=by
 suffices Ret (run prog (n+1) "cells_by_rows" [I H,I W] h) λv h'=>v=.f (.lst ((Za H W).map zg))/\h'=h by
  obtain⟨v,h',e,rfl,rfl⟩:=this;exact e
 refine Ret.of λQ hQ=>?_;rw[Y0];simp only[d_cells_by_rows];simp[qp _ (H:Int) (by lia)];refine Yu (Q:=λr=>Ret (Qc _ r) _) H (λi σ hh=>∃(z3:Option MV),hh=h++[.lst (((Za i W).map zg).map .f)]/\σ=[some (I H),some (I W),some (.ref h.length),z3]) ⟨none,by simp[Za],rfl⟩ ?_ ?_
 ·rintro i σ hh hil ⟨z3,rfl,rfl⟩ Q hQ;have nx:((Za (i+1) W).map zg).map MV.f=((Za i W).map zg).map MV.f++(((wc W).map λc=>zg (i,c)).map MV.f):=by
   unfold Za;rw[Ut,Vw,Xi,Xi];simp[Wf]
  simp only[nx] at hQ;have ml:(((Za i W).map zg).map MV.f).length+((wc W).map λc=>zg (i,c)).length<=sizeL:=by
   have:i*W<=H*W:=wB _ (by lia);simp[Zac,Yg];lia
  generalize ((Za i W).map zg).map MV.f=M at *;have cl:=qb h [] M;have st:=λys=>Qg h [] M ys;simp[zi,cl,qp _ (W:Int) (by lia),MP.stM];rw[zT (e:=λk:Nat=>I k) (g:=λc=>MV.f (zg (i,c))) (wc W) [] none (by simp[Yg];lia) (λc _ z=>⟨some (I c),by simp[Zt]⟩)];have e2:(wc W).map (λc=>MV.f (zg (i,c)))=((wc W).map λc=>zg (i,c)).map MV.f:=by simp[Wf]
  simp only[Vk,R.bind_ok,e2,Yo];generalize (wc W).map (λc=>zg (i,c))=L at *;simp[ZaQ,cl,ml,st];exact hQ _ _ ⟨_,rfl,rfl⟩
 ·rintro σ hh ⟨z3,rfl,rfl⟩;obtain⟨t',F⟩:=Yai h [] ((Za H W).map zg);have lv:=qar h t' (.lst ((Za H W).map zg));generalize FV.lst ((Za H W).map zg)=v at *;generalize ((Za H W).map zg).map MV.f=M at *;simp[F,lv];exact hQ _ _ ⟨rfl,rfl⟩
section
variable {v:MV} {m:Int} {R:List (List Int)} {H W:Nat} (p:PV h v m R) (g:Grid R H W)
include p g
theorem Qay:run prog (n+1) "high" [v] h=.ok (I (H:Int)) h:=by
 have f:=p.rows;have l:=g.len;have q:zc h (.f (zh true true R))=some ((R.map (Qf true)).map MV.f):=rfl;rw[ZbM];simp only[d_high];generalize zh true true R=rv at *;simp[f,q,l]
theorem ya6(i:Nat)(hi:i<H):∃ r,R[i]?=some r/\r.length=W/\atM ((R.map (Qf true)).map MV.f) (i:Int)=some (.f (Qf true r)):=by
 have hi':i<R.length:=by rw[g.len];exact hi
 refine⟨R[i],Wa hi',g.all _ (Wh hi'),?_⟩;rw[Yh];simp[Wa hi']
theorem Yay:run prog (n+1) "wide" [v] h=.ok (I (W:Int)) h:=by
 have f:=p.rows;obtain⟨r,_,lr,ar⟩:=ya6 h p g 0 (by have:=g.h1;lia);have q:zc h (.f (zh true true R))=some ((R.map (Qf true)).map MV.f):=rfl;have q2:zc h (.f (Qf true r))=some ((r.map FV.int).map MV.f):=rfl;rw[YbD];simp only[d_wide];generalize zh true true R=rv at *;generalize (R.map (Qf true)).map MV.f=RM at *;generalize Qf true r=r1 at *;simp at ar;simp[f,q,ar,q2,lr]
theorem yz:run prog (n+2) "size_of" [v] h=.ok (.f (.tup [.int H,.int W])) h:=by
 have A:=Qay n h p g;have B:=Yay n h p g;rw[YaN];simp only[d_size_of];simp[A,B,yf,qi]
theorem Qap(i j:Nat)(hi:i<H)(hj:j<W):run prog (n+4) "shade_at" [v,.f (zg (i,j))] h=.ok (I (gP R i j)) h:=by
 have A:=Qay n h p g;have B:=Yay n h p g;have a0:atM [I (i:Int),I (j:Int)] 0=some (I (i:Int)):=rfl;have a1:atM [I (i:Int),I (j:Int)] 1=some (I (j:Int)):=rfl;have qc:∀ hh,zc hh (.f (zg (i,j)))=some [I (i:Int),I (j:Int)]:=λhh=>rfl;have hc:run prog (n+2) "has_cell" [v,.f (zg (i,j))] h=.ok (MP.B true) h:=by
  rw[YaG];simp only[d_has_cell];generalize zg (i,j)=cv at *;have c1:(i:Int)<(H:Int):=by lia
  have c2:(j:Int)<(W:Int):=by lia
  simp[qc,a0,a1,A,B,c1,c2]
 have ac:run prog (n+3) "ask_cell" [v,.f (zg (i,j))] h=.ok (.f .non) h:=by
  rw[YaL];simp only[d_ask_cell];generalize zg (i,j)=cv at *;simp[hc]
 have f:=p.rows;obtain⟨r,er,lr,ar⟩:=ya6 h p g i hi;have q:zc h (.f (zh true true R))=some ((R.map (Qf true)).map MV.f):=rfl;have q2:zc h (.f (Qf true r))=some ((r.map FV.int).map MV.f):=rfl;have ej:atM ((r.map FV.int).map MV.f) (j:Int)=some (I (gP R i j)):=by
  have hj':j<r.length:=by rw[lr];exact hj
  rw[Yh];simp[gP,er,Wa hj']
 rw[zaF];simp only[d_shade_at];generalize zg (i,j)=cv at *;generalize zh true true R=rv at *;generalize (R.map (Qf true)).map MV.f=RM at *;generalize (r.map FV.int).map MV.f=rm at *;generalize Qf true r=r1 at *;simp[ac,f,q,qc,a0,a1,ar,q2,ej]
end
theorem qax{v w:MV}{m m':Int}{R R':List (List Int)}(p:PV h v m R)(p':PV h w m' R'):run prog (n+1) "ask_mosts" [v,w] h=if m=m' then .ok (.f .non) h else .exc "NoMeet" h:=by
 have f1:=p.most;have f2:=p'.most;have e:Yv .ne (I m) (I m') h=some (decide (m≠m')):=by
  simp[Yv,qG,yn,eqF,isD,eqD];by_cases c:m=m' <;> simp[c]
 rw[Qau];simp only[d_ask_mosts];by_cases c:m=m'
 ·simp[f1,f2,e,c]
 ·simp[f1,f2,e,c]
end
end MP
end
section
namespace MP
open PySem
structure PR where
 v:MV
 m:Int
 H:Nat
 W:Nat
 R:List (List Int)
noncomputable def OkR(h:MH)(p:PR):Prop:=PV h p.v p.m p.R/\Grid p.R p.H p.W
structure PL (h:MH) (u:MV) (ps:List PR):Prop where
 seq:zc h u=some (ps.map (·.v))
 gd:GuardOk (yc h u) h
 ok:∀ p∈ps,OkR h p
 len:ps.length<=100
noncomputable def YaY(p q:PR):Prop:=p.m=q.m/\p.H=q.H/\p.W=q.W
theorem Zbd(H W H' W':Nat)(hh:MH):Yv .ne (.f (.tup [.int H,.int W])) (.f (.tup [.int H',.int W'])) hh=some (decide (¬(H=H'/\W=W'))):=by
 have e:eqD (.tup [.int H,.int W]) (.tup [.int H',.int W'])=decide (H=H'/\W=W'):=by
  simp only[eqD,Zan,Bool.and_true];rw[Wq];simp;constructor <;> intro q <;> lia
 have e1:eqF (.tup [.int H,.int W]) (.tup [.int H',.int W'])=some (decide (H=H'/\W=W')):=by
  unfold eqF;rw[if_pos ⟨rfl,rfl⟩,e]
 have e2:∀ x,qG hh (.f x)=some x:=λx=>rfl;simp only[Yv,e2,Uo,e1,Wj,decide_not]
theorem Qaa:∀{xs:List MV}{ys:List FV},qi xs=some ys->ys.map MV.f=xs
 |[],ys,e=>by simp[qi] at e;subst e;rfl
 |x::xs,ys,e=>by
  cases x with
  |f a =>
   simp only[qi,Wc] at e;obtain⟨zs,e1,rfl⟩:=e;rw[Xb,Qaa e1]
  |_=>simp[qi] at e
theorem QaG(xs:List MV):ZD (yf xs)=some xs:=by
 unfold yf;cases e:qi xs with
 |none=>rfl
 |some ys=>show some (ys.map MV.f)=_;rw[Qaa e]
section
variable (n:Nat) (h:MH) {u:MV} {ps:List PR}
theorem qbC(P:PL h u ps):itV "seq" [u] h=some (ps.map (·.v),yc h u):=by
 have q:=P.seq;simp only[itV,q,Wj]
theorem Qbd(P:PL h u ps):itV "enumerate" [u] h=some (ps.zipIdx.map (λq=>yf [.f (.int (q.2:Nat)),q.1.v]),yc h u):=by
 have q:=P.seq;have e:(ps.map (·.v)).mapIdx (λk x=>yf [.f (.int (k:Nat)),x])=ps.zipIdx.map (λq=>yf [.f (.int (q.2:Nat)),q.1.v]):=by
  apply vk;intro i;simp only[Wm,xc,Xw];cases ps[i]? <;> simp
 simp only[itV,q,Wj,e]
theorem yap(P:PL h u ps)(p0:PR)(r:List PR)(e0:ps=p0::r):(∀ p∈ps,YaY p p0)->run prog (n+3) "ask_layers" [u] h=.ok (.f .non) h:=by
 intro al;have it:=qbC h P;have q:=P.seq;have a0:atM (ps.map (·.v)) 0=some p0.v:=by
  rw[e0];show atM _ ((0:Nat):Int)=_;rw[Yh];rfl
 have ln:(ps.map (·.v)).length=r.length+1:=by rw[e0];simp
 have ok0:=P.ok p0 (by rw[e0];simp);have S0:=yz n h ok0.1 ok0.2;have gd:=P.gd;rw[yA];simp only[d_ask_layers];generalize hX:ps.map (·.v)=X at *;have l0:¬((r.length:Int)+1=0):=by lia
 simp[q,ln,it,l0];rw[<- hX];refine ZJ (Q:=λr=>Qc h r=R.ok (MV.f .non) h) (c:="NoMeet") (e:=λp:PR=>p.v) ps (λi σ hh=>hh=h/\∃ z1,σ=[some u,z1]) (λ_=>False) (by rintro i σ hh ⟨rfl,_⟩;exact gd) ⟨rfl,none,rfl⟩ ?_ ?_ ?_
 ·rintro i p σ hh hp ⟨rfl,z1,rfl⟩;have hm:=Uc hp;have okp:=P.ok p hm;obtain⟨l1,l2,l3⟩:=al p hm;have M:=qax (n+1) hh okp.1 ok0.1;rw[if_pos l1] at M;have S:=yz n hh okp.1 okp.2;have ne:=Zbd p.H p.W p0.H p0.W hh;rw[decide_eq_false (by simp[l2,l3])] at ne
  left
  rw[hX] at *;exact⟨[some u,some p.v],hh,by simp[zi,q,a0,M,S,S0,ne],rfl,_,rfl⟩
 ·rintro σ hh ⟨rfl,z1,rfl⟩;simp
 ·rintro _ z;exact z.elim
theorem zaQ(P:PL h u ps)(bad:ps=[]\/∃ p0 r,ps=p0::r/\∃ p∈ps,¬ YaY p p0):run prog (n+3) "ask_layers" [u] h=.exc "NoMeet" h:=by
 have it:=qbC h P;have q:=P.seq;have gd:=P.gd
 rcases bad with e0|⟨p0,r,e0,pb,hb,nb⟩
 ·subst e0;rw[yA];simp only[d_ask_layers];simp at q;simp[q]
 ·have a0:atM (ps.map (·.v)) 0=some p0.v:=by
   rw[e0];show atM _ ((0:Nat):Int)=_;rw[Yh];rfl
  have ln:(ps.map (·.v)).length=r.length+1:=by rw[e0];simp
  have ok0:=P.ok p0 (by rw[e0];simp);have S0:=yz n h ok0.1 ok0.2;rw[yA];simp only[d_ask_layers];generalize hX:ps.map (·.v)=X at *;have l0:¬((r.length:Int)+1=0):=by lia
  simp[q,ln,it,l0];rw[<- hX];refine ZJ (Q:=λr=>Qc h r=R.exc "NoMeet" h) (c:="NoMeet") (e:=λp:PR=>p.v) ps (λi σ hh=>hh=h/\(∀ p∈ps.take i,YaY p p0)/\∃ z1,σ=[some u,z1]) (λhh=>hh=h) (by rintro i σ hh ⟨rfl,_⟩;exact gd) ⟨rfl,by simp,none,rfl⟩ ?_ ?_ ?_
  ·rintro i p σ hh hp ⟨rfl,hlk,z1,rfl⟩;have hm:=Uc hp;have okp:=P.ok p hm;have M:=qax (n+1) hh okp.1 ok0.1;have S:=yz n hh okp.1 okp.2;have ne:=Zbd p.H p.W p0.H p0.W hh;rw[hX] at *;by_cases c1:p.m=p0.m
   ·rw[if_pos c1] at M;by_cases c2:p.H=p0.H/\p.W=p0.W
    ·rw[decide_eq_false (by simp[c2])] at ne
     left
     refine⟨[some u,some p.v],hh,by simp[zi,q,a0,M,S,S0,ne],rfl,λp' hp'=>?_,_,rfl⟩;rw[vq,hp] at hp'
     rcases Xf.mp hp' with z|z
     ·exact hlk p' z
     ·have:p'=p:=by simpa using z
      subst this;exact⟨c1,c2⟩
    ·rw[decide_eq_true c2] at ne
     right
     exact⟨hh,by simp[zi,q,a0,M,S,S0,ne],rfl⟩
   ·rw[if_neg c1] at M
    right
    exact⟨hh,by simp[zi,q,a0,M],rfl⟩
  ·rintro σ hh ⟨rfl,hlk,z1,rfl⟩;rw[Wp] at hlk;exact absurd (hlk pb hb) nb
  ·rintro hh rfl;simp
end
noncomputable def qk(L:Nat)(Rs:List (List (List Int)))(i j:Nat):Nat->Nat
 |0=>L
 |k+1=>if gP (Rs.getD k []) i j≠0 then k else qk L Rs i j k
noncomputable def Qb(Rs:List (List (List Int)))(i j:Nat):Nat:=qk Rs.length Rs i j Rs.length
theorem zan(L:Nat)(Rs:List (List (List Int)))(i j:Nat):∀ k,k<=L->qk L Rs i j k<=L/\(qk L Rs i j k<L->qk L Rs i j k<k)
 |0,_=>by simp[qk]
 |k+1,hk=>by
  have:=zan L Rs i j k (by lia);unfold qk;split
  ·lia
  ·exact⟨this.1,λq=>by have:=this.2 q;lia⟩
section
variable (n:Nat) (h:MH) {u:MV} {ps:List PR} {m:Int} {H W:Nat}
theorem ybb(P:PL h u ps)(hs:∀ p∈ps,p.H=H/\p.W=W)(i j:Nat)(hi:i<H)(hj:j<W):run prog (n+5) "number_seen" [u,.f (zg (i,j))] h=.ok (I (Qb (ps.map (·.R)) i j:Int)) h:=by
 have it:=Qbd h P;have q:=P.seq;have gd:=P.gd;rw[Zaf];simp only[d_number_seen];have ln:(ps.map (·.v)).length=ps.length:=by simp
 generalize ps.map (·.v)=X at *;generalize hcv:zg (i,j)=cv at *;simp[q,ln,it];refine ZJ (Q:=λr=>Qc h r=R.ok (I (Qb (ps.map (·.R)) i j:Int)) h) (c:="") (e:=λq:PR×Nat=>yf [.f (.int (q.2:Nat)),q.1.v]) ps.zipIdx (λk σ hh=>hh=h/\∃ z3 z4,σ=[some u,some (.f cv),some (I (qk ps.length (ps.map (·.R)) i j k:Int)),z3,z4]) (λ_=>False) (by rintro i σ hh ⟨rfl,_⟩;exact gd) ⟨rfl,none,none,rfl⟩ ?_ ?_ ?_
 ·rintro k pq σ hh hp ⟨rfl,z3,z4,rfl⟩
  left
  rw[Xw] at hp;cases hpk:ps[k]? with
  |none=>rw[hpk] at hp;cases hp
  |some p =>
   rw[hpk] at hp;cases hp;have hm:=Uc hpk;have okp:=P.ok p hm;obtain⟨e1,e2⟩:=hs p hm;have S:=Qap n hh okp.1 okp.2 i j (by rw[e1];exact hi) (by rw[e2];exact hj);rw[hcv] at S;have eR:gP ((ps.map (·.R)).getD k []) i j=gP p.R i j:=by simp[uh,hpk]
   have sk:qk ps.length (ps.map (·.R)) i j (k+1)=if gP p.R i j≠0 then k else qk ps.length (ps.map (·.R)) i j k:=by
    rw[<- eR];rfl
   generalize gP p.R i j=g at *;have en:∀ hh,Yv .ne (I g) (I 0) hh=some (decide (g≠0)):=λhh=>by
    simp[Yv,qG,yn,eqF,isD,eqD];by_cases c:g=0 <;> simp[c]
   refine⟨[some u,some (.f cv),some (I (qk ps.length (ps.map (·.R)) i j (k+1):Int)),some (I (k:Int)),some p.v],hh,?_,rfl,_,_,rfl⟩;by_cases c:g=0
   ·rw[sk,if_neg (by simp[c])];simp[zi,QaG,S,en,c]
   ·rw[sk,if_pos c];simp[zi,QaG,S,en,c]
 ·rintro σ hh ⟨rfl,z3,z4,rfl⟩;simp[Qb]
 ·rintro _ z;exact z.elim
end
end MP
end
section
namespace MP
open PySem
theorem Zc{h:MH}{a:Nat}{xs:List MV}(t:MH)(e:Zb h a=some xs):Zb (h++t) a=some xs:=by
 unfold Zb at e ⊢;cases q:h[a]? with
 |none=>rw[q] at e;cases e
 |some c =>
  have l:=(Xa.mp q).1;rw[va l,q];rw[q] at e;exact e
theorem YaS{h:MH}{v x:MV}{n:String}(t:MH)(e:QY prog.fok n v h=some x):QY prog.fok n v (h++t)=some x:=by
 cases v with
 |ref a =>
  simp only[QY] at e ⊢;cases q:h[a]? with
  |none=>rw[q] at e;cases e
  |some c =>
   have l:=(Xa.mp q).1;rw[va l,q];rw[q] at e;exact e
 |f y=>cases y <;> exact e
 |tup _=>exact e
 |exc _=>exact e
theorem YbR{h:MH}{u:MV}{xs:List MV}(t:MH)(e:zc h u=some xs):zc (h++t) u=some xs:=by
 cases u with
 |ref a=>exact Zc t e
 |f x=>cases x <;> exact e
 |tup _=>exact e
 |exc _=>exact e
theorem PV.more{h:MH}{v:MV}{m:Int}{R:List (List Int)}(p:PV h v m R)(t:MH):PV (h++t) v m R:=⟨YaS t p.most,YaS t p.rows⟩
theorem PL.more{h:MH}{u:MV}{ps:List PR}(P:PL h u ps)(t:MH):PL (h++t) u ps:=by
 refine⟨YbR t P.seq,?_,λp hp=>⟨(P.ok p hp).1.more t,(P.ok p hp).2⟩,P.len⟩;have s:=P.seq;cases u with
 |ref a =>
  have e:Zb h a=some (ps.map (·.v)):=s;intro q hq;simp only[yc,Zc t e] at hq;obtain rfl:=Ub.mp hq;exact Zc t e
 |_=>intro q hq;cases hq
theorem YaX{H W:Nat}:∀{R R':List (List Int)},R.length=H->R'.length=H->(∀ r∈R,r.length=W)->(∀ r∈R',r.length=W)->(∀ i j,i<H->j<W->gP R i j=gP R' i j)->R=R':=by
 intro R R' l l' w w' e;apply ur (by rw[l,l']);intro i h1 h2;apply ur (by rw[w _ (Wh h1),w' _ (Wh h2)]);intro j h3 h4;have:=e i j (by rw[<- l];exact h1) (by rw[<- w _ (Wh h1)];exact h3);simpa[gP,uh,Wa h1,Wa h2,Wa h3,Wa h4] using this
noncomputable def ovV(Rs:List (List (List Int)))(i j:Nat):Int:=if Qb Rs i j<Rs.length then gP (Rs.getD (Qb Rs i j) []) i j else 0
noncomputable def Zg(Rs:List (List (List Int)))(H W:Nat):List (List Int):=(wc H).map λi=>(wc W).map λj=>ovV Rs i j
theorem Qai(Rs:List (List (List Int)))(H W i j:Nat)(hi:i<H)(hj:j<W):gP (Zg Rs H W) i j=ovV Rs i j:=by
 simp[gP,Zg,uh,Ui hi,Ui hj]
theorem Q6(Rs:List (List (List Int)))(H W:Nat)(h1:1<=H)(w1:1<=W):Grid (Zg Rs H W) H W :=
 ⟨by simp[Zg],λr hr=>by obtain⟨i,_,rfl⟩:=vf.mp hr;simp,h1,w1⟩
noncomputable def Zo(Rs:List (List (List Int)))(cs:List (Nat×Nat)):List ((Int×Int)×Int):=(cs.filter λc=>decide (Qb Rs c.1 c.2<Rs.length)).map λc=>(cZ c,gP (Rs.getD (Qb Rs c.1 c.2) []) c.1 c.2)
theorem ybF(Rs:List (List (List Int)))(H W:Nat)(w1:1<=W):zr (zl H W) (Zo Rs (Za H W))=Zg Rs H W:=by
 have z1:(zl H W).length=H:=by simp[zl]
 have z2:∀ r∈zl H W,r.length=W:=λr hr=>by rw[xm hr];simp
 have inn:∀ q∈Zo Rs (Za H W),0<=q.1.1/\q.1.1<H/\0<=q.1.2/\q.1.2<W:=λq hq=>by
  obtain⟨c,hc,rfl⟩:=vf.mp hq;have:=ZP (wq.mp hc).1;simp only[cZ];lia
 have key:∀(ps:List ((Int×Int)×Int)) (R:List (List Int)),R.length=H->(∀ r∈R,r.length=W)->(zr R ps).length=H/\∀ r∈zr R ps,r.length=W:=by
  intro ps
  induction ps with
  |nil=>intro R a b;exact⟨a,b⟩
  |cons p ps ih =>
   intro R a b;refine ih (Zf R p.1.1.toNat p.1.2.toNat p.2) (by rw[Yp];exact a) λr hr=>?_
   rcases Yz hr with hr|⟨r0,hr0,rfl⟩
   ·exact b r hr
   ·simp;exact b r0 hr0
 have nd:((Zo Rs (Za H W)).map (·.1)).Nodup:=by
  unfold Zo;rw[vh];refine zK (λa _ b _ e=>?_) ((qaS H W w1).filter _);have e:cZ a=cZ b:=e;simp only[cZ,Prod.mk.injEq] at e;exact uD (by lia) (by lia)
 obtain⟨k1,k2⟩:=key (Zo Rs (Za H W)) (zl H W) z1 z2;refine YaX k1 (by simp[Zg]) k2 (λr hr=>by obtain⟨i,_,rfl⟩:=vf.mp hr;simp) λi j hi hj=>?_;rw[Qai Rs H W i j hi hj];have hm:(i,j)∈Za H W:=by
  unfold Za;exact Vo.mpr ⟨i,Xj.mpr hi,vf.mpr ⟨j,Xj.mpr hj,rfl⟩⟩
 have eg:∀ R,gP R i j=zY R ((i:Int),(j:Int)):=λR=>by simp[gP,zY]
 rw[eg];unfold ovV;by_cases c:Qb Rs i j<Rs.length
 ·rw[if_pos c];have hp:(cZ (i,j),gP (Rs.getD (Qb Rs i j) []) i j)∈Zo Rs (Za H W):=vf.mpr ⟨(i,j),wq.mpr ⟨hm,by simpa using c⟩,rfl⟩;exact qaA H W (Zo Rs (Za H W)) (zl H W) z1 z2 inn nd _ hp
 ·rw[if_neg c];rw[yL (Zo Rs (Za H W)) (zl H W) _ (λq hq=>by have:=inn q hq;lia) (by simp) (λhm2=>by
   obtain⟨q,hq,e⟩:=vf.mp hm2;obtain⟨c',hc',rfl⟩:=vf.mp hq;have e:cZ c'=((i:Int),(j:Int)):=e;simp only[cZ,Prod.mk.injEq] at e;have e1:c'.1=i:=by lia
   have e2:c'.2=j:=by lia
   have:=(wq.mp hc').2;rw[e1,e2] at this;exact c (by simpa using this))]
  simp[zY,zl,hi,hj]
noncomputable def Zq(Rs:List (List (List Int)))(c:Nat×Nat):FV:=.tup [zg c,.int (Qb Rs c.1 c.2:Nat)]
section
variable (n:Nat) (h:MH) {u:MV} {ps:List PR} {m:Int} {H W:Nat}
theorem Zae(P:PL h u ps)(p0:PR)(r:List PR)(e0:ps=p0::r)(hs:∀ p∈ps,p.H=H/\p.W=W)(hH:H<=100)(hW:W<=100):run prog (n+6) "seen_by_cells" [u] h=.ok (.f (.lst ((Za H W).map (Zq (ps.map (·.R)))))) h:=by
 have hb:H*W<=100*100:=xo hH hW;have q:=P.seq;have a0:atM (ps.map (·.v)) 0=some p0.v:=by
  rw[e0];show atM _ ((0:Nat):Int)=_;rw[Yh];rfl
 have ok0:=P.ok p0 (by rw[e0];simp);obtain⟨e1,e2⟩:=hs p0 (by rw[e0];simp);have S0:=yz (n+3) h ok0.1 ok0.2;rw[e1,e2] at S0;have C:=Zbq (n+4) h H W (by lia) (by lia) (by lia);have N:=λc (hc:c∈Za H W)=>ybb n h P hs c.1 c.2 (ZP hc).1 (ZP hc).2;have b0:atM [I (H:Int),I (W:Int)] 0=some (I (H:Int)):=rfl;have b1:atM [I (H:Int),I (W:Int)] 1=some (I (W:Int)):=rfl;have qs:∀ hh,zc hh (.f (.tup [.int H,.int W]))=some [I (H:Int),I (W:Int)]:=λhh=>rfl;have sz:(Za H W).length<=sizeL:=by rw[Zac,Yg];lia
 have it:∀ hh,itV "seq" [.f (.lst ((Za H W).map zg))] hh=some ((Za H W).map λc=>MV.f (zg c),[]):=λhh=>by
  have q:zc hh (.f (.lst ((Za H W).map zg)))=some ((Za H W).map λc=>MV.f (zg c)):=by simp[Wf]
  have g:yc hh (.f (.lst ((Za H W).map zg)))=[]:=rfl;simp only[itV,q,Wj,g]
 rw[Y2];simp only[d_seen_by_cells];generalize hX:ps.map (·.v)=X at *;generalize hRs:ps.map (·.R)=Rs at *;generalize hsv:FV.tup [.int H,.int W]=sv at *;generalize hcl:FV.lst ((Za H W).map zg)=cl at *;simp[q,a0,S0,qs,b0,b1,C,it,MP.stM];rw[zT (e:=λc=>MV.f (zg c)) (g:=λc=>MV.f (Zq Rs c)) (caps:=[some u]) (Za H W) [] none (by simpa using sz) (λc hc z=>⟨some (.f (zg c)),by
  have Nc:=N c hc;unfold Zq;rw[show((c.1,c.2):Nat×Nat)=c from rfl] at Nc;generalize zg c=cn at *;simp[Zt,Nc,yf,qi]⟩)]
 have e3:(Za H W).map (λc=>MV.f (Zq Rs c))=((Za H W).map (Zq Rs)).map MV.f:=by simp[Wf]
 simp only[Vk,R.bind_ok,e3,Yo];simp
end
end MP
end
section
namespace MP
open PySem
structure Alike (h:MH) (u:MV) (ps:List PR) (m:Int) (H W:Nat):Prop where
 P:PL h u ps
 ne:ps≠[]
 al:∀ p∈ps,p.m=m/\p.H=H/\p.W=W
 sh:∀ p∈ps,∀ r∈p.R,∀ x∈r,0<=x/\x<=m
 H1:1<=H
 W1:1<=W
 H9:H<=20
 W9:W<=20
 m1:1<=m
theorem Alike.more{h:MH}{u:MV}{ps:List PR}{m:Int}{H W:Nat}(A:Alike h u ps m H W)(t:MH):Alike (h++t) u ps m H W:=⟨A.P.more t,A.ne,A.al,A.sh,A.H1,A.W1,A.H9,A.W9,A.m1⟩
theorem Alike.sz{h:MH}{u:MV}{ps:List PR}{m:Int}{H W:Nat}(A:Alike h u ps m H W):∀ p∈ps,p.H=H/\p.W=W:=λp hp=>(A.al p hp).2
theorem YbB{R:List (List Int)}{m:Int}(h0:0<=m)(sh:∀ r∈R,∀ x∈r,0<=x/\x<=m)(i j:Nat):0<=gP R i j/\gP R i j<=m:=by
 unfold gP;by_cases c:i<R.length
 ·by_cases d:j<R[i].length
  ·simp only[uh,Wa c,Wa d,xr];exact sh _ (Wh c) _ (Wh d)
  ·simp[uh,Wa c,ul (Wv d),h0]
 ·simp[uh,ul (Wv c),h0]
theorem qbp(Rs:List (List (List Int)))(cs:List (Nat×Nat))(i:Nat)(c:Nat×Nat)(e:cs[i]?=some c):Zo Rs (cs.take (i+1))=Zo Rs (cs.take i)++if Qb Rs c.1 c.2<Rs.length then[(cZ c,gP (Rs.getD (Qb Rs c.1 c.2) []) c.1 c.2)] else[]:=by
 unfold Zo;rw[vq,e,vx,List.filter_append,Xi];by_cases q:Qb Rs c.1 c.2<Rs.length
 ·rw[if_pos q];simp[q]
 ·rw[if_neg q];simp[q]
theorem YbP(Rs:List (List (List Int)))(cs:List (Nat×Nat)):(Zo Rs cs).length<=cs.length:=by
 unfold Zo;rw[Wd];exact List.length_filter_le _ _
section
variable (n:Nat) (h:MH) {u:MV} {ps:List PR} {m:Int} {H W:Nat}
theorem ybo(P:PL h u ps)(bad:ps=[]\/∃ p0 r,ps=p0::r/\∃ p∈ps,¬ YaY p p0):run prog (n+7) "laid_over" [u] h=.exc "NoMeet" h/\run prog (n+7) "seen_of" [u] h=.exc "NoMeet" h:=by
 have X:=zaQ (n+3) h P bad;constructor
 ·rw[yT];simp only[d_laid_over];simp[X]
 ·rw[Qac];simp only[d_seen_of];simp[X]
theorem zQ(A:Alike h u ps m H W):run prog (n+7) "laid_over" [u] h=.ok (.f (Qz m (Zg (ps.map (·.R)) H W))) h:=by
 obtain⟨p0,r,e0⟩:∃ p0 r,ps=p0::r:=by
  cases e:ps with
  |nil=>exact absurd e A.ne
  |cons p0 r=>exact⟨p0,r,rfl⟩
 have m0:p0∈ps:=by rw[e0];simp
 obtain⟨a1,a2,a3⟩:=A.al p0 m0;have hH:=A.H9;have hW:=A.W9;have hb:H*W<=20*20:=xo hH hW;have LY:=yap (n+3) h A.P p0 r e0 (λp hp=>by obtain⟨b1,b2,b3⟩:=A.al p hp;exact⟨by rw[b1,a1],by rw[b2,a2],by rw[b3,a3]⟩);have SB:=λt=>Zae n (h++t) (A.P.more t) p0 r e0 A.sz (by lia) (by lia);have q:=λt=>(A.P.more t).seq;have ok0:=λt=>(A.P.more t).ok p0 m0;have at0:atM (ps.map (·.v)) 0=some p0.v:=by
  rw[e0];show atM _ ((0:Nat):Int)=_;rw[Yh];rfl
 have S0:=λt=>yz (n+4) (h++t) (ok0 t).1 (ok0 t).2;rw[a2,a3] at S0;have M0:=λt=>(ok0 t).1.most;rw[a1] at M0;have ln:(ps.map (·.v)).length=ps.length:=by simp
 have SH:=λt (k:Nat) (p:PR) (hk:ps[k]?=some p) (i j:Nat) (hi:i<H) (hj:j<W)=>by
  have hm:=Uc hk;have ok:=(A.P.more t).ok p hm;obtain⟨e1,e2⟩:=A.sz p hm;exact Qap (n+2) (h++t) ok.1 ok.2 i j (by rw[e1];exact hi) (by rw[e2];exact hj)
 have hat:∀(k:Nat)(p:PR),ps[k]?=some p->atM (ps.map (·.v)) (k:Int)=some p.v:=λk p hk=>by rw[Yh];simp[hk]
 have hRl:(ps.map (·.R)).length=ps.length:=by simp
 have pin:∀ q∈Zo (ps.map (·.R)) (Za H W),(0<=q.1.1/\q.1.1<H/\0<=q.1.2/\q.1.2<W)/\0<=q.2/\q.2<=m:=λq hq=>by
  obtain⟨c,hc,rfl⟩:=vf.mp hq;obtain⟨hc1,hc2⟩:=wq.mp hc;have hin:=ZP hc1;refine⟨by simp only[cZ];lia,?_⟩;have hk:Qb (ps.map (·.R)) c.1 c.2<ps.length:=by rw[<- hRl];simpa using hc2
  have:(ps.map (·.R)).getD (Qb (ps.map (·.R)) c.1 c.2) []=(ps[Qb (ps.map (·.R)) c.1 c.2]).R:=by simp[uh,Wa hk]
  show 0<=gP ((ps.map (·.R)).getD (Qb (ps.map (·.R)) c.1 c.2) []) c.1 c.2/\gP ((ps.map (·.R)).getD (Qb (ps.map (·.R)) c.1 c.2) []) c.1 c.2<=m;rw[this];exact YbB (by have:=A.m1;lia) (A.sh _ (Wh hk)) _ _
 have LO:=λt=>QaL (n+2) (h++t) m H W A.m1 A.H1 (by lia) A.W1 (by lia) false (Zo (ps.map (·.R)) (Za H W)) pin;rw[ybF _ H W A.W1] at LO;have it:∀ hh,itV "seq" [.f (.lst ((Za H W).map (Zq (ps.map (·.R)))))] hh=some ((Za H W).map λc=>MV.f (Zq (ps.map (·.R)) c),[]):=λhh=>by
  have q:zc hh (.f (.lst ((Za H W).map (Zq (ps.map (·.R))))))=some ((Za H W).map λc=>MV.f (Zq (ps.map (·.R)) c)):=by simp[Wf]
  have g:yc hh (.f (.lst ((Za H W).map (Zq (ps.map (·.R))))))=[]:=rfl;simp only[itV,q,Wj,g]
 suffices Ret (run prog (n+7) "laid_over" [u] h) λv h'=>v=.f (Qz m (Zg (ps.map (·.R)) H W))/\h'=h by
  obtain⟨v,h',e,rfl,rfl⟩:=this;exact e
 refine Ret.of λQ hQ=>?_;rw[yT];simp only[d_laid_over];have SB0:=SB [.lst []];generalize hsl:FV.lst ((Za H W).map (Zq (ps.map (·.R))))=sl at *;simp[LY,SB0,it];refine QaP (Q:=λr=>Ret (Qc h r) Q) (e:=λc=>MV.f (Zq (ps.map (·.R)) c)) (Za H W) (λi σ hh=>hh=h++[.lst ((Zo (ps.map (·.R)) ((Za H W).take i)).map λp=>MV.f (Ql p))]/\∃ z2 z3,σ=[some u,some (.ref h.length),z2,z3]) ?_ ?_ ?_
 ·exact⟨by simp[Zo],none,none,rfl⟩
 ·rintro i c σ hh hc ⟨rfl,z2,z3,rfl⟩ Q hQ;have hin:=ZP (Uc hc);have sn:=qbp (ps.map (·.R)) (Za H W) i c hc;have l0:((Zo (ps.map (·.R)) ((Za H W).take i)).map λp=>MV.f (Ql p)).length<sizeL:=by
   have:=YbP (ps.map (·.R)) ((Za H W).take i);rw[Wd,Yg];rw[Vm,Zac] at this
   lia
  have sle:=(zan (ps.map (·.R)).length (ps.map (·.R)) c.1 c.2 (ps.map (·.R)).length (by lia)).1;have sc:Zq (ps.map (·.R)) c=.tup [zg c,.int (Qb (ps.map (·.R)) c.1 c.2:Nat)]:=rfl;have qs:=q [.lst ((Zo (ps.map (·.R)) ((Za H W).take i)).map λp=>MV.f (Ql p))];have cl:=λM=>qb h [] M;have st:=λM ys=>Qg h [] M ys;by_cases k:Qb (ps.map (·.R)) c.1 c.2<(ps.map (·.R)).length
  ·rw[if_pos k] at sn;have k':Qb (ps.map (·.R)) c.1 c.2<ps.length:=by rw[<- hRl];exact k
   have S:=SH [.lst ((Zo (ps.map (·.R)) ((Za H W).take i)).map λp=>MV.f (Ql p))] _ _ (Wa k') c.1 c.2 hin.1 hin.2;have ha:=hat _ _ (Wa k');have eR:(ps.map (·.R)).getD (Qb (ps.map (·.R)) c.1 c.2) []=(ps[Qb (ps.map (·.R)) c.1 c.2]).R:=by simp[uh,Wa k']
   rw[eR] at sn;have ep:Ql (cZ c,gP (ps[Qb (ps.map (·.R)) c.1 c.2]).R c.1 c.2)=.tup [zg c,.int (gP (ps[Qb (ps.map (·.R)) c.1 c.2]).R c.1 c.2)]:=rfl;have e1:(Zo (ps.map (·.R)) ((Za H W).take (i+1))).map (λp=>MV.f (Ql p))=(Zo (ps.map (·.R)) ((Za H W).take i)).map (λp=>MV.f (Ql p))++[MV.f (.tup [zg c,.int (gP (ps[Qb (ps.map (·.R)) c.1 c.2]).R c.1 c.2)])]:=by
    rw[sn,Xi];rfl
   have hQ:=λz2 z3=>hQ [some u,some (.ref h.length),z2,z3] _ ⟨rfl,z2,z3,rfl⟩;rw[e1] at hQ;rw[show((c.1,c.2):Nat×Nat)=c from rfl] at S;have kz:((Qb (ps.map (·.R)) c.1 c.2:Nat):Int)<(ps.length:Int):=by lia
   rw[sc];generalize (Zo (ps.map (·.R)) ((Za H W).take i)).map (λp=>MV.f (Ql p))=M at *;generalize gP (ps[Qb (ps.map (·.R)) c.1 c.2]).R c.1 c.2=g at *;generalize (ps[Qb (ps.map (·.R)) c.1 c.2]).v=pv at *;generalize ((Qb (ps.map (·.R)) c.1 c.2:Nat):Int)=sI at *;generalize zg c=cn at *;generalize ps.map (·.v)=X at *;simp[zi,qs,ln,kz,ha,S,cl,l0,st,yf,qi];exact hQ _ _
  ·rw[if_neg k] at sn;have kz:¬((Qb (ps.map (·.R)) c.1 c.2:Nat):Int)<(ps.length:Int):=by rw[<- hRl];lia
   have e1:(Zo (ps.map (·.R)) ((Za H W).take (i+1))).map (λp=>MV.f (Ql p))=(Zo (ps.map (·.R)) ((Za H W).take i)).map (λp=>MV.f (Ql p)):=by
    rw[sn,Uj]
   have hQ:=λz2 z3=>hQ [some u,some (.ref h.length),z2,z3] _ ⟨rfl,z2,z3,rfl⟩;rw[e1] at hQ;rw[sc];generalize (Zo (ps.map (·.R)) ((Za H W).take i)).map (λp=>MV.f (Ql p))=M at *;generalize ((Qb (ps.map (·.R)) c.1 c.2:Nat):Int)=sI at *;generalize zg c=cn at *;generalize ps.map (·.v)=X at *;simp[zi,qs,ln,kz];exact hQ _ _
 ·rintro σ hh ⟨rfl,z2,z3,rfl⟩;rw[Wp];obtain⟨t',F⟩:=Yai h [] ((Zo (ps.map (·.R)) (Za H W)).map Ql);have eM:(Zo (ps.map (·.R)) (Za H W)).map (λp=>MV.f (Ql p))=((Zo (ps.map (·.R)) (Za H W)).map Ql).map MV.f:=by simp[Wf]
  rw[eM];have LO:=LO t';have S0:=S0 [.lst (((Zo (ps.map (·.R)) (Za H W)).map Ql).map MV.f)];have q1:=q [.lst (((Zo (ps.map (·.R)) (Za H W)).map Ql).map MV.f)];have M0:=M0 [.lst (((Zo (ps.map (·.R)) (Za H W)).map Ql).map MV.f)];have sqe:sq false ((Zo (ps.map (·.R)) (Za H W)).map Ql)=.lst ((Zo (ps.map (·.R)) (Za H W)).map Ql):=rfl;rw[sqe] at LO;have lv:=qar h t' (Qz m (Zg (ps.map (·.R)) H W));generalize FV.lst ((Zo (ps.map (·.R)) (Za H W)).map Ql)=pl at *;generalize ((Zo (ps.map (·.R)) (Za H W)).map Ql).map MV.f=PM at *;generalize Qz m (Zg (ps.map (·.R)) H W)=pic at *;generalize ps.map (·.v)=X at *;generalize hsv:FV.tup [.int H,.int W]=sv at *;simp[q1,at0,M0,S0,F,LO,lv];exact hQ _ _ ⟨rfl,rfl⟩
end
end MP
end
section
namespace MP
open PySem
noncomputable def Yc(Rs:List (List (List Int)))(cs:List (Nat×Nat)):List Int:=(wc (Rs.length+1)).map λk=>((cs.countP λc=>decide (Qb Rs c.1 c.2=k):Nat):Int)
theorem yq(Rs:List (List (List Int)))(cs:List (Nat×Nat)):(Yc Rs cs).length=Rs.length+1:=by simp[Yc]
theorem ZaA(Rs:List (List (List Int)))(cs:List (Nat×Nat))(i:Nat)(c:Nat×Nat)(e:cs[i]?=some c)(x:Int)(hx:(Yc Rs (cs.take i))[Qb Rs c.1 c.2]?=some x) :
  Yc Rs (cs.take (i+1))=(Yc Rs (cs.take i)).set (Qb Rs c.1 c.2) (x+1):=by
 apply vk;intro k;rw[WD];have hl:=yq Rs (cs.take i);by_cases hk:k<Rs.length+1
 ·have g:∀ l:List (Nat×Nat),(Yc Rs l)[k]?=some ((l.countP λc=>decide (Qb Rs c.1 c.2=k):Nat):Int):=λl=>by
   unfold Yc;rw[xc,Ui hk];rfl
  rw[g,vq,e,vx,List.countP_append];by_cases q:Qb Rs c.1 c.2=k
  ·rw[if_pos q,if_pos (by lia)];rw[q,g] at hx;cases hx;simp[q]
  ·rw[if_neg q,g];simp[q]
 ·rw[if_neg (λz=>by
   have:=(Xa.mp hx).1
   lia),ul (by rw[yq];lia),ul (by rw[hl];lia)]
theorem qa3(n k:Nat)(h:k<n):ixM n (k:Int)=some k:=by
 unfold ixM;rw[if_pos (by lia),if_pos (by lia)];simp
noncomputable abbrev iM(l:List Int):List MV:=l.map λi=>MV.f (.int i)
theorem qbc(Rs:List (List (List Int)))(i j:Nat):Qb Rs i j<=Rs.length:=(zan Rs.length Rs i j Rs.length (by lia)).1
theorem Zaz(L:Nat)(hL:L<=1000)(hh:MH):yh false .mul (.f (.lst [.int 0])) (I (L:Int)) hh=.ok (.ref hh.length) (hh++[.lst (iM (Wb L 0))]):=by
 have c:-(2^63)<=(L:Int)/\(L:Int)<2^63/\1*(L:Int).toNat<=sizeL:=⟨by lia,by lia,by rw[Yg];lia⟩;have e:(Wb L [MV.f (.int 0)]).flatten=iM (Wb L 0):=by
  rw[xp];simp
 unfold yh;simp only[Yd,listOf,zj,Xb,Uk,Xd,Vl,vn];rw[if_pos c,wo,e];rfl
section
variable (n:Nat) (h:MH) {u:MV} {ps:List PR} {m:Int} {H W:Nat}
theorem qD(A:Alike h u ps m H W):run prog (n+7) "seen_of" [u] h=.ok (.ref h.length) (h++[.lst (iM (Yc (ps.map (·.R)) (Za H W)))]):=by
 obtain⟨p0,r,e0⟩:∃ p0 r,ps=p0::r:=by
  cases e:ps with
  |nil=>exact absurd e A.ne
  |cons p0 r=>exact⟨p0,r,rfl⟩
 have m0:p0∈ps:=by rw[e0];simp
 obtain⟨a1,a2,a3⟩:=A.al p0 m0;have hH:=A.H9;have hW:=A.W9;have hln:=A.P.len;have LY:=yap (n+3) h A.P p0 r e0 (λp hp=>by obtain⟨b1,b2,b3⟩:=A.al p hp;exact⟨by rw[b1,a1],by rw[b2,a2],by rw[b3,a3]⟩);have SB:=Zae n (h++[.lst (iM (Wb (ps.length+1) 0))]) (A.P.more _) p0 r e0 A.sz (by lia) (by lia);have q:=A.P.seq;have ln:(ps.map (·.v)).length=ps.length:=by simp
 have hRl:(ps.map (·.R)).length=ps.length:=by simp
 have it:∀ hh,itV "seq" [.f (.lst ((Za H W).map (Zq (ps.map (·.R)))))] hh=some ((Za H W).map λc=>MV.f (Zq (ps.map (·.R)) c),[]):=λhh=>by
  have q:zc hh (.f (.lst ((Za H W).map (Zq (ps.map (·.R))))))=some ((Za H W).map λc=>MV.f (Zq (ps.map (·.R)) c)):=by simp[Wf]
  have g:yc hh (.f (.lst ((Za H W).map (Zq (ps.map (·.R))))))=[]:=rfl;simp only[itV,q,Wj,g]
 have mz:=Zaz (ps.length+1) (by lia) h;have p1:∀ hh,yh true .add (I (ps.length:Int)) (I 1) hh=.ok (I ((ps.length+1:Nat):Int)) hh:=λhh=>by rw[zw];rfl
 have z0:Yc (ps.map (·.R)) []=Wb (ps.length+1) 0:=by
  unfold Yc;rw[hRl];apply ur (by simp);intro i h1 h2;simp
 suffices Ret (run prog (n+7) "seen_of" [u] h) λv h'=>v=.ref h.length/\h'=h++[.lst (iM (Yc (ps.map (·.R)) (Za H W)))] by
  obtain⟨v,h',e,rfl,rfl⟩:=this;exact e
 refine Ret.of λQ hQ=>?_;rw[Qac];simp only[d_seen_of];generalize hsl:FV.lst ((Za H W).map (Zq (ps.map (·.R))))=sl at *;generalize hz:iM (Wb (ps.length+1) 0)=Z at *;generalize ((ps.length+1:Nat):Int)=L1 at *;generalize ps.map (·.v)=X at *;simp[LY,qi,q,ln,p1,mz,SB,it];refine QaP (Q:=λr=>Ret (Qc h r) Q) (e:=λc=>MV.f (Zq (ps.map (·.R)) c)) (Za H W) (λi σ hh=>hh=h++[.lst (iM (Yc (ps.map (·.R)) ((Za H W).take i)))]/\∃ z2 z3,σ=[some u,some (.ref h.length),z2,z3]) ?_ ?_ ?_
 ·exact⟨by rw[List.take_zero,z0,hz],none,none,rfl⟩
 ·rintro i c σ hh hc ⟨rfl,z2,z3,rfl⟩ Q hQ;have hs:=qbc (ps.map (·.R)) c.1 c.2;have sc:Zq (ps.map (·.R)) c=.tup [zg c,.int (Qb (ps.map (·.R)) c.1 c.2:Nat)]:=rfl;have hx:(Yc (ps.map (·.R)) ((Za H W).take i))[Qb (ps.map (·.R)) c.1 c.2]?=some ((Yc (ps.map (·.R)) ((Za H W).take i))[Qb (ps.map (·.R)) c.1 c.2]'(by rw[yq];lia)):=Wa _;obtain⟨x,hxx⟩:∃ x,(Yc (ps.map (·.R)) ((Za H W).take i))[Qb (ps.map (·.R)) c.1 c.2]?=some x:=⟨_,hx⟩;clear hx;have sn:=ZaA (ps.map (·.R)) (Za H W) i c hc x hxx;have hlen:=yq (ps.map (·.R)) ((Za H W).take i);have lnM:(iM (Yc (ps.map (·.R)) ((Za H W).take i))).length=(ps.map (·.R)).length+1:=by simp[hlen]
  have ix:=qa3 ((ps.map (·.R)).length+1) (Qb (ps.map (·.R)) c.1 c.2) (by lia);have ga:atM (iM (Yc (ps.map (·.R)) ((Za H W).take i))) ((Qb (ps.map (·.R)) c.1 c.2:Nat):Int)=some (I x):=by
   rw[Yh,xc,hxx];rfl
  have se:(iM (Yc (ps.map (·.R)) ((Za H W).take i))).set (Qb (ps.map (·.R)) c.1 c.2) (I (x+1))=iM (Yc (ps.map (·.R)) ((Za H W).take (i+1))):=by
   rw[sn];exact(UC ..).symm
  have cl:=λM=>qb h [] M;have st:=λM ys=>Qg h [] M ys;have ax:∀ hh,yh true .add (I x) (I 1) hh=.ok (I (x+1)) hh:=λhh=>zw ..;rw[sc];generalize hM2:iM (Yc (ps.map (·.R)) ((Za H W).take (i+1)))=M2 at *;generalize iM (Yc (ps.map (·.R)) ((Za H W).take i))=M at *;generalize zg c=cn at *;generalize Qb (ps.map (·.R)) c.1 c.2=sk at *;generalize (ps.map (·.R)).length=LL at *;simp[zi,cl,ga,ax,lnM,ix,se,st];exact hQ _ _ ⟨rfl,_,_,rfl⟩
 ·rintro σ hh ⟨rfl,z2,z3,rfl⟩;rw[Wp];have lv:=zbq h [] ((Yc (ps.map (·.R)) (Za H W)).map FV.int);have eM:((Yc (ps.map (·.R)) (Za H W)).map FV.int).map MV.f=iM (Yc (ps.map (·.R)) (Za H W)):=by simp[Wf]
  rw[eM] at lv;generalize iM (Yc (ps.map (·.R)) (Za H W))=M at *;simp[lv];exact hQ _ _ ⟨rfl,rfl⟩
end
end MP
end
section
namespace MP
open PySem
theorem qaK{h:MH}{a:Nat}(t:MH)(l:a<h.length)(ys:List MV):ye (h++t) a ys=ye h a ys++t:=by
 unfold ye;rw[vA _ _ l]
theorem YbJ(Rs:List (List (List Int)))(l:List (Nat×Nat))(c:Nat×Nat)(x:Int)(hx:(Yc Rs l)[Qb Rs c.1 c.2]?=some x):Yc Rs (l++[c])=(Yc Rs l).set (Qb Rs c.1 c.2) (x+1):=by
 have:=ZaA Rs (l++[c]) l.length c (by simp) x (by simpa using hx);simpa[Xn] using this
noncomputable def Qn(h:MH)(R:List (List Int))(C:List Int):MH:=own h R++[.lst (iM C)]
theorem QaB(h:MH)(R:List (List Int))(C:List Int):∃ t,Qn h R C=h++t:=⟨_,by unfold Qn own;rw[Ve]⟩
theorem Q3(h:MH)(R:List (List Int)):(own h R).length=h.length+R.length+1:=by simp[own];lia
theorem Ybg{h:MH}{v:MV}{m:Int}{R:List (List Int)}{H W:Nat}(p:PV h v m R)(g:Grid R H W)(i j:Nat)(hi:i<H)(hj:j<W):∃ RM rv rm,QY prog.fok "rows" v h=some (.f rv)/\zc h (.f rv)=some RM/\(∃ r1,atM RM (i:Int)=some (.f r1)/\zc h (.f r1)=some rm)/\atM rm (j:Int)=some (I (gP R i j)):=by
 obtain⟨r,er,lr,ar⟩:=ya6 h p g i hi;refine⟨_,_,_,p.rows,rfl,⟨_,ar,rfl⟩,?_⟩;have hj':j<r.length:=by rw[lr];exact hj
 rw[Yh];simp[gP,er,Wa hj']
section
variable (n:Nat) (h:MH) {u:MV} {ps:List PR} {m:Int} {H W:Nat}
noncomputable def QN:List MS:=[.ite (.cmp .gt (.sub (.sub (.fld (.var 7) "rows") (.var 3)) (.var 4)) (.cI 0)) [.set (.nm 5) (.var 6)] []]
theorem Qbs(A:Alike h u ps m H W)(i j:Nat)(hi:i<H)(hj:j<W)(a1 a2 z6 z7:Option MV){k:MSt->MH->RS}{Q:RS->Prop}
  (fin:∀ z6 z7,Q (k [some u,a1,a2,some (I (i:Int)),some (I (j:Int)),some (I (Qb (ps.map (·.R)) i j:Int)),z6,z7] h)) :
  Q ((zu (yc h u) (zi (.tp [.nm 6,.nm 7]) (Qa prog (run prog n) QN)) (ps.zipIdx.map (λq=>yf [.f (.int (q.2:Nat)),q.1.v])) [some u,a1,a2,some (I (i:Int)),some (I (j:Int)),some (I (ps.length:Int)),z6,z7] h).bind k):=by
 have gd:=A.P.gd;refine ZJ (c:="") (e:=λq:PR×Nat=>yf [.f (.int (q.2:Nat)),q.1.v]) ps.zipIdx (λk σ hh=>hh=h/\∃ z6 z7,σ=[some u,a1,a2,some (I (i:Int)),some (I (j:Int)),some (I (qk ps.length (ps.map (·.R)) i j k:Int)),z6,z7]) (λ_=>False) (by rintro i σ hh ⟨rfl,_⟩;exact gd) ⟨rfl,z6,z7,rfl⟩ ?_ ?_ ?_
 ·rintro k pq σ hh hp ⟨rfl,z6,z7,rfl⟩
  left
  rw[Xw] at hp;cases hpk:ps[k]? with
  |none=>rw[hpk] at hp;cases hp
  |some p =>
   rw[hpk] at hp;cases hp;have hm:=Uc hpk;have okp:=A.P.ok p hm;obtain⟨e1,e2⟩:=A.sz p hm;obtain⟨RM,rv,rm,f1,f2,⟨r1,f3,f4⟩,f5⟩:=Ybg okp.1 okp.2 i j (by rw[e1];exact hi) (by rw[e2];exact hj);have g0:=(YbB (by have:=A.m1;lia) (A.sh p hm) i j).1;have eR:gP ((ps.map (·.R)).getD k []) i j=gP p.R i j:=by simp[uh,hpk]
   have sk:qk ps.length (ps.map (·.R)) i j (k+1)=if gP p.R i j≠0 then k else qk ps.length (ps.map (·.R)) i j k:=by
    rw[<- eR];rfl
   generalize gP p.R i j=g at *;refine⟨[some u,a1,a2,some (I (i:Int)),some (I (j:Int)),some (I (qk ps.length (ps.map (·.R)) i j (k+1):Int)),some (I (k:Int)),some p.v],hh,?_,rfl,_,_,rfl⟩;by_cases c:g=0
   ·rw[sk,if_neg (by simp[c])];have c':¬ 0<g:=by lia
    simp[zi,QN,QaG,f1,f2,f3,f4,f5,c']
   ·rw[sk,if_pos c];have c':0<g:=by lia
    simp[zi,QN,QaG,f1,f2,f3,f4,f5,c']
 ·rintro σ hh ⟨rfl,z6,z7,rfl⟩;have:=fin z6 z7;simpa[Qb] using this
 ·rintro _ z;exact z.elim
end
end MP
end
section
namespace MP
open PySem
theorem QT{R:List (List Int)}{i j:Nat}{v:Int}(hi:i<R.length)(hj:∀ r∈R,j<r.length):gP (Zf R i j v) i j=v:=by
 have:=qav R ((i:Int),(j:Int)) v (by simpa using hi) (by simpa using hj);simpa[gP,zY] using this
theorem QB{R:List (List Int)}{i j a b:Nat}{v:Int}(ne:(i,j)≠(a,b)):gP (Zf R i j v) a b=gP R a b:=by
 have:=Yaq R ((i:Int),(j:Int)) ((a:Int),(b:Int)) v (by simp) (by simp) (λe=>ne (by simp only[Prod.mk.injEq] at e ⊢;lia));simpa[gP,zY] using this
structure DueI (Rs:List (List (List Int))) (H W i j:Nat) (R:List (List Int)):Prop where
 len:R.length=H
 all:∀ r∈R,r.length=W
 done:∀ a b,b<W->(a<i\/(a=i/\b<j))->gP R a b=ovV Rs a b
noncomputable def Ya(W i j:Nat):List (Nat×Nat):=Za i W++(wc j).map λb=>(i,b)
theorem qas(W i j:Nat):Ya W i (j+1)=Ya W i j++[(i,j)]:=by
 unfold Ya;rw[Ut,Xi,Ve];rfl
theorem QaD(W i:Nat):Ya W i W=Ya W (i+1) 0:=by
 unfold Ya Za;rw[Ut,Vw];simp
noncomputable def zaq:List MS:=[.set (.nm 5) (.blt true "len" [.var 0]),.for_ (.tp [.nm 6,.nm 7]) "enumerate" [.var 0] QN,.setSub (.sub (.var 1) (.var 3)) (.var 4) (.cI 0),
 .ite (.cmp .lt (.var 5) (.blt true "len" [.var 0])) [.setSub (.sub (.var 1) (.var 3)) (.var 4) (.sub (.sub (.fld (.sub (.var 0) (.var 5)) "rows") (.var 3)) (.var 4))] [],.setSub (.var 2) (.var 5) (.bin true .add (.sub (.var 2) (.var 5)) (.cI 1))]
section
variable (n:Nat) (h:MH) {u:MV} {ps:List PR} {m:Int} {H W:Nat}
theorem ybR(A:Alike h u ps m H W)(i j:Nat)(hi:i<H)(hj:j<W)(R:List (List Int))(D:DueI (ps.map (·.R)) H W i j R)(z4 z5 z6 z7:Option MV)(Q:MSt->MH->Prop)
  (hQ:∀ R z4 z5 z6 z7,DueI (ps.map (·.R)) H W i (j+1) R->Q [some u,some (.ref (h.length+H)),some (.ref (h.length+H+1)),some (I (i:Int)),z4,z5,z6,z7] (Qn h R (Yc (ps.map (·.R)) (Ya W i (j+1))))) :
  Nx (zi (.nm 4) (Qa prog (run prog n) zaq) (I (j:Int)) [some u,some (.ref (h.length+H)),some (.ref (h.length+H+1)),some (I (i:Int)),z4,z5,z6,z7] (Qn h R (Yc (ps.map (·.R)) (Ya W i j)))) Q:=by
 obtain⟨t,ht⟩:=QaB h R (Yc (ps.map (·.R)) (Ya W i j));have A':=A.more t;rw[<- ht] at A';have hle:=qbc (ps.map (·.R)) i j;have hRl:(ps.map (·.R)).length=ps.length:=by simp
 have DW:=λz6 z7 k Q fin=>Qbs n (Qn h R (Yc (ps.map (·.R)) (Ya W i j))) A' i j hi hj (some (.ref (h.length+H))) (some (.ref (h.length+H+1))) z6 z7 (k:=k) (Q:=Q) fin;have ie:=Qbd _ A'.P;have q:=A'.P.seq;have ln:(ps.map (·.v)).length=ps.length:=by simp
 -- the rows
 have hir:i<R.length:=by rw[D.len];exact hi
 have hW:∀ r∈R,j<r.length:=λr hr=>by rw[D.all r hr];exact hj
 have top:∀(R:List (List Int)) C,R.length=H->Zb (Qn h R C) (h.length+H)=some ((wc H).map λi=>MV.ref (h.length+i)):=λR C e=>by
  have:=Zc [.lst (iM C)] (yK h R);rw[e] at this;exact this
 have row:∀(R:List (List Int)) C r,R[i]?=some r->Zb (Qn h R C) (h.length+i)=some (iM r):=λR C r e=>Zc [.lst (iM C)] (ZS h R i r e);have put:∀(R:List (List Int)) C r v,R[i]?=some r->ye (Qn h R C) (h.length+i) ((iM r).set j (I v))=Qn h (Zf R i j v) C:=λR C r v e=>by
  unfold Qn;rw[qaK _ (by rw[Q3];have:=(Xa.mp e).1;lia),ybh h R i j r v e]
 have cnt:∀(R:List (List Int)) C,R.length=H->Zb (Qn h R C) (h.length+H+1)=some (iM C):=λR C e=>by
  have:=qb (own h R) [] (iM C);rw[Q3,e] at this;exact this
 have cput:∀(R:List (List Int)) C C',R.length=H->ye (Qn h R C) (h.length+H+1) (iM C')=Qn h R C':=λR C C' e=>by
  have:=Qg (own h R) [] (iM C) (iM C');rw[Q3,e] at this;exact this
 have ai:atM ((wc H).map λi=>MV.ref (h.length+i)) (i:Int)=some (.ref (h.length+i)):=by
  rw[Yh,xc,Ui hi];rfl
 have l1:(Zf R i j 0).length=H:=by rw[Yp];exact D.len
 obtain⟨r,er⟩:∃ r,R[i]?=some r:=⟨_,Wa hir⟩;obtain⟨r2,er2⟩:∃ r2,(Zf R i j 0)[i]?=some r2:=⟨_,Wa (by rw[Yp];exact hir)⟩;have lr:(iM r).length=W:=by simp[D.all r (Uc er)]
 have all2:∀(R:List (List Int)) v,(∀ r∈R,r.length=W)->∀ r∈Zf R i j v,r.length=W:=λR v w r hr=>by
  rcases Yz hr with hr|⟨r0,hr0,rfl⟩
  ·exact w r hr
  ·simp;exact w r0 hr0
 have lr2:(iM r2).length=W:=by simp[all2 R 0 D.all r2 (Uc er2)]
 have ij:=qa3 W j hj
 -- the counts
 have hx0:Qb (ps.map (·.R)) i j<(Yc (ps.map (·.R)) (Ya W i j)).length:=by rw[yq];lia
 obtain⟨x,hx⟩:∃ x,(Yc (ps.map (·.R)) (Ya W i j))[Qb (ps.map (·.R)) i j]?=some x:=⟨_,Wa hx0⟩;have ca:=YbJ (ps.map (·.R)) (Ya W i j) (i,j) x hx;rw[<- qas] at ca;have gc:atM (iM (Yc (ps.map (·.R)) (Ya W i j))) ((Qb (ps.map (·.R)) i j:Nat):Int)=some (I x):=by
  rw[Yh,xc,hx];rfl
 have lc:(iM (Yc (ps.map (·.R)) (Ya W i j))).length=ps.length+1:=by simp[yq]
 have ic:=qa3 (ps.length+1) (Qb (ps.map (·.R)) i j) (by lia);have sc:(iM (Yc (ps.map (·.R)) (Ya W i j))).set (Qb (ps.map (·.R)) i j) (I (x+1))=iM (Yc (ps.map (·.R)) (Ya W i (j+1))):=by
  rw[ca];exact(UC ..).symm
 have ax:∀ hh,yh true .add (I x) (I 1) hh=.ok (I (x+1)) hh:=λhh=>zw ..;have top0:=top R (Yc (ps.map (·.R)) (Ya W i j)) D.len;have row0:=row R (Yc (ps.map (·.R)) (Ya W i j)) r er;have put0:=put R (Yc (ps.map (·.R)) (Ya W i j)) r 0 er;have qA:∀ R C,zc (Qn h R C) u=some (ps.map (·.v)):=λR C=>by
  obtain⟨t,ht⟩:=QaB h R C;rw[ht];exact(A.more t).P.seq
 by_cases k:Qb (ps.map (·.R)) i j<ps.length
 ·have kz:((Qb (ps.map (·.R)) i j:Nat):Int)<(ps.length:Int):=by lia
  have hpk:=Wa k;have hm:=Uc hpk;have at1:atM (ps.map (·.v)) ((Qb (ps.map (·.R)) i j:Nat):Int)=some (ps[Qb (ps.map (·.R)) i j]).v:=by rw[Yh];simp[hpk]
  have ov:ovV (ps.map (·.R)) i j=gP (ps[Qb (ps.map (·.R)) i j]).R i j:=by
   unfold ovV;rw[hRl,if_pos k];simp[uh,hpk]
  have cA:∃ RM rv rm,QY prog.fok "rows" (ps[Qb (ps.map (·.R)) i j]).v (Qn h (Zf R i j 0) (Yc (ps.map (·.R)) (Ya W i j)))=some (.f rv)/\zc (Qn h (Zf R i j 0) (Yc (ps.map (·.R)) (Ya W i j))) (.f rv)=some RM/\(∃ r1,atM RM (i:Int)=some (.f r1)/\zc (Qn h (Zf R i j 0) (Yc (ps.map (·.R)) (Ya W i j))) (.f r1)=some rm)/\atM rm (j:Int)=some (I (gP (ps[Qb (ps.map (·.R)) i j]).R i j)):=by
   obtain⟨t,ht⟩:=QaB h (Zf R i j 0) (Yc (ps.map (·.R)) (Ya W i j));rw[ht];have ok:=(A.more t).P.ok _ hm;obtain⟨e1,e2⟩:=A.sz _ hm;exact Ybg ok.1 ok.2 i j (by rw[e1];exact hi) (by rw[e2];exact hj)
  obtain⟨RM,rv,rm,f1,f2,⟨r1,f3,f4⟩,f5⟩:=cA;rw[<- ov] at f5;have D2:DueI (ps.map (·.R)) H W i (j+1) (Zf (Zf R i j 0) i j (ovV (ps.map (·.R)) i j)):=by
   refine⟨by rw[Yp];exact l1,all2 _ _ (all2 _ _ D.all),λa b hb ab=>?_⟩;by_cases c:(i,j)=(a,b)
   ·cases c;exact QT (by rw[l1];exact hi) (λr hr=>by rw[all2 R 0 D.all r hr];exact hj)
   ·rw[QB c,QB c];exact D.done a b hb (by
     rcases ab with q|⟨rfl,q⟩
     ·exact .inl q
     ·right;refine⟨rfl,?_⟩
      have:b≠j:=λz=>c (by rw[z])
      lia)
  have l2:=D2.len;have HQ:=hQ (Zf (Zf R i j 0) i j (ovV (ps.map (·.R)) i j)) (some (I (j:Int))) (some (I ((Qb (ps.map (·.R)) i j:Nat):Int)));have top1:=top (Zf R i j 0) (Yc (ps.map (·.R)) (Ya W i j)) l1;have row1:=row (Zf R i j 0) (Yc (ps.map (·.R)) (Ya W i j)) r2 er2;have put1:=put (Zf R i j 0) (Yc (ps.map (·.R)) (Ya W i j)) r2 (ovV (ps.map (·.R)) i j) er2;have cnt2:=cnt _ (Yc (ps.map (·.R)) (Ya W i j)) l2;have cput2:=cput _ (Yc (ps.map (·.R)) (Ya W i j)) (Yc (ps.map (·.R)) (Ya W i (j+1))) l2;have HQ:=λz6 z7=>HQ z6 z7 D2;have q1:=qA (Zf R i j 0) (Yc (ps.map (·.R)) (Ya W i j));generalize hH2:Qn h (Zf (Zf R i j 0) i j (ovV (ps.map (·.R)) i j)) (Yc (ps.map (·.R)) (Ya W i (j+1)))=H3 at *;generalize hH1:Qn h (Zf (Zf R i j 0) i j (ovV (ps.map (·.R)) i j)) (Yc (ps.map (·.R)) (Ya W i j))=H2 at *;generalize hH1':Qn h (Zf R i j 0) (Yc (ps.map (·.R)) (Ya W i j))=H1 at *;generalize hH0:Qn h R (Yc (ps.map (·.R)) (Ya W i j))=H0 at *;generalize hCM2:iM (Yc (ps.map (·.R)) (Ya W i (j+1)))=CM2 at *;generalize hCM:iM (Yc (ps.map (·.R)) (Ya W i j))=CM at *;generalize (wc H).map (λi=>MV.ref (h.length+i))=TP at *;generalize iM r=rM at *;generalize iM r2=rM2 at *;generalize ps.map (·.v)=X at *;generalize (ps[Qb (ps.map (·.R)) i j]).v=pv at *;simp only[zi,zaq];simp[q,ln,ie];refine DW _ _ _ (λr=>Nx r Q) λz6 z7=>?_;have HQ:=HQ z6 z7;generalize Qb (ps.map (·.R)) i j=sk at *;simp[top0,ai,row0,lr,ij,put0,q1,ln,kz,at1,f1,f2,f3,f4,f5,top1,row1,lr2,put1,cnt2,gc,ax,lc,ic,sc,cput2];exact HQ
 ·have kz:¬((Qb (ps.map (·.R)) i j:Nat):Int)<(ps.length:Int):=by lia
  have ov:ovV (ps.map (·.R)) i j=0:=by
   unfold ovV;rw[hRl,if_neg k]
  have D2:DueI (ps.map (·.R)) H W i (j+1) (Zf R i j 0):=by
   refine⟨l1,all2 _ _ D.all,λa b hb ab=>?_⟩;by_cases c:(i,j)=(a,b)
   ·cases c;rw[ov];exact QT hir hW
   ·rw[QB c];exact D.done a b hb (by
     rcases ab with q|⟨rfl,q⟩
     ·exact .inl q
     ·right;refine⟨rfl,?_⟩
      have:b≠j:=λz=>c (by rw[z])
      lia)
  have HQ:=hQ (Zf R i j 0) (some (I (j:Int))) (some (I ((Qb (ps.map (·.R)) i j:Nat):Int)));have HQ:=λz6 z7=>HQ z6 z7 D2;have cnt2:=cnt _ (Yc (ps.map (·.R)) (Ya W i j)) l1;have cput2:=cput _ (Yc (ps.map (·.R)) (Ya W i j)) (Yc (ps.map (·.R)) (Ya W i (j+1))) l1;have q1:=qA (Zf R i j 0) (Yc (ps.map (·.R)) (Ya W i j));generalize hH2:Qn h (Zf R i j 0) (Yc (ps.map (·.R)) (Ya W i (j+1)))=H3 at *;generalize hH1':Qn h (Zf R i j 0) (Yc (ps.map (·.R)) (Ya W i j))=H1 at *;generalize hH0:Qn h R (Yc (ps.map (·.R)) (Ya W i j))=H0 at *;generalize hCM2:iM (Yc (ps.map (·.R)) (Ya W i (j+1)))=CM2 at *;generalize hCM:iM (Yc (ps.map (·.R)) (Ya W i j))=CM at *;generalize (wc H).map (λi=>MV.ref (h.length+i))=TP at *;generalize iM r=rM at *;generalize ps.map (·.v)=X at *;simp only[zi,zaq];simp[q,ln,ie];refine DW _ _ _ (λr=>Nx r Q) λz6 z7=>?_;have HQ:=HQ z6 z7;generalize Qb (ps.map (·.R)) i j=sk at *;simp[top0,ai,row0,lr,ij,put0,q1,ln,kz,cnt2,gc,ax,lc,ic,sc,cput2];exact HQ
end
end MP
end
section
namespace MP
open PySem
section
variable (n:Nat) (h:MH) {u:MV} {ps:List PR} {m:Int} {H W:Nat}
noncomputable def yaD:List MS:=[.for_ (.nm 4) "range" [.blt true "len" [.sub (.var 1) (.cI 0)]] zaq]
noncomputable def ya4(ps:List PR)(H W:Nat):FV:=.tup [zh true true (Zg (ps.map (·.R)) H W),.lst ((Yc (ps.map (·.R)) (Za H W)).map .int)]
theorem qbE(A:Alike h u ps m H W)(i:Nat)(hi:i<H)(R:List (List Int))(D:DueI (ps.map (·.R)) H W i 0 R)(z3 z4 z5 z6 z7:Option MV)(Q:MSt->MH->Prop)
  (hQ:∀ R z3 z4 z5 z6 z7,DueI (ps.map (·.R)) H W (i+1) 0 R->Q [some u,some (.ref (h.length+H)),some (.ref (h.length+H+1)),z3,z4,z5,z6,z7] (Qn h R (Yc (ps.map (·.R)) (Ya W (i+1) 0)))) :
  Nx (zi (.nm 3) (Qa prog (run prog n) yaD) (I (i:Int)) [some u,some (.ref (h.length+H)),some (.ref (h.length+H+1)),z3,z4,z5,z6,z7] (Qn h R (Yc (ps.map (·.R)) (Ya W i 0)))) Q:=by
 have top:Zb (Qn h R (Yc (ps.map (·.R)) (Ya W i 0))) (h.length+H)=some ((wc H).map λi=>MV.ref (h.length+i)):=by
  have:=Zc [.lst (iM (Yc (ps.map (·.R)) (Ya W i 0)))] (yK h R);rw[D.len] at this;exact this
 have at0:atM ((wc H).map λi=>MV.ref (h.length+i)) 0=some (.ref h.length):=by
  show atM _ ((0:Nat):Int)=_;rw[Yh,xc,Ui (by lia)];rfl
 obtain⟨r,er⟩:∃ r,R[0]?=some r:=⟨_,Wa (by rw[D.len];lia)⟩;have row0:Zb (Qn h R (Yc (ps.map (·.R)) (Ya W i 0))) h.length=some (iM r):=by
  have:=Zc [.lst (iM (Yc (ps.map (·.R)) (Ya W i 0)))] (ZS h R 0 r er);rw[Nat.add_zero] at this;exact this
 have lr:(iM r).length=W:=by simp[D.all r (Uc er)]
 have W9:=A.W9;have key:∀(R:List (List Int)) (D:DueI (ps.map (·.R)) H W i 0 R) k,k<=W->True:=λ_ _ _ _=>trivial;generalize hH0:Qn h R (Yc (ps.map (·.R)) (Ya W i 0))=H0 at *;generalize (wc H).map (λi=>MV.ref (h.length+i))=TP at *;generalize iM r=rM at *;simp only[zi,yaD];simp[top,at0,row0,lr,qp _ (W:Int) (by lia)];refine Yu (Q:=λr=>Nx r Q) W (λj σ hh=>∃ R z4 z5 z6 z7,DueI (ps.map (·.R)) H W i j R/\hh=Qn h R (Yc (ps.map (·.R)) (Ya W i j))/\σ=[some u,some (.ref (h.length+H)),some (.ref (h.length+H+1)),some (I (i:Int)),z4,z5,z6,z7]) ⟨R,_,_,_,_,D,hH0.symm,rfl⟩ ?_ ?_
 ·rintro j σ hh hj ⟨R,z4,z5,z6,z7,D,rfl,rfl⟩ Q hQ;exact ybR n h A i j hi hj R D z4 z5 z6 z7 Q λR z4 z5 z6 z7 D=>hQ _ _ ⟨R,z4,z5,z6,z7,D,rfl,rfl⟩
 ·rintro σ hh ⟨R,z4,z5,z6,z7,D,rfl,rfl⟩;rw[QaD];have:=hQ R (some (I (i:Int))) z4 z5 z6 z7 ⟨D.len,D.all,λa b hb ab=>D.done a b hb (by lia)⟩;simpa using this
theorem ZbZ(A:Alike h u ps m H W):run prog (n+1) "_law_due" [u] h=.ok (.f (ya4 ps H W)) h:=by
 obtain⟨p0,r,e0⟩:∃ p0 r,ps=p0::r:=by
  cases e:ps with
  |nil=>exact absurd e A.ne
  |cons p0 r=>exact⟨p0,r,rfl⟩
 have m0:p0∈ps:=by rw[e0];simp
 obtain⟨a1,a2,a3⟩:=A.al p0 m0;have H9:=A.H9;have hln:=A.P.len;have q:=A.P.seq;have ln:(ps.map (·.v)).length=ps.length:=by simp
 have hRl:(ps.map (·.R)).length=ps.length:=by simp
 have ok0:=A.P.ok p0 m0;have f0:=ok0.1.rows;have lR:p0.R.length=H:=by rw[ok0.2.len,a2]
 have at0:atM (ps.map (·.v)) 0=some p0.v:=by
  rw[e0];show atM _ ((0:Nat):Int)=_;rw[Yh];rfl
 have z0:Yc (ps.map (·.R)) []=Wb (ps.length+1) 0:=by
  unfold Yc;rw[hRl];apply ur (by simp);intro i h1 h2;simp
 have p1:∀ hh,yh true .add (I (ps.length:Int)) (I 1) hh=.ok (I ((ps.length+1:Nat):Int)) hh:=λhh=>by rw[zw];rfl
 have mz:=Zaz (ps.length+1) (by lia) (own h p0.R);have ol:=Q3 h p0.R;rw[lR] at ol;rw[ol] at mz;have it:itV "seq" [.f (zh true true p0.R)] h=some (p0.R.map (MV.f∘Qf true),[]):=by simp[itV,zh]
 have q0:=(A.P.more (p0.R.map QA++[.lst ((wc p0.R.length).map λi=>MV.ref (h.length+i))])).seq;have eo:h++(p0.R.map QA++[.lst ((wc p0.R.length).map λi=>MV.ref (h.length+i))])=own h p0.R:=rfl;rw[eo] at q0;have tp0:=Zc [.lst (iM (Wb (ps.length+1) 0))] (yK h p0.R);rw[lR] at tp0
 suffices Ret (run prog (n+1) "_law_due" [u] h) λv h'=>v=.f (ya4 ps H W)/\h'=h by
  obtain⟨v,h',e,rfl,rfl⟩:=this;exact e
 refine Ret.of λQ hQ=>?_;rw[ZaK];simp only[d__law_due];have DL:=λi hi R D z3 z4 z5 z6 z7 Q hQ=>qbE n h A i hi R D z3 z4 z5 z6 z7 Q hQ;simp only[yaD,zaq,QN] at DL;generalize ((ps.length+1:Nat):Int)=L1 at *;have lX:(ps.map (·.v)).length=ps.length:=ln;generalize hX:ps.map (·.v)=X at *;generalize hz:iM (Wb (ps.length+1) 0)=Z at *;simp[q,at0,f0,it,MP.stM];rw[Y8 _ (MV.f∘Qf true) (λr z h=>⟨some (.f (Qf true r)),by simp[Zt,Qf,QA]⟩) p0.R [] none h (by rw[Yg];simp;lia)];simp only[R.bind_ok,YA,R.st_ok,Vk];have eo:(h++p0.R.map QA)++[.lst ((wc p0.R.length).map λi=>MV.ref (h.length+i))]=own h p0.R:=by simp[own]
 have el:(h++p0.R.map QA).length=h.length+p0.R.length:=by simp
 rw[eo,el,lR];simp[q0,lX,p1,mz,qi,tp0,qp _ (H:Int) (by lia)];refine Yu (Q:=λr=>Ret (Qc h r) Q) H (λi σ hh=>∃ R z3 z4 z5 z6 z7,DueI (ps.map (·.R)) H W i 0 R/\hh=Qn h R (Yc (ps.map (·.R)) (Ya W i 0))/\σ=[some u,some (.ref (h.length+H)),some (.ref (h.length+H+1)),z3,z4,z5,z6,z7]) ?_ ?_ ?_
 ·refine⟨p0.R,none,none,none,none,none,⟨lR,λr hr=>by rw[ok0.2.all r hr,a3],λa b _ ab=>by lia⟩,?_,rfl⟩;have:Ya W 0 0=[]:=by simp[Ya,Za]
  rw[this,z0];unfold Qn;rw[hz]
 ·rintro i σ hh hi ⟨R,z3,z4,z5,z6,z7,D,rfl,rfl⟩ Q hQ;exact DL i hi R D z3 z4 z5 z6 z7 Q λR z3 z4 z5 z6 z7 D=>hQ _ _ ⟨R,z3,z4,z5,z6,z7,D,rfl,rfl⟩
 ·rintro σ hh ⟨R,z3,z4,z5,z6,z7,D,rfl,rfl⟩;have eR:R=Zg (ps.map (·.R)) H W:=by
   have g:=Q6 (ps.map (·.R)) H W A.H1 A.W1;refine YaX D.len g.len D.all g.all λi j hi hj=>?_;rw[Qai _ _ _ _ _ hi hj];exact D.done i j hj (.inl hi)
  have ec:Ya W H 0=Za H W:=by simp[Ya]
  rw[ec];subst eR;generalize hR:Zg (ps.map (·.R)) H W=R at *;generalize hC:Yc (ps.map (·.R)) (Za H W)=C at *;have top:Zb (Qn h R C) (h.length+H)=some ((wc H).map λi=>MV.ref (h.length+i)):=by
   have:=Zc [.lst (iM C)] (yK h R);rw[D.len] at this;exact this
  have row:∀ i,i<H->Zb (Qn h R C) (h.length+i)=some (iM (R.getD i [])):=λi hi=>by
   have hi':i<R.length:=by rw[D.len];exact hi
   have e:R[i]?=some (R.getD i []):=by simp[uh,Wa hi']
   exact Zc [.lst (iM C)] (ZS h R i _ e)
  obtain⟨t',F⟩:=Yai (own h R) [] (C.map FV.int);have eM:(C.map FV.int).map MV.f=iM C:=by simp[Wf]
  rw[eM,Q3,D.len] at F;have gr:yc (Qn h R C) (.ref (h.length+H))=[(h.length+H,(wc H).map λi=>MV.ref (h.length+i))]:=by simp[yc,top]
  have ot:∃ t,own h R++t'=h++t:=⟨_,by unfold own;rw[Ve]⟩;obtain⟨t,ht⟩:=ot;have lv:=(by simp:zk h (.f (ya4 ps H W)) (h++t)=.ok (.f (ya4 ps H W)) h);have F':zL (.ref (h.length+H+1)) (Qn h R C)=.ok (.f (.lst (C.map FV.int))) (h++t):=by rw[<- ht];exact F
  have eRV:(wc H).map (λi=>Qf true (R.getD i []))=R.map (Qf true):=by
   apply ur (by simp[D.len]);intro i h1 h2;simp at h1 h2;simp[uh,Wa h2]
  have dv:ya4 ps H W=.tup [sq true (R.map (Qf true)),.lst (C.map .int)]:=by unfold ya4;rw[hR,hC];rfl
  have gok:=yN top;generalize Qn h R C=HH at *;simp[top,gr,MP.stM];rw[qao gok (e:=λi:Nat=>MV.ref (h.length+i)) (g:=λi=>MV.f (Qf true (R.getD i []))) (caps:=[]) (wc H) [] none (by simp[Yg];lia) (λi hi z=>⟨some (.ref (h.length+i)),by
   have:=row i (Xj.mp hi);simp[Zt,this,Qf,sq]⟩)]
  have e2:(wc H).map (λi=>MV.f (Qf true (R.getD i [])))=(R.map (Qf true)).map MV.f:=by
   rw[<- eRV];simp[Wf]
  simp only[Vk,_root_.MP.R.bind_ok,e2,Yo];rw[dv] at lv hQ;generalize R.map (Qf true)=RV at *;simp[F',Ybs,sq] at lv ⊢;exact hQ _ _ ⟨rfl,rfl⟩
end
end MP
end
section
namespace MP
open PySem
noncomputable def yac(m:Int)(R:List (List Int)):Cell:=.obj "Picture" [("most",I m),("rows",.f (zh true true R))]
structure AtP (t:MH) (p:PR):Prop where
 at_:∃ a,p.v=.ref (a+1)/\t[a]?=some (yac p.m p.R)
 d:Drawn p.m p.R p.H p.W
 h1:1<=p.H
 w1:1<=p.W
theorem AtP.ok{t:MH}{p:PR}(A:AtP t p)(c:Cell):OkR (c::t) p:=by
 obtain⟨⟨a,e,q⟩,d,h1,w1⟩:=A;refine⟨⟨?_,?_⟩,⟨d.len,d.wid,h1,w1⟩⟩
 ·rw[e];simp[QY,q,yac]
 ·rw[e];simp[QY,q,yac];rfl
theorem AtP.more{t:MH}{p:PR}(A:AtP t p)(t':MH):AtP (t++t') p:=by
 obtain⟨⟨a,e,q⟩,d,h1,w1⟩:=A;exact⟨⟨a,e,by rw[va (Xa.mp q).1];exact q⟩,d,h1,w1⟩
section
variable (n:Nat) (h:MH)
theorem ybr(most:Int)(rows:List (List Int))(g:Good most rows):qT prog (run prog (n+2)) false "Picture" [I most,.f (zh false false rows)] h=.ok (.ref h.length) (h++[yac most rows]):=by
 simp[qT,ZH n h most false false rows g,yac]
theorem QH(ns:List Int)(k:Int)(m:Int)(H W:Nat)(hk:0<=k)(hk2:k+1+(H*W:Nat)<1000000)(hm:1<=m)(h1:1<=H)(w1:1<=W)(hi:H<=20)(hj:W<=20) :
  Ret (run prog (n+3) "_law_layer" [.f (.scr ns),.ref 0,I m,I H,I W] (atC k::h)) λv h'=>∃ R kk t,AtP (h++t) ⟨v,m,H,W,R⟩/\k<=kk/\kk<=k+1+(H*W:Nat)/\h'=atC kk::(h++t):=by
 refine Ret.of λQ hQ=>?_;have N0:=Z0 (n+1) h ns k hk (by lia);have hd:=yaK ns (k+1);generalize Zat ns (k+1)=x at N0 hd;have mp:0<m:=by lia
 rw[Qaj];simp only[d__law_layer];simp[N0,qi,qp _ (H:Int) (by lia)];refine Yu (Q:=λr=>Ret (Qc (atC k::h) r) Q) H (λi σ hh=>∃ kk rows g z7 z8 z9 z10 z11,k+1<=kk/\kk<=k+1+(i*W:Nat)/\Drawn m rows i W/\Own h g ((rows.map (Qf false)).map .f)/\hh=atC kk::g /\
  σ=[some (.f (.scr ns)),some (.ref 0),some (I m),some (I H),some (I W),some (I x),some (.ref (h.length+1)),z7,z8,z9,z10,z11]) ⟨k+1,[],_,none,none,none,none,none,by lia,by simp,⟨rfl,by simp,by simp⟩,Own.new h,by simp,rfl⟩ ?_ ?_
 ·rintro i σ hh hil ⟨kk,rows,g,z7,z8,z9,z10,z11,hk1,hkk,d,o,rfl,rfl⟩ Q hQ;have hij:(i+1)*W<=H*W:=wB _ hil;rw[Xx] at hij;simp[zi,qp _ (W:Int) (by lia)];refine Yu (Q:=λr=>Nx r Q) W (λj σ hh=>∃ kj r z9 z10 z11,kk<=kj/\kj<=kk+(j:Int)/\(r.length=j/\∀ v∈r,0<=v/\v<=m)/\hh=atC kj::(g++[.lst ((r.map FV.int).map .f)]) /\
   σ=[some (.f (.scr ns)),some (.ref 0),some (I m),some (I H),some (I W),some (I x),some (.ref (h.length+1)),some (I i),some (.ref (g.length+1)),z9,z10,z11]) ⟨kk,[],z9,z10,z11,by lia,by simp,⟨rfl,by simp⟩,by simp,rfl⟩ ?_ ?_
  ·rintro j σ hh hjl ⟨kj,r,z9,z10,z11,hkj1,hkj,⟨hr1,hr2⟩,rfl,rfl⟩ Q hQ;have N:=Z0 (n+1) (g++[.lst ((r.map FV.int).map .f)]) ns kj (by lia) (by lia);have hd2:=yaK ns (kj+1);generalize Zat ns (kj+1)=y at N hd2;have hl:r.length<sizeL:=by rw[Yg];lia
   have c1:=(Own.new (xs:=(r.map FV.int).map .f) g).cell (atC (kj+1));have mul1:Q5 y 48271:=.inl (by lia);have app:∀ v,(0<=v/\v<=m)->∀ w∈r++[v],0<=w/\w<=m:=λv hv w hw=>by
    rcases Xf.mp hw with hw|hw
    ·exact hr2 w hw
    ·simp at hw;subst hw;exact hv
   simp only[vh] at N c1;have hv:=mod_lt (y*48271) m mp;generalize hvv:y*48271%m=v at hv;by_cases a1:y%5<x%5
   ·simp[zi,yp,zah,N,mul1,mp,hvv,a1,c1,hl,zaX];exact hQ _ _ ⟨kj+1,r++[0],_,_,_,by lia,by lia,⟨by simp[hr1],app 0 (by lia)⟩,by simp,rfl⟩
   ·simp[zi,yp,zah,N,mul1,mp,hvv,a1,c1,hl,zaX];exact hQ _ _ ⟨kj+1,r++[1+v],_,_,_,by lia,by lia,⟨by simp[hr1],app (1+v) (by lia)⟩,by simp,rfl⟩
  ·rintro σ hh ⟨kj,r,z9,z10,z11,hkj1,hkj,⟨hr1,hr2⟩,rfl,rfl⟩;have f1:=Qbx (atC kj) g (r.map FV.int);have c0:=(o.more [.lst ((r.map FV.int).map .f)]).cell (atC kj);have c1:=(o.more [.dead]).cell (atC kj);have hl:rows.length<sizeL:=by rw[Yg,d.len];lia
   obtain⟨g',eg,o'⟩:=(o.more [.dead]).set (atC kj) ((rows.map (Qf false)).map .f++[.f (.lst (r.map FV.int))]);simp only[vh] at f1 c1 eg c0;simp[f1,c0,c1,hl,eg];exact hQ _ _ ⟨kj,rows++[r],g',_,_,_,_,_,by lia,by rw[Xx];lia,d.snoc ⟨hr1,hr2⟩,by simpa[Qf,sq] using o',rfl,rfl⟩
 ·rintro σ hh ⟨kk,rows,g,z7,z8,z9,z10,z11,hk1,hkk,d,o,rfl,rfl⟩;obtain⟨t',e⟩:=o.frz (atC kk);have gd:=d.good hm h1 (by lia) w1;have mk:=ybr n (atC kk::(h++t')) m rows gd;have er:zh false false rows=.lst (rows.map (Qf false)):=rfl;rw[er] at mk;have lv:zk (atC k::h) (.ref (atC kk::(h++t')).length) ((atC kk::(h++t'))++[yac m rows])=.ok (.ref (atC kk::(h++t')).length) ((atC kk::(h++t'))++[yac m rows]):=by
   have nc:Zb ((atC kk::(h++t'))++[yac m rows]) (atC kk::(h++t')).length=none:=by simp[Zb,yac]
   unfold zk;split
   ·simp only[nc];split <;> rfl
   ·rfl
  have hq:=hQ (.ref (atC kk::(h++t')).length) ((atC kk::(h++t'))++[yac m rows]) ⟨rows,kk,t'++[yac m rows],⟨⟨(h++t').length,rfl,by simp⟩,d,h1,w1⟩,by lia,by lia,by simp⟩;generalize (atC kk::(h++t'))++[yac m rows]=H2 at *;generalize (atC kk::(h++t')).length=L at *;simp[e,mk,lv];exact hq
end
end MP
end
section
namespace MP
open PySem
noncomputable def ovZ(x a:Int):Int:=if x≠0 then x else a
noncomputable def ovF(i j:Nat)(a:Int)(R:List (List Int)):Int:=if gP R i j≠0 then gP R i j else a
theorem yaT(Rs:List (List (List Int)))(i j:Nat):∀ k,k<=Rs.length->(if qk Rs.length Rs i j k<Rs.length then gP (Rs.getD (qk Rs.length Rs i j k) []) i j else 0)=(Rs.take k).foldl (ovF i j) 0
 |0,_=>by simp[qk]
 |k+1,hk=>by
  have ih:=yaT Rs i j k (by lia);have e:Rs[k]?=some (Rs.getD k []):=by simp[uh,Wa (show k<Rs.length by lia)]
  rw[vq,e,vx,xD,<- ih];have s:qk Rs.length Rs i j (k+1)=if gP (Rs.getD k []) i j≠0 then k else qk Rs.length Rs i j k:=rfl;simp only[xk,wu,ovF];by_cases c:gP (Rs.getD k []) i j=0
  ·have s':qk Rs.length Rs i j (k+1)=qk Rs.length Rs i j k:=by rw[s,if_neg (λq=>q c)]
   rw[s',if_neg (c:=gP (Rs.getD k []) i j≠0) (λq=>q c)]
  ·have s':qk Rs.length Rs i j (k+1)=k:=by rw[s,if_pos c]
   rw[s',if_pos (by lia),if_pos c]
theorem yZ(Rs:List (List (List Int)))(i j:Nat):ovV Rs i j=Rs.foldl (ovF i j) 0:=by
 have:=yaT Rs i j Rs.length (by lia);rw[Wp] at this;exact this
theorem QaE(i j:Nat):∀(Rs:List (List (List Int))) (a:Int),Rs.foldl (ovF i j) a=ovZ (Rs.foldl (ovF i j) 0) a
 |[],a=>rfl
 |R::Rs,a=>by
  have e1:=QaE i j Rs (ovF i j a R);have e2:=QaE i j Rs (ovF i j 0 R);show Rs.foldl (ovF i j) (ovF i j a R)=ovZ (Rs.foldl (ovF i j) (ovF i j 0 R)) a;rw[e1,e2];generalize Rs.foldl (ovF i j) 0=C at *;unfold ovZ ovF;by_cases c:C=0
  ·by_cases d:gP R i j=0
   ·simp[c,d]
   ·simp[c,d]
  ·simp[c]
theorem Yap{Rs Rs':List (List (List Int))}{H W:Nat}(e:∀ i j,i<H->j<W->ovV Rs i j=ovV Rs' i j):Zg Rs H W=Zg Rs' H W:=by
 unfold Zg;apply wx;intro i hi;apply wx;intro j hj;exact e i j (Xj.mp hi) (Xj.mp hj)
theorem Qbz(Rs:List (List (List Int)))(H W:Nat):Zg [Zg Rs H W] H W=Zg Rs H W:=by
 refine Yap λi j hi hj=>?_;rw[yZ [_]];simp only[xk,wu,ovF,Qai _ _ _ _ _ hi hj];by_cases c:ovV Rs i j=0 <;> simp[c]
theorem ZbR(Rs Rs':List (List (List Int)))(H W:Nat):Zg [Zg Rs H W,Zg Rs' H W] H W=Zg (Rs++Rs') H W:=by
 refine Yap λi j hi hj=>?_;rw[yZ [_,_],yZ (Rs++Rs'),xD];simp only[xk,wu,ovF,Qai _ _ _ _ _ hi hj];rw[QaE i j Rs',yZ Rs',yZ Rs];unfold ovZ;by_cases c:Rs.foldl (ovF i j) 0=0 <;> simp[c]
theorem zae(L:Nat)(Rs:List (List (List Int)))(i j:Nat):∀ k,k<=L->(qk L Rs i j k=L↔∀ a,a<k->gP (Rs.getD a []) i j=0)
 |0,_=>by simp[qk]
 |k+1,hk=>by
  have ih:=zae L Rs i j k (by lia);have s:qk L Rs i j (k+1)=if gP (Rs.getD k []) i j≠0 then k else qk L Rs i j k:=rfl;rw[s];by_cases c:gP (Rs.getD k []) i j=0
  ·rw[if_neg (λq=>q c),ih];constructor
   ·intro q a ha;by_cases d:a=k
    ·rw[d];exact c
    ·exact q a (by lia)
   ·intro q a ha;exact q a (by lia)
  ·rw[if_pos c];constructor
   ·intro q;lia
   ·intro q;exact absurd (q k (by lia)) c
theorem Za8(Rs:List (List (List Int)))(i j:Nat):Qb Rs i j=Rs.length↔∀ R∈Rs,gP R i j=0:=by
 rw[Qb,zae _ _ _ _ _ (by lia)];constructor
 ·intro q R hR;obtain⟨a,ha,rfl⟩:=List.mem_iff_getElem.mp hR;have:=q a ha;simpa[uh,Wa ha] using this
 ·intro q a ha;have:=q _ (Wh ha);simpa[uh,Wa ha] using this
noncomputable def YY(Rs:List (List (List Int)))(H W:Nat):Int:=((Za H W).countP λc=>decide (∀ R∈Rs,gP R c.1 c.2=0):Nat)
theorem yaB(Rs:List (List (List Int)))(H W:Nat):(Yc Rs (Za H W))[Rs.length]?=some (YY Rs H W):=by
 unfold Yc YY;rw[xc,Ui (by lia)];simp only[Wj,Za8]
theorem Ya1(Rs Rs':List (List (List Int)))(H W:Nat):YY (Rs'++Rs) H W=YY (Rs++Rs') H W:=by
 unfold YY
 congr 2
 funext c;apply decide_eq_decide.mpr;simp only[Xf];constructor
 ·intro q R hR;exact q R hR.symm
 ·intro q R hR;exact q R hR.symm
theorem qbi(C:List Int)(x:Int)(k:Nat)(hl:C.length=k+1)(e:C[k]?=some x):atM (iM C) (-1)=some (I x):=by
 unfold atM ixM;have l:(iM C).length=k+1:=by simp[hl]
 rw[l,if_neg (by decide),if_pos (by lia)];have:((-1:Int)+((k+1:Nat):Int)).toNat=k:=by lia
 rw[this];simp[e]
section
variable (n:Nat) (h:MH)
theorem Zcu(m:Int)(R:List (List Int))(hl:R.length<=1000)(hr:∀ r∈R,r.length<=1000):run prog (n+4) "_law_is" [.f (Qz m R),I m,.f (zh true true R)] h=.ok (B true) h:=by
 have P:isP 3 (zh true true R)=true:=by
  simp[zh,Qf,sq,isP,Yg];refine⟨by lia,λr hr'=>?_⟩;have:=hr r hr'
  lia
 have S1:=qM n h 3 (zh true true R) P;have S2:=qM (n+2) h 1 (.int m) (by simp[isP]);rw[yaO];simp only[d__law_is];simp[Qz,S1,S2]
theorem qE{u:MV}{ps:List PR}(P:PL h u ps)(bad:ps=[]\/∃ p0 r,ps=p0::r/\∃ p∈ps,¬ YaY p p0):run prog (n+8) "_law_refused" [u] h=.ok (B true) h:=by
 obtain⟨X1,X2⟩:=ybo n h P bad
 suffices Ret (run prog (n+8) "_law_refused" [u] h) λv h'=>v=B true/\h'=h by
  obtain⟨v,h',e,rfl,rfl⟩:=this;exact e
 refine Ret.of λQ hQ=>?_;rw[Y6];simp only[d__law_refused];simp[qp _ 2 (by decide)];refine Yu (Q:=λr=>Ret (Qc h r) Q) 2 (λi σ hh=>∃ z1 z2 z3,σ=[some u,z1,z2,z3]/\hh=h) ⟨none,none,none,rfl,rfl⟩ ?_ ?_
 ·rintro i σ hh hi ⟨z1,z2,z3,rfl,rfl⟩ Q hQ;have eq1:eqF (.str "meet") (.str "meet")=some true:=by rw[qbg _ _ (by decide +kernel) (by decide +kernel)];simp
  by_cases c:i=0
  ·subst c;simp[zi,X1,X2,RS.caught,eq1];exact hQ _ _ ⟨_,_,_,rfl,rfl⟩
  ·have:i=1:=by lia
   subst this;simp[zi,X1,X2,RS.caught,eq1];exact hQ _ _ ⟨_,_,_,rfl,rfl⟩
 ·rintro σ hh ⟨z1,z2,z3,rfl,rfl⟩;simp;exact hQ _ _ ⟨rfl,rfl⟩
end
end MP
end
section
namespace MP
open PySem
noncomputable abbrev oneB:List MS:=d__law_one.body
theorem Ycg(hh:MH)(xs:List MV):zc hh (yf xs)=some xs:=by
 unfold yf;cases e:qi xs with
 |none=>rfl
 |some ys=>show some (ys.map MV.f)=_;rw[Qaa e]
theorem Ybz(hh:MH)(xs:List MV):yc hh (yf xs)=[]:=by
 unfold yf;cases e:qi xs <;> rfl
theorem Z7 {hh:MH} {a:Nat} {ps:List PR} (e:Zb hh a=some (ps.map (·.v))) (ok:∀ p∈ps,OkR hh p) (len:ps.length≤100):PL hh (.ref a) ps :=
  ⟨e, by have : yc hh (.ref a) = [(a, ps.map (·.v))] := by simp [yc, e]
         rw [this]; exact yN e,ok,len⟩
theorem Zbc{hh:MH}{ps:List PR}(ok:∀ p∈ps,OkR hh p)(len:ps.length<=100):PL hh (yf (ps.map (·.v))) ps :=
 ⟨Ycg _ _,by rw[Ybz];exact yQ _,ok,len⟩
theorem Alike.to{hh:MH}{u u':MV}{ps:List PR}{m:Int}{H W:Nat}(A:Alike hh u ps m H W)(P:PL hh u' ps):Alike hh u' ps m H W:=⟨P,A.ne,A.al,A.sh,A.H1,A.W1,A.H9,A.W9,A.m1⟩
theorem yb3{ps:List PR}(r:∀ p∈ps,∃ a,p.v=.ref a):∃ as,yt (ps.map (·.v))=some as:=by
 induction ps with
 |nil=>exact⟨[],rfl⟩
 |cons p ps ih =>
  obtain⟨a,e⟩:=r p (by simp);obtain⟨as,es⟩:=ih λq hq=>r q (by simp[hq]);exact⟨a::as,by simp[yt,e,es]⟩
noncomputable abbrev Zy(ps:List PR)(H W:Nat):FV:=zh true true (Zg (ps.map (·.R)) H W)
noncomputable abbrev qr(ps:List PR)(H W:Nat):FV:=Qf false (Yc (ps.map (·.R)) (Za H W))
section
variable (n:Nat) {h0 hh:MH} {a a' w:Nat} {ps ws:List PR} {m:Int} {H W:Nat}
theorem QaK{u:MV}(A:Alike hh u ps m H W):run prog (n+4) "_law_is" [.f (Qz m (Zg (ps.map (·.R)) H W)),I m,.f (Zy ps H W)] hh=.ok (B true) hh:=by
 have g:=Q6 (ps.map (·.R)) H W A.H1 A.W1;have:=A.H9;have:=A.W9;exact Zcu n hh m _ (by rw[g.len];lia) (λr hr=>by rw[g.all r hr];lia)
theorem Y7{u:MV}(A:Alike hh u ps m H W)(b:Nat)(g:MH)(e:Zb g b=some (iM (Yc (ps.map (·.R)) (Za H W)))):run prog (n+2) "_law_same" [.ref b,.f (qr ps H W)] g=.ok (B true) g :=
 yaI n g b _ e (by rw[yq];have:=A.P.len;simp;lia)
theorem Ycq(A:Alike hh (.ref a) ps m H W)(ek:Zb hh a'=some (ps.map (·.v)))(rf:∀ p∈ps,∃ a,p.v=.ref a)(Pw:PL hh (.ref w) ws)(bad:∃ p0 r,ws=p0::r/\∃ p∈ws,¬ YaY p p0)
  (x0 x1 x2 x3 x4 z10 z11 z12 z13 z14:Option MV) (Q:MV->MH->Prop) (hQ:∀ t,Ret (zk h0 (B true) (hh++t)) Q) :
  Ret (Qc h0 (Qa prog (run prog (n+8)) (oneB.drop 22) [x0,x1,x2,x3,x4,some (I m),some (.ref a),some (.ref a'),some (.f (Zy ps H W)),some (.f (qr ps H W)),z10,z11,z12,z13,z14,some (.ref w)] hh)) Q:=by
 have P0:PL (hh++[.lst []]) (.ref hh.length) []:=Z7 (by simpa using qb hh [] []) (by simp) (by simp);have P1:PL (hh++[.lst []]) (.f (.tup [])) []:=by simpa using Zbc (hh:=hh++[.lst []]) (ps:=[]) (by simp) (by simp)
 have P2:=Pw.more [.lst []];have P3:PL (hh++[.lst []]) (yf (ws.map (·.v))) ws:=Zbc P2.ok Pw.len;have R0:=qE n _ P0 (.inl rfl);have R1:=qE n _ P1 (.inl rfl);have R2:=qE n _ P2 (.inr bad);have R3:=qE n _ P3 (.inr bad);have sw:Zb (hh++[.lst []]) w=some (ws.map (·.v)):=P2.seq;have A1:=A.more [.lst []];have S1:=qD (n+1) _ A1;have A2:=A1.more [.lst (iM (Yc (ps.map (·.R)) (Za H W)))];have e2:=qb (hh++[.lst []]) [] (iM (Yc (ps.map (·.R)) (Za H W)));have S2:=Y7 (n+6) A1 _ _ e2;have O2:=zQ (n+1) _ A2;have I2:=QaK (n+4) A2;obtain⟨as,ea⟩:=yb3 rf;have l1:Zb (hh++[.lst []]) a=some (ps.map (·.v)):=A1.P.seq;have l2:Zb (hh++[.lst []]) a'=some (ps.map (·.v)):=Zc [.lst []] ek;have hq:=hQ ([.lst []]++[.lst (iM (Yc (ps.map (·.R)) (Za H W)))]);rw[<- Ve] at hq;generalize hg2:hh++[.lst []]++[.lst (iM (Yc (ps.map (·.R)) (Za H W)))]=g2 at *;generalize hg1:hh++[Cell.lst []]=g1 at *;generalize Zy ps H W=rd at *;generalize qr ps H W=sd at *;generalize Qz m (Zg (ps.map (·.R)) H W)=pv at *;generalize ps.map (·.v)=X at *;generalize hY:ws.map (·.v)=Y at *;simp only[oneB,d__law_one,Vt];simp[qi,hg1,R0,R1,R2,R3,sw,YW,l1,l2,ea,S1,S2,O2,I2];exact hq
end
end MP
end
section
namespace MP
open PySem
structure Got (t:MH) (b c:Nat) (ps:List PR) (m:Int) (H W:Nat):Prop where
 pl:t[b]?=some (.lst (ps.map (·.v)))
 kl:t[c]?=some (.lst (ps.map (·.v)))
 ap:∀ p∈ps,AtP t p
 al:∀ p∈ps,p.m=m/\p.H=H/\p.W=W
 ne:ps≠[]
 len:ps.length<=6
 H1:1<=H
 W1:1<=W
 H9:H<=7
 W9:W<=7
 m1:1<=m
theorem Yaw{t:MH}{b:Nat}{x:Cell}(t':MH)(e:t[b]?=some x):(t++t')[b]?=some x:=by
 rw[va (Xa.mp e).1];exact e
theorem Got.more{t:MH}{b c:Nat}{ps:List PR}{m:Int}{H W:Nat}(G:Got t b c ps m H W)(t':MH):Got (t++t') b c ps m H W :=
 ⟨Yaw t' G.pl,Yaw t' G.kl,λp hp=>(G.ap p hp).more t',G.al,G.ne,G.len,G.H1,G.W1,G.H9,G.W9,G.m1⟩
theorem YG{t:MH}{b:Nat}{xs:List MV}(c:Cell)(e:t[b]?=some (.lst xs)):Zb (c::t) (b+1)=some xs:=by
 simp[Zb,e]
theorem Got.alike{t:MH}{b c:Nat}{ps:List PR}{m:Int}{H W:Nat}(G:Got t b c ps m H W)(x:Cell):Alike (x::t) (.ref (b+1)) ps m H W:=by
 have:=G.len;have:=G.H9;have:=G.W9;refine⟨Z7 (YG x G.pl) (λp hp=>(G.ap p hp).ok x) (by lia),G.ne,G.al,λp hp r hr v hv=>?_,G.H1,G.W1,by lia,by lia,G.m1⟩;have:=(G.ap p hp).d.sh r hr v hv;rw[(G.al p hp).1] at this;exact this
theorem AtP.swap{t t':MH}{X Y:List MV}{p:PR}(A:AtP (t++.lst X::t') p):AtP (t++.lst Y::t') p:=by
 obtain⟨⟨a,e,q⟩,d,h1,w1⟩:=A;refine⟨⟨a,e,?_⟩,d,h1,w1⟩;by_cases c:a<t.length
 ·rw[va c] at q ⊢;exact q
 ·rw[we (by lia)] at q ⊢;cases f:a-t.length with
  |zero=>rw[f] at q;simp[yac] at q
  |succ i=>rw[f] at q;simpa using q
theorem Ybr{ps:List PR}{m:Int}{H W:Nat}(al:∀ p∈ps,p.m=m/\p.H=H/\p.W=W)(ne:ps≠[])(o:PR)(no:¬(o.m=m/\o.H=H/\o.W=W))(s:Nat) :
  ∃ p0 r,ps.take s++o::ps.drop s=p0::r/\∃ p∈ps.take s++o::ps.drop s,¬ YaY p p0:=by
 cases e:ps.take s with
 |nil =>
  obtain⟨p,hp⟩:=List.exists_mem_of_ne_nil _ ne;refine⟨o,ps.drop s,rfl,p,?_,?_⟩
  ·rw[<- Vg s ps,e] at hp;simp at hp;simp[hp]
  ·rintro⟨q1,q2,q3⟩;obtain⟨a1,a2,a3⟩:=al p hp;exact no ⟨by rw[<- q1,a1],by rw[<- q2,a2],by rw[<- q3,a3]⟩
 |cons p0 r =>
  have hp:p0∈ps:=Wo (by rw[e];simp:p0∈ps.take s);refine⟨p0,r++o::ps.drop s,rfl,o,by simp,?_⟩;rintro⟨q1,q2,q3⟩;obtain⟨a1,a2,a3⟩:=al p0 hp;exact no ⟨by rw[q1,a1],by rw[q2,a2],by rw[q3,a3]⟩
theorem Qa7{α:Type}(f:α->MV)(xs:List α)(s:Nat)(hs:s<=xs.length):zao (xs.map f) none (some (s:Int))=(xs.take s).map f:=by
 unfold zao ya7;simp only[Wd];rw[if_neg (by lia)];simp[uz hs,List.map_take]
theorem zar{α:Type}(f:α->MV)(xs:List α)(s:Nat)(hs:s<=xs.length):zao (xs.map f) (some (s:Int)) none=(xs.drop s).map f:=by
 unfold zao ya7;simp only[Wd];rw[if_neg (by lia)];simp[uz hs,List.map_drop];rw[Xn (by simp)]
theorem qz(hh:MH)(a:Nat)(xs:List MV)(lo hi:Option Int)(e:Zb hh a=some xs):yab false (.ref a) lo hi hh=.ok (.ref hh.length) (hh++[.lst (zao xs lo hi)]):=by
 have:zc hh (.ref a)=some xs:=e;simp only[yab,ZD,this,zj,YA]
theorem ZaG(hh:MH)(a b:Nat)(xs ys:List MV)(e:Zb hh a=some xs)(e':Zb hh b=some ys)(l:xs.length+ys.length<=1000):yh false .add (.ref a) (.ref b) hh=.ok (.ref hh.length) (hh++[.lst (xs++ys)]):=by
 have q1:listOf hh (.ref a)=some xs:=e;have q2:listOf hh (.ref b)=some ys:=e';have l2:xs.length+ys.length<=sizeL:=xf l (by decide);simp only[yh,Yd,ZD,q1,q2,zj,if_pos l2,YA]
end MP
end
section
namespace MP
open PySem
section
variable (n:Nat) {h0 hh:MH} {a a' b c w:Nat} {ps ws O:List PR} {m:Int} {H W:Nat}
theorem qch(A:Alike hh (.ref a) ps m H W)(ek:Zb hh a'=some (ps.map (·.v)))(rf:∀ p∈ps,∃ a,p.v=.ref a)(lp:ps.length<=10)(eo:Zb hh w=some (O.map (·.v)))(hO:∀ o∈O,OkR hh o/\¬(o.m=m/\o.H=H/\o.W=W))(lO:0<O.length)
  (mm:Int) (s:Nat) (hs:s<=ps.length)
  (x0 x1 x3 x4 z10 z11 z12 z15:Option MV) (Q:MV->MH->Prop) (hQ:∀ t,Ret (zk h0 (B true) (hh++t)) Q) :
  Ret (Qc h0 (Qa prog (run prog (n+8)) (oneB.drop 21) [x0,x1,some (I mm),x3,x4,some (I m),some (.ref a),some (.ref a'),some (.f (Zy ps H W)),some (.f (qr ps H W)),z10,z11,z12,some (.ref w),some (I (s:Int)),z15] hh)) Q:=by
 have hi:=mod_lt (mm/3) O.length (by lia);obtain⟨i,ei⟩:=xh hi.1;have hiO:i<O.length:=by lia
 obtain⟨o,ho⟩:∃ o,O[i]?=some o:=⟨_,Wa hiO⟩;have hom:=Uc ho;have ao:atM (O.map (·.v)) ((mm/3)%(O.length:Int))=some o.v:=by
  rw[ei,Yh,xc,ho];rfl
 have d3:zU mm 3:=⟨by decide,.inl (by decide)⟩;have m3:∀ hh,yh false .mod (I (mm/3)) (I (O.length:Int)) hh=.ok (I (mm/3%(O.length:Int))) hh:=λhh=>by rw[yp _ _ _ (by lia)]
 have lO':(O.map (·.v)).length=O.length:=by simp
 have ea:Zb hh a=some (ps.map (·.v)):=A.P.seq;have s1:=qz hh a _ none (some (s:Int)) ea;rw[Qa7 _ _ _ hs] at s1;obtain⟨X1,hX1⟩:∃ X,X=(ps.take s).map (·.v):=⟨_,rfl⟩;obtain⟨X2,hX2⟩:∃ X,X=(ps.drop s).map (·.v):=⟨_,rfl⟩;have lX1:X1.length<=10:=by rw[hX1];simp;lia
 have lX2:X2.length<=10:=by rw[hX2];simp;lia
 rw[<- hX1] at s1;have eo1:=Zc [.lst X1] eo;have c1:=Zc [.lst [o.v]] (qb hh [] X1);have c2:=qb (hh++[.lst X1]) [] [o.v];have ad1:=ZaG (hh++[.lst X1]++[.lst [o.v]]) _ _ _ _ c1 c2 (by simp;lia);have ea3:=Zc [.lst (X1++[o.v])] (Zc [.lst [o.v]] (Zc [.lst X1] ea));have s2:=qz _ a _ (some (s:Int)) none ea3;rw[zar _ _ _ hs,<- hX2] at s2;have c3:=Zc [.lst X2] (qb (hh++[.lst X1]++[.lst [o.v]]) [] (X1++[o.v]));have c4:=qb (hh++[.lst X1]++[.lst [o.v]]++[.lst (X1++[o.v])]) [] X2;have ad2:=ZaG (hh++[.lst X1]++[.lst [o.v]]++[.lst (X1++[o.v])]++[.lst X2]) _ _ _ _ c3 c4 (by simp;lia);have e21:oneB.drop 21=(oneB.drop 21).take 1++oneB.drop 22:=by rw[show(22:Nat)=21+1 from rfl,<- Vq,Vg]
 have ew:=qb (hh++[.lst X1]++[.lst [o.v]]++[.lst (X1++[o.v])]++[.lst X2]) [] (X1++[o.v]++X2);have eY:X1++[o.v]++X2=(ps.take s++o::ps.drop s).map (·.v):=by rw[hX1,hX2];simp
 have hap:hh++[.lst X1]++[.lst [o.v]]++[.lst (X1++[o.v])]++[.lst X2]++[.lst (X1++[o.v]++X2)]=hh++([.lst X1]++[.lst [o.v]]++[.lst (X1++[o.v])]++[.lst X2]++[.lst (X1++[o.v]++X2)]):=by simp only[Ve]
 have T:=λA ek Pw bad z14=>Ycq (h0:=h0) (hh:=hh++[.lst X1]++[.lst [o.v]]++[.lst (X1++[o.v])]++[.lst X2]++[.lst (X1++[o.v]++X2)]) (w:=((hh++[.lst X1]++[.lst [o.v]]++[.lst (X1++[o.v])]++[.lst X2]:MH)).length) (ws:=ps.take s++o::ps.drop s) (a:=a) (a':=a') (ps:=ps) (m:=m) (H:=H) (W:=W) n A ek rf Pw bad x0 x1 (some (I mm)) x3 x4 z10 z11 z12 (some (.ref w)) z14 Q (λt=>by rw[hap,Ve];exact hQ _);have T1:=T (by rw[hap];exact A.more _) (by rw[hap];exact Zc _ ek) (Z7 (by rw[<- eY];exact ew) (λp hp=>by
   have okm:∀ p,OkR hh p->OkR (hh++[.lst X1]++[.lst [o.v]]++[.lst (X1++[o.v])]++[.lst X2]++[.lst (X1++[o.v]++X2)]) p:=λp q=>by rw[hap];exact⟨q.1.more _,q.2⟩
   simp only[Xf,ua] at hp
   rcases hp with hp|rfl|hp
   ·exact okm _ (A.P.ok p (Wo hp))
   ·exact okm _ (hO _ hom).1
   ·exact okm _ (A.P.ok p (Ur hp))) (by simp;lia)) (Ybr A.al A.ne o (hO _ hom).2 s)
 clear T;rw[e21,Zp];generalize hg5:hh++[.lst X1]++[.lst [o.v]]++[.lst (X1++[o.v])]++[.lst X2]++[.lst (X1++[o.v]++X2)]=g5 at *;generalize hg4:hh++[.lst X1]++[.lst [o.v]]++[.lst (X1++[o.v])]++[.lst X2]=g4 at *;generalize hg3:hh++[.lst X1]++[.lst [o.v]]++[.lst (X1++[o.v])]=g3 at *;generalize hg2:hh++[.lst X1]++[.lst [o.v]]=g2 at *;generalize hg1:hh++[.lst X1]=g1 at *;generalize mm/3%(O.length:Int)=ix at *;have l1:g1.length=hh.length+1:=by rw[<- hg1];simp
 generalize oneB.drop 22=BB at T1 ⊢;simp only[oneB,d__law_one,Vt,xv];generalize ps.map (·.v)=X at *;generalize hOm:O.map (·.v)=OM at *;simp[s1,eo1,qt,d3,lO',m3,ao,hg2,ad1,s2,ad2];exact T1 (some (I (s:Int)))
end
end MP
end
section
namespace MP
open PySem
section
variable (n:Nat) {h0:MH} {b c:Nat} {ps:List PR} {m:Int} {H W:Nat}
theorem Got.refs{t:MH}(G:Got t b c ps m H W):∀ p∈ps,∃ a,p.v=.ref a:=λp hp=>by
 obtain⟨⟨a,e,_⟩,_⟩:=G.ap p hp;exact⟨_,e⟩
theorem Ybh{T t':MH}(O:List PR)(G:Got T b c ps m H W)(hO:∀ o∈O,AtP (T++.lst (O.map (·.v))::t') o/\¬(o.m=m/\o.H=H/\o.W=W))(lO:0<O.length)(k:Int)(mm:Int)
  (x0 x1 x3 x4 z10 z11 z12 z15:Option MV) (Q:MV->MH->Prop) (hQ:∀ g,Ret (zk h0 (B true) (atC k::g)) Q) :
  Ret (Qc h0 (Qa prog (run prog (n+8)) (oneB.drop 21) [x0,x1,some (I mm),x3,x4,some (I m),some (.ref (b+1)),some (.ref (c+1)),some (.f (Zy ps H W)),some (.f (qr ps H W)),z10,z11,z12,some (.ref (T.length+1)),some (I (mm/40000%((ps.length:Int)+1))),z15] (atC k::(T++.lst (O.map (·.v))::t')))) Q:=by
 have G':=G.more (.lst (O.map (·.v))::t');have hi:=mod_lt (mm/40000) ((ps.length:Int)+1) (by lia);obtain⟨s,es⟩:=xh hi.1;rw[es];refine qch n (G'.alike (atC k)) (YG _ G'.kl) G.refs (by have:=G.len;lia) ?_ (λo ho=>⟨(hO o ho).1.ok _,(hO o ho).2⟩) lO mm s (by lia) x0 x1 x3 x4 z10 z11 z12 z15 Q (λt=>hQ _);exact YG _ (by simp)
theorem qcb{t:MH}(G:Got t b c ps m H W)(ns:List Int)(k:Int)(mm:Int)(hk:0<=k)(hk2:k<900000)
  (z10 z11 z12 z13 z14 z15:Option MV) (Q:MV->MH->Prop) (hQ:∀ g k',k<=k'->k'<=k+300->Ret (zk h0 (B true) (atC k'::g)) Q) :
  Ret (Qc h0 (Qa prog (run prog (n+8)) (oneB.drop 17) [some (.f (.scr ns)),some (.ref 0),some (I mm),some (I (H:Int)),some (I (W:Int)),some (I m),some (.ref (b+1)),some (.ref (c+1)),some (.f (Zy ps H W)),some (.f (qr ps H W)),z10,z11,z12,z13,z14,z15] (atC k::t))) Q:=by
 have H1:=G.H1;have W1:=G.W1;have H9:=G.H9;have W9:=G.W9;have m1:=G.m1;have q1:H*W<=7*7:=xo H9 W9;have q2:(H+1)*W<=8*7:=xo (by lia) W9;have q3:H*(W+1)<=7*8:=xo H9 (by lia);have q4:W*H<=7*7:=xo W9 H9;obtain⟨v1,_,e1,R1,k1,t1,P1,a1,b1,rfl⟩:=QH (n+5) t ns k (m+1) H W hk (by lia) (by lia) H1 W1 (by lia) (by lia);obtain⟨v2,_,e2,R2,k2,t2,P2,a2,b2,rfl⟩:=QH (n+5) (t++t1) ns k1 m (H+1) W (by lia) (by lia) (by lia) (by lia) W1 (by lia) (by lia);have P1':=P1.more t2;have G':=(G.more t1).more t2;generalize hT:t++t1++t2=T at *;obtain⟨v3,_,e3,R3,k3,t3,P3,a3,b3,rfl⟩:=QH (n+5) (T++[.lst [v1,v2]]) ns k2 m H (W+1) (by lia) (by lia) (by lia) H1 (by lia) (by lia) (by lia);have ba:∀(i:Int) hh,yh false .add (I i) (I 1) hh=.ok (I (i+1)) hh:=λi hh=>zw ..;have cH:((H+1:Nat):Int)=(H:Int)+1:=by lia
 have cW:((W+1:Nat):Int)=(W:Int)+1:=by lia
 rw[cH] at e2;rw[cW] at e3;have cl3:=qb (atC k3::T) t3 [v1,v2];have cl2:=qb (atC k2::T) [] [v1,v2];have cl3b:=qb (atC k3::T) t3 [v1,v2,v3];have st3:=Qg (atC k3::T) t3 [v1,v2] [v1,v2,v3];have ap3:T++[.lst [v1,v2]]++t3=T++.lst [v1,v2]::t3:=by simp
 rw[ap3] at e3 P3;simp only[Xr,Xd] at cl2 cl3 cl3b st3;have d4:∀ x,zU x 40000:=λx=>⟨by decide,.inl (by decide)⟩;have G3:=G'.more (.lst [v1,v2,v3]::t3);have ea:∀ k',Zb (atC k'::(T++.lst [v1,v2,v3]::t3)) (b+1)=some (ps.map (·.v)):=λk'=>YG _ G3.pl;have ln:(ps.map (·.v)).length=ps.length:=by simp
 have bm:∀ hh,yh false .mod (I (mm/40000)) (I ((ps.length:Int)+1)) hh=.ok (I (mm/40000%((ps.length:Int)+1))) hh:=λhh=>yp _ _ _ (by lia);have e17:oneB.drop 17=(oneB.drop 17).take 4++oneB.drop 21:=by rw[show(21:Nat)=17+4 from rfl,<- Vq,Vg]
 have P1:AtP (T++.lst [v1,v2,v3]::t3) ⟨v1,m+1,H,W,R1⟩:=P1'.more _;have P2:AtP (T++.lst [v1,v2,v3]::t3) ⟨v2,m,H+1,W,R2⟩:=P2.more _;have P3:AtP (T++.lst [v1,v2,v3]::t3) ⟨v3,m,H,W+1,R3⟩:=P3.swap;rw[e17,Zp];by_cases hw:H=W
 ·have T3 := Ybh (h0 := h0) (T := T) (t' := t3) n [⟨v1, m+1, H, W, R1⟩, ⟨v2, m, H+1, W, R2⟩, ⟨v3, m, H, W+1, R3⟩] G' (λo ho => by
    simp only[ua,uc,or_false] at ho
    rcases ho with rfl|rfl|rfl
    ·exact⟨P1,λq=>by have:m+1=m:=q.1;lia⟩
    ·exact⟨P2,λq=>by have:H+1=H:=q.2.1;lia⟩
    ·exact⟨P3,λq=>by have:W+1=W:=q.2.2;lia⟩) (by simp) k3 mm (some (.f (.scr ns))) (some (.ref 0)) (some (I (H:Int))) (some (I (W:Int))) z10 z11 z12 z15 Q (λg=>hQ g k3 (by lia) (by lia))
  simp only[Xb,Uk] at T3;have cn:((H:Int)=(W:Int))=True:=eq_true (by lia);generalize oneB.drop 21=BB at T3 ⊢;simp only[oneB,d__law_one,Vt,xv];generalize (H:Int)=IH at *;generalize (W:Int)=IW at *;generalize hX:ps.map (·.v)=X at *;simp[e1,e2,ba,hT,e3,cl2,cl3,st3,Yg,qt,d4,ea,ln,bm,cn];exact T3
 ·obtain⟨v4,_,e4,R4,k4,t4,P4,a4,b4,rfl⟩:=QH (n+5) (T++.lst [v1,v2,v3]::t3) ns k3 m W H (by lia) (by lia) (by lia) W1 H1 (by lia) (by lia);have ap4:T++.lst [v1,v2,v3]::t3++t4=T++.lst [v1,v2,v3]::(t3++t4):=by simp
  have P1':=P1.more t4;have P2':=P2.more t4;have P3':=P3.more t4;rw[ap4] at e4 P4 P1' P2' P3';have cl4:=qb (atC k4::T) (t3++t4) [v1,v2,v3];have st4:=Qg (atC k4::T) (t3++t4) [v1,v2,v3] [v1,v2,v3,v4];simp only[Xr,Xd] at cl4 st4;have T3:=Ybh (h0:=h0) (T:=T) (t':=t3++t4) n [⟨v1,m+1,H,W,R1⟩,⟨v2,m,H+1,W,R2⟩,⟨v3,m,H,W+1,R3⟩,⟨v4,m,W,H,R4⟩] G' (λo ho=>by
    simp only[ua,uc,or_false] at ho
    rcases ho with rfl|rfl|rfl|rfl
    ·exact⟨P1'.swap,λq=>by have:m+1=m:=q.1;lia⟩
    ·exact⟨P2'.swap,λq=>by have:H+1=H:=q.2.1;lia⟩
    ·exact⟨P3'.swap,λq=>by have:W+1=W:=q.2.2;lia⟩
    ·exact⟨P4.swap,λq=>hw q.2.2⟩) (by simp) k4 mm (some (.f (.scr ns))) (some (.ref 0)) (some (I (H:Int))) (some (I (W:Int))) z10 z11 z12 z15 Q (λg=>hQ g k4 (by lia) (by lia))
  simp only[Xb,Uk] at T3;have cn:((H:Int)=(W:Int))=False:=eq_false (by lia);generalize oneB.drop 21=BB at T3 ⊢;simp only[oneB,d__law_one,Vt,xv];generalize (H:Int)=IH at *;generalize (W:Int)=IW at *;generalize hX:ps.map (·.v)=X at *;simp[e1,e2,ba,hT,e3,cl2,cl3,cl3b,st3,Yg,qt,d4,ea,ln,bm,cn,e4,cl4,st4];exact T3
end
end MP
end
section
namespace MP
open PySem
theorem Alike.part{hh:MH}{u u':MV}{ps qs:List PR}{m:Int}{H W:Nat}(A:Alike hh u ps m H W)(P:PL hh u' qs)(ne:qs≠[])(sub:∀ p∈qs,p∈ps):Alike hh u' qs m H W :=
 ⟨P,ne,λp hp=>A.al p (sub p hp),λp hp=>A.sh p (sub p hp),A.H1,A.W1,A.H9,A.W9,A.m1⟩
theorem pv_f(hh:MH)(m:Int)(R:List (List Int)):PV hh (.f (Qz m R)) m R:=⟨by simp[Qz,QY],by simp[Qz,QY]⟩
noncomputable def prF(m:Int)(H W:Nat)(Rs:List (List (List Int))):PR:=⟨.f (Qz m (Zg Rs H W)),m,H,W,Zg Rs H W⟩
theorem ov_in{ps:List PR}{m:Int}(m0:0<=m)(sh:∀ p∈ps,∀ r∈p.R,∀ x∈r,0<=x/\x<=m)(i j:Nat):0<=ovV (ps.map (·.R)) i j/\ovV (ps.map (·.R)) i j<=m:=by
 unfold ovV;split
 ·next q =>
  simp only[Wd] at q;have:(ps.map (·.R)).getD (Qb (ps.map (·.R)) i j) []=ps[Qb (ps.map (·.R)) i j].R:=by simp[uh,Wa q]
  rw[this];exact YbB m0 (sh _ (Wh q)) i j
 ·exact⟨Wx 0,m0⟩
theorem zaU{hh:MH}{u u':MV}{ps:List PR}{m:Int}{H W:Nat}(A:Alike hh u ps m H W)(Qs:List (List PR))(hQs:∀ q∈Qs,∀ p∈q,p∈ps)(ne:Qs≠[])(len:Qs.length<=100)(P:PL hh u' (Qs.map λq=>prF m H W (q.map (·.R)))):Alike hh u' (Qs.map λq=>prF m H W (q.map (·.R))) m H W:=by
 refine⟨P,by simpa using ne,λp hp=>?_,λp hp r hr x hx=>?_,A.H1,A.W1,A.H9,A.W9,A.m1⟩
 ·obtain⟨q,hq,rfl⟩:=vf.mp hp;exact⟨rfl,rfl,rfl⟩
 ·obtain⟨q,hq,rfl⟩:=vf.mp hp;have m1:=A.m1;simp only[prF,Zg,vf] at hr;obtain⟨i,_,rfl⟩:=hr;obtain⟨j,_,rfl⟩:=vf.mp hx;exact ov_in (by lia) (λp hp=>A.sh p (hQs q hq p hp)) i j
theorem okF(hh:MH)(m:Int)(H W:Nat)(Rs:List (List (List Int)))(h1:1<=H)(w1:1<=W):OkR hh (prF m H W Rs):=⟨pv_f _ _ _,Q6 _ _ _ h1 w1⟩
section
variable (n:Nat) {h0 hh:MH} {a:Nat} {ps:List PR} {m:Int} {H W:Nat}
theorem turned(A:Alike hh (.ref a) ps m H W)(cut:Nat)(hc:cut<=ps.length)(lp:ps.length<=10)(σ:MSt)(s6:σ[6]?=some (some (.ref a)))(s11:σ[11]?=some (some (I (cut:Int))))(s9:σ[9]?=some (some (.f (qr ps H W)))) :
  ∃ t,qa prog (run prog (n+8)) (.cmp .ne (.sub (.call "seen_of" [.bin false .add (.slice false (.var 6) (some (.var 11)) none) (.slice false (.var 6) none (some (.var 11)))]) (.neg (.cI 1))) (.sub (.var 9) (.neg (.cI 1)))) σ hh=.ok (B false) (hh++t):=by
 have ea:Zb hh a=some (ps.map (·.v)):=A.P.seq;obtain⟨X1,hX1⟩:∃ X,X=(ps.take cut).map (·.v):=⟨_,rfl⟩;obtain⟨X2,hX2⟩:∃ X,X=(ps.drop cut).map (·.v):=⟨_,rfl⟩;have lX:X2.length+X1.length<=1000:=by rw[hX1,hX2];simp;lia
 have s2:=qz hh a _ (some (cut:Int)) none ea;rw[zar _ _ _ hc,<- hX2] at s2;have ea1:=Zc [.lst X2] ea;have s1:=qz _ a _ none (some (cut:Int)) ea1;rw[Qa7 _ _ _ hc,<- hX1] at s1;have c2:=Zc [.lst X1] (qb hh [] X2);have c1:=qb (hh++[.lst X2]) [] X1;have ad:=ZaG (hh++[.lst X2]++[.lst X1]) _ _ _ _ c2 c1 lX;have eY:X2++X1=(ps.drop cut++ps.take cut).map (·.v):=by rw[hX1,hX2];simp
 have cY:=qb (hh++[.lst X2]++[.lst X1]) [] (X2++X1);have hap:hh++[.lst X2]++[.lst X1]++[.lst (X2++X1)]=hh++([.lst X2]++[.lst X1]++[.lst (X2++X1)]):=by simp only[Ve]
 have A1:Alike (hh++[.lst X2]++[.lst X1]++[.lst (X2++X1)]) (.ref a) ps m H W:=by rw[hap];exact A.more _
 have mem:∀ p∈ps.drop cut++ps.take cut,p∈ps:=λp hp=>by
  rcases Xf.mp hp with hp|hp
  ·exact Ur hp
  ·exact Wo hp
 have lnY:(ps.drop cut++ps.take cut).length=ps.length:=by simp;lia
 have nY:ps.drop cut++ps.take cut≠[]:=λq=>A.ne (by have:=congrArg Us q;rw[lnY] at this;exact Up.mp this);have A2:=A1.part (Z7 (ps:=ps.drop cut++ps.take cut) (by rw[<- eY];exact cY) (λp hp=>A1.P.ok p (mem p hp)) (by lia)) nY mem;have S:=qD (n+1) _ A2;have paper:YY ((ps.drop cut++ps.take cut).map (·.R)) H W=YY (ps.map (·.R)) H W:=by
  rw[Xi,Ya1,<- Xi,Vg]
 have l1:=qbi _ _ _ (yq ((ps.drop cut++ps.take cut).map (·.R)) (Za H W)) (yaB _ H W);rw[paper] at l1;have l2:=qbi _ _ _ (yq (ps.map (·.R)) (Za H W)) (yaB _ H W);have q9:∀ g,zc g (.f (qr ps H W))=some (iM (Yc (ps.map (·.R)) (Za H W))):=λg=>by simp[qr,Qf,sq]
 have cS:=qb (hh++[.lst X2]++[.lst X1]++[.lst (X2++X1)]) [] (iM (Yc ((ps.drop cut++ps.take cut).map (·.R)) (Za H W)));refine⟨[.lst X2]++[.lst X1]++[.lst (X2++X1)]++[.lst (iM (Yc ((ps.drop cut++ps.take cut).map (·.R)) (Za H W)))],?_⟩;have hap2:hh++([.lst X2]++[.lst X1]++[.lst (X2++X1)]++[.lst (iM (Yc ((ps.drop cut++ps.take cut).map (·.R)) (Za H W)))])=hh++[.lst X2]++[.lst X1]++[.lst (X2++X1)]++[.lst (iM (Yc ((ps.drop cut++ps.take cut).map (·.R)) (Za H W)))]:=by simp only[Ve]
 rw[hap2];generalize hg4:hh++[.lst X2]++[.lst X1]++[.lst (X2++X1)]++[.lst (iM (Yc ((ps.drop cut++ps.take cut).map (·.R)) (Za H W)))]=g4 at *;generalize iM (Yc ((ps.drop cut++ps.take cut).map (·.R)) (Za H W))=M1 at *;generalize iM (Yc (ps.map (·.R)) (Za H W))=M2 at *;generalize hg3:hh++[.lst X2]++[.lst X1]++[.lst (X2++X1)]=g3 at *;generalize hg2:hh++[.lst X2]++[.lst X1]=g2 at *;generalize hg1:hh++[.lst X2]=g1 at *;generalize qr ps H W=sd at *;generalize ps.map (·.v)=X at *;simp[s6,s9,s11,s2,s1,ad,S,cS,l1,q9,l2]
end
end MP
end
section
namespace MP
open PySem
section
variable (n:Nat) {h0 hh:MH} {a:Nat} {ps:List PR} {m:Int} {H W:Nat}
theorem Zay{g:MH}{u:MV}(A:Alike g u ps m H W)(qs:List PR)(b:Nat)(e:Zb g b=some (qs.map (·.v)))(ne:qs≠[])(sub:∀ p∈qs,p∈ps)(l:qs.length<=10):run prog (n+8) "laid_over" [.ref b] g=.ok (prF m H W (qs.map (·.R))).v g :=
 zQ (n+1) g (A.part (Z7 e (λp hp=>A.P.ok p (sub p hp)) (by lia)) ne sub)
theorem qa6{g:MH}{u:MV}(A:Alike g u ps m H W)(Qs:List (List PR))(b:Nat)(e:Zb g b=some (Qs.map λq=>(prF m H W (q.map (·.R))).v))(ne:Qs≠[])(sub:∀ q∈Qs,∀ p∈q,p∈ps)(l:Qs.length<=10)(eq:Zg (Qs.map λq=>Zg (q.map (·.R)) H W) H W=Zg (ps.map (·.R)) H W) :
  run prog (n+8) "laid_over" [.ref b] g=.ok (.f (Qz m (Zg (ps.map (·.R)) H W))) g:=by
 have P:PL g (.ref b) (Qs.map λq=>prF m H W (q.map (·.R))):=by
  refine Z7 ?_ (λp hp=>?_) (by simp;lia)
  ·rw[e];simp[Wf]
  ·obtain⟨q,hq,rfl⟩:=vf.mp hp;exact okF _ _ _ _ _ A.H1 A.W1
 have:=zQ (n+1) g (zaU A Qs sub ne (by lia) P);rw[vh] at this;have eq':Zg (Qs.map ((λx:PR=>x.R)∘λq=>prF m H W (q.map (·.R)))) H W=Zg (ps.map (·.R)) H W:=eq;rw[eq'] at this;exact this
theorem zbP(A:Alike hh (.ref a) ps m H W)(lp:ps.length<=10)(cut:Nat)(hc:cut<=ps.length)(b:Nat)(Qs:List (List PR))(e:Zb hh b=some (Qs.map λq=>(prF m H W (q.map (·.R))).v))(ne:Qs≠[])(sub:∀ q∈Qs,∀ p∈q,p∈ps)(l:Qs.length<=10)(eq:Zg (Qs.map λq=>Zg (q.map (·.R)) H W) H W=Zg (ps.map (·.R)) H W)
  (x0 x1 x2 x3 x4 x7 z10 z13 z14 z15:Option MV) (Q:MV->MH->Prop)
  (fin:∀ t' z11 z12,Ret (Qc h0 (Qa prog (run prog (n+8)) (oneB.drop 17) [x0,x1,x2,x3,x4,some (I m),some (.ref a),x7,some (.f (Zy ps H W)),some (.f (qr ps H W)),z10,z11,z12,z13,z14,z15] (hh++t'))) Q) :
  Ret (Qc h0 (Qa prog (run prog (n+8)) (oneB.drop 16) [x0,x1,x2,x3,x4,some (I m),some (.ref a),x7,some (.f (Zy ps H W)),some (.f (qr ps H W)),z10,some (I (cut:Int)),some (.ref b),z13,z14,z15] hh)) Q:=by
 have e16:oneB.drop 16=(oneB.drop 16).take 1++oneB.drop 17:=by rw[show(17:Nat)=16+1 from rfl,<- Vq,Vg]
 have O:=qa6 n A Qs b e ne sub l eq;have I2:=QaK (n+4) A;obtain⟨t,T⟩:=turned n A cut hc lp [x0,x1,x2,x3,x4,some (I m),some (.ref a),x7,some (.f (Zy ps H W)),some (.f (qr ps H W)),z10,some (I (cut:Int)),some (.ref b),z13,z14,z15] rfl rfl rfl;have F:=fin t (some (I (cut:Int))) (some (.ref b));rw[e16,Zp];generalize Zy ps H W=rd at *;generalize qr ps H W=sd at *;generalize Qz m (Zg (ps.map (·.R)) H W)=pv at *;have e1:(oneB.drop 16).take 1=[.ite (.or [.not (.call "_law_is" [.call "laid_over" [.var 12],.var 5,.var 8]),.cmp .ne (.sub (.call "seen_of" [.bin false .add (.slice false (.var 6) (some (.var 11)) none) (.slice false (.var 6) none (some (.var 11)))]) (.neg (.cI 1))) (.sub (.var 9) (.neg (.cI 1)))]) [.ret (.cB false)] []]:=rfl;rw[e1];generalize (ME.cmp .ne (.sub (.call "seen_of" [.bin false .add (.slice false (.var 6) (some (.var 11)) none) (.slice false (.var 6) none (some (.var 11)))]) (.neg (.cI 1))) (.sub (.var 9) (.neg (.cI 1))))=E at *;simp[O,I2,T];exact F
theorem zcl(A:Alike hh (.ref a) ps m H W)(lp:ps.length<=10)(mm:Int)
  (x0 x1 x3 x4 x7 z10 z11 z12 z13 z14 z15:Option MV) (Q:MV->MH->Prop)
  (fin:∀ t' z11 z12,Ret (Qc h0 (Qa prog (run prog (n+8)) (oneB.drop 17) [x0,x1,some (I mm),x3,x4,some (I m),some (.ref a),x7,some (.f (Zy ps H W)),some (.f (qr ps H W)),z10,z11,z12,z13,z14,z15] (hh++t'))) Q) :
  Ret (Qc h0 (Qa prog (run prog (n+8)) (oneB.drop 13) [x0,x1,some (I mm),x3,x4,some (I m),some (.ref a),x7,some (.f (Zy ps H W)),some (.f (qr ps H W)),z10,z11,z12,z13,z14,z15] hh)) Q:=by
 have e13:oneB.drop 13=(oneB.drop 13).take 3++oneB.drop 16:=by rw[show(16:Nat)=13+3 from rfl,<- Vq,Vg]
 have lp1:0<ps.length:=vm.mpr A.ne;have hi:=mod_lt (mm/5000) ps.length (by lia);obtain⟨c0,ec⟩:=xh hi.1;have hc:c0+1<=ps.length:=by lia
 have d5:zU mm 5000:=⟨by decide,.inl (by decide)⟩;have bm:∀ hh,yh false .mod (I (mm/5000)) (I (ps.length:Int)) hh=.ok (I (c0:Int)) hh:=λhh=>by rw[yp _ _ _ (by lia),ec]
 have ba:∀ hh,yh false .add (I 1) (I (c0:Int)) hh=.ok (I ((c0+1:Nat):Int)) hh:=λhh=>by rw[zw];congr 3;lia
 have ea:Zb hh a=some (ps.map (·.v)):=A.P.seq;have ln:(ps.map (·.v)).length=ps.length:=by simp
 have s1:=qz hh a _ none (some ((c0+1:Nat):Int)) ea;rw[Qa7 _ _ _ hc] at s1;obtain⟨X1,hX1⟩:∃ X,X=(ps.take (c0+1)).map (·.v):=⟨_,rfl⟩;rw[<- hX1] at s1;have c1:=qb hh [] X1;have sub1:∀ p∈ps.take (c0+1),p∈ps:=λp hp=>Wo hp;have ne1:ps.take (c0+1)≠[]:=λq=>by have:=congrArg Us q;simp at this;exact A.ne this
 have O1:=Zay n (A.more [.lst X1]) (ps.take (c0+1)) hh.length (by rw[<- hX1];exact c1) ne1 sub1 (by simp;lia);rw[e13,Zp];obtain⟨p1,hp1⟩:∃ p,p=(prF m H W ((ps.take (c0+1)).map (·.R))).v:=⟨_,rfl⟩;rw[<- hp1] at O1;have ea2:=Zc [.lst [p1]] (Zc [.lst X1] ea);by_cases cc:c0+1<ps.length
 ·obtain⟨X2,hX2⟩:∃ X,X=(ps.drop (c0+1)).map (·.v):=⟨_,rfl⟩;have s2:=qz _ a _ (some ((c0+1:Nat):Int)) none ea2;rw[zar _ _ _ hc,<- hX2] at s2;have c2:=qb (hh++[.lst X1]++[.lst [p1]]) [] X2;have sub2:∀ p∈ps.drop (c0+1),p∈ps:=λp hp=>Ur hp;have ne2:ps.drop (c0+1)≠[]:=λq=>by have:=congrArg Us q;simp at this;lia
  have O2:=Zay n (((A.more [.lst X1]).more [.lst [p1]]).more [.lst X2]) (ps.drop (c0+1)) _ (by rw[<- hX2];exact c2) ne2 sub2 (by simp;lia);obtain⟨p2,hp2⟩:∃ p,p=(prF m H W ((ps.drop (c0+1)).map (·.R))).v:=⟨_,rfl⟩;rw[<- hp2] at O2;have cp:=qb (hh++[.lst X1]) [] [p1];have cp2:=Zc [.lst X2] cp;have sp:=Qg (hh++[.lst X1]) [.lst X2] [p1] [p1,p2];have apx:hh++[.lst X1]++[.lst [p1]]++[.lst X2]=hh++[.lst X1]++.lst [p1]::[.lst X2]:=by simp
  rw[<- apx] at sp;have hap:hh++[.lst X1]++.lst [p1,p2]::[.lst X2]=hh++([.lst X1]++.lst [p1,p2]::[.lst X2]):=by simp only[Ve]
  have cq:=qb (hh++[.lst X1]) [.lst X2] [p1,p2];have T:=zbP (h0:=h0) (hh:=hh++[.lst X1]++.lst [p1,p2]::[.lst X2]) n (by rw[hap];exact A.more _) lp (c0+1) hc ((hh++[.lst X1]:MH)).length [ps.take (c0+1),ps.drop (c0+1)] (by rw[cq,hp1,hp2];rfl) (by simp) (λq hq=>by
    simp only[ua,uc,or_false] at hq
    rcases hq with rfl|rfl
    ·exact sub1
    ·exact sub2) (by simp) (by simp only[Xb,Uk];rw[ZbR,<- Xi,Vg]) x0 x1 (some (I mm)) x3 x4 x7 z10 z13 z14 z15 Q (λt' z11 z12=>by rw[hap,Ve];exact fin _ z11 z12)
  generalize Zy ps H W=rd at *;generalize qr ps H W=sd at *;have cm:(((c0+1:Nat):Int)<(ps.length:Int))=True:=eq_true (by lia);generalize ((c0+1:Nat):Int)=CI at *;generalize hg4:hh++[.lst X1]++.lst [p1,p2]::[.lst X2]=g4 at *;generalize hg3:hh++[.lst X1]++[.lst [p1]]++[.lst X2]=g3 at *;generalize hg2:hh++[.lst X1]++[.lst [p1]]=g2 at *;generalize hg1:hh++[.lst X1]=g1 at *;generalize ps.map (·.v)=X at *;generalize oneB.drop 16=BB at T ⊢;simp only[oneB,d__law_one,Vt,xv];simp[ea,ln,qt,d5,bm,ba,s1,O1,hg2,cp,ea2,cm,s2,O2,cp2,sp,Yg];exact T
 ·have ce:c0+1=ps.length:=by lia
  have hap:hh++[.lst X1]++[.lst [p1]]=hh++([.lst X1]++[.lst [p1]]):=by simp only[Ve]
  have cp:=qb (hh++[.lst X1]) [] [p1];have T:=zbP (h0:=h0) (hh:=hh++[.lst X1]++[.lst [p1]]) n (by rw[hap];exact A.more _) lp (c0+1) hc ((hh++[.lst X1]:MH)).length [ps.take (c0+1)] (by rw[cp,hp1];rfl) (by simp) (λq hq=>by
    simp only[ua,uc,or_false] at hq;subst hq;exact sub1) (by simp) (by simp only[Xb,Uk];rw[Qbz,ce,Wp]) x0 x1 (some (I mm)) x3 x4 x7 z10 z13 z14 z15 Q (λt' z11 z12=>by rw[hap,Ve];exact fin _ z11 z12)
  generalize Zy ps H W=rd at *;generalize qr ps H W=sd at *;have cm:(((c0+1:Nat):Int)<(ps.length:Int))=False:=eq_false (by lia);generalize ((c0+1:Nat):Int)=CI at *;generalize hg2:hh++[.lst X1]++[.lst [p1]]=g2 at *;generalize hg1:hh++[.lst X1]=g1 at *;generalize ps.map (·.v)=X at *;generalize oneB.drop 16=BB at T ⊢;simp only[oneB,d__law_one,Vt,xv];simp[ea,ln,qt,d5,bm,ba,s1,O1,hg2,ea2,cm];exact T
end
end MP
end
section
namespace MP
open PySem
section
variable (n:Nat) {h0:MH} {b:Nat} {ps:List PR} {m:Int} {H W:Nat}
theorem tail6{t:MH}(G:Got t b b ps m H W)(ns:List Int)(k:Int)(mm:Int)(hk:0<=k)(hk2:k<900000)
  (z7 z8 z9 z10 z11 z12 z13 z14 z15:Option MV) (Q:MV->MH->Prop) (hQ:∀ g k',k<=k'->k'<=k+300->Ret (zk h0 (B true) (atC k'::g)) Q) :
  Ret (Qc h0 (Qa prog (run prog (n+8)) (oneB.drop 6) [some (.f (.scr ns)),some (.ref 0),some (I mm),some (I (H:Int)),some (I (W:Int)),some (I m),some (.ref (b+1)),z7,z8,z9,z10,z11,z12,z13,z14,z15] (atC k::t))) Q:=by
 have e6:oneB.drop 6=(oneB.drop 6).take 7++oneB.drop 13:=by rw[show(13:Nat)=6+7 from rfl,<- Vq,Vg]
 obtain⟨X,hX⟩:∃ X,X=ps.map (·.v):=⟨_,rfl⟩;have G1:Got (t++[.lst X]) b t.length ps m H W:=by
  have:=G.more [.lst X];exact⟨this.pl,by rw[hX];simp,this.ap,this.al,this.ne,this.len,this.H1,this.W1,this.H9,this.W9,this.m1⟩
 have ea:Zb (atC k::t) (b+1)=some X:=by rw[hX];exact YG _ G.pl
 have A1:=G1.alike (atC k);have lp:=G.len;have ea1:Zb (atC k::(t++[.lst X])) (b+1)=some X:=A1.P.seq.trans (by rw[hX]);have D:=ZbZ (n+7) _ A1;have ed:ya4 ps H W=.tup [Zy ps H W,qr ps H W]:=rfl;rw[ed] at D;have At:=λ{g}(A:Alike g (.ref (b+1)) ps m H W)=>A.to (Zbc A.P.ok A.P.len);have O1:=zQ (n+1) _ A1;have O2:=zQ (n+1) _ (At A1);have I1:=QaK (n+4) A1;have S1:=qD (n+1) _ A1;obtain⟨C,hC⟩:∃ C,C=iM (Yc (ps.map (·.R)) (Za H W)):=⟨_,rfl⟩;rw[<- hC] at S1;have lC:C.length<=100:=by rw[hC];simp[yq];lia
 have A2:=A1.more [.lst C];have ea2:Zb (atC k::(t++[.lst X])++[.lst C]) (b+1)=some X:=A2.P.seq.trans (by rw[hX]);have q1:=qb (atC k::(t++[.lst X])) [] C;have sm1:=Y7 (n+6) A1 _ _ (q1.trans (by rw[hC]));have S2:=qD (n+1) _ (At A2);rw[<- hC] at S2;have q2:=qb (atC k::(t++[.lst X])++[.lst C]) [] C;have sm2:=Y7 (n+6) A1 _ _ (q2.trans (by rw[hC]));rw[<- hX] at O2 S2;have c3:=Zc [.lst C] (qb (atC k::(t++[.lst X])) [] C);have ap3:atC k::(t++[.lst X])++[.lst C]++[.lst C]=atC k::(t++[.lst X])++.lst C::[.lst C]:=by simp
 have st3:=Qg (atC k::(t++[.lst X])) [.lst C] C (C++[I 1]);rw[<- ap3] at st3;have c4:=qb (atC k::(t++[.lst X])) [.lst C] (C++[I 1]);have st4:=Qg (atC k::(t++[.lst X])) [.lst C] (C++[I 1]) (C++[I 1]).reverse;have T:=zcl (h0:=h0) n (A1.more (.lst (C++[I 1]).reverse::[.lst C])) (by lia) mm (some (.f (.scr ns))) (some (.ref 0)) (some (I (H:Int))) (some (I (W:Int))) (some (.ref (t.length+1))) (some (.ref (atC k::(t++[.lst X])).length)) z11 z12 z13 z14 z15 Q (λt' z11 z12=>by
  have G2:=(G1.more (.lst (C++[I 1]).reverse::[.lst C])).more t';have hE:atC k::(t++[.lst X])++(.lst (C++[I 1]).reverse::[.lst C])++t'=atC k::(t++[.lst X]++(.lst (C++[I 1]).reverse::[.lst C])++t'):=by simp only[Xr]
  rw[hE];generalize t++[.lst X]++(.lst (C++[I 1]).reverse::[.lst C])++t'=T2 at *;have T17:=qcb (h0:=h0) n G2 ns k mm hk hk2 (some (.ref (atC k::(t++[.lst X])).length)) z11 z12 z13 z14 z15 Q hQ
  with_reducible exact T17)
 have hl:(atC k::t).length=t.length+1:=rfl;have hap:atC k::t++[.lst X]=atC k::(t++[.lst X]):=rfl;rw[e6,Zp];generalize Zy ps H W=rd at *;generalize qr ps H W=sd at *;generalize Qz m (Zg (ps.map (·.R)) H W)=pv at *;have lv:(C++[I 1]).length<=101:=by simp;lia
 generalize hD:(C++[I 1]).reverse=D at *;generalize hg4:atC k::(t++[.lst X])++.lst (C++[I 1])::[.lst C]=g4 at *;generalize hg5:atC k::(t++[.lst X])++.lst D::[.lst C]=g5 at *;generalize hg3:atC k::(t++[.lst X])++[.lst C]++[.lst C]=g3 at *;generalize hg2:atC k::(t++[.lst X])++[.lst C]=g2 at *;generalize hg1:atC k::(t++[.lst X])=g1 at *;generalize hg0:atC k::t=g0 at *;have rv:lmV "reverse" (.ref g1.length) [] g4=.ok (.f .non) g5:=by
  have:lmV "reverse" (.ref g1.length) [] g4=opt (Zb g4 g1.length) λxs=>.ok (.f .non) (ye g4 g1.length xs.reverse):=rfl;rw[this,c4,zj,hD,st4]
 have hCC:C.length<sizeL:=by rw[Yg];lia
 generalize oneB.drop 13=BB at T ⊢;simp only[oneB,d__law_one,Vt,xv];simp[ea,hl,hap,ea1,D,O1,I1,O2,S1,sm1,ea2,S2,sm2,c3,hCC,st3,c4,rv];exact T
end
end MP
end
section
namespace MP
open PySem
section
variable (n:Nat)
theorem Qbl(h:MH)(k k':Int)(x:FV)(g:MH):∃ g',zk (atC k::h) (.f x) (atC k'::g)=.ok (.f x) (atC k'::g'):=by
 unfold zk;split
 ·exact⟨g.take h.length,rfl⟩
 ·exact⟨g,rfl⟩
theorem Yco{ps:List PR}(p:PR)(s:Nat)(hs:s<=ps.length):ZI (ps.map (·.v)) (s:Int) p.v=(ps.take s++p::ps.drop s).map (·.v):=by
 unfold ZI ya7;simp only[Wd];rw[if_neg (by lia)];simp[uz hs,List.map_take,List.map_drop]
theorem yb5(h:MH)(ns:List Int)(k:Int)(hk:0<=k)(hk2:k<800000):∃ k' g,k<=k'/\k'<=k+1000/\run prog (n+9) "_law_one" [.f (.scr ns),.ref 0] (atC k::h)=.ok (B true) (atC k'::g):=by
 suffices Ret (run prog (n+9) "_law_one" [.f (.scr ns),.ref 0] (atC k::h)) λv h'=>v=B true/\∃ k' g,k<=k'/\k'<=k+1000/\h'=atC k'::g by
  obtain⟨v,h',e,rfl,k',g,q1,q2,rfl⟩:=this;exact⟨k',g,q1,q2,e⟩
 refine Ret.of λQ hQ=>?_;have N:=Z0 (n+7) h ns k hk (by lia);obtain⟨m,m1,_,M⟩:=ybC (n+6) h ns (k+1) (by lia) (by lia);have hd:=yaK ns (k+1);generalize Zat ns (k+1)=mm at *;have d7:∀ x,zU x 7:=λx=>⟨by decide,.inl (by decide)⟩;have d49:∀ x,zU x 49:=λx=>⟨by decide,.inl (by decide)⟩;have d245:∀ x,zU x 245:=λx=>⟨by decide,.inl (by decide)⟩;have d735:∀ x,zU x 735:=λx=>⟨by decide,.inl (by decide)⟩;have a7:=mod_lt mm 7 (by decide);have b7:=mod_lt (mm/7) 7 (by decide);have c5:=mod_lt (mm/49) 5 (by decide);obtain⟨H,hH⟩:=xh (show 0<=1+mm%7 by lia);obtain⟨W,hW⟩:=xh (show 0<=1+mm/7%7 by lia);obtain⟨N0,hN⟩:=xh (show 0<=1+mm/49%5 by lia);have bH:∀ hh,yh false .add (I 1) (I (mm%7)) hh=.ok (I (H:Int)) hh:=λhh=>by rw[zw,hH]
 have bW:∀ hh,yh false .add (I 1) (I (mm/7%7)) hh=.ok (I (W:Int)) hh:=λhh=>by rw[zw,hW]
 have bN:∀ hh,yh false .add (I 1) (I (mm/49%5)) hh=.ok (I (N0:Int)) hh:=λhh=>by rw[zw,hN]
 have e0:oneB=oneB.take 5++(oneB.drop 5):=(Vg 5 _).symm;have e5:oneB.drop 5=(oneB.drop 5).take 1++(oneB.drop 6):=by rw[show(6:Nat)=5+1 from rfl,<- Vq,Vg]
 have T:=λb ps t (G:Got t b b ps m H W) k' (hk:0<=k') (hk2:k'<900000) (q1:k<=k') (q2:k'<=k+700)=>tail6 (h0:=atC k::h) n G ns k' mm hk hk2 none none none none none none none none none Q (λg k2 r1 r2=>by
  obtain⟨g',e⟩:=Qbl h k k2 (.bl true) g;rw[show(B true:MV)=.f (.bl true) from rfl,e];exact(zck ..).mpr (hQ _ _ ⟨rfl,k2,g',by lia,by lia,rfl⟩))
 rw[zaN];have eb:d__law_one.body=oneB:=rfl;rw[eb,e0,Zp];have qHW:H*W<=7*7:=xo (by lia) (by lia);simp only[oneB,d__law_one,xv];generalize hB5:Vt 5 _=B5;have hB5':B5=oneB.drop 5:=hB5.symm;clear hB5;simp[N,yp,bH,qt,d7,bW,M,d49,bN,qp _ (N0:Int) (by lia),MP.stM];generalize hc:Yi [] _ _ _ _ _=cc;obtain⟨acc',hh,ec,PP⟩:=Qb1 hc (λi acc g=>∃(k':Int)(t:MH)(ps:List PR),g=atC k'::(h++t)/\acc=ps.map (·.v)/\ps.length=i/\(∀ p∈ps,AtP (h++t) p/\p.m=m/\p.H=H/\p.W=W)/\k+1+1<=k'/\k'<=k+1+1+50*(i:Int)) ⟨k+1+1,[],[],by simp,rfl,rfl,by simp,by lia,by lia⟩ (by simp[Yg];lia) (by
  rintro j y acc z g hj ⟨k',t,ps,rfl,rfl,hl,al,r1,r2⟩;have hjN:=(Xa.mp hj).1;simp only[Uy] at hjN;obtain⟨v,_,e1,R1,k1,t1,P1,a1,b1,rfl⟩:=QH (n+5) (h++t) ns k' m H W (by lia) (by lia) m1 (by lia) (by lia) (by lia) (by lia);refine⟨v,some (I (y:Int)),atC k1::(h++t++t1),?_,k1,t++t1,ps++[⟨v,m,H,W,R1⟩],by simp,by simp,by simp[hl],?_,by lia,by lia⟩
  ·simp[Zt,e1]
  ·intro p hp
   rcases Xf.mp hp with hp|hp
   ·obtain⟨q1,q2⟩:=al p hp;exact⟨by rw[<- Ve];exact q1.more t1,q2⟩
   ·simp at hp;subst hp;exact⟨by rw[<- Ve];exact P1,rfl,rfl,rfl⟩)
 obtain⟨k',t,ps,rfl,rfl,hl,al,r1,r2⟩:=PP;simp only[Uy] at hl r2;subst ec;simp only[R.bind_ok,YA,R.st_ok,Q9,Qbb,RS.bind_next];rw[hB5',e5,Zp];have hps:0<ps.length:=by lia
 obtain⟨p0,hp0⟩:∃ p0,ps[0]?=some p0:=⟨_,Wa hps⟩;have at0:atM (ps.map (·.v)) 0=some p0.v:=by
  show atM _ ((0:Nat):Int)=_;rw[Yh,xc,hp0];rfl
 have ea:=qb (atC k'::(h++t)) [] (ps.map (·.v));have stc:=λys=>Qg (atC k'::(h++t)) [] (ps.map (·.v)) ys;have hlen:(atC k'::(h++t)).length=(h++t).length+1:=rfl;have G:∀ qs:List PR,qs≠[]->qs.length<=6->(∀ p∈qs,p∈ps)->Got (h++t++[.lst (qs.map (·.v))]) (h++t).length (h++t).length qs m H W:=λqs ne ql qm =>
  ⟨by simp,by simp,λp hp=>(al p (qm p hp)).1.more _,λp hp=>(al p (qm p hp)).2,ne,ql,by lia,by lia,by lia,by lia,m1⟩
 have ln:(ps.map (·.v)).length=ps.length:=by simp
 by_cases ci:mm/245%3=0
 ·have hi:=mod_lt (mm/735) ((ps.length:Int)+1) (by lia);obtain⟨s,es⟩:=xh hi.1;have bm:∀ hh,yh false .mod (I (mm/735)) (I ((ps.length:Int)+1)) hh=.ok (I (s:Int)) hh:=λhh=>by rw[yp _ _ _ (by lia),es]
  have ba:∀ hh,yh false .add (I (ps.length:Int)) (I 1) hh=.ok (I ((ps.length:Int)+1)) hh:=λhh=>zw ..;have ia:=Yco p0 s (ps:=ps) (by lia);have G1:=G (ps.take s++p0::ps.drop s) (by simp) (by simp;lia) (λp hp=>by
   simp only[Xf,ua] at hp
   rcases hp with hp|rfl|hp
   ·exact Wo hp
   ·exact Uc hp0
   ·exact Ur hp)
  have T1:=T _ _ _ G1 k' (by lia) (by lia) (by lia) (by lia);have st1:=stc ((ps.take s++p0::ps.drop s).map (·.v));have sz:ps.length<sizeL/\(s:Int)<9223372036854775808:=⟨by rw[Yg];lia,by lia⟩;have e1:(oneB.drop 5).take 1=[.ite (.cmp .eq (.bin false .mod (.bin false .fdiv (.var 2) (.cI 245)) (.cI 3)) (.cI 0)) [.expr (.lm "insert" (.var 6) [.bin false .mod (.bin false .fdiv (.var 2) (.cI 735)) (.bin false .add (.blt false "len" [.var 6]) (.cI 1)),.sub (.var 6) (.cI 0)])] []]:=rfl;rw[e1];generalize oneB.drop 6=B6 at *;have hg:atC k'::(h++t)++[.lst ((ps.take s++p0::ps.drop s).map (·.v))]=atC k'::(h++t++[.lst ((ps.take s++p0::ps.drop s).map (·.v))]):=rfl;rw[hg] at st1;generalize atC k'::(h++t++[.lst ((ps.take s++p0::ps.drop s).map (·.v))])=g2 at *;generalize (ps.take s++p0::ps.drop s).map (·.v)=X2 at *;generalize hX:ps.map (·.v)=X at *;rw[hlen] at *;generalize atC k'::(h++t)++[.lst X]=g1 at *;generalize (h++t).length=L at *;simp[qt,d245,d735,yp,ci,ea,ln,ba,bm,at0,sz,ia,st1];exact T1
 ·have G1:=G ps (by intro q;rw[q] at hps;simp at hps) (by lia) (λp hp=>hp);have T1:=T _ _ _ G1 k' (by lia) (by lia) (by lia) (by lia);have e1:(oneB.drop 5).take 1=[.ite (.cmp .eq (.bin false .mod (.bin false .fdiv (.var 2) (.cI 245)) (.cI 3)) (.cI 0)) [.expr (.lm "insert" (.var 6) [.bin false .mod (.bin false .fdiv (.var 2) (.cI 735)) (.bin false .add (.blt false "len" [.var 6]) (.cI 1)),.sub (.var 6) (.cI 0)])] []]:=rfl;rw[e1];generalize oneB.drop 6=B6 at *;have hg:atC k'::(h++t)++[.lst (ps.map (·.v))]=atC k'::(h++t++[.lst (ps.map (·.v))]):=rfl;rw[hlen,hg];generalize atC k'::(h++t++[.lst (ps.map (·.v))])=g2 at *;generalize (h++t).length=L at *;simp[qt,d245,yp,ci];exact T1
theorem run_law(ns:List Int)(hl:ns.length<=63):∃ g,run prog (n+10) "law" [.f (.scr ns)] []=.ok (B true) g:=by
 suffices Ret (run prog (n+10) "law" [.f (.scr ns)] []) λv h'=>v=B true by
  obtain⟨v,h',e,rfl⟩:=this;exact⟨h',e⟩
 refine Ret.of λQ hQ=>?_;have d16:∀ hh,yh true .fdiv (I ns.length) (I 16) hh=.ok (I ((ns.length:Int)/16)) hh:=λhh=>qt _ _ _ ⟨by decide,.inl (by decide)⟩;obtain⟨T,hT,hT2⟩:∃ T:Nat,1+(if(ns.length:Int)/16<3 then(ns.length:Int)/16 else 3)=(T:Int)/\T<=4:=by
  obtain⟨T,hT⟩:=xh (show 0<=1+(if(ns.length:Int)/16<3 then(ns.length:Int)/16 else 3) by split <;> lia);exact⟨T,hT,by split at hT <;> lia⟩
 rw[YbW];simp only[d_law];simp[qi,d16,hT,qp _ (T:Int) (by lia)];refine Yu (Q:=λr=>Ret (Qc _ r) Q) T (λi σ hh=>∃(kk:Int)(g:MH)(z2:Option MV),0<=kk/\kk<=1000*(i:Int)/\hh=atC kk::g/\σ=[some (.f (.scr ns)),some (.ref 0),z2]) ?_ ?_ ?_
 ·exact⟨0,[],none,by lia,by lia,rfl,rfl⟩
 ·rintro i σ hh hil ⟨kk,g,z2,k0,k1,rfl,rfl⟩ Q hQ;obtain⟨k2,g',a1,a2,R⟩:=yb5 n g ns kk k0 (by lia);simp[zi,R];exact hQ _ _ ⟨k2,g',_,by lia,by lia,rfl,rfl⟩
 ·rintro σ hh ⟨kk,g,z2,k0,k1,rfl,rfl⟩;have lv:=qbq [] (atC kk::g) (.bl true);simp only[Vk] at lv;simp[lv];exact hQ _ _ rfl
end
end MP
end
section
namespace SD
open PySem L2 L3 M3 MP PyProof.Rows
noncomputable def top(i:Nat):Stmt:=PySem.Challenge.pw_dotscreen_k55_laid_over.main.body.getD i (.Pass ⟨0,0,0,0⟩)
noncomputable abbrev yU:Stmt:=top 13
theorem Zbb:ym prog ZM ["rows"] ["rows"] yU=true:=by decide +kernel
noncomputable abbrev qX:Stmt:=top 14
theorem Ya3:ym prog QL ["rows","least","greatest","row"] ["rows","least","greatest"] qX=true:=by decide +kernel
noncomputable abbrev Yx:Stmt:=top 15
theorem Qae:ym prog d_cells_by_rows ["high","wide","cells","row"] ["high","wide"] Yx=true:=by decide +kernel
noncomputable abbrev yi:Stmt:=qbX (top 17) 0
theorem YV:ym prog Zn ["self","most","rows","kept","fault"] ["self","most","rows"] yi=true:=by decide +kernel
noncomputable abbrev za6:Stmt:=top 18
theorem Qci:ym prog d_high ["picture"] ["picture"] za6=true:=by decide +kernel
noncomputable abbrev ya5:Stmt:=top 19
theorem Ycp:ym prog d_wide ["picture"] ["picture"] ya5=true:=by decide +kernel
noncomputable abbrev Yaa:Stmt:=top 20
theorem zbo:ym prog d_size_of ["picture"] ["picture"] Yaa=true:=by decide +kernel
noncomputable abbrev YU:Stmt:=top 21
theorem za8:ym prog d_has_cell ["picture","cell"] ["picture","cell"] YU=true:=by decide +kernel
noncomputable abbrev ZW:Stmt:=top 22
theorem Ya9:ym prog d_ask_cell ["picture","cell"] ["picture","cell"] ZW=true:=by decide +kernel
noncomputable abbrev zW:Stmt:=top 23
theorem qa7:ym prog d_shade_at ["picture","cell"] ["picture","cell"] zW=true:=by decide +kernel
noncomputable abbrev QF:Stmt:=top 24
theorem Zas:ym prog Zw ["picture","pairs","rows","cell","shade"] ["picture","pairs"] QF=true:=by decide +kernel
noncomputable abbrev ZV:Stmt:=top 25
theorem Za6:ym prog d_laid_out ["most","size","pairs"] ["most","size","pairs"] ZV=true:=by decide +kernel
noncomputable abbrev zP:Stmt:=top 26
theorem zaT:ym prog d_ask_mosts ["one","other"] ["one","other"] zP=true:=by decide +kernel
noncomputable abbrev QM:Stmt:=top 28
theorem yaS:ym prog d_laid_over ["pictures","pairs","cell","number"] ["pictures"] QM=true:=by decide +kernel
noncomputable abbrev y9:Stmt:=top 29
theorem ybk:ym prog d_seen_of ["pictures","counts","cell","number"] ["pictures"] y9=true:=by decide +kernel
noncomputable abbrev YI:Stmt:=top 30
theorem yaG:ym prog d_ask_layers ["pictures","picture"] ["pictures"] YI=true:=by decide +kernel
noncomputable abbrev qx:Stmt:=top 31
theorem yag:ym prog d_seen_by_cells ["pictures","size"] ["pictures"] qx=true:=by decide +kernel
noncomputable abbrev YF:Stmt:=top 32
theorem Yas:ym prog d_number_seen ["pictures","cell","seen","number","picture"] ["pictures","cell"] YF=true:=by decide +kernel
noncomputable abbrev YQ:Stmt:=top 34
theorem ZaR:ym prog zE ["_law_script","_law_at","_law_cell","_law_m"] ["_law_script","_law_at"] YQ=true:=by decide +kernel
noncomputable abbrev ZQ:Stmt:=top 35
theorem qaT:ym prog d__law_same ["_law_found","_law_due_here"] ["_law_found","_law_due_here"] ZQ=true:=by decide +kernel
noncomputable abbrev QP:Stmt:=top 36
theorem yaU:ym prog QD ["_law_script","_law_at","_law_m","_law_cell"] ["_law_script","_law_at"] QP=true:=by decide +kernel
noncomputable abbrev yJ:Stmt:=top 38
theorem zaC:ym prog d__law_layer ["_law_script","_law_at","_law_most_here","_law_tall","_law_broad","_law_m","_law_rows","_law_k","_law_line","_law_j","_law_n","_law_shade"] ["_law_script","_law_at","_law_most_here","_law_tall","_law_broad"] yJ=true:=by decide +kernel
noncomputable abbrev yV:Stmt:=top 39
theorem Yba:ym prog d__law_due ["_law_pictures","_law_rows","_law_seen","_law_k","_law_j","_law_which","_law_number","_law_picture"] ["_law_pictures"] yV=true:=by decide +kernel
noncomputable abbrev zA:Stmt:=top 40
theorem Yaj:ym prog d__law_refused ["_law_pictures","_law_which","_law_word_here","_law_e"] ["_law_pictures"] zA=true:=by decide +kernel
noncomputable abbrev zab:Stmt:=top 41
theorem Zbt:ym prog d__law_is ["_law_found","_law_most_here","_law_rows"] ["_law_found","_law_most_here","_law_rows"] zab=true:=by decide +kernel
noncomputable abbrev QV:Stmt:=top 42
theorem za7:ym prog d__law_one ["_law_script","_law_at","_law_m","_law_tall","_law_broad","_law_most_here","_law_pictures","_law_kept","_law_rows","_law_seen","_law_found","_law_cut","_law_parts","_law_others","_law_spot","_law_wrong"] ["_law_script","_law_at"] QV=true:=by decide +kernel
noncomputable abbrev ZT:Stmt:=top 43
theorem Qb5:ym prog d_law ["_law_script","_law_at","_law_turn"] ["_law_script"] ZT=true:=by decide +kernel
end SD
end
section
namespace SD
open PySem PySem.Spec PyProof.Rows L2 L3 M3 MP
noncomputable abbrev YE:Stmt:=top 37
noncomputable def qcm(K:PySem.W.Frag)(cs:List Addr):Addr->Addr->Sp:=λx C vs H Q _=>vs=[.ref x]/\∃ i,WordC K cs C i/\∀ H',Same H H'->Q (.str (QaJ i)) H'
theorem yaX:FnScope ["_law_e","_law_told","_law_words","_law_some"] ["_law_e"] (yb YE):=⟨rfl,rfl,rfl,by decide +kernel,rfl,by decide +kernel,by decide +kernel⟩
theorem Zb0{P:Program}{w:World}{K:PySem.W.Frag}{mg:Str->Option Value}{base:Heap}{c0 c1 c2 c3 c4 c5 c6 c7 c8 c9:Addr}(S:Src K mg "_law_word" YE ["_law_e"])(b_isinstance:mg "isinstance"=none)(b_range:mg "range"=none)(b_len:mg "len"=none)(b_ValueError:mg "ValueError"=none)(m0:mg "NoPicture"=some (.ref c0))(m1:mg "OutOfPicture"=some (.ref c1))(m2:mg "NoMeet"=some (.ref c2))(m3:mg "NoTile"=some (.ref c3))(m4:mg "NoInks"=some (.ref c4))(m5:mg "NoShares"=some (.ref c5))(m6:mg "NoShade"=some (.ref c6))(m7:mg "NoStretches"=some (.ref c7))(m8:mg "NoWay"=some (.ref c8))(m9:mg "NoText"=some (.ref c9)):DefOkH P w K mg base "_law_word" 1 ["_law_e"] (qcm K [c0,c1,c2,c3,c4,c5,c6,c7,c8,c9]):=by
 have sc:=yaX;refine qbZ S sc (λx C vs H Q E h=>by obtain⟨rfl,_⟩:=h;rfl) λf x0 C tt T cdv A outer s H vs Q hr h=>?_;obtain⟨rfl,ix,Z,k⟩:=h;have zC:ExcK K C:=Z.z;refine⟨_,(@zD _ _ _ _ _ (@Zar _ _ (1) _ _ _ _ sc.nd rfl (Or.inr rfl) (@qam _ _ _ _ (@Yb _ _ _ _ _ (@Zj _ _ _ _ _ _ _ _ _ (Qo zC (.head _)) rfl b_isinstance boot_isinstance (@Yb _ _ _ _ _ (pv 0) (@Yb _ _ _ _ _ (@Yt _ _ (.ref c0) _ _ rfl m0 rfl (by decide)) Qk (by rfl)) (by rfl)) (by decide) (by decide) (by rfl) (by rfl)) (@Yb _ _ _ _ _ (@Zj _ _ _ _ _ _ _ _ _ (Qo zC (.head _)) rfl b_isinstance boot_isinstance (@Yb _ _ _ _ _ (pv 0) (@Yb _ _ _ _ _ (@Yt _ _ (.ref c1) _ _ rfl m1 rfl (by decide)) Qk (by rfl)) (by rfl)) (by decide) (by decide) (by rfl) (by rfl)) (@Yb _ _ _ _ _ (@Zj _ _ _ _ _ _ _ _ _ (Qo zC (.head _)) rfl b_isinstance boot_isinstance (@Yb _ _ _ _ _ (pv 0) (@Yb _ _ _ _ _ (@Yt _ _ (.ref c2) _ _ rfl m2 rfl (by decide)) Qk (by rfl)) (by rfl)) (by decide) (by decide) (by rfl) (by rfl)) (@Yb _ _ _ _ _ (@Zj _ _ _ _ _ _ _ _ _ (Qo zC (.head _)) rfl b_isinstance boot_isinstance (@Yb _ _ _ _ _ (pv 0) (@Yb _ _ _ _ _ (@Yt _ _ (.ref c3) _ _ rfl m3 rfl (by decide)) Qk (by rfl)) (by rfl)) (by decide) (by decide) (by rfl) (by rfl)) Qk (by rfl)) (by rfl)) (by rfl)) (by rfl))) (by rfl) (by first|exact .inl rfl|exact .inr rfl|assumption)) (@zD _ _ _ _ _ (@Zar _ _ (1) _ _ _ _ sc.nd rfl (Or.inr rfl) (@ZaY _ _ _ _ _ _ _ _ YbK (pv 1) (@qam _ _ _ _ (@Yb _ _ _ _ _ (@Zj _ _ _ _ _ _ _ _ _ (Qo zC (.head _)) rfl b_isinstance boot_isinstance (@Yb _ _ _ _ _ (pv 0) (@Yb _ _ _ _ _ (@Yt _ _ (.ref c4) _ _ rfl m4 rfl (by decide)) Qk (by rfl)) (by rfl)) (by decide) (by decide) (by rfl) (by rfl)) (@Yb _ _ _ _ _ (@Zj _ _ _ _ _ _ _ _ _ (Qo zC (.head _)) rfl b_isinstance boot_isinstance (@Yb _ _ _ _ _ (pv 0) (@Yb _ _ _ _ _ (@Yt _ _ (.ref c5) _ _ rfl m5 rfl (by decide)) Qk (by rfl)) (by rfl)) (by decide) (by decide) (by rfl) (by rfl)) (@Yb _ _ _ _ _ (@Zj _ _ _ _ _ _ _ _ _ (Qo zC (.head _)) rfl b_isinstance boot_isinstance (@Yb _ _ _ _ _ (pv 0) (@Yb _ _ _ _ _ (@Yt _ _ (.ref c6) _ _ rfl m6 rfl (by decide)) Qk (by rfl)) (by rfl)) (by decide) (by decide) (by rfl) (by rfl)) Qk (by rfl)) (by rfl)) (by rfl)))) (by rfl) (by first|exact .inl rfl|exact .inr rfl|assumption)) (@zD _ _ _ _ _ (@Zar _ _ (1) _ _ _ _ sc.nd rfl (Or.inr rfl) (@ZaY _ _ _ _ _ _ _ _ YbK (pv 1) (@qam _ _ _ _ (@Yb _ _ _ _ _ (@Zj _ _ _ _ _ _ _ _ _ (Qo zC (.head _)) rfl b_isinstance boot_isinstance (@Yb _ _ _ _ _ (pv 0) (@Yb _ _ _ _ _ (@Yt _ _ (.ref c7) _ _ rfl m7 rfl (by decide)) Qk (by rfl)) (by rfl)) (by decide) (by decide) (by rfl) (by rfl)) (@Yb _ _ _ _ _ (@Zj _ _ _ _ _ _ _ _ _ (Qo zC (.head _)) rfl b_isinstance boot_isinstance (@Yb _ _ _ _ _ (pv 0) (@Yb _ _ _ _ _ (@Yt _ _ (.ref c8) _ _ rfl m8 rfl (by decide)) Qk (by rfl)) (by rfl)) (by decide) (by decide) (by rfl) (by rfl)) (@Yb _ _ _ _ _ (@Zj _ _ _ _ _ _ _ _ _ (Qo zC (.head _)) rfl b_isinstance boot_isinstance (@Yb _ _ _ _ _ (pv 0) (@Yb _ _ _ _ _ (@Yt _ _ (.ref c9) _ _ rfl m9 rfl (by decide)) Qk (by rfl)) (by rfl)) (by decide) (by decide) (by rfl) (by rfl)) Qk (by rfl)) (by rfl)) (by rfl)))) (by rfl) (by first|exact .inl rfl|exact .inr rfl|assumption)) (@zD _ _ _ _ _ (@Zar _ _ (2) _ _ _ _ sc.nd rfl (Or.inr rfl) (@qam _ _ _ _ (@Yb _ _ _ _ _ zy (@Yb _ _ _ _ _ zy (@Yb _ _ _ _ _ zy (@Yb _ _ _ _ _ zy (@Yb _ _ _ _ _ zy (@Yb _ _ _ _ _ zy (@Yb _ _ _ _ _ zy (@Yb _ _ _ _ _ zy (@Yb _ _ _ _ _ zy (@Yb _ _ _ _ _ zy Qk (by rfl)) (by rfl)) (by rfl)) (by rfl)) (by rfl)) (by rfl)) (by rfl)) (by rfl)) (by rfl)) (by rfl))) (by rfl) (by first|exact .inl rfl|exact .inr rfl|assumption)) (@zD _ _ _ _ _ (@ybJ _ _ _ _ _ _ _ _ _ _ _ _ _ _ _ _ _ (3) _ _ _ hr.hd (.head _) sc.nd rfl (Or.inl rfl) ["_law_k","_law_words","_law_told"] 1 [2,1] rfl rfl b_range (@Yb _ _ _ _ _ ZaF Qk (by rfl)) (λ_ _ _ _=>(@Zah _ _ (0) _ (show(["_law_k","_law_words","_law_told"]:List Str).Nodup from by decide +kernel) rfl (Or.inl rfl) (by first|exact .inl rfl|exact .inr rfl|assumption))) (λ_ _ _ _=>zbj (@Qa5 _ _ _ (@zaW _ _ _ _ _ _ _ (ybL K) (pv 2) (pv 0) (λ_ _=>rfl)) (by intro _;rfl))) (λ_ _ _ _=>(@zaW _ _ _ _ _ _ _ (ybL K) (pv 1) (pv 0) (λ_ _=>rfl))) (by rfl) (by intro _;rfl) (by rfl) (by first|exact .inl rfl|exact .inr rfl|assumption)) (@zD _ _ _ _ _ (@qb7 _ _ _ _ _ _ _ _ (PW.pt (@qb8 _ _ _ _ _ _ _ (@yai _ _ _ _ _ _ _ _ op_ne (@Zj _ _ _ _ _ _ _ _ _ (yb9 K) rfl b_len PySem.boot_len (@Yb _ _ _ _ _ (pv 3) Qk (by rfl)) (by decide) (by decide) (by rfl) (by rfl)) ZaF (Zce _)) (@Yby _ _ _ _ (@ZbA _ _ _ _ (@Qa5 _ _ _ (@Zj _ _ _ _ _ _ _ _ _ (Qo zC (.head _)) rfl b_isinstance boot_isinstance (@Yb _ _ _ _ _ (pv 0) (@Yb _ _ _ _ _ (@zbe _ _ (.ty "ValueError") _ _ rfl b_ValueError (by rfl) rfl (by decide) (by decide)) Qk (by rfl)) (by rfl)) (by decide) (by decide) (by rfl) (by rfl)) (by intro _;rfl)))))) (@qah _ _ _ (@ya8 _ _ _ _ zy)) QaF) (@qah _ _ _ (@ya8 _ _ _ _ (@zaW _ _ _ _ _ _ _ (ybL K) (pv 3) ZaF (λ_ _=>rfl)))))))))),?_⟩;have kj:∀(j:Nat) D,[c0,c1,c2,c3,c4,c5,c6,c7,c8,c9][j]?=some D->Ue K (.ref C) (.ref D)=some (decide (j=ix)):=Z.kj;refine⟨_,rfl,_,_,_,rfl,rfl,kj 0 _ rfl,_,rfl,_,_,_,rfl,rfl,kj 1 _ rfl,_,rfl,_,_,_,rfl,rfl,kj 2 _ rfl,_,rfl,_,_,_,rfl,rfl,kj 3 _ rfl,(by show 4<=sizeLine;decide),λp1 h1=>?_⟩;generalize hH:upd _ _ _=H2;have g2:H2 p1=some (.lst [.bl (decide (0=ix)),.bl (decide (1=ix)),.bl (decide (2=ix)),.bl (decide (3=ix))]):=by rw[<- hH];exact zf
 have s2:Same H H2:=by rw[<- hH];exact YC h1 _
 clear hH;refine⟨_,rfl,_,rfl,_,_,_,rfl,rfl,kj 4 _ rfl,_,rfl,_,_,_,rfl,rfl,kj 5 _ rfl,_,rfl,_,_,_,rfl,rfl,kj 6 _ rfl,(by show 3<=sizeLine;decide),λp2 h2=>?_⟩;refine⟨p1,p2,_,_,rfl,rfl,(by rw[Zd (ze g2 h2)];exact g2),zf,(by show 7<=sizeLine;decide),λp3 h3=>?_⟩;generalize hH:upd _ _ _=H3;have g3:H3 p3=some (.lst [.bl (decide (0=ix)),.bl (decide (1=ix)),.bl (decide (2=ix)),.bl (decide (3=ix)),.bl (decide (4=ix)),.bl (decide (5=ix)),.bl (decide (6=ix))]):=by rw[<- hH];exact zf
 have s3:Same H H3:=by rw[<- hH];exact s2.trans ((YC h2 _).trans (YC h3 _))
 clear hH;refine⟨_,rfl,_,rfl,_,_,_,rfl,rfl,kj 7 _ rfl,_,rfl,_,_,_,rfl,rfl,kj 8 _ rfl,_,rfl,_,_,_,rfl,rfl,kj 9 _ rfl,(by show 3<=sizeLine;decide),λp4 h4=>?_⟩;refine⟨p3,p4,_,_,rfl,rfl,(by rw[Zd (ze g3 h4)];exact g3),zf,(by show 10<=sizeLine;decide),λp5 h5=>?_⟩;generalize hH:upd _ _ _=H5;have g5:H5 p5=some (.lst ((wc 10).map λj=>V.bl (decide (j=ix)))):=by rw[<- hH];exact zf
 have s5:Same H H5:=by rw[<- hH];exact s3.trans ((YC h4 _).trans (YC h5 _))
 clear hH;refine⟨(by show 10<=sizeLine;decide),λp6 h6=>?_⟩;have hat:∀ i,i<10->atI ((wc 10).map λj=>V.bl (decide (j=ix))) (0+(i:Nat))=some (.bl (decide (i=ix))):=λi hi=>by
  rw[Int.zero_add];exact Qbf (by rw[xc,Ui hi];rfl)
 have hat2:∀ i,i<10->atI (words10.map V.str) (0+(i:Nat))=some (.str (QaJ i)):=λi hi=>by
  rw[Int.zero_add];exact Qbf (by rw[xc,Wa (show i<words10.length from hi)];unfold QaJ;rw[Vh,Wa (show i<words10.length from hi)];rfl)
 generalize hH:upd _ _ _=H6;have g6:H6 p6=some (.lst (words10.map V.str)):=by rw[<- hH];exact zf
 have g5:H6 p5=some (.lst ((wc 10).map λj=>V.bl (decide (j=ix)))):=by rw[<- hH,Zd (ze g5 h6)];exact g5
 have s6:Same H H6:=by rw[<- hH];exact s5.trans (YC h6 _)
 clear hH;refine⟨10,rfl,by decide,by decide,?_⟩;refine yb4 (n:=10) (λi acc σ H'=>H'=H6/\(∃ z,σ=[z,some (.ref p6),some (.ref p5)])/\acc=if i<=ix then[] else[V.str (QaJ ix)]) ?_ (λi acc σ H' hi h=>hi) (λacc σ H' h=>vb _) (λi acc σ H' y H2 hi h hy=>?_) (λacc σ H' h D hD=>?_)
 ·exact⟨rfl,⟨_,rfl⟩,by rw[if_pos (Xq _)]⟩
 ·obtain⟨rfl,⟨z,rfl⟩,rfl⟩:=h;obtain⟨rfl,rfl⟩:=hy;refine⟨_,rfl,_,rfl,p5,_,_,_,rfl,rfl,SqL.of g5,hat i hi,_,rfl,?_⟩;refine ite2 (λc=>?_) (λc=>?_)
  ·have c':i=ix:=of_decide_eq_true c;subst c';refine⟨_,rfl,_,rfl,p6,_,_,_,rfl,rfl,SqL.of g6,hat2 i hi,?_,rfl,⟨_,rfl⟩,?_⟩
   ·rw[if_pos (vb _)];show 0<sizeLine;decide
   ·rw[if_pos (vb _),if_neg (by omega)];rfl
  ·have c':i≠ix:=λe=>c (decide_eq_true e);refine⟨rfl,⟨_,rfl⟩,?_⟩;by_cases h:i<=ix
   ·rw[if_pos h,if_pos (by omega)]
   ·rw[if_neg h,if_neg (by omega)]
 ·obtain⟨rfl,⟨z,rfl⟩,rfl⟩:=h;have hi:=Z.i10;rw[if_neg (by omega)] at *;refine⟨_,rfl,D,_,rfl,.inl (SqL.of zf),rfl,_,rfl,ite2 (λc=>absurd c (by show ¬(!decide (V.int 1=V.int 1))=true;decide)) (λ_=>?_)⟩;refine⟨_,rfl,_,_,_,rfl,rfl,Z.ve,_,rfl,iteF ?_⟩;exact⟨_,rfl,D,_,0,_,rfl,rfl,SqL.of zf,rfl,k _ (s6.trans (YC hD _))⟩
noncomputable def ctOf(K:PySem.W.Frag)(zd c0 c1 c2 B:Addr):Tx:=⟨(λs=>match s with
  |"Picture"=>zd
  |"NoPicture"=>c0
  |"OutOfPicture"=>c1
  |"NoMeet"=>c2
  |"DotError"=>B
  |_=>0),K,0,0,⟨0,0,0,0⟩,Str.ofString ""⟩
theorem all_mk{l:PySem.W.OpenLaw}{w:World}{K:PySem.W.Frag}{h:Heap}{mg:Str->Option Value}{fa:Addr}{cd0:ClassData}{c0:Addr}{cd1:ClassData}{c1:Addr}{cd2:ClassData}{c2:Addr}{cd3:ClassData}{c3:Addr}{cd4:ClassData}{c4:Addr}{cd5:ClassData}{c5:Addr}{cd6:ClassData}{c6:Addr}{cd7:ClassData}{c7:Addr}{cd8:ClassData}{c8:Addr}{cd9:ClassData}{c9:Addr}{B:Addr}{zd:Addr}{Za7:ClassData}{ZE:Addr}{zaM zaI:Option Addr}{qaL:Array (Option Value)}{qaF ZaL zaE YaH Z2 yaE:Value}{YbF:Addr}{qct YbQ:Option Addr}{yco:Array (Option Value)}{zce ybz QbM ZbG QaZ zbz:Value}(X:K.In h)(G:h.Ns mainGlobals mg)(hfa:mg "law"=some (.ref fa))
  (YX:Src K mg "own_rows" yU ["rows"]) (QX:Src K mg "fault_of" qX ["rows","least","greatest"]) (Qx:Src K mg "cells_by_rows" Yx ["high","wide"]) (yba:Src K mg "high" za6 ["picture"]) (Qa6:Src K mg "wide" ya5 ["picture"]) (Z6:Src K mg "size_of" Yaa ["picture"]) (qU:Src K mg "has_cell" YU ["picture","cell"]) (qV:Src K mg "ask_cell" ZW ["picture","cell"]) (QU:Src K mg "shade_at" zW ["picture","cell"]) (zG:Src K mg "with_shades" QF ["picture","pairs"]) (QW:Src K mg "laid_out" ZV ["most","size","pairs"]) (qP:Src K mg "ask_mosts" zP ["one","other"]) (ZO:Src K mg "laid_over" QM ["pictures"]) (zac:Src K mg "seen_of" y9 ["pictures"]) (qI:Src K mg "ask_layers" YI ["pictures"]) (yx:Src K mg "seen_by_cells" qx ["pictures"]) (ZG:Src K mg "number_seen" YF ["pictures","cell"]) (YO:Src K mg "_law_next" YQ ["_law_script","_law_at"]) (ZN:Src K mg "_law_same" ZQ ["_law_found","_law_due_here"]) (yO:Src K mg "_law_most" QP ["_law_script","_law_at"]) (QI:Src K mg "_law_layer" yJ ["_law_script","_law_at","_law_most_here","_law_tall","_law_broad"]) (qY:Src K mg "_law_due" yV ["_law_pictures"]) (yD:Src K mg "_law_refused" zA ["_law_pictures"]) (yaa:Src K mg "_law_is" zab ["_law_found","_law_most_here","_law_rows"]) (zX:Src K mg "_law_one" QV ["_law_script","_law_at"]) (ZbJ:Src K mg "law" ZT ["_law_script"]) (QO:Src K mg "_law_word" YE ["_law_e"])
  (z_abs:ud K mainGlobals "abs"=some none)
  (z_all:ud K mainGlobals "all"=some none)
  (zcc:ud K mainGlobals "bool"=some none)
  (Yck:ud K mainGlobals "dict"=some none)
  (z_divmod:ud K mainGlobals "divmod"=some none)
  (qaQ:ud K mainGlobals "enumerate"=some none)
  (z_int:ud K mainGlobals "int"=some none)
  (Y4:ud K mainGlobals "isinstance"=some none)
  (qb5:ud K mainGlobals "len"=some none)
  (qbK:ud K mainGlobals "list"=some none)
  (z_max:ud K mainGlobals "max"=some none)
  (z_min:ud K mainGlobals "min"=some none)
  (Ybd:ud K mainGlobals "range"=some none)
  (ZaZ:ud K mainGlobals "reversed"=some none)
  (QbF:ud K mainGlobals "sorted"=some none)
  (z_str:ud K mainGlobals "str"=some none)
  (z_sum:ud K mainGlobals "sum"=some none)
  (qbe:ud K mainGlobals "tuple"=some none)
  (z_zip:ud K mainGlobals "zip"=some none)
  (QaC:ud K mainGlobals "ValueError"=some none)
  (a0:ud K mainGlobals "NoPicture"=some (some (.ref c0)))
  (ci0:Xe K c0=some cd0)
  (ty0:ug K (.ref c0)=some (.type "type"))
  (a1:ud K mainGlobals "OutOfPicture"=some (some (.ref c1)))
  (ci1:Xe K c1=some cd1)
  (ty1:ug K (.ref c1)=some (.type "type"))
  (a2:ud K mainGlobals "NoMeet"=some (some (.ref c2)))
  (ci2:Xe K c2=some cd2)
  (ty2:ug K (.ref c2)=some (.type "type"))
  (a3:ud K mainGlobals "NoTile"=some (some (.ref c3)))
  (ci3:Xe K c3=some cd3)
  (ty3:ug K (.ref c3)=some (.type "type"))
  (a4:ud K mainGlobals "NoInks"=some (some (.ref c4)))
  (ci4:Xe K c4=some cd4)
  (ty4:ug K (.ref c4)=some (.type "type"))
  (a5:ud K mainGlobals "NoShares"=some (some (.ref c5)))
  (ci5:Xe K c5=some cd5)
  (ty5:ug K (.ref c5)=some (.type "type"))
  (a6:ud K mainGlobals "NoShade"=some (some (.ref c6)))
  (ci6:Xe K c6=some cd6)
  (ty6:ug K (.ref c6)=some (.type "type"))
  (a7:ud K mainGlobals "NoStretches"=some (some (.ref c7)))
  (ci7:Xe K c7=some cd7)
  (ty7:ug K (.ref c7)=some (.type "type"))
  (a8:ud K mainGlobals "NoWay"=some (some (.ref c8)))
  (ci8:Xe K c8=some cd8)
  (ty8:ug K (.ref c8)=some (.type "type"))
  (a9:ud K mainGlobals "NoText"=some (some (.ref c9)))
  (ci9:Xe K c9=some cd9)
  (ty9:ug K (.ref c9)=some (.type "type"))
  (aB:ud K mainGlobals "DotError"=some (some (.ref B)))
  (qB:Ws K B bmV "ValueError.__new__"=true)
  (gn:uq K (.builtin "object.__class__") "__get__"=some (some (.builtin "getset_descriptor.__get__")))
  (tk:Xt K (.builtin "object.__class__")=some true)
  (q0:Ws K c0 bmV "ValueError.__new__"=true)
  (ga0:Vc K (.ref c0) "__getattribute__"=some (some (.builtin "BaseException.__getattribute__")))
  (gt0:Vc K (.ref c0) "__getattr__"=some none)
  (cl0:Vc K (.ref c0) "__class__"=some (some (.builtin "object.__class__")))
  (mo0:Vp K c0 (.type "object")=some true)
  (sv0:Va K (.ref c0) (.type "ValueError")=some true)
  (un0:cd0.mro.tail.contains (.ref B)=true)
  (s0_0:Va K (.ref c0) (.ref c0)=some true)
  (s0_1:Va K (.ref c0) (.ref c1)=some false)
  (s0_2:Va K (.ref c0) (.ref c2)=some false)
  (s0_3:Va K (.ref c0) (.ref c3)=some false)
  (s0_4:Va K (.ref c0) (.ref c4)=some false)
  (s0_5:Va K (.ref c0) (.ref c5)=some false)
  (s0_6:Va K (.ref c0) (.ref c6)=some false)
  (s0_7:Va K (.ref c0) (.ref c7)=some false)
  (s0_8:Va K (.ref c0) (.ref c8)=some false)
  (s0_9:Va K (.ref c0) (.ref c9)=some false)
  (q1:Ws K c1 bmV "ValueError.__new__"=true)
  (ga1:Vc K (.ref c1) "__getattribute__"=some (some (.builtin "BaseException.__getattribute__")))
  (gt1:Vc K (.ref c1) "__getattr__"=some none)
  (cl1:Vc K (.ref c1) "__class__"=some (some (.builtin "object.__class__")))
  (mo1:Vp K c1 (.type "object")=some true)
  (sv1:Va K (.ref c1) (.type "ValueError")=some true)
  (un1:cd1.mro.tail.contains (.ref B)=true)
  (s1_0:Va K (.ref c1) (.ref c0)=some false)
  (s1_1:Va K (.ref c1) (.ref c1)=some true)
  (s1_2:Va K (.ref c1) (.ref c2)=some false)
  (s1_3:Va K (.ref c1) (.ref c3)=some false)
  (s1_4:Va K (.ref c1) (.ref c4)=some false)
  (s1_5:Va K (.ref c1) (.ref c5)=some false)
  (s1_6:Va K (.ref c1) (.ref c6)=some false)
  (s1_7:Va K (.ref c1) (.ref c7)=some false)
  (s1_8:Va K (.ref c1) (.ref c8)=some false)
  (s1_9:Va K (.ref c1) (.ref c9)=some false)
  (q2:Ws K c2 bmV "ValueError.__new__"=true)
  (ga2:Vc K (.ref c2) "__getattribute__"=some (some (.builtin "BaseException.__getattribute__")))
  (gt2:Vc K (.ref c2) "__getattr__"=some none)
  (cl2:Vc K (.ref c2) "__class__"=some (some (.builtin "object.__class__")))
  (mo2:Vp K c2 (.type "object")=some true)
  (sv2:Va K (.ref c2) (.type "ValueError")=some true)
  (un2:cd2.mro.tail.contains (.ref B)=true)
  (s2_0:Va K (.ref c2) (.ref c0)=some false)
  (s2_1:Va K (.ref c2) (.ref c1)=some false)
  (s2_2:Va K (.ref c2) (.ref c2)=some true)
  (s2_3:Va K (.ref c2) (.ref c3)=some false)
  (s2_4:Va K (.ref c2) (.ref c4)=some false)
  (s2_5:Va K (.ref c2) (.ref c5)=some false)
  (s2_6:Va K (.ref c2) (.ref c6)=some false)
  (s2_7:Va K (.ref c2) (.ref c7)=some false)
  (s2_8:Va K (.ref c2) (.ref c8)=some false)
  (s2_9:Va K (.ref c2) (.ref c9)=some false)
  (qap:ud K mainGlobals "Picture"=some (some (.ref zd)))
  (Yan:Xe K zd=some Za7)
  (zal:ug K (.ref zd)=some (.type "type"))
  (Qm:Vu K zd Str.empty=true)
  (zn:xu K zd=true)
  (Ym:xy K zd=true)
  (Zm:Vc K (.ref zd) "__setattr__"=some (some (.builtin "object.__setattr__")))
  (Zr:Vc K (.ref zd) "__class__"=some (some (.builtin "object.__class__")))
  (yr:Vp K zd (.type "object")=some true)
  (Qal:Vc K (.ref zd) "most"=some none)
  (yan:Vc K (.ref zd) "rows"=some none)
  (Qaf:Va K (.ref zd) (.type "dict")=some false)
  (zaf:Va K (.ref zd) (.type "list")=some false)
  (Qab:Va K (.ref zd) (.type "tuple")=some false)
  (Zaq:Va K (.ref zd) (.type "str")=some false)
  (Yal:Va K (.ref zd) (.type "int")=some false)
  (qaf:Va K (.ref zd) (.type "bool")=some false)
  (ZA:Va K (.ref zd) (.ref zd)=some true)
  (ya2:wt K zd=true)
  (zaZ:Ug K (.ref zd)=true)
  (qa1:Vc K (.ref zd) "__init__"=some (some (.ref ZE)))
  (YaZ:UB K (.ref ZE)=true)
  (Qa4:K.lookup ZE=some ⟨qaF,zaM,.func (Vi "__init__" "Picture.__init__" (Qq yi) (Qh yi) (yb yi) .none ZaL zaE YaH zaI Z2 yaE),qaL⟩)
  (Qa3:xn K Z2 "Picture.__init__"=true)
  (Qa9:Ug K (.ref ZE)=true)
  (al:ud K mainGlobals "law"=some (some (.ref YbF)))
  (ll:K.lookup YbF=some ⟨zce,qct,.func (Vi "law" "law" (Qq ZT) (Qh ZT) (yb ZT) .none ybz QbM ZbG YbQ QaZ zbz),yco⟩)
  (kl:xn K QaZ "law"=true)
  (kq:Ug K (.ref YbF)=true) :
  ∃ fd:FuncData,(∀(s:Shared)(v:Value),BindsTo s fd ⟨[v],[]⟩ [("_law_script",v)])/\∀ base:Heap,K.In base->base.Ns mainGlobals mg->FnOk l.prog w K mg base (CX1 l.prog w) 20 fa fd ["_law_script"] (Zbe K):=by
 have e:=hfa.symm.trans (Xg X G al);cases e;have F_Picture:=zba (st:=yi) Qa4 Qa3 Qa9;have qa8:=F_Picture.binds (ps:=["self","most","rows"]) λ_ _ _ _ _ _ us hl=>by obtain⟨_,_,_,rfl⟩:=ln3 hl;rfl
 have Fl:=zba (st:=ZT) ll kl kq;have T:Text K mg prog (ctOf K zd c0 c1 c2 B):=by
  refine⟨rfl,?_,?_,?_,?_,?_,?_,?_,?_,?_,?_,?_,?_,?_,?_,?_,?_,?_⟩
  ·exactλf d hd hdot=>Qav (L:=defsL) (P:=λf d=>f.toList.contains '.'=false->∃ st N ps,Src K mg (Str.ofString f) st ps/\(ym prog d N ps st=true\/YbM K mg prog (ctOf K zd c0 c1 c2 B) f ps)) (by
   refine⟨?_,?_,?_,?_,?_,?_,?_,?_,?_,?_,?_,?_,?_,?_,?_,?_,?_,?_,?_,?_,?_,?_,?_,?_,?_,?_,?_,trivial⟩
   ·exactλ_=>⟨_,_,_,YX,.inl Zbb⟩
   ·exactλ_=>⟨_,_,_,QX,.inl Ya3⟩
   ·exactλ_=>⟨_,_,_,Qx,.inl Qae⟩
   ·exactλhdot=>absurd hdot (by decide)
   ·exactλ_=>⟨_,_,_,yba,.inl Qci⟩
   ·exactλ_=>⟨_,_,_,Qa6,.inl Ycp⟩
   ·exactλ_=>⟨_,_,_,Z6,.inl zbo⟩
   ·exactλ_=>⟨_,_,_,qU,.inl za8⟩
   ·exactλ_=>⟨_,_,_,qV,.inl Ya9⟩
   ·exactλ_=>⟨_,_,_,QU,.inl qa7⟩
   ·exactλ_=>⟨_,_,_,zG,.inl Zas⟩
   ·exactλ_=>⟨_,_,_,QW,.inl Za6⟩
   ·exactλ_=>⟨_,_,_,qP,.inl zaT⟩
   ·exactλ_=>⟨_,_,_,ZO,.inl yaS⟩
   ·exactλ_=>⟨_,_,_,zac,.inl ybk⟩
   ·exactλ_=>⟨_,_,_,qI,.inl yaG⟩
   ·exactλ_=>⟨_,_,_,yx,.inl yag⟩
   ·exactλ_=>⟨_,_,_,ZG,.inl Yas⟩
   ·exactλ_=>⟨_,_,_,YO,.inl ZaR⟩
   ·exactλ_=>⟨_,_,_,ZN,.inl qaT⟩
   ·exactλ_=>⟨_,_,_,yO,.inl yaU⟩
   ·exactλ_=>⟨_,_,_,QI,.inl zaC⟩
   ·exactλ_=>⟨_,_,_,qY,.inl Yba⟩
   ·exactλ_=>⟨_,_,_,yD,.inl Yaj⟩
   ·exactλ_=>⟨_,_,_,yaa,.inl Zbt⟩
   ·exactλ_=>⟨_,_,_,zX,.inl za7⟩
   ·exactλ_=>⟨_,_,_,ZbJ,.inl Qb5⟩) hd hdot
  ·intro c f hi;simp only[prog] at hi;split at hi
   ·cases hi;exact⟨_,_,_,_,_,_,_,_,rfl,⟨ya2,qa1,YaZ,zaZ⟩,F_Picture,qa8,Xg X G qap,YV⟩
   ·cases hi
  ·intro x hx;simp only[fnNames,tyNames,isTys,Xr,Vk,ua,uc,or_false] at hx
   rcases hx with rfl|rfl|rfl|rfl|rfl|rfl|rfl|rfl|rfl|rfl|rfl|rfl|rfl|rfl|rfl|rfl|rfl|rfl
   ·exact Vd X G qb5
   ·exact Vd X G z_all
   ·exact Vd X G z_min
   ·exact Vd X G z_max
   ·exact Vd X G qbe
   ·exact Vd X G qbK
   ·exact Vd X G Yck
   ·exact Vd X G qbK
   ·exact Vd X G qbe
   ·exact Vd X G z_str
   ·exact Vd X G z_int
   ·exact Vd X G zcc
   ·exact Vd X G Ybd
   ·exact Vd X G z_zip
   ·exact Vd X G qaQ
   ·exact Vd X G Y4
   ·exact Vd X G QbF
   ·exact Vd X G ZaZ
  ·intro c f hf;simp only[prog] at hf;split at hf
   ·exact⟨⟨Qm,zn,Ym,Zm⟩,Qal⟩
   ·exact⟨⟨Qm,zn,Ym,Zm⟩,yan⟩
   ·cases hf
  ·intro c t b hs;simp only[prog] at hs;split at hs
   ·exact⟨⟨Qm,zn,Ym,Zm⟩,Zr,gn,tk,yr⟩
   ·exact⟨⟨Qm,zn,Ym,Zm⟩,Zr,gn,tk,yr⟩
   ·exact⟨⟨Qm,zn,Ym,Zm⟩,Zr,gn,tk,yr⟩
   ·exact⟨⟨Qm,zn,Ym,Zm⟩,Zr,gn,tk,yr⟩
   ·exact⟨⟨Qm,zn,Ym,Zm⟩,Zr,gn,tk,yr⟩
   ·exact⟨⟨Qm,zn,Ym,Zm⟩,Zr,gn,tk,yr⟩
   ·exact⟨⟨Qm,zn,Ym,Zm⟩,Zr,gn,tk,yr⟩
   ·cases hs
  ·intro c t b hs ht;simp only[prog] at hs;split at hs
   ·cases hs;exact⟨Xg X G qap,Ye ZA Yan zal ZA⟩
   ·exact absurd ht (by decide)
   ·exact absurd ht (by decide)
   ·exact absurd ht (by decide)
   ·exact absurd ht (by decide)
   ·exact absurd ht (by decide)
   ·exact absurd ht (by decide)
   ·cases hs
  ·intro c t b hs ht;simp only[prog] at hs;split at hs
   ·exact absurd ht (by decide)
   ·cases hs;exact YL (YS (by decide)) Qaf
   ·cases hs;exact YL (YS (by decide)) zaf
   ·cases hs;exact YL (YS (by decide)) Qab
   ·cases hs;exact YL (YS (by decide)) Zaq
   ·cases hs;exact YL (YS (by decide)) Yal
   ·cases hs;exact YL (YS (by decide)) qaf
   ·cases hs
  ·intro t c b hs ht TT hTT;simp only[prog] at hs;split at hs
   ·exact Qch (zb2 _ TT hTT) Yan zal
   ·exact absurd ht (by decide)
   ·exact absurd ht (by decide)
   ·exact absurd ht (by decide)
   ·exact absurd ht (by decide)
   ·exact absurd ht (by decide)
   ·exact absurd ht (by decide)
   ·cases hs
  ·intro c hc;simp only[prog] at hc;split at hc
   ·exact⟨q0,Xg X G a0⟩
   ·exact⟨q1,Xg X G a1⟩
   ·exact⟨q2,Xg X G a2⟩
   ·cases hc
  ·intro wd hw;simp only[prog] at hw;split at hw
   ·refine⟨qB,Xg X G aB,λP w base=>⟨_,DefOkH.imp (Zb0 QO (Vd X G Y4) (Vd X G Ybd) (Vd X G qb5) (Vd X G QaC) (Xg X G a0) (Xg X G a1) (Xg X G a2) (Xg X G a3) (Xg X G a4) (Xg X G a5) (Xg X G a6) (Xg X G a7) (Xg X G a8) (Xg X G a9)) ?_⟩,?_⟩
    ·intro x C vs H Q E ⟨e1,c,s,e2,hs,hQ⟩;refine⟨e1,?_⟩;simp only[prog] at hs;split at hs
     ·cases hs;rw[show C=c0 from e2];exact⟨0,⟨⟨q0,ga0,gt0,cl0,gn,tk,mo0,by show(Xe K c0).isSome=true;rw[ci0];rfl⟩,λj D h=>match j,D,h with
      |0,D,h=>by cases h;exact Ye s0_0 ci0 ty0 s0_0
      |1,D,h=>by cases h;exact Ye s0_0 ci1 ty1 s0_1
      |2,D,h=>by cases h;exact Ye s0_0 ci2 ty2 s0_2
      |3,D,h=>by cases h;exact Ye s0_0 ci3 ty3 s0_3
      |4,D,h=>by cases h;exact Ye s0_0 ci4 ty4 s0_4
      |5,D,h=>by cases h;exact Ye s0_0 ci5 ty5 s0_5
      |6,D,h=>by cases h;exact Ye s0_0 ci6 ty6 s0_6
      |7,D,h=>by cases h;exact Ye s0_0 ci7 ty7 s0_7
      |8,D,h=>by cases h;exact Ye s0_0 ci8 ty8 s0_8
      |9,D,h=>by cases h;exact Ye s0_0 ci9 ty9 s0_9
      |_+10,D,h=>by simp at h,YL ZY sv0,by decide⟩,hQ⟩
     ·cases hs;rw[show C=c1 from e2];exact⟨1,⟨⟨q1,ga1,gt1,cl1,gn,tk,mo1,by show(Xe K c1).isSome=true;rw[ci1];rfl⟩,λj D h=>match j,D,h with
      |0,D,h=>by cases h;exact Ye s1_1 ci0 ty0 s1_0
      |1,D,h=>by cases h;exact Ye s1_1 ci1 ty1 s1_1
      |2,D,h=>by cases h;exact Ye s1_1 ci2 ty2 s1_2
      |3,D,h=>by cases h;exact Ye s1_1 ci3 ty3 s1_3
      |4,D,h=>by cases h;exact Ye s1_1 ci4 ty4 s1_4
      |5,D,h=>by cases h;exact Ye s1_1 ci5 ty5 s1_5
      |6,D,h=>by cases h;exact Ye s1_1 ci6 ty6 s1_6
      |7,D,h=>by cases h;exact Ye s1_1 ci7 ty7 s1_7
      |8,D,h=>by cases h;exact Ye s1_1 ci8 ty8 s1_8
      |9,D,h=>by cases h;exact Ye s1_1 ci9 ty9 s1_9
      |_+10,D,h=>by simp at h,YL ZY sv1,by decide⟩,hQ⟩
     ·cases hs;rw[show C=c2 from e2];exact⟨2,⟨⟨q2,ga2,gt2,cl2,gn,tk,mo2,by show(Xe K c2).isSome=true;rw[ci2];rfl⟩,λj D h=>match j,D,h with
      |0,D,h=>by cases h;exact Ye s2_2 ci0 ty0 s2_0
      |1,D,h=>by cases h;exact Ye s2_2 ci1 ty1 s2_1
      |2,D,h=>by cases h;exact Ye s2_2 ci2 ty2 s2_2
      |3,D,h=>by cases h;exact Ye s2_2 ci3 ty3 s2_3
      |4,D,h=>by cases h;exact Ye s2_2 ci4 ty4 s2_4
      |5,D,h=>by cases h;exact Ye s2_2 ci5 ty5 s2_5
      |6,D,h=>by cases h;exact Ye s2_2 ci6 ty6 s2_6
      |7,D,h=>by cases h;exact Ye s2_2 ci7 ty7 s2_7
      |8,D,h=>by cases h;exact Ye s2_2 ci8 ty8 s2_8
      |9,D,h=>by cases h;exact Ye s2_2 ci9 ty9 s2_9
      |_+10,D,h=>by simp at h,YL ZY sv2,by decide⟩,hQ⟩
     ·cases hs
    ·intro c s hs;simp only[prog] at hs;split at hs
     ·exact⟨q0,by show(zt K c0).contains (.ref B)=true;rw[Za2 ci0];exact un0⟩
     ·exact⟨q1,by show(zt K c1).contains (.ref B)=true;rw[Za2 ci1];exact un1⟩
     ·exact⟨q2,by show(zt K c2).contains (.ref B)=true;rw[Za2 ci2];exact un2⟩
     ·cases hs
   ·cases hw
  ·exactλt ht=>nomatch (show false=true from ht)
  ·exactλc t b hs=>nomatch (show none=some b from hs)
  ·exactλf ds h=>nomatch (show false=true from h)
  ·intro c m f hm hi;simp only[prog] at hm;split at hm
   ·exact absurd (by rfl) hi
   ·cases hm
  ·exactλc hc=>nomatch (show false=true from hc)
  ·intro x i hx;simp only[prog] at hx;cases hx
  ·exactλh=>nomatch (show false=true from h)
 exact⟨Vi "law" "law" (Qq ZT) (Qh ZT) (yb ZT) .none ybz QbM ZbG YbQ QaZ zbz,λs v=>.of_eq rfl,λbase kb _=>yct (n:=9) T kb (λz=>absurd rfl z) Fl rfl Qb5 (λns hl=>MP.run_law 0 ns hl)⟩
end SD
open PySem PySem.W PyProof.Rows L2 L3 M3 SD
set_option maxRecDepth 100000 in
set_option maxHeartbeats 0 in
theorem PySem.Challenge.cw_dotscreen_k55_laid_over_holds : PySem.Challenge.rw_dotscreen_k55_laid_over.Holds := by
 w_on;o_law;k_head;(case hw=>w_witness2)
 k_fill
 refine SD.walk (l:=PySem.Challenge.rw_dotscreen_k55_laid_over) (k:=20) rfl rfl ⟨rfl,by decide,by decide⟩ (λw h Y=>PySem.W.kIn_of Y) ?F
 case F =>
  intro w mg fa h KX G hmg;have YX:Src (L2.KOf KX) mg "own_rows" yU ["rows"]:=by
   dsimp only[L2.KOf];refine' SD.src_mk KX G (λ_ _ _ _ _ _ us hl=>by obtain⟨_,rfl⟩:=SD.ln1 hl;rfl) ?a ?l ?c ?k
   (case a|l|c|k=>k_is)
  have QX:Src (L2.KOf KX) mg "fault_of" qX ["rows","least","greatest"]:=by
   dsimp only[L2.KOf];refine' SD.src_mk KX G (λ_ _ _ _ _ _ us hl=>by obtain⟨_,_,_,rfl⟩:=SD.ln3 hl;rfl) ?a ?l ?c ?k
   (case a|l|c|k=>k_is)
  have Qx:Src (L2.KOf KX) mg "cells_by_rows" Yx ["high","wide"]:=by
   dsimp only[L2.KOf];refine' SD.src_mk KX G (λ_ _ _ _ _ _ us hl=>by obtain⟨_,_,rfl⟩:=SD.ln2 hl;rfl) ?a ?l ?c ?k
   (case a|l|c|k=>k_is)
  have yba:Src (L2.KOf KX) mg "high" za6 ["picture"]:=by
   dsimp only[L2.KOf];refine' SD.src_mk KX G (λ_ _ _ _ _ _ us hl=>by obtain⟨_,rfl⟩:=SD.ln1 hl;rfl) ?a ?l ?c ?k
   (case a|l|c|k=>k_is)
  have Qa6:Src (L2.KOf KX) mg "wide" ya5 ["picture"]:=by
   dsimp only[L2.KOf];refine' SD.src_mk KX G (λ_ _ _ _ _ _ us hl=>by obtain⟨_,rfl⟩:=SD.ln1 hl;rfl) ?a ?l ?c ?k
   (case a|l|c|k=>k_is)
  have Z6:Src (L2.KOf KX) mg "size_of" Yaa ["picture"]:=by
   dsimp only[L2.KOf];refine' SD.src_mk KX G (λ_ _ _ _ _ _ us hl=>by obtain⟨_,rfl⟩:=SD.ln1 hl;rfl) ?a ?l ?c ?k
   (case a|l|c|k=>k_is)
  have qU:Src (L2.KOf KX) mg "has_cell" YU ["picture","cell"]:=by
   dsimp only[L2.KOf];refine' SD.src_mk KX G (λ_ _ _ _ _ _ us hl=>by obtain⟨_,_,rfl⟩:=SD.ln2 hl;rfl) ?a ?l ?c ?k
   (case a|l|c|k=>k_is)
  have qV:Src (L2.KOf KX) mg "ask_cell" ZW ["picture","cell"]:=by
   dsimp only[L2.KOf];refine' SD.src_mk KX G (λ_ _ _ _ _ _ us hl=>by obtain⟨_,_,rfl⟩:=SD.ln2 hl;rfl) ?a ?l ?c ?k
   (case a|l|c|k=>k_is)
  have QU:Src (L2.KOf KX) mg "shade_at" zW ["picture","cell"]:=by
   dsimp only[L2.KOf];refine' SD.src_mk KX G (λ_ _ _ _ _ _ us hl=>by obtain⟨_,_,rfl⟩:=SD.ln2 hl;rfl) ?a ?l ?c ?k
   (case a|l|c|k=>k_is)
  have zG:Src (L2.KOf KX) mg "with_shades" QF ["picture","pairs"]:=by
   dsimp only[L2.KOf];refine' SD.src_mk KX G (λ_ _ _ _ _ _ us hl=>by obtain⟨_,_,rfl⟩:=SD.ln2 hl;rfl) ?a ?l ?c ?k
   (case a|l|c|k=>k_is)
  have QW:Src (L2.KOf KX) mg "laid_out" ZV ["most","size","pairs"]:=by
   dsimp only[L2.KOf];refine' SD.src_mk KX G (λ_ _ _ _ _ _ us hl=>by obtain⟨_,_,_,rfl⟩:=SD.ln3 hl;rfl) ?a ?l ?c ?k
   (case a|l|c|k=>k_is)
  have qP:Src (L2.KOf KX) mg "ask_mosts" zP ["one","other"]:=by
   dsimp only[L2.KOf];refine' SD.src_mk KX G (λ_ _ _ _ _ _ us hl=>by obtain⟨_,_,rfl⟩:=SD.ln2 hl;rfl) ?a ?l ?c ?k
   (case a|l|c|k=>k_is)
  have ZO:Src (L2.KOf KX) mg "laid_over" QM ["pictures"]:=by
   dsimp only[L2.KOf];refine' SD.src_mk KX G (λ_ _ _ _ _ _ us hl=>by obtain⟨_,rfl⟩:=SD.ln1 hl;rfl) ?a ?l ?c ?k
   (case a|l|c|k=>k_is)
  have zac:Src (L2.KOf KX) mg "seen_of" y9 ["pictures"]:=by
   dsimp only[L2.KOf];refine' SD.src_mk KX G (λ_ _ _ _ _ _ us hl=>by obtain⟨_,rfl⟩:=SD.ln1 hl;rfl) ?a ?l ?c ?k
   (case a|l|c|k=>k_is)
  have qI:Src (L2.KOf KX) mg "ask_layers" YI ["pictures"]:=by
   dsimp only[L2.KOf];refine' SD.src_mk KX G (λ_ _ _ _ _ _ us hl=>by obtain⟨_,rfl⟩:=SD.ln1 hl;rfl) ?a ?l ?c ?k
   (case a|l|c|k=>k_is)
  have yx:Src (L2.KOf KX) mg "seen_by_cells" qx ["pictures"]:=by
   dsimp only[L2.KOf];refine' SD.src_mk KX G (λ_ _ _ _ _ _ us hl=>by obtain⟨_,rfl⟩:=SD.ln1 hl;rfl) ?a ?l ?c ?k
   (case a|l|c|k=>k_is)
  have ZG:Src (L2.KOf KX) mg "number_seen" YF ["pictures","cell"]:=by
   dsimp only[L2.KOf];refine' SD.src_mk KX G (λ_ _ _ _ _ _ us hl=>by obtain⟨_,_,rfl⟩:=SD.ln2 hl;rfl) ?a ?l ?c ?k
   (case a|l|c|k=>k_is)
  have YO:Src (L2.KOf KX) mg "_law_next" YQ ["_law_script","_law_at"]:=by
   dsimp only[L2.KOf];refine' SD.src_mk KX G (λ_ _ _ _ _ _ us hl=>by obtain⟨_,_,rfl⟩:=SD.ln2 hl;rfl) ?a ?l ?c ?k
   (case a|l|c|k=>k_is)
  have ZN:Src (L2.KOf KX) mg "_law_same" ZQ ["_law_found","_law_due_here"]:=by
   dsimp only[L2.KOf];refine' SD.src_mk KX G (λ_ _ _ _ _ _ us hl=>by obtain⟨_,_,rfl⟩:=SD.ln2 hl;rfl) ?a ?l ?c ?k
   (case a|l|c|k=>k_is)
  have yO:Src (L2.KOf KX) mg "_law_most" QP ["_law_script","_law_at"]:=by
   dsimp only[L2.KOf];refine' SD.src_mk KX G (λ_ _ _ _ _ _ us hl=>by obtain⟨_,_,rfl⟩:=SD.ln2 hl;rfl) ?a ?l ?c ?k
   (case a|l|c|k=>k_is)
  have QI:Src (L2.KOf KX) mg "_law_layer" yJ ["_law_script","_law_at","_law_most_here","_law_tall","_law_broad"]:=by
   dsimp only[L2.KOf];refine' SD.src_mk KX G (λ_ _ _ _ _ _ us hl=>by obtain⟨_,_,_,_,_,rfl⟩:=SD.ln5 hl;rfl) ?a ?l ?c ?k
   (case a|l|c|k=>k_is)
  have qY:Src (L2.KOf KX) mg "_law_due" yV ["_law_pictures"]:=by
   dsimp only[L2.KOf];refine' SD.src_mk KX G (λ_ _ _ _ _ _ us hl=>by obtain⟨_,rfl⟩:=SD.ln1 hl;rfl) ?a ?l ?c ?k
   (case a|l|c|k=>k_is)
  have yD:Src (L2.KOf KX) mg "_law_refused" zA ["_law_pictures"]:=by
   dsimp only[L2.KOf];refine' SD.src_mk KX G (λ_ _ _ _ _ _ us hl=>by obtain⟨_,rfl⟩:=SD.ln1 hl;rfl) ?a ?l ?c ?k
   (case a|l|c|k=>k_is)
  have yaa:Src (L2.KOf KX) mg "_law_is" zab ["_law_found","_law_most_here","_law_rows"]:=by
   dsimp only[L2.KOf];refine' SD.src_mk KX G (λ_ _ _ _ _ _ us hl=>by obtain⟨_,_,_,rfl⟩:=SD.ln3 hl;rfl) ?a ?l ?c ?k
   (case a|l|c|k=>k_is)
  have zX:Src (L2.KOf KX) mg "_law_one" QV ["_law_script","_law_at"]:=by
   dsimp only[L2.KOf];refine' SD.src_mk KX G (λ_ _ _ _ _ _ us hl=>by obtain⟨_,_,rfl⟩:=SD.ln2 hl;rfl) ?a ?l ?c ?k
   (case a|l|c|k=>k_is)
  have ZbJ:Src (L2.KOf KX) mg "law" ZT ["_law_script"]:=by
   dsimp only[L2.KOf];refine' SD.src_mk KX G (λ_ _ _ _ _ _ us hl=>by obtain⟨_,rfl⟩:=SD.ln1 hl;rfl) ?a ?l ?c ?k
   (case a|l|c|k=>k_is)
  have QO:Src (L2.KOf KX) mg "_law_word" YE ["_law_e"]:=by
   dsimp only[L2.KOf];refine' SD.src_mk KX G (λ_ _ _ _ _ _ us hl=>by obtain⟨_,rfl⟩:=SD.ln1 hl;rfl) ?a ?l ?c ?k
   (case a|l|c|k=>k_is)
  refine' SD.all_mk KX G hmg YX QX Qx yba Qa6 Z6 qU qV QU zG QW qP ZO zac qI yx ZG YO ZN yO QI qY yD yaa zX ZbJ QO  ?x0 ?x1 ?x2 ?x3 ?x4 ?x5 ?x6 ?x7 ?x8 ?x9 ?x10 ?x11 ?x12 ?x13 ?x14 ?x15 ?x16 ?x17 ?x18 ?x19 ?x20 ?x21 ?x22 ?x23 ?x24 ?x25 ?x26 ?x27 ?x28 ?x29 ?x30 ?x31 ?x32 ?x33 ?x34 ?x35 ?x36 ?x37 ?x38 ?x39 ?x40 ?x41 ?x42 ?x43 ?x44 ?x45 ?x46 ?x47 ?x48 ?x49 ?x50 ?x51 ?x52 ?x53 ?x54 ?x55 ?x56 ?x57 ?x58 ?x59 ?x60 ?x61 ?x62 ?x63 ?x64 ?x65 ?x66 ?x67 ?x68 ?x69 ?x70 ?x71 ?x72 ?x73 ?x74 ?x75 ?x76 ?x77 ?x78 ?x79 ?x80 ?x81 ?x82 ?x83 ?x84 ?x85 ?x86 ?x87 ?x88 ?x89 ?x90 ?x91 ?x92 ?x93 ?x94 ?x95 ?x96 ?x97 ?x98 ?x99 ?x100 ?x101 ?x102 ?x103 ?x104 ?x105 ?x106 ?x107 ?x108 ?x109 ?x110 ?x111 ?x112 ?x113 ?x114 ?x115 ?x116 ?x117 ?x118 ?x119 ?x120 ?x121 ?x122 ?x123 ?x124 ?x125 ?x126 ?x127 ?x128 ?x129 ?x130 ?x131 ?x132 ?x133
  (case x0|x1|x2|x3|x4|x5|x6|x7|x8|x9|x10|x11|x12|x13|x14|x15|x16|x17|x18|x19|x20|x21|x22|x23|x24|x25|x26|x27|x28|x29|x30|x31|x32|x33|x34|x35|x36|x37|x38|x39|x40|x41|x42|x43|x44|x45|x46|x47|x48|x49|x50|x52|x53|x55|x56|x57|x58|x59|x61|x62|x63|x64|x65|x66|x67|x68|x69|x70|x72|x73|x74|x75|x76|x78|x79|x80|x81|x82|x83|x84|x85|x86|x87|x89|x90|x91|x92|x93|x95|x96|x97|x98|x99|x100|x101|x102|x103|x104|x105|x106|x107|x108|x109|x110|x111|x112|x113|x114|x115|x116|x117|x118|x119|x120|x121|x122|x123|x124|x125|x126|x127|x128|x129|x130|x131|x132|x133=>k_is)
  (case x51|x54|x71|x88=>k_exc)
  (case x60|x77|x94=>rfl)
end