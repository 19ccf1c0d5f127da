import PyProof.Rows.All
import Wide.All
import OpenK.AllK
import Wide.FinOn
import PySem.Challenge.RW_dotscreen_k13_spread
import Lean
import PyProof.EqAt
import PyProof.EqKinds
import PyProof.TupleCall
import PyProof.CompFree
import PyProof.StationsW
import PyProof.ExcClass3
import PyProof.Cells
import PyProof.PassesOwn
import PyProof.RangeIter
import PyProof.TableTree
import PyProof.ZipIter
import PyProof.Draws
import PyProof.TupleIter
import PyProof.EnumMake
import PyProof.EnumStmt
import KE.KDictList
import PyProof.Rows.SortWalk
import KE.KRevIter
import PyProof.CollectIter
import KE.KRevSl
import KE.KMinKey
import KE.KLam
import PyProof.DictIter
import PyProof.AttrMiss
import PyProof.IsiH_list
import PyProof.CollectWalk
import KE.KDictOf
import PyProof.DictCopy
import PyProof.FactsAll.tuple_1
import PyProof.FactsAll.dict_3
import PyProof.DictItems
import KE.KIntText
import PyProof.StrBlock2
import PyProof.Rows.StrMul
import PySem.SetOps
import PySem.Builtin.Tuple.Common
import PyProof.Rows.SetFrom
import PyProof.SetRoads
import PyProof.WalksS
import KE.KItemsList
import KE.KSortAsk
import KE.KFind
import KE.KSortTup
import PyProof.Rows.SortShell
import PyProof.ListRange
import PySem.Str
import PyProof.StrBlockL
import KE.IntTextText
import KE.IntBitsLaws
import PyProof.FitsBits
import PyProof.Rows.InDataRows
set_option maxHeartbeats 4000000
open PySem.Heap renaming get?_push_of_some->wa,lt_size->va,get?_push_size->Ub,size_push->Xg,get?_update_other->Ui,get?_update_self->xn,size_update->WA,size_after_update->UB,get?_none_of_le->VC,get?_push_ne->uG
open Bool renaming and_eq_true->Wa,false_eq_true->Vd,noConfusion->Uf,false_ne_true->Ug,not_eq_true'->Vh,or_eq_true->xj,true_and->Wu,and_eq_true_iff->Vv,not_true->xy,eq_iff_iff->WB,true_eq_false->xF
open List renaming range->xa,replicate->Xa,getElem?_eq_some_iff->ua,mem_cons->Ua,size_toArray->Va,getElem?_append_left->xb,lookup_cons->Xb,getElem?_eq_getElem->Wc,length_map->xc,not_mem_nil->Xc,getElem?_append_right->uc,mem_singleton->Uc,getElem?_map->Vc,map_cons->Wd,mem_append_right->Xd,getD->we,mem_cons_of_mem->We,length_cons->Ue,getElem?_set_ne->Ve,mem_append_left->Wf,length_append->Xf,getElem?_set_self->uf,nil_append->wg,mem_append->xg,map_map->vg,all_eq_true->xh,mem_of_getElem?->uh,mem_cons_self->Uh,mem_range->Wi,zipWith->ui,drop_eq_getElem_cons->Vi,getD_eq_getElem?_getD->uj,replicate_succ->Vj,forIn_cons->Xk,map_append->uk,take_of_length_le->vk,getElem_map->wl,getElem?_take_of_lt->Xl,mem_map->Vl,ext_getElem?->Wm,length_take->Xm,forIn_nil->Um,map_nil->Vm,length_replicate->Wn,take_append_drop->Xn,pairwise_iff_getElem->wo,getElem_mem->xo,ext_getElem->Xo,flatten_replicate_singleton->uo,getElem?_replicate->Uo,nodup_cons->Vo,length_nil->Wp,length->Vp,eq_nil_of_length_eq_zero->wq,flatten_cons->Wq,append_assoc->xq,zipIdx_cons->vq,getElem?_mapIdx->wr,lookup->Wr,filterMap_cons->Xr,map_congr_left->Ur,append_nil->Xs,extract_eq_take_drop->Us,range_succ->Vs,getElem_range->wt,drop_of_length_le->vt,range'->Vt,length_drop->Xu,perm_append_comm->Uu,set_append_right->Vu,eraseIdxIfInBounds_toArray->wv,zipIdx_nil->xv,map_set->xw,getElem_of_mem->Xw,length_pos_iff->uw,getElem?_range->Uw,flatMap_append->vw,mapM_cons->Vw,drop_zero->wx,getElem?_drop->xx,contains_cons->Xx,map_replicate->Vx,take_add_one->wz,length_range->Wz,nodup_append->xz,getElem?_inj->Xz,cons_append->wA,mem_flatMap->uA,of_mem_zip->VA,foldl_cons->wB,length_zip->XB,getElem_cons_succ->vB,getElem_cons_zero->VB,length_singleton->WC,getElem?_eq_none->UC,mem_iff_getElem->wD,mem_of_mem_take->xD,mem_of_mem_drop->XD,length_zipWith->UD,filter_eq_self->vD,drop_succ_cons->VD,mem_filterMap->xE,foldlM_append->VE,pairwise_cons->wF,filter_append->XF,length_range'->uF,take_sublist->WG,flatMap_cons->UG,pairwise_map->VG,take_length->UH,drop_length->vH,map_zipWith->VH,foldl->wI
open Nat renaming le_refl->wb,lt_of_lt_of_le->Vb,ne_of_lt->wc,le_trans->Xe,lt_irrefl->Xj,zero_add->Uj,zero_le->Uk,ne_of_gt->xl,lt_succ_self->xm,le_of_eq->vm,min_le_left->Xp,lt_succ_of_lt->Xq,le_succ->Ut,le_of_not_lt->uu,lt_trans->Xv,add_zero->Uv,mul_pos->Wx,le_of_lt->uz,min_eq_right->UA,mul_le_mul->vC,mul_le_mul_right->WD,add_assoc->uD,add_comm->uE,mul_comm->WF,lt_trichotomy->XG,log2_lt->wH,one_mul->WH,le_add_right->uH
open Option renaming bind_eq_some_iff->Wb,map_eq_some_iff->ub,isSome_iff_exists->Wj,bind_some->xk,map_some->vn,bind_eq_bind->ur,getD_some->xA,pure_def->xB,getD_none->XH
open PySem.W renaming kitOne->ud,subIn->Ud,findIn->ue,emptyDict->Wg,instObj->Vg,keepIn->Wh,mg_of->Xh,kia_one->xi,fnOf->Xi,clsIn->wj,specialIn->wm,codeIn->um,takesIn->wn,typeIn->Wo,nsIn->uq,looks_findIn->Uq,makesIn->Ws,hasDictIn->ut,mroIn->wu,plainGet->xu,kitMeta->ww,excIn->Wy,methodObj->vy,plainOver->Vy,makes_of->Uz,takerIn->vA,cellsFrom_some->uB,lookIn->wC,kitCls->uC,isFn->XE,callWith_K->UE,mg_none_of->UF,make_core->vF,kitx_list->VF,kitx_dict->wG,kdx_alive->xG,handedIn->xH
open Array renaming length_toList->xf,getElem?_toList->vh,getElem?_eq_some_iff->Vk,size_map->Wl,getElem_toList->ul,toList_push->Vn,forIn_toList->xp,mem_toList_iff->Wv,filterMap->uv,toList_extract->vv,size_extract->Ux,perm_iff_toList_perm->Xy,push_extract_getElem->Uy,mem_iff_getElem->xC,append_assoc->wE,toList->WE,getElem?_map->vE,ext'->WI
open Function renaming comp_def->Vf,comp_apply->Vr
open Int renaming toNat_natCast->ug,eq_ofNat_of_zero_le->vo,le_refl->xr,emod_lt_of_pos->Xt,emod_nonneg->Ww,fdiv_eq_ediv_of_nonneg->wy,lt_trans->Vz,emod_eq_of_lt->vG
open Prod renaming snd->Ul,fst->Vq
set_option Elab.async false
set_option linter.all false
set_option tactic.hygienic false
set_option maxRecDepth 100000
set_option genSizeOf false
set_option genSizeOfSpec false
set_option bootstrap.genMatcherCode false
def PySem.W.Fast.tw4541450337436055033:Nat:=0
def PySem.W.Fast.tw14398399151207165548:Nat:=0
def PySem.W.Fast.tw618429330536853981:Nat:=0
def PySem.W.Fast.tw1573641390187641617:Nat:=0
def PySem.W.Fast.tw1867644502593192678:Nat:=0
def PySem.W.Fast.tw15072039864756535114:Nat:=0
def PySem.W.Fast.tw1207398977401213730:Nat:=0
def PySem.W.Fast.tw5459443959146796667:Nat:=0
def PySem.W.Fast.tw11721687674710275546:Nat:=0
def PySem.W.Fast.tw13679122908413136343:Nat:=0
def PySem.W.Fast.tw4665414647798223504:Nat:=0
def PySem.W.Fast.tw13430130935026849565:Nat:=0
def PySem.W.Fast.tw12075673947877876167:Nat:=0
def PySem.W.Fast.tw635093917658368860:Nat:=0
def PySem.W.Fast.tw9066180447804464121:Nat:=0
def PySem.W.Fast.tw11114504699670310103:Nat:=0
def PySem.W.Fast.tw15714638631581044125:Nat:=0
def PySem.W.Fast.tw16574562467770375187:Nat:=0
def PySem.W.Fast.tw9182494196080389641:Nat:=0
def PySem.W.Fast.tw3884607986059989444:Nat:=0
def PySem.W.Fast.tw17551461693699591832:Nat:=0
def PySem.W.Fast.tw16115963382775688966:Nat:=0
def PySem.W.Fast.tw4684615945722517553:Nat:=0
def PySem.W.Fast.tw13516374252061816938:Nat:=0
def PySem.W.Fast.tw6528788533812326413:Nat:=0
def PySem.W.Fast.tw5674488966078230427:Nat:=0
def PySem.W.Fast.tw1039531003999366689:Nat:=0
def PySem.W.Fast.tw14676244707280226263:Nat:=0
def PySem.W.Fast.tw18089691582020167891:Nat:=0
def PySem.W.Fast.tw16030574847990806215:Nat:=0
def PySem.W.Fast.tw10415277949513325424:Nat:=0
def PySem.W.Fast.tw1529816191880431443:Nat:=0
def PySem.W.Fast.tw10117227128561237680:Nat:=0
def PySem.W.Fast.tw3528849119776797280:Nat:=0
def PySem.W.Fast.tw13319408975042786409:Nat:=0
def PySem.W.Fast.tw11594618739614923756:Nat:=0
def PySem.W.Fast.tw12519754648989080721:Nat:=0
def PySem.W.Fast.tw482394684617525346:Nat:=0
def PySem.W.Fast.tw6307751626957799682:Nat:=0
def PySem.W.Fast.tw4803519014130881060:Nat:=0
def PySem.W.Fast.tw11133486797112538725:Nat:=0
def PySem.W.Fast.tw17311438068054217516:Nat:=0
def PySem.W.Fast.tw5831266952192836497:Nat:=0
def PySem.W.Fast.tw13655398608568617112:Nat:=0
def PySem.W.Fast.tw9745677630767203992:Nat:=0
def PySem.W.Fast.tw17325535796468526754:Nat:=0
def PySem.W.Fast.tw6755514018703468172:Nat:=0
def PySem.W.Fast.tw10748486185624809017:Nat:=0
def PySem.W.Fast.tw6410517145728717885:Nat:=0
def PySem.W.Fast.tw14895501025178347817:Nat:=0
def PySem.W.Fast.tw14722449809870757163:Nat:=0
def PySem.W.Fast.tw12223964334195363924:Nat:=0
def PySem.W.Fast.tw974783680557549163:Nat:=0
def PySem.W.Fast.tw236819856986448466:Nat:=0
def PySem.W.Fast.tw15933509568636371439:Nat:=0
def PySem.W.Fast.tw12649834318607779927:Nat:=0
def PySem.W.Fast.tw4947680408725112772:Nat:=0
def PySem.W.Fast.tw10859048359055056362:Nat:=0
def PySem.W.Fast.tw3168925258640810734:Nat:=0
def PySem.W.Fast.tw14908965856332754813:Nat:=0
def PySem.W.Fast.tw3771471319193387659:Nat:=0
def PySem.W.Fast.tw1356643606784484748:Nat:=0
def PySem.W.Fast.tw14040848078765566838:Nat:=0
def PySem.W.Fast.tw2035471883780381932:Nat:=0
def PySem.W.Fast.tw13498652499183171058:Nat:=0
def PySem.W.Fast.tw3603733221984164462:Nat:=0
def PySem.W.Fast.tw13624959061539174578:Nat:=0
def PySem.W.Fast.tw17059315445860879817:Nat:=0
def PySem.W.Fast.tw1889101371082336795:Nat:=0
def PySem.W.Fast.tw13958668740656740018:Nat:=0
def PySem.W.Fast.tw12809537684621105099:Nat:=0
def PySem.W.Fast.tw3689901841613868365:Nat:=0
def PySem.W.Fast.tw9543973372707683681:Nat:=0
def PySem.W.Fast.tw18023365592880678266:Nat:=0
def PySem.W.Fast.tw10689534231336963285:Nat:=0
def PySem.W.Fast.tw11342358137477929162:Nat:=0
def PySem.W.Fast.tw10299804078472512747:Nat:=0
def PySem.W.Fast.tw3428744808325798809:Nat:=0
def PySem.W.Fast.tw17496335108358435773:Nat:=0
def PySem.W.Fast.tw17730791098443131784:Nat:=0
def PySem.W.Fast.tw15503243596431113937:Nat:=0
def PySem.W.Fast.tw2973759066485323613:Nat:=0
def PySem.W.Fast.tw17737028646382993923:Nat:=0
def PySem.W.Fast.tw10431483252708786399:Nat:=0
def PySem.W.Fast.tw4817579122628685024:Nat:=0
def PySem.W.Fast.tw17918914825421427796:Nat:=0
def PySem.W.Fast.tw85322739283037685:Nat:=0
def PySem.W.Fast.tw7477141518809171850:Nat:=0
def PySem.W.Fast.tw10620403529422877132:Nat:=0
def PySem.W.Fast.tw7743970554986088918:Nat:=0
def PySem.W.Fast.tw5922599015844025110:Nat:=0
def PySem.W.Fast.tw6124797338916193592:Nat:=0
def PySem.W.Fast.tw7596065461196654318:Nat:=0
def PySem.W.Fast.tw6839997204396513634:Nat:=0
def PySem.W.Fast.tw11703534658007113541:Nat:=0
def PySem.W.Fast.tw10224179547387334167:Nat:=0
def PySem.W.Fast.tw16518637367269377898:Nat:=0
def PySem.W.Fast.tw14668919242698169652:Nat:=0
def PySem.W.Fast.tw13515659185058367883:Nat:=0
def PySem.W.Fast.tw7697757275918529311:Nat:=0
def PySem.W.Fast.tw5485375387634159901:Nat:=0
def PySem.W.Fast.tw5303051477676526981:Nat:=0
def PySem.W.Fast.tw13443283509008288115:Nat:=0
def PySem.W.Fast.tw542982009485076536:Nat:=0
def PySem.W.Fast.tw3817456200709002078:Nat:=0
def PySem.W.Fast.tw16023285880773209437:Nat:=0
def PySem.W.Fast.tw16096782664973976758:Nat:=0
def PySem.W.Fast.tw12753354856261552892:Nat:=0
def PySem.W.Fast.tw219415405515499013:Nat:=0
def PySem.W.Fast.tw1452460119907607464:Nat:=0
def PySem.W.Fast.tw17987246274627458588:Nat:=0
def PySem.W.Fast.tw7588385433229423192:Nat:=0
def PySem.W.Fast.tw14786046618718651624:Nat:=0
def PySem.W.Fast.tw10515583483897021875:Nat:=0
def PySem.W.Fast.tw9852165103708847387:Nat:=0
def PySem.W.Fast.tw12056788409671706541:Nat:=0
def PySem.W.Fast.tw4423437892555339115:Nat:=0
def PySem.W.Fast.tw11579721237952437028:Nat:=0
def PySem.W.Fast.tw15202217770265784555:Nat:=0
def PySem.W.Fast.tw10655535880854764893:Nat:=0
def PySem.W.Fast.tw13185902693317921143:Nat:=0
def PySem.W.Fast.tw2382779856237930683:Nat:=0
def PySem.W.Fast.tw1237860248856538488:Nat:=0
def PySem.W.Fast.tw4342420953831091061:Nat:=0
def PySem.W.Fast.tw13775131533546478362:Nat:=0
def PySem.W.Fast.tw4612834313333197781:Nat:=0
def PySem.W.Fast.tw417950890653553494:Nat:=0
def PySem.W.Fast.tw102437103987623852:Nat:=0
def PySem.W.Fast.tw11066318212031560810:Nat:=0
def PySem.W.Fast.tw11512323137305558313:Nat:=0
def PySem.W.Fast.tw17458881737962843069:Nat:=0
def PySem.W.Fast.tw6718254822573940296:Nat:=0
def PySem.W.Fast.tw4456149186934259865:Nat:=0
def PySem.W.Fast.tw15045672759946205260:Nat:=0
def PySem.W.Fast.tw13161773367400789646:Nat:=0
def PySem.W.Fast.tw8033697671383311448:Nat:=0
def PySem.W.Fast.tw3521634886977509581:Nat:=0
def PySem.W.Fast.tw15225961571334331075:Nat:=0
def PySem.W.Fast.tw4969559250418593400:Nat:=0
def PySem.W.Fast.tw4665122636954459961:Nat:=0
def PySem.W.Fast.tw557242015348816258:Nat:=0
def PySem.W.Fast.tw13231738844218983700:Nat:=0
def PySem.W.Fast.tw7538078501196316603:Nat:=0
def PySem.W.Fast.tw2917683091838555287:Nat:=0
def PySem.W.Fast.tw14197690916596117633:Nat:=0
def PySem.W.Fast.tw1830042789751128254:Nat:=0
def PySem.W.Fast.tw15009839872259981301:Nat:=0
def PySem.W.Fast.tw721848733925437065:Nat:=0
def PySem.W.Fast.tw5218254702729696669:Nat:=0
def PySem.W.Fast.tw10741732353556470637:Nat:=0
def PySem.W.Fast.tw18205454678746524011:Nat:=0
def PySem.W.Fast.tw17274472838946972346:Nat:=0
def PySem.W.Fast.tw4546266484508206502:Nat:=0
def PySem.W.Fast.tw6501334137821099101:Nat:=0
def PySem.W.Fast.tw11798935792063591496:Nat:=0
def PySem.W.Fast.tw195020576178090000:Nat:=0
def PySem.W.Fast.tw7019658814578330207:Nat:=0
def PySem.W.Fast.tw7203769145183705441:Nat:=0
def PySem.W.Fast.tw12877457312106108780:Nat:=0
def PySem.W.Fast.tw14652994469121832229:Nat:=0
def PySem.W.Fast.tw16080621504011700939:Nat:=0
def PySem.W.Fast.tw3877513861228923365:Nat:=0
def PySem.W.Fast.tw7687731329495265869:Nat:=0
def PySem.W.Fast.tw8936679231808399857:Nat:=0
def PySem.W.Fast.tw15443787263596368595:Nat:=0
def PySem.W.Fast.tw1925564540000447817:Nat:=0
def PySem.W.Fast.tw15694613828371542094:Nat:=0
def PySem.W.Fast.tw7317565584369092723:Nat:=0
def PySem.W.Fast.tw6847854013721818470:Nat:=0
def PySem.W.Fast.tw6501622218129781762:Nat:=0
def PySem.W.Fast.tw6664411135772594364:Nat:=0
def PySem.W.Fast.tw4418130727610132762:Nat:=0
def PySem.W.Fast.tw16674103924152823261:Nat:=0
def PySem.W.Fast.tw3856939842209053542:Nat:=0
def PySem.W.Fast.tw2679351329183538720:Nat:=0
def PySem.W.Fast.tw8682273525677286542:Nat:=0
def PySem.W.Fast.tw15147468921532156035:Nat:=0
def PySem.W.Fast.tw6341579521601060242:Nat:=0
def PySem.W.Fast.tw12028186909076339932:Nat:=0
def PySem.W.Fast.tw10692090142370536287:Nat:=0
def PySem.W.Fast.tw9905504964454280998:Nat:=0
def PySem.W.Fast.tw13765477950058726077:Nat:=0
def PySem.W.Fast.tw16632344110906071675:Nat:=0
def PySem.W.Fast.tw4424535532096362938:Nat:=0
def PySem.W.Fast.tw13594991068267971737:Nat:=0
def PySem.W.Fast.tw16293092655690061702:Nat:=0
def PySem.W.Fast.tw9527153308040540252:Nat:=0
def PySem.W.Fast.tw6412361288179771994:Nat:=0
def PySem.W.Fast.tw906123182001021753:Nat:=0
def PySem.W.Fast.tw6571596041410989648:Nat:=0
def PySem.W.Fast.tw755288472074991989:Nat:=0
def PySem.W.Fast.tw16214284099723453302:Nat:=0
def PySem.W.Fast.tw17208928932760917150:Nat:=0
def PySem.W.Fast.tw3227176069014281539:Nat:=0
def PySem.W.Fast.tw17025580184387371059:Nat:=0
def PySem.W.Fast.tw13559384063060901846:Nat:=0
def PySem.W.Fast.tw5717134030564629014:Nat:=0
def PySem.W.Fast.tw2620573824429980470:Nat:=0
def PySem.W.Fast.tw17274567004587898160:Nat:=0
def PySem.W.Fast.tw11802360595635247674:Nat:=0
def PySem.W.Fast.tw15841033599047559883:Nat:=0
def PySem.W.Fast.tw5730223340957774376:Nat:=0
def PySem.W.Fast.tw14190785035452674290:Nat:=0
theorem OB.e2{α β}{p:α->β->Prop}{G:Prop}(h:∃ a b,p a b)(k:∀ a b,p a b->G):G:=h.elim fun a h=>Exists.elim h (k a)
theorem OB.e3{α β γ}{p:α->β->γ->Prop}{G:Prop}(h:∃ a b c,p a b c)(k:∀ a b c,p a b c->G):G:=h.elim fun a h=>OB.e2 h (k a)
theorem OB.e4{α β γ δ}{p:α->β->γ->δ->Prop}{G:Prop}(h:∃ a b c d,p a b c d)(k:∀ a b c d,p a b c d->G):G:=h.elim fun a h=>OB.e3 h (k a)
theorem OB.e5{α β γ δ ε}{p:α->β->γ->δ->ε->Prop}{G:Prop}(h:∃ a b c d e,p a b c d e)(k:∀ a b c d e,p a b c d e->G):G:=h.elim fun a h=>OB.e4 h (k a)
theorem OB.e6{α β γ δ ε ζ}{p:α->β->γ->δ->ε->ζ->Prop}{G:Prop}(h:∃ a b c d e f,p a b c d e f)(k:∀ a b c d e f,p a b c d e f->G):G:=h.elim fun a h=>OB.e5 h (k a)
theorem OB.a2{A B G:Prop}(h:A/\B)(k:A->B->G):G:=k h.1 h.2
theorem OB.a3{A B C G:Prop}(h:A/\B/\C)(k:A->B->C->G):G:=OB.a2 h.2 (k h.1)
theorem OB.a4{A B C D G:Prop}(h:A/\B/\C/\D)(k:A->B->C->D->G):G:=OB.a3 h.2 (k h.1)
theorem OB.a5{A B C D E G:Prop}(h:A/\B/\C/\D/\E)(k:A->B->C->D->E->G):G:=OB.a4 h.2 (k h.1)
theorem OB.a6{A B C D E F G:Prop}(h:A/\B/\C/\D/\E/\F)(k:A->B->C->D->E->F->G):G:=OB.a5 h.2 (k h.1)
theorem OB.a7{A B C D E F H G:Prop}(h:A/\B/\C/\D/\E/\F/\H)(k:A->B->C->D->E->F->H->G):G:=OB.a6 h.2 (k h.1)
theorem OB.a8{A B C D E F H I G:Prop}(h:A/\B/\C/\D/\E/\F/\H/\I)(k:A->B->C->D->E->F->H->I->G):G:=OB.a7 h.2 (k h.1)
theorem OB.a9{A B C D E F H I J G:Prop}(h:A/\B/\C/\D/\E/\F/\H/\I/\J)(k:A->B->C->D->E->F->H->I->J->G):G:=OB.a8 h.2 (k h.1)
open Lean in
local macro_rules|`(tactic|obtain⟨$ps,*⟩:=$e:term)=>do
 let mut xs:Array Term:=#[]
 let mut po:Array (TSyntax `tactic):=#[]
 for p in ps.getElems do
  let q:=p.raw[0][0][0]
  let i:=q[0].getId
  unless p.raw[0][0].getNumArgs==1&&p.raw[1].getNumArgs==0 do Macro.throwUnsupported
  let x:=mkIdent (.mkSimple s!"o{xs.size}'")
  if q.isOfKind `Lean.Parser.Tactic.rcasesPat.ignore then xs:=xs.push x
  else if q.isOfKind `Lean.Parser.Tactic.rcasesPat.tuple then
   xs:=xs.push x
   let qs:TSyntaxArray `Lean.Parser.Tactic.rcasesPatLo:=⟨q[1].getSepArgs.toList.map (⟨·⟩)⟩
   po:=po.push (<-`(tactic|obtain⟨$qs,*⟩:=$x:ident))
  else if q.isOfKind `Lean.Parser.Tactic.rcasesPat.one&&q[0].isIdent then
   if i==`rfl then
    xs:=xs.push x
    po:=po.push (<-`(tactic|first|subst $x:ident|cases $x:ident))
   else xs:=xs.push ⟨q[0]⟩
  else Macro.throwUnsupported
 let n:=xs.size
 if e.raw.isIdent&& !xs.any (·.raw.getId==e.raw.getId) then po:=#[(<-`(tactic|try clear $(⟨e.raw⟩):ident))]++po
 let f (c:String)(k:Nat):Term:=⟨mkIdent (if c=="e"&&k==1 then `Exists.elim else .str `OB s!"{c}{k}")⟩
 let mut al:Array (TSyntax `Lean.Parser.Tactic.tacticSeq):=#[]
 for k in [0:n] do
  if k<7&&n-k<10&&1<n then
   let y:=xs.extract k n
   let t<-if k==0 then `($(f "a" n) $e fun $xs* =>?_) else if n-k==1 then `($(f "e" k) $e fun $xs* =>?_) else
    let x:=xs.extract 0 k
    `($(f "e" k) $e fun $x* r=>$(f "a" (n-k)) r fun $y* =>?_)
   al:=al.push (<-`(tacticSeq|refine $t;$[$po]*))
 al:=al.push (<-`(tacticSeq|rcases $e:term with⟨$ps,*⟩))
 `(tactic|first $[|$al]*)
section
namespace L2
open PySem PySem.Spec PyProof.Rows
noncomputable abbrev Key:=Sum Int Str
noncomputable def Yab:Key->Value->Bool
 |.inl k,v=>Value.isInt k v
 |.inr x,v=>Value.isStrOf x v
noncomputable def keyH(w:World):Key->Int
 |.inl k=>hashInt k
 |.inr x=>hashStr w x
theorem qg:∀{k:Key}{v:Value},Yab k v=true->(∃ i t,k=Sum.inl i/\v=Value.int i t)\/(∃ x t,k=Sum.inr x/\v=Value.str x t)
 |.inl i,v,h=>by
  obtain⟨t,e⟩:=Value.isInt_shape (k:=i) (v:=v) h;exact .inl ⟨i,t,rfl,e⟩
 |.inr x,v,h=>by
  obtain⟨t,e⟩:=Value.isStrOf_shape (x:=x) (v:=v) h;exact .inr ⟨x,t,rfl,e⟩
theorem Qa7(i:Int)(t:Tok):Yab (.inl i) (.int i t)=true:=by simp[Yab,Value.isInt]
theorem zbd(x:Str)(t:Tok):Yab (.inr x) (.str x t)=true:=by simp[Yab,Value.isStrOf]
theorem zbX(a b:Int):decide ((Sum.inl a:Key)=Sum.inl b)=(a==b):=by
 by_cases e:a=b
 ·subst e;simp
 ·have h:¬(Sum.inl a:Key)=Sum.inl b:=λq=>e (Sum.inl.inj q);rw[decide_eq_false h];exact(beq_eq_false_iff_ne.mpr e).symm
theorem Qb8(a b:Str):decide ((Sum.inr a:Key)=Sum.inr b)=decide (a=b):=by
 by_cases e:a=b
 ·subst e;simp
 ·have h:¬(Sum.inr a:Key)=Sum.inr b:=λq=>e (Sum.inr.inj q);rw[decide_eq_false h,decide_eq_false e]
theorem Yb2(a:Int)(b:Str):decide ((Sum.inl a:Key)=Sum.inr b)=false:=decide_eq_false (λq=>nomatch q)
theorem Zca(a:Str)(b:Int):decide ((Sum.inr a:Key)=Sum.inl b)=false:=decide_eq_false (λq=>nomatch q)
noncomputable def Qk(prog:Program)(w:World):PySem.KeyKind prog w Key where
 is:=Yab
 hash:=keyH w
 inj:=λv a b ha hb=>by
  rcases qg ha with ⟨i,t,rfl,rfl⟩|⟨x,t,rfl,rfl⟩
  ·rcases qg hb with ⟨j,u,rfl,e⟩|⟨y,u,rfl,e⟩
   ·injection e with e1 _;rw[e1]
   ·exact nomatch e
  ·rcases qg hb with ⟨j,u,rfl,e⟩|⟨y,u,rfl,e⟩
   ·exact nomatch e
   ·injection e with e1 _;rw[e1]
 byValue:=λk v h=>by
  rcases qg h with ⟨i,t,rfl,rfl⟩|⟨x,t,rfl,rfl⟩ <;> rfl
 pyHash:=λhv h=>by
  rcases qg hv with ⟨i,t,rfl,rfl⟩|⟨x,t,rfl,rfl⟩
  ·exact wpAny_pyHash_int h
  ·exact wpAny_pyHash_str h
 eqBool:=λhu hv h=>by
  rcases qg hu with ⟨i,t,rfl,rfl⟩|⟨x,t,rfl,rfl⟩
  ·rcases qg hv with ⟨j,u,rfl,rfl⟩|⟨y,u,rfl,rfl⟩
   ·rw[zbX] at h;exact wpAny_eqBool_int h
   ·rw[Yb2] at h;exact SeqAt.EqAt.int_str i t y u _ _ _ _ h
  ·rcases qg hv with ⟨j,u,rfl,rfl⟩|⟨y,u,rfl,rfl⟩
   ·rw[Zca] at h;exact SeqAt.EqAt.str_int x t j u _ _ _ _ h
   ·rw[Qb8] at h;exact wpAny_eqBool_str h
 «strs»:=λk x t v h=>by
  rcases qg h with ⟨i,u,rfl,e⟩|⟨y,u,rfl,e⟩
  ·exact nomatch e
  ·injection e with e1 _
   subst e1;cases v <;> rfl
theorem YaB(prog:Program)(w:World)(i:Int)(t:Tok):(Qk prog w).is (.inl i) (.int i t)=true:=Qa7 i t
theorem yaH(prog:Program)(w:World)(x:Str)(t:Tok):(Qk prog w).is (.inr x) (.str x t)=true:=zbd x t
inductive V where
 |non|bl (b:Bool)|int (i:Int)|str (x:Str)|byt (b:Array UInt8)|flt (b:UInt64)|ref (a:Addr)|ty (n:String)
 deriving DecidableEq
noncomputable def RelV:V->Value->Prop
 |.non,u=>u=Value.none
 |.bl b,u=>u=Value.bool b
 |.int i,u=>∃ t,u=Value.int i t
 |.str x,u=>∃ t,u=Value.str x t
 |.byt b,u=>∃ t,u=Value.bytes b t
 |.flt b,u=>∃ t,u=Value.float b t
 |.ref a,u=>u=Value.ref a
 |.ty n,u=>u=Value.type n
noncomputable abbrev Vals:List V->List Value->Prop:=Paired RelV
theorem Vals.length{xs:List V}{us:List Value}(r:Vals xs us):xs.length=us.length:=Paired.length r
theorem Vals.get:∀{xs:List V}{us:List Value}{i:Nat}{x:V},Vals xs us->xs[i]?=some x->∃ u,us[i]?=some u/\RelV x u
 |_,_,_,_,.nil,e=>by simp at e
 |_,_,0,_,.cons r _,e=>by simp at e;subst e;exact⟨_,rfl,r⟩
 |_,_,i+1,x,.cons _ t,e=>by
  obtain⟨u,h1,h2⟩:=Vals.get (i:=i) (x:=x) t (by simpa using e);exact⟨u,by simpa using h1,h2⟩
theorem Vals.set{x:V}{u:Value}(r:RelV x u):∀{xs:List V}{us:List Value}(i:Nat),Vals xs us->Vals (xs.set i x) (us.set i u)
 |_,_,_,.nil=>.nil
 |_,_,0,.cons _ t=>.cons r t
 |_,_,i+1,.cons q t=>.cons q (Vals.set r i t)
theorem Vals.append:∀{xs ys:List V}{us ws:List Value},Vals xs us->Vals ys ws->Vals (xs++ys) (us++ws)
 |_,_,_,_,.nil,s=>s
 |_,_,_,_,.cons r t,s=>.cons r (Vals.append t s)
theorem Vals.take:∀{xs:List V}{us:List Value}(n:Nat),Vals xs us->Vals (xs.take n) (us.take n)
 |_,_,0,_=>.nil
 |_,_,_+1,.nil=>.nil
 |_,_,n+1,.cons r t=>.cons r (Vals.take n t)
theorem Vals.drop:∀{xs:List V}{us:List Value}(n:Nat),Vals xs us->Vals (xs.drop n) (us.drop n)
 |_,_,0,r=>r
 |_,_,_+1,.nil=>.nil
 |_,_,n+1,.cons _ t=>Vals.drop n t
noncomputable def RelO:Option V->Option Value->Prop
 |some v,some u=>RelV v u
 |none,none=>True
 |_,_=>False
noncomputable def KV{κ:Type}:List (κ×V)->List (κ×Value)->Prop:=Paired λ(p:κ×V)(q:κ×Value)=>p.1=q.1/\RelV p.2 q.2
noncomputable def kV:Key->V
 |.inl i=>.int i
 |.inr x=>.str x
inductive HO where
 |lst (xs:List V)
 |tup (xs:List V)
 |dK (kvs:List (Key×V))|dT (kvs:List (List Key×V))
 |set (S:Int->Bool) (n:Nat)
 |ins (C dx:Addr) (fs:List (Str×V))
 |own (x:Addr)
 |xd (fs:List (Str×V))
 |met (f x:Addr)
 |rng (lo hi:Int)
 |frz (o:Obj) (u:HO)
 |tbl (ps:Array Value)
 |ext (φ:Heap->Prop)
noncomputable abbrev Hp:=Addr->Option HO
noncomputable def upd(H:Hp)(a:Addr)(o:HO):Hp:=λb=>if b=a then some o else H b
theorem Qf{H:Hp}{a:Addr}{o:HO}:upd H a o a=some o:=by unfold upd;rw[if_pos rfl]
theorem Yb{H:Hp}{a b:Addr}{o:HO}(h:b≠a):upd H a o b=H b:=by unfold upd;rw[if_neg h]
theorem Yc{H:Hp}{a b:Addr}{o:HO}(h:H a=some o)(h':H b=none):a≠b:=by
 intro e;subst e;rw[h] at h';cases h'
section
variable (P:Program) (w:World)
noncomputable def ObjOk(H:Hp)(h:Heap)(a:Addr):HO->Prop
 |.lst xs=>xs.length<=sizeLine/\∃(its:List Value)(n:Nat),Vals xs its/\h.get? a=some {cls:=.type "list",data:=.seq its.toArray n}
 |.tup xs=>xs.length<=sizeLine/\∃ its:List Value,Vals xs its/\IsTup h a its.toArray
 |.dK kvs=>kvs.length<=sizeLine/\(a==sysModules)=false/\∃ vs,KV kvs vs/\h.DictOf (Qk P w) a vs
 |.dT kvs=>kvs.length<=sizeLine/\(a==sysModules)=false/\∃ xs:List (List Key×Addr×Value),
   Paired (λ(p:List Key×V)(q:List Key×Addr×Value)=>p.1=q.1/\H q.2.1=some (.tup (p.1.map kV))/\RelV p.2 q.2.2) kvs xs /\
   ∃ o es ep,h.get? a=some o/\o.ExactDict/\o.data=.dict es ep/\es.toList=xs.map (entryOfKey (tupleKind (Qk P w)))/\(xs.map (·.1)).Nodup
 |.set S n=>h.SetOf (intKind P w) a S n
 |.ins C dx fs=>H dx=some (.own a)/\fs.length<=1000/\dx≠a/\h.get? a=some (Vg C dx) /\
   ∃ mA,h.Ns1 dx mA/\(∀ f,RelO (fs.lookup f) (mA f))/\PySem.Within mA (fs.map (·.1))
 |.own _=>∃ o,h.get? a=some o
 |.xd fs=>∃ mA,h.Ns1 a mA/\∀ f,RelO (fs.lookup f) (mA f)
 |.rng lo hi=>∃ t u v,h.get? a=some {cls:=.type "range",data:=.fields #[.int lo t,.int hi u,.int 1 v]}
 |.frz o u=>h.get? a=some o/\ObjOk H h a u
 |.tbl ps=>h.get? a=some {cls:=.none,data:=.fields ps}
 |.met f x=>h.get? a=some (vy (.ref f) (.ref x))
 |.ext φ=>φ h/\(∃ o,h.get? a=some o)/\∀ h1 h2:Heap,φ h1->(∀ o,h1.get? a=some o->h2.get? a=some o)->φ h2
noncomputable def HOk(H:Hp)(h:Heap):Prop:=∀ a o,H a=some o->ObjOk P w H h a o
end
section
variable {P:Program} {w:World} {H H':Hp} {h h':Heap} {a:Addr} {o:HO}
theorem ObjOk.lt(x:ObjOk P w H h a o):a<h.objs.size:=by
 cases o with
 |lst xs=>obtain⟨_,_,_,_,e⟩:=x;exact va e
 |tup xs=>obtain⟨_,_,_,p⟩:=x;exact p.lt
 |dK kvs=>obtain⟨_,_,_,_,o,_,_,e,_⟩:=x;exact va e
 |dT kvs=>obtain⟨_,_,_,_,o,_,_,e,_⟩:=x;exact va e
 |set S n=>obtain⟨o,_,_,_,e,_⟩:=x;exact va e
 |ins C dx fs=>obtain⟨_,_,_,e,_⟩:=x;exact va e
 |own y=>obtain⟨_,e⟩:=x;exact va e
 |xd fs=>obtain⟨_,⟨_,_,_,e,_⟩,_⟩:=x;exact va e
 |rng lo hi=>obtain⟨_,_,_,e⟩:=x;exact va e
 |frz ob u=>obtain⟨e,_⟩:=x;exact va e
 |tbl ps=>exact va (show h.get? a=some _ from x)
 |met f y=>exact va (show h.get? a=some _ from x)
 |ext φ=>obtain⟨_,⟨_,e⟩,_⟩:=x;exact va e
theorem Paired.mapP{α β:Type}{F G:α->β->Prop}:∀{l₁:List α}{l₂:List β},Paired F l₁ l₂->(∀ a b,F a b->G a b)->Paired G l₁ l₂
 |_,_,.nil,_=>.nil
 |_,_,.cons r t,f=>.cons (f _ _ r) (Paired.mapP t f)
theorem ObjOk.stay(x:ObjOk P w H h a o)(k:∀ b u,(b=a\/H b=some (.own a))->h.get? b=some u->h'.get? b=some u)
  (ho:∀ b,H b=some (.own a)->H' b=some (.own a)) (ht:∀ b xs,H b=some (.tup xs)->H' b=some (.tup xs)):ObjOk P w H' h' a o:=by
 induction o with
 |lst xs=>obtain⟨z,its,n,r,e⟩:=x;exact⟨z,its,n,r,k _ _ (.inl rfl) e⟩
 |tup xs=>obtain⟨z,its,r,ob,e,c⟩:=x;exact⟨z,its,r,ob,k _ _ (.inl rfl) e,c⟩
 |dK kvs=>obtain⟨z,y,vs,r,ob,es,ep,e,c⟩:=x;exact⟨z,y,vs,r,ob,es,ep,k _ _ (.inl rfl) e,c⟩
 |dT kvs =>
  obtain⟨z,y,xs,r,ob,es,ep,e,c⟩:=x;exact⟨z,y,xs,Paired.mapP r λp q z=>⟨z.1,ht _ _ z.2.1,z.2.2⟩,ob,es,ep,k _ _ (.inl rfl) e,c⟩
 |set S n=>obtain⟨ob,es,ep,t,e,c⟩:=x;exact⟨ob,es,ep,t,k _ _ (.inl rfl) e,c⟩
 |ins C dx fs =>
  obtain⟨d,z,ne,e,mA,⟨od,es,ep,e2,c⟩,r⟩:=x;exact⟨ho _ d,z,ne,k _ _ (.inl rfl) e,mA,⟨od,es,ep,k _ _ (.inr d) e2,c⟩,r⟩
 |own y=>obtain⟨ob,e⟩:=x;exact⟨ob,k _ _ (.inl rfl) e⟩
 |xd fs=>obtain⟨mA,⟨od,es,ep,e,c⟩,r⟩:=x;exact⟨mA,⟨od,es,ep,k _ _ (.inl rfl) e,c⟩,r⟩
 |rng lo hi=>obtain⟨t,u,v,e⟩:=x;exact⟨t,u,v,k _ _ (.inl rfl) e⟩
 |frz ob u ih=>obtain⟨e,q⟩:=x;exact⟨k _ _ (.inl rfl) e,ih q⟩
 |tbl ps =>
  have e:h.get? a=some {cls:=.none,data:=.fields ps}:=x;show h'.get? a=some {cls:=.none,data:=.fields ps};exact k a _ (.inl rfl) e
 |met f y =>
  have e:h.get? a=some (vy (.ref f) (.ref y)):=x;show h'.get? a=some (vy (.ref f) (.ref y));exact k a _ (.inl rfl) e
 |ext φ=>obtain⟨p,⟨o,e⟩,st⟩:=x;exact⟨st _ _ p λo q=>k _ _ (.inl rfl) q,⟨o,k _ _ (.inl rfl) e⟩,st⟩
theorem HOk.lt(x:HOk P w H h)(e:H a=some o):a<h.objs.size:=(x a o e).lt
theorem HOk.fresh(x:HOk P w H h)(e:h.objs.size<=a):H a=none:=by
 cases q:H a with
 |none=>rfl
 |some u=>exact absurd (Vb (x.lt q) e) (Xj _)
theorem HOk.kept(x:HOk P w H h)(k:∀ b u,h.get? b=some u->h'.get? b=some u):HOk P w H h':=λa o e =>
 (x a o e).stay (λb u _ q=>k b u q) (λ_ q=>q) λ_ _ q=>q
theorem HOk.laid(x:HOk P w H h)(k:∀ b u,h.get? b=some u->h'.get? b=some u)(hp:h.objs.size<=a)(new:ObjOk P w (upd H a o) h' a o):HOk P w (upd H a o) h':=λb u e=>by
 have hn:=x.fresh hp;by_cases hb:b=a
 ·subst hb;rw[Qf] at e;cases e;exact new
 ·rw[Yb hb] at e;exact(x b u e).stay (λc v _ q=>k c v q) (λc q=>by rw[Yb (Yc q hn)];exact q) λc xs q=>by rw[Yb (Yc q hn)];exact q
end
noncomputable def Rd(H:Hp)(a:Addr)(u:HO):Prop:=H a=some u\/∃ o,H a=some (.frz o u)
theorem Rd.of{H:Hp}{a:Addr}{u:HO}(h:H a=some u):Rd H a u:=.inl h
theorem Rd.ok{P:Program}{w:World}{H:Hp}{h:Heap}{a:Addr}{u:HO}(r:Rd H a u)(x:HOk P w H h):ObjOk P w H h a u:=by
 rcases r with r|⟨o,r⟩
 ·exact x a u r
 ·obtain⟨_,q⟩:=x a _ r;exact q
noncomputable def Mut:Option HO->Prop
 |some (.lst _)=>True
 |some (.dK _)=>True
 |some (.dT _)=>True
 |some (.set _ _)=>True
 |some (.ins _ _ _)=>True
 |some (.ext _)=>True
 |_=>False
section
variable {P:Program} {w:World} {H:Hp} {h h':Heap} {x e:Addr} {o':HO}
theorem HOk.write(ok:HOk P w H h)(mu:Mut (H x))(he:e=x\/H e=some (.own x))(k:∀ b u,b≠e->h.get? b=some u->h'.get? b=some u)(heo:∃ u,h'.get? e=some u)
  (new:ObjOk P w (upd H x o') h' x o'):HOk P w (upd H x o') h':=λb u q=>by
 have nown:∀ c y,H c=some (.own y)->c≠x:=λc y r z=>by subst z;rw[r] at mu;exact mu
 have ntup:∀ c xs,H c=some (.tup xs)->c≠x:=λc xs r z=>by subst z;rw[r] at mu;exact mu
 by_cases hb:b=x
 ·subst hb;rw[Qf] at q;cases q;exact new
 ·rw[Yb hb] at q;by_cases hbe:b=e
  ·have q':H b=some (.own x):=by
    rcases he with z|z
    ·exact absurd (hbe.trans z) hb
    ·rw[hbe];exact z
   rw[q] at q';cases q';obtain⟨v,hv⟩:=heo;exact⟨v,by rw[hbe];exact hv⟩
  ·refine(ok b u q).stay (λc v hc r=>k c v ?_ r) (λc r=>by rw[Yb (nown c b r)];exact r) λc xs r=>by rw[Yb (ntup c xs r)];exact r
   rcases hc with rfl|hc
   ·exact hbe
   ·rintro rfl
    rcases he with z|z
    ·exact nown c b hc z
    ·rw[hc] at z;cases z;exact hb rfl
end
structure Un (fs ex:List Addr) (H H':Hp) (h h':Heap):Prop where
 keep:∀ b o,h.get? b=some o->H b=none->b∉fs->b∉ex->h'.get? b=some o
 slot:∀ b o,h.get? b=some o->H b=none->b∈fs->b∉ex->∃ sl,h'.get? b=some {o with slots:=sl}
 free:∀ b o,h.get? b=some o->H b=none->b∉ex->H' b=none
 there:∀ b o,h.get? b=some o->b∉ex->∃ o',h'.get? b=some o'
 tups:∀ b xs,H b=some (.tup xs)->H' b=some (.tup xs)
 frzs:∀ b o u,H b=some (.frz o u)->H' b=some (.frz o u)
 tbls:∀ b ps,H b=some (.tbl ps)->∃ more,H' b=some (.tbl (ps++more))
section
variable {fs fs' ex ex':List Addr} {H H1 H2:Hp} {h h1 h2 h':Heap} {a x e:Addr} {o:HO}
theorem Un.any(u:Un fs ex H H1 h h1){b:Addr}{ob:Obj}(q:h.get? b=some ob)(n:H b=none)(hx:b∉ex):∃ sl,h1.get? b=some {ob with slots:=sl}:=by
 by_cases hb:b∈fs
 ·exact u.slot b ob q n hb hx
 ·exact⟨ob.slots,u.keep b ob q n hb hx⟩
theorem Un.kept(k:∀ b u,h.get? b=some u->h'.get? b=some u):Un fs ex H H h h' :=
 ⟨λb ob q _ _ _=>k b ob q,λb ob q _ _ _=>⟨ob.slots,k b ob q⟩,λ_ _ _ n _=>n,λb ob q _=>⟨ob,k b ob q⟩,λ_ _ q=>q,λ_ _ _ q=>q,λ_ ps q=>⟨#[],by rw[q];simp⟩⟩
theorem Un.refl:Un fs ex H H h h:=Un.kept λ_ _ q=>q
theorem Un.laid(k:∀ b u,h.get? b=some u->h'.get? b=some u)(hp:h.objs.size<=a)(hn:H a=none):Un fs ex H (upd H a o) h h' where
 keep:=λb u q _ _ _=>k b u q
 slot:=λb u q _ _ _=>⟨u.slots,k b u q⟩
 free:=λb u q n _=>by rw[Yb (wc (Vb (va q) hp))];exact n
 there:=λb u q _=>⟨u,k b u q⟩
 tups:=λb xs q=>by rw[Yb (Yc q hn)];exact q
 frzs:=λb u xs q=>by rw[Yb (Yc q hn)];exact q
 tbls:=λb ps q=>⟨#[],by rw[Yb (Yc q hn),q];simp⟩
theorem Un.write(mu:Mut (H x))(he:e=x\/H e=some (.own x))(k:∀ b u,b≠e->h.get? b=some u->h'.get? b=some u)(heo:∃ u,h'.get? e=some u):Un fs ex H (upd H x o) h h':=by
 have hx:∀ b,H b=none->b≠x:=λb n z=>by subst z;rw[n] at mu;exact mu
 have hb:∀ b,H b=none->b≠e:=λb n z=>by
  subst z
  rcases he with r|r
  ·exact hx b n r
  ·rw[n] at r;cases r
 have hm:∀ b u,H b=some u->¬ Mut (some u)->b≠x:=λb u q nm z=>by subst z;rw[q] at mu;exact nm mu
 refine⟨λb u q n _ _=>k b u (hb b n) q,λb u q n _ _=>⟨u.slots,k b u (hb b n) q⟩,λb u q n _=>by rw[Yb (hx b n)];exact n,λb u q _=>?_,
  λb xs q=>by rw[Yb (hm b _ q λz=>z)];exact q,λb u xs q=>by rw[Yb (hm b _ q λz=>z)];exact q,λb ps q=>⟨#[],by rw[Yb (hm b _ q λz=>z),q];simp⟩⟩
 by_cases hbe:b=e
 ·subst hbe;exact heo
 ·exact⟨u,k b u hbe q⟩
end
noncomputable def trk(h:Heap)(H:Hp):List Addr:=(xa h.objs.size).filter λa=>(H a).isSome
noncomputable def Yaw(h:Heap)(H:Hp):Heap:=PySem.W.hideAll h (trk h H)
theorem Za9(h:Heap)(H:Hp):(Yaw h H).objs.size=h.objs.size:=PySem.W.hideAll_size _ _
theorem Qbu{h:Heap}{H:Hp}{b:Addr}{o:Obj}(e:h.get? b=some o)(n:H b=none):(Yaw h H).get? b=some o :=
 PySem.W.hideAll_get _ e λhm=>by
  have q:(H b).isSome=true:=(List.mem_filter.mp hm).2;rw[n] at q;simp at q
theorem QbL{h:Heap}{H:Hp}{b:Addr}{o:Obj}(e:(Yaw h H).get? b=some o):h.get? b=some o/\H b=none:=by
 have e':h.get? b=some o:=PySem.W.of_hideAll (trk h H) e;refine⟨e',?_⟩;cases q:H b with
 |none=>rfl
 |some x =>
  have hm:b∈trk h H:=List.mem_filter.mpr ⟨Wi.mpr (va e'),by simp[q]⟩;have z:(Yaw h H).get? b=none:=PySem.W.hideAll_none (trk h H) hm;rw[z] at e;cases e
structure Mod (K:PySem.W.Frag) (mg:Str->Option Value) (base:Heap):Prop where
 kin:K.In base
 glob:base.Ns mainGlobals mg
 blt:∃ mb,base.Ns builtinsNs mb/\∀ x:Str,x≠"__name__"->mb x=bootBuiltins x
 nolimit:base.NoLimit
structure Cx where
 prog:Program
 w:World
 K:PySem.W.Frag
 mg:Str->Option Value
 base:Heap
 A:Around
 N:List Str
 s₀:Shared
 H₀:Hp
 env:Env
 outer:List Env
 stack:List Env
 ex:List Addr
 fn:Str->Bool
 calm:Bool
 pn:List (Addr×Obj)
 xe:Value->Shared->Prop
noncomputable def frs(l:List Env):List Addr:=l.filterMap (·.frame)
noncomputable abbrev Cx.fs(X:Cx):List Addr:=frs X.outer
noncomputable def Vis(sc:Scope)(x:Str):Prop:=sc.names.lookup x=some .local\/sc.names.lookup x=some .cell\/sc.names.lookup x=some .free
noncomputable def Loc(sc:Scope)(x:Str):Prop:=sc.names.lookup x=some .local\/sc.names.lookup x=some .cell
noncomputable def Look(env:Env)(h:Heap)(m:Str->Option Value)(x:Str)(u:Value):Prop :=
 (env.kindOf x=some .local/\m x=some u)\/((env.kindOf x=some .cell\/env.kindOf x=some .free)/\∃ c,env.cells.lookup x=some c/\h.IsCell c (some u))
structure Cx.Ok (X:Cx):Prop where
 mod:Mod X.K X.mg X.base
 kind:X.env.scope.kind=.function
 glob:X.env.globals=mainGlobals
 blt:X.env.builtins=builtinsNs
 above:X.s₀.heap.objs.size<=X.env.locals
 inj:∀ x y c,X.env.cells.lookup x=some c->X.env.cells.lookup y=some c->x=y
 has:∀ x,(X.env.kindOf x=some .cell\/X.env.kindOf x=some .free)->∃ c,X.env.cells.lookup x=some c
 cab:∀ x c,X.fn x=true->X.env.cells.lookup x=some c->X.s₀.heap.objs.size<=c
 hd:X.calm=true->X.A.handled=none
 frames:X.A.frames=some X.stack
 stk:X.stack=X.outer\/(X.stack=X.env::X.outer/\X.env.frame=some X.env.locals)
 exf:∀ b∈X.ex,b≠X.env.locals/\∀ x c,X.env.cells.lookup x=some c->c≠b
 bs:∀ b o,X.base.get? b=some o->X.s₀.heap.get? b=some o/\X.H₀ b=none
 bsz:X.base.objs.size<=X.s₀.heap.objs.size
 noex:∀ b o,X.base.get? b=some o->b∉X.ex
 exfs:∀ b∈X.ex,b∉X.fs
 funs:X.s₀.heap.FunFrames X.base X.outer
 frf:∀ b∈X.fs,X.H₀ b=none
structure Inv (X:Cx) (pins:List (Addr×Obj)) (σ:List (Option V)) (H:Hp) (s:Shared):Prop where
 ok:X.Ok
 os:s.os=X.s₀.os
 bare:AllBare s.gens
 base:Un X.fs X.ex X.H₀ H X.s₀.heap s.heap
 loc:∃ m,s.heap.Ns X.env.locals m/\∀(i:Nat)(x:Str)(v:V),X.N[i]?=some x->σ[i]?=some (some v)->Vis X.env.scope x->∃ u,RelV v u/\Look X.env s.heap m x u
 cell:∀ x c,X.env.cells.lookup x=some c->∃ v,s.heap.IsCell c v
 free:H X.env.locals=none
 freeC:∀ x c,X.env.cells.lookup x=some c->H c=none
 pin:∀ p∈X.pn++pins,s.heap.get? p.1=some p.2/\H p.1=none/\p.1≠X.env.locals/\p.1∉X.fs/\∀ v,p.2.data≠.cell v
 hok:HOk X.prog X.w H s.heap
 len:σ.length=X.N.length
section
variable {X:Cx} {pins:List (Addr×Obj)} {σ:List (Option V)} {H H':Hp} {s:Shared} {h':Heap}
theorem Cx.Ok.nofr(ok:X.Ok){b:Addr}{o:Obj}(e:X.base.get? b=some o):b∉X.fs:=λhb=>by
 have:=(ok.funs.mem hb).1;rw[e] at this;cases this
theorem Inv.bs(I:Inv X pins σ H s):∀ b o,X.base.get? b=some o->s.heap.get? b=some o/\H b=none:=λb o e =>
 ⟨I.base.keep b o (I.ok.bs b o e).1 (I.ok.bs b o e).2 (I.ok.nofr e) (I.ok.noex b o e),I.base.free b o (I.ok.bs b o e).1 (I.ok.bs b o e).2 (I.ok.noex b o e)⟩
theorem Inv.bk(I:Inv X pins σ H s):∀ b o,X.base.get? b=some o->s.heap.get? b=some o:=λb o e=>(I.bs b o e).1
theorem Inv.mod(I:Inv X pins σ H s):Mod X.K X.mg X.base:=I.ok.mod
theorem Inv.kIn(I:Inv X pins σ H s):X.K.In s.heap:=I.ok.mod.kin.keeps I.bk
theorem Inv.lt(I:Inv X pins σ H s):X.env.locals<s.heap.objs.size:=let ⟨_,hn,_⟩:=I.loc;hn.lt
theorem Inv.sz(I:Inv X pins σ H s):X.s₀.heap.objs.size<=s.heap.objs.size:=Xe I.ok.above (uz I.lt)
theorem Inv.nofs(I:Inv X pins σ H s){a:Addr}(h:s.heap.objs.size<=a):a∉X.fs:=λhb=>by
 obtain⟨_,o,ho,_⟩:=I.ok.funs.mem hb;exact absurd (Vb (va ho) (Xe I.sz h)) (Xj _)
theorem Inv.cne(I:Inv X pins σ H s):∀ x c,X.env.cells.lookup x=some c->c≠X.env.locals:=λx c e z=>by
 obtain⟨v,o,ho,hd⟩:=I.cell x c e;obtain⟨m,⟨o',es,ep,ho',hd',_⟩,_⟩:=I.loc;rw[z,ho'] at ho;cases ho;rw[hd'] at hd;cases hd
theorem Inv.funs(I:Inv X pins σ H s):s.heap.FunFrames X.base X.outer:=by
 have all:∀(l:List Env),(∀ b∈frs l,b∈X.fs)->X.s₀.heap.FunFrames X.base l->s.heap.FunFrames X.base l:=by
  intro l
  induction l with
  |nil=>intro _ _;trivial
  |cons env r ih =>
   intro hs hl;obtain⟨hk,⟨L,o,hf,hn,ho,hd⟩,hr⟩:=hl;have hL:L∈X.fs:=hs L (by unfold frs;rw[Xr,hf];exact Uh);obtain⟨sl,e⟩:=I.base.slot L o ho (I.ok.frf L hL) hL λz=>I.ok.exfs L z hL;exact⟨hk,⟨L,_,hf,hn,e,hd⟩,ih (λb hb=>hs b (by unfold frs;rw[Xr,hf];exact We _ hb)) hr⟩
 exact all X.outer (λ_ hb=>hb) I.ok.funs
theorem Inv.stack(I:Inv X pins σ H s):s.heap.FunFrames X.base X.stack:=by
 rcases I.ok.stk with e|⟨e,hf⟩
 ·rw[e];exact I.funs
 ·rw[e];obtain⟨m,hn,_⟩:=I.loc;refine .cons (by rw[I.ok.kind];decide) hf hn ?_ I.funs;exact VC (Xe I.ok.bsz I.ok.above)
theorem Inv.stkSub(I:Inv X pins σ H s):∀ b∈frs X.stack,b∈X.env.locals::X.fs:=λb hb=>by
 rcases I.ok.stk with e|⟨e,hf⟩
 ·rw[e] at hb;exact We _ hb
 ·rw[e] at hb;unfold frs at hb;rw[Xr,hf] at hb;exact hb
theorem Inv.stkFree(I:Inv X pins σ H s):∀ b∈frs X.stack,H b=none:=λb hb=>by
 rcases Ua.mp (I.stkSub b hb) with e|hb
 ·rw[e];exact I.free
 ·obtain⟨_,o,ho,_⟩:=I.ok.funs.mem hb;exact I.base.free b o ho (I.ok.frf b hb) λz=>I.ok.exfs b z hb
theorem Inv.step{g':Array GenState}{t':Nat}{d':Drawn}{ch:List Addr}(I:Inv X pins σ H s)
  (hch:∀ b∈ch,(b∈X.ex\/X.s₀.heap.objs.size<=b)/\b≠X.env.locals/\(∀ x c,X.env.cells.lookup x=some c->c≠b)/\∀ p∈X.pn++pins,p.1≠b)
  (keep:∀ b o,b≠X.env.locals->b∉X.fs->b∉ch->s.heap.get? b=some o->H b=none->h'.get? b=some o)
  (slot:∀ b o,b≠X.env.locals->b∈X.fs->b∉ch->s.heap.get? b=some o->H b=none->∃ sl,h'.get? b=some {o with slots:=sl}) (free:∀ b o,b∉ch->s.heap.get? b=some o->H b=none->H' b=none)
  (there:∀ b o,b∉ch->s.heap.get? b=some o->∃ o',h'.get? b=some o')
  (tups:∀ b xs,H b=some (.tup xs)->H' b=some (.tup xs)) (frzs:∀ b o u,H b=some (.frz o u)->H' b=some (.frz o u)) (tbls:∀ b ps,H b=some (.tbl ps)->∃ more,H' b=some (.tbl (ps++more)))
  (ns:∀ m,s.heap.Ns X.env.locals m->h'.Ns X.env.locals m) (hok:HOk X.prog X.w H' h') (hg:AllBare g') :
  Inv X pins σ H' {s with heap:=h',gens:=g',drawn:=d',toks:=t'}:=by
 have neL:∀ b o,X.s₀.heap.get? b=some o->b≠X.env.locals:=λb o e=>wc (Vb (va e) I.ok.above);have neC:∀ b o,X.s₀.heap.get? b=some o->b∉X.ex->b∉ch:=λb o e hx hb=>by
  rcases(hch b hb).1 with z|z
  ·exact hx z
  ·exact absurd (Vb (va e) z) (Xj _)
 have cellK:∀ x c,X.env.cells.lookup x=some c->∀ v,s.heap.IsCell c v->h'.IsCell c v:=λx c e v ⟨o,ho,hd⟩=>by
  have nch:c∉ch:=λz=>(hch c z).2.2.1 x c e rfl;by_cases hc:c∈X.fs
  ·obtain⟨sl,q⟩:=slot c o (I.cne x c e) hc nch ho (I.freeC x c e);exact⟨_,q,hd⟩
  ·exact⟨o,keep c o (I.cne x c e) hc nch ho (I.freeC x c e),hd⟩
 refine⟨I.ok,I.os,hg,⟨λb o e n hb hx=>?_,λb o e n hb hx=>?_,λb o e n hx=>?_,λb o e hx=>?_,λb xs e=>tups b xs (I.base.tups b xs e),λb o xs e=>frzs b o xs (I.base.frzs b o xs e),λb ps e=>?_⟩,?_,λx c e=>?_,?_,λx c e=>?_,λp hp=>?_,hok,I.len⟩
 ·exact keep b o (neL b o e) hb (neC b o e hx) (I.base.keep b o e n hb hx) (I.base.free b o e n hx)
 ·obtain⟨sl,e1⟩:=I.base.slot b o e n hb hx;obtain⟨sl',e2⟩:=slot b _ (neL b o e) hb (neC b o e hx) e1 (I.base.free b o e n hx);exact⟨sl',e2⟩
 ·obtain⟨o',e1⟩:=I.base.there b o e hx;exact free b o' (neC b o e hx) e1 (I.base.free b o e n hx)
 ·obtain⟨o',e1⟩:=I.base.there b o e hx;exact there b o' (neC b o e hx) e1
 ·obtain⟨m1,e1⟩:=I.base.tbls b ps e;obtain⟨m2,e2⟩:=tbls b _ e1;exact⟨m1++m2,by rw[e2,wE]⟩
 ·obtain⟨m,hn,hl⟩:=I.loc;refine⟨m,ns m hn,λi x v e1 e2 e3=>?_⟩;obtain⟨u,r,l⟩:=hl i x v e1 e2 e3;refine⟨u,r,?_⟩
  rcases l with l|⟨k,c,e,z⟩
  ·exact .inl l
  ·exact .inr ⟨k,c,e,cellK x c e _ z⟩
 ·obtain⟨v,z⟩:=I.cell x c e;exact⟨v,cellK x c e v z⟩
 ·obtain⟨m,⟨o,_,_,ho,_⟩,_⟩:=I.loc;exact free _ o (λz=>(hch _ z).2.1 rfl) ho I.free
 ·obtain⟨v,o,ho,hd⟩:=I.cell x c e;exact free c o (λz=>(hch c z).2.2.1 x c e rfl) ho (I.freeC x c e)
 ·obtain⟨e,n,ne,nf,d⟩:=I.pin p hp;have nch:p.1∉ch:=λz=>(hch p.1 z).2.2.2 p hp rfl;exact⟨keep p.1 p.2 ne nf nch e n,free p.1 p.2 nch e n,ne,nf,d⟩
theorem Inv.un{t':Nat}(I:Inv X pins σ H s)(u:Un X.fs [] H H' s.heap h')(hok:HOk X.prog X.w H' h'):Inv X pins σ H' {s with heap:=h',toks:=t'}:=by
 obtain⟨m,⟨o,es,ep,ho,r⟩,_⟩:=id I.loc;obtain⟨sl,hL⟩:=u.any ho I.free (by simp);exact I.step (g':=s.gens) (d':=s.drawn) (ch:=[]) (λ_ z=>nomatch z) (λb o _ hb _ e n=>u.keep b o e n hb (by simp)) (λb o _ hb _ e n=>u.slot b o e n hb (by simp)) (λb o _ e n=>u.free b o e n (by simp)) (λb o _ e=>u.there b o e (by simp)) u.tups u.frzs u.tbls (λm' hm=>by
  obtain⟨o',es',ep',ho',r'⟩:=hm;rw[ho] at ho';cases ho';exact⟨_,es',ep',hL,r'⟩) hok I.bare
theorem Inv.call{g':Array GenState}{t':Nat}{d':Drawn}{ch:List Addr}(I:Inv X pins σ H s)(u:Un (frs X.stack) ch H H' s.heap h')(hok:HOk X.prog X.w H' h')(hg:AllBare g')
  (hch:∀ b∈ch,(b∈X.ex\/X.s₀.heap.objs.size<=b)/\b≠X.env.locals/\(∀ x c,X.env.cells.lookup x=some c->c≠b)/\∀ p∈X.pn++pins,p.1≠b) :
  Inv X pins σ H' {s with heap:=h',gens:=g',drawn:=d',toks:=t'}:=by
 obtain⟨m,⟨o,es,ep,ho,r⟩,_⟩:=id I.loc;obtain⟨sl,hL⟩:=u.any ho I.free λz=>(hch _ z).2.1 rfl;exact I.step (ch:=ch) hch (λb o hL hb hc e n=>u.keep b o e n (λz=>(Ua.mp (I.stkSub b z)).elim hL hb) hc) (λb o _ _ hc e n=>u.any e n hc) (λb o hc e n=>u.free b o e n hc) (λb o hc e=>u.there b o e hc) u.tups u.frzs u.tbls (λm' hm=>by
  obtain⟨o',es',ep',ho',r'⟩:=hm;rw[ho] at ho';cases ho';exact⟨_,es',ep',hL,r'⟩) hok hg
theorem Inv.turned{t':Nat}{it:Addr}(I:Inv X pins σ H s)(k:∀ b o,b≠it->s.heap.get? b=some o->h'.get? b=some o)(hn:H it=none)(hL:it≠X.env.locals)
  (h1:it∈X.ex\/X.s₀.heap.objs.size<=it) (h2:∀ x c,X.env.cells.lookup x=some c->c≠it) (h3:∀ p∈X.pn++pins,p.1≠it):Inv X pins σ H {s with heap:=h',toks:=t'}:=by
 have nit:∀ b u,H b=some u->b≠it:=λb u e z=>by rw[z,hn] at e;cases e
 refine I.step (g':=s.gens) (d':=s.drawn) (ch:=[it]) (λb hb=>?_) (λb o _ _ hc e _=>k b o (λz=>hc (by simp[z])) e) (λb o _ _ hc e _=>⟨o.slots,k b o (λz=>hc (by simp[z])) e⟩) (λ_ _ _ _ n=>n)
  (λb o hc e=>⟨o,k b o (λz=>hc (by simp[z])) e⟩) (λ_ _ e=>e) (λ_ _ _ e=>e) (λb ps e=>⟨#[],by rw[e];simp⟩) (λm hm=>?_) (λb u e=>?_) I.bare
 ·have e:b=it:=by simpa using hb
  subst e;exact⟨h1,hL,h2,h3⟩
 ·obtain⟨o,es,ep,ho,r⟩:=hm;exact⟨o,es,ep,k _ o (Ne.symm hL) ho,r⟩
 ·refine(I.hok b u e).stay (λc v hc q=>k c v ?_ q) (λ_ q=>q) λ_ _ q=>q
  rcases hc with z|z
  ·rw[z];exact nit b u e
  ·exact nit c _ z
theorem Inv.tok(I:Inv X pins σ H s)(t:Nat):Inv X pins σ H {s with toks:=t}:=I.un (h':=s.heap) (t':=t) Un.refl I.hok
theorem Inv.kept{t':Nat}(I:Inv X pins σ H s)(k:∀ b u,s.heap.get? b=some u->h'.get? b=some u):Inv X pins σ H {s with heap:=h',toks:=t'}:=I.un (Un.kept k) (I.hok.kept k)
theorem Inv.laid{a:Addr}{o:HO}{t':Nat}(I:Inv X pins σ H s)(k:∀ b u,s.heap.get? b=some u->h'.get? b=some u)(hp:s.heap.objs.size<=a)(new:ObjOk X.prog X.w (upd H a o) h' a o) :
  Inv X pins σ (upd H a o) {s with heap:=h',toks:=t'}:=I.un (Un.laid k hp (I.hok.fresh hp)) (I.hok.laid k hp new)
theorem Inv.write{x e:Addr}{o:HO}{t':Nat}(I:Inv X pins σ H s)(mu:Mut (H x))(he:e=x\/H e=some (.own x))(k:∀ b u,b≠e->s.heap.get? b=some u->h'.get? b=some u)(heo:∃ u,h'.get? e=some u)
  (new:ObjOk X.prog X.w (upd H x o) h' x o):Inv X pins σ (upd H x o) {s with heap:=h',toks:=t'}:=I.un (Un.write mu he k heo) (I.hok.write mu he k heo new)
theorem Inv.pins_of{pins':List (Addr×Obj)}(I:Inv X pins σ H s)(h:∀ p∈pins',s.heap.get? p.1=some p.2/\H p.1=none/\p.1≠X.env.locals/\p.1∉X.fs/\∀ v,p.2.data≠.cell v):Inv X pins' σ H s :=
 ⟨I.ok,I.os,I.bare,I.base,I.loc,I.cell,I.free,I.freeC,λp hp=>(xg.mp hp).elim (λz=>I.pin p (Wf _ z)) (h p),I.hok,I.len⟩
theorem Yad{N:List Str}(hN:N.Nodup){i j:Nat}{x:Str}(a:N[i]?=some x)(b:N[j]?=some x):i=j:=by
 obtain⟨h1,e1⟩:=ua.mp a;obtain⟨h2,e2⟩:=ua.mp b;exact(List.getElem_inj hN).mp (e1.trans e2.symm)
theorem Ybc{M:Model}{A:Around}{E:Value->Shared->Prop}{i:Nat}{x:Str}{v:V}{u:Value}{Q:Unit->Shared->Prop}(I:Inv X pins σ H s)(hN:X.N.Nodup)(hi:X.N[i]?=some x)(hx:Loc X.env.scope x)(r:RelV v u)
  (h:∀ s',Inv X pins (σ.set i (some v)) H s'->(∃ a,Heap.SameBut a s.heap s'.heap/\(a=X.env.locals\/X.env.cells.lookup x=some a))->Q () s') (hf:X.fn x=true\/X.env.scope.names.lookup x=some .local:=by first|exact .inl rfl|exact .inr rfl|assumption):wpAny M A (storeName X.env x u) Q E s:=by
 obtain⟨m,hn,hl⟩:=id I.loc;have hcls:(X.env.scope.kind == .class||(X.env.scope.kind == .module&&X.env.locals != X.env.globals))=false:=by rw[I.ok.kind];rfl
 have hiσ:i<σ.length:=by rw[I.len];exact(ua.mp hi).1
 have cne:=I.cne;have tracked:∀{a:Addr}{h':Heap},(∃ o,s.heap.get? a=some o/\H a=none)->Heap.SameBut a s.heap h'->HOk X.prog X.w H h':=λ{a h'} ha hs b ob e=>by
  obtain⟨_,_,hfree⟩:=ha;refine(I.hok b ob e).stay (λc w' hc q=>(hs.2 c ?_).trans q) (λ_ q=>q) λ_ _ q=>q;rintro rfl
  rcases hc with rfl|hc
  ·rw[hfree] at e;cases e
  ·rw[hfree] at hc;cases hc
 rcases hx with hk|hk
 ·refine wpAny_storeName_local hk hn (λh' hn' hs=>?_) hcls;obtain⟨oL,_,_,hoL,_⟩:=id hn;refine h _ ⟨I.ok,I.os,I.bare,⟨λb o e n hb hx=>?_,λb o e n hb hx=>?_,I.base.free,λb o e hx=>?_,I.base.tups,I.base.frzs,I.base.tbls⟩,⟨_,hn',λj y v' e1 e2 e3=>?_⟩,λy c e=>?_,I.free,I.freeC,λp hp=>?_,tracked ⟨oL,hoL,I.free⟩ hs,by simpa using I.len⟩ ⟨_,hs,.inl rfl⟩
  ·exact(hs.2 b (wc (Vb (va e) I.ok.above))).trans (I.base.keep b o e n hb hx)
  ·obtain⟨sl,e1⟩:=I.base.slot b o e n hb hx;exact⟨sl,(hs.2 b (wc (Vb (va e) I.ok.above))).trans e1⟩
  ·obtain⟨o',e1⟩:=I.base.there b o e hx;exact⟨o',(hs.2 b (wc (Vb (va e) I.ok.above))).trans e1⟩
  ·by_cases hj:j=i
   ·subst hj;rw[hi] at e1;cases e1;rw[uf hiσ] at e2;cases e2;exact⟨u,r,.inl ⟨hk,by simp⟩⟩
   ·rw[Ve (Ne.symm hj)] at e2;obtain⟨u',r',q⟩:=hl j y v' e1 e2 e3;refine⟨u',r',?_⟩
    rcases q with ⟨k,e⟩|⟨k,c,e,z⟩
    ·refine .inl ⟨k,?_⟩;have:y≠x:=λe=>hj (Yad hN e1 (e ▸ hi));simp[this,e]
    ·exact .inr ⟨k,c,e,z.sameBut hs (cne y c e)⟩
  ·obtain⟨w',z⟩:=I.cell y c e;exact⟨w',z.sameBut hs (cne y c e)⟩
  ·obtain⟨e,n,ne,nf,d⟩:=I.pin p hp;exact⟨(hs.2 p.1 ne).trans e,n,ne,nf,d⟩
 ·have hfn:X.fn x=true:=by
   rcases hf with z|z
   ·exact z
   ·rw[z] at hk;cases hk
  obtain⟨c,hc⟩:=I.ok.has x (.inl hk);obtain⟨w',z⟩:=I.cell x c hc;refine wpAny_storeName_cell I.ok.kind hk hc z (λh' hc' hs=>?_);obtain⟨oc,hoc,hocd⟩:=id z;refine h {s with heap:=h'} ⟨I.ok,I.os,I.bare,⟨λb o e n hb hx=>?_,λb o e n hb hx=>?_,I.base.free,λb o e hx=>?_,I.base.tups,I.base.frzs,I.base.tbls⟩,⟨m,hn.sameBut hs (Ne.symm (cne x c hc)),λj y v' e1 e2 e3=>?_⟩,λy c' e=>?_,I.free,I.freeC,λp hp=>?_,tracked ⟨oc,hoc,I.freeC x c hc⟩ hs,by simpa using I.len⟩ ⟨c,hs,.inr hc⟩
  ·exact(hs.2 b (wc (Vb (va e) (I.ok.cab x c hfn hc)))).trans (I.base.keep b o e n hb hx)
  ·obtain⟨sl,e1⟩:=I.base.slot b o e n hb hx;exact⟨sl,(hs.2 b (wc (Vb (va e) (I.ok.cab x c hfn hc)))).trans e1⟩
  ·obtain⟨o',e1⟩:=I.base.there b o e hx;exact⟨o',(hs.2 b (wc (Vb (va e) (I.ok.cab x c hfn hc)))).trans e1⟩
  ·by_cases hj:j=i
   ·subst hj;rw[hi] at e1;cases e1;rw[uf hiσ] at e2;cases e2;exact⟨u,r,.inr ⟨.inl hk,c,hc,hc'⟩⟩
   ·rw[Ve (Ne.symm hj)] at e2;obtain⟨u',r',q⟩:=hl j y v' e1 e2 e3;refine⟨u',r',?_⟩
    rcases q with q|⟨k,c',e,z'⟩
    ·exact .inl q
    ·refine .inr ⟨k,c',e,z'.sameBut hs ?_⟩;rintro rfl;exact hj (Yad hN e1 (I.ok.inj _ _ _ e hc ▸ hi))
  ·by_cases hcc:c'=c
   ·subst hcc;exact⟨_,hc'⟩
   ·obtain⟨w2,z2⟩:=I.cell y c' e;exact⟨w2,z2.sameBut hs hcc⟩
  ·obtain⟨e,n,ne,nf,d⟩:=I.pin p hp;refine⟨(hs.2 p.1 ?_).trans e,n,ne,nf,d⟩;intro q;rw[q,hoc] at e;have q':oc=p.2:=Option.some.inj e;exact d w' (by rw[<- q'];exact hocd)
theorem Y4{M:Model}{A:Around}{E:Value->Shared->Prop}{i:Nat}{x:Str}{v:V}{u:Value}{Q:Unit->Shared->Prop}(I:Inv X pins σ H s)(hN:X.N.Nodup)(hi:X.N[i]?=some x)(hx:Loc X.env.scope x)(r:RelV v u)
  (h:∀ s',Inv X pins (σ.set i (some v)) H s'->Q () s') (hf:X.fn x=true\/X.env.scope.names.lookup x=some .local:=by first|exact .inl rfl|exact .inr rfl|assumption):wpAny M A (storeName X.env x u) Q E s :=
 Ybc I hN hi hx r (λs' I' _=>h s' I') hf
theorem Inv.call'{s':Shared}{ch:List Addr}(I:Inv X pins σ H s)(ho:s'.os=s.os)(u:Un (frs X.stack) ch H H' s.heap s'.heap)(hok:HOk X.prog X.w H' s'.heap)(hg:AllBare s'.gens)
  (hch:∀ b∈ch,(b∈X.ex\/X.s₀.heap.objs.size<=b)/\b≠X.env.locals/\(∀ x c,X.env.cells.lookup x=some c->c≠b)/\∀ p∈X.pn++pins,p.1≠b):Inv X pins σ H' s':=by
 obtain⟨h',g',d',t',o'⟩:=s';have e:o'=s.os:=ho;subst e;exact I.call (g':=g') (t':=t') (d':=d') u hok hg hch
end
noncomputable abbrev XK:=Value->Option Addr->Hp->Prop
noncomputable abbrev St:=List (Option V)
noncomputable abbrev VK:=V->Hp->Prop
noncomputable abbrev TE:=St->Hp->VK->Prop
noncomputable abbrev TT:=St->Hp->(Bool->Hp->Prop)->Prop
noncomputable abbrev TA:=St->Hp->(List V->Hp->Prop)->Prop
structure Ends where
 nx:St->Hp->Prop
 rt:VK
 bk:St->Hp->Prop:=λ_ _=>False
 ct:St->Hp->Prop:=λ_ _=>False
noncomputable abbrev TS:=Ends->St->Hp->Prop
noncomputable def EP(X:Cx)(pins:List (Addr×Obj))(σ:St)(Q:VK)(u:Value)(s':Shared):Prop:=∃ v H',Inv X pins σ H' s'/\RelV v u/\Q v H'
noncomputable def TP(X:Cx)(pins:List (Addr×Obj))(σ:St)(Q:Bool->Hp->Prop)(b:Bool)(s':Shared):Prop:=∃ H',Inv X pins σ H' s'/\Q b H'
noncomputable def AP(X:Cx)(pins:List (Addr×Obj))(σ:St)(Q:List V->Hp->Prop)(us:List Value)(s':Shared):Prop:=∃ vs H',Inv X pins σ H' s'/\Vals vs us/\Q vs H'
noncomputable def SP(X:Cx)(pins:List (Addr×Obj))(D:Ends)(f:Flow)(s':Shared):Prop :=
 match f with
 |.next=>∃ σ' H',Inv X pins σ' H' s'/\D.nx σ' H'
 |.brk=>∃ σ' H',Inv X pins σ' H' s'/\D.bk σ' H'
 |.cont=>∃ σ' H',Inv X pins σ' H' s'/\D.ct σ' H'
 |.ret u=>∃ v σ' H',Inv X pins σ' H' s'/\RelV v u/\D.rt v H'
noncomputable def PE(X:Cx)(e:Expr)(t:TE):Prop :=
 ∀(pins:List (Addr×Obj)) (s:Shared) (σ:St) (H:Hp) (Q:VK),Inv X pins σ H s->t σ H Q->wpAny (model X.prog X.w) X.A (eval e X.env) (EP X pins σ Q) X.xe s
noncomputable def PT(X:Cx)(e:Expr)(t:TT):Prop :=
 ∀(pins:List (Addr×Obj)) (s:Shared) (σ:St) (H:Hp) (Q:Bool->Hp->Prop),Inv X pins σ H s->t σ H Q->wpAny (model X.prog X.w) X.A (isTrue e X.env (eval e X.env)) (TP X pins σ Q) X.xe s
noncomputable def PW(X:Cx)(e:Expr)(t:TT):Prop :=
 ∀(whole:Sem Value)(pins:List (Addr×Obj)) (s:Shared) (σ:St) (H:Hp) (Q:Bool->Hp->Prop),Inv X pins σ H s->t σ H Q->wpAny (model X.prog X.w) X.A (isTrue e X.env whole) (TP X pins σ Q) X.xe s
theorem PW.pt{X:Cx}{e:Expr}{t:TT}(h:PW X e t):PT X e t:=h _
noncomputable def PA(X:Cx)(es:List Expr)(t:TA):Prop :=
 ∀(pos:Pos)(pins:List (Addr×Obj)) (s:Shared) (σ:St) (H:Hp) (Q:List V->Hp->Prop),Inv X pins σ H s->t σ H Q->wpAny (model X.prog X.w) X.A (spliced (backTo pos (starEach es X.env))) (AP X pins σ Q) X.xe s
noncomputable def PS(X:Cx)(st:Stmt)(t:TS):Prop :=
 ∀(pins:List (Addr×Obj)) (s:Shared) (σ:St) (H:Hp) (D:Ends),Inv X pins σ H s->t D σ H->wpAny (model X.prog X.w) X.A (exec st X.env) (SP X pins D) X.xe s
noncomputable def PSs(X:Cx)(st:List Stmt)(t:TS):Prop :=
 ∀(pins:List (Addr×Obj)) (s:Shared) (σ:St) (H:Hp) (D:Ends),Inv X pins σ H s->t D σ H->wpAny (model X.prog X.w) X.A (execs st X.env) (SP X pins D) X.xe s
theorem thn{α:Type}{t:Sem α}{Q Q':α->Shared->Prop}{M:Model}{A:Around}{E:Value->Shared->Prop}{s:Shared}(h:wpAny M A t Q E s)(hQ:∀ a s,Q a s->Q' a s):wpAny M A t Q' E s:=wpAny_mono h hQ λ_ _ x=>x
section
variable {X:Cx}
theorem bin{a b:Expr}{ta tb:TE}(ha:PE X a ta)(hb:PE X b tb){pins:List (Addr×Obj)}{s:Shared}{σ:St}{H:Hp}{R:V->V->Hp->Prop}(I:Inv X pins σ H s)(h:ta σ H λx H1=>tb σ H1 λy H2=>R x y H2)
  {α:Type} {Q:α->Shared->Prop} {f:Value->Value->Sem α}
  (hf:∀ v u s2 x y H2,Inv X pins σ H2 s2->RelV x v->RelV y u->R x y H2->wpAny (model X.prog X.w) X.A (f v u) Q X.xe s2) :
  wpAny (model X.prog X.w) X.A (eval a X.env) (λv s₁=>wpAny (model X.prog X.w) X.A (eval b X.env) (λu s₂=>wpAny (model X.prog X.w) X.A (f v u) Q X.xe s₂) X.xe s₁) X.xe s:=by
 refine thn (ha pins s σ H _ I h) λv s1 ⟨x,H1,I1,r1,q1⟩=>?_;refine thn (hb pins s1 σ H1 _ I1 q1) λu s2 ⟨y,H2,I2,r2,q2⟩=>?_;exact hf v u s2 x y H2 I2 r1 r2 q2
noncomputable def tVar(i:Nat):TE:=λσ H Q=>∃ v,σ[i]?=some (some v)/\Q v H
noncomputable def tC(v:V):TE:=λ_ H Q=>Q v H
theorem Qbp{i:Nat}{x:Str}{pos:Pos}(hN:X.N[i]?=some x)(hv:Vis X.env.scope x)(hd:(x==("__debug__":Str))=false:=by decide)(hcd:(x==("__classdict__":Str))=false:=by decide):PE X (.Name x pos) (tVar i):=by
 intro pins s σ H Q I h;obtain⟨v,e,h⟩:=h;obtain⟨m,hn,hl⟩:=I.loc;obtain⟨u,r,l⟩:=hl i x v hN e hv;have fin:EP X pins σ Q u s:=⟨v,H,I,r,h⟩
 rcases l with ⟨hk,hm⟩|⟨hk,c,hc,hcell⟩
 ·exact wpAny_Name (wpAny_loadName_local I.ok.kind hk hn hm fin) hd
 ·rcases hk with hk|hk
  ·exact wpAny_Name (wpAny_loadName_cell I.ok.kind hk hc hcell fin) hd
  ·exact wpAny_Name (wpAny_loadName_free I.ok.kind hk hc hcell fin hcd) hd
theorem Yca{i j pos}:PE X (.Constant (.int i) j pos) (tC (.int i)):=λ_ _ _ H _ I h=>wpAny_Constant_int ⟨.int i,H,I.tok _,⟨_,rfl⟩,h⟩
theorem pe_bl{b j pos}:PE X (.Constant (.bool b) j pos) (tC (.bl b)):=λ_ _ _ H _ I h=>Constant_bool ⟨.bl b,H,I,rfl,h⟩
theorem ycb{j pos}:PE X (.Constant .none j pos) (tC .non):=λ_ _ _ H _ I h=>Constant_none ⟨.non,H,I,rfl,h⟩
theorem zbY{x j pos}:PE X (.Constant (.str x) j pos) (tC (.str x)):=λ_ _ _ H _ I h=>Calls.Constant_str ⟨.str x,H,I.tok _,⟨_,rfl⟩,h⟩
noncomputable def Gl(X:Cx)(x:Str):Prop:=X.env.kindOf x=some .globalImplicit
theorem qI{E:Value->Shared->Prop}{pins:List (Addr×Obj)}{s:Shared}{σ:St}{H:Hp}{x:Str}{u:Value}{pos:Pos}{Q:Value->Shared->Prop}(I:Inv X pins σ H s)(hg:Gl X x)(hm:X.mg x=some u)(h:Q u s)
  (hd:(x==("__debug__":Str))=false:=by decide):wpAny (model X.prog X.w) X.A (eval (.Name x pos) X.env) Q E s :=
 Calls.Name_function_global I.ok.kind hg (Calls.loadGlobal_global (by rw[I.ok.glob];exact I.mod.glob.keeps I.bk) hm h) hd
theorem Zy{E:Value->Shared->Prop}{pins:List (Addr×Obj)}{s:Shared}{σ:St}{H:Hp}{x:Str}{u:Value}{pos:Pos}{Q:Value->Shared->Prop}(I:Inv X pins σ H s)(hg:Gl X x)(hm:X.mg x=none)(hv:bootBuiltins x=some u)(h:Q u s)
  (hn:x≠"__name__":=by decide) (hd:(x==("__debug__":Str))=false:=by decide):wpAny (model X.prog X.w) X.A (eval (.Name x pos) X.env) Q E s:=by
 obtain⟨mb,h1,h2⟩:=I.mod.blt;exact Calls.Name_function_global I.ok.kind hg (Calls.loadGlobal_builtin (by rw[I.ok.glob];exact I.mod.glob.keeps I.bk) hm (by rw[I.ok.blt];exact h1.keeps I.bk) ((h2 x hn).trans hv) h) hd
theorem za0{x:Str}{v:V}{u:Value}{pos:Pos}(hg:Gl X x)(hm:X.mg x=some u)(r:RelV v u)(hd:(x==("__debug__":Str))=false:=by decide):PE X (.Name x pos) (tC v) :=
 λ_ _ _ H _ I h=>qI I hg hm ⟨v,H,I,r,h⟩ hd
theorem qaZ{x:Str}{v:V}{u:Value}{pos:Pos}(hg:Gl X x)(hm:X.mg x=none)(hv:bootBuiltins x=some u)(r:RelV v u)(hn:x≠"__name__":=by decide)(hd:(x==("__debug__":Str))=false:=by decide):PE X (.Name x pos) (tC v) :=
 λ_ _ _ H _ I h=>Zy I hg hm hv ⟨v,H,I,r,h⟩ hn hd
variable {a b:Expr} {ta tb:TE} {pos:Pos}
noncomputable def PC(X:Cx)(op:CmpOp)(a b:Expr)(t:TE):Prop :=
 ∀(pins:List (Addr×Obj)) (s:Shared) (σ:St) (H:Hp) (Q:VK),Inv X pins σ H s->t σ H Q ->
  wpAny (model X.prog X.w) X.A (eval a X.env) (λv s₁=>wpAny (model X.prog X.w) X.A (eval b X.env) (λu s₂=>wpAny (model X.prog X.w) X.A (compareOp op v u) (EP X pins σ Q) X.xe s₂) X.xe s₁) X.xe s
theorem Yay(b:Expr){op:CmpOp}(h:op≠.In)(h2:op≠.NotIn):behindInMarks op b=false:=by
 have e1:(op==CmpOp.In)=false:=by cases op <;> first|rfl|exact absurd rfl h
 have e2:(op==CmpOp.NotIn)=false:=by cases op <;> first|rfl|exact absurd rfl h2
 cases b <;> simp[behindInMarks,e1,e2]
noncomputable def tNotN(ta:TE):TE:=λσ H Q=>ta σ H λx H1=>Q (.bl (!decide (x=.non))) H1
theorem RelV.none_iff{x:V}{v:Value}(r:RelV x v):(v==Value.none)=decide (x=.non):=by
 cases x with
 |non=>cases r;rfl
 |bl _=>cases r;rfl
 |int _=>obtain⟨t,rfl⟩:=r;rfl
 |str _=>obtain⟨t,rfl⟩:=r;rfl
 |byt _=>obtain⟨t,rfl⟩:=r;rfl
 |flt _=>obtain⟨t,rfl⟩:=r;rfl
 |ref _=>cases r;rfl
 |ty _=>cases r;rfl
theorem za4{j pos'}(ha:PE X a ta):PC X .IsNot a (.Constant .none j pos') (tNotN ta):=by
 intro pins s σ H Q I h;refine thn (ha pins s σ H _ I h) λv s1 ⟨x,H1,I1,r1,q1⟩=>?_;exact Constant_none (isnot_none_gen ⟨.bl _,H1,I1,by rw[r1.none_iff];rfl,q1⟩)
noncomputable def tB(t:TE):TT:=λσ H Q=>t σ H λx H1=>∃ c,x=.bl c/\Q c H1
theorem Qb3{op:CmpOp}{t:TE}(h:PC X op a b t)(h1:behindInMarks op b=false:=by first|exact Yay _ (by decide) (by decide)|rfl):PE X (.Compare a [op] [b] pos) t:=λpins s σ H Q I hw=>wpAny_Compare1 (h pins s σ H Q I hw) h1
theorem zb0{op:CmpOp}{t:TE}(h:PC X op a b t)(h1:behindInMarks op b=false:=by first|exact Yay _ (by decide) (by decide)|rfl):PT X (.Compare a [op] [b] pos) (tB t):=by
 intro pins s σ H Q I hw;refine wpAny_isTrue_Compare1 (thn (h pins s σ H _ I hw) λv s1 h1=>thn h1 λu s2 h2=>thn h2 λc s3 ⟨x,H1,I1,r1,q1⟩=>?_) h1;obtain⟨d,rfl,q⟩:=q1;cases r1;exact wpAny_truthy_bool ⟨H1,I1,q⟩
theorem Qcb{e:Expr}{t:TE}(h:PE X e t)(he:∀ whole,isTrue e X.env whole=(do let v<-whole;standAt e.pos;holding [v] (truthy v)):=by intro _;rfl):PT X e (tB t):=by
 intro pins s σ H Q I hw;refine isTrue_plain (thn (h pins s σ H _ I hw) λv s1 ⟨x,H1,I1,r1,q1⟩=>?_) (he _);obtain⟨d,rfl,q⟩:=q1;cases r1;exact wpAny_truthy_bool ⟨H1,I1,q⟩
variable {tA tB':TT} {rest:List Expr}
noncomputable def tAnd(t u:TT):TT:=λσ H Q=>t σ H λc H1=>if c=true then u σ H1 Q else Q false H1
noncomputable def tOr(t u:TT):TT:=λσ H Q=>t σ H λc H1=>if c=true then Q true H1 else u σ H1 Q
noncomputable def tNot(t:TT):TT:=λσ H Q=>t σ H λc H1=>Q (!c) H1
theorem ybR(ha:PT X a tA):PW X (.BoolOp .And [a] pos) tA:=by
 intro wh pins s σ H Q I h;refine isTrue_and (thn (ha pins s σ H Q I h) λc s1 e=>?_);cases c with
 |true=>exact isTrue_and_nil e
 |false=>exact e
theorem Ycb(ha:PT X a tA):PW X (.BoolOp .Or [a] pos) tA:=by
 intro wh pins s σ H Q I h;refine isTrue_or (thn (ha pins s σ H Q I h) λc s1 e=>?_);cases c with
 |false=>exact isTrue_or_nil e
 |true=>exact e
theorem qce(ha:PT X a tA)(hb:PW X (.BoolOp .And (b::rest) pos) tB'):PW X (.BoolOp .And (a::b::rest) pos) (tAnd tA tB'):=by
 intro wh pins s σ H Q I h;refine isTrue_and (thn (ha pins s σ H _ I h) λc s1 ⟨H1,I1,q1⟩=>?_);cases c with
 |true=>exact hb wh pins s1 σ H1 Q I1 q1
 |false=>exact⟨H1,I1,q1⟩
theorem pw_or(ha:PT X a tA)(hb:PW X (.BoolOp .Or (b::rest) pos) tB'):PW X (.BoolOp .Or (a::b::rest) pos) (tOr tA tB'):=by
 intro wh pins s σ H Q I h;refine isTrue_or (thn (ha pins s σ H _ I h) λc s1 ⟨H1,I1,q1⟩=>?_);cases c with
 |true=>exact⟨H1,I1,q1⟩
 |false=>exact hb wh pins s1 σ H1 Q I1 q1
theorem Yb4(ha:PT X a tA):PT X (.UnaryOp .Not a pos) (tNot tA):=by
 intro pins s σ H Q I h;exact isTrue_not (ha pins s σ H (λc H1=>Q (!c) H1) I h)
noncomputable def tAndV(ta tb:TE):TE:=λσ H Q=>ta σ H λx H1=>∃ c,x=.bl c/\if c=true then tb σ H1 Q else Q (.bl false) H1
noncomputable def tOrV(ta tb:TE):TE:=λσ H Q=>ta σ H λx H1=>∃ c,x=.bl c/\if c=true then Q (.bl true) H1 else tb σ H1 Q
noncomputable def tNotV(ta:TE):TE:=λσ H Q=>ta σ H λx H1=>∃ c,x=.bl c/\Q (.bl (!c)) H1
theorem Qbr{op}{t:TE}(h:PE X a t):PE X (.BoolOp op [a] pos) t:=λpins s σ H Q I hw=>BoolOp_one (h pins s σ H Q I hw)
theorem zb8(ha:PE X a ta)(hb:PE X (.BoolOp .And (b::rest) pos) tb):PE X (.BoolOp .And (a::b::rest) pos) (tAndV ta tb):=by
 intro pins s σ H Q I h;refine BoolOp_and (thn (ha pins s σ H _ I h) λv s1 ⟨x,H1,I1,r1,q1⟩=>?_);obtain(⟨c,rfl,q1⟩):=q1;cases r1;refine wpAny_truthy_bool ?_;cases c with
 |true=>exact hb pins s1 σ H1 Q I1 q1
 |false=>exact⟨.bl false,H1,I1,rfl,q1⟩
theorem pe_or(ha:PE X a ta)(hb:PE X (.BoolOp .Or (b::rest) pos) tb):PE X (.BoolOp .Or (a::b::rest) pos) (tOrV ta tb):=by
 intro pins s σ H Q I h;refine BoolOp_or (thn (ha pins s σ H _ I h) λv s1 ⟨x,H1,I1,r1,q1⟩=>?_);obtain(⟨c,rfl,q1⟩):=q1;cases r1;refine wpAny_truthy_bool ?_;cases c with
 |false=>exact hb pins s1 σ H1 Q I1 q1
 |true=>exact⟨.bl true,H1,I1,rfl,q1⟩
theorem qcf(ha:PE X a ta):PE X (.UnaryOp .Not a pos) (tNotV ta):=by
 intro pins s σ H Q I h;refine UnaryOp_ (thn (ha pins s σ H _ I h) λv s1 ⟨x,H1,I1,r1,q1⟩=>?_);obtain(⟨c,rfl,q1⟩):=q1;cases r1;exact not_of (wpAny_truthy_bool ⟨.bl (!c),H1,I1,rfl,q1⟩)
noncomputable def tIf(t:TT)(ta tb:TE):TE:=λσ H Q=>t σ H λc H1=>if c=true then ta σ H1 Q else tb σ H1 Q
theorem Qbz{c:Expr}(hc:PT X c tA)(ha:PE X a ta)(hb:PE X b tb):PE X (.IfExp c a b pos) (tIf tA ta tb):=by
 intro pins s σ H Q I h;refine wpAny_IfExp (thn (hc pins s σ H _ I h) λd s1 ⟨H1,I1,q1⟩=>?_);cases d with
 |true=>exact ha pins s1 σ H1 Q I1 q1
 |false=>exact hb pins s1 σ H1 Q I1 q1
end
noncomputable def SqL(K:PySem.W.Frag)(H:Hp)(a:Addr)(xs:List V):Prop :=
 Rd H a (.lst xs) \/
  ∃(o:Obj)(its:Array Value)(n:Nat),K.lookup a=some o/\o.cls=.type "list"/\o.dict=none/\o.data=.seq its n/\its.size<=sizeLine/\Vals xs its.toList
noncomputable def SqT(K:PySem.W.Frag)(H:Hp)(a:Addr)(xs:List V):Prop :=
 Rd H a (.tup xs) \/
  ∃(o:Obj)(its:Array Value)(n:Nat),K.lookup a=some o/\o.cls=.type "tuple"/\o.data=.seq its n/\its.size<=sizeLine/\Vals xs its.toList
noncomputable def absV:Value->Option V
 |.none=>some .non
 |.bool b=>some (.bl b)
 |.int i _=>some (.int i)
 |.str x _=>some (.str x)
 |.bytes b _=>some (.byt b)
 |.float b _=>some (.flt b)
 |.ref a=>some (.ref a)
 |.type n=>some (.ty n)
 |_=>none
theorem RelV.abs{x:V}{u:Value}(r:RelV x u):absV u=some x:=by
 cases x with
 |non=>cases r;rfl
 |bl _=>cases r;rfl
 |int _=>obtain⟨t,rfl⟩:=r;rfl
 |str _=>obtain⟨t,rfl⟩:=r;rfl
 |byt _=>obtain⟨t,rfl⟩:=r;rfl
 |flt _=>obtain⟨t,rfl⟩:=r;rfl
 |ref _=>cases r;rfl
 |ty _=>cases r;rfl
theorem RelV.inj{x y:V}{u:Value}(r:RelV x u)(q:RelV y u):x=y:=Option.some.inj (r.abs.symm.trans q.abs)
theorem Vals.inj:∀{xs ys:List V}{us:List Value},Vals xs us->Vals ys us->xs=ys
 |_,_,_,.nil,.nil=>rfl
 |_,_,_,.cons r t,.cons r' t'=>by rw[r.inj r',Vals.inj t t']
section
variable {X:Cx} {pins:List (Addr×Obj)} {σ:St} {H:Hp} {s:Shared} {a:Addr} {xs ys:List V}
theorem SqL.of{K:PySem.W.Frag}(h:H a=some (.lst xs)):SqL K H a xs:=.inl (.inl h)
theorem SqT.of{K:PySem.W.Frag}(h:H a=some (.tup xs)):SqT K H a xs:=.inl (.inl h)
theorem Inv.list(I:Inv X pins σ H s)(h:SqL X.K H a xs):∃ its:List Value,Vals xs its/\PlainL s.heap a its.toArray/\xs.length<=sizeLine:=by
 rcases h with h|⟨o,its,n,hk,hc,hd,hs,hz,r⟩
 ·obtain⟨z,its,n,r,e⟩:=h.ok I.hok;exact⟨its,r,⟨_,n,e,rfl,rfl,rfl⟩,z⟩
 ·refine⟨its.toList,r,⟨o,n,I.kIn a o hk,hc,hd,by simpa using hs⟩,?_⟩;have e:=r.length;simp only[xf] at e
  lia
theorem Inv.tuple(I:Inv X pins σ H s)(h:SqT X.K H a xs):∃ its:List Value,Vals xs its/\IsTup s.heap a its.toArray/\xs.length<=sizeLine:=by
 rcases h with h|⟨o,its,n,hk,hc,hs,hz,r⟩
 ·obtain⟨z,its,r,p⟩:=h.ok I.hok;exact⟨its,r,p,z⟩
 ·refine⟨its.toList,r,⟨o,I.kIn a o hk,hc,n,by simpa using hs⟩,?_⟩;have e:=r.length;simp only[xf] at e
  lia
theorem Inv.list_inj(I:Inv X pins σ H s)(h:SqL X.K H a xs)(h':SqL X.K H a ys):xs=ys:=by
 obtain⟨its,r,⟨o,n,e,_,_,d⟩,_⟩:=I.list h;obtain⟨its',r',⟨o',n',e',_,_,d'⟩,_⟩:=I.list h';rw[e] at e';cases e';rw[d] at d';injection d' with d1 _
 have:its=its':=by simpa using congrArg WE d1
 subst this;exact r.inj r'
theorem Inv.tuple_inj(I:Inv X pins σ H s)(h:SqT X.K H a xs)(h':SqT X.K H a ys):xs=ys:=by
 obtain⟨its,r,⟨o,e,_,n,d⟩,_⟩:=I.tuple h;obtain⟨its',r',⟨o',e',_,n',d'⟩,_⟩:=I.tuple h';rw[e] at e';cases e';rw[d] at d';injection d' with d1 _
 have:its=its':=by simpa using congrArg WE d1
 subst this;exact r.inj r'
end
section
variable {X:Cx} {st:Stmt} {rest:List Stmt} {t u:TS} {e:Expr} {te:TE} {pos:Pos}
noncomputable def QbW:TS:=λD σ H=>D.nx σ H
noncomputable def tSeq(t u:TS):TS:=λD σ H=>t {D with nx:=u D} σ H
theorem Za1:PSs X [] QbW:=λ_ _ σ H _ I h=>wpAny_execs_nil ⟨σ,H,I,h⟩
theorem ybt(h1:PS X st t)(h2:PSs X rest u):PSs X (st::rest) (tSeq t u):=by
 intro pins s σ H D I h;refine wpAny_execs_cons (thn (h1 pins s σ H {D with nx:=u D} I h) λf s1 q=>?_);cases f with
 |next =>
  obtain⟨σ',H',I',q⟩:=q;exact h2 pins s1 σ' H' D I' q
 |ret v=>exact q
 |brk=>exact q
 |cont=>exact q
theorem QaZ(h1:PS X st t):PSs X [st] t:=by
 intro pins s σ H D I h;refine wpAny_execs_cons (thn (h1 pins s σ H D I h) λf s1 q=>?_);cases f with
 |next=>exact wpAny_execs_nil q
 |ret v=>exact q
 |brk=>exact q
 |cont=>exact q
theorem QbI:PS X (.Pass pos) QbW:=λ_ _ σ H _ I h=>wpAny_Pass ⟨σ,H,I,h⟩
theorem Inv.quiet{pins:List (Addr×Obj)}{σ:St}{H:Hp}{s:Shared}(I:Inv X pins σ H s):interactive X.env=false:=by simp[interactive,I.ok.kind]
noncomputable def tDrop(te:TE):TS:=λD σ H=>te σ H λ_ H1=>D.nx σ H1
theorem zbC(he:PE X e te)(hs:swapsWith e none pos.line X.env=pure false:=by rfl):PS X (.Expr e pos) (tDrop te):=by
 intro pins s σ H D I h;exact wpAny_Expr_any (thn (he pins s σ H _ I h) λv s1 ⟨x,H1,I1,r1,q1⟩=>⟨σ,H1,I1,q1⟩) I.quiet hs
noncomputable def tRet(te:TE):TS:=λD σ H=>te σ H D.rt
theorem Qb7(he:PE X e te):PS X (.Return (some e) pos) (tRet te):=by
 intro pins s σ H D I h;exact wpAny_Return_some (thn (he pins s σ H _ I h) λv s1 ⟨x,H1,I1,r1,q1⟩=>⟨x,σ,H1,I1,r1,q1⟩)
noncomputable def tIfS(c:TT)(t u:TS):TS:=λD σ H=>c σ H λb H1=>if b=true then t D σ H1 else u D σ H1
theorem ps_if{c:Expr}{a b:List Stmt}{tc:TT}(hc:PT X c tc)(ha:PSs X a t)(hb:PSs X b u):PS X (.If c a b pos) (tIfS tc t u):=by
 intro pins s σ H D I h;refine wpAny_If (thn (hc pins s σ H _ I h) λd s1 ⟨H1,I1,q1⟩=>?_);cases d with
 |true=>exact ha pins s1 σ H1 D I1 q1
 |false=>exact hb pins s1 σ H1 D I1 q1
end
noncomputable abbrev TG:=V->St->Hp->(St->Hp->Prop)->Prop
noncomputable abbrev TGs:=List V->St->Hp->(St->Hp->Prop)->Prop
noncomputable def PG(X:Cx)(target:Expr)(t:TG):Prop :=
 ∀(pins:List (Addr×Obj)) (s:Shared) (σ:St) (H:Hp) (v:V) (u:Value) (Q:St->Hp->Prop),Inv X pins σ H s->RelV v u->t v σ H Q ->
  wpAny (model X.prog X.w) X.A (assign target X.env u) (λ_ s'=>∃ σ' H',Inv X pins σ' H' s'/\Q σ' H') X.xe s
noncomputable def PGs(X:Cx)(ts:List Expr)(t:TGs):Prop :=
 ∀(pins:List (Addr×Obj)) (s:Shared) (σ:St) (H:Hp) (vs:List V) (us:List Value) (Q:St->Hp->Prop),Inv X pins σ H s->Vals vs us->t vs σ H Q ->
  wpAny (model X.prog X.w) X.A (assignInOrder ((assignEach ts X.env).map (·.2)) us) (λ_ s'=>∃ σ' H',Inv X pins σ' H' s'/\Q σ' H') X.xe s
noncomputable abbrev TSet:=V->V->V->Hp->(Hp->Prop)->Prop
noncomputable def PSet(X:Cx)(t:TSet):Prop :=
 ∀(pins:List (Addr×Obj)) (s:Shared) (σ:St) (H:Hp) (o i v:V) (ov iv u:Value) (Q:Hp->Prop),Inv X pins σ H s->RelV o ov->RelV i iv->RelV v u->t o i v H Q ->
  wpAny (model X.prog X.w) X.A (setItem ov iv u) (λ_ s'=>∃ H',Inv X pins σ H' s'/\Q H') X.xe s
section
variable {X:Cx} {pos:Pos}
noncomputable def Za4(i:Nat):TG:=λv σ H Q=>Q (σ.set i (some v)) H
theorem ZaW{i:Nat}{x:Str}(hN:X.N.Nodup)(hi:X.N[i]?=some x)(hx:Loc X.env.scope x)(hf:X.fn x=true\/X.env.scope.names.lookup x=some .local:=by first|exact .inl rfl|exact .inr rfl|assumption):PG X (.Name x pos) (Za4 i):=by
 intro pins s σ H v u Q I r h;exact wpAny_assign_Name (Y4 I hN hi hx r (λs' I'=>⟨_,H,I',h⟩) hf)
noncomputable def gNil:TGs:=λvs σ H Q=>vs=[]/\Q σ H
noncomputable def gCons(t:TG)(u:TGs):TGs:=λvs σ H Q=>∃ v r,vs=v::r/\t v σ H λσ' H'=>u r σ' H' Q
theorem YbI:PGs X [] gNil:=by
 intro pins s σ H vs us Q I r h;obtain(⟨e,h⟩):=h;subst e;cases r;exact assignInOrder_nil ⟨σ,H,I,h⟩
theorem Ybx{e:Expr}{es:List Expr}{t:TG}{u:TGs}(h1:PG X e t)(h2:PGs X es u)
  (hs:(assignEach (e::es) X.env).map (·.2)=assign e X.env::(assignEach es X.env).map (·.2):=by rfl):PGs X (e::es) (gCons t u):=by
 intro pins s σ H vs us Q I r h;obtain(⟨v,vr,e1,h⟩):=h;subst e1;cases r with
 |cons r rr =>
  rw[hs];refine assignInOrder_cons (thn (h1 pins s σ H _ _ _ I r h) λ_ s1 ⟨σ1,H1,I1,q1⟩=>?_);exact h2 pins s1 σ1 H1 _ _ Q I1 rr q1
noncomputable def gTup(K:PySem.W.Frag)(n:Nat)(t:TGs):TG:=λv σ H Q=>∃ a xs,v=.ref a/\SqT K H a xs/\xs.length=n/\t xs σ H Q
theorem ybX{es:List Expr}{k:Nat}{t:TGs}{n:Nat}(hc:X.calm=true)(h:PGs X es t)
  (hn:(assignEach es X.env).length=n:=by rfl) (hst:(assignEach es X.env).findIdx? (·.1)=none:=by rfl):PG X (.Tuple es k pos) (gTup X.K n t):=by
 intro pins s σ H v u Q I r hw;obtain(⟨a,xs,e1,hq,hl,hw⟩):=hw;subst e1;cases r;obtain(⟨its,rv,ht,hz⟩):=I.tuple hq;refine assign_Tuple_tuple (I.ok.hd hc) ht (by simp[hn,<- hl,rv.length]) hst λh' hx=>?_;have I1:Inv X pins σ H {s with heap:=h'}:=I.kept (t':=s.toks) λb o e=>hx b o (wc (va e)) e;exact h pins _ σ H xs _ Q I1 (by simpa using rv) hw
noncomputable def gSub(to ti:TE)(t:TSet):TG:=λv σ H Q=>to σ H λo H1=>ti σ H1 λi H2=>t o i v H2 λH3=>Q σ H3
theorem qb3{o i:Expr}{to ti:TE}{t:TSet}(ho:PE X o to)(hi:PE X i ti)(hs:PSet X t)
  (ha:∀ v,assign (.Subscript o i pos) X.env v=(do
   let ov<-holding [v] (eval o X.env)
   let iv<-holding [v,ov] (eval i X.env)
   standAt pos
   holding [v,ov,iv] (setItem ov iv v)
   release [v,ov,iv] []):=by intro _;rfl):PG X (.Subscript o i pos) (gSub to ti t):=by
 intro pins s σ H v u Q I r h;rw[ha];refine wpAny_bind (wpAny_holding (thn (ho pins s σ H _ I h) λov s1 ⟨x,H1,I1,r1,q1⟩=>?_));refine wpAny_bind (wpAny_holding (thn (hi pins s1 σ H1 _ I1 q1) λiv s2 ⟨y,H2,I2,r2,q2⟩=>?_));refine wpAny_bind (wpAny_standAt (wpAny_bind (wpAny_holding (thn (hs pins s2 σ H2 x y v ov iv u _ I2 r1 r2 r q2) λ_ s3 ⟨H3,I3,q3⟩=>?_))));exact wpAny_release ⟨σ,H3,I3,q3⟩
noncomputable def tAsg(te:TE)(g:TG):TS:=λD σ H=>te σ H λx H1=>g x σ H1 D.nx
theorem zbq{tg e:Expr}{te:TE}{g:TG}(he:PE X e te)(hg:PG X tg g)(hs:swapsWithSole [tg] e pos.line X.env=pure false:=by rfl)(hw:swappedStores [tg] e X.env=pure none:=by rfl)
  (h1:(assignEach [tg] X.env).map (·.2)=[assign tg X.env]:=by rfl):PS X (.Assign [tg] e pos) (tAsg te g):=by
 intro pins s σ H D I h;refine wpAny_Assign_stores (thn (he pins s σ H _ I h) λv s1 ⟨x,H1,I1,r1,q1⟩=>?_) hs hw;rw[h1];exact thn (hg pins s1 σ H1 x v _ I1 r1 q1) λ_ s2 q=>q
theorem Zbz{i:Nat}{x:Str}{e:Expr}{te:TE}{pos':Pos}(hN:X.N.Nodup)(hi:X.N[i]?=some x)(hx:Loc X.env.scope x)(he:PE X e te)(hs:swapsWith e (some (.Name x pos')) pos.line X.env=pure false:=by rfl)(hf:X.fn x=true\/X.env.scope.names.lookup x=some .local:=by first|exact .inl rfl|exact .inr rfl|assumption) :
  PS X (.Assign [.Name x pos'] e pos) (tAsg te (Za4 i)):=by
 intro pins s σ H D I h;refine wpAny_Assign_Name (thn (he pins s σ H _ I h) λv s1 ⟨y,H1,I1,r1,q1⟩=>?_) hs;exact Y4 I1 hN hi hx r1 (λs2 I2=>⟨_,H1,I2,q1⟩) hf
end
section
variable {X:Cx} {pos:Pos}
noncomputable def Zcg(c:TT)(tb:TS):TS:=λD σ H=>∃ W:Nat->St->Hp->Prop,(∃ m,W m σ H)/\∀ m σ H,W m σ H ->
 c σ H λb H1=>if b=true then ∃ N:St->Hp->Prop,(∀ σ' H',N σ' H'->∃ m',m'<m/\W m' σ' H')/\tb {D with nx:=N,ct:=N,bk:=D.nx} σ H1 else D.nx σ H1
theorem qbq{c:Expr}{body:List Stmt}{tc:TT}{tb:TS}(hp:PassesOwn (model X.prog X.w) X.A X.env X.xe)(hc:PT X c tc)(hb:PSs X body tb):PS X (.While c body [] pos) (Zcg tc tb):=by
 intro pins s σ H D I h;obtain⟨W,⟨m0,w0⟩,turn⟩:=h;refine wpAny_While (codeAny_whileLoop (λn s'=>∃ σ' H',Inv X pins σ' H' s'/\W n σ' H') ?_ m0 ⟨σ,H,I,w0⟩);rintro n s1 ⟨σ1,H1,I1,w1⟩;refine wpAny_passesOwn hp (thn (hc pins s1 σ1 H1 _ I1 (turn n σ1 H1 w1)) λb s2 ⟨H2,I2,q2⟩=>?_);cases b with
 |true =>
  obtain⟨N,hN,q2⟩:=q2;rw[if_pos rfl];refine wpAny_passesOwn hp (thn (hb pins s2 σ1 H2 _ I2 q2) λf s3 q3=>?_);cases f with
  |next =>
   obtain⟨σ3,H3,I3,n3⟩:=q3;obtain⟨m',hm,w3⟩:=hN σ3 H3 n3;exact⟨m',hm,σ3,H3,I3,w3⟩
  |cont =>
   obtain⟨σ3,H3,I3,n3⟩:=q3;obtain⟨m',hm,w3⟩:=hN σ3 H3 n3;exact⟨m',hm,σ3,H3,I3,w3⟩
  |brk=>exact q3
  |ret v=>exact q3
 |false =>
  rw[if_neg Ug];exact wpAny_execs_nil ⟨σ1,H2,I2,q2⟩
end
structure It where
 go:Nat->Hp->Prop
 yld:Nat->Hp->V->Hp->Prop
 stop:Nat->Hp->Prop
noncomputable def QE(X:Cx)(pins:List (Addr×Obj))(H:Hp)(b:Addr):Prop :=
 H b=none/\b≠X.env.locals/\b∉X.fs/\(b∈X.ex\/X.s₀.heap.objs.size<=b)/\(∀ x c,X.env.cells.lookup x=some c->c≠b)/\∀ p∈X.pn++pins,p.1≠b
theorem Inv.fpOk{X:Cx}{pins:List (Addr×Obj)}{σ:St}{H H':Hp}{s:Shared}{b:Addr}(I:Inv X pins σ H s)(hb:s.heap.objs.size<=b)(hn:H' b=none):QE X pins H' b:=by
 refine⟨hn,xl (Vb I.lt hb),I.nofs hb,.inr (Xe I.sz hb),λx c e z=>?_,λp hp z=>?_⟩
 ·obtain⟨v,q⟩:=I.cell x c e;exact absurd (Vb q.lt (by rw[z];exact hb)) (Xj _)
 ·exact absurd (Vb (va (I.pin p hp).1) (by rw[z];exact hb)) (Xj _)
structure Turn (P:Program) (w:World) (K:PySem.W.Frag) (tg:Expr) (J:It) (fp:List Addr) (it:Addr) (tn:Nat->Heap->Prop):Prop where
 mem:it∈fp
 obj:∀ i h,tn i h->∀ b∈fp,∃ o,h.get? b=some o/\∀ v,o.data≠.cell v
 keep:∀ i h h',tn i h->(∀ b∈fp,∀ o,h.get? b=some o->h'.get? b=some o)->tn i h'
 item:∀(X:Cx),X.prog=P->X.w=w->X.K=K->X.calm=true->∀(i:Nat)(pins:List (Addr×Obj)) (s:Shared) (σ:St) (H:Hp) (E:Value->Shared->Prop),Inv X pins σ H s->(∀ b∈fp,QE X pins H b)->tn i s.heap->J.go i H ->
  wpAny (model P w) X.A (pyNext (.ref it)) (λr s1=>∃ u,r=some u /\
   wpAny (model P w) X.A (letOwnedTupleGo tg (.ref it) u) (λ_ s2=>∃ x H',Inv X pins σ H' s2/\RelV x u/\J.yld i H x H'/\tn (i+1) s2.heap/\∀ b∈fp,H' b=none) E s1) E s
 done:∀(X:Cx),X.prog=P->X.w=w->X.K=K->X.calm=true->∀(i:Nat)(pins:List (Addr×Obj)) (s:Shared) (σ:St) (H:Hp) (E:Value->Shared->Prop),Inv X pins σ H s->(∀ b∈fp,QE X pins H b)->tn i s.heap->J.stop i H ->
  wpAny (model P w) X.A (pyNext (.ref it)) (λr s1=>r=none/\Inv X pins σ H s1) E s
 self:∀(A:Around)(i:Nat)(s:Shared)(Q:Value->Shared->Prop)(E:Value->Shared->Prop),tn i s.heap->Q (.ref it) s->wpAny (model P w) A (pyIter (.ref it)) Q E s
noncomputable abbrev TI:=St->Hp->(It->Hp->Prop)->Prop
noncomputable def PIE(X:Cx)(pins:List (Addr×Obj))(σ:St)(tg:Expr)(R:It->Hp->Prop)(itv:Value)(s2:Shared):Prop :=
 ∃(it:Addr)(fp:List Addr)(tn:Nat->Heap->Prop)(J:It)(H':Hp),itv=.ref it/\Inv X pins σ H' s2/\Turn X.prog X.w X.K tg J fp it tn/\tn 0 s2.heap/\(∀ b∈fp,QE X pins H' b)/\R J H'
noncomputable def PI(X:Cx)(tg iter:Expr)(wi:TI):Prop :=
 ∀(pins:List (Addr×Obj)) (s:Shared) (σ:St) (H:Hp) (R:It->Hp->Prop),Inv X pins σ H s->wi σ H R ->
  wpAny (model X.prog X.w) X.A (eval iter X.env) (λv s1=>wpAny (model X.prog X.w) X.A (pyIter v) (PIE X pins σ tg R) X.xe s1) X.xe s
theorem ZaZ {M:Model} {A:Around} {E:Value→Shared→Prop} {s:Shared} {tg:Expr} {it:Addr} {u:Value} {o:Obj} {n:String} {vs:Array Value} {Q:Unit→Shared→Prop} (ho:s.heap.get? it=some o) (hc:o.cls=.type n) (hd:o.data=.fields vs)
    (hn:["enumerate","zip","dict_itemiterator","dict_reverseitemiterator","odict_iterator","itertools.zip_longest","itertools.pairwise"].contains n=false) (hQ:Q () s):wpAny M A (letOwnedTupleGo tg (.ref it) u) Q E s:=by
  unfold letOwnedTupleGo
  cases tg <;> first
    | exact wpAny_pure hQ
    | (cases u <;> first
        | exact wpAny_pure hQ
        | (refine wpAny_bind (wpAny_load ho ?_)
           rw [hc,hd]
           show wpAny M A (if (["enumerate","zip","dict_itemiterator","dict_reverseitemiterator","odict_iterator","itertools.zip_longest","itertools.pairwise"].contains n&&vs[0]? == some (rawInt _))=true then _ else _) Q E s
           rw [if_neg (by intro h; rw [hn,Bool.false_and] at h; cases h)]
           exact wpAny_pure hQ))
noncomputable def Itl(K:PySem.W.Frag)(a:Addr):It :=
 ⟨λi H=>∃ xs x,SqL K H a xs/\xs[i]?=some x,λi H x H'=>H'=H/\∀ xs,SqL K H a xs->xs[i]?=some x,λi H=>∃ xs,SqL K H a xs/\xs.length<=i⟩
noncomputable def Itt(K:PySem.W.Frag)(a:Addr):It :=
 ⟨λi H=>∃ xs x,SqT K H a xs/\xs[i]?=some x,λi H x H'=>H'=H/\∀ xs,SqT K H a xs->xs[i]?=some x,λi H=>∃ xs,SqT K H a xs/\xs.length<=i⟩
noncomputable def Itr(lo:Int)(n:Nat):It:=⟨λi _=>i<n,λi H x H'=>H'=H/\x=.int (lo+i),λi _=>n<=i⟩
theorem Qa6{P:Program}{w:World}{K:PySem.W.Frag}{tg:Expr}(a it:Addr):Turn P w K tg (Itl K a) [it] it (λi h=>h.IsListIter it a i) where
 mem:=by simp
 obj:=λi h st b hb=>by
  have e:b=it:=by simpa using hb
  subst e;obtain⟨o,e,c,d⟩:=st;exact⟨o,e,λv z=>by rw[d] at z;cases z⟩
 keep:=λi h h' st k=>st.at λo e=>k it (by simp) o e
 item:=by
  intro X hP hw hK hc i pins s σ H E I hf st hg;subst hP hw hK;obtain⟨xs,x,hq,hx⟩:=hg;obtain⟨its,rv,p,hz⟩:=I.list hq;obtain⟨u,hu,ru⟩:=rv.get hx;obtain⟨f0,f1,f2,f3,f4,f5⟩:=hf it (by simp);refine wpAny_pyNext_list_item st p.isList (x:=u) (by simpa using hu) λh' st' sb=>?_;have I1:Inv X pins σ H {s with heap:=h'}:=I.turned (t':=s.toks) (λb o hb e=>(sb.2 b hb).trans e) f0 f1 f3 f4 f5;obtain⟨o,e,c,d⟩:=id st';exact⟨u,rfl,ZaZ (s:={s with heap:=h'}) e c d (by decide) ⟨x,H,I1,ru,⟨rfl,λys hy=>by rw[I.list_inj hy hq];exact hx⟩,st',λb hb=>(hf b hb).1⟩⟩
 done:=by
  intro X hP hw hK hc i pins s σ H E I hf st hg;subst hP hw hK;obtain⟨xs,hq,hx⟩:=hg;obtain⟨its,rv,p,hz⟩:=I.list hq;obtain⟨f0,f1,f2,f3,f4,f5⟩:=hf it (by simp);have hl:=rv.length;exact wpAny_pyNext_list_end (I.ok.hd hc) st p.isList (by simp;lia) λh' eb=>⟨rfl,I.turned (t':=s.toks) (λb o hb e=>eb b o hb e) f0 f1 f3 f4 f5⟩
 self:=λ_ _ _ _ _ st h=>wpAny_pyIter_listiter st h
theorem QaO{P:Program}{w:World}{K:PySem.W.Frag}{tg:Expr}(a it:Addr):Turn P w K tg (Itt K a) [it] it (λi h=>h.IsTupleIter it a i) where
 mem:=by simp
 obj:=λi h st b hb=>by
  have e:b=it:=by simpa using hb
  subst e;obtain⟨o,e,c,d⟩:=st;exact⟨o,e,λv z=>by rw[d] at z;cases z⟩
 keep:=λi h h' st k=>st.at λo e=>k it (by simp) o e
 item:=by
  intro X hP hw hK hc i pins s σ H E I hf st hg;subst hP hw hK;obtain⟨xs,x,hq,hx⟩:=hg;obtain⟨its,rv,p,hz⟩:=I.tuple hq;obtain⟨u,hu,ru⟩:=rv.get hx;obtain⟨f0,f1,f2,f3,f4,f5⟩:=hf it (by simp);refine wpAny_pyNext_tuple_item st (show s.heap.IsTuple a its.toArray from p) (x:=u) (by simpa using hu) λh' st' sb=>?_;have I1:Inv X pins σ H {s with heap:=h'}:=I.turned (t':=s.toks) (λb o hb e=>(sb.2 b hb).trans e) f0 f1 f3 f4 f5;obtain⟨o,e,c,d⟩:=id st';exact⟨u,rfl,ZaZ (s:={s with heap:=h'}) e c d (by decide) ⟨x,H,I1,ru,⟨rfl,λys hy=>by rw[I.tuple_inj hy hq];exact hx⟩,st',λb hb=>(hf b hb).1⟩⟩
 done:=by
  intro X hP hw hK hc i pins s σ H E I hf st hg;subst hP hw hK;obtain⟨xs,hq,hx⟩:=hg;obtain⟨its,rv,p,hz⟩:=I.tuple hq;obtain⟨f0,f1,f2,f3,f4,f5⟩:=hf it (by simp);have hl:=rv.length;exact wpAny_pyNext_tuple_end (I.ok.hd hc) st (show s.heap.IsTuple a its.toArray from p) (by simp;lia) λh' eb=>⟨rfl,I.turned (t':=s.toks) (λb o hb e=>eb b o hb e) f0 f1 f3 f4 f5⟩
 self:=λ_ _ _ _ _ st h=>wpAny_pyIter_tupleiter st h
theorem yaV{P:Program}{w:World}{K:PySem.W.Frag}{tg:Expr}(it:Addr)(lo:Int)(n:Nat):Turn P w K tg (Itr lo n) [it] it (λi h=>IsRangeIter h it (lo+(i:Nat)*1) ((n:Int)-(i:Nat)) 1) where
 mem:=by simp
 obj:=λi h st b hb=>by
  have e:b=it:=by simpa using hb
  subst e;exact⟨_,st,λv z=>by
   have z':Data.fields _=Data.cell v:=z;cases z'⟩
 keep:=λi h h' st k=>k it (by simp) _ st
 item:=by
  intro X hP hw hK hc i pins s σ H E I hf st hg;subst hP hw hK;obtain⟨f0,f1,f2,f3,f4,f5⟩:=hf it (by simp);have W:=Walks.range (prog:=X.prog) (w:=X.w) (I.ok.hd hc) it lo 1 n;refine W.item i s _ _ hg st λv h' tk hv st' kk=>?_;obtain⟨t,rfl⟩:=hv;have I1:Inv X pins σ H {s with heap:=h',toks:=tk}:=I.turned (λb o hb e=>kk b o (by simpa using hb) e) f0 f1 f3 f4 f5;refine⟨_,rfl,ZaZ (s:={s with heap:=h',toks:=tk}) (n:="range_iterator") st' rfl rfl (by decide) ⟨.int (lo+i),H,I1,⟨t,?_⟩,⟨rfl,rfl⟩,st',λb hb=>(hf b hb).1⟩⟩;rw[Int.mul_one]
 done:=by
  intro X hP hw hK hc i pins s σ H E I hf st hg;subst hP hw hK;obtain⟨f0,f1,f2,f3,f4,f5⟩:=hf it (by simp);exact wpAny_pyNext_range_end (I.ok.hd hc) st (by have:n<=i:=hg;lia) λh' eb=>⟨rfl,I.turned (t':=s.toks) (λb o hb e=>eb b o hb e) f0 f1 f3 f4 f5⟩
 self:=λ_ _ _ _ _ st h=>wpAny_pyIter_rangeiter st h
section
variable {X:Cx} {tg:Expr}
theorem yaJ{pins:List (Addr×Obj)}{σ:St}{H:Hp}{s:Shared}{R:It->Hp->Prop}{E:Value->Shared->Prop}{lo hi:Int}{t u v:Tok}{tk:Nat}(I:Inv X pins σ H s)(h1:-(2^62)<=lo)(h2:lo<2^62)(h3:-(2^62)<=hi)(h4:hi<2^62)
  (q:R (Itr lo (hi-lo).toNat) H):wpAny (model X.prog X.w) X.A (pyIter (.ref s.heap.objs.size)) (PIE X pins σ tg R) E {s with heap:=s.heap.push {cls:=.type "range",data:=.fields #[.int lo t,.int hi u,.int 1 v]},toks:=tk}:=by
 refine wpAny_pyIter_range (IsRange.new ..) (small_one h1 h2 h3 h4) ?_;have I1:Inv X pins σ H {s with heap:=s.heap.push {cls:=.type "range",data:=.fields #[.int lo t,.int hi u,.int 1 v]},toks:=tk}:=I.kept λb o e=>wa _ e;refine⟨(s.heap.push {cls:=.type "range",data:=.fields #[.int lo t,.int hi u,.int 1 v]}).objs.size,[(s.heap.push {cls:=.type "range",data:=.fields #[.int lo t,.int hi u,.int 1 v]}).objs.size],_,_,H,rfl,
  I1.kept (t':=tk) λb o e=>wa _ e,yaV _ lo (hi-lo).toNat,?_,λb hb=>?_,q⟩
 ·have e1:lo+((0:Nat):Int)*1=lo:=by simp
  have e2:(((hi-lo).toNat:Nat):Int)-((0:Nat):Int)=Builtin.Range.rangeSize lo hi 1:=by rw[rangeSize_one];split <;> lia
  show IsRangeIter _ _ (lo+((0:Nat):Int)*1) ((((hi-lo).toNat:Nat):Int)-((0:Nat):Int)) 1;rw[e1,e2];exact Ub _ rfl
 ·have e:b=(s.heap.push {cls:=.type "range",data:=.fields #[.int lo t,.int hi u,.int 1 v]}).objs.size:=by simpa using hb
  subst e;exact I1.fpOk (wb _) (I1.hok.fresh (wb _))
noncomputable def iRng1(ta:TA):TI:=λσ H R=>ta σ H λvs H1=>∃ j:Int,vs=[.int j]/\-(2^62)<=j/\j<2^62/\R (Itr 0 j.toNat) H1
noncomputable def iRng2(ta:TA):TI:=λσ H R=>ta σ H λvs H1=>∃ i j:Int,vs=[.int i,.int j]/\(-(2^62)<=i/\i<2^62/\-(2^62)<=j/\j<2^62)/\R (Itr i (j-i).toNat) H1
theorem Ya7{a:Expr}{ta:TA}{p pos:Pos}(hg:Gl X "range")(hm:X.mg "range"=none)(ha:PA X [a] ta)(hs:starEach [a] X.env=[(false,eval a X.env)]:=by rfl):PI X tg (.Call (.Name "range" p) [a] [] pos) (iRng1 ta):=by
 intro pins s σ H R I h;refine Call_ (Zy I hg hm boot_range (PyProof.Rows.callWith_type1 (thn (ha pos pins s σ H _ I h) λus s1 ⟨vs,H1,I1,r1,q1⟩=>?_) hs rfl));obtain(⟨j,e,q1,q2,q⟩):=q1;subst e;cases r1 with
 |cons r rr =>
  cases rr;obtain(⟨t,rfl⟩):=r;exact call_range_1 (yaJ I1 (by lia) (by lia) q1 q2 (by simpa using q))
theorem Ya8{a b:Expr}{ta:TA}{p pos:Pos}(hg:Gl X "range")(hm:X.mg "range"=none)(ha:PA X [a,b] ta)(hs:starEach [a,b] X.env=[(false,eval a X.env),(false,eval b X.env)]:=by rfl)(hs2:starEach [b] X.env=[(false,eval b X.env)]:=by rfl) :
  PI X tg (.Call (.Name "range" p) [a,b] [] pos) (iRng2 ta):=by
 intro pins s σ H R I h;refine Call_ (Zy I hg hm boot_range (PyProof.Rows.callWith_type1 (thn (ha pos pins s σ H _ I h) λus s1 ⟨vs,H1,I1,r1,q1⟩=>?_) (by rw[hs,hs2]) (by rw[hs2];rfl)));obtain⟨i,j,e,⟨q1,q2,q3,q4⟩,q⟩:=q1;subst e;cases r1 with
 |cons r rr =>
  cases rr with
  |cons r' rr =>
   cases rr;obtain⟨t,rfl⟩:=r;obtain⟨t',rfl⟩:=r';exact call_range_2 (yaJ I1 q1 q2 q3 q4 q)
noncomputable def tFor(wi:TI)(g:TG)(tb:TS):TS:=λD σ H=>wi σ H λJ H1=>∃ W:Nat->Nat->St->Hp->Prop,(∃ m,W 0 m σ H1)/\∀ i m σ H,W i m σ H ->
 (J.stop i H/\D.nx σ H)\/(J.go i H/\∃ N:St->Hp->Prop,(∀ σ' H',N σ' H'->∃ m',m'<m/\W (i+1) m' σ' H')/\∀ x H',J.yld i H x H'->g x σ H' λσ2 H2=>tb {D with nx:=N,ct:=N,bk:=D.nx} σ2 H2)
noncomputable def qR(fp:List Addr)(h:Heap):List (Addr×Obj):=fp.filterMap λb=>(h.get? b).map λo=>(b,o)
theorem Ql{fp:List Addr}{h:Heap}{b:Addr}{o:Obj}(hb:b∈fp)(e:h.get? b=some o):(b,o)∈qR fp h:=xE.mpr ⟨b,hb,by rw[e];rfl⟩
theorem Zba{fp:List Addr}{h:Heap}{p:Addr×Obj}(hp:p∈qR fp h):p.1∈fp/\h.get? p.1=some p.2:=by
 obtain⟨b,hb,e⟩:=xE.mp hp;cases q:h.get? b with
 |none=>rw[q] at e;cases e
 |some o =>
  rw[q] at e;have e':(b,o)=p:=Option.some.inj e;subst e';exact⟨hb,q⟩
theorem Inv.pinned{pins:List (Addr×Obj)}{σ:St}{H:Hp}{s:Shared}{fp:List Addr}(I:Inv X pins σ H s)(hf:∀ b∈fp,QE X pins H b)(ho:∀ b∈fp,∃ o,s.heap.get? b=some o/\∀ v,o.data≠.cell v):Inv X (pins++qR fp s.heap) σ H s :=
 I.pins_of λp hp=>(xg.mp hp).elim (λz=>I.pin p (Xd _ z)) λz=>by
  obtain⟨hb,e⟩:=Zba z;obtain⟨f0,f1,f2,_⟩:=hf p.1 hb;obtain⟨o,e',d⟩:=ho p.1 hb;rw[e] at e';cases e';exact⟨e,f0,f1,f2,d⟩
theorem Inv.unpinned{pins pl:List (Addr×Obj)}{σ:St}{H:Hp}{s:Shared}(I:Inv X (pins++pl) σ H s):Inv X pins σ H s:=I.pins_of λp hp=>I.pin p (Xd _ (Wf _ hp))
theorem Yb9{iter:Expr}{body:List Stmt}{wi:TI}{g:TG}{tb:TS}{pos:Pos}(hp:PassesOwn (model X.prog X.w) X.A X.env X.xe)(hc:X.calm=true)(hi:PI X tg iter wi)(hg:PG X tg g)(hb:PSs X body tb)
  (hs:∀ x,foldedSetIterable iter X.env x=pure x:=by intro _;rfl):PS X (.For tg iter body [] pos) (tFor wi g tb):=by
 intro pins s σ H D I h;refine wpAny_For (thn (hi pins s σ H _ I h) λv s1 h1=>thn h1 λitv s2 h2=>?_) hs;obtain⟨it,fp,tn,J,H2,e,I2,T,st2,f2,W,⟨m0,w0⟩,turn⟩:=h2;subst e
 -- what stays true of the iterator's objects through the loop
 have stat:∀{H':Hp},(∀ b∈fp,H' b=none)->∀ b∈fp,QE X pins H' b:=λhn b hb=>⟨hn b hb,(f2 b hb).2⟩;refine codeAny_forLoop_any (λn s'=>∃ i σ' H',Inv X pins σ' H' s'/\tn i s'.heap/\(∀ b∈fp,H' b=none)/\W i n σ' H') ?_ m0 ⟨0,σ,H2,I2,st2,λb hb=>(f2 b hb).1,w0⟩;rintro n s3 ⟨i,σ3,H3,I3,st3,fr3,w3⟩
 rcases turn i n σ3 H3 w3 with ⟨stop,qn⟩|⟨go,N,hN,step⟩
 ·refine wpAny_passesOwn hp (thn (T.done X rfl rfl rfl hc i pins s3 σ3 H3 X.xe I3 (stat fr3) st3 stop) λr s4 ⟨hr,I4⟩=>?_);subst hr;exact wpAny_execs_nil ⟨σ3,H3,I4,qn⟩
 ·refine wpAny_passesOwn hp (thn (T.item X rfl rfl rfl hc i pins s3 σ3 H3 X.xe I3 (stat fr3) st3 go) λr s4 ⟨u,hr,h4⟩=>?_);subst hr;refine wpAny_passesOwn hp (thn h4 λ_ s5 ⟨x,H5,I5,r5,y5,st5,fr5⟩=>?_);have I5':=I5.pinned (stat fr5) (T.obj _ _ st5);refine wpAny_passesOwn hp (thn (hg _ s5 σ3 H5 x u _ I5' r5 (step x H5 y5)) λ_ s6 ⟨σ6,H6,I6,q6⟩=>?_);refine wpAny_passesOwn hp (thn (hb _ s6 σ6 H6 _ I6 q6) λf s7 q7=>?_);have again:∀{σ7:St}{H7:Hp},Inv X (pins++qR fp s5.heap) σ7 H7 s7->N σ7 H7->∃ m,m<n/\∃ i σ' H',Inv X pins σ' H' s7/\tn i s7.heap/\(∀ b∈fp,H' b=none)/\W i m σ' H':=λ{σ7 H7} I7 n7=>by
   obtain⟨m',hm,w7⟩:=hN σ7 H7 n7;refine⟨m',hm,i+1,σ7,H7,I7.unpinned,T.keep _ _ _ st5 λb hb o e=>(I7.pin (b,o) (Xd _ (Xd _ (Ql hb e)))).1,λb hb=>?_,w7⟩;obtain⟨o,e,d⟩:=T.obj _ _ st5 b hb;exact(I7.pin (b,o) (Xd _ (Xd _ (Ql hb e)))).2.1
  cases f with
  |next=>obtain⟨σ7,H7,I7,n7⟩:=q7;exact again I7 n7
  |cont=>obtain⟨σ7,H7,I7,n7⟩:=q7;exact again I7 n7
  |brk=>obtain⟨σ7,H7,I7,q7⟩:=q7;exact⟨σ7,H7,I7.unpinned,q7⟩
  |ret v=>obtain⟨x7,σ7,H7,I7,r7,q7⟩:=q7;exact⟨x7,σ7,H7,I7.unpinned,r7,q7⟩
end
noncomputable abbrev R2:=V->V->Hp->VK->Prop
noncomputable def OpR(X:Cx)(f:Value->Value->Sem Value)(r:R2):Prop :=
 ∀(pins:List (Addr×Obj)) (s:Shared) (σ:St) (H:Hp) (x y:V) (v u:Value) (Q:VK),Inv X pins σ H s->RelV x v->RelV y u->r x y H Q ->
  wpAny (model X.prog X.w) X.A (f v u) (EP X pins σ Q) X.xe s
noncomputable def UnR(X:Cx)(f:Value->Sem Value)(r:V->Hp->VK->Prop):Prop :=
 ∀(pins:List (Addr×Obj)) (s:Shared) (σ:St) (H:Hp) (x:V) (v:Value) (Q:VK),Inv X pins σ H s->RelV x v->r x H Q ->
  wpAny (model X.prog X.w) X.A (f v) (EP X pins σ Q) X.xe s
noncomputable def CallR(X:Cx)(f:Value)(r:List V->Hp->VK->Prop):Prop :=
 ∀(pins:List (Addr×Obj)) (s:Shared) (σ:St) (H:Hp) (xs:List V) (us:List Value) (Q:VK),Inv X pins σ H s->Vals xs us->r xs H Q ->
  wpAny (model X.prog X.w) X.A (call f us) (EP X pins σ Q) X.xe s
noncomputable def tOp(r:R2)(ta tb:TE):TE:=λσ H Q=>ta σ H λx H1=>tb σ H1 λy H2=>r x y H2 Q
noncomputable def tUn(r:V->Hp->VK->Prop)(ta:TE):TE:=λσ H Q=>ta σ H λx H1=>r x H1 Q
noncomputable def rI(C:Int->Int->Prop)(g:Int->Int->V):R2:=λx y H Q=>∃ i j,x=.int i/\y=.int j/\C i j/\Q (g i j) H
noncomputable def rI0(g:Int->Int->V):R2:=λx y H Q=>∃ i j,x=.int i/\y=.int j/\Q (g i j) H
noncomputable def rU(g:Int->V):V->Hp->VK->Prop:=λx H Q=>∃ i,x=.int i/\Q (g i) H
section
variable {X:Cx} {a b c:Expr} {ta tb tc:TE} {pos:Pos}
theorem binT(ha:PE X a ta)(hb:PE X b tb){pins:List (Addr×Obj)}{s:Shared}{σ:St}{H:Hp}{R:V->V->Hp->Prop}(I:Inv X pins σ H s)
  (h:ta σ H λx H1=>tb σ H1 λy H2=>R x y H2) {Q:Value->Shared->Prop} {f:Value->Value->Sem Value}
  (hf:∀ v u s2 x y H2,Inv X pins σ H2 s2->RelV x v->RelV y u->R x y H2->wpAny (model X.prog X.w) X.A (f v u) Q X.xe s2) :
  wpAny (model X.prog X.w) X.A (eval a X.env) (λv s₁=>wpAny (model X.prog X.w) X.A (eval b X.env) (λu s₂=>wpAny (model X.prog X.w) X.A (f v u) Q X.xe s₂) X.xe s₁) X.xe s:=by
 refine thn (ha pins s σ H _ I h) λv s1 ⟨x,H1,I1,r1,q1⟩=>?_;refine thn (hb pins s1 σ H1 _ I1 q1) λu s2 ⟨y,H2,I2,r2,q2⟩=>?_;exact hf v u s2 x y H2 I2 r1 r2 q2
theorem pe_op{op:Operator}{r:R2}(ho:OpR X (binaryOp op) r)(ha:PE X a ta)(hb:PE X b tb):PE X (.BinOp a op b pos) (tOp r ta tb):=by
 intro pins s σ H Q I h;exact wpAny_BinOp (binT ha hb I h λv u s2 x y H2 I2 rx ry q=>ho pins s2 σ H2 x y v u Q I2 rx ry q)
theorem pe_un{op:UnaryOp}{r:V->Hp->VK->Prop}(ho:UnR X (unaryOp op) r)(ha:PE X a ta):PE X (.UnaryOp op a pos) (tUn r ta):=by
 intro pins s σ H Q I h;exact UnaryOp_ (thn (ha pins s σ H _ I h) λv s1 ⟨x,H1,I1,r1,q1⟩=>ho pins s1 σ H1 x v Q I1 r1 q1)
theorem opI{f:Value->Value->Sem Value}{C:Int->Int->Prop}{g:Int->Int->Int}
  (rule:∀(i j:Int)(t u:Tok)(s:Shared)(Q:Value->Shared->Prop)(E:Value->Shared->Prop),C i j->Q (.int (g i j) s.toks) {s with toks:=s.toks+1}->wpAny (model X.prog X.w) X.A (f (.int i t) (.int j u)) Q E s) :
  OpR X f (rI C λi j=>.int (g i j)):=by
 intro pins s σ H x y v u Q I rx ry h;obtain⟨i,j,rfl,rfl,hc,q⟩:=h;obtain⟨t,rfl⟩:=rx;obtain⟨t',rfl⟩:=ry;exact rule i j t t' s _ _ hc ⟨.int (g i j),H,I.tok _,⟨_,rfl⟩,q⟩
theorem opI0{f:Value->Value->Sem Value}{g:Int->Int->Int}
  (rule:∀(i j:Int)(t u:Tok)(s:Shared)(Q:Value->Shared->Prop)(E:Value->Shared->Prop),Q (.int (g i j) s.toks) {s with toks:=s.toks+1}->wpAny (model X.prog X.w) X.A (f (.int i t) (.int j u)) Q E s) :
  OpR X f (rI0 λi j=>.int (g i j)):=by
 intro pins s σ H x y v u Q I rx ry h;obtain⟨i,j,rfl,rfl,q⟩:=h;obtain⟨t,rfl⟩:=rx;obtain⟨t',rfl⟩:=ry;exact rule i j t t' s _ _ ⟨.int (g i j),H,I.tok _,⟨_,rfl⟩,q⟩
theorem opB0{f:Value->Value->Sem Value}{g:Int->Int->Bool}
  (rule:∀(i j:Int)(t u:Tok)(s:Shared)(Q:Value->Shared->Prop)(E:Value->Shared->Prop),Q (.bool (g i j)) s->wpAny (model X.prog X.w) X.A (f (.int i t) (.int j u)) Q E s) :
  OpR X f (rI0 λi j=>.bl (g i j)):=by
 intro pins s σ H x y v u Q I rx ry h;obtain⟨i,j,rfl,rfl,q⟩:=h;obtain⟨t,rfl⟩:=rx;obtain⟨t',rfl⟩:=ry;exact rule i j t t' s _ _ ⟨.bl (g i j),H,I,rfl,q⟩
noncomputable def CDiv(i j:Int):Prop:=0<j/\j<1073741824
noncomputable def CPow(i j:Int):Prop:=0<=j/\j<=1000000/\i.natAbs<2^64
theorem zb1:OpR X (binaryOp .Add) (rI0 λi j=>.int (i+j)):=opI0 λ_ _ _ _ _ _ _ q=>add_int q
theorem zcb:OpR X (binaryOp .Sub) (rI0 λi j=>.int (i-j)):=opI0 λ_ _ _ _ _ _ _ q=>sub_int q
theorem op_fdiv:OpR X (binaryOp .FloorDiv) (rI CDiv λi j=>.int (i/j)):=opI λi j _ _ _ _ _ hc q=>by
 have h1:(0:Int)<j:=hc.1;have h2:j<1073741824:=hc.2;exact floordiv_int (by lia) (by rw[wy i (by lia)];exact q) (.inl (PyProof.noPylong_small (by lia)))
theorem zb7:OpR X (binaryOp .Mod) (rI (λ_ j=>0<j) λi j=>.int (i%j)):=opI λi j _ _ _ _ _ hc q=>by
 have h1:(0:Int)<j:=hc;exact mod_int' (by lia) (by rw[Int.fmod_eq_emod_of_nonneg i (by lia)];exact q)
theorem Qca:OpR X (binaryOp .Pow) (rI CPow λi j=>.int (i^j.toNat)):=opI λ_ _ _ _ _ _ _ hc q=>pow_int_small hc.1 hc.2.1 hc.2.2 q
theorem unI{f:Value->Sem Value}{g:Int->Int}
  (rule:∀(i:Int)(t:Tok)(s:Shared)(Q:Value->Shared->Prop)(E:Value->Shared->Prop),Q (.int (g i) s.toks) {s with toks:=s.toks+1}->wpAny (model X.prog X.w) X.A (f (.int i t)) Q E s) :
  UnR X f (rU λi=>.int (g i)):=by
 intro pins s σ H x v Q I rx h;obtain⟨i,rfl,q⟩:=h;obtain⟨t,rfl⟩:=rx;exact rule i t s _ _ ⟨.int (g i),H,I.tok _,⟨_,rfl⟩,q⟩
theorem QbY:UnR X (unaryOp .USub) (rU λi=>.int (-i)):=unI λ_ _ _ _ _ q=>neg_int q
end
section
variable {X:Cx} {a b c:Expr} {ta tb tc:TE} {pos:Pos}
theorem op_lt:OpR X (compareOp .Lt) (rI0 λi j=>.bl (decide (i<j))):=opB0 λ_ _ _ _ _ _ _ q=>lt_int q
theorem op_le:OpR X (compareOp .LtE) (rI0 λi j=>.bl (decide (i<=j))):=opB0 λ_ _ _ _ _ _ _ q=>le_int q
theorem op_gt:OpR X (compareOp .Gt) (rI0 λi j=>.bl (decide (j<i))):=opB0 λ_ _ _ _ _ _ _ q=>gt_int q
theorem op_ge:OpR X (compareOp .GtE) (rI0 λi j=>.bl (decide (j<=i))):=opB0 λ_ _ _ _ _ _ _ q=>ge_int q
theorem zbO{op:CmpOp}{r:R2}(ho:OpR X (compareOp op) r)(ha:PE X a ta)(hb:PE X b tb)(hm:behindInMarks op b=false):PE X (.Compare a [op] [b] pos) (tOp r ta tb):=by
 intro pins s σ H Q I h;exact wpAny_Compare1 (binT ha hb I h λv u s2 x y H2 I2 rx ry q=>ho pins s2 σ H2 x y v u Q I2 rx ry q) hm
noncomputable def ZbW(t:TE):TT:=λσ H Q=>t σ H λx H'=>∃ k,x=.bl k/\Q k H'
theorem QbA{op:CmpOp}{r:R2}(ho:OpR X (compareOp op) r)(ha:PE X a ta)(hb:PE X b tb)(hm:behindInMarks op b=false):PT X (.Compare a [op] [b] pos) (ZbW (tOp r ta tb)):=by
 intro pins s σ H Q I h;refine wpAny_isTrue_Compare1 (thn (ha pins s σ H _ I h) λv s1 ⟨x,H1,I1,r1,q1⟩=>thn (hb pins s1 σ H1 _ I1 q1) λu s2 ⟨y,H2,I2,r2,q2⟩ =>
  thn (ho pins s2 σ H2 x y v u _ I2 r1 r2 q2) λc s3 ⟨z,H3,I3,r3,k,e,q3⟩=>?_) hm
 subst e;cases r3;exact wpAny_truthy_bool ⟨H3,I3,q3⟩
theorem Y2:(sizeLine:Nat)<2^63:=by rw[sizeLine_eq];decide
theorem zaj{x:V}{us:List Value}(r:Vals [x] us):∃ u,us=[u]/\RelV x u:=by
 cases r with
 |cons r1 r2=>cases r2;exact⟨_,rfl,r1⟩
theorem ybS{x y:V}{us:List Value}(r:Vals [x,y] us):∃ u w',us=[u,w']/\RelV x u/\RelV y w':=by
 cases r with
 |cons r1 r2 =>
  cases r2 with
  |cons r3 r4=>cases r4;exact⟨_,_,rfl,r1,r3⟩
theorem qbi:CallR X (.builtin "abs") (λxs H Q=>∃ i,xs=[.int i]/\Q (.int (if i<0 then -i else i)) H):=by
 intro pins s σ H xs us Q I r h;obtain⟨i,rfl,q⟩:=h;obtain⟨u,rfl,t,rfl⟩:=zaj r;exact call_abs_int λu tk=>⟨.int (if i<0 then -i else i),H,I.tok _,⟨_,rfl⟩,q⟩
theorem Ya4(hc:X.calm=true):CallR X (.builtin "max") (λxs H Q=>∃ i j,xs=[.int i,.int j]/\Q (.int (if j>i then j else i)) H):=by
 intro pins s σ H xs us Q I r h;obtain⟨i,j,rfl,q⟩:=h;obtain⟨u,w',rfl,⟨t,rfl⟩,⟨t',rfl⟩⟩:=ybS r;refine max_two_ints (I.ok.hd hc) λh' tk k=>⟨_,H,I.kept k,?_,q⟩;by_cases hj:j>i
 ·rw[if_pos hj,if_pos hj];exact⟨_,rfl⟩
 ·rw[if_neg hj,if_neg hj];exact⟨_,rfl⟩
theorem ybc(hc:X.calm=true):CallR X (.builtin "min") (λxs H Q=>∃ i j,xs=[.int i,.int j]/\Q (.int (if j<i then j else i)) H):=by
 intro pins s σ H xs us Q I r h;obtain⟨i,j,rfl,q⟩:=h;obtain⟨u,w',rfl,⟨t,rfl⟩,⟨t',rfl⟩⟩:=ybS r;refine min_two_ints (I.ok.hd hc) λh' tk k=>⟨_,H,I.kept k,?_,q⟩;by_cases hj:j<i
 ·rw[if_pos hj,if_pos hj];exact⟨_,rfl⟩
 ·rw[if_neg hj,if_neg hj];exact⟨_,rfl⟩
theorem zav:CallR X (.type "str") (λxs H Q=>∃ i,xs=[.int i]/\i.natAbs.log2<1920/\Q (.str (toString i)) H):=by
 intro pins s σ H xs us Q I r h;obtain⟨i,rfl,hz,q⟩:=h;obtain⟨u,rfl,t,rfl⟩:=zaj r;exact PySem.P.str_of_int hz ⟨.str _,H,I.tok _,⟨_,rfl⟩,q⟩
end
structure ObjM (h:Heap) (x dx C:Addr) (mA:Str->Option Value):Prop where
 obj:h.get? x=some (Vg C dx)
 ns:h.Ns1 dx mA
 ne:dx≠x
theorem ybb{h:Heap}{dx:Addr}{mA:Str->Option Value}(n:h.Ns1 dx mA):∃ od,h.get? dx=some od/\∀ name,wC name od=some (mA name):=by
 obtain⟨o,es,ep,ho,hd,hk,_,hm⟩:=n;refine⟨o,ho,λname=>?_⟩;have e:=hm name;unfold nsFind findBy at e;rw[<- Array.find?_toList] at e;unfold wC;rw[hd];dsimp only;split
 ·rename_i y q;rw[q] at e;exact congrArg some e
 ·rename_i q;rw[q] at e;have a:es.toList.any (·.refKey)=false:=by
   rw[List.any_eq_false];intro y hy;obtain⟨z,t,hkey⟩:=hk y (Wv.mp hy);simp[DictEntry.refKey,hkey]
  have a':¬ es.toList.any (·.refKey)=true:=by rw[a];exact Ug
  rw[if_neg a'];exact congrArg some e
theorem ObjM.look{h:Heap}{x dx C:Addr}{mA:Str->Option Value}(I:ObjM h x dx C mA):∃ od,PySem.W.InstAt h x (Vg C dx) C (some od)/\∀ name,wC name od=some (mA name) :=
 let ⟨od,ho,hl⟩:=ybb I.ns
 ⟨od,⟨I.obj,rfl,rfl,ho⟩,hl⟩
section
variable {prog:Program} {w:World} {A:Around} {E:Value->Shared->Prop} {s:Shared} {K:PySem.W.Frag} {x dx C f:Addr} {mA:Str->Option Value} {name:Str} {v:Value}
theorem YbC{expr:Bool}{Q:Value->Shared->Prop}(X:K.In s.heap)(I:ObjM s.heap x dx C mA)(hg:xu K C name=true)(hh:ut K C=true)
  (ha:ue K (.ref C) name=some none) (hv:mA name=some v) (hv':xH v=true) (h:Q v {s with toks:=s.toks+1}) :
  wpAny (model prog w) A (getAttr (.ref x) name expr) Q E s:=by
 obtain⟨od,J,hl⟩:=I.look;exact PySem.W.get_value X J (PySem.W.plainGet_of hg).1 (PySem.W.findObj_own hh ha rfl (by rw[hl,hv])) hv' h
theorem ybB{ns:List Str}{Q:Unit->Shared->Prop}(X:K.In s.heap)(I:ObjM s.heap x dx C mA)
  (hs:ue K (.ref C) "__setattr__"=some (some (.builtin "object.__setattr__"))) (hp:Vy K C=true) (ht:vA K C name=some none) (hh:ut K C=true)
  (hw:PySem.Within mA ns) (hsz:ns.length<=sizeLine)
  (h:∀ h',ObjM h' x dx C (λy=>if y=name then some v else mA y)->Heap.SameBut dx s.heap h'->Q () {s with heap:=h',toks:=s.toks+2}) :
  wpAny (model prog w) A (setAttr (.ref x) name v) Q E s:=by
 obtain⟨od,J,hl⟩:=I.look;refine PySem.W.set_plain X J hs (PySem.W.osa_open (s:={s with toks:=s.toks+1}) (r:=none) X J hp ht λb=>?_);obtain⟨cd,hc,hd'⟩:=PySem.W.any_some hh;have hx:s.heap.get? x=some ⟨.ref C,some dx,.plain,#[]⟩:=I.obj;refine wpAny_bind (wpAny_pure (wpAny_bind (wpAny_bind (wpAny_loadPart hx (wpAny_bind (PySem.W.Looks.here (s:={s with toks:=s.toks+1}) (PySem.W.looks_clsIn X hc) ?_))))));rw[hd'];refine wpAny_pure (a:=some dx) (wpAny_bind (wpAny_pure (wpAny_bind ?_)));refine wpAny_nsSet1 (s:={s with toks:=s.toks+1}) I.ns λh' hn2 hs2=>?_;obtain⟨oD,esD,epD,hoD,hdD,hcD⟩:=hn2.count (PySem.Within.cons name v hw);refine wpAny_bind (wpAny_lookBehind hoD (by rw[hdD];exact pastItsLine_dict (Xe hcD (by rw[Ue];lia))) ?_);exact wpAny_pure (h _ ⟨(hs2.2 _ (Ne.symm I.ne)).trans I.obj,hn2,I.ne⟩ hs2)
theorem Qbl{R:Result->Shared->Prop}{vs:List Value}{kw:List (Str×Value)}(X:K.In s.heap)(hm:Ws K C=true)
  (hi:ue K (.ref C) "__init__"=some (some (.ref f))) (hf:Wo K (.ref f)=some (.type "function"))
  (h:codeAny (model prog w) (A.under (.builtin "type.__call__" ⟨.ref C::vs,kw⟩)) (.call (.ref f) ⟨.ref (s.heap.objs.size+1)::vs,kw⟩) (PySem.W.InitBack (s.heap.objs.size+1) R)
   {s with heap:=(s.heap.push Wg).push (Vg C s.heap.objs.size)}) :
  codeAny (model prog w) A (.call (.ref C) ⟨vs,kw⟩) R s:=by
 obtain⟨hh,g,d,t,os⟩:=s;exact vF (Uz X hm) (Uq X hi) (λself=>PySem.W.bind_fn X self hf) (.inl rfl) h
theorem Za8{R:Result->Shared->Prop}(X:K.In s.heap)(hm:Ws K C=true)
  (hi:ue K (.ref C) "__init__"=some (some (.builtin "object.__init__")))
  (hb:∀ self,PySem.W.Looks (model prog w) s.heap (bindSpecial (.builtin "object.__init__") self) (.builtin "object.__init__",[self]))
  (h:codeAny (model prog w) (A.under (.builtin "type.__call__" ⟨[.ref C],[]⟩)) (.call (.builtin "object.__init__") ⟨[.ref (s.heap.objs.size+1)],[]⟩) (PySem.W.InitBack (s.heap.objs.size+1) R)
   {s with heap:=(s.heap.push Wg).push (Vg C s.heap.objs.size)}) :
  codeAny (model prog w) A (.call (.ref C) ⟨[],[]⟩) R s:=by
 obtain⟨hh,g,d,t,os⟩:=s;exact vF (Uz X hm) (Uq X hi) hb (.inr ⟨rfl,rfl⟩) h
end
noncomputable def yA(f:Str)(v:V):List (Str×V)->List (Str×V)
 |[]=>[(f,v)]
 |(g,x)::r=>if g=f then(g,v)::r else(g,x)::yA f v r
theorem yW(f g:Str)(v:V):∀ fs:List (Str×V),(yA f v fs).lookup g=if g=f then some v else fs.lookup g
 |[]=>by
  show Wr g [(f,v)]=_;by_cases h:g=f
  ·have hb:(g==f)=true:=beq_iff_eq.mpr h;simp only[Wr,hb,if_pos h]
  ·have hb:(g==f)=false:=beq_eq_false_iff_ne.mpr h;simp only[Wr,hb,if_neg h]
 |(k,x)::r=>by
  have ih:=yW f g v r;rw[show yA f v ((k,x)::r)=(if k=f then(k,v)::r else(k,x)::yA f v r) from rfl];by_cases hk:k=f
  ·rw[if_pos hk];by_cases h:g=k
   ·have hb:(g==k)=true:=beq_iff_eq.mpr h;simp only[Wr,hb,if_pos (h.trans hk)]
   ·have hb:(g==k)=false:=beq_eq_false_iff_ne.mpr h;simp only[Wr,hb,if_neg (λe:g=f=>h (e.trans hk.symm))]
  ·rw[if_neg hk];by_cases h:g=k
   ·have hb:(g==k)=true:=beq_iff_eq.mpr h;simp only[Wr,hb,if_neg (λe:g=f=>hk (h.symm.trans e))]
   ·have hb:(g==k)=false:=beq_eq_false_iff_ne.mpr h;simp only[Wr,hb];exact ih
theorem yS(f:Str)(v:V):∀ fs:List (Str×V),f∈(yA f v fs).map (·.1)/\∀ g,g∈fs.map (·.1)->g∈(yA f v fs).map (·.1)
 |[]=>⟨by simp[yA],λg h=>by simp at h⟩
 |(k,x)::r=>by
  obtain⟨i1,i2⟩:=yS f v r;rw[show yA f v ((k,x)::r)=(if k=f then(k,v)::r else(k,x)::yA f v r) from rfl];by_cases hk:k=f
  ·rw[if_pos hk];subst hk;exact⟨by simp,λg h=>by simpa using h⟩
  ·rw[if_neg hk];refine⟨?_,λg h=>?_⟩
   ·rw[Wd];exact We _ i1
   ·rw[Wd] at h ⊢
    rcases Ua.mp h with e|e
    ·exact Ua.mpr (.inl e)
    ·exact We _ (i2 g e)
theorem qW(f:Str)(v:V):∀ fs:List (Str×V),(yA f v fs).length<=fs.length+1
 |[]=>by simp[yA]
 |(k,x)::r=>by
  have ih:=qW f v r;rw[show yA f v ((k,x)::r)=(if k=f then(k,v)::r else(k,x)::yA f v r) from rfl];by_cases hk:k=f
  ·rw[if_pos hk,Ue,Ue];lia
  ·rw[if_neg hk,Ue,Ue];lia
theorem RelO.some_of{v:V}{o:Option Value}(r:RelO (some v) o):∃ u,o=some u/\RelV v u:=by
 cases o with
 |none=>exact(show False from r).elim
 |some u=>exact⟨u,rfl,r⟩
theorem Qa9{v:V}{u:Value}(r:RelV v u):xH u=true:=by
 cases v with
 |non=>cases(show u=Value.none from r);rfl
 |bl b=>cases(show u=Value.bool b from r);rfl
 |int i=>obtain⟨t,e⟩:=(show ∃ t,u=Value.int i t from r);cases e;rfl
 |str x=>obtain⟨t,e⟩:=(show ∃ t,u=Value.str x t from r);cases e;rfl
 |byt b=>obtain⟨t,e⟩:=(show ∃ t,u=Value.bytes b t from r);cases e;rfl
 |flt b=>obtain⟨t,e⟩:=(show ∃ t,u=Value.float b t from r);cases e;rfl
 |ref a=>cases(show u=Value.ref a from r);rfl
 |ty n=>cases(show u=Value.type n from r);rfl
section
variable {P:Program} {w:World} {H H':Hp} {h h':Heap} {a C dx:Addr} {fs fs':List (Str×V)}
theorem qao(hok:HOk P w H h)(e:H a=some (.ins C dx fs)):∃ mA,ObjM h a dx C mA/\(∀ f,RelO (fs.lookup f) (mA f))/\PySem.Within mA (fs.map (·.1))/\fs.length<=1000/\H dx=some (.own a):=by
 obtain⟨d,z,ne,ob,mA,n,r,q⟩:=(show ObjOk P w H h a (.ins C dx fs) from hok a _ e);exact⟨mA,⟨ob,n,ne⟩,r,q,z,d⟩
end
structure Cls (K:PySem.W.Frag) (C:Addr):Prop where
 pg:xu K C Str.empty=true
 hd:ut K C=true
 po:Vy K C=true
 sa:ue K (.ref C) "__setattr__"=some (some (.builtin "object.__setattr__"))
theorem Cls.get{K:PySem.W.Frag}{C:Addr}(c:Cls K C)(f:Str):xu K C f=true:=c.pg
noncomputable def NoAttr(K:PySem.W.Frag)(C:Addr)(f:Str):Prop:=ue K (.ref C) f=some none
theorem NoAttr.taker{K:PySem.W.Frag}{C:Addr}{f:Str}(n:NoAttr K C f):vA K C f=some none:=by
 unfold vA;rw[show ue K (.ref C) f=some none from n];rfl
structure Meth (K:PySem.W.Frag) (C:Addr) (m:Str) (f:Addr):Prop where
 at_:ue K (.ref C) m=some (some (.ref f))
 fn:XE K (.ref f)=true
 kp:Wh K (.ref f)=true
section
variable {X:Cx} {pins:List (Addr×Obj)} {σ:St} {H:Hp} {s:Shared} {a C dx:Addr} {fs:List (Str×V)} {f:Str} {v:V} {A:Around} {E:Value->Shared->Prop}
theorem zaO{b:Bool}{Q:Value->Shared->Prop}(I:Inv X pins σ H s)(e:H a=some (.ins C dx fs))(c:Cls X.K C)(n:NoAttr X.K C f)(l:fs.lookup f=some v)
  (h:∀ u s',Inv X pins σ H s'->RelV v u->Q u s'):wpAny (model X.prog X.w) A (getAttr (.ref a) f b) Q E s:=by
 obtain⟨mA,O,r,_,_,_⟩:=qao I.hok e;obtain⟨u,hu,ru⟩:=RelO.some_of (v:=v) (o:=mA f) (by rw[<- l];exact r f);exact YbC I.kIn O (c.get f) c.hd n hu (Qa9 ru) (h u _ (I.tok _) ru)
theorem QaL{y:V}{u:Value}{Q:Unit->Shared->Prop}(I:Inv X pins σ H s)(e:H a=some (.ins C dx fs))(c:Cls X.K C)(n:NoAttr X.K C f)(hl:fs.length<1000)(ry:RelV y u)
  (h:∀ s',Inv X pins σ (upd H a (.ins C dx (yA f y fs))) s'->Q () s'):wpAny (model X.prog X.w) A (setAttr (.ref a) f u) Q E s:=by
 obtain⟨mA,O,r,wi,_,ho⟩:=qao I.hok e;have hz:(fs.map (·.1)).length<=sizeLine:=by rw[xc,sizeLine_eq];lia
 refine ybB I.kIn O c.sa c.po n.taker c.hd wi hz λh' O' sb=>h _ ?_;have hd:∃ o,h'.get? dx=some o:=let ⟨o,_,_,e',_⟩:=O'.ns;⟨o,e'⟩;refine I.write (x:=a) (e:=dx) (by rw[e];exact True.intro) (.inr ho) (λb q hb z=>(sb.2 b hb).trans z) hd ?_;refine⟨by rw[Yb O.ne];exact ho,?_,O.ne,O'.obj,_,O'.ns,λg=>?_,λg hg=>?_⟩
 ·have:=qW f y fs;lia
 ·show RelO ((yA f y fs).lookup g) (if g=f then some u else mA g);rw[yW];by_cases q:g=f
  ·rw[if_pos q,if_pos q];exact ry
  ·rw[if_neg q,if_neg q];exact r g
 ·by_cases q:g=f
  ·rw[q];exact(yS f y fs).1
  ·refine(yS f y fs).2 g (wi g λz=>hg ?_);show(if g=f then some u else mA g)=none;rw[if_neg q];exact z
theorem Inv.made(I:Inv X pins σ H s):Inv X pins σ (upd (upd H s.heap.objs.size (.own (s.heap.objs.size+1))) (s.heap.objs.size+1) (.ins C s.heap.objs.size []))
  {s with heap:=(s.heap.push Wg).push (Vg C s.heap.objs.size)}:=by
 have e1:(s.heap.push Wg).get? s.heap.objs.size=some Wg:=Ub s.heap rfl;have e2:((s.heap.push Wg).push (Vg C s.heap.objs.size)).get? (s.heap.objs.size+1)=some (Vg C s.heap.objs.size):=by
  have:=Ub (s.heap.push Wg) (o:=Vg C s.heap.objs.size) rfl
  rwa [Xg] at this
 have e3:(s.heap.push Wg).Ns s.heap.objs.size (λ_=>none):=⟨Wg,#[],_,e1,rfl,(λe he=>absurd he (by simp)),λ_=>rfl⟩;have I1:=I.laid (a:=s.heap.objs.size) (o:=.own (s.heap.objs.size+1)) (h':=s.heap.push Wg) (t':=s.toks) (λb u q=>wa _ q) (wb _) ⟨_,e1⟩;refine I1.laid (a:=s.heap.objs.size+1) (o:=.ins C s.heap.objs.size []) (t':=s.toks) (λb u q=>wa _ q) (vm (Xg _ _)) ?_;have ne:s.heap.objs.size≠s.heap.objs.size+1:=wc (xm _);refine⟨by rw[Yb ne,Qf],Uk _,ne,e2,λ_=>none,(Heap.Ns1.of_empty e3).at λo q=>wa _ q,λ_=>True.intro,λy hy=>absurd rfl hy⟩
theorem zbQ{prog:Program}{w:World}{env:Env}{e:Expr}{f:Str}{pos:Pos}{s:Shared}{Q:Value->Shared->Prop}(hb:attributeBase e f env (eval e env)=eval e env)
  (h:wpAny (model prog w) A (eval e env) (λo s₁=>wpAny (model prog w) A (getAttr o f true) Q E s₁) E s):wpAny (model prog w) A (eval (.Attribute e f pos) env) Q E s :=
 Attribute_any_ h (by rw[arm_eval_Attribute,hb])
end
noncomputable def tFld(K:PySem.W.Frag)(ta:TE)(f:Str):TE:=λσ H Q=>ta σ H λx H1=>∃ a C dx fs v,x=.ref a/\H1 a=some (.ins C dx fs)/\Cls K C/\NoAttr K C f/\fs.lookup f=some v/\Q v H1
noncomputable def sFld(K:PySem.W.Frag)(ta tv:TE)(f:Str):TS:=λD σ H=>tv σ H λy H1=>ta σ H1 λx H2=>∃ a C dx fs,x=.ref a/\H2 a=some (.ins C dx fs)/\Cls K C/\NoAttr K C f/\fs.length<1000 /\
 D.nx σ (upd H2 a (.ins C dx (yA f y fs)))
section
variable {X:Cx} {o e value:Expr} {f:Str} {pos pos' tpos:Pos} {ta tv:TE}
theorem Qcf(he:PE X e ta)(hb:attributeBase e f X.env (eval e X.env)=eval e X.env):PE X (.Attribute e f pos) (tFld X.K ta f):=by
 intro pins s σ H Q I h;refine zbQ hb (thn (he pins s σ H _ I h) λu s1 ⟨x,H1,I1,rx,a,C,dx,fs,v,ex,ea,c,n,l,q⟩=>?_);subst ex;obtain rfl:u=Value.ref a:=rx;exact zaO I1 ea c n l λu' s2 I2 ru=>⟨v,H1,I2,ru,q⟩
theorem ZbZ(ha:PE X o ta)(hv:PE X value tv)(hs:swapsWith value (some (.Attribute o f pos')) pos.line X.env=pure false):PS X (.Assign [.Attribute o f pos'] value pos) (sFld X.K ta tv f):=by
 intro pins s σ H D I h;refine plainObj_wpAny_Assign_Attribute (thn (hv pins s σ H _ I h) λu s1 ⟨y,H1,I1,ry,q⟩=>thn (ha pins s1 σ H1 _ I1 q) λov s2 ⟨x,H2,I2,rx,a,C,dx,fs,ex,ea,c,n,l,q2⟩=>?_) hs;subst ex;obtain rfl:ov=Value.ref a:=rx;exact QaL I2 ea c n l ry λs3 I3=>⟨σ,_,I3,q2⟩
end
section
variable {X:Cx} {pins:List (Addr×Obj)} {σ:St} {H:Hp} {s:Shared} {A:Around} {E:Value->Shared->Prop} {Q:Value->Shared->Prop} {c:Value} {b:Bool}
inductive TyOf (K:PySem.W.Frag) (H:Hp):V->Value->Prop where
 |non:TyOf K H .non (.type "NoneType")
 |bl (x:Bool):TyOf K H (.bl x) (.type "bool")
 |int (i:Int):TyOf K H (.int i) (.type "int")
 |str (x:Str):TyOf K H (.str x) (.type "str")
 |flt (x:UInt64):TyOf K H (.flt x) (.type "float")
 |lst {a:Addr} {xs:List V} (e:H a=some (.lst xs)):TyOf K H (.ref a) (.type "list")
 |frz {a:Addr} {o:Obj} {xs:List V} (e:H a=some (.frz o (.lst xs))):TyOf K H (.ref a) (.type "list")
 |tup {a:Addr} {xs:List V} (e:H a=some (.tup xs)):TyOf K H (.ref a) (.type "tuple")
 |dK {a:Addr} {kvs:List (Key×V)} (e:H a=some (.dK kvs)):TyOf K H (.ref a) (.type "dict")
 |dT {a:Addr} {kvs:List (List Key×V)} (e:H a=some (.dT kvs)):TyOf K H (.ref a) (.type "dict")
 |ins {a C dx:Addr} {fs:List (Str×V)} (e:H a=some (.ins C dx fs)) (cl:Cls K C) (ha:ue K (.ref C) "__class__"=some (some (.builtin "object.__class__")))
   (hn:wm K (.builtin "object.__class__") "__get__"=some (some (.builtin "getset_descriptor.__get__"))) (htk:wn K (.builtin "object.__class__")=some true)
   (hm:wu K C (.type "object")=some true):TyOf K H (.ref a) (.ref C)
theorem qa7{x:V}{u t:Value}(I:Inv X pins σ H s)(rx:RelV x u)(ty:TyOf X.K H x t)(e:ud X.K t c=some b)(h:∀ tk,Q (.bool b) {s with toks:=tk}) :
  wpAny (model X.prog X.w) A (call (.builtin "isinstance") [u,c]) Q E s:=by
 cases ty with
 |non=>cases(show u=Value.none from rx);exact xi PySem.W.kitx_none I.kIn True.intro e (λz=>nomatch z) h
 |bl y=>cases(show u=Value.bool y from rx);exact xi PySem.W.kitx_bool I.kIn True.intro e (λz=>nomatch z) h
 |int i=>obtain⟨t,q⟩:=(show ∃ t,u=Value.int i t from rx);cases q;exact xi PySem.W.kitx_int I.kIn True.intro e (λz=>nomatch z) h
 |str y=>obtain⟨t,q⟩:=(show ∃ t,u=Value.str y t from rx);cases q;exact xi PySem.W.kitx_str I.kIn True.intro e (λz=>nomatch z) h
 |flt y=>obtain⟨t,q⟩:=(show ∃ t,u=Value.float y t from rx);cases q;exact xi PySem.W.kitx_float I.kIn True.intro e (λz=>nomatch z) h
 |@lst a xs ea =>
  cases(show u=Value.ref a from rx);obtain⟨_,_,n,_,h1⟩:=(show ObjOk X.prog X.w H s.heap a (.lst xs) from I.hok a _ ea);exact xi VF I.kIn ⟨_,h1,rfl⟩ e (λz=>nomatch z) h
 |@frz a ob xs ea =>
  cases(show u=Value.ref a from rx);obtain⟨_,_,_,n,_,h1⟩:=(show ObjOk X.prog X.w H s.heap a (.frz ob (.lst xs)) from I.hok a _ ea);exact xi VF I.kIn ⟨_,h1,rfl⟩ e (λz=>nomatch z) h
 |@tup a xs ea =>
  cases(show u=Value.ref a from rx);obtain⟨_,_,_,p⟩:=(show ObjOk X.prog X.w H s.heap a (.tup xs) from I.hok a _ ea);obtain⟨o,h1,h2,_⟩:=p;exact xi PySem.W.kitx_tuple I.kIn ⟨o,h1,h2⟩ e (λz=>nomatch z) h
 |@dK a kvs ea =>
  cases(show u=Value.ref a from rx);obtain⟨_,_,vs,_,p⟩:=(show ObjOk X.prog X.w H s.heap a (.dK kvs) from I.hok a _ ea);obtain⟨o,es,ep,h1,h2,_⟩:=p;exact xi wG I.kIn ⟨o,h1,h2.1⟩ e (λz=>nomatch z) h
 |@dT a kvs ea =>
  cases(show u=Value.ref a from rx);obtain⟨_,_,xs,_,o,es,ep,h1,h2,_⟩:=(show ObjOk X.prog X.w H s.heap a (.dT kvs) from I.hok a _ ea);exact xi wG I.kIn ⟨o,h1,h2.1⟩ e (λz=>nomatch z) h
 |@ins a C dx fs ea cl ha hn htk hm =>
  cases(show u=Value.ref a from rx);obtain⟨mA,O,_⟩:=qao I.hok ea;obtain⟨od,J,_⟩:=O.look;exact xi (PySem.W.kitx_own (cl.get _) cl.hd ha hn htk hm) I.kIn J e (λz=>nomatch z) h
end
structure Room (k:Nat) (A:Around):Prop where
 hd:A.handled=none
 dp:A.depth+3*k+5<recursionLimit
 un:A.units+16*k+200<cLine
theorem Room.mono{j k:Nat}{A:Around}(r:Room k A)(h:j<=k):Room j A:=⟨r.hd,by have:=r.dp;lia,by have:=r.un;lia⟩
theorem Room.deeper{k:Nat}{A:Around}(r:Room (k+1) A)(env:Env):Room k (A.deeper env) :=
 ⟨r.hd,by have:=r.dp;show A.depth+1+3*k+5<_;lia,by have:=r.un;show A.units+3+16*k+200<_;lia⟩
theorem zaS{A:Around}{C:Addr}{us:List Value}{kw:List (Str×Value)}:(A.under (.builtin "type.__call__" ⟨.ref C::us,kw⟩)).depth=A.depth+1:=by
 first|rfl|simp[Around.under,Code.weight,Code.isCreation,Code.isGuard,Code.isCaller,Code.frames,Code.isFrame,guardIds]
theorem zaQ{A:Around}{C:Addr}{us:List Value}{kw:List (Str×Value)}:(A.under (.builtin "type.__call__" ⟨.ref C::us,kw⟩)).units=A.units+1:=by
 first|rfl|simp[Around.under,Code.cUnits,Code.frames,Code.isFrame]
theorem Room.make{k:Nat}{A:Around}(r:Room (k+1) A)(C:Addr)(us:List Value)(kw:List (Str×Value)):Room k (A.under (.builtin "type.__call__" ⟨.ref C::us,kw⟩)) :=
 ⟨r.hd,by have:=r.dp;rw[zaS];lia,by have:=r.un;rw[zaQ];lia⟩
theorem Room.depth{k:Nat}{A:Around}(r:Room k A):A.depth<recursionLimit:=by have:=r.dp;lia
noncomputable def tNil:TA:=λ_ H Q=>Q [] H
noncomputable def tCons(ta:TE)(tr:TA):TA:=λσ H Q=>ta σ H λx H1=>tr σ H1 λxs H2=>Q (x::xs) H2
section
variable {X:Cx} {e:Expr} {es:List Expr} {te:TE} {t:TA} {pos:Pos}
theorem yw:PA X [] tNil:=λ_ _ _ _ H Q I h=>Calls.spliced_nil ⟨[],H,I,.nil,h⟩
theorem yj(ha:PE X e te)(hr:PA X es t)(hs:starEach (e::es) X.env=(false,eval e X.env)::starEach es X.env:=by rfl):PA X (e::es) (tCons te t):=by
 intro pos pins s σ H Q I h;rw[hs];show wpAny _ _ (spliced ((false,eval e X.env)::backTo pos (starEach es X.env))) _ _ s;refine Calls.spliced_cons (thn (ha pins s σ H _ I h) λu s1 ⟨x,H1,I1,r1,q1⟩=>?_);exact thn (hr pos pins s1 σ H1 _ I1 q1) λus s2 ⟨xs,H2,I2,r2,q2⟩=>⟨x::xs,H2,I2,.cons r1 r2,q2⟩
noncomputable def tTup(t:TA):TE:=λσ H Q=>t σ H λxs H1=>xs.length<=sizeLine/\∀ p,H1 p=none->Q (.ref p) (upd H1 p (.tup xs))
noncomputable def tLst(t:TA):TE:=λσ H Q=>t σ H λxs H1=>xs.length<=sizeLine/\∀ p,H1 p=none->Q (.ref p) (upd H1 p (.lst xs))
theorem qb8{x1}(h:PA X es t):PE X (.Tuple es x1 pos) (tTup t):=by
 intro pins s σ H Q I hq;refine wpAny_Tuple_spliced (thn (h pos pins s σ H _ I hq) λus s1 ⟨xs,H1,I1,r,z,q⟩=>⟨by rw[<- r.length];exact z,?_⟩);have hf:H1 s1.heap.objs.size=none:=I1.hok.fresh (wb _);refine⟨.ref s1.heap.objs.size,upd H1 s1.heap.objs.size (.tup xs),I1.laid (t':=s1.toks) (λb u e=>wa _ e) (wb _) ?_,rfl,q _ hf⟩;exact⟨z,us,r,⟨_,Ub _ rfl,rfl,_,rfl⟩⟩
theorem Qb9(h:PA X es t):PE X (.List es pos) (tLst t):=by
 intro pins s σ H Q I hq;refine wpAny_List_spliced (thn (h pos pins s σ H _ I hq) λus s1 ⟨xs,H1,I1,r,z,q⟩=>⟨by rw[<- r.length];exact z,?_⟩);have hf:H1 s1.heap.objs.size=none:=I1.hok.fresh (wb _);refine⟨.ref s1.heap.objs.size,upd H1 s1.heap.objs.size (.lst xs),I1.laid (t':=s1.toks) (λb u e=>wa _ e) (wb _) ?_,rfl,q _ hf⟩;exact⟨z,us,0,r,Ub _ rfl⟩
end
noncomputable abbrev Sp:=List V->Hp->VK->XK->Prop
noncomputable abbrev CXT:=List Env->Hp->Shared->XK->Value->Shared->Prop
structure Env0 (P:Program) (w:World) (K:PySem.W.Frag) (mg:Str->Option Value) (base:Heap) (A:Around) (outer:List Env) (s:Shared) (H:Hp):Prop where
 frames:A.frames=some outer
 mod:Mod K mg base
 bs:∀ b o,base.get? b=some o->s.heap.get? b=some o/\H b=none
 bsz:base.objs.size<=s.heap.objs.size
 funs:s.heap.FunFrames base outer
 frf:∀ b∈frs outer,H b=none
 hok:HOk P w H s.heap
 bare:AllBare s.gens
noncomputable def CE(outer:List Env)(P:Program)(w:World)(H:Hp)(s:Shared)(Q:VK)(u:Value)(s':Shared):Prop :=
 ∃ v H',s'.os=s.os/\AllBare s'.gens/\Un (frs outer) [] H H' s.heap s'.heap/\HOk P w H' s'.heap/\RelV v u/\Q v H'
noncomputable def CR(CX:CXT)(outer:List Env)(P:Program)(w:World)(H:Hp)(s:Shared)(Q:VK)(E:XK)(r:Result)(s':Shared):Prop :=
 match r with
 |.ok (.ret u)=>CE outer P w H s Q u s'
 |.ok _=>False
 |.error e=>CX outer H s E e s'
structure FnOk (P:Program) (w:World) (K:PySem.W.Frag) (mg:Str->Option Value) (base:Heap) (CX:CXT) (k:Nat) (f:Addr) (fd:FuncData) (ps:List Str) (sp:Sp):Prop where
 len:∀ vs H Q E,sp vs H Q E->vs.length=ps.length
 run:∀(A:Around)(outer:List Env)(s:Shared)(H:Hp)(args:Args) (us:List Value) (vs:List V) (Q:VK) (E:XK),Room k A->Env0 P w K mg base A outer s H->BindsTo s fd args (ps.zip us)->Vals vs us->sp vs H Q E ->
  codeAny (model P w) A (.call (.ref f) args) (CR CX outer P w H s Q E) s
theorem FnOk.imp{P:Program}{w:World}{K:PySem.W.Frag}{mg:Str->Option Value}{base:Heap}{CX:CXT}{k:Nat}{f:Addr}{fd:FuncData}{ps:List Str}{sp sp':Sp}(F:FnOk P w K mg base CX k f fd ps sp)
  (h:∀ vs H Q E,sp' vs H Q E->sp vs H Q E):FnOk P w K mg base CX k f fd ps sp' :=
 ⟨λvs H Q E q=>F.len vs H Q E (h _ _ _ _ q),λA outer s H args us vs Q E hr he hb hv hs=>F.run A outer s H args us vs Q E hr he hb hv (h _ _ _ _ hs)⟩
theorem Env0.make{P:Program}{w:World}{K:PySem.W.Frag}{mg:Str->Option Value}{base:Heap}{A:Around}{outer:List Env}{s:Shared}{H:Hp}(e:Env0 P w K mg base A outer s H)(C:Addr)(us:List Value)(kw:List (Str×Value)) :
  Env0 P w K mg base (A.under (.builtin "type.__call__" ⟨.ref C::us,kw⟩)) outer s H:=⟨by first|exact e.frames|(simpa[Around.under,Code.envs,Code.isFrame,pushEnvs] using e.frames),e.mod,e.bs,e.bsz,e.funs,e.frf,e.hok,e.bare⟩
section
variable {X:Cx} {pins:List (Addr×Obj)} {σ:St} {H:Hp} {s s':Shared}
theorem Inv.env0(I:Inv X pins σ H s):Env0 X.prog X.w X.K X.mg X.base X.A X.stack s H :=
 ⟨I.ok.frames,I.ok.mod,I.bs,Xe I.ok.bsz I.sz,I.stack,I.stkFree,I.hok,I.bare⟩
theorem Inv.after{Q:VK}{u:Value}(I:Inv X pins σ H s)(h:CE X.stack X.prog X.w H s Q u s'):EP X pins σ Q u s':=by
 obtain⟨v,H',os,bare,un,hok,r,q⟩:=h;obtain⟨hh,g,d,t,os'⟩:=s';obtain rfl:os'=s.os:=os;exact⟨v,H',I.call (h':=hh) (g':=g) (d':=d) (t':=t) (ch:=[]) un hok bare (λb z=>absurd z (by simp)),r,q⟩
end
noncomputable def Binds(K:PySem.W.Frag)(fd:FuncData)(ps:List Str)(ds:List Value):Prop :=
 ∀(s:Shared)(us:List Value),K.In s.heap->(us++ds).length=ps.length->BindsTo s fd ⟨us,[]⟩ (ps.zip (us++ds))
theorem Binds.all{K:PySem.W.Frag}{fd:FuncData}{ps:List Str}(h:∀ us:List Value,us.length=ps.length->bindArgs fd ⟨us,[]⟩=pure (ps.zip us)):Binds K fd ps []:=λs us _ hl=>by
 rw[Xs] at hl ⊢;exact .of_eq (h us hl)
noncomputable def Ycd(CX:CXT)(X:Cx)(E:XK):Prop:=∀(pins:List (Addr×Obj)) (σ:St) (H:Hp) (s:Shared) (e:Value) (s':Shared),Inv X pins σ H s->CX X.stack H s E e s'->X.xe e s'
section
variable {X:Cx} {CX:CXT} {k:Nat} {f C:Addr} {fd:FuncData} {ps:List Str} {sp:Sp} {dvs:List V} {ds:List Value} {E:XK} {x m:Str} {p pos apos:Pos} {e o:Expr} {es:List Expr} {ta:TE} {t:TA}
structure Mk (K:PySem.W.Frag) (C f:Addr):Prop where
 makes:Ws K C=true
 init:ue K (.ref C) "__init__"=some (some (.ref f))
 fn:XE K (.ref f)=true
 kp:Wh K (.ref C)=true
end
structure FnScope (N P:List Str) (sc:Scope):Prop where
 kind:sc.kind=.function
 co:sc.isCoroutine=false
 gen:sc.isGenerator=false
 nd:N.Nodup
 pre:N.take P.length=P
 par:∀ x∈P,sc.names.lookup x=some .local\/sc.names.lookup x=some .cell
 nofree:∀ y∈sc.names,y.2≠.free
theorem qal{kindOf:Str->Option NameKind}{x:Str}:∀{binds:List (Str×Value)} {m:Str->Option Value},(∀ v,(x,v)∉binds)->bindL kindOf binds m x=m x
 |[],_,_=>rfl
 |(n,v)::r,m,h=>by
  unfold bindL;rw[qal λw hw=>h w (We _ hw)];split
  ·have:x≠n:=by rintro rfl;exact h v Uh
   simp[this]
  ·rfl
theorem Yal{kindOf:Str->Option NameKind}{x:Str}:∀{binds:List (Str×Value)} {m:Str->Option Value},(∀ v,(x,v)∉binds)->bindC kindOf binds m x=m x
 |[],_,_=>rfl
 |(n,v)::r,m,h=>by
  unfold bindC;rw[Yal λw hw=>h w (We _ hw)];split
  ·rfl
  ·have:x≠n:=by rintro rfl;exact h v Uh
   simp[this]
theorem Zam{kindOf:Str->Option NameKind}{x:Str}{v:Value}:∀{P:List Str}{vs:List Value}{i:Nat}{m:Str->Option Value},P.Nodup->P[i]?=some x->vs[i]?=some v->kindOf x=some .local ->
  bindL kindOf (P.zip vs) m x=some v
 |[],_,_,_,_,h,_,_=>by simp at h
 |_::_,[],_,_,_,_,h,_=>by simp at h
 |p::P,w::vs,0,m,nd,h1,h2,hk=>by
  simp at h1 h2;subst h1;subst h2;show bindL kindOf ((p,w)::P.zip vs) m p=_;unfold bindL;rw[qal λv hv=>(Vo.mp nd).1 (VA hv).1,if_pos hk];simp
 |p::P,w::vs,i+1,m,nd,h1,h2,hk=>by
  show bindL kindOf ((p,w)::P.zip vs) m x=_;unfold bindL;exact Zam (i:=i) (Vo.mp nd).2 (by simpa using h1) (by simpa using h2) hk
theorem zak{kindOf:Str->Option NameKind}{x:Str}{v:Value}:∀{P:List Str}{vs:List Value}{i:Nat}{m:Str->Option Value},P.Nodup->P[i]?=some x->vs[i]?=some v->kindOf x≠some .local ->
  bindC kindOf (P.zip vs) m x=some v
 |[],_,_,_,_,h,_,_=>by simp at h
 |_::_,[],_,_,_,_,h,_=>by simp at h
 |p::P,w::vs,0,m,nd,h1,h2,hk=>by
  simp at h1 h2;subst h1;subst h2;show bindC kindOf ((p,w)::P.zip vs) m p=_;unfold bindC;rw[Yal λv hv=>(Vo.mp nd).1 (VA hv).1,if_neg hk];simp
 |p::P,w::vs,i+1,m,nd,h1,h2,hk=>by
  show bindC kindOf ((p,w)::P.zip vs) m x=_;unfold bindC;exact zak (i:=i) (Vo.mp nd).2 (by simpa using h1) (by simpa using h2) hk
noncomputable def start(N:List Str)(vs:List V):St:=vs.map some++Xa (N.length-vs.length) none
noncomputable def YY(CX:CXT)(P:Program)(w:World)(K:PySem.W.Frag)(mg:Str->Option Value)(base:Heap)(N:List Str)(qual:Str)(scope:Scope)(f:Addr)(cd:Value)(A:Around)(outer:List Env)(s:Shared)(H:Hp)(E:XK):Cx where
 prog:=P
 w:=w
 K:=K
 mg:=mg
 base:=base
 A:=A.deeper (envOfC qual scope s.heap.objs.size f cd)
 N:=N
 s₀:=s
 H₀:=H
 env:=envOfC qual scope s.heap.objs.size f cd
 outer:=outer
 stack:=envOfC qual scope s.heap.objs.size f cd::outer
 ex:=[]
 calm:=true
 fn:=λ_=>true
 pn:=[]
 xe:=λe s'=>wpAny (model P w) (A.deeper (envOfC qual scope s.heap.objs.size f cd)) (leaving (envOfC qual scope s.heap.objs.size f cd) e) (λ_ s''=>CX outer H s E e s'') (λe' s''=>CX outer H s E e' s'') s'
theorem yaC{sc:Scope}{n:Nat}{x:Str}(h:sc.names.lookup x=some .cell):∃ c,(cellsFrom n sc.names []).lookup x=some c:=by
 have q:=uB sc.names n [] (.inl h);exact Wj.mp q
theorem Zbe{CX:CXT}{P:Program}{w:World}{K:PySem.W.Frag}{mg:Str->Option Value}{base:Heap}{N ps:List Str}{qual:Str}{scope:Scope}{f:Addr}{cd:Value}{A:Around}{outer:List Env}{s s1:Shared}{H:Hp}{E:XK}{us:List Value}{vs:List V}
  (S:FnScope N ps scope) (hd:A.handled=none) (e0:Env0 P w K mg base A outer s H) (hl:vs.length=ps.length) (r:Vals vs us)
  (x:InCallC s s.heap.objs.size (bindL (envOfC qual scope s.heap.objs.size f cd).kindOf (ps.zip us) λ_=>none) (cellsFrom (s.heap.objs.size+1) scope.names []) (bindC (envOfC qual scope s.heap.objs.size f cd).kindOf (ps.zip us) λ_=>none) s1) :
  Inv (YY CX P w K mg base N qual scope f cd A outer s H E) [] (start N vs) H s1:=by
 have hpl:ps.length<=N.length:=by have:=congrArg Vp S.pre;rw[Xm] at this;lia
 obtain⟨h1,tk,rfl,hk⟩:=x.done;have noA:∀ b:Addr,b∉(YY CX P w K mg base N qual scope f cd A outer s H E).ex:=λb z=>absurd (show b∈([]:List Addr) from z) (by simp);refine⟨⟨e0.mod,S.kind,rfl,rfl,wb _,λy z c h1 h2=>?_,λy hy=>?_,λy c _ h=>?_,λ_=>hd,Around.frames_deeper e0.frames,.inr ⟨rfl,rfl⟩,λb z=>absurd z (noA b),e0.bs,e0.bsz,λb _ _=>noA b,λb z=>absurd z (noA b),e0.funs,e0.frf⟩,
  rfl,e0.bare,Un.kept hk,⟨_,x.toInCall.ns,λi y v h1 h2 h3=>?_⟩,λy c h=>⟨_,x.cell y c h⟩,e0.hok.fresh (wb _),λy c h=>?_,λp hp=>absurd (show p∈([]:List (Addr×Obj)) from hp) (by simp),e0.hok.kept hk,?_⟩
 ·exact name_of_addr x.apart (PySem.mem_of_lookup h1) (PySem.mem_of_lookup h2)
 ·have hy:scope.names.lookup y=some .cell\/scope.names.lookup y=some .free:=hy
  rcases hy with hy|hy
  ·exact yaC hy
  ·exact absurd rfl (S.nofree _ (PySem.mem_of_lookup hy))
 ·exact uz (x.above y c (PySem.mem_of_lookup h))
 ·have hi:i<vs.length:=by
   unfold start at h2;by_cases hi:i<vs.length
   ·exact hi
   ·rw[uc (by simpa using hi)] at h2;rw[Uo] at h2;split at h2 <;> cases h2
  have ha:vs[i]?=some v:=by
   unfold start at h2;rw[xb (by simpa using hi),Vc] at h2;cases e:vs[i]? with
   |none=>rw[e] at h2;cases h2
   |some a=>rw[e] at h2;cases h2;rfl
  obtain⟨u,hu,rv⟩:=r.get ha;have hp:ps[i]?=some y:=by
   rw[<- S.pre,Xl (by lia)];exact h1
  have ndP:ps.Nodup:=by rw[<- S.pre];exact S.nd.sublist (WG _ _)
  refine⟨u,rv,?_⟩
  rcases S.par y (uh hp) with k|k
  ·exact .inl ⟨k,Zam ndP hp hu k⟩
  ·obtain⟨c,e⟩:=yaC (n:=s.heap.objs.size+1) k;refine .inr ⟨.inl k,c,e,?_⟩;have q:=x.cell y c e;rw[zak ndP hp hu (by show scope.names.lookup y≠_;rw[k];decide)] at q;exact q
 ·exact e0.hok.fresh (uz (x.above y c (PySem.mem_of_lookup h)))
 ·unfold start;show _=N.length;rw[Xf,xc,Wn]
  lia
theorem Ybl{CX:CXT}{P:Program}{w:World}{K:PySem.W.Frag}{mg:Str->Option Value}{base:Heap}{k:Nat}{f:Addr}{name qual:Str}{params:Arguments}{body:List Stmt}{scope:Scope}{dV kV doc pm cdv ct oc:Value}{an od:Option Addr}
  {osl:Array (Option Value)} {N ps:List Str} {sp:Sp} (lk:K.lookup f=some ⟨oc,od,.func (Xi name qual params body scope dV kV doc pm an cdv ct),osl⟩) (hcd:um K cdv qual=true) (S:FnScope N ps scope)
  (len:∀ vs H Q E,sp vs H Q E->vs.length=ps.length)
  (hbody:∀(A:Around)(outer:List Env)(s:Shared)(H:Hp)(vs:List V) (Q:VK) (E:XK),Room k (A.deeper (envOfC qual scope s.heap.objs.size f cdv))->sp vs H Q E ->
   ∃ t,PSs (YY CX P w K mg base N qual scope f cdv A outer s H E) body t/\t {nx:=λ_ H'=>Q .non H',rt:=Q} (start N vs) H) :
  FnOk P w K mg base CX (k+1) f (Xi name qual params body scope dV kV doc pm an cdv ct) ps sp:=by
 refine⟨len,λA outer s H args us vs Q E hr e0 hb r hsp=>?_⟩;have hl:=len _ _ _ _ hsp;have KX:K.In s.heap:=e0.mod.kin.keeps λb o e=>(e0.bs b o e).1;have lim:s.heap.NoLimit:=e0.mod.nolimit.keeps λb o e=>(e0.bs b o e).1;have hkind:∀ y∈ps.zip us,scope.names.lookup y.1=some .local\/(scope.names.lookup y.1=some .cell/\((cellsFrom (s.heap.objs.size+1) scope.names []).lookup y.1).isSome=true):=λ⟨n,v⟩ hy=>by
  rcases S.par n (VA hy).1 with q|q
  ·exact .inl q
  ·exact .inr ⟨q,uB _ _ _ (.inl q)⟩
 refine codeAny_call_function hr.depth (KX _ _ lk) rfl S.co S.gen rfl (PySem.W.codeRec_of KX hcd) (hb _ _ _ _ ?_);refine wpAny_newFunctionEnv_cells S.kind hkind λenv he s1 x=>?_;subst he;refine⟨lim.keeps x.toInCall.keep,codeAny_func ?_⟩;obtain⟨t,ht,hq⟩:=hbody A outer s H vs Q E (hr.deeper _) hsp;have I:Inv (YY CX P w K mg base N qual scope f cdv A outer s H E) [] (start N vs) H s1:=Zbe S hr.hd e0 hl r x;refine wpAny_mono (ht [] s1 (start N vs) H _ I hq) (λfl s' hs=>?_) λe s' hs=>hs;have fin:∀{σ':St}{H':Hp}{v:V}{u:Value},Inv (YY CX P w K mg base N qual scope f cdv A outer s H E) [] σ' H' s'->RelV v u->Q v H'->CE outer P w H s Q u s' :=
  λ{σ' H' v u} J rv q=>⟨v,H',J.os,J.bare,J.base,J.hok,rv,q⟩
 cases fl with
 |ret u =>
  obtain⟨v,σ',H',J,rv,q⟩:=hs;exact fin J rv q
 |next =>
  obtain⟨σ',H',J,q⟩:=hs;exact fin (v:=V.non) (u:=Value.none) J rfl q
 |brk =>
  obtain⟨_,_,_,q⟩:=hs;exact False.elim q
 |cont =>
  obtain⟨_,_,_,q⟩:=hs;exact False.elim q
section
variable {X:Cx} {x:Str} {p pos:Pos} {e:Expr} {es:List Expr} {t:TA} {id T:String} {r:List V->Hp->VK->Prop}
noncomputable def tCB(r:List V->Hp->VK->Prop)(t:TA):TE:=λσ H Q=>t σ H λvs H1=>r vs H1 Q
theorem zB(hc:CallR X (.builtin id) r)(hg:Gl X x)(hm:X.mg x=none)(hv:bootBuiltins x=some (.builtin id))(ha:PA X (e::es) t)(hn:x≠"__name__":=by decide)(hdb:(x==("__debug__":Str))=false:=by decide)
  (he:starEach (e::es) X.env=(false,eval e X.env)::starEach es X.env:=by rfl) (hpl:(backTo pos (starEach es X.env)).any (·.1)=false:=by rfl):PE X (.Call (.Name x p) (e::es) [] pos) (tCB r t):=by
 intro pins s σ H Q I h;refine wpAny_Call_Name_kw (Zy I hg hm hv ?_ hn hdb);exact PyProof.Rows.callWith_builtin1 (thn (ha pos pins s σ H _ I h) λus s1 ⟨vs,H1,I1,r1,q1⟩=>hc pins s1 σ H1 vs us Q I1 r1 q1) he hpl
theorem QI(hc:CallR X (.type T) r)(hg:Gl X x)(hm:X.mg x=none)(hv:bootBuiltins x=some (.type T))(ha:PA X (e::es) t)(hn:x≠"__name__":=by decide)(hdb:(x==("__debug__":Str))=false:=by decide)
  (he:starEach (e::es) X.env=(false,eval e X.env)::starEach es X.env:=by rfl) (hpl:(backTo pos (starEach es X.env)).any (·.1)=false:=by rfl):PE X (.Call (.Name x p) (e::es) [] pos) (tCB r t):=by
 intro pins s σ H Q I h;refine wpAny_Call_Name_kw (Zy I hg hm hv ?_ hn hdb);exact PyProof.Rows.callWith_type1 (thn (ha pos pins s σ H _ I h) λus s1 ⟨vs,H1,I1,r1,q1⟩=>hc pins s1 σ H1 vs us Q I1 r1 q1) he hpl
end
end L2
namespace HT
open PySem PyProof.Rows
section
variable {prog:Program} {w:World} {A:Around} {E:Value->Shared->Prop} {s:Shared}
theorem cat_tup{t b:Addr}{vs ws:List Value}{Q:Value->Shared->Prop}(ht:IsTup s.heap t vs.toArray)(hb:IsTup s.heap b ws.toArray)(hv:vs≠[])
  (h1:ws=[]->Q (.ref t) s) (h2:ws≠[]->Q (.ref s.heap.objs.size) {s with heap:=s.heap.push {cls:=.type "tuple",data:=.seq (vs++ws).toArray}})
  (hsz:vs.length+ws.length<=sizeLine):wpAny (model prog w) A (binaryOp .Add (.ref t) (.ref b)) Q E s:=by
 obtain⟨⟨cls,dd,data,sl⟩,ho,hc,n,hd⟩:=id ht;obtain⟨⟨cls2,dd2,data2,sl2⟩,ho2,hc2,n2,hd2⟩:=id hb;simp only at hc hd hc2 hd2;subst hc hd hc2 hd2;have e:vs.toArray++ws.toArray=(vs++ws).toArray:=by simp
 by_cases hw:ws=[]
 ·exact concat_meets ⟨_,ho,rfl⟩ ⟨_,ho2,rfl⟩ noFill_tuple_add seq_tuple_add PySem.F.slot_tuple_add PySem.F.entry_tuple_add (PySem.F.args_tuple_add_2 _ _)
   (tuple_addW1 t b vs.toArray ws.toArray n n2 dd dd2 sl sl2 (by simpa using hv) (by simp[hw])) ⟨ho,ho2,h1 hw⟩
 ·refine concat_meets ⟨_,ho,rfl⟩ ⟨_,ho2,rfl⟩ noFill_tuple_add seq_tuple_add PySem.F.slot_tuple_add PySem.F.entry_tuple_add (PySem.F.args_tuple_add_2 _ _)
   (tuple_addW2 t b vs.toArray ws.toArray n n2 dd dd2 sl sl2 (by simpa using hv) (by simpa using hw) (by rw[Va,Va];exact hsz)) ⟨ho,ho2,?_⟩
  rw[e];exact h2 hw
noncomputable def sIx(n d:Nat):Option Int->Nat
 |none=>d
 |some v=>if v<0 then(v+(n:Int)).toNat else min v.toNat n
theorem ycd(n d:Nat)(hd:d<=n)(o:Option Int):sIx n d o<=n:=by
 cases o with
 |none=>exact hd
 |some v =>
  show(if v<0 then(v+(n:Int)).toNat else min v.toNat n)<=n;by_cases hv:v<0
  ·rw[if_pos hv];lia
  ·rw[if_neg hv];exact Nat.min_le_right _ _
theorem yaW(v:Int)(n d:Nat):(if v<0 then max (v+(n:Int)) 0 else min v (n:Int))=((sIx n d (some v):Nat):Int):=by
 show(if v<0 then max (v+(n:Int)) 0 else min v (n:Int))=(((if v<0 then(v+(n:Int)).toNat else min v.toNat n):Nat):Int);by_cases hv:v<0
 ·simp only[if_pos hv];lia
 ·simp only[if_neg hv];lia
theorem QaP(lo hi:Option Int)(n:Nat):Builtin.Slice.sliceAdjust lo hi 1 (n:Int)=(((sIx n 0 lo:Nat):Int),((sIx n n hi:Nat):Int)):=by
 have h1:¬((1:Int)<0):=by lia
 unfold Builtin.Slice.sliceAdjust;simp only[h1,if_false];refine Prod.ext ?_ ?_
 ·cases lo with
  |none=>rfl
  |some v=>exact yaW v n 0
 ·cases hi with
  |none=>rfl
  |some v=>exact yaW v n n
theorem qaT(i j:Nat):Builtin.Slice.slicePlaces (i:Int) (j:Int) 1=j-i:=by
 unfold Builtin.Slice.slicePlaces;have h1:(1:Int)>0:=by lia
 simp only[h1,if_true,Int.ediv_one];split <;> lia
theorem Q4{v:Value}{o:Option Int}{Q:Option Int->Shared->Prop}(p:IsPart v o)(h:Q o s):wpAny (model prog w) A (Builtin.Slice.slicePartIndex v) Q E s:=by
 cases p with
 |none=>exact slicePart_none h
 |int i t=>exact slicePart_int h
theorem zA{sl:Addr}{vl vu:Value}{lo hi:Option Int}{n:Nat}{Q:Int×Int×Nat->Shared->Prop}(hs:s.heap.IsSliceOf sl vl vu .none)(pl:IsPart vl lo)(pu:IsPart vu hi)
  (h:Q (((sIx n 0 lo:Nat):Int),1,sIx n n hi-sIx n 0 lo) s):wpAny (model prog w) A (Builtin.Slice.sliceApplied (.ref sl) (pure (n:Int))) Q E s:=by
 obtain⟨os,hos,hcs,hds⟩:=id hs;unfold Builtin.Slice.sliceApplied Builtin.Slice.sliceFields;refine wpAny_bind (wpAny_bind (wpAny_field hos hds (x:=vl) rfl (wpAny_bind (wpAny_field hos hds (x:=vu) rfl (wpAny_bind (wpAny_field hos hds (x:=.none) rfl (wpAny_pure ?_)))))));refine wpAny_bind (slicePart_none ?_);show wpAny _ _ (if((1:Int)==0)=true then _ else _) _ _ s;rw[if_neg (by decide)];refine wpAny_bind (Q4 pl (wpAny_bind (Q4 pu (wpAny_bind (wpAny_pure ?_)))));show wpAny _ _ (match Builtin.Slice.sliceAdjust lo hi 1 (n:Int) with|(lo,hi)=>pure (lo,(1:Int),Builtin.Slice.slicePlaces lo hi 1)) _ _ s;rw[QaP lo hi n];show wpAny _ _ (pure (((sIx n 0 lo:Nat):Int),(1:Int),Builtin.Slice.slicePlaces ((sIx n 0 lo:Nat):Int) ((sIx n n hi:Nat):Int) 1)) _ _ s;rw[qaT];exact wpAny_pure h
theorem Qbh(xs:Array Value)(i k:Nat):((xa k).filterMap λ(m:Nat)=>xs[((i:Int)+(m:Int)*1).toNat]?).toArray=((xs.toList.drop i).take k).toArray:=by
 have e:(λ(m:Nat)=>xs[((i:Int)+(m:Int)*1).toNat]?)=λm=>xs[i+m]?:=by
  funext m;have:((i:Int)+(m:Int)*1).toNat=i+m:=by lia
  rw[this]
 rw[e];have:=pick_run xs i k;rw[List.filterMap_map] at this;have e2:((λx=>xs[x]?)∘λx=>i+x)=λm=>xs[i+m]?:=rfl;rw[e2] at this;rw[this]
theorem getItem_tuple_cut{t sl:Addr}{items:Array Value}{vl vu:Value}{lo hi:Option Int}{Q:Value->Shared->Prop}(ht:IsTup s.heap t items)(hs:s.heap.IsSliceOf sl vl vu .none)(pl:IsPart vl lo)(pu:IsPart vu hi)
  (hw:¬(sIx items.size 0 lo=0/\sIx items.size items.size hi=items.size))
  (h:Q (.ref s.heap.objs.size) {s with heap:=s.heap.push {cls:=.type "tuple",data:=.seq ((items.toList.drop (sIx items.size 0 lo)).take (sIx items.size items.size hi-sIx items.size 0 lo)).toArray}})
  (hsz:items.size<=sizeLine):wpAny (model prog w) A (getItem (.ref t) (.ref sl)) Q E s:=by
 have htake:sizeOk (.seq ((items.toList.drop (sIx items.size 0 lo)).take (sIx items.size items.size hi-sIx items.size 0 lo)).toArray):=by
  show((items.toList.drop (sIx items.size 0 lo)).take (sIx items.size items.size hi-sIx items.size 0 lo)).toArray.size<=sizeLine;rw[Va,Xm,Xu,xf]
  lia
 have hj:sIx items.size items.size hi<=items.size:=ycd _ _ (wb _) hi;obtain⟨os,hos,hcs,hds⟩:=id hs;have hTs:s.TypeIs (.ref sl) "slice":=⟨os,hos,hcs⟩;unfold getItem
 try with_reducible refine wpAny_holding ?_
 first|refine wpAny_bind (wpAny_pure ?_)|skip
 refine wpAny_bind (wpAny_sequenceKey ht.typeIs (by decide) ?_);refine wpAny_bind (wpAny_callSpecial?_slot (name:=Str.ofString "__getitem__") ht.typeIs PyProof.Rows.slot_tuple_getitem
  (wpAny_call_entry PyProof.Rows.slot_tuple_getitem ht.typeIs entry_tuple_getitem ?_ (args_tuple_getitem _ _)))
 show wpAny _ _ (Builtin.Tuple.tupleItemsOf (.ref t) >>= _) _ _ s;refine wpAny_bind (tupleItemsOf_ ht ?_);refine wpAny_bind (wpAny_typeOf hTs ?_);rw[if_pos (by decide)];refine wpAny_bind (zA hs pl pu ?_);have hno:¬((((sIx items.size 0 lo:Nat):Int)==0&&(1:Int)==1&&(sIx items.size items.size hi-sIx items.size 0 lo)==items.size)=true):=by
  intro q;rw[Wa,Wa] at q;have q1:((sIx items.size 0 lo:Nat):Int)=0:=eq_of_beq q.1.1;have q2:sIx items.size items.size hi-sIx items.size 0 lo=items.size:=eq_of_beq q.2;exact hw ⟨by lia,by lia⟩
 show wpAny _ _ (if(((sIx items.size 0 lo:Nat):Int)==0&&(1:Int)==1&&(sIx items.size items.size hi-sIx items.size 0 lo)==items.size)=true then _ else _) _ _ s;rw[if_neg hno,Qbh]
 first
  |exact wpAny_bind (m:=Builtin.Tuple.tupleExact _) (wpAny_newObj_type (wpAny_pure ⟨_,rfl,wpAny_pure h⟩) htake)
  |exact wpAny_bind (m:=Builtin.Tuple.tupleExact _) (wpAny_newObj_type (wpAny_bind (wpAny_pure (wpAny_pure ⟨_,rfl,wpAny_pure h⟩))) htake)
  |exact wpAny_bind (wpAny_bind (m:=Builtin.Tuple.tupleExact _) (wpAny_newObj_type (wpAny_pure (wpAny_pure ⟨_,rfl,wpAny_pure h⟩)) htake))
  |exact wpAny_bind (wpAny_bind (m:=Builtin.Tuple.tupleExact _) (wpAny_newObj_type (wpAny_pure ⟨_,rfl,wpAny_pure h⟩) htake))
end
end HT
namespace L2
open PySem PySem.Spec PyProof.Rows
noncomputable abbrev TO:=St->Hp->(Option Int->Hp->Prop)->Prop
noncomputable def PO(X:Cx)(e:Option Expr)(t:TO):Prop :=
 ∀(pins:List (Addr×Obj)) (s:Shared) (σ:St) (H:Hp) (Q:Option Int->Hp->Prop),Inv X pins σ H s->t σ H Q ->
  wpAny (model X.prog X.w) X.A (evalPart e X.env) (λu s'=>∃ o H',Inv X pins σ H' s'/\IsPart u o/\Q o H') X.xe s
noncomputable def ybN:TO:=λ_ H Q=>Q none H
noncomputable def tPart(t:TE):TO:=λσ H Q=>t σ H λx H1=>∃ i,x=.int i/\Q (some i) H1
section
variable {X:Cx} {e:Expr} {te:TE} {lo hi:Option Expr} {tl th:TO} {pos p2:Pos}
theorem YbR:PO X none ybN:=by
 intro pins s σ H Q I h;rw[evalPart_none];exact wpAny_pure ⟨none,H,I,.none,h⟩
theorem qbP(h:PE X e te):PO X (some e) (tPart te):=by
 intro pins s σ H Q I hw;rw[evalPart_some];refine thn (h pins s σ H _ I hw) λu s1 ⟨x,H1,I1,r1,q1⟩=>?_;obtain⟨i,rfl,q⟩:=q1;obtain⟨t,rfl⟩:=r1;exact⟨some i,H1,I1,.int i t,q⟩
noncomputable def SlR(X:Cx)(r:V->Option Int->Option Int->Hp->VK->Prop):Prop :=
 ∀(pins:List (Addr×Obj)) (s:Shared) (σ:St) (H:Hp) (x:V) (v vl vu:Value) (lo hi:Option Int) (sl:Addr) (Q:VK),Inv X pins σ H s->RelV x v->s.heap.IsSliceOf sl vl vu .none->IsPart vl lo->IsPart vu hi->r x lo hi H Q ->
  ∃ T id,typeLookup (.type T) "__getitem__"=pure (some (.builtin id))/\s.TypeIs v T/\wpAny (model X.prog X.w) X.A (getItem v (.ref sl)) (EP X pins σ Q) X.xe s
noncomputable def tSl(r:V->Option Int->Option Int->Hp->VK->Prop)(te:TE)(tl th:TO):TE:=λσ H Q=>te σ H λx H1=>tl σ H1 λl H2=>th σ H2 λu H3=>r x l u H3 Q
theorem zbs{r:V->Option Int->Option Int->Hp->VK->Prop}(hr:SlR X r)(he:PE X e te)(hl:PO X lo tl)(hu:PO X hi th):PE X (.Subscript e (.Slice lo hi none p2) pos) (tSl r te tl th):=by
 intro pins s σ H Q I h;refine Subscript_ (thn (he pins s σ H _ I h) λv s1 ⟨x,H1,I1,r1,q1⟩=>?_);refine wpAny_Slice (thn (hl pins s1 σ H1 _ I1 q1) λvl s2 ⟨l,H2,I2,pl,q2⟩=>thn (hu pins s2 σ H2 _ I2 q2) λvu s3 ⟨u,H3,I3,pu,q3⟩=>?_);rw[evalPart_none];refine wpAny_pure ?_;have I4:Inv X pins σ H3 {s3 with heap:=s3.heap.push {cls:=.type "slice",data:=.fields #[vl,vu,.none]}}:=I3.kept (t':=s3.toks) λb ob q=>wa _ q;obtain⟨T,id,hT,ht,hg⟩:=hr pins {s3 with heap:=s3.heap.push {cls:=.type "slice",data:=.fields #[vl,vu,.none]}} σ H3 x v vl vu l u s3.heap.objs.size Q I4 r1 (Heap.IsSliceOf.new ..) pl pu q3;show wpAny (model X.prog X.w) X.A (subscriptTail e (.Slice lo hi none p2) v (.ref s3.heap.objs.size)) (EP X pins σ Q) X.xe {s3 with heap:=s3.heap.push {cls:=.type "slice",data:=.fields #[vl,vu,.none]}};exact tail_any (ops:=[.ref s3.heap.objs.size,v]) ht hT hg (by with_unfolding_all rfl)
noncomputable def Qax(xs:List V)(lo hi:Option Int):List V:=(xs.drop (HT.sIx xs.length 0 lo)).take (HT.sIx xs.length xs.length hi-HT.sIx xs.length 0 lo)
theorem ZW(xs:List V)(lo hi:Option Int):(Qax xs lo hi).length<=xs.length:=by
 unfold Qax;rw[Xm,Xu]
 lia
noncomputable def rSlT(K:PySem.W.Frag):V->Option Int->Option Int->Hp->VK->Prop:=λx lo hi H Q=>∃ a xs,x=.ref a/\SqT K H a xs /\
 ¬(HT.sIx xs.length 0 lo=0/\HT.sIx xs.length xs.length hi=xs.length)/\∀ p,H p=none->Q (.ref p) (upd H p (.tup (Qax xs lo hi)))
theorem Zb5:SlR X (rSlT X.K):=by
 intro pins s σ H x v vl vu lo hi sl Q I rx hs pl pu h;obtain⟨a,xs,rfl,hx,hw,q⟩:=h;cases rx;obtain⟨its,r,ht,hz⟩:=I.tuple hx;have hlen:its.toArray.size=xs.length:=by rw[Va];exact r.length.symm
 refine⟨"tuple",_,PyProof.Rows.slot_tuple_getitem.lookup,ht.typeIs,?_⟩;refine HT.getItem_tuple_cut ht hs pl pu (by rw[hlen];exact hw) ?_ (by rw[hlen];exact hz);rw[hlen];refine⟨.ref s.heap.objs.size,_,I.laid (t':=s.toks) (o:=.tup (Qax xs lo hi)) (λb ob q=>wa _ q) (wb _) ?_,rfl,q _ (I.hok.fresh (wb _))⟩;exact⟨Xe (ZW xs lo hi) hz,_,(r.drop (HT.sIx xs.length 0 lo)).take (HT.sIx xs.length xs.length hi-HT.sIx xs.length 0 lo),IsTup.new _ _⟩
noncomputable def rCatT(K:PySem.W.Frag):R2:=λx y H Q=>∃ a b xs ys,x=.ref a/\y=.ref b/\SqT K H a xs/\SqT K H b ys/\xs≠[]/\xs.length+ys.length<=sizeLine /\
 (ys=[]->Q (.ref a) H)/\(ys≠[]->∀ p,H p=none->Q (.ref p) (upd H p (.tup (xs++ys))))
theorem Vals.nil_iff{xs:List V}{us:List Value}(r:Vals xs us):us=[]↔xs=[]:=by
 cases r with
 |nil=>simp
 |cons _ _=>simp
theorem zbP:OpR X (binaryOp .Add) (rCatT X.K):=by
 intro pins s σ H x y v u Q I rx ry h;obtain⟨a,b,xs,ys,rfl,rfl,ha,hb,hx,hz,q1,q2⟩:=h;cases rx;cases ry;obtain⟨its,r1,p1,_⟩:=I.tuple ha;obtain⟨its2,r2,p2,_⟩:=I.tuple hb;refine HT.cat_tup p1 p2 (λz=>hx (r1.nil_iff.mp z)) (λz=>⟨.ref a,H,I,rfl,q1 (r2.nil_iff.mp z)⟩) (λz=>?_) (by rw[<- r1.length,<- r2.length];exact hz);refine⟨.ref s.heap.objs.size,_,I.laid (t':=s.toks) (o:=.tup (xs++ys)) (λb ob q=>wa _ q) (wb _) ?_,rfl,q2 (λw=>z (r2.nil_iff.mpr w)) _ (I.hok.fresh (wb _))⟩;exact⟨by rw[Xf];exact hz,_,r1.append r2,IsTup.new _ _⟩
end
noncomputable def ixN(n:Nat)(i:Int):Option Nat:=if 0<=i then(if i<n then some i.toNat else none) else if -(n:Int)<=i then some (i+n).toNat else none
noncomputable def atI{α:Type}(xs:List α)(i:Int):Option α:=(ixN xs.length i).bind λj=>xs[j]?
theorem qaY{n:Nat}{i:Int}{j:Nat}(h:ixN n i=some j):seqIndex? i n=some j/\j<n/\-(n:Int)<=i/\i<n:=by
 unfold ixN at h;by_cases h0:0<=i
 ·rw[if_pos h0] at h;by_cases h1:i<n
  ·rw[if_pos h1] at h;have e:i.toNat=j:=Option.some.inj h;exact⟨by rw[seqIndex_of h0 h1,e],by lia,by lia,h1⟩
  ·rw[if_neg h1] at h;cases h
 ·rw[if_neg h0] at h;by_cases h1:-(n:Int)<=i
  ·rw[if_pos h1] at h;have e:(i+n).toNat=j:=Option.some.inj h;exact⟨by rw[seqIndex_neg (by lia) h1,e],by lia,h1,by lia⟩
  ·rw[if_neg h1] at h;cases h
theorem zaY{α:Type}{xs:List α}{i:Int}{v:α}(h:atI xs i=some v):∃ j,seqIndex? i xs.length=some j/\xs[j]?=some v/\j<xs.length/\-(xs.length:Int)<=i/\i<xs.length:=by
 unfold atI at h;cases e:ixN xs.length i with
 |none=>rw[e] at h;cases h
 |some j =>
  rw[e] at h;obtain⟨h1,h2,h3,h4⟩:=qaY e;exact⟨j,h1,h,h2,h3,h4⟩
noncomputable def QaY(b:Expr):Prop:=∀ o i,subscripted b false o i=operate [o,i] (getItem o i)
noncomputable def IxR(X:Cx)(r:R2):Prop :=
 ∀(value slice:Expr)(pins:List (Addr×Obj)) (s:Shared) (σ:St) (H:Hp) (x y:V) (v u:Value) (Q:VK),Inv X pins σ H s->RelV x v->RelV y u->r x y H Q ->
  subscripted slice false v u=operate [v,u] (getItem v u)->wpAny (model X.prog X.w) X.A (subscriptTail value slice v u) (EP X pins σ Q) X.xe s
noncomputable def MtR(X:Cx)(id:String)(r:V->List V->Hp->VK->Prop):Prop :=
 ∀(pins:List (Addr×Obj)) (s:Shared) (σ:St) (H:Hp) (x:V) (xs:List V) (v:Value) (us:List Value) (Q:VK),Inv X pins σ H s->RelV x v->Vals xs us->r x xs H Q ->
  wpAny (model X.prog X.w) X.A (call (.builtin id) (v::us)) (EP X pins σ Q) X.xe s
section
variable {X:Cx} {a b:Expr} {ta tb:TE} {pos:Pos}
theorem pe_ix{r:R2}(hr:IxR X r)(ha:PE X a ta)(hb:PE X b tb)(hs:QaY b):PE X (.Subscript a b pos) (tOp r ta tb):=by
 intro pins s σ H Q I h;exact Subscript_ (binT ha hb I h λv u s2 x y H2 I2 rx ry q=>hr a b pins s2 σ H2 x y v u Q I2 rx ry q (hs _ _))
noncomputable def rIxL(K:PySem.W.Frag):R2:=λx y H Q=>∃ p xs i v,x=.ref p/\y=.int i/\SqL K H p xs/\atI xs i=some v/\Q v H
noncomputable def rIxT(K:PySem.W.Frag):R2:=λx y H Q=>∃ p xs i v,x=.ref p/\y=.int i/\SqT K H p xs/\atI xs i=some v/\Q v H
theorem ybH:IxR X (rIxL X.K):=by
 intro value slice pins s σ H x y v u Q I rx ry h hs;obtain⟨p,xs,i,z,rfl,rfl,hq,he,q⟩:=h;cases rx;obtain⟨t,rfl⟩:=ry;obtain⟨its,r,pl,hz⟩:=I.list hq;obtain⟨j,h1,h2,h3,h4,h5⟩:=zaY he;obtain⟨w,ew,rw'⟩:=r.get h2;have hl:=r.length;have hn:=Y2;have fin:EP X pins σ Q w s:=⟨z,H,I,rw',q⟩;by_cases h0:0<=i
 ·have hj:i.toNat=j:=by
   rw[seqIndex_of h0 h5] at h1;exact Option.some.inj h1
  exact item_listR pl.isList h0 (by lia) (by rw[hj];simpa using ew) fin hs
 ·have hj:(i+(its.toArray.size:Int)).toNat=j:=by
   rw[seqIndex_neg (by lia) h4] at h1;rw[Va,<- hl];exact Option.some.inj h1
  exact subscriptTail_builtinR (x:=w) pl.isList.typeIs slot_list_getitem.lookup
   (wpAny_getItem_list_neg (Q:=λr s'=>r=w/\EP X pins σ Q r s') pl.isList (by lia) (by rw[Va] <;> lia) (by lia) (by rw[hj];simpa using ew) ⟨rfl,fin⟩) hs
theorem YbY:IxR X (rIxT X.K):=by
 intro value slice pins s σ H x y v u Q I rx ry h hs;obtain⟨p,xs,i,z,rfl,rfl,hq,he,q⟩:=h;cases rx;obtain⟨t,rfl⟩:=ry;obtain⟨its,r,pl,hz⟩:=I.tuple hq;obtain⟨j,h1,h2,h3,h4,h5⟩:=zaY he;obtain⟨w,ew,rw'⟩:=r.get h2;have hl:=r.length;have hn:=Y2;have fin:EP X pins σ Q w s:=⟨z,H,I,rw',q⟩;exact subscriptTail_builtinR (x:=w) pl.typeIs slot_tuple_getitem.lookup
  (getItem_tuple (j:=j) (Q:=λr s'=>r=w/\EP X pins σ Q r s') pl (by lia) (by lia) (by rw[Va,<- hl];exact h1) (by simpa using ew) ⟨rfl,fin⟩) hs
theorem zaM(its:List Value)(n j:Nat)(u:Value):Obj.mapSeq (·.setIfInBounds j u) {cls:=.type "list",data:=.seq its.toArray n}={cls:=.type "list",data:=.seq (its.set j u).toArray n}:=by
 simp[Obj.mapSeq]
theorem Inv.lst{pins:List (Addr×Obj)}{σ:St}{H:Hp}{s:Shared}{p:Addr}{xs:List V}(I:Inv X pins σ H s)(h:H p=some (.lst xs)) :
  ∃(its:List Value)(n:Nat),Vals xs its/\s.heap.get? p=some {cls:=.type "list",data:=.seq its.toArray n}/\xs.length<=sizeLine:=by
 obtain⟨z,its,n,r,e⟩:=I.hok p _ h;exact⟨its,n,r,e,z⟩
theorem Inv.lstUpd{pins:List (Addr×Obj)}{σ:St}{H:Hp}{s:Shared}{p:Addr}{xs ys:List V}{its its':List Value}{n n':Nat}{f:Obj->Obj}(I:Inv X pins σ H s)(h:H p=some (.lst xs))
  (ho:s.heap.get? p=some {cls:=.type "list",data:=.seq its.toArray n}) (hf:f {cls:=.type "list",data:=.seq its.toArray n}={cls:=.type "list",data:=.seq its'.toArray n'}) (r:Vals ys its') (hz:ys.length<=sizeLine) (t:Nat) :
  Inv X pins σ (upd H p (.lst ys)) {s with heap:=s.heap.update p f,toks:=t}:=by
 have e:(s.heap.update p f).get? p=some {cls:=.type "list",data:=.seq its'.toArray n'}:=by
  rw[xn f ho (by rw[hf] <;> rfl),hf]
 refine I.write (x:=p) (e:=p) (by rw[h];trivial) (.inl rfl) (λb u hb q=>(Ui _ _ (Ne.symm hb)).trans q) ⟨_,e⟩ ?_;exact⟨hz,its',n',r,e⟩
noncomputable def rSetL:V->V->V->Hp->(Hp->Prop)->Prop:=λo i v H Q=>∃ p xs k j,o=.ref p/\i=.int k/\H p=some (.lst xs)/\ixN xs.length k=some j/\Q (upd H p (.lst (xs.set j v)))
theorem Zby:PSet X rSetL:=by
 intro pins s σ H o i v ov iv u Q I ro ri rv h;obtain⟨p,xs,k,j,rfl,rfl,hp,hj,q⟩:=h;cases ro;obtain⟨t,rfl⟩:=ri;obtain⟨its,n,r,ho,hz⟩:=I.lst hp;obtain⟨h1,h2,h3,h4⟩:=qaY hj;have hl:=r.length;have hn:=Y2;have I':Inv X pins σ (upd H p (.lst (xs.set j v))) {s with heap:=s.heap.update p (Obj.mapSeq (·.setIfInBounds j u))} :=
  I.lstUpd hp ho (zaM its n j u) (r.set rv j) (by rw[List.length_set];exact hz) s.toks
 by_cases h0:0<=k
 ·have hk:k.toNat=j:=by
   rw[seqIndex_of h0 h4] at h1;exact Option.some.inj h1
  exact PySem.W.ki_setAt ho h0 (by lia) (by rw[Va,<- hl];exact h4) (by rw[hk];exact⟨_,I',q⟩)
 ·have hk:(k+(its.toArray.size:Int)).toNat=j:=by
   rw[seqIndex_neg (by lia) h3] at h1;rw[Va,<- hl];exact Option.some.inj h1
  exact PySem.W.ki_setBack ho (by lia) (by rw[Va,<- hl];exact h3) (by lia) (by rw[hk];exact⟨_,I',q⟩)
theorem yar(lo hi:Option Int)(n:Nat):(sliceBounds lo hi none n).1=((HT.sIx n 0 lo:Nat):Int)/\(sliceBounds lo hi none n).2.1=((HT.sIx n n hi:Nat):Int)/\(sliceBounds lo hi none n).2.2=1:=by
 refine⟨?_,?_,rfl⟩
 ·cases lo with
  |none=>simp[sliceBounds,HT.sIx]
  |some i =>
   simp only[sliceBounds,HT.sIx,XH,show(1:Int)>0 by decide,if_true];by_cases h:i<0
   ·simp only[h,if_true] <;> lia
   ·simp only[h,if_false] <;> lia
 ·cases hi with
  |none=>simp[sliceBounds,HT.sIx]
  |some i =>
   simp only[sliceBounds,HT.sIx,XH,show(1:Int)>0 by decide,if_true];by_cases h:i<0
   ·simp only[h,if_true] <;> lia
   ·simp only[h,if_false] <;> lia
theorem qaf(its:List Value)(lo hi:Option Int):slicePick its.toArray lo hi none=((its.drop (HT.sIx its.length 0 lo)).take (HT.sIx its.length its.length hi-HT.sIx its.length 0 lo)).toArray:=by
 obtain⟨h1,h2,h3⟩:=yar lo hi its.toArray.size;unfold slicePick;rw[h1,h2,h3];simp only[sliceRange_one,pick_run,Va] <;> rfl
noncomputable def rSlL(K:PySem.W.Frag):V->Option Int->Option Int->Hp->VK->Prop:=λx lo hi H Q=>∃ a xs,x=.ref a/\SqL K H a xs/\∀ p,H p=none->Q (.ref p) (upd H p (.lst (Qax xs lo hi)))
theorem ya2:SlR X (rSlL X.K):=by
 intro pins s σ H x v vl vu lo hi sl Q I rx hs pl pu h;obtain⟨a,xs,rfl,hx,q⟩:=h;cases rx;obtain⟨its,r,ht,hz⟩:=I.list hx;have hlen:=r.length;refine⟨"list",_,slot_list_getitem.lookup,ht.isList.typeIs,?_⟩;refine wpAny_getItem_list_slice ht.isList hs pl pu .none (by simp) ?_ (by rw[Va] <;> lia);rw[qaf,<- hlen];refine⟨.ref s.heap.objs.size,_,I.laid (t':=s.toks) (o:=.lst (Qax xs lo hi)) (λb ob q=>wa _ q) (wb _) ?_,rfl,q _ (I.hok.fresh (wb _))⟩;exact⟨Xe (ZW xs lo hi) hz,_,0,(r.drop (HT.sIx xs.length 0 lo)).take (HT.sIx xs.length xs.length hi-HT.sIx xs.length 0 lo),Ub _ rfl⟩
theorem yap:CallR X (.builtin "len") (λxs H Q=>∃ p ys,xs=[.ref p]/\(SqL X.K H p ys\/SqT X.K H p ys)/\Q (.int ys.length) H):=by
 intro pins s σ H xs us Q I r h;obtain⟨p,ys,rfl,hq,q⟩:=h;obtain⟨u,rfl,rx⟩:=zaj r;cases rx;have hn:=Y2
 rcases hq with hq|hq
 ·obtain⟨its,r',pl,hz⟩:=I.list hq;have hlen:=r'.length;exact Calls.call_len_list pl.isList (by simp only[Va] <;> lia) ⟨.int ys.length,H,I.tok _,⟨s.toks+1,by rw[Va,hlen]⟩,q⟩
 ·obtain⟨its,r',pl,hz⟩:=I.tuple hq;have hlen:=r'.length;exact len_tuple pl (by simp only[Va] <;> lia) ⟨.int ys.length,H,I.tok _,⟨s.toks+1,by rw[Va,hlen]⟩,q⟩
theorem yas:CallR X (.builtin "len") (λxs H Q=>∃ z,xs=[.str z]/\z.length<=sizeLine/\Q (.int z.length) H):=by
 intro pins s σ H xs us Q I r h;obtain⟨z,rfl,hz,q⟩:=h;obtain⟨u,rfl,t,rfl⟩:=zaj r;have hn:=Y2;exact len_str (by lia) ⟨.int z.length,H,I.tok _,⟨_,rfl⟩,q⟩
theorem zau:CallR X (.type "list") (λxs H Q=>∃ p ys,xs=[.ref p]/\(SqL X.K H p ys\/SqT X.K H p ys)/\∀ l,H l=none->Q (.ref l) (upd H l (.lst ys))):=by
 intro pins s σ H xs us Q I r h;obtain⟨p,ys,rfl,hq,q⟩:=h;obtain⟨u,rfl,rx⟩:=zaj r;cases rx;have fin:∀(its:List Value),Vals ys its->ys.length<=sizeLine->∀(h':Heap)(c':Nat),(∀ b o',s.heap.get? b=some o'->h'.get? b=some o') ->
   h'.get? s.heap.objs.size=some {cls:=.type "list",dict:=none,data:=.seq its.toArray c',slots:=#[]}->EP X pins σ Q (.ref s.heap.objs.size) {s with heap:=h'}:=λits r' hz h' c' kp e =>
  ⟨.ref s.heap.objs.size,_,I.laid (t':=s.toks) kp (wb _) (show ObjOk X.prog X.w _ h' _ (.lst ys) from⟨hz,its,c',r',e⟩),rfl,q _ (I.hok.fresh (wb _))⟩
 rcases hq with hq|hq
 ·obtain⟨its,r',pl,hz⟩:=I.list hq;have hlen:=r'.length;obtain⟨o,ho,hc,n,hd⟩:=pl.isList;exact call_list_seq p (.inl rfl) ho hc hd (λh' c' kp e=>fin its r' hz h' c' kp e) (by simp only[Va] <;> lia)
 ·obtain⟨its,r',pl,hz⟩:=I.tuple hq;have hlen:=r'.length;obtain⟨o,ho,hc,n,hd⟩:=pl;exact call_list_seq p (.inr rfl) ho hc hd (λh' c' kp e=>fin its r' hz h' c' kp e) (by simp only[Va] <;> lia)
theorem zai:CallR X (.type "tuple") (λxs H Q=>∃ p ys,xs=[.ref p]/\((SqL X.K H p ys/\∀ l,H l=none->Q (.ref l) (upd H l (.tup ys)))\/(SqT X.K H p ys/\Q (.ref p) H))):=by
 intro pins s σ H xs us Q I r h;obtain(⟨p,ys,rfl,h⟩):=h;obtain(⟨u,rfl,rx⟩):=zaj r;cases rx
 rcases h with ⟨hq,q⟩|⟨hq,q⟩
 ·obtain(⟨its,r',pl,hz⟩):=I.list hq;have hlen:=r'.length;refine call_tuple_list pl.isList (λh' kp=>?_) (by simp only[Va] <;> lia);have I1:Inv X pins σ H {s with heap:=h'}:=I.kept (t':=s.toks) kp;have I2:Inv X pins σ (upd H h'.objs.size (.tup ys)) {s with heap:=h'.push {cls:=.type "tuple",data:=.seq its.toArray}} :=
   I1.laid (t':=s.toks) (λb o e=>wa _ e) (wb _) (show ObjOk X.prog X.w _ _ _ (.tup ys) from⟨hz,its,r',IsTup.new _ _⟩)
  exact⟨.ref h'.objs.size,_,I2,rfl,q _ (I1.hok.fresh (wb _))⟩
 ·obtain(⟨its,r',pl,hz⟩):=I.tuple hq;exact call_tuple_same pl ⟨.ref p,H,I,rfl,q⟩
noncomputable def tyV(K:PySem.W.Frag)(T:String)(x:V)(H:Hp):Prop:=match x with
 |.str _=>T="str"
 |.int _=>T="int"
 |.ref p=>(T="list"/\∃ xs,SqL K H p xs)\/(T="tuple"/\∃ o,K.lookup p=some o/\o.cls=.type "tuple"/\o.dict=none) \/
   (T="dict"/\((∃ kvs,H p=some (.dK kvs))\/∃ kvs,H p=some (.dT kvs)))\/(T="set"/\∃ S n,H p=some (.set S n))
 |_=>False
theorem qb0{pins:List (Addr×Obj)}{σ:St}{H:Hp}{s:Shared}{T:String}{x:V}{v:Value}(I:Inv X pins σ H s)(r:RelV x v)(ty:tyV X.K T x H) :
  s.TypeIs v T/\∀ a,v=.ref a->∃ ob,s.heap.get? a=some ob/\ob.dict=none:=by
 cases x with
 |str z =>
  obtain⟨t,rfl⟩:=r;cases(show T="str" from ty);exact⟨typeIs_str s z t,λ_ e=>nomatch e⟩
 |int i =>
  obtain⟨t,rfl⟩:=r;cases(show T="int" from ty);exact⟨typeIs_int s i t,λ_ e=>nomatch e⟩
 |ref p =>
  cases r
  rcases ty with ⟨rfl,xs,hq⟩|⟨rfl,o,hk,hc,hd⟩|⟨rfl,hk⟩|⟨rfl,S,n,hk⟩
  ·obtain⟨its,_,pl,_⟩:=I.list hq;refine⟨pl.isList.typeIs,λa e=>?_⟩;cases e;obtain⟨o,n,e,c,hd,_⟩:=pl;exact⟨o,e,hd⟩
  ·refine⟨⟨o,I.kIn p o hk,hc⟩,λa e=>?_⟩;cases e;exact⟨o,I.kIn _ o hk,hd⟩
  ·have z:∃ o,s.heap.get? p=some o/\o.ExactDict:=by
    rcases hk with ⟨kvs,hk⟩|⟨kvs,hk⟩
    ·obtain⟨_,_,_,_,o,_,_,e,ex,_⟩:=I.hok p _ hk;exact⟨o,e,ex⟩
    ·obtain⟨_,_,_,_,o,_,_,e,ex,_⟩:=I.hok p _ hk;exact⟨o,e,ex⟩
   obtain⟨o,e,ex⟩:=z;refine⟨⟨o,e,ex.1⟩,λa e2=>?_⟩;cases e2;exact⟨o,e,ex.2.1⟩
  ·obtain⟨o,_,_,_,e,ex,_⟩:=I.hok p _ hk;refine⟨⟨o,e,ex.1⟩,λa e2=>?_⟩;cases e2;exact⟨o,e,ex.2.1⟩
 |_=>exact False.elim ty
noncomputable def tBM(K:PySem.W.Frag)(T:String)(r:V->List V->Hp->VK->Prop)(to:TE)(t:TA):TE:=λσ H Q=>to σ H λx H1=>tyV K T x H1/\t σ H1 λxs H2=>r x xs H2 Q
variable {o e:Expr} {es:List Expr} {to:TE} {t:TA} {name:Str} {apos cpos:Pos} {T id:String} {r:V->List V->Hp->VK->Prop}
theorem qbV(pa:PlainAttrs T)(slot:Slot T name id)(hty:typeOf (.builtin id)=pure (.type "method_descriptor"))(hm:MtR X id r)(ho:PE X o to)(ha:PA X (e::es) t)
  (hbase:attributeBase o name X.env (eval o X.env)=eval o X.env:=by rfl)
  (hfew:((backTo cpos (starEach (e::es) X.env)).all (λx=>!x.1)&&(backToKw cpos (keywordEach [] X.env)).all (λx=>x.1.isSome)
   && decide ((e::es).length+([]:List Keyword).length+(if([]:List Keyword).isEmpty then 0 else 1)<30))=true:=by rfl)
  (hline:(apos.endLine==cpos.line)=true:=by rfl) (hs:starEach (e::es) X.env=(false,eval e X.env)::starEach es X.env:=by rfl) (hplain:(backTo cpos (starEach es X.env)).any (·.1)=false:=by rfl) :
  PE X (.Call (.Attribute o name apos) (e::es) [] cpos) (tBM X.K T r to t):=by
 intro pins s σ H Q I h;refine wpAny_Call_method_late hbase hfew hline rfl (thn (ho pins s σ H _ I h) λv s1 ⟨x,H1,I1,r1,ty,q1⟩=>?_);obtain⟨h1,h2⟩:=qb0 I1 r1 ty;refine⟨T,id,pa,slot,hty,h1,h2,?_⟩;have hA:=ha cpos pins s1 σ H1 _ I1 q1;rw[hs] at hA ⊢;refine Calls.callWith_builtin (by show(false||(backTo cpos (starEach es X.env)).any (·.1))=false;rw[hplain] <;> rfl) (Calls.evalArgs_plain ?_);exact thn hA λus s2 ⟨vs,H2,I2,r2,q2⟩=>hm pins s2 σ H2 x vs v us Q I2 r1 r2 q2
end
noncomputable def MtM(X:Cx)(id:String)(r:V->List V->Hp->VK->Prop):Prop :=
 ∀(pins:List (Addr×Obj)) (s:Shared) (σ:St) (H:Hp) (x:V) (xs:List V) (v:Value) (us:List Value) (Q:VK),Inv X pins σ H s->RelV x v->Vals xs us->r x xs H Q ->
  wpAny (model X.prog X.w) X.A (call (.builtin id) (v::us)) (EP X pins σ Q) X.xe s
theorem Vals.one:∀{x:V}{us:List Value},Vals [x] us->∃ u,us=[u]/\RelV x u
 |_,_,.cons r .nil=>⟨_,rfl,r⟩
theorem Vals.zero:∀{us:List Value},Vals [] us->us=[]
 |_,.nil=>rfl
theorem Vals.dropLast{xs:List V}{us:List Value}(h:Vals xs us):Vals xs.dropLast us.dropLast:=by
 induction h with
 |nil=>exact .nil
 |cons r t ih =>
  cases t with
  |nil=>exact .nil
  |cons q t'=>exact .cons r ih
theorem Vals.eraseIdx:∀{xs:List V}{us:List Value}(i:Nat),Vals xs us->Vals (xs.eraseIdx i) (us.eraseIdx i)
 |_,_,_,.nil=>.nil
 |_,_,0,.cons _ t=>t
 |_,_,i+1,.cons r t=>.cons r (Vals.eraseIdx i t)
theorem Vals.rep{xs:List V}{us:List Value}(h:Vals xs us):∀ k:Nat,Vals (Xa k xs).flatten (Xa k us).flatten
 |0=>.nil
 |k+1=>by
  rw[Vj,Vj,Wq,Wq];exact Vals.append h (Vals.rep h k)
theorem QaS{α:Type}(l:List α):l.eraseIdx (l.length-1)=l.dropLast:=by
 induction l with
 |nil=>rfl
 |cons a r ih =>
  cases r with
  |nil=>rfl
  |cons b r =>
   have e:(a::b::r).length-1=((b::r).length-1)+1:=by
    have h1:(a::b::r).length=r.length+2:=rfl;have h2:(b::r).length=r.length+1:=rfl
    lia
   rw[e,List.eraseIdx_cons_succ,ih]
   all_goals rfl
theorem Qal{α:Type}:∀(l:List α)(i:Nat),(l.eraseIdx i).length<=l.length
 |[],_=>wb _
 |_::_,0=>Ut _
 |_::r,i+1=>Nat.succ_le_succ (Qal r i)
theorem Zak(its:List Value):∀(k:Nat)(acc:List Value),
  wI (λx1 x2=>x1++x2) acc.toArray (Xa k its.toArray)=(acc++(Xa k its).flatten).toArray
 |0,acc=>by simp
 |k+1,acc=>by
  have e:acc.toArray++its.toArray=(acc++its).toArray:=by simp
  have e2:(acc++its)++(Xa k its).flatten=acc++(Xa (k+1) its).flatten:=by
   rw[Vj,Wq,xq]
  rw[<- e2,<- Zak its k (acc++its),<- e,Vj,wB]
section
variable {X:Cx} {pins:List (Addr×Obj)} {σ:St} {H:Hp} {s:Shared} {l b:Addr} {xs ys zs:List V}
theorem Inv.lset{its its':List Value}{n:Nat}{f:Array Value->Array Value}{t':Nat}(I:Inv X pins σ H s)(hH:H l=some (.lst xs))
  (e:s.heap.get? l=some {cls:=.type "list",data:=.seq its.toArray n}) (hf:f its.toArray=its'.toArray) (hv:Vals ys its') (hz:ys.length<=sizeLine) :
  Inv X pins σ (upd H l (.lst ys)) {s with heap:=s.heap.update l (Obj.mapSeq f),toks:=t'}:=by
 have q:=PySem.IsL.update e f;rw[hf] at q;refine I.write (x:=l) (e:=l) (by rw[hH];exact trivial) (.inl rfl) (λb' u hb hu=>(Ui s.heap (Obj.mapSeq f) (Ne.symm hb)).trans hu) ⟨_,q⟩ ?_;exact⟨hz,its',_,hv,q⟩
theorem Inv.lnew{its:List Value}{t':Nat}(I:Inv X pins σ H s)(hv:Vals ys its)(hz:ys.length<=sizeLine) :
  Inv X pins σ (upd H s.heap.objs.size (.lst ys)) {s with heap:=s.heap.push {cls:=.type "list",data:=.seq its.toArray},toks:=t'} :=
 I.laid (λ_ _ q=>wa _ q) (wb _) ⟨hz,its,0,hv,Ub _ rfl⟩
theorem Inv.fresh(I:Inv X pins σ H s):H s.heap.objs.size=none:=I.hok.fresh (wb _)
theorem Inv.lstM(I:Inv X pins σ H s)(hH:H l=some (.lst xs)):xs.length<=sizeLine/\∃(its:List Value)(n:Nat),Vals xs its/\xs.length=its.length/\s.heap.get? l=some {cls:=.type "list",data:=.seq its.toArray n}:=by
 obtain⟨z,its,n,r,e⟩:=I.hok l _ hH;exact⟨z,its,n,r,r.length,e⟩
theorem YaF{n:Nat}(h:n<=sizeLine):Builtin.List.listTooLong n=false:=by
 unfold Builtin.List.listTooLong;exact decide_eq_false (by lia)
end
section
variable {X:Cx}
noncomputable def ZbN:V->List V->Hp->VK->Prop:=λx vs H Q=>∃ l xs y,x=.ref l/\vs=[y]/\H l=some (.lst xs)/\xs.length<sizeLine/\Q .non (upd H l (.lst (xs++[y])))
theorem Qa4:MtM X "list.append" ZbN:=by
 intro pins s σ H x vs v us Q I rx rv h;obtain⟨l,xs,y,rfl,rfl,hH,hz,q⟩:=h;cases rx;obtain⟨u,rfl,ru⟩:=rv.one;obtain⟨z,its,n,r,hl,e⟩:=I.lstM hH;refine call_meets F.slot_list_append ⟨_,e,rfl⟩ F.entry_list_append (F.args_list_append_2 _ _) (PySem.list_append l its.toArray n u (by rw[Va];lia)) ⟨e,?_⟩;refine⟨.non,_,I.lset (its':=its++[u]) hH e (by simp) (r.append (.cons ru .nil)) ?_,rfl,q⟩;rw[Xf,WC]
 lia
noncomputable def rExtend:V->List V->Hp->VK->Prop:=λx vs H Q=>∃ l b xs zs,x=.ref l/\vs=[.ref b]/\H l=some (.lst xs)/\H b=some (.lst zs)/\xs.length+zs.length<=sizeLine/\Q .non (upd H l (.lst (xs++zs)))
noncomputable def rPop:V->List V->Hp->VK->Prop:=λx vs H Q=>∃ l xs y,x=.ref l/\vs=[]/\H l=some (.lst xs)/\xs[xs.length-1]?=some y/\Q y (upd H l (.lst xs.dropLast))
theorem Yb5:MtM X "list.pop" rPop:=by
 intro pins s σ H x vs v us Q I rx rv h;obtain⟨l,xs,y,rfl,rfl,hH,hy,q⟩:=h;cases rx;have hus:=rv.zero;subst hus;obtain⟨z,its,n,r,hl,e⟩:=I.lstM hH;obtain⟨u,hu,ru⟩:=r.get hy;have hy':its.toArray[its.toArray.size-1]?=some u:=by
  show its.toArray[its.length-1]?=some u;rw[<- vh,<- hl];exact hu
 refine call_meets F.slot_list_pop ⟨_,e,rfl⟩ F.entry_list_pop (F.args_list_pop_1 _) (MeetsSeq.list_pop_last l its.toArray n u hy' (by rw[Va];lia)) ⟨e,?_⟩;refine⟨y,_,I.lset (its':=its.dropLast) hH e ?_ r.dropLast ?_,ru,q⟩
 ·show its.toArray.eraseIdxIfInBounds (its.toArray.size-1)=its.dropLast.toArray;rw[Va,wv,QaS]
 ·rw[List.length_dropLast]
  lia
noncomputable def qb4:V->List V->Hp->VK->Prop:=λx vs H Q=>∃ l xs i k y,x=.ref l/\vs=[.int i]/\H l=some (.lst xs)/\-(2^63)<=i/\i<2^63/\seqIndex? i xs.length=some k/\xs[k]?=some y/\Q y (upd H l (.lst (xs.eraseIdx k)))
theorem ybi:MtM X "list.pop" qb4:=by
 intro pins s σ H x vs v us Q I rx rv h;obtain⟨l,xs,i,k,y,rfl,rfl,hH,h1,h2,hk,hy,q⟩:=h;cases rx;obtain⟨u,rfl,ru⟩:=rv.one;obtain⟨t,rfl⟩:=ru;obtain⟨z,its,n,r,hl,e⟩:=I.lstM hH;obtain⟨w,hw,rw'⟩:=r.get hy;refine call_meets F.slot_list_pop ⟨_,e,rfl⟩ F.entry_list_pop (F.args_list_pop_2 _ _)
  (MeetsSeq.list_pop_at l its.toArray n i t k w (fitsIndex_both h1 h2) (by rw[Va,<- hl];exact hk) (by rw[<- vh];exact hw) (by rw[Va];lia)) ⟨e,?_⟩
 refine⟨y,_,I.lset (its':=its.eraseIdx k) hH e ?_ (r.eraseIdx k) ?_,rw',q⟩
 ·show its.toArray.eraseIdxIfInBounds k=(its.eraseIdx k).toArray;rw[wv]
 ·have:=Qal xs k
  lia
theorem qbQ{α:Type}(xs:List α)(k:Nat):(Xa k xs).flatten.length=k*xs.length:=by
 induction k with
 |zero=>simp
 |succ k ih=>rw[Vj,Wq,Xf,ih,Nat.succ_mul,uE]
end
end L2
namespace Att
open PySem PySem.W PySem.Calls PyProof.Rows
theorem QY{P:Params}{h:Heap}:∀(ns:List Int)(vs:List Value),WellAll P h vs (ns.map WData.int)->IntsAre vs ns:=by
 intro ns
 induction ns with
 |nil =>
  intro vs w;rw[Vm] at w;cases w;exact .nil
 |cons n ns ih =>
  intro vs w;rw[Wd] at w;cases w with
  |cons a b =>
   cases a;exact .cons _ _ (ih _ b)
theorem za7{l:OpenLaw}{n:Nat}(hn:l.most=some n){P:Params}{h:Heap}{args:List WData}{vals:List Value}
  (hpre:l.row.toRowW.claim.pre args=true) (hwl:WellAll P h vals args) :
  ∃ a vs ns,vals=[Value.ref a]/\args=[WData.list (ns.map WData.int)]/\h.get? a=some {cls:=.type "list",data:=.seq vs.toArray}/\IntsAre vs ns/\ns.length<=n:=by
 have hsh:WShape.hasAll [] args [.list .int]=true:=(pre_splitW hpre).1;have hc:l.pre.holds [] {args:=args}=true:=(pre_splitW hpre).2;obtain⟨d,r,rfl,h1,h2⟩:=hasAllW_cons hsh;obtain rfl:=hasAllW_nil h2;obtain⟨xs,rfl,h3⟩:=hasW_list h1;obtain⟨ns,rfl⟩:=items_int h3;have hlen:ns.length<=n:=by
  unfold OpenLaw.pre at hc;have h4:(WTm.not (.lt (.lit (.int (n:Int))) (.len (.arg 0)))).holds [] {args:=[.list (ns.map .int)]}=true:=by
   have h4:=(holds_andW hc).1;rw[hn] at h4;exact h4
  have h5:=condW_of h4 (w_not (w_lt w_lit (w_len_list (w_arg rfl))));rw[xc] at h5;refine uu λq=>?_;have q':(n:Int)<((ns.length:Nat):Int):=by lia
  first
   |(rw[decide_eq_true q'] at h5;exact absurd h5 (by decide))
   |(simp at h5;lia)
 cases hwl with
 |cons w1 w2 =>
  cases w2;cases w1 with
  |list ho hall=>exact⟨_,_,ns,rfl,rfl,ho,QY ns _ hall,hlen⟩
theorem za6(l:OpenLaw)(args:List WData):l.row.toRowW.claim.post args (.bool true) args=true :=
 postW_of (r:=l.row.toRowW) (X:=(true==true))
  (show WShape.has [] (.bool true) .bool=true by first|rfl|decide|simp[WShape.has,WShape.arms,WShape.armsAll])
  (show(WTm.eq .res (.lit (.bool true))).value [] {args:=args,res:=some (.bool true),after:=args}=some (.bool (true==true)) from w_eq_bool (w_res rfl) w_lit) rfl
theorem attach_call{l:OpenLaw}{n:Nat}{q:Program}{loose:List Str}{XP:(Str->Option Value)->Heap->Prop}{YP:World->Heap->Prop}{d:DefRec}
  (hn:l.most=some n) (hdf:d.params.defaults=[])
  (call:∀(w:World)(s₀ s₁:Shared)(mg mb:Str->Option Value)(fa:Addr)(o:Obj) (pm cd doc:Value) (a:Addr) (vs:List Value) (ns:List Int),
   Ground q loose [] XP w s₀ mg mb s₁.heap->YP w s₁.heap ->
   s₁.heap.get? fa=some o->o.data=.func (docDef d.name d.params d.body d.scope pm cd doc)->s₁.heap.CodeRec cd d.name->mg d.name=some (.ref fa) ->
   s₁.heap.get? a=some {cls:=.type "list",data:=.seq vs.toArray}->IntsAre vs ns->ns.length<=n->s₁.gens=#[] ->
   codeAny (model l.prog w) callerA (.call (.ref fa) ⟨[.ref a],[]⟩) (λr s'=>r=.ok (.ret (.bool true))/\OldK s₁.heap s'.heap/\s'.os=s₁.os/\AllBare s'.gens) s₁) :
  WalkO q loose XP YP l.row.toRowW d [] (λf vs=>PySem.call f vs):=by
 intro w s₀ s₁ mg mb G Y fa o pm cd doc dV kV ho hd hcd hD hmg hg args vals as hpre hlay hrd hwl hlo;obtain rfl:dV=.none:=Dflts.none hD hdf;obtain rfl:kV=.none:=Dflts.noKw hD;obtain⟨a,vs,ns,rfl,rfl,hobj,hints,hlen⟩:=za7 hn hpre hwl;refine enter_call (codeAny_mono (call w s₀ s₁ mg mb fa o pm cd doc a vs ns G Y ho (fd_plain hd) hcd hmg hobj hints hlen hg) λr s' hq=>?_);obtain⟨rfl,h2,h3,h4⟩:=hq;exact⟨.inl ⟨.bool true,.bool true,[],rfl,λ_=>rfl,.bool true,za6 l _,λ_=>⟨List.Pairwise.nil,λ_ hm=>(nomatch hm)⟩⟩,h2,h3,h4⟩
end Att
namespace L2
open PySem PySem.Spec PyProof.Rows
theorem qak:∀{vs:List Value}{ns:List Int},IntsAre vs ns->Vals (ns.map V.int) vs
 |_,_,.nil=>.nil
 |_,_,.cons n t h=>.cons ⟨t,rfl⟩ (qak h)
noncomputable def Ybj(H:Hp):Prop:=∀ b,H b=none\/∃ o xs,H b=some (.frz o (.lst xs))
theorem ybu{P:Program}{w:World}{K:PySem.W.Frag}{mg mb:Str->Option Value}{CX:CXT}{k:Nat}{fa a:Addr}{fd:FuncData}{x:Str}{sp:Sp}{s₁:Shared}{vs:List Value}{ns:List Int}
  (KX:K.In s₁.heap) (hns:s₁.heap.Ns mainGlobals mg) (hb:s₁.heap.Ns builtinsNs mb) (hbb:∀ x:Str,x≠"__name__"->mb x=bootBuiltins x) (hlim:s₁.heap.NoLimit) (hg:s₁.gens=#[])
  (ha:s₁.heap.get? a=some {cls:=.type "list",data:=.seq vs.toArray}) (hi:IntsAre vs ns) (hl:ns.length<=sizeLine) (hr:Room k callerA)
  (F:∀ base:Heap,K.In base->base.Ns mainGlobals mg->FnOk P w K mg base CX k fa fd [x] sp) (hbind:∀(s:Shared)(u:Value),BindsTo s fd ⟨[u],[]⟩ [(x,u)])
  (hsp:∀ H:Hp,Ybj H->SqL K H a (ns.map V.int)->sp [.ref a] H (λv _=>v=.bl true) λ_ _ _=>False)
  (hCX:∀ H e s',CX [] H s₁ (λ_ _ _=>False) e s'->False) :
  codeAny (model P w) callerA (.call (.ref fa) ⟨[.ref a],[]⟩) (λr s'=>r=.ok (.ret (.bool true))/\OldK s₁.heap s'.heap/\s'.os=s₁.os/\AllBare s'.gens) s₁:=by
 have rv:=qak hi;have lenV:=hi.length
 -- from an abstract heap in which nothing but the script may be tracked
 have core:∀ H:Hp,Ybj H->SqL K H a (ns.map V.int)->HOk P w H s₁.heap->(∀ b,H b≠none->b=a)->(H a≠none->K.lookup a=none) ->
   codeAny (model P w) callerA (.call (.ref fa) ⟨[.ref a],[]⟩) (λr s'=>r=.ok (.ret (.bool true))/\OldK s₁.heap s'.heap/\s'.os=s₁.os/\AllBare s'.gens) s₁:=by
  intro H hO hS hok hA hK;have base_of:∀{b:Addr}{o:Obj},s₁.heap.get? b=some o->H b=none->(Yaw s₁.heap H).get? b=some o:=λe n=>Qbu e n;have noA:∀{b:Addr}{o:Obj}{es:Array DictEntry}{ep:Nat},s₁.heap.get? b=some o->o.data=.dict es ep->H b=none:=λ{b o es ep} e d=>by
   cases q:H b with
   |none=>rfl
   |some u =>
    have e':b=a:=hA b (by rw[q];simp);subst e';rw[ha] at e;cases e;have d':Data.seq vs.toArray _=Data.dict es ep:=d;cases d'
  have nsK:∀{b:Addr}{m:Str->Option Value},s₁.heap.Ns b m->(Yaw s₁.heap H).Ns b m:=λ{b m} ⟨o,es,ep,e,d,r⟩=>⟨o,es,ep,base_of e (noA e d),d,r⟩;have hKb:K.In (Yaw s₁.heap H):=λb o e=>base_of (KX b o e) (by
   cases q:H b with
   |none=>rfl
   |some u =>
    have e':b=a:=hA b (by rw[q];simp);subst e';rw[hK (by rw[q];simp)] at e;cases e)
  have hM:Mod K mg (Yaw s₁.heap H):=⟨hKb,nsK hns,⟨mb,nsK hb,hbb⟩,let ⟨mc,h1,h2⟩:=hlim;⟨mc,nsK h1,h2⟩⟩;have e0:Env0 P w K mg (Yaw s₁.heap H) callerA [] s₁ H:=⟨rfl,hM,λb o e=>QbL e,vm (Za9 _ _),trivial,λb hb=>absurd (show b∈([]:List Addr) from hb) (by simp),hok,.of_eq hg⟩;refine codeAny_mono ((F _ hKb (nsK hns)).run callerA [] s₁ H ⟨[.ref a],[]⟩ [.ref a] [.ref a] _ _ hr e0 (hbind s₁ (.ref a)) (.cons rfl .nil) (hsp H hO hS)) λr s' h=>?_;cases r with
  |error e=>exact(hCX H e s' h).elim
  |ok fl =>
   cases fl with
   |next=>exact False.elim h
   |brk=>exact False.elim h
   |cont=>exact False.elim h
   |ret u =>
    obtain⟨v,H',os,bare,un,hok',r',q⟩:=h;have q':v=.bl true:=q;subst q';obtain rfl:u=Value.bool true:=r';refine⟨rfl,OldK.of_keep λb o e=>?_,os,bare⟩;cases q:H b with
    |none=>exact un.keep b o e q (by intro z;exact absurd (show b∈([]:List Addr) from z) (by simp)) (by simp)
    |some u =>
     rcases hO b with z|⟨ob,xs,z⟩
     ·rw[q] at z;cases z
     ·have z2:=un.frzs b ob _ z;obtain⟨e1,_⟩:=hok b _ z;obtain⟨e2,_⟩:=hok' b _ z2;rw[e] at e1;cases e1;exact e2
 cases hk:K.lookup a with
 |some o =>
  -- the script is one of the module's own objects
  have e:=KX a o hk;rw[ha] at e;cases e;refine core (λ_=>none) (λ_=>.inl rfl) (.inr ⟨_,vs.toArray,_,hk,rfl,rfl,rfl,by rw[Va,lenV];exact hl,by simpa using rv⟩) (λb u z=>by have z':(none:Option HO)=some u:=z;cases z') (λb z=>absurd rfl z) λz=>absurd rfl z
 |none =>
  refine core (λb=>if b=a then some (.frz {cls:=.type "list",data:=.seq vs.toArray} (.lst (ns.map V.int))) else none) (λb=>?_) (.inl (.inr ⟨{cls:=.type "list",data:=.seq vs.toArray},if_pos rfl⟩)) (λb u z=>?_) (λb z=>?_) λ_=>hk
  ·by_cases hb:b=a
   ·exact .inr ⟨_,_,if_pos hb⟩
   ·exact .inl (if_neg hb)
  ·by_cases hb:b=a
   ·have z':=(if_pos hb).symm.trans z;cases z';subst hb;exact⟨ha,by rw[xc];exact hl,vs,_,rv,ha⟩
   ·have z':=(if_neg hb).symm.trans z;cases z'
  ·by_cases hb:b=a
   ·exact hb
   ·exact absurd (if_neg hb) z
theorem walk_of{l:PySem.W.OpenLaw}{n k:Nat}{q:Program}{loose:List Str}{XP:(Str->Option Value)->Heap->Prop}{YP:World->Heap->Prop}{d:DefRec}{K:Params->PySem.W.Frag}{CX:World->CXT}{sp:World->Sp}{x:Str}
  (hn:l.most=some n) (hn2:n<=sizeLine) (hdf:d.params.defaults=[]) (hr:Room k callerA)
  (hY:∀(w:World)(h:Heap),YP w h->(K w.params).In h)
  (F:∀(w:World)(mg:Str->Option Value)(fa:Addr)(h:Heap),(K w.params).In h->h.Ns mainGlobals mg->mg d.name=some (.ref fa) ->
   ∃ fd:FuncData,(∀(s:Shared)(u:Value),BindsTo s fd ⟨[u],[]⟩ [(x,u)]) /\
    ∀ base:Heap,(K w.params).In base->base.Ns mainGlobals mg->FnOk l.prog w (K w.params) mg base (CX w) k fa fd [x] (sp w))
  (hsp:∀(w:World)(H:Hp)(a:Addr)(ns:List Int),ns.length<=n->Ybj H->SqL (K w.params) H a (ns.map V.int)->sp w [.ref a] H (λv _=>v=.bl true) λ_ _ _=>False)
  (hCX:∀(w:World)(H:Hp)(s:Shared)(e:Value)(s':Shared),CX w [] H s (λ_ _ _=>False) e s'->False) :
  PySem.W.WalkO q loose XP YP l.row.toRowW d [] (λf vs=>PySem.call f vs):=by
 refine Att.attach_call hn hdf λw s₀ s₁ mg mb fa o pm cd doc a vs ns G Y ho hd hcd hmg hobj hints hlen hg=>?_;have KX:=hY w _ Y;obtain⟨fd,hb,hF⟩:=F w mg fa _ KX G.T.g hmg;exact ybu KX G.T.g G.T.b G.T.builtins G.T.nolimit hg hobj hints (Xe hlen hn2) hr hF hb (λH hO hS=>hsp w H a ns hlen hO hS) λH e s'=>hCX w H s₁ e s'
noncomputable def qbR(s:Stmt)(j:Nat):Stmt:=match s with
 |.ClassDef _ _ _ body _ _ _ _ _ _ _=>body.getD j (.Pass ⟨0,0,0,0⟩)
 |_=>.Pass ⟨0,0,0,0⟩
noncomputable def Qj(s:Stmt):Arguments:=match s with
 |.FunctionDef _ a _ _ _ _ _ _ _ _=>a
 |_=>{posonlyargs:=[],args:=[],vararg:=none,kwonlyargs:=[],kw_defaults:=[],kwarg:=none,defaults:=[]}
noncomputable def zh(s:Stmt):List Stmt:=match s with
 |.FunctionDef _ _ b _ _ _ _ _ _ _=>b
 |_=>[]
noncomputable def Qb(s:Stmt):Scope:=match s with
 |.FunctionDef _ _ _ _ _ _ sc _ _ _=>sc
 |_=>{kind:=.function,names:=[],isGenerator:=false,isCoroutine:=false}
noncomputable abbrev CX0:CXT:=λ_ _ _ _ _ _=>False
noncomputable abbrev E0:XK:=λ_ _ _=>False
structure Fun (K:PySem.W.Frag) (x qual:Str) (st:Stmt) (f:Addr) (fd:FuncData):Prop where
 ex:∃(oc:Value)(od:Option Addr)(kV doc pm:Value)(an:Option Addr)(cdv ct:Value) (osl:Array (Option Value)),
  fd=Xi x qual (Qj st) (zh st) (Qb st) .none kV doc pm an cdv ct/\K.lookup f=some ⟨oc,od,.func fd,osl⟩/\um K cdv qual=true
 kp:Wh K (.ref f)=true
section
variable {P:Program} {w:World} {K:PySem.W.Frag} {mg:Str->Option Value} {base:Heap}
theorem Fun.binds{x qual:Str}{st:Stmt}{f:Addr}{fd:FuncData}{ps:List Str}(F:Fun K x qual st f fd)
  (h:∀(kV doc pm:Value)(an:Option Addr)(cdv ct:Value)(us:List Value),us.length=ps.length->bindArgs (Xi x qual (Qj st) (zh st) (Qb st) .none kV doc pm an cdv ct) ⟨us,[]⟩=pure (ps.zip us)):Binds K fd ps []:=by
 obtain⟨oc,od,kV,doc,pm,an,cdv,ct,osl,rfl,lk,hcd⟩:=F.ex;exact .all (h kV doc pm an cdv ct)
theorem zaR{x qual:Str}{st:Stmt}{f:Addr}{oc:Value}{od an:Option Addr}{osl:Array (Option Value)}{kV doc pm cdv ct:Value}(l:K.lookup f=some ⟨oc,od,.func (Xi x qual (Qj st) (zh st) (Qb st) .none kV doc pm an cdv ct),osl⟩)
  (c:um K cdv qual=true) (k:Wh K (.ref f)=true):Fun K x qual st f (Xi x qual (Qj st) (zh st) (Qb st) .none kV doc pm an cdv ct):=⟨⟨oc,od,kV,doc,pm,an,cdv,ct,osl,rfl,l,c⟩,k⟩
end
noncomputable def Same(H H':Hp):Prop:=∀ b o,H b=some o->H' b=some o
theorem kV_is{P:Program}{w:World}{k:Key}{u:Value}(r:RelV (kV k) u):(Qk P w).is k u=true:=by
 cases k with
 |inl i=>obtain⟨t,e⟩:=(show ∃ t,u=Value.int i t from r);subst e;exact YaB P w i t
 |inr x=>obtain⟨t,e⟩:=(show ∃ t,u=Value.str x t from r);subst e;exact yaH P w x t
theorem Yam{P:Program}{w:World}:∀{ks:List Key}{us:List Value},Vals (ks.map kV) us->ItemsAre (Qk P w) ks us
 |[],_,r=>by rw[Vm] at r;cases r;exact .nil
 |k::ks,_,r=>by
  rw[Wd] at r;cases r with
  |cons h t=>exact .cons (kV_is h) (Yam t)
section
variable {P:Program} {w:World} {H:Hp} {h:Heap} {a:Addr}
theorem ycc{ks:List Key}(ok:HOk P w H h)(e:H a=some (.tup (ks.map kV))):(tupleKind (Qk P w)).is h ks a:=by
 obtain⟨_,its,r,o,h1,h2,n,h3⟩:=(show ObjOk P w H h a (.tup (ks.map kV)) from ok a _ e);exact⟨o,its.toArray,n,h1,h2,h3,by simpa using Yam r⟩
end
end L2
end
section
namespace M3
open PySem
open Sem (wp)
noncomputable def Qc(env:Env):List (Str×NameKind)->List (Str×Addr)->List (Str×Addr)
 |[],cs=>cs
 |(n,k)::r,cs=>Qc env r (if(k == .free)=true then(n,(env.cells.lookup n).getD 0)::cs else cs)
theorem Q3(env:Env):∀(names:List (Str×NameKind)) (cs:List (Str×Addr)),(∀ y∈names,y.2=.free->∃ c,env.cells.lookup y.1=some c) ->
  (forIn names cs λ(y:Str×NameKind)(r:List (Str×Addr))=>if(y.2 == .free)=true then do let c<-cellOf env y.1;pure (ForInStep.yield ((y.1,c)::r)) else pure (ForInStep.yield r):Sem (List (Str×Addr)))=pure (Qc env names cs)
 |[],cs,_=>rfl
 |(n,k)::r,cs,h=>by
  have ih:=λcs'=>Q3 env r cs' λy hy=>h y (We _ hy);rw[Xk];by_cases hk:(k == .free)=true
  ·obtain⟨c,e⟩:=h (n,k) Uh (by simpa using hk);have e':cellOf env n=pure c:=by unfold cellOf;rw[e]
   show(if(k == .free)=true then _ else _) >>= _=_;rw[if_pos hk];show(cellOf env n >>= λc=>_) >>= _=_;rw[e'];show(forIn r ((n,c)::cs) _:Sem _)=_;rw[ih];show _=pure (Qc env r (if(k == .free)=true then(n,(env.cells.lookup n).getD 0)::cs else cs));rw[if_pos hk,e];rfl
  ·show(if(k == .free)=true then _ else _) >>= _=_;rw[if_neg hk];show(forIn r cs _:Sem _)=_;rw[ih];show _=pure (Qc env r (if(k == .free)=true then(n,(env.cells.lookup n).getD 0)::cs else cs));rw[if_neg hk]
theorem qad{env:Env}{scope:Scope}(h:∀ y∈scope.names,y.2=.free->∃ c,env.cells.lookup y.1=some c):closureFor scope env=pure (Qc env scope.names []):=by
 have q:=Q3 env scope.names [] h;unfold closureFor;have e:∀(t:Sem (List (Str×Addr))),t=pure (Qc env scope.names [])->(t >>= λr=>pure r)=pure (Qc env scope.names []):=λt z=>by rw[z];rfl
 refine e _ (Eq.trans ?_ q)
 congr 1
end M3
end
section
namespace M3
open PySem
open Sem (wp)
section
variable {prog:Program} {w:World} {A:Around} {R:Result->Shared->Prop} {s:Shared}
noncomputable abbrev ybT(ifs:List Expr)(env:Env):Sem Bool:=forIn ifs true λc r=>if r=true then do let ok<-isTrue c env (eval c env);pure (ForInStep.yield ok) else pure (ForInStep.yield r)
theorem zbf{elt target iter:Expr}{ifs:List Expr}{scope:Scope}{pos:Pos}{it acc:Value}{env:Env}(I:Nat->Shared->Prop)
  (turn:∀ n s,I n s->wpAny (model prog w) A (pyNext it) (λr s1=>match r with
   |none=>R (.ok .next) s1
   |some v=>wpAny (model prog w) A (letOwnedTupleGo target it v) (λ_ s2=>wpAny (model prog w) A (assign target env v) (λ_ s3 =>
     wpAny (model prog w) A (ybT ifs env) (λok s4=>if ok=true then wpAny (model prog w) A (eval elt env) (λx s5 =>
       wpAny (model prog w) A (call (.builtin "list.append") [acc,x]) (λ_ s6=>∃ m,m<n/\I m s6) (λ_ _=>False) s5) (λ_ _=>False) s4
      else ∃ m,m<n/\I m s4) (λ_ _=>False) s3) (λ_ _=>False) s2) (λ_ _=>False) s1) (λ_ _=>False) s)
  (n:Nat) (h:I n s):codeAny (model prog w) A (.compLoop (.ListComp elt [⟨target,iter,ifs,0⟩] scope pos) 0 it acc env) R s:=by
 refine codeAny_loop rfl I (λn s hI=>?_) n h;show wpAny _ A ((compTurn (.ListComp elt [⟨target,iter,ifs,0⟩] scope pos) 0 it acc env).onRaise (λx=>do noteFrame x env;theTreesLotGoes x)) _ _ s;refine wpAny_noted ?_;rw[compTurn_list];refine wpAny_bind (wpAny_standAt (wpAny_bind (wpAny_mono (turn n s hI) (λr s1 h1=>?_) λ_ _ z=>z.elim)));cases r with
 |none=>exact wpAny_pure h1
 |some v =>
  refine wpAny_bind (wpAny_mono h1 (λ_ s2 h2=>?_) λ_ _ z=>z.elim);refine wpAny_bind (wpAny_mono h2 (λ_ s3 h3=>wpAny_bind (wpAny_mono h3 (λok s4 h4=>?_) λ_ _ z=>z.elim)) λ_ _ z=>z.elim);cases ok with
  |false=>exact wpAny_pure ⟨rfl,h4⟩
  |true =>
   refine wpAny_bind (wpAny_bind (wpAny_mono h4 (λx s5 h5=>?_) λ_ _ z=>z.elim));exact wpAny_bind (wpAny_mono h5 (λ_ s6 h6=>wpAny_pure (wpAny_pure ⟨rfl,h6⟩)) λ_ _ z=>z.elim)
end
noncomputable abbrev Zo(C t:Addr)(tb:Value):Obj:={cls:=.ref C,data:=.fields #[.ref t,tb,.none,.none,.bool false,.none]}
inductive Tb (h:Heap) (x:Addr):Value->Prop where
 |no:Tb h x .none
 |at {T:Addr} {o:Obj} {ts:Array Value} (ne:T≠x) (ho:h.get? T=some o) (hd:o.data=.fields ts) (h3:ts[3]?=some .none):Tb h x (.ref T)
structure Noted (fs:List Addr) (x:Addr) (tb:Value) (h h':Heap):Prop where
 keep:∀ b o,b∉fs->b≠x->Value.ref b≠tb->h.get? b=some o->h'.get? b=some o
 slot:∀ b o,b∈fs->b≠x->Value.ref b≠tb->h.get? b=some o->∃ sl,h'.get? b=some {o with slots:=sl}
section
variable {M:Model} {A:Around} {E:Value->Shared->Prop} {s:Shared}
theorem YC{base:Heap}{env:Env}{outer:List Env}{L x C t:Addr}{head tb0:Value}{had:Bool}{Q:Unit->Shared->Prop}
  (hfr:A.frames=some (env::outer)) (hl:s.heap.FunFrames base (env::outer)) (hf:env.frame=some L) (he:s.heap.get? x=some (Zo C t tb0))
  (h:∀ h' T,(∀ b o,b∉(env::outer).filterMap (·.frame)->b≠x->s.heap.get? b=some o->h'.get? b=some o) ->
   (∀ b o,b∈(env::outer).filterMap (·.frame)->s.heap.get? b=some o->∃ sl,h'.get? b=some {o with slots:=sl}) ->
   h'.get? x=some (Zo C t (.ref T))->Tb h' x (.ref T)->s.heap.objs.size<=T->Q () {s with heap:=h'}) :
  wpAny M A (do let a<-frameOf env;let pl<-entryPlaceOf L had;let b<-EntryCells.newEntry head a .none (rawInt L) .none pl;setField (.ref x) 1 b) (λ_ s'=>wpAny M A (setFlight (.ref x) none) Q E s') E s:=by
 have hx:x∉(env::outer).filterMap (·.frame):=λhm=>by
  obtain⟨_,o,ho,nf⟩:=hl.mem hm;rw[he] at ho;cases ho;exact nf _ rfl
 refine wpAny_bind (wpAny_frameOf_fun hfr hl hf λh1 k1=>?_);refine wpAny_bind (wpAny_entryPlaceOf λpl hpl=>?_);unfold EntryCells.newEntry newFields;refine wpAny_bind (wpAny_newObj_type ?_ (hpl.sizeOk5 _ _ _ _ _));generalize hcells:([head,Value.ref L,Value.none,rawInt L,Value.none]++(if pl.isEmpty=true then Xa 6 Value.none else pl))=cells;have len:3<cells.length:=by rw[<- hcells];simp only[Xf,Ue,Wp];lia
 have e1:h1.get? x=some (Zo C t tb0):=(k1.2.1 x hx).trans he;have e2:=wa {cls:=.type "traceback",dict:=none,data:=.fields cells.toArray} e1;have neT:x≠h1.objs.size:=wc (va e1);refine wpAny_setField e2 rfl (by simp) ?_;have e3:=xn (Obj.mapFields (·.setIfInBounds 1 (Value.ref h1.objs.size))) e2 (Obj.isFreed_of_fields (Obj.data_mapFields rfl _));have e4:((h1.push {cls:=.type "traceback",dict:=none,data:=.fields cells.toArray}).update x (Obj.mapFields (·.setIfInBounds 1 (Value.ref h1.objs.size)))).get? h1.objs.size=some {cls:=.type "traceback",dict:=none,data:=.fields cells.toArray} :=
  (Ui _ _ neT).trans (Ub h1 rfl)
 unfold setFlight;refine wpAny_bind (wpAny_field e3 (vs:=#[.ref t,.ref h1.objs.size,.none,.none,.bool false,.none]) (x:=.ref h1.objs.size) rfl rfl ?_);rw[if_pos (show(Value.ref h1.objs.size != Value.none)=true from by simp)];refine wpAny_setField e4 rfl (by simpa using len) ?_;have e5:=xn (Obj.mapFields (·.setIfInBounds 3 ((none:Option Addr).elim Value.none λf=>rawInt f))) e4 (Obj.isFreed_of_fields (Obj.data_mapFields rfl _));have sz:h1.objs.size=s.heap.objs.size:=k1.1;have other:∀ b o,b≠x->h1.get? b=some o->(((h1.push {cls:=.type "traceback",dict:=none,data:=.fields cells.toArray}).update x (Obj.mapFields (·.setIfInBounds 1 (Value.ref h1.objs.size)))).update h1.objs.size (Obj.mapFields (·.setIfInBounds 3 ((none:Option Addr).elim Value.none λf=>rawInt f)))).get? b=some o:=λb o nb eb=>by
  rw[Ui _ _ (xl (va eb)),Ui _ _ (Ne.symm nb)];exact wa _ eb
 refine h _ h1.objs.size (λb o hb nb eb=>other b o nb ((k1.2.1 b hb).trans eb)) (λb o hb eb=>?_) ?_ (.at (Ne.symm neT) e5 (Obj.data_mapFields rfl _) ?_) (vm sz.symm)
 ·obtain⟨sl,q⟩:=k1.2.2 b o eb;exact⟨sl,other b _ (λz=>hx (z ▸ hb)) q⟩
 ·rw[Ui _ _ (Ne.symm neT)];exact e3
 ·simp[Array.getElem?_setIfInBounds,len]
theorem qa8{base:Heap}{env:Env}{outer:List Env}{L x C t:Addr}{tb:Value}{Q:Unit->Shared->Prop}
  (hfr:A.frames=some (env::outer)) (hl:s.heap.FunFrames base (env::outer)) (hf:env.frame=some L) (he:s.heap.get? x=some (Zo C t tb)) (ht:Tb s.heap x tb)
  (h:∀ h' T,Noted ((env::outer).filterMap (·.frame)) x tb s.heap h'->h'.get? x=some (Zo C t (.ref T))->Tb h' x (.ref T)->s.heap.objs.size<=T->Q () {s with heap:=h'}) :
  wpAny M A (leaving env (.ref x)) Q E s:=by
 unfold leaving noteFrame;simp only[hf];refine wpAny_bind (wpAny_bind (wpAny_field he rfl (x:=tb) rfl ?_));cases ht with
 |no =>
  rw[if_neg (by decide)];exact YC hfr hl hf he λh' T k1 k2 e1 e2 e3=>h h' T ⟨λb o hb nb _ eb=>k1 b o hb nb eb,λb o hb _ _ eb=>k2 b o hb eb⟩ e1 e2 e3
 |@«at» T o ts ne ho hd h3 =>
  rw[if_pos (show(Value.ref T != Value.none)=true from by simp)];refine wpAny_bind (wpAny_field ho hd h3 ?_);rw[if_neg (show ¬((Value.none==rawInt L)=true) from by simp[rawInt])];refine wpAny_bind (wpAny_setField ho hd (Vk.mp h3).1 ?_);have other:∀ b,b≠T->(s.heap.update T (Obj.mapFields (·.setIfInBounds 3 Value.none))).get? b=s.heap.get? b:=λb nb=>Ui _ _ (Ne.symm nb);have nrec:∀ b o,s.heap.get? b=some o->(∀ vs,o.data≠.fields vs)->b≠T:=λb o eb nf z=>by
   rw[z,ho] at eb;cases eb;exact nf ts hd
  refine YC (s:={s with heap:=s.heap.update T (Obj.mapFields (·.setIfInBounds 3 Value.none))}) hfr (hl.of_keeps λb o eb nf=>⟨o,(other b (nrec b o eb nf)).trans eb,rfl⟩) hf ((other x (Ne.symm ne)).trans he)
   λh' T' k1 k2 e1 e2 e3=>h h' T' ⟨λb o hb nb nt eb=>k1 b o hb nb ((other b λz=>nt (z ▸ rfl)).trans eb),λb o hb _ nt eb=>k2 b o hb ((other b λz=>nt (z ▸ rfl)).trans eb)⟩ e1 e2 ?_
  have e3':(s.heap.update T (Obj.mapFields (·.setIfInBounds 3 Value.none))).objs.size<=T':=e3;rw[UB] at e3';exact e3'
end
end M3
end
section
namespace M3
open PySem
open Sem (wp)
end M3
end
section
namespace M3
open PySem
open Sem (wp)
section
variable {prog:Program} {w:World} {A:Around} {E:Value->Shared->Prop} {s:Shared}
theorem QQ{r l:Addr}{i:Nat}{items:Array Value}{x:Value}{Q:Value->Shared->Prop}(ri:s.heap.IsTupleIter r l i)(hl:s.heap.IsTuple l items)(hx:items[i]?=some x)
  (hQ:∀ h',h'.IsTupleIter r l (i+1)->Heap.SameBut r s.heap h'->Q x {s with heap:=h'}):wpAny (model prog w) A (Builtin.SmallTypes.nextOf (.ref r)) Q E s:=by
 obtain⟨o,ho,hc,hd⟩:=id ri;obtain⟨ol,hol,_,nl,hdl⟩:=hl;unfold Builtin.SmallTypes.nextOf;apply wpAny_bind;refine wpAny_callSpecial?_slot (name:=Str.ofString "__next__") ri.typeIs F.slot_tuple_iterator_next (wpAny_call_entry F.slot_tuple_iterator_next ri.typeIs F.entry_tuple_iterator_next ?_ (F.args_tuple_iterator_next_1 _));show wpAny _ _ (field (.ref r) 0 >>= _) _ _ s;apply wpAny_bind;apply wpAny_field ho hd (x:=.ref l) rfl;show wpAny _ _ (if(Value.ref l==Value.none)=true then _ else _) _ _ s;rw[if_neg (λz:(Value.ref l==Value.none)=true=>absurd z Ug)];show wpAny _ _ (field (.ref r) 1 >>= _) _ _ s;apply wpAny_bind;apply wpAny_field ho hd (x:=.int i 0) rfl;show wpAny _ _ (seqItems? (.ref l) >>= _) _ _ s;apply wpAny_bind;apply wpAny_seqItems hol hdl;simp only[ug,hx];apply wpAny_bind;refine wpAny_setField ho hd (by simp) (wpAny_pure ⟨x,rfl,wpAny_pure (hQ _ ⟨_,xn _ ho (Obj.isFreed_of_fields (Obj.data_mapFields hd _)),(Obj.cls_mapFields ..).trans hc,?_⟩ (Heap.SameBut.update ..))⟩);rw[Obj.data_mapFields hd];simp[rawInt]
theorem yT{r l:Addr}{i:Nat}{items:Array Value}{Q:Value->Shared->Prop}(hh:A.handled=none)(ri:s.heap.IsTupleIter r l i)(hl:s.heap.IsTuple l items)(hx:items[i]?=none)
  (hE:∀ h' e,Heap.ExtBut r s.heap h'->(∃ o,h'.get? e=some o/\o.cls=.type "StopIteration")->E (.ref e) {s with heap:=h'}):wpAny (model prog w) A (Builtin.SmallTypes.nextOf (.ref r)) Q E s:=by
 obtain⟨o,ho,hc,hd⟩:=id ri;obtain⟨ol,hol,_,nl,hdl⟩:=hl;unfold Builtin.SmallTypes.nextOf;apply wpAny_bind;refine wpAny_callSpecial?_slot (name:=Str.ofString "__next__") ri.typeIs F.slot_tuple_iterator_next (wpAny_call_entry F.slot_tuple_iterator_next ri.typeIs F.entry_tuple_iterator_next ?_ (F.args_tuple_iterator_next_1 _));show wpAny _ _ (field (.ref r) 0 >>= _) _ _ s;apply wpAny_bind;apply wpAny_field ho hd (x:=.ref l) rfl;show wpAny _ _ (if(Value.ref l==Value.none)=true then _ else _) _ _ s;rw[if_neg (λz:(Value.ref l==Value.none)=true=>absurd z Ug)];show wpAny _ _ (field (.ref r) 1 >>= _) _ _ s;apply wpAny_bind;apply wpAny_field ho hd (x:=.int i 0) rfl;show wpAny _ _ (seqItems? (.ref l) >>= _) _ _ s;apply wpAny_bind;apply wpAny_seqItems hol hdl;simp only[ug,hx];apply wpAny_bind;apply wpAny_rule;apply wpAny_bind;refine wpAny_setField ho hd (by simp) ?_;show wpAny _ _ (newExc (.type "StopIteration") [] >>= _) _ _ _;apply wpAny_bind;simp only[newExc,newTuple];apply wpAny_bind;refine wpAny_newObj_type ?_ (by size_fits);refine wpAny_bind (m:=firstArgMember _ _) (wpAny_of_eq (a:=Value.none) (by first|rfl|(unfold firstArgMember;rfl)) (wpAny_newObj_type ?_ (by size_fits)));refine wpAny_raiseNew_none (by first|exact hh|(show A.in1.handled=_;exact hh)) (hE _ _ ((((Heap.SameBut.update ..).extBut).push _).push _) ⟨_,Ub _ rfl,rfl⟩)
theorem qaP(hh:A.handled=none)(r l:Addr)(hne:l≠r)(items:Array Value) :
  Draws prog w A r [r,l] items.size (λi v=>items[i]?=some v) (λi h=>h.IsTupleIter r l i/\h.IsTuple l items) where
 live:=λ_ _ st=>let ⟨o,ho,_⟩:=st.1;⟨o,ho⟩
 frame:=λ_ _ _ st hk=>let ⟨⟨o,e,c⟩,⟨u,f,d⟩⟩:=st;⟨⟨o,hk r (by simp) o e,c⟩,⟨u,hk l (by simp) u f,d⟩⟩
 item:=λi s Q E hi st hQ=>QQ st.1 st.2 (x:=items[i]) (by simp[hi]) λh' a b=>hQ _ h' s.toks (by simp[hi]) ⟨a,let ⟨u,f,d⟩:=st.2;⟨u,b.extBut l u hne f,d⟩⟩ b
 done:=λs Q E st hE=>yT hh st.1 st.2 (by simp) hE
structure ZAp (z TI TO i1 i2:Addr) (fp1 fp2:List Addr):Prop where
 tiz:TI≠z
 toz:TO≠z
 tito:TI≠TO
 ti1:TI≠i1
 ti2:TI≠i2
 z1:z∉fp1
 z2:z∉fp2
 t1:TO∉fp1
 t2:TO∉fp2
 m1:i1∈fp1
 m2:i2∈fp2
 a1:i1∉fp2
 a2:i2∉fp1
variable {z TI TO i1 i2:Addr} {fp1 fp2:List Addr} {n1 n2 k:Nat} {P1 P2:Nat->Value->Prop} {S1 S2:Nat->Heap->Prop} {a b:Value}
theorem Zbd{Q:Value->Shared->Prop}(Z:ZAp z TI TO i1 i2 fp1 fp2)(D1:Draws prog w A i1 fp1 n1 P1 S1)(D2:Draws prog w A i2 fp2 n2 P2 S2)(hz:IsZip s.heap z TI TO .none)(hI:IsPair s.heap TI (.ref i1) (.ref i2))(hO:IsPair s.heap TO a b)
  (s1:S1 k s.heap) (s2:S2 k s.heap) (k1:k<n1) (k2:k<n2)
  (hQ:∀ x y h' tk,P1 k x->P2 k y->IsZip h' z TI TO (rawInt s.heap.objs.size)->IsPair h' TO x y->S1 (k+1) h'->S2 (k+1) h'->IsPair h' s.heap.objs.size x y->h'.objs.size=s.heap.objs.size+1 ->
   (∀ c o,c≠z->c≠TO->c≠i1->c≠i2->s.heap.get? c=some o->h'.get? c=some o)->Q (.ref s.heap.objs.size) {s with heap:=h',toks:=tk}) :
  wpAny (model prog w) A (Builtin.«zip.__next__» ⟨[.ref z],[]⟩) (λfin s'=>∃ v,fin=.done (.ret v)/\Q v s') E s:=by
 have iz1:i1≠z:=λe=>Z.z1 (e ▸ Z.m1);have iz2:i2≠z:=λe=>Z.z2 (e ▸ Z.m2);have it1:i1≠TO:=λe=>Z.t1 (e ▸ Z.m1);have it2:i2≠TO:=λe=>Z.t2 (e ▸ Z.m2);have i12:i1≠i2:=λe=>Z.a1 (e ▸ Z.m2);show wpAny _ _ (field (.ref z) 2 >>= _) _ _ _;apply wpAny_bind;apply wpAny_field hz rfl (x:=.bool false) rfl;show wpAny _ _ (field (.ref z) 3 >>= _) _ _ _;apply wpAny_bind;apply wpAny_field hz rfl (x:=.ref TI) rfl;apply wpAny_bind;apply wpAny_seqItems hI rfl;show wpAny _ _ (Builtin.SmallTypes.ownedTupleIsFree (.ref z) >>= _) _ _ _;apply wpAny_bind;unfold Builtin.SmallTypes.ownedTupleIsFree;apply wpAny_bind;apply wpAny_field hz rfl (x:=.none) rfl;apply wpAny_pure;simp only[if_true];apply wpAny_bind;apply wpAny_rule;apply wpAny_bind;apply wpAny_field hz rfl (x:=.ref TO) rfl;apply wpAny_bind;refine wpAny_setField_rec hz (by simp) λh1 y1 g1=>?_;replace y1:IsZip h1 z TI TO .ellipsis:=y1;apply wpAny_bind;simp only[vq,xv,Xk,Um];apply wpAny_bind;apply wpAny_bind;apply wpAny_onRaise;show wpAny _ _ (Builtin.SmallTypes.nextOf (.ref i1) >>= _) _ _ _;apply wpAny_bind;refine D1.item k _ _ _ k1 (D1.frame _ _ _ s1 λc hc o e=>g1.extBut c o (λq=>Z.z1 (q ▸ hc)) e) λx h2 t2 px q2 g2=>wpAny_pure ?_;have o2:IsPair h2 TO a b:=g2.extBut _ _ (Ne.symm it1) (g1.extBut _ _ Z.toz hO);apply wpAny_bind;apply wpAny_seqItems o2 rfl;apply wpAny_bind;refine wpAny_updateSeq_pair o2 λh3 o3 g3=>wpAny_bind (wpAny_letGo (wpAny_pure ?_));replace o3:IsPair h3 TO x b:=o3;apply wpAny_bind;apply wpAny_bind;apply wpAny_onRaise;show wpAny _ _ (Builtin.SmallTypes.nextOf (.ref i2) >>= _) _ _ _;apply wpAny_bind;refine D2.item k _ _ _ k2 (D2.frame _ _ _ s2 λc hc o e=>g3.extBut c o (λq=>Z.t2 (q ▸ hc)) (g2.extBut c o (λq=>Z.a1 (q ▸ hc)) (g1.extBut c o (λq=>Z.z2 (q ▸ hc)) e))) λy h4 t4 py q4 g4=>wpAny_pure ?_;have o4:IsPair h4 TO x b:=g4.extBut _ _ (Ne.symm it2) o3;apply wpAny_bind;apply wpAny_seqItems o4 rfl;apply wpAny_bind;refine wpAny_updateSeq_pair o4 λh5 o5 g5=>wpAny_bind (wpAny_letGo (wpAny_pure (wpAny_pure ?_)));replace o5:IsPair h5 TO x y:=o5;apply wpAny_bind;apply wpAny_seqItems o5 rfl;apply wpAny_bind;refine wpAny_newTuple ?_;have sz:h5.objs.size=s.heap.objs.size:=by rw[g5.1,g4.1,g3.1,g2.1,g1.1]
 have y5:IsZip h5 z TI TO .ellipsis:=g5.extBut _ _ (Ne.symm Z.toz) (g4.extBut _ _ (Ne.symm iz2) (g3.extBut _ _ (Ne.symm Z.toz) (g2.extBut _ _ (Ne.symm iz1) y1)));have c5:∀ c o,c≠z->c≠TO->c≠i1->c≠i2->s.heap.get? c=some o->h5.get? c=some o:=λc o c1 c2 c3 c4 e=>g5.extBut _ _ c2 (g4.extBut _ _ c4 (g3.extBut _ _ c2 (g2.extBut _ _ c3 (g1.extBut _ _ c1 e))));have r1:S1 (k+1) h5:=D1.frame _ _ _ q2 λc hc o e=>g5.extBut c o (λq=>Z.t1 (q ▸ hc)) (g4.extBut c o (λq=>Z.a2 (q ▸ hc)) (g3.extBut c o (λq=>Z.t1 (q ▸ hc)) e));have r2:S2 (k+1) h5:=D2.frame _ _ _ q4 λc hc o e=>g5.extBut c o (λq=>Z.t2 (q ▸ hc)) e;have lz:z<h5.objs.size:=va y5;show wpAny _ _ (Builtin.SmallTypes.ownedTupleHandOut (.ref z) (.ref h5.objs.size) >>= _) _ _ _;apply wpAny_bind;unfold Builtin.SmallTypes.ownedTupleHandOut;have y6:IsZip (h5.push {cls:=.type "tuple",data:=.seq #[x,y]}) z TI TO .ellipsis:=wa _ y5;apply wpAny_bind;refine wpAny_setField_rec y6 (by simp) λh7 y7 g7=>?_;replace y7:IsZip h7 z TI TO (rawInt h5.objs.size):=y7;refine wpAny_setField_rec y7 (by simp) λh8 y8 g8=>?_;replace y8:IsZip h8 z TI TO (rawInt h5.objs.size):=y8;have up:∀ c o,c≠z->h5.get? c=some o->h8.get? c=some o:=λc o c1 e=>g8.extBut _ _ c1 (g7.extBut _ _ c1 (wa _ e));have p8:IsPair h8 h5.objs.size x y:=g8.extBut _ _ (xl lz) (g7.extBut _ _ (xl lz) (Ub _ rfl));have n8:h8.objs.size=h5.objs.size+1:=by rw[g8.1,g7.1,Xg]
 rw[sz] at y8 p8 n8;refine wpAny_pure ⟨_,rfl,?_⟩;show Q (.ref h5.objs.size) _;rw[sz];exact hQ x y h8 t4 px py y8 (up _ _ Z.toz o5) (D1.frame _ _ _ r1 λc hc o e=>up c o (λq=>Z.z1 (q ▸ hc)) e) (D2.frame _ _ _ r2 λc hc o e=>up c o (λq=>Z.z2 (q ▸ hc)) e) p8 n8 λc o c1 c2 c3 c4 e=>up c o c1 (c5 c o c1 c2 c3 c4 e)
theorem ybp{Q:Fin->Shared->Prop}(Z:ZAp z TI TO i1 i2 fp1 fp2)(D1:Draws prog w A i1 fp1 n1 P1 S1)(D2:Draws prog w A i2 fp2 n2 P2 S2)(hz:IsZip s.heap z TI TO .none)(hI:IsPair s.heap TI (.ref i1) (.ref i2))(hO:IsPair s.heap TO a b)
  (s1:S1 k s.heap) (s2:S2 k s.heap) (hk:k=n1\/(k<n1/\k=n2))
  (hE:∀ h' e,(∀ c o,c≠z->c≠TO->c≠i1->c≠i2->s.heap.get? c=some o->h'.get? c=some o)->(∃ o,h'.get? e=some o/\o.cls=.type "StopIteration")->∀ tk,E (.ref e) {s with heap:=h',toks:=tk}) :
  wpAny (model prog w) A (Builtin.«zip.__next__» ⟨[.ref z],[]⟩) Q E s:=by
 have iz1:i1≠z:=λe=>Z.z1 (e ▸ Z.m1);have iz2:i2≠z:=λe=>Z.z2 (e ▸ Z.m2);have it1:i1≠TO:=λe=>Z.t1 (e ▸ Z.m1);have it2:i2≠TO:=λe=>Z.t2 (e ▸ Z.m2);show wpAny _ _ (field (.ref z) 2 >>= _) _ _ _;apply wpAny_bind;apply wpAny_field hz rfl (x:=.bool false) rfl;show wpAny _ _ (field (.ref z) 3 >>= _) _ _ _;apply wpAny_bind;apply wpAny_field hz rfl (x:=.ref TI) rfl;apply wpAny_bind;apply wpAny_seqItems hI rfl;show wpAny _ _ (Builtin.SmallTypes.ownedTupleIsFree (.ref z) >>= _) _ _ _;apply wpAny_bind;unfold Builtin.SmallTypes.ownedTupleIsFree;apply wpAny_bind;apply wpAny_field hz rfl (x:=.none) rfl;apply wpAny_pure;simp only[if_true];apply wpAny_bind;apply wpAny_rule;apply wpAny_bind;apply wpAny_field hz rfl (x:=.ref TO) rfl;apply wpAny_bind;refine wpAny_setField_rec hz (by simp) λh1 y1 g1=>?_;replace y1:IsZip h1 z TI TO .ellipsis:=y1;apply wpAny_bind;simp only[vq,xv,Xk,Um];apply wpAny_bind;apply wpAny_bind;apply wpAny_onRaise;show wpAny _ _ (Builtin.SmallTypes.nextOf (.ref i1) >>= _) _ _ _;apply wpAny_bind;have f1:S1 k h1:=D1.frame _ _ _ s1 λc hc o e=>g1.extBut c o (λq=>Z.z1 (q ▸ hc)) e
 rcases hk with hk|⟨k1,hk⟩
 ·refine D1.done _ _ _ (hk ▸ f1) λh2 e g2 he=>?_;obtain⟨oe,e1,e2⟩:=he;have y2:IsZip h2 z TI TO .ellipsis:=g2 _ _ (Ne.symm iz1) y1;have ez:e≠z:=λq=>by subst q;rw[y2] at e1;cases e1;simp at e2
  exact wpAny_setField_rec y2 (by simp) λh3 _ g3=>hE h3 e (λc o c1 _ c3 _ q=>g3.extBut _ _ c1 (g2 _ _ c3 (g1.extBut _ _ c1 q))) ⟨oe,g3.extBut _ _ ez e1,e2⟩ _
 ·refine D1.item k _ _ _ k1 f1 λx h2 t2 px q2 g2=>wpAny_pure ?_;have o2:IsPair h2 TO a b:=g2.extBut _ _ (Ne.symm it1) (g1.extBut _ _ Z.toz hO);apply wpAny_bind;apply wpAny_seqItems o2 rfl;apply wpAny_bind;refine wpAny_updateSeq_pair o2 λh3 o3 g3=>wpAny_bind (wpAny_letGo (wpAny_pure ?_));apply wpAny_bind;apply wpAny_bind;apply wpAny_onRaise;show wpAny _ _ (Builtin.SmallTypes.nextOf (.ref i2) >>= _) _ _ _;apply wpAny_bind;have f2:S2 k h3:=D2.frame _ _ _ s2 λc hc o e=>g3.extBut c o (λq=>Z.t2 (q ▸ hc)) (g2.extBut c o (λq=>Z.a1 (q ▸ hc)) (g1.extBut c o (λq=>Z.z2 (q ▸ hc)) e));refine D2.done _ _ _ (hk ▸ f2) λh4 e g4 he=>?_;obtain⟨oe,e1,e2⟩:=he;have y4:IsZip h4 z TI TO .ellipsis:=g4 _ _ (Ne.symm iz2) (g3.extBut _ _ (Ne.symm Z.toz) (g2.extBut _ _ (Ne.symm iz1) y1));have ez:e≠z:=λq=>by subst q;rw[y4] at e1;cases e1;simp at e2
  exact wpAny_setField_rec y4 (by simp) λh5 _ g5=>hE h5 e (λc o c1 c2 c3 c4 q=>g5.extBut _ _ c1 (g4 _ _ c4 (g3.extBut _ _ c2 (g2.extBut _ _ c3 (g1.extBut _ _ c1 q))))) ⟨oe,g5.extBut _ _ ez e1,e2⟩ _
end
end M3
end
section
namespace M3
open PySem
open Sem (wp)
noncomputable def SeqIs(h:Heap)(tup:Bool)(l:Addr)(xs:Array Value):Prop:=if tup=true then h.IsTuple l xs else h.IsList l xs
noncomputable def SeqIt(h:Heap)(tup:Bool)(r l:Addr)(k:Nat):Prop:=if tup=true then h.IsTupleIter r l k else h.IsListIter r l k
noncomputable abbrev itO(tup:Bool)(l:Addr):Obj:={cls:=.type (if tup=true then "tuple_iterator" else "list_iterator"),data:=.fields #[.ref l,.int 0 0]}
theorem SeqIs.keeps{h h':Heap}{tup:Bool}{l:Addr}{xs:Array Value}(x:SeqIs h tup l xs)(k:∀ o,h.get? l=some o->h'.get? l=some o):SeqIs h' tup l xs:=by
 cases tup with
 |true=>obtain⟨o,e,c⟩:=(show h.IsTuple l xs from x);exact(show h'.IsTuple l xs from⟨o,k o e,c⟩)
 |false=>exact(show h'.IsList l xs from Heap.IsList.at (show h.IsList l xs from x) k)
theorem SeqIs.lt{h:Heap}{tup:Bool}{l:Addr}{xs:Array Value}(x:SeqIs h tup l xs):l<h.objs.size:=by
 cases tup with
 |true=>obtain⟨o,e,c⟩:=(show h.IsTuple l xs from x);exact va e
 |false=>obtain⟨o,e,c⟩:=(show h.IsList l xs from x);exact va e
theorem SeqIt.keeps{h h':Heap}{tup:Bool}{r l:Addr}{k:Nat}(x:SeqIt h tup r l k)(q:∀ o,h.get? r=some o->h'.get? r=some o):SeqIt h' tup r l k:=by
 cases tup with
 |true=>obtain⟨o,e,c⟩:=(show h.IsTupleIter r l k from x);exact(show h'.IsTupleIter r l k from⟨o,q o e,c⟩)
 |false=>obtain⟨o,e,c⟩:=(show h.IsListIter r l k from x);exact(show h'.IsListIter r l k from⟨o,q o e,c⟩)
theorem SeqIt.new{h:Heap}{tup:Bool}{r l:Addr}(e:h.get? r=some (itO tup l)):SeqIt h tup r l 0:=by
 cases tup with
 |true=>exact(show h.IsTupleIter r l 0 from⟨_,e,rfl,rfl⟩)
 |false=>exact(show h.IsListIter r l 0 from⟨_,e,rfl,rfl⟩)
theorem SeqIt.obj{h:Heap}{tup:Bool}{r l:Addr}{k:Nat}(x:SeqIt h tup r l k):∃ o,h.get? r=some o/\∀ v,o.data≠.cell v:=by
 cases tup with
 |true=>obtain⟨o,e,c,d⟩:=(show h.IsTupleIter r l k from x);exact⟨o,e,λv z=>by rw[d] at z;cases z⟩
 |false=>obtain⟨o,e,c,d⟩:=(show h.IsListIter r l k from x);exact⟨o,e,λv z=>by rw[d] at z;cases z⟩
section
variable {prog:Program} {w:World} {A:Around} {E:Value->Shared->Prop} {s:Shared}
theorem Yv{tup:Bool}{l:Addr}{xs:Array Value}{Q:Value->Shared->Prop}(x:SeqIs s.heap tup l xs)(h:Q (.ref s.heap.objs.size) {s with heap:=s.heap.push (itO tup l)}):wpAny (model prog w) A (pyIter (.ref l)) Q E s:=by
 cases tup with
 |true=>exact wpAny_pyIter_tuple (show s.heap.IsTuple l xs from x) h
 |false=>exact wpAny_pyIter_list (show s.heap.IsList l xs from x) h
theorem qq(hh:A.handled=none)(tup:Bool)(r l:Addr)(hne:l≠r)(items:Array Value) :
  Draws prog w A r [r,l] items.size (λi v=>items[i]?=some v) (λi h=>SeqIt h tup r l i/\SeqIs h tup l items):=by
 cases tup with
 |true=>exact qaP hh r l hne items
 |false=>exact Draws.list hh r l hne items
end
theorem Qa8(b1 b2:Bool)(l1 l2:Addr)(xs ys:Array Value) :
  Meets (Builtin.«zip.__new__» ⟨[.type "zip",.ref l1,.ref l2],[]⟩) (λ_ R s=>SeqIs s.heap b1 l1 xs/\SeqIs s.heap b2 l2 ys /\
   ∀ h5,h5=((((s.heap.push (itO b1 l1)).push (itO b2 l2)).push {cls:=.type "tuple",data:=.seq #[.ref s.heap.objs.size,.ref (s.heap.push (itO b1 l1)).objs.size]}).push {cls:=.type "tuple",data:=.seq #[.none,.none]}).push
    {cls:=.type "zip",data:=.fields #[.none,.bool false,.bool false,.ref ((s.heap.push (itO b1 l1)).push (itO b2 l2)).objs.size,.ref (((s.heap.push (itO b1 l1)).push (itO b2 l2)).push {cls:=.type "tuple",data:=.seq #[.ref s.heap.objs.size,.ref (s.heap.push (itO b1 l1)).objs.size]}).objs.size]} ->
   R (.ok (.ret (.ref ((((s.heap.push (itO b1 l1)).push (itO b2 l2)).push {cls:=.type "tuple",data:=.seq #[.ref s.heap.objs.size,.ref (s.heap.push (itO b1 l1)).objs.size]}).push {cls:=.type "tuple",data:=.seq #[.none,.none]}).objs.size))) {s with heap:=h5}) :=
 .of_wp λprog w A R s h=>by
  obtain⟨hp,g,d,tk,os⟩:=s;obtain⟨x1,x2,h⟩:=h;have hsub:=sub_zip;have y1:SeqIs (Shared.heap ⟨hp,g,d,tk,os⟩) b1 l1 xs:=x1;have y2:SeqIs (Shared.heap ⟨hp.push (itO b1 l1),g,d,tk,os⟩) b2 l2 ys:=SeqIs.keeps x2 λo e=>wa _ e
  wp_walk using Yv y1,Yv y2
  exact⟨_,rfl,h _ rfl⟩
section
variable {prog:Program} {w:World} {A:Around} {E:Value->Shared->Prop} {s:Shared}
theorem YaD{b1 b2:Bool}{l1 l2:Addr}{xs ys:Array Value}{Q:Value->Shared->Prop}(x1:SeqIs s.heap b1 l1 xs)(x2:SeqIs s.heap b2 l2 ys)
  (h:∀ h',IsZip h' (s.heap.objs.size+4) (s.heap.objs.size+2) (s.heap.objs.size+3) .none->IsPair h' (s.heap.objs.size+2) (.ref s.heap.objs.size) (.ref (s.heap.objs.size+1))->IsPair h' (s.heap.objs.size+3) .none .none ->
   SeqIt h' b1 s.heap.objs.size l1 0->SeqIt h' b2 (s.heap.objs.size+1) l2 0->(∀ c o,s.heap.get? c=some o->h'.get? c=some o)->Q (.ref (s.heap.objs.size+4)) {s with heap:=h'}) :
  wpAny (model prog w) A (call (.type "zip") [.ref l1,.ref l2]) Q E s:=by
 refine callType_new F.called_zip (by decide) (F.typeCall_zip_2 _ _) (F.newCall_zip_2 _ _) (λobj=>F.args_object_init_3 obj _ _) F.entry_zip_new (Qa8 b1 b2 l1 l2 xs ys) ⟨x1,x2,λh5 e5=>?_⟩;have n1:(s.heap.push (itO b1 l1)).objs.size=s.heap.objs.size+1:=Xg ..;have n2:((s.heap.push (itO b1 l1)).push (itO b2 l2)).objs.size=s.heap.objs.size+2:=by rw[Xg,n1]
 have n3:(((s.heap.push (itO b1 l1)).push (itO b2 l2)).push {cls:=.type "tuple",data:=.seq #[.ref s.heap.objs.size,.ref (s.heap.push (itO b1 l1)).objs.size]}).objs.size=s.heap.objs.size+3:=by rw[Xg,n2]
 have n4:((((s.heap.push (itO b1 l1)).push (itO b2 l2)).push {cls:=.type "tuple",data:=.seq #[.ref s.heap.objs.size,.ref (s.heap.push (itO b1 l1)).objs.size]}).push {cls:=.type "tuple",data:=.seq #[.none,.none]}).objs.size=s.heap.objs.size+4:=by rw[Xg,n3]
 have q5:IsZip h5 ((((s.heap.push (itO b1 l1)).push (itO b2 l2)).push {cls:=.type "tuple",data:=.seq #[.ref s.heap.objs.size,.ref (s.heap.push (itO b1 l1)).objs.size]}).push {cls:=.type "tuple",data:=.seq #[.none,.none]}).objs.size ((s.heap.push (itO b1 l1)).push (itO b2 l2)).objs.size (((s.heap.push (itO b1 l1)).push (itO b2 l2)).push {cls:=.type "tuple",data:=.seq #[.ref s.heap.objs.size,.ref (s.heap.push (itO b1 l1)).objs.size]}).objs.size .none:=by rw[e5];exact Ub _ rfl
 have q4:IsPair h5 (((s.heap.push (itO b1 l1)).push (itO b2 l2)).push {cls:=.type "tuple",data:=.seq #[.ref s.heap.objs.size,.ref (s.heap.push (itO b1 l1)).objs.size]}).objs.size .none .none:=by rw[e5];exact wa _ (Ub _ rfl)
 have q3:IsPair h5 ((s.heap.push (itO b1 l1)).push (itO b2 l2)).objs.size (.ref s.heap.objs.size) (.ref (s.heap.push (itO b1 l1)).objs.size):=by rw[e5];exact wa _ (wa _ (Ub _ rfl))
 have q2:h5.get? (s.heap.push (itO b1 l1)).objs.size=some (itO b2 l2):=by rw[e5];exact wa _ (wa _ (wa _ (Ub _ rfl)))
 have q1:h5.get? s.heap.objs.size=some (itO b1 l1):=by rw[e5];exact wa _ (wa _ (wa _ (wa _ (Ub _ rfl))))
 show _/\_;rw[n2,n3,n4] at q5;rw[n2,n1] at q3;rw[n3] at q4;rw[n1] at q2;rw[n4];exact⟨⟨_,q5,rfl⟩,h _ q5 q3 q4 (.new q1) (.new q2) λc o e=>by rw[e5];exact wa _ (wa _ (wa _ (wa _ (wa _ e))))⟩
variable {z TI TO i1 i2:Addr} {fp1 fp2:List Addr} {n1 n2 k:Nat} {P1 P2:Nat->Value->Prop} {S1 S2:Nat->Heap->Prop} {a b:Value}
theorem YE{Q:Option Value->Shared->Prop}(Z:ZAp z TI TO i1 i2 fp1 fp2)(D1:Draws prog w A.in1 i1 fp1 n1 P1 S1)(D2:Draws prog w A.in1 i2 fp2 n2 P2 S2)(hz:IsZip s.heap z TI TO .none)(hI:IsPair s.heap TI (.ref i1) (.ref i2))(hO:IsPair s.heap TO a b)
  (s1:S1 k s.heap) (s2:S2 k s.heap) (k1:k<n1) (k2:k<n2)
  (hQ:∀ x y h' tk,P1 k x->P2 k y->IsZip h' z TI TO (rawInt s.heap.objs.size)->IsPair h' TO x y->S1 (k+1) h'->S2 (k+1) h'->IsPair h' s.heap.objs.size x y->h'.objs.size=s.heap.objs.size+1 ->
   (∀ c o,c≠z->c≠TO->c≠i1->c≠i2->s.heap.get? c=some o->h'.get? c=some o)->Q (some (.ref s.heap.objs.size)) {s with heap:=h',toks:=tk}) :
  wpAny (model prog w) A (pyNext (.ref z)) Q E s:=by
 have ty:s.TypeIs (.ref z) "zip":=⟨_,hz,rfl⟩;unfold pyNext;refine wpAny_bind (wpAny_attempt (wpAny_callSpecial?_slot (name:=Str.ofString "__next__") ty F.slot_zip_next (wpAny_call_entry F.slot_zip_next ty F.entry_zip_next ?_ (F.args_zip_next_1 _))));exact Zbd Z D1 D2 hz hI hO s1 s2 k1 k2 λx y h' tk p1 p2 e1 e2 e3 e4 e5 e6 e7=>wpAny_pure (hQ x y h' tk p1 p2 e1 e2 e3 e4 e5 e6 e7)
theorem yG{Q:Option Value->Shared->Prop}(Z:ZAp z TI TO i1 i2 fp1 fp2)(D1:Draws prog w A.in1 i1 fp1 n1 P1 S1)(D2:Draws prog w A.in1 i2 fp2 n2 P2 S2)(hz:IsZip s.heap z TI TO .none)(hI:IsPair s.heap TI (.ref i1) (.ref i2))(hO:IsPair s.heap TO a b)
  (s1:S1 k s.heap) (s2:S2 k s.heap) (hk:k=n1\/(k<n1/\k=n2))
  (hQ:∀ h' tk,(∀ c o,c≠z->c≠TO->c≠i1->c≠i2->s.heap.get? c=some o->h'.get? c=some o)->Q none {s with heap:=h',toks:=tk}) :
  wpAny (model prog w) A (pyNext (.ref z)) Q E s:=by
 have ty:s.TypeIs (.ref z) "zip":=⟨_,hz,rfl⟩;unfold pyNext;refine wpAny_bind (wpAny_attempt (wpAny_callSpecial?_slot (name:=Str.ofString "__next__") ty F.slot_zip_next (wpAny_call_entry F.slot_zip_next ty F.entry_zip_next ?_ (F.args_zip_next_1 _))));refine ybp Z D1 D2 hz hI hO s1 s2 hk λh' e kk ho tk=>?_;obtain⟨o,e1,e2⟩:=ho;exact wpAny_bind (wpAny_isInstance (T:="StopIteration") (b:=true) ⟨o,e1,e2⟩ isSubtype_stop (wpAny_pure (hQ h' tk kk)))
end
end M3
end
section
namespace M3
open PySem
open Sem (wp)
end M3
end
section
namespace L3
open PySem PySem.Spec PyProof.Rows L2 M3
section
variable {X:Cx} {pins:List (Addr×Obj)} {σ:L2.St} {H:Hp} {s:Shared}
theorem zal{P:Program}{w:World}{h:Heap}{D:Addr}{o:HO}(ok:HOk P w H h)(hn:H D=none)(new:ObjOk P w (upd H D o) h D o):HOk P w (upd H D o) h:=λb u e=>by
 by_cases hb:b=D
 ·subst hb;rw[Qf] at e;cases e;exact new
 ·rw[Yb hb] at e;exact(ok b u e).stay (λ_ _ _ q=>q) (λc q=>by rw[Yb (Yc q hn)];exact q) λc xs q=>by rw[Yb (Yc q hn)];exact q
theorem qS{D:Addr}{o:HO}(I:Inv X pins σ H s)(f:QE X pins H D)(h0:X.s₀.heap.objs.size<=D)(new:ObjOk X.prog X.w (upd H D o) s.heap D o):Inv X pins σ (upd H D o) s:=by
 obtain⟨f0,f1,f2,f3,f4,f5⟩:=f;refine⟨I.ok,I.os,I.bare,⟨I.base.keep,I.base.slot,λb u e n hx=>?_,I.base.there,λb xs e=>?_,λb u xs e=>?_,λb ps e=>?_⟩,I.loc,I.cell,?_,λx c e=>?_,λp hp=>?_,zal I.hok f0 new,I.len⟩
 ·rw[Yb (wc (Vb (va e) h0))];exact I.base.free b u e n hx
 ·have q:=I.base.tups b xs e;rw[Yb (Yc q f0)];exact q
 ·have q:=I.base.frzs b u xs e;rw[Yb (Yc q f0)];exact q
 ·obtain⟨m,q⟩:=I.base.tbls b ps e;exact⟨m,by rw[Yb (Yc q f0)];exact q⟩
 ·rw[Yb (Ne.symm f1)];exact I.free
 ·rw[Yb (f4 x c e)];exact I.freeC x c e
 ·obtain⟨e1,e2,e3,e4,e5⟩:=I.pin p hp;exact⟨e1,by rw[Yb (f5 p hp)];exact e2,e3,e4,e5⟩
end
noncomputable def Yt(sc:Scope)(N:List Str)(cs:Scope)(N':List Str)(ncv:Nat)(js:List Nat):Bool :=
 cs.kind == .function&&cs.names.all (λy=>y.2 != .cell||cs.names.lookup y.1==some .cell)&&cs.names.all (λy=>y.2 != .free||(sc.names.lookup y.1==some .cell||sc.names.lookup y.1==some .free)) &&
 cs.names.all (λy=>y.2 != .local||cs.names.lookup y.1==some .local)&&(N'.drop ncv).all (λx=>cs.names.lookup x==some .free)&&decide ((N'.drop ncv).map some=js.map (λj=>N[j]?))&&decide (ncv<=N'.length)
structure CompOk (sc:Scope) (N:List Str) (cs:Scope) (N':List Str) (ncv:Nat) (js:List Nat):Prop where
 kind:cs.kind=.function
 cel:∀ y∈cs.names,y.2=.cell->cs.names.lookup y.1=some .cell
 free:∀ y∈cs.names,y.2=.free->sc.names.lookup y.1=some .cell\/sc.names.lookup y.1=some .free
 locs:∀ y∈cs.names,y.2=.local->cs.names.lookup y.1=some .local
 frees:∀ x∈N'.drop ncv,cs.names.lookup x=some .free
 at_:(N'.drop ncv).map some=js.map (λj=>N[j]?)
 ncv:ncv<=N'.length
theorem CompOk.of{sc:Scope}{N:List Str}{cs:Scope}{N':List Str}{ncv:Nat}{js:List Nat}(h:Yt sc N cs N' ncv js=true):CompOk sc N cs N' ncv js:=by
 simp only[Yt,Wa,xh,decide_eq_true_eq,xj,beq_iff_eq,bne_iff_ne,ne_eq] at h;obtain⟨⟨⟨⟨⟨⟨h1,h2⟩,h3⟩,h4⟩,h5⟩,h6⟩,h7⟩:=h;exact⟨h1,λy hy e=>(h2 y hy).resolve_left λz=>z e,λy hy e=>(h3 y hy).resolve_left λz=>z e,λy hy e=>(h4 y hy).resolve_left λz=>z e,h5,h6,h7⟩
theorem zw{names:List (Str×NameKind)}{x:Str}{k:NameKind}(h:names.lookup x=some k):(x,k)∈names:=PySem.mem_of_lookup h
theorem YQ{env:Env}:∀{names:List (Str×NameKind)} {x:Str},
  ((names.map λ(n,k)=>if(k==NameKind.free&&env.scope.kind == .function&&env.kindOf n==some .cell) then(n,NameKind.cell) else(n,k)).lookup x=some .cell \/
   (names.map λ(n,k)=>if(k==NameKind.free&&env.scope.kind == .function&&env.kindOf n==some .cell) then(n,NameKind.cell) else(n,k)).lookup x=some .free)->names.lookup x=some .free\/names.lookup x=some .cell
 |[],_,h=>by simp at h
 |(n,k)::r,x,h=>by
  have ih:=@YQ env r x;rw[Wd] at h;by_cases hb:(k==NameKind.free&&env.scope.kind == .function&&env.kindOf n==some .cell)=true
  ·have hkf:k=.free:=by
    simp only[Wa,beq_iff_eq] at hb;exact hb.1.1
   simp only[hb,if_true] at h;cases hx:x==n with
   |true=>simp only[Xb,hx];rw[hkf];exact .inl rfl
   |false =>
    simp only[Xb,hx] at h ⊢;exact ih h
  ·simp only[hb,Vd,if_false] at h;cases hx:x==n with
   |true =>
    simp only[Xb,hx] at h ⊢;exact h.symm
   |false =>
    simp only[Xb,hx] at h ⊢;exact ih h
theorem yE{env:Env}:∀{names:List (Str×NameKind)} {x:Str},names.lookup x=some .free ->
  ((names.map λ(n,k)=>if(k==NameKind.free&&env.scope.kind == .function&&env.kindOf n==some .cell) then(n,NameKind.cell) else(n,k)).lookup x=some .cell \/
   (names.map λ(n,k)=>if(k==NameKind.free&&env.scope.kind == .function&&env.kindOf n==some .cell) then(n,NameKind.cell) else(n,k)).lookup x=some .free)
 |[],_,h=>by simp at h
 |(n,k)::r,x,h=>by
  have ih:=@yE env r x;rw[Wd];cases hx:x==n with
  |true =>
   simp only[Xb,hx] at h;cases h;by_cases hb:((NameKind.free:NameKind)==NameKind.free&&env.scope.kind == .function&&env.kindOf n==some .cell)=true
   ·simp only[hb,if_true,Xb,hx];simp
   ·simp only[hb,Vd,if_false,Xb,hx];simp
  |false =>
   simp only[Xb,hx] at h;by_cases hb:(k==NameKind.free&&env.scope.kind == .function&&env.kindOf n==some .cell)=true
   ·simp only[hb,if_true,Xb,hx];exact ih h
   ·simp only[hb,Vd,if_false,Xb,hx];exact ih h
theorem Qo{env:Env}:∀(names:List (Str×NameKind)) (cs:List (Str×Addr)) {x:Str} {c:Addr},(∀ y∈names,y.2=.free->∃ c,env.cells.lookup y.1=some c)->(∀ x c,cs.lookup x=some c->env.cells.lookup x=some c) ->
  (Qc env names cs).lookup x=some c->env.cells.lookup x=some c
 |[],cs,x,c,_,hcs,h=>hcs x c h
 |(n,k)::r,cs,x,c,hn,hcs,h=>by
  refine Qo r _ (λy hy=>hn y (We _ hy)) (λx' c' h'=>?_) h;by_cases hk:(k == .free)=true
  ·rw[if_pos hk] at h';obtain⟨c0,e0⟩:=hn (n,k) Uh (by simpa using hk);cases hx:x'==n with
   |true =>
    simp only[Xb,hx] at h';cases h';rw[beq_iff_eq.mp hx,e0];rfl
   |false =>
    simp only[Xb,hx] at h';exact hcs x' c' h'
  ·rw[if_neg hk] at h';exact hcs x' c' h'
theorem YG{env:Env}:∀(names:List (Str×NameKind)) (cs:List (Str×Addr)) {x:Str},(∃ c,cs.lookup x=some c)->∃ c,(Qc env names cs).lookup x=some c
 |[],cs,x,h=>h
 |(n,k)::r,cs,x,h=>by
  refine YG r _ ?_;by_cases hk:(k == .free)=true
  ·rw[if_pos hk];cases hx:x==n with
   |true=>exact⟨(env.cells.lookup n).getD 0,by simp only[Xb,hx]⟩
   |false =>
    obtain⟨c,e⟩:=h;exact⟨c,by simp only[Xb,hx];exact e⟩
  ·rw[if_neg hk];exact h
theorem Yy{env:Env}:∀(names:List (Str×NameKind)) (cs:List (Str×Addr)) {x:Str},(x,NameKind.free)∈names->∃ c,(Qc env names cs).lookup x=some c
 |[],_,_,h=>nomatch h
 |(n,k)::r,cs,x,h=>by
  rcases Ua.mp h with e|h
  ·cases e;refine YG r _ ?_;rw[if_pos (by decide)];exact⟨(env.cells.lookup n).getD 0,by simp only[Xb,beq_self_eq_true]⟩
  ·exact Yy r _ h
theorem zap:∀(names:List (Str×NameKind)) (n n0:Nat) (acc:List (Str×Addr)) {x:Str},n0<=n->(∃ c,acc.lookup x=some c/\n0<=c)->∃ c,(cellsFrom n names acc).lookup x=some c/\n0<=c
 |[],_,_,_,_,_,h=>h
 |(y,k)::r,n,n0,acc,x,hn,h=>by
  unfold cellsFrom;split
  ·refine zap r (n+1) n0 _ (by lia) ?_;cases hx:x==y with
   |true=>exact⟨n,by simp only[Xb,hx],hn⟩
   |false =>
    obtain⟨c,e,l⟩:=h;exact⟨c,by simp only[Xb,hx];exact e,l⟩
  ·exact zap r n n0 acc hn h
theorem zao:∀(names:List (Str×NameKind)) (n:Nat) (acc:List (Str×Addr)) {x:Str},(x,NameKind.cell)∈names->∃ c,(cellsFrom n names acc).lookup x=some c/\n<=c
 |[],_,_,_,h=>nomatch h
 |(y,k)::r,n,acc,x,h=>by
  unfold cellsFrom
  rcases Ua.mp h with e|h
  ·cases e;rw[if_pos (by decide)];exact zap r (n+1) n _ (by lia) ⟨n,by simp only[Xb,beq_self_eq_true],wb _⟩
  ·split
   ·obtain⟨c,e,l⟩:=zao r (n+1) ((y,n)::acc) h;exact⟨c,e,by lia⟩
   ·exact zao r n acc h
theorem YN:∀(names:List (Str×NameKind)) (n:Nat) (acc:List (Str×Addr)) {x:Str},(x,NameKind.cell)∉names->(cellsFrom n names acc).lookup x=acc.lookup x
 |[],_,_,_,_=>rfl
 |(y,k)::r,n,acc,x,h=>by
  unfold cellsFrom;split
  ·rename_i hk;rw[YN r (n+1) _ λz=>h (We _ z)];have:(x==y)=false:=by
    rw[beq_eq_false_iff_ne];intro e;subst e;have:k=.cell:=by simpa using hk
    subst this;exact h Uh
   simp only[Xb,this]
  ·exact YN r n acc λz=>h (We _ z)
theorem ZO:∀(names:List (Str×NameKind)) (n:Nat) (acc:List (Str×Addr)) {x:Str} {c:Addr},(cellsFrom n names acc).lookup x=some c->acc.lookup x=some c\/n<=c
 |[],_,_,_,_,h=>.inl h
 |(y,k)::r,n,acc,x,c,h=>by
  unfold cellsFrom at h;split at h
  ·rcases ZO r (n+1) _ h with e|e
   ·cases hx:x==y with
    |true=>simp only[Xb,hx] at e;cases e;exact .inr (wb _)
    |false=>simp only[Xb,hx] at e;exact .inl e
   ·exact .inr (by lia)
  ·exact ZO r n acc h
theorem ZaO:∀(names:List (Str×NameKind)) (n:Nat) (acc:List (Str×Addr)),(∀ x c,acc.lookup x=some c->c<n)->(∀ x y c,acc.lookup x=some c->acc.lookup y=some c->x=y) ->
  ∀ x y c,(cellsFrom n names acc).lookup x=some c->(cellsFrom n names acc).lookup y=some c->x=y
 |[],_,_,_,hi=>hi
 |(z,k)::r,n,acc,hb,hi=>by
  unfold cellsFrom;split
  ·refine ZaO r (n+1) _ (λx c e=>?_) λx y c e1 e2=>?_
   ·cases hx:x==z with
    |true=>simp only[Xb,hx] at e;cases e;exact xm _
    |false=>simp only[Xb,hx] at e;exact Xq (hb x c e)
   ·cases hx:x==z with
    |true =>
     simp only[Xb,hx] at e1;cases e1;cases hy:y==z with
     |true=>rw[beq_iff_eq.mp hx,beq_iff_eq.mp hy]
     |false=>simp only[Xb,hy] at e2;exact absurd (hb y _ e2) (Xj _)
    |false =>
     simp only[Xb,hx] at e1;cases hy:y==z with
     |true=>simp only[Xb,hy] at e2;cases e2;exact absurd (hb x _ e1) (Xj _)
     |false=>simp only[Xb,hy] at e2;exact hi x y c e1 e2
  ·exact ZaO r n acc hb hi
theorem Qap:∀(names:List (Str×NameKind)) (h:Heap) (acc:List (Str×Addr)),(∀ x c,acc.lookup x=some c->∃ v,h.IsCell c v)->∀ x c,(cellsFrom h.objs.size names acc).lookup x=some c->∃ v,(pushCells h names).IsCell c v
 |[],_,_,hc=>hc
 |(y,k)::r,h,acc,hc=>by
  unfold cellsFrom pushCells;split
  ·have:=Qap r (h.push {cls:=.type "cell",data:=.cell none}) ((y,h.objs.size)::acc) λx c e=>by
    cases hx:x==y with
    |true=>simp only[Xb,hx] at e;cases e;exact⟨none,_,Ub _ rfl,rfl⟩
    |false =>
     simp only[Xb,hx] at e;obtain⟨v,q⟩:=hc x c e;exact⟨v,q.keeps λb o e=>wa _ e⟩
   rwa [Xg] at this
  ·exact Qap r h acc hc
theorem qag{M:Model}{A:Around}{E:Value->Shared->Prop}{s:Shared}{scope:Scope}{globals:Addr}{closure:List (Str×Addr)}{qual:Str}{func:Option Addr}{code:Value}{env:Env}{builtins:Addr}{Q:Env->Shared->Prop}
  (hQ:∀ h',h'.Ns s.heap.objs.size (λ_=>none)->(∀ b o,s.heap.get? b=some o->h'.get? b=some o) ->
   ((∀ x c,closure.lookup x=some c->∃ v,s.heap.IsCell c v)->∀ x c,(cellsFrom (s.heap.objs.size+1) scope.names closure).lookup x=some c->∃ v,h'.IsCell c v) ->
   Q (newEnv scope s.heap.objs.size globals (cellsFrom (s.heap.objs.size+1) scope.names closure) qual func code (some env) builtins) {s with heap:=h'}) :
  wpAny M A (newFunctionEnv scope globals closure [] qual func code (some env) builtins) Q E s:=by
 simp only[newFunctionEnv,Option.isSome_some,if_true];refine wpAny_bind (wpAny_alloc ?_);refine wpAny_bind (wpAny_layCells _ (λname kind cells=>by cases hkc:kind==NameKind.cell <;> simp[hkc]) _ _ _ _ ?_);rw[show({s with heap:=s.heap.push {cls:=.type "dict",data:=.dict #[]}}:Shared).heap.objs.size=s.heap.objs.size+1 from Xg ..];refine wpAny_bind (wpAny_pure (wpAny_pure (hQ _ ?_ ?_ ?_)))
 ·exact(Heap.Ns.new s.heap (.type "dict")).keeps (pushCells_keeps _ _)
 ·exactλb o e=>pushCells_keeps _ _ b o (wa _ e)
 ·intro hc;have:=Qap scope.names (s.heap.push {cls:=.type "dict",data:=.dict #[]}) closure λx c e=>let ⟨v,q⟩:=hc x c e;⟨v,q.keeps λb o e=>wa _ e⟩
  rwa [Xg] at this
noncomputable def cxC(X:Cx)(cs:Scope)(N':List Str)(C:Addr)(s3:Shared)(H:Hp)(ex:List Addr):Cx :=
 {X with N:=N',s₀:=s3,H₀:=H,env:=compEnvC cs (cellsFrom (C+1) cs.names (Qc X.env cs.names [])) C X.env,outer:=X.stack,stack:=X.stack,ex:=ex,fn:=λx=>cs.names.lookup x==some .cell,xe:=λ_ _=>False}
noncomputable def stC(ncv:Nat)(js:List Nat)(σ:L2.St):L2.St:=Xa ncv none++js.map λj=>(σ[j]?).join
section
variable {X:Cx} {pins:List (Addr×Obj)} {σ:L2.St} {H:Hp} {s3:Shared}
theorem ZaP{cs:Scope}{N':List Str}{ncv:Nat}{js:List Nat}{ex:List Addr}{h1:Heap}{tk:Nat}(I:Inv X pins σ H s3)(ok:CompOk X.env.scope X.N cs N' ncv js)(hex:∀ b∈ex,QE X pins H b/\b<s3.heap.objs.size)
  (hns:h1.Ns s3.heap.objs.size λ_=>none) (hk:∀ b o,s3.heap.get? b=some o->h1.get? b=some o)
  (hcl:(∀ x c,(Qc X.env cs.names []).lookup x=some c->∃ v,s3.heap.IsCell c v)->∀ x c,(cellsFrom (s3.heap.objs.size+1) cs.names (Qc X.env cs.names [])).lookup x=some c->∃ v,h1.IsCell c v) :
  Inv (cxC X cs N' s3.heap.objs.size s3 H ex) [] (stC ncv js σ) H {s3 with heap:=h1,toks:=tk}:=by
 have hfc:∀ y∈cs.names,y.2=.free->∃ c,X.env.cells.lookup y.1=some c:=λy hy e=>I.ok.has y.1 (ok.free y hy e);have lk:∀{x c},(Qc X.env cs.names []).lookup x=some c->X.env.cells.lookup x=some c:=λ{x c} h=>Qo cs.names [] hfc (λ_ _ z=>by simp at z) h;have clt:∀{x c},X.env.cells.lookup x=some c->c<s3.heap.objs.size:=λ{x c} e=>let ⟨v,q⟩:=I.cell x c e;q.lt;have cl2:=hcl λx c e=>I.cell x c (lk e);have spl:∀{x c},(cellsFrom (s3.heap.objs.size+1) cs.names (Qc X.env cs.names [])).lookup x=some c->X.env.cells.lookup x=some c\/s3.heap.objs.size+1<=c:=λ{x c} e=>(ZO cs.names _ _ e).imp lk id;have nown:∀{x},cs.names.lookup x=some .free->(x,NameKind.cell)∉cs.names:=λ{x} e z=>by have:=ok.cel _ z rfl;rw[e] at this;cases this
 refine⟨⟨I.ok.mod,ok.kind,I.ok.glob,I.ok.blt,wb _,λx y c e1 e2=>ZaO cs.names _ _ (λx c e=>Xq (clt (lk e))) (λx y c e1 e2=>I.ok.inj x y c (lk e1) (lk e2)) x y c e1 e2,λx hx=>?_,λx c z e=>?_,I.ok.hd,I.ok.frames,.inl rfl,λb hb=>?_,I.bs,Xe I.ok.bsz I.sz,λb o e hb=>?_,λb hb=>?_,I.stack,I.stkFree⟩,
  rfl,I.bare,Un.kept hk,⟨_,hns,λi x v e1 e2 e3=>?_⟩,λx c e=>cl2 x c e,I.hok.fresh (wb _),λx c e=>(spl e).elim (λq=>I.freeC x c q) λq=>I.hok.fresh (by lia),λp hp=>?_,I.hok.kept hk,?_⟩
 ·rcases YQ hx with hx|hx
  ·rw[show ∀ n,(cxC X cs N' s3.heap.objs.size s3 H ex).env.cells.lookup x=(cellsFrom (s3.heap.objs.size+1) cs.names (Qc X.env cs.names [])).lookup x fromλ_=>rfl]
   ·rw[YN _ _ _ (nown hx)];exact Yy cs.names [] (zw hx)
   ·exact 0
  ·obtain⟨c,e,_⟩:=zao cs.names (s3.heap.objs.size+1) (Qc X.env cs.names []) (zw hx);exact⟨c,e⟩
 ·have z':cs.names.lookup x=some .cell:=by simpa using(show(cs.names.lookup x==some .cell)=true from z)
  obtain⟨c',e',l⟩:=zao cs.names (s3.heap.objs.size+1) (Qc X.env cs.names []) (zw z');have:c=c':=by
   have e2:(cellsFrom (s3.heap.objs.size+1) cs.names (Qc X.env cs.names [])).lookup x=some c:=e;rw[e'] at e2;exact(Option.some.inj e2).symm
  rw[this];exact Nat.le_of_succ_le l
 ·obtain⟨⟨_,_,_,_,f4,_⟩,lt⟩:=hex b hb;refine⟨wc lt,λx c e=>?_⟩
  rcases spl e with q|q
  ·exact f4 x c q
  ·exact xl (Xv lt q)
 ·obtain⟨⟨_,_,_,f3,_,_⟩,_⟩:=hex b hb
  rcases f3 with f3|f3
  ·exact I.ok.noex b o e f3
  ·exact absurd (Vb (va e) (Xe I.ok.bsz f3)) (Xj _)
 ·obtain⟨⟨_,f1,f2,_,_,_⟩,_⟩:=hex b hb;intro z
  rcases Ua.mp (I.stkSub b z) with e|e
  ·exact f1 e
  ·exact f2 e
 ·-- a name around, by its cell
  have hi:¬ i<ncv:=λhi=>by
   unfold stC at e2;rw[xb (by simpa using hi),Uo,if_pos hi] at e2;cases e2
  have ex1:(N'.drop ncv)[i-ncv]?=some x:=by
   rw[xx];have q:ncv+(i-ncv)=i:=by lia
   rw[q];exact e1
  have hfree:=ok.frees x (uh ex1);have eN:(js.map λj=>X.N[j]?)[i-ncv]?=some (some x):=by rw[<- ok.at_,Vc,ex1];rfl
  unfold stC at e2;rw[uc (by simpa using uu hi),Wn,Vc] at e2;rw[Vc] at eN;cases ej:js[i-ncv]? with
  |none=>rw[ej] at e2;cases e2
  |some j =>
   rw[ej] at e2 eN;have e2':(σ[j]?).join=some v:=Option.some.inj e2;have eN':X.N[j]?=some x:=Option.some.inj eN;have eσ:σ[j]?=some (some v):=by
    cases q:σ[j]? with
    |none=>rw[q] at e2';cases e2'
    |some u=>rw[q] at e2';exact congrArg some e2'
   have hvis:X.env.scope.names.lookup x=some .cell\/X.env.scope.names.lookup x=some .free:=ok.free (x,.free) (zw hfree) rfl;obtain⟨m,hn,hl⟩:=I.loc;obtain⟨u,r,l⟩:=hl j x v eN' eσ (.inr hvis);refine⟨u,r,.inr ⟨yE hfree,?_⟩⟩
   rcases l with ⟨k,_⟩|⟨_,c,ec,z⟩
   ·rcases hvis with q|q
    ·rw[show X.env.kindOf x=X.env.scope.names.lookup x from rfl,q] at k;cases k
    ·rw[show X.env.kindOf x=X.env.scope.names.lookup x from rfl,q] at k;cases k
   ·obtain⟨c',ec'⟩:=Yy (env:=X.env) cs.names [] (zw hfree);have:=lk ec';rw[ec] at this;cases this;obtain⟨o,ho,hd⟩:=z;refine⟨c,?_,o,hk c o ho,hd⟩;show(cellsFrom (s3.heap.objs.size+1) cs.names (Qc X.env cs.names [])).lookup x=some c;rw[YN _ _ _ (nown hfree)];exact ec'
 ·have hp':p∈X.pn:=by
   have hp1:p∈X.pn++[]:=hp;rw[Xs] at hp1;exact hp1
  obtain⟨e1,e2,e3,e4,e5⟩:=I.pin p (Wf _ hp');refine⟨hk _ _ e1,e2,wc (va e1),λz=>?_,e5⟩
  rcases Ua.mp (I.stkSub p.1 z) with e|e
  ·exact e3 e
  ·exact e4 e
 ·have q:=congrArg Vp ok.at_;rw[xc,xc,Xu] at q;unfold stC;show _=N'.length;rw[Xf,Wn,xc];have:=ok.ncv
  lia
end
section
variable {X:Cx}
noncomputable def PIf(X:Cx)(ifs:List Expr)(t:TT):Prop:=∀(pins:List (Addr×Obj)) (s:Shared) (σ:L2.St) (H:Hp) (Q:Bool->Hp->Prop),Inv X pins σ H s->t σ H Q->wpAny (model X.prog X.w) X.A (ybT ifs X.env) (TP X pins σ Q) X.xe s
noncomputable def tYes:TT:=λ_ H Q=>Q true H
theorem qbK:PIf X [] tYes:=λpins s σ H Q I h=>wpAny_tests_nil ⟨H,I,h⟩
theorem YbP{c:Expr}{t:TT}(h:PT X c t):PIf X [c] t:=λpins s σ H Q I hw=>wpAny_tests_one (h pins s σ H Q I hw)
noncomputable def CompW(J:It)(ncv:Nat)(js:List Nat)(g:TG)(tc:TT)(te:TE)(σ:L2.St)(H:Hp)(Q:VK):Prop :=
 ∃ W:Nat->Nat->List V->L2.St->Hp->Prop,(∃ m,W 0 m [] (stC ncv js σ) H)/\∀ i m acc σ' H',W i m acc σ' H' ->
  (J.stop i H'/\∀ D,H' D=none->Q (.ref D) (upd H' D (.lst acc))) \/
  (J.go i H'/\∀ x H2,J.yld i H' x H2->g x σ' H2 λσ2 H3=>tc σ2 H3 λb H4 =>
   if b=true then te σ2 H4 λy H5=>acc.length<sizeLine/\∃ m',m'<m/\W (i+1) m' (acc++[y]) σ2 H5 else ∃ m',m'<m/\W (i+1) m' acc σ2 H4)
noncomputable def qbr(wi:TI)(ncv:Nat)(js:List Nat)(g:TG)(tc:TT)(te:TE):TE:=λσ H Q=>wi σ H λJ H1=>CompW J ncv js g tc te σ H1 Q
theorem Qi{Y:Cx}{pins:List (Addr×Obj)}{σ:L2.St}{H:Hp}{s:Shared}{b:Addr}{o:Obj}(I:Inv Y pins σ H s)(h:(b,o)∈pins):s.heap.get? b=some o/\H b=none :=
 let z:=I.pin (b,o) (Xd _ h);⟨z.1,z.2.1⟩
noncomputable def YbT(X:Cx)(J:It)(fp:List Addr)(it:Addr)(tn:Nat->Heap->Prop):Prop :=
 ∀(Y:Cx),Y.prog=X.prog->Y.w=X.w->Y.K=X.K->Y.calm=X.calm->Y.A=X.A->Y.pn=X.pn->∀(i:Nat)(pins:List (Addr×Obj)) (s:Shared) (σ:L2.St) (H:Hp) (E:Value->Shared->Prop),Inv Y pins σ H s->(∀ b∈fp,QE Y pins H b)->tn i s.heap->J.stop i H ->
  wpAny (model X.prog X.w) X.A (pyNext (.ref it)) (λr s1=>r=none/\Inv Y pins σ H s1) E s
noncomputable def QbU(X:Cx)(tg:Expr)(J:It)(fp:List Addr)(it:Addr)(tn:Nat->Heap->Prop):Prop :=
 ∀(Y:Cx),Y.prog=X.prog->Y.w=X.w->Y.K=X.K->Y.calm=X.calm->Y.A=X.A->∀(i:Nat)(pins:List (Addr×Obj)) (s:Shared) (σ:L2.St) (H:Hp) (E:Value->Shared->Prop),Inv Y pins σ H s->(∀ b∈fp,QE Y pins H b)->tn i s.heap->J.go i H ->
  wpAny (model X.prog X.w) X.A (pyNext (.ref it)) (λr s1=>∃ u,r=some u /\
   wpAny (model X.prog X.w) X.A (letOwnedTupleGo tg (.ref it) u) (λ_ s2=>∃ x H',Inv Y pins σ H' s2/\RelV x u/\J.yld i H x H'/\tn (i+1) s2.heap/\∀ b∈fp,H' b=none) E s1) E s
theorem Qab{elt iter tg:Expr}{ifs:List Expr}{cs:Scope}{pos:Pos}{N':List Str}{ncv:Nat}{js:List Nat}{g:TG}{tc:TT}{te:TE}{pins:List (Addr×Obj)}{σ:L2.St}{H2:Hp}{s2:Shared}{it:Addr}{fp:List Addr}{tn:Nat->Heap->Prop}{J:It}{Q:VK}
  {RR:Value->Addr->Result->Shared->Prop} {E:Value->Shared->Prop}
  (ok:CompOk X.env.scope X.N cs N' ncv js) (hg:∀ C s3 H ex,PG (cxC X cs N' C s3 H ex) tg g) (hif:∀ C s3 H ex,PIf (cxC X cs N' C s3 H ex) ifs tc) (helt:∀ C s3 H ex,PE (cxC X cs N' C s3 H ex) elt te)
  (I2:Inv X pins σ H2 s2) (mem:it∈fp) (obj:∀ i h,tn i h->∀ b∈fp,∃ o,h.get? b=some o/\∀ v,o.data≠.cell v) (keep:∀ i h h',tn i h->(∀ b∈fp,∀ o,h.get? b=some o->h'.get? b=some o)->tn i h')
  (item:QbU X tg J fp it tn) (done:YbT X J fp it tn) (self:∀(A:Around)(i:Nat)(s:Shared)(Q:Value->Shared->Prop)(E:Value->Shared->Prop),tn i s.heap->Q (.ref it) s->wpAny (model X.prog X.w) A (pyIter (.ref it)) Q E s)
  (st2:tn 0 s2.heap) (f2:∀ b∈fp,QE X pins H2 b) (W:Nat->Nat->List V->L2.St->Hp->Prop) (w0:∃ m,W 0 m [] (stC ncv js σ) H2)
  (turn:∀ i m acc σ' H',W i m acc σ' H'->(J.stop i H'/\∀ D,H' D=none->Q (.ref D) (upd H' D (.lst acc))) \/
   (J.go i H'/\∀ x H2,J.yld i H' x H2->g x σ' H2 λσ2 H3=>tc σ2 H3 λb H4 =>
    if b=true then te σ2 H4 λy H5=>acc.length<sizeLine/\∃ m',m'<m/\W (i+1) m' (acc++[y]) σ2 H5 else ∃ m',m'<m/\W (i+1) m' acc σ2 H4))
  (fin:∀(D C:Addr)(acc:List V)(H':Hp)(s6:Shared),Inv X pins σ (upd H' D (.lst acc)) s6->QE X pins (upd H' D (.lst acc)) C->X.s₀.heap.objs.size<=C->(∃ m,s6.heap.Ns C m)->Q (.ref D) (upd H' D (.lst acc))->RR (.ref D) C (.ok .next) s6) :
  wpAny (model X.prog X.w) X.A (newList []) (λacc s3=>wpAny (model X.prog X.w) X.A (newFunctionEnv cs X.env.globals (Qc X.env cs.names []) [] X.env.qual none .none (some X.env)) (λcenv s4 =>
   codeAny (model X.prog X.w) X.A (.compStart (.ListComp elt [⟨tg,iter,ifs,0⟩] cs pos) 0 (.ref it) acc {cenv with scope:=relabel cs X.env}) (RR acc cenv.locals) s4) E s3) E s2:=by
 refine wpAny_newObj_type (qag λh1 hns hup hcl=>?_);obtain⟨s3,es3⟩:∃ s3:Shared,s3={s2 with heap:=s2.heap.push {cls:=.type "list",dict:=none,data:=.seq ([]:List Value).toArray}}:=⟨_,rfl⟩;have I3:Inv X pins σ H2 s3:=by rw[es3];exact I2.kept (t':=s2.toks) λb o e=>wa _ e
 have sz3:s3.heap.objs.size=s2.heap.objs.size+1:=by rw[es3];exact Xg ..
 have gD3:s3.heap.get? s2.heap.objs.size=some {cls:=.type "list",dict:=none,data:=.seq ([]:List Value).toArray}:=by rw[es3];exact Ub _ rfl
 have up3:∀ b o,s2.heap.get? b=some o->s3.heap.get? b=some o:=λb o e=>by rw[es3];exact wa _ e
 have es4:∀ tk,({s2 with heap:=h1,toks:=tk}:Shared)={s3 with heap:=h1,toks:=tk}:=λtk=>by rw[es3]
 have hns':h1.Ns s3.heap.objs.size λ_=>none:=by rw[es3];exact hns
 have up4:∀ b o,s3.heap.get? b=some o->h1.get? b=some o:=by rw[es3];exact hup
 have hcl':(∀ x c,(Qc X.env cs.names []).lookup x=some c->∃ v,s3.heap.IsCell c v)->∀ x c,(cellsFrom (s3.heap.objs.size+1) cs.names (Qc X.env cs.names [])).lookup x=some c->∃ v,h1.IsCell c v:=by rw[es3];exact hcl
 generalize hD:s2.heap.objs.size=D at *;have fD:QE X pins H2 D:=I2.fpOk (vm hD) (I2.hok.fresh (vm hD));have szD:X.s₀.heap.objs.size<=D:=hD ▸ I2.sz;have ltf:∀ b∈fp,b<D:=λb hb=>let ⟨o,e,_⟩:=obj 0 _ st2 b hb;hD ▸ va e;have hex:∀ b∈D::fp,QE X pins H2 b/\b<s3.heap.objs.size:=λb hb=>by
  rcases Ua.mp hb with e|hb
  ·subst e;exact⟨fD,by rw[sz3];exact xm _⟩
  ·exact⟨f2 b hb,by rw[sz3];exact Xq (ltf b hb)⟩
 obtain⟨C,hC⟩:∃ C,C=s3.heap.objs.size:=⟨_,rfl⟩;have I4:∀ tk,Inv (cxC X cs N' C s3 H2 (D::fp)) [] (stC ncv js σ) H2 {s3 with heap:=h1,toks:=tk}:=λtk=>by rw[hC];exact ZaP I3 ok hex hns' up4 hcl'
 have DC:D≠C:=by rw[hC,sz3];exact wc (xm _)
 -- the iterator's objects, and the list, in the block
 have fpY:∀{pl:List (Addr×Obj)} {H':Hp} {b:Addr},b∈D::fp->H' b=none->(∀ p∈pl,p.1≠b)->QE (cxC X cs N' C s3 H2 (D::fp)) pl H' b:=λ{pl H' b} hb hn hp=>by
  obtain⟨⟨g0,g1,g2,g3,g4,g5⟩,lt⟩:=hex b hb;refine⟨hn,hC ▸ wc lt,λz=>?_,.inl hb,λx c e=>?_,λp hp'=>?_⟩
  ·rcases Ua.mp (I3.stkSub b z) with e|e
   ·exact g1 e
   ·exact g2 e
  ·rcases ZO cs.names _ _ e with q|q
   ·exact g4 x c (Qo cs.names [] (λy hy e=>I3.ok.has y.1 (ok.free y hy e)) (λ_ _ z=>by simp at z) q)
   ·exact xl (Xv (hC ▸ lt) q)
  ·rcases xg.mp hp' with z|z
   ·exact g5 p (Wf _ z)
   ·exact hp p z
 have lp:∀ tk,codeAny (model X.prog X.w) X.A (.compLoop (.ListComp elt [⟨tg,iter,ifs,0⟩] cs pos) 0 (.ref it) (.ref D) (cxC X cs N' C s3 H2 (D::fp)).env) (RR (.ref D) C) {s3 with heap:=h1,toks:=tk}:=λtk=>by
  obtain⟨m0,w0⟩:=w0;refine zbf (λn s=>∃ i acc ys k σ' H',Inv (cxC X cs N' C s3 H2 (D::fp)) [] σ' H' s/\tn i s.heap/\(∀ b∈fp,H' b=none)/\H' D=none/\s.heap.get? D=some {cls:=.type "list",data:=.seq ys k}/\Vals acc ys.toList/\acc.length<=sizeLine/\W i n acc σ' H') ?_ m0
   ⟨0,[],#[],0,_,_,I4 tk,keep _ _ _ st2 λb hb o e=>up4 b o (up3 b o e),λb hb=>(f2 b hb).1,fD.1,up4 _ _ gD3,.nil,Uk _,w0⟩
  rintro n s5 ⟨i,acc,ys,k,σ5,H5,I5,t5,n5,d5,g5,v5,l5,w5⟩;have I5p:=I5.pinned (fp:=[D]) (λb hb=>by obtain rfl:=Uc.mp hb;exact fpY Uh d5 λp hp=>nomatch hp) (λb hb=>by obtain rfl:=Uc.mp hb;exact⟨_,g5,λv z=>nomatch z⟩);have hpin:qR [D] s5.heap=[(D,{cls:=.type "list",data:=.seq ys k})]:=by simp[qR,g5]
  rw[hpin,wg] at I5p;have fpp:∀ b∈fp,QE (cxC X cs N' C s3 H2 (D::fp)) [(D,{cls:=.type "list",data:=.seq ys k})] H5 b:=λb hb=>fpY (We _ hb) (n5 b hb) λp hp=>by
   obtain rfl:=Uc.mp hp;exact xl (ltf b hb)
  rcases turn i n acc σ5 H5 w5 with ⟨stop,qf⟩|⟨go,step⟩
  ·refine thn (done (cxC X cs N' C s3 H2 (D::fp)) rfl rfl rfl rfl rfl rfl i _ s5 σ5 H5 _ I5p fpp t5 stop) λr s6 ⟨hr,I6⟩=>?_;subst hr;obtain⟨g6,d6⟩:=Qi I6 (Uc.mpr rfl);have IX:Inv X pins σ H5 s6:=I3.call' (ch:=D::fp) I6.os I6.base I6.hok I6.bare λb hb=>by
    obtain⟨⟨_,e1,_,e3,e4,e5⟩,_⟩:=hex b hb;exact⟨e3,e1,e4,e5⟩
   obtain⟨_,e1,e2,e3,e4,e5⟩:=fD;have IXD:=qS (o:=.lst acc) IX ⟨d6,e1,e2,e3,e4,e5⟩ szD ⟨l5,ys.toList,k,v5,by simpa using g6⟩;have fC:QE X pins (upd H5 D (.lst acc)) C:=by
    have hn:(upd H5 D (.lst acc)) C=none:=by rw[Yb (Ne.symm DC)];exact I6.free
    have z:=I3.fpOk (b:=C) (vm hC.symm) (I3.hok.fresh (vm hC.symm));exact⟨hn,z.2⟩
   obtain⟨m,hm,_⟩:=I6.loc;exact fin D C acc H5 s6 IXD fC (Xe szD (by rw[hC,sz3];exact Ut _)) ⟨m,hm⟩ (qf D d6)
  ·refine thn (item (cxC X cs N' C s3 H2 (D::fp)) rfl rfl rfl rfl rfl i _ s5 σ5 H5 _ I5p fpp t5 go) λr s6 ⟨u,hr,h6⟩=>?_;subst hr;refine thn h6 λ_ s7 ⟨x,H7,I7,r7,y7,t7,n7⟩=>?_;obtain⟨g7,d7⟩:=Qi I7 (Uc.mpr rfl);have I7p:=I7.pinned (fp:=fp) (λb hb=>fpY (We _ hb) (n7 b hb) λp hp=>by obtain rfl:=Uc.mp hp;exact xl (ltf b hb)) (obj _ _ t7);refine thn (hg _ _ _ _ _ s7 σ5 H7 x u _ I7p r7 (step x H7 y7)) λ_ s8 ⟨σ8,H8,I8,q8⟩=>?_;refine thn (hif _ _ _ _ _ s8 σ8 H8 _ I8 q8) λb s9 ⟨H9,I9,q9⟩=>?_;cases b with
   |false =>
    rw[if_neg Ug] at q9 ⊢;obtain⟨m',hm,w9⟩:=q9;obtain⟨g9,d9⟩:=Qi I9 (Wf _ (Uc.mpr rfl));refine⟨m',hm,i+1,acc,ys,k,σ8,H9,I9.pins_of (λp hp=>nomatch hp),keep _ _ _ t7 λb hb o e=>(Qi I9 (Xd _ (Ql hb e))).1,λb hb=>?_,d9,g9,v5,l5,w9⟩;obtain⟨o,e,_⟩:=obj _ _ t7 b hb;exact(Qi I9 (Xd _ (Ql hb e))).2
   |true =>
    rw[if_pos rfl] at q9 ⊢;refine thn (helt _ _ _ _ _ s9 σ8 H9 _ I9 q9) λyv s10 ⟨y,H10,I10,r10,lt,m',hm,w10⟩=>?_;obtain⟨g10,d10⟩:=Qi I10 (Wf _ (Uc.mpr rfl));have t10:tn (i+1) s10.heap:=keep _ _ _ t7 λb hb o e=>(Qi I10 (Xd _ (Ql hb e))).1;have n10:∀ b∈fp,H10 b=none:=λb hb=>by
     obtain⟨o,e,_⟩:=obj _ _ t7 b hb;exact(Qi I10 (Xd _ (Ql hb e))).2
    have I10':Inv (cxC X cs N' C s3 H2 (D::fp)) [] σ8 H10 s10:=I10.pins_of λp hp=>nomatch hp;have lys:ys.size=acc.length:=by have:=v5.length;simp at this;lia
    refine wpAny_list_append_plain (hsz:=by lia) (show s10.heap.PlainList D ys from⟨k,g10⟩) λh11 p11 sb11=>?_;obtain⟨_,a1,a2,a3,a4,a5⟩:=fpY (pl:=[]) (H':=H10) (b:=D) Uh d10 λp hp=>nomatch hp;obtain⟨k11,g11⟩:=p11;refine⟨m',hm,i+1,acc++[y],ys.push yv,k11,σ8,H10,I10'.turned (t':=s10.toks) (it:=D) (λb o hb e=>(sb11.2 b hb).trans e) d10 a1 a3 a4 a5,keep _ _ _ t10 λb hb o e=>(sb11.2 b (wc (ltf b hb))).trans e,n10,d10,g11,?_,by rw[Xf,WC];exact lt,w10⟩;rw[Vn];exact v5.append (.cons r10 .nil)
 have R1:∀ tk,codeAny (model X.prog X.w) X.A (.compStart (.ListComp elt [⟨tg,iter,ifs,0⟩] cs pos) 0 (.ref it) (.ref D) (cxC X cs N' C s3 H2 (D::fp)).env) (RR (.ref D) C) {s3 with heap:=h1,toks:=tk}:=λtk =>
  codeAny_compStart_list (lp tk) (self _ 0 _ _ _ (keep _ _ _ st2 λb hb o e=>up4 b o (up3 b o e)) (lp tk))
 have R2:=R1 s2.toks;rw[<- es4] at R2;subst hD;rw[hC,es3] at R2;exact R2
end
section
variable {X:Cx} {pins:List (Addr×Obj)} {σ:L2.St} {H:Hp} {s:Shared} {h':Heap}
theorem Zn{t':Nat}{ch:List Addr}(I:Inv X pins σ H s)(f:∀ b∈ch,QE X pins H b)(k:∀ b o,b∉ch->s.heap.get? b=some o->h'.get? b=some o):Inv X pins σ H {s with heap:=h',toks:=t'}:=by
 have nt:∀ b u,H b=some u->b∉ch:=λb u e z=>by
  have q:=(f b z).1;rw[e] at q;cases q
 refine I.step (g':=s.gens) (d':=s.drawn) (ch:=ch) (λb hb=>?_) (λb o _ _ hc e _=>k b o hc e) (λb o _ _ hc e _=>⟨o.slots,k b o hc e⟩) (λ_ _ _ _ n=>n) (λb o hc e=>⟨o,k b o hc e⟩) (λ_ _ e=>e) (λ_ _ _ e=>e) (λb ps e=>⟨#[],by rw[e];simp⟩) (λm hm=>?_) (λb u e=>?_) I.bare
 ·obtain⟨_,f1,f2,f3,f4,f5⟩:=f b hb;exact⟨f3,f1,f4,f5⟩
 ·obtain⟨o,es,ep,ho,r⟩:=hm;exact⟨o,es,ep,k _ o (λz=>(f _ z).2.1 rfl) ho,r⟩
 ·refine(I.hok b u e).stay (λc v hc q=>k c v ?_ q) (λ_ q=>q) λ_ _ q=>q
  rcases hc with z|z
  ·rw[z];exact nt b u e
  ·exact nt c _ z
noncomputable def SqS(K:PySem.W.Frag)(H:Hp)(b:Bool)(a:Addr)(xs:List V):Prop:=if b=true then SqT K H a xs else SqL K H a xs
theorem qi{b:Bool}{a:Addr}{xs:List V}(I:Inv X pins σ H s)(h:SqS X.K H b a xs):∃ its:List Value,Vals xs its/\SeqIs s.heap b a its.toArray/\xs.length<=sizeLine:=by
 cases b with
 |false=>obtain⟨its,r,p,z⟩:=I.list (show SqL X.K H a xs from h);exact⟨its,r,p.isList,z⟩
 |true=>obtain⟨its,r,p,z⟩:=I.tuple (show SqT X.K H a xs from h);exact⟨its,r,p,z⟩
theorem Yx{b:Bool}{a:Addr}{xs ys:List V}(I:Inv X pins σ H s)(h:SqS X.K H b a xs)(h':SqS X.K H b a ys):xs=ys:=by
 cases b with
 |false=>exact I.list_inj (show SqL X.K H a xs from h) h'
 |true=>exact I.tuple_inj (show SqT X.K H a xs from h) h'
noncomputable def Itz(K:PySem.W.Frag)(b1 b2:Bool)(a1 a2:Addr):It :=
 ⟨λi H=>∃ xs ys,SqS K H b1 a1 xs/\SqS K H b2 a2 ys/\i<xs.length/\i<ys.length,
 λi H x H'=>∃ T x1 y1,x=.ref T/\H T=none/\H'=upd H T (.tup [x1,y1])/\(∀ xs,SqS K H b1 a1 xs->xs[i]?=some x1)/\(∀ ys,SqS K H b2 a2 ys->ys[i]?=some y1),
 λi H=>∃ xs ys,SqS K H b1 a1 xs/\SqS K H b2 a2 ys/\(i=xs.length\/(i<xs.length/\i=ys.length))⟩
theorem yf{A:Around}(h:A.handled=none):A.in1.handled=none:=h
theorem Qbm{P:Program}{w:World}{K:PySem.W.Frag}{es:List Expr}{kt:Nat}{pt:Pos}{b1 b2:Bool}{a1 a2 z TI TO i1 i2:Addr}(Z:∀ m,(∀ a∈[a1,a2],a<m)->(∀ a∈[z,TI,TO,i1,i2],m<=a)->ZAp z TI TO i1 i2 [i1,a1] [i2,a2])
  (m:Nat) (h1:∀ a∈[a1,a2],a<m) (h2:∀ a∈[z,TI,TO,i1,i2],m<=a) :
  Turn P w K (.Tuple es kt pt) (Itz K b1 b2 a1 a2) [z,TI,TO,i1,i2] z (λi h=>IsZip h z TI TO .none/\IsPair h TI (.ref i1) (.ref i2)/\(∃ a b,IsPair h TO a b)/\SeqIt h b1 i1 a1 i/\SeqIt h b2 i2 a2 i) where
 mem:=by simp
 obj:=λi h ⟨e1,e2,⟨a,b,e3⟩,e4,e5⟩ c hc=>by
  simp only[Ua,Xc,or_false] at hc
  rcases hc with rfl|rfl|rfl|rfl|rfl
  ·exact⟨_,e1,λv q=>nomatch q⟩
  ·exact⟨_,e2,λv q=>nomatch q⟩
  ·exact⟨_,e3,λv q=>nomatch q⟩
  ·exact e4.obj
  ·exact e5.obj
 keep:=λi h h' ⟨e1,e2,⟨a,b,e3⟩,e4,e5⟩ k=>⟨k z (by simp) _ e1,k TI (by simp) _ e2,⟨a,b,k TO (by simp) _ e3⟩,e4.keeps λo e=>k i1 (by simp) o e,e5.keeps λo e=>k i2 (by simp) o e⟩
 item:=by
  intro X hP hw hK hc i pins s σ H E I hf ⟨e1,e2,⟨a,b,e3⟩,e4,e5⟩ hg;subst hP hw hK;obtain⟨xs,ys,q1,q2,l1,l2⟩:=hg;obtain⟨its1,v1,p1,_⟩:=qi I q1;obtain⟨its2,v2,p2,_⟩:=qi I q2;have ZZ:=Z m h1 h2;have n1:a1≠i1:=wc (Vb (h1 a1 (by simp)) (h2 i1 (by simp)));have n2:a2≠i2:=wc (Vb (h1 a2 (by simp)) (h2 i2 (by simp)));have D1:=qq (prog:=X.prog) (w:=X.w) (yf (I.ok.hd hc)) b1 i1 a1 n1 its1.toArray;have D2:=qq (prog:=X.prog) (w:=X.w) (yf (I.ok.hd hc)) b2 i2 a2 n2 its2.toArray;have hl1:=v1.length;have hl2:=v2.length;refine YE ZZ D1 D2 e1 e2 e3 ⟨e4,p1⟩ ⟨e5,p2⟩ (by simp;lia) (by simp;lia) λx y g tk px py f1 f2 f3 f4 f5 f6 f7=>⟨_,rfl,?_⟩;refine wpAny_letOwnedTupleGo_zip (s:={s with heap:=g,toks:=tk}) f1 λg' f8 f9=>?_;obtain⟨x1,hx1⟩:∃ x1,xs[i]?=some x1:=⟨xs[i],by simp[l1]⟩;obtain⟨y1,hy1⟩:∃ y1,ys[i]?=some y1:=⟨ys[i],by simp[l2]⟩;obtain⟨u1,hu1,r1⟩:=v1.get hx1;obtain⟨u2,hu2,r2⟩:=v2.get hy1;have ex:x=u1:=by have z:its1.toArray[i]?=some x:=px;simp[hu1] at z;exact z.symm
  have ey:y=u2:=by have z:its2.toArray[i]?=some y:=py;simp[hu2] at z;exact z.symm
  subst ex ey;have zlt:z≠s.heap.objs.size:=wc (va e1);have I1:Inv X pins σ H {s with heap:=g',toks:=tk}:=Zn (ch:=[z,TI,TO,i1,i2]) I hf λc o hc' e=>by
   simp only[Ua,Xc,or_false,not_or] at hc';exact(f9.2 c hc'.1).trans (f7 c o hc'.1 hc'.2.2.1 hc'.2.2.2.1 hc'.2.2.2.2 e)
  have fT:=I.fpOk (b:=s.heap.objs.size) (wb _) (I.hok.fresh (wb _));have gT:g'.get? s.heap.objs.size=some {cls:=.type "tuple",data:=.seq #[x,y]}:=(f9.2 _ (Ne.symm zlt)).trans f5;have I2:Inv X pins σ (upd H s.heap.objs.size (.tup [x1,y1])) {s with heap:=g',toks:=tk}:=qS I1 fT I.sz ⟨by show 2<=sizeLine;decide,[x,y],.cons r1 (.cons r2 .nil),⟨_,gT,rfl,_,rfl⟩⟩;have kz:∀ c∈[TI,TO,i1,i2],c≠z:=λc hc'=>by
   simp only[Ua,Xc,or_false] at hc'
   rcases hc' with rfl|rfl|rfl|rfl
   ·exact ZZ.tiz
   ·exact ZZ.toz
   ·exactλq=>ZZ.z1 (q ▸ ZZ.m1)
   ·exactλq=>ZZ.z2 (q ▸ ZZ.m2)
  refine⟨.ref s.heap.objs.size,_,I2,rfl,⟨_,x1,y1,rfl,fT.1,rfl,λzs hz=>by rw[Yx I hz q1];exact hx1,λzs hz=>by rw[Yx I hz q2];exact hy1⟩,
   ⟨f8,(f9.2 TI (kz TI (by simp))).trans (f7 TI _ ZZ.tiz ZZ.tito ZZ.ti1 ZZ.ti2 e2),⟨x,y,(f9.2 TO (kz TO (by simp))).trans f2⟩,f3.1.keeps λo e=>(f9.2 i1 (kz i1 (by simp))).trans e,f4.1.keeps λo e=>(f9.2 i2 (kz i2 (by simp))).trans e⟩,λc hc'=>?_⟩
  have lt:c<s.heap.objs.size:=by
   simp only[Ua,Xc,or_false] at hc'
   rcases hc' with rfl|rfl|rfl|rfl|rfl
   ·exact va e1
   ·exact va e2
   ·exact va e3
   ·exact let ⟨o,e,_⟩:=e4.obj;va e
   ·exact let ⟨o,e,_⟩:=e5.obj;va e
  rw[Yb (wc lt)];exact(hf c hc').1
 done:=by
  intro X hP hw hK hc i pins s σ H E I hf ⟨e1,e2,⟨a,b,e3⟩,e4,e5⟩ hg;subst hP hw hK;obtain⟨xs,ys,q1,q2,hk⟩:=hg;obtain⟨its1,v1,p1,_⟩:=qi I q1;obtain⟨its2,v2,p2,_⟩:=qi I q2;have ZZ:=Z m h1 h2;have n1:a1≠i1:=wc (Vb (h1 a1 (by simp)) (h2 i1 (by simp)));have n2:a2≠i2:=wc (Vb (h1 a2 (by simp)) (h2 i2 (by simp)));have D1:=qq (prog:=X.prog) (w:=X.w) (yf (I.ok.hd hc)) b1 i1 a1 n1 its1.toArray;have D2:=qq (prog:=X.prog) (w:=X.w) (yf (I.ok.hd hc)) b2 i2 a2 n2 its2.toArray;have hl1:=v1.length;have hl2:=v2.length;refine yG ZZ D1 D2 e1 e2 e3 ⟨e4,p1⟩ ⟨e5,p2⟩ (by simp;lia) λg tk k=>⟨rfl,?_⟩;exact Zn (ch:=[z,TI,TO,i1,i2]) I hf λc o hc' e=>by
   simp only[Ua,Xc,or_false,not_or] at hc';exact k c o hc'.1 hc'.2.2.1 hc'.2.2.2.1 hc'.2.2.2.2 e
 self:=λ_ _ _ _ _ st h=>wpAny_pyIter_zip st.1 h
end
section
variable {X:Cx}
theorem qaX{tg:Expr}{J:It}{fp:List Addr}{it:Addr}{tn:Nat->Heap->Prop}(hc:X.calm=true)(T:Turn X.prog X.w X.K tg J fp it tn):QbU X tg J fp it tn :=
 λY e1 e2 e3 e4 e5 i pins s σ H E I f t g=>by
  have q:=T.item Y e1 e2 e3 (e4.trans hc) i pins s σ H E I f t g;rw[e5] at q;exact q
theorem yaX{tg:Expr}{J:It}{fp:List Addr}{it:Addr}{tn:Nat->Heap->Prop}(hc:X.calm=true)(T:Turn X.prog X.w X.K tg J fp it tn):YbT X J fp it tn :=
 λY e1 e2 e3 e4 e5 _ i pins s σ H E I f t g=>by
  have q:=T.done Y e1 e2 e3 (e4.trans hc) i pins s σ H E I f t g;rw[e5] at q;exact q
variable {elt iter tg:Expr} {ifs:List Expr} {cs:Scope} {pos:Pos} {wi:TI} {g:TG} {tc:TT} {te:TE}
theorem ZbM(N':List Str)(ncv:Nat)(js:List Nat)(hok:Yt X.env.scope X.N cs N' ncv js=true)(hc:X.calm=true)(hi:PI X tg iter wi)(hg:∀ C s3 H ex,PG (cxC X cs N' C s3 H ex) tg g)(hif:∀ C s3 H ex,PIf (cxC X cs N' C s3 H ex) ifs tc)
  (helt:∀ C s3 H ex,PE (cxC X cs N' C s3 H ex) elt te) (hs:∀ x,foldedSetIterable iter X.env x=pure x:=by intro _;rfl):PE X (.ListComp elt [⟨tg,iter,ifs,0⟩] cs pos) (qbr wi ncv js g tc te):=by
 intro pins s σ H Q I h;have ok:=CompOk.of hok;rw[eval_ListComp];refine wpAny_comprehension_free (use:=none) rfl hs (qad λy hy e=>I.ok.has y.1 (ok.free y hy e)) ok.kind ok.locs (thn (hi pins s σ H _ I h) λv s1 h1=>thn h1 λitv s2 h2=>?_);obtain⟨it,fp,tn,J,H2,e,I2,T,st2,f2,W,w0,turn⟩:=h2;subst e;refine Qab (Q:=Q) (RR:=λacc C=>compPost (model X.prog X.w) X.A X.xe none (EP X pins σ Q) acc C) ok hg hif helt I2 T.mem T.obj T.keep (qaX hc T) (yaX hc T) T.self st2 f2 W w0 turn λD C acc H' s6 IX fC zC hm q=>?_;obtain⟨m,hm⟩:=hm;refine⟨m,hm,λh' sb=>⟨.ref D,_,?_,rfl,q⟩⟩;exact Zn (t':=s6.toks) (ch:=[C]) IX (λb hb=>by obtain rfl:=Uc.mp hb;exact fC) λb o hb e=>(sb.2 b λz=>hb (by simp[z])).trans e
theorem QbG{i:Nat}{x:Str}{pos' spos:Pos}(hN:X.N.Nodup)(hi0:X.N[i]?=some x)(hx:Loc X.env.scope x)(N':List Str)(ncv:Nat)(js:List Nat)(hok:Yt X.env.scope X.N cs N' ncv js=true)(hc:X.calm=true)(hi:PI X tg iter wi)
  (hg:∀ C s3 H ex,PG (cxC X cs N' C s3 H ex) tg g) (hif:∀ C s3 H ex,PIf (cxC X cs N' C s3 H ex) ifs tc) (helt:∀ C s3 H ex,PE (cxC X cs N' C s3 H ex) elt te)
  (hsw:swapsWith (.ListComp elt [⟨tg,iter,ifs,0⟩] cs pos) (some (.Name x pos')) spos.line X.env=pure true:=by rfl) (hs:∀ x,foldedSetIterable iter X.env x=pure x:=by intro _;rfl)
  (hf:X.fn x=true\/X.env.scope.names.lookup x=some .local:=by first|exact .inl rfl|exact .inr rfl|assumption) :
  PS X (.Assign [.Name x pos'] (.ListComp elt [⟨tg,iter,ifs,0⟩] cs pos) spos) (tAsg (qbr wi ncv js g tc te) (Za4 i)):=by
 intro pins s σ H D0 I h;have ok:=CompOk.of hok;rw[exec_Assign_Name_used _ _ _ _ hsw];refine wpAny_bind (wpAny_standAt (wpAny_bind ?_));show wpAny _ X.A (do let _<-comprehension (.ListComp elt [⟨tg,iter,ifs,0⟩] cs pos) cs X.env _ (newList []) false (eval iter X.env) (some (assign (.Name x pos') X.env))) _ _ s;refine wpAny_bind (wpAny_mono (wpAny_comprehension_free (use:=some (assign (.Name x pos') X.env)) (Q:=λ_ s'=>SP X pins D0 .next s') rfl hs (qad λy hy e=>I.ok.has y.1 (ok.free y hy e)) ok.kind ok.locs (thn (hi pins s σ H _ I h) λv s1 h1=>thn h1 λitv s2 h2=>?_))
  (λ_ s' hq=>wpAny_pure (wpAny_pure hq)) λ_ _ e=>e)
 obtain⟨it,fp,tn,J,H2,e,I2,T,st2,f2,W,w0,turn⟩:=h2;subst e;refine Qab (Q:=λv H'=>Za4 i v σ H' D0.nx) (RR:=λacc C=>compPost (model X.prog X.w) X.A X.xe (some (assign (.Name x pos') X.env)) (λ_ s'=>SP X pins D0 .next s') acc C) ok hg hif helt I2 T.mem T.obj T.keep (qaX hc T) (yaX hc T) T.self st2 f2 W w0 turn λD C acc H' s6 IX fC zC hm q=>?_;obtain⟨m,hm⟩:=hm;obtain⟨oC,esC,epC,gC,dC,rC⟩:=id hm;have nc:∀ v,oC.data≠.cell v:=λv z=>by rw[dC] at z;cases z
 have IXp:=IX.pinned (fp:=[C]) (λb hb=>by obtain rfl:=Uc.mp hb;exact fC) (λb hb=>by obtain rfl:=Uc.mp hb;exact⟨oC,gC,nc⟩);show wpAny (model X.prog X.w) X.A (assign (.Name x pos') X.env (.ref D)) _ X.xe s6;refine thn (ZaW hN hi0 hx hf _ s6 σ _ (.ref D) (.ref D) _ IXp rfl q) λ_ s7 ⟨σ7,H7,I7,q7⟩=>?_;obtain⟨g7,d7⟩:=Qi I7 (Xd _ (Ql (Uc.mpr rfl) gC));refine⟨m,⟨oC,esC,epC,g7,dC,rC⟩,λh' sb=>⟨σ7,H7,?_,q7⟩⟩;obtain⟨_,c1,c2,c3,c4,c5⟩:=fC;exact Zn (t':=s7.toks) (ch:=[C]) I7.unpinned (λb hb=>by obtain rfl:=Uc.mp hb;exact⟨d7,c1,c2,c3,c4,c5⟩) λb o hb e=>(sb.2 b λz=>hb (by simp[z])).trans e
theorem Qq{a b:Nat}(h:a<b\/b<a):a≠b:=by lia
theorem Qam{a b c:Nat}(h1:a≠b)(h2:a≠c):(a:Addr)∉([b,c]:List Addr):=by
 simp only[Ua,Xc,or_false,not_or];exact⟨h1,h2⟩
theorem yaZ(n a1 a2:Nat)(h1:a1<n)(h2:a2<n):ZAp (n+4) (n+2) (n+3) n (n+1) [n,a1] [n+1,a2] where
 tiz:=Qq (a:=n+2) (b:=n+4) (by lia)
 toz:=Qq (a:=n+3) (b:=n+4) (by lia)
 tito:=Qq (a:=n+2) (b:=n+3) (by lia)
 ti1:=Qq (a:=n+2) (b:=n) (by lia)
 ti2:=Qq (a:=n+2) (b:=n+1) (by lia)
 z1:=Qam (Qq (by lia)) (Qq (by lia))
 z2:=Qam (Qq (by lia)) (Qq (by lia))
 t1:=Qam (Qq (by lia)) (Qq (by lia))
 t2:=Qam (Qq (by lia)) (Qq (by lia))
 m1:=by simp
 m2:=by simp
 a1:=Qam (Qq (by lia)) (Qq (by lia))
 a2:=Qam (Qq (by lia)) (Qq (by lia))
theorem ge5{n b:Nat}(h:(b:Addr)∈([n+4,n+2,n+3,n,n+1]:List Addr)):n<=b:=by
 simp only[Ua,Xc,or_false] at h
 rcases h with h|h|h|h|h <;> (have h':b=_:=h;rw[h'];first|exact uH _ _|exact wb _)
noncomputable def iZip(K:PySem.W.Frag)(ta:TA):TI:=λσ H R=>ta σ H λvs H1=>∃ b1 b2 a1 a2,vs=[.ref a1,.ref a2]/\(∃ xs,SqS K H1 b1 a1 xs)/\(∃ ys,SqS K H1 b2 a2 ys)/\R (Itz K b1 b2 a1 a2) H1
theorem zb9{a b:Expr}{ta:TA}{p pos:Pos}{es:List Expr}{kt:Nat}{pt:Pos}(hg:Gl X "zip")(hm:X.mg "zip"=none)(ha:PA X [a,b] ta)(hs:starEach [a,b] X.env=[(false,eval a X.env),(false,eval b X.env)]:=by rfl)(hs2:starEach [b] X.env=[(false,eval b X.env)]:=by rfl) :
  PI X (.Tuple es kt pt) (.Call (.Name "zip" p) [a,b] [] pos) (iZip X.K ta):=by
 intro pins s σ H R I h;refine Call_ (Zy I hg hm boot_zip (PyProof.Rows.callWith_type1 (thn (ha pos pins s σ H _ I h) λus s1 ⟨vs,H1,I1,r1,q1⟩=>?_) (by rw[hs,hs2]) (by rw[hs2];rfl)));obtain⟨b1,b2,a1,a2,e,⟨xs,h1⟩,⟨ys,h2⟩,q⟩:=q1;subst e;cases r1 with
 |cons r rr =>
  cases rr with
  |cons r' rr =>
   cases rr;obtain rfl:_=Value.ref a1:=r;obtain rfl:_=Value.ref a2:=r';obtain⟨its1,v1,p1,_⟩:=qi I1 h1;obtain⟨its2,v2,p2,_⟩:=qi I1 h2;have l1:=p1.lt;have l2:=p2.lt;refine YaD p1 p2 λg f1 f2 f3 f4 f5 f6=>?_;refine wpAny_pyIter_zip f1 ?_;refine⟨s1.heap.objs.size+4,[s1.heap.objs.size+4,s1.heap.objs.size+2,s1.heap.objs.size+3,s1.heap.objs.size,s1.heap.objs.size+1],_,_,H1,rfl,I1.kept (t':=s1.toks) f6,Qbm (b1:=b1) (b2:=b2) (a1:=a1) (a2:=a2) (λ_ _ _=>yaZ _ a1 a2 l1 l2) s1.heap.objs.size (λa ha'=>?_) (λa ha'=>ge5 ha'),⟨f1,f2,⟨_,_,f3⟩,f4,f5⟩,λb hb=>I1.fpOk (ge5 hb) (I1.hok.fresh (ge5 hb)),q⟩;simp only[Ua,Xc,or_false] at ha'
   rcases ha' with rfl|rfl <;> assumption
end
noncomputable def CX1(P:Program)(w:World):CXT:=λouter H s E e s'=>∃ x C t tb H',e=.ref x/\s'.os=s.os/\AllBare s'.gens/\Un (frs outer) [] H H' s.heap s'.heap/\HOk P w H' s'.heap/\s'.heap.get? x=some (Zo C t tb)/\Tb s'.heap x tb /\
 H' x=none/\s.heap.get? x=none/\(∀ T,tb=.ref T->H' T=none/\s.heap.get? T=none)/\E (.ref C) none H'
structure ExOk (X:Cx) (pins:List (Addr×Obj)) (H:Hp) (b:Addr):Prop where
 un:H b=none
 loc:b≠X.env.locals
 fs:b∉X.fs
 new:X.s₀.heap.get? b=none
 cell:∀ x c,X.env.cells.lookup x=some c->c≠b
 pin:∀ p∈X.pn++pins,p.1≠b
noncomputable def Qa1(X:Cx)(E:XK):Prop:=∀(pins:List (Addr×Obj)) (σ:L2.St) (H:Hp) (s:Shared) (x C t:Addr) (tb:Value),Inv X pins σ H s->s.heap.get? x=some (Zo C t tb)->Tb s.heap x tb->ExOk X pins H x->(∀ T,tb=.ref T->ExOk X pins H T)->E (.ref C) none H->X.xe (.ref x) s
section
variable {X:Cx} {pins:List (Addr×Obj)} {σ:L2.St} {H H':Hp} {s:Shared}
theorem QF{b:Addr}(I:Inv X pins σ H s)(hx:X.ex=[])(hb:s.heap.get? b=none)(hn:H' b=none):ExOk X pins H' b:=by
 have al:∀{c o},s.heap.get? c=some o->c≠b:=λ{c o} e z=>by rw[z,hb] at e;cases e
 refine⟨hn,λz=>?_,λz=>?_,?_,λx c e=>?_,λp hp=>al (I.pin p hp).1⟩
 ·obtain⟨m,⟨o,_,_,e,_⟩,_⟩:=I.loc;exact al e z.symm
 ·obtain⟨_,o,e,_⟩:=I.funs.mem z;exact al e rfl
 ·cases q:X.s₀.heap.get? b with
  |none=>rfl
  |some o =>
   obtain⟨o',e⟩:=I.base.there b o q (by rw[hx];exactλz=>nomatch z);exact absurd rfl (al e)
 ·obtain⟨v,o,e,_⟩:=I.cell x c e;exact al e
theorem zbe{E:XK}(hx:X.ex=[])(T:Qa1 X E):Ycd (CX1 X.prog X.w) X E:=by
 intro pins σ H s e s' I h;obtain⟨x,C,t,tb,H',rfl,os,bare,un,hok,e1,e2,e3,e4,e5,q⟩:=h;have I':Inv X pins σ H' s':=I.call' (ch:=[]) os un hok bare λb z=>nomatch z;exact T pins σ H' s' x C t tb I' e1 e2 (QF I hx e4 e3) (λT' z=>QF I hx (e5 T' z).2 (e5 T' z).1) q
theorem Qai{P:Program}{w:World}{h h':Heap}{fs:List Addr}{x:Addr}{tb:Value}(ok:HOk P w H h)(n:Noted fs x tb h h')(hf:∀ b∈fs,H b=none)(hx:H x=none)(ht:∀ T,tb=.ref T->H T=none):HOk P w H h':=λb u e=>by
 have go:∀ c v,H c≠none->h.get? c=some v->h'.get? c=some v:=λc v hc q=>n.keep c v (λz=>hc (hf c z)) (λz=>hc (z ▸ hx)) (λz=>hc (ht c z.symm)) q;refine(ok b u e).stay (λc v hc q=>go c v ?_ q) (λ_ q=>q) λ_ _ q=>q
 rcases hc with z|z
 ·rw[z,e];exactλz=>nomatch z
 ·rw[z];exactλz=>nomatch z
theorem ZD{h h':Heap}{fs:List Addr}{x:Addr}{tb:Value}{b:Addr}{o:Obj}(n:Noted fs x tb h h')(h1:b≠x)(h2:Value.ref b≠tb)(e:h.get? b=some o):∃ sl,h'.get? b=some {o with slots:=sl}:=by
 by_cases z:b∈fs
 ·exact n.slot b o z h1 h2 e
 ·exact⟨o.slots,n.keep b o z h1 h2 e⟩
theorem Qaw{fs fs' ex:List Addr}{H0:Hp}{h0 h h':Heap}{x:Addr}{tb:Value}(u:Un fs ex H0 H h0 h)(n:Noted fs' x tb h h')(hx:h0.get? x=none)(ht:∀ T,tb=.ref T->h0.get? T=none)(hs:∀ b o,h0.get? b=some o->b∉fs->b∉fs'):Un fs ex H0 H h0 h':=by
 have ne:∀ b o,h0.get? b=some o->b≠x/\Value.ref b≠tb:=λb o e=>⟨λz=>(by rw[z,hx] at e;cases e),λz=>(by rw[ht b z.symm] at e;cases e)⟩;refine⟨λb o e q hb hx'=>n.keep b o (hs b o e hb) (ne b o e).1 (ne b o e).2 (u.keep b o e q hb hx'),λb o e q hb hx'=>?_,u.free,λb o e hx'=>?_,u.tups,u.frzs,u.tbls⟩
 ·obtain⟨sl,z⟩:=u.slot b o e q hb hx';obtain⟨sl',z'⟩:=ZD n (ne b o e).1 (ne b o e).2 z;exact⟨sl',z'⟩
 ·obtain⟨o',z⟩:=u.there b o e hx';obtain⟨sl',z'⟩:=ZD n (ne b o e).1 (ne b o e).2 z;exact⟨_,z'⟩
theorem qaj(I:Inv X pins σ H s){b:Addr}{o:Obj}(e:X.s₀.heap.get? b=some o)(hb:b∉X.fs):b∉frs X.stack:=λz=>by
 rcases Ua.mp (I.stkSub b z) with y|y
 ·exact absurd (Vb (va e) I.ok.above) (by rw[y];exact Xj _)
 ·exact hb y
theorem Yba{h':Heap}{x C t:Addr}{tb:Value}{t':Nat}(I:Inv X pins σ H s)(n:Noted (frs X.stack) x tb s.heap h')(he:s.heap.get? x=some (Zo C t tb))(htb:Tb s.heap x tb)(fx:ExOk X pins H x)(ft:∀ T,tb=.ref T->ExOk X pins H T):Inv X pins σ H {s with heap:=h',toks:=t'}:=by
 -- a thing that is no record is neither the exception nor its traceback
 have nrec:∀ b o,s.heap.get? b=some o->(∀ vs,o.data≠.fields vs)->b≠x/\Value.ref b≠tb:=λb o e nf=>by
  refine⟨λz=>?_,λz=>?_⟩
  ·rw[z,he] at e;cases e;exact nf _ rfl
  ·cases htb with
   |no=>cases z
   |@«at» T oT ts ne ho hd h3 =>
    cases z;rw[ho] at e;cases e;exact nf ts hd
 have cellK:∀ c v,s.heap.IsCell c v->h'.IsCell c v:=λc v ⟨o,ho,hd⟩=>by
  obtain⟨a,b⟩:=nrec c o ho λvs z=>by rw[hd] at z;cases z
  obtain⟨sl,q⟩:=ZD n a b ho;exact⟨_,q,hd⟩
 refine⟨I.ok,I.os,I.bare,Qaw I.base n fx.new (λT z=>(ft T z).new) λb o e hb=>qaj I e hb,?_,λy c e=>?_,I.free,I.freeC,λp hp=>?_,Qai I.hok n I.stkFree fx.un λT z=>(ft T z).un,I.len⟩
 ·obtain⟨m,⟨o,es,ep,ho,hd,r⟩,hl⟩:=I.loc;obtain⟨a,b⟩:=nrec _ o ho λvs z=>by rw[hd] at z;cases z
  obtain⟨sl,q⟩:=ZD n a b ho;refine⟨m,⟨_,es,ep,q,hd,r⟩,λi y v e1 e2 e3=>?_⟩;obtain⟨u,ru,l⟩:=hl i y v e1 e2 e3;refine⟨u,ru,?_⟩
  rcases l with l|⟨k,c,e,z⟩
  ·exact .inl l
  ·exact .inr ⟨k,c,e,cellK c _ z⟩
 ·obtain⟨v,z⟩:=I.cell y c e;exact⟨v,cellK c v z⟩
 ·obtain⟨e1,e2,e3,e4,e5⟩:=I.pin p hp;refine⟨n.keep _ _ (λz=>?_) (fx.pin p hp) (λz=>(ft p.1 z.symm).pin p hp rfl) e1,e2,e3,e4,e5⟩
  rcases Ua.mp (I.stkSub p.1 z) with y|y
  ·exact e3 y
  ·exact e4 y
end
theorem yal{P:Program}{w:World}{K:PySem.W.Frag}{mg:Str->Option Value}{base:Heap}{N:List Str}{qual:Str}{scope:Scope}{f:Addr}{cd:Value}{A:Around}{outer:List Env}{s0:Shared}{H0:Hp}{E:XK} :
  Qa1 (YY (CX1 P w) P w K mg base N qual scope f cd A outer s0 H0 E) E:=by
 intro pins σ H s x C t tb I e1 e2 fx ft q;refine qa8 (env:=envOfC qual scope s0.heap.objs.size f cd) (outer:=outer) (L:=s0.heap.objs.size) I.ok.frames I.stack rfl e1 e2 λh' T n g1 g2 g3=>?_;refine⟨x,C,t,.ref T,H,rfl,I.os,I.bare,Qaw I.base n fx.new (λT z=>(ft T z).new) λb o e hb=>qaj I e hb,Qai I.hok n I.stkFree fx.un λT z=>(ft T z).un,g1,g2,fx.un,fx.new,λT' z=>?_,q⟩;cases z;exact⟨I.hok.fresh g3,VC (Xe I.sz g3)⟩
theorem qbD{P:Program}{w:World}{K:PySem.W.Frag}{mg:Str->Option Value}{base:Heap}{N:List Str}{qual:Str}{scope:Scope}{f:Addr}{cd:Value}{A:Around}{outer:List Env}{s0:Shared}{H0:Hp}{E:XK}{CX:CXT} :
  PassesOwn (model P w) (YY CX P w K mg base N qual scope f cd A outer s0 H0 E).A (YY CX P w K mg base N qual scope f cd A outer s0 H0 E).env (YY CX P w K mg base N qual scope f cd A outer s0 H0 E).xe:=PassesOwn.leaving
abbrev bmV:List Value:=[.type "ValueError",.type "Exception",.type "BaseException",.type "object"]
noncomputable def qz(K:PySem.W.Frag)(C:Addr):Prop:=Wy K C bmV "ValueError.__new__"=true
noncomputable def zr(K:PySem.W.Frag)(C:Addr):List Value:=match K.lookup C with
 |some ⟨_,_,.cls cd,_⟩=>cd.mro.tail
 |_=>[]
set_option tactic.hygienic true in
theorem zQ{K:PySem.W.Frag}{h:Heap}{C:Addr}(KX:K.In h)(q:qz K C) :
  ∃ N nm qn bs hdct sn sub ab col dd k0 k1 k2 k3 k5 mN,h.get? C=some (excClassObj nm qn C N bs (zr K C) hdct sn sub ab col dd k0 k1 k2 k3 k5 "ValueError.__new__")/\h.Ns N mN/\mN "__init__"=none/\OwnTail h bmV (zr K C):=by
 unfold qz Wy at q;split at q
 next dd cd sl ho =>
  split at q
  next C' bm k0 k1 k2 k3 n k5 hm hs =>
   simp only[Wa,beq_iff_eq,Vh] at q;obtain(⟨⟨⟨⟨⟨q1,q2⟩,q3⟩,q4⟩,q5⟩,q6⟩):=q;subst q1 q2;have emro:zr K C'=bm:=by unfold zr;rw[ho];dsimp only;rw[hm];rfl
   cases cd with
   |mk nm bs mro ns qn hd sn sub ab col del =>
    dsimp only at hm q3 q5 q6;subst hm q3;obtain(⟨l⟩):=sl;dsimp only at hs;subst hs;rw[emro];exact⟨ns,nm,qn,bs,hd,sn,sub,ab,col,dd,k0,k1,k2,k3,k5,_,KX _ _ ho,.of_isNs (PySem.W.isNs_of_in KX q5),PySem.W.nsMap_none_of_in KX q5 q6,PySem.W.tail_of_in KX q4⟩
  next=>cases q
 next=>cases q
section
variable {X:Cx} {e:Expr} {es:List Expr} {ta:TA} {c:Str} {np cpos pos:Pos} {C:Addr} {E:XK}
noncomputable def Zb7(C:Addr)(E:XK)(ta:TA):TS:=λ_ σ H=>ta σ H λvs H1=>vs.length<=sizeLine/\E (.ref C) none H1
theorem zby(hc:X.calm=true)(hx:X.ex=[])(T:Qa1 X E)(q:qz X.K C)(hg:Gl X c)(hm:X.mg c=some (.ref C))(ha:PA X (e::es) ta)(hd:(c==("__debug__":Str))=false:=by decide)
  (he:starEach (e::es) X.env=(false,eval e X.env)::starEach es X.env:=by rfl) (hpl:(backTo cpos (starEach es X.env)).any (·.1)=false:=by rfl) :
  PS X (.Raise (some (.Call (.Name c np) (e::es) [] cpos)) none pos) (Zb7 C E ta):=by
 intro pins s σ H D I h;obtain⟨N,nm,qn,bs,hdct,sn,sub,ab,col,dd,k0,k1,k2,k3,k5,mN,oC,oN,ni,TL⟩:=zQ I.ok.mod.kin q;refine wpAny_Raise_call_subT (C:=C) (nm:=nm) (q:=qn) (N:=N) (bs:=bs) (bm:=zr X.K C) (hdct:=hdct) (sn:=sn) (sub:=sub) (ab:=ab) (col:=col) (dd:=dd) (k0:=k0) (k1:=k1) (k2:=k2) (k3:=k3) (k5:=k5) (mN:=mN)
  PySem.F.excBase_ValueError (TL.hasType (by decide)) (I.ok.hd hc) (by rw[he];show(false||(backTo cpos (starEach es X.env)).any (·.1))=false;rw[hpl];rfl) ni (qI I hg hm ⟨rfl,?_⟩ hd)
 have hw:=ha cpos pins s σ H _ I h;rw[he] at hw ⊢;refine Calls.evalArgs_plain (wpAny_mono hw (λus s2 ⟨vs,H2,I2,r,z,q2⟩=>?_) λ_ _ y=>y);refine⟨rfl,by rw[<- r.length];exact z,I2.bk _ _ oC,oN.keeps I2.bk,TL.keeps I2.bk,λh' x hm'=>?_⟩;obtain⟨t,e1,e2,e3⟩:=hm'.there;have I3:Inv X pins σ H2 {s2 with heap:=h'}:=I2.kept (t':=s2.toks) hm'.keeps;have nx:H2 x=none:=by
  cases z:H2 x with
  |none=>rfl
  |some o =>
   obtain⟨o',e'⟩:∃ o',s2.heap.get? x=some o':=by
    have lt:=I2.hok x o z;cases q0:s2.heap.get? x with
    |some o'=>exact⟨o',rfl⟩
    |none =>
     exfalso;have z0:=lt;cases o with
     |lst xs=>obtain⟨_,_,_,_,e0⟩:=z0;rw[q0] at e0;cases e0
     |tup xs=>obtain⟨_,_,_,ob,e0,_⟩:=z0;rw[q0] at e0;cases e0
     |dK kvs=>obtain⟨_,_,_,_,ob,_,_,e0,_⟩:=z0;rw[q0] at e0;cases e0
     |dT kvs=>obtain⟨_,_,_,_,ob,_,_,e0,_⟩:=z0;rw[q0] at e0;cases e0
     |set S n=>obtain⟨ob,_,_,_,e0,_⟩:=z0;rw[q0] at e0;cases e0
     |ins C dx fs=>obtain⟨_,_,_,e0,_⟩:=z0;rw[q0] at e0;cases e0
     |own y=>obtain⟨_,e0⟩:=z0;rw[q0] at e0;cases e0
     |xd fs=>obtain⟨_,⟨_,_,_,e0,_⟩,_⟩:=z0;rw[q0] at e0;cases e0
     |rng lo hi=>obtain⟨_,_,_,e0⟩:=z0;rw[q0] at e0;cases e0
     |frz ob u=>obtain⟨e0,_⟩:=z0;rw[q0] at e0;cases e0
     |tbl ps=>have e0:s2.heap.get? x=some _:=z0;rw[q0] at e0;cases e0
     |met f y=>have e0:s2.heap.get? x=some _:=z0;rw[q0] at e0;cases e0
     |ext φ=>obtain⟨_,⟨_,e0⟩,_⟩:=z0;rw[q0] at e0;cases e0
   rw[hm'.new] at e';cases e'
 exact T pins σ H2 _ x C t .none I3 e1 .no (QF I2 hx hm'.new nx) (λT z=>nomatch z) q2
end
structure ExcK (K:PySem.W.Frag) (C:Addr):Prop where
 q:qz K C
 ga:ue K (.ref C) "__getattribute__"=some (some (.builtin "BaseException.__getattribute__"))
 gt:ue K (.ref C) "__getattr__"=some none
 cl:ue K (.ref C) "__class__"=some (some (.builtin "object.__class__"))
 gn:wm K (.builtin "object.__class__") "__get__"=some (some (.builtin "getset_descriptor.__get__"))
 tk:wn K (.builtin "object.__class__")=some true
 mo:wu K C (.type "object")=some true
 ci:(wj K C).isSome=true
noncomputable def ExcAt(x C:Addr)(h:Heap):Prop:=∃ t tb,h.get? x=some (Zo C t tb)
theorem QaH{x C t:Addr}{tb:Value}{h:Heap}(e:h.get? x=some (Zo C t tb)):PySem.W.InstAt h x (Zo C t tb) C none:=⟨e,rfl,rfl,True.intro⟩
theorem Zav{K:PySem.W.Frag}{C:Addr}{a g:Value}{name:Str}(hc:(wj K C).isSome=true)(ha:ue K (.ref C) name=some (some a))(hg:wm K a "__get__"=some (some g))(ht:wn K a=some true) :
  PySem.W.findObj K C none name=some (.bind g a):=by
 obtain⟨cd,hc⟩:=Wj.mp hc;unfold PySem.W.findObj;rw[hc,xk,ha,xk];simp[hg,ht]
theorem QaN{K:PySem.W.Frag}{C:Addr}(ci:(wj K C).isSome=true)(M:Model)(h:Heap)(X:K.In h):PySem.W.Looks M h (isType (.ref C)) true:=by
 unfold wj at ci;split at ci
 next ho =>
  intro A' Q' E' s' k q;unfold isType loadHead;exact wpAny_bind (wpAny_loadPart (k _ _ (X _ _ ho)) (wpAny_pure q))
 next=>cases ci
theorem Ybf(v:Value):bindSpecial (.builtin "BaseException.__getattribute__") v=pure (.builtin "BaseException.__getattribute__",[v]):=PySem.F.attrBase_ValueError.ga.bind v
theorem yba{K:PySem.W.Frag}{C x t:Addr}{tb nameV:Value}(q:qz K C){M:Model}{A:Around}{E:Value->Shared->Prop}{Q:Unit->Shared->Prop}{s:Shared}(X:K.In s.heap)(e:s.heap.get? x=some (Zo C t tb))(hq:Q () s) :
  wpAny M A (checkBuiltinCall "BaseException.__getattribute__" ⟨[.ref x,nameV],[]⟩) Q E s:=by
 obtain⟨N,nm,qn,bs,hdct,sn,sub,ab,col,dd,k0,k1,k2,k3,k5,mN,oC,oN,ni,TL⟩:=zQ X q;obtain⟨hh,g,d,tk,os⟩:=s;have hcB:(Value.ref C::zr K C).contains (.type "BaseException")=true:=by rw[Xx,TL.hasType (show bmV.contains (.type "BaseException")=true by decide)];rfl
 have hk:builtinKind "BaseException.__getattribute__"=some .slot:=by decide +kernel
 have hsp:splitId "BaseException.__getattribute__"=some ("BaseException","__getattribute__"):=by decide +kernel
 have ha:=PySem.F.args_bexc_ga (.ref x) nameV;simp only[checkBuiltinCall,hk,hsp];refine wpAny_bind ?_;unfold isInstance
 repeat (first|(with_reducible refine wpAny_loadPart_at e ?_)|(with_reducible refine wpAny_isSubtype_exc oC ?_;rw[hcB])|wp_step)
 exact hq
theorem Zbg{K:PySem.W.Frag}{C x t:Addr}{tb:Value}(Z:ExcK K C){prog:Program}{w:World}{A:Around}{E:Value->Shared->Prop}{Q:Option Value->Shared->Prop}{s:Shared}(X:K.In s.heap)(e:s.heap.get? x=some (Zo C t tb))(k:Q (some (.ref C)) {s with toks:=s.toks+1}) :
  wpAny (model prog w) A (getAttr? (.ref x) "__class__") Q E s:=by
 have I:=QaH e;obtain⟨N,nm,qn,bs,hdct,sn,sub,ab,col,dd,k0,k1,k2,k3,k5,mN,oC,oN,ni,TL⟩:=zQ X Z.q;obtain⟨hh,g,d,tk,os⟩:=s;have L0:=I.type (M:=model prog w);have L1:=Uq (M:=model prog w) X Z.ga;have L2:=Uq (M:=model prog w) X Z.gt;have L3:=PySem.W.looks_find (M:=model prog w) X I (Zav Z.ci Z.cl Z.gn Z.tk);have nb:(onTheHeap (Value.ref C)&&Value.builtin "BaseException.__getattribute__" == Value.builtin "object.__getattribute__")=false:=by
  rw[show(Value.builtin "BaseException.__getattribute__" == Value.builtin "object.__getattribute__")=false from by decide +kernel];rfl
 unfold getAttr? getAttrBy? getAttrBy;refine wpAny_bind (wpAny_mkText (wpAny_bind (wpAny_attempt (wpAny_holding (wpAny_bind (L0.at (wpAny_bind (L1.at ?_))))))));show wpAny _ _ (if(onTheHeap (Value.ref C)&&Value.builtin "BaseException.__getattribute__" == Value.builtin "object.__getattribute__")=true then _ else _) _ _ _;rw[if_neg (by rw[nb];exact Ug)];unfold getAttrByItsOwn hookBefore;rw[if_pos (show onTheHeap (Value.ref C)=true from rfl)];refine wpAny_bind (L2.at (wpAny_bind (wpAny_attempt (wpAny_holding ?_))));show wpAny _ _ (boundAndCalled (.builtin "BaseException.__getattribute__") (.ref x) _) _ _ _;unfold boundAndCalled;rw[Ybf];refine wpAny_bind (wpAny_pure (wpAny_call (codeAny_call_builtin PySem.F.attrBase_ValueError.ga.plain PySem.F.entry_bexc_ga ?_)));refine yba Z.q X e ?_;show wpAny _ _ (typeOf (.ref x) >>= _) _ _ _;refine wpAny_bind (L0.at (wpAny_bind (L3.at ?_)));show wpAny _ _ (Builtin.ObjectAttr.bindTo (.builtin "getset_descriptor.__get__") (.builtin "object.__class__") (.ref x) (.ref C)) _ _ _;unfold Builtin.ObjectAttr.bindTo;refine wpAny_bind (wpAny_holding (wpAny_call (PySem.W.class_get (ox:=Zo C t tb) (od:=none) X I Z.mo (wpAny_pure ?_))));exact PySem.W.handed_on rfl (wpAny_pure k)
theorem ybh{K:PySem.W.Frag}{C x:Addr}(Z:ExcK K C):PySem.W.KitX K (.ref x) (.ref C) (ExcAt x C) where
 ty:=λM h _ ⟨t,tb,e⟩=>(QaH e).type
 it:=λM h X _=>QaN Z.ci M h X
 ne:=λh tp dd its n sl X htp=>by
  refine Bool.eq_false_iff.mpr λq=>?_;have e:C=tp:=Value.ref.inj (beq_iff_eq.mp q);subst e;have ci:=Z.ci;unfold wj at ci;split at ci
  next ho =>
   have z:=(X _ _ ho).symm.trans htp;cases z
  next=>cases ci
 ca:=λX ⟨t,tb,e⟩ k=>Zbg Z X e k
section
variable {X:Cx} {pins:List (Addr×Obj)} {σ:L2.St} {H:Hp} {s:Shared}
theorem qa9{i:Nat}{n:Str}{h':Heap}{t':Nat}(I:Inv X pins σ H s)(hN:X.N.Nodup)(hi:X.N[i]?=some n)
  {m m':Str->Option Value} (hn:s.heap.Ns X.env.locals m) (hl:∀(i:Nat)(x:Str)(v:V),X.N[i]?=some x->σ[i]?=some (some v)->Vis X.env.scope x->∃ u,RelV v u/\Look X.env s.heap m x u) (hn':h'.Ns X.env.locals m') (hm:∀ y,y≠n->m' y=m y) (hs:Heap.SameBut X.env.locals s.heap h'):Inv X pins (σ.set i none) H {s with heap:=h',toks:=t'}:=by
 obtain⟨oL,_,_,gL,_⟩:=id hn;have hiσ:i<σ.length:=by rw[I.len];exact(ua.mp hi).1
 have nl:∀ b o,X.s₀.heap.get? b=some o->b≠X.env.locals:=λb o e=>wc (Vb (va e) I.ok.above);refine⟨I.ok,I.os,I.bare,⟨λb o e q hb hx=>(hs.2 b (nl b o e)).trans (I.base.keep b o e q hb hx),λb o e q hb hx=>?_,I.base.free,λb o e hx=>?_,I.base.tups,I.base.frzs,I.base.tbls⟩,⟨m',hn',λj y v e1 e2 e3=>?_⟩,λy c e=>?_,I.free,I.freeC,λp hp=>?_,λb u e=>?_,by simpa using I.len⟩
 ·obtain⟨sl,z⟩:=I.base.slot b o e q hb hx;exact⟨sl,(hs.2 b (nl b o e)).trans z⟩
 ·obtain⟨o',z⟩:=I.base.there b o e hx;exact⟨o',(hs.2 b (nl b o e)).trans z⟩
 ·by_cases hj:j=i
  ·subst hj;rw[uf hiσ] at e2;cases e2
  ·rw[Ve (Ne.symm hj)] at e2;obtain⟨u,r,q⟩:=hl j y v e1 e2 e3;refine⟨u,r,?_⟩
   rcases q with ⟨k,e⟩|⟨k,c,e,z⟩
   ·exact .inl ⟨k,by rw[hm y λz=>hj (Yad hN e1 (z ▸ hi))];exact e⟩
   ·exact .inr ⟨k,c,e,z.sameBut hs (I.cne y c e)⟩
 ·obtain⟨v,z⟩:=I.cell y c e;exact⟨v,z.sameBut hs (I.cne y c e)⟩
 ·obtain⟨e,q,ne,nf,d⟩:=I.pin p hp;exact⟨(hs.2 p.1 ne).trans e,q,ne,nf,d⟩
 ·refine(I.hok b u e).stay (λc v hc q=>(hs.2 c ?_).trans q) (λ_ q=>q) λ_ _ q=>q;rintro rfl
  rcases hc with rfl|hc
  ·rw[I.free] at e;cases e
  ·rw[I.free] at hc;cases hc
theorem qbe{i:Nat}{n:Str}{pos:Pos}{A:Around}{E:Value->Shared->Prop}{Q:Unit->Shared->Prop}(I:Inv X pins σ H s)(hN:X.N.Nodup)(hi:X.N[i]?=some n)(hk:X.env.scope.names.lookup n=some .local)
  (h:∀ s',Inv X pins (σ.set i none) H s'->Q () s'):wpAny (model X.prog X.w) A (do bindName X.env n .none;unbindBehindTheSuite X.env n pos) Q E s:=by
 have hp:(X.env.scope.kind == .class||(X.env.scope.kind == .module&&X.env.locals != X.env.globals))=false:=by rw[I.ok.kind];rfl
 obtain⟨m,hn,hl⟩:=id I.loc;refine wpAny_bind (wpAny_bindName (wpAny_storeName_local hk hn (λh1 n1 s1=>?_) hp));unfold unbindBehindTheSuite;refine wpAny_onRaise (wpAny_unbindName_local hk n1 (v:=.none) (by simp) hp λh2 u n2 s2=>h _ ?_);show Inv X pins (σ.set i none) H {s with heap:=h2,toks:=s.toks+1};exact qa9 (s:=s) I hN hi hn hl n2 (λy hy=>by simp[hy]) (s1.trans s2)
end
theorem zaA{K:PySem.W.Frag}{C B x t:Addr}{tb:Value}(q:qz K C)(qB:qz K B)(hin:(zr K C).contains (.ref B)=true){M:Model}{A:Around}{E:Value->Shared->Prop}{Q:Bool->Shared->Prop}{s:Shared}(X:K.In s.heap)(e:s.heap.get? x=some (Zo C t tb))(hq:Q true s) :
  wpAny M A (excMatches (.ref x) (.ref B)) Q E s:=by
 obtain⟨N,nm,qn,bs,hdct,sn,sub,ab,col,dd,k0,k1,k2,k3,k5,mN,oC,oN,ni,TL⟩:=zQ X q;obtain⟨N',nm',qn',bs',hdct',sn',sub',ab',col',dd',k0',k1',k2',k3',k5',mN',oB,oN',ni',TL'⟩:=zQ X qB;obtain⟨hh,g,d,tk,os⟩:=s;have hB:(Value.ref B::zr K B).contains (.type "BaseException")=true:=by rw[Xx,TL'.hasType (show bmV.contains (.type "BaseException")=true by decide)];rfl
 have hC:(Value.ref C::zr K C).contains (.ref B)=true:=by rw[Xx,hin,Bool.or_true]
 have f:=tc_notTuple;unfold excMatches
 repeat (first|(with_reducible refine wpAny_loadPart_at e ?_)|(with_reducible refine wpAny_loadPart_at oB ?_)|(with_reducible refine wpAny_isSubtype_exc oB ?_;rw[hB])|(with_reducible refine wpAny_isSubtype_exc oC ?_;rw[hC])|wp_step)
 exact hq
noncomputable def Wt(X:Cx)(pins:List (Addr×Obj))(σ:L2.St)(E:XK):Value->Shared->Prop:=λe s'=>∃ x C t tb H',e=.ref x/\Inv X pins σ H' s'/\s'.heap.get? x=some (Zo C t tb)/\Tb s'.heap x tb/\ExOk X pins H' x/\(∀ T,tb=.ref T->ExOk X pins H' T)/\E (.ref C) none H'
noncomputable def cxT(X:Cx)(pins:List (Addr×Obj))(σ:L2.St)(E:XK):Cx:={X with pn:=X.pn++pins,xe:=Wt X pins σ E}
section
variable {X:Cx} {pins pl:List (Addr×Obj)} {σ σ0:L2.St} {H:Hp} {s:Shared} {E:XK}
theorem zbF(I:Inv X pins σ H s):Inv (cxT X pins σ0 E) [] σ H s :=
 ⟨⟨I.ok.mod,I.ok.kind,I.ok.glob,I.ok.blt,I.ok.above,I.ok.inj,I.ok.has,I.ok.cab,I.ok.hd,I.ok.frames,I.ok.stk,I.ok.exf,I.ok.bs,I.ok.bsz,I.ok.noex,I.ok.exfs,I.ok.funs,I.ok.frf⟩,I.os,I.bare,I.base,I.loc,I.cell,I.free,I.freeC,λp hp=>I.pin p (by rw[Xs] at hp;exact hp),I.hok,I.len⟩
theorem QN(I:Inv (cxT X pins σ0 E) pl σ H s):Inv X pins σ H s :=
 ⟨⟨I.ok.mod,I.ok.kind,I.ok.glob,I.ok.blt,I.ok.above,I.ok.inj,I.ok.has,I.ok.cab,I.ok.hd,I.ok.frames,I.ok.stk,I.ok.exf,I.ok.bs,I.ok.bsz,I.ok.noex,I.ok.exfs,I.ok.funs,I.ok.frf⟩,I.os,I.bare,I.base,I.loc,I.cell,I.free,I.freeC,λp hp=>I.pin p (Wf _ hp),I.hok,I.len⟩
theorem zaF{b:Addr}(f:ExOk (cxT X pins σ0 E) pl H b):ExOk X pins H b:=⟨f.un,f.loc,f.fs,f.new,f.cell,λp hp=>f.pin p (Wf _ hp)⟩
noncomputable def yr(CX:CXT)(X:Cx)(σ:L2.St)(E:XK):Prop:=∀(pins:List (Addr×Obj)) (H:Hp) (s:Shared) (e:Value) (s':Shared),Inv X pins σ H s->CX X.stack H s E e s'->X.xe e s'
theorem YaQ(hx:X.ex=[]):yr (CX1 X.prog X.w) (cxT X pins σ E) σ E:=by
 intro pl H s e s' I h;obtain⟨x,C,t,tb,H',rfl,os,bare,un,hok,e1,e2,e3,e4,e5,q⟩:=h;have I':Inv (cxT X pins σ E) pl σ H' s':=I.call' (ch:=[]) os un hok bare λb z=>nomatch z;exact⟨x,C,t,tb,H',rfl,QN I',e1,e2,zaF (QF I hx e4 e3),λT' z=>zaF (QF I hx (e5 T' z).2 (e5 T' z).1),q⟩
end
section
variable {X:Cx} {CX:CXT} {k:Nat} {f C:Addr} {fd:FuncData} {ps:List Str} {sp:Sp} {dvs:List V} {ds:List Value} {E:XK} {x m:Str} {p pos apos:Pos} {e o:Expr} {es:List Expr} {ta:TE} {t:TA} {σ0:L2.St}
theorem ZbD{pins:List (Addr×Obj)}{H:Hp}{s:Shared}{Q:VK}{us:List Value}{vs:List V}(F:FnOk X.prog X.w X.K X.mg X.base CX k f fd ps sp)(hr:Room k X.A)(hb:Binds X.K fd ps ds)(hd:Vals dvs ds)(hx:yr CX X σ0 E)
  (I:Inv X pins σ0 H s) (r:Vals vs us) (h:sp (vs++dvs) H Q E):wpAny (model X.prog X.w) X.A (call (.ref f) us) (EP X pins σ0 Q) X.xe s:=by
 have r2:Vals (vs++dvs) (us++ds):=r.append hd;have hl:(us++ds).length=ps.length:=by rw[<- r2.length];exact F.len _ _ _ _ h
 refine wpAny_call (codeAny_mono (F.run X.A X.stack s H ⟨us,[]⟩ (us++ds) (vs++dvs) Q E hr I.env0 (hb s us I.kIn hl) r2 h) λr s' hq=>?_);cases r with
 |error e=>exact hx pins H s e s' I hq
 |ok fl =>
  cases fl with
  |ret u=>exact I.after hq
  |next=>exact False.elim hq
  |brk=>exact False.elim hq
  |cont=>exact False.elim hq
noncomputable def zbj(σ0:L2.St)(sp:Sp)(dvs:List V)(E:XK)(t:TA):TE:=λσ H Q=>σ=σ0/\t σ H λvs H1=>sp (vs++dvs) H1 Q E
theorem qbv(F:FnOk X.prog X.w X.K X.mg X.base CX k f fd ps sp)(hr:Room k X.A)(hg:Gl X x)(hm:X.mg x=some (.ref f))(hk:Wh X.K (.ref f)=true)(hb:Binds X.K fd ps ds)(hd:Vals dvs ds)(hx:yr CX X σ0 E)
  (ha:PA X (e::es) t) (hdb:(x==("__debug__":Str))=false:=by decide) (he:starEach (e::es) X.env=(false,eval e X.env)::starEach es X.env:=by rfl) (hpl:(backTo pos (starEach es X.env)).any (·.1)=false:=by rfl) :
  PE X (.Call (.Name x p) (e::es) [] pos) (zbj σ0 sp dvs E t):=by
 intro pins s σ H Q I h;obtain(⟨rfl,h⟩):=h;refine wpAny_Call_Name_kw (qI I hg hm ?_ hdb);refine UE (h₀:=X.base) I.ok.mod.kin hk (thn (ha pos pins s σ H _ I h) λus s1 ⟨vs,H1,I1,r,q⟩=>⟨I1.kIn,?_⟩) he hpl;exact ZbD F hr hb hd hx I1 r q
theorem ybg{pins:List (Addr×Obj)}{H:Hp}{s:Shared}{Q:VK}{us:List Value}{vs:List V}(M:Mk X.K C f)(F:FnOk X.prog X.w X.K X.mg X.base CX k f fd ps sp)(hr:Room (k+1) X.A)(hb:Binds X.K fd ps ds)(hd:Vals dvs ds)
  (hx:yr CX X σ0 E) (I:Inv X pins σ0 H s) (r:Vals vs us)
  (h:∀ x dx,H x=none->H dx=none->dx≠x->sp (.ref x::(vs++dvs)) (upd (upd H dx (.own x)) x (.ins C dx [])) (λv H2=>v=.non/\Q (.ref x) H2) E) :
  wpAny (model X.prog X.w) X.A (call (.ref C) us) (EP X pins σ0 Q) X.xe s:=by
 have hq:=h (s.heap.objs.size+1) s.heap.objs.size (I.hok.fresh (Ut _)) (I.hok.fresh (wb _)) (wc (xm _));have I2:=Inv.made (C:=C) I;have r2:Vals (V.ref (s.heap.objs.size+1)::(vs++dvs)) (Value.ref (s.heap.objs.size+1)::(us++ds)):=.cons rfl (r.append hd);have hl:(Value.ref (s.heap.objs.size+1)::us++ds).length=ps.length:=by
  have e:=r2.length;rw[F.len _ _ _ _ hq] at e;exact e.symm
 refine wpAny_call (Qbl (f:=f) I.kIn M.makes M.init (beq_iff_eq.mp M.fn) (codeAny_mono (F.run _ X.stack _ _ ⟨Value.ref (s.heap.objs.size+1)::us,[]⟩ (Value.ref (s.heap.objs.size+1)::(us++ds)) _ _ E (hr.make C us [])
  (I2.env0.make C us []) (hb _ (Value.ref (s.heap.objs.size+1)::us) I2.kIn hl) r2 hq) λr s' hq'=>?_))
 cases r with
 |error e=>exact hx pins _ _ e s' I2 hq'
 |ok fl =>
  cases fl with
  |ret u =>
   obtain⟨v,H',I3,rv,ev,q3⟩:=I2.after hq';subst ev;exact⟨rv,⟨V.ref (s.heap.objs.size+1),H',I3,rfl,q3⟩⟩
  |next=>exact False.elim hq'
  |brk=>exact False.elim hq'
  |cont=>exact False.elim hq'
noncomputable def ybr(σ0:L2.St)(C:Addr)(sp:Sp)(dvs:List V)(E:XK)(t:TA):TE:=λσ H Q=>σ=σ0/\t σ H λvs H1=>∀ x dx,H1 x=none->H1 dx=none->dx≠x ->
 sp (.ref x::(vs++dvs)) (upd (upd H1 dx (.own x)) x (.ins C dx [])) (λv H2=>v=.non/\Q (.ref x) H2) E
theorem zbu(M:Mk X.K C f)(F:FnOk X.prog X.w X.K X.mg X.base CX k f fd ps sp)(hr:Room (k+1) X.A)(hg:Gl X x)(hm:X.mg x=some (.ref C))(hb:Binds X.K fd ps ds)(hd:Vals dvs ds)(hx:yr CX X σ0 E)
  (ha:PA X (e::es) t) (hdb:(x==("__debug__":Str))=false:=by decide) (he:starEach (e::es) X.env=(false,eval e X.env)::starEach es X.env:=by rfl) (hpl:(backTo pos (starEach es X.env)).any (·.1)=false:=by rfl) :
  PE X (.Call (.Name x p) (e::es) [] pos) (ybr σ0 C sp dvs E t):=by
 intro pins s σ H Q I h;obtain(⟨rfl,h⟩):=h;refine wpAny_Call_Name_kw (qI I hg hm ?_ hdb);refine UE (h₀:=X.base) I.ok.mod.kin M.kp (thn (ha pos pins s σ H _ I h) λus s1 ⟨vs,H1,I1,r,q⟩=>⟨I1.kIn,?_⟩) he hpl;exact ybg M F hr hb hd hx I1 r q
end
section
variable {M:Model} {A:Around} {E:Value->Shared->Prop} {s:Shared}
theorem ZaL{base:Heap}{env:Env}{outer:List Env}{L x C t:Addr}{tb:Value}{Q:Unit->Shared->Prop}
  (hfr:A.frames=some (env::outer)) (hl:s.heap.FunFrames base (env::outer)) (hf:env.frame=some L) (he:s.heap.get? x=some (Zo C t tb)) (ht:Tb s.heap x tb)
  (h:∀ h' T,Noted ((env::outer).filterMap (·.frame)) x tb s.heap h'->h'.get? x=some (Zo C t (.ref T))->Tb h' x (.ref T)->s.heap.objs.size<=T->Q () {s with heap:=h'}) :
  wpAny M A (noteFrame (.ref x) env) (λ_ s'=>wpAny M A (setFlight (.ref x) none) Q E s') E s:=by
 unfold noteFrame;simp only[hf];refine wpAny_bind (wpAny_field he rfl (x:=tb) rfl ?_);cases ht with
 |no =>
  rw[if_neg (by decide)];exact YC hfr hl hf he λh' T k1 k2 e1 e2 e3=>h h' T ⟨λb o hb nb _ eb=>k1 b o hb nb eb,λb o hb _ _ eb=>k2 b o hb eb⟩ e1 e2 e3
 |@«at» T o ts ne ho hd h3 =>
  rw[if_pos (show(Value.ref T != Value.none)=true from by simp)];refine wpAny_bind (wpAny_field ho hd h3 ?_);rw[if_neg (show ¬((Value.none==rawInt L)=true) from by simp[rawInt])];refine wpAny_bind (wpAny_setField ho hd (Vk.mp h3).1 ?_);have other:∀ b,b≠T->(s.heap.update T (Obj.mapFields (·.setIfInBounds 3 Value.none))).get? b=s.heap.get? b:=λb nb=>Ui _ _ (Ne.symm nb);have nrec:∀ b o,s.heap.get? b=some o->(∀ vs,o.data≠.fields vs)->b≠T:=λb o eb nf z=>by
   rw[z,ho] at eb;cases eb;exact nf ts hd
  refine YC (s:={s with heap:=s.heap.update T (Obj.mapFields (·.setIfInBounds 3 Value.none))}) hfr (hl.of_keeps λb o eb nf=>⟨o,(other b (nrec b o eb nf)).trans eb,rfl⟩) hf ((other x (Ne.symm ne)).trans he)
   λh' T' k1 k2 e1 e2 e3=>h h' T' ⟨λb o hb nb nt eb=>k1 b o hb nb ((other b λz=>nt (z ▸ rfl)).trans eb),λb o hb _ nt eb=>k2 b o hb ((other b λz=>nt (z ▸ rfl)).trans eb)⟩ e1 e2 ?_
  have e3':(s.heap.update T (Obj.mapFields (·.setIfInBounds 3 Value.none))).objs.size<=T':=e3;rw[UB] at e3';exact e3'
theorem qaE{x C t T:Addr}{Q:Unit->Shared->Prop}(he:s.heap.get? x=some (Zo C t (.ref T)))(ht:Tb s.heap x (.ref T))(h:Q () s):wpAny M A (setFlight (.ref x) none) Q E s:=by
 cases ht with
 |@«at» _ o ts ne ho hd h3 =>
  refine wpAny_setFlight_none he rfl rfl ho hd (Vk.mp h3).1 ?_;have e:=Heap.update_setField_same s.heap T o ts 3 .none ho hd h3;have e':({s with heap:=s.heap.update T (Obj.mapFields (·.setIfInBounds 3 Value.none))}:Shared)=s:=by rw[e]
  rw[e'];exact h
end
noncomputable def cxH(X:Cx)(x:Addr)(o:Obj):Cx:={X with A:=X.A.mark (some (.ref x)),calm:=false,pn:=X.pn++[(x,o)],xe:=λ_ _=>False}
section
variable {X:Cx} {pins:List (Addr×Obj)} {σ:L2.St} {H:Hp} {s:Shared} {x:Addr} {o:Obj}
theorem ybC(I:Inv X pins σ H s)(g:s.heap.get? x=some o)(f:ExOk X pins H x)(d:∀ v,o.data≠.cell v):Inv (cxH X x o) pins σ H s :=
 ⟨⟨I.ok.mod,I.ok.kind,I.ok.glob,I.ok.blt,I.ok.above,I.ok.inj,I.ok.has,I.ok.cab,λz=>absurd (show false=true from z) Ug,I.ok.frames,I.ok.stk,I.ok.exf,I.ok.bs,I.ok.bsz,I.ok.noex,I.ok.exfs,I.ok.funs,I.ok.frf⟩,I.os,I.bare,I.base,I.loc,I.cell,I.free,I.freeC,λp hp=>by
  rcases xg.mp hp with hp|hp
  ·rcases xg.mp hp with hp|hp
   ·exact I.pin p (Wf _ hp)
   ·obtain rfl:=Uc.mp hp;exact⟨g,f.un,f.loc,f.fs,d⟩
  ·exact I.pin p (Xd _ hp),I.hok,I.len⟩
end
structure FunD (K:PySem.W.Frag) (x qual:Str) (st:Stmt) (f:Addr) (fd:FuncData):Prop where
 ex:∃(oc:Value)(od:Option Addr)(dV kV doc pm:Value)(an:Option Addr)(cdv ct:Value) (osl:Array (Option Value)),
  fd=Xi x qual (Qj st) (zh st) (Qb st) dV kV doc pm an cdv ct/\K.lookup f=some ⟨oc,od,.func fd,osl⟩/\um K cdv qual=true
 kp:Wh K (.ref f)=true
theorem QbJ{K:PySem.W.Frag}{x qual:Str}{st:Stmt}{f:Addr}{oc:Value}{od an:Option Addr}{osl:Array (Option Value)}{dV kV doc pm cdv ct:Value}(l:K.lookup f=some ⟨oc,od,.func (Xi x qual (Qj st) (zh st) (Qb st) dV kV doc pm an cdv ct),osl⟩)
  (c:um K cdv qual=true) (k:Wh K (.ref f)=true):FunD K x qual st f (Xi x qual (Qj st) (zh st) (Qb st) dV kV doc pm an cdv ct):=⟨⟨oc,od,dV,kV,doc,pm,an,cdv,ct,osl,rfl,l,c⟩,k⟩
structure RoomH (k:Nat) (A:Around) (x:Addr):Prop where
 hd:A.handled=some (.ref x)
 dp:A.depth+3*k+5<recursionLimit
 un:A.units+16*k+200<cLine
structure FnOkH (P:Program) (w:World) (K:PySem.W.Frag) (mg:Str->Option Value) (base:Heap) (k:Nat) (f:Addr) (fd:FuncData) (ps:List Str) (sp:Addr->Addr->Sp):Prop where
 len:∀ x C vs H Q E,sp x C vs H Q E->vs.length=ps.length
 run:∀(x C t T:Addr)(A:Around)(outer:List Env)(s:Shared)(H:Hp) (args:Args) (us:List Value) (vs:List V) (Q:VK),RoomH k A x->Env0 P w K mg base A outer s H->s.heap.get? x=some (Zo C t (.ref T))->H x=none->BindsTo s fd args (ps.zip us)->Vals vs us->sp x C vs H Q E0 ->
  codeAny (model P w) A (.call (.ref f) args) (CR CX0 outer P w H s Q E0) s
theorem Y5{prog:Program}{w:World}{A:Around}(hh:A.handled=none)(b:Bool)(I ax:Addr)(hne:ax≠I)(items:Array Value) :
  Walks prog w A I [I,ax] [I] items.size (λi v=>items[i]?=some v) (λi h=>SeqIt h b I ax i/\SeqIs h b ax items):=by
 cases b with
 |false=>exact Walks.list hh I ax hne items
 |true =>
  exact{
   sub:=λb hb=>by simp at hb;simp[hb]
   frame:=λ_ _ _ st hk=>⟨st.1.keeps λo e=>hk I (by simp) o e,st.2.keeps λo e=>hk ax (by simp) o e⟩
   item:=λi s Q E hi st hQ=>by
    refine wpAny_pyNext_tuple_item (show s.heap.IsTupleIter I ax i from st.1) (show s.heap.IsTuple ax items from st.2) (x:=items[i]) (by simp[hi]) λh' a sb=>?_;exact hQ _ h' s.toks (by simp[hi]) ⟨a,st.2.keeps λo e=>sb.extBut ax o hne e⟩ λb o hb e=>sb.extBut b o (λz=>hb (by simp[z])) e
   done:=λs Q E st hQ=>wpAny_pyNext_tuple_end hh (show s.heap.IsTupleIter I ax items.size from st.1) (show s.heap.IsTuple ax items from st.2) (by simp) λh' he=>hQ h' s.toks λb o hb e=>he b o (λz=>hb (by simp[z])) e
   self:=λ_ _ _ _ st hQ=>wpAny_pyIter_tupleiter (show Heap.IsTupleIter _ I ax _ from st.1) hQ}
theorem Qz{ns:List Int}{us:List Value}(r:Vals (ns.map V.int) us){i:Nat}{v:Value}(h:us.toArray[i]?=some v):∃ t,v=.int (ns.getD i 0) t:=by
 have h':us[i]?=some v:=by simpa using h
 have lt:i<us.length:=(ua.mp h').1;have hl:=r.length;rw[xc] at hl;obtain⟨u,hu,ru⟩:=r.get (i:=i) (x:=.int (ns.getD i 0)) (by rw[Vc,Wc (by lia),uj,Wc (by lia)];rfl);rw[hu] at h';cases h';exact ru
theorem QbO{bs:List Bool}{us:List Value}(r:Vals (bs.map V.bl) us){i:Nat}{v:Value}(h:us.toArray[i]?=some v):v=.bool (bs.getD i true):=by
 have h':us[i]?=some v:=by simpa using h
 have lt:i<us.length:=(ua.mp h').1;have hl:=r.length;rw[xc] at hl;obtain⟨u,hu,ru⟩:=r.get (i:=i) (x:=.bl (bs.getD i true)) (by rw[Vc,Wc (by lia),uj,Wc (by lia)];rfl);rw[hu] at h';cases h';exact ru
theorem zbw(bs:List Bool):(xa bs.length).all (λi=>bs.getD i true)=bs.all id:=by
 rw[WB,xh,xh];constructor
 ·intro h x hx;obtain⟨i,hi,e⟩:=Xw hx;have:=h i (Wi.mpr hi);rw[uj,Wc hi] at this;rw[<- e];exact this
 ·intro h i hi;rw[uj,Wc (Wi.mp hi)];exact h _ (xo _)
theorem zat(val:Nat->Int)(bt:Nat->Nat->Bool)(hb:∀ i j,bt i j=decide (val i<val j)):∀ k,argBest bt k<=k/\∀ j,j<=k->val (argBest bt k)<=val j
 |0=>⟨wb _,λj hj=>by
  have:j=0:=by lia
  subst this;exact xr _⟩
 |k+1=>by
  obtain⟨h1,h2⟩:=zat val bt hb k;show(if bt (k+1) (argBest bt k) then k+1 else argBest bt k)<=k+1/\∀ j,j<=k+1->val (if bt (k+1) (argBest bt k) then k+1 else argBest bt k)<=val j;rw[hb];by_cases c:val (k+1)<val (argBest bt k)
  ·simp only[c,decide_true,if_true];refine⟨wb _,λj hj=>?_⟩;by_cases e:j=k+1
   ·rw[e];exact xr _
   ·have:=h2 j (by lia);lia
  ·simp only[c,decide_false,Vd,if_false];refine⟨by lia,λj hj=>?_⟩;by_cases e:j=k+1
   ·rw[e];lia
   ·exact h2 j (by lia)
theorem YbE(val:Nat->Int)(bt:Nat->Nat->Bool)(hb:∀ i j,bt i j=decide (val j<val i)):∀ k,argBest bt k<=k/\∀ j,j<=k->val j<=val (argBest bt k):=λk=>by
 have h:=zat (λi=>- val i) bt (λi j=>by rw[hb];congr 1;apply propext;constructor <;> intro h <;> lia) k;exact⟨h.1,λj hj=>by have:=h.2 j hj;lia⟩
section
variable {X:Cx}
noncomputable def rAll(K:PySem.W.Frag):List V->Hp->VK->Prop:=λxs H Q=>∃(b:Bool)(a:Addr)(bs:List Bool),xs=[.ref a]/\SqS K H b a (bs.map V.bl)/\Q (.bl (bs.all id)) H
noncomputable def rMin(K:PySem.W.Frag):List V->Hp->VK->Prop:=λxs H Q=>∃(b:Bool)(a:Addr)(ns:List Int),xs=[.ref a]/\SqS K H b a (ns.map V.int)/\ns≠[]/\∀ m,m∈ns->(∀ k∈ns,m<=k)->Q (.int m) H
noncomputable def rMax(K:PySem.W.Frag):List V->Hp->VK->Prop:=λxs H Q=>∃(b:Bool)(a:Addr)(ns:List Int),xs=[.ref a]/\SqS K H b a (ns.map V.int)/\ns≠[]/\∀ m,m∈ns->(∀ k∈ns,k<=m)->Q (.int m) H
theorem ZI{a:Addr}{us:List Value}(r:Vals [V.ref a] us):us=[Value.ref a]:=by
 cases r with
 |cons r rr =>
  cases rr;obtain rfl:_=Value.ref a:=r;rfl
theorem ybW{s:Shared}{a:Addr}(h:a<s.heap.objs.size)(o:Obj):∀ b∈[s.heap.objs.size,a],b<(s.heap.push o).objs.size:=λb hb=>by
 rw[Xg];simp only[Ua,Xc,or_false] at hb
 rcases hb with e|e
 ·rw[e];exact xm _
 ·rw[e];exact Xq h
theorem Qby(hc:X.calm=true):CallR X (.builtin "all") (rAll X.K):=by
 intro pins s σ H xs us Q I r h;obtain⟨b,a,bs,rfl,hq,q⟩:=h;obtain rfl:=ZI r;obtain⟨its,v,p,_⟩:=qi I hq;have lt:=p.lt;refine call_all_walk (Yv p ⟨s.heap.objs.size,[s.heap.objs.size,a],[s.heap.objs.size],its.toArray.size,_,_,λi=>bs.getD i true,rfl,Y5 (yf (I.ok.hd hc)) b _ a (wc lt) its.toArray,⟨.new (Ub _ rfl),p.keeps λo e=>wa _ e⟩,λi u s' Q' E' hu hQ=>?_,λh' tk k=>?_⟩)
 ·rw[QbO v hu];exact wpAny_truthy_bool hQ
 have hl:=v.length;rw[xc] at hl;rw[Va,<- hl,zbw];exact⟨.bl _,H,I.kept (t':=tk) (λc o e=>k c o (λz=>absurd (va e) (by simp at z;rw[z];exact Xj _)) (wa _ e)),rfl,q⟩
theorem zaJ{ns:List Int}{i:Nat}(h:i<ns.length):ns.getD i 0∈ns:=by
 rw[uj,Wc h];exact xo _
theorem zW{ns:List Int}{k:Int}(h:k∈ns):∃ i,i<ns.length/\ns.getD i 0=k:=by
 obtain⟨i,hi,e⟩:=Xw h;exact⟨i,hi,by rw[uj,Wc hi];exact e⟩
theorem qba(hc:X.calm=true):CallR X (.builtin "min") (rMin X.K):=by
 intro pins s σ H xs us Q I r h;obtain⟨b,a,ns,rfl,hq,ne,q⟩:=h;obtain rfl:=ZI r;obtain⟨its,v,p,_⟩:=qi I hq;have lt:=p.lt;have hl:=v.length;rw[xc] at hl;have pos:0<ns.length:=uw.mpr ne;refine call_min_walk (Yv p ⟨s.heap.objs.size,[s.heap.objs.size,a],[s.heap.objs.size],its.toArray.size,_,_,λi j=>decide (ns.getD i 0<ns.getD j 0),rfl,Y5 (yf (I.ok.hd hc)) b _ a (wc lt) its.toArray,⟨.new (Ub _ rfl),p.keeps λo e=>wa _ e⟩,ybW lt _,by simp;lia,λi j vi vj s' Q' E' hi hj hQ=>?_,λu h' tk hu k=>?_⟩)
 ·obtain⟨t1,rfl⟩:=Qz v hi;obtain⟨t2,rfl⟩:=Qz v hj;exact lt_int hQ
 obtain⟨t,rfl⟩:=Qz v hu;obtain⟨b1,b2⟩:=zat (λi=>ns.getD i 0) _ (λ_ _=>rfl) (its.toArray.size-1);rw[Va] at b1 b2 ⊢;refine⟨.int _,H,I.kept (t':=tk) (λc o e=>k c o (λz=>absurd (va e) (by simp at z;rw[z];exact Xj _)) (wa _ e)),⟨t,rfl⟩,q _ (zaJ (by lia)) λm hm=>?_⟩;obtain⟨i,hi,e⟩:=zW hm;rw[<- e];exact b2 i (by lia)
theorem Ybe(hc:X.calm=true):CallR X (.builtin "max") (rMax X.K):=by
 intro pins s σ H xs us Q I r h;obtain⟨b,a,ns,rfl,hq,ne,q⟩:=h;obtain rfl:=ZI r;obtain⟨its,v,p,_⟩:=qi I hq;have lt:=p.lt;have hl:=v.length;rw[xc] at hl;have pos:0<ns.length:=uw.mpr ne;refine call_max_walk (Yv p ⟨s.heap.objs.size,[s.heap.objs.size,a],[s.heap.objs.size],its.toArray.size,_,_,λi j=>decide (ns.getD j 0<ns.getD i 0),rfl,Y5 (yf (I.ok.hd hc)) b _ a (wc lt) its.toArray,⟨.new (Ub _ rfl),p.keeps λo e=>wa _ e⟩,ybW lt _,by simp;lia,λi j vi vj s' Q' E' hi hj hQ=>?_,λu h' tk hu k=>?_⟩)
 ·obtain⟨t1,rfl⟩:=Qz v hi;obtain⟨t2,rfl⟩:=Qz v hj;exact gt_int hQ
 obtain⟨t,rfl⟩:=Qz v hu;obtain⟨b1,b2⟩:=YbE (λi=>ns.getD i 0) _ (λ_ _=>rfl) (its.toArray.size-1);rw[Va] at b1 b2 ⊢;refine⟨.int _,H,I.kept (t':=tk) (λc o e=>k c o (λz=>absurd (va e) (by simp at z;rw[z];exact Xj _)) (wa _ e)),⟨t,rfl⟩,q _ (zaJ (by lia)) λm hm=>?_⟩;obtain⟨i,hi,e⟩:=zW hm;rw[<- e];exact b2 i (by lia)
noncomputable def Qbv:V->Option Value
 |.ty n=>some (.type n)
 |.ref a=>some (.ref a)
 |_=>none
theorem ZaG{x:V}{c u:Value}(h:Qbv x=some c)(r:RelV x u):u=c:=by
 cases x with
 |ty n=>cases h;exact r
 |ref a=>cases h;exact r
 |_=>cases h
noncomputable def rIs(K:PySem.W.Frag):List V->Hp->VK->Prop:=λxs H Q=>∃ x cv t c b,xs=[x,cv]/\Qbv cv=some c/\TyOf K H x t/\ud K t c=some b/\Q (.bl b) H
theorem ZbK:CallR X (.builtin "isinstance") (rIs X.K):=by
 intro pins s σ H xs us Q I r h;obtain⟨x,cv,t,c,b,rfl,e,ty,k,q⟩:=h;cases r with
 |cons r rr =>
  cases rr with
  |cons r' rr =>
   cases rr;have:=ZaG e r';subst this;exact qa7 I r ty k λtk=>⟨.bl b,H,I.tok tk,rfl,q⟩
end
noncomputable def Zbp(C x:Addr):Heap->Prop:=λh=>∃ t T,h.get? x=some (Zo C t (.ref T))
section
variable {X:Cx} {pins:List (Addr×Obj)} {σ:L2.St} {H:Hp} {s:Shared} {x:Addr} {o:Obj}
theorem Qbc(ok:X.Ok)(I:Inv (cxH X x o) pins σ H s):Inv X ((x,o)::pins) σ H s :=
 ⟨ok,I.os,I.bare,I.base,I.loc,I.cell,I.free,I.freeC,λp hp=>by
  rcases xg.mp hp with hp|hp
  ·exact I.pin p (Wf _ (Wf _ hp))
  ·rcases Ua.mp hp with rfl|hp
   ·exact I.pin _ (Wf _ (Xd _ (Uc.mpr rfl)))
   ·exact I.pin p (Xd _ hp),I.hok,I.len⟩
theorem yaK(I:Inv X ((x,o)::pins) σ H s):Inv X pins σ H s :=
 ⟨I.ok,I.os,I.bare,I.base,I.loc,I.cell,I.free,I.freeC,λp hp=>by
  rcases xg.mp hp with hp|hp
  ·exact I.pin p (Wf _ hp)
  ·exact I.pin p (Xd _ (We _ hp)),I.hok,I.len⟩
theorem yaU{D:Addr}{o:HO}{H':Hp}(I:Inv X pins σ H s)(f0:H D=none)(f:ExOk X pins H' D)(new:ObjOk X.prog X.w (upd H D o) s.heap D o):Inv X pins σ (upd H D o) s:=by
 refine⟨I.ok,I.os,I.bare,⟨I.base.keep,I.base.slot,λb u e n hx=>?_,I.base.there,λb xs e=>?_,λb u xs e=>?_,λb ps e=>?_⟩,I.loc,I.cell,?_,λx c e=>?_,λp hp=>?_,zal I.hok f0 new,I.len⟩
 ·rw[Yb (λz=>by rw[z,f.new] at e;cases e)];exact I.base.free b u e n hx
 ·have q:=I.base.tups b xs e;rw[Yb (Yc q f0)];exact q
 ·have q:=I.base.frzs b u xs e;rw[Yb (Yc q f0)];exact q
 ·obtain⟨m,q⟩:=I.base.tbls b ps e;exact⟨m,by rw[Yb (Yc q f0)];exact q⟩
 ·rw[Yb (Ne.symm f.loc)];exact I.free
 ·rw[Yb (f.cell x c e)];exact I.freeC x c e
 ·obtain⟨e1,e2,e3,e4,e5⟩:=I.pin p hp;exact⟨e1,by rw[Yb (f.pin p hp)];exact e2,e3,e4,e5⟩
theorem Qbj{C t T:Addr}{H':Hp}(I:Inv X ((x,Zo C t (.ref T))::pins) σ H s)(fx:ExOk X pins H' x):Inv X pins σ (upd H x (.ext (Zbp C x))) s:=by
 obtain⟨g,un,_,_,_⟩:=I.pin (x,Zo C t (.ref T)) (Xd _ Uh);refine yaU (yaK I) un fx ?_;exact⟨⟨t,T,g⟩,⟨_,g⟩,λh1 h2 ⟨t,T,e⟩ k=>⟨t,T,k _ e⟩⟩
end
section
variable {X:Cx} {body:List Stmt} {c0 n y:Str} {np hpos pos p2 p4 p6:Pos} {i j:Nat} {B:Addr} {tb:L2.St->XK->TS}
noncomputable def tTryK(K:PySem.W.Frag)(i j:Nat)(B:Addr)(tb:L2.St->XK->TS):TS:=λD σ H=>∃ E:XK,tb σ E D σ H/\∀ C H',E (.ref C) none H'->qz K C/\(zr K C).contains (.ref B)=true /\
 ∀ x,H' x=none->D.nx (((σ.set i (some (.ref x))).set j (some (.ref x))).set i none) (upd H' x (.ext (Zbp C x)))
theorem qbM(hst:X.stack=X.env::X.outer)(hef:X.env.frame=some X.env.locals)(hN:X.N.Nodup)(hi:X.N[i]?=some n)(hk:X.env.scope.names.lookup n=some .local)(hj:X.N[j]?=some y)(hy:Loc X.env.scope y)(qB:qz X.K B)(hg:Gl X c0)(hm:X.mg c0=some (.ref B))
  (hb:∀ pins σ E,PSs (cxT X pins σ E) body (tb σ E)) (hv:(n==("__debug__":Str))=false) (hv2:(n==("__classdict__":Str))=false) (hf:X.fn y=true\/X.env.scope.names.lookup y=some .local) (hd:(c0==("__debug__":Str))=false:=by decide) :
  PS X (.Try body [.ExceptHandler (some (.Name c0 np)) (some n) [.Assign [.Name y p2] (.Name n p4) p6] hpos] [] [] pos) (tTryK X.K i j B tb):=by
 intro pins s σ H D I h;obtain(⟨E,hbod,hand⟩):=h;refine wpAny_Try_except (wpAny_mono (hb pins σ E [] s σ H D (zbF I) hbod) (λf s1 q=>?_) λe s1 q=>?_)
 ·cases f with
  |next=>obtain(⟨σ',H',I',q⟩):=q;exact wpAny_execs_nil ⟨σ',H',QN I',q⟩
  |brk=>obtain(⟨σ',H',I',q⟩):=q;exact⟨σ',H',QN I',q⟩
  |cont=>obtain(⟨σ',H',I',q⟩):=q;exact⟨σ',H',QN I',q⟩
  |ret u=>obtain(⟨v,σ',H',I',r,q⟩):=q;exact⟨v,σ',H',QN I',r,q⟩
 ·obtain(⟨x,C,t,tb',H',rfl,I1,g1,t1,fx,ft,q⟩):=q;obtain(⟨qC,hin,hand⟩):=hand C H' q;refine ZaL (env:=X.env) (outer:=X.outer) (L:=X.env.locals) (by rw[I1.ok.frames,hst]) (by have z:=I1.stack;rw[hst] at z;exact z) hef g1 t1 λh' T n1 g2 t2 g3=>?_;have n1':Noted (frs X.stack) x tb' s1.heap h':=by rw[hst];exact n1
  have I2:Inv X pins σ H' {s1 with heap:=h'}:=Yba (t':=s1.toks) I1 n1' g1 t1 fx ft;have IH:=ybC (o:=Zo C t (.ref T)) I2 g2 fx (λv z=>nomatch z);refine wpAny_handleBy_cons (codeAny_handlers_test (qI (X:=cxH X x (Zo C t (.ref T))) IH hg hm ?_ hd)) (λz=>nomatch z);refine zaA qC qB hin IH.kIn g2 (codeAny_handlers_suite_as (qaE g2 t2 ?_));refine Y4 (X:=cxH X x (Zo C t (.ref T))) IH hN hi (.inl hk) (v:=.ref x) (u:=.ref x) rfl (λs3 I3=>?_) (.inr hk);have li:i<σ.length:=by rw[I.len];exact(ua.mp hi).1
  have hh:=QaZ (Zbz (X:=cxH X x (Zo C t (.ref T))) (pos:=p6) (pos':=p2) hN hj hy (Qbp (X:=cxH X x (Zo C t (.ref T))) (pos:=p4) hi (.inl hk) hv hv2) (by rfl) hf);refine wpAny_mono (hh pins s3 _ H' {nx:=λσ4 H4=>σ4=(σ.set i (some (.ref x))).set j (some (.ref x))/\H4=H',rt:=λ_ _=>False,bk:=λ_ _=>False,ct:=λ_ _=>False} I3 ⟨.ref x,by rw[uf li],rfl,rfl⟩) (λf s4 q4=>?_) λ_ _ z=>z.elim;cases f with
  |next =>
   obtain(⟨σ4,H4,I4,rfl,rfl⟩):=q4;exact qbe (Qbc I.ok I4) hN hi hk λs5 I5=>⟨_,_,Qbj I5 fx,hand x fx.un⟩
  |brk=>obtain(⟨σ4,H4,I4,q4⟩):=q4;exact q4.elim
  |cont=>obtain(⟨σ4,H4,I4,q4⟩):=q4;exact q4.elim
  |ret u=>obtain(⟨v,σ4,H4,I4,r4,q4⟩):=q4;exact q4.elim
noncomputable def rIsE(K:PySem.W.Frag):List V->Hp->VK->Prop:=λxs H Q=>∃ x C cv c b,xs=[.ref x,cv]/\H x=some (.ext (Zbp C x))/\ExcK K C/\Qbv cv=some c/\ud K (.ref C) c=some b/\Q (.bl b) H
theorem zbn:CallR X (.builtin "isinstance") (rIsE X.K):=by
 intro pins s σ H xs us Q I r h;obtain⟨x,C,cv,c,b,rfl,hx,Z,e,k,q⟩:=h;cases r with
 |cons r rr =>
  cases rr with
  |cons r' rr =>
   cases rr;have:=ZaG e r';subst this;obtain rfl:_=Value.ref x:=r;obtain⟨⟨t,T,g⟩,_⟩:=I.hok x _ hx;exact xi (ybh Z) I.kIn ⟨t,_,g⟩ k (λz=>nomatch z) λtk=>⟨.bl b,H,I.tok tk,rfl,q⟩
end
section
variable {X:Cx}
theorem YaG:∀{ns:List Int}{us:List Value},Vals (ns.map V.int) us->IntsAre us ns
 |[],_,r=>by cases r;exact .nil
 |n::ns,_,r=>by
  rw[Wd] at r;cases r with
  |cons h t=>obtain⟨t',rfl⟩:=(show ∃ t,_=Value.int n t from h);exact .cons n t' (YaG t)
theorem Q7:∀{ns:List Int}{us:List Value},IntsAre us ns->Vals (ns.map V.int) us
 |_,_,.nil=>.nil
 |_,_,.cons n t h=>.cons ⟨t,rfl⟩ (Q7 h)
end
noncomputable def Src(K:PySem.W.Frag)(mg:Str->Option Value)(x:Str)(st:Stmt)(ps:List Str):Prop:=∃ f fd,FunD K x x st f fd/\Binds K fd ps []/\mg x=some (.ref f)
noncomputable def yaz(P:Program)(w:World)(K:PySem.W.Frag)(mg:Str->Option Value)(base:Heap)(x:Str)(k:Nat)(ps:List Str)(sp:Sp):Prop :=
 ∃ f fd,FnOk P w K mg base (CX1 P w) k f fd ps sp/\Binds K fd ps []/\Wh K (.ref f)=true/\mg x=some (.ref f)
section
variable {P:Program} {w:World} {K:PySem.W.Frag} {mg:Str->Option Value} {base:Heap} {x:Str} {ps:List Str} {sp:Sp}
noncomputable abbrev cxD(P:Program)(w:World)(K:PySem.W.Frag)(mg:Str->Option Value)(base:Heap)(N:List Str)(x:Str)(st:Stmt)(f:Addr)(cd:Value)(A:Around)(outer:List Env)(s:Shared)(H:Hp)(E:XK):Cx :=
 YY (CX1 P w) P w K mg base N x (Qb st) f cd A outer s H E
theorem qb9{st:Stmt}{N:List Str}{k:Nat}(S:Src K mg x st ps)(sc:FnScope N ps (Qb st))(len:∀ vs H Q E,sp vs H Q E->vs.length=ps.length)
  (hbody:∀(f:Addr)(cdv:Value)(A:Around)(outer:List Env)(s:Shared) (H:Hp) (vs:List V) (Q:VK) (E:XK),Room k (A.deeper (envOfC x (Qb st) s.heap.objs.size f cdv))->sp vs H Q E ->
   ∃ t,PSs (cxD P w K mg base N x st f cdv A outer s H E) (zh st) t/\t {nx:=λ_ H'=>Q .non H',rt:=Q} (start N vs) H):yaz P w K mg base x (k+1) ps sp:=by
 obtain⟨f,fd,F,b,m⟩:=S;refine⟨f,fd,?_,b,F.kp,m⟩;obtain⟨oc,od,dV,kV,doc,pm,an,cdv,ct,osl,rfl,lk,hcd⟩:=F.ex;exact Ybl lk hcd sc len λA outer s H vs Q E hr hsp=>hbody f cdv A outer s H vs Q E hr hsp
end
section
variable {X:Cx} {k:Nat} {ps:List Str} {sp:Sp} {E:XK} {x:Str} {p pos:Pos} {e:Expr} {es:List Expr} {t:TA} {σ0:L2.St}
theorem qbc(d:yaz X.prog X.w X.K X.mg X.base x k ps sp)(hr:Room k X.A)(hg:Gl X x)(hx:yr (CX1 X.prog X.w) X σ0 E)(ha:PA X (e::es) t)(hdb:(x==("__debug__":Str))=false:=by decide)
  (he:starEach (e::es) X.env=(false,eval e X.env)::starEach es X.env:=by rfl) (hpl:(backTo pos (starEach es X.env)).any (·.1)=false:=by rfl):PE X (.Call (.Name x p) (e::es) [] pos) (zbj σ0 sp [] E t):=by
 obtain⟨f,fd,F,b,kp,m⟩:=d;exact qbv F hr hg m kp b .nil hx ha hdb he hpl
end
section
variable {X:Cx} {tg:Expr}
noncomputable def Its(K:PySem.W.Frag)(b:Bool)(a:Addr):It:=if b=true then Itt K a else Itl K a
noncomputable def iSq(K:PySem.W.Frag)(tl:TE):TI:=λσ H R=>tl σ H λx H1=>∃ b a,x=.ref a/\(∃ xs,SqS K H1 b a xs)/\R (Its K b a) H1
theorem pi_sq{l:Expr}{tl:TE}(hl:PE X l tl):PI X tg l (iSq X.K tl):=by
 intro pins s σ H R I h;refine thn (hl pins s σ H _ I h) λv s1 ⟨x,H1,I1,r1,q1⟩=>?_;obtain⟨b,a,e,⟨xs,hq⟩,q⟩:=q1;subst e;cases r1;cases b with
 |false =>
  obtain⟨its,rv,p,hz⟩:=I1.list (show SqL X.K H1 a xs from hq);refine wpAny_pyIter_list p.isList ?_;refine⟨s1.heap.objs.size,[s1.heap.objs.size],_,_,H1,rfl,I1.kept (t':=s1.toks) λb o e=>wa _ e,Qa6 a _,⟨_,Ub _ rfl,rfl,rfl⟩,λb hb=>?_,q⟩;obtain rfl:=Uc.mp hb;exact I1.fpOk (wb _) (I1.hok.fresh (wb _))
 |true =>
  obtain⟨its,rv,p,hz⟩:=I1.tuple (show SqT X.K H1 a xs from hq);refine wpAny_pyIter_tuple (show s1.heap.IsTuple a its.toArray from p) ?_;refine⟨s1.heap.objs.size,[s1.heap.objs.size],_,_,H1,rfl,I1.kept (t':=s1.toks) λb o e=>wa _ e,QaO a _,⟨_,Ub _ rfl,rfl,rfl⟩,λb hb=>?_,q⟩;obtain rfl:=Uc.mp hb;exact I1.fpOk (wb _) (I1.hok.fresh (wb _))
end
theorem Its.go{K:PySem.W.Frag}{b:Bool}{a:Addr}{i:Nat}{H:Hp}{xs:List V}(h:SqS K H b a xs)(hi:i<xs.length):(Its K b a).go i H:=by
 cases b with
 |false=>exact⟨xs,xs[i],h,by simp[hi]⟩
 |true=>exact⟨xs,xs[i],h,by simp[hi]⟩
theorem Its.stop{K:PySem.W.Frag}{b:Bool}{a:Addr}{H:Hp}{xs:List V}(h:SqS K H b a xs):(Its K b a).stop xs.length H:=by
 cases b with
 |false=>exact⟨xs,h,wb _⟩
 |true=>exact⟨xs,h,wb _⟩
theorem Its.yld{K:PySem.W.Frag}{b:Bool}{a:Addr}{i:Nat}{H H':Hp}{xs:List V}{x:V}(h:SqS K H b a xs)(y:(Its K b a).yld i H x H'):H'=H/\xs[i]?=some x:=by
 cases b with
 |false=>exact⟨y.1,y.2 xs h⟩
 |true=>exact⟨y.1,y.2 xs h⟩
noncomputable def zbo(P:Program)(w:World)(K:PySem.W.Frag)(mg:Str->Option Value)(base:Heap)(x:Str)(C:Addr)(k:Nat)(ps:List Str)(sp:Sp):Prop :=
 ∃ f fd,Mk K C f/\FnOk P w K mg base (CX1 P w) k f fd ps sp/\Binds K fd ps []/\mg x=some (.ref C)
section
variable {X:Cx} {k:Nat} {ps:List Str} {sp:Sp} {E:XK} {x:Str} {C:Addr} {p pos:Pos} {e:Expr} {es:List Expr} {t:TA} {σ0:L2.St}
theorem qa5(d:zbo X.prog X.w X.K X.mg X.base x C k ps sp)(hr:Room (k+1) X.A)(hg:Gl X x)(hx:yr (CX1 X.prog X.w) X σ0 E)(ha:PA X (e::es) t)(hdb:(x==("__debug__":Str))=false:=by decide)
  (he:starEach (e::es) X.env=(false,eval e X.env)::starEach es X.env:=by rfl) (hpl:(backTo pos (starEach es X.env)).any (·.1)=false:=by rfl):PE X (.Call (.Name x p) (e::es) [] pos) (ybr σ0 C sp [] E t):=by
 obtain⟨f,fd,M,F,b,m⟩:=d;exact zbu M F hr hg m b .nil hx ha hdb he hpl
end
section
variable {X:Cx} (K:PySem.W.Frag)
noncomputable def rLen(K:PySem.W.Frag):List V->Hp->VK->Prop:=λxs H Q=>∃ p ys,xs=[.ref p]/\(SqL K H p ys\/SqT K H p ys)/\Q (.int ys.length) H
noncomputable def rLst(K:PySem.W.Frag):List V->Hp->VK->Prop:=λxs H Q=>∃ p ys,xs=[.ref p]/\(SqL K H p ys\/SqT K H p ys)/\∀ l,H l=none->Q (.ref l) (upd H l (.lst ys))
noncomputable def rTup(K:PySem.W.Frag):List V->Hp->VK->Prop:=λxs H Q=>∃ p ys,xs=[.ref p]/\((SqL K H p ys/\∀ l,H l=none->Q (.ref l) (upd H l (.tup ys)))\/(SqT K H p ys/\Q (.ref p) H))
theorem k_len(h:X.K=K:=by rfl):CallR X (.builtin "len") (rLen K):=h ▸ yap
theorem Qcg(h:X.K=K:=by rfl):CallR X (.type "list") (rLst K):=h ▸ zau
theorem QbN(h:X.K=K:=by rfl):CallR X (.type "tuple") (rTup K):=h ▸ zai
theorem k_all(c:X.calm=true:=by rfl)(h:X.K=K:=by rfl):CallR X (.builtin "all") (rAll K):=h ▸ Qby c
theorem k_min(c:X.calm=true:=by rfl)(h:X.K=K:=by rfl):CallR X (.builtin "min") (rMin K):=h ▸ qba c
theorem k_max(c:X.calm=true:=by rfl)(h:X.K=K:=by rfl):CallR X (.builtin "max") (rMax K):=h ▸ Ybe c
theorem k_isi(h:X.K=K:=by rfl):CallR X (.builtin "isinstance") (rIs K):=h ▸ ZbK
noncomputable def rIxQ(K:PySem.W.Frag):R2:=λx y H Q=>∃ b p xs i v,x=.ref p/\y=.int i/\SqS K H b p xs/\atI xs i=some v/\Q v H
theorem k_ix(h:X.K=K:=by rfl):IxR X (rIxQ K):=by
 subst h;intro value slice pins s σ H x y v u Q I rx ry hq hs;obtain⟨b,p,xs,i,z,e1,e2,hq,ha,q⟩:=hq;cases b with
 |false=>exact ybH value slice pins s σ H x y v u Q I rx ry ⟨p,xs,i,z,e1,e2,hq,ha,q⟩ hs
 |true=>exact YbY value slice pins s σ H x y v u Q I rx ry ⟨p,xs,i,z,e1,e2,hq,ha,q⟩ hs
theorem k_fld{e:Expr}{f:Str}{pos:Pos}{ta:TE}(he:PE X e ta)(hb:attributeBase e f X.env (eval e X.env)=eval e X.env:=by rfl)(h:X.K=K:=by rfl):PE X (.Attribute e f pos) (tFld K ta f):=h ▸ Qcf he hb
theorem k_sq{tg l:Expr}{tl:TE}(hl:PE X l tl)(h:X.K=K:=by rfl):PI X tg l (iSq K tl):=h ▸ pi_sq hl
theorem k_zip{a b:Expr}{ta:TA}{p pos:Pos}{es:List Expr}{kt:Nat}{pt:Pos}(hg:Gl X "zip")(hm:X.mg "zip"=none)(ha:PA X [a,b] ta)(hs:starEach [a,b] X.env=[(false,eval a X.env),(false,eval b X.env)]:=by rfl)(hs2:starEach [b] X.env=[(false,eval b X.env)]:=by rfl)(h:X.K=K:=by rfl) :
  PI X (.Tuple es kt pt) (.Call (.Name "zip" p) [a,b] [] pos) (iZip K ta):=h ▸ zb9 hg hm ha hs hs2
end
end L3
end
section
namespace L3
open PySem PySem.Spec PyProof.Rows L2 M3
structure WordC (K:PySem.W.Frag) (cs:List Addr) (C:Addr) (i:Nat):Prop where
 z:ExcK K C
 kj:∀(j:Nat) D,cs[j]?=some D->ud K (.ref C) (.ref D)=some (decide (j=i))
 ve:ud K (.ref C) (.type "ValueError")=some true
 i10:i<10
noncomputable def zbt(P:Program)(w:World)(K:PySem.W.Frag)(mg:Str->Option Value)(base:Heap)(x:Str)(k:Nat)(ps:List Str)(sp:Addr->Addr->Sp):Prop :=
 ∃ f fd,FnOkH P w K mg base k f fd ps sp/\Binds K fd ps []/\Wh K (.ref f)=true/\mg x=some (.ref f)
end L3
end
section
namespace L2
open PySem PySem.Spec PyProof.Rows
noncomputable def rlen(lo hi st:Int):Nat:=if lo<hi then((hi-lo-1)/st+1).toNat else 0
noncomputable def ItrS(lo st:Int)(n:Nat):It:=⟨λi _=>i<n,λi H x H'=>H'=H/\x=.int (lo+i*st),λi _=>n<=i⟩
theorem zaE{P:Program}{w:World}{K:PySem.W.Frag}{tg:Expr}(it:Addr)(lo st:Int)(n:Nat):Turn P w K tg (ItrS lo st n) [it] it (λi h=>IsRangeIter h it (lo+(i:Nat)*st) ((n:Int)-(i:Nat)) st) where
 mem:=by simp
 obj:=λi h st b hb=>by
  have e:b=it:=by simpa using hb
  subst e;exact⟨_,st,λv z=>by
   have z':Data.fields _=Data.cell v:=z;cases z'⟩
 keep:=λi h h' st k=>k it (by simp) _ st
 item:=by
  intro X hP hw hK hc i pins s σ H E I hf st' hg;subst hP hw hK;obtain⟨f0,f1,f2,f3,f4,f5⟩:=hf it (by simp);have W:=Walks.range (prog:=X.prog) (w:=X.w) (I.ok.hd hc) it lo st n;refine W.item i s _ _ hg st' λv h' tk hv st'' kk=>?_;obtain⟨t,rfl⟩:=hv;have I1:Inv X pins σ H {s with heap:=h',toks:=tk}:=I.turned (λb o hb e=>kk b o (by simpa using hb) e) f0 f1 f3 f4 f5;exact⟨_,rfl,ZaZ (s:={s with heap:=h',toks:=tk}) (n:="range_iterator") st'' rfl rfl (by decide) ⟨.int (lo+i*st),H,I1,⟨t,rfl⟩,⟨rfl,rfl⟩,st'',λb hb=>(hf b hb).1⟩⟩
 done:=by
  intro X hP hw hK hc i pins s σ H E I hf st' hg;subst hP hw hK;obtain⟨f0,f1,f2,f3,f4,f5⟩:=hf it (by simp);exact wpAny_pyNext_range_end (I.ok.hd hc) st' (by have:n<=i:=hg;lia) λh' eb=>⟨rfl,I.turned (t':=s.toks) (λb o hb e=>eb b o hb e) f0 f1 f3 f4 f5⟩
 self:=λ_ _ _ _ _ st h=>wpAny_pyIter_rangeiter st h
theorem qa3{lo hi st:Int}(h:0<st):Builtin.Range.rangeSize lo hi st=rlen lo hi st:=by
 unfold Builtin.Range.rangeSize rlen;rw[if_pos h];split
 ·have:=Int.ediv_nonneg (a:=hi-lo-1) (b:=st) (by lia) (by lia)
  lia
 ·rfl
theorem Qbs{a b c:Int}(h1:-(2^30)<=a)(h2:a<2^30)(h3:-(2^30)<=b)(h4:b<2^30)(h5:0<c)(h6:c<2^30):Builtin.Range.small a b c=true:=by
 have e:Builtin.Range.rangeSize a b c=rlen a b c:=qa3 h5;have el:(rlen a b c:Int)<=2^31:=by
  unfold rlen;split
  ·have h7:0<=(b-a-1)/c:=Int.ediv_nonneg (by lia) (by lia);have h8:(b-a-1)/c<=b-a-1:=Int.ediv_le_self _ (by lia)
   lia
  ·simp
 unfold Builtin.Range.small;rw[e];have f:∀ x:Int,-(2^62)<=x->x<2^62->Builtin.Range.rangeFitsLong x=true:=by
  intro x k1 k2;unfold Builtin.Range.rangeFitsLong;simp
  lia
 rw[f a (by lia) (by lia),f b (by lia) (by lia),f c (by lia) (by lia),f _ (by lia) (by lia),if_pos h5,f (b+(c-1)) (by lia) (by lia)];simp
section
variable {X:Cx} {tg:Expr}
theorem ya7{pins:List (Addr×Obj)}{σ:St}{H:Hp}{s:Shared}{R:It->Hp->Prop}{E:Value->Shared->Prop}{lo hi st:Int}{t u v:Tok}{tk:Nat}(I:Inv X pins σ H s)(h1:-(2^30)<=lo)(h2:lo<2^30)(h3:-(2^30)<=hi)(h4:hi<2^30)(h5:0<st)(h6:st<2^30)
  (q:R (ItrS lo st (rlen lo hi st)) H):wpAny (model X.prog X.w) X.A (pyIter (.ref s.heap.objs.size)) (PIE X pins σ tg R) E {s with heap:=s.heap.push {cls:=.type "range",data:=.fields #[.int lo t,.int hi u,.int st v]},toks:=tk}:=by
 refine wpAny_pyIter_range (IsRange.new ..) (Qbs h1 h2 h3 h4 h5 h6) ?_;have I1:Inv X pins σ H {s with heap:=s.heap.push {cls:=.type "range",data:=.fields #[.int lo t,.int hi u,.int st v]},toks:=tk}:=I.kept λb o e=>wa _ e;refine⟨(s.heap.push {cls:=.type "range",data:=.fields #[.int lo t,.int hi u,.int st v]}).objs.size,[(s.heap.push {cls:=.type "range",data:=.fields #[.int lo t,.int hi u,.int st v]}).objs.size],_,_,H,rfl,
  I1.kept (t':=tk) λb o e=>wa _ e,zaE _ lo st (rlen lo hi st),?_,λb hb=>?_,q⟩
 ·have e1:lo+((0:Nat):Int)*st=lo:=by simp
  have e2:((rlen lo hi st:Nat):Int)-((0:Nat):Int)=Builtin.Range.rangeSize lo hi st:=by rw[qa3 h5];simp
  show IsRangeIter _ _ (lo+((0:Nat):Int)*st) (((rlen lo hi st:Nat):Int)-((0:Nat):Int)) st;rw[e1,e2];exact Ub _ rfl
 ·have e:b=(s.heap.push {cls:=.type "range",data:=.fields #[.int lo t,.int hi u,.int st v]}).objs.size:=by simpa using hb
  subst e;exact I1.fpOk (wb _) (I1.hok.fresh (wb _))
noncomputable def iRng3(ta:TA):TI:=λσ H R=>ta σ H λvs H1=>∃ i j k:Int,vs=[.int i,.int j,.int k]/\(-(2^30)<=i/\i<2^30/\-(2^30)<=j/\j<2^30/\0<k/\k<2^30)/\R (ItrS i k (rlen i j k)) H1
theorem zbb{a b c:Expr}{ta:TA}{p pos:Pos}(hg:Gl X "range")(hm:X.mg "range"=none)(ha:PA X [a,b,c] ta)(hs:starEach [a,b,c] X.env=[(false,eval a X.env),(false,eval b X.env),(false,eval c X.env)]:=by rfl)(hs2:starEach [b,c] X.env=[(false,eval b X.env),(false,eval c X.env)]:=by rfl) :
  PI X tg (.Call (.Name "range" p) [a,b,c] [] pos) (iRng3 ta):=by
 intro pins s σ H R I h;refine Call_ (Zy I hg hm boot_range (PyProof.Rows.callWith_type1 (thn (ha pos pins s σ H _ I h) λus s1 ⟨vs,H1,I1,r1,q1⟩=>?_) (by rw[hs,hs2]) (by rw[hs2];rfl)));obtain⟨i,j,k,e,⟨q1,q2,q3,q4,q5,q6⟩,q⟩:=q1;subst e;cases r1 with
 |cons r rr =>
  cases rr with
  |cons r' rr =>
   cases rr with
   |cons r'' rr =>
    cases rr;obtain⟨t,rfl⟩:=r;obtain⟨t',rfl⟩:=r';obtain⟨t'',rfl⟩:=r'';exact call_range_3 (by lia) (ya7 I1 q1 q2 q3 q4 q5 q6 q) (.inl (PyProof.noPylong_small (by lia)))
noncomputable def Zbq:V->List V->Hp->VK->Prop:=λx vs H Q=>∃ l b xs zs,x=.ref l/\vs=[.ref b]/\H l=some (.lst xs)/\Rd H b (.lst zs)/\xs.length+zs.length<=sizeLine/\Q .non (upd H l (.lst (xs++zs)))
theorem qaV:MtM X "list.extend" Zbq:=by
 intro pins s σ H x vs v us Q I rx rv h;obtain⟨l,b,xs,zs,rfl,rfl,hH,hB,hz,q⟩:=h;cases rx;obtain⟨u,rfl,ru⟩:=rv.one;cases ru;obtain⟨z,its,n,r,hl,e⟩:=I.lstM hH;obtain⟨z2,its2,n2,r2,e2⟩:=hB.ok I.hok;have hl2:=r2.length;have hsz:its.toArray.size+its2.toArray.size<=sizeLine:=by rw[Va,Va];lia
 have hlong:¬(!its.toArray.isEmpty&&Builtin.List.listTooLong (its.toArray.size+its2.toArray.size))=true:=by
  rw[YaF hsz,Bool.and_false];exact Ug
 refine call_meets F.slot_list_extend ⟨_,e,rfl⟩ F.entry_list_extend (F.args_list_extend_2 _ _)
  (AutoSeq1.list_extend_list_list_0 l its.toArray n b its2.toArray n2 hlong (by rw[Va];lia) (by lia)) ⟨e,e2,?_⟩
 refine⟨.non,_,I.lset (its':=its++its2) hH e (by simp) (r.append r2) ?_,rfl,q⟩;rw[Xf]
 lia
end
end L2
end
section
namespace L3
open PySem PySem.Spec PyProof.Rows L2 M3
section
variable {X:Cx} {k:Nat} {E:XK} {x m:Str} {p pos apos:Pos} {e o:Expr} {es:List Expr} {ta:TE} {t:TA} {σ0:L2.St}
noncomputable def Qb6(P:Program)(w:World)(K:PySem.W.Frag)(mg:Str->Option Value)(base:Heap)(k:Nat)(C:Addr)(m:Str)(sp:Sp):Prop :=
 Cls K C/\∃ f fd ps,Meth K C m f/\FnOk P w K mg base (CX1 P w) k f fd ps sp/\Binds K fd ps []
structure Mk0 (K:PySem.W.Frag) (C:Addr):Prop where
 makes:Ws K C=true
 init:ue K (.ref C) "__init__"=some (some (.builtin "object.__init__"))
 kp:Wh K (.ref C)=true
theorem Qa5{C:Addr}{pins:List (Addr×Obj)}{σ:L2.St}{H:Hp}{s:Shared}{Q:VK}(M:Mk0 X.K C)(I:Inv X pins σ H s)
  (h:∀ x dx,H x=none->H dx=none->dx≠x->Q (.ref x) (upd (upd H dx (.own x)) x (.ins C dx []))):wpAny (model X.prog X.w) X.A (call (.ref C) []) (EP X pins σ Q) X.xe s:=by
 have hq:=h (s.heap.objs.size+1) s.heap.objs.size (I.hok.fresh (Ut _)) (I.hok.fresh (wb _)) (wc (xm _));have I2:=Inv.made (C:=C) I;have Y:=Uz (M:=model X.prog X.w) I.kIn M.makes;have hx:((s.heap.push Wg).push (Vg C s.heap.objs.size)).get? (s.heap.objs.size+1)=some (Vg C s.heap.objs.size):=by
  have:=Ub (s.heap.push Wg) (o:=Vg C s.heap.objs.size) rfl
  rwa [Xg] at this
 refine wpAny_call (Za8 I.kIn M.makes M.init (λself=>PySem.W.Looks.of_pure (PySem.W.oi_bind self)) ?_);have t1:PySem.W.Looks (model X.prog X.w) ((s.heap.push Wg).push (Vg C s.heap.objs.size)) (typeOf (.ref (s.heap.objs.size+1))) (.ref C):=(PySem.W.Looks.ld hx).andThen .now;have t2:PySem.W.Looks (model X.prog X.w) ((s.heap.push Wg).push (Vg C s.heap.objs.size)) (isInstance (.ref (s.heap.objs.size+1)) (.type "object")) true:=t1.andThen (Y.top.keeps λb o e=>wa _ (wa _ e));refine codeAny_call_builtin PySem.W.oi_plain PySem.W.entry_oi (@PySem.W.check_slot (model X.prog X.w) _ _ _ "object.__init__" "object" "__init__" (.ref (s.heap.objs.size+1)) [] [] _ PySem.W.oi_kind PySem.W.oi_split t2 (PySem.W.oi_args (.ref (s.heap.objs.size+1))) ?_);rw[PySem.W.oi_run];exact wpAny_pure (And.intro rfl ⟨V.ref (s.heap.objs.size+1),_,I2,rfl,hq⟩)
noncomputable def qb7(C:Addr):TE:=λσ H Q=>∀ x dx,H x=none->H dx=none->dx≠x->Q (.ref x) (upd (upd H dx (.own x)) x (.ins C dx []))
theorem zba{C:Addr}(M:Mk0 X.K C)(hg:Gl X x)(hm:X.mg x=some (.ref C))(hdb:(x==("__debug__":Str))=false):PE X (.Call (.Name x p) [] [] pos) (qb7 C):=by
 intro pins s σ H Q I h;refine wpAny_Call_Name_kw (qI I hg hm ?_ hdb);exact PySem.W.callWith_K0 I.kIn M.kp (Qa5 M I h)
end
end L3
end
section
namespace L3
open PySem PySem.Spec PyProof.Rows L2 M3
end L3
end
section
namespace L3
open PySem PySem.Spec PyProof.Rows L2 M3
noncomputable def tabF(P:Addr)(lp:Pos)(oc:Option Addr):Heap->Prop:=λh=>∃ ps:Array Value,h.get? P=some (PySem.W.tabObj ps)/\TriplesOk ps.toList/\codeAmong lp ps.toList=oc.map Value.ref
noncomputable def codF(c':Addr)(q:Str):Heap->Prop:=λh=>h.CodeRec (.ref c') q
structure LamB (mg:Str->Option Value) (base:Heap) (c P:Addr):Prop where
 code:PySem.W.CodeHd base c P
 bmain:∃ bm ob,mg "__builtins__"=some (.ref bm)/\bm≠builtinsNs/\base.get? bm=some ob/\ob.cls=.type "module"/\ob.dict=some builtinsNs/\ob.data=.plain
end L3
end
section
namespace L3
open PySem PySem.Spec PyProof.Rows L2 M3
end L3
end
section
namespace L3
open PySem PySem.Spec PyProof.Rows L2 M3
section
variable {prog:Program} {w:World} {A:Around} {h:Heap} {g:Array GenState} {d:Drawn} {t:Nat} {os:OsState} {a:Addr} {its:Array Value} {n:Nat}
noncomputable abbrev lstO(its:Array Value)(n:Nat):Obj:={cls:=.type "list",data:=.seq its n}
end
end L3
end
section
namespace L3
open PySem PySem.Spec PyProof.Rows L2 M3
noncomputable def Ybk:Nat:=64
theorem YK:∀ a<Ybk,hashInt (a:Int)=(a:Int):=by decide +kernel
noncomputable def qaR(k:Int×Int):Prop:=(0<=k.1/\k.1<64)/\0<=k.2/\k.2<64
end L3
end
section
namespace L3
open PySem PySem.Spec PyProof.Rows L2 M3
end L3
end
section
namespace M3
open PySem
open Sem (wp)
end M3
namespace L3
open PySem PySem.Spec PyProof.Rows L2 M3
end L3
end
section
namespace L3
open PySem PySem.Spec PyProof.Rows L2 M3
end L3
end
section
namespace L3
open PySem L2 PyProof.Rows
end L3
end
section
namespace L3
open PySem PySem.Spec PyProof.Rows L2 M3 PySem.Builtin PySem.Builtin.Str
section
variable {X:Cx} {o e:Expr} {apos cpos:Pos} {td ty:TE}
noncomputable def rIntS:List V->Hp->VK->Prop:=λxs H Q=>∃ x n,xs=[.str x]/\PySem.intText? x=some n/\x.length<=640/\Q (.int n) H
theorem Qbd:CallR X (.type "int") rIntS:=by
 intro pins s σ H xs us Q I r h;obtain⟨x,n,rfl,hn,hl,q⟩:=h;cases r with
 |cons r rr =>
  cases rr;obtain⟨t,rfl⟩:=(show ∃ t,_=Value.str x t from r);exact PySem.W.KIN.call_text hn hl ⟨.int n,H,I.tok _,⟨_,rfl⟩,q⟩
end
end L3
end
section
namespace L3
open PySem PySem.Spec PyProof.Rows L2 M3
end L3
end
section
namespace MP
open PySem
noncomputable def belGo(xs:List Nat)(j:Nat):Nat->Nat->Nat->Nat
 |0,lo,_=>lo
 |fuel+1,lo,hi=>if lo<hi then(if xs.getD ((lo+hi)/2) j<j then belGo xs j fuel ((lo+hi)/2+1) hi else belGo xs j fuel lo ((lo+hi)/2)) else lo
noncomputable def belL(xs:List Nat)(j:Nat):Nat:=belGo xs j xs.length 0 xs.length
noncomputable def prbGo(mask:Nat)(place:List Nat)(hs:List Int)(h:Int):Nat->Nat->Nat->Nat->Nat->Option Nat
 |0,_,_,_,_=>none
 |fuel+1,j,more,i,pt =>
  let b:=belL place j
  if place[b]?=some j then
   (if(hs[b]?).getD 0=h then none else
   if more>0 then prbGo mask place hs h fuel (j+1) (more-1) i pt else
   let l:=SetTable.leap mask i pt
   prbGo mask place hs h fuel l.1 (SetTable.runEnd mask l.1-l.1) l.1 l.2)
  else some j
noncomputable def putL{α:Type}(xs:List α)(p:Nat)(x:α):List α:=xs.take p++x::xs.drop p
structure LT where
 hs:List Int
 mask:Nat
 place:List Nat
 moves:Nat
noncomputable def layOne(s:LT)(h:Int):Option LT :=
 if s.mask%2==0 then none else
 let i:=SetTable.bits h%(s.mask+1)
 match prbGo s.mask s.place s.hs h (10*SetTable.turns s.mask) i (SetTable.runEnd s.mask i-i) i (SetTable.bits h) with
 |some j =>
  let p:=belL s.place j
  let pl:=putL s.place p j
  let hs1:=putL s.hs p h
  if pl.length=hs1.length/\pl.length<=s.mask/\hs1.length<=100000 then
   if pl.length*5>=s.mask*3 then
    (if SetTable.sizeAbove (SetTable.grown hs1.length)>sizeLine then none else
    let m:=SetTable.sizeAbove (SetTable.grown hs1.length)-1
    match SetTable.layClean m hs1.toArray with
    |some owner =>
     let live:=(xa (m+1)).filterMap λj=>(owner.getD j none).map (j,·)
     let hs2:=(live.map (·.2)).filterMap (hs1[·]?)
     if hs2.length=hs1.length/\live.length=hs1.length/\live.length<=m then some ⟨hs2,m,live.map (·.1),(if s.mask==7&&m==7 then s.moves else s.moves+1)⟩ else none
    |none=>none)
   else some ⟨hs1,s.mask,pl,s.moves⟩
  else none
 |none=>none
noncomputable def layFrom(l:List Int):Option LT:=l.foldlM layOne ⟨[],7,[],0⟩
noncomputable def layB(hs:List Int):Bool:=match layFrom hs with
 |some st=>st.hs.length==hs.length
 |none=>false
noncomputable def hashK(k:Int×Int):Int:=reduceHash (Builtin.Tuple.tupleHashOf [k.1,k.2])
noncomputable def layP(ks:List (Int×Int)):Bool:=layB (ks.map hashK)
end MP
end
section
namespace L3
open PySem PySem.Spec PyProof.Rows L2 M3
noncomputable def Yai(hs:Array Int)(t:SetTable)(h:Int):Option (Array Int×SetTable) :=
 if t.gaveWay then none else
 match t.probe (λi=>(hs[i]?).getD 0) h (t.probeStart h) with
 |some (.empty j none) =>
  let t1:=(t.put j).1
  let hs1:=SetTable.insertAt hs (t.put j).2 h
  if !(t1.fits hs1.size&&t1.plain)||decide (hs1.size>100000) then none else
  if t1.tooFull then
   if decide (SetTable.sizeAbove (SetTable.grown (hs.size+1))>sizeLine) then none else
   match t1.relaid hs1 (SetTable.grown (hs.size+1)) with
   |some (t2,order) =>
    let hs2:=order.filterMap (hs1[·]?)
    if hs2.size==hs1.size&&t2.fits hs2.size&&t2.plain then some (hs2,t2) else none
   |none=>none
  else some (hs1,t1)
 |_=>none
noncomputable abbrev ZY(s:MP.LT)(led:Bool):SetTable:=⟨s.mask,s.place.toArray,#[],0,led,s.moves,true⟩
theorem zaN(xs:List Nat)(j:Nat):∀(fuel lo hi:Nat),SetTable.below.go xs.toArray j fuel lo hi=MP.belGo xs j fuel lo hi
 |0,lo,hi=>rfl
 |fuel+1,lo,hi=>by
  have i1:=zaN xs j fuel ((lo+hi)/2+1) hi;have i2:=zaN xs j fuel lo ((lo+hi)/2);have g:xs.toArray.getD ((lo+hi)/2) j=xs.getD ((lo+hi)/2) j:=by simp
  unfold SetTable.below.go MP.belGo;dsimp only;rw[i1,i2,g]
theorem ybl(xs:List Nat)(j:Nat):SetTable.below xs.toArray j=MP.belL xs j:=by
 unfold SetTable.below MP.belL;rw[zaN];simp
theorem ybK(s:MP.LT)(led:Bool)(j:Nat):(ZY s led).slot j=if s.place[MP.belL s.place j]?=some j then .live (MP.belL s.place j) else .empty:=by
 unfold SetTable.slot;simp only[ZY,ybl];by_cases c:s.place[MP.belL s.place j]?=some j
 ·simp[c]
 ·simp[c,SetTable.has]
theorem qaM(s:MP.LT)(led:Bool)(h:Int):∀(fuel j more i pt r:Nat),MP.prbGo s.mask s.place s.hs h fuel j more i pt=some r ->
  SetTable.probe.go (ZY s led) (λi=>(s.hs.toArray[i]?).getD 0) h fuel ⟨j,more,i,pt,none⟩=some (.empty r none)
 |0,j,more,i,pt,r,e=>by cases e
 |fuel+1,j,more,i,pt,r,e=>by
  unfold MP.prbGo at e;unfold SetTable.probe.go;simp only[ybK];dsimp only at e;by_cases c:s.place[MP.belL s.place j]?=some j
  ·rw[if_pos c] at e;rw[if_pos c];dsimp only;by_cases d:(s.hs[MP.belL s.place j]?).getD 0=h
   ·rw[if_pos d] at e;cases e
   ·rw[if_neg d] at e;have d':((s.hs.toArray[MP.belL s.place j]?).getD 0==h)=false:=by simpa using d
    rw[d'];simp only[Vd,if_false];unfold SetTable.advance;by_cases m:more>0
    ·rw[if_pos m] at e;simp only[m,if_true];exact qaM s led h fuel _ _ _ _ r e
    ·rw[if_neg m] at e;simp only[m,if_false];exact qaM s led h fuel _ _ _ _ r e
  ·rw[if_neg c] at e;cases e;rw[if_neg c]
theorem yaY{α:Type}(xs:List α)(p:Nat)(x:α):SetTable.insertAt xs.toArray p x=(MP.putL xs p x).toArray:=by
 unfold SetTable.insertAt MP.putL;apply WI;simp[Us,vk]
set_option tactic.hygienic true in
theorem Zce(s s':MP.LT)(led:Bool)(h:Int)(e:MP.layOne s h=some s'):Yai s.hs.toArray (ZY s led) h=some (s'.hs.toArray,ZY s' led):=by
 unfold MP.layOne at e;split at e
 ·cases e
 next hm =>
 dsimp only at e;split at e
 next j hj =>
  have hp:=qaM s led h _ _ _ _ _ _ hj;unfold Yai;rw[if_neg (by simpa[SetTable.gaveWay] using hm)];have hp':(ZY s led).probe (λi=>(s.hs.toArray[i]?).getD 0) h ((ZY s led).probeStart h)=some (.empty j none):=hp;rw[hp'];have hput:(ZY s led).put j=(⟨s.mask,(MP.putL s.place (MP.belL s.place j) j).toArray,#[],0,led,s.moves,true⟩,MP.belL s.place j):=by
   unfold SetTable.put;simp[ZY,ybl,yaY,SetTable.has]
  dsimp only;rw[hput];dsimp only;rw[yaY];generalize hpl:MP.putL s.place (MP.belL s.place j) j=pl at *;generalize hh1:MP.putL s.hs (MP.belL s.place j) h=hs1 at *;split at e
  next hc =>
   obtain⟨c1,c2,c3⟩:=hc;have ft:SetTable.fits ⟨s.mask,pl.toArray,#[],0,led,s.moves,true⟩ hs1.toArray.size=true:=by
    simp[SetTable.fits,SetTable.fill,c1];lia
   rw[if_neg (by rw[ft];simp;exact c3)];have tf:SetTable.tooFull ⟨s.mask,pl.toArray,#[],0,led,s.moves,true⟩=decide (pl.length*5>=s.mask*3):=by
    simp[SetTable.tooFull,SetTable.fill]
   rw[tf];have hl1:s.hs.toArray.size+1=hs1.length:=by
    rw[<- hh1];unfold MP.putL;simp only[Xf,Xm,Ue,Xu,Va]
    lia
   rw[hl1];split at e
   next hf =>
    rw[if_pos (decide_eq_true hf)];split at e
    ·cases e
    next hz =>
    rw[if_neg (by simpa using hz)];unfold SetTable.relaid SetTable.laid;dsimp only;split at e
    next owner ho =>
     rw[ho];simp only[ur,xk,xB];generalize hm2:SetTable.sizeAbove (SetTable.grown hs1.length)-1=m2 at *;generalize hlv:(xa (m2+1)).filterMap (λj=>(owner.getD j none).map (j,·))=live at *;have ef:(uv (λx=>hs1.toArray[x]?) (live.map (·.2)).toArray)=((live.map (·.2)).filterMap (hs1[·]?)).toArray:=by
      apply WI;simp
     split at e
     next hc =>
      obtain⟨k1,k2,k3⟩:=hc;show(if((uv (λx=>hs1.toArray[x]?) (live.map (·.2)).toArray).size==hs1.toArray.size&&SetTable.fits ⟨m2,(live.map (·.1)).toArray,#[],0,led,SetTable.movedTo ⟨s.mask,pl.toArray,#[],0,led,s.moves,true⟩ m2,true⟩ (uv (λx=>hs1.toArray[x]?) (live.map (·.2)).toArray).size&&true)=true then some (uv (λx=>hs1.toArray[x]?) (live.map (·.2)).toArray,(⟨m2,(live.map (·.1)).toArray,#[],0,led,SetTable.movedTo ⟨s.mask,pl.toArray,#[],0,led,s.moves,true⟩ m2,true⟩:SetTable)) else none)=_;rw[ef];have q1:((live.map (·.2)).filterMap (hs1[·]?)).toArray.size=hs1.length:=by rw[Va];exact k1
      have q2:SetTable.fits ⟨m2,(live.map (·.1)).toArray,#[],0,led,SetTable.movedTo ⟨s.mask,pl.toArray,#[],0,led,s.moves,true⟩ m2,true⟩ hs1.length=true:=by
       simp only[SetTable.fits,SetTable.fill,Va,xc,Wp,Uv,k2,beq_self_eq_true,Wu,decide_eq_true_eq];exact k2 ▸ k3
      rw[q1,q2];rw[if_pos (by simp)];cases e;rfl
     next=>cases e
    next=>cases e
   next hf =>
    cases e;rw[if_neg (by simpa using hf)]
  next=>cases e
 next=>cases e
section
variable {prog:Program} {w:World} {A:Around} {E:Value->Shared->Prop} {s:Shared} {a T:Addr} {o0:Option Obj}
theorem ZbF(n:Nat)(i:Int)(t:Tok):hashByValue n (.int i t)=pure true:=by cases n <;> rfl
theorem ZbL{its:Array Value}{Q:Bool->Shared->Prop}(ht:IsTup s.heap T its)(hi:∀ v∈its.toList,∃ i t,v=Value.int i t)(h:Q true s):wpAny (model prog w) A (hashByValue 8 (.ref T)) Q E s:=by
 obtain⟨o,ho,hc,n,hd⟩:=ht;have hT:s.TypeIs (.ref T) "tuple":=⟨o,ho,hc⟩;unfold hashByValue;refine wpAny_bind (wpAny_specialOf hT F.slot_tuple_hash.lookup ?_);dsimp only;refine wpAny_bind (wpAny_seqItems ho hd ?_);refine wpAny_bind ?_;show wpAny _ _ (forIn its _ _) _ _ s;rw[<- xp];refine wpAny_forIn_list _ (λrest r s'=>r.1=none/\s'=s/\∀ v∈rest,∃ i t,v=Value.int i t) _ ?_ ?_ _ _ ⟨rfl,rfl,hi⟩
 ·rintro v rest r s' ⟨hr,rfl,hall⟩;obtain⟨i,t,rfl⟩:=hall v Uh;rw[ZbF];refine wpAny_bind (wpAny_pure ?_);simp only[xy,Vd,if_false];exact wpAny_pure ⟨rfl,rfl,λu hu'=>hall u (We _ hu')⟩
 ·rintro⟨r1,r2⟩ s' ⟨hr,rfl,_⟩;simp only at hr;subst hr;exact wpAny_pure h
noncomputable def SetAt(h:Heap)(a:Addr)(es:Array (Int×Value))(t:SetTable):Prop:=∃ o ep,h.get? a=some o/\o.ExactSet/\o.data=.set es ep t/\t.fits es.size=true
theorem SetAt.put{h:Heap}{es:Array (Int×Value)}{t:SetTable}(S:SetAt h a es t)(es':Array (Int×Value))(t':SetTable)(hf:t'.fits es'.size=true):SetAt (h.update a (Obj.putSet es' t')) a es' t':=by
 obtain⟨o,ep,ho,hex,hd,_⟩:=S;have hg:(h.update a (Obj.putSet es' t')).get? a=some {o with data:=.set es' (ep+1) t'}:=by
  have:=xn (Obj.putSet es' t') ho (by rw[putSet_of es' t' hd];rfl);rw[putSet_of es' t' hd] at this;exact this
 exact⟨_,_,hg,hex,rfl,hf⟩
theorem zbH(es:Array (Int×Value))(p:Nat)(h:Int)(x:Value):(SetTable.insertAt es p (h,x)).map (·.1)=SetTable.insertAt (es.map (·.1)) p h:=by
 unfold SetTable.insertAt;simp[Array.map_append,Array.map_push,Array.map_extract]
theorem zaw(es:Array (Int×Value))(order:Array Nat):(order.filterMap (es[·]?)).map (·.1)=order.filterMap ((es.map (·.1))[·]?):=by
 apply WI;simp only[Array.toList_map,Array.toList_filterMap]
 induction order.toList with
 |nil=>rfl
 |cons i l ih =>
  simp only[Xr,vE];cases es[i]? with
  |none=>simpa using ih
  |some e=>simpa using ih
set_option tactic.hygienic true in
theorem ybA{es:Array (Int×Value)}{t t':SetTable}{h:Int}{hs':Array Int}{Q:Bool->Shared->Prop}(S:SetAt s.heap a es t)
  (lay:Yai (es.map (·.1)) t h=some (hs',t')) (hv:∀(s:Shared)(Q:Bool->Shared->Prop),s.heap.get? T=o0->Q true s->wpAny (model prog w) A (hashByValue 8 (.ref T)) Q E s) (hT:s.heap.get? T=o0)
  (q:∀ h' es',SetAt h' a es' t'->es'.map (·.1)=hs'->Heap.SameBut a s.heap h'->Q true {s with heap:=h'}) :
  wpAny (model prog w) A (setAddHashed a (.ref T) h) Q E s:=by
 obtain(⟨o,ep,ho,hex,hd,hf⟩):=S;have S:SetAt s.heap a es t:=⟨o,ep,ho,hex,hd,hf⟩;have hsa:(λi:Nat=>((es.map (λe:Int×Value=>e.1))[i]?).getD 0)=λi=>(es[i]?.map (λe:Int×Value=>e.1)).getD 0:=by funext i;rw[vE]
 unfold Yai at lay;rw[hsa] at lay;split at lay
 ·cases lay
 next hgw =>
 split at lay
 next j hp =>
  dsimp only at lay;split at lay
  ·cases lay
  next hf1 =>
  simp only[xj,Vh,decide_eq_true_eq,not_or,Bool.not_eq_false,Wa] at hf1;obtain(⟨⟨hf1,hpl⟩,hz⟩):=hf1;rw[<- zbH (x:=.ref T)] at hf1 hz lay;rw[Wl] at hf1 hz;unfold setAddHashed setAddHashedIn;refine wpAny_holding (wpAny_bind (wpAny_setState_of ho hd hf ?_));dsimp only;rw[if_neg (by simp[byScan,Value.scannable])];unfold setSearch setSearchFrom;refine wpAny_bind (wpAny_bind (wpAny_setState_of ho hd hf ?_));dsimp only;rw[if_neg hgw];split
  next met hm =>
   have e:=Option.some.inj ((show t.probe (λi=>(es[i]?.map (λe:Int×Value=>e.1)).getD 0) h (t.probeStart h)=some met from hm).symm.trans hp);subst e;dsimp only;refine wpAny_pure ?_;dsimp only;refine wpAny_bind (wpAny_setState_of ho hd hf ?_);dsimp only;rw[if_pos hpl];generalize hes1:SetTable.insertAt es (t.put j).snd (h,Value.ref T)=es1 at *;generalize (t.put j).fst=t1 at *;refine wpAny_bind (hv _ _ hT ?_);simp only[if_true];refine wpAny_bind (wpAny_storeSet_of ho hd ?_ (Xe (uu hz) (by decide)));have S1:=S.put es1 t1 hf1;have sb1:=Heap.SameBut.update s.heap a (Obj.putSet es1 t1);generalize s.heap.update a (Obj.putSet es1 t1)=h1 at *;split at lay
   next htf =>
    split at lay
    ·cases lay
    next hsz =>
    simp only[decide_eq_true_eq] at hsz;split at lay
    next t2 order hrl =>
     split at lay
     next hc =>
      simp only[Wa,beq_iff_eq] at hc;obtain(⟨⟨hc1,hc2⟩,hc3⟩):=hc;rw[if_pos (by rw[htf];rfl)];obtain(⟨o1,ep1,ho1,hex1,hd1,_⟩):=S1;unfold setRelay;refine wpAny_bind (wpAny_bind (wpAny_setState_of (s:={s with heap:=h1}) ho1 hd1 hf1 ?_));dsimp only;rw[Wl] at hsz;rw[if_neg hsz];rw[Wl] at hrl;rw[hrl];have hs2:(order.filterMap (es1[·]?)).size=es1.size:=by
       have:=hc1;rw[Wl,<- zaw,Wl] at this;exact this
      refine wpAny_bind ?_;show wpAny _ _ (do
       if(order.filterMap (es1[·]?)).size != es1.size then unsupported "internal:set-table-lost-an-element"
       pure (order.filterMap (es1[·]?),t2)) _ _ _
      rw[if_neg (by rw[hs2];simp)];refine wpAny_pure ?_;dsimp only;have S1':SetAt h1 a es1 t1:=⟨o1,ep1,ho1,hex1,hd1,hf1⟩;refine wpAny_storeSet_of (s:={s with heap:=h1}) ho1 hd1 (wpAny_pure ?_) (by rw[hs2];exact Xe (uu hz) (by decide));have hf2:t2.fits (order.filterMap (es1[·]?)).size=true:=by
       have:=hc2;rw[<- zaw,Wl] at this;exact this
      have S2:=S1'.put _ t2 hf2;have e2:=zaw es1 order;cases lay;exact q _ _ S2 e2 (sb1.trans (Heap.SameBut.update h1 a _))
     next=>cases lay
    next=>cases lay
   next htf =>
    cases lay;rw[if_neg (by simpa using htf)];exact wpAny_pure (q _ _ S1 rfl sb1)
  next hm =>
   exact absurd ((show t.probe (λi=>(es[i]?.map (λe:Int×Value=>e.1)).getD 0) h (t.probeStart h)=none from by
    cases e:t.probe (λi=>(es[i]?.map (λe:Int×Value=>e.1)).getD 0) h (t.probeStart h) with
    |none=>rfl
    |some met=>exact absurd e (hm met)).symm.trans hp) (by simp)
 next=>cases lay
end
noncomputable abbrev qbx(k:Int×Int):List Key:=[(Sum.inl k.1:Key),Sum.inl k.2]
noncomputable def YF(prog:Program)(w:World)(k:Int×Int):Int:=(tupleKind (Qk prog w)).hash (qbx k)
noncomputable def yF(led:Bool)(l:List Int):Option (Array Int×SetTable):=l.foldlM (λst h=>Yai st.1 st.2 h) (#[],SetTable.fresh 0 0 led)
theorem YaP(led:Bool)(l:List Int)(h:Int):yF led (l++[h])=(yF led l).bind λst=>Yai st.1 st.2 h:=by
 unfold yF;rw[VE];cases List.foldlM (λst h=>Yai st.1 st.2 h) (#[],SetTable.fresh 0 0 led) l with
 |none=>rfl
 |some st=>simp
theorem qbb(led:Bool)(l m:List Int){r:Array Int×SetTable}(h:yF led (l++m)=some r):∃ st,yF led l=some st:=by
 unfold yF at *;rw[VE] at h;cases e:List.foldlM (λst h=>Yai st.1 st.2 h) (#[],SetTable.fresh 0 0 led) l with
 |none=>rw[e] at h;cases h
 |some st=>exact⟨st,rfl⟩
theorem YaE(led:Bool):∀(l:List Int)(s s':MP.LT),l.foldlM MP.layOne s=some s'->l.foldlM (λst h=>Yai st.1 st.2 h) (s.hs.toArray,ZY s led)=some (s'.hs.toArray,ZY s' led)
 |[],s,s',e=>by cases e;rfl
 |h::l,s,s',e=>by
  rw[List.foldlM_cons] at e ⊢;cases e1:MP.layOne s h with
  |none=>rw[e1] at e;cases e
  |some s1 =>
   rw[e1] at e;dsimp only;rw[Zce s s1 led h e1];exact YaE led l s1 s' e
theorem ZbE{l:List Int}{s':MP.LT}(led:Bool)(e:MP.layFrom l=some s'):yF led l=some (s'.hs.toArray,ZY s' led):=YaE led l ⟨[],7,[],0⟩ s' e
theorem yaF{P:Program}{w:World}{k:Int×Int}(h:qaR k):YF P w k=MP.hashK k:=by
 obtain⟨a,b⟩:=k;obtain⟨⟨a0,a1⟩,b0,b1⟩:=h;simp only at a0 a1 b0 b1;obtain⟨a,rfl⟩:=vo a0;obtain⟨b,rfl⟩:=vo b0;have la:a<Ybk:=by unfold Ybk;lia
 have lb:b<Ybk:=by unfold Ybk;lia
 show reduceHash (Builtin.Tuple.tupleHashOf [hashInt a,hashInt b])=_;rw[YK a la,YK b lb];rfl
theorem ZbO{k:Int×Int}{vs:List Value}{prog:Program}{w:World}(h:ItemsAre (Qk prog w) (qbx k) vs):∀ v∈vs,∃ i t,v=Value.int i t:=by
 cases h with
 |cons h1 t1 =>
  cases t1 with
  |cons h2 t2 =>
   cases t2;intro v hv;have f:∀{i:Int}{v:Value},Yab (Sum.inl i) v=true->∃ i t,v=Value.int i t:=λ{i v} q=>by
    rcases qg q with ⟨j,u,e,rfl⟩|⟨y,u,e,_⟩
    ·exact⟨j,u,rfl⟩
    ·cases e
   simp only[Ua,Xc,or_false] at hv
   rcases hv with rfl|rfl
   ·exact f h1
   ·exact f h2
section
variable {prog:Program} {w:World} {A:Around} {R:Result->Shared->Prop} {D I l:Addr} {items:Array Value} {h₀:Heap}
noncomputable def QbQ(prog:Program)(w:World)(h:Heap)(items:Array Value)(ks:List (Int×Int)):Prop :=
 ∀(i:Nat)(v:Value),items[i]?=some v->∃ T k,v=.ref T/\ks[i]?=some k/\(tupleKind (Qk prog w)).is h (qbx k) T
theorem Yby(hu:A.units+2<cLine)(hh:A.handled=none)(ks:List (Int×Int))(hks:ks.length=items.size)(hDI:D≠I)(hlI:l≠I)(hlD:l≠D)(led:Bool){hsN:Array Int}{tN:SetTable}(lay:yF led (ks.map (YF prog w))=some (hsN,tN))
  (keepP:∀ h',(∀ b o,b≠D->b≠I->h₀.get? b=some o->h'.get? b=some o)->QbQ prog w h' items ks) :
  ∀(m i:Nat)(s:Shared)(es:Array (Int×Value)) (t:SetTable),items.size-i=m->i<=items.size->s.heap.IsListIter I l i->s.heap.IsList l items->(∀ b o,b≠D->b≠I->h₀.get? b=some o->s.heap.get? b=some o) ->
  SetAt s.heap D es t->yF led ((ks.take i).map (YF prog w))=some (es.map (·.1),t) ->
  (∀ h' tk es',SetAt h' D es' tN->es'.map (·.1)=hsN->(∀ b o,b≠D->b≠I->h₀.get? b=some o->h'.get? b=some o)->R (.ok (.ret .none)) {s with heap:=h',toks:=tk}) ->
  codeAny (model prog w) A (.builtin "set.update.loop" ⟨[.ref D,.ref I],[]⟩) R s:=by
 intro m
 induction m with
 |zero =>
  intro i s es t hm hi st hl hk hd hla hR;have hin:i=items.size:=by lia
  refine codeAny_builtin F.entry_set_update_loop ?_;rw[Around.under_plainId F.plain_set_update_loop _];show wpAny _ A.in1 (pyNext (.ref I) >>= _) _ _ s;refine wpAny_bind (wpAny_pyNext_list_end hh st hl (by simp[hin]) λh' eb=>?_);show wpAny _ A.in1 (ret Value.none) _ _ _;rw[hin,<- hks,UH,lay] at hla;cases hla;obtain⟨o,ep,ho,rest⟩:=hd;exact wpAny_pure (hR h' _ es ⟨o,ep,eb D o hDI ho,rest⟩ rfl λb o h1 h2 e=>eb b o h2 (hk b o h1 h2 e))
 |succ m ih =>
  intro i s es t hm hi st hl hk hd hla hR;have hlt:i<items.size:=by lia
  refine codeAny_builtin F.entry_set_update_loop ?_;rw[Around.under_plainId F.plain_set_update_loop _];show wpAny _ A.in1 (pyNext (.ref I) >>= _) _ _ s;refine wpAny_bind (wpAny_pyNext_list_item st hl (x:=items[i]) (by simp[hlt]) λh' st' sb=>?_);have hk':∀ b o,b≠D->b≠I->h₀.get? b=some o->h'.get? b=some o:=λb o h1 h2 e=>(sb.2 b h2).trans (hk b o h1 h2 e);obtain⟨T,k,e1,e2,e3⟩:=keepP h' hk' i items[i] (by simp[hlt]);have hd':SetAt h' D es t:=by
   obtain⟨o,ep,ho,rest⟩:=hd;exact⟨o,ep,(sb.2 D hDI).trans ho,rest⟩
  have e3':=e3;obtain⟨oT,its,nT,t1,t2,t3,t4⟩:=e3';have tk1:(ks.take (i+1)).map (YF prog w)=(ks.take i).map (YF prog w)++[YF prog w k]:=by
   rw[wz,e2];simp
  obtain⟨st2,hst2⟩:=qbb led ((ks.take (i+1)).map (YF prog w)) ((ks.drop (i+1)).map (YF prog w)) (r:=(hsN,tN)) (by rw[<- uk,Xn];exact lay);have hl1:Yai (es.map (·.1)) t (YF prog w k)=some st2:=by
   have:=hst2;rw[tk1,YaP,hla] at this;exact this
  rw[e1];show wpAny _ A.in1 (holding [Value.ref T] (setAdd D (.ref T)) >>= _) _ _ _;refine wpAny_bind (wpAny_holding ?_);unfold setAdd;refine wpAny_holding ?_;refine wpAny_bind ((tupleKind (Qk prog w)).pyHash (tupleKind_room_in1 (by lia)) e3 ?_);refine ybA (o0:=some oT) (t':=st2.2) (hs':=st2.1) hd' hl1 (λs' Q hT q=>ZbL (its:=its) ⟨oT,hT,t2,nT,t3⟩ (ZbO t4) q) t1 λh'' es'' hd'' em sb''=>?_;refine wpAny_pure ⟨plainId_quiet F.plain_set_update_loop _,?_⟩;have hk'':∀ b o,b≠D->b≠I->h₀.get? b=some o->h''.get? b=some o:=λb o h1 h2 e=>(sb''.2 b h1).trans (hk' b o h1 h2 e);refine ih (i+1) _ es'' st2.2 (by lia) hlt (st'.at λo e=>(sb''.2 I (Ne.symm hDI)).trans e) (hl.at λo e=>(sb''.2 l hlD).trans ((sb.2 l hlI).trans e)) hk'' hd'' (by rw[hst2,em]) λh3 tk es3 hd3 em3 hk3=>hR h3 tk es3 hd3 em3 hk3
end
end L3
end
section
namespace L3
open PySem PySem.Spec PyProof.Rows L2 M3
section
variable {prog:Program} {w:World} {A:Around} {E:Value->Shared->Prop} {s:Shared}
noncomputable abbrev qaQ(led:Bool):Obj:={cls:=.type "set",dict:=none,data:=.set #[] 0 (.fresh 0 0 led)}
theorem Zax{l:Value}{Q:Value->Shared->Prop}
  (hnext:∀ led:Bool,wpAny (model prog w) A.in1.in1 (Builtin.«set.__init__» ⟨[.ref s.heap.objs.size,l],[]⟩)
    (λfin s'=>match fin with | .done f=>wants (λr s₂=>r=.none/\Q (.ref s.heap.objs.size) s₂) E (.ok f) s' | .again c'=>c'.quiet=true/\codeAny (model prog w) A.in1 c' (wants (λr s₂=>r=.none/\Q (.ref s.heap.objs.size) s₂) E) s')
    (λe s'=>wants (λr s₂=>r=.none/\Q (.ref s.heap.objs.size) s₂) E (.error e) s') {s with heap:=s.heap.push (qaQ led)}) :
  wpAny (model prog w) A (call (.type "set") [l]) Q E s:=by
 have ft:=F.called_set;obtain⟨c,tl,hmro⟩:=ft.mro;have q1:=ft.made;have q2:=ft.sub;refine wpAny_call (codeAny_of_tree ?_);show wpAny _ _ (callAny (.type "set") ⟨[l],[]⟩) _ _ _;refine wpAny_pure ⟨Code.quiet_builtin _ (by decide +kernel),?_⟩;refine codeAny_builtin F.entry_type_call ?_;rw[Around.under_plain (weight_type_call_type "set" [l] []) rfl];have q3:=ft.notType;have q4:=ft.canCreate;have q5:=F.typeCall_set_1 l
 repeat' (first|assumption|wp_step)
 refine codeAny_mono (code_set_new_1 l (E:=E) (Q₁:=λu s₁=>∃ led,u=.ref s.heap.objs.size/\s₁={s with heap:=s.heap.push (qaQ led)}) λled=>⟨led,rfl,rfl⟩) λr s₁ hr=>?_
 match r,hr with
 |.error e,hr=>exact hr
 |.ok (.ret obj),hr =>
  obtain⟨led,rfl,rfl⟩:=hr;have hS:(s.heap.push (qaQ led)).get? s.heap.objs.size=some (qaQ led):=Ub _ rfl;have hT:Shared.TypeIs {s with heap:=s.heap.push (qaQ led)} (.ref s.heap.objs.size) "set":=⟨_,hS,rfl⟩;have q6:=ft.init.lookup;have q7:=ft.init.bind (.ref s.heap.objs.size)
  repeat' (first|assumption|wp_step)
  refine codeAny_mono (codeAny_call_builtin ft.init.plain F.entry_set_init (check_set_init_1 hT (hnext led))) λr₂ s₂ hr₂=>?_
  match r₂,hr₂ with
  |.error e,hr₂=>exact hr₂
  |.ok (.ret r),hr₂ =>
   obtain⟨rfl,hq⟩:=hr₂
   repeat' (first|assumption|wp_step)
end
noncomputable def za8(n:Nat)(p:Addr):HO:=.ext λh=>∃ es t,SetAt h p es t/\es.size=n
noncomputable def yaP(H:Hp):List V->List (Int×Int)->Prop:=Paired λv k=>∃ T,v=V.ref T/\H T=some (.tup [.int k.1,.int k.2])
noncomputable def rSetL:List V->Hp->VK->Prop:=λxs H Q=>∃ a vs ks,xs=[.ref a]/\Rd H a (.lst vs)/\yaP H vs ks/\(∀ k∈ks,qaR k)/\MP.layP ks=true/\∀ p,H p=none->Q (.ref p) (upd H p (za8 ks.length p))
theorem qaG{P:Program}{w:World}{H:Hp}{h:Heap}(ok:HOk P w H h):∀{vs:List V}{ks:List (Int×Int)} {us:List Value},yaP H vs ks->Vals vs us ->
  ks.length=us.length/\∀(i:Nat)(v:Value),us[i]?=some v->∃ T k,v=.ref T/\ks[i]?=some k/\(tupleKind (Qk P w)).is h (qbx k) T
 |_,_,_,.nil,.nil=>⟨rfl,λi v e=>by simp at e⟩
 |_,_,_,.cons (a:=v) (b:=k) hv tv,.cons (b:=u) hu tu=>by
  obtain⟨k1,k2⟩:=qaG ok tv tu;obtain⟨T,rfl,hT⟩:=hv;obtain rfl:u=Value.ref T:=hu;refine⟨by simp[k1],λi v e=>?_⟩;cases i with
  |zero=>simp at e;subst e;exact⟨T,_,rfl,rfl,ycc ok (ks:=qbx k) hT⟩
  |succ i=>simpa using k2 i v (by simpa using e)
section
variable {X:Cx}
theorem ya8(hc:X.calm=true)(hu:X.A.units+5<cLine):CallR X (.type "set") rSetL:=by
 intro pins s σ H xs us Q I r h;obtain⟨a,vs,ks,rfl,ha,cv,hsm,hlay,q⟩:=h;obtain rfl:=ZI r;obtain⟨_,its,n,rv,hg⟩:=ha.ok I.hok;obtain⟨k1,k2⟩:=qaG I.hok cv rv;have hh:=I.ok.hd hc;have lta:a<s.heap.objs.size:=va hg;refine Zax λled=>?_;generalize hp1:s.heap.push (qaQ led)=h1;have hD1:h1.get? s.heap.objs.size=some (qaQ led):=by rw[<- hp1];exact Ub _ rfl
 have kp1:∀ b o,s.heap.get? b=some o->h1.get? b=some o:=λb o e=>by rw[<- hp1];exact wa _ e
 have hg1:=kp1 _ _ hg;have S0:SetAt h1 s.heap.objs.size #[] (.fresh 0 0 led):=⟨_,0,hD1,⟨rfl,rfl,rfl⟩,rfl,rfl⟩;obtain⟨st,hst,hsz⟩:∃ st,yF led (ks.map (YF X.prog X.w))=some st/\st.1.size=ks.length:=by
  have e:ks.map (YF X.prog X.w)=ks.map MP.hashK:=Ur λk hk=>yaF (hsm k hk);rw[e];unfold MP.layP MP.layB at hlay;cases e2:MP.layFrom (ks.map MP.hashK) with
  |none=>rw[e2] at hlay;cases hlay
  |some s' =>
   rw[e2] at hlay;exact⟨_,ZbE led e2,by simpa using hlay⟩
 have hl1:h1.IsList a its.toArray:=⟨_,hg1,rfl,n,rfl⟩;have z1:=F.sub_list_set;have z2:=F.sub_list_frozenset;have z3:(Value.type "list" == Value.type "dict")=false:=by decide
 unfold Builtin.«set.__init__» noKeywords Builtin.Frozenset.updateFrom;generalize hPI:pyIter=PI;have hT:Shared.TypeIs {s with heap:=h1} (.ref s.heap.objs.size) "set":=⟨_,hD1,rfl⟩;have hol:=hg1;have hlS:=lstO
 wp_walk
 subst hPI;refine wpAny_pyIter_list hl1 ?_;refine wpAny_bind (wpAny_runValue ?_);generalize hp3:h1.push {cls:=.type "list_iterator",data:=.fields #[.ref a,.int 0 0]}=h3;have kp3:∀ b o,h1.get? b=some o->h3.get? b=some o:=λb o e=>by rw[<- hp3];exact wa _ e
 have kp:∀ b o,s.heap.get? b=some o->h3.get? b=some o:=λb o e=>kp3 _ _ (kp1 _ _ e);have ltD:s.heap.objs.size<h1.objs.size:=va hD1;have hh3:X.A.in1.in1.handled=none:=hh;refine Yby (A:=X.A.in1.in1) (D:=s.heap.objs.size) (I:=h1.objs.size) (l:=a) (items:=its.toArray) (h₀:=s.heap) (by show X.A.units+1+1+2<cLine;lia) hh3 ks (by simp[k1]) (wc ltD) (wc (Xv lta ltD)) (wc lta) led hst
  (λh' kk i v e=>?_) its.toArray.size 0 _ #[] (.fresh 0 0 led) (by simp) (Uk _) ?_ ?_ ?_ ?_ (by simp[yF]) λh' tk es' hd em hk=>?_
 ·obtain⟨T,k,e1,e2,oK,iK,nK,q1,q2⟩:=k2 i v (by simpa using e);have up:∀ b o,s.heap.get? b=some o->h'.get? b=some o:=λb o e=>kk b o (wc (va e)) (wc (Xv (va e) ltD)) e;exact⟨T,k,e1,e2,oK,iK,nK,up _ _ q1,q2⟩
 ·exact⟨_,by rw[<- hp3];exact Ub _ rfl,rfl,rfl⟩
 ·exact⟨_,kp _ _ hg,rfl,n,rfl⟩
 ·exactλb o _ _ e=>kp _ _ e
 ·obtain⟨o,ep,ho,rest⟩:=S0;exact⟨o,ep,kp3 _ _ ho,rest⟩
 ·have up:∀ b o,s.heap.get? b=some o->h'.get? b=some o:=λb o e=>hk b o (wc (va e)) (wc (Xv (va e) ltD)) e;have fr:H s.heap.objs.size=none:=I.hok.fresh (wb _);have hz:es'.size=ks.length:=by rw[<- hsz,<- em,Wl]
  show wpAny _ _ _ _ _ _;refine wpAny_pure ?_;show wpAny _ _ (ret Value.none) _ _ _;refine wpAny_pure ⟨rfl,.ref s.heap.objs.size,_,I.laid (a:=s.heap.objs.size) (o:=za8 ks.length s.heap.objs.size) (t':=tk) up (wb _) ?_,rfl,q _ fr⟩;obtain⟨o,ep,ho,rest⟩:=hd;refine⟨⟨es',_,⟨o,ep,ho,rest⟩,hz⟩,⟨o,ho⟩,?_⟩;rintro g1 g2 ⟨es,t,⟨o',ep',ho',rest'⟩,hz'⟩ kk;exact⟨es,t,⟨o',ep',kk _ ho',rest'⟩,hz'⟩
theorem Qbf:CallR X (.builtin "len") (λxs H Q=>∃ p n,xs=[.ref p]/\H p=some (za8 n p)/\n<1000000/\Q (.int n) H):=by
 intro pins s σ H xs us Q I r h;obtain⟨p,n,rfl,hp,hn,q⟩:=h;obtain rfl:=ZI r;obtain⟨⟨es,t,⟨o,ep,ho,hex,hd,hf⟩,hz⟩,_⟩:=(show ObjOk X.prog X.w H s.heap p (za8 n p) from I.hok p _ hp);subst hz;exact call_len_set ho hex hd hf (by lia) ⟨.int es.size,H,I.tok _,⟨_,rfl⟩,q⟩
end
end L3
end
section
namespace M3
open PySem
open Sem (wp)
noncomputable abbrev qH(h:Heap)(z TI TO:Addr)(p:Addr)(fl:Bool):Prop :=
 h.get? z=some {cls:=.type "zip",dict:=none,data:=.fields #[rawInt p,.bool fl,.bool false,.ref TI,.ref TO],slots:=#[]}
section
variable {prog:Program} {w:World} {A:Around} {E:Value->Shared->Prop} {s:Shared}
variable {z TI TO i1 i2 p:Addr} {fp1 fp2:List Addr} {n1 n2 k:Nat} {P1 P2:Nat->Value->Prop} {S1 S2:Nat->Heap->Prop} {fl:Bool}
theorem qbf{Q:Value->Shared->Prop}(Z:ZAp z TI TO i1 i2 fp1 fp2)(D1:Draws prog w A i1 fp1 n1 P1 S1)(D2:Draws prog w A i2 fp2 n2 P2 S2)(hz:qH s.heap z TI TO p fl)(hp:∃ o,s.heap.get? p=some o)(hI:IsPair s.heap TI (.ref i1) (.ref i2))
  (s1:S1 k s.heap) (s2:S2 k s.heap) (k1:k<n1) (k2:k<n2)
  (hQ:∀ x y h' tk,P1 k x->P2 k y->qH h' z TI TO p true->S1 (k+1) h'->S2 (k+1) h'->IsPair h' s.heap.objs.size x y->h'.objs.size=s.heap.objs.size+1 ->
   (∀ c o,c≠z->c≠i1->c≠i2->s.heap.get? c=some o->h'.get? c=some o)->Q (.ref s.heap.objs.size) {s with heap:=h',toks:=tk}) :
  wpAny (model prog w) A (Builtin.«zip.__next__» ⟨[.ref z],[]⟩) (λfin s'=>∃ v,fin=.done (.ret v)/\Q v s') E s:=by
 have iz1:i1≠z:=λe=>Z.z1 (e ▸ Z.m1);have iz2:i2≠z:=λe=>Z.z2 (e ▸ Z.m2);have i12:i1≠i2:=λe=>Z.a1 (e ▸ Z.m2);show wpAny _ _ (field (.ref z) 2 >>= _) _ _ _;refine wpAny_bind (wpAny_field hz rfl (x:=.bool false) rfl ?_);show wpAny _ _ (field (.ref z) 3 >>= _) _ _ _;refine wpAny_bind (wpAny_field hz rfl (x:=.ref TI) rfl ?_);refine wpAny_bind (wpAny_seqItems hI rfl ?_);show wpAny _ _ (Builtin.SmallTypes.ownedTupleIsFree (.ref z) >>= _) _ _ _;refine wpAny_bind ?_;unfold Builtin.SmallTypes.ownedTupleIsFree;refine wpAny_bind (wpAny_field hz rfl (x:=rawInt p) rfl ?_);obtain⟨op,hop⟩:=hp;show wpAny _ _ (loadIfAlive ((p:Int)).toNat >>= _) _ _ _;rw[ug];refine wpAny_bind (xG hop ?_);rw[if_neg (by simp)];refine wpAny_bind (wpAny_field hz rfl (x:=.bool fl) rfl ?_);cases fl
 case true =>
  rw[if_neg (by decide)];refine wpAny_pure ?_;obtain⟨h1,hh1⟩:∃ h1,h1=s.heap:=⟨_,rfl⟩;have y1:qH h1 z TI TO p true:=by rw[hh1];exact hz
  have g1:Heap.SameBut z s.heap h1:=by rw[hh1];exact Heap.SameBut.refl z s.heap
  have es:s={s with heap:=h1}:=by subst hh1;rfl
  rw[if_neg (by decide),es];refine wpAny_bind ?_;show wpAny _ _ (forIn #[Value.ref i1,Value.ref i2] _ _) _ _ _;rw[<- xp];simp only[Xk,Um];refine wpAny_bind (wpAny_bind (wpAny_holding ?_));show wpAny _ _ (Builtin.SmallTypes.nextOf (.ref i1) >>= _) _ _ _;refine wpAny_bind (D1.item k _ _ _ k1 (D1.frame _ _ _ s1 λc hc o e=>g1.extBut c o (λq=>Z.z1 (q ▸ hc)) e) λx h2 t2 px q2 g2=>wpAny_pure ?_);refine wpAny_pure ?_;dsimp only;refine wpAny_bind (wpAny_bind (wpAny_holding ?_));show wpAny _ _ (Builtin.SmallTypes.nextOf (.ref i2) >>= _) _ _ _;refine wpAny_bind (D2.item k _ _ _ k2 (D2.frame _ _ _ s2 λc hc o e=>g2.extBut c o (λq=>Z.a1 (q ▸ hc)) (g1.extBut c o (λq=>Z.z2 (q ▸ hc)) e)) λy h4 t4 py q4 g4=>wpAny_pure ?_);refine wpAny_pure ?_;dsimp only;refine wpAny_pure ?_;dsimp only;show wpAny _ _ (newTuple [x,y] >>= _) _ _ _;refine wpAny_bind (wpAny_newTuple ?_);refine wpAny_pure ⟨_,rfl,?_⟩;have sz:h4.objs.size=s.heap.objs.size:=by rw[g4.1,g2.1,g1.1]
  have keep:∀ c o,c≠z->c≠i1->c≠i2->s.heap.get? c=some o->h4.get? c=some o:=λc o c1 c2 c3 e=>g4.extBut _ _ c3 (g2.extBut _ _ c2 (g1.extBut _ _ c1 e));show Q (.ref h4.objs.size) _;rw[sz];refine hQ x y _ t4 px py (wa _ (g4.extBut _ _ (Ne.symm iz2) (g2.extBut _ _ (Ne.symm iz1) y1))) (D1.frame _ _ _ q2 λc hc o e=>wa _ (g4.extBut c o (λq=>Z.a2 (q ▸ hc)) e)) (D2.frame _ _ _ q4 λc hc o e=>wa _ e) ?_ ?_ λc o c1 c2 c3 e=>wa _ (keep c o c1 c2 c3 e)
  ·show(h4.push _).get? s.heap.objs.size=_;rw[<- sz];exact Ub _ rfl
  ·rw[Xg,sz]
 case false =>
  rw[if_pos (by decide)];refine wpAny_bind (wpAny_setField_rec hz (by simp) λh1 y1 g1=>?_);replace y1:qH h1 z TI TO p true:=y1;refine wpAny_pure ?_;rw[if_neg (by decide)];refine wpAny_bind ?_;show wpAny _ _ (forIn #[Value.ref i1,Value.ref i2] _ _) _ _ _;rw[<- xp];simp only[Xk,Um];refine wpAny_bind (wpAny_bind (wpAny_holding ?_));show wpAny _ _ (Builtin.SmallTypes.nextOf (.ref i1) >>= _) _ _ _;refine wpAny_bind (D1.item k _ _ _ k1 (D1.frame _ _ _ s1 λc hc o e=>g1.extBut c o (λq=>Z.z1 (q ▸ hc)) e) λx h2 t2 px q2 g2=>wpAny_pure ?_);refine wpAny_pure ?_;dsimp only;refine wpAny_bind (wpAny_bind (wpAny_holding ?_));show wpAny _ _ (Builtin.SmallTypes.nextOf (.ref i2) >>= _) _ _ _;refine wpAny_bind (D2.item k _ _ _ k2 (D2.frame _ _ _ s2 λc hc o e=>g2.extBut c o (λq=>Z.a1 (q ▸ hc)) (g1.extBut c o (λq=>Z.z2 (q ▸ hc)) e)) λy h4 t4 py q4 g4=>wpAny_pure ?_);refine wpAny_pure ?_;dsimp only;refine wpAny_pure ?_;dsimp only;show wpAny _ _ (newTuple [x,y] >>= _) _ _ _;refine wpAny_bind (wpAny_newTuple ?_);refine wpAny_pure ⟨_,rfl,?_⟩;have sz:h4.objs.size=s.heap.objs.size:=by rw[g4.1,g2.1,g1.1]
  have keep:∀ c o,c≠z->c≠i1->c≠i2->s.heap.get? c=some o->h4.get? c=some o:=λc o c1 c2 c3 e=>g4.extBut _ _ c3 (g2.extBut _ _ c2 (g1.extBut _ _ c1 e));show Q (.ref h4.objs.size) _;rw[sz];refine hQ x y _ t4 px py (wa _ (g4.extBut _ _ (Ne.symm iz2) (g2.extBut _ _ (Ne.symm iz1) y1))) (D1.frame _ _ _ q2 λc hc o e=>wa _ (g4.extBut c o (λq=>Z.a2 (q ▸ hc)) e)) (D2.frame _ _ _ q4 λc hc o e=>wa _ e) ?_ ?_ λc o c1 c2 c3 e=>wa _ (keep c o c1 c2 c3 e)
  ·show(h4.push _).get? s.heap.objs.size=_;rw[<- sz];exact Ub _ rfl
  ·rw[Xg,sz]
theorem Qbw{Q:Fin->Shared->Prop}(Z:ZAp z TI TO i1 i2 fp1 fp2)(D1:Draws prog w A i1 fp1 n1 P1 S1)(D2:Draws prog w A i2 fp2 n2 P2 S2)(hz:qH s.heap z TI TO p fl)(hp:∃ o,s.heap.get? p=some o)(hI:IsPair s.heap TI (.ref i1) (.ref i2))
  (s1:S1 k s.heap) (s2:S2 k s.heap) (hk:k=n1\/(k<n1/\k=n2))
  (hE:∀ h' e,(∀ c o,c≠z->c≠i1->c≠i2->s.heap.get? c=some o->h'.get? c=some o)->(∃ o,h'.get? e=some o/\o.cls=.type "StopIteration")->∀ tk,E (.ref e) {s with heap:=h',toks:=tk}) :
  wpAny (model prog w) A (Builtin.«zip.__next__» ⟨[.ref z],[]⟩) Q E s:=by
 have iz1:i1≠z:=λe=>Z.z1 (e ▸ Z.m1);have iz2:i2≠z:=λe=>Z.z2 (e ▸ Z.m2);have i12:i1≠i2:=λe=>Z.a1 (e ▸ Z.m2);show wpAny _ _ (field (.ref z) 2 >>= _) _ _ _;refine wpAny_bind (wpAny_field hz rfl (x:=.bool false) rfl ?_);show wpAny _ _ (field (.ref z) 3 >>= _) _ _ _;refine wpAny_bind (wpAny_field hz rfl (x:=.ref TI) rfl ?_);refine wpAny_bind (wpAny_seqItems hI rfl ?_);show wpAny _ _ (Builtin.SmallTypes.ownedTupleIsFree (.ref z) >>= _) _ _ _;refine wpAny_bind ?_;unfold Builtin.SmallTypes.ownedTupleIsFree;refine wpAny_bind (wpAny_field hz rfl (x:=rawInt p) rfl ?_);obtain⟨op,hop⟩:=hp;show wpAny _ _ (loadIfAlive ((p:Int)).toNat >>= _) _ _ _;rw[ug];refine wpAny_bind (xG hop ?_);rw[if_neg (by simp)];refine wpAny_bind (wpAny_field hz rfl (x:=.bool fl) rfl ?_);cases fl
 case true =>
  rw[if_neg (by decide)];refine wpAny_pure ?_;obtain⟨h1,hh1⟩:∃ h1,h1=s.heap:=⟨_,rfl⟩;have g1:Heap.SameBut z s.heap h1:=by rw[hh1];exact Heap.SameBut.refl z s.heap
  have es:s={s with heap:=h1}:=by subst hh1;rfl
  rw[if_neg (by decide),es];refine wpAny_bind ?_;show wpAny _ _ (forIn #[Value.ref i1,Value.ref i2] _ _) _ _ _;rw[<- xp];simp only[Xk,Um];refine wpAny_bind (wpAny_bind (wpAny_holding ?_));show wpAny _ _ (Builtin.SmallTypes.nextOf (.ref i1) >>= _) _ _ _;have f1:S1 k h1:=D1.frame _ _ _ s1 λc hc o e=>g1.extBut c o (λq=>Z.z1 (q ▸ hc)) e
  rcases hk with hk|⟨k1,hk⟩
  ·refine wpAny_bind (D1.done _ _ _ (hk ▸ f1) λh2 e g2 he=>?_);exact hE h2 e (λc o c1 c2 c3 q=>g2 _ _ c2 (g1.extBut _ _ c1 q)) he _
  ·refine wpAny_bind (D1.item k _ _ _ k1 f1 λx h2 t2 px q2 g2=>wpAny_pure ?_);refine wpAny_pure ?_;dsimp only;refine wpAny_bind (wpAny_bind (wpAny_holding ?_));show wpAny _ _ (Builtin.SmallTypes.nextOf (.ref i2) >>= _) _ _ _;have f2:S2 k h2:=D2.frame _ _ _ s2 λc hc o e=>g2.extBut c o (λq=>Z.a1 (q ▸ hc)) (g1.extBut c o (λq=>Z.z2 (q ▸ hc)) e);refine wpAny_bind (D2.done _ _ _ (hk ▸ f2) λh4 e g4 he=>?_);exact hE h4 e (λc o c1 c2 c3 q=>g4 _ _ c3 (g2.extBut _ _ c2 (g1.extBut _ _ c1 q))) he _
 case false =>
  rw[if_pos (by decide)];refine wpAny_bind (wpAny_setField_rec hz (by simp) λh1 y1 g1=>?_);refine wpAny_pure ?_;rw[if_neg (by decide)];refine wpAny_bind ?_;show wpAny _ _ (forIn #[Value.ref i1,Value.ref i2] _ _) _ _ _;rw[<- xp];simp only[Xk,Um];refine wpAny_bind (wpAny_bind (wpAny_holding ?_));show wpAny _ _ (Builtin.SmallTypes.nextOf (.ref i1) >>= _) _ _ _;have f1:S1 k h1:=D1.frame _ _ _ s1 λc hc o e=>g1.extBut c o (λq=>Z.z1 (q ▸ hc)) e
  rcases hk with hk|⟨k1,hk⟩
  ·refine wpAny_bind (D1.done _ _ _ (hk ▸ f1) λh2 e g2 he=>?_);exact hE h2 e (λc o c1 c2 c3 q=>g2 _ _ c2 (g1.extBut _ _ c1 q)) he _
  ·refine wpAny_bind (D1.item k _ _ _ k1 f1 λx h2 t2 px q2 g2=>wpAny_pure ?_);refine wpAny_pure ?_;dsimp only;refine wpAny_bind (wpAny_bind (wpAny_holding ?_));show wpAny _ _ (Builtin.SmallTypes.nextOf (.ref i2) >>= _) _ _ _;have f2:S2 k h2:=D2.frame _ _ _ s2 λc hc o e=>g2.extBut c o (λq=>Z.a1 (q ▸ hc)) (g1.extBut c o (λq=>Z.z2 (q ▸ hc)) e);refine wpAny_bind (D2.done _ _ _ (hk ▸ f2) λh4 e g4 he=>?_);exact hE h4 e (λc o c1 c2 c3 q=>g4 _ _ c3 (g2.extBut _ _ c2 (g1.extBut _ _ c1 q))) he _
theorem QS{Q:Option Value->Shared->Prop}(Z:ZAp z TI TO i1 i2 fp1 fp2)(D1:Draws prog w A.in1 i1 fp1 n1 P1 S1)(D2:Draws prog w A.in1 i2 fp2 n2 P2 S2)(hz:qH s.heap z TI TO p fl)(hp:∃ o,s.heap.get? p=some o)(hI:IsPair s.heap TI (.ref i1) (.ref i2))
  (s1:S1 k s.heap) (s2:S2 k s.heap) (k1:k<n1) (k2:k<n2)
  (hQ:∀ x y h' tk,P1 k x->P2 k y->qH h' z TI TO p true->S1 (k+1) h'->S2 (k+1) h'->IsPair h' s.heap.objs.size x y->h'.objs.size=s.heap.objs.size+1 ->
   (∀ c o,c≠z->c≠i1->c≠i2->s.heap.get? c=some o->h'.get? c=some o)->Q (some (.ref s.heap.objs.size)) {s with heap:=h',toks:=tk}) :
  wpAny (model prog w) A (pyNext (.ref z)) Q E s:=by
 have ty:s.TypeIs (.ref z) "zip":=⟨_,hz,rfl⟩;unfold pyNext;refine wpAny_bind (wpAny_attempt (wpAny_callSpecial?_slot (name:=Str.ofString "__next__") ty F.slot_zip_next (wpAny_call_entry F.slot_zip_next ty F.entry_zip_next ?_ (F.args_zip_next_1 _))));exact qbf Z D1 D2 hz hp hI s1 s2 k1 k2 λx y h' tk p1 p2 e1 e3 e4 e5 e6 e7=>wpAny_pure (hQ x y h' tk p1 p2 e1 e3 e4 e5 e6 e7)
theorem QX{Q:Option Value->Shared->Prop}(Z:ZAp z TI TO i1 i2 fp1 fp2)(D1:Draws prog w A.in1 i1 fp1 n1 P1 S1)(D2:Draws prog w A.in1 i2 fp2 n2 P2 S2)(hz:qH s.heap z TI TO p fl)(hp:∃ o,s.heap.get? p=some o)(hI:IsPair s.heap TI (.ref i1) (.ref i2))
  (s1:S1 k s.heap) (s2:S2 k s.heap) (hk:k=n1\/(k<n1/\k=n2))
  (hQ:∀ h' tk,(∀ c o,c≠z->c≠i1->c≠i2->s.heap.get? c=some o->h'.get? c=some o)->Q none {s with heap:=h',toks:=tk}) :
  wpAny (model prog w) A (pyNext (.ref z)) Q E s:=by
 have ty:s.TypeIs (.ref z) "zip":=⟨_,hz,rfl⟩;unfold pyNext;refine wpAny_bind (wpAny_attempt (wpAny_callSpecial?_slot (name:=Str.ofString "__next__") ty F.slot_zip_next (wpAny_call_entry F.slot_zip_next ty F.entry_zip_next ?_ (F.args_zip_next_1 _))));refine Qbw Z D1 D2 hz hp hI s1 s2 hk λh' e kk ho tk=>?_;obtain⟨o,e1,e2⟩:=ho;exact wpAny_bind (wpAny_isInstance (T:="StopIteration") (b:=true) ⟨o,e1,e2⟩ isSubtype_stop (wpAny_pure (hQ h' tk kk)))
end
end M3
end
section
namespace L3
open PySem PySem.Spec PyProof.Rows L2 M3
end L3
end
section
namespace L3
open PySem PySem.Spec PyProof.Rows L2 M3
end L3
end
section
namespace L3
open PySem PySem.Spec PyProof.Rows L2 M3
end L3
end
section
namespace L3
noncomputable def idxI(k:Int):List Int->Option Nat
 |[]=>none
 |x::r=>if x=k then some 0 else(idxI k r).map (· + 1)
end L3
namespace M3
end M3
end
section
namespace L3
open PySem PySem.Spec PyProof.Rows L2 M3
theorem ZaC(k:Int):∀{ns:List Int}{its:List Value},Vals (ns.map V.int) its->PySem.W.kf_ints its=true/\PySem.W.kf_at k its=idxI k ns
 |[],its,r=>by
  have:its=[]:=r.zero;subst this;exact⟨rfl,rfl⟩
 |n::ns,its,r=>by
  cases r with
  |cons a b =>
   obtain⟨t,rfl⟩:=a;obtain⟨h1,h2⟩:=ZaC k b;refine⟨h1,?_⟩;unfold PySem.W.kf_at idxI;rw[h2];by_cases e:n=k
   ·subst e;rw[if_pos rfl,show isInt n (.int n t)=true from beq_self_eq_true _];rfl
   ·rw[if_neg e,show isInt k (.int n t)=false from beq_false_of_ne e];cases idxI k ns <;> rfl
section
variable {X:Cx}
noncomputable def qcc:V->List V->Hp->VK->Prop:=λx vs H Q=>∃ l ns k j,x=.ref l/\vs=[.int k]/\Rd H l (.lst (ns.map V.int))/\idxI k ns=some j/\Q (.int (j:Nat)) H
theorem Zbs:MtM X "list.index" qcc:=by
 intro pins s σ H x vs v us Q I rx rv h;obtain⟨l,ns,k,j,rfl,rfl,hH,hj,q⟩:=h;cases rx;obtain⟨u,rfl,ru⟩:=rv.one;obtain⟨t,rfl⟩:=ru;obtain⟨z,its,n,r,e⟩:=hH.ok I.hok;have hl:=r.length;obtain⟨h1,h2⟩:=ZaC k r;rw[hj] at h2;obtain⟨a,b,c⟩:=PySem.W.kf_at_spec h2;rw[sizeLine_eq] at z;refine call_meets F.slot_list_index ⟨_,e,rfl⟩ F.entry_list_index (F.args_list_index_2 _ _)
  (MeetsSeq.list_index l its.toArray n (.int k t) (isInt k) (λy hy=>PySem.W.kf_eq h1 y (by simpa using hy)) j (by simpa using a) (by simp;lia) (by simpa using b) (λi hi hlt=>(c i (by simpa using hi) hlt:isInt k its[i]=false))) ⟨e,?_⟩
 exact⟨.int (j:Nat),_,I.tok _,⟨_,rfl⟩,q⟩
end
end L3
end
section
namespace M3
open PySem
open Sem (wp)
noncomputable abbrev Qy(h:Heap)(z TI TO:Addr)(v:Value)(fl:Bool):Prop :=
 h.get? z=some {cls:=.type "zip",dict:=none,data:=.fields #[v,.bool fl,.bool false,.ref TI,.ref TO],slots:=#[]}
section
variable {prog:Program} {w:World} {A:Around} {E:Value->Shared->Prop} {s:Shared}
theorem Qac{a:Addr}{Q:Option Obj->Shared->Prop}(ho:s.heap.get? a=none)(h:Q none s):wpAny (model prog w) A (loadIfAlive a) Q E s:=by
 have h':Q (s.heap.get? a) s:=by rw[ho];exact h
 exactλ_ _ _=>h'
variable {z TI TO i1 i2 p:Addr} {fp1 fp2:List Addr} {n1 n2 k:Nat} {P1 P2:Nat->Value->Prop} {S1 S2:Nat->Heap->Prop} {fl:Bool} {a b:Value}
theorem Zbf{Q:Value->Shared->Prop}(Z:ZAp z TI TO i1 i2 fp1 fp2)(D1:Draws prog w A i1 fp1 n1 P1 S1)(D2:Draws prog w A i2 fp2 n2 P2 S2)(hz:Qy s.heap z TI TO (rawInt p) fl)(hp:s.heap.get? p=none)(hI:IsPair s.heap TI (.ref i1) (.ref i2))(hO:IsPair s.heap TO a b)
  (s1:S1 k s.heap) (s2:S2 k s.heap) (k1:k<n1) (k2:k<n2)
  (hQ:∀ x y h' tk,P1 k x->P2 k y->IsZip h' z TI TO (rawInt s.heap.objs.size)->IsPair h' TO x y->S1 (k+1) h'->S2 (k+1) h'->IsPair h' s.heap.objs.size x y->h'.objs.size=s.heap.objs.size+1 ->
   (∀ c o,c≠z->c≠TO->c≠i1->c≠i2->s.heap.get? c=some o->h'.get? c=some o)->Q (.ref s.heap.objs.size) {s with heap:=h',toks:=tk}) :
  wpAny (model prog w) A (Builtin.«zip.__next__» ⟨[.ref z],[]⟩) (λfin s'=>∃ v,fin=.done (.ret v)/\Q v s') E s:=by
 have iz1:i1≠z:=λe=>Z.z1 (e ▸ Z.m1);have iz2:i2≠z:=λe=>Z.z2 (e ▸ Z.m2);have it1:i1≠TO:=λe=>Z.t1 (e ▸ Z.m1);have it2:i2≠TO:=λe=>Z.t2 (e ▸ Z.m2);have i12:i1≠i2:=λe=>Z.a1 (e ▸ Z.m2);show wpAny _ _ (field (.ref z) 2 >>= _) _ _ _;apply wpAny_bind;apply wpAny_field hz rfl (x:=.bool false) rfl;show wpAny _ _ (field (.ref z) 3 >>= _) _ _ _;apply wpAny_bind;apply wpAny_field hz rfl (x:=.ref TI) rfl;apply wpAny_bind;apply wpAny_seqItems hI rfl;show wpAny _ _ (Builtin.SmallTypes.ownedTupleIsFree (.ref z) >>= _) _ _ _;apply wpAny_bind;unfold Builtin.SmallTypes.ownedTupleIsFree;apply wpAny_bind;apply wpAny_field hz rfl (x:=rawInt p) rfl;show wpAny _ _ (loadIfAlive ((p:Int)).toNat >>= _) _ _ _;rw[ug];refine wpAny_bind (Qac hp ?_);rw[if_pos (by rfl)];apply wpAny_pure;simp only[if_true];apply wpAny_bind;apply wpAny_rule;apply wpAny_bind;apply wpAny_field hz rfl (x:=.ref TO) rfl;apply wpAny_bind;refine wpAny_setField_rec hz (by simp) λh1 y1 g1=>?_;replace y1:Qy h1 z TI TO .ellipsis fl:=y1;apply wpAny_bind;simp only[vq,xv,Xk,Um];apply wpAny_bind;apply wpAny_bind;apply wpAny_onRaise;show wpAny _ _ (Builtin.SmallTypes.nextOf (.ref i1) >>= _) _ _ _;apply wpAny_bind;refine D1.item k _ _ _ k1 (D1.frame _ _ _ s1 λc hc o e=>g1.extBut c o (λq=>Z.z1 (q ▸ hc)) e) λx h2 t2 px q2 g2=>wpAny_pure ?_;have o2:IsPair h2 TO a b:=g2.extBut _ _ (Ne.symm it1) (g1.extBut _ _ Z.toz hO);apply wpAny_bind;apply wpAny_seqItems o2 rfl;apply wpAny_bind;refine wpAny_updateSeq_pair o2 λh3 o3 g3=>wpAny_bind (wpAny_letGo (wpAny_pure ?_));replace o3:IsPair h3 TO x b:=o3;apply wpAny_bind;apply wpAny_bind;apply wpAny_onRaise;show wpAny _ _ (Builtin.SmallTypes.nextOf (.ref i2) >>= _) _ _ _;apply wpAny_bind;refine D2.item k _ _ _ k2 (D2.frame _ _ _ s2 λc hc o e=>g3.extBut c o (λq=>Z.t2 (q ▸ hc)) (g2.extBut c o (λq=>Z.a1 (q ▸ hc)) (g1.extBut c o (λq=>Z.z2 (q ▸ hc)) e))) λy h4 t4 py q4 g4=>wpAny_pure ?_;have o4:IsPair h4 TO x b:=g4.extBut _ _ (Ne.symm it2) o3;apply wpAny_bind;apply wpAny_seqItems o4 rfl;apply wpAny_bind;refine wpAny_updateSeq_pair o4 λh5 o5 g5=>wpAny_bind (wpAny_letGo (wpAny_pure (wpAny_pure ?_)));replace o5:IsPair h5 TO x y:=o5;apply wpAny_bind;apply wpAny_seqItems o5 rfl;apply wpAny_bind;refine wpAny_newTuple ?_;have sz:h5.objs.size=s.heap.objs.size:=by rw[g5.1,g4.1,g3.1,g2.1,g1.1]
 have y5:Qy h5 z TI TO .ellipsis fl:=g5.extBut _ _ (Ne.symm Z.toz) (g4.extBut _ _ (Ne.symm iz2) (g3.extBut _ _ (Ne.symm Z.toz) (g2.extBut _ _ (Ne.symm iz1) y1)));have c5:∀ c o,c≠z->c≠TO->c≠i1->c≠i2->s.heap.get? c=some o->h5.get? c=some o:=λc o c1 c2 c3 c4 e=>g5.extBut _ _ c2 (g4.extBut _ _ c4 (g3.extBut _ _ c2 (g2.extBut _ _ c3 (g1.extBut _ _ c1 e))));have r1:S1 (k+1) h5:=D1.frame _ _ _ q2 λc hc o e=>g5.extBut c o (λq=>Z.t1 (q ▸ hc)) (g4.extBut c o (λq=>Z.a2 (q ▸ hc)) (g3.extBut c o (λq=>Z.t1 (q ▸ hc)) e));have r2:S2 (k+1) h5:=D2.frame _ _ _ q4 λc hc o e=>g5.extBut c o (λq=>Z.t2 (q ▸ hc)) e;have lz:z<h5.objs.size:=va y5;show wpAny _ _ (Builtin.SmallTypes.ownedTupleHandOut (.ref z) (.ref h5.objs.size) >>= _) _ _ _;apply wpAny_bind;unfold Builtin.SmallTypes.ownedTupleHandOut;have y6:Qy (h5.push {cls:=.type "tuple",data:=.seq #[x,y]}) z TI TO .ellipsis fl:=wa _ y5;apply wpAny_bind;refine wpAny_setField_rec y6 (by simp) λh7 y7 g7=>?_;replace y7:Qy h7 z TI TO (rawInt h5.objs.size) fl:=y7;refine wpAny_setField_rec y7 (by simp) λh8 y8 g8=>?_;replace y8:IsZip h8 z TI TO (rawInt h5.objs.size):=y8;have up:∀ c o,c≠z->h5.get? c=some o->h8.get? c=some o:=λc o c1 e=>g8.extBut _ _ c1 (g7.extBut _ _ c1 (wa _ e));have p8:IsPair h8 h5.objs.size x y:=g8.extBut _ _ (xl lz) (g7.extBut _ _ (xl lz) (Ub _ rfl));have n8:h8.objs.size=h5.objs.size+1:=by rw[g8.1,g7.1,Xg]
 rw[sz] at y8 p8 n8;refine wpAny_pure ⟨_,rfl,?_⟩;show Q (.ref h5.objs.size) _;rw[sz];exact hQ x y h8 t4 px py y8 (up _ _ Z.toz o5) (D1.frame _ _ _ r1 λc hc o e=>up c o (λq=>Z.z1 (q ▸ hc)) e) (D2.frame _ _ _ r2 λc hc o e=>up c o (λq=>Z.z2 (q ▸ hc)) e) p8 n8 λc o c1 c2 c3 c4 e=>up c o c1 (c5 c o c1 c2 c3 c4 e)
theorem qbh{Q:Fin->Shared->Prop}(Z:ZAp z TI TO i1 i2 fp1 fp2)(D1:Draws prog w A i1 fp1 n1 P1 S1)(D2:Draws prog w A i2 fp2 n2 P2 S2)(hz:Qy s.heap z TI TO (rawInt p) fl)(hp:s.heap.get? p=none)(hI:IsPair s.heap TI (.ref i1) (.ref i2))(hO:IsPair s.heap TO a b)
  (s1:S1 k s.heap) (s2:S2 k s.heap) (hk:k=n1\/(k<n1/\k=n2))
  (hE:∀ h' e,(∀ c o,c≠z->c≠TO->c≠i1->c≠i2->s.heap.get? c=some o->h'.get? c=some o)->(∃ o,h'.get? e=some o/\o.cls=.type "StopIteration")->∀ tk,E (.ref e) {s with heap:=h',toks:=tk}) :
  wpAny (model prog w) A (Builtin.«zip.__next__» ⟨[.ref z],[]⟩) Q E s:=by
 have iz1:i1≠z:=λe=>Z.z1 (e ▸ Z.m1);have iz2:i2≠z:=λe=>Z.z2 (e ▸ Z.m2);have it1:i1≠TO:=λe=>Z.t1 (e ▸ Z.m1);have it2:i2≠TO:=λe=>Z.t2 (e ▸ Z.m2);show wpAny _ _ (field (.ref z) 2 >>= _) _ _ _;apply wpAny_bind;apply wpAny_field hz rfl (x:=.bool false) rfl;show wpAny _ _ (field (.ref z) 3 >>= _) _ _ _;apply wpAny_bind;apply wpAny_field hz rfl (x:=.ref TI) rfl;apply wpAny_bind;apply wpAny_seqItems hI rfl;show wpAny _ _ (Builtin.SmallTypes.ownedTupleIsFree (.ref z) >>= _) _ _ _;apply wpAny_bind;unfold Builtin.SmallTypes.ownedTupleIsFree;apply wpAny_bind;apply wpAny_field hz rfl (x:=rawInt p) rfl;show wpAny _ _ (loadIfAlive ((p:Int)).toNat >>= _) _ _ _;rw[ug];refine wpAny_bind (Qac hp ?_);rw[if_pos (by rfl)];apply wpAny_pure;simp only[if_true];apply wpAny_bind;apply wpAny_rule;apply wpAny_bind;apply wpAny_field hz rfl (x:=.ref TO) rfl;apply wpAny_bind;refine wpAny_setField_rec hz (by simp) λh1 y1 g1=>?_;replace y1:Qy h1 z TI TO .ellipsis fl:=y1;apply wpAny_bind;simp only[vq,xv,Xk,Um];apply wpAny_bind;apply wpAny_bind;apply wpAny_onRaise;show wpAny _ _ (Builtin.SmallTypes.nextOf (.ref i1) >>= _) _ _ _;apply wpAny_bind;have f1:S1 k h1:=D1.frame _ _ _ s1 λc hc o e=>g1.extBut c o (λq=>Z.z1 (q ▸ hc)) e
 rcases hk with hk|⟨k1,hk⟩
 ·refine D1.done _ _ _ (hk ▸ f1) λh2 e g2 he=>?_;obtain⟨oe,e1,e2⟩:=he;have y2:Qy h2 z TI TO .ellipsis fl:=g2 _ _ (Ne.symm iz1) y1;have ez:e≠z:=λq=>by subst q;rw[y2] at e1;cases e1;simp at e2
  exact wpAny_setField_rec y2 (by simp) λh3 _ g3=>hE h3 e (λc o c1 _ c3 _ q=>g3.extBut _ _ c1 (g2 _ _ c3 (g1.extBut _ _ c1 q))) ⟨oe,g3.extBut _ _ ez e1,e2⟩ _
 ·refine D1.item k _ _ _ k1 f1 λx h2 t2 px q2 g2=>wpAny_pure ?_;have o2:IsPair h2 TO a b:=g2.extBut _ _ (Ne.symm it1) (g1.extBut _ _ Z.toz hO);apply wpAny_bind;apply wpAny_seqItems o2 rfl;apply wpAny_bind;refine wpAny_updateSeq_pair o2 λh3 o3 g3=>wpAny_bind (wpAny_letGo (wpAny_pure ?_));apply wpAny_bind;apply wpAny_bind;apply wpAny_onRaise;show wpAny _ _ (Builtin.SmallTypes.nextOf (.ref i2) >>= _) _ _ _;apply wpAny_bind;have f2:S2 k h3:=D2.frame _ _ _ s2 λc hc o e=>g3.extBut c o (λq=>Z.t2 (q ▸ hc)) (g2.extBut c o (λq=>Z.a1 (q ▸ hc)) (g1.extBut c o (λq=>Z.z2 (q ▸ hc)) e));refine D2.done _ _ _ (hk ▸ f2) λh4 e g4 he=>?_;obtain⟨oe,e1,e2⟩:=he;have y4:Qy h4 z TI TO .ellipsis fl:=g4 _ _ (Ne.symm iz2) (g3.extBut _ _ (Ne.symm Z.toz) (g2.extBut _ _ (Ne.symm iz1) y1));have ez:e≠z:=λq=>by subst q;rw[y4] at e1;cases e1;simp at e2
  exact wpAny_setField_rec y4 (by simp) λh5 _ g5=>hE h5 e (λc o c1 c2 c3 c4 q=>g5.extBut _ _ c1 (g4 _ _ c4 (g3.extBut _ _ c2 (g2.extBut _ _ c3 (g1.extBut _ _ c1 q))))) ⟨oe,g5.extBut _ _ ez e1,e2⟩ _
theorem ybf{Q:Value->Shared->Prop}(hT:s.TypeIs (.ref z) "zip")(h:Q (.ref z) s):wpAny (model prog w) A (pyIter (.ref z)) Q E s:=by
 refine wpAny_pyIter_slot hT F.slot_zip_iter (wpAny_call_entry F.slot_zip_iter hT F.entry_zip_iter ?_ (F.args_zip_iter_1 _));show wpAny _ _ (ret (.ref z)) _ _ s;exact wpAny_pure ⟨_,rfl,"zip",_,hT,F.slot_zip_next.lookup,h⟩
noncomputable def ZQ(h:Heap)(z TI TO:Addr):Prop:=∃ v fl,Qy h z TI TO v fl/\((v=.none/\fl=false)\/∃ p:Addr,v=rawInt p)
theorem ZQ.obj{h:Heap}(q:ZQ h z TI TO):∃ o,h.get? z=some o/\o.cls=.type "zip"/\∀ v,o.data≠.cell v:=by
 obtain⟨v,fl,e,_⟩:=q;exact⟨_,e,rfl,λv q=>nomatch q⟩
theorem Ya6{Q:Option Value->Shared->Prop}(Z:ZAp z TI TO i1 i2 fp1 fp2)(D1:Draws prog w A.in1 i1 fp1 n1 P1 S1)(D2:Draws prog w A.in1 i2 fp2 n2 P2 S2)(hz:ZQ s.heap z TI TO)(hI:IsPair s.heap TI (.ref i1) (.ref i2))(hO:IsPair s.heap TO a b)
  (s1:S1 k s.heap) (s2:S2 k s.heap) (k1:k<n1) (k2:k<n2)
  (hQ:∀ x y h' tk,P1 k x->P2 k y->ZQ h' z TI TO->(∃ a b,IsPair h' TO a b)->S1 (k+1) h'->S2 (k+1) h'->IsPair h' s.heap.objs.size x y->h'.objs.size=s.heap.objs.size+1 ->
   (∀ c o,c≠z->c≠TO->c≠i1->c≠i2->s.heap.get? c=some o->h'.get? c=some o)->Q (some (.ref s.heap.objs.size)) {s with heap:=h',toks:=tk}) :
  wpAny (model prog w) A (pyNext (.ref z)) Q E s:=by
 have it1:i1≠TO:=λe=>Z.t1 (e ▸ Z.m1);have it2:i2≠TO:=λe=>Z.t2 (e ▸ Z.m2);obtain⟨v,fl,e,⟨rfl,rfl⟩|⟨p,rfl⟩⟩:=hz
 ·exact YE Z D1 D2 e hI hO s1 s2 k1 k2 λx y h' tk p1 p2 e1 e2 e3 e4 e5 e6 e7=>hQ x y h' tk p1 p2 ⟨_,false,e1,.inr ⟨_,rfl⟩⟩ ⟨_,_,e2⟩ e3 e4 e5 e6 e7
 ·cases hp:s.heap.get? p with
  |some o=>exact QS Z D1 D2 e ⟨o,hp⟩ hI s1 s2 k1 k2 λx y h' tk p1 p2 e1 e3 e4 e5 e6 e7=>hQ x y h' tk p1 p2 ⟨_,true,e1,.inr ⟨_,rfl⟩⟩ ⟨_,_,e7 TO _ Z.toz (Ne.symm it1) (Ne.symm it2) hO⟩ e3 e4 e5 e6 λc o c1 _ c3 c4 q=>e7 c o c1 c3 c4 q
  |none =>
   have ty:s.TypeIs (.ref z) "zip":=⟨_,e,rfl⟩;unfold pyNext;refine wpAny_bind (wpAny_attempt (wpAny_callSpecial?_slot (name:=Str.ofString "__next__") ty F.slot_zip_next (wpAny_call_entry F.slot_zip_next ty F.entry_zip_next ?_ (F.args_zip_next_1 _))));exact Zbf Z D1 D2 e hp hI hO s1 s2 k1 k2 λx y h' tk p1 p2 e1 e2 e3 e4 e5 e6 e7=>wpAny_pure (hQ x y h' tk p1 p2 ⟨_,false,e1,.inr ⟨_,rfl⟩⟩ ⟨_,_,e2⟩ e3 e4 e5 e6 e7)
theorem qbo{Q:Option Value->Shared->Prop}(Z:ZAp z TI TO i1 i2 fp1 fp2)(D1:Draws prog w A.in1 i1 fp1 n1 P1 S1)(D2:Draws prog w A.in1 i2 fp2 n2 P2 S2)(hz:ZQ s.heap z TI TO)(hI:IsPair s.heap TI (.ref i1) (.ref i2))(hO:IsPair s.heap TO a b)
  (s1:S1 k s.heap) (s2:S2 k s.heap) (hk:k=n1\/(k<n1/\k=n2))
  (hQ:∀ h' tk,(∀ c o,c≠z->c≠TO->c≠i1->c≠i2->s.heap.get? c=some o->h'.get? c=some o)->Q none {s with heap:=h',toks:=tk}) :
  wpAny (model prog w) A (pyNext (.ref z)) Q E s:=by
 obtain⟨v,fl,e,⟨rfl,rfl⟩|⟨p,rfl⟩⟩:=hz
 ·exact yG Z D1 D2 e hI hO s1 s2 hk hQ
 ·cases hp:s.heap.get? p with
  |some o=>exact QX Z D1 D2 e ⟨o,hp⟩ hI s1 s2 hk λh' tk kk=>hQ h' tk λc o c1 _ c3 c4 q=>kk c o c1 c3 c4 q
  |none =>
   have ty:s.TypeIs (.ref z) "zip":=⟨_,e,rfl⟩;unfold pyNext;refine wpAny_bind (wpAny_attempt (wpAny_callSpecial?_slot (name:=Str.ofString "__next__") ty F.slot_zip_next (wpAny_call_entry F.slot_zip_next ty F.entry_zip_next ?_ (F.args_zip_next_1 _))));refine qbh Z D1 D2 e hp hI hO s1 s2 hk λh' e kk ho tk=>?_;obtain⟨o,e1,e2⟩:=ho;exact wpAny_bind (wpAny_isInstance (T:="StopIteration") (b:=true) ⟨o,e1,e2⟩ isSubtype_stop (wpAny_pure (hQ h' tk kk)))
end
end M3
namespace L3
open PySem PySem.Spec PyProof.Rows L2 M3
section
variable {X:Cx} {pins:List (Addr×Obj)} {σ:L2.St} {H:Hp} {s:Shared} {h':Heap}
theorem qbd{P:Program}{w:World}{K:PySem.W.Frag}{y:Str}{pt:Pos}{b1 b2:Bool}{a1 a2 z TI TO i1 i2:Addr}(Z:∀ m,(∀ a∈[a1,a2],a<m)->(∀ a∈[z,TI,TO,i1,i2],m<=a)->ZAp z TI TO i1 i2 [i1,a1] [i2,a2])
  (m:Nat) (h1:∀ a∈[a1,a2],a<m) (h2:∀ a∈[z,TI,TO,i1,i2],m<=a) :
  Turn P w K (.Name y pt) (Itz K b1 b2 a1 a2) [z,TI,TO,i1,i2] z (λi h=>ZQ h z TI TO/\IsPair h TI (.ref i1) (.ref i2)/\(∃ a b,IsPair h TO a b)/\SeqIt h b1 i1 a1 i/\SeqIt h b2 i2 a2 i) where
 mem:=by simp
 obj:=λi h ⟨e1,e2,⟨a,b,e3⟩,e4,e5⟩ c hc=>by
  simp only[Ua,Xc,or_false] at hc
  rcases hc with rfl|rfl|rfl|rfl|rfl
  ·obtain⟨o,q1,_,q2⟩:=e1.obj;exact⟨o,q1,q2⟩
  ·exact⟨_,e2,λv q=>nomatch q⟩
  ·exact⟨_,e3,λv q=>nomatch q⟩
  ·exact e4.obj
  ·exact e5.obj
 keep:=λi h h' ⟨e1,e2,⟨a,b,e3⟩,e4,e5⟩ k=>⟨by obtain⟨v,fl,q,r⟩:=e1;exact⟨v,fl,k z (by simp) _ q,r⟩,k TI (by simp) _ e2,⟨a,b,k TO (by simp) _ e3⟩,e4.keeps λo e=>k i1 (by simp) o e,e5.keeps λo e=>k i2 (by simp) o e⟩
 item:=by
  intro X hP hw hK hc i pins s σ H E I hf ⟨e1,e2,⟨a,b,e3⟩,e4,e5⟩ hg;subst hP hw hK;obtain⟨xs,ys,q1,q2,l1,l2⟩:=hg;obtain⟨its1,v1,p1,_⟩:=qi I q1;obtain⟨its2,v2,p2,_⟩:=qi I q2;have ZZ:=Z m h1 h2;have n1:a1≠i1:=wc (Vb (h1 a1 (by simp)) (h2 i1 (by simp)));have n2:a2≠i2:=wc (Vb (h1 a2 (by simp)) (h2 i2 (by simp)));have D1:=qq (prog:=X.prog) (w:=X.w) (yf (I.ok.hd hc)) b1 i1 a1 n1 its1.toArray;have D2:=qq (prog:=X.prog) (w:=X.w) (yf (I.ok.hd hc)) b2 i2 a2 n2 its2.toArray;have hl1:=v1.length;have hl2:=v2.length;refine Ya6 ZZ D1 D2 e1 e2 e3 ⟨e4,p1⟩ ⟨e5,p2⟩ (by simp;lia) (by simp;lia) λx y g tk px py f1 f2 f3 f4 f5 f6 f7=>⟨_,rfl,?_⟩;refine wpAny_pure ?_;obtain⟨x1,hx1⟩:∃ x1,xs[i]?=some x1:=⟨xs[i],by simp[l1]⟩;obtain⟨y1,hy1⟩:∃ y1,ys[i]?=some y1:=⟨ys[i],by simp[l2]⟩;obtain⟨u1,hu1,r1⟩:=v1.get hx1;obtain⟨u2,hu2,r2⟩:=v2.get hy1;have ex:x=u1:=by have z:its1.toArray[i]?=some x:=px;simp[hu1] at z;exact z.symm
  have ey:y=u2:=by have z:its2.toArray[i]?=some y:=py;simp[hu2] at z;exact z.symm
  subst ex ey;obtain⟨oz,ez,_⟩:=e1.obj;have zlt:z≠s.heap.objs.size:=wc (va ez);have I1:Inv X pins σ H {s with heap:=g,toks:=tk}:=Zn (ch:=[z,TI,TO,i1,i2]) I hf λc o hc' e=>by
   simp only[Ua,Xc,or_false,not_or] at hc';exact f7 c o hc'.1 hc'.2.2.1 hc'.2.2.2.1 hc'.2.2.2.2 e
  have fT:=I.fpOk (b:=s.heap.objs.size) (wb _) (I.hok.fresh (wb _));have gT:g.get? s.heap.objs.size=some {cls:=.type "tuple",data:=.seq #[x,y]}:=f5;have I2:Inv X pins σ (upd H s.heap.objs.size (.tup [x1,y1])) {s with heap:=g,toks:=tk}:=qS I1 fT I.sz ⟨by show 2<=sizeLine;decide,[x,y],.cons r1 (.cons r2 .nil),⟨_,gT,rfl,_,rfl⟩⟩;refine⟨.ref s.heap.objs.size,_,I2,rfl,⟨_,x1,y1,rfl,fT.1,rfl,λzs hz=>by rw[Yx I hz q1];exact hx1,λzs hz=>by rw[Yx I hz q2];exact hy1⟩,
   ⟨f1,f7 TI _ ZZ.tiz ZZ.tito ZZ.ti1 ZZ.ti2 e2,f2,f3.1,f4.1⟩,λc hc'=>?_⟩
  have lt:c<s.heap.objs.size:=by
   simp only[Ua,Xc,or_false] at hc'
   rcases hc' with rfl|rfl|rfl|rfl|rfl
   ·exact va ez
   ·exact va e2
   ·exact va e3
   ·exact let ⟨o,e,_⟩:=e4.obj;va e
   ·exact let ⟨o,e,_⟩:=e5.obj;va e
  rw[Yb (wc lt)];exact(hf c hc').1
 done:=by
  intro X hP hw hK hc i pins s σ H E I hf ⟨e1,e2,⟨a,b,e3⟩,e4,e5⟩ hg;subst hP hw hK;obtain⟨xs,ys,q1,q2,hk⟩:=hg;obtain⟨its1,v1,p1,_⟩:=qi I q1;obtain⟨its2,v2,p2,_⟩:=qi I q2;have ZZ:=Z m h1 h2;have n1:a1≠i1:=wc (Vb (h1 a1 (by simp)) (h2 i1 (by simp)));have n2:a2≠i2:=wc (Vb (h1 a2 (by simp)) (h2 i2 (by simp)));have D1:=qq (prog:=X.prog) (w:=X.w) (yf (I.ok.hd hc)) b1 i1 a1 n1 its1.toArray;have D2:=qq (prog:=X.prog) (w:=X.w) (yf (I.ok.hd hc)) b2 i2 a2 n2 its2.toArray;have hl1:=v1.length;have hl2:=v2.length;refine qbo ZZ D1 D2 e1 e2 e3 ⟨e4,p1⟩ ⟨e5,p2⟩ (by simp;lia) λg tk k=>⟨rfl,?_⟩;exact Zn (ch:=[z,TI,TO,i1,i2]) I hf λc o hc' e=>by
   simp only[Ua,Xc,or_false,not_or] at hc';exact k c o hc'.1 hc'.2.2.1 hc'.2.2.2.1 hc'.2.2.2.2 e
 self:=λ_ _ _ _ _ st h=>by
  obtain⟨o,e,ec,_⟩:=st.1.obj;exact ybf ⟨o,e,ec⟩ h
theorem zbL{a b:Expr}{ta:TA}{p pos:Pos}{y:Str}{pt:Pos}(hg:Gl X "zip")(hm:X.mg "zip"=none)(ha:PA X [a,b] ta)(hs:starEach [a,b] X.env=[(false,eval a X.env),(false,eval b X.env)]:=by rfl)(hs2:starEach [b] X.env=[(false,eval b X.env)]:=by rfl) :
  PI X (.Name y pt) (.Call (.Name "zip" p) [a,b] [] pos) (iZip X.K ta):=by
 intro pins s σ H R I h;refine Call_ (Zy I hg hm boot_zip (PyProof.Rows.callWith_type1 (thn (ha pos pins s σ H _ I h) λus s1 ⟨vs,H1,I1,r1,q1⟩=>?_) (by rw[hs,hs2]) (by rw[hs2];rfl)));obtain(⟨b1,b2,a1,a2,e,⟨xs,h1⟩,⟨ys,h2⟩,q⟩):=q1;subst e;cases r1 with
 |cons r rr =>
  cases rr with
  |cons r' rr =>
   cases rr;obtain rfl:_=Value.ref a1:=r;obtain rfl:_=Value.ref a2:=r';obtain(⟨its1,v1,p1,_⟩):=qi I1 h1;obtain(⟨its2,v2,p2,_⟩):=qi I1 h2;have l1:=p1.lt;have l2:=p2.lt;refine YaD p1 p2 λg f1 f2 f3 f4 f5 f6=>?_;refine wpAny_pyIter_zip f1 ?_;refine⟨s1.heap.objs.size+4,[s1.heap.objs.size+4,s1.heap.objs.size+2,s1.heap.objs.size+3,s1.heap.objs.size,s1.heap.objs.size+1],_,_,H1,rfl,I1.kept (t':=s1.toks) f6,qbd (b1:=b1) (b2:=b2) (a1:=a1) (a2:=a2) (λ_ _ _=>yaZ _ a1 a2 l1 l2) s1.heap.objs.size (λa ha'=>?_) (λa ha'=>ge5 ha'),⟨⟨_,false,f1,.inl ⟨rfl,rfl⟩⟩,f2,⟨_,_,f3⟩,f4,f5⟩,λb hb=>I1.fpOk (ge5 hb) (I1.hok.fresh (ge5 hb)),q⟩;simp only[Ua,Xc,or_false] at ha'
   rcases ha' with rfl|rfl <;> assumption
end
end L3
end
section
namespace M3
open PySem PyProof.Rows
end M3
end
section
namespace L3
open PySem PySem.Spec PyProof.Rows L2 M3
end L3
end
section
namespace TS
open PySem PyProof.Rows
structure Dst (a:Array Keyed):Prop where
 int:IntKeys a
 nd:(a.toList.map λp=>numOf p.1).Nodup
structure SB (a:Array Keyed) (st:SortSt):Prop where
 perm:(arrOf st).Perm a
 kind:kindOf st=oneType'
 failed:failedOf st=none
variable {prog:Program} {w:World} {A:Around} {E:Value->Shared->Prop} {s:Shared} {a:Array Keyed} {st:SortSt}
theorem SB.size(h:SB a st):(arrOf st).size=a.size:=h.perm.size_eq
theorem SB.put(h:SB a st){xs:Array Keyed}(hp:xs.Perm (arrOf st)):SB a (setArr st xs):=⟨hp.trans h.perm,h.kind,h.failed⟩
theorem ZG{xs:Array Keyed}(D:Dst a)(h:xs.Perm a):Dst xs:=by
 have hp:=Xy.mp h;exact⟨λp hm=>D.int p (hp.mem_iff.mp hm),((hp.map λp=>numOf p.1).nodup_iff).mpr D.nd⟩
theorem Dst.at{xs:Array Keyed}(D:Dst xs){i:Nat}(hi:i<xs.size):∃ t q,xs[i]?=some (.int (K xs i) t,q):=by
 obtain⟨n,t,hn⟩:=D.int xs[i] (by simp);have e:xs[i]?=some xs[i]:=getElem?_pos _ i hi;have e2:xs[i]=(.int n t,xs[i].2):=Prod.ext hn rfl;refine⟨t,xs[i].2,?_⟩;unfold K;rw[e,e2];rfl
theorem Dst.inj{xs:Array Keyed}(D:Dst xs){i j:Nat}(hi:i<xs.size)(hj:j<xs.size)(e:K xs i=K xs j):i=j:=by
 rw[K_eq hi,K_eq hj] at e;have nd:=wo.mp D.nd
 rcases XG i j with c|c|c
 ·exact absurd (by rw[wl,wl,ul,ul];exact e) (nd i j (by simpa using hi) (by simpa using hj) c)
 ·exact c
 ·exact absurd (by rw[wl,wl,ul,ul];exact e.symm) (nd j i (by simpa using hj) (by simpa using hi) c)
theorem YaZ{x y:Keyed}{b c:Int}{t u:Tok}{Q:Option Bool->SortSt->Prop}(hk:kindOf st=oneType')(hx:x.1=.int b t)(hy:y.1=.int c u)(h:Q (some (decide (b<c))) st):wpS (model prog w) A E s (lt' x y) Q st:=by
 rw[lt'_eq];refine wpS_bind (wpS_get ?_);rw[hk,keyLt'_oneType,hx,hy];exact wpS_bind (wpS_lift (wpAny_attempt (oneLt_int ⟨rfl,wpS_pure h⟩)))
theorem zf{xs:Array Keyed}{i:Nat}{x:Keyed}{Q:Keyed->SortSt->Prop}(e:xs[i]?=some x)(h:Q x st):wpS (model prog w) A E s (elem' xs i) Q st:=by
 rw[elem'_eq,e];exact wpS_pure h
theorem yaj{i j:Nat}{Q:Option Bool->SortSt->Prop}(D:Dst a)(B:SB a st)(hi:i<a.size)(hj:j<a.size)(h:Q (some (decide (K (arrOf st) i<K (arrOf st) j))) st):wpS (model prog w) A E s (ltAt' i j) Q st:=by
 have D2:=ZG D B.perm;obtain⟨t,p,e1⟩:=D2.at (i:=i) (by rw[B.size];exact hi);obtain⟨u,q,e2⟩:=D2.at (i:=j) (by rw[B.size];exact hj);exact wpS_ltAt B.kind e1 e2 h
noncomputable def Up(xs:Array Keyed)(lo hi:Nat):Prop:=∀ i j,lo<=i->i<j->j<hi->K xs i<K xs j
theorem Up.one(xs:Array Keyed)(lo:Nat):Up xs lo (lo+1):=λi j h1 h2 h3=>by lia
theorem Up.snoc{xs:Array Keyed}{lo n:Nat}(u:Up xs lo (lo+n))(h:n=0\/K xs (lo+n-1)<K xs (lo+n)):Up xs lo (lo+n+1):=λi j h1 h2 h3=>by
 by_cases c:j<lo+n
 ·exact u i j h1 h2 c
 ·have e:j=lo+n:=by lia
  subst e;by_cases c2:i=lo+n-1
  ·subst c2
   rcases h with h|h
   ·lia
   ·exact h
  ·rcases h with h|h
   ·lia
   ·exact Vz (u i (lo+n-1) h1 (by lia) (by lia)) h
noncomputable def Dn(xs:Array Keyed)(lo hi:Nat):Prop:=∀ i j,lo<=i->i<j->j<hi->K xs j<K xs i
theorem Dn.snoc{xs:Array Keyed}{lo n:Nat}(u:Dn xs lo (lo+n))(n1:1<=n)(h:K xs (lo+n)<K xs (lo+n-1)):Dn xs lo (lo+n+1):=λi j h1 h2 h3=>by
 by_cases c:j<lo+n
 ·exact u i j h1 h2 c
 ·have e:j=lo+n:=by lia
  subst e;by_cases c2:i=lo+n-1
  ·subst c2;exact h
  ·exact Vz h (u i (lo+n-1) h1 (by lia) (by lia))
theorem qaJ{lo nrem:Nat}{Q:Option Nat->SortSt->Prop}(D:Dst a)(B:SB a st)(h1:1<=nrem)(hn:lo+nrem<=a.size)
  (h:∀ m st',SB a st'->pendingOf st'=pendingOf st->1<=m->m<=nrem->Up (arrOf st') lo (lo+m)->(∀ i,i<lo->K (arrOf st') i=K (arrOf st) i)->Q (some m) st') :
  wpS (model prog w) A E s (countRun' lo nrem) Q st:=by
 have D2:=ZG D B.perm;have sz:=B.size;have ne:∀ i j,i<a.size->j<a.size->i≠j->K (arrOf st) i≠K (arrOf st) j:=λi j hi hj hij e=>hij (D2.inj (by lia) (by lia) e);rw[countRun'_eq];refine wpS_bind (wpS_mono (wpS_forRange (I:=λx c st'=>st'=st/\c=(none,x)/\Up (arrOf st) lo (lo+x))
  (Q:=λc st'=>st'=st/\∃ n,c=(none,n)/\1<=n/\n<=nrem/\Up (arrOf st) lo (lo+n)/\(n=nrem\/K (arrOf st) (lo+n)<K (arrOf st) (lo+n-1))) ?_ ?_ ⟨rfl,rfl,Up.one _ _⟩) ?_)
 ·rintro x c st' h2 h3 ⟨rfl,rfl,u⟩;dsimp only;refine wpS_bind (yaj D B (by lia) (by lia) ?_);by_cases c:K (arrOf st') (lo+x)<K (arrOf st') (lo+x-1)
  ·simp only[c,decide_true,if_true];exact wpS_pure ⟨rfl,x,rfl,h2,by lia,u,.inr c⟩
  ·simp only[c,decide_false,Vd,if_false];have:=ne (lo+x) (lo+x-1) (by lia) (by lia) (by lia);exact wpS_pure ⟨rfl,rfl,u.snoc (.inr (by lia))⟩
 ·rintro c st' ⟨rfl,rfl,u⟩;rw[show max 1 nrem=nrem by lia] at u ⊢;exact⟨rfl,nrem,rfl,h1,wb _,u,.inl rfl⟩
 ·rintro c st' ⟨rfl,n,rfl,n1,n2,u,o⟩;dsimp only;by_cases c1:n=nrem
  ·rw[if_pos (by simpa using c1)];exact wpS_pure (h n st' B rfl n1 n2 u λ_ _=>rfl)
  ·rw[if_neg (by simpa using c1)];have dn:=o.resolve_left c1;by_cases c2:n>1
   ·rw[if_pos c2];refine wpS_bind (yaj D B (by lia) (by lia) ?_);have:=u lo (lo+n-1) (wb _) (by lia) (by lia);simp only[this,decide_true,if_true];exact wpS_pure (h n st' B rfl n1 n2 u λ_ _=>rfl)
   ·rw[if_neg c2];have e1:n=1:=by lia
    subst e1;refine wpS_bind (wpS_lift (wpAny_rule ⟨rfl,?_⟩));refine wpS_bind (wpS_mono (wpS_forRange (I:=λx c s2=>s2=st'/\c=(none,x,0)/\Dn (arrOf st') lo (lo+x))
     (Q:=λc s2=>s2=st'/\∃ n,c=(none,n,0)/\2<=n/\n<=nrem/\Dn (arrOf st') lo (lo+n)) ?_ ?_ ⟨rfl,rfl,?_⟩) ?_)
    ·rintro x c s2 h2 h3 ⟨rfl,rfl,u2⟩;dsimp only;refine wpS_bind (yaj D B (by lia) (by lia) ?_);by_cases c:K (arrOf s2) (lo+x)<K (arrOf s2) (lo+x-1)
     ·simp only[c,decide_true,if_true];exact wpS_pure ⟨rfl,rfl,u2.snoc (by lia) c⟩
     ·simp only[c,decide_false,Vd,if_false];refine wpS_bind (yaj D B (by lia) (by lia) ?_);have:=ne (lo+x) (lo+x-1) (by lia) (by lia) (by lia);have c9:K (arrOf s2) (lo+x-1)<K (arrOf s2) (lo+x):=by lia
      simp only[c9,decide_true,if_true];exact wpS_pure ⟨rfl,x,rfl,h2,by lia,u2⟩
    ·rintro c s2 ⟨rfl,rfl,u2⟩;rw[show max (1+1) nrem=nrem by lia] at u2 ⊢;exact⟨rfl,nrem,rfl,by lia,wb _,u2⟩
    ·intro i j i1 i2 i3;have e1:i=lo:=by lia
     have e2:j=lo+1:=by lia
     subst e1;subst e2;exact dn
    ·rintro c s2 ⟨rfl,m,rfl,m1,m2,u2⟩;dsimp only;rw[if_neg (by lia)];refine wpS_bind (wpS_reverse ?_);have B2:SB a (setArr s2 (mirror (arrOf s2) lo (lo+m) ((lo+m-lo)/2))):=B.put (mirror_perm _ _ _ _);have kk:∀ k,K (mirror (arrOf s2) lo (lo+m) ((lo+m-lo)/2)) k=if lo<=k/\k<lo+m then K (arrOf s2) (lo+(lo+m)-1-k) else K (arrOf s2) k:=K_mirror (by lia);have u3:Up (mirror (arrOf s2) lo (lo+m) ((lo+m-lo)/2)) lo (lo+m):=λi j i1 i2 i3=>by
      rw[kk,kk,if_pos (by lia),if_pos (by lia)];exact u2 _ _ (by lia) (by lia) (by lia)
     have low:∀ i,i<lo->K (mirror (arrOf s2) lo (lo+m) ((lo+m-lo)/2)) i=K (arrOf s2) i:=λi hi=>by
      rw[kk,if_neg (by lia)]
     have D3:=ZG D B2.perm;have sz3:=B2.size;have pe:pendingOf (setArr s2 (mirror (arrOf s2) lo (lo+m) ((lo+m-lo)/2)))=pendingOf s2:=rfl;have ae:arrOf (setArr s2 (mirror (arrOf s2) lo (lo+m) ((lo+m-lo)/2)))=mirror (arrOf s2) lo (lo+m) ((lo+m-lo)/2):=rfl;rw[<- ae] at u3 low;generalize setArr s2 (mirror (arrOf s2) lo (lo+m) ((lo+m-lo)/2))=s3 at *;refine wpS_bind (wpS_mono (wpS_forRange (I:=λx c s4=>s4=s3/\c=(none,x)/\Up (arrOf s3) lo (lo+x))
      (Q:=λc s4=>s4=s3/\∃ n,c=(none,n)/\m<=n/\n<=nrem/\Up (arrOf s3) lo (lo+n)) ?_ ?_ ⟨rfl,rfl,u3⟩) ?_)
     ·rintro x c s4 h2 h3 ⟨rfl,rfl,u4⟩;dsimp only;refine wpS_bind (yaj D B2 (by lia) (by lia) ?_);by_cases c:K (arrOf s4) (lo+x)<K (arrOf s4) (lo+x-1)
      ·simp only[c,decide_true,if_true];exact wpS_pure ⟨rfl,x,rfl,h2,by lia,u4⟩
      ·simp only[c,decide_false,Vd,if_false];have:K (arrOf s4) (lo+x)≠K (arrOf s4) (lo+x-1):=λe=>by have:=D3.inj (by lia) (by lia) e;lia
       exact wpS_pure ⟨rfl,rfl,u4.snoc (.inr (by lia))⟩
     ·rintro c s4 ⟨rfl,rfl,u4⟩;rw[show max m nrem=nrem by lia] at u4 ⊢;exact⟨rfl,nrem,rfl,m2,wb _,u4⟩
     ·rintro c s4 ⟨rfl,n,rfl,n3,n4,u4⟩;exact wpS_pure (h n s4 B2 pe (by lia) n4 u4 low)
end TS
end
section
namespace TS
open PySem PyProof.Rows
variable {prog:Program} {w:World} {A:Around} {E:Value->Shared->Prop} {s:Shared} {a:Array Keyed} {st:SortSt}
theorem Ya9{lo n ok:Nat}{Q:Bool->SortSt->Prop}(D:Dst a)(B:SB a st)(hn:lo+n<=a.size)(o1:1<=ok)(o2:ok<=n)(u:Up (arrOf st) lo (lo+ok))
  (h:∀ st',SB a st'->pendingOf st'=pendingOf st->Up (arrOf st') lo (lo+n)->(∀ i,i<lo->K (arrOf st') i=K (arrOf st) i)->Q true st') :
  wpS (model prog w) A E s (binarySort' lo n ok) Q st:=by
 rw[binarySort'_eq];refine wpS_bind (wpS_mono (wpS_forRange (I:=λk c s2=>c=(none,())/\SB a s2/\pendingOf s2=pendingOf st/\Up (arrOf s2) lo (lo+k)/\∀ i,i<lo->K (arrOf s2) i=K (arrOf st) i)
  (Q:=λc s2=>c=(none,())/\SB a s2/\pendingOf s2=pendingOf st/\Up (arrOf s2) lo (lo+n)/\∀ i,i<lo->K (arrOf s2) i=K (arrOf st) i) ?_ ?_ ⟨rfl,B,rfl,by rw[show max ok 1=ok by lia];exact u,λ_ _=>rfl⟩) ?_)
 ·rintro k c s2 h1 h2 ⟨rfl,B2,p2,u2,l2⟩;have sz:=B2.size;have D2:=ZG D B2.perm;have ne:∀ i,i<k->K (arrOf s2) (lo+i)≠K (arrOf s2) (lo+k):=λi hi e=>by have:=D2.inj (by lia) (by lia) e;lia
  refine wpS_bind (wpS_mono (wpS_forRange (I:=λx c s3=>s3=s2/\∃ l r,c=(none,l,r)/\l<=r/\r<=k/\r-l<=k-x /\
    (∀ i,i<l->K (arrOf s2) (lo+i)<K (arrOf s2) (lo+k))/\(∀ i,r<=i->i<k->K (arrOf s2) (lo+k)<K (arrOf s2) (lo+i)))
   (Q:=λc s3=>s3=s2/\∃ l r,c=(none,l,r)/\l<=k /\
    (∀ i,i<l->K (arrOf s2) (lo+i)<K (arrOf s2) (lo+k))/\(∀ i,l<=i->i<k->K (arrOf s2) (lo+k)<K (arrOf s2) (lo+i))) ?_ ?_ ⟨rfl,0,k,rfl,by lia,by lia,by lia,λi hi=>by lia,λi i1 i2=>by lia⟩) ?_)
  ·rintro x c s3 _ h4 ⟨rfl,l,r,rfl,lr,rk,me,f1,f2⟩;dsimp only;by_cases c1:l>=r
   ·rw[if_pos c1];have:l=r:=by lia
    subst this;exact wpS_pure ⟨rfl,l,l,rfl,rk,f1,f2⟩
   ·rw[if_neg c1];refine wpS_bind (yaj D B2 (by lia) (by lia) ?_);by_cases c2:K (arrOf s3) (lo+k)<K (arrOf s3) (lo+(l+r)/2)
    ·simp only[c2,decide_true,if_true];refine wpS_pure ⟨rfl,l,(l+r)/2,rfl,by lia,by lia,by lia,f1,λi i1 i2=>?_⟩;by_cases c3:i=(l+r)/2
     ·subst c3;exact c2
     ·exact Vz c2 (u2 _ _ (by lia) (by lia) (by lia))
    ·simp only[c2,decide_false,Vd,if_false];have n1:=ne ((l+r)/2) (by lia);refine wpS_pure ⟨rfl,(l+r)/2+1,r,rfl,by lia,by lia,by lia,λi i1=>?_,f2⟩;by_cases c3:i=(l+r)/2
     ·subst c3;lia
     ·have:=u2 (lo+i) (lo+(l+r)/2) (by lia) (by lia) (by lia)
      lia
  ·rintro c s3 ⟨rfl,l,r,rfl,lr,rk,me,f1,f2⟩;have:l=r:=by lia
   subst this;exact⟨rfl,l,l,rfl,rk,f1,f2⟩
  ·rintro c s3 ⟨rfl,l,r,rfl,lk,f1,f2⟩;show wpS _ _ _ _ (do moveDown' (lo+k) (lo+l);pure (ForInStep.yield (none,()))) _ _;rw[moveDown'_eq];have kk:∀ i,K (bubble (arrOf s3) (lo+k) (lo+k-(lo+l))) i=if i=lo+l then K (arrOf s3) (lo+k) else if lo+l<i/\i<=lo+k then K (arrOf s3) (i-1) else K (arrOf s3) i:=λi=>by
    have:=K_bubble (xs:=arrOf s3) (src:=lo+k) (d:=lo+k-(lo+l)) (by lia) (by lia) i
    rwa [show lo+k-(lo+k-(lo+l))=lo+l by lia] at this
   refine wpS_bind (wpS_modify (wpS_pure ⟨rfl,B2.put (bubble_perm _ _ _),p2,λi j i1 i2 i3=>?_,λi i1=>?_⟩))
   ·show K (bubble (arrOf s3) (lo+k) (lo+k-(lo+l))) i<K (bubble (arrOf s3) (lo+k) (lo+k-(lo+l))) j;rw[kk,kk];have g1:∀ i,lo<=i->i<lo+l->K (arrOf s3) i<K (arrOf s3) (lo+k):=λi i1 i2=>by have:=f1 (i-lo) (by lia);rwa [show lo+(i-lo)=i by lia] at this
    have g2:∀ i,lo+l<=i->i<lo+k->K (arrOf s3) (lo+k)<K (arrOf s3) i:=λi i1 i2=>by have:=f2 (i-lo) (by lia) (by lia);rwa [show lo+(i-lo)=i by lia] at this
    split
    ·rw[if_neg (by lia),if_pos (by lia)];exact g2 _ (by lia) (by lia)
    ·split
     ·rw[if_neg (by lia),if_pos (by lia)];exact u2 _ _ (by lia) (by lia) (by lia)
     ·split
      ·exact g1 _ (by lia) (by lia)
      ·split
       ·by_cases c:i=j-1
        ·lia
        ·exact u2 _ _ (by lia) (by lia) (by lia)
       ·exact u2 _ _ (by lia) (by lia) (by lia)
   ·show K (bubble (arrOf s3) (lo+k) (lo+k-(lo+l))) i=_;rw[kk,if_neg (by lia),if_neg (by lia)];exact l2 i i1
 ·rintro c s2 ⟨rfl,B2,p2,u2,l2⟩;rw[show max (max ok 1) n=n by lia] at u2;exact⟨rfl,B2,p2,u2,l2⟩
 ·rintro c s2 ⟨rfl,B2,p2,u2,l2⟩;exact wpS_pure (h s2 B2 p2 u2 l2)
noncomputable def Zt:Bool->Keyed->Array Keyed->Nat->Nat->Nat->StateT SortSt Sem (Option Nat):=sortPriv% PySem.Builtin.gallop
end TS
end
section
namespace TS
open PySem PyProof.Rows
variable {prog:Program} {w:World} {A:Around} {E:Value->Shared->Prop} {s:Shared} {a:Array Keyed} {st:SortSt}
noncomputable def qa4(left:Bool)(key:Keyed)(arr:Array Keyed)(base i:Nat):StateT SortSt Sem (Option Bool):=do
 let x<-elem' arr (base+i)
 if left then lt' x key else return (<- lt' key x).map (!·)
theorem qaL(left:Bool)(key:Keyed)(arr:Array Keyed)(base n hint:Nat):Zt left key arr base n hint=(do
 let mut z:=0
 let mut o:=1
 let mut lo:=0
 let mut hi:=0
 let some r<-qa4 left key arr base hint|return none
 if r then
  for _ in [0:n] do
   if o>=n-hint then break
   let some y<-qa4 left key arr base (hint+o)|return none
   if !y then break
   z:=o
   o:=2*o+1
  lo:=hint+z+1
  hi:=hint+min o (n-hint)
 else
  for _ in [0:n] do
   if o>=hint+1 then break
   let some y<-qa4 left key arr base (hint-o)|return none
   if y then break
   z:=o
   o:=2*o+1
  lo:=hint+1-min o (hint+1)
  hi:=hint-z
 for _ in [0:n] do
  if lo>=hi then break
  let some y<-qa4 left key arr base (lo+(hi-lo)/2)|return none
  if y then lo:=lo+(hi-lo)/2+1 else hi:=lo+(hi-lo)/2
 return some hi):=rfl
theorem ybd{left:Bool}{key:Keyed}{arr:Array Keyed}{base n hint:Nat}{Q:Option Nat->SortSt->Prop}(P:Nat->Bool)(hh:hint<n)
  (hb:∀ i,i<n->∀ Q:Option Bool->SortSt->Prop,Q (some (P i)) st->wpS (model prog w) A E s (qa4 left key arr base i) Q st)
  (mono:∀ i j,i<=j->j<n->P j=true->P i=true)
  (h:∀ k,k<=n->(∀ i,i<k->P i=true)->(∀ i,k<=i->i<n->P i=false)->Q (some k) st):wpS (model prog w) A E s (Zt left key arr base n hint) Q st:=by
 have down:∀ i j,i<=j->j<n->P i=false->P j=false:=λi j hij hj hf=>by
  cases e:P j with
  |false=>rfl
  |true=>rw[mono i j hij hj e] at hf;cases hf
 have last:∀(f:Nat->Option (Option Nat)×Nat×Nat->StateT SortSt Sem (ForInStep (Option (Option Nat)×Nat×Nat))),(∀ x lo hi,hi<=n->∀ R:ForInStep (Option (Option Nat)×Nat×Nat)->SortSt->Prop,(hi<=lo->R (.done (none,lo,hi)) st)->(lo<hi->(P (lo+(hi-lo)/2)=true->R (.yield (none,lo+(hi-lo)/2+1,hi)) st)/\(P (lo+(hi-lo)/2)=false->R (.yield (none,lo,lo+(hi-lo)/2)) st))->wpS (model prog w) A E s (f x (none,lo,hi)) R st) ->
   ∀ lo hi,lo<=hi->hi<=n->(∀ i,i<lo->P i=true)->(∀ i,hi<=i->i<n->P i=false)->wpS (model prog w) A E s (forIn [0:n] ((none,lo,hi):Option (Option Nat)×Nat×Nat) f) (λc s2=>s2=st/\∃ hi,c=(none,hi,hi)/\hi<=n/\(∀ i,i<hi->P i=true)/\(∀ i,hi<=i->i<n->P i=false)) st:=by
  intro f hf lo hi l1 l2 f1 f2;refine wpS_forRange (I:=λx c s2=>s2=st/\∃ lo hi,c=(none,lo,hi)/\lo<=hi/\hi<=n/\hi-lo<=n-x/\(∀ i,i<lo->P i=true)/\(∀ i,hi<=i->i<n->P i=false)) ?_ ?_ ⟨rfl,lo,hi,rfl,l1,l2,by lia,f1,f2⟩
  ·rintro x c s2 _ hx ⟨rfl,lo,hi,rfl,l1,l2,l3,f1,f2⟩;refine hf x lo hi l2 _ (λc1=>?_) λc1=>?_
   ·have:lo=hi:=by lia
    subst this;exact⟨rfl,lo,rfl,l2,f1,f2⟩
   ·generalize hm:lo+(hi-lo)/2=m;have m1:lo<=m/\m<hi:=by lia
    exact⟨λe=>⟨rfl,m+1,hi,rfl,by lia,l2,by lia,λi hi2=>mono i m (by lia) (by lia) e,f2⟩,λe=>⟨rfl,lo,m,rfl,by lia,by lia,by lia,f1,λi i1 i2=>down m i i1 i2 e⟩⟩
  ·rintro c s2 ⟨rfl,lo,hi,rfl,l1,l2,l3,f1,f2⟩;have:lo=hi:=by lia
   subst this;exact⟨rfl,lo,rfl,l2,f1,f2⟩
 rw[qaL];refine wpS_bind (hb hint hh _ ?_);cases e:P hint with
 |true =>
  dsimp only;rw[if_pos rfl];refine wpS_bind (wpS_mono (wpS_forRange (I:=λx c s2=>s2=st/\∃ z o,c=(none,z,o)/\z<o/\x<o/\hint+z<n/\P (hint+z)=true)
   (Q:=λc s2=>s2=st/\∃ z o,c=(none,z,o)/\z<o/\hint+z<n/\P (hint+z)=true/\(n-hint<=o\/(hint+o<n/\P (hint+o)=false))) ?_ ?_ ⟨rfl,0,1,rfl,by lia,by lia,hh,e⟩) ?_)
  ·rintro x c s2 _ hx ⟨rfl,z,o,rfl,z1,z2,z3,z4⟩;dsimp only;by_cases c1:o>=n-hint
   ·rw[if_pos c1];exact wpS_pure ⟨rfl,z,o,rfl,z1,z3,z4,.inl c1⟩
   ·rw[if_neg c1];refine wpS_bind (hb _ (by lia) _ ?_);cases e2:P (hint+o) with
    |true =>
     dsimp only;rw[if_neg (by decide)];exact wpS_pure ⟨rfl,o,2*o+1,rfl,by lia,by lia,by lia,e2⟩
    |false =>
     dsimp only;rw[if_pos (by decide)];exact wpS_pure ⟨rfl,z,o,rfl,z1,z3,z4,.inr ⟨by lia,e2⟩⟩
  ·rintro c s2 ⟨rfl,z,o,rfl,z1,z2,z3,z4⟩;exact⟨rfl,z,o,rfl,z1,z3,z4,.inl (by lia)⟩
  ·rintro c s2 ⟨rfl,z,o,rfl,z1,z3,z4,z5⟩;have g2:∀ i,hint+min o (n-hint)<=i->i<n->P i=false:=λi i1 i2=>by
    rcases z5 with z5|⟨z5,z6⟩
    ·lia
    ·exact down _ i (by lia) i2 z6
   dsimp only;refine wpS_bind (wpS_mono (last _ (λx lo hi h2 R r1 r2=>?_) (hint+z+1) (hint+min o (n-hint)) (by lia) (by lia) (λi hi=>mono i _ (by lia) z3 z4) g2) ?_)
   ·dsimp only;by_cases c1:lo>=hi
    ·rw[if_pos c1];exact wpS_pure (r1 c1)
    ·rw[if_neg c1];refine wpS_bind (hb _ (by lia) _ ?_);cases e:P (lo+(hi-lo)/2) with
     |true=>exact wpS_pure ((r2 (by lia)).1 e)
     |false=>exact wpS_pure ((r2 (by lia)).2 e)
   ·rintro c s2 ⟨rfl,k,rfl,k1,f1,f2⟩;exact wpS_pure (h k k1 f1 f2)
 |false =>
  dsimp only;rw[if_neg (by decide)];refine wpS_bind (wpS_mono (wpS_forRange (I:=λx c s2=>s2=st/\∃ z o,c=(none,z,o)/\z<o/\x<o/\z<=hint/\P (hint-z)=false)
   (Q:=λc s2=>s2=st/\∃ z o,c=(none,z,o)/\z<o/\z<=hint/\P (hint-z)=false/\(hint+1<=o\/(o<=hint/\P (hint-o)=true))) ?_ ?_ ⟨rfl,0,1,rfl,by lia,by lia,by lia,e⟩) ?_)
  ·rintro x c s2 _ hx ⟨rfl,z,o,rfl,z1,z2,z3,z4⟩;dsimp only;by_cases c1:o>=hint+1
   ·rw[if_pos c1];exact wpS_pure ⟨rfl,z,o,rfl,z1,z3,z4,.inl c1⟩
   ·rw[if_neg c1];refine wpS_bind (hb _ (by lia) _ ?_);cases e2:P (hint-o) with
    |true =>
     dsimp only;rw[if_pos rfl];exact wpS_pure ⟨rfl,z,o,rfl,z1,z3,z4,.inr ⟨by lia,e2⟩⟩
    |false =>
     dsimp only;rw[if_neg (by decide)];exact wpS_pure ⟨rfl,o,2*o+1,rfl,by lia,by lia,by lia,e2⟩
  ·rintro c s2 ⟨rfl,z,o,rfl,z1,z2,z3,z4⟩;exact⟨rfl,z,o,rfl,z1,z3,z4,.inl (by lia)⟩
  ·rintro c s2 ⟨rfl,z,o,rfl,z1,z3,z4,z5⟩;have g1:∀ i,i<hint+1-min o (hint+1)->P i=true:=λi hi=>by
    rcases z5 with z5|⟨z5,z6⟩
    ·lia
    ·exact mono i _ (by lia) (by lia) z6
   dsimp only;refine wpS_bind (wpS_mono (last _ (λx lo hi h2 R r1 r2=>?_) (hint+1-min o (hint+1)) (hint-z) (by lia) (by lia) g1 λi i1 i2=>down _ i (by lia) i2 z4) ?_)
   ·dsimp only;by_cases c1:lo>=hi
    ·rw[if_pos c1];exact wpS_pure (r1 c1)
    ·rw[if_neg c1];refine wpS_bind (hb _ (by lia) _ ?_);cases e:P (lo+(hi-lo)/2) with
     |true=>exact wpS_pure ((r2 (by lia)).1 e)
     |false=>exact wpS_pure ((r2 (by lia)).2 e)
   ·rintro c s2 ⟨rfl,k,rfl,k1,f1,f2⟩;exact wpS_pure (h k k1 f1 f2)
theorem YS{left:Bool}{key:Keyed}{kv:Int}{t:Tok}{arr:Array Keyed}{base n hint:Nat}{Q:Option Nat->SortSt->Prop}(hk:kindOf st=oneType')(hv:key.1=.int kv t)(D:Dst arr)(hs:base+n<=arr.size)(u:Up arr base (base+n))
  (ne:∀ i,i<n->K arr (base+i)≠kv) (hh:hint<n)
  (h:∀ k,k<=n->(∀ i,i<k->K arr (base+i)<kv)->(∀ i,k<=i->i<n->kv<K arr (base+i))->Q (some k) st):wpS (model prog w) A E s (Zt left key arr base n hint) Q st:=by
 refine ybd (λi=>decide (K arr (base+i)<kv)) hh (λi hi Q hQ=>?_) (λi j hij hj e=>?_) λk k1 f1 f2=>h k k1 (λi hi=>of_decide_eq_true (f1 i hi)) λi i1 i2=>?_
 ·obtain⟨u,q,e⟩:=D.at (i:=base+i) (by lia);unfold qa4;refine wpS_bind (zf e ?_);cases left with
  |true=>exact YaZ hk rfl hv hQ
  |false =>
   rw[if_neg (by decide)];refine wpS_bind (YaZ hk hv rfl (wpS_pure ?_));have:=ne i hi;have e2:(!decide (kv<K arr (base+i)))=decide (K arr (base+i)<kv):=by
    by_cases c:kv<K arr (base+i)
    ·rw[decide_eq_true c,decide_eq_false (by lia)];rfl
    ·rw[decide_eq_false c,decide_eq_true (by lia)];rfl
   rw[vn,e2];exact hQ
 ·have e:=of_decide_eq_true e;by_cases c:i=j
  ·subst c;exact decide_eq_true e
  ·exact decide_eq_true (Vz (u (base+i) (base+j) (by lia) (by lia) (by lia)) e)
 ·have:=of_decide_eq_false (f2 i i1 i2);have:=ne i i2
  lia
end TS
end
section
namespace TS
open PySem PyProof.Rows
variable {prog:Program} {w:World} {A:Around} {E:Value->Shared->Prop} {s:Shared} {a:Array Keyed} {st:SortSt}
noncomputable def Qad:Array Keyed->Array Keyed->StateT SortSt Sem (Array Keyed):=sortPriv% PySem.Builtin.mergeLo
noncomputable def zac:Nat->StateT SortSt Sem Unit:=sortPriv% PySem.Builtin.setMinGallop
theorem Yaz(X Y:Array Keyed):Qad X Y=(do
 rule "list.sort.merge-lo"
 let fin (o:Array Keyed) (i j:Nat):=o++X.extract i X.size++Y.extract j Y.size
 let lst (o:Array Keyed) (i j:Nat):=o++Y.extract j Y.size++X.extract i X.size
 let mut o:Array Keyed:=#[<- elem' Y 0]
 let mut i:=0
 let mut j:=1
 if j==Y.size then return fin o i j
 if i+1==X.size then return lst o i j
 let mut g:=gallopOf (<- get)
 for _ in [0:X.size+Y.size] do
  let mut p:=0
  let mut q:=0
  for _ in [0:X.size+Y.size] do
   let some v<-lt' (<- elem' Y j) (<- elem' X i)|return fin o i j
   if v then
    o:=o.push (<- elem' Y j);j:=j+1;q:=q+1;p:=0
    if j==Y.size then return fin o i j
    if q>=g then break
   else
    o:=o.push (<- elem' X i);i:=i+1;p:=p+1;q:=0
    if i+1==X.size then return lst o i j
    if p>=g then break
  rule "list.sort.gallop"
  g:=g+1
  for _ in [0:X.size+Y.size] do
   if g>1 then g:=g-1
   zac g
   let some k<-Zt false (<- elem' Y j) X i (X.size-i) 0|return fin o i j
   p:=k
   if k>0 then
    o:=o++X.extract i (i+k);i:=i+k
    if i+1==X.size then return lst o i j
    if i==X.size then return fin o i j
   o:=o.push (<- elem' Y j);j:=j+1
   if j==Y.size then return fin o i j
   let some k<-Zt true (<- elem' X i) Y j (Y.size-j) 0|return fin o i j
   q:=k
   if k>0 then
    o:=o++Y.extract j (j+k);j:=j+k
    if j==Y.size then return fin o i j
   o:=o.push (<- elem' X i);i:=i+1
   if i+1==X.size then return lst o i j
   if p<7&&q<7 then break
  g:=g+1
  zac g
 unsupported "internal:list.sort.merge-bound"):=rfl
structure Mg (X Y o:Array Keyed) (i j:Nat):Prop where
 hi:i<=X.size
 hj:j<=Y.size
 pm:o.toList.Perm (X.toList.take i++Y.toList.take j)
 up:o.toList.Pairwise λp q=>numOf p.1<numOf q.1
 lx:∀ p∈o.toList,∀ k,i<=k->k<X.size->numOf p.1<K X k
 ly:∀ p∈o.toList,∀ k,j<=k->k<Y.size->numOf p.1<K Y k
theorem Mg.swap{X Y o:Array Keyed}{i j:Nat}(m:Mg X Y o i j):Mg Y X o j i:=⟨m.hj,m.hi,m.pm.trans Uu,m.up,m.ly,m.lx⟩
theorem Mg.x{X Y o:Array Keyed}{i j:Nat}{x:Keyed}(m:Mg X Y o i j)(u:Up X 0 X.size)(e:X[i]?=some x)(h:∀ k,j<=k->k<Y.size->K X i<K Y k):Mg X Y (o.push x) (i+1) j:=by
 obtain⟨hi,ex⟩:=Vk.mp e;have kx:K X i=numOf x.1:=by rw[K_eq hi,ex]
 have tk:X.toList.take (i+1)=X.toList.take i++[x]:=by
  rw[wz,show X.toList[i]?=some x by simpa using e];rfl
 refine⟨hi,m.hj,?_,?_,?_,?_⟩
 ·rw[Vn,tk];refine(List.Perm.append_right [x] m.pm).trans ?_;rw[xq,xq];exact List.Perm.append_left _ Uu
 ·rw[Vn,List.pairwise_append];exact⟨m.up,List.pairwise_singleton _ _,λp hp q hq=>by rw[Uc.mp hq,<- kx];exact m.lx p hp i (wb _) hi⟩
 ·intro p hp k h1 h2;rw[Vn] at hp
  rcases xg.mp hp with hp|hp
  ·exact m.lx p hp k (by lia) h2
  ·rw[Uc.mp hp,<- kx];exact u i k (by lia) (by lia) h2
 ·intro p hp k h1 h2;rw[Vn] at hp
  rcases xg.mp hp with hp|hp
  ·exact m.ly p hp k h1 h2
  ·rw[Uc.mp hp,<- kx];exact h k h1 h2
theorem Mg.xs{X Y o:Array Keyed}{i j:Nat}(m:Mg X Y o i j)(u:Up X 0 X.size):∀ d,i+d<=X.size->(∀ l,l<d->∀ k,j<=k->k<Y.size->K X (i+l)<K Y k)->Mg X Y (o++X.extract i (i+d)) (i+d) j
 |0,h,_=>by
  have e:o++X.extract i (i+0)=o:=by simp;exact Xp _ _
  rw[e];exact m
 |d+1,h,hl=>by
  have ih:=m.xs u d (by lia) λl h1=>hl l (by lia);have e:o++X.extract i (i+(d+1))=(o++X.extract i (i+d)).push X[i+d]:=by
   rw[<- Array.append_push,Uy,show min i (i+d)=i by lia];rfl
  rw[e];exact ih.x u (getElem?_pos X (i+d) (by lia)) (hl d (by lia))
theorem Mg.y{X Y o:Array Keyed}{i j:Nat}{x:Keyed}(m:Mg X Y o i j)(u:Up Y 0 Y.size)(e:Y[j]?=some x)(h:∀ k,i<=k->k<X.size->K Y j<K X k):Mg X Y (o.push x) i (j+1):=(m.swap.x u e h).swap
theorem Mg.ys{X Y o:Array Keyed}{i j:Nat}(m:Mg X Y o i j)(u:Up Y 0 Y.size)(d:Nat)(h:j+d<=Y.size)(hl:∀ l,l<d->∀ k,i<=k->k<X.size->K Y (j+l)<K X k):Mg X Y (o++Y.extract j (j+d)) i (j+d):=(m.swap.xs u d h hl).swap
structure Two (X Y:Array Keyed):Prop where
 dx:Dst X
 dy:Dst Y
 ux:Up X 0 X.size
 uy:Up Y 0 Y.size
 ap:∀ i j,i<X.size->j<Y.size->K X i≠K Y j
theorem Up.le{X:Array Keyed}(u:Up X 0 X.size){i k:Nat}(h:i<=k)(hk:k<X.size):K X i<=K X k:=by
 by_cases c:i=k
 ·subst c;exact xr _
 ·exact Int.le_of_lt (u i k (by lia) (by lia) hk)
theorem Mg.fin{X Y o:Array Keyed}{i j:Nat}(T:Two X Y)(m:Mg X Y o i j)(h:i=X.size\/j=Y.size):Mg X Y (o++X.extract i X.size++Y.extract j Y.size) X.size Y.size:=by
 have hi:=m.hi;have hj:=m.hj
 rcases h with rfl|rfl
 ·have:=m.ys T.uy (Y.size-j) (by lia) (λl h1 k h2 h3=>by lia);rw[show j+(Y.size-j)=Y.size by lia] at this;simpa using this
 ·have:=m.xs T.ux (X.size-i) (by lia) (λl h1 k h2 h3=>by lia);rw[show i+(X.size-i)=X.size by lia] at this;simpa using this
theorem Mg.lst{X Y o:Array Keyed}{i j:Nat}(T:Two X Y)(m:Mg X Y o i j)(h:i+1=X.size)(hl:∀ k,k<Y.size->K Y k<K X (X.size-1)):Mg X Y (o++Y.extract j Y.size++X.extract i X.size) X.size Y.size:=by
 have hj:=m.hj;have m2:=m.ys T.uy (Y.size-j) (by lia) (λl h1 k h2 h3=>by rw[show k=X.size-1 by lia];exact hl _ (by lia));rw[show j+(Y.size-j)=Y.size by lia] at m2;have m3:=m2.xs T.ux (X.size-i) (by lia) (λl h1 k h2 h3=>by lia)
 rwa [show i+(X.size-i)=X.size by lia] at m3
structure SG (st s2:SortSt):Prop where
 k:kindOf s2=kindOf st
 a:arrOf s2=arrOf st
 p:pendingOf s2=pendingOf st
 f:failedOf s2=failedOf st
theorem SG.refl(st:SortSt):SG st st:=⟨rfl,rfl,rfl,rfl⟩
theorem YI{g:Nat}{s2:SortSt}{Q:Unit->SortSt->Prop}(h:SG st s2)(hQ:∀ s3,SG st s3->Q () s3):wpS (model prog w) A E s (zac g) Q s2:=by
 show wpS (model prog w) A E s (modify λz=>SortSt.mk' (kindOf z) (arrOf z) (pendingOf z) g (failedOf z)) Q s2;exact wpS_modify (hQ _ ⟨h.k,h.a,h.p,h.f⟩)
end TS
end
section
namespace TS
open PySem PyProof.Rows
variable {prog:Program} {w:World} {A:Around} {E:Value->Shared->Prop} {s:Shared} {a:Array Keyed} {st:SortSt}
theorem yaO{X Y:Array Keyed}{Q:Array Keyed->SortSt->Prop}(T:Two X Y)(hk:kindOf st=oneType')(x1:1<=X.size)(y1:1<=Y.size)(h0:K Y 0<K X 0)(hl:∀ k,k<Y.size->K Y k<K X (X.size-1))
  (h:∀ r s2,SG st s2->Mg X Y r X.size Y.size->Q r s2):wpS (model prog w) A E s (Qad X Y) Q st:=by
 rw[Yaz];refine wpS_bind (wpS_lift (wpAny_rule ⟨rfl,?_⟩));dsimp only;obtain⟨ty,qy,ey⟩:=T.dy.at (i:=0) (by lia);refine wpS_bind (zf ey ?_);have m0:Mg X Y #[] 0 0:=⟨by lia,by lia,by simp,List.Pairwise.nil,λp hp=>by simp at hp,λp hp=>by simp at hp⟩;have m1:=m0.y T.uy ey λk k1 k2=>by have:=T.ux.le (Uk k) k2;lia
 generalize hx:((.int (K Y 0) ty,qy):Keyed)=ky at *;have e1:(#[]:Array Keyed).push ky=#[ky]:=rfl;rw[e1] at m1;by_cases c1:(1==Y.size)=true
 ·rw[if_pos c1];exact wpS_pure (h _ _ (SG.refl _) (m1.fin T (.inr (by simpa using c1))))
 rw[if_neg c1];by_cases c2:(0+1==X.size)=true
 ·rw[if_pos c2];exact wpS_pure (h _ _ (SG.refl _) (m1.lst T (by simpa using c2) hl))
 rw[if_neg c2];refine wpS_bind (wpS_get ?_);have c1:¬ 1=Y.size:=by simpa using c1
 have c2:¬ 1=X.size:=by simpa using c2
 refine wpS_bind (wpS_mono (wpS_forRange (I:=λx c s2=>SG st s2/\∃ o i j g,c=(none,o,i,j,g)/\Mg X Y o i j/\i+1<X.size/\j<Y.size/\x<i+j)
  (Q:=λc s2=>SG st s2/\∃ r z,c=(some r,z)/\Mg X Y r X.size Y.size) ?_ ?_ ⟨SG.refl _,_,0,1,_,rfl,m1,by lia,by lia,by lia⟩) ?_)
 ·rintro x c s2 _ hx ⟨S2,o,i,j,g,rfl,m,i1,j1,pr⟩;dsimp only;refine wpS_bind (wpS_mono (wpS_forRange (I:=λy c s3=>SG st s3/\∃ o i j p q,c=(none,o,i,j,p,q)/\Mg X Y o i j/\i+1<X.size/\j<Y.size/\x+y<i+j)
   (Q:=λc s3=>SG st s3/\((∃ r z,c=(some r,z)/\Mg X Y r X.size Y.size)\/∃ o i j p q,c=(none,o,i,j,p,q)/\Mg X Y o i j/\i+1<X.size/\j<Y.size/\x+1<i+j)) ?_ ?_ ⟨S2,o,i,j,0,0,rfl,m,i1,j1,by lia⟩) ?_)
  ·clear m pr i1 j1;rintro y c s3 _ hy ⟨S3,o,i,j,p,q,rfl,m,i1,j1,pr⟩;dsimp only;obtain⟨tx,vx,ex⟩:=T.dx.at (i:=i) (by lia);obtain⟨tz,vz,ez⟩:=T.dy.at (i:=j) (by lia);refine wpS_bind (zf ez (wpS_bind (zf ex (wpS_bind (YaZ (by rw[S3.k];exact hk) rfl rfl ?_)))));by_cases c:K Y j<K X i
   ·simp only[c,decide_true,if_true];have m2:=m.y T.uy ez λk k1 k2=>by have:=T.ux.le k1 k2;lia
    refine wpS_bind (zf ez ?_);by_cases c3:(j+1==Y.size)=true
    ·rw[if_pos c3];exact wpS_pure ⟨S3,.inl ⟨_,_,rfl,m2.fin T (.inr (by simpa using c3))⟩⟩
    ·rw[if_neg c3];have c3:¬ j+1=Y.size:=by simpa using c3
     split
     ·exact wpS_pure ⟨S3,.inr ⟨_,_,_,_,_,rfl,m2,i1,by lia,by lia⟩⟩
     ·exact wpS_pure ⟨S3,_,_,_,_,_,rfl,m2,i1,by lia,by lia⟩
   ·simp only[c,decide_false,Vd,if_false];have ne:=T.ap i j (by lia) j1;have m2:=m.x T.ux ex λk k1 k2=>by have:=T.uy.le k1 k2;lia
    refine wpS_bind (zf ex ?_);by_cases c3:(i+1+1==X.size)=true
    ·rw[if_pos c3];exact wpS_pure ⟨S3,.inl ⟨_,_,rfl,m2.lst T (by simpa using c3) hl⟩⟩
    ·rw[if_neg c3];have c3:¬ i+1+1=X.size:=by simpa using c3
     split
     ·exact wpS_pure ⟨S3,.inr ⟨_,_,_,_,_,rfl,m2,by lia,by lia,by lia⟩⟩
     ·exact wpS_pure ⟨S3,_,_,_,_,_,rfl,m2,by lia,by lia,by lia⟩
  ·rintro c s3 ⟨S3,o,i,j,p,q,rfl,m,i1,j1,pr⟩
   lia
  ·clear m pr i1 j1;rintro c s3 ⟨S3,⟨r,z,rfl,m⟩|⟨o,i,j,p,q,rfl,m,i1,j1,pr⟩⟩
   ·exact wpS_pure ⟨S3,r,_,rfl,m⟩
   ·dsimp only;refine wpS_bind (wpS_lift (wpAny_rule ⟨rfl,?_⟩));refine wpS_bind (wpS_mono (wpS_forRange (I:=λy c s3=>SG st s3/\∃ o i j g p q,c=(none,o,i,j,g,p,q)/\Mg X Y o i j/\i+1<X.size/\j<Y.size/\x+1+y<i+j)
     (Q:=λc s3=>SG st s3/\((∃ r z,c=(some r,z)/\Mg X Y r X.size Y.size)\/∃ o i j g p q,c=(none,o,i,j,g,p,q)/\Mg X Y o i j/\i+1<X.size/\j<Y.size/\x+1<i+j)) ?_ ?_ ⟨S3,o,i,j,_,p,q,rfl,m,i1,j1,by lia⟩) ?_)
    ·clear m pr i1 j1 S3;rintro y c s3 _ hy ⟨S3,o,i,j,g,p,q,rfl,m,i1,j1,pr⟩;dsimp only;obtain⟨tz,vz,ez⟩:=T.dy.at (i:=j) (by lia);generalize hkz:((.int (K Y j) tz,vz):Keyed)=kz at *;have kz1:kz.1=.int (K Y j) tz:=by rw[<- hkz]
     by_cases cg:g>1
     case' pos=>rw[if_pos cg]
     case' neg=>rw[if_neg cg]
     all_goals
      refine wpS_bind (YI S3 λs4 S4=>?_);refine wpS_bind (zf ez ?_);refine wpS_bind (YS (by rw[S4.k];exact hk) kz1 T.dx (by lia) (λb c h1 h2 h3=>T.ux b c (by lia) h2 (by lia)) (λl h1=>T.ap _ _ (by lia) j1) (by lia) λk k1 f1 f2=>?_);have m2:=m.xs T.ux k (by lia) λl h1 b h2 h3=>by have:=f1 l h1;have:=T.uy.le h2 h3;lia
      have f3:∀ l,i+k<=l->l<X.size->K Y j<K X l:=λl h1 h2=>by have:=f2 (l-i) (by lia) (by lia);rwa [show i+(l-i)=l by lia] at this
      dsimp only;by_cases ck:k>0
      case' pos =>
       rw[if_pos ck];by_cases c3:(i+k+1==X.size)=true
       ·rw[if_pos c3];exact wpS_pure ⟨S4,.inl ⟨_,_,rfl,m2.lst T (by simpa using c3) hl⟩⟩
       rw[if_neg c3];by_cases c4:(i+k==X.size)=true
       ·rw[if_pos c4];exact wpS_pure ⟨S4,.inl ⟨_,_,rfl,m2.fin T (.inl (by simpa using c4))⟩⟩
       rw[if_neg c4];have I2:i+k+1<X.size:=by
        have:¬ i+k+1=X.size:=by simpa using c3
        have:¬ i+k=X.size:=by simpa using c4
        lia
       have P2:x+1+y<i+k+j:=by lia
       generalize o++X.extract i (i+k)=o2 at *;generalize i+k=i2 at *
      case' neg =>
       rw[if_neg ck];obtain rfl:k=0:=by lia
       have I2:=i1;have P2:=pr;rw[Uv] at f3;clear m2 f1 f2 k1;have m2:=m;generalize o=o2 at *;generalize i=i2 at *
      all_goals
       refine wpS_bind (zf ez ?_);have m3:=m2.y T.uy ez f3;by_cases c5:(j+1==Y.size)=true
       ·rw[if_pos c5];exact wpS_pure ⟨S4,.inl ⟨_,_,rfl,m3.fin T (.inr (by simpa using c5))⟩⟩
       rw[if_neg c5];have c5:¬ j+1=Y.size:=by simpa using c5
       obtain⟨tx,vx,ex⟩:=T.dx.at (i:=i2) (by lia);generalize hkx:((.int (K X i2) tx,vx):Keyed)=kx at *;have kx1:kx.1=.int (K X i2) tx:=by rw[<- hkx]
       refine wpS_bind (zf ex ?_);refine wpS_bind (YS (by rw[S4.k];exact hk) kx1 T.dy (by lia) (λb c h1 h2 h3=>T.uy b c (by lia) h2 (by lia)) (λl h1 e=>T.ap i2 _ (by lia) (by lia) e.symm) (by lia) λk2 k3 f5 f6=>?_);have m4:=m3.ys T.uy k2 (by lia) λl h1 b h2 h3=>by have:=f5 l h1;have:=T.ux.le h2 h3;lia
       have f8:∀ l,j+1+k2<=l->l<Y.size->K X i2<K Y l:=λl h1 h2=>by have:=f6 (l-(j+1)) (by lia) (by lia);rwa [show j+1+(l-(j+1))=l by lia] at this
       dsimp only;by_cases ck2:k2>0
       case' pos =>
        rw[if_pos ck2];by_cases c6:(j+1+k2==Y.size)=true
        ·rw[if_pos c6];exact wpS_pure ⟨S4,.inl ⟨_,_,rfl,m4.fin T (.inr (by simpa using c6))⟩⟩
        rw[if_neg c6];have J3:j+1+k2<Y.size:=by
         have:¬ j+1+k2=Y.size:=by simpa using c6
         lia
        have P3:x+1+y<i2+(j+1+k2):=by lia
        have M4:=m4;clear m4;generalize o2.push kz++Y.extract (j+1) (j+1+k2)=o3 at *;generalize j+1+k2=j3 at *
       case' neg =>
        rw[if_neg ck2];obtain rfl:k2=0:=by lia
        have J3:j+1<Y.size:=by lia
        have P3:x+1+y<i2+(j+1):=by lia
        rw[Uv] at f8;have M4:=m3;clear m4;generalize o2.push kz=o3 at *;generalize j+1=j3 at *
       all_goals
        refine wpS_bind (zf ex ?_);have m5:=M4.x T.ux ex f8;by_cases c7:(i2+1+1==X.size)=true
        ·rw[if_pos c7];exact wpS_pure ⟨S4,.inl ⟨_,_,rfl,m5.lst T (by simpa using c7) hl⟩⟩
        rw[if_neg c7];have c7:¬ i2+1+1=X.size:=by simpa using c7
        split
        ·exact wpS_pure ⟨S4,.inr ⟨_,_,_,_,_,_,rfl,m5,by lia,J3,by lia⟩⟩
        ·exact wpS_pure ⟨S4,_,_,_,_,_,_,rfl,m5,by lia,J3,by lia⟩
    ·rintro c s3 ⟨S3,o,i,j,g,p,q,rfl,m,i1,j1,pr⟩
     lia
    ·clear m pr i1 j1;rintro c s3 ⟨S3,⟨r,z,rfl,m⟩|⟨o,i,j,g,p,q,rfl,m,i1,j1,pr⟩⟩
     ·exact wpS_pure ⟨S3,r,_,rfl,m⟩
     ·dsimp only;exact wpS_bind (YI S3 λs4 S4=>wpS_pure ⟨S4,_,_,_,_,rfl,m,i1,j1,pr⟩)
 ·rintro c s2 ⟨S2,o,i,j,g,rfl,m,i1,j1,pr⟩
  lia
 ·rintro c s2 ⟨S2,r,z,rfl,m⟩;exact wpS_pure (h r s2 S2 m)
end TS
end
section
namespace TS
open PySem PyProof.Rows
variable {prog:Program} {w:World} {A:Around} {E:Value->Shared->Prop} {s:Shared} {a:Array Keyed} {st:SortSt}
noncomputable def Y3:Array Keyed->Array Keyed->StateT SortSt Sem (Array Keyed):=sortPriv% PySem.Builtin.mergeHi
theorem qaH(X Y:Array Keyed):Y3 X Y=(do
 rule "list.sort.merge-hi"
 let fin (o:Array Keyed) (i j:Nat):=X.extract 0 i++Y.extract 0 j++o.reverse
 let fst (o:Array Keyed) (i j:Nat):=Y.extract 0 j++X.extract 0 i++o.reverse
 let mut i:=X.size-1
 let mut j:=Y.size
 let mut o:Array Keyed:=#[<- elem' X i]
 if i==0 then return fin o i j
 if j==1 then return fst o i j
 let mut g:=gallopOf (<- get)
 for _ in [0:X.size+Y.size] do
  let mut p:=0
  let mut q:=0
  for _ in [0:X.size+Y.size] do
   let some v<-lt' (<- elem' Y (j-1)) (<- elem' X (i-1))|return fin o i j
   if v then
    i:=i-1;o:=o.push (<- elem' X i);p:=p+1;q:=0
    if i==0 then return fin o i j
    if p>=g then break
   else
    j:=j-1;o:=o.push (<- elem' Y j);q:=q+1;p:=0
    if j==1 then return fst o i j
    if q>=g then break
  rule "list.sort.gallop"
  g:=g+1
  for _ in [0:X.size+Y.size] do
   if g>1 then g:=g-1
   zac g
   let some z<-Zt false (<- elem' Y (j-1)) X 0 i (i-1)|return fin o i j
   p:=i-z
   if i-z>0 then
    o:=o++(X.extract z i).reverse;i:=z
    if i==0 then return fin o i j
   j:=j-1;o:=o.push (<- elem' Y j)
   if j==1 then return fst o i j
   let some z<-Zt true (<- elem' X (i-1)) Y 0 j (j-1)|return fin o i j
   q:=j-z
   if j-z>0 then
    o:=o++(Y.extract z j).reverse;j:=z
    if j==1 then return fst o i j
    if j==0 then return fin o i j
   i:=i-1;o:=o.push (<- elem' X i)
   if i==0 then return fin o i j
   if p<7&&q<7 then break
  g:=g+1
  zac g
 unsupported "internal:list.sort.merge-bound"):=rfl
structure Mh (X Y o:Array Keyed) (i j:Nat):Prop where
 hi:i<=X.size
 hj:j<=Y.size
 pm:o.reverse.toList.Perm (X.toList.drop i++Y.toList.drop j)
 up:o.reverse.toList.Pairwise λp q=>numOf p.1<numOf q.1
 lx:∀ p∈o.reverse.toList,∀ k,k<i->K X k<numOf p.1
 ly:∀ p∈o.reverse.toList,∀ k,k<j->K Y k<numOf p.1
theorem Mh.swap{X Y o:Array Keyed}{i j:Nat}(m:Mh X Y o i j):Mh Y X o j i:=⟨m.hj,m.hi,m.pm.trans Uu,m.up,m.ly,m.lx⟩
theorem Mh.x{X Y o:Array Keyed}{i j:Nat}{x:Keyed}(m:Mh X Y o (i+1) j)(u:Up X 0 X.size)(e:X[i]?=some x)(h:∀ k,k<j->K Y k<K X i):Mh X Y (o.push x) i j:=by
 obtain⟨hi,ex⟩:=Vk.mp e;have kx:K X i=numOf x.1:=by rw[K_eq hi,ex]
 have er:(o.push x).reverse.toList=x::o.reverse.toList:=by simp
 have dr:X.toList.drop i=x::X.toList.drop (i+1):=by
  rw[Vi (by simpa using hi)]
  congr 1
 refine⟨by lia,m.hj,?_,?_,?_,?_⟩
 ·rw[er,dr,wA];exact List.Perm.cons _ m.pm
 ·rw[er,wF];exact⟨λp hp=>by rw[<- kx];exact m.lx p hp i (by lia),m.up⟩
 ·intro p hp k h1;rw[er] at hp
  rcases Ua.mp hp with rfl|hp
  ·rw[<- kx];exact u k i (by lia) h1 hi
  ·exact m.lx p hp k (by lia)
 ·intro p hp k h1;rw[er] at hp
  rcases Ua.mp hp with rfl|hp
  ·rw[<- kx];exact h k h1
  ·exact m.ly p hp k h1
theorem Mh.xs{X Y:Array Keyed}{i j:Nat}(u:Up X 0 X.size):∀(d:Nat)(o:Array Keyed),Mh X Y o (i+d) j->(∀ l,l<d->∀ k,k<j->K Y k<K X (i+l))->Mh X Y (o++(X.extract i (i+d)).reverse) i j
 |0,o,m,_=>by
  have e:o++(X.extract i (i+0)).reverse=o:=by simp;exact Xp _ _
  rw[e];exact m
 |d+1,o,m,hl=>by
  have hi:=m.hi;have e:o++(X.extract i (i+(d+1))).reverse=(o.push (X[i+d]'(by lia)))++(X.extract i (i+d)).reverse:=by
   have:X.extract i (i+(d+1))=(X.extract i (i+d)).push (X[i+d]'(by lia)):=by
    rw[Uy,show min i (i+d)=i by lia];rfl
   rw[this,Array.reverse_push,<- wE];rfl
  rw[e];exact Mh.xs u d _ (Mh.x m u (getElem?_pos X (i+d) (by lia)) (hl d (by lia))) λl h1=>hl l (by lia)
theorem Mh.y{X Y o:Array Keyed}{i j:Nat}{x:Keyed}(m:Mh X Y o i (j+1))(u:Up Y 0 Y.size)(e:Y[j]?=some x)(h:∀ k,k<i->K X k<K Y j):Mh X Y (o.push x) i j:=(m.swap.x u e h).swap
theorem Mh.ys{X Y o:Array Keyed}{i j:Nat}(u:Up Y 0 Y.size)(d:Nat)(m:Mh X Y o i (j+d))(hl:∀ l,l<d->∀ k,k<i->K X k<K Y (j+l)):Mh X Y (o++(Y.extract j (j+d)).reverse) i j:=(Mh.xs u d o m.swap hl).swap
noncomputable def Mgd(X Y r:Array Keyed):Prop:=r.toList.Perm (X.toList++Y.toList)/\r.toList.Pairwise λp q=>numOf p.1<numOf q.1
theorem Mg.all{X Y r:Array Keyed}(m:Mg X Y r X.size Y.size):Mgd X Y r:=⟨by have:=m.pm;rwa [vk (by simp),vk (by simp)] at this,m.up⟩
theorem Mh.all{X Y o:Array Keyed}(m:Mh X Y o 0 0):Mgd X Y o.reverse:=⟨by have:=m.pm;simpa using this,m.up⟩
theorem Mh.fin{X Y o:Array Keyed}{i j:Nat}(T:Two X Y)(m:Mh X Y o i j)(h:i=0\/j=0):Mgd X Y (X.extract 0 i++Y.extract 0 j++o.reverse):=by
 rcases h with rfl|rfl
 ·have:=(Mh.ys (j:=0) T.uy j (by rwa [Uj]) (λl h1 k h2=>by lia)).all;simpa using this
 ·have:=(Mh.xs (i:=0) T.ux i o (by rwa [Uj]) (λl h1 k h2=>by lia)).all;simpa using this
theorem Mh.fst{X Y o:Array Keyed}{i j:Nat}(T:Two X Y)(m:Mh X Y o i j)(h:j=1)(hl:∀ k,k<X.size->K Y 0<K X k):Mgd X Y (Y.extract 0 j++X.extract 0 i++o.reverse):=by
 subst h;have hi:=m.hi;have m2:=Mh.xs (i:=0) T.ux i o (by rwa [Uj]) (λl h1 k h2=>by rw[show k=0 by lia];exact hl _ (by lia));have:=(Mh.ys (j:=0) T.uy 1 m2 (λl h1 k h2=>by lia)).all;simpa using this
end TS
end
section
namespace TS
open PySem PyProof.Rows
variable {prog:Program} {w:World} {A:Around} {E:Value->Shared->Prop} {s:Shared} {a:Array Keyed} {st:SortSt}
theorem zaP{X Y:Array Keyed}{Q:Array Keyed->SortSt->Prop}(T:Two X Y)(hk:kindOf st=oneType')(x1:1<=X.size)(y1:1<=Y.size)(hl:∀ k,k<X.size->K Y 0<K X k)(h0:∀ k,k<Y.size->K Y k<K X (X.size-1))
  (h:∀ r s2,SG st s2->Mgd X Y r->Q r s2):wpS (model prog w) A E s (Y3 X Y) Q st:=by
 rw[qaH];refine wpS_bind (wpS_lift (wpAny_rule ⟨rfl,?_⟩));dsimp only;obtain⟨ty,qy,ey⟩:=T.dx.at (i:=X.size-1) (by lia);refine wpS_bind (zf ey ?_);have m0:Mh X Y #[] X.size Y.size:=⟨by lia,by lia,by rw[vt (by simp),vt (by simp)];simp,by simp,λp hp=>by simp at hp,λp hp=>by simp at hp⟩;have m1:=Mh.x (i:=X.size-1) (by rwa [show X.size-1+1=X.size by lia]) T.ux ey h0;generalize hx:((.int (K X (X.size-1)) ty,qy):Keyed)=ky at *;have e1:(#[]:Array Keyed).push ky=#[ky]:=rfl;rw[e1] at m1;by_cases c1:(X.size-1==0)=true
 ·rw[if_pos c1];exact wpS_pure (h _ _ (SG.refl _) (m1.fin T (.inl (by simpa using c1))))
 rw[if_neg c1];by_cases c2:(Y.size==1)=true
 ·rw[if_pos c2];exact wpS_pure (h _ _ (SG.refl _) (m1.fst T (by simpa using c2) hl))
 rw[if_neg c2];refine wpS_bind (wpS_get ?_);have c1:¬ X.size-1=0:=by simpa using c1
 have c2:¬ Y.size=1:=by simpa using c2
 refine wpS_bind (wpS_mono (wpS_forRange (I:=λx c s2=>SG st s2/\∃ i j o g,c=(none,i,j,o,g)/\Mh X Y o i j/\1<=i/\2<=j/\x+i+j<X.size+Y.size)
  (Q:=λc s2=>SG st s2/\∃ r z,c=(some r,z)/\Mgd X Y r) ?_ ?_ ⟨SG.refl _,_,_,_,_,rfl,m1,by lia,by lia,by lia⟩) ?_)
 ·rintro x c s2 _ hx ⟨S2,i,j,o,g,rfl,m,i1,j1,pr⟩;dsimp only;refine wpS_bind (wpS_mono (wpS_forRange (I:=λy c s3=>SG st s3/\∃ i j o p q,c=(none,i,j,o,p,q)/\Mh X Y o i j/\1<=i/\2<=j/\x+y+i+j<X.size+Y.size)
   (Q:=λc s3=>SG st s3/\((∃ r z,c=(some r,z)/\Mgd X Y r)\/∃ i j o p q,c=(none,i,j,o,p,q)/\Mh X Y o i j/\1<=i/\2<=j/\x+1+i+j<X.size+Y.size)) ?_ ?_ ⟨S2,i,j,o,0,0,rfl,m,i1,j1,by lia⟩) ?_)
  ·clear m pr i1 j1;rintro y c s3 _ hy ⟨S3,i,j,o,p,q,rfl,m,i1,j1,pr⟩;dsimp only;have hi:=m.hi;have hj:=m.hj;obtain⟨tx,vx,ex⟩:=T.dx.at (i:=i-1) (by lia);obtain⟨tz,vz,ez⟩:=T.dy.at (i:=j-1) (by lia);refine wpS_bind (zf ez (wpS_bind (zf ex (wpS_bind (YaZ (by rw[S3.k];exact hk) rfl rfl ?_)))));by_cases c:K Y (j-1)<K X (i-1)
   ·simp only[c,decide_true,if_true];have m2:=Mh.x (i:=i-1) (by rwa [show i-1+1=i by lia]) T.ux ex λk k1=>by have:=T.uy.le (show k<=j-1 by lia) (by lia);lia
    refine wpS_bind (zf ex ?_);by_cases c3:(i-1==0)=true
    ·rw[if_pos c3];exact wpS_pure ⟨S3,.inl ⟨_,_,rfl,m2.fin T (.inl (by simpa using c3))⟩⟩
    ·rw[if_neg c3];have c3:¬ i-1=0:=by simpa using c3
     split
     ·exact wpS_pure ⟨S3,.inr ⟨_,_,_,_,_,rfl,m2,by lia,by lia,by lia⟩⟩
     ·exact wpS_pure ⟨S3,_,_,_,_,_,rfl,m2,by lia,by lia,by lia⟩
   ·simp only[c,decide_false,Vd,if_false];have ne:=T.ap (i-1) (j-1) (by lia) (by lia);have m2:=Mh.y (j:=j-1) (by rwa [show j-1+1=j by lia]) T.uy ez λk k1=>by have:=T.ux.le (show k<=i-1 by lia) (by lia);lia
    refine wpS_bind (zf ez ?_);by_cases c3:(j-1==1)=true
    ·rw[if_pos c3];exact wpS_pure ⟨S3,.inl ⟨_,_,rfl,m2.fst T (by simpa using c3) hl⟩⟩
    ·rw[if_neg c3];have c3:¬ j-1=1:=by simpa using c3
     split
     ·exact wpS_pure ⟨S3,.inr ⟨_,_,_,_,_,rfl,m2,by lia,by lia,by lia⟩⟩
     ·exact wpS_pure ⟨S3,_,_,_,_,_,rfl,m2,by lia,by lia,by lia⟩
  ·rintro c s3 ⟨S3,i,j,o,p,q,rfl,m,i1,j1,pr⟩
   lia
  ·clear m pr i1 j1;rintro c s3 ⟨S3,⟨r,z,rfl,m⟩|⟨i,j,o,p,q,rfl,m,i1,j1,pr⟩⟩
   ·exact wpS_pure ⟨S3,r,_,rfl,m⟩
   ·dsimp only;refine wpS_bind (wpS_lift (wpAny_rule ⟨rfl,?_⟩));refine wpS_bind (wpS_mono (wpS_forRange (I:=λy c s3=>SG st s3/\∃ i j o g p q,c=(none,i,j,o,g,p,q)/\Mh X Y o i j/\1<=i/\2<=j/\x+1+y+i+j<X.size+Y.size)
     (Q:=λc s3=>SG st s3/\((∃ r z,c=(some r,z)/\Mgd X Y r)\/∃ i j o g p q,c=(none,i,j,o,g,p,q)/\Mh X Y o i j/\1<=i/\2<=j/\x+1+i+j<X.size+Y.size)) ?_ ?_ ⟨S3,i,j,o,_,p,q,rfl,m,i1,j1,by lia⟩) ?_)
    ·clear m pr i1 j1 S3;rintro y c s3 _ hy ⟨S3,i,j,o,g,p,q,rfl,m,i1,j1,pr⟩;dsimp only;have hi:=m.hi;have hj:=m.hj;obtain⟨tz,vz,ez⟩:=T.dy.at (i:=j-1) (by lia);generalize hkz:((.int (K Y (j-1)) tz,vz):Keyed)=kz at *;have kz1:kz.1=.int (K Y (j-1)) tz:=by rw[<- hkz]
     by_cases cg:g>1
     case' pos=>rw[if_pos cg]
     case' neg=>rw[if_neg cg]
     all_goals
      refine wpS_bind (YI S3 λs4 S4=>?_);refine wpS_bind (zf ez ?_);refine wpS_bind (YS (by rw[S4.k];exact hk) kz1 T.dx (by lia) (λb c h1 h2 h3=>T.ux b c (by lia) h2 (by lia)) (λl h1=>by rw[Uj];exact T.ap _ _ (by lia) (by lia)) (by lia) λz k1 f1 f2=>?_);simp only[Uj] at f1 f2;dsimp only;by_cases ck:i-z>0
      case' pos =>
       rw[if_pos ck];have m2:=Mh.xs (i:=z) T.ux (i-z) o (by rwa [show z+(i-z)=i by lia]) (λl h1 b h2=>by have:=f2 (z+l) (by lia) (by lia);have:=T.uy.le (show b<=j-1 by lia) (by lia);lia);rw[show z+(i-z)=i by lia] at m2;by_cases c3:(z==0)=true
       ·rw[if_pos c3];exact wpS_pure ⟨S4,.inl ⟨_,_,rfl,m2.fin T (.inl (by simpa using c3))⟩⟩
       rw[if_neg c3];have I2:1<=z:=by
        have:¬ z=0:=by simpa using c3
        lia
       have P2:x+1+y+z+j<X.size+Y.size:=by lia
       have f3:∀ l,l<z->K X l<K Y (j-1):=f1;generalize o++(X.extract z i).reverse=o2 at *
      case' neg =>
       rw[if_neg ck];obtain rfl:z=i:=by lia
       have I2:=i1;have P2:=pr;have f3:∀ l,l<z->K X l<K Y (j-1):=f1;have m2:=m;generalize o=o2 at *
      all_goals
       refine wpS_bind (zf ez ?_);have m3:=Mh.y (j:=j-1) (by rwa [show j-1+1=j by lia]) T.uy ez f3;by_cases c5:(j-1==1)=true
       ·rw[if_pos c5];exact wpS_pure ⟨S4,.inl ⟨_,_,rfl,m3.fst T (by simpa using c5) hl⟩⟩
       rw[if_neg c5];have c5:¬ j-1=1:=by simpa using c5
       obtain⟨tx,vx,ex⟩:=T.dx.at (i:=z-1) (by lia);generalize hkx:((.int (K X (z-1)) tx,vx):Keyed)=kx at *;have kx1:kx.1=.int (K X (z-1)) tx:=by rw[<- hkx]
       refine wpS_bind (zf ex ?_);refine wpS_bind (YS (by rw[S4.k];exact hk) kx1 T.dy (by lia) (λb c h1 h2 h3=>T.uy b c (by lia) h2 (by lia)) (λl h1 e=>by rw[Uj] at e;exact T.ap (z-1) _ (by lia) (by lia) e.symm) (by lia) λv k3 f5 f6=>?_);simp only[Uj] at f5 f6;dsimp only;by_cases ck2:j-1-v>0
       case' pos =>
        rw[if_pos ck2];have m4:=Mh.ys (j:=v) T.uy (j-1-v) (by rwa [show v+(j-1-v)=j-1 by lia]) (λl h1 b h2=>by have:=f6 (v+l) (by lia) (by lia);have:=T.ux.le (show b<=z-1 by lia) (by lia);lia);rw[show v+(j-1-v)=j-1 by lia] at m4;by_cases c6:(v==1)=true
        ·rw[if_pos c6];exact wpS_pure ⟨S4,.inl ⟨_,_,rfl,m4.fst T (by simpa using c6) hl⟩⟩
        rw[if_neg c6];by_cases c8:(v==0)=true
        ·rw[if_pos c8];exact wpS_pure ⟨S4,.inl ⟨_,_,rfl,m4.fin T (.inr (by simpa using c8))⟩⟩
        rw[if_neg c8];have J3:2<=v:=by
         have:¬ v=1:=by simpa using c6
         have:¬ v=0:=by simpa using c8
         lia
        have P3:x+1+y+z+v<X.size+Y.size:=by lia
        have f8:∀ l,l<v->K Y l<K X (z-1):=f5;have M4:=m4;clear m4;generalize o2.push kz++(Y.extract v (j-1)).reverse=o3 at *
       case' neg =>
        rw[if_neg ck2];obtain rfl:v=j-1:=by lia
        have J3:2<=j-1:=by lia
        have P3:x+1+y+z+(j-1)<X.size+Y.size:=by lia
        have f8:∀ l,l<j-1->K Y l<K X (z-1):=f5;have M4:=m3;generalize o2.push kz=o3 at *
       all_goals
        refine wpS_bind (zf ex ?_);have m5:=Mh.x (i:=z-1) (by rwa [show z-1+1=z by lia]) T.ux ex f8;by_cases c7:(z-1==0)=true
        ·rw[if_pos c7];exact wpS_pure ⟨S4,.inl ⟨_,_,rfl,m5.fin T (.inl (by simpa using c7))⟩⟩
        rw[if_neg c7];have c7:¬ z-1=0:=by simpa using c7
        split
        ·exact wpS_pure ⟨S4,.inr ⟨_,_,_,_,_,_,rfl,m5,by lia,J3,by lia⟩⟩
        ·exact wpS_pure ⟨S4,_,_,_,_,_,_,rfl,m5,by lia,J3,by lia⟩
    ·rintro c s3 ⟨S3,i,j,o,g,p,q,rfl,m,i1,j1,pr⟩
     lia
    ·clear m pr i1 j1;rintro c s3 ⟨S3,⟨r,z,rfl,m⟩|⟨i,j,o,g,p,q,rfl,m,i1,j1,pr⟩⟩
     ·exact wpS_pure ⟨S3,r,_,rfl,m⟩
     ·dsimp only;exact wpS_bind (YI S3 λs4 S4=>wpS_pure ⟨S4,_,_,_,_,rfl,m,i1,j1,by lia⟩)
 ·rintro c s2 ⟨S2,i,j,o,g,rfl,m,i1,j1,pr⟩
  lia
 ·rintro c s2 ⟨S2,r,z,rfl,m⟩;exact wpS_pure (h r s2 S2 m)
end TS
end
section
namespace TS
open PySem PyProof.Rows
variable {prog:Program} {w:World} {A:Around} {E:Value->Shared->Prop} {s:Shared} {a:Array Keyed} {st:SortSt}
noncomputable def Qr(s:Nat)(l:List Keyed)(a:Array Keyed):Array Keyed:=l.zipIdx.foldl (λa (p,j)=>a.setIfInBounds (s+j) p) a
theorem zay(i:Nat):mergeAt' i=(do
 let z<-get
 let (some (sa,na,pw),some (sb,nb,_)):=((pendingOf z)[i]?,(pendingOf z)[i+1]?)|unsupported "internal:list.sort.pending"
 set (setPending z (((pendingOf z).setIfInBounds i (sa,na+nb,pw)).eraseIdxIfInBounds (i+1)))
 let some k<-Zt false (<- elem' (arrOf z) sb) (arrOf z) sa na 0|return false
 let (sa,na):=(sa+k,na-k)
 if na==0 then return true
 let some nb<-Zt true (<- elem' (arrOf z) (sa+na-1)) (arrOf z) sb nb (nb-1)|return false
 if nb==0 then return true
 let x:=(arrOf z).extract sa sb
 let y:=(arrOf z).extract sb (sb+nb)
 let r<-if na<=nb then Qad x y else Y3 x y
 modify λz=>setArr z (Qr sa r.toList (arrOf z))
 return (failedOf (<- get)).isNone):=rfl
theorem YbF{σ:Type}{M:Model}{z y:σ}{Q:PUnit->σ->Prop}(h:Q ⟨⟩ z):wpS M A E s (set z:StateT σ Sem PUnit) Q y:=by
 unfold wpS;rw[StateT.run_set];exact wpAny_pure ⟨rfl,h⟩
theorem ZaV(s:Nat):∀(l:List Keyed)(k:Nat)(a:Array Keyed)(i:Nat),s+k+l.length<=a.size ->
  ((l.zipIdx k).foldl (λa (p,j)=>a.setIfInBounds (s+j) p) a)[i]?=if s+k<=i/\i<s+k+l.length then l[i-(s+k)]? else a[i]?
 |[],k,a,i,_=>by
  rw[if_neg (by simp)];rfl
 |x::l,k,a,i,h=>by
  simp only[Ue] at h;rw[vq,wB,ZaV s l (k+1) _ i (by rw[Array.size_setIfInBounds];lia)];by_cases c:s+k=i
  ·subst c;rw[if_neg (by lia),if_pos (by simp),Array.getElem?_setIfInBounds_self_of_lt (by lia)];simp
  ·rw[Array.getElem?_setIfInBounds_ne c];by_cases c2:s+(k+1)<=i/\i<s+(k+1)+l.length
   ·rw[if_pos c2,if_pos (by simp;lia)];rw[show i-(s+k)=(i-(s+(k+1)))+1 by lia,List.getElem?_cons_succ]
   ·rw[if_neg c2,if_neg (by simp;lia)]
theorem zbp{s:Nat}{l:List Keyed}{a:Array Keyed}(h:s+l.length<=a.size):(Qr s l a).toList=a.toList.take s++(l++a.toList.drop (s+l.length)):=by
 apply Wm;intro i;have:=ZaV s l 0 a i (by lia);rw[Uv] at this;rw[vh];show(Qr s l a)[i]?=_;unfold Qr;rw[this];have hs:(a.toList.take s).length=s:=by rw[Xm,xf];lia
 by_cases c1:i<s
 ·rw[if_neg (by lia),xb (by lia),Xl c1,vh]
 ·rw[uc (by lia),hs];by_cases c2:i<s+l.length
  ·rw[if_pos (by lia),xb (by lia)]
  ·rw[if_neg (by lia),uc (by lia),xx,vh]
   congr 1;lia
theorem QaW{xs:Array Keyed}{b e i:Nat}(h:i<e-b)(he:e<=xs.size):K (xs.extract b e) i=K xs (b+i):=by
 apply K_congr;rw[Array.getElem?_extract_of_lt (by lia),getElem?_pos _ _ (by lia)]
theorem Dst.ext{xs:Array Keyed}(D:Dst xs)(b e:Nat):Dst (xs.extract b e):=by
 have sub:(xs.extract b e).toList.Sublist xs.toList:=by
  rw[vv];exact(WG _ _).trans (List.drop_sublist _ _)
 exact⟨λp hp=>D.int p (sub.subset hp),D.nd.sublist (sub.map _)⟩
theorem Up.ext{xs:Array Keyed}{b e:Nat}(u:Up xs b e)(he:e<=xs.size):Up (xs.extract b e) 0 (xs.extract b e).size:=by
 have hs:(xs.extract b e).size=e-b:=by rw[Ux];lia
 intro i j _ h2 h3;rw[QaW (by lia) he,QaW (by lia) he];exact u _ _ (by lia) (by lia) (by lia)
theorem qaS{i b n p m q:Nat}{Q:Bool->SortSt->Prop}(D:Dst a)(B:SB a st)(e1:(pendingOf st)[i]?=some (b,n,p))(e2:(pendingOf st)[i+1]?=some (b+n,m,q))(n1:1<=n)(m1:1<=m)(sz:b+n+m<=a.size)
  (u1:Up (arrOf st) b (b+n)) (u2:Up (arrOf st) (b+n) (b+n+m))
  (h:∀ s2,SB a s2->pendingOf s2=((pendingOf st).setIfInBounds i (b,n+m,p)).eraseIdxIfInBounds (i+1)->Up (arrOf s2) b (b+n+m)->(∀ k,k<b\/b+n+m<=k->K (arrOf s2) k=K (arrOf st) k)->Q true s2) :
  wpS (model prog w) A E s (mergeAt' i) Q st:=by
 have D2:=ZG D B.perm;have hs:=B.size;rw[zay];refine wpS_bind (wpS_get ?_);rw[e1,e2];dsimp only;refine wpS_bind (YbF ?_);generalize hp:((pendingOf st).setIfInBounds i (b,n+m,p)).eraseIdxIfInBounds (i+1)=pd at *;have B2:SB a (setPending st pd):=⟨B.perm,B.kind,B.failed⟩;have ar:arrOf (setPending st pd)=arrOf st:=rfl;have pr:pendingOf (setPending st pd)=pd:=rfl;generalize setPending st pd=s1 at *;generalize hxs:arrOf st=xs at *;obtain⟨tc,vc,ec⟩:=D2.at (i:=b+n) (by lia);refine wpS_bind (zf ec ?_);refine wpS_bind (YS B2.kind rfl D2 (by lia) u1 (λl h1 e=>by have:=D2.inj (by lia) (by lia) e;lia) (by lia) λk k1 f1 f2=>?_);dsimp only;by_cases c1:(n-k==0)=true
 ·rw[if_pos c1];have c1:n-k=0:=by simpa using c1
  refine wpS_pure (h s1 B2 pr ?_ λ_ _=>by rw[ar]);rw[ar];intro x y h1 h2 h3;by_cases cy:y<b+n
  ·exact u1 x y h1 h2 cy
  ·by_cases cx:b+n<=x
   ·exact u2 x y cx h2 h3
   ·have g:=f1 (x-b) (by lia);rw[show b+(x-b)=x by lia] at g;by_cases cy2:y=b+n
    ·rw[cy2];exact g
    ·have:=u2 (b+n) y (by lia) (by lia) h3
     lia
 rw[if_neg c1];have c1:¬ n-k=0:=by simpa using c1
 have ei:b+k+(n-k)-1=b+n-1:=by lia
 rw[ei];obtain⟨td,vd,ed⟩:=D2.at (i:=b+n-1) (by lia);refine wpS_bind (zf ed ?_);refine wpS_bind (YS B2.kind rfl D2 (by lia) u2 (λl h1 e=>by have:=D2.inj (by lia) (by lia) e;lia) (by lia) λv v1 f3 f4=>?_);dsimp only;by_cases c2:(v==0)=true
 ·rw[if_pos c2];have c2:v=0:=by simpa using c2
  refine wpS_pure (h s1 B2 pr ?_ λ_ _=>by rw[ar]);rw[ar];intro x y h1 h2 h3;by_cases cy:y<b+n
  ·exact u1 x y h1 h2 cy
  ·by_cases cx:b+n<=x
   ·exact u2 x y cx h2 h3
   ·have g:=f4 (y-(b+n)) (by lia) (by lia);rw[show b+n+(y-(b+n))=y by lia] at g;by_cases cx2:x=b+n-1
    ·rw[cx2];exact g
    ·have:=u1 x (b+n-1) h1 (by lia) (by lia)
     lia
 rw[if_neg c2];have c2:¬ v=0:=by simpa using c2
 have ux:Up xs (b+k) (b+n):=λx y h1 h2 h3=>u1 x y (by lia) h2 h3;have uy:Up xs (b+n) (b+n+v):=λx y h1 h2 h3=>u2 x y h1 h2 (by lia);have zx:(xs.extract (b+k) (b+n)).size=n-k:=by rw[Ux];lia
 have zy:(xs.extract (b+n) (b+n+v)).size=v:=by rw[Ux];lia
 have kx:∀ l,l<n-k->K (xs.extract (b+k) (b+n)) l=K xs (b+k+l):=λl hl=>QaW (by lia) (by lia);have ky:∀ l,l<v->K (xs.extract (b+n) (b+n+v)) l=K xs (b+n+l):=λl hl=>QaW (by lia) (by lia);have T:Two (xs.extract (b+k) (b+n)) (xs.extract (b+n) (b+n+v)):=⟨D2.ext _ _,D2.ext _ _,ux.ext (by lia),uy.ext (by lia),λx y h1 h2 e=>by
  rw[kx x (by lia),ky y (by lia)] at e;have:=D2.inj (by lia) (by lia) e
  lia⟩
 have g1:∀ l,l<(xs.extract (b+k) (b+n)).size->K (xs.extract (b+n) (b+n+v)) 0<K (xs.extract (b+k) (b+n)) l:=λl hl=>by
  rw[kx l (by lia),ky 0 (by lia)];have:=f2 (k+l) (by lia) (by lia)
  rwa [show b+(k+l)=b+k+l by lia] at this
 have g2:∀ l,l<(xs.extract (b+n) (b+n+v)).size->K (xs.extract (b+n) (b+n+v)) l<K (xs.extract (b+k) (b+n)) ((xs.extract (b+k) (b+n)).size-1):=λl hl=>by
  rw[zx,kx _ (by lia),ky l (by lia),show b+k+(n-k-1)=b+n-1 by lia];exact f3 l (by lia)
 have fin:∀ r s2,SG s1 s2->Mgd (xs.extract (b+k) (b+n)) (xs.extract (b+n) (b+n+v)) r->Q true (setArr s2 (Qr (b+k) r.toList (arrOf s2))):=λr s2 S M=>by
  have rl:r.toList.length=n-k+v:=by rw[M.1.length_eq,Xf,xf,xf,zx,zy]
  have a2:arrOf s2=xs:=by rw[S.a,ar]
  rw[a2];have mid:(xs.toList.drop (b+k)).take (n-k+v)=(xs.extract (b+k) (b+n)).toList++(xs.extract (b+n) (b+n+v)).toList:=by
   rw[vv,vv,Us,Us,show b+n-(b+k)=n-k by lia,show b+n+v-(b+n)=v by lia,List.take_add,List.drop_drop,show b+k+(n-k)=b+n by lia]
  have pm:(Qr (b+k) r.toList xs).Perm xs:=by
   rw[Xy,zbp (by lia),rl];have e9:xs.toList=xs.toList.take (b+k)++((xs.toList.drop (b+k)).take (n-k+v)++xs.toList.drop (b+k+(n-k+v))):=by
    have e8:=Xn (n-k+v) (xs.toList.drop (b+k));rw[List.drop_drop] at e8;rw[e8,Xn]
   conv=>rhs;rw[e9,mid]
   exact List.Perm.append_left _ (List.Perm.append_right _ M.1)
  have ka:∀ x,K (Qr (b+k) r.toList xs) x=if b+k<=x/\x<b+n+v then K r (x-(b+k)) else K xs x:=λx=>by
   have:=ZaV (b+k) r.toList 0 xs x (by lia);rw[Uv] at this;by_cases c:b+k<=x/\x<b+n+v
   ·rw[if_pos c];rw[if_pos (by lia),vh] at this;exact K_congr this
   ·rw[if_neg c];rw[if_neg (by lia)] at this;exact K_congr this
  have kr:∀ l,l<n-k+v->∃ x,b+k<=x/\x<b+n+v/\K r l=K xs x:=λl hl=>by
   have hl2:l<r.size:=by rw[<- xf,rl];exact hl
   have hm:r[l]∈r.toList:=by simp
   have hm:=M.1.mem_iff.mp hm;rw[K_eq hl2]
   rcases xg.mp hm with hm|hm
   ·obtain⟨x,hx,ex⟩:=xC.mp (Wv.mp hm);refine⟨b+k+x,by lia,by lia,?_⟩;rw[<- kx x (by lia),K_eq hx,ex]
   ·obtain⟨x,hx,ex⟩:=xC.mp (Wv.mp hm);refine⟨b+n+x,by lia,by lia,?_⟩;rw[<- ky x (by lia),K_eq hx,ex]
  have ru:∀ x y,x<y->y<n-k+v->K r x<K r y:=λx y h1 h2=>by
   have hx:x<r.size:=by rw[<- xf,rl];lia
   have hy:y<r.size:=by rw[<- xf,rl];lia
   have:=wo.mp M.2 x y (by simpa using hx) (by simpa using hy) h1;rw[K_eq hx,K_eq hy];simpa using this
  refine h _ ⟨pm.trans (by rw[<- hxs];exact B.perm),by show kindOf s2=_;rw[S.k];exact B2.kind,by show failedOf s2=_;rw[S.f];exact B2.failed⟩ (by show pendingOf s2=_;rw[S.p];exact pr) ?_ ?_
  ·intro x y h1 h2 h3;show K (Qr (b+k) r.toList xs) x<K (Qr (b+k) r.toList xs) y;rw[ka,ka];by_cases cx:b+k<=x/\x<b+n+v
   ·rw[if_pos cx];by_cases cy:b+k<=y/\y<b+n+v
    ·rw[if_pos cy];exact ru _ _ (by lia) (by lia)
    ·rw[if_neg cy];obtain⟨z,z1,z2,ez⟩:=kr (x-(b+k)) (by lia);rw[ez];have g:=f4 (y-(b+n)) (by lia) (by lia);rw[show b+n+(y-(b+n))=y by lia] at g;by_cases cz:z<b+n
     ·by_cases cz2:z=b+n-1
      ·rw[cz2];exact g
      ·have:=u1 z (b+n-1) (by lia) (by lia) (by lia)
       lia
     ·exact u2 z y (by lia) (by lia) h3
   ·rw[if_neg cx];by_cases cy:b+k<=y/\y<b+n+v
    ·rw[if_pos cy];obtain⟨z,z1,z2,ez⟩:=kr (y-(b+k)) (by lia);rw[ez];have g:=f1 (x-b) (by lia);rw[show b+(x-b)=x by lia] at g;by_cases cz:z<b+n
     ·exact u1 x z h1 (by lia) cz
     ·by_cases cz2:z=b+n
      ·rw[cz2];exact g
      ·have:=u2 (b+n) z (by lia) (by lia) (by lia)
       lia
    ·rw[if_neg cy];by_cases cx2:x<b+k
     ·by_cases cy2:y<b+k
      ·exact u1 x y h1 h2 (by lia)
      ·have g:=f1 (x-b) (by lia);rw[show b+(x-b)=x by lia] at g;have:=u2 (b+n) y (by lia) (by lia) h3
       lia
     ·exact u2 x y (by lia) h2 h3
  ·intro x hx;show K (Qr (b+k) r.toList xs) x=_;rw[ka,if_neg (by lia)]
 have out:∀ r s2,SG s1 s2->Mgd (xs.extract (b+k) (b+n)) (xs.extract (b+n) (b+n+v)) r->wpS (model prog w) A E s (do
   modify λz=>setArr z (Qr (b+k) r.toList (arrOf z))
   return (failedOf (<- get)).isNone) Q s2:=λr s2 S M=>by
  refine wpS_bind (wpS_modify (wpS_bind (wpS_get (wpS_pure ?_))));have:(failedOf (setArr s2 (Qr (b+k) r.toList (arrOf s2)))).isNone=true:=by
   show(failedOf s2).isNone=true;rw[S.f,B2.failed];rfl
  rw[this];exact fin r s2 S M
 by_cases c3:n-k<=v
 ·rw[if_pos c3];exact wpS_bind (yaO T B2.kind (by lia) (by lia) (g1 0 (by lia)) g2 λr s2 S M=>out r s2 S M.all)
 ·rw[if_neg c3];exact wpS_bind (zaP T B2.kind (by lia) (by lia) g1 g2 λr s2 S M=>out r s2 S M)
end TS
end
section
namespace TS
open PySem PyProof.Rows
variable {prog:Program} {w:World} {A:Around} {E:Value->Shared->Prop} {s:Shared} {a:Array Keyed} {st:SortSt}
noncomputable def Cov(xs:Array Keyed):Nat->List (Nat×Nat×Nat)->Nat->Prop
 |b,[],e=>b=e
 |b,(c,n,_)::r,e=>c=b/\1<=n/\Up xs b (b+n)/\Cov xs (b+n) r e
theorem cov_app{xs:Array Keyed}:∀{L1 L2:List (Nat×Nat×Nat)} {b e:Nat},Cov xs b (L1++L2) e↔∃ c,Cov xs b L1 c/\Cov xs c L2 e
 |[],L2,b,e=>by simp[Cov]
 |(c,n,p)::L1,L2,b,e=>by
  simp only[wA,Cov];rw[cov_app];exact⟨λ⟨h1,h2,h3,d,h4,h5⟩=>⟨d,⟨h1,h2,h3,h4⟩,h5⟩,λ⟨d,⟨h1,h2,h3,h4⟩,h5⟩=>⟨h1,h2,h3,d,h4,h5⟩⟩
theorem Z7{xs:Array Keyed}:∀{L:List (Nat×Nat×Nat)} {b e:Nat},Cov xs b L e->b+L.length<=e
 |[],b,e,h=>by simp only[Cov] at h;simp;lia
 |(c,n,p)::L,b,e,⟨_,h1,_,h⟩=>by have:=Z7 h;simp only[Ue];lia
theorem Q2{xs ys:Array Keyed}:∀{L:List (Nat×Nat×Nat)} {b e:Nat},(∀ k,b<=k->k<e->K ys k=K xs k)->Cov xs b L e->Cov ys b L e
 |[],b,e,_,h=>h
 |(c,n,p)::L,b,e,hk,⟨h1,h2,h3,h⟩=>by
  have:=Z7 h;exact⟨h1,h2,λi j i1 i2 i3=>by rw[hk i (by lia) (by lia),hk j (by lia) (by lia)];exact h3 i j i1 i2 i3,Q2 (λk k1 k2=>hk k (by lia) k2) h⟩
theorem Za2{pre post:List (Nat×Nat×Nat)}{x y:Nat×Nat×Nat}{e i:Nat}{Q:Bool->SortSt->Prop}(D:Dst a)(B:SB a st)(hL:(pendingOf st).toList=pre++x::y::post)(hi:i=pre.length)(C:Cov (arrOf st) 0 (pre++x::y::post) e)(he:e<=a.size)
  (h:∀ s2 z,SB a s2->(pendingOf s2).toList=pre++z::post->Cov (arrOf s2) 0 (pre++z::post) e->(∀ k,e<=k->K (arrOf s2) k=K (arrOf st) k)->Q true s2) :
  wpS (model prog w) A E s (mergeAt' i) Q st:=by
 subst hi;obtain⟨b,n,p⟩:=x;obtain⟨c,m,q⟩:=y;obtain⟨b',C1,rfl,n1,u1,rfl,m1,u2,C2⟩:=cov_app.mp C;have l1:=Z7 C1;have l2:=Z7 C2;have e1:(pendingOf st)[pre.length]?=some (b,n,p):=by rw[<- vh,hL];simp
 have e2:(pendingOf st)[pre.length+1]?=some (b+n,m,q):=by rw[<- vh,hL,uc (by lia)];simp
 refine qaS D B e1 e2 n1 m1 (by lia) u1 u2 λs2 B2 p2 u k=>?_;have hL2:(pendingOf s2).toList=pre++(b,n+m,p)::post:=by
  rw[p2,Array.toList_eraseIdxIfInBounds,Array.toList_setIfInBounds,hL,Vu _ _ (wb _),Nat.sub_self,List.set_cons_zero,List.eraseIdx_append_of_length_le (by lia)];rw[show pre.length+1-pre.length=1 by lia];rfl
 refine h s2 (b,n+m,p) B2 hL2 (cov_app.mpr ⟨b,Q2 (λz z1 z2=>k z (.inl z2)) C1,rfl,by lia,by rw[<- uD];exact u,?_⟩) λz hz=>k z (.inr (by lia));rw[<- uD];exact Q2 (λz z1 z2=>k z (.inr z1)) C2
end TS
end
section
namespace TS
open PySem PyProof.Rows
variable {prog:Program} {w:World} {A:Around} {E:Value->Shared->Prop} {s:Shared} {a:Array Keyed} {st:SortSt}
theorem ZaD{L:List (Nat×Nat×Nat)}(h:1<L.length):∃ pre x y,L=pre++[x,y]/\pre.length=L.length-2:=by
 refine⟨L.take (L.length-2),L[L.length-2],L[L.length-1],?_,by rw[Xm];lia⟩;have e:=Xn (L.length-2) L;have e2:L.drop (L.length-2)=[L[L.length-2],L[L.length-1]]:=by
  rw[Vi (by lia),Vi (by lia),vt (by lia)]
  congr 2
  congr 1;lia
 rw[e2] at e;exact e.symm
theorem za3{xs:Array Keyed}:∀{L1 L2:List (Nat×Nat×Nat)} {b e:Nat},(L2.map λp=>(p.1,p.2.1))=(L1.map λp=>(p.1,p.2.1))->Cov xs b L1 e->Cov xs b L2 e
 |[],[],_,_,_,h=>h
 |[],_::_,_,_,hm,_=>by simp at hm
 |_::_,[],_,_,hm,_=>by simp at hm
 |(c,n,p)::L1,(d,m,q)::L2,b,e,hm,⟨h1,h2,h3,h4⟩=>by
  simp only[Wd,List.cons.injEq,Prod.mk.injEq] at hm;obtain(⟨⟨rfl,rfl⟩,hm⟩):=hm;exact⟨h1,h2,h3,za3 hm h4⟩
theorem YbG{Q:Unit->SortSt->Prop}(D:Dst a)(B:SB a st)(h0:pendingOf st=#[])(h2:2<=a.size)(h:∀ s2,SB a s2->Up (arrOf s2) 0 a.size->Q () s2):wpS (model prog w) A E s sortRuns' Q st:=by
 rw[sortRuns'_eq];refine wpS_bind (wpS_get ?_);dsimp only;rw[B.size];generalize minRun' a.size a.size 0=mr;refine wpS_bind (wpS_mono (wpS_forRange (I:=λx c s2=>∃ lo,c=(none,lo)/\SB a s2/\Cov (arrOf s2) 0 (pendingOf s2).toList lo/\lo<=a.size/\(x<=lo\/lo=a.size))
  (Q:=λc s2=>c=(none,a.size)/\SB a s2/\Cov (arrOf s2) 0 (pendingOf s2).toList a.size) ?_ ?_ ⟨0,rfl,B,by rw[h0];rfl,by lia,.inl (by lia)⟩) ?_)
 ·rintro x c s2 _ hx ⟨lo,rfl,B2,C2,l1,l2⟩;dsimp only;by_cases c1:lo>=a.size
  ·rw[if_pos c1];have:lo=a.size:=by lia
   subst this;exact wpS_pure ⟨rfl,B2,C2⟩
  rw[if_neg c1];refine wpS_bind (qaJ D B2 (by lia) (by lia) λm s3 B3 p3 m1 m2 u3 k3=>?_);dsimp only;have C3:Cov (arrOf s3) 0 (pendingOf s3).toList lo:=by rw[p3];exact Q2 (λk _ hk=>k3 k hk) C2
  by_cases c2:m<mr
  case' pos =>
   rw[if_pos c2];refine wpS_bind (wpS_lift (wpAny_rule ⟨rfl,?_⟩));refine wpS_bind (Ya9 D B3 (by lia) m1 (by lia) u3 λs4 B4 p4 u4 k4=>?_);simp only[xy,Vd,if_false];have C4:Cov (arrOf s4) 0 (pendingOf s4).toList lo:=by rw[p4];exact Q2 (λk _ hk=>k4 k hk) C3
   have N1:1<=min (a.size-lo) mr:=by lia
   have N2:lo+min (a.size-lo) mr<=a.size:=by lia
   generalize min (a.size-lo) mr=n at *
  case' neg =>
   rw[if_neg c2];have B4:=B3;have C4:=C3;have u4:=u3;have N1:=m1;have N2:lo+m<=a.size:=by lia
   generalize m=n at *;generalize s3=s4 at *
  all_goals
   refine wpS_bind (wpS_get ?_);have done:∀ s5,SB a s5->Cov (arrOf s5) 0 (pendingOf s5).toList lo->Up (arrOf s5) lo (lo+n)->∃ lo',(none,lo+n)=((none,lo'):Option Unit×Nat)/\SB a (setPending s5 ((pendingOf s5).push (lo,n,0)))/\Cov (arrOf s5) 0 ((pendingOf s5).push (lo,n,0)).toList lo'/\lo'<=a.size/\(x+1<=lo'\/lo'=a.size):=λs5 B5 C5 u5 =>
    ⟨lo+n,rfl,⟨B5.perm,B5.kind,B5.failed⟩,by rw[Vn];exact cov_app.mpr ⟨lo,C5,rfl,N1,u5,rfl⟩,N2,.inl (by lia)⟩
   cases hb:(pendingOf s4).back? with
   |none=>exact wpS_bind (wpS_modify (wpS_pure (done s4 B4 C4 u4)))
   |some v =>
    obtain⟨b1,n1,p1⟩:=v;dsimp only;generalize power' a.size (2*b1+n1) (2*b1+n1+n1+n) a.size=pw;refine wpS_bind (wpS_mono (wpS_forRange (I:=λ_ c s5=>c=(none,())/\SB a s5/\Cov (arrOf s5) 0 (pendingOf s5).toList lo/\Up (arrOf s5) lo (lo+n))
     (Q:=λc s5=>c=(none,())/\SB a s5/\Cov (arrOf s5) 0 (pendingOf s5).toList lo/\Up (arrOf s5) lo (lo+n)) ?_ (λ_ _ hh=>hh) ⟨rfl,B4,C4,u4⟩) ?_)
    ·rintro y c s5 _ _ ⟨rfl,B5,C5,u5⟩;refine wpS_bind (wpS_get ?_);by_cases c3:(pendingOf s5).size>1
     ·rw[if_pos c3];obtain⟨pre,⟨b,l,o⟩,v,eL,pl⟩:=ZaD (L:=(pendingOf s5).toList) (by simpa using c3);have ea:(pendingOf s5)[(pendingOf s5).size-2]?=some (b,l,o):=by
       rw[<- vh,<- xf,<- pl,eL];simp
      rw[ea];dsimp only;by_cases c4:o<=pw
      ·rw[if_pos c4];exact wpS_pure ⟨rfl,B5,C5,u5⟩
      ·rw[if_neg c4];refine wpS_bind (Za2 D B5 eL (by rw[pl];simp) (by rw[<- eL];exact C5) (by lia) λs6 z B6 e6 C6 k6=>?_);simp only[xy,Vd,if_false];exact wpS_pure ⟨rfl,B6,by rw[e6];exact C6,λi j i1 i2 i3=>by rw[k6 i i1,k6 j (by lia)];exact u5 i j i1 i2 i3⟩
     ·rw[if_neg c3];exact wpS_pure ⟨rfl,B5,C5,u5⟩
    ·rintro c s5 ⟨rfl,B5,C5,u5⟩;dsimp only;refine wpS_bind (wpS_modify (wpS_bind (wpS_modify (wpS_pure ?_))));exact done (setPending s5 ((pendingOf s5).modify ((pendingOf s5).size-1) λv=>(v.1,v.2.1,pw))) ⟨B5.perm,B5.kind,B5.failed⟩ (za3 (by
      rw[Array.toList_modify];apply Wm;intro i;rw[Vc,Vc,List.getElem?_modify];cases(pendingOf s5).toList[i]? with
      |none=>rfl
      |some v=>simp only[vn];split <;> rfl) C5) u5
 ·rintro c s2 ⟨lo,rfl,B2,C2,l1,l2⟩;have:lo=a.size:=by lia
  subst this;exact⟨rfl,B2,C2⟩
 ·rintro c s2 ⟨rfl,B2,C2⟩;dsimp only;refine wpS_bind (wpS_mono (wpS_forRange (I:=λx c s3=>c=(none,())/\SB a s3/\Cov (arrOf s3) 0 (pendingOf s3).toList a.size/\((pendingOf s3).size<=1\/(pendingOf s3).size+x<=a.size))
   (Q:=λc s3=>c=(none,())/\SB a s3/\Cov (arrOf s3) 0 (pendingOf s3).toList a.size/\(pendingOf s3).size<=1) ?_ ?_ ⟨rfl,B2,C2,.inr (by have:=Z7 C2;rw[xf] at this;lia)⟩) ?_)
  ·rintro x c s3 _ _ ⟨rfl,B3,C3,n3⟩;refine wpS_bind (wpS_get ?_);by_cases c3:(pendingOf s3).size<=1
   ·rw[if_pos c3];exact wpS_pure ⟨rfl,B3,C3,c3⟩
   ·rw[if_neg c3];have yes:∀(R:ForInStep (Option Unit×Unit)->SortSt->Prop),(∀ s4,SB a s4->Cov (arrOf s4) 0 (pendingOf s4).toList a.size->(pendingOf s4).size+(x+1)<=a.size->R (.yield (none,())) s4)->∀ i pre post u v,(pendingOf s3).toList=pre++u::v::post->i=pre.length->wpS (model prog w) A E s (mergeAt' i) (λr s4=>wpS (model prog w) A E s (if(!r)=true then pure (ForInStep.done (some (),())) else pure (ForInStep.yield (none,()))) R s4) s3:=λR hR i pre post u v eL hi=>by
     refine Za2 D B3 eL hi (by rw[<- eL];exact C3) (wb _) λs4 z B4 e4 C4 _=>?_;simp only[xy,Vd,if_false];have a1:=congrArg Vp eL;have a2:=congrArg Vp e4;simp only[xf,Xf,Ue] at a1 a2;exact wpS_pure (hR s4 B4 (by rw[e4];exact C4) (by lia))
    obtain⟨pre,u,v,eL,pl⟩:=ZaD (L:=(pendingOf s3).toList) (by rw[xf];lia);rw[xf] at pl;refine wpS_bind ?_;generalize hg:Option.any _ _=q;have side:∃ pre post u v,(pendingOf s3).toList=pre++u::v::post/\(if q=true then(pendingOf s3).size-2-1 else(pendingOf s3).size-2)=pre.length:=by
     cases q with
     |false=>exact⟨pre,[],u,v,eL,by rw[if_neg (by decide)];exact pl.symm⟩
     |true =>
      have i0:0<(pendingOf s3).size-2:=by
       by_cases c5:(pendingOf s3).size-2>0
       ·exact c5
       ·rw[if_neg c5] at hg;cases hg
      obtain⟨pre',t,ep⟩:∃ pre' t,pre=pre'++[t]:=by
       rcases List.eq_nil_or_concat pre with e|⟨l,t,e⟩
       ·rw[e] at pl;simp at pl;lia
       ·exact⟨l,t,by simpa using e⟩
      refine⟨pre',[v],t,u,by rw[eL,ep];simp,?_⟩;have z:=congrArg Vp ep;simp only[Xf,Ue,Wp] at z;have pl2:pre.length=(pendingOf s3).size-2:=pl;rw[if_pos rfl];lia
    obtain⟨pre2,post2,u2,v2,eL2,hi2⟩:=side;exact yes _ (λs4 B4 C4 z4=>⟨rfl,B4,C4,.inr z4⟩) _ pre2 post2 u2 v2 eL2 hi2
  ·rintro c s3 ⟨rfl,B3,C3,n3⟩;exact⟨rfl,B3,C3,by rcases n3 with n3|n3 <;> lia⟩
  ·rintro c s3 ⟨rfl,B3,C3,n3⟩;refine wpS_pure (h s3 B3 ?_)
   match eL:(pendingOf s3).toList,C3 with
   |[],C3=>have:0=a.size:=C3;lia
   |[(b,n,p)],C3 =>
    obtain⟨rfl,_,u,e⟩:=C3;have e:0+n=a.size:=e;rw[<- e];exact u
   |_::_::_,_ =>
    have:=congrArg Vp eL;simp only[xf,Ue] at this
    lia
end TS
end
section
namespace M3
open PySem PySem.Spec PyProof.Rows TS
section
variable {prog:Program} {w:World} {A:Around} {E:Value->Shared->Prop} {s:Shared}
theorem Zb9{vs:List Value}{ns:List Int}(hI:IntsAre vs ns)(nd:ns.Nodup):Dst (pairsOf vs):=by
 refine⟨hI.intKeys,?_⟩;have e:(pairsOf vs).toList.map (λp=>numOf p.1)=ns:=by
  rw[pairsOf_toList];have:(vs.zip vs).map (λp=>numOf p.1)=((vs.zip vs).map Vq).map numOf:=by rw[vg];rfl
  rw[this,List.map_fst_zip (wb _),hI.nums]
 rw[e];exact nd
theorem qY{a:Addr}{vs:List Value}{ns:List Int}{n:Nat}{P:PySem.Fin->Shared->Prop}(ho:s.heap.get? a=some (seqObj "list" vs.toArray n))(hI:IntsAre vs ns)(nd:ns.Nodup)(hz:vs.length<=10000)
  (h:∀(out:Array Value)(ns':List Int),IntsAre out.toList ns'->ns'.Perm ns->ns'.Pairwise (·<=·)->P (.done (.ret .none)) {s with heap:=sortedHeap s.heap a vs out}) :
  wpAny (model prog w) A (Builtin.«list.sort» ⟨[.ref a],[]⟩) P E s:=by
 rw[list_sort_plain];have ha:a<s.heap.objs.size:=va ho;refine wpAny_bind (listItems_at ho rfl ?_);refine wpAny_bind (listUpdate_at ho rfl ?_ (by rw[Va,sizeLine_eq];lia) (Uk _));obtain⟨e1,ho1⟩:∃ e1,(s.heap.update a (Obj.mapSeq λ_=>#[])).get? a=some (seqObj "list" #[] e1):=⟨_,get?_update_seq ho (λ_=>#[])⟩;refine wpAny_bind (seqEpoch_at ho1 rfl ?_);refine wpAny_bind (wpAny_newTuple ?_ (by show vs.length<=_;rw[sizeLine_eq];lia));refine wpAny_bind (wpAny_newList ?_ (Uk _));refine wpAny_holding ?_;have ho6:(((s.heap.update a (Obj.mapSeq λ_=>#[])).push (seqObj "tuple" vs.toArray 0)).push (seqObj "list" #[] 0)).get? a=some (seqObj "list" #[] e1):=by
  rw[uG _ _ _ (by rw[size_push',WA];exact wc (Xq ha)),uG _ _ _ (by rw[WA];exact wc ha)];exact ho1
 show wpAny (model prog w) A _ P E {s with heap:=((s.heap.update a (Obj.mapSeq λ_=>#[])).push (seqObj "tuple" vs.toArray 0)).push (seqObj "list" #[] 0)};dsimp only;have out:∀ st:SortSt,(arrOf st).Perm (pairsOf vs)->SortedTo (arrOf st) (pairsOf vs).size->P (.done (.ret .none)) {s with heap:=sortedHeap s.heap a vs ((arrOf st).map (·.2))}:=λst hp hs=>by
  obtain⟨ns',h1,h2,h3⟩:=sorted_out hI hp hs;exact h _ ns' h1 h2 h3
 by_cases h2:vs.toArray.size<2
 ·rw[if_pos h2,if_pos h2];refine wpAny_bind (wpAny_pure ?_);rw[StateT.run_pure];refine wpAny_bind (wpAny_pure ?_);dsimp only;refine wpAny_bind (seqEpoch_at ho6 rfl ?_);refine wpAny_bind (listUpdate_at ho6 rfl ?_ (Uk _) (by rw[Wl];show(pairsOf vs).size<=_;rw[pairsOf_size,sizeLine_eq];lia));simp only[bne_self_eq_false,Vd,if_false];refine wpAny_pure (out (SortSt.mk' general' (vs.toArray.zip vs.toArray) #[] 7 none) (Array.Perm.refl _) λi j hij hj=>?_);have:i=j:=by rw[pairsOf_size] at hj;rw[Va] at h2;lia
  subst this;exact xr _
 ·rw[if_neg h2,if_neg h2];have h2':2<=vs.length:=by rw[Va] at h2;lia
  have kk:keyKind' vs.toArray=pure oneType':=by
   match vs,hI,h2' with
   |_::_::_,hI,_=>exact keyKind_ints hI
  rw[kk];refine wpAny_bind (wpAny_pure ?_);refine wpAny_bind (wpAny_mono (YbG (a:=pairsOf vs) (st:=SortSt.mk' oneType' (vs.toArray.zip vs.toArray) #[] 7 none) (Q:=λ_ st=>SB (pairsOf vs) st/\Up (arrOf st) 0 (pairsOf vs).size)
   (Zb9 hI nd) ⟨Array.Perm.refl _,rfl,rfl⟩ rfl (by rw[pairsOf_size];exact h2') λst b u=>⟨b,u⟩) ?_ λ_ _ e=>e)
  rintro⟨⟨⟩,st⟩ s' ⟨rfl,b,u⟩;dsimp only;refine wpAny_bind (seqEpoch_at ho6 rfl ?_);refine wpAny_bind (listUpdate_at ho6 rfl ?_ (Uk _) (by rw[Wl,b.size,pairsOf_size,sizeLine_eq];lia));rw[b.failed];simp only[bne_self_eq_false,Vd,if_false];refine wpAny_pure (out st b.perm λi j hij hj=>?_);by_cases c:i=j
  ·subst c;exact xr _
  ·exact Int.le_of_lt (u i j (Uk _) (by lia) hj)
theorem yaq{l:Addr}{vs:List Value}{ns:List Int}{Q:Value->Shared->Prop}(hl:s.heap.IsList l vs.toArray)(hI:IntsAre vs ns)(nd:ns.Nodup)(hz:vs.length<=10000)
  (h:∀(out:Array Value)(ns':List Int),IntsAre out.toList ns'->ns'.Perm ns->ns'.Pairwise (·<=·)->Q (.ref (s.heap.objs.size+1)) {s with heap:=sortedAll s.heap vs out}) :
  wpAny (model prog w) A (call (.builtin "sorted") [.ref l]) Q E s:=by
 refine Calls.call_function_entry kind_sorted plain_sorted entry_sorted (args_sorted1 _) ?_;unfold Builtin.«sorted»;refine wpAny_bind (m:=checkCount "sorted" 1 1 _) (wpAny_pure ?_);refine wpAny_bind (collect_list hl ?_ (by rw[sizeLine_eq];lia));refine wpAny_bind (wpAny_newList ?_ (by rw[sizeLine_eq];lia));have hsz:((s.heap.push (seqObj "list" #[] 0)).update s.heap.objs.size (Obj.mapSeq (·++vs.toArray))).objs.size=s.heap.objs.size+1:=by
  rw[WA,size_push']
 have hoL:(((s.heap.push (seqObj "list" #[] 0)).update s.heap.objs.size (Obj.mapSeq (·++vs.toArray))).push (seqObj "list" vs.toArray 0)).get? (s.heap.objs.size+1)=some (seqObj "list" vs.toArray 0):=by
  rw[<- hsz];exact Ub _ rfl
 show wpAny _ _ _ _ _ {s with heap:=((s.heap.push (seqObj "list" #[] 0)).update s.heap.objs.size (Obj.mapSeq (·++vs.toArray))).push (seqObj "list" vs.toArray 0)};rw[hsz];refine wpAny_bind (wpAny_holding (wpAny_call_entry slot_list_sort ⟨_,hoL,rfl⟩ entry_list_sort (qY hoL hI nd hz λout ns' h1 h2 h3=>⟨_,rfl,?_⟩) (args_list_sort _)));exact wpAny_pure ⟨_,rfl,h out ns' h1 h2 h3⟩
end
end M3
namespace L3
open PySem PySem.Spec PyProof.Rows L2 M3
section
variable {X:Cx}
noncomputable def Qcc(K:PySem.W.Frag):List V->Hp->VK->Prop:=λxs H Q=>∃(a:Addr)(ns:List Int),xs=[.ref a]/\SqL K H a (ns.map V.int)/\ns.Nodup/\ns.length<=10000/\∀ ns':List Int,ns'.Perm ns->ns'.Pairwise (·<=·)->∀ l,H l=none->Q (.ref l) (upd H l (.lst (ns'.map V.int)))
theorem YaO:CallR X (.builtin "sorted") (Qcc X.K):=by
 intro pins s σ H xs us Q I r h;obtain⟨a,ns,rfl,hq,nd,hz2,q⟩:=h;obtain rfl:=ZI r;obtain⟨its,v,pl,hz⟩:=I.list hq;have hl:=v.length;rw[xc] at hl;obtain⟨o,ho,hcl,n,hd⟩:=pl.isList;refine yaq (vs:=its) (ns:=ns) ⟨o,ho,hcl,n,hd⟩ (YaG v) nd (by lia) λout ns' hi hp ho=>?_;obtain⟨e,he⟩:=sortedAll_at s.heap its out;have hlp:=hp.length_eq;exact⟨.ref (s.heap.objs.size+1),_,I.laid (t':=s.toks) (λb u e=>sortedAll_old e) (Ut _) (show ObjOk X.prog X.w _ _ _ (.lst (ns'.map V.int)) from⟨by rw[xc,sizeLine_eq];lia,out.toList,e,Q7 hi,by simpa[seqObj] using he⟩),rfl,q ns' hp ho _ (I.hok.fresh (Ut _))⟩
end
end L3
end
section
namespace L3
open PySem PySem.Spec PyProof.Rows L2 M3
noncomputable def rngV(i j:Int):List Int:=(xa (j-i).toNat).map λk:Nat=>i+(k:Int)
section
variable {X:Cx} {a b:Expr} {ta:TA} {p1 p2 p3 p4:Pos}
noncomputable def tRngL(ta:TA):TE:=λσ H Q=>ta σ H λvs H1=>∃ i j:Int,vs=[.int i,.int j]/\(-(2^62)<=i/\i<2^62/\-(2^62)<=j/\j<2^62)/\(j-i).toNat<=1000000/\∀ l,H1 l=none->Q (.ref l) (upd H1 l (.lst ((rngV i j).map V.int)))
theorem YaV{i:Int}{n:Nat}{acc:Array Value}(h:ItemsOf (λk v=>∃ t,v=Value.int (i+k*1) t) acc n):Vals (((xa n).map λk:Nat=>i+(k:Int)).map V.int) acc.toList:=by
 refine Q7 ?_;have e:(xa n).map (λk:Nat=>i+(k:Int))=acc.toList.map numOf:=by
  apply Xo
  ·simp[h.1]
  ·intro k h1 h2;simp only[wl,wt];have hk:k<acc.size:=by simpa using h2
   obtain⟨t,e⟩:=h.2 k _ (getElem?_pos acc k hk);rw[ul,e,Int.mul_one];rfl
 rw[e];refine intsAre_map _ λv hv=>?_;obtain⟨k,hk,rfl⟩:=wD.mp hv;have hk:k<acc.size:=by simpa using hk
 obtain⟨t,e⟩:=h.2 k _ (getElem?_pos acc k hk);exact⟨_,t,by rw[ul,e]⟩
theorem YbH(hc:X.calm=true)(ha:PA X [a,b] ta)(hg:Gl X "list")(hm:X.mg "list"=none)(hg2:Gl X "range")(hm2:X.mg "range"=none)(hs:starEach [a,b] X.env=[(false,eval a X.env),(false,eval b X.env)])(hs2:starEach [b] X.env=[(false,eval b X.env)]) :
  PE X (.Call (.Name "list" p1) [.Call (.Name "range" p2) [a,b] [] p3] [] p4) (tRngL ta):=by
 intro pins s σ H Q I h;refine wpAny_Call_Name_kw (Zy I hg hm (show bootBuiltins "list"=some (.type "list") by decide +kernel) ?_ (by decide) (by decide));refine PyProof.Rows.callWith_type1 (T:="list") ?_ rfl rfl;show wpAny _ _ (spliced ((false,eval (.Call (.Name "range" p2) [a,b] [] p3) X.env)::backTo p4 (starEach [] X.env))) _ _ s;refine Calls.spliced_cons ?_;refine wpAny_Call_Name_kw (Zy I hg2 hm2 boot_range ?_ (by decide) (by decide));refine PyProof.Rows.callWith_type1 (T:="range") (thn (ha p3 pins s σ H _ I h) λus s1 ⟨vs,H1,I1,r1,q1⟩=>?_) (by rw[hs,hs2]) (by rw[hs2];rfl);obtain⟨i,j,e,⟨b1,b2,b3,b4⟩,hz,q⟩:=q1;subst e;cases r1 with
 |cons r rr =>
  cases rr with
  |cons r' rr =>
   cases rr;obtain⟨t,rfl⟩:=r;obtain⟨t',rfl⟩:=r';refine call_range_2 (Calls.spliced_nil ?_);refine call_list_range (n:=(j-i).toNat) (I.ok.hd hc) (IsRange.new ..) (small_one b1 b2 b3 b4) (by rw[rangeSize_one];split <;> lia) (by lia) λh' tk acc c' hk hS hi=>?_;exact⟨.ref _,_,I1.laid (t':=tk) (λb u e=>hk b u (wa _ e)) (by rw[size_push'];lia) (show ObjOk X.prog X.w _ _ _ (.lst ((rngV i j).map V.int)) from⟨by unfold rngV;simp only[xc,Wz];rw[sizeLine_eq];lia,acc.toList,c',YaV hi,by simpa[seqObj] using hS⟩),rfl,q _ (I1.hok.fresh (by rw[size_push'];lia))⟩
end
end L3
end
section
namespace MP
open PySem
inductive FV where
 |non|bl (b:Bool)|int (i:Int)|str (s:Str)
 |tup (xs:List FV)|lst (xs:List FV)|obj (c:String) (ns:List String) (vs:List FV)|scr (ns:List Int)|tab (kvs:List ((Int×Int)×Int))|msk (ks:List (Int×Int))
inductive MV where
 |f (x:FV)|ref (a:Nat)|tup (xs:List MV)|exc (c:String)
inductive Cell where
 |lst (xs:List MV)|obj (c:String) (fs:List (String×MV))|dic (ks:List Int)|tab (kvs:List ((Int×Int)×Int))|msk (ks:List (Int×Int))|code|dead
noncomputable abbrev MH:=List Cell
noncomputable abbrev MSt:=List (Option MV)
inductive R (α:Type) where
 |ok (x:α) (h:MH)|exc (c:String) (h:MH)|stuck
noncomputable abbrev RD{γ δ:Sort _}(_k:γ->δ)(τ:Type):Type:=τ
namespace R
noncomputable def bind{α β:Type}(r:R α)(k:α->MH->R β):RD k (R β):=match r with
 |.ok x h=>k x h
 |.exc c h=>.exc c h
 |.stuck=>.stuck
variable {α β:Type}
@[simp] theorem bind_ok{x:α}{h:MH}{k:α->MH->R β}:(R.ok x h).bind k=k x h:=id rfl
@[simp] theorem bind_exc{c:String}{h:MH}{k:α->MH->R β}:(R.exc c h:R α).bind k=.exc c h:=id rfl
@[simp] theorem bind_stuck{k:α->MH->R β}:(R.stuck:R α).bind k=.stuck:=id rfl
end R
noncomputable def opt{α β:Type}(o:Option α)(k:α->R β):RD k (R β):=match o with
 |some x=>k x
 |none=>.stuck
@[simp] theorem qe{α β:Type}{x:α}{k:α->R β}:opt (some x) k=k x:=id rfl
@[simp] theorem opt_none{α β:Type}{k:α->R β}:opt none k=.stuck:=id rfl
noncomputable def Zr:MV->Bool
 |.f .non=>true
 |_=>false
noncomputable def qk:List MV->Option (List FV)
 |[]=>some []
 |.f x::r=>(qk r).map (x::·)
 |_::_=>none
noncomputable def yi(xs:List MV):MV:=match qk xs with
 |some ys=>.f (.tup ys)
 |none=>.tup xs
noncomputable def yk(fz:Bool)(xs:List MV)(h:MH):R MV:=match fz with
 |true=>opt (qk xs) λys=>.ok (.f (.lst ys)) h
 |false=>.ok (.ref h.length) (h++[.lst xs])
noncomputable def Ya(h:MH)(a:Nat):Option (List MV):=match h[a]? with
 |some (.lst xs)=>some xs
 |_=>none
noncomputable def Zc(h:MH):MV->Option (List MV)
 |.f (.tup xs)=>some (xs.map .f)
 |.f (.lst xs)=>some (xs.map .f)
 |.f (.scr ns)=>some (ns.map λi=>.f (.int i))
 |.tup xs=>some xs
 |.ref a=>Ya h a
 |_=>none
noncomputable def listOf(h:MH):MV->Option (List MV)
 |.f (.lst xs)=>some (xs.map .f)
 |.ref a=>Ya h a
 |_=>none
noncomputable def qo:MV->Option (List MV)
 |.f (.tup xs)=>some (xs.map .f)
 |.tup xs=>some xs
 |_=>none
noncomputable def yb:MV->Option Int
 |.f (.int i)=>some i
 |_=>none
noncomputable def yx:MV->Option Bool
 |.f (.bl b)=>some b
 |_=>none
@[simp] noncomputable def Qd:List MV->Option (List Int)
 |[]=>some []
 |.f (.int i)::r=>(Qd r).map (i::·)
 |_::_=>none
@[simp] noncomputable def qm:List MV->Option (List Bool)
 |[]=>some []
 |.f (.bl i)::r=>(qm r).map (i::·)
 |_::_=>none
noncomputable def Yn(h:MH):Nat->MV->Option FV
 |0,_=>none
 |_+1,.f x=>some x
 |n+1,.tup xs=>(xs.mapM (Yn h n)).map .tup
 |n+1,.ref a=>(Ya h a).bind λxs=>(xs.mapM (Yn h n)).map .lst
 |_+1,.exc _=>none
noncomputable def YM(h:MH)(v:MV):Option FV:=Yn h 5 v
noncomputable def Zv(h:MH):Nat->MV->List Nat
 |0,_=>[]
 |_+1,.f _=>[]
 |n+1,.tup xs=>xs.flatMap (Zv h n)
 |n+1,.ref a=>a::((Ya h a).getD []).flatMap (Zv h n)
 |_+1,.exc _=>[]
noncomputable def kill(as:List Nat)(h:MH):MH:=h.mapIdx λi c=>if i∈as then .dead else c
noncomputable def YR(v:MV)(h:MH):R MV:=opt (YM h v) λx=>.ok (.f x) (kill (Zv h 5 v) h)
noncomputable def sOk(x:Str):Bool:=x.cps.all (· < 0x110000)
noncomputable def isD:Nat->FV->Bool
 |_+1,.non=>true
 |_+1,.bl _=>true
 |_+1,.int _=>true
 |_+1,.str s=>sOk s
 |n+1,.tup xs=>xs.all (isD n)
 |n+1,.lst xs=>xs.all (isD n)
 |_,_=>false
mutual
noncomputable def eqD:FV->FV->Bool
 |.non,.non=>true
 |.bl a,.bl b=>a==b
 |.bl a,.int j=>(if a then 1 else 0)==j
 |.int i,.bl b=>i==(if b then 1 else 0)
 |.int a,.int b=>a==b
 |.str a,.str b=>a==b
 |.tup xs,.tup ys=>QM xs ys
 |.lst xs,.lst ys=>QM xs ys
 |_,_=>false
noncomputable def QM:List FV->List FV->Bool
 |[],[]=>true
 |x::xs,y::ys=>eqD x y&&QM xs ys
 |_,_=>false
end
noncomputable def eqF(x y:FV):Option Bool:=if isD 8 x=true/\isD 8 y=true then some (eqD x y) else none
noncomputable def inF(x:FV)(ys:List FV):Option Bool:=if isD 8 x=true/\ys.all (isD 8)=true then some (ys.any λy=>eqD y x) else none
inductive BO where
 |add|sub|mul|fdiv|mod|pow
inductive CO where
 |lt|le|gt|ge|eq|ne|inn|nin
noncomputable def big:Nat:=2^4096
noncomputable def qP(i j:Int):Prop:=i.natAbs<2^64\/j.natAbs<2^64\/(i.natAbs<big/\j.natAbs<big)
noncomputable def Zbi(i j:Int):Prop:=0<j/\(j<1073741824\/j.natAbs<big)
open Classical in
noncomputable def YD:BO->Int->Int->Option Int
 |.add,i,j=>some (i+j)
 |.sub,i,j=>some (i-j)
 |.mul,i,j=>if qP i j then some (i*j) else none
 |.fdiv,i,j=>if Zbi i j then some (i/j) else none
 |.mod,i,j=>if 0<j then some (i%j) else none
 |.pow,i,j=>if 0<=j/\j<=1000000/\i.natAbs<2^64 then some (i^j.toNat) else none
noncomputable def sizeL:Nat:=4194304
open Classical in
noncomputable def Yg(fz:Bool)(op:BO)(x y:MV)(h:MH):R MV:=match yb x,yb y with
 |some i,some j=>opt (YD op i j) λk=>.ok (.f (.int k)) h
 |none,some j=>match op with
  |.mul=>opt (listOf h x) λxs=>if -(2^63)<=j/\j<2^63/\xs.length*j.toNat<=sizeL then yk fz (Xa j.toNat xs).flatten h else .stuck
  |_=>.stuck
 |none,none=>match op with
  |.add=>match qo x,qo y with
   |some xs,some ys=>if xs≠[]/\xs.length+ys.length<=sizeL then .ok (yi (xs++ys)) h else .stuck
   |_,_=>opt (listOf h x) λxs=>opt (listOf h y) λys=>if xs.length+ys.length<=sizeL then yk fz (xs++ys) h else .stuck
  |_=>.stuck
 |_,_=>.stuck
noncomputable def ZM:CO->Int->Int->Option Bool
 |.lt,i,j=>some (decide (i<j))
 |.le,i,j=>some (decide (i<=j))
 |.gt,i,j=>some (decide (j<i))
 |.ge,i,j=>some (decide (j<=i))
 |_,_,_=>none
noncomputable def yL(op:CO)(x y:MV)(h:MH):Option Bool:=match op with
 |.eq=>(YM h x).bind λa=>(YM h y).bind λb=>eqF a b
 |.ne=>(YM h x).bind λa=>(YM h y).bind λb=>(eqF a b).map (!·)
 |.inn=>(YM h x).bind λa=>(Zc h y).bind λys=>(ys.mapM (YM h)).bind λbs=>inF a bs
 |.nin=>(YM h x).bind λa=>(Zc h y).bind λys=>(ys.mapM (YM h)).bind λbs=>(inF a bs).map (!·)
 |op=>(yb x).bind λi=>(yb y).bind λj=>ZM op i j
noncomputable def ixM(n:Nat)(i:Int):Option Nat:=if 0<=i then(if i<n then some i.toNat else none) else if -(n:Int)<=i then some (i+n).toNat else none
noncomputable def atM(xs:List MV)(i:Int):Option MV:=(ixM xs.length i).bind λj=>xs[j]?
noncomputable def QaC(n d:Nat):Option Int->Nat
 |none=>d
 |some i=>if i<0 then(i+(n:Int)).toNat else min i.toNat n
noncomputable def yai(xs:List MV)(lo hi:Option Int):List MV:=(xs.drop (QaC xs.length 0 lo)).take (QaC xs.length xs.length hi-QaC xs.length 0 lo)
noncomputable def Y9(fz:Bool)(x:MV)(lo hi:Option Int)(h:MH):R MV:=match qo x with
 |some xs=>.ok (yi (yai xs lo hi)) h
 |none=>opt (Zc h x) λxs=>yk fz (yai xs lo hi) h
noncomputable def yag(n:String)(v:MV):List (String×MV)->List (String×MV)
 |[]=>[(n,v)]
 |(k,x)::r=>if k=n then(k,v)::r else(k,x)::yag n v r
inductive T1 where
 |str|int|len|setl|srtI
inductive T2 where
 |idx|lrg
inductive Tg where
 |nm (i:Nat)|tp (ts:List Tg)
inductive ME where
 |var (i:Nat)|cI (i:Int)|cB (b:Bool)|cN|cS (s:Str)
 |bin (fz:Bool) (op:BO) (a b:ME)|neg (a:ME)
 |cmp (op:CO) (a b:ME)
 |isN (a:ME)|notN (a:ME)
 |and (es:List ME)|or (es:List ME)|not (a:ME)|ite (c a b:ME)
 |tup (es:List ME)|lst (fz:Bool) (es:List ME)
 |sub (a i:ME)|slice (fz:Bool) (a:ME) (lo hi:Option ME)
 |fld (a:ME) (n:String)
 |call (f:String) (es:List ME)|make (fz:Bool) (c:String) (es:List ME)|meth (o:ME) (m:String) (es:List ME)
 |blt (fz:Bool) (n:String) (es:List ME)
 |isI (a:ME) (t:String)
 |isX (a:ME) (t:String)
 |nearK (a b:ME)
 |tx1 (o:T1) (a:ME)|tx2 (o:T2) (a b:ME)
 |lm (m:String) (o:ME) (es:List ME)
 |comp (fz:Bool) (elt:ME) (tg:Tg) (it:String) (src:List ME) (cond:Option ME) (ncv:Nat) (js:List Nat)
 |frz (e:ME)
inductive MS where
 |set (tg:Tg) (e:ME)
 |setSub (o i e:ME)
 |setFld (o:ME) (n:String) (e:ME)
 |par (i j:Nat) (a b:ME)
 |expr (e:ME)
 |ret (e:ME)
 |ite (c:ME) (a b:List MS)
 |for_ (tg:Tg) (it:String) (src:List ME) (body:List MS)
 |while_ (c:ME) (body:List MS)
 |raise (c:String) (es:List ME)
 |tryK (body:List MS) (ei dst:Nat)
 |pass|boom
 |frzS (i:Nat)
structure MDef where
 np:Nat
 ns:Nat
 body:List MS
structure Prog where
 defs:String->Option MDef
 globs:String->Option FV
 meths:String->String->Option String
 subs:String->String->Option Bool
 fok:String->String->Bool
 excs:String->Bool
 word:String->String->Option Str
 words:String->Bool
 xsubs:String->String->Option Bool:=λ_ _=>none
 xcls:String->Bool:=λ_=>false
 xt:Bool:=false
 dfl:String->List Int->Bool:=λ_ _=>false
 mk0:String->Bool:=λ_=>false
 turns:Nat
@[simp] noncomputable def Yaa(n:String):List String->List FV->Option FV
 |m::ns,v::vs=>if n=m then some v else Yaa n ns vs
 |_,_=>none
noncomputable def YaL(ok:String->String->Bool)(n:String)(v:MV)(h:MH):Option MV:=match v with
 |.f (.obj c ns vs)=>if ok c n=true then(Yaa n ns vs).map .f else none
 |.ref a=>match h[a]? with
  |some (.obj c fs)=>if ok c n=true then fs.lookup n else none
  |_=>none
 |_=>none
noncomputable def clsM(m:String)(v:MV)(h:MH):Option String:=match v with
 |.f (.obj c ns _)=>if m∈ns then none else some c
 |.ref a=>match h[a]? with
  |some (.obj c fs)=>if m∈fs.map Vq then none else some c
  |_=>none
 |_=>none
noncomputable def Zbv:MV->Option String
 |.exc c=>some c
 |_=>none
@[simp] theorem Zck(c:String):Zbv (.exc c)=some c:=rfl
noncomputable def qM(sub:String->String->Option Bool)(h:MH)(v:MV)(t:String):Option Bool:=match v with
 |.f .non=>some false
 |.f (.bl _)=>some (decide (t="bool")||decide (t="int"))
 |.f (.int _)=>some (decide (t="int"))
 |.f (.str _)=>some (decide (t="str"))
 |.f (.tup _)=>some (decide (t="tuple"))
 |.f (.tab _)=>none
 |.f (.msk _)=>none
 |.f (.lst _)=>some (decide (t="list"))
 |.f (.obj c _ _)=>sub c t
 |.f (.scr _)=>none
 |.tup _=>some (decide (t="tuple"))
 |.ref a=>match h[a]? with
  |some (.lst _)=>some (decide (t="list"))
  |some (.obj c _)=>sub c t
  |_=>none
 |.exc _=>none
noncomputable def lmC(x:MV)(h:MH):Option (List MV):=match x with
 |.ref a=>Ya h a
 |_=>none
noncomputable def insertAt(xs:List MV)(i:Int)(y:MV):List MV:=let k:=QaC xs.length 0 (some i);xs.take k++y::xs.drop k
noncomputable def Zb(h:MH)(a:Nat)(xs:List MV):MH:=h.set a (.lst xs)
open Classical in
noncomputable def lmV(m:String)(o:MV)(as:List MV)(h:MH):R MV:=match o with
 |.ref a=>opt (Ya h a) λxs=>match m,as with
  |"append",[y]=>if xs.length<sizeL then .ok (.f .non) (Zb h a (xs++[y])) else .stuck
  |"extend",[z]=>opt (listOf h z) λys=>if xs.length+ys.length<=sizeL then .ok (.f .non) (Zb h a (xs++ys)) else .stuck
  |"insert",[u,y]=>opt (yb u) λi=>if xs.length<sizeL/\-(2^63)<=i/\i<2^63 then .ok (.f .non) (Zb h a (insertAt xs i y)) else .stuck
  |"reverse",[]=>.ok (.f .non) (Zb h a xs.reverse)
  |"clear",[]=>.ok (.f .non) (Zb h a [])
  |"pop",[]=>opt (xs[xs.length-1]?) λy=>.ok y (Zb h a (xs.take (xs.length-1)))
  |"pop",[u]=>opt (yb u) λi=>opt (ixM xs.length i) λk=>opt (xs[k]?) λy=>if -(2^63)<=i/\i<2^63 then .ok y (Zb h a (xs.take k++xs.drop (k+1))) else .stuck
  |_,_=>.stuck
 |_=>.stuck
noncomputable def Zaf:Int->List Int->Int
 |m,[]=>m
 |m,x::r=>Zaf (if x<m then x else m) r
noncomputable def YX:Int->List Int->Int
 |m,[]=>m
 |m,x::r=>YX (if x>m then x else m) r
noncomputable def qs(fz:Bool)(n:String)(as:List MV)(h:MH):R MV:=match n,as with
 |"len",[v]=>opt (Zc h v) λxs=>.ok (.f (.int xs.length)) h
 |"sum",[v]=>opt ((Zc h v).bind Qd) λxs=>.ok (.f (.int xs.sum)) h
 |"all",[v]=>opt ((Zc h v).bind qm) λxs=>.ok (.f (.bl (xs.all id))) h
 |"min",[v]=>opt ((Zc h v).bind Qd) λxs=>match xs with | []=>.stuck|x::r=>.ok (.f (.int (Zaf x r))) h
 |"max",[v]=>opt ((Zc h v).bind Qd) λxs=>match xs with | []=>.stuck|x::r=>.ok (.f (.int (YX x r))) h
 |"min",[u,v]=>opt (yb u) λi=>opt (yb v) λj=>.ok (.f (.int (if j<i then j else i))) h
 |"max",[u,v]=>opt (yb u) λi=>opt (yb v) λj=>.ok (.f (.int (if j>i then j else i))) h
 |"abs",[v]=>opt (yb v) λi=>.ok (.f (.int (if i<0 then -i else i))) h
 |"int",[v]=>match yx v with
  |some b=>.ok (.f (.int (if b then 1 else 0))) h
  |none=>opt (yb v) λi=>.ok (.f (.int i)) h
 |"tuple",[v]=>opt (Zc h v) λxs=>.ok (yi xs) h
 |"list",[v]=>opt (Zc h v) λxs=>yk fz xs h
 |"divmod",[u,v]=>opt (yb u) λi=>opt (yb v) λj=>if 0<j/\j<1073741824 then .ok (.f (.tup [.int (i/j),.int (i%j)])) h else .stuck
 |_,_=>.stuck
noncomputable def YaY(ns:List Int):List Int:=ns.mergeSort (λa b=>decide (a<=b))
theorem yaD:∀{a b:List Int},a.Perm b->a.Pairwise (·<=·)->b.Pairwise (·<=·)->a=b
 |[],b,p,_,_=>(List.Perm.nil_eq p)
 |x::a,b,p,h,k=>by
  cases b with
  |nil=>exact absurd p.symm.nil_eq (by simp)
  |cons y b =>
   rw[wF] at h k;have e:x=y:=by
    have h1:x∈y::b:=p.mem_iff.mp (by simp);have h2:y∈x::a:=p.mem_iff.mpr (by simp)
    rcases Ua.mp h1 with e|m1
    ·exact e
    ·rcases Ua.mp h2 with e|m2
     ·exact e.symm
     ·have:=h.1 y m2;have:=k.1 x m1;lia
   subst e;rw[yaD (List.Perm.cons_inv p) h.2 k.2]
theorem yaR(ns:List Int):(YaY ns).Perm ns:=List.mergeSort_perm _ _
theorem Ybm(ns:List Int):(YaY ns).Pairwise (·<=·):=by
 have:=List.pairwise_mergeSort (le:=λa b:Int=>decide (a<=b)) (by intro a b c h k;simp at *;lia) (by intro a b;simp;lia) ns;exact this.imp (by intro a b h;simpa using h)
theorem YaH{ns ns':List Int}(p:ns'.Perm ns)(h:ns'.Pairwise (·<=·)):ns'=YaY ns:=yaD (p.trans (yaR ns).symm) h (Ybm ns)
noncomputable def cellT(h:MH)(v:MV):Option (List ((Int×Int)×Int)):=match v with
 |.ref a=>match h[a]? with
  |some (.tab kvs)=>some kvs
  |_=>none
 |.f (.tab kvs)=>some kvs
 |_=>none
noncomputable def qar(v:MV):Option (Int×Int):=match qo v with
 |some [.f (.int a),.f (.int b)]=>some (a,b)
 |_=>none
noncomputable def Ybp(k:Int×Int):Bool:=decide ((0<=k.1/\k.1<64)/\0<=k.2/\k.2<64)
noncomputable def Zbn:MV->Option Str
 |.f (.str s)=>some s
 |_=>none
noncomputable def ybk(o:T1)(x:MV)(h:MH):R MV:=match o with
 |.str=>opt (yb x) λi=>if i.natAbs<2^256 then .ok (.f (.str (Str.ofString (toString i)))) h else .stuck
 |.int=>opt (Zbn x) λz=>opt (PySem.intText? z) λn=>if z.length<=640 then .ok (.f (.int n)) h else .stuck
 |.len=>opt (Zbn x) λz=>if z.length<=sizeL then .ok (.f (.int z.length)) h else .stuck
 |.setl=>opt (listOf h x) λxs=>opt (xs.mapM qar) λks=>if ks.all Ybp=true/\layP ks=true/\ks.length<1000000 then .ok (.f (.int ks.length)) h else .stuck
 |.srtI=>opt (listOf h x) λxs=>opt (Qd xs) λns=>if ns.Nodup/\ns.length<=10000 then yk true ((YaY ns).map λi=>.f (.int i)) h else .stuck
noncomputable def Zz:List MV->Option (List Nat)
 |[]=>some []
 |.ref a::r=>(Zz r).map (a::·)
 |_::_=>none
noncomputable def t2g(o:T2)(x:MV)(h:MH):Option Str:=match o with
 |.lrg=>some ⟨#[]⟩
 |.idx=>(listOf h x).map λ_=>⟨#[]⟩
@[simp] theorem t2g_lrg{x:MV}{h:MH}:t2g .lrg x h=some ⟨#[]⟩:=rfl
@[simp] theorem ZbB{x:MV}{h:MH}:t2g .idx x h=(listOf h x).map λ_=>⟨#[]⟩:=rfl
noncomputable def QP(o:T2)(x y:MV)(h:MH):R MV:=match o with
 |.idx=>opt ((listOf h x).bind Qd) λns=>opt (yb y) λk=>opt (L3.idxI k ns) λj=>.ok (.f (.int (j:Nat))) h
 |.lrg=>opt (yb x) λi=>opt (yb y) λj=>if(-(2^62)<=i/\i<2^62/\-(2^62)<=j/\j<2^62)/\(j-i).toNat<=1000000 then yk true (((xa (j-i).toNat).map λk:Nat=>i+(k:Int)).map λi=>.f (.int i)) h else .stuck
noncomputable def bestI(w:Int)(n:Int)(r:List Int):Int:=r.foldl (λb k=>if(if w-k<0 then -(w-k) else w-k)<(if w-b<0 then -(w-b) else w-b) then k else b) n
noncomputable def nearV(x y:MV)(h:MH):R MV:=opt (yb x) λw=>opt (Zc h y) λvs=>opt (Qd vs) λns=>match ns with
 |n::r=>match (h[0]?:Option Cell) with
  |some .code=>.ok (.f (.int (bestI w n r))) h
  |_=>.stuck
 |[]=>.stuck
mutual
@[simp] noncomputable def zt:Tg->MV->MSt->Option MSt
 |.nm i,v,σ=>some (σ.set i (some v))
 |.tp ts,v,σ=>(qo v).bind λvs=>Qv ts vs σ
@[simp] noncomputable def Qv:List Tg->List MV->MSt->Option MSt
 |[],[],σ=>some σ
 |t::ts,v::vs,σ=>(zt t v σ).bind λσ'=>Qv ts vs σ'
 |_,_,_=>none
end
noncomputable abbrev ZE:=List (Nat×List MV)
noncomputable def GuardOk(g:ZE)(h:MH):Prop:=∀ p∈g,Ya h p.1=some p.2
noncomputable def qd(h:MH):MV->ZE
 |.ref a=>match Ya h a with
  |some xs=>[(a,xs)]
  |none=>[]
 |_=>[]
noncomputable def rlen(lo hi st:Int):Nat:=if lo<hi then((hi-lo-1)/st+1).toNat else 0
noncomputable def itV(it:String)(as:List MV)(h:MH):Option (List MV×ZE):=match it,as with
 |"seq",[v]=>(Zc h v).map λxs=>(xs,qd h v)
 |"range",[u]=>(yb u).bind λn=>if -(2^62)<=n/\n<2^62 then some ((xa n.toNat).map λ(k:Nat)=>.f (.int k),[]) else none
 |"range",[u,v]=>(yb u).bind λa=>(yb v).bind λb=>if -(2^62)<=a/\a<2^62/\-(2^62)<=b/\b<2^62 then some ((xa (b-a).toNat).map λ(k:Nat)=>.f (.int (a+k)),[]) else none
 |"range",[u,v,w]=>(yb u).bind λa=>(yb v).bind λb=>(yb w).bind λs=>if -(2^30)<=a/\a<2^30/\-(2^30)<=b/\b<2^30/\0<s/\s<2^30 then some ((xa (rlen a b s)).map λ(k:Nat)=>.f (.int (a+k*s)),[]) else none
 |"zip",[u,v]=>(Zc h u).bind λxs=>(Zc h v).map λys=>((xs.zip ys).map λp=>yi [p.1,p.2],qd h u++qd h v)
 |"keys",[.f (.tab kvs)]=>some (kvs.map λkv=>.f (.tup [.int kv.1.1,.int kv.1.2]),[])
 |"signs",[.f (.str s)]=>some (s.cps.toList.map λc=>.f (.str ⟨#[c]⟩),[])
 |"items",[.f (.tab kvs)]=>some (kvs.map λkv=>.f (.tup [.tup [.int kv.1.1,.int kv.1.2],.int kv.2]),[])
 |"enumerate",[v]=>(Zc h v).map λxs=>(xs.mapIdx λk x=>yi [.f (.int k),x],qd h v)
 |"enum1",[v]=>(Zc h v).map λxs=>(xs.mapIdx λk x=>yi [.f (.int ((k+1:Nat):Int)),x],qd h v)
 |_,_=>none
inductive RS where
 |next (σ:MSt) (h:MH)|ret (v:MV) (h:MH)|brk (σ:MSt) (h:MH)|cnt (σ:MSt) (h:MH)|exc (c:String) (h:MH)|stuck
namespace RS
noncomputable def bind(r:RS)(k:MSt->MH->RS):RD k RS:=match r with
 |.next σ h=>k σ h
 |.ret v h=>.ret v h
 |.brk σ h=>.brk σ h
 |.cnt σ h=>.cnt σ h
 |.exc c h=>.exc c h
 |.stuck=>.stuck
@[simp] theorem bind_next{σ:MSt}{h:MH}{k:MSt->MH->RS}:(RS.next σ h).bind k=k σ h:=id rfl
@[simp] theorem bind_ret{v:MV}{h:MH}{k:MSt->MH->RS}:(RS.ret v h).bind k=.ret v h:=id rfl
@[simp] theorem bind_brk{σ:MSt}{h:MH}{k:MSt->MH->RS}:(RS.brk σ h).bind k=.brk σ h:=id rfl
@[simp] theorem bind_cnt{σ:MSt}{h:MH}{k:MSt->MH->RS}:(RS.cnt σ h).bind k=.cnt σ h:=id rfl
@[simp] theorem bind_exc{c:String}{h:MH}{k:MSt->MH->RS}:(RS.exc c h).bind k=.exc c h:=id rfl
@[simp] theorem bind_stuck{k:MSt->MH->RS}:(RS.stuck).bind k=.stuck:=id rfl
noncomputable def turn(r:RS)(k:MSt->MH->RS):RD k RS:=match r with
 |.next σ h=>k σ h
 |.cnt σ h=>k σ h
 |.brk σ h=>.next σ h
 |.ret v h=>.ret v h
 |.exc c h=>.exc c h
 |.stuck=>.stuck
@[simp] theorem turn_next{σ:MSt}{h:MH}{k:MSt->MH->RS}:(RS.next σ h).turn k=k σ h:=id rfl
@[simp] theorem turn_cnt{σ:MSt}{h:MH}{k:MSt->MH->RS}:(RS.cnt σ h).turn k=k σ h:=id rfl
@[simp] theorem turn_brk{σ:MSt}{h:MH}{k:MSt->MH->RS}:(RS.brk σ h).turn k=.next σ h:=id rfl
@[simp] theorem turn_ret{v:MV}{h:MH}{k:MSt->MH->RS}:(RS.ret v h).turn k=.ret v h:=id rfl
@[simp] theorem turn_exc{c:String}{h:MH}{k:MSt->MH->RS}:(RS.exc c h).turn k=.exc c h:=id rfl
@[simp] theorem QbZ{k:MSt->MH->RS}:(RS.stuck).turn k=.stuck:=id rfl
end RS
noncomputable def RS.caught(k:String->MH->RS)(r:RS):RD k RS:=match r with
 |.exc c h=>k c h
 |r=>r
noncomputable def R.st{α:Type}(r:R α)(k:α->MH->RS):RD k RS:=match r with
 |.ok x h=>k x h
 |.exc c h=>.exc c h
 |.stuck=>.stuck
@[simp] theorem R.st_ok{α:Type}{x:α}{h:MH}{k:α->MH->RS}:(R.ok x h).st k=k x h:=id rfl
@[simp] theorem R.st_exc{α:Type}{c:String}{h:MH}{k:α->MH->RS}:(R.exc c h:R α).st k=.exc c h:=id rfl
@[simp] theorem R.st_stuck{α:Type}{k:α->MH->RS}:(R.stuck:R α).st k=.stuck:=id rfl
noncomputable def qw{α:Type}(o:Option α)(k:α->RS):RD k RS:=match o with
 |some x=>k x
 |none=>.stuck
@[simp] theorem YT{α:Type}{x:α}{k:α->RS}:qw (some x) k=k x:=id rfl
@[simp] theorem zck{α:Type}{k:α->RS}:qw none k=.stuck:=id rfl
open Classical in
noncomputable def QG(g:ZE)(bd:MV->MSt->MH->RS):List MV->MSt->MH->RS
 |[],σ,h=>if GuardOk g h then .next σ h else .stuck
 |x::r,σ,h=>if GuardOk g h then(bd x σ h).turn λσ1 h1=>QG g bd r σ1 h1 else .stuck
open Classical in
noncomputable def qh(g:ZE)(bd:MV->MSt->MH->R (Option MV×MSt)):List MV->List MV->MSt->MH->R (List MV)
 |[],acc,σ,h=>if GuardOk g h then .ok acc h else .stuck
 |x::r,acc,σ,h=>if GuardOk g h/\acc.length<sizeL then(bd x σ h).bind λp h1=>qh g bd r (match p.1 with|some y=>acc++[y]|none=>acc) p.2 h1 else .stuck
noncomputable def stM(ncv:Nat)(js:List Nat)(σ:MSt):MSt:=Xa ncv none++js.map λj=>(σ[j]?).join
noncomputable def Qu(c:MSt->MH->R MV)(bd:MSt->MH->RS):Nat->MSt->MH->RS
 |0,_,_=>.stuck
 |n+1,σ,h=>(c σ h).st λv h1=>qw (yx v) λb=>if b=true then(bd σ h1).turn λσ2 h2=>Qu c bd n σ2 h2 else .next σ h1
noncomputable def calm{α:Type}(r:R α):R α:=match r with
 |.ok x h=>.ok x h
 |_=>.stuck
@[simp] theorem calm_ok{α:Type}{x:α}{h:MH}:calm (R.ok x h)=.ok x h:=id rfl
noncomputable def zE(tg:Tg)(ex:MSt->MH->RS):MV->MSt->MH->RS:=λx σ h=>qw (zt tg x σ) λσ2=>ex σ2 h
noncomputable def Zi(tg:Tg)(tc:MSt->MH->R Bool)(te:MSt->MH->R MV):MV->MSt->MH->R (Option MV×MSt):=λx σ h =>
 opt (zt tg x σ) λσ2=>(calm (tc σ2 h)).bind λk h2=>if k=true then(calm (te σ2 h2)).bind λy h3=>.ok (some y,σ2) h3 else .ok (none,σ2) h2
noncomputable def FlatC:Cell->Prop
 |.lst xs=>∃ ys:List FV,xs=ys.map MV.f
 |.obj _ fs=>∃ ys:List (String×FV),fs=ys.map λp=>(p.1,MV.f p.2)
 |.dic _=>True
 |.tab _=>True
 |.msk _=>True
 |.code=>True
 |.dead=>True
noncomputable def TrOk(h h':MH):Prop:=h.length<=h'.length/\∀ i c,i<h.length->h'[i]?=some c->h[i]?=some c\/FlatC c
open Classical in
noncomputable def zq(h:MH)(v:MV)(h':MH):R MV:=if TrOk h h' then(match v with
 |.f x=>.ok (.f x) (h'.take h.length)
 |.ref a=>if h.length<=a then(match Ya h' a with
   |some xs=>match qk xs with
    |some _=>.ok (.ref h.length) (h'.take h.length++[.lst xs])
    |none=>.ok v h'
   |none=>.ok v h') else .ok v h'
 |v=>.ok v h') else .ok v h'
open Classical in
noncomputable def yH(h:MH)(c:String)(h':MH):R MV:=if TrOk h h' then .exc c (h'.take h.length) else .exc c h'
section
variable (P:Prog) (W:String->List MV->MH->R MV)
open Classical in
noncomputable def qV(fz:Bool)(c:String)(as:List MV)(h:MH):R MV :=
 (match P.meths c "__init__" with
  |some f=>W f (.ref h.length::as) (h++[Cell.obj c []])
  |none=>match as with | []=>R.ok (MV.f FV.non) (h++[Cell.obj c []])|_=>.stuck).bind λv (h1:MH)=>if Zr v=false then .stuck else
 match fz with
 |true=>match h1[h.length]? with
  |some (Cell.obj c' fs)=>opt (qk (fs.map Ul)) λvs=>if TrOk h h1 then R.ok (MV.f (FV.obj c' (fs.map Vq) vs)) (h1.take h.length) else .stuck
  |_=>.stuck
 |false=>R.ok (MV.ref h.length) h1
mutual
@[simp] noncomputable def ya:ME->MSt->MH->R MV
 |.var i,σ,h=>opt ((σ[i]?).join) λv=>.ok v h
 |.cI i,_,h=>.ok (.f (.int i)) h
 |.cB b,_,h=>.ok (.f (.bl b)) h
 |.cN,_,h=>.ok (.f .non) h
 |.cS s,_,h=>.ok (.f (.str s)) h
 |.bin fz op a b,σ,h=>(ya a σ h).bind λx h1=>(ya b σ h1).bind λy h2=>Yg fz op x y h2
 |.neg a,σ,h=>(ya a σ h).bind λx h1=>opt (yb x) λi=>.ok (.f (.int (-i))) h1
 |.cmp op a b,σ,h=>(ya a σ h).bind λx h1=>(ya b σ h1).bind λy h2=>opt (yL op x y h2) λb=>.ok (.f (.bl b)) h2
 |.isN a,σ,h=>(ya a σ h).bind λx h1=>.ok (.f (.bl (Zr x))) h1
 |.notN a,σ,h=>(ya a σ h).bind λx h1=>.ok (.f (.bl (!Zr x))) h1
 |.and es,σ,h=>Zl es σ h
 |.or es,σ,h=>Zs es σ h
 |.not a,σ,h=>(ya a σ h).bind λx h1=>opt (yx x) λk=>.ok (.f (.bl (!k))) h1
 |.ite c a b,σ,h=>(ya c σ h).bind λx h1=>opt (yx x) λk=>if k=true then ya a σ h1 else ya b σ h1
 |.tup es,σ,h=>(Ye es σ h).bind λxs h1=>.ok (yi xs) h1
 |.lst fz es,σ,h=>(Ye es σ h).bind λxs h1=>yk fz xs h1
 |.sub a i,σ,h=>(ya a σ h).bind λx h1=>(ya i σ h1).bind λy h2=>opt (Zc h2 x) λxs=>opt (yb y) λk=>opt (atM xs k) λv=>.ok v h2
 |.slice fz a lo hi,σ,h=>(ya a σ h).bind λx h1=>(ZaJ lo σ h1).bind λl h2=>(ZaJ hi σ h2).bind λu h3=>Y9 fz x l u h3
 |.fld a n,σ,h=>(ya a σ h).bind λx h1=>opt (YaL P.fok n x h1) λv=>.ok v h1
 |.call f es,σ,h=>(Ye es σ h).bind λxs h1=>W f xs h1
 |.make fz c es,σ,h=>(Ye es σ h).bind λxs h1=>qV P W fz c xs h1
 |.meth o m es,σ,h=>(ya o σ h).bind λx h1=>opt (clsM m x h1) λc=>opt (P.meths c m) λf=>(Ye es σ h1).bind λxs h2=>W f (x::xs) h2
 |.blt fz n es,σ,h=>(Ye es σ h).bind λxs h1=>qs fz n xs h1
 |.isI a t,σ,h=>(ya a σ h).bind λx h1=>opt (qM P.subs h1 x t) λk=>.ok (.f (.bl k)) h1
 |.tx1 o a,σ,h=>(ya a σ h).bind λx h1=>ybk o x h1
 |.tx2 o a b,σ,h=>(ya a σ h).bind λx h1=>opt (t2g o x h1) λ_=>(ya b σ h1).bind λy h2=>QP o x y h2
 |.nearK a b,σ,h=>(ya a σ h).bind λx h1=>(ya b σ h1).bind λy h2=>nearV x y h2
 |.isX a t,σ,h=>(ya a σ h).bind λx h1=>opt (Zbv x) λc=>opt (P.xsubs c t) λk=>.ok (.f (.bl k)) h1
 |.lm m o es,σ,h=>(ya o σ h).bind λx h1=>opt (lmC x h1) λ_=>(Ye es σ h1).bind λxs h2=>lmV m x xs h2
 |.comp fz elt tg it src cond ncv js,σ,h=>(Ye src σ h).bind λxs h1=>opt (itV it xs h1) λp =>
   (qh p.2 (Zi tg (zaz cond) (ya elt)) p.1 [] (stM ncv js σ) h1).bind λacc h3=>yk fz acc h3
 |.frz e,σ,h=>(ya e σ h).bind λx h1=>YR x h1
@[simp] noncomputable def Zl:List ME->MSt->MH->R MV
 |[],_,_=>.stuck
 |[e],σ,h=>ya e σ h
 |e::e'::r,σ,h=>(ya e σ h).bind λx h1=>opt (yx x) λk=>if k=true then Zl (e'::r) σ h1 else .ok (.f (.bl false)) h1
@[simp] noncomputable def Zs:List ME->MSt->MH->R MV
 |[],_,_=>.stuck
 |[e],σ,h=>ya e σ h
 |e::e'::r,σ,h=>(ya e σ h).bind λx h1=>opt (yx x) λk=>if k=true then .ok (.f (.bl true)) h1 else Zs (e'::r) σ h1
@[simp] noncomputable def Ye:List ME->MSt->MH->R (List MV)
 |[],_,h=>.ok [] h
 |e::es,σ,h=>(ya e σ h).bind λx h1=>(Ye es σ h1).bind λxs h2=>.ok (x::xs) h2
@[simp] noncomputable def ZaJ:Option ME->MSt->MH->R (Option Int)
 |none,_,h=>.ok none h
 |some e,σ,h=>(ya e σ h).bind λx h1=>opt (yb x) λi=>.ok (some i) h1
@[simp] noncomputable def zaz:Option ME->MSt->MH->R Bool
 |none,_,h=>.ok true h
 |some e,σ,h=>(ya e σ h).bind λx h1=>opt (yx x) λk=>.ok k h1
end
mutual
@[simp] noncomputable def Qm:MS->MSt->MH->RS
 |.set tg e,σ,h=>(ya P W e σ h).st λv h1=>qw (zt tg v σ) λσ1=>.next σ1 h1
 |.setSub o i e,σ,h=>(ya P W e σ h).st λv h1=>(ya P W o σ h1).st λx h2=>(ya P W i σ h2).st λy h3 =>
   match x with
   |.ref a=>qw (Ya h3 a) λxs=>qw (yb y) λk=>qw (ixM xs.length k) λj=>.next σ (Zb h3 a (xs.set j v))
   |_=>.stuck
 |.par i j a b,σ,h=>(Ye P W [a,b] σ h).st λxs h1=>match xs with
  |[v,w]=>.next ((σ.set i (some v)).set j (some w)) h1
  |_=>.stuck
 |.setFld o n e,σ,h=>(ya P W e σ h).st λv h1=>(ya P W o σ h1).st λx h2=>match x with
   |.ref a=>match h2[a]? with
    |some (.obj c fs)=>if P.fok c n=true/\fs.length<100 then .next σ (h2.set a (.obj c (yag n v fs))) else .stuck
    |_=>.stuck
   |_=>.stuck
 |.expr e,σ,h=>(ya P W e σ h).st λ_ h1=>.next σ h1
 |.ret e,σ,h=>(ya P W e σ h).st λv h1=>.ret v h1
 |.ite c a b,σ,h=>(ya P W c σ h).st λv h1=>qw (yx v) λk=>if k=true then Zd a σ h1 else Zd b σ h1
 |.for_ tg it src body,σ,h=>(Ye P W src σ h).st λxs h1=>qw (itV it xs h1) λp =>
   QG p.2 (zE tg (Zd body)) p.1 σ h1
 |.while_ c body,σ,h=>Qu (ya P W c) (Zd body) P.turns σ h
 |.raise c es,σ,h=>(Ye P W es σ h).st λ_ h1=>.exc c h1
 |.tryK body ei dst,σ,h=>RS.caught (λc h1=>if(P.xsubs c c).isSome=true/\ei<σ.length then .next ((σ.set dst (some (.exc c))).set ei none) h1 else .stuck) (Zd body σ h)
 |.pass,σ,h=>.next σ h
 |.boom,_,_=>.stuck
 |.frzS i,σ,h=>qw ((σ[i]?).join) λv=>(YR v h).st λx h1=>.next (σ.set i (some x)) h1
noncomputable def Zd:List MS->MSt->MH->RS
 |[],σ,h=>.next σ h
 |s::r,σ,h=>(Qm s σ h).bind (Zd r)
end
end
noncomputable def Yf(h:MH)(r:RS):R MV:=match r with
 |.next _ h'=>zq h (.f .non) h'
 |.ret v h'=>zq h v h'
 |.exc c h'=>yH h c h'
 |_=>.stuck
noncomputable def run(P:Prog):Nat->String->List MV->MH->R MV
 |0,_,_,_=>.stuck
 |n+1,f,as,h=>opt (P.defs f) λd=>if as.length=d.np then Yf h (Zd P (run P n) d.body (as.map some++Xa (d.ns-d.np) none) h) else .stuck
end MP
end
section
namespace MP
open PySem
noncomputable abbrev I(i:Int):MV:=.f (.int i)
noncomputable abbrev B(b:Bool):MV:=.f (.bl b)
@[simp] theorem QaE{α:Type}(g:α->FV):∀ xs:List α,qk (xs.map λx=>MV.f (g x))=some (xs.map g)
 |[]=>rfl
 |x::r=>by simp[qk,QaE g r]
@[simp] theorem yan:∀ xs:List FV,qk (xs.map MV.f)=some xs
 |[]=>rfl
 |x::r=>by simp[qk,yan r]
@[simp] theorem qci{α:Type}(g:α->FV)(xs:List α):qk (xs.map (MV.f∘g))=some (xs.map g):=QaE g xs
@[simp] theorem ZaM{α:Type}(g:α->Int):∀ xs:List α,Qd (xs.map λx=>MV.f (.int (g x)))=some (xs.map g)
 |[]=>rfl
 |x::r=>by simp[Qd,ZaM g r]
@[simp] theorem qaD:∀ xs:List Int,Qd (xs.map (MV.f∘FV.int))=some xs
 |[]=>rfl
 |x::r=>by
  show Option.map _ (Qd (r.map (MV.f∘FV.int)))=_;rw[qaD r];rfl
@[simp] theorem ya6{α:Type}(g:α->Bool):∀ xs:List α,qm (xs.map λx=>MV.f (.bl (g x)))=some (xs.map g)
 |[]=>rfl
 |x::r=>by simp[qm,ya6 g r]
@[simp] theorem yce(xs:List FV):yi (xs.map MV.f)=.f (.tup xs):=by simp[yi]
@[simp] theorem QaM{α:Type}(g:α->FV)(xs:List α):yi (xs.map (MV.f∘g))=.f (.tup (xs.map g)):=by simp[yi]
@[simp] theorem qcl{α:Type}(g:α->FV)(xs:List α):yi (xs.map λx=>MV.f (g x))=.f (.tup (xs.map g)):=by simp[yi]
@[simp] theorem qck(x y:FV):yi [.f x,.f y]=.f (.tup [x,y]):=rfl
@[simp] theorem Yck:yi []=.f (.tup []):=rfl
@[simp] theorem ycm(x:FV):yi [.f x]=.f (.tup [x]):=rfl
@[simp] theorem qb(xs:List FV)(h:MH):yk true (xs.map MV.f) h=.ok (.f (.lst xs)) h:=by simp[yk]
@[simp] theorem qbs{α:Type}(g:α->FV)(xs:List α)(h:MH):yk true (xs.map (MV.f∘g)) h=.ok (.f (.lst (xs.map g))) h:=by simp[yk]
@[simp] theorem ZbA{α:Type}(g:α->FV)(xs:List α)(h:MH):yk true (xs.map λx=>MV.f (g x)) h=.ok (.f (.lst (xs.map g))) h:=by simp[yk]
@[simp] theorem zbA(h:MH):yk true [] h=.ok (.f (.lst [])) h:=rfl
@[simp] theorem zbz(x:FV)(r:List MV)(h:MH):yk true (.f x::r) h=opt (qk r) λys=>.ok (.f (.lst (x::ys))) h:=by
 simp only[yk,qk];cases qk r <;> rfl
@[simp] theorem YaT(xs:List MV)(h:MH):yk false xs h=.ok (.ref h.length) (h++[.lst xs]):=rfl
@[simp] theorem Zb2(P:Prog)(W:String->List MV->MH->R MV)(σ:MSt)(h:MH):Zd P W [] σ h=.next σ h:=by simp only[Zd]
@[simp] theorem qbS(P:Prog)(W:String->List MV->MH->R MV)(s:MS)(r:List MS)(σ:MSt)(h:MH):Zd P W (s::r) σ h=(Qm P W s σ h).bind (Zd P W r):=by simp only[Zd]
section
variable {h:MH}
@[simp] theorem fldV_obj(ok:String->String->Bool)(n c:String)(ns:List String)(vs:List FV):YaL ok n (.f (.obj c ns vs)) h=if ok c n=true then(Yaa n ns vs).map .f else none:=rfl
@[simp] theorem lmC_ref(a:Nat):lmC (.ref a) h=Ya h a:=rfl
@[simp] theorem qa6:Zr (.f .non)=true:=rfl
@[simp] theorem zci(s:Str):Zr (.f (.str s))=false:=rfl
@[simp] theorem zcj(s:Int):Zr (.f (.int s))=false:=rfl
@[simp] theorem isNon_bl(s:Bool):Zr (.f (.bl s))=false:=rfl
@[simp] theorem ycj(s:List FV):Zr (.f (.tup s))=false:=rfl
@[simp] theorem zcn(s:List FV):Zr (.f (.lst s))=false:=rfl
@[simp] theorem Qch(c:String)(ns:List String)(s:List FV):Zr (.f (.obj c ns s))=false:=rfl
@[simp] theorem Zcn(s:Nat):Zr (.ref s)=false:=rfl
@[simp] theorem Ycg(s:List MV):Zr (.tup s)=false:=rfl
@[simp] theorem Qcm(xs:List FV):Zc h (.f (.tup xs))=some (xs.map .f):=rfl
@[simp] theorem yci(xs:List FV):Zc h (.f (.lst xs))=some (xs.map .f):=rfl
@[simp] theorem Ych(ns:List Int):Zc h (.f (.scr ns))=some (ns.map λi=>MV.f (.int i)):=rfl
@[simp] theorem zcm(ns:List Int):qo (.f (.scr ns))=none:=rfl
@[simp] theorem Qb0(xs:List MV):Zc h (.tup xs)=some xs:=rfl
@[simp] theorem qcj(a:Nat):Zc h (.ref a)=Ya h a:=rfl
@[simp] theorem setF_nil(n:String)(v:MV):yag n v []=[(n,v)]:=rfl
@[simp] theorem Yci(n k:String)(v x:MV)(r:List (String×MV)):yag n v ((k,x)::r)=if k=n then(k,v)::r else(k,x)::yag n v r:=rfl
@[simp] theorem ybY(xs:List FV):listOf h (.f (.tup xs))=none:=rfl
@[simp] theorem qcb(xs:List FV):listOf h (.f (.lst xs))=some (xs.map .f):=rfl
@[simp] theorem qbZ(a:Nat):listOf h (.ref a)=Ya h a:=rfl
@[simp] theorem yck(xs:List FV):qo (.f (.tup xs))=some (xs.map .f):=rfl
@[simp] theorem Yb1(xs:List MV):qo (.tup xs)=some xs:=rfl
@[simp] theorem Zcj(xs:List FV):qo (.f (.lst xs))=none:=rfl
@[simp] theorem Ycm(a:Nat):qo (.ref a)=none:=rfl
@[simp] theorem Ycn(i:Int):yb (.f (.int i))=some i:=rfl
@[simp] theorem Qcj(xs:List FV):yb (.f (.tup xs))=none:=rfl
@[simp] theorem Qci(xs:List FV):yb (.f (.lst xs))=none:=rfl
@[simp] theorem Qck(a:Nat):yb (.ref a)=none:=rfl
@[simp] theorem blOf_bl(b:Bool):yx (.f (.bl b))=some b:=rfl
@[simp] theorem Qcl(i j:Int):ZM .lt i j=some (decide (i<j)):=rfl
@[simp] theorem ycn(i j:Int):ZM .le i j=some (decide (i<=j)):=rfl
@[simp] theorem Zci(i j:Int):ZM .gt i j=some (decide (j<i)):=rfl
@[simp] theorem zcl(i j:Int):ZM .ge i j=some (decide (j<=i)):=rfl
@[simp] theorem cmp_lt(x y:MV):yL .lt x y h=(yb x).bind λi=>(yb y).bind λj=>some (decide (i<j)):=rfl
@[simp] theorem cmp_le(x y:MV):yL .le x y h=(yb x).bind λi=>(yb y).bind λj=>some (decide (i<=j)):=rfl
@[simp] theorem cmp_gt(x y:MV):yL .gt x y h=(yb x).bind λi=>(yb y).bind λj=>some (decide (j<i)):=rfl
@[simp] theorem cmp_ge(x y:MV):yL .ge x y h=(yb x).bind λi=>(yb y).bind λj=>some (decide (j<=i)):=rfl
@[simp] theorem deep_f(x:FV):YM h (.f x)=some x:=rfl
@[simp] theorem cmp_eq_f(x y:FV):yL .eq (.f x) (.f y) h=eqF x y:=rfl
@[simp] theorem cmp_ne_f(x y:FV):yL .ne (.f x) (.f y) h=(eqF x y).map (!·):=rfl
@[simp] theorem isD_non(n:Nat):isD (n+1) .non=true:=rfl
@[simp] theorem isD_bl(n:Nat)(b:Bool):isD (n+1) (.bl b)=true:=rfl
@[simp] theorem isD_int(n:Nat)(i:Int):isD (n+1) (.int i)=true:=rfl
@[simp] theorem isD_str(n:Nat)(s:Str):isD (n+1) (.str s)=sOk s:=rfl
@[simp] theorem isD_tup(n:Nat)(xs:List FV):isD (n+1) (.tup xs)=xs.all (isD n):=rfl
@[simp] theorem isD_lst(n:Nat)(xs:List FV):isD (n+1) (.lst xs)=xs.all (isD n):=rfl
@[simp] theorem ya3(i j:Int):eqD (.int i) (.int j)=(i==j):=by simp[eqD]
@[simp] theorem eqD_str(i j:Str):eqD (.str i) (.str j)=(i==j):=by simp[eqD]
@[simp] theorem QbD(xs ys:List FV):eqD (.tup xs) (.tup ys)=QM xs ys:=by simp[eqD]
@[simp] theorem ybD(xs ys:List FV):eqD (.lst xs) (.lst ys)=QM xs ys:=by simp[eqD]
@[simp] theorem eqF_int(i j:Int):eqF (.int i) (.int j)=some (i==j):=by simp[eqF]
theorem zbR(i j:Str)(a:sOk i=true)(b:sOk j=true):eqF (.str i) (.str j)=some (i==j):=by simp[eqF,a,b]
theorem Z9{α:Type} [DecidableEq α] (g:α->FV)(hg:∀ a b,eqD (g a) (g b)=decide (a=b)):∀ xs ys:List α,QM (xs.map g) (ys.map g)=decide (xs=ys)
 |[],[]=>by simp[QM]
 |[],_::_=>by simp[QM]
 |_::_,[]=>by simp[QM]
 |x::xs,y::ys=>by simp[QM,hg,Z9 g hg xs ys]
@[simp] theorem bin_add(fz:Bool)(i j:Int):Yg fz .add (.f (.int i)) (.f (.int j)) h=.ok (.f (.int (i+j))) h:=rfl
@[simp] theorem bin_sub(fz:Bool)(i j:Int):Yg fz .sub (.f (.int i)) (.f (.int j)) h=.ok (.f (.int (i-j))) h:=rfl
theorem Q0(fz:Bool)(i j:Int)(c:qP i j):Yg fz .mul (.f (.int i)) (.f (.int j)) h=.ok (.f (.int (i*j))) h:=by simp[Yg,YD,c]
theorem ZF(fz:Bool)(i j:Int)(c:Zbi i j):Yg fz .fdiv (.f (.int i)) (.f (.int j)) h=.ok (.f (.int (i/j))) h:=by simp[Yg,YD,c]
theorem Yp(fz:Bool)(i j:Int)(c:0<j):Yg fz .mod (.f (.int i)) (.f (.int j)) h=.ok (.f (.int (i%j))) h:=by simp[Yg,YD,c]
@[simp] theorem bltV_len(fz:Bool)(v:MV):qs fz "len" [v] h=opt (Zc h v) λxs=>.ok (.f (.int xs.length)) h:=rfl
@[simp] theorem bltV_sum(fz:Bool)(v:MV):qs fz "sum" [v] h=opt ((Zc h v).bind Qd) λxs=>.ok (.f (.int xs.sum)) h:=rfl
@[simp] theorem bltV_all(fz:Bool)(v:MV):qs fz "all" [v] h=opt ((Zc h v).bind qm) λxs=>.ok (.f (.bl (xs.all id))) h:=rfl
@[simp] theorem QaU(fz:Bool)(v:MV):qs fz "tuple" [v] h=opt (Zc h v) λxs=>.ok (yi xs) h:=rfl
@[simp] theorem Zbc(fz:Bool)(v:MV):qs fz "list" [v] h=opt (Zc h v) λxs=>yk fz xs h:=rfl
@[simp] theorem Yan(fz:Bool)(i j:Int):qs fz "min" [.f (.int i),.f (.int j)] h=.ok (.f (.int (if j<i then j else i))) h:=rfl
@[simp] theorem Zcm(fz:Bool)(i j:Int):qs fz "max" [.f (.int i),.f (.int j)] h=.ok (.f (.int (if j>i then j else i))) h:=rfl
@[simp] theorem qbn(fz:Bool)(i:Int):qs fz "abs" [.f (.int i)] h=.ok (.f (.int (if i<0 then -i else i))) h:=rfl
@[simp] theorem qcm(fz:Bool)(i:Int):qs fz "int" [.f (.int i)] h=.ok (.f (.int i)) h:=rfl
@[simp] theorem ycl(fz:Bool)(b:Bool):qs fz "int" [.f (.bl b)] h=.ok (.f (.int (if b then 1 else 0))) h:=rfl
end
@[simp] theorem ite_okH{α:Type}(c:Prop) [Decidable c] (x y:α)(h:MH):(if c then R.ok x h else R.ok y h)=R.ok (if c then x else y) h:=by split <;> rfl
@[simp] theorem ite_f(c:Prop) [Decidable c] (x y:FV):(if c then MV.f x else MV.f y)=MV.f (if c then x else y):=by split <;> rfl
@[simp] theorem ite_bl(c:Prop) [Decidable c] (x y:Bool):(if c then FV.bl x else FV.bl y)=FV.bl (if c then x else y):=by split <;> rfl
@[simp] theorem ite_int(c:Prop) [Decidable c] (x y:Int):(if c then FV.int x else FV.int y)=FV.int (if c then x else y):=by split <;> rfl
theorem QC(xs:List MV)(k:Nat):atM xs (k:Int)=xs[k]?:=by
 unfold atM ixM;by_cases h:k<xs.length
 ·simp[h]
 ·simp[h]
theorem zN(xs:List MV)(i:Int)(h:0<=i):atM xs i=xs[i.toNat]?:=by
 have:=QC xs i.toNat
 rwa [Int.toNat_of_nonneg h] at this
@[simp] theorem atM_zero(x:MV)(xs:List MV):atM (x::xs) 0=some x:=by have:=QC (x::xs) 0;simpa using this
@[simp] theorem atM_one(x y:MV)(xs:List MV):atM (x::y::xs) 1=some y:=by have:=QC (x::y::xs) 1;simpa using this
@[simp] theorem atM_two(x y z:MV)(xs:List MV):atM (x::y::z::xs) 2=some z:=by have:=QC (x::y::z::xs) 2;simpa using this
noncomputable def sq(b:Bool)(xs:List FV):FV:=if b=true then .tup xs else .lst xs
@[simp] theorem seqOf_sq(h:MH)(b:Bool)(xs:List FV):Zc h (.f (sq b xs))=some (xs.map .f):=by cases b <;> rfl
@[simp] theorem Zcf(h:MH)(b:Bool)(xs:List FV):qd h (.f (sq b xs))=[]:=rfl
noncomputable def Zbj:List Int->Int
 |[]=>0
 |x::r=>Zaf x r
noncomputable def Qbo:List Int->Int
 |[]=>0
 |x::r=>YX x r
theorem yat:∀(r:List Int)(m:Int),Zaf m r<=m/\∀ v∈r,Zaf m r<=v
 |[],m=>⟨xr _,λv hv=>by simp at hv⟩
 |x::r,m=>by
  obtain⟨a,b⟩:=yat r (if x<m then x else m);simp only[Zaf];refine⟨by split at a <;> rename_i hc <;> simp only[hc,if_true,if_false] <;> lia,λv hv=>?_⟩
  rcases Ua.mp hv with rfl|hv
  ·split at a <;> rename_i hc <;> simp only[hc,if_true,if_false] <;> lia
  ·exact b v hv
theorem Qaz:∀(r:List Int)(m:Int),Zaf m r=m\/Zaf m r∈r
 |[],m=>.inl rfl
 |x::r,m=>by
  simp only[Zaf]
  rcases Qaz r (if x<m then x else m) with e|e
  ·rw[e];split
   ·exact .inr (by simp)
   ·exact .inl rfl
  ·exact .inr (by simp[e])
theorem Zaw:∀(r:List Int)(m:Int),m<=YX m r/\∀ v∈r,v<=YX m r
 |[],m=>⟨xr _,λv hv=>by simp at hv⟩
 |x::r,m=>by
  obtain⟨a,b⟩:=Zaw r (if x>m then x else m);simp only[YX];refine⟨by split at a <;> rename_i hc <;> simp only[hc,if_true,if_false] <;> lia,λv hv=>?_⟩
  rcases Ua.mp hv with rfl|hv
  ·split at a <;> rename_i hc <;> simp only[hc,if_true,if_false] <;> lia
  ·exact b v hv
theorem ZaB:∀(r:List Int)(m:Int),YX m r=m\/YX m r∈r
 |[],m=>.inl rfl
 |x::r,m=>by
  simp only[YX]
  rcases ZaB r (if x>m then x else m) with e|e
  ·rw[e];split
   ·exact .inr (by simp)
   ·exact .inl rfl
  ·exact .inr (by simp[e])
theorem qaz{r:List Int}(h:r≠[]):Zbj r∈r:=by
 cases r with
 |nil=>exact absurd rfl h
 |cons x r=>rcases Qaz r x with e|e <;> simp[Zbj,e]
theorem ZaA{r:List Int}(h:r≠[]):Qbo r∈r:=by
 cases r with
 |nil=>exact absurd rfl h
 |cons x r=>rcases ZaB r x with e|e <;> simp[Qbo,e]
theorem YbQ{r:List Int}{v:Int}(h:v∈r):Zbj r<=v:=by
 cases r with
 |nil=>simp at h
 |cons x r =>
  rcases Ua.mp h with rfl|h
  ·exact(yat r v).1
  ·exact(yat r x).2 v h
theorem zbJ{r:List Int}{v:Int}(h:v∈r):v<=Qbo r:=by
 cases r with
 |nil=>simp at h
 |cons x r =>
  rcases Ua.mp h with rfl|h
  ·exact(Zaw r v).1
  ·exact(Zaw r x).2 v h
theorem zaD(fz:Bool)(h:MH)(v:MV)(ns:List Int)(e:(Zc h v).bind Qd=some ns)(ne:ns≠[]):qs fz "min" [v] h=.ok (I (Zbj ns)) h:=by
 cases ns with
 |nil=>exact absurd rfl ne
 |cons x r=>show opt ((Zc h v).bind Qd) _=_;rw[e];rfl
theorem Y8(fz:Bool)(h:MH)(v:MV)(ns:List Int)(e:(Zc h v).bind Qd=some ns)(ne:ns≠[]):qs fz "max" [v] h=.ok (I (Qbo ns)) h:=by
 cases ns with
 |nil=>exact absurd rfl ne
 |cons x r=>show opt ((Zc h v).bind Qd) _=_;rw[e];rfl
theorem Zj(h t:MH)(xs:List MV):Ya (h++.lst xs::t) h.length=some xs:=by simp[Ya]
theorem yM{h t:MH}{a:Nat}{xs:List MV}(e:Ya h a=some xs):Ya (h++t) a=some xs:=by
 unfold Ya at *;cases q:h[a]? with
 |none=>rw[q] at e;cases e
 |some c=>rw[xb (ua.mp q).1,q];rw[q] at e;exact e
theorem qU(h t:MH)(xs ys:List MV):Zb (h++.lst xs::t) h.length ys=h++.lst ys::t:=by simp[Zb]
theorem ybw(h:MH)(n:Nat):∀ xs:List FV,(xs.map MV.f).mapM (Yn h (n+1))=some xs
 |[]=>rfl
 |x::r=>by simp[Vw,ybw h n r,Yn]
theorem yaN(h:MH)(n:Nat):∀ xs:List FV,(xs.map MV.f).flatMap (Zv h (n+1))=[]
 |[]=>rfl
 |x::r=>by simp[Zv]
theorem Ybz(h t:MH)(as:List Nat)(ha:∀ a∈as,h.length<=a):∃ t',kill as (h++t)=h++t':=by
 refine⟨(t.mapIdx λi c=>if i+h.length∈as then .dead else c),?_⟩;unfold kill;rw[List.mapIdx_append]
 congr 1
 ·refine Wm λi=>?_;rw[wr];cases q:h[i]? with
  |none=>rfl
  |some c =>
   have hi:=(ua.mp q).1;have:i∉as:=λz=>by have:=ha i z;lia
   simp[this]
theorem YaC(h:MH)(a:Nat)(xs:List FV)(e:Ya h a=some (xs.map .f)):YR (.ref a) h=.ok (.f (.lst xs)) (kill [a] h):=by
 simp only[YR,YM,Yn,e,xk,ybw,vn,qe,Zv,xA,yaN]
@[simp] theorem frz_f(h:MH)(x:FV):YR (.f x) h=.ok (.f x) h:=by
 have:kill [] h=h:=by unfold kill;refine Wm λi=>?_;rw[wr];cases h[i]? <;> rfl
 simp[YR,YM,Yn,Zv,this]
set_option tactic.hygienic true in
@[simp] theorem qaU(k:String->MH->RS)(c:String)(h:MH):RS.caught k (.exc c h)=k c h:=id rfl
set_option tactic.hygienic true in
@[simp] theorem YbU(k:String->MH->RS)(σ:MSt)(h:MH):RS.caught k (.next σ h)=.next σ h:=id rfl
set_option tactic.hygienic true in
@[simp] theorem Qb2(k:String->MH->RS)(v:MV)(h:MH):RS.caught k (.ret v h)=.ret v h:=id rfl
theorem TrOk.refl(h:MH):TrOk h h:=⟨wb _,λi c _ e=>.inl e⟩
theorem TrOk.app(h t:MH):TrOk h (h++t):=⟨by simp,λi c hi e=>.inl (by rw[xb hi] at e;exact e)⟩
theorem TrOk.cons{c c':Cell}{h h':MH}(t:TrOk h h')(e:c'=c\/FlatC c'):TrOk (c::h) (c'::h'):=by
 refine⟨by have:=t.1;simp;lia,λi d hi q=>?_⟩;cases i with
 |zero =>
  simp at q;subst q;rcases e with e|e
  ·left;simp[e]
  ·exact .inr e
 |succ i=>simp at q hi ⊢;exact t.2 i d hi q
@[simp] theorem Zcc(h:MH)(x:FV):zq h (.f x) h=.ok (.f x) h:=by simp[zq,TrOk.refl]
@[simp] theorem Zan(h t:MH)(x:FV):zq h (.f x) (h++t)=.ok (.f x) h:=by simp[zq,TrOk.app]
@[simp] theorem leave_at(h:MH)(k k':Int)(x:FV):zq (.lst [I k]::h) (.f x) (.lst [I k']::h)=.ok (.f x) (.lst [I k']::h):=by
 simp[zq,TrOk.cons (TrOk.refl h) (.inr ⟨[.int k'],rfl⟩:Cell.lst [I k']=Cell.lst [I k]\/FlatC (.lst [I k']))]
@[simp] theorem YbK(h t:MH)(k k':Int)(x:FV):zq (.lst [I k]::h) (.f x) (.lst [I k']::(h++t))=.ok (.f x) (.lst [I k']::h):=by
 simp[zq,TrOk.cons (TrOk.app h t) (.inr ⟨[.int k'],rfl⟩:Cell.lst [I k']=Cell.lst [I k]\/FlatC (.lst [I k']))]
@[simp] theorem qbU(h:MH)(c:String):yH h c h=.exc c h:=by simp[yH,TrOk.refl]
@[simp] theorem zcf(h t:MH)(c:String):yH h c (h++t)=.exc c h:=by simp[yH,TrOk.app]
@[simp] theorem QbS(h:MH)(σ:MSt)(h':MH):Yf h (.next σ h')=zq h (.f .non) h':=id rfl
@[simp] theorem qb2(h:MH)(v:MV)(h':MH):Yf h (.ret v h')=zq h v h':=id rfl
@[simp] theorem ybZ(h:MH)(c:String)(h':MH):Yf h (.exc c h')=yH h c h':=id rfl
@[simp] theorem QaI(h:MH):GuardOk [] h:=λp hp=>by simp at hp
@[simp] theorem qch(h:MH)(x:FV):qd h (.f x)=[]:=rfl
@[simp] theorem QbT(h:MH)(x:List MV):qd h (.tup x)=[]:=rfl
theorem yak(bd:MV->MSt->MH->RS)(x:MV)(r:List MV)(σ:MSt)(h:MH):QG [] bd (x::r) σ h=(bd x σ h).turn λσ1 h1=>QG [] bd r σ1 h1:=by simp[QG]
@[simp] theorem Qav(h:MH)(v:MV):itV "seq" [v] h=(Zc h v).map λxs=>(xs,qd h v):=rfl
theorem Zk(h:MH)(n:Int)(c:-(2^62)<=n/\n<2^62):itV "range" [.f (.int n)] h=some ((xa n.toNat).map λ(k:Nat)=>I k,[]):=if_pos c
theorem zab(h:MH)(a b:Int)(c:-(2^62)<=a/\a<2^62/\-(2^62)<=b/\b<2^62):itV "range" [.f (.int a),.f (.int b)] h=some ((xa (b-a).toNat).map λ(k:Nat)=>I (a+k),[]):=if_pos c
theorem zb4(h:MH)(u:MV):itV "range" [u] h=(yb u).bind λn=>if -(2^62)<=n/\n<2^62 then some ((xa n.toNat).map λ(k:Nat)=>.f (.int k),[]) else none:=rfl
theorem qb5(h:MH)(u v:MV):itV "range" [u,v] h=(yb u).bind λa=>(yb v).bind λb=>if -(2^62)<=a/\a<2^62/\-(2^62)<=b/\b<2^62 then some ((xa (b-a).toNat).map λ(k:Nat)=>.f (.int (a+k)),[]) else none:=rfl
theorem yb9(h:MH)(u v w:MV):itV "range" [u,v,w] h=(yb u).bind λa=>(yb v).bind λb=>(yb w).bind λs=>if -(2^30)<=a/\a<2^30/\-(2^30)<=b/\b<2^30/\0<s/\s<2^30 then some ((xa (rlen a b s)).map λ(k:Nat)=>.f (.int (a+k*s)),[]) else none:=rfl
theorem Ycl(h:MH)(s:Str):itV "signs" [.f (.str s)] h=some (s.cps.toList.map λc=>.f (.str ⟨#[c]⟩),[]):=rfl
@[simp] theorem YaW(h:MH)(u v:MV):itV "zip" [u,v] h=(Zc h u).bind λxs=>(Zc h v).map λys=>((xs.zip ys).map λp=>yi [p.1,p.2],qd h u++qd h v):=rfl
@[simp] theorem itV_enum(h:MH)(v:MV):itV "enumerate" [v] h=(Zc h v).map λxs=>(xs.mapIdx λk x=>yi [.f (.int k),x],qd h v):=rfl
@[simp] theorem qbX(n:Nat):(((n:Int)+1=0)=False):=eq_false (by lia)
@[simp] theorem ZbV(n:Nat):(((n:Int)+1==0)=false):=beq_false_of_ne (by lia)
theorem Zh{α:Type}{bd:MV->MSt->MH->R (Option MV×MSt)}{h:MH}{e g:α->MV}{caps:MSt}:∀(ys:List α)(acc:List MV)(z:Option MV),acc.length+ys.length<=sizeL ->
  (∀ y∈ys,∀ z,∃ z',bd (e y) (z::caps) h=.ok (some (g y),z'::caps) h)->qh [] bd (ys.map e) acc (z::caps) h=.ok (acc++ys.map g) h
 |[],acc,z,_,_=>by simp[qh]
 |y::r,acc,z,hl,hb=>by
  obtain⟨z',e'⟩:=hb y (by simp) z;simp only[Ue] at hl;have:=Zh (bd:=bd) (h:=h) (e:=e) (g:=g) (caps:=caps) r (acc++[g y]) z' (by simp;lia) (λy hy z=>hb y (by simp[hy]) z);simp[qh,e',this]
  lia
theorem YU{α:Type}{bd:MV->MSt->MH->R (Option MV×MSt)}{h:MH}{e g:α->MV}{caps:MSt}:∀(ys:List α)(acc:List MV)(z w:Option MV),acc.length+ys.length<=sizeL ->
  (∀ y∈ys,∀ z w,∃ z' w',bd (e y) (z::w::caps) h=.ok (some (g y),z'::w'::caps) h)->qh [] bd (ys.map e) acc (z::w::caps) h=.ok (acc++ys.map g) h
 |[],acc,z,w,_,_=>by simp[qh]
 |y::r,acc,z,w,hl,hb=>by
  obtain⟨z',w',e'⟩:=hb y (by simp) z w;simp only[Ue] at hl;have:=YU (bd:=bd) (h:=h) (e:=e) (g:=g) (caps:=caps) r (acc++[g y]) z' w' (by simp;lia) (λy hy z=>hb y (by simp[hy]) z);simp[qh,e',this]
  lia
theorem qam{α β:Type}{bd:MV->MSt->MH->RS}{e:α->MV}{st:β->MSt}{hp:β->MH}{f:β->α->β}:∀(ys:List α)(b:β),
  (∀ y∈ys,∀ b,bd (e y) (st b) (hp b)=.next (st (f b y)) (hp (f b y)))->QG [] bd (ys.map e) (st b) (hp b)=.next (st (ys.foldl f b)) (hp (ys.foldl f b))
 |[],b,_=>by simp[QG]
 |y::r,b,hb=>by
  simp only[Wd,yak,hb y (by simp) b,RS.turn_next,wB];exact qam r (f b y) λy hy b=>hb y (by simp[hy]) b
theorem Q1{α:Type}{bd:MV->MSt->MH->RS}{e:α->MV}(Pv:Nat->MSt->MH->Prop):∀(ys:List α)(i:Nat)(σ:MSt)(h:MH),Pv i σ h ->
  (∀ j y σ h,ys[j]?=some y->Pv (i+j) σ h->∃ σ' h',bd (e y) σ h=.next σ' h'/\Pv (i+j+1) σ' h')->∃ σ' h',QG [] bd (ys.map e) σ h=.next σ' h'/\Pv (i+ys.length) σ' h'
 |[],i,σ,h,p,_=>⟨σ,h,by simp[QG],p⟩
 |y::r,i,σ,h,p,hb=>by
  obtain⟨σ1,h1,e1,p1⟩:=hb 0 y σ h rfl p;obtain⟨σ2,h2,e2,p2⟩:=Q1 (bd:=bd) (e:=e) Pv r (i+1) σ1 h1 p1 (λj y σ h hj pj=>by
   have:=hb (j+1) y σ h (by simpa using hj) (by rw[show i+(j+1)=i+1+j by lia];exact pj)
   rwa [show i+(j+1)+1=i+1+j+1 by lia] at this)
  refine⟨σ2,h2,by simp[yak,e1,e2],?_⟩
  rwa [show i+(y::r).length=i+1+r.length by simp;lia]
end MP
end
section
namespace SD
open PySem PySem.Spec PyProof.Rows L2 L3 M3 MP
structure Tx where
 adr:String->Addr
 K:PySem.W.Frag
 cd:Addr:=0
 tb:Addr:=0
 lp:Pos:=⟨0,0,0,0⟩
 lq:Str:=Str.ofString ""
instance:CoeFun Tx (λ_=>String->Addr):=⟨Tx.adr⟩
noncomputable def ScrK(K:PySem.W.Frag)(a:Addr)(ns:List Int):Prop:=∃(o:Obj)(its:Array Value)(n:Nat),K.lookup a=some o/\o.cls=.type "list"/\o.dict=none/\o.data=.seq its n/\its.size<=sizeLine/\Vals (ns.map V.int) its.toList
noncomputable def Liv(μ:List Addr)(h:MH)(b:Addr):Prop:=∃(i:Nat)(c:Cell),μ[i]?=some b/\h[i]?=some c/\c≠Cell.dead
section
variable (ct:Tx)
mutual
noncomputable def RF(L:Addr->Prop)(H:Hp):FV->V->Prop
 |.non,v=>v=.non
 |.bl b,v=>v=.bl b
 |.int i,v=>v=.int i
 |.str x,v=>v=.str x
 |.tup xs,v=>∃ a vs,v=.ref a/\¬ L a/\H a=some (.tup vs)/\RFs L H xs vs
 |.lst xs,v=>∃ a vs,v=.ref a/\¬ L a/\Rd H a (.lst vs)/\RFs L H xs vs
 |.obj c ns xs,v=>∃ a dx fs,v=.ref a/\¬ L a/\H a=some (.ins (ct c) dx fs)/\fs.map Vq=ns.map Str.ofString/\RFs L H xs (fs.map Ul)
 |.tab kvs,v=>∃ a o,v=.ref a/\¬ L a/\H a=some (.frz o (.dT (kvs.map λkv=>([(Sum.inl kv.1.1:Key),Sum.inl kv.1.2],V.int kv.2))))
 |.msk ks,v=>∃ a o,v=.ref a/\¬ L a/\H a=some (.frz o (.dT (ks.map λk=>([(Sum.inl k.1:Key),Sum.inl k.2],V.bl true))))
 |.scr ns,v=>∃ a,v=.ref a/\((¬ L a/\∃ o,H a=some (.frz o (.lst (ns.map V.int))))\/ScrK ct.K a ns)
noncomputable def RFs(L:Addr->Prop)(H:Hp):List FV->List V->Prop
 |[],vs=>vs=[]
 |x::xs,vs=>∃ v r,vs=v::r/\RF L H x v/\RFs L H xs r
end
mutual
noncomputable def RV(μ:List Addr)(L:Addr->Prop)(H:Hp):MV->V->Prop
 |.f x,v=>RF ct L H x v
 |.ref i,v=>∃ b,μ[i]?=some b/\v=.ref b
 |.tup xs,v=>∃ a vs,v=.ref a/\¬ L a/\H a=some (.tup vs)/\RVs μ L H xs vs
 |.exc c,v=>∃ a,v=.ref a/\¬ L a/\H a=some (.ext (Zbp (ct c) a))
noncomputable def RVs(μ:List Addr)(L:Addr->Prop)(H:Hp):List MV->List V->Prop
 |[],vs=>vs=[]
 |x::xs,vs=>∃ v r,vs=v::r/\RV μ L H x v/\RVs μ L H xs r
end
noncomputable def CellOk(μ:List Addr)(L:Addr->Prop)(H:Hp)(b:Addr):Cell->Prop
 |.lst xs=>∃ vs,H b=some (.lst vs)/\RVs ct μ L H xs vs
 |.obj c fs=>∃ dx gs,H b=some (.ins (ct c) dx gs)/\gs.map Vq=fs.map (λp=>Str.ofString p.1)/\RVs ct μ L H (fs.map Ul) (gs.map Ul)
 |.dic ks=>H b=some (.dK (ks.map λk=>((Sum.inl k:Key),V.bl true)))
 |.tab kvs=>H b=some (.dT (kvs.map λkv=>([(Sum.inl kv.1.1:Key),Sum.inl kv.1.2],V.int kv.2)))
 |.msk ks=>H b=some (.dT (ks.map λk=>([(Sum.inl k.1:Key),Sum.inl k.2],V.bl true)))
 |.code=>b=ct.tb/\(H b=some (.ext (tabF b ct.lp none))\/∃ c',c'≠b/\¬ L c'/\H b=some (.ext (tabF b ct.lp (some c')))/\H c'=some (.ext (codF c' ct.lq)))
 |.dead=>True
structure Rel (μ:List Addr) (h:MH) (H:Hp):Prop where
 len:μ.length=h.length
 nd:μ.Nodup
 has:∀ b∈μ,∃ o,H b=some o
 cells:∀(i:Nat)(b:Addr)(c:Cell),μ[i]?=some b->h[i]?=some c->CellOk ct μ (Liv μ h) H b c
end
structure Ext (μ:List Addr) (h:MH) (H:Hp) (μ':List Addr) (h':MH) (H':Hp):Prop where
 pre:∃ ν,μ'=μ++ν
 keep:∀ b o,H b=some o->¬ Liv μ h b->H' b=some o
 liv:∀ b,Liv μ' h' b->Liv μ h b\/H b=none
theorem Ext.refl(μ:List Addr)(h:MH)(H:Hp):Ext μ h H μ h H:=⟨⟨[],by simp⟩,λ_ _ e _=>e,λ_ l=>.inl l⟩
theorem Ext.trans{μ μ1 μ2:List Addr}{h h1 h2:MH}{H H1 H2:Hp}(a:Ext μ h H μ1 h1 H1)(b:Ext μ1 h1 H1 μ2 h2 H2):Ext μ h H μ2 h2 H2:=by
 obtain⟨ν,e⟩:=a.pre;obtain⟨ν',e'⟩:=b.pre;refine⟨⟨ν++ν',by rw[e',e,xq]⟩,λc o q n=>?_,λc l=>?_⟩
 ·refine b.keep c o (a.keep c o q n) λl=>?_
  rcases a.liv c l with z|z
  ·exact n z
  ·rw[q] at z;cases z
 ·rcases b.liv c l with z|z
  ·exact a.liv c z
  ·by_cases n:Liv μ h c
   ·exact .inl n
   ·cases q:H c with
    |none=>exact .inr rfl
    |some o=>rw[a.keep c o q n] at z;cases z
theorem Rd.keep{H H':Hp}{a:Addr}{u:HO}(k:∀ o,H a=some o->H' a=some o)(r:Rd H a u):Rd H' a u:=r.elim (λe=>.inl (k _ e)) λ⟨o,e⟩=>.inr ⟨o,k _ e⟩
theorem Rd.some{H:Hp}{a:Addr}{u:HO}(r:Rd H a u):∃ o,H a=some o:=r.elim (λe=>⟨_,e⟩) λ⟨_,e⟩=>⟨_,e⟩
section
variable {ct:Tx}
structure Let (L:Addr->Prop) (H:Hp) (L':Addr->Prop) (H':Hp):Prop where
 keep:∀ b o,H b=some o->¬ L b->H' b=some o
 liv:∀ b o,H b=some o->¬ L b->¬ L' b
theorem Ext.let{μ μ':List Addr}{h h':MH}{H H':Hp}(e:Ext μ h H μ' h' H'):Let (Liv μ h) H (Liv μ' h') H' :=
 ⟨e.keep,λb o q n l=>(e.liv b l).elim n λz=>by rw[q] at z;cases z⟩
mutual
theorem RF.to{L L':Addr->Prop}{H H':Hp}(l:Let L H L' H'):∀{x:FV}{v:V},RF ct L H x v->RF ct L' H' x v
 |.non,_,r=>by simpa only[RF] using r
 |.bl _,_,r=>by simpa only[RF] using r
 |.int _,_,r=>by simpa only[RF] using r
 |.str _,_,r=>by simpa only[RF] using r
 |.tup xs,v,r=>by
  simp only[RF] at r ⊢;obtain⟨a,vs,e,n,rd,q⟩:=r;exact⟨a,vs,e,l.liv a _ rd n,l.keep a _ rd n,RFs.to l q⟩
 |.lst xs,v,r=>by
  simp only[RF] at r ⊢;obtain⟨a,vs,e,n,rd,q⟩:=r;obtain⟨o,ho⟩:=Rd.some rd;exact⟨a,vs,e,l.liv a o ho n,Rd.keep (λo e=>l.keep a o e n) rd,RFs.to l q⟩
 |.obj c ns xs,v,r=>by
  simp only[RF] at r ⊢;obtain⟨a,dx,fs,e,n,ho,q1,q⟩:=r;exact⟨a,dx,fs,e,l.liv a _ ho n,l.keep a _ ho n,q1,RFs.to l q⟩
 |.tab kvs,v,r=>by
  simp only[RF] at r ⊢;obtain⟨a,o,e,n,q⟩:=r;exact⟨a,o,e,l.liv a _ q n,l.keep a _ q n⟩
 |.msk ks,v,r=>by
  simp only[RF] at r ⊢;obtain⟨a,o,e,n,q⟩:=r;exact⟨a,o,e,l.liv a _ q n,l.keep a _ q n⟩
 |.scr ns,v,r=>by
  simp only[RF] at r ⊢;obtain⟨a,e,q⟩:=r;exact⟨a,e,q.imp (λ⟨n,o,h⟩=>⟨l.liv a _ h n,o,l.keep a _ h n⟩) id⟩
theorem RFs.to{L L':Addr->Prop}{H H':Hp}(l:Let L H L' H'):∀{xs:List FV}{vs:List V},RFs ct L H xs vs->RFs ct L' H' xs vs
 |[],_,r=>by simpa only[RFs] using r
 |x::xs,vs,r=>by
  simp only[RFs] at r ⊢;obtain⟨v,t,e,q1,q2⟩:=r;exact⟨v,t,e,RF.to l q1,RFs.to l q2⟩
end
mutual
theorem RV.to{μ ν:List Addr}{L L':Addr->Prop}{H H':Hp}(l:Let L H L' H'):∀{x:MV}{v:V},RV ct μ L H x v->RV ct (μ++ν) L' H' x v
 |.f x,v,r=>by simp only[RV] at r ⊢;exact RF.to l r
 |.ref i,v,r=>by
  simp only[RV] at r ⊢;obtain⟨b,e,q⟩:=r;exact⟨b,by rw[xb (ua.mp e).1];exact e,q⟩
 |.tup xs,v,r=>by
  simp only[RV] at r ⊢;obtain⟨a,vs,e,n,rd,q⟩:=r;exact⟨a,vs,e,l.liv a _ rd n,l.keep a _ rd n,RVs.to l q⟩
 |.exc _,v,r=>by
  simp only[RV] at r ⊢;obtain⟨a,e,n,q⟩:=r;exact⟨a,e,l.liv a _ q n,l.keep a _ q n⟩
theorem RVs.to{μ ν:List Addr}{L L':Addr->Prop}{H H':Hp}(l:Let L H L' H'):∀{xs:List MV}{vs:List V},RVs ct μ L H xs vs->RVs ct (μ++ν) L' H' xs vs
 |[],_,r=>by simpa only[RVs] using r
 |x::xs,vs,r=>by
  simp only[RVs] at r ⊢;obtain⟨v,t,e,q1,q2⟩:=r;exact⟨v,t,e,RV.to l q1,RVs.to l q2⟩
end
theorem RV.ext{μ μ':List Addr}{h h':MH}{H H':Hp}{x:MV}{v:V}(e:Ext μ h H μ' h' H')(r:RV ct μ (Liv μ h) H x v):RV ct μ' (Liv μ' h') H' x v:=by
 obtain⟨ν,q⟩:=e.pre;subst q;exact RV.to e.let r
theorem RVs.ext{μ μ':List Addr}{h h':MH}{H H':Hp}{x:List MV}{v:List V}(e:Ext μ h H μ' h' H')(r:RVs ct μ (Liv μ h) H x v):RVs ct μ' (Liv μ' h') H' x v:=by
 obtain⟨ν,q⟩:=e.pre;subst q;exact RVs.to e.let r
theorem RVs.length{μ:List Addr}{L:Addr->Prop}{H:Hp}:∀{xs:List MV}{vs:List V},RVs ct μ L H xs vs->vs.length=xs.length
 |[],_,r=>by simp only[RVs] at r;simp[r]
 |x::xs,vs,r=>by
  simp only[RVs] at r;obtain⟨v,t,e,_,q⟩:=r;simp[e,RVs.length q]
theorem RVs.get{μ:List Addr}{L:Addr->Prop}{H:Hp}:∀{xs:List MV}{vs:List V}{i:Nat}{x:MV},RVs ct μ L H xs vs->xs[i]?=some x->∃ v,vs[i]?=some v/\RV ct μ L H x v
 |[],_,_,_,_,e=>by simp at e
 |x::xs,vs,0,y,r,e=>by
  simp only[RVs] at r;obtain⟨v,t,q,r1,_⟩:=r;simp at e;subst e;exact⟨v,by simp[q],r1⟩
 |x::xs,vs,i+1,y,r,e=>by
  simp only[RVs] at r;obtain⟨v,t,q,_,r2⟩:=r;obtain⟨u,h1,h2⟩:=RVs.get (i:=i) r2 (by simpa using e);exact⟨u,by simp[q,h1],h2⟩
theorem RVs.get'{μ:List Addr}{L:Addr->Prop}{H:Hp}{xs:List MV}{vs:List V}{i:Nat}{v:V}(r:RVs ct μ L H xs vs)(e:vs[i]?=some v):∃ x,xs[i]?=some x/\RV ct μ L H x v:=by
 have hl:=r.length;have hi:i<xs.length:=by rw[<- hl];exact(ua.mp e).1
 obtain⟨u,h1,h2⟩:=r.get (i:=i) (x:=xs[i]) (by simp[hi]);rw[e] at h1;cases h1;exact⟨_,by simp[hi],h2⟩
theorem RVs.cons{μ:List Addr}{L:Addr->Prop}{H:Hp}{x:MV}{v:V}{xs:List MV}{vs:List V}(a:RV ct μ L H x v)(b:RVs ct μ L H xs vs):RVs ct μ L H (x::xs) (v::vs):=by
 simp only[RVs];exact⟨v,vs,rfl,a,b⟩
theorem RVs.nil{μ:List Addr}{L:Addr->Prop}{H:Hp}:RVs ct μ L H [] []:=by simp only[RVs]
theorem RVs.append{μ:List Addr}{L:Addr->Prop}{H:Hp}:∀{xs ys:List MV}{vs ws:List V},RVs ct μ L H xs vs->RVs ct μ L H ys ws->RVs ct μ L H (xs++ys) (vs++ws)
 |[],_,_,_,r,s=>by simp only[RVs] at r;subst r;exact s
 |x::xs,ys,vs,ws,r,s=>by
  simp only[RVs] at r;obtain⟨v,t,rfl,r1,r2⟩:=r;exact RVs.cons r1 (RVs.append r2 s)
theorem RVs.take{μ:List Addr}{L:Addr->Prop}{H:Hp}:∀(n:Nat){xs:List MV}{vs:List V},RVs ct μ L H xs vs->RVs ct μ L H (xs.take n) (vs.take n)
 |0,_,_,_=>RVs.nil
 |n+1,[],_,r=>by simp only[RVs] at r;subst r;exact RVs.nil
 |n+1,x::xs,vs,r=>by
  simp only[RVs] at r;obtain⟨v,t,rfl,r1,r2⟩:=r;exact RVs.cons r1 (RVs.take n r2)
theorem RVs.drop{μ:List Addr}{L:Addr->Prop}{H:Hp}:∀(n:Nat){xs:List MV}{vs:List V},RVs ct μ L H xs vs->RVs ct μ L H (xs.drop n) (vs.drop n)
 |0,_,_,r=>r
 |n+1,[],_,r=>by simp only[RVs] at r;subst r;exact RVs.nil
 |n+1,x::xs,vs,r=>by
  simp only[RVs] at r;obtain⟨v,t,rfl,r1,r2⟩:=r;exact RVs.drop n r2
theorem RVs.set{μ:List Addr}{L:Addr->Prop}{H:Hp}{y:MV}{u:V}(q:RV ct μ L H y u):∀(n:Nat){xs:List MV}{vs:List V},RVs ct μ L H xs vs->RVs ct μ L H (xs.set n y) (vs.set n u)
 |_,[],_,r=>by simp only[RVs] at r;subst r;exact RVs.nil
 |0,x::xs,vs,r=>by
  simp only[RVs] at r;obtain⟨v,t,rfl,r1,r2⟩:=r;exact RVs.cons q r2
 |n+1,x::xs,vs,r=>by
  simp only[RVs] at r;obtain⟨v,t,rfl,r1,r2⟩:=r;exact RVs.cons r1 (RVs.set q n r2)
theorem RVs.ofF{μ:List Addr}{L:Addr->Prop}{H:Hp}:∀{xs:List FV}{vs:List V},RFs ct L H xs vs->RVs ct μ L H (xs.map MV.f) vs
 |[],_,r=>by simp only[RFs] at r;subst r;exact RVs.nil
 |x::xs,vs,r=>by
  simp only[RFs] at r;obtain⟨v,t,rfl,r1,r2⟩:=r;exact RVs.cons (by simp only[RV];exact r1) (RVs.ofF r2)
theorem RVs.toF{μ:List Addr}{L:Addr->Prop}{H:Hp}:∀{xs:List MV}{ys:List FV}{vs:List V},qk xs=some ys->RVs ct μ L H xs vs->RFs ct L H ys vs
 |[],ys,vs,e,r=>by simp[qk] at e;subst e;simp only[RVs] at r;subst r;simp only[RFs]
 |.f x::xs,ys,vs,e,r=>by
  simp only[qk,ub] at e;obtain⟨zs,e1,rfl⟩:=e;simp only[RVs] at r;obtain⟨v,t,rfl,r1,r2⟩:=r;simp only[RFs];exact⟨v,t,rfl,by simpa only[RV] using r1,RVs.toF e1 r2⟩
 |.ref _::_,_,_,e,_=>by simp[qk] at e
 |.tup _::_,_,_,e,_=>by simp[qk] at e
 |.exc _::_,_,_,e,_=>by simp[qk] at e
end
section
variable {ct:Tx}
structure RelSt (ct:Tx) (μ:List Addr) (h:MH) (H:Hp) (σ:L2.St) (σs:MSt):Prop where
 len:σ.length=σs.length
 at_:∀(i:Nat)(m:MV),σs[i]?=some (some m)->∃ v,σ[i]?=some (some v)/\RV ct μ (Liv μ h) H m v
theorem RelSt.ext{μ μ':List Addr}{h h':MH}{H H':Hp}{σ:L2.St}{σs:MSt}(e:Ext μ h H μ' h' H')(r:RelSt ct μ h H σ σs):RelSt ct μ' h' H' σ σs :=
 ⟨r.len,λi m q=>let ⟨v,a,b⟩:=r.at_ i m q;⟨v,a,b.ext e⟩⟩
theorem RelSt.set{μ:List Addr}{h:MH}{H:Hp}{σ:L2.St}{σs:MSt}{m:MV}{v:V}(i:Nat)(r:RelSt ct μ h H σ σs)(q:RV ct μ (Liv μ h) H m v):RelSt ct μ h H (σ.set i (some v)) (σs.set i (some m)):=by
 refine⟨by simp[r.len],λj m' e=>?_⟩;by_cases hj:i=j
 ·subst hj;have hi:i<σs.length:=by
   have:=(ua.mp e).1;simpa using this
  rw[uf hi] at e;cases e;exact⟨v,by rw[uf (by rw[r.len];exact hi)],q⟩
 ·rw[Ve hj] at e;obtain⟨u,a,b⟩:=r.at_ j m' e;exact⟨u,by rw[Ve hj];exact a,b⟩
noncomputable def Po{α:Type}(ct:Tx)(E:XK)(r:R α)(μ:List Addr)(h:MH)(H:Hp)(k:α->List Addr->MH->Hp->Prop):Prop:=match r with
 |.ok x h'=>∀ μ' H',Ext μ h H μ' h' H'->Rel ct μ' h' H'->k x μ' h' H'
 |.exc c h'=>∀ μ' H',Ext μ h H μ' h' H'->Rel ct μ' h' H'->E (.ref (ct c)) none H'
 |.stuck=>False
section
variable {α β:Type} {E:XK} {μ μ1:List Addr} {h h1:MH} {H H1:Hp}
theorem Po.start{r:R α}{k:α->List Addr->MH->Hp->Prop}(e:Ext μ h H μ1 h1 H1)(p:Po ct E r μ h H k):Po ct E r μ1 h1 H1 k:=by
 cases r with
 |ok x h'=>exactλμ' H' e' r'=>p μ' H' (e.trans e') r'
 |exc c h'=>exactλμ' H' e' r'=>p μ' H' (e.trans e') r'
 |stuck=>exact p
theorem Po.bind{r:R α}{g:α->MH->R β}{k:β->List Addr->MH->Hp->Prop}(p:Po ct E (r.bind g) μ h H k):Po ct E r μ h H λx μ1 h1 H1=>Ext μ h H μ1 h1 H1/\Rel ct μ1 h1 H1/\Po ct E (g x h1) μ1 h1 H1 k:=by
 cases r with
 |ok x h'=>exactλμ' H' e' r'=>⟨e',r',Po.start (r:=g x h') e' p⟩
 |exc c h'=>exact p
 |stuck=>exact p
theorem Po.imp{r:R α}{k k':α->List Addr->MH->Hp->Prop}(p:Po ct E r μ h H k)(f:∀ x μ1 h1 H1,k x μ1 h1 H1->k' x μ1 h1 H1):Po ct E r μ h H k':=by
 cases r with
 |ok x h'=>exactλμ' H' e' r'=>f _ _ _ _ (p μ' H' e' r')
 |exc c h'=>exact p
 |stuck=>exact p
theorem Po.opt{o:Option α}{g:α->R β}{k:β->List Addr->MH->Hp->Prop}(p:Po ct E (opt o g) μ h H k):∃ x,o=some x/\Po ct E (g x) μ h H k:=by
 cases o with
 |none=>exact p.elim
 |some x=>exact⟨x,rfl,p⟩
theorem Po.now{x:α}{k:α->List Addr->MH->Hp->Prop}(rel:Rel ct μ h H)(p:Po ct E (.ok x h) μ h H k):k x μ h H:=p μ H (Ext.refl _ _ _) rel
theorem Po.now'{x:α}{h':MH}{k:α->List Addr->MH->Hp->Prop}(p:Po ct E (.ok x h') μ h H k){μ':List Addr}{H':Hp}(e:Ext μ h H μ' h' H')(rel:Rel ct μ' h' H'):k x μ' h' H':=p μ' H' e rel
end
noncomputable def kV(ct:Tx)(Q:VK):MV->List Addr->MH->Hp->Prop:=λm μ h H=>∀ v,RV ct μ (Liv μ h) H m v->Q v H
noncomputable def kVs(ct:Tx)(Q:List V->Hp->Prop):List MV->List Addr->MH->Hp->Prop:=λm μ h H=>∀ v,RVs ct μ (Liv μ h) H m v->Q v H
section
variable (ct) (Ra:L2.St->Prop) (E:XK)
noncomputable def lE(ev:MSt->MH->R MV):TE:=λσ H Q=>∃ μ h σs,Rel ct μ h H/\RelSt ct μ h H σ σs/\Ra σ/\Po ct E (ev σs h) μ h H (kV ct Q)
noncomputable def lT(ev:MSt->MH->R Bool):TT:=λσ H Q=>∃ μ h σs,Rel ct μ h H/\RelSt ct μ h H σ σs/\Ra σ/\Po ct E (ev σs h) μ h H λb _ _ H'=>Q b H'
noncomputable def lA(ev:MSt->MH->R (List MV)):TA:=λσ H Q=>∃ μ h σs,Rel ct μ h H/\RelSt ct μ h H σ σs/\Ra σ/\Po ct E (ev σs h) μ h H (kVs ct Q)
noncomputable def lO(ev:MSt->MH->R (Option Int)):TO:=λσ H Q=>∃ μ h σs,Rel ct μ h H/\RelSt ct μ h H σ σs/\Ra σ/\Po ct E (ev σs h) μ h H λb _ _ H'=>Q b H'
end
section
variable {Ra:L2.St->Prop} {E:XK} {μ:List Addr} {h:MH} {H:Hp} {σ:L2.St} {σs:MSt} {β:Type}
theorem lE.mk{ev:MSt->MH->R MV}{g:MV->MH->R β}{k:β->List Addr->MH->Hp->Prop}{Q:VK}(rel:Rel ct μ h H)(rst:RelSt ct μ h H σ σs)(ra:Ra σ)(p:Po ct E ((ev σs h).bind g) μ h H k)
  (f:∀ m v μ1 h1 H1,Ext μ h H μ1 h1 H1->Rel ct μ1 h1 H1->RelSt ct μ1 h1 H1 σ σs->RV ct μ1 (Liv μ1 h1) H1 m v->Po ct E (g m h1) μ1 h1 H1 k->Q v H1):lE ct Ra E ev σ H Q :=
 ⟨μ,h,σs,rel,rst,ra,(Po.bind p).imp λm μ1 h1 H1 ⟨e1,r1,p1⟩ v rv=>f m v μ1 h1 H1 e1 r1 (rst.ext e1) rv p1⟩
theorem lT.mk{ev:MSt->MH->R Bool}{g:Bool->MH->R β}{k:β->List Addr->MH->Hp->Prop}{Q:Bool->Hp->Prop}(rel:Rel ct μ h H)(rst:RelSt ct μ h H σ σs)(ra:Ra σ)(p:Po ct E ((ev σs h).bind g) μ h H k)
  (f:∀ m μ1 h1 H1,Ext μ h H μ1 h1 H1->Rel ct μ1 h1 H1->RelSt ct μ1 h1 H1 σ σs->Po ct E (g m h1) μ1 h1 H1 k->Q m H1):lT ct Ra E ev σ H Q :=
 ⟨μ,h,σs,rel,rst,ra,(Po.bind p).imp λm μ1 h1 H1 ⟨e1,r1,p1⟩=>f m μ1 h1 H1 e1 r1 (rst.ext e1) p1⟩
theorem lA.mk{ev:MSt->MH->R (List MV)}{g:List MV->MH->R β}{k:β->List Addr->MH->Hp->Prop}{Q:List V->Hp->Prop}(rel:Rel ct μ h H)(rst:RelSt ct μ h H σ σs)(ra:Ra σ)(p:Po ct E ((ev σs h).bind g) μ h H k)
  (f:∀ m v μ1 h1 H1,Ext μ h H μ1 h1 H1->Rel ct μ1 h1 H1->RelSt ct μ1 h1 H1 σ σs->RVs ct μ1 (Liv μ1 h1) H1 m v->Po ct E (g m h1) μ1 h1 H1 k->Q v H1):lA ct Ra E ev σ H Q :=
 ⟨μ,h,σs,rel,rst,ra,(Po.bind p).imp λm μ1 h1 H1 ⟨e1,r1,p1⟩ v rv=>f m v μ1 h1 H1 e1 r1 (rst.ext e1) rv p1⟩
theorem lO.mk{ev:MSt->MH->R (Option Int)}{g:Option Int->MH->R β}{k:β->List Addr->MH->Hp->Prop}{Q:Option Int->Hp->Prop}(rel:Rel ct μ h H)(rst:RelSt ct μ h H σ σs)(ra:Ra σ)(p:Po ct E ((ev σs h).bind g) μ h H k)
  (f:∀ m μ1 h1 H1,Ext μ h H μ1 h1 H1->Rel ct μ1 h1 H1->RelSt ct μ1 h1 H1 σ σs->Po ct E (g m h1) μ1 h1 H1 k->Q m H1):lO ct Ra E ev σ H Q :=
 ⟨μ,h,σs,rel,rst,ra,(Po.bind p).imp λm μ1 h1 H1 ⟨e1,r1,p1⟩=>f m μ1 h1 H1 e1 r1 (rst.ext e1) p1⟩
end
section
variable {μ:List Addr} {h:MH} {H:Hp}
theorem Liv.has(rel:Rel ct μ h H){b:Addr}(l:Liv μ h b):∃ o,H b=some o:=let ⟨i,_,e,_,_⟩:=l;rel.has b (uh e)
theorem Rel.fresh(rel:Rel ct μ h H){p:Addr}(hp:H p=none):p∉μ:=λz=>by obtain⟨o,e⟩:=rel.has p z;rw[hp] at e;cases e
theorem Ext.new(rel:Rel ct μ h H){p:Addr}(hp:H p=none)(o:HO):Ext μ h H μ h (upd H p o) :=
 ⟨⟨[],by simp⟩,λb u e _=>by rw[Yb (Yc e hp)];exact e,λb l=>.inl l⟩
theorem CellOk.to{μ ν:List Addr}{L L':Addr->Prop}{H H':Hp}{b:Addr}{c:Cell}(l:Let L H L' H')(kb:c≠.dead->H' b=H b)(r:CellOk ct μ L H b c):CellOk ct (μ++ν) L' H' b c:=by
 cases c with
 |lst xs =>
  obtain⟨vs,e,q⟩:=r;exact⟨vs,by rw[kb (λz=>nomatch z)];exact e,RVs.to l q⟩
 |obj c fs =>
  obtain⟨dx,gs,e,q1,q⟩:=r;exact⟨dx,gs,by rw[kb (λz=>nomatch z)];exact e,q1,RVs.to l q⟩
 |dic ks=>exact(kb (λz=>nomatch z)).trans r
 |tab ks=>exact(kb (λz=>nomatch z)).trans r
 |msk ks=>exact(kb (λz=>nomatch z)).trans r
 |code =>
  obtain⟨e,r⟩:=r;have kb:=kb (λz=>nomatch z);refine⟨e,r.elim (λr=>.inl (kb.trans r)) λ⟨c',n1,n2,r1,r2⟩=>.inr ⟨c',n1,l.liv _ _ r2 n2,kb.trans r1,l.keep _ _ r2 n2⟩⟩
 |dead=>trivial
theorem Rel.new(rel:Rel ct μ h H){p:Addr}(hp:H p=none)(o:HO):Rel ct μ h (upd H p o):=by
 refine⟨rel.len,rel.nd,λb hb=>?_,λi b c e1 e2=>?_⟩
 ·obtain⟨u,e⟩:=rel.has b hb;exact⟨u,by rw[Yb (Yc e hp)];exact e⟩
 ·have:=CellOk.to (ν:=[]) (Ext.new rel hp o).let (b:=b) (λ_=>by
   obtain⟨u,e⟩:=rel.has b (uh e1);exact Yb (Yc e hp)) (rel.cells i b c e1 e2)
  simpa using this
theorem Liv.app{μ:List Addr}{h:MH}(hl:μ.length=h.length){p b:Addr}{c:Cell}(l:Liv (μ++[p]) (h++[c]) b):Liv μ h b\/b=p:=by
 obtain⟨i,d,e1,e2,nd⟩:=l;by_cases hi:i<μ.length
 ·rw[xb hi] at e1;rw[xb (by lia)] at e2;exact .inl ⟨i,d,e1,e2,nd⟩
 ·rw[uc (by lia)] at e1;have:i-μ.length=0:=by
   have:=(ua.mp e1).1;simp at this;lia
  rw[this] at e1;simp at e1;exact .inr e1.symm
theorem Ext.cell(rel:Rel ct μ h H){p:Addr}(hp:H p=none)(c:Cell)(o:HO):Ext μ h H (μ++[p]) (h++[c]) (upd H p o) :=
 ⟨⟨[p],rfl⟩,λb u e _=>by rw[Yb (Yc e hp)];exact e,λb l=>(Liv.app rel.len l).imp id λe=>by rw[e];exact hp⟩
theorem Rel.cell(rel:Rel ct μ h H){p:Addr}(hp:H p=none){c:Cell}{o:HO}(q:CellOk ct (μ++[p]) (Liv (μ++[p]) (h++[c])) (upd H p o) p c):Rel ct (μ++[p]) (h++[c]) (upd H p o):=by
 have hn:=rel.fresh hp;refine⟨by simp[rel.len],?_,λb hb=>?_,λi b d e1 e2=>?_⟩
 ·rw[xz];exact⟨rel.nd,by simp,λa ha b hb e=>by simp at hb;subst hb;subst e;exact hn ha⟩
 ·rcases xg.mp hb with hb|hb
  ·obtain⟨u,e⟩:=rel.has b hb;exact⟨u,by rw[Yb (Yc e hp)];exact e⟩
  ·simp at hb;subst hb;exact⟨o,Qf⟩
 ·by_cases hi:i<μ.length
  ·rw[xb hi] at e1;rw[xb (by have:=rel.len;lia)] at e2;exact CellOk.to (Ext.cell rel hp c o).let (λ_=>by
    obtain⟨u,e⟩:=rel.has b (uh e1);exact Yb (Yc e hp)) (rel.cells i b d e1 e2)
  ·rw[uc (by lia)] at e1;rw[uc (by have:=rel.len;lia)] at e2;have:i-μ.length=0:=by
    have:=(ua.mp e1).1;simp at this;lia
   have h2:i-h.length=0:=by rw[<- rel.len];exact this
   rw[this] at e1;rw[h2] at e2;simp at e1 e2;subst e1;subst e2;exact q
theorem Liv.set{i:Nat}{c c':Cell}{b:Addr}(e:h[i]?=some c)(hc:c≠.dead)(l:Liv μ (h.set i c') b):Liv μ h b:=by
 obtain⟨j,d,e1,e2,nd⟩:=l;by_cases hj:i=j
 ·subst hj;exact⟨i,c,e1,e,hc⟩
 ·rw[Ve hj] at e2;exact⟨j,d,e1,e2,nd⟩
theorem Ext.set(rel:Rel ct μ h H){i:Nat}{b:Addr}{c:Cell}(e1:μ[i]?=some b)(e2:h[i]?=some c)(hc:c≠.dead)(c':Cell)(o:HO):Ext μ h H μ (h.set i c') (upd H b o) :=
 ⟨⟨[],by simp⟩,λd u e n=>by rw[Yb (λ(z:d=b)=>n (by rw[z];exact⟨i,c,e1,e2,hc⟩))];exact e,λd l=>.inl (Liv.set e2 hc l)⟩
theorem Rel.set(rel:Rel ct μ h H){i:Nat}{b:Addr}{c:Cell}(e1:μ[i]?=some b)(e2:h[i]?=some c)(hc:c≠.dead){c':Cell}{o:HO}(q:CellOk ct μ (Liv μ (h.set i c')) (upd H b o) b c'):Rel ct μ (h.set i c') (upd H b o):=by
 refine⟨by simp[rel.len],rel.nd,λd hd=>?_,λj d u q1 q2=>?_⟩
 ·by_cases hdb:d=b
  ·exact⟨o,by rw[hdb];exact Qf⟩
  ·obtain⟨u,e⟩:=rel.has d hd;exact⟨u,by rw[Yb hdb];exact e⟩
 ·by_cases hj:i=j
  ·subst hj;rw[e1] at q1;cases q1;rw[uf (ua.mp e2).1] at q2;cases q2;exact q
  ·rw[Ve hj] at q2;have ne:d≠b:=λz=>by
    subst z;exact hj ((Xz (ua.mp e1).1 rel.nd).mp (e1.trans q1.symm))
   have:=CellOk.to (ν:=[]) (Ext.set rel e1 e2 hc c' o).let (b:=d) (λ_=>Yb ne) (rel.cells j d u q1 q2);simpa using this
end
end
section
variable {ct:Tx}
section
variable {μ:List Addr} {h:MH} {H:Hp}
theorem qab{as:List Nat}{i:Nat}{c:Cell}(e:(kill as h)[i]?=some c):(i∈as/\c=.dead)\/(i∉as/\h[i]?=some c):=by
 unfold kill at e;rw[wr] at e;cases q:h[i]? with
 |none=>rw[q] at e;cases e
 |some d =>
  rw[q] at e;by_cases hi:i∈as
  ·simp[hi] at e;exact .inl ⟨hi,e.symm⟩
  ·simp[hi] at e;subst e;exact .inr ⟨hi,rfl⟩
theorem Liv.kill{as:List Nat}{b:Addr}(l:Liv μ (kill as h) b):Liv μ h b:=by
 obtain⟨i,c,e1,e2,nd⟩:=l
 rcases qab e2 with ⟨_,z⟩|⟨_,z⟩
 ·exact absurd z nd
 ·exact⟨i,c,e1,z,nd⟩
theorem Ext.kill(as:List Nat):Ext μ h H μ (kill as h) H:=⟨⟨[],by simp⟩,λ_ _ e _=>e,λb l=>.inl l.kill⟩
theorem Rel.kill(rel:Rel ct μ h H)(as:List Nat):Rel ct μ (kill as h) H:=by
 refine⟨by rw[rel.len];simp[MP.kill],rel.nd,rel.has,λi b c e1 e2=>?_⟩
 rcases qab e2 with ⟨_,z⟩|⟨_,z⟩
 ·subst z;trivial
 ·have:=CellOk.to (ν:=[]) (Ext.kill (H:=H) as).let (b:=b) (λ_=>rfl) (rel.cells i b c e1 z);simpa using this
theorem zD{i:Nat}{xs:List MV}(e:Ya h i=some xs):h[i]?=some (.lst xs):=by
 unfold Ya at e;split at e
 next q=>cases e;exact q
 next=>cases e
theorem Rel.lst(rel:Rel ct μ h H){i:Nat}{xs:List MV}(e:Ya h i=some xs):∃ b vs,μ[i]?=some b/\H b=some (.lst vs)/\RVs ct μ (Liv μ h) H xs vs:=by
 have e2:=zD e;have hi:i<μ.length:=by rw[rel.len];exact(ua.mp e2).1
 obtain⟨vs,q1,q2⟩:=rel.cells i μ[i] (.lst xs) (by simp[hi]) e2;exact⟨_,vs,by simp[hi],q1,q2⟩
theorem Ybs{as:List Nat}(rel:Rel ct μ h H){i:Nat}{b:Addr}(e:μ[i]?=some b)(hi:i∈as):¬ Liv μ (MP.kill as h) b:=λ⟨j,c,e1,e2,nd⟩=>by
 have:i=j:=(Xz (ua.mp e).1 rel.nd).mp (e.trans e1.symm);subst this
 rcases qab e2 with ⟨_,z⟩|⟨z,_⟩
 ·exact nd z
 ·exact z hi
theorem Zad{as:List Nat}{g:MV->Option FV}:∀{xs:List MV}{ys:List FV}{vs:List V},xs.mapM g=some ys->RVs ct μ (Liv μ h) H xs vs ->
  (∀ x∈xs,∀ y v,g x=some y->RV ct μ (Liv μ h) H x v->RF ct (Liv μ (MP.kill as h)) H y v)->RFs ct (Liv μ (MP.kill as h)) H ys vs
 |[],ys,vs,e,r,_=>by
  simp at e;subst e;simp only[RVs] at r;subst r;simp only[RFs]
 |x::xs,ys,vs,e,r,f=>by
  simp only[Vw,ur,Wb,xB,Option.some.injEq] at e;obtain⟨y,e1,zs,e2,rfl⟩:=e;simp only[RVs] at r;obtain⟨v,t,rfl,r1,r2⟩:=r;simp only[RFs];exact⟨v,t,rfl,f x (by simp) y v e1 r1,Zad e2 r2 λz hz=>f z (by simp[hz])⟩
theorem Zau(rel:Rel ct μ h H){as:List Nat}:∀(n:Nat)(m:MV)(x:FV)(v:V),(∀ a∈Zv h n m,a∈as)->Yn h n m=some x->RV ct μ (Liv μ h) H m v->RF ct (Liv μ (MP.kill as h)) H x v
 |0,m,x,v,_,e,_=>by simp[Yn] at e
 |n+1,.f y,x,v,_,e,r=>by
  simp[Yn] at e;subst e;simp only[RV] at r;exact RF.to (Ext.kill (H:=H) as).let r
 |n+1,.tup xs,x,v,hs,e,r=>by
  simp only[Yn,ub] at e;obtain⟨ys,e1,rfl⟩:=e;simp only[RV] at r;obtain⟨a,vs,rfl,na,rd,q⟩:=r;simp only[RF];refine⟨a,vs,rfl,λl=>na l.kill,rd,Zad e1 q λz hz y u ez ru=>Zau rel n z y u (λa ha=>hs a ?_) ez ru⟩;simp only[Zv,uA];exact⟨z,hz,ha⟩
 |n+1,.ref i,x,v,hs,e,r=>by
  simp only[Yn,Wb,ub] at e;obtain⟨xs,e0,ys,e1,rfl⟩:=e;simp only[RV] at r;obtain⟨b,eb,rfl⟩:=r;obtain⟨b',vs,eb',hb,q⟩:=rel.lst e0;rw[eb] at eb';cases eb';simp only[RF];refine⟨b,vs,rfl,Ybs rel eb (hs i (by simp[Zv])),.inl hb,Zad e1 q λz hz y u ez ru=>Zau rel n z y u (λa ha=>hs a ?_) ez ru⟩;simp only[Zv,e0,xA,Ua,uA];exact .inr ⟨z,hz,ha⟩
 |n+1,.exc _,x,v,_,e,_=>by simp[Yn] at e
theorem Ybi{E:XK}{m:MV}{v:V}{k:MV->List Addr->MH->Hp->Prop}(rel:Rel ct μ h H)(r:RV ct μ (Liv μ h) H m v)(p:Po ct E (YR m h) μ h H k) :
  ∃ x h',Ext μ h H μ h' H/\Rel ct μ h' H/\RV ct μ (Liv μ h') H (.f x) v/\k (.f x) μ h' H:=by
 unfold YR at p;obtain⟨x,e,p⟩:=p.opt;refine⟨x,_,Ext.kill _,rel.kill _,?_,p.now' (Ext.kill _) (rel.kill _)⟩;simp only[RV];exact Zau rel 5 m x v (λa ha=>ha) e r
end
mutual
noncomputable def Bel(n:Nat):MV->Prop
 |.ref i=>i<n
 |.tup xs=>Bels n xs
 |_=>True
noncomputable def Bels(n:Nat):List MV->Prop
 |[]=>True
 |x::xs=>Bel n x/\Bels n xs
end
mutual
theorem RV.bel{μ:List Addr}{L:Addr->Prop}{H:Hp}:∀{m:MV}{v:V},RV ct μ L H m v->Bel μ.length m
 |.f _,_,_=>by simp only[Bel]
 |.ref i,v,r=>by
  simp only[RV] at r;obtain⟨b,e,_⟩:=r;simp only[Bel];exact(ua.mp e).1
 |.tup xs,v,r=>by
  simp only[RV] at r;obtain⟨a,vs,_,_,_,q⟩:=r;simp only[Bel];exact RVs.bel q
 |.exc _,_,_=>by simp only[Bel]
theorem RVs.bel{μ:List Addr}{L:Addr->Prop}{H:Hp}:∀{xs:List MV}{vs:List V},RVs ct μ L H xs vs->Bels μ.length xs
 |[],_,_=>by simp only[Bels]
 |x::xs,vs,r=>by
  simp only[RVs] at r;obtain⟨v,t,_,r1,r2⟩:=r;simp only[Bels];exact⟨RV.bel r1,RVs.bel r2⟩
end
mutual
theorem RV.cut{μ ν:List Addr}{L L':Addr->Prop}{H:Hp}(l:∀ b,L' b->L b):∀{m:MV}{v:V},Bel μ.length m->RV ct (μ++ν) L H m v->RV ct μ L' H m v
 |.f x,v,_,r=>by simp only[RV] at r ⊢;exact RF.to ⟨λ_ _ e _=>e,λb _ _ n z=>n (l b z)⟩ r
 |.ref i,v,b,r=>by
  simp only[RV] at r ⊢;simp only[Bel] at b;obtain⟨c,e,q⟩:=r;rw[xb b] at e;exact⟨c,e,q⟩
 |.tup xs,v,b,r=>by
  simp only[RV] at r ⊢;simp only[Bel] at b;obtain⟨a,vs,e,n,rd,q⟩:=r;exact⟨a,vs,e,λz=>n (l a z),rd,RVs.cut l b q⟩
 |.exc _,v,_,r=>by
  simp only[RV] at r ⊢;obtain⟨a,e,n,q⟩:=r;exact⟨a,e,λz=>n (l a z),q⟩
theorem RVs.cut{μ ν:List Addr}{L L':Addr->Prop}{H:Hp}(l:∀ b,L' b->L b):∀{xs:List MV}{vs:List V},Bels μ.length xs->RVs ct (μ++ν) L H xs vs->RVs ct μ L' H xs vs
 |[],vs,_,r=>by simpa only[RVs] using r
 |x::xs,vs,b,r=>by
  simp only[RVs] at r ⊢;simp only[Bels] at b;obtain⟨v,t,e,r1,r2⟩:=r;exact⟨v,t,e,RV.cut l b.1 r1,RVs.cut l b.2 r2⟩
end
theorem Bels.flat(n:Nat):∀ ys:List FV,Bels n (ys.map MV.f)
 |[]=>by simp only[Vm,Bels]
 |y::ys=>by simp only[Wd,Bels,Bel];exact⟨trivial,Bels.flat n ys⟩
noncomputable def Zat(n:Nat):Cell->Prop
 |.lst xs=>Bels n xs
 |.obj _ fs=>Bels n (fs.map Ul)
 |.dic _=>True
 |.tab _=>True
 |.msk _=>True
 |.code=>True
 |.dead=>True
theorem CellOk.bel{μ:List Addr}{L:Addr->Prop}{H:Hp}{b:Addr}{c:Cell}(r:CellOk ct μ L H b c):Zat μ.length c:=by
 cases c with
 |lst xs=>obtain⟨vs,_,q⟩:=r;exact q.bel
 |obj c fs=>obtain⟨dx,gs,_,_,q⟩:=r;exact q.bel
 |dic ks=>trivial
 |tab ks=>trivial
 |msk ks=>trivial
 |code=>trivial
 |dead=>trivial
theorem FlatC.bel{n:Nat}{c:Cell}(r:FlatC c):Zat n c:=by
 cases c with
 |lst xs=>obtain⟨ys,rfl⟩:=r;exact Bels.flat n ys
 |obj c fs =>
  obtain⟨ys,rfl⟩:=r;show Bels n _;rw[vg];have:=Bels.flat n (ys.map Ul);rw[vg] at this;exact this
 |dic ks=>trivial
 |tab ks=>trivial
 |msk ks=>trivial
 |code=>trivial
 |dead=>trivial
theorem CellOk.cut{μ ν:List Addr}{L L':Addr->Prop}{H:Hp}{b:Addr}{c:Cell}(l:∀ b,L' b->L b)(k:Zat μ.length c)(r:CellOk ct (μ++ν) L H b c):CellOk ct μ L' H b c:=by
 cases c with
 |lst xs=>obtain⟨vs,e,q⟩:=r;exact⟨vs,e,RVs.cut l k q⟩
 |obj c fs=>obtain⟨dx,gs,e,q1,q⟩:=r;exact⟨dx,gs,e,q1,RVs.cut l k q⟩
 |dic ks=>exact r
 |tab ks=>exact r
 |msk ks=>exact r
 |code=>exact⟨r.1,r.2.imp id λ⟨c',n1,n2,r⟩=>⟨c',n1,λz=>n2 (l _ z),r⟩⟩
 |dead=>trivial
theorem za1:∀{xs:List MV}{ys:List FV},qk xs=some ys->xs=ys.map MV.f
 |[],ys,e=>by simp[qk] at e;subst e;rfl
 |.f x::xs,ys,e=>by
  simp only[qk,ub] at e;obtain⟨zs,e1,rfl⟩:=e;rw[za1 e1];rfl
 |.ref _::_,_,e=>by simp[qk] at e
 |.tup _::_,_,e=>by simp[qk] at e
 |.exc _::_,_,e=>by simp[qk] at e
section
variable {μ ν:List Addr} {h h':MH} {H H':Hp}
theorem Liv.cut(hl:μ.length=h.length){b:Addr}(l:Liv μ (h'.take h.length) b):Liv (μ++ν) h' b:=by
 obtain⟨i,c,e1,e2,nd⟩:=l;have hi:i<μ.length:=(ua.mp e1).1;rw[Xl (by lia)] at e2;exact⟨i,c,by rw[xb hi];exact e1,e2,nd⟩
theorem Ext.cut(hl:μ.length=h.length)(e:Ext μ h H (μ++ν) h' H'):Ext μ h H μ (h'.take h.length) H':=⟨⟨[],by simp⟩,e.keep,λb l=>e.liv b (Liv.cut hl l)⟩
theorem Rel.cut(rel:Rel ct μ h H)(t:TrOk h h')(rel':Rel ct (μ++ν) h' H'):Rel ct μ (h'.take h.length) H':=by
 refine⟨by rw[rel.len,Xm];have:=t.1;lia,(xz.mp rel'.nd).1,λb hb=>rel'.has b (Wf _ hb),λi b c e1 e2=>?_⟩;have hi:i<μ.length:=(ua.mp e1).1;have hi':i<h.length:=by rw[<- rel.len];exact hi
 rw[Xl hi'] at e2;refine CellOk.cut (λb l=>Liv.cut rel.len l) ?_ (rel'.cells i b c (by rw[xb hi];exact e1) e2)
 rcases t.2 i c hi' e2 with q|q
 ·exact(rel.cells i b c e1 q).bel
 ·exact FlatC.bel q
set_option tactic.hygienic true in
theorem yaA{E:XK}{m:MV}{v:V}{Q:VK}(rel:Rel ct μ h H)(e:Ext μ h H (μ++ν) h' H')(rel':Rel ct (μ++ν) h' H')(r:RV ct (μ++ν) (Liv (μ++ν) h') H' m v)(p:Po ct E (zq h m h') μ h H (kV ct Q)):Q v H':=by
 unfold zq at p;split at p
 next t =>
  cases m with
  |f x =>
   refine p μ H' (Ext.cut rel.len e) (rel.cut t rel') v ?_;exact RV.cut (λb l=>Liv.cut rel.len l) (by simp only[Bel]) r
  |ref a =>
   dsimp only at p;split at p
   next ha =>
    split at p
    next xs ex =>
     split at p
     next ys ey =>
      simp only[RV] at r;obtain⟨b,eb,rfl⟩:=r;obtain⟨b',vs,eb',hb,q⟩:=rel'.lst ex;rw[eb] at eb';cases eb';have rc:=rel.cut t rel';have ec:=Ext.cut rel.len e;have nb:b∉μ:=λz=>by
       obtain⟨j,hj,ej⟩:=Xw z;have:j=a:=(Xz (by simp;lia) rel'.nd).mp (by rw[xb hj,eb];simp[hj,ej]);have:=rel.len
       lia
      have lv:∀ d,Liv (μ++[b]) (h'.take h.length++[.lst xs]) d->Liv (μ++ν) h' d:=λd l=>by
       rcases Liv.app (by rw[rc.len]) l with l|l
       ·exact Liv.cut rel.len l
       ·subst l;exact⟨a,.lst xs,eb,zD ex,λz=>nomatch z⟩
      have fl:RFs ct (Liv (μ++ν) h') H' ys vs:=RVs.toF ey q;have xs':xs=ys.map MV.f:=za1 ey;refine p (μ++[b]) H' ⟨⟨[b],rfl⟩,e.keep,λd l=>e.liv d (lv d l)⟩ ?_ (.ref b) ?_
      ·refine⟨by simp[rc.len],?_,λd hd=>?_,λi d c e1 e2=>?_⟩
       ·rw[xz];exact⟨rc.nd,by simp,λx hx y hy z=>by simp at hy;subst hy;subst z;exact nb hx⟩
       ·rcases xg.mp hd with hd|hd
        ·exact rc.has d hd
        ·simp at hd;subst hd;exact⟨_,hb⟩
       ·by_cases hi:i<μ.length
        ·rw[xb hi] at e1;rw[xb (by rw[<- rc.len];exact hi)] at e2;have c0:=rc.cells i d c e1 e2;have hi':i<h.length:=by rw[<- rel.len];exact hi
         have e2':=e2;rw[Xl hi'] at e2';have c1:=rel'.cells i d c (by rw[xb hi];exact e1) e2';exact CellOk.to (ν:=[b]) (L:=Liv (μ++[b]) (h'.take h.length++[.lst xs])) ⟨λ_ _ e _=>e,λ_ _ _ n=>n⟩ (λ_=>rfl) (CellOk.cut lv c0.bel c1)
        ·rw[uc (by lia)] at e1;rw[uc (by rw[<- rc.len];lia)] at e2;have z:i-μ.length=0:=by
          have:=(ua.mp e1).1;simp at this;lia
         have z2:i-(h'.take h.length).length=0:=by rw[<- rc.len];exact z
         rw[z] at e1;rw[z2] at e2;simp at e1 e2;subst e1;subst e2;refine⟨vs,hb,?_⟩;rw[xs'];rw[xs'] at lv;exact RVs.ofF (RFs.to ⟨λ_ _ e _=>e,λd _ _ n l=>n (lv d l)⟩ fl)
      ·simp only[RV];exact⟨b,by rw[<- rel.len];simp,rfl⟩
     next=>exact p (μ++ν) H' e rel' v r
    next=>exact p (μ++ν) H' e rel' v r
   next=>exact p (μ++ν) H' e rel' v r
  |tup xs=>exact p (μ++ν) H' e rel' v r
  |exc c=>exact p (μ++ν) H' e rel' v r
 next=>exact p (μ++ν) H' e rel' v r
theorem za9{E:XK}{c:String}{k:MV->List Addr->MH->Hp->Prop}(rel:Rel ct μ h H)(e:Ext μ h H (μ++ν) h' H')(rel':Rel ct (μ++ν) h' H')(p:Po ct E (yH h c h') μ h H k):E (.ref (ct c)) none H':=by
 unfold yH at p;split at p
 next t=>exact p μ H' (Ext.cut rel.len e) (rel.cut t rel')
 next=>exact p (μ++ν) H' e rel'
end
end
section
variable {ct:Tx} {X:Cx} {E:XK}
section
variable {μ:List Addr} {h:MH} {L:Addr->Prop} {H:Hp} {m:MV} {v:V}
theorem Yd{i:Int}(e:yb m=some i):m=.f (.int i):=by
 unfold yb at e;split at e
 next=>cases e;rfl
 next=>cases e
theorem YZ{i:Bool}(e:yx m=some i):m=.f (.bl i):=by
 unfold yx at e;split at e
 next=>cases e;rfl
 next=>cases e
theorem Zg{i:Int}(r:RV ct μ L H (.f (.int i)) v):v=.int i:=by simpa only[RV,RF] using r
theorem Zaj{i:Bool}(r:RV ct μ L H (.f (.bl i)) v):v=.bl i:=by simpa only[RV,RF] using r
theorem Yk(i:Int):RV ct μ L H (.f (.int i)) (.int i):=by simp only[RV,RF]
theorem yB(i:Bool):RV ct μ L H (.f (.bl i)) (.bl i):=by simp only[RV,RF]
theorem Zbu(i:Str):RV ct μ L H (.f (.str i)) (.str i):=by simp only[RV,RF]
theorem qas:RV ct μ L H (.f .non) .non:=by simp only[RV,RF]
set_option tactic.hygienic true in
theorem Yh{xs:List MV}(rel:Rel ct μ h H)(e:MP.listOf h m=some xs)(r:RV ct μ (Liv μ h) H m v):∃ a vs,v=.ref a/\Rd H a (.lst vs)/\RVs ct μ (Liv μ h) H xs vs:=by
 unfold MP.listOf at e;split at e
 next ys =>
  cases e;simp only[RV,RF] at r;obtain⟨a,vs,e1,_,rd,q⟩:=r;exact⟨a,vs,e1,rd,RVs.ofF q⟩
 next i =>
  obtain⟨b,vs,e1,e2,q⟩:=rel.lst e;simp only[RV] at r;obtain⟨b',e3,rfl⟩:=r;rw[e1] at e3;cases e3;exact⟨b,vs,rfl,.inl e2,q⟩
 next=>cases e
set_option tactic.hygienic true in
theorem qp{xs:List MV}(e:qo m=some xs)(r:RV ct μ L H m v):∃ a vs,v=.ref a/\¬ L a/\H a=some (.tup vs)/\RVs ct μ L H xs vs:=by
 unfold qo at e;split at e
 next ys =>
  cases e;simp only[RV,RF] at r;obtain⟨a,vs,e1,n,rd,q⟩:=r;exact⟨a,vs,e1,n,rd,RVs.ofF q⟩
 next ys =>
  cases e;simp only[RV] at r;exact r
 next=>cases e
set_option tactic.hygienic true in
theorem Yr{xs:List MV}(e:Zc h m=some xs):qo m=some xs\/MP.listOf h m=some xs\/∃ ns,m=.f (.scr ns)/\xs=ns.map λi=>MV.f (.int i):=by
 unfold Zc at e;split at e
 next=>exact .inl e
 next=>exact .inr (.inl e)
 next ns=>cases e;exact .inr (.inr ⟨ns,rfl,rfl⟩)
 next=>exact .inl e
 next=>exact .inr (.inl e)
 next=>cases e
noncomputable def SqR(ct:Tx)(H:Hp)(b:Bool)(a:Addr)(vs:List V):Prop:=SqS ct.K H b a vs
theorem SqR.s{K:PySem.W.Frag}{b:Bool}{a:Addr}{vs:List V}(hK:K=ct.K)(q:SqR ct H b a vs):SqS K H b a vs:=by rw[hK];exact q
theorem ZC{L:Addr->Prop}:∀ ns:List Int,RVs ct μ L H (ns.map λi=>MV.f (.int i)) (ns.map V.int)
 |[]=>by simp only[Vm,RVs]
 |i::ns=>by
  simp only[Wd,RVs];exact⟨.int i,_,rfl,Yk i,ZC ns⟩
theorem Qaq{L:Addr->Prop}{a:Addr}{ns:List Int}(q:(¬ L a/\∃ o,H a=some (.frz o (.lst (ns.map V.int))))\/ScrK ct.K a ns):SqL ct.K H a (ns.map V.int):=q.elim (λ⟨_,o,e⟩=>.inl (.inr ⟨o,e⟩)) .inr
theorem Zw{xs:List MV}(rel:Rel ct μ h H)(e:Zc h m=some xs)(r:RV ct μ (Liv μ h) H m v):∃ b a vs,v=.ref a/\SqR ct H b a vs/\RVs ct μ (Liv μ h) H xs vs:=by
 rcases Yr e with e|e|⟨ns,rfl,rfl⟩
 ·obtain⟨a,vs,q1,_,q2,q3⟩:=qp e r;exact⟨true,a,vs,q1,SqT.of q2,q3⟩
 ·obtain⟨a,vs,q1,q2,q3⟩:=Yh rel e r;exact⟨false,a,vs,q1,.inl q2,q3⟩
 ·simp only[RV,RF] at r;obtain⟨a,rfl,q⟩:=r;exact⟨false,a,_,rfl,Qaq q,ZC ns⟩
theorem Yau(rel:Rel ct μ h H){p:Addr}(hp:H p=none):¬ Liv μ h p:=λl=>by obtain⟨o,e⟩:=Liv.has rel l;rw[hp] at e;cases e
theorem Qt{fz:Bool}{xs:List MV}{vs:List V}{Q:VK}(rel:Rel ct μ h H)(r:RVs ct μ (Liv μ h) H xs vs)(p:Po ct E (yk fz xs h) μ h H (kV ct Q)):∀ a,H a=none->Q (.ref a) (upd H a (.lst vs)):=by
 intro a ha;cases fz with
 |true =>
  obtain⟨ys,e,p⟩:=Po.opt (o:=qk xs) (g:=λys=>R.ok (MV.f (.lst ys)) h) p;refine p μ _ (Ext.new rel ha _) (rel.new ha _) _ ?_;simp only[RV,RF];exact⟨a,vs,rfl,Yau rel ha,.inl Qf,RFs.to (Ext.new rel ha _).let (RVs.toF e r)⟩
 |false =>
  refine p (μ++[a]) _ (Ext.cell rel ha _ _) (rel.cell ha ?_) _ ?_
  ·exact⟨vs,Qf,RVs.to (Ext.cell rel ha _ _).let r⟩
  ·simp only[RV];exact⟨a,by rw[<- rel.len];simp,rfl⟩
set_option tactic.hygienic true in
theorem qF{xs:List MV}{vs:List V}{a:Addr}(n:¬ L a)(rd:H a=some (.tup vs))(r:RVs ct μ L H xs vs):RV ct μ L H (yi xs) (.ref a):=by
 unfold yi;split
 next ys e =>
  simp only[RV,RF];exact⟨a,vs,rfl,n,rd,RVs.toF e r⟩
 next =>
  simp only[RV];exact⟨a,vs,rfl,n,rd,r⟩
theorem QO{xs:List MV}{vs:List V}{Q:VK}(rel:Rel ct μ h H)(r:RVs ct μ (Liv μ h) H xs vs)(p:Po ct E (.ok (yi xs) h) μ h H (kV ct Q)):∀ a,H a=none->Q (.ref a) (upd H a (.tup vs)):=by
 intro a ha;refine p μ _ (Ext.new rel ha _) (rel.new ha _) _ (qF (Yau rel ha) Qf ?_);have:=RVs.to (ν:=[]) (Ext.new rel ha (.tup vs)).let r;simpa using this
end
noncomputable def r2(ct:Tx)(E:XK)(g:MV->MV->MH->R MV):R2:=λx y H Q=>∃ μ h mx my,Rel ct μ h H/\RV ct μ (Liv μ h) H mx x/\RV ct μ (Liv μ h) H my y/\Po ct E (g mx my h) μ h H (kV ct Q)
theorem Zay{i:Int}(h:i.natAbs<MP.big):Builtin.Int.intBits i<=2^20:=by
 refine intBits_le_iff.mpr (Vb h ?_);exact Nat.pow_le_pow_right (by decide) (by decide)
theorem YbA:OpR X (binaryOp .Mult) (rI qP λi j=>.int (i*j)):=opI λi j _ _ _ _ _ hc q=>by
 refine mul_int q ?_
 rcases hc with c|c|⟨c,d⟩
 ·exact .of_left (intBits_le_64 (by lia) (by lia))
 ·exact .of_right (intBits_le_64 (by lia) (by lia))
 ·exact .of_bits (Zay c) (Zay d)
theorem Zbt:OpR X (binaryOp .FloorDiv) (rI Zbi λi j=>.int (i/j)):=opI λi j _ _ _ _ _ hc q=>by
 have h1:(0:Int)<j:=hc.1;refine floordiv_int (by lia) (by rw[wy i (by lia)];exact q) (.inl (PyProof.noPylong_of_log2 ?_));have:j.natAbs≠0:=by lia
 rcases hc.2 with c|c
 ·have:j.natAbs.log2<30:=(wH (by lia)).mpr (by lia)
  lia
 ·have:j.natAbs.log2<4096:=(wH (by lia)).mpr c
  lia
noncomputable def rCatR:R2:=λx y H Q=>∃ l b xs zs,x=.ref l/\y=.ref b/\Rd H l (.lst xs)/\Rd H b (.lst zs)/\xs.length+zs.length<=sizeLine/\∀ p,H p=none->Q (.ref p) (upd H p (.lst (xs++zs)))
theorem qbL:OpR X (binaryOp .Add) rCatR:=by
 intro pins s σ H x y v u Q I rx ry h;obtain⟨l,b,xs,zs,rfl,rfl,hH,hB,hz,q⟩:=h;cases rx;cases ry;obtain⟨z,its,n,r,e⟩:=hH.ok I.hok;obtain⟨z2,its2,n2,r2,e2⟩:=hB.ok I.hok;have hl:=r.length;have hl2:=r2.length;refine PySem.P.add_list e e2 ?_ (by rw[Va,Va];lia);have ea:its.toArray++its2.toArray=(its++its2).toArray:=by simp
 rw[ea];exact⟨.ref _,_,I.lnew (t':=s.toks) (r.append r2) (by rw[Xf];lia),rfl,q _ I.fresh⟩
end
theorem YA:MP.sizeL<=sizeLine:=by decide
section
variable {ct:Tx} {X:Cx} {E:XK}
noncomputable def mOp:BO->Operator
 |.add=>.Add | .sub=>.Sub | .mul=>.Mult | .fdiv=>.FloorDiv | .mod=>.Mod | .pow=>.Pow
theorem OpR.imp{f:Value->Value->Sem Value}{r r':R2}(o:OpR X f r)(k:∀ x y H Q,r' x y H Q->r x y H Q):OpR X f r':=λpins s σ H x y v u Q I rx ry q=>o pins s σ H x y v u Q I rx ry (k _ _ _ _ q)
theorem OpR.ors{f:Value->Value->Sem Value}{r r':R2}(o:OpR X f r)(o':OpR X f r'):OpR X f λx y H Q=>r x y H Q\/r' x y H Q:=λpins s σ H x y v u Q I rx ry q=>q.elim (o pins s σ H x y v u Q I rx ry) (o' pins s σ H x y v u Q I rx ry)
theorem YJ{fz:Bool}{op:BO}{x y:V}{H:Hp}{Q:VK}(q:r2 ct E (Yg fz op) x y H Q):(∃ i j k,x=.int i/\y=.int j/\YD op i j=some k/\Q (.int k) H) \/
  ∃ μ h mx my,yb mx=none/\Rel ct μ h H/\RV ct μ (Liv μ h) H mx x/\RV ct μ (Liv μ h) H my y/\Po ct E (Yg fz op mx my h) μ h H (kV ct Q):=by
 obtain⟨μ,h,mx,my,rel,rx,ry,p⟩:=q;cases ex:yb mx with
 |none=>exact .inr ⟨μ,h,mx,my,ex,rel,rx,ry,p⟩
 |some i =>
  have:=Yd ex;subst this;cases ey:yb my with
  |none =>
   unfold Yg at p;rw[ex,ey] at p;exact p.elim
  |some j =>
   have:=Yd ey;subst this;unfold Yg at p;rw[ex,ey] at p;obtain⟨k,e,p⟩:=Po.opt p;refine .inl ⟨i,j,k,Zg rx,Zg ry,e,?_⟩;exact p.now rel _ (Yk k)
theorem zcg(fz:Bool):OpR X (binaryOp .Sub) (r2 ct E (Yg fz .sub)):=OpR.imp zcb λx y H Q q=>by
 rcases YJ q with ⟨i,j,k,e1,e2,e3,q⟩|⟨μ,h,mx,my,ex,rel,rx,ry,p⟩
 ·cases e3;exact⟨i,j,e1,e2,q⟩
 ·exfalso;unfold Yg at p;rw[ex] at p;cases ey:yb my <;> rw[ey] at p <;> exact p.elim
theorem ybM(fz:Bool):OpR X (binaryOp .FloorDiv) (r2 ct E (Yg fz .fdiv)):=OpR.imp Zbt λx y H Q q=>by
 rcases YJ q with ⟨i,j,k,e1,e2,e3,q⟩|⟨μ,h,mx,my,ex,rel,rx,ry,p⟩
 ·simp only[YD] at e3;split at e3
  next c=>cases e3;exact⟨i,j,e1,e2,c,q⟩
  next=>cases e3
 ·exfalso;unfold Yg at p;rw[ex] at p;cases ey:yb my <;> rw[ey] at p <;> exact p.elim
theorem Zb1(fz:Bool):OpR X (binaryOp .Mod) (r2 ct E (Yg fz .mod)):=OpR.imp zb7 λx y H Q q=>by
 rcases YJ q with ⟨i,j,k,e1,e2,e3,q⟩|⟨μ,h,mx,my,ex,rel,rx,ry,p⟩
 ·simp only[YD] at e3;split at e3
  next c=>cases e3;exact⟨i,j,e1,e2,c,q⟩
  next=>cases e3
 ·exfalso;unfold Yg at p;rw[ex] at p;cases ey:yb my <;> rw[ey] at p <;> exact p.elim
theorem ZbX(fz:Bool):OpR X (binaryOp .Pow) (r2 ct E (Yg fz .pow)):=OpR.imp Qca λx y H Q q=>by
 rcases YJ q with ⟨i,j,k,e1,e2,e3,q⟩|⟨μ,h,mx,my,ex,rel,rx,ry,p⟩
 ·simp only[YD] at e3;split at e3
  next c=>cases e3;exact⟨i,j,e1,e2,⟨c.1,c.2.1,c.2.2⟩,q⟩
  next=>cases e3
 ·exfalso;unfold Yg at p;rw[ex] at p;cases ey:yb my <;> rw[ey] at p <;> exact p.elim
noncomputable def rRepR:R2:=λx y H Q=>∃ l k xs,x=.ref l/\y=.int k/\Rd H l (.lst xs)/\-(2^63)<=k/\k<2^63/\xs.length*k.toNat<=sizeLine/\∀ p,H p=none->Q (.ref p) (upd H p (.lst (Xa k.toNat xs).flatten))
theorem ybF:OpR X (binaryOp .Mult) rRepR:=by
 intro pins s σ H x y v u Q I rx ry h;obtain⟨l,k,xs,rfl,rfl,hH,h1,h2,hz,q⟩:=h;cases rx;obtain⟨t,rfl⟩:=ry;obtain⟨z,its,n,r,e⟩:=hH.ok I.hok;have hl:=r.length;have hlen:its.toArray.size*k.toNat<=sizeLine:=by rw[Va,<- hl];exact hz
 have hcap:¬ its.toArray.size*k.toNat>(2^63-1)/8:=by
  have:(sizeLine:Nat)<=(2^63-1)/8:=by decide
  lia
 have hfit:¬(!Builtin.List.listFitsIndex k)=true:=by
  rw[fitsIndex_both h1 h2];exact Ug
 have hlong:¬ Builtin.List.listTooLong (its.toArray.size*k.toNat)=true:=by
  rw[YaF hlen];exact Ug
 have hnew:wI (λx1 x2=>x1++x2) #[] (Xa (if its.toArray.isEmpty=true then 0 else k.toNat) its.toArray)=(Xa k.toNat its).flatten.toArray:=by
  have f0:∀ m:Nat,wI (λx1 x2=>x1++x2) #[] (Xa m its.toArray)=(Xa m its).flatten.toArray:=λm=>by
   have:=Zak its m [];rw[wg] at this;exact this
  rw[f0];cases its with
  |nil=>simp
  |cons a r'=>rw[if_neg (by simp)]
 refine wpAny_binaryOp_repeat_ref (T:="list") (U:="int") (by decide) ⟨_,e,rfl⟩ (λs'=>typeIs_int s' k t) noFill_list_mul F.fills_int_mul F.slot_int_rmul repeat_list F.slot_int_index.lookup
  (call_meets F.slot_int_rmul (typeIs_int s k t) F.entry_int_rmul (F.args_int_rmul_2 _ _) (int___rmul___int_list k t l its.toArray n)
   ⟨e,rfl,⟨_,e,rfl⟩,call_meets F.slot_list_mul ⟨_,e,rfl⟩ F.entry_list_mul (F.args_list_mul_2 _ _) (AutoListH.list___mul___list_int_3 l its.toArray n k t hfit hcap hlong) ⟨e,?_⟩⟩)
 rw[hnew];exact⟨.ref _,_,I.lnew (t':=s.toks) (r.rep k.toNat) (by rw[qbQ,WF];exact hz),rfl,q _ I.fresh⟩
theorem RVs.rep{μ:List Addr}{L:Addr->Prop}{H:Hp}{xs:List MV}{vs:List V}(r:RVs ct μ L H xs vs):∀ n:Nat,RVs ct μ L H (Xa n xs).flatten (Xa n vs).flatten
 |0=>by simpa using RVs.nil
 |n+1=>by simp only[Vj,Wq];exact r.append (RVs.rep r n)
theorem Ycc(fz:Bool):OpR X (binaryOp .Mult) (r2 ct E (Yg fz .mul)):=OpR.imp (OpR.ors YbA ybF) λx y H Q q=>by
 rcases YJ q with ⟨i,j,k,e1,e2,e3,q⟩|⟨μ,h,mx,my,ex,rel,rx,ry,p⟩
 ·simp only[YD] at e3;split at e3
  next c=>cases e3;exact .inl ⟨i,j,e1,e2,c,q⟩
  next=>cases e3
 ·unfold Yg at p;rw[ex] at p;cases ey:yb my with
  |none=>rw[ey] at p;exact p.elim
  |some j =>
   rw[ey] at p;have:=Yd ey;subst this;obtain⟨xs,e,p⟩:=Po.opt p;obtain⟨a,vs,rfl,rd,rs⟩:=Yh rel e rx;split at p
   next c =>
    have hl:=rs.length
    right
    refine⟨a,j,vs,rfl,Zg ry,rd,c.1,c.2.1,?_,Qt rel (rs.rep _) p⟩;rw[hl];exact Xe c.2.2 YA
   next=>exact p.elim
set_option tactic.hygienic true in
theorem Yb7(fz:Bool):OpR X (binaryOp .Add) (r2 ct E (Yg fz .add)):=OpR.imp (OpR.ors zb1 (OpR.ors zbP qbL)) λx y H Q q=>by
 rcases YJ q with ⟨i,j,k,e1,e2,e3,q⟩|⟨μ,h,mx,my,ex,rel,rx,ry,p⟩
 ·cases e3;exact .inl ⟨i,j,e1,e2,q⟩
 ·unfold Yg at p;rw[ex] at p;cases ey:yb my with
  |some j=>rw[ey] at p;exact p.elim
  |none =>
   rw[ey] at p;dsimp only at p
   right
   split at p
   next xs ys e1 e2 =>
    split at p
    next c =>
     obtain⟨a,vs,rfl,n1,rd1,r1⟩:=qp e1 rx;obtain⟨b,ws,rfl,n2,rd2,r2⟩:=qp e2 ry;have h1:=r1.length;have h2:=r2.length;refine .inl ⟨a,b,vs,ws,rfl,rfl,.inl (.inl rd1),.inl (.inl rd2),λz=>c.1 (wq (by rw[<- h1,z];rfl)),by rw[h1,h2];exact Xe c.2 YA,λz=>?_,λz=>QO rel (r1.append r2) p⟩;have:ys=[]:=wq (by rw[<- h2,z];rfl);subst this;rw[Xs] at p;exact p.now rel _ (qF n1 rd1 r1)
    next=>exact p.elim
   next =>
    obtain⟨xs,e1,p⟩:=Po.opt p;obtain⟨ys,e2,p⟩:=Po.opt p;split at p
    next c =>
     obtain⟨a,vs,rfl,rd1,r1⟩:=Yh rel e1 rx;obtain⟨b,ws,rfl,rd2,r2⟩:=Yh rel e2 ry;have h1:=r1.length;have h2:=r2.length;exact .inr ⟨a,b,vs,ws,rfl,rfl,rd1,rd2,by rw[h1,h2];exact Xe c YA,Qt rel (r1.append r2) p⟩
    next=>exact p.elim
theorem yb2(fz:Bool):∀ op:BO,OpR X (binaryOp (mOp op)) (r2 ct E (Yg fz op))
 |.add=>Yb7 fz | .sub=>zcg fz | .mul=>Ycc fz | .fdiv=>ybM fz | .mod=>Zb1 fz | .pow=>ZbX fz
end
mutual
noncomputable def toP:FV->PyData
 |.non=>.none
 |.bl b=>.bool b
 |.int i=>.int i
 |.str s=>.str s
 |.tup xs=>.tuple (Qn xs)
 |.lst xs=>.list (Qn xs)
 |.obj _ _ _=>.none
 |.scr _=>.none
 |.tab _=>.none
 |.msk _=>.none
noncomputable def Qn:List FV->List PyData
 |[]=>[]
 |x::xs=>toP x::Qn xs
end
theorem YaA:∀ xs:List FV,Qn xs=xs.map toP
 |[]=>by simp[Qn]
 |x::xs=>by simp[Qn,YaA xs]
section
variable {ct:Tx} {X:Cx} {E:XK}
theorem Z1{n:Nat}:∀ xs:List FV,(∀ x∈xs,(toP x).canLay0=true/\(toP x).depth<=n)->PyData.canLayAll0 (Qn xs)=true/\PyData.depthAll (Qn xs)<=n
 |[],_=>by simp[Qn,PyData.canLayAll0,PyData.depthAll]
 |x::xs,f=>by
  have h1:=f x (by simp);have h2:=Z1 xs λy hy=>f y (by simp[hy]);simp only[Qn,PyData.canLayAll0,PyData.depthAll,h1.1,h2.1,Bool.and_self,true_and];have a1:=h1.2;have a2:=h2.2
  lia
theorem zaa:∀(n:Nat)(x:FV),isD n x=true->(toP x).canLay0=true/\(toP x).depth<=n
 |0,x,e=>by cases x <;> simp[isD] at e
 |n+1,.non,_=>by simp[toP,PyData.canLay0,PyData.depth]
 |n+1,.bl _,_=>by simp[toP,PyData.canLay0,PyData.depth]
 |n+1,.int _,_=>by simp[toP,PyData.canLay0,PyData.depth]
 |n+1,.str s,e=>by
  have e':PyData.strOk s=true:=e;simp[toP,PyData.canLay0,PyData.depth,e']
 |n+1,.tup xs,e=>by
  have q:=Z1 (n:=n) xs λx hx=>zaa n x (by simp[isD] at e;exact e x hx);have q2:=q.2;simp only[toP,PyData.canLay0,PyData.depth,q.1,true_and]
  lia
 |n+1,.lst xs,e=>by
  have q:=Z1 (n:=n) xs λx hx=>zaa n x (by simp[isD] at e;exact e x hx);have q2:=q.2;simp only[toP,PyData.canLay0,PyData.depth,q.1,true_and]
  lia
 |n+1,.obj _ _ _,e=>by simp[isD] at e
 |n+1,.scr _,e=>by simp[isD] at e
 |n+1,.tab _,e=>by simp[isD] at e
 |n+1,.msk _,e=>by simp[isD] at e
theorem zJ{x:FV}(e:isD 8 x=true):SeqAt.shaped (toP x)=true:=by
 have:=zaa 8 x e;unfold SeqAt.shaped;rw[this.1,Wu];exact decide_eq_true (by have:=this.2;lia)
mutual
theorem qaq:∀(n:Nat)(x y:FV),isD n x=true->isD n y=true->PyData.eqv (toP x) (toP y)=eqD x y
 |0,x,_,e,_=>by cases x <;> simp[isD] at e
 |n+1,.tup xs,.tup ys,e,e'=>by
  simp only[toP,PyData.eqv,eqD];exact yau n xs ys (by simpa[isD] using e) (by simpa[isD] using e')
 |n+1,.lst xs,.lst ys,e,e'=>by
  simp only[toP,PyData.eqv,eqD];exact yau n xs ys (by simpa[isD] using e) (by simpa[isD] using e')
 |n+1,.non,y,e,e'=>by cases y <;> simp_all [isD,toP,PyData.eqv,eqD]
 |n+1,.bl _,y,e,e'=>by cases y <;> simp_all [isD,toP,PyData.eqv,eqD]
 |n+1,.int _,y,e,e'=>by cases y <;> simp_all [isD,toP,PyData.eqv,eqD]
 |n+1,.str _,y,e,e'=>by cases y <;> simp_all [isD,toP,PyData.eqv,eqD]
 |n+1,.tup _,.non,e,e'=>by simp[toP,PyData.eqv,eqD]
 |n+1,.tup _,.bl _,e,e'=>by simp[toP,PyData.eqv,eqD]
 |n+1,.tup _,.int _,e,e'=>by simp[toP,PyData.eqv,eqD]
 |n+1,.tup _,.str _,e,e'=>by simp[toP,PyData.eqv,eqD]
 |n+1,.tup _,.lst _,e,e'=>by simp[toP,PyData.eqv,eqD]
 |n+1,.tup _,.obj _ _ _,e,e'=>by simp[isD] at e'
 |n+1,.tup _,.scr _,e,e'=>by simp[isD] at e'
 |n+1,.tup _,.tab _,e,e'=>by simp[isD] at e'
 |n+1,.tup _,.msk _,e,e'=>by simp[isD] at e'
 |n+1,.lst _,.non,e,e'=>by simp[toP,PyData.eqv,eqD]
 |n+1,.lst _,.bl _,e,e'=>by simp[toP,PyData.eqv,eqD]
 |n+1,.lst _,.int _,e,e'=>by simp[toP,PyData.eqv,eqD]
 |n+1,.lst _,.str _,e,e'=>by simp[toP,PyData.eqv,eqD]
 |n+1,.lst _,.tup _,e,e'=>by simp[toP,PyData.eqv,eqD]
 |n+1,.lst _,.obj _ _ _,e,e'=>by simp[isD] at e'
 |n+1,.lst _,.scr _,e,e'=>by simp[isD] at e'
 |n+1,.lst _,.tab _,e,e'=>by simp[isD] at e'
 |n+1,.lst _,.msk _,e,e'=>by simp[isD] at e'
 |n+1,.obj _ _ _,_,e,_=>by simp[isD] at e
 |n+1,.scr _,_,e,_=>by simp[isD] at e
 |n+1,.tab _,_,e,_=>by simp[isD] at e
 |n+1,.msk _,_,e,_=>by simp[isD] at e
theorem yau:∀(n:Nat)(xs ys:List FV),(∀ x∈xs,isD n x=true)->(∀ y∈ys,isD n y=true)->PyData.eqvAll (Qn xs) (Qn ys)=QM xs ys
 |n,[],[],_,_=>by simp[Qn,PyData.eqvAll,QM]
 |n,[],_::_,_,_=>by simp[Qn,PyData.eqvAll,QM]
 |n,_::_,[],_,_=>by simp[Qn,PyData.eqvAll,QM]
 |n,x::xs,y::ys,e,e'=>by
  simp only[Qn,PyData.eqvAll,QM];rw[qaq n x y (e x (by simp)) (e' y (by simp)),yau n xs ys (λz hz=>e z (by simp[hz])) (λz hz=>e' z (by simp[hz]))]
end
mutual
theorem QA{P:Program}{w:World}{L:Addr->Prop}{H:Hp}{hp:Heap}(hok:HOk P w H hp):∀(n:Nat)(x:FV)(v:V)(u:Value),isD n x=true->RF ct L H x v->RelV v u->∃ as,Reads hp u (toP x) as
 |0,x,_,_,e,_,_=>by cases x <;> simp[isD] at e
 |n+1,.non,v,u,_,r,q=>by simp only[RF] at r;subst r;cases q;exact⟨_,.none⟩
 |n+1,.bl _,v,u,_,r,q=>by simp only[RF] at r;subst r;cases q;exact⟨_,.bool _⟩
 |n+1,.int _,v,u,_,r,q=>by simp only[RF] at r;subst r;obtain⟨t,rfl⟩:=q;exact⟨_,.int _ _⟩
 |n+1,.str _,v,u,_,r,q=>by simp only[RF] at r;subst r;obtain⟨t,rfl⟩:=q;exact⟨_,.str _ _⟩
 |n+1,.tup xs,v,u,e,r,q=>by
  simp only[RF] at r;obtain⟨a,vs,rfl,_,rd,rs⟩:=r;cases q;obtain⟨z,its,rv,o,e1,e2,k,e3⟩:=(Rd.of rd).ok hok;obtain⟨as,ra⟩:=Yq hok n xs vs its (by simpa[isD] using e) rs rv;exact⟨as,reads_tuple_at e1 e2 e3 ra⟩
 |n+1,.lst xs,v,u,e,r,q=>by
  simp only[RF] at r;obtain⟨a,vs,rfl,_,rd,rs⟩:=r;cases q;obtain⟨z,its,k,rv,e1⟩:=rd.ok hok;obtain⟨as,ra⟩:=Yq hok n xs vs its (by simpa[isD] using e) rs rv;exact⟨_,reads_list_at e1 rfl rfl ra⟩
 |n+1,.obj _ _ _,_,_,e,_,_=>by simp[isD] at e
 |n+1,.scr _,_,_,e,_,_=>by simp[isD] at e
 |n+1,.tab _,_,_,e,_,_=>by simp[isD] at e
 |n+1,.msk _,_,_,e,_,_=>by simp[isD] at e
theorem Yq{P:Program}{w:World}{L:Addr->Prop}{H:Hp}{hp:Heap}(hok:HOk P w H hp):∀(n:Nat)(xs:List FV)(vs:List V)(us:List Value),(∀ x∈xs,isD n x=true)->RFs ct L H xs vs->Vals vs us->∃ as,ReadsAll hp us (Qn xs) as
 |n,[],vs,us,_,r,q=>by simp only[RFs] at r;subst r;cases q;exact⟨[],by simpa only[Qn] using ReadsAll.nil⟩
 |n,x::xs,vs,us,e,r,q=>by
  simp only[RFs] at r;obtain⟨v,t,rfl,r1,r2⟩:=r;cases q with
  |cons q1 q2 =>
   obtain⟨as,h1⟩:=QA hok n x v _ (e x (by simp)) r1 q1;obtain⟨bs,h2⟩:=Yq hok n xs t _ (λz hz=>e z (by simp[hz])) r2 q2;exact⟨as++bs,by simp only[Qn];exact .cons h1 h2⟩
end
noncomputable abbrev noL:Addr->Prop:=λ_=>False
section
variable {μ:List Addr} {h:MH} {H:Hp}
theorem ZJ{g:MV->Option FV}:∀{xs:List MV}{ys:List FV}{vs:List V},xs.mapM g=some ys->RVs ct μ (Liv μ h) H xs vs ->
  (∀ x∈xs,∀ y v,g x=some y->RV ct μ (Liv μ h) H x v->RF ct noL H y v)->RFs ct noL H ys vs
 |[],ys,vs,e,r,_=>by
  simp at e;subst e;simp only[RVs] at r;subst r;simp only[RFs]
 |x::xs,ys,vs,e,r,f=>by
  simp only[Vw,ur,Wb,xB,Option.some.injEq] at e;obtain⟨y,e1,zs,e2,rfl⟩:=e;simp only[RVs] at r;obtain⟨v,t,rfl,r1,r2⟩:=r;simp only[RFs];exact⟨v,t,rfl,f x (by simp) y v e1 r1,ZJ e2 r2 λz hz=>f z (by simp[hz])⟩
theorem Ym(rel:Rel ct μ h H):∀(n:Nat)(m:MV)(x:FV)(v:V),Yn h n m=some x->RV ct μ (Liv μ h) H m v->RF ct noL H x v
 |0,m,x,v,e,_=>by simp[Yn] at e
 |n+1,.f y,x,v,e,r=>by
  simp[Yn] at e;subst e;simp only[RV] at r;exact RF.to ⟨λ_ _ e _=>e,λ_ _ _ _ z=>z⟩ r
 |n+1,.tup xs,x,v,e,r=>by
  simp only[Yn,ub] at e;obtain⟨ys,e1,rfl⟩:=e;simp only[RV] at r;obtain⟨a,vs,rfl,na,rd,q⟩:=r;simp only[RF];exact⟨a,vs,rfl,λz=>z,rd,ZJ e1 q λz hz y u ez ru=>Ym rel n z y u ez ru⟩
 |n+1,.ref i,x,v,e,r=>by
  simp only[Yn,Wb,ub] at e;obtain⟨xs,e0,ys,e1,rfl⟩:=e;simp only[RV] at r;obtain⟨b,eb,rfl⟩:=r;obtain⟨b',vs,eb',hb,q⟩:=rel.lst e0;rw[eb] at eb';cases eb';simp only[RF];exact⟨b,vs,rfl,λz=>z,.inl hb,ZJ e1 q λz hz y u ez ru=>Ym rel n z y u ez ru⟩
 |n+1,.exc _,x,v,e,_=>by simp[Yn] at e
end
noncomputable def Zbw:CO->CmpOp
 |.lt=>.Lt | .le=>.LtE | .gt=>.Gt | .ge=>.GtE | .eq=>.Eq | .ne=>.NotEq | .inn=>.In | .nin=>.NotIn
noncomputable def Yah(ct:Tx)(op:CO):R2:=λx y H Q=>∃ μ h mx my b,Rel ct μ h H/\RV ct μ (Liv μ h) H mx x/\RV ct μ (Liv μ h) H my y/\yL op mx my h=some b/\Q (.bl b) H
theorem ZP{op:CO}{x y:V}{H:Hp}{Q:VK}(ho:∀ mx my h,yL op mx my h=(yb mx).bind λi=>(yb my).bind λj=>ZM op i j)(q:Yah ct op x y H Q):∃ i j b,x=.int i/\y=.int j/\ZM op i j=some b/\Q (.bl b) H:=by
 obtain⟨μ,h,mx,my,b,rel,rx,ry,e,q⟩:=q;rw[ho] at e;simp only[Wb] at e;obtain⟨i,e1,j,e2,e3⟩:=e;have:=Yd e1;subst this;have:=Yd e2;subst this;exact⟨i,j,b,Zg rx,Zg ry,e3,q⟩
theorem oc_lt:OpR X (compareOp .Lt) (Yah ct .lt):=OpR.imp op_lt λx y H Q q=>by
 obtain⟨i,j,b,e1,e2,e3,q⟩:=ZP (λ_ _ _=>rfl) q;cases e3;exact⟨i,j,e1,e2,q⟩
theorem oc_le:OpR X (compareOp .LtE) (Yah ct .le):=OpR.imp op_le λx y H Q q=>by
 obtain⟨i,j,b,e1,e2,e3,q⟩:=ZP (λ_ _ _=>rfl) q;cases e3;exact⟨i,j,e1,e2,q⟩
theorem oc_gt:OpR X (compareOp .Gt) (Yah ct .gt):=OpR.imp op_gt λx y H Q q=>by
 obtain⟨i,j,b,e1,e2,e3,q⟩:=ZP (λ_ _ _=>rfl) q;cases e3;exact⟨i,j,e1,e2,q⟩
theorem oc_ge:OpR X (compareOp .GtE) (Yah ct .ge):=OpR.imp op_ge λx y H Q q=>by
 obtain⟨i,j,b,e1,e2,e3,q⟩:=ZP (λ_ _ _=>rfl) q;cases e3;exact⟨i,j,e1,e2,q⟩
theorem qaC{x y:FV}{b:Bool}(e:eqF x y=some b):isD 8 x=true/\isD 8 y=true/\eqD x y=b:=by
 unfold eqF at e;split at e
 next c=>cases e;exact⟨c.1,c.2,rfl⟩
 next=>cases e
theorem oc_eq(hu:X.A.units+65<cLine):OpR X (compareOp .Eq) (Yah ct .eq):=by
 intro pins s σ H x y v u Q I rx ry q;obtain⟨μ,h,mx,my,b,rel,r1,r2,e,q⟩:=q;simp only[yL,Wb] at e;obtain⟨a,e1,c,e2,e3⟩:=e;obtain⟨d1,d2,e4⟩:=qaC e3;obtain⟨as,ra⟩:=QA I.hok 8 a x v d1 (Ym rel 5 mx a x e1 r1) rx;obtain⟨bs,rb⟩:=QA I.hok 8 c y u d2 (Ym rel 5 my c y e2 r2) ry;refine eq_dataH ra rb (zJ d1) (zJ d2) (by lia) ?_;rw[qaq 8 a c d1 d2,e4];exact⟨.bl b,H,I,rfl,q⟩
theorem oc_ne(hu:X.A.units+65<cLine):OpR X (compareOp .NotEq) (Yah ct .ne):=by
 intro pins s σ H x y v u Q I rx ry q;obtain⟨μ,h,mx,my,b,rel,r1,r2,e,q⟩:=q;simp only[yL,Wb,ub] at e;obtain⟨a,e1,c,e2,b',e3,rfl⟩:=e;obtain⟨d1,d2,e4⟩:=qaC e3;obtain⟨as,ra⟩:=QA I.hok 8 a x v d1 (Ym rel 5 mx a x e1 r1) rx;obtain⟨bs,rb⟩:=QA I.hok 8 c y u d2 (Ym rel 5 my c y e2 r2) ry;refine ne_dataH ra rb (zJ d1) (zJ d2) (by lia) ?_;rw[qaq 8 a c d1 d2,e4];exact⟨.bl _,H,I,rfl,q⟩
end
end SD
end
section
namespace HT
open PySem PyProof.Rows
section
variable {prog:Program} {w:World} {A:Around} {E:Value->Shared->Prop} {s:Shared}
theorem getItem_tuple_whole{t sl:Addr}{items:Array Value}{vl vu:Value}{lo hi:Option Int}{Q:Value->Shared->Prop}(ht:IsTup s.heap t items)(hs:s.heap.IsSliceOf sl vl vu .none)(pl:IsPart vl lo)(pu:IsPart vu hi)
  (hw:sIx items.size 0 lo=0/\sIx items.size items.size hi=items.size) (h:Q (.ref t) s):wpAny (model prog w) A (getItem (.ref t) (.ref sl)) Q E s:=by
 obtain⟨os,hos,hcs,hds⟩:=id hs;have hTs:s.TypeIs (.ref sl) "slice":=⟨os,hos,hcs⟩;unfold getItem
 try with_reducible refine wpAny_holding ?_
 first|refine wpAny_bind (wpAny_pure ?_)|skip
 refine wpAny_bind (wpAny_sequenceKey ht.typeIs (by decide) ?_);refine wpAny_bind (wpAny_callSpecial?_slot (name:=Str.ofString "__getitem__") ht.typeIs PyProof.Rows.slot_tuple_getitem
  (wpAny_call_entry PyProof.Rows.slot_tuple_getitem ht.typeIs entry_tuple_getitem ?_ (args_tuple_getitem _ _)))
 show wpAny _ _ (Builtin.Tuple.tupleItemsOf (.ref t) >>= _) _ _ s;refine wpAny_bind (tupleItemsOf_ ht ?_);refine wpAny_bind (wpAny_typeOf hTs ?_);rw[if_pos (by decide)];refine wpAny_bind (zA hs pl pu ?_);have hyes:(((sIx items.size 0 lo:Nat):Int)==0&&(1:Int)==1&&(sIx items.size items.size hi-sIx items.size 0 lo)==items.size)=true:=by
  rw[hw.1,hw.2];simp
 show wpAny _ _ (if(((sIx items.size 0 lo:Nat):Int)==0&&(1:Int)==1&&(sIx items.size items.size hi-sIx items.size 0 lo)==items.size)=true then _ else _) _ _ s;rw[if_pos hyes];unfold Builtin.Tuple.tupleIsExact;refine wpAny_bind (wpAny_bind (wpAny_typeOf ht.typeIs (wpAny_pure ?_)));rw[if_pos (by decide)]
 first
  |exact wpAny_bind (wpAny_rule (wpAny_bind (wpAny_pure (wpAny_pure ⟨_,rfl,wpAny_pure h⟩))))
  |exact wpAny_bind (wpAny_rule (wpAny_pure ⟨_,rfl,wpAny_pure h⟩))
  |exact wpAny_bind (wpAny_rule (wpAny_bind (wpAny_pure ⟨_,rfl,wpAny_pure h⟩)))
end
end HT
namespace SD
open PySem PySem.Spec PyProof.Rows L2 L3 M3 MP
section
variable {ct:Tx} {X:Cx} {E:XK}
theorem ybz{x:FV}{ys:List FV}{b:Bool}(e:inF x ys=some b):isD 8 x=true/\(∀ y∈ys,isD 8 y=true)/\ys.any (λy=>eqD y x)=b:=by
 unfold inF at e;split at e
 next c=>cases e;exact⟨c.1,by simpa using c.2,rfl⟩
 next=>cases e
theorem zbN{x:FV}{ys:List FV}(hx:isD 8 x=true)(hy:∀ y∈ys,isD 8 y=true):(Qn ys).any (λy=>PyData.eqv y (toP x))=ys.any λy=>eqD y x:=by
 rw[YaA,List.any_map]
 induction ys with
 |nil=>rfl
 |cons y ys ih =>
  simp only[List.any_cons,Vr];rw[qaq 8 y x (hy y (by simp)) hx,ih λz hz=>hy z (by simp[hz])]
theorem zan{μ:List Addr}{h:MH}{H:Hp}{mx my:MV}{ys:List MV}{a:FV}{bs:List FV}{x y:V}{v u:Value}{b:Bool}{pins:List (Addr×Obj)}{σ:L2.St}{s:Shared}(hK:X.K=ct.K)(I:Inv X pins σ H s)(rel:Rel ct μ h H)(rx:RelV x v)(ry:RelV y u)
  (r1:RV ct μ (Liv μ h) H mx x) (r2:RV ct μ (Liv μ h) H my y) (e1:YM h mx=some a) (e2:Zc h my=some ys) (e3:ys.mapM (YM h)=some bs) (e4:inF a bs=some b) :
  (∃ as as',(Reads s.heap u (.list (Qn bs)) as\/Reads s.heap u (.tuple (Qn bs)) as)/\Reads s.heap v (toP a) as')/\PyData.canLayAll0 (Qn bs)=true/\(toP a).canLay0=true/\PyData.depthAll (Qn bs)<=8/\(Qn bs).any (λy=>PyData.eqv y (toP a))=b:=by
 obtain⟨d1,d2,e5⟩:=ybz e4;obtain⟨as',ra⟩:=QA I.hok 8 a x v d1 (Ym rel 5 mx a x e1 r1) rx;obtain⟨k,p,vs,rfl,sq,rs⟩:=Zw rel e2 r2;cases ry;have rf:RFs ct noL H bs vs:=ZJ e3 rs λz hz y u ez ru=>Ym rel 5 z y u ez ru;have ll:=Z1 (n:=8) bs λy hy=>zaa 8 y (d2 y hy);refine⟨?_,ll.1,(zaa 8 a d1).1,ll.2,by rw[zbN d1 d2];exact e5⟩;cases k with
 |true =>
  obtain⟨its,rv,⟨o,q1,q2,n,q3⟩,_⟩:=I.tuple (show SqT X.K H p vs from sq.s hK);obtain⟨as,rb⟩:=Yq I.hok 8 bs vs its d2 rf rv;exact⟨as,as',.inr (reads_tuple_at q1 q2 q3 rb),ra⟩
 |false =>
  obtain⟨its,rv,⟨o,n,q1,q2,_,q3⟩,_⟩:=I.list (show SqL X.K H p vs from sq.s hK);obtain⟨as,rb⟩:=Yq I.hok 8 bs vs its d2 rf rv;exact⟨_,as',.inl (reads_list_at q1 q2 q3 rb),ra⟩
theorem oc_in(hK:X.K=ct.K)(hu:X.A.units+65<cLine):OpR X (compareOp .In) (Yah ct .inn):=by
 intro pins s σ H x y v u Q I rx ry q;obtain⟨μ,h,mx,my,b,rel,r1,r2,e,q⟩:=q;simp only[yL,Wb] at e;obtain⟨a,e1,ys,e2,bs,e3,e4⟩:=e;obtain⟨⟨as,as',rb,ra⟩,l1,l2,l3,e5⟩:=zan hK I rel rx ry r1 r2 e1 e2 e3 e4
 rcases rb with rb|rb
 ·exact SeqAt.in_list_reads rb ra l1 l2 (by have:=Xp (PyData.depthAll (Qn bs)) (toP a).depth;lia) (by rw[e5];exact⟨.bl b,H,I,rfl,q⟩)
 ·exact SeqAt.in_tuple_reads rb ra l1 l2 (by have:=Xp (PyData.depthAll (Qn bs)) (toP a).depth;lia) (by rw[e5];exact⟨.bl b,H,I,rfl,q⟩)
theorem YbX(hK:X.K=ct.K)(hu:X.A.units+65<cLine):OpR X (compareOp .NotIn) (Yah ct .nin):=by
 intro pins s σ H x y v u Q I rx ry q;obtain⟨μ,h,mx,my,b,rel,r1,r2,e,q⟩:=q;simp only[yL,Wb,ub] at e;obtain⟨a,e1,ys,e2,bs,e3,b',e4,rfl⟩:=e;obtain⟨⟨as,as',rb,ra⟩,l1,l2,l3,e5⟩:=zan hK I rel rx ry r1 r2 e1 e2 e3 e4
 rcases rb with rb|rb
 ·exact SeqAt.notIn_list_reads rb ra l1 l2 (by have:=Xp (PyData.depthAll (Qn bs)) (toP a).depth;lia) (by rw[e5];exact⟨.bl _,H,I,rfl,q⟩)
 ·exact SeqAt.notIn_tuple_reads rb ra l1 l2 (by have:=Xp (PyData.depthAll (Qn bs)) (toP a).depth;lia) (by rw[e5];exact⟨.bl _,H,I,rfl,q⟩)
theorem Ybv(hK:X.K=ct.K)(hu:X.A.units+65<cLine):∀ op:CO,OpR X (compareOp (Zbw op)) (Yah ct op)
 |.lt=>oc_lt | .le=>oc_le | .gt=>oc_gt | .ge=>oc_ge | .eq=>oc_eq hu | .ne=>oc_ne hu | .inn=>oc_in hK hu | .nin=>YbX hK hu
theorem ybq(n:Nat)(i:Int):ixM n i=ixN n i:=rfl
noncomputable def rIxM(ct:Tx):R2:=λx y H Q=>∃ μ h mx k xs m,Rel ct μ h H/\RV ct μ (Liv μ h) H mx x/\y=.int k/\Zc h mx=some xs/\atM xs k=some m/\∀ v,RV ct μ (Liv μ h) H m v->Q v H
theorem zbS(hK:X.K=ct.K):IxR X (rIxM ct):=by
 intro value slice pins s σ H x y v u Q I rx ry q hs;obtain(⟨μ,h,mx,k,xs,m,rel,r,rfl,e1,e2,q⟩):=q;obtain(⟨b,a,vs,rfl,sq,rs⟩):=Zw rel e1 r;unfold atM at e2;rw[Wb] at e2;obtain(⟨j,e3,e4⟩):=e2;obtain(⟨w,ew,rw_⟩):=rs.get e4;refine k_ix X.K rfl value slice pins s σ H (.ref a) (.int k) v u Q I rx ry ⟨b,a,vs,k,w,rfl,rfl,sq.s hK,?_,q w rw_⟩ hs;unfold atI;rw[rs.length,<- ybq,e3];exact ew
theorem Zar{μ:List Addr}{L:Addr->Prop}{H:Hp}{xs:List MV}{vs:List V}(r:RVs ct μ L H xs vs)(lo hi:Option Int):RVs ct μ L H (yai xs lo hi) (Qax vs lo hi):=by
 unfold yai Qax;rw[r.length];exact(r.drop _).take _
noncomputable def rSlM(ct:Tx)(E:XK)(fz:Bool):V->Option Int->Option Int->Hp->VK->Prop:=λx lo hi H Q=>∃ μ h m,Rel ct μ h H/\RV ct μ (Liv μ h) H m x/\Po ct E (Y9 fz m lo hi h) μ h H (kV ct Q)
set_option tactic.hygienic true in
theorem qbF(hK:X.K=ct.K)(fz:Bool):SlR X (rSlM ct E fz):=by
 intro pins s σ H x v vl vu lo hi sl Q I rx hs pl pu q;obtain(⟨μ,h,m,rel,r,p⟩):=q;unfold Y9 at p;split at p
 next xs e =>
  obtain(⟨a,vs,rfl,n,rd,rs⟩):=qp e r;by_cases hw:HT.sIx vs.length 0 lo=0/\HT.sIx vs.length vs.length hi=vs.length
  ·cases rx;obtain(⟨its,rv,ht,hz⟩):=I.tuple (show SqT X.K H a vs from .inl (.inl rd));have hlen:its.toArray.size=vs.length:=by rw[Va];exact rv.length.symm
   refine⟨"tuple",_,PyProof.Rows.slot_tuple_getitem.lookup,ht.typeIs,HT.getItem_tuple_whole ht hs pl pu (by rw[hlen];exact hw) ?_⟩;have hc:yai xs lo hi=xs:=by
    have hl:=rs.length;unfold yai;show(xs.drop (HT.sIx xs.length 0 lo)).take (HT.sIx xs.length xs.length hi-HT.sIx xs.length 0 lo)=xs;rw[<- hl,hw.1,hw.2,wx,Nat.sub_zero,hl,UH]
   rw[hc] at p;exact⟨.ref a,H,I,rfl,p.now rel _ (qF n rd rs)⟩
  ·exact Zb5 pins s σ H (.ref a) v vl vu lo hi sl Q I rx hs pl pu ⟨a,vs,rfl,.inl (.inl rd),hw,QO rel (Zar rs lo hi) p⟩
 next e =>
  obtain(⟨xs,e1,p⟩):=Po.opt p
  rcases Yr e1 with e2|e2|⟨ns,rfl,rfl⟩
  ·rw[e] at e2;cases e2
  ·obtain(⟨a,vs,rfl,rd,rs⟩):=Yh rel e2 r;exact ya2 pins s σ H (.ref a) v vl vu lo hi sl Q I rx hs pl pu ⟨a,vs,rfl,.inl rd,Qt rel (Zar rs lo hi) p⟩
  ·simp only[RV,RF] at r;obtain(⟨a,rfl,q⟩):=r;exact ya2 pins s σ H (.ref a) v vl vu lo hi sl Q I rx hs pl pu ⟨a,_,rfl,by rw[hK];exact Qaq q,Qt rel (Zar (ZC ns) lo hi) p⟩
end
section
variable {ct:Tx} {X:Cx} {E:XK}
theorem CallR.imp{f:Value}{r r':List V->Hp->VK->Prop}(o:CallR X f r)(k:∀ xs H Q,r' xs H Q->r xs H Q):CallR X f r':=λpins s σ H xs us Q I rv q=>o pins s σ H xs us Q I rv (k _ _ _ q)
theorem CallR.ors{f:Value}{r r':List V->Hp->VK->Prop}(o:CallR X f r)(o':CallR X f r'):CallR X f λxs H Q=>r xs H Q\/r' xs H Q:=λpins s σ H xs us Q I rv q=>q.elim (o pins s σ H xs us Q I rv) (o' pins s σ H xs us Q I rv)
noncomputable def rB(ct:Tx)(E:XK)(fz:Bool)(n:String):List V->Hp->VK->Prop:=λvs H Q=>∃ μ h ms,Rel ct μ h H/\RVs ct μ (Liv μ h) H ms vs/\Po ct E (qs fz n ms h) μ h H (kV ct Q)
theorem yn{μ:List Addr}{L:Addr->Prop}{H:Hp}{m:MV}{vs:List V}(r:RVs ct μ L H [m] vs):∃ v,vs=[v]/\RV ct μ L H m v:=by
 simp only[RVs] at r;obtain⟨v,t,rfl,r1,rfl⟩:=r;exact⟨v,rfl,r1⟩
theorem yN{μ:List Addr}{L:Addr->Prop}{H:Hp}{m m':MV}{vs:List V}(r:RVs ct μ L H [m,m'] vs):∃ v v',vs=[v,v']/\RV ct μ L H m v/\RV ct μ L H m' v':=by
 simp only[RVs] at r;obtain⟨v,t,rfl,r1,v',t',rfl,r2,rfl⟩:=r;exact⟨v,v',rfl,r1,r2⟩
theorem zH{μ:List Addr}{L:Addr->Prop}{H:Hp}:∀{xs:List MV}{ns:List Int}{vs:List V},Qd xs=some ns->RVs ct μ L H xs vs->vs=ns.map V.int
 |[],ns,vs,e,r=>by simp[Qd] at e;subst e;simp only[RVs] at r;subst r;rfl
 |.f (.int i)::xs,ns,vs,e,r=>by
  simp only[Qd,ub] at e;obtain⟨ms,e1,rfl⟩:=e;simp only[RVs] at r;obtain⟨v,t,rfl,r1,r2⟩:=r;rw[Zg r1,zH e1 r2];rfl
 |.f .non::_,_,_,e,_=>by simp[Qd] at e
 |.f (.bl _)::_,_,_,e,_=>by simp[Qd] at e
 |.f (.str _)::_,_,_,e,_=>by simp[Qd] at e
 |.f (.tup _)::_,_,_,e,_=>by simp[Qd] at e
 |.f (.lst _)::_,_,_,e,_=>by simp[Qd] at e
 |.f (.obj _ _ _)::_,_,_,e,_=>by simp[Qd] at e
 |.f (.scr _)::_,_,_,e,_=>by simp[Qd] at e
 |.f (.tab _)::_,_,_,e,_=>by simp[Qd] at e
 |.f (.msk _)::_,_,_,e,_=>by simp[Qd] at e
 |.ref _::_,_,_,e,_=>by simp[Qd] at e
 |.tup _::_,_,_,e,_=>by simp[Qd] at e
 |.exc _::_,_,_,e,_=>by simp[Qd] at e
theorem QaX{μ:List Addr}{L:Addr->Prop}{H:Hp}:∀{xs:List MV}{ns:List Bool}{vs:List V},qm xs=some ns->RVs ct μ L H xs vs->vs=ns.map V.bl
 |[],ns,vs,e,r=>by simp[qm] at e;subst e;simp only[RVs] at r;subst r;rfl
 |.f (.bl i)::xs,ns,vs,e,r=>by
  simp only[qm,ub] at e;obtain⟨ms,e1,rfl⟩:=e;simp only[RVs] at r;obtain⟨v,t,rfl,r1,r2⟩:=r;rw[Zaj r1,QaX e1 r2];rfl
 |.f .non::_,_,_,e,_=>by simp[qm] at e
 |.f (.int _)::_,_,_,e,_=>by simp[qm] at e
 |.f (.str _)::_,_,_,e,_=>by simp[qm] at e
 |.f (.tup _)::_,_,_,e,_=>by simp[qm] at e
 |.f (.lst _)::_,_,_,e,_=>by simp[qm] at e
 |.f (.obj _ _ _)::_,_,_,e,_=>by simp[qm] at e
 |.f (.scr _)::_,_,_,e,_=>by simp[qm] at e
 |.f (.tab _)::_,_,_,e,_=>by simp[qm] at e
 |.f (.msk _)::_,_,_,e,_=>by simp[qm] at e
 |.ref _::_,_,_,e,_=>by simp[qm] at e
 |.tup _::_,_,_,e,_=>by simp[qm] at e
 |.exc _::_,_,_,e,_=>by simp[qm] at e
theorem SqR.len{H:Hp}{K:PySem.W.Frag}{b:Bool}{a:Addr}{vs:List V}(hK:K=ct.K)(q:SqR ct H b a vs):SqL K H a vs\/SqT K H a vs:=by
 subst hK;cases b with
 |false=>exact .inl q
 |true=>exact .inr q
theorem zcd(hK:X.K=ct.K)(fz:Bool):CallR X (.builtin "len") (rB ct E fz "len"):=CallR.imp (k_len X.K) λvs H Q q=>by
 obtain⟨μ,h,ms,rel,r0,p⟩:=q
 rcases ms with _|⟨m,_|⟨m2,ms⟩⟩
 ·exact p.elim
 ·obtain⟨v,rfl,rm⟩:=yn r0;obtain⟨xs,e,p⟩:=Po.opt p;obtain⟨b,a,ws,rfl,sq,rs⟩:=Zw rel e rm;exact⟨a,ws,rfl,sq.len hK,by rw[rs.length];exact p.now rel _ (Yk _)⟩
 ·exact p.elim
theorem Yce(hK:X.K=ct.K)(fz:Bool)(hc:X.calm=true):CallR X (.builtin "all") (rB ct E fz "all"):=CallR.imp (k_all X.K hc) λvs H Q q=>by
 obtain⟨μ,h,ms,rel,r0,p⟩:=q
 rcases ms with _|⟨m,_|⟨m2,ms⟩⟩
 ·exact p.elim
 ·obtain⟨v,rfl,rm⟩:=yn r0;obtain⟨ns,e,p⟩:=Po.opt p;rw[Wb] at e;obtain⟨xs,e1,e2⟩:=e;obtain⟨b,a,ws,rfl,sq,rs⟩:=Zw rel e1 rm;have:=QaX e2 rs;subst this;exact⟨b,a,ns,rfl,sq.s hK,p.now rel _ (yB _)⟩
 ·exact p.elim
theorem zca(hK:X.K=ct.K)(fz:Bool)(hc:X.calm=true):CallR X (.builtin "min") (rB ct E fz "min"):=CallR.imp (CallR.ors (k_min X.K hc) (ybc hc)) λvs H Q q=>by
 obtain⟨μ,h,ms,rel,r0,p⟩:=q
 rcases ms with _|⟨m,_|⟨m2,_|⟨m3,ms⟩⟩⟩
 ·exact p.elim
 ·left
  obtain⟨v,rfl,rm⟩:=yn r0;obtain⟨ns,e,p⟩:=Po.opt p;rw[Wb] at e;obtain⟨xs,e1,e2⟩:=e;obtain⟨b,a,ws,rfl,sq,rs⟩:=Zw rel e1 rm;have:=zH e2 rs;subst this;cases ns with
  |nil=>exact p.elim
  |cons n ns =>
   refine⟨b,a,n::ns,rfl,sq.s hK,by simp,λk hk hl=>?_⟩;have:k=Zaf n ns:=by
    have a1:=hl _ (qaz (r:=n::ns) (by simp));have a2:=YbQ (r:=n::ns) hk;exact Int.le_antisymm a1 a2
   subst this;exact p.now rel _ (Yk _)
 ·right
  obtain⟨v,v',rfl,rm,rm'⟩:=yN r0;obtain⟨i,e,p⟩:=Po.opt p;obtain⟨j,e',p⟩:=Po.opt p;have:=Yd e;subst this;have:=Yd e';subst this;rw[Zg rm,Zg rm'];exact⟨i,j,rfl,p.now rel _ (Yk _)⟩
 ·exact p.elim
theorem Qb1(hK:X.K=ct.K)(fz:Bool)(hc:X.calm=true):CallR X (.builtin "max") (rB ct E fz "max"):=CallR.imp (CallR.ors (k_max X.K hc) (Ya4 hc)) λvs H Q q=>by
 obtain⟨μ,h,ms,rel,r0,p⟩:=q
 rcases ms with _|⟨m,_|⟨m2,_|⟨m3,ms⟩⟩⟩
 ·exact p.elim
 ·left
  obtain⟨v,rfl,rm⟩:=yn r0;obtain⟨ns,e,p⟩:=Po.opt p;rw[Wb] at e;obtain⟨xs,e1,e2⟩:=e;obtain⟨b,a,ws,rfl,sq,rs⟩:=Zw rel e1 rm;have:=zH e2 rs;subst this;cases ns with
  |nil=>exact p.elim
  |cons n ns =>
   refine⟨b,a,n::ns,rfl,sq.s hK,by simp,λk hk hl=>?_⟩;have:k=YX n ns:=by
    have a1:=hl _ (ZaA (r:=n::ns) (by simp));have a2:=zbJ (r:=n::ns) hk;exact Int.le_antisymm a2 a1
   subst this;exact p.now rel _ (Yk _)
 ·right
  obtain⟨v,v',rfl,rm,rm'⟩:=yN r0;obtain⟨i,e,p⟩:=Po.opt p;obtain⟨j,e',p⟩:=Po.opt p;have:=Yd e;subst this;have:=Yd e';subst this;rw[Zg rm,Zg rm'];exact⟨i,j,rfl,p.now rel _ (Yk _)⟩
 ·exact p.elim
theorem yca(fz:Bool):CallR X (.builtin "abs") (rB ct E fz "abs"):=CallR.imp qbi λvs H Q q=>by
 obtain⟨μ,h,ms,rel,r0,p⟩:=q
 rcases ms with _|⟨m,_|⟨m2,ms⟩⟩
 ·exact p.elim
 ·obtain⟨v,rfl,rm⟩:=yn r0;obtain⟨i,e,p⟩:=Po.opt p;have:=Yd e;subst this;rw[Zg rm];exact⟨i,rfl,p.now rel _ (Yk _)⟩
 ·exact p.elim
theorem Ybu(hK:X.K=ct.K)(fz:Bool):CallR X (.type "tuple") (rB ct E fz "tuple"):=CallR.imp (QbN X.K) λvs H Q q=>by
 obtain⟨μ,h,ms,rel,r0,p⟩:=q
 rcases ms with _|⟨m,_|⟨m2,ms⟩⟩
 ·exact p.elim
 ·obtain⟨v,rfl,rm⟩:=yn r0;obtain⟨xs,e,p⟩:=Po.opt p
  rcases Yr e with e|e|⟨ns,rfl,rfl⟩
  ·obtain⟨a,ws,rfl,n,rd,rs⟩:=qp e rm;exact⟨a,ws,rfl,.inr ⟨.inl (.inl rd),p.now rel _ (qF n rd rs)⟩⟩
  ·obtain⟨a,ws,rfl,rd,rs⟩:=Yh rel e rm;exact⟨a,ws,rfl,.inl ⟨.inl rd,QO rel rs p⟩⟩
  ·simp only[RV,RF] at rm;obtain⟨a,rfl,q⟩:=rm;exact⟨a,_,rfl,.inl ⟨by rw[hK];exact Qaq q,QO rel (ZC ns) p⟩⟩
 ·exact p.elim
theorem qbH(hK:X.K=ct.K)(fz:Bool):CallR X (.type "list") (rB ct E fz "list"):=CallR.imp (Qcg X.K) λvs H Q q=>by
 obtain⟨μ,h,ms,rel,r0,p⟩:=q
 rcases ms with _|⟨m,_|⟨m2,ms⟩⟩
 ·exact p.elim
 ·obtain⟨v,rfl,rm⟩:=yn r0;obtain⟨xs,e,p⟩:=Po.opt p;obtain⟨b,a,ws,rfl,sq,rs⟩:=Zw rel e rm;exact⟨a,ws,rfl,sq.len hK,Qt rel rs p⟩
 ·exact p.elim
noncomputable def rLm(ct:Tx)(E:XK)(m:String):V->List V->Hp->VK->Prop:=λx vs H Q=>∃ μ h mo ms,Rel ct μ h H/\RV ct μ (Liv μ h) H mo x/\RVs ct μ (Liv μ h) H ms vs/\Po ct E (lmV m mo ms h) μ h H (kV ct Q)
theorem MtR.imp{id:String}{r r':V->List V->Hp->VK->Prop}(o:MtR X id r)(k:∀ x xs H Q,r' x xs H Q->r x xs H Q):MtR X id r':=λpins s σ H x xs v us Q I rx rv q=>o pins s σ H x xs v us Q I rx rv (k _ _ _ _ q)
theorem ZaN{m:String}{mo:MV}{ms:List MV}{μ:List Addr}{h:MH}{H:Hp}{x:V}{k:MV->List Addr->MH->Hp->Prop}(rel:Rel ct μ h H)(r:RV ct μ (Liv μ h) H mo x)(p:Po ct E (lmV m mo ms h) μ h H k) :
  ∃ i b xs vs,mo=.ref i/\x=.ref b/\μ[i]?=some b/\Ya h i=some xs/\H b=some (.lst vs)/\RVs ct μ (Liv μ h) H xs vs:=by
 cases mo with
 |ref i =>
  obtain⟨xs,e,_⟩:=Po.opt p;obtain⟨b,vs,e1,e2,q⟩:=rel.lst e;simp only[RV] at r;obtain⟨b',e3,rfl⟩:=r;rw[e1] at e3;cases e3;exact⟨i,b,xs,vs,rfl,rfl,e1,e,e2,q⟩
 |f _=>exact p.elim
 |tup _=>exact p.elim
 |exc _=>exact p.elim
theorem zaq{μ:List Addr}{h:MH}{H:Hp}{i:Nat}{b:Addr}{xs ys:List MV}{vs:List V}{m:MV}{v:V}{Q:VK}(rel:Rel ct μ h H)(e1:μ[i]?=some b)(e:Ya h i=some xs)(r:RVs ct μ (Liv μ h) H ys vs)(rv:RV ct μ (Liv μ h) H m v)
  (p:Po ct E (.ok m (Zb h i ys)) μ h H (kV ct Q)):Q v (upd H b (.lst vs)):=by
 have e2:=zD e;have ex:=Ext.set (H:=H) rel e1 e2 (λz=>nomatch z) (.lst ys) (.lst vs);refine p μ _ ex (rel.set e1 e2 (λz=>nomatch z) ⟨vs,Qf,?_⟩) v (rv.ext ex);exact RVs.ext ex r
theorem ya9:MtR X "list.append" (rLm ct E "append"):=MtR.imp Qa4 λx ws H Q q=>by
 obtain⟨μ,h,mo,ms,rel,r,rs,p⟩:=q;obtain⟨i,b,xs,vs,rfl,rfl,e1,e,hb,q⟩:=ZaN rel r p
 rcases ms with _|⟨m,_|⟨m2,ms⟩⟩
 ·obtain⟨_,_,p⟩:=Po.opt p;exact p.elim
 ·obtain⟨v,rfl,rm⟩:=yn rs;obtain⟨_,e',p⟩:=Po.opt p;rw[e] at e';cases e';change Po ct E (if xs.length<MP.sizeL then _ else _) μ h H (kV ct Q) at p;split at p
  next c=>exact⟨b,vs,v,rfl,rfl,hb,by rw[q.length];exact Vb c YA,zaq rel e1 e (q.append (RVs.cons rm RVs.nil)) qas p⟩
  next=>exact p.elim
 ·obtain⟨_,_,p⟩:=Po.opt p;exact p.elim
theorem ya4:MtR X "list.extend" (rLm ct E "extend"):=MtR.imp qaV λx ws H Q q=>by
 obtain⟨μ,h,mo,ms,rel,r,rs,p⟩:=q;obtain⟨i,b,xs,vs,rfl,rfl,e1,e,hb,q⟩:=ZaN rel r p
 rcases ms with _|⟨m,_|⟨m2,ms⟩⟩
 ·obtain⟨_,_,p⟩:=Po.opt p;exact p.elim
 ·obtain⟨v,rfl,rm⟩:=yn rs;obtain⟨_,e',p⟩:=Po.opt p;rw[e] at e';cases e';change Po ct E (opt (listOf h m) λys=>if xs.length+ys.length<=MP.sizeL then .ok (.f .non) (Zb h i (xs++ys)) else .stuck) μ h H (kV ct Q) at p;obtain⟨ys,e3,p2⟩:=Po.opt p;obtain⟨a,ws,rfl,rd,rs2⟩:=Yh rel e3 rm;split at p2
  next c=>exact⟨b,a,vs,ws,rfl,rfl,hb,rd,by rw[q.length,rs2.length];exact Xe c YA,zaq rel e1 e (q.append rs2) qas p2⟩
  next=>exact p2.elim
 ·obtain⟨_,_,p⟩:=Po.opt p;exact p.elim
theorem MtR.ors{id:String}{r r':V->List V->Hp->VK->Prop}(o:MtR X id r)(o':MtR X id r'):MtR X id λx xs H Q=>r x xs H Q\/r' x xs H Q:=λpins s σ H x xs v us Q I rx rv q=>q.elim (o pins s σ H x xs v us Q I rx rv) (o' pins s σ H x xs v us Q I rx rv)
theorem yb3(n:Nat)(i:Int):seqIndex? i n=ixM n i:=by
 unfold seqIndex? ixM;by_cases h:i<0
 ·have h':¬ 0<=i:=by lia
  simp only[h,h',if_true,if_false];by_cases k:-(n:Int)<=i
  ·have k1:0<=i+(n:Int):=by lia
   have k2:i+(n:Int)<n:=by lia
   simp only[k,k1,k2,decide_true,Bool.and_self,if_true]
  ·have k1:¬ 0<=i+(n:Int):=by lia
   simp only[k,k1,decide_false,Bool.false_and,Vd,if_false]
 ·have h':0<=i:=by lia
  simp only[h,h',if_true,if_false,decide_true,Wu,decide_eq_true_eq]
theorem Zb4:MtR X "list.pop" (rLm ct E "pop"):=MtR.imp (MtR.ors Yb5 ybi) λx ws H Q q=>by
 obtain⟨μ,h,mo,ms,rel,r,rs,p⟩:=q;obtain⟨i,b,xs,vs,rfl,rfl,e1,e,hb,q⟩:=ZaN rel r p
 rcases ms with _|⟨m,_|⟨m2,ms⟩⟩
 ·simp only[RVs] at rs;subst rs;obtain⟨_,e',p⟩:=Po.opt p;rw[e] at e';cases e';change Po ct E (opt (xs[xs.length-1]?) λy=>.ok y (Zb h i (xs.take (xs.length-1)))) μ h H (kV ct Q) at p;obtain⟨y,e3,p2⟩:=Po.opt p;obtain⟨v,ev,rv⟩:=q.get e3;refine .inl ⟨b,vs,v,rfl,rfl,hb,by rw[q.length];exact ev,?_⟩;rw[List.dropLast_eq_take,q.length];exact zaq rel e1 e (q.take _) rv p2
 ·obtain⟨v,rfl,rm⟩:=yn rs;obtain⟨_,e',p⟩:=Po.opt p;rw[e] at e';cases e';change Po ct E (opt (yb m) λi'=>opt (ixM xs.length i') λk=>opt (xs[k]?) λy=>if -(2^63)<=i'/\i'<2^63 then .ok y (Zb h i (xs.take k++xs.drop (k+1))) else .stuck) μ h H (kV ct Q) at p;obtain⟨j,e3,p2⟩:=Po.opt p;obtain⟨k,e4,p3⟩:=Po.opt p2;obtain⟨y,e5,p4⟩:=Po.opt p3;have:=Yd e3;subst this;rw[Zg rm];obtain⟨v,ev,rv⟩:=q.get e5;split at p4
  next c =>
   refine .inr ⟨b,vs,j,k,v,rfl,rfl,hb,c.1,c.2,?_,ev,?_⟩
   ·rw[q.length];rw[yb3];exact e4
   ·rw[List.eraseIdx_eq_take_drop_succ];exact zaq rel e1 e ((q.take _).append (q.drop _)) rv p4
  next=>exact p4.elim
 ·obtain⟨_,_,p⟩:=Po.opt p;exact p.elim
end
noncomputable def za:Expr->Bool
 |.Starred ..=>false
 |.Slice ..=>false
 |.Set ..=>false
 |_=>true
noncomputable def zi:Expr->Bool
 |.Call (.Name x _) [] [] _=>!(x==("super":Str))
 |_=>true
noncomputable def Yz(cs sc:Scope):Scope :=
 {cs with names:=cs.names.map λ(n,k)=>if(k==NameKind.free&&sc.kind == .function&&sc.names.lookup n==some .cell) then(n,NameKind.cell) else(n,k)}
noncomputable def gl(sc:Scope)(x:Str):Bool:=sc.names.lookup x==some .globalImplicit&&!(x==("__debug__":Str))&&decide (x≠("__name__":Str))
noncomputable def zaC(sc:Scope)(x:Str):Bool:=(sc.names.lookup x==some .local||sc.names.lookup x==some .cell||sc.names.lookup x==some .free)&&!(x==("__debug__":Str))&&!(x==("__classdict__":Str))
noncomputable def QaQ(lo:Str->Bool)(sc:Scope)(x:Str):Bool:=sc.names.lookup x==some .local||(lo x&&sc.names.lookup x==some .cell)
noncomputable abbrev Zai:Str->Bool:=λ_=>true
noncomputable abbrev ownC(cs:Scope):Str->Bool:=λx=>cs.names.lookup x==some .cell
mutual
noncomputable def yt(lo:Str->Bool)(N:List Str)(sc:Scope):Tg->Expr->Bool
 |.nm i,.Name x _=>N[i]? == some x&&QaQ lo sc x
 |.tp ts,.Tuple es _ _=>QK lo N sc ts es
 |_,_=>false
noncomputable def QK(lo:Str->Bool)(N:List Str)(sc:Scope):List Tg->List Expr->Bool
 |[],[]=>true
 |t::ts,e::es=>yt lo N sc t e&&QK lo N sc ts es
 |_,_=>false
end
mutual
noncomputable def tgN:Tg->Expr->List Str
 |.nm _,.Name x _=>[x]
 |.tp ts,.Tuple es _ _=>tgNs ts es
 |_,_=>[]
noncomputable def tgNs:List Tg->List Expr->List Str
 |t::ts,e::es=>tgN t e++tgNs ts es
 |_,_=>[]
end
noncomputable def isTup:Expr->Bool
 |.Tuple ..=>true
 |_=>false
noncomputable def isTN:Expr->Bool
 |.Name _ _=>true
 |e=>isTup e
noncomputable def fnNames:List String:=["len","all","min","max","abs"]
noncomputable def tyNames:List String:=["tuple","list"]
noncomputable def lmNames:List String:=["append","extend","pop"]
noncomputable def lm0Names:List String:=[]
noncomputable def isTys:List String:=["dict","list","tuple","str","int","bool"]
noncomputable def Zu:Expr->List Expr
 |.Call (.Name _ _) as [] _=>as
 |_=>[]
noncomputable def yaa(tg:Expr)(it:String):Expr->Bool
 |.Call (.Name x _) as [] _=>(it == "range"&&(as.length==1||as.length==2||as.length==3)||it == "zip"&&isTN tg&&as.length==2||it == "enumerate"&&false&&as.length==1)&&x==Str.ofString it
 |_=>false
noncomputable def okT:ME->Bool
 |.frz _=>false
 |.ite _ _ _=>false
 |_=>true
noncomputable def isTru:Expr->Bool
 |.Constant (.bool true) _ _=>true
 |_=>false
noncomputable def twoL{α:Type}:List α->Option (α×α)
 |[a,b]=>some (a,b)
 |_=>none
noncomputable def ZaE{α:Type}:List α->Option α
 |[a]=>some a
 |_=>none
noncomputable def asC1:Expr->Option (Str×Expr)
 |.Call (.Name x _) as [] _=>(ZaE as).map λa=>(x,a)
 |_=>none
noncomputable def Qar(e:Expr):Option (Str×Str×Expr):=(asC1 e).bind λp=>(asC1 p.2).map λq=>(p.1,q.1,q.2)
noncomputable def isM1:Expr->Bool
 |.UnaryOp .USub (.Constant (.int 1) _ _) _=>true
 |_=>false
noncomputable def asC2:Expr->Option (Str×Expr×Expr)
 |.Call (.Name x _) as [] _=>(twoL as).map λa=>(x,a)
 |_=>none
noncomputable def Z3:Expr->Option (Expr×CmpOp×Expr)
 |.Compare l os rs _=>(ZaE os).bind λo=>(ZaE rs).map λr=>(l,o,r)
 |_=>none
noncomputable def isNo:Expr->Bool
 |.Constant .none _ _=>true
 |_=>false
noncomputable def asNm:Expr->Option Str
 |.Name x _=>some x
 |_=>none
noncomputable def zU(e:Expr):Option (Str×Expr×Str):=(asC2 e).bind λq=>(asNm q.2.2).map λy=>(q.1,q.2.1,y)
noncomputable def QaR(e:Expr):Option (Str×Str×Expr×Expr):=(asC1 e).bind λp=>(asC2 p.2).map λq=>(p.1,q.1,q.2)
noncomputable def rvForm:Expr->Option Expr
 |.Subscript x (.Slice none none (some st) _) _=>if isM1 st then some x else none
 |_=>none
noncomputable def Ycj:Expr->Option Expr
 |.Call (.Attribute l n ap) [] [] cp=>if n==("items":Str)&&zi l&&(ap.endLine==cp.line) then some l else none
 |_=>none
noncomputable def t1N:T1->Str
 |.str=>"str"
 |.int=>"int"
 |.len=>"len"
 |.setl=>"len"
 |.srtI=>"sorted"
noncomputable def t1S:T1->Bool
 |.setl=>false
 |_=>true
section
variable (Pm:Prog)
mutual
noncomputable def zm(me:ME)(N:List Str)(sc:Scope)(e:Expr):Bool:=match me,e with
 |.var i,.Name x _=>N[i]? == some x&&zaC sc x
 |.cI i,.Constant (.int j) _ _=>i==j
 |.cB b,.Constant (.bool c) _ _=>b==c
 |.cN,.Constant .none _ _=>true
 |.cS s,.Constant (.str x) _ _=>s==x
 |.bin _ op a b,.BinOp l o r _=>o==mOp op&&(za l&&zm a N sc l)&&(za r&&zm b N sc r)
 |.neg a,.UnaryOp .USub x _=>(za x&&zm a N sc x)
 |.cmp op a b,e=>match Z3 e with
  |some (l,o,r)=>o==Zbw op&&(za l&&zm a N sc l)&&(za r&&zm b N sc r)
  |none=>false
 |.notN a,e=>match Z3 e with
  |some (l,o,r)=>o == .IsNot&&isNo r&&(za l&&zm a N sc l)
  |none=>false
 |.and es,.BoolOp .And vs _=>es.all okT&&yh es N sc vs
 |.or es,.BoolOp .Or vs _=>es.all okT&&yh es N sc vs
 |.not a,.UnaryOp .Not x _=>okT a&&(za x&&zm a N sc x)
 |.ite c a b,.IfExp t x y _=>okT c&&(za t&&zm c N sc t)&&(za x&&zm a N sc x)&&(za y&&zm b N sc y)
 |.tup es,.Tuple vs _ _=>decide (vs.length<1000)&&yh es N sc vs
 |.lst _ es,.List vs _=>decide (vs.length<1000)&&yh es N sc vs
 |.sub a i,.Subscript x y _=>(za x&&zm a N sc x)&&(za y&&zm i N sc y)
 |.slice _ a lo hi,.Subscript x (.Slice l u none _) _=>(za x&&zm a N sc x)&&ybs lo N sc l&&ybs hi N sc u
 |.fld a n,.Attribute x m _=>m==Str.ofString n&&zi x&&(za x&&zm a N sc x)
 |.call f es,.Call (.Name x _) (v::vs) [] _=>x==Str.ofString f&&gl sc x&&!(f.toList.contains '.')&&(Pm.defs f).isSome&&yh es N sc (v::vs)
 |.make _ c es,.Call (.Name x _) (v::vs) [] _=>x==Str.ofString c&&gl sc x&&(Pm.meths c "__init__").isSome&&yh es N sc (v::vs)
 |.make _ c [],.Call (.Name x _) [] [] _=>x==Str.ofString c&&gl sc x&&Pm.mk0 c&&(Pm.meths c "__init__").isNone
 |.blt _ n es,.Call (.Name x _) (v::vs) [] _=>x==Str.ofString n&&gl sc x&&(fnNames.contains n||tyNames.contains n)&&yh es N sc (v::vs)
 |.isI a t,e=>match zU e with
  |some (x,v,y)=>x==("isinstance":Str)&&gl sc x&&y==Str.ofString t&&gl sc y&&(isTys.contains t||(Pm.subs t t).isSome)&&(za v&&zm a N sc v)
  |none=>false
 |.isX a t,e=>match zU e with
  |some (x,v,y)=>x==("isinstance":Str)&&gl sc x&&y==Str.ofString t&&gl sc y&&Pm.xcls t&&(za v&&zm a N sc v)
  |none=>false
 |.tx1 .setl a,e=>match Qar e with
  |some (x,y,v)=>x==("len":Str)&&gl sc x&&y==("set":Str)&&gl sc y&&(za v&&zm a N sc v)
  |none=>false
 |.tx1 o a,.Call (.Name x _) [v] [] _=>x==t1N o&&gl sc x&&(za v&&zm a N sc v)
 |.tx2 .idx a b,.Call (.Attribute x n ap) [v] [] cp=>n==("index":Str)&&zi x&&(ap.endLine==cp.line)&&(za x&&zm a N sc x)&&(za v&&zm b N sc v)
 |.tx2 .lrg a b,e=>match QaR e with
  |some (x,y,u,v)=>x==("list":Str)&&gl sc x&&y==("range":Str)&&gl sc y&&(za u&&zm a N sc u)&&(za v&&zm b N sc v)
  |none=>false
 |.lm m o es,.Call (.Attribute x n ap) vs [] cp=>n==Str.ofString m&&zi x&&(ap.endLine==cp.line)&&(za x&&zm o N sc x)&&yh es N sc vs&&(if vs.isEmpty then lm0Names.contains m else lmNames.contains m&&decide (vs.length<30))
 |.comp _ elt tg it src cond ncv js,.ListComp x [⟨t,iter,ifs,a⟩] cs _ =>
   let N':=tgN tg t++js.filterMap λj=>N[j]?
   (a==0)&&za iter&&Yt sc N cs N' ncv js&&decide N'.Nodup&&yt (ownC cs) N' (Yz cs sc) tg t&&(za x&&zm elt N' (Yz cs sc) x)&&chkC cond N' (Yz cs sc) ifs &&
    (if it == "seq" then zbg src N sc iter else if it == "signs" then false else if it == "enum1" then false else yaa t it iter&&gl sc (Str.ofString it)&&yh src N sc (Zu iter))
 |.frz m,e=>(za e&&zm m N sc e)
 |_,_=>false
noncomputable def yh(mes:List ME)(N:List Str)(sc:Scope)(es:List Expr):Bool:=match mes,es with
 |[],[]=>true
 |m::ms,e::es=>(za e&&zm m N sc e)&&yh ms N sc es
 |_,_=>false
noncomputable def zbg(mes:List ME)(N:List Str)(sc:Scope)(e:Expr):Bool:=match mes with
 |[m]=>(za e&&zm m N sc e)
 |_=>false
noncomputable def ybs(mo:Option ME)(N:List Str)(sc:Scope)(eo:Option Expr):Bool:=match mo,eo with
 |none,none=>true
 |some m,some e=>(za e&&zm m N sc e)
 |_,_=>false
noncomputable def chkC(mo:Option ME)(N:List Str)(sc:Scope)(es:List Expr):Bool:=match mo,es with
 |none,[]=>true
 |some m,[e]=>okT m&&(za e&&zm m N sc e)
 |_,_=>false
end
noncomputable def ye(me:ME)(N:List Str)(sc:Scope)(e:Expr):Bool:=za e&&zm Pm me N sc e
end
noncomputable def spR(ct:Tx)(W:List MV->MH->R MV):Sp:=λvs H Q E=>∃ μ h ms,Rel ct μ h H/\RVs ct μ (Liv μ h) H ms vs/\Po ct E (W ms h) μ h H (kV ct Q)
structure ClsOk (K:PySem.W.Frag) (C:Addr):Prop where
 cl:Cls K C
 ha:ue K (.ref C) "__class__"=some (some (.builtin "object.__class__"))
 hn:wm K (.builtin "object.__class__") "__get__"=some (some (.builtin "getset_descriptor.__get__"))
 tk:wn K (.builtin "object.__class__")=some true
 hm:wu K C (.type "object")=some true
noncomputable def spW(ct:Tx)(Pm:Prog)(wd:String):Addr->Addr->Sp:=λx C vs H Q _=>vs=[.ref x]/\∃ c s,C=ct c/\Pm.word wd c=some s/\∀ H',Same H H'->Q (.str s) H'
noncomputable def zbi(mg:Str->Option Value)(x:String):FV->Prop
 |.int i=>∃ t,mg (Str.ofString x)=some (.int i t)
 |.str s=>∃ t,mg (Str.ofString x)=some (.str s t)
 |_=>False
structure Txt (P:Program) (w:World) (K:PySem.W.Frag) (mg:Str->Option Value) (base:Heap) (Pm:Prog) (ct:Tx) (n:Nat):Prop where
 defs:∀ f d,Pm.defs f=some d->f.toList.contains '.'=false->∃ ps,yaz P w K mg base (Str.ofString f) (2*n) ps (spR ct (run Pm n f))
 inits:∀ c f,Pm.meths c "__init__"=some f->∃ ps,zbo P w K mg base (Str.ofString c) (ct c) (2*n) ps (spR ct (run Pm n f))
 blts:∀ x∈fnNames++tyNames++isTys++["range","zip","enumerate","isinstance","sorted","reversed","set"],mg (Str.ofString x)=none
 fok:∀ c f,Pm.fok c f=true->Cls K (ct c)/\NoAttr K (ct c) (Str.ofString f)
 cls:∀ c t b,Pm.subs c t=some b->ClsOk K (ct c)
 subC:∀ c t b,Pm.subs c t=some b->isTys.contains t=false->mg (Str.ofString t)=some (.ref (ct t))/\ud K (.ref (ct c)) (.ref (ct t))=some b
 subT:∀ c t b,Pm.subs c t=some b->isTys.contains t=true->ud K (.ref (ct c)) (.type t)=some b
 tyC:∀ t c b,Pm.subs c t=some b->isTys.contains t=false->∀ T∈["NoneType","bool","int","str","list","tuple"],ud K (.type T) (.ref (ct t))=some false
 excs:∀ c,Pm.excs c=true->qz K (ct c)/\mg (Str.ofString c)=some (.ref (ct c))
 words:∀ wd,Pm.words wd=true->qz K (ct "DotError")/\mg "DotError"=some (.ref (ct "DotError"))/\(∃ ps,zbt P w K mg base (Str.ofString wd) 1 ps (spW ct Pm wd)) /\
  ∀ c s,Pm.word wd c=some s->qz K (ct c)/\(zr K (ct c)).contains (.ref (ct "DotError"))=true
 xcls:∀ t,Pm.xcls t=true->(if t="ValueError" then mg "ValueError"=none else mg (Str.ofString t)=some (.ref (ct t)))
 xs:∀ c t b,Pm.xsubs c t=some b->ExcK K (ct c)/\ud K (.ref (ct c)) (if t="ValueError" then .type "ValueError" else .ref (ct t))=some b
 dfl:∀ f ds,Pm.dfl f ds=true->∃ ps fa fd dvals,FnOk P w K mg base (CX1 P w) (2*n) fa fd ps (spR ct (run Pm n f))/\Binds K fd ps dvals/\Vals (ds.map V.int) dvals/\Wh K (.ref fa)=true/\mg (Str.ofString f)=some (.ref fa)
 xdot:Pm.xt=true->qz K (ct "DotError")/\mg "DotError"=some (.ref (ct "DotError"))/\∀ c b,Pm.xsubs c c=some b->qz K (ct c)/\(zr K (ct c)).contains (.ref (ct "DotError"))=true
 meths:∀ c m f,Pm.meths c m=some f->m≠"__init__"->Qb6 P w K mg base (2*n) (ct c) (Str.ofString m) (spR ct (run Pm n f))
 mk0:∀ c,Pm.mk0 c=true->Mk0 K (ct c)/\mg (Str.ofString c)=some (.ref (ct c))
 globs:∀ x v,Pm.globs x=some v->zbi mg x v
structure Cc (X:Cx) (Pm:Prog) (ct:Tx) (n:Nat) (Ra:L2.St->Prop) (E:XK) (N:List Str) (sc:Scope):Prop where
 txt:Txt X.prog X.w X.K X.mg X.base Pm ct n
 calm:X.calm=true
 room:Room (2*n+1) X.A
 pas:∀ σ,Ra σ->yr (CX1 X.prog X.w) X σ E
 nm:X.N=N
 sc:X.env.scope=sc
 nd:X.N.Nodup
 hK:X.K=ct.K
section
variable {ct:Tx} {X:Cx} {E:XK} {Pm:Prog} {n:Nat} {Ra:L2.St->Prop} {N:List Str} {sc:Scope}
theorem Cc.units(c:Cc X Pm ct n Ra E N sc):X.A.units+65<cLine:=by have:=c.room.un;lia
theorem yq{x:Str}(hs:X.env.scope=sc)(h:gl sc x=true):Gl X x/\(x==("__debug__":Str))=false/\x≠"__name__":=by
 unfold gl at h;simp only[Wa,beq_iff_eq,Vh,decide_eq_true_eq] at h;refine⟨?_,h.1.2,h.2⟩;show X.env.scope.names.lookup x=_;rw[hs];exact h.1.1
theorem Qa{e:Expr}{es:List Expr}{env:Env}(h:za e=true):starEach (e::es) env=(false,eval e env)::starEach es env:=by
 cases e <;> first|rfl|(simp[za] at h)
theorem zad{e:Expr}(h:za e=true)(op:CmpOp):behindInMarks op e=false:=by
 cases e <;> first|rfl|(simp[za] at h)
theorem Qbk{e:Expr}(h:za e=true):QaY e:=by
 intro o i;cases e <;> first|rfl|(simp[za] at h)
theorem yC{e:Expr}{env:Env}(h:za e=true):∀ x,foldedSetIterable e env x=pure x:=by
 intro x;cases e <;> first|rfl|(simp[za] at h)
theorem qL{e:Expr}{f:Str}{env:Env}{w:Sem Value}(h:zi e=true):attributeBase e f env w=w:=by
 cases e with
 |Call g as ks p =>
  cases g with
  |Name x q =>
   cases as with
   |nil =>
    cases ks with
    |nil =>
     have h':(x==("super":Str))=false:=by simpa[zi] using h
     have e1:(x != ("super":Str))=true:=by simp[bne,h']
     unfold attributeBase;simp only[e1,Bool.true_or,if_true]
    |cons _ _=>rfl
   |cons _ _=>rfl
  |_=>rfl
 |_=>rfl
theorem Qh{me:ME}{e:Expr}(h:ye Pm me N sc e=true):za e=true:=by
 unfold ye at h;exact(Vv.mp h).1
theorem zd{me:ME}{e:Expr}(h:ye Pm me N sc e=true):zm Pm me N sc e=true:=by
 unfold ye at h;exact(Vv.mp h).2
theorem ff{P:Prop}(h:false=true):P:=Uf h
theorem YaR{m:ME}{ms:List ME}{e:Expr}{es:List Expr}(h:yh Pm (m::ms) N sc (e::es)=true):ye Pm m N sc e=true/\yh Pm ms N sc es=true:=Vv.mp (show(ye Pm m N sc e&&yh Pm ms N sc es)=true from h)
theorem ze{env:Env}:∀{es:List Expr},(∀ e∈es,za e=true)->starEach es env=es.map λe=>(false,eval e env)
 |[],_=>rfl
 |e::es,h=>by
  rw[Qa (h e (by simp)),ze λx hx=>h x (by simp[hx])];rfl
theorem yp{env:Env}{pos:Pos}{es:List Expr}(h:∀ e∈es,za e=true):(backTo pos (starEach es env)).any (·.1)=false:=by
 rw[ze h];unfold backTo;rw[vg,List.any_map]
 induction es with
 |nil=>rfl
 |cons e es ih=>simp[Function.comp]
theorem PE.imp{e:Expr}{t t':TE}(p:PE X e t)(k:∀ σ H Q,t' σ H Q->t σ H Q):PE X e t':=λpins s σ H Q I h=>p pins s σ H Q I (k σ H Q h)
theorem PT.imp{e:Expr}{t t':TT}(p:PT X e t)(k:∀ σ H Q,t' σ H Q->t σ H Q):PT X e t':=λpins s σ H Q I h=>p pins s σ H Q I (k σ H Q h)
theorem PW.imp{e:Expr}{t t':TT}(p:PW X e t)(k:∀ σ H Q,t' σ H Q->t σ H Q):PW X e t':=λwh pins s σ H Q I h=>p wh pins s σ H Q I (k σ H Q h)
theorem PA.imp{es:List Expr}{t t':TA}(p:PA X es t)(k:∀ σ H Q,t' σ H Q->t σ H Q):PA X es t':=λpos pins s σ H Q I h=>p pos pins s σ H Q I (k σ H Q h)
theorem PS.imp{e:Stmt}{t t':TS}(p:PS X e t)(k:∀ D σ H,t' D σ H->t D σ H):PS X e t':=λpins s σ H D I h=>p pins s σ H D I (k D σ H h)
theorem PSs.imp{e:List Stmt}{t t':TS}(p:PSs X e t)(k:∀ D σ H,t' D σ H->t D σ H):PSs X e t':=λpins s σ H D I h=>p pins s σ H D I (k D σ H h)
noncomputable def lG(ct:Tx)(tg:Tg):TG:=λv σ H Q=>∃ μ h σs m σs',Rel ct μ h H/\RelSt ct μ h H σ σs/\RV ct μ (Liv μ h) H m v/\zt tg m σs=some σs'/\∀ σ',RelSt ct μ h H σ' σs'->Q σ' H
noncomputable def lGs(ct:Tx)(tgs:List Tg):TGs:=λvs σ H Q=>∃ μ h σs ms σs',Rel ct μ h H/\RelSt ct μ h H σ σs/\RVs ct μ (Liv μ h) H ms vs/\Qv tgs ms σs=some σs'/\∀ σ',RelSt ct μ h H σ' σs'->Q σ' H
theorem PG.imp{e:Expr}{t t':TG}(p:PG X e t)(k:∀ v σ H Q,t' v σ H Q->t v σ H Q):PG X e t':=λpins s σ H v u Q I r h=>p pins s σ H v u Q I r (k v σ H Q h)
theorem PGs.imp{e:List Expr}{t t':TGs}(p:PGs X e t)(k:∀ v σ H Q,t' v σ H Q->t v σ H Q):PGs X e t':=λpins s σ H v u Q I r h=>p pins s σ H v u Q I r (k v σ H Q h)
theorem qT{lo:Str->Bool}{t:Tg}{e:Expr}(h:yt lo N sc t e=true):∀(es:List Expr)(env:Env),assignEach (e::es) env=(false,assign e env)::assignEach es env:=by
 intro es env;cases t with
 |nm i=>cases e <;> first|rfl|(simp[yt] at h)
 |tp ts=>cases e <;> first|rfl|(simp[yt] at h)
theorem yae{lo:Str->Bool}{env:Env}:∀{ts:List Tg}{es:List Expr},QK lo N sc ts es=true->(assignEach es env).length=ts.length/\(assignEach es env).findIdx? (·.1)=none
 |[],[],_=>⟨rfl,rfl⟩
 |[],_::_,h=>by simp[QK] at h
 |_::_,[],h=>by simp[QK] at h
 |t::ts,e::es,h=>by
  simp only[QK,Wa] at h;obtain⟨h1,h2⟩:=yae (env:=env) h.2;rw[qT h.1 es env];exact⟨by simp[h1],by rw[List.findIdx?_cons];simp[h2]⟩
theorem zaf:∀{ts:List Tg}{ms:List MV}{σs σs':MSt},Qv ts ms σs=some σs'->ms.length=ts.length
 |[],[],_,_,_=>rfl
 |[],_::_,_,_,e=>by simp[Qv] at e
 |_::_,[],_,_,e=>by simp[Qv] at e
 |t::ts,m::ms,σs,σs',e=>by
  simp only[Qv,Wb] at e;obtain⟨σ1,_,e2⟩:=e;simp[zaf e2]
mutual
theorem sG{lo:Str->Bool}(hN:X.N=N)(hs:X.env.scope=sc)(nd:X.N.Nodup)(hc:X.calm=true)(hf:∀ x,lo x=true->X.fn x=true):∀(t:Tg)(e:Expr),yt lo N sc t e=true->PG X e (lG ct t)
 |.nm i,e,h=>by
  cases e with
  |Name x p =>
   simp only[yt,QaQ,Wa,beq_iff_eq,xj] at h;obtain⟨h1,h2⟩:=h;have hi:X.N[i]?=some x:=by rw[hN];exact h1
   have hk:Loc X.env.scope x:=by
    rw[hs]
    rcases h2 with h2|⟨_,h2⟩
    ·exact .inl h2
    ·exact .inr h2
   have hf':X.fn x=true\/X.env.scope.names.lookup x=some .local:=by
    rw[hs]
    rcases h2 with h2|⟨hl,h2⟩
    ·exact .inr h2
    ·exact .inl (hf x hl)
   refine PG.imp (ZaW nd hi hk hf') λv σ H Q q=>?_;obtain⟨μ,hh,σs,m,σs',rel,rst,r,e,k⟩:=q;simp[zt] at e;subst e;exact k _ (rst.set i r)
  |_=>simp[yt] at h
 |.tp ts,e,h=>by
  cases e with
  |Tuple es k p =>
   simp only[yt] at h;obtain⟨h1,h2⟩:=yae (env:=X.env) h;refine PG.imp (ybX hc (sGs hN hs nd hc hf ts es h) h1 h2) λv σ H Q q=>?_;obtain⟨μ,hh,σs,m,σs',rel,rst,r,e,k⟩:=q;simp only[zt,Wb] at e;obtain⟨ms,e1,e2⟩:=e;obtain⟨a,vs,rfl,_,rd,rs⟩:=qp e1 r;exact⟨a,vs,rfl,.inl (.inl rd),by rw[rs.length];exact zaf e2,μ,hh,σs,ms,σs',rel,rst,rs,e2,k⟩
  |_=>simp[yt] at h
theorem sGs{lo:Str->Bool}(hN:X.N=N)(hs:X.env.scope=sc)(nd:X.N.Nodup)(hc:X.calm=true)(hf:∀ x,lo x=true->X.fn x=true):∀(ts:List Tg)(es:List Expr),QK lo N sc ts es=true->PGs X es (lGs ct ts)
 |[],es,h=>by
  cases es with
  |nil =>
   refine PGs.imp YbI λv σ H Q q=>?_;obtain⟨μ,hh,σs,ms,σs',rel,rst,rs,e,k⟩:=q;cases ms with
   |nil =>
    simp only[RVs] at rs;subst rs;simp[Qv] at e;subst e;exact⟨rfl,k _ rst⟩
   |cons m ms=>simp[Qv] at e
  |cons e es=>simp[QK] at h
 |t::ts,es,h=>by
  cases es with
  |nil=>simp[QK] at h
  |cons e es =>
   simp only[QK,Wa] at h;refine PGs.imp (Ybx (sG hN hs nd hc hf t e h.1) (sGs hN hs nd hc hf ts es h.2) (by rw[qT h.1 es X.env];rfl)) λv σ H Q q=>?_;obtain⟨μ,hh,σs,ms,σs',rel,rst,rs,e,k⟩:=q;cases ms with
   |nil=>simp[Qv] at e
   |cons m ms =>
    simp only[Qv,Wb] at e;obtain⟨σ1,e1,e2⟩:=e;simp only[RVs] at rs;obtain⟨v1,vr,rfl,r1,r2⟩:=rs;exact⟨v1,vr,rfl,μ,hh,σs,m,σ1,rel,rst,r1,e1,λσ' rst'=>⟨μ,hh,σ1,ms,σs',rel,rst',r2,e2,k⟩⟩
end
end
section
variable {ct:Tx} {X:Cx} {E:XK} {Pm:Prog} {n:Nat} {Ra:L2.St->Prop} {N:List Str} {sc:Scope}
theorem PI.imp{tg e:Expr}{t t':TI}(p:PI X tg e t)(k:∀ σ H Q,t' σ H Q->t σ H Q):PI X tg e t':=λpins s σ H Q I h=>p pins s σ H Q I (k σ H Q h)
noncomputable def Wk(ct:Tx)(J:It)(items:List MV)(g:ZE)(μ1:List Addr)(h1:MH)(H1:Hp):Prop:=∀(i:Nat) μ h H,Ext μ1 h1 H1 μ h H->Rel ct μ h H->GuardOk g h ->
 (i<items.length->J.go i H/\∀ x H2,J.yld i H x H2->∃ m,items[i]?=some m/\Ext μ h H μ h H2/\Rel ct μ h H2/\RV ct μ (Liv μ h) H2 m x)/\(i=items.length->J.stop i H)
noncomputable def Stay(ct:Tx)(b:Bool)(a:Addr)(items:List MV)(g:ZE)(μ1:List Addr)(h1:MH)(H1:Hp):Prop:=∀ μ h H,Ext μ1 h1 H1 μ h H->Rel ct μ h H->GuardOk g h->∃ vs,SqR ct H b a vs/\RVs ct μ (Liv μ h) H items vs
theorem yR{μ:List Addr}{h:MH}{H:Hp}{m:MV}{v:V}{items:List MV}(rel:Rel ct μ h H)(e:Zc h m=some items)(r:RV ct μ (Liv μ h) H m v):∃ b a,v=.ref a/\Stay ct b a items (qd h m) μ h H:=by
 cases m with
 |f x =>
  rcases Yr e with e'|e'|⟨ns,e',rfl⟩
  ·obtain⟨a,vs,rfl,na,rd,rs⟩:=qp e' r;exact⟨true,a,rfl,λμ' h' H' ex _ _=>⟨vs,SqT.of (ex.keep a _ rd na),rs.ext ex⟩⟩
  ·cases x with
   |lst xs =>
    simp only[RV,RF] at r;obtain⟨a,vs,rfl,na,rd,rs⟩:=r;cases e';exact⟨false,a,rfl,λμ' h' H' ex _ _=>⟨vs,.inl (Rd.keep (λo q=>ex.keep a o q na) rd),(RVs.ofF (μ:=μ) rs).ext ex⟩⟩
   |_=>cases e'
  ·cases e';simp only[RV,RF] at r;obtain⟨a,rfl,q⟩:=r;exact⟨false,a,rfl,λμ' h' H' ex _ _=>⟨_,Qaq (L:=Liv μ' h') (q.imp (λ⟨n,o,e⟩=>⟨ex.let.liv a _ e n,o,ex.keep a _ e n⟩) id),ZC ns⟩⟩
 |tup xs =>
  rcases Yr e with e'|e'|⟨ns,e',_⟩
  ·obtain⟨a,vs,rfl,na,rd,rs⟩:=qp e' r;exact⟨true,a,rfl,λμ' h' H' ex _ _=>⟨vs,SqT.of (ex.keep a _ rd na),rs.ext ex⟩⟩
  ·cases e'
  ·cases e'
 |ref i =>
  have e0:Ya h i=some items:=e;simp only[RV] at r;obtain⟨b,eb,rfl⟩:=r;refine⟨false,b,rfl,λμ' h' H' ex rel' g=>?_⟩;have g':Ya h' i=some items:=g (i,items) (by simp[qd,e0]);obtain⟨b',vs,eb',hb,rs⟩:=rel'.lst g';obtain⟨ν,rfl⟩:=ex.pre;rw[xb (ua.mp eb).1,eb] at eb';cases eb';exact⟨vs,SqL.of hb,rs⟩
 |exc c=>cases e
theorem GuardOk.left{g g':ZE}{h:MH}(k:GuardOk (g++g') h):GuardOk g h:=λp hp=>k p (Wf _ hp)
theorem GuardOk.right{g g':ZE}{h:MH}(k:GuardOk (g++g') h):GuardOk g' h:=λp hp=>k p (Xd _ hp)
theorem Zb8{K:PySem.W.Frag}(hK:K=ct.K){b:Bool}{a:Addr}{items:List MV}{g:ZE}{μ1:List Addr}{h1:MH}{H1:Hp}(st:Stay ct b a items g μ1 h1 H1):Wk ct (Its K b a) items g μ1 h1 H1:=by
 intro i μ h H ex rel gd;obtain⟨vs,sq,rs⟩:=st μ h H ex rel gd;have hl:=rs.length;refine⟨λhi=>⟨Its.go (sq.s hK) (by lia),λx H2 y=>?_⟩,λhi=>?_⟩
 ·obtain⟨rfl,e⟩:=Its.yld (sq.s hK) y;obtain⟨m,em,rm⟩:=rs.get' e;exact⟨m,em,Ext.refl _ _ _,rel,rm⟩
 ·rw[hi,<- hl];exact Its.stop (sq.s hK)
theorem qbu{K:PySem.W.Frag}(hK:K=ct.K){b1 b2:Bool}{a1 a2:Addr}{xs ys:List MV}{g g':ZE}{μ1:List Addr}{h1:MH}{H1:Hp}(s1:Stay ct b1 a1 xs g μ1 h1 H1)(s2:Stay ct b2 a2 ys g' μ1 h1 H1) :
  Wk ct (Itz K b1 b2 a1 a2) ((xs.zip ys).map λp=>yi [p.1,p.2]) (g++g') μ1 h1 H1:=by
 intro i μ h H ex rel gd;obtain⟨vs,sq,rs⟩:=s1 μ h H ex rel (GuardOk.left gd);obtain⟨ws,sq',rs'⟩:=s2 μ h H ex rel (GuardOk.right gd);have hl:=rs.length;have hl':=rs'.length;refine⟨λhi=>?_,λhi=>?_⟩
 ·simp only[xc,XB] at hi;refine⟨⟨vs,ws,sq.s hK,sq'.s hK,by lia,by lia⟩,λx H2 y=>?_⟩;obtain⟨T,x1,y1,rfl,hT,rfl,e1,e2⟩:=y;obtain⟨m1,em1,r1⟩:=rs.get' (e1 vs (sq.s hK));obtain⟨m2,em2,r2⟩:=rs'.get' (e2 ws (sq'.s hK));have exn:=Ext.new rel hT (.tup [x1,y1]);refine⟨yi [m1,m2],?_,exn,rel.new hT _,qF (Yau rel hT) Qf (RVs.cons (r1.ext exn) (RVs.cons (r2.ext exn) RVs.nil))⟩;simp only[Vc,List.getElem?_zip_eq_some,ub];exact⟨(m1,m2),⟨em1,em2⟩,rfl⟩
 ·simp only[xc,XB] at hi;refine⟨vs,ws,sq.s hK,sq'.s hK,?_⟩
  lia
theorem Qbq{lo:Int}{k:Nat}{μ1:List Addr}{h1:MH}{H1:Hp}(f:Nat->Int)(hf:∀ i:Nat,f i=lo+i):Wk ct (Itr lo k) ((xa k).map λi=>MV.f (.int (f i))) [] μ1 h1 H1:=by
 intro i μ h H ex rel gd;refine⟨λhi=>?_,λhi=>?_⟩
 ·have hi':i<k:=by simpa using hi
  refine⟨hi',λx H2 y=>?_⟩;obtain⟨rfl,rfl⟩:=y;refine⟨.f (.int (f i)),by simp[hi'],Ext.refl _ _ _,rel,?_⟩;rw[hf];exact Yk _
 ·have hi':i=k:=by simpa using hi
  exact vm hi'.symm
theorem zbK{lo st:Int}{k:Nat}{μ1:List Addr}{h1:MH}{H1:Hp}:Wk ct (ItrS lo st k) ((xa k).map λ(i:Nat)=>MV.f (.int (lo+i*st))) [] μ1 h1 H1:=by
 intro i μ h H ex rel gd;refine⟨λhi=>?_,λhi=>?_⟩
 ·have hi':i<k:=by simpa using hi
  refine⟨hi',λx H2 y=>?_⟩;obtain⟨rfl,rfl⟩:=y;exact⟨.f (.int (lo+i*st)),by simp[hi'],Ext.refl _ _ _,rel,Yk _⟩
 ·have hi':i=k:=by simpa using hi
  exact vm hi'.symm
theorem ybe{μ:List Addr}{L:Addr->Prop}{H:Hp}{m m' m'':MV}{vs:List V}(r:RVs ct μ L H [m,m',m''] vs):∃ v v' v'',vs=[v,v',v'']/\RV ct μ L H m v/\RV ct μ L H m' v'/\RV ct μ L H m'' v'':=by
 simp only[RVs] at r;obtain⟨v,t,rfl,r1,v',t',rfl,r2,v'',t'',rfl,r3,rfl⟩:=r;exact⟨v,v',v'',rfl,r1,r2,r3⟩
noncomputable def lI(ct:Tx)(Ra:L2.St->Prop)(E:XK)(ev:MSt->MH->R (List MV))(it:String):TI:=λσ H R=>∃ μ h σs,Rel ct μ h H/\RelSt ct μ h H σ σs/\Ra σ /\
 Po ct E (ev σs h) μ h H λxs μ1 h1 H1=>∃ items g,itV it xs h1=some (items,g)/\Rel ct μ1 h1 H1/\∀ J,Wk ct J items g μ1 h1 H1->R J H1
theorem zch(hK:X.K=ct.K){tg e:Expr}{ev:MSt->MH->R MV}(h:PE X e (lE ct Ra E ev)):PI X tg e (lI ct Ra E (λσ hh=>(ev σ hh).bind λx h1=>.ok [x] h1) "seq"):=PI.imp (k_sq X.K h) λσ H Q q=>by
 obtain⟨μ,hh,σs,rel,rst,ra,p⟩:=q;refine lE.mk rel rst ra p λm v μ1 h1 H1 ex rel1 rst1 rv p1=>?_;obtain⟨items,g,e1,_,k⟩:=p1.now rel1;simp only[Qav,ub,Prod.mk.injEq] at e1;obtain⟨xs,e2,rfl,rfl⟩:=e1;obtain⟨b,a,rfl,st⟩:=yR rel1 e2 rv;obtain⟨vs,sq,_⟩:=st μ1 h1 H1 (Ext.refl _ _ _) rel1 (λp hp=>by
  cases m with
  |ref i =>
   have e0:Ya h1 i=some xs:=e2;simp[qd,e0] at hp;subst hp;exact e0
  |f _=>simp[qd] at hp
  |tup _=>simp[qd] at hp
  |exc _=>simp[qd] at hp)
 exact⟨b,a,rfl,⟨vs,sq.s hK⟩,k _ (Zb8 hK st)⟩
theorem yJ{h1:MH}{m:MV}{xs:List MV}(e2:Zc h1 m=some xs):GuardOk (qd h1 m) h1:=λp hp=>by
 cases m with
 |ref i =>
  have e0:Ya h1 i=some xs:=e2;simp[qd,e0] at hp;subst hp;exact e0
 |f _=>simp[qd] at hp
 |tup _=>simp[qd] at hp
 |exc _=>simp[qd] at hp
theorem ybj{tg:Expr}{es:List Expr}{p pos:Pos}{ev:MSt->MH->R (List MV)}(hg:Gl X "range")(hm:X.mg "range"=none)(ha:PA X es (lA ct Ra E ev))(hpl:∀ e∈es,za e=true)(hl:(es.length=1\/es.length=2)\/es.length=3)(hn:∀ σ h xs h',ev σ h=.ok xs h'->xs.length=es.length) :
  PI X tg (.Call (.Name "range" p) es [] pos) (lI ct Ra E ev "range"):=by
 rcases es with _|⟨a,_|⟨b,_|⟨c,_|⟨d,es⟩⟩⟩⟩
 ·simp at hl
 ·refine PI.imp (Ya7 hg hm ha (ze hpl)) λσ H Q q=>?_;obtain(⟨μ,hh,σs,rel,rst,ra,p⟩):=q;refine⟨μ,hh,σs,rel,rst,ra,?_⟩;cases er:ev σs hh with
  |exc c h'=>rw[er] at p;exact p
  |stuck=>rw[er] at p;exact p
  |ok xs h' =>
   rw[er] at p;have hx:=hn _ _ _ _ er;intro μ' H' ex rel' vs rvs;obtain(⟨items,g,e1,_,k⟩):=p μ' H' ex rel'
   rcases xs with _|⟨m,_|⟨m2,xs⟩⟩
   ·simp at hx
   ·obtain(⟨v,rfl,rm⟩):=yn rvs;simp only[zb4,Wb] at e1;obtain(⟨j,e2,e3⟩):=e1;have:=Yd e2;subst this;split at e3
    next c =>
     simp only[Option.some.injEq,Prod.mk.injEq] at e3;obtain(⟨rfl,rfl⟩):=e3;rw[Zg rm];exact⟨j,rfl,c.1,c.2,k _ (Qbq _ λi=>by simp)⟩
    next=>cases e3
   ·simp at hx
 ·refine PI.imp (Ya8 hg hm ha (ze hpl) (ze λe he=>hpl e (by simp at he;simp[he]))) λσ H Q q=>?_;obtain(⟨μ,hh,σs,rel,rst,ra,p⟩):=q;refine⟨μ,hh,σs,rel,rst,ra,?_⟩;cases er:ev σs hh with
  |exc c h'=>rw[er] at p;exact p
  |stuck=>rw[er] at p;exact p
  |ok xs h' =>
   rw[er] at p;have hx:=hn _ _ _ _ er;intro μ' H' ex rel' vs rvs;obtain(⟨items,g,e1,_,k⟩):=p μ' H' ex rel'
   rcases xs with _|⟨m,_|⟨m2,_|⟨m3,xs⟩⟩⟩
   ·simp at hx
   ·simp at hx
   ·obtain(⟨v,v',rfl,rm,rm'⟩):=yN rvs;simp only[qb5,Wb] at e1;obtain(⟨i,e2,j,e3,e4⟩):=e1;have:=Yd e2;subst this;have:=Yd e3;subst this;split at e4
    next c =>
     simp only[Option.some.injEq,Prod.mk.injEq] at e4;obtain(⟨rfl,rfl⟩):=e4;rw[Zg rm,Zg rm'];exact⟨i,j,rfl,⟨c.1,c.2.1,c.2.2.1,c.2.2.2⟩,k _ (Qbq _ λi=>rfl)⟩
    next=>cases e4
   ·simp at hx
 ·refine PI.imp (zbb hg hm ha (ze hpl) (ze λe he=>hpl e (by simp at he;rcases he with he|he <;> simp[he]))) λσ H Q q=>?_;obtain(⟨μ,hh,σs,rel,rst,ra,p⟩):=q;refine⟨μ,hh,σs,rel,rst,ra,?_⟩;cases er:ev σs hh with
  |exc c h'=>rw[er] at p;exact p
  |stuck=>rw[er] at p;exact p
  |ok xs h' =>
   rw[er] at p;have hx:=hn _ _ _ _ er;intro μ' H' ex rel' vs rvs;obtain(⟨items,g,e1,_,k⟩):=p μ' H' ex rel'
   rcases xs with _|⟨m,_|⟨m2,_|⟨m3,_|⟨m4,xs⟩⟩⟩⟩
   ·simp at hx
   ·simp at hx
   ·simp at hx
   ·obtain(⟨v,v',v'',rfl,rm,rm',rm''⟩):=ybe rvs;simp only[yb9,Wb] at e1;obtain(⟨i,e2,j,e3,l,e4,e5⟩):=e1;have:=Yd e2;subst this;have:=Yd e3;subst this;have:=Yd e4;subst this;split at e5
    next c =>
     simp only[Option.some.injEq,Prod.mk.injEq] at e5;obtain(⟨rfl,rfl⟩):=e5;rw[Zg rm,Zg rm',Zg rm''];exact⟨i,j,l,rfl,c,k _ zbK⟩
    next=>cases e5
   ·simp at hx
 ·simp at hl
theorem qca(hK:X.K=ct.K){a b:Expr}{es:List Expr}{kt:Nat}{pt p pos:Pos}{ev:MSt->MH->R (List MV)}(hg:Gl X "zip")(hm:X.mg "zip"=none)(ha:PA X [a,b] (lA ct Ra E ev))(hpl:∀ e∈[a,b],za e=true)(hn:∀ σ h xs h',ev σ h=.ok xs h'->xs.length=2) :
  PI X (.Tuple es kt pt) (.Call (.Name "zip" p) [a,b] [] pos) (lI ct Ra E ev "zip"):=by
 refine PI.imp (k_zip X.K hg hm ha (ze hpl) (ze λe he=>hpl e (by simp at he;simp[he]))) λσ H Q q=>?_;obtain⟨μ,hh,σs,rel,rst,ra,p⟩:=q;refine⟨μ,hh,σs,rel,rst,ra,?_⟩;cases er:ev σs hh with
 |exc c h'=>rw[er] at p;exact p
 |stuck=>rw[er] at p;exact p
 |ok xs h' =>
  rw[er] at p;have hx:=hn _ _ _ _ er;intro μ' H' ex rel' vs rvs;obtain⟨items,g,e1,_,k⟩:=p μ' H' ex rel'
  rcases xs with _|⟨m,_|⟨m2,_|⟨m3,xs⟩⟩⟩
  ·simp at hx
  ·simp at hx
  ·obtain⟨v,v',rfl,rm,rm'⟩:=yN rvs;simp only[YaW,Wb,ub,Prod.mk.injEq] at e1;obtain⟨us,e2,ws,e3,rfl,rfl⟩:=e1;obtain⟨b1,a1,rfl,s1⟩:=yR rel' e2 rm;obtain⟨b2,a2,rfl,s2⟩:=yR rel' e3 rm';obtain⟨vs1,q1,_⟩:=s1 _ _ _ (Ext.refl _ _ _) rel' (yJ e2);obtain⟨vs2,q2,_⟩:=s2 _ _ _ (Ext.refl _ _ _) rel' (yJ e3);exact⟨b1,b2,a1,a2,rfl,⟨vs1,q1.s hK⟩,⟨vs2,q2.s hK⟩,k _ (qbu hK s1 s2)⟩
  ·simp at hx
end
theorem ZB{a b:String}(h:Str.ofString a=Str.ofString b):a=b:=by
 rw[Str.ofString_eq_toList,Str.ofString_eq_toList] at h;injection h with h
 have h2:a.toList.map Char.toNat=b.toList.map Char.toNat:=by simpa using congrArg WE h
 have h3:a.toList=b.toList:=by
  refine(List.map_inj_right λx y e=>?_).mp h2;exact Char.ext (UInt32.toNat_inj.mp e)
 exact String.ext h3
section
variable {ct:Tx} {X:Cx} {E:XK} {Pm:Prog} {n:Nat} {Ra:L2.St->Prop} {N:List Str} {sc:Scope}
noncomputable def tst(ev:MSt->MH->R MV):MSt->MH->R Bool:=λσ h=>(ev σ h).bind λx h1=>opt (yx x) λk=>.ok k h1
theorem zbm{ev:MSt->MH->R MV}{σ:L2.St}{H:Hp}{Q:Bool->Hp->Prop}(q:lT ct Ra E (tst ev) σ H Q):lE ct Ra E ev σ H λx H'=>∃ k,x=.bl k/\Q k H':=by
 obtain⟨μ,h,σs,rel,rst,ra,p⟩:=q;refine lE.mk rel rst ra p λm v μ1 h1 H1 ex rel1 rst1 rv p1=>?_;obtain⟨k,e,p2⟩:=Po.opt p1;have:=YZ e;subst this;exact⟨k,Zaj rv,p2.now rel1⟩
theorem Ya1{e:Expr}{t:TE}{ev:MSt->MH->R MV}(p:PE X e t)(pt:PT X e (ZbW t))(k:∀ σ H Q,lE ct Ra E ev σ H Q->t σ H Q):PE X e (lE ct Ra E ev)/\PT X e (lT ct Ra E (tst ev)) :=
 ⟨PE.imp p k,PT.imp pt λσ H Q q=>k σ H _ (zbm q)⟩
theorem yd{e:Expr}{ev:MSt->MH->R MV}(p:PE X e (lE ct Ra E ev))(he:∀ whole,isTrue e X.env whole=(do let v<-whole;standAt e.pos;holding [v] (truthy v)):=by intro _;rfl):PE X e (lE ct Ra E ev)/\PT X e (lT ct Ra E (tst ev)) :=
 ⟨p,PT.imp (Qcb p he) λσ H Q q=>zbm q⟩
section
variable {ea eb ec:MSt->MH->R MV} {a b c:Expr} {pos:Pos}
theorem Z0{v:V}{x:FV}(h:PE X a (tC v))(r:∀ μ L H,RV ct μ L H (.f x) v):PE X a (lE ct Ra E λ_ h=>.ok (.f x) h):=PE.imp h λσ H Q q=>by
 obtain⟨μ,hh,σs,rel,rst,ra,p⟩:=q;exact p.now rel v (r _ _ _)
theorem e_var{i:Nat}{x:Str}(hN:X.N[i]?=some x)(hv:zaC X.env.scope x=true):PE X (.Name x pos) (lE ct Ra E λσ h=>opt ((σ[i]?).join) λv=>.ok v h):=by
 unfold zaC at hv;simp only[Wa,xj,beq_iff_eq,Vh] at hv;refine PE.imp (Qbp hN (by rcases hv.1.1 with (h|h)|h;exact .inl h;exact .inr (.inl h);exact .inr (.inr h)) hv.1.2 hv.2) λσ H Q q=>?_;obtain⟨μ,hh,σs,rel,rst,ra,p⟩:=q;obtain⟨m,e,p⟩:=Po.opt p;have e':σs[i]?=some (some m):=by
  cases q:σs[i]? with
  |none=>rw[q] at e;cases e
  |some z=>rw[q] at e;exact congrArg some e
 obtain⟨v,e2,rv⟩:=rst.at_ i m e';exact⟨v,e2,p.now rel v rv⟩
theorem e_bin(fz:Bool)(op:BO)(ha:PE X a (lE ct Ra E ea))(hb:PE X b (lE ct Ra E eb)):PE X (.BinOp a (mOp op) b pos) (lE ct Ra E λσ h=>(ea σ h).bind λx h1=>(eb σ h1).bind λy h2=>Yg fz op x y h2) :=
 PE.imp (pe_op (yb2 (ct:=ct) (E:=E) fz op) ha hb) λσ H Q q=>by
  obtain⟨μ,h,σs,rel,rst,ra,p⟩:=q;exact lE.mk rel rst ra p λm v μ1 h1 H1 ex rel1 rst1 rv p1=>lE.mk rel1 rst1 ra p1 λm2 v2 μ2 h2 H2 ex2 rel2 rst2 rv2 p2=>⟨μ2,h2,m,m2,rel2,rv.ext ex2,rv2,p2⟩
theorem e_neg(ha:PE X a (lE ct Ra E ea)):PE X (.UnaryOp .USub a pos) (lE ct Ra E λσ h=>(ea σ h).bind λx h1=>opt (yb x) λi=>.ok (.f (.int (-i))) h1) :=
 PE.imp (pe_un QbY ha) λσ H Q q=>by
  obtain⟨μ,h,σs,rel,rst,ra,p⟩:=q;refine lE.mk rel rst ra p λm v μ1 h1 H1 ex rel1 rst1 rv p1=>?_;obtain⟨i,e,p2⟩:=Po.opt p1;have:=Yd e;subst this;exact⟨i,Zg rv,p2.now rel1 _ (Yk _)⟩
theorem e_cmp(hK:X.K=ct.K)(op:CO)(hu:X.A.units+65<cLine)(ha:PE X a (lE ct Ra E ea))(hb:PE X b (lE ct Ra E eb))(hp:za b=true) :
  PE X (.Compare a [Zbw op] [b] pos) (lE ct Ra E λσ h=>(ea σ h).bind λx h1=>(eb σ h1).bind λy h2=>opt (yL op x y h2) λk=>.ok (.f (.bl k)) h2) /\
  PT X (.Compare a [Zbw op] [b] pos) (lT ct Ra E (tst λσ h=>(ea σ h).bind λx h1=>(eb σ h1).bind λy h2=>opt (yL op x y h2) λk=>.ok (.f (.bl k)) h2)) :=
 Ya1 (zbO (Ybv (ct:=ct) hK hu op) ha hb (zad hp _)) (QbA (Ybv (ct:=ct) hK hu op) ha hb (zad hp _)) λσ H Q q=>by
  obtain⟨μ,h,σs,rel,rst,ra,p⟩:=q;refine lE.mk rel rst ra p λm v μ1 h1 H1 ex rel1 rst1 rv p1=>lE.mk rel1 rst1 ra p1 λm2 v2 μ2 h2 H2 ex2 rel2 rst2 rv2 p2=>?_;obtain⟨k,e,p3⟩:=Po.opt p2;exact⟨μ2,h2,m,m2,k,rel2,rv.ext ex2,rv2,e,p3.now rel2 _ (yB _)⟩
theorem Ybr{μ:List Addr}{L:Addr->Prop}{H:Hp}{m:MV}{v:V}(r:RV ct μ L H m v):Zr m=decide (v=.non):=by
 cases m with
 |f x =>
  cases x with
  |non=>simp only[RV,RF] at r;subst r;rfl
  |bl _=>simp only[RV,RF] at r;subst r;rfl
  |int _=>simp only[RV,RF] at r;subst r;rfl
  |str _=>simp only[RV,RF] at r;subst r;rfl
  |tup _=>simp only[RV,RF] at r;obtain⟨_,_,rfl,_⟩:=r;rfl
  |lst _=>simp only[RV,RF] at r;obtain⟨_,_,rfl,_⟩:=r;rfl
  |obj _ _ _=>simp only[RV,RF] at r;obtain⟨_,_,_,rfl,_⟩:=r;rfl
  |scr _=>simp only[RV,RF] at r;obtain⟨_,rfl,_⟩:=r;rfl
  |tab _=>simp only[RV,RF] at r;obtain⟨_,_,rfl,_⟩:=r;rfl
  |msk _=>simp only[RV,RF] at r;obtain⟨_,_,rfl,_⟩:=r;rfl
 |ref _=>simp only[RV] at r;obtain⟨_,_,rfl⟩:=r;rfl
 |tup _=>simp only[RV] at r;obtain⟨_,_,rfl,_⟩:=r;rfl
 |exc _=>simp only[RV] at r;obtain⟨_,rfl,_⟩:=r;rfl
theorem Zcb{j:Nat}{p2:Pos}(ha:PE X a (lE ct Ra E ea)) :
  PE X (.Compare a [.IsNot] [.Constant .none j p2] pos) (lE ct Ra E λσ h=>(ea σ h).bind λx h1=>.ok (.f (.bl (!Zr x))) h1) /\
  PT X (.Compare a [.IsNot] [.Constant .none j p2] pos) (lT ct Ra E (tst λσ h=>(ea σ h).bind λx h1=>.ok (.f (.bl (!Zr x))) h1)) :=
 Ya1 (Qb3 (za4 ha)) (zb0 (za4 ha)) λσ H Q q=>by
  obtain⟨μ,h,σs,rel,rst,ra,p⟩:=q;refine lE.mk rel rst ra p λm v μ1 h1 H1 ex rel1 rst1 rv p1=>?_;rw[<- Ybr rv];exact p1.now rel1 _ (yB _)
theorem e_not(ha:PE X a (lE ct Ra E ea))(ta:PT X a (lT ct Ra E (tst ea))) :
  PE X (.UnaryOp .Not a pos) (lE ct Ra E λσ h=>(ea σ h).bind λx h1=>opt (yx x) λk=>.ok (.f (.bl (!k))) h1) /\
  PT X (.UnaryOp .Not a pos) (lT ct Ra E (tst λσ h=>(ea σ h).bind λx h1=>opt (yx x) λk=>.ok (.f (.bl (!k))) h1)):=by
 refine⟨PE.imp (qcf ha) λσ H Q q=>?_,PT.imp (Yb4 ta) λσ H Q q=>?_⟩
 ·obtain⟨μ,h,σs,rel,rst,ra,p⟩:=q;refine lE.mk rel rst ra p λm v μ1 h1 H1 ex rel1 rst1 rv p1=>?_;obtain⟨k,e,p2⟩:=Po.opt p1;have:=YZ e;subst this;exact⟨k,Zaj rv,p2.now rel1 _ (yB _)⟩
 ·obtain⟨μ,h,σs,rel,rst,ra,p⟩:=q;refine⟨μ,h,σs,rel,rst,ra,?_⟩;dsimp only[tst] at p ⊢;cases er:ea σs h with
  |stuck=>rw[er] at p;exact p
  |exc c h'=>rw[er] at p;exact p
  |ok x h' =>
   rw[er] at p;simp only[R.bind_ok] at p ⊢;cases eb:yx x with
   |none=>rw[eb] at p;exact p
   |some k =>
    rw[eb] at p;exact p
theorem e_ite(tc:PT X c (lT ct Ra E (tst ec)))(ha:PE X a (lE ct Ra E ea))(hb:PE X b (lE ct Ra E eb)) :
  PE X (.IfExp c a b pos) (lE ct Ra E λσ h=>(ec σ h).bind λx h1=>opt (yx x) λk=>if k=true then ea σ h1 else eb σ h1) :=
 PE.imp (Qbz tc ha hb) λσ H Q q=>by
  obtain⟨μ,h,σs,rel,rst,ra,p⟩:=q;have p':Po ct E ((tst ec σs h).bind λk h1=>if k=true then ea σs h1 else eb σs h1) μ h H (kV ct Q):=by
   dsimp only[tst] at p ⊢;cases er:ec σs h with
   |stuck=>rw[er] at p;exact p
   |exc c h'=>rw[er] at p;exact p
   |ok x h' =>
    rw[er] at p;simp only[R.bind_ok] at p ⊢;cases eb:yx x with
    |none=>rw[eb] at p;exact p
    |some k=>rw[eb] at p;exact p
  refine lT.mk rel rst ra p' λk μ1 h1 H1 ex rel1 rst1 p1=>?_;cases k with
  |true=>exact⟨μ1,h1,σs,rel1,rst1,ra,p1⟩
  |false=>exact⟨μ1,h1,σs,rel1,rst1,ra,p1⟩
theorem e_frz(ha:PE X a (lE ct Ra E ea)):PE X a (lE ct Ra E λσ h=>(ea σ h).bind λx h1=>YR x h1):=PE.imp ha λσ H Q q=>by
 obtain⟨μ,h,σs,rel,rst,ra,p⟩:=q;refine lE.mk rel rst ra p λm v μ1 h1 H1 ex rel1 rst1 rv p1=>?_;obtain⟨x,h',ex',rel',rv',k⟩:=Ybi rel1 rv p1;exact k v rv'
theorem e_sub(hK:X.K=ct.K)(ha:PE X a (lE ct Ra E ea))(hb:PE X b (lE ct Ra E eb))(hp:za b=true) :
  PE X (.Subscript a b pos) (lE ct Ra E λσ h=>(ea σ h).bind λx h1=>(eb σ h1).bind λy h2=>opt (Zc h2 x) λxs=>opt (yb y) λk=>opt (atM xs k) λv=>.ok v h2) :=
 PE.imp (pe_ix (zbS (ct:=ct) hK) ha hb (Qbk hp)) λσ H Q q=>by
  obtain⟨μ,h,σs,rel,rst,ra,p⟩:=q;refine lE.mk rel rst ra p λm v μ1 h1 H1 ex rel1 rst1 rv p1=>lE.mk rel1 rst1 ra p1 λm2 v2 μ2 h2 H2 ex2 rel2 rst2 rv2 p2=>?_;obtain⟨xs,e1,p3⟩:=Po.opt p2;obtain⟨k,e2,p4⟩:=Po.opt p3;obtain⟨w,e3,p5⟩:=Po.opt p4;have:=Yd e2;subst this;exact⟨μ2,h2,m,k,xs,w,rel2,rv.ext ex2,Zg rv2,e1,e3,p5.now rel2⟩
end
end
section
variable {ct:Tx} {X:Cx} {E:XK} {Pm:Prog} {n:Nat} {Ra:L2.St->Prop} {N:List Str} {sc:Scope}
noncomputable def Bo(ct:Tx)(X:Cx)(Ra:L2.St->Prop)(E:XK)(Pm:Prog)(n:Nat):List ME->List Expr->Prop
 |[],[]=>True
 |m::ms,e::es=>(za e=true/\PE X e (lE ct Ra E (ya Pm (run Pm n) m))/\(okT m=true->PT X e (lT ct Ra E (tst (ya Pm (run Pm n) m)))))/\Bo ct X Ra E Pm n ms es
 |_,_=>False
theorem Bo.pa:∀{ms:List ME}{es:List Expr},Bo ct X Ra E Pm n ms es->PA X es (lA ct Ra E (Ye Pm (run Pm n) ms))
 |[],[],_=>PA.imp yw λσ H Q q=>by
  obtain⟨μ,h,σs,rel,rst,ra,p⟩:=q;simp only[Ye] at p;exact p.now rel [] RVs.nil
 |[],_::_,b=>b.elim
 |_::_,[],b=>b.elim
 |m::ms,e::es,b=>PA.imp (yj b.1.2.1 (Bo.pa b.2) (Qa b.1.1)) λσ H Q q=>by
  obtain⟨μ,h,σs,rel,rst,ra,p⟩:=q;simp only[Ye] at p;refine lE.mk rel rst ra p λm' v μ1 h1 H1 ex rel1 rst1 rv p1=>?_;refine lA.mk rel1 rst1 ra p1 λms' vs μ2 h2 H2 ex2 rel2 rst2 rvs p2=>?_;exact p2.now rel2 _ (RVs.cons (rv.ext ex2) rvs)
theorem Bo.plain:∀{ms:List ME}{es:List Expr},Bo ct X Ra E Pm n ms es->∀ e∈es,za e=true
 |[],[],_,e,he=>by simp at he
 |[],_::_,b,_,_=>b.elim
 |_::_,[],b,_,_=>b.elim
 |m::ms,e::es,b,x,hx=>by
  rcases Ua.mp hx with rfl|hx
  ·exact b.1.1
  ·exact Bo.plain b.2 x hx
theorem Bo.length:∀{ms:List ME}{es:List Expr},Bo ct X Ra E Pm n ms es->ms.length=es.length
 |[],[],_=>rfl
 |[],_::_,b=>b.elim
 |_::_,[],b=>b.elim
 |m::ms,e::es,b=>by simp[Bo.length b.2]
theorem qv{W:String->List MV->MH->R MV}:∀{ms:List ME}{σ:MSt}{h:MH}{xs:List MV}{h':MH},Ye Pm W ms σ h=.ok xs h'->xs.length=ms.length
 |[],σ,h,xs,h',e=>by simp only[Ye,R.ok.injEq] at e;simp[<- e.1]
 |m::ms,σ,h,xs,h',e=>by
  simp only[Ye] at e;cases e1:ya Pm W m σ h with
  |stuck=>rw[e1] at e;cases e
  |exc c h2=>rw[e1] at e;cases e
  |ok x h1 =>
   rw[e1] at e;simp only[R.bind_ok] at e;cases e2:Ye Pm W ms σ h1 with
   |stuck=>rw[e2] at e;cases e
   |exc c h2=>rw[e2] at e;cases e
   |ok ys h2 =>
    rw[e2] at e;simp only[R.bind_ok,R.ok.injEq] at e;rw[<- e.1,Ue,Ue,qv e2]
theorem YbS{pos:Pos}:∀{ms:List ME}{es:List Expr},Bo ct X Ra E Pm n ms es->ms.all okT=true->PE X (.BoolOp .And es pos) (lE ct Ra E (Zl Pm (run Pm n) ms))/\PW X (.BoolOp .And es pos) (lT ct Ra E (tst (Zl Pm (run Pm n) ms)))
 |[],[],_,_=>⟨λpins s σ H Q I q=>by
   obtain⟨μ,h,σs,rel,rst,ra,p⟩:=q;simp only[Zl] at p;exact p.elim,λwh pins s σ H Q I q=>by
   obtain⟨μ,h,σs,rel,rst,ra,p⟩:=q;simp only[tst,Zl] at p;exact p.elim⟩
 |[],_::_,b,_=>b.elim
 |_::_,[],b,_=>b.elim
 |[m],[e],b,ht=>by
  simp at ht;refine⟨PE.imp (Qbr b.1.2.1) λσ H Q q=>?_,PW.imp (ybR (b.1.2.2 ht)) λσ H Q q=>?_⟩
  ·simpa only[Zl] using q
  ·have:Zl Pm (run Pm n) [m]=ya Pm (run Pm n) m:=by funext σ h;simp only[Zl]
   rw[this] at q;exact q
 |[m],_::_::_,b,_=>b.2.elim
 |_::_::_,[_],b,_=>b.2.elim
 |m::m'::ms,e::e'::es,b,ht=>by
  have ht':okT m=true/\(m'::ms).all okT=true:=by simpa using ht
  obtain⟨i1,i2⟩:=YbS (ms:=m'::ms) (es:=e'::es) (pos:=pos) b.2 ht'.2;refine⟨PE.imp (zb8 b.1.2.1 i1) λσ H Q q=>?_,PW.imp (qce (b.1.2.2 ht'.1) i2) λσ H Q q=>?_⟩
  ·obtain⟨μ,h,σs,rel,rst,ra,p⟩:=q;simp only[Zl] at p;refine lE.mk rel rst ra p λx v μ1 h1 H1 ex rel1 rst1 rv p1=>?_;obtain⟨k,ek,p2⟩:=Po.opt p1;have:=YZ ek;subst this;refine⟨k,Zaj rv,?_⟩;cases k with
   |true=>exact⟨μ1,h1,σs,rel1,rst1,ra,p2⟩
   |false=>exact p2.now rel1 _ (yB _)
  ·obtain⟨μ,h,σs,rel,rst,ra,p⟩:=q;have p':Po ct E ((tst (ya Pm (run Pm n) m) σs h).bind λk h1=>if k=true then tst (Zl Pm (run Pm n) (m'::ms)) σs h1 else .ok false h1) μ h H (λb _ _ H'=>Q b H'):=by
    simp only[tst,Zl] at p ⊢;cases er:ya Pm (run Pm n) m σs h with
    |stuck=>rw[er] at p;exact p
    |exc c h'=>rw[er] at p;exact p
    |ok x h' =>
     rw[er] at p;simp only[R.bind_ok] at p ⊢;cases eb:yx x with
     |none=>rw[eb] at p;exact p
     |some k =>
      rw[eb] at p;cases k with
      |true=>exact p
      |false=>exact p
   refine lT.mk rel rst ra p' λk μ1 h1 H1 ex rel1 rst1 p1=>?_;cases k with
   |true=>exact⟨μ1,h1,σs,rel1,rst1,ra,p1⟩
   |false=>exact p1.now rel1
theorem e_or{pos:Pos}:∀{ms:List ME}{es:List Expr},Bo ct X Ra E Pm n ms es->ms.all okT=true->PE X (.BoolOp .Or es pos) (lE ct Ra E (Zs Pm (run Pm n) ms))/\PW X (.BoolOp .Or es pos) (lT ct Ra E (tst (Zs Pm (run Pm n) ms)))
 |[],[],_,_=>⟨λpins s σ H Q I q=>by
   obtain⟨μ,h,σs,rel,rst,ra,p⟩:=q;simp only[Zs] at p;exact p.elim,λwh pins s σ H Q I q=>by
   obtain⟨μ,h,σs,rel,rst,ra,p⟩:=q;simp only[tst,Zs] at p;exact p.elim⟩
 |[],_::_,b,_=>b.elim
 |_::_,[],b,_=>b.elim
 |[m],[e],b,ht=>by
  simp at ht;refine⟨PE.imp (Qbr b.1.2.1) λσ H Q q=>?_,PW.imp (Ycb (b.1.2.2 ht)) λσ H Q q=>?_⟩
  ·simpa only[Zs] using q
  ·have:Zs Pm (run Pm n) [m]=ya Pm (run Pm n) m:=by funext σ h;simp only[Zs]
   rw[this] at q;exact q
 |[m],_::_::_,b,_=>b.2.elim
 |_::_::_,[_],b,_=>b.2.elim
 |m::m'::ms,e::e'::es,b,ht=>by
  have ht':okT m=true/\(m'::ms).all okT=true:=by simpa using ht
  obtain⟨i1,i2⟩:=e_or (ms:=m'::ms) (es:=e'::es) (pos:=pos) b.2 ht'.2;refine⟨PE.imp (pe_or b.1.2.1 i1) λσ H Q q=>?_,PW.imp (pw_or (b.1.2.2 ht'.1) i2) λσ H Q q=>?_⟩
  ·obtain⟨μ,h,σs,rel,rst,ra,p⟩:=q;simp only[Zs] at p;refine lE.mk rel rst ra p λx v μ1 h1 H1 ex rel1 rst1 rv p1=>?_;obtain⟨k,ek,p2⟩:=Po.opt p1;have:=YZ ek;subst this;refine⟨k,Zaj rv,?_⟩;cases k with
   |false=>exact⟨μ1,h1,σs,rel1,rst1,ra,p2⟩
   |true=>exact p2.now rel1 _ (yB _)
  ·obtain⟨μ,h,σs,rel,rst,ra,p⟩:=q;have p':Po ct E ((tst (ya Pm (run Pm n) m) σs h).bind λk h1=>if k=true then .ok true h1 else tst (Zs Pm (run Pm n) (m'::ms)) σs h1) μ h H (λb _ _ H'=>Q b H'):=by
    simp only[tst,Zs] at p ⊢;cases er:ya Pm (run Pm n) m σs h with
    |stuck=>rw[er] at p;exact p
    |exc c h'=>rw[er] at p;exact p
    |ok x h' =>
     rw[er] at p;simp only[R.bind_ok] at p ⊢;cases eb:yx x with
     |none=>rw[eb] at p;exact p
     |some k =>
      rw[eb] at p;cases k with
      |true=>exact p
      |false=>exact p
   refine lT.mk rel rst ra p' λk μ1 h1 H1 ex rel1 rst1 p1=>?_;cases k with
   |false=>exact⟨μ1,h1,σs,rel1,rst1,ra,p1⟩
   |true=>exact p1.now rel1
section
variable {ea:MSt->MH->R MV} {es:List Expr} {ev:MSt->MH->R (List MV)} {a:Expr} {pos:Pos}
theorem e_tup{k:Nat}(ha:PA X es (lA ct Ra E ev))(hl:∀ σ h xs h',ev σ h=.ok xs h'->xs.length<=sizeLine):PE X (.Tuple es k pos) (lE ct Ra E λσ h=>(ev σ h).bind λxs h1=>.ok (yi xs) h1):=PE.imp (qb8 ha) λσ H Q q=>by
 obtain⟨μ,h,σs,rel,rst,ra,p⟩:=q;refine⟨μ,h,σs,rel,rst,ra,?_⟩;dsimp only at p;cases er:ev σs h with
 |stuck=>rw[er] at p;exact p
 |exc c h'=>rw[er] at p;exact p
 |ok xs h' =>
  rw[er] at p;intro μ1 H1 ex rel1 vs rvs;exact⟨by rw[rvs.length];exact hl _ _ _ _ er,QO rel1 rvs (Po.start ex p)⟩
theorem e_lst(fz:Bool)(ha:PA X es (lA ct Ra E ev))(hl:∀ σ h xs h',ev σ h=.ok xs h'->xs.length<=sizeLine):PE X (.List es pos) (lE ct Ra E λσ h=>(ev σ h).bind λxs h1=>yk fz xs h1):=PE.imp (Qb9 ha) λσ H Q q=>by
 obtain⟨μ,h,σs,rel,rst,ra,p⟩:=q;refine⟨μ,h,σs,rel,rst,ra,?_⟩;dsimp only at p;cases er:ev σs h with
 |stuck=>rw[er] at p;exact p
 |exc c h'=>rw[er] at p;exact p
 |ok xs h' =>
  rw[er] at p;intro μ1 H1 ex rel1 vs rvs;exact⟨by rw[rvs.length];exact hl _ _ _ _ er,Qt rel1 rvs (Po.start ex p)⟩
theorem PO.imp{e:Option Expr}{t t':TO}(p:PO X e t)(k:∀ σ H Q,t' σ H Q->t σ H Q):PO X e t':=λpins s σ H Q I h=>p pins s σ H Q I (k σ H Q h)
theorem ZbJ(hK:X.K=ct.K)(fz:Bool){lo hi:Option Expr}{el eh:MSt->MH->R (Option Int)}{p2:Pos}(ha:PE X a (lE ct Ra E ea))(hl:PO X lo (lO ct Ra E el))(hh:PO X hi (lO ct Ra E eh)) :
  PE X (.Subscript a (.Slice lo hi none p2) pos) (lE ct Ra E λσ h=>(ea σ h).bind λx h1=>(el σ h1).bind λl h2=>(eh σ h2).bind λu h3=>Y9 fz x l u h3) :=
 PE.imp (zbs (qbF (ct:=ct) (E:=E) hK fz) ha hl hh) λσ H Q q=>by
  obtain⟨μ,h,σs,rel,rst,ra,p⟩:=q;refine lE.mk rel rst ra p λm v μ1 h1 H1 ex rel1 rst1 rv p1=>?_;refine lO.mk rel1 rst1 ra p1 λl μ2 h2 H2 ex2 rel2 rst2 p2=>?_;refine lO.mk rel2 rst2 ra p2 λu μ3 h3 H3 ex3 rel3 rst3 p3=>?_;exact⟨μ3,h3,m,rel3,(rv.ext ex2).ext ex3,p3⟩
theorem Ya2{L:Addr->Prop}{H:Hp}{f:String}:∀{ns:List String}{xs:List FV}{fs:List (Str×V)} {x:FV},fs.map Vq=ns.map Str.ofString->RFs ct L H xs (fs.map Ul)->Yaa f ns xs=some x->∃ v,fs.lookup (Str.ofString f)=some v/\RF ct L H x v
 |[],_,_,_,_,_,e=>by simp[Yaa] at e
 |_::_,[],_,_,_,_,e=>by simp[Yaa] at e
 |m::ns,y::xs,fs,x,h1,h2,e=>by
  cases fs with
  |nil=>simp at h1
  |cons p fs =>
   obtain⟨k,u⟩:=p;simp only[Wd,List.cons.injEq] at h1;simp only[Wd,RFs] at h2;obtain⟨v,r,hvr,r1,r2⟩:=h2;simp only[List.cons.injEq] at hvr;obtain⟨rfl,rfl⟩:=hvr;simp only[Yaa] at e;by_cases hf:f=m
   ·subst hf;simp at e;subst e;exact⟨u,by simp[Xb,h1.1],r1⟩
   ·rw[if_neg hf] at e;obtain⟨w,q1,q2⟩:=Ya2 h1.2 r2 e;refine⟨w,?_,q2⟩;have:(Str.ofString f==k)=false:=by
     rw[h1.1];exact beq_false_of_ne λz=>hf (ZB z)
    simp[Xb,this,q1]
theorem Ya3{μ:List Addr}{L:Addr->Prop}{H:Hp}{f:String}:∀{fs:List (String×MV)} {gs:List (Str×V)} {m:MV},gs.map Vq=fs.map (λp=>Str.ofString p.1)->RVs ct μ L H (fs.map Ul) (gs.map Ul)->fs.lookup f=some m->∃ v,gs.lookup (Str.ofString f)=some v/\RV ct μ L H m v
 |[],_,_,_,_,e=>by simp at e
 |(k,y)::fs,gs,m,h1,h2,e=>by
  cases gs with
  |nil=>simp at h1
  |cons p gs =>
   obtain⟨k',u⟩:=p;simp only[Wd,List.cons.injEq] at h1;simp only[Wd,RVs] at h2;obtain⟨v,r,hvr,r1,r2⟩:=h2;simp only[List.cons.injEq] at hvr;obtain⟨rfl,rfl⟩:=hvr;by_cases hf:f=k
   ·subst hf;simp[Xb] at e;subst e;exact⟨u,by simp[Xb,h1.1],r1⟩
   ·have hb:(f==k)=false:=beq_false_of_ne hf;simp[Xb,hb] at e;obtain⟨w,q1,q2⟩:=Ya3 h1.2 r2 e;refine⟨w,?_,q2⟩;have:(Str.ofString f==k')=false:=by
     rw[h1.1];exact beq_false_of_ne λz=>hf (ZB z)
    simp[Xb,this,q1]
theorem Rel.obj{μ:List Addr}{h:MH}{H:Hp}(rel:Rel ct μ h H){i:Nat}{c:String}{fs:List (String×MV)}(e:h[i]?=some (.obj c fs)):∃ b dx gs,μ[i]?=some b/\H b=some (.ins (ct c) dx gs)/\gs.map Vq=fs.map (λp=>Str.ofString p.1)/\RVs ct μ (Liv μ h) H (fs.map Ul) (gs.map Ul):=by
 have hi:i<μ.length:=by rw[rel.len];exact(ua.mp e).1
 obtain⟨dx,gs,q1,q2,q3⟩:=rel.cells i μ[i] _ (by simp[hi]) e;exact⟨_,dx,gs,by simp[hi],q1,q2,q3⟩
set_option tactic.hygienic true in
theorem e_fld{f:String}(T:Txt X.prog X.w X.K X.mg X.base Pm ct n)(ha:PE X a (lE ct Ra E ea))(hn:zi a=true):PE X (.Attribute a (Str.ofString f) pos) (lE ct Ra E λσ h=>(ea σ h).bind λx h1=>opt (YaL Pm.fok f x h1) λv=>.ok v h1) :=
 PE.imp (k_fld X.K ha (qL hn)) λσ H Q q=>by
  obtain(⟨μ,h,σs,rel,rst,ra,p⟩):=q;refine lE.mk rel rst ra p λm v μ1 h1 H1 ex rel1 rst1 rv p1=>?_;obtain(⟨w,e,p2⟩):=Po.opt p1;unfold YaL at e;split at e
  next c ns xs =>
   split at e
   next ok =>
    simp only[ub] at e;obtain(⟨x,e1,rfl⟩):=e;simp only[RV,RF] at rv;obtain(⟨b,dx,fs,rfl,nl,hb,q1,q2⟩):=rv;obtain(⟨u,e2,ru⟩):=Ya2 q1 q2 e1;obtain(⟨t1,t2⟩):=T.fok c f ok;exact⟨b,ct c,dx,fs,u,rfl,hb,t1,t2,e2,p2.now rel1 u (by simp only[RV];exact ru)⟩
   next=>cases e
  next i =>
   split at e
   next c fs ec =>
    split at e
    next ok =>
     simp only[RV] at rv;obtain(⟨b,eb,rfl⟩):=rv;obtain(⟨b',dx,gs,eb',hb,q1,q2⟩):=rel1.obj ec;rw[eb] at eb';cases eb';obtain(⟨u,e2,ru⟩):=Ya3 q1 q2 e;obtain(⟨t1,t2⟩):=T.fok c f ok;exact⟨b,ct c,dx,gs,u,rfl,hb,t1,t2,e2,p2.now rel1 u ru⟩
    next=>cases e
   next=>cases e
  next=>cases e
end
end
section
variable {ct:Tx} {X:Cx} {E:XK} {Pm:Prog} {n:Nat} {Ra:L2.St->Prop} {N:List Str} {sc:Scope}
section
variable {ea:MSt->MH->R MV} {v:Expr} {es:List Expr} {ev:MSt->MH->R (List MV)} {a:Expr} {p pos:Pos}
theorem ycf{f:String}{d:MDef}(c:Cc X Pm ct n Ra E N sc)(hd:Pm.defs f=some d)(hdot:f.toList.contains '.'=false)(hg:gl sc (Str.ofString f)=true)(ha:PA X (v::es) (lA ct Ra E ev))(hpl:∀ e∈v::es,za e=true) :
  PE X (.Call (.Name (Str.ofString f) p) (v::es) [] pos) (lE ct Ra E λσ h=>(ev σ h).bind λxs h1=>run Pm n f xs h1):=by
 obtain⟨g1,g2,g3⟩:=yq c.sc hg;obtain⟨ps,D⟩:=c.txt.defs f d hd hdot;intro pins s σ H Q I q;obtain⟨μ,h,σs,rel,rst,ra,p⟩:=q;refine qbc (σ0:=σ) D (c.room.mono (by lia)) g1 (c.pas σ ra) ha g2 (Qa (hpl v (by simp))) (yp λe he=>hpl e (by simp[he])) pins s σ H Q I ⟨rfl,?_⟩;refine lA.mk rel rst ra p λms vs μ1 h1 H1 ex rel1 rst1 rvs p1=>?_;exact⟨μ1,h1,ms,rel1,by simpa using rvs,p1⟩
theorem qb6(fz:Bool){cn f:String}(c:Cc X Pm ct n Ra E N sc)(hi:Pm.meths cn "__init__"=some f)(hg:gl sc (Str.ofString cn)=true)(ha:PA X (v::es) (lA ct Ra E ev))(hpl:∀ e∈v::es,za e=true) :
  PE X (.Call (.Name (Str.ofString cn) p) (v::es) [] pos) (lE ct Ra E λσ h=>(ev σ h).bind λxs h1=>qV Pm (run Pm n) fz cn xs h1):=by
 obtain⟨g1,g2,g3⟩:=yq c.sc hg;obtain⟨ps,D⟩:=c.txt.inits cn f hi;intro pins s σ H Q I q;obtain⟨μ,h,σs,rel,rst,ra,p⟩:=q;refine qa5 (σ0:=σ) D c.room g1 (c.pas σ ra) ha g2 (Qa (hpl v (by simp))) (yp λe he=>hpl e (by simp[he])) pins s σ H Q I ⟨rfl,?_⟩;refine lA.mk rel rst ra p λms vs μ1 h1 H1 ex rel1 rst1 rvs p1=>?_;intro x dx hx hdx hne;have hx':upd H1 dx (.own x) x=none:=by rw[Yb (Ne.symm hne)];exact hx
 have ex1:=Ext.new rel1 hdx (.own x);have rel2:=rel1.new hdx (.own x);have ex2:=Ext.cell rel2 hx' (.obj cn []) (.ins (ct cn) dx []);have rel3:Rel ct (μ1++[x]) (h1++[.obj cn []]) (upd (upd H1 dx (.own x)) x (.ins (ct cn) dx [])):=rel2.cell hx' ⟨dx,[],Qf,rfl,RVs.nil⟩;have ex3:=ex1.trans ex2;refine⟨μ1++[x],h1++[.obj cn []],.ref h1.length::ms,rel3,RVs.cons ?_ (by simpa using rvs.ext ex3),?_⟩
 ·simp only[RV];exact⟨x,by rw[<- rel1.len];simp,rfl⟩
 ·unfold qV at p1;rw[hi] at p1;dsimp only at p1;cases er:run Pm n f (.ref h1.length::ms) (h1++[.obj cn []]) with
  |stuck=>rw[er] at p1;exact p1.elim
  |exc c h2=>rw[er] at p1;exactλμ2 H2 ex4 rel4=>p1 μ2 H2 (ex3.trans ex4) rel4
  |ok m h2 =>
   rw[er] at p1;simp only[R.bind_ok] at p1;intro μ2 H2 ex4 rel4 u ru;have hnon:Zr m=true:=by
    cases em:Zr m with
    |true=>rfl
    |false=>rw[em] at p1;simp only[if_true] at p1;exact p1.elim
   rw[hnon] at p1;simp only[xF,if_false] at p1;rw[Ybr ru] at hnon;refine⟨of_decide_eq_true hnon,?_⟩;have ext:=ex3.trans ex4;obtain⟨ν,eν⟩:=ex4.pre;rw[xq] at eν;subst eν;have hx2:(μ1++([x]++ν))[h1.length]?=some x:=by rw[<- rel1.len];simp
   cases fz with
   |false=>exact p1 _ H2 ext rel4 _ (by simp only[RV];exact⟨x,hx2,rfl⟩)
   |true =>
    dsimp only at p1;split at p1
    next c' fs ec =>
     obtain⟨ys,ey,p4⟩:=Po.opt p1;split at p4
     next t =>
      obtain⟨b,dx',gs,eb,hb,q1,q2⟩:=rel4.obj ec;rw[hx2] at eb;cases eb;have nx:x∉μ1:=rel1.fresh hx;refine p4 μ1 H2 (Ext.cut rel1.len ext) (rel1.cut t rel4) (.ref x) ?_;simp only[RV,RF];refine⟨x,dx',gs,rfl,λl=>?_,hb,?_,?_⟩
      ·obtain⟨i,_,e1,_,_⟩:=l;exact nx (uh e1)
      ·rw[q1,vg];rfl
      ·exact RFs.to ⟨λ_ _ e _=>e,λb _ _ nl l=>nl (Liv.cut rel1.len l)⟩ (RVs.toF ey q2)
     next=>exact p4.elim
    next=>exact p1.elim
theorem Y1(fz:Bool){id:String}(c:Cc X Pm ct n Ra E N sc)(hx:id∈fnNames)(hg:gl sc (Str.ofString id)=true)(hb:bootBuiltins (Str.ofString id)=some (.builtin id))(hr:CallR X (.builtin id) (rB ct E fz id))(ha:PA X (v::es) (lA ct Ra E ev))(hpl:∀ e∈v::es,za e=true) :
  PE X (.Call (.Name (Str.ofString id) p) (v::es) [] pos) (lE ct Ra E λσ h=>(ev σ h).bind λxs h1=>qs fz id xs h1):=by
 obtain⟨g1,g2,g3⟩:=yq c.sc hg;have hm:=c.txt.blts id (by simp[hx]);refine PE.imp (zB hr g1 hm hb ha g3 g2 (Qa (hpl v (by simp))) (yp λe he=>hpl e (by simp[he]))) λσ H Q q=>?_;obtain⟨μ,h,σs,rel,rst,ra,p⟩:=q;exact lA.mk rel rst ra p λms vs μ1 h1 H1 ex rel1 rst1 rvs p1=>⟨μ1,h1,ms,rel1,rvs,p1⟩
theorem Qbi(fz:Bool){id:String}(c:Cc X Pm ct n Ra E N sc)(hx:id∈tyNames)(hg:gl sc (Str.ofString id)=true)(hb:bootBuiltins (Str.ofString id)=some (.type id))(hr:CallR X (.type id) (rB ct E fz id))(ha:PA X (v::es) (lA ct Ra E ev))(hpl:∀ e∈v::es,za e=true) :
  PE X (.Call (.Name (Str.ofString id) p) (v::es) [] pos) (lE ct Ra E λσ h=>(ev σ h).bind λxs h1=>qs fz id xs h1):=by
 obtain⟨g1,g2,g3⟩:=yq c.sc hg;have hm:=c.txt.blts id (by simp[hx]);refine PE.imp (QI hr g1 hm hb ha g3 g2 (Qa (hpl v (by simp))) (yp λe he=>hpl e (by simp[he]))) λσ H Q q=>?_;obtain⟨μ,h,σs,rel,rst,ra,p⟩:=q;exact lA.mk rel rst ra p λms vs μ1 h1 H1 ex rel1 rst1 rvs p1=>⟨μ1,h1,ms,rel1,rvs,p1⟩
theorem e_blt(fz:Bool){id:String}(c:Cc X Pm ct n Ra E N sc)(hx:id∈fnNames\/id∈tyNames)(hg:gl sc (Str.ofString id)=true)(ha:PA X (v::es) (lA ct Ra E ev))(hpl:∀ e∈v::es,za e=true) :
  PE X (.Call (.Name (Str.ofString id) p) (v::es) [] pos) (lE ct Ra E λσ h=>(ev σ h).bind λxs h1=>qs fz id xs h1):=by
 rcases hx with hx|hx
 ·have hx':=hx;simp only[fnNames,Ua,Xc,or_false] at hx'
  rcases hx' with rfl|rfl|rfl|rfl|rfl
  ·exact Y1 fz c hx hg (by decide +kernel) (zcd c.hK fz) ha hpl
  ·exact Y1 fz c hx hg (by decide +kernel) (Yce c.hK fz c.calm) ha hpl
  ·exact Y1 fz c hx hg (by decide +kernel) (zca c.hK fz c.calm) ha hpl
  ·exact Y1 fz c hx hg (by decide +kernel) (Qb1 c.hK fz c.calm) ha hpl
  ·exact Y1 fz c hx hg (by decide +kernel) (yca fz) ha hpl
 ·have hx':=hx;simp only[tyNames,Ua,Xc,or_false] at hx'
  rcases hx' with rfl|rfl
  ·exact Qbi fz c hx hg (by decide +kernel) (Ybu c.hK fz) ha hpl
  ·exact Qbi fz c hx hg (by decide +kernel) (qbH c.hK fz) ha hpl
theorem zbl{t:String}(h:t∈isTys):bootBuiltins (Str.ofString t)=some (.type t):=by
 simp only[isTys,Ua,Xc,or_false] at h
 rcases h with rfl|rfl|rfl|rfl|rfl|rfl <;> decide +kernel
end
end
noncomputable def bb(T U:String):Bool:=decide (U=T)||(decide (T="bool")&&decide (U="int"))
theorem zb5{K:PySem.W.Frag}{T U:String}(h:T∈["NoneType","bool","int","str","list","tuple"])(h':U∈isTys):ud K (.type T) (.type U)=some (bb T U):=by
 simp only[isTys,Ua,Xc,or_false] at h h'
 rcases h with rfl|rfl|rfl|rfl|rfl|rfl <;> rcases h' with rfl|rfl|rfl|rfl|rfl|rfl <;> rfl
section
variable {ct:Tx} {X:Cx} {E:XK} {Pm:Prog} {n:Nat} {Ra:L2.St->Prop} {N:List Str} {sc:Scope}
noncomputable def ZH(h:MH):MV->Option String
 |.f .non=>some "NoneType"
 |.f (.bl _)=>some "bool"
 |.f (.int _)=>some "int"
 |.f (.str _)=>some "str"
 |.f (.tup _)=>some "tuple"
 |.f (.lst _)=>some "list"
 |.tup _=>some "tuple"
 |.ref a=>match h[a]? with
  |some (.lst _)=>some "list"
  |_=>none
 |_=>none
theorem qaB{h:MH}{m:MV}{T:String}(e:ZH h m=some T):T∈["NoneType","bool","int","str","list","tuple"]:=by
 unfold ZH at e;split at e
 all_goals first|(cases e;simp;done)|skip
 ·split at e
  next=>cases e;simp
  next=>cases e
 ·cases e
set_option tactic.hygienic true in
theorem ZbR{K:PySem.W.Frag}{μ:List Addr}{h:MH}{H:Hp}{m:MV}{v:V}{T:String}(rel:Rel ct μ h H)(e:ZH h m=some T)(r:RV ct μ (Liv μ h) H m v):TyOf K H v (.type T):=by
 unfold ZH at e;split at e
 next=>cases e;simp only[RV,RF] at r;subst r;exact .non
 next=>cases e;simp only[RV,RF] at r;subst r;exact .bl _
 next=>cases e;simp only[RV,RF] at r;subst r;exact .int _
 next=>cases e;simp only[RV,RF] at r;subst r;exact .str _
 next=>cases e;simp only[RV,RF] at r;obtain(⟨_,_,rfl,_,hb,_⟩):=r;exact .tup hb
 next =>
  cases e;simp only[RV,RF] at r;obtain(⟨_,_,rfl,_,hb,_⟩):=r
  rcases hb with hb|⟨o,hb⟩
  ·exact .lst hb
  ·exact .frz hb
 next=>cases e;simp only[RV] at r;obtain(⟨_,_,rfl,_,hb,_⟩):=r;exact .tup hb
 next i =>
  split at e
  next xs q =>
   cases e;simp only[RV] at r;obtain(⟨b,eb,rfl⟩):=r;obtain(⟨b',vs,eb',hb,_⟩):=rel.lst (show Ya h i=some xs by unfold Ya;rw[q]);rw[eb] at eb';cases eb';exact .lst hb
  next=>cases e
 next=>cases e
set_option tactic.hygienic true in
theorem ybP{subs:String->String->Option Bool}{h:MH}{m:MV}{t T:String}{b:Bool}(e:ZH h m=some T)(q:qM subs h m t=some b)(hn:t≠"NoneType"):b=bb T t:=by
 unfold ZH at e;split at e
 next=>cases e;cases q;simp[bb,hn]
 next=>cases e;cases q;simp[bb]
 next=>cases e;cases q;simp[bb]
 next=>cases e;cases q;simp[bb]
 next=>cases e;cases q;simp[bb]
 next=>cases e;cases q;simp[bb]
 next=>cases e;cases q;simp[bb]
 next i =>
  split at e
  next xs w =>
   cases e;simp only[qM,w,Option.some.injEq] at q;rw[<- q];simp[bb]
  next=>cases e
 next=>cases e
set_option tactic.hygienic true in
theorem Zb3{μ:List Addr}{h:MH}{H:Hp}{m:MV}{v:V}{t:String}{b:Bool}(T:Txt X.prog X.w X.K X.mg X.base Pm ct n)(rel:Rel ct μ h H)(r:RV ct μ (Liv μ h) H m v)(q:qM Pm.subs h m t=some b)(ht:isTys.contains t=true\/(Pm.subs t t).isSome=true) :
  ∃ tv,TyOf X.K H v tv/\ud X.K tv (if isTys.contains t=true then .type t else .ref (ct t))=some b:=by
 cases ek:ZH h m with
 |some Tn =>
  refine⟨.type Tn,ZbR rel ek r,?_⟩;by_cases hb:isTys.contains t=true
  ·rw[if_pos hb];have hm:t∈isTys:=by simpa using hb
   have hn:t≠"NoneType":=by
    rintro rfl;simp[isTys] at hm
   rw[ybP ek q hn];exact zb5 (qaB ek) hm
  ·rw[if_neg hb];have hb':isTys.contains t=false:=by simpa using hb
   obtain⟨b0,e0⟩:=Wj.mp (ht.resolve_left hb);have hk:=T.tyC t t b0 e0 hb' Tn (qaB ek);rw[hk];have hm:t∉isTys:=by simpa using hb'
   simp only[isTys,Ua,Xc,or_false,not_or] at hm;unfold ZH at ek;split at ek
   next=>cases ek;cases q;rfl
   next=>cases ek;cases q;simp[hm]
   next=>cases ek;cases q;simp[hm]
   next=>cases ek;cases q;simp[hm]
   next=>cases ek;cases q;simp[hm]
   next=>cases ek;cases q;simp[hm]
   next=>cases ek;cases q;simp[hm]
   next i =>
    split at ek
    next xs w =>
     simp only[qM,w,Option.some.injEq] at q;rw[<- q];simp[hm]
    next=>cases ek
   next=>cases ek
 |none =>
  have obj:∃ c a dx fs,v=.ref a/\H a=some (.ins (ct c) dx fs)/\Pm.subs c t=some b:=by
   cases m with
   |f x =>
    cases x with
    |obj c ns vs =>
     simp only[RV,RF] at r;obtain⟨a,dx,fs,rfl,_,hb,_⟩:=r;exact⟨c,a,dx,fs,rfl,hb,q⟩
    |scr _=>cases q
    |tab _=>cases q
    |msk _=>cases q
    |_=>simp[ZH] at ek
   |tup _=>simp[ZH] at ek
   |exc _=>cases q
   |ref i =>
    simp only[qM] at q;split at q
    next xs w=>simp[ZH,w] at ek
    next c fs w =>
     obtain⟨a,dx,gs,ea,hb,_⟩:=rel.obj w;simp only[RV] at r;obtain⟨a',ea',rfl⟩:=r;rw[ea] at ea';cases ea';exact⟨c,a,dx,gs,rfl,hb,q⟩
    next=>cases q
  obtain⟨c,a,dx,fs,rfl,hb,q⟩:=obj;have C:=T.cls c t b q;refine⟨.ref (ct c),.ins hb C.cl C.ha C.hn C.tk C.hm,?_⟩;by_cases hb:isTys.contains t=true
  ·rw[if_pos hb];exact T.subT c t b q hb
  ·rw[if_neg hb];exact(T.subC c t b q (by simpa using hb)).2
section
variable {ea:MSt->MH->R MV} {v:Expr} {es:List Expr} {ev:MSt->MH->R (List MV)} {a:Expr} {p p2 pos:Pos}
theorem e_isI{t:String}(c:Cc X Pm ct n Ra E N sc)(ht:isTys.contains t=true\/(Pm.subs t t).isSome=true)(hg:gl sc "isinstance"=true)(hgt:gl sc (Str.ofString t)=true)(ha:PE X a (lE ct Ra E ea))(hp:za a=true) :
  PE X (.Call (.Name "isinstance" p) [a,.Name (Str.ofString t) p2] [] pos) (lE ct Ra E λσ h=>(ea σ h).bind λx h1=>opt (qM Pm.subs h1 x t) λk=>.ok (.f (.bl k)) h1):=by
 obtain⟨g1,g2,g3⟩:=yq c.sc hg;obtain⟨k1,k2,k3⟩:=yq c.sc hgt;have hm:X.mg "isinstance"=none:=c.txt.blts "isinstance" (by simp);have tyE:∃ cv,Qbv cv=some (if isTys.contains t=true then .type t else .ref (ct t))/\PE X (.Name (Str.ofString t) p2) (tC cv):=by
  by_cases hb:isTys.contains t=true
  ·rw[if_pos hb];have hm':t∈isTys:=by simpa using hb
   exact⟨.ty t,rfl,qaZ (v:=.ty t) k1 (c.txt.blts t (by simp[hm'])) (zbl hm') rfl k3 k2⟩
  ·rw[if_neg hb];obtain⟨b0,e0⟩:=Wj.mp (ht.resolve_left hb);exact⟨.ref (ct t),rfl,za0 (v:=.ref (ct t)) k1 (c.txt.subC t t b0 e0 (by simpa using hb)).1 rfl k2⟩
 obtain⟨cv,ecv,pe⟩:=tyE;refine PE.imp (zB (k_isi X.K) g1 hm boot_isinstance (yj ha (yj pe yw (by rfl)) (Qa hp)) g3 g2 (Qa hp) (by rfl)) λσ H Q q=>?_;obtain⟨μ,h,σs,rel,rst,ra,p⟩:=q;refine lE.mk rel rst ra p λm w μ1 h1 H1 ex rel1 rst1 rv p1=>?_;obtain⟨k,e,p2⟩:=Po.opt p1;obtain⟨tv,ty,kit⟩:=Zb3 c.txt rel1 rv e ht;exact⟨w,cv,tv,_,k,rfl,ecv,ty,kit,p2.now rel1 _ (yB _)⟩
theorem e_isX{t:String}(c:Cc X Pm ct n Ra E N sc)(ht:Pm.xcls t=true)(hg:gl sc "isinstance"=true)(hgt:gl sc (Str.ofString t)=true)(ha:PE X a (lE ct Ra E ea))(hp:za a=true) :
  PE X (.Call (.Name "isinstance" p) [a,.Name (Str.ofString t) p2] [] pos) (lE ct Ra E λσ h=>(ea σ h).bind λx h1=>opt (Zbv x) λc=>opt (Pm.xsubs c t) λk=>.ok (.f (.bl k)) h1):=by
 obtain⟨g1,g2,g3⟩:=yq c.sc hg;obtain⟨k1,k2,k3⟩:=yq c.sc hgt;have hm:X.mg "isinstance"=none:=c.txt.blts "isinstance" (by simp);have tyE:∃ cv,Qbv cv=some (if t="ValueError" then .type "ValueError" else .ref (ct t))/\PE X (.Name (Str.ofString t) p2) (tC cv):=by
  have q:=c.txt.xcls t ht;by_cases hb:t="ValueError"
  ·subst hb;rw[if_pos rfl] at q ⊢;exact⟨.ty "ValueError",rfl,qaZ (v:=.ty "ValueError") k1 q (by rfl) rfl k3 k2⟩
  ·rw[if_neg hb] at q ⊢;exact⟨.ref (ct t),rfl,za0 (v:=.ref (ct t)) k1 q rfl k2⟩
 obtain⟨cv,ecv,pe⟩:=tyE;refine PE.imp (zB zbn g1 hm boot_isinstance (yj ha (yj pe yw (by rfl)) (Qa hp)) g3 g2 (Qa hp) (by rfl)) λσ H Q q=>?_;obtain⟨μ,h,σs,rel,rst,ra,p⟩:=q;refine lE.mk rel rst ra p λm w μ1 h1 H1 ex rel1 rst1 rv p1=>?_;obtain⟨cn,e,p2⟩:=Po.opt p1;obtain⟨k,e2,p3⟩:=Po.opt p2;cases m with
 |exc c' =>
  cases e;simp only[RV] at rv;obtain⟨x,rfl,_,hx⟩:=rv;obtain⟨Z,kit⟩:=c.txt.xs _ t k e2;exact⟨x,_,cv,_,k,rfl,hx,Z,ecv,kit,p3.now rel1 _ (yB _)⟩
 |f _=>cases e
 |ref _=>cases e
 |tup _=>cases e
theorem yb1{K:PySem.W.Frag}{mo:MV}{xs:List MV}{μ:List Addr}{h:MH}{H:Hp}{x:V}(rel:Rel ct μ h H)(r:RV ct μ (Liv μ h) H mo x)(e:lmC mo h=some xs):tyV K "list" x H:=by
 cases mo with
 |ref i =>
  obtain⟨b,vs,e1,e2,q⟩:=rel.lst (show Ya h i=some xs from e);simp only[RV] at r;obtain⟨b',e3,rfl⟩:=r;rw[e1] at e3;cases e3;exact .inl ⟨rfl,vs,SqL.of e2⟩
 |f _=>cases e
 |tup _=>cases e
 |exc _=>cases e
theorem Yak{env : Env}{cp : Pos}{es : List Expr}(h : ∀ e∈es, za e=true)(hl : es.length<30) : ((backTo cp (starEach es env)).all (λx => !x.1)&&(backToKw cp (keywordEach [] env)).all (λx => x.1.isSome)
   && decide (es.length+([]:List Keyword).length+(if([]:List Keyword).isEmpty then 0 else 1)<30))=true:=by
 rw[ze h];have h1:(backTo cp (es.map λe=>(false,eval e env))).all (λx=>!x.1)=true:=by
  unfold backTo;rw[vg,List.all_map]
  induction es with
  |nil=>rfl
  |cons e es ih=>simp[Function.comp]
 rw[h1];simp[keywordEach,backToKw];exact hl
theorem zbv{m id:String}{ap cp:Pos}(slot:Slot "list" (Str.ofString m) id)(hty:typeOf (.builtin id)=pure (.type "method_descriptor"))(hr:MtR X id (rLm ct E m))(ho:PE X a (lE ct Ra E ea))(hn:zi a=true)(ha:PA X (v::es) (lA ct Ra E ev))(hpl:∀ e∈v::es,za e=true)
  (hl:(v::es).length<30) (hline:(ap.endLine==cp.line)=true):PE X (.Call (.Attribute a (Str.ofString m) ap) (v::es) [] cp) (lE ct Ra E λσ h=>(ea σ h).bind λx h1=>opt (lmC x h1) λ_=>(ev σ h1).bind λxs h2=>lmV m x xs h2) :=
 PE.imp (qbV PySem.F.plainAttrs_list slot hty hr ho ha (qL hn) (Yak hpl hl) hline (Qa (hpl v (by simp))) (yp λe he=>hpl e (by simp[he]))) λσ H Q q=>by
  obtain⟨μ,h,σs,rel,rst,ra,p⟩:=q;refine lE.mk rel rst ra p λm' w μ1 h1 H1 ex rel1 rst1 rv p1=>?_;obtain⟨xs,ex1,p2⟩:=Po.opt p1;refine⟨yb1 rel1 rv ex1,?_⟩;exact lA.mk rel1 rst1 ra p2 λms vs μ2 h2 H2 ex2 rel2 rst2 rvs p3=>⟨μ2,h2,m',ms,rel2,rv.ext ex2,rvs,p3⟩
noncomputable abbrev kP(k:Int×Int):List Key:=[Sum.inl k.1,Sum.inl k.2]
set_option tactic.hygienic true in
theorem YbM{μ:List Addr}{L:Addr->Prop}{H:Hp}{y:MV}{v:V}{k:Int×Int}(r:RV ct μ L H y v)(e:qar y=some k):∃ p,v=.ref p/\¬ L p/\H p=some (.tup ((kP k).map L2.kV)):=by
 unfold qar at e;split at e
 next a b w =>
  cases e;cases y with
  |f x =>
   cases x with
   |tup xs =>
    simp only[qo,Option.some.injEq] at w
    rcases xs with _|⟨x,_|⟨y,_|⟨z,zs⟩⟩⟩ <;> simp at w
    obtain⟨rfl,rfl⟩:=w;simp only[RV,RF,RFs] at r;obtain⟨p,vs,rfl,n,hp,v1,r1,rfl,rfl,v2,r2,rfl,rfl,rfl⟩:=r;exact⟨p,rfl,n,hp⟩
   |_=>simp[qo] at w
  |tup xs =>
   simp only[qo,Option.some.injEq] at w;subst w;simp only[RV,RVs,RF] at r;obtain⟨p,vs,rfl,n,hp,v1,r1,rfl,rfl,v2,r2,rfl,rfl,rfl⟩:=r;exact⟨p,rfl,n,hp⟩
  |ref _=>simp[qo] at w
  |exc _=>simp[qo] at w
 next=>cases e
set_option tactic.hygienic true in
theorem QbM(fz:Bool){cn:String}(c:Cc X Pm ct n Ra E N sc)(hk:Pm.mk0 cn=true)(hi:Pm.meths cn "__init__"=none)(hg:gl sc (Str.ofString cn)=true) :
  PE X (.Call (.Name (Str.ofString cn) p) [] [] pos) (lE ct Ra E λσ h=>(R.ok [] h).bind λxs h1=>qV Pm (run Pm n) fz cn xs h1):=by
 obtain⟨g1,g2,g3⟩:=yq c.sc hg;obtain⟨M,mg⟩:=c.txt.mk0 cn hk;refine PE.imp (zba M g1 mg g2) λσ H Q q=>?_;obtain⟨μ,h,σs,rel1,rst,ra,p1⟩:=q;intro x dx hx hdx hne;have hx':upd H dx (.own x) x=none:=by rw[Yb (Ne.symm hne)];exact hx
 have ex1:=Ext.new rel1 hdx (.own x);have rel2:=rel1.new hdx (.own x);have ex2:=Ext.cell rel2 hx' (.obj cn []) (.ins (ct cn) dx []);have rel3:Rel ct (μ++[x]) (h++[.obj cn []]) (upd (upd H dx (.own x)) x (.ins (ct cn) dx [])):=rel2.cell hx' ⟨dx,[],Qf,rfl,RVs.nil⟩;have ext:=ex1.trans ex2;have hx2:(μ++[x])[h.length]?=some x:=by rw[<- rel1.len];simp
 have p2:Po ct E (qV Pm (run Pm n) fz cn [] h) μ h H (λm μ' h' H'=>∀ v,RV ct μ' (Liv μ' h') H' m v->Q v H'):=p1;unfold qV at p2;rw[hi] at p2;simp only[R.bind_ok,qa6,xF,if_false] at p2;cases fz with
 |false=>exact p2 _ _ ext rel3 _ (by simp only[RV];exact⟨x,hx2,rfl⟩)
 |true =>
  dsimp only at p2;split at p2
  next c' fs ec =>
   obtain⟨ys,ey,p4⟩:=Po.opt p2;split at p4
   next t =>
    obtain⟨b,dx',gs,eb,hb,q1,q2⟩:=rel3.obj ec;rw[hx2] at eb;cases eb;have nx:x∉μ:=rel1.fresh hx;refine p4 μ _ (Ext.cut rel1.len ext) (rel1.cut t rel3) (.ref x) ?_;simp only[RV,RF];refine⟨x,dx',gs,rfl,λl=>?_,hb,?_,?_⟩
    ·obtain⟨i,_,e1,_,_⟩:=l;exact nx (uh e1)
    ·rw[q1,vg];rfl
    ·exact RFs.to ⟨λ_ _ e _=>e,λb _ _ nl l=>nl (Liv.cut rel1.len l)⟩ (RVs.toF ey q2)
   next=>exact p4.elim
  next=>exact p2.elim
theorem Po.calm{α:Type}{r:R α}{μ:List Addr}{h:MH}{H:Hp}{k:α->List Addr->MH->Hp->Prop}(p:Po ct E (MP.calm r) μ h H k):Po ct E0 r μ h H k:=by
 cases r with
 |ok x h'=>exact p
 |exc c h'=>exact p.elim
 |stuck=>exact p.elim
theorem PIf.imp{ifs:List Expr}{t t':TT}(p:PIf X ifs t)(k:∀ σ H Q,t' σ H Q->t σ H Q):PIf X ifs t':=λpins s σ H Q I h=>p pins s σ H Q I (k σ H Q h)
theorem Za7{μ:List Addr}{h:MH}{H:Hp}{σ:L2.St}{σs:MSt}(ncv:Nat)(js:List Nat)(r:RelSt ct μ h H σ σs):RelSt ct μ h H (stC ncv js σ) (stM ncv js σs):=by
 refine⟨by simp[L3.stC,MP.stM],λi m e=>?_⟩;unfold MP.stM at e;by_cases hi:i<ncv
 ·rw[xb (by simpa using hi),Uo,if_pos hi] at e;cases e
 ·rw[uc (by simpa using hi),Wn,Vc] at e;cases ej:js[i-ncv]? with
  |none=>rw[ej] at e;cases e
  |some j =>
   rw[ej] at e;simp only[vn,Option.some.injEq] at e;have e':σs[j]?=some (some m):=by
    cases q:σs[j]? with
    |none=>rw[q] at e;cases e
    |some z=>rw[q] at e;exact congrArg some e
   obtain⟨v,ev,rv⟩:=r.at_ j m e';refine⟨v,?_,rv⟩;unfold L3.stC;rw[uc (by simpa using hi),Wn,Vc,ej];simp[ev]
theorem zam(fz:Bool){ncv:Nat}{js:List Nat}{it:String}{t:Tg}{es:MSt->MH->R (List MV)}{tc:MSt->MH->R Bool}{te:MSt->MH->R MV}(σ:L2.St)(H:Hp)(Q:VK)
  (q:lE ct Ra E (λσ h=>(es σ h).bind λxs h1=>opt (itV it xs h1) λp=>(qh p.2 (Zi t tc te) p.1 [] (MP.stM ncv js σ) h1).bind λacc h3=>yk fz acc h3) σ H Q) :
  qbr (lI ct Ra E es it) ncv js (lG ct t) (lT ct (λ_=>True) E0 tc) (lE ct (λ_=>True) E0 te) σ H Q:=by
 obtain⟨μ,h,σs,rel,rst,ra,p⟩:=q;refine⟨μ,h,σs,rel,rst,ra,(Po.bind p).imp λxs μ1 h1 H1 ⟨ex1,rel1,p1⟩=>?_⟩;obtain⟨⟨items,g⟩,e1,p2⟩:=Po.opt p1;refine⟨items,g,e1,rel1,λJ wk=>?_⟩;dsimp only at p2;refine⟨λi m acc σ' H'=>∃ μ' h' σs' macc,m=items.length-i/\i<=items.length/\Ext μ1 h1 H1 μ' h' H'/\Rel ct μ' h' H'/\RelSt ct μ' h' H' σ' σs'/\RVs ct μ' (Liv μ' h') H' macc acc /\
  Po ct E ((qh g (Zi t tc te) (items.drop i) macc σs' h').bind λacc h3=>yk fz acc h3) μ' h' H' (kV ct Q),?_,?_⟩
 ·exact⟨items.length,μ1,h1,stM ncv js σs,[],by simp,Uk _,Ext.refl _ _ _,rel1,Za7 ncv js (rst.ext ex1),RVs.nil,by simpa using p2⟩
 ·rintro i m acc σ' H' ⟨μ',h',σs',macc,rfl,hi',ex,rel',rst',racc,p3⟩;by_cases lt:i<items.length
  ·right
   have ed:items.drop i=items[i]::items.drop (i+1):=Vi lt;rw[ed] at p3;simp only[qh] at p3;split at p3
   next gd =>
    obtain⟨w1,_⟩:=wk i μ' h' H' ex rel' gd.1;obtain⟨go,yl⟩:=w1 lt;refine⟨go,λx H2 y=>?_⟩;obtain⟨mx,em,ex2,rel2,rx⟩:=yl x H2 y;have emx:mx=items[i]:=by simpa[lt] using em.symm
    subst emx;have p4:=Po.start ex2 p3;unfold Zi at p4;cases eb:zt t items[i] σs' with
    |none=>rw[eb] at p4;exact p4.elim
    |some σ2s =>
     rw[eb] at p4;simp only[qe] at p4;refine⟨μ',h',σs',items[i],σ2s,rel2,rst'.ext ex2,rx,eb,λσ2 rst2=>?_⟩;have p5:Po ct E ((MP.calm (tc σ2s h')).bind λk h2=>(if k=true then(MP.calm (te σ2s h2)).bind λy h3=>R.ok (some y,σ2s) h3 else R.ok (none,σ2s) h2).bind λp h1=>(qh g (Zi t tc te) (items.drop (i+1)) (match p.1 with|some y=>macc++[y]|none=>macc) p.2 h1).bind λacc h3=>yk fz acc h3) μ' h' H2 (kV ct Q):=by
      cases er:MP.calm (tc σ2s h') with
      |stuck=>rw[er] at p4;exact p4
      |exc c h''=>rw[er] at p4;exact p4
      |ok k h'' =>
       rw[er] at p4;simp only[R.bind_ok] at p4 ⊢;cases k with
       |false=>exact p4
       |true =>
        simp only[if_true] at p4 ⊢;cases er2:MP.calm (te σ2s h'') with
        |stuck=>rw[er2] at p4;exact p4
        |exc c h3=>rw[er2] at p4;exact p4
        |ok y h3=>rw[er2] at p4;exact p4
     refine⟨μ',h',σ2s,rel2,rst2,trivial,Po.calm ((Po.bind p5).imp λk μ3 h3 H3 ⟨ex3,rel3,p6⟩=>?_)⟩;cases k with
     |false =>
      simp only[Vd,if_false,R.bind_ok] at p6 ⊢;exact⟨items.length-(i+1),by lia,μ3,h3,σ2s,macc,rfl,lt,(ex.trans ex2).trans ex3,rel3,rst2.ext ex3,(racc.ext ex2).ext ex3,p6⟩
     |true =>
      simp only[if_true] at p6 ⊢;have p7:Po ct E ((MP.calm (te σ2s h3)).bind λy h4=>(qh g (Zi t tc te) (items.drop (i+1)) (macc++[y]) σ2s h4).bind λacc h5=>yk fz acc h5) μ3 h3 H3 (kV ct Q):=by
       cases er2:MP.calm (te σ2s h3) with
       |stuck=>rw[er2] at p6;exact p6
       |exc c h4=>rw[er2] at p6;exact p6
       |ok y h4=>rw[er2] at p6;exact p6
      refine⟨μ3,h3,σ2s,rel3,rst2.ext ex3,trivial,Po.calm ((Po.bind p7).imp λy μ4 h4 H4 ⟨ex4,rel4,p8⟩ w rw_=>?_)⟩;refine⟨by rw[racc.length];exact Vb gd.2 YA,items.length-(i+1),by lia,μ4,h4,σ2s,macc++[y],rfl,lt,((ex.trans ex2).trans ex3).trans ex4,rel4,(rst2.ext ex3).ext ex4,?_,p8⟩;exact(((racc.ext ex2).ext ex3).ext ex4).append (RVs.cons rw_ RVs.nil)
   next=>exact p3.elim
  ·left
   have hi2:i=items.length:=by lia
   subst hi2;rw[vH] at p3;simp only[qh] at p3;split at p3
   next gd =>
    obtain⟨_,w2⟩:=wk items.length μ' h' H' ex rel' gd;exact⟨w2 rfl,λD hD=>Qt rel' racc p3 D hD⟩
   next=>exact p3.elim
theorem Qcd(fz:Bool){elt iter tg:Expr}{ifs:List Expr}{cs:Scope}{N':List Str}{ncv:Nat}{js:List Nat}{it:String}{t:Tg}{es:MSt->MH->R (List MV)}{tc:MSt->MH->R Bool}{te:MSt->MH->R MV}(hok:Yt X.env.scope X.N cs N' ncv js=true)(hc:X.calm=true)
  (hi:PI X tg iter (lI ct Ra E es it)) (hg:∀ C s3 H ex,PG (cxC X cs N' C s3 H ex) tg (lG ct t)) (hif:∀ C s3 H ex,PIf (cxC X cs N' C s3 H ex) ifs (lT ct (λ_=>True) E0 tc)) (helt:∀ C s3 H ex,PE (cxC X cs N' C s3 H ex) elt (lE ct (λ_=>True) E0 te)) (hpl:za iter=true) :
  PE X (.ListComp elt [⟨tg,iter,ifs,0⟩] cs pos) (lE ct Ra E λσ h=>(es σ h).bind λxs h1=>opt (itV it xs h1) λp=>(qh p.2 (Zi t tc te) p.1 [] (stM ncv js σ) h1).bind λacc h3=>yk fz acc h3):=by
 exact PE.imp (ZbM N' ncv js hok hc hi hg hif helt (yC hpl)) (zam fz)
end
end
end SD
end
section
namespace SD
open PySem PySem.Spec PyProof.Rows L2 L3 M3 MP
section
variable {ct:Tx} {X:Cx} {E:XK} {Pm:Prog} {n:Nat} {Ra:L2.St->Prop} {N:List Str} {sc:Scope} {ea eb:MSt->MH->R MV} {a b:Expr} {p pos:Pos}
theorem Ybq{μ:List Addr}{L:Addr->Prop}{H:Hp}{m:MV}{v:V}{z:Str}(r:RV ct μ L H m v)(e:Zbn m=some z):v=.str z:=by
 cases m with
 |f x =>
  cases x with
  |str s=>cases e;simpa only[RV,RF] using r
  |_=>cases e
 |_=>cases e
theorem Qbb{k:Nat}(h:k<=sizeL):k<=sizeLine:=by rw[sizeLine_eq];unfold sizeL at h;lia
theorem zbc{i:Int}(h:i.natAbs<2^256):i.natAbs.log2<1920:=by
 by_cases h0:i.natAbs=0
 ·rw[h0];decide
 ·exact Vb ((wH h0).mpr h) (by decide)
theorem e_tx1{o:T1}{x:Str}(c:Cc X Pm ct n Ra E N sc)(ho:t1S o=true)(hx:x=t1N o)(hg:gl sc x=true)(ha:PE X a (lE ct Ra E ea))(hp:za a=true) :
  PE X (.Call (.Name x p) [a] [] pos) (lE ct Ra E λσ h=>(ea σ h).bind λx h1=>ybk o x h1):=by
 obtain⟨k1,k2,k3⟩:=yq c.sc hg;cases o with
 |setl=>cases ho
 |str =>
  subst hx;have hm:X.mg "str"=none:=c.txt.blts "str" (by simp[isTys]);refine PE.imp (QI zav k1 hm (by decide +kernel) (yj ha yw (Qa hp)) k3 k2 (Qa hp) (by rfl)) λσ H Q q=>?_;obtain⟨μ,h,σs,rel,rst,ra,pp⟩:=q;refine lE.mk rel rst ra pp λm w μ1 h1 H1 ex rel1 rst1 rv p1=>?_;obtain⟨i,e1,p2⟩:=Po.opt p1;split at p2
  next hl =>
   have:=Yd e1;subst this;exact⟨i,by rw[Zg rv],zbc hl,p2.now rel1 _ (Zbu _)⟩
  next=>exact p2.elim
 |srtI =>
  subst hx;have hm:X.mg "sorted"=none:=c.txt.blts "sorted" (by simp);refine PE.imp (zB YaO k1 hm (by decide +kernel) (yj ha yw (Qa hp)) k3 k2 (Qa hp) (by rfl)) λσ H Q q=>?_;obtain⟨μ,h,σs,rel,rst,ra,pp⟩:=q;refine lE.mk rel rst ra pp λm w μ1 h1 H1 ex rel1 rst1 rv p1=>?_;obtain⟨xs,e1,p2⟩:=Po.opt p1;obtain⟨ns,e2,p3⟩:=Po.opt p2;split at p3
  next hn =>
   obtain⟨b,vs,rfl,rd,rs⟩:=Yh rel1 e1 rv;have:=zH e2 rs;subst this;refine⟨b,ns,rfl,.inl rd,hn.1,hn.2,λns' pm pw l hl=>?_⟩;have:=YaH pm pw;subst this;exact Qt (fz:=true) rel1 (ZC _) p3 l hl
  next=>exact p3.elim
 |int =>
  subst hx;have hm:X.mg "int"=none:=c.txt.blts "int" (by simp[isTys]);refine PE.imp (QI Qbd k1 hm (by decide +kernel) (yj ha yw (Qa hp)) k3 k2 (Qa hp) (by rfl)) λσ H Q q=>?_;obtain⟨μ,h,σs,rel,rst,ra,pp⟩:=q;refine lE.mk rel rst ra pp λm w μ1 h1 H1 ex rel1 rst1 rv p1=>?_;obtain⟨z,e1,p2⟩:=Po.opt p1;obtain⟨i,e2,p3⟩:=Po.opt p2;split at p3
  next hl=>exact⟨z,i,by rw[Ybq rv e1],e2,hl,p3.now rel1 _ (Yk _)⟩
  next=>exact p3.elim
 |len =>
  subst hx;have hm:X.mg "len"=none:=c.txt.blts "len" (by simp[fnNames]);refine PE.imp (zB yas k1 hm PySem.boot_len (yj ha yw (Qa hp)) k3 k2 (Qa hp) (by rfl)) λσ H Q q=>?_;obtain⟨μ,h,σs,rel,rst,ra,pp⟩:=q;refine lE.mk rel rst ra pp λm w μ1 h1 H1 ex rel1 rst1 rv p1=>?_;obtain⟨z,e1,p2⟩:=Po.opt p1;split at p2
  next hl=>exact⟨z,by rw[Ybq rv e1],Qbb hl,p2.now rel1 _ (Yk _)⟩
  next=>exact p2.elim
theorem Zal{μ:List Addr}{L:Addr->Prop}{H:Hp}:∀{xs:List MV}{vs:List V}{ks:List (Int×Int)},RVs ct μ L H xs vs->xs.mapM qar=some ks->yaP H vs ks
 |[],vs,ks,r,e=>by
  simp only[RVs] at r;subst r;simp at e;subst e;exact .nil
 |x::xs,vs,ks,r,e=>by
  simp only[RVs] at r;obtain⟨v,r',rfl,h1,h2⟩:=r;simp only[Vw,ur,Wb] at e;obtain⟨k,e1,ks',e2,e3⟩:=e;cases e3;obtain⟨T,q1,_,q2⟩:=YbM h1 e1;exact .cons ⟨T,q1,q2⟩ (Zal h2 e2)
theorem Qb4{p2 p3:Pos}(c:Cc X Pm ct n Ra E N sc)(hg:gl sc "len"=true)(hgs:gl sc "set"=true)(ha:PE X a (lE ct Ra E ea))(hp:za a=true) :
  PE X (.Call (.Name "len" p) [.Call (.Name "set" p2) [a] [] p3] [] pos) (lE ct Ra E λσ h=>(ea σ h).bind λx h1=>ybk .setl x h1):=by
 obtain⟨g1,g2,g3⟩:=yq c.sc hg;obtain⟨k1,k2,k3⟩:=yq c.sc hgs;have hm:X.mg "len"=none:=c.txt.blts "len" (by simp[fnNames]);have hm':X.mg "set"=none:=c.txt.blts "set" (by simp);refine PE.imp (zB Qbf g1 hm PySem.boot_len (yj (QI (ya8 c.calm (by have:=c.units;lia)) k1 hm' (by decide +kernel) (yj ha yw (Qa hp)) k3 k2 (Qa hp) (by rfl)) yw (by rfl)) g3 g2 (by rfl) (by rfl)) λσ H Q q=>?_;obtain⟨μ,h,σs,rel,rst,ra,pp⟩:=q;refine lE.mk rel rst ra pp λm w μ1 h1 H1 ex rel1 rst1 rv p1=>?_;obtain⟨xs,e1,p4⟩:=Po.opt p1;obtain⟨ks,e2,p5⟩:=Po.opt p4;split at p5
 next hl =>
  obtain⟨h1',h2',h3'⟩:=hl;obtain⟨b,vs,rfl,rd,rs⟩:=Yh rel1 e1 rv;refine⟨b,vs,ks,rfl,rd,Zal rs e2,λk hk=>by have q:=xh.mp h1' k hk;unfold Ybp at q;unfold qaR;exact of_decide_eq_true q,h2',λq hq=>?_⟩;refine⟨q,ks.length,rfl,Qf,h3',?_⟩;exact(Po.start (Ext.new rel1 hq (za8 ks.length q)) p5).now (rel1.new hq (za8 ks.length q)) _ (Yk _)
 next=>exact p5.elim
theorem YbL{μ:List Addr}{L:Addr->Prop}{H:Hp}:∀{xs ys:List MV}{vs ws:List V}{as:List Nat},RVs ct μ L H xs vs->RVs ct μ L H ys ws->Zz xs=some as->Zz ys=some as->vs=ws/\∀ v∈vs,∃ c,v=V.ref c
 |[],ys,vs,ws,as,r,r',e,e'=>by
  simp only[Zz,Option.some.injEq] at e;subst e;have:ys=[]:=by
   cases ys with
   |nil=>rfl
   |cons y ys=>cases y <;> simp[Zz] at e'
  subst this;simp only[RVs] at r r';subst r;subst r';exact⟨rfl,λv h=>by cases h⟩
 |x::xs,ys,vs,ws,as,r,r',e,e'=>by
  cases x with
  |ref i =>
   simp only[Zz,ub] at e;obtain(⟨as',e1,rfl⟩):=e;cases ys with
   |nil=>simp[Zz] at e'
   |cons y ys =>
    cases y with
    |ref j =>
     simp only[Zz,ub,List.cons.injEq] at e';obtain(⟨as2,e2,rfl,rfl⟩):=e';simp only[RVs,RV] at r r';obtain(⟨v,t,rfl,⟨b,eb,rfl⟩,r2⟩):=r;obtain(⟨v',t',rfl,⟨b',eb',rfl⟩,r2'⟩):=r';rw[eb] at eb';cases eb';obtain(⟨q1,q2⟩):=YbL r2 r2' e1 e2;subst q1;exact⟨rfl,λv h=>by
      rcases Ua.mp h with rfl|h
      ·exact⟨b,rfl⟩
      ·exact q2 v h⟩
    |_=>simp[Zz] at e'
  |_=>simp[Zz] at e
theorem e_lrg{p2 p3:Pos}(c:Cc X Pm ct n Ra E N sc)(hg:gl sc "list"=true)(hgl:gl sc "range"=true)(ha:PE X a (lE ct Ra E ea))(hb:PE X b (lE ct Ra E eb))(hp:za a=true)(hp2:za b=true) :
  PE X (.Call (.Name "list" p) [.Call (.Name "range" p2) [a,b] [] p3] [] pos) (lE ct Ra E λσ h=>(ea σ h).bind λx h1=>opt (some (⟨#[]⟩:Str)) λ_=>(eb σ h1).bind λy h2=>QP .lrg x y h2):=by
 obtain⟨g1,g2,g3⟩:=yq c.sc hg;obtain⟨k1,k2,k3⟩:=yq c.sc hgl;have hm:X.mg "list"=none:=c.txt.blts "list" (by simp[tyNames,isTys]);have hm':X.mg "range"=none:=c.txt.blts "range" (by simp);have st:∀ e∈[a,b],za e=true:=λe he=>by
  simp only[Ua,Xc,or_false] at he
  rcases he with rfl|rfl <;> assumption
 refine PE.imp (YbH c.calm (yj ha (yj hb yw (Qa hp2)) (Qa hp)) g1 hm k1 hm' (ze st) (ze λe he=>st e (by simp at he;simp[he]))) λσ H Q q=>?_;obtain⟨μ,h,σs,rel,rst,ra,pp⟩:=q;refine lE.mk rel rst ra pp λm w μ1 h1 H1 ex1 rel1 rst1 rv1 p1=>?_;refine lE.mk rel1 rst1 ra p1 λm2 w2 μ2 h2 H2 ex2 rel2 rst2 rv2 p3=>?_;obtain⟨i,e1,p4⟩:=Po.opt p3;obtain⟨j,e2,p5⟩:=Po.opt p4;have:=Yd e1;subst this;have:=Yd e2;subst this;split at p5
 next hb=>exact⟨i,j,by rw[Zg (rv1.ext ex2),Zg rv2],hb.1,hb.2,Qt (fz:=true) rel2 (ZC _) p5⟩
 next=>exact p5.elim
theorem e_idx{ap cp:Pos}(ha:PE X a (lE ct Ra E ea))(hb:PE X b (lE ct Ra E eb))(hn:zi a=true)(hpl:za b=true)(hline:(ap.endLine==cp.line)=true) :
  PE X (.Call (.Attribute a "index" ap) [b] [] cp) (lE ct Ra E λσ h=>(ea σ h).bind λx h1=>opt ((listOf h1 x).map λ_=>(⟨#[]⟩:Str)) λ_=>(eb σ h1).bind λy h2=>QP .idx x y h2):=by
 have hpl':∀ e∈[b],za e=true:=λe he=>by rw[Uc.mp he];exact hpl
 refine PE.imp (qbV PySem.F.plainAttrs_list PySem.F.slot_list_index PySem.F.type_list_index Zbs ha (yj hb yw (Qa hpl)) (qL hn) (Yak hpl' (by simp)) hline (Qa hpl) (by rfl)) λσ H Q q=>?_;obtain⟨μ,h,σs,rel,rst,ra,pp⟩:=q;refine lE.mk rel rst ra pp λm w μ1 h1 H1 ex1 rel1 rst1 rv1 p1=>?_;obtain⟨st,e0,p2⟩:=Po.opt p1;rw[ub] at e0;obtain⟨xs0,e0,_⟩:=e0;obtain⟨d,vs0,rfl,rd0,_⟩:=Yh rel1 e0 rv1;refine⟨.inl ⟨rfl,vs0,.inl rd0⟩,?_⟩;refine lE.mk rel1 rst1 ra p2 λm2 w2 μ2 h2 H2 ex2 rel2 rst2 rv2 p3=>?_;obtain⟨ns,e1,p4⟩:=Po.opt p3;obtain⟨k,e2,p5⟩:=Po.opt p4;obtain⟨j,e3,p6⟩:=Po.opt p5;rw[Wb] at e1;obtain⟨xs,e4,e5⟩:=e1;obtain⟨d',vs,ed,rd,rs⟩:=Yh rel2 e4 (rv1.ext ex2);cases ed;have:=zH e5 rs;subst this;have:=Yd e2;subst this;exact⟨_,ns,k,j,rfl,by rw[Zg rv2],rd,e3,p6.now rel2 _ (Yk _)⟩
theorem qbE(hK:X.K=ct.K){a b:Expr}{y:Str}{pt p pos:Pos}{ev:MSt->MH->R (List MV)}(hg:Gl X "zip")(hm:X.mg "zip"=none)(ha:PA X [a,b] (lA ct Ra E ev))(hpl:∀ e∈[a,b],za e=true)(hn:∀ σ h xs h',ev σ h=.ok xs h'->xs.length=2) :
  PI X (.Name y pt) (.Call (.Name "zip" p) [a,b] [] pos) (lI ct Ra E ev "zip"):=by
 refine PI.imp (zbL hg hm ha (ze hpl) (ze λe he=>hpl e (by simp at he;simp[he]))) λσ H Q q=>?_;obtain⟨μ,hh,σs,rel,rst,ra,p⟩:=q;refine⟨μ,hh,σs,rel,rst,ra,?_⟩;cases er:ev σs hh with
 |exc c h'=>rw[er] at p;exact p
 |stuck=>rw[er] at p;exact p
 |ok xs h' =>
  rw[er] at p;have hx:=hn _ _ _ _ er;intro μ' H' ex rel' vs rvs;obtain⟨items,g,e1,_,k⟩:=p μ' H' ex rel'
  rcases xs with _|⟨m,_|⟨m2,_|⟨m3,xs⟩⟩⟩
  ·simp at hx
  ·simp at hx
  ·obtain⟨v,v',rfl,rm,rm'⟩:=yN rvs;simp only[YaW,Wb,ub,Prod.mk.injEq] at e1;obtain⟨us,e2,ws,e3,rfl,rfl⟩:=e1;obtain⟨b1,a1,rfl,s1⟩:=yR rel' e2 rm;obtain⟨b2,a2,rfl,s2⟩:=yR rel' e3 rm';obtain⟨vs1,q1,_⟩:=s1 _ _ _ (Ext.refl _ _ _) rel' (yJ e2);obtain⟨vs2,q2,_⟩:=s2 _ _ _ (Ext.refl _ _ _) rel' (yJ e3);exact⟨b1,b2,a1,a2,rfl,⟨vs1,q1.s hK⟩,⟨vs2,q2.s hK⟩,k _ (qbu hK s1 s2)⟩
  ·simp at hx
end
section
variable {ct:Tx} {Pm:Prog} {n:Nat}
section
variable {X:Cx} {E:XK} {Ra:L2.St->Prop} {N:List Str} {sc:Scope}
theorem yc{e:Expr}{ev ev':MSt->MH->R MV}(p:PE X e (lE ct Ra E ev))(h:∀ σ hh,ev' σ hh=ev σ hh):PE X e (lE ct Ra E ev'):=by
 have:ev'=ev:=funext λσ=>funext λhh=>h σ hh;rw[this];exact p
theorem qu{e:Expr}{ev ev':MSt->MH->R MV}(p:PE X e (lE ct Ra E ev)/\PT X e (lT ct Ra E (tst ev)))(h:∀ σ hh,ev' σ hh=ev σ hh):PE X e (lE ct Ra E ev')/\PT X e (lT ct Ra E (tst ev')):=by
 have:ev'=ev:=funext λσ=>funext λhh=>h σ hh;rw[this];exact p
theorem Cc.comp{cs:Scope}{N':List Str}(c:Cc X Pm ct n Ra E N sc)(nd:N'.Nodup)(C:Addr)(s3:Shared)(H:Hp)(ex:List Addr):Cc (cxC X cs N' C s3 H ex) Pm ct n (λ_=>True) E0 N' (Yz cs sc) :=
 ⟨c.txt,c.calm,c.room,λσ _ pins H s e s' I ⟨_,_,_,_,_,_,_,_,_,_,_,_,_,_,_,q⟩=>q.elim,rfl,by rw[<- c.sc];rfl,nd,c.hK⟩
noncomputable def Sd(X:Cx)(ct:Tx)(Pm:Prog)(n:Nat)(Ra:L2.St->Prop)(E:XK)(me:ME)(e:Expr):Prop :=
 PE X e (lE ct Ra E (ya Pm (run Pm n) me))/\(okT me=true->PT X e (lT ct Ra E (tst (ya Pm (run Pm n) me))))
theorem Sd.of{me:ME}{e:Expr}(h:PE X e (lE ct Ra E (ya Pm (run Pm n) me))/\PT X e (lT ct Ra E (tst (ya Pm (run Pm n) me)))):Sd X ct Pm n Ra E me e:=⟨h.1,λ_=>h.2⟩
theorem qbj{ms:List ME}{es:List Expr}(b:Bo ct X Ra E Pm n ms es)(hl:es.length<1000):∀ σ h xs h',Ye Pm (run Pm n) ms σ h=.ok xs h'->xs.length<=sizeLine:=λσ h xs h' e=>by
 rw[qv e,b.length];exact Xe (uz hl) (by decide)
end
end
end SD
end
section
namespace SD
open PySem PySem.Spec PyProof.Rows L2 L3 M3 MP
variable {ct:Tx} {Pm:Prog} {n:Nat}
set_option tactic.hygienic true in
theorem Ybo{X:Cx}{E:XK}{Ra:L2.St->Prop}{N:List Str}{sc:Scope}{it:String}{t iter:Expr}{ms:List ME}(c:Cc X Pm ct n Ra E N sc)(k1:yaa t it iter=true)(k2:gl sc (Str.ofString it)=true)(b:Bo ct X Ra E Pm n ms (Zu iter)) :
  PI X t iter (lI ct Ra E (Ye Pm (run Pm n) ms) it):=by
 obtain⟨g1,g2,g3⟩:=yq c.sc k2;unfold yaa at k1;split at k1
 next x p as p2 =>
  simp only[Wa,xj,beq_iff_eq] at k1;obtain⟨k1,rfl⟩:=k1;have b':Bo ct X Ra E Pm n ms as:=b
  rcases k1 with (⟨rfl,ha⟩|⟨⟨rfl,ht⟩,ha⟩)|⟨⟨rfl,ht⟩,ha⟩
  ·have hl:=b'.length;have hm:X.mg "range"=none:=c.txt.blts "range" (by simp);exact ybj g1 hm b'.pa b'.plain ha λσ h xs h' e=>by rw[qv e,hl]
  ·cases t with
   |Tuple es k pt =>
    have hm:X.mg "zip"=none:=c.txt.blts "zip" (by simp)
    rcases as with _|⟨u,_|⟨v,_|⟨w,as⟩⟩⟩
    ·simp at ha
    ·simp at ha
    ·exact qca c.hK g1 hm b'.pa b'.plain λσ h xs h' e=>by rw[qv e,b'.length];rfl
    ·simp at ha
   |Name y pt =>
    have hm:X.mg "zip"=none:=c.txt.blts "zip" (by simp)
    rcases as with _|⟨u,_|⟨v,_|⟨w,as⟩⟩⟩
    ·simp at ha
    ·simp at ha
    ·exact qbE c.hK g1 hm b'.pa b'.plain λσ h xs h' e=>by rw[qv e,b'.length];rfl
    ·simp at ha
   |_=>exact Uf ht
  ·exact Uf ht
 next=>exact Uf k1
theorem qbO{α:Type}{l:List α}{p:α×α}(h:twoL l=some p):l=[p.1,p.2]:=by
 rcases l with _|⟨a,_|⟨b,_|⟨c,l⟩⟩⟩
 ·exact nomatch h
 ·exact nomatch h
 ·cases h;rfl
 ·exact nomatch h
theorem Yaq{α:Type}{l:List α}{p:α}(h:ZaE l=some p):l=[p]:=by
 rcases l with _|⟨a,_|⟨b,l⟩⟩
 ·exact nomatch h
 ·cases h;rfl
 ·exact nomatch h
theorem no0{α:Type}{a:α}{p:Prop}(h:none=some a):p:=nomatch h
theorem zas{e v:Expr}{x:Str}(h:asC1 e=some (x,v)):∃ p q,e=.Call (.Name x p) [v] [] q:=by
 cases e with
 |Call g as ks q =>
  cases g with
  |Name z p =>
   cases ks with
   |nil =>
    have h:((ZaE as).map λa=>(z,a))=some (x,v):=h;obtain⟨a,e1,h⟩:=ub.mp h;cases h;exact⟨p,q,by rw[Yaq e1]⟩
   |cons _ _=>exact no0 h
  |_=>exact no0 h
 |_=>exact no0 h
theorem qbt{e l r:Expr}{o:CmpOp}(h:Z3 e=some (l,o,r)):∃ p,e=.Compare l [o] [r] p:=by
 cases e with
 |Compare l' os rs p =>
  have h:((ZaE os).bind λo=>(ZaE rs).map λr=>(l',o,r))=some (l,o,r):=h;obtain⟨o',e1,h⟩:=Wb.mp h;obtain⟨r',e2,h⟩:=ub.mp h;cases h;exact⟨p,by rw[Yaq e1,Yaq e2]⟩
 |_=>exact no0 h
theorem zbI{e:Expr}(h:isNo e=true):∃ j p,e=.Constant .none j p:=by
 cases e with
 |Constant k j p =>
  cases k with
  |none=>exact⟨_,_,rfl⟩
  |_=>exact ff h
 |_=>exact ff h
theorem Zbr{e:Expr}{f:Expr->CmpOp->Expr->Bool}(h:(match Z3 e with|some (l,o,r)=>f l o r|none=>false)=true):∃ l o r p,e=.Compare l [o] [r] p/\f l o r=true:=by
 cases w:Z3 e with
 |none=>rw[w] at h;exact ff h
 |some q =>
  obtain⟨l,o,r⟩:=q;rw[w] at h;obtain⟨p,e⟩:=qbt w;exact⟨l,o,r,p,e,h⟩
theorem QaV{e v u:Expr}{x:Str}(h:asC2 e=some (x,v,u)):∃ p q,e=.Call (.Name x p) [v,u] [] q:=by
 cases e with
 |Call g as ks q =>
  cases g with
  |Name z p =>
   cases ks with
   |nil =>
    have h:((twoL as).map λa=>(z,a))=some (x,v,u):=h;obtain⟨a,e1,h⟩:=ub.mp h;cases h;exact⟨p,q,by rw[qbO e1]⟩
   |cons _ _=>exact no0 h
  |_=>exact no0 h
 |_=>exact no0 h
theorem qbA{e:Expr}{x:Str}(h:asNm e=some x):∃ p,e=.Name x p:=by
 cases e with
 |Name y p=>cases h;exact⟨p,rfl⟩
 |_=>exact no0 h
theorem QbV{e:Expr}{f:Str->Expr->Str->Bool}(h:(match zU e with|some (x,v,y)=>f x v y|none=>false)=true):∃ x v y p1 p2 p3,e=.Call (.Name x p1) [v,.Name y p2] [] p3/\f x v y=true:=by
 cases w:zU e with
 |none=>rw[w] at h;exact ff h
 |some q =>
  obtain⟨x,v,y⟩:=q;rw[w] at h;obtain⟨⟨x',v',y'⟩,e1,w⟩:=Wb.mp w;obtain⟨z,e2,w⟩:=ub.mp w;cases w;obtain⟨p2,e2⟩:=qbA e2;have e2:y'=.Name y p2:=e2;subst e2;obtain⟨p1,p3,e⟩:=QaV e1;exact⟨_,_,_,p1,p2,p3,e,h⟩
theorem Ya5{e u v:Expr}{x y:Str}(h:QaR e=some (x,y,u,v)):∃ p1 p2 p3 p,e=.Call (.Name x p1) [.Call (.Name y p2) [u,v] [] p3] [] p:=by
 obtain⟨⟨x',v'⟩,e1,h⟩:=Wb.mp h;obtain⟨⟨y',w⟩,e2,h⟩:=ub.mp h;cases h;obtain⟨p1,p,rfl⟩:=zas e1;obtain⟨p2,p3,rfl⟩:=QaV e2;exact⟨p1,p2,p3,p,rfl⟩
theorem ZaQ{e v:Expr}{x y:Str}(h:Qar e=some (x,y,v)):∃ p1 p2 p3 p,e=.Call (.Name x p1) [.Call (.Name y p2) [v] [] p3] [] p:=by
 obtain⟨⟨x',v'⟩,e1,h⟩:=Wb.mp h;obtain⟨⟨y',w⟩,e2,h⟩:=ub.mp h;cases h;obtain⟨p1,p,rfl⟩:=zas e1;obtain⟨p2,p3,rfl⟩:=zas e2;exact⟨p1,p2,p3,p,rfl⟩
set_option tactic.hygienic true in
mutual
theorem sB:∀(me:ME){X:Cx}{E:XK}{Ra:L2.St->Prop}{N:List Str} {sc:Scope} (c:Cc X Pm ct n Ra E N sc) (e:Expr),ye Pm me N sc e=true->Sd X ct Pm n Ra E me e
 |.var i,X,E,Ra,N,sc,c,e,h=>by
  have h:=zd h;cases e with
  |Name x p =>
   have h:(N[i]? == some x&&zaC sc x)=true:=h;simp only[Wa,beq_iff_eq] at h;exact Sd.of (yd (yc (e_var (by rw[c.nm];exact h.1) (by rw[c.sc];exact h.2)) λσ hh=>by simp only[ya]))
  |_=>exact ff h
 |.cI i,X,E,Ra,N,sc,c,e,h=>by
  have h:=zd h;cases e with
  |Constant k j p =>
   cases k with
   |int z =>
    have hz:i=z:=by simpa using(show(i==z)=true from h)
    subst hz;exact Sd.of (yd (yc (Z0 Yca λ_ _ _=>Yk _) λσ hh=>by simp only[ya]))
   |_=>exact ff h
  |_=>exact ff h
 |.cB i,X,E,Ra,N,sc,c,e,h=>by
  have h:=zd h;cases e with
  |Constant k j p =>
   cases k with
   |bool z =>
    have hz:i=z:=by simpa using(show(i==z)=true from h)
    subst hz;exact Sd.of (yd (yc (Z0 pe_bl λ_ _ _=>yB _) λσ hh=>by simp only[ya]))
   |_=>exact ff h
  |_=>exact ff h
 |.cN,X,E,Ra,N,sc,c,e,h=>by
  have h:=zd h;cases e with
  |Constant k j p =>
   cases k with
   |none =>
    exact Sd.of (yd (yc (Z0 ycb λ_ _ _=>qas) λσ hh=>by simp only[ya]))
   |_=>exact ff h
  |_=>exact ff h
 |.cS i,X,E,Ra,N,sc,c,e,h=>by
  have h:=zd h;cases e with
  |Constant k j p =>
   cases k with
   |str z =>
    have hz:i=z:=by simpa using(show(i==z)=true from h)
    subst hz;exact Sd.of (yd (yc (Z0 zbY λ_ _ _=>Zbu _) λσ hh=>by simp only[ya]))
   |_=>exact ff h
  |_=>exact ff h
 |.bin fz op a b,X,E,Ra,N,sc,c,e,h=>by
  have h:=zd h;cases e with
  |BinOp l o r p =>
   have h:(o==mOp op&&ye Pm a N sc l&&ye Pm b N sc r)=true:=h;simp only[Wa,beq_iff_eq] at h;obtain(⟨⟨rfl,h1⟩,h2⟩):=h;exact Sd.of (yd (yc (e_bin fz op (sB a c l h1).1 (sB b c r h2).1) λσ hh=>by simp only[ya]))
  |_=>exact ff h
 |.neg a,X,E,Ra,N,sc,c,e,h=>by
  have h:=zd h;cases e with
  |UnaryOp o x p =>
   cases o with
   |USub=>exact Sd.of (yd (yc (e_neg (sB a c x (show ye Pm a N sc x=true from h)).1) λσ hh=>by simp only[ya]))
   |_=>exact ff h
  |_=>exact ff h
 |.cmp op a b,X,E,Ra,N,sc,c,e,h=>by
  obtain(⟨l,o,r,p,rfl,g⟩):=Zbr (show(match Z3 e with|some (l,o,r)=>o==Zbw op&&ye Pm a N sc l&&ye Pm b N sc r|none=>false)=true from zd h);simp only[Wa,beq_iff_eq] at g;obtain(⟨⟨rfl,h1⟩,h2⟩):=g;exact Sd.of (qu (e_cmp c.hK op c.units (sB a c l h1).1 (sB b c r h2).1 (Qh h2)) λσ hh=>by simp only[ya])
 |.isN a,X,E,Ra,N,sc,c,e,h=>ff (zd h)
 |.notN a,X,E,Ra,N,sc,c,e,h=>by
  obtain(⟨l,o,r,p,rfl,g⟩):=Zbr (show(match Z3 e with|some (l,o,r)=>o == .IsNot&&isNo r&&ye Pm a N sc l|none=>false)=true from zd h);simp only[Wa,beq_iff_eq] at g;obtain(⟨⟨rfl,h1⟩,h2⟩):=g;obtain(⟨j,p2,rfl⟩):=zbI h1;exact Sd.of (qu (Zcb (sB a c l h2).1) λσ hh=>by simp only[ya])
 |.and es,X,E,Ra,N,sc,c,e,h=>by
  have h:=zd h;cases e with
  |BoolOp o vs p =>
   cases o with
   |And =>
    have h:(es.all okT&&yh Pm es N sc vs)=true:=h;rw[Wa] at h;obtain(⟨i1,i2⟩):=YbS (pos:=p) (sBs es c vs h.2) h.1;exact Sd.of (qu ⟨i1,i2.pt⟩ λσ hh=>by simp only[ya])
   |_=>exact ff h
  |_=>exact ff h
 |.or es,X,E,Ra,N,sc,c,e,h=>by
  have h:=zd h;cases e with
  |BoolOp o vs p =>
   cases o with
   |Or =>
    have h:(es.all okT&&yh Pm es N sc vs)=true:=h;rw[Wa] at h;obtain(⟨i1,i2⟩):=e_or (pos:=p) (sBs es c vs h.2) h.1;exact Sd.of (qu ⟨i1,i2.pt⟩ λσ hh=>by simp only[ya])
   |_=>exact ff h
  |_=>exact ff h
 |.not a,X,E,Ra,N,sc,c,e,h=>by
  have h:=zd h;cases e with
  |UnaryOp o x p =>
   cases o with
   |Not =>
    have h:(okT a&&ye Pm a N sc x)=true:=h;rw[Wa] at h;obtain(⟨i1,i2⟩):=sB a c x h.2;exact Sd.of (qu (e_not i1 (i2 h.1)) λσ hh=>by simp only[ya])
   |_=>exact ff h
  |_=>exact ff h
 |.ite d a b,X,E,Ra,N,sc,c,e,h=>by
  have h:=zd h;cases e with
  |IfExp t x y p =>
   have h:(okT d&&ye Pm d N sc t&&ye Pm a N sc x&&ye Pm b N sc y)=true:=h;simp only[Wa] at h;obtain(⟨⟨⟨h0,h1⟩,h2⟩,h3⟩):=h;exact⟨yc (e_ite ((sB d c t h1).2 h0) (sB a c x h2).1 (sB b c y h3).1) λσ hh=>by simp only[ya],λz=>Uf z⟩
  |_=>exact ff h
 |.tup es,X,E,Ra,N,sc,c,e,h=>by
  have h:=zd h;cases e with
  |Tuple vs k p =>
   have h:(decide (vs.length<1000)&&yh Pm es N sc vs)=true:=h;rw[Wa] at h;have b:=sBs es c vs h.2;exact Sd.of (yd (yc (e_tup b.pa (qbj b (of_decide_eq_true h.1))) λσ hh=>by simp only[ya]))
  |_=>exact ff h
 |.lst fz es,X,E,Ra,N,sc,c,e,h=>by
  have h:=zd h;cases e with
  |List vs p =>
   have h:(decide (vs.length<1000)&&yh Pm es N sc vs)=true:=h;rw[Wa] at h;have b:=sBs es c vs h.2;exact Sd.of (yd (yc (e_lst fz b.pa (qbj b (of_decide_eq_true h.1))) λσ hh=>by simp only[ya]))
  |_=>exact ff h
 |.sub a i,X,E,Ra,N,sc,c,e,h=>by
  have h:=zd h;cases e with
  |Subscript x y p =>
   have h:(ye Pm a N sc x&&ye Pm i N sc y)=true:=h;rw[Wa] at h;exact Sd.of (yd (yc (e_sub c.hK (sB a c x h.1).1 (sB i c y h.2).1 (Qh h.2)) λσ hh=>by simp only[ya]))
  |_=>exact ff h
 |.slice fz a lo hi,X,E,Ra,N,sc,c,e,h=>by
  have h:=zd h;cases e with
  |Subscript x y p =>
   cases y with
   |Slice l u st p2 =>
    cases st with
    |none =>
     have h:(ye Pm a N sc x&&ybs Pm lo N sc l&&ybs Pm hi N sc u)=true:=h;simp only[Wa] at h;obtain(⟨⟨h1,h2⟩,h3⟩):=h;exact Sd.of (yd (yc (ZbJ c.hK fz (sB a c x h1).1 (sBo lo c l h2) (sBo hi c u h3)) λσ hh=>by simp only[ya]))
    |some _=>exact ff h
   |_=>exact ff h
  |_=>exact ff h
 |.fld a f,X,E,Ra,N,sc,c,e,h=>by
  have h:=zd h;cases e with
  |Attribute x m p =>
   have h:(m==Str.ofString f&&zi x&&ye Pm a N sc x)=true:=h;simp only[Wa,beq_iff_eq] at h;obtain(⟨⟨rfl,h1⟩,h2⟩):=h;exact Sd.of (yd (yc (e_fld c.txt (sB a c x h2).1 h1) λσ hh=>by simp only[ya]))
  |_=>exact ff h
 |.call f es,X,E,Ra,N,sc,c,e,h=>by
  have h:=zd h;cases e with
  |Call g as ks p =>
   cases g with
   |Name x p2 =>
    cases as with
    |nil=>exact ff h
    |cons v vs =>
     cases ks with
     |cons _ _=>exact ff h
     |nil =>
      have h:(x==Str.ofString f&&gl sc x&&!(f.toList.contains '.')&&(Pm.defs f).isSome&&yh Pm es N sc (v::vs))=true:=h;simp only[Wa,beq_iff_eq,Vh] at h;obtain(⟨⟨⟨⟨rfl,h1⟩,h2⟩,h3⟩,h4⟩):=h;obtain(⟨d,hd⟩):=Wj.mp h3;have b:=sBs es c (v::vs) h4;exact Sd.of (yd (yc (ycf c hd h2 h1 b.pa b.plain) λσ hh=>by simp only[ya]))
   |_=>exact ff h
  |_=>exact ff h
 |.make fz cn es,X,E,Ra,N,sc,c,e,h=>by
  have h:=zd h;cases e with
  |Call g as ks p =>
   cases g with
   |Name x p2 =>
    cases as with
    |nil =>
     cases ks with
     |cons _ _=>cases es <;> exact ff h
     |nil =>
      cases es with
      |cons _ _=>exact ff h
      |nil =>
       have h:(x==Str.ofString cn&&gl sc x&&Pm.mk0 cn&&(Pm.meths cn "__init__").isNone)=true:=h;simp only[Wa,beq_iff_eq,Option.isNone_iff_eq_none] at h;obtain(⟨⟨⟨rfl,h1⟩,h3⟩,h4⟩):=h;exact Sd.of (yd (yc (QbM fz c h3 h4 h1) λσ hh=>by simp only[ya,Ye]))
    |cons v vs =>
     cases ks with
     |cons _ _=>exact ff h
     |nil =>
      have h:(x==Str.ofString cn&&gl sc x&&(Pm.meths cn "__init__").isSome&&yh Pm es N sc (v::vs))=true:=h;simp only[Wa,beq_iff_eq] at h;obtain(⟨⟨⟨rfl,h1⟩,h3⟩,h4⟩):=h;obtain(⟨d,hd⟩):=Wj.mp h3;have b:=sBs es c (v::vs) h4;exact Sd.of (yd (yc (qb6 fz c hd h1 b.pa b.plain) λσ hh=>by simp only[ya]))
   |_=>exact ff h
  |_=>exact ff h
 |.meth o m es,X,E,Ra,N,sc,c,e,h=>ff (zd h)
 |.blt fz id es,X,E,Ra,N,sc,c,e,h=>by
  have h:=zd h;cases e with
  |Call g as ks p =>
   cases g with
   |Name x p2 =>
    cases as with
    |nil=>exact ff h
    |cons v vs =>
     cases ks with
     |cons _ _=>exact ff h
     |nil =>
      have h:(x==Str.ofString id&&gl sc x&&(fnNames.contains id||tyNames.contains id)&&yh Pm es N sc (v::vs))=true:=h;simp only[Wa,beq_iff_eq,xj] at h;obtain(⟨⟨⟨rfl,h1⟩,h2⟩,h4⟩):=h;have b:=sBs es c (v::vs) h4;exact Sd.of (yd (yc (e_blt fz c (by simpa using h2) h1 b.pa b.plain) λσ hh=>by simp only[ya]))
   |_=>exact ff h
  |_=>exact ff h
 |.isI a t,X,E,Ra,N,sc,c,e,h=>by
  obtain(⟨x,v,y,p1,p2,p3,rfl,g⟩):=QbV (show(match zU e with|some (x,v,y)=>x==("isinstance":Str)&&gl sc x&&y==Str.ofString t&&gl sc y&&(isTys.contains t||(Pm.subs t t).isSome)&&ye Pm a N sc v|none=>false)=true from zd h);simp only[Wa,beq_iff_eq,xj] at g;obtain(⟨⟨⟨⟨⟨rfl,h1⟩,rfl⟩,h2⟩,h3⟩,h4⟩):=g;exact Sd.of (yd (yc (e_isI c h3 h1 h2 (sB a c v h4).1 (Qh h4)) λσ hh=>by simp only[ya]))
 |.isX a t,X,E,Ra,N,sc,c,e,h=>by
  obtain(⟨x,v,y,p1,p2,p3,rfl,g⟩):=QbV (show(match zU e with|some (x,v,y)=>x==("isinstance":Str)&&gl sc x&&y==Str.ofString t&&gl sc y&&Pm.xcls t&&ye Pm a N sc v|none=>false)=true from zd h);simp only[Wa,beq_iff_eq] at g;obtain(⟨⟨⟨⟨⟨rfl,h1⟩,rfl⟩,h2⟩,h3⟩,h4⟩):=g;exact Sd.of (yd (yc (e_isX c h3 h1 h2 (sB a c v h4).1 (Qh h4)) λσ hh=>by simp only[ya]))
 |.tx1 o a,X,E,Ra,N,sc,c,e,h=>by
  replace h:=zd h;cases hs:t1S o with
  |false =>
   cases o with
   |setl =>
    replace h:(match Qar e with|some (x,y,v)=>x==("len":Str)&&gl sc x&&y==("set":Str)&&gl sc y&&ye Pm a N sc v|none=>false)=true:=h;split at h
    next x y v w =>
     obtain(⟨p1,p2,p3,p,rfl⟩):=ZaQ w;simp only[Wa,beq_iff_eq] at h;obtain(⟨⟨⟨⟨rfl,h1⟩,rfl⟩,h2⟩,h3⟩):=h;exact Sd.of (yd (yc (Qb4 c h1 h2 (sB a c v h3).1 (Qh h3)) λσ hh=>by simp only[ya]))
    next=>exact ff h
   |_=>cases hs
  |true =>
   have bad:(∀ x np v p,e≠.Call (.Name x np) [v] [] p)->False:=λq=>by
    cases o with
    |setl=>cases hs
    |_ =>
     cases e with
     |Call f as ks p =>
      cases f with
      |Name x np =>
       rcases as with _|⟨v,_|⟨v2,as⟩⟩
       ·exact Uf h
       ·cases ks with
        |nil=>exact q _ _ _ _ rfl
        |cons _ _=>exact Uf h
       ·exact Uf h
      |_=>exact Uf h
     |_=>exact Uf h
   by_cases q:∃ x np v p,e=.Call (.Name x np) [v] [] p
   ·obtain(⟨x,np,v,p,rfl⟩):=q;have hq:(x==t1N o&&gl sc x&&ye Pm a N sc v)=true:=by
     cases o with
     |setl=>cases hs
     |_=>exact h
    simp only[Wa,beq_iff_eq] at hq;obtain(⟨⟨h0,h1⟩,h2⟩):=hq;exact Sd.of (yd (yc (e_tx1 c hs h0 h1 (sB a c v h2).1 (Qh h2)) λσ hh=>by simp only[ya]))
   ·exact(bad λx np v p z=>q ⟨x,np,v,p,z⟩).elim
 |.tx2 o a b,X,E,Ra,N,sc,c,e,h=>by
  replace h:=zd h;cases o with
  |idx =>
   obtain(⟨x,ap,v,cp,rfl,h1,h2,h3,h4⟩):∃ x ap v cp,e=.Call (.Attribute x "index" ap) [v] [] cp/\zi x=true/\(ap.endLine==cp.line)=true/\ye Pm a N sc x=true/\ye Pm b N sc v=true:=by
    cases e with
    |Call f as ks p =>
     cases f with
     |Attribute x n ap =>
      rcases as with _|⟨v,_|⟨v2,as⟩⟩
      ·exact ff h
      ·cases ks with
       |nil =>
        replace h:(n==("index":Str)&&zi x&&(ap.endLine==p.line)&&ye Pm a N sc x&&ye Pm b N sc v)=true:=h;simp only[Wa,beq_iff_eq] at h;obtain(⟨⟨⟨⟨rfl,h1⟩,h2⟩,h3⟩,h4⟩):=h;exact⟨x,ap,v,p,rfl,h1,by simpa using h2,h3,h4⟩
       |cons _ _=>exact ff h
      ·exact ff h
     |_=>exact ff h
    |_=>exact ff h
   exact Sd.of (yd (yc (e_idx (sB a c x h3).1 (sB b c v h4).1 h1 (Qh h4) h2) λσ hh=>by simp only[ya,t2g]))
  |lrg =>
   replace h:(match QaR e with|some (x,y,u,v)=>x==("list":Str)&&gl sc x&&y==("range":Str)&&gl sc y&&ye Pm a N sc u&&ye Pm b N sc v|none=>false)=true:=h;split at h
   next x y u v w =>
    obtain(⟨p1,p2,p3,p,rfl⟩):=Ya5 w;simp only[Wa,beq_iff_eq] at h;obtain(⟨⟨⟨⟨⟨rfl,h1⟩,rfl⟩,h2⟩,h3⟩,h4⟩):=h;exact Sd.of (yd (yc (e_lrg c h1 h2 (sB a c u h3).1 (sB b c v h4).1 (Qh h3) (Qh h4)) λσ hh=>by simp only[ya,t2g]))
   next=>exact ff h
 |.nearK a b,X,E,Ra,N,sc,c,e,h=>by
  replace h:=zd h;cases e <;> exact ff h
 |.lm m o es,X,E,Ra,N,sc,c,e,h=>by
  have h:=zd h;cases e with
  |Call g as ks p =>
   cases g with
   |Attribute x nm ap =>
    cases ks with
    |cons _ _=>exact ff h
    |nil =>
     have h:(nm==Str.ofString m&&zi x&&(ap.endLine==p.line)&&ye Pm o N sc x&&yh Pm es N sc as&&(if as.isEmpty then lm0Names.contains m else lmNames.contains m&&decide (as.length<30)))=true:=h;simp only[Wa,beq_iff_eq] at h;obtain(⟨⟨⟨⟨⟨rfl,h1⟩,h2⟩,h3⟩,h4⟩,h5⟩):=h;have b:=sBs es c as h4;have ho:=(sB o c x h3).1;have hl:(ap.endLine==p.line)=true:=by simpa using h2
     cases as with
     |nil =>
      cases es with
      |cons _ _=>exact b.elim
      |nil =>
       have h5':m∈lm0Names:=by simpa using h5
       simp only[lm0Names,Ua,Xc,or_false] at h5'
     |cons v vs =>
      have h5':m∈lmNames/\(v::vs).length<30:=by simpa using h5
      obtain(⟨h6,h7⟩):=h5';simp only[lmNames,Ua,Xc,or_false] at h6
      rcases h6 with rfl|rfl|rfl
      ·exact Sd.of (yd (yc (zbv PySem.F.slot_list_append PySem.F.type_list_append ya9 ho h1 b.pa b.plain h7 hl) λσ hh=>by simp only[ya]))
      ·exact Sd.of (yd (yc (zbv PySem.F.slot_list_extend PySem.F.type_list_extend ya4 ho h1 b.pa b.plain h7 hl) λσ hh=>by simp only[ya]))
      ·exact Sd.of (yd (yc (zbv PySem.F.slot_list_pop PySem.F.type_list_pop Zb4 ho h1 b.pa b.plain h7 hl) λσ hh=>by simp only[ya]))
   |_=>exact ff h
  |_=>exact ff h
 |.comp fz elt tg it src cond ncv js,X,E,Ra,N,sc,c,e,h=>by
  have h:=zd h;cases e with
  |ListComp x gs cs p =>
   rcases gs with _|⟨⟨t,iter,ifs,a⟩,_|⟨g2,gs⟩⟩
   ·exact ff h
   ·have h:((a==0)&&za iter&&Yt sc N cs (tgN tg t++js.filterMap λj=>N[j]?) ncv js&&decide (tgN tg t++js.filterMap λj=>N[j]?).Nodup&&yt (ownC cs) (tgN tg t++js.filterMap λj=>N[j]?) (Yz cs sc) tg t&&ye Pm elt (tgN tg t++js.filterMap λj=>N[j]?) (Yz cs sc) x&&chkC Pm cond (tgN tg t++js.filterMap λj=>N[j]?) (Yz cs sc) ifs&&(if it == "seq" then zbg Pm src N sc iter else if it == "signs" then false else if it == "enum1" then false else yaa t it iter&&gl sc (Str.ofString it)&&yh Pm src N sc (Zu iter)))=true:=h;simp only[Wa,beq_iff_eq,decide_eq_true_eq] at h;obtain(⟨⟨⟨⟨⟨⟨⟨ha,h1⟩,h2⟩,h3⟩,h4⟩,h5⟩,h6⟩,h7⟩):=h;subst ha;have hi:PI X t iter (lI ct Ra E (Ye Pm (run Pm n) src) it):=by
     split at h7
     next hs =>
      subst hs;exact sBi src c t iter h7
     next hs =>
      split at h7
      next hs4 =>
       subst hs4;exact ff h7
      next =>
      split at h7
      next hs2 =>
       exact ff h7
      next =>
       simp only[Wa] at h7;obtain(⟨⟨k1,k2⟩,k3⟩):=h7;exact Ybo c k1 k2 (sBs src c (Zu iter) k3)
    exact Sd.of (yd (yc (Qcd fz (by rw[c.sc,c.nm];exact h2) c.calm hi (λC s3 H ex=>sG rfl (c.comp h3 C s3 H ex).sc h3 c.calm (λ_ z=>z) tg t h4) (λC s3 H ex=>sBc cond (c.comp h3 C s3 H ex) ifs h6) (λC s3 H ex=>(sB elt (c.comp h3 C s3 H ex) x h5).1) h1) λσ hh=>by simp only[ya]))
   ·exact ff h
  |_=>exact ff h
 |.frz m,X,E,Ra,N,sc,c,e,h=>by
  have h:=zd h;have h':ye Pm m N sc e=true:=h;exact⟨yc (e_frz (sB m c e h').1) λσ hh=>by simp only[ya],λz=>Uf z⟩
theorem sBs:∀(mes:List ME){X:Cx}{E:XK}{Ra:L2.St->Prop}{N:List Str} {sc:Scope} (c:Cc X Pm ct n Ra E N sc) (es:List Expr),yh Pm mes N sc es=true->Bo ct X Ra E Pm n mes es
 |[],X,E,Ra,N,sc,c,es,h=>by
  cases es with
  |nil=>trivial
  |cons e es=>exact ff h
 |m::ms,X,E,Ra,N,sc,c,es,h=>by
  cases es with
  |nil=>exact ff h
  |cons e es =>
   have h:=YaR h;exact⟨⟨Qh h.1,sB m c e h.1⟩,sBs ms c es h.2⟩
theorem sBi:∀(mes:List ME){X:Cx}{E:XK}{Ra:L2.St->Prop}{N:List Str} {sc:Scope} (c:Cc X Pm ct n Ra E N sc) (t e:Expr),zbg Pm mes N sc e=true->PI X t e (lI ct Ra E (Ye Pm (run Pm n) mes) "seq")
 |[],X,E,Ra,N,sc,c,t,e,h=>ff h
 |[m],X,E,Ra,N,sc,c,t,e,h=>by
  have h:ye Pm m N sc e=true:=h;have:=zch c.hK (tg:=t) (sB m c e h).1;have e2:Ye Pm (run Pm n) [m]=λσ hh=>(ya Pm (run Pm n) m σ hh).bind λx h1=>.ok [x] h1:=by
   funext σ hh;simp only[Ye] <;> rfl
  rw[e2];exact this
 |_::_::_,X,E,Ra,N,sc,c,t,e,h=>ff h
theorem sBo:∀(mo:Option ME){X:Cx}{E:XK}{Ra:L2.St->Prop}{N:List Str} {sc:Scope} (c:Cc X Pm ct n Ra E N sc) (eo:Option Expr),ybs Pm mo N sc eo=true->PO X eo (lO ct Ra E (ZaJ Pm (run Pm n) mo))
 |none,X,E,Ra,N,sc,c,eo,h=>by
  cases eo with
  |none =>
   refine PO.imp YbR λσ H Q q=>?_;obtain⟨μ,hh,σs,rel,rst,ra,p⟩:=q;simp only[ZaJ] at p;exact p.now rel
  |some e=>exact ff h
 |some m,X,E,Ra,N,sc,c,eo,h=>by
  cases eo with
  |none=>exact ff h
  |some e =>
   have h:ye Pm m N sc e=true:=h;refine PO.imp (qbP (sB m c e h).1) λσ H Q q=>?_;obtain⟨μ,hh,σs,rel,rst,ra,p⟩:=q;simp only[ZaJ] at p;refine lE.mk rel rst ra p λx v μ1 h1 H1 ex rel1 rst1 rv p1=>?_;obtain⟨i,e,p2⟩:=Po.opt p1;have:=Yd e;subst this;exact⟨i,Zg rv,p2.now rel1⟩
theorem sBc:∀(mo:Option ME){X:Cx}{E:XK}{Ra:L2.St->Prop}{N:List Str} {sc:Scope} (c:Cc X Pm ct n Ra E N sc) (es:List Expr),chkC Pm mo N sc es=true->PIf X es (lT ct Ra E (zaz Pm (run Pm n) mo))
 |none,X,E,Ra,N,sc,c,es,h=>by
  cases es with
  |nil =>
   refine PIf.imp qbK λσ H Q q=>?_;obtain⟨μ,hh,σs,rel,rst,ra,p⟩:=q;simp only[zaz] at p;exact p.now rel
  |cons e es=>exact ff h
 |some m,X,E,Ra,N,sc,c,es,h=>by
  rcases es with _|⟨e,_|⟨e2,es⟩⟩
  ·exact ff h
  ·have h:(okT m&&ye Pm m N sc e)=true:=h;rw[Wa] at h;have e2:zaz Pm (run Pm n) (some m)=tst (ya Pm (run Pm n) m):=by
    funext σ hh;simp only[zaz,tst]
   rw[e2];exact YbP ((sB m c e h.2).2 h.1)
  ·exact ff h
end
end SD
end
section
namespace SD
open PySem PySem.Spec PyProof.Rows L2 L3 M3 MP
noncomputable def PoS(ct:Tx)(E:XK)(r:RS)(μ:List Addr)(h:MH)(H:Hp)(D:Ends):Prop:=match r with
 |.next σ' h'=>∀ μ' H' σ,Ext μ h H μ' h' H'->Rel ct μ' h' H'->RelSt ct μ' h' H' σ σ'->D.nx σ H'
 |.ret m h'=>∀ μ' H' v,Ext μ h H μ' h' H'->Rel ct μ' h' H'->RV ct μ' (Liv μ' h') H' m v->D.rt v H'
 |.brk σ' h'=>∀ μ' H' σ,Ext μ h H μ' h' H'->Rel ct μ' h' H'->RelSt ct μ' h' H' σ σ'->D.bk σ H'
 |.cnt σ' h'=>∀ μ' H' σ,Ext μ h H μ' h' H'->Rel ct μ' h' H'->RelSt ct μ' h' H' σ σ'->D.ct σ H'
 |.exc c h'=>∀ μ' H',Ext μ h H μ' h' H'->Rel ct μ' h' H'->E (.ref (ct c)) none H'
 |.stuck=>False
noncomputable def lS(ct:Tx)(Ra:L2.St->Prop)(E:XK)(ex:MSt->MH->RS):TS:=λD σ H=>∃ μ h σs,Rel ct μ h H/\RelSt ct μ h H σ σs/\Ra σ/\PoS ct E (ex σs h) μ h H D
section
variable {ct:Tx} {Pm:Prog} {n:Nat} {X:Cx} {E:XK} {Ra:L2.St->Prop} {N:List Str} {sc:Scope}
section
variable {μ μ1:List Addr} {h h1:MH} {H H1:Hp} {D:Ends} {α:Type}
theorem PoS.start{r:RS}(e:Ext μ h H μ1 h1 H1)(p:PoS ct E r μ h H D):PoS ct E r μ1 h1 H1 D:=by
 cases r with
 |next σ' h'=>exactλμ' H' σ e' r' q=>p μ' H' σ (e.trans e') r' q
 |ret m h'=>exactλμ' H' v e' r' q=>p μ' H' v (e.trans e') r' q
 |brk σ' h'=>exactλμ' H' σ e' r' q=>p μ' H' σ (e.trans e') r' q
 |cnt σ' h'=>exactλμ' H' σ e' r' q=>p μ' H' σ (e.trans e') r' q
 |exc c h'=>exactλμ' H' e' r'=>p μ' H' (e.trans e') r'
 |stuck=>exact p
theorem PoS.st{r:R α}{k:α->MH->RS}(p:PoS ct E (r.st k) μ h H D):Po ct E r μ h H λx μ1 h1 H1=>Ext μ h H μ1 h1 H1/\Rel ct μ1 h1 H1/\PoS ct E (k x h1) μ1 h1 H1 D:=by
 cases r with
 |ok x h'=>exactλμ' H' e' r'=>⟨e',r',PoS.start (r:=k x h') e' p⟩
 |exc c h'=>exact p
 |stuck=>exact p
theorem PoS.opt{o:Option α}{k:α->RS}(p:PoS ct E (qw o k) μ h H D):∃ x,o=some x/\PoS ct E (k x) μ h H D:=by
 cases o with
 |none=>exact p.elim
 |some x=>exact⟨x,rfl,p⟩
end
section
variable {μ:List Addr} {h:MH} {H:Hp} {σ:L2.St} {σs:MSt} {D:Ends}
theorem lE.st{ev:MSt->MH->R MV}{k:MV->MH->RS}{Q:VK}(rel:Rel ct μ h H)(rst:RelSt ct μ h H σ σs)(ra:Ra σ)(p:PoS ct E ((ev σs h).st k) μ h H D)
  (f:∀ m v μ1 h1 H1,Ext μ h H μ1 h1 H1->Rel ct μ1 h1 H1->RelSt ct μ1 h1 H1 σ σs->RV ct μ1 (Liv μ1 h1) H1 m v->PoS ct E (k m h1) μ1 h1 H1 D->Q v H1):lE ct Ra E ev σ H Q :=
 ⟨μ,h,σs,rel,rst,ra,(PoS.st p).imp λm μ1 h1 H1 ⟨e1,r1,p1⟩ v rv=>f m v μ1 h1 H1 e1 r1 (rst.ext e1) rv p1⟩
end
structure Cs (X:Cx) (Pm:Prog) (ct:Tx) (n:Nat) (E:XK) (N:List Str) (sc:Scope):Prop where
 cc:Cc X Pm ct n (λ_=>True) E N sc
 ex:X.ex=[]
 own:PassesOwn (model X.prog X.w) X.A X.env X.xe
 tk:Qa1 X E
 fn:∀ x,X.fn x=true
 kd:X.env.scope.kind=.function
 stk:X.stack=X.env::X.outer
 fr:X.env.frame=some X.env.locals
section
variable {ea eb ec:MSt->MH->R MV} {a b c:Expr} {pos p2:Pos}
noncomputable def YL:Expr->Bool
 |.ListComp ..=>true
 |.SetComp ..=>true
 |.DictComp ..=>true
 |_=>false
theorem yP{e:Expr}{t:Option Expr}{l:Nat}{env:Env}(h:YL e=false):swapsWith e t l env=pure false:=by
 cases e <;> first|rfl|(simp[YL] at h)
theorem ZbT{e t:Expr}{l:Nat}{env:Env}(h1:∀ x gs cs p,swapsWith (.ListComp x gs cs p) (some t) l env=pure false)(h2:∀ x gs cs p,swapsWith (.SetComp x gs cs p) (some t) l env=pure false)(h3:∀ x y gs cs p,swapsWith (.DictComp x y gs cs p) (some t) l env=pure false):swapsWith e (some t) l env=pure false:=by
 cases hl:YL e with
 |false=>exact yP hl
 |true =>
  cases e with
  |ListComp x gs cs p=>exact h1 _ _ _ _
  |SetComp x gs cs p=>exact h2 _ _ _ _
  |DictComp x y gs cs p=>exact h3 _ _ _ _ _
  |_=>exact Uf (show false=true from hl)
theorem sw_lc{x:Expr}{gs:List Comprehension}{cs:Scope}{p:Pos}{t:Expr}{l:Nat}{env:Env}(h:∀ x p,t≠.Name x p):swapsWith (.ListComp x gs cs p) (some t) l env=pure false:=by
 cases t with
 |Name x p=>exact absurd rfl (h x p)
 |_=>rfl
theorem Zbk(ha:PE X a (lE ct Ra E ea))(hl:YL a=false):PS X (.Expr a pos) (lS ct Ra E λσ h=>(ea σ h).st λ_ h1=>.next σ h1):=PS.imp (zbC ha (yP hl)) λD σ H q=>by
 obtain⟨μ,h,σs,rel,rst,ra,p⟩:=q;exact lE.st rel rst ra p λm v μ1 h1 H1 ex rel1 rst1 rv p1=>p1 μ1 H1 σ (Ext.refl _ _ _) rel1 rst1
theorem s_ret(ha:PE X a (lE ct Ra E ea)):PS X (.Return (some a) pos) (lS ct Ra E λσ h=>(ea σ h).st λv h1=>.ret v h1):=PS.imp (Qb7 ha) λD σ H q=>by
 obtain⟨μ,h,σs,rel,rst,ra,p⟩:=q;exact lE.st rel rst ra p λm v μ1 h1 H1 ex rel1 rst1 rv p1=>p1 μ1 H1 v (Ext.refl _ _ _) rel1 rv
theorem s_if{x y:List Stmt}{ex ey:MSt->MH->RS}(tc:PT X c (lT ct Ra E (tst ec)))(hx:PSs X x (lS ct Ra E ex))(hy:PSs X y (lS ct Ra E ey)) :
  PS X (.If c x y pos) (lS ct Ra E λσ h=>(ec σ h).st λv h1=>qw (yx v) λk=>if k=true then ex σ h1 else ey σ h1):=PS.imp (ps_if tc hx hy) λD σ H q=>by
 obtain⟨μ,h,σs,rel,rst,ra,p⟩:=q;have p':PoS ct E ((tst ec σs h).st λk h1=>if k=true then ex σs h1 else ey σs h1) μ h H D:=by
  dsimp only[tst] at p ⊢;cases er:ec σs h with
  |stuck=>rw[er] at p;exact p
  |exc c h'=>rw[er] at p;exact p
  |ok x h' =>
   rw[er] at p;simp only[R.bind_ok,R.st_ok] at p ⊢;cases eb:yx x with
   |none=>rw[eb] at p;exact p.elim
   |some k=>rw[eb] at p;exact p
 refine⟨μ,h,σs,rel,rst,ra,(PoS.st p').imp λk μ1 h1 H1 ⟨ex1,rel1,p1⟩=>?_⟩;cases k with
 |true=>exact⟨μ1,h1,σs,rel1,rst.ext ex1,ra,p1⟩
 |false=>exact⟨μ1,h1,σs,rel1,rst.ext ex1,ra,p1⟩
theorem s_set{tg:Tg}(c:Cs X Pm ct n E N sc)(ht:yt Zai N sc tg b=true)(ha:PE X a (lE ct (λ_=>True) E ea))(hs:swapsWith a (some b) pos.line X.env=pure false)(hw:swappedStores [b] a X.env=pure none) :
  PS X (.Assign [b] a pos) (lS ct (λ_=>True) E λσ h=>(ea σ h).st λv h1=>qw (zt tg v σ) λσ1=>.next σ1 h1):=by
 refine PS.imp (zbq ha (sG (ct:=ct) c.cc.nm c.cc.sc c.cc.nd c.cc.calm (λx _=>c.fn x) tg b ht) hs hw (by rw[qT ht [] X.env];rfl)) λD σ H q=>?_;obtain⟨μ,h,σs,rel,rst,ra,p⟩:=q;refine lE.st rel rst ra p λm v μ1 h1 H1 ex rel1 rst1 rv p1=>?_;obtain⟨σ1,e,p2⟩:=PoS.opt p1;exact⟨μ1,h1,σs,m,σ1,rel1,rst1,rv,e,λσ' rst'=>p2 μ1 H1 σ' (Ext.refl _ _ _) rel1 rst'⟩
theorem ZaR{o i : Expr}{env : Env}(hp : za i=true) : ∀ v, assign (.Subscript o i pos) env v=(do
   let ov<-holding [v] (eval o env)
   let iv<-holding [v,ov] (eval i env)
   standAt pos
   holding [v,ov,iv] (setItem ov iv v)
   release [v,ov,iv] []):=by
 intro v;cases i <;> first|rfl|(simp[za] at hp)
theorem Ybh{o i:Expr}(ha:PE X a (lE ct Ra E ea))(ho:PE X o (lE ct Ra E eb))(hi:PE X i (lE ct Ra E ec))(hp:za i=true) :
  PS X (.Assign [.Subscript o i p2] a pos) (lS ct Ra E λσ h=>(ea σ h).st λv h1=>(eb σ h1).st λx h2=>(ec σ h2).st λy h3 =>
   match x with
   |.ref a=>qw (Ya h3 a) λxs=>qw (yb y) λk=>qw (ixM xs.length k) λj=>.next σ (Zb h3 a (xs.set j v))
   |_=>.stuck):=by
 refine PS.imp (zbq ha (qb3 ho hi Zby (ZaR hp)) (show swapsWithSole [Expr.Subscript o i p2] a pos.line X.env=pure false from ZbT (e:=a) (t:=.Subscript o i p2) (l:=pos.line) (env:=X.env) (λ_ _ _ _=>rfl) (λ_ _ _ _=>rfl) (λ_ _ _ _ _=>rfl)) (by cases a <;> rfl) rfl) λD σ H q=>?_;obtain⟨μ,h,σs,rel,rst,ra,p⟩:=q;refine lE.st rel rst ra p λm v μ1 h1 H1 ex1 rel1 rst1 rv p1=>?_;refine lE.st rel1 rst1 ra p1 λm2 v2 μ2 h2 H2 ex2 rel2 rst2 rv2 p2=>?_;refine lE.st rel2 rst2 ra p2 λm3 v3 μ3 h3 H3 ex3 rel3 rst3 rv3 p3=>?_;cases m2 with
 |ref i0 =>
  obtain⟨xs,e1,p4⟩:=PoS.opt p3;obtain⟨k,e2,p5⟩:=PoS.opt p4;obtain⟨j,e3,p6⟩:=PoS.opt p5;have:=Yd e2;subst this;obtain⟨b',vs,eb',hb,rs⟩:=rel3.lst e1;have rv2':=rv2.ext ex3;simp only[RV] at rv2';obtain⟨b0,eb0,rfl⟩:=rv2';rw[eb'] at eb0;cases eb0;have e4:=zD e1;have ex4:=Ext.set (H:=H3) rel3 eb' e4 (λz=>nomatch z) (.lst (xs.set j m)) (.lst (vs.set j v));refine⟨b',vs,k,j,rfl,Zg rv3,hb,by rw[rs.length,<- ybq];exact e3,?_⟩;refine p6 μ3 _ σ ex4 (rel3.set eb' e4 (λz=>nomatch z) ⟨_,Qf,?_⟩) (rst3.ext ex4);exact RVs.set (((rv.ext ex2).ext ex3).ext ex4) j (rs.ext ex4)
 |f _=>exact p3.elim
 |tup _=>exact p3.elim
 |exc _=>exact p3.elim
theorem zaB{μ:List Addr}{L:Addr->Prop}{H:Hp}{f:String}{m:MV}{v:V}(r:RV ct μ L H m v):∀{fs:List (String×MV)} {gs:List (Str×V)},gs.map Vq=fs.map (λp=>Str.ofString p.1)->RVs ct μ L H (fs.map Ul) (gs.map Ul) ->
  (yA (Str.ofString f) v gs).map Vq=(yag f m fs).map (λp=>Str.ofString p.1)/\RVs ct μ L H ((yag f m fs).map Ul) ((yA (Str.ofString f) v gs).map Ul)
 |[],gs,h1,h2=>by
  cases gs with
  |nil=>exact⟨rfl,RVs.cons r RVs.nil⟩
  |cons p gs=>simp at h1
 |(k,y)::fs,gs,h1,h2=>by
  cases gs with
  |nil=>simp at h1
  |cons p gs =>
   obtain⟨k',u⟩:=p;simp only[Wd,List.cons.injEq] at h1;obtain⟨rfl,h3⟩:=h1;simp only[Wd,RVs] at h2;obtain⟨w,t,e,q1,q2⟩:=h2;cases e;unfold yA yag;by_cases hk:k=f
   ·subst hk;rw[if_pos rfl,if_pos rfl];exact⟨by simp[h3],by simp only[Wd];exact RVs.cons r q2⟩
   ·rw[if_neg hk,if_neg (λz=>hk (ZB z))];obtain⟨i1,i2⟩:=zaB (f:=f) r h3 q2;exact⟨by simp[i1],by simp only[Wd];exact RVs.cons q1 i2⟩
theorem zbx{o:Expr}{f:String}(T:Txt X.prog X.w X.K X.mg X.base Pm ct n)(ha:PE X a (lE ct Ra E ea))(ho:PE X o (lE ct Ra E eb)) :
  PS X (.Assign [.Attribute o (Str.ofString f) p2] a pos) (lS ct Ra E λσ h=>(ea σ h).st λv h1=>(eb σ h1).st λx h2=>match x with
   |.ref a=>match h2[a]? with
    |some (.obj c fs)=>if Pm.fok c f=true/\fs.length<100 then .next σ (h2.set a (.obj c (yag f v fs))) else .stuck
    |_=>.stuck
   |_=>.stuck):=by
 refine PS.imp (ZbZ ho ha (ZbT (λ_ _ _ _=>rfl) (λ_ _ _ _=>rfl) (λ_ _ _ _ _=>rfl))) λD σ H q=>?_;obtain⟨μ,h,σs,rel,rst,ra,p⟩:=q;refine lE.st rel rst ra p λm v μ1 h1 H1 ex1 rel1 rst1 rv p1=>?_;refine lE.st rel1 rst1 ra p1 λm2 v2 μ2 h2 H2 ex2 rel2 rst2 rv2 p2=>?_;cases m2 with
 |ref i0 =>
  dsimp only at p2;split at p2
  next c fs ec =>
   split at p2
   next ok =>
    obtain⟨ok1,ok2⟩:=ok;obtain⟨b,dx,gs,eb,hb,q1,q2⟩:=rel2.obj ec;simp only[RV] at rv2;obtain⟨b0,eb0,rfl⟩:=rv2;rw[eb] at eb0;cases eb0;obtain⟨t1,t2⟩:=T.fok c f ok1;have hl:gs.length=fs.length:=by have:=congrArg Vp q1;simpa using this
    have ex3:=Ext.set (H:=H2) rel2 eb ec (λz=>nomatch z) (.obj c (yag f m fs)) (.ins (ct c) dx (yA (Str.ofString f) v gs));refine⟨b,ct c,dx,gs,rfl,hb,t1,t2,by lia,?_⟩;obtain⟨s1,s2⟩:=zaB (f:=f) ((rv.ext ex2).ext ex3) q1 (q2.ext ex3);exact p2 μ2 _ σ ex3 (rel2.set eb ec (λz=>nomatch z) ⟨dx,_,Qf,s1,s2⟩) (rst2.ext ex3)
   next=>exact p2.elim
  next=>exact p2.elim
 |f _=>exact p2.elim
 |tup _=>exact p2.elim
 |exc _=>exact p2.elim
end
end
end SD
end
section
namespace SD
open PySem PySem.Spec PyProof.Rows L2 L3 M3 MP
section
variable {ct:Tx} {Pm:Prog} {n:Nat} {X:Cx} {E:XK} {N:List Str} {sc:Scope}
noncomputable abbrev yes:L2.St->Prop:=λ_=>True
section
variable {ea eb ec:MSt->MH->R MV} {a b c:Expr} {pos p2:Pos}
theorem ZbU{st:Stmt}{rest:List Stmt}{ex ey:MSt->MH->RS}(h1:PS X st (lS ct yes E ex))(h2:PSs X rest (lS ct yes E ey)):PSs X (st::rest) (lS ct yes E λσ h=>(ex σ h).bind λσ1 h1=>ey σ1 h1):=PSs.imp (ybt h1 h2) λD σ H q=>by
 obtain⟨μ,h,σs,rel,rst,ra,p⟩:=q;refine⟨μ,h,σs,rel,rst,ra,?_⟩;dsimp only at p;cases er:ex σs h with
 |next σ' h' =>
  rw[er] at p;intro μ' H' σv e1 r1 q1;exact⟨μ',h',σ',r1,q1,trivial,PoS.start e1 p⟩
 |ret m h'=>rw[er] at p;exact p
 |brk σ' h'=>rw[er] at p;exact p
 |cnt σ' h'=>rw[er] at p;exact p
 |exc c h'=>rw[er] at p;exact p
 |stuck=>rw[er] at p;exact p
theorem s_nil:PSs X [] (lS ct yes E λσ h=>.next σ h):=PSs.imp Za1 λD σ H q=>by
 obtain⟨μ,h,σs,rel,rst,ra,p⟩:=q;exact p μ H σ (Ext.refl _ _ _) rel rst
theorem Ycf:PS X (.Pass pos) (lS ct yes E λσ h=>.next σ h):=PS.imp QbI λD σ H q=>by
 obtain⟨μ,h,σs,rel,rst,ra,p⟩:=q;exact p μ H σ (Ext.refl _ _ _) rel rst
theorem ybQ{cn:String}{v:Expr}{es:List Expr}{ev:MSt->MH->R (List MV)}{np cp:Pos}(c:Cs X Pm ct n E N sc)(hx:Pm.excs cn=true)(hg:gl sc (Str.ofString cn)=true)(ha:PA X (v::es) (lA ct yes E ev))(hpl:∀ e∈v::es,za e=true)(hl:∀ σ h xs h',ev σ h=.ok xs h'->xs.length<=sizeLine) :
  PS X (.Raise (some (.Call (.Name (Str.ofString cn) np) (v::es) [] cp)) none pos) (lS ct yes E λσ h=>(ev σ h).st λ_ h1=>.exc cn h1):=by
 obtain⟨g1,g2,g3⟩:=yq c.cc.sc hg;obtain⟨x1,x2⟩:=c.cc.txt.excs cn hx;refine PS.imp (zby c.cc.calm c.ex c.tk x1 g1 x2 ha g2 (Qa (hpl v (by simp))) (yp λe he=>hpl e (by simp[he]))) λD σ H q=>?_;obtain⟨μ,h,σs,rel,rst,ra,p⟩:=q;refine⟨μ,h,σs,rel,rst,ra,?_⟩;dsimp only at p;cases er:ev σs h with
 |stuck=>rw[er] at p;exact p
 |exc c h'=>rw[er] at p;exact p
 |ok xs h' =>
  rw[er] at p;intro μ1 H1 ex rel1 vs rvs;exact⟨by rw[rvs.length];exact hl _ _ _ _ er,p μ1 H1 ex rel1⟩
theorem s_for{tg:Tg}{t iter:Expr}{body:List Stmt}{it:String}{ev:MSt->MH->R (List MV)}{ex:MSt->MH->RS}(c:Cs X Pm ct n E N sc)(hi:PI X t iter (lI ct yes E ev it))(ht:yt Zai N sc tg t=true)(hb:PSs X body (lS ct yes E ex))(hpl:za iter=true) :
  PS X (.For t iter body [] pos) (lS ct yes E λσ h=>(ev σ h).st λxs h1=>qw (itV it xs h1) λp=>QG p.2 (zE tg ex) p.1 σ h1):=by
 refine PS.imp (Yb9 c.own c.cc.calm hi (sG (ct:=ct) c.cc.nm c.cc.sc c.cc.nd c.cc.calm (λx _=>c.fn x) tg t ht) hb (yC hpl)) λD σ H q=>?_;obtain⟨μ,h,σs,rel,rst,ra,p⟩:=q;refine⟨μ,h,σs,rel,rst,ra,(PoS.st p).imp λxs μ1 h1 H1 ⟨ex1,rel1,p1⟩=>?_⟩;obtain⟨⟨items,g⟩,e1,p2⟩:=PoS.opt p1;refine⟨items,g,e1,rel1,λJ wk=>?_⟩;dsimp only at p2;refine⟨λi m σ' H'=>∃ μ' h' σs',m=items.length-i/\i<=items.length/\Ext μ1 h1 H1 μ' h' H'/\Rel ct μ' h' H'/\RelSt ct μ' h' H' σ' σs'/\PoS ct E (QG g (zE tg ex) (items.drop i) σs' h') μ' h' H' D,?_,?_⟩
 ·exact⟨items.length,μ1,h1,σs,by simp,Uk _,Ext.refl _ _ _,rel1,rst.ext ex1,by simpa using p2⟩
 ·rintro i m σ' H' ⟨μ',h',σs',rfl,hi',ex2,rel',rst',p3⟩;by_cases lt:i<items.length
  ·right
   have ed:items.drop i=items[i]::items.drop (i+1):=Vi lt;rw[ed] at p3;simp only[QG] at p3;split at p3
   next gd =>
    obtain⟨w1,_⟩:=wk i μ' h' H' ex2 rel' gd;obtain⟨go,yl⟩:=w1 lt;refine⟨go,λσ2 H2=>∃ μ2 h2 σ2s,Ext μ1 h1 H1 μ2 h2 H2/\Rel ct μ2 h2 H2/\RelSt ct μ2 h2 H2 σ2 σ2s/\PoS ct E (QG g (zE tg ex) (items.drop (i+1)) σ2s h2) μ2 h2 H2 D,λσ2 H2 ⟨μ2,h2,σ2s,e2,r2,q2,p4⟩=>⟨items.length-(i+1),by lia,μ2,h2,σ2s,rfl,lt,e2,r2,q2,p4⟩,λx H2 y=>?_⟩;obtain⟨mx,em,ex3,rel2,rx⟩:=yl x H2 y;have emx:mx=items[i]:=by simpa[lt] using em.symm
    subst emx;have p4:=PoS.start ex3 p3;unfold zE at p4;cases eb:zt tg items[i] σs' with
    |none=>rw[eb] at p4;exact p4.elim
    |some σ2s =>
     rw[eb] at p4;simp only[YT] at p4;refine⟨μ',h',σs',items[i],σ2s,rel2,rst'.ext ex3,rx,eb,λσ2 rst2=>?_⟩;refine⟨μ',h',σ2s,rel2,rst2,trivial,?_⟩;cases er:ex σ2s h' with
     |next σ3 h3 =>
      rw[er] at p4;intro μ3 H3 σv e3 r3 q3;exact⟨μ3,h3,σ3,(ex2.trans ex3).trans e3,r3,q3,PoS.start e3 p4⟩
     |cnt σ3 h3 =>
      rw[er] at p4;intro μ3 H3 σv e3 r3 q3;exact⟨μ3,h3,σ3,(ex2.trans ex3).trans e3,r3,q3,PoS.start e3 p4⟩
     |brk σ3 h3=>rw[er] at p4;exact p4
     |ret m h3=>rw[er] at p4;exact p4
     |exc c h3=>rw[er] at p4;exact p4
     |stuck=>rw[er] at p4;exact p4
   next=>exact p3.elim
  ·left
   have hi2:i=items.length:=by lia
   subst hi2;rw[vH] at p3;simp only[QG] at p3;split at p3
   next gd =>
    obtain⟨_,w2⟩:=wk items.length μ' h' H' ex2 rel' gd;exact⟨w2 rfl,p3 μ' H' σ' (Ext.refl _ _ _) rel' rst'⟩
   next=>exact p3.elim
theorem ZbH{body:List Stmt}{ex:MSt->MH->RS}(c':Cs X Pm ct n E N sc)(tc:PT X c (lT ct yes E (tst ec)))(hb:PSs X body (lS ct yes E ex))(k:Nat) :
  PS X (.While c body [] pos) (lS ct yes E λσ h=>Qu ec ex k σ h):=by
 refine PS.imp (qbq c'.own tc hb) λD σ H q=>?_;obtain⟨μ,h,σs,rel,rst,ra,p⟩:=q;refine⟨λm σ' H'=>∃ μ' h' σs',Rel ct μ' h' H'/\RelSt ct μ' h' H' σ' σs'/\PoS ct E (Qu ec ex m σs' h') μ' h' H' D,⟨k,μ,h,σs,rel,rst,p⟩,?_⟩;rintro m σ' H' ⟨μ',h',σs',rel',rst',p1⟩;cases m with
 |zero=>exact p1.elim
 |succ m =>
  simp only[Qu] at p1;have p2:PoS ct E ((tst ec σs' h').st λb h1=>if b=true then(ex σs' h1).turn λσ2 h2=>Qu ec ex m σ2 h2 else .next σs' h1) μ' h' H' D:=by
   dsimp only[tst];cases er:ec σs' h' with
   |stuck=>rw[er] at p1;exact p1
   |exc c h'=>rw[er] at p1;exact p1
   |ok x h' =>
    rw[er] at p1;simp only[R.bind_ok,R.st_ok] at p1 ⊢;cases eb:yx x with
    |none=>rw[eb] at p1;exact p1.elim
    |some k=>rw[eb] at p1;exact p1
  refine⟨μ',h',σs',rel',rst',trivial,(PoS.st p2).imp λb μ1 h1 H1 ⟨ex1,rel1,p3⟩=>?_⟩;cases b with
  |false=>exact p3 μ1 H1 σ' (Ext.refl _ _ _) rel1 (rst'.ext ex1)
  |true =>
   simp only[if_true] at p3 ⊢;refine⟨λσ2 H2=>∃ μ2 h2 σ2s,Rel ct μ2 h2 H2/\RelSt ct μ2 h2 H2 σ2 σ2s/\PoS ct E (Qu ec ex m σ2s h2) μ2 h2 H2 D,λσ2 H2 q2=>⟨m,by lia,q2⟩,μ1,h1,σs',rel1,rst'.ext ex1,trivial,?_⟩;cases er:ex σs' h1 with
   |next σ3 h3 =>
    rw[er] at p3;intro μ3 H3 σv e3 r3 q3;exact⟨μ3,h3,σ3,r3,q3,PoS.start e3 p3⟩
   |cnt σ3 h3 =>
    rw[er] at p3;intro μ3 H3 σv e3 r3 q3;exact⟨μ3,h3,σ3,r3,q3,PoS.start e3 p3⟩
   |brk σ3 h3=>rw[er] at p3;exact p3
   |ret m h3=>rw[er] at p3;exact p3
   |exc c h3=>rw[er] at p3;exact p3
   |stuck=>rw[er] at p3;exact p3
theorem s_frz{i:Nat}{rest:List Stmt}{ey:MSt->MH->RS}(h2:PSs X rest (lS ct yes E ey)):PSs X rest (lS ct yes E λσ h=>(qw ((σ[i]?).join) λv=>(YR v h).st λx h1=>.next (σ.set i (some x)) h1).bind λσ1 h1=>ey σ1 h1):=PSs.imp h2 λD σ H q=>by
 obtain⟨μ,h,σs,rel,rst,ra,p⟩:=q;dsimp only at p;cases e:(σs[i]?).join with
 |none=>rw[e] at p;exact p.elim
 |some m =>
  rw[e] at p;simp only[YT] at p;have e':σs[i]?=some (some m):=by
   cases q:σs[i]? with
   |none=>rw[q] at e;cases e
   |some z=>rw[q] at e;exact congrArg some e
  obtain⟨v,ev,rv⟩:=rst.at_ i m e';cases ef:YR m h with
  |stuck=>rw[ef] at p;exact p.elim
  |exc c h' =>
   unfold YR at ef;cases ed:YM h m with
   |none=>rw[ed] at ef;cases ef
   |some x=>rw[ed] at ef;cases ef
  |ok x h' =>
   rw[ef] at p;simp only[R.st_ok,RS.bind_next] at p;have po:Po ct E (YR m h) μ h H λy μ1 h1 H1=>y=x/\h1=h':=by rw[ef];exactλμ' H' _ _=>⟨rfl,rfl⟩
   obtain⟨y,h'',ex1,rel1,rv1,rfl,rfl⟩:=Ybi rel rv po;refine⟨μ,h'',σs.set i (some (.f y)),rel1,?_,trivial,PoS.start ex1 p⟩;have r2:=(rst.ext ex1).set i rv1;have:σ.set i (some v)=σ:=by
    apply Wm;intro j;by_cases hj:i=j
    ·subst hj;rw[uf (ua.mp ev).1,ev]
    ·rw[Ve hj]
   rw[this] at r2;exact r2
end
end
end SD
end
section
namespace SD
open PySem PySem.Spec PyProof.Rows L2 L3 M3 MP
noncomputable def swB(sc cs:Scope)(t:Str)(tp vp:Pos):Bool:=sc.names.lookup t==some .local&&tp.line==vp.line&&!(cs.names.any λ(n,k)=>n==t&&(k == .local||k == .cell))
theorem YaX{env:Env}(kd:env.scope.kind=.function)(e:Expr)(gs:List Comprehension)(cs:Scope)(vp:Pos)(t:Str)(tp:Pos)(l:Nat):swapsWith (.ListComp e gs cs vp) (some (.Name t tp)) l env=pure (swB env.scope cs t tp vp):=by
 have hb:(env.blockKind==ScopeKind.function)=true:=by
  unfold Env.blockKind;rw[kd];rfl
 show(pure (env.blockKind == .function&&env.kindOf t==some .local&&tp.line==vp.line&&!(cs.names.any λ(n,k)=>n==t&&(k == .local||k == .cell))):Sem Bool)=_;rw[hb,Wu];rfl
noncomputable def twoN:List Expr->Option (Str×Pos×Str×Pos)
 |[.Name x px,.Name y py]=>some (x,px,y,py)
 |_=>none
noncomputable def zbT:Expr->Option (List Expr)
 |.Tuple es _ _=>some es
 |_=>none
noncomputable def parForm:Stmt->Option ((Str×Pos×Str×Pos)×Expr×Expr)
 |.Assign ts v _=>(ZaE ts).bind λt=>(zbT t).bind λes=>(zbT v).bind λvs=>(twoN es).bind λp=>(twoL vs).map λq=>(p,q)
 |_=>none
theorem nn{α:Type}{x:α}{P:Prop}(h:(none:Option α)=some x):P:=nomatch h
noncomputable def ql:Expr->Option Str
 |.Name x _=>some x
 |_=>none
theorem yI{e:Expr}{x:Str}(h:ql e=some x):∃ p,e=.Name x p:=by
 cases e with
 |Name y p =>
  have h:some y=some x:=h;cases h;exact⟨p,rfl⟩
 |_=>exact nn h
noncomputable def qbC:Expr->Option (Str×Str)
 |.Call f [a] [] _=>(ql f).bind λz=>(ql a).map λn=>(z,n)
 |_=>none
noncomputable def asAsg:Stmt->Option (Str×Str×Str)
 |.Assign [t] v _=>(ql t).bind λy=>(qbC v).map λq=>(y,q.1,q.2)
 |_=>none
noncomputable def qbY(bd:List Stmt):ExceptHandler->Option (List Stmt×Str×Str×Str×Str×Str)
 |.ExceptHandler (some t) (some nm) [s] _=>(ql t).bind λx=>(asAsg s).map λq=>(bd,x,nm,q)
 |_=>none
noncomputable def tryForm:Stmt->Option (List Stmt×Str×Str×Str×Str×Str)
 |.Try bd [h] [] [] _=>qbY bd h
 |_=>none
noncomputable def zaL:Stmt->Option (Str×Str)
 |.Assign [t] v _=>(ql t).bind λy=>(ql v).map λn=>(y,n)
 |_=>none
theorem za5{s:Stmt}{y n:Str}(h:zaL s=some (y,n)):∃ p1 p2 p3,s=.Assign [.Name y p1] (.Name n p2) p3:=by
 cases s with
 |Assign ts v p =>
  rcases ts with _|⟨t,_|⟨t2,ts⟩⟩
  ·exact nn h
  ·have h:((ql t).bind λy=>(ql v).map λn=>(y,n))=some (y,n):=h;obtain⟨y',e1,h⟩:=Wb.mp h;obtain⟨n',e2,h⟩:=ub.mp h;cases h;obtain⟨p1,rfl⟩:=yI e1;obtain⟨p2,rfl⟩:=yI e2;exact⟨_,_,_,rfl⟩
  ·exact nn h
 |_=>exact nn h
noncomputable def QaK(bd:List Stmt):ExceptHandler->Option (List Stmt×Str×Str×Str×Str)
 |.ExceptHandler (some t) (some nm) [s] _=>(ql t).bind λx=>(zaL s).map λq=>(bd,x,nm,q)
 |_=>none
theorem Za5{bd bd':List Stmt}{hd:ExceptHandler}{x nm y nm':Str}(h:QaK bd hd=some (bd',x,nm,y,nm')):bd=bd'/\∃ p1 p2 p4 p6 p7,hd=.ExceptHandler (some (.Name x p1)) (some nm) [.Assign [.Name y p2] (.Name nm' p4) p6] p7:=by
 obtain⟨ty,nmo,body,hp⟩:=hd;cases ty with
 |none=>exact nn h
 |some t =>
  cases nmo with
  |none=>exact nn h
  |some n0 =>
   rcases body with _|⟨s,_|⟨s2,ss⟩⟩
   ·exact nn h
   ·have h:((ql t).bind λx=>(zaL s).map λq=>(bd,x,n0,q))=some (bd',x,nm,y,nm'):=h;obtain⟨x',e1,h⟩:=Wb.mp h;obtain⟨⟨y',n'⟩,e2,h⟩:=ub.mp h;cases h;obtain⟨p1,rfl⟩:=yI e1;obtain⟨p2,p3,p4,rfl⟩:=za5 e2;exact⟨rfl,_,_,_,_,_,rfl⟩
   ·exact nn h
noncomputable def QZ:Stmt->Option (List Stmt×Str×Str×Str×Str)
 |.Try bd [h] [] [] _=>QaK bd h
 |_=>none
theorem qaO{st:Stmt}{bd:List Stmt}{x nm y nm':Str}(h:QZ st=some (bd,x,nm,y,nm')):∃ p1 p2 p4 p6 p7 pos,st=.Try bd [.ExceptHandler (some (.Name x p1)) (some nm) [.Assign [.Name y p2] (.Name nm' p4) p6] p7] [] [] pos:=by
 cases st with
 |Try bd' hs oe fin pos =>
  rcases hs with _|⟨hd,_|⟨h2,hs⟩⟩
  ·exact nn h
  ·cases oe with
   |cons _ _=>exact nn h
   |nil =>
    cases fin with
    |cons _ _=>exact nn h
    |nil =>
     obtain⟨rfl,p1,p2,p3,p4,p5,rfl⟩:=Za5 (show QaK bd' hd=_ from h);exact⟨_,_,_,_,_,_,rfl⟩
  ·exact nn h
 |_=>exact nn h
noncomputable def yaM:ME->Bool
 |.comp ..=>true
 |_=>false
noncomputable def Yap:Expr->Expr->Bool
 |.Tuple ..,.Tuple ..=>true
 |_,_=>false
noncomputable def Ybn(tg:Tg)(t:Expr)(N:List Str)(sc:Scope):Bool:=match tg with
 |.nm i=>match ql t with
  |some x=>N[i]? == some x&&sc.names.lookup x==some .local
  |none=>false
 |_=>false
section
variable (Pm:Prog)
mutual
noncomputable def qbk(ms:MS)(N:List Str)(sc:Scope)(st:Stmt):Bool:=match ms,st with
 |.expr e,.Expr v _=>!(YL v)&&ye Pm e N sc v
 |.ite c a b,.If t x y _=>okT c&&ye Pm c N sc t&&ZL a N sc x&&ZL b N sc y
 |.set tg e,.Assign [t] v _=>Ybn tg t N sc&&!(YL v)&&ye Pm e N sc v
 |_,_=>false
noncomputable def ZL(mss:List MS)(N:List Str)(sc:Scope)(sts:List Stmt):Bool:=match mss with
 |[]=>sts.isEmpty
 |m::ms=>match sts with
  |[st]=>ms.isEmpty&&qbk m N sc st
  |_=>false
end
mutual
noncomputable def qbm(ms:MS)(N:List Str)(sc:Scope)(st:Stmt):Bool:=match ms,st with
 |.set tg e,.Assign [t] v _=>yt Zai N sc tg t&&ye Pm e N sc v&&!(Yap t v)&&(if YL v then yaM e else true)
 |.setSub o i e,.Assign [.Subscript x y _] v _=>ye Pm e N sc v&&ye Pm o N sc x&&ye Pm i N sc y
 |.setFld o n e,.Assign [.Attribute x m _] v _=>m==Str.ofString n&&ye Pm e N sc v&&ye Pm o N sc x
 |.expr e,.Expr v _=>!(YL v)&&ye Pm e N sc v
 |.ret e,.Return (some v) _=>ye Pm e N sc v
 |.ite c a b,.If t x y _=>okT c&&ye Pm c N sc t&&Yu a N sc x&&Yu b N sc y
 |.for_ tg it src body,.For t iter bd [] _=>za iter&&yt Zai N sc tg t&&Yu body N sc bd &&
   (if it == "seq" then zbg Pm src N sc iter else if it == "keys" then false else if it == "items" then false else if it == "enum1" then false else yaa t it iter&&gl sc (Str.ofString it)&&yh Pm src N sc (Zu iter))
 |.while_ c body,.While t bd [] _=>okT c&&ye Pm c N sc t&&Yu body N sc bd
 |.raise c es,.Raise (some (.Call (.Name x _) (v::vs) [] _)) none _=>x==Str.ofString c&&gl sc x&&Pm.excs c&&decide ((v::vs).length<1000)&&yh Pm es N sc (v::vs)
 |.tryK body ei dst,st=>match QZ st with
  |some (bd,x,nm,y,nm')=>x==("DotError":Str)&&gl sc x&&N[ei]? == some nm&&sc.names.lookup nm==some .local&&nm'==nm&&zaC sc nm&&N[dst]? == some y&&QaQ Zai sc y&&decide (ei≠dst)&&Pm.xt&&ZL Pm body N sc bd
  |none=>false
 |.boom,_=>true
 |.pass,.Pass _=>true
 |_,_=>false
noncomputable def Yu(mss:List MS)(N:List Str)(sc:Scope)(sts:List Stmt):Bool:=match mss with
 |[]=>sts.isEmpty
 |.frzS _::ms=>Yu ms N sc sts
 |m::ms=>match sts with
  |st::sts=>qbm m N sc st&&Yu ms N sc sts
  |[]=>false
end
end
section
variable {ct:Tx} {Pm:Prog} {n:Nat}
section
variable {X:Cx} {E:XK} {N:List Str} {sc:Scope}
theorem Qg{st:Stmt}{ex ex':MSt->MH->RS}{Ra:L2.St->Prop}(p:PS X st (lS ct Ra E ex))(h:∀ σ hh,ex' σ hh=ex σ hh):PS X st (lS ct Ra E ex'):=by
 have:ex'=ex:=funext λσ=>funext λhh=>h σ hh;rw[this];exact p
theorem yu{st:List Stmt}{ex ex':MSt->MH->RS}{Ra:L2.St->Prop}(p:PSs X st (lS ct Ra E ex))(h:∀ σ hh,ex' σ hh=ex σ hh):PSs X st (lS ct Ra E ex'):=by
 have:ex'=ex:=funext λσ=>funext λhh=>h σ hh;rw[this];exact p
theorem Yb8(fz:Bool){i:Nat}{x:Str}{elt iter tg:Expr}{ifs:List Expr}{cs:Scope}{N':List Str}{ncv:Nat}{js:List Nat}{it:String}{t:Tg}{es:MSt->MH->R (List MV)}{tc:MSt->MH->R Bool}{te:MSt->MH->R MV}{pos tp vp:Pos}(c:Cs X Pm ct n E N sc)(hi0:X.N[i]?=some x)(hx:Loc X.env.scope x)
  (hok:Yt X.env.scope X.N cs N' ncv js=true) (hi:PI X tg iter (lI ct yes E es it)) (hg:∀ C s3 H ex,PG (cxC X cs N' C s3 H ex) tg (lG ct t)) (hif:∀ C s3 H ex,PIf (cxC X cs N' C s3 H ex) ifs (lT ct (λ_=>True) E0 tc)) (helt:∀ C s3 H ex,PE (cxC X cs N' C s3 H ex) elt (lE ct (λ_=>True) E0 te)) (hpl:za iter=true)
  (hsw:swapsWith (.ListComp elt [⟨tg,iter,ifs,0⟩] cs vp) (some (.Name x tp)) pos.line X.env=pure true) :
  PS X (.Assign [.Name x tp] (.ListComp elt [⟨tg,iter,ifs,0⟩] cs vp) pos) (lS ct yes E λσ h=>((es σ h).bind λxs h1=>opt (itV it xs h1) λp=>(qh p.2 (Zi t tc te) p.1 [] (MP.stM ncv js σ) h1).bind λacc h3=>yk fz acc h3).st λv h1=>qw (zt (.nm i) v σ) λσ1=>.next σ1 h1):=by
 refine PS.imp (QbG c.cc.nd hi0 hx N' ncv js hok c.cc.calm hi hg hif helt hsw (yC hpl) (.inl (c.fn x))) λD σ H q=>?_;obtain⟨μ,h,σs,rel,rst,ra,p⟩:=q;refine zam fz σ H _ (lE.st (ev:=λσ h=>(es σ h).bind λxs h1=>opt (itV it xs h1) λp=>(qh p.2 (Zi t tc te) p.1 [] (MP.stM ncv js σ) h1).bind λacc h3=>yk fz acc h3) rel rst ra p λm v μ1 h1 H1 ex rel1 rst1 rv p1=>?_);obtain⟨σ1,e,p2⟩:=PoS.opt p1;simp only[zt,Option.some.injEq] at e;subst e;exact p2 μ1 H1 _ (Ext.refl _ _ _) rel1 (rst1.set i rv)
theorem Rel.same{μ:List Addr}{h:MH}{H H':Hp}(s:Same H H')(rel:Rel ct μ h H):Rel ct μ h H'/\Ext μ h H μ h H':=by
 have ex:Ext μ h H μ h H':=⟨⟨[],by simp⟩,λb o e _=>s b o e,λb l=>.inl l⟩;refine⟨⟨rel.len,rel.nd,λb hb=>let ⟨o,e⟩:=rel.has b hb;⟨o,s b o e⟩,λi b c e1 e2=>?_⟩,ex⟩;have:=CellOk.to (ν:=[]) ex.let (b:=b) (λ_=>by
  obtain⟨o,e⟩:=rel.has b (uh e1);rw[e];exact s b o e) (rel.cells i b c e1 e2)
 simpa using this
theorem yb7{ei dst:Nat}{nm y:Str}{bd:List Stmt}{ex:MSt->MH->RS}{p1 p2 p4 p6 p7 pos:Pos}(c:Cs X Pm ct n E N sc)(hw:Pm.xt=true)(hi:N[ei]?=some nm)(hk:sc.names.lookup nm=some .local)(hv:zaC sc nm=true)(hd:N[dst]?=some y)(hy:QaQ Zai sc y=true)(hg:gl sc "DotError"=true)(ne:ei≠dst)
  (hb:∀ pins σ0 E',PSs (cxT X pins σ0 E') bd (lS ct (λσ=>σ=σ0) E' ex)) :
  PS X (.Try bd [.ExceptHandler (some (.Name "DotError" p1)) (some nm) [.Assign [.Name y p2] (.Name nm p4) p6] p7] [] [] pos)
   (lS ct yes E λσ h=>RS.caught (λc h1=>if(Pm.xsubs c c).isSome=true/\ei<σ.length then .next ((σ.set dst (some (.exc c))).set ei none) h1 else .stuck) (ex σ h)):=by
 obtain⟨qB,mB,wf⟩:=c.cc.txt.xdot hw;obtain⟨g1,g2,g3⟩:=yq c.cc.sc hg;have hiX:X.N[ei]?=some nm:=by rw[c.cc.nm];exact hi
 have hdX:X.N[dst]?=some y:=by rw[c.cc.nm];exact hd
 have hkX:X.env.scope.names.lookup nm=some .local:=by rw[c.cc.sc];exact hk
 have hyL:Loc X.env.scope y:=by
  unfold QaQ at hy;simp only[Wu,xj,beq_iff_eq] at hy;rw[c.cc.sc];exact hy
 have hvv:=hv;unfold zaC at hvv;simp only[Wa,xj,beq_iff_eq,Vh] at hvv;refine PS.imp (qbM (i:=ei) (j:=dst) (B:=ct "DotError") (tb:=λσ E=>lS ct (λσ'=>σ'=σ) E ex) c.stk c.fr c.cc.nd hiX hkX hdX hyL qB g1 mB (λpins σ E=>hb pins σ E) hvv.1.2 hvv.2 (.inl (c.fn y)) g2) λD σ H q=>?_;obtain⟨μ,h,σs,rel,rst,ra,p⟩:=q;dsimp only at p;cases er:ex σs h with
 |exc cn h1 =>
  rw[er] at p;refine⟨λcv _ H'=>cv=.ref (ct cn)/\∃ μ',Ext μ h H μ' h1 H'/\Rel ct μ' h1 H',⟨μ,h,σs,rel,rst,rfl,by rw[er];exactλμ' H' e1 r1=>⟨rfl,μ',e1,r1⟩⟩,λC H' ⟨eC,μ',e1,r1⟩=>?_⟩;cases eC;simp only[qaU] at p;split at p
  next hlt =>
   obtain⟨b0,eb⟩:=Wj.mp hlt.1;obtain⟨w1,w2⟩:=wf cn b0 eb;refine⟨w1,w2,λx hx=>?_⟩;have hlt':ei<σ.length:=by rw[rst.len];exact hlt.2
   obtain⟨r2,e2⟩:=Rel.same (H':=upd H' x (.ext (Zbp (ct cn) x))) (λb o e=>by rw[Yb (Yc e hx)];exact e) r1;have nl:¬ Liv μ' h1 x:=λ⟨i,cc,ei',_⟩=>by
    obtain⟨o,ho⟩:=r1.has x (uh ei');rw[hx] at ho;cases ho
   refine p μ' _ _ (e1.trans e2) r2 ?_;have rst2:=(rst.ext e1).ext e2;refine⟨by simp[rst.len],λj m ej=>?_⟩;by_cases hj:ei=j
   ·subst hj;rw[uf (by simpa using hlt.2)] at ej;cases ej
   ·rw[Ve hj] at ej;rw[Ve hj];by_cases hj2:dst=j
    ·subst hj2;have hl:dst<σs.length:=by
      have:=(ua.mp ej).1;simpa using this
     rw[uf hl] at ej;cases ej;refine⟨.ref x,by rw[uf (by simp[rst.len];exact hl)],?_⟩;simp only[RV];exact⟨x,rfl,nl,Qf⟩
    ·rw[Ve hj2] at ej;obtain⟨v,ev,rv⟩:=rst2.at_ j m ej;exact⟨v,by rw[Ve hj2,Ve hj];exact ev,rv⟩
  next=>exact p.elim
 |next σ' h'=>rw[er] at p;exact⟨λ_ _ _=>False,⟨μ,h,σs,rel,rst,rfl,by rw[er];exact p⟩,λC H' z=>z.elim⟩
 |ret m h'=>rw[er] at p;exact⟨λ_ _ _=>False,⟨μ,h,σs,rel,rst,rfl,by rw[er];exact p⟩,λC H' z=>z.elim⟩
 |brk σ' h'=>rw[er] at p;exact⟨λ_ _ _=>False,⟨μ,h,σs,rel,rst,rfl,by rw[er];exact p⟩,λC H' z=>z.elim⟩
 |cnt σ' h'=>rw[er] at p;exact⟨λ_ _ _=>False,⟨μ,h,σs,rel,rst,rfl,by rw[er];exact p⟩,λC H' z=>z.elim⟩
 |stuck=>rw[er] at p;exact p.elim
theorem Cc.try(c:Cs X Pm ct n E N sc)(pins:List (Addr×Obj))(σ0:L2.St)(E':XK):Cc (cxT X pins σ0 E') Pm ct n (λσ=>σ=σ0) E' N sc :=
 ⟨c.cc.txt,c.cc.calm,c.cc.room,λσ hσ=>by subst hσ;exact YaQ c.ex,c.cc.nm,c.cc.sc,c.cc.nd,c.cc.hK⟩
theorem Qce{Ra:L2.St->Prop}:PSs X [] (lS ct Ra E λσ h=>.next σ h):=PSs.imp Za1 λD σ H q=>by
 obtain⟨μ,h,σs,rel,rst,ra,p⟩:=q;exact p μ H σ (Ext.refl _ _ _) rel rst
theorem qcd{Ra:L2.St->Prop}{st:Stmt}{ex:MSt->MH->RS}(h1:PS X st (lS ct Ra E ex)):PSs X [st] (lS ct Ra E λσ h=>(ex σ h).bind λσ1 h1=>.next σ1 h1):=PSs.imp (QaZ h1) λD σ H q=>by
 obtain⟨μ,h,σs,rel,rst,ra,p⟩:=q;refine⟨μ,h,σs,rel,rst,ra,?_⟩;dsimp only at p;cases er:ex σs h <;> rw[er] at p <;> exact p
theorem zaG{t v:Expr}{env:Env}{lo:Str->Bool}{tg:Tg}(ht:yt lo N sc tg t=true)(hv:Yap t v=false):swappedStores [t] v env=pure none:=by
 cases tg with
 |nm i =>
  cases t with
  |Name x p=>cases v <;> rfl
  |_=>simp[yt] at ht
 |tp ts =>
  cases t with
  |Tuple es k p=>cases v <;> first|rfl|(exact Uf hv)
  |_=>simp[yt] at ht
theorem zb6{tg:Tg}{me:ME}{t v:Expr}{pos:Pos}(c:Cs X Pm ct n E N sc)(h1:yt Zai N sc tg t=true)(h2:ye Pm me N sc v=true)(h3:Yap t v=false)(h4:(if YL v=true then yaM me else true)=true) :
  PS X (.Assign [t] v pos) (lS ct yes E λσ h=>(ya Pm (run Pm n) me σ h).st λv h1=>qw (zt tg v σ) λσ1=>.next σ1 h1):=by
 by_cases hs:swapsWith v (some t) pos.line X.env=pure false
 ·exact s_set c h1 (sB me c.cc v h2).1 hs (zaG h1 h3)
 ·cases hl:YL v with
  |false=>exact absurd (yP hl) hs
  |true =>
   rw[hl] at h4;cases me with
   |comp fz elt tg' it src cond ncv js =>
    have h2':=h2;have h:=zd h2;cases v with
    |ListComp x gs cs p =>
     rcases gs with _|⟨⟨t',iter,ifs,a⟩,_|⟨g2,gs⟩⟩
     ·exact ff h
     ·have h:((a==0)&&za iter&&Yt sc N cs (tgN tg' t'++js.filterMap λj=>N[j]?) ncv js&&decide (tgN tg' t'++js.filterMap λj=>N[j]?).Nodup&&yt (ownC cs) (tgN tg' t'++js.filterMap λj=>N[j]?) (Yz cs sc) tg' t'&&ye Pm elt (tgN tg' t'++js.filterMap λj=>N[j]?) (Yz cs sc) x&&chkC Pm cond (tgN tg' t'++js.filterMap λj=>N[j]?) (Yz cs sc) ifs&&(if it == "seq" then zbg Pm src N sc iter else if it == "signs" then false else if it == "enum1" then false else yaa t' it iter&&gl sc (Str.ofString it)&&yh Pm src N sc (Zu iter)))=true:=h;simp only[Wa,beq_iff_eq,decide_eq_true_eq] at h;obtain⟨⟨⟨⟨⟨⟨⟨ha,k1⟩,k2⟩,k3⟩,k4⟩,k5⟩,k6⟩,k7⟩:=h;subst ha;have hi:PI X t' iter (lI ct yes E (Ye Pm (run Pm n) src) it):=by
       split at k7
       next hs=>subst hs;exact sBi src c.cc t' iter k7
       next hs =>
        split at k7
        next hs4=>exact ff k7
        next =>
        split at k7
        next hs2 =>
         exact ff k7
        next =>
         simp only[Wa] at k7;exact Ybo c.cc k7.1.1 k7.1.2 (sBs src c.cc (Zu iter) k7.2)
      cases t with
      |Name y tp =>
       cases tg with
       |nm i =>
        simp only[yt,QaQ,Wa,beq_iff_eq,xj] at h1;rw[YaX c.kd] at hs;have hsw:swB X.env.scope cs y tp p=true:=by
         cases e:swB X.env.scope cs y tp p with
         |true=>rfl
         |false=>rw[e] at hs;exact absurd rfl hs
        have hx:Loc X.env.scope y:=by
         rw[c.cc.sc]
         rcases h1.2 with z|⟨_,z⟩
         ·exact .inl z
         ·exact .inr z
        refine Qg (Yb8 fz (tp:=tp) c (by rw[c.cc.nm];exact h1.1) hx (by rw[c.cc.sc,c.cc.nm];exact k2) hi (λC s3 H ex=>sG rfl (c.cc.comp k3 C s3 H ex).sc k3 c.cc.calm (λ_ z=>z) tg' t' k4) (λC s3 H ex=>sBc cond (c.cc.comp k3 C s3 H ex) ifs k6) (λC s3 H ex=>(sB elt (c.cc.comp k3 C s3 H ex) x k5).1) k1 (by rw[YaX c.kd,hsw])) λσ hh=>?_;simp only[ya]
       |tp ts=>simp[yt] at h1
      |_=>exact absurd (sw_lc (by intro x p z;cases z)) hs
     ·exact ff h
    |_=>first|exact Uf hl|exact ff h
   |_=>exact Uf h4
end
theorem ych{Ra:L2.St->Prop}{ev:MSt->MH->R MV}{tg:Tg}{t v:Expr}{pos:Pos}(c:Cc X Pm ct n Ra E N sc)(ht:Ybn tg t N sc=true)(hl:YL v=false)(he:PE X v (lE ct Ra E ev)) :
  PS X (.Assign [t] v pos) (lS ct Ra E λσ h=>(ev σ h).st λv h1=>qw (zt tg v σ) λσ1=>.next σ1 h1):=by
 cases tg with
 |tp _=>exact ff ht
 |nm i =>
  cases ea:ql t with
  |none =>
   have ht:(match ql t with|some x=>N[i]? == some x&&sc.names.lookup x==some .local|none=>false)=true:=ht;rw[ea] at ht;exact ff ht
  |some x =>
   have ht:(match ql t with|some x=>N[i]? == some x&&sc.names.lookup x==some .local|none=>false)=true:=ht;rw[ea] at ht;have ht:(N[i]? == some x&&sc.names.lookup x==some .local)=true:=ht;have hq:N[i]?=some x/\sc.names.lookup x=some .local:=by simpa only[Wa,beq_iff_eq] using ht
   obtain⟨p1,rfl⟩:=yI ea;have hx:X.env.scope.names.lookup x=some .local:=by rw[c.sc];exact hq.2
   refine PS.imp (Zbz c.nd (by rw[c.nm];exact hq.1) (.inl hx) he (yP hl) (.inr hx)) λD σ H q=>?_;obtain⟨μ,h,σs,rel,rst,ra,p⟩:=q;refine lE.st rel rst ra p λm w μ1 h1 H1 ex rel1 rst1 rv p1=>?_;obtain⟨σ1,e,p2⟩:=PoS.opt p1;simp only[zt,Option.some.injEq] at e;subst e;exact p2 μ1 H1 _ (Ext.refl _ _ _) rel1 (rst1.set i rv)
mutual
theorem sTB:∀(ms:MS){X:Cx}{E:XK}{Ra:L2.St->Prop}{N:List Str} {sc:Scope} (c:Cc X Pm ct n Ra E N sc) (st:Stmt),qbk Pm ms N sc st=true->PS X st (lS ct Ra E (Qm Pm (run Pm n) ms))
 |.expr e,X,E,Ra,N,sc,c,st,h=>by
  cases st with
  |Expr v p =>
   have h:(!(YL v)&&ye Pm e N sc v)=true:=h;simp only[Wa,Vh] at h;exact Qg (Zbk (sB e c v h.2).1 h.1) λσ hh=>by simp only[Qm]
  |_=>exact ff h
 |.ite d a b,X,E,Ra,N,sc,c,st,h=>by
  cases st with
  |If t x y p =>
   have h:(okT d&&ye Pm d N sc t&&ZL Pm a N sc x&&ZL Pm b N sc y)=true:=h;simp only[Wa] at h;obtain⟨⟨⟨h0,h1⟩,h2⟩,h3⟩:=h;exact Qg (s_if ((sB d c t h1).2 h0) (sTBs a c x h2) (sTBs b c y h3)) λσ hh=>by simp only[Qm]
  |_=>exact ff h
 |.set tg e,X,E,Ra,N,sc,c,st,h=>by
  cases st with
  |Assign ts v p =>
   rcases ts with _|⟨t,_|⟨t2,ts⟩⟩
   ·exact ff h
   ·have h:(Ybn tg t N sc&&!(YL v)&&ye Pm e N sc v)=true:=h;simp only[Wa,Vh] at h;exact Qg (ych c h.1.1 h.1.2 (sB e c v h.2).1) λσ hh=>by simp only[Qm]
   ·exact ff h
  |_=>exact ff h
 |.setSub _ _ _,X,E,Ra,N,sc,c,st,h=>ff h
 |.setFld _ _ _,X,E,Ra,N,sc,c,st,h=>ff h
 |.boom,X,E,Ra,N,sc,c,st,h=>ff h
 |.par _ _ _ _,X,E,Ra,N,sc,c,st,h=>ff h
 |.ret _,X,E,Ra,N,sc,c,st,h=>ff h
 |.for_ _ _ _ _,X,E,Ra,N,sc,c,st,h=>ff h
 |.while_ _ _,X,E,Ra,N,sc,c,st,h=>ff h
 |.raise _ _,X,E,Ra,N,sc,c,st,h=>ff h
 |.tryK _ _ _,X,E,Ra,N,sc,c,st,h=>ff h
 |.pass,X,E,Ra,N,sc,c,st,h=>ff h
 |.frzS _,X,E,Ra,N,sc,c,st,h=>ff h
theorem sTBs:∀(mss:List MS){X:Cx}{E:XK}{Ra:L2.St->Prop}{N:List Str} {sc:Scope} (c:Cc X Pm ct n Ra E N sc) (sts:List Stmt),ZL Pm mss N sc sts=true->PSs X sts (lS ct Ra E (Zd Pm (run Pm n) mss))
 |[],X,E,Ra,N,sc,c,sts,h=>by
  cases sts with
  |nil=>exact yu Qce λσ hh=>by simp only[Zd]
  |cons _ _=>exact ff h
 |m::ms,X,E,Ra,N,sc,c,sts,h=>by
  rcases sts with _|⟨st,_|⟨st2,sts⟩⟩
  ·exact ff h
  ·have h:(ms.isEmpty&&qbk Pm m N sc st)=true:=h;simp only[Wa] at h;cases ms with
   |nil=>exact yu (qcd (sTB m c st h.2)) λσ hh=>by simp only[Zd]
   |cons _ _=>exact ff h.1
  ·exact ff h
end
mutual
theorem sS:∀(ms:MS){X:Cx}{E:XK}{N:List Str}{sc:Scope} (c:Cs X Pm ct n E N sc) (st:Stmt),qbm Pm ms N sc st=true->PS X st (lS ct yes E (Qm Pm (run Pm n) ms))
 |.set tg e,X,E,N,sc,c,st,h=>by
  cases st with
  |Assign ts v p =>
   rcases ts with _|⟨t,_|⟨t2,ts⟩⟩
   ·exact ff h
   ·have h:(yt Zai N sc tg t&&ye Pm e N sc v&&!(Yap t v)&&(if YL v then yaM e else true))=true:=h;simp only[Wa,Vh] at h;obtain⟨⟨⟨h1,h2⟩,h3⟩,h4⟩:=h;exact Qg (zb6 c h1 h2 h3 h4) λσ hh=>by simp only[Qm]
   ·exact ff h
  |_=>exact ff h
 |.setSub o i e,X,E,N,sc,c,st,h=>by
  cases st with
  |Assign ts v p =>
   rcases ts with _|⟨t,_|⟨t2,ts⟩⟩
   ·exact ff h
   ·cases t with
    |Subscript x y p2 =>
     have h:(ye Pm e N sc v&&ye Pm o N sc x&&ye Pm i N sc y)=true:=h;simp only[Wa] at h;obtain⟨⟨h1,h2⟩,h3⟩:=h;exact Qg (Ybh (sB e c.cc v h1).1 (sB o c.cc x h2).1 (sB i c.cc y h3).1 (Qh h3)) λσ hh=>by simp only[Qm] <;> rfl
    |_=>exact ff h
   ·cases t <;> exact ff h
  |_=>exact ff h
 |.boom,X,E,N,sc,c,st,h=>λpins s σ H D I q=>by
  obtain⟨μ,hh,σs,rel,rst,ra,p⟩:=q;simp only[Qm] at p;exact p.elim
 |.par i j a b,X,E,N,sc,c,st,h=>ff h
 |.setFld o f e,X,E,N,sc,c,st,h=>by
  cases st with
  |Assign ts v p =>
   rcases ts with _|⟨t,_|⟨t2,ts⟩⟩
   ·exact ff h
   ·cases t with
    |Attribute x m p2 =>
     have h:(m==Str.ofString f&&ye Pm e N sc v&&ye Pm o N sc x)=true:=h;simp only[Wa,beq_iff_eq] at h;obtain⟨⟨rfl,h2⟩,h3⟩:=h;exact Qg (zbx c.cc.txt (sB e c.cc v h2).1 (sB o c.cc x h3).1) λσ hh=>by simp only[Qm] <;> rfl
    |_=>exact ff h
   ·cases t <;> exact ff h
  |_=>exact ff h
 |.expr e,X,E,N,sc,c,st,h=>by
  cases st with
  |Expr v p =>
   have h:(!(YL v)&&ye Pm e N sc v)=true:=h;simp only[Wa,Vh] at h;exact Qg (Zbk (sB e c.cc v h.2).1 h.1) λσ hh=>by simp only[Qm]
  |_=>exact ff h
 |.ret e,X,E,N,sc,c,st,h=>by
  cases st with
  |Return v p =>
   cases v with
   |some v=>exact Qg (s_ret (sB e c.cc v (show ye Pm e N sc v=true from h)).1) λσ hh=>by simp only[Qm]
   |none=>exact ff h
  |_=>exact ff h
 |.ite d a b,X,E,N,sc,c,st,h=>by
  cases st with
  |If t x y p =>
   have h:(okT d&&ye Pm d N sc t&&Yu Pm a N sc x&&Yu Pm b N sc y)=true:=h;simp only[Wa] at h;obtain⟨⟨⟨h0,h1⟩,h2⟩,h3⟩:=h;exact Qg (s_if ((sB d c.cc t h1).2 h0) (sSs a c x h2) (sSs b c y h3)) λσ hh=>by simp only[Qm]
  |_=>exact ff h
 |.for_ tg it src body,X,E,N,sc,c,st,h=>by
  cases st with
  |For t iter bd oe p =>
   cases oe with
   |cons _ _=>exact ff h
   |nil =>
    have h:(za iter&&yt Zai N sc tg t&&Yu Pm body N sc bd&&(if it == "seq" then zbg Pm src N sc iter else if it == "keys" then false else if it == "items" then false else if it == "enum1" then false else yaa t it iter&&gl sc (Str.ofString it)&&yh Pm src N sc (Zu iter)))=true:=h;simp only[Wa] at h;obtain⟨⟨⟨h1,h2⟩,h3⟩,h4⟩:=h;have hi:PI X t iter (lI ct yes E (Ye Pm (run Pm n) src) it):=by
     split at h4
     next hs =>
      have hs':it="seq":=by simpa using hs
      subst hs';exact sBi src c.cc t iter h4
     next hs =>
      split at h4
      next hs2 =>
       have hs':it="keys":=by simpa using hs2
       subst hs';exact ff h4
      next =>
       split at h4
       next hs4 =>
        exact ff h4
       next =>
       split at h4
       next hs3 =>
        exact ff h4
       next =>
        simp only[Wa] at h4;exact Ybo c.cc h4.1.1 h4.1.2 (sBs src c.cc (Zu iter) h4.2)
    exact Qg (s_for c hi h2 (sSs body c bd h3) h1) λσ hh=>by simp only[Qm]
  |_=>exact ff h
 |.while_ d body,X,E,N,sc,c,st,h=>by
  cases st with
  |While t bd oe p =>
   cases oe with
   |cons _ _=>exact ff h
   |nil =>
    have h:(okT d&&ye Pm d N sc t&&Yu Pm body N sc bd)=true:=h;simp only[Wa] at h;obtain⟨⟨h0,h1⟩,h2⟩:=h;exact Qg (ZbH c ((sB d c.cc t h1).2 h0) (sSs body c bd h2) Pm.turns) λσ hh=>by simp only[Qm]
  |_=>exact ff h
 |.raise cn es,X,E,N,sc,c,st,h=>by
  cases st with
  |Raise x y p =>
   cases x with
   |none=>exact ff h
   |some x =>
    cases x with
    |Call g as ks cp =>
     cases g with
     |Name x np =>
      cases as with
      |nil=>exact ff h
      |cons v vs =>
       cases ks with
       |cons _ _=>exact ff h
       |nil =>
        cases y with
        |some _=>exact ff h
        |none =>
         have h:(x==Str.ofString cn&&gl sc x&&Pm.excs cn&&decide ((v::vs).length<1000)&&yh Pm es N sc (v::vs))=true:=h;simp only[Wa,beq_iff_eq,decide_eq_true_eq] at h;obtain⟨⟨⟨⟨rfl,h1⟩,h2⟩,h3⟩,h4⟩:=h;have b:=sBs es c.cc (v::vs) h4;exact Qg (ybQ c h2 h1 b.pa b.plain (qbj b h3)) λσ hh=>by simp only[Qm]
     |_=>exact ff h
    |_=>exact ff h
  |_=>exact ff h
 |.tryK body ei dst,X,E,N,sc,c,st,h=>by
  have h':(match QZ st with
   |some (bd,x,nm,y,nm')=>x==("DotError":Str)&&gl sc x&&N[ei]? == some nm&&sc.names.lookup nm==some .local&&nm'==nm&&zaC sc nm&&N[dst]? == some y&&QaQ Zai sc y&&decide (ei≠dst)&&Pm.xt&&ZL Pm body N sc bd
   |none=>false)=true:=h
  cases et:QZ st with
  |none=>rw[et] at h';exact Uf h'
  |some t =>
   obtain⟨bd,x,nm,y,nm'⟩:=t;rw[et] at h';obtain⟨p1,p2,p4,p6,p7,pos,rfl⟩:=qaO et;simp only[Wa,beq_iff_eq,decide_eq_true_eq] at h';obtain⟨⟨⟨⟨⟨⟨⟨⟨⟨⟨rfl,k1⟩,k2⟩,k3⟩,rfl⟩,k4⟩,k5⟩,k6⟩,k8⟩,k9⟩,k10⟩:=h';exact Qg (yb7 c k9 k2 k3 k4 k5 k6 k1 k8 (λpins σ0 E'=>sTBs body (Cc.try c pins σ0 E') bd k10)) λσ hh=>by simp only[Qm]
 |.pass,X,E,N,sc,c,st,h=>by
  cases st with
  |Pass p=>exact Qg Ycf λσ hh=>by simp only[Qm]
  |_=>exact ff h
 |.frzS i,X,E,N,sc,c,st,h=>by
  exact ff h
theorem sSs:∀(mss:List MS){X:Cx}{E:XK}{N:List Str}{sc:Scope} (c:Cs X Pm ct n E N sc) (sts:List Stmt),Yu Pm mss N sc sts=true->PSs X sts (lS ct yes E (Zd Pm (run Pm n) mss))
 |[],X,E,N,sc,c,sts,h=>by
  cases sts with
  |nil=>exact yu s_nil λσ hh=>by simp only[Zd]
  |cons _ _=>exact ff h
 |m::ms,X,E,N,sc,c,sts,h=>by
  cases m with
  |frzS i=>exact yu (s_frz (i:=i) (sSs ms c sts h)) λσ hh=>by simp only[Zd,Qm]
  |boom =>
   cases sts with
   |nil=>exact ff h
   |cons st sts =>
    have h2:Yu Pm ms N sc sts=true:=h;exact yu (ZbU (sS .boom c st rfl) (sSs ms c sts h2)) λσ hh=>by simp only[Zd]
  |_ =>
   cases sts with
   |nil=>exact ff h
   |cons st sts =>
    first
    |(have h:(qbm Pm _ N sc st&&Yu Pm ms N sc sts)=true:=h;simp only[Wa] at h;exact yu (ZbU (sS _ c st h.1) (sSs ms c sts h.2)) λσ hh=>by simp only[Zd])
    |exact ff h
end
end
end SD
end
section
namespace SD
open PySem PySem.Spec PyProof.Rows L2 L3 M3 MP
noncomputable def zk(Pm:Prog)(d:MDef)(N ps:List Str)(st:Stmt):Bool :=
 (Qb st).kind == .function&&!(Qb st).isCoroutine&&!(Qb st).isGenerator&&decide N.Nodup&&decide (N.take ps.length=ps)&&ps.all (λx=>(Qb st).names.lookup x==some .local||(Qb st).names.lookup x==some .cell) &&
  (Qb st).names.all (λy=>y.2 != .free)&&d.np==ps.length&&d.ns==N.length&&Yu Pm d.body N (Qb st) (zh st)
section
variable {P:Program} {w:World} {K:PySem.W.Frag} {mg:Str->Option Value} {base:Heap} {Pm:Prog} {ct:Tx} {n:Nat} {d:MDef} {N ps:List Str} {st:Stmt} {f:String}
theorem YB(h:zk Pm d N ps st=true):FnScope N ps (Qb st)/\d.np=ps.length/\d.ns=N.length/\Yu Pm d.body N (Qb st) (zh st)=true:=by
 unfold zk at h;simp only[Wa,beq_iff_eq,Vh,decide_eq_true_eq,xh,xj,bne_iff_ne,ne_eq] at h;obtain⟨⟨⟨⟨⟨⟨⟨⟨⟨h1,h2⟩,h3⟩,h4⟩,h5⟩,h6⟩,h7⟩,h8⟩,h9⟩,h10⟩:=h;exact⟨⟨h1,h2,h3,h4,h5,h6,h7⟩,h8,h9,h10⟩
theorem ya0{ms:List MV}{h:MH}{r:R MV}(hd:Pm.defs f=some d)(e:MP.run Pm (n+1) f ms h=r)(hr:r≠.stuck):ms.length=d.np/\r=Yf h (Zd Pm (MP.run Pm n) d.body (ms.map some++Xa (d.ns-d.np) none) h):=by
 simp only[MP.run,hd,qe] at e;split at e
 next c=>exact⟨c,e.symm⟩
 next=>exact absurd e.symm hr
theorem qau(hd:Pm.defs f=some d)(hn:d.np=ps.length):∀ vs H Q E,spR ct (MP.run Pm (n+1) f) vs H Q E->vs.length=ps.length:=by
 intro vs H Q E ⟨μ,h,ms,rel,rvs,p⟩;cases er:MP.run Pm (n+1) f ms h with
 |stuck=>rw[er] at p;exact p.elim
 |ok x h'=>rw[rvs.length,(ya0 hd er (λz=>nomatch z)).1,hn]
 |exc c h'=>rw[rvs.length,(ya0 hd er (λz=>nomatch z)).1,hn]
theorem Yav(T:Txt P w K mg base Pm ct n)(hK:K=ct.K)(hd:Pm.defs f=some d)(hb:zk Pm d N ps st=true)(qual:Str)(fa:Addr)(cdv:Value)(A:Around)(outer:List Env)(s:Shared)(H:Hp)(vs:List V)(Q:VK)(E:XK)
  (hr:Room (2*n+1) (A.deeper (envOfC qual (Qb st) s.heap.objs.size fa cdv))) (hsp:spR ct (MP.run Pm (n+1) f) vs H Q E) :
  ∃ t,PSs (YY (CX1 P w) P w K mg base N qual (Qb st) fa cdv A outer s H E) (zh st) t/\t {nx:=λ_ H'=>Q .non H',rt:=Q} (L2.start N vs) H:=by
 obtain⟨S,hn,hs,hc⟩:=YB hb;have cs:Cs (YY (CX1 P w) P w K mg base N qual (Qb st) fa cdv A outer s H E) Pm ct n E N (Qb st) :=
  ⟨⟨T,rfl,hr,λσ _ pins H s e s' I h=>zbe rfl yal pins σ H s e s' I h,rfl,rfl,S.nd,hK⟩,rfl,qbD,yal,λ_=>rfl,S.kind,rfl,rfl⟩
 refine⟨_,sSs d.body cs (zh st) hc,?_⟩;obtain⟨μ,h,ms,rel,rvs,p⟩:=hsp;have hlen:=qau hd hn vs H Q E ⟨μ,h,ms,rel,rvs,p⟩;have hml:ms.length=d.np:=by rw[<- rvs.length,hlen,hn]
 refine⟨μ,h,ms.map some++Xa (d.ns-d.np) none,rel,?_,trivial,?_⟩
 ·refine⟨by unfold L2.start;simp[rvs.length,hml,hs],λi m e=>?_⟩;by_cases hi:i<ms.length
  ·rw[xb (by simpa using hi),Vc] at e;cases em:ms[i]? with
   |none=>rw[em] at e;cases e
   |some m' =>
    rw[em] at e;simp only[vn,Option.some.injEq] at e;subst e;obtain⟨v,ev,rv⟩:=rvs.get em;refine⟨v,?_,rv⟩;unfold L2.start;rw[xb (by rw[xc,rvs.length];exact hi),Vc,ev];rfl
  ·rw[uc (by simpa using hi),Uo] at e;split at e <;> cases e
 ·have er:MP.run Pm (n+1) f ms h=Yf h (Zd Pm (MP.run Pm n) d.body (ms.map some++Xa (d.ns-d.np) none) h):=by
   simp only[MP.run,hd,qe,if_pos hml]
  rw[er] at p;cases ex:Zd Pm (MP.run Pm n) d.body (ms.map some++Xa (d.ns-d.np) none) h with
  |next σ' h' =>
   rw[ex] at p;intro μ' H' σ e1 r1 q1;obtain⟨ν,rfl⟩:=e1.pre;exact yaA rel e1 r1 qas p
  |ret m h' =>
   rw[ex] at p;intro μ' H' v e1 r1 rv;obtain⟨ν,rfl⟩:=e1.pre;exact yaA rel e1 r1 rv p
  |exc c h' =>
   rw[ex] at p;intro μ' H' e1 r1;obtain⟨ν,rfl⟩:=e1.pre;exact za9 rel e1 r1 p
  |brk σ' h'=>rw[ex] at p;exact p.elim
  |cnt σ' h'=>rw[ex] at p;exact p.elim
  |stuck=>rw[ex] at p;exact p.elim
theorem Ybb(T:Txt P w K mg base Pm ct n)(hK:K=ct.K)(S:Src K mg (Str.ofString f) st ps)(hd:Pm.defs f=some d)(hb:zk Pm d N ps st=true):yaz P w K mg base (Str.ofString f) (2*(n+1)) ps (spR ct (MP.run Pm (n+1) f)) :=
 qb9 (k:=2*n+1) S (YB hb).1 (qau hd (YB hb).2.1) λfa cdv A outer s H vs Q E hr hsp=>Yav T hK hd hb _ fa cdv A outer s H vs Q E hr hsp
theorem Q9{x qual:Str}{fa:Addr}{fd:FuncData}(T:Txt P w K mg base Pm ct n)(hK:K=ct.K)(F:Fun K x qual st fa fd)(hd:Pm.defs f=some d)(hb:zk Pm d N ps st=true):FnOk P w K mg base (CX1 P w) (2*(n+1)) fa fd ps (spR ct (MP.run Pm (n+1) f)):=by
 obtain⟨oc,od,kV,doc,pm,an,cdv,ctv,osl,rfl,lk,hcd⟩:=F.ex;exact Ybl (k:=2*n+1) lk hcd (YB hb).1 (qau hd (YB hb).2.1) λA outer s H vs Q E hr hsp=>Yav T hK hd hb _ fa cdv A outer s H vs Q E hr hsp
theorem Zbb{x qual:Str}{fa:Addr}{fd:FuncData}(T:Txt P w K mg base Pm ct n)(hK:K=ct.K)(F:FunD K x qual st fa fd)(hd:Pm.defs f=some d)(hb:zk Pm d N ps st=true):FnOk P w K mg base (CX1 P w) (2*(n+1)) fa fd ps (spR ct (MP.run Pm (n+1) f)):=by
 obtain⟨oc,od,dV,kV,doc,pm,an,cdv,ctv,osl,rfl,lk,hcd⟩:=F.ex;exact Ybl (k:=2*n+1) lk hcd (YB hb).1 (qau hd (YB hb).2.1) λA outer s H vs Q E hr hsp=>Yav T hK hd hb _ fa cdv A outer s H vs Q E hr hsp
end
theorem ln0{α:Type}{us:List α}(h:us.length=0):us=[]:=wq h
theorem lnS{α:Type}{n:Nat}{us:List α}(h:us.length=n+1):∃ a vs,us=a::vs/\vs.length=n:=by
 cases us with
 |nil=>cases h
 |cons a vs=>exact⟨a,vs,rfl,Nat.succ.inj h⟩
theorem ln1{α:Type}{us:List α}(h:us.length=1):∃ a,us=[a]:=by obtain⟨a,vs,rfl,h2⟩:=lnS h;rw[ln0 h2];exact⟨a,rfl⟩
theorem ln2{α:Type}{us:List α}(h:us.length=2):∃ a b,us=[a,b]:=by obtain⟨a,vs,rfl,h2⟩:=lnS h;obtain⟨b,rfl⟩:=ln1 h2;exact⟨a,b,rfl⟩
theorem ln3{α:Type}{us:List α}(h:us.length=3):∃ a b c,us=[a,b,c]:=by obtain⟨a,vs,rfl,h2⟩:=lnS h;obtain⟨b,c,rfl⟩:=ln2 h2;exact⟨a,b,c,rfl⟩
theorem ln4{α:Type}{us:List α}(h:us.length=4):∃ a b c d,us=[a,b,c,d]:=by obtain⟨a,vs,rfl,h2⟩:=lnS h;obtain⟨b,c,d,rfl⟩:=ln3 h2;exact⟨a,b,c,d,rfl⟩
noncomputable def AllL(P:String->MDef->Prop):List (String×MDef)->Prop
 |[]=>True
 |p::r=>P p.1 p.2/\AllL P r
theorem yam{P:String->MDef->Prop}{f:String}{d:MDef}:∀{L:List (String×MDef)},AllL P L->L.lookup f=some d->P f d
 |[],_,h=>by cases h
 |(g,e)::r,⟨a,b⟩,h=>by
  rw[Xb] at h;cases hb:f==g with
  |true =>
   rw[hb] at h;cases h;rw[show f=g by simpa using hb];exact a
  |false =>
   rw[hb] at h;exact yam b h
noncomputable def Zbl(K:PySem.W.Frag)(mg:Str->Option Value)(Pm:Prog)(ct:Tx)(f:String)(ps:List Str):Prop :=
 ∀(P:Program)(w:World)(base:Heap)(n:Nat),K.In base->(ct.cd≠0->LamB mg base ct.cd ct.tb)->yaz P w K mg base (Str.ofString f) (2*(n+1)) ps (spR ct (MP.run Pm (n+1) f))
structure Text (K:PySem.W.Frag) (mg:Str->Option Value) (Pm:Prog) (ct:Tx):Prop where
 hK:K=ct.K
 defs:∀ f d,Pm.defs f=some d->f.toList.contains '.'=false->∃ st N ps,Src K mg (Str.ofString f) st ps/\(zk Pm d N ps st=true\/Zbl K mg Pm ct f ps)
 inits:∀ c f,Pm.meths c "__init__"=some f->∃ d st N ps fa fd x qual,Pm.defs f=some d/\Mk K (ct c) fa/\Fun K x qual st fa fd/\Binds K fd ps []/\mg (Str.ofString c)=some (.ref (ct c))/\zk Pm d N ps st=true
 blts:∀ x∈fnNames++tyNames++isTys++["range","zip","enumerate","isinstance","sorted","reversed","set"],mg (Str.ofString x)=none
 fok:∀ c f,Pm.fok c f=true->Cls K (ct c)/\NoAttr K (ct c) (Str.ofString f)
 cls:∀ c t b,Pm.subs c t=some b->ClsOk K (ct c)
 subC:∀ c t b,Pm.subs c t=some b->isTys.contains t=false->mg (Str.ofString t)=some (.ref (ct t))/\ud K (.ref (ct c)) (.ref (ct t))=some b
 subT:∀ c t b,Pm.subs c t=some b->isTys.contains t=true->ud K (.ref (ct c)) (.type t)=some b
 tyC:∀ t c b,Pm.subs c t=some b->isTys.contains t=false->∀ T∈["NoneType","bool","int","str","list","tuple"],ud K (.type T) (.ref (ct t))=some false
 excs:∀ c,Pm.excs c=true->qz K (ct c)/\mg (Str.ofString c)=some (.ref (ct c))
 words:∀ wd,Pm.words wd=true->qz K (ct "DotError")/\mg "DotError"=some (.ref (ct "DotError"))/\(∀(P:Program)(w:World)(base:Heap),∃ ps,zbt P w K mg base (Str.ofString wd) 1 ps (spW ct Pm wd)) /\
  ∀ c s,Pm.word wd c=some s->qz K (ct c)/\(zr K (ct c)).contains (.ref (ct "DotError"))=true
 xcls:∀ t,Pm.xcls t=true->(if t="ValueError" then mg "ValueError"=none else mg (Str.ofString t)=some (.ref (ct t)))
 xs:∀ c t b,Pm.xsubs c t=some b->ExcK K (ct c)/\ud K (.ref (ct c)) (if t="ValueError" then .type "ValueError" else .ref (ct t))=some b
 dfl:∀ f ds,Pm.dfl f ds=true->∃ d st N ps fa fd dvals,Pm.defs f=some d/\FunD K (Str.ofString f) (Str.ofString f) st fa fd/\Binds K fd ps dvals/\Vals (ds.map V.int) dvals/\mg (Str.ofString f)=some (.ref fa)/\zk Pm d N ps st=true
 meths:∀ c m f,Pm.meths c m=some f->m≠"__init__"->Cls K (ct c)/\∃ d st N ps fa fd x qual,Pm.defs f=some d/\Meth K (ct c) (Str.ofString m) fa/\Fun K x qual st fa fd/\Binds K fd ps []/\zk Pm d N ps st=true
 mk0:∀ c,Pm.mk0 c=true->Mk0 K (ct c)/\mg (Str.ofString c)=some (.ref (ct c))
 globs:∀ x v,Pm.globs x=some v->zbi mg x v
 xdot:Pm.xt=true->qz K (ct "DotError")/\mg "DotError"=some (.ref (ct "DotError"))/\∀ c b,Pm.xsubs c c=some b->qz K (ct c)/\(zr K (ct c)).contains (.ref (ct "DotError"))=true
theorem sp0{ct:Tx}{Pm:Prog}{f:String}{vs:List V}{H:Hp}{Q:VK}{E:XK}(h:spR ct (MP.run Pm 0 f) vs H Q E):False:=by
 obtain⟨μ,h,ms,rel,rvs,p⟩:=h;exact p
theorem zO{P:Program}{w:World}{K:PySem.W.Frag}{mg:Str->Option Value}{base:Heap}{Pm:Prog}{ct:Tx}(T:Text K mg Pm ct)(kb:K.In base)(lb:ct.cd≠0->LamB mg base ct.cd ct.tb):∀ n,Txt P w K mg base Pm ct n
 |0=>⟨λf d hd hdot=>by
   obtain⟨st,N,ps,⟨fa,fd,F,b,m⟩,hb⟩:=T.defs f d hd hdot;exact⟨ps,fa,fd,⟨λvs H Q E h=>(sp0 h).elim,λA outer s H args us vs Q E _ _ _ _ h=>(sp0 h).elim⟩,b,F.kp,m⟩,
  λc f hi=>by
   obtain⟨d,st,N,ps,fa,fd,x,qual,hd,M,F,b,m,hb⟩:=T.inits c f hi;exact⟨ps,fa,fd,M,⟨λvs H Q E h=>(sp0 h).elim,λA outer s H args us vs Q E _ _ _ _ h=>(sp0 h).elim⟩,b,m⟩,
  T.blts,T.fok,T.cls,T.subC,T.subT,T.tyC,T.excs,λwd hw=>let ⟨a,b,c,d⟩:=T.words wd hw;⟨a,b,c P w base,d⟩,T.xcls,T.xs,λf ds hf=>let ⟨d,st,N,ps,fa,fd,dvals,hd,F,b,vd,m,hb⟩:=T.dfl f ds hf;⟨ps,fa,fd,dvals,⟨λvs H Q E h=>(sp0 h).elim,λA outer s H args us vs Q E _ _ _ _ h=>(sp0 h).elim⟩,b,vd,F.kp,m⟩,T.xdot,λc m f hm hi=>by
   obtain⟨cl,d,st,N,ps,fa,fd,x,qual,hd,M,F,b,hb⟩:=T.meths c m f hm hi;exact⟨cl,fa,fd,ps,M,⟨λvs H Q E h=>(sp0 h).elim,λA outer s H args us vs Q E _ _ _ _ h=>(sp0 h).elim⟩,b⟩,T.mk0,T.globs⟩
 |n+1=>⟨λf d hd hdot=>by
   obtain⟨st,N,ps,S,hb⟩:=T.defs f d hd hdot;exact⟨ps,hb.elim (λhb=>Ybb (zO T kb lb n) T.hK S hd hb) λhp=>hp P w base n kb lb⟩,
  λc f hi=>by
   obtain⟨d,st,N,ps,fa,fd,x,qual,hd,M,F,b,m,hb⟩:=T.inits c f hi;exact⟨ps,fa,fd,M,Q9 (zO T kb lb n) T.hK F hd hb,b,m⟩,
  T.blts,T.fok,T.cls,T.subC,T.subT,T.tyC,T.excs,λwd hw=>let ⟨a,b,c,d⟩:=T.words wd hw;⟨a,b,c P w base,d⟩,T.xcls,T.xs,λf ds hf=>let ⟨d,st,N,ps,fa,fd,dvals,hd,F,b,vd,m,hb⟩:=T.dfl f ds hf;⟨ps,fa,fd,dvals,Zbb (zO T kb lb n) T.hK F hd hb,b,vd,F.kp,m⟩,T.xdot,λc m f hm hi=>by
   obtain⟨cl,d,st,N,ps,fa,fd,x,qual,hd,M,F,b,hb⟩:=T.meths c m f hm hi;exact⟨cl,fa,fd,ps,M,Q9 (zO T kb lb n) T.hK F hd hb,b⟩,T.mk0,T.globs⟩
theorem Zcd{K:PySem.W.Frag}{ct:Tx}{Pm:Prog}{n:Nat}{H:Hp}{a:Addr}{ns:List Int}(hK:K=ct.K)(hO:Ybj H)(hS:SqL K H a (ns.map V.int))(main:∃ h,MP.run Pm n "law" [.f (.scr ns)] []=.ok (.f (.bl true)) h) :
  spR ct (MP.run Pm n "law") [.ref a] H (λv _=>v=.bl true) λ_ _ _=>False:=by
 subst hK;refine⟨[],[],[.f (.scr ns)],⟨rfl,List.nodup_nil,λb hb=>by simp at hb,λi b c e=>by simp at e⟩,RVs.cons ?_ RVs.nil,?_⟩
 ·simp only[RV,RF];refine⟨a,rfl,?_⟩
  rcases hS with (e|⟨o,e⟩)|e
  ·rcases hO a with z|⟨o,xs,z⟩
   ·rw[z] at e;cases e
   ·rw[z] at e;cases e
  ·exact .inl ⟨λ⟨i,c,e,_⟩=>by simp at e,o,e⟩
  ·exact .inr e
 ·obtain⟨h,e⟩:=main;rw[e];intro μ' H' _ _ v rv;exact Zaj rv
end SD
end
section
namespace SD
open PySem PySem.Spec PyProof.Rows L2 L3 M3 MP
section
variable {K:PySem.W.Frag} {t C:Addr} {cd:ClassData}
theorem Zf{b:Bool}(s0:Ud K (.ref t) (.ref t)=some true)(ci:wj K C=some cd)(ty:Wo K (.ref C)=some (.type "type"))(s:Ud K (.ref t) (.ref C)=some b):ud K (.ref t) (.ref C)=some b:=by
 unfold ud uC;by_cases ne:(Value.ref t==Value.ref C)=true
 ·have e':Value.ref t=Value.ref C:=eq_of_beq ne;rw[if_pos ne];rw[e'] at s0 s;rw[s0] at s;exact s
 rw[if_neg ne];show(if((wj K C).isSome&&Wo K (.ref C)==some (.type "type"))=true then Ud K (.ref t) (.ref C) else none)=some b;rw[ci,ty,if_pos (by rfl),s]
theorem YaM{T:String}{b:Bool}(m:ww T=true)(s:Ud K (.ref t) (.type T)=some b):ud K (.ref t) (.type T)=some b:=by
 unfold ud uC;rw[if_neg (λe=>by have e':Value.ref t=Value.type T:=eq_of_beq e;cases e')];show(if ww T=true then Ud K (.ref t) (.type T) else none)=some b;rw[if_pos m,s]
theorem yb4{T:String}(m:Ud K (.type T) (.ref C)=some false)(ci:wj K C=some cd)(ty:Wo K (.ref C)=some (.type "type")):ud K (.type T) (.ref C)=some false:=by
 unfold ud uC;rw[if_neg (λe=>by have e':Value.type T=Value.ref C:=eq_of_beq e;cases e')];show(if((wj K C).isSome&&Wo K (.ref C)==some (.type "type"))=true then Ud K (.type T) (.ref C) else none)=some false;rw[ci,ty,if_pos (by rfl),m]
theorem zbE(C:Addr):∀ T∈["NoneType","bool","int","str","list","tuple"],Ud K (.type T) (.ref C)=some false:=by
 intro T hT;simp only[Ua,Xc,or_false] at hT
 rcases hT with rfl|rfl|rfl|rfl|rfl|rfl <;> rfl
theorem YbO{T:String}(hT:T∈isTys):ww T=true:=by
 simp only[isTys,Ua,Xc,or_false] at hT
 rcases hT with rfl|rfl|rfl|rfl|rfl|rfl <;> decide +kernel
theorem Qae:ww "ValueError"=true:=by decide +kernel
theorem zce(ci:wj K C=some cd):zr K C=cd.mro.tail:=by
 unfold wj at ci;unfold zr;split at ci
 ·next h=>rw[h];cases ci;rfl
 ·cases ci
end
theorem src_mk{K:PySem.W.Frag}{h:Heap}{mg:Str->Option Value}{x:Str}{st:Stmt}{ps:List Str}{f:Addr}{oc:Value}{od an:Option Addr}{osl:Array (Option Value)}{kV doc pm cdv ct:Value}(X:K.In h)(G:h.Ns mainGlobals mg)
  (hb:∀(kV doc pm:Value)(an:Option Addr)(cdv ct:Value)(us:List Value),us.length=ps.length->bindArgs (Xi x x (Qj st) (zh st) (Qb st) .none kV doc pm an cdv ct) ⟨us,[]⟩=pure (ps.zip us))
  (a:uq K mainGlobals x=some (some (.ref f))) (l:K.lookup f=some ⟨oc,od,.func (Xi x x (Qj st) (zh st) (Qb st) .none kV doc pm an cdv ct),osl⟩)
  (c:um K cdv x=true) (k:Wh K (.ref f)=true):Src K mg x st ps :=
 ⟨f,_,QbJ (st:=st) l c k,(zaR (st:=st) l c k).binds hb,Xh X G a⟩
noncomputable def qa1(K:PySem.W.Frag):Sp:=λvs H Q E=>∃(a:Addr)(ns:List Int),vs=[.ref a]/\ns.length<=63/\Ybj H/\SqL K H a (ns.map V.int)/\Q=(λv _=>v=.bl true)/\E=λ_ _ _=>False
theorem qcg{P:Program}{w:World}{K:PySem.W.Frag}{mg:Str->Option Value}{base:Heap}{Pm:Prog}{ct:Tx}{n:Nat}{d:MDef}{N ps:List Str}{st:Stmt}{fa:Addr}{fd:FuncData}(T:Text K mg Pm ct)(kb:K.In base)(lb:ct.cd≠0->LamB mg base ct.cd ct.tb)(F:Fun K "law" "law" st fa fd)(hd:Pm.defs "law"=some d)(hb:zk Pm d N ps st=true)
  (main:∀ ns:List Int,ns.length<=63->∃ h,MP.run Pm (n+1) "law" [.f (.scr ns)] []=.ok (.f (.bl true)) h):FnOk P w K mg base (CX1 P w) (2*(n+1)) fa fd ps (qa1 K) :=
 (Q9 (zO T kb lb n) T.hK F hd hb).imp λvs H Q E ⟨a,ns,e1,hl,hO,hS,e2,e3⟩=>by
  subst e1;subst e2;subst e3;exact Zcd T.hK hO hS (main ns hl)
theorem walk{l:PySem.W.OpenLaw}{q:Program}{loose:List Str}{XP:(Str->Option Value)->Heap->Prop}{YP:World->Heap->Prop}{d:DefRec}{K:Params->PySem.W.Frag}{k:Nat}(hn:l.most=some 63)(hdf:d.params.defaults=[])(hr:Room k callerA)
  (hY:∀(w:World)(h:Heap),YP w h->(K w.params).In h)
  (F:∀(w:World)(mg:Str->Option Value)(fa:Addr)(h:Heap),(K w.params).In h->h.Ns mainGlobals mg->mg d.name=some (.ref fa) ->
   ∃ fd:FuncData,(∀(s:Shared)(u:Value),BindsTo s fd ⟨[u],[]⟩ [("_law_script",u)])/\∀ base:Heap,(K w.params).In base->base.Ns mainGlobals mg->FnOk l.prog w (K w.params) mg base (CX1 l.prog w) k fa fd ["_law_script"] (qa1 (K w.params))) :
  PySem.W.WalkO q loose XP YP l.row.toRowW d [] (λf vs=>PySem.call f vs) :=
 L2.walk_of (n:=63) (k:=k) (x:="_law_script") (CX:=λw=>CX1 l.prog w) (sp:=λw=>qa1 (K w.params)) hn (by decide) hdf hr hY F (λ_ _ a ns hl hO hS=>⟨a,ns,rfl,hl,hO,hS,rfl,rfl⟩) λ_ _ _ _ _ ⟨_,_,_,_,_,_,_,_,_,_,_,_,_,_,_,z⟩=>z
structure CK (K:PySem.W.Frag) (x:Str) (C:Addr) (cd:ClassData):Prop where
 a:uq K mainGlobals x=some (some (.ref C))
 ci:wj K C=some cd
 ty:Wo K (.ref C)=some (.type "type")
 pg:xu K C Str.empty=true
 hd:ut K C=true
 po:Vy K C=true
 sa:ue K (.ref C) "__setattr__"=some (some (.builtin "object.__setattr__"))
 cl:ue K (.ref C) "__class__"=some (some (.builtin "object.__class__"))
 mo:wu K C (.type "object")=some true
 s0:Ud K (.ref C) (.ref C)=some true
 k0:Ud K (.ref C) (.type "dict")=some false
 k1:Ud K (.ref C) (.type "list")=some false
 k2:Ud K (.ref C) (.type "tuple")=some false
 k3:Ud K (.ref C) (.type "str")=some false
 k4:Ud K (.ref C) (.type "int")=some false
 k5:Ud K (.ref C) (.type "bool")=some false
structure FK (K:PySem.W.Frag) (x q:Str) (st:Stmt) (f:Addr) (oc:Value) (od:Option Addr) (kV dc pm:Value) (an:Option Addr) (cv ct:Value) (sl:Array (Option Value)):Prop where
 im:XE K (.ref f)=true
 lm:K.lookup f=some ⟨oc,od,.func (Xi x q (Qj st) (zh st) (Qb st) .none kV dc pm an cv ct),sl⟩
 km:um K cv q=true
 kpm:Wh K (.ref f)=true
noncomputable def FE(K:PySem.W.Frag)(x q:Str)(st:Stmt)(f:Addr):Prop:=∃ oc od kV dc pm an cv ct sl,FK K x q st f oc od kV dc pm an cv ct sl
structure IK (K:PySem.W.Frag) (C f:Addr):Prop where
 ai:ue K (.ref C) "__init__"=some (some (.ref f))
 mi:Ws K C=true
 kc:Wh K (.ref C)=true
noncomputable def yaQ{β:Type}(P:String->String->β->Prop):List ((String×String)×β)->Prop
 |[]=>True
 |((c,t),b)::r=>P c t b/\yaQ P r
theorem zp{β:Type}{P:String->String->β->Prop}{c t:String}{b:β}:∀{L:List ((String×String)×β)},yaQ P L->L.lookup (c,t)=some b->P c t b
 |[],_,h=>by cases h
 |((x,y),e)::r,a,h=>by
  rw[Xb] at h;cases hb:(c,t)==(x,y) with
  |true =>
   rw[hb] at h;cases h;have z:(c,t)=(x,y):=eq_of_beq hb;cases z;exact a.1
  |false =>
   rw[hb] at h;exact zp a.2 h
section
variable {K:PySem.W.Frag} {h:Heap} {mg:Str->Option Value} {Pm:Prog} {ct:Tx} {c t m g:String} {cd cd':ClassData} {b:Bool} {f:Addr} {st:Stmt} {N ps:List Str} {d:MDef} {q:Str}
theorem CK.cls{x:Str}{C:Addr}(k:CK K x C cd):Cls K C:=⟨k.pg,k.hd,k.po,k.sa⟩
theorem CK.kt{x:Str}{C:Addr}(k:CK K x C cd){t:String}(ht:isTys.contains t=true):ud K (.ref C) (.type t)=some false:=by
 have ht:t∈isTys:=by simpa using ht
 refine YaM (YbO ht) ?_;simp only[isTys,Ua,Xc,or_false] at ht
 rcases ht with rfl|rfl|rfl|rfl|rfl|rfl
 ·exact k.k0
 ·exact k.k1
 ·exact k.k2
 ·exact k.k3
 ·exact k.k4
 ·exact k.k5
noncomputable def SubP(K:PySem.W.Frag)(mg:Str->Option Value)(ct:Tx)(c t:String)(b:Bool):Prop:=Cls K (ct c)/\(∃ x cd,CK K x (ct c) cd) /\
 (isTys.contains t=false->(∃ x cd,CK K x (ct t) cd)/\mg (Str.ofString t)=some (.ref (ct t))/\ud K (.ref (ct c)) (.ref (ct t))=some b)/\(isTys.contains t=true->ud K (.ref (ct c)) (.type t)=some b)
theorem sub_c(X:K.In h)(G:h.Ns mainGlobals mg)(kC:CK K (Str.ofString c) (ct c) cd)(kD:CK K (Str.ofString t) (ct t) cd')(s:Ud K (.ref (ct c)) (.ref (ct t))=some b)(nt:isTys.contains t=false):SubP K mg ct c t b :=
 ⟨kC.cls,⟨_,_,kC⟩,λ_=>⟨⟨_,_,kD⟩,Xh X G kD.a,Zf kC.s0 kD.ci kD.ty s⟩,λe=>absurd (nt.symm.trans e) Ug⟩
theorem Yaj(kC:CK K (Str.ofString c) (ct c) cd)(tt:isTys.contains t=true):SubP K mg ct c t false :=
 ⟨kC.cls,⟨_,_,kC⟩,λe=>absurd (e.symm.trans tt) Ug,λ_=>kC.kt tt⟩
noncomputable def qa2(K:PySem.W.Frag)(mg:Str->Option Value)(Pm:Prog)(ct:Tx)(c m g:String):Prop:=Cls K (ct c)/\∃ d st N ps fa fd x qual,Pm.defs g=some d/\Meth K (ct c) (Str.ofString m) fa/\Fun K x qual st fa fd/\Binds K fd ps []/\zk Pm d N ps st=true /\
 (m="__init__"->Mk K (ct c) fa/\mg (Str.ofString c)=some (.ref (ct c)))
noncomputable abbrev BindH(x q:Str)(st:Stmt)(ps:List Str):Prop:=∀(kV doc pm:Value)(an:Option Addr)(cdv ct:Value)(us:List Value),us.length=ps.length->bindArgs (Xi x q (Qj st) (zh st) (Qb st) .none kV doc pm an cdv ct) ⟨us,[]⟩=pure (ps.zip us)
theorem zb2(X:K.In h)(G:h.Ns mainGlobals mg)(kC:CK K (Str.ofString c) (ct c) cd)(fe:FE K "__init__" q st f)(i:IK K (ct c) f)(hb:BindH "__init__" q st ps)(db:zk Pm d N ps st=true)(hd:Pm.defs g=some d):qa2 K mg Pm ct c "__init__" g:=by
 obtain⟨oc,od,kV,dc,pm,an,cv,ct',sl,k⟩:=fe;have F:=zaR (st:=st) k.lm k.km k.kpm;exact⟨kC.cls,d,st,N,ps,f,_,_,q,hd,⟨i.ai,k.im,k.kpm⟩,F,F.binds hb,db,λ_=>⟨⟨i.mi,i.ai,k.im,i.kc⟩,Xh X G kC.a⟩⟩
end
section
variable {K:PySem.W.Frag} {mg:Str->Option Value} {Pm:Prog} {ct:Tx} {c t m g:String} {b:Bool}
theorem zcc{L:List ((String×String)×String)}(T:yaQ (qa2 K mg Pm ct) L)(h:L.lookup (c,"__init__")=some g):∃ d st N ps fa fd x qual,Pm.defs g=some d/\Mk K (ct c) fa/\Fun K x qual st fa fd/\Binds K fd ps []/\mg (Str.ofString c)=some (.ref (ct c))/\zk Pm d N ps st=true:=by
 obtain⟨_,d,st,N,ps,fa,fd,x,q,a,_,F,b,e,z⟩:=zp T h;exact⟨d,st,N,ps,fa,fd,x,q,a,(z rfl).1,F,b,(z rfl).2,e⟩
theorem yb5{L:List ((String×String)×String)}(T:yaQ (qa2 K mg Pm ct) L)(h:L.lookup (c,m)=some g):Cls K (ct c)/\∃ d st N ps fa fd x qual,Pm.defs g=some d/\Meth K (ct c) (Str.ofString m) fa/\Fun K x qual st fa fd/\Binds K fd ps []/\zk Pm d N ps st=true:=by
 obtain⟨k,d,st,N,ps,fa,fd,x,q,a,M,F,b,e,z⟩:=zp T h;exact⟨k,d,st,N,ps,fa,fd,x,q,a,M,F,b,e⟩
variable {L:List ((String×String)×Bool)} (T:yaQ (SubP K mg ct) L) (h:L.lookup (c,t)=some b)
include T h
theorem clsT(gn:wm K (.builtin "object.__class__") "__get__"=some (some (.builtin "getset_descriptor.__get__")))(tk:wn K (.builtin "object.__class__")=some true):ClsOk K (ct c):=by
 obtain⟨_,⟨x,cd,k⟩,_⟩:=zp T h;exact⟨k.cls,k.cl,gn,tk,k.mo⟩
theorem tyT(ht:isTys.contains t=false){TT:String}(z:TT∈["NoneType","bool","int","str","list","tuple"]):ud K (.type TT) (.ref (ct t))=some false:=by
 obtain⟨x,cd,k⟩:=((zp T h).2.2.1 ht).1;exact yb4 (zbE _ TT z) k.ci k.ty
end
structure XA (K:PySem.W.Frag) (x:Str) (C:Addr) (cd:ClassData):Prop where
 a:uq K mainGlobals x=some (some (.ref C))
 ci:wj K C=some cd
 ty:Wo K (.ref C)=some (.type "type")
structure XC (K:PySem.W.Frag) (C B c0 c1 c2 c3 c4 c5 c6 c7 c8 c9:Addr) (cd:ClassData) (b0 b1 b2 b3 b4 b5 b6 b7 b8 b9:Bool):Prop where
 q:Wy K C bmV "ValueError.__new__"=true
 un:cd.mro.tail.contains (.ref B)=true
 ga:ue K (.ref C) "__getattribute__"=some (some (.builtin "BaseException.__getattribute__"))
 gt:ue K (.ref C) "__getattr__"=some none
 cl:ue K (.ref C) "__class__"=some (some (.builtin "object.__class__"))
 mo:wu K C (.type "object")=some true
 sv:Ud K (.ref C) (.type "ValueError")=some true
 ss:Ud K (.ref C) (.ref C)=some true
 s0:Ud K (.ref C) (.ref c0)=some b0
 s1:Ud K (.ref C) (.ref c1)=some b1
 s2:Ud K (.ref C) (.ref c2)=some b2
 s3:Ud K (.ref C) (.ref c3)=some b3
 s4:Ud K (.ref C) (.ref c4)=some b4
 s5:Ud K (.ref C) (.ref c5)=some b5
 s6:Ud K (.ref C) (.ref c6)=some b6
 s7:Ud K (.ref C) (.ref c7)=some b7
 s8:Ud K (.ref C) (.ref c8)=some b8
 s9:Ud K (.ref C) (.ref c9)=some b9
section
variable {K:PySem.W.Frag} {C B c0 c1 c2 c3 c4 c5 c6 c7 c8 c9:Addr} {cd d0 d1 d2 d3 d4 d5 d6 d7 d8 d9:ClassData} {b0 b1 b2 b3 b4 b5 b6 b7 b8 b9:Bool}
theorem XC.word(z:XC K C B c0 c1 c2 c3 c4 c5 c6 c7 c8 c9 cd b0 b1 b2 b3 b4 b5 b6 b7 b8 b9)(gn:wm K (.builtin "object.__class__") "__get__"=some (some (.builtin "getset_descriptor.__get__")))(tk:wn K (.builtin "object.__class__")=some true)
  {x y0 y1 y2 y3 y4 y5 y6 y7 y8 y9:Str} (zc:XA K x C cd) (x0:XA K y0 c0 d0) (x1:XA K y1 c1 d1) (x2:XA K y2 c2 d2) (x3:XA K y3 c3 d3) (x4:XA K y4 c4 d4) (x5:XA K y5 c5 d5) (x6:XA K y6 c6 d6) (x7:XA K y7 c7 d7) (x8:XA K y8 c8 d8) (x9:XA K y9 c9 d9)
  (i:Nat) (hi:i<10) (hb:[b0,b1,b2,b3,b4,b5,b6,b7,b8,b9]=(xa 10).map λj=>decide (j=i)):WordC K [c0,c1,c2,c3,c4,c5,c6,c7,c8,c9] C i:=by
 have key:∀(j:Nat) D b,[c0,c1,c2,c3,c4,c5,c6,c7,c8,c9][j]?=some D->[b0,b1,b2,b3,b4,b5,b6,b7,b8,b9][j]?=some b->ud K (.ref C) (.ref D)=some b:=by
  intro j D b h1 h2
  rcases j with _|_|_|_|_|_|_|_|_|_|j <;> cases h1 <;> cases h2
  ·exact Zf z.ss x0.ci x0.ty z.s0
  ·exact Zf z.ss x1.ci x1.ty z.s1
  ·exact Zf z.ss x2.ci x2.ty z.s2
  ·exact Zf z.ss x3.ci x3.ty z.s3
  ·exact Zf z.ss x4.ci x4.ty z.s4
  ·exact Zf z.ss x5.ci x5.ty z.s5
  ·exact Zf z.ss x6.ci x6.ty z.s6
  ·exact Zf z.ss x7.ci x7.ty z.s7
  ·exact Zf z.ss x8.ci x8.ty z.s8
  ·exact Zf z.ss x9.ci x9.ty z.s9
 refine⟨⟨z.q,z.ga,z.gt,z.cl,gn,tk,z.mo,by rw[zc.ci];rfl⟩,λj D h=>key j D _ h ?_,YaM Qae z.sv,hi⟩;have hj:j<10:=(ua.mp h).1;rw[hb,Vc,Uw hj];rfl
theorem XC.un_of(z:XC K C B c0 c1 c2 c3 c4 c5 c6 c7 c8 c9 cd b0 b1 b2 b3 b4 b5 b6 b7 b8 b9){x:Str}(zc:XA K x C cd):qz K C/\(zr K C).contains (.ref B)=true:=⟨z.q,by rw[zce zc.ci];exact z.un⟩
end
end SD
end
section
namespace SD
open PySem PySem.Spec PyProof.Rows L2 L3 M3 MP
end SD
end
section
namespace SD
open PySem PySem.Spec PyProof.Rows L2 L3 M3 MP
end SD
end
section
namespace MP
open PySem
noncomputable def yD:MDef:=⟨1,1,[.ret (.blt true "tuple" [.comp true (.blt true "tuple" [.var 0]) (.nm 0) "seq" [.var 0] none 1 []])]⟩
noncomputable def QB:MDef:=⟨3,4,[.ite (.cmp .lt (.var 2) (.cI 1)) [.ret (.cS "the greatest number is below 1")] [],.ite (.or [.cmp .eq (.blt true "len" [.var 0]) (.cI 0),.cmp .eq (.blt true "len" [.sub (.var 0) (.cI 0)]) (.cI 0)]) [.ret (.cS "there are no cells")] [],.for_ (.nm 3) "seq" [.var 0] [.ite (.cmp .ne (.blt true "len" [.var 3]) (.blt true "len" [.sub (.var 0) (.cI 0)])) [.ret (.cS "the rows' lengths differ")] [],.ite (.or [.cmp .lt (.blt true "min" [.var 3]) (.var 1),.cmp .gt (.blt true "max" [.var 3]) (.var 2)]) [.ret (.cS "a number is below the least or above the greatest")] []],.ret (.cN)]⟩
noncomputable def d_cells_by_rows:MDef:=⟨2,4,[.set (.nm 2) (.lst false []),.for_ (.nm 3) "range" [.var 0] [.expr (.lm "extend" (.var 2) [.comp true (.tup [.var 1,.var 0]) (.nm 0) "range" [.var 1] none 1 [3]])],.ret (.var 2)]⟩
noncomputable def Yl:MDef:=⟨3,5,[.set (.nm 3) (.call "own_rows" [.var 2]),.set (.nm 4) (.call "fault_of" [.var 3,.cI 1,.var 1]),.ite (.notN (.var 4)) [.raise "NoTile" [.var 4]] [],.setFld (.var 0) "count" (.var 1),.setFld (.var 0) "rows" (.var 3)]⟩
noncomputable def d_spread_tile:MDef:=⟨2,8,[.ite (.or [.cmp .lt (.var 0) (.cI 1),.cmp .lt (.var 1) (.cI 1)]) [.raise "NoTile" [.cS "the tile would have no cell"]] [],.set (.nm 2) (.frz (.call "cells_by_rows" [.var 0,.var 1])),.set (.nm 3) (.bin false .mul (.lst true [.cI 0]) (.blt true "len" [.var 2])),.set (.nm 4) (.bin true .mul (.lst true [.bin true .add (.bin true .mul (.var 0) (.var 0)) (.bin true .mul (.var 1) (.var 1))]) (.blt true "len" [.var 2])),.for_ (.nm 5) "range" [.cI 1,.bin true .add (.blt true "len" [.var 2]) (.cI 1)] [.set (.nm 6) (.tx2 .idx (.var 4) (.blt true "max" [.var 4])),.setSub (.var 3) (.var 6) (.var 5),.set (.nm 7) (.comp true (.call "distance" [.var 0,.sub (.var 3) (.var 4),.var 1,.var 2]) (.nm 0) "seq" [.var 2] none 1 [0,1,2,6]),.set (.nm 4) (.comp true (.blt true "min" [.var 0]) (.nm 0) "zip" [.var 4,.var 7] none 1 [])],.ret (.make true "Tile" [.blt true "len" [.var 2],.comp true (.slice true (.var 1) (some (.var 0)) (some (.bin true .add (.var 0) (.var 2)))) (.nm 0) "range" [.cI 0,.blt true "len" [.var 2],.var 1] none 1 [3,1]])]⟩
noncomputable def d_distance:MDef:=⟨4,6,[.set (.nm 4) (.call "round_edge" [.blt true "abs" [.bin true .sub (.sub (.var 0) (.cI 0)) (.sub (.var 1) (.cI 0))],.var 2]),.set (.nm 5) (.call "round_edge" [.blt true "abs" [.bin true .sub (.sub (.var 0) (.cI 1)) (.sub (.var 1) (.cI 1))],.var 3]),.ret (.bin true .add (.bin true .mul (.var 4) (.var 4)) (.bin true .mul (.var 5) (.var 5)))]⟩
noncomputable def d_round_edge:MDef:=⟨2,2,[.ret (.blt true "min" [.var 0,.bin true .sub (.var 1) (.var 0)])]⟩
noncomputable def qx:MDef:=⟨2,4,[.setSub (.var 1) (.cI 0) (.bin true .add (.sub (.var 1) (.cI 0)) (.cI 1)),.set (.nm 2) (.cI 0),.ite (.cmp .gt (.blt true "len" [.var 0]) (.cI 0)) [.set (.nm 2) (.sub (.var 0) (.bin true .mod (.sub (.var 1) (.cI 0)) (.blt true "len" [.var 0])))] [],.set (.nm 3) (.bin true .mod (.bin true .mul (.bin true .add (.bin true .add (.bin true .mod (.var 2) (.cI 2147483647)) (.bin true .mul (.bin true .mul (.sub (.var 1) (.cI 0)) (.sub (.var 1) (.cI 0))) (.cI 7919))) (.cI 11)) (.cI 48271)) (.cI 2147483647)),.ret (.bin true .mod (.bin true .mul (.var 3) (.var 3)) (.cI 1999999973))]⟩
noncomputable def d__law_same:MDef:=⟨2,2,[.ite (.isI (.var 1) "dict") [.ite (.or [.not (.isI (.var 0) "dict"),.cmp .ne (.blt true "len" [.var 0]) (.blt true "len" [.var 1])]) [.ret (.cB false)] [],.ret (.blt true "all" [.comp true (.and [.cmp .inn (.var 0) (.var 1),.call "_law_same" [.sub (.var 1) (.var 0),.sub (.var 2) (.var 0)]]) (.nm 0) "seq" [.var 1] none 1 [0,1]])] [],.ite (.or [.isI (.var 1) "list",.isI (.var 1) "tuple"]) [.ite (.cmp .ne (.isI (.var 0) "list") (.isI (.var 1) "list")) [.ret (.cB false)] [],.ite (.cmp .ne (.isI (.var 0) "tuple") (.isI (.var 1) "tuple")) [.ret (.cB false)] [],.ret (.and [.cmp .eq (.blt true "len" [.var 0]) (.blt true "len" [.var 1]),.blt true "all" [.comp true (.call "_law_same" [.var 0,.var 1]) (.tp [.nm 0,.nm 1]) "zip" [.var 0,.var 1] none 2 []]])] [],.ite (.isI (.var 1) "str") [.ret (.and [.isI (.var 0) "str",.cmp .eq (.var 0) (.var 1)])] [],.ret (.and [.isI (.var 0) "int",.not (.isI (.var 0) "bool"),.cmp .eq (.var 0) (.var 1)])]⟩
noncomputable def d__law_told:MDef:=⟨1,1,[.ret (.blt true "tuple" [.comp true (.blt true "tuple" [.var 0]) (.nm 0) "seq" [.var 0] none 1 []])]⟩
noncomputable def d__law_is_tile:MDef:=⟨3,3,[.ite (.or [.not (.isI (.var 0) "Tile"),.not (.call "_law_same" [.fld (.var 0) "count",.var 1])]) [.ret (.cB false)] [],.ret (.call "_law_same" [.fld (.var 0) "rows",.call "_law_told" [.var 2]])]⟩
noncomputable def d__law_only:MDef:=⟨2,3,[.set (.nm 2) (.lst true [.isX (.var 0) "NoInks",.isX (.var 0) "NoMeet",.isX (.var 0) "NoPicture"]),.set (.nm 2) (.bin true .add (.var 2) (.lst true [.isX (.var 0) "NoShade",.isX (.var 0) "NoShares",.isX (.var 0) "NoStretches"])),.set (.nm 2) (.bin true .add (.var 2) (.lst true [.isX (.var 0) "NoText",.isX (.var 0) "NoTile",.isX (.var 0) "NoWay"])),.set (.nm 2) (.bin true .add (.var 2) (.lst true [.isX (.var 0) "OutOfPicture"])),.ite (.or [.not (.isX (.var 0) "ValueError"),.cmp .ne (.blt true "len" [.comp true (.var 0) (.nm 0) "seq" [.var 2] (some (.var 0)) 1 []]) (.cI 1)]) [.ret (.cB false)] [],.ret (.sub (.var 2) (.var 1))]⟩
noncomputable def d__law_far:MDef:=⟨4,6,[.set (.nm 4) (.bin true .mod (.bin true .sub (.sub (.var 0) (.cI 0)) (.sub (.var 1) (.cI 0))) (.var 2)),.set (.nm 5) (.bin true .mod (.bin true .sub (.sub (.var 0) (.cI 1)) (.sub (.var 1) (.cI 1))) (.var 3)),.set (.nm 4) (.blt true "min" [.var 4,.bin true .sub (.var 2) (.var 4)]),.set (.nm 5) (.blt true "min" [.var 5,.bin true .sub (.var 3) (.var 5)]),.ret (.bin true .add (.bin true .mul (.var 4) (.var 4)) (.bin true .mul (.var 5) (.var 5)))]⟩
noncomputable def d__law_spread:MDef:=⟨2,8,[.set (.nm 2) (.lst false []),.for_ (.nm 3) "range" [.var 0] [.set (.nm 2) (.bin false .add (.var 2) (.comp true (.tup [.var 1,.var 0]) (.nm 0) "range" [.var 1] none 1 [3]))],.set (.nm 4) (.comp false (.bin true .add (.bin true .mul (.var 1) (.var 1)) (.bin true .mul (.var 2) (.var 2))) (.nm 0) "seq" [.var 2] none 1 [0,1]),.set (.nm 5) (.lst false []),.while_ (.cmp .gt (.blt true "len" [.var 2]) (.cI 0)) [.set (.nm 6) (.tx2 .idx (.var 4) (.blt true "max" [.var 4])),.set (.nm 7) (.lm "pop" (.var 2) [.var 6]),.expr (.lm "append" (.var 5) [.tup [.var 7,.lm "pop" (.var 4) [.var 6]]]),.set (.nm 4) (.comp false (.blt true "min" [.sub (.var 1) (.var 0),.call "_law_far" [.var 2,.sub (.var 5) (.var 0),.var 3,.var 4]]) (.nm 0) "range" [.blt true "len" [.var 2]] none 1 [4,7,0,1,2])],.ret (.frz (.var 5))]⟩
noncomputable def d__law_spread_size:MDef:=⟨2,4,[.set (.nm 2) (.call "_law_next" [.var 0,.var 1]),.set (.nm 3) (.lst true [.tup [.bin true .add (.cI 1) (.bin true .mod (.bin true .fdiv (.var 2) (.cI 5)) (.cI 5)),.bin true .add (.cI 1) (.bin true .mod (.bin true .fdiv (.var 2) (.cI 30)) (.cI 5))],.tup [.cI 1,.bin true .add (.cI 1) (.bin true .mod (.bin true .fdiv (.var 2) (.cI 5)) (.cI 24))],.tup [.bin true .add (.cI 1) (.bin true .mod (.bin true .fdiv (.var 2) (.cI 5)) (.cI 24)),.cI 1],.tup [.cI 2,.bin true .add (.cI 1) (.bin true .mod (.bin true .fdiv (.var 2) (.cI 5)) (.cI 12))]]),.ret (.sub (.bin true .add (.var 3) (.lst true [.tup [.bin true .add (.cI 1) (.bin true .mod (.bin true .fdiv (.var 2) (.cI 5)) (.cI 5)),.cI 5]])) (.bin true .mod (.var 2) (.cI 5)))]⟩
noncomputable def d__law_refused:MDef:=⟨2,4,[.set (.nm 2) (.cN),.tryK [.expr (.call "spread_tile" [.var 0,.var 1])] 3 2,.ret (.call "_law_only" [.var 2,.cI 7])]⟩
noncomputable def d__law_long:MDef:=⟨2,10,[.set (.nm 2) (.call "_law_next" [.var 0,.var 1]),.ite (.cmp .gt (.bin true .mod (.var 2) (.cI 16)) (.cI 0)) [.ret (.cB true)] [],.set (.nm 3) (.bin true .add (.cI 66) (.bin true .mod (.bin true .fdiv (.var 2) (.cI 32)) (.cI 85))),.set (.nm 4) (.comp true (.tup [.cI 0,.var 0]) (.nm 0) "range" [.var 3] none 1 []),.set (.nm 5) (.comp true (.call "_law_far" [.var 0,.tup [.cI 0,.cI 0],.cI 1,.var 1]) (.nm 0) "seq" [.var 4] none 1 [3]),.set (.nm 6) (.tx2 .idx (.var 5) (.blt true "max" [.var 5])),.set (.nm 7) (.comp true (.blt true "min" [.sub (.var 1) (.var 0),.call "_law_far" [.sub (.var 3) (.var 0),.sub (.var 3) (.var 4),.cI 1,.var 2]]) (.nm 0) "range" [.var 3] none 1 [5,3,4,6]),.set (.nm 8) (.tx2 .idx (.var 7) (.blt true "max" [.var 7])),.ite (.cmp .eq (.bin true .mod (.bin true .fdiv (.var 2) (.cI 16)) (.cI 2)) (.cI 0)) [.set (.nm 9) (.blt true "list" [.sub (.fld (.call "spread_tile" [.cI 1,.var 3]) "rows") (.cI 0)])] [.set (.nm 9) (.comp true (.sub (.var 0) (.cI 0)) (.nm 0) "seq" [.fld (.call "spread_tile" [.var 3,.cI 1]) "rows"] none 1 [])],.ret (.and [.cmp .eq (.tx1 .srtI (.var 9)) (.tx2 .lrg (.cI 1) (.bin true .add (.var 3) (.cI 1))),.cmp .eq (.comp true (.tx2 .idx (.var 1) (.var 0)) (.nm 0) "range" [.cI 1,.cI 4] none 1 [9]) (.lst true [.cI 0,.var 6,.var 8])])]⟩
noncomputable def d_law:MDef:=⟨1,11,[.set (.nm 1) (.lst false [.cI 0]),.ite (.not (.call "_law_long" [.var 0,.var 1])) [.ret (.cB false)] [],.for_ (.nm 2) "range" [.cI 2] [.set (.tp [.nm 3,.nm 4]) (.call "_law_spread_size" [.var 0,.var 1]),.set (.nm 5) (.comp false (.bin false .mul (.lst true [.cI 0]) (.var 1)) (.nm 0) "range" [.var 3] none 1 [4]),.set (.nm 6) (.cI 1),.for_ (.tp [.nm 7,.nm 8]) "seq" [.call "_law_spread" [.var 3,.var 4]] [.setSub (.sub (.var 5) (.sub (.var 7) (.cI 0))) (.sub (.var 7) (.cI 1)) (.var 6),.set (.nm 6) (.bin true .add (.var 6) (.cI 1))],.ite (.not (.call "_law_is_tile" [.call "spread_tile" [.var 3,.var 4],.bin true .mul (.var 3) (.var 4),.var 5])) [.ret (.cB false)] [],.ite (.not (.call "_law_is_tile" [.call "spread_tile" [.var 3,.var 4],.bin true .mul (.var 3) (.var 4),.var 5])) [.ret (.cB false)] [],.set (.nm 9) (.call "_law_next" [.var 0,.var 1]),.set (.nm 10) (.lst true [.tup [.cI 0,.var 4],.tup [.var 3,.cI 0],.tup [.bin true .sub (.neg (.cI 1)) (.bin true .mod (.bin true .fdiv (.var 9) (.cI 6)) (.cI 9)),.var 4],.tup [.var 3,.bin true .sub (.bin true .mod (.bin true .fdiv (.neg (.var 9)) (.cI 6)) (.cI 9)) (.cI 9)],.tup [.cI 0,.cI 0],.tup [.neg (.cI 1),.neg (.cI 1)]]),.ite (.not (.call "_law_refused" [.sub (.sub (.var 10) (.bin true .mod (.var 9) (.cI 6))) (.cI 0),.sub (.sub (.var 10) (.bin true .mod (.var 9) (.cI 6))) (.cI 1)])) [.ret (.cB false)] []],.ret (.cB true)]⟩
noncomputable def defsL:List (String×MDef):=[("own_rows",yD),("fault_of",QB),("cells_by_rows",d_cells_by_rows),("Tile.__init__",Yl),("spread_tile",d_spread_tile),("distance",d_distance),("round_edge",d_round_edge),("_law_next",qx),("_law_same",d__law_same),("_law_told",d__law_told),("_law_is_tile",d__law_is_tile),("_law_only",d__law_only),("_law_far",d__law_far),("_law_spread",d__law_spread),("_law_spread_size",d__law_spread_size),("_law_refused",d__law_refused),("_law_long",d__law_long),("law",d_law)]
noncomputable def methsL:List ((String×String)×String):=[(("Tile","__init__"),"Tile.__init__")]
noncomputable def subsL:List ((String×String)×Bool):=[(("Tile","Tile"),true),(("Tile","dict"),false),(("Tile","list"),false),(("Tile","tuple"),false),(("Tile","str"),false),(("Tile","int"),false),(("Tile","bool"),false)]
noncomputable def prog:Prog where
 defs:=λf=>defsL.lookup f
 globs:=λx=>match x with
  |_=>none
 meths:=λc m=>methsL.lookup (c,m)
 subs:=λc t=>subsL.lookup (c,t)
 fok:=λc n=>match c,n with
  |"Tile","count"=>true
  |"Tile","rows"=>true
  |_,_=>false
 word:=λw c=>match w,c with
  |_,_=>none
 words:=λw=>match w with
  |_=>false
 excs:=λc=>match c with
  |"NoTile"=>true
  |_=>false
 xsubs:=λc t=>match c with
  |"NoTile"=>(match t with
   |"NoPicture"=>some false
   |"OutOfPicture"=>some false
   |"NoMeet"=>some false
   |"NoTile"=>some true
   |"NoInks"=>some false
   |"NoShares"=>some false
   |"NoShade"=>some false
   |"NoStretches"=>some false
   |"NoWay"=>some false
   |"NoText"=>some false
   |"ValueError"=>some true
   |_=>none)
  |_=>none
 xcls:=λt=>match t with
  |"NoPicture"=>true
  |"OutOfPicture"=>true
  |"NoMeet"=>true
  |"NoTile"=>true
  |"NoInks"=>true
  |"NoShares"=>true
  |"NoShade"=>true
  |"NoStretches"=>true
  |"NoWay"=>true
  |"NoText"=>true
  |"ValueError"=>true
  |_=>false
 xt:=true
 turns:=1000000
@[simp] theorem qbJ:prog.defs "own_rows"=some yD:=rfl
@[simp] theorem qbB:prog.defs "fault_of"=some QB:=rfl
@[simp] theorem qQ:prog.defs "cells_by_rows"=some d_cells_by_rows:=rfl
@[simp] theorem ya1:prog.defs "Tile.__init__"=some Yl:=rfl
@[simp] theorem zY:prog.defs "spread_tile"=some d_spread_tile:=rfl
@[simp] theorem Yat:prog.defs "distance"=some d_distance:=rfl
@[simp] theorem yac:prog.defs "round_edge"=some d_round_edge:=rfl
@[simp] theorem yah:prog.defs "_law_next"=some qx:=rfl
@[simp] theorem Yaf:prog.defs "_law_same"=some d__law_same:=rfl
@[simp] theorem Zah:prog.defs "_law_told"=some d__law_told:=rfl
@[simp] theorem ZS:prog.defs "_law_is_tile"=some d__law_is_tile:=rfl
@[simp] theorem Qah:prog.defs "_law_only"=some d__law_only:=rfl
@[simp] theorem Zaq:prog.defs "_law_far"=some d__law_far:=rfl
@[simp] theorem yY:prog.defs "_law_spread"=some d__law_spread:=rfl
@[simp] theorem qG:prog.defs "_law_spread_size"=some d__law_spread_size:=rfl
@[simp] theorem QR:prog.defs "_law_refused"=some d__law_refused:=rfl
@[simp] theorem Yag:prog.defs "_law_long"=some d__law_long:=rfl
@[simp] theorem zbB:prog.defs "law"=some d_law:=rfl
@[simp] theorem ZbG:prog.fok "Tile" "count"=true:=rfl
@[simp] theorem zbV:prog.fok "Tile" "rows"=true:=rfl
@[simp] theorem zbU:prog.subs "Tile" "Tile"=some true:=rfl
@[simp] theorem zbh:prog.meths "Tile" "__init__"=some "Tile.__init__":=rfl
@[simp] theorem ZaT:prog.xsubs "NoTile" "NoPicture"=some false:=rfl
@[simp] theorem qaw:prog.xsubs "NoTile" "OutOfPicture"=some false:=rfl
@[simp] theorem Qbg:prog.xsubs "NoTile" "NoMeet"=some false:=rfl
@[simp] theorem Ybg:prog.xsubs "NoTile" "NoTile"=some true:=rfl
@[simp] theorem Zbh:prog.xsubs "NoTile" "NoInks"=some false:=rfl
@[simp] theorem zaW:prog.xsubs "NoTile" "NoShares"=some false:=rfl
@[simp] theorem Qbe:prog.xsubs "NoTile" "NoShade"=some false:=rfl
@[simp] theorem yaE:prog.xsubs "NoTile" "NoStretches"=some false:=rfl
@[simp] theorem qbl:prog.xsubs "NoTile" "NoWay"=some false:=rfl
@[simp] theorem qbg:prog.xsubs "NoTile" "NoText"=some false:=rfl
@[simp] theorem zaK:prog.xsubs "NoTile" "ValueError"=some true:=rfl
theorem Qe(n:Nat)(f:String)(as:List MV)(h:MH):run prog (n+1) f as h=opt (prog.defs f) λd=>if as.length=d.np then Yf h (Zd prog (run prog n) d.body (as.map some++Xa (d.ns-d.np) none) h) else .stuck:=rfl
theorem qN(n:Nat)(a0 a1:MV)(h:MH):run prog (n+1) "cells_by_rows" [a0,a1] h=Yf h (Zd prog (run prog n) d_cells_by_rows.body [some a0,some a1,none,none] h):=by rw[Qe,qQ];rfl
theorem qE(n:Nat)(a0 a1:MV)(h:MH):run prog (n+1) "spread_tile" [a0,a1] h=Yf h (Zd prog (run prog n) d_spread_tile.body [some a0,some a1,none,none,none,none,none,none] h):=by rw[Qe,zY];rfl
theorem Qat(n:Nat)(a0 a1 a2 a3:MV)(h:MH):run prog (n+1) "distance" [a0,a1,a2,a3] h=Yf h (Zd prog (run prog n) d_distance.body [some a0,some a1,some a2,some a3,none,none] h):=by rw[Qe,Yat];rfl
theorem Z5(n:Nat)(a0 a1:MV)(h:MH):run prog (n+1) "round_edge" [a0,a1] h=Yf h (Zd prog (run prog n) d_round_edge.body [some a0,some a1] h):=by rw[Qe,yac];rfl
theorem qah(n:Nat)(a0 a1:MV)(h:MH):run prog (n+1) "_law_same" [a0,a1] h=Yf h (Zd prog (run prog n) d__law_same.body [some a0,some a1] h):=by rw[Qe,Yaf];rfl
theorem zah(n:Nat)(a0:MV)(h:MH):run prog (n+1) "_law_told" [a0] h=Yf h (Zd prog (run prog n) d__law_told.body [some a0] h):=by rw[Qe,Zah];rfl
theorem yU(n:Nat)(a0 a1 a2:MV)(h:MH):run prog (n+1) "_law_is_tile" [a0,a1,a2] h=Yf h (Zd prog (run prog n) d__law_is_tile.body [some a0,some a1,some a2] h):=by rw[Qe,ZS];rfl
theorem zag(n:Nat)(a0 a1:MV)(h:MH):run prog (n+1) "_law_only" [a0,a1] h=Yf h (Zd prog (run prog n) d__law_only.body [some a0,some a1,none] h):=by rw[Qe,Qah];rfl
theorem Yao(n:Nat)(a0 a1 a2 a3:MV)(h:MH):run prog (n+1) "_law_far" [a0,a1,a2,a3] h=Yf h (Zd prog (run prog n) d__law_far.body [some a0,some a1,some a2,some a3,none,none] h):=by rw[Qe,Zaq];rfl
theorem zX(n:Nat)(a0 a1:MV)(h:MH):run prog (n+1) "_law_spread" [a0,a1] h=Yf h (Zd prog (run prog n) d__law_spread.body [some a0,some a1,none,none,none,none,none,none] h):=by rw[Qe,yY];rfl
theorem zG(n:Nat)(a0 a1:MV)(h:MH):run prog (n+1) "_law_spread_size" [a0,a1] h=Yf h (Zd prog (run prog n) d__law_spread_size.body [some a0,some a1,none,none] h):=by rw[Qe,qG];rfl
theorem ZT(n:Nat)(a0 a1:MV)(h:MH):run prog (n+1) "_law_refused" [a0,a1] h=Yf h (Zd prog (run prog n) d__law_refused.body [some a0,some a1,none,none] h):=by rw[Qe,QR];rfl
theorem qK(n:Nat)(a0 a1:MV)(h:MH):run prog (n+1) "_law_long" [a0,a1] h=Yf h (Zd prog (run prog n) d__law_long.body [some a0,some a1,none,none,none,none,none,none,none,none] h):=by rw[Qe,Yag];rfl
theorem YbJ(n:Nat)(a0:MV)(h:MH):run prog (n+1) "law" [a0] h=Yf h (Zd prog (run prog n) d_law.body [some a0,none,none,none,none,none,none,none,none,none,none] h):=by rw[Qe,zbB];rfl
noncomputable def zg(b:Bool)(r:List Int):FV:=sq b (r.map .int)
noncomputable def zj(b1 b2:Bool)(rows:List (List Int)):FV:=sq b1 (rows.map (zg b2))
theorem Ze:sizeL=4194304:=rfl
section
variable (h:MH)
theorem TrOk.obj(c:String)(fs:List (String×FV))(ds:MH):TrOk (h++[.obj c []]) (h++.obj c (fs.map λp=>(p.1,MV.f p.2))::ds):=by
 refine⟨by simp,λi d hi e=>?_⟩;by_cases hl:i<h.length
 ·rw[xb hl] at e ⊢;exact .inl e
 ·have:i=h.length:=by simp at hi;lia
  subst this;simp at e;subst e;exact .inr ⟨fs,rfl⟩
end
@[simp] theorem cellL_at(xs:List MV)(t:MH):Ya (.lst xs::t) 0=some xs:=rfl
@[simp] theorem ZbY(xs ys:List MV)(t:MH):Zb (.lst xs::t) 0 ys=.lst ys::t:=rfl
noncomputable def Q6(ns:List Int)(k:Int):Int:=if ns=[] then 0 else ns.getD (k%ns.length).toNat 0
noncomputable def zaI(ns:List Int)(k:Int):Int:=((Q6 ns k%2147483647+k*k*7919+11)*48271%2147483647)*((Q6 ns k%2147483647+k*k*7919+11)*48271%2147483647)%1999999973
theorem Yar(ns:List Int)(k:Int):0<=zaI ns k/\zaI ns k<1999999973:=⟨Ww _ (by decide),Xt _ (by decide)⟩
noncomputable abbrev atC(k:Int):Cell:=.lst [I k]
theorem qJ{i j:Int}(h:j.natAbs<2^64):qP i j:=.inr (.inl h)
section
variable {h:MH}
@[simp] theorem Yb3(a:Nat)(y:MV):lmV "append" (.ref a) [y] h=opt (Ya h a) λxs=>if xs.length<sizeL then .ok (.f .non) (Zb h a (xs++[y])) else .stuck:=rfl
@[simp] theorem Zb0(a:Nat)(i:Int)(y:MV):lmV "insert" (.ref a) [.f (.int i),y] h=opt (Ya h a) λxs=>if xs.length<sizeL/\-(2^63)<=i/\i<2^63 then .ok (.f .non) (Zb h a (insertAt xs i y)) else .stuck:=rfl
end
theorem qaK{bd:MV->MSt->MH->RS}(N:Nat)(Pv:Nat->MSt->MH->Prop)(σ:MSt)(h:MH)(h0:Pv 0 σ h)
  (step:∀ i σ h,i<N->Pv i σ h->∃ σ' h',bd (I i) σ h=.next σ' h'/\Pv (i+1) σ' h'):∃ σ' h',QG [] bd ((xa N).map λ(k:Nat)=>I k) σ h=.next σ' h'/\Pv N σ' h':=by
 have:=Q1 (bd:=bd) (e:=λk:Nat=>I k) Pv (xa N) 0 σ h h0 (λj y σ h hj pj=>by
  have hl:j<N:=by have:=(ua.mp hj).1;simpa using this
  have hy:y=j:=by rw[Uw hl] at hj;exact(Option.some.inj hj).symm
  subst hy;simp only[Uj] at pj ⊢;exact step y σ h hl pj)
 simpa using this
namespace Own
variable {h g:MH} {xs:List MV}
end Own
theorem zS(i j:Int)(hj:0<j):0<=i%j/\i%j<j:=⟨Ww _ (by lia),Xt _ hj⟩
noncomputable def Nx(r:RS)(P:MSt->MH->Prop):Prop:=∃ σ h,r=.next σ h/\P σ h
noncomputable def Ret(r:R MV)(P:MV->MH->Prop):Prop:=∃ v h,r=.ok v h/\P v h
@[simp] theorem Nx_next(σ:MSt)(h:MH)(P:MSt->MH->Prop):Nx (.next σ h) P↔P σ h:=⟨λ⟨_,_,e,p⟩=>by cases e;exact p,λp=>⟨_,_,rfl,p⟩⟩
@[simp] theorem Ret_ok(v:MV)(h:MH)(P:MV->MH->Prop):Ret (.ok v h) P↔P v h:=⟨λ⟨_,_,e,p⟩=>by cases e;exact p,λp=>⟨_,_,rfl,p⟩⟩
section
variable {bd:MV->MSt->MH->RS} {σ:MSt} {h:MH} {k:MSt->MH->RS}
theorem ZU{Q:RS->Prop}(N:Nat)(Pv:Nat->MSt->MH->Prop)(h0:Pv 0 σ h)(step:∀ i σ h,i<N->Pv i σ h->∀ Q:MSt->MH->Prop,(∀ σ h,Pv (i+1) σ h->Q σ h)->Nx (bd (I i) σ h) Q)
  (fin:∀ σ' h',Pv N σ' h'->Q (k σ' h')):Q ((QG [] bd ((xa N).map λ(k:Nat)=>I k) σ h).bind k):=by
 obtain⟨σ',h',e,p⟩:=qaK N Pv σ h h0 λi σ h hi p=>step i σ h hi p _ λ_ _ x=>x;rw[e];exact fin σ' h' p
theorem ZaF{α:Type}{e:α->MV}{Q:RS->Prop}(ys:List α)(Pv:Nat->MSt->MH->Prop)(h0:Pv 0 σ h)(step:∀ i y σ h,ys[i]?=some y->Pv i σ h->∀ Q:MSt->MH->Prop,(∀ σ h,Pv (i+1) σ h->Q σ h)->Nx (bd (e y) σ h) Q)
  (fin:∀ σ' h',Pv ys.length σ' h'->Q (k σ' h')):Q ((QG [] bd (ys.map e) σ h).bind k):=by
 obtain⟨σ',h',e,p⟩:=Q1 (bd:=bd) (e:=e) Pv ys 0 σ h h0 (λj y σ h hj pj=>by simp only[Uj] at pj ⊢;exact step j y σ h hj pj _ λ_ _ x=>x);rw[e];exact fin σ' h' (by simpa using p)
end
theorem Ret.of{r:R MV}{P:MV->MH->Prop}(k:∀ Q:MV->MH->Prop,(∀ v h,P v h->Q v h)->Ret r Q):Ret r P:=k P λ_ _ x=>x
theorem Ret.eq{r:R MV}{a:MV}{b:MH}(k:∀ Q:MV->MH->Prop,(∀ v h,v=a/\h=b->Q v h)->Ret r Q):r=.ok a b:=by
 obtain⟨v,h,e,rfl,rfl⟩:=k (λv h=>v=a/\h=b) λ_ _ x=>x;exact e
theorem Nx.of{r:RS}{P:MSt->MH->Prop}(k:∀ Q:MSt->MH->Prop,(∀ v h,P v h->Q v h)->Nx r Q):Nx r P:=k P λ_ _ x=>x
section
variable {h:MH} (sub:String->String->Option Bool) (t:String)
@[simp] theorem isIV_non:qM sub h (.f .non) t=some false:=rfl
@[simp] theorem isIV_bl(b:Bool):qM sub h (.f (.bl b)) t=some (decide (t="bool")||decide (t="int")):=rfl
@[simp] theorem isIV_int(i:Int):qM sub h (.f (.int i)) t=some (decide (t="int")):=rfl
@[simp] theorem isIV_str(s:Str):qM sub h (.f (.str s)) t=some (decide (t="str")):=rfl
@[simp] theorem isIV_tup(xs:List FV):qM sub h (.f (.tup xs)) t=some (decide (t="tuple")):=rfl
@[simp] theorem isIV_lst(xs:List FV):qM sub h (.f (.lst xs)) t=some (decide (t="list")):=rfl
@[simp] theorem isIV_obj(c:String)(ns:List String)(xs:List FV):qM sub h (.f (.obj c ns xs)) t=sub c t:=rfl
end
noncomputable def isP:Nat->FV->Bool
 |_+1,.non=>true
 |_+1,.int _=>true
 |_+1,.str s=>sOk s
 |n+1,.tup xs=>decide (xs.length<=sizeL)&&xs.all (isP n)
 |n+1,.lst xs=>decide (xs.length<=sizeL)&&xs.all (isP n)
 |_,_=>false
noncomputable def isQ:Nat->FV->Bool
 |_+1,.int _=>true
 |_+1,.str s=>sOk s
 |n+1,.tup xs=>decide (xs.length<=sizeL)&&xs.all (isQ n)
 |n+1,.lst xs=>decide (xs.length<=sizeL)&&xs.all (isQ n)
 |_,_=>false
theorem Ybt(b1 b2:Bool)(rows:List (List Int))(h1:rows.length<=1000)(h2:∀ r∈rows,r.length<=1000):isQ 3 (zj b1 b2 rows)=true:=by
 have hz:(1000:Nat)<=sizeL:=by decide
 have hr:∀ r∈rows,isQ 2 (zg b2 r)=true:=λr hr=>by
  have:=Xe (h2 r hr) hz;cases b2 <;> simp[zg,sq,isQ,this]
 have:=Xe h1 hz;cases b1 <;> simp[zj,sq,isQ,this] <;> exact hr
@[simp] theorem eqF_bl(a b:Bool):eqF (.bl a) (.bl b)=some (a==b):=by simp[eqF,eqD]
theorem qac{α:Type}:∀ xs:List α,xs.zip xs=xs.map λx=>(x,x)
 |[]=>rfl
 |x::r=>by simp[qac r]
structure Drawn (most:Int) (rows:List (List Int)) (i j:Nat):Prop where
 len:rows.length=i
 wid:∀ r∈rows,r.length=j
 sh:∀ r∈rows,∀ v∈r,0<=v/\v<=most
theorem QbB(xs:List MV)(i:Int)(h0:0<=i)(h1:i<xs.length):∃ v∈xs,atM xs i=some v:=by
 rw[zN xs i h0,Wc (by lia)];exact⟨_,xo (by lia),rfl⟩
theorem ZbI(xs ys:List FV)(h:MH)(c:xs.length+ys.length<=sizeL):Yg true .add (.f (.lst xs)) (.f (.lst ys)) h=.ok (.f (.lst (xs++ys))) h:=by
 have:yk true (xs.map MV.f++ys.map MV.f) h=.ok (.f (.lst (xs++ys))) h:=by rw[<- uk,qb]
 simp[Yg,c,this]
theorem Yax(xs ys:List FV)(h:MH)(c:xs.length+ys.length<=1000):Yg true .add (.f (.lst xs)) (.f (.lst ys)) h=.ok (.f (.lst (xs++ys))) h:=ZbI xs ys h (Xe c (by decide))
end MP
end
section
namespace MP
open PySem
section
variable {h:MH}
theorem yaT(h:MH)(a b s:Int)(c:-(2^30)<=a/\a<2^30/\-(2^30)<=b/\b<2^30/\0<s/\s<2^30):itV "range" [.f (.int a),.f (.int b),.f (.int s)] h=some ((xa (rlen a b s)).map λ(k:Nat)=>I (a+k*s),[]):=if_pos c
@[simp] theorem Yb6(a:Nat)(z:MV):lmV "extend" (.ref a) [z] h=opt (Ya h a) λxs=>opt (listOf h z) λys=>if xs.length+ys.length<=sizeL then .ok (.f .non) (Zb h a (xs++ys)) else .stuck:=rfl
@[simp] theorem lmV_pop(a:Nat):lmV "pop" (.ref a) [] h=opt (Ya h a) λxs=>opt (xs[xs.length-1]?) λy=>.ok y (Zb h a (xs.take (xs.length-1))):=rfl
@[simp] theorem Zcl(a:Nat)(i:Int):lmV "pop" (.ref a) [.f (.int i)] h=opt (Ya h a) λxs=>opt (ixM xs.length i) λk=>opt (xs[k]?) λy=>if -(2^63)<=i/\i<2^63 then .ok y (Zb h a (xs.take k++xs.drop (k+1))) else .stuck:=rfl
theorem ybO(xs:List MV)(i j:Int)(h0:0<=i)(h1:i<=j):yai xs (some i) (some j)=(xs.drop i.toNat).take (j.toNat-i.toNat):=by
 have e1:QaC xs.length 0 (some i)=min i.toNat xs.length:=by simp only[QaC];rw[if_neg (by lia)]
 have e2:QaC xs.length xs.length (some j)=min j.toNat xs.length:=by simp only[QaC];rw[if_neg (by lia)]
 simp only[yai,e1,e2];apply Wm;intro k;simp only[List.getElem?_take,xx];by_cases c:i.toNat<=xs.length
 ·rw[Nat.min_eq_left c];by_cases c2:j.toNat<=xs.length
  ·rw[Nat.min_eq_left c2]
  ·rw[UA (by lia)];by_cases c3:i.toNat+k<xs.length
   ·rw[if_pos (by lia),if_pos (by lia)]
   ·rw[if_neg (by lia)];split
    ·rw[UC (by lia)]
    ·rfl
 ·rw[UA (by lia),UA (by lia)];rw[if_neg (by lia)];split
  ·rw[UC (by lia)]
  ·rfl
end
theorem Qaa{c:MSt->MH->R MV}{bd:MSt->MH->RS}(N:Nat)(Pv:Nat->MSt->MH->Prop)(step:∀ i σ h,i<N->Pv i σ h->∃ h1 σ' h',c σ h=.ok (B true) h1/\bd σ h1=.next σ' h'/\Pv (i+1) σ' h')
  (fin:∀ σ h,Pv N σ h->c σ h=.ok (B false) h):∀(fuel i:Nat)(σ:MSt)(h:MH),i<=N->N<fuel+i->Pv i σ h->∃ σ' h',Qu c bd fuel σ h=.next σ' h'/\Pv N σ' h'
 |0,i,σ,h,h1,h2,_=>by lia
 |fuel+1,i,σ,h,h1,h2,p=>by
  by_cases hi:i=N
  ·subst hi;exact⟨σ,h,by simp[Qu,fin σ h p],p⟩
  ·obtain⟨h1,σ',h',e1,e2,p'⟩:=step i σ h (by lia) p;obtain⟨σ2,h2,e3,p2⟩:=Qaa N Pv step fin fuel (i+1) σ' h' (by lia) (by lia) p';exact⟨σ2,h2,by simp[Qu,e1,e2,e3],p2⟩
theorem Qbt{c:MSt->MH->R MV}{bd:MSt->MH->RS}{σ:MSt}{h:MH}{k:MSt->MH->RS}{Q:RS->Prop}{fuel:Nat}(N:Nat)(Pv:Nat->MSt->MH->Prop)(hf:N<fuel)(h0:Pv 0 σ h)
  (step:∀ i σ h,i<N->Pv i σ h->c σ h=.ok (B true) h/\∀ Q:MSt->MH->Prop,(∀ σ h,Pv (i+1) σ h->Q σ h)->Nx (bd σ h) Q)
  (fin:∀ σ h,Pv N σ h->c σ h=.ok (B false) h) (go:∀ σ h,Pv N σ h->Q (k σ h)):Q ((Qu c bd fuel σ h).bind k):=by
 obtain⟨σ',h',e,p⟩:=Qaa (c:=c) (bd:=bd) N Pv (λi σ h hi p=>by
  obtain⟨e1,st⟩:=step i σ h hi p;obtain⟨σ',h',e2,p'⟩:=st _ λ_ _ x=>x;exact⟨h,σ',h',e1,e2,p'⟩) fin fuel 0 σ h (Uk _) (by lia) h0
 rw[e];exact go σ' h' p
noncomputable def Yo(count:Int)(rows:List (List Int)):FV:=.obj "Tile" ["count","rows"] [.int count,zj true true rows]
structure GoodT (least most:Int) (rows:List (List Int)):Prop where
 m1:1<=most
 ne:rows≠[]
 len:∃ n:Nat,0<n/\∀ r∈rows,r.length=n
 sh:∀ r∈rows,∀ v∈r,least<=v/\v<=most
 sz:rows.length<=1000
section
variable {most:Int} {rows r1 r2:List (List Int)} {H W:Nat}
theorem Drawn.cons(d:Drawn most rows H W)(hH:1<=H):∃ r rs,rows=r::rs/\r.length=W/\rs.length+1=H:=by
 cases rows with
 |nil=>have:=d.len;simp at this;lia
 |cons r rs=>exact⟨r,rs,rfl,d.wid r (by simp),by have:=d.len;simpa using this⟩
end
theorem ZV{a:Nat}{xs:List MV}{h:MH}(e:Ya h a=some xs):GuardOk [(a,xs)] h:=λp hp=>by simp at hp;subst hp;exact e
theorem QL{α:Type}{bd:MV->MSt->MH->R (Option MV×MSt)}{h:MH}{G:ZE}{e g:α->MV}{caps:MSt}(hg:GuardOk G h):∀(ys:List α)(acc:List MV)(z:Option MV),acc.length+ys.length<=sizeL ->
  (∀ y∈ys,∀ z,∃ z',bd (e y) (z::caps) h=.ok (some (g y),z'::caps) h)->qh G bd (ys.map e) acc (z::caps) h=.ok (acc++ys.map g) h
 |[],acc,z,_,_=>by simp[qh,hg]
 |y::r,acc,z,hl,hb=>by
  obtain⟨z',e1⟩:=hb y (by simp) z;simp only[Ue] at hl;have ih:=QL (bd:=bd) (e:=e) (g:=g) (caps:=caps) hg r (acc++[g y]) z' (by simp;lia) λy hy=>hb y (by simp[hy]);simp only[Wd,qh,hg,true_and,e1,R.bind_ok,ih];rw[if_pos (by lia)];simp
theorem yaI{α:Type}{bd:MV->MSt->MH->R (Option MV×MSt)}{e:α->MV}{caps:MSt}(Pv:Nat->List MV->MH->Prop):∀(ys:List α)(i:Nat)(acc:List MV)(z:Option MV)(h:MH),Pv i acc h->acc.length+ys.length<=sizeL ->
  (∀ j y acc z h,ys[j]?=some y->Pv (i+j) acc h->∃ v z' h',bd (e y) (z::caps) h=.ok (some v,z'::caps) h'/\Pv (i+j+1) (acc++[v]) h')->∃ acc' h',qh [] bd (ys.map e) acc (z::caps) h=.ok acc' h'/\Pv (i+ys.length) acc' h'
 |[],i,acc,z,h,p,_,_=>⟨acc,h,by simp[qh],p⟩
 |y::r,i,acc,z,h,p,hl,hb=>by
  obtain⟨v,z',h',e1,p1⟩:=hb 0 y acc z h rfl p;simp only[Ue] at hl;obtain⟨acc',h2,e2,p2⟩:=yaI Pv r (i+1) (acc++[v]) z' h' p1 (by simp;lia) (λj y acc z h hj q=>by
   have:=hb (j+1) y acc z h (by simpa using hj) (by rw[show i+(j+1)=i+1+j by lia];exact q);rw[show i+(j+1)+1=i+1+j+1 by lia] at this;exact this)
  refine⟨acc',h2,?_,by rw[Ue,show i+(r.length+1)=i+1+r.length by lia];exact p2⟩;simp only[Wd,qh,QaI,true_and,e1,R.bind_ok];rw[if_pos (by lia)];exact e2
theorem QbF{α:Type}{bd:MV->MSt->MH->R (Option MV×MSt)}{e:α->MV}{caps:MSt}{ys:List α}{z:Option MV}{h:MH}{c:R (List MV)}(hc:qh [] bd (ys.map e) [] (z::caps) h=c)(Pv:Nat->List MV->MH->Prop)(h0:Pv 0 [] h)(hl:ys.length<=sizeL)
  (step:∀ j y acc z h,ys[j]?=some y->Pv j acc h->∃ v z' h',bd (e y) (z::caps) h=.ok (some v,z'::caps) h'/\Pv (j+1) (acc++[v]) h'):∃ acc' h',c=.ok acc' h'/\Pv ys.length acc' h':=by
 obtain⟨acc',h',e1,p⟩:=yaI (bd:=bd) (e:=e) (caps:=caps) Pv ys 0 [] z h h0 (by simpa using hl) (λj y acc z h hj q=>by rw[Uj] at q ⊢;exact step j y acc z h hj q);rw[hc,Uj] at *;exact⟨acc',h',e1,p⟩
noncomputable abbrev qa(p:Nat×Nat):FV:=.tup [.int p.1,.int p.2]
theorem YbN(b:Bool)(r r':List Int):eqD (zg b r) (zg b r')=decide (r=r'):=by
 cases b
 ·simp only[zg,sq,Vd,if_false,ybD];exact Z9 FV.int (λa b=>by simp[ya3];rw[WB];simp) r r'
 ·simp only[zg,sq,if_true,QbD];exact Z9 FV.int (λa b=>by simp[ya3];rw[WB];simp) r r'
theorem za2(n:Nat)(b:Bool)(r:List Int):isD (n+2) (zg b r)=true:=by
 cases b <;> simp[zg,sq]
theorem qa0(b:Bool)(r r':List Int):eqF (zg b r) (zg b r')=some (decide (r=r')):=by
 unfold eqF;rw[if_pos ⟨za2 6 b r,za2 6 b r'⟩,YbN]
structure Inks (most:Int) (inks:List Int):Prop where
 up:inks.Pairwise (· < ·)
 inn:∀ v∈inks,0<=v/\v<=most
 z:0∈inks
 m:most∈inks
 sz:inks.length<=50
namespace Inks
variable {most:Int} {inks:List Int} (K:Inks most inks)
include K
end Inks
end MP
namespace MP
open PySem
noncomputable def YH(r:List FV):Cell:=.lst (r.map .f)
noncomputable def Ys(h:MH)(S:List (List FV)):MH:=h++(S.map YH++[.lst ((xa S.length).map λi=>MV.ref (h.length+i))])
theorem QaF(h:MH)(S:List (List FV)):Ya (Ys h S) (h.length+S.length)=some ((xa S.length).map λi=>MV.ref (h.length+i)):=by
 unfold Ys Ya;rw[uc (by lia),uc (by simp)];simp
theorem zaH(h:MH)(S:List (List FV))(i:Nat)(r:List FV)(e:S[i]?=some r):Ya (Ys h S) (h.length+i)=some (r.map .f):=by
 have hi:=(ua.mp e).1;unfold Ys Ya;rw[uc (by lia),xb (by simp;lia)];simp[e,YH]
theorem zbr(h:MH)(S:List (List FV))(i:Nat)(r':List FV)(hi:i<S.length):Zb (Ys h S) (h.length+i) (r'.map .f)=Ys h (S.set i r'):=by
 unfold Ys Zb;rw[Vu _ _ (by lia),List.set_append_left _ _ (by simp;lia),show h.length+i-h.length=i by lia,xw];simp[YH]
section
variable (n:Nat) (h:MH)
theorem Z8(ns:List Int)(k:Int)(hk:0<=k)(hk2:k<1000000):run prog (n+1) "_law_next" [.f (.scr ns),.ref 0] (atC k::h)=.ok (I (zaI ns (k+1))) (atC (k+1)::h):=by
 have m1:qP (k+1) (k+1):=qJ (by lia);have m2:∀ x,qP x 7919:=λx=>qJ (by decide);have m3:∀ x,qP x 48271:=λx=>qJ (by decide);have m4:∀ x:Int,qP (x%2147483647) (x%2147483647):=λx=>qJ (by have:=Ww x (show(2147483647:Int)≠0 by decide);have:=Xt x (show(0:Int)<2147483647 by decide);lia);simp only[Qe,yah,qe,qx];by_cases hn:ns=[]
 ·subst hn;simp[Q0,Yp,m1,m2,m3,m4,ixM,zaI,Q6]
 ·have hl:0<ns.length:=uw.mpr hn;have e1:atM (ns.map λi=>MV.f (.int i)) ((k+1)%ns.length)=some (I (Q6 ns (k+1))):=by
   have h0:0<=(k+1)%(ns.length:Int):=Ww _ (by lia);have h1:(k+1)%(ns.length:Int)<ns.length:=Xt _ (by lia);rw[zN _ _ h0,Vc,Wc (by lia)];simp[Q6,hn,we,Wc (show((k+1)%(ns.length:Int)).toNat<ns.length by lia)]
  simp[Q0,Yp,m1,m2,m3,m4,ixM,zaI,hl,e1]
end
theorem zP(n:Nat)(h:MH):∀(d:Nat)(x:FV),isQ d x=true->run prog (n+d) "_law_same" [.f x,.f x] h=.ok (B true) h
 |0,x,e=>by cases x <;> simp[isQ] at e
 |d+1,x,e=>by
  rw[show n+(d+1)=(n+d)+1 from rfl,qah];simp only[d__law_same];cases x with
  |non=>simp[isQ] at e
  |bl b=>simp[isQ] at e
  |int i=>simp
  |str s=>simp[isQ] at e;simp[zbR _ _ e e]
  |tup xs =>
   simp[isQ] at e;simp[qac,Vf,MP.stM];rw[YU (e:=λx=>MV.f (.tup [x,x])) (g:=λ_=>B true) (caps:=[]) xs [] none none (by simpa using e.1) (λy hy z w=>⟨some (.f y),some (.f y),by simp[Zi,zP n h d y (e.2 y hy)]⟩)];simp[Vf]
  |lst xs =>
   simp[isQ] at e;simp[qac,Vf,MP.stM];rw[YU (e:=λx=>MV.f (.tup [x,x])) (g:=λ_=>B true) (caps:=[]) xs [] none none (by simpa using e.1) (λy hy z w=>⟨some (.f y),some (.f y),by simp[Zi,zP n h d y (e.2 y hy)]⟩)];simp[Vf]
  |obj c ns vs=>simp[isQ] at e
  |scr ns=>simp[isQ] at e
  |tab ns=>simp[isQ] at e
  |msk ns=>simp[isQ] at e
noncomputable def Za(H W:Nat):List (Nat×Nat):=(xa H).flatMap λr=>(xa W).map λc=>(r,c)
theorem Zm(H W:Nat):(Za H W).length=H*W:=by
 unfold Za;rw[List.length_flatMap];simp only[xc,Wz]
 induction H with
 |zero=>simp
 |succ H ih=>rw[Vs,uk,List.sum_append,ih,Nat.add_mul];simp
theorem ZaU(H W:Nat)(hW:1<=W):(xa (H*W)).map (λk=>(k/W,k%W))=Za H W:=by
 unfold Za
 induction H with
 |zero=>simp
 |succ H ih =>
  rw[Nat.add_mul,WH,List.range_add,uk,ih,Vs,vw,vg]
  congr 1
  simp only[UG,List.flatMap_nil,Xs];refine Ur λj hj=>?_;have hj:=Wi.mp hj;simp only[Vr,Prod.mk.injEq];rw[WF H W,Nat.mul_add_div (by lia),Nat.mul_add_mod,Nat.div_eq_of_lt hj,Nat.mod_eq_of_lt hj];exact⟨by lia,rfl⟩
noncomputable def Zx(n a:Nat):Nat:=if n-a<a then n-a else a
noncomputable def Zq(a b:Nat):Nat:=(a-b)+(b-a)
noncomputable def dN(H W:Nat)(p q:Nat×Nat):Nat:=Zx H (Zq p.1 q.1)*Zx H (Zq p.1 q.1)+Zx W (Zq p.2 q.2)*Zx W (Zq p.2 q.2)
theorem ybG{H a b:Nat}(ha:a<H)(hb:b<H):((a:Int)-b)%H=if b<=a then((a-b:Nat):Int) else((H+a-b:Nat):Int):=by
 split
 next h=>rw[vG (by lia) (by lia)];lia
 next h =>
  rw[<- Int.add_emod_right,vG (by lia) (by lia)];lia
theorem Za3{H a b:Nat}(ha:a<H)(hb:b<H):(if(H:Int)-((a:Int)-b)%H<((a:Int)-b)%H then(H:Int)-((a:Int)-b)%H else((a:Int)-b)%H)=(Zx H (Zq a b):Nat):=by
 rw[ybG ha hb];unfold Zx Zq;split
 ·split <;> split <;> lia
 ·split <;> split <;> lia
theorem YbV(a b:Nat):(if((a:Int)-b)<0 then -((a:Int)-b) else(a:Int)-b)=(Zq a b:Nat):=by
 unfold Zq;split <;> lia
theorem rnd_I{H a b:Nat}(ha:a<H)(hb:b<H):(if(H:Int)-(Zq a b:Nat)<(Zq a b:Nat) then(H:Int)-(Zq a b:Nat) else((Zq a b:Nat):Int))=(Zx H (Zq a b):Nat):=by
 unfold Zx Zq;split <;> split <;> lia
noncomputable def Qw:Nat->List Nat->Nat
 |m,[]=>m
 |m,x::r=>Qw (if x>m then x else m) r
noncomputable def ZA(k:Nat):List Nat->Option Nat
 |[]=>none
 |x::r=>if x=k then some 0 else(ZA k r).map (· + 1)
theorem yav:∀(r:List Nat)(m:Nat),YX (m:Int) (r.map λx:Nat=>(x:Int))=(Qw m r:Nat)
 |[],m=>rfl
 |x::r,m=>by
  simp only[Wd,YX,Qw];by_cases h:x>m
  ·rw[if_pos h,if_pos (by lia)];exact yav r x
  ·rw[if_neg h,if_neg (by lia)];exact yav r m
theorem qap(k:Nat):∀ r:List Nat,L3.idxI (k:Int) (r.map λx:Nat=>(x:Int))=ZA k r
 |[]=>rfl
 |x::r=>by
  simp only[Wd,L3.idxI,ZA,qap k r];by_cases h:x=k
  ·rw[if_pos h,if_pos (by lia)]
  ·rw[if_neg h,if_neg (by lia)]
theorem Zae:∀(r:List Nat)(m:Nat),Qw m r∈m::r
 |[],m=>by simp[Qw]
 |x::r,m=>by
  unfold Qw;by_cases h:x>m
  ·rw[if_pos h];exact We _ (Zae r x)
  ·rw[if_neg h]
   rcases Ua.mp (Zae r m) with e|e
   ·rw[e];exact Uh
   ·exact We _ (We _ e)
theorem Z4{k:Nat}:∀{r:List Nat},k∈r->∃ j,ZA k r=some j/\j<r.length
 |[],h=>by simp at h
 |x::r,h=>by
  unfold ZA;by_cases e:x=k
  ·exact⟨0,by rw[if_pos e],by simp⟩
  ·rcases Ua.mp h with rfl|h
   ·exact absurd rfl e
   ·obtain⟨j,e1,e2⟩:=Z4 h;exact⟨j+1,by rw[if_neg e,e1];rfl,by simpa using e2⟩
noncomputable def spot:List Nat->Nat
 |[]=>0
 |x::r=>(ZA (Qw x r) (x::r)).getD 0
theorem zv(x:Nat)(r:List Nat):ZA (Qw x r) (x::r)=some (spot (x::r))/\spot (x::r)<(x::r).length:=by
 obtain⟨j,e1,e2⟩:=Z4 (Zae r x);show ZA (Qw x r) (x::r)=some ((ZA (Qw x r) (x::r)).getD 0)/\(ZA (Qw x r) (x::r)).getD 0<_;rw[e1];exact⟨rfl,e2⟩
noncomputable def yy(H W:Nat)(cells:List (Nat×Nat))(st:List Nat×List Nat)(k:Nat):List Nat×List Nat :=
 (st.1.set (spot st.2) k,ui (λa b=>if b<a then b else a) st.2 (cells.map λc=>dN H W c (cells.getD (spot st.2) (0,0))))
noncomputable def Yi(H W:Nat)(cells:List (Nat×Nat)):Nat->List Nat×List Nat
 |0=>(Xa cells.length 0,Xa cells.length (H*H+W*W))
 |k+1=>yy H W cells (Yi H W cells k) (k+1)
theorem yO(H W:Nat)(cells:List (Nat×Nat)):∀ k,(Yi H W cells k).1.length=cells.length/\(Yi H W cells k).2.length=cells.length
 |0=>by simp[Yi]
 |k+1=>by
  obtain⟨a,b⟩:=yO H W cells k;simp[Yi,yy,a,b]
noncomputable def Qs(H W:Nat):List (List Nat):=(xa H).map λi=>((Yi H W (Za H W) (H*W)).1.drop (i*W)).take W
noncomputable def Q8(H W:Nat)(st:List (Nat×Nat)×List Nat×List ((Nat×Nat)×Nat)):List (Nat×Nat)×List Nat×List ((Nat×Nat)×Nat) :=
 let s:=spot st.2.1
 let c:=st.1.getD s (0,0)
 let l:=st.1.take s++st.1.drop (s+1)
 (l,ui (λa b=>if b<a then b else a) (st.2.1.take s++st.2.1.drop (s+1)) (l.map λq=>dN H W c q),st.2.2++[(c,st.2.1.getD s 0)])
noncomputable def zu(H W:Nat):Nat->List (Nat×Nat)×List Nat×List ((Nat×Nat)×Nat)
 |0=>(Za H W,Xa (H*W) (H*H+W*W),[])
 |k+1=>Q8 H W (zu H W k)
section
variable (n:Nat) (h:MH)
theorem Yas(b1 b2:Bool)(rows:List (List Int))(hl:rows.length<=sizeL):run prog (n+1) "own_rows" [.f (zj b1 b2 rows)] h=.ok (.f (zj true true rows)) h:=by
 simp[Qe,yD,Qav,zj,stM];rw[Zh (e:=MV.f∘zg b2) (g:=MV.f∘zg true) rows [] none (by simpa using hl) (λy _ z=>⟨_,by simp[Zi,zg];exact⟨rfl,rfl⟩⟩)];simp[zj,zg,sq]
theorem zaV(least most:Int)(rows:List (List Int))(g:GoodT least most rows):run prog (n+1) "fault_of" [.f (zj true true rows),I least,I most] h=.ok (.f .non) h:=by
 obtain⟨m1,ne,⟨w,w0,hw⟩,sh,sz⟩:=g;cases rows with
 |nil=>exact absurd rfl ne
 |cons r0 rs =>
  have hr0:=hw r0 (by simp);have e1:¬ most<1:=by lia
  have e2:r0≠[]:=by intro e;subst e;simp at hr0;lia
  have e7:Zc h (.f (zg true r0))=some (r0.map (MV.f∘FV.int)):=by simp[zg]
  simp[Qe,QB,e1,zj,e7,e2];rw[<- Vr (f:=MV.f) (g:=zg true),<- Wd (f:=MV.f∘zg true),qam (e:=MV.f∘zg true) (st:=λz=>[some (.f (sq true (zg true r0::rs.map (zg true)))),some (I least),some (I most),z]) (hp:=λ_=>h) (f:=λ_ r=>some (.f (zg true r))) _ none]
  ·simp
  ·intro r hr z;have e3:=hw r hr;have e4:r≠[]:=by intro e;subst e;simp at e3;lia
   have e5:¬ Zbj r<least:=by have:=sh r hr _ (qaz e4);lia
   have e6:¬ most<Qbo r:=by have:=sh r hr _ (ZaA e4);lia
   have q1:=zaD true h (.f (zg true r)) r (by simp[zg]) e4;have q2:=Y8 true h (.f (zg true r)) r (by simp[zg]) e4;have q3:Zc h (.f (zg true r))=some (r.map (MV.f∘FV.int)):=by simp[zg]
   simp[zE,q1,q2,q3,e5,e6,e7,e3,hr0]
theorem yaf(count:Int)(b1 b2:Bool)(rows:List (List Int))(g:GoodT 1 count rows):run prog (n+2) "Tile.__init__" [.ref h.length,I count,.f (zj b1 b2 rows)] (h++[.obj "Tile" []]) =
  .ok (.f .non) (h++[.obj "Tile" [("count",I count),("rows",.f (zj true true rows))]]):=by
 have hz:rows.length<=sizeL:=Xe g.sz (by decide);have t:=TrOk.obj h "Tile" [("count",.int count),("rows",zj true true rows)] [];simp only[Wd,Vm] at t;simp[Qe n.succ,Yl,Yas _ _ b1 b2 rows hz,zaV _ _ 1 count rows g,zq,t];exact vk (by simp)
theorem Za6(count:Int)(b1 b2:Bool)(rows:List (List Int))(g:GoodT 1 count rows):qV prog (run prog (n+2)) true "Tile" [I count,.f (zj b1 b2 rows)] h=.ok (.f (Yo count rows)) h:=by
 simp[qV,yaf n h count b1 b2 rows g,TrOk.app,Yo,qk]
end
end MP
end
section
namespace MP
open PySem
theorem qaA(h:MH)(a:Nat)(xs:List FV):lmV "extend" (.ref a) [.f (.lst xs)] h=opt (Ya h a) λys=>if ys.length+xs.length<=sizeL then .ok (.f .non) (Zb h a (ys++xs.map .f)) else .stuck:=by
 have:lmV "extend" (.ref a) [.f (.lst xs)] h=opt (Ya h a) λys=>opt (listOf h (.f (.lst xs))) λzs=>if ys.length+zs.length<=sizeL then .ok (.f .non) (Zb h a (ys++zs)) else .stuck:=rfl;rw[this];cases Ya h a with
 |none=>rfl
 |some ys=>simp
theorem yZ(n a:Nat):Zx n a<=n:=by unfold Zx;split <;> lia
theorem YV(x:Nat)(hx:x<=1000)(hh:MH):Yg true .mul (I (x:Nat)) (I (x:Nat)) hh=.ok (I ((x:Int)*x)) hh:=Q0 _ _ _ (by unfold qP;lia)
section
variable (n:Nat) (h:MH)
theorem Qaj{H a b:Nat}(ha:a<H)(hb:b<H):run prog (n+1) "round_edge" [I (Zq a b:Nat),I H] h=.ok (I (Zx H (Zq a b):Nat)) h:=by
 have e:=rnd_I ha hb;rw[Z5];simp only[d_round_edge];simp[Yan,e]
theorem Qao{H W:Nat}(p q:Nat×Nat)(p1:p.1<H)(p2:p.2<W)(q1:q.1<H)(q2:q.2<W)(hH:H<=1000)(hW:W<=1000):run prog (n+2) "distance" [.f (qa p),.f (qa q),I H,I W] h=.ok (I (dN H W p q:Nat)) h:=by
 have e1:=λhh=>Qaj n hh p1 q1;have e2:=λhh=>Qaj n hh p2 q2;have a1:=YbV p.1 q.1;have a2:=YbV p.2 q.2;have m1:=YV (Zx H (Zq p.1 q.1)) (Xe (yZ _ _) hH);have m2:=YV (Zx W (Zq p.2 q.2)) (Xe (yZ _ _) hW);rw[Qat];simp only[d_distance];simp[qa,qbn,a1,a2,e1,e2,dN,m1,m2]
theorem Qba(xs:List FV):zq h (.ref h.length) (h++[.lst (xs.map .f)])=.ok (.ref h.length) (h++[.lst (xs.map .f)]):=by
 have cl:=Zj h [] (xs.map MV.f);have tr:=TrOk.app h [.lst (xs.map MV.f)];have ef:=yan xs;generalize xs.map MV.f=M at *;simp[zq,cl,tr,ef]
theorem ZN(H W:Nat)(hHW:H*W<=100000)(hW:W<=10000)(hH:H<=10000):run prog (n+1) "cells_by_rows" [I H,I W] h=.ok (.ref h.length) (h++[.lst (((Za H W).map qa).map .f)]):=by
 refine Ret.eq λQ hQ=>?_;rw[qN];simp only[d_cells_by_rows];simp[Zk _ (H:Int) (by lia)];refine ZU (Q:=λr=>Ret (Yf _ r) _) H (λi σ hh=>∃(z3:Option MV),hh=h++[.lst (((Za i W).map qa).map .f)]/\σ=[some (I H),some (I W),some (.ref h.length),z3]) ⟨none,by simp[Za],rfl⟩ ?_ ?_
 ·rintro i σ hh hil ⟨z3,rfl,rfl⟩ Q hQ;have nx:((Za (i+1) W).map qa).map MV.f=((Za i W).map qa).map MV.f++(((xa W).map λc=>qa (i,c)).map MV.f):=by
   unfold Za;rw[Vs,vw,uk,uk];simp[Vf]
  simp only[nx] at hQ;have ml:(((Za i W).map qa).map MV.f).length+((xa W).map λc=>qa (i,c)).length<=sizeL:=by
   have:i*W<=H*W:=WD _ (by lia);simp[Zm,Ze];lia
  generalize ((Za i W).map qa).map MV.f=M at *;have cl:=Zj h [] M;have st:=λys=>qU h [] M ys;simp[zE,cl,Zk _ (W:Int) (by lia),MP.stM];rw[Zh (e:=λk:Nat=>I k) (g:=λc=>MV.f (qa (i,c))) (xa W) [] none (by simp[Ze];lia) (λc _ z=>⟨some (I c),by simp[Zi]⟩)];have e2:(xa W).map (λc=>MV.f (qa (i,c)))=((xa W).map λc=>qa (i,c)).map MV.f:=by simp[Vf]
  simp only[wg,R.bind_ok,e2,qb];generalize (xa W).map (λc=>qa (i,c))=L at *;simp[qaA,cl,ml,st];exact hQ _ _ ⟨_,rfl,rfl⟩
 ·rintro σ hh ⟨z3,rfl,rfl⟩;have lv:=Qba h ((Za H W).map qa);generalize ((Za H W).map qa).map MV.f=M at *;simp[lv];exact hQ _ _ ⟨rfl,rfl⟩
end
noncomputable def yg(l:List Nat):FV:=.lst (l.map λd:Nat=>.int d)
theorem zR(l:List Nat)(hh:MH):Zc hh (.f (yg l))=some (l.map λd:Nat=>I d):=by simp[yg]
theorem zn(l:List Nat)(hh:MH):listOf hh (.f (yg l))=some (l.map λd:Nat=>I d):=by simp[yg]
theorem Zp:∀ l:List Nat,Qd (l.map λd:Nat=>I d)=some (l.map λd:Nat=>(d:Int))
 |[]=>rfl
 |x::r=>by simp only[Wd,Qd,Zp r,vn]
theorem QaA(x:Nat)(r:List Nat)(hh:MH):qs true "max" [.f (yg (x::r))] hh=.ok (I (Qw x r:Nat)) hh:=by
 rw[Y8 true hh _ ((x::r).map λd:Nat=>(d:Int)) (by rw[zR,xk,Zp]) (by simp)];rw[<- yav];rfl
theorem Zaz(x:Nat)(r:List Nat)(hh:MH):QP .idx (.f (yg (x::r))) (I (Qw x r:Nat)) hh=.ok (I (spot (x::r):Nat)) hh:=by
 show opt ((listOf hh _).bind Qd) _=_;rw[zn,xk,Zp];show opt (L3.idxI _ _) _=_;rw[qap,(zv x r).1];rfl
theorem qay(l:List Nat)(hh:MH):t2g .idx (.f (yg l)) hh=some ⟨#[]⟩:=by rw[ZbB,zn];rfl
theorem yby(a b:Nat)(hh:MH):qs true "min" [.f (.tup [.int a,.int b])] hh=.ok (I ((if b<a then b else a:Nat):Nat)) hh:=by
 rw[zaD true hh _ [(a:Int),(b:Int)] (by simp) (by simp)];show R.ok (I (if(b:Int)<a then b else a)) hh=_;by_cases c:b<a
 ·rw[if_pos c,if_pos (by lia)]
 ·rw[if_neg c,if_neg (by lia)]
theorem Qbx(l m:List Nat):((l.map λd:Nat=>I d).zip (m.map λd:Nat=>I d)).map (λp=>yi [p.1,p.2])=(l.zip m).map λp:Nat×Nat=>MV.f (.tup [.int p.1,.int p.2]):=by
 rw[List.zip_map,vg];rfl
theorem ZbC(l m:List Nat):(l.zip m).map (λp:Nat×Nat=>I ((if p.2<p.1 then p.2 else p.1:Nat):Nat))=(ui (λa b=>if b<a then b else a) l m).map λd:Nat=>I d:=by
 rw[List.zip_eq_zipWith,VH,VH]
theorem qA{H W:Nat}{c:Nat×Nat}(h:c∈Za H W):c.1<H/\c.2<W:=by
 unfold Za at h;simp only[uA,Wi,Vl] at h;obtain⟨r,hr,k,hk,rfl⟩:=h;exact⟨hr,hk⟩
theorem Qbn(g:MH)(xs:List FV)(t:MH):YR (.ref g.length) (g++.lst (xs.map .f)::t)=.ok (.f (.lst xs)) (g++.dead::t):=by
 rw[YaC _ _ xs (Zj g t (xs.map MV.f))]
 congr 1
 refine Wm λi=>?_;unfold kill;rw[wr];by_cases q:i=g.length
 ·subst q;simp
 ·by_cases q2:i<g.length
  ·simp[xb q2,q]
  ·have e:∀ c:Cell,(g++c::t)[i]?=t[i-g.length-1]?:=λc=>by
    rw[uc (by lia),List.getElem?_cons,if_neg (by lia)]
   rw[e,e];cases t[i-g.length-1]? <;> simp[q]
noncomputable def kW(k W:Nat):Int:=((k*W:Nat):Int)
noncomputable def spR(H W:Nat):List (List Int):=(Qs H W).map λr=>r.map λx:Nat=>(x:Int)
section
variable (n:Nat) (h:MH)
theorem qr{H W:Nat}(h1:1<=H)(w1:1<=W)(hH:H<=1000)(hW:W<=1000)(hHW:H*W<=10000)(g:GoodT 1 (H*W:Nat) (spR H W)):run prog (n+3) "spread_tile" [I H,I W] h=.ok (.f (Yo (H*W:Nat) (spR H W))) h:=by
 have pos:0<H*W:=Wx h1 w1;have C:=ZN (n+1) h H W (by lia) (by lia) (by lia);have F:=Qbn h ((Za H W).map qa) [];rw[vg] at F;have m1:=YV H (by lia);have m2:=YV W (by lia);have MT:=λhh=>Za6 n hh (H*W:Nat) false false (spR H W) g;have cl:=Zm H W;have ci:∀ c∈Za H W,c.1<H/\c.2<W:=λc hc=>qA hc;generalize hc:Za H W=cs at *;have q:∀ hh,Zc hh (.f (.lst (cs.map qa)))=some (cs.map (MV.f∘qa)):=λhh=>by simp
 have lc:Ya (h++[.dead,.lst ((Xa cs.length 0).map λd:Nat=>I d)]) (h.length+1)=some ((Xa cs.length 0).map λd:Nat=>I d):=by
  have:=Zj (h++[.dead]) [] ((Xa cs.length 0).map λd:Nat=>I d);simpa using this
 refine Ret.eq λQ hQ=>?_;rw[qE];simp only[d_spread_tile];have b1:∀ hh,Yg false .mul (.f (.lst [.int 0])) (I ((cs.length:Nat):Int)) hh=yk false ((Xa cs.length 0).map λd:Nat=>I d) hh:=λhh=>by
  have e:(Xa cs.length [MV.f (.int (0:Int))]).flatten=(Xa cs.length 0).map λd:Nat=>I d:=by
   rw[uo];simp
  have c:-(2^63)<=((cs.length:Nat):Int)/\((cs.length:Nat):Int)<2^63/\1*((cs.length:Nat):Int).toNat<=sizeL:=⟨by lia,by lia,by rw[Ze];lia⟩;unfold Yg;simp only[yb,listOf,qe,Wd,Vm,Ue,Wp,Uj];rw[if_pos c,ug,e]
 have b2:∀ hh,Yg true .mul (.f (.lst [.int ((H:Int)*H+(W:Int)*W)])) (I ((cs.length:Nat):Int)) hh=.ok (.f (yg (Xa cs.length (H*H+W*W)))) hh:=λhh=>by
  have e:(Xa cs.length [MV.f (.int ((H:Int)*H+(W:Int)*W))]).flatten=((Xa cs.length (H*H+W*W)).map λd:Nat=>FV.int d).map MV.f:=by
   rw[uo];simp
  have c:-(2^63)<=((cs.length:Nat):Int)/\((cs.length:Nat):Int)<2^63/\1*((cs.length:Nat):Int).toNat<=sizeL:=⟨by lia,by lia,by rw[Ze];lia⟩;unfold Yg;simp only[yb,listOf,qe,Wd,Vm,Ue,Wp,Uj];rw[if_pos c,ug,e,qb];rfl
 have n1:¬((H:Int)<1):=by lia
 have n2:¬((W:Int)<1):=by lia
 have r2:∀ hh,itV "range" [I 1,I ((cs.length:Int)+1)] hh=some ((xa cs.length).map λk:Nat=>I (1+(k:Int)),[]):=λhh=>by
  have e:((cs.length:Int)+1-1).toNat=cs.length:=by lia
  rw[zab hh 1 ((cs.length:Int)+1) (by lia),e]
 simp[n1,n2,C,F,q,m1,m2,b1,b2,r2,qk,-Vx];have cl2:∀ ys:List MV,Ya (h++[.dead,.lst ys]) (h.length+1)=some ys:=λys=>by have:=Zj (h++[.dead]) [] ys;simpa using this
 have st2:∀ ys zs:List MV,Zb (h++[.dead,.lst ys]) (h.length+1) zs=h++[.dead,.lst zs]:=λys zs=>by have:=qU (h++[.dead]) [] ys zs;simpa using this
 refine ZaF (Q:=λr=>Ret (Yf _ r) _) (e:=λk:Nat=>I (1+(k:Int))) (xa cs.length) (λi σ hh=>∃(z5 z6 z7:Option MV),hh=h++[.dead,.lst ((Yi H W cs i).1.map λd:Nat=>I d)]/\σ=[some (I H),some (I W),some (.f (.lst (cs.map qa))),some (.ref (h.length+1)),some (.f (yg (Yi H W cs i).2)),z5,z6,z7]) ?_ ?_ ?_
 ·exact⟨none,none,none,rfl,rfl⟩
 ·rintro i y σ hh hi ⟨z5,z6,z7,rfl,rfl⟩ Q hQ;obtain(⟨hil,rfl⟩):i<cs.length/\i=y:=by
   obtain(⟨a,b⟩):=ua.mp hi;rw[wt] at b;exact⟨by simpa using a,b⟩
  obtain(⟨g1,g2⟩):=yO H W cs i;have gs:Yi H W cs (i+1)=yy H W cs (Yi H W cs i) (i+1):=rfl;rw[gs] at hQ;generalize Yi H W cs i=st at *;obtain(⟨nu,ne⟩):=st;simp only[yy] at hQ g1 g2 ⊢;cases ne with
  |nil=>simp at g2;lia
  |cons x r =>
   have MX:=QaA x r;have IX:=Zaz x r;have TG:=qay (x::r);obtain(⟨_,sl⟩):=zv x r;generalize x::r=ne at *;generalize spot ne=pl at *;have pl2:pl<cs.length:=by lia
   have ix:ixM nu.length (pl:Int)=some pl:=by unfold ixM;rw[if_pos (by lia),if_pos (by lia)];simp
   have at1:atM (cs.map (MV.f∘qa)) (pl:Int)=some (.f (qa (cs.getD pl (0,0)))):=by
    rw[zN _ _ (by lia),ug,Vc,Wc pl2];simp[we,pl2]
   have cp:=ci (cs.getD pl (0,0)) (by simp[we,pl2]);generalize cs.getD pl (0,0)=c0 at *;have sn:=zR;have D:=λ(c:Nat×Nat)(hc:c∈cs) hh=>Qao (n:=n) (h:=hh) c c0 (ci c hc).1 (ci c hc).2 cp.1 cp.2 (by lia) (by lia);simp[zE,MX,IX,zn,cl2,st2,ix,q,MP.stM];rw[Zh (e:=MV.f∘qa) (g:=λc=>I (dN H W c c0:Nat)) cs [] none (by simp[Ze];lia) (λc hc z=>⟨some (.f (qa c)),by simp[Zi,q,at1,D c hc]⟩)];have e1:cs.map (λc=>I (dN H W c c0:Nat))=((cs.map λc=>dN H W c c0).map λd:Nat=>FV.int d).map MV.f:=by simp[Vf]
   simp only[wg,R.bind_ok,e1,qb];have nv:FV.lst ((cs.map λc=>dN H W c c0).map λd:Nat=>FV.int d)=yg (cs.map λc=>dN H W c c0):=rfl;rw[nv];have gl:(cs.map λc=>dN H W c c0).length=cs.length:=by simp
   generalize (cs.map λc=>dN H W c c0)=ap at *;simp[zR,Qbx,MP.stM];have zl:(ne.zip ap).length<=10000:=by rw[XB];lia
   rw[Zh (e:=λp:Nat×Nat=>MV.f (.tup [.int p.1,.int p.2])) (g:=λp:Nat×Nat=>I ((if p.2<p.1 then p.2 else p.1:Nat):Nat)) (ne.zip ap) [] none (by rw[Ze];simp only[Wp];lia) (λp _ z=>⟨some (.f (.tup [.int p.1,.int p.2])),by have:=yby p.1 p.2;generalize (if p.2<p.1 then p.2 else p.1)=m at *;simp[Zi,this]⟩)];rw[ZbC];have e2:∀ l:List Nat,l.map (λd:Nat=>I d)=(l.map λd:Nat=>FV.int d).map MV.f:=λl=>by simp[Vf]
   have e3:(nu.map λd:Nat=>I d).set pl (I (1+(i:Int)))=(nu.set pl (i+1)).map λd:Nat=>I d:=by
    have e4:(1+(i:Int))=((i+1:Nat):Int):=by lia
    rw[e4,xw]
   rw[wg,e2 (ui _ ne ap),e3];simp only[R.bind_ok,qb];have nz:∀ l:List Nat,FV.lst (l.map λd:Nat=>FV.int d)=yg l:=λl=>rfl;rw[nz];generalize (nu.set pl (i+1)).map (λd:Nat=>I d)=nn at *;generalize ui (λa b=>if b<a then b else a) ne ap=zz at *;simp;exact hQ _ _ ⟨_,_,_,rfl,rfl⟩
 ·rintro σ hh ⟨z5,z6,z7,rfl,rfl⟩;have LR:=Wz (n:=cs.length);rw[LR];obtain(⟨g1,g2⟩):=yO H W cs cs.length;have r3:∀ hh,itV "range" [I 0,I ((cs.length:Nat):Int),I W] hh=some ((xa H).map λk:Nat=>I (kW k W),[]):=λhh=>by
   rw[cl,yaT hh 0 ((H*W:Nat):Int) W (by lia)];have e:rlen 0 ((H*W:Nat):Int) W=H:=by
    unfold rlen;rw[if_pos (by lia)];have:(((H*W:Nat):Int)-0-1)/W=H-1:=by
     rw[show(((H*W:Nat):Int)-0-1)=(W-1:Int)+(H-1:Int)*W by rw[Int.sub_mul];lia,Int.add_mul_ediv_right _ _ (by lia),Int.ediv_eq_zero_of_lt (by lia) (by lia)];lia
    rw[this];lia
   rw[e];simp[kW]
  have hc2:(Yi H W cs cs.length).1=(Yi H W (Za H W) (H*W)).1:=by rw[hc,cl]
  generalize (Yi H W cs cs.length).1=nu at *;generalize (Yi H W cs cs.length).2=ne at *;have sl:∀ k:Nat,Y9 true (.ref (h.length+1)) (some (kW k W)) (some (kW k W+W)) (h++[.dead,.lst (nu.map λd:Nat=>I d)])=.ok (.f (zg false (((nu.drop (k*W)).take W).map λd:Nat=>(d:Int)))) (h++[.dead,.lst (nu.map λd:Nat=>I d)]):=λk=>by
   have e:yai (nu.map λd:Nat=>I d) (some (kW k W)) (some (kW k W+W))=((((nu.drop (k*W)).take W).map λd:Nat=>(d:Int)).map FV.int).map MV.f:=by
    unfold kW;rw[ybO _ _ _ (by lia) (by lia),show((((k*W:Nat):Int)+W).toNat-((k*W:Nat):Int).toNat)=W by lia,ug];simp[Vf]
   have sq0:Zc (h++[.dead,.lst (nu.map λd:Nat=>I d)]) (.ref (h.length+1))=some (nu.map λd:Nat=>I d):=by
    have:=cl2 (nu.map λd:Nat=>I d);simp[this]
   show opt (Zc (h++[.dead,.lst (nu.map λd:Nat=>I d)]) (.ref (h.length+1))) (λxs=>yk true (yai xs (some (kW k W)) (some (kW k W+W))) _)=_;rw[sq0,qe,e,qb];rfl
  have rr:spR H W=(xa H).map λk=>((nu.drop (k*W)).take W).map λd:Nat=>(d:Int):=by
   unfold spR Qs;rw[<- hc2,vg];rfl
  generalize hg:h++[.dead,.lst (nu.map λd:Nat=>I d)]=gg at *;simp[q,r3,MP.stM];rw[Zh (e:=λk:Nat=>I (kW k W)) (g:=λk:Nat=>.f (zg false (((nu.drop (k*W)).take W).map λd:Nat=>(d:Int)))) (xa H) [] none (by simp[Ze];lia) (λk _ z=>⟨some (I (kW k W)),by simp[Zi,sl k]⟩)];have e5:(xa H).map (λk:Nat=>MV.f (zg false (((nu.drop (k*W)).take W).map λd:Nat=>(d:Int))))=((spR H W).map (zg false)).map MV.f:=by
   rw[rr,vg,vg];rfl
  rw[wg,e5];simp only[R.bind_ok,qb];have e6:FV.lst ((spR H W).map (zg false))=zj false false (spR H W):=rfl;rw[e6];have MT':=MT gg;rw[<- cl] at MT' hQ;generalize zj false false (spR H W)=rv at *;generalize Yo _ (spR H W)=tv at *;simp[MT'];subst hg;rw[Zan];simp;exact hQ _ _ ⟨rfl,rfl⟩
end
end MP
end
section
namespace MP
open PySem
section
variable (n:Nat) (h:MH)
theorem Qa2{H W:Nat}(p q:Nat×Nat)(p1:p.1<H)(p2:p.2<W)(q1:q.1<H)(q2:q.2<W)(hH:H<=1000)(hW:W<=1000):run prog (n+1) "_law_far" [.f (qa p),.f (qa q),I H,I W] h=.ok (I (dN H W p q:Nat)) h:=by
 have a1:=Za3 p1 q1;have a2:=Za3 p2 q2;have b1:∀ hh,Yg true .mod (I ((p.1:Int)-q.1)) (I H) hh=.ok (I (((p.1:Int)-q.1)%H)) hh:=λhh=>Yp _ _ _ (by lia);have b2:∀ hh,Yg true .mod (I ((p.2:Int)-q.2)) (I W) hh=.ok (I (((p.2:Int)-q.2)%W)) hh:=λhh=>Yp _ _ _ (by lia);have m1:=YV (Zx H (Zq p.1 q.1)) (Xe (yZ _ _) hH);have m2:=YV (Zx W (Zq p.2 q.2)) (Xe (yZ _ _) hW);rw[Yao];simp only[d__law_far];simp[qa,Yan,b1,b2,a1,a2,dN,m1,m2]
end
theorem Y0{g:MH}{a:Nat}{xs:List MV}(e:Ya g a=some xs):a<g.length:=by
 unfold Ya at e;split at e
 next q=>exact(ua.mp q).1
 next=>cases e
theorem yab{g:MH}{a:Nat}{xs:List MV}(e:Ya g a=some xs)(ys:List MV):Ya (Zb g a ys) a=some ys:=by
 have:=Y0 e;unfold Ya Zb;rw[uf this]
theorem QJ{g:MH}{a b:Nat}(ne:a≠b)(ys:List MV):Ya (Zb g a ys) b=Ya g b:=by
 unfold Ya Zb;rw[Ve ne]
theorem zar{h t:MH}{a:Nat}(ha:h.length<=a)(ys:List MV):∃ t',Zb (h++t) a ys=h++t':=⟨t.set (a-h.length) (.lst ys),by unfold Zb;rw[Vu _ _ ha]⟩
theorem ybv{g:MH}{a k:Nat}{xs:List MV}{y:MV}(e:Ya g a=some xs)(hk:xs[k]?=some y)(hl:xs.length<=10000):lmV "pop" (.ref a) [I (k:Nat)] g=.ok y (Zb g a (xs.take k++xs.drop (k+1))):=by
 have kl:=(ua.mp hk).1;have ix:ixM xs.length (k:Int)=some k:=by unfold ixM;rw[if_pos (by lia),if_pos (by lia)];simp
 show opt (Ya g a) (λxs=>opt (yb (I (k:Nat))) λi=>opt (ixM xs.length i) λk=>opt (xs[k]?) λy=>if -(2^63)<=i/\i<2^63 then .ok y (Zb g a (xs.take k++xs.drop (k+1))) else .stuck)=_;rw[e];simp only[qe,yb,ix,hk];rw[if_pos ⟨by lia,by lia⟩]
theorem ybL{g:MH}{b x:Nat}{r:List Nat}(e:Ya g b=some ((x::r).map λd:Nat=>I d)):QP .idx (.ref b) (I (Qw x r:Nat)) g=.ok (I (spot (x::r):Nat)) g:=by
 show opt ((Ya g b).bind Qd) _=_;rw[e,xk,Zp];show opt (L3.idxI _ _) _=_;rw[qap,(zv x r).1];rfl
theorem QbK{g:MH}{b x:Nat}{r:List Nat}(e:Ya g b=some ((x::r).map λd:Nat=>I d)):qs true "max" [.ref b] g=.ok (I (Qw x r:Nat)) g:=by
 rw[Y8 true g _ ((x::r).map λd:Nat=>(d:Int)) (by show(Ya g b).bind Qd=_;rw[e,xk,Zp]) (by simp)];rw[<- yav];rfl
theorem qaa(H W:Nat):∀ k,k<=H*W->(zu H W k).1.length=H*W-k/\(zu H W k).2.1.length=H*W-k/\(zu H W k).2.2.length=k/\∀ c∈(zu H W k).1,c.1<H/\c.2<W
 |0,_=>⟨by simp[zu,Zm],by simp[zu],rfl,λc hc=>qA hc⟩
 |k+1,hk=>by
  obtain(⟨a,b,c,d⟩):=qaa H W k (by lia);have gs:zu H W (k+1)=Q8 H W (zu H W k):=rfl;rw[gs];generalize zu H W k=st at *;obtain(⟨l,ne,f⟩):=st;simp only at a b c d;cases ne with
  |nil=>simp at b;lia
  |cons x r =>
   obtain(⟨_,sl⟩):=zv x r;simp only[Q8];generalize x::r=ne at *;generalize spot ne=s at *;have h1:(l.take s++l.drop (s+1)).length=H*W-(k+1):=by simp;lia
   have h2:(ne.take s++ne.drop (s+1)).length=H*W-(k+1):=by simp;lia
   refine⟨h1,by simp only[UD,xc,h1,h2];lia,by simp[c],λq hq=>d q ?_⟩
   rcases xg.mp hq with hq|hq
   ·exact xD hq
   ·exact XD hq
noncomputable def QT(p:(Nat×Nat)×Nat):FV:=.tup [qa p.1,.int p.2]
section
variable (n:Nat) (h:MH)
theorem Yae{H W:Nat}(h1:1<=H)(w1:1<=W)(hH:H<=100)(hW:W<=100):run prog (n+2) "_law_spread" [I H,I W] h=.ok (.f (.lst ((zu H W (H*W)).2.2.map QT))) h:=by
 have hHW:H*W<=10000:=vC hH hW;have m1:=YV H (by lia);have m2:=YV W (by lia);refine Ret.eq λQ hQ=>?_;rw[zX];simp only[d__law_spread];simp[Zk _ (H:Int) (by lia)];refine ZU (Q:=λr=>Ret (Yf _ r) _) H (λi σ hh=>∃(t:MH)(a:Nat)(z3:Option MV),hh=h++t/\h.length<=a/\Ya hh a=some ((Za i W).map (MV.f∘qa))/\σ=[some (I H),some (I W),some (.ref a),z3,none,none,none,none]) ⟨_,h.length,none,rfl,wb _,Zj h [] [],rfl⟩ ?_ ?_
 ·rintro i σ hh hil ⟨t,a,z3,rfl,ha,ea,rfl⟩ Q hQ;have nx:(Za (i+1) W).map (MV.f∘qa)=(Za i W).map (MV.f∘qa)++((xa W).map λc=>MV.f (qa (i,c))):=by
   unfold Za;rw[Vs,vw,uk];simp[Vf]
  rw[nx] at hQ;have ml:((Za i W).map (MV.f∘qa)).length+((xa W).map λc=>MV.f (qa (i,c))).length<=sizeL:=by
   have:i*W<=H*W:=WD _ (by lia);simp[Zm,Ze];lia
  generalize (Za i W).map (MV.f∘qa)=M at *;simp[zE,Zk _ (W:Int) (by lia),MP.stM];rw[Zh (e:=λk:Nat=>I k) (g:=λc=>MV.f (qa (i,c))) (xa W) [] none (by simp[Ze];lia) (λc _ z=>⟨some (I c),by simp[Zi]⟩)];have e2:(xa W).map (λc=>MV.f (qa (i,c)))=((xa W).map λc=>qa (i,c)).map MV.f:=by simp[Vf]
  rw[e2] at ml hQ;simp only[wg,R.bind_ok,e2,qb];generalize (xa W).map (λc=>qa (i,c))=L at *;have ad:Yg false .add (.ref a) (.f (.lst L)) (h++t)=.ok (.ref (h++t).length) ((h++t)++[.lst (M++L.map MV.f)]):=by
   show opt (Ya (h++t) a) (λxs=>opt (some (L.map MV.f)) λys=>if xs.length+ys.length<=sizeL then yk false (xs++ys) (h++t) else .stuck)=_;rw[ea];simp only[qe];rw[if_pos ml];rfl
  have eb:=Zj (h++t) [] (M++L.map MV.f);generalize hg:M++L.map MV.f=MM at *;simp only[ad];simp;rw[Xf] at eb;refine hQ _ _ ⟨t++[.lst MM],h.length+t.length,_,by simp,by lia,?_,rfl⟩;simpa using eb
 ·rintro σ hh ⟨t,a,z3,rfl,ha,ea,rfl⟩;have gk:GuardOk (qd (h++t) (.ref a)) (h++t):=by
   show GuardOk (match Ya (h++t) a with|some xs=>[(a,xs)]|none=>[]) _;rw[ea];exact ZV ea
  have ml:((H:Int)*H+(W:Int)*W)=((H*H+W*W:Nat):Int):=by simp
  simp[ea,MP.stM];rw[QL (e:=MV.f∘qa) (g:=λ_=>I ((H*H+W*W:Nat):Int)) gk (Za H W) [] none (by simp[Ze,Zm];lia) (λc _ z=>⟨some (.f (qa c)),by rw[<- ml];simp[Zi,m1,m2]⟩)];have e1:(Za H W).map (λ_=>I ((H*H+W*W:Nat):Int))=(Xa (H*W) (H*H+W*W)).map λd:Nat=>I d:=by
   rw[Vx,<- Zm H W];exact List.map_const' ..
  simp only[wg,R.bind_ok,e1];have al:=Y0 ea;have hb:=Zj (h++t) [.lst []] ((Xa (H*W) (H*H+W*W)).map λd:Nat=>I d);have hc:=Zj (h++t++[.lst ((Xa (H*W) (H*H+W*W)).map λd:Nat=>I d)]) [] [];have ea2:=yM (t:=[.lst ((Xa (H*W) (H*H+W*W)).map λd:Nat=>I d),.lst []]) ea;generalize hN:(Xa (H*W) (H*H+W*W)).map (λd:Nat=>I d)=NN at *;simp;refine Qbt (Q:=λr=>Ret (Yf _ r) _) (H*W) (λi σ hh=>∃(t:MH)(a b c:Nat)(z3 z6 z7:Option MV),hh=h++t/\h.length<=a/\h.length<=b/\h.length<=c/\a≠b/\a≠c/\b≠c /\
   Ya hh a=some ((zu H W i).1.map (MV.f∘qa))/\Ya hh b=some ((zu H W i).2.1.map λd:Nat=>I d)/\Ya hh c=some ((zu H W i).2.2.map (MV.f∘QT)) /\
   σ=[some (I H),some (I W),some (.ref a),z3,some (.ref b),some (.ref c),z6,z7]) (by show H*W<1000000;lia) ?_ ?_ ?_ ?_
  ·simp at hc hb al;exact⟨t++[.lst NN,.lst []],a,h.length+t.length,h.length+t.length+1,z3,none,none,by simp,ha,by lia,by lia,by lia,by lia,by lia,by simpa[zu] using ea2,by simpa[zu,hN] using hb,by simpa[zu,uD] using hc,rfl⟩
  ·rintro i σ hh hi ⟨t,a,b,c,z3,z6,z7,rfl,ha,hb,hc,ab,ac,bc,ea,eb,ec,rfl⟩;obtain(⟨l1,l2,l3,l4⟩):=qaa H W i (by lia);have gs:zu H W (i+1)=Q8 H W (zu H W i):=rfl;rw[gs];generalize zu H W i=st at *;obtain(⟨lf,ne,fd⟩):=st;simp only at l1 l2 l3 l4 ea eb ec ⊢;refine⟨by simp[ea,l1];lia,λQ hQ=>?_⟩;cases ne with
   |nil=>simp at l2;lia
   |cons x r =>
    have MX:=QbK eb;have IX:=ybL eb;obtain(⟨_,sl⟩):=zv x r;simp only[Q8] at hQ;have EB:Ya (h++t) b=some ((x::r).map λd:Nat=>I d):=eb;generalize hne:x::r=ne at *;clear eb;generalize spot ne=s at *;generalize Qw x r=mx at *;have sl1:s<lf.length:=by lia
    have k1:(lf.map (MV.f∘qa))[s]?=some (.f (qa (lf.getD s (0,0)))):=by rw[Vc,Wc sl1];simp[we,sl1]
    have k2:(ne.map λd:Nat=>I d)[s]?=some (I (ne.getD s 0:Nat)):=by rw[Vc,Wc sl];simp[we,sl]
    have cb:=l4 (lf.getD s (0,0)) (by simp[we,sl1]);generalize lf.getD s (0,0)=cc at *;generalize ne.getD s 0=dd at *;have P1:=ybv ea k1 (by simp;lia);rw[<- List.map_take,<- List.map_drop,<- uk] at P1;have C1:=yab ea ((lf.take s++lf.drop (s+1)).map (MV.f∘qa));obtain(⟨t1,S1⟩):=zar (t:=t) ha ((lf.take s++lf.drop (s+1)).map (MV.f∘qa));have EB1:Ya (Zb (h++t) a ((lf.take s++lf.drop (s+1)).map (MV.f∘qa))) b=_:=(QJ ab _).trans EB;have EC1:Ya (Zb (h++t) a ((lf.take s++lf.drop (s+1)).map (MV.f∘qa))) c=_:=(QJ ac _).trans ec;rw[S1] at P1 C1 EB1 EC1;have P2:=ybv EB1 k2 (by simp;lia);rw[<- List.map_take,<- List.map_drop,<- uk] at P2;have C2:=yab EB1 ((ne.take s++ne.drop (s+1)).map λd:Nat=>I d);obtain(⟨t2,S2⟩):=zar (t:=t1) hb ((ne.take s++ne.drop (s+1)).map λd:Nat=>I d);have EA2:Ya (Zb (h++t1) b ((ne.take s++ne.drop (s+1)).map λd:Nat=>I d)) a=_:=(QJ ab.symm _).trans C1;have EC2:Ya (Zb (h++t1) b ((ne.take s++ne.drop (s+1)).map λd:Nat=>I d)) c=_:=(QJ bc _).trans EC1;rw[S2] at P2 C2 EA2 EC2;obtain(⟨t3,S3⟩):=zar (t:=t2) hc ((fd++[(cc,dd)]).map (MV.f∘QT));have AP:lmV "append" (.ref c) [.f (.tup [qa cc,.int dd])] (h++t2)=.ok (.f .non) (h++t3):=by
     show opt (Ya (h++t2) c) (λxs=>if xs.length<sizeL then R.ok (MV.f .non) (Zb (h++t2) c (xs++[.f (.tup [qa cc,.int dd])])) else .stuck)=_;rw[EC2];simp only[qe];rw[if_pos (by rw[xc,Ze];lia),<- S3];simp[QT]
    have EA3:Ya (Zb (h++t2) c ((fd++[(cc,dd)]).map (MV.f∘QT))) a=_:=(QJ ac.symm _).trans EA2;have EB3:Ya (Zb (h++t2) c ((fd++[(cc,dd)]).map (MV.f∘QT))) b=_:=(QJ bc.symm _).trans C2;have EC3:=yab EC2 ((fd++[(cc,dd)]).map (MV.f∘QT));rw[S3] at EA3 EB3 EC3;have ll:(lf.take s++lf.drop (s+1)).length=H*W-(i+1):=by simp;lia
    have ln:(ne.take s++ne.drop (s+1)).length=H*W-(i+1):=by simp;lia
    have lin:∀ q∈lf.take s++lf.drop (s+1),q.1<H/\q.2<W:=λq hq=>l4 q (by
     rcases xg.mp hq with hq|hq
     ·exact xD hq
     ·exact XD hq)
    generalize lf.take s++lf.drop (s+1)=lf' at *;generalize ne.take s++ne.drop (s+1)=ne' at *;have lm1:lmC (.ref a) (h++t)=some (lf.map (MV.f∘qa)):=ea;have lm2:lmC (.ref b) (h++t1)=_:=EB1;have lm3:lmC (.ref c) (h++t1)=_:=EC1;have LO:listOf (h++t) (.ref b)=_:=EB;have rg:=Zk (h++t3) ((lf'.length:Nat):Int) (by lia);simp[zE,LO,MX,IX,lm1,lm2,lm3,P1,P2,AP,MP.stM,EA3,rg];have at1:∀ k∈xa lf'.length,atM (ne'.map λd:Nat=>I d) (k:Int)=some (I (ne'.getD k 0:Nat)):=λk hk=>by
     have hk':k<ne'.length:=by have:=Wi.mp hk;lia
     rw[zN _ _ (by lia),ug,Vc,Wc hk'];simp[we,hk']
    have at2:∀ k∈xa lf'.length,atM (lf'.map (MV.f∘qa)) (k:Int)=some (.f (qa (lf'.getD k (0,0)))):=λk hk=>by
     have hk':k<lf'.length:=Wi.mp hk;rw[zN _ _ (by lia),ug,Vc,Wc hk'];simp[we,hk']
    have FR:∀ k∈xa lf'.length,run prog (n+1) "_law_far" [.f (qa cc),.f (qa (lf'.getD k (0,0))),I H,I W] (h++t3)=.ok (I (dN H W cc (lf'.getD k (0,0)):Nat)) (h++t3):=λk hk=>by
     have hk':k<lf'.length:=Wi.mp hk;have b:=lin (lf'.getD k (0,0)) (by simp[we,hk']);exact Qa2 n (h++t3) cc _ cb.1 cb.2 b.1 b.2 (by lia) (by lia)
    have mn:∀(u v:Nat),(if(v:Int)<u then(v:Int) else u)=((if v<u then v else u:Nat):Int):=λu v=>by
     by_cases c:v<u
     ·rw[if_pos c,if_pos (by lia)]
     ·rw[if_neg c,if_neg (by lia)]
    rw[Zh (e:=λd:Nat=>I d) (g:=λk:Nat=>I ((if dN H W cc (lf'.getD k (0,0))<ne'.getD k 0 then dN H W cc (lf'.getD k (0,0)) else ne'.getD k 0:Nat):Nat)) (xa lf'.length) [] none (by simp[Ze];lia) (λk hk z=>⟨some (I k),by
     have x1:=at1 k hk;have x2:=at2 k hk;have x3:=FR k hk;rw[<- mn];generalize dN H W cc (lf'.getD k (0,0))=u1 at *;generalize ne'.getD k 0=u2 at *;generalize lf'.getD k (0,0)=u3 at *;simp[Zi,EA3,EB3,x1,x2,x3]⟩)]
    have e9:(xa lf'.length).map (λk:Nat=>I ((if dN H W cc (lf'.getD k (0,0))<ne'.getD k 0 then dN H W cc (lf'.getD k (0,0)) else ne'.getD k 0:Nat):Nat))=(ui (λa b=>if b<a then b else a) ne' (lf'.map λq=>dN H W cc q)).map λd:Nat=>I d:=by
     refine Xo (by simp;lia) λk k1 k2=>?_;have k3:k<lf'.length:=by simpa using k1
     have k4:k<ne'.length:=by lia
     simp[we,k3,k4]
    rw[wg,e9];have EA4:=yM (t:=[.lst ((ui (λa b=>if b<a then b else a) ne' (lf'.map λq=>dN H W cc q)).map λd:Nat=>I d)]) EA3;have EC4:=yM (t:=[.lst ((ui (λa b=>if b<a then b else a) ne' (lf'.map λq=>dN H W cc q)).map λd:Nat=>I d)]) EC3;have EB4:=Zj (h++t3) [] ((ui (λa b=>if b<a then b else a) ne' (lf'.map λq=>dN H W cc q)).map λd:Nat=>I d);have al:=Y0 EA3;have ac2:=Y0 EC3;generalize ui (λa b=>if b<a then b else a) ne' (lf'.map λq=>dN H W cc q)=zz at *;generalize hzz:zz.map (λd:Nat=>I d)=zI at *;simp;rw[Xf] at EB4 al ac2;refine hQ _ _ ⟨t3++[.lst zI],a,h.length+t3.length,c,_,_,_,by simp,ha,by lia,hc,by lia,ac,by lia,?_,?_,?_,rfl⟩
    ·simpa using EA4
    ·simpa using EB4
    ·simpa using EC4
  ·rintro σ hh ⟨t,a,b,c,z3,z6,z7,rfl,ha,hb,hc,ab,ac,bc,ea,eb,ec,rfl⟩;obtain(⟨l1,l2,l3,l4⟩):=qaa H W (H*W) (wb _);simp[ea,l1]
  ·rintro σ hh ⟨t,a,b,c,z3,z6,z7,rfl,ha,hb,hc,ab,ac,bc,ea,eb,ec,rfl⟩;have e2:∀ l:List ((Nat×Nat)×Nat),l.map (MV.f∘QT)=(l.map QT).map MV.f:=λl=>by simp
   rw[e2] at ec;have F:=YaC _ _ _ ec;obtain(⟨t',kl⟩):=Ybz h t [c] (by simpa using hc);rw[kl] at F;generalize ((zu H W (H*W)).2.2.map QT)=fl at *;simp[F];exact hQ _ _ ⟨rfl,rfl⟩
end
end MP
end
section
namespace MP
open PySem
noncomputable def YaS(rows:List (List Nat))(c:Nat×Nat)(v:Nat):List (List Nat):=rows.set c.1 ((rows.getD c.1 []).set c.2 v)
noncomputable def ybV(H W:Nat)(l:List ((Nat×Nat)×Nat)):List (List Nat):=l.zipIdx.foldl (λrows p=>YaS rows p.1.1 (p.2+1)) (Xa H (Xa W 0))
noncomputable def Za0(H W:Nat):Bool:=(Qs H W).all (λr=>r.length==W&&r.all λx=>decide (1<=x)&&decide (x<=H*W))
noncomputable def inB(H W:Nat):Bool:=(zu H W (H*W)).2.2.all λp=>decide (p.1.1<H/\p.1.2<W)
noncomputable def ZK(H W:Nat):Bool:=decide (ybV H W (zu H W (H*W)).2.2=Qs H W)&&inB H W&&Za0 H W
theorem ok_a:((xa 5).all λi=>(xa 5).all λj=>ZK (i+1) (j+1))=true:=by decide +kernel
theorem ok_b:((xa 24).all λj=>ZK 1 (j+1))=true:=by decide +kernel
theorem ok_c:((xa 24).all λj=>ZK (j+1) 1)=true:=by decide +kernel
theorem ok_d:((xa 12).all λj=>ZK 2 (j+1))=true:=by decide +kernel
noncomputable def SzS(H W:Nat):Prop:=(1<=H/\H<=5/\1<=W/\W<=5)\/(H=1/\1<=W/\W<=24)\/(1<=H/\H<=24/\W=1)\/(H=2/\1<=W/\W<=12)
theorem YbD{f:Nat->Nat->Bool}{n m:Nat}(h:((xa n).all λi=>(xa m).all λj=>f (i+1) (j+1))=true){H W:Nat}(h1:1<=H)(h2:H<=n)(w1:1<=W)(w2:W<=m):f H W=true:=by
 have:=xh.mp (xh.mp h (H-1) (Wi.mpr (by lia))) (W-1) (Wi.mpr (by lia))
 rwa [show H-1+1=H by lia,show W-1+1=W by lia] at this
theorem yaw{f:Nat->Bool}{n:Nat}(h:((xa n).all λi=>f (i+1))=true){H:Nat}(h1:1<=H)(h2:H<=n):f H=true:=by
 have:=xh.mp h (H-1) (Wi.mpr (by lia))
 rwa [show H-1+1=H by lia] at this
theorem sz_ok{H W:Nat}(s:SzS H W):ZK H W=true:=by
 rcases s with ⟨a,b,c,d⟩|⟨rfl,c,d⟩|⟨a,b,rfl⟩|⟨rfl,c,d⟩
 ·exact YbD (f:=ZK) ok_a a b c d
 ·exact yaw (f:=ZK 1) ok_b c d
 ·exact yaw (f:=λi=>ZK i 1) ok_c a b
 ·exact yaw (f:=ZK 2) ok_d c d
theorem QbP{H W:Nat}(h1:1<=H)(w1:1<=W)(hH:H<=100)(g:Za0 H W=true):GoodT 1 (H*W:Nat) (spR H W):=by
 have hp:0<H*W:=Wx h1 w1;unfold Za0 at g;have hl:(spR H W).length=H:=by simp[spR,Qs]
 refine⟨by lia,λe=>by rw[e] at hl;simp at hl;lia,⟨W,w1,λr hr=>?_⟩,λr hr v hv=>?_,by lia⟩
 ·unfold spR at hr;obtain⟨r',hr',rfl⟩:=Vl.mp hr;have:=xh.mp g r' hr';simp only[Wa,beq_iff_eq] at this;simpa using this.1
 ·unfold spR at hr;obtain⟨r',hr',rfl⟩:=Vl.mp hr;obtain⟨x,hx,rfl⟩:=Vl.mp hv;have:=xh.mp g r' hr';simp only[Wa,beq_iff_eq,xh,decide_eq_true_eq] at this;have:=this.2 x hx
  lia
theorem sz_le{H W:Nat}(s:SzS H W):1<=H/\1<=W/\H<=24/\W<=24/\H*W<=25:=by
 rcases s with ⟨a,b,c,d⟩|⟨rfl,c,d⟩|⟨a,b,rfl⟩|⟨rfl,c,d⟩
 ·have:H*W<=5*5:=vC b d
  lia
 all_goals lia
section
variable (n:Nat) (h:MH)
theorem qX(ns:List Int)(k:Int)(hk:0<=k)(hk2:k<1000000):∃ a b:Nat,SzS a b/\run prog (n+2) "_law_spread_size" [.f (.scr ns),.ref 0] (atC k::h)=.ok (.f (.tup [.int a,.int b])) (atC (k+1)::h):=by
 have N:=Z8 n h ns k hk hk2;have hd:=Yar ns (k+1);generalize zaI ns (k+1)=x at N hd;have h5:=zS x 5 (by decide);have d5:∀ hh,Yg true .fdiv (I x) (I 5) hh=.ok (I (x/5)) hh:=λhh=>ZF _ _ _ ⟨by decide,.inl (by decide)⟩;have d30:∀ hh,Yg true .fdiv (I x) (I 30) hh=.ok (I (x/30)) hh:=λhh=>ZF _ _ _ ⟨by decide,.inl (by decide)⟩;obtain⟨a,b,s,e⟩:∃ a b:Nat,SzS a b/\atM [MV.f (.tup [.int (1+x/5%5),.int (1+x/30%5)]),.f (.tup [.int 1,.int (1+x/5%24)]),.f (.tup [.int (1+x/5%24),.int 1]),.f (.tup [.int 2,.int (1+x/5%12)]),.f (.tup [.int (1+x/5%5),.int 5])] (x%5)=some (.f (.tup [.int a,.int b])):=by
  have key:∀ u:Int,1<=u->∃ a:Nat,u=a:=λu h1=>vo (by lia);have:x%5=0\/x%5=1\/x%5=2\/x%5=3\/x%5=4:=by lia
  rcases this with e|e|e|e|e <;> rw[e]
  ·obtain⟨a,e1⟩:=key (1+x/5%5) (by lia);obtain⟨b,e2⟩:=key (1+x/30%5) (by lia);exact⟨a,b,.inl (by lia),by rw[e1,e2];rfl⟩
  ·obtain⟨b,e2⟩:=key (1+x/5%24) (by lia);exact⟨1,b,.inr (.inl (by lia)),by rw[<- e2];rfl⟩
  ·obtain⟨a,e1⟩:=key (1+x/5%24) (by lia);exact⟨a,1,.inr (.inr (.inl (by lia))),by rw[<- e1];rfl⟩
  ·obtain⟨b,e2⟩:=key (1+x/5%12) (by lia);exact⟨2,b,.inr (.inr (.inr (by lia))),by rw[<- e2];rfl⟩
  ·obtain⟨a,e1⟩:=key (1+x/5%5) (by lia);exact⟨a,5,.inl (by lia),by rw[<- e1];rfl⟩
 refine⟨a,b,s,?_⟩;rw[zG];simp only[d__law_spread_size];simp[N,d5,d30,Yp,qk,Yax,e]
theorem qbz:run prog (n+1) "_law_only" [.exc "NoTile",I 7] h=.ok (B true) h:=by
 rw[zag];simp only[d__law_only];have s0:∀ k:Nat,k<100->k<sizeL:=λk hk=>by rw[Ze];lia
 have e7:atM [B false,B false,B false,B false,B false,B false,B false,B true,B false,B false] 7=some (B true):=rfl;simp[qk,Yax,MP.stM,qh,Zi,s0,e7]
theorem qax(a b:Int)(no:a<1\/b<1):run prog (n+2) "_law_refused" [I a,I b] h=.ok (B true) h:=by
 have D:run prog (n+1) "spread_tile" [I a,I b] h=.exc "NoTile" h:=by
  rw[qE];simp only[d_spread_tile];by_cases c:a<1
  ·simp[c]
  ·have:b<1:=by lia
   simp[c,this]
 rw[ZT];simp only[d__law_refused];simp[D,qbz]
theorem ybx(r:List Int):yi ((r.map FV.int).map .f)=.f (zg true r):=by
 rw[vg,QaM];rfl
theorem qat(g:MH)(rows:List (List Int))(hl:rows.length<=1000):run prog (n+1) "_law_told" [.ref (g.length+rows.length)] (Ys g (rows.map λr=>r.map FV.int))=.ok (.f (zj true true rows)) (Ys g (rows.map λr=>r.map FV.int)):=by
 have tp:=QaF g (rows.map λr=>r.map FV.int);rw[xc] at tp;have rw1:∀ i r,rows[i]?=some r->Ya (Ys g (rows.map λr=>r.map FV.int)) (g.length+i)=some ((r.map FV.int).map .f):=λi r e=>zaH g _ i _ (by rw[Vc,e];rfl);generalize Ys g (rows.map λr=>r.map FV.int)=hh at *;have it:itV "seq" [.ref (g.length+rows.length)] hh=some (((xa rows.length).map λi=>MV.ref (g.length+i)),[(g.length+rows.length,(xa rows.length).map λi=>MV.ref (g.length+i))]):=by
  have g1:qd hh (.ref (g.length+rows.length))=[(g.length+rows.length,(xa rows.length).map λi=>MV.ref (g.length+i))]:=by simp only[qd,tp]
  simp only[Qav,Zc,tp,vn,g1]
 have gd:=ZV tp;rw[zah];simp only[d__law_told];simp[it,MP.stM];rw[QL gd (e:=λi=>MV.ref (g.length+i)) (g:=λi=>MV.f (zg true (rows.getD i []))) (xa rows.length) [] none (by simp[Ze];lia) (λi hi z=>by
  have hi:=Wi.mp hi;have e:rows[i]?=some (rows.getD i []):=by simp[we,hi]
  have c:=rw1 i _ e;have t:qs true "tuple" [.ref (g.length+i)] hh=.ok (.f (zg true (rows.getD i []))) hh:=by
   rw[QaU];show opt (Ya _ _) _=_;rw[c,qe,ybx]
  exact⟨some (.ref (g.length+i)),by simp[Zi,t]⟩)]
 have e:(xa rows.length).map (λi=>MV.f (zg true (rows.getD i [])))=(rows.map (zg true)).map MV.f:=by
  apply Xo
  ·simp
  ·intro i h1 h2;have hi:i<rows.length:=by simpa using h1
   simp[we,hi]
 simp only[wg,R.bind_ok,e,qb];simp[zj,sq]
theorem ZaH(g:MH)(count:Int)(rows:List (List Int))(hl:rows.length<=1000)(hw:∀ r∈rows,r.length<=1000):run prog (n+4) "_law_is_tile" [.f (Yo count rows),I count,.ref (g.length+rows.length)] (Ys g (rows.map λr=>r.map FV.int))=.ok (B true) (Ys g (rows.map λr=>r.map FV.int)):=by
 have T:=qat (n+2) g rows hl;generalize Ys g (rows.map λr=>r.map FV.int)=hh at *;have S:=zP n hh 3 _ (Ybt true true rows hl hw);have Si:=zP (n+2) hh 1 (.int count) rfl;have p1:YaL prog.fok "rows" (.f (Yo count rows)) hh=some (.f (zj true true rows)):=by simp[Yo]
 have p2:YaL prog.fok "count" (.f (Yo count rows)) hh=some (I count):=by simp[Yo]
 have p3:qM prog.subs hh (.f (Yo count rows)) "Tile"=some true:=by simp[Yo]
 rw[yU];simp only[d__law_is_tile];simp[p1,p2,p3,Si,T,S]
end
end MP
end
section
namespace MP
open PySem
noncomputable def yo(R:List (List Nat)):List (List FV):=R.map λr=>r.map λx:Nat=>FV.int x
theorem qan(R:List (List Nat)):(yo R).length=R.length:=by simp[yo]
noncomputable def Shp(R:List (List Nat))(H W:Nat):Prop:=R.length=H/\∀ r∈R,r.length=W
theorem Shp.put{R:List (List Nat)}{H W:Nat}(s:Shp R H W)(c:Nat×Nat)(v:Nat)(hc:c.1<H):Shp (YaS R c v) H W:=by
 refine⟨by simp[YaS,s.1],λr hr=>?_⟩
 rcases List.mem_or_eq_of_mem_set hr with h|h
 ·exact s.2 r h
 ·rw[h,List.length_set];have hl:c.1<R.length:=by rw[s.1];exact hc
  exact s.2 _ (by simp[we,hl])
noncomputable def Qx(H W:Nat)(l:List ((Nat×Nat)×Nat))(i:Nat):List (List Nat):=(l.zipIdx.take i).foldl (λrows p=>YaS rows p.1.1 (p.2+1)) (Xa H (Xa W 0))
theorem Q5{H W:Nat}{l:List ((Nat×Nat)×Nat)}{i:Nat}{p:(Nat×Nat)×Nat}(e:l[i]?=some p):Qx H W l (i+1)=YaS (Qx H W l i) p.1 (i+1):=by
 have e2:l.zipIdx[i]?=some (p,i):=by rw[List.getElem?_zipIdx,e];simp
 unfold Qx;rw[wz,e2,Option.toList_some,List.foldl_append];rfl
theorem Qak{H W:Nat}{l:List ((Nat×Nat)×Nat)}(hin:∀ p∈l,p.1.1<H/\p.1.2<W):∀ i,i<=l.length->Shp (Qx H W l i) H W
 |0,_=>⟨by simp[Qx],λr hr=>by simp[Qx] at hr;rw[hr.2];simp⟩
 |i+1,hi=>by
  rw[Q5 (Wc (show i<l.length by lia))];exact(Qak hin i (by lia)).put _ _ (hin _ (xo _)).1
section
variable (n:Nat) (h:MH)
theorem ybo(W:Nat)(hW:W<=1000):Yg false .mul (.f (.lst [.int 0])) (I W) h=.ok (.ref h.length) (h++[YH (Xa W (.int 0))]):=by
 have e:(Xa W [MV.f (.int 0)]).flatten=(Xa W (FV.int 0)).map MV.f:=by
  rw[uo,Vx]
 have c:-(2^63)<=(W:Int)/\(W:Int)<2^63/\[MV.f (.int 0)].length*(W:Int).toNat<=sizeL:=by simp[Ze];lia
 unfold Yg;simp only[yb,listOf,Wd,Vm,qe];rw[if_pos c,ug,e];simp[yk,YH]
theorem qbp(g:MH){R:List (List Nat)}{H W:Nat}(s:Shp R H W)(c:Nat×Nat)(h1:c.1<H)(h2:c.2<W)(v:Nat) :
  ∃ r:List FV,Ya (Ys g (yo R)) (g.length+c.1)=some (r.map .f)/\r.length=W/\Zb (Ys g (yo R)) (g.length+c.1) ((r.map MV.f).set c.2 (I (v:Nat)))=Ys g (yo (YaS R c v)):=by
 have hl:c.1<R.length:=by rw[s.1];exact h1
 have e:(yo R)[c.1]?=some ((R.getD c.1 []).map λx:Nat=>FV.int x):=by simp[yo,we,hl]
 refine⟨(R.getD c.1 []).map λx:Nat=>FV.int x,zaH g _ _ _ e,?_,?_⟩
 ·rw[xc];exact s.2 _ (by simp[we,hl])
 ·have e2:((((R.getD c.1 []).map λx:Nat=>FV.int x).map MV.f).set c.2 (I (v:Nat)))=(((R.getD c.1 []).set c.2 v).map λx:Nat=>FV.int x).map MV.f:=by
   rw[xw,xw]
  rw[e2,zbr g _ _ _ (by rw[qan];exact hl)]
  congr 1
  simp[yo,YaS,xw]
end
end MP
end
section
namespace MP
open PySem
section
variable (n:Nat)
noncomputable def zaX:List MS:=match d_law.body with
 |[_,_,MS.for_ _ _ _ b,_]=>b
 |_=>[]
theorem ybn:d_law.body=d_law.body[0]::d_law.body[1]::MS.for_ (.nm 2) "range" [.cI 2] zaX::d_law.body.drop 3:=rfl
theorem YaN(H W:Nat)(x:Int):∃ a b:Int,(a<1\/b<1)/\atM [MV.f (.tup [.int 0,.int W]),.f (.tup [.int H,.int 0]),.f (.tup [.int (-1-x/6%9),.int W]),.f (.tup [.int H,.int ((-x)/6%9-9)]),.f (.tup [.int 0,.int 0]),.f (.tup [.int (-1),.int (-1)])] (x%6)=some (.f (.tup [.int a,.int b])):=by
 have h6:=zS x 6 (by decide);have h9:=zS (x/6) 9 (by decide);have h9':=zS ((-x)/6) 9 (by decide);obtain⟨w,hw,e⟩:=QbB [MV.f (.tup [.int 0,.int W]),.f (.tup [.int H,.int 0]),.f (.tup [.int (-1-x/6%9),.int W]),.f (.tup [.int H,.int ((-x)/6%9-9)]),.f (.tup [.int 0,.int 0]),.f (.tup [.int (-1),.int (-1)])] _ h6.1 (by simpa using h6.2);simp only[Ua,Xc,or_false] at hw
 rcases hw with rfl|rfl|rfl|rfl|rfl|rfl
 all_goals exact⟨_,_,by lia,e⟩
theorem turn(ns:List Int)(k:Int)(g:MH)(hk:0<=k)(hk2:k<900000)(z2 z3 z4 z5 z6 z7 z8 z9 z10:Option MV) :
  Nx (Zd prog (run prog (n+4)) zaX [some (.f (.scr ns)),some (.ref 0),z2,z3,z4,z5,z6,z7,z8,z9,z10] (atC k::g)) λσ hh=>∃(g2:MH)(y3 y4 y5 y6 y7 y8 y9 y10:Option MV),hh=atC (k+2)::g2/\σ=[some (.f (.scr ns)),some (.ref 0),z2,y3,y4,y5,y6,y7,y8,y9,y10]:=by
 refine Nx.of λQ hQ=>?_;obtain⟨H,W,sz,SS⟩:=qX (n+2) g ns k hk (by lia);obtain⟨h1,w1,h2,w2,hw⟩:=sz_le sz;have ok:=sz_ok sz;unfold ZK at ok;simp only[Wa,decide_eq_true_eq] at ok;obtain⟨⟨fe,ib⟩,gb⟩:=ok;have gt:=QbP h1 w1 (by lia) gb;have SP:=λhh=>qr (n+1) hh h1 w1 (by lia) (by lia) (by lia) gt;have LS:=λhh=>Yae (n+2) hh h1 w1 (show H<=100 by lia) (show W<=100 by lia);unfold inB at ib;generalize hL:(zu H W (H*W)).2.2=L at *;have hin:∀ p∈L,p.1.1<H/\p.1.2<W:=λp hp=>of_decide_eq_true (xh.mp ib p hp);have fe2:Qx H W L L.length=Qs H W:=by rw[<- fe];unfold Qx ybV;rw[vk (by simp)]
 have spf:yo (Qs H W)=(spR H W).map λr=>r.map FV.int:=by simp[yo,spR,Vf]
 have spl:(spR H W).length=H:=by simp[spR,Qs]
 have spw:∀ r∈spR H W,r.length<=1000:=λr hr=>by
  unfold Za0 at gb;unfold spR at hr;obtain⟨r',hr',rfl⟩:=Vl.mp hr;have:=xh.mp gb r' hr';simp only[Wa,beq_iff_eq] at this;rw[xc,this.1];lia
 have IT:=ZaH n (atC (k+1)::g) ((H*W:Nat):Int) (spR H W) (by lia) spw;rw[spl,<- spf] at IT;have mu:∀ hh,Yg true .mul (I H) (I W) hh=.ok (I ((H:Int)*W)) hh:=λhh=>Q0 _ _ _ (.inl (by lia));have em:((H*W:Nat):Int)=(H:Int)*W:=by simp
 rw[em] at IT SP;have q:∀ hh,Zc hh (.f (.lst (L.map QT)))=some (L.map λp=>MV.f (.tup [qa p.1,.int p.2])):=λhh=>by simp[QT,Vf]
 have gq:∀ hh,qd hh (.f (.lst (L.map QT)))=[]:=λhh=>rfl;have oc:∀(j:Int)(S:List (List FV)),∃ T:MH,∀ i:Int,Ys (atC i::g) S=atC i::T:=λj S=>⟨g++(S.map YH++[.lst ((xa S.length).map λi=>MV.ref (g.length+1+i))]),λi=>by simp[Ys]⟩;have e0:(atC (k+1)::g)++Xa (xa H).length (YH (Xa W (.int 0)))++[.lst ((xa (xa H).length).map λi=>MV.ref ((atC (k+1)::g).length+i))]=Ys (atC (k+1)::g) (yo (Qx H W L 0)):=by
  unfold Ys;simp[yo,Qx]
 have e1:((atC (k+1)::g)++Xa (xa H).length (YH (Xa W (.int 0)))).length=(atC (k+1)::g).length+H:=by simp;lia
 have at0:∀ a b:FV,atM [MV.f a,.f b] 0=some (.f a):=λ_ _=>rfl;have at1:∀ a b:FV,atM [MV.f a,.f b] 1=some (.f b):=λ_ _=>rfl;generalize hg0:(atC (k+1)::g)=g0 at *;unfold zaX;simp only[d_law];simp[SS,Zk _ (H:Int) (by lia),MP.stM,hg0];generalize hc:qh _ _ _ _ _ _=c;obtain⟨acc',h',rfl,rfl,rfl⟩:=QbF hc (λj acc hh=>acc=(xa j).map (λi=>MV.ref (g0.length+i))/\hh=g0++Xa j (YH (Xa W (.int 0)))) ⟨rfl,by simp⟩ (by simp[Ze];lia) (by
  rintro j y acc z hh hj ⟨rfl,rfl⟩;have bp:=ybo (g0++Xa j (YH (Xa W (.int 0)))) W (by lia);refine⟨.ref (g0.length+j),some (I y),g0++Xa (j+1) (YH (Xa W (.int 0))),?_,?_,rfl⟩
  ·simp[Zi,qk,bp,List.replicate_succ']
  ·simp[Vs])
 simp only[R.bind_ok,YaT,R.st_ok,e0,e1,zt,List.set,YT,RS.bind_next];simp[LS,q,gq];refine ZaF (Q:=λr=>Nx r _) (e:=λp:(Nat×Nat)×Nat=>MV.f (.tup [qa p.1,.int p.2])) L (λi σ hh=>∃(y7 y8:Option MV),hh=Ys g0 (yo (Qx H W L i))/\σ=[some (.f (.scr ns)),some (.ref 0),z2,some (I H),some (I W),some (.ref (g0.length+H)),some (I (1+(i:Int))),y7,y8,z9,z10]) ⟨z7,z8,rfl,by simp⟩ ?_ ?_
 ·rintro i p σ hh hi ⟨y7,y8,rfl,rfl⟩ Q hQ;have hil:=(ua.mp hi).1;obtain⟨p1,p2⟩:=hin p (uh hi);have sh:=Qak hin i (by lia);have tp:=QaF g0 (yo (Qx H W L i));rw[qan,sh.1] at tp;obtain⟨r,cr,rl,st⟩:=qbp g0 sh p.1 p1 p2 (i+1);rw[<- Q5 hi] at st;have ar:atM ((xa H).map λi=>MV.ref (g0.length+i)) (p.1.1:Int)=some (.ref (g0.length+p.1.1)):=by
   rw[QC,Vc,Uw p1];rfl
  have ix:ixM r.length (p.1.2:Int)=some p.1.2:=by
   unfold ixM;rw[rl,if_pos (by lia),if_pos (by lia)];congr 1
  have eI:(1:Int)+(i:Int)=((i+1:Nat):Int):=by lia
  rw[<- eI] at st;have cv:∀ hh,Zc hh (.f (qa p.1))=some [I (p.1.1:Nat),I (p.1.2:Nat)]:=λhh=>rfl;generalize Ys g0 (yo (Qx H W L i))=hh at *;generalize Ys g0 (yo (Qx H W L (i+1)))=hh2 at *;have a2:atM [I ((p.1.1:Nat):Int),I ((p.1.2:Nat):Int)] 0=some (I (p.1.1:Nat)):=rfl;have a3:atM [I ((p.1.1:Nat):Int),I ((p.1.2:Nat):Int)] 1=some (I (p.1.2:Nat)):=rfl;generalize qa p.1=cl at *;simp[zE,cv,a2,a3,tp,ar,cr,ix,st];exact hQ _ _ ⟨_,_,rfl,by rw[show(1:Int)+((i+1:Nat):Int)=1+(i:Int)+1 by lia]⟩
 ·rintro σ hh ⟨y7,y8,rfl,rfl⟩;rw[fe2];obtain⟨T,eT⟩:=oc 0 (yo (Qs H W));have eh:Ys g0 (yo (Qs H W))=atC (k+1)::T:=by rw[<- hg0];exact eT (k+1)
  rw[eh] at IT ⊢;have N:=Z8 (n+3) T ns (k+1) (by lia) (by lia);have hd:=Yar ns (k+1+1);generalize zaI ns (k+1+1)=x at N hd;have d6:∀(y:Int) hh,Yg true .fdiv (I y) (I 6) hh=.ok (I (y/6)) hh:=λy hh=>ZF _ _ _ ⟨by decide,.inl (by decide)⟩;have b9:∀(y:Int) hh,Yg true .mod (I y) (I 9) hh=.ok (I (y%9)) hh:=λy hh=>Yp _ _ _ (by decide);have b6:∀(y:Int) hh,Yg true .mod (I y) (I 6) hh=.ok (I (y%6)) hh:=λy hh=>Yp _ _ _ (by decide);obtain⟨a,b,no,ea⟩:=YaN H W x;have RF:=λhh=>qax (n+2) hh a b no;have qt:∀ hh,Zc hh (.f (.tup [.int a,.int b]))=some [I a,I b]:=λhh=>rfl;have at2:atM [I a,I b] 0=some (I a):=rfl;have at3:atM [I a,I b] 1=some (I b):=rfl;have e2:k+1+1=k+2:=by lia
  rw[e2] at N;generalize Yo ((H:Int)*W) (spR H W)=tv at *;simp[SP,mu,IT,N,d6,b9,b6,qk,ea,qt,at2,at3,RF];exact hQ _ _ ⟨T,_,_,_,_,_,_,_,_,rfl,rfl⟩
end
end MP
end
section
namespace MP
theorem Zac(n a:Nat):Zx n (Zq a a)=0:=by unfold Zx Zq;split <;> lia
theorem Qa3{n a b:Nat}(ha:a<n)(hb:b<n)(h:a≠b):0<Zx n (Zq a b):=by unfold Zx Zq;split <;> lia
theorem zbM(H W:Nat)(p:Nat×Nat):dN H W p p=0:=by unfold dN;rw[Zac,Zac]
theorem Yb0{H W:Nat}{p q:Nat×Nat}(p1:p.1<H)(p2:p.2<W)(q1:q.1<H)(q2:q.2<W)(h:p≠q):0<dN H W p q:=by
 unfold dN;by_cases c:p.1=q.1
 ·have:p.2≠q.2:=λe=>h (Prod.ext c e);have:=Qa3 p2 q2 this;exact Vb (Wx this this) (Nat.le_add_left _ _)
 ·have:=Qa3 p1 q1 c;exact Vb (Wx this this) (uH _ _)
theorem qav:∀(r:List Nat)(m:Nat),m<=Qw m r/\∀ x∈r,x<=Qw m r
 |[],m=>⟨wb _,λx h=>by simp at h⟩
 |y::r,m=>by
  unfold Qw;obtain⟨h1,h2⟩:=qav r (if m<y then y else m);constructor
  ·split at h1 <;> lia
  ·intro x hx
   rcases Ua.mp hx with rfl|hx
   ·split at h1 <;> lia
   ·exact h2 x hx
theorem qZ{k:Nat}:∀{r:List Nat}{j:Nat},ZA k r=some j->r.getD j 0=k
 |[],j,e=>by cases e
 |x::r,j,e=>by
  unfold ZA at e;split at e
  next h=>cases e;simpa using h
  next h =>
   obtain⟨i,e1,e2⟩:=ub.mp e;subst e2;simpa using qZ e1
theorem ZaX{l:List Nat}(h:l≠[]):spot l<l.length/\∀ i,i<l.length->l.getD i 0<=l.getD (spot l) 0:=by
 cases l with
 |nil=>exact absurd rfl h
 |cons x r =>
  obtain⟨e,hl⟩:=zv x r;refine⟨hl,λi hi=>?_⟩;rw[qZ e];have hm:(x::r).getD i 0∈x::r:=by
   rw[show(x::r).getD i 0=(x::r)[i] by simp only[we,Wc hi,xA]];exact xo hi
  rcases Ua.mp hm with h|h
  ·rw[h];exact(qav r x).1
  ·exact(qav r x).2 _ h
theorem YaU{l:List Nat}{i v:Nat}(hi:i<l.length)(h0:l.getD i 0=0)(hv:v≠0):((l.set i v).filter λx=>decide (x≠0)).Perm (v::l.filter λx=>decide (x≠0)):=by
 have e0:l[i]=0:=by simpa[we,hi] using h0
 have e1:l=l.take i++0::l.drop (i+1):=by
  have:=Xn i l;rw[Vi hi,e0] at this;exact this.symm
 have e2:l.set i v=l.take i++v::l.drop (i+1):=List.set_eq_take_append_cons_drop.trans (if_pos hi);have e3:(l.filter λx=>decide (x≠0))=((l.take i).filter λx=>decide (x≠0))++(l.drop (i+1)).filter λx=>decide (x≠0):=by
  conv=>lhs;rw[e1]
  rw[XF,List.filter_cons_of_neg (by simp)]
 rw[e2,XF,List.filter_cons_of_pos (by simpa using hv),e3];exact List.perm_middle
structure Sp (cs:List (Nat×Nat)) (st:List Nat×List Nat) (k:Nat):Prop where
 l1:st.1.length=cs.length
 l2:st.2.length=cs.length
 z:∀ i,i<cs.length->(st.1.getD i 0=0↔0<st.2.getD i 0)
 pm:(st.1.filter λx=>decide (x≠0)).Perm (Vt 1 k)
theorem Sp.spot{cs:List (Nat×Nat)}{st:List Nat×List Nat}{k:Nat}(s:Sp cs st k)(hk:k<cs.length):spot st.2<cs.length/\st.1.getD (spot st.2) 0=0:=by
 have ne:st.2≠[]:=λe=>by have:=s.l2;rw[e] at this;simp at this;lia
 obtain⟨h1,h2⟩:=ZaX ne;rw[s.l2] at h1 h2;refine⟨h1,(s.z _ h1).mpr ?_⟩;obtain⟨i,hi,ei⟩:∃ i,i<cs.length/\st.1.getD i 0=0:=by
  apply Classical.byContradiction;intro no;have all:(st.1.filter λx=>decide (x≠0))=st.1:=vD.mpr λx hx=>by
   obtain⟨i,hi,e⟩:=wD.mp hx;rw[decide_eq_true_eq]
   exactλe0=>no ⟨i,by rw[<- s.l1];exact hi,by simp[we,hi,e,e0]⟩
  have:=s.pm.length_eq;rw[all,s.l1,uF] at this
  lia
 have:=(s.z i hi).mp ei;have:=h2 i hi
 lia
theorem YbW(l:List Nat)(cs:List (Nat×Nat))(f:Nat×Nat->Nat){i:Nat}(h1:i<l.length)(h2:i<cs.length):(ui (λa b=>if b<a then b else a) l (cs.map f)).getD i 0=if f (cs.getD i (0,0))<l.getD i 0 then f (cs.getD i (0,0)) else l.getD i 0:=by
 simp[we,List.getElem?_zipWith,h1,h2]
theorem Sp.step{H W:Nat}{cs:List (Nat×Nat)}{st:List Nat×List Nat}{k:Nat}(s:Sp cs st k)(hk:k<cs.length)(hin:∀ c∈cs,c.1<H/\c.2<W)(nd:cs.Nodup):Sp cs (yy H W cs st (k+1)) (k+1):=by
 obtain⟨h1,h2⟩:=s.spot hk;refine⟨by simp[yy,s.l1],by simp[yy,s.l2],λi hi=>?_,?_⟩
 ·have l2:=s.l2;have l1:=s.l1;show(st.1.set (MP.spot st.2) (k+1)).getD i 0=0↔0<(ui (λa b=>if b<a then b else a) st.2 (cs.map λc=>dN H W c (cs.getD (MP.spot st.2) (0,0)))).getD i 0;rw[YbW _ _ _ (by lia) hi];have z:=s.z i hi;generalize MP.spot st.2=p at *;by_cases c:p=i
  ·subst c;rw[zbM];have e:(st.1.set p (k+1)).getD p 0=k+1:=by simp[we,show p<st.1.length by lia]
   rw[e];split <;> lia
  ·have e:(st.1.set p (k+1)).getD i 0=st.1.getD i 0:=by simp[we,Ve c]
   rw[e,z];have m1:cs.getD i (0,0)∈cs:=by simp[we,hi]
   have m2:cs.getD p (0,0)∈cs:=by simp[we,h1]
   have ne:cs.getD i (0,0)≠cs.getD p (0,0):=λe=>by
    have a1:cs.getD i (0,0)=cs[i]:=by simp[we,hi]
    have a2:cs.getD p (0,0)=cs[p]:=by simp[we,h1]
    rw[a1,a2] at e;have nd:=wo.mp nd
    rcases Nat.lt_or_gt_of_ne c with c|c
    ·exact nd p i h1 hi c e.symm
    ·exact nd i p hi h1 c e
   have:=Yb0 (hin _ m1).1 (hin _ m1).2 (hin _ m2).1 (hin _ m2).2 ne;split <;> lia
 ·show((st.1.set (MP.spot st.2) (k+1)).filter λx=>decide (x≠0)).Perm (Vt 1 (k+1));refine(YaU (by rw[s.l1];exact h1) h2 (by lia)).trans ?_;rw[List.range'_concat];refine(List.Perm.cons (k+1) s.pm).trans ?_;rw[show 1+1*k=k+1 by lia];exact(List.perm_append_singleton (k+1) (Vt 1 k)).symm
theorem Ya0{H W:Nat}{cs:List (Nat×Nat)}(h1:1<=H)(hin:∀ c∈cs,c.1<H/\c.2<W)(nd:cs.Nodup):∀ k,k<=cs.length->Sp cs (Yi H W cs k) k
 |0,_=>by
  refine⟨by simp[Yi],by simp[Yi],λi hi=>?_,?_⟩
  ·have:0<H*H:=Wx h1 h1;simp[Yi,we,hi];lia
  ·simp[Yi]
 |k+1,hk=>(Ya0 h1 hin nd k (by lia)).step (by lia) hin nd
noncomputable def plc(H W:Nat)(cs:List (Nat×Nat))(j:Nat):Nat:=spot (Yi H W cs j).2
theorem Qan{H W:Nat}{cs:List (Nat×Nat)}(h1:1<=H)(hin:∀ c∈cs,c.1<H/\c.2<W)(nd:cs.Nodup){j:Nat}:∀ k,j<k->k<=cs.length->(Yi H W cs k).1.getD (plc H W cs j) 0=j+1
 |k+1,hj,hk=>by
  have s:=Ya0 h1 hin nd k (by lia);obtain⟨p1,p2⟩:=s.spot (by lia);have l1:=s.l1;show((Yi H W cs k).1.set (plc H W cs k) (k+1)).getD (plc H W cs j) 0=j+1;have e9:plc H W cs k=MP.spot (Yi H W cs k).2:=rfl;by_cases c:j=k
  ·subst c;rw[e9];simp[we,show MP.spot (Yi H W cs j).2<(Yi H W cs j).1.length by lia]
  ·have ih:=Qan (j:=j) h1 hin nd k (by lia) (by lia);have ne:plc H W cs k≠plc H W cs j:=λe=>by rw[<- e,e9,p2] at ih;lia
   rw[<- ih];simp[we,Ve ne]
theorem zbD{H W:Nat}{cs:List (Nat×Nat)}(h1:1<=H)(hin:∀ c∈cs,c.1<H/\c.2<W)(nd:cs.Nodup):(Yi H W cs cs.length).1.Perm (Vt 1 cs.length):=by
 have s:=Ya0 h1 hin nd cs.length (wb _);have all:((Yi H W cs cs.length).1.filter λx=>decide (x≠0))=(Yi H W cs cs.length).1:=vD.mpr λx hx=>by
  have h3:=s.pm.length_eq;rw[uF] at h3;exact List.length_filter_eq_length_iff.mp (h3.trans s.l1.symm) x hx
 have pm:=s.pm
 rwa [all] at pm
theorem Ybd{l:List Nat}(nd:l.Nodup){p v:Nat}(hp:p<l.length)(e:l.getD p 0=v):ZA v l=some p:=by
 obtain⟨j,e1,e2⟩:=Z4 (k:=v) (r:=l) (by rw[<- e];simp[we,hp]);have e3:=qZ e1;rw[e1]
 congr 1
 have a1:l[j]=v:=by simpa[we,e2] using e3
 have a2:l[p]=v:=by simpa[we,hp] using e
 have nd:=wo.mp nd
 rcases XG j p with c|c|c
 ·exact absurd (a1.trans a2.symm) (nd j p e2 hp c)
 ·exact c
 ·exact absurd (a2.trans a1.symm) (nd p j hp e2 c)
noncomputable def EiX(c:String)(r:RS)(P:MSt->MH->Prop)(X:MH->Prop):Prop:=(∃ σ h,r=.next σ h/\P σ h)\/∃ h,r=.exc c h/\X h
noncomputable def EiR(c:String)(r:R MV)(P:MV->MH->Prop)(X:MH->Prop):Prop:=(∃ v h,r=.ok v h/\P v h)\/∃ h,r=.exc c h/\X h
@[simp] theorem EiX_next(c:String)(σ:MSt)(h:MH)(P:MSt->MH->Prop)(X:MH->Prop):EiX c (.next σ h) P X↔P σ h:=⟨λz=>by rcases z with ⟨_,_,e,p⟩|⟨_,e,_⟩ <;> cases e;exact p,λp=>.inl ⟨_,_,rfl,p⟩⟩
@[simp] theorem EiX_exc(c:String)(h:MH)(P:MSt->MH->Prop)(X:MH->Prop):EiX c (.exc c h) P X↔X h:=⟨λz=>by rcases z with ⟨_,_,e,_⟩|⟨_,e,p⟩ <;> cases e;exact p,λp=>.inr ⟨_,rfl,p⟩⟩
@[simp] theorem EiR_ok(c:String)(v:MV)(h:MH)(P:MV->MH->Prop)(X:MH->Prop):EiR c (.ok v h) P X↔P v h:=⟨λz=>by rcases z with ⟨_,_,e,p⟩|⟨_,e,_⟩ <;> cases e;exact p,λp=>.inl ⟨_,_,rfl,p⟩⟩
@[simp] theorem EiR_exc(c:String)(h:MH)(P:MV->MH->Prop)(X:MH->Prop):EiR c (.exc c h) P X↔X h:=⟨λz=>by rcases z with ⟨_,_,e,_⟩|⟨_,e,p⟩ <;> cases e;exact p,λp=>.inr ⟨_,rfl,p⟩⟩
end MP
end
section
namespace MP
open PySem
end MP
end
section
namespace MP
open PySem
end MP
namespace MP
end MP
namespace MP
end MP
namespace MP
end MP
end
section
namespace MP
open PySem
noncomputable def zbW(cs:List (Nat×Nat))(m:Nat):List (Nat×Nat) :=
 cs.map (λc=>(c.2,c.1))++cs.map (λc=>(m+c.1,c.2))++cs.map (λc=>(m+c.1,m+c.2))++cs.map (λc=>(m-1-c.2,2*m-1-c.1))
noncomputable def ZaY:Nat->List (Nat×Nat)
 |0=>[(0,0)]
 |k+1=>zbW (ZaY k) (2^k)
set_option tactic.hygienic true in
theorem Zbx:∀(k:Nat),∀ c∈ZaY k,c.1<2^k/\c.2<2^k
 |0,c,h=>by
  simp[ZaY] at h;subst h;simp
 |k+1,c,h=>by
  have ih:=Zbx k;have p:2^(k+1)=2*2^k:=by rw[Nat.pow_succ,WF]
  have q:0<2^k:=Nat.two_pow_pos k;rw[p];simp only[ZaY,zbW,xg,Vl] at h
  rcases h with ((⟨d,hd,rfl⟩|⟨d,hd,rfl⟩)|⟨d,hd,rfl⟩)|⟨d,hd,rfl⟩ <;> (have:=ih d hd;simp only;lia)
end MP
namespace MP
end MP
namespace MP
end MP
namespace MP
end MP
end
section
namespace MP
open PySem
end MP
end
section
namespace MP
open PySem
end MP
end
section
namespace MP
open PySem
end MP
end
section
namespace MP
open PySem
end MP
end
section
namespace MP
open PySem
end MP
end
section
namespace MP
open PySem
theorem ZR{α β:Type}{f:α->β}:∀{l:List α},(∀ a∈l,∀ b∈l,f a=f b->a=b)->l.Nodup->(l.map f).Nodup
 |[],_,_=>by simp
 |a::l,h,n=>by
  rw[Vo] at n;rw[Wd,Vo];refine⟨λm=>?_,ZR (λx hx y hy=>h x (by simp[hx]) y (by simp[hy])) n.2⟩;obtain⟨b,hb,e⟩:=Vl.mp m;have:=h b (by simp[hb]) a (by simp) e;exact n.1 (this ▸ hb)
theorem QV(H W:Nat)(hW:1<=W):(Za H W).Nodup:=by
 rw[<- ZaU H W hW];refine ZR (λa _ b _ e=>?_) List.nodup_range;simp only[Prod.mk.injEq] at e;have h1:=Nat.div_add_mod a W;have h2:=Nat.div_add_mod b W;rw[e.1,e.2] at h1
 lia
end MP
namespace MP
end MP
end
section
namespace MP
theorem Qas(n:Nat):Za 1 n=(xa n).map λk=>(0,k):=by simp[Za]
theorem qbG(n:Nat):Za n 1=(xa n).map λk=>(k,0):=by
 have:∀ l:List Nat,(l.flatMap λr=>(xa 1).map λc=>(r,c))=l.map λk=>(k,0):=λl=>by
  induction l with
  |nil=>rfl
  |cons x l ih=>rw[UG,ih];rfl
 exact this _
theorem zaZ(n a b:Nat):dN n 1 (a,0) (b,0)=dN 1 n (0,a) (0,b):=by unfold dN;exact uE _ _
theorem qaW(n:Nat):∀ k,Yi n 1 (Za n 1) k=Yi 1 n (Za 1 n) k
 |0=>by simp[Yi,Zm];rw[uE];exact .inr rfl
 |k+1=>by
  have ih:=qaW n k;show yy n 1 (Za n 1) (Yi n 1 (Za n 1) k) (k+1)=yy 1 n (Za 1 n) (Yi 1 n (Za 1 n) k) (k+1);rw[ih];unfold yy
  congr 1
  congr 1
  generalize spot (Yi 1 n (Za 1 n) k).2=s;rw[Qas,qbG,vg,vg];apply Ur;intro a ha;show dN n 1 (a,0) _=dN 1 n (0,a) _;by_cases c:s<n
  ·have e1:((xa n).map λk=>((k,0):Nat×Nat)).getD s (0,0)=(s,0):=by simp[we,c]
   have e2:((xa n).map λk=>((0,k):Nat×Nat)).getD s (0,0)=(0,s):=by simp[we,c]
   rw[e1,e2];exact zaZ n a s
  ·have e1:((xa n).map λk=>((k,0):Nat×Nat)).getD s (0,0)=(0,0):=by simp[we,c]
   have e2:((xa n).map λk=>((0,k):Nat×Nat)).getD s (0,0)=(0,0):=by simp[we,c]
   rw[e1,e2];exact zaZ n a 0
noncomputable def Yj(n:Nat):List Nat:=(Yi 1 n (Za 1 n) n).1
noncomputable def qj(n:Nat):List Nat:=(Za 1 n).map λc=>dN 1 n c (0,0)
noncomputable def ym(n:Nat):List Nat:=ui (λa b=>if b<a then b else a) (qj n) ((Za 1 n).map λc=>dN 1 n c ((Za 1 n).getD (spot (qj n)) (0,0)))
theorem zo(n:Nat):(Za 1 n).length=n:=by rw[Zm,WH]
theorem YaI(c:Nat):∀ k,Qw c (Xa k c)=c
 |0=>rfl
 |k+1=>by rw[Vj];unfold Qw;rw[if_neg (by lia)];exact YaI c k
theorem yay(c k:Nat)(h:1<=k):spot (Xa k c)=0:=by
 obtain⟨m,rfl⟩:∃ m,k=m+1:=⟨k-1,by lia⟩;rw[Vj];show(ZA (Qw c (Xa m c)) (c::Xa m c)).getD 0=0;rw[YaI];simp[ZA]
theorem dN_le(n:Nat){p q:Nat×Nat}(p1:p.1<1)(q1:q.1<1):dN 1 n p q<=n*n:=by
 have e:Zx 1 (Zq p.1 q.1)=0:=by
  have:p.1=q.1:=by lia
  rw[this];exact Zac _ _
 have r:Zx n (Zq p.2 q.2)<=n:=by unfold Zx;split <;> lia
 unfold dN;rw[e];have:=vC r r
 lia
theorem ybU{n:Nat}(h:1<=n):(Yi 1 n (Za 1 n) 1).2=qj n:=by
 show ui (λa b=>if b<a then b else a) (Xa (Za 1 n).length (1*1+n*n)) ((Za 1 n).map λc=>dN 1 n c ((Za 1 n).getD (spot (Xa (Za 1 n).length (1*1+n*n))) (0,0)))=qj n;rw[yay _ _ (by rw[zo];exact h)];have e0:(Za 1 n).getD 0 (0,0)=(0,0):=by rw[Qas];simp[we,show 0<n by lia]
 rw[e0];unfold qj;apply Xo
 ·simp
 ·intro i h1 h2;have hi:i<(Za 1 n).length:=by simpa using h2
  have hm:=qA (xo hi);have:=dN_le n (p:=(Za 1 n)[i]) (q:=(0,0)) hm.1 (by decide);simp only[List.getElem_zipWith,List.getElem_replicate,wl];split <;> lia
theorem near2{n:Nat}(h:1<=n):(Yi 1 n (Za 1 n) 2).2=ym n:=by
 show ui (λa b=>if b<a then b else a) (Yi 1 n (Za 1 n) 1).2 ((Za 1 n).map λc=>dN 1 n c ((Za 1 n).getD (spot (Yi 1 n (Za 1 n) 1).2) (0,0)))=ym n;rw[ybU h];rfl
theorem zT(n:Nat)(h:1<=n):(Yj n).Perm (Vt 1 n):=by
 have:=zbD (H:=1) (W:=n) (cs:=Za 1 n) (wb _) (λc hc=>qA hc) (QV 1 n h)
 rwa [zo] at this
theorem Qp(n:Nat):(Yj n).length=n:=by
 have:=(yO 1 n (Za 1 n) n).1
 rwa [zo] at this
theorem Zab(n:Nat)(h:1<=n):(Yj n).Nodup:=(zT n h).nodup_iff.mpr List.nodup_range'
theorem Qa0{n:Nat}(h:1<=n):∀ v∈Yj n,1<=v/\v<=n:=λv hv=>by
 have:=(zT n h).mem_iff.mp hv;rw[List.mem_range'_1] at this
 lia
theorem Z6{n j:Nat}(h:j<n):ZA (j+1) (Yj n)=some (plc 1 n (Za 1 n) j):=by
 have hn:1<=n:=by lia
 have hin:∀ c∈Za 1 n,c.1<1/\c.2<n:=λc hc=>qA hc;have nd:=QV 1 n hn;have s:=Ya0 (H:=1) (W:=n) (cs:=Za 1 n) (wb _) hin nd j (by rw[zo];lia);have p:=(s.spot (by rw[zo];exact h)).1;exact Ybd (Zab n hn) (by rw[Qp];rw[zo] at p;exact p) (Qan (wb _) hin nd n h (by rw[zo];exact wb _))
theorem ya5{n:Nat}(h:3<=n):ZA 1 (Yj n)=some 0/\ZA 2 (Yj n)=some (spot (qj n))/\ZA 3 (Yj n)=some (spot (ym n)):=by
 refine⟨?_,?_,?_⟩
 ·rw[Z6 (j:=0) (by lia)]
  congr 1
  show spot (Xa (Za 1 n).length _)=0;exact yay _ _ (by rw[zo];lia)
 ·rw[Z6 (j:=1) (by lia)];unfold plc;rw[ybU (by lia)]
 ·rw[Z6 (j:=2) (by lia)];unfold plc;rw[near2 (by lia)]
end MP
end
section
namespace MP
open PySem
theorem qaF(l:List Nat):yg l=zg false (l.map λd:Nat=>(d:Int)):=by simp[yg,zg,sq,Vf]
theorem Zap{l:List Nat}{v j:Nat}(e:ZA v l=some j)(hh:MH):QP .idx (.f (yg l)) (I (v:Nat)) hh=.ok (I (j:Nat)) hh:=by
 show opt ((listOf hh (.f (yg l))).bind Qd) _=_;rw[zn,xk,Zp,qe];show opt (some (v:Int)) _=_;rw[qe,qap,e];rfl
theorem YO{l:List Nat}(ne:l≠[])(hh:MH):qs true "max" [.f (yg l)] hh=.ok (I (l.getD (spot l) 0:Nat)) hh/\QP .idx (.f (yg l)) (I (l.getD (spot l) 0:Nat)) hh=.ok (I (spot l:Nat)) hh:=by
 cases l with
 |nil=>exact absurd rfl ne
 |cons x r =>
  have e:=qZ (zv x r).1;rw[e];exact⟨QaA x r hh,Zaz x r hh⟩
theorem qbN(n:Nat)(h:1<=n)(hz:n<=1000)(hh:MH):ybk .srtI (.f (yg (Yj n))) hh=.ok (.f (zg false ((xa n).map λk:Nat=>1+(k:Int)))) hh:=by
 unfold ybk;simp only;rw[zn,qe,Zp,qe];have pm:((xa n).map λk:Nat=>1+(k:Int)).Perm ((Yj n).map λd:Nat=>(d:Int)):=by
  have e:((xa n).map λk:Nat=>1+(k:Int))=(Vt 1 n).map λd:Nat=>(d:Int):=by
   rw[List.range'_eq_map_range,vg];apply Ur;intro a _;simp
  rw[e];exact((zT n h).map _).symm
 have up:((xa n).map λk:Nat=>1+(k:Int)).Pairwise (·<=·):=by
  rw[VG];exact List.pairwise_lt_range.imp λ{a b} hab=>by lia
 rw[<- YaH pm up];have nd:((Yj n).map λd:Nat=>(d:Int)).Nodup:=by
  refine VG.mpr ((Zab n h).imp λ{a b} hab e=>hab (by lia))
 rw[if_pos ⟨nd,by rw[xc,Qp];lia⟩];have e9:(((xa n).map λk:Nat=>1+(k:Int)).map λi=>MV.f (.int i))=(((xa n).map λk:Nat=>1+(k:Int)).map FV.int).map MV.f:=by simp
 rw[e9,qb];rfl
theorem QbE(n:Nat)(hz:n<=1000)(hh:MH):QP .lrg (I 1) (I ((n:Int)+1)) hh=.ok (.f (zg false ((xa n).map λk:Nat=>1+(k:Int)))) hh:=by
 unfold QP;simp only[yb,qe];rw[if_pos (by lia),show((n:Int)+1-1).toNat=n by lia];have e9:(((xa n).map λk:Nat=>1+(k:Int)).map λi=>MV.f (.int i))=(((xa n).map λk:Nat=>1+(k:Int)).map FV.int).map MV.f:=by simp
 rw[e9,qb];rfl
theorem qbT(n:Nat):spR 1 n=[(Yj n).map λd:Nat=>(d:Int)]:=by
 have l:=Qp n;unfold Yj at l;unfold spR Qs;simp only[WH,List.range_one,Wd,Vm,Nat.zero_mul,wx];rw[vk (by lia)];rfl
theorem qbW(n:Nat):spR n 1=(Yj n).map λd:Nat=>[(d:Int)]:=by
 have l:=Qp n;unfold spR Qs;rw[Nat.mul_one,qaW];show((xa n).map λi=>((Yj n).drop (i*1)).take 1).map _=_;rw[vg];apply Xo
 ·simp[l]
 ·intro i h1 h2;have hi:i<(Yj n).length:=by simpa using h2
  simp only[wl,wt,Vr,Nat.mul_one];rw[Vi hi];rfl
theorem ybI{n:Nat}(h:1<=n):GoodT 1 ((1*n:Nat):Int) (spR 1 n):=by
 rw[qbT];refine⟨by lia,by simp,⟨n,by lia,λr hr=>by rw[Uc.mp hr,xc,Qp]⟩,λr hr v hv=>?_,by simp⟩;rw[Uc.mp hr] at hv;obtain⟨d,hd,rfl⟩:=Vl.mp hv;have:=Qa0 h d hd
 lia
theorem YbB{n:Nat}(h:1<=n)(hz:n<=1000):GoodT 1 ((n*1:Nat):Int) (spR n 1):=by
 rw[qbW];refine⟨by lia,λe=>?_,⟨1,by lia,λr hr=>by obtain⟨d,_,rfl⟩:=Vl.mp hr;rfl⟩,λr hr v hv=>?_,by rw[xc,Qp];exact hz⟩
 ·have:=congrArg Vp e;rw[xc,Qp] at this;simp at this;lia
 ·obtain⟨d,hd,rfl⟩:=Vl.mp hr;rw[Uc.mp hv];have:=Qa0 h d hd
  lia
end MP
end
section
namespace MP
open PySem
section
variable (n:Nat) (h:MH)
theorem ybm(ns:List Int)(k:Int)(hk:0<=k)(hk2:k<1000000):run prog (n+4) "_law_long" [.f (.scr ns),.ref 0] (atC k::h)=.ok (B true) (atC (k+1)::h):=by
 have N:=Z8 (n+2) h ns k hk hk2;have hd:=Yar ns (k+1);generalize zaI ns (k+1)=x at N hd;have b16:∀(y:Int) hh,Yg true .mod (I y) (I 16) hh=.ok (I (y%16)) hh:=λy hh=>Yp _ _ _ (by decide);have d16:∀ hh,Yg true .fdiv (I x) (I 16) hh=.ok (I (x/16)) hh:=λhh=>ZF _ _ _ ⟨by decide,.inl (by decide)⟩;have d32:∀ hh,Yg true .fdiv (I x) (I 32) hh=.ok (I (x/32)) hh:=λhh=>ZF _ _ _ ⟨by decide,.inl (by decide)⟩;have b85:∀(y:Int) hh,Yg true .mod (I y) (I 85) hh=.ok (I (y%85)) hh:=λy hh=>Yp _ _ _ (by decide);have b2:∀(y:Int) hh,Yg true .mod (I y) (I 2) hh=.ok (I (y%2)) hh:=λy hh=>Yp _ _ _ (by decide);have h85:=zS (x/32) 85 (by decide);obtain⟨M,eM⟩:=vo (show 0<=66+x/32%85 by lia);have m1:66<=M:=by lia
 have m2:M<=150:=by lia
 by_cases c:0<x%16
 ·rw[qK];simp only[d__law_long];simp[N,b16,c]
 have Fr:=λhh (p q:Nat×Nat) p1 p2 q1 q2=>Qa2 (n+2) hh (H:=1) (W:=M) p q p1 p2 q1 q2 (by lia) (by lia);have lf:(qj M).length=M:=by unfold qj;rw[xc,zo]
 have lb:(ym M).length=M:=by unfold ym;rw[UD,lf,xc,zo,Nat.min_self]
 have nf:qj M≠[]:=λe=>by rw[e] at lf;simp at lf;lia
 have nb:ym M≠[]:=λe=>by rw[e] at lb;simp at lb;lia
 obtain⟨vf,sf1,sf2⟩:∃ v:Int,(∀ hh,qs true "max" [.f (yg (qj M))] hh=.ok (I v) hh)/\∀ hh,QP .idx (.f (yg (qj M))) (I v) hh=.ok (I (spot (qj M):Nat)) hh:=⟨_,λhh=>(YO nf hh).1,λhh=>(YO nf hh).2⟩;obtain⟨vb,sb1,sb2⟩:∃ v:Int,(∀ hh,qs true "max" [.f (yg (ym M))] hh=.ok (I v) hh)/\∀ hh,QP .idx (.f (yg (ym M))) (I v) hh=.ok (I (spot (ym M):Nat)) hh:=⟨_,λhh=>(YO nb hh).1,λhh=>(YO nb hh).2⟩;have tg:=λl hh=>qay l hh;have sl:spot (qj M)<M:=by have:=(ZaX nf).1;rwa [lf] at this
 obtain⟨i1,i2,i3⟩:=ya5 (n:=M) (by lia);have I1:=λhh=>Zap i1 hh;have I2:=λhh=>Zap i2 hh;have I3:=λhh=>Zap i3 hh;have SO:=λhh=>qbN M (by lia) (by lia) hh;have LR:=λhh=>QbE M (by lia) hh;have eqr:=qa0 false ((xa M).map λk:Nat=>1+(k:Int)) ((xa M).map λk:Nat=>1+(k:Int));rw[decide_eq_true rfl] at eqr;have eq3:=qa0 false [0,(spot (qj M):Int),(spot (ym M):Int)] [0,(spot (qj M):Int),(spot (ym M):Int)];rw[decide_eq_true rfl] at eq3;have cells:((xa M).map λk:Nat=>MV.f (qa (0,k)))=((Za 1 M).map qa).map MV.f:=by rw[Qas];simp
 have qc:∀ hh,Zc hh (.f (.lst ((Za 1 M).map qa)))=some ((Za 1 M).map (MV.f∘qa)):=λhh=>by simp
 have gc:∀ hh,qd hh (.f (.lst ((Za 1 M).map qa)))=[]:=λhh=>rfl;have inn:∀ p∈Za 1 M,p.1<1/\p.2<M:=λp hp=>qA hp;have farE:(Za 1 M).map (λp=>I (dN 1 M p (0,0):Nat))=((qj M).map λd:Nat=>FV.int d).map MV.f:=by unfold qj;simp
 have nE:∀ l:List Nat,MV.f (.lst (l.map λd:Nat=>FV.int d))=.f (yg l):=λl=>rfl;have qf:∀ l hh,Zc hh (.f (yg l))=some (l.map λd:Nat=>I d):=λl hh=>zR l hh;have gF:∀ l hh,qd hh (.f (yg l))=[]:=λl hh=>rfl;have atf:∀(l:List Nat)(i:Nat),i<l.length->atM (l.map λd:Nat=>I d) (i:Int)=some (I (l.getD i 0:Nat)):=λl i hi=>by
  rw[QC,Vc,Wc hi];simp[we,hi]
 have atc:∀ i:Nat,i<M->atM ((Za 1 M).map (MV.f∘qa)) (i:Int)=some (.f (qa ((Za 1 M).getD i (0,0)))):=λi hi=>by
  have hl:i<(Za 1 M).length:=by rw[zo];exact hi
  rw[QC,Vc,Wc hl];simp[we,hl]
 have gin:∀ i,i<M->((Za 1 M).getD i (0,0)).1<1/\((Za 1 M).getD i (0,0)).2<M:=λi hi=>inn _ (by
  have hl:i<(Za 1 M).length:=by rw[zo];exact hi
  simp[we,hl])
 have bothE:(xa M).map (λi=>I ((if dN 1 M ((Za 1 M).getD i (0,0)) ((Za 1 M).getD (spot (qj M)) (0,0))<(qj M).getD i 0 then dN 1 M ((Za 1 M).getD i (0,0)) ((Za 1 M).getD (spot (qj M)) (0,0)) else(qj M).getD i 0:Nat):Nat))=((ym M).map λd:Nat=>FV.int d).map MV.f:=by
  apply Xo
  ·simp[lb]
  ·intro i h1 h2;have hi:i<M:=by simpa using h1
   have hl:i<(Za 1 M).length:=by rw[zo];exact hi
   have z:=YbW (qj M) (Za 1 M) (λc=>dN 1 M c ((Za 1 M).getD (spot (qj M)) (0,0))) (i:=i) (by lia) hl;have e:(ym M)[i]'(by lia)=(ym M).getD i 0:=by simp[we,show i<(ym M).length by lia]
   simp only[wl,wt,e];unfold ym;rw[z]
 have c00:MV.f (.tup [.int 0,.int 0])=.f (qa (0,0)):=rfl;have rl:=Qp M;have S1:=λhh=>qr n hh (H:=1) (W:=M) (by lia) (by lia) (by lia) (by lia) (by lia) (ybI (by lia));have S2:=λhh=>qr n hh (H:=M) (W:=1) (by lia) (by lia) (by lia) (by lia) (by lia) (YbB (by lia) (by lia));have f1:∀(cc:Int) rs hh,YaL prog.fok "rows" (.f (Yo cc rs)) hh=some (.f (zj true true rs)):=λcc rs hh=>by simp[Yo]
 have rowE:MV.f (zg false ((Yj M).map λd:Nat=>(d:Int)))=.f (yg (Yj M)):=by rw[qaF]
 have x0:x%16=0:=by have:=zS x 16 (by decide);lia
 have J1:∀ hh,QP .idx (.f (yg (Yj M))) (I 1) hh=.ok (I 0) hh:=I1;have J2:∀ hh,QP .idx (.f (yg (Yj M))) (I 2) hh=.ok (I (spot (qj M):Nat)) hh:=I2;have J3:∀ hh,QP .idx (.f (yg (Yj M))) (I 3) hh=.ok (I (spot (ym M):Nat)) hh:=I3;have lo:∀ hh,listOf hh (.f (yg (Yj M)))=some ((Yj M).map λd:Nat=>I d):=λhh=>zn _ hh;have r14:∀ hh,itV "range" [I 1,I 4] hh=some ([I 1,I 2,I 3],[]):=λhh=>by rw[zab _ _ _ (by decide)];rfl
 have s0:∀ k:Nat,k<100->k<sizeL:=λk hk=>by rw[Ze];lia
 have l3:∀ a b c:Int,FV.lst [.int a,.int b,.int c]=zg false [a,b,c]:=λ_ _ _=>rfl;have eM1:(M:Int)+1=(M:Int)+1:=rfl;have fin:Zd prog (run prog (n+3)) (d__law_long.body.drop 9) [some (.f (.scr ns)),some (.ref 0),some (I x),some (I M),some (.f (.lst ((Za 1 M).map qa))),some (.f (yg (qj M))),some (I (spot (qj M):Nat)),some (.f (yg (ym M))),some (I (spot (ym M):Nat)),some (.f (yg (Yj M)))] (atC (k+1)::h)=.ret (B true) (atC (k+1)::h):=by
  simp only[d__law_long,VD,wx];generalize yg (Yj M)=rv at *;generalize spot (qj M)=s1 at *;generalize spot (ym M)=s2 at *;generalize zg false ((xa M).map λk:Nat=>1+(k:Int))=tv at *;simp[SO,LR,eqr,r14,MP.stM,qh,Zi,J1,J2,J3,lo,s0,qk,l3,eq3]
 have e:d__law_long.body=d__law_long.body[0]::d__law_long.body[1]::d__law_long.body[2]::d__law_long.body[3]::d__law_long.body[4]::d__law_long.body[5]::d__law_long.body[6]::d__law_long.body[7]::d__law_long.body[8]::d__law_long.body.drop 9:=rfl;rw[qK,e];generalize d__law_long.body.drop 9=BB at *;clear SO LR eqr eq3 I1 I2 I3 J1 J2 J3 i1 i2 i3 r14;simp only[d__law_long,vB,VB];have FA:∀ hh (p:Nat×Nat),p.1<1->p.2<M->run prog (n+3) "_law_far" [.f (qa p),.f (.tup [.int 0,.int 0]),I 1,I M] hh=.ok (I (dN 1 M p (0,0):Nat)) hh:=λhh p p1 p2=>Fr hh p (0,0) p1 p2 (by decide) (show 0<M by lia);have FB:∀ hh (p q:Nat×Nat),p.1<1->p.2<M->q.1<1->q.2<M->run prog (n+3) "_law_far" [.f (qa p),.f (qa q),I 1,I M] hh=.ok (I (dN 1 M p q:Nat)) hh:=Fr;have A1:∀ hh,run prog (n+3) "spread_tile" [I 1,I M] hh=.ok (.f (Yo ((1*M:Nat):Int) (spR 1 M))) hh:=S1;have A2:∀ hh,run prog (n+3) "spread_tile" [I M,I 1] hh=.ok (.f (Yo ((M*1:Nat):Int) (spR M 1))) hh:=S2;simp[N,b16,x0,d32,b85,eM,Zk _ (M:Int) (by lia),MP.stM];rw[Zh (e:=λk:Nat=>I k) (g:=λk=>MV.f (qa (0,k))) (xa M) [] none (by simp[Ze];lia) (λc _ z=>⟨some (I c),by simp[Zi]⟩)];simp only[wg,R.bind_ok,cells,qb];generalize hcv:FV.lst ((Za 1 M).map qa)=cv at *;simp[qc,gc,MP.stM];rw[Zh (e:=MV.f∘qa) (g:=λp=>I (dN 1 M p (0,0):Nat)) (Za 1 M) [] none (by rw[zo];simp[Ze];lia) (λp hp z=>⟨some (.f (qa p)),by
  have:=FA (atC (k+1)::h) p (inn p hp).1 (inn p hp).2;simp[Zi,this]⟩)]
 simp only[wg,R.bind_ok,farE,qb,nE];simp[sf1,sf2,tg,Zk _ (M:Int) (by lia),MP.stM,zn];rw[Zh (e:=λk:Nat=>I k) (g:=λi=>I ((if dN 1 M ((Za 1 M).getD i (0,0)) ((Za 1 M).getD (spot (qj M)) (0,0))<(qj M).getD i 0 then dN 1 M ((Za 1 M).getD i (0,0)) ((Za 1 M).getD (spot (qj M)) (0,0)) else(qj M).getD i 0:Nat):Nat)) (xa M) [] none (by simp[Ze];lia) (λi hi z=>⟨some (I i),by
  have hi:=Wi.mp hi;have g1:=gin i hi;have g2:=gin _ sl;have a1:=atf (qj M) i (by lia);have a2:=atc i hi;have a3:=atc _ sl;have f:=FB (atC (k+1)::h) _ _ g1.1 g1.2 g2.1 g2.2;generalize (Za 1 M).getD i (0,0)=p at *;generalize (Za 1 M).getD (spot (qj M)) (0,0)=p2 at *;generalize (qj M).getD i 0=d1 at *;generalize dN 1 M p p2=d2 at *;generalize spot (qj M)=s1 at *;generalize qa p=cp at *;generalize qa p2=cp2 at *;simp[Zi,qf,a1,qc,a2,a3,f];split <;> rfl⟩)]
 simp only[wg,R.bind_ok,bothE,qb,nE];simp[sb1,sb2,tg,zn,d16,b2];by_cases cx:x/16%2=0
 ·have q1:∀ hh,Zc hh (.f (zj true true (spR 1 M)))=some [MV.f (zg true ((Yj M).map λd:Nat=>(d:Int)))]:=λhh=>by rw[qbT];rfl
  have a1:atM [MV.f (zg true ((Yj M).map λd:Nat=>(d:Int)))] 0=some (.f (zg true ((Yj M).map λd:Nat=>(d:Int)))):=rfl;have bl:∀ hh,qs true "list" [.f (zg true ((Yj M).map λd:Nat=>(d:Int)))] hh=.ok (.f (yg (Yj M))) hh:=λhh=>by
   rw[qaF,Zbc];simp[zg,sq]
  have f2:=f1 ((1*M:Nat):Int) (spR 1 M);clear f1;generalize Yo ((1*M:Nat):Int) (spR 1 M)=tv at *;generalize zj true true (spR 1 M)=rr at *;generalize zg true ((Yj M).map λd:Nat=>(d:Int))=r1 at *;simp[cx,A1,f2,q1,a1,bl,fin]
 ·have q1:∀ hh,Zc hh (.f (zj true true (spR M 1)))=some ((Yj M).map λd:Nat=>MV.f (.tup [.int d])):=λhh=>by rw[qbW];simp[zj,zg,sq,Vf]
  have g1:∀ hh,qd hh (.f (zj true true (spR M 1)))=[]:=λhh=>rfl;have f2:=f1 ((M*1:Nat):Int) (spR M 1);clear f1;generalize Yo ((M*1:Nat):Int) (spR M 1)=tv at *;generalize zj true true (spR M 1)=rr at *;simp[cx,A2,f2,q1,g1,MP.stM];rw[Zh (e:=λd:Nat=>MV.f (.tup [.int d])) (g:=λd:Nat=>I (d:Nat)) (Yj M) [] none (by rw[rl];simp[Ze];lia) (λd _ z=>⟨some (.f (.tup [.int d])),by simp[Zi]⟩)];have e9:(Yj M).map (λd:Nat=>I (d:Nat))=((Yj M).map λd:Nat=>FV.int d).map MV.f:=by simp
  simp only[wg,R.bind_ok,e9,qb,nE];simp[fin]
end
section
variable (n:Nat)
theorem run_law(ns:List Int)(hl:ns.length<=63):∃ g,run prog (n+5) "law" [.f (.scr ns)] []=.ok (B true) g:=by
 suffices Ret (run prog (n+5) "law" [.f (.scr ns)] []) λv h'=>v=B true by
  obtain⟨v,h',e,rfl⟩:=this;exact⟨h',e⟩
 refine Ret.of λQ hQ=>?_;have L:=ybm n [] ns 0 (by decide) (by decide);simp at L;rw[YbJ,ybn];generalize hTT:zaX=TT at *;simp only[d_law,vB,VB,VD,wx];simp[L,Zk _ (2:Int) (by lia)];refine ZU (Q:=λr=>Ret (Yf _ r) _) 2 (λi σ hh=>∃(g:MH)(y2 y3 y4 y5 y6 y7 y8 y9 y10:Option MV),hh=atC (1+2*(i:Int))::g/\σ=[some (.f (.scr ns)),some (.ref 0),y2,y3,y4,y5,y6,y7,y8,y9,y10]) ⟨[],none,none,none,none,none,none,none,none,none,by simp,rfl⟩ ?_ ?_
 ·rintro i σ hh hi ⟨g,y2,y3,y4,y5,y6,y7,y8,y9,y10,rfl,rfl⟩ Q hQ;obtain⟨σ2,h2,e2,g2,w3,w4,w5,w6,w7,w8,w9,w10,rfl,rfl⟩:=turn n ns (1+2*(i:Int)) g (by lia) (by lia) (some (I i)) y3 y4 y5 y6 y7 y8 y9 y10;rw[hTT] at e2;simp[zE,e2];exact hQ _ _ ⟨g2,_,_,_,_,_,_,_,_,_,by rw[show(1:Int)+2*((i+1:Nat):Int)=1+2*(i:Int)+2 by lia],rfl⟩
 ·rintro σ hh ⟨g,y2,y3,y4,y5,y6,y7,y8,y9,y10,rfl,rfl⟩;have lv:=Zan [] (atC (1+2*((2:Nat):Int))::g) (.bl true);simp only[wg] at lv;simp at lv;simp[lv];exact hQ _ _ rfl
end
end MP
end
section
namespace SD
open PySem L2 L3 M3 MP PyProof.Rows
noncomputable def top(i:Nat):Stmt:=PySem.Challenge.pw_dotscreen_k13_spread.main.body.getD i (.Pass ⟨0,0,0,0⟩)
noncomputable abbrev zae:Stmt:=top 13
theorem ZaK:zk prog yD ["rows"] ["rows"] zae=true:=by decide +kernel
noncomputable abbrev yad:Stmt:=top 14
theorem zaU:zk prog QB ["rows","least","greatest","row"] ["rows","least","greatest"] yad=true:=by decide +kernel
noncomputable abbrev qD:Stmt:=top 15
theorem ZX:zk prog d_cells_by_rows ["high","wide","cells","row"] ["high","wide"] qD=true:=by decide +kernel
noncomputable abbrev QD:Stmt:=qbR (top 17) 0
theorem zZ:zk prog Yl ["self","count","rows","kept","fault"] ["self","count","rows"] QD=true:=by decide +kernel
noncomputable abbrev yK:Stmt:=top 19
theorem Qag:zk prog d_spread_tile ["high","wide","cells","numbers","nearest","number","place","apart"] ["high","wide"] yK=true:=by decide +kernel
noncomputable abbrev Yac:Stmt:=top 20
theorem zaT:zk prog d_distance ["one","other","high","wide","down","right"] ["one","other","high","wide"] Yac=true:=by decide +kernel
noncomputable abbrev qO:Stmt:=top 21
theorem yao:zk prog d_round_edge ["far","side"] ["far","side"] qO=true:=by decide +kernel
noncomputable abbrev QU:Stmt:=top 23
theorem yaG:zk prog qx ["_law_script","_law_at","_law_cell","_law_m"] ["_law_script","_law_at"] QU=true:=by decide +kernel
noncomputable abbrev YW:Stmt:=top 24
theorem yax:zk prog d__law_same ["_law_found","_law_due"] ["_law_found","_law_due"] YW=true:=by decide +kernel
noncomputable abbrev QW:Stmt:=top 25
theorem QaJ:zk prog d__law_told ["_law_rows"] ["_law_rows"] QW=true:=by decide +kernel
noncomputable abbrev QH:Stmt:=top 26
theorem Y7:zk prog d__law_is_tile ["_law_found","_law_count","_law_rows"] ["_law_found","_law_count","_law_rows"] QH=true:=by decide +kernel
noncomputable abbrev zV:Stmt:=top 27
theorem qaI:zk prog d__law_only ["_law_caught","_law_kind","_law_found"] ["_law_caught","_law_kind"] zV=true:=by decide +kernel
noncomputable abbrev qae:Stmt:=top 28
theorem yaS:zk prog d__law_far ["_law_one","_law_other","_law_rows","_law_columns","_law_down","_law_along"] ["_law_one","_law_other","_law_rows","_law_columns"] qae=true:=by decide +kernel
noncomputable abbrev zK:Stmt:=top 29
theorem Qaf:zk prog d__law_spread ["_law_rows","_law_columns","_law_left","_law_r","_law_near","_law_found","_law_spot","_law_cell"] ["_law_rows","_law_columns"] zK=true:=by decide +kernel
noncomputable abbrev Yw:Stmt:=top 30
theorem zM:zk prog d__law_spread_size ["_law_script","_law_at","_law_m","_law_sizes"] ["_law_script","_law_at"] Yw=true:=by decide +kernel
noncomputable abbrev zF:Stmt:=top 31
theorem Y6:zk prog d__law_refused ["_law_rows","_law_columns","_law_caught","e"] ["_law_rows","_law_columns"] zF=true:=by decide +kernel
noncomputable abbrev yV:Stmt:=top 32
theorem zax:zk prog d__law_long ["_law_script","_law_at","_law_m","_law_many","_law_cells","_law_far_here","_law_two","_law_both","_law_three","_law_row"] ["_law_script","_law_at"] yV=true:=by decide +kernel
noncomputable abbrev yQ:Stmt:=top 33
theorem ZbS:zk prog d_law ["_law_script","_law_at","_law_turn","_law_rows","_law_columns","_law_made","_law_number","_law_cell","_law_distance","_law_m","_law_sizes"] ["_law_script"] yQ=true:=by decide +kernel
end SD
end
section
namespace SD
open PySem PySem.Spec PyProof.Rows L2 L3 M3 MP
noncomputable def ctOf(K:PySem.W.Frag)(yz c0 c1 c2 c3 c4 c5 c6 c7 c8 c9 B:Addr):Tx:=⟨(λs=>match s with
  |"Tile"=>yz
  |"NoPicture"=>c0
  |"OutOfPicture"=>c1
  |"NoMeet"=>c2
  |"NoTile"=>c3
  |"NoInks"=>c4
  |"NoShares"=>c5
  |"NoShade"=>c6
  |"NoStretches"=>c7
  |"NoWay"=>c8
  |"NoText"=>c9
  |"DotError"=>B
  |_=>0),K,0,0,⟨0,0,0,0⟩,Str.ofString ""⟩
theorem all_mk{l:PySem.W.OpenLaw}{w:World}{K:PySem.W.Frag}{h:Heap}{mg:Str->Option Value}{fa:Addr}{cd0:ClassData}{c0:Addr}{cd1:ClassData}{c1:Addr}{cd2:ClassData}{c2:Addr}{cd3:ClassData}{c3:Addr}{cd4:ClassData}{c4:Addr}{cd5:ClassData}{c5:Addr}{cd6:ClassData}{c6:Addr}{cd7:ClassData}{c7:Addr}{cd8:ClassData}{c8:Addr}{cd9:ClassData}{c9:Addr}{B:Addr}{yz:Addr}{QbR:ClassData}{yaB:Addr}{qby:Addr}{QbX Zbo:Option Addr}{zbZ:Array (Option Value)}{zb3 Ybw Zbm qbw ZaS zbk:Value}(X:K.In h)(G:h.Ns mainGlobals mg)(hfa:mg "law"=some (.ref fa))
  (yaL:Src K mg "own_rows" zae ["rows"]) (YaK:Src K mg "fault_of" yad ["rows","least","greatest"]) (yX:Src K mg "cells_by_rows" qD ["high","wide"]) (qai:Src K mg "spread_tile" yK ["high","wide"]) (QaT:Src K mg "distance" Yac ["one","other","high","wide"]) (Zas:Src K mg "round_edge" qO ["far","side"]) (Qay:Src K mg "_law_next" QU ["_law_script","_law_at"]) (QaB:Src K mg "_law_same" YW ["_law_found","_law_due"]) (YaJ:Src K mg "_law_told" QW ["_law_rows"]) (Z2:Src K mg "_law_is_tile" QH ["_law_found","_law_count","_law_rows"]) (QaG:Src K mg "_law_only" zV ["_law_caught","_law_kind"]) (qaN:Src K mg "_law_far" qae ["_law_one","_law_other","_law_rows","_law_columns"]) (Zag:Src K mg "_law_spread" zK ["_law_rows","_law_columns"]) (zL:Src K mg "_law_spread_size" Yw ["_law_script","_law_at"]) (Zaa:Src K mg "_law_refused" zF ["_law_rows","_law_columns"]) (QaD:Src K mg "_law_long" yV ["_law_script","_law_at"]) (S_law:Src K mg "law" yQ ["_law_script"])
  (zb:∀ x∈(["abs","all","bool","dict","divmod","enumerate","int","isinstance","len","list","max","min","range","reversed","set","sorted","str","sum","tuple","zip"]:List Str),uq K mainGlobals x=some none)
  (Zao:uq K mainGlobals "ValueError"=some none)
  (x0:XA K "NoPicture" c0 cd0)
  (x1:XA K "OutOfPicture" c1 cd1)
  (x2:XA K "NoMeet" c2 cd2)
  (x3:XA K "NoTile" c3 cd3)
  (x4:XA K "NoInks" c4 cd4)
  (x5:XA K "NoShares" c5 cd5)
  (x6:XA K "NoShade" c6 cd6)
  (x7:XA K "NoStretches" c7 cd7)
  (x8:XA K "NoWay" c8 cd8)
  (x9:XA K "NoText" c9 cd9)
  (aB:uq K mainGlobals "DotError"=some (some (.ref B)))
  (qB:Wy K B bmV "ValueError.__new__"=true)
  (gn:wm K (.builtin "object.__class__") "__get__"=some (some (.builtin "getset_descriptor.__get__")))
  (tk:wn K (.builtin "object.__class__")=some true)
  (z3:XC K c3 B c0 c1 c2 c3 c4 c5 c6 c7 c8 c9 cd3 false false false true false false false false false false)
  (kC_Tile:CK K "Tile" yz QbR)
  (Qau:ue K (.ref yz) "count"=some none)
  (ZaI:ue K (.ref yz) "rows"=some none)
  (ik_Tile:IK K yz yaB)
  (fi_Tile:FE K "__init__" "Tile.__init__" QD yaB)
  (al:uq K mainGlobals "law"=some (some (.ref qby)))
  (ll:K.lookup qby=some ⟨zb3,QbX,.func (Xi "law" "law" (Qj yQ) (zh yQ) (Qb yQ) .none Ybw Zbm qbw Zbo ZaS zbk),zbZ⟩)
  (kl:um K ZaS "law"=true)
  (kq:Wh K (.ref qby)=true) :
  ∃ fd:FuncData,(∀(s:Shared)(v:Value),BindsTo s fd ⟨[v],[]⟩ [("_law_script",v)])/\∀ base:Heap,K.In base->base.Ns mainGlobals mg->FnOk l.prog w K mg base (CX1 l.prog w) 10 fa fd ["_law_script"] (qa1 K):=by
 have e:=hfa.symm.trans (Xh X G al);cases e;have Fl:=zaR (st:=yQ) ll kl kq;have TM:yaQ (qa2 K mg prog (ctOf K yz c0 c1 c2 c3 c4 c5 c6 c7 c8 c9 B)) methsL:=⟨zb2 X G kC_Tile fi_Tile ik_Tile (λ_ _ _ _ _ _ us hl=>by obtain⟨_,_,_,rfl⟩:=ln3 hl;rfl) zZ rfl,trivial⟩;have TS:yaQ (SubP K mg (ctOf K yz c0 c1 c2 c3 c4 c5 c6 c7 c8 c9 B)) subsL:=⟨sub_c X G kC_Tile kC_Tile kC_Tile.s0 rfl,Yaj kC_Tile rfl,Yaj kC_Tile rfl,Yaj kC_Tile rfl,Yaj kC_Tile rfl,Yaj kC_Tile rfl,Yaj kC_Tile rfl,trivial⟩;have T:Text K mg prog (ctOf K yz c0 c1 c2 c3 c4 c5 c6 c7 c8 c9 B):=by
  refine⟨rfl,?_,?_,?_,?_,?_,?_,?_,?_,?_,?_,?_,?_,?_,?_,?_,?_,?_⟩
  ·exactλf d hd hdot=>yam (L:=defsL) (P:=λf d=>f.toList.contains '.'=false->∃ st N ps,Src K mg (Str.ofString f) st ps/\(zk prog d N ps st=true\/Zbl K mg prog (ctOf K yz c0 c1 c2 c3 c4 c5 c6 c7 c8 c9 B) f ps)) (by
   refine⟨?_,?_,?_,?_,?_,?_,?_,?_,?_,?_,?_,?_,?_,?_,?_,?_,?_,?_,trivial⟩
   ·exactλ_=>⟨_,_,_,yaL,.inl ZaK⟩
   ·exactλ_=>⟨_,_,_,YaK,.inl zaU⟩
   ·exactλ_=>⟨_,_,_,yX,.inl ZX⟩
   ·exactλhdot=>absurd hdot (by decide)
   ·exactλ_=>⟨_,_,_,qai,.inl Qag⟩
   ·exactλ_=>⟨_,_,_,QaT,.inl zaT⟩
   ·exactλ_=>⟨_,_,_,Zas,.inl yao⟩
   ·exactλ_=>⟨_,_,_,Qay,.inl yaG⟩
   ·exactλ_=>⟨_,_,_,QaB,.inl yax⟩
   ·exactλ_=>⟨_,_,_,YaJ,.inl QaJ⟩
   ·exactλ_=>⟨_,_,_,Z2,.inl Y7⟩
   ·exactλ_=>⟨_,_,_,QaG,.inl qaI⟩
   ·exactλ_=>⟨_,_,_,qaN,.inl yaS⟩
   ·exactλ_=>⟨_,_,_,Zag,.inl Qaf⟩
   ·exactλ_=>⟨_,_,_,zL,.inl zM⟩
   ·exactλ_=>⟨_,_,_,Zaa,.inl Y6⟩
   ·exactλ_=>⟨_,_,_,QaD,.inl zax⟩
   ·exactλ_=>⟨_,_,_,S_law,.inl ZbS⟩) hd hdot
  ·exactλc f hi=>zcc TM hi
  ·intro x hx;simp only[fnNames,tyNames,isTys,wA,wg,Ua,Xc,or_false] at hx
   rcases hx with rfl|rfl|rfl|rfl|rfl|rfl|rfl|rfl|rfl|rfl|rfl|rfl|rfl|rfl|rfl|rfl|rfl|rfl|rfl|rfl
   all_goals exact UF X G (zb _ (by simp))
  ·intro c f hf;simp only[prog] at hf;split at hf
   ·exact⟨⟨kC_Tile.pg,kC_Tile.hd,kC_Tile.po,kC_Tile.sa⟩,Qau⟩
   ·exact⟨⟨kC_Tile.pg,kC_Tile.hd,kC_Tile.po,kC_Tile.sa⟩,ZaI⟩
   ·cases hf
  ·exactλc t b hs=>clsT (t:=t) TS hs gn tk
  ·exactλc t b hs ht=>((zp TS hs).2.2.1 ht).2
  ·exactλc t b hs ht=>(zp TS hs).2.2.2 ht
  ·exactλt c b hs ht TT hTT=>tyT (c:=c) TS hs ht hTT
  ·intro c hc;simp only[prog] at hc;split at hc
   ·exact⟨z3.q,Xh X G x3.a⟩
   ·cases hc
  ·intro wd hw;simp only[prog] at hw;cases hw
  ·intro t ht;simp only[prog] at ht;split at ht
   ·rw[if_neg (by decide)];exact Xh X G x0.a
   ·rw[if_neg (by decide)];exact Xh X G x1.a
   ·rw[if_neg (by decide)];exact Xh X G x2.a
   ·rw[if_neg (by decide)];exact Xh X G x3.a
   ·rw[if_neg (by decide)];exact Xh X G x4.a
   ·rw[if_neg (by decide)];exact Xh X G x5.a
   ·rw[if_neg (by decide)];exact Xh X G x6.a
   ·rw[if_neg (by decide)];exact Xh X G x7.a
   ·rw[if_neg (by decide)];exact Xh X G x8.a
   ·rw[if_neg (by decide)];exact Xh X G x9.a
   ·rw[if_pos rfl];exact UF X G Zao
   ·cases ht
  ·intro c t b hs;simp only[prog] at hs;split at hs
   ·refine⟨(z3.word gn tk x3 x0 x1 x2 x3 x4 x5 x6 x7 x8 x9 3 (by decide) rfl).z,?_⟩;split at hs
    ·cases hs;rw[if_neg (by decide)];exact Zf z3.ss x0.ci x0.ty z3.s0
    ·cases hs;rw[if_neg (by decide)];exact Zf z3.ss x1.ci x1.ty z3.s1
    ·cases hs;rw[if_neg (by decide)];exact Zf z3.ss x2.ci x2.ty z3.s2
    ·cases hs;rw[if_neg (by decide)];exact Zf z3.ss x3.ci x3.ty z3.s3
    ·cases hs;rw[if_neg (by decide)];exact Zf z3.ss x4.ci x4.ty z3.s4
    ·cases hs;rw[if_neg (by decide)];exact Zf z3.ss x5.ci x5.ty z3.s5
    ·cases hs;rw[if_neg (by decide)];exact Zf z3.ss x6.ci x6.ty z3.s6
    ·cases hs;rw[if_neg (by decide)];exact Zf z3.ss x7.ci x7.ty z3.s7
    ·cases hs;rw[if_neg (by decide)];exact Zf z3.ss x8.ci x8.ty z3.s8
    ·cases hs;rw[if_neg (by decide)];exact Zf z3.ss x9.ci x9.ty z3.s9
    ·cases hs;rw[if_pos rfl];exact YaM Qae z3.sv
    ·cases hs
   ·cases hs
  ·exactλf ds h=>nomatch (show false=true from h)
  ·exactλc m f hm _=>yb5 TM hm
  ·exactλc hc=>nomatch (show false=true from hc)
  ·intro x i hx;simp only[prog] at hx;cases hx
  ·intro _;refine⟨qB,Xh X G aB,?_⟩;intro c b hs;simp only[prog] at hs;split at hs
   ·exact z3.un_of x3
   ·cases hs
 exact⟨Xi "law" "law" (Qj yQ) (zh yQ) (Qb yQ) .none Ybw Zbm qbw Zbo ZaS zbk,λs v=>.of_eq rfl,λbase kb _=>qcg (n:=4) T kb (λz=>absurd rfl z) Fl rfl ZbS (λns hl=>MP.run_law 0 ns hl)⟩
end SD
open PySem PySem.W PyProof.Rows L2 L3 M3 SD
set_option maxRecDepth 100000 in
set_option maxHeartbeats 0 in
theorem PySem.Challenge.cw_dotscreen_k13_spread_holds : PySem.Challenge.rw_dotscreen_k13_spread.Holds := by
 w_on;o_law;k_head;(case hw=>w_witness2)
 k_fill
 refine SD.walk (l:=PySem.Challenge.rw_dotscreen_k13_spread) (k:=10) rfl rfl ⟨rfl,by decide,by decide⟩ (λw h Y=>PySem.W.kIn_of Y) ?F
 case F =>
  intro w mg fa h KX G hmg;refine' SD.all_mk KX G hmg ?s0 ?s1 ?s2 ?s3 ?s4 ?s5 ?s6 ?s7 ?s8 ?s9 ?s10 ?s11 ?s12 ?s13 ?s14 ?s15 ?s16  ?x0 ?x1 ?x2 ?x3 ?x4 ?x5 ?x6 ?x7 ?x8 ?x9 ?x10 ?x11 ?x12 ?x13 ?x14 ?x15 ?x16 ?x17 ?x18 ?x19 ?x20 ?x21 ?x22 ?x23 ?x24 ?x25
  (case s0|s8|s16 =>
   try dsimp only[L2.KOf]
   refine' SD.src_mk KX G (λ_ _ _ _ _ _ us hl=>by obtain⟨_,rfl⟩:=SD.ln1 hl;rfl) ?a ?l ?c ?k
   (case a|l|c|k=>k_is))
  (case s1|s9 =>
   try dsimp only[L2.KOf]
   refine' SD.src_mk KX G (λ_ _ _ _ _ _ us hl=>by obtain⟨_,_,_,rfl⟩:=SD.ln3 hl;rfl) ?a ?l ?c ?k
   (case a|l|c|k=>k_is))
  (case s2|s3|s5|s6|s7|s10|s12|s13|s14|s15 =>
   try dsimp only[L2.KOf]
   refine' SD.src_mk KX G (λ_ _ _ _ _ _ us hl=>by obtain⟨_,_,rfl⟩:=SD.ln2 hl;rfl) ?a ?l ?c ?k
   (case a|l|c|k=>k_is))
  (case s4|s11 =>
   try dsimp only[L2.KOf]
   refine' SD.src_mk KX G (λ_ _ _ _ _ _ us hl=>by obtain⟨_,_,_,_,rfl⟩:=SD.ln4 hl;rfl) ?a ?l ?c ?k
   (case a|l|c|k=>k_is))
  (case x17=>
   refine' SD.CK.mk ?a ?b ?c ?d ?e ?f ?g ?h ?i ?j ?k ?l ?m ?n ?o ?z
   (case a|b|c|d|e|f|g|h|i|j|k|l|m|n|o|z=>k_is))
  (case x2|x3|x4|x5|x6|x7|x8|x9|x10|x11=>
   refine' SD.XA.mk ?a ?b ?c
   (case a|b|c=>k_is))
  (case x1|x12|x14|x15|x18|x19|x22|x23|x24|x25=>k_is)
  (case x20=>
   refine' SD.IK.mk ?a ?b ?c
   (case a|b|c=>k_is))
  (case x21=>
   refine'⟨_,_,_,_,_,_,_,_,_,SD.FK.mk ?a ?b ?c ?d⟩
   (case a|b|c|d=>k_is))
  (case x13=>k_exc)
  (case x16=>
   refine' SD.XC.mk ?u ?v ?a ?b ?c ?d ?e ?f ?g ?h ?i ?j ?k ?l ?m ?n ?o ?z
   (case u=>k_exc);(case v=>rfl)
   (case a|b|c|d|e|f|g|h|i|j|k|l|m|n|o|z=>k_is))
  (case x0=>intro z hz;simp only[Ua,Xc,or_false] at hz;rcases hz with rfl|rfl|rfl|rfl|rfl|rfl|rfl|rfl|rfl|rfl|rfl|rfl|rfl|rfl|rfl|rfl|rfl|rfl|rfl|rfl <;> k_is)
end