import PyProof.Rows.All
import Wide.All
import OpenK.AllK
import Wide.FinOn
import PySem.Challenge.RW_dotscreen_k61_texts_refused
import Lean
import PyProof.EqAt
import PyProof.EqKinds
import PyProof.TupleCall
import PyProof.CompFree
import PyProof.StationsW
import PyProof.ExcClass3
import PyProof.Cells
import PyProof.PassesOwn
import PyProof.RangeIter
import PyProof.TableTree
import PyProof.ZipIter
import PyProof.Draws
import PyProof.TupleIter
import PyProof.EnumMake
import PyProof.EnumStmt
import KE.KDictList
import PyProof.Rows.SortWalk
import KE.KRevIter
import PyProof.CollectIter
import KE.KRevSl
import KE.KMinKey
import KE.KLam
import PyProof.DictIter
import PyProof.AttrMiss
import PyProof.IsiH_list
import PyProof.CollectWalk
import KE.KDictOf
import PyProof.DictCopy
import PyProof.FactsAll.tuple_1
import PyProof.FactsAll.dict_3
import PyProof.DictItems
import KE.KIntText
import PyProof.StrBlock2
import PyProof.Rows.StrMul
import PySem.SetOps
import PySem.Builtin.Tuple.Common
import PyProof.Rows.SetFrom
import PyProof.SetRoads
import PyProof.WalksS
import KE.KItemsList
import KE.KSortAsk
import KE.KFind
import KE.KSortTup
import PyProof.Rows.SortShell
import PyProof.ListRange
import PyProof.ExcInit
import PyProof.InstStoreFacts
import PyProof.Rows.FStr
import PySem.Str
import PyProof.StrBlockL
import KE.IntTextText
import KE.IntBitsLaws
import PyProof.FitsBits
import PyProof.Rows.InDataRows
import PyProof.StrLawsTight
set_option maxHeartbeats 4000000
open PySem.Heap renaming get?_push_of_some->wa,lt_size->ua,get?_push_size->Wb,get?_update_other->uf,size_push->xh,get?_update_self->xj,get?_none_of_le->um,size_after_update->vw,get?_push_at->WB
open Bool renaming and_eq_true->Wa,noConfusion->Vf,not_eq_true'->Vg,false_ne_true->Wh,or_eq_true->Xi,false_eq_true->vk,and_eq_true_iff->Vs,true_and->Xu,or_true->wz,true_eq_false->Uz
open List renaming mem_cons->xa,getElem?_eq_some_iff->Xa,mem_singleton->Ua,getElem?_append_left->va,lookup_cons->Va,not_mem_nil->Ub,size_toArray->vb,map_cons->xc,mem_of_getElem?->Xc,mem_append_right->uc,getElem?_set_self->vc,replicate->Wd,getElem?_append_right->Xd,mem_append_left->ud,getElem?_set_ne->Ud,length_map->Vd,getElem?_eq_getElem->we,getElem?_map->We,length_cons->ue,range->Ue,mem_cons_of_mem->Ve,length_append->xf,mem_append->Uf,nil_append->vf,getD_eq_getElem?_getD->Ug,mem_cons_self->uh,length_pos_iff->Vh,cons_append->ui,map_map->Ui,all_eq_true->Vj,getElem_mem->uk,getElem?_take_of_lt->Vk,mem_map->Wl,eq_nil_of_length_eq_zero->Xl,replicate_succ->ul,contains_cons->wm,length_replicate->xm,append_assoc->Xm,getElem?_mapIdx->Um,mapM_cons->Wn,map_nil->Xn,getElem?_replicate->vn,append_nil->wo,take_of_length_le->Wo,flatten_cons->xo,ext_getElem?->uo,length_take->Uo,lookup->Vo,length->xp,filterMap_cons->Xp,mem_or_eq_of_mem_set->wq,mem_range->uq,length_drop->wr,take_length->xr,mem_flatMap->ur,nodup_cons->Ur,length_nil->Vr,map_append->Xs,getElem_of_mem->vt,getElem?_range->Vt,take->Wu,sum_cons->uu,take_add_one->Wv,nodup_append->xv,getElem?_inj->Xv,drop_eq_getElem_cons->uv,of_mem_zip->Ww,length_set->xw,forIn_cons->Xw,length_singleton->Xx,getElem?_eq_none->Ux,getElem?_zipIdx->Vx,mem_filterMap->uy,foldlM_append->Xz,length_mapIdx->uz,getD->vz,map_set->Vz,drop->wA,zipIdx_cons->UB,drop_length->VB,foldl->wC
open Nat renaming le_refl->wb,ne_of_lt->Vb,lt_of_lt_of_le->Wc,le_trans->Xe,lt_irrefl->Wi,lt_succ_self->Uj,ne_of_gt->Ul,le_of_eq->Vl,mul_le_mul_right->vm,lt_succ_of_lt->Xo,zero_le->Wp,lt_trans->Wq,toDigits->Xq,add_mul->Uq,le_of_not_lt->Wr,min_le_left->Us,zero_add->Xt,le_of_lt->Uv,le_succ->Vw,log2_lt->Wx,one_mul->xx,pow_le_pow_right->vx,le_add_right->vB
open Option renaming bind_eq_some_iff->Xb,map_eq_some_iff->ub,isSome_iff_exists->Wg,map_some->wj,bind_some->Xk,bind_eq_bind->Up,getD_some->Xr,pure_def->uw,getD_none->uB
open PySem.W renaming findIn->wc,subIn->Uc,kitOne->Vc,mg_of->Wf,emptyDict->wg,instObj->xg,keepIn->Xg,clsIn->ug,fnOf->vg,kia_one->Uh,nsIn->xi,looks_findIn->Xj,specialIn->uj,codeIn->Uk,hasDictIn->xl,takesIn->Wm,typeIn->Vm,mroIn->Vn,makesIn->Vp,excIn->vq,plainGet->Vq,kitMeta->wt,looks_clsIn->Ut,lookIn->wu,methodObj->Uu,plainOver->Vu,makes_of->vv,isFn->Vv,takerIn->ww,cellsFrom_some->Uw,kitCls->ux,findObj_own->wy,isNs_of_in->vy,looks_find->Vy,callWith_K->Wz,mg_none_of->WA,check_slot->xA,set_plain->uA,make_core->UA,kitx_list->vA,kitx_dict->VA,handedIn->xB
open Int renaming eq_ofNat_of_zero_le->Xf,emod_lt_of_pos->vh,emod_nonneg->Wj,fdiv_eq_ediv_of_nonneg->xu,le_refl->wx,toNat_of_nonneg->Wy,toNat_natCast->wB
open Function renaming comp_def->Vi,comp_apply->xy
open Prod renaming snd->wl,fst->xq
open Array renaming size_map->wn,getElem?_eq_some_iff->vo,filterMap->Ws,length_toList->ut,toList->Xy,find?_toList->Uy,getElem?_map->xz,ext'->WC
set_option Elab.async false
set_option linter.all false
set_option tactic.hygienic false
set_option maxRecDepth 100000
set_option genSizeOf false
set_option genSizeOfSpec false
set_option bootstrap.genMatcherCode false
def PySem.W.Fast.tw6573969145866169821:Nat:=0
def PySem.W.Fast.tw11339285367184453630:Nat:=0
def PySem.W.Fast.tw3581745546693043350:Nat:=0
def PySem.W.Fast.tw2221255519411303236:Nat:=0
def PySem.W.Fast.tw8789999599401165560:Nat:=0
def PySem.W.Fast.tw6997244468236579086:Nat:=0
def PySem.W.Fast.tw15459540697757964026:Nat:=0
def PySem.W.Fast.tw2528137544485980306:Nat:=0
def PySem.W.Fast.tw12581947599747370799:Nat:=0
def PySem.W.Fast.tw7314171540410614742:Nat:=0
def PySem.W.Fast.tw12277053165992982445:Nat:=0
def PySem.W.Fast.tw17828809153258512268:Nat:=0
def PySem.W.Fast.tw10487681735222570791:Nat:=0
def PySem.W.Fast.tw12057778380741876433:Nat:=0
def PySem.W.Fast.tw9451133873775835055:Nat:=0
def PySem.W.Fast.tw18025602126666693266:Nat:=0
def PySem.W.Fast.tw4532560315728509243:Nat:=0
def PySem.W.Fast.tw7452043444001920583:Nat:=0
def PySem.W.Fast.tw10841250283313933931:Nat:=0
def PySem.W.Fast.tw10335903815663292558:Nat:=0
def PySem.W.Fast.tw10640247490596066:Nat:=0
def PySem.W.Fast.tw13499705436229393792:Nat:=0
def PySem.W.Fast.tw11071779100789672213:Nat:=0
def PySem.W.Fast.tw7438912234831399267:Nat:=0
def PySem.W.Fast.tw612078433607410257:Nat:=0
def PySem.W.Fast.tw69353845914823874:Nat:=0
def PySem.W.Fast.tw9497501861943925757:Nat:=0
def PySem.W.Fast.tw14760337248529211503:Nat:=0
def PySem.W.Fast.tw4886633603235865802:Nat:=0
def PySem.W.Fast.tw11295420005961228906:Nat:=0
def PySem.W.Fast.tw2388355660915866063:Nat:=0
def PySem.W.Fast.tw17399341843521293973:Nat:=0
def PySem.W.Fast.tw715407938762861000:Nat:=0
def PySem.W.Fast.tw7964252226900856356:Nat:=0
def PySem.W.Fast.tw12816009083053143442:Nat:=0
def PySem.W.Fast.tw14360103420317882465:Nat:=0
def PySem.W.Fast.tw14031435067851287869:Nat:=0
def PySem.W.Fast.tw3003798387050107612:Nat:=0
def PySem.W.Fast.tw14211910734711471780:Nat:=0
def PySem.W.Fast.tw8599318433914969364:Nat:=0
def PySem.W.Fast.tw2072369608278303483:Nat:=0
def PySem.W.Fast.tw6516731191360690041:Nat:=0
def PySem.W.Fast.tw3149639981102736620:Nat:=0
def PySem.W.Fast.tw17027263936070190856:Nat:=0
def PySem.W.Fast.tw8272517045552425674:Nat:=0
def PySem.W.Fast.tw7697624420988885090:Nat:=0
def PySem.W.Fast.tw10965759764682192692:Nat:=0
def PySem.W.Fast.tw786104912049937053:Nat:=0
def PySem.W.Fast.tw3936212027419276635:Nat:=0
def PySem.W.Fast.tw4175065387677848708:Nat:=0
def PySem.W.Fast.tw15936943128400573465:Nat:=0
def PySem.W.Fast.tw1504269407313831068:Nat:=0
def PySem.W.Fast.tw4268091620941207980:Nat:=0
def PySem.W.Fast.tw16203059136462387617:Nat:=0
def PySem.W.Fast.tw17642399931427728883:Nat:=0
def PySem.W.Fast.tw17896849379997973862:Nat:=0
def PySem.W.Fast.tw1636827322957013736:Nat:=0
def PySem.W.Fast.tw18196809086166369954:Nat:=0
def PySem.W.Fast.tw10835044228224389717:Nat:=0
def PySem.W.Fast.tw8713349739089764731:Nat:=0
def PySem.W.Fast.tw4568980646043178741:Nat:=0
def PySem.W.Fast.tw4702987647229552430:Nat:=0
def PySem.W.Fast.tw661388505459168123:Nat:=0
def PySem.W.Fast.tw9358281382522652895:Nat:=0
def PySem.W.Fast.tw7141168010210583515:Nat:=0
def PySem.W.Fast.tw3358915173815391935:Nat:=0
def PySem.W.Fast.tw10084381198126118737:Nat:=0
def PySem.W.Fast.tw1718952708986248861:Nat:=0
def PySem.W.Fast.tw3398731082810738214:Nat:=0
def PySem.W.Fast.tw11558562279740051611:Nat:=0
def PySem.W.Fast.tw11416737196380989767:Nat:=0
def PySem.W.Fast.tw7208169955402282473:Nat:=0
def PySem.W.Fast.tw1660304328742356334:Nat:=0
def PySem.W.Fast.tw13973599101570825171:Nat:=0
def PySem.W.Fast.tw12216296815767165638:Nat:=0
def PySem.W.Fast.tw16365929556832170926:Nat:=0
def PySem.W.Fast.tw7664946808114221314:Nat:=0
def PySem.W.Fast.tw15401404926008044903:Nat:=0
def PySem.W.Fast.tw17920811978723326466:Nat:=0
def PySem.W.Fast.tw384119738385742456:Nat:=0
def PySem.W.Fast.tw2389530538535161612:Nat:=0
def PySem.W.Fast.tw4685258472418509059:Nat:=0
def PySem.W.Fast.tw7675082180775809439:Nat:=0
def PySem.W.Fast.tw17511076363844491564:Nat:=0
def PySem.W.Fast.tw6280060410883800044:Nat:=0
def PySem.W.Fast.tw15734410337569909062:Nat:=0
def PySem.W.Fast.tw4151779618744008949:Nat:=0
def PySem.W.Fast.tw11236976687209701948:Nat:=0
def PySem.W.Fast.tw13535770128872173118:Nat:=0
def PySem.W.Fast.tw10934662458847911794:Nat:=0
def PySem.W.Fast.tw10735315444250978555:Nat:=0
def PySem.W.Fast.tw3528593489305630845:Nat:=0
def PySem.W.Fast.tw11597064851727910459:Nat:=0
def PySem.W.Fast.tw13587652795384569100:Nat:=0
def PySem.W.Fast.tw7606678821693287645:Nat:=0
def PySem.W.Fast.tw17887301201843285558:Nat:=0
def PySem.W.Fast.tw14331507906318086648:Nat:=0
def PySem.W.Fast.tw15133169655722637230:Nat:=0
def PySem.W.Fast.tw12825628316600038104:Nat:=0
def PySem.W.Fast.tw7339673592915440255:Nat:=0
def PySem.W.Fast.tw16504456144330582408:Nat:=0
def PySem.W.Fast.tw182870686053442620:Nat:=0
def PySem.W.Fast.tw3220533720109332476:Nat:=0
def PySem.W.Fast.tw15534317396457241067:Nat:=0
def PySem.W.Fast.tw11385283402262065415:Nat:=0
def PySem.W.Fast.tw14412228760506327093:Nat:=0
def PySem.W.Fast.tw3053406853784810832:Nat:=0
def PySem.W.Fast.tw5827494243840668578:Nat:=0
def PySem.W.Fast.tw18428497062986900990:Nat:=0
def PySem.W.Fast.tw1814239858497433764:Nat:=0
def PySem.W.Fast.tw9655591900901430839:Nat:=0
def PySem.W.Fast.tw17317136497656253474:Nat:=0
def PySem.W.Fast.tw1283285838381992944:Nat:=0
def PySem.W.Fast.tw9457502218957119355:Nat:=0
def PySem.W.Fast.tw15031586318381640225:Nat:=0
def PySem.W.Fast.tw12110864041851671812:Nat:=0
def PySem.W.Fast.tw3583574818757715795:Nat:=0
def PySem.W.Fast.tw11111969373932133162:Nat:=0
def PySem.W.Fast.tw4784983825250438005:Nat:=0
def PySem.W.Fast.tw2518398187372381594:Nat:=0
def PySem.W.Fast.tw14585716776905269175:Nat:=0
def PySem.W.Fast.tw10425135923410370491:Nat:=0
def PySem.W.Fast.tw7049174905199873860:Nat:=0
def PySem.W.Fast.tw6185788651311633080:Nat:=0
def PySem.W.Fast.tw5711578176294479514:Nat:=0
def PySem.W.Fast.tw10408376566349649548:Nat:=0
def PySem.W.Fast.tw1869897714373474641:Nat:=0
def PySem.W.Fast.tw9142335383591832826:Nat:=0
def PySem.W.Fast.tw9871375843185073147:Nat:=0
def PySem.W.Fast.tw6711030815199144280:Nat:=0
def PySem.W.Fast.tw14886841054796826223:Nat:=0
def PySem.W.Fast.tw8229621411940476757:Nat:=0
def PySem.W.Fast.tw12434878260690729052:Nat:=0
def PySem.W.Fast.tw12544712247296010943:Nat:=0
def PySem.W.Fast.tw14234750889225052540:Nat:=0
def PySem.W.Fast.tw16693669571974169421:Nat:=0
def PySem.W.Fast.tw7077831809387782373:Nat:=0
def PySem.W.Fast.tw4061724461323437450:Nat:=0
def PySem.W.Fast.tw10481811169153889087:Nat:=0
def PySem.W.Fast.tw14541739312748163828:Nat:=0
def PySem.W.Fast.tw9410983932405753720:Nat:=0
def PySem.W.Fast.tw17423910063258516446:Nat:=0
def PySem.W.Fast.tw11118493459960764567:Nat:=0
def PySem.W.Fast.tw6672885858292614262:Nat:=0
def PySem.W.Fast.tw97759103700611837:Nat:=0
def PySem.W.Fast.tw1235377466656070091:Nat:=0
def PySem.W.Fast.tw4589689801465956013:Nat:=0
def PySem.W.Fast.tw7006580808063154854:Nat:=0
def PySem.W.Fast.tw3223206247502710098:Nat:=0
def PySem.W.Fast.tw18211057070514165316:Nat:=0
def PySem.W.Fast.tw5562698276768873509:Nat:=0
def PySem.W.Fast.tw2238673038354825506:Nat:=0
def PySem.W.Fast.tw12953284246911988532:Nat:=0
def PySem.W.Fast.tw13357799494494888644:Nat:=0
def PySem.W.Fast.tw14135147607186192566:Nat:=0
def PySem.W.Fast.tw1722370182012531631:Nat:=0
def PySem.W.Fast.tw15477043164349319962:Nat:=0
def PySem.W.Fast.tw4324403300369471199:Nat:=0
def PySem.W.Fast.tw10878470593845809046:Nat:=0
def PySem.W.Fast.tw2027980090664751680:Nat:=0
def PySem.W.Fast.tw3937486107075719206:Nat:=0
def PySem.W.Fast.tw11367627784922119583:Nat:=0
def PySem.W.Fast.tw16735382281999706975:Nat:=0
def PySem.W.Fast.tw13702180273937015688:Nat:=0
def PySem.W.Fast.tw13206776142563450710:Nat:=0
def PySem.W.Fast.tw10247195138194733451:Nat:=0
def PySem.W.Fast.tw4277904709148081407:Nat:=0
def PySem.W.Fast.tw14456767442564706956:Nat:=0
def PySem.W.Fast.tw11879445396882421751:Nat:=0
def PySem.W.Fast.tw11906146880573882614:Nat:=0
def PySem.W.Fast.tw13596065527162841673:Nat:=0
def PySem.W.Fast.tw1915092844057321955:Nat:=0
def PySem.W.Fast.tw12118600554779513308:Nat:=0
def PySem.W.Fast.tw7378017421869829612:Nat:=0
def PySem.W.Fast.tw2342170227688583401:Nat:=0
def PySem.W.Fast.tw6810294802806693148:Nat:=0
def PySem.W.Fast.tw14178457135702238672:Nat:=0
def PySem.W.Fast.tw5485947338234983300:Nat:=0
def PySem.W.Fast.tw16042784409395587435:Nat:=0
def PySem.W.Fast.tw2579338424931925988:Nat:=0
def PySem.W.Fast.tw9682040015621220554:Nat:=0
def PySem.W.Fast.tw9069441044454574710:Nat:=0
def PySem.W.Fast.tw2859329899166133315:Nat:=0
def PySem.W.Fast.tw17708845829192475111:Nat:=0
def PySem.W.Fast.tw12746449773010431363:Nat:=0
def PySem.W.Fast.tw1755706906170147799:Nat:=0
def PySem.W.Fast.tw9679087582481287887:Nat:=0
def PySem.W.Fast.tw12712679275573097811:Nat:=0
def PySem.W.Fast.tw3493951170317097148:Nat:=0
def PySem.W.Fast.tw8368284228925302172:Nat:=0
def PySem.W.Fast.tw15112328660237557095:Nat:=0
def PySem.W.Fast.tw7584910824236240841:Nat:=0
def PySem.W.Fast.tw14400629477265170216:Nat:=0
def PySem.W.Fast.tw6739518827013224040:Nat:=0
def PySem.W.Fast.tw16233828839718750392:Nat:=0
def PySem.W.Fast.tw12304020972314945403:Nat:=0
def PySem.W.Fast.tw13970031408408279004:Nat:=0
def PySem.W.Fast.tw15216910446233363297:Nat:=0
def PySem.W.Fast.tw969919848794839092:Nat:=0
def PySem.W.Fast.tw1208265579491127830:Nat:=0
def PySem.W.Fast.tw7345898719117842669:Nat:=0
def PySem.W.Fast.tw8571275769080105800:Nat:=0
def PySem.W.Fast.tw6816309496650788576:Nat:=0
def PySem.W.Fast.tw2593027590505424447:Nat:=0
def PySem.W.Fast.tw5416207648838331700:Nat:=0
def PySem.W.Fast.tw9973284711124157228:Nat:=0
def PySem.W.Fast.tw8431064418235350892:Nat:=0
def PySem.W.Fast.tw10791257489041373520:Nat:=0
def PySem.W.Fast.tw6930783271720025094:Nat:=0
def PySem.W.Fast.tw4244868708862736353:Nat:=0
def PySem.W.Fast.tw435693406515930426:Nat:=0
def PySem.W.Fast.tw4921927572375592029:Nat:=0
def PySem.W.Fast.tw5740800500255730793:Nat:=0
def PySem.W.Fast.tw5406775747370267464:Nat:=0
def PySem.W.Fast.tw18313981879676156932:Nat:=0
def PySem.W.Fast.tw15355984772016118848:Nat:=0
def PySem.W.Fast.tw7210399954053037715:Nat:=0
def PySem.W.Fast.tw13507370253047379056:Nat:=0
def PySem.W.Fast.tw6140039209326306011:Nat:=0
def PySem.W.Fast.tw15791098593632108222:Nat:=0
def PySem.W.Fast.tw17256328431581570195:Nat:=0
def PySem.W.Fast.tw1587961514845972937:Nat:=0
def PySem.W.Fast.tw16615899607757024590:Nat:=0
def PySem.W.Fast.tw7124294564705154930:Nat:=0
def PySem.W.Fast.tw10943890015582163243:Nat:=0
def PySem.W.Fast.tw9943132781556216635:Nat:=0
def PySem.W.Fast.tw9558195093774549622:Nat:=0
def PySem.W.Fast.tw12569715229173802290:Nat:=0
def PySem.W.Fast.tw9859080530675538723:Nat:=0
def PySem.W.Fast.tw18085134219885219412:Nat:=0
def PySem.W.Fast.tw14589302872361405928:Nat:=0
def PySem.W.Fast.tw3184721475764898259:Nat:=0
def PySem.W.Fast.tw5643850525895628157:Nat:=0
def PySem.W.Fast.tw1186926262574483659:Nat:=0
def PySem.W.Fast.tw12866523278872679429:Nat:=0
def PySem.W.Fast.tw1215428042960115531:Nat:=0
def PySem.W.Fast.tw2015280204890918322:Nat:=0
def PySem.W.Fast.tw7476437725733108749:Nat:=0
def PySem.W.Fast.tw8000846138207168086:Nat:=0
theorem OB.e2{α β}{p:α->β->Prop}{G:Prop}(h:∃ a b,p a b)(k:∀ a b,p a b->G):G:=h.elim fun a h=>Exists.elim h (k a)
theorem OB.e3{α β γ}{p:α->β->γ->Prop}{G:Prop}(h:∃ a b c,p a b c)(k:∀ a b c,p a b c->G):G:=h.elim fun a h=>OB.e2 h (k a)
theorem OB.e4{α β γ δ}{p:α->β->γ->δ->Prop}{G:Prop}(h:∃ a b c d,p a b c d)(k:∀ a b c d,p a b c d->G):G:=h.elim fun a h=>OB.e3 h (k a)
theorem OB.e5{α β γ δ ε}{p:α->β->γ->δ->ε->Prop}{G:Prop}(h:∃ a b c d e,p a b c d e)(k:∀ a b c d e,p a b c d e->G):G:=h.elim fun a h=>OB.e4 h (k a)
theorem OB.e6{α β γ δ ε ζ}{p:α->β->γ->δ->ε->ζ->Prop}{G:Prop}(h:∃ a b c d e f,p a b c d e f)(k:∀ a b c d e f,p a b c d e f->G):G:=h.elim fun a h=>OB.e5 h (k a)
theorem OB.a2{A B G:Prop}(h:A/\B)(k:A->B->G):G:=k h.1 h.2
theorem OB.a3{A B C G:Prop}(h:A/\B/\C)(k:A->B->C->G):G:=OB.a2 h.2 (k h.1)
theorem OB.a4{A B C D G:Prop}(h:A/\B/\C/\D)(k:A->B->C->D->G):G:=OB.a3 h.2 (k h.1)
theorem OB.a5{A B C D E G:Prop}(h:A/\B/\C/\D/\E)(k:A->B->C->D->E->G):G:=OB.a4 h.2 (k h.1)
theorem OB.a6{A B C D E F G:Prop}(h:A/\B/\C/\D/\E/\F)(k:A->B->C->D->E->F->G):G:=OB.a5 h.2 (k h.1)
theorem OB.a7{A B C D E F H G:Prop}(h:A/\B/\C/\D/\E/\F/\H)(k:A->B->C->D->E->F->H->G):G:=OB.a6 h.2 (k h.1)
theorem OB.a8{A B C D E F H I G:Prop}(h:A/\B/\C/\D/\E/\F/\H/\I)(k:A->B->C->D->E->F->H->I->G):G:=OB.a7 h.2 (k h.1)
theorem OB.a9{A B C D E F H I J G:Prop}(h:A/\B/\C/\D/\E/\F/\H/\I/\J)(k:A->B->C->D->E->F->H->I->J->G):G:=OB.a8 h.2 (k h.1)
open Lean in
local macro_rules|`(tactic|obtain⟨$ps,*⟩:=$e:term)=>do
 let mut xs:Array Term:=#[]
 let mut po:Array (TSyntax `tactic):=#[]
 for p in ps.getElems do
  let q:=p.raw[0][0][0]
  let i:=q[0].getId
  unless p.raw[0][0].getNumArgs==1&&p.raw[1].getNumArgs==0 do Macro.throwUnsupported
  let x:=mkIdent (.mkSimple s!"o{xs.size}'")
  if q.isOfKind `Lean.Parser.Tactic.rcasesPat.ignore then xs:=xs.push x
  else if q.isOfKind `Lean.Parser.Tactic.rcasesPat.tuple then
   xs:=xs.push x
   let qs:TSyntaxArray `Lean.Parser.Tactic.rcasesPatLo:=⟨q[1].getSepArgs.toList.map (⟨·⟩)⟩
   po:=po.push (<-`(tactic|obtain⟨$qs,*⟩:=$x:ident))
  else if q.isOfKind `Lean.Parser.Tactic.rcasesPat.one&&q[0].isIdent then
   if i==`rfl then
    xs:=xs.push x
    po:=po.push (<-`(tactic|first|subst $x:ident|cases $x:ident))
   else xs:=xs.push ⟨q[0]⟩
  else Macro.throwUnsupported
 let n:=xs.size
 if e.raw.isIdent&& !xs.any (·.raw.getId==e.raw.getId) then po:=#[(<-`(tactic|try clear $(⟨e.raw⟩):ident))]++po
 let f (c:String)(k:Nat):Term:=⟨mkIdent (if c=="e"&&k==1 then `Exists.elim else .str `OB s!"{c}{k}")⟩
 let mut al:Array (TSyntax `Lean.Parser.Tactic.tacticSeq):=#[]
 for k in [0:n] do
  if k<7&&n-k<10&&1<n then
   let y:=xs.extract k n
   let t<-if k==0 then `($(f "a" n) $e fun $xs* =>?_) else if n-k==1 then `($(f "e" k) $e fun $xs* =>?_) else
    let x:=xs.extract 0 k
    `($(f "e" k) $e fun $x* r=>$(f "a" (n-k)) r fun $y* =>?_)
   al:=al.push (<-`(tacticSeq|refine $t;$[$po]*))
 al:=al.push (<-`(tacticSeq|rcases $e:term with⟨$ps,*⟩))
 `(tactic|first $[|$al]*)
section
namespace L2
open PySem PySem.Spec PyProof.Rows
noncomputable abbrev Key:=Sum Int Str
noncomputable def yak:Key->Value->Bool
 |.inl k,v=>Value.isInt k v
 |.inr x,v=>Value.isStrOf x v
noncomputable def keyH(w:World):Key->Int
 |.inl k=>hashInt k
 |.inr x=>hashStr w x
theorem zh:∀{k:Key}{v:Value},yak k v=true->(∃ i t,k=Sum.inl i/\v=Value.int i t)\/(∃ x t,k=Sum.inr x/\v=Value.str x t)
 |.inl i,v,h=>by
  obtain⟨t,e⟩:=Value.isInt_shape (k:=i) (v:=v) h;exact .inl ⟨i,t,rfl,e⟩
 |.inr x,v,h=>by
  obtain⟨t,e⟩:=Value.isStrOf_shape (x:=x) (v:=v) h;exact .inr ⟨x,t,rfl,e⟩
theorem ybs(i:Int)(t:Tok):yak (.inl i) (.int i t)=true:=by simp[yak,Value.isInt]
theorem zbk(x:Str)(t:Tok):yak (.inr x) (.str x t)=true:=by simp[yak,Value.isStrOf]
theorem ycp(a b:Int):decide ((Sum.inl a:Key)=Sum.inl b)=(a==b):=by
 by_cases e:a=b
 ·subst e;simp
 ·have h:¬(Sum.inl a:Key)=Sum.inl b:=λq=>e (Sum.inl.inj q);rw[decide_eq_false h];exact(beq_eq_false_iff_ne.mpr e).symm
theorem yce(a b:Str):decide ((Sum.inr a:Key)=Sum.inr b)=decide (a=b):=by
 by_cases e:a=b
 ·subst e;simp
 ·have h:¬(Sum.inr a:Key)=Sum.inr b:=λq=>e (Sum.inr.inj q);rw[decide_eq_false h,decide_eq_false e]
theorem yb7(a:Int)(b:Str):decide ((Sum.inl a:Key)=Sum.inr b)=false:=decide_eq_false (λq=>nomatch q)
theorem Zch(a:Str)(b:Int):decide ((Sum.inr a:Key)=Sum.inl b)=false:=decide_eq_false (λq=>nomatch q)
noncomputable def Ym(prog:Program)(w:World):PySem.KeyKind prog w Key where
 is:=yak
 hash:=keyH w
 inj:=λv a b ha hb=>by
  rcases zh ha with ⟨i,t,rfl,rfl⟩|⟨x,t,rfl,rfl⟩
  ·rcases zh hb with ⟨j,u,rfl,e⟩|⟨y,u,rfl,e⟩
   ·injection e with e1 _;rw[e1]
   ·exact nomatch e
  ·rcases zh hb with ⟨j,u,rfl,e⟩|⟨y,u,rfl,e⟩
   ·exact nomatch e
   ·injection e with e1 _;rw[e1]
 byValue:=λk v h=>by
  rcases zh h with ⟨i,t,rfl,rfl⟩|⟨x,t,rfl,rfl⟩ <;> rfl
 pyHash:=λhv h=>by
  rcases zh hv with ⟨i,t,rfl,rfl⟩|⟨x,t,rfl,rfl⟩
  ·exact wpAny_pyHash_int h
  ·exact wpAny_pyHash_str h
 eqBool:=λhu hv h=>by
  rcases zh hu with ⟨i,t,rfl,rfl⟩|⟨x,t,rfl,rfl⟩
  ·rcases zh hv with ⟨j,u,rfl,rfl⟩|⟨y,u,rfl,rfl⟩
   ·rw[ycp] at h;exact wpAny_eqBool_int h
   ·rw[yb7] at h;exact SeqAt.EqAt.int_str i t y u _ _ _ _ h
  ·rcases zh hv with ⟨j,u,rfl,rfl⟩|⟨y,u,rfl,rfl⟩
   ·rw[Zch] at h;exact SeqAt.EqAt.str_int x t j u _ _ _ _ h
   ·rw[yce] at h;exact wpAny_eqBool_str h
 «strs»:=λk x t v h=>by
  rcases zh h with ⟨i,u,rfl,e⟩|⟨y,u,rfl,e⟩
  ·exact nomatch e
  ·injection e with e1 _
   subst e1;cases v <;> rfl
theorem qaT(prog:Program)(w:World)(i:Int)(t:Tok):(Ym prog w).is (.inl i) (.int i t)=true:=ybs i t
theorem zaK(prog:Program)(w:World)(x:Str)(t:Tok):(Ym prog w).is (.inr x) (.str x t)=true:=zbk x t
inductive V where
 |non|bl (b:Bool)|int (i:Int)|str (x:Str)|byt (b:Array UInt8)|flt (b:UInt64)|ref (a:Addr)|ty (n:String)
 deriving DecidableEq
noncomputable def RelV:V->Value->Prop
 |.non,u=>u=Value.none
 |.bl b,u=>u=Value.bool b
 |.int i,u=>∃ t,u=Value.int i t
 |.str x,u=>∃ t,u=Value.str x t
 |.byt b,u=>∃ t,u=Value.bytes b t
 |.flt b,u=>∃ t,u=Value.float b t
 |.ref a,u=>u=Value.ref a
 |.ty n,u=>u=Value.type n
noncomputable abbrev Vals:List V->List Value->Prop:=Paired RelV
theorem Vals.length{xs:List V}{us:List Value}(r:Vals xs us):xs.length=us.length:=Paired.length r
theorem Vals.get:∀{xs:List V}{us:List Value}{i:Nat}{x:V},Vals xs us->xs[i]?=some x->∃ u,us[i]?=some u/\RelV x u
 |_,_,_,_,.nil,e=>by simp at e
 |_,_,0,_,.cons r _,e=>by simp at e;subst e;exact⟨_,rfl,r⟩
 |_,_,i+1,x,.cons _ t,e=>by
  obtain⟨u,h1,h2⟩:=Vals.get (i:=i) (x:=x) t (by simpa using e);exact⟨u,by simpa using h1,h2⟩
theorem Vals.set{x:V}{u:Value}(r:RelV x u):∀{xs:List V}{us:List Value}(i:Nat),Vals xs us->Vals (xs.set i x) (us.set i u)
 |_,_,_,.nil=>.nil
 |_,_,0,.cons _ t=>.cons r t
 |_,_,i+1,.cons q t=>.cons q (Vals.set r i t)
theorem Vals.append:∀{xs ys:List V}{us ws:List Value},Vals xs us->Vals ys ws->Vals (xs++ys) (us++ws)
 |_,_,_,_,.nil,s=>s
 |_,_,_,_,.cons r t,s=>.cons r (Vals.append t s)
theorem Vals.take:∀{xs:List V}{us:List Value}(n:Nat),Vals xs us->Vals (xs.take n) (us.take n)
 |_,_,0,_=>.nil
 |_,_,_+1,.nil=>.nil
 |_,_,n+1,.cons r t=>.cons r (Vals.take n t)
theorem Vals.drop:∀{xs:List V}{us:List Value}(n:Nat),Vals xs us->Vals (xs.drop n) (us.drop n)
 |_,_,0,r=>r
 |_,_,_+1,.nil=>.nil
 |_,_,n+1,.cons _ t=>Vals.drop n t
noncomputable def RelO:Option V->Option Value->Prop
 |some v,some u=>RelV v u
 |none,none=>True
 |_,_=>False
noncomputable def KV{κ:Type}:List (κ×V)->List (κ×Value)->Prop:=Paired λ(p:κ×V)(q:κ×Value)=>p.1=q.1/\RelV p.2 q.2
noncomputable def kV:Key->V
 |.inl i=>.int i
 |.inr x=>.str x
inductive HO where
 |lst (xs:List V)
 |tup (xs:List V)
 |dK (kvs:List (Key×V))|dT (kvs:List (List Key×V))
 |set (S:Int->Bool) (n:Nat)
 |ins (C dx:Addr) (fs:List (Str×V))
 |own (x:Addr)
 |xd (fs:List (Str×V))
 |met (f x:Addr)
 |rng (lo hi:Int)
 |frz (o:Obj) (u:HO)
 |tbl (ps:Array Value)
 |ext (φ:Heap->Prop)
noncomputable abbrev Hp:=Addr->Option HO
noncomputable def upd(H:Hp)(a:Addr)(o:HO):Hp:=λb=>if b=a then some o else H b
theorem qb{H:Hp}{a:Addr}{o:HO}:upd H a o a=some o:=by unfold upd;rw[if_pos rfl]
theorem Qa{H:Hp}{a b:Addr}{o:HO}(h:b≠a):upd H a o b=H b:=by unfold upd;rw[if_neg h]
theorem Zd{H:Hp}{a b:Addr}{o:HO}(h:H a=some o)(h':H b=none):a≠b:=by
 intro e;subst e;rw[h] at h';cases h'
section
variable (P:Program) (w:World)
noncomputable def ObjOk(H:Hp)(h:Heap)(a:Addr):HO->Prop
 |.lst xs=>xs.length<=sizeLine/\∃(its:List Value)(n:Nat),Vals xs its/\h.get? a=some {cls:=.type "list",data:=.seq its.toArray n}
 |.tup xs=>xs.length<=sizeLine/\∃ its:List Value,Vals xs its/\IsTup h a its.toArray
 |.dK kvs=>kvs.length<=sizeLine/\(a==sysModules)=false/\∃ vs,KV kvs vs/\h.DictOf (Ym P w) a vs
 |.dT kvs=>kvs.length<=sizeLine/\(a==sysModules)=false/\∃ xs:List (List Key×Addr×Value),
   Paired (λ(p:List Key×V)(q:List Key×Addr×Value)=>p.1=q.1/\H q.2.1=some (.tup (p.1.map kV))/\RelV p.2 q.2.2) kvs xs /\
   ∃ o es ep,h.get? a=some o/\o.ExactDict/\o.data=.dict es ep/\es.toList=xs.map (entryOfKey (tupleKind (Ym P w)))/\(xs.map (·.1)).Nodup
 |.set S n=>h.SetOf (intKind P w) a S n
 |.ins C dx fs=>H dx=some (.own a)/\fs.length<=1000/\dx≠a/\h.get? a=some (xg C dx) /\
   ∃ mA,h.Ns1 dx mA/\(∀ f,RelO (fs.lookup f) (mA f))/\PySem.Within mA (fs.map (·.1))
 |.own _=>∃ o,h.get? a=some o
 |.xd fs=>∃ mA,h.Ns1 a mA/\∀ f,RelO (fs.lookup f) (mA f)
 |.rng lo hi=>∃ t u v,h.get? a=some {cls:=.type "range",data:=.fields #[.int lo t,.int hi u,.int 1 v]}
 |.frz o u=>h.get? a=some o/\ObjOk H h a u
 |.tbl ps=>h.get? a=some {cls:=.none,data:=.fields ps}
 |.met f x=>h.get? a=some (Uu (.ref f) (.ref x))
 |.ext φ=>φ h/\(∃ o,h.get? a=some o)/\∀ h1 h2:Heap,φ h1->(∀ o,h1.get? a=some o->h2.get? a=some o)->φ h2
noncomputable def HOk(H:Hp)(h:Heap):Prop:=∀ a o,H a=some o->ObjOk P w H h a o
end
section
variable {P:Program} {w:World} {H H':Hp} {h h':Heap} {a:Addr} {o:HO}
theorem ObjOk.lt(x:ObjOk P w H h a o):a<h.objs.size:=by
 cases o with
 |lst xs=>obtain⟨_,_,_,_,e⟩:=x;exact ua e
 |tup xs=>obtain⟨_,_,_,p⟩:=x;exact p.lt
 |dK kvs=>obtain⟨_,_,_,_,o,_,_,e,_⟩:=x;exact ua e
 |dT kvs=>obtain⟨_,_,_,_,o,_,_,e,_⟩:=x;exact ua e
 |set S n=>obtain⟨o,_,_,_,e,_⟩:=x;exact ua e
 |ins C dx fs=>obtain⟨_,_,_,e,_⟩:=x;exact ua e
 |own y=>obtain⟨_,e⟩:=x;exact ua e
 |xd fs=>obtain⟨_,⟨_,_,_,e,_⟩,_⟩:=x;exact ua e
 |rng lo hi=>obtain⟨_,_,_,e⟩:=x;exact ua e
 |frz ob u=>obtain⟨e,_⟩:=x;exact ua e
 |tbl ps=>exact ua (show h.get? a=some _ from x)
 |met f y=>exact ua (show h.get? a=some _ from x)
 |ext φ=>obtain⟨_,⟨_,e⟩,_⟩:=x;exact ua e
theorem Paired.mapP{α β:Type}{F G:α->β->Prop}:∀{l₁:List α}{l₂:List β},Paired F l₁ l₂->(∀ a b,F a b->G a b)->Paired G l₁ l₂
 |_,_,.nil,_=>.nil
 |_,_,.cons r t,f=>.cons (f _ _ r) (Paired.mapP t f)
theorem ObjOk.stay(x:ObjOk P w H h a o)(k:∀ b u,(b=a\/H b=some (.own a))->h.get? b=some u->h'.get? b=some u)
  (ho:∀ b,H b=some (.own a)->H' b=some (.own a)) (ht:∀ b xs,H b=some (.tup xs)->H' b=some (.tup xs)):ObjOk P w H' h' a o:=by
 induction o with
 |lst xs=>obtain⟨z,its,n,r,e⟩:=x;exact⟨z,its,n,r,k _ _ (.inl rfl) e⟩
 |tup xs=>obtain⟨z,its,r,ob,e,c⟩:=x;exact⟨z,its,r,ob,k _ _ (.inl rfl) e,c⟩
 |dK kvs=>obtain⟨z,y,vs,r,ob,es,ep,e,c⟩:=x;exact⟨z,y,vs,r,ob,es,ep,k _ _ (.inl rfl) e,c⟩
 |dT kvs =>
  obtain⟨z,y,xs,r,ob,es,ep,e,c⟩:=x;exact⟨z,y,xs,Paired.mapP r λp q z=>⟨z.1,ht _ _ z.2.1,z.2.2⟩,ob,es,ep,k _ _ (.inl rfl) e,c⟩
 |set S n=>obtain⟨ob,es,ep,t,e,c⟩:=x;exact⟨ob,es,ep,t,k _ _ (.inl rfl) e,c⟩
 |ins C dx fs =>
  obtain⟨d,z,ne,e,mA,⟨od,es,ep,e2,c⟩,r⟩:=x;exact⟨ho _ d,z,ne,k _ _ (.inl rfl) e,mA,⟨od,es,ep,k _ _ (.inr d) e2,c⟩,r⟩
 |own y=>obtain⟨ob,e⟩:=x;exact⟨ob,k _ _ (.inl rfl) e⟩
 |xd fs=>obtain⟨mA,⟨od,es,ep,e,c⟩,r⟩:=x;exact⟨mA,⟨od,es,ep,k _ _ (.inl rfl) e,c⟩,r⟩
 |rng lo hi=>obtain⟨t,u,v,e⟩:=x;exact⟨t,u,v,k _ _ (.inl rfl) e⟩
 |frz ob u ih=>obtain⟨e,q⟩:=x;exact⟨k _ _ (.inl rfl) e,ih q⟩
 |tbl ps =>
  have e:h.get? a=some {cls:=.none,data:=.fields ps}:=x;show h'.get? a=some {cls:=.none,data:=.fields ps};exact k a _ (.inl rfl) e
 |met f y =>
  have e:h.get? a=some (Uu (.ref f) (.ref y)):=x;show h'.get? a=some (Uu (.ref f) (.ref y));exact k a _ (.inl rfl) e
 |ext φ=>obtain⟨p,⟨o,e⟩,st⟩:=x;exact⟨st _ _ p λo q=>k _ _ (.inl rfl) q,⟨o,k _ _ (.inl rfl) e⟩,st⟩
theorem HOk.lt(x:HOk P w H h)(e:H a=some o):a<h.objs.size:=(x a o e).lt
theorem HOk.fresh(x:HOk P w H h)(e:h.objs.size<=a):H a=none:=by
 cases q:H a with
 |none=>rfl
 |some u=>exact absurd (Wc (x.lt q) e) (Wi _)
theorem HOk.kept(x:HOk P w H h)(k:∀ b u,h.get? b=some u->h'.get? b=some u):HOk P w H h':=λa o e =>
 (x a o e).stay (λb u _ q=>k b u q) (λ_ q=>q) λ_ _ q=>q
theorem HOk.laid(x:HOk P w H h)(k:∀ b u,h.get? b=some u->h'.get? b=some u)(hp:h.objs.size<=a)(new:ObjOk P w (upd H a o) h' a o):HOk P w (upd H a o) h':=λb u e=>by
 have hn:=x.fresh hp;by_cases hb:b=a
 ·subst hb;rw[qb] at e;cases e;exact new
 ·rw[Qa hb] at e;exact(x b u e).stay (λc v _ q=>k c v q) (λc q=>by rw[Qa (Zd q hn)];exact q) λc xs q=>by rw[Qa (Zd q hn)];exact q
end
noncomputable def Rd(H:Hp)(a:Addr)(u:HO):Prop:=H a=some u\/∃ o,H a=some (.frz o u)
theorem Rd.of{H:Hp}{a:Addr}{u:HO}(h:H a=some u):Rd H a u:=.inl h
theorem Rd.ok{P:Program}{w:World}{H:Hp}{h:Heap}{a:Addr}{u:HO}(r:Rd H a u)(x:HOk P w H h):ObjOk P w H h a u:=by
 rcases r with r|⟨o,r⟩
 ·exact x a u r
 ·obtain⟨_,q⟩:=x a _ r;exact q
noncomputable def Mut:Option HO->Prop
 |some (.lst _)=>True
 |some (.dK _)=>True
 |some (.dT _)=>True
 |some (.set _ _)=>True
 |some (.ins _ _ _)=>True
 |some (.ext _)=>True
 |_=>False
section
variable {P:Program} {w:World} {H:Hp} {h h':Heap} {x e:Addr} {o':HO}
theorem HOk.write(ok:HOk P w H h)(mu:Mut (H x))(he:e=x\/H e=some (.own x))(k:∀ b u,b≠e->h.get? b=some u->h'.get? b=some u)(heo:∃ u,h'.get? e=some u)
  (new:ObjOk P w (upd H x o') h' x o'):HOk P w (upd H x o') h':=λb u q=>by
 have nown:∀ c y,H c=some (.own y)->c≠x:=λc y r z=>by subst z;rw[r] at mu;exact mu
 have ntup:∀ c xs,H c=some (.tup xs)->c≠x:=λc xs r z=>by subst z;rw[r] at mu;exact mu
 by_cases hb:b=x
 ·subst hb;rw[qb] at q;cases q;exact new
 ·rw[Qa hb] at q;by_cases hbe:b=e
  ·have q':H b=some (.own x):=by
    rcases he with z|z
    ·exact absurd (hbe.trans z) hb
    ·rw[hbe];exact z
   rw[q] at q';cases q';obtain⟨v,hv⟩:=heo;exact⟨v,by rw[hbe];exact hv⟩
  ·refine(ok b u q).stay (λc v hc r=>k c v ?_ r) (λc r=>by rw[Qa (nown c b r)];exact r) λc xs r=>by rw[Qa (ntup c xs r)];exact r
   rcases hc with rfl|hc
   ·exact hbe
   ·rintro rfl
    rcases he with z|z
    ·exact nown c b hc z
    ·rw[hc] at z;cases z;exact hb rfl
end
structure Un (fs ex:List Addr) (H H':Hp) (h h':Heap):Prop where
 keep:∀ b o,h.get? b=some o->H b=none->b∉fs->b∉ex->h'.get? b=some o
 slot:∀ b o,h.get? b=some o->H b=none->b∈fs->b∉ex->∃ sl,h'.get? b=some {o with slots:=sl}
 free:∀ b o,h.get? b=some o->H b=none->b∉ex->H' b=none
 there:∀ b o,h.get? b=some o->b∉ex->∃ o',h'.get? b=some o'
 tups:∀ b xs,H b=some (.tup xs)->H' b=some (.tup xs)
 frzs:∀ b o u,H b=some (.frz o u)->H' b=some (.frz o u)
 tbls:∀ b ps,H b=some (.tbl ps)->∃ more,H' b=some (.tbl (ps++more))
section
variable {fs fs' ex ex':List Addr} {H H1 H2:Hp} {h h1 h2 h':Heap} {a x e:Addr} {o:HO}
theorem Un.any(u:Un fs ex H H1 h h1){b:Addr}{ob:Obj}(q:h.get? b=some ob)(n:H b=none)(hx:b∉ex):∃ sl,h1.get? b=some {ob with slots:=sl}:=by
 by_cases hb:b∈fs
 ·exact u.slot b ob q n hb hx
 ·exact⟨ob.slots,u.keep b ob q n hb hx⟩
theorem Un.kept(k:∀ b u,h.get? b=some u->h'.get? b=some u):Un fs ex H H h h' :=
 ⟨λb ob q _ _ _=>k b ob q,λb ob q _ _ _=>⟨ob.slots,k b ob q⟩,λ_ _ _ n _=>n,λb ob q _=>⟨ob,k b ob q⟩,λ_ _ q=>q,λ_ _ _ q=>q,λ_ ps q=>⟨#[],by rw[q];simp⟩⟩
theorem Un.refl:Un fs ex H H h h:=Un.kept λ_ _ q=>q
theorem Un.laid(k:∀ b u,h.get? b=some u->h'.get? b=some u)(hp:h.objs.size<=a)(hn:H a=none):Un fs ex H (upd H a o) h h' where
 keep:=λb u q _ _ _=>k b u q
 slot:=λb u q _ _ _=>⟨u.slots,k b u q⟩
 free:=λb u q n _=>by rw[Qa (Vb (Wc (ua q) hp))];exact n
 there:=λb u q _=>⟨u,k b u q⟩
 tups:=λb xs q=>by rw[Qa (Zd q hn)];exact q
 frzs:=λb u xs q=>by rw[Qa (Zd q hn)];exact q
 tbls:=λb ps q=>⟨#[],by rw[Qa (Zd q hn),q];simp⟩
theorem Un.write(mu:Mut (H x))(he:e=x\/H e=some (.own x))(k:∀ b u,b≠e->h.get? b=some u->h'.get? b=some u)(heo:∃ u,h'.get? e=some u):Un fs ex H (upd H x o) h h':=by
 have hx:∀ b,H b=none->b≠x:=λb n z=>by subst z;rw[n] at mu;exact mu
 have hb:∀ b,H b=none->b≠e:=λb n z=>by
  subst z
  rcases he with r|r
  ·exact hx b n r
  ·rw[n] at r;cases r
 have hm:∀ b u,H b=some u->¬ Mut (some u)->b≠x:=λb u q nm z=>by subst z;rw[q] at mu;exact nm mu
 refine⟨λb u q n _ _=>k b u (hb b n) q,λb u q n _ _=>⟨u.slots,k b u (hb b n) q⟩,λb u q n _=>by rw[Qa (hx b n)];exact n,λb u q _=>?_,
  λb xs q=>by rw[Qa (hm b _ q λz=>z)];exact q,λb u xs q=>by rw[Qa (hm b _ q λz=>z)];exact q,λb ps q=>⟨#[],by rw[Qa (hm b _ q λz=>z),q];simp⟩⟩
 by_cases hbe:b=e
 ·subst hbe;exact heo
 ·exact⟨u,k b u hbe q⟩
end
noncomputable def trk(h:Heap)(H:Hp):List Addr:=(Ue h.objs.size).filter λa=>(H a).isSome
noncomputable def qaD(h:Heap)(H:Hp):Heap:=PySem.W.hideAll h (trk h H)
theorem Qbr(h:Heap)(H:Hp):(qaD h H).objs.size=h.objs.size:=PySem.W.hideAll_size _ _
theorem YbA{h:Heap}{H:Hp}{b:Addr}{o:Obj}(e:h.get? b=some o)(n:H b=none):(qaD h H).get? b=some o :=
 PySem.W.hideAll_get _ e λhm=>by
  have q:(H b).isSome=true:=(List.mem_filter.mp hm).2;rw[n] at q;simp at q
theorem ZbV{h:Heap}{H:Hp}{b:Addr}{o:Obj}(e:(qaD h H).get? b=some o):h.get? b=some o/\H b=none:=by
 have e':h.get? b=some o:=PySem.W.of_hideAll (trk h H) e;refine⟨e',?_⟩;cases q:H b with
 |none=>rfl
 |some x =>
  have hm:b∈trk h H:=List.mem_filter.mpr ⟨uq.mpr (ua e'),by simp[q]⟩;have z:(qaD h H).get? b=none:=PySem.W.hideAll_none (trk h H) hm;rw[z] at e;cases e
structure Mod (K:PySem.W.Frag) (mg:Str->Option Value) (base:Heap):Prop where
 kin:K.In base
 glob:base.Ns mainGlobals mg
 blt:∃ mb,base.Ns builtinsNs mb/\∀ x:Str,x≠"__name__"->mb x=bootBuiltins x
 nolimit:base.NoLimit
structure Cx where
 prog:Program
 w:World
 K:PySem.W.Frag
 mg:Str->Option Value
 base:Heap
 A:Around
 N:List Str
 s₀:Shared
 H₀:Hp
 env:Env
 outer:List Env
 stack:List Env
 ex:List Addr
 fn:Str->Bool
 calm:Bool
 pn:List (Addr×Obj)
 xe:Value->Shared->Prop
noncomputable def frs(l:List Env):List Addr:=l.filterMap (·.frame)
noncomputable abbrev Cx.fs(X:Cx):List Addr:=frs X.outer
noncomputable def Vis(sc:Scope)(x:Str):Prop:=sc.names.lookup x=some .local\/sc.names.lookup x=some .cell\/sc.names.lookup x=some .free
noncomputable def Loc(sc:Scope)(x:Str):Prop:=sc.names.lookup x=some .local\/sc.names.lookup x=some .cell
noncomputable def Look(env:Env)(h:Heap)(m:Str->Option Value)(x:Str)(u:Value):Prop :=
 (env.kindOf x=some .local/\m x=some u)\/((env.kindOf x=some .cell\/env.kindOf x=some .free)/\∃ c,env.cells.lookup x=some c/\h.IsCell c (some u))
structure Cx.Ok (X:Cx):Prop where
 mod:Mod X.K X.mg X.base
 kind:X.env.scope.kind=.function
 glob:X.env.globals=mainGlobals
 blt:X.env.builtins=builtinsNs
 above:X.s₀.heap.objs.size<=X.env.locals
 inj:∀ x y c,X.env.cells.lookup x=some c->X.env.cells.lookup y=some c->x=y
 has:∀ x,(X.env.kindOf x=some .cell\/X.env.kindOf x=some .free)->∃ c,X.env.cells.lookup x=some c
 cab:∀ x c,X.fn x=true->X.env.cells.lookup x=some c->X.s₀.heap.objs.size<=c
 hd:X.calm=true->X.A.handled=none
 frames:X.A.frames=some X.stack
 stk:X.stack=X.outer\/(X.stack=X.env::X.outer/\X.env.frame=some X.env.locals)
 exf:∀ b∈X.ex,b≠X.env.locals/\∀ x c,X.env.cells.lookup x=some c->c≠b
 bs:∀ b o,X.base.get? b=some o->X.s₀.heap.get? b=some o/\X.H₀ b=none
 bsz:X.base.objs.size<=X.s₀.heap.objs.size
 noex:∀ b o,X.base.get? b=some o->b∉X.ex
 exfs:∀ b∈X.ex,b∉X.fs
 funs:X.s₀.heap.FunFrames X.base X.outer
 frf:∀ b∈X.fs,X.H₀ b=none
structure Inv (X:Cx) (pins:List (Addr×Obj)) (σ:List (Option V)) (H:Hp) (s:Shared):Prop where
 ok:X.Ok
 os:s.os=X.s₀.os
 bare:AllBare s.gens
 base:Un X.fs X.ex X.H₀ H X.s₀.heap s.heap
 loc:∃ m,s.heap.Ns X.env.locals m/\∀(i:Nat)(x:Str)(v:V),X.N[i]?=some x->σ[i]?=some (some v)->Vis X.env.scope x->∃ u,RelV v u/\Look X.env s.heap m x u
 cell:∀ x c,X.env.cells.lookup x=some c->∃ v,s.heap.IsCell c v
 free:H X.env.locals=none
 freeC:∀ x c,X.env.cells.lookup x=some c->H c=none
 pin:∀ p∈X.pn++pins,s.heap.get? p.1=some p.2/\H p.1=none/\p.1≠X.env.locals/\p.1∉X.fs/\∀ v,p.2.data≠.cell v
 hok:HOk X.prog X.w H s.heap
 len:σ.length=X.N.length
section
variable {X:Cx} {pins:List (Addr×Obj)} {σ:List (Option V)} {H H':Hp} {s:Shared} {h':Heap}
theorem Cx.Ok.nofr(ok:X.Ok){b:Addr}{o:Obj}(e:X.base.get? b=some o):b∉X.fs:=λhb=>by
 have:=(ok.funs.mem hb).1;rw[e] at this;cases this
theorem Inv.bs(I:Inv X pins σ H s):∀ b o,X.base.get? b=some o->s.heap.get? b=some o/\H b=none:=λb o e =>
 ⟨I.base.keep b o (I.ok.bs b o e).1 (I.ok.bs b o e).2 (I.ok.nofr e) (I.ok.noex b o e),I.base.free b o (I.ok.bs b o e).1 (I.ok.bs b o e).2 (I.ok.noex b o e)⟩
theorem Inv.bk(I:Inv X pins σ H s):∀ b o,X.base.get? b=some o->s.heap.get? b=some o:=λb o e=>(I.bs b o e).1
theorem Inv.mod(I:Inv X pins σ H s):Mod X.K X.mg X.base:=I.ok.mod
theorem Inv.kIn(I:Inv X pins σ H s):X.K.In s.heap:=I.ok.mod.kin.keeps I.bk
theorem Inv.lt(I:Inv X pins σ H s):X.env.locals<s.heap.objs.size:=let ⟨_,hn,_⟩:=I.loc;hn.lt
theorem Inv.sz(I:Inv X pins σ H s):X.s₀.heap.objs.size<=s.heap.objs.size:=Xe I.ok.above (Uv I.lt)
theorem Inv.nofs(I:Inv X pins σ H s){a:Addr}(h:s.heap.objs.size<=a):a∉X.fs:=λhb=>by
 obtain⟨_,o,ho,_⟩:=I.ok.funs.mem hb;exact absurd (Wc (ua ho) (Xe I.sz h)) (Wi _)
theorem Inv.cne(I:Inv X pins σ H s):∀ x c,X.env.cells.lookup x=some c->c≠X.env.locals:=λx c e z=>by
 obtain⟨v,o,ho,hd⟩:=I.cell x c e;obtain⟨m,⟨o',es,ep,ho',hd',_⟩,_⟩:=I.loc;rw[z,ho'] at ho;cases ho;rw[hd'] at hd;cases hd
theorem Inv.funs(I:Inv X pins σ H s):s.heap.FunFrames X.base X.outer:=by
 have all:∀(l:List Env),(∀ b∈frs l,b∈X.fs)->X.s₀.heap.FunFrames X.base l->s.heap.FunFrames X.base l:=by
  intro l
  induction l with
  |nil=>intro _ _;trivial
  |cons env r ih =>
   intro hs hl;obtain⟨hk,⟨L,o,hf,hn,ho,hd⟩,hr⟩:=hl;have hL:L∈X.fs:=hs L (by unfold frs;rw[Xp,hf];exact uh);obtain⟨sl,e⟩:=I.base.slot L o ho (I.ok.frf L hL) hL λz=>I.ok.exfs L z hL;exact⟨hk,⟨L,_,hf,hn,e,hd⟩,ih (λb hb=>hs b (by unfold frs;rw[Xp,hf];exact Ve _ hb)) hr⟩
 exact all X.outer (λ_ hb=>hb) I.ok.funs
theorem Inv.stack(I:Inv X pins σ H s):s.heap.FunFrames X.base X.stack:=by
 rcases I.ok.stk with e|⟨e,hf⟩
 ·rw[e];exact I.funs
 ·rw[e];obtain⟨m,hn,_⟩:=I.loc;refine .cons (by rw[I.ok.kind];decide) hf hn ?_ I.funs;exact um (Xe I.ok.bsz I.ok.above)
theorem Inv.stkSub(I:Inv X pins σ H s):∀ b∈frs X.stack,b∈X.env.locals::X.fs:=λb hb=>by
 rcases I.ok.stk with e|⟨e,hf⟩
 ·rw[e] at hb;exact Ve _ hb
 ·rw[e] at hb;unfold frs at hb;rw[Xp,hf] at hb;exact hb
theorem Inv.stkFree(I:Inv X pins σ H s):∀ b∈frs X.stack,H b=none:=λb hb=>by
 rcases xa.mp (I.stkSub b hb) with e|hb
 ·rw[e];exact I.free
 ·obtain⟨_,o,ho,_⟩:=I.ok.funs.mem hb;exact I.base.free b o ho (I.ok.frf b hb) λz=>I.ok.exfs b z hb
theorem Inv.step{g':Array GenState}{t':Nat}{d':Drawn}{ch:List Addr}(I:Inv X pins σ H s)
  (hch:∀ b∈ch,(b∈X.ex\/X.s₀.heap.objs.size<=b)/\b≠X.env.locals/\(∀ x c,X.env.cells.lookup x=some c->c≠b)/\∀ p∈X.pn++pins,p.1≠b)
  (keep:∀ b o,b≠X.env.locals->b∉X.fs->b∉ch->s.heap.get? b=some o->H b=none->h'.get? b=some o)
  (slot:∀ b o,b≠X.env.locals->b∈X.fs->b∉ch->s.heap.get? b=some o->H b=none->∃ sl,h'.get? b=some {o with slots:=sl}) (free:∀ b o,b∉ch->s.heap.get? b=some o->H b=none->H' b=none)
  (there:∀ b o,b∉ch->s.heap.get? b=some o->∃ o',h'.get? b=some o')
  (tups:∀ b xs,H b=some (.tup xs)->H' b=some (.tup xs)) (frzs:∀ b o u,H b=some (.frz o u)->H' b=some (.frz o u)) (tbls:∀ b ps,H b=some (.tbl ps)->∃ more,H' b=some (.tbl (ps++more)))
  (ns:∀ m,s.heap.Ns X.env.locals m->h'.Ns X.env.locals m) (hok:HOk X.prog X.w H' h') (hg:AllBare g') :
  Inv X pins σ H' {s with heap:=h',gens:=g',drawn:=d',toks:=t'}:=by
 have neL:∀ b o,X.s₀.heap.get? b=some o->b≠X.env.locals:=λb o e=>Vb (Wc (ua e) I.ok.above);have neC:∀ b o,X.s₀.heap.get? b=some o->b∉X.ex->b∉ch:=λb o e hx hb=>by
  rcases(hch b hb).1 with z|z
  ·exact hx z
  ·exact absurd (Wc (ua e) z) (Wi _)
 have cellK:∀ x c,X.env.cells.lookup x=some c->∀ v,s.heap.IsCell c v->h'.IsCell c v:=λx c e v ⟨o,ho,hd⟩=>by
  have nch:c∉ch:=λz=>(hch c z).2.2.1 x c e rfl;by_cases hc:c∈X.fs
  ·obtain⟨sl,q⟩:=slot c o (I.cne x c e) hc nch ho (I.freeC x c e);exact⟨_,q,hd⟩
  ·exact⟨o,keep c o (I.cne x c e) hc nch ho (I.freeC x c e),hd⟩
 refine⟨I.ok,I.os,hg,⟨λb o e n hb hx=>?_,λb o e n hb hx=>?_,λb o e n hx=>?_,λb o e hx=>?_,λb xs e=>tups b xs (I.base.tups b xs e),λb o xs e=>frzs b o xs (I.base.frzs b o xs e),λb ps e=>?_⟩,?_,λx c e=>?_,?_,λx c e=>?_,λp hp=>?_,hok,I.len⟩
 ·exact keep b o (neL b o e) hb (neC b o e hx) (I.base.keep b o e n hb hx) (I.base.free b o e n hx)
 ·obtain⟨sl,e1⟩:=I.base.slot b o e n hb hx;obtain⟨sl',e2⟩:=slot b _ (neL b o e) hb (neC b o e hx) e1 (I.base.free b o e n hx);exact⟨sl',e2⟩
 ·obtain⟨o',e1⟩:=I.base.there b o e hx;exact free b o' (neC b o e hx) e1 (I.base.free b o e n hx)
 ·obtain⟨o',e1⟩:=I.base.there b o e hx;exact there b o' (neC b o e hx) e1
 ·obtain⟨m1,e1⟩:=I.base.tbls b ps e;obtain⟨m2,e2⟩:=tbls b _ e1;exact⟨m1++m2,by rw[e2,Array.append_assoc]⟩
 ·obtain⟨m,hn,hl⟩:=I.loc;refine⟨m,ns m hn,λi x v e1 e2 e3=>?_⟩;obtain⟨u,r,l⟩:=hl i x v e1 e2 e3;refine⟨u,r,?_⟩
  rcases l with l|⟨k,c,e,z⟩
  ·exact .inl l
  ·exact .inr ⟨k,c,e,cellK x c e _ z⟩
 ·obtain⟨v,z⟩:=I.cell x c e;exact⟨v,cellK x c e v z⟩
 ·obtain⟨m,⟨o,_,_,ho,_⟩,_⟩:=I.loc;exact free _ o (λz=>(hch _ z).2.1 rfl) ho I.free
 ·obtain⟨v,o,ho,hd⟩:=I.cell x c e;exact free c o (λz=>(hch c z).2.2.1 x c e rfl) ho (I.freeC x c e)
 ·obtain⟨e,n,ne,nf,d⟩:=I.pin p hp;have nch:p.1∉ch:=λz=>(hch p.1 z).2.2.2 p hp rfl;exact⟨keep p.1 p.2 ne nf nch e n,free p.1 p.2 nch e n,ne,nf,d⟩
theorem Inv.un{t':Nat}(I:Inv X pins σ H s)(u:Un X.fs [] H H' s.heap h')(hok:HOk X.prog X.w H' h'):Inv X pins σ H' {s with heap:=h',toks:=t'}:=by
 obtain⟨m,⟨o,es,ep,ho,r⟩,_⟩:=id I.loc;obtain⟨sl,hL⟩:=u.any ho I.free (by simp);exact I.step (g':=s.gens) (d':=s.drawn) (ch:=[]) (λ_ z=>nomatch z) (λb o _ hb _ e n=>u.keep b o e n hb (by simp)) (λb o _ hb _ e n=>u.slot b o e n hb (by simp)) (λb o _ e n=>u.free b o e n (by simp)) (λb o _ e=>u.there b o e (by simp)) u.tups u.frzs u.tbls (λm' hm=>by
  obtain⟨o',es',ep',ho',r'⟩:=hm;rw[ho] at ho';cases ho';exact⟨_,es',ep',hL,r'⟩) hok I.bare
theorem Inv.call{g':Array GenState}{t':Nat}{d':Drawn}{ch:List Addr}(I:Inv X pins σ H s)(u:Un (frs X.stack) ch H H' s.heap h')(hok:HOk X.prog X.w H' h')(hg:AllBare g')
  (hch:∀ b∈ch,(b∈X.ex\/X.s₀.heap.objs.size<=b)/\b≠X.env.locals/\(∀ x c,X.env.cells.lookup x=some c->c≠b)/\∀ p∈X.pn++pins,p.1≠b) :
  Inv X pins σ H' {s with heap:=h',gens:=g',drawn:=d',toks:=t'}:=by
 obtain⟨m,⟨o,es,ep,ho,r⟩,_⟩:=id I.loc;obtain⟨sl,hL⟩:=u.any ho I.free λz=>(hch _ z).2.1 rfl;exact I.step (ch:=ch) hch (λb o hL hb hc e n=>u.keep b o e n (λz=>(xa.mp (I.stkSub b z)).elim hL hb) hc) (λb o _ _ hc e n=>u.any e n hc) (λb o hc e n=>u.free b o e n hc) (λb o hc e=>u.there b o e hc) u.tups u.frzs u.tbls (λm' hm=>by
  obtain⟨o',es',ep',ho',r'⟩:=hm;rw[ho] at ho';cases ho';exact⟨_,es',ep',hL,r'⟩) hok hg
theorem Inv.turned{t':Nat}{it:Addr}(I:Inv X pins σ H s)(k:∀ b o,b≠it->s.heap.get? b=some o->h'.get? b=some o)(hn:H it=none)(hL:it≠X.env.locals)
  (h1:it∈X.ex\/X.s₀.heap.objs.size<=it) (h2:∀ x c,X.env.cells.lookup x=some c->c≠it) (h3:∀ p∈X.pn++pins,p.1≠it):Inv X pins σ H {s with heap:=h',toks:=t'}:=by
 have nit:∀ b u,H b=some u->b≠it:=λb u e z=>by rw[z,hn] at e;cases e
 refine I.step (g':=s.gens) (d':=s.drawn) (ch:=[it]) (λb hb=>?_) (λb o _ _ hc e _=>k b o (λz=>hc (by simp[z])) e) (λb o _ _ hc e _=>⟨o.slots,k b o (λz=>hc (by simp[z])) e⟩) (λ_ _ _ _ n=>n)
  (λb o hc e=>⟨o,k b o (λz=>hc (by simp[z])) e⟩) (λ_ _ e=>e) (λ_ _ _ e=>e) (λb ps e=>⟨#[],by rw[e];simp⟩) (λm hm=>?_) (λb u e=>?_) I.bare
 ·have e:b=it:=by simpa using hb
  subst e;exact⟨h1,hL,h2,h3⟩
 ·obtain⟨o,es,ep,ho,r⟩:=hm;exact⟨o,es,ep,k _ o (Ne.symm hL) ho,r⟩
 ·refine(I.hok b u e).stay (λc v hc q=>k c v ?_ q) (λ_ q=>q) λ_ _ q=>q
  rcases hc with z|z
  ·rw[z];exact nit b u e
  ·exact nit c _ z
theorem Inv.tok(I:Inv X pins σ H s)(t:Nat):Inv X pins σ H {s with toks:=t}:=I.un (h':=s.heap) (t':=t) Un.refl I.hok
theorem Inv.kept{t':Nat}(I:Inv X pins σ H s)(k:∀ b u,s.heap.get? b=some u->h'.get? b=some u):Inv X pins σ H {s with heap:=h',toks:=t'}:=I.un (Un.kept k) (I.hok.kept k)
theorem Inv.laid{a:Addr}{o:HO}{t':Nat}(I:Inv X pins σ H s)(k:∀ b u,s.heap.get? b=some u->h'.get? b=some u)(hp:s.heap.objs.size<=a)(new:ObjOk X.prog X.w (upd H a o) h' a o) :
  Inv X pins σ (upd H a o) {s with heap:=h',toks:=t'}:=I.un (Un.laid k hp (I.hok.fresh hp)) (I.hok.laid k hp new)
theorem Inv.write{x e:Addr}{o:HO}{t':Nat}(I:Inv X pins σ H s)(mu:Mut (H x))(he:e=x\/H e=some (.own x))(k:∀ b u,b≠e->s.heap.get? b=some u->h'.get? b=some u)(heo:∃ u,h'.get? e=some u)
  (new:ObjOk X.prog X.w (upd H x o) h' x o):Inv X pins σ (upd H x o) {s with heap:=h',toks:=t'}:=I.un (Un.write mu he k heo) (I.hok.write mu he k heo new)
theorem Inv.pins_of{pins':List (Addr×Obj)}(I:Inv X pins σ H s)(h:∀ p∈pins',s.heap.get? p.1=some p.2/\H p.1=none/\p.1≠X.env.locals/\p.1∉X.fs/\∀ v,p.2.data≠.cell v):Inv X pins' σ H s :=
 ⟨I.ok,I.os,I.bare,I.base,I.loc,I.cell,I.free,I.freeC,λp hp=>(Uf.mp hp).elim (λz=>I.pin p (ud _ z)) (h p),I.hok,I.len⟩
theorem Qal{N:List Str}(hN:N.Nodup){i j:Nat}{x:Str}(a:N[i]?=some x)(b:N[j]?=some x):i=j:=by
 obtain⟨h1,e1⟩:=Xa.mp a;obtain⟨h2,e2⟩:=Xa.mp b;exact(List.getElem_inj hN).mp (e1.trans e2.symm)
theorem Qbj{M:Model}{A:Around}{E:Value->Shared->Prop}{i:Nat}{x:Str}{v:V}{u:Value}{Q:Unit->Shared->Prop}(I:Inv X pins σ H s)(hN:X.N.Nodup)(hi:X.N[i]?=some x)(hx:Loc X.env.scope x)(r:RelV v u)
  (h:∀ s',Inv X pins (σ.set i (some v)) H s'->(∃ a,Heap.SameBut a s.heap s'.heap/\(a=X.env.locals\/X.env.cells.lookup x=some a))->Q () s') (hf:X.fn x=true\/X.env.scope.names.lookup x=some .local:=by first|exact .inl rfl|exact .inr rfl|assumption):wpAny M A (storeName X.env x u) Q E s:=by
 obtain⟨m,hn,hl⟩:=id I.loc;have hcls:(X.env.scope.kind == .class||(X.env.scope.kind == .module&&X.env.locals != X.env.globals))=false:=by rw[I.ok.kind];rfl
 have hiσ:i<σ.length:=by rw[I.len];exact(Xa.mp hi).1
 have cne:=I.cne;have tracked:∀{a:Addr}{h':Heap},(∃ o,s.heap.get? a=some o/\H a=none)->Heap.SameBut a s.heap h'->HOk X.prog X.w H h':=λ{a h'} ha hs b ob e=>by
  obtain⟨_,_,hfree⟩:=ha;refine(I.hok b ob e).stay (λc w' hc q=>(hs.2 c ?_).trans q) (λ_ q=>q) λ_ _ q=>q;rintro rfl
  rcases hc with rfl|hc
  ·rw[hfree] at e;cases e
  ·rw[hfree] at hc;cases hc
 rcases hx with hk|hk
 ·refine wpAny_storeName_local hk hn (λh' hn' hs=>?_) hcls;obtain⟨oL,_,_,hoL,_⟩:=id hn;refine h _ ⟨I.ok,I.os,I.bare,⟨λb o e n hb hx=>?_,λb o e n hb hx=>?_,I.base.free,λb o e hx=>?_,I.base.tups,I.base.frzs,I.base.tbls⟩,⟨_,hn',λj y v' e1 e2 e3=>?_⟩,λy c e=>?_,I.free,I.freeC,λp hp=>?_,tracked ⟨oL,hoL,I.free⟩ hs,by simpa using I.len⟩ ⟨_,hs,.inl rfl⟩
  ·exact(hs.2 b (Vb (Wc (ua e) I.ok.above))).trans (I.base.keep b o e n hb hx)
  ·obtain⟨sl,e1⟩:=I.base.slot b o e n hb hx;exact⟨sl,(hs.2 b (Vb (Wc (ua e) I.ok.above))).trans e1⟩
  ·obtain⟨o',e1⟩:=I.base.there b o e hx;exact⟨o',(hs.2 b (Vb (Wc (ua e) I.ok.above))).trans e1⟩
  ·by_cases hj:j=i
   ·subst hj;rw[hi] at e1;cases e1;rw[vc hiσ] at e2;cases e2;exact⟨u,r,.inl ⟨hk,by simp⟩⟩
   ·rw[Ud (Ne.symm hj)] at e2;obtain⟨u',r',q⟩:=hl j y v' e1 e2 e3;refine⟨u',r',?_⟩
    rcases q with ⟨k,e⟩|⟨k,c,e,z⟩
    ·refine .inl ⟨k,?_⟩;have:y≠x:=λe=>hj (Qal hN e1 (e ▸ hi));simp[this,e]
    ·exact .inr ⟨k,c,e,z.sameBut hs (cne y c e)⟩
  ·obtain⟨w',z⟩:=I.cell y c e;exact⟨w',z.sameBut hs (cne y c e)⟩
  ·obtain⟨e,n,ne,nf,d⟩:=I.pin p hp;exact⟨(hs.2 p.1 ne).trans e,n,ne,nf,d⟩
 ·have hfn:X.fn x=true:=by
   rcases hf with z|z
   ·exact z
   ·rw[z] at hk;cases hk
  obtain⟨c,hc⟩:=I.ok.has x (.inl hk);obtain⟨w',z⟩:=I.cell x c hc;refine wpAny_storeName_cell I.ok.kind hk hc z (λh' hc' hs=>?_);obtain⟨oc,hoc,hocd⟩:=id z;refine h {s with heap:=h'} ⟨I.ok,I.os,I.bare,⟨λb o e n hb hx=>?_,λb o e n hb hx=>?_,I.base.free,λb o e hx=>?_,I.base.tups,I.base.frzs,I.base.tbls⟩,⟨m,hn.sameBut hs (Ne.symm (cne x c hc)),λj y v' e1 e2 e3=>?_⟩,λy c' e=>?_,I.free,I.freeC,λp hp=>?_,tracked ⟨oc,hoc,I.freeC x c hc⟩ hs,by simpa using I.len⟩ ⟨c,hs,.inr hc⟩
  ·exact(hs.2 b (Vb (Wc (ua e) (I.ok.cab x c hfn hc)))).trans (I.base.keep b o e n hb hx)
  ·obtain⟨sl,e1⟩:=I.base.slot b o e n hb hx;exact⟨sl,(hs.2 b (Vb (Wc (ua e) (I.ok.cab x c hfn hc)))).trans e1⟩
  ·obtain⟨o',e1⟩:=I.base.there b o e hx;exact⟨o',(hs.2 b (Vb (Wc (ua e) (I.ok.cab x c hfn hc)))).trans e1⟩
  ·by_cases hj:j=i
   ·subst hj;rw[hi] at e1;cases e1;rw[vc hiσ] at e2;cases e2;exact⟨u,r,.inr ⟨.inl hk,c,hc,hc'⟩⟩
   ·rw[Ud (Ne.symm hj)] at e2;obtain⟨u',r',q⟩:=hl j y v' e1 e2 e3;refine⟨u',r',?_⟩
    rcases q with q|⟨k,c',e,z'⟩
    ·exact .inl q
    ·refine .inr ⟨k,c',e,z'.sameBut hs ?_⟩;rintro rfl;exact hj (Qal hN e1 (I.ok.inj _ _ _ e hc ▸ hi))
  ·by_cases hcc:c'=c
   ·subst hcc;exact⟨_,hc'⟩
   ·obtain⟨w2,z2⟩:=I.cell y c' e;exact⟨w2,z2.sameBut hs hcc⟩
  ·obtain⟨e,n,ne,nf,d⟩:=I.pin p hp;refine⟨(hs.2 p.1 ?_).trans e,n,ne,nf,d⟩;intro q;rw[q,hoc] at e;have q':oc=p.2:=Option.some.inj e;exact d w' (by rw[<- q'];exact hocd)
theorem yV{M:Model}{A:Around}{E:Value->Shared->Prop}{i:Nat}{x:Str}{v:V}{u:Value}{Q:Unit->Shared->Prop}(I:Inv X pins σ H s)(hN:X.N.Nodup)(hi:X.N[i]?=some x)(hx:Loc X.env.scope x)(r:RelV v u)
  (h:∀ s',Inv X pins (σ.set i (some v)) H s'->Q () s') (hf:X.fn x=true\/X.env.scope.names.lookup x=some .local:=by first|exact .inl rfl|exact .inr rfl|assumption):wpAny M A (storeName X.env x u) Q E s :=
 Qbj I hN hi hx r (λs' I' _=>h s' I') hf
theorem Inv.call'{s':Shared}{ch:List Addr}(I:Inv X pins σ H s)(ho:s'.os=s.os)(u:Un (frs X.stack) ch H H' s.heap s'.heap)(hok:HOk X.prog X.w H' s'.heap)(hg:AllBare s'.gens)
  (hch:∀ b∈ch,(b∈X.ex\/X.s₀.heap.objs.size<=b)/\b≠X.env.locals/\(∀ x c,X.env.cells.lookup x=some c->c≠b)/\∀ p∈X.pn++pins,p.1≠b):Inv X pins σ H' s':=by
 obtain⟨h',g',d',t',o'⟩:=s';have e:o'=s.os:=ho;subst e;exact I.call (g':=g') (t':=t') (d':=d') u hok hg hch
end
noncomputable abbrev XK:=Value->Option Addr->Hp->Prop
noncomputable abbrev St:=List (Option V)
noncomputable abbrev VK:=V->Hp->Prop
noncomputable abbrev TE:=St->Hp->VK->Prop
noncomputable abbrev TT:=St->Hp->(Bool->Hp->Prop)->Prop
noncomputable abbrev TA:=St->Hp->(List V->Hp->Prop)->Prop
structure Ends where
 nx:St->Hp->Prop
 rt:VK
 bk:St->Hp->Prop:=λ_ _=>False
 ct:St->Hp->Prop:=λ_ _=>False
noncomputable abbrev TS:=Ends->St->Hp->Prop
noncomputable def EP(X:Cx)(pins:List (Addr×Obj))(σ:St)(Q:VK)(u:Value)(s':Shared):Prop:=∃ v H',Inv X pins σ H' s'/\RelV v u/\Q v H'
noncomputable def TP(X:Cx)(pins:List (Addr×Obj))(σ:St)(Q:Bool->Hp->Prop)(b:Bool)(s':Shared):Prop:=∃ H',Inv X pins σ H' s'/\Q b H'
noncomputable def AP(X:Cx)(pins:List (Addr×Obj))(σ:St)(Q:List V->Hp->Prop)(us:List Value)(s':Shared):Prop:=∃ vs H',Inv X pins σ H' s'/\Vals vs us/\Q vs H'
noncomputable def SP(X:Cx)(pins:List (Addr×Obj))(D:Ends)(f:Flow)(s':Shared):Prop :=
 match f with
 |.next=>∃ σ' H',Inv X pins σ' H' s'/\D.nx σ' H'
 |.brk=>∃ σ' H',Inv X pins σ' H' s'/\D.bk σ' H'
 |.cont=>∃ σ' H',Inv X pins σ' H' s'/\D.ct σ' H'
 |.ret u=>∃ v σ' H',Inv X pins σ' H' s'/\RelV v u/\D.rt v H'
noncomputable def PE(X:Cx)(e:Expr)(t:TE):Prop :=
 ∀(pins:List (Addr×Obj)) (s:Shared) (σ:St) (H:Hp) (Q:VK),Inv X pins σ H s->t σ H Q->wpAny (model X.prog X.w) X.A (eval e X.env) (EP X pins σ Q) X.xe s
noncomputable def PT(X:Cx)(e:Expr)(t:TT):Prop :=
 ∀(pins:List (Addr×Obj)) (s:Shared) (σ:St) (H:Hp) (Q:Bool->Hp->Prop),Inv X pins σ H s->t σ H Q->wpAny (model X.prog X.w) X.A (isTrue e X.env (eval e X.env)) (TP X pins σ Q) X.xe s
noncomputable def PW(X:Cx)(e:Expr)(t:TT):Prop :=
 ∀(whole:Sem Value)(pins:List (Addr×Obj)) (s:Shared) (σ:St) (H:Hp) (Q:Bool->Hp->Prop),Inv X pins σ H s->t σ H Q->wpAny (model X.prog X.w) X.A (isTrue e X.env whole) (TP X pins σ Q) X.xe s
theorem PW.pt{X:Cx}{e:Expr}{t:TT}(h:PW X e t):PT X e t:=h _
noncomputable def PA(X:Cx)(es:List Expr)(t:TA):Prop :=
 ∀(pos:Pos)(pins:List (Addr×Obj)) (s:Shared) (σ:St) (H:Hp) (Q:List V->Hp->Prop),Inv X pins σ H s->t σ H Q->wpAny (model X.prog X.w) X.A (spliced (backTo pos (starEach es X.env))) (AP X pins σ Q) X.xe s
noncomputable def PS(X:Cx)(st:Stmt)(t:TS):Prop :=
 ∀(pins:List (Addr×Obj)) (s:Shared) (σ:St) (H:Hp) (D:Ends),Inv X pins σ H s->t D σ H->wpAny (model X.prog X.w) X.A (exec st X.env) (SP X pins D) X.xe s
noncomputable def PSs(X:Cx)(st:List Stmt)(t:TS):Prop :=
 ∀(pins:List (Addr×Obj)) (s:Shared) (σ:St) (H:Hp) (D:Ends),Inv X pins σ H s->t D σ H->wpAny (model X.prog X.w) X.A (execs st X.env) (SP X pins D) X.xe s
theorem thn{α:Type}{t:Sem α}{Q Q':α->Shared->Prop}{M:Model}{A:Around}{E:Value->Shared->Prop}{s:Shared}(h:wpAny M A t Q E s)(hQ:∀ a s,Q a s->Q' a s):wpAny M A t Q' E s:=wpAny_mono h hQ λ_ _ x=>x
section
variable {X:Cx}
theorem bin{a b:Expr}{ta tb:TE}(ha:PE X a ta)(hb:PE X b tb){pins:List (Addr×Obj)}{s:Shared}{σ:St}{H:Hp}{R:V->V->Hp->Prop}(I:Inv X pins σ H s)(h:ta σ H λx H1=>tb σ H1 λy H2=>R x y H2)
  {α:Type} {Q:α->Shared->Prop} {f:Value->Value->Sem α}
  (hf:∀ v u s2 x y H2,Inv X pins σ H2 s2->RelV x v->RelV y u->R x y H2->wpAny (model X.prog X.w) X.A (f v u) Q X.xe s2) :
  wpAny (model X.prog X.w) X.A (eval a X.env) (λv s₁=>wpAny (model X.prog X.w) X.A (eval b X.env) (λu s₂=>wpAny (model X.prog X.w) X.A (f v u) Q X.xe s₂) X.xe s₁) X.xe s:=by
 refine thn (ha pins s σ H _ I h) λv s1 ⟨x,H1,I1,r1,q1⟩=>?_;refine thn (hb pins s1 σ H1 _ I1 q1) λu s2 ⟨y,H2,I2,r2,q2⟩=>?_;exact hf v u s2 x y H2 I2 r1 r2 q2
noncomputable def QaX(i:Nat):TE:=λσ H Q=>∃ v,σ[i]?=some (some v)/\Q v H
noncomputable def tC(v:V):TE:=λ_ H Q=>Q v H
theorem zS{i:Nat}{x:Str}{pos:Pos}(hN:X.N[i]?=some x)(hv:Vis X.env.scope x)(hd:(x==("__debug__":Str))=false:=by decide)(hcd:(x==("__classdict__":Str))=false:=by decide):PE X (.Name x pos) (QaX i):=by
 intro pins s σ H Q I h;obtain⟨v,e,h⟩:=h;obtain⟨m,hn,hl⟩:=I.loc;obtain⟨u,r,l⟩:=hl i x v hN e hv;have fin:EP X pins σ Q u s:=⟨v,H,I,r,h⟩
 rcases l with ⟨hk,hm⟩|⟨hk,c,hc,hcell⟩
 ·exact wpAny_Name (wpAny_loadName_local I.ok.kind hk hn hm fin) hd
 ·rcases hk with hk|hk
  ·exact wpAny_Name (wpAny_loadName_cell I.ok.kind hk hc hcell fin) hd
  ·exact wpAny_Name (wpAny_loadName_free I.ok.kind hk hc hcell fin hcd) hd
theorem zca{i j pos}:PE X (.Constant (.int i) j pos) (tC (.int i)):=λ_ _ _ H _ I h=>wpAny_Constant_int ⟨.int i,H,I.tok _,⟨_,rfl⟩,h⟩
theorem pe_bl{b j pos}:PE X (.Constant (.bool b) j pos) (tC (.bl b)):=λ_ _ _ H _ I h=>Constant_bool ⟨.bl b,H,I,rfl,h⟩
theorem qcg{j pos}:PE X (.Constant .none j pos) (tC .non):=λ_ _ _ H _ I h=>Constant_none ⟨.non,H,I,rfl,h⟩
theorem Ybu{x j pos}:PE X (.Constant (.str x) j pos) (tC (.str x)):=λ_ _ _ H _ I h=>Calls.Constant_str ⟨.str x,H,I.tok _,⟨_,rfl⟩,h⟩
noncomputable def Gl(X:Cx)(x:Str):Prop:=X.env.kindOf x=some .globalImplicit
theorem Qu{E:Value->Shared->Prop}{pins:List (Addr×Obj)}{s:Shared}{σ:St}{H:Hp}{x:Str}{u:Value}{pos:Pos}{Q:Value->Shared->Prop}(I:Inv X pins σ H s)(hg:Gl X x)(hm:X.mg x=some u)(h:Q u s)
  (hd:(x==("__debug__":Str))=false:=by decide):wpAny (model X.prog X.w) X.A (eval (.Name x pos) X.env) Q E s :=
 Calls.Name_function_global I.ok.kind hg (Calls.loadGlobal_global (by rw[I.ok.glob];exact I.mod.glob.keeps I.bk) hm h) hd
theorem Z3{E:Value->Shared->Prop}{pins:List (Addr×Obj)}{s:Shared}{σ:St}{H:Hp}{x:Str}{u:Value}{pos:Pos}{Q:Value->Shared->Prop}(I:Inv X pins σ H s)(hg:Gl X x)(hm:X.mg x=none)(hv:bootBuiltins x=some u)(h:Q u s)
  (hn:x≠"__name__":=by decide) (hd:(x==("__debug__":Str))=false:=by decide):wpAny (model X.prog X.w) X.A (eval (.Name x pos) X.env) Q E s:=by
 obtain⟨mb,h1,h2⟩:=I.mod.blt;exact Calls.Name_function_global I.ok.kind hg (Calls.loadGlobal_builtin (by rw[I.ok.glob];exact I.mod.glob.keeps I.bk) hm (by rw[I.ok.blt];exact h1.keeps I.bk) ((h2 x hn).trans hv) h) hd
theorem Zad{x:Str}{v:V}{u:Value}{pos:Pos}(hg:Gl X x)(hm:X.mg x=some u)(r:RelV v u)(hd:(x==("__debug__":Str))=false:=by decide):PE X (.Name x pos) (tC v) :=
 λ_ _ _ H _ I h=>Qu I hg hm ⟨v,H,I,r,h⟩ hd
theorem Ybf{x:Str}{v:V}{u:Value}{pos:Pos}(hg:Gl X x)(hm:X.mg x=none)(hv:bootBuiltins x=some u)(r:RelV v u)(hn:x≠"__name__":=by decide)(hd:(x==("__debug__":Str))=false:=by decide):PE X (.Name x pos) (tC v) :=
 λ_ _ _ H _ I h=>Z3 I hg hm hv ⟨v,H,I,r,h⟩ hn hd
variable {a b:Expr} {ta tb:TE} {pos:Pos}
noncomputable def PC(X:Cx)(op:CmpOp)(a b:Expr)(t:TE):Prop :=
 ∀(pins:List (Addr×Obj)) (s:Shared) (σ:St) (H:Hp) (Q:VK),Inv X pins σ H s->t σ H Q ->
  wpAny (model X.prog X.w) X.A (eval a X.env) (λv s₁=>wpAny (model X.prog X.w) X.A (eval b X.env) (λu s₂=>wpAny (model X.prog X.w) X.A (compareOp op v u) (EP X pins σ Q) X.xe s₂) X.xe s₁) X.xe s
theorem QaP(b:Expr){op:CmpOp}(h:op≠.In)(h2:op≠.NotIn):behindInMarks op b=false:=by
 have e1:(op==CmpOp.In)=false:=by cases op <;> first|rfl|exact absurd rfl h
 have e2:(op==CmpOp.NotIn)=false:=by cases op <;> first|rfl|exact absurd rfl h2
 cases b <;> simp[behindInMarks,e1,e2]
noncomputable def tIsN(ta:TE):TE:=λσ H Q=>ta σ H λx H1=>Q (.bl (decide (x=.non))) H1
noncomputable def tNotN(ta:TE):TE:=λσ H Q=>ta σ H λx H1=>Q (.bl (!decide (x=.non))) H1
theorem RelV.none_iff{x:V}{v:Value}(r:RelV x v):(v==Value.none)=decide (x=.non):=by
 cases x with
 |non=>cases r;rfl
 |bl _=>cases r;rfl
 |int _=>obtain⟨t,rfl⟩:=r;rfl
 |str _=>obtain⟨t,rfl⟩:=r;rfl
 |byt _=>obtain⟨t,rfl⟩:=r;rfl
 |flt _=>obtain⟨t,rfl⟩:=r;rfl
 |ref _=>cases r;rfl
 |ty _=>cases r;rfl
theorem ybF{j pos'}(ha:PE X a ta):PC X .Is a (.Constant .none j pos') (tIsN ta):=by
 intro pins s σ H Q I h;refine thn (ha pins s σ H _ I h) λv s1 ⟨x,H1,I1,r1,q1⟩=>?_;exact Constant_none (is_none_gen ⟨.bl _,H1,I1,by rw[r1.none_iff];rfl,q1⟩)
theorem qa9{j pos'}(ha:PE X a ta):PC X .IsNot a (.Constant .none j pos') (tNotN ta):=by
 intro pins s σ H Q I h;refine thn (ha pins s σ H _ I h) λv s1 ⟨x,H1,I1,r1,q1⟩=>?_;exact Constant_none (isnot_none_gen ⟨.bl _,H1,I1,by rw[r1.none_iff];rfl,q1⟩)
noncomputable def tB(t:TE):TT:=λσ H Q=>t σ H λx H1=>∃ c,x=.bl c/\Q c H1
theorem QbG{op:CmpOp}{t:TE}(h:PC X op a b t)(h1:behindInMarks op b=false:=by first|exact QaP _ (by decide) (by decide)|rfl):PE X (.Compare a [op] [b] pos) t:=λpins s σ H Q I hw=>wpAny_Compare1 (h pins s σ H Q I hw) h1
theorem Qbz{op:CmpOp}{t:TE}(h:PC X op a b t)(h1:behindInMarks op b=false:=by first|exact QaP _ (by decide) (by decide)|rfl):PT X (.Compare a [op] [b] pos) (tB t):=by
 intro pins s σ H Q I hw;refine wpAny_isTrue_Compare1 (thn (h pins s σ H _ I hw) λv s1 h1=>thn h1 λu s2 h2=>thn h2 λc s3 ⟨x,H1,I1,r1,q1⟩=>?_) h1;obtain⟨d,rfl,q⟩:=q1;cases r1;exact wpAny_truthy_bool ⟨H1,I1,q⟩
theorem Qci{e:Expr}{t:TE}(h:PE X e t)(he:∀ whole,isTrue e X.env whole=(do let v<-whole;standAt e.pos;holding [v] (truthy v)):=by intro _;rfl):PT X e (tB t):=by
 intro pins s σ H Q I hw;refine isTrue_plain (thn (h pins s σ H _ I hw) λv s1 ⟨x,H1,I1,r1,q1⟩=>?_) (he _);obtain⟨d,rfl,q⟩:=q1;cases r1;exact wpAny_truthy_bool ⟨H1,I1,q⟩
variable {tA tB':TT} {rest:List Expr}
noncomputable def tAnd(t u:TT):TT:=λσ H Q=>t σ H λc H1=>if c=true then u σ H1 Q else Q false H1
noncomputable def tOr(t u:TT):TT:=λσ H Q=>t σ H λc H1=>if c=true then Q true H1 else u σ H1 Q
noncomputable def tNot(t:TT):TT:=λσ H Q=>t σ H λc H1=>Q (!c) H1
theorem ZbT(ha:PT X a tA):PW X (.BoolOp .And [a] pos) tA:=by
 intro wh pins s σ H Q I h;refine isTrue_and (thn (ha pins s σ H Q I h) λc s1 e=>?_);cases c with
 |true=>exact isTrue_and_nil e
 |false=>exact e
theorem Zcq(ha:PT X a tA):PW X (.BoolOp .Or [a] pos) tA:=by
 intro wh pins s σ H Q I h;refine isTrue_or (thn (ha pins s σ H Q I h) λc s1 e=>?_);cases c with
 |false=>exact isTrue_or_nil e
 |true=>exact e
theorem Zcr(ha:PT X a tA)(hb:PW X (.BoolOp .And (b::rest) pos) tB'):PW X (.BoolOp .And (a::b::rest) pos) (tAnd tA tB'):=by
 intro wh pins s σ H Q I h;refine isTrue_and (thn (ha pins s σ H _ I h) λc s1 ⟨H1,I1,q1⟩=>?_);cases c with
 |true=>exact hb wh pins s1 σ H1 Q I1 q1
 |false=>exact⟨H1,I1,q1⟩
theorem pw_or(ha:PT X a tA)(hb:PW X (.BoolOp .Or (b::rest) pos) tB'):PW X (.BoolOp .Or (a::b::rest) pos) (tOr tA tB'):=by
 intro wh pins s σ H Q I h;refine isTrue_or (thn (ha pins s σ H _ I h) λc s1 ⟨H1,I1,q1⟩=>?_);cases c with
 |true=>exact⟨H1,I1,q1⟩
 |false=>exact hb wh pins s1 σ H1 Q I1 q1
theorem Zcl(ha:PT X a tA):PT X (.UnaryOp .Not a pos) (tNot tA):=by
 intro pins s σ H Q I h;exact isTrue_not (ha pins s σ H (λc H1=>Q (!c) H1) I h)
noncomputable def tAndV(ta tb:TE):TE:=λσ H Q=>ta σ H λx H1=>∃ c,x=.bl c/\if c=true then tb σ H1 Q else Q (.bl false) H1
noncomputable def tOrV(ta tb:TE):TE:=λσ H Q=>ta σ H λx H1=>∃ c,x=.bl c/\if c=true then Q (.bl true) H1 else tb σ H1 Q
noncomputable def tNotV(ta:TE):TE:=λσ H Q=>ta σ H λx H1=>∃ c,x=.bl c/\Q (.bl (!c)) H1
theorem qbw{op}{t:TE}(h:PE X a t):PE X (.BoolOp op [a] pos) t:=λpins s σ H Q I hw=>BoolOp_one (h pins s σ H Q I hw)
theorem zcn(ha:PE X a ta)(hb:PE X (.BoolOp .And (b::rest) pos) tb):PE X (.BoolOp .And (a::b::rest) pos) (tAndV ta tb):=by
 intro pins s σ H Q I h;refine BoolOp_and (thn (ha pins s σ H _ I h) λv s1 ⟨x,H1,I1,r1,q1⟩=>?_);obtain(⟨c,rfl,q1⟩):=q1;cases r1;refine wpAny_truthy_bool ?_;cases c with
 |true=>exact hb pins s1 σ H1 Q I1 q1
 |false=>exact⟨.bl false,H1,I1,rfl,q1⟩
theorem pe_or(ha:PE X a ta)(hb:PE X (.BoolOp .Or (b::rest) pos) tb):PE X (.BoolOp .Or (a::b::rest) pos) (tOrV ta tb):=by
 intro pins s σ H Q I h;refine BoolOp_or (thn (ha pins s σ H _ I h) λv s1 ⟨x,H1,I1,r1,q1⟩=>?_);obtain(⟨c,rfl,q1⟩):=q1;cases r1;refine wpAny_truthy_bool ?_;cases c with
 |false=>exact hb pins s1 σ H1 Q I1 q1
 |true=>exact⟨.bl true,H1,I1,rfl,q1⟩
theorem qcl(ha:PE X a ta):PE X (.UnaryOp .Not a pos) (tNotV ta):=by
 intro pins s σ H Q I h;refine UnaryOp_ (thn (ha pins s σ H _ I h) λv s1 ⟨x,H1,I1,r1,q1⟩=>?_);obtain(⟨c,rfl,q1⟩):=q1;cases r1;exact not_of (wpAny_truthy_bool ⟨.bl (!c),H1,I1,rfl,q1⟩)
noncomputable def tIf(t:TT)(ta tb:TE):TE:=λσ H Q=>t σ H λc H1=>if c=true then ta σ H1 Q else tb σ H1 Q
theorem qbJ{c:Expr}(hc:PT X c tA)(ha:PE X a ta)(hb:PE X b tb):PE X (.IfExp c a b pos) (tIf tA ta tb):=by
 intro pins s σ H Q I h;refine wpAny_IfExp (thn (hc pins s σ H _ I h) λd s1 ⟨H1,I1,q1⟩=>?_);cases d with
 |true=>exact ha pins s1 σ H1 Q I1 q1
 |false=>exact hb pins s1 σ H1 Q I1 q1
end
noncomputable def SqL(K:PySem.W.Frag)(H:Hp)(a:Addr)(xs:List V):Prop :=
 Rd H a (.lst xs) \/
  ∃(o:Obj)(its:Array Value)(n:Nat),K.lookup a=some o/\o.cls=.type "list"/\o.dict=none/\o.data=.seq its n/\its.size<=sizeLine/\Vals xs its.toList
noncomputable def SqT(K:PySem.W.Frag)(H:Hp)(a:Addr)(xs:List V):Prop :=
 Rd H a (.tup xs) \/
  ∃(o:Obj)(its:Array Value)(n:Nat),K.lookup a=some o/\o.cls=.type "tuple"/\o.data=.seq its n/\its.size<=sizeLine/\Vals xs its.toList
noncomputable def absV:Value->Option V
 |.none=>some .non
 |.bool b=>some (.bl b)
 |.int i _=>some (.int i)
 |.str x _=>some (.str x)
 |.bytes b _=>some (.byt b)
 |.float b _=>some (.flt b)
 |.ref a=>some (.ref a)
 |.type n=>some (.ty n)
 |_=>none
theorem RelV.abs{x:V}{u:Value}(r:RelV x u):absV u=some x:=by
 cases x with
 |non=>cases r;rfl
 |bl _=>cases r;rfl
 |int _=>obtain⟨t,rfl⟩:=r;rfl
 |str _=>obtain⟨t,rfl⟩:=r;rfl
 |byt _=>obtain⟨t,rfl⟩:=r;rfl
 |flt _=>obtain⟨t,rfl⟩:=r;rfl
 |ref _=>cases r;rfl
 |ty _=>cases r;rfl
theorem RelV.inj{x y:V}{u:Value}(r:RelV x u)(q:RelV y u):x=y:=Option.some.inj (r.abs.symm.trans q.abs)
theorem Vals.inj:∀{xs ys:List V}{us:List Value},Vals xs us->Vals ys us->xs=ys
 |_,_,_,.nil,.nil=>rfl
 |_,_,_,.cons r t,.cons r' t'=>by rw[r.inj r',Vals.inj t t']
section
variable {X:Cx} {pins:List (Addr×Obj)} {σ:St} {H:Hp} {s:Shared} {a:Addr} {xs ys:List V}
theorem SqL.of{K:PySem.W.Frag}(h:H a=some (.lst xs)):SqL K H a xs:=.inl (.inl h)
theorem SqT.of{K:PySem.W.Frag}(h:H a=some (.tup xs)):SqT K H a xs:=.inl (.inl h)
theorem Inv.list(I:Inv X pins σ H s)(h:SqL X.K H a xs):∃ its:List Value,Vals xs its/\PlainL s.heap a its.toArray/\xs.length<=sizeLine:=by
 rcases h with h|⟨o,its,n,hk,hc,hd,hs,hz,r⟩
 ·obtain⟨z,its,n,r,e⟩:=h.ok I.hok;exact⟨its,r,⟨_,n,e,rfl,rfl,rfl⟩,z⟩
 ·refine⟨its.toList,r,⟨o,n,I.kIn a o hk,hc,hd,by simpa using hs⟩,?_⟩;have e:=r.length;simp only[ut] at e
  lia
theorem Inv.tuple(I:Inv X pins σ H s)(h:SqT X.K H a xs):∃ its:List Value,Vals xs its/\IsTup s.heap a its.toArray/\xs.length<=sizeLine:=by
 rcases h with h|⟨o,its,n,hk,hc,hs,hz,r⟩
 ·obtain⟨z,its,r,p⟩:=h.ok I.hok;exact⟨its,r,p,z⟩
 ·refine⟨its.toList,r,⟨o,I.kIn a o hk,hc,n,by simpa using hs⟩,?_⟩;have e:=r.length;simp only[ut] at e
  lia
theorem Inv.list_inj(I:Inv X pins σ H s)(h:SqL X.K H a xs)(h':SqL X.K H a ys):xs=ys:=by
 obtain⟨its,r,⟨o,n,e,_,_,d⟩,_⟩:=I.list h;obtain⟨its',r',⟨o',n',e',_,_,d'⟩,_⟩:=I.list h';rw[e] at e';cases e';rw[d] at d';injection d' with d1 _
 have:its=its':=by simpa using congrArg Xy d1
 subst this;exact r.inj r'
theorem Inv.tuple_inj(I:Inv X pins σ H s)(h:SqT X.K H a xs)(h':SqT X.K H a ys):xs=ys:=by
 obtain⟨its,r,⟨o,e,_,n,d⟩,_⟩:=I.tuple h;obtain⟨its',r',⟨o',e',_,n',d'⟩,_⟩:=I.tuple h';rw[e] at e';cases e';rw[d] at d';injection d' with d1 _
 have:its=its':=by simpa using congrArg Xy d1
 subst this;exact r.inj r'
end
section
variable {X:Cx} {st:Stmt} {rest:List Stmt} {t u:TS} {e:Expr} {te:TE} {pos:Pos}
noncomputable def Zb4:TS:=λD σ H=>D.nx σ H
noncomputable def tSeq(t u:TS):TS:=λD σ H=>t {D with nx:=u D} σ H
theorem zbb:PSs X [] Zb4:=λ_ _ σ H _ I h=>wpAny_execs_nil ⟨σ,H,I,h⟩
theorem qaN(h1:PS X st t)(h2:PSs X rest u):PSs X (st::rest) (tSeq t u):=by
 intro pins s σ H D I h;refine wpAny_execs_cons (thn (h1 pins s σ H {D with nx:=u D} I h) λf s1 q=>?_);cases f with
 |next =>
  obtain⟨σ',H',I',q⟩:=q;exact h2 pins s1 σ' H' D I' q
 |ret v=>exact q
 |brk=>exact q
 |cont=>exact q
theorem zae(h1:PS X st t):PSs X [st] t:=by
 intro pins s σ H D I h;refine wpAny_execs_cons (thn (h1 pins s σ H D I h) λf s1 q=>?_);cases f with
 |next=>exact wpAny_execs_nil q
 |ret v=>exact q
 |brk=>exact q
 |cont=>exact q
theorem QbW:PS X (.Pass pos) Zb4:=λ_ _ σ H _ I h=>wpAny_Pass ⟨σ,H,I,h⟩
theorem Inv.quiet{pins:List (Addr×Obj)}{σ:St}{H:Hp}{s:Shared}(I:Inv X pins σ H s):interactive X.env=false:=by simp[interactive,I.ok.kind]
noncomputable def tDrop(te:TE):TS:=λD σ H=>te σ H λ_ H1=>D.nx σ H1
theorem Ybc(he:PE X e te)(hs:swapsWith e none pos.line X.env=pure false:=by rfl):PS X (.Expr e pos) (tDrop te):=by
 intro pins s σ H D I h;exact wpAny_Expr_any (thn (he pins s σ H _ I h) λv s1 ⟨x,H1,I1,r1,q1⟩=>⟨σ,H1,I1,q1⟩) I.quiet hs
noncomputable def tRet(te:TE):TS:=λD σ H=>te σ H D.rt
theorem Qb7(he:PE X e te):PS X (.Return (some e) pos) (tRet te):=by
 intro pins s σ H D I h;exact wpAny_Return_some (thn (he pins s σ H _ I h) λv s1 ⟨x,H1,I1,r1,q1⟩=>⟨x,σ,H1,I1,r1,q1⟩)
noncomputable def tRetN:TS:=λD _ H=>D.rt .non H
theorem qb0:PS X (.Return none pos) tRetN:=λ_ _ σ H _ I h=>wpAny_Return_none ⟨.non,σ,H,I,rfl,h⟩
noncomputable def tIfS(c:TT)(t u:TS):TS:=λD σ H=>c σ H λb H1=>if b=true then t D σ H1 else u D σ H1
theorem ps_if{c:Expr}{a b:List Stmt}{tc:TT}(hc:PT X c tc)(ha:PSs X a t)(hb:PSs X b u):PS X (.If c a b pos) (tIfS tc t u):=by
 intro pins s σ H D I h;refine wpAny_If (thn (hc pins s σ H _ I h) λd s1 ⟨H1,I1,q1⟩=>?_);cases d with
 |true=>exact ha pins s1 σ H1 D I1 q1
 |false=>exact hb pins s1 σ H1 D I1 q1
end
noncomputable abbrev TG:=V->St->Hp->(St->Hp->Prop)->Prop
noncomputable abbrev TGs:=List V->St->Hp->(St->Hp->Prop)->Prop
noncomputable def PG(X:Cx)(target:Expr)(t:TG):Prop :=
 ∀(pins:List (Addr×Obj)) (s:Shared) (σ:St) (H:Hp) (v:V) (u:Value) (Q:St->Hp->Prop),Inv X pins σ H s->RelV v u->t v σ H Q ->
  wpAny (model X.prog X.w) X.A (assign target X.env u) (λ_ s'=>∃ σ' H',Inv X pins σ' H' s'/\Q σ' H') X.xe s
noncomputable def PGs(X:Cx)(ts:List Expr)(t:TGs):Prop :=
 ∀(pins:List (Addr×Obj)) (s:Shared) (σ:St) (H:Hp) (vs:List V) (us:List Value) (Q:St->Hp->Prop),Inv X pins σ H s->Vals vs us->t vs σ H Q ->
  wpAny (model X.prog X.w) X.A (assignInOrder ((assignEach ts X.env).map (·.2)) us) (λ_ s'=>∃ σ' H',Inv X pins σ' H' s'/\Q σ' H') X.xe s
noncomputable abbrev TSet:=V->V->V->Hp->(Hp->Prop)->Prop
noncomputable def PSet(X:Cx)(t:TSet):Prop :=
 ∀(pins:List (Addr×Obj)) (s:Shared) (σ:St) (H:Hp) (o i v:V) (ov iv u:Value) (Q:Hp->Prop),Inv X pins σ H s->RelV o ov->RelV i iv->RelV v u->t o i v H Q ->
  wpAny (model X.prog X.w) X.A (setItem ov iv u) (λ_ s'=>∃ H',Inv X pins σ H' s'/\Q H') X.xe s
section
variable {X:Cx} {pos:Pos}
noncomputable def qa8(i:Nat):TG:=λv σ H Q=>Q (σ.set i (some v)) H
theorem Qbb{i:Nat}{x:Str}(hN:X.N.Nodup)(hi:X.N[i]?=some x)(hx:Loc X.env.scope x)(hf:X.fn x=true\/X.env.scope.names.lookup x=some .local:=by first|exact .inl rfl|exact .inr rfl|assumption):PG X (.Name x pos) (qa8 i):=by
 intro pins s σ H v u Q I r h;exact wpAny_assign_Name (yV I hN hi hx r (λs' I'=>⟨_,H,I',h⟩) hf)
noncomputable def gNil:TGs:=λvs σ H Q=>vs=[]/\Q σ H
noncomputable def gCons(t:TG)(u:TGs):TGs:=λvs σ H Q=>∃ v r,vs=v::r/\t v σ H λσ' H'=>u r σ' H' Q
theorem zbZ:PGs X [] gNil:=by
 intro pins s σ H vs us Q I r h;obtain(⟨e,h⟩):=h;subst e;cases r;exact assignInOrder_nil ⟨σ,H,I,h⟩
theorem QbM{e:Expr}{es:List Expr}{t:TG}{u:TGs}(h1:PG X e t)(h2:PGs X es u)
  (hs:(assignEach (e::es) X.env).map (·.2)=assign e X.env::(assignEach es X.env).map (·.2):=by rfl):PGs X (e::es) (gCons t u):=by
 intro pins s σ H vs us Q I r h;obtain(⟨v,vr,e1,h⟩):=h;subst e1;cases r with
 |cons r rr =>
  rw[hs];refine assignInOrder_cons (thn (h1 pins s σ H _ _ _ I r h) λ_ s1 ⟨σ1,H1,I1,q1⟩=>?_);exact h2 pins s1 σ1 H1 _ _ Q I1 rr q1
noncomputable def gTup(K:PySem.W.Frag)(n:Nat)(t:TGs):TG:=λv σ H Q=>∃ a xs,v=.ref a/\SqT K H a xs/\xs.length=n/\t xs σ H Q
theorem yb9{es:List Expr}{k:Nat}{t:TGs}{n:Nat}(hc:X.calm=true)(h:PGs X es t)
  (hn:(assignEach es X.env).length=n:=by rfl) (hst:(assignEach es X.env).findIdx? (·.1)=none:=by rfl):PG X (.Tuple es k pos) (gTup X.K n t):=by
 intro pins s σ H v u Q I r hw;obtain(⟨a,xs,e1,hq,hl,hw⟩):=hw;subst e1;cases r;obtain(⟨its,rv,ht,hz⟩):=I.tuple hq;refine assign_Tuple_tuple (I.ok.hd hc) ht (by simp[hn,<- hl,rv.length]) hst λh' hx=>?_;have I1:Inv X pins σ H {s with heap:=h'}:=I.kept (t':=s.toks) λb o e=>hx b o (Vb (ua e)) e;exact h pins _ σ H xs _ Q I1 (by simpa using rv) hw
noncomputable def gSub(to ti:TE)(t:TSet):TG:=λv σ H Q=>to σ H λo H1=>ti σ H1 λi H2=>t o i v H2 λH3=>Q σ H3
theorem Qcc{o i:Expr}{to ti:TE}{t:TSet}(ho:PE X o to)(hi:PE X i ti)(hs:PSet X t)
  (ha:∀ v,assign (.Subscript o i pos) X.env v=(do
   let ov<-holding [v] (eval o X.env)
   let iv<-holding [v,ov] (eval i X.env)
   standAt pos
   holding [v,ov,iv] (setItem ov iv v)
   release [v,ov,iv] []):=by intro _;rfl):PG X (.Subscript o i pos) (gSub to ti t):=by
 intro pins s σ H v u Q I r h;rw[ha];refine wpAny_bind (wpAny_holding (thn (ho pins s σ H _ I h) λov s1 ⟨x,H1,I1,r1,q1⟩=>?_));refine wpAny_bind (wpAny_holding (thn (hi pins s1 σ H1 _ I1 q1) λiv s2 ⟨y,H2,I2,r2,q2⟩=>?_));refine wpAny_bind (wpAny_standAt (wpAny_bind (wpAny_holding (thn (hs pins s2 σ H2 x y v ov iv u _ I2 r1 r2 r q2) λ_ s3 ⟨H3,I3,q3⟩=>?_))));exact wpAny_release ⟨σ,H3,I3,q3⟩
noncomputable def tAsg(te:TE)(g:TG):TS:=λD σ H=>te σ H λx H1=>g x σ H1 D.nx
theorem zbv{tg e:Expr}{te:TE}{g:TG}(he:PE X e te)(hg:PG X tg g)(hs:swapsWithSole [tg] e pos.line X.env=pure false:=by rfl)(hw:swappedStores [tg] e X.env=pure none:=by rfl)
  (h1:(assignEach [tg] X.env).map (·.2)=[assign tg X.env]:=by rfl):PS X (.Assign [tg] e pos) (tAsg te g):=by
 intro pins s σ H D I h;refine wpAny_Assign_stores (thn (he pins s σ H _ I h) λv s1 ⟨x,H1,I1,r1,q1⟩=>?_) hs hw;rw[h1];exact thn (hg pins s1 σ H1 x v _ I1 r1 q1) λ_ s2 q=>q
theorem yaY{i:Nat}{x:Str}{e:Expr}{te:TE}{pos':Pos}(hN:X.N.Nodup)(hi:X.N[i]?=some x)(hx:Loc X.env.scope x)(he:PE X e te)(hs:swapsWith e (some (.Name x pos')) pos.line X.env=pure false:=by rfl)(hf:X.fn x=true\/X.env.scope.names.lookup x=some .local:=by first|exact .inl rfl|exact .inr rfl|assumption) :
  PS X (.Assign [.Name x pos'] e pos) (tAsg te (qa8 i)):=by
 intro pins s σ H D I h;refine wpAny_Assign_Name (thn (he pins s σ H _ I h) λv s1 ⟨y,H1,I1,r1,q1⟩=>?_) hs;exact yV I1 hN hi hx r1 (λs2 I2=>⟨_,H1,I2,q1⟩) hf
end
structure It where
 go:Nat->Hp->Prop
 yld:Nat->Hp->V->Hp->Prop
 stop:Nat->Hp->Prop
noncomputable def YH(X:Cx)(pins:List (Addr×Obj))(H:Hp)(b:Addr):Prop :=
 H b=none/\b≠X.env.locals/\b∉X.fs/\(b∈X.ex\/X.s₀.heap.objs.size<=b)/\(∀ x c,X.env.cells.lookup x=some c->c≠b)/\∀ p∈X.pn++pins,p.1≠b
theorem Inv.fpOk{X:Cx}{pins:List (Addr×Obj)}{σ:St}{H H':Hp}{s:Shared}{b:Addr}(I:Inv X pins σ H s)(hb:s.heap.objs.size<=b)(hn:H' b=none):YH X pins H' b:=by
 refine⟨hn,Ul (Wc I.lt hb),I.nofs hb,.inr (Xe I.sz hb),λx c e z=>?_,λp hp z=>?_⟩
 ·obtain⟨v,q⟩:=I.cell x c e;exact absurd (Wc q.lt (by rw[z];exact hb)) (Wi _)
 ·exact absurd (Wc (ua (I.pin p hp).1) (by rw[z];exact hb)) (Wi _)
structure Turn (P:Program) (w:World) (K:PySem.W.Frag) (tg:Expr) (J:It) (fp:List Addr) (it:Addr) (tn:Nat->Heap->Prop):Prop where
 mem:it∈fp
 obj:∀ i h,tn i h->∀ b∈fp,∃ o,h.get? b=some o/\∀ v,o.data≠.cell v
 keep:∀ i h h',tn i h->(∀ b∈fp,∀ o,h.get? b=some o->h'.get? b=some o)->tn i h'
 item:∀(X:Cx),X.prog=P->X.w=w->X.K=K->X.calm=true->∀(i:Nat)(pins:List (Addr×Obj)) (s:Shared) (σ:St) (H:Hp) (E:Value->Shared->Prop),Inv X pins σ H s->(∀ b∈fp,YH X pins H b)->tn i s.heap->J.go i H ->
  wpAny (model P w) X.A (pyNext (.ref it)) (λr s1=>∃ u,r=some u /\
   wpAny (model P w) X.A (letOwnedTupleGo tg (.ref it) u) (λ_ s2=>∃ x H',Inv X pins σ H' s2/\RelV x u/\J.yld i H x H'/\tn (i+1) s2.heap/\∀ b∈fp,H' b=none) E s1) E s
 done:∀(X:Cx),X.prog=P->X.w=w->X.K=K->X.calm=true->∀(i:Nat)(pins:List (Addr×Obj)) (s:Shared) (σ:St) (H:Hp) (E:Value->Shared->Prop),Inv X pins σ H s->(∀ b∈fp,YH X pins H b)->tn i s.heap->J.stop i H ->
  wpAny (model P w) X.A (pyNext (.ref it)) (λr s1=>r=none/\Inv X pins σ H s1) E s
 self:∀(A:Around)(i:Nat)(s:Shared)(Q:Value->Shared->Prop)(E:Value->Shared->Prop),tn i s.heap->Q (.ref it) s->wpAny (model P w) A (pyIter (.ref it)) Q E s
noncomputable abbrev TI:=St->Hp->(It->Hp->Prop)->Prop
noncomputable def PIE(X:Cx)(pins:List (Addr×Obj))(σ:St)(tg:Expr)(R:It->Hp->Prop)(itv:Value)(s2:Shared):Prop :=
 ∃(it:Addr)(fp:List Addr)(tn:Nat->Heap->Prop)(J:It)(H':Hp),itv=.ref it/\Inv X pins σ H' s2/\Turn X.prog X.w X.K tg J fp it tn/\tn 0 s2.heap/\(∀ b∈fp,YH X pins H' b)/\R J H'
noncomputable def PI(X:Cx)(tg iter:Expr)(wi:TI):Prop :=
 ∀(pins:List (Addr×Obj)) (s:Shared) (σ:St) (H:Hp) (R:It->Hp->Prop),Inv X pins σ H s->wi σ H R ->
  wpAny (model X.prog X.w) X.A (eval iter X.env) (λv s1=>wpAny (model X.prog X.w) X.A (pyIter v) (PIE X pins σ tg R) X.xe s1) X.xe s
theorem qaR {M:Model} {A:Around} {E:Value→Shared→Prop} {s:Shared} {tg:Expr} {it:Addr} {u:Value} {o:Obj} {n:String} {vs:Array Value} {Q:Unit→Shared→Prop} (ho:s.heap.get? it=some o) (hc:o.cls=.type n) (hd:o.data=.fields vs)
    (hn:["enumerate","zip","dict_itemiterator","dict_reverseitemiterator","odict_iterator","itertools.zip_longest","itertools.pairwise"].contains n=false) (hQ:Q () s):wpAny M A (letOwnedTupleGo tg (.ref it) u) Q E s:=by
  unfold letOwnedTupleGo
  cases tg <;> first
    | exact wpAny_pure hQ
    | (cases u <;> first
        | exact wpAny_pure hQ
        | (refine wpAny_bind (wpAny_load ho ?_)
           rw [hc,hd]
           show wpAny M A (if (["enumerate","zip","dict_itemiterator","dict_reverseitemiterator","odict_iterator","itertools.zip_longest","itertools.pairwise"].contains n&&vs[0]? == some (rawInt _))=true then _ else _) Q E s
           rw [if_neg (by intro h; rw [hn,Bool.false_and] at h; cases h)]
           exact wpAny_pure hQ))
noncomputable def Itl(K:PySem.W.Frag)(a:Addr):It :=
 ⟨λi H=>∃ xs x,SqL K H a xs/\xs[i]?=some x,λi H x H'=>H'=H/\∀ xs,SqL K H a xs->xs[i]?=some x,λi H=>∃ xs,SqL K H a xs/\xs.length<=i⟩
noncomputable def Itt(K:PySem.W.Frag)(a:Addr):It :=
 ⟨λi H=>∃ xs x,SqT K H a xs/\xs[i]?=some x,λi H x H'=>H'=H/\∀ xs,SqT K H a xs->xs[i]?=some x,λi H=>∃ xs,SqT K H a xs/\xs.length<=i⟩
noncomputable def Itr(lo:Int)(n:Nat):It:=⟨λi _=>i<n,λi H x H'=>H'=H/\x=.int (lo+i),λi _=>n<=i⟩
theorem Ybp{P:Program}{w:World}{K:PySem.W.Frag}{tg:Expr}(a it:Addr):Turn P w K tg (Itl K a) [it] it (λi h=>h.IsListIter it a i) where
 mem:=by simp
 obj:=λi h st b hb=>by
  have e:b=it:=by simpa using hb
  subst e;obtain⟨o,e,c,d⟩:=st;exact⟨o,e,λv z=>by rw[d] at z;cases z⟩
 keep:=λi h h' st k=>st.at λo e=>k it (by simp) o e
 item:=by
  intro X hP hw hK hc i pins s σ H E I hf st hg;subst hP hw hK;obtain⟨xs,x,hq,hx⟩:=hg;obtain⟨its,rv,p,hz⟩:=I.list hq;obtain⟨u,hu,ru⟩:=rv.get hx;obtain⟨f0,f1,f2,f3,f4,f5⟩:=hf it (by simp);refine wpAny_pyNext_list_item st p.isList (x:=u) (by simpa using hu) λh' st' sb=>?_;have I1:Inv X pins σ H {s with heap:=h'}:=I.turned (t':=s.toks) (λb o hb e=>(sb.2 b hb).trans e) f0 f1 f3 f4 f5;obtain⟨o,e,c,d⟩:=id st';exact⟨u,rfl,qaR (s:={s with heap:=h'}) e c d (by decide) ⟨x,H,I1,ru,⟨rfl,λys hy=>by rw[I.list_inj hy hq];exact hx⟩,st',λb hb=>(hf b hb).1⟩⟩
 done:=by
  intro X hP hw hK hc i pins s σ H E I hf st hg;subst hP hw hK;obtain⟨xs,hq,hx⟩:=hg;obtain⟨its,rv,p,hz⟩:=I.list hq;obtain⟨f0,f1,f2,f3,f4,f5⟩:=hf it (by simp);have hl:=rv.length;exact wpAny_pyNext_list_end (I.ok.hd hc) st p.isList (by simp;lia) λh' eb=>⟨rfl,I.turned (t':=s.toks) (λb o hb e=>eb b o hb e) f0 f1 f3 f4 f5⟩
 self:=λ_ _ _ _ _ st h=>wpAny_pyIter_listiter st h
theorem za8{P:Program}{w:World}{K:PySem.W.Frag}{tg:Expr}(a it:Addr):Turn P w K tg (Itt K a) [it] it (λi h=>h.IsTupleIter it a i) where
 mem:=by simp
 obj:=λi h st b hb=>by
  have e:b=it:=by simpa using hb
  subst e;obtain⟨o,e,c,d⟩:=st;exact⟨o,e,λv z=>by rw[d] at z;cases z⟩
 keep:=λi h h' st k=>st.at λo e=>k it (by simp) o e
 item:=by
  intro X hP hw hK hc i pins s σ H E I hf st hg;subst hP hw hK;obtain⟨xs,x,hq,hx⟩:=hg;obtain⟨its,rv,p,hz⟩:=I.tuple hq;obtain⟨u,hu,ru⟩:=rv.get hx;obtain⟨f0,f1,f2,f3,f4,f5⟩:=hf it (by simp);refine wpAny_pyNext_tuple_item st (show s.heap.IsTuple a its.toArray from p) (x:=u) (by simpa using hu) λh' st' sb=>?_;have I1:Inv X pins σ H {s with heap:=h'}:=I.turned (t':=s.toks) (λb o hb e=>(sb.2 b hb).trans e) f0 f1 f3 f4 f5;obtain⟨o,e,c,d⟩:=id st';exact⟨u,rfl,qaR (s:={s with heap:=h'}) e c d (by decide) ⟨x,H,I1,ru,⟨rfl,λys hy=>by rw[I.tuple_inj hy hq];exact hx⟩,st',λb hb=>(hf b hb).1⟩⟩
 done:=by
  intro X hP hw hK hc i pins s σ H E I hf st hg;subst hP hw hK;obtain⟨xs,hq,hx⟩:=hg;obtain⟨its,rv,p,hz⟩:=I.tuple hq;obtain⟨f0,f1,f2,f3,f4,f5⟩:=hf it (by simp);have hl:=rv.length;exact wpAny_pyNext_tuple_end (I.ok.hd hc) st (show s.heap.IsTuple a its.toArray from p) (by simp;lia) λh' eb=>⟨rfl,I.turned (t':=s.toks) (λb o hb e=>eb b o hb e) f0 f1 f3 f4 f5⟩
 self:=λ_ _ _ _ _ st h=>wpAny_pyIter_tupleiter st h
theorem ZaZ{P:Program}{w:World}{K:PySem.W.Frag}{tg:Expr}(it:Addr)(lo:Int)(n:Nat):Turn P w K tg (Itr lo n) [it] it (λi h=>IsRangeIter h it (lo+(i:Nat)*1) ((n:Int)-(i:Nat)) 1) where
 mem:=by simp
 obj:=λi h st b hb=>by
  have e:b=it:=by simpa using hb
  subst e;exact⟨_,st,λv z=>by
   have z':Data.fields _=Data.cell v:=z;cases z'⟩
 keep:=λi h h' st k=>k it (by simp) _ st
 item:=by
  intro X hP hw hK hc i pins s σ H E I hf st hg;subst hP hw hK;obtain⟨f0,f1,f2,f3,f4,f5⟩:=hf it (by simp);have W:=Walks.range (prog:=X.prog) (w:=X.w) (I.ok.hd hc) it lo 1 n;refine W.item i s _ _ hg st λv h' tk hv st' kk=>?_;obtain⟨t,rfl⟩:=hv;have I1:Inv X pins σ H {s with heap:=h',toks:=tk}:=I.turned (λb o hb e=>kk b o (by simpa using hb) e) f0 f1 f3 f4 f5;refine⟨_,rfl,qaR (s:={s with heap:=h',toks:=tk}) (n:="range_iterator") st' rfl rfl (by decide) ⟨.int (lo+i),H,I1,⟨t,?_⟩,⟨rfl,rfl⟩,st',λb hb=>(hf b hb).1⟩⟩;rw[Int.mul_one]
 done:=by
  intro X hP hw hK hc i pins s σ H E I hf st hg;subst hP hw hK;obtain⟨f0,f1,f2,f3,f4,f5⟩:=hf it (by simp);exact wpAny_pyNext_range_end (I.ok.hd hc) st (by have:n<=i:=hg;lia) λh' eb=>⟨rfl,I.turned (t':=s.toks) (λb o hb e=>eb b o hb e) f0 f1 f3 f4 f5⟩
 self:=λ_ _ _ _ _ st h=>wpAny_pyIter_rangeiter st h
section
variable {X:Cx} {tg:Expr}
theorem qbM{pins:List (Addr×Obj)}{σ:St}{H:Hp}{s:Shared}{R:It->Hp->Prop}{E:Value->Shared->Prop}{lo hi:Int}{t u v:Tok}{tk:Nat}(I:Inv X pins σ H s)(h1:-(2^62)<=lo)(h2:lo<2^62)(h3:-(2^62)<=hi)(h4:hi<2^62)
  (q:R (Itr lo (hi-lo).toNat) H):wpAny (model X.prog X.w) X.A (pyIter (.ref s.heap.objs.size)) (PIE X pins σ tg R) E {s with heap:=s.heap.push {cls:=.type "range",data:=.fields #[.int lo t,.int hi u,.int 1 v]},toks:=tk}:=by
 refine wpAny_pyIter_range (IsRange.new ..) (small_one h1 h2 h3 h4) ?_;have I1:Inv X pins σ H {s with heap:=s.heap.push {cls:=.type "range",data:=.fields #[.int lo t,.int hi u,.int 1 v]},toks:=tk}:=I.kept λb o e=>wa _ e;refine⟨(s.heap.push {cls:=.type "range",data:=.fields #[.int lo t,.int hi u,.int 1 v]}).objs.size,[(s.heap.push {cls:=.type "range",data:=.fields #[.int lo t,.int hi u,.int 1 v]}).objs.size],_,_,H,rfl,
  I1.kept (t':=tk) λb o e=>wa _ e,ZaZ _ lo (hi-lo).toNat,?_,λb hb=>?_,q⟩
 ·have e1:lo+((0:Nat):Int)*1=lo:=by simp
  have e2:(((hi-lo).toNat:Nat):Int)-((0:Nat):Int)=Builtin.Range.rangeSize lo hi 1:=by rw[rangeSize_one];split <;> lia
  show IsRangeIter _ _ (lo+((0:Nat):Int)*1) ((((hi-lo).toNat:Nat):Int)-((0:Nat):Int)) 1;rw[e1,e2];exact Wb _ rfl
 ·have e:b=(s.heap.push {cls:=.type "range",data:=.fields #[.int lo t,.int hi u,.int 1 v]}).objs.size:=by simpa using hb
  subst e;exact I1.fpOk (wb _) (I1.hok.fresh (wb _))
noncomputable def iRng1(ta:TA):TI:=λσ H R=>ta σ H λvs H1=>∃ j:Int,vs=[.int j]/\-(2^62)<=j/\j<2^62/\R (Itr 0 j.toNat) H1
theorem zbo{a:Expr}{ta:TA}{p pos:Pos}(hg:Gl X "range")(hm:X.mg "range"=none)(ha:PA X [a] ta)(hs:starEach [a] X.env=[(false,eval a X.env)]:=by rfl):PI X tg (.Call (.Name "range" p) [a] [] pos) (iRng1 ta):=by
 intro pins s σ H R I h;refine Call_ (Z3 I hg hm boot_range (PyProof.Rows.callWith_type1 (thn (ha pos pins s σ H _ I h) λus s1 ⟨vs,H1,I1,r1,q1⟩=>?_) hs rfl));obtain(⟨j,e,q1,q2,q⟩):=q1;subst e;cases r1 with
 |cons r rr =>
  cases rr;obtain(⟨t,rfl⟩):=r;exact call_range_1 (qbM I1 (by lia) (by lia) q1 q2 (by simpa using q))
noncomputable def tFor(wi:TI)(g:TG)(tb:TS):TS:=λD σ H=>wi σ H λJ H1=>∃ W:Nat->Nat->St->Hp->Prop,(∃ m,W 0 m σ H1)/\∀ i m σ H,W i m σ H ->
 (J.stop i H/\D.nx σ H)\/(J.go i H/\∃ N:St->Hp->Prop,(∀ σ' H',N σ' H'->∃ m',m'<m/\W (i+1) m' σ' H')/\∀ x H',J.yld i H x H'->g x σ H' λσ2 H2=>tb {D with nx:=N,ct:=N,bk:=D.nx} σ2 H2)
noncomputable def Y3(fp:List Addr)(h:Heap):List (Addr×Obj):=fp.filterMap λb=>(h.get? b).map λo=>(b,o)
theorem zn{fp:List Addr}{h:Heap}{b:Addr}{o:Obj}(hb:b∈fp)(e:h.get? b=some o):(b,o)∈Y3 fp h:=uy.mpr ⟨b,hb,by rw[e];rfl⟩
theorem Ybq{fp:List Addr}{h:Heap}{p:Addr×Obj}(hp:p∈Y3 fp h):p.1∈fp/\h.get? p.1=some p.2:=by
 obtain⟨b,hb,e⟩:=uy.mp hp;cases q:h.get? b with
 |none=>rw[q] at e;cases e
 |some o =>
  rw[q] at e;have e':(b,o)=p:=Option.some.inj e;subst e';exact⟨hb,q⟩
theorem Inv.pinned{pins:List (Addr×Obj)}{σ:St}{H:Hp}{s:Shared}{fp:List Addr}(I:Inv X pins σ H s)(hf:∀ b∈fp,YH X pins H b)(ho:∀ b∈fp,∃ o,s.heap.get? b=some o/\∀ v,o.data≠.cell v):Inv X (pins++Y3 fp s.heap) σ H s :=
 I.pins_of λp hp=>(Uf.mp hp).elim (λz=>I.pin p (uc _ z)) λz=>by
  obtain⟨hb,e⟩:=Ybq z;obtain⟨f0,f1,f2,_⟩:=hf p.1 hb;obtain⟨o,e',d⟩:=ho p.1 hb;rw[e] at e';cases e';exact⟨e,f0,f1,f2,d⟩
theorem Inv.unpinned{pins pl:List (Addr×Obj)}{σ:St}{H:Hp}{s:Shared}(I:Inv X (pins++pl) σ H s):Inv X pins σ H s:=I.pins_of λp hp=>I.pin p (uc _ (ud _ hp))
theorem ycr{iter:Expr}{body:List Stmt}{wi:TI}{g:TG}{tb:TS}{pos:Pos}(hp:PassesOwn (model X.prog X.w) X.A X.env X.xe)(hc:X.calm=true)(hi:PI X tg iter wi)(hg:PG X tg g)(hb:PSs X body tb)
  (hs:∀ x,foldedSetIterable iter X.env x=pure x:=by intro _;rfl):PS X (.For tg iter body [] pos) (tFor wi g tb):=by
 intro pins s σ H D I h;refine wpAny_For (thn (hi pins s σ H _ I h) λv s1 h1=>thn h1 λitv s2 h2=>?_) hs;obtain⟨it,fp,tn,J,H2,e,I2,T,st2,f2,W,⟨m0,w0⟩,turn⟩:=h2;subst e
 -- what stays true of the iterator's objects through the loop
 have stat:∀{H':Hp},(∀ b∈fp,H' b=none)->∀ b∈fp,YH X pins H' b:=λhn b hb=>⟨hn b hb,(f2 b hb).2⟩;refine codeAny_forLoop_any (λn s'=>∃ i σ' H',Inv X pins σ' H' s'/\tn i s'.heap/\(∀ b∈fp,H' b=none)/\W i n σ' H') ?_ m0 ⟨0,σ,H2,I2,st2,λb hb=>(f2 b hb).1,w0⟩;rintro n s3 ⟨i,σ3,H3,I3,st3,fr3,w3⟩
 rcases turn i n σ3 H3 w3 with ⟨stop,qn⟩|⟨go,N,hN,step⟩
 ·refine wpAny_passesOwn hp (thn (T.done X rfl rfl rfl hc i pins s3 σ3 H3 X.xe I3 (stat fr3) st3 stop) λr s4 ⟨hr,I4⟩=>?_);subst hr;exact wpAny_execs_nil ⟨σ3,H3,I4,qn⟩
 ·refine wpAny_passesOwn hp (thn (T.item X rfl rfl rfl hc i pins s3 σ3 H3 X.xe I3 (stat fr3) st3 go) λr s4 ⟨u,hr,h4⟩=>?_);subst hr;refine wpAny_passesOwn hp (thn h4 λ_ s5 ⟨x,H5,I5,r5,y5,st5,fr5⟩=>?_);have I5':=I5.pinned (stat fr5) (T.obj _ _ st5);refine wpAny_passesOwn hp (thn (hg _ s5 σ3 H5 x u _ I5' r5 (step x H5 y5)) λ_ s6 ⟨σ6,H6,I6,q6⟩=>?_);refine wpAny_passesOwn hp (thn (hb _ s6 σ6 H6 _ I6 q6) λf s7 q7=>?_);have again:∀{σ7:St}{H7:Hp},Inv X (pins++Y3 fp s5.heap) σ7 H7 s7->N σ7 H7->∃ m,m<n/\∃ i σ' H',Inv X pins σ' H' s7/\tn i s7.heap/\(∀ b∈fp,H' b=none)/\W i m σ' H':=λ{σ7 H7} I7 n7=>by
   obtain⟨m',hm,w7⟩:=hN σ7 H7 n7;refine⟨m',hm,i+1,σ7,H7,I7.unpinned,T.keep _ _ _ st5 λb hb o e=>(I7.pin (b,o) (uc _ (uc _ (zn hb e)))).1,λb hb=>?_,w7⟩;obtain⟨o,e,d⟩:=T.obj _ _ st5 b hb;exact(I7.pin (b,o) (uc _ (uc _ (zn hb e)))).2.1
  cases f with
  |next=>obtain⟨σ7,H7,I7,n7⟩:=q7;exact again I7 n7
  |cont=>obtain⟨σ7,H7,I7,n7⟩:=q7;exact again I7 n7
  |brk=>obtain⟨σ7,H7,I7,q7⟩:=q7;exact⟨σ7,H7,I7.unpinned,q7⟩
  |ret v=>obtain⟨x7,σ7,H7,I7,r7,q7⟩:=q7;exact⟨x7,σ7,H7,I7.unpinned,r7,q7⟩
end
noncomputable abbrev R2:=V->V->Hp->VK->Prop
noncomputable def OpR(X:Cx)(f:Value->Value->Sem Value)(r:R2):Prop :=
 ∀(pins:List (Addr×Obj)) (s:Shared) (σ:St) (H:Hp) (x y:V) (v u:Value) (Q:VK),Inv X pins σ H s->RelV x v->RelV y u->r x y H Q ->
  wpAny (model X.prog X.w) X.A (f v u) (EP X pins σ Q) X.xe s
noncomputable def CallR(X:Cx)(f:Value)(r:List V->Hp->VK->Prop):Prop :=
 ∀(pins:List (Addr×Obj)) (s:Shared) (σ:St) (H:Hp) (xs:List V) (us:List Value) (Q:VK),Inv X pins σ H s->Vals xs us->r xs H Q ->
  wpAny (model X.prog X.w) X.A (call f us) (EP X pins σ Q) X.xe s
noncomputable def tOp(r:R2)(ta tb:TE):TE:=λσ H Q=>ta σ H λx H1=>tb σ H1 λy H2=>r x y H2 Q
noncomputable def rI(C:Int->Int->Prop)(g:Int->Int->V):R2:=λx y H Q=>∃ i j,x=.int i/\y=.int j/\C i j/\Q (g i j) H
noncomputable def rI0(g:Int->Int->V):R2:=λx y H Q=>∃ i j,x=.int i/\y=.int j/\Q (g i j) H
section
variable {X:Cx} {a b c:Expr} {ta tb tc:TE} {pos:Pos}
theorem binT(ha:PE X a ta)(hb:PE X b tb){pins:List (Addr×Obj)}{s:Shared}{σ:St}{H:Hp}{R:V->V->Hp->Prop}(I:Inv X pins σ H s)
  (h:ta σ H λx H1=>tb σ H1 λy H2=>R x y H2) {Q:Value->Shared->Prop} {f:Value->Value->Sem Value}
  (hf:∀ v u s2 x y H2,Inv X pins σ H2 s2->RelV x v->RelV y u->R x y H2->wpAny (model X.prog X.w) X.A (f v u) Q X.xe s2) :
  wpAny (model X.prog X.w) X.A (eval a X.env) (λv s₁=>wpAny (model X.prog X.w) X.A (eval b X.env) (λu s₂=>wpAny (model X.prog X.w) X.A (f v u) Q X.xe s₂) X.xe s₁) X.xe s:=by
 refine thn (ha pins s σ H _ I h) λv s1 ⟨x,H1,I1,r1,q1⟩=>?_;refine thn (hb pins s1 σ H1 _ I1 q1) λu s2 ⟨y,H2,I2,r2,q2⟩=>?_;exact hf v u s2 x y H2 I2 r1 r2 q2
theorem ybx{op:Operator}{r:R2}(ho:OpR X (binaryOp op) r)(ha:PE X a ta)(hb:PE X b tb):PE X (.BinOp a op b pos) (tOp r ta tb):=by
 intro pins s σ H Q I h;exact wpAny_BinOp (binT ha hb I h λv u s2 x y H2 I2 rx ry q=>ho pins s2 σ H2 x y v u Q I2 rx ry q)
theorem opI{f:Value->Value->Sem Value}{C:Int->Int->Prop}{g:Int->Int->Int}
  (rule:∀(i j:Int)(t u:Tok)(s:Shared)(Q:Value->Shared->Prop)(E:Value->Shared->Prop),C i j->Q (.int (g i j) s.toks) {s with toks:=s.toks+1}->wpAny (model X.prog X.w) X.A (f (.int i t) (.int j u)) Q E s) :
  OpR X f (rI C λi j=>.int (g i j)):=by
 intro pins s σ H x y v u Q I rx ry h;obtain⟨i,j,rfl,rfl,hc,q⟩:=h;obtain⟨t,rfl⟩:=rx;obtain⟨t',rfl⟩:=ry;exact rule i j t t' s _ _ hc ⟨.int (g i j),H,I.tok _,⟨_,rfl⟩,q⟩
theorem opI0{f:Value->Value->Sem Value}{g:Int->Int->Int}
  (rule:∀(i j:Int)(t u:Tok)(s:Shared)(Q:Value->Shared->Prop)(E:Value->Shared->Prop),Q (.int (g i j) s.toks) {s with toks:=s.toks+1}->wpAny (model X.prog X.w) X.A (f (.int i t) (.int j u)) Q E s) :
  OpR X f (rI0 λi j=>.int (g i j)):=by
 intro pins s σ H x y v u Q I rx ry h;obtain⟨i,j,rfl,rfl,q⟩:=h;obtain⟨t,rfl⟩:=rx;obtain⟨t',rfl⟩:=ry;exact rule i j t t' s _ _ ⟨.int (g i j),H,I.tok _,⟨_,rfl⟩,q⟩
theorem opB0{f:Value->Value->Sem Value}{g:Int->Int->Bool}
  (rule:∀(i j:Int)(t u:Tok)(s:Shared)(Q:Value->Shared->Prop)(E:Value->Shared->Prop),Q (.bool (g i j)) s->wpAny (model X.prog X.w) X.A (f (.int i t) (.int j u)) Q E s) :
  OpR X f (rI0 λi j=>.bl (g i j)):=by
 intro pins s σ H x y v u Q I rx ry h;obtain⟨i,j,rfl,rfl,q⟩:=h;obtain⟨t,rfl⟩:=rx;obtain⟨t',rfl⟩:=ry;exact rule i j t t' s _ _ ⟨.bl (g i j),H,I,rfl,q⟩
noncomputable def CDiv(i j:Int):Prop:=0<j/\j<1073741824
noncomputable def CPow(i j:Int):Prop:=0<=j/\j<=1000000/\i.natAbs<2^64
theorem qcq:OpR X (binaryOp .Add) (rI0 λi j=>.int (i+j)):=opI0 λ_ _ _ _ _ _ _ q=>add_int q
theorem zcj:OpR X (binaryOp .Sub) (rI0 λi j=>.int (i-j)):=opI0 λ_ _ _ _ _ _ _ q=>sub_int q
theorem op_fdiv:OpR X (binaryOp .FloorDiv) (rI CDiv λi j=>.int (i/j)):=opI λi j _ _ _ _ _ hc q=>by
 have h1:(0:Int)<j:=hc.1;have h2:j<1073741824:=hc.2;exact floordiv_int (by lia) (by rw[xu i (by lia)];exact q) (.inl (PyProof.noPylong_small (by lia)))
theorem Qcn:OpR X (binaryOp .Mod) (rI (λ_ j=>0<j) λi j=>.int (i%j)):=opI λi j _ _ _ _ _ hc q=>by
 have h1:(0:Int)<j:=hc;exact mod_int' (by lia) (by rw[Int.fmod_eq_emod_of_nonneg i (by lia)];exact q)
theorem Qb8:OpR X (binaryOp .Pow) (rI CPow λi j=>.int (i^j.toNat)):=opI λ_ _ _ _ _ _ _ hc q=>pow_int_small hc.1 hc.2.1 hc.2.2 q
end
section
variable {X:Cx} {a b c:Expr} {ta tb tc:TE} {pos:Pos}
theorem qch{pins:List (Addr×Obj)}{σ:St}{H:Hp}{s:Shared}{Q:VK}{k k':Bool}(I:Inv X pins σ H s)(q:Q (.bl k) H)(e:k=k'):EP X pins σ Q (.bool k') s:=by
 subst e;exact⟨.bl k,H,I,rfl,q⟩
theorem op_lt:OpR X (compareOp .Lt) (rI0 λi j=>.bl (decide (i<j))):=opB0 λ_ _ _ _ _ _ _ q=>lt_int q
theorem op_le:OpR X (compareOp .LtE) (rI0 λi j=>.bl (decide (i<=j))):=opB0 λ_ _ _ _ _ _ _ q=>le_int q
theorem op_gt:OpR X (compareOp .Gt) (rI0 λi j=>.bl (decide (j<i))):=opB0 λ_ _ _ _ _ _ _ q=>gt_int q
theorem op_ge:OpR X (compareOp .GtE) (rI0 λi j=>.bl (decide (j<=i))):=opB0 λ_ _ _ _ _ _ _ q=>ge_int q
theorem Qaw:OpR X (compareOp .In) (λx y H Q=>∃ i j,x=.str i/\y=.str j/\Q (.bl (!(Builtin.Str.occurrences j i 0 j.length 1).isEmpty)) H):=by
 intro pins s σ H x y v u Q I rx ry h;obtain⟨i,j,rfl,rfl,q⟩:=h;obtain⟨t,rfl⟩:=rx;obtain⟨t',rfl⟩:=ry;exact in_str (qch I q rfl)
theorem qbb{op:CmpOp}{r:R2}(ho:OpR X (compareOp op) r)(ha:PE X a ta)(hb:PE X b tb)(hm:behindInMarks op b=false):PE X (.Compare a [op] [b] pos) (tOp r ta tb):=by
 intro pins s σ H Q I h;exact wpAny_Compare1 (binT ha hb I h λv u s2 x y H2 I2 rx ry q=>ho pins s2 σ H2 x y v u Q I2 rx ry q) hm
noncomputable def Zb5(t:TE):TT:=λσ H Q=>t σ H λx H'=>∃ k,x=.bl k/\Q k H'
theorem Ya9{op:CmpOp}{r:R2}(ho:OpR X (compareOp op) r)(ha:PE X a ta)(hb:PE X b tb)(hm:behindInMarks op b=false):PT X (.Compare a [op] [b] pos) (Zb5 (tOp r ta tb)):=by
 intro pins s σ H Q I h;refine wpAny_isTrue_Compare1 (thn (ha pins s σ H _ I h) λv s1 ⟨x,H1,I1,r1,q1⟩=>thn (hb pins s1 σ H1 _ I1 q1) λu s2 ⟨y,H2,I2,r2,q2⟩ =>
  thn (ho pins s2 σ H2 x y v u _ I2 r1 r2 q2) λc s3 ⟨z,H3,I3,r3,k,e,q3⟩=>?_) hm
 subst e;cases r3;exact wpAny_truthy_bool ⟨H3,I3,q3⟩
theorem yY:(sizeLine:Nat)<2^63:=by rw[sizeLine_eq];decide
theorem za0:OpR X (binaryOp .Add) (λx y H Q=>∃ i j,x=.str i/\y=.str j/\i.length+j.length<=sizeLine/\Q (.str (i++j)) H):=by
 intro pins s σ H x y v u Q I rx ry h;obtain⟨i,j,rfl,rfl,hz,q⟩:=h;obtain⟨t,rfl⟩:=rx;obtain⟨t',rfl⟩:=ry;exact add_str (λt' tk=>⟨.str (i++j),H,I.tok _,⟨_,rfl⟩,q⟩) hz
theorem YaM{x:V}{us:List Value}(r:Vals [x] us):∃ u,us=[u]/\RelV x u:=by
 cases r with
 |cons r1 r2=>cases r2;exact⟨_,rfl,r1⟩
theorem yb4{x y:V}{us:List Value}(r:Vals [x,y] us):∃ u w',us=[u,w']/\RelV x u/\RelV y w':=by
 cases r with
 |cons r1 r2 =>
  cases r2 with
  |cons r3 r4=>cases r4;exact⟨_,_,rfl,r1,r3⟩
theorem Zbh(hc:X.calm=true):CallR X (.builtin "max") (λxs H Q=>∃ i j,xs=[.int i,.int j]/\Q (.int (if j>i then j else i)) H):=by
 intro pins s σ H xs us Q I r h;obtain⟨i,j,rfl,q⟩:=h;obtain⟨u,w',rfl,⟨t,rfl⟩,⟨t',rfl⟩⟩:=yb4 r;refine max_two_ints (I.ok.hd hc) λh' tk k=>⟨_,H,I.kept k,?_,q⟩;by_cases hj:j>i
 ·rw[if_pos hj,if_pos hj];exact⟨_,rfl⟩
 ·rw[if_neg hj,if_neg hj];exact⟨_,rfl⟩
theorem ybi(hc:X.calm=true):CallR X (.builtin "min") (λxs H Q=>∃ i j,xs=[.int i,.int j]/\Q (.int (if j<i then j else i)) H):=by
 intro pins s σ H xs us Q I r h;obtain⟨i,j,rfl,q⟩:=h;obtain⟨u,w',rfl,⟨t,rfl⟩,⟨t',rfl⟩⟩:=yb4 r;refine min_two_ints (I.ok.hd hc) λh' tk k=>⟨_,H,I.kept k,?_,q⟩;by_cases hj:j<i
 ·rw[if_pos hj,if_pos hj];exact⟨_,rfl⟩
 ·rw[if_neg hj,if_neg hj];exact⟨_,rfl⟩
theorem ZaB:CallR X (.type "str") (λxs H Q=>∃ i,xs=[.int i]/\i.natAbs.log2<1920/\Q (.str (toString i)) H):=by
 intro pins s σ H xs us Q I r h;obtain⟨i,rfl,hz,q⟩:=h;obtain⟨u,rfl,t,rfl⟩:=YaM r;exact PySem.P.str_of_int hz ⟨.str _,H,I.tok _,⟨_,rfl⟩,q⟩
end
structure ObjM (h:Heap) (x dx C:Addr) (mA:Str->Option Value):Prop where
 obj:h.get? x=some (xg C dx)
 ns:h.Ns1 dx mA
 ne:dx≠x
theorem qat{h:Heap}{dx:Addr}{mA:Str->Option Value}(n:h.Ns1 dx mA):∃ od,h.get? dx=some od/\∀ name,wu name od=some (mA name):=by
 obtain⟨o,es,ep,ho,hd,hk,_,hm⟩:=n;refine⟨o,ho,λname=>?_⟩;have e:=hm name;unfold nsFind findBy at e;rw[<- Uy] at e;unfold wu;rw[hd];dsimp only;split
 ·rename_i y q;rw[q] at e;exact congrArg some e
 ·rename_i q;rw[q] at e;have a:es.toList.any (·.refKey)=false:=by
   rw[List.any_eq_false];intro y hy;obtain⟨z,t,hkey⟩:=hk y (Array.mem_toList_iff.mp hy);simp[DictEntry.refKey,hkey]
  have a':¬ es.toList.any (·.refKey)=true:=by rw[a];exact Wh
  rw[if_neg a'];exact congrArg some e
theorem ObjM.look{h:Heap}{x dx C:Addr}{mA:Str->Option Value}(I:ObjM h x dx C mA):∃ od,PySem.W.InstAt h x (xg C dx) C (some od)/\∀ name,wu name od=some (mA name) :=
 let ⟨od,ho,hl⟩:=qat I.ns
 ⟨od,⟨I.obj,rfl,rfl,ho⟩,hl⟩
section
variable {prog:Program} {w:World} {A:Around} {E:Value->Shared->Prop} {s:Shared} {K:PySem.W.Frag} {x dx C f:Addr} {mA:Str->Option Value} {name:Str} {v:Value}
theorem ZbP{expr:Bool}{Q:Value->Shared->Prop}(X:K.In s.heap)(I:ObjM s.heap x dx C mA)(hg:Vq K C name=true)(hh:xl K C=true)
  (ha:wc K (.ref C) name=some none) (hv:mA name=some v) (hv':xB v=true) (h:Q v {s with toks:=s.toks+1}) :
  wpAny (model prog w) A (getAttr (.ref x) name expr) Q E s:=by
 obtain⟨od,J,hl⟩:=I.look;exact PySem.W.get_value X J (PySem.W.plainGet_of hg).1 (wy hh ha rfl (by rw[hl,hv])) hv' h
theorem ZO{ns:List Str}{Q:Unit->Shared->Prop}(X:K.In s.heap)(I:ObjM s.heap x dx C mA)
  (hs:wc K (.ref C) "__setattr__"=some (some (.builtin "object.__setattr__"))) (hp:Vu K C=true) (ht:ww K C name=some none) (hh:xl K C=true)
  (hw:PySem.Within mA ns) (hsz:ns.length<=sizeLine)
  (h:∀ h',ObjM h' x dx C (λy=>if y=name then some v else mA y)->Heap.SameBut dx s.heap h'->Q () {s with heap:=h',toks:=s.toks+2}) :
  wpAny (model prog w) A (setAttr (.ref x) name v) Q E s:=by
 obtain⟨od,J,hl⟩:=I.look;refine uA X J hs (PySem.W.osa_open (s:={s with toks:=s.toks+1}) (r:=none) X J hp ht λb=>?_);obtain⟨cd,hc,hd'⟩:=PySem.W.any_some hh;have hx:s.heap.get? x=some ⟨.ref C,some dx,.plain,#[]⟩:=I.obj;refine wpAny_bind (wpAny_pure (wpAny_bind (wpAny_bind (wpAny_loadPart hx (wpAny_bind (PySem.W.Looks.here (s:={s with toks:=s.toks+1}) (Ut X hc) ?_))))));rw[hd'];refine wpAny_pure (a:=some dx) (wpAny_bind (wpAny_pure (wpAny_bind ?_)));refine wpAny_nsSet1 (s:={s with toks:=s.toks+1}) I.ns λh' hn2 hs2=>?_;obtain⟨oD,esD,epD,hoD,hdD,hcD⟩:=hn2.count (PySem.Within.cons name v hw);refine wpAny_bind (wpAny_lookBehind hoD (by rw[hdD];exact pastItsLine_dict (Xe hcD (by rw[ue];lia))) ?_);exact wpAny_pure (h _ ⟨(hs2.2 _ (Ne.symm I.ne)).trans I.obj,hn2,I.ne⟩ hs2)
theorem qbz{R:Result->Shared->Prop}{vs:List Value}{kw:List (Str×Value)}(X:K.In s.heap)(hm:Vp K C=true)
  (hi:wc K (.ref C) "__init__"=some (some (.ref f))) (hf:Vm K (.ref f)=some (.type "function"))
  (h:codeAny (model prog w) (A.under (.builtin "type.__call__" ⟨.ref C::vs,kw⟩)) (.call (.ref f) ⟨.ref (s.heap.objs.size+1)::vs,kw⟩) (PySem.W.InitBack (s.heap.objs.size+1) R)
   {s with heap:=(s.heap.push wg).push (xg C s.heap.objs.size)}) :
  codeAny (model prog w) A (.call (.ref C) ⟨vs,kw⟩) R s:=by
 obtain⟨hh,g,d,t,os⟩:=s;exact UA (vv X hm) (Xj X hi) (λself=>PySem.W.bind_fn X self hf) (.inl rfl) h
theorem qbo{R:Result->Shared->Prop}(X:K.In s.heap)(hm:Vp K C=true)
  (hi:wc K (.ref C) "__init__"=some (some (.builtin "object.__init__")))
  (hb:∀ self,PySem.W.Looks (model prog w) s.heap (bindSpecial (.builtin "object.__init__") self) (.builtin "object.__init__",[self]))
  (h:codeAny (model prog w) (A.under (.builtin "type.__call__" ⟨[.ref C],[]⟩)) (.call (.builtin "object.__init__") ⟨[.ref (s.heap.objs.size+1)],[]⟩) (PySem.W.InitBack (s.heap.objs.size+1) R)
   {s with heap:=(s.heap.push wg).push (xg C s.heap.objs.size)}) :
  codeAny (model prog w) A (.call (.ref C) ⟨[],[]⟩) R s:=by
 obtain⟨hh,g,d,t,os⟩:=s;exact UA (vv X hm) (Xj X hi) hb (.inr ⟨rfl,rfl⟩) h
end
noncomputable def zD(f:Str)(v:V):List (Str×V)->List (Str×V)
 |[]=>[(f,v)]
 |(g,x)::r=>if g=f then(g,v)::r else(g,x)::zD f v r
theorem Z6(f g:Str)(v:V):∀ fs:List (Str×V),(zD f v fs).lookup g=if g=f then some v else fs.lookup g
 |[]=>by
  show Vo g [(f,v)]=_;by_cases h:g=f
  ·have hb:(g==f)=true:=beq_iff_eq.mpr h;simp only[Vo,hb,if_pos h]
  ·have hb:(g==f)=false:=beq_eq_false_iff_ne.mpr h;simp only[Vo,hb,if_neg h]
 |(k,x)::r=>by
  have ih:=Z6 f g v r;rw[show zD f v ((k,x)::r)=(if k=f then(k,v)::r else(k,x)::zD f v r) from rfl];by_cases hk:k=f
  ·rw[if_pos hk];by_cases h:g=k
   ·have hb:(g==k)=true:=beq_iff_eq.mpr h;simp only[Vo,hb,if_pos (h.trans hk)]
   ·have hb:(g==k)=false:=beq_eq_false_iff_ne.mpr h;simp only[Vo,hb,if_neg (λe:g=f=>h (e.trans hk.symm))]
  ·rw[if_neg hk];by_cases h:g=k
   ·have hb:(g==k)=true:=beq_iff_eq.mpr h;simp only[Vo,hb,if_neg (λe:g=f=>hk (h.symm.trans e))]
   ·have hb:(g==k)=false:=beq_eq_false_iff_ne.mpr h;simp only[Vo,hb];exact ih
theorem Q1(f:Str)(v:V):∀ fs:List (Str×V),f∈(zD f v fs).map (·.1)/\∀ g,g∈fs.map (·.1)->g∈(zD f v fs).map (·.1)
 |[]=>⟨by simp[zD],λg h=>by simp at h⟩
 |(k,x)::r=>by
  obtain⟨i1,i2⟩:=Q1 f v r;rw[show zD f v ((k,x)::r)=(if k=f then(k,v)::r else(k,x)::zD f v r) from rfl];by_cases hk:k=f
  ·rw[if_pos hk];subst hk;exact⟨by simp,λg h=>by simpa using h⟩
  ·rw[if_neg hk];refine⟨?_,λg h=>?_⟩
   ·rw[xc];exact Ve _ i1
   ·rw[xc] at h ⊢
    rcases xa.mp h with e|e
    ·exact xa.mpr (.inl e)
    ·exact Ve _ (i2 g e)
theorem z5(f:Str)(v:V):∀ fs:List (Str×V),(zD f v fs).length<=fs.length+1
 |[]=>by simp[zD]
 |(k,x)::r=>by
  have ih:=z5 f v r;rw[show zD f v ((k,x)::r)=(if k=f then(k,v)::r else(k,x)::zD f v r) from rfl];by_cases hk:k=f
  ·rw[if_pos hk,ue,ue];lia
  ·rw[if_neg hk,ue,ue];lia
theorem RelO.some_of{v:V}{o:Option Value}(r:RelO (some v) o):∃ u,o=some u/\RelV v u:=by
 cases o with
 |none=>exact(show False from r).elim
 |some u=>exact⟨u,rfl,r⟩
theorem qbp{v:V}{u:Value}(r:RelV v u):xB u=true:=by
 cases v with
 |non=>cases(show u=Value.none from r);rfl
 |bl b=>cases(show u=Value.bool b from r);rfl
 |int i=>obtain⟨t,e⟩:=(show ∃ t,u=Value.int i t from r);cases e;rfl
 |str x=>obtain⟨t,e⟩:=(show ∃ t,u=Value.str x t from r);cases e;rfl
 |byt b=>obtain⟨t,e⟩:=(show ∃ t,u=Value.bytes b t from r);cases e;rfl
 |flt b=>obtain⟨t,e⟩:=(show ∃ t,u=Value.float b t from r);cases e;rfl
 |ref a=>cases(show u=Value.ref a from r);rfl
 |ty n=>cases(show u=Value.type n from r);rfl
section
variable {P:Program} {w:World} {H H':Hp} {h h':Heap} {a C dx:Addr} {fs fs':List (Str×V)}
theorem YaA(hok:HOk P w H h)(e:H a=some (.ins C dx fs)):∃ mA,ObjM h a dx C mA/\(∀ f,RelO (fs.lookup f) (mA f))/\PySem.Within mA (fs.map (·.1))/\fs.length<=1000/\H dx=some (.own a):=by
 obtain⟨d,z,ne,ob,mA,n,r,q⟩:=(show ObjOk P w H h a (.ins C dx fs) from hok a _ e);exact⟨mA,⟨ob,n,ne⟩,r,q,z,d⟩
end
structure Cls (K:PySem.W.Frag) (C:Addr):Prop where
 pg:Vq K C Str.empty=true
 hd:xl K C=true
 po:Vu K C=true
 sa:wc K (.ref C) "__setattr__"=some (some (.builtin "object.__setattr__"))
theorem Cls.get{K:PySem.W.Frag}{C:Addr}(c:Cls K C)(f:Str):Vq K C f=true:=c.pg
noncomputable def NoAttr(K:PySem.W.Frag)(C:Addr)(f:Str):Prop:=wc K (.ref C) f=some none
theorem NoAttr.taker{K:PySem.W.Frag}{C:Addr}{f:Str}(n:NoAttr K C f):ww K C f=some none:=by
 unfold ww;rw[show wc K (.ref C) f=some none from n];rfl
structure Meth (K:PySem.W.Frag) (C:Addr) (m:Str) (f:Addr):Prop where
 at_:wc K (.ref C) m=some (some (.ref f))
 fn:Vv K (.ref f)=true
 kp:Xg K (.ref f)=true
section
variable {X:Cx} {pins:List (Addr×Obj)} {σ:St} {H:Hp} {s:Shared} {a C dx:Addr} {fs:List (Str×V)} {f:Str} {v:V} {A:Around} {E:Value->Shared->Prop}
theorem Za8{b:Bool}{Q:Value->Shared->Prop}(I:Inv X pins σ H s)(e:H a=some (.ins C dx fs))(c:Cls X.K C)(n:NoAttr X.K C f)(l:fs.lookup f=some v)
  (h:∀ u s',Inv X pins σ H s'->RelV v u->Q u s'):wpAny (model X.prog X.w) A (getAttr (.ref a) f b) Q E s:=by
 obtain⟨mA,O,r,_,_,_⟩:=YaA I.hok e;obtain⟨u,hu,ru⟩:=RelO.some_of (v:=v) (o:=mA f) (by rw[<- l];exact r f);exact ZbP I.kIn O (c.get f) c.hd n hu (qbp ru) (h u _ (I.tok _) ru)
theorem qa3{y:V}{u:Value}{Q:Unit->Shared->Prop}(I:Inv X pins σ H s)(e:H a=some (.ins C dx fs))(c:Cls X.K C)(n:NoAttr X.K C f)(hl:fs.length<1000)(ry:RelV y u)
  (h:∀ s',Inv X pins σ (upd H a (.ins C dx (zD f y fs))) s'->Q () s'):wpAny (model X.prog X.w) A (setAttr (.ref a) f u) Q E s:=by
 obtain⟨mA,O,r,wi,_,ho⟩:=YaA I.hok e;have hz:(fs.map (·.1)).length<=sizeLine:=by rw[Vd,sizeLine_eq];lia
 refine ZO I.kIn O c.sa c.po n.taker c.hd wi hz λh' O' sb=>h _ ?_;have hd:∃ o,h'.get? dx=some o:=let ⟨o,_,_,e',_⟩:=O'.ns;⟨o,e'⟩;refine I.write (x:=a) (e:=dx) (by rw[e];exact True.intro) (.inr ho) (λb q hb z=>(sb.2 b hb).trans z) hd ?_;refine⟨by rw[Qa O.ne];exact ho,?_,O.ne,O'.obj,_,O'.ns,λg=>?_,λg hg=>?_⟩
 ·have:=z5 f y fs;lia
 ·show RelO ((zD f y fs).lookup g) (if g=f then some u else mA g);rw[Z6];by_cases q:g=f
  ·rw[if_pos q,if_pos q];exact ry
  ·rw[if_neg q,if_neg q];exact r g
 ·by_cases q:g=f
  ·rw[q];exact(Q1 f y fs).1
  ·refine(Q1 f y fs).2 g (wi g λz=>hg ?_);show(if g=f then some u else mA g)=none;rw[if_neg q];exact z
theorem Inv.made(I:Inv X pins σ H s):Inv X pins σ (upd (upd H s.heap.objs.size (.own (s.heap.objs.size+1))) (s.heap.objs.size+1) (.ins C s.heap.objs.size []))
  {s with heap:=(s.heap.push wg).push (xg C s.heap.objs.size)}:=by
 have e1:(s.heap.push wg).get? s.heap.objs.size=some wg:=Wb s.heap rfl;have e2:((s.heap.push wg).push (xg C s.heap.objs.size)).get? (s.heap.objs.size+1)=some (xg C s.heap.objs.size):=by
  have:=Wb (s.heap.push wg) (o:=xg C s.heap.objs.size) rfl
  rwa [xh] at this
 have e3:(s.heap.push wg).Ns s.heap.objs.size (λ_=>none):=⟨wg,#[],_,e1,rfl,(λe he=>absurd he (by simp)),λ_=>rfl⟩;have I1:=I.laid (a:=s.heap.objs.size) (o:=.own (s.heap.objs.size+1)) (h':=s.heap.push wg) (t':=s.toks) (λb u q=>wa _ q) (wb _) ⟨_,e1⟩;refine I1.laid (a:=s.heap.objs.size+1) (o:=.ins C s.heap.objs.size []) (t':=s.toks) (λb u q=>wa _ q) (Vl (xh _ _)) ?_;have ne:s.heap.objs.size≠s.heap.objs.size+1:=Vb (Uj _);refine⟨by rw[Qa ne,qb],Wp _,ne,e2,λ_=>none,(Heap.Ns1.of_empty e3).at λo q=>wa _ q,λ_=>True.intro,λy hy=>absurd rfl hy⟩
theorem qba{prog:Program}{w:World}{env:Env}{e:Expr}{f:Str}{pos:Pos}{s:Shared}{Q:Value->Shared->Prop}(hb:attributeBase e f env (eval e env)=eval e env)
  (h:wpAny (model prog w) A (eval e env) (λo s₁=>wpAny (model prog w) A (getAttr o f true) Q E s₁) E s):wpAny (model prog w) A (eval (.Attribute e f pos) env) Q E s :=
 Attribute_any_ h (by rw[arm_eval_Attribute,hb])
end
noncomputable def tFld(K:PySem.W.Frag)(ta:TE)(f:Str):TE:=λσ H Q=>ta σ H λx H1=>∃ a C dx fs v,x=.ref a/\H1 a=some (.ins C dx fs)/\Cls K C/\NoAttr K C f/\fs.lookup f=some v/\Q v H1
noncomputable def sFld(K:PySem.W.Frag)(ta tv:TE)(f:Str):TS:=λD σ H=>tv σ H λy H1=>ta σ H1 λx H2=>∃ a C dx fs,x=.ref a/\H2 a=some (.ins C dx fs)/\Cls K C/\NoAttr K C f/\fs.length<1000 /\
 D.nx σ (upd H2 a (.ins C dx (zD f y fs)))
section
variable {X:Cx} {o e value:Expr} {f:Str} {pos pos' tpos:Pos} {ta tv:TE}
theorem Ycd(he:PE X e ta)(hb:attributeBase e f X.env (eval e X.env)=eval e X.env):PE X (.Attribute e f pos) (tFld X.K ta f):=by
 intro pins s σ H Q I h;refine qba hb (thn (he pins s σ H _ I h) λu s1 ⟨x,H1,I1,rx,a,C,dx,fs,v,ex,ea,c,n,l,q⟩=>?_);subst ex;obtain rfl:u=Value.ref a:=rx;exact Za8 I1 ea c n l λu' s2 I2 ru=>⟨v,H1,I2,ru,q⟩
theorem zcq(ha:PE X o ta)(hv:PE X value tv)(hs:swapsWith value (some (.Attribute o f pos')) pos.line X.env=pure false):PS X (.Assign [.Attribute o f pos'] value pos) (sFld X.K ta tv f):=by
 intro pins s σ H D I h;refine plainObj_wpAny_Assign_Attribute (thn (hv pins s σ H _ I h) λu s1 ⟨y,H1,I1,ry,q⟩=>thn (ha pins s1 σ H1 _ I1 q) λov s2 ⟨x,H2,I2,rx,a,C,dx,fs,ex,ea,c,n,l,q2⟩=>?_) hs;subst ex;obtain rfl:ov=Value.ref a:=rx;exact qa3 I2 ea c n l ry λs3 I3=>⟨σ,_,I3,q2⟩
end
section
variable {X:Cx} {pins:List (Addr×Obj)} {σ:St} {H:Hp} {s:Shared} {A:Around} {E:Value->Shared->Prop} {Q:Value->Shared->Prop} {c:Value} {b:Bool}
inductive TyOf (K:PySem.W.Frag) (H:Hp):V->Value->Prop where
 |non:TyOf K H .non (.type "NoneType")
 |bl (x:Bool):TyOf K H (.bl x) (.type "bool")
 |int (i:Int):TyOf K H (.int i) (.type "int")
 |str (x:Str):TyOf K H (.str x) (.type "str")
 |flt (x:UInt64):TyOf K H (.flt x) (.type "float")
 |lst {a:Addr} {xs:List V} (e:H a=some (.lst xs)):TyOf K H (.ref a) (.type "list")
 |frz {a:Addr} {o:Obj} {xs:List V} (e:H a=some (.frz o (.lst xs))):TyOf K H (.ref a) (.type "list")
 |tup {a:Addr} {xs:List V} (e:H a=some (.tup xs)):TyOf K H (.ref a) (.type "tuple")
 |dK {a:Addr} {kvs:List (Key×V)} (e:H a=some (.dK kvs)):TyOf K H (.ref a) (.type "dict")
 |dT {a:Addr} {kvs:List (List Key×V)} (e:H a=some (.dT kvs)):TyOf K H (.ref a) (.type "dict")
 |ins {a C dx:Addr} {fs:List (Str×V)} (e:H a=some (.ins C dx fs)) (cl:Cls K C) (ha:wc K (.ref C) "__class__"=some (some (.builtin "object.__class__")))
   (hn:uj K (.builtin "object.__class__") "__get__"=some (some (.builtin "getset_descriptor.__get__"))) (htk:Wm K (.builtin "object.__class__")=some true)
   (hm:Vn K C (.type "object")=some true):TyOf K H (.ref a) (.ref C)
theorem zbr{x:V}{u t:Value}(I:Inv X pins σ H s)(rx:RelV x u)(ty:TyOf X.K H x t)(e:Vc X.K t c=some b)(h:∀ tk,Q (.bool b) {s with toks:=tk}) :
  wpAny (model X.prog X.w) A (call (.builtin "isinstance") [u,c]) Q E s:=by
 cases ty with
 |non=>cases(show u=Value.none from rx);exact Uh PySem.W.kitx_none I.kIn True.intro e (λz=>nomatch z) h
 |bl y=>cases(show u=Value.bool y from rx);exact Uh PySem.W.kitx_bool I.kIn True.intro e (λz=>nomatch z) h
 |int i=>obtain⟨t,q⟩:=(show ∃ t,u=Value.int i t from rx);cases q;exact Uh PySem.W.kitx_int I.kIn True.intro e (λz=>nomatch z) h
 |str y=>obtain⟨t,q⟩:=(show ∃ t,u=Value.str y t from rx);cases q;exact Uh PySem.W.kitx_str I.kIn True.intro e (λz=>nomatch z) h
 |flt y=>obtain⟨t,q⟩:=(show ∃ t,u=Value.float y t from rx);cases q;exact Uh PySem.W.kitx_float I.kIn True.intro e (λz=>nomatch z) h
 |@lst a xs ea =>
  cases(show u=Value.ref a from rx);obtain⟨_,_,n,_,h1⟩:=(show ObjOk X.prog X.w H s.heap a (.lst xs) from I.hok a _ ea);exact Uh vA I.kIn ⟨_,h1,rfl⟩ e (λz=>nomatch z) h
 |@frz a ob xs ea =>
  cases(show u=Value.ref a from rx);obtain⟨_,_,_,n,_,h1⟩:=(show ObjOk X.prog X.w H s.heap a (.frz ob (.lst xs)) from I.hok a _ ea);exact Uh vA I.kIn ⟨_,h1,rfl⟩ e (λz=>nomatch z) h
 |@tup a xs ea =>
  cases(show u=Value.ref a from rx);obtain⟨_,_,_,p⟩:=(show ObjOk X.prog X.w H s.heap a (.tup xs) from I.hok a _ ea);obtain⟨o,h1,h2,_⟩:=p;exact Uh PySem.W.kitx_tuple I.kIn ⟨o,h1,h2⟩ e (λz=>nomatch z) h
 |@dK a kvs ea =>
  cases(show u=Value.ref a from rx);obtain⟨_,_,vs,_,p⟩:=(show ObjOk X.prog X.w H s.heap a (.dK kvs) from I.hok a _ ea);obtain⟨o,es,ep,h1,h2,_⟩:=p;exact Uh VA I.kIn ⟨o,h1,h2.1⟩ e (λz=>nomatch z) h
 |@dT a kvs ea =>
  cases(show u=Value.ref a from rx);obtain⟨_,_,xs,_,o,es,ep,h1,h2,_⟩:=(show ObjOk X.prog X.w H s.heap a (.dT kvs) from I.hok a _ ea);exact Uh VA I.kIn ⟨o,h1,h2.1⟩ e (λz=>nomatch z) h
 |@ins a C dx fs ea cl ha hn htk hm =>
  cases(show u=Value.ref a from rx);obtain⟨mA,O,_⟩:=YaA I.hok ea;obtain⟨od,J,_⟩:=O.look;exact Uh (PySem.W.kitx_own (cl.get _) cl.hd ha hn htk hm) I.kIn J e (λz=>nomatch z) h
end
structure Room (k:Nat) (A:Around):Prop where
 hd:A.handled=none
 dp:A.depth+3*k+5<recursionLimit
 un:A.units+16*k+200<cLine
theorem Room.mono{j k:Nat}{A:Around}(r:Room k A)(h:j<=k):Room j A:=⟨r.hd,by have:=r.dp;lia,by have:=r.un;lia⟩
theorem Room.deeper{k:Nat}{A:Around}(r:Room (k+1) A)(env:Env):Room k (A.deeper env) :=
 ⟨r.hd,by have:=r.dp;show A.depth+1+3*k+5<_;lia,by have:=r.un;show A.units+3+16*k+200<_;lia⟩
theorem qa7{A:Around}{C:Addr}{us:List Value}{kw:List (Str×Value)}:(A.under (.builtin "type.__call__" ⟨.ref C::us,kw⟩)).depth=A.depth+1:=by
 first|rfl|simp[Around.under,Code.weight,Code.isCreation,Code.isGuard,Code.isCaller,Code.frames,Code.isFrame,guardIds]
theorem Ya7{A:Around}{C:Addr}{us:List Value}{kw:List (Str×Value)}:(A.under (.builtin "type.__call__" ⟨.ref C::us,kw⟩)).units=A.units+1:=by
 first|rfl|simp[Around.under,Code.cUnits,Code.frames,Code.isFrame]
theorem Room.make{k:Nat}{A:Around}(r:Room (k+1) A)(C:Addr)(us:List Value)(kw:List (Str×Value)):Room k (A.under (.builtin "type.__call__" ⟨.ref C::us,kw⟩)) :=
 ⟨r.hd,by have:=r.dp;rw[qa7];lia,by have:=r.un;rw[Ya7];lia⟩
theorem Room.depth{k:Nat}{A:Around}(r:Room k A):A.depth<recursionLimit:=by have:=r.dp;lia
noncomputable def tNil:TA:=λ_ H Q=>Q [] H
noncomputable def ybc(ta:TE)(tr:TA):TA:=λσ H Q=>ta σ H λx H1=>tr σ H1 λxs H2=>Q (x::xs) H2
section
variable {X:Cx} {e:Expr} {es:List Expr} {te:TE} {t:TA} {pos:Pos}
theorem zy:PA X [] tNil:=λ_ _ _ _ H Q I h=>Calls.spliced_nil ⟨[],H,I,.nil,h⟩
theorem qj(ha:PE X e te)(hr:PA X es t)(hs:starEach (e::es) X.env=(false,eval e X.env)::starEach es X.env:=by rfl):PA X (e::es) (ybc te t):=by
 intro pos pins s σ H Q I h;rw[hs];show wpAny _ _ (spliced ((false,eval e X.env)::backTo pos (starEach es X.env))) _ _ s;refine Calls.spliced_cons (thn (ha pins s σ H _ I h) λu s1 ⟨x,H1,I1,r1,q1⟩=>?_);exact thn (hr pos pins s1 σ H1 _ I1 q1) λus s2 ⟨xs,H2,I2,r2,q2⟩=>⟨x::xs,H2,I2,.cons r1 r2,q2⟩
noncomputable def tTup(t:TA):TE:=λσ H Q=>t σ H λxs H1=>xs.length<=sizeLine/\∀ p,H1 p=none->Q (.ref p) (upd H1 p (.tup xs))
noncomputable def tLst(t:TA):TE:=λσ H Q=>t σ H λxs H1=>xs.length<=sizeLine/\∀ p,H1 p=none->Q (.ref p) (upd H1 p (.lst xs))
theorem zbM{x1}(h:PA X es t):PE X (.Tuple es x1 pos) (tTup t):=by
 intro pins s σ H Q I hq;refine wpAny_Tuple_spliced (thn (h pos pins s σ H _ I hq) λus s1 ⟨xs,H1,I1,r,z,q⟩=>⟨by rw[<- r.length];exact z,?_⟩);have hf:H1 s1.heap.objs.size=none:=I1.hok.fresh (wb _);refine⟨.ref s1.heap.objs.size,upd H1 s1.heap.objs.size (.tup xs),I1.laid (t':=s1.toks) (λb u e=>wa _ e) (wb _) ?_,rfl,q _ hf⟩;exact⟨z,us,r,⟨_,Wb _ rfl,rfl,_,rfl⟩⟩
theorem Qch(h:PA X es t):PE X (.List es pos) (tLst t):=by
 intro pins s σ H Q I hq;refine wpAny_List_spliced (thn (h pos pins s σ H _ I hq) λus s1 ⟨xs,H1,I1,r,z,q⟩=>⟨by rw[<- r.length];exact z,?_⟩);have hf:H1 s1.heap.objs.size=none:=I1.hok.fresh (wb _);refine⟨.ref s1.heap.objs.size,upd H1 s1.heap.objs.size (.lst xs),I1.laid (t':=s1.toks) (λb u e=>wa _ e) (wb _) ?_,rfl,q _ hf⟩;exact⟨z,us,0,r,Wb _ rfl⟩
end
noncomputable abbrev Sp:=List V->Hp->VK->XK->Prop
noncomputable abbrev CXT:=List Env->Hp->Shared->XK->Value->Shared->Prop
structure Env0 (P:Program) (w:World) (K:PySem.W.Frag) (mg:Str->Option Value) (base:Heap) (A:Around) (outer:List Env) (s:Shared) (H:Hp):Prop where
 frames:A.frames=some outer
 mod:Mod K mg base
 bs:∀ b o,base.get? b=some o->s.heap.get? b=some o/\H b=none
 bsz:base.objs.size<=s.heap.objs.size
 funs:s.heap.FunFrames base outer
 frf:∀ b∈frs outer,H b=none
 hok:HOk P w H s.heap
 bare:AllBare s.gens
noncomputable def CE(outer:List Env)(P:Program)(w:World)(H:Hp)(s:Shared)(Q:VK)(u:Value)(s':Shared):Prop :=
 ∃ v H',s'.os=s.os/\AllBare s'.gens/\Un (frs outer) [] H H' s.heap s'.heap/\HOk P w H' s'.heap/\RelV v u/\Q v H'
noncomputable def CR(CX:CXT)(outer:List Env)(P:Program)(w:World)(H:Hp)(s:Shared)(Q:VK)(E:XK)(r:Result)(s':Shared):Prop :=
 match r with
 |.ok (.ret u)=>CE outer P w H s Q u s'
 |.ok _=>False
 |.error e=>CX outer H s E e s'
structure FnOk (P:Program) (w:World) (K:PySem.W.Frag) (mg:Str->Option Value) (base:Heap) (CX:CXT) (k:Nat) (f:Addr) (fd:FuncData) (ps:List Str) (sp:Sp):Prop where
 len:∀ vs H Q E,sp vs H Q E->vs.length=ps.length
 run:∀(A:Around)(outer:List Env)(s:Shared)(H:Hp)(args:Args) (us:List Value) (vs:List V) (Q:VK) (E:XK),Room k A->Env0 P w K mg base A outer s H->BindsTo s fd args (ps.zip us)->Vals vs us->sp vs H Q E ->
  codeAny (model P w) A (.call (.ref f) args) (CR CX outer P w H s Q E) s
theorem FnOk.imp{P:Program}{w:World}{K:PySem.W.Frag}{mg:Str->Option Value}{base:Heap}{CX:CXT}{k:Nat}{f:Addr}{fd:FuncData}{ps:List Str}{sp sp':Sp}(F:FnOk P w K mg base CX k f fd ps sp)
  (h:∀ vs H Q E,sp' vs H Q E->sp vs H Q E):FnOk P w K mg base CX k f fd ps sp' :=
 ⟨λvs H Q E q=>F.len vs H Q E (h _ _ _ _ q),λA outer s H args us vs Q E hr he hb hv hs=>F.run A outer s H args us vs Q E hr he hb hv (h _ _ _ _ hs)⟩
theorem Env0.make{P:Program}{w:World}{K:PySem.W.Frag}{mg:Str->Option Value}{base:Heap}{A:Around}{outer:List Env}{s:Shared}{H:Hp}(e:Env0 P w K mg base A outer s H)(C:Addr)(us:List Value)(kw:List (Str×Value)) :
  Env0 P w K mg base (A.under (.builtin "type.__call__" ⟨.ref C::us,kw⟩)) outer s H:=⟨by first|exact e.frames|(simpa[Around.under,Code.envs,Code.isFrame,pushEnvs] using e.frames),e.mod,e.bs,e.bsz,e.funs,e.frf,e.hok,e.bare⟩
section
variable {X:Cx} {pins:List (Addr×Obj)} {σ:St} {H:Hp} {s s':Shared}
theorem Inv.env0(I:Inv X pins σ H s):Env0 X.prog X.w X.K X.mg X.base X.A X.stack s H :=
 ⟨I.ok.frames,I.ok.mod,I.bs,Xe I.ok.bsz I.sz,I.stack,I.stkFree,I.hok,I.bare⟩
theorem Inv.after{Q:VK}{u:Value}(I:Inv X pins σ H s)(h:CE X.stack X.prog X.w H s Q u s'):EP X pins σ Q u s':=by
 obtain⟨v,H',os,bare,un,hok,r,q⟩:=h;obtain⟨hh,g,d,t,os'⟩:=s';obtain rfl:os'=s.os:=os;exact⟨v,H',I.call (h':=hh) (g':=g) (d':=d) (t':=t) (ch:=[]) un hok bare (λb z=>absurd z (by simp)),r,q⟩
end
noncomputable def Binds(K:PySem.W.Frag)(fd:FuncData)(ps:List Str)(ds:List Value):Prop :=
 ∀(s:Shared)(us:List Value),K.In s.heap->(us++ds).length=ps.length->BindsTo s fd ⟨us,[]⟩ (ps.zip (us++ds))
theorem Binds.all{K:PySem.W.Frag}{fd:FuncData}{ps:List Str}(h:∀ us:List Value,us.length=ps.length->bindArgs fd ⟨us,[]⟩=pure (ps.zip us)):Binds K fd ps []:=λs us _ hl=>by
 rw[wo] at hl ⊢;exact .of_eq (h us hl)
noncomputable def qcc(CX:CXT)(X:Cx)(E:XK):Prop:=∀(pins:List (Addr×Obj)) (σ:St) (H:Hp) (s:Shared) (e:Value) (s':Shared),Inv X pins σ H s->CX X.stack H s E e s'->X.xe e s'
section
variable {X:Cx} {CX:CXT} {k:Nat} {f C:Addr} {fd:FuncData} {ps:List Str} {sp:Sp} {dvs:List V} {ds:List Value} {E:XK} {x m:Str} {p pos apos:Pos} {e o:Expr} {es:List Expr} {ta:TE} {t:TA}
structure Mk (K:PySem.W.Frag) (C f:Addr):Prop where
 makes:Vp K C=true
 init:wc K (.ref C) "__init__"=some (some (.ref f))
 fn:Vv K (.ref f)=true
 kp:Xg K (.ref C)=true
end
structure FnScope (N P:List Str) (sc:Scope):Prop where
 kind:sc.kind=.function
 co:sc.isCoroutine=false
 gen:sc.isGenerator=false
 nd:N.Nodup
 pre:N.take P.length=P
 par:∀ x∈P,sc.names.lookup x=some .local\/sc.names.lookup x=some .cell
 nofree:∀ y∈sc.names,y.2≠.free
theorem yau{kindOf:Str->Option NameKind}{x:Str}:∀{binds:List (Str×Value)} {m:Str->Option Value},(∀ v,(x,v)∉binds)->bindL kindOf binds m x=m x
 |[],_,_=>rfl
 |(n,v)::r,m,h=>by
  unfold bindL;rw[yau λw hw=>h w (Ve _ hw)];split
  ·have:x≠n:=by rintro rfl;exact h v uh
   simp[this]
  ·rfl
theorem Yat{kindOf:Str->Option NameKind}{x:Str}:∀{binds:List (Str×Value)} {m:Str->Option Value},(∀ v,(x,v)∉binds)->bindC kindOf binds m x=m x
 |[],_,_=>rfl
 |(n,v)::r,m,h=>by
  unfold bindC;rw[Yat λw hw=>h w (Ve _ hw)];split
  ·rfl
  ·have:x≠n:=by rintro rfl;exact h v uh
   simp[this]
theorem qau{kindOf:Str->Option NameKind}{x:Str}{v:Value}:∀{P:List Str}{vs:List Value}{i:Nat}{m:Str->Option Value},P.Nodup->P[i]?=some x->vs[i]?=some v->kindOf x=some .local ->
  bindL kindOf (P.zip vs) m x=some v
 |[],_,_,_,_,h,_,_=>by simp at h
 |_::_,[],_,_,_,_,h,_=>by simp at h
 |p::P,w::vs,0,m,nd,h1,h2,hk=>by
  simp at h1 h2;subst h1;subst h2;show bindL kindOf ((p,w)::P.zip vs) m p=_;unfold bindL;rw[yau λv hv=>(Ur.mp nd).1 (Ww hv).1,if_pos hk];simp
 |p::P,w::vs,i+1,m,nd,h1,h2,hk=>by
  show bindL kindOf ((p,w)::P.zip vs) m x=_;unfold bindL;exact qau (i:=i) (Ur.mp nd).2 (by simpa using h1) (by simpa using h2) hk
theorem Qat{kindOf:Str->Option NameKind}{x:Str}{v:Value}:∀{P:List Str}{vs:List Value}{i:Nat}{m:Str->Option Value},P.Nodup->P[i]?=some x->vs[i]?=some v->kindOf x≠some .local ->
  bindC kindOf (P.zip vs) m x=some v
 |[],_,_,_,_,h,_,_=>by simp at h
 |_::_,[],_,_,_,_,h,_=>by simp at h
 |p::P,w::vs,0,m,nd,h1,h2,hk=>by
  simp at h1 h2;subst h1;subst h2;show bindC kindOf ((p,w)::P.zip vs) m p=_;unfold bindC;rw[Yat λv hv=>(Ur.mp nd).1 (Ww hv).1,if_neg hk];simp
 |p::P,w::vs,i+1,m,nd,h1,h2,hk=>by
  show bindC kindOf ((p,w)::P.zip vs) m x=_;unfold bindC;exact Qat (i:=i) (Ur.mp nd).2 (by simpa using h1) (by simpa using h2) hk
noncomputable def start(N:List Str)(vs:List V):St:=vs.map some++Wd (N.length-vs.length) none
noncomputable def Yac(CX:CXT)(P:Program)(w:World)(K:PySem.W.Frag)(mg:Str->Option Value)(base:Heap)(N:List Str)(qual:Str)(scope:Scope)(f:Addr)(cd:Value)(A:Around)(outer:List Env)(s:Shared)(H:Hp)(E:XK):Cx where
 prog:=P
 w:=w
 K:=K
 mg:=mg
 base:=base
 A:=A.deeper (envOfC qual scope s.heap.objs.size f cd)
 N:=N
 s₀:=s
 H₀:=H
 env:=envOfC qual scope s.heap.objs.size f cd
 outer:=outer
 stack:=envOfC qual scope s.heap.objs.size f cd::outer
 ex:=[]
 calm:=true
 fn:=λ_=>true
 pn:=[]
 xe:=λe s'=>wpAny (model P w) (A.deeper (envOfC qual scope s.heap.objs.size f cd)) (leaving (envOfC qual scope s.heap.objs.size f cd) e) (λ_ s''=>CX outer H s E e s'') (λe' s''=>CX outer H s E e' s'') s'
theorem yaI{sc:Scope}{n:Nat}{x:Str}(h:sc.names.lookup x=some .cell):∃ c,(cellsFrom n sc.names []).lookup x=some c:=by
 have q:=Uw sc.names n [] (.inl h);exact Wg.mp q
theorem Qbo{CX:CXT}{P:Program}{w:World}{K:PySem.W.Frag}{mg:Str->Option Value}{base:Heap}{N ps:List Str}{qual:Str}{scope:Scope}{f:Addr}{cd:Value}{A:Around}{outer:List Env}{s s1:Shared}{H:Hp}{E:XK}{us:List Value}{vs:List V}
  (S:FnScope N ps scope) (hd:A.handled=none) (e0:Env0 P w K mg base A outer s H) (hl:vs.length=ps.length) (r:Vals vs us)
  (x:InCallC s s.heap.objs.size (bindL (envOfC qual scope s.heap.objs.size f cd).kindOf (ps.zip us) λ_=>none) (cellsFrom (s.heap.objs.size+1) scope.names []) (bindC (envOfC qual scope s.heap.objs.size f cd).kindOf (ps.zip us) λ_=>none) s1) :
  Inv (Yac CX P w K mg base N qual scope f cd A outer s H E) [] (start N vs) H s1:=by
 have hpl:ps.length<=N.length:=by have:=congrArg xp S.pre;rw[Uo] at this;lia
 obtain⟨h1,tk,rfl,hk⟩:=x.done;have noA:∀ b:Addr,b∉(Yac CX P w K mg base N qual scope f cd A outer s H E).ex:=λb z=>absurd (show b∈([]:List Addr) from z) (by simp);refine⟨⟨e0.mod,S.kind,rfl,rfl,wb _,λy z c h1 h2=>?_,λy hy=>?_,λy c _ h=>?_,λ_=>hd,Around.frames_deeper e0.frames,.inr ⟨rfl,rfl⟩,λb z=>absurd z (noA b),e0.bs,e0.bsz,λb _ _=>noA b,λb z=>absurd z (noA b),e0.funs,e0.frf⟩,
  rfl,e0.bare,Un.kept hk,⟨_,x.toInCall.ns,λi y v h1 h2 h3=>?_⟩,λy c h=>⟨_,x.cell y c h⟩,e0.hok.fresh (wb _),λy c h=>?_,λp hp=>absurd (show p∈([]:List (Addr×Obj)) from hp) (by simp),e0.hok.kept hk,?_⟩
 ·exact name_of_addr x.apart (PySem.mem_of_lookup h1) (PySem.mem_of_lookup h2)
 ·have hy:scope.names.lookup y=some .cell\/scope.names.lookup y=some .free:=hy
  rcases hy with hy|hy
  ·exact yaI hy
  ·exact absurd rfl (S.nofree _ (PySem.mem_of_lookup hy))
 ·exact Uv (x.above y c (PySem.mem_of_lookup h))
 ·have hi:i<vs.length:=by
   unfold start at h2;by_cases hi:i<vs.length
   ·exact hi
   ·rw[Xd (by simpa using hi)] at h2;rw[vn] at h2;split at h2 <;> cases h2
  have ha:vs[i]?=some v:=by
   unfold start at h2;rw[va (by simpa using hi),We] at h2;cases e:vs[i]? with
   |none=>rw[e] at h2;cases h2
   |some a=>rw[e] at h2;cases h2;rfl
  obtain⟨u,hu,rv⟩:=r.get ha;have hp:ps[i]?=some y:=by
   rw[<- S.pre,Vk (by lia)];exact h1
  have ndP:ps.Nodup:=by rw[<- S.pre];exact S.nd.sublist (List.take_sublist _ _)
  refine⟨u,rv,?_⟩
  rcases S.par y (Xc hp) with k|k
  ·exact .inl ⟨k,qau ndP hp hu k⟩
  ·obtain⟨c,e⟩:=yaI (n:=s.heap.objs.size+1) k;refine .inr ⟨.inl k,c,e,?_⟩;have q:=x.cell y c e;rw[Qat ndP hp hu (by show scope.names.lookup y≠_;rw[k];decide)] at q;exact q
 ·exact e0.hok.fresh (Uv (x.above y c (PySem.mem_of_lookup h)))
 ·unfold start;show _=N.length;rw[xf,Vd,xm]
  lia
theorem qbd{CX:CXT}{P:Program}{w:World}{K:PySem.W.Frag}{mg:Str->Option Value}{base:Heap}{k:Nat}{f:Addr}{name qual:Str}{params:Arguments}{body:List Stmt}{scope:Scope}{dV kV doc pm cdv ct oc:Value}{an od:Option Addr}
  {osl:Array (Option Value)} {N ps:List Str} {sp:Sp} (lk:K.lookup f=some ⟨oc,od,.func (vg name qual params body scope dV kV doc pm an cdv ct),osl⟩) (hcd:Uk K cdv qual=true) (S:FnScope N ps scope)
  (len:∀ vs H Q E,sp vs H Q E->vs.length=ps.length)
  (hbody:∀(A:Around)(outer:List Env)(s:Shared)(H:Hp)(vs:List V) (Q:VK) (E:XK),Room k (A.deeper (envOfC qual scope s.heap.objs.size f cdv))->sp vs H Q E ->
   ∃ t,PSs (Yac CX P w K mg base N qual scope f cdv A outer s H E) body t/\t {nx:=λ_ H'=>Q .non H',rt:=Q} (start N vs) H) :
  FnOk P w K mg base CX (k+1) f (vg name qual params body scope dV kV doc pm an cdv ct) ps sp:=by
 refine⟨len,λA outer s H args us vs Q E hr e0 hb r hsp=>?_⟩;have hl:=len _ _ _ _ hsp;have KX:K.In s.heap:=e0.mod.kin.keeps λb o e=>(e0.bs b o e).1;have lim:s.heap.NoLimit:=e0.mod.nolimit.keeps λb o e=>(e0.bs b o e).1;have hkind:∀ y∈ps.zip us,scope.names.lookup y.1=some .local\/(scope.names.lookup y.1=some .cell/\((cellsFrom (s.heap.objs.size+1) scope.names []).lookup y.1).isSome=true):=λ⟨n,v⟩ hy=>by
  rcases S.par n (Ww hy).1 with q|q
  ·exact .inl q
  ·exact .inr ⟨q,Uw _ _ _ (.inl q)⟩
 refine codeAny_call_function hr.depth (KX _ _ lk) rfl S.co S.gen rfl (PySem.W.codeRec_of KX hcd) (hb _ _ _ _ ?_);refine wpAny_newFunctionEnv_cells S.kind hkind λenv he s1 x=>?_;subst he;refine⟨lim.keeps x.toInCall.keep,codeAny_func ?_⟩;obtain⟨t,ht,hq⟩:=hbody A outer s H vs Q E (hr.deeper _) hsp;have I:Inv (Yac CX P w K mg base N qual scope f cdv A outer s H E) [] (start N vs) H s1:=Qbo S hr.hd e0 hl r x;refine wpAny_mono (ht [] s1 (start N vs) H _ I hq) (λfl s' hs=>?_) λe s' hs=>hs;have fin:∀{σ':St}{H':Hp}{v:V}{u:Value},Inv (Yac CX P w K mg base N qual scope f cdv A outer s H E) [] σ' H' s'->RelV v u->Q v H'->CE outer P w H s Q u s' :=
  λ{σ' H' v u} J rv q=>⟨v,H',J.os,J.bare,J.base,J.hok,rv,q⟩
 cases fl with
 |ret u =>
  obtain⟨v,σ',H',J,rv,q⟩:=hs;exact fin J rv q
 |next =>
  obtain⟨σ',H',J,q⟩:=hs;exact fin (v:=V.non) (u:=Value.none) J rfl q
 |brk =>
  obtain⟨_,_,_,q⟩:=hs;exact False.elim q
 |cont =>
  obtain⟨_,_,_,q⟩:=hs;exact False.elim q
section
variable {X:Cx} {x:Str} {p pos:Pos} {e:Expr} {es:List Expr} {t:TA} {id T:String} {r:List V->Hp->VK->Prop}
noncomputable def tCB(r:List V->Hp->VK->Prop)(t:TA):TE:=λσ H Q=>t σ H λvs H1=>r vs H1 Q
theorem zK(hc:CallR X (.builtin id) r)(hg:Gl X x)(hm:X.mg x=none)(hv:bootBuiltins x=some (.builtin id))(ha:PA X (e::es) t)(hn:x≠"__name__":=by decide)(hdb:(x==("__debug__":Str))=false:=by decide)
  (he:starEach (e::es) X.env=(false,eval e X.env)::starEach es X.env:=by rfl) (hpl:(backTo pos (starEach es X.env)).any (·.1)=false:=by rfl):PE X (.Call (.Name x p) (e::es) [] pos) (tCB r t):=by
 intro pins s σ H Q I h;refine wpAny_Call_Name_kw (Z3 I hg hm hv ?_ hn hdb);exact PyProof.Rows.callWith_builtin1 (thn (ha pos pins s σ H _ I h) λus s1 ⟨vs,H1,I1,r1,q1⟩=>hc pins s1 σ H1 vs us Q I1 r1 q1) he hpl
theorem yN(hc:CallR X (.type T) r)(hg:Gl X x)(hm:X.mg x=none)(hv:bootBuiltins x=some (.type T))(ha:PA X (e::es) t)(hn:x≠"__name__":=by decide)(hdb:(x==("__debug__":Str))=false:=by decide)
  (he:starEach (e::es) X.env=(false,eval e X.env)::starEach es X.env:=by rfl) (hpl:(backTo pos (starEach es X.env)).any (·.1)=false:=by rfl):PE X (.Call (.Name x p) (e::es) [] pos) (tCB r t):=by
 intro pins s σ H Q I h;refine wpAny_Call_Name_kw (Z3 I hg hm hv ?_ hn hdb);exact PyProof.Rows.callWith_type1 (thn (ha pos pins s σ H _ I h) λus s1 ⟨vs,H1,I1,r1,q1⟩=>hc pins s1 σ H1 vs us Q I1 r1 q1) he hpl
end
end L2
namespace HT
open PySem PyProof.Rows
section
variable {prog:Program} {w:World} {A:Around} {E:Value->Shared->Prop} {s:Shared}
theorem cat_tup{t b:Addr}{vs ws:List Value}{Q:Value->Shared->Prop}(ht:IsTup s.heap t vs.toArray)(hb:IsTup s.heap b ws.toArray)(hv:vs≠[])
  (h1:ws=[]->Q (.ref t) s) (h2:ws≠[]->Q (.ref s.heap.objs.size) {s with heap:=s.heap.push {cls:=.type "tuple",data:=.seq (vs++ws).toArray}})
  (hsz:vs.length+ws.length<=sizeLine):wpAny (model prog w) A (binaryOp .Add (.ref t) (.ref b)) Q E s:=by
 obtain⟨⟨cls,dd,data,sl⟩,ho,hc,n,hd⟩:=id ht;obtain⟨⟨cls2,dd2,data2,sl2⟩,ho2,hc2,n2,hd2⟩:=id hb;simp only at hc hd hc2 hd2;subst hc hd hc2 hd2;have e:vs.toArray++ws.toArray=(vs++ws).toArray:=by simp
 by_cases hw:ws=[]
 ·exact concat_meets ⟨_,ho,rfl⟩ ⟨_,ho2,rfl⟩ noFill_tuple_add seq_tuple_add PySem.F.slot_tuple_add PySem.F.entry_tuple_add (PySem.F.args_tuple_add_2 _ _)
   (tuple_addW1 t b vs.toArray ws.toArray n n2 dd dd2 sl sl2 (by simpa using hv) (by simp[hw])) ⟨ho,ho2,h1 hw⟩
 ·refine concat_meets ⟨_,ho,rfl⟩ ⟨_,ho2,rfl⟩ noFill_tuple_add seq_tuple_add PySem.F.slot_tuple_add PySem.F.entry_tuple_add (PySem.F.args_tuple_add_2 _ _)
   (tuple_addW2 t b vs.toArray ws.toArray n n2 dd dd2 sl sl2 (by simpa using hv) (by simpa using hw) (by rw[vb,vb];exact hsz)) ⟨ho,ho2,?_⟩
  rw[e];exact h2 hw
noncomputable def sIx(n d:Nat):Option Int->Nat
 |none=>d
 |some v=>if v<0 then(v+(n:Int)).toNat else min v.toNat n
theorem qco(n d:Nat)(hd:d<=n)(o:Option Int):sIx n d o<=n:=by
 cases o with
 |none=>exact hd
 |some v =>
  show(if v<0 then(v+(n:Int)).toNat else min v.toNat n)<=n;by_cases hv:v<0
  ·rw[if_pos hv];lia
  ·rw[if_neg hv];exact Nat.min_le_right _ _
theorem zba(v:Int)(n d:Nat):(if v<0 then max (v+(n:Int)) 0 else min v (n:Int))=((sIx n d (some v):Nat):Int):=by
 show(if v<0 then max (v+(n:Int)) 0 else min v (n:Int))=(((if v<0 then(v+(n:Int)).toNat else min v.toNat n):Nat):Int);by_cases hv:v<0
 ·simp only[if_pos hv];lia
 ·simp only[if_neg hv];lia
theorem ya1(lo hi:Option Int)(n:Nat):Builtin.Slice.sliceAdjust lo hi 1 (n:Int)=(((sIx n 0 lo:Nat):Int),((sIx n n hi:Nat):Int)):=by
 have h1:¬((1:Int)<0):=by lia
 unfold Builtin.Slice.sliceAdjust;simp only[h1,if_false];refine Prod.ext ?_ ?_
 ·cases lo with
  |none=>rfl
  |some v=>exact zba v n 0
 ·cases hi with
  |none=>rfl
  |some v=>exact zba v n n
theorem qa1(i j:Nat):Builtin.Slice.slicePlaces (i:Int) (j:Int) 1=j-i:=by
 unfold Builtin.Slice.slicePlaces;have h1:(1:Int)>0:=by lia
 simp only[h1,if_true,Int.ediv_one];split <;> lia
theorem zai{v:Value}{o:Option Int}{Q:Option Int->Shared->Prop}(p:IsPart v o)(h:Q o s):wpAny (model prog w) A (Builtin.Slice.slicePartIndex v) Q E s:=by
 cases p with
 |none=>exact slicePart_none h
 |int i t=>exact slicePart_int h
theorem yD{sl:Addr}{vl vu:Value}{lo hi:Option Int}{n:Nat}{Q:Int×Int×Nat->Shared->Prop}(hs:s.heap.IsSliceOf sl vl vu .none)(pl:IsPart vl lo)(pu:IsPart vu hi)
  (h:Q (((sIx n 0 lo:Nat):Int),1,sIx n n hi-sIx n 0 lo) s):wpAny (model prog w) A (Builtin.Slice.sliceApplied (.ref sl) (pure (n:Int))) Q E s:=by
 obtain⟨os,hos,hcs,hds⟩:=id hs;unfold Builtin.Slice.sliceApplied Builtin.Slice.sliceFields;refine wpAny_bind (wpAny_bind (wpAny_field hos hds (x:=vl) rfl (wpAny_bind (wpAny_field hos hds (x:=vu) rfl (wpAny_bind (wpAny_field hos hds (x:=.none) rfl (wpAny_pure ?_)))))));refine wpAny_bind (slicePart_none ?_);show wpAny _ _ (if((1:Int)==0)=true then _ else _) _ _ s;rw[if_neg (by decide)];refine wpAny_bind (zai pl (wpAny_bind (zai pu (wpAny_bind (wpAny_pure ?_)))));show wpAny _ _ (match Builtin.Slice.sliceAdjust lo hi 1 (n:Int) with|(lo,hi)=>pure (lo,(1:Int),Builtin.Slice.slicePlaces lo hi 1)) _ _ s;rw[ya1 lo hi n];show wpAny _ _ (pure (((sIx n 0 lo:Nat):Int),(1:Int),Builtin.Slice.slicePlaces ((sIx n 0 lo:Nat):Int) ((sIx n n hi:Nat):Int) 1)) _ _ s;rw[qa1];exact wpAny_pure h
theorem QbC(xs:Array Value)(i k:Nat):((Ue k).filterMap λ(m:Nat)=>xs[((i:Int)+(m:Int)*1).toNat]?).toArray=((xs.toList.drop i).take k).toArray:=by
 have e:(λ(m:Nat)=>xs[((i:Int)+(m:Int)*1).toNat]?)=λm=>xs[i+m]?:=by
  funext m;have:((i:Int)+(m:Int)*1).toNat=i+m:=by lia
  rw[this]
 rw[e];have:=pick_run xs i k;rw[List.filterMap_map] at this;have e2:((λx=>xs[x]?)∘λx=>i+x)=λm=>xs[i+m]?:=rfl;rw[e2] at this;rw[this]
theorem getItem_tuple_cut{t sl:Addr}{items:Array Value}{vl vu:Value}{lo hi:Option Int}{Q:Value->Shared->Prop}(ht:IsTup s.heap t items)(hs:s.heap.IsSliceOf sl vl vu .none)(pl:IsPart vl lo)(pu:IsPart vu hi)
  (hw:¬(sIx items.size 0 lo=0/\sIx items.size items.size hi=items.size))
  (h:Q (.ref s.heap.objs.size) {s with heap:=s.heap.push {cls:=.type "tuple",data:=.seq ((items.toList.drop (sIx items.size 0 lo)).take (sIx items.size items.size hi-sIx items.size 0 lo)).toArray}})
  (hsz:items.size<=sizeLine):wpAny (model prog w) A (getItem (.ref t) (.ref sl)) Q E s:=by
 have htake:sizeOk (.seq ((items.toList.drop (sIx items.size 0 lo)).take (sIx items.size items.size hi-sIx items.size 0 lo)).toArray):=by
  show((items.toList.drop (sIx items.size 0 lo)).take (sIx items.size items.size hi-sIx items.size 0 lo)).toArray.size<=sizeLine;rw[vb,Uo,wr,ut]
  lia
 have hj:sIx items.size items.size hi<=items.size:=qco _ _ (wb _) hi;obtain⟨os,hos,hcs,hds⟩:=id hs;have hTs:s.TypeIs (.ref sl) "slice":=⟨os,hos,hcs⟩;unfold getItem
 try with_reducible refine wpAny_holding ?_
 first|refine wpAny_bind (wpAny_pure ?_)|skip
 refine wpAny_bind (wpAny_sequenceKey ht.typeIs (by decide) ?_);refine wpAny_bind (wpAny_callSpecial?_slot (name:=Str.ofString "__getitem__") ht.typeIs PyProof.Rows.slot_tuple_getitem
  (wpAny_call_entry PyProof.Rows.slot_tuple_getitem ht.typeIs entry_tuple_getitem ?_ (args_tuple_getitem _ _)))
 show wpAny _ _ (Builtin.Tuple.tupleItemsOf (.ref t) >>= _) _ _ s;refine wpAny_bind (tupleItemsOf_ ht ?_);refine wpAny_bind (wpAny_typeOf hTs ?_);rw[if_pos (by decide)];refine wpAny_bind (yD hs pl pu ?_);have hno:¬((((sIx items.size 0 lo:Nat):Int)==0&&(1:Int)==1&&(sIx items.size items.size hi-sIx items.size 0 lo)==items.size)=true):=by
  intro q;rw[Wa,Wa] at q;have q1:((sIx items.size 0 lo:Nat):Int)=0:=eq_of_beq q.1.1;have q2:sIx items.size items.size hi-sIx items.size 0 lo=items.size:=eq_of_beq q.2;exact hw ⟨by lia,by lia⟩
 show wpAny _ _ (if(((sIx items.size 0 lo:Nat):Int)==0&&(1:Int)==1&&(sIx items.size items.size hi-sIx items.size 0 lo)==items.size)=true then _ else _) _ _ s;rw[if_neg hno,QbC]
 first
  |exact wpAny_bind (m:=Builtin.Tuple.tupleExact _) (wpAny_newObj_type (wpAny_pure ⟨_,rfl,wpAny_pure h⟩) htake)
  |exact wpAny_bind (m:=Builtin.Tuple.tupleExact _) (wpAny_newObj_type (wpAny_bind (wpAny_pure (wpAny_pure ⟨_,rfl,wpAny_pure h⟩))) htake)
  |exact wpAny_bind (wpAny_bind (m:=Builtin.Tuple.tupleExact _) (wpAny_newObj_type (wpAny_pure (wpAny_pure ⟨_,rfl,wpAny_pure h⟩)) htake))
  |exact wpAny_bind (wpAny_bind (m:=Builtin.Tuple.tupleExact _) (wpAny_newObj_type (wpAny_pure ⟨_,rfl,wpAny_pure h⟩) htake))
end
end HT
namespace L2
open PySem PySem.Spec PyProof.Rows
noncomputable abbrev TO:=St->Hp->(Option Int->Hp->Prop)->Prop
noncomputable def PO(X:Cx)(e:Option Expr)(t:TO):Prop :=
 ∀(pins:List (Addr×Obj)) (s:Shared) (σ:St) (H:Hp) (Q:Option Int->Hp->Prop),Inv X pins σ H s->t σ H Q ->
  wpAny (model X.prog X.w) X.A (evalPart e X.env) (λu s'=>∃ o H',Inv X pins σ H' s'/\IsPart u o/\Q o H') X.xe s
noncomputable def QbX:TO:=λ_ H Q=>Q none H
noncomputable def tPart(t:TE):TO:=λσ H Q=>t σ H λx H1=>∃ i,x=.int i/\Q (some i) H1
section
variable {X:Cx} {e:Expr} {te:TE} {lo hi:Option Expr} {tl th:TO} {pos p2:Pos}
theorem QbY:PO X none QbX:=by
 intro pins s σ H Q I h;rw[evalPart_none];exact wpAny_pure ⟨none,H,I,.none,h⟩
theorem YbN(h:PE X e te):PO X (some e) (tPart te):=by
 intro pins s σ H Q I hw;rw[evalPart_some];refine thn (h pins s σ H _ I hw) λu s1 ⟨x,H1,I1,r1,q1⟩=>?_;obtain⟨i,rfl,q⟩:=q1;obtain⟨t,rfl⟩:=r1;exact⟨some i,H1,I1,.int i t,q⟩
noncomputable def SlR(X:Cx)(r:V->Option Int->Option Int->Hp->VK->Prop):Prop :=
 ∀(pins:List (Addr×Obj)) (s:Shared) (σ:St) (H:Hp) (x:V) (v vl vu:Value) (lo hi:Option Int) (sl:Addr) (Q:VK),Inv X pins σ H s->RelV x v->s.heap.IsSliceOf sl vl vu .none->IsPart vl lo->IsPart vu hi->r x lo hi H Q ->
  ∃ T id,typeLookup (.type T) "__getitem__"=pure (some (.builtin id))/\s.TypeIs v T/\wpAny (model X.prog X.w) X.A (getItem v (.ref sl)) (EP X pins σ Q) X.xe s
noncomputable def tSl(r:V->Option Int->Option Int->Hp->VK->Prop)(te:TE)(tl th:TO):TE:=λσ H Q=>te σ H λx H1=>tl σ H1 λl H2=>th σ H2 λu H3=>r x l u H3 Q
theorem Zby{r:V->Option Int->Option Int->Hp->VK->Prop}(hr:SlR X r)(he:PE X e te)(hl:PO X lo tl)(hu:PO X hi th):PE X (.Subscript e (.Slice lo hi none p2) pos) (tSl r te tl th):=by
 intro pins s σ H Q I h;refine Subscript_ (thn (he pins s σ H _ I h) λv s1 ⟨x,H1,I1,r1,q1⟩=>?_);refine wpAny_Slice (thn (hl pins s1 σ H1 _ I1 q1) λvl s2 ⟨l,H2,I2,pl,q2⟩=>thn (hu pins s2 σ H2 _ I2 q2) λvu s3 ⟨u,H3,I3,pu,q3⟩=>?_);rw[evalPart_none];refine wpAny_pure ?_;have I4:Inv X pins σ H3 {s3 with heap:=s3.heap.push {cls:=.type "slice",data:=.fields #[vl,vu,.none]}}:=I3.kept (t':=s3.toks) λb ob q=>wa _ q;obtain⟨T,id,hT,ht,hg⟩:=hr pins {s3 with heap:=s3.heap.push {cls:=.type "slice",data:=.fields #[vl,vu,.none]}} σ H3 x v vl vu l u s3.heap.objs.size Q I4 r1 (Heap.IsSliceOf.new ..) pl pu q3;show wpAny (model X.prog X.w) X.A (subscriptTail e (.Slice lo hi none p2) v (.ref s3.heap.objs.size)) (EP X pins σ Q) X.xe {s3 with heap:=s3.heap.push {cls:=.type "slice",data:=.fields #[vl,vu,.none]}};exact tail_any (ops:=[.ref s3.heap.objs.size,v]) ht hT hg (by with_unfolding_all rfl)
noncomputable def yaP(xs:List V)(lo hi:Option Int):List V:=(xs.drop (HT.sIx xs.length 0 lo)).take (HT.sIx xs.length xs.length hi-HT.sIx xs.length 0 lo)
theorem Q6(xs:List V)(lo hi:Option Int):(yaP xs lo hi).length<=xs.length:=by
 unfold yaP;rw[Uo,wr]
 lia
noncomputable def rSlT(K:PySem.W.Frag):V->Option Int->Option Int->Hp->VK->Prop:=λx lo hi H Q=>∃ a xs,x=.ref a/\SqT K H a xs /\
 ¬(HT.sIx xs.length 0 lo=0/\HT.sIx xs.length xs.length hi=xs.length)/\∀ p,H p=none->Q (.ref p) (upd H p (.tup (yaP xs lo hi)))
theorem Ycn:SlR X (rSlT X.K):=by
 intro pins s σ H x v vl vu lo hi sl Q I rx hs pl pu h;obtain⟨a,xs,rfl,hx,hw,q⟩:=h;cases rx;obtain⟨its,r,ht,hz⟩:=I.tuple hx;have hlen:its.toArray.size=xs.length:=by rw[vb];exact r.length.symm
 refine⟨"tuple",_,PyProof.Rows.slot_tuple_getitem.lookup,ht.typeIs,?_⟩;refine HT.getItem_tuple_cut ht hs pl pu (by rw[hlen];exact hw) ?_ (by rw[hlen];exact hz);rw[hlen];refine⟨.ref s.heap.objs.size,_,I.laid (t':=s.toks) (o:=.tup (yaP xs lo hi)) (λb ob q=>wa _ q) (wb _) ?_,rfl,q _ (I.hok.fresh (wb _))⟩;exact⟨Xe (Q6 xs lo hi) hz,_,(r.drop (HT.sIx xs.length 0 lo)).take (HT.sIx xs.length xs.length hi-HT.sIx xs.length 0 lo),IsTup.new _ _⟩
noncomputable def rCatT(K:PySem.W.Frag):R2:=λx y H Q=>∃ a b xs ys,x=.ref a/\y=.ref b/\SqT K H a xs/\SqT K H b ys/\xs≠[]/\xs.length+ys.length<=sizeLine /\
 (ys=[]->Q (.ref a) H)/\(ys≠[]->∀ p,H p=none->Q (.ref p) (upd H p (.tup (xs++ys))))
theorem Vals.nil_iff{xs:List V}{us:List Value}(r:Vals xs us):us=[]↔xs=[]:=by
 cases r with
 |nil=>simp
 |cons _ _=>simp
theorem yb0:OpR X (binaryOp .Add) (rCatT X.K):=by
 intro pins s σ H x y v u Q I rx ry h;obtain⟨a,b,xs,ys,rfl,rfl,ha,hb,hx,hz,q1,q2⟩:=h;cases rx;cases ry;obtain⟨its,r1,p1,_⟩:=I.tuple ha;obtain⟨its2,r2,p2,_⟩:=I.tuple hb;refine HT.cat_tup p1 p2 (λz=>hx (r1.nil_iff.mp z)) (λz=>⟨.ref a,H,I,rfl,q1 (r2.nil_iff.mp z)⟩) (λz=>?_) (by rw[<- r1.length,<- r2.length];exact hz);refine⟨.ref s.heap.objs.size,_,I.laid (t':=s.toks) (o:=.tup (xs++ys)) (λb ob q=>wa _ q) (wb _) ?_,rfl,q2 (λw=>z (r2.nil_iff.mpr w)) _ (I.hok.fresh (wb _))⟩;exact⟨by rw[xf];exact hz,_,r1.append r2,IsTup.new _ _⟩
end
noncomputable def ixN(n:Nat)(i:Int):Option Nat:=if 0<=i then(if i<n then some i.toNat else none) else if -(n:Int)<=i then some (i+n).toNat else none
noncomputable def atI{α:Type}(xs:List α)(i:Int):Option α:=(ixN xs.length i).bind λj=>xs[j]?
theorem Zbd{n:Nat}{i:Int}{j:Nat}(h:ixN n i=some j):seqIndex? i n=some j/\j<n/\-(n:Int)<=i/\i<n:=by
 unfold ixN at h;by_cases h0:0<=i
 ·rw[if_pos h0] at h;by_cases h1:i<n
  ·rw[if_pos h1] at h;have e:i.toNat=j:=Option.some.inj h;exact⟨by rw[seqIndex_of h0 h1,e],by lia,by lia,h1⟩
  ·rw[if_neg h1] at h;cases h
 ·rw[if_neg h0] at h;by_cases h1:-(n:Int)<=i
  ·rw[if_pos h1] at h;have e:(i+n).toNat=j:=Option.some.inj h;exact⟨by rw[seqIndex_neg (by lia) h1,e],by lia,h1,by lia⟩
  ·rw[if_neg h1] at h;cases h
theorem Qaz{α:Type}{xs:List α}{i:Int}{v:α}(h:atI xs i=some v):∃ j,seqIndex? i xs.length=some j/\xs[j]?=some v/\j<xs.length/\-(xs.length:Int)<=i/\i<xs.length:=by
 unfold atI at h;cases e:ixN xs.length i with
 |none=>rw[e] at h;cases h
 |some j =>
  rw[e] at h;obtain⟨h1,h2,h3,h4⟩:=Zbd e;exact⟨j,h1,h,h2,h3,h4⟩
noncomputable def zbd(b:Expr):Prop:=∀ o i,subscripted b false o i=operate [o,i] (getItem o i)
noncomputable def IxR(X:Cx)(r:R2):Prop :=
 ∀(value slice:Expr)(pins:List (Addr×Obj)) (s:Shared) (σ:St) (H:Hp) (x y:V) (v u:Value) (Q:VK),Inv X pins σ H s->RelV x v->RelV y u->r x y H Q ->
  subscripted slice false v u=operate [v,u] (getItem v u)->wpAny (model X.prog X.w) X.A (subscriptTail value slice v u) (EP X pins σ Q) X.xe s
noncomputable def MtR(X:Cx)(id:String)(r:V->List V->Hp->VK->Prop):Prop :=
 ∀(pins:List (Addr×Obj)) (s:Shared) (σ:St) (H:Hp) (x:V) (xs:List V) (v:Value) (us:List Value) (Q:VK),Inv X pins σ H s->RelV x v->Vals xs us->r x xs H Q ->
  wpAny (model X.prog X.w) X.A (call (.builtin id) (v::us)) (EP X pins σ Q) X.xe s
section
variable {X:Cx} {a b:Expr} {ta tb:TE} {pos:Pos}
theorem yb3{r:R2}(hr:IxR X r)(ha:PE X a ta)(hb:PE X b tb)(hs:zbd b):PE X (.Subscript a b pos) (tOp r ta tb):=by
 intro pins s σ H Q I h;exact Subscript_ (binT ha hb I h λv u s2 x y H2 I2 rx ry q=>hr a b pins s2 σ H2 x y v u Q I2 rx ry q (hs _ _))
noncomputable def rIxL(K:PySem.W.Frag):R2:=λx y H Q=>∃ p xs i v,x=.ref p/\y=.int i/\SqL K H p xs/\atI xs i=some v/\Q v H
noncomputable def rIxT(K:PySem.W.Frag):R2:=λx y H Q=>∃ p xs i v,x=.ref p/\y=.int i/\SqT K H p xs/\atI xs i=some v/\Q v H
noncomputable def rIxS:R2:=λx y H Q=>∃ z i c,x=.str z/\y=.int i/\z.length<=sizeLine/\atI z.cps.toList i=some c/\Q (.str ⟨#[c]⟩) H
theorem qbO:IxR X (rIxL X.K):=by
 intro value slice pins s σ H x y v u Q I rx ry h hs;obtain⟨p,xs,i,z,rfl,rfl,hq,he,q⟩:=h;cases rx;obtain⟨t,rfl⟩:=ry;obtain⟨its,r,pl,hz⟩:=I.list hq;obtain⟨j,h1,h2,h3,h4,h5⟩:=Qaz he;obtain⟨w,ew,rw'⟩:=r.get h2;have hl:=r.length;have hn:=yY;have fin:EP X pins σ Q w s:=⟨z,H,I,rw',q⟩;by_cases h0:0<=i
 ·have hj:i.toNat=j:=by
   rw[seqIndex_of h0 h5] at h1;exact Option.some.inj h1
  exact item_listR pl.isList h0 (by lia) (by rw[hj];simpa using ew) fin hs
 ·have hj:(i+(its.toArray.size:Int)).toNat=j:=by
   rw[seqIndex_neg (by lia) h4] at h1;rw[vb,<- hl];exact Option.some.inj h1
  exact subscriptTail_builtinR (x:=w) pl.isList.typeIs slot_list_getitem.lookup
   (wpAny_getItem_list_neg (Q:=λr s'=>r=w/\EP X pins σ Q r s') pl.isList (by lia) (by rw[vb] <;> lia) (by lia) (by rw[hj];simpa using ew) ⟨rfl,fin⟩) hs
theorem Yci:IxR X (rIxT X.K):=by
 intro value slice pins s σ H x y v u Q I rx ry h hs;obtain⟨p,xs,i,z,rfl,rfl,hq,he,q⟩:=h;cases rx;obtain⟨t,rfl⟩:=ry;obtain⟨its,r,pl,hz⟩:=I.tuple hq;obtain⟨j,h1,h2,h3,h4,h5⟩:=Qaz he;obtain⟨w,ew,rw'⟩:=r.get h2;have hl:=r.length;have hn:=yY;have fin:EP X pins σ Q w s:=⟨z,H,I,rw',q⟩;exact subscriptTail_builtinR (x:=w) pl.typeIs slot_tuple_getitem.lookup
  (getItem_tuple (j:=j) (Q:=λr s'=>r=w/\EP X pins σ Q r s') pl (by lia) (by lia) (by rw[vb,<- hl];exact h1) (by simpa using ew) ⟨rfl,fin⟩) hs
theorem Zcn:IxR X rIxS:=by
 intro value slice pins s σ H x y v u Q I rx ry h hs;obtain⟨z,i,c,rfl,rfl,hz,he,q⟩:=h;obtain⟨t,rfl⟩:=rx;obtain⟨t',rfl⟩:=ry;obtain⟨j,h1,h2,h3,h4,h5⟩:=Qaz he;have hl:z.cps.toList.length=z.length:=by simp[Str.length]
 rw[hl] at h1 h4 h5;have hn:=yY;exact tail_any (typeIs_str s z t) slot_str_getitem.lookup (getItem_str (c:=c) (by
  have e1:decide (i < -(2^63:Int))=false:=decide_eq_false (by lia);have e2:decide (i>=2^63)=false:=decide_eq_false (by lia);rw[e1,e2,Bool.or_false]) (by rw[h1];simpa using h2) ⟨.str ⟨#[c]⟩,H,I.tok _,⟨_,rfl⟩,q⟩) hs
theorem Qa5(its:List Value)(n j:Nat)(u:Value):Obj.mapSeq (·.setIfInBounds j u) {cls:=.type "list",data:=.seq its.toArray n}={cls:=.type "list",data:=.seq (its.set j u).toArray n}:=by
 simp[Obj.mapSeq]
theorem Inv.lst{pins:List (Addr×Obj)}{σ:St}{H:Hp}{s:Shared}{p:Addr}{xs:List V}(I:Inv X pins σ H s)(h:H p=some (.lst xs)) :
  ∃(its:List Value)(n:Nat),Vals xs its/\s.heap.get? p=some {cls:=.type "list",data:=.seq its.toArray n}/\xs.length<=sizeLine:=by
 obtain⟨z,its,n,r,e⟩:=I.hok p _ h;exact⟨its,n,r,e,z⟩
theorem Inv.lstUpd{pins:List (Addr×Obj)}{σ:St}{H:Hp}{s:Shared}{p:Addr}{xs ys:List V}{its its':List Value}{n n':Nat}{f:Obj->Obj}(I:Inv X pins σ H s)(h:H p=some (.lst xs))
  (ho:s.heap.get? p=some {cls:=.type "list",data:=.seq its.toArray n}) (hf:f {cls:=.type "list",data:=.seq its.toArray n}={cls:=.type "list",data:=.seq its'.toArray n'}) (r:Vals ys its') (hz:ys.length<=sizeLine) (t:Nat) :
  Inv X pins σ (upd H p (.lst ys)) {s with heap:=s.heap.update p f,toks:=t}:=by
 have e:(s.heap.update p f).get? p=some {cls:=.type "list",data:=.seq its'.toArray n'}:=by
  rw[xj f ho (by rw[hf] <;> rfl),hf]
 refine I.write (x:=p) (e:=p) (by rw[h];trivial) (.inl rfl) (λb u hb q=>(uf _ _ (Ne.symm hb)).trans q) ⟨_,e⟩ ?_;exact⟨hz,its',n',r,e⟩
noncomputable def rSetL:V->V->V->Hp->(Hp->Prop)->Prop:=λo i v H Q=>∃ p xs k j,o=.ref p/\i=.int k/\H p=some (.lst xs)/\ixN xs.length k=some j/\Q (upd H p (.lst (xs.set j v)))
theorem QbJ:PSet X rSetL:=by
 intro pins s σ H o i v ov iv u Q I ro ri rv h;obtain⟨p,xs,k,j,rfl,rfl,hp,hj,q⟩:=h;cases ro;obtain⟨t,rfl⟩:=ri;obtain⟨its,n,r,ho,hz⟩:=I.lst hp;obtain⟨h1,h2,h3,h4⟩:=Zbd hj;have hl:=r.length;have hn:=yY;have I':Inv X pins σ (upd H p (.lst (xs.set j v))) {s with heap:=s.heap.update p (Obj.mapSeq (·.setIfInBounds j u))} :=
  I.lstUpd hp ho (Qa5 its n j u) (r.set rv j) (by rw[xw];exact hz) s.toks
 by_cases h0:0<=k
 ·have hk:k.toNat=j:=by
   rw[seqIndex_of h0 h4] at h1;exact Option.some.inj h1
  exact PySem.W.ki_setAt ho h0 (by lia) (by rw[vb,<- hl];exact h4) (by rw[hk];exact⟨_,I',q⟩)
 ·have hk:(k+(its.toArray.size:Int)).toNat=j:=by
   rw[seqIndex_neg (by lia) h3] at h1;rw[vb,<- hl];exact Option.some.inj h1
  exact PySem.W.ki_setBack ho (by lia) (by rw[vb,<- hl];exact h3) (by lia) (by rw[hk];exact⟨_,I',q⟩)
theorem yaB(lo hi:Option Int)(n:Nat):(sliceBounds lo hi none n).1=((HT.sIx n 0 lo:Nat):Int)/\(sliceBounds lo hi none n).2.1=((HT.sIx n n hi:Nat):Int)/\(sliceBounds lo hi none n).2.2=1:=by
 refine⟨?_,?_,rfl⟩
 ·cases lo with
  |none=>simp[sliceBounds,HT.sIx]
  |some i =>
   simp only[sliceBounds,HT.sIx,uB,show(1:Int)>0 by decide,if_true];by_cases h:i<0
   ·simp only[h,if_true] <;> lia
   ·simp only[h,if_false] <;> lia
 ·cases hi with
  |none=>simp[sliceBounds,HT.sIx]
  |some i =>
   simp only[sliceBounds,HT.sIx,uB,show(1:Int)>0 by decide,if_true];by_cases h:i<0
   ·simp only[h,if_true] <;> lia
   ·simp only[h,if_false] <;> lia
theorem zao(its:List Value)(lo hi:Option Int):slicePick its.toArray lo hi none=((its.drop (HT.sIx its.length 0 lo)).take (HT.sIx its.length its.length hi-HT.sIx its.length 0 lo)).toArray:=by
 obtain⟨h1,h2,h3⟩:=yaB lo hi its.toArray.size;unfold slicePick;rw[h1,h2,h3];simp only[sliceRange_one,pick_run,vb] <;> rfl
noncomputable def rSlL(K:PySem.W.Frag):V->Option Int->Option Int->Hp->VK->Prop:=λx lo hi H Q=>∃ a xs,x=.ref a/\SqL K H a xs/\∀ p,H p=none->Q (.ref p) (upd H p (.lst (yaP xs lo hi)))
theorem Zbg:SlR X (rSlL X.K):=by
 intro pins s σ H x v vl vu lo hi sl Q I rx hs pl pu h;obtain⟨a,xs,rfl,hx,q⟩:=h;cases rx;obtain⟨its,r,ht,hz⟩:=I.list hx;have hlen:=r.length;refine⟨"list",_,slot_list_getitem.lookup,ht.isList.typeIs,?_⟩;refine wpAny_getItem_list_slice ht.isList hs pl pu .none (by simp) ?_ (by rw[vb] <;> lia);rw[zao,<- hlen];refine⟨.ref s.heap.objs.size,_,I.laid (t':=s.toks) (o:=.lst (yaP xs lo hi)) (λb ob q=>wa _ q) (wb _) ?_,rfl,q _ (I.hok.fresh (wb _))⟩;exact⟨Xe (Q6 xs lo hi) hz,_,0,(r.drop (HT.sIx xs.length 0 lo)).take (HT.sIx xs.length xs.length hi-HT.sIx xs.length 0 lo),Wb _ rfl⟩
theorem ZaC:CallR X (.builtin "len") (λxs H Q=>∃ p ys,xs=[.ref p]/\(SqL X.K H p ys\/SqT X.K H p ys)/\Q (.int ys.length) H):=by
 intro pins s σ H xs us Q I r h;obtain⟨p,ys,rfl,hq,q⟩:=h;obtain⟨u,rfl,rx⟩:=YaM r;cases rx;have hn:=yY
 rcases hq with hq|hq
 ·obtain⟨its,r',pl,hz⟩:=I.list hq;have hlen:=r'.length;exact Calls.call_len_list pl.isList (by simp only[vb] <;> lia) ⟨.int ys.length,H,I.tok _,⟨s.toks+1,by rw[vb,hlen]⟩,q⟩
 ·obtain⟨its,r',pl,hz⟩:=I.tuple hq;have hlen:=r'.length;exact len_tuple pl (by simp only[vb] <;> lia) ⟨.int ys.length,H,I.tok _,⟨s.toks+1,by rw[vb,hlen]⟩,q⟩
theorem QaF:CallR X (.builtin "len") (λxs H Q=>∃ z,xs=[.str z]/\z.length<=sizeLine/\Q (.int z.length) H):=by
 intro pins s σ H xs us Q I r h;obtain⟨z,rfl,hz,q⟩:=h;obtain⟨u,rfl,t,rfl⟩:=YaM r;have hn:=yY;exact len_str (by lia) ⟨.int z.length,H,I.tok _,⟨_,rfl⟩,q⟩
theorem YaG:CallR X (.type "list") (λxs H Q=>∃ p ys,xs=[.ref p]/\(SqL X.K H p ys\/SqT X.K H p ys)/\∀ l,H l=none->Q (.ref l) (upd H l (.lst ys))):=by
 intro pins s σ H xs us Q I r h;obtain⟨p,ys,rfl,hq,q⟩:=h;obtain⟨u,rfl,rx⟩:=YaM r;cases rx;have fin:∀(its:List Value),Vals ys its->ys.length<=sizeLine->∀(h':Heap)(c':Nat),(∀ b o',s.heap.get? b=some o'->h'.get? b=some o') ->
   h'.get? s.heap.objs.size=some {cls:=.type "list",dict:=none,data:=.seq its.toArray c',slots:=#[]}->EP X pins σ Q (.ref s.heap.objs.size) {s with heap:=h'}:=λits r' hz h' c' kp e =>
  ⟨.ref s.heap.objs.size,_,I.laid (t':=s.toks) kp (wb _) (show ObjOk X.prog X.w _ h' _ (.lst ys) from⟨hz,its,c',r',e⟩),rfl,q _ (I.hok.fresh (wb _))⟩
 rcases hq with hq|hq
 ·obtain⟨its,r',pl,hz⟩:=I.list hq;have hlen:=r'.length;obtain⟨o,ho,hc,n,hd⟩:=pl.isList;exact call_list_seq p (.inl rfl) ho hc hd (λh' c' kp e=>fin its r' hz h' c' kp e) (by simp only[vb] <;> lia)
 ·obtain⟨its,r',pl,hz⟩:=I.tuple hq;have hlen:=r'.length;obtain⟨o,ho,hc,n,hd⟩:=pl;exact call_list_seq p (.inr rfl) ho hc hd (λh' c' kp e=>fin its r' hz h' c' kp e) (by simp only[vb] <;> lia)
theorem zar:CallR X (.type "tuple") (λxs H Q=>∃ p ys,xs=[.ref p]/\((SqL X.K H p ys/\∀ l,H l=none->Q (.ref l) (upd H l (.tup ys)))\/(SqT X.K H p ys/\Q (.ref p) H))):=by
 intro pins s σ H xs us Q I r h;obtain(⟨p,ys,rfl,h⟩):=h;obtain(⟨u,rfl,rx⟩):=YaM r;cases rx
 rcases h with ⟨hq,q⟩|⟨hq,q⟩
 ·obtain(⟨its,r',pl,hz⟩):=I.list hq;have hlen:=r'.length;refine call_tuple_list pl.isList (λh' kp=>?_) (by simp only[vb] <;> lia);have I1:Inv X pins σ H {s with heap:=h'}:=I.kept (t':=s.toks) kp;have I2:Inv X pins σ (upd H h'.objs.size (.tup ys)) {s with heap:=h'.push {cls:=.type "tuple",data:=.seq its.toArray}} :=
   I1.laid (t':=s.toks) (λb o e=>wa _ e) (wb _) (show ObjOk X.prog X.w _ _ _ (.tup ys) from⟨hz,its,r',IsTup.new _ _⟩)
  exact⟨.ref h'.objs.size,_,I2,rfl,q _ (I1.hok.fresh (wb _))⟩
 ·obtain(⟨its,r',pl,hz⟩):=I.tuple hq;exact call_tuple_same pl ⟨.ref p,H,I,rfl,q⟩
noncomputable def tyV(K:PySem.W.Frag)(T:String)(x:V)(H:Hp):Prop:=match x with
 |.str _=>T="str"
 |.int _=>T="int"
 |.ref p=>(T="list"/\∃ xs,SqL K H p xs)\/(T="tuple"/\∃ o,K.lookup p=some o/\o.cls=.type "tuple"/\o.dict=none) \/
   (T="dict"/\((∃ kvs,H p=some (.dK kvs))\/∃ kvs,H p=some (.dT kvs)))\/(T="set"/\∃ S n,H p=some (.set S n))
 |_=>False
theorem Ycg{pins:List (Addr×Obj)}{σ:St}{H:Hp}{s:Shared}{T:String}{x:V}{v:Value}(I:Inv X pins σ H s)(r:RelV x v)(ty:tyV X.K T x H) :
  s.TypeIs v T/\∀ a,v=.ref a->∃ ob,s.heap.get? a=some ob/\ob.dict=none:=by
 cases x with
 |str z =>
  obtain⟨t,rfl⟩:=r;cases(show T="str" from ty);exact⟨typeIs_str s z t,λ_ e=>nomatch e⟩
 |int i =>
  obtain⟨t,rfl⟩:=r;cases(show T="int" from ty);exact⟨typeIs_int s i t,λ_ e=>nomatch e⟩
 |ref p =>
  cases r
  rcases ty with ⟨rfl,xs,hq⟩|⟨rfl,o,hk,hc,hd⟩|⟨rfl,hk⟩|⟨rfl,S,n,hk⟩
  ·obtain⟨its,_,pl,_⟩:=I.list hq;refine⟨pl.isList.typeIs,λa e=>?_⟩;cases e;obtain⟨o,n,e,c,hd,_⟩:=pl;exact⟨o,e,hd⟩
  ·refine⟨⟨o,I.kIn p o hk,hc⟩,λa e=>?_⟩;cases e;exact⟨o,I.kIn _ o hk,hd⟩
  ·have z:∃ o,s.heap.get? p=some o/\o.ExactDict:=by
    rcases hk with ⟨kvs,hk⟩|⟨kvs,hk⟩
    ·obtain⟨_,_,_,_,o,_,_,e,ex,_⟩:=I.hok p _ hk;exact⟨o,e,ex⟩
    ·obtain⟨_,_,_,_,o,_,_,e,ex,_⟩:=I.hok p _ hk;exact⟨o,e,ex⟩
   obtain⟨o,e,ex⟩:=z;refine⟨⟨o,e,ex.1⟩,λa e2=>?_⟩;cases e2;exact⟨o,e,ex.2.1⟩
  ·obtain⟨o,_,_,_,e,ex,_⟩:=I.hok p _ hk;refine⟨⟨o,e,ex.1⟩,λa e2=>?_⟩;cases e2;exact⟨o,e,ex.2.1⟩
 |_=>exact False.elim ty
noncomputable def tBM(K:PySem.W.Frag)(T:String)(r:V->List V->Hp->VK->Prop)(to:TE)(t:TA):TE:=λσ H Q=>to σ H λx H1=>tyV K T x H1/\t σ H1 λxs H2=>r x xs H2 Q
variable {o e:Expr} {es:List Expr} {to:TE} {t:TA} {name:Str} {apos cpos:Pos} {T id:String} {r:V->List V->Hp->VK->Prop}
theorem pe_bm(pa:PlainAttrs T)(slot:Slot T name id)(hty:typeOf (.builtin id)=pure (.type "method_descriptor"))(hm:MtR X id r)(ho:PE X o to)(ha:PA X (e::es) t)
  (hbase:attributeBase o name X.env (eval o X.env)=eval o X.env:=by rfl)
  (hfew:((backTo cpos (starEach (e::es) X.env)).all (λx=>!x.1)&&(backToKw cpos (keywordEach [] X.env)).all (λx=>x.1.isSome)
   && decide ((e::es).length+([]:List Keyword).length+(if([]:List Keyword).isEmpty then 0 else 1)<30))=true:=by rfl)
  (hline:(apos.endLine==cpos.line)=true:=by rfl) (hs:starEach (e::es) X.env=(false,eval e X.env)::starEach es X.env:=by rfl) (hplain:(backTo cpos (starEach es X.env)).any (·.1)=false:=by rfl) :
  PE X (.Call (.Attribute o name apos) (e::es) [] cpos) (tBM X.K T r to t):=by
 intro pins s σ H Q I h;refine wpAny_Call_method_late hbase hfew hline rfl (thn (ho pins s σ H _ I h) λv s1 ⟨x,H1,I1,r1,ty,q1⟩=>?_);obtain⟨h1,h2⟩:=Ycg I1 r1 ty;refine⟨T,id,pa,slot,hty,h1,h2,?_⟩;have hA:=ha cpos pins s1 σ H1 _ I1 q1;rw[hs] at hA ⊢;refine Calls.callWith_builtin (by show(false||(backTo cpos (starEach es X.env)).any (·.1))=false;rw[hplain] <;> rfl) (Calls.evalArgs_plain ?_);exact thn hA λus s2 ⟨vs,H2,I2,r2,q2⟩=>hm pins s2 σ H2 x vs v us Q I2 r1 r2 q2
end
noncomputable def MtM(X:Cx)(id:String)(r:V->List V->Hp->VK->Prop):Prop :=
 ∀(pins:List (Addr×Obj)) (s:Shared) (σ:St) (H:Hp) (x:V) (xs:List V) (v:Value) (us:List Value) (Q:VK),Inv X pins σ H s->RelV x v->Vals xs us->r x xs H Q ->
  wpAny (model X.prog X.w) X.A (call (.builtin id) (v::us)) (EP X pins σ Q) X.xe s
theorem Vals.one:∀{x:V}{us:List Value},Vals [x] us->∃ u,us=[u]/\RelV x u
 |_,_,.cons r .nil=>⟨_,rfl,r⟩
theorem Vals.dropLast{xs:List V}{us:List Value}(h:Vals xs us):Vals xs.dropLast us.dropLast:=by
 induction h with
 |nil=>exact .nil
 |cons r t ih =>
  cases t with
  |nil=>exact .nil
  |cons q t'=>exact .cons r ih
theorem Vals.rep{xs:List V}{us:List Value}(h:Vals xs us):∀ k:Nat,Vals (Wd k xs).flatten (Wd k us).flatten
 |0=>.nil
 |k+1=>by
  rw[ul,ul,xo,xo];exact Vals.append h (Vals.rep h k)
theorem qce{α:Type}(l:List α):l.eraseIdx (l.length-1)=l.dropLast:=by
 induction l with
 |nil=>rfl
 |cons a r ih =>
  cases r with
  |nil=>rfl
  |cons b r =>
   have e:(a::b::r).length-1=((b::r).length-1)+1:=by
    have h1:(a::b::r).length=r.length+2:=rfl;have h2:(b::r).length=r.length+1:=rfl
    lia
   rw[e,List.eraseIdx_cons_succ,ih]
   all_goals rfl
theorem yas(its:List Value):∀(k:Nat)(acc:List Value),
  wC (λx1 x2=>x1++x2) acc.toArray (Wd k its.toArray)=(acc++(Wd k its).flatten).toArray
 |0,acc=>by simp
 |k+1,acc=>by
  have e:acc.toArray++its.toArray=(acc++its).toArray:=by simp
  have e2:(acc++its)++(Wd k its).flatten=acc++(Wd (k+1) its).flatten:=by
   rw[ul,xo,Xm]
  rw[<- e2,<- yas its k (acc++its),<- e,ul,List.foldl_cons]
section
variable {X:Cx} {pins:List (Addr×Obj)} {σ:St} {H:Hp} {s:Shared} {l b:Addr} {xs ys zs:List V}
theorem Inv.lset{its its':List Value}{n:Nat}{f:Array Value->Array Value}{t':Nat}(I:Inv X pins σ H s)(hH:H l=some (.lst xs))
  (e:s.heap.get? l=some {cls:=.type "list",data:=.seq its.toArray n}) (hf:f its.toArray=its'.toArray) (hv:Vals ys its') (hz:ys.length<=sizeLine) :
  Inv X pins σ (upd H l (.lst ys)) {s with heap:=s.heap.update l (Obj.mapSeq f),toks:=t'}:=by
 have q:=PySem.IsL.update e f;rw[hf] at q;refine I.write (x:=l) (e:=l) (by rw[hH];exact trivial) (.inl rfl) (λb' u hb hu=>(uf s.heap (Obj.mapSeq f) (Ne.symm hb)).trans hu) ⟨_,q⟩ ?_;exact⟨hz,its',_,hv,q⟩
theorem Inv.lnew{its:List Value}{t':Nat}(I:Inv X pins σ H s)(hv:Vals ys its)(hz:ys.length<=sizeLine) :
  Inv X pins σ (upd H s.heap.objs.size (.lst ys)) {s with heap:=s.heap.push {cls:=.type "list",data:=.seq its.toArray},toks:=t'} :=
 I.laid (λ_ _ q=>wa _ q) (wb _) ⟨hz,its,0,hv,Wb _ rfl⟩
theorem Inv.fresh(I:Inv X pins σ H s):H s.heap.objs.size=none:=I.hok.fresh (wb _)
theorem Inv.lstM(I:Inv X pins σ H s)(hH:H l=some (.lst xs)):xs.length<=sizeLine/\∃(its:List Value)(n:Nat),Vals xs its/\xs.length=its.length/\s.heap.get? l=some {cls:=.type "list",data:=.seq its.toArray n}:=by
 obtain⟨z,its,n,r,e⟩:=I.hok l _ hH;exact⟨z,its,n,r,r.length,e⟩
theorem QbH{n:Nat}(h:n<=sizeLine):Builtin.List.listTooLong n=false:=by
 unfold Builtin.List.listTooLong;exact decide_eq_false (by lia)
end
section
variable {X:Cx}
noncomputable def QbQ:V->List V->Hp->VK->Prop:=λx vs H Q=>∃ l xs y,x=.ref l/\vs=[y]/\H l=some (.lst xs)/\xs.length<sizeLine/\Q .non (upd H l (.lst (xs++[y])))
theorem Qbh:MtM X "list.append" QbQ:=by
 intro pins s σ H x vs v us Q I rx rv h;obtain⟨l,xs,y,rfl,rfl,hH,hz,q⟩:=h;cases rx;obtain⟨u,rfl,ru⟩:=rv.one;obtain⟨z,its,n,r,hl,e⟩:=I.lstM hH;refine call_meets F.slot_list_append ⟨_,e,rfl⟩ F.entry_list_append (F.args_list_append_2 _ _) (PySem.list_append l its.toArray n u (by rw[vb];lia)) ⟨e,?_⟩;refine⟨.non,_,I.lset (its':=its++[u]) hH e (by simp) (r.append (.cons ru .nil)) ?_,rfl,q⟩;rw[xf,Xx]
 lia
noncomputable def rExtend:V->List V->Hp->VK->Prop:=λx vs H Q=>∃ l b xs zs,x=.ref l/\vs=[.ref b]/\H l=some (.lst xs)/\H b=some (.lst zs)/\xs.length+zs.length<=sizeLine/\Q .non (upd H l (.lst (xs++zs)))
noncomputable def rPop:V->List V->Hp->VK->Prop:=λx vs H Q=>∃ l xs y,x=.ref l/\vs=[]/\H l=some (.lst xs)/\xs[xs.length-1]?=some y/\Q y (upd H l (.lst xs.dropLast))
theorem ZbU{α:Type}(xs:List α)(k:Nat):(Wd k xs).flatten.length=k*xs.length:=by
 induction k with
 |zero=>simp
 |succ k ih=>rw[ul,xo,xf,ih,Nat.succ_mul,Nat.add_comm]
end
end L2
namespace Att
open PySem PySem.W PySem.Calls PyProof.Rows
theorem zac{P:Params}{h:Heap}:∀(ns:List Int)(vs:List Value),WellAll P h vs (ns.map WData.int)->IntsAre vs ns:=by
 intro ns
 induction ns with
 |nil =>
  intro vs w;rw[Xn] at w;cases w;exact .nil
 |cons n ns ih =>
  intro vs w;rw[xc] at w;cases w with
  |cons a b =>
   cases a;exact .cons _ _ (ih _ b)
theorem ybp{l:OpenLaw}{n:Nat}(hn:l.most=some n){P:Params}{h:Heap}{args:List WData}{vals:List Value}
  (hpre:l.row.toRowW.claim.pre args=true) (hwl:WellAll P h vals args) :
  ∃ a vs ns,vals=[Value.ref a]/\args=[WData.list (ns.map WData.int)]/\h.get? a=some {cls:=.type "list",data:=.seq vs.toArray}/\IntsAre vs ns/\ns.length<=n:=by
 have hsh:WShape.hasAll [] args [.list .int]=true:=(pre_splitW hpre).1;have hc:l.pre.holds [] {args:=args}=true:=(pre_splitW hpre).2;obtain⟨d,r,rfl,h1,h2⟩:=hasAllW_cons hsh;obtain rfl:=hasAllW_nil h2;obtain⟨xs,rfl,h3⟩:=hasW_list h1;obtain⟨ns,rfl⟩:=items_int h3;have hlen:ns.length<=n:=by
  unfold OpenLaw.pre at hc;have h4:(WTm.not (.lt (.lit (.int (n:Int))) (.len (.arg 0)))).holds [] {args:=[.list (ns.map .int)]}=true:=by
   have h4:=(holds_andW hc).1;rw[hn] at h4;exact h4
  have h5:=condW_of h4 (w_not (w_lt w_lit (w_len_list (w_arg rfl))));rw[Vd] at h5;refine Wr λq=>?_;have q':(n:Int)<((ns.length:Nat):Int):=by lia
  first
   |(rw[decide_eq_true q'] at h5;exact absurd h5 (by decide))
   |(simp at h5;lia)
 cases hwl with
 |cons w1 w2 =>
  cases w2;cases w1 with
  |list ho hall=>exact⟨_,_,ns,rfl,rfl,ho,zac ns _ hall,hlen⟩
theorem qbl(l:OpenLaw)(args:List WData):l.row.toRowW.claim.post args (.bool true) args=true :=
 postW_of (r:=l.row.toRowW) (X:=(true==true))
  (show WShape.has [] (.bool true) .bool=true by first|rfl|decide|simp[WShape.has,WShape.arms,WShape.armsAll])
  (show(WTm.eq .res (.lit (.bool true))).value [] {args:=args,res:=some (.bool true),after:=args}=some (.bool (true==true)) from w_eq_bool (w_res rfl) w_lit) rfl
theorem attach_call{l:OpenLaw}{n:Nat}{q:Program}{loose:List Str}{XP:(Str->Option Value)->Heap->Prop}{YP:World->Heap->Prop}{d:DefRec}
  (hn:l.most=some n) (hdf:d.params.defaults=[])
  (call:∀(w:World)(s₀ s₁:Shared)(mg mb:Str->Option Value)(fa:Addr)(o:Obj) (pm cd doc:Value) (a:Addr) (vs:List Value) (ns:List Int),
   Ground q loose [] XP w s₀ mg mb s₁.heap->YP w s₁.heap ->
   s₁.heap.get? fa=some o->o.data=.func (docDef d.name d.params d.body d.scope pm cd doc)->s₁.heap.CodeRec cd d.name->mg d.name=some (.ref fa) ->
   s₁.heap.get? a=some {cls:=.type "list",data:=.seq vs.toArray}->IntsAre vs ns->ns.length<=n->s₁.gens=#[] ->
   codeAny (model l.prog w) callerA (.call (.ref fa) ⟨[.ref a],[]⟩) (λr s'=>r=.ok (.ret (.bool true))/\OldK s₁.heap s'.heap/\s'.os=s₁.os/\AllBare s'.gens) s₁) :
  WalkO q loose XP YP l.row.toRowW d [] (λf vs=>PySem.call f vs):=by
 intro w s₀ s₁ mg mb G Y fa o pm cd doc dV kV ho hd hcd hD hmg hg args vals as hpre hlay hrd hwl hlo;obtain rfl:dV=.none:=Dflts.none hD hdf;obtain rfl:kV=.none:=Dflts.noKw hD;obtain⟨a,vs,ns,rfl,rfl,hobj,hints,hlen⟩:=ybp hn hpre hwl;refine enter_call (codeAny_mono (call w s₀ s₁ mg mb fa o pm cd doc a vs ns G Y ho (fd_plain hd) hcd hmg hobj hints hlen hg) λr s' hq=>?_);obtain⟨rfl,h2,h3,h4⟩:=hq;exact⟨.inl ⟨.bool true,.bool true,[],rfl,λ_=>rfl,.bool true,qbl l _,λ_=>⟨List.Pairwise.nil,λ_ hm=>(nomatch hm)⟩⟩,h2,h3,h4⟩
end Att
namespace L2
open PySem PySem.Spec PyProof.Rows
theorem Qau:∀{vs:List Value}{ns:List Int},IntsAre vs ns->Vals (ns.map V.int) vs
 |_,_,.nil=>.nil
 |_,_,.cons n t h=>.cons ⟨t,rfl⟩ (Qau h)
noncomputable def qbx(H:Hp):Prop:=∀ b,H b=none\/∃ o xs,H b=some (.frz o (.lst xs))
theorem QbB{P:Program}{w:World}{K:PySem.W.Frag}{mg mb:Str->Option Value}{CX:CXT}{k:Nat}{fa a:Addr}{fd:FuncData}{x:Str}{sp:Sp}{s₁:Shared}{vs:List Value}{ns:List Int}
  (KX:K.In s₁.heap) (hns:s₁.heap.Ns mainGlobals mg) (hb:s₁.heap.Ns builtinsNs mb) (hbb:∀ x:Str,x≠"__name__"->mb x=bootBuiltins x) (hlim:s₁.heap.NoLimit) (hg:s₁.gens=#[])
  (ha:s₁.heap.get? a=some {cls:=.type "list",data:=.seq vs.toArray}) (hi:IntsAre vs ns) (hl:ns.length<=sizeLine) (hr:Room k callerA)
  (F:∀ base:Heap,K.In base->base.Ns mainGlobals mg->FnOk P w K mg base CX k fa fd [x] sp) (hbind:∀(s:Shared)(u:Value),BindsTo s fd ⟨[u],[]⟩ [(x,u)])
  (hsp:∀ H:Hp,qbx H->SqL K H a (ns.map V.int)->sp [.ref a] H (λv _=>v=.bl true) λ_ _ _=>False)
  (hCX:∀ H e s',CX [] H s₁ (λ_ _ _=>False) e s'->False) :
  codeAny (model P w) callerA (.call (.ref fa) ⟨[.ref a],[]⟩) (λr s'=>r=.ok (.ret (.bool true))/\OldK s₁.heap s'.heap/\s'.os=s₁.os/\AllBare s'.gens) s₁:=by
 have rv:=Qau hi;have lenV:=hi.length
 -- from an abstract heap in which nothing but the script may be tracked
 have core:∀ H:Hp,qbx H->SqL K H a (ns.map V.int)->HOk P w H s₁.heap->(∀ b,H b≠none->b=a)->(H a≠none->K.lookup a=none) ->
   codeAny (model P w) callerA (.call (.ref fa) ⟨[.ref a],[]⟩) (λr s'=>r=.ok (.ret (.bool true))/\OldK s₁.heap s'.heap/\s'.os=s₁.os/\AllBare s'.gens) s₁:=by
  intro H hO hS hok hA hK;have base_of:∀{b:Addr}{o:Obj},s₁.heap.get? b=some o->H b=none->(qaD s₁.heap H).get? b=some o:=λe n=>YbA e n;have noA:∀{b:Addr}{o:Obj}{es:Array DictEntry}{ep:Nat},s₁.heap.get? b=some o->o.data=.dict es ep->H b=none:=λ{b o es ep} e d=>by
   cases q:H b with
   |none=>rfl
   |some u =>
    have e':b=a:=hA b (by rw[q];simp);subst e';rw[ha] at e;cases e;have d':Data.seq vs.toArray _=Data.dict es ep:=d;cases d'
  have nsK:∀{b:Addr}{m:Str->Option Value},s₁.heap.Ns b m->(qaD s₁.heap H).Ns b m:=λ{b m} ⟨o,es,ep,e,d,r⟩=>⟨o,es,ep,base_of e (noA e d),d,r⟩;have hKb:K.In (qaD s₁.heap H):=λb o e=>base_of (KX b o e) (by
   cases q:H b with
   |none=>rfl
   |some u =>
    have e':b=a:=hA b (by rw[q];simp);subst e';rw[hK (by rw[q];simp)] at e;cases e)
  have hM:Mod K mg (qaD s₁.heap H):=⟨hKb,nsK hns,⟨mb,nsK hb,hbb⟩,let ⟨mc,h1,h2⟩:=hlim;⟨mc,nsK h1,h2⟩⟩;have e0:Env0 P w K mg (qaD s₁.heap H) callerA [] s₁ H:=⟨rfl,hM,λb o e=>ZbV e,Vl (Qbr _ _),trivial,λb hb=>absurd (show b∈([]:List Addr) from hb) (by simp),hok,.of_eq hg⟩;refine codeAny_mono ((F _ hKb (nsK hns)).run callerA [] s₁ H ⟨[.ref a],[]⟩ [.ref a] [.ref a] _ _ hr e0 (hbind s₁ (.ref a)) (.cons rfl .nil) (hsp H hO hS)) λr s' h=>?_;cases r with
  |error e=>exact(hCX H e s' h).elim
  |ok fl =>
   cases fl with
   |next=>exact False.elim h
   |brk=>exact False.elim h
   |cont=>exact False.elim h
   |ret u =>
    obtain⟨v,H',os,bare,un,hok',r',q⟩:=h;have q':v=.bl true:=q;subst q';obtain rfl:u=Value.bool true:=r';refine⟨rfl,OldK.of_keep λb o e=>?_,os,bare⟩;cases q:H b with
    |none=>exact un.keep b o e q (by intro z;exact absurd (show b∈([]:List Addr) from z) (by simp)) (by simp)
    |some u =>
     rcases hO b with z|⟨ob,xs,z⟩
     ·rw[q] at z;cases z
     ·have z2:=un.frzs b ob _ z;obtain⟨e1,_⟩:=hok b _ z;obtain⟨e2,_⟩:=hok' b _ z2;rw[e] at e1;cases e1;exact e2
 cases hk:K.lookup a with
 |some o =>
  -- the script is one of the module's own objects
  have e:=KX a o hk;rw[ha] at e;cases e;refine core (λ_=>none) (λ_=>.inl rfl) (.inr ⟨_,vs.toArray,_,hk,rfl,rfl,rfl,by rw[vb,lenV];exact hl,by simpa using rv⟩) (λb u z=>by have z':(none:Option HO)=some u:=z;cases z') (λb z=>absurd rfl z) λz=>absurd rfl z
 |none =>
  refine core (λb=>if b=a then some (.frz {cls:=.type "list",data:=.seq vs.toArray} (.lst (ns.map V.int))) else none) (λb=>?_) (.inl (.inr ⟨{cls:=.type "list",data:=.seq vs.toArray},if_pos rfl⟩)) (λb u z=>?_) (λb z=>?_) λ_=>hk
  ·by_cases hb:b=a
   ·exact .inr ⟨_,_,if_pos hb⟩
   ·exact .inl (if_neg hb)
  ·by_cases hb:b=a
   ·have z':=(if_pos hb).symm.trans z;cases z';subst hb;exact⟨ha,by rw[Vd];exact hl,vs,_,rv,ha⟩
   ·have z':=(if_neg hb).symm.trans z;cases z'
  ·by_cases hb:b=a
   ·exact hb
   ·exact absurd (if_neg hb) z
theorem walk_of{l:PySem.W.OpenLaw}{n k:Nat}{q:Program}{loose:List Str}{XP:(Str->Option Value)->Heap->Prop}{YP:World->Heap->Prop}{d:DefRec}{K:Params->PySem.W.Frag}{CX:World->CXT}{sp:World->Sp}{x:Str}
  (hn:l.most=some n) (hn2:n<=sizeLine) (hdf:d.params.defaults=[]) (hr:Room k callerA)
  (hY:∀(w:World)(h:Heap),YP w h->(K w.params).In h)
  (F:∀(w:World)(mg:Str->Option Value)(fa:Addr)(h:Heap),(K w.params).In h->h.Ns mainGlobals mg->mg d.name=some (.ref fa) ->
   ∃ fd:FuncData,(∀(s:Shared)(u:Value),BindsTo s fd ⟨[u],[]⟩ [(x,u)]) /\
    ∀ base:Heap,(K w.params).In base->base.Ns mainGlobals mg->FnOk l.prog w (K w.params) mg base (CX w) k fa fd [x] (sp w))
  (hsp:∀(w:World)(H:Hp)(a:Addr)(ns:List Int),ns.length<=n->qbx H->SqL (K w.params) H a (ns.map V.int)->sp w [.ref a] H (λv _=>v=.bl true) λ_ _ _=>False)
  (hCX:∀(w:World)(H:Hp)(s:Shared)(e:Value)(s':Shared),CX w [] H s (λ_ _ _=>False) e s'->False) :
  PySem.W.WalkO q loose XP YP l.row.toRowW d [] (λf vs=>PySem.call f vs):=by
 refine Att.attach_call hn hdf λw s₀ s₁ mg mb fa o pm cd doc a vs ns G Y ho hd hcd hmg hobj hints hlen hg=>?_;have KX:=hY w _ Y;obtain⟨fd,hb,hF⟩:=F w mg fa _ KX G.T.g hmg;exact QbB KX G.T.g G.T.b G.T.builtins G.T.nolimit hg hobj hints (Xe hlen hn2) hr hF hb (λH hO hS=>hsp w H a ns hlen hO hS) λH e s'=>hCX w H s₁ e s'
noncomputable def yaA(s:Stmt)(j:Nat):Stmt:=match s with
 |.ClassDef _ _ _ body _ _ _ _ _ _ _=>body.getD j (.Pass ⟨0,0,0,0⟩)
 |_=>.Pass ⟨0,0,0,0⟩
noncomputable def Zl(s:Stmt):Arguments:=match s with
 |.FunctionDef _ a _ _ _ _ _ _ _ _=>a
 |_=>{posonlyargs:=[],args:=[],vararg:=none,kwonlyargs:=[],kw_defaults:=[],kwarg:=none,defaults:=[]}
noncomputable def yg(s:Stmt):List Stmt:=match s with
 |.FunctionDef _ _ b _ _ _ _ _ _ _=>b
 |_=>[]
noncomputable def Zc(s:Stmt):Scope:=match s with
 |.FunctionDef _ _ _ _ _ _ sc _ _ _=>sc
 |_=>{kind:=.function,names:=[],isGenerator:=false,isCoroutine:=false}
noncomputable abbrev CX0:CXT:=λ_ _ _ _ _ _=>False
noncomputable abbrev E0:XK:=λ_ _ _=>False
structure Fun (K:PySem.W.Frag) (x qual:Str) (st:Stmt) (f:Addr) (fd:FuncData):Prop where
 ex:∃(oc:Value)(od:Option Addr)(kV doc pm:Value)(an:Option Addr)(cdv ct:Value) (osl:Array (Option Value)),
  fd=vg x qual (Zl st) (yg st) (Zc st) .none kV doc pm an cdv ct/\K.lookup f=some ⟨oc,od,.func fd,osl⟩/\Uk K cdv qual=true
 kp:Xg K (.ref f)=true
section
variable {P:Program} {w:World} {K:PySem.W.Frag} {mg:Str->Option Value} {base:Heap}
theorem Fun.binds{x qual:Str}{st:Stmt}{f:Addr}{fd:FuncData}{ps:List Str}(F:Fun K x qual st f fd)
  (h:∀(kV doc pm:Value)(an:Option Addr)(cdv ct:Value)(us:List Value),us.length=ps.length->bindArgs (vg x qual (Zl st) (yg st) (Zc st) .none kV doc pm an cdv ct) ⟨us,[]⟩=pure (ps.zip us)):Binds K fd ps []:=by
 obtain⟨oc,od,kV,doc,pm,an,cdv,ct,osl,rfl,lk,hcd⟩:=F.ex;exact .all (h kV doc pm an cdv ct)
theorem QaE{x qual:Str}{st:Stmt}{f:Addr}{oc:Value}{od an:Option Addr}{osl:Array (Option Value)}{kV doc pm cdv ct:Value}(l:K.lookup f=some ⟨oc,od,.func (vg x qual (Zl st) (yg st) (Zc st) .none kV doc pm an cdv ct),osl⟩)
  (c:Uk K cdv qual=true) (k:Xg K (.ref f)=true):Fun K x qual st f (vg x qual (Zl st) (yg st) (Zc st) .none kV doc pm an cdv ct):=⟨⟨oc,od,kV,doc,pm,an,cdv,ct,osl,rfl,l,c⟩,k⟩
end
noncomputable def Same(H H':Hp):Prop:=∀ b o,H b=some o->H' b=some o
theorem kV_is{P:Program}{w:World}{k:Key}{u:Value}(r:RelV (kV k) u):(Ym P w).is k u=true:=by
 cases k with
 |inl i=>obtain⟨t,e⟩:=(show ∃ t,u=Value.int i t from r);subst e;exact qaT P w i t
 |inr x=>obtain⟨t,e⟩:=(show ∃ t,u=Value.str x t from r);subst e;exact zaK P w x t
theorem zax{P:Program}{w:World}:∀{ks:List Key}{us:List Value},Vals (ks.map kV) us->ItemsAre (Ym P w) ks us
 |[],_,r=>by rw[Xn] at r;cases r;exact .nil
 |k::ks,_,r=>by
  rw[xc] at r;cases r with
  |cons h t=>exact .cons (kV_is h) (zax t)
section
variable {P:Program} {w:World} {H:Hp} {h:Heap} {a:Addr}
theorem ycq{ks:List Key}(ok:HOk P w H h)(e:H a=some (.tup (ks.map kV))):(tupleKind (Ym P w)).is h ks a:=by
 obtain⟨_,its,r,o,h1,h2,n,h3⟩:=(show ObjOk P w H h a (.tup (ks.map kV)) from ok a _ e);exact⟨o,its.toArray,n,h1,h2,h3,by simpa using zax r⟩
end
structure M1 (X:Cx) (o:Expr) (m:Str) (apos:Pos) (e:Expr) (cpos:Pos):Prop where
 base:attributeBase o m X.env (eval o X.env)=eval o X.env
 few:((backTo cpos (starEach [e] X.env)).all (λx=>!x.1)&&(backToKw cpos (keywordEach [] X.env)).all (λx=>x.1.isSome)
  && decide (([e]:List Expr).length+([]:List Keyword).length+(if([]:List Keyword).isEmpty then 0 else 1)<30))=true
 line:(apos.endLine==cpos.line)=true
 trees:backTo cpos (starEach [e] X.env)=[(false,eval e X.env)]
end L2
end
section
namespace M3
open PySem
open Sem (wp)
noncomputable def qd(env:Env):List (Str×NameKind)->List (Str×Addr)->List (Str×Addr)
 |[],cs=>cs
 |(n,k)::r,cs=>qd env r (if(k == .free)=true then(n,(env.cells.lookup n).getD 0)::cs else cs)
theorem Zai(env:Env):∀(names:List (Str×NameKind)) (cs:List (Str×Addr)),(∀ y∈names,y.2=.free->∃ c,env.cells.lookup y.1=some c) ->
  (forIn names cs λ(y:Str×NameKind)(r:List (Str×Addr))=>if(y.2 == .free)=true then do let c<-cellOf env y.1;pure (ForInStep.yield ((y.1,c)::r)) else pure (ForInStep.yield r):Sem (List (Str×Addr)))=pure (qd env names cs)
 |[],cs,_=>rfl
 |(n,k)::r,cs,h=>by
  have ih:=λcs'=>Zai env r cs' λy hy=>h y (Ve _ hy);rw[Xw];by_cases hk:(k == .free)=true
  ·obtain⟨c,e⟩:=h (n,k) uh (by simpa using hk);have e':cellOf env n=pure c:=by unfold cellOf;rw[e]
   show(if(k == .free)=true then _ else _) >>= _=_;rw[if_pos hk];show(cellOf env n >>= λc=>_) >>= _=_;rw[e'];show(forIn r ((n,c)::cs) _:Sem _)=_;rw[ih];show _=pure (qd env r (if(k == .free)=true then(n,(env.cells.lookup n).getD 0)::cs else cs));rw[if_pos hk,e];rfl
  ·show(if(k == .free)=true then _ else _) >>= _=_;rw[if_neg hk];show(forIn r cs _:Sem _)=_;rw[ih];show _=pure (qd env r (if(k == .free)=true then(n,(env.cells.lookup n).getD 0)::cs else cs));rw[if_neg hk]
theorem zal{env:Env}{scope:Scope}(h:∀ y∈scope.names,y.2=.free->∃ c,env.cells.lookup y.1=some c):closureFor scope env=pure (qd env scope.names []):=by
 have q:=Zai env scope.names [] h;unfold closureFor;have e:∀(t:Sem (List (Str×Addr))),t=pure (qd env scope.names [])->(t >>= λr=>pure r)=pure (qd env scope.names []):=λt z=>by rw[z];rfl
 refine e _ (Eq.trans ?_ q)
 congr 1
end M3
end
section
namespace M3
open PySem
open Sem (wp)
section
variable {prog:Program} {w:World} {A:Around} {R:Result->Shared->Prop} {s:Shared}
noncomputable abbrev Qb4(ifs:List Expr)(env:Env):Sem Bool:=forIn ifs true λc r=>if r=true then do let ok<-isTrue c env (eval c env);pure (ForInStep.yield ok) else pure (ForInStep.yield r)
theorem Zbm{elt target iter:Expr}{ifs:List Expr}{scope:Scope}{pos:Pos}{it acc:Value}{env:Env}(I:Nat->Shared->Prop)
  (turn:∀ n s,I n s->wpAny (model prog w) A (pyNext it) (λr s1=>match r with
   |none=>R (.ok .next) s1
   |some v=>wpAny (model prog w) A (letOwnedTupleGo target it v) (λ_ s2=>wpAny (model prog w) A (assign target env v) (λ_ s3 =>
     wpAny (model prog w) A (Qb4 ifs env) (λok s4=>if ok=true then wpAny (model prog w) A (eval elt env) (λx s5 =>
       wpAny (model prog w) A (call (.builtin "list.append") [acc,x]) (λ_ s6=>∃ m,m<n/\I m s6) (λ_ _=>False) s5) (λ_ _=>False) s4
      else ∃ m,m<n/\I m s4) (λ_ _=>False) s3) (λ_ _=>False) s2) (λ_ _=>False) s1) (λ_ _=>False) s)
  (n:Nat) (h:I n s):codeAny (model prog w) A (.compLoop (.ListComp elt [⟨target,iter,ifs,0⟩] scope pos) 0 it acc env) R s:=by
 refine codeAny_loop rfl I (λn s hI=>?_) n h;show wpAny _ A ((compTurn (.ListComp elt [⟨target,iter,ifs,0⟩] scope pos) 0 it acc env).onRaise (λx=>do noteFrame x env;theTreesLotGoes x)) _ _ s;refine wpAny_noted ?_;rw[compTurn_list];refine wpAny_bind (wpAny_standAt (wpAny_bind (wpAny_mono (turn n s hI) (λr s1 h1=>?_) λ_ _ z=>z.elim)));cases r with
 |none=>exact wpAny_pure h1
 |some v =>
  refine wpAny_bind (wpAny_mono h1 (λ_ s2 h2=>?_) λ_ _ z=>z.elim);refine wpAny_bind (wpAny_mono h2 (λ_ s3 h3=>wpAny_bind (wpAny_mono h3 (λok s4 h4=>?_) λ_ _ z=>z.elim)) λ_ _ z=>z.elim);cases ok with
  |false=>exact wpAny_pure ⟨rfl,h4⟩
  |true =>
   refine wpAny_bind (wpAny_bind (wpAny_mono h4 (λx s5 h5=>?_) λ_ _ z=>z.elim));exact wpAny_bind (wpAny_mono h5 (λ_ s6 h6=>wpAny_pure (wpAny_pure ⟨rfl,h6⟩)) λ_ _ z=>z.elim)
end
noncomputable abbrev yh(C t:Addr)(tb:Value)(d:Option Addr:=none):Obj:={cls:=.ref C,dict:=d,data:=.fields #[.ref t,tb,.none,.none,.bool false,.none]}
inductive Tb (h:Heap) (x:Addr):Value->Prop where
 |no:Tb h x .none
 |at {T:Addr} {o:Obj} {ts:Array Value} (ne:T≠x) (ho:h.get? T=some o) (hd:o.data=.fields ts) (h3:ts[3]?=some .none):Tb h x (.ref T)
structure Noted (fs:List Addr) (x:Addr) (tb:Value) (h h':Heap):Prop where
 keep:∀ b o,b∉fs->b≠x->Value.ref b≠tb->h.get? b=some o->h'.get? b=some o
 slot:∀ b o,b∈fs->b≠x->Value.ref b≠tb->h.get? b=some o->∃ sl,h'.get? b=some {o with slots:=sl}
section
variable {M:Model} {A:Around} {E:Value->Shared->Prop} {s:Shared}
theorem qE{base:Heap}{env:Env}{outer:List Env}{L x C t:Addr}{d:Option Addr}{head tb0:Value}{had:Bool}{Q:Unit->Shared->Prop}
  (hfr:A.frames=some (env::outer)) (hl:s.heap.FunFrames base (env::outer)) (hf:env.frame=some L) (he:s.heap.get? x=some (yh C t tb0 d))
  (h:∀ h' T,(∀ b o,b∉(env::outer).filterMap (·.frame)->b≠x->s.heap.get? b=some o->h'.get? b=some o) ->
   (∀ b o,b∈(env::outer).filterMap (·.frame)->s.heap.get? b=some o->∃ sl,h'.get? b=some {o with slots:=sl}) ->
   h'.get? x=some (yh C t (.ref T) d)->Tb h' x (.ref T)->s.heap.objs.size<=T->Q () {s with heap:=h'}) :
  wpAny M A (do let a<-frameOf env;let pl<-entryPlaceOf L had;let b<-EntryCells.newEntry head a .none (rawInt L) .none pl;setField (.ref x) 1 b) (λ_ s'=>wpAny M A (setFlight (.ref x) none) Q E s') E s:=by
 have hx:x∉(env::outer).filterMap (·.frame):=λhm=>by
  obtain⟨_,o,ho,nf⟩:=hl.mem hm;rw[he] at ho;cases ho;exact nf _ rfl
 refine wpAny_bind (wpAny_frameOf_fun hfr hl hf λh1 k1=>?_);refine wpAny_bind (wpAny_entryPlaceOf λpl hpl=>?_);unfold EntryCells.newEntry newFields;refine wpAny_bind (wpAny_newObj_type ?_ (hpl.sizeOk5 _ _ _ _ _));generalize hcells:([head,Value.ref L,Value.none,rawInt L,Value.none]++(if pl.isEmpty=true then Wd 6 Value.none else pl))=cells;have len:3<cells.length:=by rw[<- hcells];simp only[xf,ue,Vr];lia
 have e1:h1.get? x=some (yh C t tb0 d):=(k1.2.1 x hx).trans he;have e2:=wa {cls:=.type "traceback",dict:=none,data:=.fields cells.toArray} e1;have neT:x≠h1.objs.size:=Vb (ua e1);refine wpAny_setField e2 rfl (by simp) ?_;have e3:=xj (Obj.mapFields (·.setIfInBounds 1 (Value.ref h1.objs.size))) e2 (Obj.isFreed_of_fields (Obj.data_mapFields rfl _));have e4:((h1.push {cls:=.type "traceback",dict:=none,data:=.fields cells.toArray}).update x (Obj.mapFields (·.setIfInBounds 1 (Value.ref h1.objs.size)))).get? h1.objs.size=some {cls:=.type "traceback",dict:=none,data:=.fields cells.toArray} :=
  (uf _ _ neT).trans (Wb h1 rfl)
 unfold setFlight;refine wpAny_bind (wpAny_field e3 (vs:=#[.ref t,.ref h1.objs.size,.none,.none,.bool false,.none]) (x:=.ref h1.objs.size) rfl rfl ?_);rw[if_pos (show(Value.ref h1.objs.size != Value.none)=true from by simp)];refine wpAny_setField e4 rfl (by simpa using len) ?_;have e5:=xj (Obj.mapFields (·.setIfInBounds 3 ((none:Option Addr).elim Value.none λf=>rawInt f))) e4 (Obj.isFreed_of_fields (Obj.data_mapFields rfl _));have sz:h1.objs.size=s.heap.objs.size:=k1.1;have other:∀ b o,b≠x->h1.get? b=some o->(((h1.push {cls:=.type "traceback",dict:=none,data:=.fields cells.toArray}).update x (Obj.mapFields (·.setIfInBounds 1 (Value.ref h1.objs.size)))).update h1.objs.size (Obj.mapFields (·.setIfInBounds 3 ((none:Option Addr).elim Value.none λf=>rawInt f)))).get? b=some o:=λb o nb eb=>by
  rw[uf _ _ (Ul (ua eb)),uf _ _ (Ne.symm nb)];exact wa _ eb
 refine h _ h1.objs.size (λb o hb nb eb=>other b o nb ((k1.2.1 b hb).trans eb)) (λb o hb eb=>?_) ?_ (.at (Ne.symm neT) e5 (Obj.data_mapFields rfl _) ?_) (Vl sz.symm)
 ·obtain⟨sl,q⟩:=k1.2.2 b o eb;exact⟨sl,other b _ (λz=>hx (z ▸ hb)) q⟩
 ·rw[uf _ _ (Ne.symm neT)];exact e3
 ·simp[Array.getElem?_setIfInBounds,len]
theorem Ybn{base:Heap}{env:Env}{outer:List Env}{L x C t:Addr}{d:Option Addr}{tb:Value}{Q:Unit->Shared->Prop}
  (hfr:A.frames=some (env::outer)) (hl:s.heap.FunFrames base (env::outer)) (hf:env.frame=some L) (he:s.heap.get? x=some (yh C t tb d)) (ht:Tb s.heap x tb)
  (h:∀ h' T,Noted ((env::outer).filterMap (·.frame)) x tb s.heap h'->h'.get? x=some (yh C t (.ref T) d)->Tb h' x (.ref T)->s.heap.objs.size<=T->Q () {s with heap:=h'}) :
  wpAny M A (leaving env (.ref x)) Q E s:=by
 unfold leaving noteFrame;simp only[hf];refine wpAny_bind (wpAny_bind (wpAny_field he rfl (x:=tb) rfl ?_));cases ht with
 |no =>
  rw[if_neg (by decide)];exact qE hfr hl hf he λh' T k1 k2 e1 e2 e3=>h h' T ⟨λb o hb nb _ eb=>k1 b o hb nb eb,λb o hb _ _ eb=>k2 b o hb eb⟩ e1 e2 e3
 |@«at» T o ts ne ho hd h3 =>
  rw[if_pos (show(Value.ref T != Value.none)=true from by simp)];refine wpAny_bind (wpAny_field ho hd h3 ?_);rw[if_neg (show ¬((Value.none==rawInt L)=true) from by simp[rawInt])];refine wpAny_bind (wpAny_setField ho hd (vo.mp h3).1 ?_);have other:∀ b,b≠T->(s.heap.update T (Obj.mapFields (·.setIfInBounds 3 Value.none))).get? b=s.heap.get? b:=λb nb=>uf _ _ (Ne.symm nb);have nrec:∀ b o,s.heap.get? b=some o->(∀ vs,o.data≠.fields vs)->b≠T:=λb o eb nf z=>by
   rw[z,ho] at eb;cases eb;exact nf ts hd
  refine qE (s:={s with heap:=s.heap.update T (Obj.mapFields (·.setIfInBounds 3 Value.none))}) hfr (hl.of_keeps λb o eb nf=>⟨o,(other b (nrec b o eb nf)).trans eb,rfl⟩) hf ((other x (Ne.symm ne)).trans he)
   λh' T' k1 k2 e1 e2 e3=>h h' T' ⟨λb o hb nb nt eb=>k1 b o hb nb ((other b λz=>nt (z ▸ rfl)).trans eb),λb o hb _ nt eb=>k2 b o hb ((other b λz=>nt (z ▸ rfl)).trans eb)⟩ e1 e2 ?_
  have e3':(s.heap.update T (Obj.mapFields (·.setIfInBounds 3 Value.none))).objs.size<=T':=e3;rw[vw] at e3';exact e3'
end
end M3
end
section
namespace M3
open PySem
open Sem (wp)
end M3
end
section
namespace M3
open PySem
open Sem (wp)
section
variable {prog:Program} {w:World} {A:Around} {E:Value->Shared->Prop} {s:Shared}
theorem qV{r l:Addr}{i:Nat}{items:Array Value}{x:Value}{Q:Value->Shared->Prop}(ri:s.heap.IsTupleIter r l i)(hl:s.heap.IsTuple l items)(hx:items[i]?=some x)
  (hQ:∀ h',h'.IsTupleIter r l (i+1)->Heap.SameBut r s.heap h'->Q x {s with heap:=h'}):wpAny (model prog w) A (Builtin.SmallTypes.nextOf (.ref r)) Q E s:=by
 obtain⟨o,ho,hc,hd⟩:=id ri;obtain⟨ol,hol,_,nl,hdl⟩:=hl;unfold Builtin.SmallTypes.nextOf;apply wpAny_bind;refine wpAny_callSpecial?_slot (name:=Str.ofString "__next__") ri.typeIs F.slot_tuple_iterator_next (wpAny_call_entry F.slot_tuple_iterator_next ri.typeIs F.entry_tuple_iterator_next ?_ (F.args_tuple_iterator_next_1 _));show wpAny _ _ (field (.ref r) 0 >>= _) _ _ s;apply wpAny_bind;apply wpAny_field ho hd (x:=.ref l) rfl;show wpAny _ _ (if(Value.ref l==Value.none)=true then _ else _) _ _ s;rw[if_neg (λz:(Value.ref l==Value.none)=true=>absurd z Wh)];show wpAny _ _ (field (.ref r) 1 >>= _) _ _ s;apply wpAny_bind;apply wpAny_field ho hd (x:=.int i 0) rfl;show wpAny _ _ (seqItems? (.ref l) >>= _) _ _ s;apply wpAny_bind;apply wpAny_seqItems hol hdl;simp only[wB,hx];apply wpAny_bind;refine wpAny_setField ho hd (by simp) (wpAny_pure ⟨x,rfl,wpAny_pure (hQ _ ⟨_,xj _ ho (Obj.isFreed_of_fields (Obj.data_mapFields hd _)),(Obj.cls_mapFields ..).trans hc,?_⟩ (Heap.SameBut.update ..))⟩);rw[Obj.data_mapFields hd];simp[rawInt]
theorem Y0{r l:Addr}{i:Nat}{items:Array Value}{Q:Value->Shared->Prop}(hh:A.handled=none)(ri:s.heap.IsTupleIter r l i)(hl:s.heap.IsTuple l items)(hx:items[i]?=none)
  (hE:∀ h' e,Heap.ExtBut r s.heap h'->(∃ o,h'.get? e=some o/\o.cls=.type "StopIteration")->E (.ref e) {s with heap:=h'}):wpAny (model prog w) A (Builtin.SmallTypes.nextOf (.ref r)) Q E s:=by
 obtain⟨o,ho,hc,hd⟩:=id ri;obtain⟨ol,hol,_,nl,hdl⟩:=hl;unfold Builtin.SmallTypes.nextOf;apply wpAny_bind;refine wpAny_callSpecial?_slot (name:=Str.ofString "__next__") ri.typeIs F.slot_tuple_iterator_next (wpAny_call_entry F.slot_tuple_iterator_next ri.typeIs F.entry_tuple_iterator_next ?_ (F.args_tuple_iterator_next_1 _));show wpAny _ _ (field (.ref r) 0 >>= _) _ _ s;apply wpAny_bind;apply wpAny_field ho hd (x:=.ref l) rfl;show wpAny _ _ (if(Value.ref l==Value.none)=true then _ else _) _ _ s;rw[if_neg (λz:(Value.ref l==Value.none)=true=>absurd z Wh)];show wpAny _ _ (field (.ref r) 1 >>= _) _ _ s;apply wpAny_bind;apply wpAny_field ho hd (x:=.int i 0) rfl;show wpAny _ _ (seqItems? (.ref l) >>= _) _ _ s;apply wpAny_bind;apply wpAny_seqItems hol hdl;simp only[wB,hx];apply wpAny_bind;apply wpAny_rule;apply wpAny_bind;refine wpAny_setField ho hd (by simp) ?_;show wpAny _ _ (newExc (.type "StopIteration") [] >>= _) _ _ _;apply wpAny_bind;simp only[newExc,newTuple];apply wpAny_bind;refine wpAny_newObj_type ?_ (by size_fits);refine wpAny_bind (m:=firstArgMember _ _) (wpAny_of_eq (a:=Value.none) (by first|rfl|(unfold firstArgMember;rfl)) (wpAny_newObj_type ?_ (by size_fits)));refine wpAny_raiseNew_none (by first|exact hh|(show A.in1.handled=_;exact hh)) (hE _ _ ((((Heap.SameBut.update ..).extBut).push _).push _) ⟨_,Wb _ rfl,rfl⟩)
theorem za1(hh:A.handled=none)(r l:Addr)(hne:l≠r)(items:Array Value) :
  Draws prog w A r [r,l] items.size (λi v=>items[i]?=some v) (λi h=>h.IsTupleIter r l i/\h.IsTuple l items) where
 live:=λ_ _ st=>let ⟨o,ho,_⟩:=st.1;⟨o,ho⟩
 frame:=λ_ _ _ st hk=>let ⟨⟨o,e,c⟩,⟨u,f,d⟩⟩:=st;⟨⟨o,hk r (by simp) o e,c⟩,⟨u,hk l (by simp) u f,d⟩⟩
 item:=λi s Q E hi st hQ=>qV st.1 st.2 (x:=items[i]) (by simp[hi]) λh' a b=>hQ _ h' s.toks (by simp[hi]) ⟨a,let ⟨u,f,d⟩:=st.2;⟨u,b.extBut l u hne f,d⟩⟩ b
 done:=λs Q E st hE=>Y0 hh st.1 st.2 (by simp) hE
structure ZAp (z TI TO i1 i2:Addr) (fp1 fp2:List Addr):Prop where
 tiz:TI≠z
 toz:TO≠z
 tito:TI≠TO
 ti1:TI≠i1
 ti2:TI≠i2
 z1:z∉fp1
 z2:z∉fp2
 t1:TO∉fp1
 t2:TO∉fp2
 m1:i1∈fp1
 m2:i2∈fp2
 a1:i1∉fp2
 a2:i2∉fp1
variable {z TI TO i1 i2:Addr} {fp1 fp2:List Addr} {n1 n2 k:Nat} {P1 P2:Nat->Value->Prop} {S1 S2:Nat->Heap->Prop} {a b:Value}
theorem zbp{Q:Value->Shared->Prop}(Z:ZAp z TI TO i1 i2 fp1 fp2)(D1:Draws prog w A i1 fp1 n1 P1 S1)(D2:Draws prog w A i2 fp2 n2 P2 S2)(hz:IsZip s.heap z TI TO .none)(hI:IsPair s.heap TI (.ref i1) (.ref i2))(hO:IsPair s.heap TO a b)
  (s1:S1 k s.heap) (s2:S2 k s.heap) (k1:k<n1) (k2:k<n2)
  (hQ:∀ x y h' tk,P1 k x->P2 k y->IsZip h' z TI TO (rawInt s.heap.objs.size)->IsPair h' TO x y->S1 (k+1) h'->S2 (k+1) h'->IsPair h' s.heap.objs.size x y->h'.objs.size=s.heap.objs.size+1 ->
   (∀ c o,c≠z->c≠TO->c≠i1->c≠i2->s.heap.get? c=some o->h'.get? c=some o)->Q (.ref s.heap.objs.size) {s with heap:=h',toks:=tk}) :
  wpAny (model prog w) A (Builtin.«zip.__next__» ⟨[.ref z],[]⟩) (λfin s'=>∃ v,fin=.done (.ret v)/\Q v s') E s:=by
 have iz1:i1≠z:=λe=>Z.z1 (e ▸ Z.m1);have iz2:i2≠z:=λe=>Z.z2 (e ▸ Z.m2);have it1:i1≠TO:=λe=>Z.t1 (e ▸ Z.m1);have it2:i2≠TO:=λe=>Z.t2 (e ▸ Z.m2);have i12:i1≠i2:=λe=>Z.a1 (e ▸ Z.m2);show wpAny _ _ (field (.ref z) 2 >>= _) _ _ _;apply wpAny_bind;apply wpAny_field hz rfl (x:=.bool false) rfl;show wpAny _ _ (field (.ref z) 3 >>= _) _ _ _;apply wpAny_bind;apply wpAny_field hz rfl (x:=.ref TI) rfl;apply wpAny_bind;apply wpAny_seqItems hI rfl;show wpAny _ _ (Builtin.SmallTypes.ownedTupleIsFree (.ref z) >>= _) _ _ _;apply wpAny_bind;unfold Builtin.SmallTypes.ownedTupleIsFree;apply wpAny_bind;apply wpAny_field hz rfl (x:=.none) rfl;apply wpAny_pure;simp only[if_true];apply wpAny_bind;apply wpAny_rule;apply wpAny_bind;apply wpAny_field hz rfl (x:=.ref TO) rfl;apply wpAny_bind;refine wpAny_setField_rec hz (by simp) λh1 y1 g1=>?_;replace y1:IsZip h1 z TI TO .ellipsis:=y1;apply wpAny_bind;simp only[UB,List.zipIdx_nil,Xw,List.forIn_nil];apply wpAny_bind;apply wpAny_bind;apply wpAny_onRaise;show wpAny _ _ (Builtin.SmallTypes.nextOf (.ref i1) >>= _) _ _ _;apply wpAny_bind;refine D1.item k _ _ _ k1 (D1.frame _ _ _ s1 λc hc o e=>g1.extBut c o (λq=>Z.z1 (q ▸ hc)) e) λx h2 t2 px q2 g2=>wpAny_pure ?_;have o2:IsPair h2 TO a b:=g2.extBut _ _ (Ne.symm it1) (g1.extBut _ _ Z.toz hO);apply wpAny_bind;apply wpAny_seqItems o2 rfl;apply wpAny_bind;refine wpAny_updateSeq_pair o2 λh3 o3 g3=>wpAny_bind (wpAny_letGo (wpAny_pure ?_));replace o3:IsPair h3 TO x b:=o3;apply wpAny_bind;apply wpAny_bind;apply wpAny_onRaise;show wpAny _ _ (Builtin.SmallTypes.nextOf (.ref i2) >>= _) _ _ _;apply wpAny_bind;refine D2.item k _ _ _ k2 (D2.frame _ _ _ s2 λc hc o e=>g3.extBut c o (λq=>Z.t2 (q ▸ hc)) (g2.extBut c o (λq=>Z.a1 (q ▸ hc)) (g1.extBut c o (λq=>Z.z2 (q ▸ hc)) e))) λy h4 t4 py q4 g4=>wpAny_pure ?_;have o4:IsPair h4 TO x b:=g4.extBut _ _ (Ne.symm it2) o3;apply wpAny_bind;apply wpAny_seqItems o4 rfl;apply wpAny_bind;refine wpAny_updateSeq_pair o4 λh5 o5 g5=>wpAny_bind (wpAny_letGo (wpAny_pure (wpAny_pure ?_)));replace o5:IsPair h5 TO x y:=o5;apply wpAny_bind;apply wpAny_seqItems o5 rfl;apply wpAny_bind;refine wpAny_newTuple ?_;have sz:h5.objs.size=s.heap.objs.size:=by rw[g5.1,g4.1,g3.1,g2.1,g1.1]
 have y5:IsZip h5 z TI TO .ellipsis:=g5.extBut _ _ (Ne.symm Z.toz) (g4.extBut _ _ (Ne.symm iz2) (g3.extBut _ _ (Ne.symm Z.toz) (g2.extBut _ _ (Ne.symm iz1) y1)));have c5:∀ c o,c≠z->c≠TO->c≠i1->c≠i2->s.heap.get? c=some o->h5.get? c=some o:=λc o c1 c2 c3 c4 e=>g5.extBut _ _ c2 (g4.extBut _ _ c4 (g3.extBut _ _ c2 (g2.extBut _ _ c3 (g1.extBut _ _ c1 e))));have r1:S1 (k+1) h5:=D1.frame _ _ _ q2 λc hc o e=>g5.extBut c o (λq=>Z.t1 (q ▸ hc)) (g4.extBut c o (λq=>Z.a2 (q ▸ hc)) (g3.extBut c o (λq=>Z.t1 (q ▸ hc)) e));have r2:S2 (k+1) h5:=D2.frame _ _ _ q4 λc hc o e=>g5.extBut c o (λq=>Z.t2 (q ▸ hc)) e;have lz:z<h5.objs.size:=ua y5;show wpAny _ _ (Builtin.SmallTypes.ownedTupleHandOut (.ref z) (.ref h5.objs.size) >>= _) _ _ _;apply wpAny_bind;unfold Builtin.SmallTypes.ownedTupleHandOut;have y6:IsZip (h5.push {cls:=.type "tuple",data:=.seq #[x,y]}) z TI TO .ellipsis:=wa _ y5;apply wpAny_bind;refine wpAny_setField_rec y6 (by simp) λh7 y7 g7=>?_;replace y7:IsZip h7 z TI TO (rawInt h5.objs.size):=y7;refine wpAny_setField_rec y7 (by simp) λh8 y8 g8=>?_;replace y8:IsZip h8 z TI TO (rawInt h5.objs.size):=y8;have up:∀ c o,c≠z->h5.get? c=some o->h8.get? c=some o:=λc o c1 e=>g8.extBut _ _ c1 (g7.extBut _ _ c1 (wa _ e));have p8:IsPair h8 h5.objs.size x y:=g8.extBut _ _ (Ul lz) (g7.extBut _ _ (Ul lz) (Wb _ rfl));have n8:h8.objs.size=h5.objs.size+1:=by rw[g8.1,g7.1,xh]
 rw[sz] at y8 p8 n8;refine wpAny_pure ⟨_,rfl,?_⟩;show Q (.ref h5.objs.size) _;rw[sz];exact hQ x y h8 t4 px py y8 (up _ _ Z.toz o5) (D1.frame _ _ _ r1 λc hc o e=>up c o (λq=>Z.z1 (q ▸ hc)) e) (D2.frame _ _ _ r2 λc hc o e=>up c o (λq=>Z.z2 (q ▸ hc)) e) p8 n8 λc o c1 c2 c3 c4 e=>up c o c1 (c5 c o c1 c2 c3 c4 e)
theorem QbE{Q:Fin->Shared->Prop}(Z:ZAp z TI TO i1 i2 fp1 fp2)(D1:Draws prog w A i1 fp1 n1 P1 S1)(D2:Draws prog w A i2 fp2 n2 P2 S2)(hz:IsZip s.heap z TI TO .none)(hI:IsPair s.heap TI (.ref i1) (.ref i2))(hO:IsPair s.heap TO a b)
  (s1:S1 k s.heap) (s2:S2 k s.heap) (hk:k=n1\/(k<n1/\k=n2))
  (hE:∀ h' e,(∀ c o,c≠z->c≠TO->c≠i1->c≠i2->s.heap.get? c=some o->h'.get? c=some o)->(∃ o,h'.get? e=some o/\o.cls=.type "StopIteration")->∀ tk,E (.ref e) {s with heap:=h',toks:=tk}) :
  wpAny (model prog w) A (Builtin.«zip.__next__» ⟨[.ref z],[]⟩) Q E s:=by
 have iz1:i1≠z:=λe=>Z.z1 (e ▸ Z.m1);have iz2:i2≠z:=λe=>Z.z2 (e ▸ Z.m2);have it1:i1≠TO:=λe=>Z.t1 (e ▸ Z.m1);have it2:i2≠TO:=λe=>Z.t2 (e ▸ Z.m2);show wpAny _ _ (field (.ref z) 2 >>= _) _ _ _;apply wpAny_bind;apply wpAny_field hz rfl (x:=.bool false) rfl;show wpAny _ _ (field (.ref z) 3 >>= _) _ _ _;apply wpAny_bind;apply wpAny_field hz rfl (x:=.ref TI) rfl;apply wpAny_bind;apply wpAny_seqItems hI rfl;show wpAny _ _ (Builtin.SmallTypes.ownedTupleIsFree (.ref z) >>= _) _ _ _;apply wpAny_bind;unfold Builtin.SmallTypes.ownedTupleIsFree;apply wpAny_bind;apply wpAny_field hz rfl (x:=.none) rfl;apply wpAny_pure;simp only[if_true];apply wpAny_bind;apply wpAny_rule;apply wpAny_bind;apply wpAny_field hz rfl (x:=.ref TO) rfl;apply wpAny_bind;refine wpAny_setField_rec hz (by simp) λh1 y1 g1=>?_;replace y1:IsZip h1 z TI TO .ellipsis:=y1;apply wpAny_bind;simp only[UB,List.zipIdx_nil,Xw,List.forIn_nil];apply wpAny_bind;apply wpAny_bind;apply wpAny_onRaise;show wpAny _ _ (Builtin.SmallTypes.nextOf (.ref i1) >>= _) _ _ _;apply wpAny_bind;have f1:S1 k h1:=D1.frame _ _ _ s1 λc hc o e=>g1.extBut c o (λq=>Z.z1 (q ▸ hc)) e
 rcases hk with hk|⟨k1,hk⟩
 ·refine D1.done _ _ _ (hk ▸ f1) λh2 e g2 he=>?_;obtain⟨oe,e1,e2⟩:=he;have y2:IsZip h2 z TI TO .ellipsis:=g2 _ _ (Ne.symm iz1) y1;have ez:e≠z:=λq=>by subst q;rw[y2] at e1;cases e1;simp at e2
  exact wpAny_setField_rec y2 (by simp) λh3 _ g3=>hE h3 e (λc o c1 _ c3 _ q=>g3.extBut _ _ c1 (g2 _ _ c3 (g1.extBut _ _ c1 q))) ⟨oe,g3.extBut _ _ ez e1,e2⟩ _
 ·refine D1.item k _ _ _ k1 f1 λx h2 t2 px q2 g2=>wpAny_pure ?_;have o2:IsPair h2 TO a b:=g2.extBut _ _ (Ne.symm it1) (g1.extBut _ _ Z.toz hO);apply wpAny_bind;apply wpAny_seqItems o2 rfl;apply wpAny_bind;refine wpAny_updateSeq_pair o2 λh3 o3 g3=>wpAny_bind (wpAny_letGo (wpAny_pure ?_));apply wpAny_bind;apply wpAny_bind;apply wpAny_onRaise;show wpAny _ _ (Builtin.SmallTypes.nextOf (.ref i2) >>= _) _ _ _;apply wpAny_bind;have f2:S2 k h3:=D2.frame _ _ _ s2 λc hc o e=>g3.extBut c o (λq=>Z.t2 (q ▸ hc)) (g2.extBut c o (λq=>Z.a1 (q ▸ hc)) (g1.extBut c o (λq=>Z.z2 (q ▸ hc)) e));refine D2.done _ _ _ (hk ▸ f2) λh4 e g4 he=>?_;obtain⟨oe,e1,e2⟩:=he;have y4:IsZip h4 z TI TO .ellipsis:=g4 _ _ (Ne.symm iz2) (g3.extBut _ _ (Ne.symm Z.toz) (g2.extBut _ _ (Ne.symm iz1) y1));have ez:e≠z:=λq=>by subst q;rw[y4] at e1;cases e1;simp at e2
  exact wpAny_setField_rec y4 (by simp) λh5 _ g5=>hE h5 e (λc o c1 c2 c3 c4 q=>g5.extBut _ _ c1 (g4 _ _ c4 (g3.extBut _ _ c2 (g2.extBut _ _ c3 (g1.extBut _ _ c1 q))))) ⟨oe,g5.extBut _ _ ez e1,e2⟩ _
end
end M3
end
section
namespace M3
open PySem
open Sem (wp)
noncomputable def SeqIs(h:Heap)(tup:Bool)(l:Addr)(xs:Array Value):Prop:=if tup=true then h.IsTuple l xs else h.IsList l xs
noncomputable def SeqIt(h:Heap)(tup:Bool)(r l:Addr)(k:Nat):Prop:=if tup=true then h.IsTupleIter r l k else h.IsListIter r l k
noncomputable abbrev itO(tup:Bool)(l:Addr):Obj:={cls:=.type (if tup=true then "tuple_iterator" else "list_iterator"),data:=.fields #[.ref l,.int 0 0]}
theorem SeqIs.keeps{h h':Heap}{tup:Bool}{l:Addr}{xs:Array Value}(x:SeqIs h tup l xs)(k:∀ o,h.get? l=some o->h'.get? l=some o):SeqIs h' tup l xs:=by
 cases tup with
 |true=>obtain⟨o,e,c⟩:=(show h.IsTuple l xs from x);exact(show h'.IsTuple l xs from⟨o,k o e,c⟩)
 |false=>exact(show h'.IsList l xs from Heap.IsList.at (show h.IsList l xs from x) k)
theorem SeqIs.lt{h:Heap}{tup:Bool}{l:Addr}{xs:Array Value}(x:SeqIs h tup l xs):l<h.objs.size:=by
 cases tup with
 |true=>obtain⟨o,e,c⟩:=(show h.IsTuple l xs from x);exact ua e
 |false=>obtain⟨o,e,c⟩:=(show h.IsList l xs from x);exact ua e
theorem SeqIt.keeps{h h':Heap}{tup:Bool}{r l:Addr}{k:Nat}(x:SeqIt h tup r l k)(q:∀ o,h.get? r=some o->h'.get? r=some o):SeqIt h' tup r l k:=by
 cases tup with
 |true=>obtain⟨o,e,c⟩:=(show h.IsTupleIter r l k from x);exact(show h'.IsTupleIter r l k from⟨o,q o e,c⟩)
 |false=>obtain⟨o,e,c⟩:=(show h.IsListIter r l k from x);exact(show h'.IsListIter r l k from⟨o,q o e,c⟩)
theorem SeqIt.new{h:Heap}{tup:Bool}{r l:Addr}(e:h.get? r=some (itO tup l)):SeqIt h tup r l 0:=by
 cases tup with
 |true=>exact(show h.IsTupleIter r l 0 from⟨_,e,rfl,rfl⟩)
 |false=>exact(show h.IsListIter r l 0 from⟨_,e,rfl,rfl⟩)
theorem SeqIt.obj{h:Heap}{tup:Bool}{r l:Addr}{k:Nat}(x:SeqIt h tup r l k):∃ o,h.get? r=some o/\∀ v,o.data≠.cell v:=by
 cases tup with
 |true=>obtain⟨o,e,c,d⟩:=(show h.IsTupleIter r l k from x);exact⟨o,e,λv z=>by rw[d] at z;cases z⟩
 |false=>obtain⟨o,e,c,d⟩:=(show h.IsListIter r l k from x);exact⟨o,e,λv z=>by rw[d] at z;cases z⟩
section
variable {prog:Program} {w:World} {A:Around} {E:Value->Shared->Prop} {s:Shared}
theorem Qk{tup:Bool}{l:Addr}{xs:Array Value}{Q:Value->Shared->Prop}(x:SeqIs s.heap tup l xs)(h:Q (.ref s.heap.objs.size) {s with heap:=s.heap.push (itO tup l)}):wpAny (model prog w) A (pyIter (.ref l)) Q E s:=by
 cases tup with
 |true=>exact wpAny_pyIter_tuple (show s.heap.IsTuple l xs from x) h
 |false=>exact wpAny_pyIter_list (show s.heap.IsList l xs from x) h
theorem YC(hh:A.handled=none)(tup:Bool)(r l:Addr)(hne:l≠r)(items:Array Value) :
  Draws prog w A r [r,l] items.size (λi v=>items[i]?=some v) (λi h=>SeqIt h tup r l i/\SeqIs h tup l items):=by
 cases tup with
 |true=>exact za1 hh r l hne items
 |false=>exact Draws.list hh r l hne items
end
theorem Qbi(b1 b2:Bool)(l1 l2:Addr)(xs ys:Array Value) :
  Meets (Builtin.«zip.__new__» ⟨[.type "zip",.ref l1,.ref l2],[]⟩) (λ_ R s=>SeqIs s.heap b1 l1 xs/\SeqIs s.heap b2 l2 ys /\
   ∀ h5,h5=((((s.heap.push (itO b1 l1)).push (itO b2 l2)).push {cls:=.type "tuple",data:=.seq #[.ref s.heap.objs.size,.ref (s.heap.push (itO b1 l1)).objs.size]}).push {cls:=.type "tuple",data:=.seq #[.none,.none]}).push
    {cls:=.type "zip",data:=.fields #[.none,.bool false,.bool false,.ref ((s.heap.push (itO b1 l1)).push (itO b2 l2)).objs.size,.ref (((s.heap.push (itO b1 l1)).push (itO b2 l2)).push {cls:=.type "tuple",data:=.seq #[.ref s.heap.objs.size,.ref (s.heap.push (itO b1 l1)).objs.size]}).objs.size]} ->
   R (.ok (.ret (.ref ((((s.heap.push (itO b1 l1)).push (itO b2 l2)).push {cls:=.type "tuple",data:=.seq #[.ref s.heap.objs.size,.ref (s.heap.push (itO b1 l1)).objs.size]}).push {cls:=.type "tuple",data:=.seq #[.none,.none]}).objs.size))) {s with heap:=h5}) :=
 .of_wp λprog w A R s h=>by
  obtain⟨hp,g,d,tk,os⟩:=s;obtain⟨x1,x2,h⟩:=h;have hsub:=sub_zip;have y1:SeqIs (Shared.heap ⟨hp,g,d,tk,os⟩) b1 l1 xs:=x1;have y2:SeqIs (Shared.heap ⟨hp.push (itO b1 l1),g,d,tk,os⟩) b2 l2 ys:=SeqIs.keeps x2 λo e=>wa _ e
  wp_walk using Qk y1,Qk y2
  exact⟨_,rfl,h _ rfl⟩
section
variable {prog:Program} {w:World} {A:Around} {E:Value->Shared->Prop} {s:Shared}
theorem Zbz{b1 b2:Bool}{l1 l2:Addr}{xs ys:Array Value}{Q:Value->Shared->Prop}(x1:SeqIs s.heap b1 l1 xs)(x2:SeqIs s.heap b2 l2 ys)
  (h:∀ h',IsZip h' (s.heap.objs.size+4) (s.heap.objs.size+2) (s.heap.objs.size+3) .none->IsPair h' (s.heap.objs.size+2) (.ref s.heap.objs.size) (.ref (s.heap.objs.size+1))->IsPair h' (s.heap.objs.size+3) .none .none ->
   SeqIt h' b1 s.heap.objs.size l1 0->SeqIt h' b2 (s.heap.objs.size+1) l2 0->(∀ c o,s.heap.get? c=some o->h'.get? c=some o)->Q (.ref (s.heap.objs.size+4)) {s with heap:=h'}) :
  wpAny (model prog w) A (call (.type "zip") [.ref l1,.ref l2]) Q E s:=by
 refine callType_new F.called_zip (by decide) (F.typeCall_zip_2 _ _) (F.newCall_zip_2 _ _) (λobj=>F.args_object_init_3 obj _ _) F.entry_zip_new (Qbi b1 b2 l1 l2 xs ys) ⟨x1,x2,λh5 e5=>?_⟩;have n1:(s.heap.push (itO b1 l1)).objs.size=s.heap.objs.size+1:=xh ..;have n2:((s.heap.push (itO b1 l1)).push (itO b2 l2)).objs.size=s.heap.objs.size+2:=by rw[xh,n1]
 have n3:(((s.heap.push (itO b1 l1)).push (itO b2 l2)).push {cls:=.type "tuple",data:=.seq #[.ref s.heap.objs.size,.ref (s.heap.push (itO b1 l1)).objs.size]}).objs.size=s.heap.objs.size+3:=by rw[xh,n2]
 have n4:((((s.heap.push (itO b1 l1)).push (itO b2 l2)).push {cls:=.type "tuple",data:=.seq #[.ref s.heap.objs.size,.ref (s.heap.push (itO b1 l1)).objs.size]}).push {cls:=.type "tuple",data:=.seq #[.none,.none]}).objs.size=s.heap.objs.size+4:=by rw[xh,n3]
 have q5:IsZip h5 ((((s.heap.push (itO b1 l1)).push (itO b2 l2)).push {cls:=.type "tuple",data:=.seq #[.ref s.heap.objs.size,.ref (s.heap.push (itO b1 l1)).objs.size]}).push {cls:=.type "tuple",data:=.seq #[.none,.none]}).objs.size ((s.heap.push (itO b1 l1)).push (itO b2 l2)).objs.size (((s.heap.push (itO b1 l1)).push (itO b2 l2)).push {cls:=.type "tuple",data:=.seq #[.ref s.heap.objs.size,.ref (s.heap.push (itO b1 l1)).objs.size]}).objs.size .none:=by rw[e5];exact Wb _ rfl
 have q4:IsPair h5 (((s.heap.push (itO b1 l1)).push (itO b2 l2)).push {cls:=.type "tuple",data:=.seq #[.ref s.heap.objs.size,.ref (s.heap.push (itO b1 l1)).objs.size]}).objs.size .none .none:=by rw[e5];exact wa _ (Wb _ rfl)
 have q3:IsPair h5 ((s.heap.push (itO b1 l1)).push (itO b2 l2)).objs.size (.ref s.heap.objs.size) (.ref (s.heap.push (itO b1 l1)).objs.size):=by rw[e5];exact wa _ (wa _ (Wb _ rfl))
 have q2:h5.get? (s.heap.push (itO b1 l1)).objs.size=some (itO b2 l2):=by rw[e5];exact wa _ (wa _ (wa _ (Wb _ rfl)))
 have q1:h5.get? s.heap.objs.size=some (itO b1 l1):=by rw[e5];exact wa _ (wa _ (wa _ (wa _ (Wb _ rfl))))
 show _/\_;rw[n2,n3,n4] at q5;rw[n2,n1] at q3;rw[n3] at q4;rw[n1] at q2;rw[n4];exact⟨⟨_,q5,rfl⟩,h _ q5 q3 q4 (.new q1) (.new q2) λc o e=>by rw[e5];exact wa _ (wa _ (wa _ (wa _ (wa _ e))))⟩
variable {z TI TO i1 i2:Addr} {fp1 fp2:List Addr} {n1 n2 k:Nat} {P1 P2:Nat->Value->Prop} {S1 S2:Nat->Heap->Prop} {a b:Value}
theorem Yab{Q:Option Value->Shared->Prop}(Z:ZAp z TI TO i1 i2 fp1 fp2)(D1:Draws prog w A.in1 i1 fp1 n1 P1 S1)(D2:Draws prog w A.in1 i2 fp2 n2 P2 S2)(hz:IsZip s.heap z TI TO .none)(hI:IsPair s.heap TI (.ref i1) (.ref i2))(hO:IsPair s.heap TO a b)
  (s1:S1 k s.heap) (s2:S2 k s.heap) (k1:k<n1) (k2:k<n2)
  (hQ:∀ x y h' tk,P1 k x->P2 k y->IsZip h' z TI TO (rawInt s.heap.objs.size)->IsPair h' TO x y->S1 (k+1) h'->S2 (k+1) h'->IsPair h' s.heap.objs.size x y->h'.objs.size=s.heap.objs.size+1 ->
   (∀ c o,c≠z->c≠TO->c≠i1->c≠i2->s.heap.get? c=some o->h'.get? c=some o)->Q (some (.ref s.heap.objs.size)) {s with heap:=h',toks:=tk}) :
  wpAny (model prog w) A (pyNext (.ref z)) Q E s:=by
 have ty:s.TypeIs (.ref z) "zip":=⟨_,hz,rfl⟩;unfold pyNext;refine wpAny_bind (wpAny_attempt (wpAny_callSpecial?_slot (name:=Str.ofString "__next__") ty F.slot_zip_next (wpAny_call_entry F.slot_zip_next ty F.entry_zip_next ?_ (F.args_zip_next_1 _))));exact zbp Z D1 D2 hz hI hO s1 s2 k1 k2 λx y h' tk p1 p2 e1 e2 e3 e4 e5 e6 e7=>wpAny_pure (hQ x y h' tk p1 p2 e1 e2 e3 e4 e5 e6 e7)
theorem zag{Q:Option Value->Shared->Prop}(Z:ZAp z TI TO i1 i2 fp1 fp2)(D1:Draws prog w A.in1 i1 fp1 n1 P1 S1)(D2:Draws prog w A.in1 i2 fp2 n2 P2 S2)(hz:IsZip s.heap z TI TO .none)(hI:IsPair s.heap TI (.ref i1) (.ref i2))(hO:IsPair s.heap TO a b)
  (s1:S1 k s.heap) (s2:S2 k s.heap) (hk:k=n1\/(k<n1/\k=n2))
  (hQ:∀ h' tk,(∀ c o,c≠z->c≠TO->c≠i1->c≠i2->s.heap.get? c=some o->h'.get? c=some o)->Q none {s with heap:=h',toks:=tk}) :
  wpAny (model prog w) A (pyNext (.ref z)) Q E s:=by
 have ty:s.TypeIs (.ref z) "zip":=⟨_,hz,rfl⟩;unfold pyNext;refine wpAny_bind (wpAny_attempt (wpAny_callSpecial?_slot (name:=Str.ofString "__next__") ty F.slot_zip_next (wpAny_call_entry F.slot_zip_next ty F.entry_zip_next ?_ (F.args_zip_next_1 _))));refine QbE Z D1 D2 hz hI hO s1 s2 hk λh' e kk ho tk=>?_;obtain⟨o,e1,e2⟩:=ho;exact wpAny_bind (wpAny_isInstance (T:="StopIteration") (b:=true) ⟨o,e1,e2⟩ isSubtype_stop (wpAny_pure (hQ h' tk kk)))
end
end M3
end
section
namespace M3
open PySem
open Sem (wp)
set_option tactic.hygienic true in
theorem qa2(tup:Bool)(l:Addr)(xs:Array Value) :
  Meets (Builtin.«enumerate.__new__» ⟨[.type "enumerate",.ref l],[]⟩) (λ_ R s=>(SeqIs s.heap tup l xs/\∃ o,s.heap.get? l=some o) /\
   ∀ h2,h2=(s.heap.push (itO tup l)).push {cls:=.type "enumerate",data:=.fields #[.none,.bool false,.ref s.heap.objs.size,rawInt 0,.none,.none]} ->
   R (.ok (.ret (.ref (s.heap.push (itO tup l)).objs.size))) {s with heap:=h2}) :=
 .of_wp λprog w A R s h=>by
  obtain⟨hp,g,d,tk,os⟩:=s;obtain⟨⟨x1,o,ho⟩,h⟩:=h;have hsub:=sub_enumerate;have ho':Heap.get? (Shared.heap ⟨hp,g,d,tk,os⟩) l=some o:=ho;have y1:SeqIs (Shared.heap ⟨hp,g,d,tk,os⟩) tup l xs:=x1
  wp_walk using wpAny_loadPart' ho'
  refine wpAny_stack_any λst=>wpAny_pure ?_;split
  ·rename_i c _ _ _ _ _;cases(c==Value.type "enumerate")
   ·wp_walk using wpAny_loadPart' ho',Qk y1;exact⟨_,rfl,h _ rfl⟩
   ·wp_walk using wpAny_loadPart' ho',Qk y1;exact⟨_,rfl,h _ rfl⟩
  ·wp_walk using wpAny_loadPart' ho',Qk y1;exact⟨_,rfl,h _ rfl⟩
section
variable {prog:Program} {w:World} {A:Around} {E:Value->Shared->Prop} {s:Shared}
theorem Zbo{tup:Bool}{l:Addr}{xs:Array Value}{Q:Value->Shared->Prop}(x1:SeqIs s.heap tup l xs)
  (h:∀ h',IsEnum h' (s.heap.objs.size+1) s.heap.objs.size 0 .none->SeqIt h' tup s.heap.objs.size l 0->(∀ b o,s.heap.get? b=some o->h'.get? b=some o)->Q (.ref (s.heap.objs.size+1)) {s with heap:=h'}) :
  wpAny (model prog w) A (call (.type "enumerate") [.ref l]) Q E s:=by
 have ho:∃ o,s.heap.get? l=some o:=by
  cases tup with
  |true=>obtain⟨o,e,_⟩:=(show s.heap.IsTuple l xs from x1);exact⟨o,e⟩
  |false=>obtain⟨o,e,_⟩:=(show s.heap.IsList l xs from x1);exact⟨o,e⟩
 refine callType_new F.called_enumerate (by decide) (F.typeCall_enumerate_1 _) (F.newCall_enumerate_1 _) (λobj=>F.args_object_init_2 obj _) F.entry_enumerate_new (qa2 tup l xs) ⟨⟨x1,ho⟩,λh2 e2=>?_⟩;have n1:(s.heap.push (itO tup l)).objs.size=s.heap.objs.size+1:=xh ..;have q2:IsEnum h2 (s.heap.push (itO tup l)).objs.size s.heap.objs.size 0 .none:=by rw[e2];exact Wb _ rfl
 have q1:h2.get? s.heap.objs.size=some (itO tup l):=by rw[e2];exact wa _ (Wb _ rfl)
 rw[n1] at q2;show _/\_;rw[n1];exact⟨⟨_,q2,rfl⟩,h _ q2 (.new q1) λb o e=>by rw[e2];exact wa _ (wa _ e)⟩
end
end M3
end
section
namespace L3
open PySem PySem.Spec PyProof.Rows L2 M3
section
variable {X:Cx} {pins:List (Addr×Obj)} {σ:L2.St} {H:Hp} {s:Shared}
theorem zat{P:Program}{w:World}{h:Heap}{D:Addr}{o:HO}(ok:HOk P w H h)(hn:H D=none)(new:ObjOk P w (upd H D o) h D o):HOk P w (upd H D o) h:=λb u e=>by
 by_cases hb:b=D
 ·subst hb;rw[qb] at e;cases e;exact new
 ·rw[Qa hb] at e;exact(ok b u e).stay (λ_ _ _ q=>q) (λc q=>by rw[Qa (Zd q hn)];exact q) λc xs q=>by rw[Qa (Zd q hn)];exact q
theorem YZ{D:Addr}{o:HO}(I:Inv X pins σ H s)(f:YH X pins H D)(h0:X.s₀.heap.objs.size<=D)(new:ObjOk X.prog X.w (upd H D o) s.heap D o):Inv X pins σ (upd H D o) s:=by
 obtain⟨f0,f1,f2,f3,f4,f5⟩:=f;refine⟨I.ok,I.os,I.bare,⟨I.base.keep,I.base.slot,λb u e n hx=>?_,I.base.there,λb xs e=>?_,λb u xs e=>?_,λb ps e=>?_⟩,I.loc,I.cell,?_,λx c e=>?_,λp hp=>?_,zat I.hok f0 new,I.len⟩
 ·rw[Qa (Vb (Wc (ua e) h0))];exact I.base.free b u e n hx
 ·have q:=I.base.tups b xs e;rw[Qa (Zd q f0)];exact q
 ·have q:=I.base.frzs b u xs e;rw[Qa (Zd q f0)];exact q
 ·obtain⟨m,q⟩:=I.base.tbls b ps e;exact⟨m,by rw[Qa (Zd q f0)];exact q⟩
 ·rw[Qa (Ne.symm f1)];exact I.free
 ·rw[Qa (f4 x c e)];exact I.freeC x c e
 ·obtain⟨e1,e2,e3,e4,e5⟩:=I.pin p hp;exact⟨e1,by rw[Qa (f5 p hp)];exact e2,e3,e4,e5⟩
end
noncomputable def qv(sc:Scope)(N:List Str)(cs:Scope)(N':List Str)(ncv:Nat)(js:List Nat):Bool :=
 cs.kind == .function&&cs.names.all (λy=>y.2 != .cell||cs.names.lookup y.1==some .cell)&&cs.names.all (λy=>y.2 != .free||(sc.names.lookup y.1==some .cell||sc.names.lookup y.1==some .free)) &&
 cs.names.all (λy=>y.2 != .local||cs.names.lookup y.1==some .local)&&(N'.drop ncv).all (λx=>cs.names.lookup x==some .free)&&decide ((N'.drop ncv).map some=js.map (λj=>N[j]?))&&decide (ncv<=N'.length)
structure CompOk (sc:Scope) (N:List Str) (cs:Scope) (N':List Str) (ncv:Nat) (js:List Nat):Prop where
 kind:cs.kind=.function
 cel:∀ y∈cs.names,y.2=.cell->cs.names.lookup y.1=some .cell
 free:∀ y∈cs.names,y.2=.free->sc.names.lookup y.1=some .cell\/sc.names.lookup y.1=some .free
 locs:∀ y∈cs.names,y.2=.local->cs.names.lookup y.1=some .local
 frees:∀ x∈N'.drop ncv,cs.names.lookup x=some .free
 at_:(N'.drop ncv).map some=js.map (λj=>N[j]?)
 ncv:ncv<=N'.length
theorem CompOk.of{sc:Scope}{N:List Str}{cs:Scope}{N':List Str}{ncv:Nat}{js:List Nat}(h:qv sc N cs N' ncv js=true):CompOk sc N cs N' ncv js:=by
 simp only[qv,Wa,Vj,decide_eq_true_eq,Xi,beq_iff_eq,bne_iff_ne,ne_eq] at h;obtain⟨⟨⟨⟨⟨⟨h1,h2⟩,h3⟩,h4⟩,h5⟩,h6⟩,h7⟩:=h;exact⟨h1,λy hy e=>(h2 y hy).resolve_left λz=>z e,λy hy e=>(h3 y hy).resolve_left λz=>z e,λy hy e=>(h4 y hy).resolve_left λz=>z e,h5,h6,h7⟩
theorem qx{names:List (Str×NameKind)}{x:Str}{k:NameKind}(h:names.lookup x=some k):(x,k)∈names:=PySem.mem_of_lookup h
theorem YX{env:Env}:∀{names:List (Str×NameKind)} {x:Str},
  ((names.map λ(n,k)=>if(k==NameKind.free&&env.scope.kind == .function&&env.kindOf n==some .cell) then(n,NameKind.cell) else(n,k)).lookup x=some .cell \/
   (names.map λ(n,k)=>if(k==NameKind.free&&env.scope.kind == .function&&env.kindOf n==some .cell) then(n,NameKind.cell) else(n,k)).lookup x=some .free)->names.lookup x=some .free\/names.lookup x=some .cell
 |[],_,h=>by simp at h
 |(n,k)::r,x,h=>by
  have ih:=@YX env r x;rw[xc] at h;by_cases hb:(k==NameKind.free&&env.scope.kind == .function&&env.kindOf n==some .cell)=true
  ·have hkf:k=.free:=by
    simp only[Wa,beq_iff_eq] at hb;exact hb.1.1
   simp only[hb,if_true] at h;cases hx:x==n with
   |true=>simp only[Va,hx];rw[hkf];exact .inl rfl
   |false =>
    simp only[Va,hx] at h ⊢;exact ih h
  ·simp only[hb,vk,if_false] at h;cases hx:x==n with
   |true =>
    simp only[Va,hx] at h ⊢;exact h.symm
   |false =>
    simp only[Va,hx] at h ⊢;exact ih h
theorem ZG{env:Env}:∀{names:List (Str×NameKind)} {x:Str},names.lookup x=some .free ->
  ((names.map λ(n,k)=>if(k==NameKind.free&&env.scope.kind == .function&&env.kindOf n==some .cell) then(n,NameKind.cell) else(n,k)).lookup x=some .cell \/
   (names.map λ(n,k)=>if(k==NameKind.free&&env.scope.kind == .function&&env.kindOf n==some .cell) then(n,NameKind.cell) else(n,k)).lookup x=some .free)
 |[],_,h=>by simp at h
 |(n,k)::r,x,h=>by
  have ih:=@ZG env r x;rw[xc];cases hx:x==n with
  |true =>
   simp only[Va,hx] at h;cases h;by_cases hb:((NameKind.free:NameKind)==NameKind.free&&env.scope.kind == .function&&env.kindOf n==some .cell)=true
   ·simp only[hb,if_true,Va,hx];simp
   ·simp only[hb,vk,if_false,Va,hx];simp
  |false =>
   simp only[Va,hx] at h;by_cases hb:(k==NameKind.free&&env.scope.kind == .function&&env.kindOf n==some .cell)=true
   ·simp only[hb,if_true,Va,hx];exact ih h
   ·simp only[hb,vk,if_false,Va,hx];exact ih h
theorem Yr{env:Env}:∀(names:List (Str×NameKind)) (cs:List (Str×Addr)) {x:Str} {c:Addr},(∀ y∈names,y.2=.free->∃ c,env.cells.lookup y.1=some c)->(∀ x c,cs.lookup x=some c->env.cells.lookup x=some c) ->
  (qd env names cs).lookup x=some c->env.cells.lookup x=some c
 |[],cs,x,c,_,hcs,h=>hcs x c h
 |(n,k)::r,cs,x,c,hn,hcs,h=>by
  refine Yr r _ (λy hy=>hn y (Ve _ hy)) (λx' c' h'=>?_) h;by_cases hk:(k == .free)=true
  ·rw[if_pos hk] at h';obtain⟨c0,e0⟩:=hn (n,k) uh (by simpa using hk);cases hx:x'==n with
   |true =>
    simp only[Va,hx] at h';cases h';rw[beq_iff_eq.mp hx,e0];rfl
   |false =>
    simp only[Va,hx] at h';exact hcs x' c' h'
  ·rw[if_neg hk] at h';exact hcs x' c' h'
theorem yL{env:Env}:∀(names:List (Str×NameKind)) (cs:List (Str×Addr)) {x:Str},(∃ c,cs.lookup x=some c)->∃ c,(qd env names cs).lookup x=some c
 |[],cs,x,h=>h
 |(n,k)::r,cs,x,h=>by
  refine yL r _ ?_;by_cases hk:(k == .free)=true
  ·rw[if_pos hk];cases hx:x==n with
   |true=>exact⟨(env.cells.lookup n).getD 0,by simp only[Va,hx]⟩
   |false =>
    obtain⟨c,e⟩:=h;exact⟨c,by simp only[Va,hx];exact e⟩
  ·rw[if_neg hk];exact h
theorem qA{env:Env}:∀(names:List (Str×NameKind)) (cs:List (Str×Addr)) {x:Str},(x,NameKind.free)∈names->∃ c,(qd env names cs).lookup x=some c
 |[],_,_,h=>nomatch h
 |(n,k)::r,cs,x,h=>by
  rcases xa.mp h with e|h
  ·cases e;refine yL r _ ?_;rw[if_pos (by decide)];exact⟨(env.cells.lookup n).getD 0,by simp only[Va,beq_self_eq_true]⟩
  ·exact qA r _ h
theorem qay:∀(names:List (Str×NameKind)) (n n0:Nat) (acc:List (Str×Addr)) {x:Str},n0<=n->(∃ c,acc.lookup x=some c/\n0<=c)->∃ c,(cellsFrom n names acc).lookup x=some c/\n0<=c
 |[],_,_,_,_,_,h=>h
 |(y,k)::r,n,n0,acc,x,hn,h=>by
  unfold cellsFrom;split
  ·refine qay r (n+1) n0 _ (by lia) ?_;cases hx:x==y with
   |true=>exact⟨n,by simp only[Va,hx],hn⟩
   |false =>
    obtain⟨c,e,l⟩:=h;exact⟨c,by simp only[Va,hx];exact e,l⟩
  ·exact qay r n n0 acc hn h
theorem Yaz:∀(names:List (Str×NameKind)) (n:Nat) (acc:List (Str×Addr)) {x:Str},(x,NameKind.cell)∈names->∃ c,(cellsFrom n names acc).lookup x=some c/\n<=c
 |[],_,_,_,h=>nomatch h
 |(y,k)::r,n,acc,x,h=>by
  unfold cellsFrom
  rcases xa.mp h with e|h
  ·cases e;rw[if_pos (by decide)];exact qay r (n+1) n _ (by lia) ⟨n,by simp only[Va,beq_self_eq_true],wb _⟩
  ·split
   ·obtain⟨c,e,l⟩:=Yaz r (n+1) ((y,n)::acc) h;exact⟨c,e,by lia⟩
   ·exact Yaz r n acc h
theorem zU:∀(names:List (Str×NameKind)) (n:Nat) (acc:List (Str×Addr)) {x:Str},(x,NameKind.cell)∉names->(cellsFrom n names acc).lookup x=acc.lookup x
 |[],_,_,_,_=>rfl
 |(y,k)::r,n,acc,x,h=>by
  unfold cellsFrom;split
  ·rename_i hk;rw[zU r (n+1) _ λz=>h (Ve _ z)];have:(x==y)=false:=by
    rw[beq_eq_false_iff_ne];intro e;subst e;have:k=.cell:=by simpa using hk
    subst this;exact h uh
   simp only[Va,this]
  ·exact zU r n acc λz=>h (Ve _ z)
theorem qU:∀(names:List (Str×NameKind)) (n:Nat) (acc:List (Str×Addr)) {x:Str} {c:Addr},(cellsFrom n names acc).lookup x=some c->acc.lookup x=some c\/n<=c
 |[],_,_,_,_,h=>.inl h
 |(y,k)::r,n,acc,x,c,h=>by
  unfold cellsFrom at h;split at h
  ·rcases qU r (n+1) _ h with e|e
   ·cases hx:x==y with
    |true=>simp only[Va,hx] at e;cases e;exact .inr (wb _)
    |false=>simp only[Va,hx] at e;exact .inl e
   ·exact .inr (by lia)
  ·exact qU r n acc h
theorem ya8:∀(names:List (Str×NameKind)) (n:Nat) (acc:List (Str×Addr)),(∀ x c,acc.lookup x=some c->c<n)->(∀ x y c,acc.lookup x=some c->acc.lookup y=some c->x=y) ->
  ∀ x y c,(cellsFrom n names acc).lookup x=some c->(cellsFrom n names acc).lookup y=some c->x=y
 |[],_,_,_,hi=>hi
 |(z,k)::r,n,acc,hb,hi=>by
  unfold cellsFrom;split
  ·refine ya8 r (n+1) _ (λx c e=>?_) λx y c e1 e2=>?_
   ·cases hx:x==z with
    |true=>simp only[Va,hx] at e;cases e;exact Uj _
    |false=>simp only[Va,hx] at e;exact Xo (hb x c e)
   ·cases hx:x==z with
    |true =>
     simp only[Va,hx] at e1;cases e1;cases hy:y==z with
     |true=>rw[beq_iff_eq.mp hx,beq_iff_eq.mp hy]
     |false=>simp only[Va,hy] at e2;exact absurd (hb y _ e2) (Wi _)
    |false =>
     simp only[Va,hx] at e1;cases hy:y==z with
     |true=>simp only[Va,hy] at e2;cases e2;exact absurd (hb x _ e1) (Wi _)
     |false=>simp only[Va,hy] at e2;exact hi x y c e1 e2
  ·exact ya8 r n acc hb hi
theorem qaB:∀(names:List (Str×NameKind)) (h:Heap) (acc:List (Str×Addr)),(∀ x c,acc.lookup x=some c->∃ v,h.IsCell c v)->∀ x c,(cellsFrom h.objs.size names acc).lookup x=some c->∃ v,(pushCells h names).IsCell c v
 |[],_,_,hc=>hc
 |(y,k)::r,h,acc,hc=>by
  unfold cellsFrom pushCells;split
  ·have:=qaB r (h.push {cls:=.type "cell",data:=.cell none}) ((y,h.objs.size)::acc) λx c e=>by
    cases hx:x==y with
    |true=>simp only[Va,hx] at e;cases e;exact⟨none,_,Wb _ rfl,rfl⟩
    |false =>
     simp only[Va,hx] at e;obtain⟨v,q⟩:=hc x c e;exact⟨v,q.keeps λb o e=>wa _ e⟩
   rwa [xh] at this
  ·exact qaB r h acc hc
theorem Qaq{M:Model}{A:Around}{E:Value->Shared->Prop}{s:Shared}{scope:Scope}{globals:Addr}{closure:List (Str×Addr)}{qual:Str}{func:Option Addr}{code:Value}{env:Env}{builtins:Addr}{Q:Env->Shared->Prop}
  (hQ:∀ h',h'.Ns s.heap.objs.size (λ_=>none)->(∀ b o,s.heap.get? b=some o->h'.get? b=some o) ->
   ((∀ x c,closure.lookup x=some c->∃ v,s.heap.IsCell c v)->∀ x c,(cellsFrom (s.heap.objs.size+1) scope.names closure).lookup x=some c->∃ v,h'.IsCell c v) ->
   Q (newEnv scope s.heap.objs.size globals (cellsFrom (s.heap.objs.size+1) scope.names closure) qual func code (some env) builtins) {s with heap:=h'}) :
  wpAny M A (newFunctionEnv scope globals closure [] qual func code (some env) builtins) Q E s:=by
 simp only[newFunctionEnv,Option.isSome_some,if_true];refine wpAny_bind (wpAny_alloc ?_);refine wpAny_bind (wpAny_layCells _ (λname kind cells=>by cases hkc:kind==NameKind.cell <;> simp[hkc]) _ _ _ _ ?_);rw[show({s with heap:=s.heap.push {cls:=.type "dict",data:=.dict #[]}}:Shared).heap.objs.size=s.heap.objs.size+1 from xh ..];refine wpAny_bind (wpAny_pure (wpAny_pure (hQ _ ?_ ?_ ?_)))
 ·exact(Heap.Ns.new s.heap (.type "dict")).keeps (pushCells_keeps _ _)
 ·exactλb o e=>pushCells_keeps _ _ b o (wa _ e)
 ·intro hc;have:=qaB scope.names (s.heap.push {cls:=.type "dict",data:=.dict #[]}) closure λx c e=>let ⟨v,q⟩:=hc x c e;⟨v,q.keeps λb o e=>wa _ e⟩
  rwa [xh] at this
noncomputable def cxC(X:Cx)(cs:Scope)(N':List Str)(C:Addr)(s3:Shared)(H:Hp)(ex:List Addr):Cx :=
 {X with N:=N',s₀:=s3,H₀:=H,env:=compEnvC cs (cellsFrom (C+1) cs.names (qd X.env cs.names [])) C X.env,outer:=X.stack,stack:=X.stack,ex:=ex,fn:=λx=>cs.names.lookup x==some .cell,xe:=λ_ _=>False}
noncomputable def stC(ncv:Nat)(js:List Nat)(σ:L2.St):L2.St:=Wd ncv none++js.map λj=>(σ[j]?).join
section
variable {X:Cx} {pins:List (Addr×Obj)} {σ:L2.St} {H:Hp} {s3:Shared}
theorem qa4{cs:Scope}{N':List Str}{ncv:Nat}{js:List Nat}{ex:List Addr}{h1:Heap}{tk:Nat}(I:Inv X pins σ H s3)(ok:CompOk X.env.scope X.N cs N' ncv js)(hex:∀ b∈ex,YH X pins H b/\b<s3.heap.objs.size)
  (hns:h1.Ns s3.heap.objs.size λ_=>none) (hk:∀ b o,s3.heap.get? b=some o->h1.get? b=some o)
  (hcl:(∀ x c,(qd X.env cs.names []).lookup x=some c->∃ v,s3.heap.IsCell c v)->∀ x c,(cellsFrom (s3.heap.objs.size+1) cs.names (qd X.env cs.names [])).lookup x=some c->∃ v,h1.IsCell c v) :
  Inv (cxC X cs N' s3.heap.objs.size s3 H ex) [] (stC ncv js σ) H {s3 with heap:=h1,toks:=tk}:=by
 have hfc:∀ y∈cs.names,y.2=.free->∃ c,X.env.cells.lookup y.1=some c:=λy hy e=>I.ok.has y.1 (ok.free y hy e);have lk:∀{x c},(qd X.env cs.names []).lookup x=some c->X.env.cells.lookup x=some c:=λ{x c} h=>Yr cs.names [] hfc (λ_ _ z=>by simp at z) h;have clt:∀{x c},X.env.cells.lookup x=some c->c<s3.heap.objs.size:=λ{x c} e=>let ⟨v,q⟩:=I.cell x c e;q.lt;have cl2:=hcl λx c e=>I.cell x c (lk e);have spl:∀{x c},(cellsFrom (s3.heap.objs.size+1) cs.names (qd X.env cs.names [])).lookup x=some c->X.env.cells.lookup x=some c\/s3.heap.objs.size+1<=c:=λ{x c} e=>(qU cs.names _ _ e).imp lk id;have nown:∀{x},cs.names.lookup x=some .free->(x,NameKind.cell)∉cs.names:=λ{x} e z=>by have:=ok.cel _ z rfl;rw[e] at this;cases this
 refine⟨⟨I.ok.mod,ok.kind,I.ok.glob,I.ok.blt,wb _,λx y c e1 e2=>ya8 cs.names _ _ (λx c e=>Xo (clt (lk e))) (λx y c e1 e2=>I.ok.inj x y c (lk e1) (lk e2)) x y c e1 e2,λx hx=>?_,λx c z e=>?_,I.ok.hd,I.ok.frames,.inl rfl,λb hb=>?_,I.bs,Xe I.ok.bsz I.sz,λb o e hb=>?_,λb hb=>?_,I.stack,I.stkFree⟩,
  rfl,I.bare,Un.kept hk,⟨_,hns,λi x v e1 e2 e3=>?_⟩,λx c e=>cl2 x c e,I.hok.fresh (wb _),λx c e=>(spl e).elim (λq=>I.freeC x c q) λq=>I.hok.fresh (by lia),λp hp=>?_,I.hok.kept hk,?_⟩
 ·rcases YX hx with hx|hx
  ·rw[show ∀ n,(cxC X cs N' s3.heap.objs.size s3 H ex).env.cells.lookup x=(cellsFrom (s3.heap.objs.size+1) cs.names (qd X.env cs.names [])).lookup x fromλ_=>rfl]
   ·rw[zU _ _ _ (nown hx)];exact qA cs.names [] (qx hx)
   ·exact 0
  ·obtain⟨c,e,_⟩:=Yaz cs.names (s3.heap.objs.size+1) (qd X.env cs.names []) (qx hx);exact⟨c,e⟩
 ·have z':cs.names.lookup x=some .cell:=by simpa using(show(cs.names.lookup x==some .cell)=true from z)
  obtain⟨c',e',l⟩:=Yaz cs.names (s3.heap.objs.size+1) (qd X.env cs.names []) (qx z');have:c=c':=by
   have e2:(cellsFrom (s3.heap.objs.size+1) cs.names (qd X.env cs.names [])).lookup x=some c:=e;rw[e'] at e2;exact(Option.some.inj e2).symm
  rw[this];exact Nat.le_of_succ_le l
 ·obtain⟨⟨_,_,_,_,f4,_⟩,lt⟩:=hex b hb;refine⟨Vb lt,λx c e=>?_⟩
  rcases spl e with q|q
  ·exact f4 x c q
  ·exact Ul (Wq lt q)
 ·obtain⟨⟨_,_,_,f3,_,_⟩,_⟩:=hex b hb
  rcases f3 with f3|f3
  ·exact I.ok.noex b o e f3
  ·exact absurd (Wc (ua e) (Xe I.ok.bsz f3)) (Wi _)
 ·obtain⟨⟨_,f1,f2,_,_,_⟩,_⟩:=hex b hb;intro z
  rcases xa.mp (I.stkSub b z) with e|e
  ·exact f1 e
  ·exact f2 e
 ·-- a name around, by its cell
  have hi:¬ i<ncv:=λhi=>by
   unfold stC at e2;rw[va (by simpa using hi),vn,if_pos hi] at e2;cases e2
  have ex1:(N'.drop ncv)[i-ncv]?=some x:=by
   rw[List.getElem?_drop];have q:ncv+(i-ncv)=i:=by lia
   rw[q];exact e1
  have hfree:=ok.frees x (Xc ex1);have eN:(js.map λj=>X.N[j]?)[i-ncv]?=some (some x):=by rw[<- ok.at_,We,ex1];rfl
  unfold stC at e2;rw[Xd (by simpa using Wr hi),xm,We] at e2;rw[We] at eN;cases ej:js[i-ncv]? with
  |none=>rw[ej] at e2;cases e2
  |some j =>
   rw[ej] at e2 eN;have e2':(σ[j]?).join=some v:=Option.some.inj e2;have eN':X.N[j]?=some x:=Option.some.inj eN;have eσ:σ[j]?=some (some v):=by
    cases q:σ[j]? with
    |none=>rw[q] at e2';cases e2'
    |some u=>rw[q] at e2';exact congrArg some e2'
   have hvis:X.env.scope.names.lookup x=some .cell\/X.env.scope.names.lookup x=some .free:=ok.free (x,.free) (qx hfree) rfl;obtain⟨m,hn,hl⟩:=I.loc;obtain⟨u,r,l⟩:=hl j x v eN' eσ (.inr hvis);refine⟨u,r,.inr ⟨ZG hfree,?_⟩⟩
   rcases l with ⟨k,_⟩|⟨_,c,ec,z⟩
   ·rcases hvis with q|q
    ·rw[show X.env.kindOf x=X.env.scope.names.lookup x from rfl,q] at k;cases k
    ·rw[show X.env.kindOf x=X.env.scope.names.lookup x from rfl,q] at k;cases k
   ·obtain⟨c',ec'⟩:=qA (env:=X.env) cs.names [] (qx hfree);have:=lk ec';rw[ec] at this;cases this;obtain⟨o,ho,hd⟩:=z;refine⟨c,?_,o,hk c o ho,hd⟩;show(cellsFrom (s3.heap.objs.size+1) cs.names (qd X.env cs.names [])).lookup x=some c;rw[zU _ _ _ (nown hfree)];exact ec'
 ·have hp':p∈X.pn:=by
   have hp1:p∈X.pn++[]:=hp;rw[wo] at hp1;exact hp1
  obtain⟨e1,e2,e3,e4,e5⟩:=I.pin p (ud _ hp');refine⟨hk _ _ e1,e2,Vb (ua e1),λz=>?_,e5⟩
  rcases xa.mp (I.stkSub p.1 z) with e|e
  ·exact e3 e
  ·exact e4 e
 ·have q:=congrArg xp ok.at_;rw[Vd,Vd,wr] at q;unfold stC;show _=N'.length;rw[xf,xm,Vd];have:=ok.ncv
  lia
end
section
variable {X:Cx}
noncomputable def PIf(X:Cx)(ifs:List Expr)(t:TT):Prop:=∀(pins:List (Addr×Obj)) (s:Shared) (σ:L2.St) (H:Hp) (Q:Bool->Hp->Prop),Inv X pins σ H s->t σ H Q->wpAny (model X.prog X.w) X.A (Qb4 ifs X.env) (TP X pins σ Q) X.xe s
noncomputable def tYes:TT:=λ_ H Q=>Q true H
theorem zbR:PIf X [] tYes:=λpins s σ H Q I h=>wpAny_tests_nil ⟨H,I,h⟩
theorem YbT{c:Expr}{t:TT}(h:PT X c t):PIf X [c] t:=λpins s σ H Q I hw=>wpAny_tests_one (h pins s σ H Q I hw)
noncomputable def CompW(J:It)(ncv:Nat)(js:List Nat)(g:TG)(tc:TT)(te:TE)(σ:L2.St)(H:Hp)(Q:VK):Prop :=
 ∃ W:Nat->Nat->List V->L2.St->Hp->Prop,(∃ m,W 0 m [] (stC ncv js σ) H)/\∀ i m acc σ' H',W i m acc σ' H' ->
  (J.stop i H'/\∀ D,H' D=none->Q (.ref D) (upd H' D (.lst acc))) \/
  (J.go i H'/\∀ x H2,J.yld i H' x H2->g x σ' H2 λσ2 H3=>tc σ2 H3 λb H4 =>
   if b=true then te σ2 H4 λy H5=>acc.length<sizeLine/\∃ m',m'<m/\W (i+1) m' (acc++[y]) σ2 H5 else ∃ m',m'<m/\W (i+1) m' acc σ2 H4)
noncomputable def qby(wi:TI)(ncv:Nat)(js:List Nat)(g:TG)(tc:TT)(te:TE):TE:=λσ H Q=>wi σ H λJ H1=>CompW J ncv js g tc te σ H1 Q
theorem Zj{Y:Cx}{pins:List (Addr×Obj)}{σ:L2.St}{H:Hp}{s:Shared}{b:Addr}{o:Obj}(I:Inv Y pins σ H s)(h:(b,o)∈pins):s.heap.get? b=some o/\H b=none :=
 let z:=I.pin (b,o) (uc _ h);⟨z.1,z.2.1⟩
noncomputable def Yb2(X:Cx)(J:It)(fp:List Addr)(it:Addr)(tn:Nat->Heap->Prop):Prop :=
 ∀(Y:Cx),Y.prog=X.prog->Y.w=X.w->Y.K=X.K->Y.calm=X.calm->Y.A=X.A->Y.pn=X.pn->∀(i:Nat)(pins:List (Addr×Obj)) (s:Shared) (σ:L2.St) (H:Hp) (E:Value->Shared->Prop),Inv Y pins σ H s->(∀ b∈fp,YH Y pins H b)->tn i s.heap->J.stop i H ->
  wpAny (model X.prog X.w) X.A (pyNext (.ref it)) (λr s1=>r=none/\Inv Y pins σ H s1) E s
noncomputable def qb2(X:Cx)(tg:Expr)(J:It)(fp:List Addr)(it:Addr)(tn:Nat->Heap->Prop):Prop :=
 ∀(Y:Cx),Y.prog=X.prog->Y.w=X.w->Y.K=X.K->Y.calm=X.calm->Y.A=X.A->∀(i:Nat)(pins:List (Addr×Obj)) (s:Shared) (σ:L2.St) (H:Hp) (E:Value->Shared->Prop),Inv Y pins σ H s->(∀ b∈fp,YH Y pins H b)->tn i s.heap->J.go i H ->
  wpAny (model X.prog X.w) X.A (pyNext (.ref it)) (λr s1=>∃ u,r=some u /\
   wpAny (model X.prog X.w) X.A (letOwnedTupleGo tg (.ref it) u) (λ_ s2=>∃ x H',Inv Y pins σ H' s2/\RelV x u/\J.yld i H x H'/\tn (i+1) s2.heap/\∀ b∈fp,H' b=none) E s1) E s
theorem Yak{elt iter tg:Expr}{ifs:List Expr}{cs:Scope}{pos:Pos}{N':List Str}{ncv:Nat}{js:List Nat}{g:TG}{tc:TT}{te:TE}{pins:List (Addr×Obj)}{σ:L2.St}{H2:Hp}{s2:Shared}{it:Addr}{fp:List Addr}{tn:Nat->Heap->Prop}{J:It}{Q:VK}
  {RR:Value->Addr->Result->Shared->Prop} {E:Value->Shared->Prop}
  (ok:CompOk X.env.scope X.N cs N' ncv js) (hg:∀ C s3 H ex,PG (cxC X cs N' C s3 H ex) tg g) (hif:∀ C s3 H ex,PIf (cxC X cs N' C s3 H ex) ifs tc) (helt:∀ C s3 H ex,PE (cxC X cs N' C s3 H ex) elt te)
  (I2:Inv X pins σ H2 s2) (mem:it∈fp) (obj:∀ i h,tn i h->∀ b∈fp,∃ o,h.get? b=some o/\∀ v,o.data≠.cell v) (keep:∀ i h h',tn i h->(∀ b∈fp,∀ o,h.get? b=some o->h'.get? b=some o)->tn i h')
  (item:qb2 X tg J fp it tn) (done:Yb2 X J fp it tn) (self:∀(A:Around)(i:Nat)(s:Shared)(Q:Value->Shared->Prop)(E:Value->Shared->Prop),tn i s.heap->Q (.ref it) s->wpAny (model X.prog X.w) A (pyIter (.ref it)) Q E s)
  (st2:tn 0 s2.heap) (f2:∀ b∈fp,YH X pins H2 b) (W:Nat->Nat->List V->L2.St->Hp->Prop) (w0:∃ m,W 0 m [] (stC ncv js σ) H2)
  (turn:∀ i m acc σ' H',W i m acc σ' H'->(J.stop i H'/\∀ D,H' D=none->Q (.ref D) (upd H' D (.lst acc))) \/
   (J.go i H'/\∀ x H2,J.yld i H' x H2->g x σ' H2 λσ2 H3=>tc σ2 H3 λb H4 =>
    if b=true then te σ2 H4 λy H5=>acc.length<sizeLine/\∃ m',m'<m/\W (i+1) m' (acc++[y]) σ2 H5 else ∃ m',m'<m/\W (i+1) m' acc σ2 H4))
  (fin:∀(D C:Addr)(acc:List V)(H':Hp)(s6:Shared),Inv X pins σ (upd H' D (.lst acc)) s6->YH X pins (upd H' D (.lst acc)) C->X.s₀.heap.objs.size<=C->(∃ m,s6.heap.Ns C m)->Q (.ref D) (upd H' D (.lst acc))->RR (.ref D) C (.ok .next) s6) :
  wpAny (model X.prog X.w) X.A (newList []) (λacc s3=>wpAny (model X.prog X.w) X.A (newFunctionEnv cs X.env.globals (qd X.env cs.names []) [] X.env.qual none .none (some X.env)) (λcenv s4 =>
   codeAny (model X.prog X.w) X.A (.compStart (.ListComp elt [⟨tg,iter,ifs,0⟩] cs pos) 0 (.ref it) acc {cenv with scope:=relabel cs X.env}) (RR acc cenv.locals) s4) E s3) E s2:=by
 refine wpAny_newObj_type (Qaq λh1 hns hup hcl=>?_);obtain⟨s3,es3⟩:∃ s3:Shared,s3={s2 with heap:=s2.heap.push {cls:=.type "list",dict:=none,data:=.seq ([]:List Value).toArray}}:=⟨_,rfl⟩;have I3:Inv X pins σ H2 s3:=by rw[es3];exact I2.kept (t':=s2.toks) λb o e=>wa _ e
 have sz3:s3.heap.objs.size=s2.heap.objs.size+1:=by rw[es3];exact xh ..
 have gD3:s3.heap.get? s2.heap.objs.size=some {cls:=.type "list",dict:=none,data:=.seq ([]:List Value).toArray}:=by rw[es3];exact Wb _ rfl
 have up3:∀ b o,s2.heap.get? b=some o->s3.heap.get? b=some o:=λb o e=>by rw[es3];exact wa _ e
 have es4:∀ tk,({s2 with heap:=h1,toks:=tk}:Shared)={s3 with heap:=h1,toks:=tk}:=λtk=>by rw[es3]
 have hns':h1.Ns s3.heap.objs.size λ_=>none:=by rw[es3];exact hns
 have up4:∀ b o,s3.heap.get? b=some o->h1.get? b=some o:=by rw[es3];exact hup
 have hcl':(∀ x c,(qd X.env cs.names []).lookup x=some c->∃ v,s3.heap.IsCell c v)->∀ x c,(cellsFrom (s3.heap.objs.size+1) cs.names (qd X.env cs.names [])).lookup x=some c->∃ v,h1.IsCell c v:=by rw[es3];exact hcl
 generalize hD:s2.heap.objs.size=D at *;have fD:YH X pins H2 D:=I2.fpOk (Vl hD) (I2.hok.fresh (Vl hD));have szD:X.s₀.heap.objs.size<=D:=hD ▸ I2.sz;have ltf:∀ b∈fp,b<D:=λb hb=>let ⟨o,e,_⟩:=obj 0 _ st2 b hb;hD ▸ ua e;have hex:∀ b∈D::fp,YH X pins H2 b/\b<s3.heap.objs.size:=λb hb=>by
  rcases xa.mp hb with e|hb
  ·subst e;exact⟨fD,by rw[sz3];exact Uj _⟩
  ·exact⟨f2 b hb,by rw[sz3];exact Xo (ltf b hb)⟩
 obtain⟨C,hC⟩:∃ C,C=s3.heap.objs.size:=⟨_,rfl⟩;have I4:∀ tk,Inv (cxC X cs N' C s3 H2 (D::fp)) [] (stC ncv js σ) H2 {s3 with heap:=h1,toks:=tk}:=λtk=>by rw[hC];exact qa4 I3 ok hex hns' up4 hcl'
 have DC:D≠C:=by rw[hC,sz3];exact Vb (Uj _)
 -- the iterator's objects, and the list, in the block
 have fpY:∀{pl:List (Addr×Obj)} {H':Hp} {b:Addr},b∈D::fp->H' b=none->(∀ p∈pl,p.1≠b)->YH (cxC X cs N' C s3 H2 (D::fp)) pl H' b:=λ{pl H' b} hb hn hp=>by
  obtain⟨⟨g0,g1,g2,g3,g4,g5⟩,lt⟩:=hex b hb;refine⟨hn,hC ▸ Vb lt,λz=>?_,.inl hb,λx c e=>?_,λp hp'=>?_⟩
  ·rcases xa.mp (I3.stkSub b z) with e|e
   ·exact g1 e
   ·exact g2 e
  ·rcases qU cs.names _ _ e with q|q
   ·exact g4 x c (Yr cs.names [] (λy hy e=>I3.ok.has y.1 (ok.free y hy e)) (λ_ _ z=>by simp at z) q)
   ·exact Ul (Wq (hC ▸ lt) q)
  ·rcases Uf.mp hp' with z|z
   ·exact g5 p (ud _ z)
   ·exact hp p z
 have lp:∀ tk,codeAny (model X.prog X.w) X.A (.compLoop (.ListComp elt [⟨tg,iter,ifs,0⟩] cs pos) 0 (.ref it) (.ref D) (cxC X cs N' C s3 H2 (D::fp)).env) (RR (.ref D) C) {s3 with heap:=h1,toks:=tk}:=λtk=>by
  obtain⟨m0,w0⟩:=w0;refine Zbm (λn s=>∃ i acc ys k σ' H',Inv (cxC X cs N' C s3 H2 (D::fp)) [] σ' H' s/\tn i s.heap/\(∀ b∈fp,H' b=none)/\H' D=none/\s.heap.get? D=some {cls:=.type "list",data:=.seq ys k}/\Vals acc ys.toList/\acc.length<=sizeLine/\W i n acc σ' H') ?_ m0
   ⟨0,[],#[],0,_,_,I4 tk,keep _ _ _ st2 λb hb o e=>up4 b o (up3 b o e),λb hb=>(f2 b hb).1,fD.1,up4 _ _ gD3,.nil,Wp _,w0⟩
  rintro n s5 ⟨i,acc,ys,k,σ5,H5,I5,t5,n5,d5,g5,v5,l5,w5⟩;have I5p:=I5.pinned (fp:=[D]) (λb hb=>by obtain rfl:=Ua.mp hb;exact fpY uh d5 λp hp=>nomatch hp) (λb hb=>by obtain rfl:=Ua.mp hb;exact⟨_,g5,λv z=>nomatch z⟩);have hpin:Y3 [D] s5.heap=[(D,{cls:=.type "list",data:=.seq ys k})]:=by simp[Y3,g5]
  rw[hpin,vf] at I5p;have fpp:∀ b∈fp,YH (cxC X cs N' C s3 H2 (D::fp)) [(D,{cls:=.type "list",data:=.seq ys k})] H5 b:=λb hb=>fpY (Ve _ hb) (n5 b hb) λp hp=>by
   obtain rfl:=Ua.mp hp;exact Ul (ltf b hb)
  rcases turn i n acc σ5 H5 w5 with ⟨stop,qf⟩|⟨go,step⟩
  ·refine thn (done (cxC X cs N' C s3 H2 (D::fp)) rfl rfl rfl rfl rfl rfl i _ s5 σ5 H5 _ I5p fpp t5 stop) λr s6 ⟨hr,I6⟩=>?_;subst hr;obtain⟨g6,d6⟩:=Zj I6 (Ua.mpr rfl);have IX:Inv X pins σ H5 s6:=I3.call' (ch:=D::fp) I6.os I6.base I6.hok I6.bare λb hb=>by
    obtain⟨⟨_,e1,_,e3,e4,e5⟩,_⟩:=hex b hb;exact⟨e3,e1,e4,e5⟩
   obtain⟨_,e1,e2,e3,e4,e5⟩:=fD;have IXD:=YZ (o:=.lst acc) IX ⟨d6,e1,e2,e3,e4,e5⟩ szD ⟨l5,ys.toList,k,v5,by simpa using g6⟩;have fC:YH X pins (upd H5 D (.lst acc)) C:=by
    have hn:(upd H5 D (.lst acc)) C=none:=by rw[Qa (Ne.symm DC)];exact I6.free
    have z:=I3.fpOk (b:=C) (Vl hC.symm) (I3.hok.fresh (Vl hC.symm));exact⟨hn,z.2⟩
   obtain⟨m,hm,_⟩:=I6.loc;exact fin D C acc H5 s6 IXD fC (Xe szD (by rw[hC,sz3];exact Vw _)) ⟨m,hm⟩ (qf D d6)
  ·refine thn (item (cxC X cs N' C s3 H2 (D::fp)) rfl rfl rfl rfl rfl i _ s5 σ5 H5 _ I5p fpp t5 go) λr s6 ⟨u,hr,h6⟩=>?_;subst hr;refine thn h6 λ_ s7 ⟨x,H7,I7,r7,y7,t7,n7⟩=>?_;obtain⟨g7,d7⟩:=Zj I7 (Ua.mpr rfl);have I7p:=I7.pinned (fp:=fp) (λb hb=>fpY (Ve _ hb) (n7 b hb) λp hp=>by obtain rfl:=Ua.mp hp;exact Ul (ltf b hb)) (obj _ _ t7);refine thn (hg _ _ _ _ _ s7 σ5 H7 x u _ I7p r7 (step x H7 y7)) λ_ s8 ⟨σ8,H8,I8,q8⟩=>?_;refine thn (hif _ _ _ _ _ s8 σ8 H8 _ I8 q8) λb s9 ⟨H9,I9,q9⟩=>?_;cases b with
   |false =>
    rw[if_neg Wh] at q9 ⊢;obtain⟨m',hm,w9⟩:=q9;obtain⟨g9,d9⟩:=Zj I9 (ud _ (Ua.mpr rfl));refine⟨m',hm,i+1,acc,ys,k,σ8,H9,I9.pins_of (λp hp=>nomatch hp),keep _ _ _ t7 λb hb o e=>(Zj I9 (uc _ (zn hb e))).1,λb hb=>?_,d9,g9,v5,l5,w9⟩;obtain⟨o,e,_⟩:=obj _ _ t7 b hb;exact(Zj I9 (uc _ (zn hb e))).2
   |true =>
    rw[if_pos rfl] at q9 ⊢;refine thn (helt _ _ _ _ _ s9 σ8 H9 _ I9 q9) λyv s10 ⟨y,H10,I10,r10,lt,m',hm,w10⟩=>?_;obtain⟨g10,d10⟩:=Zj I10 (ud _ (Ua.mpr rfl));have t10:tn (i+1) s10.heap:=keep _ _ _ t7 λb hb o e=>(Zj I10 (uc _ (zn hb e))).1;have n10:∀ b∈fp,H10 b=none:=λb hb=>by
     obtain⟨o,e,_⟩:=obj _ _ t7 b hb;exact(Zj I10 (uc _ (zn hb e))).2
    have I10':Inv (cxC X cs N' C s3 H2 (D::fp)) [] σ8 H10 s10:=I10.pins_of λp hp=>nomatch hp;have lys:ys.size=acc.length:=by have:=v5.length;simp at this;lia
    refine wpAny_list_append_plain (hsz:=by lia) (show s10.heap.PlainList D ys from⟨k,g10⟩) λh11 p11 sb11=>?_;obtain⟨_,a1,a2,a3,a4,a5⟩:=fpY (pl:=[]) (H':=H10) (b:=D) uh d10 λp hp=>nomatch hp;obtain⟨k11,g11⟩:=p11;refine⟨m',hm,i+1,acc++[y],ys.push yv,k11,σ8,H10,I10'.turned (t':=s10.toks) (it:=D) (λb o hb e=>(sb11.2 b hb).trans e) d10 a1 a3 a4 a5,keep _ _ _ t10 λb hb o e=>(sb11.2 b (Vb (ltf b hb))).trans e,n10,d10,g11,?_,by rw[xf,Xx];exact lt,w10⟩;rw[Array.toList_push];exact v5.append (.cons r10 .nil)
 have R1:∀ tk,codeAny (model X.prog X.w) X.A (.compStart (.ListComp elt [⟨tg,iter,ifs,0⟩] cs pos) 0 (.ref it) (.ref D) (cxC X cs N' C s3 H2 (D::fp)).env) (RR (.ref D) C) {s3 with heap:=h1,toks:=tk}:=λtk =>
  codeAny_compStart_list (lp tk) (self _ 0 _ _ _ (keep _ _ _ st2 λb hb o e=>up4 b o (up3 b o e)) (lp tk))
 have R2:=R1 s2.toks;rw[<- es4] at R2;subst hD;rw[hC,es3] at R2;exact R2
end
section
variable {X:Cx} {pins:List (Addr×Obj)} {σ:L2.St} {H:Hp} {s:Shared} {h':Heap}
theorem yo{t':Nat}{ch:List Addr}(I:Inv X pins σ H s)(f:∀ b∈ch,YH X pins H b)(k:∀ b o,b∉ch->s.heap.get? b=some o->h'.get? b=some o):Inv X pins σ H {s with heap:=h',toks:=t'}:=by
 have nt:∀ b u,H b=some u->b∉ch:=λb u e z=>by
  have q:=(f b z).1;rw[e] at q;cases q
 refine I.step (g':=s.gens) (d':=s.drawn) (ch:=ch) (λb hb=>?_) (λb o _ _ hc e _=>k b o hc e) (λb o _ _ hc e _=>⟨o.slots,k b o hc e⟩) (λ_ _ _ _ n=>n) (λb o hc e=>⟨o,k b o hc e⟩) (λ_ _ e=>e) (λ_ _ _ e=>e) (λb ps e=>⟨#[],by rw[e];simp⟩) (λm hm=>?_) (λb u e=>?_) I.bare
 ·obtain⟨_,f1,f2,f3,f4,f5⟩:=f b hb;exact⟨f3,f1,f4,f5⟩
 ·obtain⟨o,es,ep,ho,r⟩:=hm;exact⟨o,es,ep,k _ o (λz=>(f _ z).2.1 rfl) ho,r⟩
 ·refine(I.hok b u e).stay (λc v hc q=>k c v ?_ q) (λ_ q=>q) λ_ _ q=>q
  rcases hc with z|z
  ·rw[z];exact nt b u e
  ·exact nt c _ z
noncomputable def SqS(K:PySem.W.Frag)(H:Hp)(b:Bool)(a:Addr)(xs:List V):Prop:=if b=true then SqT K H a xs else SqL K H a xs
theorem Qm{b:Bool}{a:Addr}{xs:List V}(I:Inv X pins σ H s)(h:SqS X.K H b a xs):∃ its:List Value,Vals xs its/\SeqIs s.heap b a its.toArray/\xs.length<=sizeLine:=by
 cases b with
 |false=>obtain⟨its,r,p,z⟩:=I.list (show SqL X.K H a xs from h);exact⟨its,r,p.isList,z⟩
 |true=>obtain⟨its,r,p,z⟩:=I.tuple (show SqT X.K H a xs from h);exact⟨its,r,p,z⟩
theorem qJ{b:Bool}{a:Addr}{xs ys:List V}(I:Inv X pins σ H s)(h:SqS X.K H b a xs)(h':SqS X.K H b a ys):xs=ys:=by
 cases b with
 |false=>exact I.list_inj (show SqL X.K H a xs from h) h'
 |true=>exact I.tuple_inj (show SqT X.K H a xs from h) h'
noncomputable def Itz(K:PySem.W.Frag)(b1 b2:Bool)(a1 a2:Addr):It :=
 ⟨λi H=>∃ xs ys,SqS K H b1 a1 xs/\SqS K H b2 a2 ys/\i<xs.length/\i<ys.length,
 λi H x H'=>∃ T x1 y1,x=.ref T/\H T=none/\H'=upd H T (.tup [x1,y1])/\(∀ xs,SqS K H b1 a1 xs->xs[i]?=some x1)/\(∀ ys,SqS K H b2 a2 ys->ys[i]?=some y1),
 λi H=>∃ xs ys,SqS K H b1 a1 xs/\SqS K H b2 a2 ys/\(i=xs.length\/(i<xs.length/\i=ys.length))⟩
noncomputable def Ite(K:PySem.W.Frag)(b:Bool)(a:Addr):It :=
 ⟨λi H=>∃ xs,SqS K H b a xs/\i<xs.length,
 λi H x H'=>∃ T x1,x=.ref T/\H T=none/\H'=upd H T (.tup [.int i,x1])/\(∀ xs,SqS K H b a xs->xs[i]?=some x1),
 λi H=>∃ xs,SqS K H b a xs/\i=xs.length⟩
theorem Qh{A:Around}(h:A.handled=none):A.in1.handled=none:=h
theorem ybB{P:Program}{w:World}{K:PySem.W.Frag}{es:List Expr}{kt:Nat}{pt:Pos}{b1 b2:Bool}{a1 a2 z TI TO i1 i2:Addr}(Z:∀ m,(∀ a∈[a1,a2],a<m)->(∀ a∈[z,TI,TO,i1,i2],m<=a)->ZAp z TI TO i1 i2 [i1,a1] [i2,a2])
  (m:Nat) (h1:∀ a∈[a1,a2],a<m) (h2:∀ a∈[z,TI,TO,i1,i2],m<=a) :
  Turn P w K (.Tuple es kt pt) (Itz K b1 b2 a1 a2) [z,TI,TO,i1,i2] z (λi h=>IsZip h z TI TO .none/\IsPair h TI (.ref i1) (.ref i2)/\(∃ a b,IsPair h TO a b)/\SeqIt h b1 i1 a1 i/\SeqIt h b2 i2 a2 i) where
 mem:=by simp
 obj:=λi h ⟨e1,e2,⟨a,b,e3⟩,e4,e5⟩ c hc=>by
  simp only[xa,Ub,or_false] at hc
  rcases hc with rfl|rfl|rfl|rfl|rfl
  ·exact⟨_,e1,λv q=>nomatch q⟩
  ·exact⟨_,e2,λv q=>nomatch q⟩
  ·exact⟨_,e3,λv q=>nomatch q⟩
  ·exact e4.obj
  ·exact e5.obj
 keep:=λi h h' ⟨e1,e2,⟨a,b,e3⟩,e4,e5⟩ k=>⟨k z (by simp) _ e1,k TI (by simp) _ e2,⟨a,b,k TO (by simp) _ e3⟩,e4.keeps λo e=>k i1 (by simp) o e,e5.keeps λo e=>k i2 (by simp) o e⟩
 item:=by
  intro X hP hw hK hc i pins s σ H E I hf ⟨e1,e2,⟨a,b,e3⟩,e4,e5⟩ hg;subst hP hw hK;obtain⟨xs,ys,q1,q2,l1,l2⟩:=hg;obtain⟨its1,v1,p1,_⟩:=Qm I q1;obtain⟨its2,v2,p2,_⟩:=Qm I q2;have ZZ:=Z m h1 h2;have n1:a1≠i1:=Vb (Wc (h1 a1 (by simp)) (h2 i1 (by simp)));have n2:a2≠i2:=Vb (Wc (h1 a2 (by simp)) (h2 i2 (by simp)));have D1:=YC (prog:=X.prog) (w:=X.w) (Qh (I.ok.hd hc)) b1 i1 a1 n1 its1.toArray;have D2:=YC (prog:=X.prog) (w:=X.w) (Qh (I.ok.hd hc)) b2 i2 a2 n2 its2.toArray;have hl1:=v1.length;have hl2:=v2.length;refine Yab ZZ D1 D2 e1 e2 e3 ⟨e4,p1⟩ ⟨e5,p2⟩ (by simp;lia) (by simp;lia) λx y g tk px py f1 f2 f3 f4 f5 f6 f7=>⟨_,rfl,?_⟩;refine wpAny_letOwnedTupleGo_zip (s:={s with heap:=g,toks:=tk}) f1 λg' f8 f9=>?_;obtain⟨x1,hx1⟩:∃ x1,xs[i]?=some x1:=⟨xs[i],by simp[l1]⟩;obtain⟨y1,hy1⟩:∃ y1,ys[i]?=some y1:=⟨ys[i],by simp[l2]⟩;obtain⟨u1,hu1,r1⟩:=v1.get hx1;obtain⟨u2,hu2,r2⟩:=v2.get hy1;have ex:x=u1:=by have z:its1.toArray[i]?=some x:=px;simp[hu1] at z;exact z.symm
  have ey:y=u2:=by have z:its2.toArray[i]?=some y:=py;simp[hu2] at z;exact z.symm
  subst ex ey;have zlt:z≠s.heap.objs.size:=Vb (ua e1);have I1:Inv X pins σ H {s with heap:=g',toks:=tk}:=yo (ch:=[z,TI,TO,i1,i2]) I hf λc o hc' e=>by
   simp only[xa,Ub,or_false,not_or] at hc';exact(f9.2 c hc'.1).trans (f7 c o hc'.1 hc'.2.2.1 hc'.2.2.2.1 hc'.2.2.2.2 e)
  have fT:=I.fpOk (b:=s.heap.objs.size) (wb _) (I.hok.fresh (wb _));have gT:g'.get? s.heap.objs.size=some {cls:=.type "tuple",data:=.seq #[x,y]}:=(f9.2 _ (Ne.symm zlt)).trans f5;have I2:Inv X pins σ (upd H s.heap.objs.size (.tup [x1,y1])) {s with heap:=g',toks:=tk}:=YZ I1 fT I.sz ⟨by show 2<=sizeLine;decide,[x,y],.cons r1 (.cons r2 .nil),⟨_,gT,rfl,_,rfl⟩⟩;have kz:∀ c∈[TI,TO,i1,i2],c≠z:=λc hc'=>by
   simp only[xa,Ub,or_false] at hc'
   rcases hc' with rfl|rfl|rfl|rfl
   ·exact ZZ.tiz
   ·exact ZZ.toz
   ·exactλq=>ZZ.z1 (q ▸ ZZ.m1)
   ·exactλq=>ZZ.z2 (q ▸ ZZ.m2)
  refine⟨.ref s.heap.objs.size,_,I2,rfl,⟨_,x1,y1,rfl,fT.1,rfl,λzs hz=>by rw[qJ I hz q1];exact hx1,λzs hz=>by rw[qJ I hz q2];exact hy1⟩,
   ⟨f8,(f9.2 TI (kz TI (by simp))).trans (f7 TI _ ZZ.tiz ZZ.tito ZZ.ti1 ZZ.ti2 e2),⟨x,y,(f9.2 TO (kz TO (by simp))).trans f2⟩,f3.1.keeps λo e=>(f9.2 i1 (kz i1 (by simp))).trans e,f4.1.keeps λo e=>(f9.2 i2 (kz i2 (by simp))).trans e⟩,λc hc'=>?_⟩
  have lt:c<s.heap.objs.size:=by
   simp only[xa,Ub,or_false] at hc'
   rcases hc' with rfl|rfl|rfl|rfl|rfl
   ·exact ua e1
   ·exact ua e2
   ·exact ua e3
   ·exact let ⟨o,e,_⟩:=e4.obj;ua e
   ·exact let ⟨o,e,_⟩:=e5.obj;ua e
  rw[Qa (Vb lt)];exact(hf c hc').1
 done:=by
  intro X hP hw hK hc i pins s σ H E I hf ⟨e1,e2,⟨a,b,e3⟩,e4,e5⟩ hg;subst hP hw hK;obtain⟨xs,ys,q1,q2,hk⟩:=hg;obtain⟨its1,v1,p1,_⟩:=Qm I q1;obtain⟨its2,v2,p2,_⟩:=Qm I q2;have ZZ:=Z m h1 h2;have n1:a1≠i1:=Vb (Wc (h1 a1 (by simp)) (h2 i1 (by simp)));have n2:a2≠i2:=Vb (Wc (h1 a2 (by simp)) (h2 i2 (by simp)));have D1:=YC (prog:=X.prog) (w:=X.w) (Qh (I.ok.hd hc)) b1 i1 a1 n1 its1.toArray;have D2:=YC (prog:=X.prog) (w:=X.w) (Qh (I.ok.hd hc)) b2 i2 a2 n2 its2.toArray;have hl1:=v1.length;have hl2:=v2.length;refine zag ZZ D1 D2 e1 e2 e3 ⟨e4,p1⟩ ⟨e5,p2⟩ (by simp;lia) λg tk k=>⟨rfl,?_⟩;exact yo (ch:=[z,TI,TO,i1,i2]) I hf λc o hc' e=>by
   simp only[xa,Ub,or_false,not_or] at hc';exact k c o hc'.1 hc'.2.2.1 hc'.2.2.2.1 hc'.2.2.2.2 e
 self:=λ_ _ _ _ _ st h=>wpAny_pyIter_zip st.1 h
theorem ybr{P:Program}{w:World}{K:PySem.W.Frag}{es:List Expr}{kt:Nat}{pt:Pos}{b:Bool}{a e it:Addr}(h1:a≠it)(h2:a≠e)(h3:e≠it) :
  Turn P w K (.Tuple es kt pt) (Ite K b a) [e,it] e (λi h=>(∃ old,IsEnum h e it i old)/\SeqIt h b it a i) where
 mem:=by simp
 obj:=λi h ⟨⟨old,e1⟩,e2⟩ c hc=>by
  simp only[xa,Ub,or_false] at hc
  rcases hc with rfl|rfl
  ·exact⟨_,e1,λv q=>nomatch q⟩
  ·exact e2.obj
 keep:=λi h h' ⟨⟨old,e1⟩,e2⟩ k=>⟨⟨old,k e (by simp) _ e1⟩,e2.keeps λo q=>k it (by simp) o q⟩
 item:=by
  intro X hP hw hK hc i pins s σ H E I hf ⟨⟨old,e1⟩,e2⟩ hg;subst hP hw hK;obtain⟨xs,q1,l1⟩:=hg;obtain⟨its1,v1,p1,_⟩:=Qm I q1;have D1:=YC (prog:=X.prog) (w:=X.w) (Qh (I.ok.hd hc)) b it a h1 its1.toArray;have hl1:=v1.length;refine wpAny_pyNext_enum_itemD D1 e1 ⟨e2,p1⟩ (by simp;lia) h3 (by simp[h3,Ne.symm h2]) λx g tk px f1 f2 f3 f4 f5=>⟨_,rfl,?_⟩;refine wpAny_letOwnedTupleGo_enum (s:={s with heap:=g,toks:=tk+1}) f1 λg' f6 f7=>?_;obtain⟨x1,hx1⟩:∃ x1,xs[i]?=some x1:=⟨xs[i],by simp[l1]⟩;obtain⟨u1,hu1,r1⟩:=v1.get hx1;have ex:x=u1:=by have z:its1.toArray[i]?=some x:=px;simp[hu1] at z;exact z.symm
  subst ex;have elt:e≠s.heap.objs.size:=Vb (ua e1);have I1:Inv X pins σ H {s with heap:=g',toks:=tk+1}:=yo (ch:=[e,it]) I hf λc o hc' q=>by
   simp only[xa,Ub,or_false,not_or] at hc';exact(f7.2 c hc'.1).trans (f5 c o hc'.1 hc'.2 q)
  have fT:=I.fpOk (b:=s.heap.objs.size) (wb _) (I.hok.fresh (wb _));have gT:g'.get? s.heap.objs.size=some {cls:=.type "tuple",data:=.seq #[.int i tk,x]}:=(f7.2 _ (Ne.symm elt)).trans f3;have I2:Inv X pins σ (upd H s.heap.objs.size (.tup [.int i,x1])) {s with heap:=g',toks:=tk+1}:=YZ I1 fT I.sz ⟨by show 2<=sizeLine;decide,[.int i tk,x],.cons ⟨_,rfl⟩ (.cons r1 .nil),⟨_,gT,rfl,_,rfl⟩⟩;refine⟨.ref s.heap.objs.size,_,I2,rfl,⟨_,x1,rfl,fT.1,rfl,λzs hz=>by rw[qJ I hz q1];exact hx1⟩,⟨⟨_,by have q:=f6;exact q⟩,f2.1.keeps λo q=>(f7.2 it (Ne.symm h3)).trans q⟩,λc hc'=>?_⟩;have lt:c<s.heap.objs.size:=by
   simp only[xa,Ub,or_false] at hc'
   rcases hc' with rfl|rfl
   ·exact ua e1
   ·exact let ⟨o,q,_⟩:=e2.obj;ua q
  rw[Qa (Vb lt)];exact(hf c hc').1
 done:=by
  intro X hP hw hK hc i pins s σ H E I hf ⟨⟨old,e1⟩,e2⟩ hg;subst hP hw hK;obtain⟨xs,q1,hk⟩:=hg;obtain⟨its1,v1,p1,_⟩:=Qm I q1;have D1:=YC (prog:=X.prog) (w:=X.w) (Qh (I.ok.hd hc)) b it a h1 its1.toArray;have hl1:=v1.length;refine wpAny_pyNext_enum_endD D1 e1 (by rw[show its1.toArray.size=i from by simp;lia];exact⟨e2,p1⟩) λg k=>⟨rfl,?_⟩;exact yo (t':=s.toks) (ch:=[e,it]) I hf λc o hc' q=>by
   simp only[xa,Ub,or_false,not_or] at hc';exact k c o hc'.2 q
 self:=λ_ _ _ _ _ st h=>let ⟨_,e1⟩:=st.1;wpAny_pyIter_enum e1 h
end
section
variable {X:Cx}
theorem Ya8{tg:Expr}{J:It}{fp:List Addr}{it:Addr}{tn:Nat->Heap->Prop}(hc:X.calm=true)(T:Turn X.prog X.w X.K tg J fp it tn):qb2 X tg J fp it tn :=
 λY e1 e2 e3 e4 e5 i pins s σ H E I f t g=>by
  have q:=T.item Y e1 e2 e3 (e4.trans hc) i pins s σ H E I f t g;rw[e5] at q;exact q
theorem ya9{tg:Expr}{J:It}{fp:List Addr}{it:Addr}{tn:Nat->Heap->Prop}(hc:X.calm=true)(T:Turn X.prog X.w X.K tg J fp it tn):Yb2 X J fp it tn :=
 λY e1 e2 e3 e4 e5 _ i pins s σ H E I f t g=>by
  have q:=T.done Y e1 e2 e3 (e4.trans hc) i pins s σ H E I f t g;rw[e5] at q;exact q
variable {elt iter tg:Expr} {ifs:List Expr} {cs:Scope} {pos:Pos} {wi:TI} {g:TG} {tc:TT} {te:TE}
theorem qbU(N':List Str)(ncv:Nat)(js:List Nat)(hok:qv X.env.scope X.N cs N' ncv js=true)(hc:X.calm=true)(hi:PI X tg iter wi)(hg:∀ C s3 H ex,PG (cxC X cs N' C s3 H ex) tg g)(hif:∀ C s3 H ex,PIf (cxC X cs N' C s3 H ex) ifs tc)
  (helt:∀ C s3 H ex,PE (cxC X cs N' C s3 H ex) elt te) (hs:∀ x,foldedSetIterable iter X.env x=pure x:=by intro _;rfl):PE X (.ListComp elt [⟨tg,iter,ifs,0⟩] cs pos) (qby wi ncv js g tc te):=by
 intro pins s σ H Q I h;have ok:=CompOk.of hok;rw[eval_ListComp];refine wpAny_comprehension_free (use:=none) rfl hs (zal λy hy e=>I.ok.has y.1 (ok.free y hy e)) ok.kind ok.locs (thn (hi pins s σ H _ I h) λv s1 h1=>thn h1 λitv s2 h2=>?_);obtain⟨it,fp,tn,J,H2,e,I2,T,st2,f2,W,w0,turn⟩:=h2;subst e;refine Yak (Q:=Q) (RR:=λacc C=>compPost (model X.prog X.w) X.A X.xe none (EP X pins σ Q) acc C) ok hg hif helt I2 T.mem T.obj T.keep (Ya8 hc T) (ya9 hc T) T.self st2 f2 W w0 turn λD C acc H' s6 IX fC zC hm q=>?_;obtain⟨m,hm⟩:=hm;refine⟨m,hm,λh' sb=>⟨.ref D,_,?_,rfl,q⟩⟩;exact yo (t':=s6.toks) (ch:=[C]) IX (λb hb=>by obtain rfl:=Ua.mp hb;exact fC) λb o hb e=>(sb.2 b λz=>hb (by simp[z])).trans e
theorem ZbO{i:Nat}{x:Str}{pos' spos:Pos}(hN:X.N.Nodup)(hi0:X.N[i]?=some x)(hx:Loc X.env.scope x)(N':List Str)(ncv:Nat)(js:List Nat)(hok:qv X.env.scope X.N cs N' ncv js=true)(hc:X.calm=true)(hi:PI X tg iter wi)
  (hg:∀ C s3 H ex,PG (cxC X cs N' C s3 H ex) tg g) (hif:∀ C s3 H ex,PIf (cxC X cs N' C s3 H ex) ifs tc) (helt:∀ C s3 H ex,PE (cxC X cs N' C s3 H ex) elt te)
  (hsw:swapsWith (.ListComp elt [⟨tg,iter,ifs,0⟩] cs pos) (some (.Name x pos')) spos.line X.env=pure true:=by rfl) (hs:∀ x,foldedSetIterable iter X.env x=pure x:=by intro _;rfl)
  (hf:X.fn x=true\/X.env.scope.names.lookup x=some .local:=by first|exact .inl rfl|exact .inr rfl|assumption) :
  PS X (.Assign [.Name x pos'] (.ListComp elt [⟨tg,iter,ifs,0⟩] cs pos) spos) (tAsg (qby wi ncv js g tc te) (qa8 i)):=by
 intro pins s σ H D0 I h;have ok:=CompOk.of hok;rw[exec_Assign_Name_used _ _ _ _ hsw];refine wpAny_bind (wpAny_standAt (wpAny_bind ?_));show wpAny _ X.A (do let _<-comprehension (.ListComp elt [⟨tg,iter,ifs,0⟩] cs pos) cs X.env _ (newList []) false (eval iter X.env) (some (assign (.Name x pos') X.env))) _ _ s;refine wpAny_bind (wpAny_mono (wpAny_comprehension_free (use:=some (assign (.Name x pos') X.env)) (Q:=λ_ s'=>SP X pins D0 .next s') rfl hs (zal λy hy e=>I.ok.has y.1 (ok.free y hy e)) ok.kind ok.locs (thn (hi pins s σ H _ I h) λv s1 h1=>thn h1 λitv s2 h2=>?_))
  (λ_ s' hq=>wpAny_pure (wpAny_pure hq)) λ_ _ e=>e)
 obtain⟨it,fp,tn,J,H2,e,I2,T,st2,f2,W,w0,turn⟩:=h2;subst e;refine Yak (Q:=λv H'=>qa8 i v σ H' D0.nx) (RR:=λacc C=>compPost (model X.prog X.w) X.A X.xe (some (assign (.Name x pos') X.env)) (λ_ s'=>SP X pins D0 .next s') acc C) ok hg hif helt I2 T.mem T.obj T.keep (Ya8 hc T) (ya9 hc T) T.self st2 f2 W w0 turn λD C acc H' s6 IX fC zC hm q=>?_;obtain⟨m,hm⟩:=hm;obtain⟨oC,esC,epC,gC,dC,rC⟩:=id hm;have nc:∀ v,oC.data≠.cell v:=λv z=>by rw[dC] at z;cases z
 have IXp:=IX.pinned (fp:=[C]) (λb hb=>by obtain rfl:=Ua.mp hb;exact fC) (λb hb=>by obtain rfl:=Ua.mp hb;exact⟨oC,gC,nc⟩);show wpAny (model X.prog X.w) X.A (assign (.Name x pos') X.env (.ref D)) _ X.xe s6;refine thn (Qbb hN hi0 hx hf _ s6 σ _ (.ref D) (.ref D) _ IXp rfl q) λ_ s7 ⟨σ7,H7,I7,q7⟩=>?_;obtain⟨g7,d7⟩:=Zj I7 (uc _ (zn (Ua.mpr rfl) gC));refine⟨m,⟨oC,esC,epC,g7,dC,rC⟩,λh' sb=>⟨σ7,H7,?_,q7⟩⟩;obtain⟨_,c1,c2,c3,c4,c5⟩:=fC;exact yo (t':=s7.toks) (ch:=[C]) I7.unpinned (λb hb=>by obtain rfl:=Ua.mp hb;exact⟨d7,c1,c2,c3,c4,c5⟩) λb o hb e=>(sb.2 b λz=>hb (by simp[z])).trans e
theorem Zt{a b:Nat}(h:a<b\/b<a):a≠b:=by lia
theorem Zat{a b c:Nat}(h1:a≠b)(h2:a≠c):(a:Addr)∉([b,c]:List Addr):=by
 simp only[xa,Ub,or_false,not_or];exact⟨h1,h2⟩
theorem YbX(n a1 a2:Nat)(h1:a1<n)(h2:a2<n):ZAp (n+4) (n+2) (n+3) n (n+1) [n,a1] [n+1,a2] where
 tiz:=Zt (a:=n+2) (b:=n+4) (by lia)
 toz:=Zt (a:=n+3) (b:=n+4) (by lia)
 tito:=Zt (a:=n+2) (b:=n+3) (by lia)
 ti1:=Zt (a:=n+2) (b:=n) (by lia)
 ti2:=Zt (a:=n+2) (b:=n+1) (by lia)
 z1:=Zat (Zt (by lia)) (Zt (by lia))
 z2:=Zat (Zt (by lia)) (Zt (by lia))
 t1:=Zat (Zt (by lia)) (Zt (by lia))
 t2:=Zat (Zt (by lia)) (Zt (by lia))
 m1:=by simp
 m2:=by simp
 a1:=Zat (Zt (by lia)) (Zt (by lia))
 a2:=Zat (Zt (by lia)) (Zt (by lia))
theorem ge5{n b:Nat}(h:(b:Addr)∈([n+4,n+2,n+3,n,n+1]:List Addr)):n<=b:=by
 simp only[xa,Ub,or_false] at h
 rcases h with h|h|h|h|h <;> (have h':b=_:=h;rw[h'];first|exact vB _ _|exact wb _)
theorem ge2{n b:Nat}(h:(b:Addr)∈([n+1,n]:List Addr)):n<=b:=by
 simp only[xa,Ub,or_false] at h
 rcases h with h|h <;> (have h':b=_:=h;rw[h'];first|exact vB _ _|exact wb _)
noncomputable def iZip(K:PySem.W.Frag)(ta:TA):TI:=λσ H R=>ta σ H λvs H1=>∃ b1 b2 a1 a2,vs=[.ref a1,.ref a2]/\(∃ xs,SqS K H1 b1 a1 xs)/\(∃ ys,SqS K H1 b2 a2 ys)/\R (Itz K b1 b2 a1 a2) H1
noncomputable def Yb3(K:PySem.W.Frag)(ta:TA):TI:=λσ H R=>ta σ H λvs H1=>∃ b a,vs=[.ref a]/\(∃ xs,SqS K H1 b a xs)/\R (Ite K b a) H1
theorem zcl{a b:Expr}{ta:TA}{p pos:Pos}{es:List Expr}{kt:Nat}{pt:Pos}(hg:Gl X "zip")(hm:X.mg "zip"=none)(ha:PA X [a,b] ta)(hs:starEach [a,b] X.env=[(false,eval a X.env),(false,eval b X.env)]:=by rfl)(hs2:starEach [b] X.env=[(false,eval b X.env)]:=by rfl) :
  PI X (.Tuple es kt pt) (.Call (.Name "zip" p) [a,b] [] pos) (iZip X.K ta):=by
 intro pins s σ H R I h;refine Call_ (Z3 I hg hm boot_zip (PyProof.Rows.callWith_type1 (thn (ha pos pins s σ H _ I h) λus s1 ⟨vs,H1,I1,r1,q1⟩=>?_) (by rw[hs,hs2]) (by rw[hs2];rfl)));obtain⟨b1,b2,a1,a2,e,⟨xs,h1⟩,⟨ys,h2⟩,q⟩:=q1;subst e;cases r1 with
 |cons r rr =>
  cases rr with
  |cons r' rr =>
   cases rr;obtain rfl:_=Value.ref a1:=r;obtain rfl:_=Value.ref a2:=r';obtain⟨its1,v1,p1,_⟩:=Qm I1 h1;obtain⟨its2,v2,p2,_⟩:=Qm I1 h2;have l1:=p1.lt;have l2:=p2.lt;refine Zbz p1 p2 λg f1 f2 f3 f4 f5 f6=>?_;refine wpAny_pyIter_zip f1 ?_;refine⟨s1.heap.objs.size+4,[s1.heap.objs.size+4,s1.heap.objs.size+2,s1.heap.objs.size+3,s1.heap.objs.size,s1.heap.objs.size+1],_,_,H1,rfl,I1.kept (t':=s1.toks) f6,ybB (b1:=b1) (b2:=b2) (a1:=a1) (a2:=a2) (λ_ _ _=>YbX _ a1 a2 l1 l2) s1.heap.objs.size (λa ha'=>?_) (λa ha'=>ge5 ha'),⟨f1,f2,⟨_,_,f3⟩,f4,f5⟩,λb hb=>I1.fpOk (ge5 hb) (I1.hok.fresh (ge5 hb)),q⟩;simp only[xa,Ub,or_false] at ha'
   rcases ha' with rfl|rfl <;> assumption
theorem ZbS{a:Expr}{ta:TA}{p pos:Pos}{es:List Expr}{kt:Nat}{pt:Pos}(hg:Gl X "enumerate")(hm:X.mg "enumerate"=none)(ha:PA X [a] ta)(hs:starEach [a] X.env=[(false,eval a X.env)]:=by rfl) :
  PI X (.Tuple es kt pt) (.Call (.Name "enumerate" p) [a] [] pos) (Yb3 X.K ta):=by
 intro pins s σ H R I h;refine Call_ (Z3 I hg hm boot_enumerate (PyProof.Rows.callWith_type1 (thn (ha pos pins s σ H _ I h) λus s1 ⟨vs,H1,I1,r1,q1⟩=>?_) hs rfl));obtain⟨b,l,e,⟨xs,h1⟩,q⟩:=q1;subst e;cases r1 with
 |cons r rr =>
  cases rr;obtain rfl:_=Value.ref l:=r;obtain⟨its1,v1,p1,_⟩:=Qm I1 h1;have l1:=p1.lt;refine Zbo p1 λg f1 f2 f3=>?_;refine wpAny_pyIter_enum f1 ?_;exact⟨s1.heap.objs.size+1,[s1.heap.objs.size+1,s1.heap.objs.size],_,_,H1,rfl,I1.kept (t':=s1.toks) f3,ybr (b:=b) (a:=l) (Vb l1) (Vb (Xo l1)) (Ul (Uj _)),⟨⟨_,f1⟩,f2⟩,λc hc=>I1.fpOk (ge2 hc) (I1.hok.fresh (ge2 hc)),q⟩
end
noncomputable def CX1(P:Program)(w:World):CXT:=λouter H s E e s'=>∃ x C t tb d H',e=.ref x/\s'.os=s.os/\AllBare s'.gens/\Un (frs outer) [] H H' s.heap s'.heap/\HOk P w H' s'.heap/\s'.heap.get? x=some (yh C t tb d)/\Tb s'.heap x tb /\
 H' x=none/\s.heap.get? x=none/\(∀ T,tb=.ref T->H' T=none/\s.heap.get? T=none)/\E (.ref C) d H'
structure ExOk (X:Cx) (pins:List (Addr×Obj)) (H:Hp) (b:Addr):Prop where
 un:H b=none
 loc:b≠X.env.locals
 fs:b∉X.fs
 new:X.s₀.heap.get? b=none
 cell:∀ x c,X.env.cells.lookup x=some c->c≠b
 pin:∀ p∈X.pn++pins,p.1≠b
noncomputable def YaR(X:Cx)(E:XK):Prop:=∀(pins:List (Addr×Obj)) (σ:L2.St) (H:Hp) (s:Shared) (x C t:Addr) (tb:Value) (d:Option Addr),Inv X pins σ H s->s.heap.get? x=some (yh C t tb d)->Tb s.heap x tb->ExOk X pins H x->(∀ T,tb=.ref T->ExOk X pins H T)->E (.ref C) d H->X.xe (.ref x) s
section
variable {X:Cx} {pins:List (Addr×Obj)} {σ:L2.St} {H H':Hp} {s:Shared}
theorem Yx{b:Addr}(I:Inv X pins σ H s)(hx:X.ex=[])(hb:s.heap.get? b=none)(hn:H' b=none):ExOk X pins H' b:=by
 have al:∀{c o},s.heap.get? c=some o->c≠b:=λ{c o} e z=>by rw[z,hb] at e;cases e
 refine⟨hn,λz=>?_,λz=>?_,?_,λx c e=>?_,λp hp=>al (I.pin p hp).1⟩
 ·obtain⟨m,⟨o,_,_,e,_⟩,_⟩:=I.loc;exact al e z.symm
 ·obtain⟨_,o,e,_⟩:=I.funs.mem z;exact al e rfl
 ·cases q:X.s₀.heap.get? b with
  |none=>rfl
  |some o =>
   obtain⟨o',e⟩:=I.base.there b o q (by rw[hx];exactλz=>nomatch z);exact absurd rfl (al e)
 ·obtain⟨v,o,e,_⟩:=I.cell x c e;exact al e
theorem zbi{E:XK}(hx:X.ex=[])(T:YaR X E):qcc (CX1 X.prog X.w) X E:=by
 intro pins σ H s e s' I h;obtain⟨x,C,t,tb,d,H',rfl,os,bare,un,hok,e1,e2,e3,e4,e5,q⟩:=h;have I':Inv X pins σ H' s':=I.call' (ch:=[]) os un hok bare λb z=>nomatch z;exact T pins σ H' s' x C t tb d I' e1 e2 (Yx I hx e4 e3) (λT' z=>Yx I hx (e5 T' z).2 (e5 T' z).1) q
theorem Zaw{P:Program}{w:World}{h h':Heap}{fs:List Addr}{x:Addr}{tb:Value}(ok:HOk P w H h)(n:Noted fs x tb h h')(hf:∀ b∈fs,H b=none)(hx:H x=none)(ht:∀ T,tb=.ref T->H T=none):HOk P w H h':=λb u e=>by
 have go:∀ c v,H c≠none->h.get? c=some v->h'.get? c=some v:=λc v hc q=>n.keep c v (λz=>hc (hf c z)) (λz=>hc (z ▸ hx)) (λz=>hc (ht c z.symm)) q;refine(ok b u e).stay (λc v hc q=>go c v ?_ q) (λ_ q=>q) λ_ _ q=>q
 rcases hc with z|z
 ·rw[z,e];exactλz=>nomatch z
 ·rw[z];exactλz=>nomatch z
theorem zG{h h':Heap}{fs:List Addr}{x:Addr}{tb:Value}{b:Addr}{o:Obj}(n:Noted fs x tb h h')(h1:b≠x)(h2:Value.ref b≠tb)(e:h.get? b=some o):∃ sl,h'.get? b=some {o with slots:=sl}:=by
 by_cases z:b∈fs
 ·exact n.slot b o z h1 h2 e
 ·exact⟨o.slots,n.keep b o z h1 h2 e⟩
theorem ZaP{fs fs' ex:List Addr}{H0:Hp}{h0 h h':Heap}{x:Addr}{tb:Value}(u:Un fs ex H0 H h0 h)(n:Noted fs' x tb h h')(hx:h0.get? x=none)(ht:∀ T,tb=.ref T->h0.get? T=none)(hs:∀ b o,h0.get? b=some o->b∉fs->b∉fs'):Un fs ex H0 H h0 h':=by
 have ne:∀ b o,h0.get? b=some o->b≠x/\Value.ref b≠tb:=λb o e=>⟨λz=>(by rw[z,hx] at e;cases e),λz=>(by rw[ht b z.symm] at e;cases e)⟩;refine⟨λb o e q hb hx'=>n.keep b o (hs b o e hb) (ne b o e).1 (ne b o e).2 (u.keep b o e q hb hx'),λb o e q hb hx'=>?_,u.free,λb o e hx'=>?_,u.tups,u.frzs,u.tbls⟩
 ·obtain⟨sl,z⟩:=u.slot b o e q hb hx';obtain⟨sl',z'⟩:=zG n (ne b o e).1 (ne b o e).2 z;exact⟨sl',z'⟩
 ·obtain⟨o',z⟩:=u.there b o e hx';obtain⟨sl',z'⟩:=zG n (ne b o e).1 (ne b o e).2 z;exact⟨_,z'⟩
theorem zau(I:Inv X pins σ H s){b:Addr}{o:Obj}(e:X.s₀.heap.get? b=some o)(hb:b∉X.fs):b∉frs X.stack:=λz=>by
 rcases xa.mp (I.stkSub b z) with y|y
 ·exact absurd (Wc (ua e) I.ok.above) (by rw[y];exact Wi _)
 ·exact hb y
theorem zaw{h':Heap}{x C t:Addr}{tb:Value}{d:Option Addr}{t':Nat}(I:Inv X pins σ H s)(n:Noted (frs X.stack) x tb s.heap h')(he:s.heap.get? x=some (yh C t tb d))(htb:Tb s.heap x tb)(fx:ExOk X pins H x)(ft:∀ T,tb=.ref T->ExOk X pins H T):Inv X pins σ H {s with heap:=h',toks:=t'}:=by
 -- a thing that is no record is neither the exception nor its traceback
 have nrec:∀ b o,s.heap.get? b=some o->(∀ vs,o.data≠.fields vs)->b≠x/\Value.ref b≠tb:=λb o e nf=>by
  refine⟨λz=>?_,λz=>?_⟩
  ·rw[z,he] at e;cases e;exact nf _ rfl
  ·cases htb with
   |no=>cases z
   |@«at» T oT ts ne ho hd h3 =>
    cases z;rw[ho] at e;cases e;exact nf ts hd
 have cellK:∀ c v,s.heap.IsCell c v->h'.IsCell c v:=λc v ⟨o,ho,hd⟩=>by
  obtain⟨a,b⟩:=nrec c o ho λvs z=>by rw[hd] at z;cases z
  obtain⟨sl,q⟩:=zG n a b ho;exact⟨_,q,hd⟩
 refine⟨I.ok,I.os,I.bare,ZaP I.base n fx.new (λT z=>(ft T z).new) λb o e hb=>zau I e hb,?_,λy c e=>?_,I.free,I.freeC,λp hp=>?_,Zaw I.hok n I.stkFree fx.un λT z=>(ft T z).un,I.len⟩
 ·obtain⟨m,⟨o,es,ep,ho,hd,r⟩,hl⟩:=I.loc;obtain⟨a,b⟩:=nrec _ o ho λvs z=>by rw[hd] at z;cases z
  obtain⟨sl,q⟩:=zG n a b ho;refine⟨m,⟨_,es,ep,q,hd,r⟩,λi y v e1 e2 e3=>?_⟩;obtain⟨u,ru,l⟩:=hl i y v e1 e2 e3;refine⟨u,ru,?_⟩
  rcases l with l|⟨k,c,e,z⟩
  ·exact .inl l
  ·exact .inr ⟨k,c,e,cellK c _ z⟩
 ·obtain⟨v,z⟩:=I.cell y c e;exact⟨v,cellK c v z⟩
 ·obtain⟨e1,e2,e3,e4,e5⟩:=I.pin p hp;refine⟨n.keep _ _ (λz=>?_) (fx.pin p hp) (λz=>(ft p.1 z.symm).pin p hp rfl) e1,e2,e3,e4,e5⟩
  rcases xa.mp (I.stkSub p.1 z) with y|y
  ·exact e3 y
  ·exact e4 y
end
theorem qav{P:Program}{w:World}{K:PySem.W.Frag}{mg:Str->Option Value}{base:Heap}{N:List Str}{qual:Str}{scope:Scope}{f:Addr}{cd:Value}{A:Around}{outer:List Env}{s0:Shared}{H0:Hp}{E:XK} :
  YaR (Yac (CX1 P w) P w K mg base N qual scope f cd A outer s0 H0 E) E:=by
 intro pins σ H s x C t tb d I e1 e2 fx ft q;refine Ybn (env:=envOfC qual scope s0.heap.objs.size f cd) (outer:=outer) (L:=s0.heap.objs.size) I.ok.frames I.stack rfl e1 e2 λh' T n g1 g2 g3=>?_;refine⟨x,C,t,.ref T,d,H,rfl,I.os,I.bare,ZaP I.base n fx.new (λT z=>(ft T z).new) λb o e hb=>zau I e hb,Zaw I.hok n I.stkFree fx.un λT z=>(ft T z).un,g1,g2,fx.un,fx.new,λT' z=>?_,q⟩;cases z;exact⟨I.hok.fresh g3,um (Xe I.sz g3)⟩
theorem QbN{P:Program}{w:World}{K:PySem.W.Frag}{mg:Str->Option Value}{base:Heap}{N:List Str}{qual:Str}{scope:Scope}{f:Addr}{cd:Value}{A:Around}{outer:List Env}{s0:Shared}{H0:Hp}{E:XK}{CX:CXT} :
  PassesOwn (model P w) (Yac CX P w K mg base N qual scope f cd A outer s0 H0 E).A (Yac CX P w K mg base N qual scope f cd A outer s0 H0 E).env (Yac CX P w K mg base N qual scope f cd A outer s0 H0 E).xe:=PassesOwn.leaving
abbrev bmV:List Value:=[.type "ValueError",.type "Exception",.type "BaseException",.type "object"]
noncomputable def ExcC(K:PySem.W.Frag)(C:Addr):Prop:=vq K C bmV "ValueError.__new__"=true
noncomputable def Zm(K:PySem.W.Frag)(C:Addr):List Value:=match K.lookup C with
 |some ⟨_,_,.cls cd,_⟩=>cd.mro.tail
 |_=>[]
noncomputable def excG(K:PySem.W.Frag)(C:Addr):Bool:=match K.lookup C with
 |some ⟨.type "type",_,.cls cd,sl⟩=>(match cd.mro,sl.toList with
  |.ref C'::bm,[_,_,_,_,some (.builtin n),_]=>C'==C&&n == "ValueError.__new__"&&!cd.hasDel&&PySem.W.tailIn K bmV bm&&PySem.W.nsOkIn K cd.ns
  |_,_=>false)
 |_=>false
noncomputable def zB(K:PySem.W.Frag)(C:Addr):Prop:=excG K C=true
noncomputable def QI(K:PySem.W.Frag)(C:Addr):Option (Option Value):=match K.lookup C with
 |some ⟨_,_,.cls cd,_⟩=>xi K cd.ns "__init__"
 |_=>none
set_option tactic.hygienic true in
theorem ExcC.both{K:PySem.W.Frag}{C:Addr}(q:ExcC K C):zB K C/\QI K C=some none:=by
 unfold ExcC vq at q;unfold zB excG QI;split at q
 next dd cd sl ho =>
  split at q
  next C' bm k0 k1 k2 k3 n k5 hm hs =>
   simp only[Wa,beq_iff_eq,Vg] at q;obtain⟨⟨⟨⟨⟨q1,q2⟩,q3⟩,q4⟩,q5⟩,q6⟩:=q;subst q1 q2;rw[ho];cases cd with
   |mk nm bs mro ns qn hd sn sb ab col del =>
    obtain⟨l⟩:=sl;dsimp only at hm hs q3 q5 q6;subst hm hs q3;exact⟨show(C'==C'&&("ValueError.__new__":String) == "ValueError.__new__"&&!false&&PySem.W.tailIn K bmV bm&&PySem.W.nsOkIn K ns)=true by rw[q4,q5];simp,q6⟩
  next=>cases q
 next=>cases q
theorem ExcC.g{K:PySem.W.Frag}{C:Addr}(q:ExcC K C):zB K C:=q.both.1
set_option tactic.hygienic true in
theorem ybP{K:PySem.W.Frag}{h:Heap}{N:Addr}{m:Str->Option Value}{x:Str}{v:Value}(KX:K.In h)(G:h.Ns N m)(q:xi K N x=some (some v)):m x=some v:=by
 obtain⟨o,es,ep,ho,hd,_,hf⟩:=G;unfold xi at q;split at q
 next c d es' n' sl e0 =>
  have z:=(KX _ _ e0).symm.trans ho;cases z;have hd:es'=es:=by cases hd;rfl
  subst hd;split at q
  next en he =>
   cases q;have y:nsFind es' x=some en.val:=by unfold nsFind findBy;rw[<- Uy,he];rfl
   exact(hf x).symm.trans y
  next=>split at q <;> cases q
 next=>cases q
set_option tactic.hygienic true in
theorem YJ{K:PySem.W.Frag}{h:Heap}{C:Addr}(KX:K.In h)(q:zB K C) :
  ∃ N nm qn bs hdct sn sub ab col dd k0 k1 k2 k3 k5 mN,h.get? C=some (excClassObj nm qn C N bs (Zm K C) hdct sn sub ab col dd k0 k1 k2 k3 k5 "ValueError.__new__")/\h.Ns N mN/\(QI K C=some none->mN "__init__"=none)/\(∀ v,QI K C=some (some v)->mN "__init__"=some v)/\OwnTail h bmV (Zm K C):=by
 unfold zB excG at q;split at q
 next dd cd sl ho =>
  split at q
  next C' bm k0 k1 k2 k3 n k5 hm hs =>
   simp only[Wa,beq_iff_eq,Vg] at q;obtain⟨⟨⟨⟨q1,q2⟩,q3⟩,q4⟩,q5⟩:=q;subst q1 q2;have emro:Zm K C'=bm:=by unfold Zm;rw[ho];dsimp only;rw[hm];rfl
   have ini:QI K C'=xi K cd.ns "__init__":=by unfold QI;rw[ho]
   cases cd with
   |mk nm bs mro ns qn hd sn sub ab col del =>
    dsimp only at hm q3 q5 ini;subst hm q3;obtain⟨l⟩:=sl;dsimp only at hs;subst hs;rw[emro,ini];exact⟨ns,nm,qn,bs,hd,sn,sub,ab,col,dd,k0,k1,k2,k3,k5,_,KX _ _ ho,.of_isNs (vy KX q5),λq6=>PySem.W.nsMap_none_of_in KX q5 q6,λv q6=>ybP KX (.of_isNs (vy KX q5)) q6,PySem.W.tail_of_in KX q4⟩
  next=>cases q
 next=>cases q
set_option tactic.hygienic true in
theorem ybg{K:PySem.W.Frag}{h:Heap}{C:Addr}(KX:K.In h)(q:ExcC K C) :
  ∃ N nm qn bs hdct sn sub ab col dd k0 k1 k2 k3 k5 mN,h.get? C=some (excClassObj nm qn C N bs (Zm K C) hdct sn sub ab col dd k0 k1 k2 k3 k5 "ValueError.__new__")/\h.Ns N mN/\mN "__init__"=none/\OwnTail h bmV (Zm K C):=by
 obtain(⟨N,nm,qn,bs,hdct,sn,sub,ab,col,dd,k0,k1,k2,k3,k5,mN,a,b,c,_,e⟩):=YJ KX q.g;exact⟨N,nm,qn,bs,hdct,sn,sub,ab,col,dd,k0,k1,k2,k3,k5,mN,a,b,c q.both.2,e⟩
theorem qaH{P:Program}{w:World}{H:Hp}{h:Heap}{x:Addr}{o:HO}(ok:HOk P w H h)(z:H x=some o):∃ o',h.get? x=some o':=by
 have z0:=ok x o z;cases o with
 |lst xs=>obtain⟨_,_,_,_,e0⟩:=z0;exact⟨_,e0⟩
 |tup xs=>obtain⟨_,_,_,ob,e0,_⟩:=z0;exact⟨_,e0⟩
 |dK kvs=>obtain⟨_,_,_,_,ob,_,_,e0,_⟩:=z0;exact⟨_,e0⟩
 |dT kvs=>obtain⟨_,_,_,_,ob,_,_,e0,_⟩:=z0;exact⟨_,e0⟩
 |set S n=>obtain⟨ob,_,_,_,e0,_⟩:=z0;exact⟨_,e0⟩
 |ins C dx fs=>obtain⟨_,_,_,e0,_⟩:=z0;exact⟨_,e0⟩
 |own y=>obtain⟨_,e0⟩:=z0;exact⟨_,e0⟩
 |xd fs=>obtain⟨_,⟨_,_,_,e0,_⟩,_⟩:=z0;exact⟨_,e0⟩
 |rng lo hi=>obtain⟨_,_,_,e0⟩:=z0;exact⟨_,e0⟩
 |frz ob u=>obtain⟨e0,_⟩:=z0;exact⟨_,e0⟩
 |tbl ps=>have e0:h.get? x=some _:=z0;exact⟨_,e0⟩
 |met f y=>have e0:h.get? x=some _:=z0;exact⟨_,e0⟩
 |ext φ=>obtain⟨_,⟨_,e0⟩,_⟩:=z0;exact⟨_,e0⟩
section
variable {X:Cx} {e:Expr} {es:List Expr} {ta:TA} {c:Str} {np cpos pos:Pos} {C:Addr} {E:XK}
noncomputable def Qcf(C:Addr)(E:XK)(ta:TA):TS:=λ_ σ H=>ta σ H λvs H1=>vs.length<=sizeLine/\E (.ref C) none H1
theorem ybE(hc:X.calm=true)(hx:X.ex=[])(T:YaR X E)(q:ExcC X.K C)(hg:Gl X c)(hm:X.mg c=some (.ref C))(ha:PA X (e::es) ta)(hd:(c==("__debug__":Str))=false:=by decide)
  (he:starEach (e::es) X.env=(false,eval e X.env)::starEach es X.env:=by rfl) (hpl:(backTo cpos (starEach es X.env)).any (·.1)=false:=by rfl) :
  PS X (.Raise (some (.Call (.Name c np) (e::es) [] cpos)) none pos) (Qcf C E ta):=by
 intro pins s σ H D I h;obtain⟨N,nm,qn,bs,hdct,sn,sub,ab,col,dd,k0,k1,k2,k3,k5,mN,oC,oN,ni,TL⟩:=ybg I.ok.mod.kin q;refine wpAny_Raise_call_subT (C:=C) (nm:=nm) (q:=qn) (N:=N) (bs:=bs) (bm:=Zm X.K C) (hdct:=hdct) (sn:=sn) (sub:=sub) (ab:=ab) (col:=col) (dd:=dd) (k0:=k0) (k1:=k1) (k2:=k2) (k3:=k3) (k5:=k5) (mN:=mN)
  PySem.F.excBase_ValueError (TL.hasType (by decide)) (I.ok.hd hc) (by rw[he];show(false||(backTo cpos (starEach es X.env)).any (·.1))=false;rw[hpl];rfl) ni (Qu I hg hm ⟨rfl,?_⟩ hd)
 have hw:=ha cpos pins s σ H _ I h;rw[he] at hw ⊢;refine Calls.evalArgs_plain (wpAny_mono hw (λus s2 ⟨vs,H2,I2,r,z,q2⟩=>?_) λ_ _ y=>y);refine⟨rfl,by rw[<- r.length];exact z,I2.bk _ _ oC,oN.keeps I2.bk,TL.keeps I2.bk,λh' x hm'=>?_⟩;obtain⟨t,e1,e2,e3⟩:=hm'.there;have I3:Inv X pins σ H2 {s2 with heap:=h'}:=I2.kept (t':=s2.toks) hm'.keeps;have nx:H2 x=none:=by
  cases z:H2 x with
  |none=>rfl
  |some o =>
   obtain⟨o',e'⟩:=qaH I2.hok z;rw[hm'.new] at e';cases e'
 exact T pins σ H2 _ x C t .none none I3 e1 .no (Yx I2 hx hm'.new nx) (λT z=>nomatch z) q2
end
structure ExcK (K:PySem.W.Frag) (C:Addr):Prop where
 q:zB K C
 ga:wc K (.ref C) "__getattribute__"=some (some (.builtin "BaseException.__getattribute__"))
 gt:wc K (.ref C) "__getattr__"=some none
 cl:wc K (.ref C) "__class__"=some (some (.builtin "object.__class__"))
 gn:uj K (.builtin "object.__class__") "__get__"=some (some (.builtin "getset_descriptor.__get__"))
 tk:Wm K (.builtin "object.__class__")=some true
 mo:Vn K C (.type "object")=some true
 ci:(ug K C).isSome=true
noncomputable def DOk(h:Heap)(d:Option Addr):Prop:=∀ D,d=some D->∃ o,h.get? D=some o
noncomputable def ExcAt(x C:Addr)(h:Heap):Prop:=∃ t tb d,h.get? x=some (yh C t tb d)/\DOk h d
theorem QaL{x C t:Addr}{tb:Value}{d:Option Addr}{h:Heap}(e:h.get? x=some (yh C t tb d))(k:DOk h d):∃ od,PySem.W.InstAt h x (yh C t tb d) C od:=by
 cases d with
 |none=>exact⟨none,e,rfl,rfl,True.intro⟩
 |some D=>obtain⟨o,ho⟩:=k D rfl;exact⟨some o,e,rfl,rfl,ho⟩
theorem qaG{K:PySem.W.Frag}{C:Addr}{od:Option Obj}{a g:Value}{name:Str}(hc:(ug K C).isSome=true)(ha:wc K (.ref C) name=some (some a))(hg:uj K a "__get__"=some (some g))(ht:Wm K a=some true) :
  PySem.W.findObj K C od name=some (.bind g a):=by
 obtain⟨cd,hc⟩:=Wg.mp hc;unfold PySem.W.findObj;rw[hc,Xk,ha,Xk];simp[hg,ht]
theorem qa6{K:PySem.W.Frag}{C:Addr}(ci:(ug K C).isSome=true)(M:Model)(h:Heap)(X:K.In h):PySem.W.Looks M h (isType (.ref C)) true:=by
 unfold ug at ci;split at ci
 next ho =>
  intro A' Q' E' s' k q;unfold isType loadHead;exact wpAny_bind (wpAny_loadPart (k _ _ (X _ _ ho)) (wpAny_pure q))
 next=>cases ci
theorem Qav(v:Value):bindSpecial (.builtin "BaseException.__getattribute__") v=pure (.builtin "BaseException.__getattribute__",[v]):=PySem.F.attrBase_ValueError.ga.bind v
theorem Zau{K:PySem.W.Frag}{C x t:Addr}{tb nameV:Value}{d:Option Addr}(q:zB K C){M:Model}{A:Around}{E:Value->Shared->Prop}{Q:Unit->Shared->Prop}{s:Shared}(X:K.In s.heap)(e:s.heap.get? x=some (yh C t tb d))(hq:Q () s) :
  wpAny M A (checkBuiltinCall "BaseException.__getattribute__" ⟨[.ref x,nameV],[]⟩) Q E s:=by
 obtain⟨N,nm,qn,bs,hdct,sn,sub,ab,col,dd,k0,k1,k2,k3,k5,mN,oC,oN,_,_,TL⟩:=YJ X q;obtain⟨hh,g,d,tk,os⟩:=s;have hcB:(Value.ref C::Zm K C).contains (.type "BaseException")=true:=by rw[wm,TL.hasType (show bmV.contains (.type "BaseException")=true by decide)];rfl
 have hk:builtinKind "BaseException.__getattribute__"=some .slot:=by decide +kernel
 have hsp:splitId "BaseException.__getattribute__"=some ("BaseException","__getattribute__"):=by decide +kernel
 have ha:=PySem.F.args_bexc_ga (.ref x) nameV;simp only[checkBuiltinCall,hk,hsp];refine wpAny_bind ?_;unfold isInstance
 repeat (first|(with_reducible refine wpAny_loadPart_at e ?_)|(with_reducible refine wpAny_isSubtype_exc oC ?_;rw[hcB])|wp_step)
 exact hq
theorem qbi{K:PySem.W.Frag}{C x t:Addr}{tb:Value}{dd:Option Addr}(Z:ExcK K C){prog:Program}{w:World}{A:Around}{E:Value->Shared->Prop}{Q:Option Value->Shared->Prop}{s:Shared}(X:K.In s.heap)(e:s.heap.get? x=some (yh C t tb dd))(dk:DOk s.heap dd)(k:Q (some (.ref C)) {s with toks:=s.toks+1}) :
  wpAny (model prog w) A (getAttr? (.ref x) "__class__") Q E s:=by
 obtain⟨od,I⟩:=QaL e dk;obtain⟨hh,g,d,tk,os⟩:=s;have L0:=I.type (M:=model prog w);have L1:=Xj (M:=model prog w) X Z.ga;have L2:=Xj (M:=model prog w) X Z.gt;have L3:=Vy (M:=model prog w) X I (qaG Z.ci Z.cl Z.gn Z.tk);have nb:(onTheHeap (Value.ref C)&&Value.builtin "BaseException.__getattribute__" == Value.builtin "object.__getattribute__")=false:=by
  rw[show(Value.builtin "BaseException.__getattribute__" == Value.builtin "object.__getattribute__")=false from by decide +kernel];rfl
 unfold getAttr? getAttrBy? getAttrBy;refine wpAny_bind (wpAny_mkText (wpAny_bind (wpAny_attempt (wpAny_holding (wpAny_bind (L0.at (wpAny_bind (L1.at ?_))))))));show wpAny _ _ (if(onTheHeap (Value.ref C)&&Value.builtin "BaseException.__getattribute__" == Value.builtin "object.__getattribute__")=true then _ else _) _ _ _;rw[if_neg (by rw[nb];exact Wh)];unfold getAttrByItsOwn hookBefore;rw[if_pos (show onTheHeap (Value.ref C)=true from rfl)];refine wpAny_bind (L2.at (wpAny_bind (wpAny_attempt (wpAny_holding ?_))));show wpAny _ _ (boundAndCalled (.builtin "BaseException.__getattribute__") (.ref x) _) _ _ _;unfold boundAndCalled;rw[Qav];refine wpAny_bind (wpAny_pure (wpAny_call (codeAny_call_builtin PySem.F.attrBase_ValueError.ga.plain PySem.F.entry_bexc_ga ?_)));refine Zau Z.q X e ?_;show wpAny _ _ (typeOf (.ref x) >>= _) _ _ _;refine wpAny_bind (L0.at (wpAny_bind (L3.at ?_)));show wpAny _ _ (Builtin.ObjectAttr.bindTo (.builtin "getset_descriptor.__get__") (.builtin "object.__class__") (.ref x) (.ref C)) _ _ _;unfold Builtin.ObjectAttr.bindTo;refine wpAny_bind (wpAny_holding (wpAny_call (PySem.W.class_get (ox:=yh C t tb dd) (od:=od) X I Z.mo (wpAny_pure ?_))));exact PySem.W.handed_on rfl (wpAny_pure k)
theorem ZbB{K:PySem.W.Frag}{C x:Addr}(Z:ExcK K C):PySem.W.KitX K (.ref x) (.ref C) (ExcAt x C) where
 ty:=λM h _ ⟨t,tb,d,e,k⟩=>let ⟨_,I⟩:=QaL e k;I.type
 it:=λM h X _=>qa6 Z.ci M h X
 ne:=λh tp dd its n sl X htp=>by
  refine Bool.eq_false_iff.mpr λq=>?_;have e:C=tp:=Value.ref.inj (beq_iff_eq.mp q);subst e;have ci:=Z.ci;unfold ug at ci;split at ci
  next ho =>
   have z:=(X _ _ ho).symm.trans htp;cases z
  next=>cases ci
 ca:=λX ⟨t,tb,d,e,dk⟩ k=>qbi Z X e dk k
section
variable {X:Cx} {pins:List (Addr×Obj)} {σ:L2.St} {H:Hp} {s:Shared}
theorem qbh{i:Nat}{n:Str}{h':Heap}{t':Nat}(I:Inv X pins σ H s)(hN:X.N.Nodup)(hi:X.N[i]?=some n)
  {m m':Str->Option Value} (hn:s.heap.Ns X.env.locals m) (hl:∀(i:Nat)(x:Str)(v:V),X.N[i]?=some x->σ[i]?=some (some v)->Vis X.env.scope x->∃ u,RelV v u/\Look X.env s.heap m x u) (hn':h'.Ns X.env.locals m') (hm:∀ y,y≠n->m' y=m y) (hs:Heap.SameBut X.env.locals s.heap h'):Inv X pins (σ.set i none) H {s with heap:=h',toks:=t'}:=by
 obtain⟨oL,_,_,gL,_⟩:=id hn;have hiσ:i<σ.length:=by rw[I.len];exact(Xa.mp hi).1
 have nl:∀ b o,X.s₀.heap.get? b=some o->b≠X.env.locals:=λb o e=>Vb (Wc (ua e) I.ok.above);refine⟨I.ok,I.os,I.bare,⟨λb o e q hb hx=>(hs.2 b (nl b o e)).trans (I.base.keep b o e q hb hx),λb o e q hb hx=>?_,I.base.free,λb o e hx=>?_,I.base.tups,I.base.frzs,I.base.tbls⟩,⟨m',hn',λj y v e1 e2 e3=>?_⟩,λy c e=>?_,I.free,I.freeC,λp hp=>?_,λb u e=>?_,by simpa using I.len⟩
 ·obtain⟨sl,z⟩:=I.base.slot b o e q hb hx;exact⟨sl,(hs.2 b (nl b o e)).trans z⟩
 ·obtain⟨o',z⟩:=I.base.there b o e hx;exact⟨o',(hs.2 b (nl b o e)).trans z⟩
 ·by_cases hj:j=i
  ·subst hj;rw[vc hiσ] at e2;cases e2
  ·rw[Ud (Ne.symm hj)] at e2;obtain⟨u,r,q⟩:=hl j y v e1 e2 e3;refine⟨u,r,?_⟩
   rcases q with ⟨k,e⟩|⟨k,c,e,z⟩
   ·exact .inl ⟨k,by rw[hm y λz=>hj (Qal hN e1 (z ▸ hi))];exact e⟩
   ·exact .inr ⟨k,c,e,z.sameBut hs (I.cne y c e)⟩
 ·obtain⟨v,z⟩:=I.cell y c e;exact⟨v,z.sameBut hs (I.cne y c e)⟩
 ·obtain⟨e,q,ne,nf,d⟩:=I.pin p hp;exact⟨(hs.2 p.1 ne).trans e,q,ne,nf,d⟩
 ·refine(I.hok b u e).stay (λc v hc q=>(hs.2 c ?_).trans q) (λ_ q=>q) λ_ _ q=>q;rintro rfl
  rcases hc with rfl|hc
  ·rw[I.free] at e;cases e
  ·rw[I.free] at hc;cases hc
theorem yax{i:Nat}{n:Str}{pos:Pos}{A:Around}{E:Value->Shared->Prop}{Q:Unit->Shared->Prop}(I:Inv X pins σ H s)(hN:X.N.Nodup)(hi:X.N[i]?=some n)(hk:X.env.scope.names.lookup n=some .local)
  (h:∀ s',Inv X pins (σ.set i none) H s'->Q () s'):wpAny (model X.prog X.w) A (do bindName X.env n .none;unbindBehindTheSuite X.env n pos) Q E s:=by
 have hp:(X.env.scope.kind == .class||(X.env.scope.kind == .module&&X.env.locals != X.env.globals))=false:=by rw[I.ok.kind];rfl
 obtain⟨m,hn,hl⟩:=id I.loc;refine wpAny_bind (wpAny_bindName (wpAny_storeName_local hk hn (λh1 n1 s1=>?_) hp));unfold unbindBehindTheSuite;refine wpAny_onRaise (wpAny_unbindName_local hk n1 (v:=.none) (by simp) hp λh2 u n2 s2=>h _ ?_);show Inv X pins (σ.set i none) H {s with heap:=h2,toks:=s.toks+1};exact qbh (s:=s) I hN hi hn hl n2 (λy hy=>by simp[hy]) (s1.trans s2)
end
theorem Z5{K:PySem.W.Frag}{C B x t:Addr}{tb:Value}{dd:Option Addr}(q:zB K C)(qB:ExcC K B)(hin:(Zm K C).contains (.ref B)=true){M:Model}{A:Around}{E:Value->Shared->Prop}{Q:Bool->Shared->Prop}{s:Shared}(X:K.In s.heap)(e:s.heap.get? x=some (yh C t tb dd))(hq:Q true s) :
  wpAny M A (excMatches (.ref x) (.ref B)) Q E s:=by
 obtain⟨N,nm,qn,bs,hdct,sn,sub,ab,col,dd,k0,k1,k2,k3,k5,mN,oC,oN,_,_,TL⟩:=YJ X q;obtain⟨N',nm',qn',bs',hdct',sn',sub',ab',col',dd',k0',k1',k2',k3',k5',mN',oB,oN',ni',TL'⟩:=ybg X qB;obtain⟨hh,g,d,tk,os⟩:=s;have hB:(Value.ref B::Zm K B).contains (.type "BaseException")=true:=by rw[wm,TL'.hasType (show bmV.contains (.type "BaseException")=true by decide)];rfl
 have hC:(Value.ref C::Zm K C).contains (.ref B)=true:=by rw[wm,hin,wz]
 have f:=tc_notTuple;unfold excMatches
 repeat (first|(with_reducible refine wpAny_loadPart_at e ?_)|(with_reducible refine wpAny_loadPart_at oB ?_)|(with_reducible refine wpAny_isSubtype_exc oB ?_;rw[hB])|(with_reducible refine wpAny_isSubtype_exc oC ?_;rw[hC])|wp_step)
 exact hq
noncomputable def Wt(X:Cx)(pins:List (Addr×Obj))(σ:L2.St)(E:XK):Value->Shared->Prop:=λe s'=>∃ x C t tb d H',e=.ref x/\Inv X pins σ H' s'/\s'.heap.get? x=some (yh C t tb d)/\Tb s'.heap x tb/\ExOk X pins H' x/\(∀ T,tb=.ref T->ExOk X pins H' T)/\E (.ref C) d H'
noncomputable def cxT(X:Cx)(pins:List (Addr×Obj))(σ:L2.St)(E:XK):Cx:={X with pn:=X.pn++pins,xe:=Wt X pins σ E}
section
variable {X:Cx} {pins pl:List (Addr×Obj)} {σ σ0:L2.St} {H:Hp} {s:Shared} {E:XK}
theorem yba(I:Inv X pins σ H s):Inv (cxT X pins σ0 E) [] σ H s :=
 ⟨⟨I.ok.mod,I.ok.kind,I.ok.glob,I.ok.blt,I.ok.above,I.ok.inj,I.ok.has,I.ok.cab,I.ok.hd,I.ok.frames,I.ok.stk,I.ok.exf,I.ok.bs,I.ok.bsz,I.ok.noex,I.ok.exfs,I.ok.funs,I.ok.frf⟩,I.os,I.bare,I.base,I.loc,I.cell,I.free,I.freeC,λp hp=>I.pin p (by rw[wo] at hp;exact hp),I.hok,I.len⟩
theorem Yv(I:Inv (cxT X pins σ0 E) pl σ H s):Inv X pins σ H s :=
 ⟨⟨I.ok.mod,I.ok.kind,I.ok.glob,I.ok.blt,I.ok.above,I.ok.inj,I.ok.has,I.ok.cab,I.ok.hd,I.ok.frames,I.ok.stk,I.ok.exf,I.ok.bs,I.ok.bsz,I.ok.noex,I.ok.exfs,I.ok.funs,I.ok.frf⟩,I.os,I.bare,I.base,I.loc,I.cell,I.free,I.freeC,λp hp=>I.pin p (ud _ hp),I.hok,I.len⟩
theorem YaQ{b:Addr}(f:ExOk (cxT X pins σ0 E) pl H b):ExOk X pins H b:=⟨f.un,f.loc,f.fs,f.new,f.cell,λp hp=>f.pin p (ud _ hp)⟩
noncomputable def zt(CX:CXT)(X:Cx)(σ:L2.St)(E:XK):Prop:=∀(pins:List (Addr×Obj)) (H:Hp) (s:Shared) (e:Value) (s':Shared),Inv X pins σ H s->CX X.stack H s E e s'->X.xe e s'
theorem Ya3(hx:X.ex=[]):zt (CX1 X.prog X.w) (cxT X pins σ E) σ E:=by
 intro pl H s e s' I h;obtain⟨x,C,t,tb,d,H',rfl,os,bare,un,hok,e1,e2,e3,e4,e5,q⟩:=h;have I':Inv (cxT X pins σ E) pl σ H' s':=I.call' (ch:=[]) os un hok bare λb z=>nomatch z;exact⟨x,C,t,tb,d,H',rfl,Yv I',e1,e2,YaQ (Yx I hx e4 e3),λT' z=>YaQ (Yx I hx (e5 T' z).2 (e5 T' z).1),q⟩
end
section
variable {X:Cx} {CX:CXT} {k:Nat} {f C:Addr} {fd:FuncData} {ps:List Str} {sp:Sp} {dvs:List V} {ds:List Value} {E:XK} {x m:Str} {p pos apos:Pos} {e o:Expr} {es:List Expr} {ta:TE} {t:TA} {σ0:L2.St}
theorem qbP{pins:List (Addr×Obj)}{H:Hp}{s:Shared}{Q:VK}{us:List Value}{vs:List V}(F:FnOk X.prog X.w X.K X.mg X.base CX k f fd ps sp)(hr:Room k X.A)(hb:Binds X.K fd ps ds)(hd:Vals dvs ds)(hx:zt CX X σ0 E)
  (I:Inv X pins σ0 H s) (r:Vals vs us) (h:sp (vs++dvs) H Q E):wpAny (model X.prog X.w) X.A (call (.ref f) us) (EP X pins σ0 Q) X.xe s:=by
 have r2:Vals (vs++dvs) (us++ds):=r.append hd;have hl:(us++ds).length=ps.length:=by rw[<- r2.length];exact F.len _ _ _ _ h
 refine wpAny_call (codeAny_mono (F.run X.A X.stack s H ⟨us,[]⟩ (us++ds) (vs++dvs) Q E hr I.env0 (hb s us I.kIn hl) r2 h) λr s' hq=>?_);cases r with
 |error e=>exact hx pins H s e s' I hq
 |ok fl =>
  cases fl with
  |ret u=>exact I.after hq
  |next=>exact False.elim hq
  |brk=>exact False.elim hq
  |cont=>exact False.elim hq
noncomputable def zbG(σ0:L2.St)(sp:Sp)(dvs:List V)(E:XK)(t:TA):TE:=λσ H Q=>σ=σ0/\t σ H λvs H1=>sp (vs++dvs) H1 Q E
theorem ybz(F:FnOk X.prog X.w X.K X.mg X.base CX k f fd ps sp)(hr:Room k X.A)(hg:Gl X x)(hm:X.mg x=some (.ref f))(hk:Xg X.K (.ref f)=true)(hb:Binds X.K fd ps ds)(hd:Vals dvs ds)(hx:zt CX X σ0 E)
  (ha:PA X (e::es) t) (hdb:(x==("__debug__":Str))=false:=by decide) (he:starEach (e::es) X.env=(false,eval e X.env)::starEach es X.env:=by rfl) (hpl:(backTo pos (starEach es X.env)).any (·.1)=false:=by rfl) :
  PE X (.Call (.Name x p) (e::es) [] pos) (zbG σ0 sp dvs E t):=by
 intro pins s σ H Q I h;obtain(⟨rfl,h⟩):=h;refine wpAny_Call_Name_kw (Qu I hg hm ?_ hdb);refine Wz (h₀:=X.base) I.ok.mod.kin hk (thn (ha pos pins s σ H _ I h) λus s1 ⟨vs,H1,I1,r,q⟩=>⟨I1.kIn,?_⟩) he hpl;exact qbP F hr hb hd hx I1 r q
theorem qbs{pins:List (Addr×Obj)}{H:Hp}{s:Shared}{Q:VK}{us:List Value}{vs:List V}(M:Mk X.K C f)(F:FnOk X.prog X.w X.K X.mg X.base CX k f fd ps sp)(hr:Room (k+1) X.A)(hb:Binds X.K fd ps ds)(hd:Vals dvs ds)
  (hx:zt CX X σ0 E) (I:Inv X pins σ0 H s) (r:Vals vs us)
  (h:∀ x dx,H x=none->H dx=none->dx≠x->sp (.ref x::(vs++dvs)) (upd (upd H dx (.own x)) x (.ins C dx [])) (λv H2=>v=.non/\Q (.ref x) H2) E) :
  wpAny (model X.prog X.w) X.A (call (.ref C) us) (EP X pins σ0 Q) X.xe s:=by
 have hq:=h (s.heap.objs.size+1) s.heap.objs.size (I.hok.fresh (Vw _)) (I.hok.fresh (wb _)) (Vb (Uj _));have I2:=Inv.made (C:=C) I;have r2:Vals (V.ref (s.heap.objs.size+1)::(vs++dvs)) (Value.ref (s.heap.objs.size+1)::(us++ds)):=.cons rfl (r.append hd);have hl:(Value.ref (s.heap.objs.size+1)::us++ds).length=ps.length:=by
  have e:=r2.length;rw[F.len _ _ _ _ hq] at e;exact e.symm
 refine wpAny_call (qbz (f:=f) I.kIn M.makes M.init (beq_iff_eq.mp M.fn) (codeAny_mono (F.run _ X.stack _ _ ⟨Value.ref (s.heap.objs.size+1)::us,[]⟩ (Value.ref (s.heap.objs.size+1)::(us++ds)) _ _ E (hr.make C us [])
  (I2.env0.make C us []) (hb _ (Value.ref (s.heap.objs.size+1)::us) I2.kIn hl) r2 hq) λr s' hq'=>?_))
 cases r with
 |error e=>exact hx pins _ _ e s' I2 hq'
 |ok fl =>
  cases fl with
  |ret u =>
   obtain⟨v,H',I3,rv,ev,q3⟩:=I2.after hq';subst ev;exact⟨rv,⟨V.ref (s.heap.objs.size+1),H',I3,rfl,q3⟩⟩
  |next=>exact False.elim hq'
  |brk=>exact False.elim hq'
  |cont=>exact False.elim hq'
noncomputable def zbI(σ0:L2.St)(C:Addr)(sp:Sp)(dvs:List V)(E:XK)(t:TA):TE:=λσ H Q=>σ=σ0/\t σ H λvs H1=>∀ x dx,H1 x=none->H1 dx=none->dx≠x ->
 sp (.ref x::(vs++dvs)) (upd (upd H1 dx (.own x)) x (.ins C dx [])) (λv H2=>v=.non/\Q (.ref x) H2) E
theorem qbI(M:Mk X.K C f)(F:FnOk X.prog X.w X.K X.mg X.base CX k f fd ps sp)(hr:Room (k+1) X.A)(hg:Gl X x)(hm:X.mg x=some (.ref C))(hb:Binds X.K fd ps ds)(hd:Vals dvs ds)(hx:zt CX X σ0 E)
  (ha:PA X (e::es) t) (hdb:(x==("__debug__":Str))=false:=by decide) (he:starEach (e::es) X.env=(false,eval e X.env)::starEach es X.env:=by rfl) (hpl:(backTo pos (starEach es X.env)).any (·.1)=false:=by rfl) :
  PE X (.Call (.Name x p) (e::es) [] pos) (zbI σ0 C sp dvs E t):=by
 intro pins s σ H Q I h;obtain(⟨rfl,h⟩):=h;refine wpAny_Call_Name_kw (Qu I hg hm ?_ hdb);refine Wz (h₀:=X.base) I.ok.mod.kin M.kp (thn (ha pos pins s σ H _ I h) λus s1 ⟨vs,H1,I1,r,q⟩=>⟨I1.kIn,?_⟩) he hpl;exact qbs M F hr hb hd hx I1 r q
end
section
variable {M:Model} {A:Around} {E:Value->Shared->Prop} {s:Shared}
theorem Yaf{base:Heap}{env:Env}{outer:List Env}{L x C t:Addr}{tb:Value}{d:Option Addr}{Q:Unit->Shared->Prop}
  (hfr:A.frames=some (env::outer)) (hl:s.heap.FunFrames base (env::outer)) (hf:env.frame=some L) (he:s.heap.get? x=some (yh C t tb d)) (ht:Tb s.heap x tb)
  (h:∀ h' T,Noted ((env::outer).filterMap (·.frame)) x tb s.heap h'->h'.get? x=some (yh C t (.ref T) d)->Tb h' x (.ref T)->s.heap.objs.size<=T->Q () {s with heap:=h'}) :
  wpAny M A (noteFrame (.ref x) env) (λ_ s'=>wpAny M A (setFlight (.ref x) none) Q E s') E s:=by
 unfold noteFrame;simp only[hf];refine wpAny_bind (wpAny_field he rfl (x:=tb) rfl ?_);cases ht with
 |no =>
  rw[if_neg (by decide)];exact qE hfr hl hf he λh' T k1 k2 e1 e2 e3=>h h' T ⟨λb o hb nb _ eb=>k1 b o hb nb eb,λb o hb _ _ eb=>k2 b o hb eb⟩ e1 e2 e3
 |@«at» T o ts ne ho hd h3 =>
  rw[if_pos (show(Value.ref T != Value.none)=true from by simp)];refine wpAny_bind (wpAny_field ho hd h3 ?_);rw[if_neg (show ¬((Value.none==rawInt L)=true) from by simp[rawInt])];refine wpAny_bind (wpAny_setField ho hd (vo.mp h3).1 ?_);have other:∀ b,b≠T->(s.heap.update T (Obj.mapFields (·.setIfInBounds 3 Value.none))).get? b=s.heap.get? b:=λb nb=>uf _ _ (Ne.symm nb);have nrec:∀ b o,s.heap.get? b=some o->(∀ vs,o.data≠.fields vs)->b≠T:=λb o eb nf z=>by
   rw[z,ho] at eb;cases eb;exact nf ts hd
  refine qE (s:={s with heap:=s.heap.update T (Obj.mapFields (·.setIfInBounds 3 Value.none))}) hfr (hl.of_keeps λb o eb nf=>⟨o,(other b (nrec b o eb nf)).trans eb,rfl⟩) hf ((other x (Ne.symm ne)).trans he)
   λh' T' k1 k2 e1 e2 e3=>h h' T' ⟨λb o hb nb nt eb=>k1 b o hb nb ((other b λz=>nt (z ▸ rfl)).trans eb),λb o hb _ nt eb=>k2 b o hb ((other b λz=>nt (z ▸ rfl)).trans eb)⟩ e1 e2 ?_
  have e3':(s.heap.update T (Obj.mapFields (·.setIfInBounds 3 Value.none))).objs.size<=T':=e3;rw[vw] at e3';exact e3'
theorem Z7{x C t T:Addr}{d:Option Addr}{Q:Unit->Shared->Prop}(he:s.heap.get? x=some (yh C t (.ref T) d))(ht:Tb s.heap x (.ref T))(h:Q () s):wpAny M A (setFlight (.ref x) none) Q E s:=by
 cases ht with
 |@«at» _ o ts ne ho hd h3 =>
  refine wpAny_setFlight_none he rfl rfl ho hd (vo.mp h3).1 ?_;have e:=Heap.update_setField_same s.heap T o ts 3 .none ho hd h3;have e':({s with heap:=s.heap.update T (Obj.mapFields (·.setIfInBounds 3 Value.none))}:Shared)=s:=by rw[e]
  rw[e'];exact h
end
noncomputable def cxH(X:Cx)(x:Addr)(o:Obj):Cx:={X with A:=X.A.mark (some (.ref x)),calm:=false,pn:=X.pn++[(x,o)],xe:=λ_ _=>False}
section
variable {X:Cx} {pins:List (Addr×Obj)} {σ:L2.St} {H:Hp} {s:Shared} {x:Addr} {o:Obj}
theorem zbe(I:Inv X pins σ H s)(g:s.heap.get? x=some o)(f:ExOk X pins H x)(d:∀ v,o.data≠.cell v):Inv (cxH X x o) pins σ H s :=
 ⟨⟨I.ok.mod,I.ok.kind,I.ok.glob,I.ok.blt,I.ok.above,I.ok.inj,I.ok.has,I.ok.cab,λz=>absurd (show false=true from z) Wh,I.ok.frames,I.ok.stk,I.ok.exf,I.ok.bs,I.ok.bsz,I.ok.noex,I.ok.exfs,I.ok.funs,I.ok.frf⟩,I.os,I.bare,I.base,I.loc,I.cell,I.free,I.freeC,λp hp=>by
  rcases Uf.mp hp with hp|hp
  ·rcases Uf.mp hp with hp|hp
   ·exact I.pin p (ud _ hp)
   ·obtain rfl:=Ua.mp hp;exact⟨g,f.un,f.loc,f.fs,d⟩
  ·exact I.pin p (uc _ hp),I.hok,I.len⟩
end
structure FunD (K:PySem.W.Frag) (x qual:Str) (st:Stmt) (f:Addr) (fd:FuncData):Prop where
 ex:∃(oc:Value)(od:Option Addr)(dV kV doc pm:Value)(an:Option Addr)(cdv ct:Value) (osl:Array (Option Value)),
  fd=vg x qual (Zl st) (yg st) (Zc st) dV kV doc pm an cdv ct/\K.lookup f=some ⟨oc,od,.func fd,osl⟩/\Uk K cdv qual=true
 kp:Xg K (.ref f)=true
theorem Zb0{K:PySem.W.Frag}{x qual:Str}{st:Stmt}{f:Addr}{oc:Value}{od an:Option Addr}{osl:Array (Option Value)}{dV kV doc pm cdv ct:Value}(l:K.lookup f=some ⟨oc,od,.func (vg x qual (Zl st) (yg st) (Zc st) dV kV doc pm an cdv ct),osl⟩)
  (c:Uk K cdv qual=true) (k:Xg K (.ref f)=true):FunD K x qual st f (vg x qual (Zl st) (yg st) (Zc st) dV kV doc pm an cdv ct):=⟨⟨oc,od,dV,kV,doc,pm,an,cdv,ct,osl,rfl,l,c⟩,k⟩
structure RoomH (k:Nat) (A:Around) (x:Addr):Prop where
 hd:A.handled=some (.ref x)
 dp:A.depth+3*k+5<recursionLimit
 un:A.units+16*k+200<cLine
structure FnOkH (P:Program) (w:World) (K:PySem.W.Frag) (mg:Str->Option Value) (base:Heap) (k:Nat) (f:Addr) (fd:FuncData) (ps:List Str) (sp:Addr->Addr->Sp):Prop where
 len:∀ x C vs H Q E,sp x C vs H Q E->vs.length=ps.length
 run:∀(x C t T:Addr)(A:Around)(outer:List Env)(s:Shared)(H:Hp) (args:Args) (us:List Value) (vs:List V) (Q:VK),RoomH k A x->Env0 P w K mg base A outer s H->s.heap.get? x=some (yh C t (.ref T))->H x=none->BindsTo s fd args (ps.zip us)->Vals vs us->sp x C vs H Q E0 ->
  codeAny (model P w) A (.call (.ref f) args) (CR CX0 outer P w H s Q E0) s
theorem yaf{prog:Program}{w:World}{A:Around}(hh:A.handled=none)(b:Bool)(I ax:Addr)(hne:ax≠I)(items:Array Value) :
  Walks prog w A I [I,ax] [I] items.size (λi v=>items[i]?=some v) (λi h=>SeqIt h b I ax i/\SeqIs h b ax items):=by
 cases b with
 |false=>exact Walks.list hh I ax hne items
 |true =>
  exact{
   sub:=λb hb=>by simp at hb;simp[hb]
   frame:=λ_ _ _ st hk=>⟨st.1.keeps λo e=>hk I (by simp) o e,st.2.keeps λo e=>hk ax (by simp) o e⟩
   item:=λi s Q E hi st hQ=>by
    refine wpAny_pyNext_tuple_item (show s.heap.IsTupleIter I ax i from st.1) (show s.heap.IsTuple ax items from st.2) (x:=items[i]) (by simp[hi]) λh' a sb=>?_;exact hQ _ h' s.toks (by simp[hi]) ⟨a,st.2.keeps λo e=>sb.extBut ax o hne e⟩ λb o hb e=>sb.extBut b o (λz=>hb (by simp[z])) e
   done:=λs Q E st hQ=>wpAny_pyNext_tuple_end hh (show s.heap.IsTupleIter I ax items.size from st.1) (show s.heap.IsTuple ax items from st.2) (by simp) λh' he=>hQ h' s.toks λb o hb e=>he b o (λz=>hb (by simp[z])) e
   self:=λ_ _ _ _ st hQ=>wpAny_pyIter_tupleiter (show Heap.IsTupleIter _ I ax _ from st.1) hQ}
theorem ZB{ns:List Int}{us:List Value}(r:Vals (ns.map V.int) us){i:Nat}{v:Value}(h:us.toArray[i]?=some v):∃ t,v=.int (ns.getD i 0) t:=by
 have h':us[i]?=some v:=by simpa using h
 have lt:i<us.length:=(Xa.mp h').1;have hl:=r.length;rw[Vd] at hl;obtain⟨u,hu,ru⟩:=r.get (i:=i) (x:=.int (ns.getD i 0)) (by rw[We,we (by lia),Ug,we (by lia)];rfl);rw[hu] at h';cases h';exact ru
theorem ybV{bs:List Bool}{us:List Value}(r:Vals (bs.map V.bl) us){i:Nat}{v:Value}(h:us.toArray[i]?=some v):v=.bool (bs.getD i true):=by
 have h':us[i]?=some v:=by simpa using h
 have lt:i<us.length:=(Xa.mp h').1;have hl:=r.length;rw[Vd] at hl;obtain⟨u,hu,ru⟩:=r.get (i:=i) (x:=.bl (bs.getD i true)) (by rw[We,we (by lia),Ug,we (by lia)];rfl);rw[hu] at h';cases h';exact ru
theorem Qbx(bs:List Bool):(Ue bs.length).all (λi=>bs.getD i true)=bs.all id:=by
 rw[Bool.eq_iff_iff,Vj,Vj];constructor
 ·intro h x hx;obtain⟨i,hi,e⟩:=vt hx;have:=h i (uq.mpr hi);rw[Ug,we hi] at this;rw[<- e];exact this
 ·intro h i hi;rw[Ug,we (uq.mp hi)];exact h _ (uk _)
theorem YaB(val:Nat->Int)(bt:Nat->Nat->Bool)(hb:∀ i j,bt i j=decide (val i<val j)):∀ k,argBest bt k<=k/\∀ j,j<=k->val (argBest bt k)<=val j
 |0=>⟨wb _,λj hj=>by
  have:j=0:=by lia
  subst this;exact wx _⟩
 |k+1=>by
  obtain⟨h1,h2⟩:=YaB val bt hb k;show(if bt (k+1) (argBest bt k) then k+1 else argBest bt k)<=k+1/\∀ j,j<=k+1->val (if bt (k+1) (argBest bt k) then k+1 else argBest bt k)<=val j;rw[hb];by_cases c:val (k+1)<val (argBest bt k)
  ·simp only[c,decide_true,if_true];refine⟨wb _,λj hj=>?_⟩;by_cases e:j=k+1
   ·rw[e];exact wx _
   ·have:=h2 j (by lia);lia
  ·simp only[c,decide_false,vk,if_false];refine⟨by lia,λj hj=>?_⟩;by_cases e:j=k+1
   ·rw[e];lia
   ·exact h2 j (by lia)
theorem ybQ(val:Nat->Int)(bt:Nat->Nat->Bool)(hb:∀ i j,bt i j=decide (val j<val i)):∀ k,argBest bt k<=k/\∀ j,j<=k->val j<=val (argBest bt k):=λk=>by
 have h:=YaB (λi=>- val i) bt (λi j=>by rw[hb];congr 1;apply propext;constructor <;> intro h <;> lia) k;exact⟨h.1,λj hj=>by have:=h.2 j hj;lia⟩
section
variable {X:Cx}
noncomputable def rAll(K:PySem.W.Frag):List V->Hp->VK->Prop:=λxs H Q=>∃(b:Bool)(a:Addr)(bs:List Bool),xs=[.ref a]/\SqS K H b a (bs.map V.bl)/\Q (.bl (bs.all id)) H
noncomputable def rMin(K:PySem.W.Frag):List V->Hp->VK->Prop:=λxs H Q=>∃(b:Bool)(a:Addr)(ns:List Int),xs=[.ref a]/\SqS K H b a (ns.map V.int)/\ns≠[]/\∀ m,m∈ns->(∀ k∈ns,m<=k)->Q (.int m) H
noncomputable def rMax(K:PySem.W.Frag):List V->Hp->VK->Prop:=λxs H Q=>∃(b:Bool)(a:Addr)(ns:List Int),xs=[.ref a]/\SqS K H b a (ns.map V.int)/\ns≠[]/\∀ m,m∈ns->(∀ k∈ns,k<=m)->Q (.int m) H
theorem yX{a:Addr}{us:List Value}(r:Vals [V.ref a] us):us=[Value.ref a]:=by
 cases r with
 |cons r rr =>
  cases rr;obtain rfl:_=Value.ref a:=r;rfl
theorem yb6{s:Shared}{a:Addr}(h:a<s.heap.objs.size)(o:Obj):∀ b∈[s.heap.objs.size,a],b<(s.heap.push o).objs.size:=λb hb=>by
 rw[xh];simp only[xa,Ub,or_false] at hb
 rcases hb with e|e
 ·rw[e];exact Uj _
 ·rw[e];exact Xo h
theorem qbA(hc:X.calm=true):CallR X (.builtin "all") (rAll X.K):=by
 intro pins s σ H xs us Q I r h;obtain⟨b,a,bs,rfl,hq,q⟩:=h;obtain rfl:=yX r;obtain⟨its,v,p,_⟩:=Qm I hq;have lt:=p.lt;refine call_all_walk (Qk p ⟨s.heap.objs.size,[s.heap.objs.size,a],[s.heap.objs.size],its.toArray.size,_,_,λi=>bs.getD i true,rfl,yaf (Qh (I.ok.hd hc)) b _ a (Vb lt) its.toArray,⟨.new (Wb _ rfl),p.keeps λo e=>wa _ e⟩,λi u s' Q' E' hu hQ=>?_,λh' tk k=>?_⟩)
 ·rw[ybV v hu];exact wpAny_truthy_bool hQ
 have hl:=v.length;rw[Vd] at hl;rw[vb,<- hl,Qbx];exact⟨.bl _,H,I.kept (t':=tk) (λc o e=>k c o (λz=>absurd (ua e) (by simp at z;rw[z];exact Wi _)) (wa _ e)),rfl,q⟩
theorem yaT{ns:List Int}{i:Nat}(h:i<ns.length):ns.getD i 0∈ns:=by
 rw[Ug,we h];exact uk _
theorem Y7{ns:List Int}{k:Int}(h:k∈ns):∃ i,i<ns.length/\ns.getD i 0=k:=by
 obtain⟨i,hi,e⟩:=vt h;exact⟨i,hi,by rw[Ug,we hi];exact e⟩
theorem qbj(hc:X.calm=true):CallR X (.builtin "min") (rMin X.K):=by
 intro pins s σ H xs us Q I r h;obtain⟨b,a,ns,rfl,hq,ne,q⟩:=h;obtain rfl:=yX r;obtain⟨its,v,p,_⟩:=Qm I hq;have lt:=p.lt;have hl:=v.length;rw[Vd] at hl;have pos:0<ns.length:=Vh.mpr ne;refine call_min_walk (Qk p ⟨s.heap.objs.size,[s.heap.objs.size,a],[s.heap.objs.size],its.toArray.size,_,_,λi j=>decide (ns.getD i 0<ns.getD j 0),rfl,yaf (Qh (I.ok.hd hc)) b _ a (Vb lt) its.toArray,⟨.new (Wb _ rfl),p.keeps λo e=>wa _ e⟩,yb6 lt _,by simp;lia,λi j vi vj s' Q' E' hi hj hQ=>?_,λu h' tk hu k=>?_⟩)
 ·obtain⟨t1,rfl⟩:=ZB v hi;obtain⟨t2,rfl⟩:=ZB v hj;exact lt_int hQ
 obtain⟨t,rfl⟩:=ZB v hu;obtain⟨b1,b2⟩:=YaB (λi=>ns.getD i 0) _ (λ_ _=>rfl) (its.toArray.size-1);rw[vb] at b1 b2 ⊢;refine⟨.int _,H,I.kept (t':=tk) (λc o e=>k c o (λz=>absurd (ua e) (by simp at z;rw[z];exact Wi _)) (wa _ e)),⟨t,rfl⟩,q _ (yaT (by lia)) λm hm=>?_⟩;obtain⟨i,hi,e⟩:=Y7 hm;rw[<- e];exact b2 i (by lia)
theorem Qbn(hc:X.calm=true):CallR X (.builtin "max") (rMax X.K):=by
 intro pins s σ H xs us Q I r h;obtain⟨b,a,ns,rfl,hq,ne,q⟩:=h;obtain rfl:=yX r;obtain⟨its,v,p,_⟩:=Qm I hq;have lt:=p.lt;have hl:=v.length;rw[Vd] at hl;have pos:0<ns.length:=Vh.mpr ne;refine call_max_walk (Qk p ⟨s.heap.objs.size,[s.heap.objs.size,a],[s.heap.objs.size],its.toArray.size,_,_,λi j=>decide (ns.getD j 0<ns.getD i 0),rfl,yaf (Qh (I.ok.hd hc)) b _ a (Vb lt) its.toArray,⟨.new (Wb _ rfl),p.keeps λo e=>wa _ e⟩,yb6 lt _,by simp;lia,λi j vi vj s' Q' E' hi hj hQ=>?_,λu h' tk hu k=>?_⟩)
 ·obtain⟨t1,rfl⟩:=ZB v hi;obtain⟨t2,rfl⟩:=ZB v hj;exact gt_int hQ
 obtain⟨t,rfl⟩:=ZB v hu;obtain⟨b1,b2⟩:=ybQ (λi=>ns.getD i 0) _ (λ_ _=>rfl) (its.toArray.size-1);rw[vb] at b1 b2 ⊢;refine⟨.int _,H,I.kept (t':=tk) (λc o e=>k c o (λz=>absurd (ua e) (by simp at z;rw[z];exact Wi _)) (wa _ e)),⟨t,rfl⟩,q _ (yaT (by lia)) λm hm=>?_⟩;obtain⟨i,hi,e⟩:=Y7 hm;rw[<- e];exact b2 i (by lia)
noncomputable def Zbx:V->Option Value
 |.ty n=>some (.type n)
 |.ref a=>some (.ref a)
 |_=>none
theorem ZaW{x:V}{c u:Value}(h:Zbx x=some c)(r:RelV x u):u=c:=by
 cases x with
 |ty n=>cases h;exact r
 |ref a=>cases h;exact r
 |_=>cases h
noncomputable def rIs(K:PySem.W.Frag):List V->Hp->VK->Prop:=λxs H Q=>∃ x cv t c b,xs=[x,cv]/\Zbx cv=some c/\TyOf K H x t/\Vc K t c=some b/\Q (.bl b) H
theorem zbW:CallR X (.builtin "isinstance") (rIs X.K):=by
 intro pins s σ H xs us Q I r h;obtain⟨x,cv,t,c,b,rfl,e,ty,k,q⟩:=h;cases r with
 |cons r rr =>
  cases rr with
  |cons r' rr =>
   cases rr;have:=ZaW e r';subst this;exact zbr I r ty k λtk=>⟨.bl b,H,I.tok tk,rfl,q⟩
end
noncomputable def Ya4(C x:Addr)(d:Option Addr):Heap->Prop:=λh=>∃ t T,h.get? x=some (yh C t (.ref T) d)
section
variable {X:Cx} {pins:List (Addr×Obj)} {σ:L2.St} {H:Hp} {s:Shared} {x:Addr} {o:Obj}
theorem qaw(ok:X.Ok)(I:Inv (cxH X x o) pins σ H s):Inv X ((x,o)::pins) σ H s :=
 ⟨ok,I.os,I.bare,I.base,I.loc,I.cell,I.free,I.freeC,λp hp=>by
  rcases Uf.mp hp with hp|hp
  ·exact I.pin p (ud _ (ud _ hp))
  ·rcases xa.mp hp with rfl|hp
   ·exact I.pin _ (ud _ (uc _ (Ua.mpr rfl)))
   ·exact I.pin p (uc _ hp),I.hok,I.len⟩
theorem ya3(I:Inv X ((x,o)::pins) σ H s):Inv X pins σ H s :=
 ⟨I.ok,I.os,I.bare,I.base,I.loc,I.cell,I.free,I.freeC,λp hp=>by
  rcases Uf.mp hp with hp|hp
  ·exact I.pin p (ud _ hp)
  ·exact I.pin p (uc _ (Ve _ hp)),I.hok,I.len⟩
theorem QR{D:Addr}{o:HO}{H':Hp}(I:Inv X pins σ H s)(f0:H D=none)(f:ExOk X pins H' D)(new:ObjOk X.prog X.w (upd H D o) s.heap D o):Inv X pins σ (upd H D o) s:=by
 refine⟨I.ok,I.os,I.bare,⟨I.base.keep,I.base.slot,λb u e n hx=>?_,I.base.there,λb xs e=>?_,λb u xs e=>?_,λb ps e=>?_⟩,I.loc,I.cell,?_,λx c e=>?_,λp hp=>?_,zat I.hok f0 new,I.len⟩
 ·rw[Qa (λz=>by rw[z,f.new] at e;cases e)];exact I.base.free b u e n hx
 ·have q:=I.base.tups b xs e;rw[Qa (Zd q f0)];exact q
 ·have q:=I.base.frzs b u xs e;rw[Qa (Zd q f0)];exact q
 ·obtain⟨m,q⟩:=I.base.tbls b ps e;exact⟨m,by rw[Qa (Zd q f0)];exact q⟩
 ·rw[Qa (Ne.symm f.loc)];exact I.free
 ·rw[Qa (f.cell x c e)];exact I.freeC x c e
 ·obtain⟨e1,e2,e3,e4,e5⟩:=I.pin p hp;exact⟨e1,by rw[Qa (f.pin p hp)];exact e2,e3,e4,e5⟩
theorem ZaR{C t T:Addr}{d:Option Addr}{H':Hp}(I:Inv X ((x,yh C t (.ref T) d)::pins) σ H s)(fx:ExOk X pins H' x):Inv X pins σ (upd H x (.ext (Ya4 C x d))) s:=by
 obtain⟨g,un,_,_,_⟩:=I.pin (x,yh C t (.ref T) d) (uc _ uh);refine QR (ya3 I) un fx ?_;exact⟨⟨t,T,g⟩,⟨_,g⟩,λh1 h2 ⟨t,T,e⟩ k=>⟨t,T,k _ e⟩⟩
end
section
variable {X:Cx} {body:List Stmt} {c0 n y:Str} {np hpos pos p2 p4 p6:Pos} {i j:Nat} {B:Addr} {tb:L2.St->XK->TS}
noncomputable def tTryK(K:PySem.W.Frag)(i j:Nat)(B:Addr)(tb:L2.St->XK->TS):TS:=λD σ H=>∃ E:XK,tb σ E D σ H/\∀ C d H',E (.ref C) d H'->zB K C/\(Zm K C).contains (.ref B)=true /\
 ∀ x,H' x=none->D.nx (((σ.set i (some (.ref x))).set j (some (.ref x))).set i none) (upd H' x (.ext (Ya4 C x d)))
set_option tactic.hygienic true in
theorem ps_tryK(hst:X.stack=X.env::X.outer)(hef:X.env.frame=some X.env.locals)(hN:X.N.Nodup)(hi:X.N[i]?=some n)(hk:X.env.scope.names.lookup n=some .local)(hj:X.N[j]?=some y)(hy:Loc X.env.scope y)(qB:ExcC X.K B)(hg:Gl X c0)(hm:X.mg c0=some (.ref B))
  (hb:∀ pins σ E,PSs (cxT X pins σ E) body (tb σ E)) (hv:(n==("__debug__":Str))=false) (hv2:(n==("__classdict__":Str))=false) (hf:X.fn y=true\/X.env.scope.names.lookup y=some .local) (hd:(c0==("__debug__":Str))=false:=by decide) :
  PS X (.Try body [.ExceptHandler (some (.Name c0 np)) (some n) [.Assign [.Name y p2] (.Name n p4) p6] hpos] [] [] pos) (tTryK X.K i j B tb):=by
 intro pins s σ H D I h;obtain(⟨E,hbod,hand⟩):=h;refine wpAny_Try_except (wpAny_mono (hb pins σ E [] s σ H D (yba I) hbod) (λf s1 q=>?_) λe s1 q=>?_)
 ·cases f with
  |next=>obtain(⟨σ',H',I',q⟩):=q;exact wpAny_execs_nil ⟨σ',H',Yv I',q⟩
  |brk=>obtain(⟨σ',H',I',q⟩):=q;exact⟨σ',H',Yv I',q⟩
  |cont=>obtain(⟨σ',H',I',q⟩):=q;exact⟨σ',H',Yv I',q⟩
  |ret u=>obtain(⟨v,σ',H',I',r,q⟩):=q;exact⟨v,σ',H',Yv I',r,q⟩
 ·obtain(⟨x,C,t,tb',d,H',rfl,I1,g1,t1,fx,ft,q⟩):=q;obtain(⟨qC,hin,hand⟩):=hand C d H' q;refine Yaf (env:=X.env) (outer:=X.outer) (L:=X.env.locals) (by rw[I1.ok.frames,hst]) (by have z:=I1.stack;rw[hst] at z;exact z) hef g1 t1 λh' T n1 g2 t2 g3=>?_;have n1':Noted (frs X.stack) x tb' s1.heap h':=by rw[hst];exact n1
  have I2:Inv X pins σ H' {s1 with heap:=h'}:=zaw (t':=s1.toks) I1 n1' g1 t1 fx ft;have IH:=zbe (o:=yh C t (.ref T) d) I2 g2 fx (λv z=>nomatch z);refine wpAny_handleBy_cons (codeAny_handlers_test (Qu (X:=cxH X x (yh C t (.ref T) d)) IH hg hm ?_ hd)) (λz=>nomatch z);refine Z5 qC qB hin IH.kIn g2 (codeAny_handlers_suite_as (Z7 g2 t2 ?_));refine yV (X:=cxH X x (yh C t (.ref T) d)) IH hN hi (.inl hk) (v:=.ref x) (u:=.ref x) rfl (λs3 I3=>?_) (.inr hk);have li:i<σ.length:=by rw[I.len];exact(Xa.mp hi).1
  have hh:=zae (yaY (X:=cxH X x (yh C t (.ref T) d)) (pos:=p6) (pos':=p2) hN hj hy (zS (X:=cxH X x (yh C t (.ref T) d)) (pos:=p4) hi (.inl hk) hv hv2) (by rfl) hf);refine wpAny_mono (hh pins s3 _ H' {nx:=λσ4 H4=>σ4=(σ.set i (some (.ref x))).set j (some (.ref x))/\H4=H',rt:=λ_ _=>False,bk:=λ_ _=>False,ct:=λ_ _=>False} I3 ⟨.ref x,by rw[vc li],rfl,rfl⟩) (λf s4 q4=>?_) λ_ _ z=>z.elim;cases f with
  |next =>
   obtain(⟨σ4,H4,I4,rfl,rfl⟩):=q4;exact yax (qaw I.ok I4) hN hi hk λs5 I5=>⟨_,_,ZaR I5 fx,hand x fx.un⟩
  |brk=>obtain(⟨σ4,H4,I4,q4⟩):=q4;exact q4.elim
  |cont=>obtain(⟨σ4,H4,I4,q4⟩):=q4;exact q4.elim
  |ret u=>obtain(⟨v,σ4,H4,I4,r4,q4⟩):=q4;exact q4.elim
noncomputable def tTryT(K:PySem.W.Frag)(i j:Nat)(tag:Str)(B:Addr)(tb:L2.St->XK->TS):TS:=λD σ H=>∃ E:XK,tb σ E D σ H/\∀ C d H',E (.ref C) d H'->zB K C/\(Zm K C).contains (.ref B)=true /\
 ∀ x a,H' x=none->H' a=none->a≠x->D.nx (((σ.set i (some (.ref x))).set j (some (.ref a))).set i none) (upd (upd H' a (.tup [.str tag,.ref x])) x (.ext (Ya4 C x d)))
theorem ybN{tag:Str}{p5 p8:Pos}{k k2}(hst:X.stack=X.env::X.outer)(hef:X.env.frame=some X.env.locals)(hN:X.N.Nodup)(hi:X.N[i]?=some n)(hk:X.env.scope.names.lookup n=some .local)(hj:X.N[j]?=some y)(hy:Loc X.env.scope y)(qB:ExcC X.K B)(hg:Gl X c0)(hm:X.mg c0=some (.ref B))
  (hb:∀ pins σ E,PSs (cxT X pins σ E) body (tb σ E)) (hv:(n==("__debug__":Str))=false) (hv2:(n==("__classdict__":Str))=false) (hf:X.fn y=true\/X.env.scope.names.lookup y=some .local) (hd:(c0==("__debug__":Str))=false:=by decide) :
  PS X (.Try body [.ExceptHandler (some (.Name c0 np)) (some n) [.Assign [.Name y p2] (.Tuple [.Constant (.str tag) k p8,.Name n p4] k2 p5) p6] hpos] [] [] pos) (tTryT X.K i j tag B tb):=by
 intro pins s σ H D I h;obtain(⟨E,hbod,hand⟩):=h;refine wpAny_Try_except (wpAny_mono (hb pins σ E [] s σ H D (yba I) hbod) (λf s1 q=>?_) λe s1 q=>?_)
 ·cases f with
  |next=>obtain(⟨σ',H',I',q⟩):=q;exact wpAny_execs_nil ⟨σ',H',Yv I',q⟩
  |brk=>obtain(⟨σ',H',I',q⟩):=q;exact⟨σ',H',Yv I',q⟩
  |cont=>obtain(⟨σ',H',I',q⟩):=q;exact⟨σ',H',Yv I',q⟩
  |ret u=>obtain(⟨v,σ',H',I',r,q⟩):=q;exact⟨v,σ',H',Yv I',r,q⟩
 ·obtain(⟨x,C,t,tb',d,H',rfl,I1,g1,t1,fx,ft,q⟩):=q;obtain(⟨qC,hin,hand⟩):=hand C d H' q;refine Yaf (env:=X.env) (outer:=X.outer) (L:=X.env.locals) (by rw[I1.ok.frames,hst]) (by have z:=I1.stack;rw[hst] at z;exact z) hef g1 t1 λh' T n1 g2 t2 g3=>?_;have n1':Noted (frs X.stack) x tb' s1.heap h':=by rw[hst];exact n1
  have I2:Inv X pins σ H' {s1 with heap:=h'}:=zaw (t':=s1.toks) I1 n1' g1 t1 fx ft;have IH:=zbe (o:=yh C t (.ref T) d) I2 g2 fx (λv z=>nomatch z);refine wpAny_handleBy_cons (codeAny_handlers_test (Qu (X:=cxH X x (yh C t (.ref T) d)) IH hg hm ?_ hd)) (λz=>nomatch z);refine Z5 qC qB hin IH.kIn g2 (codeAny_handlers_suite_as (Z7 g2 t2 ?_));refine yV (X:=cxH X x (yh C t (.ref T) d)) IH hN hi (.inl hk) (v:=.ref x) (u:=.ref x) rfl (λs3 I3=>?_) (.inr hk);have li:i<σ.length:=by rw[I.len];exact(Xa.mp hi).1
  have hh:=zae (yaY (X:=cxH X x (yh C t (.ref T) d)) (pos:=p6) (pos':=p2) hN hj hy (zbM (X:=cxH X x (yh C t (.ref T) d)) (x1:=k2) (pos:=p5) (qj (X:=cxH X x (yh C t (.ref T) d)) (Ybu (x:=tag) (j:=k) (pos:=p8)) (qj (zS (X:=cxH X x (yh C t (.ref T) d)) (pos:=p4) hi (.inl hk) hv hv2) zy (by rfl)) (by rfl))) (by rfl) hf);refine wpAny_mono (hh pins s3 _ H' {nx:=λσ4 H4=>∃ a,H' a=none/\σ4=(σ.set i (some (.ref x))).set j (some (.ref a))/\H4=upd H' a (.tup [.str tag,.ref x]),rt:=λ_ _=>False,bk:=λ_ _=>False,ct:=λ_ _=>False} I3 ⟨.ref x,by rw[vc li],(by show 2<=sizeLine;decide),λa ha=>⟨a,ha,rfl,rfl⟩⟩) (λf s4 q4=>?_) λ_ _ z=>z.elim;cases f with
  |next =>
   obtain(⟨σ4,H4,I4,a,ha,rfl,rfl⟩):=q4;have nax:a≠x:=λz=>by
    have q:=(I4.pin (x,yh C t (.ref T) d) (ud _ (uc _ (Ua.mpr rfl)))).2.1;rw[z,qb] at q;cases q
   exact yax (qaw I.ok I4) hN hi hk λs5 I5=>⟨_,_,ZaR I5 fx,hand x a fx.un ha nax⟩
  |brk=>obtain(⟨σ4,H4,I4,q4⟩):=q4;exact q4.elim
  |cont=>obtain(⟨σ4,H4,I4,q4⟩):=q4;exact q4.elim
  |ret u=>obtain(⟨v,σ4,H4,I4,r4,q4⟩):=q4;exact q4.elim
noncomputable def rIsE(K:PySem.W.Frag):List V->Hp->VK->Prop:=λxs H Q=>∃ x C d cv c b,xs=[.ref x,cv]/\H x=some (.ext (Ya4 C x d))/\(∀ D,d=some D->∃ o,H D=some o)/\ExcK K C/\Zbx cv=some c/\Vc K (.ref C) c=some b/\Q (.bl b) H
theorem qbK:CallR X (.builtin "isinstance") (rIsE X.K):=by
 intro pins s σ H xs us Q I r h;obtain⟨x,C,d,cv,c,b,rfl,hx,hd,Z,e,k,q⟩:=h;cases r with
 |cons r rr =>
  cases rr with
  |cons r' rr =>
   cases rr;have:=ZaW e r';subst this;obtain rfl:_=Value.ref x:=r;obtain⟨⟨t,T,g⟩,_⟩:=I.hok x _ hx;exact Uh (ZbB Z) I.kIn ⟨t,_,d,g,λD e=>let ⟨_,ho⟩:=hd D e;qaH I.hok ho⟩ k (λz=>nomatch z) λtk=>⟨.bl b,H,I.tok tk,rfl,q⟩
end
noncomputable def Src(K:PySem.W.Frag)(mg:Str->Option Value)(x:Str)(st:Stmt)(ps:List Str):Prop:=∃ f fd,FunD K x x st f fd/\Binds K fd ps []/\mg x=some (.ref f)
noncomputable def QaU(P:Program)(w:World)(K:PySem.W.Frag)(mg:Str->Option Value)(base:Heap)(x:Str)(k:Nat)(ps:List Str)(sp:Sp):Prop :=
 ∃ f fd,FnOk P w K mg base (CX1 P w) k f fd ps sp/\Binds K fd ps []/\Xg K (.ref f)=true/\mg x=some (.ref f)
section
variable {P:Program} {w:World} {K:PySem.W.Frag} {mg:Str->Option Value} {base:Heap} {x:Str} {ps:List Str} {sp:Sp}
noncomputable abbrev cxD(P:Program)(w:World)(K:PySem.W.Frag)(mg:Str->Option Value)(base:Heap)(N:List Str)(x:Str)(st:Stmt)(f:Addr)(cd:Value)(A:Around)(outer:List Env)(s:Shared)(H:Hp)(E:XK):Cx :=
 Yac (CX1 P w) P w K mg base N x (Zc st) f cd A outer s H E
theorem Zcb{st:Stmt}{N:List Str}{k:Nat}(S:Src K mg x st ps)(sc:FnScope N ps (Zc st))(len:∀ vs H Q E,sp vs H Q E->vs.length=ps.length)
  (hbody:∀(f:Addr)(cdv:Value)(A:Around)(outer:List Env)(s:Shared) (H:Hp) (vs:List V) (Q:VK) (E:XK),Room k (A.deeper (envOfC x (Zc st) s.heap.objs.size f cdv))->sp vs H Q E ->
   ∃ t,PSs (cxD P w K mg base N x st f cdv A outer s H E) (yg st) t/\t {nx:=λ_ H'=>Q .non H',rt:=Q} (start N vs) H):QaU P w K mg base x (k+1) ps sp:=by
 obtain⟨f,fd,F,b,m⟩:=S;refine⟨f,fd,?_,b,F.kp,m⟩;obtain⟨oc,od,dV,kV,doc,pm,an,cdv,ct,osl,rfl,lk,hcd⟩:=F.ex;exact qbd lk hcd sc len λA outer s H vs Q E hr hsp=>hbody f cdv A outer s H vs Q E hr hsp
end
section
variable {X:Cx} {k:Nat} {ps:List Str} {sp:Sp} {E:XK} {x:Str} {p pos:Pos} {e:Expr} {es:List Expr} {t:TA} {σ0:L2.St}
theorem ybn(d:QaU X.prog X.w X.K X.mg X.base x k ps sp)(hr:Room k X.A)(hg:Gl X x)(hx:zt (CX1 X.prog X.w) X σ0 E)(ha:PA X (e::es) t)(hdb:(x==("__debug__":Str))=false:=by decide)
  (he:starEach (e::es) X.env=(false,eval e X.env)::starEach es X.env:=by rfl) (hpl:(backTo pos (starEach es X.env)).any (·.1)=false:=by rfl):PE X (.Call (.Name x p) (e::es) [] pos) (zbG σ0 sp [] E t):=by
 obtain⟨f,fd,F,b,kp,m⟩:=d;exact ybz F hr hg m kp b .nil hx ha hdb he hpl
end
section
variable {X:Cx} {tg:Expr}
noncomputable def Its(K:PySem.W.Frag)(b:Bool)(a:Addr):It:=if b=true then Itt K a else Itl K a
noncomputable def iSq(K:PySem.W.Frag)(tl:TE):TI:=λσ H R=>tl σ H λx H1=>∃ b a,x=.ref a/\(∃ xs,SqS K H1 b a xs)/\R (Its K b a) H1
theorem pi_sq{l:Expr}{tl:TE}(hl:PE X l tl):PI X tg l (iSq X.K tl):=by
 intro pins s σ H R I h;refine thn (hl pins s σ H _ I h) λv s1 ⟨x,H1,I1,r1,q1⟩=>?_;obtain⟨b,a,e,⟨xs,hq⟩,q⟩:=q1;subst e;cases r1;cases b with
 |false =>
  obtain⟨its,rv,p,hz⟩:=I1.list (show SqL X.K H1 a xs from hq);refine wpAny_pyIter_list p.isList ?_;refine⟨s1.heap.objs.size,[s1.heap.objs.size],_,_,H1,rfl,I1.kept (t':=s1.toks) λb o e=>wa _ e,Ybp a _,⟨_,Wb _ rfl,rfl,rfl⟩,λb hb=>?_,q⟩;obtain rfl:=Ua.mp hb;exact I1.fpOk (wb _) (I1.hok.fresh (wb _))
 |true =>
  obtain⟨its,rv,p,hz⟩:=I1.tuple (show SqT X.K H1 a xs from hq);refine wpAny_pyIter_tuple (show s1.heap.IsTuple a its.toArray from p) ?_;refine⟨s1.heap.objs.size,[s1.heap.objs.size],_,_,H1,rfl,I1.kept (t':=s1.toks) λb o e=>wa _ e,za8 a _,⟨_,Wb _ rfl,rfl,rfl⟩,λb hb=>?_,q⟩;obtain rfl:=Ua.mp hb;exact I1.fpOk (wb _) (I1.hok.fresh (wb _))
end
theorem Its.go{K:PySem.W.Frag}{b:Bool}{a:Addr}{i:Nat}{H:Hp}{xs:List V}(h:SqS K H b a xs)(hi:i<xs.length):(Its K b a).go i H:=by
 cases b with
 |false=>exact⟨xs,xs[i],h,by simp[hi]⟩
 |true=>exact⟨xs,xs[i],h,by simp[hi]⟩
theorem Its.stop{K:PySem.W.Frag}{b:Bool}{a:Addr}{H:Hp}{xs:List V}(h:SqS K H b a xs):(Its K b a).stop xs.length H:=by
 cases b with
 |false=>exact⟨xs,h,wb _⟩
 |true=>exact⟨xs,h,wb _⟩
theorem Its.yld{K:PySem.W.Frag}{b:Bool}{a:Addr}{i:Nat}{H H':Hp}{xs:List V}{x:V}(h:SqS K H b a xs)(y:(Its K b a).yld i H x H'):H'=H/\xs[i]?=some x:=by
 cases b with
 |false=>exact⟨y.1,y.2 xs h⟩
 |true=>exact⟨y.1,y.2 xs h⟩
noncomputable def Ybx(P:Program)(w:World)(K:PySem.W.Frag)(mg:Str->Option Value)(base:Heap)(x:Str)(C:Addr)(k:Nat)(ps:List Str)(sp:Sp):Prop :=
 ∃ f fd,Mk K C f/\FnOk P w K mg base (CX1 P w) k f fd ps sp/\Binds K fd ps []/\mg x=some (.ref C)
section
variable {X:Cx} {k:Nat} {ps:List Str} {sp:Sp} {E:XK} {x:Str} {C:Addr} {p pos:Pos} {e:Expr} {es:List Expr} {t:TA} {σ0:L2.St}
theorem zbh(d:Ybx X.prog X.w X.K X.mg X.base x C k ps sp)(hr:Room (k+1) X.A)(hg:Gl X x)(hx:zt (CX1 X.prog X.w) X σ0 E)(ha:PA X (e::es) t)(hdb:(x==("__debug__":Str))=false:=by decide)
  (he:starEach (e::es) X.env=(false,eval e X.env)::starEach es X.env:=by rfl) (hpl:(backTo pos (starEach es X.env)).any (·.1)=false:=by rfl):PE X (.Call (.Name x p) (e::es) [] pos) (zbI σ0 C sp [] E t):=by
 obtain⟨f,fd,M,F,b,m⟩:=d;exact qbI M F hr hg m b .nil hx ha hdb he hpl
end
section
variable {X:Cx} (K:PySem.W.Frag)
noncomputable def rLen(K:PySem.W.Frag):List V->Hp->VK->Prop:=λxs H Q=>∃ p ys,xs=[.ref p]/\(SqL K H p ys\/SqT K H p ys)/\Q (.int ys.length) H
noncomputable def rLst(K:PySem.W.Frag):List V->Hp->VK->Prop:=λxs H Q=>∃ p ys,xs=[.ref p]/\(SqL K H p ys\/SqT K H p ys)/\∀ l,H l=none->Q (.ref l) (upd H l (.lst ys))
noncomputable def rTup(K:PySem.W.Frag):List V->Hp->VK->Prop:=λxs H Q=>∃ p ys,xs=[.ref p]/\((SqL K H p ys/\∀ l,H l=none->Q (.ref l) (upd H l (.tup ys)))\/(SqT K H p ys/\Q (.ref p) H))
theorem k_len(h:X.K=K:=by rfl):CallR X (.builtin "len") (rLen K):=h ▸ ZaC
theorem ycc(h:X.K=K:=by rfl):CallR X (.type "list") (rLst K):=h ▸ YaG
theorem QbR(h:X.K=K:=by rfl):CallR X (.type "tuple") (rTup K):=h ▸ zar
theorem k_all(c:X.calm=true:=by rfl)(h:X.K=K:=by rfl):CallR X (.builtin "all") (rAll K):=h ▸ qbA c
theorem k_min(c:X.calm=true:=by rfl)(h:X.K=K:=by rfl):CallR X (.builtin "min") (rMin K):=h ▸ qbj c
theorem k_max(c:X.calm=true:=by rfl)(h:X.K=K:=by rfl):CallR X (.builtin "max") (rMax K):=h ▸ Qbn c
theorem k_isi(h:X.K=K:=by rfl):CallR X (.builtin "isinstance") (rIs K):=h ▸ zbW
noncomputable def rIxQ(K:PySem.W.Frag):R2:=λx y H Q=>∃ b p xs i v,x=.ref p/\y=.int i/\SqS K H b p xs/\atI xs i=some v/\Q v H
theorem k_ix(h:X.K=K:=by rfl):IxR X (rIxQ K):=by
 subst h;intro value slice pins s σ H x y v u Q I rx ry hq hs;obtain⟨b,p,xs,i,z,e1,e2,hq,ha,q⟩:=hq;cases b with
 |false=>exact qbO value slice pins s σ H x y v u Q I rx ry ⟨p,xs,i,z,e1,e2,hq,ha,q⟩ hs
 |true=>exact Yci value slice pins s σ H x y v u Q I rx ry ⟨p,xs,i,z,e1,e2,hq,ha,q⟩ hs
theorem k_fld{e:Expr}{f:Str}{pos:Pos}{ta:TE}(he:PE X e ta)(hb:attributeBase e f X.env (eval e X.env)=eval e X.env:=by rfl)(h:X.K=K:=by rfl):PE X (.Attribute e f pos) (tFld K ta f):=h ▸ Ycd he hb
theorem k_sq{tg l:Expr}{tl:TE}(hl:PE X l tl)(h:X.K=K:=by rfl):PI X tg l (iSq K tl):=h ▸ pi_sq hl
theorem k_zip{a b:Expr}{ta:TA}{p pos:Pos}{es:List Expr}{kt:Nat}{pt:Pos}(hg:Gl X "zip")(hm:X.mg "zip"=none)(ha:PA X [a,b] ta)(hs:starEach [a,b] X.env=[(false,eval a X.env),(false,eval b X.env)]:=by rfl)(hs2:starEach [b] X.env=[(false,eval b X.env)]:=by rfl)(h:X.K=K:=by rfl) :
  PI X (.Tuple es kt pt) (.Call (.Name "zip" p) [a,b] [] pos) (iZip K ta):=h ▸ zcl hg hm ha hs hs2
theorem Zcm{a:Expr}{ta:TA}{p pos:Pos}{es:List Expr}{kt:Nat}{pt:Pos}(hg:Gl X "enumerate")(hm:X.mg "enumerate"=none)(ha:PA X [a] ta)(hs:starEach [a] X.env=[(false,eval a X.env)]:=by rfl)(h:X.K=K:=by rfl) :
  PI X (.Tuple es kt pt) (.Call (.Name "enumerate" p) [a] [] pos) (Yb3 K ta):=h ▸ ZbS hg hm ha hs
end
end L3
end
section
namespace L3
open PySem PySem.Spec PyProof.Rows L2 M3
structure WordC (K:PySem.W.Frag) (cs:List Addr) (C:Addr) (i:Nat):Prop where
 z:ExcK K C
 kj:∀(j:Nat) D,cs[j]?=some D->Vc K (.ref C) (.ref D)=some (decide (j=i))
 ve:Vc K (.ref C) (.type "ValueError")=some true
 i10:i<10
noncomputable def ybC(P:Program)(w:World)(K:PySem.W.Frag)(mg:Str->Option Value)(base:Heap)(x:Str)(k:Nat)(ps:List Str)(sp:Addr->Addr->Sp):Prop :=
 ∃ f fd,FnOkH P w K mg base k f fd ps sp/\Binds K fd ps []/\Xg K (.ref f)=true/\mg x=some (.ref f)
end L3
end
section
namespace L2
open PySem PySem.Spec PyProof.Rows
end L2
end
section
namespace L3
open PySem PySem.Spec PyProof.Rows L2 M3
theorem qaf{prog:Program}{w:World}{A:Around}{E:Value->Shared->Prop}{s:Shared}{env:Env}{o:Expr}{name:Str}{apos pos:Pos}{args:List Expr}{Q:Value->Shared->Prop}
  (hbase:attributeBase o name env (eval o env)=eval o env)
  (hfew:((backTo pos (starEach args env)).all (λx=>!x.1)&&(backToKw pos (keywordEach [] env)).all (λx=>x.1.isSome)&&decide (args.length+([]:List Keyword).length+(if([]:List Keyword).isEmpty then 0 else 1)<30))=true)
  (hline:(apos.endLine==pos.line)=true)
  (h:wpAny (model prog w) A (eval o env) (λov s₁=>∀ pl,wpAny (model prog w) A (getMethod ov name pl) (λfx s₂=>wpAny (model prog w) A (callWith pos fx.1 fx.2 (backTo pos (starEach args env)) (backToKw pos (keywordEach [] env))) Q E s₂) E s₁) E s) :
  wpAny (model prog w) A (eval (.Call (.Attribute o name apos) args [] pos) env) Q E s:=by
 rw[arm_eval_Call,hbase];refine wpAny_bind (wpAny_mono h (λov s₁ h₁=>?_) λ_ _ e=>e);refine wpAny_bind (wpAny_standAt ?_);have hform:methodCallForm (args.length+([]:List Keyword).length) (backTo pos (starEach args env)) (backToKw pos (keywordEach [] env))=true:=hfew;have hpos:methodCallPos true o env apos pos=pure pos:=by unfold methodCallPos;simp[hline]
 unfold methodCall;rw[hform];refine wpAny_bind (wpAny_holding (wpAny_mono (h₁ _) (λfx s₂ h₂=>?_) λ_ _ e=>e));exact wpAny_bind (wpAny_of_eq hpos h₂)
section
variable {X:Cx} {k:Nat} {E:XK} {x m:Str} {p pos apos:Pos} {e o:Expr} {es:List Expr} {ta:TE} {t:TA} {σ0:L2.St}
noncomputable def zb7(P:Program)(w:World)(K:PySem.W.Frag)(mg:Str->Option Value)(base:Heap)(k:Nat)(C:Addr)(m:Str)(sp:Sp):Prop :=
 Cls K C/\∃ f fd ps,Meth K C m f/\FnOk P w K mg base (CX1 P w) k f fd ps sp/\Binds K fd ps []
structure Mk0 (K:PySem.W.Frag) (C:Addr):Prop where
 makes:Vp K C=true
 init:wc K (.ref C) "__init__"=some (some (.builtin "object.__init__"))
 kp:Xg K (.ref C)=true
theorem ybj{C:Addr}{pins:List (Addr×Obj)}{σ:L2.St}{H:Hp}{s:Shared}{Q:VK}(M:Mk0 X.K C)(I:Inv X pins σ H s)
  (h:∀ x dx,H x=none->H dx=none->dx≠x->Q (.ref x) (upd (upd H dx (.own x)) x (.ins C dx []))):wpAny (model X.prog X.w) X.A (call (.ref C) []) (EP X pins σ Q) X.xe s:=by
 have hq:=h (s.heap.objs.size+1) s.heap.objs.size (I.hok.fresh (Vw _)) (I.hok.fresh (wb _)) (Vb (Uj _));have I2:=Inv.made (C:=C) I;have Y:=vv (M:=model X.prog X.w) I.kIn M.makes;have hx:((s.heap.push wg).push (xg C s.heap.objs.size)).get? (s.heap.objs.size+1)=some (xg C s.heap.objs.size):=by
  have:=Wb (s.heap.push wg) (o:=xg C s.heap.objs.size) rfl
  rwa [xh] at this
 refine wpAny_call (qbo I.kIn M.makes M.init (λself=>PySem.W.Looks.of_pure (PySem.W.oi_bind self)) ?_);have t1:PySem.W.Looks (model X.prog X.w) ((s.heap.push wg).push (xg C s.heap.objs.size)) (typeOf (.ref (s.heap.objs.size+1))) (.ref C):=(PySem.W.Looks.ld hx).andThen .now;have t2:PySem.W.Looks (model X.prog X.w) ((s.heap.push wg).push (xg C s.heap.objs.size)) (isInstance (.ref (s.heap.objs.size+1)) (.type "object")) true:=t1.andThen (Y.top.keeps λb o e=>wa _ (wa _ e));refine codeAny_call_builtin PySem.W.oi_plain PySem.W.entry_oi (@xA (model X.prog X.w) _ _ _ "object.__init__" "object" "__init__" (.ref (s.heap.objs.size+1)) [] [] _ PySem.W.oi_kind PySem.W.oi_split t2 (PySem.W.oi_args (.ref (s.heap.objs.size+1))) ?_);rw[PySem.W.oi_run];exact wpAny_pure (And.intro rfl ⟨V.ref (s.heap.objs.size+1),_,I2,rfl,hq⟩)
noncomputable def ycj(C:Addr):TE:=λσ H Q=>∀ x dx,H x=none->H dx=none->dx≠x->Q (.ref x) (upd (upd H dx (.own x)) x (.ins C dx []))
theorem Zbj{C:Addr}(M:Mk0 X.K C)(hg:Gl X x)(hm:X.mg x=some (.ref C))(hdb:(x==("__debug__":Str))=false):PE X (.Call (.Name x p) [] [] pos) (ycj C):=by
 intro pins s σ H Q I h;refine wpAny_Call_Name_kw (Qu I hg hm ?_ hdb);exact PySem.W.callWith_K0 I.kIn M.kp (ybj M I h)
end
end L3
end
section
namespace L3
open PySem PySem.Spec PyProof.Rows L2 M3
end L3
end
section
namespace L3
open PySem PySem.Spec PyProof.Rows L2 M3
noncomputable def tabF(P:Addr)(lp:Pos)(oc:Option Addr):Heap->Prop:=λh=>∃ ps:Array Value,h.get? P=some (PySem.W.tabObj ps)/\TriplesOk ps.toList/\codeAmong lp ps.toList=oc.map Value.ref
noncomputable def codF(c':Addr)(q:Str):Heap->Prop:=λh=>h.CodeRec (.ref c') q
structure LamB (mg:Str->Option Value) (base:Heap) (c P:Addr):Prop where
 code:PySem.W.CodeHd base c P
 bmain:∃ bm ob,mg "__builtins__"=some (.ref bm)/\bm≠builtinsNs/\base.get? bm=some ob/\ob.cls=.type "module"/\ob.dict=some builtinsNs/\ob.data=.plain
end L3
end
section
namespace L3
open PySem PySem.Spec PyProof.Rows L2 M3
end L3
end
section
namespace L3
open PySem PySem.Spec PyProof.Rows L2 M3
section
variable {prog:Program} {w:World} {A:Around} {h:Heap} {g:Array GenState} {d:Drawn} {t:Nat} {os:OsState} {a:Addr} {its:Array Value} {n:Nat}
noncomputable abbrev lstO(its:Array Value)(n:Nat):Obj:={cls:=.type "list",data:=.seq its n}
end
end L3
end
section
namespace L3
open PySem PySem.Spec PyProof.Rows L2 M3
noncomputable def Qby:Nat:=64
theorem YQ:∀ a<Qby,hashInt (a:Int)=(a:Int):=by decide +kernel
noncomputable def Za7(k:Int×Int):Prop:=(0<=k.1/\k.1<64)/\0<=k.2/\k.2<64
end L3
end
section
namespace L3
open PySem PySem.Spec PyProof.Rows L2 M3
end L3
end
section
namespace M3
open PySem
open Sem (wp)
end M3
namespace L3
open PySem PySem.Spec PyProof.Rows L2 M3
end L3
end
section
namespace L3
open PySem PySem.Spec PyProof.Rows L2 M3
end L3
end
section
namespace L3
open PySem L2 PyProof.Rows
end L3
end
section
namespace L3
open PySem PySem.Spec PyProof.Rows L2 M3 PySem.Builtin PySem.Builtin.Str
section
variable {prog:Program} {w:World} {A:Around} {E:Value->Shared->Prop} {s:Shared} {x y:Str} {t u:Tok} {Q:Value->Shared->Prop}
theorem Qa3(hy:(y.length==0)=false)(hsz:x.length+2<=sizeLine)
  (h:∀(l:List (Str×Tok)) (k:Tok),l.map (·.1)=Txt.split x y->Q (.ref s.heap.objs.size) {s with heap:=s.heap.push {cls:=.type "list",data:=.seq (strValues l).toArray},toks:=k}) :
  wpAny (model prog w) A (call (.builtin "str.split") [.str x t,.str y u]) Q E s:=by
 have hn:(partsBetween x (occurrences x y 0 x.length (x.length+1)) y.length).length<=sizeLine:=by
  have e1:=StrLaws.occ_length_le x y 0 x.length (x.length+1);rw[length_partsBetween];lia
 cases h1:(decide (x.length<y.length)||decide (strKind x<strKind y))
 ·cases hf:(occurrences x y 0 x.length (x.length+1)).isEmpty
  ·refine call_meets F.slot_str_split (typeIs_str _ _ _) F.entry_str_split (F.args_str_split_2 _ _) (meets_str_split_sep x y t u h1 hy hf (by lia) hn) ?_;show wants Q E _ {s with toks:=_,heap:=s.heap.push {cls:=.type "list",data:=.seq (strsFrom s.toks (partsBetween x (occurrences x y 0 x.length (x.length+1)) y.length)).toArray}};rw[strsFrom_eq];exact h (numbered s.toks _) _ ((numbered_texts _ _).trans ((if_neg (ne_true_of_eq_false h1)).trans (if_neg (ne_true_of_eq_false hf))).symm)
  ·exact call_meets F.slot_str_split (typeIs_str _ _ _) F.entry_str_split (F.args_str_split_2 _ _) (meets_str_split_not_found x y t u h1 hy hf)
    (h [(x,t)] s.toks ((if_neg (ne_true_of_eq_false h1)).trans (if_pos hf)).symm)
 ·exact call_meets F.slot_str_split (typeIs_str _ _ _) F.entry_str_split (F.args_str_split_2 _ _) (meets_str_split_cannot_occur x y t u h1)
   (h [(x,t)] s.toks (if_pos h1).symm)
end
section
variable {X:Cx} {o e:Expr} {apos cpos:Pos} {td ty:TE}
theorem zbg:∀{ts:List Str}{us:List Value},Vals (ts.map V.str) us->StrsAre us ts
 |[],_,.nil=>.nil
 |y::ts,_,.cons r rr=>by
  obtain⟨t,rfl⟩:=(show ∃ t,_=Value.str y t from r);exact .cons y t (zbg rr)
theorem yat:∀(l:List (Str×Tok)),Vals ((l.map (·.1)).map V.str) (strValues l)
 |[]=>.nil
 |p::l=>.cons ⟨p.2,rfl⟩ (yat l)
noncomputable def tJoin(td ty:TE):TE:=λσ H Q=>td σ H λx H1=>∃ sep,x=.str sep/\ty σ H1 λy H2=>∃ a ts,y=.ref a/\Rd H2 a (.lst (ts.map V.str))/\(ts.map (·.length)).sum+ts.length*sep.length<=16777216/\Q (.str (Txt.join sep ts)) H2
theorem ybY(ho:PE X o td)(he:PE X e ty)(m:M1 X o "join" apos e cpos):PE X (.Call (.Attribute o "join" apos) [e] [] cpos) (tJoin td ty):=by
 intro pins s σ H Q I h;refine wpAny_Call_method m.base m.few m.line PySem.F.plainAttrs_str PySem.F.slot_str_join PySem.F.type_str_join (thn (ho pins s σ H _ I h) λu s1 ⟨x,H1,I1,rx,sep,ex,q1⟩=>?_);subst ex;obtain⟨t,rfl⟩:=(show ∃ t,u=Value.str sep t from rx);refine⟨typeIs_str _ _ _,(λ_ e=>nomatch e),?_⟩;rw[m.trees];refine Calls.callWith_builtin rfl (Calls.evalArgs_plain (Calls.spliced_cons (thn (he pins s1 σ H1 _ I1 q1) λiv s2 ⟨y,H2,I2,ry,a,ts,ey,ea,hz,q2⟩=>Calls.spliced_nil ?_)));subst ey;obtain rfl:iv=Value.ref a:=ry;obtain⟨_,its,n,rv,hg⟩:=ea.ok I2.hok;exact join_list ⟨_,hg,rfl,n,rfl⟩ (by simpa using zbg rv) hz λt' k=>⟨.str (Txt.join sep ts),H2,I2.tok _,⟨_,rfl⟩,q2⟩
noncomputable def zci(td ty:TE):TE:=λσ H Q=>td σ H λx H1=>∃ z,x=.str z/\ty σ H1 λy H2=>∃ sep,y=.str sep/\(sep.length==0)=false/\z.length+2<=sizeLine/\∀ p,H2 p=none->Q (.ref p) (upd H2 p (.lst ((Txt.split z sep).map V.str)))
theorem Zbn(x y:Str):(Txt.split x y).length<=x.length+2:=by
 unfold Txt.split;split
 ·simp
 ·split
  ·simp
  ·have e1:=StrLaws.occ_length_le x y 0 x.length (x.length+1);rw[length_partsBetween];lia
theorem YbE(ho:PE X o td)(he:PE X e ty)(m:M1 X o "split" apos e cpos):PE X (.Call (.Attribute o "split" apos) [e] [] cpos) (zci td ty):=by
 intro pins s σ H Q I h;refine wpAny_Call_method m.base m.few m.line PySem.F.plainAttrs_str PySem.F.slot_str_split PySem.F.type_str_split (thn (ho pins s σ H _ I h) λu s1 ⟨x,H1,I1,rx,z,ex,q1⟩=>?_);subst ex;obtain⟨t,rfl⟩:=(show ∃ t,u=Value.str z t from rx);refine⟨typeIs_str _ _ _,(λ_ e=>nomatch e),?_⟩;rw[m.trees];refine Calls.callWith_builtin rfl (Calls.evalArgs_plain (Calls.spliced_cons (thn (he pins s1 σ H1 _ I1 q1) λiv s2 ⟨y,H2,I2,ry,sep,ey,h0,hz,q2⟩=>Calls.spliced_nil ?_)));subst ey;obtain⟨t2,rfl⟩:=(show ∃ t,iv=Value.str sep t from ry);refine Qa3 h0 hz λl k el=>?_;have hf:H2 s2.heap.objs.size=none:=I2.hok.fresh (wb _);refine⟨.ref s2.heap.objs.size,_,I2.laid (a:=s2.heap.objs.size) (o:=.lst ((Txt.split z sep).map V.str)) (t':=k) (λb u e=>wa _ e) (wb _) ?_,rfl,q2 _ hf⟩;refine⟨by rw[Vd];exact Xe (Zbn z sep) hz,strValues l,0,?_,Wb _ rfl⟩;rw[<- el];exact yat l
noncomputable def rIntS:List V->Hp->VK->Prop:=λxs H Q=>∃ x n,xs=[.str x]/\PySem.intText? x=some n/\x.length<=640/\Q (.int n) H
theorem ybq:CallR X (.type "int") rIntS:=by
 intro pins s σ H xs us Q I r h;obtain⟨x,n,rfl,hn,hl,q⟩:=h;cases r with
 |cons r rr =>
  cases rr;obtain⟨t,rfl⟩:=(show ∃ t,_=Value.str x t from r);exact PySem.W.KIN.call_text hn hl ⟨.int n,H,I.tok _,⟨_,rfl⟩,q⟩
end
noncomputable def Itx(x:Str):It:=⟨λi _=>i<x.cps.size,λi H v H'=>H'=H/\∃ c,x.cps[i]?=some c/\v=.str ⟨#[c]⟩,λi _=>x.cps.size<=i⟩
theorem ya4{P:Program}{w:World}{K:PySem.W.Frag}{tg:Expr}(it:Addr)(x:Str)(t:Tok):Turn P w K tg (Itx x) [it] it (λi h=>h.IsStrIter it "str_ascii_iterator" x t i) where
 mem:=by simp
 obj:=λi h st b hb=>by
  have e:b=it:=by simpa using hb
  subst e;obtain⟨o,e,c,d⟩:=st;exact⟨o,e,λv z=>by rw[d] at z;cases z⟩
 keep:=λi h h' st k=>let ⟨o,ho,r⟩:=st;⟨o,k it (by simp) o ho,r⟩
 item:=by
  intro X hP hw hK hc i pins s σ H E I hf st hg;subst hP hw hK;obtain⟨f0,f1,f2,f3,f4,f5⟩:=hf it (by simp);have hg:i<x.cps.size:=hg;have W:=Walks.strAscii (prog:=X.prog) (w:=X.w) (I.ok.hd hc) it x t;refine W.item i s _ _ hg st λv h' tk hv st' kk=>?_;obtain⟨c,u,hx,rfl⟩:=hv;have I1:Inv X pins σ H {s with heap:=h',toks:=tk}:=I.turned (λb o hb e=>kk b o (by simpa using hb) e) f0 f1 f3 f4 f5;obtain⟨o,e,cl,d⟩:=id st';exact⟨_,rfl,qaR (s:={s with heap:=h',toks:=tk}) e cl d (by decide) ⟨.str ⟨#[c]⟩,H,I1,⟨u,rfl⟩,⟨rfl,c,hx,rfl⟩,st',λb hb=>(hf b hb).1⟩⟩
 done:=by
  intro X hP hw hK hc i pins s σ H E I hf st hg;subst hP hw hK;obtain⟨f0,f1,f2,f3,f4,f5⟩:=hf it (by simp);have hg:x.cps.size<=i:=hg;exact wpAny_pyNext_ascii_end (I.ok.hd hc) st (by simp[hg]) λh' eb=>⟨rfl,I.turned (t':=s.toks) (λb o hb e=>eb b o hb e) f0 f1 f3 f4 f5⟩
 self:=λ_ _ _ _ _ st h=>wpAny_pyIter_striter_ascii st h
theorem qbm{P:Program}{w:World}{K:PySem.W.Frag}{tg:Expr}(it:Addr)(x:Str)(t:Tok):Turn P w K tg (Itx x) [it] it (λi h=>h.IsStrIter it "str_iterator" x t i) where
 mem:=by simp
 obj:=λi h st b hb=>by
  have e:b=it:=by simpa using hb
  subst e;obtain⟨o,e,c,d⟩:=st;exact⟨o,e,λv z=>by rw[d] at z;cases z⟩
 keep:=λi h h' st k=>let ⟨o,ho,r⟩:=st;⟨o,k it (by simp) o ho,r⟩
 item:=by
  intro X hP hw hK hc i pins s σ H E I hf st hg;subst hP hw hK;obtain⟨f0,f1,f2,f3,f4,f5⟩:=hf it (by simp);have hg:i<x.cps.size:=hg;have W:=Walks.strWide (prog:=X.prog) (w:=X.w) (I.ok.hd hc) it x t;refine W.item i s _ _ hg st λv h' tk hv st' kk=>?_;obtain⟨c,u,hx,rfl⟩:=hv;have I1:Inv X pins σ H {s with heap:=h',toks:=tk}:=I.turned (λb o hb e=>kk b o (by simpa using hb) e) f0 f1 f3 f4 f5;obtain⟨o,e,cl,d⟩:=id st';exact⟨_,rfl,qaR (s:={s with heap:=h',toks:=tk}) e cl d (by decide) ⟨.str ⟨#[c]⟩,H,I1,⟨u,rfl⟩,⟨rfl,c,hx,rfl⟩,st',λb hb=>(hf b hb).1⟩⟩
 done:=by
  intro X hP hw hK hc i pins s σ H E I hf st hg;subst hP hw hK;obtain⟨f0,f1,f2,f3,f4,f5⟩:=hf it (by simp);have hg:x.cps.size<=i:=hg;exact wpAny_pyNext_wide_end (I.ok.hd hc) st (by simp[hg]) λh' eb=>⟨rfl,I.turned (t':=s.toks) (λb o hb e=>eb b o hb e) f0 f1 f3 f4 f5⟩
 self:=λ_ _ _ _ _ st h=>wpAny_pyIter_striter_wide st h
noncomputable def iStr(tl:TE):TI:=λσ H R=>tl σ H λx H1=>∃ z,x=.str z/\R (Itx z) H1
theorem Qcd{X:Cx}{tg l:Expr}{tl:TE}(hl:PE X l tl):PI X tg l (iStr tl):=by
 intro pins s σ H R I h;refine thn (hl pins s σ H _ I h) λv s1 ⟨x,H1,I1,r1,q1⟩=>?_;obtain⟨z,e,q⟩:=q1;subst e;obtain⟨t,rfl⟩:=(show ∃ t,v=Value.str z t from r1);cases ha:z.cps.all (· < 128)
 ·refine wpAny_pyIter_wide ha ?_;refine⟨s1.heap.objs.size,[s1.heap.objs.size],_,_,H1,rfl,I1.kept (t':=s1.toks) λb o e=>wa _ e,qbm _ z t,⟨_,Wb _ rfl,rfl,rfl⟩,λb hb=>?_,q⟩;have e:b=s1.heap.objs.size:=by simpa using hb
  subst e;exact I1.fpOk (wb _) (I1.hok.fresh (wb _))
 ·refine wpAny_pyIter_ascii ha ?_;refine⟨s1.heap.objs.size,[s1.heap.objs.size],_,_,H1,rfl,I1.kept (t':=s1.toks) λb o e=>wa _ e,ya4 _ z t,⟨_,Wb _ rfl,rfl,rfl⟩,λb hb=>?_,q⟩;have e:b=s1.heap.objs.size:=by simpa using hb
  subst e;exact I1.fpOk (wb _) (I1.hok.fresh (wb _))
end L3
end
section
namespace L3
open PySem PySem.Spec PyProof.Rows L2 M3
section
variable {X:Cx}
theorem qaZ:OpR X (binaryOp .Mult) (λx y H Q=>∃ i n,x=.str i/\y=.int n/\0<=n/\n<=4096/\i.length<=4096/\Q (.str (Txt.mul i n)) H):=by
 intro pins s σ H x y v u Q I rx ry h;obtain⟨i,n,rfl,rfl,h0,h1,h2,q⟩:=h;obtain⟨t,rfl⟩:=rx;obtain⟨t',rfl⟩:=ry;exact SB.mul (mulOk_of 4096 4096 h2 h1 (by lia) (by decide) (by decide)) λt' k=>⟨.str (Txt.mul i n),H,I.tok _,⟨_,rfl⟩,q⟩
end
end L3
end
section
namespace MP
open PySem
noncomputable def belGo(xs:List Nat)(j:Nat):Nat->Nat->Nat->Nat
 |0,lo,_=>lo
 |fuel+1,lo,hi=>if lo<hi then(if xs.getD ((lo+hi)/2) j<j then belGo xs j fuel ((lo+hi)/2+1) hi else belGo xs j fuel lo ((lo+hi)/2)) else lo
noncomputable def belL(xs:List Nat)(j:Nat):Nat:=belGo xs j xs.length 0 xs.length
noncomputable def prbGo(mask:Nat)(place:List Nat)(hs:List Int)(h:Int):Nat->Nat->Nat->Nat->Nat->Option Nat
 |0,_,_,_,_=>none
 |fuel+1,j,more,i,pt =>
  let b:=belL place j
  if place[b]?=some j then
   (if(hs[b]?).getD 0=h then none else
   if more>0 then prbGo mask place hs h fuel (j+1) (more-1) i pt else
   let l:=SetTable.leap mask i pt
   prbGo mask place hs h fuel l.1 (SetTable.runEnd mask l.1-l.1) l.1 l.2)
  else some j
noncomputable def putL{α:Type}(xs:List α)(p:Nat)(x:α):List α:=xs.take p++x::xs.drop p
structure LT where
 hs:List Int
 mask:Nat
 place:List Nat
 moves:Nat
noncomputable def layOne(s:LT)(h:Int):Option LT :=
 if s.mask%2==0 then none else
 let i:=SetTable.bits h%(s.mask+1)
 match prbGo s.mask s.place s.hs h (10*SetTable.turns s.mask) i (SetTable.runEnd s.mask i-i) i (SetTable.bits h) with
 |some j =>
  let p:=belL s.place j
  let pl:=putL s.place p j
  let hs1:=putL s.hs p h
  if pl.length=hs1.length/\pl.length<=s.mask/\hs1.length<=100000 then
   if pl.length*5>=s.mask*3 then
    (if SetTable.sizeAbove (SetTable.grown hs1.length)>sizeLine then none else
    let m:=SetTable.sizeAbove (SetTable.grown hs1.length)-1
    match SetTable.layClean m hs1.toArray with
    |some owner =>
     let live:=(Ue (m+1)).filterMap λj=>(owner.getD j none).map (j,·)
     let hs2:=(live.map (·.2)).filterMap (hs1[·]?)
     if hs2.length=hs1.length/\live.length=hs1.length/\live.length<=m then some ⟨hs2,m,live.map (·.1),(if s.mask==7&&m==7 then s.moves else s.moves+1)⟩ else none
    |none=>none)
   else some ⟨hs1,s.mask,pl,s.moves⟩
  else none
 |none=>none
noncomputable def layFrom(l:List Int):Option LT:=l.foldlM layOne ⟨[],7,[],0⟩
noncomputable def layB(hs:List Int):Bool:=match layFrom hs with
 |some st=>st.hs.length==hs.length
 |none=>false
noncomputable def hashK(k:Int×Int):Int:=reduceHash (Builtin.Tuple.tupleHashOf [k.1,k.2])
noncomputable def layP(ks:List (Int×Int)):Bool:=layB (ks.map hashK)
end MP
end
section
namespace L3
open PySem PySem.Spec PyProof.Rows L2 M3
noncomputable def Qao(hs:Array Int)(t:SetTable)(h:Int):Option (Array Int×SetTable) :=
 if t.gaveWay then none else
 match t.probe (λi=>(hs[i]?).getD 0) h (t.probeStart h) with
 |some (.empty j none) =>
  let t1:=(t.put j).1
  let hs1:=SetTable.insertAt hs (t.put j).2 h
  if !(t1.fits hs1.size&&t1.plain)||decide (hs1.size>100000) then none else
  if t1.tooFull then
   if decide (SetTable.sizeAbove (SetTable.grown (hs.size+1))>sizeLine) then none else
   match t1.relaid hs1 (SetTable.grown (hs.size+1)) with
   |some (t2,order) =>
    let hs2:=order.filterMap (hs1[·]?)
    if hs2.size==hs1.size&&t2.fits hs2.size&&t2.plain then some (hs2,t2) else none
   |none=>none
  else some (hs1,t1)
 |_=>none
noncomputable abbrev Qaa(s:MP.LT)(led:Bool):SetTable:=⟨s.mask,s.place.toArray,#[],0,led,s.moves,true⟩
theorem yaZ(xs:List Nat)(j:Nat):∀(fuel lo hi:Nat),SetTable.below.go xs.toArray j fuel lo hi=MP.belGo xs j fuel lo hi
 |0,lo,hi=>rfl
 |fuel+1,lo,hi=>by
  have i1:=yaZ xs j fuel ((lo+hi)/2+1) hi;have i2:=yaZ xs j fuel lo ((lo+hi)/2);have g:xs.toArray.getD ((lo+hi)/2) j=xs.getD ((lo+hi)/2) j:=by simp
  unfold SetTable.below.go MP.belGo;dsimp only;rw[i1,i2,g]
theorem zbD(xs:List Nat)(j:Nat):SetTable.below xs.toArray j=MP.belL xs j:=by
 unfold SetTable.below MP.belL;rw[yaZ];simp
theorem YbZ(s:MP.LT)(led:Bool)(j:Nat):(Qaa s led).slot j=if s.place[MP.belL s.place j]?=some j then .live (MP.belL s.place j) else .empty:=by
 unfold SetTable.slot;simp only[Qaa,zbD];by_cases c:s.place[MP.belL s.place j]?=some j
 ·simp[c]
 ·simp[c,SetTable.has]
theorem ya6(s:MP.LT)(led:Bool)(h:Int):∀(fuel j more i pt r:Nat),MP.prbGo s.mask s.place s.hs h fuel j more i pt=some r ->
  SetTable.probe.go (Qaa s led) (λi=>(s.hs.toArray[i]?).getD 0) h fuel ⟨j,more,i,pt,none⟩=some (.empty r none)
 |0,j,more,i,pt,r,e=>by cases e
 |fuel+1,j,more,i,pt,r,e=>by
  unfold MP.prbGo at e;unfold SetTable.probe.go;simp only[YbZ];dsimp only at e;by_cases c:s.place[MP.belL s.place j]?=some j
  ·rw[if_pos c] at e;rw[if_pos c];dsimp only;by_cases d:(s.hs[MP.belL s.place j]?).getD 0=h
   ·rw[if_pos d] at e;cases e
   ·rw[if_neg d] at e;have d':((s.hs.toArray[MP.belL s.place j]?).getD 0==h)=false:=by simpa using d
    rw[d'];simp only[vk,if_false];unfold SetTable.advance;by_cases m:more>0
    ·rw[if_pos m] at e;simp only[m,if_true];exact ya6 s led h fuel _ _ _ _ r e
    ·rw[if_neg m] at e;simp only[m,if_false];exact ya6 s led h fuel _ _ _ _ r e
  ·rw[if_neg c] at e;cases e;rw[if_neg c]
theorem Qbe{α:Type}(xs:List α)(p:Nat)(x:α):SetTable.insertAt xs.toArray p x=(MP.putL xs p x).toArray:=by
 unfold SetTable.insertAt MP.putL;apply WC;simp[List.extract_eq_take_drop,Wo]
set_option tactic.hygienic true in
theorem Zb7(s s':MP.LT)(led:Bool)(h:Int)(e:MP.layOne s h=some s'):Qao s.hs.toArray (Qaa s led) h=some (s'.hs.toArray,Qaa s' led):=by
 unfold MP.layOne at e;split at e
 ·cases e
 next hm =>
 dsimp only at e;split at e
 next j hj =>
  have hp:=ya6 s led h _ _ _ _ _ _ hj;unfold Qao;rw[if_neg (by simpa[SetTable.gaveWay] using hm)];have hp':(Qaa s led).probe (λi=>(s.hs.toArray[i]?).getD 0) h ((Qaa s led).probeStart h)=some (.empty j none):=hp;rw[hp'];have hput:(Qaa s led).put j=(⟨s.mask,(MP.putL s.place (MP.belL s.place j) j).toArray,#[],0,led,s.moves,true⟩,MP.belL s.place j):=by
   unfold SetTable.put;simp[Qaa,zbD,Qbe,SetTable.has]
  dsimp only;rw[hput];dsimp only;rw[Qbe];generalize hpl:MP.putL s.place (MP.belL s.place j) j=pl at *;generalize hh1:MP.putL s.hs (MP.belL s.place j) h=hs1 at *;split at e
  next hc =>
   obtain⟨c1,c2,c3⟩:=hc;have ft:SetTable.fits ⟨s.mask,pl.toArray,#[],0,led,s.moves,true⟩ hs1.toArray.size=true:=by
    simp[SetTable.fits,SetTable.fill,c1];lia
   rw[if_neg (by rw[ft];simp;exact c3)];have tf:SetTable.tooFull ⟨s.mask,pl.toArray,#[],0,led,s.moves,true⟩=decide (pl.length*5>=s.mask*3):=by
    simp[SetTable.tooFull,SetTable.fill]
   rw[tf];have hl1:s.hs.toArray.size+1=hs1.length:=by
    rw[<- hh1];unfold MP.putL;simp only[xf,Uo,ue,wr,vb]
    lia
   rw[hl1];split at e
   next hf =>
    rw[if_pos (decide_eq_true hf)];split at e
    ·cases e
    next hz =>
    rw[if_neg (by simpa using hz)];unfold SetTable.relaid SetTable.laid;dsimp only;split at e
    next owner ho =>
     rw[ho];simp only[Up,Xk,uw];generalize hm2:SetTable.sizeAbove (SetTable.grown hs1.length)-1=m2 at *;generalize hlv:(Ue (m2+1)).filterMap (λj=>(owner.getD j none).map (j,·))=live at *;have ef:(Ws (λx=>hs1.toArray[x]?) (live.map (·.2)).toArray)=((live.map (·.2)).filterMap (hs1[·]?)).toArray:=by
      apply WC;simp
     split at e
     next hc =>
      obtain⟨k1,k2,k3⟩:=hc;show(if((Ws (λx=>hs1.toArray[x]?) (live.map (·.2)).toArray).size==hs1.toArray.size&&SetTable.fits ⟨m2,(live.map (·.1)).toArray,#[],0,led,SetTable.movedTo ⟨s.mask,pl.toArray,#[],0,led,s.moves,true⟩ m2,true⟩ (Ws (λx=>hs1.toArray[x]?) (live.map (·.2)).toArray).size&&true)=true then some (Ws (λx=>hs1.toArray[x]?) (live.map (·.2)).toArray,(⟨m2,(live.map (·.1)).toArray,#[],0,led,SetTable.movedTo ⟨s.mask,pl.toArray,#[],0,led,s.moves,true⟩ m2,true⟩:SetTable)) else none)=_;rw[ef];have q1:((live.map (·.2)).filterMap (hs1[·]?)).toArray.size=hs1.length:=by rw[vb];exact k1
      have q2:SetTable.fits ⟨m2,(live.map (·.1)).toArray,#[],0,led,SetTable.movedTo ⟨s.mask,pl.toArray,#[],0,led,s.moves,true⟩ m2,true⟩ hs1.length=true:=by
       simp only[SetTable.fits,SetTable.fill,vb,Vd,Vr,Nat.add_zero,k2,beq_self_eq_true,Xu,decide_eq_true_eq];exact k2 ▸ k3
      rw[q1,q2];rw[if_pos (by simp)];cases e;rfl
     next=>cases e
    next=>cases e
   next hf =>
    cases e;rw[if_neg (by simpa using hf)]
  next=>cases e
 next=>cases e
section
variable {prog:Program} {w:World} {A:Around} {E:Value->Shared->Prop} {s:Shared} {a T:Addr} {o0:Option Obj}
theorem zbX(n:Nat)(i:Int)(t:Tok):hashByValue n (.int i t)=pure true:=by cases n <;> rfl
theorem ybW{its:Array Value}{Q:Bool->Shared->Prop}(ht:IsTup s.heap T its)(hi:∀ v∈its.toList,∃ i t,v=Value.int i t)(h:Q true s):wpAny (model prog w) A (hashByValue 8 (.ref T)) Q E s:=by
 obtain⟨o,ho,hc,n,hd⟩:=ht;have hT:s.TypeIs (.ref T) "tuple":=⟨o,ho,hc⟩;unfold hashByValue;refine wpAny_bind (wpAny_specialOf hT F.slot_tuple_hash.lookup ?_);dsimp only;refine wpAny_bind (wpAny_seqItems ho hd ?_);refine wpAny_bind ?_;show wpAny _ _ (forIn its _ _) _ _ s;rw[<- Array.forIn_toList];refine wpAny_forIn_list _ (λrest r s'=>r.1=none/\s'=s/\∀ v∈rest,∃ i t,v=Value.int i t) _ ?_ ?_ _ _ ⟨rfl,rfl,hi⟩
 ·rintro v rest r s' ⟨hr,rfl,hall⟩;obtain⟨i,t,rfl⟩:=hall v uh;rw[zbX];refine wpAny_bind (wpAny_pure ?_);simp only[Bool.not_true,vk,if_false];exact wpAny_pure ⟨rfl,rfl,λu hu'=>hall u (Ve _ hu')⟩
 ·rintro⟨r1,r2⟩ s' ⟨hr,rfl,_⟩;simp only at hr;subst hr;exact wpAny_pure h
noncomputable def SetAt(h:Heap)(a:Addr)(es:Array (Int×Value))(t:SetTable):Prop:=∃ o ep,h.get? a=some o/\o.ExactSet/\o.data=.set es ep t/\t.fits es.size=true
theorem SetAt.put{h:Heap}{es:Array (Int×Value)}{t:SetTable}(S:SetAt h a es t)(es':Array (Int×Value))(t':SetTable)(hf:t'.fits es'.size=true):SetAt (h.update a (Obj.putSet es' t')) a es' t':=by
 obtain⟨o,ep,ho,hex,hd,_⟩:=S;have hg:(h.update a (Obj.putSet es' t')).get? a=some {o with data:=.set es' (ep+1) t'}:=by
  have:=xj (Obj.putSet es' t') ho (by rw[putSet_of es' t' hd];rfl);rw[putSet_of es' t' hd] at this;exact this
 exact⟨_,_,hg,hex,rfl,hf⟩
theorem YbU(es:Array (Int×Value))(p:Nat)(h:Int)(x:Value):(SetTable.insertAt es p (h,x)).map (·.1)=SetTable.insertAt (es.map (·.1)) p h:=by
 unfold SetTable.insertAt;simp[Array.map_append,Array.map_push,Array.map_extract]
theorem zay(es:Array (Int×Value))(order:Array Nat):(order.filterMap (es[·]?)).map (·.1)=order.filterMap ((es.map (·.1))[·]?):=by
 apply WC;simp only[Array.toList_map,Array.toList_filterMap]
 induction order.toList with
 |nil=>rfl
 |cons i l ih =>
  simp only[Xp,xz];cases es[i]? with
  |none=>simpa using ih
  |some e=>simpa using ih
set_option tactic.hygienic true in
theorem zbQ{es:Array (Int×Value)}{t t':SetTable}{h:Int}{hs':Array Int}{Q:Bool->Shared->Prop}(S:SetAt s.heap a es t)
  (lay:Qao (es.map (·.1)) t h=some (hs',t')) (hv:∀(s:Shared)(Q:Bool->Shared->Prop),s.heap.get? T=o0->Q true s->wpAny (model prog w) A (hashByValue 8 (.ref T)) Q E s) (hT:s.heap.get? T=o0)
  (q:∀ h' es',SetAt h' a es' t'->es'.map (·.1)=hs'->Heap.SameBut a s.heap h'->Q true {s with heap:=h'}) :
  wpAny (model prog w) A (setAddHashed a (.ref T) h) Q E s:=by
 obtain(⟨o,ep,ho,hex,hd,hf⟩):=S;have S:SetAt s.heap a es t:=⟨o,ep,ho,hex,hd,hf⟩;have hsa:(λi:Nat=>((es.map (λe:Int×Value=>e.1))[i]?).getD 0)=λi=>(es[i]?.map (λe:Int×Value=>e.1)).getD 0:=by funext i;rw[xz]
 unfold Qao at lay;rw[hsa] at lay;split at lay
 ·cases lay
 next hgw =>
 split at lay
 next j hp =>
  dsimp only at lay;split at lay
  ·cases lay
  next hf1 =>
  simp only[Xi,Vg,decide_eq_true_eq,not_or,Bool.not_eq_false,Wa] at hf1;obtain(⟨⟨hf1,hpl⟩,hz⟩):=hf1;rw[<- YbU (x:=.ref T)] at hf1 hz lay;rw[wn] at hf1 hz;unfold setAddHashed setAddHashedIn;refine wpAny_holding (wpAny_bind (wpAny_setState_of ho hd hf ?_));dsimp only;rw[if_neg (by simp[byScan,Value.scannable])];unfold setSearch setSearchFrom;refine wpAny_bind (wpAny_bind (wpAny_setState_of ho hd hf ?_));dsimp only;rw[if_neg hgw];split
  next met hm =>
   have e:=Option.some.inj ((show t.probe (λi=>(es[i]?.map (λe:Int×Value=>e.1)).getD 0) h (t.probeStart h)=some met from hm).symm.trans hp);subst e;dsimp only;refine wpAny_pure ?_;dsimp only;refine wpAny_bind (wpAny_setState_of ho hd hf ?_);dsimp only;rw[if_pos hpl];generalize hes1:SetTable.insertAt es (t.put j).snd (h,Value.ref T)=es1 at *;generalize (t.put j).fst=t1 at *;refine wpAny_bind (hv _ _ hT ?_);simp only[if_true];refine wpAny_bind (wpAny_storeSet_of ho hd ?_ (Xe (Wr hz) (by decide)));have S1:=S.put es1 t1 hf1;have sb1:=Heap.SameBut.update s.heap a (Obj.putSet es1 t1);generalize s.heap.update a (Obj.putSet es1 t1)=h1 at *;split at lay
   next htf =>
    split at lay
    ·cases lay
    next hsz =>
    simp only[decide_eq_true_eq] at hsz;split at lay
    next t2 order hrl =>
     split at lay
     next hc =>
      simp only[Wa,beq_iff_eq] at hc;obtain(⟨⟨hc1,hc2⟩,hc3⟩):=hc;rw[if_pos (by rw[htf];rfl)];obtain(⟨o1,ep1,ho1,hex1,hd1,_⟩):=S1;unfold setRelay;refine wpAny_bind (wpAny_bind (wpAny_setState_of (s:={s with heap:=h1}) ho1 hd1 hf1 ?_));dsimp only;rw[wn] at hsz;rw[if_neg hsz];rw[wn] at hrl;rw[hrl];have hs2:(order.filterMap (es1[·]?)).size=es1.size:=by
       have:=hc1;rw[wn,<- zay,wn] at this;exact this
      refine wpAny_bind ?_;show wpAny _ _ (do
       if(order.filterMap (es1[·]?)).size != es1.size then unsupported "internal:set-table-lost-an-element"
       pure (order.filterMap (es1[·]?),t2)) _ _ _
      rw[if_neg (by rw[hs2];simp)];refine wpAny_pure ?_;dsimp only;have S1':SetAt h1 a es1 t1:=⟨o1,ep1,ho1,hex1,hd1,hf1⟩;refine wpAny_storeSet_of (s:={s with heap:=h1}) ho1 hd1 (wpAny_pure ?_) (by rw[hs2];exact Xe (Wr hz) (by decide));have hf2:t2.fits (order.filterMap (es1[·]?)).size=true:=by
       have:=hc2;rw[<- zay,wn] at this;exact this
      have S2:=S1'.put _ t2 hf2;have e2:=zay es1 order;cases lay;exact q _ _ S2 e2 (sb1.trans (Heap.SameBut.update h1 a _))
     next=>cases lay
    next=>cases lay
   next htf =>
    cases lay;rw[if_neg (by simpa using htf)];exact wpAny_pure (q _ _ S1 rfl sb1)
  next hm =>
   exact absurd ((show t.probe (λi=>(es[i]?.map (λe:Int×Value=>e.1)).getD 0) h (t.probeStart h)=none from by
    cases e:t.probe (λi=>(es[i]?.map (λe:Int×Value=>e.1)).getD 0) h (t.probeStart h) with
    |none=>rfl
    |some met=>exact absurd e (hm met)).symm.trans hp) (by simp)
 next=>cases lay
end
noncomputable abbrev QbA(k:Int×Int):List Key:=[(Sum.inl k.1:Key),Sum.inl k.2]
noncomputable def qH(prog:Program)(w:World)(k:Int×Int):Int:=(tupleKind (Ym prog w)).hash (QbA k)
noncomputable def yI(led:Bool)(l:List Int):Option (Array Int×SetTable):=l.foldlM (λst h=>Qao st.1 st.2 h) (#[],SetTable.fresh 0 0 led)
theorem qa0(led:Bool)(l:List Int)(h:Int):yI led (l++[h])=(yI led l).bind λst=>Qao st.1 st.2 h:=by
 unfold yI;rw[Xz];cases List.foldlM (λst h=>Qao st.1 st.2 h) (#[],SetTable.fresh 0 0 led) l with
 |none=>rfl
 |some st=>simp
theorem zbj(led:Bool)(l m:List Int){r:Array Int×SetTable}(h:yI led (l++m)=some r):∃ st,yI led l=some st:=by
 unfold yI at *;rw[Xz] at h;cases e:List.foldlM (λst h=>Qao st.1 st.2 h) (#[],SetTable.fresh 0 0 led) l with
 |none=>rw[e] at h;cases h
 |some st=>exact⟨st,rfl⟩
theorem YaU(led:Bool):∀(l:List Int)(s s':MP.LT),l.foldlM MP.layOne s=some s'->l.foldlM (λst h=>Qao st.1 st.2 h) (s.hs.toArray,Qaa s led)=some (s'.hs.toArray,Qaa s' led)
 |[],s,s',e=>by cases e;rfl
 |h::l,s,s',e=>by
  rw[List.foldlM_cons] at e ⊢;cases e1:MP.layOne s h with
  |none=>rw[e1] at e;cases e
  |some s1 =>
   rw[e1] at e;dsimp only;rw[Zb7 s s1 led h e1];exact YaU led l s1 s' e
theorem zbO{l:List Int}{s':MP.LT}(led:Bool)(e:MP.layFrom l=some s'):yI led l=some (s'.hs.toArray,Qaa s' led):=YaU led l ⟨[],7,[],0⟩ s' e
theorem ZaN{P:Program}{w:World}{k:Int×Int}(h:Za7 k):qH P w k=MP.hashK k:=by
 obtain⟨a,b⟩:=k;obtain⟨⟨a0,a1⟩,b0,b1⟩:=h;simp only at a0 a1 b0 b1;obtain⟨a,rfl⟩:=Xf a0;obtain⟨b,rfl⟩:=Xf b0;have la:a<Qby:=by unfold Qby;lia
 have lb:b<Qby:=by unfold Qby;lia
 show reduceHash (Builtin.Tuple.tupleHashOf [hashInt a,hashInt b])=_;rw[YQ a la,YQ b lb];rfl
theorem YbS{k:Int×Int}{vs:List Value}{prog:Program}{w:World}(h:ItemsAre (Ym prog w) (QbA k) vs):∀ v∈vs,∃ i t,v=Value.int i t:=by
 cases h with
 |cons h1 t1 =>
  cases t1 with
  |cons h2 t2 =>
   cases t2;intro v hv;have f:∀{i:Int}{v:Value},yak (Sum.inl i) v=true->∃ i t,v=Value.int i t:=λ{i v} q=>by
    rcases zh q with ⟨j,u,e,rfl⟩|⟨y,u,e,_⟩
    ·exact⟨j,u,rfl⟩
    ·cases e
   simp only[xa,Ub,or_false] at hv
   rcases hv with rfl|rfl
   ·exact f h1
   ·exact f h2
section
variable {prog:Program} {w:World} {A:Around} {R:Result->Shared->Prop} {D I l:Addr} {items:Array Value} {h₀:Heap}
noncomputable def ZbW(prog:Program)(w:World)(h:Heap)(items:Array Value)(ks:List (Int×Int)):Prop :=
 ∀(i:Nat)(v:Value),items[i]?=some v->∃ T k,v=.ref T/\ks[i]?=some k/\(tupleKind (Ym prog w)).is h (QbA k) T
theorem zbz(hu:A.units+2<cLine)(hh:A.handled=none)(ks:List (Int×Int))(hks:ks.length=items.size)(hDI:D≠I)(hlI:l≠I)(hlD:l≠D)(led:Bool){hsN:Array Int}{tN:SetTable}(lay:yI led (ks.map (qH prog w))=some (hsN,tN))
  (keepP:∀ h',(∀ b o,b≠D->b≠I->h₀.get? b=some o->h'.get? b=some o)->ZbW prog w h' items ks) :
  ∀(m i:Nat)(s:Shared)(es:Array (Int×Value)) (t:SetTable),items.size-i=m->i<=items.size->s.heap.IsListIter I l i->s.heap.IsList l items->(∀ b o,b≠D->b≠I->h₀.get? b=some o->s.heap.get? b=some o) ->
  SetAt s.heap D es t->yI led ((ks.take i).map (qH prog w))=some (es.map (·.1),t) ->
  (∀ h' tk es',SetAt h' D es' tN->es'.map (·.1)=hsN->(∀ b o,b≠D->b≠I->h₀.get? b=some o->h'.get? b=some o)->R (.ok (.ret .none)) {s with heap:=h',toks:=tk}) ->
  codeAny (model prog w) A (.builtin "set.update.loop" ⟨[.ref D,.ref I],[]⟩) R s:=by
 intro m
 induction m with
 |zero =>
  intro i s es t hm hi st hl hk hd hla hR;have hin:i=items.size:=by lia
  refine codeAny_builtin F.entry_set_update_loop ?_;rw[Around.under_plainId F.plain_set_update_loop _];show wpAny _ A.in1 (pyNext (.ref I) >>= _) _ _ s;refine wpAny_bind (wpAny_pyNext_list_end hh st hl (by simp[hin]) λh' eb=>?_);show wpAny _ A.in1 (ret Value.none) _ _ _;rw[hin,<- hks,xr,lay] at hla;cases hla;obtain⟨o,ep,ho,rest⟩:=hd;exact wpAny_pure (hR h' _ es ⟨o,ep,eb D o hDI ho,rest⟩ rfl λb o h1 h2 e=>eb b o h2 (hk b o h1 h2 e))
 |succ m ih =>
  intro i s es t hm hi st hl hk hd hla hR;have hlt:i<items.size:=by lia
  refine codeAny_builtin F.entry_set_update_loop ?_;rw[Around.under_plainId F.plain_set_update_loop _];show wpAny _ A.in1 (pyNext (.ref I) >>= _) _ _ s;refine wpAny_bind (wpAny_pyNext_list_item st hl (x:=items[i]) (by simp[hlt]) λh' st' sb=>?_);have hk':∀ b o,b≠D->b≠I->h₀.get? b=some o->h'.get? b=some o:=λb o h1 h2 e=>(sb.2 b h2).trans (hk b o h1 h2 e);obtain⟨T,k,e1,e2,e3⟩:=keepP h' hk' i items[i] (by simp[hlt]);have hd':SetAt h' D es t:=by
   obtain⟨o,ep,ho,rest⟩:=hd;exact⟨o,ep,(sb.2 D hDI).trans ho,rest⟩
  have e3':=e3;obtain⟨oT,its,nT,t1,t2,t3,t4⟩:=e3';have tk1:(ks.take (i+1)).map (qH prog w)=(ks.take i).map (qH prog w)++[qH prog w k]:=by
   rw[Wv,e2];simp
  obtain⟨st2,hst2⟩:=zbj led ((ks.take (i+1)).map (qH prog w)) ((ks.drop (i+1)).map (qH prog w)) (r:=(hsN,tN)) (by rw[<- Xs,List.take_append_drop];exact lay);have hl1:Qao (es.map (·.1)) t (qH prog w k)=some st2:=by
   have:=hst2;rw[tk1,qa0,hla] at this;exact this
  rw[e1];show wpAny _ A.in1 (holding [Value.ref T] (setAdd D (.ref T)) >>= _) _ _ _;refine wpAny_bind (wpAny_holding ?_);unfold setAdd;refine wpAny_holding ?_;refine wpAny_bind ((tupleKind (Ym prog w)).pyHash (tupleKind_room_in1 (by lia)) e3 ?_);refine zbQ (o0:=some oT) (t':=st2.2) (hs':=st2.1) hd' hl1 (λs' Q hT q=>ybW (its:=its) ⟨oT,hT,t2,nT,t3⟩ (YbS t4) q) t1 λh'' es'' hd'' em sb''=>?_;refine wpAny_pure ⟨plainId_quiet F.plain_set_update_loop _,?_⟩;have hk'':∀ b o,b≠D->b≠I->h₀.get? b=some o->h''.get? b=some o:=λb o h1 h2 e=>(sb''.2 b h1).trans (hk' b o h1 h2 e);refine ih (i+1) _ es'' st2.2 (by lia) hlt (st'.at λo e=>(sb''.2 I (Ne.symm hDI)).trans e) (hl.at λo e=>(sb''.2 l hlD).trans ((sb.2 l hlI).trans e)) hk'' hd'' (by rw[hst2,em]) λh3 tk es3 hd3 em3 hk3=>hR h3 tk es3 hd3 em3 hk3
end
end L3
end
section
namespace L3
open PySem PySem.Spec PyProof.Rows L2 M3
section
variable {prog:Program} {w:World} {A:Around} {E:Value->Shared->Prop} {s:Shared}
noncomputable abbrev ya2(led:Bool):Obj:={cls:=.type "set",dict:=none,data:=.set #[] 0 (.fresh 0 0 led)}
theorem ZaU{l:Value}{Q:Value->Shared->Prop}
  (hnext:∀ led:Bool,wpAny (model prog w) A.in1.in1 (Builtin.«set.__init__» ⟨[.ref s.heap.objs.size,l],[]⟩)
    (λfin s'=>match fin with | .done f=>wants (λr s₂=>r=.none/\Q (.ref s.heap.objs.size) s₂) E (.ok f) s' | .again c'=>c'.quiet=true/\codeAny (model prog w) A.in1 c' (wants (λr s₂=>r=.none/\Q (.ref s.heap.objs.size) s₂) E) s')
    (λe s'=>wants (λr s₂=>r=.none/\Q (.ref s.heap.objs.size) s₂) E (.error e) s') {s with heap:=s.heap.push (ya2 led)}) :
  wpAny (model prog w) A (call (.type "set") [l]) Q E s:=by
 have ft:=F.called_set;obtain⟨c,tl,hmro⟩:=ft.mro;have q1:=ft.made;have q2:=ft.sub;refine wpAny_call (codeAny_of_tree ?_);show wpAny _ _ (callAny (.type "set") ⟨[l],[]⟩) _ _ _;refine wpAny_pure ⟨Code.quiet_builtin _ (by decide +kernel),?_⟩;refine codeAny_builtin F.entry_type_call ?_;rw[Around.under_plain (weight_type_call_type "set" [l] []) rfl];have q3:=ft.notType;have q4:=ft.canCreate;have q5:=F.typeCall_set_1 l
 repeat' (first|assumption|wp_step)
 refine codeAny_mono (code_set_new_1 l (E:=E) (Q₁:=λu s₁=>∃ led,u=.ref s.heap.objs.size/\s₁={s with heap:=s.heap.push (ya2 led)}) λled=>⟨led,rfl,rfl⟩) λr s₁ hr=>?_
 match r,hr with
 |.error e,hr=>exact hr
 |.ok (.ret obj),hr =>
  obtain⟨led,rfl,rfl⟩:=hr;have hS:(s.heap.push (ya2 led)).get? s.heap.objs.size=some (ya2 led):=Wb _ rfl;have hT:Shared.TypeIs {s with heap:=s.heap.push (ya2 led)} (.ref s.heap.objs.size) "set":=⟨_,hS,rfl⟩;have q6:=ft.init.lookup;have q7:=ft.init.bind (.ref s.heap.objs.size)
  repeat' (first|assumption|wp_step)
  refine codeAny_mono (codeAny_call_builtin ft.init.plain F.entry_set_init (check_set_init_1 hT (hnext led))) λr₂ s₂ hr₂=>?_
  match r₂,hr₂ with
  |.error e,hr₂=>exact hr₂
  |.ok (.ret r),hr₂ =>
   obtain⟨rfl,hq⟩:=hr₂
   repeat' (first|assumption|wp_step)
end
noncomputable def Qbk(n:Nat)(p:Addr):HO:=.ext λh=>∃ es t,SetAt h p es t/\es.size=n
noncomputable def za4(H:Hp):List V->List (Int×Int)->Prop:=Paired λv k=>∃ T,v=V.ref T/\H T=some (.tup [.int k.1,.int k.2])
noncomputable def rSetL:List V->Hp->VK->Prop:=λxs H Q=>∃ a vs ks,xs=[.ref a]/\Rd H a (.lst vs)/\za4 H vs ks/\(∀ k∈ks,Za7 k)/\MP.layP ks=true/\∀ p,H p=none->Q (.ref p) (upd H p (Qbk ks.length p))
theorem QaO{P:Program}{w:World}{H:Hp}{h:Heap}(ok:HOk P w H h):∀{vs:List V}{ks:List (Int×Int)} {us:List Value},za4 H vs ks->Vals vs us ->
  ks.length=us.length/\∀(i:Nat)(v:Value),us[i]?=some v->∃ T k,v=.ref T/\ks[i]?=some k/\(tupleKind (Ym P w)).is h (QbA k) T
 |_,_,_,.nil,.nil=>⟨rfl,λi v e=>by simp at e⟩
 |_,_,_,.cons (a:=v) (b:=k) hv tv,.cons (b:=u) hu tu=>by
  obtain⟨k1,k2⟩:=QaO ok tv tu;obtain⟨T,rfl,hT⟩:=hv;obtain rfl:u=Value.ref T:=hu;refine⟨by simp[k1],λi v e=>?_⟩;cases i with
  |zero=>simp at e;subst e;exact⟨T,_,rfl,rfl,ycq ok (ks:=QbA k) hT⟩
  |succ i=>simpa using k2 i v (by simpa using e)
section
variable {X:Cx}
theorem Ybo(hc:X.calm=true)(hu:X.A.units+5<cLine):CallR X (.type "set") rSetL:=by
 intro pins s σ H xs us Q I r h;obtain⟨a,vs,ks,rfl,ha,cv,hsm,hlay,q⟩:=h;obtain rfl:=yX r;obtain⟨_,its,n,rv,hg⟩:=ha.ok I.hok;obtain⟨k1,k2⟩:=QaO I.hok cv rv;have hh:=I.ok.hd hc;have lta:a<s.heap.objs.size:=ua hg;refine ZaU λled=>?_;generalize hp1:s.heap.push (ya2 led)=h1;have hD1:h1.get? s.heap.objs.size=some (ya2 led):=by rw[<- hp1];exact Wb _ rfl
 have kp1:∀ b o,s.heap.get? b=some o->h1.get? b=some o:=λb o e=>by rw[<- hp1];exact wa _ e
 have hg1:=kp1 _ _ hg;have S0:SetAt h1 s.heap.objs.size #[] (.fresh 0 0 led):=⟨_,0,hD1,⟨rfl,rfl,rfl⟩,rfl,rfl⟩;obtain⟨st,hst,hsz⟩:∃ st,yI led (ks.map (qH X.prog X.w))=some st/\st.1.size=ks.length:=by
  have e:ks.map (qH X.prog X.w)=ks.map MP.hashK:=List.map_congr_left λk hk=>ZaN (hsm k hk);rw[e];unfold MP.layP MP.layB at hlay;cases e2:MP.layFrom (ks.map MP.hashK) with
  |none=>rw[e2] at hlay;cases hlay
  |some s' =>
   rw[e2] at hlay;exact⟨_,zbO led e2,by simpa using hlay⟩
 have hl1:h1.IsList a its.toArray:=⟨_,hg1,rfl,n,rfl⟩;have z1:=F.sub_list_set;have z2:=F.sub_list_frozenset;have z3:(Value.type "list" == Value.type "dict")=false:=by decide
 unfold Builtin.«set.__init__» noKeywords Builtin.Frozenset.updateFrom;generalize hPI:pyIter=PI;have hT:Shared.TypeIs {s with heap:=h1} (.ref s.heap.objs.size) "set":=⟨_,hD1,rfl⟩;have hol:=hg1;have hlS:=lstO
 wp_walk
 subst hPI;refine wpAny_pyIter_list hl1 ?_;refine wpAny_bind (wpAny_runValue ?_);generalize hp3:h1.push {cls:=.type "list_iterator",data:=.fields #[.ref a,.int 0 0]}=h3;have kp3:∀ b o,h1.get? b=some o->h3.get? b=some o:=λb o e=>by rw[<- hp3];exact wa _ e
 have kp:∀ b o,s.heap.get? b=some o->h3.get? b=some o:=λb o e=>kp3 _ _ (kp1 _ _ e);have ltD:s.heap.objs.size<h1.objs.size:=ua hD1;have hh3:X.A.in1.in1.handled=none:=hh;refine zbz (A:=X.A.in1.in1) (D:=s.heap.objs.size) (I:=h1.objs.size) (l:=a) (items:=its.toArray) (h₀:=s.heap) (by show X.A.units+1+1+2<cLine;lia) hh3 ks (by simp[k1]) (Vb ltD) (Vb (Wq lta ltD)) (Vb lta) led hst
  (λh' kk i v e=>?_) its.toArray.size 0 _ #[] (.fresh 0 0 led) (by simp) (Wp _) ?_ ?_ ?_ ?_ (by simp[yI]) λh' tk es' hd em hk=>?_
 ·obtain⟨T,k,e1,e2,oK,iK,nK,q1,q2⟩:=k2 i v (by simpa using e);have up:∀ b o,s.heap.get? b=some o->h'.get? b=some o:=λb o e=>kk b o (Vb (ua e)) (Vb (Wq (ua e) ltD)) e;exact⟨T,k,e1,e2,oK,iK,nK,up _ _ q1,q2⟩
 ·exact⟨_,by rw[<- hp3];exact Wb _ rfl,rfl,rfl⟩
 ·exact⟨_,kp _ _ hg,rfl,n,rfl⟩
 ·exactλb o _ _ e=>kp _ _ e
 ·obtain⟨o,ep,ho,rest⟩:=S0;exact⟨o,ep,kp3 _ _ ho,rest⟩
 ·have up:∀ b o,s.heap.get? b=some o->h'.get? b=some o:=λb o e=>hk b o (Vb (ua e)) (Vb (Wq (ua e) ltD)) e;have fr:H s.heap.objs.size=none:=I.hok.fresh (wb _);have hz:es'.size=ks.length:=by rw[<- hsz,<- em,wn]
  show wpAny _ _ _ _ _ _;refine wpAny_pure ?_;show wpAny _ _ (ret Value.none) _ _ _;refine wpAny_pure ⟨rfl,.ref s.heap.objs.size,_,I.laid (a:=s.heap.objs.size) (o:=Qbk ks.length s.heap.objs.size) (t':=tk) up (wb _) ?_,rfl,q _ fr⟩;obtain⟨o,ep,ho,rest⟩:=hd;refine⟨⟨es',_,⟨o,ep,ho,rest⟩,hz⟩,⟨o,ho⟩,?_⟩;rintro g1 g2 ⟨es,t,⟨o',ep',ho',rest'⟩,hz'⟩ kk;exact⟨es,t,⟨o',ep',kk _ ho',rest'⟩,hz'⟩
theorem Qbp:CallR X (.builtin "len") (λxs H Q=>∃ p n,xs=[.ref p]/\H p=some (Qbk n p)/\n<1000000/\Q (.int n) H):=by
 intro pins s σ H xs us Q I r h;obtain⟨p,n,rfl,hp,hn,q⟩:=h;obtain rfl:=yX r;obtain⟨⟨es,t,⟨o,ep,ho,hex,hd,hf⟩,hz⟩,_⟩:=(show ObjOk X.prog X.w H s.heap p (Qbk n p) from I.hok p _ hp);subst hz;exact call_len_set ho hex hd hf (by lia) ⟨.int es.size,H,I.tok _,⟨_,rfl⟩,q⟩
end
end L3
end
section
namespace M3
open PySem
open Sem (wp)
end M3
end
section
namespace L3
open PySem PySem.Spec PyProof.Rows L2 M3
end L3
end
section
namespace L3
open PySem PySem.Spec PyProof.Rows L2 M3
end L3
end
section
namespace L3
open PySem PySem.Spec PyProof.Rows L2 M3
end L3
end
section
namespace L3
end L3
namespace M3
end M3
end
section
namespace L3
open PySem PySem.Spec PyProof.Rows L2 M3
end L3
end
section
namespace M3
open PySem
open Sem (wp)
end M3
namespace L3
open PySem PySem.Spec PyProof.Rows L2 M3
end L3
end
section
namespace M3
open PySem PyProof.Rows
end M3
end
section
namespace L3
open PySem PySem.Spec PyProof.Rows L2 M3
end L3
end
section
namespace TS
open PySem PyProof.Rows
variable {prog:Program} {w:World} {A:Around} {E:Value->Shared->Prop} {s:Shared} {a:Array Keyed} {st:SortSt}
end TS
end
section
namespace TS
open PySem PyProof.Rows
variable {prog:Program} {w:World} {A:Around} {E:Value->Shared->Prop} {s:Shared} {a:Array Keyed} {st:SortSt}
end TS
end
section
namespace TS
open PySem PyProof.Rows
variable {prog:Program} {w:World} {A:Around} {E:Value->Shared->Prop} {s:Shared} {a:Array Keyed} {st:SortSt}
end TS
end
section
namespace TS
open PySem PyProof.Rows
variable {prog:Program} {w:World} {A:Around} {E:Value->Shared->Prop} {s:Shared} {a:Array Keyed} {st:SortSt}
end TS
end
section
namespace TS
open PySem PyProof.Rows
variable {prog:Program} {w:World} {A:Around} {E:Value->Shared->Prop} {s:Shared} {a:Array Keyed} {st:SortSt}
end TS
end
section
namespace TS
open PySem PyProof.Rows
variable {prog:Program} {w:World} {A:Around} {E:Value->Shared->Prop} {s:Shared} {a:Array Keyed} {st:SortSt}
end TS
end
section
namespace TS
open PySem PyProof.Rows
variable {prog:Program} {w:World} {A:Around} {E:Value->Shared->Prop} {s:Shared} {a:Array Keyed} {st:SortSt}
end TS
end
section
namespace TS
open PySem PyProof.Rows
variable {prog:Program} {w:World} {A:Around} {E:Value->Shared->Prop} {s:Shared} {a:Array Keyed} {st:SortSt}
end TS
end
section
namespace TS
open PySem PyProof.Rows
variable {prog:Program} {w:World} {A:Around} {E:Value->Shared->Prop} {s:Shared} {a:Array Keyed} {st:SortSt}
end TS
end
section
namespace TS
open PySem PyProof.Rows
variable {prog:Program} {w:World} {A:Around} {E:Value->Shared->Prop} {s:Shared} {a:Array Keyed} {st:SortSt}
end TS
end
section
namespace M3
open PySem PySem.Spec PyProof.Rows TS
end M3
namespace L3
open PySem PySem.Spec PyProof.Rows L2 M3
end L3
end
section
namespace L3
open PySem PySem.Spec PyProof.Rows L2 M3
end L3
end
section
namespace M3
open PySem
section
variable {prog:Program} {w:World} {A:Around} {E:Value->Shared->Prop} {h:Heap} {g:Array GenState} {d:Drawn} {t:Nat} {os:OsState}
variable {nm q:Str} {C N:Addr} {bs bm bmB:List Value} {hdct:Bool} {sn:List Str} {sub:List Value} {ab:Bool} {col:Option Bool} {dd:Option Addr} {k0 k1 k2 k3 k5:Option Value} {B newId initId:String}
theorem Ya0(F:ExcBaseFacts B newId initId bmB)(T:OwnTail h bmB bm){mN:Str->Option Value}{rest:List Value}{fI:Addr}{oI:Obj}{Q:Fin->Shared->Prop}
  (hC:h.get? C=some (excClassObj nm q C N bs bm hdct sn sub ab col dd k0 k1 k2 k3 k5 newId)) (hn:h.Ns N mN) (hi:mN "__init__"=some (.ref fI)) (hfI:h.get? fI=some oI) (hfc:oI.cls=.type "function")
  (hq:∀ h' e,Heap.MadeExcOf h h' e (.ref C) rest->wpAny (model prog w) A (call (.ref fI) (.ref e::rest)) (λr s'=>r=.none/\Q (.done (.ret (.ref e))) s') E ⟨h',g,d,t,os⟩) (hrest:rest.length<=sizeLine) :
  wpAny (model prog w) A (Builtin.«type.__call__» ⟨.ref C::rest,[]⟩) Q E ⟨h,g,d,t,os⟩:=by
 repeat (first|with_reducible refine wpAny_loadPart_at hC ?_|with_reducible refine wpAny_madeBy_exc hC ?_|wp_step)
 refine codeAny_call_builtin_code (Code.quiet_builtin _ F.quiet) (wpAny_check_new_subT F T hC ?_);refine codeAny_exc_new_subT F T hC ?_ hrest;show wpAny _ _ _ _ _ _;generalize hh1:(h.push {cls:=.type "tuple",data:=.seq rest.toArray}).push {cls:=.ref C,data:=.fields #[.ref h.objs.size,.none,.none,.none,.bool false,.none]}=h1;have kp:∀ b o,h.get? b=some o->h1.get? b=some o:=λb o e=>by rw[<- hh1];exact wa _ (wa _ e)
 have hget:h1.get? (h.objs.size+1)=some {cls:=.ref C,data:=.fields #[.ref h.objs.size,.none,.none,.none,.bool false,.none]}:=by rw[<- hh1];heap_get
 have hget0:h1.get? h.objs.size=some {cls:=.type "tuple",data:=.seq rest.toArray}:=by rw[<- hh1];exact wa _ (WB rfl rfl)
 have hC₁:=kp _ _ hC;have hn₁:h1.Ns N mN:=let ⟨o,es,ep,e,r⟩:=hn;⟨o,es,ep,kp _ _ e,r⟩;have hcC:(Value.ref C::bm).contains (.ref C)=true:=by simp
 have T₁:=T.keeps kp;unfold isInstance
 repeat (first|with_reducible refine wpAny_loadPart_at hget ?_|(with_reducible refine wpAny_isSubtype_exc hC₁ ?_;rw[hcC])|wp_step)
 show wpAny _ _ (typeLookup (.ref C) _) _ _ _;refine wpAny_typeLookup_tail hC₁ hn₁ T₁ F.mroIs F.init.lookup ?_;rw[hi];refine wpAny_holding (wpAny_bind ?_);unfold bindSpecial;refine wpAny_bind (wpAny_typeOf (T:="function") ⟨_,kp _ _ hfI,hfc⟩ ?_);rw[if_pos (by decide)];refine wpAny_pure (wpAny_bind (wpAny_mono (hq _ (h.objs.size+1) ⟨kp,um (Vw _),h.objs.size,hget,um (wb _),hget0⟩) (λr s' hr=>?_) λ_ _ x=>x));obtain⟨rfl,hQ⟩:=hr
 wp_walk
 exact hQ
theorem Zbk(F:ExcBaseFacts B newId initId bmB)(T:OwnTail h bmB bm){mN:Str->Option Value}{rest:List Value}{fI:Addr}{oI:Obj}{Q:Value->Shared->Prop}
  (hC:h.get? C=some (excClassObj nm q C N bs bm hdct sn sub ab col dd k0 k1 k2 k3 k5 newId)) (hn:h.Ns N mN) (hi:mN "__init__"=some (.ref fI)) (hfI:h.get? fI=some oI) (hfc:oI.cls=.type "function")
  (hq:∀ h' e,Heap.MadeExcOf h h' e (.ref C) rest->wpAny (model prog w) (A.under (.builtin "type.__call__" ⟨.ref C::rest,[]⟩)) (call (.ref fI) (.ref e::rest)) (λr s'=>r=.none/\Q (.ref e) s') E ⟨h',g,d,t,os⟩) (hrest:rest.length<=sizeLine) :
  wpAny (model prog w) A (call (.ref C) rest) Q E ⟨h,g,d,t,os⟩:=by
 have f1:=tc_lookup;have f2:=tc_bind (.ref C);have hT:(⟨h,g,d,t,os⟩:Shared).TypeIs (.ref C) "type":=⟨_,hC,rfl⟩;refine wpAny_call (codeAny_of_tree ?_);show wpAny _ _ (callAny (.ref C) _) _ _ _
 repeat (any_goals (first|assumption|with_reducible refine wpAny_loadPart_at hC ?_|wp_step))
 refine⟨rfl,?_⟩;exact codeAny_call_builtin_at (Code.quiet_builtin _ (by decide +kernel)) entry_typeCall (wpAny_check_type_call_sub hC (Ya0 F T hC hn hi hfI hfc (λh' e hm=>hq h' e hm) hrest))
end
section
variable {M:Model} {A:Around} {E:Value->Shared->Prop} {env:Env}
variable {nm q:Str} {C N:Addr} {bs bm:List Value} {hdct:Bool} {sn:List Str} {sub:List Value} {ab:Bool} {col:Option Bool} {dd:Option Addr} {k0 k1 k2 k3 k5:Option Value} {newId:String}
theorem zaV{s:Shared}{x:Sem Value}{Q:Flow->Shared->Prop}(hbase:bm.contains (.type "BaseException")=true)(hh:A.handled=none)
  (h:wpAny M A x (λv s1=>∃ e t o,v=.ref e/\s1.heap.get? C=some (excClassObj nm q C N bs bm hdct sn sub ab col dd k0 k1 k2 k3 k5 newId) /\
   s1.heap.get? e=some {cls:=.ref C,dict:=o,data:=.fields #[.ref t,.none,.none,.none,.bool false,.none]}/\E (.ref e) s1) E s) :
  wpAny M A (raiseStmt env (some x) none) Q E s:=by
 have hcB:(Value.ref C::bm).contains (.type "BaseException")=true:=by rw[wm,hbase,wz]
 unfold raiseStmt;refine wpAny_bind (wpAny_mono h (λv s1 h1=>?_) λ_ _ x=>x);obtain⟨e,t,o,rfl,hC,he,hE⟩:=h1;obtain⟨hp,g,d,tk,os⟩:=s1
 repeat (first|with_reducible refine wpAny_loadPart_at he ?_|with_reducible refine wpAny_loadPart_at hC ?_|(with_reducible refine wpAny_isSubtype_exc hC ?_;rw[hcB])|wp_step)
 exact wpAny_raiseNew_none hh hE
end
section
variable {prog:Program} {w:World} {A:Around} {E:Value->Shared->Prop} {s:Shared} {env:Env}
variable {nm q:Str} {C N:Addr} {bs bm bmB:List Value} {hdct:Bool} {sn:List Str} {sub:List Value} {ab:Bool} {col:Option Bool} {dd:Option Addr} {k0 k1 k2 k3 k5:Option Value} {B newId initId:String}
theorem qaS(F:ExcBaseFacts B newId initId bmB){mN:Str->Option Value}{x:Str}{np cpos pos:Pos}{args:List Expr}{fI:Addr}{oI:Obj}{Q:Flow->Shared->Prop}
  (hbase:bm.contains (.type "BaseException")=true) (hh:A.handled=none) (hplain:(backTo cpos (starEach args env)).any (·.1)=false) (hi:mN "__init__"=some (.ref fI)) (hfc:oI.cls=.type "function")
  (h:wpAny (model prog w) A (eval (.Name x np) env) (λf s1=>f=.ref C/\wpAny (model prog w) A (evalArgs (.ref C) true (backTo cpos (starEach args env)) [])
   (λa s2=>a.kw=[]/\a.pos.length<=sizeLine/\s2.heap.get? C=some (excClassObj nm q C N bs bm hdct sn sub ab col dd k0 k1 k2 k3 k5 newId)/\s2.heap.Ns N mN/\OwnTail s2.heap bmB bm/\s2.heap.get? fI=some oI /\
    ∀ h' e,Heap.MadeExcOf s2.heap h' e (.ref C) a.pos->wpAny (model prog w) (A.under (.builtin "type.__call__" ⟨.ref C::a.pos,[]⟩)) (call (.ref fI) (.ref e::a.pos)) (λr s3=>r=.none/\∃ t o,s3.heap.get? C=some (excClassObj nm q C N bs bm hdct sn sub ab col dd k0 k1 k2 k3 k5 newId) /\
     s3.heap.get? e=some {cls:=.ref C,dict:=o,data:=.fields #[.ref t,.none,.none,.none,.bool false,.none]}/\E (.ref e) s3) E {s2 with heap:=h'}) E s1) E s) :
  wpAny (model prog w) A (exec (.Raise (some (.Call (.Name x np) args [] cpos)) none pos) env) Q E s:=by
 rw[arm_exec_Raise];refine wpAny_bind (wpAny_standAt (zaV (C:=C) (nm:=nm) (q:=q) (N:=N) (bs:=bs) (bm:=bm) (hdct:=hdct) (sn:=sn) (sub:=sub) (ab:=ab) (col:=col) (dd:=dd) (k0:=k0) (k1:=k1) (k2:=k2) (k3:=k3) (k5:=k5) (newId:=newId) hbase hh ?_));refine wpAny_bind (wpAny_mono (wpAny_Call_ofName (wpAny_mono h (λf s1 h1=>?_) λ_ _ x=>x)) (λv s3 h3=>wpAny_bind (wpAny_standAt (wpAny_pure h3))) λ_ _ x=>x);obtain(⟨rfl,h1⟩):=h1;unfold callWith;refine wpAny_bind (wpAny_holding (wpAny_mono h1 (λa s2 h2=>wpAny_bind (wpAny_standAt ?_)) λ_ _ x=>x));obtain(⟨apos,akw⟩):=a;obtain(⟨hkw,hlen,hC,hn,T,hf,h2⟩):=h2;obtain rfl:akw=[]:=hkw;obtain(⟨hp,g,d,tk,os⟩):=s2;simp only[hplain];refine wpAny_bind (wpAny_keeperOf_exc hC ?_);refine wpAny_bind (Zbk (hrest:=hlen) F T hC hn hi hf hfc λh' e hm=>wpAny_mono (h2 h' e hm) (λr s3 ⟨r0,t,o,c,ee,hE⟩=>⟨r0,wpAny_bind (wpAny_holding (wpAny_point (wpAny_pure ?_)))⟩) λ_ _ x=>x);exact⟨e,t,o,rfl,c,ee,hE⟩
end
end M3
end
section
namespace L3
open PySem PySem.Spec PyProof.Rows L2 M3
noncomputable def yH(C x:Addr)(d:Option Addr):Heap->Prop:=λh=>∃ t,h.get? x=some (yh C t .none d)
theorem zaG{P:Program}{w:World}{H:Hp}{h:Heap}{C x t:Addr}{d:Option Addr}(e:h.get? x=some (yh C t .none d)):ObjOk P w H h x (.ext (yH C x d)):=⟨⟨t,e⟩,⟨_,e⟩,λh1 h2 ⟨t,e⟩ k=>⟨t,k _ e⟩⟩
theorem Zca{H:Hp}{a:Addr}{o:HO}(e:H a=some o):upd H a o=H:=by
 funext b;by_cases z:b=a
 ·rw[z,qb,e]
 ·rw[Qa z]
section
variable {X:Cx} {pins:List (Addr×Obj)} {σ:L2.St} {H:Hp} {s:Shared}
theorem zaL{a:Addr}{φ:Heap->Prop}(I:Inv X pins σ (upd H a (.ext φ)) s)(hn:H a=none):Inv X pins σ H s:=by
 have un:∀ b,upd H a (.ext φ) b=none->H b=none:=λb e=>by
  by_cases z:b=a
  ·rw[z];exact hn
  ·rw[Qa z] at e;exact e
 have so:∀ b u,(∀ ψ,u≠.ext ψ)->upd H a (.ext φ) b=some u->H b=some u:=λb u nu e=>by
  by_cases z:b=a
  ·rw[z,qb] at e;cases e;exact absurd rfl (nu _)
  ·rw[Qa z] at e;exact e
 refine⟨I.ok,I.os,I.bare,⟨I.base.keep,I.base.slot,λb o e n hx=>un b (I.base.free b o e n hx),I.base.there,λb xs e=>so _ _ (λ_ z=>nomatch z) (I.base.tups b xs e),λb o u e=>so _ _ (λ_ z=>nomatch z) (I.base.frzs b o u e),λb ps e=>?_⟩,I.loc,I.cell,un _ I.free,λx c e=>un _ (I.freeC x c e),λp hp=>?_,λb u e=>?_,I.len⟩
 ·obtain⟨m,q⟩:=I.base.tbls b ps e;exact⟨m,so _ _ (λ_ z=>nomatch z) q⟩
 ·obtain⟨e1,e2,e3⟩:=I.pin p hp;exact⟨e1,un _ e2,e3⟩
 ·have q:upd H a (.ext φ) b=some u:=by rw[Qa (Zd e hn)];exact e
  exact(I.hok b u q).stay (λ_ _ _ z=>z) (λc z=>so _ _ (λ_ z=>nomatch z) z) λc xs z=>so _ _ (λ_ z=>nomatch z) z
noncomputable def tFs(j:Nat):TE:=λσ H Q=>∃ i:Int,σ[j]?=some (some (.int i))/\i.natAbs<1000000/\∀ y,Q (.str y) H
theorem Qb0{j:Nat}{x a b:Str}{k1 k2}{p p1 p2 p3 p4:Pos}(hv:PE X (.Name x p) (QaX j))(la:a.length<=1000)(lb:b.length<=1000) :
  PE X (.JoinedStr [.Constant (.str a) k1 p1,.FormattedValue (.Name x p) (-1) none p2,.Constant (.str b) k2 p3] p4) (tFs j):=by
 intro pins s σ H Q I h;obtain⟨i,e,hi,q⟩:=h;have l0:(Str.empty++a:Str).length<=1000:=by rw[strLen_append];show 0+a.length<=1000;lia
 have li:(Str.ofString (toString i)).length<=7:=by rw[PySem.ofString_length];exact int_text_length_le10 (k:=6) (by decide) (by exact hi)
 have l1:((Str.empty++a)++Str.ofString (toString i):Str).length<=1007:=by rw[strLen_append];lia
 have l2:(((Str.empty++a)++Str.ofString (toString i))++b:Str).length<=2007:=by rw[strLen_append];lia
 have hd:i.natAbs.log2<1920:=by
  by_cases z:i.natAbs=0
  ·rw[z];decide
  ·exact(Wx z).mpr (Wc (Wq hi (show 1000000<2^20 by decide)) (vx (by decide) (by decide)))
 refine JoinedStr_many (joinParts_cons (Calls.Constant_str ⟨by rw[sizeLine_eq];lia,?_⟩));refine joinParts_cons (FormattedValue_plain (thn (hv pins _ σ H (λv H1=>v=.int i/\H1=H) (I.tok _) ⟨.int i,e,rfl,rfl⟩) λu s1 ⟨v,H1,I1,r,ev,eH⟩=>?_));subst ev;subst eH;obtain⟨t,rfl⟩:=r;refine formatField_int_small hd ⟨by rw[sizeLine_eq];exact Xe l1 (by decide),joinParts_cons (Calls.Constant_str ⟨by rw[sizeLine_eq];exact Xe l2 (by decide),joinParts_nil ⟨.str _,H1,?_,⟨_,rfl⟩,q _⟩ (by rw[sizeLine_eq];exact Xe l2 (by decide))⟩)⟩;exact I1.tok _
end
noncomputable def Qaf:List Value->Bool
 |[]=>false
 |v::r=>(v::r)==bmV||(match v with | .ref _=>Qaf r|_=>false)
theorem qax:∀{l:List Value},Qaf l=true->l.contains (.type "object")=true/\∀ self,refuseLoop self "__setattr__" l=pure ()
 |[],e=>by cases e
 |v::r,e=>by
  unfold Qaf at e
  rcases Bool.or_eq_true_iff.mp e with q|q
  ·rw[beq_iff_eq.mp q];exact⟨by decide,PySem.F.store_ValueError.passes⟩
  ·split at q
   ·obtain⟨h1,h2⟩:=qax (l:=r) q;exact⟨by rw[wm,h1,wz],λself=>by rw[refuseLoop_ref];exact h2 self⟩
   ·cases q
section
variable {prog:Program} {w:World} {A:Around} {s:Shared} {K:PySem.W.Frag} {x C:Addr} {R:Result->Shared->Prop}
theorem osaX{ox:Obj}{od:Option Obj}{cd:ClassData}{name:Str}{tk:Tok}{v:Value}(X:K.In s.heap)(I:PySem.W.InstAt s.heap x ox C od)(hc:ug K C=some cd)(ho:Qaf cd.mro=true)(ha:wc K (.ref C) name=some none)
  (h:wpAny (model prog w) A.in1 (Builtin.ObjectAttr.storeInOwnDict (.ref x) (.ref C) (.str name tk) name v false) (λfin s'=>match fin with | .done f=>R (.ok f) s' | .again c'=>c'.quiet=true/\codeAny (model prog w) A c' R s') (λe s'=>R (.error e) s') s) :
  codeAny (model prog w) A (.call (.builtin "object.__setattr__") ⟨[.ref x,.str name tk,v],[]⟩) R s:=by
 have SF:=PySem.F.store_object;obtain⟨o1,o2⟩:=qax ho;have ne:cd.mro.isEmpty=false:=by cases q:cd.mro with|nil=>rw[q] at ho;cases ho|cons _ _=>rfl
 have mi:Vn K C (.type "object")=some true:=by unfold Vn;rw[hc,Xk,if_neg (by rw[ne];decide),o1]
 have sub:PySem.W.Looks (model prog w) s.heap (isInstance (.ref x) (.type "object")) true:=I.type.andThen (PySem.W.looks_mroIn X mi);refine codeAny_call_builtin SF.slot.plain SF.entry (@xA (model prog w) _ _ s "object.__setattr__" "object" "__setattr__" (.ref x) [.str name tk,v] [] _ SF.kind SF.split sub (SF.args (.ref x) (.str name tk) v) ?_);have hm:PySem.W.Looks (model prog w) s.heap (mroOf (.ref C)) cd.mro:=(Ut X hc).andThen .now;rw[PySem.W.osa_eq,refuse_eq];refine wpAny_bind (wpAny_bind (I.type.here (wpAny_bind (hm.here ?_))));rw[o2];exact wpAny_pure (wpAny_bind (I.type.here (wpAny_bind ((Xj X ha).here (wpAny_bind (wpAny_pure h))))))
theorem setX{t:Addr}{cd:ClassData}{name:Str}{v:Value}{E:Value->Shared->Prop}{Q:Unit->Shared->Prop}(X:K.In s.heap)(e:s.heap.get? x=some (yh C t .none))(hs:wc K (.ref C) "__setattr__"=some (some (.builtin "object.__setattr__")))
  (hc:ug K C=some cd) (hd:cd.hasDict=true) (ho:Qaf cd.mro=true) (ha:wc K (.ref C) name=some none)
  (h:∀ h' tk,h'.get? x=some (yh C t .none (some s.heap.objs.size))->h'.Ns1 s.heap.objs.size (λy=>if y=name then some v else none)->(∀ b o,b≠x->s.heap.get? b=some o->h'.get? b=some o)->Q () {s with heap:=h',toks:=tk}) :
  wpAny (model prog w) A (setAttr (.ref x) name v) Q E s:=by
 have J:PySem.W.InstAt s.heap x (yh C t .none) C none:=⟨e,rfl,rfl,True.intro⟩;have hxs:x≠s.heap.objs.size:=Vb (ua e);refine uA X J hs (osaX (s:={s with toks:=s.toks+1}) X J hc ho ha ?_);refine wpAny_bind (wpAny_pure (wpAny_bind (wpAny_bind (wpAny_loadPart e (wpAny_bind (PySem.W.Looks.here (s:={s with toks:=s.toks+1}) (Ut X hc) ?_))))));rw[hd];refine wpAny_bind (wpAny_alloc' ?_);have hx₁:(s.heap.push {cls:=.type "dict",data:=.dict #[]}).get? x=some (yh C t .none):=wa _ e;refine wpAny_bind (wpAny_update' hx₁ ?_);refine wpAny_pure (a:=some s.heap.objs.size) ?_;generalize hg:Heap.update (s.heap.push {cls:=.type "dict",data:=.dict #[]}) x _=h1;have gx:h1.get? x=some (yh C t .none (some s.heap.objs.size)):=by
  rw[<- hg,xj (λo=>{cls:=o.cls,dict:=some s.heap.objs.size,data:=o.data,slots:=o.slots}) hx₁ rfl]
 have go:∀ b o,b≠x->s.heap.get? b=some o->h1.get? b=some o:=λb o hb q=>by
  rw[<- hg,uf _ _ (Ne.symm hb)];exact wa _ q
 have gd:h1.get? s.heap.objs.size=some {cls:=.type "dict",data:=.dict #[]}:=by
  rw[<- hg,uf _ _ hxs];exact WB rfl rfl
 have hnd:h1.Ns s.heap.objs.size (λ_=>none):=⟨_,#[],_,gd,rfl,λ_ z=>absurd z (by simp),λ_=>rfl⟩;clear hg;show wpAny _ _ (Builtin.ObjectAttr.storeInDict s.heap.objs.size (.str name s.toks) name v) _ _ _;unfold Builtin.ObjectAttr.storeInDict Builtin.ObjectAttr.newKeyGuard;refine wpAny_bind (wpAny_pure (wpAny_bind (wpAny_nsSet1 (s:={s with heap:=h1,toks:=s.toks+1}) (Heap.Ns1.of_empty hnd) λh' hn' hs'=>?_)));obtain⟨oD,esD,epD,hoD,hdD,hcD⟩:=hn'.count (PySem.Within.cons name v PySem.Within.nil);refine wpAny_bind (wpAny_lookBehind hoD (by rw[hdD];exact pastItsLine_dict (Xe hcD (by rw[ue,Vr,sizeLine_eq];lia))) ?_);refine wpAny_pure (h h' _ ((hs'.2 x hxs).trans gx) hn' λb o hb q=>(hs'.2 b (Vb (ua q))).trans (go b o hb q))
end
structure XB (K:PySem.W.Frag) (B:Addr):Prop where
 sp:uj K (.ref B) "__getattribute__"=some (some (.builtin "type.__getattribute__"))
 rd:PySem.W.readsIn K B (.type "type")=true
 fc:PySem.W.findCls K (.ref B) (.type "type") "__init__"=some (.val (.builtin "ValueError.__init__"))
structure XS (K:PySem.W.Frag) (C:Addr):Prop where
 q:zB K C
 sa:wc K (.ref C) "__setattr__"=some (some (.builtin "object.__setattr__"))
 cd:∃ cd,ug K C=some cd/\cd.hasDict=true/\Qaf cd.mro=true
 na:wc K (.ref C) "line"=some none
section
variable {X:Cx}
noncomputable def tIni(K:PySem.W.Frag)(i j:Nat):TE:=λσ H Q=>∃ e C n,σ[i]?=some (some (.ref e))/\σ[j]?=some (some (.int n))/\n.natAbs<1000000/\H e=some (.ext (yH C e none))/\zB K C/\Q .non H
theorem Yce{i j:Nat}{B:Addr}{c0 x y a b:Str}{k1 k2}{p0 p1 p2 p3 p4 p5 p6 apos pos:Pos}(Z:XB X.K B)(hg:Gl X c0)(hm:X.mg c0=some (.ref B))(hx:PE X (.Name x p1) (QaX i))(hy:PE X (.Name y p3) (QaX j))(la:a.length<=1000)(lb:b.length<=1000)(hd:(c0==("__debug__":Str))=false)
  (hst:starEach [.Name x p1,.JoinedStr [.Constant (.str a) k1 p2,.FormattedValue (.Name y p3) (-1) none p4,.Constant (.str b) k2 p5] p6] X.env=(false,eval (.Name x p1) X.env)::starEach [.JoinedStr [.Constant (.str a) k1 p2,.FormattedValue (.Name y p3) (-1) none p4,.Constant (.str b) k2 p5] p6] X.env)
  (hline:(apos.endLine==pos.line)=true) :
  PE X (.Call (.Attribute (.Name c0 p0) "__init__" apos) [.Name x p1,.JoinedStr [.Constant (.str a) k1 p2,.FormattedValue (.Name y p3) (-1) none p4,.Constant (.str b) k2 p5] p6] [] pos) (tIni X.K i j):=by
 intro pins s σ H Q I h;obtain⟨e,C,n,e1,e2,hn,hx',qC,q⟩:=h;have ha:PA X [.Name x p1,.JoinedStr [.Constant (.str a) k1 p2,.FormattedValue (.Name y p3) (-1) none p4,.Constant (.str b) k2 p5] p6] (ybc (QaX i) (ybc (tFs j) tNil)):=qj hx (qj (Qb0 hy la lb) zy (by rfl)) hst;refine qaf (by rfl) (by rfl) hline (Qu I hg hm (λpl=>?_) hd);refine PySem.W.method_cls I.kIn Z.sp (PySem.W.cls_value I.kIn Z.rd Z.fc rfl ?_);refine callWith_builtin1 (thn (ha pos pins _ σ H (λvs H1=>∃ y,vs=[.ref e,.str y]/\H1=H) (I.tok _) ⟨.ref e,e1,n,e2,hn,λy=>⟨y,rfl,rfl⟩⟩) λus s1 ⟨vs,H1,I1,r,y,ev,eH⟩=>?_) hst (by rfl);subst ev;subst eH;cases r with
 |cons r rr =>
  cases rr with
  |cons r' rr =>
   cases rr;obtain rfl:_=Value.ref e:=r;obtain⟨ty,rfl⟩:=r';obtain⟨⟨t0,g⟩,_⟩:=I1.hok e _ hx';obtain⟨N,nm,qn,bs,hdct,sn,sub,ab,col,dd,k0,k1,k2,k3,k5,mN,oC,oN,_,_,TL⟩:=YJ I1.kIn qC;have F:=PySem.F.excBase_ValueError;obtain⟨hh,gg,d,tk,os⟩:=s1;refine wpAny_call (codeAny_call_builtin F.init.plain F.initEntry (wpAny_check_init_subU F TL oC g rfl ?_))
   wp_walk
   have g:hh.get? e=some (yh C t0 .none):=g;have e2:=wa {cls:=.type "tuple",data:=.seq #[Value.str y ty]} g;have e3:=xj (Obj.mapFields (·.setIfInBounds 0 (Value.ref hh.objs.size))) e2 (Obj.isFreed_of_fields (Obj.data_mapFields rfl _));have I2:Inv X pins σ H1 ⟨hh.push {cls:=.type "tuple",data:=.seq #[Value.str y ty]},gg,d,tk,os⟩:=I1.kept (t':=tk) λb u q=>wa _ q;have I3:=I2.write (x:=e) (e:=e) (o:=.ext (yH C e none)) (t':=tk) (h':=(hh.push {cls:=.type "tuple",data:=.seq #[Value.str y ty]}).update e (Obj.mapFields (·.setIfInBounds 0 (Value.ref hh.objs.size)))) (by rw[hx'];trivial) (.inl rfl) (λb u nb q=>(uf _ _ (Ne.symm nb)).trans q) ⟨_,e3⟩ (zaG e3);rw[Zca hx'] at I3;exact⟨.non,H1,I3,rfl,q⟩
noncomputable def tLin(K:PySem.W.Frag)(i j:Nat):TS:=λD σ H=>∃ e C n,σ[i]?=some (some (.ref e))/\σ[j]?=some (some (.int n))/\H e=some (.ext (yH C e none))/\XS K C/\∀ dx,H dx=none->D.nx σ (upd (upd H dx (.xd [("line",.int n)])) e (.ext (yH C e (some dx))))
theorem zcr{i j:Nat}{x y:Str}{p1 p2 p3 pos:Pos}(hX:X.ex=[])(hx:PE X (.Name x p1) (QaX i))(hy:PE X (.Name y p3) (QaX j)):PS X (.Assign [.Attribute (.Name x p1) "line" p2] (.Name y p3) pos) (tLin X.K i j):=by
 intro pins s σ H D I h;obtain⟨e,C,n,e1,e2,he,Z,q⟩:=h;refine plainObj_wpAny_Assign_Attribute (thn (hy pins s σ H (λv H1=>v=.int n/\H1=H) I ⟨.int n,e2,rfl,rfl⟩) λu s1 ⟨v,H1,I1,r,ev,eH⟩=>?_) (by rfl);subst ev;subst eH;refine thn (hx pins s1 σ H1 (λv H2=>v=.ref e/\H2=H1) I1 ⟨.ref e,e1,rfl,rfl⟩) λov s2 ⟨v,H2,I2,r2,ev,eH⟩=>?_;subst ev;subst eH;obtain rfl:ov=Value.ref e:=r2;obtain⟨⟨t0,g⟩,_⟩:=I2.hok e _ he;obtain⟨cd,c1,c2,c3⟩:=Z.cd;refine setX I2.kIn g Z.sa c1 c2 c3 Z.na λh' tk gx nx go=>?_;have lt:=ua g;have ne:s2.heap.objs.size≠e:=λz=>absurd lt (by rw[z];exact Wi _);have hn:H2 s2.heap.objs.size=none:=I2.hok.fresh (wb _);obtain⟨od,es,ep,ho,hr⟩:=id nx
 -- first the exception's object, then its dict
 have I3:=I2.write (x:=e) (e:=e) (o:=.ext (yH C e (some s2.heap.objs.size))) (t':=tk) (h':=h') (by rw[he];trivial) (.inl rfl) (λb u nb q=>go b u nb q) ⟨_,gx⟩ (zaG gx);have hn3:upd H2 e (.ext (yH C e (some s2.heap.objs.size))) s2.heap.objs.size=none:=by rw[Qa ne];exact hn
 refine⟨σ,_,?_,q _ hn⟩;have sw:upd (upd H2 s2.heap.objs.size (.xd [("line",.int n)])) e (.ext (yH C e (some s2.heap.objs.size)))=upd (upd H2 e (.ext (yH C e (some s2.heap.objs.size)))) s2.heap.objs.size (.xd [("line",.int n)]):=by
  funext b;by_cases z:b=e
  ·rw[z,qb,Qa (Ne.symm ne),qb]
  ·rw[Qa z];by_cases z2:b=s2.heap.objs.size
   ·rw[z2,qb,qb]
   ·rw[Qa z2,Qa z2,Qa z]
 rw[sw];refine QR I3 hn3 (Yx I2 hX (um (wb _)) hn) ⟨_,nx,λf=>?_⟩;by_cases z:f="line"
 ·rw[if_pos z,z];exact r
 ·rw[if_neg z,Va,show(f==("line":Str))=false by simpa using z];trivial
end
noncomputable def Yb6(c0:Str)(a b:Str)(st:Stmt):Prop:=∃ k1 k2 p0 p1 p2 p3 p4 p5 p6 p7 p8 p9 pa pb pc pd,(p1.endLine==p8.line)=true/\yg st=[.Expr (.Call (.Attribute (.Name c0 p0) "__init__" p1) [.Name "self" p2,.JoinedStr [.Constant (.str a) k1 p3,.FormattedValue (.Name "line" p4) (-1) none p5,.Constant (.str b) k2 p6] p7] [] p8) p9,.Assign [.Attribute (.Name "self" pa) "line" pb] (.Name "line" pc) pd]
noncomputable def spI(K:PySem.W.Frag):Sp:=λvs H Q _=>∃ e C n,vs=[.ref e,.int n]/\n.natAbs<1000000/\H e=some (.ext (yH C e none))/\XS K C/\∀ dx,H dx=none->Q .non (upd (upd H dx (.xd [("line",.int n)])) e (.ext (yH C e (some dx))))
noncomputable abbrev zbE(c0:Str):Scope:={kind:=.function,names:=[("self",.local),("line",.local),(c0,.globalImplicit)],isGenerator:=false,isCoroutine:=false,more:=[]}
theorem zcf{P:Program}{w:World}{K:PySem.W.Frag}{mg:Str->Option Value}{base:Heap}{k:Nat}{f B:Addr}{name qual a b:Str}{params:Arguments}{st:Stmt}{dV kV doc pm cdv ct oc:Value}{an od:Option Addr}{osl:Array (Option Value)}
  (lk:K.lookup f=some ⟨oc,od,.func (vg name qual params (yg st) (Zc st) dV kV doc pm an cdv ct),osl⟩) (hcd:Uk K cdv qual=true) (hs:Zc st=zbE "DotError") (hb:Yb6 "DotError" a b st) (la:a.length<=1000) (lb:b.length<=1000) (Z:XB K B) (hm:mg "DotError"=some (.ref B)) :
  FnOk P w K mg base (CX1 P w) (k+1) f (vg name qual params (yg st) (Zc st) dV kV doc pm an cdv ct) ["self","line"] (spI K):=by
 obtain⟨k1,k2,p0,p1,p2,p3,p4,p5,p6,p7,p8,p9,pa,pb,pc,pd,hl,hb⟩:=hb;rw[hb,hs] at lk ⊢;refine qbd (N:=["self","line"]) lk hcd ⟨rfl,rfl,rfl,by decide,rfl,by decide,by decide⟩ (λvs H Q E ⟨_,_,_,e,_⟩=>by rw[e];rfl) λA outer s H vs Q E hr hsp=>?_;obtain⟨e,C,n,rfl,hn,he,X,q⟩:=hsp;refine⟨_,qaN (Ybc (Yce Z rfl hm (zS (i:=0) rfl (.inl rfl)) (zS (i:=1) rfl (.inl rfl)) la lb (by decide) (by rfl) hl)) (zae (zcr rfl (zS (i:=0) rfl (.inl rfl)) (zS (i:=1) rfl (.inl rfl)))),?_⟩;exact⟨e,C,n,rfl,rfl,hn,he,X.q,e,C,n,rfl,rfl,he,X,q⟩
structure XInit (K:PySem.W.Frag) (mg:Str->Option Value) (C fI:Addr) (fd:FuncData):Prop where
 xs:XS K C
 ini:QI K C=some (some (.ref fI))
 fn:Vv K (.ref fI)=true
 bind:Binds K fd ["self","line"] []
 ok:∀(P:Program)(w:World)(base:Heap),FnOk P w K mg base (CX1 P w) 1 fI fd ["self","line"] (spI K)
section
variable {X:Cx} {e:Expr} {te:TE} {c:Str} {np cpos pos:Pos} {C fI:Addr} {fd:FuncData} {E:XK}
noncomputable def ybS(A:Around)(C:Addr)(E:XK)(te:TE):TS:=λ_ σ H=>te σ H λv H1=>∃ i:Int,v=.int i/\i.natAbs<1000000/\Room 2 A/\∀ D,H1 D=none->E (.ref C) (some D) (upd H1 D (.xd [("line",.int i)]))
theorem Qbg(hc:X.calm=true)(hx:X.ex=[])(T:YaR X E)(Z:XInit X.K X.mg C fI fd)(hg:Gl X c)(hm:X.mg c=some (.ref C))(he:PE X e te)(hd:(c==("__debug__":Str))=false)
  (hs:starEach [e] X.env=(false,eval e X.env)::starEach [] X.env) :
  PS X (.Raise (some (.Call (.Name c np) [e] [] cpos)) none pos) (ybS X.A C E te):=by
 intro pins s σ H D I h;obtain(⟨N,nm,qn,bs,hdct,sn,sub,ab,col,dd,k0,k1,k2,k3,k5,mN,oC,oN,_,ni,TL⟩):=YJ I.ok.mod.kin Z.xs.q;obtain(⟨oI,lI,cI⟩):∃ oI,X.K.lookup fI=some oI/\oI.cls=.type "function":=by
  have z:((X.K.lookup fI).map (·.cls)==some (.type "function"))=true:=Z.fn;cases q:X.K.lookup fI with
  |none=>rw[q] at z;cases z
  |some oI=>rw[q] at z;exact⟨oI,rfl,by simpa using z⟩
 refine qaS (C:=C) (nm:=nm) (q:=qn) (N:=N) (bs:=bs) (bm:=Zm X.K C) (hdct:=hdct) (sn:=sn) (sub:=sub) (ab:=ab) (col:=col) (dd:=dd) (k0:=k0) (k1:=k1) (k2:=k2) (k3:=k3) (k5:=k5) (mN:=mN) (fI:=fI) (oI:=oI)
  PySem.F.excBase_ValueError (TL.hasType (by decide)) (I.ok.hd hc) (by rw[hs];rfl) (ni _ Z.ini) cI (Qu I hg hm ⟨rfl,?_⟩ hd)
 have ha:PA X [e] (ybc te tNil):=qj he zy hs;have hw:=ha cpos pins s σ H (λvs H1=>match vs with | [v]=>(∃ i:Int,v=.int i/\i.natAbs<1000000/\Room 2 X.A/\∀ D,H1 D=none->E (.ref C) (some D) (upd H1 D (.xd [("line",.int i)])))|_=>False) I h;rw[hs] at hw ⊢;refine Calls.evalArgs_plain (wpAny_mono hw (λus s2 ⟨vs,H2,I2,r,q2⟩=>?_) λ_ _ y=>y);cases r with
 |nil=>exact q2.elim
 |cons r rr =>
  cases rr with
  |cons _ _=>exact q2.elim
  |nil =>
  obtain(⟨i,ev,hi,hr,q2⟩):=q2;subst ev;obtain(⟨ti,rfl⟩):=r;refine⟨rfl,by show 1<=sizeLine;decide,I2.bk _ _ oC,oN.keeps I2.bk,TL.keeps I2.bk,I2.kIn _ _ lI,λh' x hm'=>?_⟩;obtain(⟨t,e1,e2,e3⟩):=hm'.there;have I3:Inv X pins σ H2 {s2 with heap:=h'}:=I2.kept (t':=s2.toks) hm'.keeps;have nx:H2 x=none:=by
   cases z:H2 x with
   |none=>rfl
   |some o =>
    obtain(⟨o',e'⟩):=qaH I2.hok z;rw[hm'.new] at e';cases e'
  have fx:=Yx (H':=H2) I2 hx hm'.new nx;have I4:Inv X pins σ (upd H2 x (.ext (yH C x none))) {s2 with heap:=h'}:=QR I3 nx fx (zaG e1);have bd:=Z.bind {s2 with heap:=h'} [.ref x,.int i ti] I4.kIn rfl;refine wpAny_call (codeAny_mono ((Z.ok X.prog X.w X.base).run _ X.stack _ _ ⟨[.ref x,.int i ti],[]⟩ [.ref x,.int i ti] [.ref x,.int i] (λv H5=>v=.non/\∃ D,upd H2 x (.ext (yH C x none)) D=none/\H5=upd (upd (upd H2 x (.ext (yH C x none))) D (.xd [("line",.int i)])) x (.ext (yH C x (some D)))) E0 (hr.make C [.int i ti] []) (I4.env0.make C [.int i ti] []) bd (.cons rfl (.cons ⟨_,rfl⟩ .nil)) ⟨x,C,i,rfl,hi,qb,Z.xs,λD hD=>⟨rfl,D,hD,rfl⟩⟩) λr s3 hq=>?_);cases r with
  |error e'=>obtain(⟨_,_,_,_,_,_,_,_,_,_,_,_,_,_,_,_,q⟩):=hq;exact q.elim
  |ok fl =>
   cases fl with
   |ret u =>
    obtain(⟨v,H5,I5,ru,rfl,D,hD,rfl⟩):=I4.after hq;obtain rfl:u=.none:=ru;have ne:D≠x:=λz=>by rw[z,qb] at hD;cases hD
    have hD':H2 D=none:=by rw[Qa ne] at hD;exact hD
    obtain(⟨⟨t',g'⟩,_⟩):=I5.hok x _ qb;have sw:upd (upd (upd H2 x (.ext (yH C x none))) D (.xd [("line",.int i)])) x (.ext (yH C x (some D)))=upd (upd H2 D (.xd [("line",.int i)])) x (.ext (yH C x (some D))):=by
     funext b;by_cases z:b=x
     ·rw[z,qb,qb]
     ·rw[Qa z,Qa z];by_cases z2:b=D
      ·rw[z2,qb,qb]
      ·rw[Qa z2,Qa z2,Qa z]
    rw[sw] at I5;have n6:upd H2 D (.xd [("line",.int i)]) x=none:=by rw[Qa (Ne.symm ne)];exact nx
    have I6:=zaL I5 n6;exact⟨rfl,t',some D,I6.bk _ _ oC,g',T pins σ _ s3 x C t' .none (some D) I6 g' .no ⟨n6,fx.loc,fx.fs,fx.new,fx.cell,fx.pin⟩ (λ_ z=>nomatch z) (q2 D hD')⟩
   |next=>exact False.elim hq
   |brk=>exact False.elim hq
   |cont=>exact False.elim hq
end
structure XL (K:PySem.W.Frag) (C:Addr):Prop where
 z:ExcK K C
 na:wc K (.ref C) "line"=some none
 hd:xl K C=true
theorem qbT{K:PySem.W.Frag}{C x t D:Addr}{tb:Value}{o:Obj}{v:Value}{name:Str}{b:Bool}(Z:ExcK K C)(hd:xl K C=true)(ha:wc K (.ref C) name=some none)(hl:wu name o=some (some v))(hh:handedOut v=pure v)
  {prog:Program} {w:World} {A:Around} {E:Value->Shared->Prop} {Q:Value->Shared->Prop} {s:Shared} (X:K.In s.heap) (e:s.heap.get? x=some (yh C t tb (some D))) (eD:s.heap.get? D=some o) (k:Q v {s with toks:=s.toks+1}) :
  wpAny (model prog w) A (getAttr (.ref x) name b) Q E s:=by
 have I:PySem.W.InstAt s.heap x (yh C t tb (some D)) C (some o):=⟨e,rfl,rfl,eD⟩;obtain⟨hp,g,d,tk,os⟩:=s;have L0:=I.type (M:=model prog w);have L1:=Xj (M:=model prog w) X Z.ga;have L2:=Xj (M:=model prog w) X Z.gt;have L3:=Vy (M:=model prog w) X I (wy hd ha rfl hl);have nb:(onTheHeap (Value.ref C)&&Value.builtin "BaseException.__getattribute__" == Value.builtin "object.__getattribute__")=false:=by
  rw[show(Value.builtin "BaseException.__getattribute__" == Value.builtin "object.__getattribute__")=false from by decide +kernel];rfl
 unfold getAttr getAttrBy;refine wpAny_bind (wpAny_mkText (wpAny_holding (wpAny_bind (L0.at (wpAny_bind (L1.at ?_))))));show wpAny _ _ (if(onTheHeap (Value.ref C)&&Value.builtin "BaseException.__getattribute__" == Value.builtin "object.__getattribute__")=true then _ else _) _ _ _;rw[if_neg (by rw[nb];exact Wh)];unfold getAttrByItsOwn hookBefore;rw[if_pos (show onTheHeap (Value.ref C)=true from rfl)];refine wpAny_bind (L2.at (wpAny_bind (wpAny_attempt (wpAny_holding ?_))));unfold callGetattribute;rw[show(b&&onTheHeap (Value.builtin "BaseException.__getattribute__"))=false from Bool.and_false _,if_neg (by decide)];unfold boundAndCalled;rw[Qav];refine wpAny_bind (wpAny_pure (wpAny_call (codeAny_call_builtin PySem.F.attrBase_ValueError.ga.plain PySem.F.entry_bexc_ga ?_)));refine Zau Z.q X e ?_;show wpAny _ _ (typeOf (.ref x) >>= _) _ _ _;refine wpAny_bind (L0.at (wpAny_bind (L3.at ?_)));refine wpAny_pure ?_;show wpAny _ _ (handedOut v) _ _ _;rw[hh];exact wpAny_pure k
section
variable {X:Cx} {e:Expr} {ta:TE} {pos:Pos}
noncomputable def tLine(K:PySem.W.Frag)(ta:TE):TE:=λσ H Q=>ta σ H λv H1=>∃ x C D i,v=.ref x/\H1 x=some (.ext (Ya4 C x (some D)))/\H1 D=some (.xd [("line",.int i)])/\XL K C/\Q (.int i) H1
theorem QbS(he:PE X e ta)(hb:attributeBase e "line" X.env (eval e X.env)=eval e X.env):PE X (.Attribute e "line" pos) (tLine X.K ta):=by
 intro pins s σ H Q I h;refine qba hb (thn (he pins s σ H _ I h) λu s1 ⟨v,H1,I1,rv,x,C,D,i,ev,hx,hD,Z,q⟩=>?_);subst ev;obtain rfl:u=Value.ref x:=rv;obtain⟨⟨t,T,g⟩,_⟩:=I1.hok x _ hx;obtain⟨mA,n1,rl⟩:=I1.hok D _ hD;obtain⟨o,ho,hl⟩:=qat n1;have r:=rl "line";rw[List.lookup_cons_self] at r;obtain⟨w,hw,rw'⟩:=RelO.some_of r;have rw2:=rw';obtain⟨ti,rfl⟩:=rw';exact qbT Z.z Z.hd Z.na (by rw[hl,hw]) rfl I1.kIn g ho ⟨.int i,H1,I1.tok _,rw2,q⟩
end
end L3
end
section
namespace MP
open PySem
inductive FV where
 |non|bl (b:Bool)|int (i:Int)|str (s:Str)
 |tup (xs:List FV)|lst (xs:List FV)|obj (c:String) (ns:List String) (vs:List FV)|scr (ns:List Int)|tab (kvs:List ((Int×Int)×Int))|msk (ks:List (Int×Int))
inductive MV where
 |f (x:FV)|ref (a:Nat)|tup (xs:List MV)|exc (c:String)
inductive Cell where
 |lst (xs:List MV)|obj (c:String) (fs:List (String×MV))|dic (ks:List Int)|tab (kvs:List ((Int×Int)×Int))|msk (ks:List (Int×Int))|code|dead
noncomputable abbrev MH:=List Cell
noncomputable abbrev MSt:=List (Option MV)
inductive R (α:Type) where
 |ok (x:α) (h:MH)|exc (c:String) (h:MH)|stuck
noncomputable abbrev RD{γ δ:Sort _}(_k:γ->δ)(τ:Type):Type:=τ
namespace R
noncomputable def bind{α β:Type}(r:R α)(k:α->MH->R β):RD k (R β):=match r with
 |.ok x h=>k x h
 |.exc c h=>.exc c h
 |.stuck=>.stuck
variable {α β:Type}
@[simp] theorem bind_ok{x:α}{h:MH}{k:α->MH->R β}:(R.ok x h).bind k=k x h:=id rfl
@[simp] theorem bind_exc{c:String}{h:MH}{k:α->MH->R β}:(R.exc c h:R α).bind k=.exc c h:=id rfl
@[simp] theorem bind_stuck{k:α->MH->R β}:(R.stuck:R α).bind k=.stuck:=id rfl
end R
noncomputable def opt{α β:Type}(o:Option α)(k:α->R β):RD k (R β):=match o with
 |some x=>k x
 |none=>.stuck
@[simp] theorem Yb{α β:Type}{x:α}{k:α->R β}:opt (some x) k=k x:=id rfl
@[simp] theorem opt_none{α β:Type}{k:α->R β}:opt none k=.stuck:=id rfl
noncomputable def zq:MV->Bool
 |.f .non=>true
 |_=>false
noncomputable def Yh:List MV->Option (List FV)
 |[]=>some []
 |.f x::r=>(Yh r).map (x::·)
 |_::_=>none
noncomputable def zg(xs:List MV):MV:=match Yh xs with
 |some ys=>.f (.tup ys)
 |none=>.tup xs
noncomputable def Zk(fz:Bool)(xs:List MV)(h:MH):R MV:=match fz with
 |true=>opt (Yh xs) λys=>.ok (.f (.lst ys)) h
 |false=>.ok (.ref h.length) (h++[.lst xs])
noncomputable def Ye(h:MH)(a:Nat):Option (List MV):=match h[a]? with
 |some (.lst xs)=>some xs
 |_=>none
noncomputable def Zb(h:MH):MV->Option (List MV)
 |.f (.tup xs)=>some (xs.map .f)
 |.f (.lst xs)=>some (xs.map .f)
 |.f (.scr ns)=>some (ns.map λi=>.f (.int i))
 |.tup xs=>some xs
 |.ref a=>Ye h a
 |_=>none
noncomputable def listOf(h:MH):MV->Option (List MV)
 |.f (.lst xs)=>some (xs.map .f)
 |.ref a=>Ye h a
 |_=>none
noncomputable def Qj:MV->Option (List MV)
 |.f (.tup xs)=>some (xs.map .f)
 |.tup xs=>some xs
 |_=>none
noncomputable def qc:MV->Option Int
 |.f (.int i)=>some i
 |_=>none
noncomputable def zA:MV->Option Bool
 |.f (.bl b)=>some b
 |_=>none
@[simp] noncomputable def Yf:List MV->Option (List Int)
 |[]=>some []
 |.f (.int i)::r=>(Yf r).map (i::·)
 |_::_=>none
@[simp] noncomputable def Yk:List MV->Option (List Bool)
 |[]=>some []
 |.f (.bl i)::r=>(Yk r).map (i::·)
 |_::_=>none
noncomputable def qk(h:MH):Nat->MV->Option FV
 |0,_=>none
 |_+1,.f x=>some x
 |n+1,.tup xs=>(xs.mapM (qk h n)).map .tup
 |n+1,.ref a=>(Ye h a).bind λxs=>(xs.mapM (qk h n)).map .lst
 |_+1,.exc _=>none
noncomputable def ZM(h:MH)(v:MV):Option FV:=qk h 5 v
noncomputable def Ql(h:MH):Nat->MV->List Nat
 |0,_=>[]
 |_+1,.f _=>[]
 |n+1,.tup xs=>xs.flatMap (Ql h n)
 |n+1,.ref a=>a::((Ye h a).getD []).flatMap (Ql h n)
 |_+1,.exc _=>[]
noncomputable def kill(as:List Nat)(h:MH):MH:=h.mapIdx λi c=>if i∈as then .dead else c
noncomputable def QD(v:MV)(h:MH):R MV:=opt (ZM h v) λx=>.ok (.f x) (kill (Ql h 5 v) h)
noncomputable def sOk(x:Str):Bool:=x.cps.all (· < 0x110000)
noncomputable def isD:Nat->FV->Bool
 |_+1,.non=>true
 |_+1,.bl _=>true
 |_+1,.int _=>true
 |_+1,.str s=>sOk s
 |n+1,.tup xs=>xs.all (isD n)
 |n+1,.lst xs=>xs.all (isD n)
 |_,_=>false
mutual
noncomputable def eqD:FV->FV->Bool
 |.non,.non=>true
 |.bl a,.bl b=>a==b
 |.bl a,.int j=>(if a then 1 else 0)==j
 |.int i,.bl b=>i==(if b then 1 else 0)
 |.int a,.int b=>a==b
 |.str a,.str b=>a==b
 |.tup xs,.tup ys=>Zac xs ys
 |.lst xs,.lst ys=>Zac xs ys
 |_,_=>false
noncomputable def Zac:List FV->List FV->Bool
 |[],[]=>true
 |x::xs,y::ys=>eqD x y&&Zac xs ys
 |_,_=>false
end
noncomputable def eqF(x y:FV):Option Bool:=if isD 8 x=true/\isD 8 y=true then some (eqD x y) else none
noncomputable def inF(x:FV)(ys:List FV):Option Bool:=if isD 8 x=true/\ys.all (isD 8)=true then some (ys.any λy=>eqD y x) else none
noncomputable def xn(c:String)(i:Nat):String:=String.ofList (c.toList++'.'::Wd i '.')
noncomputable def xcl(c:String):String:=String.ofList (c.toList.takeWhile (· != '.'))
noncomputable def Yn(c:String):Option Int:=match c.toList.dropWhile (· != '.') with
 |[]=>none
 |_::r=>some r.length
theorem zbw:∀{l r:List Char},l.contains '.'=false->(l++'.'::r).takeWhile (· != '.')=l/\(l++'.'::r).dropWhile (· != '.')='.'::r
 |[],r,_=>by simp
 |a::l,r,h=>by
  simp only[wm,Bool.or_eq_false_iff] at h;have ha:(a != '.')=true:=by
   have:=h.1;simp only[beq_eq_false_iff_ne,ne_eq] at this;simpa usingλz=>this z.symm
  obtain⟨h1,h2⟩:=zbw (r:=r) h.2;exact⟨by rw[ui,List.takeWhile_cons,ha,if_pos rfl,h1],by rw[ui,List.dropWhile_cons,ha,if_pos rfl,h2]⟩
theorem ZbK{c:String}{i:Nat}(h:c.toList.contains '.'=false):xcl (xn c i)=c:=by
 unfold xcl xn;rw[String.toList_ofList,(zbw h).1,String.ofList_toList]
theorem qbc{c:String}{i:Nat}(h:c.toList.contains '.'=false):Yn (xn c i)=some i:=by
 unfold Yn xn;rw[String.toList_ofList,(zbw h).2];simp
theorem QX{c:String}(h:Yn c=none):xcl c=c:=by
 unfold Yn at h;unfold xcl;cases e:c.toList.dropWhile (· != '.') with
 |nil =>
  have z:=List.takeWhile_append_dropWhile (p:=(· != '.')) (l:=c.toList);rw[e,wo] at z;rw[z,String.ofList_toList]
 |cons a r=>rw[e] at h;cases h
inductive BO where
 |add|sub|mul|fdiv|mod|pow
inductive CO where
 |lt|le|gt|ge|eq|ne|inn|nin
noncomputable def big:Nat:=2^4096
noncomputable def Zaa(i j:Int):Prop:=i.natAbs<2^64\/j.natAbs<2^64\/(i.natAbs<big/\j.natAbs<big)
noncomputable def ZbI(i j:Int):Prop:=0<j/\(j<1073741824\/j.natAbs<big)
open Classical in
noncomputable def YA:BO->Int->Int->Option Int
 |.add,i,j=>some (i+j)
 |.sub,i,j=>some (i-j)
 |.mul,i,j=>if Zaa i j then some (i*j) else none
 |.fdiv,i,j=>if ZbI i j then some (i/j) else none
 |.mod,i,j=>if 0<j then some (i%j) else none
 |.pow,i,j=>if 0<=j/\j<=1000000/\i.natAbs<2^64 then some (i^j.toNat) else none
noncomputable def sizeL:Nat:=4194304
open Classical in
noncomputable def Qe(fz:Bool)(op:BO)(x y:MV)(h:MH):R MV:=match qc x,qc y with
 |some i,some j=>opt (YA op i j) λk=>.ok (.f (.int k)) h
 |none,some j=>match op with
  |.mul=>opt (listOf h x) λxs=>if -(2^63)<=j/\j<2^63/\xs.length*j.toNat<=sizeL then Zk fz (Wd j.toNat xs).flatten h else .stuck
  |_=>.stuck
 |none,none=>match op with
  |.add=>match Qj x,Qj y with
   |some xs,some ys=>if xs≠[]/\xs.length+ys.length<=sizeL then .ok (zg (xs++ys)) h else .stuck
   |_,_=>opt (listOf h x) λxs=>opt (listOf h y) λys=>if xs.length+ys.length<=sizeL then Zk fz (xs++ys) h else .stuck
  |_=>.stuck
 |_,_=>.stuck
noncomputable def zT:CO->Int->Int->Option Bool
 |.lt,i,j=>some (decide (i<j))
 |.le,i,j=>some (decide (i<=j))
 |.gt,i,j=>some (decide (j<i))
 |.ge,i,j=>some (decide (j<=i))
 |_,_,_=>none
noncomputable def ZT(op:CO)(x y:MV)(h:MH):Option Bool:=match op with
 |.eq=>(ZM h x).bind λa=>(ZM h y).bind λb=>eqF a b
 |.ne=>(ZM h x).bind λa=>(ZM h y).bind λb=>(eqF a b).map (!·)
 |.inn=>(ZM h x).bind λa=>(Zb h y).bind λys=>(ys.mapM (ZM h)).bind λbs=>inF a bs
 |.nin=>(ZM h x).bind λa=>(Zb h y).bind λys=>(ys.mapM (ZM h)).bind λbs=>(inF a bs).map (!·)
 |op=>(qc x).bind λi=>(qc y).bind λj=>zT op i j
noncomputable def ixM(n:Nat)(i:Int):Option Nat:=if 0<=i then(if i<n then some i.toNat else none) else if -(n:Int)<=i then some (i+n).toNat else none
noncomputable def atM(xs:List MV)(i:Int):Option MV:=(ixM xs.length i).bind λj=>xs[j]?
noncomputable def Yao(n d:Nat):Option Int->Nat
 |none=>d
 |some i=>if i<0 then(i+(n:Int)).toNat else min i.toNat n
noncomputable def yar(xs:List MV)(lo hi:Option Int):List MV:=(xs.drop (Yao xs.length 0 lo)).take (Yao xs.length xs.length hi-Yao xs.length 0 lo)
noncomputable def qo(fz:Bool)(x:MV)(lo hi:Option Int)(h:MH):R MV:=match Qj x with
 |some xs=>.ok (zg (yar xs lo hi)) h
 |none=>opt (Zb h x) λxs=>Zk fz (yar xs lo hi) h
noncomputable def qaq(n:String)(v:MV):List (String×MV)->List (String×MV)
 |[]=>[(n,v)]
 |(k,x)::r=>if k=n then(k,v)::r else(k,x)::qaq n v r
inductive T1 where
 |str|int|len|setl
inductive T2 where
 |join|split (fz:Bool)|at|inn|cat|rep
inductive Tg where
 |nm (i:Nat)|tp (ts:List Tg)
inductive ME where
 |var (i:Nat)|cI (i:Int)|cB (b:Bool)|cN|cS (s:Str)
 |glob (x:String)
 |bin (fz:Bool) (op:BO) (a b:ME)|neg (a:ME)
 |cmp (op:CO) (a b:ME)
 |isN (a:ME)|notN (a:ME)
 |and (es:List ME)|or (es:List ME)|not (a:ME)|ite (c a b:ME)
 |tup (es:List ME)|lst (fz:Bool) (es:List ME)
 |sub (a i:ME)|slice (fz:Bool) (a:ME) (lo hi:Option ME)
 |fld (a:ME) (n:String)
 |call (f:String) (es:List ME)|make (fz:Bool) (c:String) (es:List ME)|meth (o:ME) (m:String) (es:List ME)
 |blt (fz:Bool) (n:String) (es:List ME)
 |isI (a:ME) (t:String)
 |isX (a:ME) (t:String)
 |lineX (a:ME)
 |nearK (a b:ME)
 |tx1 (o:T1) (a:ME)|tx2 (o:T2) (a b:ME)
 |lm (m:String) (o:ME) (es:List ME)
 |comp (fz:Bool) (elt:ME) (tg:Tg) (it:String) (src:List ME) (cond:Option ME) (ncv:Nat) (js:List Nat)
 |frz (e:ME)
inductive MS where
 |set (tg:Tg) (e:ME)
 |setSub (o i e:ME)
 |setFld (o:ME) (n:String) (e:ME)
 |par (i j:Nat) (a b:ME)
 |expr (e:ME)
 |ret (e:ME)|retN
 |ite (c:ME) (a b:List MS)
 |for_ (tg:Tg) (it:String) (src:List ME) (body:List MS)
 |while_ (c:ME) (body:List MS)
 |raise (c:String) (es:List ME)
 |raiseX (c:String) (e:ME)
 |tryT (body:List MS) (ei dst:Nat) (tag:Str)
 |pass|boom
 |frzS (i:Nat)
structure MDef where
 np:Nat
 ns:Nat
 body:List MS
structure Prog where
 defs:String->Option MDef
 globs:String->Option FV
 meths:String->String->Option String
 subs:String->String->Option Bool
 fok:String->String->Bool
 excs:String->Bool
 exci:String->Option String:=λ_=>none
 word:String->String->Option Str
 words:String->Bool
 xsubs:String->String->Option Bool:=λ_ _=>none
 xcls:String->Bool:=λ_=>false
 xt:Bool:=false
 dfl:String->List Int->Bool:=λ_ _=>false
 mk0:String->Bool:=λ_=>false
 turns:Nat
@[simp] noncomputable def qak(n:String):List String->List FV->Option FV
 |m::ns,v::vs=>if n=m then some v else qak n ns vs
 |_,_=>none
noncomputable def Qbu(ok:String->String->Bool)(n:String)(v:MV)(h:MH):Option MV:=match v with
 |.f (.obj c ns vs)=>if ok c n=true then(qak n ns vs).map .f else none
 |.ref a=>match h[a]? with
  |some (.obj c fs)=>if ok c n=true then fs.lookup n else none
  |_=>none
 |_=>none
noncomputable def clsM(m:String)(v:MV)(h:MH):Option String:=match v with
 |.f (.obj c ns _)=>if m∈ns then none else some c
 |.ref a=>match h[a]? with
  |some (.obj c fs)=>if m∈fs.map xq then none else some c
  |_=>none
 |_=>none
noncomputable def QaN:MV->Option String
 |.exc c=>some c
 |_=>none
@[simp] theorem Qcw(c:String):QaN (.exc c)=some c:=rfl
noncomputable def yP(sub:String->String->Option Bool)(h:MH)(v:MV)(t:String):Option Bool:=match v with
 |.f .non=>some false
 |.f (.bl _)=>some (decide (t="bool")||decide (t="int"))
 |.f (.int _)=>some (decide (t="int"))
 |.f (.str _)=>some (decide (t="str"))
 |.f (.tup _)=>some (decide (t="tuple"))
 |.f (.tab _)=>none
 |.f (.msk _)=>none
 |.f (.lst _)=>some (decide (t="list"))
 |.f (.obj c _ _)=>sub c t
 |.f (.scr _)=>none
 |.tup _=>some (decide (t="tuple"))
 |.ref a=>match h[a]? with
  |some (.lst _)=>some (decide (t="list"))
  |some (.obj c _)=>sub c t
  |_=>none
 |.exc _=>none
noncomputable def lmC(x:MV)(h:MH):Option (List MV):=match x with
 |.ref a=>Ye h a
 |_=>none
noncomputable def insertAt(xs:List MV)(i:Int)(y:MV):List MV:=let k:=Yao xs.length 0 (some i);xs.take k++y::xs.drop k
noncomputable def yf(h:MH)(a:Nat)(xs:List MV):MH:=h.set a (.lst xs)
open Classical in
noncomputable def lmV(m:String)(o:MV)(as:List MV)(h:MH):R MV:=match o with
 |.ref a=>opt (Ye h a) λxs=>match m,as with
  |"append",[y]=>if xs.length<sizeL then .ok (.f .non) (yf h a (xs++[y])) else .stuck
  |"extend",[z]=>opt (listOf h z) λys=>if xs.length+ys.length<=sizeL then .ok (.f .non) (yf h a (xs++ys)) else .stuck
  |"insert",[u,y]=>opt (qc u) λi=>if xs.length<sizeL/\-(2^63)<=i/\i<2^63 then .ok (.f .non) (yf h a (insertAt xs i y)) else .stuck
  |"reverse",[]=>.ok (.f .non) (yf h a xs.reverse)
  |"clear",[]=>.ok (.f .non) (yf h a [])
  |"pop",[]=>opt (xs[xs.length-1]?) λy=>.ok y (yf h a (xs.take (xs.length-1)))
  |"pop",[u]=>opt (qc u) λi=>opt (ixM xs.length i) λk=>opt (xs[k]?) λy=>if -(2^63)<=i/\i<2^63 then .ok y (yf h a (xs.take k++xs.drop (k+1))) else .stuck
  |_,_=>.stuck
 |_=>.stuck
noncomputable def Zap:Int->List Int->Int
 |m,[]=>m
 |m,x::r=>Zap (if x<m then x else m) r
noncomputable def Qan:Int->List Int->Int
 |m,[]=>m
 |m,x::r=>Qan (if x>m then x else m) r
noncomputable def yj(fz:Bool)(n:String)(as:List MV)(h:MH):R MV:=match n,as with
 |"len",[v]=>opt (Zb h v) λxs=>.ok (.f (.int xs.length)) h
 |"sum",[v]=>opt ((Zb h v).bind Yf) λxs=>.ok (.f (.int xs.sum)) h
 |"all",[v]=>opt ((Zb h v).bind Yk) λxs=>.ok (.f (.bl (xs.all id))) h
 |"min",[v]=>opt ((Zb h v).bind Yf) λxs=>match xs with | []=>.stuck|x::r=>.ok (.f (.int (Zap x r))) h
 |"max",[v]=>opt ((Zb h v).bind Yf) λxs=>match xs with | []=>.stuck|x::r=>.ok (.f (.int (Qan x r))) h
 |"min",[u,v]=>opt (qc u) λi=>opt (qc v) λj=>.ok (.f (.int (if j<i then j else i))) h
 |"max",[u,v]=>opt (qc u) λi=>opt (qc v) λj=>.ok (.f (.int (if j>i then j else i))) h
 |"abs",[v]=>opt (qc v) λi=>.ok (.f (.int (if i<0 then -i else i))) h
 |"int",[v]=>match zA v with
  |some b=>.ok (.f (.int (if b then 1 else 0))) h
  |none=>opt (qc v) λi=>.ok (.f (.int i)) h
 |"tuple",[v]=>opt (Zb h v) λxs=>.ok (zg xs) h
 |"list",[v]=>opt (Zb h v) λxs=>Zk fz xs h
 |"divmod",[u,v]=>opt (qc u) λi=>opt (qc v) λj=>if 0<j/\j<1073741824 then .ok (.f (.tup [.int (i/j),.int (i%j)])) h else .stuck
 |_,_=>.stuck
noncomputable def cellT(h:MH)(v:MV):Option (List ((Int×Int)×Int)):=match v with
 |.ref a=>match h[a]? with
  |some (.tab kvs)=>some kvs
  |_=>none
 |.f (.tab kvs)=>some kvs
 |_=>none
noncomputable def Zay(v:MV):Option (Int×Int):=match Qj v with
 |some [.f (.int a),.f (.int b)]=>some (a,b)
 |_=>none
noncomputable def YbL(k:Int×Int):Bool:=decide ((0<=k.1/\k.1<64)/\0<=k.2/\k.2<64)
noncomputable def yc:MV->Option Str
 |.f (.str s)=>some s
 |_=>none
noncomputable def yaD(o:T1)(x:MV)(h:MH):R MV:=match o with
 |.str=>opt (qc x) λi=>if i.natAbs<2^256 then .ok (.f (.str (Str.ofString (toString i)))) h else .stuck
 |.int=>opt (yc x) λz=>opt (PySem.intText? z) λn=>if z.length<=640 then .ok (.f (.int n)) h else .stuck
 |.len=>opt (yc x) λz=>if z.length<=sizeL then .ok (.f (.int z.length)) h else .stuck
 |.setl=>opt (listOf h x) λxs=>opt (xs.mapM Zay) λks=>if ks.all YbL=true/\layP ks=true/\ks.length<1000000 then .ok (.f (.int ks.length)) h else .stuck
noncomputable def t2g(o:T2)(x:MV)(h:MH):Option Str:=match o with
 |_=>yc x
@[simp] theorem t2g_join{x:MV}{h:MH}:t2g .join x h=yc x:=rfl
@[simp] theorem qcw{fz:Bool}{x:MV}{h:MH}:t2g (.split fz) x h=yc x:=rfl
@[simp] theorem t2g_at{x:MV}{h:MH}:t2g .at x h=yc x:=rfl
@[simp] theorem t2g_inn{x:MV}{h:MH}:t2g .inn x h=yc x:=rfl
@[simp] theorem t2g_cat{x:MV}{h:MH}:t2g .cat x h=yc x:=rfl
@[simp] theorem t2g_rep{x:MV}{h:MH}:t2g .rep x h=yc x:=rfl
noncomputable def Zi(o:T2)(x y:MV)(h:MH):R MV:=match o with
 |.join=>opt (yc x) λsep=>opt (listOf h y) λxs=>opt (xs.mapM yc) λts=>if(ts.map (·.length)).sum+ts.length*sep.length<=16777216 then .ok (.f (.str (Txt.join sep ts))) h else .stuck
 |.split fz=>opt (yc x) λz=>opt (yc y) λsep=>if(sep.length==0)=false/\z.length+2<=sizeL then Zk fz ((Txt.split z sep).map λt=>.f (.str t)) h else .stuck
 |.at=>opt (yc x) λz=>opt (qc y) λi=>opt (if z.length<=sizeL/\0<=i then z.cps.toList[i.toNat]? else none) λc=>.ok (.f (.str ⟨#[c]⟩)) h
 |.inn=>opt (yc x) λi=>opt (yc y) λj=>.ok (.f (.bl (!(Builtin.Str.occurrences j i 0 j.length 1).isEmpty))) h
 |.cat=>opt (yc x) λi=>opt (yc y) λj=>if i.length+j.length<=sizeL then .ok (.f (.str (i++j))) h else .stuck
 |.rep=>opt (yc x) λi=>opt (qc y) λn=>if 0<=n/\n<=4096/\i.length<=4096 then .ok (.f (.str (Txt.mul i n))) h else .stuck
noncomputable def bestI(w:Int)(n:Int)(r:List Int):Int:=r.foldl (λb k=>if(if w-k<0 then -(w-k) else w-k)<(if w-b<0 then -(w-b) else w-b) then k else b) n
noncomputable def nearV(x y:MV)(h:MH):R MV:=opt (qc x) λw=>opt (Zb h y) λvs=>opt (Yf vs) λns=>match ns with
 |n::r=>match (h[0]?:Option Cell) with
  |some .code=>.ok (.f (.int (bestI w n r))) h
  |_=>.stuck
 |[]=>.stuck
mutual
@[simp] noncomputable def Yq:Tg->MV->MSt->Option MSt
 |.nm i,v,σ=>some (σ.set i (some v))
 |.tp ts,v,σ=>(Qj v).bind λvs=>Yy ts vs σ
@[simp] noncomputable def Yy:List Tg->List MV->MSt->Option MSt
 |[],[],σ=>some σ
 |t::ts,v::vs,σ=>(Yq t v σ).bind λσ'=>Yy ts vs σ'
 |_,_,_=>none
end
noncomputable abbrev zz:=List (Nat×List MV)
noncomputable def GuardOk(g:zz)(h:MH):Prop:=∀ p∈g,Ye h p.1=some p.2
noncomputable def qe(h:MH):MV->zz
 |.ref a=>match Ye h a with
  |some xs=>[(a,xs)]
  |none=>[]
 |_=>[]
noncomputable def rlen(lo hi st:Int):Nat:=if lo<hi then((hi-lo-1)/st+1).toNat else 0
noncomputable def itV(it:String)(as:List MV)(h:MH):Option (List MV×zz):=match it,as with
 |"seq",[v]=>(Zb h v).map λxs=>(xs,qe h v)
 |"range",[u]=>(qc u).bind λn=>if -(2^62)<=n/\n<2^62 then some ((Ue n.toNat).map λ(k:Nat)=>.f (.int k),[]) else none
 |"range",[u,v]=>(qc u).bind λa=>(qc v).bind λb=>if -(2^62)<=a/\a<2^62/\-(2^62)<=b/\b<2^62 then some ((Ue (b-a).toNat).map λ(k:Nat)=>.f (.int (a+k)),[]) else none
 |"range",[u,v,w]=>(qc u).bind λa=>(qc v).bind λb=>(qc w).bind λs=>if -(2^30)<=a/\a<2^30/\-(2^30)<=b/\b<2^30/\0<s/\s<2^30 then some ((Ue (rlen a b s)).map λ(k:Nat)=>.f (.int (a+k*s)),[]) else none
 |"zip",[u,v]=>(Zb h u).bind λxs=>(Zb h v).map λys=>((xs.zip ys).map λp=>zg [p.1,p.2],qe h u++qe h v)
 |"keys",[.f (.tab kvs)]=>some (kvs.map λkv=>.f (.tup [.int kv.1.1,.int kv.1.2]),[])
 |"signs",[.f (.str s)]=>some (s.cps.toList.map λc=>.f (.str ⟨#[c]⟩),[])
 |"items",[.f (.tab kvs)]=>some (kvs.map λkv=>.f (.tup [.tup [.int kv.1.1,.int kv.1.2],.int kv.2]),[])
 |"enumerate",[v]=>(Zb h v).map λxs=>(xs.mapIdx λk x=>zg [.f (.int k),x],qe h v)
 |"enum1",[v]=>(Zb h v).map λxs=>(xs.mapIdx λk x=>zg [.f (.int ((k+1:Nat):Int)),x],qe h v)
 |_,_=>none
inductive RS where
 |next (σ:MSt) (h:MH)|ret (v:MV) (h:MH)|brk (σ:MSt) (h:MH)|cnt (σ:MSt) (h:MH)|exc (c:String) (h:MH)|stuck
namespace RS
noncomputable def bind(r:RS)(k:MSt->MH->RS):RD k RS:=match r with
 |.next σ h=>k σ h
 |.ret v h=>.ret v h
 |.brk σ h=>.brk σ h
 |.cnt σ h=>.cnt σ h
 |.exc c h=>.exc c h
 |.stuck=>.stuck
@[simp] theorem bind_next{σ:MSt}{h:MH}{k:MSt->MH->RS}:(RS.next σ h).bind k=k σ h:=id rfl
@[simp] theorem bind_ret{v:MV}{h:MH}{k:MSt->MH->RS}:(RS.ret v h).bind k=.ret v h:=id rfl
@[simp] theorem bind_brk{σ:MSt}{h:MH}{k:MSt->MH->RS}:(RS.brk σ h).bind k=.brk σ h:=id rfl
@[simp] theorem bind_cnt{σ:MSt}{h:MH}{k:MSt->MH->RS}:(RS.cnt σ h).bind k=.cnt σ h:=id rfl
@[simp] theorem bind_exc{c:String}{h:MH}{k:MSt->MH->RS}:(RS.exc c h).bind k=.exc c h:=id rfl
@[simp] theorem bind_stuck{k:MSt->MH->RS}:(RS.stuck).bind k=.stuck:=id rfl
noncomputable def turn(r:RS)(k:MSt->MH->RS):RD k RS:=match r with
 |.next σ h=>k σ h
 |.cnt σ h=>k σ h
 |.brk σ h=>.next σ h
 |.ret v h=>.ret v h
 |.exc c h=>.exc c h
 |.stuck=>.stuck
@[simp] theorem turn_next{σ:MSt}{h:MH}{k:MSt->MH->RS}:(RS.next σ h).turn k=k σ h:=id rfl
@[simp] theorem turn_cnt{σ:MSt}{h:MH}{k:MSt->MH->RS}:(RS.cnt σ h).turn k=k σ h:=id rfl
@[simp] theorem turn_brk{σ:MSt}{h:MH}{k:MSt->MH->RS}:(RS.brk σ h).turn k=.next σ h:=id rfl
@[simp] theorem turn_ret{v:MV}{h:MH}{k:MSt->MH->RS}:(RS.ret v h).turn k=.ret v h:=id rfl
@[simp] theorem turn_exc{c:String}{h:MH}{k:MSt->MH->RS}:(RS.exc c h).turn k=.exc c h:=id rfl
@[simp] theorem yb8{k:MSt->MH->RS}:(RS.stuck).turn k=.stuck:=id rfl
end RS
noncomputable def RS.caught(k:String->MH->RS)(r:RS):RD k RS:=match r with
 |.exc c h=>k c h
 |r=>r
noncomputable def R.st{α:Type}(r:R α)(k:α->MH->RS):RD k RS:=match r with
 |.ok x h=>k x h
 |.exc c h=>.exc c h
 |.stuck=>.stuck
@[simp] theorem R.st_ok{α:Type}{x:α}{h:MH}{k:α->MH->RS}:(R.ok x h).st k=k x h:=id rfl
@[simp] theorem R.st_exc{α:Type}{c:String}{h:MH}{k:α->MH->RS}:(R.exc c h:R α).st k=.exc c h:=id rfl
@[simp] theorem R.st_stuck{α:Type}{k:α->MH->RS}:(R.stuck:R α).st k=.stuck:=id rfl
noncomputable def yt{α:Type}(o:Option α)(k:α->RS):RD k RS:=match o with
 |some x=>k x
 |none=>.stuck
@[simp] theorem yw{α:Type}{x:α}{k:α->RS}:yt (some x) k=k x:=id rfl
@[simp] theorem ycv{α:Type}{k:α->RS}:yt none k=.stuck:=id rfl
open Classical in
noncomputable def Qp(g:zz)(bd:MV->MSt->MH->RS):List MV->MSt->MH->RS
 |[],σ,h=>if GuardOk g h then .next σ h else .stuck
 |x::r,σ,h=>if GuardOk g h then(bd x σ h).turn λσ1 h1=>Qp g bd r σ1 h1 else .stuck
open Classical in
noncomputable def Qi(g:zz)(bd:MV->MSt->MH->R (Option MV×MSt)):List MV->List MV->MSt->MH->R (List MV)
 |[],acc,σ,h=>if GuardOk g h then .ok acc h else .stuck
 |x::r,acc,σ,h=>if GuardOk g h/\acc.length<sizeL then(bd x σ h).bind λp h1=>Qi g bd r (match p.1 with|some y=>acc++[y]|none=>acc) p.2 h1 else .stuck
noncomputable def stM(ncv:Nat)(js:List Nat)(σ:MSt):MSt:=Wd ncv none++js.map λj=>(σ[j]?).join
noncomputable def qbL(c:MSt->MH->R MV)(bd:MSt->MH->RS):Nat->MSt->MH->RS
 |0,_,_=>.stuck
 |n+1,σ,h=>(c σ h).st λv h1=>yt (zA v) λb=>if b=true then(bd σ h1).turn λσ2 h2=>qbL c bd n σ2 h2 else .next σ h1
noncomputable def calm{α:Type}(r:R α):R α:=match r with
 |.ok x h=>.ok x h
 |_=>.stuck
@[simp] theorem calm_ok{α:Type}{x:α}{h:MH}:calm (R.ok x h)=.ok x h:=id rfl
noncomputable def Yl(tg:Tg)(ex:MSt->MH->RS):MV->MSt->MH->RS:=λx σ h=>yt (Yq tg x σ) λσ2=>ex σ2 h
noncomputable def ql(tg:Tg)(tc:MSt->MH->R Bool)(te:MSt->MH->R MV):MV->MSt->MH->R (Option MV×MSt):=λx σ h =>
 opt (Yq tg x σ) λσ2=>(calm (tc σ2 h)).bind λk h2=>if k=true then(calm (te σ2 h2)).bind λy h3=>.ok (some y,σ2) h3 else .ok (none,σ2) h2
noncomputable def FlatC:Cell->Prop
 |.lst xs=>∃ ys:List FV,xs=ys.map MV.f
 |.obj _ fs=>∃ ys:List (String×FV),fs=ys.map λp=>(p.1,MV.f p.2)
 |.dic _=>True
 |.tab _=>True
 |.msk _=>True
 |.code=>True
 |.dead=>True
noncomputable def TrOk(h h':MH):Prop:=h.length<=h'.length/\∀ i c,i<h.length->h'[i]?=some c->h[i]?=some c\/FlatC c
open Classical in
noncomputable def yk(h:MH)(v:MV)(h':MH):R MV:=if TrOk h h' then(match v with
 |.f x=>.ok (.f x) (h'.take h.length)
 |.ref a=>if h.length<=a then(match Ye h' a with
   |some xs=>match Yh xs with
    |some _=>.ok (.ref h.length) (h'.take h.length++[.lst xs])
    |none=>.ok v h'
   |none=>.ok v h') else .ok v h'
 |v=>.ok v h') else .ok v h'
open Classical in
noncomputable def qL(h:MH)(c:String)(h':MH):R MV:=if TrOk h h' then .exc c (h'.take h.length) else .exc c h'
section
variable (P:Prog) (W:String->List MV->MH->R MV)
open Classical in
noncomputable def yu(fz:Bool)(c:String)(as:List MV)(h:MH):R MV :=
 (match P.meths c "__init__" with
  |some f=>W f (.ref h.length::as) (h++[Cell.obj c []])
  |none=>match as with | []=>R.ok (MV.f FV.non) (h++[Cell.obj c []])|_=>.stuck).bind λv (h1:MH)=>if zq v=false then .stuck else
 match fz with
 |true=>match h1[h.length]? with
  |some (Cell.obj c' fs)=>opt (Yh (fs.map wl)) λvs=>if TrOk h h1 then R.ok (MV.f (FV.obj c' (fs.map xq) vs)) (h1.take h.length) else .stuck
  |_=>.stuck
 |false=>R.ok (MV.ref h.length) h1
mutual
@[simp] noncomputable def ya:ME->MSt->MH->R MV
 |.var i,σ,h=>opt ((σ[i]?).join) λv=>.ok v h
 |.cI i,_,h=>.ok (.f (.int i)) h
 |.cB b,_,h=>.ok (.f (.bl b)) h
 |.cN,_,h=>.ok (.f .non) h
 |.cS s,_,h=>.ok (.f (.str s)) h
 |.glob x,_,h=>opt (P.globs x) λv=>.ok (.f v) h
 |.bin fz op a b,σ,h=>(ya a σ h).bind λx h1=>(ya b σ h1).bind λy h2=>Qe fz op x y h2
 |.neg a,σ,h=>(ya a σ h).bind λx h1=>opt (qc x) λi=>.ok (.f (.int (-i))) h1
 |.cmp op a b,σ,h=>(ya a σ h).bind λx h1=>(ya b σ h1).bind λy h2=>opt (ZT op x y h2) λb=>.ok (.f (.bl b)) h2
 |.isN a,σ,h=>(ya a σ h).bind λx h1=>.ok (.f (.bl (zq x))) h1
 |.notN a,σ,h=>(ya a σ h).bind λx h1=>.ok (.f (.bl (!zq x))) h1
 |.and es,σ,h=>qm es σ h
 |.or es,σ,h=>Qt es σ h
 |.not a,σ,h=>(ya a σ h).bind λx h1=>opt (zA x) λk=>.ok (.f (.bl (!k))) h1
 |.ite c a b,σ,h=>(ya c σ h).bind λx h1=>opt (zA x) λk=>if k=true then ya a σ h1 else ya b σ h1
 |.tup es,σ,h=>(zf es σ h).bind λxs h1=>.ok (zg xs) h1
 |.lst fz es,σ,h=>(zf es σ h).bind λxs h1=>Zk fz xs h1
 |.sub a i,σ,h=>(ya a σ h).bind λx h1=>(ya i σ h1).bind λy h2=>opt (Zb h2 x) λxs=>opt (qc y) λk=>opt (atM xs k) λv=>.ok v h2
 |.slice fz a lo hi,σ,h=>(ya a σ h).bind λx h1=>(ZaO lo σ h1).bind λl h2=>(ZaO hi σ h2).bind λu h3=>qo fz x l u h3
 |.fld a n,σ,h=>(ya a σ h).bind λx h1=>opt (Qbu P.fok n x h1) λv=>.ok v h1
 |.call f es,σ,h=>(zf es σ h).bind λxs h1=>W f xs h1
 |.make fz c es,σ,h=>(zf es σ h).bind λxs h1=>yu P W fz c xs h1
 |.meth o m es,σ,h=>(ya o σ h).bind λx h1=>opt (clsM m x h1) λc=>opt (P.meths c m) λf=>(zf es σ h1).bind λxs h2=>W f (x::xs) h2
 |.blt fz n es,σ,h=>(zf es σ h).bind λxs h1=>yj fz n xs h1
 |.isI a t,σ,h=>(ya a σ h).bind λx h1=>opt (yP P.subs h1 x t) λk=>.ok (.f (.bl k)) h1
 |.tx1 o a,σ,h=>(ya a σ h).bind λx h1=>yaD o x h1
 |.tx2 o a b,σ,h=>(ya a σ h).bind λx h1=>opt (t2g o x h1) λ_=>(ya b σ h1).bind λy h2=>Zi o x y h2
 |.nearK a b,σ,h=>(ya a σ h).bind λx h1=>(ya b σ h1).bind λy h2=>nearV x y h2
 |.isX a t,σ,h=>(ya a σ h).bind λx h1=>opt (QaN x) λc=>opt (P.xsubs (xcl c) t) λk=>.ok (.f (.bl k)) h1
 |.lineX a,σ,h=>(ya a σ h).bind λx h1=>opt (QaN x) λc=>opt (Yn c) λi=>if(P.exci (xcl c)).isSome=true then .ok (.f (.int i)) h1 else .stuck
 |.lm m o es,σ,h=>(ya o σ h).bind λx h1=>opt (lmC x h1) λ_=>(zf es σ h1).bind λxs h2=>lmV m x xs h2
 |.comp fz elt tg it src cond ncv js,σ,h=>(zf src σ h).bind λxs h1=>opt (itV it xs h1) λp =>
   (Qi p.2 (ql tg (yaU cond) (ya elt)) p.1 [] (stM ncv js σ) h1).bind λacc h3=>Zk fz acc h3
 |.frz e,σ,h=>(ya e σ h).bind λx h1=>QD x h1
@[simp] noncomputable def qm:List ME->MSt->MH->R MV
 |[],_,_=>.stuck
 |[e],σ,h=>ya e σ h
 |e::e'::r,σ,h=>(ya e σ h).bind λx h1=>opt (zA x) λk=>if k=true then qm (e'::r) σ h1 else .ok (.f (.bl false)) h1
@[simp] noncomputable def Qt:List ME->MSt->MH->R MV
 |[],_,_=>.stuck
 |[e],σ,h=>ya e σ h
 |e::e'::r,σ,h=>(ya e σ h).bind λx h1=>opt (zA x) λk=>if k=true then .ok (.f (.bl true)) h1 else Qt (e'::r) σ h1
@[simp] noncomputable def zf:List ME->MSt->MH->R (List MV)
 |[],_,h=>.ok [] h
 |e::es,σ,h=>(ya e σ h).bind λx h1=>(zf es σ h1).bind λxs h2=>.ok (x::xs) h2
@[simp] noncomputable def ZaO:Option ME->MSt->MH->R (Option Int)
 |none,_,h=>.ok none h
 |some e,σ,h=>(ya e σ h).bind λx h1=>opt (qc x) λi=>.ok (some i) h1
@[simp] noncomputable def yaU:Option ME->MSt->MH->R Bool
 |none,_,h=>.ok true h
 |some e,σ,h=>(ya e σ h).bind λx h1=>opt (zA x) λk=>.ok k h1
end
mutual
@[simp] noncomputable def zm:MS->MSt->MH->RS
 |.set tg e,σ,h=>(ya P W e σ h).st λv h1=>yt (Yq tg v σ) λσ1=>.next σ1 h1
 |.setSub o i e,σ,h=>(ya P W e σ h).st λv h1=>(ya P W o σ h1).st λx h2=>(ya P W i σ h2).st λy h3 =>
   match x with
   |.ref a=>yt (Ye h3 a) λxs=>yt (qc y) λk=>yt (ixM xs.length k) λj=>.next σ (yf h3 a (xs.set j v))
   |_=>.stuck
 |.par i j a b,σ,h=>(zf P W [a,b] σ h).st λxs h1=>match xs with
  |[v,w]=>.next ((σ.set i (some v)).set j (some w)) h1
  |_=>.stuck
 |.setFld o n e,σ,h=>(ya P W e σ h).st λv h1=>(ya P W o σ h1).st λx h2=>match x with
   |.ref a=>match h2[a]? with
    |some (.obj c fs)=>if P.fok c n=true/\fs.length<100 then .next σ (h2.set a (.obj c (qaq n v fs))) else .stuck
    |_=>.stuck
   |_=>.stuck
 |.expr e,σ,h=>(ya P W e σ h).st λ_ h1=>.next σ h1
 |.ret e,σ,h=>(ya P W e σ h).st λv h1=>.ret v h1
 |.retN,_,h=>.ret (.f .non) h
 |.ite c a b,σ,h=>(ya P W c σ h).st λv h1=>yt (zA v) λk=>if k=true then yb a σ h1 else yb b σ h1
 |.for_ tg it src body,σ,h=>(zf P W src σ h).st λxs h1=>yt (itV it xs h1) λp =>
   Qp p.2 (Yl tg (yb body)) p.1 σ h1
 |.while_ c body,σ,h=>qbL (ya P W c) (yb body) P.turns σ h
 |.raise c es,σ,h=>(zf P W es σ h).st λ_ h1=>.exc c h1
 |.raiseX c e,σ,h=>(ya P W e σ h).st λv h1=>yt (qc v) λi=>if 0<=i/\i<1000000 then yt (P.exci c) λg=>(calm (W g [v] h1)).st λ_ _=>.exc (xn c i.toNat) h1 else .stuck
 |.tryT body ei dst tag,σ,h=>RS.caught (λc h1=>if(P.xsubs (xcl c) (xcl c)).isSome=true/\ei<σ.length then .next ((σ.set dst (some (.tup [.f (.str tag),.exc c]))).set ei none) h1 else .stuck) (yb body σ h)
 |.pass,σ,h=>.next σ h
 |.boom,_,_=>.stuck
 |.frzS i,σ,h=>yt ((σ[i]?).join) λv=>(QD v h).st λx h1=>.next (σ.set i (some x)) h1
noncomputable def yb:List MS->MSt->MH->RS
 |[],σ,h=>.next σ h
 |s::r,σ,h=>(zm s σ h).bind (yb r)
end
end
noncomputable def zd(h:MH)(r:RS):R MV:=match r with
 |.next _ h'=>yk h (.f .non) h'
 |.ret v h'=>yk h v h'
 |.exc c h'=>qL h c h'
 |_=>.stuck
noncomputable def run(P:Prog):Nat->String->List MV->MH->R MV
 |0,_,_,_=>.stuck
 |n+1,f,as,h=>opt (P.defs f) λd=>if as.length=d.np then zd h (yb P (run P n) d.body (as.map some++Wd (d.ns-d.np) none) h) else .stuck
end MP
end
section
namespace MP
open PySem
noncomputable abbrev I(i:Int):MV:=.f (.int i)
noncomputable abbrev B(b:Bool):MV:=.f (.bl b)
@[simp] theorem ZaK{α:Type}(g:α->FV):∀ xs:List α,Yh (xs.map λx=>MV.f (g x))=some (xs.map g)
 |[]=>rfl
 |x::r=>by simp[Yh,ZaK g r]
@[simp] theorem Zbl:∀ xs:List FV,Yh (xs.map MV.f)=some xs
 |[]=>rfl
 |x::r=>by simp[Yh,Zbl r]
@[simp] theorem qct{α:Type}(g:α->FV)(xs:List α):Yh (xs.map (MV.f∘g))=some (xs.map g):=ZaK g xs
@[simp] theorem QaY{α:Type}(g:α->Int):∀ xs:List α,Yf (xs.map λx=>MV.f (.int (g x)))=some (xs.map g)
 |[]=>rfl
 |x::r=>by simp[Yf,QaY g r]
@[simp] theorem QaM:∀ xs:List Int,Yf (xs.map (MV.f∘FV.int))=some xs
 |[]=>rfl
 |x::r=>by
  show Option.map _ (Yf (r.map (MV.f∘FV.int)))=_;rw[QaM r];rfl
@[simp] theorem Qbl{α:Type}(g:α->Bool):∀ xs:List α,Yk (xs.map λx=>MV.f (.bl (g x)))=some (xs.map g)
 |[]=>rfl
 |x::r=>by simp[Yk,Qbl g r]
@[simp] theorem zch(xs:List FV):zg (xs.map MV.f)=.f (.tup xs):=by simp[zg]
@[simp] theorem Yag{α:Type}(g:α->FV)(xs:List α):zg (xs.map (MV.f∘g))=.f (.tup (xs.map g)):=by simp[zg]
@[simp] theorem ycs{α:Type}(g:α->FV)(xs:List α):zg (xs.map λx=>MV.f (g x))=.f (.tup (xs.map g)):=by simp[zg]
@[simp] theorem Zcw(x y:FV):zg [.f x,.f y]=.f (.tup [x,y]):=rfl
@[simp] theorem qcr:zg []=.f (.tup []):=rfl
@[simp] theorem Ycy(x:FV):zg [.f x]=.f (.tup [x]):=rfl
@[simp] theorem ye(xs:List FV)(h:MH):Zk true (xs.map MV.f) h=.ok (.f (.lst xs)) h:=by simp[Zk]
@[simp] theorem ybI{α:Type}(g:α->FV)(xs:List α)(h:MH):Zk true (xs.map (MV.f∘g)) h=.ok (.f (.lst (xs.map g))) h:=by simp[Zk]
@[simp] theorem zbN{α:Type}(g:α->FV)(xs:List α)(h:MH):Zk true (xs.map λx=>MV.f (g x)) h=.ok (.f (.lst (xs.map g))) h:=by simp[Zk]
@[simp] theorem ZbN(h:MH):Zk true [] h=.ok (.f (.lst [])) h:=rfl
@[simp] theorem ybK(x:FV)(r:List MV)(h:MH):Zk true (.f x::r) h=opt (Yh r) λys=>.ok (.f (.lst (x::ys))) h:=by
 simp only[Zk,Yh];cases Yh r <;> rfl
@[simp] theorem YT(xs:List MV)(h:MH):Zk false xs h=.ok (.ref h.length) (h++[.lst xs]):=rfl
@[simp] theorem ycl(P:Prog)(W:String->List MV->MH->R MV)(σ:MSt)(h:MH):yb P W [] σ h=.next σ h:=by simp only[yb]
@[simp] theorem yb5(P:Prog)(W:String->List MV->MH->R MV)(s:MS)(r:List MS)(σ:MSt)(h:MH):yb P W (s::r) σ h=(zm P W s σ h).bind (yb P W r):=by simp only[yb]
section
variable {h:MH}
@[simp] theorem fldV_obj(ok:String->String->Bool)(n c:String)(ns:List String)(vs:List FV):Qbu ok n (.f (.obj c ns vs)) h=if ok c n=true then(qak n ns vs).map .f else none:=rfl
@[simp] theorem lmC_ref(a:Nat):lmC (.ref a) h=Ye h a:=rfl
@[simp] theorem zbn:zq (.f .non)=true:=rfl
@[simp] theorem Zcs(s:Str):zq (.f (.str s))=false:=rfl
@[simp] theorem ycx(s:Int):zq (.f (.int s))=false:=rfl
@[simp] theorem isNon_bl(s:Bool):zq (.f (.bl s))=false:=rfl
@[simp] theorem Zcy(s:List FV):zq (.f (.tup s))=false:=rfl
@[simp] theorem zct(s:List FV):zq (.f (.lst s))=false:=rfl
@[simp] theorem ycy(c:String)(ns:List String)(s:List FV):zq (.f (.obj c ns s))=false:=rfl
@[simp] theorem ycu(s:Nat):zq (.ref s)=false:=rfl
@[simp] theorem Zco(s:List MV):zq (.tup s)=false:=rfl
@[simp] theorem Qcs(xs:List FV):Zb h (.f (.tup xs))=some (xs.map .f):=rfl
@[simp] theorem Zcu(xs:List FV):Zb h (.f (.lst xs))=some (xs.map .f):=rfl
@[simp] theorem zcu(ns:List Int):Zb h (.f (.scr ns))=some (ns.map λi=>MV.f (.int i)):=rfl
@[simp] theorem zcv(ns:List Int):Qj (.f (.scr ns))=none:=rfl
@[simp] theorem Zcg(xs:List MV):Zb h (.tup xs)=some xs:=rfl
@[simp] theorem Qcx(a:Nat):Zb h (.ref a)=Ye h a:=rfl
@[simp] theorem setF_nil(n:String)(v:MV):qaq n v []=[(n,v)]:=rfl
@[simp] theorem Zcv(n k:String)(v x:MV)(r:List (String×MV)):qaq n v ((k,x)::r)=if k=n then(k,v)::r else(k,x)::qaq n v r:=rfl
@[simp] theorem Zb8(xs:List FV):listOf h (.f (.tup xs))=none:=rfl
@[simp] theorem qcb(xs:List FV):listOf h (.f (.lst xs))=some (xs.map .f):=rfl
@[simp] theorem Zcf(a:Nat):listOf h (.ref a)=Ye h a:=rfl
@[simp] theorem Qct(xs:List FV):Qj (.f (.tup xs))=some (xs.map .f):=rfl
@[simp] theorem Qcq(xs:List MV):Qj (.tup xs)=some xs:=rfl
@[simp] theorem qcu(xs:List FV):Qj (.f (.lst xs))=none:=rfl
@[simp] theorem Zcx(a:Nat):Qj (.ref a)=none:=rfl
@[simp] theorem Ycv(i:Int):qc (.f (.int i))=some i:=rfl
@[simp] theorem Ycx(xs:List FV):qc (.f (.tup xs))=none:=rfl
@[simp] theorem zcx(xs:List FV):qc (.f (.lst xs))=none:=rfl
@[simp] theorem qcs(a:Nat):qc (.ref a)=none:=rfl
@[simp] theorem blOf_bl(b:Bool):zA (.f (.bl b))=some b:=rfl
@[simp] theorem qcx(i j:Int):zT .lt i j=some (decide (i<j)):=rfl
@[simp] theorem Ycw(i j:Int):zT .le i j=some (decide (i<=j)):=rfl
@[simp] theorem zcs(i j:Int):zT .gt i j=some (decide (j<i)):=rfl
@[simp] theorem Qcr(i j:Int):zT .ge i j=some (decide (j<=i)):=rfl
@[simp] theorem cmp_lt(x y:MV):ZT .lt x y h=(qc x).bind λi=>(qc y).bind λj=>some (decide (i<j)):=rfl
@[simp] theorem cmp_le(x y:MV):ZT .le x y h=(qc x).bind λi=>(qc y).bind λj=>some (decide (i<=j)):=rfl
@[simp] theorem cmp_gt(x y:MV):ZT .gt x y h=(qc x).bind λi=>(qc y).bind λj=>some (decide (j<i)):=rfl
@[simp] theorem cmp_ge(x y:MV):ZT .ge x y h=(qc x).bind λi=>(qc y).bind λj=>some (decide (j<=i)):=rfl
@[simp] theorem deep_f(x:FV):ZM h (.f x)=some x:=rfl
@[simp] theorem cmp_eq_f(x y:FV):ZT .eq (.f x) (.f y) h=eqF x y:=rfl
@[simp] theorem cmp_ne_f(x y:FV):ZT .ne (.f x) (.f y) h=(eqF x y).map (!·):=rfl
@[simp] theorem isD_non(n:Nat):isD (n+1) .non=true:=rfl
@[simp] theorem isD_bl(n:Nat)(b:Bool):isD (n+1) (.bl b)=true:=rfl
@[simp] theorem isD_int(n:Nat)(i:Int):isD (n+1) (.int i)=true:=rfl
@[simp] theorem isD_str(n:Nat)(s:Str):isD (n+1) (.str s)=sOk s:=rfl
@[simp] theorem isD_tup(n:Nat)(xs:List FV):isD (n+1) (.tup xs)=xs.all (isD n):=rfl
@[simp] theorem isD_lst(n:Nat)(xs:List FV):isD (n+1) (.lst xs)=xs.all (isD n):=rfl
@[simp] theorem eqD_int(i j:Int):eqD (.int i) (.int j)=(i==j):=by simp[eqD]
@[simp] theorem eqD_str(i j:Str):eqD (.str i) (.str j)=(i==j):=by simp[eqD]
@[simp] theorem eqD_tup(xs ys:List FV):eqD (.tup xs) (.tup ys)=Zac xs ys:=by simp[eqD]
@[simp] theorem eqD_lst(xs ys:List FV):eqD (.lst xs) (.lst ys)=Zac xs ys:=by simp[eqD]
@[simp] theorem eqF_int(i j:Int):eqF (.int i) (.int j)=some (i==j):=by simp[eqF]
theorem qaA(i j:Str)(a:sOk i=true)(b:sOk j=true):eqF (.str i) (.str j)=some (i==j):=by simp[eqF,a,b]
@[simp] theorem bin_add(fz:Bool)(i j:Int):Qe fz .add (.f (.int i)) (.f (.int j)) h=.ok (.f (.int (i+j))) h:=rfl
@[simp] theorem bin_sub(fz:Bool)(i j:Int):Qe fz .sub (.f (.int i)) (.f (.int j)) h=.ok (.f (.int (i-j))) h:=rfl
theorem QaG(fz:Bool)(i j:Int)(c:Zaa i j):Qe fz .mul (.f (.int i)) (.f (.int j)) h=.ok (.f (.int (i*j))) h:=by simp[Qe,YA,c]
theorem Zp(fz:Bool)(i j:Int)(c:ZbI i j):Qe fz .fdiv (.f (.int i)) (.f (.int j)) h=.ok (.f (.int (i/j))) h:=by simp[Qe,YA,c]
theorem Qf(fz:Bool)(i j:Int)(c:0<j):Qe fz .mod (.f (.int i)) (.f (.int j)) h=.ok (.f (.int (i%j))) h:=by simp[Qe,YA,c]
theorem ZaD(fz:Bool)(i j:Int)(c:0<=j/\j<=1000000/\i.natAbs<2^64):Qe fz .pow (.f (.int i)) (.f (.int j)) h=.ok (.f (.int (i^j.toNat))) h:=by simp[Qe,YA,c]
@[simp] theorem ZL(fz:Bool)(v:MV):yj fz "len" [v] h=opt (Zb h v) λxs=>.ok (.f (.int xs.length)) h:=rfl
@[simp] theorem bltV_sum(fz:Bool)(v:MV):yj fz "sum" [v] h=opt ((Zb h v).bind Yf) λxs=>.ok (.f (.int xs.sum)) h:=rfl
@[simp] theorem Zbw(fz:Bool)(v:MV):yj fz "all" [v] h=opt ((Zb h v).bind Yk) λxs=>.ok (.f (.bl (xs.all id))) h:=rfl
@[simp] theorem Zal(fz:Bool)(v:MV):yj fz "tuple" [v] h=opt (Zb h v) λxs=>.ok (zg xs) h:=rfl
@[simp] theorem Ybj(fz:Bool)(v:MV):yj fz "list" [v] h=opt (Zb h v) λxs=>Zk fz xs h:=rfl
@[simp] theorem Zbp(fz:Bool)(i j:Int):yj fz "min" [.f (.int i),.f (.int j)] h=.ok (.f (.int (if j<i then j else i))) h:=rfl
@[simp] theorem yct(fz:Bool)(i j:Int):yj fz "max" [.f (.int i),.f (.int j)] h=.ok (.f (.int (if j>i then j else i))) h:=rfl
@[simp] theorem bltV_abs(fz:Bool)(i:Int):yj fz "abs" [.f (.int i)] h=.ok (.f (.int (if i<0 then -i else i))) h:=rfl
@[simp] theorem zcw(fz:Bool)(i:Int):yj fz "int" [.f (.int i)] h=.ok (.f (.int i)) h:=rfl
@[simp] theorem ycw(fz:Bool)(b:Bool):yj fz "int" [.f (.bl b)] h=.ok (.f (.int (if b then 1 else 0))) h:=rfl
end
@[simp] theorem ite_okH{α:Type}(c:Prop) [Decidable c] (x y:α)(h:MH):(if c then R.ok x h else R.ok y h)=R.ok (if c then x else y) h:=by split <;> rfl
@[simp] theorem ite_f(c:Prop) [Decidable c] (x y:FV):(if c then MV.f x else MV.f y)=MV.f (if c then x else y):=by split <;> rfl
@[simp] theorem ite_bl(c:Prop) [Decidable c] (x y:Bool):(if c then FV.bl x else FV.bl y)=FV.bl (if c then x else y):=by split <;> rfl
@[simp] theorem ite_int(c:Prop) [Decidable c] (x y:Int):(if c then FV.int x else FV.int y)=FV.int (if c then x else y):=by split <;> rfl
theorem Yj(xs:List MV)(k:Nat):atM xs (k:Int)=xs[k]?:=by
 unfold atM ixM;by_cases h:k<xs.length
 ·simp[h]
 ·simp[h]
theorem zaC(xs:List MV)(i:Int)(h:0<=i):atM xs i=xs[i.toNat]?:=by
 have:=Yj xs i.toNat
 rwa [Wy h] at this
@[simp] theorem atM_zero(x:MV)(xs:List MV):atM (x::xs) 0=some x:=by have:=Yj (x::xs) 0;simpa using this
@[simp] theorem atM_one(x y:MV)(xs:List MV):atM (x::y::xs) 1=some y:=by have:=Yj (x::y::xs) 1;simpa using this
@[simp] theorem atM_two(x y z:MV)(xs:List MV):atM (x::y::z::xs) 2=some z:=by have:=Yj (x::y::z::xs) 2;simpa using this
noncomputable def sq(b:Bool)(xs:List FV):FV:=if b=true then .tup xs else .lst xs
@[simp] theorem seqOf_sq(h:MH)(b:Bool)(xs:List FV):Zb h (.f (sq b xs))=some (xs.map .f):=by cases b <;> rfl
@[simp] theorem qb7(h:MH)(b:Bool)(xs:List FV):qe h (.f (sq b xs))=[]:=rfl
noncomputable def ybo:List Int->Int
 |[]=>0
 |x::r=>Zap x r
noncomputable def ybh:List Int->Int
 |[]=>0
 |x::r=>Qan x r
theorem zaH:∀(r:List Int)(m:Int),Zap m r<=m/\∀ v∈r,Zap m r<=v
 |[],m=>⟨wx _,λv hv=>by simp at hv⟩
 |x::r,m=>by
  obtain⟨a,b⟩:=zaH r (if x<m then x else m);simp only[Zap];refine⟨by split at a <;> rename_i hc <;> simp only[hc,if_true,if_false] <;> lia,λv hv=>?_⟩
  rcases xa.mp hv with rfl|hv
  ·split at a <;> rename_i hc <;> simp only[hc,if_true,if_false] <;> lia
  ·exact b v hv
theorem YaJ:∀(r:List Int)(m:Int),Zap m r=m\/Zap m r∈r
 |[],m=>.inl rfl
 |x::r,m=>by
  simp only[Zap]
  rcases YaJ r (if x<m then x else m) with e|e
  ·rw[e];split
   ·exact .inr (by simp)
   ·exact .inl rfl
  ·exact .inr (by simp[e])
theorem QaB:∀(r:List Int)(m:Int),m<=Qan m r/\∀ v∈r,v<=Qan m r
 |[],m=>⟨wx _,λv hv=>by simp at hv⟩
 |x::r,m=>by
  obtain⟨a,b⟩:=QaB r (if x>m then x else m);simp only[Qan];refine⟨by split at a <;> rename_i hc <;> simp only[hc,if_true,if_false] <;> lia,λv hv=>?_⟩
  rcases xa.mp hv with rfl|hv
  ·split at a <;> rename_i hc <;> simp only[hc,if_true,if_false] <;> lia
  ·exact b v hv
theorem YaO:∀(r:List Int)(m:Int),Qan m r=m\/Qan m r∈r
 |[],m=>.inl rfl
 |x::r,m=>by
  simp only[Qan]
  rcases YaO r (if x>m then x else m) with e|e
  ·rw[e];split
   ·exact .inr (by simp)
   ·exact .inl rfl
  ·exact .inr (by simp[e])
theorem Yal{r:List Int}(h:r≠[]):ybo r∈r:=by
 cases r with
 |nil=>exact absurd rfl h
 |cons x r=>rcases YaJ r x with e|e <;> simp[ybo,e]
theorem Yam{r:List Int}(h:r≠[]):ybh r∈r:=by
 cases r with
 |nil=>exact absurd rfl h
 |cons x r=>rcases YaO r x with e|e <;> simp[ybh,e]
theorem qbg{r:List Int}{v:Int}(h:v∈r):ybo r<=v:=by
 cases r with
 |nil=>simp at h
 |cons x r =>
  rcases xa.mp h with rfl|h
  ·exact(zaH r v).1
  ·exact(zaH r x).2 v h
theorem ybb{r:List Int}{v:Int}(h:v∈r):v<=ybh r:=by
 cases r with
 |nil=>simp at h
 |cons x r =>
  rcases xa.mp h with rfl|h
  ·exact(QaB r v).1
  ·exact(QaB r x).2 v h
theorem yaS(fz:Bool)(h:MH)(v:MV)(ns:List Int)(e:(Zb h v).bind Yf=some ns)(ne:ns≠[]):yj fz "min" [v] h=.ok (I (ybo ns)) h:=by
 cases ns with
 |nil=>exact absurd rfl ne
 |cons x r=>show opt ((Zb h v).bind Yf) _=_;rw[e];rfl
theorem zaU(fz:Bool)(h:MH)(v:MV)(ns:List Int)(e:(Zb h v).bind Yf=some ns)(ne:ns≠[]):yj fz "max" [v] h=.ok (I (ybh ns)) h:=by
 cases ns with
 |nil=>exact absurd rfl ne
 |cons x r=>show opt ((Zb h v).bind Yf) _=_;rw[e];rfl
theorem Zo(h t:MH)(xs:List MV):Ye (h++.lst xs::t) h.length=some xs:=by simp[Ye]
theorem ZK(h t:MH)(xs ys:List MV):yf (h++.lst xs::t) h.length ys=h++.lst ys::t:=by simp[yf]
theorem ZaX(h:MH)(n:Nat):∀ xs:List FV,(xs.map MV.f).mapM (qk h (n+1))=some xs
 |[]=>rfl
 |x::r=>by simp[Wn,ZaX h n r,qk]
theorem Za3(h:MH)(n:Nat):∀ xs:List FV,(xs.map MV.f).flatMap (Ql h (n+1))=[]
 |[]=>rfl
 |x::r=>by simp[Ql]
theorem yaV(h t:MH)(as:List Nat)(ha:∀ a∈as,h.length<=a):∃ t',kill as (h++t)=h++t':=by
 refine⟨(t.mapIdx λi c=>if i+h.length∈as then .dead else c),?_⟩;unfold kill;rw[List.mapIdx_append]
 congr 1
 ·refine uo λi=>?_;rw[Um];cases q:h[i]? with
  |none=>rfl
  |some c =>
   have hi:=(Xa.mp q).1;have:i∉as:=λz=>by have:=ha i z;lia
   simp[this]
theorem zaJ(h:MH)(a:Nat)(xs:List FV)(e:Ye h a=some (xs.map .f)):QD (.ref a) h=.ok (.f (.lst xs)) (kill [a] h):=by
 simp only[QD,ZM,qk,e,Xk,ZaX,wj,Yb,Ql,Xr,Za3]
theorem za9(h t:MH)(xs:List FV):∃ t',QD (.ref h.length) (h++.lst (xs.map .f)::t)=.ok (.f (.lst xs)) (h++t'):=by
 obtain⟨t',e⟩:=yaV h (.lst (xs.map .f)::t) [h.length] (by simp);exact⟨t',by rw[zaJ _ _ xs (Zo h t _),e]⟩
@[simp] theorem frz_f(h:MH)(x:FV):QD (.f x) h=.ok (.f x) h:=by
 have:kill [] h=h:=by unfold kill;refine uo λi=>?_;rw[Um];cases h[i]? <;> rfl
 simp[QD,ZM,qk,Ql,this]
set_option tactic.hygienic true in
@[simp] theorem Ya2(k:String->MH->RS)(c:String)(h:MH):RS.caught k (.exc c h)=k c h:=id rfl
set_option tactic.hygienic true in
@[simp] theorem zb5(k:String->MH->RS)(σ:MSt)(h:MH):RS.caught k (.next σ h)=.next σ h:=id rfl
set_option tactic.hygienic true in
@[simp] theorem ycm(k:String->MH->RS)(v:MV)(h:MH):RS.caught k (.ret v h)=.ret v h:=id rfl
theorem TrOk.refl(h:MH):TrOk h h:=⟨wb _,λi c _ e=>.inl e⟩
theorem TrOk.app(h t:MH):TrOk h (h++t):=⟨by simp,λi c hi e=>.inl (by rw[va hi] at e;exact e)⟩
theorem TrOk.cons{c c':Cell}{h h':MH}(t:TrOk h h')(e:c'=c\/FlatC c'):TrOk (c::h) (c'::h'):=by
 refine⟨by have:=t.1;simp;lia,λi d hi q=>?_⟩;cases i with
 |zero =>
  simp at q;subst q;rcases e with e|e
  ·left;simp[e]
  ·exact .inr e
 |succ i=>simp at q hi ⊢;exact t.2 i d hi q
@[simp] theorem qb8(h:MH)(x:FV):yk h (.f x) h=.ok (.f x) h:=by simp[yk,TrOk.refl]
@[simp] theorem qbn(h t:MH)(x:FV):yk h (.f x) (h++t)=.ok (.f x) h:=by simp[yk,TrOk.app]
@[simp] theorem Zan(h:MH)(k k':Int)(x:FV):yk (.lst [I k]::h) (.f x) (.lst [I k']::h)=.ok (.f x) (.lst [I k']::h):=by
 simp[yk,TrOk.cons (TrOk.refl h) (.inr ⟨[.int k'],rfl⟩:Cell.lst [I k']=Cell.lst [I k]\/FlatC (.lst [I k']))]
@[simp] theorem ZF(h t:MH)(k k':Int)(x:FV):yk (.lst [I k]::h) (.f x) (.lst [I k']::(h++t))=.ok (.f x) (.lst [I k']::h):=by
 simp[yk,TrOk.cons (TrOk.app h t) (.inr ⟨[.int k'],rfl⟩:Cell.lst [I k']=Cell.lst [I k]\/FlatC (.lst [I k']))]
@[simp] theorem Qb3(h:MH)(c:String):qL h c h=.exc c h:=by simp[qL,TrOk.refl]
@[simp] theorem zcb(h t:MH)(c:String):qL h c (h++t)=.exc c h:=by simp[qL,TrOk.app]
@[simp] theorem Zb2(h:MH)(σ:MSt)(h':MH):zd h (.next σ h')=yk h (.f .non) h':=id rfl
@[simp] theorem ycb(h:MH)(v:MV)(h':MH):zd h (.ret v h')=yk h v h':=id rfl
@[simp] theorem qck(h:MH)(c:String)(h':MH):zd h (.exc c h')=qL h c h':=id rfl
@[simp] theorem QaS(h:MH):GuardOk [] h:=λp hp=>by simp at hp
@[simp] theorem Ycs(h:MH)(x:FV):qe h (.f x)=[]:=rfl
@[simp] theorem Zb6(h:MH)(x:List MV):qe h (.tup x)=[]:=rfl
theorem yM(bd:MV->MSt->MH->RS)(x:MV)(r:List MV)(σ:MSt)(h:MH):Qp [] bd (x::r) σ h=(bd x σ h).turn λσ1 h1=>Qp [] bd r σ1 h1:=by simp[Qp]
@[simp] theorem YM(h:MH)(v:MV):itV "seq" [v] h=(Zb h v).map λxs=>(xs,qe h v):=rfl
theorem QB(h:MH)(n:Int)(c:-(2^62)<=n/\n<2^62):itV "range" [.f (.int n)] h=some ((Ue n.toNat).map λ(k:Nat)=>I k,[]):=if_pos c
theorem Ycq(h:MH)(u:MV):itV "range" [u] h=(qc u).bind λn=>if -(2^62)<=n/\n<2^62 then some ((Ue n.toNat).map λ(k:Nat)=>.f (.int k),[]) else none:=rfl
theorem Qbq(h:MH)(s:Str):itV "signs" [.f (.str s)] h=some (s.cps.toList.map λc=>.f (.str ⟨#[c]⟩),[]):=rfl
@[simp] theorem zbU(h:MH)(u v:MV):itV "zip" [u,v] h=(Zb h u).bind λxs=>(Zb h v).map λys=>((xs.zip ys).map λp=>zg [p.1,p.2],qe h u++qe h v):=rfl
@[simp] theorem zaP(h:MH)(v:MV):itV "enumerate" [v] h=(Zb h v).map λxs=>(xs.mapIdx λk x=>zg [.f (.int k),x],qe h v):=rfl
@[simp] theorem ycd(n:Nat):(((n:Int)+1=0)=False):=eq_false (by lia)
@[simp] theorem qb5(n:Nat):(((n:Int)+1==0)=false):=beq_false_of_ne (by lia)
theorem Zr{α:Type}{bd:MV->MSt->MH->R (Option MV×MSt)}{h:MH}{e g:α->MV}{caps:MSt}:∀(ys:List α)(acc:List MV)(z:Option MV),acc.length+ys.length<=sizeL ->
  (∀ y∈ys,∀ z,∃ z',bd (e y) (z::caps) h=.ok (some (g y),z'::caps) h)->Qi [] bd (ys.map e) acc (z::caps) h=.ok (acc++ys.map g) h
 |[],acc,z,_,_=>by simp[Qi]
 |y::r,acc,z,hl,hb=>by
  obtain⟨z',e'⟩:=hb y (by simp) z;simp only[ue] at hl;have:=Zr (bd:=bd) (h:=h) (e:=e) (g:=g) (caps:=caps) r (acc++[g y]) z' (by simp;lia) (λy hy z=>hb y (by simp[hy]) z);simp[Qi,e',this]
  lia
theorem YY{α:Type}{bd:MV->MSt->MH->R (Option MV×MSt)}{h:MH}{e g:α->MV}{caps:MSt}:∀(ys:List α)(acc:List MV)(z w:Option MV),acc.length+ys.length<=sizeL ->
  (∀ y∈ys,∀ z w,∃ z' w',bd (e y) (z::w::caps) h=.ok (some (g y),z'::w'::caps) h)->Qi [] bd (ys.map e) acc (z::w::caps) h=.ok (acc++ys.map g) h
 |[],acc,z,w,_,_=>by simp[Qi]
 |y::r,acc,z,w,hl,hb=>by
  obtain⟨z',w',e'⟩:=hb y (by simp) z w;simp only[ue] at hl;have:=YY (bd:=bd) (h:=h) (e:=e) (g:=g) (caps:=caps) r (acc++[g y]) z' w' (by simp;lia) (λy hy z=>hb y (by simp[hy]) z);simp[Qi,e',this]
  lia
theorem YaL{α:Type}{bd:MV->MSt->MH->R (Option MV×MSt)}{h:MH}{e g:α->MV}{t:α->Bool}{caps:MSt}:∀(ys:List α)(acc:List MV)(z:Option MV),acc.length+ys.length<=sizeL ->
  (∀ y∈ys,∀ z,∃ z',bd (e y) (z::caps) h=.ok (if t y=true then some (g y) else none,z'::caps) h)->Qi [] bd (ys.map e) acc (z::caps) h=.ok (acc++(ys.filter t).map g) h
 |[],acc,z,_,_=>by simp[Qi]
 |y::r,acc,z,hl,hb=>by
  obtain⟨z',e'⟩:=hb y (by simp) z;simp only[ue] at hl;have ih:=λacc' (hl':acc'.length+r.length<=sizeL)=>YaL (bd:=bd) (h:=h) (e:=e) (g:=g) (t:=t) (caps:=caps) r acc' z' hl' (λy hy z=>hb y (by simp[hy]) z);cases ht:t y with
  |true =>
   simp[ht] at e';simp[Qi,e',ih (acc++[g y]) (by simp;lia),ht]
   lia
  |false =>
   simp[ht] at e';simp[Qi,e',ih acc (by lia),ht]
   lia
theorem Yau{α β:Type}{bd:MV->MSt->MH->RS}{e:α->MV}{st:β->MSt}{hp:β->MH}{f:β->α->β}:∀(ys:List α)(b:β),
  (∀ y∈ys,∀ b,bd (e y) (st b) (hp b)=.next (st (f b y)) (hp (f b y)))->Qp [] bd (ys.map e) (st b) (hp b)=.next (st (ys.foldl f b)) (hp (ys.foldl f b))
 |[],b,_=>by simp[Qp]
 |y::r,b,hb=>by
  simp only[xc,yM,hb y (by simp) b,RS.turn_next,List.foldl_cons];exact Yau r (f b y) λy hy b=>hb y (by simp[hy]) b
theorem yam{α:Type}{bd:MV->MSt->MH->RS}{e:α->MV}(Pv:Nat->MSt->MH->Prop):∀(ys:List α)(i:Nat)(σ:MSt)(h:MH),Pv i σ h ->
  (∀ j y σ h,ys[j]?=some y->Pv (i+j) σ h->∃ σ' h',bd (e y) σ h=.next σ' h'/\Pv (i+j+1) σ' h')->∃ σ' h',Qp [] bd (ys.map e) σ h=.next σ' h'/\Pv (i+ys.length) σ' h'
 |[],i,σ,h,p,_=>⟨σ,h,by simp[Qp],p⟩
 |y::r,i,σ,h,p,hb=>by
  obtain⟨σ1,h1,e1,p1⟩:=hb 0 y σ h rfl p;obtain⟨σ2,h2,e2,p2⟩:=yam (bd:=bd) (e:=e) Pv r (i+1) σ1 h1 p1 (λj y σ h hj pj=>by
   have:=hb (j+1) y σ h (by simpa using hj) (by rw[show i+(j+1)=i+1+j by lia];exact pj)
   rwa [show i+(j+1)+1=i+1+j+1 by lia] at this)
  refine⟨σ2,h2,by simp[yM,e1,e2],?_⟩
  rwa [show i+(y::r).length=i+1+r.length by simp;lia]
end MP
end
section
namespace SD
open PySem PySem.Spec PyProof.Rows L2 L3 M3 MP
structure Tx where
 adr:String->Addr
 K:PySem.W.Frag
 cd:Addr:=0
 tb:Addr:=0
 lp:Pos:=⟨0,0,0,0⟩
 lq:Str:=Str.ofString ""
instance:CoeFun Tx (λ_=>String->Addr):=⟨Tx.adr⟩
noncomputable def ScrK(K:PySem.W.Frag)(a:Addr)(ns:List Int):Prop:=∃(o:Obj)(its:Array Value)(n:Nat),K.lookup a=some o/\o.cls=.type "list"/\o.dict=none/\o.data=.seq its n/\its.size<=sizeLine/\Vals (ns.map V.int) its.toList
noncomputable def Liv(μ:List Addr)(h:MH)(b:Addr):Prop:=∃(i:Nat)(c:Cell),μ[i]?=some b/\h[i]?=some c/\c≠Cell.dead
noncomputable def XD(L:Addr->Prop)(H:Hp)(c:String)(d:Option Addr):Prop:=match Yn c,d with
 |none,none=>True
 |some i,some D=>¬ L D/\H D=some (.xd [("line",.int i)])
 |_,_=>False
section
variable (ct:Tx)
mutual
noncomputable def RF(L:Addr->Prop)(H:Hp):FV->V->Prop
 |.non,v=>v=.non
 |.bl b,v=>v=.bl b
 |.int i,v=>v=.int i
 |.str x,v=>v=.str x
 |.tup xs,v=>∃ a vs,v=.ref a/\¬ L a/\H a=some (.tup vs)/\RFs L H xs vs
 |.lst xs,v=>∃ a vs,v=.ref a/\¬ L a/\Rd H a (.lst vs)/\RFs L H xs vs
 |.obj c ns xs,v=>∃ a dx fs,v=.ref a/\¬ L a/\H a=some (.ins (ct c) dx fs)/\fs.map xq=ns.map Str.ofString/\RFs L H xs (fs.map wl)
 |.tab kvs,v=>∃ a o,v=.ref a/\¬ L a/\H a=some (.frz o (.dT (kvs.map λkv=>([(Sum.inl kv.1.1:Key),Sum.inl kv.1.2],V.int kv.2))))
 |.msk ks,v=>∃ a o,v=.ref a/\¬ L a/\H a=some (.frz o (.dT (ks.map λk=>([(Sum.inl k.1:Key),Sum.inl k.2],V.bl true))))
 |.scr ns,v=>∃ a,v=.ref a/\((¬ L a/\∃ o,H a=some (.frz o (.lst (ns.map V.int))))\/ScrK ct.K a ns)
noncomputable def RFs(L:Addr->Prop)(H:Hp):List FV->List V->Prop
 |[],vs=>vs=[]
 |x::xs,vs=>∃ v r,vs=v::r/\RF L H x v/\RFs L H xs r
end
mutual
noncomputable def RV(μ:List Addr)(L:Addr->Prop)(H:Hp):MV->V->Prop
 |.f x,v=>RF ct L H x v
 |.ref i,v=>∃ b,μ[i]?=some b/\v=.ref b
 |.tup xs,v=>∃ a vs,v=.ref a/\¬ L a/\H a=some (.tup vs)/\RVs μ L H xs vs
 |.exc c,v=>∃ a d,v=.ref a/\¬ L a/\H a=some (.ext (Ya4 (ct (xcl c)) a d))/\XD L H c d
noncomputable def RVs(μ:List Addr)(L:Addr->Prop)(H:Hp):List MV->List V->Prop
 |[],vs=>vs=[]
 |x::xs,vs=>∃ v r,vs=v::r/\RV μ L H x v/\RVs μ L H xs r
end
noncomputable def CellOk(μ:List Addr)(L:Addr->Prop)(H:Hp)(b:Addr):Cell->Prop
 |.lst xs=>∃ vs,H b=some (.lst vs)/\RVs ct μ L H xs vs
 |.obj c fs=>∃ dx gs,H b=some (.ins (ct c) dx gs)/\gs.map xq=fs.map (λp=>Str.ofString p.1)/\RVs ct μ L H (fs.map wl) (gs.map wl)
 |.dic ks=>H b=some (.dK (ks.map λk=>((Sum.inl k:Key),V.bl true)))
 |.tab kvs=>H b=some (.dT (kvs.map λkv=>([(Sum.inl kv.1.1:Key),Sum.inl kv.1.2],V.int kv.2)))
 |.msk ks=>H b=some (.dT (ks.map λk=>([(Sum.inl k.1:Key),Sum.inl k.2],V.bl true)))
 |.code=>b=ct.tb/\(H b=some (.ext (tabF b ct.lp none))\/∃ c',c'≠b/\¬ L c'/\H b=some (.ext (tabF b ct.lp (some c')))/\H c'=some (.ext (codF c' ct.lq)))
 |.dead=>True
structure Rel (μ:List Addr) (h:MH) (H:Hp):Prop where
 len:μ.length=h.length
 nd:μ.Nodup
 has:∀ b∈μ,∃ o,H b=some o
 cells:∀(i:Nat)(b:Addr)(c:Cell),μ[i]?=some b->h[i]?=some c->CellOk ct μ (Liv μ h) H b c
end
structure Ext (μ:List Addr) (h:MH) (H:Hp) (μ':List Addr) (h':MH) (H':Hp):Prop where
 pre:∃ ν,μ'=μ++ν
 keep:∀ b o,H b=some o->¬ Liv μ h b->H' b=some o
 liv:∀ b,Liv μ' h' b->Liv μ h b\/H b=none
theorem Ext.refl(μ:List Addr)(h:MH)(H:Hp):Ext μ h H μ h H:=⟨⟨[],by simp⟩,λ_ _ e _=>e,λ_ l=>.inl l⟩
theorem Ext.trans{μ μ1 μ2:List Addr}{h h1 h2:MH}{H H1 H2:Hp}(a:Ext μ h H μ1 h1 H1)(b:Ext μ1 h1 H1 μ2 h2 H2):Ext μ h H μ2 h2 H2:=by
 obtain⟨ν,e⟩:=a.pre;obtain⟨ν',e'⟩:=b.pre;refine⟨⟨ν++ν',by rw[e',e,Xm]⟩,λc o q n=>?_,λc l=>?_⟩
 ·refine b.keep c o (a.keep c o q n) λl=>?_
  rcases a.liv c l with z|z
  ·exact n z
  ·rw[q] at z;cases z
 ·rcases b.liv c l with z|z
  ·exact a.liv c z
  ·by_cases n:Liv μ h c
   ·exact .inl n
   ·cases q:H c with
    |none=>exact .inr rfl
    |some o=>rw[a.keep c o q n] at z;cases z
theorem Rd.keep{H H':Hp}{a:Addr}{u:HO}(k:∀ o,H a=some o->H' a=some o)(r:Rd H a u):Rd H' a u:=r.elim (λe=>.inl (k _ e)) λ⟨o,e⟩=>.inr ⟨o,k _ e⟩
theorem Rd.some{H:Hp}{a:Addr}{u:HO}(r:Rd H a u):∃ o,H a=some o:=r.elim (λe=>⟨_,e⟩) λ⟨_,e⟩=>⟨_,e⟩
section
variable {ct:Tx}
structure Let (L:Addr->Prop) (H:Hp) (L':Addr->Prop) (H':Hp):Prop where
 keep:∀ b o,H b=some o->¬ L b->H' b=some o
 liv:∀ b o,H b=some o->¬ L b->¬ L' b
theorem Ext.let{μ μ':List Addr}{h h':MH}{H H':Hp}(e:Ext μ h H μ' h' H'):Let (Liv μ h) H (Liv μ' h') H' :=
 ⟨e.keep,λb o q n l=>(e.liv b l).elim n λz=>by rw[q] at z;cases z⟩
mutual
theorem RF.to{L L':Addr->Prop}{H H':Hp}(l:Let L H L' H'):∀{x:FV}{v:V},RF ct L H x v->RF ct L' H' x v
 |.non,_,r=>by simpa only[RF] using r
 |.bl _,_,r=>by simpa only[RF] using r
 |.int _,_,r=>by simpa only[RF] using r
 |.str _,_,r=>by simpa only[RF] using r
 |.tup xs,v,r=>by
  simp only[RF] at r ⊢;obtain⟨a,vs,e,n,rd,q⟩:=r;exact⟨a,vs,e,l.liv a _ rd n,l.keep a _ rd n,RFs.to l q⟩
 |.lst xs,v,r=>by
  simp only[RF] at r ⊢;obtain⟨a,vs,e,n,rd,q⟩:=r;obtain⟨o,ho⟩:=Rd.some rd;exact⟨a,vs,e,l.liv a o ho n,Rd.keep (λo e=>l.keep a o e n) rd,RFs.to l q⟩
 |.obj c ns xs,v,r=>by
  simp only[RF] at r ⊢;obtain⟨a,dx,fs,e,n,ho,q1,q⟩:=r;exact⟨a,dx,fs,e,l.liv a _ ho n,l.keep a _ ho n,q1,RFs.to l q⟩
 |.tab kvs,v,r=>by
  simp only[RF] at r ⊢;obtain⟨a,o,e,n,q⟩:=r;exact⟨a,o,e,l.liv a _ q n,l.keep a _ q n⟩
 |.msk ks,v,r=>by
  simp only[RF] at r ⊢;obtain⟨a,o,e,n,q⟩:=r;exact⟨a,o,e,l.liv a _ q n,l.keep a _ q n⟩
 |.scr ns,v,r=>by
  simp only[RF] at r ⊢;obtain⟨a,e,q⟩:=r;exact⟨a,e,q.imp (λ⟨n,o,h⟩=>⟨l.liv a _ h n,o,l.keep a _ h n⟩) id⟩
theorem RFs.to{L L':Addr->Prop}{H H':Hp}(l:Let L H L' H'):∀{xs:List FV}{vs:List V},RFs ct L H xs vs->RFs ct L' H' xs vs
 |[],_,r=>by simpa only[RFs] using r
 |x::xs,vs,r=>by
  simp only[RFs] at r ⊢;obtain⟨v,t,e,q1,q2⟩:=r;exact⟨v,t,e,RF.to l q1,RFs.to l q2⟩
end
theorem XD.to{L L':Addr->Prop}{H H':Hp}(l:Let L H L' H'){c:String}{d:Option Addr}(x:XD L H c d):XD L' H' c d:=by
 unfold XD at x ⊢;cases e:Yn c with
 |none =>
  rw[e] at x;cases d with
  |none=>trivial
  |some D=>exact x.elim
 |some i =>
  rw[e] at x;cases d with
  |none=>exact x.elim
  |some D=>exact⟨l.liv _ _ x.2 x.1,l.keep _ _ x.2 x.1⟩
theorem XD.has{L:Addr->Prop}{H:Hp}{c:String}{d:Option Addr}(x:XD L H c d):∀ D,d=some D->∃ o,H D=some o:=by
 intro D e;subst e;unfold XD at x;cases h:Yn c with
 |none=>rw[h] at x;exact x.elim
 |some i=>rw[h] at x;exact⟨_,x.2⟩
theorem XD.mk{L:Addr->Prop}{H:Hp}{c:String}(h:Yn c=none):XD L H c none:=by
 unfold XD;rw[h];trivial
mutual
theorem RV.to{μ ν:List Addr}{L L':Addr->Prop}{H H':Hp}(l:Let L H L' H'):∀{x:MV}{v:V},RV ct μ L H x v->RV ct (μ++ν) L' H' x v
 |.f x,v,r=>by simp only[RV] at r ⊢;exact RF.to l r
 |.ref i,v,r=>by
  simp only[RV] at r ⊢;obtain⟨b,e,q⟩:=r;exact⟨b,by rw[va (Xa.mp e).1];exact e,q⟩
 |.tup xs,v,r=>by
  simp only[RV] at r ⊢;obtain⟨a,vs,e,n,rd,q⟩:=r;exact⟨a,vs,e,l.liv a _ rd n,l.keep a _ rd n,RVs.to l q⟩
 |.exc _,v,r=>by
  simp only[RV] at r ⊢;obtain⟨a,d,e,n,q,x⟩:=r;exact⟨a,d,e,l.liv a _ q n,l.keep a _ q n,XD.to l x⟩
theorem RVs.to{μ ν:List Addr}{L L':Addr->Prop}{H H':Hp}(l:Let L H L' H'):∀{xs:List MV}{vs:List V},RVs ct μ L H xs vs->RVs ct (μ++ν) L' H' xs vs
 |[],_,r=>by simpa only[RVs] using r
 |x::xs,vs,r=>by
  simp only[RVs] at r ⊢;obtain⟨v,t,e,q1,q2⟩:=r;exact⟨v,t,e,RV.to l q1,RVs.to l q2⟩
end
theorem RV.ext{μ μ':List Addr}{h h':MH}{H H':Hp}{x:MV}{v:V}(e:Ext μ h H μ' h' H')(r:RV ct μ (Liv μ h) H x v):RV ct μ' (Liv μ' h') H' x v:=by
 obtain⟨ν,q⟩:=e.pre;subst q;exact RV.to e.let r
theorem RVs.ext{μ μ':List Addr}{h h':MH}{H H':Hp}{x:List MV}{v:List V}(e:Ext μ h H μ' h' H')(r:RVs ct μ (Liv μ h) H x v):RVs ct μ' (Liv μ' h') H' x v:=by
 obtain⟨ν,q⟩:=e.pre;subst q;exact RVs.to e.let r
theorem RVs.length{μ:List Addr}{L:Addr->Prop}{H:Hp}:∀{xs:List MV}{vs:List V},RVs ct μ L H xs vs->vs.length=xs.length
 |[],_,r=>by simp only[RVs] at r;simp[r]
 |x::xs,vs,r=>by
  simp only[RVs] at r;obtain⟨v,t,e,_,q⟩:=r;simp[e,RVs.length q]
theorem RVs.get{μ:List Addr}{L:Addr->Prop}{H:Hp}:∀{xs:List MV}{vs:List V}{i:Nat}{x:MV},RVs ct μ L H xs vs->xs[i]?=some x->∃ v,vs[i]?=some v/\RV ct μ L H x v
 |[],_,_,_,_,e=>by simp at e
 |x::xs,vs,0,y,r,e=>by
  simp only[RVs] at r;obtain⟨v,t,q,r1,_⟩:=r;simp at e;subst e;exact⟨v,by simp[q],r1⟩
 |x::xs,vs,i+1,y,r,e=>by
  simp only[RVs] at r;obtain⟨v,t,q,_,r2⟩:=r;obtain⟨u,h1,h2⟩:=RVs.get (i:=i) r2 (by simpa using e);exact⟨u,by simp[q,h1],h2⟩
theorem RVs.get'{μ:List Addr}{L:Addr->Prop}{H:Hp}{xs:List MV}{vs:List V}{i:Nat}{v:V}(r:RVs ct μ L H xs vs)(e:vs[i]?=some v):∃ x,xs[i]?=some x/\RV ct μ L H x v:=by
 have hl:=r.length;have hi:i<xs.length:=by rw[<- hl];exact(Xa.mp e).1
 obtain⟨u,h1,h2⟩:=r.get (i:=i) (x:=xs[i]) (by simp[hi]);rw[e] at h1;cases h1;exact⟨_,by simp[hi],h2⟩
theorem RVs.cons{μ:List Addr}{L:Addr->Prop}{H:Hp}{x:MV}{v:V}{xs:List MV}{vs:List V}(a:RV ct μ L H x v)(b:RVs ct μ L H xs vs):RVs ct μ L H (x::xs) (v::vs):=by
 simp only[RVs];exact⟨v,vs,rfl,a,b⟩
theorem RVs.nil{μ:List Addr}{L:Addr->Prop}{H:Hp}:RVs ct μ L H [] []:=by simp only[RVs]
theorem RVs.append{μ:List Addr}{L:Addr->Prop}{H:Hp}:∀{xs ys:List MV}{vs ws:List V},RVs ct μ L H xs vs->RVs ct μ L H ys ws->RVs ct μ L H (xs++ys) (vs++ws)
 |[],_,_,_,r,s=>by simp only[RVs] at r;subst r;exact s
 |x::xs,ys,vs,ws,r,s=>by
  simp only[RVs] at r;obtain⟨v,t,rfl,r1,r2⟩:=r;exact RVs.cons r1 (RVs.append r2 s)
theorem RVs.take{μ:List Addr}{L:Addr->Prop}{H:Hp}:∀(n:Nat){xs:List MV}{vs:List V},RVs ct μ L H xs vs->RVs ct μ L H (xs.take n) (vs.take n)
 |0,_,_,_=>RVs.nil
 |n+1,[],_,r=>by simp only[RVs] at r;subst r;exact RVs.nil
 |n+1,x::xs,vs,r=>by
  simp only[RVs] at r;obtain⟨v,t,rfl,r1,r2⟩:=r;exact RVs.cons r1 (RVs.take n r2)
theorem RVs.drop{μ:List Addr}{L:Addr->Prop}{H:Hp}:∀(n:Nat){xs:List MV}{vs:List V},RVs ct μ L H xs vs->RVs ct μ L H (xs.drop n) (vs.drop n)
 |0,_,_,r=>r
 |n+1,[],_,r=>by simp only[RVs] at r;subst r;exact RVs.nil
 |n+1,x::xs,vs,r=>by
  simp only[RVs] at r;obtain⟨v,t,rfl,r1,r2⟩:=r;exact RVs.drop n r2
theorem RVs.set{μ:List Addr}{L:Addr->Prop}{H:Hp}{y:MV}{u:V}(q:RV ct μ L H y u):∀(n:Nat){xs:List MV}{vs:List V},RVs ct μ L H xs vs->RVs ct μ L H (xs.set n y) (vs.set n u)
 |_,[],_,r=>by simp only[RVs] at r;subst r;exact RVs.nil
 |0,x::xs,vs,r=>by
  simp only[RVs] at r;obtain⟨v,t,rfl,r1,r2⟩:=r;exact RVs.cons q r2
 |n+1,x::xs,vs,r=>by
  simp only[RVs] at r;obtain⟨v,t,rfl,r1,r2⟩:=r;exact RVs.cons r1 (RVs.set q n r2)
theorem RVs.ofF{μ:List Addr}{L:Addr->Prop}{H:Hp}:∀{xs:List FV}{vs:List V},RFs ct L H xs vs->RVs ct μ L H (xs.map MV.f) vs
 |[],_,r=>by simp only[RFs] at r;subst r;exact RVs.nil
 |x::xs,vs,r=>by
  simp only[RFs] at r;obtain⟨v,t,rfl,r1,r2⟩:=r;exact RVs.cons (by simp only[RV];exact r1) (RVs.ofF r2)
theorem RVs.toF{μ:List Addr}{L:Addr->Prop}{H:Hp}:∀{xs:List MV}{ys:List FV}{vs:List V},Yh xs=some ys->RVs ct μ L H xs vs->RFs ct L H ys vs
 |[],ys,vs,e,r=>by simp[Yh] at e;subst e;simp only[RVs] at r;subst r;simp only[RFs]
 |.f x::xs,ys,vs,e,r=>by
  simp only[Yh,ub] at e;obtain⟨zs,e1,rfl⟩:=e;simp only[RVs] at r;obtain⟨v,t,rfl,r1,r2⟩:=r;simp only[RFs];exact⟨v,t,rfl,by simpa only[RV] using r1,RVs.toF e1 r2⟩
 |.ref _::_,_,_,e,_=>by simp[Yh] at e
 |.tup _::_,_,_,e,_=>by simp[Yh] at e
 |.exc _::_,_,_,e,_=>by simp[Yh] at e
end
section
variable {ct:Tx}
structure RelSt (ct:Tx) (μ:List Addr) (h:MH) (H:Hp) (σ:L2.St) (σs:MSt):Prop where
 len:σ.length=σs.length
 at_:∀(i:Nat)(m:MV),σs[i]?=some (some m)->∃ v,σ[i]?=some (some v)/\RV ct μ (Liv μ h) H m v
theorem RelSt.ext{μ μ':List Addr}{h h':MH}{H H':Hp}{σ:L2.St}{σs:MSt}(e:Ext μ h H μ' h' H')(r:RelSt ct μ h H σ σs):RelSt ct μ' h' H' σ σs :=
 ⟨r.len,λi m q=>let ⟨v,a,b⟩:=r.at_ i m q;⟨v,a,b.ext e⟩⟩
theorem RelSt.set{μ:List Addr}{h:MH}{H:Hp}{σ:L2.St}{σs:MSt}{m:MV}{v:V}(i:Nat)(r:RelSt ct μ h H σ σs)(q:RV ct μ (Liv μ h) H m v):RelSt ct μ h H (σ.set i (some v)) (σs.set i (some m)):=by
 refine⟨by simp[r.len],λj m' e=>?_⟩;by_cases hj:i=j
 ·subst hj;have hi:i<σs.length:=by
   have:=(Xa.mp e).1;simpa using this
  rw[vc hi] at e;cases e;exact⟨v,by rw[vc (by rw[r.len];exact hi)],q⟩
 ·rw[Ud hj] at e;obtain⟨u,a,b⟩:=r.at_ j m' e;exact⟨u,by rw[Ud hj];exact a,b⟩
noncomputable def Po{α:Type}(ct:Tx)(E:XK)(r:R α)(μ:List Addr)(h:MH)(H:Hp)(k:α->List Addr->MH->Hp->Prop):Prop:=match r with
 |.ok x h'=>∀ μ' H',Ext μ h H μ' h' H'->Rel ct μ' h' H'->k x μ' h' H'
 |.exc c h'=>∀ μ' H',Ext μ h H μ' h' H'->Rel ct μ' h' H'->∀ d,XD (Liv μ' h') H' c d->E (.ref (ct (xcl c))) d H'
 |.stuck=>False
section
variable {α β:Type} {E:XK} {μ μ1:List Addr} {h h1:MH} {H H1:Hp}
theorem Po.start{r:R α}{k:α->List Addr->MH->Hp->Prop}(e:Ext μ h H μ1 h1 H1)(p:Po ct E r μ h H k):Po ct E r μ1 h1 H1 k:=by
 cases r with
 |ok x h'=>exactλμ' H' e' r'=>p μ' H' (e.trans e') r'
 |exc c h'=>exactλμ' H' e' r'=>p μ' H' (e.trans e') r'
 |stuck=>exact p
theorem Po.bind{r:R α}{g:α->MH->R β}{k:β->List Addr->MH->Hp->Prop}(p:Po ct E (r.bind g) μ h H k):Po ct E r μ h H λx μ1 h1 H1=>Ext μ h H μ1 h1 H1/\Rel ct μ1 h1 H1/\Po ct E (g x h1) μ1 h1 H1 k:=by
 cases r with
 |ok x h'=>exactλμ' H' e' r'=>⟨e',r',Po.start (r:=g x h') e' p⟩
 |exc c h'=>exact p
 |stuck=>exact p
theorem Po.imp{r:R α}{k k':α->List Addr->MH->Hp->Prop}(p:Po ct E r μ h H k)(f:∀ x μ1 h1 H1,k x μ1 h1 H1->k' x μ1 h1 H1):Po ct E r μ h H k':=by
 cases r with
 |ok x h'=>exactλμ' H' e' r'=>f _ _ _ _ (p μ' H' e' r')
 |exc c h'=>exact p
 |stuck=>exact p
theorem Po.opt{o:Option α}{g:α->R β}{k:β->List Addr->MH->Hp->Prop}(p:Po ct E (opt o g) μ h H k):∃ x,o=some x/\Po ct E (g x) μ h H k:=by
 cases o with
 |none=>exact p.elim
 |some x=>exact⟨x,rfl,p⟩
theorem Po.now{x:α}{k:α->List Addr->MH->Hp->Prop}(rel:Rel ct μ h H)(p:Po ct E (.ok x h) μ h H k):k x μ h H:=p μ H (Ext.refl _ _ _) rel
theorem Po.now'{x:α}{h':MH}{k:α->List Addr->MH->Hp->Prop}(p:Po ct E (.ok x h') μ h H k){μ':List Addr}{H':Hp}(e:Ext μ h H μ' h' H')(rel:Rel ct μ' h' H'):k x μ' h' H':=p μ' H' e rel
end
noncomputable def kV(ct:Tx)(Q:VK):MV->List Addr->MH->Hp->Prop:=λm μ h H=>∀ v,RV ct μ (Liv μ h) H m v->Q v H
noncomputable def kVs(ct:Tx)(Q:List V->Hp->Prop):List MV->List Addr->MH->Hp->Prop:=λm μ h H=>∀ v,RVs ct μ (Liv μ h) H m v->Q v H
section
variable (ct) (Ra:L2.St->Prop) (E:XK)
noncomputable def lE(ev:MSt->MH->R MV):TE:=λσ H Q=>∃ μ h σs,Rel ct μ h H/\RelSt ct μ h H σ σs/\Ra σ/\Po ct E (ev σs h) μ h H (kV ct Q)
noncomputable def lT(ev:MSt->MH->R Bool):TT:=λσ H Q=>∃ μ h σs,Rel ct μ h H/\RelSt ct μ h H σ σs/\Ra σ/\Po ct E (ev σs h) μ h H λb _ _ H'=>Q b H'
noncomputable def lA(ev:MSt->MH->R (List MV)):TA:=λσ H Q=>∃ μ h σs,Rel ct μ h H/\RelSt ct μ h H σ σs/\Ra σ/\Po ct E (ev σs h) μ h H (kVs ct Q)
noncomputable def lO(ev:MSt->MH->R (Option Int)):TO:=λσ H Q=>∃ μ h σs,Rel ct μ h H/\RelSt ct μ h H σ σs/\Ra σ/\Po ct E (ev σs h) μ h H λb _ _ H'=>Q b H'
end
section
variable {Ra:L2.St->Prop} {E:XK} {μ:List Addr} {h:MH} {H:Hp} {σ:L2.St} {σs:MSt} {β:Type}
theorem lE.mk{ev:MSt->MH->R MV}{g:MV->MH->R β}{k:β->List Addr->MH->Hp->Prop}{Q:VK}(rel:Rel ct μ h H)(rst:RelSt ct μ h H σ σs)(ra:Ra σ)(p:Po ct E ((ev σs h).bind g) μ h H k)
  (f:∀ m v μ1 h1 H1,Ext μ h H μ1 h1 H1->Rel ct μ1 h1 H1->RelSt ct μ1 h1 H1 σ σs->RV ct μ1 (Liv μ1 h1) H1 m v->Po ct E (g m h1) μ1 h1 H1 k->Q v H1):lE ct Ra E ev σ H Q :=
 ⟨μ,h,σs,rel,rst,ra,(Po.bind p).imp λm μ1 h1 H1 ⟨e1,r1,p1⟩ v rv=>f m v μ1 h1 H1 e1 r1 (rst.ext e1) rv p1⟩
theorem lT.mk{ev:MSt->MH->R Bool}{g:Bool->MH->R β}{k:β->List Addr->MH->Hp->Prop}{Q:Bool->Hp->Prop}(rel:Rel ct μ h H)(rst:RelSt ct μ h H σ σs)(ra:Ra σ)(p:Po ct E ((ev σs h).bind g) μ h H k)
  (f:∀ m μ1 h1 H1,Ext μ h H μ1 h1 H1->Rel ct μ1 h1 H1->RelSt ct μ1 h1 H1 σ σs->Po ct E (g m h1) μ1 h1 H1 k->Q m H1):lT ct Ra E ev σ H Q :=
 ⟨μ,h,σs,rel,rst,ra,(Po.bind p).imp λm μ1 h1 H1 ⟨e1,r1,p1⟩=>f m μ1 h1 H1 e1 r1 (rst.ext e1) p1⟩
theorem lA.mk{ev:MSt->MH->R (List MV)}{g:List MV->MH->R β}{k:β->List Addr->MH->Hp->Prop}{Q:List V->Hp->Prop}(rel:Rel ct μ h H)(rst:RelSt ct μ h H σ σs)(ra:Ra σ)(p:Po ct E ((ev σs h).bind g) μ h H k)
  (f:∀ m v μ1 h1 H1,Ext μ h H μ1 h1 H1->Rel ct μ1 h1 H1->RelSt ct μ1 h1 H1 σ σs->RVs ct μ1 (Liv μ1 h1) H1 m v->Po ct E (g m h1) μ1 h1 H1 k->Q v H1):lA ct Ra E ev σ H Q :=
 ⟨μ,h,σs,rel,rst,ra,(Po.bind p).imp λm μ1 h1 H1 ⟨e1,r1,p1⟩ v rv=>f m v μ1 h1 H1 e1 r1 (rst.ext e1) rv p1⟩
theorem lO.mk{ev:MSt->MH->R (Option Int)}{g:Option Int->MH->R β}{k:β->List Addr->MH->Hp->Prop}{Q:Option Int->Hp->Prop}(rel:Rel ct μ h H)(rst:RelSt ct μ h H σ σs)(ra:Ra σ)(p:Po ct E ((ev σs h).bind g) μ h H k)
  (f:∀ m μ1 h1 H1,Ext μ h H μ1 h1 H1->Rel ct μ1 h1 H1->RelSt ct μ1 h1 H1 σ σs->Po ct E (g m h1) μ1 h1 H1 k->Q m H1):lO ct Ra E ev σ H Q :=
 ⟨μ,h,σs,rel,rst,ra,(Po.bind p).imp λm μ1 h1 H1 ⟨e1,r1,p1⟩=>f m μ1 h1 H1 e1 r1 (rst.ext e1) p1⟩
end
section
variable {μ:List Addr} {h:MH} {H:Hp}
theorem Liv.has(rel:Rel ct μ h H){b:Addr}(l:Liv μ h b):∃ o,H b=some o:=let ⟨i,_,e,_,_⟩:=l;rel.has b (Xc e)
theorem Rel.fresh(rel:Rel ct μ h H){p:Addr}(hp:H p=none):p∉μ:=λz=>by obtain⟨o,e⟩:=rel.has p z;rw[hp] at e;cases e
theorem Ext.new(rel:Rel ct μ h H){p:Addr}(hp:H p=none)(o:HO):Ext μ h H μ h (upd H p o) :=
 ⟨⟨[],by simp⟩,λb u e _=>by rw[Qa (Zd e hp)];exact e,λb l=>.inl l⟩
theorem CellOk.to{μ ν:List Addr}{L L':Addr->Prop}{H H':Hp}{b:Addr}{c:Cell}(l:Let L H L' H')(kb:c≠.dead->H' b=H b)(r:CellOk ct μ L H b c):CellOk ct (μ++ν) L' H' b c:=by
 cases c with
 |lst xs =>
  obtain⟨vs,e,q⟩:=r;exact⟨vs,by rw[kb (λz=>nomatch z)];exact e,RVs.to l q⟩
 |obj c fs =>
  obtain⟨dx,gs,e,q1,q⟩:=r;exact⟨dx,gs,by rw[kb (λz=>nomatch z)];exact e,q1,RVs.to l q⟩
 |dic ks=>exact(kb (λz=>nomatch z)).trans r
 |tab ks=>exact(kb (λz=>nomatch z)).trans r
 |msk ks=>exact(kb (λz=>nomatch z)).trans r
 |code =>
  obtain⟨e,r⟩:=r;have kb:=kb (λz=>nomatch z);refine⟨e,r.elim (λr=>.inl (kb.trans r)) λ⟨c',n1,n2,r1,r2⟩=>.inr ⟨c',n1,l.liv _ _ r2 n2,kb.trans r1,l.keep _ _ r2 n2⟩⟩
 |dead=>trivial
theorem Rel.new(rel:Rel ct μ h H){p:Addr}(hp:H p=none)(o:HO):Rel ct μ h (upd H p o):=by
 refine⟨rel.len,rel.nd,λb hb=>?_,λi b c e1 e2=>?_⟩
 ·obtain⟨u,e⟩:=rel.has b hb;exact⟨u,by rw[Qa (Zd e hp)];exact e⟩
 ·have:=CellOk.to (ν:=[]) (Ext.new rel hp o).let (b:=b) (λ_=>by
   obtain⟨u,e⟩:=rel.has b (Xc e1);exact Qa (Zd e hp)) (rel.cells i b c e1 e2)
  simpa using this
theorem Liv.app{μ:List Addr}{h:MH}(hl:μ.length=h.length){p b:Addr}{c:Cell}(l:Liv (μ++[p]) (h++[c]) b):Liv μ h b\/b=p:=by
 obtain⟨i,d,e1,e2,nd⟩:=l;by_cases hi:i<μ.length
 ·rw[va hi] at e1;rw[va (by lia)] at e2;exact .inl ⟨i,d,e1,e2,nd⟩
 ·rw[Xd (by lia)] at e1;have:i-μ.length=0:=by
   have:=(Xa.mp e1).1;simp at this;lia
  rw[this] at e1;simp at e1;exact .inr e1.symm
theorem Ext.cell(rel:Rel ct μ h H){p:Addr}(hp:H p=none)(c:Cell)(o:HO):Ext μ h H (μ++[p]) (h++[c]) (upd H p o) :=
 ⟨⟨[p],rfl⟩,λb u e _=>by rw[Qa (Zd e hp)];exact e,λb l=>(Liv.app rel.len l).imp id λe=>by rw[e];exact hp⟩
theorem Rel.cell(rel:Rel ct μ h H){p:Addr}(hp:H p=none){c:Cell}{o:HO}(q:CellOk ct (μ++[p]) (Liv (μ++[p]) (h++[c])) (upd H p o) p c):Rel ct (μ++[p]) (h++[c]) (upd H p o):=by
 have hn:=rel.fresh hp;refine⟨by simp[rel.len],?_,λb hb=>?_,λi b d e1 e2=>?_⟩
 ·rw[xv];exact⟨rel.nd,by simp,λa ha b hb e=>by simp at hb;subst hb;subst e;exact hn ha⟩
 ·rcases Uf.mp hb with hb|hb
  ·obtain⟨u,e⟩:=rel.has b hb;exact⟨u,by rw[Qa (Zd e hp)];exact e⟩
  ·simp at hb;subst hb;exact⟨o,qb⟩
 ·by_cases hi:i<μ.length
  ·rw[va hi] at e1;rw[va (by have:=rel.len;lia)] at e2;exact CellOk.to (Ext.cell rel hp c o).let (λ_=>by
    obtain⟨u,e⟩:=rel.has b (Xc e1);exact Qa (Zd e hp)) (rel.cells i b d e1 e2)
  ·rw[Xd (by lia)] at e1;rw[Xd (by have:=rel.len;lia)] at e2;have:i-μ.length=0:=by
    have:=(Xa.mp e1).1;simp at this;lia
   have h2:i-h.length=0:=by rw[<- rel.len];exact this
   rw[this] at e1;rw[h2] at e2;simp at e1 e2;subst e1;subst e2;exact q
theorem Liv.set{i:Nat}{c c':Cell}{b:Addr}(e:h[i]?=some c)(hc:c≠.dead)(l:Liv μ (h.set i c') b):Liv μ h b:=by
 obtain⟨j,d,e1,e2,nd⟩:=l;by_cases hj:i=j
 ·subst hj;exact⟨i,c,e1,e,hc⟩
 ·rw[Ud hj] at e2;exact⟨j,d,e1,e2,nd⟩
theorem Ext.set(rel:Rel ct μ h H){i:Nat}{b:Addr}{c:Cell}(e1:μ[i]?=some b)(e2:h[i]?=some c)(hc:c≠.dead)(c':Cell)(o:HO):Ext μ h H μ (h.set i c') (upd H b o) :=
 ⟨⟨[],by simp⟩,λd u e n=>by rw[Qa (λ(z:d=b)=>n (by rw[z];exact⟨i,c,e1,e2,hc⟩))];exact e,λd l=>.inl (Liv.set e2 hc l)⟩
theorem Rel.set(rel:Rel ct μ h H){i:Nat}{b:Addr}{c:Cell}(e1:μ[i]?=some b)(e2:h[i]?=some c)(hc:c≠.dead){c':Cell}{o:HO}(q:CellOk ct μ (Liv μ (h.set i c')) (upd H b o) b c'):Rel ct μ (h.set i c') (upd H b o):=by
 refine⟨by simp[rel.len],rel.nd,λd hd=>?_,λj d u q1 q2=>?_⟩
 ·by_cases hdb:d=b
  ·exact⟨o,by rw[hdb];exact qb⟩
  ·obtain⟨u,e⟩:=rel.has d hd;exact⟨u,by rw[Qa hdb];exact e⟩
 ·by_cases hj:i=j
  ·subst hj;rw[e1] at q1;cases q1;rw[vc (Xa.mp e2).1] at q2;cases q2;exact q
  ·rw[Ud hj] at q2;have ne:d≠b:=λz=>by
    subst z;exact hj ((Xv (Xa.mp e1).1 rel.nd).mp (e1.trans q1.symm))
   have:=CellOk.to (ν:=[]) (Ext.set rel e1 e2 hc c' o).let (b:=d) (λ_=>Qa ne) (rel.cells j d u q1 q2);simpa using this
end
end
section
variable {ct:Tx}
section
variable {μ:List Addr} {h:MH} {H:Hp}
theorem Qag{as:List Nat}{i:Nat}{c:Cell}(e:(kill as h)[i]?=some c):(i∈as/\c=.dead)\/(i∉as/\h[i]?=some c):=by
 unfold kill at e;rw[Um] at e;cases q:h[i]? with
 |none=>rw[q] at e;cases e
 |some d =>
  rw[q] at e;by_cases hi:i∈as
  ·simp[hi] at e;exact .inl ⟨hi,e.symm⟩
  ·simp[hi] at e;subst e;exact .inr ⟨hi,rfl⟩
theorem Liv.kill{as:List Nat}{b:Addr}(l:Liv μ (kill as h) b):Liv μ h b:=by
 obtain⟨i,c,e1,e2,nd⟩:=l
 rcases Qag e2 with ⟨_,z⟩|⟨_,z⟩
 ·exact absurd z nd
 ·exact⟨i,c,e1,z,nd⟩
theorem Ext.kill(as:List Nat):Ext μ h H μ (kill as h) H:=⟨⟨[],by simp⟩,λ_ _ e _=>e,λb l=>.inl l.kill⟩
theorem Rel.kill(rel:Rel ct μ h H)(as:List Nat):Rel ct μ (kill as h) H:=by
 refine⟨by rw[rel.len];simp[MP.kill],rel.nd,rel.has,λi b c e1 e2=>?_⟩
 rcases Qag e2 with ⟨_,z⟩|⟨_,z⟩
 ·subst z;trivial
 ·have:=CellOk.to (ν:=[]) (Ext.kill (H:=H) as).let (b:=b) (λ_=>rfl) (rel.cells i b c e1 z);simpa using this
theorem YF{i:Nat}{xs:List MV}(e:Ye h i=some xs):h[i]?=some (.lst xs):=by
 unfold Ye at e;split at e
 next q=>cases e;exact q
 next=>cases e
theorem Rel.lst(rel:Rel ct μ h H){i:Nat}{xs:List MV}(e:Ye h i=some xs):∃ b vs,μ[i]?=some b/\H b=some (.lst vs)/\RVs ct μ (Liv μ h) H xs vs:=by
 have e2:=YF e;have hi:i<μ.length:=by rw[rel.len];exact(Xa.mp e2).1
 obtain⟨vs,q1,q2⟩:=rel.cells i μ[i] (.lst xs) (by simp[hi]) e2;exact⟨_,vs,by simp[hi],q1,q2⟩
theorem YbB{as:List Nat}(rel:Rel ct μ h H){i:Nat}{b:Addr}(e:μ[i]?=some b)(hi:i∈as):¬ Liv μ (MP.kill as h) b:=λ⟨j,c,e1,e2,nd⟩=>by
 have:i=j:=(Xv (Xa.mp e).1 rel.nd).mp (e.trans e1.symm);subst this
 rcases Qag e2 with ⟨_,z⟩|⟨z,_⟩
 ·exact nd z
 ·exact z hi
theorem zaf{as:List Nat}{g:MV->Option FV}:∀{xs:List MV}{ys:List FV}{vs:List V},xs.mapM g=some ys->RVs ct μ (Liv μ h) H xs vs ->
  (∀ x∈xs,∀ y v,g x=some y->RV ct μ (Liv μ h) H x v->RF ct (Liv μ (MP.kill as h)) H y v)->RFs ct (Liv μ (MP.kill as h)) H ys vs
 |[],ys,vs,e,r,_=>by
  simp at e;subst e;simp only[RVs] at r;subst r;simp only[RFs]
 |x::xs,ys,vs,e,r,f=>by
  simp only[Wn,Up,Xb,uw,Option.some.injEq] at e;obtain⟨y,e1,zs,e2,rfl⟩:=e;simp only[RVs] at r;obtain⟨v,t,rfl,r1,r2⟩:=r;simp only[RFs];exact⟨v,t,rfl,f x (by simp) y v e1 r1,zaf e2 r2 λz hz=>f z (by simp[hz])⟩
theorem zaz(rel:Rel ct μ h H){as:List Nat}:∀(n:Nat)(m:MV)(x:FV)(v:V),(∀ a∈Ql h n m,a∈as)->qk h n m=some x->RV ct μ (Liv μ h) H m v->RF ct (Liv μ (MP.kill as h)) H x v
 |0,m,x,v,_,e,_=>by simp[qk] at e
 |n+1,.f y,x,v,_,e,r=>by
  simp[qk] at e;subst e;simp only[RV] at r;exact RF.to (Ext.kill (H:=H) as).let r
 |n+1,.tup xs,x,v,hs,e,r=>by
  simp only[qk,ub] at e;obtain⟨ys,e1,rfl⟩:=e;simp only[RV] at r;obtain⟨a,vs,rfl,na,rd,q⟩:=r;simp only[RF];refine⟨a,vs,rfl,λl=>na l.kill,rd,zaf e1 q λz hz y u ez ru=>zaz rel n z y u (λa ha=>hs a ?_) ez ru⟩;simp only[Ql,ur];exact⟨z,hz,ha⟩
 |n+1,.ref i,x,v,hs,e,r=>by
  simp only[qk,Xb,ub] at e;obtain⟨xs,e0,ys,e1,rfl⟩:=e;simp only[RV] at r;obtain⟨b,eb,rfl⟩:=r;obtain⟨b',vs,eb',hb,q⟩:=rel.lst e0;rw[eb] at eb';cases eb';simp only[RF];refine⟨b,vs,rfl,YbB rel eb (hs i (by simp[Ql])),.inl hb,zaf e1 q λz hz y u ez ru=>zaz rel n z y u (λa ha=>hs a ?_) ez ru⟩;simp only[Ql,e0,Xr,xa,ur];exact .inr ⟨z,hz,ha⟩
 |n+1,.exc _,x,v,_,e,_=>by simp[qk] at e
theorem YbD{E:XK}{m:MV}{v:V}{k:MV->List Addr->MH->Hp->Prop}(rel:Rel ct μ h H)(r:RV ct μ (Liv μ h) H m v)(p:Po ct E (QD m h) μ h H k) :
  ∃ x h',Ext μ h H μ h' H/\Rel ct μ h' H/\RV ct μ (Liv μ h') H (.f x) v/\k (.f x) μ h' H:=by
 unfold QD at p;obtain⟨x,e,p⟩:=p.opt;refine⟨x,_,Ext.kill _,rel.kill _,?_,p.now' (Ext.kill _) (rel.kill _)⟩;simp only[RV];exact zaz rel 5 m x v (λa ha=>ha) e r
end
mutual
noncomputable def Bel(n:Nat):MV->Prop
 |.ref i=>i<n
 |.tup xs=>Bels n xs
 |_=>True
noncomputable def Bels(n:Nat):List MV->Prop
 |[]=>True
 |x::xs=>Bel n x/\Bels n xs
end
mutual
theorem RV.bel{μ:List Addr}{L:Addr->Prop}{H:Hp}:∀{m:MV}{v:V},RV ct μ L H m v->Bel μ.length m
 |.f _,_,_=>by simp only[Bel]
 |.ref i,v,r=>by
  simp only[RV] at r;obtain⟨b,e,_⟩:=r;simp only[Bel];exact(Xa.mp e).1
 |.tup xs,v,r=>by
  simp only[RV] at r;obtain⟨a,vs,_,_,_,q⟩:=r;simp only[Bel];exact RVs.bel q
 |.exc _,_,_=>by simp only[Bel]
theorem RVs.bel{μ:List Addr}{L:Addr->Prop}{H:Hp}:∀{xs:List MV}{vs:List V},RVs ct μ L H xs vs->Bels μ.length xs
 |[],_,_=>by simp only[Bels]
 |x::xs,vs,r=>by
  simp only[RVs] at r;obtain⟨v,t,_,r1,r2⟩:=r;simp only[Bels];exact⟨RV.bel r1,RVs.bel r2⟩
end
mutual
theorem RV.cut{μ ν:List Addr}{L L':Addr->Prop}{H:Hp}(l:∀ b,L' b->L b):∀{m:MV}{v:V},Bel μ.length m->RV ct (μ++ν) L H m v->RV ct μ L' H m v
 |.f x,v,_,r=>by simp only[RV] at r ⊢;exact RF.to ⟨λ_ _ e _=>e,λb _ _ n z=>n (l b z)⟩ r
 |.ref i,v,b,r=>by
  simp only[RV] at r ⊢;simp only[Bel] at b;obtain⟨c,e,q⟩:=r;rw[va b] at e;exact⟨c,e,q⟩
 |.tup xs,v,b,r=>by
  simp only[RV] at r ⊢;simp only[Bel] at b;obtain⟨a,vs,e,n,rd,q⟩:=r;exact⟨a,vs,e,λz=>n (l a z),rd,RVs.cut l b q⟩
 |.exc _,v,_,r=>by
  simp only[RV] at r ⊢;obtain⟨a,d,e,n,q,x⟩:=r;exact⟨a,d,e,λz=>n (l a z),q,XD.to ⟨λ_ _ e _=>e,λb _ _ n z=>n (l b z)⟩ x⟩
theorem RVs.cut{μ ν:List Addr}{L L':Addr->Prop}{H:Hp}(l:∀ b,L' b->L b):∀{xs:List MV}{vs:List V},Bels μ.length xs->RVs ct (μ++ν) L H xs vs->RVs ct μ L' H xs vs
 |[],vs,_,r=>by simpa only[RVs] using r
 |x::xs,vs,b,r=>by
  simp only[RVs] at r ⊢;simp only[Bels] at b;obtain⟨v,t,e,r1,r2⟩:=r;exact⟨v,t,e,RV.cut l b.1 r1,RVs.cut l b.2 r2⟩
end
theorem Bels.flat(n:Nat):∀ ys:List FV,Bels n (ys.map MV.f)
 |[]=>by simp only[Xn,Bels]
 |y::ys=>by simp only[xc,Bels,Bel];exact⟨trivial,Bels.flat n ys⟩
noncomputable def zaD(n:Nat):Cell->Prop
 |.lst xs=>Bels n xs
 |.obj _ fs=>Bels n (fs.map wl)
 |.dic _=>True
 |.tab _=>True
 |.msk _=>True
 |.code=>True
 |.dead=>True
theorem CellOk.bel{μ:List Addr}{L:Addr->Prop}{H:Hp}{b:Addr}{c:Cell}(r:CellOk ct μ L H b c):zaD μ.length c:=by
 cases c with
 |lst xs=>obtain⟨vs,_,q⟩:=r;exact q.bel
 |obj c fs=>obtain⟨dx,gs,_,_,q⟩:=r;exact q.bel
 |dic ks=>trivial
 |tab ks=>trivial
 |msk ks=>trivial
 |code=>trivial
 |dead=>trivial
theorem FlatC.bel{n:Nat}{c:Cell}(r:FlatC c):zaD n c:=by
 cases c with
 |lst xs=>obtain⟨ys,rfl⟩:=r;exact Bels.flat n ys
 |obj c fs =>
  obtain⟨ys,rfl⟩:=r;show Bels n _;rw[Ui];have:=Bels.flat n (ys.map wl);rw[Ui] at this;exact this
 |dic ks=>trivial
 |tab ks=>trivial
 |msk ks=>trivial
 |code=>trivial
 |dead=>trivial
theorem CellOk.cut{μ ν:List Addr}{L L':Addr->Prop}{H:Hp}{b:Addr}{c:Cell}(l:∀ b,L' b->L b)(k:zaD μ.length c)(r:CellOk ct (μ++ν) L H b c):CellOk ct μ L' H b c:=by
 cases c with
 |lst xs=>obtain⟨vs,e,q⟩:=r;exact⟨vs,e,RVs.cut l k q⟩
 |obj c fs=>obtain⟨dx,gs,e,q1,q⟩:=r;exact⟨dx,gs,e,q1,RVs.cut l k q⟩
 |dic ks=>exact r
 |tab ks=>exact r
 |msk ks=>exact r
 |code=>exact⟨r.1,r.2.imp id λ⟨c',n1,n2,r⟩=>⟨c',n1,λz=>n2 (l _ z),r⟩⟩
 |dead=>trivial
theorem Qbd:∀{xs:List MV}{ys:List FV},Yh xs=some ys->xs=ys.map MV.f
 |[],ys,e=>by simp[Yh] at e;subst e;rfl
 |.f x::xs,ys,e=>by
  simp only[Yh,ub] at e;obtain⟨zs,e1,rfl⟩:=e;rw[Qbd e1];rfl
 |.ref _::_,_,e=>by simp[Yh] at e
 |.tup _::_,_,e=>by simp[Yh] at e
 |.exc _::_,_,e=>by simp[Yh] at e
section
variable {μ ν:List Addr} {h h':MH} {H H':Hp}
theorem Liv.cut(hl:μ.length=h.length){b:Addr}(l:Liv μ (h'.take h.length) b):Liv (μ++ν) h' b:=by
 obtain⟨i,c,e1,e2,nd⟩:=l;have hi:i<μ.length:=(Xa.mp e1).1;rw[Vk (by lia)] at e2;exact⟨i,c,by rw[va hi];exact e1,e2,nd⟩
theorem Ext.cut(hl:μ.length=h.length)(e:Ext μ h H (μ++ν) h' H'):Ext μ h H μ (h'.take h.length) H':=⟨⟨[],by simp⟩,e.keep,λb l=>e.liv b (Liv.cut hl l)⟩
theorem Rel.cut(rel:Rel ct μ h H)(t:TrOk h h')(rel':Rel ct (μ++ν) h' H'):Rel ct μ (h'.take h.length) H':=by
 refine⟨by rw[rel.len,Uo];have:=t.1;lia,(xv.mp rel'.nd).1,λb hb=>rel'.has b (ud _ hb),λi b c e1 e2=>?_⟩;have hi:i<μ.length:=(Xa.mp e1).1;have hi':i<h.length:=by rw[<- rel.len];exact hi
 rw[Vk hi'] at e2;refine CellOk.cut (λb l=>Liv.cut rel.len l) ?_ (rel'.cells i b c (by rw[va hi];exact e1) e2)
 rcases t.2 i c hi' e2 with q|q
 ·exact(rel.cells i b c e1 q).bel
 ·exact FlatC.bel q
set_option tactic.hygienic true in
theorem zaO{E:XK}{m:MV}{v:V}{Q:VK}(rel:Rel ct μ h H)(e:Ext μ h H (μ++ν) h' H')(rel':Rel ct (μ++ν) h' H')(r:RV ct (μ++ν) (Liv (μ++ν) h') H' m v)(p:Po ct E (yk h m h') μ h H (kV ct Q)):Q v H':=by
 unfold yk at p;split at p
 next t =>
  cases m with
  |f x =>
   refine p μ H' (Ext.cut rel.len e) (rel.cut t rel') v ?_;exact RV.cut (λb l=>Liv.cut rel.len l) (by simp only[Bel]) r
  |ref a =>
   dsimp only at p;split at p
   next ha =>
    split at p
    next xs ex =>
     split at p
     next ys ey =>
      simp only[RV] at r;obtain⟨b,eb,rfl⟩:=r;obtain⟨b',vs,eb',hb,q⟩:=rel'.lst ex;rw[eb] at eb';cases eb';have rc:=rel.cut t rel';have ec:=Ext.cut rel.len e;have nb:b∉μ:=λz=>by
       obtain⟨j,hj,ej⟩:=vt z;have:j=a:=(Xv (by simp;lia) rel'.nd).mp (by rw[va hj,eb];simp[hj,ej]);have:=rel.len
       lia
      have lv:∀ d,Liv (μ++[b]) (h'.take h.length++[.lst xs]) d->Liv (μ++ν) h' d:=λd l=>by
       rcases Liv.app (by rw[rc.len]) l with l|l
       ·exact Liv.cut rel.len l
       ·subst l;exact⟨a,.lst xs,eb,YF ex,λz=>nomatch z⟩
      have fl:RFs ct (Liv (μ++ν) h') H' ys vs:=RVs.toF ey q;have xs':xs=ys.map MV.f:=Qbd ey;refine p (μ++[b]) H' ⟨⟨[b],rfl⟩,e.keep,λd l=>e.liv d (lv d l)⟩ ?_ (.ref b) ?_
      ·refine⟨by simp[rc.len],?_,λd hd=>?_,λi d c e1 e2=>?_⟩
       ·rw[xv];exact⟨rc.nd,by simp,λx hx y hy z=>by simp at hy;subst hy;subst z;exact nb hx⟩
       ·rcases Uf.mp hd with hd|hd
        ·exact rc.has d hd
        ·simp at hd;subst hd;exact⟨_,hb⟩
       ·by_cases hi:i<μ.length
        ·rw[va hi] at e1;rw[va (by rw[<- rc.len];exact hi)] at e2;have c0:=rc.cells i d c e1 e2;have hi':i<h.length:=by rw[<- rel.len];exact hi
         have e2':=e2;rw[Vk hi'] at e2';have c1:=rel'.cells i d c (by rw[va hi];exact e1) e2';exact CellOk.to (ν:=[b]) (L:=Liv (μ++[b]) (h'.take h.length++[.lst xs])) ⟨λ_ _ e _=>e,λ_ _ _ n=>n⟩ (λ_=>rfl) (CellOk.cut lv c0.bel c1)
        ·rw[Xd (by lia)] at e1;rw[Xd (by rw[<- rc.len];lia)] at e2;have z:i-μ.length=0:=by
          have:=(Xa.mp e1).1;simp at this;lia
         have z2:i-(h'.take h.length).length=0:=by rw[<- rc.len];exact z
         rw[z] at e1;rw[z2] at e2;simp at e1 e2;subst e1;subst e2;refine⟨vs,hb,?_⟩;rw[xs'];rw[xs'] at lv;exact RVs.ofF (RFs.to ⟨λ_ _ e _=>e,λd _ _ n l=>n (lv d l)⟩ fl)
      ·simp only[RV];exact⟨b,by rw[<- rel.len];simp,rfl⟩
     next=>exact p (μ++ν) H' e rel' v r
    next=>exact p (μ++ν) H' e rel' v r
   next=>exact p (μ++ν) H' e rel' v r
  |tup xs=>exact p (μ++ν) H' e rel' v r
  |exc c=>exact p (μ++ν) H' e rel' v r
 next=>exact p (μ++ν) H' e rel' v r
set_option tactic.hygienic true in
theorem ybm{E:XK}{c:String}{k:MV->List Addr->MH->Hp->Prop}(rel:Rel ct μ h H)(e:Ext μ h H (μ++ν) h' H')(rel':Rel ct (μ++ν) h' H')(p:Po ct E (qL h c h') μ h H k):∀ d,XD (Liv (μ++ν) h') H' c d->E (.ref (ct (xcl c))) d H':=by
 unfold qL at p;split at p
 next t=>exactλd x=>p μ H' (Ext.cut rel.len e) (rel.cut t rel') d (XD.to ⟨λ_ _ e _=>e,λb _ _ n l=>n (by
  obtain⟨i,c,e1,e2,e3⟩:=l;have hi:i<μ.length:=(Xa.mp e1).1;exact⟨i,c,by rw[va hi];exact e1,by rw[Vk (by rw[<- rel.len];exact hi)] at e2;exact e2,e3⟩)⟩ x)
 next=>exact p (μ++ν) H' e rel'
end
end
section
variable {ct:Tx} {X:Cx} {E:XK}
section
variable {μ:List Addr} {h:MH} {L:Addr->Prop} {H:Hp} {m:MV} {v:V}
theorem Yg{i:Int}(e:qc m=some i):m=.f (.int i):=by
 unfold qc at e;split at e
 next=>cases e;rfl
 next=>cases e
theorem Qae{i:Bool}(e:zA m=some i):m=.f (.bl i):=by
 unfold zA at e;split at e
 next=>cases e;rfl
 next=>cases e
theorem zk{i:Int}(r:RV ct μ L H (.f (.int i)) v):v=.int i:=by simpa only[RV,RF] using r
theorem Zax{i:Bool}(r:RV ct μ L H (.f (.bl i)) v):v=.bl i:=by simpa only[RV,RF] using r
theorem yn(i:Int):RV ct μ L H (.f (.int i)) (.int i):=by simp only[RV,RF]
theorem Zx(i:Bool):RV ct μ L H (.f (.bl i)) (.bl i):=by simp only[RV,RF]
theorem yE(i:Str):RV ct μ L H (.f (.str i)) (.str i):=by simp only[RV,RF]
theorem ZaG:RV ct μ L H (.f .non) .non:=by simp only[RV,RF]
set_option tactic.hygienic true in
theorem zo{xs:List MV}(rel:Rel ct μ h H)(e:MP.listOf h m=some xs)(r:RV ct μ (Liv μ h) H m v):∃ a vs,v=.ref a/\Rd H a (.lst vs)/\RVs ct μ (Liv μ h) H xs vs:=by
 unfold MP.listOf at e;split at e
 next ys =>
  cases e;simp only[RV,RF] at r;obtain⟨a,vs,e1,_,rd,q⟩:=r;exact⟨a,vs,e1,rd,RVs.ofF q⟩
 next i =>
  obtain⟨b,vs,e1,e2,q⟩:=rel.lst e;simp only[RV] at r;obtain⟨b',e3,rfl⟩:=r;rw[e1] at e3;cases e3;exact⟨b,vs,rfl,.inl e2,q⟩
 next=>cases e
set_option tactic.hygienic true in
theorem Qs{xs:List MV}(e:Qj m=some xs)(r:RV ct μ L H m v):∃ a vs,v=.ref a/\¬ L a/\H a=some (.tup vs)/\RVs ct μ L H xs vs:=by
 unfold Qj at e;split at e
 next ys =>
  cases e;simp only[RV,RF] at r;obtain⟨a,vs,e1,n,rd,q⟩:=r;exact⟨a,vs,e1,n,rd,RVs.ofF q⟩
 next ys =>
  cases e;simp only[RV] at r;exact r
 next=>cases e
set_option tactic.hygienic true in
theorem Ys{xs:List MV}(e:Zb h m=some xs):Qj m=some xs\/MP.listOf h m=some xs\/∃ ns,m=.f (.scr ns)/\xs=ns.map λi=>MV.f (.int i):=by
 unfold Zb at e;split at e
 next=>exact .inl e
 next=>exact .inr (.inl e)
 next ns=>cases e;exact .inr (.inr ⟨ns,rfl,rfl⟩)
 next=>exact .inl e
 next=>exact .inr (.inl e)
 next=>cases e
noncomputable def SqR(ct:Tx)(H:Hp)(b:Bool)(a:Addr)(vs:List V):Prop:=SqS ct.K H b a vs
theorem SqR.s{K:PySem.W.Frag}{b:Bool}{a:Addr}{vs:List V}(hK:K=ct.K)(q:SqR ct H b a vs):SqS K H b a vs:=by rw[hK];exact q
theorem qT{L:Addr->Prop}:∀ ns:List Int,RVs ct μ L H (ns.map λi=>MV.f (.int i)) (ns.map V.int)
 |[]=>by simp only[Xn,RVs]
 |i::ns=>by
  simp only[xc,RVs];exact⟨.int i,_,rfl,yn i,qT ns⟩
theorem Qay{L:Addr->Prop}{a:Addr}{ns:List Int}(q:(¬ L a/\∃ o,H a=some (.frz o (.lst (ns.map V.int))))\/ScrK ct.K a ns):SqL ct.K H a (ns.map V.int):=q.elim (λ⟨_,o,e⟩=>.inl (.inr ⟨o,e⟩)) .inr
theorem qw{xs:List MV}(rel:Rel ct μ h H)(e:Zb h m=some xs)(r:RV ct μ (Liv μ h) H m v):∃ b a vs,v=.ref a/\SqR ct H b a vs/\RVs ct μ (Liv μ h) H xs vs:=by
 rcases Ys e with e|e|⟨ns,rfl,rfl⟩
 ·obtain⟨a,vs,q1,_,q2,q3⟩:=Qs e r;exact⟨true,a,vs,q1,SqT.of q2,q3⟩
 ·obtain⟨a,vs,q1,q2,q3⟩:=zo rel e r;exact⟨false,a,vs,q1,.inl q2,q3⟩
 ·simp only[RV,RF] at r;obtain⟨a,rfl,q⟩:=r;exact⟨false,a,_,rfl,Qay q,qT ns⟩
theorem YO(rel:Rel ct μ h H){p:Addr}(hp:H p=none):¬ Liv μ h p:=λl=>by obtain⟨o,e⟩:=Liv.has rel l;rw[hp] at e;cases e
theorem Zz{fz:Bool}{xs:List MV}{vs:List V}{Q:VK}(rel:Rel ct μ h H)(r:RVs ct μ (Liv μ h) H xs vs)(p:Po ct E (Zk fz xs h) μ h H (kV ct Q)):∀ a,H a=none->Q (.ref a) (upd H a (.lst vs)):=by
 intro a ha;cases fz with
 |true =>
  obtain⟨ys,e,p⟩:=Po.opt (o:=Yh xs) (g:=λys=>R.ok (MV.f (.lst ys)) h) p;refine p μ _ (Ext.new rel ha _) (rel.new ha _) _ ?_;simp only[RV,RF];exact⟨a,vs,rfl,YO rel ha,.inl qb,RFs.to (Ext.new rel ha _).let (RVs.toF e r)⟩
 |false =>
  refine p (μ++[a]) _ (Ext.cell rel ha _ _) (rel.cell ha ?_) _ ?_
  ·exact⟨vs,qb,RVs.to (Ext.cell rel ha _ _).let r⟩
  ·simp only[RV];exact⟨a,by rw[<- rel.len];simp,rfl⟩
set_option tactic.hygienic true in
theorem QA{xs:List MV}{vs:List V}{a:Addr}(n:¬ L a)(rd:H a=some (.tup vs))(r:RVs ct μ L H xs vs):RV ct μ L H (zg xs) (.ref a):=by
 unfold zg;split
 next ys e =>
  simp only[RV,RF];exact⟨a,vs,rfl,n,rd,RVs.toF e r⟩
 next =>
  simp only[RV];exact⟨a,vs,rfl,n,rd,r⟩
theorem QU{xs:List MV}{vs:List V}{Q:VK}(rel:Rel ct μ h H)(r:RVs ct μ (Liv μ h) H xs vs)(p:Po ct E (.ok (zg xs) h) μ h H (kV ct Q)):∀ a,H a=none->Q (.ref a) (upd H a (.tup vs)):=by
 intro a ha;refine p μ _ (Ext.new rel ha _) (rel.new ha _) _ (QA (YO rel ha) qb ?_);have:=RVs.to (ν:=[]) (Ext.new rel ha (.tup vs)).let r;simpa using this
end
noncomputable def r2(ct:Tx)(E:XK)(g:MV->MV->MH->R MV):R2:=λx y H Q=>∃ μ h mx my,Rel ct μ h H/\RV ct μ (Liv μ h) H mx x/\RV ct μ (Liv μ h) H my y/\Po ct E (g mx my h) μ h H (kV ct Q)
theorem QaT{i:Int}(h:i.natAbs<MP.big):Builtin.Int.intBits i<=2^20:=by
 refine intBits_le_iff.mpr (Wc h ?_);exact vx (by decide) (by decide)
theorem ZbZ:OpR X (binaryOp .Mult) (rI Zaa λi j=>.int (i*j)):=opI λi j _ _ _ _ _ hc q=>by
 refine mul_int q ?_
 rcases hc with c|c|⟨c,d⟩
 ·exact .of_left (intBits_le_64 (by lia) (by lia))
 ·exact .of_right (intBits_le_64 (by lia) (by lia))
 ·exact .of_bits (QaT c) (QaT d)
theorem Yby:OpR X (binaryOp .FloorDiv) (rI ZbI λi j=>.int (i/j)):=opI λi j _ _ _ _ _ hc q=>by
 have h1:(0:Int)<j:=hc.1;refine floordiv_int (by lia) (by rw[xu i (by lia)];exact q) (.inl (PyProof.noPylong_of_log2 ?_));have:j.natAbs≠0:=by lia
 rcases hc.2 with c|c
 ·have:j.natAbs.log2<30:=(Wx (by lia)).mpr (by lia)
  lia
 ·have:j.natAbs.log2<4096:=(Wx (by lia)).mpr c
  lia
noncomputable def rCatR:R2:=λx y H Q=>∃ l b xs zs,x=.ref l/\y=.ref b/\Rd H l (.lst xs)/\Rd H b (.lst zs)/\xs.length+zs.length<=sizeLine/\∀ p,H p=none->Q (.ref p) (upd H p (.lst (xs++zs)))
theorem qbZ:OpR X (binaryOp .Add) rCatR:=by
 intro pins s σ H x y v u Q I rx ry h;obtain⟨l,b,xs,zs,rfl,rfl,hH,hB,hz,q⟩:=h;cases rx;cases ry;obtain⟨z,its,n,r,e⟩:=hH.ok I.hok;obtain⟨z2,its2,n2,r2,e2⟩:=hB.ok I.hok;have hl:=r.length;have hl2:=r2.length;refine PySem.P.add_list e e2 ?_ (by rw[vb,vb];lia);have ea:its.toArray++its2.toArray=(its++its2).toArray:=by simp
 rw[ea];exact⟨.ref _,_,I.lnew (t':=s.toks) (r.append r2) (by rw[xf];lia),rfl,q _ I.fresh⟩
end
theorem zJ:MP.sizeL<=sizeLine:=by decide
section
variable {ct:Tx} {X:Cx} {E:XK}
noncomputable def mOp:BO->Operator
 |.add=>.Add | .sub=>.Sub | .mul=>.Mult | .fdiv=>.FloorDiv | .mod=>.Mod | .pow=>.Pow
theorem OpR.imp{f:Value->Value->Sem Value}{r r':R2}(o:OpR X f r)(k:∀ x y H Q,r' x y H Q->r x y H Q):OpR X f r':=λpins s σ H x y v u Q I rx ry q=>o pins s σ H x y v u Q I rx ry (k _ _ _ _ q)
theorem OpR.ors{f:Value->Value->Sem Value}{r r':R2}(o:OpR X f r)(o':OpR X f r'):OpR X f λx y H Q=>r x y H Q\/r' x y H Q:=λpins s σ H x y v u Q I rx ry q=>q.elim (o pins s σ H x y v u Q I rx ry) (o' pins s σ H x y v u Q I rx ry)
theorem QM{fz:Bool}{op:BO}{x y:V}{H:Hp}{Q:VK}(q:r2 ct E (Qe fz op) x y H Q):(∃ i j k,x=.int i/\y=.int j/\YA op i j=some k/\Q (.int k) H) \/
  ∃ μ h mx my,qc mx=none/\Rel ct μ h H/\RV ct μ (Liv μ h) H mx x/\RV ct μ (Liv μ h) H my y/\Po ct E (Qe fz op mx my h) μ h H (kV ct Q):=by
 obtain⟨μ,h,mx,my,rel,rx,ry,p⟩:=q;cases ex:qc mx with
 |none=>exact .inr ⟨μ,h,mx,my,ex,rel,rx,ry,p⟩
 |some i =>
  have:=Yg ex;subst this;cases ey:qc my with
  |none =>
   unfold Qe at p;rw[ex,ey] at p;exact p.elim
  |some j =>
   have:=Yg ey;subst this;unfold Qe at p;rw[ex,ey] at p;obtain⟨k,e,p⟩:=Po.opt p;refine .inl ⟨i,j,k,zk rx,zk ry,e,?_⟩;exact p.now rel _ (yn k)
theorem Qb9(fz:Bool):OpR X (binaryOp .Sub) (r2 ct E (Qe fz .sub)):=OpR.imp zcj λx y H Q q=>by
 rcases QM q with ⟨i,j,k,e1,e2,e3,q⟩|⟨μ,h,mx,my,ex,rel,rx,ry,p⟩
 ·cases e3;exact⟨i,j,e1,e2,q⟩
 ·exfalso;unfold Qe at p;rw[ex] at p;cases ey:qc my <;> rw[ey] at p <;> exact p.elim
theorem ZbR(fz:Bool):OpR X (binaryOp .FloorDiv) (r2 ct E (Qe fz .fdiv)):=OpR.imp Yby λx y H Q q=>by
 rcases QM q with ⟨i,j,k,e1,e2,e3,q⟩|⟨μ,h,mx,my,ex,rel,rx,ry,p⟩
 ·simp only[YA] at e3;split at e3
  next c=>cases e3;exact⟨i,j,e1,e2,c,q⟩
  next=>cases e3
 ·exfalso;unfold Qe at p;rw[ex] at p;cases ey:qc my <;> rw[ey] at p <;> exact p.elim
theorem Ych(fz:Bool):OpR X (binaryOp .Mod) (r2 ct E (Qe fz .mod)):=OpR.imp Qcn λx y H Q q=>by
 rcases QM q with ⟨i,j,k,e1,e2,e3,q⟩|⟨μ,h,mx,my,ex,rel,rx,ry,p⟩
 ·simp only[YA] at e3;split at e3
  next c=>cases e3;exact⟨i,j,e1,e2,c,q⟩
  next=>cases e3
 ·exfalso;unfold Qe at p;rw[ex] at p;cases ey:qc my <;> rw[ey] at p <;> exact p.elim
theorem Ycp(fz:Bool):OpR X (binaryOp .Pow) (r2 ct E (Qe fz .pow)):=OpR.imp Qb8 λx y H Q q=>by
 rcases QM q with ⟨i,j,k,e1,e2,e3,q⟩|⟨μ,h,mx,my,ex,rel,rx,ry,p⟩
 ·simp only[YA] at e3;split at e3
  next c=>cases e3;exact⟨i,j,e1,e2,⟨c.1,c.2.1,c.2.2⟩,q⟩
  next=>cases e3
 ·exfalso;unfold Qe at p;rw[ex] at p;cases ey:qc my <;> rw[ey] at p <;> exact p.elim
noncomputable def rRepR:R2:=λx y H Q=>∃ l k xs,x=.ref l/\y=.int k/\Rd H l (.lst xs)/\-(2^63)<=k/\k<2^63/\xs.length*k.toNat<=sizeLine/\∀ p,H p=none->Q (.ref p) (upd H p (.lst (Wd k.toNat xs).flatten))
theorem YbQ:OpR X (binaryOp .Mult) rRepR:=by
 intro pins s σ H x y v u Q I rx ry h;obtain⟨l,k,xs,rfl,rfl,hH,h1,h2,hz,q⟩:=h;cases rx;obtain⟨t,rfl⟩:=ry;obtain⟨z,its,n,r,e⟩:=hH.ok I.hok;have hl:=r.length;have hlen:its.toArray.size*k.toNat<=sizeLine:=by rw[vb,<- hl];exact hz
 have hcap:¬ its.toArray.size*k.toNat>(2^63-1)/8:=by
  have:(sizeLine:Nat)<=(2^63-1)/8:=by decide
  lia
 have hfit:¬(!Builtin.List.listFitsIndex k)=true:=by
  rw[fitsIndex_both h1 h2];exact Wh
 have hlong:¬ Builtin.List.listTooLong (its.toArray.size*k.toNat)=true:=by
  rw[QbH hlen];exact Wh
 have hnew:wC (λx1 x2=>x1++x2) #[] (Wd (if its.toArray.isEmpty=true then 0 else k.toNat) its.toArray)=(Wd k.toNat its).flatten.toArray:=by
  have f0:∀ m:Nat,wC (λx1 x2=>x1++x2) #[] (Wd m its.toArray)=(Wd m its).flatten.toArray:=λm=>by
   have:=yas its m [];rw[vf] at this;exact this
  rw[f0];cases its with
  |nil=>simp
  |cons a r'=>rw[if_neg (by simp)]
 refine wpAny_binaryOp_repeat_ref (T:="list") (U:="int") (by decide) ⟨_,e,rfl⟩ (λs'=>typeIs_int s' k t) noFill_list_mul F.fills_int_mul F.slot_int_rmul repeat_list F.slot_int_index.lookup
  (call_meets F.slot_int_rmul (typeIs_int s k t) F.entry_int_rmul (F.args_int_rmul_2 _ _) (int___rmul___int_list k t l its.toArray n)
   ⟨e,rfl,⟨_,e,rfl⟩,call_meets F.slot_list_mul ⟨_,e,rfl⟩ F.entry_list_mul (F.args_list_mul_2 _ _) (AutoListH.list___mul___list_int_3 l its.toArray n k t hfit hcap hlong) ⟨e,?_⟩⟩)
 rw[hnew];exact⟨.ref _,_,I.lnew (t':=s.toks) (r.rep k.toNat) (by rw[ZbU,Nat.mul_comm];exact hz),rfl,q _ I.fresh⟩
theorem RVs.rep{μ:List Addr}{L:Addr->Prop}{H:Hp}{xs:List MV}{vs:List V}(r:RVs ct μ L H xs vs):∀ n:Nat,RVs ct μ L H (Wd n xs).flatten (Wd n vs).flatten
 |0=>by simpa using RVs.nil
 |n+1=>by simp only[ul,xo];exact r.append (RVs.rep r n)
theorem Yb9(fz:Bool):OpR X (binaryOp .Mult) (r2 ct E (Qe fz .mul)):=OpR.imp (OpR.ors ZbZ YbQ) λx y H Q q=>by
 rcases QM q with ⟨i,j,k,e1,e2,e3,q⟩|⟨μ,h,mx,my,ex,rel,rx,ry,p⟩
 ·simp only[YA] at e3;split at e3
  next c=>cases e3;exact .inl ⟨i,j,e1,e2,c,q⟩
  next=>cases e3
 ·unfold Qe at p;rw[ex] at p;cases ey:qc my with
  |none=>rw[ey] at p;exact p.elim
  |some j =>
   rw[ey] at p;have:=Yg ey;subst this;obtain⟨xs,e,p⟩:=Po.opt p;obtain⟨a,vs,rfl,rd,rs⟩:=zo rel e rx;split at p
   next c =>
    have hl:=rs.length
    right
    refine⟨a,j,vs,rfl,zk ry,rd,c.1,c.2.1,?_,Zz rel (rs.rep _) p⟩;rw[hl];exact Xe c.2.2 zJ
   next=>exact p.elim
set_option tactic.hygienic true in
theorem Ycj(fz:Bool):OpR X (binaryOp .Add) (r2 ct E (Qe fz .add)):=OpR.imp (OpR.ors qcq (OpR.ors yb0 qbZ)) λx y H Q q=>by
 rcases QM q with ⟨i,j,k,e1,e2,e3,q⟩|⟨μ,h,mx,my,ex,rel,rx,ry,p⟩
 ·cases e3;exact .inl ⟨i,j,e1,e2,q⟩
 ·unfold Qe at p;rw[ex] at p;cases ey:qc my with
  |some j=>rw[ey] at p;exact p.elim
  |none =>
   rw[ey] at p;dsimp only at p
   right
   split at p
   next xs ys e1 e2 =>
    split at p
    next c =>
     obtain⟨a,vs,rfl,n1,rd1,r1⟩:=Qs e1 rx;obtain⟨b,ws,rfl,n2,rd2,r2⟩:=Qs e2 ry;have h1:=r1.length;have h2:=r2.length;refine .inl ⟨a,b,vs,ws,rfl,rfl,.inl (.inl rd1),.inl (.inl rd2),λz=>c.1 (Xl (by rw[<- h1,z];rfl)),by rw[h1,h2];exact Xe c.2 zJ,λz=>?_,λz=>QU rel (r1.append r2) p⟩;have:ys=[]:=Xl (by rw[<- h2,z];rfl);subst this;rw[wo] at p;exact p.now rel _ (QA n1 rd1 r1)
    next=>exact p.elim
   next =>
    obtain⟨xs,e1,p⟩:=Po.opt p;obtain⟨ys,e2,p⟩:=Po.opt p;split at p
    next c =>
     obtain⟨a,vs,rfl,rd1,r1⟩:=zo rel e1 rx;obtain⟨b,ws,rfl,rd2,r2⟩:=zo rel e2 ry;have h1:=r1.length;have h2:=r2.length;exact .inr ⟨a,b,vs,ws,rfl,rfl,rd1,rd2,by rw[h1,h2];exact Xe c zJ,Zz rel (r1.append r2) p⟩
    next=>exact p.elim
theorem Qck(fz:Bool):∀ op:BO,OpR X (binaryOp (mOp op)) (r2 ct E (Qe fz op))
 |.add=>Ycj fz | .sub=>Qb9 fz | .mul=>Yb9 fz | .fdiv=>ZbR fz | .mod=>Ych fz | .pow=>Ycp fz
end
mutual
noncomputable def toP:FV->PyData
 |.non=>.none
 |.bl b=>.bool b
 |.int i=>.int i
 |.str s=>.str s
 |.tup xs=>.tuple (qp xs)
 |.lst xs=>.list (qp xs)
 |.obj _ _ _=>.none
 |.scr _=>.none
 |.tab _=>.none
 |.msk _=>.none
noncomputable def qp:List FV->List PyData
 |[]=>[]
 |x::xs=>toP x::qp xs
end
theorem QaQ:∀ xs:List FV,qp xs=xs.map toP
 |[]=>by simp[qp]
 |x::xs=>by simp[qp,QaQ xs]
section
variable {ct:Tx} {X:Cx} {E:XK}
theorem yad{n:Nat}:∀ xs:List FV,(∀ x∈xs,(toP x).canLay0=true/\(toP x).depth<=n)->PyData.canLayAll0 (qp xs)=true/\PyData.depthAll (qp xs)<=n
 |[],_=>by simp[qp,PyData.canLayAll0,PyData.depthAll]
 |x::xs,f=>by
  have h1:=f x (by simp);have h2:=yad xs λy hy=>f y (by simp[hy]);simp only[qp,PyData.canLayAll0,PyData.depthAll,h1.1,h2.1,Bool.and_self,true_and];have a1:=h1.2;have a2:=h2.2
  lia
theorem Qai:∀(n:Nat)(x:FV),isD n x=true->(toP x).canLay0=true/\(toP x).depth<=n
 |0,x,e=>by cases x <;> simp[isD] at e
 |n+1,.non,_=>by simp[toP,PyData.canLay0,PyData.depth]
 |n+1,.bl _,_=>by simp[toP,PyData.canLay0,PyData.depth]
 |n+1,.int _,_=>by simp[toP,PyData.canLay0,PyData.depth]
 |n+1,.str s,e=>by
  have e':PyData.strOk s=true:=e;simp[toP,PyData.canLay0,PyData.depth,e']
 |n+1,.tup xs,e=>by
  have q:=yad (n:=n) xs λx hx=>Qai n x (by simp[isD] at e;exact e x hx);have q2:=q.2;simp only[toP,PyData.canLay0,PyData.depth,q.1,true_and]
  lia
 |n+1,.lst xs,e=>by
  have q:=yad (n:=n) xs λx hx=>Qai n x (by simp[isD] at e;exact e x hx);have q2:=q.2;simp only[toP,PyData.canLay0,PyData.depth,q.1,true_and]
  lia
 |n+1,.obj _ _ _,e=>by simp[isD] at e
 |n+1,.scr _,e=>by simp[isD] at e
 |n+1,.tab _,e=>by simp[isD] at e
 |n+1,.msk _,e=>by simp[isD] at e
theorem qO{x:FV}(e:isD 8 x=true):SeqAt.shaped (toP x)=true:=by
 have:=Qai 8 x e;unfold SeqAt.shaped;rw[this.1,Xu];exact decide_eq_true (by have:=this.2;lia)
mutual
theorem zaE:∀(n:Nat)(x y:FV),isD n x=true->isD n y=true->PyData.eqv (toP x) (toP y)=eqD x y
 |0,x,_,e,_=>by cases x <;> simp[isD] at e
 |n+1,.tup xs,.tup ys,e,e'=>by
  simp only[toP,PyData.eqv,eqD];exact YaD n xs ys (by simpa[isD] using e) (by simpa[isD] using e')
 |n+1,.lst xs,.lst ys,e,e'=>by
  simp only[toP,PyData.eqv,eqD];exact YaD n xs ys (by simpa[isD] using e) (by simpa[isD] using e')
 |n+1,.non,y,e,e'=>by cases y <;> simp_all [isD,toP,PyData.eqv,eqD]
 |n+1,.bl _,y,e,e'=>by cases y <;> simp_all [isD,toP,PyData.eqv,eqD]
 |n+1,.int _,y,e,e'=>by cases y <;> simp_all [isD,toP,PyData.eqv,eqD]
 |n+1,.str _,y,e,e'=>by cases y <;> simp_all [isD,toP,PyData.eqv,eqD]
 |n+1,.tup _,.non,e,e'=>by simp[toP,PyData.eqv,eqD]
 |n+1,.tup _,.bl _,e,e'=>by simp[toP,PyData.eqv,eqD]
 |n+1,.tup _,.int _,e,e'=>by simp[toP,PyData.eqv,eqD]
 |n+1,.tup _,.str _,e,e'=>by simp[toP,PyData.eqv,eqD]
 |n+1,.tup _,.lst _,e,e'=>by simp[toP,PyData.eqv,eqD]
 |n+1,.tup _,.obj _ _ _,e,e'=>by simp[isD] at e'
 |n+1,.tup _,.scr _,e,e'=>by simp[isD] at e'
 |n+1,.tup _,.tab _,e,e'=>by simp[isD] at e'
 |n+1,.tup _,.msk _,e,e'=>by simp[isD] at e'
 |n+1,.lst _,.non,e,e'=>by simp[toP,PyData.eqv,eqD]
 |n+1,.lst _,.bl _,e,e'=>by simp[toP,PyData.eqv,eqD]
 |n+1,.lst _,.int _,e,e'=>by simp[toP,PyData.eqv,eqD]
 |n+1,.lst _,.str _,e,e'=>by simp[toP,PyData.eqv,eqD]
 |n+1,.lst _,.tup _,e,e'=>by simp[toP,PyData.eqv,eqD]
 |n+1,.lst _,.obj _ _ _,e,e'=>by simp[isD] at e'
 |n+1,.lst _,.scr _,e,e'=>by simp[isD] at e'
 |n+1,.lst _,.tab _,e,e'=>by simp[isD] at e'
 |n+1,.lst _,.msk _,e,e'=>by simp[isD] at e'
 |n+1,.obj _ _ _,_,e,_=>by simp[isD] at e
 |n+1,.scr _,_,e,_=>by simp[isD] at e
 |n+1,.tab _,_,e,_=>by simp[isD] at e
 |n+1,.msk _,_,e,_=>by simp[isD] at e
theorem YaD:∀(n:Nat)(xs ys:List FV),(∀ x∈xs,isD n x=true)->(∀ y∈ys,isD n y=true)->PyData.eqvAll (qp xs) (qp ys)=Zac xs ys
 |n,[],[],_,_=>by simp[qp,PyData.eqvAll,Zac]
 |n,[],_::_,_,_=>by simp[qp,PyData.eqvAll,Zac]
 |n,_::_,[],_,_=>by simp[qp,PyData.eqvAll,Zac]
 |n,x::xs,y::ys,e,e'=>by
  simp only[qp,PyData.eqvAll,Zac];rw[zaE n x y (e x (by simp)) (e' y (by simp)),YaD n xs ys (λz hz=>e z (by simp[hz])) (λz hz=>e' z (by simp[hz]))]
end
mutual
theorem yC{P:Program}{w:World}{L:Addr->Prop}{H:Hp}{hp:Heap}(hok:HOk P w H hp):∀(n:Nat)(x:FV)(v:V)(u:Value),isD n x=true->RF ct L H x v->RelV v u->∃ as,Reads hp u (toP x) as
 |0,x,_,_,e,_,_=>by cases x <;> simp[isD] at e
 |n+1,.non,v,u,_,r,q=>by simp only[RF] at r;subst r;cases q;exact⟨_,.none⟩
 |n+1,.bl _,v,u,_,r,q=>by simp only[RF] at r;subst r;cases q;exact⟨_,.bool _⟩
 |n+1,.int _,v,u,_,r,q=>by simp only[RF] at r;subst r;obtain⟨t,rfl⟩:=q;exact⟨_,.int _ _⟩
 |n+1,.str _,v,u,_,r,q=>by simp only[RF] at r;subst r;obtain⟨t,rfl⟩:=q;exact⟨_,.str _ _⟩
 |n+1,.tup xs,v,u,e,r,q=>by
  simp only[RF] at r;obtain⟨a,vs,rfl,_,rd,rs⟩:=r;cases q;obtain⟨z,its,rv,o,e1,e2,k,e3⟩:=(Rd.of rd).ok hok;obtain⟨as,ra⟩:=Yt hok n xs vs its (by simpa[isD] using e) rs rv;exact⟨as,reads_tuple_at e1 e2 e3 ra⟩
 |n+1,.lst xs,v,u,e,r,q=>by
  simp only[RF] at r;obtain⟨a,vs,rfl,_,rd,rs⟩:=r;cases q;obtain⟨z,its,k,rv,e1⟩:=rd.ok hok;obtain⟨as,ra⟩:=Yt hok n xs vs its (by simpa[isD] using e) rs rv;exact⟨_,reads_list_at e1 rfl rfl ra⟩
 |n+1,.obj _ _ _,_,_,e,_,_=>by simp[isD] at e
 |n+1,.scr _,_,_,e,_,_=>by simp[isD] at e
 |n+1,.tab _,_,_,e,_,_=>by simp[isD] at e
 |n+1,.msk _,_,_,e,_,_=>by simp[isD] at e
theorem Yt{P:Program}{w:World}{L:Addr->Prop}{H:Hp}{hp:Heap}(hok:HOk P w H hp):∀(n:Nat)(xs:List FV)(vs:List V)(us:List Value),(∀ x∈xs,isD n x=true)->RFs ct L H xs vs->Vals vs us->∃ as,ReadsAll hp us (qp xs) as
 |n,[],vs,us,_,r,q=>by simp only[RFs] at r;subst r;cases q;exact⟨[],by simpa only[qp] using ReadsAll.nil⟩
 |n,x::xs,vs,us,e,r,q=>by
  simp only[RFs] at r;obtain⟨v,t,rfl,r1,r2⟩:=r;cases q with
  |cons q1 q2 =>
   obtain⟨as,h1⟩:=yC hok n x v _ (e x (by simp)) r1 q1;obtain⟨bs,h2⟩:=Yt hok n xs t _ (λz hz=>e z (by simp[hz])) r2 q2;exact⟨as++bs,by simp only[qp];exact .cons h1 h2⟩
end
noncomputable abbrev noL:Addr->Prop:=λ_=>False
section
variable {μ:List Addr} {h:MH} {H:Hp}
theorem QN{g:MV->Option FV}:∀{xs:List MV}{ys:List FV}{vs:List V},xs.mapM g=some ys->RVs ct μ (Liv μ h) H xs vs ->
  (∀ x∈xs,∀ y v,g x=some y->RV ct μ (Liv μ h) H x v->RF ct noL H y v)->RFs ct noL H ys vs
 |[],ys,vs,e,r,_=>by
  simp at e;subst e;simp only[RVs] at r;subst r;simp only[RFs]
 |x::xs,ys,vs,e,r,f=>by
  simp only[Wn,Up,Xb,uw,Option.some.injEq] at e;obtain⟨y,e1,zs,e2,rfl⟩:=e;simp only[RVs] at r;obtain⟨v,t,rfl,r1,r2⟩:=r;simp only[RFs];exact⟨v,t,rfl,f x (by simp) y v e1 r1,QN e2 r2 λz hz=>f z (by simp[hz])⟩
theorem Qn(rel:Rel ct μ h H):∀(n:Nat)(m:MV)(x:FV)(v:V),qk h n m=some x->RV ct μ (Liv μ h) H m v->RF ct noL H x v
 |0,m,x,v,e,_=>by simp[qk] at e
 |n+1,.f y,x,v,e,r=>by
  simp[qk] at e;subst e;simp only[RV] at r;exact RF.to ⟨λ_ _ e _=>e,λ_ _ _ _ z=>z⟩ r
 |n+1,.tup xs,x,v,e,r=>by
  simp only[qk,ub] at e;obtain⟨ys,e1,rfl⟩:=e;simp only[RV] at r;obtain⟨a,vs,rfl,na,rd,q⟩:=r;simp only[RF];exact⟨a,vs,rfl,λz=>z,rd,QN e1 q λz hz y u ez ru=>Qn rel n z y u ez ru⟩
 |n+1,.ref i,x,v,e,r=>by
  simp only[qk,Xb,ub] at e;obtain⟨xs,e0,ys,e1,rfl⟩:=e;simp only[RV] at r;obtain⟨b,eb,rfl⟩:=r;obtain⟨b',vs,eb',hb,q⟩:=rel.lst e0;rw[eb] at eb';cases eb';simp only[RF];exact⟨b,vs,rfl,λz=>z,.inl hb,QN e1 q λz hz y u ez ru=>Qn rel n z y u ez ru⟩
 |n+1,.exc _,x,v,e,_=>by simp[qk] at e
end
noncomputable def ZbG:CO->CmpOp
 |.lt=>.Lt | .le=>.LtE | .gt=>.Gt | .ge=>.GtE | .eq=>.Eq | .ne=>.NotEq | .inn=>.In | .nin=>.NotIn
noncomputable def Zao(ct:Tx)(op:CO):R2:=λx y H Q=>∃ μ h mx my b,Rel ct μ h H/\RV ct μ (Liv μ h) H mx x/\RV ct μ (Liv μ h) H my y/\ZT op mx my h=some b/\Q (.bl b) H
theorem ZV{op:CO}{x y:V}{H:Hp}{Q:VK}(ho:∀ mx my h,ZT op mx my h=(qc mx).bind λi=>(qc my).bind λj=>zT op i j)(q:Zao ct op x y H Q):∃ i j b,x=.int i/\y=.int j/\zT op i j=some b/\Q (.bl b) H:=by
 obtain⟨μ,h,mx,my,b,rel,rx,ry,e,q⟩:=q;rw[ho] at e;simp only[Xb] at e;obtain⟨i,e1,j,e2,e3⟩:=e;have:=Yg e1;subst this;have:=Yg e2;subst this;exact⟨i,j,b,zk rx,zk ry,e3,q⟩
theorem oc_lt:OpR X (compareOp .Lt) (Zao ct .lt):=OpR.imp op_lt λx y H Q q=>by
 obtain⟨i,j,b,e1,e2,e3,q⟩:=ZV (λ_ _ _=>rfl) q;cases e3;exact⟨i,j,e1,e2,q⟩
theorem oc_le:OpR X (compareOp .LtE) (Zao ct .le):=OpR.imp op_le λx y H Q q=>by
 obtain⟨i,j,b,e1,e2,e3,q⟩:=ZV (λ_ _ _=>rfl) q;cases e3;exact⟨i,j,e1,e2,q⟩
theorem oc_gt:OpR X (compareOp .Gt) (Zao ct .gt):=OpR.imp op_gt λx y H Q q=>by
 obtain⟨i,j,b,e1,e2,e3,q⟩:=ZV (λ_ _ _=>rfl) q;cases e3;exact⟨i,j,e1,e2,q⟩
theorem oc_ge:OpR X (compareOp .GtE) (Zao ct .ge):=OpR.imp op_ge λx y H Q q=>by
 obtain⟨i,j,b,e1,e2,e3,q⟩:=ZV (λ_ _ _=>rfl) q;cases e3;exact⟨i,j,e1,e2,q⟩
theorem YaK{x y:FV}{b:Bool}(e:eqF x y=some b):isD 8 x=true/\isD 8 y=true/\eqD x y=b:=by
 unfold eqF at e;split at e
 next c=>cases e;exact⟨c.1,c.2,rfl⟩
 next=>cases e
theorem oc_eq(hu:X.A.units+65<cLine):OpR X (compareOp .Eq) (Zao ct .eq):=by
 intro pins s σ H x y v u Q I rx ry q;obtain⟨μ,h,mx,my,b,rel,r1,r2,e,q⟩:=q;simp only[ZT,Xb] at e;obtain⟨a,e1,c,e2,e3⟩:=e;obtain⟨d1,d2,e4⟩:=YaK e3;obtain⟨as,ra⟩:=yC I.hok 8 a x v d1 (Qn rel 5 mx a x e1 r1) rx;obtain⟨bs,rb⟩:=yC I.hok 8 c y u d2 (Qn rel 5 my c y e2 r2) ry;refine eq_dataH ra rb (qO d1) (qO d2) (by lia) ?_;rw[zaE 8 a c d1 d2,e4];exact⟨.bl b,H,I,rfl,q⟩
theorem oc_ne(hu:X.A.units+65<cLine):OpR X (compareOp .NotEq) (Zao ct .ne):=by
 intro pins s σ H x y v u Q I rx ry q;obtain⟨μ,h,mx,my,b,rel,r1,r2,e,q⟩:=q;simp only[ZT,Xb,ub] at e;obtain⟨a,e1,c,e2,b',e3,rfl⟩:=e;obtain⟨d1,d2,e4⟩:=YaK e3;obtain⟨as,ra⟩:=yC I.hok 8 a x v d1 (Qn rel 5 mx a x e1 r1) rx;obtain⟨bs,rb⟩:=yC I.hok 8 c y u d2 (Qn rel 5 my c y e2 r2) ry;refine ne_dataH ra rb (qO d1) (qO d2) (by lia) ?_;rw[zaE 8 a c d1 d2,e4];exact⟨.bl _,H,I,rfl,q⟩
end
end SD
end
section
namespace HT
open PySem PyProof.Rows
section
variable {prog:Program} {w:World} {A:Around} {E:Value->Shared->Prop} {s:Shared}
theorem getItem_tuple_whole{t sl:Addr}{items:Array Value}{vl vu:Value}{lo hi:Option Int}{Q:Value->Shared->Prop}(ht:IsTup s.heap t items)(hs:s.heap.IsSliceOf sl vl vu .none)(pl:IsPart vl lo)(pu:IsPart vu hi)
  (hw:sIx items.size 0 lo=0/\sIx items.size items.size hi=items.size) (h:Q (.ref t) s):wpAny (model prog w) A (getItem (.ref t) (.ref sl)) Q E s:=by
 obtain⟨os,hos,hcs,hds⟩:=id hs;have hTs:s.TypeIs (.ref sl) "slice":=⟨os,hos,hcs⟩;unfold getItem
 try with_reducible refine wpAny_holding ?_
 first|refine wpAny_bind (wpAny_pure ?_)|skip
 refine wpAny_bind (wpAny_sequenceKey ht.typeIs (by decide) ?_);refine wpAny_bind (wpAny_callSpecial?_slot (name:=Str.ofString "__getitem__") ht.typeIs PyProof.Rows.slot_tuple_getitem
  (wpAny_call_entry PyProof.Rows.slot_tuple_getitem ht.typeIs entry_tuple_getitem ?_ (args_tuple_getitem _ _)))
 show wpAny _ _ (Builtin.Tuple.tupleItemsOf (.ref t) >>= _) _ _ s;refine wpAny_bind (tupleItemsOf_ ht ?_);refine wpAny_bind (wpAny_typeOf hTs ?_);rw[if_pos (by decide)];refine wpAny_bind (yD hs pl pu ?_);have hyes:(((sIx items.size 0 lo:Nat):Int)==0&&(1:Int)==1&&(sIx items.size items.size hi-sIx items.size 0 lo)==items.size)=true:=by
  rw[hw.1,hw.2];simp
 show wpAny _ _ (if(((sIx items.size 0 lo:Nat):Int)==0&&(1:Int)==1&&(sIx items.size items.size hi-sIx items.size 0 lo)==items.size)=true then _ else _) _ _ s;rw[if_pos hyes];unfold Builtin.Tuple.tupleIsExact;refine wpAny_bind (wpAny_bind (wpAny_typeOf ht.typeIs (wpAny_pure ?_)));rw[if_pos (by decide)]
 first
  |exact wpAny_bind (wpAny_rule (wpAny_bind (wpAny_pure (wpAny_pure ⟨_,rfl,wpAny_pure h⟩))))
  |exact wpAny_bind (wpAny_rule (wpAny_pure ⟨_,rfl,wpAny_pure h⟩))
  |exact wpAny_bind (wpAny_rule (wpAny_bind (wpAny_pure ⟨_,rfl,wpAny_pure h⟩)))
end
end HT
namespace SD
open PySem PySem.Spec PyProof.Rows L2 L3 M3 MP
section
variable {ct:Tx} {X:Cx} {E:XK}
theorem zbx{x:FV}{ys:List FV}{b:Bool}(e:inF x ys=some b):isD 8 x=true/\(∀ y∈ys,isD 8 y=true)/\ys.any (λy=>eqD y x)=b:=by
 unfold inF at e;split at e
 next c=>cases e;exact⟨c.1,by simpa using c.2,rfl⟩
 next=>cases e
theorem QbU{x:FV}{ys:List FV}(hx:isD 8 x=true)(hy:∀ y∈ys,isD 8 y=true):(qp ys).any (λy=>PyData.eqv y (toP x))=ys.any λy=>eqD y x:=by
 rw[QaQ,List.any_map]
 induction ys with
 |nil=>rfl
 |cons y ys ih =>
  simp only[List.any_cons,xy];rw[zaE 8 y x (hy y (by simp)) hx,ih λz hz=>hy z (by simp[hz])]
theorem Yax{μ:List Addr}{h:MH}{H:Hp}{mx my:MV}{ys:List MV}{a:FV}{bs:List FV}{x y:V}{v u:Value}{b:Bool}{pins:List (Addr×Obj)}{σ:L2.St}{s:Shared}(hK:X.K=ct.K)(I:Inv X pins σ H s)(rel:Rel ct μ h H)(rx:RelV x v)(ry:RelV y u)
  (r1:RV ct μ (Liv μ h) H mx x) (r2:RV ct μ (Liv μ h) H my y) (e1:ZM h mx=some a) (e2:Zb h my=some ys) (e3:ys.mapM (ZM h)=some bs) (e4:inF a bs=some b) :
  (∃ as as',(Reads s.heap u (.list (qp bs)) as\/Reads s.heap u (.tuple (qp bs)) as)/\Reads s.heap v (toP a) as')/\PyData.canLayAll0 (qp bs)=true/\(toP a).canLay0=true/\PyData.depthAll (qp bs)<=8/\(qp bs).any (λy=>PyData.eqv y (toP a))=b:=by
 obtain⟨d1,d2,e5⟩:=zbx e4;obtain⟨as',ra⟩:=yC I.hok 8 a x v d1 (Qn rel 5 mx a x e1 r1) rx;obtain⟨k,p,vs,rfl,sq,rs⟩:=qw rel e2 r2;cases ry;have rf:RFs ct noL H bs vs:=QN e3 rs λz hz y u ez ru=>Qn rel 5 z y u ez ru;have ll:=yad (n:=8) bs λy hy=>Qai 8 y (d2 y hy);refine⟨?_,ll.1,(Qai 8 a d1).1,ll.2,by rw[QbU d1 d2];exact e5⟩;cases k with
 |true =>
  obtain⟨its,rv,⟨o,q1,q2,n,q3⟩,_⟩:=I.tuple (show SqT X.K H p vs from sq.s hK);obtain⟨as,rb⟩:=Yt I.hok 8 bs vs its d2 rf rv;exact⟨as,as',.inr (reads_tuple_at q1 q2 q3 rb),ra⟩
 |false =>
  obtain⟨its,rv,⟨o,n,q1,q2,_,q3⟩,_⟩:=I.list (show SqL X.K H p vs from sq.s hK);obtain⟨as,rb⟩:=Yt I.hok 8 bs vs its d2 rf rv;exact⟨_,as',.inl (reads_list_at q1 q2 q3 rb),ra⟩
theorem oc_in(hK:X.K=ct.K)(hu:X.A.units+65<cLine):OpR X (compareOp .In) (Zao ct .inn):=by
 intro pins s σ H x y v u Q I rx ry q;obtain⟨μ,h,mx,my,b,rel,r1,r2,e,q⟩:=q;simp only[ZT,Xb] at e;obtain⟨a,e1,ys,e2,bs,e3,e4⟩:=e;obtain⟨⟨as,as',rb,ra⟩,l1,l2,l3,e5⟩:=Yax hK I rel rx ry r1 r2 e1 e2 e3 e4
 rcases rb with rb|rb
 ·exact SeqAt.in_list_reads rb ra l1 l2 (by have:=Us (PyData.depthAll (qp bs)) (toP a).depth;lia) (by rw[e5];exact⟨.bl b,H,I,rfl,q⟩)
 ·exact SeqAt.in_tuple_reads rb ra l1 l2 (by have:=Us (PyData.depthAll (qp bs)) (toP a).depth;lia) (by rw[e5];exact⟨.bl b,H,I,rfl,q⟩)
theorem qca(hK:X.K=ct.K)(hu:X.A.units+65<cLine):OpR X (compareOp .NotIn) (Zao ct .nin):=by
 intro pins s σ H x y v u Q I rx ry q;obtain⟨μ,h,mx,my,b,rel,r1,r2,e,q⟩:=q;simp only[ZT,Xb,ub] at e;obtain⟨a,e1,ys,e2,bs,e3,b',e4,rfl⟩:=e;obtain⟨⟨as,as',rb,ra⟩,l1,l2,l3,e5⟩:=Yax hK I rel rx ry r1 r2 e1 e2 e3 e4
 rcases rb with rb|rb
 ·exact SeqAt.notIn_list_reads rb ra l1 l2 (by have:=Us (PyData.depthAll (qp bs)) (toP a).depth;lia) (by rw[e5];exact⟨.bl _,H,I,rfl,q⟩)
 ·exact SeqAt.notIn_tuple_reads rb ra l1 l2 (by have:=Us (PyData.depthAll (qp bs)) (toP a).depth;lia) (by rw[e5];exact⟨.bl _,H,I,rfl,q⟩)
theorem ZbE(hK:X.K=ct.K)(hu:X.A.units+65<cLine):∀ op:CO,OpR X (compareOp (ZbG op)) (Zao ct op)
 |.lt=>oc_lt | .le=>oc_le | .gt=>oc_gt | .ge=>oc_ge | .eq=>oc_eq hu | .ne=>oc_ne hu | .inn=>oc_in hK hu | .nin=>qca hK hu
theorem ybL(n:Nat)(i:Int):ixM n i=ixN n i:=rfl
noncomputable def rIxM(ct:Tx):R2:=λx y H Q=>∃ μ h mx k xs m,Rel ct μ h H/\RV ct μ (Liv μ h) H mx x/\y=.int k/\Zb h mx=some xs/\atM xs k=some m/\∀ v,RV ct μ (Liv μ h) H m v->Q v H
theorem ZbY(hK:X.K=ct.K):IxR X (rIxM ct):=by
 intro value slice pins s σ H x y v u Q I rx ry q hs;obtain(⟨μ,h,mx,k,xs,m,rel,r,rfl,e1,e2,q⟩):=q;obtain(⟨b,a,vs,rfl,sq,rs⟩):=qw rel e1 r;unfold atM at e2;rw[Xb] at e2;obtain(⟨j,e3,e4⟩):=e2;obtain(⟨w,ew,rw_⟩):=rs.get e4;refine k_ix X.K rfl value slice pins s σ H (.ref a) (.int k) v u Q I rx ry ⟨b,a,vs,k,w,rfl,rfl,sq.s hK,?_,q w rw_⟩ hs;unfold atI;rw[rs.length,<- ybL,e3];exact ew
theorem ZaA{μ:List Addr}{L:Addr->Prop}{H:Hp}{xs:List MV}{vs:List V}(r:RVs ct μ L H xs vs)(lo hi:Option Int):RVs ct μ L H (yar xs lo hi) (yaP vs lo hi):=by
 unfold yar yaP;rw[r.length];exact(r.drop _).take _
noncomputable def rSlM(ct:Tx)(E:XK)(fz:Bool):V->Option Int->Option Int->Hp->VK->Prop:=λx lo hi H Q=>∃ μ h m,Rel ct μ h H/\RV ct μ (Liv μ h) H m x/\Po ct E (qo fz m lo hi h) μ h H (kV ct Q)
set_option tactic.hygienic true in
theorem Yb1(hK:X.K=ct.K)(fz:Bool):SlR X (rSlM ct E fz):=by
 intro pins s σ H x v vl vu lo hi sl Q I rx hs pl pu q;obtain(⟨μ,h,m,rel,r,p⟩):=q;unfold qo at p;split at p
 next xs e =>
  obtain(⟨a,vs,rfl,n,rd,rs⟩):=Qs e r;by_cases hw:HT.sIx vs.length 0 lo=0/\HT.sIx vs.length vs.length hi=vs.length
  ·cases rx;obtain(⟨its,rv,ht,hz⟩):=I.tuple (show SqT X.K H a vs from .inl (.inl rd));have hlen:its.toArray.size=vs.length:=by rw[vb];exact rv.length.symm
   refine⟨"tuple",_,PyProof.Rows.slot_tuple_getitem.lookup,ht.typeIs,HT.getItem_tuple_whole ht hs pl pu (by rw[hlen];exact hw) ?_⟩;have hc:yar xs lo hi=xs:=by
    have hl:=rs.length;unfold yar;show(xs.drop (HT.sIx xs.length 0 lo)).take (HT.sIx xs.length xs.length hi-HT.sIx xs.length 0 lo)=xs;rw[<- hl,hw.1,hw.2,List.drop_zero,Nat.sub_zero,hl,xr]
   rw[hc] at p;exact⟨.ref a,H,I,rfl,p.now rel _ (QA n rd rs)⟩
  ·exact Ycn pins s σ H (.ref a) v vl vu lo hi sl Q I rx hs pl pu ⟨a,vs,rfl,.inl (.inl rd),hw,QU rel (ZaA rs lo hi) p⟩
 next e =>
  obtain(⟨xs,e1,p⟩):=Po.opt p
  rcases Ys e1 with e2|e2|⟨ns,rfl,rfl⟩
  ·rw[e] at e2;cases e2
  ·obtain(⟨a,vs,rfl,rd,rs⟩):=zo rel e2 r;exact Zbg pins s σ H (.ref a) v vl vu lo hi sl Q I rx hs pl pu ⟨a,vs,rfl,.inl rd,Zz rel (ZaA rs lo hi) p⟩
  ·simp only[RV,RF] at r;obtain(⟨a,rfl,q⟩):=r;exact Zbg pins s σ H (.ref a) v vl vu lo hi sl Q I rx hs pl pu ⟨a,_,rfl,by rw[hK];exact Qay q,Zz rel (ZaA (qT ns) lo hi) p⟩
end
section
variable {ct:Tx} {X:Cx} {E:XK}
theorem CallR.imp{f:Value}{r r':List V->Hp->VK->Prop}(o:CallR X f r)(k:∀ xs H Q,r' xs H Q->r xs H Q):CallR X f r':=λpins s σ H xs us Q I rv q=>o pins s σ H xs us Q I rv (k _ _ _ q)
theorem CallR.ors{f:Value}{r r':List V->Hp->VK->Prop}(o:CallR X f r)(o':CallR X f r'):CallR X f λxs H Q=>r xs H Q\/r' xs H Q:=λpins s σ H xs us Q I rv q=>q.elim (o pins s σ H xs us Q I rv) (o' pins s σ H xs us Q I rv)
noncomputable def rB(ct:Tx)(E:XK)(fz:Bool)(n:String):List V->Hp->VK->Prop:=λvs H Q=>∃ μ h ms,Rel ct μ h H/\RVs ct μ (Liv μ h) H ms vs/\Po ct E (yj fz n ms h) μ h H (kV ct Q)
theorem qu{μ:List Addr}{L:Addr->Prop}{H:Hp}{m:MV}{vs:List V}(r:RVs ct μ L H [m] vs):∃ v,vs=[v]/\RV ct μ L H m v:=by
 simp only[RVs] at r;obtain⟨v,t,rfl,r1,rfl⟩:=r;exact⟨v,rfl,r1⟩
theorem qaz{μ:List Addr}{L:Addr->Prop}{H:Hp}{m m':MV}{vs:List V}(r:RVs ct μ L H [m,m'] vs):∃ v v',vs=[v,v']/\RV ct μ L H m v/\RV ct μ L H m' v':=by
 simp only[RVs] at r;obtain⟨v,t,rfl,r1,v',t',rfl,r2,rfl⟩:=r;exact⟨v,v',rfl,r1,r2⟩
theorem Yaj{μ:List Addr}{L:Addr->Prop}{H:Hp}:∀{xs:List MV}{ns:List Int}{vs:List V},Yf xs=some ns->RVs ct μ L H xs vs->vs=ns.map V.int
 |[],ns,vs,e,r=>by simp[Yf] at e;subst e;simp only[RVs] at r;subst r;rfl
 |.f (.int i)::xs,ns,vs,e,r=>by
  simp only[Yf,ub] at e;obtain⟨ms,e1,rfl⟩:=e;simp only[RVs] at r;obtain⟨v,t,rfl,r1,r2⟩:=r;rw[zk r1,Yaj e1 r2];rfl
 |.f .non::_,_,_,e,_=>by simp[Yf] at e
 |.f (.bl _)::_,_,_,e,_=>by simp[Yf] at e
 |.f (.str _)::_,_,_,e,_=>by simp[Yf] at e
 |.f (.tup _)::_,_,_,e,_=>by simp[Yf] at e
 |.f (.lst _)::_,_,_,e,_=>by simp[Yf] at e
 |.f (.obj _ _ _)::_,_,_,e,_=>by simp[Yf] at e
 |.f (.scr _)::_,_,_,e,_=>by simp[Yf] at e
 |.f (.tab _)::_,_,_,e,_=>by simp[Yf] at e
 |.f (.msk _)::_,_,_,e,_=>by simp[Yf] at e
 |.ref _::_,_,_,e,_=>by simp[Yf] at e
 |.tup _::_,_,_,e,_=>by simp[Yf] at e
 |.exc _::_,_,_,e,_=>by simp[Yf] at e
theorem ybd{μ:List Addr}{L:Addr->Prop}{H:Hp}:∀{xs:List MV}{ns:List Bool}{vs:List V},Yk xs=some ns->RVs ct μ L H xs vs->vs=ns.map V.bl
 |[],ns,vs,e,r=>by simp[Yk] at e;subst e;simp only[RVs] at r;subst r;rfl
 |.f (.bl i)::xs,ns,vs,e,r=>by
  simp only[Yk,ub] at e;obtain⟨ms,e1,rfl⟩:=e;simp only[RVs] at r;obtain⟨v,t,rfl,r1,r2⟩:=r;rw[Zax r1,ybd e1 r2];rfl
 |.f .non::_,_,_,e,_=>by simp[Yk] at e
 |.f (.int _)::_,_,_,e,_=>by simp[Yk] at e
 |.f (.str _)::_,_,_,e,_=>by simp[Yk] at e
 |.f (.tup _)::_,_,_,e,_=>by simp[Yk] at e
 |.f (.lst _)::_,_,_,e,_=>by simp[Yk] at e
 |.f (.obj _ _ _)::_,_,_,e,_=>by simp[Yk] at e
 |.f (.scr _)::_,_,_,e,_=>by simp[Yk] at e
 |.f (.tab _)::_,_,_,e,_=>by simp[Yk] at e
 |.f (.msk _)::_,_,_,e,_=>by simp[Yk] at e
 |.ref _::_,_,_,e,_=>by simp[Yk] at e
 |.tup _::_,_,_,e,_=>by simp[Yk] at e
 |.exc _::_,_,_,e,_=>by simp[Yk] at e
theorem SqR.len{H:Hp}{K:PySem.W.Frag}{b:Bool}{a:Addr}{vs:List V}(hK:K=ct.K)(q:SqR ct H b a vs):SqL K H a vs\/SqT K H a vs:=by
 subst hK;cases b with
 |false=>exact .inl q
 |true=>exact .inr q
theorem yck(hK:X.K=ct.K)(fz:Bool):CallR X (.builtin "len") (rB ct E fz "len"):=CallR.imp (k_len X.K) λvs H Q q=>by
 obtain⟨μ,h,ms,rel,r0,p⟩:=q
 rcases ms with _|⟨m,_|⟨m2,ms⟩⟩
 ·exact p.elim
 ·obtain⟨v,rfl,rm⟩:=qu r0;obtain⟨xs,e,p⟩:=Po.opt p;obtain⟨b,a,ws,rfl,sq,rs⟩:=qw rel e rm;exact⟨a,ws,rfl,sq.len hK,by rw[rs.length];exact p.now rel _ (yn _)⟩
 ·exact p.elim
theorem qcd(hK:X.K=ct.K)(fz:Bool)(hc:X.calm=true):CallR X (.builtin "all") (rB ct E fz "all"):=CallR.imp (k_all X.K hc) λvs H Q q=>by
 obtain⟨μ,h,ms,rel,r0,p⟩:=q
 rcases ms with _|⟨m,_|⟨m2,ms⟩⟩
 ·exact p.elim
 ·obtain⟨v,rfl,rm⟩:=qu r0;obtain⟨ns,e,p⟩:=Po.opt p;rw[Xb] at e;obtain⟨xs,e1,e2⟩:=e;obtain⟨b,a,ws,rfl,sq,rs⟩:=qw rel e1 rm;have:=ybd e2 rs;subst this;exact⟨b,a,ns,rfl,sq.s hK,p.now rel _ (Zx _)⟩
 ·exact p.elim
theorem zco(hK:X.K=ct.K)(fz:Bool)(hc:X.calm=true):CallR X (.builtin "min") (rB ct E fz "min"):=CallR.imp (CallR.ors (k_min X.K hc) (ybi hc)) λvs H Q q=>by
 obtain⟨μ,h,ms,rel,r0,p⟩:=q
 rcases ms with _|⟨m,_|⟨m2,_|⟨m3,ms⟩⟩⟩
 ·exact p.elim
 ·left
  obtain⟨v,rfl,rm⟩:=qu r0;obtain⟨ns,e,p⟩:=Po.opt p;rw[Xb] at e;obtain⟨xs,e1,e2⟩:=e;obtain⟨b,a,ws,rfl,sq,rs⟩:=qw rel e1 rm;have:=Yaj e2 rs;subst this;cases ns with
  |nil=>exact p.elim
  |cons n ns =>
   refine⟨b,a,n::ns,rfl,sq.s hK,by simp,λk hk hl=>?_⟩;have:k=Zap n ns:=by
    have a1:=hl _ (Yal (r:=n::ns) (by simp));have a2:=qbg (r:=n::ns) hk;exact Int.le_antisymm a1 a2
   subst this;exact p.now rel _ (yn _)
 ·right
  obtain⟨v,v',rfl,rm,rm'⟩:=qaz r0;obtain⟨i,e,p⟩:=Po.opt p;obtain⟨j,e',p⟩:=Po.opt p;have:=Yg e;subst this;have:=Yg e';subst this;rw[zk rm,zk rm'];exact⟨i,j,rfl,p.now rel _ (yn _)⟩
 ·exact p.elim
theorem Zck(hK:X.K=ct.K)(fz:Bool)(hc:X.calm=true):CallR X (.builtin "max") (rB ct E fz "max"):=CallR.imp (CallR.ors (k_max X.K hc) (Zbh hc)) λvs H Q q=>by
 obtain⟨μ,h,ms,rel,r0,p⟩:=q
 rcases ms with _|⟨m,_|⟨m2,_|⟨m3,ms⟩⟩⟩
 ·exact p.elim
 ·left
  obtain⟨v,rfl,rm⟩:=qu r0;obtain⟨ns,e,p⟩:=Po.opt p;rw[Xb] at e;obtain⟨xs,e1,e2⟩:=e;obtain⟨b,a,ws,rfl,sq,rs⟩:=qw rel e1 rm;have:=Yaj e2 rs;subst this;cases ns with
  |nil=>exact p.elim
  |cons n ns =>
   refine⟨b,a,n::ns,rfl,sq.s hK,by simp,λk hk hl=>?_⟩;have:k=Qan n ns:=by
    have a1:=hl _ (Yam (r:=n::ns) (by simp));have a2:=ybb (r:=n::ns) hk;exact Int.le_antisymm a2 a1
   subst this;exact p.now rel _ (yn _)
 ·right
  obtain⟨v,v',rfl,rm,rm'⟩:=qaz r0;obtain⟨i,e,p⟩:=Po.opt p;obtain⟨j,e',p⟩:=Po.opt p;have:=Yg e;subst this;have:=Yg e';subst this;rw[zk rm,zk rm'];exact⟨i,j,rfl,p.now rel _ (yn _)⟩
 ·exact p.elim
theorem ZbF(hK:X.K=ct.K)(fz:Bool):CallR X (.type "tuple") (rB ct E fz "tuple"):=CallR.imp (QbR X.K) λvs H Q q=>by
 obtain⟨μ,h,ms,rel,r0,p⟩:=q
 rcases ms with _|⟨m,_|⟨m2,ms⟩⟩
 ·exact p.elim
 ·obtain⟨v,rfl,rm⟩:=qu r0;obtain⟨xs,e,p⟩:=Po.opt p
  rcases Ys e with e|e|⟨ns,rfl,rfl⟩
  ·obtain⟨a,ws,rfl,n,rd,rs⟩:=Qs e rm;exact⟨a,ws,rfl,.inr ⟨.inl (.inl rd),p.now rel _ (QA n rd rs)⟩⟩
  ·obtain⟨a,ws,rfl,rd,rs⟩:=zo rel e rm;exact⟨a,ws,rfl,.inl ⟨.inl rd,QU rel rs p⟩⟩
  ·simp only[RV,RF] at rm;obtain⟨a,rfl,q⟩:=rm;exact⟨a,_,rfl,.inl ⟨by rw[hK];exact Qay q,QU rel (qT ns) p⟩⟩
 ·exact p.elim
theorem Qb1(hK:X.K=ct.K)(fz:Bool):CallR X (.type "list") (rB ct E fz "list"):=CallR.imp (ycc X.K) λvs H Q q=>by
 obtain⟨μ,h,ms,rel,r0,p⟩:=q
 rcases ms with _|⟨m,_|⟨m2,ms⟩⟩
 ·exact p.elim
 ·obtain⟨v,rfl,rm⟩:=qu r0;obtain⟨xs,e,p⟩:=Po.opt p;obtain⟨b,a,ws,rfl,sq,rs⟩:=qw rel e rm;exact⟨a,ws,rfl,sq.len hK,Zz rel rs p⟩
 ·exact p.elim
noncomputable def rLm(ct:Tx)(E:XK)(m:String):V->List V->Hp->VK->Prop:=λx vs H Q=>∃ μ h mo ms,Rel ct μ h H/\RV ct μ (Liv μ h) H mo x/\RVs ct μ (Liv μ h) H ms vs/\Po ct E (lmV m mo ms h) μ h H (kV ct Q)
theorem MtR.imp{id:String}{r r':V->List V->Hp->VK->Prop}(o:MtR X id r)(k:∀ x xs H Q,r' x xs H Q->r x xs H Q):MtR X id r':=λpins s σ H x xs v us Q I rx rv q=>o pins s σ H x xs v us Q I rx rv (k _ _ _ _ q)
theorem zb8{m:String}{mo:MV}{ms:List MV}{μ:List Addr}{h:MH}{H:Hp}{x:V}{k:MV->List Addr->MH->Hp->Prop}(rel:Rel ct μ h H)(r:RV ct μ (Liv μ h) H mo x)(p:Po ct E (lmV m mo ms h) μ h H k) :
  ∃ i b xs vs,mo=.ref i/\x=.ref b/\μ[i]?=some b/\Ye h i=some xs/\H b=some (.lst vs)/\RVs ct μ (Liv μ h) H xs vs:=by
 cases mo with
 |ref i =>
  obtain⟨xs,e,_⟩:=Po.opt p;obtain⟨b,vs,e1,e2,q⟩:=rel.lst e;simp only[RV] at r;obtain⟨b',e3,rfl⟩:=r;rw[e1] at e3;cases e3;exact⟨i,b,xs,vs,rfl,rfl,e1,e,e2,q⟩
 |f _=>exact p.elim
 |tup _=>exact p.elim
 |exc _=>exact p.elim
theorem Zcc{μ:List Addr}{h:MH}{H:Hp}{i:Nat}{b:Addr}{xs ys:List MV}{vs:List V}{m:MV}{v:V}{Q:VK}(rel:Rel ct μ h H)(e1:μ[i]?=some b)(e:Ye h i=some xs)(r:RVs ct μ (Liv μ h) H ys vs)(rv:RV ct μ (Liv μ h) H m v)
  (p:Po ct E (.ok m (yf h i ys)) μ h H (kV ct Q)):Q v (upd H b (.lst vs)):=by
 have e2:=YF e;have ex:=Ext.set (H:=H) rel e1 e2 (λz=>nomatch z) (.lst ys) (.lst vs);refine p μ _ ex (rel.set e1 e2 (λz=>nomatch z) ⟨vs,qb,?_⟩) v (rv.ext ex);exact RVs.ext ex r
theorem qbq:MtR X "list.append" (rLm ct E "append"):=MtR.imp Qbh λx ws H Q q=>by
 obtain⟨μ,h,mo,ms,rel,r,rs,p⟩:=q;obtain⟨i,b,xs,vs,rfl,rfl,e1,e,hb,q⟩:=zb8 rel r p
 rcases ms with _|⟨m,_|⟨m2,ms⟩⟩
 ·obtain⟨_,_,p⟩:=Po.opt p;exact p.elim
 ·obtain⟨v,rfl,rm⟩:=qu rs;obtain⟨_,e',p⟩:=Po.opt p;rw[e] at e';cases e';change Po ct E (if xs.length<MP.sizeL then _ else _) μ h H (kV ct Q) at p;split at p
  next c=>exact⟨b,vs,v,rfl,rfl,hb,by rw[q.length];exact Wc c zJ,Zcc rel e1 e (q.append (RVs.cons rm RVs.nil)) ZaG p⟩
  next=>exact p.elim
 ·obtain⟨_,_,p⟩:=Po.opt p;exact p.elim
end
noncomputable def Za:Expr->Bool
 |.Starred ..=>false
 |.Slice ..=>false
 |.Set ..=>false
 |_=>true
noncomputable def Zf:Expr->Bool
 |.Call (.Name x _) [] [] _=>!(x==("super":Str))
 |_=>true
noncomputable def ZA(cs sc:Scope):Scope :=
 {cs with names:=cs.names.map λ(n,k)=>if(k==NameKind.free&&sc.kind == .function&&sc.names.lookup n==some .cell) then(n,NameKind.cell) else(n,k)}
noncomputable def gl(sc:Scope)(x:Str):Bool:=sc.names.lookup x==some .globalImplicit&&!(x==("__debug__":Str))&&decide (x≠("__name__":Str))
noncomputable def zaS(sc:Scope)(x:Str):Bool:=(sc.names.lookup x==some .local||sc.names.lookup x==some .cell||sc.names.lookup x==some .free)&&!(x==("__debug__":Str))&&!(x==("__classdict__":Str))
noncomputable def ya0(lo:Str->Bool)(sc:Scope)(x:Str):Bool:=sc.names.lookup x==some .local||(lo x&&sc.names.lookup x==some .cell)
noncomputable abbrev zas:Str->Bool:=λ_=>true
noncomputable abbrev ownC(cs:Scope):Str->Bool:=λx=>cs.names.lookup x==some .cell
mutual
noncomputable def zv(lo:Str->Bool)(N:List Str)(sc:Scope):Tg->Expr->Bool
 |.nm i,.Name x _=>N[i]? == some x&&ya0 lo sc x
 |.tp ts,.Tuple es _ _=>zR lo N sc ts es
 |_,_=>false
noncomputable def zR(lo:Str->Bool)(N:List Str)(sc:Scope):List Tg->List Expr->Bool
 |[],[]=>true
 |t::ts,e::es=>zv lo N sc t e&&zR lo N sc ts es
 |_,_=>false
end
mutual
noncomputable def tgN:Tg->Expr->List Str
 |.nm _,.Name x _=>[x]
 |.tp ts,.Tuple es _ _=>tgNs ts es
 |_,_=>[]
noncomputable def tgNs:List Tg->List Expr->List Str
 |t::ts,e::es=>tgN t e++tgNs ts es
 |_,_=>[]
end
noncomputable def qbv:Expr->Bool
 |.Tuple ..=>true
 |_=>false
noncomputable def isTN:Expr->Bool
 |.Name _ _=>true
 |e=>qbv e
noncomputable def fnNames:List String:=["len","all","min","max"]
noncomputable def tyNames:List String:=["tuple","list"]
noncomputable def lmNames:List String:=["append"]
noncomputable def lm0Names:List String:=[]
noncomputable def isTys:List String:=["dict","list","tuple","str","int","bool"]
noncomputable def Yu:Expr->List Expr
 |.Call (.Name _ _) as [] _=>as
 |_=>[]
noncomputable def qam(tg:Expr)(it:String):Expr->Bool
 |.Call (.Name x _) as [] _=>(it == "range"&&as.length==1||it == "zip"&&qbv tg&&as.length==2||it == "enumerate"&&qbv tg&&as.length==1)&&x==Str.ofString it
 |_=>false
noncomputable def okT:ME->Bool
 |.frz _=>false
 |.ite _ _ _=>false
 |_=>true
noncomputable def isTru:Expr->Bool
 |.Constant (.bool true) _ _=>true
 |_=>false
noncomputable def twoL{α:Type}:List α->Option (α×α)
 |[a,b]=>some (a,b)
 |_=>none
noncomputable def zaT{α:Type}:List α->Option α
 |[a]=>some a
 |_=>none
noncomputable def asC1:Expr->Option (Str×Expr)
 |.Call (.Name x _) as [] _=>(zaT as).map λa=>(x,a)
 |_=>none
noncomputable def yaE(e:Expr):Option (Str×Str×Expr):=(asC1 e).bind λp=>(asC1 p.2).map λq=>(p.1,q.1,q.2)
noncomputable def isM1:Expr->Bool
 |.UnaryOp .USub (.Constant (.int 1) _ _) _=>true
 |_=>false
noncomputable def asC2:Expr->Option (Str×Expr×Expr)
 |.Call (.Name x _) as [] _=>(twoL as).map λa=>(x,a)
 |_=>none
noncomputable def zM:Expr->Option (Expr×CmpOp×Expr)
 |.Compare l os rs _=>(zaT os).bind λo=>(zaT rs).map λr=>(l,o,r)
 |_=>none
noncomputable def Ybw:Expr->Bool
 |.Constant .none _ _=>true
 |_=>false
noncomputable def asNm:Expr->Option Str
 |.Name x _=>some x
 |_=>none
noncomputable def Y1(e:Expr):Option (Str×Expr×Str):=(asC2 e).bind λq=>(asNm q.2.2).map λy=>(q.1,q.2.1,y)
noncomputable def rvForm:Expr->Option Expr
 |.Subscript x (.Slice none none (some st) _) _=>if isM1 st then some x else none
 |_=>none
noncomputable def YbI:Option FV->Bool
 |some (.int _)=>true
 |some (.str _)=>true
 |_=>false
noncomputable def Yct:Expr->Option Expr
 |.Call (.Attribute l n ap) [] [] cp=>if n==("items":Str)&&Zf l&&(ap.endLine==cp.line) then some l else none
 |_=>none
noncomputable def t1N:T1->Str
 |.str=>"str"
 |.int=>"int"
 |.len=>"len"
 |.setl=>"len"
noncomputable def t1S:T1->Bool
 |.setl=>false
 |_=>true
section
variable (Pm:Prog)
mutual
noncomputable def Yi(me:ME)(N:List Str)(sc:Scope)(e:Expr):Bool:=match me,e with
 |.var i,.Name x _=>N[i]? == some x&&zaS sc x
 |.cI i,.Constant (.int j) _ _=>i==j
 |.cB b,.Constant (.bool c) _ _=>b==c
 |.cN,.Constant .none _ _=>true
 |.cS s,.Constant (.str x) _ _=>s==x
 |.bin _ op a b,.BinOp l o r _=>o==mOp op&&(Za l&&Yi a N sc l)&&(Za r&&Yi b N sc r)
 |.cmp op a b,e=>match zM e with
  |some (l,o,r)=>o==ZbG op&&(Za l&&Yi a N sc l)&&(Za r&&Yi b N sc r)
  |none=>false
 |.isN a,e=>match zM e with
  |some (l,o,r)=>o == .Is&&Ybw r&&(Za l&&Yi a N sc l)
  |none=>false
 |.notN a,e=>match zM e with
  |some (l,o,r)=>o == .IsNot&&Ybw r&&(Za l&&Yi a N sc l)
  |none=>false
 |.and es,.BoolOp .And vs _=>es.all okT&&yi es N sc vs
 |.or es,.BoolOp .Or vs _=>es.all okT&&yi es N sc vs
 |.not a,.UnaryOp .Not x _=>okT a&&(Za x&&Yi a N sc x)
 |.ite c a b,.IfExp t x y _=>okT c&&(Za t&&Yi c N sc t)&&(Za x&&Yi a N sc x)&&(Za y&&Yi b N sc y)
 |.tup es,.Tuple vs _ _=>decide (vs.length<1000)&&yi es N sc vs
 |.lst _ es,.List vs _=>decide (vs.length<1000)&&yi es N sc vs
 |.sub a i,.Subscript x y _=>(Za x&&Yi a N sc x)&&(Za y&&Yi i N sc y)
 |.slice _ a lo hi,.Subscript x (.Slice l u none _) _=>(Za x&&Yi a N sc x)&&zby lo N sc l&&zby hi N sc u
 |.fld a n,.Attribute x m _=>m==Str.ofString n&&Zf x&&(Za x&&Yi a N sc x)
 |.glob g,.Name x _=>x==Str.ofString g&&gl sc x&&YbI (Pm.globs g)
 |.call f es,.Call (.Name x _) (v::vs) [] _=>x==Str.ofString f&&gl sc x&&!(f.toList.contains '.')&&(Pm.defs f).isSome&&yi es N sc (v::vs)
 |.make _ c es,.Call (.Name x _) (v::vs) [] _=>x==Str.ofString c&&gl sc x&&(Pm.meths c "__init__").isSome&&yi es N sc (v::vs)
 |.make _ c [],.Call (.Name x _) [] [] _=>x==Str.ofString c&&gl sc x&&Pm.mk0 c&&(Pm.meths c "__init__").isNone
 |.blt _ n es,.Call (.Name x _) (v::vs) [] _=>x==Str.ofString n&&gl sc x&&(fnNames.contains n||tyNames.contains n)&&yi es N sc (v::vs)
 |.isI a t,e=>match Y1 e with
  |some (x,v,y)=>x==("isinstance":Str)&&gl sc x&&y==Str.ofString t&&gl sc y&&(isTys.contains t||(Pm.subs t t).isSome)&&(Za v&&Yi a N sc v)
  |none=>false
 |.lineX a,.Attribute v f _=>f==("line":Str)&&Zf v&&(Za v&&Yi a N sc v)
 |.isX a t,e=>match Y1 e with
  |some (x,v,y)=>x==("isinstance":Str)&&gl sc x&&y==Str.ofString t&&gl sc y&&Pm.xcls t&&(Za v&&Yi a N sc v)
  |none=>false
 |.tx1 .setl a,e=>match yaE e with
  |some (x,y,v)=>x==("len":Str)&&gl sc x&&y==("set":Str)&&gl sc y&&(Za v&&Yi a N sc v)
  |none=>false
 |.tx1 o a,.Call (.Name x _) [v] [] _=>x==t1N o&&gl sc x&&(Za v&&Yi a N sc v)
 |.tx2 .join a b,.Call (.Attribute x n ap) [v] [] cp=>n==("join":Str)&&Zf x&&(ap.endLine==cp.line)&&(Za x&&Yi a N sc x)&&(Za v&&Yi b N sc v)
 |.tx2 (.split _) a b,.Call (.Attribute x n ap) [v] [] cp=>n==("split":Str)&&Zf x&&(ap.endLine==cp.line)&&(Za x&&Yi a N sc x)&&(Za v&&Yi b N sc v)
 |.tx2 .at a b,.Subscript x y _=>(Za x&&Yi a N sc x)&&(Za y&&Yi b N sc y)
 |.tx2 .inn a b,e=>match zM e with
  |some (l,o,r)=>o == .In&&(Za l&&Yi a N sc l)&&(Za r&&Yi b N sc r)
  |none=>false
 |.tx2 .cat a b,.BinOp x .Add y _=>(Za x&&Yi a N sc x)&&(Za y&&Yi b N sc y)
 |.tx2 .rep a b,.BinOp x .Mult y _=>(Za x&&Yi a N sc x)&&(Za y&&Yi b N sc y)
 |.lm m o es,.Call (.Attribute x n ap) vs [] cp=>n==Str.ofString m&&Zf x&&(ap.endLine==cp.line)&&(Za x&&Yi o N sc x)&&yi es N sc vs&&(if vs.isEmpty then lm0Names.contains m else lmNames.contains m&&decide (vs.length<30))
 |.comp _ elt tg it src cond ncv js,.ListComp x [⟨t,iter,ifs,a⟩] cs _ =>
   let N':=tgN tg t++js.filterMap λj=>N[j]?
   (a==0)&&Za iter&&qv sc N cs N' ncv js&&decide N'.Nodup&&zv (ownC cs) N' (ZA cs sc) tg t&&(Za x&&Yi elt N' (ZA cs sc) x)&&chkC cond N' (ZA cs sc) ifs &&
    (if it == "seq" then Zar src N sc iter else if it == "signs" then Zar src N sc iter else if it == "enum1" then false else qam t it iter&&gl sc (Str.ofString it)&&yi src N sc (Yu iter))
 |.frz m,e=>(Za e&&Yi m N sc e)
 |_,_=>false
noncomputable def yi(mes:List ME)(N:List Str)(sc:Scope)(es:List Expr):Bool:=match mes,es with
 |[],[]=>true
 |m::ms,e::es=>(Za e&&Yi m N sc e)&&yi ms N sc es
 |_,_=>false
noncomputable def Zar(mes:List ME)(N:List Str)(sc:Scope)(e:Expr):Bool:=match mes with
 |[m]=>(Za e&&Yi m N sc e)
 |_=>false
noncomputable def zby(mo:Option ME)(N:List Str)(sc:Scope)(eo:Option Expr):Bool:=match mo,eo with
 |none,none=>true
 |some m,some e=>(Za e&&Yi m N sc e)
 |_,_=>false
noncomputable def chkC(mo:Option ME)(N:List Str)(sc:Scope)(es:List Expr):Bool:=match mo,es with
 |none,[]=>true
 |some m,[e]=>okT m&&(Za e&&Yi m N sc e)
 |_,_=>false
end
noncomputable def Ze(me:ME)(N:List Str)(sc:Scope)(e:Expr):Bool:=Za e&&Yi Pm me N sc e
end
noncomputable def spR(ct:Tx)(W:List MV->MH->R MV):Sp:=λvs H Q E=>∃ μ h ms,Rel ct μ h H/\RVs ct μ (Liv μ h) H ms vs/\Po ct E (W ms h) μ h H (kV ct Q)
structure ClsOk (K:PySem.W.Frag) (C:Addr):Prop where
 cl:Cls K C
 ha:wc K (.ref C) "__class__"=some (some (.builtin "object.__class__"))
 hn:uj K (.builtin "object.__class__") "__get__"=some (some (.builtin "getset_descriptor.__get__"))
 tk:Wm K (.builtin "object.__class__")=some true
 hm:Vn K C (.type "object")=some true
noncomputable def spW(ct:Tx)(Pm:Prog)(wd:String):Addr->Addr->Sp:=λx C vs H Q _=>vs=[.ref x]/\∃ c s,C=ct c/\Pm.word wd c=some s/\∀ H',Same H H'->Q (.str s) H'
noncomputable def ZbJ(mg:Str->Option Value)(x:String):FV->Prop
 |.int i=>∃ t,mg (Str.ofString x)=some (.int i t)
 |.str s=>∃ t,mg (Str.ofString x)=some (.str s t)
 |_=>False
noncomputable def XI(K:PySem.W.Frag)(mg:Str->Option Value)(ct:Tx)(c:String):Prop:=(∃ fI fd,XInit K mg (ct c) fI fd)/\mg (Str.ofString c)=some (.ref (ct c))/\c.toList.contains '.'=false/\XL K (ct c)
structure Txt (P:Program) (w:World) (K:PySem.W.Frag) (mg:Str->Option Value) (base:Heap) (Pm:Prog) (ct:Tx) (n:Nat):Prop where
 defs:∀ f d,Pm.defs f=some d->f.toList.contains '.'=false->∃ ps,QaU P w K mg base (Str.ofString f) (2*n) ps (spR ct (run Pm n f))
 inits:∀ c f,Pm.meths c "__init__"=some f->∃ ps,Ybx P w K mg base (Str.ofString c) (ct c) (2*n) ps (spR ct (run Pm n f))
 blts:∀ x∈fnNames++tyNames++isTys++["range","zip","enumerate","isinstance","sorted","reversed","set"],mg (Str.ofString x)=none
 fok:∀ c f,Pm.fok c f=true->Cls K (ct c)/\NoAttr K (ct c) (Str.ofString f)
 cls:∀ c t b,Pm.subs c t=some b->ClsOk K (ct c)
 subC:∀ c t b,Pm.subs c t=some b->isTys.contains t=false->mg (Str.ofString t)=some (.ref (ct t))/\Vc K (.ref (ct c)) (.ref (ct t))=some b
 subT:∀ c t b,Pm.subs c t=some b->isTys.contains t=true->Vc K (.ref (ct c)) (.type t)=some b
 tyC:∀ t c b,Pm.subs c t=some b->isTys.contains t=false->∀ T∈["NoneType","bool","int","str","list","tuple"],Vc K (.type T) (.ref (ct t))=some false
 excs:∀ c,Pm.excs c=true->ExcC K (ct c)/\mg (Str.ofString c)=some (.ref (ct c))/\Yn c=none
 exci:∀ c g,Pm.exci c=some g->XI K mg ct c
 words:∀ wd,Pm.words wd=true->ExcC K (ct "DotError")/\mg "DotError"=some (.ref (ct "DotError"))/\(∃ ps,ybC P w K mg base (Str.ofString wd) 1 ps (spW ct Pm wd)) /\
  ∀ c s,Pm.word wd c=some s->(zB K (ct c)/\(Zm K (ct c)).contains (.ref (ct "DotError"))=true)/\Yn c=none
 xcls:∀ t,Pm.xcls t=true->(if t="ValueError" then mg "ValueError"=none else mg (Str.ofString t)=some (.ref (ct t)))
 xs:∀ c t b,Pm.xsubs c t=some b->ExcK K (ct c)/\Vc K (.ref (ct c)) (if t="ValueError" then .type "ValueError" else .ref (ct t))=some b
 dfl:∀ f ds,Pm.dfl f ds=true->∃ ps fa fd dvals,FnOk P w K mg base (CX1 P w) (2*n) fa fd ps (spR ct (run Pm n f))/\Binds K fd ps dvals/\Vals (ds.map V.int) dvals/\Xg K (.ref fa)=true/\mg (Str.ofString f)=some (.ref fa)
 xdot:Pm.xt=true->ExcC K (ct "DotError")/\mg "DotError"=some (.ref (ct "DotError"))/\∀ c b,Pm.xsubs c c=some b->zB K (ct c)/\(Zm K (ct c)).contains (.ref (ct "DotError"))=true
 meths:∀ c m f,Pm.meths c m=some f->m≠"__init__"->zb7 P w K mg base (2*n) (ct c) (Str.ofString m) (spR ct (run Pm n f))
 mk0:∀ c,Pm.mk0 c=true->Mk0 K (ct c)/\mg (Str.ofString c)=some (.ref (ct c))
 globs:∀ x v,Pm.globs x=some v->ZbJ mg x v
structure Cc (X:Cx) (Pm:Prog) (ct:Tx) (n:Nat) (Ra:L2.St->Prop) (E:XK) (N:List Str) (sc:Scope):Prop where
 txt:Txt X.prog X.w X.K X.mg X.base Pm ct n
 calm:X.calm=true
 room:Room (2*n+1) X.A
 pas:∀ σ,Ra σ->zt (CX1 X.prog X.w) X σ E
 nm:X.N=N
 sc:X.env.scope=sc
 nd:X.N.Nodup
 hK:X.K=ct.K
section
variable {ct:Tx} {X:Cx} {E:XK} {Pm:Prog} {n:Nat} {Ra:L2.St->Prop} {N:List Str} {sc:Scope}
theorem Cc.units(c:Cc X Pm ct n Ra E N sc):X.A.units+65<cLine:=by have:=c.room.un;lia
theorem yq{x:Str}(hs:X.env.scope=sc)(h:gl sc x=true):Gl X x/\(x==("__debug__":Str))=false/\x≠"__name__":=by
 unfold gl at h;simp only[Wa,beq_iff_eq,Vg,decide_eq_true_eq] at h;refine⟨?_,h.1.2,h.2⟩;show X.env.scope.names.lookup x=_;rw[hs];exact h.1.1
theorem yd{e:Expr}{es:List Expr}{env:Env}(h:Za e=true):starEach (e::es) env=(false,eval e env)::starEach es env:=by
 cases e <;> first|rfl|(simp[Za] at h)
theorem YS{e:Expr}(h:Za e=true)(op:CmpOp):behindInMarks op e=false:=by
 cases e <;> first|rfl|(simp[Za] at h)
theorem ZaT{e:Expr}(h:Za e=true):zbd e:=by
 intro o i;cases e <;> first|rfl|(simp[Za] at h)
theorem zF{e:Expr}{env:Env}(h:Za e=true):∀ x,foldedSetIterable e env x=pure x:=by
 intro x;cases e <;> first|rfl|(simp[Za] at h)
theorem Zy{e:Expr}{f:Str}{env:Env}{w:Sem Value}(h:Zf e=true):attributeBase e f env w=w:=by
 cases e with
 |Call g as ks p =>
  cases g with
  |Name x q =>
   cases as with
   |nil =>
    cases ks with
    |nil =>
     have h':(x==("super":Str))=false:=by simpa[Zf] using h
     have e1:(x != ("super":Str))=true:=by simp[bne,h']
     unfold attributeBase;simp only[e1,Bool.true_or,if_true]
    |cons _ _=>rfl
   |cons _ _=>rfl
  |_=>rfl
 |_=>rfl
theorem Zh{me:ME}{e:Expr}(h:Ze Pm me N sc e=true):Za e=true:=by
 unfold Ze at h;exact(Vs.mp h).1
theorem Yd{me:ME}{e:Expr}(h:Ze Pm me N sc e=true):Yi Pm me N sc e=true:=by
 unfold Ze at h;exact(Vs.mp h).2
theorem ff{P:Prop}(h:false=true):P:=Vf h
theorem za2{m:ME}{ms:List ME}{e:Expr}{es:List Expr}(h:yi Pm (m::ms) N sc (e::es)=true):Ze Pm m N sc e=true/\yi Pm ms N sc es=true:=Vs.mp (show(Ze Pm m N sc e&&yi Pm ms N sc es)=true from h)
theorem zi{env:Env}:∀{es:List Expr},(∀ e∈es,Za e=true)->starEach es env=es.map λe=>(false,eval e env)
 |[],_=>rfl
 |e::es,h=>by
  rw[yd (h e (by simp)),zi λx hx=>h x (by simp[hx])];rfl
theorem yr{env:Env}{pos:Pos}{es:List Expr}(h:∀ e∈es,Za e=true):(backTo pos (starEach es env)).any (·.1)=false:=by
 rw[zi h];unfold backTo;rw[Ui,List.any_map]
 induction es with
 |nil=>rfl
 |cons e es ih=>simp[Function.comp]
theorem PE.imp{e:Expr}{t t':TE}(p:PE X e t)(k:∀ σ H Q,t' σ H Q->t σ H Q):PE X e t':=λpins s σ H Q I h=>p pins s σ H Q I (k σ H Q h)
theorem PT.imp{e:Expr}{t t':TT}(p:PT X e t)(k:∀ σ H Q,t' σ H Q->t σ H Q):PT X e t':=λpins s σ H Q I h=>p pins s σ H Q I (k σ H Q h)
theorem PW.imp{e:Expr}{t t':TT}(p:PW X e t)(k:∀ σ H Q,t' σ H Q->t σ H Q):PW X e t':=λwh pins s σ H Q I h=>p wh pins s σ H Q I (k σ H Q h)
theorem PA.imp{es:List Expr}{t t':TA}(p:PA X es t)(k:∀ σ H Q,t' σ H Q->t σ H Q):PA X es t':=λpos pins s σ H Q I h=>p pos pins s σ H Q I (k σ H Q h)
theorem PS.imp{e:Stmt}{t t':TS}(p:PS X e t)(k:∀ D σ H,t' D σ H->t D σ H):PS X e t':=λpins s σ H D I h=>p pins s σ H D I (k D σ H h)
theorem PSs.imp{e:List Stmt}{t t':TS}(p:PSs X e t)(k:∀ D σ H,t' D σ H->t D σ H):PSs X e t':=λpins s σ H D I h=>p pins s σ H D I (k D σ H h)
noncomputable def lG(ct:Tx)(tg:Tg):TG:=λv σ H Q=>∃ μ h σs m σs',Rel ct μ h H/\RelSt ct μ h H σ σs/\RV ct μ (Liv μ h) H m v/\Yq tg m σs=some σs'/\∀ σ',RelSt ct μ h H σ' σs'->Q σ' H
noncomputable def lGs(ct:Tx)(tgs:List Tg):TGs:=λvs σ H Q=>∃ μ h σs ms σs',Rel ct μ h H/\RelSt ct μ h H σ σs/\RVs ct μ (Liv μ h) H ms vs/\Yy tgs ms σs=some σs'/\∀ σ',RelSt ct μ h H σ' σs'->Q σ' H
theorem PG.imp{e:Expr}{t t':TG}(p:PG X e t)(k:∀ v σ H Q,t' v σ H Q->t v σ H Q):PG X e t':=λpins s σ H v u Q I r h=>p pins s σ H v u Q I r (k v σ H Q h)
theorem PGs.imp{e:List Expr}{t t':TGs}(p:PGs X e t)(k:∀ v σ H Q,t' v σ H Q->t v σ H Q):PGs X e t':=λpins s σ H v u Q I r h=>p pins s σ H v u Q I r (k v σ H Q h)
theorem Q3{lo:Str->Bool}{t:Tg}{e:Expr}(h:zv lo N sc t e=true):∀(es:List Expr)(env:Env),assignEach (e::es) env=(false,assign e env)::assignEach es env:=by
 intro es env;cases t with
 |nm i=>cases e <;> first|rfl|(simp[zv] at h)
 |tp ts=>cases e <;> first|rfl|(simp[zv] at h)
theorem Zag{lo:Str->Bool}{env:Env}:∀{ts:List Tg}{es:List Expr},zR lo N sc ts es=true->(assignEach es env).length=ts.length/\(assignEach es env).findIdx? (·.1)=none
 |[],[],_=>⟨rfl,rfl⟩
 |[],_::_,h=>by simp[zR] at h
 |_::_,[],h=>by simp[zR] at h
 |t::ts,e::es,h=>by
  simp only[zR,Wa] at h;obtain⟨h1,h2⟩:=Zag (env:=env) h.2;rw[Q3 h.1 es env];exact⟨by simp[h1],by rw[List.findIdx?_cons];simp[h2]⟩
theorem Qah:∀{ts:List Tg}{ms:List MV}{σs σs':MSt},Yy ts ms σs=some σs'->ms.length=ts.length
 |[],[],_,_,_=>rfl
 |[],_::_,_,_,e=>by simp[Yy] at e
 |_::_,[],_,_,e=>by simp[Yy] at e
 |t::ts,m::ms,σs,σs',e=>by
  simp only[Yy,Xb] at e;obtain⟨σ1,_,e2⟩:=e;simp[Qah e2]
mutual
theorem sG{lo:Str->Bool}(hN:X.N=N)(hs:X.env.scope=sc)(nd:X.N.Nodup)(hc:X.calm=true)(hf:∀ x,lo x=true->X.fn x=true):∀(t:Tg)(e:Expr),zv lo N sc t e=true->PG X e (lG ct t)
 |.nm i,e,h=>by
  cases e with
  |Name x p =>
   simp only[zv,ya0,Wa,beq_iff_eq,Xi] at h;obtain⟨h1,h2⟩:=h;have hi:X.N[i]?=some x:=by rw[hN];exact h1
   have hk:Loc X.env.scope x:=by
    rw[hs]
    rcases h2 with h2|⟨_,h2⟩
    ·exact .inl h2
    ·exact .inr h2
   have hf':X.fn x=true\/X.env.scope.names.lookup x=some .local:=by
    rw[hs]
    rcases h2 with h2|⟨hl,h2⟩
    ·exact .inr h2
    ·exact .inl (hf x hl)
   refine PG.imp (Qbb nd hi hk hf') λv σ H Q q=>?_;obtain⟨μ,hh,σs,m,σs',rel,rst,r,e,k⟩:=q;simp[Yq] at e;subst e;exact k _ (rst.set i r)
  |_=>simp[zv] at h
 |.tp ts,e,h=>by
  cases e with
  |Tuple es k p =>
   simp only[zv] at h;obtain⟨h1,h2⟩:=Zag (env:=X.env) h;refine PG.imp (yb9 hc (sGs hN hs nd hc hf ts es h) h1 h2) λv σ H Q q=>?_;obtain⟨μ,hh,σs,m,σs',rel,rst,r,e,k⟩:=q;simp only[Yq,Xb] at e;obtain⟨ms,e1,e2⟩:=e;obtain⟨a,vs,rfl,_,rd,rs⟩:=Qs e1 r;exact⟨a,vs,rfl,.inl (.inl rd),by rw[rs.length];exact Qah e2,μ,hh,σs,ms,σs',rel,rst,rs,e2,k⟩
  |_=>simp[zv] at h
theorem sGs{lo:Str->Bool}(hN:X.N=N)(hs:X.env.scope=sc)(nd:X.N.Nodup)(hc:X.calm=true)(hf:∀ x,lo x=true->X.fn x=true):∀(ts:List Tg)(es:List Expr),zR lo N sc ts es=true->PGs X es (lGs ct ts)
 |[],es,h=>by
  cases es with
  |nil =>
   refine PGs.imp zbZ λv σ H Q q=>?_;obtain⟨μ,hh,σs,ms,σs',rel,rst,rs,e,k⟩:=q;cases ms with
   |nil =>
    simp only[RVs] at rs;subst rs;simp[Yy] at e;subst e;exact⟨rfl,k _ rst⟩
   |cons m ms=>simp[Yy] at e
  |cons e es=>simp[zR] at h
 |t::ts,es,h=>by
  cases es with
  |nil=>simp[zR] at h
  |cons e es =>
   simp only[zR,Wa] at h;refine PGs.imp (QbM (sG hN hs nd hc hf t e h.1) (sGs hN hs nd hc hf ts es h.2) (by rw[Q3 h.1 es X.env];rfl)) λv σ H Q q=>?_;obtain⟨μ,hh,σs,ms,σs',rel,rst,rs,e,k⟩:=q;cases ms with
   |nil=>simp[Yy] at e
   |cons m ms =>
    simp only[Yy,Xb] at e;obtain⟨σ1,e1,e2⟩:=e;simp only[RVs] at rs;obtain⟨v1,vr,rfl,r1,r2⟩:=rs;exact⟨v1,vr,rfl,μ,hh,σs,m,σ1,rel,rst,r1,e1,λσ' rst'=>⟨μ,hh,σ1,ms,σs',rel,rst',r2,e2,k⟩⟩
end
end
section
variable {ct:Tx} {X:Cx} {E:XK} {Pm:Prog} {n:Nat} {Ra:L2.St->Prop} {N:List Str} {sc:Scope}
theorem PI.imp{tg e:Expr}{t t':TI}(p:PI X tg e t)(k:∀ σ H Q,t' σ H Q->t σ H Q):PI X tg e t':=λpins s σ H Q I h=>p pins s σ H Q I (k σ H Q h)
noncomputable def Wk(ct:Tx)(J:It)(items:List MV)(g:zz)(μ1:List Addr)(h1:MH)(H1:Hp):Prop:=∀(i:Nat) μ h H,Ext μ1 h1 H1 μ h H->Rel ct μ h H->GuardOk g h ->
 (i<items.length->J.go i H/\∀ x H2,J.yld i H x H2->∃ m,items[i]?=some m/\Ext μ h H μ h H2/\Rel ct μ h H2/\RV ct μ (Liv μ h) H2 m x)/\(i=items.length->J.stop i H)
noncomputable def qbD(ct:Tx)(b:Bool)(a:Addr)(items:List MV)(g:zz)(μ1:List Addr)(h1:MH)(H1:Hp):Prop:=∀ μ h H,Ext μ1 h1 H1 μ h H->Rel ct μ h H->GuardOk g h->∃ vs,SqR ct H b a vs/\RVs ct μ (Liv μ h) H items vs
theorem qae{μ:List Addr}{h:MH}{H:Hp}{m:MV}{v:V}{items:List MV}(rel:Rel ct μ h H)(e:Zb h m=some items)(r:RV ct μ (Liv μ h) H m v):∃ b a,v=.ref a/\qbD ct b a items (qe h m) μ h H:=by
 cases m with
 |f x =>
  rcases Ys e with e'|e'|⟨ns,e',rfl⟩
  ·obtain⟨a,vs,rfl,na,rd,rs⟩:=Qs e' r;exact⟨true,a,rfl,λμ' h' H' ex _ _=>⟨vs,SqT.of (ex.keep a _ rd na),rs.ext ex⟩⟩
  ·cases x with
   |lst xs =>
    simp only[RV,RF] at r;obtain⟨a,vs,rfl,na,rd,rs⟩:=r;cases e';exact⟨false,a,rfl,λμ' h' H' ex _ _=>⟨vs,.inl (Rd.keep (λo q=>ex.keep a o q na) rd),(RVs.ofF (μ:=μ) rs).ext ex⟩⟩
   |_=>cases e'
  ·cases e';simp only[RV,RF] at r;obtain⟨a,rfl,q⟩:=r;exact⟨false,a,rfl,λμ' h' H' ex _ _=>⟨_,Qay (L:=Liv μ' h') (q.imp (λ⟨n,o,e⟩=>⟨ex.let.liv a _ e n,o,ex.keep a _ e n⟩) id),qT ns⟩⟩
 |tup xs =>
  rcases Ys e with e'|e'|⟨ns,e',_⟩
  ·obtain⟨a,vs,rfl,na,rd,rs⟩:=Qs e' r;exact⟨true,a,rfl,λμ' h' H' ex _ _=>⟨vs,SqT.of (ex.keep a _ rd na),rs.ext ex⟩⟩
  ·cases e'
  ·cases e'
 |ref i =>
  have e0:Ye h i=some items:=e;simp only[RV] at r;obtain⟨b,eb,rfl⟩:=r;refine⟨false,b,rfl,λμ' h' H' ex rel' g=>?_⟩;have g':Ye h' i=some items:=g (i,items) (by simp[qe,e0]);obtain⟨b',vs,eb',hb,rs⟩:=rel'.lst g';obtain⟨ν,rfl⟩:=ex.pre;rw[va (Xa.mp eb).1,eb] at eb';cases eb';exact⟨vs,SqL.of hb,rs⟩
 |exc c=>cases e
theorem GuardOk.left{g g':zz}{h:MH}(k:GuardOk (g++g') h):GuardOk g h:=λp hp=>k p (ud _ hp)
theorem GuardOk.right{g g':zz}{h:MH}(k:GuardOk (g++g') h):GuardOk g' h:=λp hp=>k p (uc _ hp)
theorem Ycm{K:PySem.W.Frag}(hK:K=ct.K){b:Bool}{a:Addr}{items:List MV}{g:zz}{μ1:List Addr}{h1:MH}{H1:Hp}(st:qbD ct b a items g μ1 h1 H1):Wk ct (Its K b a) items g μ1 h1 H1:=by
 intro i μ h H ex rel gd;obtain⟨vs,sq,rs⟩:=st μ h H ex rel gd;have hl:=rs.length;refine⟨λhi=>⟨Its.go (sq.s hK) (by lia),λx H2 y=>?_⟩,λhi=>?_⟩
 ·obtain⟨rfl,e⟩:=Its.yld (sq.s hK) y;obtain⟨m,em,rm⟩:=rs.get' e;exact⟨m,em,Ext.refl _ _ _,rel,rm⟩
 ·rw[hi,<- hl];exact Its.stop (sq.s hK)
theorem qb6{K:PySem.W.Frag}(hK:K=ct.K){b1 b2:Bool}{a1 a2:Addr}{xs ys:List MV}{g g':zz}{μ1:List Addr}{h1:MH}{H1:Hp}(s1:qbD ct b1 a1 xs g μ1 h1 H1)(s2:qbD ct b2 a2 ys g' μ1 h1 H1) :
  Wk ct (Itz K b1 b2 a1 a2) ((xs.zip ys).map λp=>zg [p.1,p.2]) (g++g') μ1 h1 H1:=by
 intro i μ h H ex rel gd;obtain⟨vs,sq,rs⟩:=s1 μ h H ex rel (GuardOk.left gd);obtain⟨ws,sq',rs'⟩:=s2 μ h H ex rel (GuardOk.right gd);have hl:=rs.length;have hl':=rs'.length;refine⟨λhi=>?_,λhi=>?_⟩
 ·simp only[Vd,List.length_zip] at hi;refine⟨⟨vs,ws,sq.s hK,sq'.s hK,by lia,by lia⟩,λx H2 y=>?_⟩;obtain⟨T,x1,y1,rfl,hT,rfl,e1,e2⟩:=y;obtain⟨m1,em1,r1⟩:=rs.get' (e1 vs (sq.s hK));obtain⟨m2,em2,r2⟩:=rs'.get' (e2 ws (sq'.s hK));have exn:=Ext.new rel hT (.tup [x1,y1]);refine⟨zg [m1,m2],?_,exn,rel.new hT _,QA (YO rel hT) qb (RVs.cons (r1.ext exn) (RVs.cons (r2.ext exn) RVs.nil))⟩;simp only[We,List.getElem?_zip_eq_some,ub];exact⟨(m1,m2),⟨em1,em2⟩,rfl⟩
 ·simp only[Vd,List.length_zip] at hi;refine⟨vs,ws,sq.s hK,sq'.s hK,?_⟩
  lia
theorem qbW{K:PySem.W.Frag}(hK:K=ct.K){b:Bool}{a:Addr}{xs:List MV}{g:zz}{μ1:List Addr}{h1:MH}{H1:Hp}(s1:qbD ct b a xs g μ1 h1 H1):Wk ct (Ite K b a) (xs.mapIdx λk x=>zg [.f (.int k),x]) g μ1 h1 H1:=by
 intro i μ h H ex rel gd;obtain⟨vs,sq,rs⟩:=s1 μ h H ex rel gd;have hl:=rs.length;refine⟨λhi=>?_,λhi=>?_⟩
 ·simp only[uz] at hi;refine⟨⟨vs,sq.s hK,by lia⟩,λx H2 y=>?_⟩;obtain⟨T,x1,rfl,hT,rfl,e1⟩:=y;obtain⟨m1,em1,r1⟩:=rs.get' (e1 vs (sq.s hK));have exn:=Ext.new rel hT (.tup [.int i,x1]);refine⟨zg [.f (.int i),m1],?_,exn,rel.new hT _,QA (YO rel hT) qb (RVs.cons (yn _) (RVs.cons (r1.ext exn) RVs.nil))⟩;rw[Um,em1];rfl
 ·simp only[uz] at hi;exact⟨vs,sq.s hK,by lia⟩
theorem Zb9{lo:Int}{k:Nat}{μ1:List Addr}{h1:MH}{H1:Hp}(f:Nat->Int)(hf:∀ i:Nat,f i=lo+i):Wk ct (Itr lo k) ((Ue k).map λi=>MV.f (.int (f i))) [] μ1 h1 H1:=by
 intro i μ h H ex rel gd;refine⟨λhi=>?_,λhi=>?_⟩
 ·have hi':i<k:=by simpa using hi
  refine⟨hi',λx H2 y=>?_⟩;obtain⟨rfl,rfl⟩:=y;refine⟨.f (.int (f i)),by simp[hi'],Ext.refl _ _ _,rel,?_⟩;rw[hf];exact yn _
 ·have hi':i=k:=by simpa using hi
  exact Vl hi'.symm
noncomputable def lI(ct:Tx)(Ra:L2.St->Prop)(E:XK)(ev:MSt->MH->R (List MV))(it:String):TI:=λσ H R=>∃ μ h σs,Rel ct μ h H/\RelSt ct μ h H σ σs/\Ra σ /\
 Po ct E (ev σs h) μ h H λxs μ1 h1 H1=>∃ items g,itV it xs h1=some (items,g)/\Rel ct μ1 h1 H1/\∀ J,Wk ct J items g μ1 h1 H1->R J H1
theorem Ycl(hK:X.K=ct.K){tg e:Expr}{ev:MSt->MH->R MV}(h:PE X e (lE ct Ra E ev)):PI X tg e (lI ct Ra E (λσ hh=>(ev σ hh).bind λx h1=>.ok [x] h1) "seq"):=PI.imp (k_sq X.K h) λσ H Q q=>by
 obtain⟨μ,hh,σs,rel,rst,ra,p⟩:=q;refine lE.mk rel rst ra p λm v μ1 h1 H1 ex rel1 rst1 rv p1=>?_;obtain⟨items,g,e1,_,k⟩:=p1.now rel1;simp only[YM,ub,Prod.mk.injEq] at e1;obtain⟨xs,e2,rfl,rfl⟩:=e1;obtain⟨b,a,rfl,st⟩:=qae rel1 e2 rv;obtain⟨vs,sq,_⟩:=st μ1 h1 H1 (Ext.refl _ _ _) rel1 (λp hp=>by
  cases m with
  |ref i =>
   have e0:Ye h1 i=some xs:=e2;simp[qe,e0] at hp;subst hp;exact e0
  |f _=>simp[qe] at hp
  |tup _=>simp[qe] at hp
  |exc _=>simp[qe] at hp)
 exact⟨b,a,rfl,⟨vs,sq.s hK⟩,k _ (Ycm hK st)⟩
theorem Q2{h1:MH}{m:MV}{xs:List MV}(e2:Zb h1 m=some xs):GuardOk (qe h1 m) h1:=λp hp=>by
 cases m with
 |ref i =>
  have e0:Ye h1 i=some xs:=e2;simp[qe,e0] at hp;subst hp;exact e0
 |f _=>simp[qe] at hp
 |tup _=>simp[qe] at hp
 |exc _=>simp[qe] at hp
set_option tactic.hygienic true in
theorem ybM{tg:Expr}{es:List Expr}{p pos:Pos}{ev:MSt->MH->R (List MV)}(hg:Gl X "range")(hm:X.mg "range"=none)(ha:PA X es (lA ct Ra E ev))(hpl:∀ e∈es,Za e=true)(hl:es.length=1)(hn:∀ σ h xs h',ev σ h=.ok xs h'->xs.length=es.length) :
  PI X tg (.Call (.Name "range" p) es [] pos) (lI ct Ra E ev "range"):=by
 rcases es with _|⟨a,_|⟨b,_|⟨c,_|⟨d,es⟩⟩⟩⟩
 ·simp at hl
 ·refine PI.imp (zbo hg hm ha (zi hpl)) λσ H Q q=>?_;obtain(⟨μ,hh,σs,rel,rst,ra,p⟩):=q;refine⟨μ,hh,σs,rel,rst,ra,?_⟩;cases er:ev σs hh with
  |exc c h'=>rw[er] at p;exact p
  |stuck=>rw[er] at p;exact p
  |ok xs h' =>
   rw[er] at p;have hx:=hn _ _ _ _ er;intro μ' H' ex rel' vs rvs;obtain(⟨items,g,e1,_,k⟩):=p μ' H' ex rel'
   rcases xs with _|⟨m,_|⟨m2,xs⟩⟩
   ·simp at hx
   ·obtain(⟨v,rfl,rm⟩):=qu rvs;simp only[Ycq,Xb] at e1;obtain(⟨j,e2,e3⟩):=e1;have:=Yg e2;subst this;split at e3
    next c =>
     simp only[Option.some.injEq,Prod.mk.injEq] at e3;obtain(⟨rfl,rfl⟩):=e3;rw[zk rm];exact⟨j,rfl,c.1,c.2,k _ (Zb9 _ λi=>by simp)⟩
    next=>cases e3
   ·simp at hx
 ·simp at hl
 ·simp at hl
 ·simp at hl
theorem qcf(hK:X.K=ct.K){a b:Expr}{es:List Expr}{kt:Nat}{pt p pos:Pos}{ev:MSt->MH->R (List MV)}(hg:Gl X "zip")(hm:X.mg "zip"=none)(ha:PA X [a,b] (lA ct Ra E ev))(hpl:∀ e∈[a,b],Za e=true)(hn:∀ σ h xs h',ev σ h=.ok xs h'->xs.length=2) :
  PI X (.Tuple es kt pt) (.Call (.Name "zip" p) [a,b] [] pos) (lI ct Ra E ev "zip"):=by
 refine PI.imp (k_zip X.K hg hm ha (zi hpl) (zi λe he=>hpl e (by simp at he;simp[he]))) λσ H Q q=>?_;obtain⟨μ,hh,σs,rel,rst,ra,p⟩:=q;refine⟨μ,hh,σs,rel,rst,ra,?_⟩;cases er:ev σs hh with
 |exc c h'=>rw[er] at p;exact p
 |stuck=>rw[er] at p;exact p
 |ok xs h' =>
  rw[er] at p;have hx:=hn _ _ _ _ er;intro μ' H' ex rel' vs rvs;obtain⟨items,g,e1,_,k⟩:=p μ' H' ex rel'
  rcases xs with _|⟨m,_|⟨m2,_|⟨m3,xs⟩⟩⟩
  ·simp at hx
  ·simp at hx
  ·obtain⟨v,v',rfl,rm,rm'⟩:=qaz rvs;simp only[zbU,Xb,ub,Prod.mk.injEq] at e1;obtain⟨us,e2,ws,e3,rfl,rfl⟩:=e1;obtain⟨b1,a1,rfl,s1⟩:=qae rel' e2 rm;obtain⟨b2,a2,rfl,s2⟩:=qae rel' e3 rm';obtain⟨vs1,q1,_⟩:=s1 _ _ _ (Ext.refl _ _ _) rel' (Q2 e2);obtain⟨vs2,q2,_⟩:=s2 _ _ _ (Ext.refl _ _ _) rel' (Q2 e3);exact⟨b1,b2,a1,a2,rfl,⟨vs1,q1.s hK⟩,⟨vs2,q2.s hK⟩,k _ (qb6 hK s1 s2)⟩
  ·simp at hx
theorem ybX(hK:X.K=ct.K){a:Expr}{es:List Expr}{kt:Nat}{pt p pos:Pos}{ev:MSt->MH->R (List MV)}(hg:Gl X "enumerate")(hm:X.mg "enumerate"=none)(ha:PA X [a] (lA ct Ra E ev))(hpl:∀ e∈[a],Za e=true)(hn:∀ σ h xs h',ev σ h=.ok xs h'->xs.length=1) :
  PI X (.Tuple es kt pt) (.Call (.Name "enumerate" p) [a] [] pos) (lI ct Ra E ev "enumerate"):=by
 refine PI.imp (Zcm X.K hg hm ha (zi hpl)) λσ H Q q=>?_;obtain⟨μ,hh,σs,rel,rst,ra,p⟩:=q;refine⟨μ,hh,σs,rel,rst,ra,?_⟩;cases er:ev σs hh with
 |exc c h'=>rw[er] at p;exact p
 |stuck=>rw[er] at p;exact p
 |ok xs h' =>
  rw[er] at p;have hx:=hn _ _ _ _ er;intro μ' H' ex rel' vs rvs;obtain⟨items,g,e1,_,k⟩:=p μ' H' ex rel'
  rcases xs with _|⟨m,_|⟨m2,xs⟩⟩
  ·simp at hx
  ·obtain⟨v,rfl,rm⟩:=qu rvs;simp only[zaP,ub,Prod.mk.injEq] at e1;obtain⟨us,e2,rfl,rfl⟩:=e1;obtain⟨b1,a1,rfl,s1⟩:=qae rel' e2 rm;obtain⟨vs1,q1,_⟩:=s1 _ _ _ (Ext.refl _ _ _) rel' (Q2 e2);exact⟨b1,a1,rfl,⟨vs1,q1.s hK⟩,k _ (qbW hK s1)⟩
  ·simp at hx
end
theorem QF{a b:String}(h:Str.ofString a=Str.ofString b):a=b:=by
 rw[Str.ofString_eq_toList,Str.ofString_eq_toList] at h;injection h with h
 have h2:a.toList.map Char.toNat=b.toList.map Char.toNat:=by simpa using congrArg Xy h
 have h3:a.toList=b.toList:=by
  refine(List.map_inj_right λx y e=>?_).mp h2;exact Char.ext (UInt32.toNat_inj.mp e)
 exact String.ext h3
section
variable {ct:Tx} {X:Cx} {E:XK} {Pm:Prog} {n:Nat} {Ra:L2.St->Prop} {N:List Str} {sc:Scope}
noncomputable def tst(ev:MSt->MH->R MV):MSt->MH->R Bool:=λσ h=>(ev σ h).bind λx h1=>opt (zA x) λk=>.ok k h1
theorem QbK{ev:MSt->MH->R MV}{σ:L2.St}{H:Hp}{Q:Bool->Hp->Prop}(q:lT ct Ra E (tst ev) σ H Q):lE ct Ra E ev σ H λx H'=>∃ k,x=.bl k/\Q k H':=by
 obtain⟨μ,h,σs,rel,rst,ra,p⟩:=q;refine lE.mk rel rst ra p λm v μ1 h1 H1 ex rel1 rst1 rv p1=>?_;obtain⟨k,e,p2⟩:=Po.opt p1;have:=Qae e;subst this;exact⟨k,Zax rv,p2.now rel1⟩
theorem Yae{e:Expr}{t:TE}{ev:MSt->MH->R MV}(p:PE X e t)(pt:PT X e (Zb5 t))(k:∀ σ H Q,lE ct Ra E ev σ H Q->t σ H Q):PE X e (lE ct Ra E ev)/\PT X e (lT ct Ra E (tst ev)) :=
 ⟨PE.imp p k,PT.imp pt λσ H Q q=>k σ H _ (QbK q)⟩
theorem Qc{e:Expr}{ev:MSt->MH->R MV}(p:PE X e (lE ct Ra E ev))(he:∀ whole,isTrue e X.env whole=(do let v<-whole;standAt e.pos;holding [v] (truthy v)):=by intro _;rfl):PE X e (lE ct Ra E ev)/\PT X e (lT ct Ra E (tst ev)) :=
 ⟨p,PT.imp (Qci p he) λσ H Q q=>QbK q⟩
section
variable {ea eb ec:MSt->MH->R MV} {a b c:Expr} {pos:Pos}
theorem Qad{v:V}{x:FV}(h:PE X a (tC v))(r:∀ μ L H,RV ct μ L H (.f x) v):PE X a (lE ct Ra E λ_ h=>.ok (.f x) h):=PE.imp h λσ H Q q=>by
 obtain⟨μ,hh,σs,rel,rst,ra,p⟩:=q;exact p.now rel v (r _ _ _)
theorem e_var{i:Nat}{x:Str}(hN:X.N[i]?=some x)(hv:zaS X.env.scope x=true):PE X (.Name x pos) (lE ct Ra E λσ h=>opt ((σ[i]?).join) λv=>.ok v h):=by
 unfold zaS at hv;simp only[Wa,Xi,beq_iff_eq,Vg] at hv;refine PE.imp (zS hN (by rcases hv.1.1 with (h|h)|h;exact .inl h;exact .inr (.inl h);exact .inr (.inr h)) hv.1.2 hv.2) λσ H Q q=>?_;obtain⟨μ,hh,σs,rel,rst,ra,p⟩:=q;obtain⟨m,e,p⟩:=Po.opt p;have e':σs[i]?=some (some m):=by
  cases q:σs[i]? with
  |none=>rw[q] at e;cases e
  |some z=>rw[q] at e;exact congrArg some e
 obtain⟨v,e2,rv⟩:=rst.at_ i m e';exact⟨v,e2,p.now rel v rv⟩
theorem e_bin(fz:Bool)(op:BO)(ha:PE X a (lE ct Ra E ea))(hb:PE X b (lE ct Ra E eb)):PE X (.BinOp a (mOp op) b pos) (lE ct Ra E λσ h=>(ea σ h).bind λx h1=>(eb σ h1).bind λy h2=>Qe fz op x y h2) :=
 PE.imp (ybx (Qck (ct:=ct) (E:=E) fz op) ha hb) λσ H Q q=>by
  obtain⟨μ,h,σs,rel,rst,ra,p⟩:=q;exact lE.mk rel rst ra p λm v μ1 h1 H1 ex rel1 rst1 rv p1=>lE.mk rel1 rst1 ra p1 λm2 v2 μ2 h2 H2 ex2 rel2 rst2 rv2 p2=>⟨μ2,h2,m,m2,rel2,rv.ext ex2,rv2,p2⟩
theorem e_cmp(hK:X.K=ct.K)(op:CO)(hu:X.A.units+65<cLine)(ha:PE X a (lE ct Ra E ea))(hb:PE X b (lE ct Ra E eb))(hp:Za b=true) :
  PE X (.Compare a [ZbG op] [b] pos) (lE ct Ra E λσ h=>(ea σ h).bind λx h1=>(eb σ h1).bind λy h2=>opt (ZT op x y h2) λk=>.ok (.f (.bl k)) h2) /\
  PT X (.Compare a [ZbG op] [b] pos) (lT ct Ra E (tst λσ h=>(ea σ h).bind λx h1=>(eb σ h1).bind λy h2=>opt (ZT op x y h2) λk=>.ok (.f (.bl k)) h2)) :=
 Yae (qbb (ZbE (ct:=ct) hK hu op) ha hb (YS hp _)) (Ya9 (ZbE (ct:=ct) hK hu op) ha hb (YS hp _)) λσ H Q q=>by
  obtain⟨μ,h,σs,rel,rst,ra,p⟩:=q;refine lE.mk rel rst ra p λm v μ1 h1 H1 ex rel1 rst1 rv p1=>lE.mk rel1 rst1 ra p1 λm2 v2 μ2 h2 H2 ex2 rel2 rst2 rv2 p2=>?_;obtain⟨k,e,p3⟩:=Po.opt p2;exact⟨μ2,h2,m,m2,k,rel2,rv.ext ex2,rv2,e,p3.now rel2 _ (Zx _)⟩
theorem Qa1{μ:List Addr}{L:Addr->Prop}{H:Hp}{m:MV}{v:V}(r:RV ct μ L H m v):zq m=decide (v=.non):=by
 cases m with
 |f x =>
  cases x with
  |non=>simp only[RV,RF] at r;subst r;rfl
  |bl _=>simp only[RV,RF] at r;subst r;rfl
  |int _=>simp only[RV,RF] at r;subst r;rfl
  |str _=>simp only[RV,RF] at r;subst r;rfl
  |tup _=>simp only[RV,RF] at r;obtain⟨_,_,rfl,_⟩:=r;rfl
  |lst _=>simp only[RV,RF] at r;obtain⟨_,_,rfl,_⟩:=r;rfl
  |obj _ _ _=>simp only[RV,RF] at r;obtain⟨_,_,_,rfl,_⟩:=r;rfl
  |scr _=>simp only[RV,RF] at r;obtain⟨_,rfl,_⟩:=r;rfl
  |tab _=>simp only[RV,RF] at r;obtain⟨_,_,rfl,_⟩:=r;rfl
  |msk _=>simp only[RV,RF] at r;obtain⟨_,_,rfl,_⟩:=r;rfl
 |ref _=>simp only[RV] at r;obtain⟨_,_,rfl⟩:=r;rfl
 |tup _=>simp only[RV] at r;obtain⟨_,_,rfl,_⟩:=r;rfl
 |exc _=>simp only[RV] at r;obtain⟨_,_,rfl,_⟩:=r;rfl
theorem e_isN{j:Nat}{p2:Pos}(ha:PE X a (lE ct Ra E ea)) :
  PE X (.Compare a [.Is] [.Constant .none j p2] pos) (lE ct Ra E λσ h=>(ea σ h).bind λx h1=>.ok (.f (.bl (zq x))) h1) /\
  PT X (.Compare a [.Is] [.Constant .none j p2] pos) (lT ct Ra E (tst λσ h=>(ea σ h).bind λx h1=>.ok (.f (.bl (zq x))) h1)) :=
 Yae (QbG (ybF ha)) (Qbz (ybF ha)) λσ H Q q=>by
  obtain⟨μ,h,σs,rel,rst,ra,p⟩:=q;refine lE.mk rel rst ra p λm v μ1 h1 H1 ex rel1 rst1 rv p1=>?_;rw[<- Qa1 rv];exact p1.now rel1 _ (Zx _)
theorem yco{j:Nat}{p2:Pos}(ha:PE X a (lE ct Ra E ea)) :
  PE X (.Compare a [.IsNot] [.Constant .none j p2] pos) (lE ct Ra E λσ h=>(ea σ h).bind λx h1=>.ok (.f (.bl (!zq x))) h1) /\
  PT X (.Compare a [.IsNot] [.Constant .none j p2] pos) (lT ct Ra E (tst λσ h=>(ea σ h).bind λx h1=>.ok (.f (.bl (!zq x))) h1)) :=
 Yae (QbG (qa9 ha)) (Qbz (qa9 ha)) λσ H Q q=>by
  obtain⟨μ,h,σs,rel,rst,ra,p⟩:=q;refine lE.mk rel rst ra p λm v μ1 h1 H1 ex rel1 rst1 rv p1=>?_;rw[<- Qa1 rv];exact p1.now rel1 _ (Zx _)
theorem e_not(ha:PE X a (lE ct Ra E ea))(ta:PT X a (lT ct Ra E (tst ea))) :
  PE X (.UnaryOp .Not a pos) (lE ct Ra E λσ h=>(ea σ h).bind λx h1=>opt (zA x) λk=>.ok (.f (.bl (!k))) h1) /\
  PT X (.UnaryOp .Not a pos) (lT ct Ra E (tst λσ h=>(ea σ h).bind λx h1=>opt (zA x) λk=>.ok (.f (.bl (!k))) h1)):=by
 refine⟨PE.imp (qcl ha) λσ H Q q=>?_,PT.imp (Zcl ta) λσ H Q q=>?_⟩
 ·obtain⟨μ,h,σs,rel,rst,ra,p⟩:=q;refine lE.mk rel rst ra p λm v μ1 h1 H1 ex rel1 rst1 rv p1=>?_;obtain⟨k,e,p2⟩:=Po.opt p1;have:=Qae e;subst this;exact⟨k,Zax rv,p2.now rel1 _ (Zx _)⟩
 ·obtain⟨μ,h,σs,rel,rst,ra,p⟩:=q;refine⟨μ,h,σs,rel,rst,ra,?_⟩;dsimp only[tst] at p ⊢;cases er:ea σs h with
  |stuck=>rw[er] at p;exact p
  |exc c h'=>rw[er] at p;exact p
  |ok x h' =>
   rw[er] at p;simp only[R.bind_ok] at p ⊢;cases eb:zA x with
   |none=>rw[eb] at p;exact p
   |some k =>
    rw[eb] at p;exact p
theorem e_ite(tc:PT X c (lT ct Ra E (tst ec)))(ha:PE X a (lE ct Ra E ea))(hb:PE X b (lE ct Ra E eb)) :
  PE X (.IfExp c a b pos) (lE ct Ra E λσ h=>(ec σ h).bind λx h1=>opt (zA x) λk=>if k=true then ea σ h1 else eb σ h1) :=
 PE.imp (qbJ tc ha hb) λσ H Q q=>by
  obtain⟨μ,h,σs,rel,rst,ra,p⟩:=q;have p':Po ct E ((tst ec σs h).bind λk h1=>if k=true then ea σs h1 else eb σs h1) μ h H (kV ct Q):=by
   dsimp only[tst] at p ⊢;cases er:ec σs h with
   |stuck=>rw[er] at p;exact p
   |exc c h'=>rw[er] at p;exact p
   |ok x h' =>
    rw[er] at p;simp only[R.bind_ok] at p ⊢;cases eb:zA x with
    |none=>rw[eb] at p;exact p
    |some k=>rw[eb] at p;exact p
  refine lT.mk rel rst ra p' λk μ1 h1 H1 ex rel1 rst1 p1=>?_;cases k with
  |true=>exact⟨μ1,h1,σs,rel1,rst1,ra,p1⟩
  |false=>exact⟨μ1,h1,σs,rel1,rst1,ra,p1⟩
theorem e_frz(ha:PE X a (lE ct Ra E ea)):PE X a (lE ct Ra E λσ h=>(ea σ h).bind λx h1=>QD x h1):=PE.imp ha λσ H Q q=>by
 obtain⟨μ,h,σs,rel,rst,ra,p⟩:=q;refine lE.mk rel rst ra p λm v μ1 h1 H1 ex rel1 rst1 rv p1=>?_;obtain⟨x,h',ex',rel',rv',k⟩:=YbD rel1 rv p1;exact k v rv'
theorem e_sub(hK:X.K=ct.K)(ha:PE X a (lE ct Ra E ea))(hb:PE X b (lE ct Ra E eb))(hp:Za b=true) :
  PE X (.Subscript a b pos) (lE ct Ra E λσ h=>(ea σ h).bind λx h1=>(eb σ h1).bind λy h2=>opt (Zb h2 x) λxs=>opt (qc y) λk=>opt (atM xs k) λv=>.ok v h2) :=
 PE.imp (yb3 (ZbY (ct:=ct) hK) ha hb (ZaT hp)) λσ H Q q=>by
  obtain⟨μ,h,σs,rel,rst,ra,p⟩:=q;refine lE.mk rel rst ra p λm v μ1 h1 H1 ex rel1 rst1 rv p1=>lE.mk rel1 rst1 ra p1 λm2 v2 μ2 h2 H2 ex2 rel2 rst2 rv2 p2=>?_;obtain⟨xs,e1,p3⟩:=Po.opt p2;obtain⟨k,e2,p4⟩:=Po.opt p3;obtain⟨w,e3,p5⟩:=Po.opt p4;have:=Yg e2;subst this;exact⟨μ2,h2,m,k,xs,w,rel2,rv.ext ex2,zk rv2,e1,e3,p5.now rel2⟩
end
end
section
variable {ct:Tx} {X:Cx} {E:XK} {Pm:Prog} {n:Nat} {Ra:L2.St->Prop} {N:List Str} {sc:Scope}
noncomputable def Bo(ct:Tx)(X:Cx)(Ra:L2.St->Prop)(E:XK)(Pm:Prog)(n:Nat):List ME->List Expr->Prop
 |[],[]=>True
 |m::ms,e::es=>(Za e=true/\PE X e (lE ct Ra E (ya Pm (run Pm n) m))/\(okT m=true->PT X e (lT ct Ra E (tst (ya Pm (run Pm n) m)))))/\Bo ct X Ra E Pm n ms es
 |_,_=>False
theorem Bo.pa:∀{ms:List ME}{es:List Expr},Bo ct X Ra E Pm n ms es->PA X es (lA ct Ra E (zf Pm (run Pm n) ms))
 |[],[],_=>PA.imp zy λσ H Q q=>by
  obtain⟨μ,h,σs,rel,rst,ra,p⟩:=q;simp only[zf] at p;exact p.now rel [] RVs.nil
 |[],_::_,b=>b.elim
 |_::_,[],b=>b.elim
 |m::ms,e::es,b=>PA.imp (qj b.1.2.1 (Bo.pa b.2) (yd b.1.1)) λσ H Q q=>by
  obtain⟨μ,h,σs,rel,rst,ra,p⟩:=q;simp only[zf] at p;refine lE.mk rel rst ra p λm' v μ1 h1 H1 ex rel1 rst1 rv p1=>?_;refine lA.mk rel1 rst1 ra p1 λms' vs μ2 h2 H2 ex2 rel2 rst2 rvs p2=>?_;exact p2.now rel2 _ (RVs.cons (rv.ext ex2) rvs)
theorem Bo.plain:∀{ms:List ME}{es:List Expr},Bo ct X Ra E Pm n ms es->∀ e∈es,Za e=true
 |[],[],_,e,he=>by simp at he
 |[],_::_,b,_,_=>b.elim
 |_::_,[],b,_,_=>b.elim
 |m::ms,e::es,b,x,hx=>by
  rcases xa.mp hx with rfl|hx
  ·exact b.1.1
  ·exact Bo.plain b.2 x hx
theorem Bo.length:∀{ms:List ME}{es:List Expr},Bo ct X Ra E Pm n ms es->ms.length=es.length
 |[],[],_=>rfl
 |[],_::_,b=>b.elim
 |_::_,[],b=>b.elim
 |m::ms,e::es,b=>by simp[Bo.length b.2]
theorem qy{W:String->List MV->MH->R MV}:∀{ms:List ME}{σ:MSt}{h:MH}{xs:List MV}{h':MH},zf Pm W ms σ h=.ok xs h'->xs.length=ms.length
 |[],σ,h,xs,h',e=>by simp only[zf,R.ok.injEq] at e;simp[<- e.1]
 |m::ms,σ,h,xs,h',e=>by
  simp only[zf] at e;cases e1:ya Pm W m σ h with
  |stuck=>rw[e1] at e;cases e
  |exc c h2=>rw[e1] at e;cases e
  |ok x h1 =>
   rw[e1] at e;simp only[R.bind_ok] at e;cases e2:zf Pm W ms σ h1 with
   |stuck=>rw[e2] at e;cases e
   |exc c h2=>rw[e2] at e;cases e
   |ok ys h2 =>
    rw[e2] at e;simp only[R.bind_ok,R.ok.injEq] at e;rw[<- e.1,ue,ue,qy e2]
theorem yb2{pos:Pos}:∀{ms:List ME}{es:List Expr},Bo ct X Ra E Pm n ms es->ms.all okT=true->PE X (.BoolOp .And es pos) (lE ct Ra E (qm Pm (run Pm n) ms))/\PW X (.BoolOp .And es pos) (lT ct Ra E (tst (qm Pm (run Pm n) ms)))
 |[],[],_,_=>⟨λpins s σ H Q I q=>by
   obtain⟨μ,h,σs,rel,rst,ra,p⟩:=q;simp only[qm] at p;exact p.elim,λwh pins s σ H Q I q=>by
   obtain⟨μ,h,σs,rel,rst,ra,p⟩:=q;simp only[tst,qm] at p;exact p.elim⟩
 |[],_::_,b,_=>b.elim
 |_::_,[],b,_=>b.elim
 |[m],[e],b,ht=>by
  simp at ht;refine⟨PE.imp (qbw b.1.2.1) λσ H Q q=>?_,PW.imp (ZbT (b.1.2.2 ht)) λσ H Q q=>?_⟩
  ·simpa only[qm] using q
  ·have:qm Pm (run Pm n) [m]=ya Pm (run Pm n) m:=by funext σ h;simp only[qm]
   rw[this] at q;exact q
 |[m],_::_::_,b,_=>b.2.elim
 |_::_::_,[_],b,_=>b.2.elim
 |m::m'::ms,e::e'::es,b,ht=>by
  have ht':okT m=true/\(m'::ms).all okT=true:=by simpa using ht
  obtain⟨i1,i2⟩:=yb2 (ms:=m'::ms) (es:=e'::es) (pos:=pos) b.2 ht'.2;refine⟨PE.imp (zcn b.1.2.1 i1) λσ H Q q=>?_,PW.imp (Zcr (b.1.2.2 ht'.1) i2) λσ H Q q=>?_⟩
  ·obtain⟨μ,h,σs,rel,rst,ra,p⟩:=q;simp only[qm] at p;refine lE.mk rel rst ra p λx v μ1 h1 H1 ex rel1 rst1 rv p1=>?_;obtain⟨k,ek,p2⟩:=Po.opt p1;have:=Qae ek;subst this;refine⟨k,Zax rv,?_⟩;cases k with
   |true=>exact⟨μ1,h1,σs,rel1,rst1,ra,p2⟩
   |false=>exact p2.now rel1 _ (Zx _)
  ·obtain⟨μ,h,σs,rel,rst,ra,p⟩:=q;have p':Po ct E ((tst (ya Pm (run Pm n) m) σs h).bind λk h1=>if k=true then tst (qm Pm (run Pm n) (m'::ms)) σs h1 else .ok false h1) μ h H (λb _ _ H'=>Q b H'):=by
    simp only[tst,qm] at p ⊢;cases er:ya Pm (run Pm n) m σs h with
    |stuck=>rw[er] at p;exact p
    |exc c h'=>rw[er] at p;exact p
    |ok x h' =>
     rw[er] at p;simp only[R.bind_ok] at p ⊢;cases eb:zA x with
     |none=>rw[eb] at p;exact p
     |some k =>
      rw[eb] at p;cases k with
      |true=>exact p
      |false=>exact p
   refine lT.mk rel rst ra p' λk μ1 h1 H1 ex rel1 rst1 p1=>?_;cases k with
   |true=>exact⟨μ1,h1,σs,rel1,rst1,ra,p1⟩
   |false=>exact p1.now rel1
theorem e_or{pos:Pos}:∀{ms:List ME}{es:List Expr},Bo ct X Ra E Pm n ms es->ms.all okT=true->PE X (.BoolOp .Or es pos) (lE ct Ra E (Qt Pm (run Pm n) ms))/\PW X (.BoolOp .Or es pos) (lT ct Ra E (tst (Qt Pm (run Pm n) ms)))
 |[],[],_,_=>⟨λpins s σ H Q I q=>by
   obtain⟨μ,h,σs,rel,rst,ra,p⟩:=q;simp only[Qt] at p;exact p.elim,λwh pins s σ H Q I q=>by
   obtain⟨μ,h,σs,rel,rst,ra,p⟩:=q;simp only[tst,Qt] at p;exact p.elim⟩
 |[],_::_,b,_=>b.elim
 |_::_,[],b,_=>b.elim
 |[m],[e],b,ht=>by
  simp at ht;refine⟨PE.imp (qbw b.1.2.1) λσ H Q q=>?_,PW.imp (Zcq (b.1.2.2 ht)) λσ H Q q=>?_⟩
  ·simpa only[Qt] using q
  ·have:Qt Pm (run Pm n) [m]=ya Pm (run Pm n) m:=by funext σ h;simp only[Qt]
   rw[this] at q;exact q
 |[m],_::_::_,b,_=>b.2.elim
 |_::_::_,[_],b,_=>b.2.elim
 |m::m'::ms,e::e'::es,b,ht=>by
  have ht':okT m=true/\(m'::ms).all okT=true:=by simpa using ht
  obtain⟨i1,i2⟩:=e_or (ms:=m'::ms) (es:=e'::es) (pos:=pos) b.2 ht'.2;refine⟨PE.imp (pe_or b.1.2.1 i1) λσ H Q q=>?_,PW.imp (pw_or (b.1.2.2 ht'.1) i2) λσ H Q q=>?_⟩
  ·obtain⟨μ,h,σs,rel,rst,ra,p⟩:=q;simp only[Qt] at p;refine lE.mk rel rst ra p λx v μ1 h1 H1 ex rel1 rst1 rv p1=>?_;obtain⟨k,ek,p2⟩:=Po.opt p1;have:=Qae ek;subst this;refine⟨k,Zax rv,?_⟩;cases k with
   |false=>exact⟨μ1,h1,σs,rel1,rst1,ra,p2⟩
   |true=>exact p2.now rel1 _ (Zx _)
  ·obtain⟨μ,h,σs,rel,rst,ra,p⟩:=q;have p':Po ct E ((tst (ya Pm (run Pm n) m) σs h).bind λk h1=>if k=true then .ok true h1 else tst (Qt Pm (run Pm n) (m'::ms)) σs h1) μ h H (λb _ _ H'=>Q b H'):=by
    simp only[tst,Qt] at p ⊢;cases er:ya Pm (run Pm n) m σs h with
    |stuck=>rw[er] at p;exact p
    |exc c h'=>rw[er] at p;exact p
    |ok x h' =>
     rw[er] at p;simp only[R.bind_ok] at p ⊢;cases eb:zA x with
     |none=>rw[eb] at p;exact p
     |some k =>
      rw[eb] at p;cases k with
      |true=>exact p
      |false=>exact p
   refine lT.mk rel rst ra p' λk μ1 h1 H1 ex rel1 rst1 p1=>?_;cases k with
   |false=>exact⟨μ1,h1,σs,rel1,rst1,ra,p1⟩
   |true=>exact p1.now rel1
section
variable {ea:MSt->MH->R MV} {es:List Expr} {ev:MSt->MH->R (List MV)} {a:Expr} {pos:Pos}
theorem e_tup{k:Nat}(ha:PA X es (lA ct Ra E ev))(hl:∀ σ h xs h',ev σ h=.ok xs h'->xs.length<=sizeLine):PE X (.Tuple es k pos) (lE ct Ra E λσ h=>(ev σ h).bind λxs h1=>.ok (zg xs) h1):=PE.imp (zbM ha) λσ H Q q=>by
 obtain⟨μ,h,σs,rel,rst,ra,p⟩:=q;refine⟨μ,h,σs,rel,rst,ra,?_⟩;dsimp only at p;cases er:ev σs h with
 |stuck=>rw[er] at p;exact p
 |exc c h'=>rw[er] at p;exact p
 |ok xs h' =>
  rw[er] at p;intro μ1 H1 ex rel1 vs rvs;exact⟨by rw[rvs.length];exact hl _ _ _ _ er,QU rel1 rvs (Po.start ex p)⟩
theorem e_lst(fz:Bool)(ha:PA X es (lA ct Ra E ev))(hl:∀ σ h xs h',ev σ h=.ok xs h'->xs.length<=sizeLine):PE X (.List es pos) (lE ct Ra E λσ h=>(ev σ h).bind λxs h1=>Zk fz xs h1):=PE.imp (Qch ha) λσ H Q q=>by
 obtain⟨μ,h,σs,rel,rst,ra,p⟩:=q;refine⟨μ,h,σs,rel,rst,ra,?_⟩;dsimp only at p;cases er:ev σs h with
 |stuck=>rw[er] at p;exact p
 |exc c h'=>rw[er] at p;exact p
 |ok xs h' =>
  rw[er] at p;intro μ1 H1 ex rel1 vs rvs;exact⟨by rw[rvs.length];exact hl _ _ _ _ er,Zz rel1 rvs (Po.start ex p)⟩
theorem PO.imp{e:Option Expr}{t t':TO}(p:PO X e t)(k:∀ σ H Q,t' σ H Q->t σ H Q):PO X e t':=λpins s σ H Q I h=>p pins s σ H Q I (k σ H Q h)
theorem ybU(hK:X.K=ct.K)(fz:Bool){lo hi:Option Expr}{el eh:MSt->MH->R (Option Int)}{p2:Pos}(ha:PE X a (lE ct Ra E ea))(hl:PO X lo (lO ct Ra E el))(hh:PO X hi (lO ct Ra E eh)) :
  PE X (.Subscript a (.Slice lo hi none p2) pos) (lE ct Ra E λσ h=>(ea σ h).bind λx h1=>(el σ h1).bind λl h2=>(eh σ h2).bind λu h3=>qo fz x l u h3) :=
 PE.imp (Zby (Yb1 (ct:=ct) (E:=E) hK fz) ha hl hh) λσ H Q q=>by
  obtain⟨μ,h,σs,rel,rst,ra,p⟩:=q;refine lE.mk rel rst ra p λm v μ1 h1 H1 ex rel1 rst1 rv p1=>?_;refine lO.mk rel1 rst1 ra p1 λl μ2 h2 H2 ex2 rel2 rst2 p2=>?_;refine lO.mk rel2 rst2 ra p2 λu μ3 h3 H3 ex3 rel3 rst3 p3=>?_;exact⟨μ3,h3,m,rel3,(rv.ext ex2).ext ex3,p3⟩
theorem Qa8{L:Addr->Prop}{H:Hp}{f:String}:∀{ns:List String}{xs:List FV}{fs:List (Str×V)} {x:FV},fs.map xq=ns.map Str.ofString->RFs ct L H xs (fs.map wl)->qak f ns xs=some x->∃ v,fs.lookup (Str.ofString f)=some v/\RF ct L H x v
 |[],_,_,_,_,_,e=>by simp[qak] at e
 |_::_,[],_,_,_,_,e=>by simp[qak] at e
 |m::ns,y::xs,fs,x,h1,h2,e=>by
  cases fs with
  |nil=>simp at h1
  |cons p fs =>
   obtain⟨k,u⟩:=p;simp only[xc,List.cons.injEq] at h1;simp only[xc,RFs] at h2;obtain⟨v,r,hvr,r1,r2⟩:=h2;simp only[List.cons.injEq] at hvr;obtain⟨rfl,rfl⟩:=hvr;simp only[qak] at e;by_cases hf:f=m
   ·subst hf;simp at e;subst e;exact⟨u,by simp[Va,h1.1],r1⟩
   ·rw[if_neg hf] at e;obtain⟨w,q1,q2⟩:=Qa8 h1.2 r2 e;refine⟨w,?_,q2⟩;have:(Str.ofString f==k)=false:=by
     rw[h1.1];exact beq_false_of_ne λz=>hf (QF z)
    simp[Va,this,q1]
theorem Ybe{μ:List Addr}{L:Addr->Prop}{H:Hp}{f:String}:∀{fs:List (String×MV)} {gs:List (Str×V)} {m:MV},gs.map xq=fs.map (λp=>Str.ofString p.1)->RVs ct μ L H (fs.map wl) (gs.map wl)->fs.lookup f=some m->∃ v,gs.lookup (Str.ofString f)=some v/\RV ct μ L H m v
 |[],_,_,_,_,e=>by simp at e
 |(k,y)::fs,gs,m,h1,h2,e=>by
  cases gs with
  |nil=>simp at h1
  |cons p gs =>
   obtain⟨k',u⟩:=p;simp only[xc,List.cons.injEq] at h1;simp only[xc,RVs] at h2;obtain⟨v,r,hvr,r1,r2⟩:=h2;simp only[List.cons.injEq] at hvr;obtain⟨rfl,rfl⟩:=hvr;by_cases hf:f=k
   ·subst hf;simp[Va] at e;subst e;exact⟨u,by simp[Va,h1.1],r1⟩
   ·have hb:(f==k)=false:=beq_false_of_ne hf;simp[Va,hb] at e;obtain⟨w,q1,q2⟩:=Ybe h1.2 r2 e;refine⟨w,?_,q2⟩;have:(Str.ofString f==k')=false:=by
     rw[h1.1];exact beq_false_of_ne λz=>hf (QF z)
    simp[Va,this,q1]
theorem Rel.obj{μ:List Addr}{h:MH}{H:Hp}(rel:Rel ct μ h H){i:Nat}{c:String}{fs:List (String×MV)}(e:h[i]?=some (.obj c fs)):∃ b dx gs,μ[i]?=some b/\H b=some (.ins (ct c) dx gs)/\gs.map xq=fs.map (λp=>Str.ofString p.1)/\RVs ct μ (Liv μ h) H (fs.map wl) (gs.map wl):=by
 have hi:i<μ.length:=by rw[rel.len];exact(Xa.mp e).1
 obtain⟨dx,gs,q1,q2,q3⟩:=rel.cells i μ[i] _ (by simp[hi]) e;exact⟨_,dx,gs,by simp[hi],q1,q2,q3⟩
set_option tactic.hygienic true in
theorem e_fld{f:String}(T:Txt X.prog X.w X.K X.mg X.base Pm ct n)(ha:PE X a (lE ct Ra E ea))(hn:Zf a=true):PE X (.Attribute a (Str.ofString f) pos) (lE ct Ra E λσ h=>(ea σ h).bind λx h1=>opt (Qbu Pm.fok f x h1) λv=>.ok v h1) :=
 PE.imp (k_fld X.K ha (Zy hn)) λσ H Q q=>by
  obtain(⟨μ,h,σs,rel,rst,ra,p⟩):=q;refine lE.mk rel rst ra p λm v μ1 h1 H1 ex rel1 rst1 rv p1=>?_;obtain(⟨w,e,p2⟩):=Po.opt p1;unfold Qbu at e;split at e
  next c ns xs =>
   split at e
   next ok =>
    simp only[ub] at e;obtain(⟨x,e1,rfl⟩):=e;simp only[RV,RF] at rv;obtain(⟨b,dx,fs,rfl,nl,hb,q1,q2⟩):=rv;obtain(⟨u,e2,ru⟩):=Qa8 q1 q2 e1;obtain(⟨t1,t2⟩):=T.fok c f ok;exact⟨b,ct c,dx,fs,u,rfl,hb,t1,t2,e2,p2.now rel1 u (by simp only[RV];exact ru)⟩
   next=>cases e
  next i =>
   split at e
   next c fs ec =>
    split at e
    next ok =>
     simp only[RV] at rv;obtain(⟨b,eb,rfl⟩):=rv;obtain(⟨b',dx,gs,eb',hb,q1,q2⟩):=rel1.obj ec;rw[eb] at eb';cases eb';obtain(⟨u,e2,ru⟩):=Ybe q1 q2 e;obtain(⟨t1,t2⟩):=T.fok c f ok;exact⟨b,ct c,dx,gs,u,rfl,hb,t1,t2,e2,p2.now rel1 u ru⟩
    next=>cases e
   next=>cases e
  next=>cases e
end
end
section
variable {ct:Tx} {X:Cx} {E:XK} {Pm:Prog} {n:Nat} {Ra:L2.St->Prop} {N:List Str} {sc:Scope}
section
variable {ea:MSt->MH->R MV} {v:Expr} {es:List Expr} {ev:MSt->MH->R (List MV)} {a:Expr} {p pos:Pos}
theorem Zcj{f:String}{d:MDef}(c:Cc X Pm ct n Ra E N sc)(hd:Pm.defs f=some d)(hdot:f.toList.contains '.'=false)(hg:gl sc (Str.ofString f)=true)(ha:PA X (v::es) (lA ct Ra E ev))(hpl:∀ e∈v::es,Za e=true) :
  PE X (.Call (.Name (Str.ofString f) p) (v::es) [] pos) (lE ct Ra E λσ h=>(ev σ h).bind λxs h1=>run Pm n f xs h1):=by
 obtain⟨g1,g2,g3⟩:=yq c.sc hg;obtain⟨ps,D⟩:=c.txt.defs f d hd hdot;intro pins s σ H Q I q;obtain⟨μ,h,σs,rel,rst,ra,p⟩:=q;refine ybn (σ0:=σ) D (c.room.mono (by lia)) g1 (c.pas σ ra) ha g2 (yd (hpl v (by simp))) (yr λe he=>hpl e (by simp[he])) pins s σ H Q I ⟨rfl,?_⟩;refine lA.mk rel rst ra p λms vs μ1 h1 H1 ex rel1 rst1 rvs p1=>?_;exact⟨μ1,h1,ms,rel1,by simpa using rvs,p1⟩
theorem zcp(fz:Bool){cn f:String}(c:Cc X Pm ct n Ra E N sc)(hi:Pm.meths cn "__init__"=some f)(hg:gl sc (Str.ofString cn)=true)(ha:PA X (v::es) (lA ct Ra E ev))(hpl:∀ e∈v::es,Za e=true) :
  PE X (.Call (.Name (Str.ofString cn) p) (v::es) [] pos) (lE ct Ra E λσ h=>(ev σ h).bind λxs h1=>yu Pm (run Pm n) fz cn xs h1):=by
 obtain⟨g1,g2,g3⟩:=yq c.sc hg;obtain⟨ps,D⟩:=c.txt.inits cn f hi;intro pins s σ H Q I q;obtain⟨μ,h,σs,rel,rst,ra,p⟩:=q;refine zbh (σ0:=σ) D c.room g1 (c.pas σ ra) ha g2 (yd (hpl v (by simp))) (yr λe he=>hpl e (by simp[he])) pins s σ H Q I ⟨rfl,?_⟩;refine lA.mk rel rst ra p λms vs μ1 h1 H1 ex rel1 rst1 rvs p1=>?_;intro x dx hx hdx hne;have hx':upd H1 dx (.own x) x=none:=by rw[Qa (Ne.symm hne)];exact hx
 have ex1:=Ext.new rel1 hdx (.own x);have rel2:=rel1.new hdx (.own x);have ex2:=Ext.cell rel2 hx' (.obj cn []) (.ins (ct cn) dx []);have rel3:Rel ct (μ1++[x]) (h1++[.obj cn []]) (upd (upd H1 dx (.own x)) x (.ins (ct cn) dx [])):=rel2.cell hx' ⟨dx,[],qb,rfl,RVs.nil⟩;have ex3:=ex1.trans ex2;refine⟨μ1++[x],h1++[.obj cn []],.ref h1.length::ms,rel3,RVs.cons ?_ (by simpa using rvs.ext ex3),?_⟩
 ·simp only[RV];exact⟨x,by rw[<- rel1.len];simp,rfl⟩
 ·unfold yu at p1;rw[hi] at p1;dsimp only at p1;cases er:run Pm n f (.ref h1.length::ms) (h1++[.obj cn []]) with
  |stuck=>rw[er] at p1;exact p1.elim
  |exc c h2=>rw[er] at p1;exactλμ2 H2 ex4 rel4=>p1 μ2 H2 (ex3.trans ex4) rel4
  |ok m h2 =>
   rw[er] at p1;simp only[R.bind_ok] at p1;intro μ2 H2 ex4 rel4 u ru;have hnon:zq m=true:=by
    cases em:zq m with
    |true=>rfl
    |false=>rw[em] at p1;simp only[if_true] at p1;exact p1.elim
   rw[hnon] at p1;simp only[Uz,if_false] at p1;rw[Qa1 ru] at hnon;refine⟨of_decide_eq_true hnon,?_⟩;have ext:=ex3.trans ex4;obtain⟨ν,eν⟩:=ex4.pre;rw[Xm] at eν;subst eν;have hx2:(μ1++([x]++ν))[h1.length]?=some x:=by rw[<- rel1.len];simp
   cases fz with
   |false=>exact p1 _ H2 ext rel4 _ (by simp only[RV];exact⟨x,hx2,rfl⟩)
   |true =>
    dsimp only at p1;split at p1
    next c' fs ec =>
     obtain⟨ys,ey,p4⟩:=Po.opt p1;split at p4
     next t =>
      obtain⟨b,dx',gs,eb,hb,q1,q2⟩:=rel4.obj ec;rw[hx2] at eb;cases eb;have nx:x∉μ1:=rel1.fresh hx;refine p4 μ1 H2 (Ext.cut rel1.len ext) (rel1.cut t rel4) (.ref x) ?_;simp only[RV,RF];refine⟨x,dx',gs,rfl,λl=>?_,hb,?_,?_⟩
      ·obtain⟨i,_,e1,_,_⟩:=l;exact nx (Xc e1)
      ·rw[q1,Ui];rfl
      ·exact RFs.to ⟨λ_ _ e _=>e,λb _ _ nl l=>nl (Liv.cut rel1.len l)⟩ (RVs.toF ey q2)
     next=>exact p4.elim
    next=>exact p1.elim
theorem yaF(fz:Bool){id:String}(c:Cc X Pm ct n Ra E N sc)(hx:id∈fnNames)(hg:gl sc (Str.ofString id)=true)(hb:bootBuiltins (Str.ofString id)=some (.builtin id))(hr:CallR X (.builtin id) (rB ct E fz id))(ha:PA X (v::es) (lA ct Ra E ev))(hpl:∀ e∈v::es,Za e=true) :
  PE X (.Call (.Name (Str.ofString id) p) (v::es) [] pos) (lE ct Ra E λσ h=>(ev σ h).bind λxs h1=>yj fz id xs h1):=by
 obtain⟨g1,g2,g3⟩:=yq c.sc hg;have hm:=c.txt.blts id (by simp[hx]);refine PE.imp (zK hr g1 hm hb ha g3 g2 (yd (hpl v (by simp))) (yr λe he=>hpl e (by simp[he]))) λσ H Q q=>?_;obtain⟨μ,h,σs,rel,rst,ra,p⟩:=q;exact lA.mk rel rst ra p λms vs μ1 h1 H1 ex rel1 rst1 rvs p1=>⟨μ1,h1,ms,rel1,rvs,p1⟩
theorem zbC(fz:Bool){id:String}(c:Cc X Pm ct n Ra E N sc)(hx:id∈tyNames)(hg:gl sc (Str.ofString id)=true)(hb:bootBuiltins (Str.ofString id)=some (.type id))(hr:CallR X (.type id) (rB ct E fz id))(ha:PA X (v::es) (lA ct Ra E ev))(hpl:∀ e∈v::es,Za e=true) :
  PE X (.Call (.Name (Str.ofString id) p) (v::es) [] pos) (lE ct Ra E λσ h=>(ev σ h).bind λxs h1=>yj fz id xs h1):=by
 obtain⟨g1,g2,g3⟩:=yq c.sc hg;have hm:=c.txt.blts id (by simp[hx]);refine PE.imp (yN hr g1 hm hb ha g3 g2 (yd (hpl v (by simp))) (yr λe he=>hpl e (by simp[he]))) λσ H Q q=>?_;obtain⟨μ,h,σs,rel,rst,ra,p⟩:=q;exact lA.mk rel rst ra p λms vs μ1 h1 H1 ex rel1 rst1 rvs p1=>⟨μ1,h1,ms,rel1,rvs,p1⟩
theorem e_blt(fz:Bool){id:String}(c:Cc X Pm ct n Ra E N sc)(hx:id∈fnNames\/id∈tyNames)(hg:gl sc (Str.ofString id)=true)(ha:PA X (v::es) (lA ct Ra E ev))(hpl:∀ e∈v::es,Za e=true) :
  PE X (.Call (.Name (Str.ofString id) p) (v::es) [] pos) (lE ct Ra E λσ h=>(ev σ h).bind λxs h1=>yj fz id xs h1):=by
 rcases hx with hx|hx
 ·have hx':=hx;simp only[fnNames,xa,Ub,or_false] at hx'
  rcases hx' with rfl|rfl|rfl|rfl
  ·exact yaF fz c hx hg (by decide +kernel) (yck c.hK fz) ha hpl
  ·exact yaF fz c hx hg (by decide +kernel) (qcd c.hK fz c.calm) ha hpl
  ·exact yaF fz c hx hg (by decide +kernel) (zco c.hK fz c.calm) ha hpl
  ·exact yaF fz c hx hg (by decide +kernel) (Zck c.hK fz c.calm) ha hpl
 ·have hx':=hx;simp only[tyNames,xa,Ub,or_false] at hx'
  rcases hx' with rfl|rfl
  ·exact zbC fz c hx hg (by decide +kernel) (ZbF c.hK fz) ha hpl
  ·exact zbC fz c hx hg (by decide +kernel) (Qb1 c.hK fz) ha hpl
theorem ybv{t:String}(h:t∈isTys):bootBuiltins (Str.ofString t)=some (.type t):=by
 simp only[isTys,xa,Ub,or_false] at h
 rcases h with rfl|rfl|rfl|rfl|rfl|rfl <;> decide +kernel
end
end
noncomputable def bb(T U:String):Bool:=decide (U=T)||(decide (T="bool")&&decide (U="int"))
theorem zb9{K:PySem.W.Frag}{T U:String}(h:T∈["NoneType","bool","int","str","list","tuple"])(h':U∈isTys):Vc K (.type T) (.type U)=some (bb T U):=by
 simp only[isTys,xa,Ub,or_false] at h h'
 rcases h with rfl|rfl|rfl|rfl|rfl|rfl <;> rcases h' with rfl|rfl|rfl|rfl|rfl|rfl <;> rfl
section
variable {ct:Tx} {X:Cx} {E:XK} {Pm:Prog} {n:Nat} {Ra:L2.St->Prop} {N:List Str} {sc:Scope}
noncomputable def qI(h:MH):MV->Option String
 |.f .non=>some "NoneType"
 |.f (.bl _)=>some "bool"
 |.f (.int _)=>some "int"
 |.f (.str _)=>some "str"
 |.f (.tup _)=>some "tuple"
 |.f (.lst _)=>some "list"
 |.tup _=>some "tuple"
 |.ref a=>match h[a]? with
  |some (.lst _)=>some "list"
  |_=>none
 |_=>none
theorem yaO{h:MH}{m:MV}{T:String}(e:qI h m=some T):T∈["NoneType","bool","int","str","list","tuple"]:=by
 unfold qI at e;split at e
 all_goals first|(cases e;simp;done)|skip
 ·split at e
  next=>cases e;simp
  next=>cases e
 ·cases e
set_option tactic.hygienic true in
theorem YbR{K:PySem.W.Frag}{μ:List Addr}{h:MH}{H:Hp}{m:MV}{v:V}{T:String}(rel:Rel ct μ h H)(e:qI h m=some T)(r:RV ct μ (Liv μ h) H m v):TyOf K H v (.type T):=by
 unfold qI at e;split at e
 next=>cases e;simp only[RV,RF] at r;subst r;exact .non
 next=>cases e;simp only[RV,RF] at r;subst r;exact .bl _
 next=>cases e;simp only[RV,RF] at r;subst r;exact .int _
 next=>cases e;simp only[RV,RF] at r;subst r;exact .str _
 next=>cases e;simp only[RV,RF] at r;obtain(⟨_,_,rfl,_,hb,_⟩):=r;exact .tup hb
 next =>
  cases e;simp only[RV,RF] at r;obtain(⟨_,_,rfl,_,hb,_⟩):=r
  rcases hb with hb|⟨o,hb⟩
  ·exact .lst hb
  ·exact .frz hb
 next=>cases e;simp only[RV] at r;obtain(⟨_,_,rfl,_,hb,_⟩):=r;exact .tup hb
 next i =>
  split at e
  next xs q =>
   cases e;simp only[RV] at r;obtain(⟨b,eb,rfl⟩):=r;obtain(⟨b',vs,eb',hb,_⟩):=rel.lst (show Ye h i=some xs by unfold Ye;rw[q]);rw[eb] at eb';cases eb';exact .lst hb
  next=>cases e
 next=>cases e
set_option tactic.hygienic true in
theorem yb1{subs:String->String->Option Bool}{h:MH}{m:MV}{t T:String}{b:Bool}(e:qI h m=some T)(q:yP subs h m t=some b)(hn:t≠"NoneType"):b=bb T t:=by
 unfold qI at e;split at e
 next=>cases e;cases q;simp[bb,hn]
 next=>cases e;cases q;simp[bb]
 next=>cases e;cases q;simp[bb]
 next=>cases e;cases q;simp[bb]
 next=>cases e;cases q;simp[bb]
 next=>cases e;cases q;simp[bb]
 next=>cases e;cases q;simp[bb]
 next i =>
  split at e
  next xs w =>
   cases e;simp only[yP,w,Option.some.injEq] at q;rw[<- q];simp[bb]
  next=>cases e
 next=>cases e
set_option tactic.hygienic true in
theorem zck{μ:List Addr}{h:MH}{H:Hp}{m:MV}{v:V}{t:String}{b:Bool}(T:Txt X.prog X.w X.K X.mg X.base Pm ct n)(rel:Rel ct μ h H)(r:RV ct μ (Liv μ h) H m v)(q:yP Pm.subs h m t=some b)(ht:isTys.contains t=true\/(Pm.subs t t).isSome=true) :
  ∃ tv,TyOf X.K H v tv/\Vc X.K tv (if isTys.contains t=true then .type t else .ref (ct t))=some b:=by
 cases ek:qI h m with
 |some Tn =>
  refine⟨.type Tn,YbR rel ek r,?_⟩;by_cases hb:isTys.contains t=true
  ·rw[if_pos hb];have hm:t∈isTys:=by simpa using hb
   have hn:t≠"NoneType":=by
    rintro rfl;simp[isTys] at hm
   rw[yb1 ek q hn];exact zb9 (yaO ek) hm
  ·rw[if_neg hb];have hb':isTys.contains t=false:=by simpa using hb
   obtain⟨b0,e0⟩:=Wg.mp (ht.resolve_left hb);have hk:=T.tyC t t b0 e0 hb' Tn (yaO ek);rw[hk];have hm:t∉isTys:=by simpa using hb'
   simp only[isTys,xa,Ub,or_false,not_or] at hm;unfold qI at ek;split at ek
   next=>cases ek;cases q;rfl
   next=>cases ek;cases q;simp[hm]
   next=>cases ek;cases q;simp[hm]
   next=>cases ek;cases q;simp[hm]
   next=>cases ek;cases q;simp[hm]
   next=>cases ek;cases q;simp[hm]
   next=>cases ek;cases q;simp[hm]
   next i =>
    split at ek
    next xs w =>
     simp only[yP,w,Option.some.injEq] at q;rw[<- q];simp[hm]
    next=>cases ek
   next=>cases ek
 |none =>
  have obj:∃ c a dx fs,v=.ref a/\H a=some (.ins (ct c) dx fs)/\Pm.subs c t=some b:=by
   cases m with
   |f x =>
    cases x with
    |obj c ns vs =>
     simp only[RV,RF] at r;obtain⟨a,dx,fs,rfl,_,hb,_⟩:=r;exact⟨c,a,dx,fs,rfl,hb,q⟩
    |scr _=>cases q
    |tab _=>cases q
    |msk _=>cases q
    |_=>simp[qI] at ek
   |tup _=>simp[qI] at ek
   |exc _=>cases q
   |ref i =>
    simp only[yP] at q;split at q
    next xs w=>simp[qI,w] at ek
    next c fs w =>
     obtain⟨a,dx,gs,ea,hb,_⟩:=rel.obj w;simp only[RV] at r;obtain⟨a',ea',rfl⟩:=r;rw[ea] at ea';cases ea';exact⟨c,a,dx,gs,rfl,hb,q⟩
    next=>cases q
  obtain⟨c,a,dx,fs,rfl,hb,q⟩:=obj;have C:=T.cls c t b q;refine⟨.ref (ct c),.ins hb C.cl C.ha C.hn C.tk C.hm,?_⟩;by_cases hb:isTys.contains t=true
  ·rw[if_pos hb];exact T.subT c t b q hb
  ·rw[if_neg hb];exact(T.subC c t b q (by simpa using hb)).2
section
variable {ea:MSt->MH->R MV} {v:Expr} {es:List Expr} {ev:MSt->MH->R (List MV)} {a:Expr} {p p2 pos:Pos}
theorem e_isI{t:String}(c:Cc X Pm ct n Ra E N sc)(ht:isTys.contains t=true\/(Pm.subs t t).isSome=true)(hg:gl sc "isinstance"=true)(hgt:gl sc (Str.ofString t)=true)(ha:PE X a (lE ct Ra E ea))(hp:Za a=true) :
  PE X (.Call (.Name "isinstance" p) [a,.Name (Str.ofString t) p2] [] pos) (lE ct Ra E λσ h=>(ea σ h).bind λx h1=>opt (yP Pm.subs h1 x t) λk=>.ok (.f (.bl k)) h1):=by
 obtain⟨g1,g2,g3⟩:=yq c.sc hg;obtain⟨k1,k2,k3⟩:=yq c.sc hgt;have hm:X.mg "isinstance"=none:=c.txt.blts "isinstance" (by simp);have tyE:∃ cv,Zbx cv=some (if isTys.contains t=true then .type t else .ref (ct t))/\PE X (.Name (Str.ofString t) p2) (tC cv):=by
  by_cases hb:isTys.contains t=true
  ·rw[if_pos hb];have hm':t∈isTys:=by simpa using hb
   exact⟨.ty t,rfl,Ybf (v:=.ty t) k1 (c.txt.blts t (by simp[hm'])) (ybv hm') rfl k3 k2⟩
  ·rw[if_neg hb];obtain⟨b0,e0⟩:=Wg.mp (ht.resolve_left hb);exact⟨.ref (ct t),rfl,Zad (v:=.ref (ct t)) k1 (c.txt.subC t t b0 e0 (by simpa using hb)).1 rfl k2⟩
 obtain⟨cv,ecv,pe⟩:=tyE;refine PE.imp (zK (k_isi X.K) g1 hm boot_isinstance (qj ha (qj pe zy (by rfl)) (yd hp)) g3 g2 (yd hp) (by rfl)) λσ H Q q=>?_;obtain⟨μ,h,σs,rel,rst,ra,p⟩:=q;refine lE.mk rel rst ra p λm w μ1 h1 H1 ex rel1 rst1 rv p1=>?_;obtain⟨k,e,p2⟩:=Po.opt p1;obtain⟨tv,ty,kit⟩:=zck c.txt rel1 rv e ht;exact⟨w,cv,tv,_,k,rfl,ecv,ty,kit,p2.now rel1 _ (Zx _)⟩
theorem e_isX{t:String}(c:Cc X Pm ct n Ra E N sc)(ht:Pm.xcls t=true)(hg:gl sc "isinstance"=true)(hgt:gl sc (Str.ofString t)=true)(ha:PE X a (lE ct Ra E ea))(hp:Za a=true) :
  PE X (.Call (.Name "isinstance" p) [a,.Name (Str.ofString t) p2] [] pos) (lE ct Ra E λσ h=>(ea σ h).bind λx h1=>opt (QaN x) λc=>opt (Pm.xsubs (xcl c) t) λk=>.ok (.f (.bl k)) h1):=by
 obtain⟨g1,g2,g3⟩:=yq c.sc hg;obtain⟨k1,k2,k3⟩:=yq c.sc hgt;have hm:X.mg "isinstance"=none:=c.txt.blts "isinstance" (by simp);have tyE:∃ cv,Zbx cv=some (if t="ValueError" then .type "ValueError" else .ref (ct t))/\PE X (.Name (Str.ofString t) p2) (tC cv):=by
  have q:=c.txt.xcls t ht;by_cases hb:t="ValueError"
  ·subst hb;rw[if_pos rfl] at q ⊢;exact⟨.ty "ValueError",rfl,Ybf (v:=.ty "ValueError") k1 q (by rfl) rfl k3 k2⟩
  ·rw[if_neg hb] at q ⊢;exact⟨.ref (ct t),rfl,Zad (v:=.ref (ct t)) k1 q rfl k2⟩
 obtain⟨cv,ecv,pe⟩:=tyE;refine PE.imp (zK qbK g1 hm boot_isinstance (qj ha (qj pe zy (by rfl)) (yd hp)) g3 g2 (yd hp) (by rfl)) λσ H Q q=>?_;obtain⟨μ,h,σs,rel,rst,ra,p⟩:=q;refine lE.mk rel rst ra p λm w μ1 h1 H1 ex rel1 rst1 rv p1=>?_;obtain⟨cn,e,p2⟩:=Po.opt p1;obtain⟨k,e2,p3⟩:=Po.opt p2;cases m with
 |exc c' =>
  cases e;simp only[RV] at rv;obtain⟨x,d,rfl,_,hx,xd⟩:=rv;obtain⟨Z,kit⟩:=c.txt.xs _ t k e2;exact⟨x,_,d,cv,_,k,rfl,hx,xd.has,Z,ecv,kit,p3.now rel1 _ (Zx _)⟩
 |f _=>cases e
 |ref _=>cases e
 |tup _=>cases e
set_option tactic.hygienic true in
theorem ybZ(c:Cc X Pm ct n Ra E N sc)(ha:PE X a (lE ct Ra E ea))(hn:Zf a=true) :
  PE X (.Attribute a "line" pos) (lE ct Ra E λσ h=>(ea σ h).bind λx h1=>opt (QaN x) λc=>opt (Yn c) λi=>if(Pm.exci (xcl c)).isSome=true then .ok (.f (.int i)) h1 else .stuck):=by
 refine PE.imp (QbS ha (Zy hn)) λσ H Q q=>?_;obtain⟨μ,h,σs,rel,rst,ra,p⟩:=q;refine lE.mk rel rst ra p λm w μ1 h1 H1 ex rel1 rst1 rv p1=>?_;obtain⟨cn,e,p2⟩:=Po.opt p1;obtain⟨i,e2,p3⟩:=Po.opt p2;cases m with
 |exc c' =>
  cases e;simp only[RV] at rv;obtain⟨x,d,rfl,_,hx,xd⟩:=rv;split at p3
  next he =>
   obtain⟨g,hg⟩:=Wg.mp he;obtain⟨_,_,_,Z⟩:=c.txt.exci _ g hg;unfold XD at xd;rw[e2] at xd;cases d with
   |none=>exact xd.elim
   |some D=>exact⟨x,_,D,i,rfl,hx,xd.2,Z,p3.now rel1 _ (yn _)⟩
  next=>exact p3.elim
 |f _=>cases e
 |ref _=>cases e
 |tup _=>cases e
theorem qcm{K:PySem.W.Frag}{mo:MV}{xs:List MV}{μ:List Addr}{h:MH}{H:Hp}{x:V}(rel:Rel ct μ h H)(r:RV ct μ (Liv μ h) H mo x)(e:lmC mo h=some xs):tyV K "list" x H:=by
 cases mo with
 |ref i =>
  obtain⟨b,vs,e1,e2,q⟩:=rel.lst (show Ye h i=some xs from e);simp only[RV] at r;obtain⟨b',e3,rfl⟩:=r;rw[e1] at e3;cases e3;exact .inl ⟨rfl,vs,SqL.of e2⟩
 |f _=>cases e
 |tup _=>cases e
 |exc _=>cases e
theorem yZ{env : Env}{cp : Pos}{es : List Expr}(h : ∀ e∈es, Za e=true)(hl : es.length<30) : ((backTo cp (starEach es env)).all (λx => !x.1)&&(backToKw cp (keywordEach [] env)).all (λx => x.1.isSome)
   && decide (es.length+([]:List Keyword).length+(if([]:List Keyword).isEmpty then 0 else 1)<30))=true:=by
 rw[zi h];have h1:(backTo cp (es.map λe=>(false,eval e env))).all (λx=>!x.1)=true:=by
  unfold backTo;rw[Ui,List.all_map]
  induction es with
  |nil=>rfl
  |cons e es ih=>simp[Function.comp]
 rw[h1];simp[keywordEach,backToKw];exact hl
theorem e_lm1{m id:String}{ap cp:Pos}(slot:Slot "list" (Str.ofString m) id)(hty:typeOf (.builtin id)=pure (.type "method_descriptor"))(hr:MtR X id (rLm ct E m))(ho:PE X a (lE ct Ra E ea))(hn:Zf a=true)(ha:PA X (v::es) (lA ct Ra E ev))(hpl:∀ e∈v::es,Za e=true)
  (hl:(v::es).length<30) (hline:(ap.endLine==cp.line)=true):PE X (.Call (.Attribute a (Str.ofString m) ap) (v::es) [] cp) (lE ct Ra E λσ h=>(ea σ h).bind λx h1=>opt (lmC x h1) λ_=>(ev σ h1).bind λxs h2=>lmV m x xs h2) :=
 PE.imp (pe_bm PySem.F.plainAttrs_list slot hty hr ho ha (Zy hn) (yZ hpl hl) hline (yd (hpl v (by simp))) (yr λe he=>hpl e (by simp[he]))) λσ H Q q=>by
  obtain⟨μ,h,σs,rel,rst,ra,p⟩:=q;refine lE.mk rel rst ra p λm' w μ1 h1 H1 ex rel1 rst1 rv p1=>?_;obtain⟨xs,ex1,p2⟩:=Po.opt p1;refine⟨qcm rel1 rv ex1,?_⟩;exact lA.mk rel1 rst1 ra p2 λms vs μ2 h2 H2 ex2 rel2 rst2 rvs p3=>⟨μ2,h2,m',ms,rel2,rv.ext ex2,rvs,p3⟩
noncomputable abbrev kP(k:Int×Int):List Key:=[Sum.inl k.1,Sum.inl k.2]
set_option tactic.hygienic true in
theorem zbY{μ:List Addr}{L:Addr->Prop}{H:Hp}{y:MV}{v:V}{k:Int×Int}(r:RV ct μ L H y v)(e:Zay y=some k):∃ p,v=.ref p/\¬ L p/\H p=some (.tup ((kP k).map L2.kV)):=by
 unfold Zay at e;split at e
 next a b w =>
  cases e;cases y with
  |f x =>
   cases x with
   |tup xs =>
    simp only[Qj,Option.some.injEq] at w
    rcases xs with _|⟨x,_|⟨y,_|⟨z,zs⟩⟩⟩ <;> simp at w
    obtain⟨rfl,rfl⟩:=w;simp only[RV,RF,RFs] at r;obtain⟨p,vs,rfl,n,hp,v1,r1,rfl,rfl,v2,r2,rfl,rfl,rfl⟩:=r;exact⟨p,rfl,n,hp⟩
   |_=>simp[Qj] at w
  |tup xs =>
   simp only[Qj,Option.some.injEq] at w;subst w;simp only[RV,RVs,RF] at r;obtain⟨p,vs,rfl,n,hp,v1,r1,rfl,rfl,v2,r2,rfl,rfl,rfl⟩:=r;exact⟨p,rfl,n,hp⟩
  |ref _=>simp[Qj] at w
  |exc _=>simp[Qj] at w
 next=>cases e
set_option tactic.hygienic true in
theorem Yb0(fz:Bool){cn:String}(c:Cc X Pm ct n Ra E N sc)(hk:Pm.mk0 cn=true)(hi:Pm.meths cn "__init__"=none)(hg:gl sc (Str.ofString cn)=true) :
  PE X (.Call (.Name (Str.ofString cn) p) [] [] pos) (lE ct Ra E λσ h=>(R.ok [] h).bind λxs h1=>yu Pm (run Pm n) fz cn xs h1):=by
 obtain⟨g1,g2,g3⟩:=yq c.sc hg;obtain⟨M,mg⟩:=c.txt.mk0 cn hk;refine PE.imp (Zbj M g1 mg g2) λσ H Q q=>?_;obtain⟨μ,h,σs,rel1,rst,ra,p1⟩:=q;intro x dx hx hdx hne;have hx':upd H dx (.own x) x=none:=by rw[Qa (Ne.symm hne)];exact hx
 have ex1:=Ext.new rel1 hdx (.own x);have rel2:=rel1.new hdx (.own x);have ex2:=Ext.cell rel2 hx' (.obj cn []) (.ins (ct cn) dx []);have rel3:Rel ct (μ++[x]) (h++[.obj cn []]) (upd (upd H dx (.own x)) x (.ins (ct cn) dx [])):=rel2.cell hx' ⟨dx,[],qb,rfl,RVs.nil⟩;have ext:=ex1.trans ex2;have hx2:(μ++[x])[h.length]?=some x:=by rw[<- rel1.len];simp
 have p2:Po ct E (yu Pm (run Pm n) fz cn [] h) μ h H (λm μ' h' H'=>∀ v,RV ct μ' (Liv μ' h') H' m v->Q v H'):=p1;unfold yu at p2;rw[hi] at p2;simp only[R.bind_ok,zbn,Uz,if_false] at p2;cases fz with
 |false=>exact p2 _ _ ext rel3 _ (by simp only[RV];exact⟨x,hx2,rfl⟩)
 |true =>
  dsimp only at p2;split at p2
  next c' fs ec =>
   obtain⟨ys,ey,p4⟩:=Po.opt p2;split at p4
   next t =>
    obtain⟨b,dx',gs,eb,hb,q1,q2⟩:=rel3.obj ec;rw[hx2] at eb;cases eb;have nx:x∉μ:=rel1.fresh hx;refine p4 μ _ (Ext.cut rel1.len ext) (rel1.cut t rel3) (.ref x) ?_;simp only[RV,RF];refine⟨x,dx',gs,rfl,λl=>?_,hb,?_,?_⟩
    ·obtain⟨i,_,e1,_,_⟩:=l;exact nx (Xc e1)
    ·rw[q1,Ui];rfl
    ·exact RFs.to ⟨λ_ _ e _=>e,λb _ _ nl l=>nl (Liv.cut rel1.len l)⟩ (RVs.toF ey q2)
   next=>exact p4.elim
  next=>exact p2.elim
theorem Ycr{g:String}{i:Int}(c:Cc X Pm ct n Ra E N sc)(hv:Pm.globs g=some (.int i))(hg:gl sc (Str.ofString g)=true):PE X (.Name (Str.ofString g) pos) (lE ct Ra E λσ h=>opt (Pm.globs g) λv=>.ok (.f v) h):=by
 obtain⟨g1,g2,g3⟩:=yq c.sc hg;obtain⟨t,mg⟩:=c.txt.globs g _ hv;refine PE.imp (Zad (v:=.int i) g1 mg ⟨t,rfl⟩ g2) λσ H Q q=>?_;obtain⟨μ,h,σs,rel,rst,ra,p⟩:=q;simp only[hv,Yb] at p;exact p.now rel _ (yn _)
theorem zb1{g:String}{z:Str}(c:Cc X Pm ct n Ra E N sc)(hv:Pm.globs g=some (.str z))(hg:gl sc (Str.ofString g)=true):PE X (.Name (Str.ofString g) pos) (lE ct Ra E λσ h=>opt (Pm.globs g) λv=>.ok (.f v) h):=by
 obtain⟨g1,g2,g3⟩:=yq c.sc hg;obtain⟨t,mg⟩:=c.txt.globs g _ hv;refine PE.imp (Zad (v:=.str z) g1 mg ⟨t,rfl⟩ g2) λσ H Q q=>?_;obtain⟨μ,h,σs,rel,rst,ra,p⟩:=q;simp only[hv,Yb] at p;exact p.now rel _ (yE _)
theorem Po.calm{α:Type}{r:R α}{μ:List Addr}{h:MH}{H:Hp}{k:α->List Addr->MH->Hp->Prop}(p:Po ct E (MP.calm r) μ h H k):Po ct E0 r μ h H k:=by
 cases r with
 |ok x h'=>exact p
 |exc c h'=>exact p.elim
 |stuck=>exact p.elim
theorem PIf.imp{ifs:List Expr}{t t':TT}(p:PIf X ifs t)(k:∀ σ H Q,t' σ H Q->t σ H Q):PIf X ifs t':=λpins s σ H Q I h=>p pins s σ H Q I (k σ H Q h)
theorem ybl{μ:List Addr}{h:MH}{H:Hp}{σ:L2.St}{σs:MSt}(ncv:Nat)(js:List Nat)(r:RelSt ct μ h H σ σs):RelSt ct μ h H (stC ncv js σ) (stM ncv js σs):=by
 refine⟨by simp[L3.stC,MP.stM],λi m e=>?_⟩;unfold MP.stM at e;by_cases hi:i<ncv
 ·rw[va (by simpa using hi),vn,if_pos hi] at e;cases e
 ·rw[Xd (by simpa using hi),xm,We] at e;cases ej:js[i-ncv]? with
  |none=>rw[ej] at e;cases e
  |some j =>
   rw[ej] at e;simp only[wj,Option.some.injEq] at e;have e':σs[j]?=some (some m):=by
    cases q:σs[j]? with
    |none=>rw[q] at e;cases e
    |some z=>rw[q] at e;exact congrArg some e
   obtain⟨v,ev,rv⟩:=r.at_ j m e';refine⟨v,?_,rv⟩;unfold L3.stC;rw[Xd (by simpa using hi),xm,We,ej];simp[ev]
theorem Yas(fz:Bool){ncv:Nat}{js:List Nat}{it:String}{t:Tg}{es:MSt->MH->R (List MV)}{tc:MSt->MH->R Bool}{te:MSt->MH->R MV}(σ:L2.St)(H:Hp)(Q:VK)
  (q:lE ct Ra E (λσ h=>(es σ h).bind λxs h1=>opt (itV it xs h1) λp=>(Qi p.2 (ql t tc te) p.1 [] (MP.stM ncv js σ) h1).bind λacc h3=>Zk fz acc h3) σ H Q) :
  qby (lI ct Ra E es it) ncv js (lG ct t) (lT ct (λ_=>True) E0 tc) (lE ct (λ_=>True) E0 te) σ H Q:=by
 obtain⟨μ,h,σs,rel,rst,ra,p⟩:=q;refine⟨μ,h,σs,rel,rst,ra,(Po.bind p).imp λxs μ1 h1 H1 ⟨ex1,rel1,p1⟩=>?_⟩;obtain⟨⟨items,g⟩,e1,p2⟩:=Po.opt p1;refine⟨items,g,e1,rel1,λJ wk=>?_⟩;dsimp only at p2;refine⟨λi m acc σ' H'=>∃ μ' h' σs' macc,m=items.length-i/\i<=items.length/\Ext μ1 h1 H1 μ' h' H'/\Rel ct μ' h' H'/\RelSt ct μ' h' H' σ' σs'/\RVs ct μ' (Liv μ' h') H' macc acc /\
  Po ct E ((Qi g (ql t tc te) (items.drop i) macc σs' h').bind λacc h3=>Zk fz acc h3) μ' h' H' (kV ct Q),?_,?_⟩
 ·exact⟨items.length,μ1,h1,stM ncv js σs,[],by simp,Wp _,Ext.refl _ _ _,rel1,ybl ncv js (rst.ext ex1),RVs.nil,by simpa using p2⟩
 ·rintro i m acc σ' H' ⟨μ',h',σs',macc,rfl,hi',ex,rel',rst',racc,p3⟩;by_cases lt:i<items.length
  ·right
   have ed:items.drop i=items[i]::items.drop (i+1):=uv lt;rw[ed] at p3;simp only[Qi] at p3;split at p3
   next gd =>
    obtain⟨w1,_⟩:=wk i μ' h' H' ex rel' gd.1;obtain⟨go,yl⟩:=w1 lt;refine⟨go,λx H2 y=>?_⟩;obtain⟨mx,em,ex2,rel2,rx⟩:=yl x H2 y;have emx:mx=items[i]:=by simpa[lt] using em.symm
    subst emx;have p4:=Po.start ex2 p3;unfold ql at p4;cases eb:Yq t items[i] σs' with
    |none=>rw[eb] at p4;exact p4.elim
    |some σ2s =>
     rw[eb] at p4;simp only[Yb] at p4;refine⟨μ',h',σs',items[i],σ2s,rel2,rst'.ext ex2,rx,eb,λσ2 rst2=>?_⟩;have p5:Po ct E ((MP.calm (tc σ2s h')).bind λk h2=>(if k=true then(MP.calm (te σ2s h2)).bind λy h3=>R.ok (some y,σ2s) h3 else R.ok (none,σ2s) h2).bind λp h1=>(Qi g (ql t tc te) (items.drop (i+1)) (match p.1 with|some y=>macc++[y]|none=>macc) p.2 h1).bind λacc h3=>Zk fz acc h3) μ' h' H2 (kV ct Q):=by
      cases er:MP.calm (tc σ2s h') with
      |stuck=>rw[er] at p4;exact p4
      |exc c h''=>rw[er] at p4;exact p4
      |ok k h'' =>
       rw[er] at p4;simp only[R.bind_ok] at p4 ⊢;cases k with
       |false=>exact p4
       |true =>
        simp only[if_true] at p4 ⊢;cases er2:MP.calm (te σ2s h'') with
        |stuck=>rw[er2] at p4;exact p4
        |exc c h3=>rw[er2] at p4;exact p4
        |ok y h3=>rw[er2] at p4;exact p4
     refine⟨μ',h',σ2s,rel2,rst2,trivial,Po.calm ((Po.bind p5).imp λk μ3 h3 H3 ⟨ex3,rel3,p6⟩=>?_)⟩;cases k with
     |false =>
      simp only[vk,if_false,R.bind_ok] at p6 ⊢;exact⟨items.length-(i+1),by lia,μ3,h3,σ2s,macc,rfl,lt,(ex.trans ex2).trans ex3,rel3,rst2.ext ex3,(racc.ext ex2).ext ex3,p6⟩
     |true =>
      simp only[if_true] at p6 ⊢;have p7:Po ct E ((MP.calm (te σ2s h3)).bind λy h4=>(Qi g (ql t tc te) (items.drop (i+1)) (macc++[y]) σ2s h4).bind λacc h5=>Zk fz acc h5) μ3 h3 H3 (kV ct Q):=by
       cases er2:MP.calm (te σ2s h3) with
       |stuck=>rw[er2] at p6;exact p6
       |exc c h4=>rw[er2] at p6;exact p6
       |ok y h4=>rw[er2] at p6;exact p6
      refine⟨μ3,h3,σ2s,rel3,rst2.ext ex3,trivial,Po.calm ((Po.bind p7).imp λy μ4 h4 H4 ⟨ex4,rel4,p8⟩ w rw_=>?_)⟩;refine⟨by rw[racc.length];exact Wc gd.2 zJ,items.length-(i+1),by lia,μ4,h4,σ2s,macc++[y],rfl,lt,((ex.trans ex2).trans ex3).trans ex4,rel4,(rst2.ext ex3).ext ex4,?_,p8⟩;exact(((racc.ext ex2).ext ex3).ext ex4).append (RVs.cons rw_ RVs.nil)
   next=>exact p3.elim
  ·left
   have hi2:i=items.length:=by lia
   subst hi2;rw[VB] at p3;simp only[Qi] at p3;split at p3
   next gd =>
    obtain⟨_,w2⟩:=wk items.length μ' h' H' ex rel' gd;exact⟨w2 rfl,λD hD=>Zz rel' racc p3 D hD⟩
   next=>exact p3.elim
theorem Qce(fz:Bool){elt iter tg:Expr}{ifs:List Expr}{cs:Scope}{N':List Str}{ncv:Nat}{js:List Nat}{it:String}{t:Tg}{es:MSt->MH->R (List MV)}{tc:MSt->MH->R Bool}{te:MSt->MH->R MV}(hok:qv X.env.scope X.N cs N' ncv js=true)(hc:X.calm=true)
  (hi:PI X tg iter (lI ct Ra E es it)) (hg:∀ C s3 H ex,PG (cxC X cs N' C s3 H ex) tg (lG ct t)) (hif:∀ C s3 H ex,PIf (cxC X cs N' C s3 H ex) ifs (lT ct (λ_=>True) E0 tc)) (helt:∀ C s3 H ex,PE (cxC X cs N' C s3 H ex) elt (lE ct (λ_=>True) E0 te)) (hpl:Za iter=true) :
  PE X (.ListComp elt [⟨tg,iter,ifs,0⟩] cs pos) (lE ct Ra E λσ h=>(es σ h).bind λxs h1=>opt (itV it xs h1) λp=>(Qi p.2 (ql t tc te) p.1 [] (stM ncv js σ) h1).bind λacc h3=>Zk fz acc h3):=by
 exact PE.imp (qbU N' ncv js hok hc hi hg hif helt (zF hpl)) (Yas fz)
end
end
end SD
end
section
namespace SD
open PySem PySem.Spec PyProof.Rows L2 L3 M3 MP
section
variable {ct:Tx} {X:Cx} {E:XK} {Pm:Prog} {n:Nat} {Ra:L2.St->Prop} {N:List Str} {sc:Scope} {ea eb:MSt->MH->R MV} {a b:Expr} {p pos:Pos}
theorem qr{μ:List Addr}{L:Addr->Prop}{H:Hp}{m:MV}{v:V}{z:Str}(r:RV ct μ L H m v)(e:yc m=some z):v=.str z:=by
 cases m with
 |f x =>
  cases x with
  |str s=>cases e;simpa only[RV,RF] using r
  |_=>cases e
 |_=>cases e
theorem qbe{μ:List Addr}{L:Addr->Prop}{H:Hp}:∀{xs:List MV}{vs:List V}{ts:List Str},RVs ct μ L H xs vs->xs.mapM yc=some ts->vs=ts.map V.str
 |[],vs,ts,r,e=>by
  simp only[RVs] at r;cases e;rw[r];rfl
 |x::xs,vs,ts,r,e=>by
  simp only[RVs] at r;obtain⟨v,t,rfl,r1,r2⟩:=r;rw[Wn] at e;cases e1:yc x with
  |none=>rw[e1] at e;cases e
  |some z =>
   rw[e1] at e;cases e2:xs.mapM yc with
   |none=>rw[e2] at e;cases e
   |some zs =>
    rw[e2] at e;cases e;rw[qr r1 e1,qbe r2 e2];rfl
theorem yO{k:Nat}(h:k<=sizeL):k<=sizeLine:=by rw[sizeLine_eq];unfold sizeL at h;lia
theorem Zbr{i:Int}(h:i.natAbs<2^256):i.natAbs.log2<1920:=by
 by_cases h0:i.natAbs=0
 ·rw[h0];decide
 ·exact Wc ((Wx h0).mpr h) (by decide)
theorem e_tx1{o:T1}{x:Str}(c:Cc X Pm ct n Ra E N sc)(ho:t1S o=true)(hx:x=t1N o)(hg:gl sc x=true)(ha:PE X a (lE ct Ra E ea))(hp:Za a=true) :
  PE X (.Call (.Name x p) [a] [] pos) (lE ct Ra E λσ h=>(ea σ h).bind λx h1=>yaD o x h1):=by
 obtain⟨k1,k2,k3⟩:=yq c.sc hg;cases o with
 |setl=>cases ho
 |str =>
  subst hx;have hm:X.mg "str"=none:=c.txt.blts "str" (by simp[isTys]);refine PE.imp (yN ZaB k1 hm (by decide +kernel) (qj ha zy (yd hp)) k3 k2 (yd hp) (by rfl)) λσ H Q q=>?_;obtain⟨μ,h,σs,rel,rst,ra,pp⟩:=q;refine lE.mk rel rst ra pp λm w μ1 h1 H1 ex rel1 rst1 rv p1=>?_;obtain⟨i,e1,p2⟩:=Po.opt p1;split at p2
  next hl =>
   have:=Yg e1;subst this;exact⟨i,by rw[zk rv],Zbr hl,p2.now rel1 _ (yE _)⟩
  next=>exact p2.elim
 |int =>
  subst hx;have hm:X.mg "int"=none:=c.txt.blts "int" (by simp[isTys]);refine PE.imp (yN ybq k1 hm (by decide +kernel) (qj ha zy (yd hp)) k3 k2 (yd hp) (by rfl)) λσ H Q q=>?_;obtain⟨μ,h,σs,rel,rst,ra,pp⟩:=q;refine lE.mk rel rst ra pp λm w μ1 h1 H1 ex rel1 rst1 rv p1=>?_;obtain⟨z,e1,p2⟩:=Po.opt p1;obtain⟨i,e2,p3⟩:=Po.opt p2;split at p3
  next hl=>exact⟨z,i,by rw[qr rv e1],e2,hl,p3.now rel1 _ (yn _)⟩
  next=>exact p3.elim
 |len =>
  subst hx;have hm:X.mg "len"=none:=c.txt.blts "len" (by simp[fnNames]);refine PE.imp (zK QaF k1 hm PySem.boot_len (qj ha zy (yd hp)) k3 k2 (yd hp) (by rfl)) λσ H Q q=>?_;obtain⟨μ,h,σs,rel,rst,ra,pp⟩:=q;refine lE.mk rel rst ra pp λm w μ1 h1 H1 ex rel1 rst1 rv p1=>?_;obtain⟨z,e1,p2⟩:=Po.opt p1;split at p2
  next hl=>exact⟨z,by rw[qr rv e1],yO hl,p2.now rel1 _ (yn _)⟩
  next=>exact p2.elim
theorem yaw{μ:List Addr}{L:Addr->Prop}{H:Hp}:∀{xs:List MV}{vs:List V}{ks:List (Int×Int)},RVs ct μ L H xs vs->xs.mapM Zay=some ks->za4 H vs ks
 |[],vs,ks,r,e=>by
  simp only[RVs] at r;subst r;simp at e;subst e;exact .nil
 |x::xs,vs,ks,r,e=>by
  simp only[RVs] at r;obtain⟨v,r',rfl,h1,h2⟩:=r;simp only[Wn,Up,Xb] at e;obtain⟨k,e1,ks',e2,e3⟩:=e;cases e3;obtain⟨T,q1,_,q2⟩:=zbY h1 e1;exact .cons ⟨T,q1,q2⟩ (yaw h2 e2)
theorem ych{p2 p3:Pos}(c:Cc X Pm ct n Ra E N sc)(hg:gl sc "len"=true)(hgs:gl sc "set"=true)(ha:PE X a (lE ct Ra E ea))(hp:Za a=true) :
  PE X (.Call (.Name "len" p) [.Call (.Name "set" p2) [a] [] p3] [] pos) (lE ct Ra E λσ h=>(ea σ h).bind λx h1=>yaD .setl x h1):=by
 obtain⟨g1,g2,g3⟩:=yq c.sc hg;obtain⟨k1,k2,k3⟩:=yq c.sc hgs;have hm:X.mg "len"=none:=c.txt.blts "len" (by simp[fnNames]);have hm':X.mg "set"=none:=c.txt.blts "set" (by simp);refine PE.imp (zK Qbp g1 hm PySem.boot_len (qj (yN (Ybo c.calm (by have:=c.units;lia)) k1 hm' (by decide +kernel) (qj ha zy (yd hp)) k3 k2 (yd hp) (by rfl)) zy (by rfl)) g3 g2 (by rfl) (by rfl)) λσ H Q q=>?_;obtain⟨μ,h,σs,rel,rst,ra,pp⟩:=q;refine lE.mk rel rst ra pp λm w μ1 h1 H1 ex rel1 rst1 rv p1=>?_;obtain⟨xs,e1,p4⟩:=Po.opt p1;obtain⟨ks,e2,p5⟩:=Po.opt p4;split at p5
 next hl =>
  obtain⟨h1',h2',h3'⟩:=hl;obtain⟨b,vs,rfl,rd,rs⟩:=zo rel1 e1 rv;refine⟨b,vs,ks,rfl,rd,yaw rs e2,λk hk=>by have q:=Vj.mp h1' k hk;unfold YbL at q;unfold Za7;exact of_decide_eq_true q,h2',λq hq=>?_⟩;refine⟨q,ks.length,rfl,qb,h3',?_⟩;exact(Po.start (Ext.new rel1 hq (Qbk ks.length q)) p5).now (rel1.new hq (Qbk ks.length q)) _ (yn _)
 next=>exact p5.elim
theorem Qcg{ap cp:Pos}(ha:PE X a (lE ct Ra E ea))(hb:PE X b (lE ct Ra E eb))(hn:Zf a=true)(hpl:Za b=true)(hline:(ap.endLine==cp.line)=true) :
  PE X (.Call (.Attribute a "join" ap) [b] [] cp) (lE ct Ra E λσ h=>(ea σ h).bind λx h1=>opt (yc x) λ_=>(eb σ h1).bind λy h2=>Zi .join x y h2):=by
 have hpl':∀ e∈[b],Za e=true:=λe he=>by rw[Ua.mp he];exact hpl
 refine PE.imp (ybY ha hb ⟨Zy hn,yZ hpl' (by simp),hline,by rw[zi hpl'];rfl⟩) λσ H Q q=>?_;obtain⟨μ,h,σs,rel,rst,ra,pp⟩:=q;refine lE.mk rel rst ra pp λm w μ1 h1 H1 ex1 rel1 rst1 rv1 p1=>?_;obtain⟨sep,e1,p2⟩:=Po.opt p1;refine⟨sep,qr rv1 e1,?_⟩;refine lE.mk rel1 rst1 ra p2 λm2 w2 μ2 h2 H2 ex2 rel2 rst2 rv2 p3=>?_;obtain⟨sep',e1',p4⟩:=Po.opt p3;rw[e1] at e1';cases e1';obtain⟨xs,e2,p5⟩:=Po.opt p4;obtain⟨ts,e3,p6⟩:=Po.opt p5;split at p6
 next hz =>
  obtain⟨c,vs,rfl,rd,rs⟩:=zo rel2 e2 rv2;have:=qbe rs e3;subst this;exact⟨c,ts,rfl,rd,hz,p6.now rel2 _ (yE _)⟩
 next=>exact p6.elim
theorem ybf{μ:List Addr}{L:Addr->Prop}{H:Hp}:∀(ts:List Str),RVs ct μ L H (ts.map λt=>MV.f (.str t)) (ts.map V.str)
 |[]=>RVs.nil
 |t::ts=>RVs.cons (yE t) (ybf ts)
theorem qbS{ap cp:Pos}(fz:Bool)(ha:PE X a (lE ct Ra E ea))(hb:PE X b (lE ct Ra E eb))(hn:Zf a=true)(hpl:Za b=true)(hline:(ap.endLine==cp.line)=true) :
  PE X (.Call (.Attribute a "split" ap) [b] [] cp) (lE ct Ra E λσ h=>(ea σ h).bind λx h1=>opt (yc x) λ_=>(eb σ h1).bind λy h2=>Zi (.split fz) x y h2):=by
 have hpl':∀ e∈[b],Za e=true:=λe he=>by rw[Ua.mp he];exact hpl
 refine PE.imp (YbE ha hb ⟨Zy hn,yZ hpl' (by simp),hline,by rw[zi hpl'];rfl⟩) λσ H Q q=>?_;obtain⟨μ,h,σs,rel,rst,ra,pp⟩:=q;refine lE.mk rel rst ra pp λm w μ1 h1 H1 ex1 rel1 rst1 rv1 p1=>?_;obtain⟨z,e1,p2⟩:=Po.opt p1;refine⟨z,qr rv1 e1,?_⟩;refine lE.mk rel1 rst1 ra p2 λm2 w2 μ2 h2 H2 ex2 rel2 rst2 rv2 p3=>?_;obtain⟨z',e1',p4⟩:=Po.opt p3;rw[e1] at e1';cases e1';obtain⟨sep,e2,p5⟩:=Po.opt p4;split at p5
 next hz=>exact⟨sep,qr rv2 e2,hz.1,yO hz.2,Zz rel2 (ybf _) p5⟩
 next=>exact p5.elim
theorem e_at(ha:PE X a (lE ct Ra E ea))(hb:PE X b (lE ct Ra E eb))(hpl:Za b=true) :
  PE X (.Subscript a b pos) (lE ct Ra E λσ h=>(ea σ h).bind λx h1=>opt (yc x) λ_=>(eb σ h1).bind λy h2=>Zi .at x y h2):=by
 refine PE.imp (yb3 Zcn ha hb (ZaT hpl)) λσ H Q q=>?_;obtain⟨μ,h,σs,rel,rst,ra,pp⟩:=q;refine lE.mk rel rst ra pp λm w μ1 h1 H1 ex1 rel1 rst1 rv1 p1=>?_;obtain⟨z,e1,p2⟩:=Po.opt p1;refine lE.mk rel1 rst1 ra p2 λm2 w2 μ2 h2 H2 ex2 rel2 rst2 rv2 p3=>?_;obtain⟨z',e1',p4⟩:=Po.opt p3;rw[e1] at e1';cases e1';obtain⟨i,e2,p5⟩:=Po.opt p4;obtain⟨c,e3,p6⟩:=Po.opt p5;have:=Yg e2;subst this;split at e3
 next hz =>
  have hlt:=(Xa.mp e3).1;refine⟨z,i,c,qr rv1 e1,zk rv2,yO hz.1,?_,p6.now rel2 _ (yE _)⟩;unfold atI ixN;rw[if_pos hz.2,if_pos (by lia)];exact e3
 next=>cases e3
theorem e_inS(ha:PE X a (lE ct Ra E ea))(hb:PE X b (lE ct Ra E eb))(hp:Za b=true) :
  PE X (.Compare a [.In] [b] pos) (lE ct Ra E λσ h=>(ea σ h).bind λx h1=>opt (yc x) λ_=>(eb σ h1).bind λy h2=>Zi .inn x y h2) /\
  PT X (.Compare a [.In] [b] pos) (lT ct Ra E (tst λσ h=>(ea σ h).bind λx h1=>opt (yc x) λ_=>(eb σ h1).bind λy h2=>Zi .inn x y h2)):=by
 have main:∀ σ H Q,lE ct Ra E (λσ h=>(ea σ h).bind λx h1=>opt (yc x) λ_=>(eb σ h1).bind λy h2=>Zi .inn x y h2) σ H Q->tOp (λx y H Q=>∃ i j,x=.str i/\y=.str j/\Q (.bl (!(Builtin.Str.occurrences j i 0 j.length 1).isEmpty)) H) (lE ct Ra E ea) (lE ct Ra E eb) σ H Q:=λσ H Q q=>by
  obtain⟨μ,h,σs,rel,rst,ra,pp⟩:=q;refine lE.mk rel rst ra pp λm w μ1 h1 H1 ex1 rel1 rst1 rv1 p1=>?_;obtain⟨z,e1,p2⟩:=Po.opt p1;refine lE.mk rel1 rst1 ra p2 λm2 w2 μ2 h2 H2 ex2 rel2 rst2 rv2 p3=>?_;obtain⟨z',e1',p4⟩:=Po.opt p3;rw[e1] at e1';cases e1';obtain⟨j,e2,p5⟩:=Po.opt p4;exact⟨z,j,qr rv1 e1,qr rv2 e2,p5.now rel2 _ (Zx _)⟩
 have hb':behindInMarks .In b=false:=YS hp _;exact Yae (qbb Qaw ha hb hb') (Ya9 Qaw ha hb hb') main
theorem e_cat(ha:PE X a (lE ct Ra E ea))(hb:PE X b (lE ct Ra E eb)) :
  PE X (.BinOp a .Add b pos) (lE ct Ra E λσ h=>(ea σ h).bind λx h1=>opt (yc x) λ_=>(eb σ h1).bind λy h2=>Zi .cat x y h2):=by
 refine PE.imp (ybx za0 ha hb) λσ H Q q=>?_;obtain⟨μ,h,σs,rel,rst,ra,pp⟩:=q;refine lE.mk rel rst ra pp λm w μ1 h1 H1 ex1 rel1 rst1 rv1 p1=>?_;obtain⟨z,e1,p2⟩:=Po.opt p1;refine lE.mk rel1 rst1 ra p2 λm2 w2 μ2 h2 H2 ex2 rel2 rst2 rv2 p3=>?_;obtain⟨z',e1',p4⟩:=Po.opt p3;rw[e1] at e1';cases e1';obtain⟨j,e2,p5⟩:=Po.opt p4;split at p5
 next hz=>exact⟨z,j,qr rv1 e1,qr rv2 e2,yO hz,p5.now rel2 _ (yE _)⟩
 next=>exact p5.elim
theorem e_rep(ha:PE X a (lE ct Ra E ea))(hb:PE X b (lE ct Ra E eb)) :
  PE X (.BinOp a .Mult b pos) (lE ct Ra E λσ h=>(ea σ h).bind λx h1=>opt (yc x) λ_=>(eb σ h1).bind λy h2=>Zi .rep x y h2):=by
 refine PE.imp (ybx qaZ ha hb) λσ H Q q=>?_;obtain⟨μ,h,σs,rel,rst,ra,pp⟩:=q;refine lE.mk rel rst ra pp λm w μ1 h1 H1 ex1 rel1 rst1 rv1 p1=>?_;obtain⟨z,e1,p2⟩:=Po.opt p1;refine lE.mk rel1 rst1 ra p2 λm2 w2 μ2 h2 H2 ex2 rel2 rst2 rv2 p3=>?_;obtain⟨z',e1',p4⟩:=Po.opt p3;rw[e1] at e1';cases e1';obtain⟨j,e2,p5⟩:=Po.opt p4;have:=Yg e2;subst this;split at p5
 next hz=>exact⟨z,j,qr rv1 e1,zk rv2,hz.1,hz.2.1,hz.2.2,p5.now rel2 _ (yE _)⟩
 next=>exact p5.elim
theorem QbL{z:Str}{μ1:List Addr}{h1:MH}{H1:Hp}:Wk ct (Itx z) (z.cps.toList.map λc=>MV.f (.str ⟨#[c]⟩)) [] μ1 h1 H1:=by
 intro i μ h H ex rel _;refine⟨λhi=>⟨show i<z.cps.size by simpa using hi,λx H2 ⟨e1,c,e2,e3⟩=>?_⟩,λhi=>show z.cps.size<=i from Vl (by simpa using hi.symm)⟩;subst e1;subst e3;refine⟨_,?_,Ext.refl _ _ _,rel,yE _⟩;rw[We,Array.getElem?_toList,e2];rfl
set_option tactic.hygienic true in
theorem qbB{tg e:Expr}{ev:MSt->MH->R MV}(h:PE X e (lE ct Ra E ev)):PI X tg e (lI ct Ra E (λσ hh=>(ev σ hh).bind λx h1=>.ok [x] h1) "signs"):=PI.imp (Qcd h) λσ H Q q=>by
 obtain(⟨μ,hh,σs,rel,rst,ra,p⟩):=q;refine lE.mk rel rst ra p λm v μ1 h1 H1 ex rel1 rst1 rv p1=>?_;obtain(⟨items,g,e1,_,k⟩):=p1.now rel1;cases m with
 |f x =>
  cases x with
  |str z =>
   simp only[Qbq,Option.some.injEq,Prod.mk.injEq] at e1;obtain(⟨rfl,rfl⟩):=e1;exact⟨z,qr rv rfl,k _ QbL⟩
  |_=>cases e1
 |ref _=>cases e1
 |tup _=>cases e1
 |exc _=>cases e1
end
section
variable {ct:Tx} {Pm:Prog} {n:Nat}
section
variable {X:Cx} {E:XK} {Ra:L2.St->Prop} {N:List Str} {sc:Scope}
theorem Yc{e:Expr}{ev ev':MSt->MH->R MV}(p:PE X e (lE ct Ra E ev))(h:∀ σ hh,ev' σ hh=ev σ hh):PE X e (lE ct Ra E ev'):=by
 have:ev'=ev:=funext λσ=>funext λhh=>h σ hh;rw[this];exact p
theorem Zn{e:Expr}{ev ev':MSt->MH->R MV}(p:PE X e (lE ct Ra E ev)/\PT X e (lT ct Ra E (tst ev)))(h:∀ σ hh,ev' σ hh=ev σ hh):PE X e (lE ct Ra E ev')/\PT X e (lT ct Ra E (tst ev')):=by
 have:ev'=ev:=funext λσ=>funext λhh=>h σ hh;rw[this];exact p
theorem Cc.comp{cs:Scope}{N':List Str}(c:Cc X Pm ct n Ra E N sc)(nd:N'.Nodup)(C:Addr)(s3:Shared)(H:Hp)(ex:List Addr):Cc (cxC X cs N' C s3 H ex) Pm ct n (λ_=>True) E0 N' (ZA cs sc) :=
 ⟨c.txt,c.calm,c.room,λσ _ pins H s e s' I ⟨_,_,_,_,_,_,_,_,_,_,_,_,_,_,_,_,q⟩=>q.elim,rfl,by rw[<- c.sc];rfl,nd,c.hK⟩
noncomputable def Sd(X:Cx)(ct:Tx)(Pm:Prog)(n:Nat)(Ra:L2.St->Prop)(E:XK)(me:ME)(e:Expr):Prop :=
 PE X e (lE ct Ra E (ya Pm (run Pm n) me))/\(okT me=true->PT X e (lT ct Ra E (tst (ya Pm (run Pm n) me))))
theorem Sd.of{me:ME}{e:Expr}(h:PE X e (lE ct Ra E (ya Pm (run Pm n) me))/\PT X e (lT ct Ra E (tst (ya Pm (run Pm n) me)))):Sd X ct Pm n Ra E me e:=⟨h.1,λ_=>h.2⟩
theorem zbA{ms:List ME}{es:List Expr}(b:Bo ct X Ra E Pm n ms es)(hl:es.length<1000):∀ σ h xs h',zf Pm (run Pm n) ms σ h=.ok xs h'->xs.length<=sizeLine:=λσ h xs h' e=>by
 rw[qy e,b.length];exact Xe (Uv hl) (by decide)
end
end
end SD
end
section
namespace SD
open PySem PySem.Spec PyProof.Rows L2 L3 M3 MP
variable {ct:Tx} {Pm:Prog} {n:Nat}
set_option tactic.hygienic true in
theorem qbG{X:Cx}{E:XK}{Ra:L2.St->Prop}{N:List Str}{sc:Scope}{it:String}{t iter:Expr}{ms:List ME}(c:Cc X Pm ct n Ra E N sc)(k1:qam t it iter=true)(k2:gl sc (Str.ofString it)=true)(b:Bo ct X Ra E Pm n ms (Yu iter)) :
  PI X t iter (lI ct Ra E (zf Pm (run Pm n) ms) it):=by
 obtain⟨g1,g2,g3⟩:=yq c.sc k2;unfold qam at k1;split at k1
 next x p as p2 =>
  simp only[Wa,Xi,beq_iff_eq] at k1;obtain⟨k1,rfl⟩:=k1;have b':Bo ct X Ra E Pm n ms as:=b
  rcases k1 with (⟨rfl,ha⟩|⟨⟨rfl,ht⟩,ha⟩)|⟨⟨rfl,ht⟩,ha⟩
  ·have hl:=b'.length;have hm:X.mg "range"=none:=c.txt.blts "range" (by simp);exact ybM g1 hm b'.pa b'.plain ha λσ h xs h' e=>by rw[qy e,hl]
  ·cases t with
   |Tuple es k pt =>
    have hm:X.mg "zip"=none:=c.txt.blts "zip" (by simp)
    rcases as with _|⟨u,_|⟨v,_|⟨w,as⟩⟩⟩
    ·simp at ha
    ·simp at ha
    ·exact qcf c.hK g1 hm b'.pa b'.plain λσ h xs h' e=>by rw[qy e,b'.length];rfl
    ·simp at ha
   |_=>exact Vf ht
  ·cases t with
   |Tuple es k pt =>
    have hm:X.mg "enumerate"=none:=c.txt.blts "enumerate" (by simp)
    rcases as with _|⟨u,_|⟨v,as⟩⟩
    ·simp at ha
    ·exact ybX c.hK g1 hm b'.pa b'.plain λσ h xs h' e=>by rw[qy e,b'.length];rfl
    ·simp at ha
   |_=>exact Vf ht
 next=>exact Vf k1
theorem qbN{α:Type}{l:List α}{p:α×α}(h:twoL l=some p):l=[p.1,p.2]:=by
 rcases l with _|⟨a,_|⟨b,_|⟨c,l⟩⟩⟩
 ·exact nomatch h
 ·exact nomatch h
 ·cases h;rfl
 ·exact nomatch h
theorem qaF{α:Type}{l:List α}{p:α}(h:zaT l=some p):l=[p]:=by
 rcases l with _|⟨a,_|⟨b,l⟩⟩
 ·exact nomatch h
 ·cases h;rfl
 ·exact nomatch h
theorem no0{α:Type}{a:α}{p:Prop}(h:none=some a):p:=nomatch h
theorem Yba{e v:Expr}{x:Str}(h:asC1 e=some (x,v)):∃ p q,e=.Call (.Name x p) [v] [] q:=by
 cases e with
 |Call g as ks q =>
  cases g with
  |Name z p =>
   cases ks with
   |nil =>
    have h:((zaT as).map λa=>(z,a))=some (x,v):=h;obtain⟨a,e1,h⟩:=ub.mp h;cases h;exact⟨p,q,by rw[qaF e1]⟩
   |cons _ _=>exact no0 h
  |_=>exact no0 h
 |_=>exact no0 h
theorem ZbD{e l r:Expr}{o:CmpOp}(h:zM e=some (l,o,r)):∃ p,e=.Compare l [o] [r] p:=by
 cases e with
 |Compare l' os rs p =>
  have h:((zaT os).bind λo=>(zaT rs).map λr=>(l',o,r))=some (l,o,r):=h;obtain⟨o',e1,h⟩:=Xb.mp h;obtain⟨r',e2,h⟩:=ub.mp h;cases h;exact⟨p,by rw[qaF e1,qaF e2]⟩
 |_=>exact no0 h
theorem Qbf{e:Expr}(h:Ybw e=true):∃ j p,e=.Constant .none j p:=by
 cases e with
 |Constant k j p =>
  cases k with
  |none=>exact⟨_,_,rfl⟩
  |_=>exact ff h
 |_=>exact ff h
theorem YaE{e:Expr}{f:Expr->CmpOp->Expr->Bool}(h:(match zM e with|some (l,o,r)=>f l o r|none=>false)=true):∃ l o r p,e=.Compare l [o] [r] p/\f l o r=true:=by
 cases w:zM e with
 |none=>rw[w] at h;exact ff h
 |some q =>
  obtain⟨l,o,r⟩:=q;rw[w] at h;obtain⟨p,e⟩:=ZbD w;exact⟨l,o,r,p,e,h⟩
theorem zbT{e v u:Expr}{x:Str}(h:asC2 e=some (x,v,u)):∃ p q,e=.Call (.Name x p) [v,u] [] q:=by
 cases e with
 |Call g as ks q =>
  cases g with
  |Name z p =>
   cases ks with
   |nil =>
    have h:((twoL as).map λa=>(z,a))=some (x,v,u):=h;obtain⟨a,e1,h⟩:=ub.mp h;cases h;exact⟨p,q,by rw[qbN e1]⟩
   |cons _ _=>exact no0 h
  |_=>exact no0 h
 |_=>exact no0 h
theorem zb0{e:Expr}{x:Str}(h:asNm e=some x):∃ p,e=.Name x p:=by
 cases e with
 |Name y p=>cases h;exact⟨p,rfl⟩
 |_=>exact no0 h
theorem zb6{e:Expr}{f:Str->Expr->Str->Bool}(h:(match Y1 e with|some (x,v,y)=>f x v y|none=>false)=true):∃ x v y p1 p2 p3,e=.Call (.Name x p1) [v,.Name y p2] [] p3/\f x v y=true:=by
 cases w:Y1 e with
 |none=>rw[w] at h;exact ff h
 |some q =>
  obtain⟨x,v,y⟩:=q;rw[w] at h;obtain⟨⟨x',v',y'⟩,e1,w⟩:=Xb.mp w;obtain⟨z,e2,w⟩:=ub.mp w;cases w;obtain⟨p2,e2⟩:=zb0 e2;have e2:y'=.Name y p2:=e2;subst e2;obtain⟨p1,p3,e⟩:=zbT e1;exact⟨_,_,_,p1,p2,p3,e,h⟩
theorem YaY{e v:Expr}{x y:Str}(h:yaE e=some (x,y,v)):∃ p1 p2 p3 p,e=.Call (.Name x p1) [.Call (.Name y p2) [v] [] p3] [] p:=by
 obtain⟨⟨x',v'⟩,e1,h⟩:=Xb.mp h;obtain⟨⟨y',w⟩,e2,h⟩:=ub.mp h;cases h;obtain⟨p1,p,rfl⟩:=Yba e1;obtain⟨p2,p3,rfl⟩:=Yba e2;exact⟨p1,p2,p3,p,rfl⟩
set_option tactic.hygienic true in
mutual
theorem sB:∀(me:ME){X:Cx}{E:XK}{Ra:L2.St->Prop}{N:List Str} {sc:Scope} (c:Cc X Pm ct n Ra E N sc) (e:Expr),Ze Pm me N sc e=true->Sd X ct Pm n Ra E me e
 |.var i,X,E,Ra,N,sc,c,e,h=>by
  have h:=Yd h;cases e with
  |Name x p =>
   have h:(N[i]? == some x&&zaS sc x)=true:=h;simp only[Wa,beq_iff_eq] at h;exact Sd.of (Qc (Yc (e_var (by rw[c.nm];exact h.1) (by rw[c.sc];exact h.2)) λσ hh=>by simp only[ya]))
  |_=>exact ff h
 |.cI i,X,E,Ra,N,sc,c,e,h=>by
  have h:=Yd h;cases e with
  |Constant k j p =>
   cases k with
   |int z =>
    have hz:i=z:=by simpa using(show(i==z)=true from h)
    subst hz;exact Sd.of (Qc (Yc (Qad zca λ_ _ _=>yn _) λσ hh=>by simp only[ya]))
   |_=>exact ff h
  |_=>exact ff h
 |.cB i,X,E,Ra,N,sc,c,e,h=>by
  have h:=Yd h;cases e with
  |Constant k j p =>
   cases k with
   |bool z =>
    have hz:i=z:=by simpa using(show(i==z)=true from h)
    subst hz;exact Sd.of (Qc (Yc (Qad pe_bl λ_ _ _=>Zx _) λσ hh=>by simp only[ya]))
   |_=>exact ff h
  |_=>exact ff h
 |.cN,X,E,Ra,N,sc,c,e,h=>by
  have h:=Yd h;cases e with
  |Constant k j p =>
   cases k with
   |none =>
    exact Sd.of (Qc (Yc (Qad qcg λ_ _ _=>ZaG) λσ hh=>by simp only[ya]))
   |_=>exact ff h
  |_=>exact ff h
 |.cS i,X,E,Ra,N,sc,c,e,h=>by
  have h:=Yd h;cases e with
  |Constant k j p =>
   cases k with
   |str z =>
    have hz:i=z:=by simpa using(show(i==z)=true from h)
    subst hz;exact Sd.of (Qc (Yc (Qad Ybu λ_ _ _=>yE _) λσ hh=>by simp only[ya]))
   |_=>exact ff h
  |_=>exact ff h
 |.glob g,X,E,Ra,N,sc,c,e,h=>by
  have h:=Yd h;cases e with
  |Name x p =>
   have h:(x==Str.ofString g&&gl sc x&&YbI (Pm.globs g))=true:=h;simp only[Wa,beq_iff_eq] at h;obtain(⟨⟨rfl,h1⟩,h2⟩):=h;have hv:(∃ i,Pm.globs g=some (.int i))\/∃ z,Pm.globs g=some (.str z):=by
    cases hq:Pm.globs g with
    |none=>rw[hq] at h2;cases h2
    |some w =>
     rw[hq] at h2;cases w with
     |int i=>exact .inl ⟨i,rfl⟩
     |str z=>exact .inr ⟨z,rfl⟩
     |_=>cases h2
   rcases hv with ⟨i,hv⟩|⟨z,hv⟩
   ·exact Sd.of (Qc (Yc (Ycr c hv h1) λσ hh=>by simp only[ya]))
   ·exact Sd.of (Qc (Yc (zb1 c hv h1) λσ hh=>by simp only[ya]))
  |_=>exact ff h
 |.bin fz op a b,X,E,Ra,N,sc,c,e,h=>by
  have h:=Yd h;cases e with
  |BinOp l o r p =>
   have h:(o==mOp op&&Ze Pm a N sc l&&Ze Pm b N sc r)=true:=h;simp only[Wa,beq_iff_eq] at h;obtain(⟨⟨rfl,h1⟩,h2⟩):=h;exact Sd.of (Qc (Yc (e_bin fz op (sB a c l h1).1 (sB b c r h2).1) λσ hh=>by simp only[ya]))
  |_=>exact ff h
 |.neg a,X,E,Ra,N,sc,c,e,h=>ff (Yd h)
 |.cmp op a b,X,E,Ra,N,sc,c,e,h=>by
  obtain(⟨l,o,r,p,rfl,g⟩):=YaE (show(match zM e with|some (l,o,r)=>o==ZbG op&&Ze Pm a N sc l&&Ze Pm b N sc r|none=>false)=true from Yd h);simp only[Wa,beq_iff_eq] at g;obtain(⟨⟨rfl,h1⟩,h2⟩):=g;exact Sd.of (Zn (e_cmp c.hK op c.units (sB a c l h1).1 (sB b c r h2).1 (Zh h2)) λσ hh=>by simp only[ya])
 |.isN a,X,E,Ra,N,sc,c,e,h=>by
  obtain(⟨l,o,r,p,rfl,g⟩):=YaE (show(match zM e with|some (l,o,r)=>o == .Is&&Ybw r&&Ze Pm a N sc l|none=>false)=true from Yd h);simp only[Wa,beq_iff_eq] at g;obtain(⟨⟨rfl,h1⟩,h2⟩):=g;obtain(⟨j,p2,rfl⟩):=Qbf h1;exact Sd.of (Zn (e_isN (sB a c l h2).1) λσ hh=>by simp only[ya])
 |.notN a,X,E,Ra,N,sc,c,e,h=>by
  obtain(⟨l,o,r,p,rfl,g⟩):=YaE (show(match zM e with|some (l,o,r)=>o == .IsNot&&Ybw r&&Ze Pm a N sc l|none=>false)=true from Yd h);simp only[Wa,beq_iff_eq] at g;obtain(⟨⟨rfl,h1⟩,h2⟩):=g;obtain(⟨j,p2,rfl⟩):=Qbf h1;exact Sd.of (Zn (yco (sB a c l h2).1) λσ hh=>by simp only[ya])
 |.and es,X,E,Ra,N,sc,c,e,h=>by
  have h:=Yd h;cases e with
  |BoolOp o vs p =>
   cases o with
   |And =>
    have h:(es.all okT&&yi Pm es N sc vs)=true:=h;rw[Wa] at h;obtain(⟨i1,i2⟩):=yb2 (pos:=p) (sBs es c vs h.2) h.1;exact Sd.of (Zn ⟨i1,i2.pt⟩ λσ hh=>by simp only[ya])
   |_=>exact ff h
  |_=>exact ff h
 |.or es,X,E,Ra,N,sc,c,e,h=>by
  have h:=Yd h;cases e with
  |BoolOp o vs p =>
   cases o with
   |Or =>
    have h:(es.all okT&&yi Pm es N sc vs)=true:=h;rw[Wa] at h;obtain(⟨i1,i2⟩):=e_or (pos:=p) (sBs es c vs h.2) h.1;exact Sd.of (Zn ⟨i1,i2.pt⟩ λσ hh=>by simp only[ya])
   |_=>exact ff h
  |_=>exact ff h
 |.not a,X,E,Ra,N,sc,c,e,h=>by
  have h:=Yd h;cases e with
  |UnaryOp o x p =>
   cases o with
   |Not =>
    have h:(okT a&&Ze Pm a N sc x)=true:=h;rw[Wa] at h;obtain(⟨i1,i2⟩):=sB a c x h.2;exact Sd.of (Zn (e_not i1 (i2 h.1)) λσ hh=>by simp only[ya])
   |_=>exact ff h
  |_=>exact ff h
 |.ite d a b,X,E,Ra,N,sc,c,e,h=>by
  have h:=Yd h;cases e with
  |IfExp t x y p =>
   have h:(okT d&&Ze Pm d N sc t&&Ze Pm a N sc x&&Ze Pm b N sc y)=true:=h;simp only[Wa] at h;obtain(⟨⟨⟨h0,h1⟩,h2⟩,h3⟩):=h;exact⟨Yc (e_ite ((sB d c t h1).2 h0) (sB a c x h2).1 (sB b c y h3).1) λσ hh=>by simp only[ya],λz=>Vf z⟩
  |_=>exact ff h
 |.tup es,X,E,Ra,N,sc,c,e,h=>by
  have h:=Yd h;cases e with
  |Tuple vs k p =>
   have h:(decide (vs.length<1000)&&yi Pm es N sc vs)=true:=h;rw[Wa] at h;have b:=sBs es c vs h.2;exact Sd.of (Qc (Yc (e_tup b.pa (zbA b (of_decide_eq_true h.1))) λσ hh=>by simp only[ya]))
  |_=>exact ff h
 |.lst fz es,X,E,Ra,N,sc,c,e,h=>by
  have h:=Yd h;cases e with
  |List vs p =>
   have h:(decide (vs.length<1000)&&yi Pm es N sc vs)=true:=h;rw[Wa] at h;have b:=sBs es c vs h.2;exact Sd.of (Qc (Yc (e_lst fz b.pa (zbA b (of_decide_eq_true h.1))) λσ hh=>by simp only[ya]))
  |_=>exact ff h
 |.sub a i,X,E,Ra,N,sc,c,e,h=>by
  have h:=Yd h;cases e with
  |Subscript x y p =>
   have h:(Ze Pm a N sc x&&Ze Pm i N sc y)=true:=h;rw[Wa] at h;exact Sd.of (Qc (Yc (e_sub c.hK (sB a c x h.1).1 (sB i c y h.2).1 (Zh h.2)) λσ hh=>by simp only[ya]))
  |_=>exact ff h
 |.slice fz a lo hi,X,E,Ra,N,sc,c,e,h=>by
  have h:=Yd h;cases e with
  |Subscript x y p =>
   cases y with
   |Slice l u st p2 =>
    cases st with
    |none =>
     have h:(Ze Pm a N sc x&&zby Pm lo N sc l&&zby Pm hi N sc u)=true:=h;simp only[Wa] at h;obtain(⟨⟨h1,h2⟩,h3⟩):=h;exact Sd.of (Qc (Yc (ybU c.hK fz (sB a c x h1).1 (sBo lo c l h2) (sBo hi c u h3)) λσ hh=>by simp only[ya]))
    |some _=>exact ff h
   |_=>exact ff h
  |_=>exact ff h
 |.fld a f,X,E,Ra,N,sc,c,e,h=>by
  have h:=Yd h;cases e with
  |Attribute x m p =>
   have h:(m==Str.ofString f&&Zf x&&Ze Pm a N sc x)=true:=h;simp only[Wa,beq_iff_eq] at h;obtain(⟨⟨rfl,h1⟩,h2⟩):=h;exact Sd.of (Qc (Yc (e_fld c.txt (sB a c x h2).1 h1) λσ hh=>by simp only[ya]))
  |_=>exact ff h
 |.call f es,X,E,Ra,N,sc,c,e,h=>by
  have h:=Yd h;cases e with
  |Call g as ks p =>
   cases g with
   |Name x p2 =>
    cases as with
    |nil=>exact ff h
    |cons v vs =>
     cases ks with
     |cons _ _=>exact ff h
     |nil =>
      have h:(x==Str.ofString f&&gl sc x&&!(f.toList.contains '.')&&(Pm.defs f).isSome&&yi Pm es N sc (v::vs))=true:=h;simp only[Wa,beq_iff_eq,Vg] at h;obtain(⟨⟨⟨⟨rfl,h1⟩,h2⟩,h3⟩,h4⟩):=h;obtain(⟨d,hd⟩):=Wg.mp h3;have b:=sBs es c (v::vs) h4;exact Sd.of (Qc (Yc (Zcj c hd h2 h1 b.pa b.plain) λσ hh=>by simp only[ya]))
   |_=>exact ff h
  |_=>exact ff h
 |.make fz cn es,X,E,Ra,N,sc,c,e,h=>by
  have h:=Yd h;cases e with
  |Call g as ks p =>
   cases g with
   |Name x p2 =>
    cases as with
    |nil =>
     cases ks with
     |cons _ _=>cases es <;> exact ff h
     |nil =>
      cases es with
      |cons _ _=>exact ff h
      |nil =>
       have h:(x==Str.ofString cn&&gl sc x&&Pm.mk0 cn&&(Pm.meths cn "__init__").isNone)=true:=h;simp only[Wa,beq_iff_eq,Option.isNone_iff_eq_none] at h;obtain(⟨⟨⟨rfl,h1⟩,h3⟩,h4⟩):=h;exact Sd.of (Qc (Yc (Yb0 fz c h3 h4 h1) λσ hh=>by simp only[ya,zf]))
    |cons v vs =>
     cases ks with
     |cons _ _=>exact ff h
     |nil =>
      have h:(x==Str.ofString cn&&gl sc x&&(Pm.meths cn "__init__").isSome&&yi Pm es N sc (v::vs))=true:=h;simp only[Wa,beq_iff_eq] at h;obtain(⟨⟨⟨rfl,h1⟩,h3⟩,h4⟩):=h;obtain(⟨d,hd⟩):=Wg.mp h3;have b:=sBs es c (v::vs) h4;exact Sd.of (Qc (Yc (zcp fz c hd h1 b.pa b.plain) λσ hh=>by simp only[ya]))
   |_=>exact ff h
  |_=>exact ff h
 |.meth o m es,X,E,Ra,N,sc,c,e,h=>ff (Yd h)
 |.blt fz id es,X,E,Ra,N,sc,c,e,h=>by
  have h:=Yd h;cases e with
  |Call g as ks p =>
   cases g with
   |Name x p2 =>
    cases as with
    |nil=>exact ff h
    |cons v vs =>
     cases ks with
     |cons _ _=>exact ff h
     |nil =>
      have h:(x==Str.ofString id&&gl sc x&&(fnNames.contains id||tyNames.contains id)&&yi Pm es N sc (v::vs))=true:=h;simp only[Wa,beq_iff_eq,Xi] at h;obtain(⟨⟨⟨rfl,h1⟩,h2⟩,h4⟩):=h;have b:=sBs es c (v::vs) h4;exact Sd.of (Qc (Yc (e_blt fz c (by simpa using h2) h1 b.pa b.plain) λσ hh=>by simp only[ya]))
   |_=>exact ff h
  |_=>exact ff h
 |.isI a t,X,E,Ra,N,sc,c,e,h=>by
  obtain(⟨x,v,y,p1,p2,p3,rfl,g⟩):=zb6 (show(match Y1 e with|some (x,v,y)=>x==("isinstance":Str)&&gl sc x&&y==Str.ofString t&&gl sc y&&(isTys.contains t||(Pm.subs t t).isSome)&&Ze Pm a N sc v|none=>false)=true from Yd h);simp only[Wa,beq_iff_eq,Xi] at g;obtain(⟨⟨⟨⟨⟨rfl,h1⟩,rfl⟩,h2⟩,h3⟩,h4⟩):=g;exact Sd.of (Qc (Yc (e_isI c h3 h1 h2 (sB a c v h4).1 (Zh h4)) λσ hh=>by simp only[ya]))
 |.lineX a,X,E,Ra,N,sc,c,e,h=>by
  have h:=Yd h;cases e with
  |Attribute x m p =>
   have h:(m==("line":Str)&&Zf x&&Ze Pm a N sc x)=true:=h;simp only[Wa,beq_iff_eq] at h;obtain(⟨⟨rfl,h1⟩,h2⟩):=h;exact Sd.of (Qc (Yc (ybZ c (sB a c x h2).1 h1) λσ hh=>by simp only[ya]))
  |_=>exact ff h
 |.isX a t,X,E,Ra,N,sc,c,e,h=>by
  obtain(⟨x,v,y,p1,p2,p3,rfl,g⟩):=zb6 (show(match Y1 e with|some (x,v,y)=>x==("isinstance":Str)&&gl sc x&&y==Str.ofString t&&gl sc y&&Pm.xcls t&&Ze Pm a N sc v|none=>false)=true from Yd h);simp only[Wa,beq_iff_eq] at g;obtain(⟨⟨⟨⟨⟨rfl,h1⟩,rfl⟩,h2⟩,h3⟩,h4⟩):=g;exact Sd.of (Qc (Yc (e_isX c h3 h1 h2 (sB a c v h4).1 (Zh h4)) λσ hh=>by simp only[ya]))
 |.tx1 o a,X,E,Ra,N,sc,c,e,h=>by
  replace h:=Yd h;cases hs:t1S o with
  |false =>
   cases o with
   |setl =>
    replace h:(match yaE e with|some (x,y,v)=>x==("len":Str)&&gl sc x&&y==("set":Str)&&gl sc y&&Ze Pm a N sc v|none=>false)=true:=h;split at h
    next x y v w =>
     obtain(⟨p1,p2,p3,p,rfl⟩):=YaY w;simp only[Wa,beq_iff_eq] at h;obtain(⟨⟨⟨⟨rfl,h1⟩,rfl⟩,h2⟩,h3⟩):=h;exact Sd.of (Qc (Yc (ych c h1 h2 (sB a c v h3).1 (Zh h3)) λσ hh=>by simp only[ya]))
    next=>exact ff h
   |_=>cases hs
  |true =>
   have bad:(∀ x np v p,e≠.Call (.Name x np) [v] [] p)->False:=λq=>by
    cases o with
    |setl=>cases hs
    |_ =>
     cases e with
     |Call f as ks p =>
      cases f with
      |Name x np =>
       rcases as with _|⟨v,_|⟨v2,as⟩⟩
       ·exact Vf h
       ·cases ks with
        |nil=>exact q _ _ _ _ rfl
        |cons _ _=>exact Vf h
       ·exact Vf h
      |_=>exact Vf h
     |_=>exact Vf h
   by_cases q:∃ x np v p,e=.Call (.Name x np) [v] [] p
   ·obtain(⟨x,np,v,p,rfl⟩):=q;have hq:(x==t1N o&&gl sc x&&Ze Pm a N sc v)=true:=by
     cases o with
     |setl=>cases hs
     |_=>exact h
    simp only[Wa,beq_iff_eq] at hq;obtain(⟨⟨h0,h1⟩,h2⟩):=hq;exact Sd.of (Qc (Yc (e_tx1 c hs h0 h1 (sB a c v h2).1 (Zh h2)) λσ hh=>by simp only[ya]))
   ·exact(bad λx np v p z=>q ⟨x,np,v,p,z⟩).elim
 |.tx2 o a b,X,E,Ra,N,sc,c,e,h=>by
  replace h:=Yd h;cases o with
  |join =>
   obtain(⟨x,ap,v,cp,rfl,h1,h2,h3,h4⟩):∃ x ap v cp,e=.Call (.Attribute x "join" ap) [v] [] cp/\Zf x=true/\(ap.endLine==cp.line)=true/\Ze Pm a N sc x=true/\Ze Pm b N sc v=true:=by
    cases e with
    |Call f as ks p =>
     cases f with
     |Attribute x n ap =>
      rcases as with _|⟨v,_|⟨v2,as⟩⟩
      ·exact ff h
      ·cases ks with
       |nil =>
        replace h:(n==("join":Str)&&Zf x&&(ap.endLine==p.line)&&Ze Pm a N sc x&&Ze Pm b N sc v)=true:=h;simp only[Wa,beq_iff_eq] at h;obtain(⟨⟨⟨⟨rfl,h1⟩,h2⟩,h3⟩,h4⟩):=h;exact⟨x,ap,v,p,rfl,h1,by simpa using h2,h3,h4⟩
       |cons _ _=>exact ff h
      ·exact ff h
     |_=>exact ff h
    |_=>exact ff h
   exact Sd.of (Qc (Yc (Qcg (sB a c x h3).1 (sB b c v h4).1 h1 (Zh h4) h2) λσ hh=>by simp only[ya,t2g]))
  |split fz =>
   obtain(⟨x,ap,v,cp,rfl,h1,h2,h3,h4⟩):∃ x ap v cp,e=.Call (.Attribute x "split" ap) [v] [] cp/\Zf x=true/\(ap.endLine==cp.line)=true/\Ze Pm a N sc x=true/\Ze Pm b N sc v=true:=by
    cases e with
    |Call f as ks p =>
     cases f with
     |Attribute x n ap =>
      rcases as with _|⟨v,_|⟨v2,as⟩⟩
      ·exact ff h
      ·cases ks with
       |nil =>
        replace h:(n==("split":Str)&&Zf x&&(ap.endLine==p.line)&&Ze Pm a N sc x&&Ze Pm b N sc v)=true:=h;simp only[Wa,beq_iff_eq] at h;obtain(⟨⟨⟨⟨rfl,h1⟩,h2⟩,h3⟩,h4⟩):=h;exact⟨x,ap,v,p,rfl,h1,by simpa using h2,h3,h4⟩
       |cons _ _=>exact ff h
      ·exact ff h
     |_=>exact ff h
    |_=>exact ff h
   exact Sd.of (Qc (Yc (qbS fz (sB a c x h3).1 (sB b c v h4).1 h1 (Zh h4) h2) λσ hh=>by simp only[ya,t2g]))
  |«at» =>
   cases e with
   |Subscript x y p =>
    replace h:(Ze Pm a N sc x&&Ze Pm b N sc y)=true:=h;rw[Wa] at h;exact Sd.of (Qc (Yc (e_at (sB a c x h.1).1 (sB b c y h.2).1 (Zh h.2)) λσ hh=>by simp only[ya,t2g]))
   |_=>exact ff h
  |inn =>
   obtain(⟨l,o,r,p,rfl,g⟩):=YaE (show(match zM e with|some (l,o,r)=>o == .In&&Ze Pm a N sc l&&Ze Pm b N sc r|none=>false)=true from h);simp only[Wa,beq_iff_eq] at g;obtain(⟨⟨rfl,h1⟩,h2⟩):=g;exact Sd.of (Zn (e_inS (sB a c l h1).1 (sB b c r h2).1 (Zh h2)) λσ hh=>by simp only[ya,t2g])
  |cat =>
   cases e with
   |BinOp x o y p =>
    cases o with
    |Add =>
     replace h:(Ze Pm a N sc x&&Ze Pm b N sc y)=true:=h;rw[Wa] at h;exact Sd.of (Qc (Yc (e_cat (sB a c x h.1).1 (sB b c y h.2).1) λσ hh=>by simp only[ya,t2g]))
    |_=>exact ff h
   |_=>exact ff h
  |rep =>
   cases e with
   |BinOp x o y p =>
    cases o with
    |Mult =>
     replace h:(Ze Pm a N sc x&&Ze Pm b N sc y)=true:=h;rw[Wa] at h;exact Sd.of (Qc (Yc (e_rep (sB a c x h.1).1 (sB b c y h.2).1) λσ hh=>by simp only[ya,t2g]))
    |_=>exact ff h
   |_=>exact ff h
 |.nearK a b,X,E,Ra,N,sc,c,e,h=>by
  replace h:=Yd h;cases e <;> exact ff h
 |.lm m o es,X,E,Ra,N,sc,c,e,h=>by
  have h:=Yd h;cases e with
  |Call g as ks p =>
   cases g with
   |Attribute x nm ap =>
    cases ks with
    |cons _ _=>exact ff h
    |nil =>
     have h:(nm==Str.ofString m&&Zf x&&(ap.endLine==p.line)&&Ze Pm o N sc x&&yi Pm es N sc as&&(if as.isEmpty then lm0Names.contains m else lmNames.contains m&&decide (as.length<30)))=true:=h;simp only[Wa,beq_iff_eq] at h;obtain(⟨⟨⟨⟨⟨rfl,h1⟩,h2⟩,h3⟩,h4⟩,h5⟩):=h;have b:=sBs es c as h4;have ho:=(sB o c x h3).1;have hl:(ap.endLine==p.line)=true:=by simpa using h2
     cases as with
     |nil =>
      cases es with
      |cons _ _=>exact b.elim
      |nil =>
       have h5':m∈lm0Names:=by simpa using h5
       simp only[lm0Names,xa,Ub,or_false] at h5'
     |cons v vs =>
      have h5':m∈lmNames/\(v::vs).length<30:=by simpa using h5
      obtain(⟨h6,h7⟩):=h5';simp only[lmNames,xa,Ub,or_false] at h6
      rcases h6 with rfl
      ·exact Sd.of (Qc (Yc (e_lm1 PySem.F.slot_list_append PySem.F.type_list_append qbq ho h1 b.pa b.plain h7 hl) λσ hh=>by simp only[ya]))
   |_=>exact ff h
  |_=>exact ff h
 |.comp fz elt tg it src cond ncv js,X,E,Ra,N,sc,c,e,h=>by
  have h:=Yd h;cases e with
  |ListComp x gs cs p =>
   rcases gs with _|⟨⟨t,iter,ifs,a⟩,_|⟨g2,gs⟩⟩
   ·exact ff h
   ·have h:((a==0)&&Za iter&&qv sc N cs (tgN tg t++js.filterMap λj=>N[j]?) ncv js&&decide (tgN tg t++js.filterMap λj=>N[j]?).Nodup&&zv (ownC cs) (tgN tg t++js.filterMap λj=>N[j]?) (ZA cs sc) tg t&&Ze Pm elt (tgN tg t++js.filterMap λj=>N[j]?) (ZA cs sc) x&&chkC Pm cond (tgN tg t++js.filterMap λj=>N[j]?) (ZA cs sc) ifs&&(if it == "seq" then Zar Pm src N sc iter else if it == "signs" then Zar Pm src N sc iter else if it == "enum1" then false else qam t it iter&&gl sc (Str.ofString it)&&yi Pm src N sc (Yu iter)))=true:=h;simp only[Wa,beq_iff_eq,decide_eq_true_eq] at h;obtain(⟨⟨⟨⟨⟨⟨⟨ha,h1⟩,h2⟩,h3⟩,h4⟩,h5⟩,h6⟩,h7⟩):=h;subst ha;have hi:PI X t iter (lI ct Ra E (zf Pm (run Pm n) src) it):=by
     split at h7
     next hs =>
      subst hs;exact sBi src c t iter h7
     next hs =>
      split at h7
      next hs4 =>
       subst hs4;exact sBx src c t iter h7
      next =>
      split at h7
      next hs2 =>
       exact ff h7
      next =>
       simp only[Wa] at h7;obtain(⟨⟨k1,k2⟩,k3⟩):=h7;exact qbG c k1 k2 (sBs src c (Yu iter) k3)
    exact Sd.of (Qc (Yc (Qce fz (by rw[c.sc,c.nm];exact h2) c.calm hi (λC s3 H ex=>sG rfl (c.comp h3 C s3 H ex).sc h3 c.calm (λ_ z=>z) tg t h4) (λC s3 H ex=>sBc cond (c.comp h3 C s3 H ex) ifs h6) (λC s3 H ex=>(sB elt (c.comp h3 C s3 H ex) x h5).1) h1) λσ hh=>by simp only[ya]))
   ·exact ff h
  |_=>exact ff h
 |.frz m,X,E,Ra,N,sc,c,e,h=>by
  have h:=Yd h;have h':Ze Pm m N sc e=true:=h;exact⟨Yc (e_frz (sB m c e h').1) λσ hh=>by simp only[ya],λz=>Vf z⟩
theorem sBs:∀(mes:List ME){X:Cx}{E:XK}{Ra:L2.St->Prop}{N:List Str} {sc:Scope} (c:Cc X Pm ct n Ra E N sc) (es:List Expr),yi Pm mes N sc es=true->Bo ct X Ra E Pm n mes es
 |[],X,E,Ra,N,sc,c,es,h=>by
  cases es with
  |nil=>trivial
  |cons e es=>exact ff h
 |m::ms,X,E,Ra,N,sc,c,es,h=>by
  cases es with
  |nil=>exact ff h
  |cons e es =>
   have h:=za2 h;exact⟨⟨Zh h.1,sB m c e h.1⟩,sBs ms c es h.2⟩
theorem sBi:∀(mes:List ME){X:Cx}{E:XK}{Ra:L2.St->Prop}{N:List Str} {sc:Scope} (c:Cc X Pm ct n Ra E N sc) (t e:Expr),Zar Pm mes N sc e=true->PI X t e (lI ct Ra E (zf Pm (run Pm n) mes) "seq")
 |[],X,E,Ra,N,sc,c,t,e,h=>ff h
 |[m],X,E,Ra,N,sc,c,t,e,h=>by
  have h:Ze Pm m N sc e=true:=h;have:=Ycl c.hK (tg:=t) (sB m c e h).1;have e2:zf Pm (run Pm n) [m]=λσ hh=>(ya Pm (run Pm n) m σ hh).bind λx h1=>.ok [x] h1:=by
   funext σ hh;simp only[zf] <;> rfl
  rw[e2];exact this
 |_::_::_,X,E,Ra,N,sc,c,t,e,h=>ff h
theorem sBx:∀(mes:List ME){X:Cx}{E:XK}{Ra:L2.St->Prop}{N:List Str} {sc:Scope} (c:Cc X Pm ct n Ra E N sc) (t e:Expr),Zar Pm mes N sc e=true->PI X t e (lI ct Ra E (zf Pm (run Pm n) mes) "signs")
 |[],X,E,Ra,N,sc,c,t,e,h=>ff h
 |[m],X,E,Ra,N,sc,c,t,e,h=>by
  have h:Ze Pm m N sc e=true:=h;have:=qbB (tg:=t) (sB m c e h).1;have e2:zf Pm (run Pm n) [m]=λσ hh=>(ya Pm (run Pm n) m σ hh).bind λx h1=>.ok [x] h1:=by
   funext σ hh;simp only[zf] <;> rfl
  rw[e2];exact this
 |_::_::_,X,E,Ra,N,sc,c,t,e,h=>ff h
theorem sBo:∀(mo:Option ME){X:Cx}{E:XK}{Ra:L2.St->Prop}{N:List Str} {sc:Scope} (c:Cc X Pm ct n Ra E N sc) (eo:Option Expr),zby Pm mo N sc eo=true->PO X eo (lO ct Ra E (ZaO Pm (run Pm n) mo))
 |none,X,E,Ra,N,sc,c,eo,h=>by
  cases eo with
  |none =>
   refine PO.imp QbY λσ H Q q=>?_;obtain⟨μ,hh,σs,rel,rst,ra,p⟩:=q;simp only[ZaO] at p;exact p.now rel
  |some e=>exact ff h
 |some m,X,E,Ra,N,sc,c,eo,h=>by
  cases eo with
  |none=>exact ff h
  |some e =>
   have h:Ze Pm m N sc e=true:=h;refine PO.imp (YbN (sB m c e h).1) λσ H Q q=>?_;obtain⟨μ,hh,σs,rel,rst,ra,p⟩:=q;simp only[ZaO] at p;refine lE.mk rel rst ra p λx v μ1 h1 H1 ex rel1 rst1 rv p1=>?_;obtain⟨i,e,p2⟩:=Po.opt p1;have:=Yg e;subst this;exact⟨i,zk rv,p2.now rel1⟩
theorem sBc:∀(mo:Option ME){X:Cx}{E:XK}{Ra:L2.St->Prop}{N:List Str} {sc:Scope} (c:Cc X Pm ct n Ra E N sc) (es:List Expr),chkC Pm mo N sc es=true->PIf X es (lT ct Ra E (yaU Pm (run Pm n) mo))
 |none,X,E,Ra,N,sc,c,es,h=>by
  cases es with
  |nil =>
   refine PIf.imp zbR λσ H Q q=>?_;obtain⟨μ,hh,σs,rel,rst,ra,p⟩:=q;simp only[yaU] at p;exact p.now rel
  |cons e es=>exact ff h
 |some m,X,E,Ra,N,sc,c,es,h=>by
  rcases es with _|⟨e,_|⟨e2,es⟩⟩
  ·exact ff h
  ·have h:(okT m&&Ze Pm m N sc e)=true:=h;rw[Wa] at h;have e2:yaU Pm (run Pm n) (some m)=tst (ya Pm (run Pm n) m):=by
    funext σ hh;simp only[yaU,tst]
   rw[e2];exact YbT ((sB m c e h.2).2 h.1)
  ·exact ff h
end
end SD
end
section
namespace SD
open PySem PySem.Spec PyProof.Rows L2 L3 M3 MP
noncomputable def PoS(ct:Tx)(E:XK)(r:RS)(μ:List Addr)(h:MH)(H:Hp)(D:Ends):Prop:=match r with
 |.next σ' h'=>∀ μ' H' σ,Ext μ h H μ' h' H'->Rel ct μ' h' H'->RelSt ct μ' h' H' σ σ'->D.nx σ H'
 |.ret m h'=>∀ μ' H' v,Ext μ h H μ' h' H'->Rel ct μ' h' H'->RV ct μ' (Liv μ' h') H' m v->D.rt v H'
 |.brk σ' h'=>∀ μ' H' σ,Ext μ h H μ' h' H'->Rel ct μ' h' H'->RelSt ct μ' h' H' σ σ'->D.bk σ H'
 |.cnt σ' h'=>∀ μ' H' σ,Ext μ h H μ' h' H'->Rel ct μ' h' H'->RelSt ct μ' h' H' σ σ'->D.ct σ H'
 |.exc c h'=>∀ μ' H',Ext μ h H μ' h' H'->Rel ct μ' h' H'->∀ d,XD (Liv μ' h') H' c d->E (.ref (ct (xcl c))) d H'
 |.stuck=>False
noncomputable def lS(ct:Tx)(Ra:L2.St->Prop)(E:XK)(ex:MSt->MH->RS):TS:=λD σ H=>∃ μ h σs,Rel ct μ h H/\RelSt ct μ h H σ σs/\Ra σ/\PoS ct E (ex σs h) μ h H D
section
variable {ct:Tx} {Pm:Prog} {n:Nat} {X:Cx} {E:XK} {Ra:L2.St->Prop} {N:List Str} {sc:Scope}
section
variable {μ μ1:List Addr} {h h1:MH} {H H1:Hp} {D:Ends} {α:Type}
theorem PoS.start{r:RS}(e:Ext μ h H μ1 h1 H1)(p:PoS ct E r μ h H D):PoS ct E r μ1 h1 H1 D:=by
 cases r with
 |next σ' h'=>exactλμ' H' σ e' r' q=>p μ' H' σ (e.trans e') r' q
 |ret m h'=>exactλμ' H' v e' r' q=>p μ' H' v (e.trans e') r' q
 |brk σ' h'=>exactλμ' H' σ e' r' q=>p μ' H' σ (e.trans e') r' q
 |cnt σ' h'=>exactλμ' H' σ e' r' q=>p μ' H' σ (e.trans e') r' q
 |exc c h'=>exactλμ' H' e' r'=>p μ' H' (e.trans e') r'
 |stuck=>exact p
theorem PoS.st{r:R α}{k:α->MH->RS}(p:PoS ct E (r.st k) μ h H D):Po ct E r μ h H λx μ1 h1 H1=>Ext μ h H μ1 h1 H1/\Rel ct μ1 h1 H1/\PoS ct E (k x h1) μ1 h1 H1 D:=by
 cases r with
 |ok x h'=>exactλμ' H' e' r'=>⟨e',r',PoS.start (r:=k x h') e' p⟩
 |exc c h'=>exact p
 |stuck=>exact p
theorem PoS.opt{o:Option α}{k:α->RS}(p:PoS ct E (yt o k) μ h H D):∃ x,o=some x/\PoS ct E (k x) μ h H D:=by
 cases o with
 |none=>exact p.elim
 |some x=>exact⟨x,rfl,p⟩
end
section
variable {μ:List Addr} {h:MH} {H:Hp} {σ:L2.St} {σs:MSt} {D:Ends}
theorem lE.st{ev:MSt->MH->R MV}{k:MV->MH->RS}{Q:VK}(rel:Rel ct μ h H)(rst:RelSt ct μ h H σ σs)(ra:Ra σ)(p:PoS ct E ((ev σs h).st k) μ h H D)
  (f:∀ m v μ1 h1 H1,Ext μ h H μ1 h1 H1->Rel ct μ1 h1 H1->RelSt ct μ1 h1 H1 σ σs->RV ct μ1 (Liv μ1 h1) H1 m v->PoS ct E (k m h1) μ1 h1 H1 D->Q v H1):lE ct Ra E ev σ H Q :=
 ⟨μ,h,σs,rel,rst,ra,(PoS.st p).imp λm μ1 h1 H1 ⟨e1,r1,p1⟩ v rv=>f m v μ1 h1 H1 e1 r1 (rst.ext e1) rv p1⟩
end
structure Cs (X:Cx) (Pm:Prog) (ct:Tx) (n:Nat) (E:XK) (N:List Str) (sc:Scope):Prop where
 cc:Cc X Pm ct n (λ_=>True) E N sc
 ex:X.ex=[]
 own:PassesOwn (model X.prog X.w) X.A X.env X.xe
 tk:YaR X E
 fn:∀ x,X.fn x=true
 kd:X.env.scope.kind=.function
 stk:X.stack=X.env::X.outer
 fr:X.env.frame=some X.env.locals
section
variable {ea eb ec:MSt->MH->R MV} {a b c:Expr} {pos p2:Pos}
noncomputable def qR:Expr->Bool
 |.ListComp ..=>true
 |.SetComp ..=>true
 |.DictComp ..=>true
 |_=>false
theorem zV{e:Expr}{t:Option Expr}{l:Nat}{env:Env}(h:qR e=false):swapsWith e t l env=pure false:=by
 cases e <;> first|rfl|(simp[qR] at h)
theorem Qb5{e t:Expr}{l:Nat}{env:Env}(h1:∀ x gs cs p,swapsWith (.ListComp x gs cs p) (some t) l env=pure false)(h2:∀ x gs cs p,swapsWith (.SetComp x gs cs p) (some t) l env=pure false)(h3:∀ x y gs cs p,swapsWith (.DictComp x y gs cs p) (some t) l env=pure false):swapsWith e (some t) l env=pure false:=by
 cases hl:qR e with
 |false=>exact zV hl
 |true =>
  cases e with
  |ListComp x gs cs p=>exact h1 _ _ _ _
  |SetComp x gs cs p=>exact h2 _ _ _ _
  |DictComp x y gs cs p=>exact h3 _ _ _ _ _
  |_=>exact Vf (show false=true from hl)
theorem sw_lc{x:Expr}{gs:List Comprehension}{cs:Scope}{p:Pos}{t:Expr}{l:Nat}{env:Env}(h:∀ x p,t≠.Name x p):swapsWith (.ListComp x gs cs p) (some t) l env=pure false:=by
 cases t with
 |Name x p=>exact absurd rfl (h x p)
 |_=>rfl
theorem Zbv(ha:PE X a (lE ct Ra E ea))(hl:qR a=false):PS X (.Expr a pos) (lS ct Ra E λσ h=>(ea σ h).st λ_ h1=>.next σ h1):=PS.imp (Ybc ha (zV hl)) λD σ H q=>by
 obtain⟨μ,h,σs,rel,rst,ra,p⟩:=q;exact lE.st rel rst ra p λm v μ1 h1 H1 ex rel1 rst1 rv p1=>p1 μ1 H1 σ (Ext.refl _ _ _) rel1 rst1
theorem s_ret(ha:PE X a (lE ct Ra E ea)):PS X (.Return (some a) pos) (lS ct Ra E λσ h=>(ea σ h).st λv h1=>.ret v h1):=PS.imp (Qb7 ha) λD σ H q=>by
 obtain⟨μ,h,σs,rel,rst,ra,p⟩:=q;exact lE.st rel rst ra p λm v μ1 h1 H1 ex rel1 rst1 rv p1=>p1 μ1 H1 v (Ext.refl _ _ _) rel1 rv
theorem Qb6:PS X (.Return none pos) (lS ct Ra E λσ h=>.ret (.f .non) h):=PS.imp qb0 λD σ H q=>by
 obtain⟨μ,h,σs,rel,rst,ra,p⟩:=q;exact p μ H .non (Ext.refl _ _ _) rel ZaG
theorem s_if{x y:List Stmt}{ex ey:MSt->MH->RS}(tc:PT X c (lT ct Ra E (tst ec)))(hx:PSs X x (lS ct Ra E ex))(hy:PSs X y (lS ct Ra E ey)) :
  PS X (.If c x y pos) (lS ct Ra E λσ h=>(ec σ h).st λv h1=>yt (zA v) λk=>if k=true then ex σ h1 else ey σ h1):=PS.imp (ps_if tc hx hy) λD σ H q=>by
 obtain⟨μ,h,σs,rel,rst,ra,p⟩:=q;have p':PoS ct E ((tst ec σs h).st λk h1=>if k=true then ex σs h1 else ey σs h1) μ h H D:=by
  dsimp only[tst] at p ⊢;cases er:ec σs h with
  |stuck=>rw[er] at p;exact p
  |exc c h'=>rw[er] at p;exact p
  |ok x h' =>
   rw[er] at p;simp only[R.bind_ok,R.st_ok] at p ⊢;cases eb:zA x with
   |none=>rw[eb] at p;exact p.elim
   |some k=>rw[eb] at p;exact p
 refine⟨μ,h,σs,rel,rst,ra,(PoS.st p').imp λk μ1 h1 H1 ⟨ex1,rel1,p1⟩=>?_⟩;cases k with
 |true=>exact⟨μ1,h1,σs,rel1,rst.ext ex1,ra,p1⟩
 |false=>exact⟨μ1,h1,σs,rel1,rst.ext ex1,ra,p1⟩
theorem s_set{tg:Tg}(c:Cs X Pm ct n E N sc)(ht:zv zas N sc tg b=true)(ha:PE X a (lE ct (λ_=>True) E ea))(hs:swapsWith a (some b) pos.line X.env=pure false)(hw:swappedStores [b] a X.env=pure none) :
  PS X (.Assign [b] a pos) (lS ct (λ_=>True) E λσ h=>(ea σ h).st λv h1=>yt (Yq tg v σ) λσ1=>.next σ1 h1):=by
 refine PS.imp (zbv ha (sG (ct:=ct) c.cc.nm c.cc.sc c.cc.nd c.cc.calm (λx _=>c.fn x) tg b ht) hs hw (by rw[Q3 ht [] X.env];rfl)) λD σ H q=>?_;obtain⟨μ,h,σs,rel,rst,ra,p⟩:=q;refine lE.st rel rst ra p λm v μ1 h1 H1 ex rel1 rst1 rv p1=>?_;obtain⟨σ1,e,p2⟩:=PoS.opt p1;exact⟨μ1,h1,σs,m,σ1,rel1,rst1,rv,e,λσ' rst'=>p2 μ1 H1 σ' (Ext.refl _ _ _) rel1 rst'⟩
theorem YaZ{o i : Expr}{env : Env}(hp : Za i=true) : ∀ v, assign (.Subscript o i pos) env v=(do
   let ov<-holding [v] (eval o env)
   let iv<-holding [v,ov] (eval i env)
   standAt pos
   holding [v,ov,iv] (setItem ov iv v)
   release [v,ov,iv] []):=by
 intro v;cases i <;> first|rfl|(simp[Za] at hp)
theorem YbF{o i:Expr}(ha:PE X a (lE ct Ra E ea))(ho:PE X o (lE ct Ra E eb))(hi:PE X i (lE ct Ra E ec))(hp:Za i=true) :
  PS X (.Assign [.Subscript o i p2] a pos) (lS ct Ra E λσ h=>(ea σ h).st λv h1=>(eb σ h1).st λx h2=>(ec σ h2).st λy h3 =>
   match x with
   |.ref a=>yt (Ye h3 a) λxs=>yt (qc y) λk=>yt (ixM xs.length k) λj=>.next σ (yf h3 a (xs.set j v))
   |_=>.stuck):=by
 refine PS.imp (zbv ha (Qcc ho hi QbJ (YaZ hp)) (show swapsWithSole [Expr.Subscript o i p2] a pos.line X.env=pure false from Qb5 (e:=a) (t:=.Subscript o i p2) (l:=pos.line) (env:=X.env) (λ_ _ _ _=>rfl) (λ_ _ _ _=>rfl) (λ_ _ _ _ _=>rfl)) (by cases a <;> rfl) rfl) λD σ H q=>?_;obtain⟨μ,h,σs,rel,rst,ra,p⟩:=q;refine lE.st rel rst ra p λm v μ1 h1 H1 ex1 rel1 rst1 rv p1=>?_;refine lE.st rel1 rst1 ra p1 λm2 v2 μ2 h2 H2 ex2 rel2 rst2 rv2 p2=>?_;refine lE.st rel2 rst2 ra p2 λm3 v3 μ3 h3 H3 ex3 rel3 rst3 rv3 p3=>?_;cases m2 with
 |ref i0 =>
  obtain⟨xs,e1,p4⟩:=PoS.opt p3;obtain⟨k,e2,p5⟩:=PoS.opt p4;obtain⟨j,e3,p6⟩:=PoS.opt p5;have:=Yg e2;subst this;obtain⟨b',vs,eb',hb,rs⟩:=rel3.lst e1;have rv2':=rv2.ext ex3;simp only[RV] at rv2';obtain⟨b0,eb0,rfl⟩:=rv2';rw[eb'] at eb0;cases eb0;have e4:=YF e1;have ex4:=Ext.set (H:=H3) rel3 eb' e4 (λz=>nomatch z) (.lst (xs.set j m)) (.lst (vs.set j v));refine⟨b',vs,k,j,rfl,zk rv3,hb,by rw[rs.length,<- ybL];exact e3,?_⟩;refine p6 μ3 _ σ ex4 (rel3.set eb' e4 (λz=>nomatch z) ⟨_,qb,?_⟩) (rst3.ext ex4);exact RVs.set (((rv.ext ex2).ext ex3).ext ex4) j (rs.ext ex4)
 |f _=>exact p3.elim
 |tup _=>exact p3.elim
 |exc _=>exact p3.elim
theorem ZaQ{μ:List Addr}{L:Addr->Prop}{H:Hp}{f:String}{m:MV}{v:V}(r:RV ct μ L H m v):∀{fs:List (String×MV)} {gs:List (Str×V)},gs.map xq=fs.map (λp=>Str.ofString p.1)->RVs ct μ L H (fs.map wl) (gs.map wl) ->
  (zD (Str.ofString f) v gs).map xq=(qaq f m fs).map (λp=>Str.ofString p.1)/\RVs ct μ L H ((qaq f m fs).map wl) ((zD (Str.ofString f) v gs).map wl)
 |[],gs,h1,h2=>by
  cases gs with
  |nil=>exact⟨rfl,RVs.cons r RVs.nil⟩
  |cons p gs=>simp at h1
 |(k,y)::fs,gs,h1,h2=>by
  cases gs with
  |nil=>simp at h1
  |cons p gs =>
   obtain⟨k',u⟩:=p;simp only[xc,List.cons.injEq] at h1;obtain⟨rfl,h3⟩:=h1;simp only[xc,RVs] at h2;obtain⟨w,t,e,q1,q2⟩:=h2;cases e;unfold zD qaq;by_cases hk:k=f
   ·subst hk;rw[if_pos rfl,if_pos rfl];exact⟨by simp[h3],by simp only[xc];exact RVs.cons r q2⟩
   ·rw[if_neg hk,if_neg (λz=>hk (QF z))];obtain⟨i1,i2⟩:=ZaQ (f:=f) r h3 q2;exact⟨by simp[i1],by simp only[xc];exact RVs.cons q1 i2⟩
theorem YbK{o:Expr}{f:String}(T:Txt X.prog X.w X.K X.mg X.base Pm ct n)(ha:PE X a (lE ct Ra E ea))(ho:PE X o (lE ct Ra E eb)) :
  PS X (.Assign [.Attribute o (Str.ofString f) p2] a pos) (lS ct Ra E λσ h=>(ea σ h).st λv h1=>(eb σ h1).st λx h2=>match x with
   |.ref a=>match h2[a]? with
    |some (.obj c fs)=>if Pm.fok c f=true/\fs.length<100 then .next σ (h2.set a (.obj c (qaq f v fs))) else .stuck
    |_=>.stuck
   |_=>.stuck):=by
 refine PS.imp (zcq ho ha (Qb5 (λ_ _ _ _=>rfl) (λ_ _ _ _=>rfl) (λ_ _ _ _ _=>rfl))) λD σ H q=>?_;obtain⟨μ,h,σs,rel,rst,ra,p⟩:=q;refine lE.st rel rst ra p λm v μ1 h1 H1 ex1 rel1 rst1 rv p1=>?_;refine lE.st rel1 rst1 ra p1 λm2 v2 μ2 h2 H2 ex2 rel2 rst2 rv2 p2=>?_;cases m2 with
 |ref i0 =>
  dsimp only at p2;split at p2
  next c fs ec =>
   split at p2
   next ok =>
    obtain⟨ok1,ok2⟩:=ok;obtain⟨b,dx,gs,eb,hb,q1,q2⟩:=rel2.obj ec;simp only[RV] at rv2;obtain⟨b0,eb0,rfl⟩:=rv2;rw[eb] at eb0;cases eb0;obtain⟨t1,t2⟩:=T.fok c f ok1;have hl:gs.length=fs.length:=by have:=congrArg xp q1;simpa using this
    have ex3:=Ext.set (H:=H2) rel2 eb ec (λz=>nomatch z) (.obj c (qaq f m fs)) (.ins (ct c) dx (zD (Str.ofString f) v gs));refine⟨b,ct c,dx,gs,rfl,hb,t1,t2,by lia,?_⟩;obtain⟨s1,s2⟩:=ZaQ (f:=f) ((rv.ext ex2).ext ex3) q1 (q2.ext ex3);exact p2 μ2 _ σ ex3 (rel2.set eb ec (λz=>nomatch z) ⟨dx,_,qb,s1,s2⟩) (rst2.ext ex3)
   next=>exact p2.elim
  next=>exact p2.elim
 |f _=>exact p2.elim
 |tup _=>exact p2.elim
 |exc _=>exact p2.elim
end
end
end SD
end
section
namespace SD
open PySem PySem.Spec PyProof.Rows L2 L3 M3 MP
section
variable {ct:Tx} {Pm:Prog} {n:Nat} {X:Cx} {E:XK} {N:List Str} {sc:Scope}
noncomputable abbrev yes:L2.St->Prop:=λ_=>True
section
variable {ea eb ec:MSt->MH->R MV} {a b c:Expr} {pos p2:Pos}
theorem Yb5{st:Stmt}{rest:List Stmt}{ex ey:MSt->MH->RS}(h1:PS X st (lS ct yes E ex))(h2:PSs X rest (lS ct yes E ey)):PSs X (st::rest) (lS ct yes E λσ h=>(ex σ h).bind λσ1 h1=>ey σ1 h1):=PSs.imp (qaN h1 h2) λD σ H q=>by
 obtain⟨μ,h,σs,rel,rst,ra,p⟩:=q;refine⟨μ,h,σs,rel,rst,ra,?_⟩;dsimp only at p;cases er:ex σs h with
 |next σ' h' =>
  rw[er] at p;intro μ' H' σv e1 r1 q1;exact⟨μ',h',σ',r1,q1,trivial,PoS.start e1 p⟩
 |ret m h'=>rw[er] at p;exact p
 |brk σ' h'=>rw[er] at p;exact p
 |cnt σ' h'=>rw[er] at p;exact p
 |exc c h'=>rw[er] at p;exact p
 |stuck=>rw[er] at p;exact p
theorem s_nil:PSs X [] (lS ct yes E λσ h=>.next σ h):=PSs.imp zbb λD σ H q=>by
 obtain⟨μ,h,σs,rel,rst,ra,p⟩:=q;exact p μ H σ (Ext.refl _ _ _) rel rst
theorem Ycf:PS X (.Pass pos) (lS ct yes E λσ h=>.next σ h):=PS.imp QbW λD σ H q=>by
 obtain⟨μ,h,σs,rel,rst,ra,p⟩:=q;exact p μ H σ (Ext.refl _ _ _) rel rst
theorem ZbQ{cn:String}{v:Expr}{es:List Expr}{ev:MSt->MH->R (List MV)}{np cp:Pos}(c:Cs X Pm ct n E N sc)(hx:Pm.excs cn=true)(hg:gl sc (Str.ofString cn)=true)(ha:PA X (v::es) (lA ct yes E ev))(hpl:∀ e∈v::es,Za e=true)(hl:∀ σ h xs h',ev σ h=.ok xs h'->xs.length<=sizeLine) :
  PS X (.Raise (some (.Call (.Name (Str.ofString cn) np) (v::es) [] cp)) none pos) (lS ct yes E λσ h=>(ev σ h).st λ_ h1=>.exc cn h1):=by
 obtain⟨g1,g2,g3⟩:=yq c.cc.sc hg;obtain⟨x1,x2,x3⟩:=c.cc.txt.excs cn hx;refine PS.imp (ybE c.cc.calm c.ex c.tk x1 g1 x2 ha g2 (yd (hpl v (by simp))) (yr λe he=>hpl e (by simp[he]))) λD σ H q=>?_;obtain⟨μ,h,σs,rel,rst,ra,p⟩:=q;refine⟨μ,h,σs,rel,rst,ra,?_⟩;dsimp only at p;cases er:ev σs h with
 |stuck=>rw[er] at p;exact p
 |exc c h'=>rw[er] at p;exact p
 |ok xs h' =>
  rw[er] at p;intro μ1 H1 ex rel1 vs rvs;exact⟨by rw[rvs.length];exact hl _ _ _ _ er,by have z:=p μ1 H1 ex rel1 none (XD.mk x3);rw[QX x3] at z;exact z⟩
set_option tactic.hygienic true in
theorem ZbC{cn:String}{v:Expr}{np cp:Pos}(c:Cs X Pm ct n E N sc)(hx:(Pm.exci cn).isSome=true)(hg:gl sc (Str.ofString cn)=true)(ha:PE X v (lE ct yes E ea))(hpl:Za v=true) :
  PS X (.Raise (some (.Call (.Name (Str.ofString cn) np) [v] [] cp)) none pos) (lS ct yes E λσ h=>(ea σ h).st λv h1=>yt (qc v) λi=>if 0<=i/\i<1000000 then yt (Pm.exci cn) λg=>(calm (run Pm n g [v] h1)).st λ_ _=>.exc (xn cn i.toNat) h1 else .stuck):=by
 obtain⟨g1,g2,g3⟩:=yq c.cc.sc hg;obtain⟨g,hx⟩:=Wg.mp hx;obtain⟨⟨fI,fd,Z⟩,m,nd,_⟩:=c.cc.txt.exci cn g hx;refine PS.imp (Qbg c.cc.calm c.ex c.tk Z g1 m ha g2 (yd hpl)) λD σ H q=>?_;obtain⟨μ,h,σs,rel,rst,ra,p⟩:=q;refine lE.st rel rst ra p λm1 v1 μ1 h1 H1 ex1 rel1 rst1 rv1 p1=>?_;obtain⟨i,e2,p2⟩:=PoS.opt p1;have:=Yg e2;subst this;split at p2
 next hi =>
  rw[hx,yw] at p2;cases er:run Pm n g [.f (.int i)] h1 with
  |stuck=>rw[er] at p2;exact p2.elim
  |exc c' h'=>rw[er] at p2;exact p2.elim
  |ok x h' =>
   rw[er] at p2;have hr:Room 2 X.A:=by
    cases n with
    |zero=>cases er
    |succ k=>exact c.cc.room.mono (by lia)
   refine⟨i,zk rv1,by lia,hr,λD hD=>?_⟩;have z:=p2 μ1 _ (Ext.new rel1 hD (.xd [("line",.int i)])) (rel1.new hD _) (some D) (by
    unfold XD;rw[qbc nd];exact⟨YO rel1 hD,by rw[qb,Wy hi.1]⟩)
   rw[ZbK nd] at z;exact z
 next=>exact p2.elim
theorem s_for{tg:Tg}{t iter:Expr}{body:List Stmt}{it:String}{ev:MSt->MH->R (List MV)}{ex:MSt->MH->RS}(c:Cs X Pm ct n E N sc)(hi:PI X t iter (lI ct yes E ev it))(ht:zv zas N sc tg t=true)(hb:PSs X body (lS ct yes E ex))(hpl:Za iter=true) :
  PS X (.For t iter body [] pos) (lS ct yes E λσ h=>(ev σ h).st λxs h1=>yt (itV it xs h1) λp=>Qp p.2 (Yl tg ex) p.1 σ h1):=by
 refine PS.imp (ycr c.own c.cc.calm hi (sG (ct:=ct) c.cc.nm c.cc.sc c.cc.nd c.cc.calm (λx _=>c.fn x) tg t ht) hb (zF hpl)) λD σ H q=>?_;obtain⟨μ,h,σs,rel,rst,ra,p⟩:=q;refine⟨μ,h,σs,rel,rst,ra,(PoS.st p).imp λxs μ1 h1 H1 ⟨ex1,rel1,p1⟩=>?_⟩;obtain⟨⟨items,g⟩,e1,p2⟩:=PoS.opt p1;refine⟨items,g,e1,rel1,λJ wk=>?_⟩;dsimp only at p2;refine⟨λi m σ' H'=>∃ μ' h' σs',m=items.length-i/\i<=items.length/\Ext μ1 h1 H1 μ' h' H'/\Rel ct μ' h' H'/\RelSt ct μ' h' H' σ' σs'/\PoS ct E (Qp g (Yl tg ex) (items.drop i) σs' h') μ' h' H' D,?_,?_⟩
 ·exact⟨items.length,μ1,h1,σs,by simp,Wp _,Ext.refl _ _ _,rel1,rst.ext ex1,by simpa using p2⟩
 ·rintro i m σ' H' ⟨μ',h',σs',rfl,hi',ex2,rel',rst',p3⟩;by_cases lt:i<items.length
  ·right
   have ed:items.drop i=items[i]::items.drop (i+1):=uv lt;rw[ed] at p3;simp only[Qp] at p3;split at p3
   next gd =>
    obtain⟨w1,_⟩:=wk i μ' h' H' ex2 rel' gd;obtain⟨go,yl⟩:=w1 lt;refine⟨go,λσ2 H2=>∃ μ2 h2 σ2s,Ext μ1 h1 H1 μ2 h2 H2/\Rel ct μ2 h2 H2/\RelSt ct μ2 h2 H2 σ2 σ2s/\PoS ct E (Qp g (Yl tg ex) (items.drop (i+1)) σ2s h2) μ2 h2 H2 D,λσ2 H2 ⟨μ2,h2,σ2s,e2,r2,q2,p4⟩=>⟨items.length-(i+1),by lia,μ2,h2,σ2s,rfl,lt,e2,r2,q2,p4⟩,λx H2 y=>?_⟩;obtain⟨mx,em,ex3,rel2,rx⟩:=yl x H2 y;have emx:mx=items[i]:=by simpa[lt] using em.symm
    subst emx;have p4:=PoS.start ex3 p3;unfold Yl at p4;cases eb:Yq tg items[i] σs' with
    |none=>rw[eb] at p4;exact p4.elim
    |some σ2s =>
     rw[eb] at p4;simp only[yw] at p4;refine⟨μ',h',σs',items[i],σ2s,rel2,rst'.ext ex3,rx,eb,λσ2 rst2=>?_⟩;refine⟨μ',h',σ2s,rel2,rst2,trivial,?_⟩;cases er:ex σ2s h' with
     |next σ3 h3 =>
      rw[er] at p4;intro μ3 H3 σv e3 r3 q3;exact⟨μ3,h3,σ3,(ex2.trans ex3).trans e3,r3,q3,PoS.start e3 p4⟩
     |cnt σ3 h3 =>
      rw[er] at p4;intro μ3 H3 σv e3 r3 q3;exact⟨μ3,h3,σ3,(ex2.trans ex3).trans e3,r3,q3,PoS.start e3 p4⟩
     |brk σ3 h3=>rw[er] at p4;exact p4
     |ret m h3=>rw[er] at p4;exact p4
     |exc c h3=>rw[er] at p4;exact p4
     |stuck=>rw[er] at p4;exact p4
   next=>exact p3.elim
  ·left
   have hi2:i=items.length:=by lia
   subst hi2;rw[VB] at p3;simp only[Qp] at p3;split at p3
   next gd =>
    obtain⟨_,w2⟩:=wk items.length μ' h' H' ex2 rel' gd;exact⟨w2 rfl,p3 μ' H' σ' (Ext.refl _ _ _) rel' rst'⟩
   next=>exact p3.elim
theorem s_frz{i:Nat}{rest:List Stmt}{ey:MSt->MH->RS}(h2:PSs X rest (lS ct yes E ey)):PSs X rest (lS ct yes E λσ h=>(yt ((σ[i]?).join) λv=>(QD v h).st λx h1=>.next (σ.set i (some x)) h1).bind λσ1 h1=>ey σ1 h1):=PSs.imp h2 λD σ H q=>by
 obtain⟨μ,h,σs,rel,rst,ra,p⟩:=q;dsimp only at p;cases e:(σs[i]?).join with
 |none=>rw[e] at p;exact p.elim
 |some m =>
  rw[e] at p;simp only[yw] at p;have e':σs[i]?=some (some m):=by
   cases q:σs[i]? with
   |none=>rw[q] at e;cases e
   |some z=>rw[q] at e;exact congrArg some e
  obtain⟨v,ev,rv⟩:=rst.at_ i m e';cases ef:QD m h with
  |stuck=>rw[ef] at p;exact p.elim
  |exc c h' =>
   unfold QD at ef;cases ed:ZM h m with
   |none=>rw[ed] at ef;cases ef
   |some x=>rw[ed] at ef;cases ef
  |ok x h' =>
   rw[ef] at p;simp only[R.st_ok,RS.bind_next] at p;have po:Po ct E (QD m h) μ h H λy μ1 h1 H1=>y=x/\h1=h':=by rw[ef];exactλμ' H' _ _=>⟨rfl,rfl⟩
   obtain⟨y,h'',ex1,rel1,rv1,rfl,rfl⟩:=YbD rel rv po;refine⟨μ,h'',σs.set i (some (.f y)),rel1,?_,trivial,PoS.start ex1 p⟩;have r2:=(rst.ext ex1).set i rv1;have:σ.set i (some v)=σ:=by
    apply uo;intro j;by_cases hj:i=j
    ·subst hj;rw[vc (Xa.mp ev).1,ev]
    ·rw[Ud hj]
   rw[this] at r2;exact r2
end
end
end SD
end
section
namespace SD
open PySem PySem.Spec PyProof.Rows L2 L3 M3 MP
noncomputable def swB(sc cs:Scope)(t:Str)(tp vp:Pos):Bool:=sc.names.lookup t==some .local&&tp.line==vp.line&&!(cs.names.any λ(n,k)=>n==t&&(k == .local||k == .cell))
theorem ybe{env:Env}(kd:env.scope.kind=.function)(e:Expr)(gs:List Comprehension)(cs:Scope)(vp:Pos)(t:Str)(tp:Pos)(l:Nat):swapsWith (.ListComp e gs cs vp) (some (.Name t tp)) l env=pure (swB env.scope cs t tp vp):=by
 have hb:(env.blockKind==ScopeKind.function)=true:=by
  unfold Env.blockKind;rw[kd];rfl
 show(pure (env.blockKind == .function&&env.kindOf t==some .local&&tp.line==vp.line&&!(cs.names.any λ(n,k)=>n==t&&(k == .local||k == .cell))):Sem Bool)=_;rw[hb,Xu];rfl
noncomputable def twoN:List Expr->Option (Str×Pos×Str×Pos)
 |[.Name x px,.Name y py]=>some (x,px,y,py)
 |_=>none
noncomputable def qb4:Expr->Option (List Expr)
 |.Tuple es _ _=>some es
 |_=>none
noncomputable def parForm:Stmt->Option ((Str×Pos×Str×Pos)×Expr×Expr)
 |.Assign ts v _=>(zaT ts).bind λt=>(qb4 t).bind λes=>(qb4 v).bind λvs=>(twoN es).bind λp=>(twoL vs).map λq=>(p,q)
 |_=>none
theorem nn{α:Type}{x:α}{P:Prop}(h:(none:Option α)=some x):P:=nomatch h
noncomputable def Zu:Expr->Option Str
 |.Name x _=>some x
 |_=>none
theorem ZN{e:Expr}{x:Str}(h:Zu e=some x):∃ p,e=.Name x p:=by
 cases e with
 |Name y p =>
  have h:some y=some x:=h;cases h;exact⟨p,rfl⟩
 |_=>exact nn h
noncomputable def QbV:Expr->Option (Str×Str)
 |.Call f [a] [] _=>(Zu f).bind λz=>(Zu a).map λn=>(z,n)
 |_=>none
noncomputable def asAsg:Stmt->Option (Str×Str×Str)
 |.Assign [t] v _=>(Zu t).bind λy=>(QbV v).map λq=>(y,q.1,q.2)
 |_=>none
noncomputable def Zcd(bd:List Stmt):ExceptHandler->Option (List Stmt×Str×Str×Str×Str×Str)
 |.ExceptHandler (some t) (some nm) [s] _=>(Zu t).bind λx=>(asAsg s).map λq=>(bd,x,nm,q)
 |_=>none
noncomputable def tryForm:Stmt->Option (List Stmt×Str×Str×Str×Str×Str)
 |.Try bd [h] [] [] _=>Zcd bd h
 |_=>none
noncomputable def asStr:Expr->Option Str
 |.Constant (.str g) _ _=>some g
 |_=>none
noncomputable def za6:Stmt->Option (Str×Str×Str)
 |.Assign [y] (.Tuple [.Constant (.str g) _ _,n] _ _) _=>(Zu y).bind λy=>(Zu n).map λn=>(y,g,n)
 |_=>none
theorem Ybk{s:Stmt}{y g n:Str}(h:za6 s=some (y,g,n)):∃ p1 k p2 p3 k2 p4 p5,s=.Assign [.Name y p1] (.Tuple [.Constant (.str g) k p2,.Name n p3] k2 p4) p5:=by
 unfold za6 at h;split at h
 ·obtain⟨y',e1,h⟩:=Xb.mp h;obtain⟨n',e2,h⟩:=ub.mp h;cases h;obtain⟨p1,rfl⟩:=ZN e1;obtain⟨p2,rfl⟩:=ZN e2;exact⟨_,_,_,_,_,_,_,rfl⟩
 ·cases h
noncomputable def yah:Stmt->Option (List Stmt×Str×Str×Str×Str×Str)
 |.Try bd [.ExceptHandler (some t) (some nm) [s] _] [] [] _=>(Zu t).bind λx=>(za6 s).map λq=>(bd,x,nm,q)
 |_=>none
theorem Ybl{st:Stmt}{bd:List Stmt}{x nm y g nm':Str}(h:yah st=some (bd,x,nm,y,g,nm')):∃ p1 p2 k p3 p4 k2 p5 p6 p7 pos,st=.Try bd [.ExceptHandler (some (.Name x p1)) (some nm) [.Assign [.Name y p2] (.Tuple [.Constant (.str g) k p3,.Name nm' p4] k2 p5) p6] p7] [] [] pos:=by
 unfold yah at h;split at h
 ·obtain⟨x',e1,h⟩:=Xb.mp h;obtain⟨⟨y',g',n'⟩,e2,h⟩:=ub.mp h;cases h;obtain⟨p1,rfl⟩:=ZN e1;obtain⟨_,_,_,_,_,_,_,rfl⟩:=Ybk e2;exact⟨_,_,_,_,_,_,_,_,_,_,rfl⟩
 ·cases h
noncomputable def yK:Stmt->Option (Str×Expr)
 |.Raise (some (.Call (.Name x _) [v] [] _)) none _=>some (x,v)
 |_=>none
theorem yaR{s:Stmt}{x:Str}{v:Expr}(h:yK s=some (x,v)):∃ p1 p2 p3,s=.Raise (some (.Call (.Name x p1) [v] [] p2)) none p3:=by
 unfold yK at h;split at h
 ·cases h;exact⟨_,_,_,rfl⟩
 ·cases h
noncomputable def Ya1:ME->Bool
 |.comp ..=>true
 |_=>false
noncomputable def ZaE:Expr->Expr->Bool
 |.Tuple ..,.Tuple ..=>true
 |_,_=>false
noncomputable def ybw(tg:Tg)(t:Expr)(N:List Str)(sc:Scope):Bool:=match tg with
 |.nm i=>match Zu t with
  |some x=>N[i]? == some x&&sc.names.lookup x==some .local
  |none=>false
 |_=>false
section
variable (Pm:Prog)
mutual
noncomputable def zbK(ms:MS)(N:List Str)(sc:Scope)(st:Stmt):Bool:=match ms,st with
 |.expr e,.Expr v _=>!(qR v)&&Ze Pm e N sc v
 |.ite c a b,.If t x y _=>okT c&&Ze Pm c N sc t&&QS a N sc x&&QS b N sc y
 |.set tg e,.Assign [t] v _=>ybw tg t N sc&&!(qR v)&&Ze Pm e N sc v
 |_,_=>false
noncomputable def QS(mss:List MS)(N:List Str)(sc:Scope)(sts:List Stmt):Bool:=match mss with
 |[]=>sts.isEmpty
 |m::ms=>match sts with
  |[st]=>ms.isEmpty&&zbK m N sc st
  |_=>false
end
mutual
noncomputable def zbH(ms:MS)(N:List Str)(sc:Scope)(st:Stmt):Bool:=match ms,st with
 |.set tg e,.Assign [t] v _=>zv zas N sc tg t&&Ze Pm e N sc v&&!(ZaE t v)&&(if qR v then Ya1 e else true)
 |.setSub o i e,.Assign [.Subscript x y _] v _=>Ze Pm e N sc v&&Ze Pm o N sc x&&Ze Pm i N sc y
 |.setFld o n e,.Assign [.Attribute x m _] v _=>m==Str.ofString n&&Ze Pm e N sc v&&Ze Pm o N sc x
 |.expr e,.Expr v _=>!(qR v)&&Ze Pm e N sc v
 |.ret e,.Return (some v) _=>Ze Pm e N sc v
 |.retN,.Return none _=>true
 |.ite c a b,.If t x y _=>okT c&&Ze Pm c N sc t&&ZD a N sc x&&ZD b N sc y
 |.for_ tg it src body,.For t iter bd [] _=>Za iter&&zv zas N sc tg t&&ZD body N sc bd &&
   (if it == "seq" then Zar Pm src N sc iter else if it == "keys" then false else if it == "items" then false else if it == "enum1" then false else qam t it iter&&gl sc (Str.ofString it)&&yi Pm src N sc (Yu iter))
 |.raise c es,.Raise (some (.Call (.Name x _) (v::vs) [] _)) none _=>x==Str.ofString c&&gl sc x&&Pm.excs c&&decide ((v::vs).length<1000)&&yi Pm es N sc (v::vs)
 |.raiseX c e,st=>match yK st with
  |some (x,v)=>x==Str.ofString c&&gl sc x&&(Pm.exci c).isSome&&Ze Pm e N sc v
  |none=>false
 |.tryT body ei dst tag,st=>match yah st with
  |some (bd,x,nm,y,g,nm')=>x==("DotError":Str)&&gl sc x&&N[ei]? == some nm&&sc.names.lookup nm==some .local&&nm'==nm&&zaS sc nm&&N[dst]? == some y&&ya0 zas sc y&&decide (ei≠dst)&&Pm.xt&&g==tag&&QS Pm body N sc bd
  |none=>false
 |.boom,_=>true
 |.pass,.Pass _=>true
 |_,_=>false
noncomputable def ZD(mss:List MS)(N:List Str)(sc:Scope)(sts:List Stmt):Bool:=match mss with
 |[]=>sts.isEmpty
 |.frzS _::ms=>ZD ms N sc sts
 |m::ms=>match sts with
  |st::sts=>zbH m N sc st&&ZD ms N sc sts
  |[]=>false
end
end
section
variable {ct:Tx} {Pm:Prog} {n:Nat}
section
variable {X:Cx} {E:XK} {N:List Str} {sc:Scope}
theorem Qg{st:Stmt}{ex ex':MSt->MH->RS}{Ra:L2.St->Prop}(p:PS X st (lS ct Ra E ex))(h:∀ σ hh,ex' σ hh=ex σ hh):PS X st (lS ct Ra E ex'):=by
 have:ex'=ex:=funext λσ=>funext λhh=>h σ hh;rw[this];exact p
theorem Yw{st:List Stmt}{ex ex':MSt->MH->RS}{Ra:L2.St->Prop}(p:PSs X st (lS ct Ra E ex))(h:∀ σ hh,ex' σ hh=ex σ hh):PSs X st (lS ct Ra E ex'):=by
 have:ex'=ex:=funext λσ=>funext λhh=>h σ hh;rw[this];exact p
theorem zcc(fz:Bool){i:Nat}{x:Str}{elt iter tg:Expr}{ifs:List Expr}{cs:Scope}{N':List Str}{ncv:Nat}{js:List Nat}{it:String}{t:Tg}{es:MSt->MH->R (List MV)}{tc:MSt->MH->R Bool}{te:MSt->MH->R MV}{pos tp vp:Pos}(c:Cs X Pm ct n E N sc)(hi0:X.N[i]?=some x)(hx:Loc X.env.scope x)
  (hok:qv X.env.scope X.N cs N' ncv js=true) (hi:PI X tg iter (lI ct yes E es it)) (hg:∀ C s3 H ex,PG (cxC X cs N' C s3 H ex) tg (lG ct t)) (hif:∀ C s3 H ex,PIf (cxC X cs N' C s3 H ex) ifs (lT ct (λ_=>True) E0 tc)) (helt:∀ C s3 H ex,PE (cxC X cs N' C s3 H ex) elt (lE ct (λ_=>True) E0 te)) (hpl:Za iter=true)
  (hsw:swapsWith (.ListComp elt [⟨tg,iter,ifs,0⟩] cs vp) (some (.Name x tp)) pos.line X.env=pure true) :
  PS X (.Assign [.Name x tp] (.ListComp elt [⟨tg,iter,ifs,0⟩] cs vp) pos) (lS ct yes E λσ h=>((es σ h).bind λxs h1=>opt (itV it xs h1) λp=>(Qi p.2 (ql t tc te) p.1 [] (MP.stM ncv js σ) h1).bind λacc h3=>Zk fz acc h3).st λv h1=>yt (Yq (.nm i) v σ) λσ1=>.next σ1 h1):=by
 refine PS.imp (ZbO c.cc.nd hi0 hx N' ncv js hok c.cc.calm hi hg hif helt hsw (zF hpl) (.inl (c.fn x))) λD σ H q=>?_;obtain⟨μ,h,σs,rel,rst,ra,p⟩:=q;refine Yas fz σ H _ (lE.st (ev:=λσ h=>(es σ h).bind λxs h1=>opt (itV it xs h1) λp=>(Qi p.2 (ql t tc te) p.1 [] (MP.stM ncv js σ) h1).bind λacc h3=>Zk fz acc h3) rel rst ra p λm v μ1 h1 H1 ex rel1 rst1 rv p1=>?_);obtain⟨σ1,e,p2⟩:=PoS.opt p1;simp only[Yq,Option.some.injEq] at e;subst e;exact p2 μ1 H1 _ (Ext.refl _ _ _) rel1 (rst1.set i rv)
theorem Rel.same{μ:List Addr}{h:MH}{H H':Hp}(s:Same H H')(rel:Rel ct μ h H):Rel ct μ h H'/\Ext μ h H μ h H':=by
 have ex:Ext μ h H μ h H':=⟨⟨[],by simp⟩,λb o e _=>s b o e,λb l=>.inl l⟩;refine⟨⟨rel.len,rel.nd,λb hb=>let ⟨o,e⟩:=rel.has b hb;⟨o,s b o e⟩,λi b c e1 e2=>?_⟩,ex⟩;have:=CellOk.to (ν:=[]) ex.let (b:=b) (λ_=>by
  obtain⟨o,e⟩:=rel.has b (Xc e1);rw[e];exact s b o e) (rel.cells i b c e1 e2)
 simpa using this
theorem Yca{ei dst:Nat}{nm y tag:Str}{bd:List Stmt}{ex:MSt->MH->RS}{p0 p1 p2 p4 p5 p6 p7 pos:Pos}{k k2}(c:Cs X Pm ct n E N sc)(hw:Pm.xt=true)(hi:N[ei]?=some nm)(hk:sc.names.lookup nm=some .local)(hv:zaS sc nm=true)(hd:N[dst]?=some y)(hy:ya0 zas sc y=true)(hg:gl sc "DotError"=true)(ne:ei≠dst)
  (hb:∀ pins σ0 E',PSs (cxT X pins σ0 E') bd (lS ct (λσ=>σ=σ0) E' ex)) :
  PS X (.Try bd [.ExceptHandler (some (.Name "DotError" p1)) (some nm) [.Assign [.Name y p2] (.Tuple [.Constant (.str tag) k p0,.Name nm p4] k2 p5) p6] p7] [] [] pos)
   (lS ct yes E λσ h=>RS.caught (λc h1=>if(Pm.xsubs (xcl c) (xcl c)).isSome=true/\ei<σ.length then .next ((σ.set dst (some (.tup [.f (.str tag),.exc c]))).set ei none) h1 else .stuck) (ex σ h)):=by
 obtain⟨qB,mB,wf⟩:=c.cc.txt.xdot hw;obtain⟨g1,g2,g3⟩:=yq c.cc.sc hg;have hiX:X.N[ei]?=some nm:=by rw[c.cc.nm];exact hi
 have hdX:X.N[dst]?=some y:=by rw[c.cc.nm];exact hd
 have hkX:X.env.scope.names.lookup nm=some .local:=by rw[c.cc.sc];exact hk
 have hyL:Loc X.env.scope y:=by
  unfold ya0 at hy;simp only[Xu,Xi,beq_iff_eq] at hy;rw[c.cc.sc];exact hy
 have hvv:=hv;unfold zaS at hvv;simp only[Wa,Xi,beq_iff_eq,Vg] at hvv;refine PS.imp (ybN (tag:=tag) (i:=ei) (j:=dst) (B:=ct "DotError") (tb:=λσ E=>lS ct (λσ'=>σ'=σ) E ex) c.stk c.fr c.cc.nd hiX hkX hdX hyL qB g1 mB (λpins σ E=>hb pins σ E) hvv.1.2 hvv.2 (.inl (c.fn y)) g2) λD σ H q=>?_;obtain⟨μ,h,σs,rel,rst,ra,p⟩:=q;dsimp only at p;cases er:ex σs h with
 |exc cn h1 =>
  rw[er] at p;refine⟨λcv d H'=>cv=.ref (ct (xcl cn))/\∃ μ',Ext μ h H μ' h1 H'/\Rel ct μ' h1 H'/\XD (Liv μ' h1) H' cn d,⟨μ,h,σs,rel,rst,rfl,by rw[er];exactλμ' H' e1 r1 d x=>⟨rfl,μ',e1,r1,x⟩⟩,λC d H' ⟨eC,μ',e1,r1,xd⟩=>?_⟩;cases eC;simp only[Ya2] at p;split at p
  next hlt =>
   obtain⟨b0,eb⟩:=Wg.mp hlt.1;obtain⟨w1,w2⟩:=wf (xcl cn) b0 eb;refine⟨w1,w2,λx a hx ha nax=>?_⟩;have hlt':ei<σ.length:=by rw[rst.len];exact hlt.2
   have r0:=r1.new ha (.tup [.str tag,.ref x]);have e0:=Ext.new r1 ha (.tup [.str tag,.ref x]);have hx0:upd H' a (.tup [.str tag,.ref x]) x=none:=by rw[Qa (Ne.symm nax)];exact hx
   obtain⟨r2,e2'⟩:=Rel.same (H':=upd (upd H' a (.tup [.str tag,.ref x])) x (.ext (Ya4 (ct (xcl cn)) x d))) (λb o e=>by rw[Qa (Zd e hx0)];exact e) r0;have e2:=e0.trans e2';have nl:¬ Liv μ' h1 x:=λ⟨i,cc,ei',_⟩=>by
    obtain⟨o,ho⟩:=r1.has x (Xc ei');rw[hx] at ho;cases ho
   refine p μ' _ _ (e1.trans e2) r2 ?_;have rst2:=(rst.ext e1).ext e2;refine⟨by simp[rst.len],λj m ej=>?_⟩;by_cases hj:ei=j
   ·subst hj;rw[vc (by simpa using hlt.2)] at ej;cases ej
   ·rw[Ud hj] at ej;rw[Ud hj];by_cases hj2:dst=j
    ·subst hj2;have hl:dst<σs.length:=by
      have:=(Xa.mp ej).1;simpa using this
     rw[vc hl] at ej;cases ej;refine⟨.ref a,by rw[vc (by simp[rst.len];exact hl)],?_⟩;simp only[RV,RVs,RF];exact⟨a,_,rfl,YO r1 ha,by rw[Qa nax,qb],_,_,rfl,rfl,_,_,rfl,⟨x,d,rfl,nl,qb,xd.to e2.let⟩,rfl⟩
    ·rw[Ud hj2] at ej;obtain⟨v,ev,rv⟩:=rst2.at_ j m ej;exact⟨v,by rw[Ud hj2,Ud hj];exact ev,rv⟩
  next=>exact p.elim
 |next σ' h'=>rw[er] at p;exact⟨λ_ _ _=>False,⟨μ,h,σs,rel,rst,rfl,by rw[er];exact p⟩,λC d H' z=>z.elim⟩
 |ret m h'=>rw[er] at p;exact⟨λ_ _ _=>False,⟨μ,h,σs,rel,rst,rfl,by rw[er];exact p⟩,λC d H' z=>z.elim⟩
 |brk σ' h'=>rw[er] at p;exact⟨λ_ _ _=>False,⟨μ,h,σs,rel,rst,rfl,by rw[er];exact p⟩,λC d H' z=>z.elim⟩
 |cnt σ' h'=>rw[er] at p;exact⟨λ_ _ _=>False,⟨μ,h,σs,rel,rst,rfl,by rw[er];exact p⟩,λC d H' z=>z.elim⟩
 |stuck=>rw[er] at p;exact p.elim
theorem Cc.try(c:Cs X Pm ct n E N sc)(pins:List (Addr×Obj))(σ0:L2.St)(E':XK):Cc (cxT X pins σ0 E') Pm ct n (λσ=>σ=σ0) E' N sc :=
 ⟨c.cc.txt,c.cc.calm,c.cc.room,λσ hσ=>by subst hσ;exact Ya3 c.ex,c.cc.nm,c.cc.sc,c.cc.nd,c.cc.hK⟩
theorem zce{Ra:L2.St->Prop}:PSs X [] (lS ct Ra E λσ h=>.next σ h):=PSs.imp zbb λD σ H q=>by
 obtain⟨μ,h,σs,rel,rst,ra,p⟩:=q;exact p μ H σ (Ext.refl _ _ _) rel rst
theorem qb9{Ra:L2.St->Prop}{st:Stmt}{ex:MSt->MH->RS}(h1:PS X st (lS ct Ra E ex)):PSs X [st] (lS ct Ra E λσ h=>(ex σ h).bind λσ1 h1=>.next σ1 h1):=PSs.imp (zae h1) λD σ H q=>by
 obtain⟨μ,h,σs,rel,rst,ra,p⟩:=q;refine⟨μ,h,σs,rel,rst,ra,?_⟩;dsimp only at p;cases er:ex σs h <;> rw[er] at p <;> exact p
theorem yaL{t v:Expr}{env:Env}{lo:Str->Bool}{tg:Tg}(ht:zv lo N sc tg t=true)(hv:ZaE t v=false):swappedStores [t] v env=pure none:=by
 cases tg with
 |nm i =>
  cases t with
  |Name x p=>cases v <;> rfl
  |_=>simp[zv] at ht
 |tp ts =>
  cases t with
  |Tuple es k p=>cases v <;> first|rfl|(exact Vf hv)
  |_=>simp[zv] at ht
theorem Qcb{tg:Tg}{me:ME}{t v:Expr}{pos:Pos}(c:Cs X Pm ct n E N sc)(h1:zv zas N sc tg t=true)(h2:Ze Pm me N sc v=true)(h3:ZaE t v=false)(h4:(if qR v=true then Ya1 me else true)=true) :
  PS X (.Assign [t] v pos) (lS ct yes E λσ h=>(ya Pm (run Pm n) me σ h).st λv h1=>yt (Yq tg v σ) λσ1=>.next σ1 h1):=by
 by_cases hs:swapsWith v (some t) pos.line X.env=pure false
 ·exact s_set c h1 (sB me c.cc v h2).1 hs (yaL h1 h3)
 ·cases hl:qR v with
  |false=>exact absurd (zV hl) hs
  |true =>
   rw[hl] at h4;cases me with
   |comp fz elt tg' it src cond ncv js =>
    have h2':=h2;have h:=Yd h2;cases v with
    |ListComp x gs cs p =>
     rcases gs with _|⟨⟨t',iter,ifs,a⟩,_|⟨g2,gs⟩⟩
     ·exact ff h
     ·have h:((a==0)&&Za iter&&qv sc N cs (tgN tg' t'++js.filterMap λj=>N[j]?) ncv js&&decide (tgN tg' t'++js.filterMap λj=>N[j]?).Nodup&&zv (ownC cs) (tgN tg' t'++js.filterMap λj=>N[j]?) (ZA cs sc) tg' t'&&Ze Pm elt (tgN tg' t'++js.filterMap λj=>N[j]?) (ZA cs sc) x&&chkC Pm cond (tgN tg' t'++js.filterMap λj=>N[j]?) (ZA cs sc) ifs&&(if it == "seq" then Zar Pm src N sc iter else if it == "signs" then Zar Pm src N sc iter else if it == "enum1" then false else qam t' it iter&&gl sc (Str.ofString it)&&yi Pm src N sc (Yu iter)))=true:=h;simp only[Wa,beq_iff_eq,decide_eq_true_eq] at h;obtain⟨⟨⟨⟨⟨⟨⟨ha,k1⟩,k2⟩,k3⟩,k4⟩,k5⟩,k6⟩,k7⟩:=h;subst ha;have hi:PI X t' iter (lI ct yes E (zf Pm (run Pm n) src) it):=by
       split at k7
       next hs=>subst hs;exact sBi src c.cc t' iter k7
       next hs =>
        split at k7
        next hs4=>subst hs4;exact sBx src c.cc t' iter k7
        next =>
        split at k7
        next hs2 =>
         exact ff k7
        next =>
         simp only[Wa] at k7;exact qbG c.cc k7.1.1 k7.1.2 (sBs src c.cc (Yu iter) k7.2)
      cases t with
      |Name y tp =>
       cases tg with
       |nm i =>
        simp only[zv,ya0,Wa,beq_iff_eq,Xi] at h1;rw[ybe c.kd] at hs;have hsw:swB X.env.scope cs y tp p=true:=by
         cases e:swB X.env.scope cs y tp p with
         |true=>rfl
         |false=>rw[e] at hs;exact absurd rfl hs
        have hx:Loc X.env.scope y:=by
         rw[c.cc.sc]
         rcases h1.2 with z|⟨_,z⟩
         ·exact .inl z
         ·exact .inr z
        refine Qg (zcc fz (tp:=tp) c (by rw[c.cc.nm];exact h1.1) hx (by rw[c.cc.sc,c.cc.nm];exact k2) hi (λC s3 H ex=>sG rfl (c.cc.comp k3 C s3 H ex).sc k3 c.cc.calm (λ_ z=>z) tg' t' k4) (λC s3 H ex=>sBc cond (c.cc.comp k3 C s3 H ex) ifs k6) (λC s3 H ex=>(sB elt (c.cc.comp k3 C s3 H ex) x k5).1) k1 (by rw[ybe c.kd,hsw])) λσ hh=>?_;simp only[ya]
       |tp ts=>simp[zv] at h1
      |_=>exact absurd (sw_lc (by intro x p z;cases z)) hs
     ·exact ff h
    |_=>first|exact Vf hl|exact ff h
   |_=>exact Vf h4
end
theorem Zcp{Ra:L2.St->Prop}{ev:MSt->MH->R MV}{tg:Tg}{t v:Expr}{pos:Pos}(c:Cc X Pm ct n Ra E N sc)(ht:ybw tg t N sc=true)(hl:qR v=false)(he:PE X v (lE ct Ra E ev)) :
  PS X (.Assign [t] v pos) (lS ct Ra E λσ h=>(ev σ h).st λv h1=>yt (Yq tg v σ) λσ1=>.next σ1 h1):=by
 cases tg with
 |tp _=>exact ff ht
 |nm i =>
  cases ea:Zu t with
  |none =>
   have ht:(match Zu t with|some x=>N[i]? == some x&&sc.names.lookup x==some .local|none=>false)=true:=ht;rw[ea] at ht;exact ff ht
  |some x =>
   have ht:(match Zu t with|some x=>N[i]? == some x&&sc.names.lookup x==some .local|none=>false)=true:=ht;rw[ea] at ht;have ht:(N[i]? == some x&&sc.names.lookup x==some .local)=true:=ht;have hq:N[i]?=some x/\sc.names.lookup x=some .local:=by simpa only[Wa,beq_iff_eq] using ht
   obtain⟨p1,rfl⟩:=ZN ea;have hx:X.env.scope.names.lookup x=some .local:=by rw[c.sc];exact hq.2
   refine PS.imp (yaY c.nd (by rw[c.nm];exact hq.1) (.inl hx) he (zV hl) (.inr hx)) λD σ H q=>?_;obtain⟨μ,h,σs,rel,rst,ra,p⟩:=q;refine lE.st rel rst ra p λm w μ1 h1 H1 ex rel1 rst1 rv p1=>?_;obtain⟨σ1,e,p2⟩:=PoS.opt p1;simp only[Yq,Option.some.injEq] at e;subst e;exact p2 μ1 H1 _ (Ext.refl _ _ _) rel1 (rst1.set i rv)
mutual
theorem sTB:∀(ms:MS){X:Cx}{E:XK}{Ra:L2.St->Prop}{N:List Str} {sc:Scope} (c:Cc X Pm ct n Ra E N sc) (st:Stmt),zbK Pm ms N sc st=true->PS X st (lS ct Ra E (zm Pm (run Pm n) ms))
 |.expr e,X,E,Ra,N,sc,c,st,h=>by
  cases st with
  |Expr v p =>
   have h:(!(qR v)&&Ze Pm e N sc v)=true:=h;simp only[Wa,Vg] at h;exact Qg (Zbv (sB e c v h.2).1 h.1) λσ hh=>by simp only[zm]
  |_=>exact ff h
 |.ite d a b,X,E,Ra,N,sc,c,st,h=>by
  cases st with
  |If t x y p =>
   have h:(okT d&&Ze Pm d N sc t&&QS Pm a N sc x&&QS Pm b N sc y)=true:=h;simp only[Wa] at h;obtain⟨⟨⟨h0,h1⟩,h2⟩,h3⟩:=h;exact Qg (s_if ((sB d c t h1).2 h0) (sTBs a c x h2) (sTBs b c y h3)) λσ hh=>by simp only[zm]
  |_=>exact ff h
 |.set tg e,X,E,Ra,N,sc,c,st,h=>by
  cases st with
  |Assign ts v p =>
   rcases ts with _|⟨t,_|⟨t2,ts⟩⟩
   ·exact ff h
   ·have h:(ybw tg t N sc&&!(qR v)&&Ze Pm e N sc v)=true:=h;simp only[Wa,Vg] at h;exact Qg (Zcp c h.1.1 h.1.2 (sB e c v h.2).1) λσ hh=>by simp only[zm]
   ·exact ff h
  |_=>exact ff h
 |.setSub _ _ _,X,E,Ra,N,sc,c,st,h=>ff h
 |.setFld _ _ _,X,E,Ra,N,sc,c,st,h=>ff h
 |.boom,X,E,Ra,N,sc,c,st,h=>ff h
 |.par _ _ _ _,X,E,Ra,N,sc,c,st,h=>ff h
 |.ret _,X,E,Ra,N,sc,c,st,h=>ff h
 |.retN,X,E,Ra,N,sc,c,st,h=>ff h
 |.for_ _ _ _ _,X,E,Ra,N,sc,c,st,h=>ff h
 |.while_ _ _,X,E,Ra,N,sc,c,st,h=>ff h
 |.raise _ _,X,E,Ra,N,sc,c,st,h=>ff h
 |.raiseX _ _,X,E,Ra,N,sc,c,st,h=>ff h
 |.tryT _ _ _ _,X,E,Ra,N,sc,c,st,h=>ff h
 |.pass,X,E,Ra,N,sc,c,st,h=>ff h
 |.frzS _,X,E,Ra,N,sc,c,st,h=>ff h
theorem sTBs:∀(mss:List MS){X:Cx}{E:XK}{Ra:L2.St->Prop}{N:List Str} {sc:Scope} (c:Cc X Pm ct n Ra E N sc) (sts:List Stmt),QS Pm mss N sc sts=true->PSs X sts (lS ct Ra E (yb Pm (run Pm n) mss))
 |[],X,E,Ra,N,sc,c,sts,h=>by
  cases sts with
  |nil=>exact Yw zce λσ hh=>by simp only[yb]
  |cons _ _=>exact ff h
 |m::ms,X,E,Ra,N,sc,c,sts,h=>by
  rcases sts with _|⟨st,_|⟨st2,sts⟩⟩
  ·exact ff h
  ·have h:(ms.isEmpty&&zbK Pm m N sc st)=true:=h;simp only[Wa] at h;cases ms with
   |nil=>exact Yw (qb9 (sTB m c st h.2)) λσ hh=>by simp only[yb]
   |cons _ _=>exact ff h.1
  ·exact ff h
end
mutual
theorem sS:∀(ms:MS){X:Cx}{E:XK}{N:List Str}{sc:Scope} (c:Cs X Pm ct n E N sc) (st:Stmt),zbH Pm ms N sc st=true->PS X st (lS ct yes E (zm Pm (run Pm n) ms))
 |.set tg e,X,E,N,sc,c,st,h=>by
  cases st with
  |Assign ts v p =>
   rcases ts with _|⟨t,_|⟨t2,ts⟩⟩
   ·exact ff h
   ·have h:(zv zas N sc tg t&&Ze Pm e N sc v&&!(ZaE t v)&&(if qR v then Ya1 e else true))=true:=h;simp only[Wa,Vg] at h;obtain⟨⟨⟨h1,h2⟩,h3⟩,h4⟩:=h;exact Qg (Qcb c h1 h2 h3 h4) λσ hh=>by simp only[zm]
   ·exact ff h
  |_=>exact ff h
 |.setSub o i e,X,E,N,sc,c,st,h=>by
  cases st with
  |Assign ts v p =>
   rcases ts with _|⟨t,_|⟨t2,ts⟩⟩
   ·exact ff h
   ·cases t with
    |Subscript x y p2 =>
     have h:(Ze Pm e N sc v&&Ze Pm o N sc x&&Ze Pm i N sc y)=true:=h;simp only[Wa] at h;obtain⟨⟨h1,h2⟩,h3⟩:=h;exact Qg (YbF (sB e c.cc v h1).1 (sB o c.cc x h2).1 (sB i c.cc y h3).1 (Zh h3)) λσ hh=>by simp only[zm] <;> rfl
    |_=>exact ff h
   ·cases t <;> exact ff h
  |_=>exact ff h
 |.boom,X,E,N,sc,c,st,h=>λpins s σ H D I q=>by
  obtain⟨μ,hh,σs,rel,rst,ra,p⟩:=q;simp only[zm] at p;exact p.elim
 |.par i j a b,X,E,N,sc,c,st,h=>ff h
 |.setFld o f e,X,E,N,sc,c,st,h=>by
  cases st with
  |Assign ts v p =>
   rcases ts with _|⟨t,_|⟨t2,ts⟩⟩
   ·exact ff h
   ·cases t with
    |Attribute x m p2 =>
     have h:(m==Str.ofString f&&Ze Pm e N sc v&&Ze Pm o N sc x)=true:=h;simp only[Wa,beq_iff_eq] at h;obtain⟨⟨rfl,h2⟩,h3⟩:=h;exact Qg (YbK c.cc.txt (sB e c.cc v h2).1 (sB o c.cc x h3).1) λσ hh=>by simp only[zm] <;> rfl
    |_=>exact ff h
   ·cases t <;> exact ff h
  |_=>exact ff h
 |.expr e,X,E,N,sc,c,st,h=>by
  cases st with
  |Expr v p =>
   have h:(!(qR v)&&Ze Pm e N sc v)=true:=h;simp only[Wa,Vg] at h;exact Qg (Zbv (sB e c.cc v h.2).1 h.1) λσ hh=>by simp only[zm]
  |_=>exact ff h
 |.ret e,X,E,N,sc,c,st,h=>by
  cases st with
  |Return v p =>
   cases v with
   |some v=>exact Qg (s_ret (sB e c.cc v (show Ze Pm e N sc v=true from h)).1) λσ hh=>by simp only[zm]
   |none=>exact ff h
  |_=>exact ff h
 |.retN,X,E,N,sc,c,st,h=>by
  cases st with
  |Return v p =>
   cases v with
   |some v=>exact ff h
   |none=>exact Qg Qb6 λσ hh=>by simp only[zm]
  |_=>exact ff h
 |.ite d a b,X,E,N,sc,c,st,h=>by
  cases st with
  |If t x y p =>
   have h:(okT d&&Ze Pm d N sc t&&ZD Pm a N sc x&&ZD Pm b N sc y)=true:=h;simp only[Wa] at h;obtain⟨⟨⟨h0,h1⟩,h2⟩,h3⟩:=h;exact Qg (s_if ((sB d c.cc t h1).2 h0) (sSs a c x h2) (sSs b c y h3)) λσ hh=>by simp only[zm]
  |_=>exact ff h
 |.for_ tg it src body,X,E,N,sc,c,st,h=>by
  cases st with
  |For t iter bd oe p =>
   cases oe with
   |cons _ _=>exact ff h
   |nil =>
    have h:(Za iter&&zv zas N sc tg t&&ZD Pm body N sc bd&&(if it == "seq" then Zar Pm src N sc iter else if it == "keys" then false else if it == "items" then false else if it == "enum1" then false else qam t it iter&&gl sc (Str.ofString it)&&yi Pm src N sc (Yu iter)))=true:=h;simp only[Wa] at h;obtain⟨⟨⟨h1,h2⟩,h3⟩,h4⟩:=h;have hi:PI X t iter (lI ct yes E (zf Pm (run Pm n) src) it):=by
     split at h4
     next hs =>
      have hs':it="seq":=by simpa using hs
      subst hs';exact sBi src c.cc t iter h4
     next hs =>
      split at h4
      next hs2 =>
       have hs':it="keys":=by simpa using hs2
       subst hs';exact ff h4
      next =>
       split at h4
       next hs4 =>
        exact ff h4
       next =>
       split at h4
       next hs3 =>
        exact ff h4
       next =>
        simp only[Wa] at h4;exact qbG c.cc h4.1.1 h4.1.2 (sBs src c.cc (Yu iter) h4.2)
    exact Qg (s_for c hi h2 (sSs body c bd h3) h1) λσ hh=>by simp only[zm]
  |_=>exact ff h
 |.while_ d body,X,E,N,sc,c,st,h=>ff h
 |.raise cn es,X,E,N,sc,c,st,h=>by
  cases st with
  |Raise x y p =>
   cases x with
   |none=>exact ff h
   |some x =>
    cases x with
    |Call g as ks cp =>
     cases g with
     |Name x np =>
      cases as with
      |nil=>exact ff h
      |cons v vs =>
       cases ks with
       |cons _ _=>exact ff h
       |nil =>
        cases y with
        |some _=>exact ff h
        |none =>
         have h:(x==Str.ofString cn&&gl sc x&&Pm.excs cn&&decide ((v::vs).length<1000)&&yi Pm es N sc (v::vs))=true:=h;simp only[Wa,beq_iff_eq,decide_eq_true_eq] at h;obtain⟨⟨⟨⟨rfl,h1⟩,h2⟩,h3⟩,h4⟩:=h;have b:=sBs es c.cc (v::vs) h4;exact Qg (ZbQ c h2 h1 b.pa b.plain (zbA b h3)) λσ hh=>by simp only[zm]
     |_=>exact ff h
    |_=>exact ff h
  |_=>exact ff h
 |.raiseX cn e,X,E,N,sc,c,st,h=>by
  have h':(match yK st with
   |some (x,v)=>x==Str.ofString cn&&gl sc x&&(Pm.exci cn).isSome&&Ze Pm e N sc v
   |none=>false)=true:=h
  cases et:yK st with
  |none=>rw[et] at h';cases h'
  |some q =>
   obtain⟨x,v⟩:=q;rw[et] at h';obtain⟨p1,p2,p3,rfl⟩:=yaR et;simp only[Wa,beq_iff_eq] at h';obtain⟨⟨⟨rfl,k1⟩,k2⟩,k3⟩:=h';exact Qg (ZbC c k2 k1 (sB e c.cc v k3).1 (Zh k3)) λσ hh=>by simp only[zm]
 |.tryT body ei dst tag,X,E,N,sc,c,st,h=>by
  have h':(match yah st with
   |some (bd,x,nm,y,g,nm')=>x==("DotError":Str)&&gl sc x&&N[ei]? == some nm&&sc.names.lookup nm==some .local&&nm'==nm&&zaS sc nm&&N[dst]? == some y&&ya0 zas sc y&&decide (ei≠dst)&&Pm.xt&&g==tag&&QS Pm body N sc bd
   |none=>false)=true:=h
  cases et:yah st with
  |none=>rw[et] at h';cases h'
  |some q =>
   obtain⟨bd,x,nm,y,g,nm'⟩:=q;rw[et] at h';obtain⟨p1,p2,k,p3,p4,k2',p5,p6,p7,pos,rfl⟩:=Ybl et;simp only[Wa,beq_iff_eq,decide_eq_true_eq] at h';obtain⟨⟨⟨⟨⟨⟨⟨⟨⟨⟨⟨rfl,k1⟩,k2⟩,k3⟩,rfl⟩,k4⟩,k5⟩,k6⟩,k8⟩,k9⟩,rfl⟩,k10⟩:=h';exact Qg (Yca c k9 k2 k3 k4 k5 k6 k1 k8 (λpins σ0 E'=>sTBs body (Cc.try c pins σ0 E') bd k10)) λσ hh=>by simp only[zm]
 |.pass,X,E,N,sc,c,st,h=>by
  cases st with
  |Pass p=>exact Qg Ycf λσ hh=>by simp only[zm]
  |_=>exact ff h
 |.frzS i,X,E,N,sc,c,st,h=>by
  exact ff h
theorem sSs:∀(mss:List MS){X:Cx}{E:XK}{N:List Str}{sc:Scope} (c:Cs X Pm ct n E N sc) (sts:List Stmt),ZD Pm mss N sc sts=true->PSs X sts (lS ct yes E (yb Pm (run Pm n) mss))
 |[],X,E,N,sc,c,sts,h=>by
  cases sts with
  |nil=>exact Yw s_nil λσ hh=>by simp only[yb]
  |cons _ _=>exact ff h
 |m::ms,X,E,N,sc,c,sts,h=>by
  cases m with
  |frzS i=>exact Yw (s_frz (i:=i) (sSs ms c sts h)) λσ hh=>by simp only[yb,zm]
  |boom =>
   cases sts with
   |nil=>exact ff h
   |cons st sts =>
    have h2:ZD Pm ms N sc sts=true:=h;exact Yw (Yb5 (sS .boom c st rfl) (sSs ms c sts h2)) λσ hh=>by simp only[yb]
  |_ =>
   cases sts with
   |nil=>exact ff h
   |cons st sts =>
    first
    |(have h:(zbH Pm _ N sc st&&ZD Pm ms N sc sts)=true:=h;simp only[Wa] at h;exact Yw (Yb5 (sS _ c st h.1) (sSs ms c sts h.2)) λσ hh=>by simp only[yb])
    |exact ff h
end
end
end SD
end
section
namespace SD
open PySem PySem.Spec PyProof.Rows L2 L3 M3 MP
noncomputable def zj(Pm:Prog)(d:MDef)(N ps:List Str)(st:Stmt):Bool :=
 (Zc st).kind == .function&&!(Zc st).isCoroutine&&!(Zc st).isGenerator&&decide N.Nodup&&decide (N.take ps.length=ps)&&ps.all (λx=>(Zc st).names.lookup x==some .local||(Zc st).names.lookup x==some .cell) &&
  (Zc st).names.all (λy=>y.2 != .free)&&d.np==ps.length&&d.ns==N.length&&ZD Pm d.body N (Zc st) (yg st)
section
variable {P:Program} {w:World} {K:PySem.W.Frag} {mg:Str->Option Value} {base:Heap} {Pm:Prog} {ct:Tx} {n:Nat} {d:MDef} {N ps:List Str} {st:Stmt} {f:String}
theorem YD(h:zj Pm d N ps st=true):FnScope N ps (Zc st)/\d.np=ps.length/\d.ns=N.length/\ZD Pm d.body N (Zc st) (yg st)=true:=by
 unfold zj at h;simp only[Wa,beq_iff_eq,Vg,decide_eq_true_eq,Vj,Xi,bne_iff_ne,ne_eq] at h;obtain⟨⟨⟨⟨⟨⟨⟨⟨⟨h1,h2⟩,h3⟩,h4⟩,h5⟩,h6⟩,h7⟩,h8⟩,h9⟩,h10⟩:=h;exact⟨⟨h1,h2,h3,h4,h5,h6,h7⟩,h8,h9,h10⟩
theorem Zba{ms:List MV}{h:MH}{r:R MV}(hd:Pm.defs f=some d)(e:MP.run Pm (n+1) f ms h=r)(hr:r≠.stuck):ms.length=d.np/\r=zd h (yb Pm (MP.run Pm n) d.body (ms.map some++Wd (d.ns-d.np) none) h):=by
 simp only[MP.run,hd,Yb] at e;split at e
 next c=>exact⟨c,e.symm⟩
 next=>exact absurd e.symm hr
theorem yaz(hd:Pm.defs f=some d)(hn:d.np=ps.length):∀ vs H Q E,spR ct (MP.run Pm (n+1) f) vs H Q E->vs.length=ps.length:=by
 intro vs H Q E ⟨μ,h,ms,rel,rvs,p⟩;cases er:MP.run Pm (n+1) f ms h with
 |stuck=>rw[er] at p;exact p.elim
 |ok x h'=>rw[rvs.length,(Zba hd er (λz=>nomatch z)).1,hn]
 |exc c h'=>rw[rvs.length,(Zba hd er (λz=>nomatch z)).1,hn]
theorem QaC(T:Txt P w K mg base Pm ct n)(hK:K=ct.K)(hd:Pm.defs f=some d)(hb:zj Pm d N ps st=true)(qual:Str)(fa:Addr)(cdv:Value)(A:Around)(outer:List Env)(s:Shared)(H:Hp)(vs:List V)(Q:VK)(E:XK)
  (hr:Room (2*n+1) (A.deeper (envOfC qual (Zc st) s.heap.objs.size fa cdv))) (hsp:spR ct (MP.run Pm (n+1) f) vs H Q E) :
  ∃ t,PSs (Yac (CX1 P w) P w K mg base N qual (Zc st) fa cdv A outer s H E) (yg st) t/\t {nx:=λ_ H'=>Q .non H',rt:=Q} (L2.start N vs) H:=by
 obtain⟨S,hn,hs,hc⟩:=YD hb;have cs:Cs (Yac (CX1 P w) P w K mg base N qual (Zc st) fa cdv A outer s H E) Pm ct n E N (Zc st) :=
  ⟨⟨T,rfl,hr,λσ _ pins H s e s' I h=>zbi rfl qav pins σ H s e s' I h,rfl,rfl,S.nd,hK⟩,rfl,QbN,qav,λ_=>rfl,S.kind,rfl,rfl⟩
 refine⟨_,sSs d.body cs (yg st) hc,?_⟩;obtain⟨μ,h,ms,rel,rvs,p⟩:=hsp;have hlen:=yaz hd hn vs H Q E ⟨μ,h,ms,rel,rvs,p⟩;have hml:ms.length=d.np:=by rw[<- rvs.length,hlen,hn]
 refine⟨μ,h,ms.map some++Wd (d.ns-d.np) none,rel,?_,trivial,?_⟩
 ·refine⟨by unfold L2.start;simp[rvs.length,hml,hs],λi m e=>?_⟩;by_cases hi:i<ms.length
  ·rw[va (by simpa using hi),We] at e;cases em:ms[i]? with
   |none=>rw[em] at e;cases e
   |some m' =>
    rw[em] at e;simp only[wj,Option.some.injEq] at e;subst e;obtain⟨v,ev,rv⟩:=rvs.get em;refine⟨v,?_,rv⟩;unfold L2.start;rw[va (by rw[Vd,rvs.length];exact hi),We,ev];rfl
  ·rw[Xd (by simpa using hi),vn] at e;split at e <;> cases e
 ·have er:MP.run Pm (n+1) f ms h=zd h (yb Pm (MP.run Pm n) d.body (ms.map some++Wd (d.ns-d.np) none) h):=by
   simp only[MP.run,hd,Yb,if_pos hml]
  rw[er] at p;cases ex:yb Pm (MP.run Pm n) d.body (ms.map some++Wd (d.ns-d.np) none) h with
  |next σ' h' =>
   rw[ex] at p;intro μ' H' σ e1 r1 q1;obtain⟨ν,rfl⟩:=e1.pre;exact zaO rel e1 r1 ZaG p
  |ret m h' =>
   rw[ex] at p;intro μ' H' v e1 r1 rv;obtain⟨ν,rfl⟩:=e1.pre;exact zaO rel e1 r1 rv p
  |exc c h' =>
   rw[ex] at p;intro μ' H' e1 r1;obtain⟨ν,rfl⟩:=e1.pre;exact ybm rel e1 r1 p
  |brk σ' h'=>rw[ex] at p;exact p.elim
  |cnt σ' h'=>rw[ex] at p;exact p.elim
  |stuck=>rw[ex] at p;exact p.elim
theorem zbq(T:Txt P w K mg base Pm ct n)(hK:K=ct.K)(S:Src K mg (Str.ofString f) st ps)(hd:Pm.defs f=some d)(hb:zj Pm d N ps st=true):QaU P w K mg base (Str.ofString f) (2*(n+1)) ps (spR ct (MP.run Pm (n+1) f)) :=
 Zcb (k:=2*n+1) S (YD hb).1 (yaz hd (YD hb).2.1) λfa cdv A outer s H vs Q E hr hsp=>QaC T hK hd hb _ fa cdv A outer s H vs Q E hr hsp
theorem qal{x qual:Str}{fa:Addr}{fd:FuncData}(T:Txt P w K mg base Pm ct n)(hK:K=ct.K)(F:Fun K x qual st fa fd)(hd:Pm.defs f=some d)(hb:zj Pm d N ps st=true):FnOk P w K mg base (CX1 P w) (2*(n+1)) fa fd ps (spR ct (MP.run Pm (n+1) f)):=by
 obtain⟨oc,od,kV,doc,pm,an,cdv,ctv,osl,rfl,lk,hcd⟩:=F.ex;exact qbd (k:=2*n+1) lk hcd (YD hb).1 (yaz hd (YD hb).2.1) λA outer s H vs Q E hr hsp=>QaC T hK hd hb _ fa cdv A outer s H vs Q E hr hsp
theorem Zbs{x qual:Str}{fa:Addr}{fd:FuncData}(T:Txt P w K mg base Pm ct n)(hK:K=ct.K)(F:FunD K x qual st fa fd)(hd:Pm.defs f=some d)(hb:zj Pm d N ps st=true):FnOk P w K mg base (CX1 P w) (2*(n+1)) fa fd ps (spR ct (MP.run Pm (n+1) f)):=by
 obtain⟨oc,od,dV,kV,doc,pm,an,cdv,ctv,osl,rfl,lk,hcd⟩:=F.ex;exact qbd (k:=2*n+1) lk hcd (YD hb).1 (yaz hd (YD hb).2.1) λA outer s H vs Q E hr hsp=>QaC T hK hd hb _ fa cdv A outer s H vs Q E hr hsp
end
theorem ln0{α:Type}{us:List α}(h:us.length=0):us=[]:=Xl h
theorem lnS{α:Type}{n:Nat}{us:List α}(h:us.length=n+1):∃ a vs,us=a::vs/\vs.length=n:=by
 cases us with
 |nil=>cases h
 |cons a vs=>exact⟨a,vs,rfl,Nat.succ.inj h⟩
theorem ln1{α:Type}{us:List α}(h:us.length=1):∃ a,us=[a]:=by obtain⟨a,vs,rfl,h2⟩:=lnS h;rw[ln0 h2];exact⟨a,rfl⟩
theorem ln2{α:Type}{us:List α}(h:us.length=2):∃ a b,us=[a,b]:=by obtain⟨a,vs,rfl,h2⟩:=lnS h;obtain⟨b,rfl⟩:=ln1 h2;exact⟨a,b,rfl⟩
theorem ln3{α:Type}{us:List α}(h:us.length=3):∃ a b c,us=[a,b,c]:=by obtain⟨a,vs,rfl,h2⟩:=lnS h;obtain⟨b,c,rfl⟩:=ln2 h2;exact⟨a,b,c,rfl⟩
theorem ln4{α:Type}{us:List α}(h:us.length=4):∃ a b c d,us=[a,b,c,d]:=by obtain⟨a,vs,rfl,h2⟩:=lnS h;obtain⟨b,c,d,rfl⟩:=ln3 h2;exact⟨a,b,c,d,rfl⟩
theorem ln5{α:Type}{us:List α}(h:us.length=5):∃ a b c d e,us=[a,b,c,d,e]:=by obtain⟨a,vs,rfl,h2⟩:=lnS h;obtain⟨b,c,d,e,rfl⟩:=ln4 h2;exact⟨a,b,c,d,e,rfl⟩
noncomputable def AllL(P:String->MDef->Prop):List (String×MDef)->Prop
 |[]=>True
 |p::r=>P p.1 p.2/\AllL P r
theorem Qas{P:String->MDef->Prop}{f:String}{d:MDef}:∀{L:List (String×MDef)},AllL P L->L.lookup f=some d->P f d
 |[],_,h=>by cases h
 |(g,e)::r,⟨a,b⟩,h=>by
  rw[Va] at h;cases hb:f==g with
  |true =>
   rw[hb] at h;cases h;rw[show f=g by simpa using hb];exact a
  |false =>
   rw[hb] at h;exact Qas b h
noncomputable def ybH(K:PySem.W.Frag)(mg:Str->Option Value)(Pm:Prog)(ct:Tx)(f:String)(ps:List Str):Prop :=
 ∀(P:Program)(w:World)(base:Heap)(n:Nat),K.In base->(ct.cd≠0->LamB mg base ct.cd ct.tb)->QaU P w K mg base (Str.ofString f) (2*(n+1)) ps (spR ct (MP.run Pm (n+1) f))
structure Text (K:PySem.W.Frag) (mg:Str->Option Value) (Pm:Prog) (ct:Tx):Prop where
 hK:K=ct.K
 defs:∀ f d,Pm.defs f=some d->f.toList.contains '.'=false->∃ st N ps,Src K mg (Str.ofString f) st ps/\(zj Pm d N ps st=true\/ybH K mg Pm ct f ps)
 inits:∀ c f,Pm.meths c "__init__"=some f->∃ d st N ps fa fd x qual,Pm.defs f=some d/\Mk K (ct c) fa/\Fun K x qual st fa fd/\Binds K fd ps []/\mg (Str.ofString c)=some (.ref (ct c))/\zj Pm d N ps st=true
 blts:∀ x∈fnNames++tyNames++isTys++["range","zip","enumerate","isinstance","sorted","reversed","set"],mg (Str.ofString x)=none
 fok:∀ c f,Pm.fok c f=true->Cls K (ct c)/\NoAttr K (ct c) (Str.ofString f)
 cls:∀ c t b,Pm.subs c t=some b->ClsOk K (ct c)
 subC:∀ c t b,Pm.subs c t=some b->isTys.contains t=false->mg (Str.ofString t)=some (.ref (ct t))/\Vc K (.ref (ct c)) (.ref (ct t))=some b
 subT:∀ c t b,Pm.subs c t=some b->isTys.contains t=true->Vc K (.ref (ct c)) (.type t)=some b
 tyC:∀ t c b,Pm.subs c t=some b->isTys.contains t=false->∀ T∈["NoneType","bool","int","str","list","tuple"],Vc K (.type T) (.ref (ct t))=some false
 excs:∀ c,Pm.excs c=true->ExcC K (ct c)/\mg (Str.ofString c)=some (.ref (ct c))/\Yn c=none
 exci:∀ c g,Pm.exci c=some g->XI K mg ct c
 words:∀ wd,Pm.words wd=true->ExcC K (ct "DotError")/\mg "DotError"=some (.ref (ct "DotError"))/\(∀(P:Program)(w:World)(base:Heap),∃ ps,ybC P w K mg base (Str.ofString wd) 1 ps (spW ct Pm wd)) /\
  ∀ c s,Pm.word wd c=some s->(zB K (ct c)/\(Zm K (ct c)).contains (.ref (ct "DotError"))=true)/\Yn c=none
 xcls:∀ t,Pm.xcls t=true->(if t="ValueError" then mg "ValueError"=none else mg (Str.ofString t)=some (.ref (ct t)))
 xs:∀ c t b,Pm.xsubs c t=some b->ExcK K (ct c)/\Vc K (.ref (ct c)) (if t="ValueError" then .type "ValueError" else .ref (ct t))=some b
 dfl:∀ f ds,Pm.dfl f ds=true->∃ d st N ps fa fd dvals,Pm.defs f=some d/\FunD K (Str.ofString f) (Str.ofString f) st fa fd/\Binds K fd ps dvals/\Vals (ds.map V.int) dvals/\mg (Str.ofString f)=some (.ref fa)/\zj Pm d N ps st=true
 meths:∀ c m f,Pm.meths c m=some f->m≠"__init__"->Cls K (ct c)/\∃ d st N ps fa fd x qual,Pm.defs f=some d/\Meth K (ct c) (Str.ofString m) fa/\Fun K x qual st fa fd/\Binds K fd ps []/\zj Pm d N ps st=true
 mk0:∀ c,Pm.mk0 c=true->Mk0 K (ct c)/\mg (Str.ofString c)=some (.ref (ct c))
 globs:∀ x v,Pm.globs x=some v->ZbJ mg x v
 xdot:Pm.xt=true->ExcC K (ct "DotError")/\mg "DotError"=some (.ref (ct "DotError"))/\∀ c b,Pm.xsubs c c=some b->zB K (ct c)/\(Zm K (ct c)).contains (.ref (ct "DotError"))=true
theorem sp0{ct:Tx}{Pm:Prog}{f:String}{vs:List V}{H:Hp}{Q:VK}{E:XK}(h:spR ct (MP.run Pm 0 f) vs H Q E):False:=by
 obtain⟨μ,h,ms,rel,rvs,p⟩:=h;exact p
theorem qW{P:Program}{w:World}{K:PySem.W.Frag}{mg:Str->Option Value}{base:Heap}{Pm:Prog}{ct:Tx}(T:Text K mg Pm ct)(kb:K.In base)(lb:ct.cd≠0->LamB mg base ct.cd ct.tb):∀ n,Txt P w K mg base Pm ct n
 |0=>⟨λf d hd hdot=>by
   obtain⟨st,N,ps,⟨fa,fd,F,b,m⟩,hb⟩:=T.defs f d hd hdot;exact⟨ps,fa,fd,⟨λvs H Q E h=>(sp0 h).elim,λA outer s H args us vs Q E _ _ _ _ h=>(sp0 h).elim⟩,b,F.kp,m⟩,
  λc f hi=>by
   obtain⟨d,st,N,ps,fa,fd,x,qual,hd,M,F,b,m,hb⟩:=T.inits c f hi;exact⟨ps,fa,fd,M,⟨λvs H Q E h=>(sp0 h).elim,λA outer s H args us vs Q E _ _ _ _ h=>(sp0 h).elim⟩,b,m⟩,
  T.blts,T.fok,T.cls,T.subC,T.subT,T.tyC,T.excs,T.exci,λwd hw=>let ⟨a,b,c,d⟩:=T.words wd hw;⟨a,b,c P w base,d⟩,T.xcls,T.xs,λf ds hf=>let ⟨d,st,N,ps,fa,fd,dvals,hd,F,b,vd,m,hb⟩:=T.dfl f ds hf;⟨ps,fa,fd,dvals,⟨λvs H Q E h=>(sp0 h).elim,λA outer s H args us vs Q E _ _ _ _ h=>(sp0 h).elim⟩,b,vd,F.kp,m⟩,T.xdot,λc m f hm hi=>by
   obtain⟨cl,d,st,N,ps,fa,fd,x,qual,hd,M,F,b,hb⟩:=T.meths c m f hm hi;exact⟨cl,fa,fd,ps,M,⟨λvs H Q E h=>(sp0 h).elim,λA outer s H args us vs Q E _ _ _ _ h=>(sp0 h).elim⟩,b⟩,T.mk0,T.globs⟩
 |n+1=>⟨λf d hd hdot=>by
   obtain⟨st,N,ps,S,hb⟩:=T.defs f d hd hdot;exact⟨ps,hb.elim (λhb=>zbq (qW T kb lb n) T.hK S hd hb) λhp=>hp P w base n kb lb⟩,
  λc f hi=>by
   obtain⟨d,st,N,ps,fa,fd,x,qual,hd,M,F,b,m,hb⟩:=T.inits c f hi;exact⟨ps,fa,fd,M,qal (qW T kb lb n) T.hK F hd hb,b,m⟩,
  T.blts,T.fok,T.cls,T.subC,T.subT,T.tyC,T.excs,T.exci,λwd hw=>let ⟨a,b,c,d⟩:=T.words wd hw;⟨a,b,c P w base,d⟩,T.xcls,T.xs,λf ds hf=>let ⟨d,st,N,ps,fa,fd,dvals,hd,F,b,vd,m,hb⟩:=T.dfl f ds hf;⟨ps,fa,fd,dvals,Zbs (qW T kb lb n) T.hK F hd hb,b,vd,F.kp,m⟩,T.xdot,λc m f hm hi=>by
   obtain⟨cl,d,st,N,ps,fa,fd,x,qual,hd,M,F,b,hb⟩:=T.meths c m f hm hi;exact⟨cl,fa,fd,ps,M,qal (qW T kb lb n) T.hK F hd hb,b⟩,T.mk0,T.globs⟩
theorem Qca{K:PySem.W.Frag}{ct:Tx}{Pm:Prog}{n:Nat}{H:Hp}{a:Addr}{ns:List Int}(hK:K=ct.K)(hO:qbx H)(hS:SqL K H a (ns.map V.int))(main:∃ h,MP.run Pm n "law" [.f (.scr ns)] []=.ok (.f (.bl true)) h) :
  spR ct (MP.run Pm n "law") [.ref a] H (λv _=>v=.bl true) λ_ _ _=>False:=by
 subst hK;refine⟨[],[],[.f (.scr ns)],⟨rfl,List.nodup_nil,λb hb=>by simp at hb,λi b c e=>by simp at e⟩,RVs.cons ?_ RVs.nil,?_⟩
 ·simp only[RV,RF];refine⟨a,rfl,?_⟩
  rcases hS with (e|⟨o,e⟩)|e
  ·rcases hO a with z|⟨o,xs,z⟩
   ·rw[z] at e;cases e
   ·rw[z] at e;cases e
  ·exact .inl ⟨λ⟨i,c,e,_⟩=>by simp at e,o,e⟩
  ·exact .inr e
 ·obtain⟨h,e⟩:=main;rw[e];intro μ' H' _ _ v rv;exact Zax rv
end SD
end
section
namespace SD
open PySem PySem.Spec PyProof.Rows L2 L3 M3 MP
section
variable {K:PySem.W.Frag} {t C:Addr} {cd:ClassData}
theorem Qb{b:Bool}(s0:Uc K (.ref t) (.ref t)=some true)(ci:ug K C=some cd)(ty:Vm K (.ref C)=some (.type "type"))(s:Uc K (.ref t) (.ref C)=some b):Vc K (.ref t) (.ref C)=some b:=by
 unfold Vc ux;by_cases ne:(Value.ref t==Value.ref C)=true
 ·have e':Value.ref t=Value.ref C:=eq_of_beq ne;rw[if_pos ne];rw[e'] at s0 s;rw[s0] at s;exact s
 rw[if_neg ne];show(if((ug K C).isSome&&Vm K (.ref C)==some (.type "type"))=true then Uc K (.ref t) (.ref C) else none)=some b;rw[ci,ty,if_pos (by rfl),s]
theorem zam{T:String}{b:Bool}(m:wt T=true)(s:Uc K (.ref t) (.type T)=some b):Vc K (.ref t) (.type T)=some b:=by
 unfold Vc ux;rw[if_neg (λe=>by have e':Value.ref t=Value.type T:=eq_of_beq e;cases e')];show(if wt T=true then Uc K (.ref t) (.type T) else none)=some b;rw[if_pos m,s]
theorem Ycc{T:String}(m:Uc K (.type T) (.ref C)=some false)(ci:ug K C=some cd)(ty:Vm K (.ref C)=some (.type "type")):Vc K (.type T) (.ref C)=some false:=by
 unfold Vc ux;rw[if_neg (λe=>by have e':Value.type T=Value.ref C:=eq_of_beq e;cases e')];show(if((ug K C).isSome&&Vm K (.ref C)==some (.type "type"))=true then Uc K (.type T) (.ref C) else none)=some false;rw[ci,ty,if_pos (by rfl),m]
theorem ybO(C:Addr):∀ T∈["NoneType","bool","int","str","list","tuple"],Uc K (.type T) (.ref C)=some false:=by
 intro T hT;simp only[xa,Ub,or_false] at hT
 rcases hT with rfl|rfl|rfl|rfl|rfl|rfl <;> rfl
theorem zb2{T:String}(hT:T∈isTys):wt T=true:=by
 simp only[isTys,xa,Ub,or_false] at hT
 rcases hT with rfl|rfl|rfl|rfl|rfl|rfl <;> decide +kernel
theorem zE:wt "ValueError"=true:=by decide +kernel
theorem zcm(ci:ug K C=some cd):Zm K C=cd.mro.tail:=by
 unfold ug at ci;unfold Zm;split at ci
 ·next h=>rw[h];cases ci;rfl
 ·cases ci
end
theorem src_mk{K:PySem.W.Frag}{h:Heap}{mg:Str->Option Value}{x:Str}{st:Stmt}{ps:List Str}{f:Addr}{oc:Value}{od an:Option Addr}{osl:Array (Option Value)}{kV doc pm cdv ct:Value}(X:K.In h)(G:h.Ns mainGlobals mg)
  (hb:∀(kV doc pm:Value)(an:Option Addr)(cdv ct:Value)(us:List Value),us.length=ps.length->bindArgs (vg x x (Zl st) (yg st) (Zc st) .none kV doc pm an cdv ct) ⟨us,[]⟩=pure (ps.zip us))
  (a:xi K mainGlobals x=some (some (.ref f))) (l:K.lookup f=some ⟨oc,od,.func (vg x x (Zl st) (yg st) (Zc st) .none kV doc pm an cdv ct),osl⟩)
  (c:Uk K cdv x=true) (k:Xg K (.ref f)=true):Src K mg x st ps :=
 ⟨f,_,Zb0 (st:=st) l c k,(QaE (st:=st) l c k).binds hb,Wf X G a⟩
noncomputable def Zbe(K:PySem.W.Frag):Sp:=λvs H Q E=>∃(a:Addr)(ns:List Int),vs=[.ref a]/\ns.length<=63/\qbx H/\SqL K H a (ns.map V.int)/\Q=(λv _=>v=.bl true)/\E=λ_ _ _=>False
theorem yci{P:Program}{w:World}{K:PySem.W.Frag}{mg:Str->Option Value}{base:Heap}{Pm:Prog}{ct:Tx}{n:Nat}{d:MDef}{N ps:List Str}{st:Stmt}{fa:Addr}{fd:FuncData}(T:Text K mg Pm ct)(kb:K.In base)(lb:ct.cd≠0->LamB mg base ct.cd ct.tb)(F:Fun K "law" "law" st fa fd)(hd:Pm.defs "law"=some d)(hb:zj Pm d N ps st=true)
  (main:∀ ns:List Int,ns.length<=63->∃ h,MP.run Pm (n+1) "law" [.f (.scr ns)] []=.ok (.f (.bl true)) h):FnOk P w K mg base (CX1 P w) (2*(n+1)) fa fd ps (Zbe K) :=
 (qal (qW T kb lb n) T.hK F hd hb).imp λvs H Q E ⟨a,ns,e1,hl,hO,hS,e2,e3⟩=>by
  subst e1;subst e2;subst e3;exact Qca T.hK hO hS (main ns hl)
theorem walk{l:PySem.W.OpenLaw}{q:Program}{loose:List Str}{XP:(Str->Option Value)->Heap->Prop}{YP:World->Heap->Prop}{d:DefRec}{K:Params->PySem.W.Frag}{k:Nat}(hn:l.most=some 63)(hdf:d.params.defaults=[])(hr:Room k callerA)
  (hY:∀(w:World)(h:Heap),YP w h->(K w.params).In h)
  (F:∀(w:World)(mg:Str->Option Value)(fa:Addr)(h:Heap),(K w.params).In h->h.Ns mainGlobals mg->mg d.name=some (.ref fa) ->
   ∃ fd:FuncData,(∀(s:Shared)(u:Value),BindsTo s fd ⟨[u],[]⟩ [("_law_script",u)])/\∀ base:Heap,(K w.params).In base->base.Ns mainGlobals mg->FnOk l.prog w (K w.params) mg base (CX1 l.prog w) k fa fd ["_law_script"] (Zbe (K w.params))) :
  PySem.W.WalkO q loose XP YP l.row.toRowW d [] (λf vs=>PySem.call f vs) :=
 L2.walk_of (n:=63) (k:=k) (x:="_law_script") (CX:=λw=>CX1 l.prog w) (sp:=λw=>Zbe (K w.params)) hn (by decide) hdf hr hY F (λ_ _ a ns hl hO hS=>⟨a,ns,rfl,hl,hO,hS,rfl,rfl⟩) λ_ _ _ _ _ ⟨_,_,_,_,_,_,_,_,_,_,_,_,_,_,_,_,z⟩=>z
structure CK (K:PySem.W.Frag) (x:Str) (C:Addr) (cd:ClassData):Prop where
 a:xi K mainGlobals x=some (some (.ref C))
 ci:ug K C=some cd
 ty:Vm K (.ref C)=some (.type "type")
 pg:Vq K C Str.empty=true
 hd:xl K C=true
 po:Vu K C=true
 sa:wc K (.ref C) "__setattr__"=some (some (.builtin "object.__setattr__"))
 cl:wc K (.ref C) "__class__"=some (some (.builtin "object.__class__"))
 mo:Vn K C (.type "object")=some true
 s0:Uc K (.ref C) (.ref C)=some true
 k0:Uc K (.ref C) (.type "dict")=some false
 k1:Uc K (.ref C) (.type "list")=some false
 k2:Uc K (.ref C) (.type "tuple")=some false
 k3:Uc K (.ref C) (.type "str")=some false
 k4:Uc K (.ref C) (.type "int")=some false
 k5:Uc K (.ref C) (.type "bool")=some false
structure FK (K:PySem.W.Frag) (x q:Str) (st:Stmt) (f:Addr) (oc:Value) (od:Option Addr) (kV dc pm:Value) (an:Option Addr) (cv ct:Value) (sl:Array (Option Value)):Prop where
 im:Vv K (.ref f)=true
 lm:K.lookup f=some ⟨oc,od,.func (vg x q (Zl st) (yg st) (Zc st) .none kV dc pm an cv ct),sl⟩
 km:Uk K cv q=true
 kpm:Xg K (.ref f)=true
noncomputable def FE(K:PySem.W.Frag)(x q:Str)(st:Stmt)(f:Addr):Prop:=∃ oc od kV dc pm an cv ct sl,FK K x q st f oc od kV dc pm an cv ct sl
structure IK (K:PySem.W.Frag) (C f:Addr):Prop where
 ai:wc K (.ref C) "__init__"=some (some (.ref f))
 mi:Vp K C=true
 kc:Xg K (.ref C)=true
noncomputable def ya7{β:Type}(P:String->String->β->Prop):List ((String×String)×β)->Prop
 |[]=>True
 |((c,t),b)::r=>P c t b/\ya7 P r
theorem Qr{β:Type}{P:String->String->β->Prop}{c t:String}{b:β}:∀{L:List ((String×String)×β)},ya7 P L->L.lookup (c,t)=some b->P c t b
 |[],_,h=>by cases h
 |((x,y),e)::r,a,h=>by
  rw[Va] at h;cases hb:(c,t)==(x,y) with
  |true =>
   rw[hb] at h;cases h;have z:(c,t)=(x,y):=eq_of_beq hb;cases z;exact a.1
  |false =>
   rw[hb] at h;exact Qr a.2 h
section
variable {K:PySem.W.Frag} {h:Heap} {mg:Str->Option Value} {Pm:Prog} {ct:Tx} {c t m g:String} {cd cd':ClassData} {b:Bool} {f:Addr} {st:Stmt} {N ps:List Str} {d:MDef} {q:Str}
theorem CK.cls{x:Str}{C:Addr}(k:CK K x C cd):Cls K C:=⟨k.pg,k.hd,k.po,k.sa⟩
theorem CK.kt{x:Str}{C:Addr}(k:CK K x C cd){t:String}(ht:isTys.contains t=true):Vc K (.ref C) (.type t)=some false:=by
 have ht:t∈isTys:=by simpa using ht
 refine zam (zb2 ht) ?_;simp only[isTys,xa,Ub,or_false] at ht
 rcases ht with rfl|rfl|rfl|rfl|rfl|rfl
 ·exact k.k0
 ·exact k.k1
 ·exact k.k2
 ·exact k.k3
 ·exact k.k4
 ·exact k.k5
noncomputable def SubP(K:PySem.W.Frag)(mg:Str->Option Value)(ct:Tx)(c t:String)(b:Bool):Prop:=Cls K (ct c)/\(∃ x cd,CK K x (ct c) cd) /\
 (isTys.contains t=false->(∃ x cd,CK K x (ct t) cd)/\mg (Str.ofString t)=some (.ref (ct t))/\Vc K (.ref (ct c)) (.ref (ct t))=some b)/\(isTys.contains t=true->Vc K (.ref (ct c)) (.type t)=some b)
theorem Qbc(X:K.In h)(G:h.Ns mainGlobals mg)(kC:CK K (Str.ofString c) (ct c) cd)(kD:CK K (Str.ofString t) (ct t) cd')(s:Uc K (.ref (ct c)) (.ref (ct t))=some b)(nt:isTys.contains t=false):SubP K mg ct c t b :=
 ⟨kC.cls,⟨_,_,kC⟩,λ_=>⟨⟨_,_,kD⟩,Wf X G kD.a,Qb kC.s0 kD.ci kD.ty s⟩,λe=>absurd (nt.symm.trans e) Wh⟩
theorem zH(kC:CK K (Str.ofString c) (ct c) cd)(tt:isTys.contains t=true):SubP K mg ct c t false :=
 ⟨kC.cls,⟨_,_,kC⟩,λe=>absurd (e.symm.trans tt) Wh,λ_=>kC.kt tt⟩
noncomputable def Zbb(K:PySem.W.Frag)(mg:Str->Option Value)(Pm:Prog)(ct:Tx)(c m g:String):Prop:=Cls K (ct c)/\∃ d st N ps fa fd x qual,Pm.defs g=some d/\Meth K (ct c) (Str.ofString m) fa/\Fun K x qual st fa fd/\Binds K fd ps []/\zj Pm d N ps st=true /\
 (m="__init__"->Mk K (ct c) fa/\mg (Str.ofString c)=some (.ref (ct c)))
noncomputable abbrev zb4(x q:Str)(st:Stmt)(ps:List Str):Prop:=∀(kV doc pm:Value)(an:Option Addr)(cdv ct:Value)(us:List Value),us.length=ps.length->bindArgs (vg x q (Zl st) (yg st) (Zc st) .none kV doc pm an cdv ct) ⟨us,[]⟩=pure (ps.zip us)
theorem ZbH(X:K.In h)(G:h.Ns mainGlobals mg)(kC:CK K (Str.ofString c) (ct c) cd)(fe:FE K "__init__" q st f)(i:IK K (ct c) f)(hb:zb4 "__init__" q st ps)(db:zj Pm d N ps st=true)(hd:Pm.defs g=some d):Zbb K mg Pm ct c "__init__" g:=by
 obtain⟨oc,od,kV,dc,pm,an,cv,ct',sl,k⟩:=fe;have F:=QaE (st:=st) k.lm k.km k.kpm;exact⟨kC.cls,d,st,N,ps,f,_,_,q,hd,⟨i.ai,k.im,k.kpm⟩,F,F.binds hb,db,λ_=>⟨⟨i.mi,i.ai,k.im,i.kc⟩,Wf X G kC.a⟩⟩
end
section
variable {K:PySem.W.Frag} {mg:Str->Option Value} {Pm:Prog} {ct:Tx} {c t m g:String} {b:Bool}
theorem ycf{L:List ((String×String)×String)}(T:ya7 (Zbb K mg Pm ct) L)(h:L.lookup (c,"__init__")=some g):∃ d st N ps fa fd x qual,Pm.defs g=some d/\Mk K (ct c) fa/\Fun K x qual st fa fd/\Binds K fd ps []/\mg (Str.ofString c)=some (.ref (ct c))/\zj Pm d N ps st=true:=by
 obtain⟨_,d,st,N,ps,fa,fd,x,q,a,_,F,b,e,z⟩:=Qr T h;exact⟨d,st,N,ps,fa,fd,x,q,a,(z rfl).1,F,b,(z rfl).2,e⟩
theorem Qcm{L:List ((String×String)×String)}(T:ya7 (Zbb K mg Pm ct) L)(h:L.lookup (c,m)=some g):Cls K (ct c)/\∃ d st N ps fa fd x qual,Pm.defs g=some d/\Meth K (ct c) (Str.ofString m) fa/\Fun K x qual st fa fd/\Binds K fd ps []/\zj Pm d N ps st=true:=by
 obtain⟨k,d,st,N,ps,fa,fd,x,q,a,M,F,b,e,z⟩:=Qr T h;exact⟨k,d,st,N,ps,fa,fd,x,q,a,M,F,b,e⟩
variable {L:List ((String×String)×Bool)} (T:ya7 (SubP K mg ct) L) (h:L.lookup (c,t)=some b)
include T h
theorem clsT(gn:uj K (.builtin "object.__class__") "__get__"=some (some (.builtin "getset_descriptor.__get__")))(tk:Wm K (.builtin "object.__class__")=some true):ClsOk K (ct c):=by
 obtain⟨_,⟨x,cd,k⟩,_⟩:=Qr T h;exact⟨k.cls,k.cl,gn,tk,k.mo⟩
theorem tyT(ht:isTys.contains t=false){TT:String}(z:TT∈["NoneType","bool","int","str","list","tuple"]):Vc K (.type TT) (.ref (ct t))=some false:=by
 obtain⟨x,cd,k⟩:=((Qr T h).2.2.1 ht).1;exact Ycc (ybO _ TT z) k.ci k.ty
end
structure XA (K:PySem.W.Frag) (x:Str) (C:Addr) (cd:ClassData):Prop where
 a:xi K mainGlobals x=some (some (.ref C))
 ci:ug K C=some cd
 ty:Vm K (.ref C)=some (.type "type")
structure XC (K:PySem.W.Frag) (C B c0 c1 c2 c3 c4 c5 c6 c7 c8 c9:Addr) (cd:ClassData) (b0 b1 b2 b3 b4 b5 b6 b7 b8 b9:Bool):Prop where
 un:cd.mro.tail.contains (.ref B)=true
 ga:wc K (.ref C) "__getattribute__"=some (some (.builtin "BaseException.__getattribute__"))
 gt:wc K (.ref C) "__getattr__"=some none
 cl:wc K (.ref C) "__class__"=some (some (.builtin "object.__class__"))
 mo:Vn K C (.type "object")=some true
 sv:Uc K (.ref C) (.type "ValueError")=some true
 ss:Uc K (.ref C) (.ref C)=some true
 s0:Uc K (.ref C) (.ref c0)=some b0
 s1:Uc K (.ref C) (.ref c1)=some b1
 s2:Uc K (.ref C) (.ref c2)=some b2
 s3:Uc K (.ref C) (.ref c3)=some b3
 s4:Uc K (.ref C) (.ref c4)=some b4
 s5:Uc K (.ref C) (.ref c5)=some b5
 s6:Uc K (.ref C) (.ref c6)=some b6
 s7:Uc K (.ref C) (.ref c7)=some b7
 s8:Uc K (.ref C) (.ref c8)=some b8
 s9:Uc K (.ref C) (.ref c9)=some b9
section
variable {K:PySem.W.Frag} {C B c0 c1 c2 c3 c4 c5 c6 c7 c8 c9:Addr} {cd d0 d1 d2 d3 d4 d5 d6 d7 d8 d9:ClassData} {b0 b1 b2 b3 b4 b5 b6 b7 b8 b9:Bool}
theorem XC.word(z:XC K C B c0 c1 c2 c3 c4 c5 c6 c7 c8 c9 cd b0 b1 b2 b3 b4 b5 b6 b7 b8 b9)(q:zB K C)(gn:uj K (.builtin "object.__class__") "__get__"=some (some (.builtin "getset_descriptor.__get__")))(tk:Wm K (.builtin "object.__class__")=some true)
  {x y0 y1 y2 y3 y4 y5 y6 y7 y8 y9:Str} (zc:XA K x C cd) (x0:XA K y0 c0 d0) (x1:XA K y1 c1 d1) (x2:XA K y2 c2 d2) (x3:XA K y3 c3 d3) (x4:XA K y4 c4 d4) (x5:XA K y5 c5 d5) (x6:XA K y6 c6 d6) (x7:XA K y7 c7 d7) (x8:XA K y8 c8 d8) (x9:XA K y9 c9 d9)
  (i:Nat) (hi:i<10) (hb:[b0,b1,b2,b3,b4,b5,b6,b7,b8,b9]=(Ue 10).map λj=>decide (j=i)):WordC K [c0,c1,c2,c3,c4,c5,c6,c7,c8,c9] C i:=by
 have key:∀(j:Nat) D b,[c0,c1,c2,c3,c4,c5,c6,c7,c8,c9][j]?=some D->[b0,b1,b2,b3,b4,b5,b6,b7,b8,b9][j]?=some b->Vc K (.ref C) (.ref D)=some b:=by
  intro j D b h1 h2
  rcases j with _|_|_|_|_|_|_|_|_|_|j <;> cases h1 <;> cases h2
  ·exact Qb z.ss x0.ci x0.ty z.s0
  ·exact Qb z.ss x1.ci x1.ty z.s1
  ·exact Qb z.ss x2.ci x2.ty z.s2
  ·exact Qb z.ss x3.ci x3.ty z.s3
  ·exact Qb z.ss x4.ci x4.ty z.s4
  ·exact Qb z.ss x5.ci x5.ty z.s5
  ·exact Qb z.ss x6.ci x6.ty z.s6
  ·exact Qb z.ss x7.ci x7.ty z.s7
  ·exact Qb z.ss x8.ci x8.ty z.s8
  ·exact Qb z.ss x9.ci x9.ty z.s9
 refine⟨⟨q,z.ga,z.gt,z.cl,gn,tk,z.mo,by rw[zc.ci];rfl⟩,λj D h=>key j D _ h ?_,zam zE z.sv,hi⟩;have hj:j<10:=(Xa.mp h).1;rw[hb,We,Vt hj];rfl
theorem XC.un_of(z:XC K C B c0 c1 c2 c3 c4 c5 c6 c7 c8 c9 cd b0 b1 b2 b3 b4 b5 b6 b7 b8 b9)(q:zB K C){x:Str}(zc:XA K x C cd):zB K C/\(Zm K C).contains (.ref B)=true:=⟨q,by rw[zcm zc.ci];exact z.un⟩
end
structure XK2 (K:PySem.W.Frag) (C f:Addr) (cd:ClassData):Prop where
 sa:wc K (.ref C) "__setattr__"=some (some (.builtin "object.__setattr__"))
 na:wc K (.ref C) "line"=some none
 hd:xl K C=true
 ai:wc K (.ref C) "__init__"=some (some (.ref f))
 ini:QI K C=some (some (.ref f))
 c1:cd.hasDict=true
 c2:Qaf cd.mro=true
section
variable {K:PySem.W.Frag} {h:Heap} {mg:Str->Option Value} {ct:Tx} {c:String} {cd:ClassData} {f B:Addr} {q a b x:Str} {st:Stmt}
theorem xi_mk(X:K.In h)(G:h.Ns mainGlobals mg)(qC:zB K (ct c))(zx:XA K (Str.ofString c) (ct c) cd)(ek:ExcK K (ct c))(xk:XK2 K (ct c) f cd)(xb:XB K B)(aB:xi K mainGlobals "DotError"=some (some (.ref B)))(fe:FE K "__init__" q st f)(hb:zb4 "__init__" q st ["self","line"])
  (hs:Zc st=zbE "DotError") (ib:Yb6 "DotError" a b st) (la:a.length<=1000) (lb:b.length<=1000) (nd:c.toList.contains '.'=false):XI K mg ct c:=by
 obtain⟨oc,od,kV,dc,pm,an,cv,ct',sl,k⟩:=fe;have F:=QaE (st:=st) k.lm k.km k.kpm;exact⟨⟨f,_,⟨⟨qC,xk.sa,⟨cd,zx.ci,xk.c1,xk.c2⟩,xk.na⟩,xk.ini,k.im,F.binds hb,λP w base=>zcf k.lm k.km hs ib la lb xb (Wf X G aB)⟩⟩,Wf X G zx.a,nd,⟨ek,xk.na,xk.hd⟩⟩
end
end SD
end
section
namespace SD
open PySem PySem.Spec PyProof.Rows L2 L3 M3 MP
end SD
end
section
namespace SD
open PySem PySem.Spec PyProof.Rows L2 L3 M3 MP
end SD
end
section
namespace MP
open PySem
noncomputable def YE:MDef:=⟨1,1,[.ret (.blt true "tuple" [.comp true (.blt true "tuple" [.var 0]) (.nm 0) "seq" [.var 0] none 1 []])]⟩
noncomputable def d_fault_of:MDef:=⟨3,4,[.ite (.cmp .lt (.var 2) (.cI 1)) [.ret (.cS "the greatest number is below 1")] [],.ite (.or [.cmp .eq (.blt true "len" [.var 0]) (.cI 0),.cmp .eq (.blt true "len" [.sub (.var 0) (.cI 0)]) (.cI 0)]) [.ret (.cS "there are no cells")] [],.for_ (.nm 3) "seq" [.var 0] [.ite (.cmp .ne (.blt true "len" [.var 3]) (.blt true "len" [.sub (.var 0) (.cI 0)])) [.ret (.cS "the rows' lengths differ")] [],.ite (.or [.cmp .lt (.blt true "min" [.var 3]) (.var 1),.cmp .gt (.blt true "max" [.var 3]) (.var 2)]) [.ret (.cS "a number is below the least or above the greatest")] []],.ret (.cN)]⟩
noncomputable def d_Picture___init__:MDef:=⟨3,5,[.set (.nm 3) (.call "own_rows" [.var 2]),.set (.nm 4) (.call "fault_of" [.var 3,.cI 0,.var 1]),.ite (.notN (.var 4)) [.raise "NoPicture" [.var 4]] [],.setFld (.var 0) "most" (.var 1),.setFld (.var 0) "rows" (.var 3)]⟩
noncomputable def d_Tile___init__:MDef:=⟨3,5,[.set (.nm 3) (.call "own_rows" [.var 2]),.set (.nm 4) (.call "fault_of" [.var 3,.cI 1,.var 1]),.ite (.notN (.var 4)) [.raise "NoTile" [.var 4]] [],.setFld (.var 0) "count" (.var 1),.setFld (.var 0) "rows" (.var 3)]⟩
noncomputable def d_read_picture:MDef:=⟨1,2,[.set (.nm 1) (.call "read_rows" [.var 0]),.ret (.make true "Picture" [.sub (.sub (.var 1) (.cI 0)) (.cI 0),.slice true (.var 1) (some (.cI 1)) none])]⟩
noncomputable def d_read_tile:MDef:=⟨1,2,[.set (.nm 1) (.call "read_rows" [.var 0]),.ret (.make true "Tile" [.sub (.sub (.var 1) (.cI 0)) (.cI 0),.slice true (.var 1) (some (.cI 1)) none])]⟩
noncomputable def d_read_numbers:MDef:=⟨1,3,[.set (.nm 1) (.tx2 (.split true) (.var 0) (.cS "\n")),.set (.nm 2) (.call "numbers_in" [.sub (.var 1) (.cI 0),.cI 0]),.ite (.cmp .gt (.blt true "len" [.var 1]) (.cI 1)) [.raiseX "NoText" (.cI 1)] [],.ret (.var 2)]⟩
noncomputable def d_read_rows:MDef:=⟨1,5,[.set (.nm 1) (.lst false []),.for_ (.tp [.nm 2,.nm 3]) "enumerate" [.tx2 (.split true) (.var 0) (.cS "\n")] [.set (.nm 4) (.call "numbers_in" [.var 3,.var 2]),.ite (.and [.cmp .eq (.var 2) (.cI 0),.cmp .gt (.blt true "len" [.var 4]) (.cI 1)]) [.raiseX "NoText" (.cI 0)] [],.expr (.lm "append" (.var 1) [.var 4])],.ite (.cmp .eq (.blt true "len" [.var 1]) (.cI 1)) [.raiseX "NoText" (.cI 1)] [],.ret (.frz (.var 1))]⟩
noncomputable def d_numbers_in:MDef:=⟨2,4,[.set (.nm 2) (.tx2 (.split true) (.var 0) (.cS " ")),.for_ (.nm 3) "seq" [.var 2] [.ite (.not (.call "is_number" [.var 3])) [.raiseX "NoText" (.var 1)] []],.ret (.comp true (.tx1 .int (.var 0)) (.nm 0) "seq" [.var 2] none 1 [])]⟩
noncomputable def d_is_number:MDef:=⟨1,1,[.ite (.or [.cmp .lt (.tx1 .len (.var 0)) (.cI 1),.cmp .gt (.tx1 .len (.var 0)) (.glob "MOST_FIGURES")]) [.ret (.cB false)] [],.ite (.and [.cmp .eq (.tx2 .at (.var 0) (.cI 0)) (.cS "0"),.cmp .gt (.tx1 .len (.var 0)) (.cI 1)]) [.ret (.cB false)] [],.ret (.blt true "all" [.comp true (.tx2 .inn (.var 0) (.glob "FIGURES")) (.nm 0) "signs" [.var 0] none 1 []])]⟩
noncomputable def Yz:MDef:=⟨2,4,[.setSub (.var 1) (.cI 0) (.bin true .add (.sub (.var 1) (.cI 0)) (.cI 1)),.set (.nm 2) (.cI 0),.ite (.cmp .gt (.blt true "len" [.var 0]) (.cI 0)) [.set (.nm 2) (.sub (.var 0) (.bin true .mod (.sub (.var 1) (.cI 0)) (.blt true "len" [.var 0])))] [],.set (.nm 3) (.bin true .mod (.bin true .mul (.bin true .add (.bin true .add (.bin true .mod (.var 2) (.cI 2147483647)) (.bin true .mul (.bin true .mul (.sub (.var 1) (.cI 0)) (.sub (.var 1) (.cI 0))) (.cI 7919))) (.cI 11)) (.cI 48271)) (.cI 2147483647)),.ret (.bin true .mod (.bin true .mul (.var 3) (.var 3)) (.cI 1999999973))]⟩
noncomputable def d__law_same:MDef:=⟨2,2,[.ite (.isN (.var 1)) [.ret (.isN (.var 0))] [],.ite (.isI (.var 1) "dict") [.ite (.or [.not (.isI (.var 0) "dict"),.cmp .ne (.blt true "len" [.var 0]) (.blt true "len" [.var 1])]) [.ret (.cB false)] [],.ret (.blt true "all" [.comp true (.and [.cmp .inn (.var 0) (.var 1),.call "_law_same" [.sub (.var 1) (.var 0),.sub (.var 2) (.var 0)]]) (.nm 0) "seq" [.var 1] none 1 [0,1]])] [],.ite (.or [.isI (.var 1) "list",.isI (.var 1) "tuple"]) [.ite (.and [.isI (.var 1) "list",.not (.isI (.var 0) "list")]) [.ret (.cB false)] [],.ite (.or [.and [.isI (.var 1) "tuple",.not (.isI (.var 0) "tuple")],.cmp .ne (.blt true "len" [.var 0]) (.blt true "len" [.var 1])]) [.ret (.cB false)] [],.ret (.blt true "all" [.comp true (.call "_law_same" [.var 0,.var 1]) (.tp [.nm 0,.nm 1]) "zip" [.var 0,.var 1] none 2 []])] [],.ite (.isI (.var 1) "str") [.ret (.and [.isI (.var 0) "str",.cmp .eq (.var 0) (.var 1)])] [],.ret (.and [.isI (.var 0) "int",.not (.isI (.var 0) "bool"),.cmp .eq (.var 0) (.var 1)])]⟩
noncomputable def qz:MDef:=⟨2,4,[.set (.nm 2) (.call "_law_next" [.var 0,.var 1]),.set (.nm 3) (.cI 0),.ite (.cmp .gt (.blt true "len" [.var 0]) (.cI 0)) [.set (.nm 3) (.sub (.var 0) (.bin true .mod (.sub (.var 1) (.cI 0)) (.blt true "len" [.var 0])))] [],.ret (.sub (.lst true [.cI 1,.cI 2,.cI 3,.cI 9,.cI 255,.bin true .add (.bin true .mod (.var 3) (.bin true .pow (.cI 10) (.cI 29))) (.cI 1),.bin true .sub (.bin true .sub (.bin true .pow (.cI 10) (.cI 30)) (.cI 1000)) (.bin true .mod (.var 2) (.cI 999))]) (.bin true .mod (.var 2) (.cI 7)))]⟩
noncomputable def d__law_tile_rows:MDef:=⟨5,10,[.set (.nm 5) (.lst false []),.for_ (.nm 6) "range" [.var 3] [.set (.nm 7) (.lst false []),.for_ (.nm 8) "range" [.var 4] [.set (.nm 9) (.call "_law_next" [.var 0,.var 1]),.expr (.lm "append" (.var 7) [.bin true .add (.cI 1) (.bin true .mod (.sub (.lst true [.bin true .add (.bin true .mul (.bin true .fdiv (.var 9) (.cI 4)) (.bin true .pow (.cI 10) (.cI 21))) (.var 9),.var 9,.cI 0,.bin true .sub (.var 2) (.cI 1)]) (.bin true .mod (.var 9) (.cI 4))) (.var 2))])],.expr (.lm "append" (.var 5) [.frz (.var 7)])],.ret (.frz (.var 5))]⟩
noncomputable def d__law_word:MDef:=⟨1,4,[.set (.nm 1) (.lst true [.isX (.var 0) "NoPicture",.isX (.var 0) "OutOfPicture",.isX (.var 0) "NoMeet",.isX (.var 0) "NoTile"]),.set (.nm 1) (.bin true .add (.var 1) (.lst true [.isX (.var 0) "NoInks",.isX (.var 0) "NoShares",.isX (.var 0) "NoShade"])),.set (.nm 1) (.bin true .add (.var 1) (.lst true [.isX (.var 0) "NoStretches",.isX (.var 0) "NoWay",.isX (.var 0) "NoText"])),.set (.nm 2) (.lst true [.cS "picture",.cS "out",.cS "meet",.cS "tile",.cS "inks",.cS "shares",.cS "shade",.cS "stretches",.cS "way",.cS "text"]),.set (.nm 3) (.comp true (.sub (.var 1) (.var 0)) (.nm 0) "range" [.cI 10] (some (.sub (.var 2) (.var 0))) 1 [2,1]),.ite (.or [.cmp .ne (.blt true "len" [.var 3]) (.cI 1),.not (.isX (.var 0) "ValueError")]) [.ret (.cS "many")] [],.ret (.sub (.var 3) (.cI 0))]⟩
noncomputable def d__law_text:MDef:=⟨2,2,[.ret (.tx2 .join (.cS "\n") (.bin true .add (.lst true [.tx1 .str (.var 0)]) (.comp true (.tx2 .join (.cS " ") (.comp true (.tx1 .str (.var 0)) (.nm 0) "seq" [.var 0] none 1 [])) (.nm 0) "seq" [.var 1] none 1 [])))]⟩
noncomputable def d__law_told:MDef:=⟨2,5,[.tryT [.ite (.cmp .eq (.var 0) (.cI 0)) [.set (.nm 2) (.tup [.cS "told",.call "read_picture" [.var 1]])] [.ite (.cmp .eq (.var 0) (.cI 1)) [.set (.nm 2) (.tup [.cS "told",.call "read_tile" [.var 1]])] [.set (.nm 2) (.tup [.cS "told",.call "read_numbers" [.var 1]])]]] 3 2 "no",.ite (.cmp .eq (.sub (.var 2) (.cI 0)) (.cS "told")) [.ret (.var 2)] [],.set (.nm 4) (.call "_law_word" [.sub (.var 2) (.cI 1)]),.ite (.cmp .eq (.var 4) (.cS "text")) [.ret (.tup [.cS "text",.lineX (.sub (.var 2) (.cI 1))])] [],.ret (.tup [.cS "no",.var 4])]⟩
noncomputable def d__law_bad : MDef := ⟨3, 8, [.set (.nm 3) (.call "_law_next" [.var 0, .var 1]), .set (.nm 4) (.tx2 (.split false) (.var 2) (.cS " ")), .set (.nm 5) (.bin true .mod (.bin true .fdiv (.var 3) (.cI 6)) (.blt true "len" [.var 4])), .set (.nm 6) (.sub (.var 4) (.var 5)), .ite (.cmp .eq (.bin true .mod (.var 3) (.cI 6)) (.cI 0)) [.ret (.sub (.lst true [.tx2 .cat (.var 2) (.cS " "), .tx2 .cat (.cS " ") (.var 2), .cS ""]) (.bin true .mod (.bin true .fdiv (.var 3) (.cI 100)) (.cI 3)))] [], .ite (.cmp .eq (.bin true .mod (.var 3) (.cI 6)) (.cI 1)) [.ret (.tx2 .join (.cS " ") (.bin true .add (.bin true .add (.slice true (.var 4) none (some (.var 5))) (.lst true [.cS ""])) (.slice true (.var 4) (some (.var 5)) none)))] [], .set (.nm 7) (.lst true [.tx2 .cat (.cS "0") (.var 6), .tx2 .cat (.cS "-") (.var 6), .tx2 .cat (.cS "+") (.var 6), .tx2 .cat (.var 6) (.cS "a"), .tx2 .cat (.var 6) (.cS "."), .tx2 .cat (.cS "1") (.tx2 .rep (.cS "0") (.cI 30)), .cS "a", .cS "1.0", .cS "--1", .cS "0x1"]), .set (.nm 7) (.bin true .add (.var 7) (.lst true [.cS "1_0", .cS "1e1"])), .setSub (.var 4) (.var 5) (.sub (.var 7) (.bin true .mod (.bin true .fdiv (.var 3) (.cI 100)) (.cI 12))), .ret (.tx2 .join (.cS " ") (.var 4))]⟩
noncomputable def d__law_rows_bad:MDef:=⟨4,7,[.set (.nm 4) (.bin true .mod (.call "_law_next" [.var 0,.var 1]) (.blt true "len" [.var 3])),.set (.nm 5) (.blt false "list" [.var 3]),.setSub (.var 5) (.var 4) (.call "_law_bad" [.var 0,.var 1,.sub (.var 3) (.var 4)]),.set (.nm 6) (.bin true .mod (.call "_law_next" [.var 0,.var 1]) (.blt true "len" [.var 3])),.ite (.cmp .gt (.var 6) (.var 4)) [.setSub (.var 5) (.var 6) (.call "_law_bad" [.var 0,.var 1,.sub (.var 3) (.var 6)])] [],.ret (.call "_law_same" [.call "_law_told" [.var 2,.tx2 .join (.cS "\n") (.var 5)],.tup [.cS "text",.var 4]])]⟩
noncomputable def d__law_rows_more:MDef:=⟨4,6,[.set (.nm 4) (.call "_law_next" [.var 0,.var 1]),.set (.nm 5) (.tx2 .join (.cS "\n") (.var 3)),.ite (.or [.not (.call "_law_same" [.call "_law_told" [.var 2,.tx2 .cat (.var 5) (.cS "\n")],.tup [.cS "text",.blt true "len" [.var 3]]]),.cmp .ne (.call "_law_told" [.var 2,.cS ""]) (.tup [.cS "text",.cI 0])]) [.ret (.cB false)] [],.ite (.cmp .eq (.var 2) (.cI 2)) [.ret (.call "_law_same" [.call "_law_told" [.cI 2,.tx2 .cat (.tx2 .cat (.var 5) (.cS "\n")) (.sub (.lst true [.var 5,.cS "0",.cS "x"]) (.bin true .mod (.var 4) (.cI 3)))],.tup [.cS "text",.cI 1]])] [],.ite (.not (.call "_law_same" [.call "_law_told" [.var 2,.sub (.var 3) (.cI 0)],.tup [.cS "text",.cI 1]])) [.ret (.cB false)] [],.ret (.call "_law_same" [.call "_law_told" [.var 2,.tx2 .join (.cS "\n") (.bin true .add (.lst true [.tx2 .cat (.sub (.var 3) (.cI 0)) (.cS " 1")]) (.sub (.lst true [.slice true (.var 3) (some (.cI 1)) none,.lst true [.cS "x"],.lst true []]) (.bin true .mod (.var 4) (.cI 3))))],.tup [.cS "text",.cI 0]])]⟩
noncomputable def d__law_none:MDef:=⟨5,11,[.set (.nm 5) (.call "_law_next" [.var 0,.var 1]),.set (.nm 6) (.comp false (.blt false "list" [.var 0]) (.nm 0) "seq" [.var 4] none 1 []),.set (.nm 7) (.bin true .mod (.var 5) (.blt true "len" [.var 6])),.set (.nm 8) (.bin true .mod (.bin true .fdiv (.var 5) (.cI 8)) (.blt true "len" [.sub (.var 6) (.cI 0)])),.set (.nm 9) (.var 3),.ite (.cmp .eq (.bin true .mod (.bin true .fdiv (.var 5) (.cI 64)) (.cI 4)) (.cI 0)) [.set (.nm 9) (.cI 0)] [.ite (.and [.cmp .eq (.bin true .mod (.bin true .fdiv (.var 5) (.cI 64)) (.cI 4)) (.cI 1),.cmp .gt (.blt true "len" [.var 6]) (.cI 1)]) [.expr (.lm "append" (.sub (.var 6) (.var 7)) [.cI 1])] [.ite (.and [.cmp .eq (.bin true .mod (.bin true .fdiv (.var 5) (.cI 64)) (.cI 4)) (.cI 2),.cmp .eq (.var 2) (.cI 1)]) [.setSub (.sub (.var 6) (.var 7)) (.var 8) (.cI 0)] [.setSub (.sub (.var 6) (.var 7)) (.var 8) (.bin true .add (.bin true .add (.var 3) (.cI 1)) (.bin true .mod (.bin true .fdiv (.var 5) (.cI 256)) (.cI 9)))]]],.frzS 6,.set (.nm 10) (.call "_law_text" [.var 9,.frz (.var 6)]),.ite (.cmp .ne (.call "_law_told" [.var 2,.var 10]) (.tup [.cS "no",.sub (.lst true [.cS "picture",.cS "tile"]) (.var 2)])) [.ret (.cB false)] [],.ret (.call "_law_same" [.call "_law_told" [.var 2,.tx2 .cat (.var 10) (.cS "\n")],.tup [.cS "text",.bin true .add (.blt true "len" [.var 6]) (.cI 1)]])]⟩
noncomputable def d__law_one:MDef:=⟨2,10,[.set (.nm 2) (.call "_law_next" [.var 0,.var 1]),.set (.nm 3) (.bin true .mod (.var 2) (.cI 3)),.set (.nm 4) (.call "_law_most" [.var 0,.var 1]),.set (.nm 5) (.call "_law_tile_rows" [.var 0,.var 1,.var 4,.bin true .add (.cI 1) (.bin true .mod (.bin true .fdiv (.var 2) (.cI 3)) (.cI 4)),.bin true .add (.cI 1) (.bin true .mod (.bin true .fdiv (.var 2) (.cI 12)) (.cI 5))]),.set (.nm 6) (.call "_law_text" [.var 4,.var 5]),.ite (.cmp .eq (.var 3) (.cI 2)) [.set (.nm 6) (.sub (.tx2 (.split true) (.var 6) (.cS "\n")) (.cI 1))] [],.set (.nm 7) (.tx2 (.split true) (.var 6) (.cS "\n")),.for_ (.nm 8) "range" [.cI 3] [.ite (.not (.call "_law_rows_bad" [.var 0,.var 1,.var 3,.var 7])) [.ret (.cB false)] []],.ite (.not (.call "_law_rows_more" [.var 0,.var 1,.var 3,.var 7])) [.ret (.cB false)] [],.ite (.and [.cmp .lt (.var 3) (.cI 2),.not (.call "_law_none" [.var 0,.var 1,.var 3,.var 4,.var 5])]) [.ret (.cB false)] [],.set (.nm 9) (.call "_law_told" [.var 3,.var 6]),.ite (.cmp .eq (.var 3) (.cI 2)) [.ret (.call "_law_same" [.var 9,.tup [.cS "told",.sub (.var 5) (.cI 0)]])] [],.ite (.cmp .ne (.sub (.var 9) (.cI 0)) (.cS "told")) [.ret (.cB false)] [],.ite (.or [.and [.cmp .eq (.var 3) (.cI 0),.not (.isI (.sub (.var 9) (.cI 1)) "Picture")],.and [.cmp .eq (.var 3) (.cI 1),.not (.isI (.sub (.var 9) (.cI 1)) "Tile")]]) [.ret (.cB false)] [],.ret (.call "_law_same" [.fld (.sub (.var 9) (.cI 1)) "rows",.blt true "tuple" [.comp true (.blt true "tuple" [.var 0]) (.nm 0) "seq" [.var 5] none 1 []]])]⟩
noncomputable def d_law:MDef:=⟨1,3,[.set (.nm 1) (.lst false [.cI 0]),.for_ (.nm 2) "range" [.bin true .add (.cI 1) (.blt true "min" [.cI 3,.bin true .fdiv (.blt true "len" [.var 0]) (.cI 16)])] [.ite (.not (.call "_law_one" [.var 0,.var 1])) [.ret (.cB false)] []],.ret (.cB true)]⟩
noncomputable def d_NoText___init__:MDef:=⟨1,1,[.retN]⟩
noncomputable def defsL:List (String×MDef):=[("own_rows",YE),("fault_of",d_fault_of),("Picture.__init__",d_Picture___init__),("Tile.__init__",d_Tile___init__),("read_picture",d_read_picture),("read_tile",d_read_tile),("read_numbers",d_read_numbers),("read_rows",d_read_rows),("numbers_in",d_numbers_in),("is_number",d_is_number),("_law_next",Yz),("_law_same",d__law_same),("_law_most",qz),("_law_tile_rows",d__law_tile_rows),("_law_word",d__law_word),("_law_text",d__law_text),("_law_told",d__law_told),("_law_bad",d__law_bad),("_law_rows_bad",d__law_rows_bad),("_law_rows_more",d__law_rows_more),("_law_none",d__law_none),("_law_one",d__law_one),("law",d_law),("NoText.__init__",d_NoText___init__)]
noncomputable def methsL:List ((String×String)×String):=[(("Picture","__init__"),"Picture.__init__"),(("Tile","__init__"),"Tile.__init__")]
noncomputable def subsL:List ((String×String)×Bool):=[(("Picture","Picture"),true),(("Picture","Tile"),false),(("Picture","dict"),false),(("Picture","list"),false),(("Picture","tuple"),false),(("Picture","str"),false),(("Picture","int"),false),(("Picture","bool"),false),(("Tile","Picture"),false),(("Tile","Tile"),true),(("Tile","dict"),false),(("Tile","list"),false),(("Tile","tuple"),false),(("Tile","str"),false),(("Tile","int"),false),(("Tile","bool"),false)]
noncomputable def prog:Prog where
 defs:=λf=>defsL.lookup f
 globs:=λx=>match x with
  |"FIGURES"=>some (.str "0123456789")
  |"MOST_FIGURES"=>some (.int 30)
  |_=>none
 meths:=λc m=>methsL.lookup (c,m)
 subs:=λc t=>subsL.lookup (c,t)
 fok:=λc n=>match c,n with
  |"Picture","most"=>true
  |"Picture","rows"=>true
  |"Tile","count"=>true
  |"Tile","rows"=>true
  |_,_=>false
 word:=λw c=>match w,c with
  |_,_=>none
 words:=λw=>match w with
  |_=>false
 excs:=λc=>match c with
  |"NoPicture"=>true
  |"NoTile"=>true
  |_=>false
 exci:=λc=>match c with
  |"NoText"=>some "NoText.__init__"
  |_=>none
 xsubs:=λc t=>match c with
  |"NoPicture"=>(match t with
   |"NoPicture"=>some true
   |"OutOfPicture"=>some false
   |"NoMeet"=>some false
   |"NoTile"=>some false
   |"NoInks"=>some false
   |"NoShares"=>some false
   |"NoShade"=>some false
   |"NoStretches"=>some false
   |"NoWay"=>some false
   |"NoText"=>some false
   |"ValueError"=>some true
   |_=>none)
  |"NoTile"=>(match t with
   |"NoPicture"=>some false
   |"OutOfPicture"=>some false
   |"NoMeet"=>some false
   |"NoTile"=>some true
   |"NoInks"=>some false
   |"NoShares"=>some false
   |"NoShade"=>some false
   |"NoStretches"=>some false
   |"NoWay"=>some false
   |"NoText"=>some false
   |"ValueError"=>some true
   |_=>none)
  |"NoText"=>(match t with
   |"NoPicture"=>some false
   |"OutOfPicture"=>some false
   |"NoMeet"=>some false
   |"NoTile"=>some false
   |"NoInks"=>some false
   |"NoShares"=>some false
   |"NoShade"=>some false
   |"NoStretches"=>some false
   |"NoWay"=>some false
   |"NoText"=>some true
   |"ValueError"=>some true
   |_=>none)
  |_=>none
 xcls:=λt=>match t with
  |"NoPicture"=>true
  |"OutOfPicture"=>true
  |"NoMeet"=>true
  |"NoTile"=>true
  |"NoInks"=>true
  |"NoShares"=>true
  |"NoShade"=>true
  |"NoStretches"=>true
  |"NoWay"=>true
  |"NoText"=>true
  |"ValueError"=>true
  |_=>false
 xt:=true
 turns:=1000000
@[simp] theorem Zb1:prog.defs "own_rows"=some YE:=rfl
@[simp] theorem ZaH:prog.defs "fault_of"=some d_fault_of:=rfl
@[simp] theorem yJ:prog.defs "Picture.__init__"=some d_Picture___init__:=rfl
@[simp] theorem zW:prog.defs "Tile.__init__"=some d_Tile___init__:=rfl
@[simp] theorem ZY:prog.defs "read_picture"=some d_read_picture:=rfl
@[simp] theorem qar:prog.defs "read_tile"=some d_read_tile:=rfl
@[simp] theorem Q0:prog.defs "read_numbers"=some d_read_numbers:=rfl
@[simp] theorem zap:prog.defs "read_rows"=some d_read_rows:=rfl
@[simp] theorem zah:prog.defs "numbers_in"=some d_numbers_in:=rfl
@[simp] theorem yan:prog.defs "is_number"=some d_is_number:=rfl
@[simp] theorem Qar:prog.defs "_law_next"=some Yz:=rfl
@[simp] theorem yaq:prog.defs "_law_same"=some d__law_same:=rfl
@[simp] theorem Yaq:prog.defs "_law_most"=some qz:=rfl
@[simp] theorem qS:prog.defs "_law_tile_rows"=some d__law_tile_rows:=rfl
@[simp] theorem qap:prog.defs "_law_word"=some d__law_word:=rfl
@[simp] theorem Yan:prog.defs "_law_text"=some d__law_text:=rfl
@[simp] theorem Zas:prog.defs "_law_told"=some d__law_told:=rfl
@[simp] theorem yaC:prog.defs "_law_bad"=some d__law_bad:=rfl
@[simp] theorem ZX:prog.defs "_law_rows_bad"=some d__law_rows_bad:=rfl
@[simp] theorem yR:prog.defs "_law_rows_more"=some d__law_rows_more:=rfl
@[simp] theorem yap:prog.defs "_law_none"=some d__law_none:=rfl
@[simp] theorem QaA:prog.defs "_law_one"=some d__law_one:=rfl
@[simp] theorem YbP:prog.defs "law"=some d_law:=rfl
@[simp] theorem zP:prog.defs "NoText.__init__"=some d_NoText___init__:=rfl
@[simp] theorem YbH:prog.fok "Picture" "most"=true:=rfl
@[simp] theorem ybA:prog.fok "Picture" "rows"=true:=rfl
@[simp] theorem Ybd:prog.subs "Picture" "Picture"=some true:=rfl
@[simp] theorem YbG:prog.subs "Picture" "Tile"=some false:=rfl
@[simp] theorem qbQ:prog.fok "Tile" "count"=true:=rfl
@[simp] theorem zb3:prog.fok "Tile" "rows"=true:=rfl
@[simp] theorem yby:prog.subs "Tile" "Picture"=some false:=rfl
@[simp] theorem qb3:prog.subs "Tile" "Tile"=some true:=rfl
@[simp] theorem Ya5:prog.meths "Picture" "__init__"=some "Picture.__init__":=rfl
@[simp] theorem ybt:prog.meths "Tile" "__init__"=some "Tile.__init__":=rfl
@[simp] theorem zaI:prog.xsubs "NoPicture" "NoPicture"=some true:=rfl
@[simp] theorem yao:prog.xsubs "NoPicture" "OutOfPicture"=some false:=rfl
@[simp] theorem Qa7:prog.xsubs "NoPicture" "NoMeet"=some false:=rfl
@[simp] theorem Qa6:prog.xsubs "NoPicture" "NoTile"=some false:=rfl
@[simp] theorem Za1:prog.xsubs "NoPicture" "NoInks"=some false:=rfl
@[simp] theorem qaP:prog.xsubs "NoPicture" "NoShares"=some false:=rfl
@[simp] theorem QaW:prog.xsubs "NoPicture" "NoShade"=some false:=rfl
@[simp] theorem Yaw:prog.xsubs "NoPicture" "NoStretches"=some false:=rfl
@[simp] theorem Zbf:prog.xsubs "NoPicture" "NoWay"=some false:=rfl
@[simp] theorem zaY:prog.xsubs "NoPicture" "NoText"=some false:=rfl
@[simp] theorem qaC:prog.xsubs "NoPicture" "ValueError"=some true:=rfl
@[simp] theorem Qa4:prog.xsubs "NoTile" "NoPicture"=some false:=rfl
@[simp] theorem QaH:prog.xsubs "NoTile" "OutOfPicture"=some false:=rfl
@[simp] theorem Zbt:prog.xsubs "NoTile" "NoMeet"=some false:=rfl
@[simp] theorem zbt:prog.xsubs "NoTile" "NoTile"=some true:=rfl
@[simp] theorem Zbu:prog.xsubs "NoTile" "NoInks"=some false:=rfl
@[simp] theorem Qa9:prog.xsubs "NoTile" "NoShares"=some false:=rfl
@[simp] theorem zbl:prog.xsubs "NoTile" "NoShade"=some false:=rfl
@[simp] theorem QaI:prog.xsubs "NoTile" "NoStretches"=some false:=rfl
@[simp] theorem ZbA:prog.xsubs "NoTile" "NoWay"=some false:=rfl
@[simp] theorem Qbt:prog.xsubs "NoTile" "NoText"=some false:=rfl
@[simp] theorem zaX:prog.xsubs "NoTile" "ValueError"=some true:=rfl
@[simp] theorem ZaY:prog.xsubs "NoText" "NoPicture"=some false:=rfl
@[simp] theorem ZaI:prog.xsubs "NoText" "OutOfPicture"=some false:=rfl
@[simp] theorem qbt:prog.xsubs "NoText" "NoMeet"=some false:=rfl
@[simp] theorem Ybt:prog.xsubs "NoText" "NoTile"=some false:=rfl
@[simp] theorem ybu:prog.xsubs "NoText" "NoInks"=some false:=rfl
@[simp] theorem Zbc:prog.xsubs "NoText" "NoShares"=some false:=rfl
@[simp] theorem Ybh:prog.xsubs "NoText" "NoShade"=some false:=rfl
@[simp] theorem qaM:prog.xsubs "NoText" "NoStretches"=some false:=rfl
@[simp] theorem YbM:prog.xsubs "NoText" "NoWay"=some false:=rfl
@[simp] theorem zbu:prog.xsubs "NoText" "NoText"=some true:=rfl
@[simp] theorem qaW:prog.xsubs "NoText" "ValueError"=some true:=rfl
@[simp] theorem Qcv:prog.globs "FIGURES"=some (.str "0123456789"):=rfl
@[simp] theorem QbF:prog.globs "MOST_FIGURES"=some (.int 30):=rfl
theorem Qd(n:Nat)(f:String)(as:List MV)(h:MH):run prog (n+1) f as h=opt (prog.defs f) λd=>if as.length=d.np then zd h (yb prog (run prog n) d.body (as.map some++Wd (d.ns-d.np) none) h) else .stuck:=rfl
@[simp] theorem Qcu:prog.exci "NoText"=some "NoText.__init__":=rfl
@[simp] theorem Zct(i:Nat):xcl (xn "NoText" i)="NoText":=ZbK (by decide)
@[simp] theorem Ycu(i:Nat):Yn (xn "NoText" i)=some (i:Int):=qbc (by decide)
@[simp] theorem qbX:xcl "NoPicture"="NoPicture":=QX (by decide)
@[simp] theorem zcy:xcl "NoTile"="NoTile":=QX (by decide)
@[simp] theorem qcv:xcl "NoText"="NoText":=QX (by decide)
theorem qaE(n:Nat)(a0 a1 a2:MV)(h:MH):run prog (n+1) "fault_of" [a0,a1,a2] h=zd h (yb prog (run prog n) d_fault_of.body [some a0,some a1,some a2,none] h):=by rw[Qd,ZaH];rfl
theorem qK(n:Nat)(a0 a1 a2:MV)(h:MH):run prog (n+1) "Picture.__init__" [a0,a1,a2] h=zd h (yb prog (run prog n) d_Picture___init__.body [some a0,some a1,some a2,none,none] h):=by rw[Qd,yJ];rfl
theorem qX(n:Nat)(a0 a1 a2:MV)(h:MH):run prog (n+1) "Tile.__init__" [a0,a1,a2] h=zd h (yb prog (run prog n) d_Tile___init__.body [some a0,some a1,some a2,none,none] h):=by rw[Qd,zW];rfl
theorem QC(n:Nat)(a0:MV)(h:MH):run prog (n+1) "read_picture" [a0] h=zd h (yb prog (run prog n) d_read_picture.body [some a0,none] h):=by rw[Qd,ZY];rfl
theorem QQ(n:Nat)(a0:MV)(h:MH):run prog (n+1) "read_tile" [a0] h=zd h (yb prog (run prog n) d_read_tile.body [some a0,none] h):=by rw[Qd,qar];rfl
theorem zr(n:Nat)(a0:MV)(h:MH):run prog (n+1) "read_numbers" [a0] h=zd h (yb prog (run prog n) d_read_numbers.body [some a0,none,none] h):=by rw[Qd,Q0];rfl
theorem yA(n:Nat)(a0:MV)(h:MH):run prog (n+1) "read_rows" [a0] h=zd h (yb prog (run prog n) d_read_rows.body [some a0,none,none,none,none] h):=by rw[Qd,zap];rfl
theorem YL(n:Nat)(a0 a1:MV)(h:MH):run prog (n+1) "numbers_in" [a0,a1] h=zd h (yb prog (run prog n) d_numbers_in.body [some a0,some a1,none,none] h):=by rw[Qd,zah];rfl
theorem Qz(n:Nat)(a0:MV)(h:MH):run prog (n+1) "is_number" [a0] h=zd h (yb prog (run prog n) d_is_number.body [some a0] h):=by rw[Qd,yan];rfl
theorem Zaq(n:Nat)(a0 a1:MV)(h:MH):run prog (n+1) "_law_same" [a0,a1] h=zd h (yb prog (run prog n) d__law_same.body [some a0,some a1] h):=by rw[Qd,yaq];rfl
theorem YR(n:Nat)(a0 a1 a2 a3 a4:MV)(h:MH):run prog (n+1) "_law_tile_rows" [a0,a1,a2,a3,a4] h=zd h (yb prog (run prog n) d__law_tile_rows.body [some a0,some a1,some a2,some a3,some a4,none,none,none,none,none] h):=by rw[Qd,qS];rfl
theorem Qap(n:Nat)(a0:MV)(h:MH):run prog (n+1) "_law_word" [a0] h=zd h (yb prog (run prog n) d__law_word.body [some a0,none,none,none] h):=by rw[Qd,qap];rfl
theorem Yar(n:Nat)(a0 a1:MV)(h:MH):run prog (n+1) "_law_text" [a0,a1] h=zd h (yb prog (run prog n) d__law_text.body [some a0,some a1] h):=by rw[Qd,Yan];rfl
theorem Zs(n:Nat)(a0 a1:MV)(h:MH):run prog (n+1) "_law_told" [a0,a1] h=zd h (yb prog (run prog n) d__law_told.body [some a0,some a1,none,none,none] h):=by rw[Qd,Zas];rfl
theorem yF(n:Nat)(a0 a1 a2:MV)(h:MH):run prog (n+1) "_law_bad" [a0,a1,a2] h=zd h (yb prog (run prog n) d__law_bad.body [some a0,some a1,some a2,none,none,none,none,none] h):=by rw[Qd,yaC];rfl
theorem yz(n:Nat)(a0 a1 a2 a3:MV)(h:MH):run prog (n+1) "_law_rows_bad" [a0,a1,a2,a3] h=zd h (yb prog (run prog n) d__law_rows_bad.body [some a0,some a1,some a2,some a3,none,none,none] h):=by rw[Qd,ZX];rfl
theorem yy(n:Nat)(a0 a1 a2 a3:MV)(h:MH):run prog (n+1) "_law_rows_more" [a0,a1,a2,a3] h=zd h (yb prog (run prog n) d__law_rows_more.body [some a0,some a1,some a2,some a3,none,none] h):=by rw[Qd,yR];rfl
theorem Yap(n:Nat)(a0 a1 a2 a3 a4:MV)(h:MH):run prog (n+1) "_law_none" [a0,a1,a2,a3,a4] h=zd h (yb prog (run prog n) d__law_none.body [some a0,some a1,some a2,some a3,some a4,none,none,none,none,none,none] h):=by rw[Qd,yap];rfl
theorem zX(n:Nat)(a0 a1:MV)(h:MH):run prog (n+1) "_law_one" [a0,a1] h=zd h (yb prog (run prog n) d__law_one.body [some a0,some a1,none,none,none,none,none,none,none,none] h):=by rw[Qd,QaA];rfl
theorem YbO(n:Nat)(a0:MV)(h:MH):run prog (n+1) "law" [a0] h=zd h (yb prog (run prog n) d_law.body [some a0,none,none] h):=by rw[Qd,YbP];rfl
theorem ZP(n:Nat)(a0:MV)(h:MH):run prog (n+1) "NoText.__init__" [a0] h=zd h (yb prog (run prog n) d_NoText___init__.body [some a0] h):=by rw[Qd,zP];rfl
noncomputable def qa(b:Bool)(r:List Int):FV:=sq b (r.map .int)
noncomputable def Ya(b1 b2:Bool)(rows:List (List Int)):FV:=sq b1 (rows.map (qa b2))
noncomputable def zbL(most:Int)(rows:List (List Int)):FV:=.obj "Picture" ["most","rows"] [.int most,Ya true true rows]
theorem ze:sizeL=4194304:=rfl
section
variable (h:MH)
theorem TrOk.obj(c:String)(fs:List (String×FV))(ds:MH):TrOk (h++[.obj c []]) (h++.obj c (fs.map λp=>(p.1,MV.f p.2))::ds):=by
 refine⟨by simp,λi d hi e=>?_⟩;by_cases hl:i<h.length
 ·rw[va hl] at e ⊢;exact .inl e
 ·have:i=h.length:=by simp at hi;lia
  subst this;simp at e;subst e;exact .inr ⟨fs,rfl⟩
end
noncomputable def qQ(r:List Int):Cell:=.lst (r.map λi=>.f (.int i))
section
variable (h:MH)
theorem yav(bd:MV->MSt->MH->R (Option MV×MSt))(e:List Int->MV)(hb:∀ r z h,∃ z',bd (e r) [z] h=.ok (some (.ref h.length),[z']) (h++[qQ r])):∀(rows:List (List Int)) (acc:List MV) (z:Option MV) (h:MH),acc.length+rows.length<=sizeL ->
  Qi [] bd (rows.map e) acc [z] h=.ok (acc++(Ue rows.length).map λi=>MV.ref (h.length+i)) (h++rows.map qQ)
 |[],acc,z,h,_=>by simp[Qi]
 |r::rows,acc,z,h,hl=>by
  obtain⟨z',e1⟩:=hb r z h;simp only[ue] at hl;have ih:=yav bd e hb rows (acc++[.ref h.length]) z' (h++[qQ r]) (by simp;lia);simp only[xc,Qi,QaS,true_and,e1,R.bind_ok,ih,xf,ue,Vr];rw[if_pos (by lia)]
  congr 1
  ·simp[List.range_succ_eq_map,Vi];intro a _
   lia
  ·simp
noncomputable def own(h:MH)(rows:List (List Int)):MH:=h++(rows.map qQ++[.lst ((Ue rows.length).map λi=>MV.ref (h.length+i))])
theorem zaF(rows:List (List Int)):Ye (own h rows) (h.length+rows.length)=some ((Ue rows.length).map λi=>MV.ref (h.length+i)):=by
 unfold own Ye;rw[Xd (by lia),Xd (by simp)];simp
theorem qad(rows:List (List Int))(i:Nat)(r:List Int)(e:rows[i]?=some r):Ye (own h rows) (h.length+i)=some (r.map λi=>.f (.int i)):=by
 have hi:=(Xa.mp e).1;unfold own Ye;rw[Xd (by lia),va (by simp;lia)];simp[e,qQ]
theorem qbC(rows:List (List Int)):ZM (own h rows) (.ref (h.length+rows.length))=some (Ya false false rows):=by
 have hr:∀ m (xs:List Nat),(∀ i∈xs,i<rows.length)->(xs.map λi=>MV.ref (h.length+i)).mapM (qk (own h rows) (m+2))=some (xs.map λi=>qa false (rows.getD i [])):=by
  intro m xs
  induction xs with
  |nil=>intro _;rfl
  |cons x xs ih =>
   intro hx;have hx0:=hx x (by simp);have e:rows[x]?=some (rows.getD x []):=by simp[vz,hx0]
   have e1:qk (own h rows) (m+2) (.ref (h.length+x))=some (qa false (rows.getD x [])):=by
    simp only[qk,qad h rows x _ e,Xk];have:(List.map (λi=>MV.f (FV.int i)) (rows.getD x []))=((rows.getD x []).map FV.int).map MV.f:=by simp
    rw[this,ZaX];rfl
   simp only[xc,Wn,e1,ih λi hi=>hx i (by simp[hi])];rfl
 unfold ZM;simp only[qk,zaF,Xk];rw[hr 2 _ (by simp)];simp only[wj,Ya,sq,Option.some.injEq]
 congr 1
 apply uo;intro k;by_cases hk:k<rows.length
 ·simp[hk,vz]
 ·simp[hk]
theorem Ybi(rows:List (List Int)):∀ a∈Ql (own h rows) 5 (.ref (h.length+rows.length)),h.length<=a:=by
 intro a ha;simp only[Ql,zaF,Xr,xa,ur,Wl,uq] at ha
 rcases ha with rfl|⟨m,⟨i,hi,rfl⟩,ha⟩
 ·lia
 ·have e:rows[i]?=some (rows[i]):=by simp[hi]
  simp only[Ql,qad h rows i _ e,Xr,xa,ur,Wl] at ha
  rcases ha with rfl|⟨m,⟨i,_,rfl⟩,ha⟩
  ·lia
  ·simp[Ql] at ha
theorem QbT(rows:List (List Int)):∃ t',QD (.ref (h.length+rows.length)) (own h rows)=.ok (.f (Ya false false rows)) (h++t'):=by
 obtain⟨t',e⟩:=yaV h (rows.map qQ++[.lst ((Ue rows.length).map λi=>MV.ref (h.length+i))]) (Ql (own h rows) 5 (.ref (h.length+rows.length))) (Ybi h rows);refine⟨t',?_⟩;unfold QD;rw[qbC,Yb];unfold own at e ⊢;rw[e]
end
@[simp] theorem cellL_at(xs:List MV)(t:MH):Ye (.lst xs::t) 0=some xs:=rfl
@[simp] theorem Yco(xs ys:List MV)(t:MH):yf (.lst xs::t) 0 ys=.lst ys::t:=rfl
noncomputable def QE(ns:List Int)(k:Int):Int:=if ns=[] then 0 else ns.getD (k%ns.length).toNat 0
noncomputable def zL(ns:List Int)(k:Int):Int:=((QE ns k%2147483647+k*k*7919+11)*48271%2147483647)*((QE ns k%2147483647+k*k*7919+11)*48271%2147483647)%1999999973
theorem yW(ns:List Int)(k:Int):0<=zL ns k/\zL ns k<1999999973:=⟨Wj _ (by decide),vh _ (by decide)⟩
noncomputable abbrev atC(k:Int):Cell:=.lst [I k]
theorem YN{i j:Int}(h:j.natAbs<2^64):Zaa i j:=.inr (.inl h)
section
variable {h:MH}
@[simp] theorem ycg(a:Nat)(y:MV):lmV "append" (.ref a) [y] h=opt (Ye h a) λxs=>if xs.length<sizeL then .ok (.f .non) (yf h a (xs++[y])) else .stuck:=rfl
@[simp] theorem Zce(a:Nat)(i:Int)(y:MV):lmV "insert" (.ref a) [.f (.int i),y] h=opt (Ye h a) λxs=>if xs.length<sizeL/\-(2^63)<=i/\i<2^63 then .ok (.f .non) (yf h a (insertAt xs i y)) else .stuck:=rfl
end
theorem ya5{bd:MV->MSt->MH->RS}(N:Nat)(Pv:Nat->MSt->MH->Prop)(σ:MSt)(h:MH)(h0:Pv 0 σ h)
  (step:∀ i σ h,i<N->Pv i σ h->∃ σ' h',bd (I i) σ h=.next σ' h'/\Pv (i+1) σ' h'):∃ σ' h',Qp [] bd ((Ue N).map λ(k:Nat)=>I k) σ h=.next σ' h'/\Pv N σ' h':=by
 have:=yam (bd:=bd) (e:=λk:Nat=>I k) Pv (Ue N) 0 σ h h0 (λj y σ h hj pj=>by
  have hl:j<N:=by have:=(Xa.mp hj).1;simpa using this
  have hy:y=j:=by rw[Vt hl] at hj;exact(Option.some.inj hj).symm
  subst hy;simp only[Xt] at pj ⊢;exact step y σ h hl pj)
 simpa using this
noncomputable def Own(h g:MH)(xs:List MV):Prop:=∃ t,g=h++.lst xs::t
namespace Own
variable {h g:MH} {xs:List MV}
theorem new(h:MH):Own h (h++[.lst xs]) xs:=⟨[],rfl⟩
theorem cell(o:Own h g xs)(c:Cell):Ye (c::g) (h.length+1)=some xs:=by
 obtain⟨t,rfl⟩:=o;have:=Zo (c::h) t xs;simpa using this
theorem more(o:Own h g xs)(ds:MH):Own h (g++ds) xs:=by
 obtain⟨t,rfl⟩:=o;exact⟨t++ds,by simp⟩
theorem set(o:Own h g xs)(c:Cell)(ys:List MV):∃ g',yf (c::g) (h.length+1) ys=c::g'/\Own h g' ys:=by
 obtain⟨t,rfl⟩:=o;exact⟨h++.lst ys::t,by have:=ZK (c::h) t xs ys;simpa using this,t,rfl⟩
theorem frz{ys:List FV}(o:Own h g (ys.map .f))(c:Cell):∃ t',QD (.ref (h.length+1)) (c::g)=.ok (.f (.lst ys)) (c::(h++t')):=by
 obtain⟨t,rfl⟩:=o;obtain⟨t',e⟩:=za9 (c::h) t ys;exact⟨t',by simpa using e⟩
end Own
theorem mod_lt(i j:Int)(hj:0<j):0<=i%j/\i%j<j:=⟨Wj _ (by lia),vh _ hj⟩
theorem Ybs(ns:List Int)(hn:ns≠[])(k:Int):atM (ns.map λi=>MV.f (.int i)) (k%ns.length)=some (I (QE ns k)):=by
 have hl:0<ns.length:=Vh.mpr hn;have h0:0<=k%(ns.length:Int):=Wj _ (by lia);have h1:k%(ns.length:Int)<ns.length:=vh _ (by lia);rw[zaC _ _ h0,We,we (by lia)];simp[QE,hn,vz,we (show(k%(ns.length:Int)).toNat<ns.length by lia)]
noncomputable def Nx(r:RS)(P:MSt->MH->Prop):Prop:=∃ σ h,r=.next σ h/\P σ h
noncomputable def Ret(r:R MV)(P:MV->MH->Prop):Prop:=∃ v h,r=.ok v h/\P v h
@[simp] theorem Nx_next(σ:MSt)(h:MH)(P:MSt->MH->Prop):Nx (.next σ h) P↔P σ h:=⟨λ⟨_,_,e,p⟩=>by cases e;exact p,λp=>⟨_,_,rfl,p⟩⟩
@[simp] theorem Ret_ok(v:MV)(h:MH)(P:MV->MH->Prop):Ret (.ok v h) P↔P v h:=⟨λ⟨_,_,e,p⟩=>by cases e;exact p,λp=>⟨_,_,rfl,p⟩⟩
section
variable {bd:MV->MSt->MH->RS} {σ:MSt} {h:MH} {k:MSt->MH->RS}
theorem zN{Q:RS->Prop}(N:Nat)(Pv:Nat->MSt->MH->Prop)(h0:Pv 0 σ h)(step:∀ i σ h,i<N->Pv i σ h->∀ Q:MSt->MH->Prop,(∀ σ h,Pv (i+1) σ h->Q σ h)->Nx (bd (I i) σ h) Q)
  (fin:∀ σ' h',Pv N σ' h'->Q (k σ' h')):Q ((Qp [] bd ((Ue N).map λ(k:Nat)=>I k) σ h).bind k):=by
 obtain⟨σ',h',e,p⟩:=ya5 N Pv σ h h0 λi σ h hi p=>step i σ h hi p _ λ_ _ x=>x;rw[e];exact fin σ' h' p
theorem YaS{α:Type}{e:α->MV}{Q:RS->Prop}(ys:List α)(Pv:Nat->MSt->MH->Prop)(h0:Pv 0 σ h)(step:∀ i y σ h,ys[i]?=some y->Pv i σ h->∀ Q:MSt->MH->Prop,(∀ σ h,Pv (i+1) σ h->Q σ h)->Nx (bd (e y) σ h) Q)
  (fin:∀ σ' h',Pv ys.length σ' h'->Q (k σ' h')):Q ((Qp [] bd (ys.map e) σ h).bind k):=by
 obtain⟨σ',h',e,p⟩:=yam (bd:=bd) (e:=e) Pv ys 0 σ h h0 (λj y σ h hj pj=>by simp only[Xt] at pj ⊢;exact step j y σ h hj pj _ λ_ _ x=>x);rw[e];exact fin σ' h' (by simpa using p)
end
theorem Ret.of{r:R MV}{P:MV->MH->Prop}(k:∀ Q:MV->MH->Prop,(∀ v h,P v h->Q v h)->Ret r Q):Ret r P:=k P λ_ _ x=>x
theorem Ret.eq{r:R MV}{a:MV}{b:MH}(k:∀ Q:MV->MH->Prop,(∀ v h,v=a/\h=b->Q v h)->Ret r Q):r=.ok a b:=by
 obtain⟨v,h,e,rfl,rfl⟩:=k (λv h=>v=a/\h=b) λ_ _ x=>x;exact e
theorem Qbm(c:Cell)(g:MH)(d:Cell):kill [g.length+1] (c::(g++[d]))=c::(g++[.dead]):=by
 unfold kill;refine uo λi=>?_;rw[Um];cases i with
 |zero=>simp
 |succ i =>
  simp only[List.getElem?_cons_succ,Ua]
  rcases Nat.lt_trichotomy i g.length with hi|hi|hi
  ·rw[va hi,va hi];have:¬ i+1=g.length+1:=by lia
   simp only[this,if_false];cases g[i]? <;> rfl
  ·subst hi;simp
  ·rw[Ux (by simp;lia),Ux (by simp;lia)];rfl
theorem qbH(c:Cell)(g:MH)(ys:List FV):QD (.ref (g.length+1)) (c::(g++[.lst (ys.map .f)]))=.ok (.f (.lst ys)) (c::(g++[.dead])):=by
 rw[zaJ _ _ ys ((Own.new (xs:=ys.map .f) g).cell c),Qbm]
theorem Qak(c:Cell)(g:MH)(xs ys:List MV):yf (c::(g++[.lst xs])) (g.length+1) ys=c::(g++[.lst ys]):=by
 have:=ZK (c::g) [] xs ys;simpa using this
section
variable {h:MH} (sub:String->String->Option Bool) (t:String)
@[simp] theorem isIV_non:yP sub h (.f .non) t=some false:=rfl
@[simp] theorem isIV_bl(b:Bool):yP sub h (.f (.bl b)) t=some (decide (t="bool")||decide (t="int")):=rfl
@[simp] theorem isIV_int(i:Int):yP sub h (.f (.int i)) t=some (decide (t="int")):=rfl
@[simp] theorem isIV_str(s:Str):yP sub h (.f (.str s)) t=some (decide (t="str")):=rfl
@[simp] theorem isIV_tup(xs:List FV):yP sub h (.f (.tup xs)) t=some (decide (t="tuple")):=rfl
@[simp] theorem isIV_lst(xs:List FV):yP sub h (.f (.lst xs)) t=some (decide (t="list")):=rfl
@[simp] theorem isIV_obj(c:String)(ns:List String)(xs:List FV):yP sub h (.f (.obj c ns xs)) t=sub c t:=rfl
end
noncomputable def isP:Nat->FV->Bool
 |_+1,.non=>true
 |_+1,.int _=>true
 |_+1,.str s=>sOk s
 |n+1,.tup xs=>decide (xs.length<=sizeL)&&xs.all (isP n)
 |n+1,.lst xs=>decide (xs.length<=sizeL)&&xs.all (isP n)
 |_,_=>false
@[simp] theorem eqF_bl(a b:Bool):eqF (.bl a) (.bl b)=some (a==b):=by simp[eqF,eqD]
theorem Zak{α:Type}:∀ xs:List α,xs.zip xs=xs.map λx=>(x,x)
 |[]=>rfl
 |x::r=>by simp[Zak r]
theorem ycn(xs:List MV)(i:Int)(h0:0<=i)(h1:i<=xs.length):yar xs none (some i)=xs.take i.toNat:=by
 have e:Yao xs.length xs.length (some i)=i.toNat:=by simp only[Yao];rw[if_neg (by lia)];lia
 simp only[yar,e];simp[Yao]
theorem QaD(xs:List MV)(i:Int)(h0:0<=i)(h1:i<=xs.length):yar xs (some i) none=xs.drop i.toNat:=by
 have e:Yao xs.length 0 (some i)=i.toNat:=by simp only[Yao];rw[if_neg (by lia)];lia
 simp only[yar,e];exact Wo (by simp[Yao])
theorem qN(xs:List MV)(i:Int)(h0:0<=i)(h1:i<xs.length):∃ v∈xs,atM xs i=some v:=by
 rw[zaC xs i h0,we (by lia)];exact⟨_,uk (by lia),rfl⟩
theorem zbB(b1 b2:Bool)(rows:List (List Int))(h1:rows.length<=1000)(h2:∀ r∈rows,r.length<=1000):isP 3 (Ya b1 b2 rows)=true:=by
 have hz:(1000:Nat)<=sizeL:=by decide
 have hr:∀ r∈rows,isP 2 (qa b2 r)=true:=λr hr=>by
  have:=Xe (h2 r hr) hz;cases b2 <;> simp[qa,sq,isP,this]
 have:=Xe h1 hz;cases b1 <;> simp[Ya,sq,isP,this] <;> exact hr
theorem QO(xs ys:List FV)(h:MH)(c:xs.length+ys.length<=sizeL):Qe true .add (.f (.lst xs)) (.f (.lst ys)) h=.ok (.f (.lst (xs++ys))) h:=by
 have:Zk true (xs.map MV.f++ys.map MV.f) h=.ok (.f (.lst (xs++ys))) h:=by rw[<- Xs,ye]
 simp[Qe,c,this]
end MP
end
section
namespace MP
open PySem
section
variable {h:MH}
@[simp] theorem Qco(a:Nat)(z:MV):lmV "extend" (.ref a) [z] h=opt (Ye h a) λxs=>opt (listOf h z) λys=>if xs.length+ys.length<=sizeL then .ok (.f .non) (yf h a (xs++ys)) else .stuck:=rfl
@[simp] theorem lmV_pop(a:Nat):lmV "pop" (.ref a) [] h=opt (Ye h a) λxs=>opt (xs[xs.length-1]?) λy=>.ok y (yf h a (xs.take (xs.length-1))):=rfl
@[simp] theorem qcy(a:Nat)(i:Int):lmV "pop" (.ref a) [.f (.int i)] h=opt (Ye h a) λxs=>opt (ixM xs.length i) λk=>opt (xs[k]?) λy=>if -(2^63)<=i/\i<2^63 then .ok y (yf h a (xs.take k++xs.drop (k+1))) else .stuck:=rfl
end
theorem zbJ{α:Type}(f:α->FV)(xs:List α):(xs.map (MV.f∘f)).mapIdx (λk x=>zg [.f (.int k),x])=xs.zipIdx.map λp=>MV.f (.tup [.int p.2,f p.1]):=by
 rw[List.mapIdx_eq_zipIdx_map,List.zipIdx_map,Ui];rfl
noncomputable def QaV(count:Int)(rows:List (List Int)):FV:=.obj "Tile" ["count","rows"] [.int count,Ya true true rows]
structure GoodT (least most:Int) (rows:List (List Int)):Prop where
 m1:1<=most
 ne:rows≠[]
 len:∃ n:Nat,0<n/\∀ r∈rows,r.length=n
 sh:∀ r∈rows,∀ v∈r,least<=v/\v<=most
 sz:rows.length<=1000
theorem Yav{α:Type}{bd:MV->MSt->MH->RS}{e:α->MV}(Pr:α->Prop)(Inv:MSt->MH->Prop)(Rv:MV->MH->Prop):∀(ys:List α)(σ:MSt)(h:MH),Inv σ h ->
  (∀ y∈ys,∀ σ h,Inv σ h->(Pr y/\Nx (bd (e y) σ h) Inv)\/(¬ Pr y/\∃ v h',bd (e y) σ h=.ret v h'/\Rv v h')) ->
  ((∀ y∈ys,Pr y)/\∃ σ' h',Qp [] bd (ys.map e) σ h=.next σ' h'/\Inv σ' h')\/((¬ ∀ y∈ys,Pr y)/\∃ v h',Qp [] bd (ys.map e) σ h=.ret v h'/\Rv v h')
 |[],σ,h,h0,_=>.inl ⟨by simp,σ,h,by simp[Qp],h0⟩
 |y::r,σ,h,h0,hb=>by
  rw[xc,yM]
  rcases hb y (by simp) σ h h0 with ⟨p,σ',h',e1,h1⟩|⟨p,v,h',e1,rv⟩
  ·rw[e1,RS.turn_next]
   rcases Yav Pr Inv Rv r σ' h' h1 (λy hy=>hb y (by simp[hy])) with ⟨q,w⟩|⟨q,w⟩
   ·exact .inl ⟨by simpa using⟨p,q⟩,w⟩
   ·exact .inr ⟨λall=>q λy hy=>all y (by simp[hy]),w⟩
  ·exact .inr ⟨λall=>p (all y (by simp)),v,h',by rw[e1];rfl,rv⟩
theorem ybJ{α:Type}{bd:MV->MSt->MH->RS}{e:α->MV}{σ:MSt}{h:MH}{k:MSt->MH->RS}{Q:RS->Prop}(ys:List α)(Pr:α->Prop)(Inv:MSt->MH->Prop)(Rv:MV->MH->Prop)(h0:Inv σ h)
  (step:∀ y∈ys,∀ σ h,Inv σ h->(Pr y/\Nx (bd (e y) σ h) Inv)\/(¬ Pr y/\∃ v h',bd (e y) σ h=.ret v h'/\Rv v h'))
  (fin1:(∀ y∈ys,Pr y)->∀ σ h,Inv σ h->Q (k σ h)) (fin2:(¬ ∀ y∈ys,Pr y)->∀ v h,Rv v h->Q (.ret v h)):Q ((Qp [] bd (ys.map e) σ h).bind k):=by
 rcases Yav Pr Inv Rv ys σ h h0 step with ⟨p,σ',h',e1,q⟩|⟨p,v,h',e1,q⟩
 ·rw[e1];exact fin1 p σ' h' q
 ·rw[e1];exact fin2 p v h' q
theorem YbY(h:MH)(rows:List (List Int))(i:Nat)(r':List Int)(hi:i<rows.length):yf (own h rows) (h.length+i) (r'.map λi=>MV.f (.int i))=own h (rows.set i r'):=by
 unfold own yf;rw[List.set_append_right _ _ (by lia),List.set_append_left _ _ (by simp;lia),show h.length+i-h.length=i by lia];rw[Vz];simp[qQ]
noncomputable def QY(least most:Int)(rows:List (List Int)):Prop:=1<=most/\rows≠[]/\rows.headD []≠[]/\∀ r∈rows,r.length=(rows.headD []).length/\∀ v∈r,least<=v/\v<=most
noncomputable def ybD(ok:Prop)(h:MH)(r:R MV):Prop:=(ok/\r=.ok (.f .non) h)\/(¬ ok/\∃ s,r=.ok (.f (.str s)) h)
end MP
end
section
namespace MP
open PySem PySem.W PySem.Calls PySem.NumText PyProof.Rows
noncomputable def sN(n:Int):Str:=Str.ofString (toString n)
theorem YU{n:Int}(h:0<=n):(sN n).cps.toList=(Xq 10 n.toNat).map Char.toNat:=by
 obtain⟨m,rfl⟩:=Xf h;exact PySem.W.KIN.signs_num m
theorem ZR{n:Int}(h:0<=n):∀ c∈(sN n).cps.toList,48<=c/\c<=57:=by
 intro c hc;rw[YU h] at hc;obtain⟨ch,hch,e⟩:=Wl.mp hc;have r:=PyProof.Rows.digit_range (Nat.isDigit_of_mem_toDigits (by decide) (by decide) hch);rw[<- e];exact r
theorem Qb2{n:Int}(h:0<=n):(sN n).cps.toList≠[]:=by
 rw[YU h];intro e;have h:=toDigits_len_ge 10 n.toNat;rw[List.map_eq_nil_iff.mp e] at h;exact absurd h (by decide)
theorem Qo(x:Str):x.length=x.cps.toList.length:=by simp[Str.length]
theorem ZJ{n:Int}(h0:0<=n)(h1:n<10^30):1<=(sN n).length/\(sN n).length<=30:=by
 refine⟨?_,PyProof.Rows.toString_length_le h0 (by decide) h1⟩;rw[Qo];exact Vh.mpr (Qb2 h0)
theorem Qcl{n:Int}(h0:0<=n)(h1:n<10^30):PySem.intText? (sN n)=some n:=by
 have hl:=(ZJ h0 h1).2;have hd:AllDigits (sN n).cps.toList:=λc hc=>ZR h0 c hc;have e:=intText_digits hd (Qb2 h0) (Xe hl (by decide));rw[YU h0,PySem.W.KIN.val_back] at e;rw[e]
 congr 1;lia
theorem qaY(m:Nat)(h:1<=m):∃ d r,Xq 10 m=d::r/\d.toNat≠48:=by
 induction m using Nat.strongRecOn with
 |_ m ih =>
  by_cases h10:m<10
  ·rw[Nat.toDigits_of_lt_base h10];refine⟨_,[],rfl,?_⟩;have key:∀ k:Nat,k<10->1<=k->(Nat.digitChar k).toNat≠48:=by decide
   exact key m h10 h
  ·have hm:m%10<10:=Nat.mod_lt m (by decide);have t:Xq 10 (m/10)++Xq 10 (m%10)=Xq 10 (10*(m/10)+m%10):=Nat.toDigits_append_toDigits (by decide) (by lia) hm;rw[Nat.div_add_mod] at t;obtain⟨d,r,e,hd⟩:=ih (m/10) (by lia) (by lia);exact⟨d,r++Xq 10 (m%10),by rw[<- t,e];rfl,hd⟩
theorem qb1{n:Int}(h0:0<=n)(hl:1<(sN n).length):∃ c r,(sN n).cps.toList=c::r/\c≠48:=by
 by_cases hz:n=0
 ·subst hz;exact absurd hl (by decide)
 ·obtain⟨d,r,e,hd⟩:=qaY n.toNat (by lia);exact⟨d.toNat,r.map Char.toNat,by rw[YU h0,e];rfl,hd⟩
theorem zO{x y:Str}(h:x.cps.toList=y.cps.toList):x=y:=by
 cases x;cases y;simp only[Str.mk.injEq];exact Array.toList_inj.mp h
theorem qg(x y:Str):(x++y).cps.toList=x.cps.toList++y.cps.toList:=by rw[PySem.Str.cps_append];simp
theorem yaN{c:Nat}:∀{a b r s:List Nat},c∉a->c∉b->a++c::r=b++c::s->a=b/\r=s
 |[],[],r,s,_,_,e=>by simpa using e
 |[],y::b,r,s,_,hb,e=>by simp at e;simp at hb;exact absurd e.1 hb.1
 |x::a,[],r,s,ha,_,e=>by simp at e;simp at ha;exact absurd e.1.symm ha.1
 |x::a,y::b,r,s,ha,hb,e=>by
  simp only[ui,List.cons.injEq] at e;simp only[xa,not_or] at ha hb;obtain⟨h1,h2⟩:=yaN ha.2 hb.2 e.2;exact⟨by rw[e.1,h1],h2⟩
theorem qaQ{c:Nat}:∀{A B:List Str},A≠[]->B≠[]->(∀ p∈A,c∉p.cps.toList)->(∀ p∈B,c∉p.cps.toList)->Str.join ⟨#[c]⟩ A=Str.join ⟨#[c]⟩ B->A=B
 |[],_,h,_,_,_,_=>absurd rfl h
 |_,[],_,h,_,_,_=>absurd rfl h
 |[x],[y],_,_,_,_,e=>by
  have e:x=y:=e;rw[e]
 |[x],y::z::B,_,_,ha,hb,e=>by
  have e:x=y++⟨#[c]⟩++Str.join ⟨#[c]⟩ (z::B):=e;have:=ha x (by simp);rw[e,qg,qg] at this;simp at this
 |x::z::A,[y],_,_,ha,hb,e=>by
  have e:x++⟨#[c]⟩++Str.join ⟨#[c]⟩ (z::A)=y:=e;have:=hb y (by simp);rw[<- e,qg,qg] at this;simp at this
 |x::z::A,y::w::B,_,_,ha,hb,e=>by
  have e:x++⟨#[c]⟩++Str.join ⟨#[c]⟩ (z::A)=y++⟨#[c]⟩++Str.join ⟨#[c]⟩ (w::B):=e;have e2:=congrArg (λs:Str=>s.cps.toList) e;simp only[qg,Xm,List.singleton_append] at e2;obtain⟨h1,h2⟩:=yaN (ha x (by simp)) (hb y (by simp)) e2;have ih:=qaQ (c:=c) (A:=z::A) (B:=w::B) (by simp) (by simp) (λp hp=>ha p (by simp at hp ⊢;exact .inr hp)) (λp hp=>hb p (by simp at hp ⊢;exact .inr hp)) (zO h2);rw[zO h1,ih]
theorem yx{c:Nat}{A:List Str}(ne:A≠[])(fr:∀ p∈A,c∉p.cps.toList):Txt.split (Txt.join ⟨#[c]⟩ A) ⟨#[c]⟩=A:=by
 have e0:Txt.join ⟨#[c]⟩ A=Str.join ⟨#[c]⟩ A:=PySem.StrLaws.glued_eq_join _ _;have h1:=PySem.StrLaws.join_split (Str.join ⟨#[c]⟩ A) ⟨#[c]⟩;have h2:=PySem.StrLaws.split_free (Str.join ⟨#[c]⟩ A) c;rw[e0];refine qaQ ?_ ne h2 fr h1;intro z;have:=PyProof.Rows.split_pos (Str.join ⟨#[c]⟩ A) ⟨#[c]⟩;rw[z] at this;exact absurd this (by decide)
end MP
end
section
namespace MP
open PySem
structure Inks (most:Int) (inks:List Int):Prop where
 up:inks.Pairwise (· < ·)
 inn:∀ v∈inks,0<=v/\v<=most
 z:0∈inks
 m:most∈inks
 sz:inks.length<=50
namespace Inks
variable {most:Int} {inks:List Int} (K:Inks most inks)
include K
end Inks
end MP
namespace MP
open PySem
theorem Q4{α:Type}{G:zz}{bd:MV->MSt->MH->RS}{e:α->MV}{c:String}(Pv:Nat->MSt->MH->Prop)(Xh:MH->Prop)(hG:∀ i σ h,Pv i σ h->GuardOk G h):∀(ys:List α)(i:Nat)(σ:MSt)(h:MH),Pv i σ h ->
  (∀ j y σ h,ys[j]?=some y->Pv (i+j) σ h->(∃ σ' h',bd (e y) σ h=.next σ' h'/\Pv (i+j+1) σ' h')\/∃ h',bd (e y) σ h=.exc c h'/\Xh h') ->
  (∃ σ' h',Qp G bd (ys.map e) σ h=.next σ' h'/\Pv (i+ys.length) σ' h')\/∃ h',Qp G bd (ys.map e) σ h=.exc c h'/\Xh h'
 |[],i,σ,h,p,_=>.inl ⟨σ,h,by simp[Qp,hG i σ h p],p⟩
 |y::r,i,σ,h,p,hb=>by
  rcases hb 0 y σ h rfl p with ⟨σ1,h1,e1,p1⟩|⟨h1,e1,x1⟩
  ·rcases Q4 (G:=G) (bd:=bd) (e:=e) (c:=c) Pv Xh hG r (i+1) σ1 h1 p1 (λj y σ h hj pj=>by
    have:=hb (j+1) y σ h (by simpa using hj) (by rw[show i+(j+1)=i+1+j by lia];exact pj)
    rwa [show i+(j+1)+1=i+1+j+1 by lia] at this) with ⟨σ2,h2,e2,p2⟩|⟨h2,e2,x2⟩
   ·refine .inl ⟨σ2,h2,by simp[Qp,hG i σ h p,e1,e2],?_⟩
    rwa [show i+(y::r).length=i+1+r.length by simp;lia]
   ·exact .inr ⟨h2,by simp[Qp,hG i σ h p,e1,e2],x2⟩
  ·exact .inr ⟨h1,by simp only[xc,Qp,hG i σ h p,if_true,e1];rfl,x1⟩
theorem zan{α:Type}{G:zz}{bd:MV->MSt->MH->RS}{e:α->MV}{c:String}{σ:MSt}{h:MH}{k:MSt->MH->RS}{Q:RS->Prop}(ys:List α)(Pv:Nat->MSt->MH->Prop)(Xh:MH->Prop)(hG:∀ i σ h,Pv i σ h->GuardOk G h)(h0:Pv 0 σ h)
  (step:∀ i y σ h,ys[i]?=some y->Pv i σ h->(∃ σ' h',bd (e y) σ h=.next σ' h'/\Pv (i+1) σ' h')\/∃ h',bd (e y) σ h=.exc c h'/\Xh h')
  (fin:∀ σ' h',Pv ys.length σ' h'->Q (k σ' h')) (bad:∀ h',Xh h'->Q (.exc c h')):Q ((Qp G bd (ys.map e) σ h).bind k):=by
 rcases Q4 (G:=G) (bd:=bd) (e:=e) (c:=c) Pv Xh hG ys 0 σ h h0 (λj y σ h hj pj=>by simp only[Xt] at pj ⊢;exact step j y σ h hj pj) with ⟨σ',h',e1,p⟩|⟨h',e1,x⟩
 ·rw[e1];exact fin σ' h' (by simpa using p)
 ·rw[e1];exact bad h' x
end MP
end
section
namespace MP
open PySem
noncomputable abbrev blk:Str:=⟨#[32]⟩
noncomputable abbrev nwl:Str:=⟨#[10]⟩
theorem qF:Str.ofString " "=blk:=by decide
theorem Yp:Str.ofString "\n"=nwl:=by decide
noncomputable def za(ns:List Int):Str:=Txt.join blk (ns.map sN)
noncomputable def Zq(rows:List (List Int)):Str:=Txt.join nwl (rows.map za)
theorem QH(sep:Str):∀ ts:List Str,(Str.join sep ts).length<=(ts.map (·.length)).sum+ts.length*sep.length
 |[]=>by show Str.empty.length<=_;exact Wp _
 |[x]=>by
  show x.length<=_;simp
 |x::y::ts=>by
  have ih:=QH sep (y::ts);show(x++sep++Str.join sep (y::ts)).length<=_;have e:(x++sep++Str.join sep (y::ts)).length=x.length+sep.length+(Str.join sep (y::ts)).length:=by
   rw[Qo,qg,qg,xf,xf,<- Qo,<- Qo,<- Qo]
  rw[e];simp only[xc,uu,ue,Uq,xx] at ih ⊢
  lia
theorem Qq(sep:Str)(ts:List Str):Txt.join sep ts=Str.join sep ts:=PySem.StrLaws.glued_eq_join _ _
noncomputable def NumOk(ns:List Int):Prop:=∀ n∈ns,0<=n/\n<10^30
theorem qbE{f:Int->Nat}{b:Nat}:∀(ns:List Int),(∀ n∈ns,f n<=b)->(ns.map f).sum<=ns.length*b
 |[],_=>by simp
 |n::ns,h=>by
  have h1:=h n (by simp);have h2:=qbE ns λm hm=>h m (by simp[hm]);simp only[xc,uu,ue,Uq,xx]
  lia
theorem zbc{f:List Int->Nat}{b:Nat}:∀(ns:List (List Int)),(∀ n∈ns,f n<=b)->(ns.map f).sum<=ns.length*b
 |[],_=>by simp
 |n::ns,h=>by
  have h1:=h n (by simp);have h2:=zbc ns λm hm=>h m (by simp[hm]);simp only[xc,uu,ue,Uq,xx]
  lia
theorem QbD(ns:List Int)(h:NumOk ns):((ns.map sN).map (·.length)).sum<=ns.length*30:=by
 rw[Ui];exact qbE ns λn hn=>(ZJ (h n hn).1 (h n hn).2).2
theorem yp(ns:List Int)(h:NumOk ns):(za ns).length<=ns.length*31:=by
 have h1:=QbD ns h;have h2:=QH blk (ns.map sN);unfold za;rw[Qq];have:blk.length=1:=rfl;rw[this,Vd] at h2
 lia
structure RowsOk (rows:List (List Int)):Prop where
 ok:∀ r∈rows,NumOk r
 ne:∀ r∈rows,r≠[]
 wid:∀ r∈rows,r.length<=100
 len:rows.length<=100
theorem zaR(rows:List (List Int))(h:RowsOk rows):((rows.map za).map (·.length)).sum<=rows.length*3100:=by
 rw[Ui];exact zbc rows λr hr=>by
  have h1:=yp r (h.ok r hr);have h2:=h.wid r hr;show(za r).length<=_
  lia
theorem Zah(rows:List (List Int))(h:RowsOk rows):(Zq rows).length<=rows.length*3101:=by
 have h1:=zaR rows h;have h2:=QH nwl (rows.map za);unfold Zq;rw[Qq];have:nwl.length=1:=rfl;rw[this,Vd] at h2
 lia
theorem yag{c d:Nat}:∀{ts:List Str},d∈(Str.join ⟨#[c]⟩ ts).cps.toList->d=c\/∃ t∈ts,d∈t.cps.toList
 |[],h=>by simp[Str.join,Str.empty] at h
 |[x],h=>.inr ⟨x,by simp,h⟩
 |x::y::ts,h=>by
  have h:d∈(x++⟨#[c]⟩++Str.join ⟨#[c]⟩ (y::ts)).cps.toList:=h;rw[qg,qg] at h;simp only[Uf] at h
  rcases h with (h|h)|h
  ·exact .inr ⟨x,by simp,h⟩
  ·exact .inl (by simpa using h)
  ·rcases yag h with h|⟨t,ht,h⟩
   ·exact .inl h
   ·exact .inr ⟨t,by simp at ht ⊢;exact .inr ht,h⟩
theorem yS{ns:List Int}(h:NumOk ns):∀ d∈(za ns).cps.toList,d=32\/(48<=d/\d<=57):=by
 intro d hd;unfold za at hd;rw[Qq] at hd
 rcases yag hd with e|⟨t,ht,hd⟩
 ·exact .inl e
 ·obtain⟨n,hn,rfl⟩:=Wl.mp ht;exact .inr (ZR (h n hn).1 d hd)
theorem zav{ns:List Int}(h:NumOk ns)(ne:ns≠[]):Txt.split (za ns) blk=ns.map sN:=by
 refine yx (by simpa using ne) λp hp=>?_;obtain⟨n,hn,rfl⟩:=Wl.mp hp;intro hc;have:=ZR (h n hn).1 _ hc
 lia
theorem Yah{rows:List (List Int)}(h:RowsOk rows)(ne:rows≠[]):Txt.split (Zq rows) nwl=rows.map za:=by
 refine yx (by simpa using ne) λp hp=>?_;obtain⟨r,hr,rfl⟩:=Wl.mp hp;intro hc
 rcases yS (h.ok r hr) _ hc with h|h <;> lia
theorem QZ{ns:List Int}(h:NumOk ns):Txt.split (za ns) nwl=[za ns]:=by
 have e:za ns=Txt.join nwl [za ns]:=by rw[Qq];rfl
 have:=yx (c:=10) (A:=[za ns]) (by simp) (λp hp=>by
  rw[Ua.mp hp];intro hc
  rcases yS h _ hc with h|h <;> lia)
 rw[<- e] at this;exact this
theorem Y4(ts:List Str):(ts.map λt=>MV.f (.str t)).mapM yc=some ts:=by
 induction ts with
 |nil=>rfl
 |cons t ts ih=>rw[xc,Wn,ih];rfl
theorem Yad(h:MH)(sep:Str)(ts:List Str)(hz:(ts.map (·.length)).sum+ts.length*sep.length<=16777216):Zi .join (.f (.str sep)) (.f (.lst (ts.map FV.str))) h=.ok (.f (.str (Txt.join sep ts))) h:=by
 have e:(ts.map FV.str).map MV.f=ts.map λt=>MV.f (.str t):=by simp
 simp only[Zi,yc,listOf,Yb,e,Y4];rw[if_pos hz]
theorem ym(h:MH)(z sep:Str)(h0:(sep.length==0)=false)(hz:z.length+2<=4194304):Zi (.split true) (.f (.str z)) (.f (.str sep)) h=.ok (.f (.lst ((Txt.split z sep).map FV.str))) h:=by
 have e:((Txt.split z sep).map λt=>MV.f (.str t))=((Txt.split z sep).map FV.str).map MV.f:=by simp
 simp only[Zi,yc,Yb];rw[if_pos ⟨h0,by rw[ze];exact hz⟩,e,ye]
theorem ZbL(h:MH){n:Int}(h0:0<=n)(h1:n<10^30):yaD .str (I n) h=.ok (.f (.str (sN n))) h:=by
 simp only[yaD,qc,Yb];rw[if_pos (by lia)];rfl
theorem Yck(h:MH){n:Int}(h0:0<=n)(h1:n<10^30):yaD .int (.f (.str (sN n))) h=.ok (I n) h:=by
 simp only[yaD,yc,Yb,Qcl h0 h1];rw[if_pos (by have:=(ZJ h0 h1).2;lia)]
end MP
end
section
namespace MP
open PySem
noncomputable def Qw(c:Nat):Bool:=decide (48<=c/\c<=57)
noncomputable def Yo(w:Str):Bool:=decide (1<=w.length/\w.length<=30)&&!(w.cps.toList[0]? == some 48&&decide (1<w.length))&&w.cps.toList.all Qw
noncomputable def Asc(w:Str):Prop:=∀ c∈w.cps.toList,c<128
theorem Qbv{n:Int}(h0:0<=n)(h1:n<10^30):Yo (sN n)=true:=by
 obtain⟨l1,l2⟩:=ZJ h0 h1;have d:(sN n).cps.toList.all Qw=true:=Vj.mpr λc hc=>by simpa[Qw] using ZR h0 c hc
 unfold Yo;rw[d,decide_eq_true (And.intro l1 l2)];by_cases hl:1<(sN n).length
 ·obtain⟨c,r,e1,e2⟩:=qb1 h0 hl;rw[e1];simp[e2]
 ·simp[hl]
theorem yaX{n:Int}(h0:0<=n):Asc (sN n):=λc hc=>by have:=ZR h0 c hc;lia
theorem zbf{a b:Str}(x:Asc a)(y:Asc b):Asc (a++b):=λc hc=>by
 rw[qg] at hc;exact(Uf.mp hc).elim (x c) (y c)
theorem ZS{w:Str}{c:Nat}(hc:c∈w.cps.toList)(hd:Qw c=false):Yo w=false:=by
 have:w.cps.toList.all Qw=false:=by
  rw[<- Bool.not_eq_true,Vj]
  exactλh=>by rw[h c hc] at hd;cases hd
 unfold Yo;rw[this,Bool.and_false]
theorem Zae(a b:Str):(a++b).length=a.length+b.length:=by rw[Qo,qg,xf,<- Qo,<- Qo]
theorem YaF{w:Str}(hw:1<=w.length):Yo (Str.ofString "0"++w)=false:=by
 have e:(Str.ofString "0"++w).cps.toList[0]?=some 48:=by rw[qg];rfl
 have l:1<(Str.ofString "0"++w).length:=by rw[Zae];show 1<1+w.length;lia
 unfold Yo;rw[e,decide_eq_true l];simp
structure BadW (ws:List Str):Prop where
 ne:ws≠[]
 no:ws.all Yo=false
 asc:∀ w∈ws,Asc w
 fr:∀ w∈ws,32∉w.cps.toList/\10∉w.cps.toList
 sz:∀ w∈ws,w.length<=100
 len:ws.length<=100
noncomputable def Zg(ws:List Str):Str:=Txt.join blk ws
theorem YI{b:Nat}:∀(ws:List Str),(∀ w∈ws,w.length<=b)->(ws.map (·.length)).sum<=ws.length*b
 |[],_=>by simp
 |n::ns,h=>by
  have h1:=h n (by simp);have h2:=YI ns λm hm=>h m (by simp[hm]);simp only[xc,uu,ue,Uq,xx]
  lia
theorem BadW.split{ws:List Str}(b:BadW ws):Txt.split (Zg ws) blk=ws:=yx b.ne λp hp=>(b.fr p hp).1
theorem BadW.size{ws:List Str}(b:BadW ws):(Zg ws).length<=10100:=by
 have h1:=YI ws b.sz;have h2:=QH blk ws;have h3:=b.len;unfold Zg;rw[Qq];have e:blk.length=1:=rfl;rw[e] at h2;have:ws.length*100<=100*100:=vm _ h3
 lia
theorem BadW.free{ws:List Str}(b:BadW ws):10∉(Zg ws).cps.toList:=by
 intro hc;unfold Zg at hc;rw[Qq] at hc
 rcases yag hc with e|⟨t,ht,hd⟩
 ·cases e
 ·exact(b.fr t ht).2 hd
theorem Z1(sep:Str):∀{ws:List Str},ws≠[]->Str.join sep (ws++[Str.ofString ""])=Str.join sep ws++sep
 |[],h=>absurd rfl h
 |[x],_=>by
  show x++sep++Str.ofString ""=x++sep;apply zO;simp only[qg];show _++[]=_;rw[wo]
 |x::y::ws,_=>by
  have ih:=Z1 sep (ws:=y::ws) (by simp);show x++sep++Str.join sep ((y::ws)++[Str.ofString ""])=x++sep++Str.join sep (y::ws)++sep;rw[ih];apply zO;simp only[qg,Xm]
theorem YaX(sep:Str){ws:List Str}(h:ws≠[]):Str.join sep (Str.ofString ""::ws)=sep++Str.join sep ws:=by
 cases ws with
 |nil=>exact absurd rfl h
 |cons x r =>
  show Str.ofString ""++sep++Str.join sep (x::r)=_;apply zO;simp only[qg];rfl
theorem QaJ{n:Int}(h0:0<=n):32∉(sN n).cps.toList/\10∉(sN n).cps.toList:=⟨λz=>by have:=ZR h0 _ z;lia,λz=>by have:=ZR h0 _ z;lia⟩
theorem ZbX{xs ys:List Int}{w:Str}(hx:NumOk xs)(hy:NumOk ys)(hl:xs.length+ys.length<=50)(hw:Yo w=false)(ha:Asc w)(hf:32∉w.cps.toList/\10∉w.cps.toList)(hz:w.length<=100):BadW (xs.map sN++w::ys.map sN):=by
 have key:∀ v∈xs.map sN++w::ys.map sN,v=w\/∃ n:Int,(0<=n/\n<10^30)/\v=sN n:=λv hv=>by
  simp only[Uf,xa,Wl] at hv
  rcases hv with ⟨n,hn,rfl⟩|rfl|⟨n,hn,rfl⟩
  ·exact .inr ⟨n,hx n hn,rfl⟩
  ·exact .inl rfl
  ·exact .inr ⟨n,hy n hn,rfl⟩
 refine⟨by simp,by simp[hw],λv hv=>?_,λv hv=>?_,λv hv=>?_,by simp;lia⟩
 ·rcases key v hv with rfl|⟨n,hn,rfl⟩
  ·exact ha
  ·exact yaX hn.1
 ·rcases key v hv with rfl|⟨n,hn,rfl⟩
  ·exact hf
  ·exact QaJ hn.1
 ·rcases key v hv with rfl|⟨n,hn,rfl⟩
  ·exact hz
  ·have:=(ZJ hn.1 hn.2).2;lia
section
variable (n:Nat) (h:MH)
theorem Zv(b1 b2:Bool)(rows:List (List Int))(hl:rows.length<=sizeL):run prog (n+1) "own_rows" [.f (Ya b1 b2 rows)] h=.ok (.f (Ya true true rows)) h:=by
 simp[Qd,YE,YM,Ya,stM];rw[Zr (e:=MV.f∘qa b2) (g:=MV.f∘qa true) rows [] none (by simpa using hl) (λy _ z=>⟨_,by simp[ql,qa];exact⟨rfl,rfl⟩⟩)];simp[Ya,qa,sq]
theorem Zaj(least most:Int)(rows:List (List Int))(g:GoodT least most rows):run prog (n+1) "fault_of" [.f (Ya true true rows),I least,I most] h=.ok (.f .non) h:=by
 obtain⟨m1,ne,⟨w,w0,hw⟩,sh,sz⟩:=g;cases rows with
 |nil=>exact absurd rfl ne
 |cons r0 rs =>
  have hr0:=hw r0 (by simp);have e1:¬ most<1:=by lia
  have e2:r0≠[]:=by intro e;subst e;simp at hr0;lia
  have e7:Zb h (.f (qa true r0))=some (r0.map (MV.f∘FV.int)):=by simp[qa]
  simp[Qd,d_fault_of,e1,Ya,e7,e2];rw[<- xy (f:=MV.f) (g:=qa true),<- xc (f:=MV.f∘qa true),Yau (e:=MV.f∘qa true) (st:=λz=>[some (.f (sq true (qa true r0::rs.map (qa true)))),some (I least),some (I most),z]) (hp:=λ_=>h) (f:=λ_ r=>some (.f (qa true r))) _ none]
  ·simp
  ·intro r hr z;have e3:=hw r hr;have e4:r≠[]:=by intro e;subst e;simp at e3;lia
   have e5:¬ ybo r<least:=by have:=sh r hr _ (Yal e4);lia
   have e6:¬ most<ybh r:=by have:=sh r hr _ (Yam e4);lia
   have q1:=yaS true h (.f (qa true r)) r (by simp[qa]) e4;have q2:=zaU true h (.f (qa true r)) r (by simp[qa]) e4;have q3:Zb h (.f (qa true r))=some (r.map (MV.f∘FV.int)):=by simp[qa]
   simp[Yl,q1,q2,q3,e5,e6,e7,e3,hr0]
theorem qao(count:Int)(b1 b2:Bool)(rows:List (List Int))(g:GoodT 1 count rows):run prog (n+2) "Tile.__init__" [.ref h.length,I count,.f (Ya b1 b2 rows)] (h++[.obj "Tile" []]) =
  .ok (.f .non) (h++[.obj "Tile" [("count",I count),("rows",.f (Ya true true rows))]]):=by
 have hz:rows.length<=sizeL:=Xe g.sz (by decide);have t:=TrOk.obj h "Tile" [("count",.int count),("rows",Ya true true rows)] [];simp only[xc,Xn] at t;simp[Qd n.succ,d_Tile___init__,Zv _ _ b1 b2 rows hz,Zaj _ _ 1 count rows g,yk,t];exact Wo (by simp)
theorem zbm(count:Int)(b1 b2:Bool)(rows:List (List Int))(g:GoodT 1 count rows):yu prog (run prog (n+2)) true "Tile" [I count,.f (Ya b1 b2 rows)] h=.ok (.f (QaV count rows)) h:=by
 simp[yu,qao n h count b1 b2 rows g,TrOk.app,QaV,Yh]
end
section
variable (n:Nat) (h:MH)
theorem ZU(most:Int)(b1 b2:Bool)(rows:List (List Int))(g:GoodT 0 most rows):run prog (n+2) "Picture.__init__" [.ref h.length,I most,.f (Ya b1 b2 rows)] (h++[.obj "Picture" []]) =
  .ok (.f .non) (h++[.obj "Picture" [("most",I most),("rows",.f (Ya true true rows))]]):=by
 have hz:rows.length<=sizeL:=Xe g.sz (by decide);have t:=TrOk.obj h "Picture" [("most",.int most),("rows",Ya true true rows)] [];simp only[xc,Xn] at t;simp[Qd n.succ,d_Picture___init__,Zv _ _ b1 b2 rows hz,Zaj _ _ 0 most rows g,yk,t];exact Wo (by simp)
theorem zaq(most:Int)(b1 b2:Bool)(rows:List (List Int))(g:GoodT 0 most rows):yu prog (run prog (n+2)) true "Picture" [I most,.f (Ya b1 b2 rows)] h=.ok (.f (zbL most rows)) h:=by
 simp[yu,ZU n h most b1 b2 rows g,TrOk.app,zbL,Yh]
end
section
variable (n:Nat) (h:MH)
theorem qs(ns:List Int)(k:Int)(hk:0<=k)(hk2:k<1000000):run prog (n+1) "_law_next" [.f (.scr ns),.ref 0] (atC k::h)=.ok (I (zL ns (k+1))) (atC (k+1)::h):=by
 have m1:Zaa (k+1) (k+1):=YN (by lia);have m2:∀ x,Zaa x 7919:=λx=>YN (by decide);have m3:∀ x,Zaa x 48271:=λx=>YN (by decide);have m4:∀ x:Int,Zaa (x%2147483647) (x%2147483647):=λx=>YN (by have:=Wj x (show(2147483647:Int)≠0 by decide);have:=vh x (show(0:Int)<2147483647 by decide);lia);simp only[Qd,Qar,Yb,Yz];by_cases hn:ns=[]
 ·subst hn;simp[QaG,Qf,m1,m2,m3,m4,ixM,zL,QE]
 ·have hl:0<ns.length:=Vh.mpr hn;have e1:atM (ns.map λi=>MV.f (.int i)) ((k+1)%ns.length)=some (I (QE ns (k+1))):=by
   have h0:0<=(k+1)%(ns.length:Int):=Wj _ (by lia);have h1:(k+1)%(ns.length:Int)<ns.length:=vh _ (by lia);rw[zaC _ _ h0,We,we (by lia)];simp[QE,hn,vz,we (show((k+1)%(ns.length:Int)).toNat<ns.length by lia)]
  simp[QaG,Qf,m1,m2,m3,m4,ixM,zL,hl,e1]
end
theorem zI(n:Nat)(h:MH):∀(d:Nat)(x:FV),isP d x=true->run prog (n+d) "_law_same" [.f x,.f x] h=.ok (B true) h
 |0,x,e=>by cases x <;> simp[isP] at e
 |d+1,x,e=>by
  rw[show n+(d+1)=(n+d)+1 from rfl,Zaq];simp only[d__law_same];cases x with
  |non=>simp
  |bl b=>simp[isP] at e
  |int i=>simp
  |str s=>simp[isP] at e;simp[qaA _ _ e e]
  |tup xs =>
   simp[isP] at e;simp[Zak,Vi,MP.stM];rw[YY (e:=λx=>MV.f (.tup [x,x])) (g:=λ_=>B true) (caps:=[]) xs [] none none (by simpa using e.1) (λy hy z w=>⟨some (.f y),some (.f y),by simp[ql,zI n h d y (e.2 y hy)]⟩)];simp[Vi]
  |lst xs =>
   simp[isP] at e;simp[Zak,Vi,MP.stM];rw[YY (e:=λx=>MV.f (.tup [x,x])) (g:=λ_=>B true) (caps:=[]) xs [] none none (by simpa using e.1) (λy hy z w=>⟨some (.f y),some (.f y),by simp[ql,zI n h d y (e.2 y hy)]⟩)];simp[Vi]
  |obj c ns vs=>simp[isP] at e
  |scr ns=>simp[isP] at e
  |tab ns=>simp[isP] at e
  |msk ns=>simp[isP] at e
section
variable (n:Nat) (h:MH)
theorem ZQ(least most:Int)(rows:List (List Int)):ybD (QY least most rows) h (run prog (n+1) "fault_of" [.f (Ya true true rows),I least,I most] h):=by
 rw[qaE];simp only[d_fault_of];by_cases c1:most<1
 ·exact .inr ⟨λo=>by have:=o.1;lia,_,by simp[c1];rfl⟩
 ·cases rows with
  |nil=>exact .inr ⟨λo=>o.2.1 rfl,_,by simp[c1,Ya];rfl⟩
  |cons r0 rs =>
   have q0:Zb h (.f (qa true r0))=some (r0.map (MV.f∘FV.int)):=by simp[qa]
   by_cases c2:r0=[]
   ·subst c2;exact .inr ⟨λo=>o.2.2.1 (by simp),_,by simp[c1,Ya,q0];rfl⟩
   ·have c2':¬ r0.length=0:=λe=>c2 (Xl e);have e7:Zb h (.f (Ya true true (r0::rs)))=some ((r0::rs).map (MV.f∘qa true)):=by simp[Ya]
    have e8:qe h (.f (Ya true true (r0::rs)))=[]:=rfl;have e9:atM ((r0::rs).map (MV.f∘qa true)) 0=some (.f (qa true r0)):=by simp
    have e10:((r0::rs).map (MV.f∘qa true)).length≠0:=by simp
    generalize hV:Ya true true (r0::rs)=V at e7 e8;generalize hX:(r0::rs).map (MV.f∘qa true)=xs at e7 e9 e10;have e10':xs≠[]:=λe=>e10 (by simp[e]);simp[c1,e7,e9,e10',q0,c2,e8];rw[<- hX];refine ybJ (Q:=λr=>ybD _ h (zd _ r)) (r0::rs) (λr=>r.length=r0.length/\∀ v∈r,least<=v/\v<=most) (λσ hh=>hh=h/\∃ z,σ=[some (.f V),some (I least),some (I most),z]) (λv hh=>hh=h/\∃ s,v=.f (.str s)) ⟨rfl,_,rfl⟩ ?_ ?_ ?_
    ·rintro r hr σ hh ⟨rfl,z,rfl⟩;have q1:Zb hh (.f (qa true r))=some (r.map (MV.f∘FV.int)):=by simp[qa]
     by_cases d1:r.length=r0.length
     ·have e4:r≠[]:=by intro e;subst e;simp at d1;lia
      have m1:=yaS true hh (.f (qa true r)) r (by simp[qa]) e4;have m2:=zaU true hh (.f (qa true r)) r (by simp[qa]) e4;by_cases d2:ybo r<least
      ·exact .inr ⟨λp=>by have:=p.2 _ (Yal e4);lia,_,_,by simp[Yl,q1,e7,e9,q0,d1,m1,d2];rfl,rfl,_,rfl⟩
      ·by_cases d3:most<ybh r
       ·exact .inr ⟨λp=>by have:=p.2 _ (Yam e4);lia,_,_,by simp[Yl,q1,e7,e9,q0,d1,m1,m2,d2,d3];rfl,rfl,_,rfl⟩
       ·refine .inl ⟨⟨d1,λv hv=>by have:=qbg hv;have:=ybb hv;lia⟩,?_⟩;simp[Yl,q1,e7,e9,q0,d1,m1,m2,d2,d3]
     ·exact .inr ⟨λp=>d1 p.1,_,_,by simp[Yl,q1,e7,e9,q0,show ¬((r.length:Int)=r0.length) by lia];rfl,rfl,_,rfl⟩
    ·rintro all σ hh ⟨rfl,z,rfl⟩;exact .inl ⟨⟨by lia,by simp,by simpa using c2,by simpa using all⟩,by simp⟩
    ·rintro no v hh ⟨rfl,s,rfl⟩;exact .inr ⟨λo=>no (by simpa using o.2.2.2),s,by simp⟩
end
end MP
end
section
namespace MP
open PySem
theorem qci(h:MH)(c:Nat)(hc:c<128):Zi .inn (.f (.str ⟨#[c]⟩)) (.f (.str (Str.ofString "0123456789"))) h=.ok (B (Qw c)) h:=by
 have key:∀ k:Nat,k<128->(!(Builtin.Str.occurrences (Str.ofString "0123456789") ⟨#[k]⟩ 0 (Str.ofString "0123456789").length 1).isEmpty)=Qw k:=by decide +kernel
 simp only[Zi,yc,Yb];rw[key c hc]
section
variable (n:Nat) (h:MH)
theorem QP(w:Str)(ha:Asc w)(hz:w.length<=100):run prog (n+1) "is_number" [.f (.str w)] h=.ok (B (Yo w)) h:=by
 have ln:yaD .len (.f (.str w)) h=.ok (I (w.length:Int)) h:=by
  simp only[yaD,yc,Yb];rw[if_pos (by rw[ze];lia)]
 have st:yc (.f (.str w))=some w:=rfl;have gF:prog.globs "FIGURES"=some (.str (Str.ofString "0123456789")):=rfl;have gM:prog.globs "MOST_FIGURES"=some (.int 30):=rfl;have hlen:=Qo w;by_cases k1:w.length<1
 ·have e:Yo w=false:=by
   unfold Yo;rw[show decide (1<=w.length/\w.length<=30)=false by simp;lia];rfl
  have k1':((w.length:Int)<1):=by lia
  rw[e,Qz];simp only[d_is_number];generalize (w.length:Int)=L at *;simp[ln,k1']
 by_cases k2:30<w.length
 ·have e:Yo w=false:=by
   unfold Yo;rw[show decide (1<=w.length/\w.length<=30)=false by simp;lia];rfl
  have k1':¬((w.length:Int)<1):=by lia
  have k2':(30:Int)<(w.length:Int):=by lia
  rw[e,Qz];simp only[d_is_number];generalize (w.length:Int)=L at *;simp[ln,k1',gM,k2']
 obtain⟨c,hc⟩:∃ c,w.cps.toList[0]?=some c:=by
  cases hq:w.cps.toList with
  |nil=>rw[hq] at hlen;simp at hlen;lia
  |cons c r=>exact⟨c,rfl⟩
 have at0:Zi .at (.f (.str w)) (I 0) h=.ok (.f (.str ⟨#[c]⟩)) h:=by
  simp only[Zi,yc,qc,Yb];rw[if_pos ⟨by rw[ze];lia,by decide⟩];show opt (w.cps.toList[0]?) _=_;rw[hc];rfl
 have cm:=ha c (Xc hc);have sc:sOk (⟨#[c]⟩:Str)=true:=by simp[sOk];lia
 have s0:sOk (Str.ofString "0")=true:=by decide +kernel
 have eq0:=qaA (⟨#[c]⟩:Str) (Str.ofString "0") sc s0;have b0:((⟨#[c]⟩:Str)==Str.ofString "0")=(c==48):=by
  have e3:Str.ofString "0"=⟨#[48]⟩:=by decide
  rw[e3];by_cases z:c=48
  ·rw[z];decide
  ·rw[show(c==48)=false by simpa using z];simpa using z
 rw[b0] at eq0;have it:itV "signs" [.f (.str w)] h=some (w.cps.toList.map λc=>MV.f (.str ⟨#[c]⟩),[]):=rfl;have CL:Qi [] (ql (.nm 0) (λx h=>R.ok true h) λx h=>R.bind (opt ((x[0]?).join) λv=>R.ok v h) λx h1=>opt (yc x) λ_=>R.bind (opt (some (FV.str (Str.ofString "0123456789"))) λv=>R.ok (MV.f v) h1) λy h2=>Zi .inn x y h2) (w.cps.toList.map λc=>MV.f (.str ⟨#[c]⟩)) [] [none] h=.ok (w.cps.toList.map λc=>B (Qw c)) h:=by
  rw[Zr (e:=λc:Nat=>MV.f (.str ⟨#[c]⟩)) (g:=λc=>B (Qw c)) w.cps.toList [] none (by rw[ze,<- hlen];simp;lia) (by
   intro c hc z;have:=qci h c (ha c hc);exact⟨some (.f (.str ⟨#[c]⟩)),by simp[ql,yc,this]⟩)]
  simp
 have nl:Zk true (w.cps.toList.map λc=>B (Qw c)) h=.ok (.f (.lst (w.cps.toList.map λc=>FV.bl (Qw c)))) h:=by
  have e:(w.cps.toList.map λc=>B (Qw c))=(w.cps.toList.map λc=>FV.bl (Qw c)).map MV.f:=by simp
  rw[e,ye]
 have bls:Yk ((w.cps.toList.map λc=>FV.bl (Qw c)).map MV.f)=some (w.cps.toList.map Qw):=by
  induction w.cps.toList with
  |nil=>rfl
  |cons a r ih=>simp only[xc,Yk,ih];rfl
 have al:yj true "all" [.f (.lst (w.cps.toList.map λc=>FV.bl (Qw c)))] h=.ok (B (w.cps.toList.all Qw)) h:=by
  rw[Zbw];show opt ((some ((w.cps.toList.map λc=>FV.bl (Qw c)).map MV.f)).bind Yk) _=_;rw[Xk,bls,Yb];simp[List.all_map]
 have en:Yo w=(!(c==48&&decide (1<w.length))&&w.cps.toList.all Qw):=by
  unfold Yo;rw[hc,show decide (1<=w.length/\w.length<=30)=true by simp;lia];simp
 rw[en];have k1':¬((w.length:Int)<1):=by lia
 have k2':¬(30:Int)<(w.length:Int):=by lia
 clear en bls b0;generalize (w.cps.toList.map λc=>MV.f (.str ⟨#[c]⟩))=M at *;generalize (w.cps.toList.map λc=>B (Qw c))=M1 at *;generalize (w.cps.toList.map λc=>FV.bl (Qw c))=M2 at *;generalize w.cps.toList.all Qw=dd at *;rw[Qz];simp only[d_is_number];cases hb:(c==48) with
 |false =>
  rw[hb] at eq0;simp[ln,k1',k2',gM,st,at0,eq0,it,MP.stM,gF,CL,nl,al]
 |true =>
  rw[hb] at eq0;by_cases k3:(1:Int)<(w.length:Int)
  ·have k4:decide (1<w.length)=true:=by simp;lia
   simp[ln,k1',k2',gM,st,at0,eq0,k3,k4]
  ·have k4:decide (1<w.length)=false:=by simp;lia
   simp[ln,k1',k2',gM,st,at0,eq0,k3,k4,it,MP.stM,gF,CL,nl,al]
end
end MP
end
section
namespace MP
open PySem
section
variable (n:Nat) (h:MH)
theorem yae(v:MV):run prog (n+1) "NoText.__init__" [v] h=.ok (.f .non) h:=by
 rw[ZP];simp[d_NoText___init__,yb]
theorem Ybb(ws:List Str)(hh:MH):itV "seq" [.f (.lst (ws.map FV.str))] hh=some (ws.map λw=>MV.f (.str w),[]):=by
 have q:Zb hh (.f (.lst (ws.map FV.str)))=some (ws.map λw=>MV.f (.str w)):=by simp
 have g:qe hh (.f (.lst (ws.map FV.str)))=[]:=rfl;simp only[YM,q,wj,g]
theorem zp(ns:List Int)(ok:NumOk ns)(ne:ns≠[])(hl:ns.length<=100)(lv:MV):run prog (n+2) "numbers_in" [.f (.str (za ns)),lv] h=.ok (.f (qa false ns)) h:=by
 refine Ret.eq λQ hQ=>?_;have sp:Zi (.split true) (.f (.str (za ns))) (.f (.str (Str.ofString " "))) h=.ok (.f (.lst ((ns.map sN).map FV.str))) h:=by
  rw[qF,ym h (za ns) blk rfl (by have:=yp ns ok;lia),zav ok ne]
 have it:∀ hh,itV "seq" [.f (.lst ((ns.map sN).map FV.str))] hh=some (ns.map λk=>MV.f (.str (sN k)),[]):=λhh=>by
  rw[Ybb,Ui];rfl
 have IS:=λhh k (hk:k∈ns)=>QP n hh (sN k) (yaX (ok k hk).1) (by have:=(ZJ (ok k hk).1 (ok k hk).2).2;lia);have TI:=λhh k (hk:k∈ns)=>Yck hh (ok k hk).1 (ok k hk).2;have st:yc (.f (.str (za ns)))=some (za ns):=rfl;have nw:Zk true (ns.map λk=>I k) h=.ok (.f (qa false ns)) h:=by
  have e:(ns.map λk=>I k)=(ns.map FV.int).map MV.f:=by simp
  rw[e,ye];rfl
 have hQ':=hQ _ _ ⟨rfl,rfl⟩;generalize za ns=tz at *;generalize FV.lst ((ns.map sN).map FV.str)=wv at *;generalize qa false ns=rv at *;rw[YL];simp only[d_numbers_in];simp[st,sp,it];refine YaS (Q:=λr=>Ret (zd _ r) _) (e:=λk:Int=>MV.f (.str (sN k))) ns (λi σ hh=>∃ z3:Option MV,hh=h/\σ=[some (.f (.str tz)),some lv,some (.f wv),z3]) ⟨none,rfl,rfl⟩ ?_ ?_
 ·rintro i k σ hh hki ⟨z3,rfl,rfl⟩ Q hQ;have hm:=Xc hki;have:=IS hh k hm;rw[Qbv (ok k hm).1 (ok k hm).2] at this;simp[Yl,this];exact hQ _ _ ⟨_,rfl,rfl⟩
 ·rintro σ hh ⟨z3,rfl,rfl⟩;simp[it,MP.stM];rw[Zr (e:=λk:Int=>MV.f (.str (sN k))) (g:=λk=>I k) ns [] none (by simp[ze];lia) (by
   intro k hk z;have:=TI hh k hk;exact⟨some (.f (.str (sN k))),by simp[ql,this]⟩)]
  rw[vf,R.bind_ok,nw];simp;exact hQ'
theorem yG(ws:List Str)(b:BadW ws)(ln:Nat)(hn:ln<1000000):run prog (n+2) "numbers_in" [.f (.str (Zg ws)),I ln] h=.exc (xn "NoText" ln) h:=by
 have sp:Zi (.split true) (.f (.str (Zg ws))) (.f (.str (Str.ofString " "))) h=.ok (.f (.lst (ws.map FV.str))) h:=by
  rw[qF,ym h (Zg ws) blk rfl (by have:=b.size;lia),b.split]
 have it:=Ybb ws;have IS:=λhh w (hw:w∈ws)=>QP n hh w (b.asc w hw) (b.sz w hw);have st:yc (.f (.str (Zg ws)))=some (Zg ws):=rfl;have no:=b.no;have RI:=λhh=>yae n hh (I ln);have hn':(ln:Int)<1000000:=by lia
 generalize Zg ws=tz at *;generalize FV.lst (ws.map FV.str)=wv at *;rw[YL];simp only[d_numbers_in];simp[st,sp,it];refine zan (Q:=λr=>zd _ r=.exc (xn "NoText" ln) h) (e:=λw:Str=>MV.f (.str w)) (c:=xn "NoText" ln) ws (λi σ hh=>(∀ w∈ws.take i,Yo w=true)/\∃ z3:Option MV,hh=h/\σ=[some (.f (.str tz)),some (I ln),some (.f wv),z3]) (λhh=>hh=h) (λi σ h _=>λp hp=>nomatch hp) ⟨by simp,none,rfl,rfl⟩ ?_ ?_ ?_
 ·rintro i w σ hh hwi ⟨hp,z3,rfl,rfl⟩;have hm:=Xc hwi;have I1:=IS hh w hm;cases hw:Yo w with
  |true =>
   rw[hw] at I1;refine .inl ⟨[some (.f (.str tz)),some (I ln),some (.f wv),some (.f (.str w))],hh,by simp[Yl,I1],⟨λv hv=>?_,_,rfl,rfl⟩⟩;rw[Wv,hwi] at hv;simp at hv
   rcases hv with hv|rfl
   ·exact hp v hv
   ·exact hw
  |false =>
   rw[hw] at I1;exact .inr ⟨hh,by simp[Yl,I1,RI,hn'],rfl⟩
 ·rintro σ hh ⟨hp,_⟩;rw[xr] at hp;rw[Vj.mpr hp] at no;cases no
 ·rintro hh rfl;simp
theorem Z2(ns:List Int)(ok:NumOk ns)(ne:ns≠[])(hl:ns.length<=100):run prog (n+3) "read_numbers" [.f (.str (za ns))] h=.ok (.f (qa false ns)) h:=by
 have sp:Zi (.split true) (.f (.str (za ns))) (.f (.str (Str.ofString "\n"))) h=.ok (.f (.lst [.str (za ns)])) h:=by
  rw[Yp,ym h (za ns) nwl rfl (by have:=yp ns ok;lia),QZ ok];rfl
 have NI:=zp n h ns ok ne hl (I 0);have st:yc (.f (.str (za ns)))=some (za ns):=rfl;have sq1:∀ hh,Zb hh (.f (.lst [.str (za ns)]))=some [MV.f (.str (za ns))]:=λhh=>rfl;have a0:atM [MV.f (.str (za ns))] 0=some (.f (.str (za ns))):=rfl;have le:∀ hh,yj true "len" [.f (.lst [.str (za ns)])] hh=.ok (I 1) hh:=λhh=>rfl;generalize FV.lst [.str (za ns)]=wv at *;generalize za ns=tz at *;generalize qa false ns=M at *;rw[zr];simp only[d_read_numbers];simp[st,sp,sq1,a0,NI,le]
theorem QK(t:Str)(ws:List Str)(rest:List Str)(b:BadW ws)(hs:Txt.split t nwl=Zg ws::rest)(hz:t.length<=1000000):run prog (n+3) "read_numbers" [.f (.str t)] h=.exc (xn "NoText" 0) h:=by
 have sp:Zi (.split true) (.f (.str t)) (.f (.str (Str.ofString "\n"))) h=.ok (.f (.lst (.str (Zg ws)::rest.map FV.str))) h:=by
  rw[Yp,ym h t nwl rfl (by lia),hs];rfl
 have NB:=yG n h ws b 0 (by decide);have st:yc (.f (.str t))=some t:=rfl;have sq1:∀ hh,Zb hh (.f (.lst (.str (Zg ws)::rest.map FV.str)))=some (MV.f (.str (Zg ws))::rest.map (MV.f∘FV.str)):=λhh=>by simp
 have a0:atM (MV.f (.str (Zg ws))::rest.map (MV.f∘FV.str)) 0=some (.f (.str (Zg ws))):=by
  have S0:=Yj (MV.f (.str (Zg ws))::rest.map (MV.f∘FV.str)) 0;change atM _ (0:Int)=_ at S0;rw[S0];rfl
 generalize FV.lst (.str (Zg ws)::rest.map FV.str)=wv at *;generalize rest.map (MV.f∘FV.str)=M at *;generalize Zg ws=tz at *;rw[zr];simp only[d_read_numbers];simp at NB;simp[st,sp,sq1,a0,NB]
theorem ZH(t:Str)(ns:List Int)(x:Str)(ok:NumOk ns)(ne:ns≠[])(hl:ns.length<=100)(hs:Txt.split t nwl=[za ns,x])(hz:t.length<=1000000):run prog (n+3) "read_numbers" [.f (.str t)] h=.exc (xn "NoText" 1) h:=by
 have sp:Zi (.split true) (.f (.str t)) (.f (.str (Str.ofString "\n"))) h=.ok (.f (.lst [.str (za ns),.str x])) h:=by
  rw[Yp,ym h t nwl rfl (by lia),hs];rfl
 have NI:=zp n h ns ok ne hl (I 0);have st:yc (.f (.str t))=some t:=rfl;have sq1:∀ hh,Zb hh (.f (.lst [.str (za ns),.str x]))=some [MV.f (.str (za ns)),.f (.str x)]:=λhh=>rfl;have a0:atM [MV.f (.str (za ns)),.f (.str x)] 0=some (.f (.str (za ns))):=rfl;have le:∀ hh,yj true "len" [.f (.lst [.str (za ns),.str x])] hh=.ok (I 2) hh:=λhh=>rfl;have RI:=yae (n+1) h (I 1);generalize FV.lst [.str (za ns),.str x]=wv at *;generalize za ns=tz at *;generalize qa false ns=M at *;rw[zr];simp only[d_read_numbers];simp[st,sp,sq1,a0,NI,le,RI]
end
end MP
end
section
namespace MP
open PySem
section
variable (n:Nat) (h:MH)
theorem ZE(L:List Str)(hh:MH):itV "enumerate" [.f (.lst (L.map FV.str))] hh=some (L.zipIdx.map λp=>MV.f (.tup [.int p.2,.str p.1]),[]):=by
 have q:Zb hh (.f (.lst (L.map FV.str)))=some (L.map (MV.f∘λr=>FV.str r)):=by simp[Vi]
 have g:qe hh (.f (.lst (L.map FV.str)))=[]:=rfl;simp only[zaP,q,wj,g,zbJ]
theorem QbZ(g t:MH)(x:FV):yk g (.f x) (g++t)=.ok (.f x) g:=by simp
theorem zZ(tz:Str)(i:Nat)(r:List Int)(M:List MV)(t:MH)(z2 z3 z4:Option MV)(ok:NumOk r)(ne:r≠[])(hl:r.length<=100)(hM:M.length<sizeL)(fc:i=0->r.length=1) :
  Yl (.tp [.nm 2,.nm 3]) (yb prog (run prog (n+2)) [.set (.nm 4) (.call "numbers_in" [.var 3,.var 2]),.ite (.and [.cmp .eq (.var 2) (.cI 0),.cmp .gt (.blt true "len" [.var 4]) (.cI 1)]) [.raiseX "NoText" (.cI 0)] [],.expr (.lm "append" (.var 1) [.var 4])]) (.f (.tup [.int i,.str (za r)])) [some (.f (.str tz)),some (.ref h.length),z2,z3,z4] (h++.lst M::t) =
   .next [some (.f (.str tz)),some (.ref h.length),some (I i),some (.f (.str (za r))),some (.f (qa false r))] (h++.lst (M++[.f (qa false r)])::t):=by
 have NI:=zp n (h++.lst M::t) r ok ne hl (I i);have tE:Qj (.f (.tup [.int (i:Int),.str (za r)]))=some [I i,.f (.str (za r))]:=rfl;have le:∀ hh,yj true "len" [.f (qa false r)] hh=.ok (I (r.length:Int)) hh:=λhh=>by simp[qa]
 have c0:=Zo h t M;have s0:=λys=>ZK h t M ys;generalize za r=rt at *;generalize qa false r=rv at *;by_cases hi0:i=0
 ·have r1:¬(1:Int)<(r.length:Int):=by have:=fc hi0;lia
  subst hi0;simp at NI tE;simp[Yl,tE,NI,le,r1,c0,hM,s0]
 ·simp[Yl,tE,NI,hi0,c0,hM,s0]
theorem yQ(hd:Int)(rows:List (List Int))(ok:RowsOk ([hd]::rows))(ne:rows≠[]):run prog (n+3) "read_rows" [.f (.str (Zq ([hd]::rows)))] h=.ok (.f (Ya false false ([hd]::rows))) h:=by
 refine Ret.eq λQ hQ=>?_;have hl:=ok.len;have hz:=Zah ([hd]::rows) ok;have sp:∀ hh,Zi (.split true) (.f (.str (Zq ([hd]::rows)))) (.f (.str (Str.ofString "\n"))) hh=.ok (.f (.lst ((([hd]::rows).map za).map FV.str))) hh:=λhh=>by
  rw[Yp,ym hh (Zq ([hd]::rows)) nwl rfl (by lia),Yah ok (by simp)]
 have EN:=ZE (([hd]::rows).map za);have st:yc (.f (.str (Zq ([hd]::rows))))=some (Zq ([hd]::rows)):=rfl;have rl:([hd]::rows).length=rows.length+1:=rfl;generalize hall:[hd]::rows=all at *;have first:∀ r,all[0]?=some r->r.length=1:=λr hr=>by rw[<- hall] at hr;cases hr;rfl
 have two:2<=all.length:=by
  have:=Vh.mpr ne
  lia
 generalize Zq all=tz at *;generalize FV.lst ((all.map za).map FV.str)=wv at *;rw[yA];simp only[d_read_rows];simp[st,sp,EN];refine YaS (Q:=λr=>Ret (zd _ r) _) (e:=λp:Str×Nat=>MV.f (.tup [.int p.2,.str p.1])) (all.map za).zipIdx (λi σ hh=>∃(t:MH)(z2 z3 z4:Option MV),hh=h++.lst (((all.take i).map (qa false)).map .f)::t/\σ=[some (.f (.str tz)),some (.ref h.length),z2,z3,z4]) ⟨[],none,none,none,by simp,rfl⟩ ?_ ?_
 ·rintro i ⟨w,i'⟩ σ hh hei ⟨t,z2,z3,z4,rfl,rfl⟩ Q hQ;rw[Vx,We] at hei;cases hr':all[i]? with
  |none=>rw[hr'] at hei;cases hei
  |some r' =>
   rw[hr'] at hei;simp only[wj,Xt,Option.some.injEq,Prod.mk.injEq] at hei;obtain⟨rfl,rfl⟩:=hei;have hrm:=Xc hr';have hil:i<all.length:=(Xa.mp hr').1;have E:(all.take (i+1)).map (qa false)=(all.take i).map (qa false)++[qa false r']:=by
    rw[Wv,hr'];simp
   have T:=zZ n h tz i r' (((all.take i).map (qa false)).map MV.f) t z2 z3 z4 (ok.ok r' hrm) (ok.ne r' hrm) (ok.wid r' hrm) (by rw[ze];simp;lia) (λz=>by subst z;exact first r' hr');refine⟨_,_,T,hQ _ _ ⟨t,_,_,_,by rw[E,Xs];rfl,rfl⟩⟩
 ·rintro σ hh ⟨t,z2,z3,z4,rfl,rfl⟩;have zl:(all.map za).zipIdx.length=all.length:=by simp
  rw[zl,xr];obtain⟨t',F⟩:=za9 h t (all.map (qa false));have c0:=Zo h t ((all.map (qa false)).map MV.f);have le:yj true "len" [.ref h.length] (h++.lst ((all.map (qa false)).map .f)::t)=.ok (I (all.length:Int)) (h++.lst ((all.map (qa false)).map .f)::t):=by simp only[ZL,Zb,c0,Yb,Vd]
  have n1:¬(all.length:Int)=1:=by lia
  have er:Ya false false all=.lst (all.map (qa false)):=rfl;rw[er] at hQ;have hQ':=hQ _ _ ⟨rfl,rfl⟩;have lv:=QbZ h t' (.lst (all.map (qa false)));generalize (all.map (qa false)).map MV.f=M at *;generalize FV.lst (all.map (qa false))=rv at *;simp[le,n1,F,lv];exact hQ'
inductive Ref:Nat->Str->Prop where
 |bad {i:Nat} {ws:List Str} (b:BadW ws):Ref i (Zg ws)
 |two {r:List Int} (ok:NumOk r) (hl:r.length<=100) (h2:1<r.length):Ref 0 (za r)
theorem yU(t:Str)(L:List Str)(k0:Nat)(hs:Txt.split t nwl=L)(hz:t.length<=1000000)(hL:L.length<=1000)(good:∀ i w,i<k0->L[i]?=some w->∃ r:List Int,w=za r/\NumOk r/\r≠[]/\r.length<=100/\(i=0->r.length=1))(w0:Str)(hw:L[k0]?=some w0)(bad:Ref k0 w0) :
  run prog (n+3) "read_rows" [.f (.str t)] h=.exc (xn "NoText" k0) h:=by
 have hk:k0<L.length:=(Xa.mp hw).1;have sp:∀ hh,Zi (.split true) (.f (.str t)) (.f (.str (Str.ofString "\n"))) hh=.ok (.f (.lst (L.map FV.str))) hh:=λhh=>by
  rw[Yp,ym hh t nwl rfl (by lia),hs]
 have EN:=ZE L;have st:yc (.f (.str t))=some t:=rfl;generalize FV.lst (L.map FV.str)=wv at *;rw[yA];simp only[d_read_rows];simp[st,sp,EN];refine zan (Q:=λr=>zd _ r=.exc (xn "NoText" k0) h) (e:=λp:Str×Nat=>MV.f (.tup [.int p.2,.str p.1])) (c:=xn "NoText" k0) L.zipIdx (λi σ hh=>i<=k0/\∃(M:List MV)(t':MH)(z2 z3 z4:Option MV),M.length=i/\hh=h++.lst M::t'/\σ=[some (.f (.str t)),some (.ref h.length),z2,z3,z4]) (λhh=>∃ t',hh=h++t') (λi σ h _=>λp hp=>nomatch hp) ⟨Wp _,[],[],none,none,none,rfl,by simp,rfl⟩ ?_ ?_ ?_
 ·rintro i ⟨w,i'⟩ σ hh hei ⟨hik,M,t',z2,z3,z4,rfl,rfl,rfl⟩;rw[Vx] at hei;obtain⟨w',hw',hee⟩:=ub.mp hei;simp only[Xt,Prod.mk.injEq] at hee;obtain⟨rfl,rfl⟩:=hee;by_cases lt:M.length<k0
  ·obtain⟨r,rfl,ok,ne,hl,fc⟩:=good _ _ lt hw';exact .inl ⟨_,_,zZ n h t M.length r M t' z2 z3 z4 ok ne hl (by rw[ze];lia) fc,lt,_,t',_,_,_,by simp,rfl,rfl⟩
  ·have e:M.length=k0:=by lia
   rw[e] at hw';rw[hw] at hw';cases hw';refine .inr ⟨h++.lst M::t',?_,_,rfl⟩;have tE:Qj (.f (.tup [.int (M.length:Int),.str w0]))=some [I M.length,.f (.str w0)]:=rfl;have eM:(M.length:Int)=(k0:Int):=by lia
   cases bad with
   |bad b =>
    have NB:=yG n (h++.lst M::t') _ b k0 (by lia);generalize Zg _=rt at *;rw[eM] at tE ⊢;simp[Yl,tE,NB]
   |@two r ok hl h2 =>
    have NI:=zp n (h++.lst M::t') r ok (by rintro rfl;simp at h2) hl (I M.length);have le:∀ hh,yj true "len" [.f (qa false r)] hh=.ok (I (r.length:Int)) hh:=λhh=>by simp[qa]
    have r1:(1:Int)<(r.length:Int):=by lia
    have RI:=yae (n+1) (h++.lst M::t') (I 0);generalize za r=rt at *;generalize qa false r=rv at *;rw[eM] at tE NI ⊢;simp at tE NI;simp[Yl,tE,NI,le,r1,RI]
 ·rintro σ hh ⟨hik,_⟩;simp at hik;exact absurd hk (by lia)
 ·rintro hh ⟨t',rfl⟩;simp
theorem ZW(hd:Int)(h0:0<=hd)(h1:hd<10^30):run prog (n+3) "read_rows" [.f (.str (za [hd]))] h=.exc (xn "NoText" 1) h:=by
 have ok:NumOk [hd]:=λx hx=>by rw[Ua.mp hx];exact⟨h0,h1⟩
 have hz:=yp [hd] ok;have sp:∀ hh,Zi (.split true) (.f (.str (za [hd]))) (.f (.str (Str.ofString "\n"))) hh=.ok (.f (.lst ([za [hd]].map FV.str))) hh:=λhh=>by
  rw[Yp,ym hh (za [hd]) nwl rfl (by simp at hz;lia),QZ ok]
 have EN:=ZE [za [hd]];have st:yc (.f (.str (za [hd])))=some (za [hd]):=rfl;have T:=zZ n h (za [hd]) 0 [hd] [] [] none none none ok (by simp) (by simp) (by decide) (λ_=>rfl);have le:∀ M,yj true "len" [.ref h.length] (h++[.lst [M]])=.ok (I 1) (h++[.lst [M]]):=λM=>by
  have c0:=Zo h [] [M];simp only[ZL,Zb,c0,Yb];rfl
 have RI:=λhh=>yae (n+1) hh (I 1);generalize FV.lst ([za [hd]].map FV.str)=wv at *;rw[yA];simp only[d_read_rows];simp[st,sp,EN];simp at T;generalize qa false [hd]=rv at *;generalize za [hd]=tz at *;rw[yM,T];simp[Qp,GuardOk,le,RI]
end
end MP
end
section
namespace MP
open PySem
section
variable (n:Nat) (h:MH)
noncomputable def wordL:List Str:=["picture","out","meet","tile","inks","shares","shade","stretches","way","text"]
theorem qai(c:String)(bs:List Bool)(w:Str)(hb:["NoPicture","OutOfPicture","NoMeet","NoTile","NoInks","NoShares","NoShade","NoStretches","NoWay","NoText"].map (prog.xsubs (xcl c))=bs.map some)(hv:prog.xsubs (xcl c) "ValueError"=some true)
  (hw:((Ue 10).filter λk=>bs.getD k false).map (λk=>wordL.getD k "")=[w]):run prog (n+1) "_law_word" [.exc c] h=.ok (.f (.str w)) h:=by
 obtain⟨b0,b1,b2,b3,b4,b5,b6,b7,b8,b9,rfl⟩:∃ b0 b1 b2 b3 b4 b5 b6 b7 b8 b9,bs=[b0,b1,b2,b3,b4,b5,b6,b7,b8,b9]:=by
  have hl:=congrArg xp hb;simp at hl
  match bs,hl with
  |[b0,b1,b2,b3,b4,b5,b6,b7,b8,b9],_=>exact⟨_,_,_,_,_,_,_,_,_,_,rfl⟩
 simp only[xc,Xn,List.cons.injEq,and_true] at hb;obtain⟨e0,e1,e2,e3,e4,e5,e6,e7,e8,e9⟩:=hb;have c1:Qe true .add (.f (.lst [.bl b0,.bl b1,.bl b2,.bl b3])) (.f (.lst [.bl b4,.bl b5,.bl b6])) h=.ok (.f (.lst [.bl b0,.bl b1,.bl b2,.bl b3,.bl b4,.bl b5,.bl b6])) h:=QO _ _ h (by simp[ze]);have c2:Qe true .add (.f (.lst [.bl b0,.bl b1,.bl b2,.bl b3,.bl b4,.bl b5,.bl b6])) (.f (.lst [.bl b7,.bl b8,.bl b9])) h=.ok (.f (.lst ([b0,b1,b2,b3,b4,b5,b6,b7,b8,b9].map FV.bl))) h:=QO _ _ h (by simp[ze]);have hlen:[b0,b1,b2,b3,b4,b5,b6,b7,b8,b9].length=10:=rfl;generalize [b0,b1,b2,b3,b4,b5,b6,b7,b8,b9]=bs at *;have s1:Zb h (.f (.lst (bs.map FV.bl)))=some (bs.map λb=>B b):=by simp
 have s2:Zb h (.f (.lst (wordL.map FV.str)))=some (wordL.map λw=>MV.f (.str w)):=by simp
 have a1:∀ k:Nat,k<10->atM (bs.map λb=>B b) (k:Int)=some (B (bs.getD k false)):=λk hk=>by
  rw[Yj,We,Ug,we (by lia)];rfl
 have a2:∀ k:Nat,k<10->atM (wordL.map λw=>MV.f (.str w)) (k:Int)=some (.f (.str (wordL.getD k ""))):=λk hk=>by
  rw[Yj,We,Ug,we (show k<wordL.length from hk)];rfl
 have nl:Zk true [.f (.str w)] h=.ok (.f (.lst [.str w])) h:=rfl;have le:yj true "len" [.f (.lst [.str w])] h=.ok (I 1) h:=rfl;have s3:Zb h (.f (.lst [.str w]))=some [.f (.str w)]:=rfl;have hw':((Ue 10).filter λk=>bs.getD k false).map (λk=>MV.f (.str (wordL.getD k "")))=[.f (.str w)]:=by
  have:=congrArg (List.map λw=>MV.f (FV.str w)) hw;rw[Ui] at this;exact this
 have ew:FV.lst (wordL.map FV.str)=.lst [.str "picture",.str "out",.str "meet",.str "tile",.str "inks",.str "shares",.str "shade",.str "stretches",.str "way",.str "text"]:=rfl;generalize FV.lst (bs.map FV.bl)=v1 at *;generalize FV.lst (wordL.map FV.str)=v2 at *;generalize (bs.map λb=>B b)=m1 at *;generalize (wordL.map λw=>MV.f (.str w))=m2 at *;rw[Qap];simp only[d__law_word];simp[e0,e1,e2,e3,e4,e5,e6,e7,e8,e9,hv,Yh,c1,c2,QB h 10 (by decide),MP.stM];rw[<- ew];rw[YaL (e:=λk:Nat=>I k) (g:=λk:Nat=>MV.f (.str (wordL.getD k ""))) (t:=λk=>bs.getD k false) (Ue 10) [] none (by decide) (by
  intro k hk z;have hk:=uq.mp hk;have x1:=a1 k hk;have x2:=a2 k hk;refine⟨some (I k),?_⟩;cases hb:bs.getD k false <;> rw[hb] at x1 <;> simp[ql,s1,s2,x1,x2])]
 rw[vf,hw'];simp[nl,le,s3,hv]
theorem qbr(i:Nat):run prog (n+1) "_law_word" [.exc (xn "NoText" i)] h=.ok (.f (.str "text")) h :=
 qai n h _ [false,false,false,false,false,false,false,false,false,true] _ (by simp) (by simp) (by decide)
theorem Zaz:run prog (n+1) "_law_word" [.exc "NoPicture"] h=.ok (.f (.str "picture")) h :=
 qai n h _ [true,false,false,false,false,false,false,false,false,false] _ (by simp) (by simp) (by decide)
theorem qbk:run prog (n+1) "_law_word" [.exc "NoTile"] h=.ok (.f (.str "tile")) h :=
 qai n h _ [false,false,false,true,false,false,false,false,false,false] _ (by simp) (by simp) (by decide)
noncomputable def Zb3(q:Nat):String:=if q=0 then "read_picture" else if q=1 then "read_tile" else "read_numbers"
theorem Y8(a b:Str)(ha:sOk a=true)(hb:sOk b=true):eqF (.str a) (.str b)=some (a==b):=qaA a b ha hb
theorem qM(q:Nat)(hq:q<3)(t:Str)(i:Nat)(R:run prog (n+1) (Zb3 q) [.f (.str t)] h=.exc (xn "NoText" i) h):run prog (n+2) "_law_told" [I q,.f (.str t)] h=.ok (.f (.tup [.str "text",.int i])) h:=by
 have W:=qbr n h i;have k1:=Y8 "no" "told" (by decide +kernel) (by decide +kernel);have k2:=Y8 "text" "text" (by decide +kernel) (by decide +kernel);rw[show(("no":Str) == "told")=false by decide] at k1;rw[show(("text":Str) == "text")=true by decide] at k2;have s1:∀ c,Zb h (.tup [.f (.str "no"),.exc c])=some [.f (.str "no"),.exc c]:=λc=>rfl;have a0:∀ c,atM [MV.f (.str "no"),.exc c] 0=some (.f (.str "no")):=λc=>rfl;have a1:∀ c,atM [MV.f (.str "no"),.exc c] 1=some (.exc c):=λc=>rfl;rw[Zs];simp only[d__law_told]
 match q,hq with
 |0,_ =>
  have R:run prog (n+1) "read_picture" [.f (.str t)] h=.exc (xn "NoText" i) h:=R;simp[R,RS.caught,s1,a0,a1,k1,W,k2]
 |1,_ =>
  have R:run prog (n+1) "read_tile" [.f (.str t)] h=.exc (xn "NoText" i) h:=R;simp[R,RS.caught,s1,a0,a1,k1,W,k2]
 |2,_ =>
  have R:run prog (n+1) "read_numbers" [.f (.str t)] h=.exc (xn "NoText" i) h:=R;simp[R,RS.caught,s1,a0,a1,k1,W,k2]
end
end MP
end
section
namespace MP
open PySem
section
variable (n:Nat) (h:MH)
theorem yB(c:String)(t:Str)(R:run prog n "read_rows" [.f (.str t)] h=.exc c h):run prog (n+1) "read_picture" [.f (.str t)] h=.exc c h:=by
 rw[QC];simp only[d_read_picture];simp[R]
theorem Qy(hd:Int)(rows:List (List Int))(mk:R MV)(M:yu prog (run prog (n+3)) true "Picture" [I hd,.f (Ya false false rows)] h=mk)(ok:RowsOk ([hd]::rows))(ne:rows≠[]):run prog (n+4) "read_picture" [.f (.str (Zq ([hd]::rows)))] h=zd h (mk.st λv h1=>.ret v h1):=by
 have RR:=yQ n h hd rows ok ne;have sq1:Zb h (.f (Ya false false ([hd]::rows)))=some (MV.f (qa false [hd])::rows.map (MV.f∘qa false)):=by simp[Ya]
 have a0:atM (MV.f (qa false [hd])::rows.map (MV.f∘qa false)) 0=some (.f (qa false [hd])):=by
  have S0:=Yj (MV.f (qa false [hd])::rows.map (MV.f∘qa false)) 0;change atM _ (0:Int)=_ at S0;rw[S0];rfl
 have sq2:Zb h (.f (qa false [hd]))=some [I hd]:=rfl;have a1:atM [I hd] 0=some (I hd):=rfl;have sl:qo true (.f (Ya false false ([hd]::rows))) (some 1) none h=.ok (.f (Ya false false rows)) h:=by
  have c:=QaD (MV.f (qa false [hd])::rows.map (MV.f∘qa false)) 1 (by decide) (by simp;lia);have e:rows.map (MV.f∘qa false)=(rows.map (qa false)).map MV.f:=by simp
  have tn:Qj (.f (Ya false false ([hd]::rows)))=none:=rfl;simp only[qo,tn,sq1,Yb,c];show Zk true (rows.map (MV.f∘qa false)) h=_;rw[e,ye];rfl
 generalize Ya false false ([hd]::rows)=rv at *;generalize Ya false false rows=rv2 at *;generalize rows.map (MV.f∘qa false)=R0 at *;generalize qa false [hd]=r0 at *;rw[QC];simp only[d_read_picture];simp[RR,sq1,a0,sq2,a1,sl,M,yb];cases mk <;> rfl
theorem zad(hd:Int)(rows:List (List Int))(ok:RowsOk ([hd]::rows))(g:GoodT 0 hd rows):run prog (n+4) "read_picture" [.f (.str (Zq ([hd]::rows)))] h=.ok (.f (zbL hd rows)) h:=by
 rw[Qy n h hd rows _ (zaq (n+1) h hd false false rows g) ok g.ne];simp
theorem qac(hd:Int)(rows:List (List Int))(ok:RowsOk ([hd]::rows))(ne:rows≠[])(no:¬ QY 0 hd rows):run prog (n+4) "read_picture" [.f (.str (Zq ([hd]::rows)))] h=.exc "NoPicture" h:=by
 have OR:=Zv (n+1) (h++[.obj "Picture" []]) false false rows (by have:=ok.len;rw[ze];simp at this;lia);obtain⟨s,F⟩:∃ s,run prog (n+2) "fault_of" [.f (Ya true true rows),I 0,I hd] (h++[.obj "Picture" []])=.ok (.f (.str s)) (h++[.obj "Picture" []]):=by
  rcases ZQ (n+1) (h++[.obj "Picture" []]) 0 hd rows with ⟨o,_⟩|⟨_,z⟩
  ·exact absurd o no
  ·exact z
 have M:yu prog (run prog (n+3)) true "Picture" [I hd,.f (Ya false false rows)] h=.exc "NoPicture" (h++[.obj "Picture" []]):=by
  generalize Ya false false rows=r1 at *;generalize Ya true true rows=r2 at *;have D:run prog (n+3) "Picture.__init__" [.ref h.length,I hd,.f r1] (h++[.obj "Picture" []])=.exc "NoPicture" (h++[.obj "Picture" []]):=by
   rw[qK];simp only[d_Picture___init__];simp[OR,F]
  simp[yu,D]
 rw[Qy n h hd rows _ M ok ne];simp
theorem zab(t:Str)(R:run prog (n+1) "read_picture" [.f (.str t)] h=.exc "NoPicture" h):run prog (n+2) "_law_told" [I 0,.f (.str t)] h=.ok (.f (.tup [.str "no",.str "picture"])) h:=by
 have W:=Zaz n h;have k1:=Y8 "no" "told" (by decide +kernel) (by decide +kernel);have k2:=Y8 "picture" "text" (by decide +kernel) (by decide +kernel);rw[show(("no":Str) == "told")=false by decide] at k1;rw[show(("picture":Str) == "text")=false by decide] at k2;have s1:∀ c,Zb h (.tup [.f (.str "no"),.exc c])=some [.f (.str "no"),.exc c]:=λc=>rfl;have a0:∀ c,atM [MV.f (.str "no"),.exc c] 0=some (.f (.str "no")):=λc=>rfl;have a1:∀ c,atM [MV.f (.str "no"),.exc c] 1=some (.exc c):=λc=>rfl;rw[Zs];simp only[d__law_told];simp[R,RS.caught,s1,a0,a1,k1,W,k2]
theorem qP(c:String)(t:Str)(R:run prog n "read_rows" [.f (.str t)] h=.exc c h):run prog (n+1) "read_tile" [.f (.str t)] h=.exc c h:=by
 rw[QQ];simp only[d_read_tile];simp[R]
theorem qG(hd:Int)(rows:List (List Int))(mk:R MV)(M:yu prog (run prog (n+3)) true "Tile" [I hd,.f (Ya false false rows)] h=mk)(ok:RowsOk ([hd]::rows))(ne:rows≠[]):run prog (n+4) "read_tile" [.f (.str (Zq ([hd]::rows)))] h=zd h (mk.st λv h1=>.ret v h1):=by
 have RR:=yQ n h hd rows ok ne;have sq1:Zb h (.f (Ya false false ([hd]::rows)))=some (MV.f (qa false [hd])::rows.map (MV.f∘qa false)):=by simp[Ya]
 have a0:atM (MV.f (qa false [hd])::rows.map (MV.f∘qa false)) 0=some (.f (qa false [hd])):=by
  have S0:=Yj (MV.f (qa false [hd])::rows.map (MV.f∘qa false)) 0;change atM _ (0:Int)=_ at S0;rw[S0];rfl
 have sq2:Zb h (.f (qa false [hd]))=some [I hd]:=rfl;have a1:atM [I hd] 0=some (I hd):=rfl;have sl:qo true (.f (Ya false false ([hd]::rows))) (some 1) none h=.ok (.f (Ya false false rows)) h:=by
  have c:=QaD (MV.f (qa false [hd])::rows.map (MV.f∘qa false)) 1 (by decide) (by simp;lia);have e:rows.map (MV.f∘qa false)=(rows.map (qa false)).map MV.f:=by simp
  have tn:Qj (.f (Ya false false ([hd]::rows)))=none:=rfl;simp only[qo,tn,sq1,Yb,c];show Zk true (rows.map (MV.f∘qa false)) h=_;rw[e,ye];rfl
 generalize Ya false false ([hd]::rows)=rv at *;generalize Ya false false rows=rv2 at *;generalize rows.map (MV.f∘qa false)=R0 at *;generalize qa false [hd]=r0 at *;rw[QQ];simp only[d_read_tile];simp[RR,sq1,a0,sq2,a1,sl,M,yb];cases mk <;> rfl
theorem yay(hd:Int)(rows:List (List Int))(ok:RowsOk ([hd]::rows))(g:GoodT 1 hd rows):run prog (n+4) "read_tile" [.f (.str (Zq ([hd]::rows)))] h=.ok (.f (QaV hd rows)) h:=by
 rw[qG n h hd rows _ (zbm (n+1) h hd false false rows g) ok g.ne];simp
theorem Qax(hd:Int)(rows:List (List Int))(ok:RowsOk ([hd]::rows))(ne:rows≠[])(no:¬ QY 1 hd rows):run prog (n+4) "read_tile" [.f (.str (Zq ([hd]::rows)))] h=.exc "NoTile" h:=by
 have OR:=Zv (n+1) (h++[.obj "Tile" []]) false false rows (by have:=ok.len;rw[ze];simp at this;lia);obtain⟨s,F⟩:∃ s,run prog (n+2) "fault_of" [.f (Ya true true rows),I 1,I hd] (h++[.obj "Tile" []])=.ok (.f (.str s)) (h++[.obj "Tile" []]):=by
  rcases ZQ (n+1) (h++[.obj "Tile" []]) 1 hd rows with ⟨o,_⟩|⟨_,z⟩
  ·exact absurd o no
  ·exact z
 have M:yu prog (run prog (n+3)) true "Tile" [I hd,.f (Ya false false rows)] h=.exc "NoTile" (h++[.obj "Tile" []]):=by
  generalize Ya false false rows=r1 at *;generalize Ya true true rows=r2 at *;have D:run prog (n+3) "Tile.__init__" [.ref h.length,I hd,.f r1] (h++[.obj "Tile" []])=.exc "NoTile" (h++[.obj "Tile" []]):=by
   rw[qX];simp only[d_Tile___init__];simp[OR,F]
  simp[yu,D]
 rw[qG n h hd rows _ M ok ne];simp
theorem YaH(t:Str)(R:run prog (n+1) "read_tile" [.f (.str t)] h=.exc "NoTile" h):run prog (n+2) "_law_told" [I 1,.f (.str t)] h=.ok (.f (.tup [.str "no",.str "tile"])) h:=by
 have W:=qbk n h;have k1:=Y8 "no" "told" (by decide +kernel) (by decide +kernel);have k2:=Y8 "tile" "text" (by decide +kernel) (by decide +kernel);rw[show(("no":Str) == "told")=false by decide] at k1;rw[show(("tile":Str) == "text")=false by decide] at k2;have s1:∀ c,Zb h (.tup [.f (.str "no"),.exc c])=some [.f (.str "no"),.exc c]:=λc=>rfl;have a0:∀ c,atM [MV.f (.str "no"),.exc c] 0=some (.f (.str "no")):=λc=>rfl;have a1:∀ c,atM [MV.f (.str "no"),.exc c] 1=some (.exc c):=λc=>rfl;rw[Zs];simp only[d__law_told];simp[R,RS.caught,s1,a0,a1,k1,W,k2]
theorem yaH(q:Nat)(hq:q<3)(t:Str)(v:FV)(R:run prog (n+1) (Zb3 q) [.f (.str t)] h=.ok (.f v) h):run prog (n+2) "_law_told" [I q,.f (.str t)] h=.ok (.f (.tup [.str "told",v])) h:=by
 have k1:=Y8 "told" "told" (by decide +kernel) (by decide +kernel);rw[show(("told":Str) == "told")=true by decide] at k1;have s1:Zb h (.f (.tup [.str "told",v]))=some [.f (.str "told"),.f v]:=rfl;have a0:atM [MV.f (.str "told"),.f v] 0=some (.f (.str "told")):=rfl;rw[Zs];simp only[d__law_told]
 match q,hq with
 |0,_ =>
  have R:run prog (n+1) "read_picture" [.f (.str t)] h=.ok (.f v) h:=R;simp[R,RS.caught,zg,Yh,s1,a0,k1]
 |1,_ =>
  have R:run prog (n+1) "read_tile" [.f (.str t)] h=.ok (.f v) h:=R;simp[R,RS.caught,zg,Yh,s1,a0,k1]
 |2,_ =>
  have R:run prog (n+1) "read_numbers" [.f (.str t)] h=.ok (.f v) h:=R;simp[R,RS.caught,zg,Yh,s1,a0,k1]
end
end MP
end
section
namespace MP
open PySem
section
variable (n:Nat) (h:MH)
theorem Qcj(b:Bool)(ns:List Int)(h:MH):itV "seq" [.f (qa b ns)] h=some (ns.map λk=>I k,[]):=by
 have q:Zb h (.f (qa b ns))=some (ns.map λk=>I k):=by cases b <;> simp[qa,Vi]
 have g:qe h (.f (qa b ns))=[]:=by cases b <;> rfl
 simp only[YM,q,wj,g]
theorem Za9(b1 b2:Bool)(rows:List (List Int))(h:MH):itV "seq" [.f (Ya b1 b2 rows)] h=some (rows.map λr=>MV.f (qa b2 r),[]):=by
 have q:Zb h (.f (Ya b1 b2 rows))=some (rows.map λr=>MV.f (qa b2 r)):=by cases b1 <;> simp[Ya,Vi]
 have g:qe h (.f (Ya b1 b2 rows))=[]:=by cases b1 <;> rfl
 simp only[YM,q,wj,g]
theorem ZbM(h:MH)(ns:List Int)(f:Int->Str):Zk true (ns.map λk=>MV.f (.str (f k))) h=.ok (.f (.lst ((ns.map f).map FV.str))) h:=by
 have e:(ns.map λk=>MV.f (.str (f k)))=((ns.map f).map FV.str).map MV.f:=by simp
 rw[e,ye]
theorem Ybr(h:MH)(ns:List (List Int))(f:List Int->Str):Zk true (ns.map λk=>MV.f (.str (f k))) h=.ok (.f (.lst ((ns.map f).map FV.str))) h:=by
 have e:(ns.map λk=>MV.f (.str (f k)))=((ns.map f).map FV.str).map MV.f:=by simp
 rw[e,ye]
theorem QbI(h:MH)(ns:List Int)(ok:NumOk ns)(hl:ns.length<=1000):Zi .join (.f (.str (Str.ofString " "))) (.f (.lst ((ns.map sN).map FV.str))) h=.ok (.f (.str (za ns))) h:=by
 rw[qF];refine Yad h blk (ns.map sN) ?_;have:=QbD ns ok;have e:blk.length=1:=rfl;rw[e,Vd];lia
theorem Zbi(h:MH)(hd:Int)(rows:List (List Int))(ok:RowsOk ([hd]::rows)):Zi .join (.f (.str (Str.ofString "\n"))) (.f (.lst ((sN hd::rows.map za).map FV.str))) h=.ok (.f (.str (Zq ([hd]::rows)))) h:=by
 have e0:za [hd]=sN hd:=by unfold za;rw[Qq];rfl
 have e1:sN hd::rows.map za=([hd]::rows).map za:=by rw[xc,e0]
 rw[Yp,e1];refine Yad h nwl (([hd]::rows).map za) ?_;have h1:=zaR ([hd]::rows) ok;have h2:=ok.len;have e:nwl.length=1:=rfl;rw[e,Vd];lia
theorem ZaV(h:MH)(s:Str)(ts:List Str)(hl:ts.length<=1000):Qe true .add (.f (.lst [.str s])) (.f (.lst (ts.map FV.str))) h=.ok (.f (.lst ((s::ts).map FV.str))) h:=by
 have:=QO [FV.str s] (ts.map FV.str) h (by simp[ze];lia);simpa using this
theorem QT(hd:Int)(rows:List (List Int))(ok:RowsOk ([hd]::rows)):run prog (n+1) "_law_text" [I hd,.f (Ya false false rows)] h=.ok (.f (.str (Zq ([hd]::rows)))) h:=by
 have it:=Za9 false false rows h;have h0:=ok.ok [hd] (by simp) hd (by simp);have ts:=ZbL h h0.1 h0.2;have nw:=Ybr h rows za;have hl:=ok.len;have ct:=ZaV h (sN hd) (rows.map za) (by simp at hl ⊢;lia);have jo:=Zbi h hd rows ok;generalize Ya false false rows=rv at *;rw[Yar];simp only[d__law_text];simp[ts,Yh,it,MP.stM,yc];rw[Zr (e:=λr:List Int=>MV.f (qa false r)) (g:=λr=>MV.f (.str (za r))) rows [] none (by simp[ze] at hl ⊢;lia) (by
  intro r hr z;have rok:=ok.ok r (by simp[hr]);have rl:=ok.wid r (by simp[hr]);have it2:=Qcj false r h;have nw2:=ZbM h r sN;have jo2:=QbI h r rok (by lia);refine⟨some (.f (qa false r)),?_⟩;generalize qa false r=rr at *;simp[ql,it2,MP.stM,yc];rw[Zr (e:=λk:Int=>I k) (g:=λk=>MV.f (.str (sN k))) r [] none (by simp[ze];lia) (by
   intro k hk z;have:=ZbL h (rok k hk).1 (rok k hk).2;exact⟨some (I k),by simp[ql,this]⟩)]
  rw[vf,R.bind_ok,nw2,R.bind_ok,jo2];simp)]
 rw[vf,R.bind_ok,nw,R.bind_ok,ct,R.bind_ok,jo];simp
theorem YbJ(ns:List Int)(k:Int)(hk:0<=k)(hk2:k<1000000):∃ m:Int,1<=m/\m<=999999999999999999999999999000/\run prog (n+2) "_law_most" [.f (.scr ns),.ref 0] (atC k::h)=.ok (I m) (atC (k+1)::h):=by
 have N:=qs n h ns k hk hk2;have hm:=mod_lt (zL ns (k+1)) 7 (by decide);have h9:=mod_lt (zL ns (k+1)) 999 (by decide);have hp:∀ hh,Qe true .pow (I 10) (I 29) hh=.ok (I 100000000000000000000000000000) hh:=λhh=>ZaD true 10 29 (by decide);have hp2:∀ hh,Qe true .pow (I 10) (I 30) hh=.ok (I 1000000000000000000000000000000) hh:=λhh=>ZaD true 10 30 (by decide);have key:∀ c:Int,∃ m:Int,(1<=m/\m<=999999999999999999999999999000)/\atM [I 1,I 2,I 3,I 9,I 255,I (c%100000000000000000000000000000+1),I (1000000000000000000000000000000-1000-zL ns (k+1)%999)] (zL ns (k+1)%7)=some (I m):=λc=>by
  obtain⟨v,hv,e⟩:=qN [I 1,I 2,I 3,I 9,I 255,I (c%100000000000000000000000000000+1),I (1000000000000000000000000000000-1000-zL ns (k+1)%999)] _ hm.1 (by simpa using hm.2);have hc:=mod_lt c 100000000000000000000000000000 (by decide);simp only[xa,Ub,or_false] at hv
  rcases hv with rfl|rfl|rfl|rfl|rfl|rfl|rfl
  all_goals exact⟨_,by lia,e⟩
 obtain⟨m,hm1,e⟩:=key (QE ns (k+1));refine⟨m,hm1.1,hm1.2,?_⟩;have b1:∀ x hh,Qe true .mod (I x) (I 999) hh=.ok (I (x%999)) hh:=λx hh=>Qf _ _ _ (by decide);have b2:∀ x hh,Qe true .mod (I x) (I 7) hh=.ok (I (x%7)) hh:=λx hh=>Qf _ _ _ (by decide);have b3:∀ x hh,Qe true .mod (I x) (I 100000000000000000000000000000) hh=.ok (I (x%100000000000000000000000000000)) hh:=λx hh=>Qf _ _ _ (by decide);have e0:(1000000000000000000000000000000-1000:Int)=999999999999999999999999999000:=by decide
 rw[e0] at e;rw[Qd (n+1)];simp only[Yaq,Yb,qz];by_cases hn:ns=[]
 ·subst hn;simp[QE] at e;simp[N,hp,hp2,b1,b2,b3,Yh,e]
 ·have hl:0<ns.length:=Vh.mpr hn;have b4:∀ x hh,Qe true .mod (I x) (I (ns.length:Int)) hh=.ok (I (x%(ns.length:Int))) hh:=λx hh=>Qf _ _ _ (by lia);simp[N,hp,hp2,b1,b2,b3,b4,hl,Ybs ns hn (k+1),Yh,e]
theorem qan(ns:List Int)(k:Int)(most:Int)(I0 J0:Nat)(hk:0<=k)(hk2:k+(I0*J0:Nat)<1000000)(hm:1<=most)(hm2:most<1000000000000000000000000000000)(hi:I0<=1000)(hj:J0<=1000) :
  Ret (run prog (n+2) "_law_tile_rows" [.f (.scr ns),.ref 0,I most,I I0,I J0] (atC k::h)) λv h'=>∃ rows:List (List Int),rows.length=I0/\(∀ r∈rows,r.length=J0/\∀ v∈r,1<=v/\v<=most)/\v=.f (Ya false false rows)/\h'=atC (k+(I0*J0:Nat))::h:=by
 refine Ret.of λQ hQ=>?_;have hp:∀ hh,Qe true .pow (I 10) (I 21) hh=.ok (I 1000000000000000000000) hh:=λhh=>ZaD true 10 21 (by decide);rw[YR];simp only[d__law_tile_rows];simp[QB _ (I0:Int) (by lia)];refine zN (Q:=λr=>Ret (zd _ r) _) I0 (λi σ hh=>∃(kk:Int)(rows:List (List Int)) (g:MH) (z6 z7 z8 z9:Option MV),kk=k+(i*J0:Nat)/\(rows.length=i/\∀ r∈rows,r.length=J0/\∀ v∈r,1<=v/\v<=most)/\Own h g ((rows.map (qa false)).map .f)/\hh=atC kk::g /\
  σ=[some (.f (.scr ns)),some (.ref 0),some (I most),some (I I0),some (I J0),some (.ref (h.length+1)),z6,z7,z8,z9]) ⟨k,[],_,none,none,none,none,by simp,⟨rfl,by simp⟩,Own.new h,by simp,rfl⟩ ?_ ?_
 ·rintro i σ hh hil ⟨kk,rows,g,z6,z7,z8,z9,hkk,⟨d1,d2⟩,o,rfl,rfl⟩ Q hQ;simp[Yl,QB _ (J0:Int) (by lia)];refine zN (Q:=λr=>Nx r _) J0 (λj σ hh=>∃(kj:Int)(r:List Int)(z8 z9:Option MV),kj=kk+(j:Int)/\(r.length=j/\∀ v∈r,1<=v/\v<=most)/\hh=atC kj::(g++[.lst ((r.map FV.int).map .f)]) /\
   σ=[some (.f (.scr ns)),some (.ref 0),some (I most),some (I I0),some (I J0),some (.ref (h.length+1)),some (I i),some (.ref (g.length+1)),z8,z9]) ⟨kk,[],z8,z9,by simp,⟨rfl,by simp⟩,by simp,rfl⟩ ?_ ?_
  ·rintro j σ hh hjl ⟨kj,r,z8,z9,hkj,⟨hr1,hr2⟩,rfl,rfl⟩ Q hQ;have hb:kj<1000000/\0<=kj:=by
    have:(i+1)*J0<=I0*J0:=vm _ hil;rw[Uq] at this
    lia
   have N:=qs n (g++[.lst ((r.map FV.int).map .f)]) ns kj hb.2 hb.1;have hd:=yW ns (kj+1);generalize zL ns (kj+1)=x at N hd;have h4:=mod_lt x 4 (by decide);obtain⟨v,ev⟩:∃ v:Int,atM [I (x/4*1000000000000000000000+x),I x,I 0,I (most-1)] (x%4)=some (I v):=by
    obtain⟨w,hw,e⟩:=qN [I (x/4*1000000000000000000000+x),I x,I 0,I (most-1)] _ h4.1 (by simpa using h4.2);simp only[xa,Ub,or_false] at hw
    rcases hw with rfl|rfl|rfl|rfl
    all_goals exact⟨_,e⟩
   have hv:=mod_lt v most (by lia);have hl:r.length<sizeL:=by rw[ze];lia
   have c1:=(Own.new (xs:=(r.map FV.int).map .f) g).cell (atC (kj+1));have c0:=(Own.new (xs:=(r.map FV.int).map .f) g).cell (atC kj);have m1:∀ hh,Qe true .mul (I (x/4)) (I 1000000000000000000000) hh=.ok (I (x/4*1000000000000000000000)) hh:=λhh=>QaG _ _ _ (.inl (by lia));have m4:∀ hh,Qe true .fdiv (I x) (I 4) hh=.ok (I (x/4)) hh:=λhh=>Zp _ _ _ ⟨by decide,.inl (by decide)⟩;have d4:∀ hh,Qe true .mod (I x) (I 4) hh=.ok (I (x%4)) hh:=λhh=>Qf _ _ _ (by decide);have dm:∀ hh,Qe true .mod (I v) (I most) hh=.ok (I (v%most)) hh:=λhh=>Qf _ _ _ (by lia);simp only[Ui] at N c1 c0;simp[Yl,N,hp,m1,m4,d4,Yh,ev,dm,c0,c1,hl,Qak];exact hQ _ _ ⟨kj+1,r++[1+v%most],_,_,by lia,⟨by simp[hr1],λy hy=>by
    rcases Uf.mp hy with hy|hy
    ·exact hr2 y hy
    ·simp at hy;subst hy;lia⟩,by simp,rfl⟩
  ·rintro σ hh ⟨kj,r,z8,z9,hkj,⟨hr1,hr2⟩,rfl,rfl⟩;have f1:=qbH (atC kj) g (r.map FV.int);have c1:=(o.more [.dead]).cell (atC kj);have hl:rows.length<sizeL:=by rw[ze,d1];lia
   obtain⟨g',eg,o'⟩:=(o.more [.dead]).set (atC kj) ((rows.map (qa false)).map .f++[.f (.lst (r.map FV.int))]);have c0:=(o.more [.lst ((r.map FV.int).map .f)]).cell (atC kj);simp only[Ui] at f1 c1 eg c0;simp[f1,c0,c1,hl,eg];exact hQ _ _ ⟨kj,rows++[r],g',_,_,_,_,by rw[hkj,hkk,Uq];lia,⟨by simp[d1],λx hx=>by
    rcases Uf.mp hx with hx|hx
    ·exact d2 x hx
    ·rw[Ua.mp hx];exact⟨hr1,hr2⟩⟩,by simpa[qa,sq] using o',rfl,rfl⟩
 ·rintro σ hh ⟨kk,rows,g,z6,z7,z8,z9,hkk,⟨d1,d2⟩,o,rfl,rfl⟩;obtain⟨t',F⟩:=o.frz (atC kk);simp[F];exact hQ _ _ ⟨rows,d1,d2,rfl,by rw[hkk]⟩
theorem zbV{most:Int}{rows:List (List Int)}{H W:Nat}(h1:rows.length=H)(h2:∀ r∈rows,r.length=W/\∀ v∈r,0<=v/\v<=most)(m0:0<=most)(m1:most<1000000000000000000000000000000)(hH:H<=60)(w1:1<=W)(hW:W<=60):RowsOk ([most]::rows):=by
 refine⟨λr hr=>?_,λr hr=>?_,λr hr=>?_,by simp;lia⟩
 ·rcases xa.mp hr with rfl|hr
  ·intro x hx;rw[Ua.mp hx];exact⟨m0,by lia⟩
  ·intro x hx;have:=(h2 r hr).2 x hx;exact⟨this.1,by lia⟩
 ·rcases xa.mp hr with rfl|hr
  ·simp
  ·intro e;have:=(h2 r hr).1;rw[e] at this;simp at this;lia
 ·rcases xa.mp hr with rfl|hr
  ·simp
  ·have:=(h2 r hr).1;lia
end
end MP
end
section
namespace MP
open PySem
structure BadWord (w:Str):Prop where
 no:Yo w=false
 asc:Asc w
 fr:32∉w.cps.toList/\10∉w.cps.toList
 sz:w.length<=100
instance (w:Str):Decidable (Asc w):=inferInstanceAs (Decidable (∀ c∈w.cps.toList,c<128))
theorem Zam(w:Str)(h:(Yo w=false/\Asc w)/\(32∉w.cps.toList/\10∉w.cps.toList)/\w.length<=100):BadWord w:=⟨h.1.1,h.1.2,h.2.1,h.2.2⟩
noncomputable def Ybg:Str:=Txt.mul (Str.ofString "0") 30
noncomputable def Yay(p : Str) : List Str := [Str.ofString "0" ++ p, Str.ofString "-" ++ p, Str.ofString "+" ++ p, p++Str.ofString "a", p++Str.ofString ".", Str.ofString "1" ++ Ybg, "a", "1.0", "--1", "0x1", "1_0", "1e1"]
theorem qaO{a b:Str}(x:32∉a.cps.toList/\10∉a.cps.toList)(y:32∉b.cps.toList/\10∉b.cps.toList):32∉(a++b).cps.toList/\10∉(a++b).cps.toList:=by
 rw[qg];simp only[Uf,not_or];exact⟨⟨x.1,y.1⟩,x.2,y.2⟩
theorem qbY{v:Int}(h0:0<=v)(h1:v<10^30):∀ w∈Yay (sN v),BadWord w:=by
 obtain⟨l1,l2⟩:=ZJ h0 h1;have fr:=QaJ h0;have as:=yaX h0;have front:∀(a:Str)(c:Nat),a.cps.toList=[c]->c<128->c≠32->c≠10->(Yo (a++sN v)=false)->BadWord (a++sN v):=λa c e c1 c2 c3 no=>by
  have la:a.length=1:=by rw[Qo,e];rfl
  exact⟨no,zbf (λd hd=>by rw[e] at hd;rw[Ua.mp hd];exact c1) as,qaO ⟨by rw[e];simpa using Ne.symm c2,by rw[e];simpa using Ne.symm c3⟩ fr,by rw[Zae];lia⟩
 have back:∀(a:Str)(c:Nat),a.cps.toList=[c]->c<128->c≠32->c≠10->Qw c=false->BadWord (sN v++a):=λa c e c1 c2 c3 no=>by
  have la:a.length=1:=by rw[Qo,e];rfl
  exact⟨ZS (c:=c) (by rw[qg,e];simp) no,zbf as (λd hd=>by rw[e] at hd;rw[Ua.mp hd];exact c1),qaO fr ⟨by rw[e];simpa using Ne.symm c2,by rw[e];simpa using Ne.symm c3⟩,by rw[Zae];lia⟩
 intro w hw;simp only[Yay,xa,Ub,or_false] at hw
 rcases hw with rfl|rfl|rfl|rfl|rfl|rfl|rfl|rfl|rfl|rfl|rfl|rfl
 ·exact front _ 48 (by decide) (by decide) (by decide) (by decide) (YaF l1)
 ·exact front _ 45 (by decide) (by decide) (by decide) (by decide) (ZS (c:=45) (by rw[qg];exact ud _ (by decide)) (by decide))
 ·exact front _ 43 (by decide) (by decide) (by decide) (by decide) (ZS (c:=43) (by rw[qg];exact ud _ (by decide)) (by decide))
 ·exact back _ 97 (by decide) (by decide) (by decide) (by decide) (by decide)
 ·exact back _ 46 (by decide) (by decide) (by decide) (by decide) (by decide)
 all_goals exact Zam _ (by decide +kernel)
theorem Zw{xs ys:List Int}{w:Str}(hx:NumOk xs)(hy:NumOk ys)(hl:xs.length+ys.length<=50)(b:BadWord w):BadW (xs.map sN++w::ys.map sN):=ZbX hx hy hl b.no b.asc b.fr b.sz
theorem QJ:BadWord (Str.ofString ""):=Zam _ (by decide +kernel)
theorem qD(h:MH)(a b:Str)(hz:a.length+b.length<=1000000):Zi .cat (.f (.str a)) (.f (.str b)) h=.ok (.f (.str (a++b))) h:=by
 simp only[Zi,yc,Yb];rw[if_pos (by rw[ze];lia)]
theorem Yb7(h:MH):Zi .rep (.f (.str (Str.ofString "0"))) (I 30) h=.ok (.f (.str Ybg)) h:=by
 simp only[Zi,yc,qc,Yb];rw[if_pos (by decide)];rfl
theorem NumOk.take{ns:List Int}(ok:NumOk ns)(k:Nat):NumOk (ns.take k):=λn hn=>ok n (List.mem_of_mem_take hn)
theorem NumOk.drop{ns:List Int}(ok:NumOk ns)(k:Nat):NumOk (ns.drop k):=λn hn=>ok n (List.mem_of_mem_drop hn)
theorem Qbs{ws:List Str}(ne:ws≠[]):Zg (ws++[Str.ofString ""])=Zg ws++Str.ofString " ":=by
 unfold Zg;rw[Qq,Qq,Z1 blk ne,qF]
theorem qa5{ws:List Str}(ne:ws≠[]):Zg (Str.ofString ""::ws)=Str.ofString " "++Zg ws:=by
 unfold Zg;rw[Qq,Qq,YaX blk ne,qF]
theorem QaZ(h:MH)(ws:List Str)(b:BadW ws):Zi .join (.f (.str (Str.ofString " "))) (.f (.lst (ws.map FV.str))) h=.ok (.f (.str (Zg ws))) h:=by
 rw[qF];refine Yad h blk ws ?_;have h1:=YI ws b.sz;have h2:=b.len;have e:blk.length=1:=rfl;have:ws.length*100<=100*100:=vm _ h2;rw[e];lia
theorem yaQ(h:MH)(a:Nat)(ws:List Str)(c:Ye h a=some (ws.map λw=>MV.f (.str w)))(b:BadW ws):Zi .join (.f (.str (Str.ofString " "))) (.ref a) h=.ok (.f (.str (Zg ws))) h:=by
 have h1:=YI ws b.sz;have h2:=b.len;have e:blk.length=1:=rfl;have:ws.length*100<=100*100:=vm _ h2;simp only[Zi,yc,listOf,Yb,c,Y4];rw[if_pos (by rw[qF,e];lia),qF];rfl
end MP
end
section
namespace MP
open PySem
section
variable (n:Nat) (h:MH)
noncomputable abbrev wsV(ws:List Str):List MV:=ws.map λw=>MV.f (.str w)
theorem Zbq(h:MH)(ns:List Int)(ok:NumOk ns)(ne:ns≠[])(hl:ns.length<=100):Zi (.split false) (.f (.str (za ns))) (.f (.str (Str.ofString " "))) h=.ok (.ref h.length) (h++[.lst (wsV (ns.map sN))]):=by
 have hz:=yp ns ok;rw[qF];simp only[Zi,yc,Yb];rw[if_pos ⟨rfl,by rw[ze];lia⟩,zav ok ne];rfl
theorem qbf(sc:List Int)(k:Int)(hk:0<=k)(hk2:k<1000000)(ns:List Int)(ok:NumOk ns)(ne:ns≠[])(hl:ns.length<=40) :
  ∃ ws,BadW ws/\run prog (n+2) "_law_bad" [.f (.scr sc),.ref 0,.f (.str (za ns))] (atC k::h)=.ok (.f (.str (Zg ws))) (atC (k+1)::h):=by
 have N:=qs n h sc k hk hk2;have hd:=yW sc (k+1);generalize zL sc (k+1)=x at N hd;have hL:0<ns.length:=Vh.mpr ne;have SP:=Zbq (atC (k+1)::h) ns ok ne (by lia);have hz:=yp ns ok;obtain⟨j,ej⟩:=Xf (show 0<=x/6%(ns.length:Int) from Wj _ (by lia));have hj:j<ns.length:=by have:=vh (x/6) (show(0:Int)<(ns.length:Int) by lia);lia
 have c0:Ye (atC (k+1)::(h++[.lst (wsV (ns.map sN))])) (h.length+1)=some (wsV (ns.map sN)):=by
  have:=Zo (atC (k+1)::h) [] (wsV (ns.map sN));simpa using this
 have le:yj true "len" [.ref (h.length+1)] (atC (k+1)::(h++[.lst (wsV (ns.map sN))]))=.ok (I (ns.length:Int)) (atC (k+1)::(h++[.lst (wsV (ns.map sN))])):=by
  rw[ZL];show opt (Ye _ _) _=_;rw[c0,Yb];simp
 have b1:∀ hh,Qe true .fdiv (I x) (I 6) hh=.ok (I (x/6)) hh:=λhh=>Zp _ _ _ ⟨by decide,.inl (by decide)⟩;have b2:∀ hh,Qe true .mod (I (x/6)) (I (ns.length:Int)) hh=.ok (I (j:Int)) hh:=λhh=>by rw[<- ej];exact Qf _ _ _ (by lia)
 have b3:∀ hh,Qe true .mod (I x) (I 6) hh=.ok (I (x%6)) hh:=λhh=>Qf _ _ _ (by decide);have b4:∀ hh,Qe true .fdiv (I x) (I 100) hh=.ok (I (x/100)) hh:=λhh=>Zp _ _ _ ⟨by decide,.inl (by decide)⟩;have b5:∀ hh,Qe true .mod (I (x/100)) (I 3) hh=.ok (I (x/100%3)) hh:=λhh=>Qf _ _ _ (by decide);have b6:∀ hh,Qe true .mod (I (x/100)) (I 12) hh=.ok (I (x/100%12)) hh:=λhh=>Qf _ _ _ (by decide);have aj:atM (wsV (ns.map sN)) (j:Int)=some (.f (.str (sN ns[j]))):=by
  rw[Yj];simp[hj]
 have hv:=ok ns[j] (uk _);have lv:∀(t:MH)(s:Str),yk (atC k::h) (.f (.str s)) (atC (k+1)::(h++t))=.ok (.f (.str s)) (atC (k+1)::h):=λt s=>ZF h t k (k+1) (.str s);have st:∀ s,yc (.f (.str s))=some s:=λs=>rfl;have row:Zg (ns.map sN)=za ns:=rfl;have wne:ns.map sN≠[]:=by simpa using ne
 have m3:=mod_lt (x/100) 3 (by decide);have m12:=mod_lt (x/100) 12 (by decide);by_cases c1:x%6=0
 ·-- a blank at an end, or no word at all
  have C1:=λhh=>qD hh (za ns) (Str.ofString " ") (by have:(Str.ofString " ").length=1:=rfl;lia);have C2:=λhh=>qD hh (Str.ofString " ") (za ns) (by have:(Str.ofString " ").length=1:=rfl;lia);obtain⟨w,hw,e⟩:=qN [MV.f (.str (za ns++Str.ofString " ")),.f (.str (Str.ofString " "++za ns)),.f (.str (Str.ofString ""))] _ m3.1 (by simpa using m3.2);have key:∃ ws,BadW ws/\w=.f (.str (Zg ws)):=by
   simp only[xa,Ub,or_false] at hw
   rcases hw with rfl|rfl|rfl
   ·exact⟨ns.map sN++[Str.ofString ""],Zw (ys:=[]) ok (λ_ z=>nomatch z) (by simp;lia) QJ,by rw[Qbs wne,row]⟩
   ·exact⟨Str.ofString ""::ns.map sN,Zw (xs:=[]) (λ_ z=>nomatch z) ok (by simp;lia) QJ,by rw[qa5 wne,row]⟩
   ·exact⟨[Str.ofString ""],Zw (xs:=[]) (ys:=[]) (λ_ z=>nomatch z) (λ_ z=>nomatch z) (by simp) QJ,by rfl⟩
  obtain⟨ws,bw,rfl⟩:=key;refine⟨ws,bw,?_⟩;generalize za ns=tz at *;generalize wsV (ns.map sN)=M at *;generalize Zg ws=rw' at *;rw[yF];simp only[d__law_bad];simp at SP;simp[N,st,SP,b1,le,b2,c0,aj,b3,c1,C1,C2,Yh,b4,b5,e,lv]
 ·by_cases c2:x%6=1
  ·-- two blanks
   have bw:=Zw (ok.take j) (ok.drop j) (by simp;lia) QJ;refine⟨_,bw,?_⟩;have s1:∀ hh,Ye hh (h.length+1)=some (wsV (ns.map sN))->qo true (.ref (h.length+1)) none (some (j:Int)) hh=.ok (.f (.lst (((ns.take j).map sN).map FV.str))) hh:=λhh ch=>by
    have c:=ycn (wsV (ns.map sN)) (j:Int) (by lia) (by simp;lia);have tn:Qj (.ref (h.length+1))=none:=rfl;simp only[qo,tn,Zb,ch,Yb,c];have e:(wsV (ns.map sN)).take (j:Int).toNat=(((ns.take j).map sN).map FV.str).map MV.f:=by simp[List.map_take];rfl
    rw[e,ye]
   have s2:∀ hh,Ye hh (h.length+1)=some (wsV (ns.map sN))->qo true (.ref (h.length+1)) (some (j:Int)) none hh=.ok (.f (.lst (((ns.drop j).map sN).map FV.str))) hh:=λhh ch=>by
    have c:=QaD (wsV (ns.map sN)) (j:Int) (by lia) (by simp;lia);have tn:Qj (.ref (h.length+1))=none:=rfl;simp only[qo,tn,Zb,ch,Yb,c];have e:(wsV (ns.map sN)).drop (j:Int).toNat=(((ns.drop j).map sN).map FV.str).map MV.f:=by simp[List.map_drop];rfl
    rw[e,ye]
   have S1:=s1 _ c0;have S2:=s2 _ c0;have k1:∀ hh,Qe true .add (.f (.lst (((ns.take j).map sN).map FV.str))) (.f (.lst [.str (Str.ofString "")])) hh=.ok (.f (.lst (((ns.take j).map sN).map FV.str++[.str (Str.ofString "")]))) hh:=λhh=>QO _ _ hh (by simp[ze];lia);have k2:∀ hh,Qe true .add (.f (.lst (((ns.take j).map sN).map FV.str++[.str (Str.ofString "")]))) (.f (.lst (((ns.drop j).map sN).map FV.str))) hh=.ok (.f (.lst (((ns.take j).map sN++Str.ofString ""::(ns.drop j).map sN).map FV.str))) hh:=λhh=>by
    rw[QO _ _ hh (by simp[ze];lia)];simp
   have jw:=λhh=>QaZ hh _ bw;clear s1 s2;generalize (ns.take j).map sN++Str.ofString ""::(ns.drop j).map sN=ws at *;generalize Zg ws=rw' at *;generalize FV.lst (ws.map FV.str)=v3 at *;generalize FV.lst (((ns.take j).map sN).map FV.str++[.str (Str.ofString "")])=v4 at *;generalize FV.lst (((ns.take j).map sN).map FV.str)=v1 at *;generalize FV.lst (((ns.drop j).map sN).map FV.str)=v2 at *;generalize za ns=tz at *;generalize wsV (ns.map sN)=M at *;rw[yF];simp only[d__law_bad];simp at SP;simp[N,st,SP,b1,le,b2,c0,aj,b3,c2,S1,S2,Yh,k1,k2,jw,lv]
  ·-- another word
   obtain⟨lp1,lp2⟩:=ZJ hv.1 hv.2;obtain⟨w,hw,e⟩:=qN (wsV (Yay (sN ns[j]))) _ m12.1 (by simpa[Yay] using m12.2);obtain⟨w',hw',rfl⟩:=Wl.mp hw;have bw:=Zw (ok.take j) (ok.drop (j+1)) (by simp;lia) (qbY hv.1 hv.2 w' hw');have es:(wsV (ns.map sN)).set j (.f (.str w'))=wsV ((ns.take j).map sN++w'::(ns.drop (j+1)).map sN):=by
    rw[List.set_eq_take_append_cons_drop,if_pos (by simpa using hj)];simp[List.map_take,List.map_drop]
   refine⟨_,bw,?_⟩;have cat1:∀(a:Str) hh,a.length<=100->Zi .cat (.f (.str a)) (.f (.str (sN ns[j]))) hh=.ok (.f (.str (a++sN ns[j]))) hh:=λa hh ha=>qD hh a _ (by lia);have cat2:∀(a:Str) hh,a.length<=100->Zi .cat (.f (.str (sN ns[j]))) (.f (.str a)) hh=.ok (.f (.str (sN ns[j]++a))) hh:=λa hh ha=>qD hh _ a (by lia);have q1:=λhh=>cat1 (Str.ofString "0") hh (by decide);have q2:=λhh=>cat1 (Str.ofString "-") hh (by decide);have q3:=λhh=>cat1 (Str.ofString "+") hh (by decide);have q4:=λhh=>cat2 (Str.ofString "a") hh (by decide);have q5:=λhh=>cat2 (Str.ofString ".") hh (by decide);have q6:=λhh=>qD hh (Str.ofString "1") Ybg (by decide +kernel);have q7:=Yb7;have k1 : ∀ hh, Qe true .add (.f (.lst ([Str.ofString "0" ++ sN ns[j], Str.ofString "-" ++ sN ns[j], Str.ofString "+" ++ sN ns[j], sN ns[j]++Str.ofString "a", sN ns[j]++Str.ofString ".", Str.ofString "1" ++ Ybg, "a", "1.0", "--1", "0x1"].map FV.str))) (.f (.lst [.str "1_0", .str "1e1"])) hh = .ok (.f (.lst ((Yay (sN ns[j])).map FV.str))) hh := λhh => by
    rw[QO _ _ hh (by simp[ze])];rfl
   have sq8:∀ hh,Zb hh (.f (.lst ((Yay (sN ns[j])).map FV.str)))=some (wsV (Yay (sN ns[j]))):=λhh=>by simp
   have ix:ixM (wsV (ns.map sN)).length (j:Int)=some j:=by simp[ixM,hj]
   have sc0:∀ ys,yf (atC (k+1)::(h++[.lst (wsV (ns.map sN))])) (h.length+1) ys=atC (k+1)::(h++[.lst ys]):=λys=>Qak _ _ _ _;have c9:Ye (atC (k+1)::(h++[.lst (wsV ((ns.take j).map sN++w'::(ns.drop (j+1)).map sN))])) (h.length+1)=some (wsV ((ns.take j).map sN++w'::(ns.drop (j+1)).map sN)):=by
    have:=Zo (atC (k+1)::h) [] (wsV ((ns.take j).map sN++w'::(ns.drop (j+1)).map sN));simpa using this
   have jw:=yaQ _ _ _ c9 bw;simp only[xc,Xn] at k1;clear cat1 cat2 bw;generalize (ns.take j).map sN++w'::(ns.drop (j+1)).map sN=ws at *;generalize Zg ws=rw' at *;generalize wsV ws=M2 at *;generalize wsV (Yay (sN ns[j]))=M3 at *;generalize FV.lst ((Yay (sN ns[j])).map FV.str)=v3 at *;generalize za ns=tz at *;generalize wsV (ns.map sN)=M at *;rw[yF];simp only[d__law_bad];simp at SP;simp[N,st,SP,b1,le,b2,c0,aj,b3,c1,c2,q1,q2,q3,q4,q5,q6,q7,Yh,k1,sq8,b4,b6,e,ix,sc0,es,jw,lv]
end
end MP
end
section
namespace MP
open PySem
structure LinesOk (L:List Str):Prop where
 ne:L≠[]
 fr:∀ l∈L,10∉l.cps.toList
 sz:∀ l∈L,l.length<=10100
 len:L.length<=60
noncomputable def zu(L:List Str):Str:=Txt.join nwl L
theorem LinesOk.split{L:List Str}(o:LinesOk L):Txt.split (zu L) nwl=L:=yx o.ne o.fr
theorem LinesOk.sum{L:List Str}(o:LinesOk L):(L.map (·.length)).sum+L.length*nwl.length<=700000:=by
 have h1:=YI L o.sz;have h2:=o.len;have e:nwl.length=1:=rfl;have:L.length*10100<=60*10100:=vm _ h2;rw[e];lia
theorem LinesOk.size{L:List Str}(o:LinesOk L):(zu L).length<=700000:=by
 have h1:=o.sum;have h2:=QH nwl L;unfold zu;rw[Qq];lia
theorem ZI{ns:List Int}(ok:NumOk ns)(hl:ns.length<=100):10∉(za ns).cps.toList/\(za ns).length<=10100:=by
 refine⟨λhc=>?_,by have:=yp ns ok;lia⟩
 rcases yS ok _ hc with z|z <;> lia
section
variable (n:Nat) (h:MH)
theorem Z8(a:Nat)(L:List Str)(c:Ye h a=some (wsV L))(o:LinesOk L):Zi .join (.f (.str (Str.ofString "\n"))) (.ref a) h=.ok (.f (.str (zu L))) h:=by
 have:=o.sum;simp only[Zi,yc,listOf,Yb,c,wsV,Y4];rw[if_pos (by rw[Yp];lia),Yp];rfl
theorem zaj(L:List Str)(o:LinesOk L):Zi .join (.f (.str (Str.ofString "\n"))) (.f (.lst (L.map FV.str))) h=.ok (.f (.str (zu L))) h:=by
 rw[Yp];exact Yad h nwl L (by have:=o.sum;lia)
theorem QW(q:Nat)(hq:q<2)(L:List Str)(o:LinesOk L)(k0:Nat)(good:∀ i w,i<k0->L[i]?=some w->∃ r:List Int,w=za r/\NumOk r/\r≠[]/\r.length<=100/\(i=0->r.length=1))(w0:Str)(hw:L[k0]?=some w0)(bad:Ref k0 w0) :
  run prog (n+5) "_law_told" [I q,.f (.str (zu L))] h=.ok (.f (.tup [.str "text",.int k0])) h:=by
 have R:=yU n h (zu L) L k0 o.split (by have:=o.size;lia) (by have:=o.len;lia) good w0 hw bad;refine qM (n+3) h q (by lia) _ k0 ?_
 match q,hq with
 |0,_=>exact yB (n+3) h _ _ R
 |1,_=>exact qP (n+3) h _ _ R
theorem zaW(L:List Str)(ws:List Str)(rest:List Str)(o:LinesOk L)(e:L=Zg ws::rest)(b:BadW ws):run prog (n+5) "_law_told" [I 2,.f (.str (zu L))] h=.ok (.f (.tup [.str "text",.int 0])) h :=
 qM (n+3) h 2 (by decide) _ 0 (QK (n+1) h (zu L) ws rest b (by rw[o.split,e]) (by have:=o.size;lia))
theorem qas(ns:List Int)(x:Str)(o:LinesOk [za ns,x])(ok:NumOk ns)(ne:ns≠[])(hl:ns.length<=100):run prog (n+5) "_law_told" [I 2,.f (.str (zu [za ns,x]))] h=.ok (.f (.tup [.str "text",.int 1])) h :=
 qM (n+3) h 2 (by decide) _ 1 (ZH (n+1) h _ ns x ok ne hl o.split (by have:=o.size;lia))
theorem Qv(k0:Nat):run prog (n+2) "_law_same" [.f (.tup [.str "text",.int k0]),.f (.tup [.str "text",.int k0])] h=.ok (B true) h :=
 zI n h 2 _ (by
  have:sOk ("text":Str)=true:=by decide +kernel
  simp[isP,this,ze])
end
structure Lns (q:Nat) (all:List (List Int)):Prop where
 ok:RowsOk all
 ne:all≠[]
 q3:q<3
 one:q<2->∀ r,all[0]?=some r->r.length=1
 two:q=2->all.length=1
 wid:∀ r∈all,r.length<=40
 len:all.length<=40
theorem Lns.row{q:Nat}{all:List (List Int)}(l:Lns q all){r:List Int}(h:r∈all):NumOk r/\r≠[]/\r.length<=40:=⟨l.ok.ok r h,l.ok.ne r h,l.wid r h⟩
theorem Lns.lines{q:Nat}{all:List (List Int)}(l:Lns q all):LinesOk (all.map za):=by
 refine⟨by simpa using l.ne,λx hx=>?_,λx hx=>?_,by have:=l.len;simp;lia⟩
 all_goals
  obtain⟨r,hr,rfl⟩:=Wl.mp hx;obtain⟨a,b,c⟩:=l.row hr
  first|exact(ZI a (by lia)).1|exact(ZI a (by lia)).2
theorem LinesOk.set{L:List Str}(o:LinesOk L){ws:List Str}(b:BadW ws)(i:Nat):LinesOk (L.set i (Zg ws)):=by
 have key:∀ l∈L.set i (Zg ws),l∈L\/l=Zg ws:=λl hl=>wq hl;refine⟨λz=>o.ne (by simpa using congrArg xp z),λl hl=>?_,λl hl=>?_,by have:=o.len;simpa using this⟩
 ·rcases key l hl with z|rfl
  ·exact o.fr l z
  ·exact b.free
 ·rcases key l hl with z|rfl
  ·exact o.sz l z
  ·exact b.size
section
variable (n:Nat) (h:MH)
theorem QaK(q:Nat)(all:List (List Int))(l:Lns q all)(L:List Str)(o:LinesOk L)(hL:L.length=all.length)(k0:Nat)(pre:∀ i,i<k0->L[i]?=(all.map za)[i]?)(ws:List Str)(b:BadW ws)(hw:L[k0]?=some (Zg ws)) :
  run prog (n+5) "_law_told" [I q,.f (.str (zu L))] h=.ok (.f (.tup [.str "text",.int k0])) h:=by
 have hk:k0<all.length:=by rw[<- hL];exact(Xa.mp hw).1
 by_cases hq:q<2
 ·refine QW n h q hq L o k0 (λi w hi hw=>?_) _ hw (.bad b);rw[pre i hi,We] at hw;obtain⟨r,hr,rfl⟩:=ub.mp hw;obtain⟨x,y,z⟩:=l.row (Xc hr);exact⟨r,rfl,x,y,by lia,λe=>by subst e;exact l.one hq r hr⟩
 ·have q2:q=2:=by have:=l.q3;lia
  subst q2;have:=l.two rfl;have:k0=0:=by lia
  subst this
  match L,hL,hw with
  |x::rest,_,hw =>
   simp at hw;exact zaW n h (x::rest) ws rest o (by rw[hw]) b
theorem zaA(sc:List Int)(k:Int)(hk:0<=k)(hk2:k+10<1000000)(q:Nat)(all:List (List Int))(l:Lns q all) :
  ∃ kk,k<=kk/\kk<=k+4/\run prog (n+6) "_law_rows_bad" [.f (.scr sc),.ref 0,I q,.f (.lst ((all.map za).map FV.str))] (atC k::h)=.ok (B true) (atC kk::h):=by
 have hp:0<all.length:=Vh.mpr l.ne;have N1:=qs (n+4) h sc k hk (by lia);generalize zL sc (k+1)=x1 at N1;obtain⟨k0,e0⟩:=Xf (show 0<=x1%(all.length:Int) from Wj _ (by lia));have hk0:k0<all.length:=by have:=vh x1 (show(0:Int)<(all.length:Int) by lia);lia
 have b1:∀ hh,Qe true .mod (I x1) (I (all.length:Int)) hh=.ok (I (k0:Int)) hh:=λhh=>by rw[<- e0];exact Qf _ _ _ (by lia)
 have le:∀ hh,yj true "len" [.f (.lst ((all.map za).map FV.str))] hh=.ok (I (all.length:Int)) hh:=λhh=>by simp
 have li:∀ hh:MH,yj false "list" [.f (.lst ((all.map za).map FV.str))] hh=.ok (.ref hh.length) (hh++[.lst (wsV (all.map za))]):=λhh=>by
  rw[Ybj];show opt (some (((all.map za).map FV.str).map MV.f)) _=_;rw[Yb];simp[Zk,Vi]
 have sq0:∀ hh,Zb hh (.f (.lst ((all.map za).map FV.str)))=some (wsV (all.map za)):=λhh=>by simp
 have at0:∀ j (hj:j<all.length),atM (wsV (all.map za)) (j:Int)=some (.f (.str (za all[j]))):=λj hj=>by rw[Yj];simp[hj]
 have A0:=at0 k0 hk0;obtain⟨y1,y2,y3⟩:=l.row (uk hk0);obtain⟨w1,bw1,B1⟩:=qbf (n+3) (h++[.lst (wsV (all.map za))]) sc (k+1) (by lia) (by lia) _ y1 y2 y3;have c1:∀ kk M,Ye (atC kk::(h++[.lst M])) (h.length+1)=some M:=λkk M=>by
  have:=Zo (atC kk::h) [] M;simpa using this
 have s1:∀ kk M ys,yf (atC kk::(h++[.lst M])) (h.length+1) ys=atC kk::(h++[.lst ys]):=λkk M ys=>Qak _ _ _ _;have ix:∀(M:List MV) j,j<M.length->ixM M.length (j:Int)=some j:=λM j hj=>by simp[ixM,hj]
 have es:∀(L:List Str) j w,(wsV L).set j (.f (.str w))=wsV (L.set j w):=λL j w=>by simp[Vz]
 have N2:=qs (n+4) (h++[.lst (wsV ((all.map za).set k0 (Zg w1)))]) sc (k+1+1) (by lia) (by lia);generalize zL sc (k+1+1+1)=x2 at N2;obtain⟨k2,e2⟩:=Xf (show 0<=x2%(all.length:Int) from Wj _ (by lia));have hk2':k2<all.length:=by have:=vh x2 (show(0:Int)<(all.length:Int) by lia);lia
 have b2:∀ hh,Qe true .mod (I x2) (I (all.length:Int)) hh=.ok (I (k2:Int)) hh:=λhh=>by rw[<- e2];exact Qf _ _ _ (by lia)
 have lv:∀ kk (t:MH),yk (atC k::h) (.f (.bl true)) (atC kk::(h++t))=.ok (B true) (atC kk::h):=λkk t=>ZF h t k kk (.bl true);have ix0:=ix (wsV (all.map za)) k0 (by simpa using hk0);have es1:=es (all.map za) k0 (Zg w1);have o1:=l.lines.set bw1 k0;have SM:=λhh=>Qv (n+3) hh k0;by_cases c:k0<k2
 ·obtain⟨z1,z2,z3⟩:=l.row (uk hk2');obtain⟨w2,bw2,B2⟩:=qbf (n+3) (h++[.lst (wsV ((all.map za).set k0 (Zg w1)))]) sc (k+1+1+1) (by lia) (by lia) _ z1 z2 z3;have A2:=at0 k2 hk2';have es2:=es ((all.map za).set k0 (Zg w1)) k2 (Zg w2);have ix2:=ix (wsV ((all.map za).set k0 (Zg w1))) k2 (by simpa using hk2');have o2:=o1.set bw2 k2;have T:=λhh=>QaK n hh q all l _ o2 (by simp) k0 (λi hi=>by rw[Ud (by lia),Ud (by lia)]) w1 bw1 (by rw[Ud (by lia),vc (by simpa using hk0)]);have J:=Z8 _ _ _ (c1 (k+1+1+1+1) _) o2;have cc:(k0:Int)<(k2:Int):=by lia
  refine⟨k+4,by lia,by lia,?_⟩;rw[show k+4=k+1+1+1+1 by lia];clear at0 ix es o1 o2;generalize wsV (((all.map za).set k0 (Zg w1)).set k2 (Zg w2))=M2 at *;generalize zu (((all.map za).set k0 (Zg w1)).set k2 (Zg w2))=tz at *;generalize wsV ((all.map za).set k0 (Zg w1))=M1 at *;generalize wsV (all.map za)=M0 at *;generalize FV.lst ((all.map za).map FV.str)=v0 at *;generalize k+1+1+1+1=ka at *;rw[yz];simp only[d__law_rows_bad];simp[N1,le,b1,li,sq0,A0,B1,c1,ix0,s1,es1,N2,b2,cc,A2,B2,ix2,es2,yc,J,T,SM,zg,Yh,lv]
 ·have T:=λhh=>QaK n hh q all l _ o1 (by simp) k0 (λi hi=>by rw[Ud (by lia)]) w1 bw1 (by rw[vc (by simpa using hk0)]);have J:=Z8 _ _ _ (c1 (k+1+1+1) _) o1;have cc:¬(k0:Int)<(k2:Int):=by lia
  refine⟨k+3,by lia,by lia,?_⟩;rw[show k+3=k+1+1+1 by lia];clear at0 ix es o1;generalize zu ((all.map za).set k0 (Zg w1))=tz at *;generalize wsV ((all.map za).set k0 (Zg w1))=M1 at *;generalize wsV (all.map za)=M0 at *;generalize FV.lst ((all.map za).map FV.str)=v0 at *;generalize k+1+1+1=ka at *;rw[yz];simp only[d__law_rows_bad];simp[N1,le,b1,li,sq0,A0,B1,c1,ix0,s1,es1,N2,b2,cc,yc,J,T,SM,zg,Yh,lv]
end
end MP
end
section
namespace MP
open PySem
theorem zY:BadW [Str.ofString ""]:=Zw (xs:=[]) (ys:=[]) (λ_ z=>nomatch z) (λ_ z=>nomatch z) (by simp) QJ
theorem Ybm{L:List Str}(ne:L≠[]):zu (L++[Str.ofString ""])=zu L++Str.ofString "\n":=by
 unfold zu;rw[Qq,Qq,Z1 nwl ne,Yp]
theorem LinesOk.snoc{L:List Str}(o:LinesOk L)(hl:L.length<=50){w:Str}(hf:10∉w.cps.toList)(hs:w.length<=10100):LinesOk (L++[w]):=by
 have key:∀ l∈L++[w],l∈L\/l=w:=λl hl=>by simpa using hl
 refine⟨by simp,λl hl=>?_,λl hl=>?_,by simp;lia⟩
 ·rcases key l hl with z|rfl
  ·exact o.fr l z
  ·exact hf
 ·rcases key l hl with z|rfl
  ·exact o.sz l z
  ·exact hs
theorem Zav{w:Str}(hf:10∉w.cps.toList)(hs:w.length<=10100):LinesOk [w]:=⟨by simp,λl hl=>by rw[Ua.mp hl];exact hf,λl hl=>by rw[Ua.mp hl];exact hs,by simp⟩
theorem qag:LinesOk [Str.ofString ""]:=Zav (by decide) (by decide)
section
variable (n:Nat) (h:MH)
theorem zbs(q:Nat)(hq:q<3):run prog (n+5) "_law_told" [I q,.f (.str (Str.ofString ""))] h=.ok (.f (.tup [.str "text",.int 0])) h:=by
 by_cases h2:q<2
 ·exact QW n h q h2 [Str.ofString ""] qag 0 (λi w hi=>absurd hi (Nat.not_lt_zero _)) _ rfl (.bad zY)
 ·have:q=2:=by lia
  subst this;exact zaW n h [Str.ofString ""] [Str.ofString ""] [] qag rfl zY
theorem qaL(q:Nat)(all:List (List Int))(l:Lns q all):run prog (n+5) "_law_told" [I q,.f (.str (zu (all.map za)++Str.ofString "\n"))] h=.ok (.f (.tup [.str "text",.int all.length])) h:=by
 have ne:all.map za≠[]:=by simpa using l.ne
 rw[<- Ybm ne];have o:=l.lines.snoc (w:=Str.ofString "") (by have:=l.len;simp;lia) (by decide) (by decide);by_cases h2:q<2
 ·refine QW n h q h2 _ o all.length (λi w hi hw=>?_) (Str.ofString "") (by rw[Xd (by simp)];simp) (.bad zY);rw[va (by simpa using hi),We] at hw;obtain⟨r,hr,rfl⟩:=ub.mp hw;obtain⟨x,y,z⟩:=l.row (Xc hr);exact⟨r,rfl,x,y,by lia,λe=>by subst e;exact l.one h2 r hr⟩
 ·have q2:q=2:=by have:=l.q3;lia
  subst q2
  match all,l.two rfl,l with
  |[r],_,l =>
   obtain⟨x,y,z⟩:=l.row (r:=r) (by simp);exact qas n h r (Str.ofString "") o x y (by lia)
theorem eq_tt(k0:Nat):eqF (.tup [.str "text",.int k0]) (.tup [.str "text",.int k0])=some true:=by
 have:sOk ("text":Str)=true:=by decide +kernel
 simp[eqF,isD,this,eqD,Zac]
theorem zQ(sc:List Int)(k:Int)(hk:0<=k)(hk2:k+10<1000000)(q:Nat)(all:List (List Int))(l:Lns q all) :
  run prog (n+6) "_law_rows_more" [.f (.scr sc),.ref 0,I q,.f (.lst ((all.map za).map FV.str))] (atC k::h)=.ok (B true) (atC (k+1)::h):=by
 have N1:=qs (n+4) h sc k hk (by lia);have hd:=yW sc (k+1);generalize zL sc (k+1)=x at N1 hd;have m3:=mod_lt x 3 (by decide);have b1:∀ hh,Qe true .mod (I x) (I 3) hh=.ok (I (x%3)) hh:=λhh=>Qf _ _ _ (by decide);have le:∀ hh,yj true "len" [.f (.lst ((all.map za).map FV.str))] hh=.ok (I (all.length:Int)) hh:=λhh=>by simp
 have J:=λhh=>zaj hh (all.map za) l.lines;have sz:=l.lines.size;have n1:(Str.ofString "\n").length=1:=rfl;have C1:=λhh=>qD hh (zu (all.map za)) (Str.ofString "\n") (by lia);have T1:=λhh=>qaL n hh q all l;have S1:=λhh=>Qv (n+3) hh all.length;have T2:=λhh=>zbs n hh q l.q3;have E2:=eq_tt 0;simp at E2;have lv:∀ kk,yk (atC k::h) (.f (.bl true)) (atC kk::h)=.ok (B true) (atC kk::h):=λkk=>Zan h k kk (.bl true);by_cases h2:q<2
 ·have q2:¬(q:Int)=2:=by lia
  obtain⟨r0,rows,rfl⟩:∃ r0 rows,all=r0::rows:=by
   cases all with
   |nil=>exact absurd rfl l.ne
   |cons a b=>exact⟨a,b,rfl⟩
  have one:=l.one h2 r0 rfl;obtain⟨hd',rfl⟩:∃ v,r0=[v]:=List.length_eq_one_iff.mp one;have hv:=(l.row (r:=[hd']) (by simp)).1 hd' (by simp);have R1:=λhh=>qM (n+3) hh q (by lia) (za [hd']) 1 (by
   have R:=ZW n hh hd' hv.1 hv.2
   match q,h2 with
   |0,_=>exact yB (n+3) hh _ _ R
   |1,_=>exact qP (n+3) hh _ _ R)
  have S3:=λhh=>Qv (n+3) hh 1;have S4:=λhh=>Qv (n+3) hh 0;simp at R1 S3 S4;have sq0:∀ hh,Zb hh (.f (.lst ((([hd']::rows).map za).map FV.str)))=some (MV.f (.str (za [hd']))::wsV (rows.map za)):=λhh=>by simp
  have a0:atM (MV.f (.str (za [hd']))::wsV (rows.map za)) 0=some (.f (.str (za [hd']))):=by
   have S0:=Yj (MV.f (.str (za [hd']))::wsV (rows.map za)) 0;change atM _ (0:Int)=_ at S0;rw[S0];rfl
  have ok1:NumOk [hd']:=λv hv'=>by rw[Ua.mp hv'];exact hv
  have ok2:NumOk [hd',1]:=λv hv'=>by
   simp only[xa,Ub,or_false] at hv'
   rcases hv' with rfl|rfl
   ·exact hv
   ·exact⟨by decide,by decide⟩
  have e1:za [hd']++Str.ofString " 1"=za [hd',1]:=by
   have e:za [hd']=sN hd':=by unfold za;rw[Qq];rfl
   have e2:za [hd',1]=sN hd'++blk++sN 1:=by unfold za;rw[Qq];rfl
   have e3:Str.ofString " 1"=blk++sN 1:=by decide
   rw[e,e2,e3];apply zO;simp only[qg,Xm]
  have C2:∀ hh,Zi .cat (.f (.str (za [hd']))) (.f (.str (Str.ofString " 1"))) hh=.ok (.f (.str (za [hd',1]))) hh:=λhh=>by
   rw[<- e1];exact qD hh _ _ (by have:=yp [hd'] ok1;have:(Str.ofString " 1").length=2:=rfl;simp at *;lia)
  have sl:∀ hh,qo true (.f (.lst ((([hd']::rows).map za).map FV.str))) (some 1) none hh=.ok (.f (.lst ((rows.map za).map FV.str))) hh:=λhh=>by
   have c:=QaD (MV.f (.str (za [hd']))::wsV (rows.map za)) 1 (by decide) (by simp;lia);have tn:Qj (.f (.lst ((([hd']::rows).map za).map FV.str)))=none:=rfl;simp only[qo,tn,sq0,Yb,c];have e:(MV.f (.str (za [hd']))::wsV (rows.map za)).drop (1:Int).toNat=((rows.map za).map FV.str).map MV.f:=by simp
   rw[e,ye]
  obtain⟨v,hvm,e⟩:=qN [MV.f (.lst ((rows.map za).map FV.str)),.f (.lst [.str "x"]),.f (.lst [])] _ m3.1 (by simpa using m3.2);obtain⟨R,rfl,oR⟩:∃ R:List Str,v=.f (.lst (R.map FV.str))/\LinesOk (za [hd',1]::R):=by
   obtain⟨f2,z2⟩:=ZI ok2 (by simp);have gen:∀ R:List Str,(∀ w∈R,10∉w.cps.toList/\w.length<=10100)->R.length<=50->LinesOk (za [hd',1]::R):=λR hR hl=>⟨by simp,λw hw=>by
     rcases xa.mp hw with rfl|hw
     ·exact f2
     ·exact(hR w hw).1,λw hw=>by
     rcases xa.mp hw with rfl|hw
     ·exact z2
     ·exact(hR w hw).2,by simp;lia⟩
   simp only[xa,Ub,or_false] at hvm
   rcases hvm with rfl|rfl|rfl
   ·refine⟨rows.map za,rfl,gen _ (λw hw=>?_) (by have:=l.len;simp at this ⊢;lia)⟩;obtain⟨r,hr,rfl⟩:=Wl.mp hw;obtain⟨a,b,c⟩:=l.row (r:=r) (by simp[hr]);exact ZI a (by lia)
   ·exact⟨["x"],rfl,gen _ (λw hw=>by rw[Ua.mp hw];decide) (by simp)⟩
   ·exact⟨[],rfl,gen _ (λw hw=>nomatch hw) (by simp)⟩
  have T4:=λhh=>QW n hh q h2 _ oR 0 (λi w hi=>absurd hi (Nat.not_lt_zero _)) _ rfl (.two ok2 (by simp) (by simp));have J2:=λhh=>zaj hh _ oR;have ct:=λhh=>ZaV hh (za [hd',1]) R (by have:=oR.len;simp at this;lia);simp at T4;clear sq0 hvm oR ok1 ok2 e1;have sq0:∀ hh,Zb hh (.f (.lst ((([hd']::rows).map za).map FV.str)))=some (MV.f (.str (za [hd']))::wsV (rows.map za)):=λhh=>by simp
  generalize zu (za [hd',1]::R)=t2 at *;generalize FV.lst ((za [hd',1]::R).map FV.str)=v2 at *;generalize FV.lst (R.map FV.str)=v1 at *;generalize FV.lst ((rows.map za).map FV.str)=v3 at *;generalize zu (([hd']::rows).map za)=tz at *;generalize FV.lst ((([hd']::rows).map za).map FV.str)=v0 at *;generalize wsV (rows.map za)=M0 at *;generalize za [hd',1]=tt at *;generalize za [hd']=th at *;generalize ([hd']::rows).length=LL at *;rw[yy];simp only[d__law_rows_more];simp[N1,yc,J,C1,T1,le,zg,Yh,S1,T2,E2,q2,sq0,a0,R1,S3,C2,sl,b1,e,ct,J2,T4,S4,lv]
 ·have q2:q=2:=by have:=l.q3;lia
  subst q2
  match all,l.two rfl,l with
  |[r],_,l =>
   obtain⟨x1,x2,x3⟩:=l.row (r:=r) (by simp);obtain⟨f1,z1⟩:=ZI x1 (show r.length<=100 by lia);have tl:zu ([r].map za)=za r:=by unfold zu;rw[Qq];rfl
   rw[tl] at J C1 T1 sz;obtain⟨v,hvm,e⟩:=qN [MV.f (.str (za r)),.f (.str "0"),.f (.str "x")] _ m3.1 (by simpa using m3.2);obtain⟨w,rfl,fw,zw⟩:∃ w:Str,v=.f (.str w)/\10∉w.cps.toList/\w.length<=10100:=by
    simp only[xa,Ub,or_false] at hvm
    rcases hvm with rfl|rfl|rfl
    ·exact⟨_,rfl,f1,z1⟩
    ·exact⟨_,rfl,by decide,by decide⟩
    ·exact⟨_,rfl,by decide,by decide⟩
   have o:=(Zav f1 z1).snoc (by simp) fw zw;have T3:=λhh=>qas n hh r w o x1 x2 (by lia);have e3:zu [za r,w]=za r++Str.ofString "\n"++w:=by unfold zu;rw[Qq,Yp];rfl
   rw[e3] at T3;have C2:=λhh=>qD hh (za r++Str.ofString "\n") w (by rw[Zae];lia);have S3:=λhh=>Qv (n+3) hh 1;have le1:([r].length:Int)=1:=rfl;simp at S3 T1 le;clear hvm o e3 tl;have le:∀ hh,yj true "len" [.f (.lst (([r].map za).map FV.str))] hh=.ok (I 1) hh:=λhh=>by simp
   generalize za r++Str.ofString "\n"++w=t3 at *;generalize za r++Str.ofString "\n"=t2 at *;generalize FV.lst (([r].map za).map FV.str)=v0 at *;generalize za r=tz at *;rw[yy];simp only[d__law_rows_more];simp at T2;simp[N1,yc,J,C1,T1,le,zg,Yh,S3,T2,E2,b1,e,C2,T3,lv]
end
end MP
end
section
namespace MP
open PySem
theorem za7(h:MH)(rows:List (List Int)):(h++rows.map qQ)++[.lst ((Ue rows.length).map λi=>MV.ref (h.length+i))]=own h rows:=by simp[own]
theorem Qba(h:MH)(rows:List (List Int))(i:Nat)(hi:i<rows.length):atM ((Ue rows.length).map λi=>MV.ref (h.length+i)) (i:Int)=some (.ref (h.length+i)):=by
 rw[Yj,We,Vt hi];rfl
theorem QbP{l m v:Int}{rows:List (List Int)}{i j:Nat}{r:List Int}(hi:i<rows.length)(hj:j<r.length)(hv:¬(l<=v/\v<=m)):¬ QY l m (rows.set i (r.set j v)):=by
 rintro⟨_,_,_,o⟩;have ei:(rows.set i (r.set j v))[i]?=some (r.set j v):=by rw[vc hi]
 exact hv ((o _ (Xc ei)).2 v (Xc (i:=j) (by rw[vc hj])))
theorem YbW{l m:Int}{rows:List (List Int)}{i W:Nat}{r:List Int}(hi:i<rows.length)(h2:1<rows.length)(hw:∀ r∈rows,r.length=W)(hr:r.length=W+1):¬ QY l m (rows.set i r):=by
 rintro⟨_,_,_,o⟩;have ei:(rows.set i r)[i]?=some r:=by rw[vc hi]
 have l1:=(o _ (Xc ei)).1;obtain⟨j,hj,hji⟩:∃ j,j<rows.length/\j≠i:=by
  by_cases z:i=0
  ·exact⟨1,h2,by lia⟩
  ·exact⟨0,by lia,by lia⟩
 have ej:(rows.set i r)[j]?=some rows[j]:=by rw[Ud (Ne.symm hji)];simp[hj]
 have l2:=(o _ (Xc ej)).1;have l3:=hw rows[j] (uk hj)
 lia
noncomputable def noneB:List MS:=d__law_none.body
section
variable (n:Nat) (h:MH)
theorem qY(sc:List Int)(k kk:Int)(q:Nat)(hq:q<2)(count x:Int)(tab:FV)(z7 z8:Option MV)(first:Int)(rows:List (List Int))(l:Lns q ([first]::rows))(ne:rows≠[])(no:¬ QY q first rows) :
  zd (atC k::h) (yb prog (run prog (n+5)) (noneB.drop 6) [some (.f (.scr sc)),some (.ref 0),some (I q),some (I count),some (.f tab),some (I x),some (.ref ((atC kk::h).length+rows.length)),z7,z8,some (I first),none] (own (atC kk::h) rows))=.ok (B true) (atC kk::h):=by
 obtain⟨t',F⟩:=QbT (atC kk::h) rows;have TX:=λhh=>QT (n+4) hh first rows l.ok;have TN:∀ hh,run prog (n+5) "_law_told" [I q,.f (.str (Zq ([first]::rows)))] hh=.ok (.f (.tup [.str "no",if q=0 then .str "picture" else .str "tile"])) hh:=λhh=>by
  match q,hq,l,no with
  |0,_,l,no=>exact zab (n+3) hh _ (qac n hh first rows l.ok ne no)
  |1,_,l,no=>exact YaH (n+3) hh _ (Qax n hh first rows l.ok ne no)
 have TE:=λhh=>qaL n hh q ([first]::rows) l;have e0:zu (([first]::rows).map za)=Zq ([first]::rows):=rfl;rw[e0] at TE;have sz:=Zah ([first]::rows) l.ok;have hl:=l.len;have C1:=λhh=>qD hh (Zq ([first]::rows)) (Str.ofString "\n") (by have:(Str.ofString "\n").length=1:=rfl;lia);have SM:=λhh=>Qv (n+3) hh ([first]::rows).length;have le:∀ hh,yj true "len" [.f (Ya false false rows)] hh=.ok (I (rows.length:Int)) hh:=λhh=>by simp[Ya]
 have lv:∀ t:MH,yk (atC k::h) (.f (.bl true)) (atC kk::(h++t))=.ok (B true) (atC kk::h):=λt=>ZF h t k kk (.bl true);have er:(([first]::rows).length:Int)=(rows.length:Int)+1:=by simp
 rw[er] at TE SM;have aq:atM [MV.f (.str "picture"),.f (.str "tile")] (q:Int)=some (.f (if q=0 then .str "picture" else .str "tile")):=by
  match q,hq with
  |0,_=>rfl
  |1,_=>rfl
 have eq0:eqF (.tup [.str "no",if q=0 then .str "picture" else .str "tile"]) (.tup [.str "no",if q=0 then .str "picture" else .str "tile"])=some true:=by
  have s1:sOk ("no":Str)=true:=by decide +kernel
  have s2:sOk ("picture":Str)=true:=by decide +kernel
  have s3:sOk ("tile":Str)=true:=by decide +kernel
  split <;> simp[eqF,isD,s1,s2,s3,eqD,Zac]
 have Fv:QD (.f (Ya false false rows)) (atC kk::(h++t'))=.ok (.f (Ya false false rows)) (atC kk::(h++t')):=frz_f _ _;generalize (if q=0 then FV.str "picture" else FV.str "tile")=wd at *;generalize Zq ([first]::rows)=tz at *;generalize Ya false false rows=rv at *;generalize own (atC kk::h) rows=hp at *;generalize (atC kk::h).length+rows.length=ad at *;simp only[noneB,d__law_none,wA];simp at F;simp[F,TX,TN,aq,zg,Yh,eq0,yc,C1,TE,le,SM,lv]
end
end MP
end
section
namespace MP
open PySem
section
variable (n:Nat) (h:MH)
theorem qbu(sc:List Int)(k:Int)(hk:0<=k)(hk2:k+10<1000000)(q:Nat)(hq:q<2)(count:Int)(c1:1<=count)(c2:count<=999999999999999999999999999000)(rows:List (List Int))(W:Nat)(hH:1<=rows.length)(hH2:rows.length<=30)(hW:1<=W)(hW2:W<=30)
  (hw:∀ r∈rows,r.length=W/\∀ v∈r,1<=v/\v<=count):run prog (n+6) "_law_none" [.f (.scr sc),.ref 0,I q,I count,.f (Ya false false rows)] (atC k::h)=.ok (B true) (atC (k+1)::h):=by
 have N1:=qs (n+4) h sc k hk (by lia);have hd:=yW sc (k+1);generalize zL sc (k+1)=x at N1 hd;have ne:rows≠[]:=by rintro rfl;simp at hH
 have hlen:rows.length<=sizeL:=by rw[ze];lia
 have q0:∀ hh,itV "seq" [.f (Ya false false rows)] hh=some (rows.map (MV.f∘qa false),[]):=λhh=>by
  have a:Zb hh (.f (Ya false false rows))=some (rows.map (MV.f∘qa false)):=by simp[Ya]
  have g:qe hh (.f (Ya false false rows))=[]:=rfl;simp only[YM,a,wj,g]
 have C:=λhh=>yav (ql (Tg.nm 0) (λx x_1=>R.ok true x_1) (λ(x:MSt) x_1=>R.bind (R.bind (opt x[0]?.join λv=>R.ok v x_1) λx h1=>(R.ok [] h1).bind λxs h2=>R.ok (x::xs) h2) λxs h1=>yj false "list" xs h1)) (MV.f∘qa false) (λr z h=>⟨some (.f (qa false r)),by simp[ql,qa,qQ]⟩) rows [] none hh (by simpa using hlen);have el:((atC (k+1)::h)++rows.map qQ).length=(atC (k+1)::h).length+rows.length:=by simp;lia
 obtain⟨i,ei⟩:=Xf (show 0<=x%(rows.length:Int) from Wj _ (by lia));have hi:i<rows.length:=by have:=vh x (show(0:Int)<(rows.length:Int) by lia);lia
 obtain⟨j,ej⟩:=Xf (show 0<=x/8%(W:Int) from Wj _ (by lia));have hj:j<W:=by have:=vh (x/8) (show(0:Int)<(W:Int) by lia);lia
 have b1:∀ hh,Qe true .mod (I x) (I (rows.length:Int)) hh=.ok (I (i:Int)) hh:=λhh=>by rw[<- ei];exact Qf _ _ _ (by lia)
 have b2:∀ hh,Qe true .fdiv (I x) (I 8) hh=.ok (I (x/8)) hh:=λhh=>Zp _ _ _ ⟨by decide,.inl (by decide)⟩;have b3:∀ hh,Qe true .mod (I (x/8)) (I (W:Int)) hh=.ok (I (j:Int)) hh:=λhh=>by rw[<- ej];exact Qf _ _ _ (by lia)
 have b4:∀ hh,Qe true .fdiv (I x) (I 64) hh=.ok (I (x/64)) hh:=λhh=>Zp _ _ _ ⟨by decide,.inl (by decide)⟩;have b5:∀ hh,Qe true .mod (I (x/64)) (I 4) hh=.ok (I (x/64%4)) hh:=λhh=>Qf _ _ _ (by decide);have b6:∀ hh,Qe true .fdiv (I x) (I 256) hh=.ok (I (x/256)) hh:=λhh=>Zp _ _ _ ⟨by decide,.inl (by decide)⟩;have b7:∀ hh,Qe true .mod (I (x/256)) (I 9) hh=.ok (I (x/256%9)) hh:=λhh=>Qf _ _ _ (by decide);have m9:=mod_lt (x/256) 9 (by decide);have T:=zaF (atC (k+1)::h) rows;have le:yj true "len" [.ref ((atC (k+1)::h).length+rows.length)] (own (atC (k+1)::h) rows)=.ok (I (rows.length:Int)) (own (atC (k+1)::h) rows):=by
  rw[ZL];show opt (Ye _ _) _=_;rw[T,Yb];simp
 have sqm:Zb (own (atC (k+1)::h) rows) (.ref ((atC (k+1)::h).length+rows.length))=some ((Ue rows.length).map λi=>MV.ref ((atC (k+1)::h).length+i)):=T;have Si:=Qba (atC (k+1)::h) rows i hi;have S0:=Qba (atC (k+1)::h) rows 0 (by lia);obtain⟨r0,er0⟩:∃ r0,rows[0]?=some r0:=⟨rows[0],by simp⟩;have R0:=qad (atC (k+1)::h) rows 0 r0 er0;have le0:yj true "len" [.ref ((atC (k+1)::h).length+0)] (own (atC (k+1)::h) rows)=.ok (I (W:Int)) (own (atC (k+1)::h) rows):=by
  rw[ZL];show opt (Ye _ _) _=_;rw[R0,Yb,Vd,(hw r0 (Xc er0)).1]
 have Ri:=qad (atC (k+1)::h) rows i rows[i] (by simp[hi]);have wi:=hw rows[i] (uk hi);change atM _ (0:Int)=_ at S0;have rok:∀(first:Int)(rows':List (List Int)),0<=first->first<1000000000000000000000000000000->rows'.length<=30->(∀ r∈rows',(r≠[]/\r.length<=31)/\∀ v∈r,0<=v/\v<1000000000000000000000000000000)->Lns q ([first]::rows'):=λfirst rows' f0 f1 l1 hr=>by
  have ok:RowsOk ([first]::rows'):=by
   refine⟨λr hr'=>?_,λr hr'=>?_,λr hr'=>?_,by simp;lia⟩
   ·rcases xa.mp hr' with rfl|hr'
    ·intro v hv;rw[Ua.mp hv];exact⟨f0,f1⟩
    ·intro v hv;exact(hr r hr').2 v hv
   ·rcases xa.mp hr' with rfl|hr'
    ·simp
    ·exact(hr r hr').1.1
   ·rcases xa.mp hr' with rfl|hr'
    ·simp
    ·have:=(hr r hr').1.2;lia
  refine⟨ok,by simp,by lia,λ_ r e=>by cases e;rfl,λz=>by lia,λr hr'=>?_,by simp;lia⟩
  rcases xa.mp hr' with rfl|hr'
  ·simp
  ·have:=(hr r hr').1.2;lia
 have base:∀ r∈rows,(r≠[]/\r.length<=31)/\∀ v∈r,0<=v/\v<1000000000000000000000000000000:=λr hr=>by
  obtain⟨a,b⟩:=hw r hr;exact⟨⟨by rintro rfl;simp at a;lia,by lia⟩,λv hv=>by have:=b v hv;lia⟩
 have put:∀ r':List Int,(r'≠[]/\r'.length<=31)->(∀ v∈r',0<=v/\v<1000000000000000000000000000000)->Lns q ([count]::rows.set i r'):=λr' a b=>rok count _ (by lia) (by lia) (by simpa using hH2) λr hr=>by
  rcases wq hr with z|rfl
  ·exact base r z
  ·exact⟨a,b⟩
 have ixj:ixM (rows[i].map λi=>MV.f (FV.int i)).length (j:Int)=some j:=by simp[ixM,wi.1,hj]
 have P:=λr'=>YbY (atC (k+1)::h) rows i r' hi;have ZO:∀ v:Int,(rows[i].map λi=>MV.f (FV.int i)).set j (I v)=(rows[i].set j v).map λi=>MV.f (.int i):=λv=>by rw[Vz]
 have sl:∀ r':List Int,(rows.set i r').length=rows.length:=λr'=>by simp
 have ne':∀ r':List Int,rows.set i r'≠[]:=λr' z=>ne (by simpa using congrArg xp z);have mem_set:∀ v w:Int,w∈rows[i].set j v->w=v\/(1<=w/\w<=count):=λv w hw'=>by
  rcases wq hw' with z|z
  ·exact .inr (wi.2 w z)
  ·exact .inl z
 rw[Yap,show d__law_none.body=noneB.take 6++noneB.drop 6 from rfl];by_cases a0:x/64%4=0
 ·have TL:=qY n h sc k (k+1) q hq count x (Ya false false rows) (some (I i)) (some (I j)) 0 rows (rok 0 rows (by decide) (by decide) hH2 base) ne (λo=>absurd o.1 (by decide));generalize noneB.drop 6=BB at *;simp only[noneB,d__law_none,Wu,ui,vf];clear P ZO sl ne' rok put base;simp[N1,q0,MP.stM];rw[C];simp only[R.bind_ok,YT,R.st_ok,vf,za7,el,Yq,List.set,yw,RS.bind_next];generalize own (atC (k+1)::h) rows=hp at *;generalize Ya false false rows=rv at *;generalize ((Ue rows.length).map λi=>MV.ref ((atC (k+1)::h).length+i))=RL at *;generalize (atC (k+1)::h).length+rows.length=A9 at *;generalize (atC (k+1)::h).length+0=A0 at *;generalize (atC (k+1)::h).length+i=Ai at *;simp[le,b1,b2,T,S0,le0,b3,b4,b5,a0];exact TL
 by_cases a1:x/64%4=1/\1<rows.length
 ·have TL:=qY n h sc k (k+1) q hq count x (Ya false false rows) (some (I i)) (some (I j)) count (rows.set i (rows[i]++[1])) (put _ ⟨by simp,by rw[xf,wi.1];simp;lia⟩ (λv hv=>by
   rcases Uf.mp hv with z|z
   ·have:=wi.2 v z;lia
   ·rw[Ua.mp z];decide)) (ne' _) (YbW hi a1.2 (λr hr=>(hw r hr).1) (by rw[xf,wi.1];rfl))
  have a1':(1:Int)<(rows.length:Int):=by lia
  have P1:=P (rows[i]++[1]);rw[Xs] at P1;have hz:(rows[i].map λi=>MV.f (FV.int i)).length<sizeL:=by rw[ze,Vd,wi.1];lia
  rw[sl] at TL;generalize noneB.drop 6=BB at *;simp only[noneB,d__law_none,Wu,ui,vf];clear P ZO sl ne' rok put base;simp[N1,q0,MP.stM];rw[C];simp only[R.bind_ok,YT,R.st_ok,vf,za7,el,Yq,List.set,yw,RS.bind_next];generalize own (atC (k+1)::h) (rows.set i (rows[i]++[1]))=hp2 at *;generalize own (atC (k+1)::h) rows=hp at *;generalize Ya false false rows=rv at *;generalize (rows[i].map λi=>MV.f (FV.int i))=Mi at *;generalize ((Ue rows.length).map λi=>MV.ref ((atC (k+1)::h).length+i))=RL at *;generalize (atC (k+1)::h).length+rows.length=A9 at *;generalize (atC (k+1)::h).length+0=A0 at *;generalize (atC (k+1)::h).length+i=Ai at *;simp at P1;simp[le,b1,b2,T,S0,le0,b3,b4,b5,a1.1,a1',a1.2,Si,Ri,hz,P1];exact TL
 have go:∀ v:Int,0<=v->v<1000000000000000000000000000000->¬((q:Int)<=v/\v<=count)->((x/64%4=2/\q=1/\v=0)\/(¬(x/64%4=2/\q=1)/\v=count+1+x/256%9))->zd (atC k::h) (yb prog (run prog (n+5)) (noneB.take 6++noneB.drop 6) [some (.f (.scr sc)),some (.ref 0),some (I q),some (I count),some (.f (Ya false false rows)),none,none,none,none,none,none] (atC k::h))=.ok (B true) (atC (k+1)::h):=λv v0 v1 hv hc=>by
  have TL:=qY n h sc k (k+1) q hq count x (Ya false false rows) (some (I i)) (some (I j)) count (rows.set i (rows[i].set j v)) (put _ ⟨λz=>by have:=congrArg xp z;rw[xw,wi.1] at this;simp at this;lia,by rw[xw,wi.1];lia⟩ (λw hw'=>by
   rcases mem_set v w hw' with z|z
   ·rw[z];exact⟨v0,v1⟩
   ·lia)) (ne' _) (QbP hi (by rw[wi.1];exact hj) hv)
  have P1:=P (rows[i].set j v);rw[<- ZO] at P1;rw[sl] at TL;generalize noneB.drop 6=BB at *;simp only[noneB,d__law_none,Wu,ui,vf];clear P ZO sl ne' rok put base;simp[N1,q0,MP.stM];rw[C];simp only[R.bind_ok,YT,R.st_ok,vf,za7,el,Yq,List.set,yw,RS.bind_next];generalize own (atC (k+1)::h) (rows.set i (rows[i].set j v))=hp2 at *;generalize own (atC (k+1)::h) rows=hp at *;generalize Ya false false rows=rv at *;generalize (rows[i].map λi=>MV.f (FV.int i))=Mi at *;generalize ((Ue rows.length).map λi=>MV.ref ((atC (k+1)::h).length+i))=RL at *;generalize (atC (k+1)::h).length+rows.length=A9 at *;generalize (atC (k+1)::h).length+0=A0 at *;generalize (atC (k+1)::h).length+i=Ai at *;have a3:¬(x/64%4=1/\(1:Int)<(rows.length:Int)):=λz=>a1 ⟨z.1,by lia⟩
  rcases hc with ⟨d1,rfl,rfl⟩|⟨d1,rfl⟩
  ·simp[le,b1,b2,T,S0,le0,b3,b4,b5,d1,Si,Ri,ixj,P1];exact TL
  ·by_cases d2:x/64%4=1
   ·have d3:¬(1<rows.length):=λz=>a1 ⟨d2,z⟩;have d3':¬((1:Int)<(rows.length:Int)):=by lia
    simp[le,b1,b2,T,S0,le0,b3,b4,b5,b6,b7,d2,d3,d3',Si,Ri,ixj,P1];exact TL
   ·by_cases d4:x/64%4=2
    ·have d5:¬(q=1):=λz=>d1 ⟨d4,z⟩;have d5':¬((q:Int)=1):=by lia
     simp[le,b1,b2,T,S0,le0,b3,b4,b5,b6,b7,d4,d5,d5',Si,Ri,ixj,P1];exact TL
    ·simp[le,b1,b2,T,S0,le0,b3,b4,b5,b6,b7,a0,d2,d4,Si,Ri,ixj,P1];exact TL
 by_cases a2:x/64%4=2/\q=1
 ·exact go 0 (by decide) (by decide) (by rw[a2.2];lia) (.inl ⟨a2.1,a2.2,rfl⟩)
 ·exact go (count+1+x/256%9) (by lia) (by lia) (by lia) (.inr ⟨a2,rfl⟩)
end
end MP
end
section
namespace MP
open PySem
noncomputable def oneB:List MS:=d__law_one.body
section
variable (n:Nat) (h:MH)
theorem qbF(sc:List Int)(k0 k:Int)(hk:0<=k)(hk2:k+100<1000000)(q:Nat)(hq:q<2)(x count:Int)(rows:List (List Int))(W:Nat)(c1:1<=count)(c2:count<=999999999999999999999999999000)(hH:1<=rows.length)(hH2:rows.length<=30)(hW:1<=W)(hW2:W<=30)(hw:∀ r∈rows,r.length=W/\∀ v∈r,1<=v/\v<=count)(l:Lns q ([count]::rows))(z8:Option MV) :
  zd (atC k0::h) (yb prog (run prog (n+6)) (oneB.drop 8) [some (.f (.scr sc)),some (.ref 0),some (I x),some (I q),some (I count),some (.f (Ya false false rows)),some (.f (.str (Zq ([count]::rows)))),some (.f (.lst ((([count]::rows).map za).map FV.str))),z8,none] (atC k::h))=.ok (B true) (atC (k+1+1)::h):=by
 have M:=zQ n h sc k hk (by lia) q ([count]::rows) l;have O:=qbu n h sc (k+1) (by lia) (by lia) q hq count c1 c2 rows W hH hH2 hW hW2 hw;have ne:rows≠[]:=by rintro rfl;simp at hH
 have q2:¬((q:Int)=2):=by lia
 have qq:(q:Int)<2/\0<=(q:Int):=by lia
 have lv:∀ kk,yk (atC k0::h) (.f (.bl true)) (atC kk::h)=.ok (B true) (atC kk::h):=λkk=>Zan h k0 kk (.bl true);have k1:=Y8 "told" "told" (by decide +kernel) (by decide +kernel);rw[show(("told":Str) == "told")=true by decide] at k1;have t1:∀(l:List Int) hh,yj true "tuple" [.f (qa false l)] hh=.ok (.f (qa true l)) hh:=λl hh=>by
  have q:Zb hh (.f (qa false l))=some (l.map (MV.f∘FV.int)):=by simp[qa]
  rw[Zal,q,Yb,Yag];rfl
 have t2:∀ hh,yj true "tuple" [.f (Ya false true rows)] hh=.ok (.f (Ya true true rows)) hh:=λhh=>by
  have q:Zb hh (.f (Ya false true rows))=some (rows.map (MV.f∘qa true)):=by simp[Ya]
  rw[Zal,q,Yb,Yag];rfl
 have it:=Za9 false false rows;have CL:∀ hh,Qi [] (ql (.nm 0) (λx h=>R.ok true h) λx h=>R.bind (R.bind (opt ((x[0]?).join) λv=>R.ok v h) λx h1=>(R.ok [] h1).bind λxs h2=>R.ok (x::xs) h2) λxs h1=>yj true "tuple" xs h1) (rows.map λr=>MV.f (qa false r)) [] [none] hh=.ok (rows.map λr=>MV.f (qa true r)) hh:=λhh=>by
  rw[Zr (e:=λr:List Int=>MV.f (qa false r)) (g:=λr=>MV.f (qa true r)) rows [] none (by rw[ze];simp;lia) (by
   intro r hr z;have:=t1 r hh;exact⟨some (.f (qa false r)),by simp[ql,this]⟩)]
  simp
 have nl:∀ hh,Zk true (rows.map λr=>MV.f (qa true r)) hh=.ok (.f (Ya false true rows)) hh:=λhh=>by
  have e:(rows.map λr=>MV.f (qa true r))=(rows.map (qa true)).map MV.f:=by simp
  rw[e,ye];rfl
 have S2:=λhh=>zI (n+3) hh 3 (Ya true true rows) (zbB true true rows (by lia) (λr hr=>by rw[(hw r hr).1];lia));have gT:∀ least:Int,least<=1->GoodT least count rows:=λleast hl=>⟨c1,ne,⟨W,hW,λr hr=>(hw r hr).1⟩,λr hr v hv=>by have:=(hw r hr).2 v hv;lia,by lia⟩;obtain⟨v,TO,cls,fl⟩:∃ v:FV,(∀ hh,run prog (n+6) "_law_told" [I q,.f (.str (Zq ([count]::rows)))] hh=.ok (.f (.tup [.str "told",v])) hh)/\(∀ hh,(((q:Int)=0->yP prog.subs hh (.f v) "Picture"=some true)/\((q:Int)=1->yP prog.subs hh (.f v) "Tile"=some true)))/\∀ hh,Qbu prog.fok "rows" (.f v) hh=some (.f (Ya true true rows)):=by
  match q,hq,l with
  |0,_,l=>exact⟨zbL count rows,λhh=>yaH (n+4) hh 0 (by decide) _ _ (zad (n+1) hh count rows l.ok (gT 0 (by decide))),λhh=>⟨λ_=>rfl,λz=>by simp at z⟩,λhh=>by simp[zbL]⟩
  |1,_,l=>exact⟨QaV count rows,λhh=>yaH (n+4) hh 1 (by decide) _ _ (yay (n+1) hh count rows l.ok (gT 1 (by decide))),λhh=>⟨λz=>by simp at z,λ_=>rfl⟩,λhh=>by simp[QaV]⟩
 have s1:∀ hh,Zb hh (.f (.tup [.str "told",v]))=some [.f (.str "told"),.f v]:=λhh=>rfl;have a0:atM [MV.f (.str "told"),.f v] 0=some (.f (.str "told")):=rfl;have a1:atM [MV.f (.str "told"),.f v] 1=some (.f v):=rfl;clear t1 gT;generalize FV.tup [.str "told",v]=tv at *;generalize Zq ([count]::rows)=tz at *;generalize FV.lst ((([count]::rows).map za).map FV.str)=lv0 at *;generalize Ya false false rows=r1 at *;generalize Ya false true rows=r2 at *;generalize Ya true true rows=r3 at *;generalize (rows.map λr=>MV.f (qa false r))=M1 at *;generalize (rows.map λr=>MV.f (qa true r))=M2 at *;simp only[oneB,d__law_one,wA];generalize (q:Int)=qi at *;by_cases q0:qi=0
 ·have c0:=λhh=>(cls hh).1 q0;subst q0;simp[M,O,TO,s1,a0,a1,k1,c0,fl,it,MP.stM,CL,nl,t2,S2,lv]
 ·have q1:qi=1:=by lia
  have c0:=λhh=>(cls hh).2 q1;subst q1;simp[M,O,TO,s1,a0,a1,k1,c0,fl,it,MP.stM,CL,nl,t2,S2,lv]
theorem ybk(sc:List Int)(k0 k:Int)(hk:0<=k)(hk2:k+100<1000000)(x count:Int)(r:List Int)(rows:List (List Int))(l:Lns 2 [r])(z8:Option MV) :
  zd (atC k0::h) (yb prog (run prog (n+6)) (oneB.drop 8) [some (.f (.scr sc)),some (.ref 0),some (I x),some (I 2),some (I count),some (.f (Ya false false (r::rows))),some (.f (.str (za r))),some (.f (.lst (([r].map za).map FV.str))),z8,none] (atC k::h))=.ok (B true) (atC (k+1)::h):=by
 have M:=zQ n h sc k hk (by lia) 2 [r] l;obtain⟨x1,x2,x3⟩:=l.row (r:=r) (by simp);have lv:∀ kk,yk (atC k0::h) (.f (.bl true)) (atC kk::h)=.ok (B true) (atC kk::h):=λkk=>Zan h k0 kk (.bl true);have TO:=λhh=>yaH (n+4) hh 2 (by decide) (za r) (qa false r) (Z2 (n+2) hh r x1 x2 (by lia));have SM:=λhh=>zI (n+3) hh 3 (.tup [.str "told",qa false r]) (by
  have:sOk ("told":Str)=true:=by decide +kernel
  simp[isP,this,qa,sq,ze]
  lia)
 have sq0:∀ hh,Zb hh (.f (Ya false false (r::rows)))=some (MV.f (qa false r)::rows.map (MV.f∘qa false)):=λhh=>by simp[Ya]
 have a0:atM (MV.f (qa false r)::rows.map (MV.f∘qa false)) 0=some (.f (qa false r)):=by
  have S0:=Yj (MV.f (qa false r)::rows.map (MV.f∘qa false)) 0;change atM _ (0:Int)=_ at S0;rw[S0];rfl
 have m2:((2:Nat):Int)=2:=rfl;rw[m2] at M TO;generalize za r=tz at *;generalize FV.lst (([r].map za).map FV.str)=lv0 at *;generalize Ya false false (r::rows)=r1 at *;generalize rows.map (MV.f∘qa false)=M1 at *;generalize qa false r=rr at *;simp only[oneB,d__law_one,wA];simp[M,TO,sq0,a0,zg,Yh,SM,lv]
end
end MP
end
section
namespace MP
open PySem
section
variable (n:Nat) (h:MH)
theorem ZaL(sc:List Int)(k0 k:Int)(hk:0<=k)(hk2:k+200<1000000)(q:Nat)(x count:Int)(tab:FV)(tz:Str)(all:List (List Int))(l:Lns q all)(P:Int->Prop)
  (tail:∀ kk z8,k<=kk->kk<=k+12->∃ kn,P kn/\zd (atC k0::h) (yb prog (run prog (n+6)) (oneB.drop 8) [some (.f (.scr sc)),some (.ref 0),some (I x),some (I q),some (I count),some (.f tab),some (.f (.str tz)),some (.f (.lst ((all.map za).map FV.str))),z8,none] (atC kk::h))=.ok (B true) (atC kn::h)) :
  ∃ kn,P kn/\zd (atC k0::h) (yb prog (run prog (n+6)) (oneB.drop 7) [some (.f (.scr sc)),some (.ref 0),some (I x),some (I q),some (I count),some (.f tab),some (.f (.str tz)),some (.f (.lst ((all.map za).map FV.str))),none,none] (atC k::h))=.ok (B true) (atC kn::h):=by
 have BA:=λkk (a:0<=kk) (b:kk+10<1000000)=>zaA n h sc kk a b q all l;rw[show oneB.drop 7=(oneB.drop 7).take 1++oneB.drop 8 from rfl];generalize oneB.drop 8=BB at *;generalize FV.lst ((all.map za).map FV.str)=v0 at *;simp only[oneB,d__law_one,wA,Wu,ui,vf];simp[QB _ 3 (by decide)];refine zN (Q:=λr=>∃ kn,P kn/\zd (atC k0::h) r=.ok (B true) (atC kn::h)) 3 (λi σ hh=>∃(kk:Int)(z8:Option MV),(k<=kk/\kk<=k+4*(i:Int))/\hh=atC kk::h/\σ=[some (.f (.scr sc)),some (.ref 0),some (I x),some (I q),some (I count),some (.f tab),some (.f (.str tz)),some (.f v0),z8,none]) ⟨k,none,by lia,rfl,rfl⟩ ?_ ?_
 ·rintro i σ hh hi ⟨kk,z8,hb,rfl,rfl⟩ Q hQ;obtain⟨kn,a1,a2,e⟩:=BA kk (by lia) (by lia);simp[Yl,e];exact hQ _ _ ⟨kn,_,by push_cast;lia,rfl,rfl⟩
 ·rintro σ hh ⟨kk,z8,hb,rfl,rfl⟩;exact tail kk z8 hb.1 (by push_cast at hb;lia)
theorem zbP(sc:List Int)(k:Int)(hk:0<=k)(hk2:k<=1000):∃ kn,k<=kn/\kn<=k+60/\run prog (n+7) "_law_one" [.f (.scr sc),.ref 0] (atC k::h)=.ok (B true) (atC kn::h):=by
 have N:=qs (n+5) h sc k hk (by lia);have hd:=yW sc (k+1);generalize zL sc (k+1)=x at N hd;obtain⟨q,eq⟩:=Xf (show 0<=x%3 by lia);have hq:q<3:=by lia
 obtain⟨H0,eH⟩:=Xf (show 0<=x/3%4 by lia);obtain⟨W0,eW⟩:=Xf (show 0<=x/12%5 by lia);have hH:H0<4:=by lia
 have hW:W0<5:=by lia
 have b1:∀ hh,Qe true .mod (I x) (I 3) hh=.ok (I (q:Int)) hh:=λhh=>by rw[<- eq];exact Qf _ _ _ (by decide)
 have b2:∀ hh,Qe true .fdiv (I x) (I 3) hh=.ok (I (x/3)) hh:=λhh=>Zp _ _ _ ⟨by decide,.inl (by decide)⟩;have b3:∀ hh,Qe true .mod (I (x/3)) (I 4) hh=.ok (I (H0:Int)) hh:=λhh=>by rw[<- eH];exact Qf _ _ _ (by decide)
 have b4:∀ hh,Qe true .fdiv (I x) (I 12) hh=.ok (I (x/12)) hh:=λhh=>Zp _ _ _ ⟨by decide,.inl (by decide)⟩;have b5:∀ hh,Qe true .mod (I (x/12)) (I 5) hh=.ok (I (W0:Int)) hh:=λhh=>by rw[<- eW];exact Qf _ _ _ (by decide)
 have e1:(1+(H0:Int))=((1+H0:Nat):Int):=by push_cast;rfl
 have e2:(1+(W0:Int))=((1+W0:Nat):Int):=by push_cast;rfl
 have d1:∀ hh,Qe true .add (I 1) (I (H0:Int)) hh=.ok (I ((1+H0:Nat):Int)) hh:=λhh=>by simp
 have d2:∀ hh,Qe true .add (I 1) (I (W0:Int)) hh=.ok (I ((1+W0:Nat):Int)) hh:=λhh=>by simp
 obtain⟨count,m1,m2,MO⟩:=YbJ (n+4) h sc (k+1) (by lia) (by lia);have hHW:(1+H0)*(1+W0)<=4*5:=Nat.mul_le_mul (by lia) (by lia);obtain⟨v,h',RO,rows,r1,r2,rfl,rfl⟩:=qan (n+4) h sc (k+1+1) count (1+H0) (1+W0) (by lia) (by lia) m1 (by lia) (by lia) (by lia);have ok:RowsOk ([count]::rows):=zbV r1 (λr hr=>⟨(r2 r hr).1,λv hv=>by have:=(r2 r hr).2 v hv;lia⟩) (by lia) (by lia) (by lia) (by lia) (by lia);have TX:=λhh=>QT (n+5) hh count rows ok;have sz:=Zah ([count]::rows) ok;have hl:=ok.len;have sp:=λhh=>ym hh (Zq ([count]::rows)) nwl rfl (by lia);rw[Yah ok (by simp)] at sp;rw[<- Yp] at sp;generalize hka:k+1+1+(((1+H0)*(1+W0):Nat):Int)=ka at *;have ka1:k+2<=ka/\ka<=k+22:=by lia
 by_cases q2:q=2
 ·subst q2;obtain⟨r,rs,rfl⟩:∃ r rs,rows=r::rs:=by
   cases rows with
   |nil=>simp at r1;lia
   |cons a b=>exact⟨a,b,rfl⟩
  have rok:=ok.ok r (by simp);have rne:=ok.ne r (by simp);have rl:=(r2 r (by simp)).1;have l:Lns 2 [r]:=⟨⟨λa ha=>by rw[Ua.mp ha];exact rok,λa ha=>by rw[Ua.mp ha];exact rne,λa ha=>by rw[Ua.mp ha];lia,by simp⟩,by simp,by decide,λz=>absurd z (by decide),λ_=>rfl,λa ha=>by rw[Ua.mp ha];lia,by simp⟩;have sp1:=λhh=>ym hh (za r) nwl rfl (by have:=yp r rok;lia);rw[QZ rok] at sp1;rw[<- Yp] at sp1;have sq1:∀ hh,Zb hh (.f (.lst ((([count]::r::rs).map za).map FV.str)))=some (wsV (([count]::r::rs).map za)):=λhh=>by simp
  have a1:atM (wsV (([count]::r::rs).map za)) 1=some (.f (.str (za r))):=by
   have S0:=Yj (wsV (([count]::r::rs).map za)) 1;change atM _ (1:Int)=_ at S0;rw[S0];rfl
  obtain⟨kn,p,TL⟩:=ZaL n h sc k ka (by lia) (by lia) 2 x count (Ya false false (r::rs)) (za r) [r] l (λkn=>k<=kn/\kn<=k+60) (λkk z8 c1 c2=>⟨kk+1,by lia,ybk n h sc k kk (by lia) (by lia) x count r rs l z8⟩);refine⟨kn,p.1,p.2,?_⟩;rw[zX,show d__law_one.body=oneB.take 7++oneB.drop 7 from rfl];generalize oneB.drop 7=BB at *;generalize Zq ([count]::r::rs)=tz at *;generalize FV.lst ((([count]::r::rs).map za).map FV.str)=v0 at *;generalize wsV (([count]::r::rs).map za)=M0 at *;generalize Ya false false (r::rs)=rv at *;have e9:FV.lst ([za r].map FV.str)=FV.lst (([r].map za).map FV.str):=rfl;rw[e9] at sp1;generalize FV.lst (([r].map za).map FV.str)=v1 at *;generalize za r=tr at *;simp only[oneB,d__law_one,Wu,ui,vf];have m2':((2:Nat):Int)=2:=rfl;rw[m2'] at b1 TL;simp[-Int.natCast_add,N,b1,MO,b2,b3,b4,b5,d1,d2,RO,TX,yc,sp,sq1,a1,sp1];exact TL
 ·have hq2:q<2:=by lia
  have l:Lns q ([count]::rows):=⟨ok,by simp,hq,λ_ r e=>by cases e;rfl,λz=>absurd z q2,λr hr=>by
   rcases xa.mp hr with rfl|hr
   ·simp
   ·have:=(r2 r hr).1;lia,by simp;lia⟩
  obtain⟨kn,p,TL⟩:=ZaL n h sc k ka (by lia) (by lia) q x count (Ya false false rows) (Zq ([count]::rows)) ([count]::rows) l (λkn=>k<=kn/\kn<=k+60) (λkk z8 c1 c2=>⟨kk+1+1,by lia,qbF n h sc k kk (by lia) (by lia) q hq2 x count rows (1+W0) m1 m2 (by lia) (by lia) (by lia) (by lia) r2 l z8⟩);refine⟨kn,p.1,p.2,?_⟩;have q2':¬(q:Int)=2:=by lia
  rw[zX,show d__law_one.body=oneB.take 7++oneB.drop 7 from rfl];generalize oneB.drop 7=BB at *;generalize Zq ([count]::rows)=tz at *;generalize FV.lst ((([count]::rows).map za).map FV.str)=v0 at *;generalize Ya false false rows=rv at *;simp only[oneB,d__law_one,Wu,ui,vf];simp[-Int.natCast_add,N,b1,MO,b2,b3,b4,b5,d1,d2,RO,TX,yc,sp,q2'];exact TL
theorem run_law(ns:List Int)(hl:ns.length<=63):∃ h',run prog (n+8) "law" [.f (.scr ns)] []=.ok (B true) h':=by
 suffices Ret (run prog (n+8) "law" [.f (.scr ns)] []) λv h'=>v=B true by
  obtain⟨v,h',e,rfl⟩:=this;exact⟨h',e⟩
 refine Ret.of λQ hQ=>?_;have ls:∀ hh,yj true "len" [.f (.scr ns)] hh=.ok (I (ns.length:Int)) hh:=λhh=>by simp
 have d16:∀ hh,Qe true .fdiv (I (ns.length:Int)) (I 16) hh=.ok (I ((ns.length:Int)/16)) hh:=λhh=>Zp _ _ _ ⟨by decide,.inl (by decide)⟩;obtain⟨T,hT,mn⟩:∃ T:Nat,T<=3/\∀ hh,yj true "min" [I 3,I ((ns.length:Int)/16)] hh=.ok (I (T:Int)) hh:=by
  refine⟨min 3 (ns.length/16),by lia,λhh=>?_⟩;simp only[Zbp,qc,Yb]
  congr 3
  split <;> lia
 have rg:∀ hh,itV "range" [I (1+(T:Int))] hh=some ((Ue (T+1)).map λ(k:Nat)=>I k,[]):=λhh=>by
  rw[QB hh _ (by lia)]
  congr 3;congr 1;lia
 rw[YbO];simp only[d_law];simp[ls,d16,mn,rg];refine zN (Q:=λr=>Ret (zd _ r) _) (T+1) (λi σ hh=>∃(kk:Int)(z2:Option MV),(0<=kk/\kk<=60*(i:Int))/\hh=[atC kk]/\σ=[some (.f (.scr ns)),some (.ref 0),z2]) ⟨0,none,by lia,rfl,rfl⟩ ?_ ?_
 ·rintro i σ hh hil ⟨kk,z2,hb,rfl,rfl⟩ Q hQ;obtain⟨kn,a1,a2,e⟩:=zbP n [] ns kk hb.1 (by lia);simp[Yl,e];exact hQ _ _ ⟨kn,_,by push_cast;lia,rfl,rfl⟩
 ·rintro σ hh ⟨kk,z2,hb,rfl,rfl⟩;have lv:yk [] (.f (.bl true)) [atC kk]=.ok (B true) []:=qbn [] [atC kk] (.bl true);simp[lv];exact hQ _ _ rfl
end
end MP
end
section
namespace SD
open PySem L2 L3 M3 MP PyProof.Rows
noncomputable def top(i:Nat):Stmt:=PySem.Challenge.pw_dotscreen_k61_texts_refused.main.body.getD i (.Pass ⟨0,0,0,0⟩)
noncomputable abbrev QV:Stmt:=yaA (top 11) 0
noncomputable abbrev qah:Stmt:=top 13
theorem Za2:zj prog YE ["rows"] ["rows"] qah=true:=by decide +kernel
noncomputable abbrev Zaf:Stmt:=top 14
theorem Qa2:zj prog d_fault_of ["rows","least","greatest","row"] ["rows","least","greatest"] Zaf=true:=by decide +kernel
noncomputable abbrev Qx:Stmt:=yaA (top 16) 0
theorem yT:zj prog d_Picture___init__ ["self","most","rows","kept","fault"] ["self","most","rows"] Qx=true:=by decide +kernel
noncomputable abbrev YG:Stmt:=yaA (top 18) 0
theorem qab:zj prog d_Tile___init__ ["self","count","rows","kept","fault"] ["self","count","rows"] YG=true:=by decide +kernel
noncomputable abbrev QL:Stmt:=top 22
theorem yal:zj prog d_read_picture ["text","rows"] ["text"] QL=true:=by decide +kernel
noncomputable abbrev Y9:Stmt:=top 23
theorem qaU:zj prog d_read_tile ["text","rows"] ["text"] Y9=true:=by decide +kernel
noncomputable abbrev YK:Stmt:=top 24
theorem Yai:zj prog d_read_numbers ["text","rows","numbers"] ["text"] YK=true:=by decide +kernel
noncomputable abbrev Y6:Stmt:=top 25
theorem YaT:zj prog d_read_rows ["text","rows","line","row","numbers"] ["text"] Y6=true:=by decide +kernel
noncomputable abbrev YW:Stmt:=top 26
theorem YaC:zj prog d_numbers_in ["row","line","words","word"] ["row","line"] YW=true:=by decide +kernel
noncomputable abbrev Q7:Stmt:=top 27
theorem qaK:zj prog d_is_number ["word"] ["word"] Q7=true:=by decide +kernel
noncomputable abbrev Q8:Stmt:=top 29
theorem qaV:zj prog Yz ["_law_script","_law_at","_law_cell","_law_m"] ["_law_script","_law_at"] Q8=true:=by decide +kernel
noncomputable abbrev Z9:Stmt:=top 30
theorem qaI:zj prog d__law_same ["_law_found","_law_due"] ["_law_found","_law_due"] Z9=true:=by decide +kernel
noncomputable abbrev Q5:Stmt:=top 31
theorem zaQ:zj prog qz ["_law_script","_law_at","_law_m","_law_cell"] ["_law_script","_law_at"] Q5=true:=by decide +kernel
noncomputable abbrev YB:Stmt:=top 32
theorem Y2:zj prog d__law_tile_rows ["_law_script","_law_at","_law_count","_law_tall","_law_broad","_law_rows","_law_k","_law_line","_law_j","_law_m"] ["_law_script","_law_at","_law_count","_law_tall","_law_broad"] YB=true:=by decide +kernel
noncomputable abbrev Q9:Stmt:=top 33
theorem yaW:zj prog d__law_word ["_law_e","_law_told_here","_law_words","_law_some"] ["_law_e"] Q9=true:=by decide +kernel
noncomputable abbrev zaa:Stmt:=top 34
theorem yaJ:zj prog d__law_text ["_law_first","_law_rows"] ["_law_first","_law_rows"] zaa=true:=by decide +kernel
noncomputable abbrev Yaa:Stmt:=top 35
theorem yaK:zj prog d__law_told ["_law_which","_law_text_here","_law_told_here","_law_e","_law_word_here"] ["_law_which","_law_text_here"] Yaa=true:=by decide +kernel
noncomputable abbrev Qam:Stmt:=top 36
theorem Ya6:zj prog d__law_bad ["_law_script","_law_at","_law_row","_law_m","_law_pieces","_law_spot","_law_piece","_law_some"] ["_law_script","_law_at","_law_row"] Qam=true:=by decide +kernel
noncomputable abbrev QG:Stmt:=top 37
theorem qaa:zj prog d__law_rows_bad ["_law_script","_law_at","_law_which","_law_rows","_law_k","_law_made","_law_later"] ["_law_script","_law_at","_law_which","_law_rows"] QG=true:=by decide +kernel
noncomputable abbrev ZC:Stmt:=top 38
theorem qZ:zj prog d__law_rows_more ["_law_script","_law_at","_law_which","_law_rows","_law_m","_law_text_here"] ["_law_script","_law_at","_law_which","_law_rows"] ZC=true:=by decide +kernel
noncomputable abbrev yaa:Stmt:=top 39
theorem YaP:zj prog d__law_none ["_law_script","_law_at","_law_which","_law_count","_law_table","_law_m","_law_made","_law_k","_law_j","_law_first","_law_text_here"] ["_law_script","_law_at","_law_which","_law_count","_law_table"] yaa=true:=by decide +kernel
noncomputable abbrev zak:Stmt:=top 40
theorem za5:zj prog d__law_one ["_law_script","_law_at","_law_m","_law_which","_law_count","_law_table","_law_text_here","_law_rows","_law_turn","_law_told_here"] ["_law_script","_law_at"] zak=true:=by decide +kernel
noncomputable abbrev YV:Stmt:=top 41
theorem Yb4:zj prog d_law ["_law_script","_law_at","_law_turn"] ["_law_script"] YV=true:=by decide +kernel
end SD
end
section
namespace SD
open PySem PySem.Spec PyProof.Rows L2 L3 M3 MP
noncomputable def ctOf(K:PySem.W.Frag)(qh qt c0 c1 c2 c3 c4 c5 c6 c7 c8 c9 B:Addr):Tx:=⟨(λs=>match s with
  |"Picture"=>qh
  |"Tile"=>qt
  |"NoPicture"=>c0
  |"OutOfPicture"=>c1
  |"NoMeet"=>c2
  |"NoTile"=>c3
  |"NoInks"=>c4
  |"NoShares"=>c5
  |"NoShade"=>c6
  |"NoStretches"=>c7
  |"NoWay"=>c8
  |"NoText"=>c9
  |"DotError"=>B
  |_=>0),K,0,0,⟨0,0,0,0⟩,Str.ofString ""⟩
theorem all_mk{l:PySem.W.OpenLaw}{w:World}{K:PySem.W.Frag}{h:Heap}{mg:Str->Option Value}{fa:Addr}{cd0:ClassData}{c0:Addr}{cd1:ClassData}{c1:Addr}{cd2:ClassData}{c2:Addr}{cd3:ClassData}{c3:Addr}{cd4:ClassData}{c4:Addr}{cd5:ClassData}{c5:Addr}{cd6:ClassData}{c6:Addr}{cd7:ClassData}{c7:Addr}{cd8:ClassData}{c8:Addr}{cd9:ClassData}{c9:Addr}{B:Addr}{f_x9:Addr}{qh:Addr}{za3:ClassData}{qt:Addr}{zbS:ClassData}{Y5:Addr}{zaN:Addr}{Za6:Tok}{Zab:Tok}{ybG:Addr}{qcn zbF:Option Addr}{qcp:Array (Option Value)}{Qcp Qbw YbC Ybz Za0 Ybv:Value}(X:K.In h)(G:h.Ns mainGlobals mg)(hfa:mg "law"=some (.ref fa))
  (Za4:Src K mg "own_rows" qah ["rows"]) (Za5:Src K mg "fault_of" Zaf ["rows","least","greatest"]) (qaj:Src K mg "read_picture" QL ["text"]) (zaM:Src K mg "read_tile" Y9 ["text"]) (yai:Src K mg "read_numbers" YK ["text"]) (yaM:Src K mg "read_rows" Y6 ["text"]) (yaG:Src K mg "numbers_in" YW ["row","line"]) (ZaM:Src K mg "is_number" Q7 ["word"]) (qaJ:Src K mg "_law_next" Q8 ["_law_script","_law_at"]) (ZaJ:Src K mg "_law_same" Z9 ["_law_found","_law_due"]) (YaI:Src K mg "_law_most" Q5 ["_law_script","_law_at"]) (Z4:Src K mg "_law_tile_rows" YB ["_law_script","_law_at","_law_count","_law_tall","_law_broad"]) (QaR:Src K mg "_law_word" Q9 ["_law_e"]) (ZaS:Src K mg "_law_text" zaa ["_law_first","_law_rows"]) (YaN:Src K mg "_law_told" Yaa ["_law_which","_law_text_here"]) (zaZ:Src K mg "_law_bad" Qam ["_law_script","_law_at","_law_row"]) (yab:Src K mg "_law_rows_bad" QG ["_law_script","_law_at","_law_which","_law_rows"]) (Z0:Src K mg "_law_rows_more" ZC ["_law_script","_law_at","_law_which","_law_rows"]) (YaW:Src K mg "_law_none" yaa ["_law_script","_law_at","_law_which","_law_count","_law_table"]) (qaX:Src K mg "_law_one" zak ["_law_script","_law_at"]) (S_law:Src K mg "law" YV ["_law_script"])
  (zb:∀ x∈(["abs","all","bool","dict","divmod","enumerate","int","isinstance","len","list","max","min","range","reversed","set","sorted","str","sum","tuple","zip"]:List Str),xi K mainGlobals x=some none)
  (ZaF:xi K mainGlobals "ValueError"=some none)
  (x0:XA K "NoPicture" c0 cd0)
  (x1:XA K "OutOfPicture" c1 cd1)
  (x2:XA K "NoMeet" c2 cd2)
  (x3:XA K "NoTile" c3 cd3)
  (x4:XA K "NoInks" c4 cd4)
  (x5:XA K "NoShares" c5 cd5)
  (x6:XA K "NoShade" c6 cd6)
  (x7:XA K "NoStretches" c7 cd7)
  (x8:XA K "NoWay" c8 cd8)
  (x9:XA K "NoText" c9 cd9)
  (aB:xi K mainGlobals "DotError"=some (some (.ref B)))
  (qB:vq K B bmV "ValueError.__new__"=true)
  (gn:uj K (.builtin "object.__class__") "__get__"=some (some (.builtin "getset_descriptor.__get__")))
  (tk:Wm K (.builtin "object.__class__")=some true)
  (z0:XC K c0 B c0 c1 c2 c3 c4 c5 c6 c7 c8 c9 cd0 true false false false false false false false false false)
  (q0:vq K c0 bmV "ValueError.__new__"=true)
  (z3:XC K c3 B c0 c1 c2 c3 c4 c5 c6 c7 c8 c9 cd3 false false false true false false false false false false)
  (q3:vq K c3 bmV "ValueError.__new__"=true)
  (q9:excG K c9=true)
  (z9:XC K c9 B c0 c1 c2 c3 c4 c5 c6 c7 c8 c9 cd9 false false false false false false false false false true)
  (xb9:XB K B)
  (xk9:XK2 K c9 f_x9 cd9)
  (fx9:FE K "__init__" "NoText.__init__" QV f_x9)
  (kC_Picture:CK K "Picture" qh za3)
  (Qaj:wc K (.ref qh) "most"=some none)
  (yaj:wc K (.ref qh) "rows"=some none)
  (kC_Tile:CK K "Tile" qt zbS)
  (zaB:wc K (.ref qt) "count"=some none)
  (YaV:wc K (.ref qt) "rows"=some none)
  (Qab:Uc K (.ref qh) (.ref qt)=some false)
  (Qac:Uc K (.ref qt) (.ref qh)=some false)
  (ik_Picture:IK K qh Y5)
  (fi_Picture:FE K "__init__" "Picture.__init__" Qx Y5)
  (ik_Tile:IK K qt zaN)
  (fi_Tile:FE K "__init__" "Tile.__init__" YG zaN)
  (Qa0:xi K mainGlobals "FIGURES"=some (some (.str "0123456789" Za6)))
  (yac:xi K mainGlobals "MOST_FIGURES"=some (some (.int 30 Zab)))
  (al:xi K mainGlobals "law"=some (some (.ref ybG)))
  (ll:K.lookup ybG=some ⟨Qcp,qcn,.func (vg "law" "law" (Zl YV) (yg YV) (Zc YV) .none Qbw YbC Ybz zbF Za0 Ybv),qcp⟩)
  (kl:Uk K Za0 "law"=true)
  (kq:Xg K (.ref ybG)=true) :
  ∃ fd:FuncData,(∀(s:Shared)(v:Value),BindsTo s fd ⟨[v],[]⟩ [("_law_script",v)])/\∀ base:Heap,K.In base->base.Ns mainGlobals mg->FnOk l.prog w K mg base (CX1 l.prog w) 16 fa fd ["_law_script"] (Zbe K):=by
 have e:=hfa.symm.trans (Wf X G al);cases e;have Fl:=QaE (st:=YV) ll kl kq;have TM:ya7 (Zbb K mg prog (ctOf K qh qt c0 c1 c2 c3 c4 c5 c6 c7 c8 c9 B)) methsL:=⟨ZbH X G kC_Picture fi_Picture ik_Picture (λ_ _ _ _ _ _ us hl=>by obtain⟨_,_,_,rfl⟩:=ln3 hl;rfl) yT rfl,ZbH X G kC_Tile fi_Tile ik_Tile (λ_ _ _ _ _ _ us hl=>by obtain⟨_,_,_,rfl⟩:=ln3 hl;rfl) qab rfl,trivial⟩;have TS:ya7 (SubP K mg (ctOf K qh qt c0 c1 c2 c3 c4 c5 c6 c7 c8 c9 B)) subsL:=⟨Qbc X G kC_Picture kC_Picture kC_Picture.s0 rfl,Qbc X G kC_Picture kC_Tile Qab rfl,zH kC_Picture rfl,zH kC_Picture rfl,zH kC_Picture rfl,zH kC_Picture rfl,zH kC_Picture rfl,zH kC_Picture rfl,Qbc X G kC_Tile kC_Picture Qac rfl,Qbc X G kC_Tile kC_Tile kC_Tile.s0 rfl,zH kC_Tile rfl,zH kC_Tile rfl,zH kC_Tile rfl,zH kC_Tile rfl,zH kC_Tile rfl,zH kC_Tile rfl,trivial⟩;have T:Text K mg prog (ctOf K qh qt c0 c1 c2 c3 c4 c5 c6 c7 c8 c9 B):=by
  refine⟨rfl,?_,?_,?_,?_,?_,?_,?_,?_,?_,?_,?_,?_,?_,?_,?_,?_,?_,?_⟩
  ·exactλf d hd hdot=>Qas (L:=defsL) (P:=λf d=>f.toList.contains '.'=false->∃ st N ps,Src K mg (Str.ofString f) st ps/\(zj prog d N ps st=true\/ybH K mg prog (ctOf K qh qt c0 c1 c2 c3 c4 c5 c6 c7 c8 c9 B) f ps)) (by
   refine⟨?_,?_,?_,?_,?_,?_,?_,?_,?_,?_,?_,?_,?_,?_,?_,?_,?_,?_,?_,?_,?_,?_,?_,?_,trivial⟩
   ·exactλ_=>⟨_,_,_,Za4,.inl Za2⟩
   ·exactλ_=>⟨_,_,_,Za5,.inl Qa2⟩
   ·exactλhdot=>absurd hdot (by decide)
   ·exactλhdot=>absurd hdot (by decide)
   ·exactλ_=>⟨_,_,_,qaj,.inl yal⟩
   ·exactλ_=>⟨_,_,_,zaM,.inl qaU⟩
   ·exactλ_=>⟨_,_,_,yai,.inl Yai⟩
   ·exactλ_=>⟨_,_,_,yaM,.inl YaT⟩
   ·exactλ_=>⟨_,_,_,yaG,.inl YaC⟩
   ·exactλ_=>⟨_,_,_,ZaM,.inl qaK⟩
   ·exactλ_=>⟨_,_,_,qaJ,.inl qaV⟩
   ·exactλ_=>⟨_,_,_,ZaJ,.inl qaI⟩
   ·exactλ_=>⟨_,_,_,YaI,.inl zaQ⟩
   ·exactλ_=>⟨_,_,_,Z4,.inl Y2⟩
   ·exactλ_=>⟨_,_,_,QaR,.inl yaW⟩
   ·exactλ_=>⟨_,_,_,ZaS,.inl yaJ⟩
   ·exactλ_=>⟨_,_,_,YaN,.inl yaK⟩
   ·exactλ_=>⟨_,_,_,zaZ,.inl Ya6⟩
   ·exactλ_=>⟨_,_,_,yab,.inl qaa⟩
   ·exactλ_=>⟨_,_,_,Z0,.inl qZ⟩
   ·exactλ_=>⟨_,_,_,YaW,.inl YaP⟩
   ·exactλ_=>⟨_,_,_,qaX,.inl za5⟩
   ·exactλ_=>⟨_,_,_,S_law,.inl Yb4⟩
   ·exactλhdot=>absurd hdot (by decide)) hd hdot
  ·exactλc f hi=>ycf TM hi
  ·intro x hx;simp only[fnNames,tyNames,isTys,ui,vf,xa,Ub,or_false] at hx
   rcases hx with rfl|rfl|rfl|rfl|rfl|rfl|rfl|rfl|rfl|rfl|rfl|rfl|rfl|rfl|rfl|rfl|rfl|rfl|rfl
   all_goals exact WA X G (zb _ (by simp))
  ·intro c f hf;simp only[prog] at hf;split at hf
   ·exact⟨⟨kC_Picture.pg,kC_Picture.hd,kC_Picture.po,kC_Picture.sa⟩,Qaj⟩
   ·exact⟨⟨kC_Picture.pg,kC_Picture.hd,kC_Picture.po,kC_Picture.sa⟩,yaj⟩
   ·exact⟨⟨kC_Tile.pg,kC_Tile.hd,kC_Tile.po,kC_Tile.sa⟩,zaB⟩
   ·exact⟨⟨kC_Tile.pg,kC_Tile.hd,kC_Tile.po,kC_Tile.sa⟩,YaV⟩
   ·cases hf
  ·exactλc t b hs=>clsT (t:=t) TS hs gn tk
  ·exactλc t b hs ht=>((Qr TS hs).2.2.1 ht).2
  ·exactλc t b hs ht=>(Qr TS hs).2.2.2 ht
  ·exactλt c b hs ht TT hTT=>tyT (c:=c) TS hs ht hTT
  ·intro c hc;simp only[prog] at hc;split at hc
   ·exact⟨q0,Wf X G x0.a,by decide⟩
   ·exact⟨q3,Wf X G x3.a,by decide⟩
   ·cases hc
  ·intro c g hc;simp only[prog] at hc;split at hc
   ·exact xi_mk (c:="NoText") X G q9 x9 (z9.word q9 gn tk x9 x0 x1 x2 x3 x4 x5 x6 x7 x8 x9 9 (by decide) rfl).z xk9 xb9 aB fx9 (λ_ _ _ _ _ _ us hl=>by obtain⟨_,_,rfl⟩:=ln2 hl;rfl) rfl (by refine⟨_,_,_,_,_,_,_,_,_,_,_,_,_,_,_,_,?h,rfl⟩;rfl) (by decide) (by decide) (by decide)
   ·cases hc
  ·intro wd hw;simp only[prog] at hw;cases hw
  ·intro t ht;simp only[prog] at ht;split at ht
   ·rw[if_neg (by decide)];exact Wf X G x0.a
   ·rw[if_neg (by decide)];exact Wf X G x1.a
   ·rw[if_neg (by decide)];exact Wf X G x2.a
   ·rw[if_neg (by decide)];exact Wf X G x3.a
   ·rw[if_neg (by decide)];exact Wf X G x4.a
   ·rw[if_neg (by decide)];exact Wf X G x5.a
   ·rw[if_neg (by decide)];exact Wf X G x6.a
   ·rw[if_neg (by decide)];exact Wf X G x7.a
   ·rw[if_neg (by decide)];exact Wf X G x8.a
   ·rw[if_neg (by decide)];exact Wf X G x9.a
   ·rw[if_pos rfl];exact WA X G ZaF
   ·cases ht
  ·intro c t b hs;simp only[prog] at hs;split at hs
   ·refine⟨(z0.word (ExcC.g q0) gn tk x0 x0 x1 x2 x3 x4 x5 x6 x7 x8 x9 0 (by decide) rfl).z,?_⟩;split at hs
    ·cases hs;rw[if_neg (by decide)];exact Qb z0.ss x0.ci x0.ty z0.s0
    ·cases hs;rw[if_neg (by decide)];exact Qb z0.ss x1.ci x1.ty z0.s1
    ·cases hs;rw[if_neg (by decide)];exact Qb z0.ss x2.ci x2.ty z0.s2
    ·cases hs;rw[if_neg (by decide)];exact Qb z0.ss x3.ci x3.ty z0.s3
    ·cases hs;rw[if_neg (by decide)];exact Qb z0.ss x4.ci x4.ty z0.s4
    ·cases hs;rw[if_neg (by decide)];exact Qb z0.ss x5.ci x5.ty z0.s5
    ·cases hs;rw[if_neg (by decide)];exact Qb z0.ss x6.ci x6.ty z0.s6
    ·cases hs;rw[if_neg (by decide)];exact Qb z0.ss x7.ci x7.ty z0.s7
    ·cases hs;rw[if_neg (by decide)];exact Qb z0.ss x8.ci x8.ty z0.s8
    ·cases hs;rw[if_neg (by decide)];exact Qb z0.ss x9.ci x9.ty z0.s9
    ·cases hs;rw[if_pos rfl];exact zam zE z0.sv
    ·cases hs
   ·refine⟨(z3.word (ExcC.g q3) gn tk x3 x0 x1 x2 x3 x4 x5 x6 x7 x8 x9 3 (by decide) rfl).z,?_⟩;split at hs
    ·cases hs;rw[if_neg (by decide)];exact Qb z3.ss x0.ci x0.ty z3.s0
    ·cases hs;rw[if_neg (by decide)];exact Qb z3.ss x1.ci x1.ty z3.s1
    ·cases hs;rw[if_neg (by decide)];exact Qb z3.ss x2.ci x2.ty z3.s2
    ·cases hs;rw[if_neg (by decide)];exact Qb z3.ss x3.ci x3.ty z3.s3
    ·cases hs;rw[if_neg (by decide)];exact Qb z3.ss x4.ci x4.ty z3.s4
    ·cases hs;rw[if_neg (by decide)];exact Qb z3.ss x5.ci x5.ty z3.s5
    ·cases hs;rw[if_neg (by decide)];exact Qb z3.ss x6.ci x6.ty z3.s6
    ·cases hs;rw[if_neg (by decide)];exact Qb z3.ss x7.ci x7.ty z3.s7
    ·cases hs;rw[if_neg (by decide)];exact Qb z3.ss x8.ci x8.ty z3.s8
    ·cases hs;rw[if_neg (by decide)];exact Qb z3.ss x9.ci x9.ty z3.s9
    ·cases hs;rw[if_pos rfl];exact zam zE z3.sv
    ·cases hs
   ·refine⟨(z9.word q9 gn tk x9 x0 x1 x2 x3 x4 x5 x6 x7 x8 x9 9 (by decide) rfl).z,?_⟩;split at hs
    ·cases hs;rw[if_neg (by decide)];exact Qb z9.ss x0.ci x0.ty z9.s0
    ·cases hs;rw[if_neg (by decide)];exact Qb z9.ss x1.ci x1.ty z9.s1
    ·cases hs;rw[if_neg (by decide)];exact Qb z9.ss x2.ci x2.ty z9.s2
    ·cases hs;rw[if_neg (by decide)];exact Qb z9.ss x3.ci x3.ty z9.s3
    ·cases hs;rw[if_neg (by decide)];exact Qb z9.ss x4.ci x4.ty z9.s4
    ·cases hs;rw[if_neg (by decide)];exact Qb z9.ss x5.ci x5.ty z9.s5
    ·cases hs;rw[if_neg (by decide)];exact Qb z9.ss x6.ci x6.ty z9.s6
    ·cases hs;rw[if_neg (by decide)];exact Qb z9.ss x7.ci x7.ty z9.s7
    ·cases hs;rw[if_neg (by decide)];exact Qb z9.ss x8.ci x8.ty z9.s8
    ·cases hs;rw[if_neg (by decide)];exact Qb z9.ss x9.ci x9.ty z9.s9
    ·cases hs;rw[if_pos rfl];exact zam zE z9.sv
    ·cases hs
   ·cases hs
  ·exactλf ds h=>nomatch (show false=true from h)
  ·exactλc m f hm _=>Qcm TM hm
  ·exactλc hc=>nomatch (show false=true from hc)
  ·intro x i hx;simp only[prog] at hx;split at hx
   ·cases hx;exact⟨_,Wf X G Qa0⟩
   ·cases hx;exact⟨_,Wf X G yac⟩
   ·cases hx
  ·intro _;refine⟨qB,Wf X G aB,?_⟩;intro c b hs;simp only[prog] at hs;split at hs
   ·exact z0.un_of (ExcC.g q0) x0
   ·exact z3.un_of (ExcC.g q3) x3
   ·exact z9.un_of q9 x9
   ·cases hs
 exact⟨vg "law" "law" (Zl YV) (yg YV) (Zc YV) .none Qbw YbC Ybz zbF Za0 Ybv,λs v=>.of_eq rfl,λbase kb _=>yci (n:=7) T kb (λz=>absurd rfl z) Fl rfl Yb4 (λns hl=>MP.run_law 0 ns hl)⟩
end SD
open PySem PySem.W PyProof.Rows L2 L3 M3 SD
set_option maxRecDepth 100000 in
set_option maxHeartbeats 0 in
theorem PySem.Challenge.cw_dotscreen_k61_texts_refused_holds : PySem.Challenge.rw_dotscreen_k61_texts_refused.Holds := by
 w_on;o_law;k_head;(case hw=>w_witness2)
 k_fill
 refine SD.walk (l:=PySem.Challenge.rw_dotscreen_k61_texts_refused) (k:=16) rfl rfl ⟨rfl,by decide,by decide⟩ (λw h Y=>PySem.W.kIn_of Y) ?F
 case F =>
  intro w mg fa h KX G hmg;refine' SD.all_mk KX G hmg ?s0 ?s1 ?s2 ?s3 ?s4 ?s5 ?s6 ?s7 ?s8 ?s9 ?s10 ?s11 ?s12 ?s13 ?s14 ?s15 ?s16 ?s17 ?s18 ?s19 ?s20  ?x0 ?x1 ?x2 ?x3 ?x4 ?x5 ?x6 ?x7 ?x8 ?x9 ?x10 ?x11 ?x12 ?x13 ?x14 ?x15 ?x16 ?x17 ?x18 ?x19 ?x20 ?x21 ?x22 ?x23 ?x24 ?x25 ?x26 ?x27 ?x28 ?x29 ?x30 ?x31 ?x32 ?x33 ?x34 ?x35 ?x36 ?x37 ?x38 ?x39 ?x40 ?x41 ?x42
  (case s0|s2|s3|s4|s5|s7|s12|s20 =>
   try dsimp only[L2.KOf]
   refine' SD.src_mk KX G (λ_ _ _ _ _ _ us hl=>by obtain⟨_,rfl⟩:=SD.ln1 hl;rfl) ?a ?l ?c ?k
   (case a|l|c|k=>k_is))
  (case s1|s15 =>
   try dsimp only[L2.KOf]
   refine' SD.src_mk KX G (λ_ _ _ _ _ _ us hl=>by obtain⟨_,_,_,rfl⟩:=SD.ln3 hl;rfl) ?a ?l ?c ?k
   (case a|l|c|k=>k_is))
  (case s6|s8|s9|s10|s13|s14|s19 =>
   try dsimp only[L2.KOf]
   refine' SD.src_mk KX G (λ_ _ _ _ _ _ us hl=>by obtain⟨_,_,rfl⟩:=SD.ln2 hl;rfl) ?a ?l ?c ?k
   (case a|l|c|k=>k_is))
  (case s11|s18 =>
   try dsimp only[L2.KOf]
   refine' SD.src_mk KX G (λ_ _ _ _ _ _ us hl=>by obtain⟨_,_,_,_,_,rfl⟩:=SD.ln5 hl;rfl) ?a ?l ?c ?k
   (case a|l|c|k=>k_is))
  (case s16|s17 =>
   try dsimp only[L2.KOf]
   refine' SD.src_mk KX G (λ_ _ _ _ _ _ us hl=>by obtain⟨_,_,_,_,rfl⟩:=SD.ln4 hl;rfl) ?a ?l ?c ?k
   (case a|l|c|k=>k_is))
  (case x25|x28=>
   refine' SD.CK.mk ?a ?b ?c ?d ?e ?f ?g ?h ?i ?j ?k ?l ?m ?n ?o ?z
   (case a|b|c|d|e|f|g|h|i|j|k|l|m|n|o|z=>k_is))
  (case x2|x3|x4|x5|x6|x7|x8|x9|x10|x11=>
   refine' SD.XA.mk ?a ?b ?c
   (case a|b|c=>k_is))
  (case x1|x12|x14|x15|x26|x27|x29|x30|x31|x32|x37|x38|x39|x40|x41|x42=>k_is)
  (case x33|x35=>
   refine' SD.IK.mk ?a ?b ?c
   (case a|b|c=>k_is))
  (case x23=>
   refine' SD.XK2.mk ?a ?b ?c ?d ?e ?f ?g
   (case a|b|c|d=>k_is)
   (case e=>kernel_rfl)
   (case f|g=>rfl))
  (case x24|x34|x36=>
   refine'⟨_,_,_,_,_,_,_,_,_,SD.FK.mk ?a ?b ?c ?d⟩
   (case a|b|c|d=>k_is))
  (case x13|x17|x19=>k_exc)
  (case x20=>kernel_rfl)
  (case x16|x18|x21=>
   refine' SD.XC.mk ?v ?a ?b ?c ?d ?e ?f ?g ?h ?i ?j ?k ?l ?m ?n ?o ?z
   (case v=>rfl)
   (case a|b|c|d|e|f|g|h|i|j|k|l|m|n|o|z=>k_is))
  (case x22=>
   refine' L3.XB.mk ?a ?b ?c
   (case a|b|c=>k_is))
  (case x0=>intro z hz;simp only[xa,Ub,or_false] at hz;rcases hz with rfl|rfl|rfl|rfl|rfl|rfl|rfl|rfl|rfl|rfl|rfl|rfl|rfl|rfl|rfl|rfl|rfl|rfl|rfl|rfl <;> k_is)
end