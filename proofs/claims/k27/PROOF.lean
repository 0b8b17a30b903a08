import PyProof.Rows.All
import Wide.All
import OpenK.AllK
import Wide.FinOn
import Lean
import PyProof.EqAt
import PyProof.EqKinds
import PyProof.TupleCall
import PyProof.Rows.SortRuns
import KE.KRevIter
import PyProof.SetRoads
import PyProof.ListNew
import PyProof.Rows.ListMulPlace
import PyProof.ZipIter
import PyProof.Rows.ZipGen
import PyProof.Rows.SumGenD
import PySem.Challenge.RW_closehaul_k27_whole_which_answers_stand
set_option compiler.extract_closed false
set_option linter.defProp false
namespace PySem.W.Fast
def tw3022278471390984433:=0
def tw1477813841691661181:=0
def tw4832101644335415218:=0
def tw6889470971233039769:=0
def tw14624493142370937048:=0
def tw658591040834365466:=0
def tw10721526375352615746:=0
def tw3577930193835148382:=0
def tw17617393926954861801:=0
def tw13175455296140181546:=0
def tw7770504600283628701:=0
def tw7753948868013222593:=0
def tw11073171050248002594:=0
def tw12493323142456734589:=0
def tw1460652333158205285:=0
def tw15333899778523898803:=0
def tw8945740144839654326:=0
def tw11293109222878460027:=0
def tw5192397238344454460:=0
def tw10390034734132402218:=0
def tw3037995083397482258:=0
def tw10707377184979422242:=0
def tw8536966041950510804:=0
def tw17987748542185582964:=0
def tw14724117813904633793:=0
def tw16370457663973319330:=0
def tw12005689678413075745:=0
def tw2106836514304459535:=0
def tw5921966649638506861:=0
def tw12885839458632693982:=0
def tw8220465157505211997:=0
def tw5302833809514864036:=0
def tw5741028058119082972:=0
def tw6479094499445339124:=0
def tw8659148967837013466:=0
def tw10193587911022963378:=0
def tw3882670125448592739:=0
def tw769254913409617248:=0
def tw2146805897658990230:=0
def tw10278621583029101411:=0
def tw1710734149086343263:=0
def tw4097503025533713938:=0
def tw12961921906045369571:=0
def tw6505916054769704660:=0
def tw3367398240993959654:=0
def tw230499228524163958:=0
def tw10485013019463112937:=0
def tw10312670931765496421:=0
def tw13378577508902756028:=0
def tw15431594226268482931:=0
def tw10929154298719562944:=0
def tw11245239974153117110:=0
def tw10148706712120472853:=0
def tw17355290832093442810:=0
def tw2570645229746828961:=0
def tw8560567289286077345:=0
def tw7823175882102583273:=0
def tw13323578284511077663:=0
def tw6526319538154337404:=0
def tw13802831487888770002:=0
def tw7817903856642802415:=0
def tw6432605325794772536:=0
def tw15640146514650197411:=0
def tw15108702426184954999:=0
def tw7758656452143925309:=0
def tw8219457251943762684:=0
def tw3888655194851897455:=0
def tw3629753900640185963:=0
def tw2353162966805660989:=0
def tw12085694950860912365:=0
def tw15979933109043159793:=0
def tw2568563596875401235:=0
def tw15117471060941156290:=0
def tw15758607927005048331:=0
def tw16588312458951804968:=0
def tw3857013243252801638:=0
def tw15525071862906972459:=0
def tw9083533081653993158:=0
def tw1103182200055270722:=0
def tw953486434585729875:=0
def tw3022188629502880649:=0
def tw18021109838236449869:=0
def tw8477073607883762842:=0
def tw13089962556240209126:=0
def tw11161975429471621866:=0
def tw1927803035876853100:=0
def tw12634179171975128285:=0
def tw10478995496177840561:=0
def tw8123011473528446428:=0
def tw14173819692549907658:=0
def tw15334589300392717474:=0
def tw18169016086566594928:=0
def tw16775672689262675832:=0
def tw11803949036717417649:=0
def tw1441431046858527588:=0
def tw11854644934917187774:=0
def tw1650974629896424385:=0
def tw9108861522553941245:=0
def tw4329351314898964890:=0
def tw7901229101983902137:=0
def tw2378591822658295905:=0
def tw4959588233409461434:=0
def tw17644616687632172156:=0
def tw5628174070132025425:=0
def tw11151366466114570077:=0
def tw11246450796251300472:=0
def tw3312748601898790396:=0
def tw10828228265166315291:=0
def tw6446782821304249312:=0
def tw13432282987668757913:=0
def tw10629853367408512041:=0
def tw2592672239984536865:=0
def tw7039479605525663477:=0
def tw11155180903707928623:=0
def tw1895698969411705148:=0
def tw7186015810716263708:=0
def tw12579060497758776502:=0
def tw2741159807153470811:=0
def tw6139079899798120985:=0
def tw1310281329778302728:=0
def tw3080332952583730037:=0
def tw9742378435565708614:=0
def tw17309037039143171580:=0
def tw9636586092764361296:=0
def tw6564179243867367016:=0
def tw706903294703241521:=0
def tw2766987630966090766:=0
def tw6856410848078744501:=0
def tw9393717136370821705:=0
def tw5995854602570228270:=0
def tw4392780669277747389:=0
def tw9811470751991513507:=0
def tw13805365681285343945:=0
def tw13765531362900912863:=0
def tw7605100422145508273:=0
def tw1295790761550928268:=0
def tw13854110199663994106:=0
def tw11370129866702301414:=0
def tw7914002291267685318:=0
def tw4233293919915761640:=0
def tw7208952188779557705:=0
def tw12330544996068340430:=0
def tw2821412297557624791:=0
def tw3039843561881947464:=0
def tw2230470135989644060:=0
def tw4879267304519701544:=0
def tw4003012556388907905:=0
def tw15687051351756429535:=0
def tw1378983603026501756:=0
def tw14020905062501065993:=0
def tw17128509438322902664:=0
def tw8544672447769906675:=0
def tw635250486842777344:=0
def tw5556421247700962444:=0
def tw16928032831570154287:=0
def tw16107099633142345003:=0
def tw8498403159244435638:=0
def tw12903281041421593955:=0
def tw7317889566223394655:=0
def tw10375722496100895401:=0
def tw4656459182137874832:=0
def tw12903624809262305590:=0
def tw3219801251682453786:=0
def tw10879215651360053183:=0
def tw15728927973783426927:=0
def tw2758688163909520572:=0
def tw10962481626291909178:=0
def tw2132195321574742602:=0
def tw17588570603072944311:=0
def tw3165478797269274864:=0
def tw17059159443151132073:=0
def tw1571309685328213668:=0
def tw14081969236677538011:=0
def tw2753764194803749158:=0
def tw8742057900065863345:=0
def tw18329456991494206361:=0
def tw1720319936820977623:=0
def tw13594729299131839538:=0
def tw302461953495912185:=0
def tw1601949501124212384:=0
def tw4744517374758030230:=0
def tw3513704935742042613:=0
def tw13979253055190459666:=0
def tw14210641636619825256:=0
def tw11777221242919162174:=0
def tw4191785480681037533:=0
def tw10695682260074018835:=0
def tw17544965016376226665:=0
def tw10868544056479761176:=0
def tw8875126984027388748:=0
def tw7557029660723624123:=0
def tw6834405007185429720:=0
def tw9600569744236472896:=0
def tw392147077645815277:=0
def tw2987453310400347331:=0
def tw6218998370773899841:=0
def tw3568876643640093536:=0
def tw14233795178375571744:=0
def tw17523093884951092382:=0
def tw664136097446932804:=0
def tw7488497367967723811:=0
def tw1035707126446433302:=0
def tw8479552176339054921:=0
def tw718888801808710662:=0
def tw11402824945098182491:=0
def tw6678792828422948875:=0
def tw2708111044475270056:=0
def tw14691314269248464872:=0
def tw6944819157296919907:=0
def tw3537600693089319393:=0
def tw12786088106277355959:=0
def tw633468970059538229:=0
def tw12135522856059789168:=0
def tw5776448601417977499:=0
def tw148104986769836288:=0
def tw14256485395241972221:=0
def tw6163025963771994846:=0
def tw859134583340637677:=0
def tw7035708809948213082:=0
def tw13341721630803009006:=0
def tw8912030024620060790:=0
def tw7994078469626224045:=0
def tw3057123457830461134:=0
def tw10793963345604595655:=0
def tw3214470373335400627:=0
def tw1884839749323907920:=0
def tw13810411950390777867:=0
def tw9543540646341000424:=0
def tw6000563305542679452:=0
def tw1671673033860217576:=0
def tw15565259205247789284:=0
def tw10004484617536302344:=0
def tw8285027878949742352:=0
def tw8160126087601015606:=0
def tw4914857869277502826:=0
def tw17865102379251991698:=0
def tw14886072769033158097:=0
def tw15089749495209766186:=0
def tw886479349155146776:=0
def tw4863370217600494929:=0
def tw10179885476759477239:=0
def tw9576002342505972590:=0
def tw589286860824753731:=0
def tw4982815869953878861:=0
def tw3798828414970534514:=0
def tw18046756858967126491:=0
def tw15691566767881777416:=0
def tw13052328631422542267:=0
def tw5779961768966043418:=0
def tw179450126498938118:=0
def tw11691864610589698554:=0
def tw1082567410410232311:=0
def tw7145173878307136326:=0
def tw6813398262776132865:=0
def tw17510254550403737860:=0
def tw12511235802326155254:=0
def tw5552793254999899033:=0
def tw13081267666649808181:=0
def tw8470645523657917279:=0
def tw8314413750814713555:=0
def tw7587389102653560184:=0
def tw18168087892692215473:=0
def tw13947050921699645587:=0
def tw17263493071982170557:=0
def tw15663255983073866701:=0
def tw14027170494652896660:=0
def tw13061485397965969552:=0
def tw1566696038225923471:=0
def tw1326350798851959:=0
def tw5853014319426584635:=0
def tw1391360930292353678:=0
def tw13898372326693185728:=0
def tw13133579212485117234:=0
def tw4981707523617895699:=0
def tw2128053427546148800:=0
def tw2807005536255521534:=0
def tw15110441368038138573:=0
def tw7737472695289057552:=0
def tw1637841427257998858:=0
def tw8662326845440093032:=0
def tw15048746688973577881:=0
def tw8640830945285448019:=0
def tw2791852929838838816:=0
def tw17826307540252759710:=0
def tw7073754909894738428:=0
def tw14129700176499318932:=0
def tw9606313587874558851:=0
def tw9968969341377376986:=0
def tw17714128642628014556:=0
def tw6730021572310751586:=0
def tw4179389705453773366:=0
def tw15380191872933919665:=0
def tw13206510540735675045:=0
def tw17796513815944648185:=0
def tw12769443936346787622:=0
def tw6646676073492036466:=0
def tw3779198502508841521:=0
def tw8327196274723448889:=0
def tw8735467455884643775:=0
def tw15319703143846834161:=0
def tw1178426718593264543:=0
def tw13301689080365535461:=0
def tw2745013867493312669:=0
def tw7710553141006625142:=0
def tw6455696996215519043:=0
def tw8165144676031874517:=0
def tw5634984372479340491:=0
def tw534684756943050185:=0
def tw51401364263492622:=0
def tw6746923979131607414:=0
def tw11853473049634014581:=0
def tw2851623307782216450:=0
def tw9111873559072946341:=0
def tw7287552651096628772:=0
def tw4482500834413336138:=0
def tw370411249814515708:=0
def tw11978802669934221053:=0
def tw2796682950261393789:=0
def tw11297114311378838151:=0
def tw6990703810558522044:=0
def tw2651229694791696242:=0
def tw9083277912477053152:=0
def tw6900437422182233361:=0
def tw7964706841833460211:=0
def tw7756155701754171948:=0
def tw7323999231790538112:=0
def tw6129856482815124411:=0
def tw5906908018366486756:=0
def tw6818186492302937982:=0
def tw13090689170352792366:=0
def tw11661452881782952057:=0
def tw10401935037326811787:=0
def tw5067277624362333430:=0
def tw16880385446480592721:=0
def tw12277675227860205128:=0
def tw11474868039637249685:=0
def tw16881361709873599349:=0
def tw10847860298515983800:=0
def tw5372122173068105829:=0
def tw16804880754410146831:=0
def tw13657463134742556798:=0
def tw4246286022267988973:=0
def tw16683149066248356102:=0
def tw13967880832332945221:=0
def tw1254907780204623931:=0
def tw9818825242017632617:=0
def tw9806815967140301492:=0
def tw9759325042000865861:=0
def tw9664327931677914152:=0
def tw9466504764824395632:=0
def tw9458538817929391008:=0
def tw9350008949669547033:=0
def tw9296925090322856863:=0
def tw8994300881678962119:=0
def tw8881113927968031687:=0
def tw8814987896636183713:=0
def tw8798293876025465364:=0
def tw8761982534666449764:=0
def tw8675661081285735775:=0
def tw8443138596596303659:=0
def tw8385641128222068090:=0
def tw8326041485593621782:=0
def tw829111937672988378:=0
def tw8005974426755285571:=0
def tw7989426324960390935:=0
def tw7975565001023457409:=0
def tw7717676509933987530:=0
def tw7636179445484994202:=0
def tw7628129002539256792:=0
def tw7565121143235182894:=0
def tw7507520743702885439:=0
def tw7500762989154391436:=0
def tw7425174029825186149:=0
def tw7368293274048375281:=0
def tw699170745337873465:=0
def tw6932632346886020079:=0
def tw6816019049943673492:=0
def tw6570773714868754159:=0
def tw6167868984691729193:=0
def tw6044614217876363370:=0
def tw5559566372289433309:=0
def tw5258498993168931703:=0
def tw512621335113397950:=0
def tw502333649935750231:=0
def tw497106925837756854:=0
def tw4913159367769159598:=0
def tw4727665921074252317:=0
def tw4636790565548742699:=0
def tw4629464310377313813:=0
def tw4320712365027400989:=0
def tw424307058341325488:=0
def tw4089540219101070908:=0
def tw4034913318027509439:=0
def tw3817158866995467387:=0
def tw3645791207688608902:=0
def tw3433046759935890564:=0
def tw3087702419802311775:=0
def tw2979187753567375793:=0
def tw2893768450309801091:=0
def tw2749922507790244163:=0
def tw2686123948127302749:=0
def tw2558253115234954479:=0
def tw2544086983599029621:=0
def tw2337498154511241872:=0
def tw2187819697173221285:=0
def tw2167620468992128521:=0
def tw2082195010084978903:=0
def tw18200483251967625005:=0
def tw18117036450105599839:=0
def tw18014734419158880160:=0
def tw17919289490680482936:=0
def tw17808483083456131896:=0
def tw17725110392207451852:=0
def tw17356113356071045491:=0
def tw17344235444153607816:=0
def tw1713776749291262352:=0
def tw17080259369070174024:=0
def tw16961827115003614007:=0
def tw16827212954911918606:=0
def tw16688592859144632597:=0
def tw16641925875546653119:=0
def tw16590156639532289408:=0
def tw16434093550672632939:=0
def tw16207575440778422661:=0
def tw16184902785744927291:=0
def tw16030957408741604749:=0
def tw15989225033096328670:=0
def tw15774262767143945995:=0
def tw15749045710544469133:=0
def tw15551260450464542468:=0
def tw15417091563849334861:=0
def tw15384151502987806003:=0
def tw15314338226427565161:=0
def tw15289308371205636281:=0
def tw15209872207866217758:=0
def tw1515462739978776554:=0
def tw1511879231277484048:=0
def tw14949795400430460993:=0
def tw14749985239724089595:=0
def tw14696734478880802409:=0
def tw14503102483446383107:=0
def tw14397757352308604519:=0
def tw14396316599403674807:=0
def tw14307070623610513437:=0
def tw14107391508086840462:=0
def tw13976802132822296057:=0
def tw13616698928808328312:=0
def tw13565376306987617206:=0
def tw13439981163866271339:=0
def tw13402020861973048734:=0
def tw13311982984032447791:=0
def tw13000669103922807146:=0
def tw1279944195399138174:=0
def tw12720400992281972215:=0
def tw12684190346085444584:=0
def tw12649350308790372208:=0
def tw12604381220378347130:=0
def tw12415772250408579252:=0
def tw12333146917759337688:=0
def tw12246117309576886362:=0
def tw12137997581123491361:=0
def tw11992913449706677826:=0
def tw11679809395387838203:=0
def tw11514970487250305471:=0
def tw11117653095153959324:=0
def tw11056214101117574248:=0
def tw10960949017264418893:=0
def tw10921476791237483860:=0
def tw1086839310010256258:=0
def tw10735065066214021913:=0
def tw10563246517465519311:=0
def tw10321752152475526872:=0
def tw10186611396380425378:=0
def tw10156503905909166033:=0
def tw10024681531977198575:=0
def tw10023774051646608793:=0
end PySem.W.Fast
theorem jA10(h:True:=by rfl):True:=h
def jA1:=jA10._auto_1
theorem jB10(h:True:=by decide):True:=h
def jB1:=jB10._auto_1
theorem jC10(h:True:=by intro _;rfl):True:=h
def jC1:=jC10._auto_1
theorem jD10(h:True:=by first | exact .inl rfl | exact .inr rfl | assumption):True:=h
def jD1:=jD10._auto_1
noncomputable section
section
set_option hygiene false
abbrev WvP:=PySem.Value->PySem.Shared->Prop
abbrev WmP:=PySem.Str->Option PySem.Value
set_option hygiene true
def wc:=@PySem.wpAny_bind
def we:=@List.length_map
def wf:=@PySem.Heap.get?_push_of_some
def wg:=@PySem.wpAny_pure
def wj:=@List.mem_map
def wm:=@List.mem_cons
def wn:=@PySem.Heap.get?_push_size
def wo:=@List.mem_singleton
def wp:=@List.mem_cons_of_mem
def wq:=@Nat.le_refl
def wt:=@List.getElem?_eq_getElem
def wu:=@PySem.Heap.lt_size
def wv:=@List.getElem?_eq_some_iff
def ww:=@List.mem_cons_self
def wz:=@List.not_mem_nil
def wA:=@List.map_append
def wB:=@List.getElem?_set_ne
def wC:=@List.length_append
def wD:=@List.mem_of_getElem?
def wE:=@decide_eq_true
def wF:=@Nat.lt_of_lt_of_le
def wG:=@List.mem_append
def wH:=@List.getElem?_append_left
def wI:=@Nat.ne_of_lt
def wJ:=@List.map_map
def wK:=@List.getElem?_set_self
def wL:=@List.map_cons
def wM:=@Nat.le_trans
def wN:=@Nat.lt_or_ge
def wO:=@List.getElem?_map
def wP:=@PySem.wpAny_newObj_type
def wQ:=@List.length_cons
def wR:=@PySem.Heap.get?_update_other
def wS:=@List.pairwise_map
def wT:=@List.mem_iff_getElem
def wU:=@List.getElem?_append_right
def wV:=@Int.mul_nonneg
def wW:=@PySem.Heap.get?_update_self
def wX:=@Bool.false_ne_true
def wY:=@List.pairwise_cons
def wZ:=@Int.mul_eq_zero
def w5:=@Bool.and_eq_true
def w6:=@Nat.mod_eq_of_lt
def w9:=@decide_eq_false
def vd:=@List.size_toArray
def ve:=@List.length_pos_iff
def vf:=@Int.mul_nonpos_of_nonneg_of_nonpos
def vh:=@Option.some.inj
def vi:=@Bool.false_eq_true
def vj:=@Int.eq_of_mul_eq_mul_right
def vk:=@PySem.Around.under_plainId
def vm:=@PySem.wpAny_callSpecial?_slot
def vn:=@Nat.zero_le
def vp:=@List.sum_cons
def vq:=@Int.le_of_lt
def vz:=@List.append_assoc
def vA:=@PySem.wpAny_call_entry
def vB:=@Nat.lt_irrefl
def vC:=@Int.mul_nonpos_of_nonpos_of_nonneg
def vD:=@Int.mul_pos
def vE:=@List.mem_append_right
def vF:=@PySem.Obj.data_mapFields
def vG:=@Ne.symm
def vH:=@PySem.wpAny_field
def vI:=@List.pairwise_iff_getElem
def vJ:=@PySem.wpAny_mono
def vK:=@or_false
def vL:=@List.take_of_length_le
def vN:=@Int.mul_comm
def vO:=@List.nodup_cons
def vP:=@PyProof.Rows.slot_tuple_getitem
def vQ:=@PySem.wpAny_setState_of
def vR:=@Int.mul_le_mul_of_nonneg_right
def vS:=@PySem.wpAny_holding
def vT:=@List.map_congr_left
def vU:=@PySem.W.kia_one
def vV:=@List.append_nil
def vW:=@List.lookup_cons
def vX:=@PySem.codeAny_builtin
def vY:=@PySem.Heap.size_push
def vZ:=@Classical.byContradiction
def v3:=@PySem.wpAny_seqItems
def v4:=@List.length_singleton
def v5:=@List.getElem?_eq_none
def v6:=@Int.lt_or_le
def v7:=@Nat.lt_succ_of_lt
def v8:=@List.length_range
def v9:=@PySem.plainId_quiet
def ua:=@List.pairwise_append
def ub:=@List.mem_range
def uc:=@List.length_nil
def ud:=@Int.natAbs_mul
def ue:=@Array.getElem?_eq_getElem
def uf:=@List.length_take
def ug:=@Array.length_toList
def uh:=@PySem.Heap.SameBut.update
def ui:=@PySem.wpAny_of_eq
def uj:=@of_decide_eq_true
def uk:=@Array.getElem?_toList
def ul:=@Nat.add_mod_right
def um:=@List.length_eq_zero_iff
def uo:=@Prod.ext
def uq:=@List.getD_eq_getElem?_getD
def ur:=@Option.map_eq_some_iff
def uv:=@List.filterMap_cons
def uw:=@List.reverse_cons
def ux:=@Nat.lt_trichotomy
def uy:=@List.mem_map_of_mem
def uz:=@List.of_mem_zip
def uA:=@List.length_replicate
def uB:=@Int.natAbs_dvd_natAbs
def uC:=@PySem.wpAny_specialOf
def uD:=@Int.add_zero
def uE:=@List.mem_filterMap
def uF:=@Int.mul_ediv_cancel_left
def uG:=@Nat.lt_succ_self
def uH:=@List.mem_of_mem_take
def uI:=@Int.mul_assoc
def uJ:=@List.getElem?_cons_succ
def uK:=@Array.getD_eq_getD_getElem?
def uL:=@PySem.wpAny_updateSeq
def uM:=@List.sum_append
def uN:=@PySem.Calls.callWith_builtin
def uO:=@Int.mul_nonneg_of_nonpos_of_nonpos
def uP:=@PySem.F.slot_tuple_iterator_next
def uQ:=@List.length_drop
def uR:=@PySem.wpAny_isInstance
def uS:=@PySem.F.plain_max_loop
def uT:=@List.zip_cons_cons
def uU:=@PySem.wpAny_pyIter_tuple
def uV:=@List.take_append_drop
def uW:=@PySem.Obj.isFreed_of_fields
def uX:=@PySem.wpAny_setField_rec
def uY:=@Nat.eq_of_mul_eq_mul_left
def uZ:=@List.drop_eq_getElem_cons
def u3:=@PySem.wpAny_setField
def u4:=@List.pairwise_of_forall_mem_list
def u5:=@Int.mul_ediv_cancel'
def u6:=@PySem.wpAny_passesOwn
def u7:=@PySem.wpAny_loadPart'
def u8:=@List.length_zip
def u9:=@List.takeWhile_append_dropWhile
def ja:=@decide_eq_true_eq
def jb:=@List.find?_cons
def jc:=@Nat.le_of_lt
def jd:=@PySem.wpAny_typeOf
def je:=@List.map_nil
def jf:=@PySem.mem_of_lookup
def jg:=@List.getElem?_replicate
def jh:=@if_false
def ji:=@Nat.dvd_trans
def jk:=@PySem.F.plainAttrs_list
def jl:=@List.getLast?_cons_cons
def jm:=@PyProof.Rows.F.plain_set_update_loop
def jn:=@PySem.wpAny_attempt
def jo:=@PySem.wpAny_forIn_list
def jp:=@List.getElem_mem
def jq:=@Nat.mod_lt
def jr:=@List.append_eq_nil_iff
def jt:=@Nat.lt_of_le_of_lt
def ju:=@Int.lt_or_eq_of_le
def jv:=@Int.emod_lt_of_pos
def jw:=@Nat.ne_of_gt
def jx:=@PyProof.Rows.callWith_type1
def jy:=@Int.le_refl
def jz:=@Int.zero_mul
def jA:=@Nat.not_lt_zero
def jB:=@PySem.F.called_set
def jC:=@List.Perm.append_left
def jD:=@Int.mul_lt_mul_of_pos_right
def jE:=@List.sum_nil
def jF:=@Int.gcd_dvd_right
def jG:=@Int.dvd_trans
def jH:=@List.ext_getElem?
def jI:=@PySem.Heap.get?_push_ne
def jJ:=@List.mem_append_left
def jK:=@Nat.pow_le_pow_right
def jL:=@Bool.and_false
def jM:=@List.append_eq_append_iff
def jN:=@Int.gcd_dvd_left
def jO:=@List.all_eq_true
def jP:=@List.map_reverse
def jQ:=@List.perm_middle
def jR:=@PySem.wpAny_askSetting
def jS:=@if_true
def jT:=@PySem.wpAny_letGo
def jU:=@List.length_reverse
def jV:=@List.getElem_of_mem
def jW:=@Nat.gcd_comm
def jX:=@PySem.wpAny_rule
def jY:=@getElem?_pos
def jZ:=@Bool.eq_iff_iff
def j0:=@PySem.wpAny_Call_Name_kw
def j1:=@Int.natAbs_natCast
def j2:=@PySem.W.KasT.kasWp_bind
def j3:=@Int.emod_nonneg
def j4:=@PySem.W.mg_none_of
def j5:=@Nat.dvd_gcd
def j6:=@PySem.codeAny_mono
set_option Elab.async false
set_option linter.all false
set_option maxRecDepth 100000
namespace L2
open PySem PySem.Spec PyProof.Rows
abbrev Key:=Sum Int Str
def z96:Key->Value->Bool
 | .inl k,v=>Value.isInt k v
 | .inr x,v=>Value.isStrOf x v
def keyH (w:World):Key->Int
 | .inl k=>hashInt k
 | .inr x=>hashStr w x
def z0K:∀{k:Key}{v:Value},z96 k v=true->(∃i t,k=Sum.inl i/\v=Value.int i t)\/(∃x t,k=Sum.inr x/\v=Value.str x t)
 | .inl i,v,h=>by
  obtain⟨t,e⟩:=Value.isInt_shape h;exact .inl ⟨i,t,rfl,e⟩
 | .inr x,v,h=>by
  obtain⟨t,e⟩:=Value.isStrOf_shape h;exact .inr ⟨x,t,rfl,e⟩
def zcf (i:Int)(t:Tok):z96 (.inl i) (.int i t)=true:=by simp[z96,Value.isInt]
def zce (x:Str)(t:Tok):z96 (.inr x) (.str x t)=true:=by simp[z96,Value.isStrOf]
def zkG (a b:Int):decide ((Sum.inl a:Key)=Sum.inl b)=(a == b):=by
 grind
def zkD (a b:Str):decide ((Sum.inr a:Key)=Sum.inr b)=decide (a=b):=by
 grind
def zkF (a:Int)(b:Str):decide ((Sum.inl a:Key)=Sum.inr b)=false:=w9 (λq=>nomatch q)
def zkE (a:Str)(b:Int):decide ((Sum.inr a:Key)=Sum.inl b)=false:=w9 (λq=>nomatch q)
def z0V (prog:Program)(w:World):PySem.KeyKind prog w Key where
 is:=z96
 hash:=keyH w
 inj:=λv a b l g=>by
  rcases z0K l with ⟨i,t,rfl,rfl⟩ | ⟨x,t,rfl,rfl⟩
  .rcases z0K g with ⟨j,u,rfl,e⟩ | ⟨y,u,rfl,e⟩
   .injection e with d _;rw[d]
   .exact nomatch e
  .rcases z0K g with ⟨j,u,rfl,e⟩ | ⟨y,u,rfl,e⟩
   .exact nomatch e
   .injection e with d _;rw[d]
 byValue:=λk v h=>by
  rcases z0K h with ⟨i,t,rfl,rfl⟩ | ⟨x,t,rfl,rfl⟩ <;> rfl
 pyHash:=λf h=>by
  rcases z0K f with ⟨i,t,rfl,rfl⟩ | ⟨x,t,rfl,rfl⟩
  .exact wpAny_pyHash_int h
  .exact wpAny_pyHash_str h
 eqBool:=λm f h=>by
  rcases z0K m with ⟨i,t,rfl,rfl⟩ | ⟨x,t,rfl,rfl⟩
  .rcases z0K f with ⟨j,u,rfl,rfl⟩ | ⟨y,u,rfl,rfl⟩
   .rw[zkG] at h;exact wpAny_eqBool_int h
   .rw[zkF] at h;exact SeqAt.EqAt.int_str i t y u _ _ _ _ h
  .rcases z0K f with ⟨j,u,rfl,rfl⟩ | ⟨y,u,rfl,rfl⟩
   .rw[zkE] at h;exact SeqAt.EqAt.str_int x t j u _ _ _ _ h
   .rw[zkD] at h;exact wpAny_eqBool_str h
 «strs»:=λk x t v h=>by
  rcases z0K h with ⟨i,u,rfl,e⟩ | ⟨y,u,rfl,e⟩
  .exact nomatch e
  .injection e with d _
   subst d
   cases v <;> rfl
def zaD (prog:Program)(w:World)(k:Key)(v:Value):(z0V prog w).is k v=z96 k v:=rfl
def z92 (prog:Program)(w:World)(i:Int)(t:Tok):(z0V prog w).is (.inl i) (.int i t)=true:=zcf i t
def z91 (prog:Program)(w:World)(x:Str)(t:Tok):(z0V prog w).is (.inr x) (.str x t)=true:=zce x t
inductive V where
 | non | bl (b:Bool) | int (i:Int) | str (x:Str) | byt (b:Array UInt8) | flt (b:UInt64) | ref (a:Addr) | ty (n:String)
 deriving DecidableEq
def RelV:V->Value->Prop
 | .non,u=>u=Value.none
 | .bl b,u=>u=Value.bool b
 | .int i,u=>∃t,u=Value.int i t
 | .str x,u=>∃t,u=Value.str x t
 | .byt b,u=>∃t,u=Value.bytes b t
 | .flt b,u=>∃t,u=Value.float b t
 | .ref a,u=>u=Value.ref a
 | .ty n,u=>u=Value.type n
abbrev Vals:List V->List Value->Prop:=Paired RelV
theorem Vals.length {xs:List V}{a:List Value}(r:Vals xs a):xs.length=a.length:=Paired.length r
theorem Vals.get:∀{xs:List V}{a:List Value}{i:Nat}{x:V},Vals xs a->xs[i]? = some x->∃u,a[i]? = some u/\RelV x u
 | _,_,_,_,.nil,e=>by simp at e
 | _,_,0,_,.cons r _,e=>by simp at e;subst e;exact⟨_,rfl,r⟩
 | _,_,i+1,x,.cons _ t,e=>by
  obtain⟨u,b,d⟩:=Vals.get t (by simpa using e);exact⟨u,by simpa using b,d⟩
theorem Vals.set {x:V}{u:Value}(r:RelV x u):∀{xs:List V}{a:List Value}(i:Nat),Vals xs a->Vals (xs.set i x) (a.set i u)
 | _,_,_,.nil =>.nil
 | _,_,0,.cons _ t =>.cons r t
 | _,_,i+1,.cons q t =>.cons q (Vals.set r i t)
theorem Vals.append:∀{xs b:List V}{a ws:List Value},Vals xs a->Vals b ws->Vals (xs++b) (a++ws)
 | _,_,_,_,.nil,s=>s
 | _,_,_,_,.cons r t,s =>.cons r (Vals.append t s)
theorem Vals.take:∀{xs:List V}{a:List Value}(n:Nat),Vals xs a->Vals (xs.take n) (a.take n)
 | _,_,0,_ =>.nil
 | _,_,_+1,.nil =>.nil
 | _,_,n+1,.cons r t =>.cons r (Vals.take n t)
theorem Vals.drop:∀{xs:List V}{a:List Value}(n:Nat),Vals xs a->Vals (xs.drop n) (a.drop n)
 | _,_,0,r=>r
 | _,_,_+1,.nil =>.nil
 | _,_,n+1,.cons _ t=>Vals.drop n t
def RelO:Option V->Option Value->Prop
 | some v,some u=>RelV v u
 | none,none=>True
 | _,_=>False
def KV {κ:Type}:List (κ × V)->List (κ × Value)->Prop:=Paired λ(p:κ × V) (q:κ × Value)=>p.1=q.1/\RelV p.2 q.2
def kV:Key->V
 | .inl i =>.int i
 | .inr x =>.str x
inductive HO where
 | lst (xs:List V)
 | tup (xs:List V)
 | dK (kvs:List (Key × V)) | dT (kvs:List (List Key × V))
 | set (S:Int->Bool) (n:Nat)
 | ins (C dx:Addr) (fs:List (Str × V))
 | own (x:Addr)
 | xd (fs:List (Str × V))
 | met (f x:Addr)
 | rng (lo hi:Int)
 | frz (o:Obj) (u:HO)
 | tbl (ps:Array Value)
 | ext (φ:Heap->Prop)
abbrev Hp:=Addr->Option HO
def upd (H:Hp)(a:Addr)(o:HO):Hp:=λb=>if b=a then some o else H b
def z06 {H:Hp}{a:Addr}{o:HO}:upd H a o a=some o:=by unfold upd;rw[if_pos rfl]
def z05 {H:Hp}{a b:Addr}{o:HO}(h:b≠a):upd H a o b=H b:=by unfold upd;rw[if_neg h]
def zmk {H:Hp}{a b:Addr}{o u:HO}(h:H a=some o)(f:H b=some u)(d:o≠u):a≠b:=by
 intro e;simp_all
def z0G {H:Hp}{a b:Addr}{o:HO}(h:H a=some o)(d:H b=none):a≠b:=by
 grind
def NoD (h:Heap)(a:Addr):Prop:=∃o,h.get? a=some o/\o.dict=none
def zmN (H:Hp)(h:Heap)(a:Addr)(ps:Array Value):Prop:=h.get? a=some { cls :=.none,data :=.fields #[] }\/
 ∃(l c:Value) (q:Str) (t:Tok) (b:Addr) (o:Obj) (vs:Array Value) (u:Tok),ps[0]? = some l/\ps[1]? = some c/\ps[2]? = some (.str q t)/\h.get? a=some { cls :=.none,data :=.fields #[l,c,.ref b] }/\H b=some (.frz o (.own b))/\o.data = .fields vs/\vs[1]? = some (.str q u)
section
variable (P:Program)(w:World)
def z1i (H:Hp)(h:Heap)(a:Addr):HO->Prop
 | .lst e=>e.length<=sizeLine/\∃(b:List Value) (n:Nat),Vals e b/\h.get? a=some { cls :=.type "list",data :=.seq b.toArray n }
 | .tup e=>e.length<=sizeLine/\∃b:List Value,Vals e b/\IsTup h a b.toArray/\NoD h a
 | .dK d=>d.length<=sizeLine/\(a == sysModules)=false/\∃vs,KV d vs/\h.DictOf (z0V P w) a vs
 | .dT d=>d.length<=sizeLine/\(a == sysModules)=false/\∃e:List (List Key × Addr × Value),
   Paired (λ(p:List Key × V) (q:List Key × Addr × Value)=>p.1=q.1/\H q.2.1=some (.tup (p.1.map kV))/\RelV p.2 q.2.2) d e/\
   ∃o l s,h.get? a=some o/\o.ExactDict/\o.data = .dict l s/\l.toList=e.map (entryOfKey (tupleKind (z0V P w)))/\(e.map (·.1)).Nodup
 | .set S n=>h.SetOf (intKind P w) a S n
 | .ins C i fs=>H i=some (.own a)/\fs.length<=1000/\i≠a/\h.get? a=some (W.instObj C i)/\
   ∃g,h.Ns1 i g/\(∀f,RelO (fs.lookup f) (g f))/\PySem.Within g (fs.map (·.1))
 | .own _=>∃o,h.get? a=some o
 | .xd fs=>∃g,h.Ns1 a g/\∀f,RelO (fs.lookup f) (g f)
 | .rng z y=>∃t u v,h.get? a=some { cls :=.type "range",data :=.fields #[.int z t,.int y u,.int 1 v] }
 | .frz o u=>h.get? a=some o/\z1i H h a u
 | .tbl ps=>zmN H h a ps
 | .met f x=>h.get? a=some (W.methodObj (.ref f) (.ref x))
 | .ext j=>j h/\(∃o,h.get? a=some o)/\∀m r:Heap,j m->(∀o,m.get? a=some o->r.get? a=some o)->j r
def HOk (H:Hp)(h:Heap):Prop:=∀a o,H a=some o->z1i P w H h a o
end
section
variable {P:Program}{w:World}{H H':Hp}{h h':Heap}{a:Addr}{o:HO}
theorem z1i.lt (x:z1i P w H h a o):a<h.objs.size:=by
 cases o with
 | lst d=>obtain⟨_,_,_,_,e⟩:=x;exact wu e
 | tup d=>obtain⟨_,_,_,p,_⟩:=x;exact p.lt
 | dK b=>obtain⟨_,_,_,_,o,_,_,e,_⟩:=x;exact wu e
 | dT b=>obtain⟨_,_,_,_,o,_,_,e,_⟩:=x;exact wu e
 | set S n=>obtain⟨o,_,_,_,e,_⟩:=x;exact wu e
 | ins C g fs=>obtain⟨_,_,_,e,_⟩:=x;exact wu e
 | own y=>obtain⟨_,e⟩:=x;exact wu e
 | xd fs=>obtain⟨_,⟨_,_,_,e,_⟩,_⟩:=x;exact wu e
 | rng j i=>obtain⟨_,_,_,e⟩:=x;exact wu e
 | frz l u=>obtain⟨e,_⟩:=x;exact wu e
 | tbl ps=>rcases x with e | ⟨_,_,_,_,_,_,_,_,_,_,_,e,_⟩ <;> exact wu e
 | met f y=>exact wu (x)
 | ext m=>obtain⟨_,⟨_,e⟩,_⟩:=x;exact wu e
theorem Paired.mapP {d e:Type}{F G:d->e->Prop}:∀{l₁:List d} {l₂:List e},Paired F l₁ l₂->(∀a b,F a b->G a b)->Paired G l₁ l₂
 | _,_,.nil,_ =>.nil
 | _,_,.cons r t,f =>.cons (f _ _ r) (Paired.mapP t f)
def z1i.stay (x:z1i P w H h a o)(k:∀b u,(b=a\/H b=some (.own a))->h.get? b=some u->h'.get? b=some u)
  (Q:∀b,H b=some (.own a)->H' b=some (.own a)) (R:∀b xs,H b=some (.tup xs)->H' b=some (.tup xs)) (O:∀b o c,H b=some (.frz o (.own c))->H' b=some (.frz o (.own c)):=by first | exact λ_ _ _ q=>q | exact λc _ _ q=>by rw[z05 (z0G q (by assumption))];exact q):z1i P w H' h' a o:=by
 induction o with
 | lst xs=>obtain⟨z,m,n,r,e⟩:=x;exact⟨z,m,n,r,k _ _ (.inl rfl) e⟩
 | tup xs=>obtain⟨z,m,r,⟨g,e,c⟩,s,N,J⟩:=x;exact⟨z,m,r,⟨g,k _ _ (.inl rfl) e,c⟩,s,k _ _ (.inl rfl) N,J⟩
 | dK E=>obtain⟨z,y,vs,r,g,j,i,e,c⟩:=x;exact⟨z,y,vs,r,g,j,i,k _ _ (.inl rfl) e,c⟩
 | dT E=>
  obtain⟨z,y,xs,r,g,j,i,e,c⟩:=x;exact⟨z,y,xs,Paired.mapP r λp q z=>⟨z.1,R _ _ z.2.1,z.2.2⟩,g,j,i,k _ _ (.inl rfl) e,c⟩
 | set S n=>obtain⟨g,j,i,t,e,c⟩:=x;exact⟨g,j,i,t,k _ _ (.inl rfl) e,c⟩
 | ins C U fs=>
  obtain⟨d,z,ne,e,F,⟨s,j,i,A,c⟩,r⟩:=x;exact⟨Q _ d,z,ne,k _ _ (.inl rfl) e,F,⟨s,j,i,k _ _ (.inr d) A,c⟩,r⟩
 | own y=>obtain⟨g,e⟩:=x;exact⟨g,k _ _ (.inl rfl) e⟩
 | xd fs=>obtain⟨F,⟨s,j,i,e,c⟩,r⟩:=x;exact⟨F,⟨s,j,i,k _ _ (.inl rfl) e,c⟩,r⟩
 | rng Y X=>obtain⟨t,u,v,e⟩:=x;exact⟨t,u,v,k _ _ (.inl rfl) e⟩
 | frz g u T=>obtain⟨e,q⟩:=x;exact⟨k _ _ (.inl rfl) e,T q⟩
 | tbl ps=>
  rcases x with e | ⟨l,c,q,t,I,g,vs,u,K,A,L,e,M,r⟩
  .exact .inl (k a _ (.inl rfl) e)
  .exact .inr ⟨l,c,q,t,I,g,vs,u,K,A,L,k a _ (.inl rfl) e,O _ _ _ M,r⟩
 | met f y=>
  have e:h.get? a=some (W.methodObj (.ref f) (.ref y)):=x;show h'.get? a=some (W.methodObj (.ref f) (.ref y));exact k a _ (.inl rfl) e
 | ext Z=>obtain⟨p,⟨o,e⟩,G⟩:=x;exact⟨G _ _ p λo q=>k _ _ (.inl rfl) q,⟨o,k _ _ (.inl rfl) e⟩,G⟩
theorem HOk.lt (x:HOk P w H h)(e:H a=some o):a<h.objs.size:=(x a o e).lt
def HOk.fresh (x:HOk P w H h)(e:h.objs.size<=a):H a=none:=by
 cases q:H a with
 | none=>rfl
 | some u=>exact absurd (wF (x.lt q) e) (vB _)
def HOk.kept (x:HOk P w H h)(k:∀b u,h.get? b=some u->h'.get? b=some u):HOk P w H h':=λa o e=>
 (x a o e).stay (λb u _ q=>k b u q) (λ_ q=>q) λ_ _ q=>q
def HOk.laid (x:HOk P w H h)(k:∀b u,h.get? b=some u->h'.get? b=some u)(g:h.objs.size<=a)(new:z1i P w (upd H a o) h' a o):HOk P w (upd H a o) h':=λb u e=>by
 have f:=x.fresh g
 by_cases d:b=a
 .subst d;rw[z06] at e;grind
 .rw[z05 d] at e;exact(x b u e).stay (λc v _ q=>k c v q) (λc q=>by rw[z05 (z0G q f)];exact q) λc i q=>by rw[z05 (z0G q f)];exact q
end
def Rd (H:Hp)(a:Addr)(u:HO):Prop:=H a=some u\/∃o,H a=some (.frz o u)
def Rd.ok {P:Program}{w:World}{H:Hp}{h:Heap}{a:Addr}{u:HO}(r:Rd H a u)(x:HOk P w H h):z1i P w H h a u:=by
 rcases r with r | ⟨o,r⟩
 .exact x a u r
 .obtain⟨_,q⟩:=x a _ r;exact q
def Mut:Option HO->Prop
 | some (.lst _)=>True
 | some (.dK _)=>True
 | some (.dT _)=>True
 | some (.set _ _)=>True
 | some (.ins _ _ _)=>True
 | some (.ext _)=>True
 | _=>False
section
variable {P:Program}{w:World}{H:Hp}{h h':Heap}{x e:Addr}{o':HO}
def HOk.write (ok:HOk P w H h)(a:Mut (H x))(s:e=x\/H e=some (.own x))(k:∀b u,b≠e->h.get? b=some u->h'.get? b=some u)(j:∃u,h'.get? e=some u)
  (new:z1i P w (upd H x o') h' x o'):HOk P w (upd H x o') h':=λb u q=>by
 have d:∀c y,H c=some (.own y)->c≠x:=λc y r z=>by subst z;rw[r] at a;exact a
 have f:∀c g,H c=some (.tup g)->c≠x:=λc g r z=>by subst z;rw[r] at a;exact a
 by_cases l:b=x
 .subst l;rw[z06] at q;cases q;exact new
 .rw[z05 l] at q
  by_cases i:b=e
  .have m:H b=some (.own x):=by
    simp_all
   rw[q] at m;cases m;obtain⟨v,n⟩:=j;exact⟨v,by rw[i];exact n⟩
  .refine(ok b u q).stay (λc v p r=>k c v ?_ r) (λc r=>by rw[z05 (d c b r)];exact r) (λc g r=>by rw[z05 (f c g r)];exact r) λc o u r=>by rw[z05 (λz=>by subst z;rw[r] at a;exact a)];exact r
   grind
end
structure Un (fs ex:List Addr)(H H':Hp)(h h':Heap):Prop where
 keep:∀b o,h.get? b=some o->H b=none->b ∉ fs->b ∉ ex->h'.get? b=some o
 slot:∀b o,h.get? b=some o->H b=none->b∈fs->b ∉ ex->∃sl,h'.get? b=some { o with slots:=sl }
 free:∀b o,h.get? b=some o->H b=none->b ∉ ex->H' b=none
 there:∀b o,h.get? b=some o->b ∉ ex->∃o',h'.get? b=some o'
 tups:∀b xs,H b=some (.tup xs)->H' b=some (.tup xs)
 frzs:∀b o u,H b=some (.frz o u)->H' b=some (.frz o u)
 tbls:∀b ps,H b=some (.tbl ps)->∃more,H' b=some (.tbl (ps++more))
section
variable {fs fs' ex ex':List Addr}{H H1 H2:Hp}{h h1 h2 h':Heap}{a x e:Addr}{o:HO}
def Un.any (u:Un fs ex H H1 h h1){b:Addr}{a:Obj}(q:h.get? b=some a)(n:H b=none)(e:b ∉ ex):∃sl,h1.get? b=some { a with slots:=sl }:=by
 by_cases d:b∈fs
 .exact u.slot b a q n d e
 .exact⟨a.slots,u.keep b a q n d e⟩
def Un.kept (k:∀b u,h.get? b=some u->h'.get? b=some u):Un fs ex H H h h':=
 ⟨λb a q _ _ _=>k b a q,λb a q _ _ _=>⟨a.slots,k b a q⟩,λ_ _ _ n _=>n,λb a q _=>⟨a,k b a q⟩,λ_ _ q=>q,λ_ _ _ q=>q,λ_ ps q=>⟨#[],by rw[q];simp⟩⟩
def Un.refl:Un fs ex H H h h:=Un.kept λ_ _ q=>q
def Un.laid (k:∀b u,h.get? b=some u->h'.get? b=some u)(e:h.objs.size<=a)(d:H a=none):Un fs ex H (upd H a o) h h' where
 keep:=λb u q _ _ _=>k b u q
 slot:=λb u q _ _ _=>⟨u.slots,k b u q⟩
 free:=λb u q n _=>by rw[z05 (wI (wF (wu q) e))];exact n
 there:=λb u q _=>⟨u,k b u q⟩
 tups:=λb f q=>by rw[z05 (z0G q d)];exact q
 frzs:=λb u f q=>by rw[z05 (z0G q d)];exact q
 tbls:=λb ps q=>⟨#[],by rw[z05 (z0G q d),q];simp⟩
def Un.write (g:Mut (H x))(m:e=x\/H e=some (.own x))(k:∀b u,b≠e->h.get? b=some u->h'.get? b=some u)(i:∃u,h'.get? e=some u):Un fs ex H (upd H x o) h h':=by
 have j:∀b,H b=none->b≠x:=λb n z=>by subst z;rw[n] at g;exact g
 have f:∀b,H b=none->b≠e:=λb n z=>by
  grind
 have d:∀b u,H b=some u->¬ Mut (some u)->b≠x:=λb u q p z=>by simp_all
 refine⟨λb u q n _ _=>k b u (f b n) q,λb u q n _ _=>⟨u.slots,k b u (f b n) q⟩,λb u q n _=>by rw[z05 (j b n)];exact n,λb u q _ =>?_,
  λb l q=>by rw[z05 (d b _ q λz=>z)];exact q,λb u l q=>by rw[z05 (d b _ q λz=>z)];exact q,λb ps q=>⟨#[],by rw[z05 (d b _ q λz=>z),q];simp⟩⟩
 by_cases a:b=e
 .simp_all
 .exact⟨u,k b u a q⟩
end
def trk (h:Heap)(H:Hp):List Addr:=(List.range h.objs.size).filter λa=>(H a).isSome
def hidT (h:Heap)(H:Hp):Heap:=W.hideAll h (trk h H)
def zcl (h:Heap)(H:Hp):(hidT h H).objs.size=h.objs.size:=W.hideAll_size _ _
def z7c {h:Heap}{H:Hp}{b:Addr}{o:Obj}(e:h.get? b=some o)(n:H b=none):(hidT h H).get? b=some o:=
 W.hideAll_get _ e λa=>by
  have q  := (List.mem_filter.mp a).2
  simp_all
def zgV {h:Heap}{H:Hp}{b:Addr}{o:Obj}(e:(hidT h H).get? b=some o):h.get? b=some o/\H b=none:=by
 have a  := W.of_hideAll _ e;refine⟨a,?_⟩
 cases q:H b with
 | none=>rfl
 | some x=>
  have d:b∈trk h H:=List.mem_filter.mpr ⟨ub.mpr (wu a),by simp[q]⟩;have z:(hidT h H).get? b=none:=W.hideAll_none _ d
  grind
def BmAt (mg:WmP)(h:Heap):Prop:=∃b a,mg "__builtins__"=some (.ref b)/\b≠builtinsNs/\h.get? b=some a/\a.cls = .type "module"/\a.dict=some builtinsNs/\a.data = .plain
def zkC (d:FuncData):Option Pos:=match d.body with
 | .stmts b=>(match b.getLast? with
  | some (.Return (some (.Call _ _ [⟨_,.Lambda _ _ _ a,_⟩] _)) _)=>some a
  | _=>none)
 | _=>none
def zb1 (K:W.Frag)(c:Addr):Option Addr:=match K.lookup c with
 | some ⟨.type "code",_,.fields vs,_⟩=>(match (vs[11]? : Option Value) with | some (.ref P)=>if (K.lookup P).isNone then some P else none | _=>none)
 | _=>none
def tsOf (K:W.Frag):List (Addr × Nat × Nat × Str):=K.filterMap λp=>match p.2.data with
 | .func b=>(match zkC b,b.code with
  | some a,.ref c=>(zb1 K c).map λP=>(P,a.line,a.col,b.qualname++".<locals>."++"<lambda>")
  | _,_=>none)
 | _=>none
def encT (t:Nat × Nat × Str):Array Value := #[rawInt t.1,rawInt t.2.1,.str t.2.2 0]
def Tbs (K:W.Frag)(H:Hp):Prop:=∀P t,(tsOf K).lookup P=some t->∃more,H P=some (.tbl (encT t++more))
structure Mod (K:W.Frag)(mg:WmP)(base:Heap):Prop where
 kin:K.In base
 glob:base.Ns mainGlobals mg
 blt:∃mb,base.Ns builtinsNs mb/\∀x:Str,x≠"__name__"->mb x=bootBuiltins x
 nolimit:base.NoLimit
 bm:BmAt mg base
structure Cx where
 prog:Program
 w:World
 K:W.Frag
 mg:Str->Option Value
 base:Heap
 A:Around
 N:List Str
 s₀:Shared
 H₀:Hp
 env:Env
 outer:List Env
 stack:List Env
 ex:List Addr
 fn:Str->Bool
 calm:Bool
 pn:List (Addr × Obj)
 xe:Value->Shared->Prop
def frs (l:List Env):List Addr:=l.filterMap (·.frame)
abbrev Cx.fs (X:Cx):List Addr:=frs X.outer
def Vis (sc:Scope)(x:Str):Prop:=sc.names.lookup x=some .local\/sc.names.lookup x=some .cell\/sc.names.lookup x=some .free
def Loc (sc:Scope)(x:Str):Prop:=sc.names.lookup x=some .local\/sc.names.lookup x=some .cell
def Look (env:Env)(h:Heap)(m:WmP)(x:Str)(u:Value):Prop:=
 (env.kindOf x=some .local/\m x=some u)\/((env.kindOf x=some .cell\/env.kindOf x=some .free)/\∃c,env.cells.lookup x=some c/\h.IsCell c (some u))
structure Cx.Ok (X:Cx):Prop where
 mod:Mod X.K X.mg X.base
 kind:X.env.scope.kind = .function
 glob:X.env.globals=mainGlobals
 blt:X.env.builtins=builtinsNs
 above:X.s₀.heap.objs.size<=X.env.locals
 inj:∀x y c,X.env.cells.lookup x=some c->X.env.cells.lookup y=some c->x=y
 has:∀x,(X.env.kindOf x=some .cell\/X.env.kindOf x=some .free)->∃c,X.env.cells.lookup x=some c
 cab:∀x c,X.fn x=true->X.env.cells.lookup x=some c->X.s₀.heap.objs.size<=c
 hd:X.calm=true->X.A.handled=none
 frames:X.A.frames=some X.stack
 stk:X.stack=X.outer\/(X.stack=X.env::X.outer/\X.env.frame=some X.env.locals)
 exf:∀b∈X.ex,b≠X.env.locals/\∀x c,X.env.cells.lookup x=some c->c≠b
 bs:∀b o,X.base.get? b=some o->X.s₀.heap.get? b=some o/\X.H₀ b=none
 bsz:X.base.objs.size<=X.s₀.heap.objs.size
 noex:∀b o,X.base.get? b=some o->b ∉ X.ex
 exfs:∀b∈X.ex,b ∉ X.fs
 funs:X.s₀.heap.FunFrames X.base X.outer
 frf:∀b∈X.fs,X.H₀ b=none
 tbs:Tbs X.K X.H₀
structure Inv (X:Cx)(pins:List (Addr × Obj))(σ:List (Option V))(H:Hp)(s:Shared):Prop where
 ok:X.Ok
 os:s.os=X.s₀.os
 bare:AllBare s.gens
 base:Un X.fs X.ex X.H₀ H X.s₀.heap s.heap
 loc:∃m,s.heap.Ns X.env.locals m/\∀(i:Nat) (x:Str) (v:V),X.N[i]? = some x->σ[i]? = some (some v)->Vis X.env.scope x->∃u,RelV v u/\Look X.env s.heap m x u
 cell:∀x c,X.env.cells.lookup x=some c->∃v,s.heap.IsCell c v
 free:H X.env.locals=none
 freeC:∀x c,X.env.cells.lookup x=some c->H c=none
 pin:∀p∈X.pn++pins,s.heap.get? p.1=some p.2/\H p.1=none/\p.1≠X.env.locals/\p.1 ∉ X.fs/\∀v,p.2.data ≠ .cell v
 hok:HOk X.prog X.w H s.heap
 len:σ.length=X.N.length
section
variable {X:Cx}{pins:List (Addr × Obj)}{σ:List (Option V)}{H H':Hp}{s:Shared}{h':Heap}
def Cx.Ok.nofr (ok:X.Ok){b:Addr}{o:Obj}(e:X.base.get? b=some o):b ∉ X.fs:=λa=>by
 have:=(ok.funs.mem a).1
 grind
theorem Inv.bs (I:Inv X pins σ H s):∀b o,X.base.get? b=some o->s.heap.get? b=some o/\H b=none:=λb o e=>
 ⟨I.base.keep b o (I.ok.bs b o e).1 (I.ok.bs b o e).2 (I.ok.nofr e) (I.ok.noex b o e),I.base.free b o (I.ok.bs b o e).1 (I.ok.bs b o e).2 (I.ok.noex b o e)⟩
def Inv.bk (I:Inv X pins σ H s):∀b o,X.base.get? b=some o->s.heap.get? b=some o:=λb o e=>(I.bs b o e).1
theorem Inv.mod (I:Inv X pins σ H s):Mod X.K X.mg X.base:=I.ok.mod
def Inv.kIn (I:Inv X pins σ H s):X.K.In s.heap:=I.ok.mod.kin.keeps I.bk
theorem Inv.lt (I:Inv X pins σ H s):X.env.locals<s.heap.objs.size:=let ⟨_,a,_⟩:=I.loc;a.lt
def Inv.sz (I:Inv X pins σ H s):X.s₀.heap.objs.size<=s.heap.objs.size:=wM I.ok.above (jc I.lt)
def Inv.nofs (I:Inv X pins σ H s){a:Addr}(h:s.heap.objs.size<=a):a ∉ X.fs:=λb=>by
 obtain⟨_,o,d,_⟩:=I.ok.funs.mem b;exact absurd (wF (wu d) (wM I.sz h)) (vB _)
def Inv.cne (I:Inv X pins σ H s):∀x c,X.env.cells.lookup x=some c->c≠X.env.locals:=λx c e z=>by
 obtain⟨v,o,h,g⟩:=I.cell x c e;obtain⟨m,⟨i,f,d,b,a,_⟩,_⟩:=I.loc
 grind
theorem Inv.funs (I:Inv X pins σ H s):s.heap.FunFrames X.base X.outer:=by
 have all:∀(l:List Env),(∀b∈frs l,b∈X.fs)->X.s₀.heap.FunFrames X.base l->s.heap.FunFrames X.base l:=by
  intro l
  induction l with
  | nil=>intro _ _;trivial
  | cons g r q=>
   intro hs j;obtain⟨i,⟨L,o,f,m,n,h⟩,p⟩:=j;have a  := hs L (by unfold frs;simp_all);obtain⟨sl,e⟩:=I.base.slot L o n (I.ok.frf L a) a λz=>I.ok.exfs L z a;exact⟨i,⟨L,_,f,m,e,h⟩,q (λb d=>hs b (by unfold frs;rw[uv,f];exact wp _ d)) p⟩
 exact all _ (λ_ d=>d) I.ok.funs
theorem Inv.stack (I:Inv X pins σ H s):s.heap.FunFrames X.base X.stack:=by
 rcases I.ok.stk with e | ⟨e,a⟩
 .rw[e];exact I.funs
 .rw[e];obtain⟨m,b,_⟩:=I.loc;refine .cons (by rw[I.ok.kind];decide) a b ?_ I.funs;exact Heap.get?_none_of_le (wM I.ok.bsz I.ok.above)
def Inv.stkSub (I:Inv X pins σ H s):∀b∈frs X.stack,b∈X.env.locals::X.fs:=λb a=>by
 rcases I.ok.stk with e | ⟨e,d⟩
 .simp_all
 .rw[e] at a;unfold frs at a;rw[uv,d] at a;exact a
def Inv.stkFree (I:Inv X pins σ H s):∀b∈frs X.stack,H b=none:=λb a=>by
 rcases wm.mp (I.stkSub b a) with e | a
 .rw[e];exact I.free
 .obtain⟨_,o,d,_⟩:=I.ok.funs.mem a;exact I.base.free b o d (I.ok.frf b a) λz=>I.ok.exfs b z a
theorem Inv.tbs (I:Inv X pins σ H s):Tbs X.K H:=λP t e=>by
 obtain⟨b,a⟩:=I.ok.tbs P t e;obtain⟨d,f⟩:=I.base.tbls P _ a;exact⟨b++d,by simp_all⟩
def Inv.step {g':Array GenState}{t':Nat}{d':Drawn}{ch:List Addr}(I:Inv X pins σ H s)
  (g:∀b∈ch,(b∈X.ex\/X.s₀.heap.objs.size<=b)/\b≠X.env.locals/\(∀x c,X.env.cells.lookup x=some c->c≠b)/\∀p∈X.pn++pins,p.1≠b)
  (keep:∀b o,b≠X.env.locals->b ∉ X.fs->b ∉ ch->s.heap.get? b=some o->H b=none->h'.get? b=some o)
  (y:∀b o,b≠X.env.locals->b∈X.fs->b ∉ ch->s.heap.get? b=some o->H b=none->∃sl,h'.get? b=some { o with slots:=sl }) (free:∀b o,b ∉ ch->s.heap.get? b=some o->H b=none->H' b=none)
  (there:∀b o,b ∉ ch->s.heap.get? b=some o->∃J,h'.get? b=some J)
  (tups:∀b xs,H b=some (.tup xs)->H' b=some (.tup xs)) (F:∀b o u,H b=some (.frz o u)->H' b=some (.frz o u)) (K:∀b ps,H b=some (.tbl ps)->∃more,H' b=some (.tbl (ps++more)))
  (ns:∀m,s.heap.Ns X.env.locals m->h'.Ns X.env.locals m) (M:HOk X.prog X.w H' h') (T:AllBare g'):
  Inv X pins σ H' { s with heap:=h',gens:=g',drawn:=d',toks:=t' }:=by
 have G:∀b o,X.s₀.heap.get? b=some o->b≠X.env.locals:=λb o e=>wI (wF (wu e) I.ok.above);have t:∀b o,X.s₀.heap.get? b=some o->b ∉ X.ex->b ∉ ch:=λb o e a A=>by
  rcases(g b A).1 with z | z
  .exact a z
  .exact absurd (wF (wu e) z) (vB _)
 have f:∀x c,X.env.cells.lookup x=some c->∀v,s.heap.IsCell c v->h'.IsCell c v:=by
  rintro x c e v ⟨o,C,L⟩;have h:c ∉ ch:=λz=>(g c z).2.2.1 x c e rfl
  by_cases O:c∈X.fs
  .obtain⟨sl,q⟩:=y c o (I.cne x c e) O h C (I.freeC x c e);exact⟨_,q,L⟩
  .exact⟨o,keep c o (I.cne x c e) O h C (I.freeC x c e),L⟩
 refine⟨I.ok,I.os,T,⟨λb o e n A a =>?_,λb o e n A a =>?_,λb o e n a =>?_,λb o e a =>?_,λb xs e=>tups b xs (I.base.tups b xs e),λb o xs e=>F b o xs (I.base.frzs b o xs e),λb ps e =>?_⟩,?_,λx c e =>?_,?_,λx c e =>?_,λp Q =>?_,M,I.len⟩
 .exact keep b o (G b o e) A (t b o e a) (I.base.keep b o e n A a) (I.base.free b o e n a)
 .obtain⟨sl,j⟩:=I.base.slot b o e n A a;obtain⟨N,E⟩:=y b _ (G b o e) A (t b o e a) j (I.base.free b o e n a);exact⟨N,E⟩
 .obtain⟨J,j⟩:=I.base.there b o e a;exact free b J (t b o e a) j (I.base.free b o e n a)
 .obtain⟨J,j⟩:=I.base.there b o e a;exact there b J (t b o e a) j
 .obtain⟨Y,j⟩:=I.base.tbls b ps e;obtain⟨Z,E⟩:=K b _ j;exact⟨Y++Z,by rw[E,Array.append_assoc]⟩
 .obtain⟨m,W,U⟩:=I.loc;refine⟨m,ns m W,λi x v j E S =>?_⟩;obtain⟨u,r,l⟩:=U i x v j E S;refine⟨u,r,?_⟩
  rcases l with l | ⟨k,c,e,z⟩
  .exact .inl l
  .exact .inr ⟨k,c,e,f x c e _ z⟩
 .obtain⟨v,z⟩:=I.cell x c e;exact⟨v,f x c e v z⟩
 .obtain⟨m,⟨o,_,_,C,_⟩,_⟩:=I.loc;exact free _ o (λz=>(g _ z).2.1 rfl) C I.free
 .obtain⟨v,o,C,L⟩:=I.cell x c e;exact free c o (λz=>(g c z).2.2.1 x c e rfl) C (I.freeC x c e)
 .obtain⟨e,n,ne,R,d⟩:=I.pin p Q;have h:p.1 ∉ ch:=λz=>(g p.1 z).2.2.2 p Q rfl;exact⟨keep p.1 p.2 ne R h e n,free p.1 p.2 h e n,ne,R,d⟩
def Inv.un {t':Nat}(I:Inv X pins σ H s)(u:Un X.fs [] H H' s.heap h')(h:HOk X.prog X.w H' h'):Inv X pins σ H' { s with heap:=h',toks:=t' }:=by
 obtain⟨m,⟨o,t,q,i,r⟩,_⟩:=id I.loc;obtain⟨sl,j⟩:=u.any i I.free (by simp);exact I.step (ch:=[]) (λ_ z=>nomatch z) (λb o _ g _ e n=>u.keep b o e n g (by simp)) (λb o _ g _ e n=>u.slot b o e n g (by simp)) (λb o _ e n=>u.free b o e n (by simp)) (λb o _ e=>u.there b o e (by simp)) u.tups u.frzs u.tbls (λx l=>by
  obtain⟨y,f,d,a,p⟩:=l;rw[i] at a;cases a;exact⟨_,f,d,j,p⟩) h I.bare
def Inv.call {g':Array GenState}{t':Nat}{d':Drawn}{ch:List Addr}(I:Inv X pins σ H s)(u:Un (frs X.stack) ch H H' s.heap h')(j:HOk X.prog X.w H' h')(t:AllBare g')
  (d:∀b∈ch,(b∈X.ex\/X.s₀.heap.objs.size<=b)/\b≠X.env.locals/\(∀x c,X.env.cells.lookup x=some c->c≠b)/\∀p∈X.pn++pins,p.1≠b):
  Inv X pins σ H' { s with heap:=h',gens:=g',drawn:=d',toks:=t' }:=by
 obtain⟨m,⟨o,E,C,l,r⟩,_⟩:=id I.loc;obtain⟨sl,i⟩:=u.any l I.free λz=>(d _ z).2.1 rfl;exact I.step d (λb o i q a e n=>u.keep b o e n (λz=>(wm.mp (I.stkSub b z)).elim i q) a) (λb o _ _ a e n=>u.any e n a) (λb o a e n=>u.free b o e n a) (λb o a e=>u.there b o e a) u.tups u.frzs u.tbls (λF y=>by
  obtain⟨G,h,g,f,A⟩:=y;rw[l] at f;cases f;exact⟨_,h,g,i,A⟩) j t
def Inv.turned {t':Nat}{it:Addr}(I:Inv X pins σ H s)(k:∀b o,b≠it->s.heap.get? b=some o->h'.get? b=some o)(A:H it=none)(f:it≠X.env.locals)
  (i:it∈X.ex\/X.s₀.heap.objs.size<=it) (j:∀x c,X.env.cells.lookup x=some c->c≠it) (l:∀p∈X.pn++pins,p.1≠it):Inv X pins σ H { s with heap:=h',toks:=t' }:=by
 have d:∀b u,H b=some u->b≠it:=λb u e z=>by grind
 refine I.step (g':=s.gens) (ch:=[it]) (λb t =>?_) (λb o _ _ a e _=>k b o (λz=>a (by simp[z])) e) (λb o _ _ a e _=>⟨o.slots,k b o (λz=>a (by simp[z])) e⟩) (λ_ _ _ _ n=>n)
  (λb o a e=>⟨o,k b o (λz=>a (by simp[z])) e⟩) (λ_ _ e=>e) (λ_ _ _ e=>e) (λb ps e=>⟨#[],by rw[e];simp⟩) (λm w =>?_) (λb u e =>?_) I.bare
 .have e:b=it:=by simpa using t
  subst e;exact⟨i,f,j,l⟩
 .obtain⟨o,h,g,y,r⟩:=w;exact⟨o,h,g,k _ o (vG f) y,r⟩
 .refine(I.hok b u e).stay (λc v a q=>k c v ?_ q) (λ_ q=>q) λ_ _ q=>q
  rcases a with z | z
  .rw[z];exact d b u e
  .exact d c _ z
def Inv.tok (I:Inv X pins σ H s)(t:Nat):Inv X pins σ H { s with toks:=t }:=I.un Un.refl I.hok
theorem Inv.kept {t':Nat}(I:Inv X pins σ H s)(k:∀b u,s.heap.get? b=some u->h'.get? b=some u):Inv X pins σ H { s with heap:=h',toks:=t' }:=I.un (Un.kept k) (I.hok.kept k)
theorem Inv.laid {a:Addr}{o:HO}{t':Nat}(I:Inv X pins σ H s)(k:∀b u,s.heap.get? b=some u->h'.get? b=some u)(d:s.heap.objs.size<=a)(new:z1i X.prog X.w (upd H a o) h' a o):
  Inv X pins σ (upd H a o) { s with heap:=h',toks:=t' }:=I.un (Un.laid k d (I.hok.fresh d)) (I.hok.laid k d new)
theorem Inv.write {x e:Addr}{o:HO}{t':Nat}(I:Inv X pins σ H s)(f:Mut (H x))(d:e=x\/H e=some (.own x))(k:∀b u,b≠e->s.heap.get? b=some u->h'.get? b=some u)(a:∃u,h'.get? e=some u)
  (new:z1i X.prog X.w (upd H x o) h' x o):Inv X pins σ (upd H x o) { s with heap:=h',toks:=t' }:=I.un (Un.write f d k a) (I.hok.write f d k a new)
def Inv.pins_of {pins':List (Addr × Obj)}(I:Inv X pins σ H s)(h:∀p∈pins',s.heap.get? p.1=some p.2/\H p.1=none/\p.1≠X.env.locals/\p.1 ∉ X.fs/\∀v,p.2.data ≠ .cell v):Inv X pins' σ H s:=
 ⟨I.ok,I.os,I.bare,I.base,I.loc,I.cell,I.free,I.freeC,λp a=>(wG.mp a).elim (λz=>I.pin p (jJ _ z)) (h p),I.hok,I.len⟩
def z9I {N:List Str}(f:N.Nodup){i j:Nat}{x:Str}(a:N[i]? = some x)(b:N[j]? = some x):i=j:=by
 obtain⟨g,d⟩:=wv.mp a;obtain⟨h,e⟩:=wv.mp b;exact(List.getElem_inj f).mp (d.trans e.symm)
def z7w {M:Model}{A:Around}{E:WvP}{i:Nat}{x:Str}{v:V}{u:Value}{Q:Unit->Shared->Prop}(I:Inv X pins σ H s)(hN:X.N.Nodup)(U:X.N[i]? = some x)(t:Loc X.env.scope x)(r:RelV v u)
  (h:∀s',Inv X pins (σ.set i (some v)) H s'->(∃a,Heap.SameBut a s.heap s'.heap/\(a=X.env.locals\/X.env.cells.lookup x=some a))->Q () s') (hf:autoParam (X.fn x=true\/X.env.scope.names.lookup x=some .local) jD1):wpAny M A (storeName X.env x u) Q E s:=by
 obtain⟨m,hn,hl⟩:=id I.loc;have T:(X.env.scope.kind == .class || (X.env.scope.kind == .module && X.env.locals != X.env.globals))=false:=by rw[I.ok.kind];rfl
 have G:i < σ.length:=by rw[I.len];exact(wv.mp U).1
 have cne:=I.cne;have g:∀{a:Addr}{h':Heap},(∃o,s.heap.get? a=some o/\H a=none)->Heap.SameBut a s.heap h'->HOk X.prog X.w H h':=λ{a h'} ha hs b ob e=>by
  obtain⟨_,_,C⟩:=ha;refine(I.hok b ob e).stay (λc w' l q=>(hs.2 c ?_).trans q) (λ_ q=>q) λ_ _ q=>q;rintro rfl
  rcases l with rfl | l
  .rw[C] at e;cases e
  .rw[C] at l;cases l
 rcases t with J | J
 .refine wpAny_storeName_local J hn (λh' a0 hs =>?_) T;obtain⟨oL,_,_,a1,_⟩:=id hn;refine h _ ⟨I.ok,I.os,I.bare,⟨λb o e n K t =>?_,λb o e n K t =>?_,I.base.free,λb o e t =>?_,I.base.tups,I.base.frzs,I.base.tbls⟩,⟨_,a0,λj y v' f F e3 =>?_⟩,λy c e =>?_,I.free,I.freeC,λp hp =>?_,g ⟨oL,a1,I.free⟩ hs,by simpa using I.len⟩ ⟨_,hs,.inl rfl⟩
  .exact(hs.2 b (wI (wF (wu e) I.ok.above))).trans (I.base.keep b o e n K t)
  .obtain⟨sl,f⟩:=I.base.slot b o e n K t;exact⟨sl,(hs.2 b (wI (wF (wu e) I.ok.above))).trans f⟩
  .obtain⟨o',f⟩:=I.base.there b o e t;exact⟨o',(hs.2 b (wI (wF (wu e) I.ok.above))).trans f⟩
  .by_cases O:j=i
   .subst O;rw[U] at f;cases f;rw[wK G] at F
    cases F
    exact⟨u,r,.inl ⟨J,by simp⟩⟩
   .rw[wB (vG O)] at F;obtain⟨u',r',q⟩:=hl j y v' f F e3;refine⟨u',r',?_⟩
    rcases q with ⟨k,e⟩ | ⟨k,c,e,z⟩
    .refine .inl ⟨k,?_⟩;have:y≠x:=λe=>O (z9I hN f (e ▸ U));simp[this,e]
    .exact .inr ⟨k,c,e,z.sameBut hs (cne y c e)⟩
  .obtain⟨w',z⟩:=I.cell y c e;exact⟨w',z.sameBut hs (cne y c e)⟩
  .obtain⟨e,n,ne,nf,d⟩:=I.pin p hp;exact⟨(hs.2 p.1 ne).trans e,n,ne,nf,d⟩
 .have L:X.fn x=true:=by
   rcases hf with z | z
   .exact z
   .rw[z] at J;cases J
  obtain⟨c,l⟩:=I.ok.has x (.inl J);obtain⟨w',z⟩:=I.cell x c l;refine wpAny_storeName_cell I.ok.kind J l z (λh' R hs =>?_);obtain⟨oc,W,Y⟩:=id z;refine h { s with heap:=h' } ⟨I.ok,I.os,I.bare,⟨λb o e n K t =>?_,λb o e n K t =>?_,I.base.free,λb o e t =>?_,I.base.tups,I.base.frzs,I.base.tbls⟩,⟨m,hn.sameBut hs (vG (cne x c l)),λj y v' f F e3 =>?_⟩,λy Z e =>?_,I.free,I.freeC,λp hp =>?_,g ⟨oc,W,I.freeC x c l⟩ hs,by simpa using I.len⟩ ⟨c,hs,.inr l⟩
  .exact(hs.2 b (wI (wF (wu e) (I.ok.cab x c L l)))).trans (I.base.keep b o e n K t)
  .obtain⟨sl,f⟩:=I.base.slot b o e n K t;exact⟨sl,(hs.2 b (wI (wF (wu e) (I.ok.cab x c L l)))).trans f⟩
  .obtain⟨o',f⟩:=I.base.there b o e t;exact⟨o',(hs.2 b (wI (wF (wu e) (I.ok.cab x c L l)))).trans f⟩
  .by_cases O:j=i
   .subst O;rw[U] at f;cases f;rw[wK G] at F
    cases F
    exact⟨u,r,.inr ⟨.inl J,c,l,R⟩⟩
   .rw[wB (vG O)] at F;obtain⟨u',r',q⟩:=hl j y v' f F e3;refine⟨u',r',?_⟩
    rcases q with q | ⟨k,Z,e,z'⟩
    .exact .inl q
    .refine .inr ⟨k,Z,e,z'.sameBut hs ?_⟩;rintro rfl;exact O (z9I hN f (I.ok.inj _ _ _ e l ▸ U))
  .by_cases S:Z=c
   .subst S;exact⟨_,R⟩
   .obtain⟨w2,z2⟩:=I.cell y Z e;exact⟨w2,z2.sameBut hs S⟩
  .obtain⟨e,n,ne,nf,d⟩:=I.pin p hp;refine⟨(hs.2 p.1 ?_).trans e,n,ne,nf,d⟩;intro q;rw[q,W] at e;have q':oc=p.2:=vh e;exact d w' (by rw[<- q'];exact Y)
def z9r {M:Model}{A:Around}{E:WvP}{i:Nat}{x:Str}{v:V}{u:Value}{Q:Unit->Shared->Prop}(I:Inv X pins σ H s)(b:X.N.Nodup)(e:X.N[i]? = some x)(f:Loc X.env.scope x)(r:RelV v u)
  (h:∀s',Inv X pins (σ.set i (some v)) H s'->Q () s') (d:autoParam (X.fn x=true\/X.env.scope.names.lookup x=some .local) jD1):wpAny M A (storeName X.env x u) Q E s:=
 z7w I b e f r (λs' a _=>h s' a) d
def Inv.call' {s':Shared}{ch:List Addr}(I:Inv X pins σ H s)(g:s'.os=s.os)(u:Un (frs X.stack) ch H H' s.heap s'.heap)(d:HOk X.prog X.w H' s'.heap)(f:AllBare s'.gens)
  (a:∀b∈ch,(b∈X.ex\/X.s₀.heap.objs.size<=b)/\b≠X.env.locals/\(∀x c,X.env.cells.lookup x=some c->c≠b)/\∀p∈X.pn++pins,p.1≠b):Inv X pins σ H' s':=by
 obtain⟨j,i,h,m,l⟩:=s';have e  := g;subst e;exact I.call u d f a
end
abbrev XK:=Value->Option Addr->Hp->Prop
abbrev St:=List (Option V)
abbrev VK:=V->Hp->Prop
abbrev TE:=St->Hp->VK->Prop
abbrev TT:=St->Hp->(Bool->Hp->Prop)->Prop
abbrev TA:=St->Hp->(List V->Hp->Prop)->Prop
structure Ends where
 nx:St->Hp->Prop
 rt:VK
 bk:St->Hp->Prop:=λ_ _=>False
 ct:St->Hp->Prop:=λ_ _=>False
abbrev TS:=Ends->St->Hp->Prop
def EP (X:Cx)(a:List (Addr × Obj))(d:St)(Q:VK)(u:Value)(s':Shared):Prop:=∃v b,Inv X a d b s'/\RelV v u/\Q v b
def TP (X:Cx)(a:List (Addr × Obj))(e:St)(Q:Bool->Hp->Prop)(b:Bool)(s':Shared):Prop:=∃d,Inv X a e d s'/\Q b d
def AP (X:Cx)(a:List (Addr × Obj))(e:St)(Q:List V->Hp->Prop)(d:List Value)(s':Shared):Prop:=∃vs b,Inv X a e b s'/\Vals vs d/\Q vs b
def SP (X:Cx)(b:List (Addr × Obj))(D:Ends)(f:Flow)(s':Shared):Prop:=
 match f with
 | .next=>∃a d,Inv X b a d s'/\D.nx a d
 | .brk=>∃a d,Inv X b a d s'/\D.bk a d
 | .cont=>∃a d,Inv X b a d s'/\D.ct a d
 | .ret u=>∃v a d,Inv X b a d s'/\RelV v u/\D.rt v d
def PE (X:Cx)(e:Expr)(t:TE):Prop:=
 ∀(a:List (Addr × Obj)) (s:Shared) (b:St) (H:Hp) (Q:VK),Inv X a b H s->t b H Q->wpAny (model X.prog X.w) X.A (eval e X.env) (EP X a b Q) X.xe s
def PT (X:Cx)(e:Expr)(t:TT):Prop:=
 ∀(a:List (Addr × Obj)) (s:Shared) (b:St) (H:Hp) (Q:Bool->Hp->Prop),Inv X a b H s->t b H Q->wpAny (model X.prog X.w) X.A (isTrue e X.env (eval e X.env)) (TP X a b Q) X.xe s
def PW (X:Cx)(e:Expr)(t:TT):Prop:=
 ∀(b:Sem Value) (a:List (Addr × Obj)) (s:Shared) (d:St) (H:Hp) (Q:Bool->Hp->Prop),Inv X a d H s->t d H Q->wpAny (model X.prog X.w) X.A (isTrue e X.env b) (TP X a d Q) X.xe s
def PW.pt {X:Cx}{e:Expr}{t:TT}(h:PW X e t):PT X e t:=h _
def PA (X:Cx)(es:List Expr)(t:TA):Prop:=
 ∀(b:Pos) (a:List (Addr × Obj)) (s:Shared) (d:St) (H:Hp) (Q:List V->Hp->Prop),Inv X a d H s->t d H Q->wpAny (model X.prog X.w) X.A (spliced (backTo b (starEach es X.env))) (AP X a d Q) X.xe s
def PS (X:Cx)(st:Stmt)(t:TS):Prop:=
 ∀(a:List (Addr × Obj)) (s:Shared) (b:St) (H:Hp) (D:Ends),Inv X a b H s->t D b H->wpAny (model X.prog X.w) X.A (exec st X.env) (SP X a D) X.xe s
def PSs (X:Cx)(st:List Stmt)(t:TS):Prop:=
 ∀(a:List (Addr × Obj)) (s:Shared) (b:St) (H:Hp) (D:Ends),Inv X a b H s->t D b H->wpAny (model X.prog X.w) X.A (execs st X.env) (SP X a D) X.xe s
def thn {b:Type}{t:Sem b}{Q Q':b->Shared->Prop}{M:Model}{A:Around}{E:WvP}{s:Shared}(h:wpAny M A t Q E s)(d:∀a s,Q a s->Q' a s):wpAny M A t Q' E s:=vJ h d λ_ _ x=>x
section
variable {X:Cx}
def tVar (i:Nat):TE:=λa H Q=>∃v,a[i]? = some (some v)/\Q v H
def tC (v:V):TE:=λ_ H Q=>Q v H
def zfi {i:Nat}{x:Str}{g:Pos}(o:X.N[i]? = some x)(w:Vis X.env.scope x)(f:autoParam ((x == ("__debug__":Str))=false) jB1)(d:autoParam ((x == ("__classdict__":Str))=false) jB1):PE X (.Name x g) (tVar i):=by
 intro n s y H Q I h;obtain⟨v,e,h⟩:=h;obtain⟨m,t,p⟩:=I.loc;obtain⟨u,r,l⟩:=p i x v o e w;have fin:EP X _ y Q u s:=⟨v,H,I,r,h⟩
 rcases l with ⟨b,q⟩ | ⟨b,c,j,a⟩
 .exact wpAny_Name (wpAny_loadName_local I.ok.kind b t q fin) f
 .rcases b with b | b
  .exact wpAny_Name (wpAny_loadName_cell I.ok.kind b j a fin) f
  .exact wpAny_Name (wpAny_loadName_free I.ok.kind b j a fin d) f
def zjD {i j a}:PE X (.Constant (.int i) j a) (tC (.int i)):=λ_ _ _ H _ I h=>wpAny_Constant_int ⟨.int i,H,I.tok _,⟨_,rfl⟩,h⟩
def zlX {b j a}:PE X (.Constant (.bool b) j a) (tC (.bl b)):=λ_ _ _ H _ I h=>Constant_bool ⟨.bl b,H,I,rfl,h⟩
def zjA {j a}:PE X (.Constant .none j a) (tC .non):=λ_ _ _ H _ I h=>Constant_none ⟨.non,H,I,rfl,h⟩
def zjy {x j a}:PE X (.Constant (.str x) j a) (tC (.str x)):=λ_ _ _ H _ I h=>Calls.Constant_str ⟨.str x,H,I.tok _,⟨_,rfl⟩,h⟩
def Gl (X:Cx)(x:Str):Prop:=X.env.kindOf x=some .globalImplicit
def zca {E:WvP}{a:List (Addr × Obj)}{s:Shared}{g:St}{H:Hp}{x:Str}{u:Value}{b:Pos}{Q:WvP}(I:Inv X a g H s)(e:Gl X x)(f:X.mg x=some u)(h:Q u s)
  (d:autoParam ((x == ("__debug__":Str))=false) jB1):wpAny (model X.prog X.w) X.A (eval (.Name x b) X.env) Q E s:=
 Calls.Name_function_global I.ok.kind e (Calls.loadGlobal_global (by rw[I.ok.glob];exact I.mod.glob.keeps I.bk) f h) d
def z81 {E:WvP}{a:List (Addr × Obj)}{s:Shared}{m:St}{H:Hp}{x:Str}{u:Value}{b:Pos}{Q:WvP}(I:Inv X a m H s)(g:Gl X x)(i:X.mg x=none)(l:bootBuiltins x=some u)(h:Q u s)
  (j:autoParam (x≠"__name__") jB1) (f:autoParam ((x == ("__debug__":Str))=false) jB1):wpAny (model X.prog X.w) X.A (eval (.Name x b) X.env) Q E s:=by
 obtain⟨n,d,e⟩:=I.mod.blt;exact Calls.Name_function_global I.ok.kind g (Calls.loadGlobal_builtin (by rw[I.ok.glob];exact I.mod.glob.keeps I.bk) i (by rw[I.ok.blt];exact d.keeps I.bk) ((e x j).trans l) h) f
def zbC {x:Str}{v:V}{u:Value}{a:Pos}(d:Gl X x)(e:X.mg x=some u)(r:RelV v u)(b:autoParam ((x == ("__debug__":Str))=false) jB1):PE X (.Name x a) (tC v):=
 λ_ _ _ H _ I h=>zca I d e ⟨v,H,I,r,h⟩ b
def zgN {x:Str}{v:V}{u:Value}{a:Pos}(d:Gl X x)(e:X.mg x=none)(g:bootBuiltins x=some u)(r:RelV v u)(f:autoParam (x≠"__name__") jB1)(b:autoParam ((x == ("__debug__":Str))=false) jB1):PE X (.Name x a) (tC v):=
 λ_ _ _ H _ I h=>z81 I d e g ⟨v,H,I,r,h⟩ f b
variable {a b:Expr}{ta tb:TE}{pos:Pos}
def tB (t:TE):TT:=λb H Q=>t b H λx a=>∃c,x = .bl c/\Q c a
def zjm {e:Expr}{t:TE}(h:PE X e t)(i:autoParam (∀a,isTrue e X.env a=(do let v <- a;standAt e.pos;holding [v] (truthy v))) jC1):PT X e (tB t):=by
 intro b s n H Q I j;refine isTrue_plain (thn (h _ s n H _ I j) λv o m =>?_) (i _);obtain⟨x,f,g,r1,l⟩:=m;obtain⟨d,rfl,q⟩:=l
 cases r1
 exact wpAny_truthy_bool ⟨f,g,q⟩
variable {tA tB':TT}{rest:List Expr}
def tAnd (t u:TT):TT:=λb H Q=>t b H λc a=>if c=true then u b a Q else Q false a
def tOr (t u:TT):TT:=λb H Q=>t b H λc a=>if c=true then Q true a else u b a Q
def tNot (t:TT):TT:=λb H Q=>t b H λc a=>Q (!c) a
def zgy (d:PT X a tA):PW X (.BoolOp .And [a] pos) tA:=by
 intro wh b s f H Q I h;refine isTrue_and (thn (d _ s f H Q I h) λc g e =>?_)
 cases c with
 | true=>exact isTrue_and_nil e
 | false=>exact e
def zjk (d:PT X a tA):PW X (.BoolOp .Or [a] pos) tA:=by
 intro wh b s f H Q I h;refine isTrue_or (thn (d _ s f H Q I h) λc g e =>?_)
 cases c with
 | false=>exact isTrue_or_nil e
 | true=>exact e
def zjl (j:PT X a tA)(l:PW X (.BoolOp .And (b::rest) pos) tB'):PW X (.BoolOp .And (a::b::rest) pos) (tAnd tA tB'):=by
 intro wh f s i H Q I h;refine isTrue_and (thn (j _ s i H _ I h) λc m n =>?_);obtain⟨d,e,g⟩:=n
 cases c with
 | true=>exact l wh _ m i d Q e g
 | false=>exact⟨d,e,g⟩
def zlQ (j:PT X a tA)(l:PW X (.BoolOp .Or (b::rest) pos) tB'):PW X (.BoolOp .Or (a::b::rest) pos) (tOr tA tB'):=by
 intro wh f s i H Q I h;refine isTrue_or (thn (j _ s i H _ I h) λc m n =>?_);obtain⟨d,e,g⟩:=n
 cases c with
 | true=>exact⟨d,e,g⟩
 | false=>exact l wh _ m i d Q e g
def zjn (d:PT X a tA):PT X (.UnaryOp .Not a pos) (tNot tA):=by
 intro b s e H Q I h;exact isTrue_not (d _ s e H _ I h)
def zi8 (d e:TE):TE:=λb H Q=>d b H λx a=>∃c,x = .bl c/\if c=true then e b a Q else Q (.bl false) a
def zjz {op}{t:TE}(h:PE X a t):PE X (.BoolOp op [a] pos) t:=λb s e H Q I d=>BoolOp_one (h _ s e H Q I d)
def zjF (j:PE X a ta)(l:PE X (.BoolOp .And (b::rest) pos) tb):PE X (.BoolOp .And (a::b::rest) pos) (zi8 ta tb):=by
 intro g s i H Q I h;refine BoolOp_and (thn (j _ s i H _ I h) λv m n =>?_);obtain⟨x,e,f,r1,d⟩:=n;obtain⟨c,rfl,d⟩:=d
 cases r1
 refine wpAny_truthy_bool ?_
 cases c with
 | true=>exact l _ m i e Q f d
 | false=>exact⟨.bl _,e,f,rfl,d⟩
end
def SqL (K:W.Frag)(H:Hp)(a:Addr)(xs:List V):Prop:=
 Rd H a (.lst xs)\/
  ∃(o:Obj) (b:Array Value) (n:Nat),K.lookup a=some o/\o.cls = .type "list"/\o.dict=none/\o.data = .seq b n/\b.size<=sizeLine/\Vals xs b.toList
def SqT (K:W.Frag)(H:Hp)(a:Addr)(xs:List V):Prop:=
 Rd H a (.tup xs)\/
  ∃(o:Obj) (b:Array Value) (n:Nat),K.lookup a=some o/\o.cls = .type "tuple"/\o.data = .seq b n/\b.size<=sizeLine/\Vals xs b.toList/\o.dict=none
def absV:Value->Option V
 | .none=>some .non
 | .bool b=>some (.bl b)
 | .int i _=>some (.int i)
 | .str x _=>some (.str x)
 | .bytes b _=>some (.byt b)
 | .float b _=>some (.flt b)
 | .ref a=>some (.ref a)
 | .type n=>some (.ty n)
 | _=>none
def RelV.abs {x:V}{u:Value}(r:RelV x u):absV u=some x:=by
 cases x with
 | non=>cases r;rfl
 | bl _=>cases r;rfl
 | int _=>obtain⟨t,rfl⟩:=r;rfl
 | str _=>obtain⟨t,rfl⟩:=r;rfl
 | byt _=>obtain⟨t,rfl⟩:=r;rfl
 | flt _=>obtain⟨t,rfl⟩:=r;rfl
 | ref _=>cases r;rfl
 | ty _=>cases r;rfl
def RelV.inj {x y:V}{u:Value}(r:RelV x u)(q:RelV y u):x=y:=vh (r.abs.symm.trans q.abs)
theorem Vals.inj:∀{xs b:List V}{a:List Value},Vals xs a->Vals b a->xs=b
 | _,_,_,.nil,.nil=>rfl
 | _,_,_,.cons r t,.cons d e=>by rw[r.inj d,Vals.inj t e]
section
variable {X:Cx}{pins:List (Addr × Obj)}{σ:St}{H:Hp}{s:Shared}{a:Addr}{xs ys:List V}
def SqL.of {K:W.Frag}(h:H a=some (.lst xs)):SqL K H a xs :=.inl (.inl h)
def SqT.of {K:W.Frag}(h:H a=some (.tup xs)):SqT K H a xs :=.inl (.inl h)
def Inv.list (I:Inv X pins σ H s)(h:SqL X.K H a xs):∃b:List Value,Vals xs b/\PlainL s.heap a b.toArray/\xs.length<=sizeLine:=by
 rcases h with h | ⟨o,b,n,g,d,f,hs,i,r⟩
 .obtain⟨z,b,n,r,e⟩:=h.ok I.hok;exact⟨b,r,⟨_,n,e,rfl,rfl,rfl⟩,z⟩
 .refine⟨b.toList,r,⟨o,n,I.kIn a o g,d,f,by simpa using hs⟩,?_⟩;have e:=r.length
  simp_all
def Inv.tuple (I:Inv X pins σ H s)(h:SqT X.K H a xs):∃b:List Value,Vals xs b/\IsTup s.heap a b.toArray/\xs.length<=sizeLine:=by
 rcases h with h | ⟨o,b,n,f,d,hs,g,r,_⟩
 .obtain⟨z,b,r,p,_⟩:=h.ok I.hok;exact⟨b,r,p,z⟩
 .refine⟨b.toList,r,⟨o,I.kIn a o f,d,n,by simpa using hs⟩,?_⟩;have e:=r.length
  simp_all
def Inv.tupNoD (I:Inv X pins σ H s)(h:SqT X.K H a xs):NoD s.heap a:=by
 rcases h with h | ⟨o,e,n,d,f,hs,g,r,b⟩
 .exact(h.ok I.hok).2.choose_spec.2.2
 .exact⟨o,I.kIn a o d,b⟩
def Inv.list_inj (I:Inv X pins σ H s)(h:SqL X.K H a xs)(g:SqL X.K H a ys):xs=ys:=by
 obtain⟨b,r,⟨o,n,e,_,_,d⟩,_⟩:=I.list h;obtain⟨its',i,⟨m,l,f,_,_,j⟩,_⟩:=I.list g;rw[e] at f;have:b=its':=by simp_all
 subst this;exact r.inj i
def Inv.tuple_inj (I:Inv X pins σ H s)(h:SqT X.K H a xs)(g:SqT X.K H a ys):xs=ys:=by
 obtain⟨b,r,⟨o,e,_,n,d⟩,_⟩:=I.tuple h;obtain⟨its',i,⟨m,f,_,l,j⟩,_⟩:=I.tuple g;rw[e] at f;have:b=its':=by simp_all
 subst this;exact r.inj i
end
abbrev Cx.wish (X:Cx)(E:WvP):Cx:={ X with xe:=E }
abbrev Cx.nox (X:Cx):Cx:=X.wish λ_ _=>False
theorem Cx.Ok.wish {X:Cx}(ok:X.Ok)(E:WvP):(X.wish E).Ok:=
 ⟨ok.mod,ok.kind,ok.glob,ok.blt,ok.above,ok.inj,ok.has,ok.cab,ok.hd,ok.frames,ok.stk,ok.exf,ok.bs,ok.bsz,ok.noex,ok.exfs,ok.funs,ok.frf,ok.tbs⟩
def Cx.Ok.unwish {X:Cx}{E:WvP}(ok:(X.wish E).Ok):X.Ok:=
 ⟨ok.mod,ok.kind,ok.glob,ok.blt,ok.above,ok.inj,ok.has,ok.cab,ok.hd,ok.frames,ok.stk,ok.exf,ok.bs,ok.bsz,ok.noex,ok.exfs,ok.funs,ok.frf,ok.tbs⟩
section
variable {X:Cx}{pins:List (Addr × Obj)}{σ:St}{H:Hp}{s:Shared}{E:WvP}
theorem Inv.wish (I:Inv X pins σ H s)(E:WvP):Inv (X.wish E) pins σ H s:=⟨I.ok.wish E,I.os,I.bare,I.base,I.loc,I.cell,I.free,I.freeC,I.pin,I.hok,I.len⟩
theorem Inv.unwish (I:Inv (X.wish E) pins σ H s):Inv X pins σ H s:=⟨I.ok.unwish,I.os,I.bare,I.base,I.loc,I.cell,I.free,I.freeC,I.pin,I.hok,I.len⟩
theorem SP.unwish {D:Ends}{f:Flow}{s':Shared}(h:SP (X.wish E) pins D f s'):SP X pins D f s':=by
 cases f with
 | next=>obtain⟨a,b,I,q⟩:=h;exact⟨a,b,I.unwish,q⟩
 | brk=>obtain⟨a,b,I,q⟩:=h;exact⟨a,b,I.unwish,q⟩
 | cont=>obtain⟨a,b,I,q⟩:=h;exact⟨a,b,I.unwish,q⟩
 | ret u=>obtain⟨v,a,b,I,r,q⟩:=h;exact⟨v,a,b,I.unwish,r,q⟩
theorem PSs.nox {st:List Stmt}{t:TS}(h:PSs X.nox st t):PSs X st t:=λa s d H D I b=>
 vJ (h _ s d H D (I.wish _) b) (λ_ _ q=>q.unwish) λ_ _ z=>False.elim z
end
section
variable {X:Cx}{st:Stmt}{rest:List Stmt}{t u:TS}{e:Expr}{te:TE}{pos:Pos}
def zi2:TS:=λD a H=>D.nx a H
def tSeq (t u:TS):TS:=λD a H=>t { D with nx:=u D } a H
def zgD:PSs X [] zi2:=λ_ _ a H _ I h=>wpAny_execs_nil ⟨a,H,I,h⟩
def zdP (g:PS X st t)(i:PSs X rest u):PSs X (st::rest) (tSeq t u):=by
 intro b s l H D I h;refine wpAny_execs_cons (thn (g _ s l H _ I h) λf j q =>?_)
 cases f with
 | next=>
  obtain⟨a,d,e,q⟩:=q;exact i _ j a d D e q
 | ret v=>exact q
 | brk=>exact q
 | cont=>exact q
def zgC (b:PS X st t):PSs X [st] t:=by
 intro a s d H D I h;refine wpAny_execs_cons (thn (b _ s d H D I h) λf e q =>?_)
 cases f with
 | next=>exact wpAny_execs_nil q
 | ret v=>exact q
 | brk=>exact q
 | cont=>exact q
def Inv.quiet {a:List (Addr × Obj)}{b:St}{H:Hp}{s:Shared}(I:Inv X a b H s):interactive X.env=false:=by simp[interactive,I.ok.kind]
def zi3 (d:TE):TS:=λD a H=>d a H λ_ b=>D.nx a b
def zgE (g:PE X e te)(hs:autoParam (swapsWith e none pos.line X.env=pure false) jA1):PS X (.Expr e pos) (zi3 te):=by
 intro a s b H D I h;exact wpAny_Expr_any (thn (g _ s b H _ I h) λv j ⟨x,d,f,r1,i⟩=>⟨b,d,f,i⟩) I.quiet hs
def tRet (a:TE):TS:=λD b H=>a b H D.rt
def zjp (g:PE X e te):PS X (.Return (some e) pos) (tRet te):=by
 intro a s b H D I h;exact wpAny_Return_some (thn (g _ s b H _ I h) λv j ⟨x,d,f,r1,i⟩=>⟨x,b,d,f,r1,i⟩)
def tIfS (c:TT)(t u:TS):TS:=λD a H=>c a H λb d=>if b=true then t D a d else u D a d
def zlR {c:Expr}{a b:List Stmt}{m:TT}(p:PT X c m)(n:PSs X a t)(o:PSs X b u):PS X (.If c a b pos) (tIfS m t u):=by
 intro i s e H D I h;refine wpAny_If (thn (p _ s e H _ I h) λd l q =>?_);obtain⟨f,g,j⟩:=q
 cases d with
 | true=>exact n _ l e f D g j
 | false=>exact o _ l e f D g j
def zeZ:TS:=λ_ _ _=>False
def zdR:PS X st zeZ:=λ_ _ _ _ _ _ h=>h.elim
end
abbrev TG:=V->St->Hp->(St->Hp->Prop)->Prop
abbrev TGs:=List V->St->Hp->(St->Hp->Prop)->Prop
def PG (X:Cx)(a:Expr)(t:TG):Prop:=
 ∀(b:List (Addr × Obj)) (s:Shared) (f:St) (H:Hp) (v:V) (u:Value) (Q:St->Hp->Prop),Inv X b f H s->RelV v u->t v f H Q->
  wpAny (model X.prog X.w) X.A (assign a X.env u) (λ_ g=>∃d e,Inv X b d e g/\Q d e) X.xe s
def PGs (X:Cx)(ts:List Expr)(t:TGs):Prop:=
 ∀(a:List (Addr × Obj)) (s:Shared) (f:St) (H:Hp) (vs:List V) (e:List Value) (Q:St->Hp->Prop),Inv X a f H s->Vals vs e->t vs f H Q->
  wpAny (model X.prog X.w) X.A (assignInOrder ((assignEach ts X.env).map (·.2)) e) (λ_ g=>∃b d,Inv X a b d g/\Q b d) X.xe s
abbrev TSet:=V->V->V->Hp->(Hp->Prop)->Prop
def PSet (X:Cx)(t:TSet):Prop:=
 ∀(a:List (Addr × Obj)) (s:Shared) (f:St) (H:Hp) (o i v:V) (e d u:Value) (Q:Hp->Prop),Inv X a f H s->RelV o e->RelV i d->RelV v u->t o i v H Q->
  wpAny (model X.prog X.w) X.A (setItem e d u) (λ_ g=>∃b,Inv X a f b g/\Q b) X.xe s
section
variable {X:Cx}{pos:Pos}
def z2N (i:Nat):TG:=λv a H Q=>Q (a.set i (some v)) H
def zbB {i:Nat}{x:Str}(d:X.N.Nodup)(f:X.N[i]? = some x)(g:Loc X.env.scope x)(e:autoParam (X.fn x=true\/X.env.scope.names.lookup x=some .local) jD1):PG X (.Name x pos) (z2N i):=by
 intro a s l H v u Q I r h;exact wpAny_assign_Name (z9r I d f g r (λj b=>⟨_,H,b,h⟩) e)
def gNil:TGs:=λvs a H Q=>vs=[]/\Q a H
def zew (t:TG)(u:TGs):TGs:=λvs d H Q=>∃v r,vs=v::r/\t v d H λa b=>u r a b Q
def zgK:PGs X [] gNil:=by
 intro a s b H vs d Q I r h;obtain⟨e,h⟩:=h;subst e;exact assignInOrder_nil ⟨b,H,I,h⟩
def zdT {e:Expr}{es:List Expr}{t:TG}{u:TGs}(i:PG X e t)(j:PGs X es u)
  (hs:autoParam ((assignEach (e::es) X.env).map (·.2)=assign e X.env::(assignEach es X.env).map (·.2)) jA1):PGs X (e::es) (zew t u):=by
 intro b s p H vs q Q I r h;obtain⟨v,w,g,h⟩:=h;subst g
 cases r with
 | cons r m=>
  rw[hs];refine assignInOrder_cons (thn (i _ s p H _ _ _ I r h) λ_ n o =>?_);obtain⟨a,d,f,l⟩:=o;exact j _ n a d _ _ Q f m l
def gTup (K:W.Frag)(n:Nat)(t:TGs):TG:=λv d H Q=>∃a b,v = .ref a/\SqT K H a b/\b.length=n/\t b d H Q
def zjv {es:List Expr}{k:Nat}{t:TGs}{n:Nat}(m:X.calm=true)(h:PGs X es t)
  (q:autoParam ((assignEach es X.env).length=n) jA1) (d:autoParam ((assignEach es X.env).findIdx? (·.1)=none) jA1):PG X (.Tuple es k pos) (gTup X.K n t):=by
 intro g s C H v u Q I r f;obtain⟨a,A,l,w,p,f⟩:=f;subst l
 cases r
 obtain⟨z,i,x,F⟩:=I.tuple w;refine assign_Tuple_tuple (I.ok.hd m) x (by simp[q, <- p,i.length]) d λE y =>?_;have j  := I.kept (t':=s.toks) λb o e=>y b o (wI (wu e)) e;exact h _ _ C H A _ Q j (by simpa using i) f
def gSub (f ti:TE)(t:TSet):TG:=λv a H Q=>f a H λo b=>ti a b λi d=>t o i v d λe=>Q a e
def zjw {o i:Expr}{g ti:TE}{t:TSet}(A:PE X o g)(z:PE X i ti)(hs:PSet X t)
  (w:autoParam (∀v,assign (.Subscript o i pos) X.env v=(do
   let a <- holding [v] (eval o X.env)
   let b <- holding [v,a] (eval i X.env)
   standAt pos
   holding [v,a,b] (setItem a b v)
   release [v,a,b] [])) jC1):PG X (.Subscript o i pos) (gSub g ti t):=by
 intro f s e H v u Q I r h;rw[w];refine wc (vS (thn (A _ s e H _ I h) λa G d =>?_));obtain⟨x,j,n,r1,C⟩:=d;refine wc (vS (thn (z _ G e j _ n C) λb J d =>?_));obtain⟨y,l,p,r2,E⟩:=d;refine wc (wpAny_standAt (wc (vS (thn (hs _ J e l x y v a b u _ p r1 r2 r E) λ_ K d =>?_))));obtain⟨m,q,F⟩:=d;exact wpAny_release ⟨e,m,q,F⟩
def tAsg (d:TE)(g:TG):TS:=λD a H=>d a H λx b=>g x a b D.nx
def zjs {b e:Expr}{d:TE}{g:TG}(m:PE X e d)(n:PG X b g)(hs:autoParam (swapsWithSole [b] e pos.line X.env=pure false) jA1)(o:autoParam (swappedStores [b] e X.env=pure none) jA1)
  (l:autoParam ((assignEach [b] X.env).map (·.2)=[assign b X.env]) jA1):PS X (.Assign [b] e pos) (tAsg d g):=by
 intro a s f H D I h;refine wpAny_Assign_stores (thn (m a s f H _ I h) λv r t =>?_) hs o;obtain⟨x,i,j,r1,p⟩:=t;rw[l];exact thn (n a r f i x v _ j r1 p) λ_ u q=>q
def zjo {i:Nat}{x:Str}{e:Expr}{d:TE}{a:Pos}(l:X.N.Nodup)(o:X.N[i]? = some x)(p:Loc X.env.scope x)(m:PE X e d)(hs:autoParam (swapsWith e (some (.Name x a)) pos.line X.env=pure false) jA1)(n:autoParam (X.fn x=true\/X.env.scope.names.lookup x=some .local) jD1):
  PS X (.Assign [.Name x a] e pos) (tAsg d (z2N i)):=by
 intro b s t H D I h;refine wpAny_Assign_Name (thn (m _ s t H _ I h) λv u r =>?_) hs;obtain⟨y,f,g,r1,q⟩:=r;exact z9r g l o p r1 (λw j=>⟨_,f,j,q⟩) n
def zeY (c:TT)(h:TS):TS:=λD a H=>∃W:Nat->St->Hp->Prop,(∃m,W m a H)/\∀m a H,W m a H->
 c a H λb f=>if b=true then ∃N:St->Hp->Prop,(∀d e,N d e->∃g,g<m/\W g d e)/\h { D with nx:=N,ct:=N,bk:=D.nx } a f else D.nx a f
def zdQ {c:Expr}{g:List Stmt}{J:TT}{G:TS}(F:PassesOwn (model X.prog X.w) X.A X.env X.xe)(M:PT X c J)(L:PSs X g G):PS X (.While c g [] pos) (zeY J G):=by
 intro a s Z H D I h;obtain⟨W,⟨O,T⟩,j⟩:=h;refine wpAny_While (codeAny_whileLoop (λn Q=>∃l x,Inv X a l x Q/\W n l x) ?_ O ⟨Z,H,I,T⟩);rintro n R ⟨e,y,K,U⟩;refine u6 F (thn (M a R e y _ K (j n e y U)) λb S Y =>?_);obtain⟨z,C,m⟩:=Y
 cases b with
 | true=>
  obtain⟨N,E,m⟩:=m;rw[if_pos rfl];refine u6 F (thn (L a S e z _ C m) λf s3 o =>?_)
  cases f with
  | next=>
   obtain⟨d,i,p,t⟩:=o;obtain⟨r,q,u⟩:=E d i t;exact⟨r,q,d,i,p,u⟩
  | cont=>
   obtain⟨d,i,p,t⟩:=o;obtain⟨r,q,u⟩:=E d i t;exact⟨r,q,d,i,p,u⟩
  | brk=>exact o
  | ret v=>exact o
 | false=>
  exact wpAny_execs_nil ⟨e,z,C,m⟩
end
structure It where
 go:Nat->Hp->Prop
 yld:Nat->Hp->V->Hp->Prop
 stop:Nat->Hp->Prop
def FpOk (X:Cx)(a:List (Addr × Obj))(H:Hp)(b:Addr):Prop:=
 H b=none/\b≠X.env.locals/\b ∉ X.fs/\(b∈X.ex\/X.s₀.heap.objs.size<=b)/\(∀x c,X.env.cells.lookup x=some c->c≠b)/\∀p∈X.pn++a,p.1≠b
def Inv.fpOk {X:Cx}{a:List (Addr × Obj)}{i:St}{H f:Hp}{s:Shared}{b:Addr}(I:Inv X a i H s)(d:s.heap.objs.size<=b)(g:f b=none):FpOk X a f b:=by
 refine⟨g,jw (wF I.lt d),I.nofs d,.inr (wM I.sz d),λx c e z =>?_,λp h z =>?_⟩
 .obtain⟨v,q⟩:=I.cell x c e;exact absurd (wF q.lt (by rw[z];exact d)) (vB _)
 .exact absurd (wF (wu (I.pin p h).1) (by rw[z];exact d)) (vB _)
structure Turn (P:Program)(w:World)(K:W.Frag)(tg:Expr)(J:It)(fp:List Addr)(it:Addr)(tn:Nat->Heap->Prop):Prop where
 mem:it∈fp
 obj:∀i h,tn i h->∀b∈fp,∃o,h.get? b=some o/\∀v,o.data ≠ .cell v
 keep:∀i h h',tn i h->(∀b∈fp,∀o,h.get? b=some o->h'.get? b=some o)->tn i h'
 item:∀(X:Cx),X.prog=P->X.w=w->X.K=K->X.calm=true->∀(i:Nat) (pins:List (Addr × Obj)) (s:Shared) (σ:St) (H:Hp) (E:WvP),Inv X pins σ H s->(∀b∈fp,FpOk X pins H b)->tn i s.heap->J.go i H->
  wpAny (model P w) X.A (pyNext (.ref it)) (λr s1=>∃u,r=some u/\
   wpAny (model P w) X.A (letOwnedTupleGo tg (.ref it) u) (λ_ s2=>∃x H',Inv X pins σ H' s2/\RelV x u/\J.yld i H x H'/\tn (i+1) s2.heap/\∀b∈fp,H' b=none) E s1) E s
 done:∀(X:Cx),X.prog=P->X.w=w->X.K=K->X.calm=true->∀(i:Nat) (pins:List (Addr × Obj)) (s:Shared) (σ:St) (H:Hp) (E:WvP),Inv X pins σ H s->(∀b∈fp,FpOk X pins H b)->tn i s.heap->J.stop i H->
  wpAny (model P w) X.A (pyNext (.ref it)) (λr s1=>r=none/\Inv X pins σ H s1) E s
 self:∀(A:Around) (i:Nat) (s:Shared) (Q:WvP) (E:WvP),tn i s.heap->Q (.ref it) s->wpAny (model P w) A (pyIter (.ref it)) Q E s
abbrev TI:=St->Hp->(It->Hp->Prop)->Prop
def PIE (X:Cx)(a:List (Addr × Obj))(j:St)(i:Expr)(R:It->Hp->Prop)(e:Value)(g:Shared):Prop:=
 ∃(it:Addr) (f:List Addr) (h:Nat->Heap->Prop) (J:It) (d:Hp),e = .ref it/\Inv X a j d g/\Turn X.prog X.w X.K i J f it h/\h 0 g.heap/\(∀b∈f,FpOk X a d b)/\R J d
def PI (X:Cx)(f b:Expr)(g:TI):Prop:=
 ∀(a:List (Addr × Obj)) (s:Shared) (d:St) (H:Hp) (R:It->Hp->Prop),Inv X a d H s->g d H R->
  wpAny (model X.prog X.w) X.A (eval b X.env) (λv e=>wpAny (model X.prog X.w) X.A (pyIter v) (PIE X a d f R) X.xe e) X.xe s
def zer {M:Model}{A:Around}{E:WvP}{s:Shared}{b:Expr}{it:Addr}{u:Value}{o:Obj}{n:String}{vs:Array Value}{Q:Unit->Shared->Prop}(f:s.heap.get? it=some o)(d:o.cls = .type n)(e:o.data = .fields vs)
  (g:["enumerate","zip","dict_itemiterator","dict_reverseitemiterator","odict_iterator","itertools.zip_longest","itertools.pairwise"].contains n=false) (a:Q () s):wpAny M A (letOwnedTupleGo b (.ref it) u) Q E s:=by
 cases b <;> first
  | exact wg a
  | (cases u <;> first
    | exact wg a
    | (refine wc (wpAny_load f ?_)
       rw[d,e];show wpAny M A (if (["enumerate","zip","dict_itemiterator","dict_reverseitemiterator","odict_iterator","itertools.zip_longest","itertools.pairwise"].contains n && vs[0]? == some (rawInt _))=true then _ else _) Q E s;rw[if_neg (by grind)];exact wg a))
def Itl (K:W.Frag)(a:Addr):It:=
 ⟨λi H=>∃b x,SqL K H a b/\b[i]? = some x,λi H x d=>d=H/\∀b,SqL K H a b->b[i]? = some x,λi H=>∃b,SqL K H a b/\b.length<=i⟩
def Itt (K:W.Frag)(a:Addr):It:=
 ⟨λi H=>∃b x,SqT K H a b/\b[i]? = some x,λi H x d=>d=H/\∀b,SqT K H a b->b[i]? = some x,λi H=>∃b,SqT K H a b/\b.length<=i⟩
def Itr (b:Int)(n:Nat):It:=⟨λi _=>i<n,λi H x a=>a=H/\x = .int (b+i),λi _=>n<=i⟩
def zaY {P:Program}{w:World}{K:W.Frag}{tg:Expr}(a it:Addr):Turn P w K tg (Itl K a) [it] it (λi h=>h.IsListIter it a i) where
 mem:=by simp
 obj:=λi h f b j=>by
  have e:b=it:=by simpa using j
  subst e;obtain⟨o,e,c,d⟩:=f;exact⟨o,e,λv z=>by rw[d] at z;cases z⟩
 keep:=λi h m f k=>f.at λo e=>k it (by simp) o e
 item:=by
  intro X G L F Q i g s R H E I n f J;subst G L F;obtain⟨xs,x,q,M⟩:=J;obtain⟨N,O,p,hz⟩:=I.list q;obtain⟨u,Y,ru⟩:=O.get M;obtain⟨r,t,U,y,A,C⟩:=n it (by simp);refine wpAny_pyNext_list_item f p.isList (x:=u) (by simpa using Y) λm l sb =>?_;have S:Inv X g R H { s with heap:=m }:=I.turned (t':=s.toks) (λb o j e=>(sb.2 b j).trans e) r t y A C;obtain⟨o,e,c,d⟩:=id l;exact⟨u,rfl,zer (s:={ s with heap:=m }) e c d (by decide) ⟨x,H,S,ru,⟨rfl,λys Z=>by rw[I.list_inj Z q];exact M⟩,l,λb j=>(n b j).1⟩⟩
 done:=by
  intro X G L F Q i g s R H E I n f J;subst G L F;obtain⟨xs,q,M⟩:=J;obtain⟨N,O,p,hz⟩:=I.list q;obtain⟨r,t,U,y,A,C⟩:=n it (by simp);have hl:=O.length;exact wpAny_pyNext_list_end (I.ok.hd Q) f p.isList (by simp;lia) λm T=>⟨rfl,I.turned (t':=s.toks) (λb o j e=>T b o j e) r t y A C⟩
 self:=λ_ _ _ _ _ f h=>wpAny_pyIter_listiter f h
def za9 {P:Program}{w:World}{K:W.Frag}{tg:Expr}(a it:Addr):Turn P w K tg (Itt K a) [it] it (λi h=>h.IsTupleIter it a i) where
 mem:=by simp
 obj:=λi h f b j=>by
  have e:b=it:=by simpa using j
  subst e;obtain⟨o,e,c,d⟩:=f;exact⟨o,e,λv z=>by rw[d] at z;cases z⟩
 keep:=λi h n f k=>f.at λo e=>k it (by simp) o e
 item:=by
  intro X J M G Q i g s R H E I q f L;subst J M G;obtain⟨xs,x,r,N⟩:=L;obtain⟨l,O,p,hz⟩:=I.tuple r;obtain⟨u,Y,ru⟩:=O.get N;obtain⟨t,y,U,A,C,F⟩:=q it (by simp);refine wpAny_pyNext_tuple_item f (show s.heap.IsTuple a l.toArray from p) (x:=u) (by simpa using Y) λn m sb =>?_;have S:Inv X g R H { s with heap:=n }:=I.turned (t':=s.toks) (λb o j e=>(sb.2 b j).trans e) t y A C F;obtain⟨o,e,c,d⟩:=id m;exact⟨u,rfl,zer (s:={ s with heap:=n }) e c d (by decide) ⟨x,H,S,ru,⟨rfl,λys Z=>by rw[I.tuple_inj Z r];exact N⟩,m,λb j=>(q b j).1⟩⟩
 done:=by
  intro X J M G Q i g s R H E I q f L;subst J M G;obtain⟨xs,r,N⟩:=L;obtain⟨l,O,p,hz⟩:=I.tuple r;obtain⟨t,y,U,A,C,F⟩:=q it (by simp);have hl:=O.length;exact wpAny_pyNext_tuple_end (I.ok.hd Q) f (show s.heap.IsTuple a l.toArray from p) (by simp;lia) λn T=>⟨rfl,I.turned (t':=s.toks) (λb o j e=>T b o j e) t y A C F⟩
 self:=λ_ _ _ _ _ f h=>wpAny_pyIter_tupleiter f h
def zaa {P:Program}{w:World}{K:W.Frag}{R:Expr}(it:Addr)(m:Int)(n:Nat):Turn P w K R (Itr m n) [it] it (λi h=>IsRangeIter h it (m+(i:Nat)*1) ((n:Int) - (i:Nat)) 1) where
 mem:=by simp
 obj:=λi h d b f=>by
  simp_all
 keep:=λi h j d k=>k it (by simp) _ d
 item:=by
  intro X z F y A i a s J H E I l d C;subst z F y;obtain⟨p,q,N,r,u,x⟩:=l it (by simp);have W:=Walks.range (prog:=X.prog) (w:=X.w) (I.ok.hd A) it m 1 n;refine W.item i s _ _ C d λv j G O g Q =>?_;obtain⟨t,rfl⟩:=O;have L:Inv X a J H { s with heap:=j,toks:=G }:=I.turned (λb o f e=>Q b o (by simpa using f) e) p q r u x;refine⟨_,rfl,zer (s:={ s with heap:=j,toks:=G }) (n:="range_iterator") g rfl rfl (by decide) ⟨.int (m+i),H,L,⟨t,?_⟩,⟨rfl,rfl⟩,g,λb f=>(l b f).1⟩⟩;rw[Int.mul_one]
 done:=by
  intro X z F y A i a s J H E I l d C;subst z F y;obtain⟨p,q,N,r,u,x⟩:=l it (by simp);exact wpAny_pyNext_range_end (I.ok.hd A) d (by have:n<=i:=C;lia) λj M=>⟨rfl,I.turned (t':=s.toks) (λb o f e=>M b o f e) p q r u x⟩
 self:=λ_ _ _ _ _ d h=>wpAny_pyIter_rangeiter d h
section
variable {X:Cx}{tg:Expr}
def zdu {a:List (Addr × Obj)}{g:St}{H:Hp}{s:Shared}{R:It->Hp->Prop}{E:WvP}{lo d:Int}{t u v:Tok}{tk:Nat}(I:Inv X a g H s)(j : -(2 ^ 62)<=lo)(l:lo<2 ^ 62)(m : -(2 ^ 62)<=d)(n:d<2 ^ 62)
  (q:R (Itr lo (d - lo).toNat) H):wpAny (model X.prog X.w) X.A (pyIter (.ref s.heap.objs.size)) (PIE X a g tg R) E { s with heap:=s.heap.push { cls :=.type "range",data :=.fields #[.int lo t,.int d u,.int 1 v] },toks:=tk }:=by
 refine wpAny_pyIter_range (IsRange.new ..) (small_one j l m n) ?_;have f:Inv X a g H { s with heap:=s.heap.push { cls :=.type "range",data :=.fields #[.int lo t,.int d u,.int 1 v] },toks:=tk }:=I.kept λb o e=>wf _ e;refine⟨(s.heap.push _).objs.size,[(s.heap.push _).objs.size],_,_,H,rfl,
  f.kept λb o e=>wf _ e,zaa _ lo _,?_,λb p =>?_,q⟩
 .have h:lo+((0:Nat))*1=lo:=by simp
  have i:(((d - lo).toNat:Nat)) - ((0:Nat):Int)=Builtin.Range.rangeSize lo d 1:=by rw[rangeSize_one];split <;> lia
  rw[h,i];exact wn _ rfl
 .have e:b=(s.heap.push { cls :=.type "range",data :=.fields #[.int lo t,.int d u,.int 1 v] }).objs.size:=by simpa using p
  subst e;exact f.fpOk (wq _) (f.hok.fresh (wq _))
def zkN (b:TA):TI:=λd H R=>b d H λvs a=>∃j:Int,vs=[.int j] /\ -(2 ^ 62)<=j/\j<2 ^ 62/\R (Itr 0 j.toNat) a
def zbA {a:Expr}{g:TA}{p b:Pos}(m:Gl X "range")(n:X.mg "range"=none)(l:PA X [a] g)(hs:autoParam (starEach [a] X.env=[(false,eval a X.env)]) jA1):PI X tg (.Call (.Name "range" p) [a] [] b) (zkN g):=by
 intro f s x H R I h;refine Call_ (z81 I m n boot_range (jx (thn (l b _ s x H _ I h) λA z w =>?_) hs rfl));obtain⟨vs,y,i,r1,d⟩:=w;obtain⟨j,e,d,o,q⟩:=d;subst e
 cases r1 with
 | cons r u=>
  cases u
  obtain⟨t,rfl⟩:=r;exact call_range_1 (zdu i (by lia) (by lia) d o (by simpa using q))
def tFor (n:TI)(g:TG)(l:TS):TS:=λD a H=>n a H λJ h=>∃W:Nat->Nat->St->Hp->Prop,(∃m,W 0 m a h)/\∀i m a H,W i m a H->
 (J.stop i H/\D.nx a H)\/(J.go i H/\∃N:St->Hp->Prop,(∀d b,N d b->∃f,f<m/\W (i+1) f d b)/\∀x b,J.yld i H x b->g x a b λe j=>l { D with nx:=N,ct:=N,bk:=D.nx } e j)
def z6q (a:List Addr)(h:Heap):List (Addr × Obj):=a.filterMap λb=>(h.get? b).map λo=>(b,o)
def z3G {a:List Addr}{h:Heap}{b:Addr}{o:Obj}(d:b∈a)(e:h.get? b=some o):(b,o)∈z6q a h:=uE.mpr ⟨b,d,by rw[e];rfl⟩
def zbP {a:List Addr}{h:Heap}{p:Addr × Obj}(g:p∈z6q a h):p.1∈a/\h.get? p.1=some p.2:=by
 obtain⟨b,f,e⟩:=uE.mp g
 cases q:h.get? b with
 | none=>simp_all
 | some o=>
  rw[q] at e;have d  := vh e;subst d;exact⟨f,q⟩
def Inv.pinned {a:List (Addr × Obj)}{h:St}{H:Hp}{s:Shared}{f:List Addr}(I:Inv X a h H s)(i:∀b∈f,FpOk X a H b)(j:∀b∈f,∃o,s.heap.get? b=some o/\∀v,o.data ≠ .cell v):Inv X (a++z6q f s.heap) h H s:=
 I.pins_of λp l=>(wG.mp l).elim (λz=>I.pin p (vE _ z)) λz=>by
  obtain⟨g,e⟩:=zbP z;obtain⟨n,q,r,_⟩:=i p.1 g;obtain⟨o,m,d⟩:=j p.1 g
  simp_all
def Inv.unpinned {a pl:List (Addr × Obj)}{b:St}{H:Hp}{s:Shared}(I:Inv X (a++pl) b H s):Inv X a b H s:=I.pins_of λp d=>I.pin p (vE _ (jJ _ d))
def zjr {y:Expr}{F:List Stmt}{wi:TI}{g:TG}{tb:TS}{a0:Pos}(O:PassesOwn (model X.prog X.w) X.A X.env X.xe)(hc:X.calm=true)(hi:PI X tg y wi)(hg:PG X tg g)(t:PSs X F tb)
  (hs:autoParam (∀x,foldedSetIterable y X.env x=pure x) jC1):PS X (.For tg y F [] a0) (tFor wi g tb):=by
 intro a s σ H D I h;refine wpAny_For (thn (hi a s σ H _ I h) λv s1 h1=>thn h1 λa3 s2 h2 =>?_) hs;obtain⟨it,L,tn,J,H2,e,I2,T,a1,f2,W,⟨m0,w0⟩,S⟩:=h2;subst e;have z:∀{H':Hp},(∀b∈L,H' b=none)->∀b∈L,FpOk X a H' b:=λhn b t=>⟨hn b t,(f2 b t).2⟩
 refine codeAny_forLoop_any (λn s'=>∃i C H',Inv X a C H' s'/\tn i s'.heap/\(∀b∈L,H' b=none)/\W i n C H') ?_ m0 ⟨0,σ,H2,I2,a1,λb t=>(f2 b t).1,w0⟩;rintro n s3 ⟨i,E,U,I3,R,M,w3⟩
 rcases S i n E U w3 with ⟨stop,qn⟩ | ⟨go,N,hN,step⟩
 .refine u6 O (thn (T.done X rfl rfl rfl hc i a s3 E U X.xe I3 (z M) R stop) λr s4 ⟨hr,I4⟩ =>?_);subst hr;exact wpAny_execs_nil ⟨E,U,I4,qn⟩
 .refine u6 O (thn (T.item X rfl rfl rfl hc i a s3 E U X.xe I3 (z M) R go) λr s4 ⟨u,hr,h4⟩ =>?_);subst hr;refine u6 O (thn h4 λ_ s5 z9 =>?_);obtain⟨x,H5,I5,r5,y5,K,Z⟩:=z9;have Y:=I5.pinned (z Z) (T.obj _ _ K);refine u6 O (thn (hg _ s5 E H5 x u _ Y r5 (step x H5 y5)) λ_ s6 z9 =>?_);obtain⟨a2,H6,I6,q6⟩:=z9;refine u6 O (thn (t _ s6 a2 H6 _ I6 q6) λf s7 G =>?_);have q:∀{j:St}{l:Hp},Inv X (a++z6q L s5.heap) j l s7->N j l->∃m,m<n/\∃i C H',Inv X a C H' s7/\tn i s7.heap/\(∀b∈L,H' b=none)/\W i m C H':=λ{j l} p Q=>by
   obtain⟨m',hm,w7⟩:=hN j l Q;refine⟨m',hm,i+1,j,l,p.unpinned,T.keep _ _ _ K λb t o e=>(p.pin (b,o) (vE _ (vE _ (z3G t e)))).1,λb t =>?_,w7⟩;obtain⟨o,e,d⟩:=T.obj _ _ K b t;exact(p.pin (b,o) (vE _ (vE _ (z3G t e)))).2.1
  cases f with
  | next=>obtain⟨j,l,p,Q⟩:=G;exact q p Q
  | cont=>obtain⟨j,l,p,Q⟩:=G;exact q p Q
  | brk=>obtain⟨j,l,p,G⟩:=G;exact⟨j,l,p.unpinned,G⟩
  | ret v=>obtain⟨x7,j,l,p,r7,G⟩:=G;exact⟨x7,j,l,p.unpinned,r7,G⟩
end
abbrev R2:=V->V->Hp->VK->Prop
def OpR (X:Cx)(f:Value->Value->Sem Value)(r:R2):Prop:=
 ∀(a:List (Addr × Obj)) (s:Shared) (b:St) (H:Hp) (x y:V) (v u:Value) (Q:VK),Inv X a b H s->RelV x v->RelV y u->r x y H Q->
  wpAny (model X.prog X.w) X.A (f v u) (EP X a b Q) X.xe s
def UnR (X:Cx)(f:Value->Sem Value)(r:V->Hp->VK->Prop):Prop:=
 ∀(a:List (Addr × Obj)) (s:Shared) (b:St) (H:Hp) (x:V) (v:Value) (Q:VK),Inv X a b H s->RelV x v->r x H Q->
  wpAny (model X.prog X.w) X.A (f v) (EP X a b Q) X.xe s
def z0C (X:Cx)(f:Value)(r:List V->Hp->VK->Prop):Prop:=
 ∀(a:List (Addr × Obj)) (s:Shared) (e:St) (H:Hp) (d:List V) (b:List Value) (Q:VK),Inv X a e H s->Vals d b->r d H Q->
  wpAny (model X.prog X.w) X.A (call f b) (EP X a e Q) X.xe s
def tOp (r:R2)(e f:TE):TE:=λa H Q=>e a H λx b=>f a b λy d=>r x y d Q
def tUn (r:V->Hp->VK->Prop)(b:TE):TE:=λd H Q=>b d H λx a=>r x a Q
def rI (C:Int->Int->Prop)(g:Int->Int->V):R2:=λx y H Q=>∃i j,x = .int i/\y = .int j/\C i j/\Q (g i j) H
def rI0 (g:Int->Int->V):R2:=λx y H Q=>∃i j,x = .int i/\y = .int j/\Q (g i j) H
def rU (g:Int->V):V->Hp->VK->Prop:=λx H Q=>∃i,x = .int i/\Q (g i) H
section
variable {X:Cx}{a b c:Expr}{ta tb tc:TE}{pos:Pos}
def binT (q:PE X a ta)(r:PE X b tb){d:List (Addr × Obj)}{s:Shared}{g:St}{H:Hp}{R:V->V->Hp->Prop}(I:Inv X d g H s)
  (h:ta g H λx m=>tb g m λy e=>R x y e) {Q:WvP}{f:Value->Value->Sem Value}
  (t:∀v u l x y e,Inv X d g e l->RelV x v->RelV y u->R x y e->wpAny (model X.prog X.w) X.A (f v u) Q X.xe l):
  wpAny (model X.prog X.w) X.A (eval a X.env) (λv i=>wpAny (model X.prog X.w) X.A (eval b X.env) (λu j=>wpAny (model X.prog X.w) X.A (f v u) Q X.xe j) X.xe i) X.xe s:=by
 refine thn (q _ s g H _ I h) λv E n =>?_;obtain⟨x,m,o,r1,z⟩:=n;refine thn (r _ E g m _ o z) λu l n =>?_;obtain⟨y,e,p,r2,C⟩:=n;exact t v u l x y e p r1 r2 C
def zlT {op:Operator}{r:R2}(j:OpR X (binaryOp op) r)(g:PE X a ta)(i:PE X b tb):PE X (.BinOp a op b pos) (tOp r ta tb):=by
 intro d s o H Q I h;exact wpAny_BinOp (binT g i I h λv u n x y e f l m q=>j _ n o e x y v u Q f l m q)
def zlS {op:UnaryOp}{r:V->Hp->VK->Prop}(i:UnR X (unaryOp op) r)(g:PE X a ta):PE X (.UnaryOp op a pos) (tUn r ta):=by
 intro b s d H Q I h;exact UnaryOp_ (thn (g _ s d H _ I h) λv l ⟨x,e,f,r1,j⟩=>i _ l d e x v Q f r1 j)
def opI {f:Value->Value->Sem Value}{C:Int->Int->Prop}{g:Int->Int->Int}
  (a:∀(i j:Int) (t u:Tok) (s:Shared) (Q:WvP) (E:WvP),C i j->Q (.int (g i j) s.toks) { s with toks:=s.toks+1 }->wpAny (model X.prog X.w) X.A (f (.int i t) (.int j u)) Q E s):
  OpR X f (rI C λi j =>.int (g i j)):=by
 intro b s n H x y v u Q I e l h;obtain⟨i,j,rfl,rfl,d,q⟩:=h;obtain⟨t,rfl⟩:=e;obtain⟨m,rfl⟩:=l;exact a i j t m s _ _ d ⟨.int _,H,I.tok _,⟨_,rfl⟩,q⟩
def opI0 {f:Value->Value->Sem Value}{g:Int->Int->Int}
  (a:∀(i j:Int) (t u:Tok) (s:Shared) (Q:WvP) (E:WvP),Q (.int (g i j) s.toks) { s with toks:=s.toks+1 }->wpAny (model X.prog X.w) X.A (f (.int i t) (.int j u)) Q E s):
  OpR X f (rI0 λi j =>.int (g i j)):=by
 intro b s m H x y v u Q I d e h;obtain⟨i,j,rfl,rfl,q⟩:=h;obtain⟨t,rfl⟩:=d;obtain⟨l,rfl⟩:=e;exact a i j t l s _ _ ⟨.int _,H,I.tok _,⟨_,rfl⟩,q⟩
def opB0 {f:Value->Value->Sem Value}{g:Int->Int->Bool}
  (a:∀(i j:Int) (t u:Tok) (s:Shared) (Q:WvP) (E:WvP),Q (.bool (g i j)) s->wpAny (model X.prog X.w) X.A (f (.int i t) (.int j u)) Q E s):
  OpR X f (rI0 λi j =>.bl (g i j)):=by
 intro b s m H x y v u Q I d e h;obtain⟨i,j,rfl,rfl,q⟩:=h;obtain⟨t,rfl⟩:=d;obtain⟨l,rfl⟩:=e;exact a i j t l s _ _ ⟨.bl _,H,I,rfl,q⟩
def CPow (i j:Int):Prop:=0<=j/\j<=1000000/\i.natAbs<2 ^ 64
def zjX:OpR X (binaryOp .Add) (rI0 λi j =>.int (i+j)):=opI0 λ_ _ _ _ _ _ _ q=>add_int q
def zjR:OpR X (binaryOp .Sub) (rI0 λi j =>.int (i - j)):=opI0 λ_ _ _ _ _ _ _ q=>sub_int q
def zgS:OpR X (binaryOp .Mod) (rI (λ_ j=>j≠0) λi j =>.int (i.fmod j)):=opI λ_ _ _ _ _ _ _ a q=>mod_int' a q
def zjS:OpR X (binaryOp .Pow) (rI CPow λi j =>.int (i ^ j.toNat)):=opI λ_ _ _ _ _ _ _ a q=>pow_int_small a.1 a.2.1 a.2.2 q
def unI {f:Value->Sem Value}{g:Int->Int}
  (a:∀(i:Int) (t:Tok) (s:Shared) (Q:WvP) (E:WvP),Q (.int (g i) s.toks) { s with toks:=s.toks+1 }->wpAny (model X.prog X.w) X.A (f (.int i t)) Q E s):
  UnR X f (rU λi =>.int (g i)):=by
 intro b s e H x v Q I d h;obtain⟨i,rfl,q⟩:=h;obtain⟨t,rfl⟩:=d;exact a i t s _ _ ⟨.int _,H,I.tok _,⟨_,rfl⟩,q⟩
def zhM:UnR X (unaryOp .USub) (rU λi =>.int (-i)):=unI λ_ _ _ _ _ q=>neg_int q
end
def scal:V->V->Bool
 | .non,.non=>true | .non,.int _=>true | .int _,.non=>true | .non,.bl _=>true | .bl _,.non=>true | .non,.str _=>true | .str _,.non=>true
 | .int _,.int _=>true | .bl _,.bl _=>true | .str _,.str _=>true | .byt _,.byt _=>true
 | .int _,.str _=>true | .str _,.int _=>true | .bl _,.str _=>true | .str _,.bl _=>true
 | _,_=>false
def rEq:R2:=λx y H Q=>scal x y=true/\Q (.bl (decide (x=y))) H
def rNe:R2:=λx y H Q=>scal x y=true/\Q (.bl (!decide (x=y))) H
def zcz {i j:Int}:decide (V.int i=V.int j)=(i == j):=by
 rw[jZ];simp
def zfF {i j:Bool}:decide (V.bl i=V.bl j)=(i == j):=by
 rw[jZ];simp
def zcy {i j:Str}:decide (V.str i=V.str j)=(i == j):=by
 rw[jZ];simp
def zcA {i j:Array UInt8}:decide (V.byt i=V.byt j)=(i.toList == j.toList):=by
 rw[jZ]
 simp_all
section
variable {X:Cx}{a b c:Expr}{ta tb tc:TE}{pos:Pos}
def z0A {a:List (Addr × Obj)}{d:St}{H:Hp}{s:Shared}{Q:VK}{k b:Bool}(I:Inv X a d H s)(q:Q (.bl k) H)(e:k=b):EP X a d Q (.bool b) s:=by
 subst e;exact⟨.bl k,H,I,rfl,q⟩
def zm3:OpR X (compareOp .Eq) rEq:=by
 intro e s f H x y v u Q I d a h;obtain⟨hs,q⟩:=h
 cases x with
 | non=>
  cases d
  cases y with
  | non=>cases a;exact PySem.EqNone.eq_none_none (z0A I q (by simp))
  | bl j=>cases a;exact PySem.EqNone.eq_none_bool (z0A I q (by simp))
  | int j=>obtain⟨b,rfl⟩:=a;exact PySem.EqNone.eq_none_int (z0A I q (by simp))
  | str j=>obtain⟨b,rfl⟩:=a;exact PySem.EqNone.eq_none_str (z0A I q (by simp))
  | _=>exact absurd (show false=true from hs) wX
 | bl i=>
  cases d
  cases y with
  | non=>cases a;exact PySem.EqNone.eq_bool_none (z0A I q (by simp))
  | bl j=>cases a;exact eq_bool (z0A I q zfF)
  | str j=>obtain⟨b,rfl⟩:=a;exact PySem.EqMixed.eq_bool_str (z0A I q (by simp))
  | _=>exact absurd (show false=true from hs) wX
 | int i=>
  obtain⟨t,rfl⟩:=d
  cases y with
  | non=>cases a;exact PySem.EqNone.eq_int_none (z0A I q (by simp))
  | int j=>obtain⟨b,rfl⟩:=a;exact eq_int (z0A I q zcz)
  | str j=>obtain⟨b,rfl⟩:=a;exact PySem.EqMixed.eq_int_str (z0A I q (by simp))
  | _=>exact absurd (show false=true from hs) wX
 | str i=>
  obtain⟨t,rfl⟩:=d
  cases y with
  | non=>cases a;exact PySem.EqNone.eq_str_none (z0A I q (by simp))
  | bl j=>cases a;exact PySem.EqMixed.eq_str_bool (z0A I q (by simp))
  | int j=>obtain⟨b,rfl⟩:=a;exact PySem.EqMixed.eq_str_int (z0A I q (by simp))
  | str j=>obtain⟨b,rfl⟩:=a;exact eq_str (z0A I q zcy)
  | _=>exact absurd (show false=true from hs) wX
 | byt i=>
  obtain⟨t,rfl⟩:=d
  cases y with
  | byt j=>obtain⟨b,rfl⟩:=a;exact W.eq_bytes (z0A I q zcA)
  | _=>exact absurd (show false=true from hs) wX
 | _=>cases y <;> exact absurd (show false=true from hs) wX
def zlY:OpR X (compareOp .NotEq) rNe:=by
 intro e s f H x y v u Q I d a h;obtain⟨hs,q⟩:=h
 cases x with
 | non=>
  cases d
  cases y with
  | non=>cases a;exact PySem.EqNone.ne_none_none (z0A I q (by simp))
  | bl j=>cases a;exact PySem.EqNone.ne_none_bool (z0A I q (by simp))
  | int j=>obtain⟨b,rfl⟩:=a;exact PySem.EqNone.ne_none_int (z0A I q (by simp))
  | str j=>obtain⟨b,rfl⟩:=a;exact PySem.EqNone.ne_none_str (z0A I q (by simp))
  | _=>exact absurd (show false=true from hs) wX
 | bl i=>
  cases d
  cases y with
  | non=>cases a;exact PySem.EqNone.ne_bool_none (z0A I q (by simp))
  | bl j=>cases a;exact ne_bool (z0A I q (congrArg not zfF))
  | str j=>obtain⟨b,rfl⟩:=a;exact PySem.EqMixed.ne_bool_str (z0A I q (by simp))
  | _=>exact absurd (show false=true from hs) wX
 | int i=>
  obtain⟨t,rfl⟩:=d
  cases y with
  | non=>cases a;exact PySem.EqNone.ne_int_none (z0A I q (by simp))
  | int j=>obtain⟨b,rfl⟩:=a;exact ne_int (z0A I q (congrArg not zcz))
  | str j=>obtain⟨b,rfl⟩:=a;exact PySem.EqMixed.ne_int_str (z0A I q (by simp))
  | _=>exact absurd (show false=true from hs) wX
 | str i=>
  obtain⟨t,rfl⟩:=d
  cases y with
  | non=>cases a;exact PySem.EqNone.ne_str_none (z0A I q (by simp))
  | bl j=>cases a;exact PySem.EqMixed.ne_str_bool (z0A I q (by simp))
  | int j=>obtain⟨b,rfl⟩:=a;exact PySem.EqMixed.ne_str_int (z0A I q (by simp))
  | str j=>obtain⟨b,rfl⟩:=a;exact ne_str (z0A I q (congrArg not zcy))
  | _=>exact absurd (show false=true from hs) wX
 | byt i=>
  obtain⟨t,rfl⟩:=d
  cases y with
  | byt j=>obtain⟨b,rfl⟩:=a;exact W.ne_bytes (z0A I q (congrArg not zcA))
  | _=>exact absurd (show false=true from hs) wX
 | _=>cases y <;> exact absurd (show false=true from hs) wX
def zlZ:OpR X (compareOp .Lt) (rI0 λi j =>.bl (decide (i<j))):=opB0 λ_ _ _ _ _ _ _ q=>lt_int q
def zm0:OpR X (compareOp .LtE) (rI0 λi j =>.bl (decide (i<=j))):=opB0 λ_ _ _ _ _ _ _ q=>le_int q
def zm1:OpR X (compareOp .Gt) (rI0 λi j =>.bl (decide (j<i))):=opB0 λ_ _ _ _ _ _ _ q=>gt_int q
def zm2:OpR X (compareOp .GtE) (rI0 λi j =>.bl (decide (j<=i))):=opB0 λ_ _ _ _ _ _ _ q=>ge_int q
def zgQ:OpR X (compareOp .IsNot) (λx y H Q=>y = .non/\Q (.bl (!decide (x = .non))) H):=by
 intro a s e H x y v u Q I b d h;obtain⟨rfl,q⟩:=h
 cases d
 refine isnot_none_gen (z0A I q ?_)
 cases x <;> first
  | rfl
  | (obtain⟨t,rfl⟩:=b;rfl)
def zkm (b:Expr){op:CmpOp}(h:autoParam (op ≠ .In) jB1)(e:autoParam (op ≠ .NotIn) jB1):behindInMarks op b=false:=by
 have a:(op == CmpOp.In)=false:=by grind
 have d:(op == CmpOp.NotIn)=false:=by grind
 cases b <;> simp[behindInMarks,a,d]
def zgL {op:CmpOp}{r:R2}(l:OpR X (compareOp op) r)(g:PE X a ta)(i:PE X b tb)(j:behindInMarks op b=false):PE X (.Compare a [op] [b] pos) (tOp r ta tb):=by
 intro d s p H Q I h;exact wpAny_Compare1 (binT g i I h λv u o x y e f m n q=>l _ o p e x y v u Q f m n q) j
def zfT (t:TE):TT:=λb H Q=>t b H λx a=>∃k,x = .bl k/\Q k a
def zgB {op:CmpOp}{r:R2}(t:OpR X (compareOp op) r)(o:PE X a ta)(p:PE X b tb)(q:behindInMarks op b=false):PT X (.Compare a [op] [b] pos) (zfT (tOp r ta tb)):=by
 intro f s d H Q I h;refine wpAny_isTrue_Compare1 (thn (o _ s d H _ I h) λv F ⟨x,g,l,r1,w⟩=>thn (p _ F d g _ l w) λu G ⟨y,i,m,r2,A⟩=>
  thn (t _ G d i x y v u _ m r1 r2 A) λc J ⟨z,j,n,E,k,e,C⟩ =>?_) q
 subst e
 cases E
 exact wpAny_truthy_bool ⟨j,n,C⟩
def z5E:(sizeLine:Nat)<2 ^ 63:=by decide
def zat:OpR X (binaryOp .Add) (λx y H Q=>∃i j,x = .str i/\y = .str j/\i.length+j.length<=sizeLine/\Q (.str (i++j)) H):=by
 intro a s l H x y v u Q I d e h;obtain⟨i,j,rfl,rfl,b,q⟩:=h;obtain⟨t,rfl⟩:=d;obtain⟨f,rfl⟩:=e;exact add_str (λf g=>⟨.str _,H,I.tok _,⟨_,rfl⟩,q⟩) b
def z37 {x:V}{a:List Value}(r:Vals [x] a):∃u,a=[u]/\RelV x u:=by
 cases r with
 | cons r1 r2=>cases r2;exact⟨_,rfl,r1⟩
def zhL {x y:V}{a:List Value}(r:Vals [x,y] a):∃u w',a=[u,w']/\RelV x u/\RelV y w':=by
 cases r with
 | cons r1 r2=>
  cases r2 with
  | cons b d=>cases d;exact⟨_,_,rfl,r1,b⟩
def zeP:z0C X (.builtin "abs") (λxs H Q=>∃i,xs=[.int i]/\Q (.int (if i<0 then -i else i)) H):=by
 intro a s e H xs d Q I r h;obtain⟨i,rfl,q⟩:=h;obtain⟨u,rfl,t,rfl⟩:=z37 r;exact call_abs_int λu b=>⟨.int _,H,I.tok _,⟨_,rfl⟩,q⟩
def zcM (d:X.calm=true):z0C X (.builtin "min") (λxs H Q=>∃i j,xs=[.int i,.int j]/\Q (.int (if j<i then j else i)) H):=by
 intro b s n H xs l Q I r h;obtain⟨i,j,rfl,q⟩:=h;obtain⟨u,m,rfl,⟨t,rfl⟩,⟨f,rfl⟩⟩:=zhL r;refine min_two_ints (I.ok.hd d) λe g k=>⟨_,H,I.kept k,?_,q⟩
 by_cases a:j<i
 .rw[if_pos a,if_pos a];exact⟨_,rfl⟩
 .rw[if_neg a,if_neg a];exact⟨_,rfl⟩
end
structure ObjM (h:Heap)(x dx C:Addr)(mA:WmP):Prop where
 obj:h.get? x=some (W.instObj C dx)
 ns:h.Ns1 dx mA
 ne:dx≠x
def zc8 {h:Heap}{d:Addr}{f:WmP}(n:h.Ns1 d f):∃g,h.get? d=some g/\∀name,W.lookIn name g=some (f name):=by
 obtain⟨o,i,s,p,j,l,_,m⟩:=n;refine⟨o,p,λname =>?_⟩;have e:=m name;unfold nsFind findBy at e;rw[<- Array.find?_toList] at e;unfold W.lookIn;rw[j];dsimp only
 split
 .simp_all
 .rename_i q
  rw[q] at e;have a:i.toList.any (·.refKey)=false:=by
   rw[List.any_eq_false];intro y r;obtain⟨z,t,b⟩:=l y (Array.mem_toList_iff.mp r);simp[DictEntry.refKey,b]
  grind
def ObjM.look {h:Heap}{x b C:Addr}{d:WmP}(I:ObjM h x b C d):∃a,W.InstAt h x (W.instObj C b) C (some a)/\∀name,W.lookIn name a=some (d name):=
 let ⟨a,f,e⟩:=zc8 I.ns
 ⟨a,⟨I.obj,rfl,rfl,f⟩,e⟩
section
variable {P:Program}{w:World}{H H':Hp}{h h':Heap}{a C dx:Addr}{fs fs':List (Str × V)}
def zhf (g:HOk P w H h)(e:H a=some (.ins C dx fs)):∃b,ObjM h a dx C b/\(∀f,RelO (fs.lookup f) (b f))/\PySem.Within b (fs.map (·.1))/\fs.length<=1000/\H dx=some (.own a):=by
 obtain⟨d,z,ne,i,b,n,r,q⟩:=(g a _ e)
 exact⟨b,⟨i,n,ne⟩,r,q,z,d⟩
end
structure Cls (K:W.Frag)(C:Addr):Prop where
 pg:W.plainGet K C Str.empty=true
 hd:W.hasDictIn K C=true
 po:W.plainOver K C=true
 sa:W.findIn K (.ref C) "__setattr__"=some (some (.builtin "object.__setattr__"))
def Cls.get {K:W.Frag}{C:Addr}(c:Cls K C)(f:Str):W.plainGet K C f=true:=c.pg
section
variable {X:Cx}{pins:List (Addr × Obj)}{σ:St}{H:Hp}{s:Shared}{A:Around}{E:WvP}{Q:WvP}{c:Value}{b:Bool}
inductive TyOf (K:W.Frag) (H:Hp):V->Value->Prop where
 | non:TyOf K H .non (.type "NoneType")
 | bl (x:Bool):TyOf K H (.bl x) (.type "bool")
 | int (i:Int):TyOf K H (.int i) (.type "int")
 | str (x:Str):TyOf K H (.str x) (.type "str")
 | flt (x:UInt64):TyOf K H (.flt x) (.type "float")
 | lst {a:Addr}{xs:List V}(e:H a=some (.lst xs)):TyOf K H (.ref a) (.type "list")
 | frz {a:Addr}{o:Obj}{xs:List V}(e:H a=some (.frz o (.lst xs))):TyOf K H (.ref a) (.type "list")
 | tup {a:Addr}{xs:List V}(e:H a=some (.tup xs)):TyOf K H (.ref a) (.type "tuple")
 | dK {a:Addr}{kvs:List (Key × V)}(e:H a=some (.dK kvs)):TyOf K H (.ref a) (.type "dict")
 | dT {a:Addr}{kvs:List (List Key × V)}(e:H a=some (.dT kvs)):TyOf K H (.ref a) (.type "dict")
 | ins {a C dx:Addr}{fs:List (Str × V)}(e:H a=some (.ins C dx fs)) (cl:Cls K C) (ha:W.findIn K (.ref C) "__class__"=some (some (.builtin "object.__class__")))
   (hn:W.specialIn K (.builtin "object.__class__") "__get__"=some (some (.builtin "getset_descriptor.__get__"))) (htk:W.takesIn K (.builtin "object.__class__")=some true)
   (hm:W.mroIn K C (.type "object")=some true):TyOf K H (.ref a) (.ref C)
def z4s {x:V}{u t:Value}(I:Inv X pins σ H s)(f:RelV x u)(ty:TyOf X.K H x t)(e:W.kitOne X.K t c=some b)(h:∀tk,Q (.bool b) { s with toks:=tk }):
  wpAny (model X.prog X.w) A (call (.builtin "isinstance") [u,c]) Q E s:=by
 cases ty with
 | non=>cases (show u=Value.none from f);exact vU W.kitx_none I.kIn True.intro e (λz=>nomatch z) h
 | bl y=>cases (show u=Value.bool y from f);exact vU W.kitx_bool I.kIn True.intro e (λz=>nomatch z) h
 | int i=>obtain⟨t,q⟩:=(show ∃t,u=Value.int i t from f);cases q;exact vU W.kitx_int I.kIn True.intro e (λz=>nomatch z) h
 | str y=>obtain⟨t,q⟩:=(show ∃t,u=Value.str y t from f);cases q;exact vU W.kitx_str I.kIn True.intro e (λz=>nomatch z) h
 | flt y=>obtain⟨t,q⟩:=(show ∃t,u=Value.float y t from f);cases q;exact vU W.kitx_float I.kIn True.intro e (λz=>nomatch z) h
 | @lst a l d=>
  cases (show u=Value.ref a from f)
  obtain⟨_,_,n,_,g⟩:=(show z1i X.prog X.w H s.heap a (.lst l) from I.hok a _ d)
  exact vU W.kitx_list I.kIn ⟨_,g,rfl⟩ e (λz=>nomatch z) h
 | @frz a S l d=>
  cases (show u=Value.ref a from f)
  obtain⟨_,_,_,n,_,g⟩:=(show z1i X.prog X.w H s.heap a (.frz S (.lst l)) from I.hok a _ d)
  exact vU W.kitx_list I.kIn ⟨_,g,rfl⟩ e (λz=>nomatch z) h
 | @tup a l d=>
  cases (show u=Value.ref a from f)
  obtain⟨_,_,_,p,_⟩:=(show z1i X.prog X.w H s.heap a (.tup l) from I.hok a _ d)
  obtain⟨o,g,m,_⟩:=p;exact vU W.kitx_tuple I.kIn ⟨o,g,m⟩ e (λz=>nomatch z) h
 | @dK a j d=>
  cases (show u=Value.ref a from f)
  obtain⟨_,_,vs,_,p⟩:=(show z1i X.prog X.w H s.heap a (.dK j) from I.hok a _ d)
  obtain⟨o,L,G,g,m,_⟩:=p;exact vU W.kitx_dict I.kIn ⟨o,g,m.1⟩ e (λz=>nomatch z) h
 | @dT a j d=>
  cases (show u=Value.ref a from f)
  obtain⟨_,_,l,_,o,L,G,g,m,_⟩:=(show z1i X.prog X.w H s.heap a (.dT j) from I.hok a _ d)
  exact vU W.kitx_dict I.kIn ⟨o,g,m.1⟩ e (λz=>nomatch z) h
 | @ins a C T fs d F M R r N=>
  cases (show u=Value.ref a from f)
  obtain⟨U,O,_⟩:=zhf I.hok d;obtain⟨Y,J,_⟩:=O.look;exact vU (W.kitx_own (F.get _) F.hd M R r N) I.kIn J e (λz=>nomatch z) h
end
structure Room (k:Nat)(A:Around):Prop where
 hd:A.handled=none
 dp:A.depth+3*k+5<recursionLimit
 un:A.units+16*k+200<cLine
def Room.mono {j k:Nat}{A:Around}(r:Room k A)(h:j<=k):Room j A:=⟨r.hd,by have:=r.dp;lia,by have:=r.un;lia⟩
theorem Room.deeper {k:Nat}{A:Around}(r:Room (k+1) A)(env:Env):Room k (A.deeper env):=
 ⟨r.hd,by have:=r.dp;show A.depth+1+3*k+5<_;lia,by have:=r.un;show A.units+3+16*k+200<_;lia⟩
theorem Room.depth {k:Nat}{A:Around}(r:Room k A):A.depth<recursionLimit:=by have:=r.dp;lia
theorem Room.units {k:Nat}{A:Around}(r:Room k A):A.units+64<cLine:=by have:=r.un;lia
def tNil:TA:=λ_ H Q=>Q [] H
def zi6 (e:TE)(tr:TA):TA:=λa H Q=>e a H λx b=>tr a b λf d=>Q (x::f) d
section
variable {X:Cx}{e:Expr}{es:List Expr}{te:TE}{t:TA}{pos:Pos}
def zjI:PA X [] tNil:=λ_ _ _ _ H Q I h=>Calls.spliced_nil ⟨[],H,I,.nil,h⟩
def zgP (l:PE X e te)(m:PA X es t)(hs:autoParam (starEach (e::es) X.env=(false,eval e X.env)::starEach es X.env) jA1):PA X (e::es) (zi6 te t):=by
 intro a b s d H Q I h;rw[hs];refine Calls.spliced_cons (thn (l _ s d H _ I h) λu p r =>?_);obtain⟨x,f,i,r1,n⟩:=r;exact thn (m a _ p d f _ i n) λy w ⟨q,g,j,r2,o⟩=>⟨x::q,g,j,.cons r1 r2,o⟩
def tTup (t:TA):TE:=λd H Q=>t d H λb a=>b.length<=sizeLine/\∀p,a p=none->Q (.ref p) (upd a p (.tup b))
def tLst (t:TA):TE:=λd H Q=>t d H λb a=>b.length<=sizeLine/\∀p,a p=none->Q (.ref p) (upd a p (.lst b))
def zjx {l}(h:PA X es t):PE X (.Tuple es l pos) (tTup t):=by
 intro d s m H Q I i;refine wpAny_Tuple_spliced (thn (h pos _ s m H _ I i) λj n ⟨o,f,a,r,z,q⟩=>⟨by rw[<- r.length];exact z,?_⟩);have g  := a.hok.fresh (wq _);refine⟨.ref _,upd f _ _,a.laid (λb u e=>wf _ e) (wq _) ?_,rfl,q _ g⟩;exact⟨z,j,r,⟨_,wn _ rfl,rfl,_,rfl⟩,_,wn _ rfl,rfl⟩
def zjB (h:PA X es t):PE X (.List es pos) (tLst t):=by
 intro d s l H Q I i;refine wpAny_List_spliced (thn (h pos _ s l H _ I i) λj m ⟨n,f,a,r,z,q⟩=>⟨by rw[<- r.length];exact z,?_⟩);have g  := a.hok.fresh (wq _);refine⟨.ref _,upd f _ _,a.laid (λb u e=>wf _ e) (wq _) ?_,rfl,q _ g⟩;exact⟨z,j,0,r,wn _ rfl⟩
end
abbrev Sp:=List V->Hp->VK->XK->Prop
abbrev CXT:=List Env->Hp->Shared->XK->Value->Shared->Prop
structure Env0 (P:Program)(w:World)(K:W.Frag)(mg:WmP)(base:Heap)(A:Around)(outer:List Env)(s:Shared)(H:Hp):Prop where
 frames:A.frames=some outer
 mod:Mod K mg base
 bs:∀b o,base.get? b=some o->s.heap.get? b=some o/\H b=none
 bsz:base.objs.size<=s.heap.objs.size
 funs:s.heap.FunFrames base outer
 frf:∀b∈frs outer,H b=none
 tbs:Tbs K H
 hok:HOk P w H s.heap
 bare:AllBare s.gens
def CE (a:List Env)(P:Program)(w:World)(H:Hp)(s:Shared)(Q:VK)(u:Value)(s':Shared):Prop:=
 ∃v b,s'.os=s.os/\AllBare s'.gens/\Un (frs a) [] H b s.heap s'.heap/\HOk P w b s'.heap/\RelV v u/\Q v b
def CR (CX:CXT)(a:List Env)(P:Program)(w:World)(H:Hp)(s:Shared)(Q:VK)(E:XK)(r:Result)(s':Shared):Prop:=
 match r with
 | .ok (.ret u)=>CE a P w H s Q u s'
 | .ok _=>False
 | .error e=>CX a H s E e s'
structure FnOk (P:Program)(w:World)(K:W.Frag)(mg:WmP)(base:Heap)(CX:CXT)(k:Nat)(f:Addr)(fd:FuncData)(ps:List Str)(sp:Sp):Prop where
 len:∀vs H Q E,sp vs H Q E->vs.length=ps.length
 run:∀(A:Around) (outer:List Env) (s:Shared) (H:Hp) (args:Args) (us:List Value) (vs:List V) (Q:VK) (E:XK),Room k A->Env0 P w K mg base A outer s H->BindsTo s fd args (ps.zip us)->Vals vs us->sp vs H Q E->
  codeAny (model P w) A (.call (.ref f) args) (CR CX outer P w H s Q E) s
def FnOk.imp {P:Program}{w:World}{K:W.Frag}{mg:WmP}{a:Heap}{CX:CXT}{k:Nat}{f:Addr}{e:FuncData}{ps:List Str}{sp sp':Sp}(F:FnOk P w K mg a CX k f e ps sp)
  (h:∀vs H Q E,sp' vs H Q E->sp vs H Q E):FnOk P w K mg a CX k f e ps sp':=
 ⟨λvs H Q E q=>F.len vs H Q E (h _ _ _ _ q),λA b s H d m vs Q E j i g l hs=>F.run A _ s H _ m vs Q E j i g l (h _ _ _ _ hs)⟩
section
variable {X:Cx}{pins:List (Addr × Obj)}{σ:St}{H:Hp}{s s':Shared}
def Inv.env0 (I:Inv X pins σ H s):Env0 X.prog X.w X.K X.mg X.base X.A X.stack s H:=
 ⟨I.ok.frames,I.ok.mod,I.bs,wM I.ok.bsz I.sz,I.stack,I.stkFree,I.tbs,I.hok,I.bare⟩
def Inv.after {Q:VK}{u:Value}(I:Inv X pins σ H s)(h:CE X.stack X.prog X.w H s Q u s'):EP X pins σ Q u s':=by
 obtain⟨v,i,j,a,un,e,r,q⟩:=h;obtain⟨l,g,d,t,f⟩:=s';obtain rfl:f=s.os:=j;exact⟨v,i,I.call un e a (λb z=>absurd z (by simp)),r,q⟩
end
def zfU (sp:Sp)(a:List V)(E:XK)(t:TA):TE:=λd H Q=>t d H λvs b=>sp (vs++a) b Q E
def z6i (K:W.Frag)(d:FuncData)(ps:List Str)(b:List Value):Prop:=
 ∀(s:Shared) (a:List Value),K.In s.heap->(a++b).length=ps.length->BindsTo s d ⟨a,[]⟩ (ps.zip (a++b))
def z6i.all {K:W.Frag}{b:FuncData}{ps:List Str}(h:∀a:List Value,a.length=ps.length->bindArgs b ⟨a,[]⟩=pure (ps.zip a)):z6i K b ps []:=λs a _ d=>by
 rw[vV] at d ⊢;exact .of_eq (h a d)
def z4z (CX:CXT)(X:Cx)(E:XK):Prop:=∀(a:List (Addr × Obj)) (d:St) (H:Hp) (s:Shared) (e:Value) (b:Shared),Inv X a d H s->CX X.stack H s E e b->X.xe e b
section
variable {X:Cx}{CX:CXT}{k:Nat}{f C:Addr}{fd:FuncData}{ps:List Str}{sp:Sp}{dvs:List V}{ds:List Value}{E:XK}{x m:Str}{p pos apos:Pos}{e o:Expr}{es:List Expr}{ta:TE}{t:TA}
def zf7 {a:List (Addr × Obj)}{g:St}{H:Hp}{s:Shared}{Q:VK}{d:List Value}{vs:List V}(F:FnOk X.prog X.w X.K X.mg X.base CX k f fd ps sp)(n:Room k X.A)(j:z6i X.K fd ps ds)(l:Vals dvs ds)(o:z4z CX X E)
  (I:Inv X a g H s) (r:Vals vs d) (h:sp (vs++dvs) H Q E):wpAny (model X.prog X.w) X.A (call (.ref f) d) (EP X a g Q) X.xe s:=by
 have r2  := r.append l;have m:(d++ds).length=ps.length:=by rw[<- r2.length];exact F.len _ _ _ _ h
 refine wpAny_call (j6 (F.run X.A _ s H _ _ _ Q E n I.env0 (j s d I.kIn m) r2 h) λr p b =>?_)
 cases r with
 | error e=>exact o _ g H s e p I b
 | ok i=>
  cases i with
  | ret u=>exact I.after b
  | next=>exact False.elim b
  | brk=>exact False.elim b
  | cont=>exact False.elim b
def zgM (F:FnOk X.prog X.w X.K X.mg X.base CX k f fd ps sp)(y:Room k X.A)(n:Gl X x)(u:X.mg x=some (.ref f))(o:W.keepIn X.K (.ref f)=true)(j:z6i X.K fd ps ds)(l:Vals dvs ds)(z:z4z CX X E)
  (i:PA X (e::es) t) (a:autoParam ((x == ("__debug__":Str))=false) jB1) (m:autoParam (starEach (e::es) X.env=(false,eval e X.env)::starEach es X.env) jA1) (b:autoParam ((backTo pos (starEach es X.env)).any (·.1)=false) jA1):
  PE X (.Call (.Name x p) (e::es) [] pos) (zfU sp dvs E t):=by
 intro g s C H Q I h;refine j0 (zca I n u ?_ a);refine W.callWith_K I.ok.mod.kin o (thn (i pos _ s C H _ I h) λL J ⟨vs,G,d,r,q⟩=>⟨d.kIn,?_⟩) m b;exact zf7 F y j l z d r q
end
def PK (X:Cx)(b:List Keyword)(t:TA):Prop:=
 ∀(d:Pos) (a:List (Addr × Obj)) (s:Shared) (e:St) (H:Hp) (Q:List V->Hp->Prop),Inv X a e H s->t e H Q->wpAny (model X.prog X.w) X.A (evalAll ((backToKw d (keywordEach b X.env)).map (·.2))) (AP X a e Q) X.xe s
structure z4R (N P:List Str)(sc:Scope):Prop where
 kind:sc.kind = .function
 co:sc.isCoroutine=false
 gen:sc.isGenerator=false
 nd:N.Nodup
 pre:N.take P.length=P
 par:∀x∈P,sc.names.lookup x=some .local\/sc.names.lookup x=some .cell
 nofree:∀y∈sc.names,y.2 ≠ .free
theorem z8q {a:Str->Option NameKind}{x:Str}:∀{binds:List (Str × Value)}{m:WmP},(∀v,(x,v) ∉ binds)->bindL a binds m x=m x
 | [],_,_=>rfl
 | (n,v)::r,m,h=>by
  unfold bindL;rw[z8q λw b=>h w (wp _ b)]
  split
  .have:x≠n:=by rintro rfl;exact h v ww
   simp[this]
  .rfl
theorem z8s {a:Str->Option NameKind}{x:Str}:∀{binds:List (Str × Value)}{m:WmP},(∀v,(x,v) ∉ binds)->bindC a binds m x=m x
 | [],_,_=>rfl
 | (n,v)::r,m,h=>by
  unfold bindC;rw[z8s λw b=>h w (wp _ b)]
  split
  .rfl
  grind
theorem z8r {a:Str->Option NameKind}{x:Str}{v:Value}:∀{P:List Str}{vs:List Value}{i:Nat}{m:WmP},P.Nodup->P[i]? = some x->vs[i]? = some v->a x=some .local->
  bindL a (P.zip vs) m x=some v
 | [],_,_,_,_,h,_,_=>by simp at h
 | _::_,[],_,_,_,_,h,_=>by simp at h
 | p::P,w::vs,0,m,f,b,d,e=>by
  simp at b d;subst b;subst d;show bindL _ ((p,w)::P.zip vs) m p=_;unfold bindL;rw[z8q λv g=>(vO.mp f).1 (uz g).1,if_pos e];simp
 | p::P,w::vs,i+1,m,f,b,d,e=>by
  unfold bindL;exact z8r (vO.mp f).2 (by simpa using b) (by simpa using d) e
theorem z8t {a:Str->Option NameKind}{x:Str}{v:Value}:∀{P:List Str}{vs:List Value}{i:Nat}{m:WmP},P.Nodup->P[i]? = some x->vs[i]? = some v->a x≠some .local->
  bindC a (P.zip vs) m x=some v
 | [],_,_,_,_,h,_,_=>by simp at h
 | _::_,[],_,_,_,_,h,_=>by simp at h
 | p::P,w::vs,0,m,f,b,d,e=>by
  simp at b d;subst b;subst d;show bindC _ ((p,w)::P.zip vs) m p=_;unfold bindC;rw[z8s λv g=>(vO.mp f).1 (uz g).1,if_neg e];simp
 | p::P,w::vs,i+1,m,f,b,d,e=>by
  unfold bindC;exact z8t (vO.mp f).2 (by simpa using b) (by simpa using d) e
def z4B (N:List Str)(vs:List V):St:=vs.map some++List.replicate (N.length - vs.length) none
def cxOf (CX:CXT)(P:Program)(w:World)(K:W.Frag)(mg:WmP)(base:Heap)(N:List Str)(b:Str)(a:Scope)(f:Addr)(g:Value)(A:Around)(outer:List Env)(s:Shared)(H:Hp)(E:XK):Cx where
 prog:=P
 w:=w
 K:=K
 mg:=mg
 base:=base
 A:=A.deeper (envOfC b a s.heap.objs.size f g)
 N:=N
 s₀:=s
 H₀:=H
 env:=envOfC b a s.heap.objs.size f g
 outer:=outer
 stack:=envOfC b a s.heap.objs.size f g::outer
 ex:=[]
 calm:=true
 fn:=λ_=>true
 pn:=[]
 xe:=λe i=>wpAny (model P w) (A.deeper (envOfC b a s.heap.objs.size f g)) (leaving (envOfC b a s.heap.objs.size f g) e) (λ_ d=>CX outer H s E e d) (λh d=>CX outer H s E h d) i
def za5 {sc:Scope}{n:Nat}{x:Str}(h:sc.names.lookup x=some .cell):∃c,(cellsFrom n sc.names []).lookup x=some c:=by
 have q:=W.cellsFrom_some _ n [] (.inl h);exact Option.isSome_iff_exists.mp q
def zcj {CX:CXT}{P:Program}{w:World}{K:W.Frag}{mg:WmP}{m:Heap}{N ps:List Str}{j:Str}{d:Scope}{f:Addr}{I:Value}{A:Around}{g:List Env}{s s1:Shared}{H:Hp}{E:XK}{M:List Value}{vs:List V}
  (S:z4R N ps d) (T:A.handled=none) (o:Env0 P w K mg m A g s H) (Z:vs.length=ps.length) (r:Vals vs M)
  (x:InCallC s s.heap.objs.size (bindL (envOfC j d s.heap.objs.size f I).kindOf (ps.zip M) λ_=>none) (cellsFrom (s.heap.objs.size+1) d.names []) (bindC (envOfC j d s.heap.objs.size f I).kindOf (ps.zip M) λ_=>none) s1):
  Inv (cxOf CX P w K mg m N j d f I A g s H E) [] (z4B N vs) H s1:=by
 have U:ps.length<=N.length:=by have:=congrArg List.length S.pre;rw[uf] at this;lia
 obtain⟨J,tk,rfl,O⟩:=x.done;have C:∀b:Addr,b ∉ (cxOf CX P w K mg m N j d f I A g s H E).ex:=λb z=>absurd (show b∈([]:List Addr) from z) (by simp);refine⟨⟨o.mod,S.kind,rfl,rfl,wq _,λy z c J l =>?_,λy t =>?_,λy c _ h =>?_,λ_=>T,Around.frames_deeper o.frames,.inr ⟨rfl,rfl⟩,λb z=>absurd z (C b),o.bs,o.bsz,λb _ _=>C b,λb z=>absurd z (C b),o.funs,o.frf,o.tbs⟩,
  rfl,o.bare,Un.kept O,⟨_,x.toInCall.ns,λi y v J l Y =>?_⟩,λy c h=>⟨_,x.cell y c h⟩,o.hok.fresh (wq _),λy c h =>?_,λp F=>absurd (show p∈([]:List (Addr × Obj)) from F) (by simp),o.hok.kept O,?_⟩
 .exact name_of_addr x.apart (jf J) (jf l)
 .have t:d.names.lookup y=some .cell\/d.names.lookup y=some .free:=t
  rcases t with t | t
  .exact za5 t
  .exact absurd rfl (S.nofree _ (jf t))
 .exact jc (x.above y c (jf h))
 .have L:i<vs.length:=by
   unfold z4B at l
   by_cases L:i<vs.length
   .exact L
   .rw[wU (by simpa using L)] at l;rw[jg] at l
    split at l <;> cases l
  have R:vs[i]? = some v:=by
   unfold z4B at l;rw[wH (by simpa using L),wO] at l
   cases e:vs[i]? with
   | none=>rw[e] at l;cases l
   | some a=>rw[e] at l;cases l;rfl
  obtain⟨u,Q,X⟩:=r.get R;have F:ps[i]? = some y:=by
   rw[<- S.pre,List.getElem?_take_of_lt (by lia)];exact J
  have G:ps.Nodup:=by rw[<- S.pre];exact S.nd.sublist (List.take_sublist _ _)
  refine⟨u,X,?_⟩
  rcases S.par y (wD F) with k | k
  .exact .inl ⟨k,z8r G F Q k⟩
  .obtain⟨c,e⟩:=za5 (n:=s.heap.objs.size+1) k;refine .inr ⟨.inl k,c,e,?_⟩;have q:=x.cell y c e;rw[z8t G F Q (by show d.names.lookup y≠_;rw[k];decide)] at q;exact q
 .exact o.hok.fresh (jc (x.above y c (jf h)))
 .unfold z4B;show _=N.length;rw[wC,we,uA];lia
def zms {CX:CXT}{P:Program}{w:World}{K:W.Frag}{mg:WmP}{i:Heap}{k:Nat}{f:Addr}{name g:Str}{j:Arguments}{l:List Stmt}{a:Scope}{Z kV F pm h ct oc:Value}{an od:Option Addr}
  {T:Array (Option Value)}{N ps:List Str}{sp:Sp}(lk:K.lookup f=some ⟨oc,od,.func (W.fnOf name g j l a Z kV F pm an h ct),T⟩) (M:W.codeIn K h g=true) (S:z4R N ps a)
  (len:∀vs H Q E,sp vs H Q E->vs.length=ps.length)
  (z:∀(A:Around) (d:List Env) (s:Shared) (H:Hp) (vs:List V) (Q:VK) (E:XK),Room k (A.deeper (envOfC g a s.heap.objs.size f h))->sp vs H Q E->
   ∃t,PSs (cxOf CX P w K mg i N g a f h A d s H E) l t/\t { nx:=λ_ p=>Q .non p,rt:=Q } (z4B N vs) H):
  FnOk P w K mg i CX (k+1) f (W.fnOf name g j l a Z kV F pm an h ct) ps sp:=by
 refine⟨len,λA d s H Y us vs Q E O G hb r L =>?_⟩;have hl:=len _ _ _ _ L;have X:K.In s.heap:=G.mod.kin.keeps λb o e=>(G.bs b o e).1;have R:s.heap.NoLimit:=G.mod.nolimit.keeps λb o e=>(G.bs b o e).1;have C:∀y∈ps.zip us,a.names.lookup y.1=some .local\/(a.names.lookup y.1=some .cell/\((cellsFrom (s.heap.objs.size+1) a.names []).lookup y.1).isSome=true):=by
  rintro⟨n,v⟩ hy
  rcases S.par n (uz hy).1 with q | q
  .exact .inl q
  .exact .inr ⟨q,W.cellsFrom_some _ _ _ (.inl q)⟩
 refine codeAny_call_function O.depth (X _ _ lk) rfl S.co S.gen rfl (W.codeRec_of X M) (hb _ _ _ _ ?_);refine wpAny_newFunctionEnv_cells S.kind C λa0 he s1 x =>?_;subst he;refine⟨R.keeps x.toInCall.keep,codeAny_func ?_⟩;obtain⟨t,ht,hq⟩:=z A d s H vs Q E (O.deeper _) L;have I:Inv (cxOf CX P w K mg i N g a f h A d s H E) [] (z4B N vs) H s1:=zcj S O.hd G hl r x;refine vJ (ht [] s1 (z4B N vs) H _ I hq) (λfl s' hs =>?_) λe s' hs=>hs;have fin:∀{m:St}{p:Hp}{v:V}{u:Value},Inv (cxOf CX P w K mg i N g a f h A d s H E) [] m p s'->RelV v u->Q v p->CE d P w H s Q u s':=
  λ{m p v u} J U q=>⟨v,p,J.os,J.bare,J.base,J.hok,U,q⟩
 cases fl with
 | ret u=>
  obtain⟨v,m,p,J,U,q⟩:=hs;exact fin J U q
 | next=>
  obtain⟨m,p,J,q⟩:=hs;exact fin (v:=V.non) (u:=Value.none) J rfl q
 | brk=>
  obtain⟨_,_,_,q⟩:=hs;exact False.elim q
 | cont=>
  obtain⟨_,_,_,q⟩:=hs;exact False.elim q
section
variable {X:Cx}{x:Str}{p pos:Pos}{e:Expr}{es:List Expr}{t:TA}{id T:String}{r:List V->Hp->VK->Prop}
def tCB (r:List V->Hp->VK->Prop)(t:TA):TE:=λb H Q=>t b H λvs a=>r vs a Q
def zdZ (l:z0C X (.builtin id) r)(n:Gl X x)(o:X.mg x=none)(u:bootBuiltins x=some (.builtin id))(j:PA X (e::es) t)(q:autoParam (x≠"__name__") jB1)(a:autoParam ((x == ("__debug__":Str))=false) jB1)
  (m:autoParam (starEach (e::es) X.env=(false,eval e X.env)::starEach es X.env) jA1) (b:autoParam ((backTo pos (starEach es X.env)).any (·.1)=false) jA1):PE X (.Call (.Name x p) (e::es) [] pos) (tCB r t):=by
 intro d s f H Q I h;refine j0 (z81 I n o u ?_ q a);exact PyProof.Rows.callWith_builtin1 (thn (j pos _ s f H _ I h) λz y ⟨vs,g,i,r1,w⟩=>l _ y f g vs z Q i r1 w) m b
def zbD (l:z0C X (.type T) r)(n:Gl X x)(o:X.mg x=none)(u:bootBuiltins x=some (.type T))(j:PA X (e::es) t)(q:autoParam (x≠"__name__") jB1)(a:autoParam ((x == ("__debug__":Str))=false) jB1)
  (m:autoParam (starEach (e::es) X.env=(false,eval e X.env)::starEach es X.env) jA1) (b:autoParam ((backTo pos (starEach es X.env)).any (·.1)=false) jA1):PE X (.Call (.Name x p) (e::es) [] pos) (tCB r t):=by
 intro d s f H Q I h;refine j0 (z81 I n o u ?_ q a);exact jx (thn (j pos _ s f H _ I h) λz y ⟨vs,g,i,r1,w⟩=>l _ y f g vs z Q i r1 w) m b
end
end L2
namespace HT
open PySem PyProof.Rows
def z0x:List Int->List Int->Bool
 | [],[]=>false
 | [],_::_=>true
 | _::_,[]=>false
 | x::a,y::b=>if x=y then z0x a b else decide (x<y)
def z0P (x y:Int)(xs a:List Int):z0x (x::xs) (y::a)=if x=y then z0x xs a else decide (x<y):=rfl
def z2X:z0x [] []=false:=rfl
def z3T (y:Int)(a:List Int):z0x [] (y::a)=true:=rfl
def z3U (x:Int)(xs:List Int):z0x (x::xs) []=false:=rfl
def z9X (A:Around)(s:Shared)(a:Int)(t:Tok)(c:Int)(u:Tok):∃e,SeqAt.EqAt A s (.int a t) (.int c u) e/\(e=true↔a=c):=
 ⟨(a == c),SeqAt.EqAt.int_int a t c u,by simp⟩
def zds (A:Around)(s:Shared)(a:Int)(t:Tok)(c:Int)(u:Tok)(prog:Program)(w:World)(E:WvP)(Q:WvP)(h:Q (.bool (decide (a<c))) s):
  wpAny (model prog w) A (richCompare .Lt (.int a t) (.int c u)) Q E s:=
 (PyProof.Rows.lt_int h)
section
open PySem.SeqAt
open PySem.AutoSeq1 (wpAny_loadPart')
open PySem.MeetsSeq PySem.MeetsSeq2 PySem.MeetsSeq3
def z6B (l b:Addr)(z01 f:Array Value)(n n2:Nat)(dd Q:Option Addr)(sl W:Array (Option Value))(ns L:List Int)(X:IntsAre z01.toList ns)(Y:IntsAre f.toList L):
  Meets (Builtin.«tuple.__lt__» ⟨[.ref l,.ref b],[]⟩)
   (λ_ R s=>s.heap.get? l=some { cls :=.type "tuple",dict:=dd,data :=.seq z01 n,slots:=sl }/\s.heap.get? b=some { cls :=.type "tuple",dict:=Q,data :=.seq f n2,slots:=W }/\
    R (.ok (.ret (.bool (z0x ns L)))) s):=
 .of_wp λC w A R s h=>by
  obtain⟨K,g,d,N,M⟩:=s;obtain⟨hl,hb,h⟩:=h;have f2:=AutoSeq1.sub_tuple_tuple;have z1:z01.size=ns.length:=by rw[<- X.length];simp
  have z2:f.size=L.length:=by rw[<- Y.length];simp
  wp_walk using u7 hl,u7 hb,jo _ (λE b U=>b.1=none/\U=⟨K,g,d,N,M⟩/\∃(vs O:List Value) (m j:List Int),E=vs.zip O/\
   IntsAre vs m/\IntsAre O j/\m.length+f.size=j.length+z01.size/\R (.ok (.ret (.bool (z0x m j)))) ⟨K,g,d,N,M⟩) _
  case turn=>
   rintro⟨y,x⟩ E b U ⟨F,rfl,vs,O,m,j,p,H,o,i,r⟩
   cases H with
   | nil=>rw[List.zip_nil_left] at p;cases p
   | cons a t I=>
    cases o with
    | nil=>rw[List.zip_nil_right] at p;cases p
    | cons c u J=>
     rw[uT] at p
     injection p with T G
     injection T with hy hx
     subst hy hx;rw[z0P] at r;simp only[wQ] at i;obtain⟨e,he,z⟩:=z9X A.in1 ⟨K,g,d,N,M⟩ a t c u;refine wc (he C w _ _ ?_)
     cases e with
     | true=>
      rw[if_pos (z.mp rfl)] at r
      wp_walk
      exact⟨rfl,rfl,_,_,_,_,G,I,J,by lia,r⟩
     | false=>
      rw[if_neg (λq=>absurd (z.mpr q) wX)] at r;have S:=zds A.in1 ⟨K,g,d,N,M⟩ a t c u C w
      wp_walk using S
      exact⟨_,rfl,by simpa using r⟩
  case fin=>
   rintro⟨b1,b2⟩ U ⟨F,rfl,vs,O,m,j,p,H,o,i,r⟩;simp only at F;subst F;have Z:z0x m j=decide (z01.size<f.size):=by
    cases H with
    | nil=>
     cases o with
     | nil=>
      simp only[uc] at i;rw[z2X];exact(w9 (by lia)).symm
     | cons c u hw=>
      simp only[uc,wQ] at i;rw[z3T];exact(wE (by lia)).symm
    | cons a t Z=>
     cases o with
     | nil=>
      simp only[uc,wQ] at i;rw[z3U];exact(w9 (by lia)).symm
     | cons c u hw=>
      rw[uT] at p
      cases p
   rw[Z] at r
   wp_walk
   exact⟨_,rfl,by simpa[Builtin.Tuple.tupleCompareSizes] using r⟩
  case h=>
   exact⟨rfl,rfl,z01.toList,f.toList,ns,L,rfl,X,Y,by lia,h⟩
end
section
variable {prog:Program}{w:World}{A:Around}{E:WvP}{s:Shared}
def zaG {l b:Addr}{z01 a:Array Value}{ns j:List Int}{Q:WvP}(H:IsTup s.heap l z01)(u:IsTup s.heap b a)(C:IntsAre z01.toList ns)(G:IntsAre a.toList j)
  (I:A.units<cLine) (h:Q (.bool (z0x ns j)) s):wpAny (model prog w) A (compareOp .Lt (.ref l) (.ref b)) Q E s:=by
 obtain⟨⟨r,t,p,sl⟩,q,y,n,z⟩:=id H;obtain⟨⟨o,f,e,m⟩,d,g,J,i⟩:=id u;subst y z g i;exact richCompare_meets_room (op :=.Lt) ⟨_,q,rfl⟩ ⟨_,d,rfl⟩ PySem.F.slot_tuple_lt PySem.F.entry_tuple_lt (PySem.F.args_tuple_lt_2 _ _) (z6B l b _ _ n J t f sl m ns j C G)
  ⟨q,d,⟨(λx=>nomatch x),h⟩⟩ I
def zhx {t b:Addr}{vs ws:List Value}{Q:WvP}(C:IsTup s.heap t vs.toArray)(x:IsTup s.heap b ws.toArray)(p:vs≠[])
  (r:ws=[]->Q (.ref t) s) (u:ws≠[]->Q (.ref s.heap.objs.size) { s with heap:=s.heap.push { cls :=.type "tuple",data :=.seq (vs++ws).toArray } })
  (hsz:vs.length+ws.length<=sizeLine):wpAny (model prog w) A (binaryOp .Add (.ref t) (.ref b)) Q E s:=by
 obtain⟨⟨cls,o,data,sl⟩,g,y,n,z⟩:=id C;obtain⟨⟨m,d,i,f⟩,a,j,q,l⟩:=id x;subst y z j l;have e:vs.toArray++ws.toArray=(vs++ws).toArray:=by simp
 by_cases h:ws=[]
 .exact concat_meets ⟨_,g,rfl⟩ ⟨_,a,rfl⟩ noFill_tuple_add seq_tuple_add PySem.F.slot_tuple_add PySem.F.entry_tuple_add (PySem.F.args_tuple_add_2 _ _)
   (tuple_addW1 t b _ _ n q o d sl f (by simpa using p) (by simp[h])) ⟨g,a,r h⟩
 .refine concat_meets ⟨_,g,rfl⟩ ⟨_,a,rfl⟩ noFill_tuple_add seq_tuple_add PySem.F.slot_tuple_add PySem.F.entry_tuple_add (PySem.F.args_tuple_add_2 _ _)
   (tuple_addW2 t b _ _ n q o d sl f (by simpa using p) (by simpa using h) (by omega)) ⟨g,a,?_⟩
  rw[e];exact u h
def sIx (n d:Nat):Option Int->Nat
 | none=>d
 | some v=>if v<0 then (v+(n:Int)).toNat else min v.toNat n
def ziq (n d:Nat)(b:d<=n)(o:Option Int):sIx n d o<=n:=by
 cases o with
 | none=>exact b
 | some v=>
  show (if v<0 then (v+n).toNat else min _ n)<=n
  by_cases a:v<0
  .rw[if_pos a];lia
  .rw[if_neg a];exact Nat.min_le_right _ _
def zcF (v:Int)(n d:Nat):(if v<0 then max (v+(n:Int)) 0 else min v (n:Int))=((sIx n d (some v):Nat):Int):=by
 show (if v<0 then max _ 0 else min v _)=(((if v<0 then (v+n).toNat else min _ n):Nat):Int)
 grind
def zaR (b a:Option Int)(n:Nat):Builtin.Slice.sliceAdjust b a 1 (n:Int)=(((sIx n 0 b:Nat):Int),((sIx n n a:Nat):Int)):=by
 have d:¬ ((1:Int)<0):=by lia
 unfold Builtin.Slice.sliceAdjust;refine uo ?_ ?_
 .cases b with
  | none=>rfl
  | some v=>exact zcF v n 0
 .cases a with
  | none=>rfl
  | some v=>exact zcF v n n
def zar (i j:Nat):Builtin.Slice.slicePlaces (i:Int) (j:Int) 1=j - i:=by
 unfold Builtin.Slice.slicePlaces;have a:(1:Int) > 0:=by lia
 simp[a,jS,Int.ediv_one]
 split <;> lia
def z6l {v:Value}{o:Option Int}{Q:Option Int->Shared->Prop}(p:IsPart v o)(h:Q o s):wpAny (model prog w) A (Builtin.Slice.slicePartIndex v) Q E s:=by
 cases p with
 | none=>exact slicePart_none h
 | int i t=>exact slicePart_int h
def z35 {sl:Addr}{f g:Value}{a e:Option Int}{n:Nat}{Q:Int × Int × Nat->Shared->Prop}(hs:s.heap.IsSliceOf sl f g .none)(pl:IsPart f a)(j:IsPart g e)
  (h:Q (((sIx n 0 a:Nat):Int),1,sIx n n e - sIx n 0 a) s):wpAny (model prog w) A (Builtin.Slice.sliceApplied (.ref sl) (pure (n:Int))) Q E s:=by
 obtain⟨l,d,i,b⟩:=id hs;refine wc (wc (vH d b (x:=f) rfl (wc (vH d b (x:=g) rfl (wc (vH d b rfl (wg ?_)))))));refine wc (slicePart_none ?_);refine wc (z6l pl (wc (z6l j (wc (wg ?_)))));show wpAny _ _ (match Builtin.Slice.sliceAdjust a e 1 n with | (a,e)=>pure (a,(1:Int),Builtin.Slice.slicePlaces a e 1)) _ _ s;rw[zaR a e n];show wpAny _ _ (pure _) _ _ s;rw[zar];exact wg h
def zdS (xs:Array Value)(i k:Nat):((List.range k).filterMap λ(m:Nat)=>xs[((i:Int)+(m:Int)*1).toNat]?).toArray=((xs.toList.drop i).take k).toArray:=by
 have e:(λ(m:Nat)=>xs[((i:Int)+(m:Int)*1).toNat]?)=λm=>xs[i+m]? := by
  funext m
  have:((i:Int)+(m:Int)*1).toNat=i+m:=by lia
  rw[this]
 rw[e];have:=pick_run xs i k;rw[List.filterMap_map] at this;have a:((λx=>xs[x]?) ∘ λx=>i+x)=λm=>xs[i+m]? := rfl;rw[a] at this;rw[this]
def z4L {t sl:Addr}{z01:Array Value}{l n:Value}{b d:Option Int}{Q:WvP}(e:IsTup s.heap t z01)(hs:s.heap.IsSliceOf sl l n .none)(pl:IsPart l b)(u:IsPart n d)
  (p:¬ (sIx z01.size 0 b=0/\sIx z01.size z01.size d=z01.size))
  (h:Q (.ref s.heap.objs.size) { s with heap:=s.heap.push { cls :=.type "tuple",data :=.seq ((z01.toList.drop (sIx z01.size 0 b)).take (sIx z01.size z01.size d - sIx z01.size 0 b)).toArray } })
  (hsz:z01.size<=sizeLine):wpAny (model prog w) A (getItem (.ref t) (.ref sl)) Q E s:=by
 have a:sizeOk (.seq ((z01.toList.drop (sIx z01.size 0 b)).take (sIx z01.size z01.size d - sIx z01.size 0 b)).toArray):=by
  show ((z01.toList.drop (sIx z01.size 0 b)).take (sIx z01.size z01.size d - sIx z01.size 0 b)).toArray.size<=sizeLine;rw[vd,uf,uQ,ug];lia
 have x:sIx z01.size z01.size d<=z01.size:=ziq _ _ (wq _) d;obtain⟨r,j,g,o⟩:=id hs;have f:s.TypeIs (.ref sl) "slice":=⟨r,j,g⟩
 unfold getItem
 try with_reducible refine vS ?_
 first | refine wc (wg ?_) | skip
 refine wc (wpAny_sequenceKey e.typeIs (by decide) ?_);refine wc (vm (name:=Str.ofString "__getitem__") e.typeIs vP
  (vA vP e.typeIs entry_tuple_getitem ?_ (args_tuple_getitem _ _)))
 show wpAny _ _ (Builtin.Tuple.tupleItemsOf (.ref t) >>= _) _ _ s;refine wc (tupleItemsOf_ e ?_);refine wc (jd f ?_);rw[if_pos (by decide)];refine wc (z35 hs pl u ?_);have i:¬ ((((sIx z01.size 0 b:Nat):Int) == 0 && (1:Int) == 1 && (sIx z01.size z01.size d - sIx z01.size 0 b) == z01.size)=true):=by
  intro q;rw[w5,w5] at q;have y:((sIx z01.size 0 b:Nat):Int)=0:=eq_of_beq q.1.1;have z:sIx z01.size z01.size d - sIx z01.size 0 b=z01.size:=eq_of_beq q.2;exact p ⟨by lia,by lia⟩
 show wpAny _ _ (if (((sIx z01.size 0 b:Nat):Int) == 0 && (1:Int) == 1 && (sIx z01.size z01.size d - sIx z01.size 0 b) == z01.size)=true then _ else _) _ _ s;rw[if_neg i,zdS]
 first
  | exact wc (m:=Builtin.Tuple.tupleExact _) (wP (wg ⟨_,rfl,wg h⟩) a)
  | exact wc (m:=Builtin.Tuple.tupleExact _) (wP (wc (wg (wg ⟨_,rfl,wg h⟩))) a)
  | exact wc (wc (m:=Builtin.Tuple.tupleExact _) (wP (wg (wg ⟨_,rfl,wg h⟩)) a))
  | exact wc (wc (m:=Builtin.Tuple.tupleExact _) (wP (wg ⟨_,rfl,wg h⟩) a))
end
end HT
namespace L2
open PySem PySem.Spec PyProof.Rows
abbrev TO:=St->Hp->(Option Int->Hp->Prop)->Prop
def PO (X:Cx)(e:Option Expr)(t:TO):Prop:=
 ∀(a:List (Addr × Obj)) (s:Shared) (b:St) (H:Hp) (Q:Option Int->Hp->Prop),Inv X a b H s->t b H Q->
  wpAny (model X.prog X.w) X.A (evalPart e X.env) (λu f=>∃o d,Inv X a b d f/\IsPart u o/\Q o d) X.xe s
def zb2:TO:=λ_ H Q=>Q none H
def zi1 (t:TE):TO:=λb H Q=>t b H λx a=>∃i,x = .int i/\Q (some i) a
def z3I {ns:List Int}:∀{a:List Value},Vals (ns.map V.int) a->IntsAre a ns:=by
 induction ns with
 | nil=>intro a r;cases r;exact .nil
 | cons n ns b=>
  intro a r
  cases r with
  | cons r1 r2=>
   obtain⟨t,e⟩:=r1;subst e;exact .cons n t (b r2)
section
variable {X:Cx}{e:Expr}{te:TE}{lo hi:Option Expr}{tl th:TO}{pos p2:Pos}
def zgJ:PO X none zb2:=by
 intro a s b H Q I h;exact wg ⟨none,H,I,.none,h⟩
def zgI (h:PE X e te):PO X (some e) (zi1 te):=by
 intro a s l H Q I f;refine thn (h _ s l H _ I f) λu m j =>?_;obtain⟨x,b,d,r1,g⟩:=j;obtain⟨i,rfl,q⟩:=g;obtain⟨t,rfl⟩:=r1;exact⟨some i,b,d,.int i t,q⟩
def SlR (X:Cx)(r:V->Option Int->Option Int->Hp->VK->Prop):Prop:=
 ∀(a:List (Addr × Obj)) (s:Shared) (g:St) (H:Hp) (x:V) (v e f:Value) (d b:Option Int) (sl:Addr) (Q:VK),Inv X a g H s->RelV x v->s.heap.IsSliceOf sl e f .none->IsPart e d->IsPart f b->r x d b H Q->
  ∃T h,typeLookup (.type T) "__getitem__"=pure (some (.builtin h))/\s.TypeIs v T/\wpAny (model X.prog X.w) X.A (getItem v (.ref sl)) (EP X a g Q) X.xe s
def SlR.or {r f:V->Option Int->Option Int->Hp->VK->Prop}(h:SlR X r)(m:SlR X f):SlR X (λx b a H Q=>r x b a H Q\/f x b a H Q):=by
 intro d s l H x v i j b a sl Q I g hs pl e q
 rcases q with q | q
 .exact h _ s l H x v i j b a sl Q I g hs pl e q
 .exact m _ s l H x v i j b a sl Q I g hs pl e q
def tSl (r:V->Option Int->Option Int->Hp->VK->Prop)(f:TE)(tl g:TO):TE:=λa H Q=>f a H λx b=>tl a b λl d=>g a d λu e=>r x l u e Q
def zdU {r:V->Option Int->Option Int->Hp->VK->Prop}(F:SlR X r)(A:PE X e te)(E:PO X lo tl)(J:PO X hi th):PE X (.Subscript e (.Slice lo hi none p2) pos) (tSl r te tl th):=by
 intro g s a H Q I h;refine Subscript_ (thn (A _ s a H _ I h) λv O d =>?_);obtain⟨x,n,p,r1,L⟩:=d;refine wpAny_Slice (thn (E _ O a n _ p L) λj R ⟨l,o,t,pl,M⟩=>thn (J _ R a o _ t M) λm i d =>?_);obtain⟨u,f,w,K,N⟩:=d;refine wg ?_;have y:Inv X _ a f { i with heap:=i.heap.push { cls :=.type "slice",data :=.fields #[j,m,.none] } }:=w.kept λb U q=>wf _ q;obtain⟨T,S,z,G,C⟩:=F _ _ a f x v j m l u _ Q y r1 (Heap.IsSliceOf.new ..) pl K N;exact tail_any G z C (by rfl)
def cutV (xs:List V)(a b:Option Int):List V:=(xs.drop (HT.sIx xs.length 0 a)).take (HT.sIx xs.length xs.length b - HT.sIx xs.length 0 a)
def z5V (xs:List V)(b a:Option Int):(cutV xs b a).length<=xs.length:=by
 unfold cutV;rw[uf,uQ];lia
def rSlT (K:W.Frag):V->Option Int->Option Int->Hp->VK->Prop:=λx e d H Q=>∃a b,x = .ref a/\SqT K H a b/\
 ¬ (HT.sIx b.length 0 e=0/\HT.sIx b.length b.length d=b.length)/\∀p,H p=none->Q (.ref p) (upd H p (.tup (cutV b e d)))
def zib:SlR X (rSlT X.K):=by
 intro i s z H x v w y o l sl Q I t hs pl p h;obtain⟨a,j,rfl,n,m,q⟩:=h
 cases t
 obtain⟨e,r,f,g⟩:=I.tuple n;have d:e.toArray.size=j.length:=by exact r.length.symm
 refine⟨"tuple",_,vP.lookup,f.typeIs,?_⟩;refine HT.z4L f hs pl p (by rw[d];exact m) ?_ (by rw[d];exact g);rw[d];refine⟨.ref _,_,I.laid (λb u q=>wf _ q) (wq _) ?_,rfl,q _ (I.hok.fresh (wq _))⟩;exact⟨wM (z5V j o l) g,_,(r.drop _).take _,IsTup.new _ _,_,wn _ rfl,rfl⟩
def rLtT (K:W.Frag):R2:=λx y H Q=>∃a b e d,x = .ref a/\y = .ref b/\SqT K H a (e.map V.int)/\SqT K H b (d.map V.int)/\Q (.bl (HT.z0x e d)) H
def zjU (i:X.A.units<cLine):OpR X (compareOp .Lt) (rLtT X.K):=by
 intro e s z H x y v u Q I p r h;obtain⟨a,b,w,t,rfl,rfl,f,g,q⟩:=h
 cases p
 cases r
 obtain⟨m,r1,n,_⟩:=I.tuple f;obtain⟨d,r2,o,_⟩:=I.tuple g;have j  := z3I r1;have l  := z3I r2;exact HT.zaG n o j l i ⟨.bl _,H,I,rfl,q⟩
def zlx (K:W.Frag):R2:=λx y H Q=>∃a b e d,x = .ref a/\y = .ref b/\SqT K H a e/\SqT K H b d/\e≠[]/\e.length+d.length<=sizeLine/\
 (d=[]->Q (.ref a) H)/\(d≠[]->∀p,H p=none->Q (.ref p) (upd H p (.tup (e++d))))
def Vals.nil_iff {xs:List V}{a:List Value}(r:Vals xs a):a=[]↔xs=[]:=by
 cases r with
 | nil=>simp
 | cons _ _=>simp
def zgT:OpR X (binaryOp .Add) (zlx X.K):=by
 intro e s F H x y v u Q I r t h;obtain⟨a,b,C,E,rfl,rfl,f,g,i,j,o,p⟩:=h
 cases r
 cases t
 obtain⟨l,r1,m,_⟩:=I.tuple f;obtain⟨d,r2,n,_⟩:=I.tuple g;refine HT.zhx m n (λz=>i (r1.nil_iff.mp z)) (λz=>⟨.ref a,H,I,rfl,o (r2.nil_iff.mp z)⟩) (λz =>?_) (by rw[<- r1.length, <- r2.length];exact j);refine⟨.ref _,_,I.laid (λb A q=>wf _ q) (wq _) ?_,rfl,p (λw=>z (r2.nil_iff.mpr w)) _ (I.hok.fresh (wq _))⟩;exact⟨by simp_all,_,r1.append r2,IsTup.new _ _,_,wn _ rfl,rfl⟩
end
def ixN (n:Nat)(i:Int):Option Nat:=if 0<=i then (if i<n then some i.toNat else none) else if -(n:Int)<=i then some (i+n).toNat else none
def atI {α:Type}(xs:List α)(i:Int):Option α:=(ixN xs.length i).bind λj=>xs[j]?
def zcg {n:Nat}{i:Int}{j:Nat}(h:ixN n i=some j):seqIndex? i n=some j/\j<n /\ -(n:Int)<=i/\i<n:=by
 unfold ixN at h
 by_cases b:0<=i
 .rw[if_pos b] at h
  by_cases a:i<n
  .rw[if_pos a] at h;have e  := vh h;exact⟨by rw[seqIndex_of b a,e],by lia,by lia,a⟩
  simp_all
 .rw[if_neg b] at h
  by_cases a : -n<=i
  .rw[if_pos a] at h;have e  := vh h;exact⟨by rw[seqIndex_neg (by lia) a,e],by lia,a,by lia⟩
  simp_all
def z9h {a:Type}{xs:List a}{i:Int}{v:a}(h:atI xs i=some v):∃j,seqIndex? i xs.length=some j/\xs[j]? = some v/\j<xs.length /\ -(xs.length:Int)<=i/\i<xs.length:=by
 unfold atI at h
 cases e:ixN xs.length i with
 | none=>simp_all
 | some j=>
  rw[e] at h;obtain⟨b,d,f,g⟩:=zcg e;exact⟨j,b,h,d,f,g⟩
def zhB {a:Type}{xs:List a}{j:Nat}{v:a}(h:xs[j]? = some v):atI xs (j:Int)=some v:=by
 have b  := (wv.mp h).1;have e:ixN xs.length j=some j:=by
  unfold ixN
  simp_all
 unfold atI;rw[e];exact h
def z9j (b:Expr):Prop:=∀o i,subscripted b false o i=operate [o,i] (getItem o i)
def IxR (X:Cx)(r:R2):Prop:=
 ∀(d a:Expr) (b:List (Addr × Obj)) (s:Shared) (e:St) (H:Hp) (x y:V) (v u:Value) (Q:VK),Inv X b e H s->RelV x v->RelV y u->r x y H Q->
  subscripted a false v u=operate [v,u] (getItem v u)->wpAny (model X.prog X.w) X.A (subscriptTail d a v u) (EP X b e Q) X.xe s
def MtR (X:Cx)(id:String)(r:V->List V->Hp->VK->Prop):Prop:=
 ∀(a:List (Addr × Obj)) (s:Shared) (e:St) (H:Hp) (x:V) (d:List V) (v:Value) (b:List Value) (Q:VK),Inv X a e H s->RelV x v->Vals d b->r x d H Q->
  wpAny (model X.prog X.w) X.A (call (.builtin id) (v::b)) (EP X a e Q) X.xe s
section
variable {X:Cx}{a b:Expr}{ta tb:TE}{pos:Pos}
def IxR.or {r e:R2}(h:IxR X r)(j:IxR X e):IxR X (λx y H Q=>r x y H Q\/e x y H Q):=by
 intro b a d s i H x y v u Q I f g q hs
 rcases q with q | q
 .exact h _ _ _ s i H x y v u Q I f g q hs
 .exact j _ _ _ s i H x y v u Q I f g q hs
def zlU {r:R2}(j:IxR X r)(g:PE X a ta)(i:PE X b tb)(hs:z9j b):PE X (.Subscript a b pos) (tOp r ta tb):=by
 intro d s o H Q I h;exact Subscript_ (binT g i I h λv u n x y e f l m q=>j a b _ n o e x y v u Q f l m q (hs _ _))
def rIxL (K:W.Frag):R2:=λx y H Q=>∃p a i v,x = .ref p/\y = .int i/\SqL K H p a/\atI a i=some v/\Q v H
def rIxT (K:W.Frag):R2:=λx y H Q=>∃p a i v,x = .ref p/\y = .int i/\SqT K H p a/\atI a i=some v/\Q v H
def rIxS:R2:=λx y H Q=>∃z i c,x = .str z/\y = .int i/\z.length<=sizeLine/\atI z.cps.toList i=some c/\Q (.str ⟨#[c]⟩) H
def zhe:IxR X (rIxL X.K):=by
 intro l g a s L H x y v u Q I G J h hs;obtain⟨p,S,i,z,rfl,rfl,F,E,q⟩:=h
 cases G
 obtain⟨t,rfl⟩:=J;obtain⟨e,r,pl,R⟩:=I.list F;obtain⟨j,b,o,M,A,C⟩:=z9h E;obtain⟨w,m,f⟩:=r.get o;have N:=r.length;have O:=z5E;have fin:EP X a L Q w s:=⟨z,H,I,f,q⟩
 by_cases n:0<=i
 .have d:i.toNat=j:=by
   rw[seqIndex_of n C] at b;exact vh b
  exact item_listR pl.isList n (by lia) (by rw[d];simpa using m) fin hs
 .have d:(i+(e.toArray.size:Int)).toNat=j:=by
   rw[seqIndex_neg (by lia) A] at b
   simp_all
  exact subscriptTail_builtinR (x:=w) pl.isList.typeIs slot_list_getitem.lookup
   (wpAny_getItem_list_neg pl.isList (by lia) (by rw[vd] <;> lia) (by lia) (by rw[d];simpa using m) ⟨rfl,fin⟩) hs
def zkI:IxR X (rIxT X.K):=by
 intro d b e s C H x y v u Q I o A h hs;obtain⟨p,O,i,z,rfl,rfl,m,l,q⟩:=h
 cases o
 obtain⟨t,rfl⟩:=A;obtain⟨n,r,pl,N⟩:=I.tuple m;obtain⟨j,E,g,F,G,J⟩:=z9h l;obtain⟨w,f,a⟩:=r.get g;have L:=r.length;have M:=z5E;have fin:EP X _ C Q w s:=⟨z,H,I,a,q⟩
 exact subscriptTail_builtinR pl.typeIs slot_tuple_getitem.lookup
  (getItem_tuple (j:=j) pl (by lia) (by lia) (by simp_all) (by simpa using f) ⟨rfl,fin⟩) hs
def zkJ:IxR X rIxS:=by
 intro b a e s E H x y v u Q I o p h hs;obtain⟨z,i,c,rfl,rfl,A,m,q⟩:=h;obtain⟨t,rfl⟩:=o;obtain⟨C,rfl⟩:=p;obtain⟨j,d,f,r,g,l⟩:=z9h m;have n:z.cps.toList.length=z.length:=by rfl
 rw[n] at d g l;have w:=z5E;exact tail_any (typeIs_str s z t) slot_str_getitem.lookup (getItem_str (by
  grind) (by rw[d];simpa using f) ⟨.str _,H,I.tok _,⟨_,rfl⟩,q⟩) hs
def rIx (K:W.Frag):R2:=λx y H Q=>rIxL K x y H Q\/rIxT K x y H Q\/rIxS x y H Q
def zkK:IxR X (rIx X.K):=zhe.or (zkI.or zkJ)
def zaE (a:List Value)(n j:Nat)(u:Value):Obj.mapSeq (·.setIfInBounds j u) { cls :=.type "list",data :=.seq a.toArray n }={ cls :=.type "list",data :=.seq (a.set j u).toArray n }:=by
 simp[Obj.mapSeq]
theorem Inv.lst {b:List (Addr × Obj)}{d:St}{H:Hp}{s:Shared}{p:Addr}{xs:List V}(I:Inv X b d H s)(h:H p=some (.lst xs)):
  ∃(a:List Value) (n:Nat),Vals xs a/\s.heap.get? p=some { cls :=.type "list",data :=.seq a.toArray n }/\xs.length<=sizeLine:=by
 obtain⟨z,a,n,r,e⟩:=I.hok p _ h;exact⟨a,n,r,e,z⟩
def Inv.lstUpd {d:List (Addr × Obj)}{m:St}{H:Hp}{s:Shared}{p:Addr}{xs j:List V}{g a:List Value}{n i:Nat}{f:Obj->Obj}(I:Inv X d m H s)(h:H p=some (.lst xs))
  (w:s.heap.get? p=some { cls :=.type "list",data :=.seq g.toArray n }) (l:f { cls :=.type "list",data :=.seq g.toArray n }={ cls :=.type "list",data :=.seq a.toArray i }) (r:Vals j a) (hz:j.length<=sizeLine) (t:Nat):
  Inv X d m (upd H p (.lst j)) { s with heap:=s.heap.update p f,toks:=t }:=by
 have e:(s.heap.update p f).get? p=some { cls :=.type "list",data :=.seq a.toArray i }:=by
  rw[wW f w (by rw[l] <;> rfl),l]
 refine I.write (by rw[h];trivial) (.inl rfl) (λb u o q=>(wR _ _ (vG o)).trans q) ⟨_,e⟩ ?_;exact⟨hz,a,i,r,e⟩
def zls:V->V->V->Hp->(Hp->Prop)->Prop:=λo i v H Q=>∃p a k j,o = .ref p/\i = .int k/\H p=some (.lst a)/\ixN a.length k=some j/\Q (upd H p (.lst (a.set j v)))
def zde:PSet X zls:=by
 intro y s N H o i v L K u Q I E C F h;obtain⟨p,M,k,j,rfl,rfl,x,z,q⟩:=h
 cases E
 obtain⟨t,rfl⟩:=C;obtain⟨a,n,r,e,A⟩:=I.lst x;obtain⟨b,G,l,m⟩:=zcg z;have w:=r.length;have J:=z5E;have f  :=
  I.lstUpd x e (zaE a n j u) (r.set F j) (by rw[List.length_set];exact A) s.toks
 by_cases g:0<=k
 .have d:k.toNat=j:=by
   rw[seqIndex_of g m] at b;exact vh b
  exact W.ki_setAt e g (by lia) (by rw[vd, <- w];exact m) (by rw[d];exact⟨_,f,q⟩)
 .have d:(k+(a.toArray.size:Int)).toNat=j:=by
   rw[seqIndex_neg (by lia) l] at b
   simp_all
  exact W.ki_setBack e (by lia) (by rw[vd, <- w];exact l) (by lia) (by rw[d];exact⟨_,f,q⟩)
def z7y (b a:Option Int)(n:Nat):(sliceBounds b a none n).1=((HT.sIx n 0 b:Nat):Int)/\(sliceBounds b a none n).2.1=((HT.sIx n n a:Nat):Int)/\(sliceBounds b a none n).2.2=1:=by
 refine⟨?_,?_,rfl⟩
 .cases b with
  | none=>simp[sliceBounds,HT.sIx]
  | some i=>
   simp only[sliceBounds,HT.sIx,Option.getD_none,show (1:Int) > 0 by decide,jS]
   by_cases h:i<0
   .simp only[h,jS] <;> lia
   .simp only[h,jh] <;> lia
 .cases a with
  | none=>simp[sliceBounds,HT.sIx]
  | some i=>
   simp only[sliceBounds,HT.sIx,Option.getD_none,show (1:Int) > 0 by decide,jS]
   by_cases h:i<0
   .simp only[h,jS] <;> lia
   .simp only[h,jh] <;> lia
def z6F (a:List Value)(b d:Option Int):slicePick a.toArray b d none=((a.drop (HT.sIx a.length 0 b)).take (HT.sIx a.length a.length d - HT.sIx a.length 0 b)).toArray:=by
 obtain⟨e,f,g⟩:=z7y b d _;unfold slicePick;rw[e,f,g];simp only[sliceRange_one,pick_run,vd] <;> rfl
def rSlL (K:W.Frag):V->Option Int->Option Int->Hp->VK->Prop:=λx e d H Q=>∃a b,x = .ref a/\SqL K H a b/\∀p,H p=none->Q (.ref p) (upd H p (.lst (cutV b e d)))
def zfW:SlR X (rSlL X.K):=by
 intro f s y H x v u w m g sl Q I o hs pl n h;obtain⟨a,p,rfl,i,q⟩:=h
 cases o
 obtain⟨l,r,e,j⟩:=I.list i;have d:=r.length;refine⟨"list",_,slot_list_getitem.lookup,e.isList.typeIs,?_⟩;refine wpAny_getItem_list_slice e.isList hs pl n .none (by simp) ?_ (by simp_all);rw[z6F, <- d];refine⟨.ref _,_,I.laid (λb t q=>wf _ q) (wq _) ?_,rfl,q _ (I.hok.fresh (wq _))⟩;exact⟨wM (z5V p m g) j,_,0,(r.drop _).take _,wn _ rfl⟩
def z8p:z0C X (.builtin "len") (λxs H Q=>∃p d,xs=[.ref p]/\(SqL X.K H p d\/SqT X.K H p d)/\Q (.int d.length) H):=by
 intro g s n H xs m Q I r h;obtain⟨p,d,rfl,b,q⟩:=h;obtain⟨u,rfl,j⟩:=z37 r
 cases j
 have l:=z5E
 rcases b with b | b
 .obtain⟨e,f,pl,i⟩:=I.list b;have a:=f.length;exact Calls.call_len_list pl.isList (by simp only[vd] <;> lia) ⟨.int _,H,I.tok _,⟨s.toks+1,by rw[vd,a]⟩,q⟩
 .obtain⟨e,f,pl,i⟩:=I.tuple b;have a:=f.length;exact len_tuple pl (by simp only[vd] <;> lia) ⟨.int _,H,I.tok _,⟨s.toks+1,by rw[vd,a]⟩,q⟩
def z8o:z0C X (.builtin "len") (λxs H Q=>∃z,xs=[.str z]/\z.length<=sizeLine/\Q (.int z.length) H):=by
 intro a s f H xs e Q I r h;obtain⟨z,rfl,d,q⟩:=h;obtain⟨u,rfl,t,rfl⟩:=z37 r;have b:=z5E;exact len_str (by lia) ⟨.int _,H,I.tok _,⟨_,rfl⟩,q⟩
def z0C.or {f:Value}{r b:List V->Hp->VK->Prop}(h:z0C X f r)(i:z0C X f b):z0C X f (λxs H Q=>r xs H Q\/b xs H Q):=by
 intro a s g H xs e Q I d q
 rcases q with q | q
 .exact h _ s g H xs e Q I d q
 .exact i _ s g H xs e Q I d q
def z8n:z0C X (.type "list") (λxs H Q=>∃p g,xs=[.ref p]/\(SqL X.K H p g\/SqT X.K H p g)/\∀l,H l=none->Q (.ref l) (upd H l (.lst g))):=by
 intro y s G H xs J Q I r h;obtain⟨p,g,rfl,m,q⟩:=h;obtain⟨u,rfl,F⟩:=z37 r
 cases F
 have fin:∀(a:List Value),Vals g a->g.length<=sizeLine->∀(d:Heap) (i:Nat),(∀b E,s.heap.get? b=some E->d.get? b=some E)->
   d.get? _=some _->EP X y G Q _ _:=λa f t d i x e=>
  ⟨.ref _,_,I.laid (t':=s.toks) x (wq _) (show z1i X.prog X.w _ d _ (.lst g) from ⟨t,a,i,f,e⟩),rfl,q _ (I.hok.fresh (wq _))⟩
 rcases m with m | m
 .obtain⟨a,f,pl,t⟩:=I.list m;have j:=f.length;obtain⟨o,C,z,n,A⟩:=pl.isList;exact call_list_seq p (.inl rfl) C z A (λd i x e=>fin a f t d i x e) (by simp_all)
 .obtain⟨a,f,pl,t⟩:=I.tuple m;have j:=f.length;obtain⟨o,C,z,n,A⟩:=pl;exact call_list_seq p (.inr rfl) C z A (λd i x e=>fin a f t d i x e) (by simp_all)
def z7m:z0C X (.type "tuple") (λxs H Q=>∃p d,xs=[.ref p]/\((SqL X.K H p d/\∀l,H l=none->Q (.ref l) (upd H l (.tup d)))\/(SqT X.K H p d/\Q (.ref p) H))):=by
 intro n s C H xs A Q I r h;obtain⟨p,d,rfl,h⟩:=h;obtain⟨u,rfl,y⟩:=z37 r
 cases y
 rcases h with ⟨f,q⟩ | ⟨f,q⟩
 .obtain⟨a,g,pl,m⟩:=I.list f;have j:=g.length;refine call_tuple_list pl.isList (λz x =>?_) (by grind);have i  := I.kept (t':=s.toks) x;have t  :=
   i.laid (t':=s.toks) (λb o e=>wf _ e) (wq _) (show z1i _ X.w _ _ _ (.tup d) from ⟨m,a,g,IsTup.new _ _,_,wn _ rfl,rfl⟩)
  exact⟨.ref _,_,t,rfl,q _ (i.hok.fresh (wq _))⟩
 .obtain⟨a,g,pl,m⟩:=I.tuple f;exact call_tuple_same pl ⟨.ref p,H,I,rfl,q⟩
def tyV (K:W.Frag)(T:String)(x:V)(H:Hp):Prop:=match x with
 | .str _=>T="str"
 | .int _=>T="int"
 | .ref p=>(T="list"/\∃b,SqL K H p b)\/(T="tuple"/\∃o,K.lookup p=some o/\o.cls = .type "tuple"/\o.dict=none)\/
   (T="dict"/\((∃a,H p=some (.dK a))\/∃a,H p=some (.dT a)))\/(T="set"/\∃S n,H p=some (.set S n))
 | _=>False
def zeW {d:List (Addr × Obj)}{u:St}{H:Hp}{s:Shared}{T:String}{x:V}{v:Value}(I:Inv X d u H s)(r:RelV x v)(ty:tyV X.K T x H):
  s.TypeIs v T/\∀a,v = .ref a->∃j,s.heap.get? a=some j/\j.dict=none:=by
 cases x with
 | str z=>
  obtain⟨t,rfl⟩:=r
  cases (show T="str" from ty)
  exact⟨typeIs_str s z t,λ_ e=>nomatch e⟩
 | int i=>
  obtain⟨t,rfl⟩:=r
  cases (show T="int" from ty)
  exact⟨typeIs_int s i t,λ_ e=>nomatch e⟩
 | ref p=>
  cases r
  rcases ty with ⟨rfl,w,m⟩ | ⟨rfl,o,b,l,g⟩ | ⟨rfl,b⟩ | ⟨rfl,S,n,b⟩
  .obtain⟨q,_,pl,_⟩:=I.list m;refine⟨pl.isList.typeIs,λa e =>?_⟩
   cases e
   obtain⟨o,n,e,c,g,_⟩:=pl;exact⟨o,e,g⟩
  .refine⟨⟨o,I.kIn p o b,l⟩,λa e =>?_⟩
   cases e
   exact⟨o,I.kIn _ o b,g⟩
  .have z:∃o,s.heap.get? p=some o/\o.ExactDict:=by
    rcases b with ⟨h,b⟩ | ⟨h,b⟩
    .obtain⟨_,_,_,_,o,_,_,e,ex,_⟩:=I.hok p _ b;exact⟨o,e,ex⟩
    .obtain⟨_,_,_,_,o,_,_,e,ex,_⟩:=I.hok p _ b;exact⟨o,e,ex⟩
   obtain⟨o,e,ex⟩:=z;refine⟨⟨o,e,ex.1⟩,λa f =>?_⟩
   cases f
   exact⟨o,e,ex.2.1⟩
  .obtain⟨o,_,_,_,e,ex,_⟩:=I.hok p _ b;refine⟨⟨o,e,ex.1⟩,λa f =>?_⟩
   cases f
   exact⟨o,e,ex.2.1⟩
 | _=>exact False.elim ty
def tBM0 (K:W.Frag)(T:String)(r:V->List V->Hp->VK->Prop)(b:TE):TE:=λd H Q=>b d H λx a=>tyV K T x a/\r x [] a Q
def tBM (K:W.Frag)(T:String)(r:V->List V->Hp->VK->Prop)(e:TE)(t:TA):TE:=λb H Q=>e b H λx a=>tyV K T x a/\t b a λf d=>r x f d Q
variable {o e:Expr}{es:List Expr}{to:TE}{t:TA}{name:Str}{apos cpos:Pos}{T id:String}{r:V->List V->Hp->VK->Prop}
def zjE (q:PlainAttrs T)(d:Slot T name id)(e:typeOf (.builtin id)=pure (.type "method_descriptor"))(n:MtR X id r)(p:PE X o to)
  (a:autoParam (attributeBase o name X.env (eval o X.env)=eval o X.env) jA1) (b:autoParam ((apos.endLine == cpos.line)=true) jA1):PE X (.Call (.Attribute o name apos) [] [] cpos) (tBM0 X.K T r to):=by
 intro g s i H Q I h;refine wpAny_Call_method0_late a b (thn (p _ s i H _ I h) λv u w =>?_);obtain⟨x,j,f,r1,ty,t⟩:=w;obtain⟨l,m⟩:=zeW f r1 ty;exact⟨T,id,q,d,e,l,m,uN rfl (PySem.evalArgs_none (n _ u i j x [] v [] Q f r1 .nil t))⟩
def zlW (E:PlainAttrs T)(g:Slot T name id)(i:typeOf (.builtin id)=pure (.type "method_descriptor"))(A:MtR X id r)(C:PE X o to)(z:PA X (e::es) t)
  (b:autoParam (attributeBase o name X.env (eval o X.env)=eval o X.env) jA1)
  (f:autoParam (((backTo cpos (starEach (e::es) X.env)).all (λx => !x.1) && (backToKw cpos (keywordEach [] X.env)).all (λx=>x.1.isSome)
   && decide ((e::es).length+([]:List Keyword).length+(if ([]:List Keyword).isEmpty then 0 else 1)<30))=true) jA1)
  (d:autoParam ((apos.endLine == cpos.line)=true) jA1) (hs:autoParam (starEach (e::es) X.env=(false,eval e X.env)::starEach es X.env) jA1) (a:autoParam ((backTo cpos (starEach es X.env)).any (·.1)=false) jA1):
  PE X (.Call (.Attribute o name apos) (e::es) [] cpos) (tBM X.K T r to t):=by
 intro n s j H Q I h;refine wpAny_Call_method_late b f d rfl (thn (C _ s j H _ I h) λv J N =>?_);obtain⟨x,p,l,r1,ty,F⟩:=N;obtain⟨w,y⟩:=zeW l r1 ty;refine⟨T,id,E,g,i,w,y,?_⟩;have m:=z cpos _ J j p _ l F;rw[hs] at m ⊢;refine uN (by show (false || (backTo _ _).any _)=false;rw[a] <;> rfl) (Calls.evalArgs_plain ?_);exact thn m λM L ⟨vs,q,u,r2,G⟩=>A _ L j q x vs v M Q u r1 r2 G
end
def MtM (X:Cx)(id:String)(r:V->List V->Hp->VK->Prop):Prop:=
 ∀(a:List (Addr × Obj)) (s:Shared) (e:St) (H:Hp) (x:V) (d:List V) (v:Value) (b:List Value) (Q:VK),Inv X a e H s->RelV x v->Vals d b->r x d H Q->
  wpAny (model X.prog X.w) X.A (call (.builtin id) (v::b)) (EP X a e Q) X.xe s
def Vals.one:∀{x:V}{a:List Value},Vals [x] a->∃u,a=[u]/\RelV x u
 | _,_,.cons r .nil=>⟨_,rfl,r⟩
def Vals.zero:∀{a:List Value},Vals [] a->a=[]
 | _,.nil=>rfl
theorem Vals.dropLast {xs:List V}{a:List Value}(h:Vals xs a):Vals xs.dropLast a.dropLast:=by
 induction h with
 | nil=>exact .nil
 | cons r t b=>
  cases t with
  | nil=>exact .nil
  | cons q d=>exact .cons r b
theorem Vals.reverse {xs:List V}{a:List Value}(h:Vals xs a):Vals xs.reverse a.reverse:=by
 induction h with
 | nil=>exact .nil
 | cons r t b=>rw[uw,uw];exact Vals.append b (.cons r .nil)
def zhG {a:Type}(l:List a):l.eraseIdx (l.length - 1)=l.dropLast:=by
 grind
section
variable {X:Cx}{pins:List (Addr × Obj)}{σ:St}{H:Hp}{s:Shared}{l b:Addr}{xs ys zs:List V}
def Inv.lset {b a:List Value}{n:Nat}{f:Array Value->Array Value}{t':Nat}(I:Inv X pins σ H s)(d:H l=some (.lst xs))
  (e:s.heap.get? l=some { cls :=.type "list",data :=.seq b.toArray n }) (h:f b.toArray=a.toArray) (j:Vals ys a) (hz:ys.length<=sizeLine):
  Inv X pins σ (upd H l (.lst ys)) { s with heap:=s.heap.update l (Obj.mapSeq f),toks:=t' }:=by
 have q:=PySem.IsL.update e f;rw[h] at q;refine I.write (by rw[d];exact trivial) (.inl rfl) (λm u g i=>(wR _ _ (vG g)).trans i) ⟨_,q⟩ ?_;exact⟨hz,a,_,j,q⟩
def Inv.lnew {a:List Value}{t':Nat}(I:Inv X pins σ H s)(b:Vals ys a)(hz:ys.length<=sizeLine):
  Inv X pins σ (upd H s.heap.objs.size (.lst ys)) { s with heap:=s.heap.push { cls :=.type "list",data :=.seq a.toArray },toks:=t' }:=
 I.laid (λ_ _ q=>wf _ q) (wq _) ⟨hz,a,0,b,wn _ rfl⟩
theorem Inv.fresh (I:Inv X pins σ H s):H s.heap.objs.size=none:=I.hok.fresh (wq _)
def Inv.lstM (I:Inv X pins σ H s)(b:H l=some (.lst xs)):xs.length<=sizeLine/\∃(a:List Value) (n:Nat),Vals xs a/\xs.length=a.length/\s.heap.get? l=some { cls :=.type "list",data :=.seq a.toArray n }:=by
 obtain⟨z,a,n,r,e⟩:=I.hok l _ b;exact⟨z,a,n,r,r.length,e⟩
def zed {n:Nat}(h:n<=sizeLine):Builtin.List.listTooLong n=false:=by
 exact w9 (by lia)
end
section
variable {X:Cx}
def zbk:V->List V->Hp->VK->Prop:=λx vs H Q=>∃l a y,x = .ref l/\vs=[y]/\H l=some (.lst a)/\a.length<sizeLine/\Q .non (upd H l (.lst (a++[y])))
def zbZ:MtM X "list.append" zbk:=by
 intro b s t H x vs v o Q I i g h;obtain⟨l,p,y,rfl,rfl,a,m,q⟩:=h
 cases i
 obtain⟨u,rfl,f⟩:=g.one;obtain⟨z,d,n,r,j,e⟩:=I.lstM a;refine call_meets F.slot_list_append ⟨_,e,rfl⟩ F.entry_list_append (F.args_list_append_2 _ _) (PySem.list_append l _ n u (by simp_all)) ⟨e,?_⟩;refine⟨.non,_,I.lset a e (by simp) (r.append (.cons f .nil)) ?_,rfl,q⟩;rw[wC,v4];lia
def zgc:V->List V->Hp->VK->Prop:=λx vs H Q=>∃l b a d,x = .ref l/\vs=[.ref b]/\H l=some (.lst a)/\H b=some (.lst d)/\a.length+d.length<=sizeLine/\Q .non (upd H l (.lst (a++d)))
def zbY:MtM X "list.extend" zgc:=by
 intro j s M H x vs v G Q I A y h;obtain⟨l,b,J,L,rfl,rfl,i,o,E,q⟩:=h
 cases A
 obtain⟨u,rfl,w⟩:=y.one
 cases w
 obtain⟨z,f,n,r,C,e⟩:=I.lstM i;obtain⟨K,a,t,r2,p,m⟩:=I.lstM o;have g:f.toArray.size+a.toArray.size<=sizeLine:=by grind
 have d:¬ (!f.toArray.isEmpty && Builtin.List.listTooLong (f.toArray.size+a.toArray.size))=true:=by
  rw[zed g]
  simp_all
 refine call_meets F.slot_list_extend ⟨_,e,rfl⟩ F.entry_list_extend (F.args_list_extend_2 _ _)
  (AutoSeq1.list_extend_list_list_0 l _ n b _ t d (by lia) (by lia)) ⟨e,m,?_⟩
 refine⟨.non,_,I.lset i e (by simp) (r.append r2) ?_,rfl,q⟩
 simp_all
def rPop:V->List V->Hp->VK->Prop:=λx vs H Q=>∃l a y,x = .ref l/\vs=[]/\H l=some (.lst a)/\a[a.length - 1]? = some y/\Q y (upd H l (.lst a.dropLast))
def zkt:MtM X "list.pop" rPop:=by
 intro g s C H x vs v w Q I o m h;obtain⟨l,A,y,rfl,rfl,f,i,q⟩:=h
 cases o
 have b:=m.zero;subst b;obtain⟨z,a,n,r,p,e⟩:=I.lstM f;obtain⟨u,t,j⟩:=r.get i;have d:a.toArray[a.toArray.size - 1]? = some u:=by
  simp_all
 refine call_meets F.slot_list_pop ⟨_,e,rfl⟩ F.entry_list_pop (F.args_list_pop_1 _) (MeetsSeq.list_pop_last l a.toArray n u d (by simp_all)) ⟨e,?_⟩;refine⟨y,_,I.lset f e ?_ r.dropLast ?_,j,q⟩
 .simp_all
 .rw[List.length_dropLast];lia
end
end L2
namespace Att
open PySem PySem.W PySem.Calls PyProof.Rows
def z5K {P:Params}{h:Heap}:∀(ns:List Int) (vs:List Value),WellAll P h vs (ns.map WData.int)->IntsAre vs ns:=by
 intro ns
 induction ns with
 | nil=>
  intro vs w
  cases w
  exact .nil
 | cons n ns d=>
  intro vs w
  cases w with
  | cons a b=>
   cases a
   exact .cons _ _ (d _ b)
def zb9 {l:OpenLaw}{n:Nat}(u:l.most=some n){P:Params}{h:Heap}{b:List WData}{f:List Value}
  (e:l.row.toRowW.claim.pre b=true) (o:WellAll P h f b):
  ∃a vs ns,f=[Value.ref a]/\b=[WData.list (ns.map WData.int)]/\h.get? a=some { cls :=.type "list",data :=.seq vs.toArray }/\IntsAre vs ns/\ns.length<=n:=by
 have m:WShape.hasAll [] _ _=true:=(pre_splitW e).1;have p:l.pre.holds [] _=true:=(pre_splitW e).2;obtain⟨d,r,rfl,q,s⟩:=hasAllW_cons m;obtain rfl:=hasAllW_nil s;obtain⟨A,rfl,t⟩:=hasW_list q;obtain⟨ns,rfl⟩:=items_int t;have i:ns.length<=n:=by
  unfold OpenLaw.pre at p;have j  := by
   have j:=(holds_andW p).1;rw[u] at j;exact j
  have z:=condW_of j (w_not (w_lt w_lit (w_len_list (w_arg rfl))))
  grind
 cases o with
 | cons x y=>
  cases y
  cases x with
  | list w g=>exact⟨_,_,ns,rfl,rfl,w,z5K ns _ g,i⟩
def zbq (l:OpenLaw)(a:List WData):l.row.toRowW.claim.post a (.bool true) a=true:=
 postW_of
  (rfl)
  (w_eq_bool (w_res rfl) w_lit) rfl
def z9g {l:OpenLaw}{n:Nat}{q:Program}{e:List Str}{XP:(Str->Option Value)->Heap->Prop}{E:World->Heap->Prop}{d:DefRec}
  (T:l.most=some n) (x:d.params.defaults=[])
  (call:∀(w:World) (g b:Shared) (mg A:WmP) (j:Addr) (o:Obj) (C t h:Value) (a:Addr) (vs:List Value) (ns:List Int),
   Ground q e [] XP w g mg A b.heap->E w b.heap->
   b.heap.get? j=some o->o.data = .func (docDef d.name d.params d.body d.scope C t h)->b.heap.CodeRec t d.name->mg d.name=some (.ref j)->
   b.heap.get? a=some { cls :=.type "list",data :=.seq vs.toArray }->IntsAre vs ns->ns.length<=n->b.gens = #[]->
   codeAny (model l.prog w) callerA (.call (.ref j) ⟨[.ref a],[]⟩) (λr s'=>r = .ok (.ret (.bool true))/\OldK b.heap s'.heap/\s'.os=b.os/\AllBare s'.gens) b):
  WalkO q e XP E l.row.toRowW d [] (λf vs=>PySem.call f vs):=by
 intro w g b mg A G Y j o C t h K kV U O u H y Q F J Z s I X z R;obtain rfl:K = .none:=Dflts.none H x;obtain rfl:kV = .none:=Dflts.noKw H;obtain⟨a,vs,ns,rfl,rfl,p,i,m⟩:=zb9 T s z;refine enter_call (j6 (call w _ _ mg A j o C t h a vs ns G Y U (fd_plain O) u y p i m Q) λr s' W =>?_);obtain⟨rfl,L,M,N⟩:=W;exact⟨.inl ⟨.bool _,.bool _,[],rfl,λ_=>rfl,.bool _,zbq l _,λ_=>⟨List.Pairwise.nil,λ_ S=>(nomatch S)⟩⟩,L,M,N⟩
end Att
namespace L2
open PySem PySem.Spec PyProof.Rows
theorem z7s:∀{vs:List Value}{ns:List Int},IntsAre vs ns->Vals (ns.map V.int) vs
 | _,_,.nil =>.nil
 | _,_,.cons n t h =>.cons ⟨t,rfl⟩ (z7s h)
theorem zfu {f g:Type}[BEq f][LawfulBEq f]{a:f}{b:g}:∀{l:List (f × g)},l.lookup a=some b->(a,b)∈l
 | [],h=>by cases h
 | (c,d)::r,h=>by
  rw[vW] at h
  cases e:a == c with
  | true=>simp_all
  | false=>rw[e] at h;exact .tail _ (zfu h)
def z6j {K:W.Frag}{c P:Addr}(h:zb1 K c=some P):K.lookup P=none/\∃o vs,K.lookup c=some o/\o.cls = .type "code"/\o.data = .fields vs/\vs[11]? = some (.ref P):=by
 unfold zb1 at h
 split at h
 .rename_i vs _ b
  split at h
  .rename_i e a
   split at h
   .rename_i d
    cases h
    exact⟨by simpa using d,_,vs,b,rfl,rfl,a⟩
   .cases h
  .cases h
 .cases h
def z7u {K:W.Frag}{P:Addr}{t:Nat × Nat × Str}(h:(tsOf K).lookup P=some t):∃c,zb1 K c=some P:=by
 obtain⟨p,_,e⟩:=uE.mp (zfu h)
 split at e
 .split at e
  .rename_i c _ _
   cases q:zb1 K c with
   | none=>simp_all
   | some a=>grind
  .cases e
 .cases e
def zel {P:Program}{w:World}{K:W.Frag}{mg mb:WmP}{CX:CXT}{k:Nat}{S a:Addr}{fd:FuncData}{x:Str}{sp:Sp}{s₁:Shared}{vs:List Value}{ns:List Int}
  (R:K.In s₁.heap) (N:s₁.heap.Ns mainGlobals mg) (p:s₁.heap.Ns builtinsNs mb) (U:∀x:Str,x≠"__name__"->mb x=bootBuiltins x) (M:s₁.heap.NoLimit) (X:BmAt mg s₁.heap) (hg:s₁.gens = #[])
  (C:s₁.heap.get? a=some { cls :=.type "list",data :=.seq vs.toArray }) (hi:IntsAre vs ns) (hl:ns.length<=sizeLine) (hr:Room k callerA)
  (L:∀P t,(tsOf K).lookup P=some t->s₁.heap.get? P=some { cls :=.none,data :=.fields #[] })
  (F:∀i:Heap,K.In i->i.Ns mainGlobals mg->FnOk P w K mg i CX k S fd [x] sp) (E:∀(s:Shared) (u:Value),BindsTo s fd ⟨[u],[]⟩ [(x,u)])
  (a1:∀H:Hp,SqL K H a (ns.map V.int)->sp [.ref a] H (λv _=>v = .bl true) λ_ _ _=>False)
  (T:∀H e s',CX [] H s₁ (λ_ _ _=>False) e s'->False):
  codeAny (model P w) callerA (.call (.ref S) ⟨[.ref a],[]⟩) (λr s'=>r = .ok (.ret (.bool true))/\OldK s₁.heap s'.heap/\s'.os=s₁.os/\AllBare s'.gens) s₁:=by
 have rv:=z7s hi;have O:=hi.length;have aT:(tsOf K).lookup a=none:=by
  cases q:(tsOf K).lookup a with
  | none=>rfl
  | some t=>
   have e:=L a t q;rw[C] at e;cases e
 have n:∀u:Option HO,SqL K (λb=>if b=a then u else ((tsOf K).lookup b).map λt =>.tbl (encT t)) a (ns.map V.int)->((u=none)\/(K.lookup a=none/\u=some (.frz { cls :=.type "list",data :=.seq vs.toArray } (.lst (ns.map V.int)))))->
   codeAny (model P w) callerA (.call (.ref S) ⟨[.ref a],[]⟩) (λr s'=>r = .ok (.ret (.bool true))/\OldK s₁.heap s'.heap/\s'.os=s₁.os/\AllBare s'.gens) s₁:=by
  intro u hS f;generalize hH:(λb=>if b=a then u else ((tsOf K).lookup b).map λt=>HO.tbl (encT t):Hp)=H at hS;have g:∀{b v},H b=some v->(b=a/\u=some v)\/(b≠a/\∃t,(tsOf K).lookup b=some t/\v = .tbl (encT t)):=λ{b v} e=>by
   rw[<- hH] at e
   by_cases p:b=a
   .exact .inl ⟨p,by rw[<- e];exact(if_pos p).symm⟩
   .have Q:=(if_neg p).symm.trans e
    cases q:(tsOf K).lookup b with
    | none=>rw[q] at Q;cases Q
    | some t=>rw[q] at Q;cases Q;exact .inr ⟨p,t,rfl,rfl⟩
  have a0:HOk P w H s₁.heap:=λb v e=>by
   rcases g e with ⟨rfl,z⟩ | ⟨_,t,q,rfl⟩
   .rcases f with f | ⟨_,f⟩
    .rw[f] at z;cases z
    .rw[f] at z
     cases z
     exact⟨C,by rw[we];exact hl,vs,_,rv,C⟩
   .exact .inl (L b t q)
  have a2:∀{b:Addr}{o:Obj}{G:Array DictEntry}{ep:Nat},s₁.heap.get? b=some o->o.data = .dict G ep->H b=none:=λ{b o G ep} e d=>by
   cases q:H b with
   | none=>rfl
   | some v=>
    rcases g q with ⟨rfl,_⟩ | ⟨_,t,q,_⟩
    .rw[C] at e;cases e;have A:Data.seq vs.toArray _=Data.dict G ep:=d
     cases A
    .have:=L b t q;rw[e] at this;cases this;have A:Data.fields _=Data.dict G ep:=d
     cases A
  have a3:∀{b:Addr}{o:Obj},s₁.heap.get? b=some o->o.data = .plain->H b=none:=λ{b o} e d=>by
   cases q:H b with
   | none=>rfl
   | some v=>
    rcases g q with ⟨rfl,_⟩ | ⟨_,t,q,_⟩
    .rw[C] at e;cases e;have A:Data.seq vs.toArray _=Data.plain:=d
     cases A
    .have:=L b t q;rw[e] at this;cases this;have A:Data.fields _=Data.plain:=d
     cases A
  have j:∀{b:Addr}{m:WmP},s₁.heap.Ns b m->(hidT s₁.heap H).Ns b m:=λ{b m} ⟨o,G,ep,e,d,r⟩=>⟨o,G,ep,z7c e (a2 e d),d,r⟩
  have J:K.In (hidT s₁.heap H):=λb o e=>z7c (R b o e) (by
   cases q:H b with
   | none=>rfl
   | some v=>
    rcases g q with ⟨rfl,z⟩ | ⟨_,t,q,_⟩
    .rcases f with f | ⟨f,_⟩
     .rw[f] at z;cases z
     .rw[f] at e;cases e
    .obtain⟨c,Y⟩:=z7u q;rw[(z6j Y).1] at e;cases e)
  have hM:Mod K mg (hidT s₁.heap H):=⟨J,j N,⟨mb,j p,U⟩,let ⟨mc,h1,h2⟩:=M;⟨mc,j h1,h2⟩,let ⟨bm,ob,b1,b2,b3,b4,b5,b6⟩:=X;⟨bm,ob,b1,b2,z7c b3 (a3 b3 b6),b4,b5,b6⟩⟩
  have e0:Env0 P w K mg (hidT s₁.heap H) callerA [] s₁ H:=⟨rfl,hM,λb o e=>zgV e,Nat.le_of_eq (zcl _ _),trivial,λb p=>absurd (show b∈([]:List Addr) from p) (by simp),λPt t e=>⟨#[],by
   rw[<- hH];show (if Pt=a then u else ((tsOf K).lookup Pt).map λt=>HO.tbl (encT t))=_;rw[if_neg (λz=>by rw[z,aT] at e;cases e),e];simp⟩,a0,.of_eq hg⟩
  refine j6 ((F _ J (j N)).run callerA [] s₁ H ⟨[.ref a],[]⟩ [.ref a] [.ref a] _ _ hr e0 (E s₁ (.ref a)) (.cons rfl .nil) (a1 H hS)) λr s' h =>?_
  cases r with
  | error e=>exact(T H e s' h).elim
  | ok fl=>
   cases fl with
   | next=>exact False.elim h
   | brk=>exact False.elim h
   | cont=>exact False.elim h
   | ret v0=>
    obtain⟨v,H',os,I,un,y,r',q⟩:=h;have q':v = .bl true:=q;subst q';obtain rfl:v0=Value.bool true:=r';refine⟨rfl,⟨λb o e =>?_,λb o e=>un.there b o e (by simp)⟩,os,I⟩
    cases q:H b with
    | none=>exact .inl (un.keep b o e q (by intro z;exact absurd (show b∈([]:List Addr) from z) (by simp)) (by simp))
    | some v=>
     rcases g q with ⟨rfl,z⟩ | ⟨_,t,q2,rfl⟩
     .rcases f with f | ⟨_,f⟩
      .rw[f] at z;cases z
      .rw[f] at z
       cases z
       obtain⟨e2,_⟩:=y _ _ (un.frzs _ _ _ q);rw[C] at e
       cases e
       exact .inl e2
     .have e1:=L b t q2;rw[e] at e1
      cases e1
      obtain⟨more,q3⟩:=un.tbls b _ q;obtain⟨c,Y⟩:=z7u q2;obtain⟨_,oc,vc,c1,c2,c3,c4⟩:=z6j Y
      rcases y b _ q3 with z | ⟨l,c,_,_,c',_,_,_,_,_,_,z,_⟩
      .exact .inl z
      .exact .inr (.inl ⟨⟨_,oc,vc,R _ _ c1,c2,c3,c4⟩,rfl, #[], #[l,c,.ref c'],rfl,by rw[z];simp⟩)
 cases Z:K.lookup a with
 | some o=>
  have e:=R a o Z;rw[C] at e
  cases e
  exact n none (.inr ⟨_,vs.toArray,_,Z,rfl,rfl,rfl,by rw[vd,O];exact hl,by simpa using rv⟩) (.inl rfl)
 | none=>exact n _ (.inl (.inr ⟨_,if_pos rfl⟩)) (.inr ⟨Z,rfl⟩)
def zfK {l:W.OpenLaw}{n k:Nat}{q:Program}{p:List Str}{XP:(Str->Option Value)->Heap->Prop}{z:World->Heap->Prop}{d:DefRec}{K:Params->W.Frag}{CX:World->CXT}{sp:World->Sp}{x:Str}
  (hn:l.most=some n) (J:n<=sizeLine) (E:d.params.defaults=[]) (hr:Room k callerA)
  (X:∀(w:World) (h:Heap),z w h->(K w.params).In h) (U:∀(w:World) (h:Heap),z w h->∀P t,(tsOf (K w.params)).lookup P=some t->h.get? P=some { cls :=.none,data :=.fields #[] })
  (F:∀(w:World) (mg:WmP) (y:Addr) (h:Heap),(K w.params).In h->h.Ns mainGlobals mg->mg d.name=some (.ref y)->
   ∃A:FuncData,(∀(s:Shared) (u:Value),BindsTo s A ⟨[u],[]⟩ [(x,u)])/\
    ∀i:Heap,(K w.params).In i->i.Ns mainGlobals mg->FnOk l.prog w (K w.params) mg i (CX w) k y A [x] (sp w))
  (L:∀(w:World) (H:Hp) (a:Addr) (ns:List Int),ns.length<=n->SqL (K w.params) H a (ns.map V.int)->sp w [.ref a] H (λv _=>v = .bl true) λ_ _ _=>False)
  (C:∀(w:World) (H:Hp) (s:Shared) (e:Value) (s':Shared),CX w [] H s (λ_ _ _=>False) e s'->False):
  W.WalkO q p XP z l.row.toRowW d [] (λf vs=>PySem.call f vs):=by
 refine Att.z9g hn E λw N O mg mb y o pm cd Q a vs ns G Y ho hd a0 I r m j hg =>?_;have M:=X w _ Y;obtain⟨A,Z,R⟩:=F w mg y _ M G.T.g I;exact zel M G.T.g G.T.b G.T.builtins G.T.nolimit G.T.bmain hg r m (wM j J) hr (U w _ Y) R Z (λH S=>L w H a ns j S) λH e s'=>C w H _ e s'
def z34 (s:Stmt):Arguments:=match s with
 | .FunctionDef _ a _ _ _ _ _ _ _ _=>a
 | _=>{ posonlyargs:=[],args:=[],vararg:=none,kwonlyargs:=[],kw_defaults:=[],kwarg:=none,defaults:=[] }
def z1F (s:Stmt):List Stmt:=match s with
 | .FunctionDef _ _ b _ _ _ _ _ _ _=>b
 | _=>[]
def z09 (s:Stmt):Scope:=match s with
 | .FunctionDef _ _ _ _ _ _ sc _ _ _=>sc
 | _=>{ kind :=.function,names:=[],isGenerator:=false,isCoroutine:=false }
abbrev E0:XK:=λ_ _ _=>False
structure Fun (K:W.Frag)(x qual:Str)(st:Stmt)(f:Addr)(fd:FuncData):Prop where
 ex:∃(oc:Value) (od:Option Addr) (kV doc pm:Value) (an:Option Addr) (cdv ct:Value) (osl:Array (Option Value)),
  fd=W.fnOf x qual (z34 st) (z1F st) (z09 st) .none kV doc pm an cdv ct/\K.lookup f=some ⟨oc,od,.func fd,osl⟩/\W.codeIn K cdv qual=true
 kp:W.keepIn K (.ref f)=true
section
variable {P:Program}{w:World}{K:W.Frag}{mg:WmP}{base:Heap}
def Fun.binds {x a:Str}{st:Stmt}{f:Addr}{i:FuncData}{ps:List Str}(F:Fun K x a st f i)
  (h:∀(kV d e:Value) (an:Option Addr) (b ct:Value) (g:List Value),g.length=ps.length->bindArgs (W.fnOf x a (z34 st) (z1F st) (z09 st) .none kV d e an b ct) ⟨g,[]⟩=pure (ps.zip g)):z6i K i ps []:=by
 obtain⟨n,o,kV,d,e,an,b,ct,l,rfl,m,j⟩:=F.ex;exact .all (h kV d e an b ct)
def zfA {x a:Str}{st:Stmt}{f:Addr}{h:Value}{i an:Option Addr}{e:Array (Option Value)}{kV d g b ct:Value}(l:K.lookup f=some ⟨h,i,.func (W.fnOf x a (z34 st) (z1F st) (z09 st) .none kV d g an b ct),e⟩)
  (c:W.codeIn K b a=true) (k:W.keepIn K (.ref f)=true):Fun K x a st f (W.fnOf x a (z34 st) (z1F st) (z09 st) .none kV d g an b ct):=⟨⟨h,i,kV,d,g,an,b,ct,e,rfl,l,c⟩,k⟩
end
def iteF {A B:Prop}(h:B):if false=true then A else B:=by
 grind
def iteT {A B:Prop}(h:A):if true=true then A else B:=by
 exact h
def Same (H a:Hp):Prop:=∀b o,H b=some o->a b=some o
def Same.seq {K:W.Frag}{H b:Hp}{a:Addr}{xs:List V}(e:Same H b)(h:SqL K H a xs):SqL K b a xs:=by
 rcases h with (h | ⟨o,h⟩) | h
 .exact .inl (.inl (e _ _ h))
 .exact .inl (.inr ⟨o,e _ _ h⟩)
 .exact .inr h
end L2
set_option maxHeartbeats 4000000
namespace L2
open PySem PySem.Spec PyProof.Rows
open Builtin.Int (intBits)
abbrev Bt (n:Nat)(i:Int):Prop:=intBits i<=n
def Bt.le {m n:Nat}{i:Int}(h:Bt m i)(q:autoParam (m<=n) jB1):Bt n i:=wM h q
def z08 {n:Nat}{i:Int}(h:i.natAbs<2 ^ n):Bt n i:=PySem.intBits_le_iff.mpr h
def Bt.of_abs {n:Nat}{i j:Int}(h:Bt n j)(q:i.natAbs<=j.natAbs):Bt n i:=PySem.intBits_le_of_natAbs q h
def Bt.add {m n:Nat}{i j:Int}(h:Bt m i)(q:Bt n j):Bt (max m n+1) (i+j):=PySem.intBits_add_le h q
def Bt.sub {m n:Nat}{i j:Int}(h:Bt m i)(q:Bt n j):Bt (max m n+1) (i - j):=PySem.intBits_sub_le h q
def Bt.mul {m n:Nat}{i j:Int}(h:Bt m i)(q:Bt n j):Bt (m+n) (i*j):=PySem.intBits_mul_le h q
def Bt.neg {m:Nat}{i:Int}(h:Bt m i):Bt m (-i):=PySem.intBits_neg_le h
def zhF (i j:Int):Prop:=Bt 60000000 i/\Bt 60000000 j
def zlc (_ j:Int):Prop:=j≠0/\Bt 9000 j
def zc9 {j:Int}(a:j≠0)(h:Bt 9000 j):j.natAbs.log2<9000:=by
 have e:intBits j=j.natAbs.log2+1:=by
  unfold Builtin.Int.intBits
  simp_all
 omega
section
variable {X:Cx}{a b c:Expr}{ta tb tc:TE}{pos:Pos}
def zgR:OpR X (binaryOp .Mult) (rI zhF λi j =>.int (i*j)):=opI λ_ _ _ _ _ _ _ a q=>mul_int q (IntMulOk.of_le a.1 a.2 (by decide))
def ze2:OpR X (binaryOp .FloorDiv) (rI zlc λi j =>.int (i.fdiv j)):=opI λ_ _ _ _ _ _ _ a q=>floordiv_int a.1 q (.inl (PyProof.noPylong_of_log2 (zc9 a.1 a.2)))
end
mutual
def Rp (K:W.Frag)(H:Hp):PyData->V->Prop
 | .none,v=>v = .non
 | .bool b,v=>v = .bl b
 | .int i,v=>v = .int i
 | .str x,v=>v = .str x
 | .list e,v=>∃a d,v = .ref a/\SqL K H a d/\RpL K H e d
 | .tuple e,v=>∃a d,v = .ref a/\SqT K H a d/\RpL K H e d
 | .dict _,_=>False
def RpL (K:W.Frag)(H:Hp):List PyData->List V->Prop
 | [],a=>a=[]
 | d::b,a=>∃x r,a=x::r/\Rp K H d x/\RpL K H b r
end
def Same.seqT {K:W.Frag}{H b:Hp}{a:Addr}{xs:List V}(e:Same H b)(h:SqT K H a xs):SqT K b a xs:=by
 rcases h with (h | ⟨o,h⟩) | h
 .exact .inl (.inl (e _ _ h))
 .exact .inl (.inr ⟨o,e _ _ h⟩)
 .exact .inr h
mutual
theorem Rp.same {K:W.Frag}{H l:Hp}(e:Same H l):∀(d:PyData) {v:V},Rp K H d v->Rp K l d v
 | .none,_,h=>by simpa[Rp] using h
 | .bool _,_,h=>by simpa[Rp] using h
 | .int _,_,h=>by simpa[Rp] using h
 | .str _,_,h=>by simpa[Rp] using h
 | .list b,_,h=>by
  rw[Rp] at h ⊢;obtain⟨a,j,f,g,i⟩:=h;exact⟨a,j,f,e.seq g,RpL.same e b i⟩
 | .tuple b,_,h=>by
  rw[Rp] at h ⊢;obtain⟨a,j,f,g,i⟩:=h;exact⟨a,j,f,e.seqT g,RpL.same e b i⟩
 | .dict _,_,h=>by simp[Rp] at h
theorem RpL.same {K:W.Frag}{H b:Hp}(e:Same H b):∀(a:List PyData) {xs:List V},RpL K H a xs->RpL K b a xs
 | [],_,h=>by simpa[RpL] using h
 | d::a,_,h=>by
  rw[RpL] at h ⊢;obtain⟨x,r,f,g,i⟩:=h;exact⟨x,r,f,Rp.same e d g,RpL.same e a i⟩
end
section
variable {X:Cx}{pins:List (Addr × Obj)}{σ:St}{H:Hp}{s:Shared}
mutual
theorem Rp.reads (I:Inv X pins σ H s):∀(d:PyData) {v:V}{u:Value},Rp X.K H d v->RelV v u->∃f,Reads s.heap u d f
 | .none,v,u,h,r=>by
  rw[Rp] at h;subst h
  cases (show u=Value.none from r);exact⟨_,.none⟩
 | .bool b,v,u,h,r=>by
  rw[Rp] at h;subst h
  cases (show u=Value.bool b from r);exact⟨_,.bool b⟩
 | .int i,v,u,h,r=>by
  rw[Rp] at h;subst h;obtain⟨t,rfl⟩:=(show ∃t,u=Value.int i t from r);exact⟨_,.int i t⟩
 | .str x,v,u,h,r=>by
  rw[Rp] at h;subst h;obtain⟨t,rfl⟩:=(show ∃t,u=Value.str x t from r);exact⟨_,.str x t⟩
 | .list g,v,u,h,r=>by
  rw[Rp] at h;obtain⟨a,z,rfl,j,l⟩:=h
  cases (show u=Value.ref a from r)
  obtain⟨y,w,⟨o,n,e,m,_,p⟩,_⟩:=I.list j;obtain⟨f,q⟩:=RpL.reads I g l w;exact⟨_,.list e m p (by simpa using q)⟩
 | .tuple g,v,u,h,r=>by
  rw[Rp] at h;obtain⟨a,z,rfl,j,l⟩:=h
  cases (show u=Value.ref a from r)
  obtain⟨y,w,⟨o,e,m,n,p⟩,_⟩:=I.tuple j;obtain⟨f,q⟩:=RpL.reads I g l w;exact⟨_,.tuple e m p (by simpa using q)⟩
 | .dict _,v,u,h,r=>by simp[Rp] at h
theorem RpL.reads (I:Inv X pins σ H s):∀(a:List PyData) {xs:List V}{b:List Value},RpL X.K H a xs->Vals xs b->∃e,ReadsAll s.heap b a e
 | [],xs,b,h,r=>by
  rw[RpL] at h;subst h
  cases r;exact⟨_,.nil⟩
 | d::a,xs,b,h,r=>by
  rw[RpL] at h;obtain⟨x,t,rfl,f,g⟩:=h
  cases r with
  | cons r1 r2=>
   obtain⟨e,q⟩:=Rp.reads I d f r1;obtain⟨bs,i⟩:=RpL.reads I a g r2;exact⟨_,.cons q i⟩
end
end
section
variable {X:Cx}
def rEqD (K:W.Frag)(neg:Bool):R2:=λx y H Q=>∃d e,Rp K H d x/\Rp K H e y/\PySem.SeqAt.shaped d=true/\PySem.SeqAt.shaped e=true/\Q (.bl (if neg then !PyData.eqv d e else PyData.eqv d e)) H
def zjW (j:X.A.units+64<cLine):OpR X (compareOp .Eq) (rEqD X.K false):=by
 intro a s o H x y v u Q I l m h;obtain⟨d,e,b,f,g,i,q⟩:=h;obtain⟨n,r1⟩:=Rp.reads I d b l;obtain⟨bs,r2⟩:=Rp.reads I e f m;exact eq_dataH r1 r2 g i j ⟨.bl _,H,I,rfl,q⟩
def zjT (j:X.A.units+64<cLine):OpR X (compareOp .NotEq) (rEqD X.K true):=by
 intro a s o H x y v u Q I l m h;obtain⟨d,e,b,f,g,i,q⟩:=h;obtain⟨n,r1⟩:=Rp.reads I d b l;obtain⟨bs,r2⟩:=Rp.reads I e f m;exact ne_dataH r1 r2 g i j ⟨.bl _,H,I,rfl,q⟩
end
structure Cal (P:Program)(w:World)(K:W.Frag)(mg:WmP)(base:Heap)(CX:CXT)(k:Nat)(x:Str)(ps:List Str)(sp:Sp):Prop where
 ex:∃f fd,FnOk P w K mg base CX k f fd ps sp/\mg x=some (.ref f)/\W.keepIn K (.ref f)=true/\z6i K fd ps []
section
variable {X:Cx}{CX:CXT}{k:Nat}{ps:List Str}{sp:Sp}{E:XK}{x:Str}{p pos:Pos}{e:Expr}{es:List Expr}{t:TA}
def zlV (C:Cal X.prog X.w X.K X.mg X.base CX k x ps sp)(m:Room k X.A)(n:z4z CX X E)(d:PA X (e::es) t)(i:autoParam (Gl X x) jA1)
  (a:autoParam ((x == ("__debug__":Str))=false) jB1) (h:autoParam (starEach (e::es) X.env=(false,eval e X.env)::starEach es X.env) jA1) (b:autoParam ((backTo pos (starEach es X.env)).any (·.1)=false) jA1):
  PE X (.Call (.Name x p) (e::es) [] pos) (zfU sp [] E t):=by
 obtain⟨f,o,F,l,j,g⟩:=C.ex;exact zgM F m i l j g .nil n d a h b
end
end L2
namespace L2
open PySem PySem.Spec PyProof.Rows
section
variable {P:Program}{w:World}{H:Hp}{h h':Heap}{a:Addr}{o:HO}
def HOk.track (x:HOk P w H h)(f:H a=none)(new:z1i P w (upd H a o) h a o):HOk P w (upd H a o) h:=λb u e=>by
 by_cases d:b=a
 .subst d;rw[z06] at e;grind
 .rw[z05 d] at e;exact(x b u e).stay (λc v _ q=>q) (λc q=>by rw[z05 (z0G q f)];exact q) λc g q=>by rw[z05 (z0G q f)];exact q
def HOk.other (x:HOk P w H h)(g:H a=none)(k:∀b u,b≠a->h.get? b=some u->h'.get? b=some u):HOk P w H h':=λb u e=>by
 have d:∀c v,H c=some v->c≠a:=λc v q z=>by grind
 refine(x b u e).stay (λc v f q=>k c v ?_ q) (λ_ q=>q) λ_ _ q=>q
 rcases f with z | z
 .rw[z];exact d b u e
 .exact d c _ z
end
end L2
namespace Mth
def z42 {t b:Int}(h:0<b):(0:Int)<(Int.gcd t b:Int)/\t=(Int.gcd t b:Int)*(t / (Int.gcd t b:Int))/\b=(Int.gcd t b:Int)*(b / (Int.gcd t b:Int))/\1<=b / (Int.gcd t b:Int)/\Int.gcd (t / (Int.gcd t b:Int)) (b / (Int.gcd t b:Int))=1:=by
 have p:=(Int.gcd_pos_iff (a:=t) (b:=b)).mpr (.inr (by lia));have d:t=(Int.gcd t b:Int)*(t / (Int.gcd t b:Int)):=(u5 (jN t b)).symm;have e:b=(Int.gcd t b:Int)*(b / (Int.gcd t b:Int)):=(u5 (jF t b)).symm;refine⟨by lia,d,e,?_,?_⟩
 .rcases(show b / (Int.gcd t b:Int)<1\/1<=b / (Int.gcd t b:Int) by lia) with q | q
  .have:(Int.gcd t b:Int)*(b / (Int.gcd t b:Int))<=0:=vf (by lia) (by lia);lia
  .exact q
 .have q:=Int.gcd_mul_left (Int.gcd t b:Int) (t / (Int.gcd t b:Int)) (b / (Int.gcd t b:Int));rw[<- d, <- e,j1] at q;have f:Int.gcd t b*1=Int.gcd t b*Int.gcd (t / (Int.gcd t b:Int)) (b / (Int.gcd t b:Int)):=by rw[Nat.mul_one];exact q
  exact(uY p f).symm
def z0l {a b:Int}(d:0<b):(a / b).natAbs<=a.natAbs:=by
 rw[<- Int.fdiv_eq_ediv_of_nonneg a (vq d)];exact PySem.natAbs_fdiv_le a b
end Mth
namespace L2
open PySem PySem.Spec PyProof.Rows
def za6 {i:Int}(a : -(2 ^ 64)<i)(b:i<2 ^ 64):Bt 9000 i:=wM (PySem.intBits_le_64 a b) (by decide)
def bt_k {i:Int}(h:i.natAbs<2 ^ 640):Bt 640 i:=z08 h
def bt_n {i:Int}(a:0<=i)(h:i<2 ^ 640):Bt 640 i:=z08 (by lia)
def z0f {H:Hp}{p:Addr}(h:H p=none)(o:HO):Same H (upd H p o):=λb u q=>by rw[z05 (z0G q h)];exact q
def PE.imp {X:Cx}{e:Expr}{t t':TE}(h:PE X e t)(i:∀a H Q,t' a H Q->t a H Q):PE X e t':=λb s a H Q I q=>h _ s a H Q I (i a H Q q)
def OpR.imp {X:Cx}{f:Value->Value->Sem Value}{r r':R2}(h:OpR X f r)(i:∀x y H Q,r' x y H Q->r x y H Q):OpR X f r':=λa s e H x y v u Q I b d q=>h _ s e H x y v u Q I b d (i x y H Q q)
section
variable {X:Cx}{es:List Expr}{t:TA}{pos:Pos}
def SlR.imp {r r':V->Option Int->Option Int->Hp->VK->Prop}(h:SlR X r)(i:∀x b a H Q,r' x b a H Q->r x b a H Q):SlR X r':=by
 unfold SlR at h ⊢
 intros
 apply h
 all_goals first | assumption | simp_all
end
structure QE (X:Cx)(e:Expr)(t:TE):Prop where
 p:PE X e t
structure QT (X:Cx)(e:Expr)(t:TT):Prop where
 p:PT X e t
structure QW (X:Cx)(e:Expr)(t:TT):Prop where
 p:PW X e t
structure QA (X:Cx)(es:List Expr)(t:TA):Prop where
 p:PA X es t
structure QS (X:Cx)(st:Stmt)(t:TS):Prop where
 p:PS X st t
structure QSs (X:Cx)(st:List Stmt)(t:TS):Prop where
 p:PSs X st t
structure QG (X:Cx)(e:Expr)(t:TG):Prop where
 p:PG X e t
structure QGs (X:Cx)(es:List Expr)(t:TGs):Prop where
 p:PGs X es t
structure QI (X:Cx)(tg e:Expr)(t:TI):Prop where
 p:PI X tg e t
structure QO (X:Cx)(e:Option Expr)(t:TO):Prop where
 p:PO X e t
section
variable {X:Cx}{a b c e f o:Expr}{ta tb tc te:TE}{pos pos2 p2:Pos}{tA tB':TT}{rest:List Expr}{es:List Expr}{aa:TA}
def zjg {i j a}:QE X (.Constant (.int i) j a) (tC (.int i)):=⟨zjD⟩
def zlP {i j a}:QE X (.Constant (.bool i) j a) (tC (.bl i)):=⟨zlX⟩
def zjd {j a}:QE X (.Constant .none j a) (tC .non):=⟨zjA⟩
def zjb {x j a}:QE X (.Constant (.str x) j a) (tC (.str x)):=⟨zjy⟩
def qv (i:Nat){x:Str}{b:Pos}(d:autoParam (X.N[i]? = some x) jA1)(f:Vis X.env.scope x:=by first | exact Or.inl rfl | exact Or.inr (Or.inl rfl) | exact Or.inr (Or.inr rfl))(e:autoParam ((x == ("__debug__":Str))=false) jB1)
  (a:autoParam ((x == ("__classdict__":Str))=false) jB1):QE X (.Name x b) (tVar i):=⟨zfi d f e a⟩
def zlM {op:Operator}{r:R2}(f:OpR X (binaryOp op) r)(d:QE X a ta)(e:QE X b tb):QE X (.BinOp a op b pos) (tOp r ta tb):=⟨zlT f d.p e.p⟩
def zlL {op:UnaryOp}{r:V->Hp->VK->Prop}(d:UnR X (unaryOp op) r)(b:QE X a ta):QE X (.UnaryOp op a pos) (tUn r ta):=⟨zlS d b.p⟩
def zjc {op}{t:TE}(h:QE X a t):QE X (.BoolOp op [a] pos) t:=⟨zjz h.p⟩
def zjj (d:QE X a ta)(e:QE X (.BoolOp .And (b::rest) pos) tb):QE X (.BoolOp .And (a::b::rest) pos) (zi8 ta tb):=⟨zjF d.p e.p⟩
def zgv {op:CmpOp}{r:R2}(g:OpR X (compareOp op) r)(d:QE X a ta)(e:QE X b tb)(f:behindInMarks op b=false):QE X (.Compare a [op] [b] pos) (tOp r ta tb):=⟨zgL g d.p e.p f⟩
def zgm {op:CmpOp}{r:R2}(g:OpR X (compareOp op) r)(d:QE X a ta)(e:QE X b tb)(f:behindInMarks op b=false):QT X (.Compare a [op] [b] pos) (zfT (tOp r ta tb)):=⟨zgB g d.p e.p f⟩
def ziZ {t:TE}(h:QE X e t)(b:autoParam (∀a,isTrue e X.env a=(do let v <- a;standAt e.pos;holding [v] (truthy v))) jC1):QT X e (tB t):=⟨zjm h.p b⟩
def zj0 (b:QT X a tA):QT X (.UnaryOp .Not a pos) (tNot tA):=⟨zjn b.p⟩
def zgj (b:QT X a tA):QW X (.BoolOp .And [a] pos) tA:=⟨zgy b.p⟩
def ziX (b:QT X a tA):QW X (.BoolOp .Or [a] pos) tA:=⟨zjk b.p⟩
def ziY (d:QT X a tA)(e:QW X (.BoolOp .And (b::rest) pos) tB'):QW X (.BoolOp .And (a::b::rest) pos) (tAnd tA tB'):=⟨zjl d.p e.p⟩
def zlI (d:QT X a tA)(e:QW X (.BoolOp .Or (b::rest) pos) tB'):QW X (.BoolOp .Or (a::b::rest) pos) (tOr tA tB'):=⟨zlQ d.p e.p⟩
theorem QW.pt {t:TT}(h:QW X e t):QT X e t:=⟨h.p.pt⟩
def zgx {x:Str}{v:V}{u:Value}(b:Gl X x)(d:X.mg x=none)(f:bootBuiltins x=some u)(r:RelV v u)(e:autoParam (x≠"__name__") jB1)(a:autoParam ((x == ("__debug__":Str))=false) jB1):QE X (.Name x pos) (tC v):=⟨zgN b d f r e a⟩
def z5y:QA X [] tNil:=⟨zjI⟩
def z3j (a:QE X e te)(b:QA X es aa)(hs:autoParam (starEach (e::es) X.env=(false,eval e X.env)::starEach es X.env) jA1):QA X (e::es) (zi6 te aa):=⟨zgP a.p b.p hs⟩
def zlO {CX:CXT}{k:Nat}{ps:List Str}{sp:Sp}{E:XK}{x:Str}{j:Pos}(C:Cal X.prog X.w X.K X.mg X.base CX k x ps sp)(h:Room k X.A)(i:z4z CX X E)(d:QA X (e::es) aa)(g:autoParam (Gl X x) jA1)
  (a:autoParam ((x == ("__debug__":Str))=false) jB1) (f:autoParam (starEach (e::es) X.env=(false,eval e X.env)::starEach es X.env) jA1) (b:autoParam ((backTo pos (starEach es X.env)).any (·.1)=false) jA1):QE X (.Call (.Name x j) (e::es) [] pos) (zfU sp [] E aa):=⟨zlV C h i d.p g a f b⟩
def z4h {x:Str}{m:Pos}{id:String}{r:List V->Hp->VK->Prop}(f:z0C X (.builtin id) r)(h:Gl X x)(i:X.mg x=none)(l:bootBuiltins x=some (.builtin id))(d:QA X (e::es) aa)(j:autoParam (x≠"__name__") jB1)(a:autoParam ((x == ("__debug__":Str))=false) jB1)
  (g:autoParam (starEach (e::es) X.env=(false,eval e X.env)::starEach es X.env) jA1) (b:autoParam ((backTo pos (starEach es X.env)).any (·.1)=false) jA1):QE X (.Call (.Name x m) (e::es) [] pos) (tCB r aa):=⟨zdZ f h i l d.p j a g b⟩
def z2g {x:Str}{m:Pos}{id:String}{r:List V->Hp->VK->Prop}(f:z0C X (.type id) r)(h:Gl X x)(i:X.mg x=none)(l:bootBuiltins x=some (.type id))(d:QA X (e::es) aa)(j:autoParam (x≠"__name__") jB1)(a:autoParam ((x == ("__debug__":Str))=false) jB1)
  (g:autoParam (starEach (e::es) X.env=(false,eval e X.env)::starEach es X.env) jA1) (b:autoParam ((backTo pos (starEach es X.env)).any (·.1)=false) jA1):QE X (.Call (.Name x m) (e::es) [] pos) (tCB r aa):=⟨zbD f h i l d.p j a g b⟩
def zlN {r:R2}(f:IxR X r)(d:QE X a ta)(e:QE X b tb)(hs:z9j b):QE X (.Subscript a b pos) (tOp r ta tb):=⟨zlU f d.p e.p hs⟩
def zgs:QO X none zb2:=⟨zgJ⟩
def zgr (h:QE X e te):QO X (some e) (zi1 te):=⟨zgI h.p⟩
def zdN {r:V->Option Int->Option Int->Hp->VK->Prop}{b a:Option Expr}{tl d:TO}(h:SlR X r)(f:QE X e te)(g:QO X b tl)(i:QO X a d):QE X (.Subscript e (.Slice b a none p2) pos) (tSl r te tl d):=⟨zdU h f.p g.p i.p⟩
def zji {T id:String}{name:Str}{a b:Pos}{r:V->List V->Hp->VK->Prop}(j:PlainAttrs T)(f:Slot T name id)(g:typeOf (.builtin id)=pure (.type "method_descriptor"))(h:MtR X id r)(i:QE X o te)
  (d:autoParam (attributeBase o name X.env (eval o X.env)=eval o X.env) jA1) (e:autoParam ((a.endLine == b.line)=true) jA1):QE X (.Call (.Attribute o name a) [] [] b) (tBM0 X.K T r te):=⟨zjE j f g h i.p d e⟩
def zgw {T id:String}{name:Str}{d a:Pos}{r:V->List V->Hp->VK->Prop}(q:PlainAttrs T)(i:Slot T name id)(j:typeOf (.builtin id)=pure (.type "method_descriptor"))(m:MtR X id r)(n:QE X o te)(l:QA X (e::es) aa)
  (f:autoParam (attributeBase o name X.env (eval o X.env)=eval o X.env) jA1)
  (h:autoParam (((backTo a (starEach (e::es) X.env)).all (λx => !x.1) && (backToKw a (keywordEach [] X.env)).all (λx=>x.1.isSome)
   && decide ((e::es).length+([]:List Keyword).length+(if ([]:List Keyword).isEmpty then 0 else 1)<30))=true) jA1)
  (g:autoParam ((d.endLine == a.line)=true) jA1) (hs:autoParam (starEach (e::es) X.env=(false,eval e X.env)::starEach es X.env) jA1) (b:autoParam ((backTo a (starEach es X.env)).any (·.1)=false) jA1):
  QE X (.Call (.Attribute o name d) (e::es) [] a) (tBM X.K T r te aa):=⟨zlW q i j m n.p l.p f h g hs b⟩
end
section
variable {X:Cx}{st:Stmt}{rest body a b:List Stmt}{t u tb:TS}{e tg c iter:Expr}{te:TE}{tc:TT}{pos:Pos}{g:TG}{wi:TI}{aa:TA}
def zgo:QSs X [] zi2:=⟨zgD⟩
def zdE (a:QS X st t)(b:QSs X rest u):QSs X (st::rest) (tSeq t u):=⟨zdP a.p b.p⟩
def zgn (a:QS X st t):QSs X [st] t:=⟨zgC a.p⟩
def zdG:QS X st zeZ:=⟨zdR⟩
def zj2 (a:QE X e te):QS X (.Return (some e) pos) (tRet te):=⟨zjp a.p⟩
def z8O (a:QE X e te)(hs:autoParam (swapsWith e none pos.line X.env=pure false) jA1):QS X (.Expr e pos) (zi3 te):=⟨zgE a.p hs⟩
def zlJ (f:QT X c tc)(d:QSs X a t)(e:QSs X b u):QS X (.If c a b pos) (tIfS tc t u):=⟨zlR f.p d.p e.p⟩
def zdF (d:PassesOwn (model X.prog X.w) X.A X.env X.xe)(b:QT X c tc)(a:QSs X body tb):QS X (.While c body [] pos) (zeY tc tb):=⟨zdQ d b.p a.p⟩
def zff (f:PassesOwn (model X.prog X.w) X.A X.env X.xe)(b:X.calm=true)(e:QI X tg iter wi)(d:QG X tg g)(a:QSs X body tb)
  (hs:autoParam (∀x,foldedSetIterable iter X.env x=pure x) jC1):QS X (.For tg iter body [] pos) (tFor wi g tb):=⟨zjr f b e.p d.p a.p hs⟩
def zj4 (b:QE X e te)(d:QG X tg g)(hs:autoParam (swapsWithSole [tg] e pos.line X.env=pure false) jA1)(f:autoParam (swappedStores [tg] e X.env=pure none) jA1)
  (a:autoParam ((assignEach [tg] X.env).map (·.2)=[assign tg X.env]) jA1):QS X (.Assign [tg] e pos) (tAsg te g):=⟨zjs b.p d.p hs f a⟩
def zgt:QGs X [] gNil:=⟨zgK⟩
def zdK {es:List Expr}{t:TG}{u:TGs}(a:QG X e t)(b:QGs X es u)
  (hs:autoParam ((assignEach (e::es) X.env).map (·.2)=assign e X.env::(assignEach es X.env).map (·.2)) jA1):QGs X (e::es) (zew t u):=⟨zdT a.p b.p hs⟩
def zj6 {es:List Expr}{k:Nat}{t:TGs}{n:Nat}(b:X.calm=true)(h:QGs X es t)
  (d:autoParam ((assignEach es X.env).length=n) jA1) (a:autoParam ((assignEach es X.env).findIdx? (·.1)=none) jA1):QG X (.Tuple es k pos) (gTup X.K n t):=⟨zjv b h.p d a⟩
def z7K {a:Expr}{p:Pos}(d:Gl X "range")(e:X.mg "range"=none)(b:QA X [a] aa)(hs:autoParam (starEach [a] X.env=[(false,eval a X.env)]) jA1):QI X tg (.Call (.Name "range" p) [a] [] pos) (zkN aa):=⟨zbA d e b.p hs⟩
end
def eqv2 {a b c d:Int}:PyData.eqv (.tuple [.int a,.int b]) (.tuple [.int c,.int d])=decide (a=c/\b=d):=by
 simp[PyData.eqv,PyData.eqvAll]
 by_cases e:a=c <;> by_cases f:b=d <;> simp[e,f]
end L2
namespace Mth
def g3 (x y b:Int):Int:=((Int.gcd ((Int.gcd b x:Nat):Int) y:Nat):Int)
def z5c (x y b:Int):g3 x y b ∣ b:=jG (jN _ _) (jN b x)
def z9V (x y b:Int):g3 x y b ∣ x:=jG (jN _ _) (jF b x)
def z9U (x y b:Int):g3 x y b ∣ y:=jF _ _
def z9T {x y b:Int}(h:0<b):0<g3 x y b:=by
 have p:=(Int.gcd_pos_iff (a:=b) (b:=x)).mpr (.inl (by lia));have d:=(Int.gcd_pos_iff (a:=((Int.gcd b x):Int)) (b:=y)).mpr (.inl (by lia));unfold g3;lia
structure Plc (x y b u v t:Int):Prop where
 pos:1<=t
 cop:Int.gcd ((Int.gcd u v:Nat):Int) t=1
 cx:u*b=x*t
 cy:v*b=y*t
 lu:u.natAbs<=x.natAbs
 lv:v.natAbs<=y.natAbs
 lt:t.natAbs<=b.natAbs
def z31 (a b c:Int):Int.gcd ((Int.gcd a b:Nat):Int) c=Nat.gcd (Nat.gcd a.natAbs b.natAbs) c.natAbs:=rfl
def zfg {x y b:Int}(h:0<b):Plc x y b (x / g3 x y b) (y / g3 x y b) (b / g3 x y b):=by
 have f:=z9T (x:=x) (y:=y) h;have ex:x=g3 x y b*(x / g3 x y b):=(u5 (z9V x y b)).symm;have d:y=g3 x y b*(y / g3 x y b):=(u5 (z9U x y b)).symm;have a:b=g3 x y b*(b / g3 x y b):=(u5 (z5c x y b)).symm;have m:g3 x y b=((Nat.gcd (Nat.gcd b.natAbs x.natAbs) y.natAbs:Nat):Int):=rfl;refine⟨?_,?_,?_,?_,z0l f,z0l f,z0l f⟩
 .generalize b / g3 x y b=t at a
  rcases(show t<1\/1<=t by lia) with q | q
  .have:g3 x y b*t<=0:=vf (by lia) (by lia);lia
  .exact q
 .rw[z31];generalize p:x / g3 x y b=u at ex;generalize r:y / g3 x y b=v at d;generalize o:b / g3 x y b=t at a;have nx:=congrArg Int.natAbs ex;have i:=congrArg Int.natAbs d;have g:=congrArg Int.natAbs a;rw[ud] at nx i g;have ng:(g3 x y b).natAbs=Nat.gcd (Nat.gcd b.natAbs x.natAbs) y.natAbs:=by rw[m,j1]
  generalize n:(g3 x y b).natAbs=G at nx i g ng;have e:0<G:=by lia
  rw[nx,i,g,Nat.gcd_mul_left,Nat.gcd_mul_left] at ng;have j:G*1=G*Nat.gcd (Nat.gcd t.natAbs u.natAbs) v.natAbs:=by rw[Nat.mul_one];exact ng
  have l:=uY e j;rw[jW (Nat.gcd u.natAbs v.natAbs), <- Nat.gcd_assoc];exact l.symm
 .have:x / g3 x y b*b=x / g3 x y b*(g3 x y b*(b / g3 x y b)):=congrArg _ a;rw[this,Int.mul_left_comm, <- uI, <- ex]
 .have:y / g3 x y b*b=y / g3 x y b*(g3 x y b*(b / g3 x y b)):=congrArg _ a;rw[this,Int.mul_left_comm, <- uI, <- d]
end Mth
namespace L2
open PySem PySem.Spec PyProof.Rows
structure Fly (P:Program)(w:World)(outer:List Env)(H:Hp)(h0:Heap)(Cv:Value)(H':Hp)(ea t:Addr)(B h:Heap):Prop where
 fl:Heap.FlyingW B outer ea Cv (.ref t) h
 un:Un (frs outer) [] H H' h0 h
 hok:HOk P w H' h
 trk:∀b o,H' b=some o->∃ob,B.get? b=some ob
 kep:∀b o,h0.get? b=some o->b ∉ frs outer->∃ob,B.get? b=some ob
def CXe (P:Program)(w:World):CXT:=λa H s E e b=>∃(g t:Addr) (d:Value) (f:Hp) (B:Heap),e = .ref g/\Fly P w a H s.heap d f g t B b.heap/\AllBare b.gens/\b.os=s.os/\E d none f
section
variable {P:Program}{w:World}{outer:List Env}{H H':Hp}{h0 h h2:Heap}{Cv:Value}{ea t:Addr}{B:Heap}
def z1i.there {a:Addr}{o:HO}(x:z1i P w H h a o):∃ob,h.get? a=some ob:=by
 cases o with
 | lst d=>obtain⟨_,_,_,_,e⟩:=x;exact⟨_,e⟩
 | tup d=>obtain⟨_,_,_,⟨ob,e,_⟩,_⟩:=x;exact⟨_,e⟩
 | dK b=>obtain⟨_,_,_,_,o,_,_,e,_⟩:=x;exact⟨_,e⟩
 | dT b=>obtain⟨_,_,_,_,o,_,_,e,_⟩:=x;exact⟨_,e⟩
 | set S n=>obtain⟨o,_,_,_,e,_⟩:=x;exact⟨_,e⟩
 | ins C g fs=>obtain⟨_,_,_,e,_⟩:=x;exact⟨_,e⟩
 | own y=>obtain⟨_,e⟩:=x;exact⟨_,e⟩
 | xd fs=>obtain⟨_,⟨_,_,_,e,_⟩,_⟩:=x;exact⟨_,e⟩
 | rng j i=>obtain⟨_,_,_,e⟩:=x;exact⟨_,e⟩
 | frz ob u=>obtain⟨e,_⟩:=x;exact⟨_,e⟩
 | tbl ps=>rcases x with e | ⟨_,_,_,_,_,_,_,_,_,_,_,e,_⟩ <;> exact⟨_,e⟩
 | met f y=>exact⟨_,(x)⟩
 | ext l=>obtain⟨_,⟨_,e⟩,_⟩:=x;exact⟨_,e⟩
end
section
variable {P:Program}{w:World}{K:W.Frag}{mg:WmP}{base:Heap}{N:List Str}{qual:Str}{sc:Scope}{f:Addr}{cdv:Value}{A:Around}{outer:List Env}{s:Shared}{H:Hp}{E:XK}
def Fun.okN {x:Str}{st:Stmt}{i:FuncData}{ps:List Str}{k:Nat}{sp:Sp}(F:Fun K x qual st f i)(S:z4R N ps (z09 st))(len:∀vs H Q E,sp vs H Q E->vs.length=ps.length)
  (d:∀(b:Value) (A:Around) (a:List Env) (s:Shared) (H:Hp) (vs:List V) (Q:VK) (E:XK),Room k (A.deeper (envOfC qual (z09 st) s.heap.objs.size f b))->sp vs H Q E->
   ∃t,QSs ((cxOf (CXe P w) P w K mg base N qual (z09 st) f b A a s H E).wish λ_ _=>False) (z1F st) t/\t { nx:=λ_ j=>Q .non j,rt:=Q } (z4B N vs) H):FnOk P w K mg base (CXe P w) (k+1) f i ps sp:=by
 obtain⟨u,y,kV,l,z,an,b,r,o,rfl,n,e⟩:=F.ex;refine zms n e S len λA a s H vs Q E m g =>?_;obtain⟨t,h,q⟩:=d b A _ s H vs Q E m g;exact⟨t,h.p.nox,q⟩
def zjG {X:Cx}:z4z (CXe P w) X E0:=λ_ _ _ _ _ _ _ ⟨_,_,_,_,_,_,_,_,_,q⟩=>q.elim
end
def zmO (a C:Addr)(h:Heap):Prop:=∃o,h.get? a=some o/\o.cls = .ref C/\∃vs,o.data = .fields vs
section
variable {X:Cx}
theorem vals_refs:∀(a:List Addr) {b:List Value},Vals (a.map V.ref) b->b=a.map Value.ref
 | [],_,r=>by cases r;rfl
 | c::a,_,r=>by
  cases r with
  | cons r1 r2=>
   rw[vals_refs a r2]
   cases (show _=Value.ref c from r1)
   rfl
end
open Builtin.Str
section
variable {X:Cx}
def rSlS:V->Option Int->Option Int->Hp->VK->Prop:=λx b a H Q=>∃y,x = .str y/\y.length<=sizeLine/\Q (.str (Txt.slice y b a)) H
def zic:SlR X rSlS:=by
 intro a s L H x v J K C p sl Q I E hs pl b h;obtain⟨y,rfl,z,q⟩:=h;obtain⟨t,rfl⟩:=E;refine⟨"str",_,F.slot_str_getitem.lookup,typeIs_str _ _ _,?_⟩;obtain⟨o,r,m,n⟩:=hs;have fin:∀(l u:Option (Int × Tok)),l.map (·.1)=C->u.map (·.1)=p->J=partValue l->K=partValue u->wpAny (model X.prog X.w) X.A (getItem (.str y t) (.ref sl)) (EP X a L Q) X.xe s:=λl u d e f g=>by
  subst d e f g;exact wpAny_getItem_str_slice (l:=l) (u:=u) (st:=none) ⟨o,r,m,n⟩ rfl (post_val_or_str ⟨wM (Txt.slice_le y _ _) z,λG k=>⟨.str _,H,I.tok k,⟨G,rfl⟩,q⟩⟩)
 cases pl with
 | none=>
  cases b with
  | none=>exact fin none none rfl rfl rfl rfl
  | int j u=>exact fin none (some (j,u)) rfl rfl rfl rfl
 | int i w=>
  cases b with
  | none=>exact fin (some (i,w)) none rfl rfl rfl rfl
  | int j u=>exact fin (some (i,w)) (some (j,u)) rfl rfl rfl rfl
def Its (x:Str):It:=⟨λi _=>i<x.cps.size,λi H v a=>a=H/\∃c,x.cps[i]? = some c/\v = .str ⟨#[c]⟩,λi _=>x.cps.size<=i⟩
def z9n {P:Program}{w:World}{K:W.Frag}{tg:Expr}(x:Str)(t:Tok)(it:Addr){ty:String}(M:["enumerate","zip","dict_itemiterator","dict_reverseitemiterator","odict_iterator","itertools.zip_longest","itertools.pairwise"].contains ty=false)
  (W:∀A':Around,A'.handled=none->Walks P w A' it [it] [it] x.cps.size (SignAt x) (λi h=>h.IsStrIter it ty x t i)) (hs:∀(A:Around) (i:Nat) (s:Shared) (Q:WvP) (E:WvP),s.heap.IsStrIter it ty x t i->Q (.ref it) s->wpAny (model P w) A (pyIter (.ref it)) Q E s):
  Turn P w K tg (Its x) [it] it (λi h=>i<=x.cps.size/\h.IsStrIter it ty x t i) where
 mem:=by simp
 obj:=λi h a b g=>by
  have e:b=it:=by simpa using g
  subst e;obtain⟨_,o,e,c,d⟩:=a;exact⟨o,e,λv z=>by rw[d] at z;cases z⟩
 keep:=λi h j a k=>⟨a.1,(W { } rfl).frame i h j a.2 k⟩
 item:=by
  intro X G N F J i f s S H E I m a n;subst G N F;obtain⟨p,q,f2,r,y,C⟩:=m it (by simp);refine(W X.A (I.ok.hd J)).item i s _ _ n a.2 λv j R hv l O =>?_;obtain⟨c,u,L,rfl⟩:=hv;have T:Inv X f S H { s with heap:=j,toks:=R }:=I.turned (λb o g e=>O b o (by simpa using g) e) p q r y C;obtain⟨o,U,Y,Z⟩:=id l;exact⟨_,rfl,zer (s:={ s with heap:=j,toks:=R }) U Y Z M ⟨.str ⟨#[c]⟩,H,T,⟨u,rfl⟩,⟨rfl,c,L,rfl⟩,⟨n,l⟩,λb g=>(m b g).1⟩⟩
 done:=by
  intro X G N F J i f s S H E I m a n;subst G N F;obtain⟨p,q,f2,r,y,C⟩:=m it (by simp);have e:i=x.cps.size:=Nat.le_antisymm a.1 n;subst e;exact(W X.A (I.ok.hd J)).done s _ _ a.2 λj R O=>⟨rfl,I.turned (λb o g e=>O b o (by simpa using g) e) p q r y C⟩
 self:=λA i s Q E a h=>hs A i s Q E a.2 h
variable {tg:Expr}
def zje {es:List Expr}{b:TA}{a:Pos}(h:QA X es b):QE X (.List es a) (tLst b):=⟨zjB h.p⟩
def z6e:MtR X "list.append" zbk:=zbZ
end
end L2
namespace Mth
def z4I {a b:Nat}(h:∀p,p ∣ a->p ∣ b->p ∣ 1):Nat.Coprime a b:=
 Nat.dvd_one.mp (h _ (Nat.gcd_dvd_left a b) (Nat.gcd_dvd_right a b))
def z9a {p:Nat}{x:Int}:p ∣ x.natAbs↔(p:Int) ∣ x:=by rw[<- uB,j1]
def z7h {p z c:Nat}{x a:Int}(b:Nat.Coprime z c)(d:p ∣ z)(h:(p:Int) ∣ x*(c:Int)+a*(z:Int)):p ∣ x.natAbs:=by
 have e:(p:Int) ∣ a*z:=jG (Int.natCast_dvd_natCast.mpr d) (Int.dvd_mul_left _ _);have f  := (Int.dvd_add_left e).mp h;have g  := by
  have:=z9a.mpr f;rw[ud] at this;exact this
 exact(Nat.Coprime.coprime_dvd_left d b).dvd_of_dvd_mul_right g
def z7M {x y z a b c:Int}(hz:0<z)(hc:0<c)(W:Int.gcd ((Int.gcd x y:Nat):Int) z=1)(X:Int.gcd ((Int.gcd a b:Nat):Int) c=1)
  {g u v r:Int}(T:g=((Int.gcd z c:Nat):Int)) (H:u=x*(c / g)+a*(z / g)) (I:v=y*(c / g)+b*(z / g)) (U:r=((Int.gcd ((Int.gcd g u:Nat):Int) v:Nat):Int)):
  0<g/\0<r/\g.natAbs<=z.natAbs/\r.natAbs<=z.natAbs/\Plc (x*c+a*z) (y*c+b*z) (z*c) (u / r) (v / r) (z / g*(c / r)):=by
 have gp:=(Int.gcd_pos_iff (a:=z) (b:=c)).mpr (.inl (by omega));have A:0<g:=by omega
 have gz:g ∣ z:=T ▸ jN z c;have gc:g ∣ c:=T ▸ jF z c;have F:r=g3 u v g:=U;have N:0<r:=F ▸ z9T A;have rg:r ∣ g:=F ▸ z5c u v g;have ru:r ∣ u:=F ▸ z9V u v g;have rv:r ∣ v:=F ▸ z9U u v g;obtain⟨z',s⟩:=gz;obtain⟨c',w⟩:=gc;obtain⟨g',e⟩:=rg;obtain⟨u',i⟩:=ru;obtain⟨v',j⟩:=rv;have q1:z / g=z':=by rw[s];exact uF z' (by omega)
 have q2:c / g=c':=by rw[w];exact uF c' (by omega)
 have q3:u / r=u':=by rw[i];exact uF u' (by omega)
 have q4:v / r=v':=by rw[j];exact uF v' (by omega)
 have q5:c / r=g'*c':=by rw[w,e,uI];exact uF _ (by omega)
 rw[q1,q2] at H I;rw[q1,q3,q4,q5];have O:0<z':=by
  rcases(show z'<=0\/0<z' by omega) with h | h
  .have:=vf (vq A) h;omega
  .exact h
 have L:0<c':=by
  rcases(show c'<=0\/0<c' by omega) with h | h
  .have:=vf (vq A) h;omega
  .exact h
 have M:0<g':=by
  rcases(show g'<=0\/0<g' by omega) with h | h
  .have:=vf (vq N) h;omega
  .exact h
 have f:Nat.Coprime z'.natAbs c'.natAbs:=by
  have q:=Int.gcd_mul_left g z' c';rw[<- s, <- w] at q;have q':g.natAbs*1=g.natAbs*Int.gcd z' c':=by omega
  exact(uY (by omega) q').symm
 have cg:Nat.gcd (Nat.gcd g'.natAbs u'.natAbs) v'.natAbs=1:=by
  have Y:=congrArg Int.natAbs e;have Z:=congrArg Int.natAbs i;have n3:=congrArg Int.natAbs j;rw[ud] at Y Z n3;have K:r.natAbs=Nat.gcd (Nat.gcd g.natAbs u.natAbs) v.natAbs:=by rw[U,j1,z31]
  rw[Y,Z,n3,Nat.gcd_mul_left,Nat.gcd_mul_left] at K;have:r.natAbs*1=r.natAbs*Nat.gcd (Nat.gcd g'.natAbs u'.natAbs) v'.natAbs:=by omega
  exact(uY (by omega) this).symm
 have m:((z'.natAbs:Nat):Int)=z':=Int.natAbs_of_nonneg (by omega);have l:((c'.natAbs:Nat):Int)=c':=Int.natAbs_of_nonneg (by omega);have big:∀{p:Nat},p ∣ u'.natAbs->(p:Int) ∣ u:=λh=>i ▸ jG (z9a.mp h) (Int.dvd_mul_left _ _);have o:∀{p:Nat},p ∣ v'.natAbs->(p:Int) ∣ v:=λh=>j ▸ jG (z9a.mp h) (Int.dvd_mul_left _ _);have k1:Nat.Coprime (Nat.gcd u'.natAbs v'.natAbs) z'.natAbs:=by
  refine z4I λp t n =>?_;have C:=big (ji t (Nat.gcd_dvd_left _ _));have E:=o (ji t (Nat.gcd_dvd_right _ _));rw[H, <- m, <- l] at C;rw[I, <- m, <- l] at E;have Q:p ∣ z.natAbs:=by rw[s,ud];exact ji n (Nat.dvd_mul_left _ _)
  have:=j5 (j5 (z7h f n C) (z7h f n E)) Q;rw[z31] at W;rw[W] at this;exact this
 have k2:Nat.Coprime (Nat.gcd u'.natAbs v'.natAbs) c'.natAbs:=by
  refine z4I λp t n =>?_;have C:=big (ji t (Nat.gcd_dvd_left _ _));have E:=o (ji t (Nat.gcd_dvd_right _ _));rw[H, <- m, <- l,Int.add_comm] at C;rw[I, <- m, <- l,Int.add_comm] at E;have Q:p ∣ c.natAbs:=by rw[w,ud];exact ji n (Nat.dvd_mul_left _ _)
  have:=j5 (j5 (z7h f.symm n C) (z7h f.symm n E)) Q;rw[z31] at X;rw[X] at this;exact this
 have k3:Nat.Coprime (Nat.gcd u'.natAbs v'.natAbs) g'.natAbs:=by
  refine z4I λp t n =>?_;have:=j5 (j5 n (ji t (Nat.gcd_dvd_left _ _))) (ji t (Nat.gcd_dvd_right _ _));rw[cg] at this;exact this
 have R:x*c+a*z=g*r*u':=by rw[uI, <- i,H,w,s];grind
 have S:y*c+b*z=g*r*v':=by rw[uI, <- j,I,w,s];grind
 have J:z*c=g*r*(z'*(g'*c')):=by rw[s,w];generalize g=G at e ⊢;subst e;grind
 have a0:0<g*r:=vD A N;have d:∀k:Int,k.natAbs<=(g*r*k).natAbs:=λk=>by
  rw[ud];exact Nat.le_mul_of_pos_left _ (by omega)
 refine⟨A,N,Nat.le_of_dvd (by omega) (uB.mpr ⟨z',s⟩),Nat.le_of_dvd (by omega) (uB.mpr ⟨g'*z',by rw[s,e,uI]⟩),?_,?_,?_,?_,?_,?_,?_⟩
 .have:=vD O (vD M L);omega
 .rw[z31,ud,ud];exact Nat.Coprime.mul_right k1 (Nat.Coprime.mul_right k3 k2)
 .rw[R,J];grind
 .rw[S,J];grind
 .rw[R];exact d _
 .rw[S];exact d _
 .rw[J];exact d _
end Mth
namespace L2
open PySem PySem.Spec PyProof.Rows
section
variable {prog:Program}{w:World}{A:Around}{R:Result->Shared->Prop}{s:Shared}
def zhC (M:Model)(A:Around)(ct:Option Expr)(env:Env)(Q:Bool->Shared->Prop)(E:WvP)(s:Shared):Prop:=
 match ct with
 | none=>Q true s
 | some c=>wpAny M A (isTrue c env (eval c env)) Q E s
def z8j {i a f:Expr}{ct:Option Expr}{d:Scope}{p:Pos}{it g:Value}{env:Env}(I:Nat->Shared->Prop)
  (q:∀n s,I n s->wpAny (model prog w) A (pyNext it) (λr C=>match r with
   | none=>R (.ok .next) C
   | some v=>wpAny (model prog w) A (letOwnedTupleGo a it v) (λ_ K=>wpAny (model prog w) A (assign a env v) (λ_ E=>zhC (model prog w) A ct env (λok j=>if ok=true then wpAny (model prog w) A (eval i env) (λx F=>
     wpAny (model prog w) A (call (.builtin "list.append") [g,x]) (λ_ G=>∃m,m<n/\I m G) (notedBy (model prog w) A env λe s'=>R (.error e) s') F)
     (notedBy (model prog w) A env λe s'=>R (.error e) s') j else ∃m,m<n/\I m j) (notedBy (model prog w) A env λe s'=>R (.error e) s') E) (notedBy (model prog w) A env λe s'=>R (.error e) s') K) (notedBy (model prog w) A env λe s'=>R (.error e) s') C) (notedBy (model prog w) A env λe s'=>R (.error e) s') s)
  (n:Nat) (h:I n s):
  codeAny (model prog w) A (.compLoop (.ListComp i [⟨a,f,ct.toList,0⟩] d p) 0 it g env) R s:=by
 refine codeAny_loop rfl I (λn s M =>?_) n h;show wpAny _ _ ((compTurn (.ListComp i [⟨a,f,ct.toList,0⟩] d p) 0 it g env).onRaise (λx=>do noteFrame x env;theTreesLotGoes x)) _ _ s;refine wpAny_noted ?_;rw[compTurn_list];refine wc (wpAny_standAt (wc (vJ (q n s M) (λr C H =>?_) λ_ _ b=>b)))
 cases r with
 | none=>exact wg H
 | some v=>
  refine wc (vJ H (λ_ K L =>?_) λ_ _ b=>b);refine wc (vJ L (λ_ E J =>?_) λ_ _ b=>b)
  cases ct with
  | none=>
   refine wc (vJ (wpAny_tests_nil (Q:=λok j=>ok=true/\j=E) ⟨rfl,rfl⟩) (λok j t =>?_) λ_ _ b=>b);obtain⟨rfl,rfl⟩:=t;have l:=J;simp only[zhC,jS] at l;exact wc (wc (vJ l (λx F u=>wc (vJ u (λ_ G y=>wg (wg ⟨rfl,y⟩)) λ_ _ b=>b)) λ_ _ b=>b))
  | some c=>
   refine wc (wpAny_tests_one (vJ (show wpAny (model prog w) A (isTrue c env (eval c env)) _ _ _ from J) (λz j t =>?_) λ_ _ b=>b))
   cases z with
   | false=>exact wg ⟨rfl,by simpa using t⟩
   | true=>
    have o:=t;simp only[jS] at o;exact wc (wc (vJ o (λx F u=>wc (vJ u (λ_ G y=>wg (wg ⟨rfl,y⟩)) λ_ _ b=>b)) λ_ _ b=>b))
end
def z43 (env:Env)(a:List (Str × NameKind))(b:List (Str × Addr)):List (Str × Addr):=a.foldl (λc x=>if x.2 == .free then (x.1,(env.cells.lookup x.1).getD 0)::c else c) b
theorem z6w {d a:Type}{f:d->a->Sem (ForInStep a)}{g:d->a->a}:∀(l:List d) (b:a),(∀x∈l,∀c,f x c=pure (.yield (g x c)))->forIn l b f=(pure (l.foldl (λc x=>g x c) b):Sem a)
 | [],b,_=>rfl
 | x::l,b,h=>by
  rw[List.forIn_cons,h x ww];exact z6w l _ λy e=>h y (wp _ e)
def z7l {b:Scope}{env:Env}(h:∀x∈b.names,x.2 = .free->∃c,env.cells.lookup x.1=some c):closureFor b env=pure (z43 env b.names []):=by
 simp[closureFor];rw[z6w (g:=λx c=>if x.2 == .free then (x.1,(env.cells.lookup x.1).getD 0)::c else c) _ [] (λx j c=>by
  obtain⟨n,d⟩:=x
  by_cases i:d = .free
  .subst i;obtain⟨a,f⟩:=h _ j rfl;have e:cellOf env n=pure a:=by unfold cellOf;rw[f]
   simp[e,f]
  simp_all)]
 rfl
theorem z93 {env:Env}{y:Str}{c:Addr}:∀{a:List (Str × NameKind)}{b:List (Str × Addr)},(y,c)∈z43 env a b↔(y,c)∈b\/((y,NameKind.free)∈a/\c=(env.cells.lookup y).getD 0)
 | [],b=>by simp[z43]
 | (n,k)::r,b=>by
  show (y,c)∈z43 env r _↔_;rw[z93]
  grind
theorem z1J {a:Type}{y:Str}{c:a}:∀{l:List (Str × a)},l.lookup y=some c->(y,c)∈l
 | [],h=>by simp at h
 | (n,j)::r,h=>by
  rw[vW] at h
  by_cases e:y=n
  .simp_all
  .have:(y == n)=false:=by simpa using e
   rw[this] at h;exact wp _ (z1J h)
theorem z3n {a:Type}{y:Str}{c:a}:∀{l:List (Str × a)},(y,c)∈l->∃d,l.lookup y=some d
 | (n,j)::r,h=>by
  rw[vW]
  by_cases e:y=n
  .simp_all
  .have:(y == n)=false:=by simpa using e
   rw[this]
   rcases wm.mp h with h | h
   .simp_all
   .exact z3n h
theorem z2I {env:Env}:∀{a:List (Str × NameKind)}{x:Str}{k:NameKind},(a.map λ(n,k)=>if (k == NameKind.free && env.scope.kind == .function && env.kindOf n == some .cell) then (n,NameKind.cell) else (n,k)).lookup x=some k->
  a.lookup x=some k\/(k = .cell/\a.lookup x=some .free)
 | [],_,_,h=>by simp at h
 | (n,j)::r,x,k,h=>by
  have f := @z2I env r x k;have b:List.lookup x ((if (j == NameKind.free && env.scope.kind == .function && env.kindOf n == some _)=true then (n,NameKind.cell) else (n,j))::(r.map _))=some k:=h
  by_cases e:(j == NameKind.free && env.scope.kind == .function && env.kindOf n == some .cell)=true
  .rw[if_pos e] at b;have g:j = .free:=by
    simp_all
   cases d:x == n with
   | true=>
    simp only[vW,d] at b ⊢
    simp_all
   | false=>
    simp only[vW,d] at b ⊢;exact f b
  .rw[if_neg e] at b
   cases d:x == n with
   | true=>
    simp only[vW,d] at b ⊢;exact .inl b
   | false=>
    simp only[vW,d] at b ⊢;exact f b
theorem z2h {env:Env}:∀{a:List (Str × NameKind)}{x:Str},a.lookup x=some .free->
  (a.map λ(n,k)=>if (k == NameKind.free && env.scope.kind == .function && env.kindOf n == some .cell) then (n,NameKind.cell) else (n,k)).lookup x=some .cell\/
  (a.map λ(n,k)=>if (k == NameKind.free && env.scope.kind == .function && env.kindOf n == some .cell) then (n,NameKind.cell) else (n,k)).lookup x=some .free
 | [],_,h=>by simp at h
 | (n,j)::r,x,h=>by
  have e := @z2h env r x;show List.lookup x ((if (j == NameKind.free && env.scope.kind == .function && env.kindOf n == some _)=true then (n,NameKind.cell) else (n,j))::_)=_\/List.lookup x ((if (j == NameKind.free && env.scope.kind == .function && env.kindOf n == some _)=true then (n,NameKind.cell) else (n,j))::_)=_
  cases d:x == n with
  | true=>
   simp[vW,d] at h
   cases h
   by_cases b:(NameKind.free == NameKind.free && env.scope.kind == .function && env.kindOf n == some .cell)=true
   .rw[if_pos b];simp[vW,d]
   .rw[if_neg b];simp_all
  | false=>
   simp[vW,d] at h
   by_cases b:(j == NameKind.free && env.scope.kind == .function && env.kindOf n == some .cell)=true
   .rw[if_pos b];simp only[vW,d];exact e h
   .rw[if_neg b];simp only[vW,d];exact e h
@[reducible] def Cx.compG (X:Cx)(a:Scope)(b:List Str)(C:Addr)(s:Shared)(H:Hp)(d:List Addr):Cx:=
 { X with N:=b,s₀:=s,H₀:=H,env:=compEnvC a (z43 X.env a.names []) C X.env,outer:=X.stack,stack:=X.stack,ex:=d,pn:=[],fn:=λy=>((z43 X.env a.names []).lookup y).isNone,xe:=λ_ _=>False }
def z5n:TT:=λ_ H Q=>Q true H
def LcG (J:It)(g:TG)(q:TT)(r:TE)(Q:VK)(h:St)(f:Hp):Prop:=∃W:Nat->Nat->List V->St->Hp->Prop,(∃m,W 0 m [] h f)/\∀i m e n H,W i m e n H->
 e.length<sizeLine/\((J.stop i H/\∀p,H p=none->Q (.ref p) (upd H p (.lst e)))\/(J.go i H/\∀x j,J.yld i H x j->g x n j λa f=>q a f λb l=>if b=true then r a l λy o=>∃d,d<m/\W (i+1) d (e++[y]) a o else ∃d,d<m/\W (i+1) d e a l))
def tLcG (i:TI)(g:TG)(f:TT)(h:TE)(e:Nat)(d:List Nat):TE:=λa H Q=>i a H λJ b=>LcG J g f h Q (List.replicate e none++d.map λj=>(a[j]?).getD none) b
def z5W (d g:List Str)(f:Nat)(e:List Nat)(a b:List (Str × NameKind)):Bool:=
 d.length == f+e.length && (e.zipIdx.all λp=>match d[f+p.2]? with
  | some y=>g[p.1]? == some y && a.lookup y == some .free
  | none=>false) && a.all (λx=>x.2 != .cell && (x.2 != .local || a.lookup x.1 == some .local) && (x.2 != .free || ((b.lookup x.1 == some .cell || b.lookup x.1 == some .free))))
section
variable {X:Cx}{pins:List (Addr × Obj)}{σ:St}{H:Hp}{s:Shared}
structure z44 (X:Cx)(N':List Str)(nt:Nat)(js:List Nat)(scope:Scope):Prop where
 len:N'.length=nt+js.length
 cap:∀k j,js[k]? = some j->∃y,N'[nt+k]? = some y/\X.N[j]? = some y/\scope.names.lookup y=some .free
 nocell:∀y∈scope.names,y.2 ≠ .cell
 loc:∀y∈scope.names,y.2 = .local->scope.names.lookup y.1=some .local
 free:∀y∈scope.names,y.2 = .free->X.env.kindOf y.1=some .cell\/X.env.kindOf y.1=some .free
def z5W.ok {g o:List Str}{l:Nat}{i:List Nat}{scope a:Scope}(t:X.N=o)(f:X.env.scope=a)(h:z5W g o l i scope.names a.names=true):z44 X g l i scope:=by
 unfold z5W at h;simp only[w5,beq_iff_eq] at h;obtain⟨⟨p,m⟩,n⟩:=h;rw[jO] at m n;have b:∀y∈scope.names,y.2 ≠ .cell/\(y.2 = .local->scope.names.lookup y.1=some .local)/\(y.2 = .free->a.names.lookup y.1=some .cell\/a.names.lookup y.1=some .free):=λy d=>by
  have:=n y d;simp only[w5,Bool.or_eq_true,bne_iff_ne,beq_iff_eq] at this;refine⟨this.1.1,λz =>?_,λz =>?_⟩
  .rcases this.1.2 with q | q
   .exact absurd z q
   .exact q
  .rcases this.2 with q | q
   .exact absurd z q
   .exact q
 refine⟨p,λk j r =>?_,λy d=>(b y d).1,λy d=>(b y d).2.1,λy d z =>?_⟩
 .have s:(j,k)∈i.zipIdx:=by
   rw[List.mem_zipIdx_iff_getElem?];exact r
  have:=m (j,k) s
  cases e:g[l+k]? with
  | none=>simp only[e] at this;cases this
  | some y=>
   simp_all
 .show X.env.scope.names.lookup y.1=some .cell\/X.env.scope.names.lookup y.1=some .free;rw[f];exact(b y d).2.2 z
theorem z44.cells {d:List Str}{h:Nat}{g:List Nat}{b:Scope}(c:z44 X d h g b)(I:Inv X pins σ H s):∀x∈b.names,x.2 = .free->∃a,X.env.cells.lookup x.1=some a:=λx f e=>I.ok.has x.1 (c.free x f e)
def z44.clo {e:List Str}{g:Nat}{f:List Nat}{d:Scope}(c:z44 X e g f d)(I:Inv X pins σ H s){y:Str}{a:Addr}(h:(z43 X.env d.names []).lookup y=some a):X.env.cells.lookup y=some a/\(y,NameKind.free)∈d.names:=by
 rcases z93.mp (z1J h) with z | ⟨i,l⟩
 .simp at z
 .obtain⟨b,j⟩:=c.cells I _ i rfl
  simp_all
def z44.has {d:List Str}{f:Nat}{e:List Nat}{b:Scope}(c:z44 X d f e b)(I:Inv X pins σ H s){y:Str}(h:(y,NameKind.free)∈b.names):∃a,(z43 X.env b.names []).lookup y=some a:=
 z3n (z93.mpr (.inr ⟨h,rfl⟩))
theorem Inv.compG {d:Scope}{G:List Str}{x:Nat}{L:List Nat}{C:Addr}{fp:List Addr}{J:Heap}{t1:Nat}(I:Inv X pins σ H s)(hk:d.kind = .function)(c:z44 X G x L d)
  (O:s.heap.objs.size<=C) (h:∀b∈fp,FpOk X pins H b) (Q:∀b∈fp,b<s.heap.objs.size) (keep:∀b o,s.heap.get? b=some o->J.get? b=some o) (T:∃m,J.Ns C m) (hc:X.calm=true):
  Inv (X.compG d G C s H fp) [] (List.replicate x none++L.map λj=>(σ[j]?).getD none) H { s with heap:=J,toks:=t1 }:=by
 have nofs:∀b∈fp,b ∉ frs X.stack:=λb g z=>by
  rcases wm.mp (I.stkSub b z) with q | q
  .exact(h b g).2.1 q
  .exact(h b g).2.2.1 q
 have n:∀b o,X.base.get? b=some o->b ∉ fp:=λb o e g=>by
  have f:=(I.ok.bs b o e).1
  rcases(h b g).2.2.2.1 with z | z
  .exact I.ok.noex b o e z
  .exact absurd (wF (wu f) z) (vB _)
 have kd:∀{y:Str},((compEnvC d (z43 X.env d.names []) C X.env).kindOf y=some .cell\/(compEnvC d (z43 X.env d.names []) C X.env).kindOf y=some .free)->(y,NameKind.free)∈d.names:=λ{y} q=>by
  rcases q with q | q
  .rcases z2I (env:=X.env) q with z | ⟨_,z⟩
   .exact absurd rfl (c.nocell _ (z1J z))
   .exact z1J z
  .rcases z2I (env:=X.env) q with z | ⟨z,_⟩
   .exact z1J z
   .cases z
 have t:∀{a:Addr}{v:Option Value},s.heap.IsCell a v->J.IsCell a v:=λ⟨o,ho,hd⟩=>⟨o,keep _ _ ho,hd⟩
 obtain⟨m1,S⟩:=T;refine⟨⟨I.ok.mod,hk,I.ok.glob,I.ok.blt,O,(λy z a M f=>I.ok.inj y z a (c.clo I M).1 (c.clo I f).1),(λy q=>c.has I (kd q)),(λy a hf e =>?_),(λ_=>I.ok.hd hc),I.ok.frames,.inl rfl,(λb g=>⟨wI (wF (Q b g) O),(λy a e=>(h b g).2.2.2.2.1 y a (c.clo I e).1)⟩),(λb o e=>⟨I.bk b o e,(I.bs b o e).2⟩),wM I.ok.bsz I.sz,n,nofs,I.stack,I.stkFree,I.tbs⟩,
  rfl,I.bare,Un.kept keep,⟨m1,S,(λi y v M f hv =>?_)⟩,(λy a e =>?_),I.hok.fresh O,(λy a e=>I.freeC y a (c.clo I e).1),(λp hp=>by simp at hp),I.hok.kept keep,?_⟩
 .have E:((z43 X.env d.names []).lookup y).isNone=true:=hf;have e':(z43 X.env d.names []).lookup y=some a:=e;rw[e'] at E
  cases E
 .rcases wN i x with K | K
  .rw[wH (by simpa using K),jg] at f;rw[if_pos K] at f
   cases f
  .rw[wU (by simpa using K),uA,wO] at f
   cases N:L[i - x]? with
   | none=>rw[N] at f;cases f
   | some j=>
    rw[N] at f;obtain⟨y',q1,q2,W⟩:=c.cap _ _ N;have R:x+(i - x)=i:=by lia
    rw[R] at q1;have A:G[i]? = some y:=M;rw[q1] at A
    cases A
    have f:some ((σ[j]?).getD none)=some (some v):=f;have U:σ[j]? = some (some v):=by
     cases Y:σ[j]? with
     | none=>rw[Y] at f;cases f
     | some z=>rw[Y] at f;exact congrArg some (vh f)
    have F:=c.free _ (z1J W) rfl;obtain⟨m,hn,hl⟩:=I.loc;obtain⟨u,r,l⟩:=hl j y v q2 U (.inr F);refine⟨u,r,.inr ⟨z2h (env:=X.env) W,?_⟩⟩
    rcases l with ⟨l,_⟩ | ⟨_,a,ha,w⟩
    .have Z:X.env.kindOf y=some .local:=l
     rcases F with z | z
     .rw[Z] at z;cases z
     .rw[Z] at z;cases z
    .obtain⟨b,g⟩:=c.has I (z1J W);have:=(c.clo I g).1;rw[ha] at this
     cases this
     exact⟨a,g,t w⟩
 .obtain⟨v,z⟩:=I.cell y a (c.clo I e).1;exact⟨v,t z⟩
 .show (List.replicate x none++L.map λj=>(σ[j]?).getD none).length=G.length;rw[wC,uA,we,c.len]
def zcb {b5 S E:Expr}{ct:Option Expr}{c9:Pos}{a6:Option (Value->Sem Unit)}{R:WvP}{Q:VK}{p0:Pos}{f:Scope}{wi:TI}{g:TG}{tc:TT}{te:TE}{N':List Str}{nt:Nat}{js:List Nat}(hc:X.calm=true)(hi:PI X E S wi)(hk:f.kind = .function)(cp:z44 X N' nt js f)
  (hg:∀(C:Addr) (s:Shared) (H:Hp) (N:List Addr),PG (X.compG f N' C s H N) E g)
  (ht:match ct with
   | none=>tc=z5n
   | some c=>∀(C:Addr) (s:Shared) (H:Hp) (N:List Addr),PT (X.compG f N' C s H N) c tc)
  (he:∀(C:Addr) (s:Shared) (H:Hp) (N:List Addr),PE (X.compG f N' C s H N) b5 te) (hs:∀x,foldedSetIterable S X.env x=pure x) (I:Inv X pins σ H s) (h:tLcG wi g tc te nt js σ H Q)
  (fin:∀(C D:Addr) (O:Hp) (s5:Shared) (m5:WmP),Inv X pins σ O s5->s5.heap.Ns C m5->X.env.locals<C->(∀x a,X.env.cells.lookup x=some a->a<C)->(∀{Z:St}{s':Shared}{h':Heap},Inv X pins Z O s'->Heap.SameBut C s'.heap h'->Inv X pins Z O { s' with heap:=h' })->Q (.ref D) O->compPost (model X.prog X.w) X.A X.xe a6 R (.ref D) C (.ok .next) s5):
  wpAny (model X.prog X.w) X.A (comprehension (.ListComp b5 [⟨E,S,ct.toList,0⟩] f c9) f X.env p0 (newList []) false (eval S X.env) a6) R X.xe s:=by
 refine wpAny_comprehension_free rfl hs (z7l (cp.cells I)) hk cp.loc (thn (hi pins s σ H _ I h) λv s1 h1=>thn h1 λf3 L h2 =>?_);obtain⟨it,N,tn,J,H2,e,I2,T,c2,f2,W,⟨m0,w0⟩,d3⟩:=h2;subst e;have b8:∀b∈N,b<L.heap.objs.size:=λb t=>by
  obtain⟨o,e,_⟩:=T.obj _ _ c2 b t;exact wu e
 refine wP (wpAny_newFunctionEnv cp.nocell (by intro y hy;simp at hy) (λg1 a4 a1 =>?_) hk);dsimp only at a4 a1 ⊢;generalize b7:L.heap.push { cls :=.type "list",dict:=none,data :=.seq ([]:List Value).toArray }=G2 at a4 a1 ⊢;have hC:G2.objs.size=L.heap.objs.size+1:=by rw[<- b7,vY]
 have a8:L.heap.objs.size≠G2.objs.size:=by rw[hC];exact wI (uG _)
 have F:∀b,b<L.heap.objs.size->b≠G2.objs.size/\b≠L.heap.objs.size:=λb t=>⟨by rw[hC];exact wI (v7 t),wI t⟩
 have c0:∀b o,L.heap.get? b=some o->g1.get? b=some o:=λb o e=>a1.extBut b o (F b (wu e)).1 (wf _ (b7 ▸ wf _ e));have c8:g1.get? L.heap.objs.size=some { cls :=.type "list",data :=.seq ([]:List Value).toArray 0 }:=a1.extBut _ _ a8 (wf _ (b7 ▸ wn _ rfl));have G:L.heap.objs.size<=G2.objs.size:=by rw[hC];exact Nat.le_succ _
 have a0:∀y a,X.env.cells.lookup y=some a->a<L.heap.objs.size:=λy a e=>by
  obtain⟨v,o,ho,_⟩:=I2.cell y a e;exact wu ho
 generalize f1:G2.objs.size=C at*;generalize K:L.heap.objs.size=D at*
 let Y:Cx:=X.compG f N' C L H2 N
 have IY:Inv Y [] (List.replicate nt none++js.map λj=>(σ[j]?).getD none) H2 { L with heap:=g1,toks:=L.toks+([]:List (Str × Value)).length }:=I2.compG hk cp (by rw[K];exact G) f2 (by rw[K];exact b8) c0 ⟨_,a4⟩ hc;have c6:∀b∈N,b≠D:=λb t=>(F b (b8 b t)).2;have d9:∀b∈N,b≠C:=λb t=>(F b (b8 b t)).1;have d6:H2 D=none:=I2.hok.fresh (by rw[K];exact wq _);have d5:D ∉ frs X.stack:=λz=>by
  obtain⟨_,o,e,_⟩:=I2.stack.mem z;exact absurd (wu e) (by rw[K];exact vB _)
 have a5:∀{O:Hp}{pl:List (Addr × Obj)},(∀b∈N,O b=none)->(∀p∈pl,p.1=D)->∀b∈N,FpOk Y pl O b:=λhn hp b t=>⟨hn b t,d9 b t,(λz=>IY.ok.exfs b t z),.inl t,(λy a e=>(f2 b t).2.2.2.2.1 y a (cp.clo I2 e).1),λp e7 z=>c6 b t (z.symm.trans (hp p (by simpa[Y] using e7)))⟩
 have b3:∀s3:Shared,s3={ L with heap:=g1,toks:=L.toks+([]:List (Str × Value)).length }->
   codeAny (model X.prog X.w) X.A (.compLoop (.ListComp b5 [⟨E,S,ct.toList,0⟩] f c9) 0 (.ref it) (.ref D) (compEnvC f (z43 X.env f.names []) C X.env)) (compPost (model X.prog X.w) X.A X.xe a6 R (.ref D) C) s3:=by
  intro s3 e3;refine z8j (λn s'=>∃i ys l Z O,Inv Y [] Z O s'/\s'.heap.get? D=some { cls :=.type "list",data :=.seq (l:List Value).toArray l.length }/\Vals ys l/\O D=none/\tn i s'.heap/\(∀b∈N,O b=none)/\W i n ys Z O) ?_ m0 ⟨0,[],[],_,H2,e3 ▸ IY,?_,.nil,d6,?_,λb t=>(f2 b t).1,w0⟩
  .rintro n s4 ⟨i,ys,l,a7,H4,I4,e1,a9,a2,d2,c7,w4⟩;obtain⟨hsz,step⟩:=d3 i n ys a7 H4 w4;have e5:ys.length=l.length:=a9.length;have c5:Inv Y [(D,{ cls :=.type "list",data :=.seq l.toArray l.length })] a7 H4 s4:=I4.pins_of λp hp=>by
    rw[wo.mp hp];exact⟨e1,a2,a8,d5,λv z=>by cases z⟩
   have one:∀p∈[((D:Addr),({ cls :=.type "list",data :=.seq l.toArray l.length }:Obj))],p.1=D:=λp hp=>by rw[wo.mp hp]
   rcases step with ⟨stop,qn⟩ | ⟨go,step⟩
   .refine vJ (T.done Y rfl rfl rfl hc i _ s4 a7 H4 (λ_ _=>False) c5 (a5 c7 one) d2 stop) (λr s5 hr =>?_) λ_ _ z=>z.elim;obtain⟨rfl,I5⟩:=hr;have e2:s5.heap.get? D=some { cls :=.type "list",data :=.seq l.toArray l.length }:=(I5.pin (D,_) (by simp)).1;obtain⟨m5,e6,_⟩:=I5.loc;have U:Un (frs X.stack) N H2 H4 L.heap s5.heap:=I5.base;have nC:∀b o,L.heap.get? b=some o->b≠C:=λb o e=>(F b (K ▸ wu e)).1;have nD:∀b o,L.heap.get? b=some o->b≠D:=λb o e=>(F b (K ▸ wu e)).2;have U':Un (frs X.stack) N H2 (upd H4 D (.lst ys)) L.heap s5.heap:=⟨U.keep,U.slot,λb o e n e9=>by rw[z05 (nD b o e)];exact U.free b o e n e9,U.there,λb xs e=>by rw[z05 (z0G (U.tups b xs e) a2)];exact U.tups b xs e,λb o xs e=>by rw[z05 (z0G (U.frzs b o xs e) a2)];exact U.frzs b o xs e,λb ps e=>by
      obtain⟨more,q⟩:=U.tbls b ps e;exact⟨more,by rw[z05 (z0G q a2)];exact q⟩⟩
    have f0:HOk X.prog X.w (upd H4 D (.lst ys)) s5.heap:=HOk.track I5.hok a2 ⟨jc hsz,l,_,a9,e2⟩;have I6:Inv X pins σ (upd H4 D (.lst ys)) s5:=I2.call' (s':=s5) I5.os U' f0 I5.bare (λb t=>⟨(f2 b t).2.2.2.1,(f2 b t).2.1,(f2 b t).2.2.2.2.1,(f2 b t).2.2.2.2.2⟩);exact fin C D _ s5 m5 I6 e6 (wF (by rw[<- K];exact I2.lt) G) (λ_ _ e=>wF (a0 _ _ e) G) (λI7 sb=>I7.turned (it:=C) (λb o n e=>sb.extBut b o n e) (by rw[z05 (vG a8)];exact I5.free) (jw (wF (by rw[<- K];exact I2.lt) G)) (.inr (wM I2.sz (by rw[K];exact G))) (λx a e z=>by
      have:=a0 x a e;rw[z] at this;exact absurd (wF this G) (vB _)) (λp hp z=>by
      have:=wu (I2.pin p hp).1;rw[z,K] at this;exact absurd (wF this G) (vB _))) (qn D a2)
   .refine vJ (T.item Y rfl rfl rfl hc i _ s4 a7 H4 (λ_ _=>False) c5 (a5 c7 one) d2 go) (λr s5 hr =>?_) λ_ _ z=>z.elim;obtain⟨u,rfl,h5⟩:=hr;refine vJ h5 (λ_ s6 h6 =>?_) λ_ _ z=>z.elim;obtain⟨xv,H6,I6,r6,y6,c3,e0⟩:=h6;have d7:=I6.pinned (a5 e0 one) (T.obj _ _ c3);have after:∀{b2:St}{H8:Hp}{s8:Shared},Inv Y _ b2 H8 s8->_:=λ{b2 H8 s8} (I8:Inv Y ([(D,{ cls :=.type "list",data :=.seq l.toArray l.length })]++z6q N s6.heap) b2 H8 s8)=>
     (show (s8.heap.get? D=some { cls :=.type "list",data :=.seq l.toArray l.length }/\H8 D=none)/\tn (i+1) s8.heap/\(∀b∈N,H8 b=none)/\Inv Y [] b2 H8 s8 from by
      have pD:=I8.pin (D,{ cls :=.type "list",data :=.seq l.toArray l.length }) (by simp);refine⟨⟨pD.1,pD.2.1⟩,T.keep _ _ _ c3 λb t o e=>(I8.pin (b,o) (vE _ (vE _ (z3G t e)))).1,λb t =>?_,I8.pins_of (pins':=[]) λp hp=>by simp at hp⟩;obtain⟨o,e,d⟩:=T.obj _ _ c3 b t;exact(I8.pin (b,o) (vE _ (vE _ (z3G t e)))).2.1)
    refine vJ (hg C L H2 N _ s6 a7 H6 xv u _ d7 r6 (step xv H6 y6)) (λ_ s7 h7 =>?_) λ_ _ z=>z.elim;obtain⟨M,H7,I7,q7⟩:=h7;have d4:∀b1 a3,Inv Y _ M a3 b1->(te M a3 λy H3=>∃m',m'<n/\W (i+1) m' (ys++[y]) M H3)->_:=λb1 a3 (d8:Inv Y ([(D,{ cls :=.type "list",data :=.seq l.toArray l.length })]++z6q N s6.heap) M a3 b1) qe=>
     vJ (Q':=λyv s8=>wpAny (model X.prog X.w) X.A (call (.builtin "list.append") [.ref D,yv]) (λ_ s6=>∃m,m<n/\∃i ys l Z O,Inv Y [] Z O s6/\s6.heap.get? D=some { cls :=.type "list",data :=.seq (l:List Value).toArray l.length }/\Vals ys l/\O D=none/\tn i s6.heap/\(∀b∈N,O b=none)/\W i m ys Z O) (notedBy (model X.prog X.w) X.A (compEnvC f (z43 X.env f.names []) C X.env) λe s'=>compPost (model X.prog X.w) X.A X.xe a6 R (.ref D) C (.error e) s') s8) (he C L H2 N _ b1 M a3 _ d8 qe) (λyv s8 h8=>by
      obtain⟨y,H8,I8,r8,m',b9,w8⟩:=h8;obtain⟨⟨c1,b0⟩,c4,b6,b4⟩:=after I8;refine append_at (hsz:=by rw[vd, <- e5];exact jc hsz) c1 λh9 d1 e4 =>?_;refine⟨m',b9,i+1,ys++[y],l++[yv],M,H8,b4.turned (it:=D) (t':=s8.toks) (λb o n e=>d1.extBut b o n e) b0 a8 (.inr (by rw[K];exact wq _)) (λy a e z=>by
        have:=a0 y a (cp.clo I2 e).1;rw[z] at this;exact vB _ this) (λp hp=>by simp[Y] at hp),?_,Vals.append a9 (.cons r8 .nil),b0,T.keep _ _ _ c4 λb t o e=>d1.extBut b o (c6 b t) e,b6,w8⟩
      show h9.get? D=_;rw[e4];simp) (E':=notedBy (model X.prog X.w) X.A (compEnvC f (z43 X.env f.names []) C X.env) λe s'=>compPost (model X.prog X.w) X.A X.xe a6 R (.ref D) C (.error e) s') (λ_ _ z=>z.elim)
    cases ct with
    | none=>
     have e8:tc=z5n:=ht;subst e8;simp only[zhC,jS];have d0:if true=true then te M H7 λy H3=>∃m',m'<n/\W (i+1) m' (ys++[y]) M H3 else ∃m',m'<n/\W (i+1) m' ys M H7:=q7
     rw[if_pos rfl] at d0;exact d4 s7 H7 I7 d0
    | some c=>
     refine vJ (ht C L H2 N _ s7 M H7 _ I7 q7) (λb s8 h8 =>?_) λ_ _ z=>z.elim;obtain⟨H8,I8,q8⟩:=h8
     cases b with
     | true=>
      rw[if_pos rfl] at q8 ⊢;exact d4 s8 H8 I8 q8
     | false=>
      rw[if_neg wX] at q8 ⊢;obtain⟨m',b9,w8⟩:=q8;obtain⟨⟨c1,b0⟩,c4,b6,b4⟩:=after I8;exact⟨m',b9,i+1,ys,l,M,H8,b4,c1,a9,b0,c4,b6,w8⟩
  .rw[e3];exact c8
  .rw[e3];exact T.keep _ _ _ c2 λb _ o e=>c0 b o e
 exact codeAny_compStart_list (b3 _ rfl) (T.self _ 0 _ _ _ (T.keep _ _ _ c2 λb _ o e=>c0 b o e) (b3 _ rfl))
def zjC {e d b:Expr}{ct:Option Expr}{j:Pos}{a:Scope}{r:TI}{g:TG}{l:TT}{p:TE}{i:List Str}{n:Nat}{m:List Nat}(w:X.calm=true)(A:PI X b d r)(E:a.kind = .function)(u:z44 X i n m a)
  (z:∀(C:Addr) (s:Shared) (H:Hp) (f:List Addr),PG (X.compG a i C s H f) b g)
  (G:match ct with
   | none=>l=z5n
   | some c=>∀(C:Addr) (s:Shared) (H:Hp) (f:List Addr),PT (X.compG a i C s H f) c l)
  (y:∀(C:Addr) (s:Shared) (H:Hp) (f:List Addr),PE (X.compG a i C s H f) e p) (hs:autoParam (∀x,foldedSetIterable d X.env x=pure x) jC1):PE X (.ListComp e [⟨b,d,ct.toList,0⟩] a j) (tLcG r g l p n m):=by
 intro o s O H Q I h;rw[eval_ListComp];exact zcb w A E u z G y hs I h λC D L N J t F _ _ K q=>⟨J,F,λM sb=>⟨.ref D,_,K t sb,rfl,q⟩⟩
def zjf {f e b:Expr}{ct:Option Expr}{i:Pos}{a:Scope}{q:TI}{g:TG}{j:TT}{o:TE}{h:List Str}{n:Nat}{m:List Nat}(t:X.calm=true)(y:QI X b e q)(z:a.kind = .function)(r:z44 X h n m a)
  (w:∀(C:Addr) (s:Shared) (H:Hp) (d:List Addr),QG (X.compG a h C s H d) b g)
  (l:match ct with
   | none=>j=z5n
   | some c=>∀(C:Addr) (s:Shared) (H:Hp) (d:List Addr),QT (X.compG a h C s H d) c j)
  (u:∀(C:Addr) (s:Shared) (H:Hp) (d:List Addr),QE (X.compG a h C s H d) f o) (hs:autoParam (∀x,foldedSetIterable e X.env x=pure x) jC1):QE X (.ListComp f [⟨b,e,ct.toList,0⟩] a i) (tLcG q g j o n m):=by
 refine⟨zjC t y.p z r (λC s H d=>(w C s H d).p) ?_ (λC s H d=>(u C s H d).p) hs⟩
 cases ct with
 | none=>exact l
 | some c=>exact λC s H d=>(l C s H d).p
def zj8 {i:Nat}{x:Str}{a:Pos}(d:X.N.Nodup)(e:X.N[i]? = some x)(b:X.env.scope.names.lookup x=some .local):QG X (.Name x a) (z2N i):=⟨zbB d e (.inl b) (.inr b)⟩
end
theorem z5j:∀(ns:List Int) {a:List Value},Vals (ns.map V.int) a->∃l:List (Int × Tok),a=l.map (λp=>Value.int p.1 p.2)/\l.map (·.1)=ns
 | [],_,r=>by cases r;exact⟨[],rfl,rfl⟩
 | n::ns,_,r=>by
  cases r with
  | cons r1 r2=>
   obtain⟨t,rfl⟩:=(r1)
   obtain⟨l,rfl,b⟩:=z5j ns r2;exact⟨(n,t)::l,rfl,by simp_all⟩
theorem z6z (bt:Nat->Nat->Bool):∀k,argBest bt k<=k
 | 0=>wq _
 | k+1=>by
  rw[argBest]
  split
  .simp_all
  .exact Nat.le_succ_of_le (z6z bt k)
theorem z5X (f:Nat->Int):∀k j,j<=k->f j<=f (argBest (λi j=>decide (f i > f j)) k)
 | 0,j,h=>by
  have:j=0:=by lia
  subst this;exact jy _
 | k+1,j,h=>by
  have a:=z5X f k;rw[argBest]
  grind
section
variable {X:Cx}
def zlv (K:W.Frag):List V->Hp->VK->Prop:=λd H Q=>∃(a:Addr) (b:List Int),d=[.ref a]/\SqL K H a (b.map V.int)/\b≠[]/\∀m,m∈b->(∀x∈b,x<=m)->Q (.int m) H
def zcO (o:X.calm=true):z0C X (.builtin "max") (zlv X.K):=by
 intro n s R H xs O Q I r h;obtain⟨a,f,rfl,hs,z,q⟩:=h;obtain⟨u,rfl,J⟩:=z37 r
 cases (show u=Value.ref a from J)
 obtain⟨F,C,pl,_⟩:=I.list hs;obtain⟨l,rfl,m⟩:=z5j f C;have y:l.length=f.length:=by rw[<- m,we]
 have d:0<l.length:=by
  grind
 have G:∀i,numAt l.toArray i=(f[i]?).getD 0:=λi=>by
  unfold numAt;rw[<- m,wO];simp
 refine max_intList (xs:=l.toArray) (I.ok.hd o) (by have:=pl.isList;simpa[intItems] using this) (by simpa using d) λv M L e p =>?_;obtain⟨t,rfl⟩:=intItems_at e;generalize b:argBest _ (l.toArray.size - 1)=k at*;have g:k<=l.length - 1:=by
  have:=z6z (λi j=>decide (numAt l.toArray i > numAt l.toArray j)) (l.toArray.size - 1);rw[b] at this;simpa using this
 have w:k<f.length:=by lia
 refine⟨.int _,H,I.kept (t':=L) p,⟨t,rfl⟩,q _ ?_ λx E =>?_⟩
 .simp_all
 .obtain⟨j,N,rfl⟩:=wT.mp E;have A:l.toArray.size=l.length:=by simp
  have:=z5X (numAt l.toArray) (l.toArray.size - 1) j (by lia);rw[b] at this
  simp_all
def zlr (K:W.Frag):List V->Hp->VK->Prop:=λd H Q=>∃(a:Addr) (b:List Int),d=[.ref a]/\SqL K H a (b.map V.int)/\Q (.int b.sum) H
def zcJ (d:X.calm=true):z0C X (.builtin "sum") (zlr X.K):=by
 intro b s w H xs t Q I r h;obtain⟨a,i,rfl,hs,q⟩:=h;obtain⟨u,rfl,j⟩:=z37 r
 cases (j)
 obtain⟨g,f,pl,_⟩:=I.list hs;obtain⟨l,rfl,o⟩:=z5j i f;refine sum_intListG (xs:=l.toArray) (I.ok.hd d) (by have:=pl.isList;simpa[intItems] using this) λn p m e =>?_;refine⟨.int _,H,I.kept e,⟨m,rfl⟩,?_⟩;rw[preSum_eq,vL (by simp)]
 simp_all
def z0C.imp {f:Value}{r r':List V->Hp->VK->Prop}(h:z0C X f r)(i:∀xs H Q,r' xs H Q->r xs H Q):z0C X f r':=λa s e H xs d Q I b q=>h _ s e H xs d Q I b (i xs H Q q)
end
def z3W {d:Type}{xs:List d}{i:Int}(e:0<=i)(f:i<xs.length):∃v∈xs,atI xs i=some v:=by
 have a:i.toNat<xs.length:=by lia
 have b:i=(i.toNat:Int):=by lia
 refine⟨xs[i.toNat],jp a,?_⟩;have q  := zhB (wt a);rw[<- b] at q;exact q
section
variable {X:Cx}{pins:List (Addr × Obj)}{σ:St}{H:Hp}{s:Shared}
def zjq {f d b:Expr}{ct:Option Expr}{j i py:Pos}{y:Str}{E:Nat}(S:X.N.Nodup)(r:X.N[E]? = some y)(m:X.env.scope.names.lookup y=some .local){a:Scope}{L:TI}{g:TG}{w:TT}{K:TE}{o:List Str}{G:Nat}{F:List Nat}(T:X.calm=true)(Y:PI X b d L)(Z:a.kind = .function)(Q:z44 X o G F a)
  (W:∀(C:Addr) (s:Shared) (H:Hp) (l:List Addr),PG (X.compG a o C s H l) b g)
  (ht:match ct with
   | none=>w=z5n
   | some c=>∀(C:Addr) (s:Shared) (H:Hp) (l:List Addr),PT (X.compG a o C s H l) c w)
  (U:∀(C:Addr) (s:Shared) (H:Hp) (l:List Addr),PE (X.compG a o C s H l) f K) (t:autoParam (swapsWith (.ListComp f [⟨b,d,ct.toList,0⟩] a j) (some (.Name y py)) i.line X.env=pure true) jA1) (hs:autoParam (∀x,foldedSetIterable d X.env x=pure x) jC1):PS X (.Assign [.Name y py] (.ListComp f [⟨b,d,ct.toList,0⟩] a j) i) (tAsg (tLcG L g w K G F) (z2N E)):=by
 intro n s σ H Dn I h;rw[exec_Assign_Name_used _ _ _ _ t];refine wc (wpAny_standAt (wc ?_));show wpAny _ X.A (do let _ <- comprehension (.ListComp f [⟨b,d,ct.toList,0⟩] a j) a X.env _ (newList []) false (eval d X.env) (some (assign (.Name y py) X.env))) _ _ s;refine wc (vJ (zcb (R:=λ_ J=>SP X n Dn .next J) T Y Z Q W ht U hs I h λC D H' s5 m5 M hm lt lc tn q =>?_) (λ_ J hq=>wg (wg hq)) λ_ _ e=>e);show wpAny _ X.A (assign (.Name y py) X.env (.ref D)) _ _ _;refine wpAny_assign_Name (z7w M S r (.inl m) (show RelV (.ref D) (.ref D) from rfl) (λs7 O z9 =>?_) (.inr m));obtain⟨c7,u,p⟩:=z9;exact⟨m5,hm.sameBut u (jw (p.elim (λz=>z ▸ lt) (lc _ _))),λh' sb=>⟨_,_,tn O sb,q⟩⟩
def zj3 {h d b:Expr}{ct:Option Expr}{i f py:Pos}{y:Str}{r:Nat}(E:X.N.Nodup)(l:X.N[r]? = some y)(m:X.env.scope.names.lookup y=some .local){a:Scope}{z:TI}{g:TG}{o:TT}{w:TE}{j:List Str}{u:Nat}{t:List Nat}(F:X.calm=true)(J:QI X b d z)(K:a.kind = .function)(A:z44 X j u t a)
  (I:∀(C:Addr) (s:Shared) (H:Hp) (e:List Addr),QG (X.compG a j C s H e) b g)
  (q:match ct with
   | none=>o=z5n
   | some c=>∀(C:Addr) (s:Shared) (H:Hp) (e:List Addr),QT (X.compG a j C s H e) c o)
  (G:∀(C:Addr) (s:Shared) (H:Hp) (e:List Addr),QE (X.compG a j C s H e) h w) (n:autoParam (swapsWith (.ListComp h [⟨b,d,ct.toList,0⟩] a i) (some (.Name y py)) f.line X.env=pure true) jA1) (hs:autoParam (∀x,foldedSetIterable d X.env x=pure x) jC1):QS X (.Assign [.Name y py] (.ListComp h [⟨b,d,ct.toList,0⟩] a i) f) (tAsg (tLcG z g o w u t) (z2N r)):=by
 refine⟨zjq E l m F J.p K A (λC s H e=>(I C s H e).p) ?_ (λC s H e=>(G C s H e).p) n hs⟩
 cases ct with
 | none=>exact q
 | some c=>exact λC s H e=>(q C s H e).p
end
end L2
namespace Pu
open PySem PySem.Spec PyProof.Rows L2
inductive D where
 | non | bl (b:Bool) | int (i:Int) | str (x:Str) | tup (l:List D) | lst (l:List D) | dct (ks vs:List D) | fn (n:Nat) | exc (x:Str) | ptr (a:Addr) | ins (n:Str) (fs:List Str) (cs:List D) | fz (ks vs:List D)
instance:Inhabited D:=⟨.non⟩
def z5Q:Nat->Str
 | 0=>"turn_by" | 1=>"turn_among" | 2=>"step_of" | 3=>"step_among" | _=>""
def kD:Key->D
 | .inl i =>.int i
 | .inr x =>.str x
section
variable (K:W.Frag)(mg:WmP)
mutual
/-- the value v stands for d,in the heap G -/
def RD (G:Hp):D->V->Prop
 | .non,v=>v = .non
 | .bl b,v=>v = .bl b
 | .int i,v=>v = .int i
 | .str x,v=>v = .str x
 | .tup h,v=>∃a e,v = .ref a/\SqT K G a e/\RDs G h e
 | .lst h,v=>∃a e,v = .ref a/\SqL K G a e/\RDs G h e
 | .dct g vs,v=>∃a e,v = .ref a/\RDs G vs e/\((∃d:List (Key × V),Rd G a (.dK d)/\g=d.map (λp=>kD p.1)/\e=d.map (·.2))\/∃d:List (List Key × V),G a=some (.dT d)/\d≠[]/\g=d.map (λp =>.tup (p.1.map kD))/\e=d.map (·.2))
 | .fn n,v=>∃f,v = .ref f/\mg (z5Q n)=some (.ref f)
 | .exc x,v=>∃j C,v = .ref j/\G j=some (.ext (zmO j C))/\mg x=some (.ref C)
 | .ptr a,v=>v = .ref a
 | .fz g vs,v=>∃a e,v = .ref a/\RDs G vs e/\∃(o:Obj) (d:List (Key × V)),G a=some (.frz o (.dK d))/\g=d.map (λp=>kD p.1)/\e=d.map (·.2)
 | .ins n fs l,v=>∃p C m e,v = .ref p/\G p=some (.ins C m (fs.zip e))/\mg n=some (.ref C)/\RDs G l e
def RDs (G:Hp):List D->List V->Prop
 | [],a=>a=[]
 | d::b,a=>∃x r,a=x::r/\RD G d x/\RDs G b r
end
end
section
variable {K:W.Frag}{mg:WmP}{G G' H H':Hp}
def Same.refl':Same H H:=λ_ _ h=>h
def z03 {A B C:Hp}(h:Same A B)(b:Same B C):Same A C:=λa o e=>b a o (h a o e)
def z1j {a:Addr}{xs:List V}(e:Same G G')(h:SqL K G a xs):SqL K G' a xs:=by
 rcases h with (h | ⟨o,h⟩) | h
 .exact .inl (.inl (e _ _ h))
 .exact .inl (.inr ⟨o,e _ _ h⟩)
 .exact .inr h
def z0u {a:Addr}{xs:List V}(e:Same G G')(h:SqT K G a xs):SqT K G' a xs:=by
 rcases h with (h | ⟨o,h⟩) | h
 .exact .inl (.inl (e _ _ h))
 .exact .inl (.inr ⟨o,e _ _ h⟩)
 .exact .inr h
mutual
theorem RD.same (e:Same G G'):∀(d:D) {v:V},RD K mg G d v->RD K mg G' d v
 | .non,_,h=>by simpa[RD] using h
 | .bl _,_,h=>by simpa[RD] using h
 | .int _,_,h=>by simpa[RD] using h
 | .str _,_,h=>by simpa[RD] using h
 | .fn _,_,h=>by rw[RD] at h ⊢;exact h
 | .exc _,_,h=>by
  rw[RD] at h ⊢;obtain⟨t,C,b,g,i⟩:=h;exact⟨t,C,b,e _ _ g,i⟩
 | .ptr _,_,h=>by rw[RD] at h ⊢;exact h
 | .fz _ vs,_,h=>by
  rw[RD] at h ⊢;obtain⟨a,j,b,g,o,f,q,r⟩:=h;exact⟨a,j,b,RDs.same e vs g,o,f,e _ _ q,r⟩
 | .ins _ _ n,_,h=>by
  rw[RD] at h ⊢;obtain⟨p,C,s,j,b,g,i,m⟩:=h;exact⟨p,C,s,j,b,e _ _ g,i,RDs.same e n m⟩
 | .tup l,_,h=>by
  rw[RD] at h ⊢;obtain⟨a,j,b,g,i⟩:=h;exact⟨a,j,b,z0u e g,RDs.same e l i⟩
 | .lst l,_,h=>by
  rw[RD] at h ⊢;obtain⟨a,j,b,g,i⟩:=h;exact⟨a,j,b,z1j e g,RDs.same e l i⟩
 | .dct u vs,_,h=>by
  rw[RD] at h ⊢;obtain⟨a,j,b,i,m⟩:=h;refine⟨a,j,b,RDs.same e vs i,?_⟩
  rcases m with ⟨f,q,r⟩ | ⟨f,q,r⟩
  .exact .inl ⟨f,q.imp (e _ _) λ⟨o,q⟩=>⟨o,e _ _ q⟩,r⟩
  .exact .inr ⟨f,e _ _ q,r⟩
theorem RDs.same (e:Same G G'):∀(a:List D) {xs:List V},RDs K mg G a xs->RDs K mg G' a xs
 | [],_,h=>by simpa[RDs] using h
 | d::a,_,h=>by
  rw[RDs] at h ⊢;obtain⟨x,r,b,f,g⟩:=h;exact⟨x,r,b,RD.same e d f,RDs.same e a g⟩
end
def RDs.nil:RDs K mg G [] []:=by rw[RDs]
def RDs.cons {d:D}{v:V}{a:List D}{vs:List V}(h:RD K mg G d v)(t:RDs K mg G a vs):RDs K mg G (d::a) (v::vs):=by exact⟨v,vs,rfl,h,t⟩
theorem RDs.len:∀{a:List D}{vs:List V},RDs K mg G a vs->vs.length=a.length
 | [],_,h=>by subst h;rfl
 | _::_,_,h=>by
  obtain⟨x,r,rfl,_,b⟩:=h;simp[RDs.len b]
theorem RDs.app:∀{a es:List D}{vs b:List V},RDs K mg G a vs->RDs K mg G es b->RDs K mg G (a++es) (vs++b)
 | [],_,_,_,h,k=>by subst h;exact k
 | _::_,_,_,_,h,k=>by
  obtain⟨x,r,rfl,d,e⟩:=h;exact RDs.cons d (RDs.app e k)
theorem RDs.get:∀{a:List D}{vs:List V}{i:Nat}{d:D},RDs K mg G a vs->a[i]? = some d->∃v,vs[i]? = some v/\RD K mg G d v
 | [],_,_,_,_,e=>by simp at e
 | _::_,_,0,_,h,e=>by
  obtain⟨x,r,rfl,b,f⟩:=h;simp at e;subst e;exact⟨x,rfl,b⟩
 | _::_,_,i+1,_,h,e=>by
  obtain⟨x,r,rfl,b,f⟩:=h;obtain⟨v,g,j⟩:=RDs.get f (by simpa using e);exact⟨v,by simpa using g,j⟩
theorem RDs.take:∀{a:List D}{vs:List V}(n:Nat),RDs K mg G a vs->RDs K mg G (a.take n) (vs.take n)
 | _,_,0,_=>by rfl
 | [],_,_+1,h=>by subst h;rfl
 | _::_,_,n+1,h=>by
  obtain⟨x,r,rfl,b,d⟩:=h;exact RDs.cons b (RDs.take n d)
theorem RDs.drop:∀{a:List D}{vs:List V}(n:Nat),RDs K mg G a vs->RDs K mg G (a.drop n) (vs.drop n)
 | _,_,0,h=>by simpa using h
 | [],_,_+1,h=>by subst h;rfl
 | _::_,_,n+1,h=>by
  obtain⟨x,r,rfl,d,b⟩:=h;exact RDs.drop n b
def RDs.rev {a:List D}{vs:List V}(h:RDs K mg G a vs):RDs K mg G a.reverse vs.reverse:=by
 induction a generalizing vs with
 | nil=>subst h;rfl
 | cons d a f=>
  obtain⟨x,r,rfl,b,e⟩:=h;rw[uw,uw];exact RDs.app (f e) (RDs.cons b RDs.nil)
theorem RDs.set {d:D}{v:V}(q:RD K mg G d v):∀{b:List D}{vs:List V}(i:Nat),RDs K mg G b vs->RDs K mg G (b.set i d) (vs.set i v)
 | [],_,_,h=>by subst h;rfl
 | _::_,_,0,h=>by
  obtain⟨x,r,rfl,e,a⟩:=h;exact RDs.cons q a
 | _::_,_,i+1,h=>by
  obtain⟨x,r,rfl,e,a⟩:=h;exact RDs.cons e (RDs.set q i a)
theorem RDs.at {a:List D}{vs:List V}{i:Int}{d:D}(h:RDs K mg G a vs)(e:atI a i=some d):∃v,atI vs i=some v/\RD K mg G d v:=by
 unfold atI at e ⊢;rw[h.len]
 cases q:ixN _ i with
 | none=>simp_all
 | some j=>
  rw[q] at e;exact h.get e
def RDs.cut {a:List D}{vs:List V}(b d:Option Int)(h:RDs K mg G a vs):RDs K mg G ((a.drop (HT.sIx a.length 0 b)).take (HT.sIx a.length a.length d - HT.sIx a.length 0 b)) (cutV vs b d):=by
 unfold cutV;rw[h.len];exact(h.drop _).take _
end
inductive B where
 | n | s (d:D) | o (d:D)
abbrev Env:=List B
def B.get:B->Option D
 | .n=>none
 | .s d=>some d
 | .o d=>some d
def Env.get (a:Env)(i:Nat):Option D:=match a,i with
 | [],_=>none
 | b::_,0=>b.get
 | _::r,i+1=>Env.get r i
theorem Env.get_eq:∀(a:Env) (i:Nat),Env.get a i=(a[i]?).bind B.get
 | [],i=>by rfl
 | b::r,0=>by rfl
 | b::r,i+1=>by simp[Env.get,Env.get_eq r i]
abbrev DK:=D->Prop
abbrev XP:=Str->Prop
structure Fn where
 run:List D->DK->XP->Prop
 mono:∀ds (Q Q':DK) (X X':XP),(∀d,Q d->Q' d)->(∀x,X x->X' x)->run ds Q X->run ds Q' X'
structure Ex where
 run:Env->DK->XP->Prop
 mono:∀ρ (Q Q':DK) (X X':XP),(∀d,Q d->Q' d)->(∀x,X x->X' x)->run ρ Q X->run ρ Q' X'
structure Sm where
 run:Env->(Env->Prop)->DK->XP->Prop
 mono:∀ρ (N N':Env->Prop) (Q Q':DK) (X X':XP),(∀ρ,N ρ->N' ρ)->(∀d,Q d->Q' d)->(∀x,X x->X' x)->run ρ N Q X->run ρ N' Q' X'
def onV (o:Option D)(Q:DK):Prop:=match o with
 | some d=>Q d
 | none=>False
def Ex.c (d:D):Ex:=⟨λ_ Q _=>Q d,λ_ _ _ _ _ m _ q=>m _ q⟩
def Ex.v (i:Nat):Ex:=⟨λa Q _=>onV (a.get i) Q,λa Q f _ _ m _ q=>by
 show onV (a.get i) f;have b:onV (a.get i) Q:=q
 cases e:a.get i with
 | none=>rw[e] at b;exact b
 | some d=>rw[e] at b;exact m _ b⟩
def runs:List Ex->Env->(List D->Prop)->XP->Prop
 | [],_,Q,_=>Q []
 | e::f,a,Q,X=>e.run a (λd=>runs f a (λb=>Q (d::b)) X) X
theorem z3h:∀(es:List Ex) (b:Env) (Q Q':List D->Prop) (X a:XP),(∀d,Q d->Q' d)->(∀x,X x->a x)->runs es b Q X->runs es b Q' a
 | [],_,_,_,_,_,m,_,q=>m _ q
 | e::es,b,Q,Q',X,a,m,f,q=>e.mono b _ _ X a (λd g=>z3h es b _ _ X a (λi h=>m _ h) f g) f q
def Ex.op (f:Fn)(es:List Ex):Ex:=⟨λb Q X=>runs es b (λa=>f.run a Q X) X,λb Q g X d m e q=>z3h es b _ _ X d (λa h=>f.mono a Q g X d m e h) e q⟩
def tst (d:D)(A B:Prop):Prop:=match d with
 | .bl b=>(b=true->A)/\(b=false->B)
 | _=>False
def z2P {d:D}{A A' B B':Prop}(a:A->A')(f:B->B')(h:tst d A B):tst d A' B':=by
 cases d with
 | bl b=>exact⟨λe=>a (h.1 e),λe=>f (h.2 e)⟩
 | _=>exact h.elim
def z7t {d:D}{A B:Prop}(h:tst d A B):∃b,d = .bl b/\(b=true->A)/\(b=false->B):=by
 cases d with
 | bl b=>exact⟨b,rfl,h⟩
 | _=>exact h.elim
def Ex.and (a b:Ex):Ex:=⟨λe Q X=>a.run e (λd=>tst d (b.run e Q X) (Q (.bl false))) X,λe Q h X f m g q=>a.mono e _ _ X f (λd i=>z2P (b.mono e Q h X f m g) (m _) i) g q⟩
def Ex.or (a b:Ex):Ex:=⟨λe Q X=>a.run e (λd=>tst d (Q (.bl true)) (b.run e Q X)) X,λe Q h X f m g q=>a.mono e _ _ X f (λd i=>z2P (m _) (b.mono e Q h X f m g) i) g q⟩
def Ex.not (a:Ex):Ex:=⟨λe Q X=>a.run e (λd=>match d with | .bl b=>Q (.bl (!b)) | _=>False) X,λe Q i X g m h q=>a.mono e _ _ X g (λd f=>by
 cases d with
 | bl b=>exact m _ f
 | _=>exact f.elim) h q⟩
inductive Tg where
 | nm (i:Nat) | tp (is:List Nat)
def z0c:List Nat->List D->Env->Env
 | i::is,d::b,a=>z0c is b (a.set i (.s d))
 | _,_,a=>a
def Tg.put (t:Tg)(d:D)(b:Env)(K:Env->Prop):Prop:=match t,d with
 | .nm i,d=>K (b.set i (.s d))
 | .tp is,.tup a=>is.length=a.length/\K (z0c is a b)
 | _,_=>False
def Tg.put_mono {t:Tg}{d:D}{a:Env}{K K':Env->Prop}(m:∀a,K a->K' a)(h:t.put d a K):t.put d a K':=by
 cases t with
 | nm i=>exact m _ h
 | tp is=>
  cases d with
  | tup b=>exact⟨h.1,m _ h.2⟩
  | _=>exact h.elim
def z01:D->Option (List D)
 | .lst l=>some l
 | .tup l=>some l
 | .str x=>some (x.cps.toList.map λc =>.str ⟨#[c]⟩)
 | _=>none
def onL (o:Option (List D))(Q:List D->Prop):Prop:=match o with
 | some l=>Q l
 | none=>False
def z9G {o:Option (List D)}{Q Q':List D->Prop}(m:∀l,Q l->Q' l)(h:onL o Q):onL o Q':=by
 cases o with
 | none=>exact h
 | some l=>exact m _ h
def z4x (f:D->(Option D->Prop)->Prop):List D->(List D->Prop)->Prop
 | [],N=>N []
 | x::a,N=>f x λo=>z4x f a λr=>N (o.toList++r)
theorem z3P {f d:D->(Option D->Prop)->Prop}(e:∀x K b,(∀o,K o->b o)->f x K->d x b):∀(xs:List D) (N a:List D->Prop),(∀l,N l->a l)->z4x f xs N->z4x d xs a
 | [],_,_,m,q=>m _ q
 | x::xs,N,a,m,q=>e x _ _ (λo g=>z3P e xs _ _ (λr h=>m _ h) g) q
def z16 (b:Nat)(a:List Nat)(d:Env):Env:=List.replicate b .n++a.map λj=>(d[j]?).getD .n
def z4O (t:Tg)(c:Option Ex)(e:Ex)(f:Env)(x:D)(K:Option D->Prop):Prop:=
 t.put x f λa=>match c with
  | none=>e.run a (λd=>K (some d)) (λ_=>False)
  | some c=>c.run a (λb=>tst b (e.run a (λd=>K (some d)) (λ_=>False)) (K none)) (λ_=>False)
def z4N {t:Tg}{c:Option Ex}{a:Ex}{g:Env}(x:D)(K K':Option D->Prop)(m:∀o,K o->K' o)(h:z4O t c a g x K):z4O t c a g x K':=by
 refine Tg.put_mono (λe q =>?_) h
 cases c with
 | none=>exact a.mono e _ _ _ _ (λd f=>m _ f) (λ_ z=>z) q
 | some c=>exact c.mono e _ _ _ _ (λb f=>z2P (a.mono e _ _ _ _ (λd i=>m _ i) (λ_ z=>z)) (m _) f) (λ_ z=>z) q
def Ex.comp (i:Nat)(g:List Nat)(t:Tg)(src:Ex)(c:Option Ex)(b:Ex):Ex:=
 ⟨λa Q X=>src.run a (λd=>onL (z01 d) λl=>l.length<sizeLine/\z4x (z4O t c b (z16 i g a)) l λr=>Q (.lst r)) X,λa Q o X f m h q=>
  src.mono a _ _ X f (λd j=>z9G (λl e=>⟨e.1,z3P z4N l _ _ (λr n=>m _ n) e.2⟩) j) h q⟩
def Sm.skip:Sm:=⟨λa N _ _=>N a,λ_ _ _ _ _ _ _ m _ _ q=>m _ q⟩
def Sm.seq (a b:Sm):Sm:=⟨λe N Q X=>a.run e (λd=>b.run d N Q X) Q X,λe N i Q f X g j m h q=>a.mono e _ _ Q f X g (λd l=>b.mono d N i Q f X g j m h l) m h q⟩
mutual
def noL:D->Bool
 | .lst _=>false
 | .tup l=>noLs l
 | .dct a vs=>noLs vs
 | .ins _ _ _=>false
 | .fz _ _=>false
 | _=>true
def noLs:List D->Bool
 | []=>true
 | d::a=>noL d && noLs a
end
mutual
def noD:D->Bool
 | .dct _ _=>false
 | .tup l=>noDs l
 | .lst l=>noDs l
 | .ins _ _ _=>false
 | .fz _ _=>false
 | _=>true
def noDs:List D->Bool
 | []=>true
 | d::a=>noD d && noDs a
end
def zif (d:D):B->Prop
 | .o (.lst _)=>noL d=true
 | .o (.dct _ _)=>noD d=true
 | _=>True
def Safe (d:D):Env->Prop
 | []=>True
 | b::r=>zif d b/\Safe d r
def zcV (d:D)(a:Env):Prop:=match d with
 | .lst l=>∀x∈l,Safe x a
 | .dct _ vs=>∀x∈vs,Safe x a
 | _=>False
def Sm.set (i:Nat)(e:Ex):Sm:=⟨λa N _ X=>e.run a (λd=>Safe d (a.set i .n)/\N (a.set i (.s d))) X,λa N j Q l X f g m h q=>e.mono a _ _ X f (λd b=>⟨b.1,g _ b.2⟩) h q⟩
def Sm.own (i:Nat)(e:Ex):Sm:=⟨λa N _ X=>e.run a (λd=>zcV d (a.set i .n)/\N (a.set i (.o d))) X,λa N j Q l X f g m h q=>e.mono a _ _ X f (λd b=>⟨b.1,g _ b.2⟩) h q⟩
def demB:B->B
 | .o d =>.s d
 | b=>b
def dem:List Nat->Env->Env
 | [],a=>a
 | j::b,a=>dem b (a.set j (demB ((a[j]?).getD .n)))
def visB:B->B
 | .o _ =>.n
 | b=>b
def vis (a:Env):Env:=a.map visB
def Sm.setx (b:List Nat)(i:Nat)(e:Ex):Sm:=⟨λa N _ X=>e.run (vis (dem b a)) (λd=>N ((dem b a).set i (.s d))) X,λa N l Q n X f g m h q=>e.mono _ _ _ X f (λd j=>g _ j) h q⟩
def Sm.ifs (c:Ex)(a b:Sm):Sm:=⟨λe N Q X=>c.run e (λd=>tst d (a.run e N Q X) (b.run e N Q X)) X,λe N h Q i X f j m g q=>c.mono e _ _ X f (λd l=>z2P (a.mono e N h Q i X f j m g) (b.mono e N h Q i X f j m g) l) g q⟩
def Sm.ret (e:Ex):Sm:=⟨λa _ Q X=>e.run a Q X,λa N f Q g X b h m d q=>e.mono a _ _ X b m d q⟩
def Sm.ex (e:Ex):Sm:=⟨λa N _ X=>e.run a (λ_=>N a) X,λa N h Q i X b d m f q=>e.mono a _ _ X b (λ_ g=>d _ g) f q⟩
def wh (c:Ex)(b:Sm)(N:Env->Prop)(Q:DK)(X:XP):Nat->Env->Prop
 | 0,_=>False
 | n+1,a=>c.run a (λd=>tst d (b.run a (wh c b N Q X n) Q X) (N a)) X
theorem zaT {c:Ex}{b:Sm}{N h:Env->Prop}{Q Q':DK}{X e:XP}(i:∀a,N a->h a)(m:∀d,Q d->Q' d)(f:∀x,X x->e x):∀(n:Nat) (a:Env),wh c b N Q X n a->wh c b h Q' e n a
 | 0,_,q=>q
 | n+1,a,q=>c.mono a _ _ X e (λd j=>z2P (b.mono a _ _ Q Q' X e (λg l=>zaT i m f n g l) m f) (i a) j) f q
def Sm.wh (c:Ex)(b:Sm):Sm:=⟨λa N Q X=>∃n,Pu.wh c b N Q X n a,λa N f Q g X h d m e ⟨n,q⟩=>⟨n,zaT d m e n a q⟩⟩
def forL (t:Tg)(b:Sm)(N:Env->Prop)(Q:DK)(X:XP):List D->Env->Prop
 | [],a=>N a
 | x::e,a=>t.put x a λd=>b.run d (forL t b N Q X e) Q X
theorem z5P {t:Tg}{b:Sm}{N h:Env->Prop}{Q Q':DK}{X e:XP}(i:∀a,N a->h a)(m:∀d,Q d->Q' d)(j:∀x,X x->e x):∀(l:List D) (a:Env),forL t b N Q X l a->forL t b h Q' e l a
 | [],_,q=>i _ q
 | x::p,a,q=>Tg.put_mono (λf n=>b.mono f _ _ Q Q' X e (λg o=>z5P i m j p g o) m j n) q
def Sm.for_ (e:List Nat)(t:Tg)(src:Ex)(b:Sm):Sm:=⟨λa N Q X=>src.run (vis (dem e a)) (λd=>onL (z01 d) λl=>forL t b N Q X l (dem e a)) X,λa N n Q o X g h m f q=>src.mono _ _ _ X g (λd i=>z9G (λl j=>z5P h m f l _ j) i) f q⟩
def onR (a:List D)(K:List D->Prop):Prop:=match a with
 | [.int j]=>(-(2 ^ 62)<=j/\j<2 ^ 62)/\K ((List.range j.toNat).map λ(k:Nat) =>.int (k:Int))
 | [.int i,.int j]=>((-(2 ^ 62)<=i/\i<2 ^ 62) /\ -(2 ^ 62)<=j/\j<2 ^ 62)/\K ((List.range (j - i).toNat).map λ(k:Nat) =>.int (i+(k:Int)))
 | _=>False
def z9E {a:List D}{K K':List D->Prop}(m:∀l,K l->K' l)(h:onR a K):onR a K':=by
 unfold onR at h ⊢
 split at h
 .exact⟨h.1,m _ h.2⟩
 .exact⟨h.1,m _ h.2⟩
 omega
def Sm.forr (es:List Ex)(t:Tg)(b:Sm):Sm:=⟨λa N Q X=>runs es a (λg=>onR g λl=>forL t b N Q X l a) X,λa N n Q o X f h m e q=>z3h es a _ _ X f (λd i=>z9E (λl j=>z5P h m e l _ j) i) e q⟩
def ownL (a:Env)(i:Nat)(K:List D->Prop):Prop:=match a[i]? with
 | some (.o (.lst l))=>K l
 | _=>False
def z4l {a:Env}{i:Nat}{K K':List D->Prop}(m:∀l,K l->K' l)(h:ownL a i K):ownL a i K':=by
 unfold ownL at h ⊢
 split <;> rename_i e
 .simp_all
 simp_all
def Sm.app (i:Nat)(e:Ex):Sm:=⟨λa N _ X=>ownL a i λl=>e.run a (λd=>l.length<sizeLine/\Safe d a/\N (a.set i (.o (.lst (l++[d]))))) X,λa N n Q p X f g m h q=>z4l (λl j=>e.mono a _ _ X f (λd b=>⟨b.1,b.2.1,g _ b.2.2⟩) h j) q⟩
def popL (l:List D)(K:List D->D->Prop):Prop:=match l[l.length - 1]? with
 | some d=>K l.dropLast d
 | none=>False
def zbu {l:List D}{K K':List D->D->Prop}(m:∀l d,K l d->K' l d)(h:popL l K):popL l K':=by
 unfold popL at h ⊢
 split <;> rename_i e
 .simp_all
 simp_all
def Sm.pop (i:Nat):Sm:=⟨λa N _ _=>ownL a i λl=>popL l λb _=>N (a.set i (.o (.lst b))),λa N g Q h X j d m n q=>z4l (λl e=>zbu (λ_ _ f=>d _ f) e) q⟩
def isLs (d:D)(K:List D->Prop):Prop:=match d with
 | .lst l=>K l
 | _=>False
def z88 {d:D}{K K':List D->Prop}(m:∀j,K j->K' j)(h:isLs d K):isLs d K':=by
 cases d with
 | lst l=>exact m _ h
 | _=>exact h.elim
def Sm.ext (i:Nat)(e:Ex):Sm:=⟨λa N _ X=>ownL a i λl=>e.run a (λd=>isLs d λm=>l.length+m.length<=sizeLine/\(∀x∈m,Safe x a)/\N (a.set i (.o (.lst (l++m))))) X,λa N p Q r X f g m h q=>z4l (λl j=>e.mono a _ _ X f (λd n=>z88 (λm b=>⟨b.1,b.2.1,g _ b.2.2⟩) n) h j) q⟩
def onN (o:Option Nat)(K:Nat->Prop):Prop:=match o with
 | some j=>K j
 | none=>False
def ze5 {o:Option Nat}{K K':Nat->Prop}(m:∀j,K j->K' j)(h:onN o K):onN o K':=by
 cases o with
 | none=>exact h
 | some l=>exact m _ h
def isI (d:D)(K:Int->Prop):Prop:=match d with
 | .int i=>K i
 | _=>False
def z9O {d:D}{K K':Int->Prop}(m:∀j,K j->K' j)(h:isI d K):isI d K':=by
 cases d with
 | int i=>exact m _ h
 | _=>exact h.elim
def Sm.put (i:Nat)(k e:Ex):Sm:=⟨λa N _ X=>ownL a i λl=>e.run a (λd=>Safe d a/\k.run a (λf=>isI f λz=>onN (ixN l.length z) λj=>N (a.set i (.o (.lst (l.set j d))))) X) X,λa N u Q w X b n m g q=>
 z4l (λl p=>e.mono a _ _ X b (λd h=>⟨h.1,k.mono a _ _ X b (λf r=>z9O (λz s=>ze5 (λj t=>n _ t) s) r) g h.2⟩) g p) q⟩
def Fn.mk' (d h:Nat)(b:Sm):Fn:=⟨λa Q X=>a.length=d/\b.run (a.map B.s++List.replicate (h - d) .n) (λ_=>Q .non) Q X,λa Q e X f m g q=>⟨q.1,b.mono _ _ _ Q e X f (λ_ i=>m _ i) m g q.2⟩⟩
def Fn.mkN (d f:Nat)(b:Sm):Fn:=⟨λa Q _=>a.length=d/\b.run (a.map B.s++List.replicate (f - d) .n) (λ_=>Q .non) Q (λ_=>False),λa Q e X h m i q=>⟨q.1,b.mono _ _ _ Q e _ _ (λ_ g=>m _ g) m (λ_ z=>z) q.2⟩⟩
def Sm.calm (b:Sm):Sm:=⟨λa N Q _=>b.run a N Q (λ_=>False),λa N d Q e X g f m h q=>b.mono a N d Q e _ _ f m (λ_ z=>z) q⟩
def AbE (K:W.Frag)(mg:WmP)(G:Hp)(a:Pu.Env)(b:L2.St):Prop:=∀i d,a.get i=some d->∃v,b[i]? = some (some v)/\RD K mg G d v
def Gr (G H b:Hp):Prop:=Same G b/\∀a o,b a=some o->(∃u,G a=some u)\/H a=none
def Gr.refl {G H:Hp}:Gr G H G:=⟨Same.refl',λa o e =>.inl ⟨o,e⟩⟩
def Gr.trans {G H b d G2:Hp}(h:Gr G H b)(k:Same H d)(f:Gr b d G2):Gr G H G2:=⟨z03 h.1 f.1,λa o e=>by
 rcases f.2 a o e with ⟨u,q⟩ | q
 .exact h.2 a u q
 .refine .inr ?_
  cases z:H a with
  | none=>rfl
  | some w=>rw[k a w z] at q;cases q⟩
def Gr.new {G H:Hp}{p:Addr}{o:HO}(g:Same G H)(b:H p=none):Gr G H (upd G p o):=by
 have f:G p=none:=by
  cases e:G p with
  | none=>rfl
  | some u=>rw[g p u e] at b;cases b
 refine⟨z0f f o,λa u e =>?_⟩
 by_cases d:a=p
 .subst d;exact .inr b
 .rw[z05 d] at e;exact .inl ⟨u,e⟩
def Kt (K:W.Frag)(mg:WmP)(G H:Hp)(e:DK)(Q:VK):Prop:=∀d v a b,e d->Gr G H a->Same a b->Same H b->RD K mg a d v->Q v b
def Kts (K:W.Frag)(mg:WmP)(G H:Hp)(e:List D->Prop)(Q:List V->Hp->Prop):Prop:=∀d vs a b,e d->Gr G H a->Same a b->Same H b->RDs K mg a d vs->Q vs b
def Kx (mg:WmP)(H:Hp)(b:XP)(E:XK):Prop:=∀x C a,b x->mg x=some (.ref C)->Same H a->E (.ref C) none a
def tx (K:W.Frag)(mg:WmP)(E:XK)(e:Ex):TE:=λf H Q=>∃G d a b,Same G H/\AbE K mg G d f/\e.run d a b/\Kt K mg G H a Q/\Kx mg H b E
def txa (K:W.Frag)(mg:WmP)(E:XK)(es:List Ex):TA:=λe H Q=>∃G d a b,Same G H/\AbE K mg G d e/\runs es d a b/\Kts K mg G H a Q/\Kx mg H b E
def tt (K:W.Frag)(mg:WmP)(E:XK)(e:Ex):TT:=λj H Q=>∃G i g h,Same G H/\AbE K mg G i j/\e.run i g h/\(∀d f a,g d->Gr G H f->Same f a->Same H a->∃b,d = .bl b/\Q b a)/\Kx mg H h E
section
variable {K:W.Frag}{mg:WmP}{G G' H H':Hp}{ρ:Pu.Env}{σ:L2.St}{Q0:DK}{Q:VK}{X0:XP}{E:XK}
theorem AbE.same (h:AbE K mg G ρ σ)(g:Same G G'):AbE K mg G' ρ σ:=λi d e=>by
 obtain⟨v,a,b⟩:=h i d e;exact⟨v,a,b.same g⟩
def Kt.same (h:Kt K mg G H Q0 Q)(g:Gr G H G')(k:Same H H'):Kt K mg G' H' Q0 Q:=λd v e f q a b c r=>h d v e f q (g.trans k a) b (z03 k c) r
def Kx.same (h:Kx mg H X0 E)(k:Same H H'):Kx mg H' X0 E:=λx C a q m c=>h x C a q m (z03 k c)
def Kx.no {E:XK}:Kx mg H (λ_=>False) E:=λ_ _ _ z=>z.elim
def Kt.now {d:D}{v:V}(h:Kt K mg G H Q0 Q)(g:Same G H)(q:Q0 d)(r:RD K mg G d v):Q v H:=h d v G H q Gr.refl g Same.refl' r
theorem Kt.new {d:D}{p:Addr}{o:HO}{v:V}(h:Kt K mg G H Q0 Q)(g:Same G H)(f:H p=none)(q:Q0 d)(r:RD K mg (upd G p o) d v):Q v (upd H p o):=by
 refine h d v _ _ q (Gr.new g f) (λb u e =>?_) (z0f f o) r
 by_cases a:b=p
 .subst a;rw[z06] at e ⊢;exact e
 .rw[z05 a] at e ⊢;exact g b u e
def z0M (g:Same G H){p:Addr}(a:H p=none):G p=none:=by
 cases e:G p with
 | none=>rfl
 | some u=>rw[g p u e] at a;cases a
end
def Lk2 (K:W.Frag)(mg:WmP)(F:Fn)(r:R2):Prop:=∀(G H:Hp) (b d:D) (e f:V) (a:DK) (g:XP) (Q:VK),Same G H->RD K mg G b e->RD K mg G d f->F.run [b,d] a g->Kt K mg G H a Q->r e f H Q
def Lk1 (K:W.Frag)(mg:WmP)(F:Fn)(r:V->Hp->VK->Prop):Prop:=∀(G H:Hp) (d:D) (v:V) (a:DK) (b:XP) (Q:VK),Same G H->RD K mg G d v->F.run [d] a b->Kt K mg G H a Q->r v H Q
def LkN (K:W.Frag)(mg:WmP)(F:Fn)(r:List V->Hp->VK->Prop):Prop:=∀(G H:Hp) (b:List D) (vs:List V) (a:DK) (d:XP) (Q:VK),Same G H->RDs K mg G b vs->F.run b a d->Kt K mg G H a Q->r vs H Q
section
variable {K:W.Frag}{mg:WmP}{E:XK}{σ:L2.St}{H:Hp}{Q:VK}{a b c:Ex}{F:Fn}{es:List Ex}
def tx2 {r:R2}(C:Lk2 K mg F r)(h:tx K mg E (.op F [a,b]) σ H Q):tOp r (tx K mg E a) (tx K mg E b) σ H Q:=by
 obtain⟨G,g,i,e,hs,j,y,x,n⟩:=h;refine⟨G,g,λd=>b.run g _ e,e,hs,j,y,?_,n⟩;intro d v p J w m t g3 rd;refine⟨p,g,λl=>F.run _ i e,e,t,j.same m.1,w,?_,n.same g3⟩;intro l I q s u o z A f;exact C q s d l v I i e Q z (rd.same o.1) f u (x.same (m.trans g3 o) (z03 g3 A))
def tx1 {r:V->Hp->VK->Prop}(q:Lk1 K mg F r)(h:tx K mg E (.op F [a]) σ H Q):tUn r (tx K mg E a) σ H Q:=by
 obtain⟨G,s,e,b,hs,i,o,n,p⟩:=h;refine⟨G,s,λd=>F.run [d] e b,b,hs,i,o,?_,p⟩;intro d v f g m j l g3 rd;exact q f g d v e b Q l rd m (n.same j g3)
def txN {r:List V->Hp->VK->Prop}(p:LkN K mg F r)(h:tx K mg E (.op F es) σ H Q):tCB r (txa K mg E es) σ H Q:=by
 obtain⟨G,q,d,a,hs,g,n,m,o⟩:=h;refine⟨G,q,λb=>F.run b d a,a,hs,g,n,?_,o⟩;intro b vs e f l i j g3 rd;exact p e f b vs d a Q j rd l (m.same i g3)
end
theorem QE.imp {X:Cx}{e:Expr}{t t':TE}(h:QE X e t)(i:∀a H Q,t' a H Q->t a H Q):QE X e t':=⟨h.p.imp i⟩
def QT.imp {X:Cx}{e:Expr}{t t':TT}(h:QT X e t)(i:∀a H Q,t' a H Q->t a H Q):QT X e t':=⟨λb s a H Q I q=>h.p _ s a H Q I (i a H Q q)⟩
def QA.imp {X:Cx}{e:List Expr}{t t':TA}(h:QA X e t)(i:∀a H Q,t' a H Q->t a H Q):QA X e t':=⟨λb d s a H Q I q=>h.p b _ s a H Q I (i a H Q q)⟩
def QW.imp {X:Cx}{e:Expr}{t t':TT}(h:QW X e t)(i:∀a H Q,t' a H Q->t a H Q):QW X e t':=⟨λw b s a H Q I q=>h.p w _ s a H Q I (i a H Q q)⟩
def QS.imp {X:Cx}{e:Stmt}{t t':TS}(h:QS X e t)(i:∀D a H,t' D a H->t D a H):QS X e t':=⟨λb s a H D I q=>h.p _ s a H D I (i D a H q)⟩
def QSs.imp {X:Cx}{e:List Stmt}{t t':TS}(h:QSs X e t)(i:∀D a H,t' D a H->t D a H):QSs X e t':=⟨λb s a H D I q=>h.p _ s a H D I (i D a H q)⟩
def QI.imp {X:Cx}{d e:Expr}{t t':TI}(h:QI X d e t)(i:∀a H R,t' a H R->t a H R):QI X d e t':=⟨λb s a H R I q=>h.p _ s a H R I (i a H R q)⟩
abbrev QX (X:Cx)(E:XK)(e:Expr)(x:Ex):Prop:=QE X e (tx X.K X.mg E x)
abbrev QXT (X:Cx)(E:XK)(e:Expr)(x:Ex):Prop:=QT X e (tt X.K X.mg E x)
abbrev QXW (X:Cx)(E:XK)(e:Expr)(x:Ex):Prop:=QW X e (tt X.K X.mg E x)
abbrev QXA (X:Cx)(E:XK)(es:List Expr)(x:List Ex):Prop:=QA X es (txa X.K X.mg E x)
section
variable {X:Cx}{E:XK}{e a b c:Expr}{x y z:Ex}{pos:Pos}{es:List Expr}{xs:List Ex}{rest:List Expr}
def qx_c {d:D}{v:V}(h:QE X e (tC v))(r:∀G,RD X.K X.mg G d v):QX X E e (.c d):=QE.imp h <| by rintro m H Q ⟨G,l,f,g,hs,i,b,a,j⟩;exact a.now hs b (r G)
def qx_v {i:Nat}(h:QE X e (tVar i)):QX X E e (.v i):=QE.imp h <| by
 rintro p H Q ⟨G,m,Q0,n,hs,b,l,j,o⟩;have a:onV _ Q0:=l
 cases q:m.get i with
 | none=>rw[q] at a;exact a.elim
 | some d=>
  rw[q] at a;obtain⟨v,f,g⟩:=b i d q;exact⟨v,f,j.now hs a g⟩
def ziQ {i:Int}{j:Nat}:QX X E (.Constant (.int i) j pos) (.c (.int i)):=qx_c zjg λ_=>by rw[RD]
def zlG {i:Bool}{j:Nat}:QX X E (.Constant (.bool i) j pos) (.c (.bl i)):=qx_c zlP λ_=>by rw[RD]
def ziO {j:Nat}:QX X E (.Constant .none j pos) (.c .non):=qx_c zjd λ_=>by rw[RD]
def ziM {i:Str}{j:Nat}:QX X E (.Constant (.str i) j pos) (.c (.str i)):=qx_c zjb λ_=>by rw[RD]
def ziU {op:Operator}{F:Fn}{r:R2}(f:OpR X (binaryOp op) r)(g:Lk2 X.K X.mg F r)(d:QX X E a x)(e:QX X E b y):QX X E (.BinOp a op b pos) (.op F [x,y]):=QE.imp (zlM f d e) λ_ _ _ h=>tx2 g h
def zlA {op:UnaryOp}{F:Fn}{r:V->Hp->VK->Prop}(d:UnR X (unaryOp op) r)(e:Lk1 X.K X.mg F r)(b:QX X E a x):QX X E (.UnaryOp op a pos) (.op F [x]):=QE.imp (zlL d b) λ_ _ _ h=>tx1 e h
def ziT {op:CmpOp}{F:Fn}{r:R2}(g:OpR X (compareOp op) r)(i:Lk2 X.K X.mg F r)(d:QX X E a x)(e:QX X E b y)(f:behindInMarks op b=false):QX X E (.Compare a [op] [b] pos) (.op F [x,y]):=QE.imp (zgv g d e f) λ_ _ _ h=>tx2 i h
def zfN {t:TE}{a:L2.St}{H:Hp}{Q:Bool->Hp->Prop}(m:∀Q,tx X.K X.mg E x a H Q->t a H Q)(h:tt X.K X.mg E x a H Q):zfT t a H Q:=by
 obtain⟨G,u,g,i,hs,j,p,o,r⟩:=h;refine m _ ⟨G,u,g,i,hs,j,p,λd v e f q l n g3 rd =>?_,r⟩;obtain⟨b,rfl,s⟩:=o d e f q l n g3;exact⟨b,rd,s⟩
def zj1 {op:CmpOp}{F:Fn}{r:R2}(g:OpR X (compareOp op) r)(i:Lk2 X.K X.mg F r)(d:QX X E a x)(e:QX X E b y)(f:behindInMarks op b=false):QXT X E (.Compare a [op] [b] pos) (.op F [x,y]):=QT.imp (zgm g d e f) λj H Q h=>zfN (λ_ h=>tx2 i h) h
def zgl (h:QX X E e x)(o:autoParam (∀a,isTrue e X.env a=(do let v <- a;standAt e.pos;holding [v] (truthy v))) jC1):QXT X E e x:=QT.imp (ziZ h o) λw H Q h=>by
 obtain⟨G,u,i,j,hs,l,r,p,s⟩:=h;refine⟨G,u,i,j,hs,l,r,λd v f g q m n g3 rd =>?_,s⟩;obtain⟨b,rfl,t⟩:=p d f g q m n g3;exact⟨b,rd,t⟩
def zgk (m:QXT X E a x):QXT X E (.UnaryOp .Not a pos) (.not x):=QT.imp (zj0 m) <| by
 rintro w H Q ⟨G,s,t,h,hs,i,o,n,p⟩;refine⟨G,s,_,h,hs,i,o,λd f g q j l g3 =>?_,p⟩
 cases d with
 | bl b=>
  obtain⟨u,e,r⟩:=n _ f g q j l g3
  cases e
  exact⟨b,rfl,r⟩
 | _=>exact q.elim
def ziN {op}(h:QX X E a x):QX X E (.BoolOp op [a] pos) x:=zjc h
def ziV (p:QX X E a x)(r:QX X E (.BoolOp .And (b::rest) pos) y):QX X E (.BoolOp .And (a::b::rest) pos) (.and x y):=QE.imp (zjj p r) <| by
 rintro w H Q ⟨G,m,o,g,hs,h,s,j,l⟩;refine⟨G,m,_,g,hs,h,s,λd v f n q e i g3 rd =>?_,l⟩;obtain⟨k,rfl,t,u⟩:=z7t q;refine⟨k,rd,?_⟩
 cases k with
 | true=>exact iteT ⟨f,m,o,g,i,h.same e.1,t rfl,j.same e g3,l.same g3⟩
 | false=>exact iteF (j _ _ f n (u rfl) e i g3 (by rw[RD]))
def zdD (b:QXT X E a x):QXW X E (.BoolOp .And [a] pos) x:=zgj b
def zgh (b:QXT X E a x):QXW X E (.BoolOp .Or [a] pos) x:=ziX b
def zgi (t:QXT X E a x)(u:QXW X E (.BoolOp .And (b::rest) pos) y):QXW X E (.BoolOp .And (a::b::rest) pos) (.and x y):=QW.imp (ziY t u) <| by
 rintro L H Q ⟨G,n,s,h,hs,i,w,l,m⟩;refine⟨G,n,_,h,hs,i,w,λd g p q f j g3 =>?_,m⟩;obtain⟨k,rfl,F,I⟩:=z7t q;refine⟨k,rfl,?_⟩
 cases k with
 | true=>exact iteT ⟨g,n,s,h,j,i.same f.1,F rfl,λd o r q z A C=>l d o r q (f.trans g3 z) A (z03 g3 C),m.same g3⟩
 | false=>
  obtain⟨J,e,K⟩:=l _ g p (I rfl) f j g3
  simp_all
def ziW (t:QXT X E a x)(u:QXW X E (.BoolOp .Or (b::rest) pos) y):QXW X E (.BoolOp .Or (a::b::rest) pos) (.or x y):=QW.imp (zlI t u) <| by
 rintro L H Q ⟨G,n,s,h,hs,i,w,l,m⟩;refine⟨G,n,_,h,hs,i,w,λd g p q f j g3 =>?_,m⟩;obtain⟨k,rfl,F,I⟩:=z7t q;refine⟨k,rfl,?_⟩
 cases k with
 | false=>exact iteF ⟨g,n,s,h,j,i.same f.1,I rfl,λd o r q z A C=>l d o r q (f.trans g3 z) A (z03 g3 C),m.same g3⟩
 | true=>
  obtain⟨J,e,K⟩:=l _ g p (F rfl) f j g3
  simp_all
def zgg:QXA X E [] []:=QA.imp z5y <| by rintro i H Q ⟨G,h,d,e,hs,f,b,a,g⟩;exact a [] [] G H b Gr.refl hs Same.refl' RDs.nil
def zdA (p:QX X E e x)(a:QXA X E es xs)(hs:autoParam (starEach (e::es) X.env=(false,eval e X.env)::starEach es X.env) jA1):QXA X E (e::es) (x::xs):=QA.imp (z3j p a hs) <| by
 rintro A H Q ⟨G,j,y,b,hs,f,a,r,h⟩;refine⟨G,j,_,b,hs,f,a,λd v l w q g o g3 rd =>?_,h⟩;refine⟨l,j,_,b,o,f.same g.1,q,λz vs m n u i s t rds =>?_,h.same g3⟩;exact r _ _ m n u (g.trans g3 i) s (z03 g3 t) (RDs.cons (rd.same i.1) rds)
def spP (K:W.Frag)(mg:WmP)(F:Fn):Sp:=λvs H Q E=>∃G d a b,Same G H/\RDs K mg G d vs/\F.run d a b/\Kt K mg G H a Q/\Kx mg H b E
def zlD {CX:CXT}{k:Nat}{ps:List Str}{F:Fn}{f:Str}{x:Pos}(C:Cal X.prog X.w X.K X.mg X.base CX k f ps (spP X.K X.mg F))(g:Room k X.A)(a:z4z CX X E)(r:QXA X E (e::es) xs)(t:autoParam (Gl X f) jA1)
  (b:autoParam ((f == ("__debug__":Str))=false) jB1) (s:autoParam (starEach (e::es) X.env=(false,eval e X.env)::starEach es X.env) jA1) (d:autoParam ((backTo pos (starEach es X.env)).any (·.1)=false) jA1):QX X E (.Call (.Name f x) (e::es) [] pos) (.op F xs):=
 QE.imp (zlO C g a r t b s d) <| by
  rintro z H Q ⟨G,y,l,h,hs,m,g,u,a⟩;refine⟨G,y,_,h,hs,m,g,λn vs i j q o p g3 rds =>?_,a⟩;show spP X.K _ F _ j Q E;rw[vV];exact⟨i,n,l,h,p,rds,q,u.same o g3,a.same g3⟩
def zlE {f:Str}{p:Pos}{id:String}{F:Fn}{r:List V->Hp->VK->Prop}(g:z0C X (.builtin id) r)(o:LkN X.K X.mg F r)(j:Gl X f)(l:X.mg f=none)(n:bootBuiltins f=some (.builtin id))(d:QXA X E (e::es) xs)(m:autoParam (f≠"__name__") jB1)(a:autoParam ((f == ("__debug__":Str))=false) jB1)
  (i:autoParam (starEach (e::es) X.env=(false,eval e X.env)::starEach es X.env) jA1) (b:autoParam ((backTo pos (starEach es X.env)).any (·.1)=false) jA1):QX X E (.Call (.Name f p) (e::es) [] pos) (.op F xs):=
 QE.imp (z4h g j l n d m a i b) λ_ _ _ h=>txN o h
def ziS {f:Str}{p:Pos}{id:String}{F:Fn}{r:List V->Hp->VK->Prop}(g:z0C X (.type id) r)(o:LkN X.K X.mg F r)(j:Gl X f)(l:X.mg f=none)(n:bootBuiltins f=some (.type id))(d:QXA X E (e::es) xs)(m:autoParam (f≠"__name__") jB1)(a:autoParam ((f == ("__debug__":Str))=false) jB1)
  (i:autoParam (starEach (e::es) X.env=(false,eval e X.env)::starEach es X.env) jA1) (b:autoParam ((backTo pos (starEach es X.env)).any (·.1)=false) jA1):QX X E (.Call (.Name f p) (e::es) [] pos) (.op F xs):=
 QE.imp (z2g g j l n d m a i b) λ_ _ _ h=>txN o h
end
def z4Q (K:W.Frag)(mg:WmP)(G H:Hp)(a:Addr):D->Prop
 | .lst f=>∃d,H a=some (.lst d)/\RDs K mg G f d
 | .dct e vs=>∃d,RDs K mg G vs d/\((∃b:List (Key × V),H a=some (.dK b)/\e=b.map (λp=>kD p.1)/\d=b.map (·.2))\/∃b:List (List Key × V),H a=some (.dT b)/\b≠[]/\e=b.map (λp =>.tup (p.1.map kD))/\d=b.map (·.2))
 | _=>False
structure AbS (K:W.Frag)(mg:WmP)(H0 G0 G:Hp)(ρ:Pu.Env)(σ:L2.St)(H:Hp):Prop where
 len:σ.length=ρ.length
 s0:Same H0 H
 g0:Same G0 G
 g:Same G H
 nw:∀a o,G a=some o->(∃u,G0 a=some u)\/H0 a=none
 sh:∀(i:Nat) (d:D),ρ[i]? = some (B.s d)->∃v,σ[i]? = some (some v)/\RD K mg G d v
 ow:∀(i:Nat) (d:D),ρ[i]? = some (B.o d)->∃a,σ[i]? = some (some (V.ref a))/\G a=none/\H0 a=none/\z4Q K mg G H a d
 ne:∀(i j:Nat) (d d':D) (a:Addr),i≠j->ρ[i]? = some (B.o d)->ρ[j]? = some (B.o d')->σ[i]? = some (some (V.ref a))->σ[j]? = some (some (V.ref a))->False
open Classical in
def plus (G H:Hp)(O:Addr->Prop):Hp:=λa=>if O a then H a else G a
open Classical in
def minus (G:Hp)(O:Addr->Prop):Hp:=λa=>if O a then none else G a
section
variable {K:W.Frag}{mg:WmP}{H0 G0 G G' H H' H1:Hp}{ρ:Pu.Env}{σ:L2.St}{O:Addr->Prop}
def z3k (g:Same G H):Same (plus G H O) H:=λa o e=>by
 unfold plus at e
 split at e
 .exact e
 .exact g a o e
def z2i (h:∀a,O a->G a=none):Same G (plus G H O):=λa o e=>by
 unfold plus
 grind
def zbv {a:Addr}(h:O a):plus G H O a=H a:=by unfold plus;rw[if_pos h]
def z2w:Same (minus G O) G:=λa o e=>by
 unfold minus at e
 grind
def z5a {a:Addr}(h:O a):minus G O a=none:=by unfold minus;rw[if_pos h]
def z7Z {a:Addr}(h:¬ O a):minus G O a=G a:=by unfold minus;rw[if_neg h]
def z2Y (g:Same G G')(h:∀a,O a->G a=none):Same G (minus G' O):=λa o e=>by
 by_cases z:O a
 .grind
 .rw[z7Z z];exact g a o e
theorem z4Q.same {a:Addr}{d:D}(h:z4Q K mg G H a d)(g:Same G G')(k:∀o,H a=some o->H1 a=some o):z4Q K mg G' H1 a d:=by
 cases d with
 | lst j=>
  obtain⟨i,e,f⟩:=h;exact⟨i,k _ e,f.same g⟩
 | dct l vs=>
  obtain⟨i,e,f⟩:=h;refine⟨i,e.same g,?_⟩
  rcases f with ⟨b,q,r⟩ | ⟨b,q,r⟩
  .exact .inl ⟨b,k _ q,r⟩
  .exact .inr ⟨b,k _ q,r⟩
 | _=>exact h.elim
theorem z4Q.some {a:Addr}{d:D}(h:z4Q K mg G H a d):∃o,H a=some o:=by
 cases d with
 | lst i=>obtain⟨g,e,f⟩:=h;exact⟨_,e⟩
 | dct j vs=>
  obtain⟨g,e,f⟩:=h
  rcases f with ⟨b,q,r⟩ | ⟨b,q,r⟩ <;> exact⟨_,q⟩
 | _=>exact h.elim
def z4Q.rd {a:Addr}{d:D}(h:z4Q K mg G H a d)(g:Same G G')(e:G' a=H a):RD K mg G' d (.ref a):=by
 cases d with
 | lst l=>
  obtain⟨j,f,i⟩:=h;exact⟨a,j,rfl,SqL.of (e.trans f),i.same g⟩
 | dct m vs=>
  obtain⟨j,f,i⟩:=h;refine⟨a,j,rfl,f.same g,?_⟩
  rcases i with ⟨b,q,r⟩ | ⟨b,q,r⟩
  .exact .inl ⟨b,.inl (e.trans q),r⟩
  .exact .inr ⟨b,e.trans q,r⟩
 | _=>exact h.elim
def OK1 (G:Hp)(O:Addr->Prop)(e d:Prop):Prop:=∀a,O a->G a=none\/((∃f,G a=some (.lst f))/\e)\/(((∃b,G a=some (.dK b))\/∃b,G a=some (.dT b))/\d)
def z1Q {a:Addr}{o u:HO}{e d:Prop}(f:OK1 G O e d)(h:G a=some o)(g:∀xs,o = .lst xs->¬ e)(i:∀k,o = .dK k->¬ d)(j:∀k,o = .dT k->¬ d):minus G O a=some o:=by
 by_cases z:O a
 .rcases f a z with q | ⟨⟨xs,q⟩,b⟩ | ⟨⟨k,q⟩ | ⟨k,q⟩,b⟩
  .grind
  .grind
  .grind
  grind
 .rw[z7Z z];exact h
mutual
theorem RD.minus {bL bD:Prop}(f:OK1 G O bL bD):∀(d:D) {v:V},(bL->noL d=true)->(bD->noD d=true)->RD K mg G d v->RD K mg (Pu.minus G O) d v
 | .non,_,_,_,h=>by simpa[RD] using h
 | .bl _,_,_,_,h=>by simpa[RD] using h
 | .int _,_,_,_,h=>by simpa[RD] using h
 | .str _,_,_,_,h=>by simpa[RD] using h
 | .fn _,_,_,_,h=>by rw[RD] at h ⊢;exact h
 | .exc _,_,_,_,h=>by
  rw[RD] at h ⊢;obtain⟨A,C,g,e,j⟩:=h;exact⟨A,C,g,z1Q (u :=.lst []) f e (λ_ z=>by cases z) (λ_ z=>by cases z) (λ_ z=>by cases z),j⟩
 | .ptr _,_,_,_,h=>by rw[RD] at h ⊢;exact h
 | .fz _ vs,_,m,l,h=>by
  rw[RD] at h ⊢;obtain⟨a,n,g,e,o,i,q,r⟩:=h;exact⟨a,n,g,RDs.minus f vs (λb=>by have:=m b;rw[noL] at this;cases this) (λb=>by have:=l b;rw[noD] at this;cases this) e,o,i,z1Q (u :=.lst []) f q (λ_ z=>by cases z) (λ_ z=>by cases z) (λ_ z=>by cases z),r⟩
 | .ins _ _ x,_,m,l,h=>by
  rw[RD] at h ⊢;obtain⟨p,C,y,n,g,e,j,w⟩:=h;exact⟨p,C,y,n,g,z1Q (u :=.lst []) f e (λ_ z=>by cases z) (λ_ z=>by cases z) (λ_ z=>by cases z),j,RDs.minus f x (λb=>by have:=m b;rw[noL] at this;cases this) (λb=>by have:=l b;rw[noD] at this;cases this) w⟩
 | .tup t,_,m,l,h=>by
  rw[RD] at h ⊢;obtain⟨a,n,g,e,j⟩:=h;refine⟨a,n,g,?_,RDs.minus f t (λb=>by have:=m b;rwa [noL] at this) (λb=>by have:=l b;rwa [noD] at this) j⟩
  rcases e with (e | ⟨o,e⟩) | e
  .exact .inl (.inl (z1Q (u :=.lst []) f e (λ_ z=>by cases z) (λ_ z=>by cases z) (λ_ z=>by cases z)))
  .exact .inl (.inr ⟨o,z1Q (u :=.lst []) f e (λ_ z=>by cases z) (λ_ z=>by cases z) (λ_ z=>by cases z)⟩)
  .exact .inr e
 | .lst t,_,m,l,h=>by
  rw[RD] at h ⊢;obtain⟨a,n,g,e,j⟩:=h;have s:¬ bL:=λb=>by have:=m b;rw[noL] at this;cases this
  refine⟨a,n,g,?_,RDs.minus f t (λb=>(s b).elim) (λb=>by have:=l b;rwa [noD] at this) j⟩
  rcases e with (e | ⟨o,e⟩) | e
  .exact .inl (.inl (z1Q (u :=.lst []) f e (λ_ _=>s) (λ_ z=>by cases z) (λ_ z=>by cases z)))
  .exact .inl (.inr ⟨o,z1Q (u :=.lst []) f e (λ_ z=>by cases z) (λ_ z=>by cases z) (λ_ z=>by cases z)⟩)
  .exact .inr e
 | .dct E vs,_,m,l,h=>by
  rw[RD] at h ⊢;obtain⟨a,n,g,j,w⟩:=h;have s:¬ bD:=λb=>by have:=l b;rw[noD] at this;cases this
  refine⟨a,n,g,RDs.minus f vs (λb=>by have:=m b;rwa [noL] at this) (λb=>(s b).elim) j,?_⟩
  rcases w with ⟨i,q,r⟩ | ⟨i,q,r⟩
  .exact .inl ⟨i,q.imp (λq=>z1Q (u :=.lst []) f q (λ_ z=>by cases z) (λ_ _=>s) (λ_ _=>s)) λ⟨o,q⟩=>⟨o,z1Q (u :=.lst []) f q (λ_ z=>by cases z) (λ_ z=>by cases z) (λ_ z=>by cases z)⟩,r⟩
  .exact .inr ⟨i,z1Q (u :=.lst []) f q (λ_ z=>by cases z) (λ_ _=>s) (λ_ _=>s),r⟩
theorem RDs.minus {f e:Prop}(g:OK1 G O f e):∀(a:List D) {xs:List V},(f->noLs a=true)->(e->noDs a=true)->RDs K mg G a xs->RDs K mg (Pu.minus G O) a xs
 | [],_,_,_,h=>by simpa[RDs] using h
 | d::a,_,j,i,h=>by
  rw[RDs] at h ⊢;obtain⟨x,r,l,m,n⟩:=h;exact⟨x,r,l,RD.minus g d (λb=>by have:=j b;rw[noLs,w5] at this;exact this.1) (λb=>by have:=i b;rw[noDs,w5] at this;exact this.1) m,
   RDs.minus g a (λb=>by have:=j b;rw[noLs,w5] at this;exact this.2) (λb=>by have:=i b;rw[noDs,w5] at this;exact this.2) n⟩
end
def z3t (b:Pu.Env)(e:L2.St)(a:Addr):Prop:=∃(j:Nat) (d:D),b[j]? = some (B.o d)/\e[j]? = some (some (V.ref a))
def AbS.free (h:AbS K mg H0 G0 G ρ σ H):∀a,z3t ρ σ a->G a=none:=by
 rintro a ⟨j,d,e,q⟩;obtain⟨b,g,f,_⟩:=h.ow j d e
 grind
def AbS.owned0 (h:AbS K mg H0 G0 G ρ σ H):∀a,z3t ρ σ a->H0 a=none:=by
 rintro a ⟨j,d,e,q⟩;obtain⟨b,i,g,f,_⟩:=h.ow j d e
 grind
def AbS.nw1 {b:Hp}(h:AbS K mg H0 G0 G ρ σ H)(g:Gr (plus G H (z3t ρ σ)) H b):∀a o,b a=some o->(∃u,G0 a=some u)\/H0 a=none:=λa o e=>by
 rcases g.2 a o e with ⟨u,q⟩ | q
 .by_cases z:z3t ρ σ a
  .exact .inr (h.owned0 a z)
  .unfold plus at q;rw[if_neg z] at q;exact h.nw a u q
 .refine .inr ?_
  cases z:H0 a with
  | none=>rfl
  | some w=>rw[h.s0 a w z] at q;cases q
def AbS.nw2 {b:Hp}(h:AbS K mg H0 G0 G ρ σ H)(g:Gr G H b):∀a o,b a=some o->(∃u,G0 a=some u)\/H0 a=none:=λa o e=>by
 rcases g.2 a o e with ⟨u,q⟩ | q
 .exact h.nw a u q
 .refine .inr ?_
  cases z:H0 a with
  | none=>rfl
  | some w=>rw[h.s0 a w z] at q;cases q
def AbS.abe (h:AbS K mg H0 G0 G ρ σ H):AbE K mg (plus G H (z3t ρ σ)) ρ σ:=λi d e=>by
 rw[Env.get_eq] at e
 cases q:ρ[i]? with
 | none=>simp_all
 | some b=>
  rw[q] at e
  cases b with
  | n=>cases e
  | s j=>
   cases e
   obtain⟨v,f,g⟩:=h.sh i d q;exact⟨v,f,g.same (z2i h.free)⟩
  | o j=>
   cases e
   obtain⟨a,f,g,m,l⟩:=h.ow i d q;exact⟨.ref a,f,l.rd (z2i h.free) (zbv ⟨i,d,q,f⟩)⟩
theorem AbS.vis (h:AbS K mg H0 G0 G ρ σ H):AbE K mg G (vis ρ) σ:=λi d e=>by
 rw[Env.get_eq] at e;unfold Pu.vis at e;rw[wO] at e
 cases q:ρ[i]? with
 | none=>simp_all
 | some b=>
  rw[q] at e
  cases b with
  | n=>cases e
  | s a=>
   cases e
   exact h.sh i d q
  | o a=>cases e
theorem Safe.get {d:D}:∀{a:Pu.Env}{j:Nat}{b:B},Safe d a->a[j]? = some b->zif d b
 | [],_,_,_,e=>by simp at e
 | c::r,0,b,h,e=>by simp at e;subst e;exact h.1
 | c::r,j+1,b,h,e=>Safe.get h.2 (by simpa using e)
def zfk {i:Hp}{d:D}{I:Nat->Prop}(h:AbS K mg H0 G0 G ρ σ H)(C:Same i H1)(g3:Same H H1):
  OK1 i (λa=>∃(j:Nat) (d:D),I j/\ρ[j]? = some (B.o d)/\σ[j]? = some (some (V.ref a))) (∃(j:Nat) (l:List D),I j/\ρ[j]? = some (B.o (.lst l))) (∃(j:Nat) (k v:List D),I j/\ρ[j]? = some (B.o (.dct k v))):=by
 rintro a ⟨j,p,m,e,q⟩;obtain⟨b,w,F,E,n⟩:=h.ow j p e;rw[q] at w;cases w
 cases A:i a with
 | none=>exact .inl rfl
 | some o=>
  have g:=C a o A
  cases p with
  | lst y=>
   obtain⟨x,s,t⟩:=n;rw[g3 a _ s] at g
   cases g
   exact .inr (.inl ⟨⟨x,rfl⟩,j,y,m,e⟩)
  | dct u vs=>
   obtain⟨x,s,t⟩:=n
   rcases t with ⟨f,z,r⟩ | ⟨f,z,r⟩
   .rw[g3 a _ z] at g
    cases g
    exact .inr (.inr ⟨.inl ⟨f,rfl⟩,j,u,vs,m,e⟩)
   .rw[g3 a _ z] at g
    cases g
    exact .inr (.inr ⟨.inr ⟨f,rfl⟩,j,u,vs,m,e⟩)
  | _=>exact n.elim
def z6m {b:Hp}{d:D}{v:V}{i:Nat}(h:AbS K mg H0 G0 G ρ σ H)(m:Same b H1)(g3:Same H H1)(g:Safe d (ρ.set i .n))(rd:RD K mg b d v):
  RD K mg (Pu.minus b (λa=>∃(j:Nat) (d:D),j≠i/\ρ[j]? = some (B.o d)/\σ[j]? = some (some (V.ref a)))) d v:=by
 refine RD.minus (zfk (d:=d) h m g3) d (λ⟨j,l,f,e⟩ =>?_) (λ⟨j,k,v,f,e⟩ =>?_) rd
 .exact Safe.get g (by rw[wB (vG f)];exact e)
 .exact Safe.get g (by rw[wB (vG f)];exact e)
def z8H {b:Hp}{d:D}{v:V}(h:AbS K mg H0 G0 G ρ σ H)(g:Same b H1)(g3:Same H H1)(f:Safe d ρ)(rd:RD K mg b d v):
  RD K mg (Pu.minus b (λa=>∃(j:Nat) (d:D),True/\ρ[j]? = some (B.o d)/\σ[j]? = some (some (V.ref a)))) d v:=by
 refine RD.minus (zfk (d:=d) h g g3) d (λ⟨j,l,i,e⟩ =>?_) (λ⟨j,k,v,i,e⟩ =>?_) rd
 .exact Safe.get f e
 .exact Safe.get f e
def AbS.put {l:Hp}{i:Nat}{d:D}{v:V}(h:AbS K mg H0 G0 G ρ σ H)(nw:∀a o,l a=some o->(∃u,G0 a=some u)\/H0 a=none)(n:Same G l)(z:Same l H1)(g3:Same H H1)(E:∀(j:Nat) (d':D) (a:Addr),j≠i->ρ[j]? = some (B.o d')->σ[j]? = some (some (V.ref a))->l a=none)(rd:RD K mg l d v):
  AbS K mg H0 G0 l (ρ.set i (.s d)) (σ.set i (some v)) H1 where
 len:=by simp[h.len]
 s0:=z03 h.s0 g3
 g0:=z03 h.g0 n
 g:=z
 nw:=nw
 sh:=λj e q=>by
  by_cases b:j=i
  .subst b;have f:j < ρ.length:=by
    have:=(wv.mp q).1;simpa using this
   rw[wK f] at q
   cases q
   exact⟨v,by rw[wK (by rw[h.len];exact f)],rd⟩
  .rw[wB (vG b)] at q;obtain⟨w,m,t⟩:=h.sh j e q;exact⟨w,by rw[wB (vG b)];exact m,t.same n⟩
 ow:=λj e q=>by
  by_cases b:j=i
  .subst b;have f:j < ρ.length:=by
    have:=(wv.mp q).1;simpa using this
   rw[wK f] at q
   cases q
  .rw[wB (vG b)] at q;obtain⟨a,m,t,A,C⟩:=h.ow j e q;exact⟨a,by rw[wB (vG b)];exact m,E j e a b q m,A,C.same n (g3 a)⟩
 ne:=λj k e y a p q r s x=>by
  have f:∀{j:Nat}{e:D},(ρ.set i (.s d))[j]? = some (B.o e)->j≠i:=λ{j e} q b=>by
   subst b;have f:j < ρ.length:=by
    have:=(wv.mp q).1;simpa using this
   rw[wK f] at q
   cases q
  have b:=f q;have F:=f r;rw[wB (vG b)] at q s;rw[wB (vG F)] at r x;exact h.ne j k e y a p q r s x
def AbS.own {l:Hp}{i:Nat}{d:D}{a:Addr}(h:AbS K mg H0 G0 G ρ σ H)(nw:∀a o,l a=some o->(∃u,G0 a=some u)\/H0 a=none)(A:Same G l)(O:Same l H1)(g3:Same H H1)(R:∀(j:Nat) (d':D) (a:Addr),j≠i->ρ[j]? = some (B.o d')->σ[j]? = some (some (V.ref a))->l a=none)(L:H a=none)(Q:l a=none)(T:z4Q K mg l H1 a d):
  AbS K mg H0 G0 l (ρ.set i (.o d)) (σ.set i (some (.ref a))) H1 where
 len:=by simp[h.len]
 s0:=z03 h.s0 g3
 g0:=z03 h.g0 A
 g:=O
 nw:=nw
 sh:=λj e q=>by
  by_cases f:j=i
  .subst f;have p:j < ρ.length:=by
    have:=(wv.mp q).1;simpa using this
   rw[wK p] at q
   cases q
  .rw[wB (vG f)] at q;obtain⟨w,m,C⟩:=h.sh j e q;exact⟨w,by rw[wB (vG f)];exact m,C.same A⟩
 ow:=λj e q=>by
  by_cases f:j=i
  .subst f;have p:j < ρ.length:=by
    have:=(wv.mp q).1;simpa using this
   rw[wK p] at q
   cases q
   refine⟨a,by rw[wK (by rw[h.len];exact p)],Q,?_,T⟩;exact z0M h.s0 L
  .rw[wB (vG f)] at q;obtain⟨b,m,C,J,E⟩:=h.ow j e q;exact⟨b,by rw[wB (vG f)];exact m,R j e b f q m,J,E.same A (g3 b)⟩
 ne:=λj k e N b r q F s I=>by
  have n:∀{j:Nat}{e:D},j≠i->(ρ.set i (.o d))[j]? = some (B.o e)->(σ.set i (some (.ref a)))[j]? = some (some (V.ref b))->ρ[j]? = some (B.o e)/\σ[j]? = some (some (V.ref b)):=λ{j e} f q s=>by
   rw[wB (vG f)] at q s;exact⟨q,s⟩
  have new:∀{j:Nat}{e:D},j=i->(ρ.set i (.o d))[j]? = some (B.o e)->(σ.set i (some (.ref a)))[j]? = some (some (V.ref b))->b=a:=λ{j e} f q s=>by
   subst f;have p:j < σ.length:=by
    have:=(wv.mp s).1;simpa using this
   rw[wK p] at s
   cases s;rfl
  have none:∀{j:Nat}{e:D},ρ[j]? = some (B.o e)->σ[j]? = some (some (V.ref b))->b≠a:=λ{j e} q s z=>by
   obtain⟨X,m,C,J,E⟩:=h.ow j e q;rw[s] at m;cases m;obtain⟨o,M⟩:=E.some;rw[z,L] at M;cases M
  by_cases f:j=i
  .have S:=new f q s;have t:k≠i:=λz=>r (f.trans z.symm);obtain⟨x,y⟩:=n t F I;exact none x y S
  .obtain⟨x,y⟩:=n f q s
   by_cases t:k=i
   .exact none x y (new t F I)
   .obtain⟨U,W⟩:=n t F I;exact h.ne j k e N b r x U y W
def AbS.wr {g:Hp}{i:Nat}{d d':D}{a:Addr}{o:HO}(h:AbS K mg H0 G0 G ρ σ H)(R:∀a o,g a=some o->(∃u,G0 a=some u)\/H0 a=none)(t:Same G g)(L:Same g H1)(g3:Same H H1)(A:∀(j:Nat) (d':D) (a:Addr),ρ[j]? = some (B.o d')->σ[j]? = some (some (V.ref a))->g a=none)(l:ρ[i]? = some (B.o d))(hs:σ[i]? = some (some (V.ref a)))
  (O:z4Q K mg g (upd H1 a o) a d'):AbS K mg H0 G0 g (ρ.set i (.o d')) σ (upd H1 a o):=by
 obtain⟨X,F,Y,m,Q⟩:=h.ow i d l;rw[hs] at F;cases F;have J:i < ρ.length:=(wv.mp l).1;refine⟨by simp[h.len],λb u e =>?_,z03 h.g0 t,λb u e =>?_,R,λj e q =>?_,λj e q =>?_,λj k e E b C q S s W =>?_⟩
 .have p:b≠a:=λz=>by rw[z,m] at e;cases e
  rw[z05 p];exact g3 b u (h.s0 b u e)
 .have p:b≠a:=λz=>by rw[z,A i d a l hs] at e;cases e
  rw[z05 p];exact L b u e
 .by_cases f:j=i
  .subst f;rw[wK J] at q;cases q
  .rw[wB (vG f)] at q;obtain⟨w,n,I⟩:=h.sh j e q;exact⟨w,n,I.same t⟩
 .by_cases f:j=i
  .subst f;rw[wK J] at q;cases q;exact⟨a,hs,A j d a l hs,m,O⟩
  .rw[wB (vG f)] at q;obtain⟨b,n,I,M,N⟩:=h.ow j e q;have p:b≠a:=λz=>by subst z;exact h.ne j i e d b f q l n hs
   exact⟨b,n,A j e b q n,M,N.same t (λu e=>by rw[z05 p];exact g3 b u e)⟩
 .have r:∀{j:Nat}{e:D},(ρ.set i (.o d'))[j]? = some (B.o e)->∃E,ρ[j]? = some (B.o E):=λ{j e} q=>by
   by_cases f:j=i
   .subst f;exact⟨d,l⟩
   .rw[wB (vG f)] at q;exact⟨e,q⟩
  obtain⟨x,T⟩:=r q;obtain⟨y,U⟩:=r S;exact h.ne j k x y b C T U s W
def AbS.dem1 (h:AbS K mg H0 G0 G ρ σ H)(j:Nat):∃G',AbS K mg H0 G0 G' (ρ.set j (demB ((ρ[j]?).getD .n))) σ H/\Same G G':=by
 cases q:ρ[j]? with
 | none=>
  have:ρ.set j (demB ((none:Option B).getD .n))=ρ:=by
   apply List.set_eq_of_length_le;exact List.getElem?_eq_none_iff.mp q
  rw[this];exact⟨G,h,Same.refl'⟩
 | some b=>
  have t:j < ρ.length:=(wv.mp q).1;have same:∀m,b=m->demB m=m->∃G',AbS K mg H0 G0 G' (ρ.set j (demB ((some b).getD .n))) σ H/\Same G G':=λm e u=>by
   subst e;have:ρ.set j (demB ((some b).getD .n))=ρ:=by
    show ρ.set j (demB b)=ρ;rw[u];apply jH;intro k
    by_cases f:k=j
    .subst f;rw[wK t,q]
    .rw[wB (vG f)]
   rw[this];exact⟨G,h,Same.refl'⟩
  cases b with
  | n=>exact same .n rfl rfl
  | s d=>exact same (.s d) rfl rfl
  | o d=>
   obtain⟨a,E,F,x,L⟩:=h.ow j d q;show ∃G',AbS K mg H0 G0 G' (ρ.set j (.s d)) σ H/\Same G G';have lp:Same G (plus G H (· = a)):=z2i (λb z=>by rw[z];exact F);refine⟨plus G H (· = a),⟨by simp[h.len],h.s0,z03 h.g0 lp,z3k h.g,λb o e=>(by
     by_cases r:b=a
     .exact .inr (by rw[r];exact x)
     .unfold plus at e;rw[if_neg r] at e;exact h.nw b o e),λk e z =>?_,λk e z =>?_,λk l e u b C z N s M =>?_⟩,lp⟩
   .by_cases f:k=j
    .subst f;rw[wK t] at z;cases z;exact⟨.ref a,E,L.rd lp (zbv rfl)⟩
    .rw[wB (vG f)] at z;obtain⟨w,p,A⟩:=h.sh k e z;exact⟨w,p,A.same lp⟩
   .by_cases f:k=j
    .subst f;rw[wK t] at z;cases z
    .rw[wB (vG f)] at z;obtain⟨b,p,A,I,J⟩:=h.ow k e z;have r:b≠a:=λy=>by subst y;exact h.ne k j e d b f z q p E
     refine⟨b,p,?_,I,J.same lp (λ_ e=>e)⟩;unfold plus;rw[if_neg r];exact A
   .have i:∀{k:Nat}{e:D},(ρ.set j (.s d))[k]? = some (B.o e)->ρ[k]? = some (B.o e):=λ{k e} z=>by
     by_cases f:k=j
     .subst f;rw[wK t] at z;cases z
     .rw[wB (vG f)] at z;exact z
    exact h.ne k l e u b C (i z) (i N) s M
theorem AbS.dem (b:List Nat):∀{G:Hp}{a:Pu.Env},AbS K mg H0 G0 G a σ H->∃G',AbS K mg H0 G0 G' (dem b a) σ H/\Same G G':=by
 induction b with
 | nil=>intro G a h;exact⟨G,h,Same.refl'⟩
 | cons j b l=>
  intro G a h;obtain⟨m,g,e⟩:=h.dem1 j;obtain⟨d,i,f⟩:=l g;exact⟨d,i,z03 e f⟩
end
def Kn (K:W.Frag)(mg:WmP)(g f G:Hp)(h:Pu.Env->Prop)(N:L2.St->Hp->Prop):Prop:=∀a b e d,h a->AbS K mg g f d a b e->Same G d->N b e
def Kr (K:W.Frag)(mg:WmP)(e f:Hp)(g:DK)(R:VK):Prop:=∀d v a b,g d->Gr f e a->Same a b->Same e b->RD K mg a d v->R v b
def ts (K:W.Frag)(mg:WmP)(E:XK)(t:Sm):TS:=λD h H=>∃a b G g d e f,AbS K mg a b G g h H/\t.run g d e f/\Kn K mg a b G d D.nx/\Kr K mg a b e D.rt/\Kx mg a f E
def Kn.same {K:W.Frag}{mg:WmP}{j f G i:Hp}{l:Pu.Env->Prop}{N:L2.St->Hp->Prop}(h:Kn K mg j f G l N)(g:Same G i):Kn K mg j f i l N:=λd e n m a b c=>h d e n m a b (z03 g c)
abbrev QZ (X:Cx)(E:XK)(st:Stmt)(t:Sm):Prop:=QS X st (ts X.K X.mg E t)
abbrev QZs (X:Cx)(E:XK)(st:List Stmt)(t:Sm):Prop:=QSs X st (ts X.K X.mg E t)
section
variable {X:Cx}{E:XK}{st:Stmt}{rest body la lb:List Stmt}{t u:Sm}{e a b c:Expr}{x y z:Ex}{pos:Pos}
def ziH:QZs X E [] .skip:=QSs.imp zgo <| by rintro D f H ⟨h,g,G,e,i,j,l,a,d,b,m,n⟩;exact b e f H G d a Same.refl'
def zfc (h:QZ X E st t):QZs X E [st] t:=zgn h
def zbl (h:QZ X E st t)(p:QZs X E rest u):QZs X E (st::rest) (.seq t u):=QSs.imp (zdE h p) λD z H ⟨i,f,G,w,j,b,d,o,s,r,l,m⟩=>
 ⟨i,f,G,w,λa=>u.run a j b d,b,d,o,s,λa x y n q e g=>⟨i,f,n,a,j,b,d,e,q,r.same g,l,m⟩,l,m⟩
def zd4 {K:W.Frag}{mg:WmP}{h i G H:Hp}{a:Pu.Env}{f:L2.St}{b:DK}{d:XP}{Q:VK}(e:AbS K mg h i G a f H)(l:x.run a b d)(m:Kx mg h d E)(j:Kt K mg (plus G H (z3t a f)) H b Q):tx K mg E x f H Q:=
 ⟨plus G H _,a,b,d,z3k e.g,e.abe,l,j,m.same e.s0⟩
def AbS.back {K:W.Frag}{mg:WmP}{p n G h H m:Hp}{f:Pu.Env}{g:L2.St}(b:AbS K mg p n G f g H)(q:Gr (plus G H (z3t f g)) H h)(t:Same h m)(g3:Same H m):AbS K mg p n (minus h (z3t f g)) f g m/\Same G (minus h (z3t f g)):=by
 have s:=b.free;have l  := z2Y (z03 (z2i s) q.1) s;exact⟨⟨b.len,z03 b.s0 g3,z03 b.g0 l,z03 z2w t,λa o e=>b.nw1 q a o (z2w a o e),λi d e=>by
   obtain⟨v,j,r⟩:=b.sh i d e;exact⟨v,j,r.same l⟩,λi d e=>by
   obtain⟨a,j,r,u,w⟩:=b.ow i d e;exact⟨a,j,z5a ⟨i,d,e,j⟩,u,w.same l (g3 a)⟩,b.ne⟩,l⟩
def zhP {K:W.Frag}{mg:WmP}{i m G H:Hp}{h:Pu.Env}{l:L2.St}{A B:Prop}{n:XP}{Q:Bool->Hp->Prop}(j:AbS K mg i m G h l H)(w:x.run h (λd=>tst d A B) n)(y:Kx mg i n E)
  (t:A->∀e a,AbS K mg i m a h l e->Same G a->Q true e) (u:B->∀e a,AbS K mg i m a h l e->Same G a->Q false e):tt K mg E x l H Q:=by
 refine⟨plus G H _,h,_,n,z3k j.g,j.abe,w,λd F o q r s g3 =>?_,y.same j.s0⟩;obtain⟨b,rfl,z,C⟩:=z7t q;refine⟨b,rfl,?_⟩;obtain⟨f,p⟩:=j.back r s g3
 cases b with
 | true=>exact t (z rfl) o _ f p
 | false=>exact u (C rfl) o _ f p
def zlz (w:QXT X E c z)(r:QZs X E la t)(s:QZs X E lb u):QZ X E (.If c la lb pos) (.ifs z t u):=QS.imp (zlJ w r s) <| by
 rintro D y H ⟨f,e,G,n,h,i,j,p,x,m,l,d⟩;refine zhP p x d (λq o b a g =>?_) (λq o b a g =>?_)
 .exact iteT ⟨f,e,b,n,h,i,j,a,q,m.same g,l,d⟩
 .exact iteF ⟨f,e,b,n,h,i,j,a,q,m.same g,l,d⟩
def ziD (j:QX X E e x):QZ X E (.Return (some e) pos) (.ret x):=QS.imp (zj2 j) λD w H ⟨o,n,G,u,p,r,s,a,l,t,i,m⟩=>
 zd4 a l m λd v f g q b h g3 rd=>i d v f g q ⟨z03 a.g0 (z03 (z2i a.free) b.1),a.nw1 b⟩ h (z03 a.s0 g3) rd
def z5g (i:Nat)(b:Pu.Env)(e:L2.St)(a:Addr):Prop:=∃(j:Nat) (d:D),j≠i/\b[j]? = some (B.o d)/\e[j]? = some (some (V.ref a))
def zfd {i:Nat}{m:Expr}(h:QS X (.Assign [m] e pos) (tAsg (tx X.K X.mg E x) (z2N i))):QZ X E (.Assign [m] e pos) (.set i x):=QS.imp h λD F H ⟨L,I,G,C,M,N,O,b,z,y,Q,A⟩=>
 zd4 b z A λd v J n q f g g3 rd=>by
  have u:∀a,z5g i C F a->G a=none:=λa ⟨j,d,_,r,t⟩=>b.free a ⟨j,d,r,t⟩;have l  := z2Y (z03 (z2i b.free) f.1) u;exact y _ _ n _ q.2 (b.put (λa o e=>b.nw1 f a o (z2w a o e)) l (z03 z2w g) g3 (λj p a w e s=>z5a ⟨j,p,w,e,s⟩) (z6m b g g3 q.1 rd)) l
def zgf {i:Nat}{p:Expr}{n:List Nat}(h:QS X (.Assign [p] e pos) (tAsg (tx X.K X.mg E x) (z2N i))):QZ X E (.Assign [p] e pos) (.setx n i x):=QS.imp h <| by
 rintro D σ H ⟨R,Q,G,ρ,S,T,A,m,M,L,Y,O⟩;obtain⟨r,f,I⟩:=m.dem n;refine⟨r,vis _,_,A,f.g,f.vis,M,λd v t y q l J g3 rd =>?_,O.same m.s0⟩;exact L _ _ y _ q (f.put (f.nw2 l) l.1 J g3 (λj C a Z e s=>by
  obtain⟨b,F,U,W,N⟩:=f.ow j C e;rw[s] at F;cases z:t a with
  | none=>rfl
  | some o=>
   obtain⟨u,hu⟩:=N.some
   rcases l.2 a o z with ⟨w,q⟩ | q
   .grind
   grind) rd) (z03 I l.1)
def Kf (K:W.Frag)(mg:WmP)(G H:Hp)(f:DK)(Q:VK):Prop:=∀d a b e,f d->Gr G H b->Same b e->Same H e->H a=none->b a=none->z4Q K mg b e a d->Q (.ref a) e
def tf (K:W.Frag)(mg:WmP)(E:XK)(e:Ex):TE:=λf H Q=>∃G d a b,Same G H/\AbE K mg G d f/\e.run d a b/\Kf K mg G H a Q/\Kx mg H b E
abbrev QF (X:Cx)(E:XK)(e:Expr)(x:Ex):Prop:=QE X e (tf X.K X.mg E x)
def Kt.kf {K:W.Frag}{mg:WmP}{G H:Hp}{g:DK}{Q:VK}(h:Kt K mg G H g Q):Kf K mg G H g Q:=λd a s m q i n g3 r p l=>by
 obtain⟨o,j⟩:=l.some;have lp  := z0f p o;refine h d _ _ m q ⟨z03 i.1 lp,λb u e =>?_⟩ (λb u e =>?_) g3 (l.rd lp (by rw[z06];exact j.symm))
 .by_cases f:b=a
  .subst f;exact .inr r
  .rw[z05 f] at e;exact i.2 b u e
 .by_cases f:b=a
  .subst f;rw[z06] at e;rw[j];exact e
  .rw[z05 f] at e;exact n b u e
def QF.qx (h:QF X E e x):QX X E e x:=QE.imp h λl H Q ⟨G,j,a,b,hs,d,g,f,i⟩=>⟨G,j,a,b,hs,d,g,f.kf,i⟩
def ziG {i:Nat}{J:Expr}(h:QS X (.Assign [J] e pos) (tAsg (tf X.K X.mg E x) (z2N i))):QZ X E (.Assign [J] e pos) (.own i x):=QS.imp h <| by
 rintro D t H ⟨H0,G0,G,p,N0,R0,M,b,U,T,hR,W⟩;refine⟨plus G H (z3t p t),p,_,M,z3k b.g,b.abe,U,λd a u L q A C g3 Q ga F =>?_,W.same b.s0⟩;have R:∀a,z5g i p t a->G a=none:=λa ⟨j,d,_,f,m⟩=>b.free a ⟨j,d,f,m⟩;have I  := z2Y (z03 (z2i b.free) A.1) R;have z01:∀(l:List Pu.D) (xs:List V),(∀x∈l,Safe x (p.set i .n))->RDs X.K X.mg u l xs->RDs X.K X.mg (minus u (z5g i p t)) l xs:=by
  intro l
  induction l with
  | nil=>intro xs _ h;exact h
  | cons y l Z=>
   intro xs hs h;obtain⟨v,r,f,m,O⟩:=h;exact⟨v,r,f,z6m b C g3 (hs y ww) m,Z r (λz Y=>hs z (wp _ Y)) O⟩
 have na:minus u (z5g i p t) a=none:=by
  unfold minus
  simp_all
 refine T _ _ L _ q.2 (b.own (λa o e=>b.nw1 A a o (z2w a o e)) I (z03 z2w C) g3 (λj N a S e s=>z5a ⟨j,N,S,e,s⟩) Q na ?_) I;have w:=q.1
 cases d with
 | lst l=>
  obtain⟨xs,f,m⟩:=F;exact⟨xs,f,z01 l xs w m⟩
 | dct ks vs=>
  obtain⟨xs,f,m⟩:=F;exact⟨xs,z01 vs xs w f,m⟩
 | _=>exact w.elim
end
section
variable {X:Cx}{E:XK}{st:Stmt}{rest body la lb:List Stmt}{t u:Sm}{e a b c tg iter:Expr}{x y z:Ex}{pos:Pos}
def z9F {o:Option (List D)}{Q:List D->Prop}(h:onL o Q):∃l,o=some l/\Q l:=by
 cases o with
 | none=>exact h.elim
 | some l=>exact⟨l,rfl,h⟩
def zdx (R:PassesOwn (model X.prog X.w) X.A X.env X.xe)(O:QXT X E c z)(N:QZs X E body t):QZ X E (.While c body [] pos) (.wh z t):=QS.imp (zdF R O N) <| by
 rintro D Y H ⟨o,j,G,T,p,h,i,J,⟨n,S⟩,Q,M,I⟩;refine⟨λm b f=>∃d a,AbS X.K _ o j d a b f/\Same G d/\wh z t p h i m a,⟨n,G,T,J,Same.refl',S⟩,?_⟩;rintro m x W ⟨U,g,s,C,F⟩
 cases m with
 | zero=>exact F.elim
 | succ m=>
  refine zhP s F I (λq y l e u =>?_) (λq y l e u =>?_)
  .refine iteT ⟨λb f=>∃d a,AbS X.K _ o j d a b f/\Same G d/\wh z t p h i m a,λb f w=>⟨m,uG _,w⟩,?_⟩;exact⟨o,j,l,g,wh z t p h i m,h,i,e,q,λa b f d w r L=>⟨d,a,r,z03 C (z03 u L),w⟩,M,I⟩
  .exact iteF (Q g x y l q e (z03 C u))
def Walk (K:W.Frag)(mg:WmP)(G:Hp)(l:List D)(J:It):Prop:=∀(i:Nat) (a H:Hp),Same G a->Same a H->
 (∀d,l[i]? = some d->J.go i H/\∀v e,J.yld i H v e->Same H e/\∃b,Gr a H b/\Same b e/\RD K mg b d v)/\(l.length<=i->J.stop i H)
def ti (K:W.Frag)(mg:WmP)(E:XK)(e:Ex):TI:=λi H R=>∃G h f g,Same G H/\AbE K mg G h i/\e.run h f g/\(∀d,f d->∃l,z01 d=some l)/\(∀d a b,f d->Gr G H a->Same a b->Same H b->∀l J,z01 d=some l->Walk K mg a l J->R J b)/\Kx mg H g E
abbrev QXI (X:Cx)(E:XK)(tg e:Expr)(x:Ex):Prop:=QI X tg e (ti X.K X.mg E x)
def tgt (K:W.Frag):Tg->TG
 | .nm i=>z2N i
 | .tp is=>gTup K is.length (is.foldr (λi r=>zew (z2N i) r) gNil)
theorem z5M {K:W.Frag}:∀(is:List Nat) (vs:List V) (a:L2.St) (H:Hp) (Q:L2.St->Hp->Prop),is.length=vs.length->Q ((is.zip vs).foldl (λa p=>a.set p.1 (some p.2)) a) H->(is.foldr (λi r=>zew (z2N i) r) gNil) vs a H Q
 | [],[],_,_,_,_,q=>⟨rfl,q⟩
 | [],_::_,_,_,_,h,_=>by simp at h
 | _::_,[],_,_,_,h,_=>by simp at h
 | i::is,v::vs,a,H,Q,h,q=>⟨v,vs,rfl,z5M (K:=K) is vs _ H Q (by simpa using h) q⟩
theorem AbS.putAll {K:W.Frag}{mg:WmP}{q o H:Hp}:∀(is:List Nat) (l:List D) (vs:List V) {G:Hp}{m:Pu.Env}{f:L2.St},is.length=l.length->RDs K mg G l vs->AbS K mg q o G m f H->
  AbS K mg q o G (z0c is l m) ((is.zip vs).foldl (λf p=>f.set p.1 (some p.2)) f) H
 | [],[],vs,G,m,f,_,h,b=>by exact b
 | [],_::_,_,_,_,_,h,_,_=>by simp at h
 | _::_,[],_,_,_,_,h,_,_=>by simp at h
 | i::is,d::l,vs,G,m,f,h,r,b=>by
  obtain⟨v,n,rfl,u,w⟩:=r;exact AbS.putAll is l n (by simpa using h) w (b.put b.nw Same.refl' b.g Same.refl' (λj t a x e s=>b.free a ⟨j,t,e,s⟩) u)
def zfR {K:W.Frag}{mg:WmP}{t r G H:Hp}{x:Pu.Env}{q:L2.St}{o:Tg}{d:D}{v:V}{u:Pu.Env->Prop}{N:L2.St->Hp->Prop}(b:AbS K mg t r G x q H)(rd:RD K mg G d v)(f:o.put d x u)(w:∀h l,u h->AbS K mg t r G h l H->N l H):tgt K o v q H N:=by
 cases o with
 | nm i=>exact w _ _ f (b.put b.nw Same.refl' b.g Same.refl' (λj y a C e s=>b.free a ⟨j,y,e,s⟩) rd)
 | tp is=>
  cases d with
  | tup z=>
   obtain⟨n,f⟩:=f;obtain⟨a,p,rfl,A,m⟩:=rd;exact⟨a,p,rfl,z0u b.g A,by rw[m.len,n],z5M (K:=K) is p q H N (by rw[m.len,n]) (w _ _ f (b.putAll is z p n m))⟩
  | _=>exact f.elim
def AbS.over {K:W.Frag}{mg:WmP}{n m G h H j:Hp}{t:Pu.Env}{x:L2.St}(b:AbS K mg n m G t x H)(f:Gr G H h)(A:Same h j)(s:Same H j):AbS K mg n m h t x j where
 len:=b.len
 s0:=z03 b.s0 s
 g0:=z03 b.g0 f.1
 g:=A
 nw:=b.nw2 f
 sh:=λi d e=>by
  obtain⟨v,l,p⟩:=b.sh i d e;exact⟨v,l,p.same f.1⟩
 ow:=λi d e=>by
  obtain⟨a,l,p,y,r⟩:=b.ow i d e;refine⟨a,l,?_,y,r.same f.1 (s a)⟩
  cases z:h a with
  | none=>rfl
  | some o=>
   obtain⟨u,C⟩:=r.some
   rcases f.2 a o z with ⟨w,q⟩ | q
   .grind
   grind
 ne:=b.ne
def z5O {K:W.Frag}{mg:WmP}{h o G H:Hp}{R:Pu.Env}{f:L2.St}{l:List D}{J:It}{F:Tg}{A:Pu.Env->Prop}{r:DK}{s:XP}{p:Ends}(ab:AbS K mg h o G R f H)(hw:Walk K mg G l J)(hr:forL F t A r s l R)
  (hn:Kn K mg h o G A p.nx) (hR:Kr K mg h o r p.rt) (hx:Kx mg h s E):
  ∃W:Nat->Nat->L2.St->Hp->Prop,(∃m,W 0 m f H)/\∀i m f H,W i m f H->
   (J.stop i H/\p.nx f H)\/(J.go i H/\∃N:L2.St->Hp->Prop,(∀a b,N a b->∃m',m'<m/\W (i+1) m' a b)/\∀x b,J.yld i H x b->tgt K F x f b λX I=>ts K mg E t { p with nx:=N,ct:=N,bk:=p.nx } X I):=by
 refine⟨λi m f H=>m=l.length - i/\i<=l.length/\∃q d,AbS K mg h o q d f H/\Same G q/\forL F t A r s (l.drop i) d,⟨l.length,by simp,vn _,G,R,ab,Same.refl',by simpa using hr⟩,?_⟩;rintro i m U Y ⟨rfl,hi,q,d,j,Q,C⟩;obtain⟨w1,w2⟩:=hw i q Y Q j.g
 by_cases n:i<l.length
 .have e:l[i]? = some l[i]:=by simp[n]
  obtain⟨go,yl⟩:=w1 _ e;rw[uZ n] at C;refine .inr ⟨go,λa b=>∃z u,AbS K mg h o z u a b/\Same G z/\forL F t A r s _ u,λa b w=>⟨l.length - (i+1),by omega,rfl,n,w⟩,λv I y =>?_⟩;obtain⟨s2,z,Z,k2,rd⟩:=yl v I y;have M:=j.over Z k2 s2;refine zfR M rd C λT a0 hb O =>?_;exact⟨h,o,z,T,_,r,s,O,hb,λS a b G' w L g'=>⟨G',S,L,z03 Q (z03 Z.1 g'),w⟩,hR,hx⟩
 .have e:i=l.length:=by omega
  subst e;rw[List.drop_length] at C;exact .inl ⟨w2 (wq _),hn d U Y q C j Q⟩
def ziI {h:List Nat}{g:Tg}(I:PassesOwn (model X.prog X.w) X.A X.env X.xe)(u:X.calm=true)(C:QXI X E tg iter x)(y:QG X tg (tgt X.K g))(s:QZs X E body t)(hs:autoParam (∀x,foldedSetIterable iter X.env x=pure x) jC1):
  QZ X E (.For tg iter body [] pos) (.for_ h g x t):=QS.imp (zff I u C y s hs) <| by
 rintro D W H ⟨Q,N,G,U,S,T,m,b,L,F,r,f⟩;obtain⟨j,a,o⟩:=b.dem h;refine⟨j,vis _,_,m,a.g,a.vis,L,λd q=>(z9F q).imp λ_ z=>z.1,λd O R q e p g3 l J n M =>?_,f.same b.s0⟩;have i  := q;rw[n] at i;exact z5O (a.over e p g3) M i (F.same (z03 o e.1)) r f
def z3u {K:W.Frag}{mg:WmP}{G:Hp}{b:Int}{n:Nat}:Walk K mg G ((List.range n).map λ(k:Nat)=>D.int (b+(k:Int))) (Itr b n):=λi f H m j=>by
 refine⟨λd e =>?_,λa=>(show n<=i by simpa using a)⟩;obtain⟨h,g⟩:=wv.mp e;have a  := by simpa using h
 refine⟨a,λv l y =>?_⟩;obtain⟨rfl,rfl⟩:=y;refine⟨Same.refl',f,Gr.refl,j,?_⟩;rw[<- g];simp[List.getElem_map,List.getElem_range];rw[RD]
def z4U:Fn:=⟨λa Q _=>onR a λl=>Q (.lst l),λa Q b X d m _ q=>z9E (λ_ q=>m _ q) q⟩
def z0z {K:W.Frag}{mg:WmP}{G:Hp}{i:Int}{v:V}(h:RD K mg G (.int i) v):v = .int i:=by exact h
def rds1 {K:W.Frag}{mg:WmP}{G:Hp}{d:D}{vs:List V}(h:RDs K mg G [d] vs):∃v,vs=[v]/\RD K mg G d v:=by
 obtain⟨x,r,rfl,a,b⟩:=h;subst b;exact⟨x,rfl,a⟩
def rds2 {K:W.Frag}{mg:WmP}{G:Hp}{d e:D}{vs:List V}(h:RDs K mg G [d,e] vs):∃v w,vs=[v,w]/\RD K mg G d v/\RD K mg G e w:=by
 obtain⟨x,r,rfl,a,b⟩:=h;obtain⟨y,rfl,f⟩:=rds1 b;exact⟨x,y,rfl,a,f⟩
def z9D {K:W.Frag}{mg:WmP}{G:Hp}{b:List D}{vs:List V}{a:List D->Prop}(rds:RDs K mg G b vs)(h:onR b a):
  (∃j:Int,vs=[.int j] /\ -(2 ^ 62)<=j/\j<2 ^ 62/\a ((List.range j.toNat).map λ(k:Nat)=>D.int (0+(k:Int))))\/∃i j:Int,vs=[.int i,.int j]/\(-(2 ^ 62)<=i/\i<2 ^ 62 /\ -(2 ^ 62)<=j/\j<2 ^ 62)/\a ((List.range (j - i).toNat).map λ(k:Nat)=>D.int (i+(k:Int))):=by
 unfold onR at h
 split at h
 .obtain⟨v,rfl,r1⟩:=rds1 rds;refine .inl ⟨_,by rw[z0z r1],h.1.1,h.1.2,?_⟩;simpa using h.2
 .obtain⟨v,w,rfl,r1,r2⟩:=rds2 rds;exact .inr ⟨_,_,by rw[z0z r1,z0z r2],⟨h.1.1.1,h.1.1.2,h.1.2.1,h.1.2.2⟩,h.2⟩
 .exact h.elim
def zd7 {K:W.Frag}{mg:WmP}{es:List Ex}{r:L2.St}{H:Hp}{R:It->Hp->Prop}(h:ti K mg E (.op z4U es) r H R):txa K mg E es r H λvs H1=>(∃j:Int,vs=[.int j] /\ -(2 ^ 62)<=j/\j<2 ^ 62/\R (Itr 0 j.toNat) H1)\/∃i j:Int,vs=[.int i,.int j]/\(-(2 ^ 62)<=i/\i<2 ^ 62 /\ -(2 ^ 62)<=j/\j<2 ^ 62)/\R (Itr i (j - i).toNat) H1:=by
 obtain⟨G,x,g,m,hs,s,u,_,p,w⟩:=h;refine⟨G,x,λa=>z4U.run a g m,m,hs,s,u,λa vs f H1 q n o g3 rds =>?_,w⟩
 rcases z9D rds (show onR a (λl=>g _) from q) with ⟨j,e,b,t,d⟩ | ⟨i,j,e,b,d⟩
 .exact .inl ⟨j,e,b,t,p _ f H1 d n o g3 _ _ rfl z3u⟩
 .exact .inr ⟨i,j,e,b,p _ f H1 d n o g3 _ _ rfl z3u⟩
def zaW {K:W.Frag}{mg:WmP}{es:List Ex}{n:Nat}{g:L2.St}{H:Hp}{Q Q':List V->Hp->Prop}(s:es.length=n)(m:∀vs a,vs.length=n->Q vs a->Q' vs a)(h:txa K mg E es g H Q):txa K mg E es g H Q':=by
 obtain⟨G,f,j,X0,hs,l,t,r,u⟩:=h;have len:∀(es:List Ex) (Q:List D->Prop),runs es f Q X0->runs es f (λb=>b.length=es.length/\Q b) X0:=by
  intro es
  induction es with
  | nil=>intro Q h;exact⟨rfl,h⟩
  | cons e es w=>
   intro Q h;exact e.mono f _ _ X0 X0 (λd q=>z3h es f _ _ X0 X0 (λb q=>⟨by simp[q.1],q.2⟩) (λ_ z=>z) (w _ q)) (λ_ z=>z) h
 exact⟨G,f,_,X0,hs,l,len es j t,λb vs i a q o p g3 rds=>m vs a (by rw[rds.len,q.1,s]) (r b vs i a q.2 o p g3 rds),u⟩
def zap {p:Pos}(d:Gl X "range")(f:X.mg "range"=none)(b:QXA X E [a] [x])(hs:autoParam (starEach [a] X.env=[(false,eval a X.env)]) jA1):QXI X E tg (.Call (.Name "range" p) [a] [] pos) (.op z4U [x]):=QI.imp (z7K d f b hs) λm H R h=>
 zaW rfl (λvs g l q=>by
  rcases q with q | ⟨i,j,e,_⟩
  .exact q
  simp_all) (zd7 h)
def zgd {g:Tg}{es:List Ex}{y:TI}(N:PassesOwn (model X.prog X.w) X.A X.env X.xe)(L:X.calm=true)(M:QG X tg (tgt X.K g))(J:QZs X E body t)
  (m:∀d H R,(txa X.K X.mg E es d H λvs f=>(∃j:Int,vs=[.int j] /\ -(2 ^ 62)<=j/\j<2 ^ 62/\R (Itr 0 j.toNat) f)\/∃i j:Int,vs=[.int i,.int j]/\(-(2 ^ 62)<=i/\i<2 ^ 62 /\ -(2 ^ 62)<=j/\j<2 ^ 62)/\R (Itr i (j - i).toNat) f)->y d H R) (l:QI X tg iter y)
  (hs:autoParam (∀x,foldedSetIterable iter X.env x=pure x) jC1):
  QZ X E (.For tg iter body [] pos) (.forr es g t):=QS.imp (zff N L l M J hs) <| by
 rintro S d H ⟨W,T,G,Q,Y,Z,z,b,O,s,r,n⟩;refine m d H _ ⟨plus G H _,Q,λp=>onR p _,z,z3k b.g,b.abe,O,λp vs U f q C F g3 rds =>?_,n.same b.s0⟩;obtain⟨a,u⟩:=b.back C F g3
 rcases z9D rds q with ⟨j,e,h,I,o⟩ | ⟨i,j,e,h,o⟩
 .exact .inl ⟨j,e,h,I,z5O a z3u o (s.same u) r n⟩
 .exact .inr ⟨i,j,e,h,z5O a z3u o (s.same u) r n⟩
def zdz {g:Tg}{p b:Pos}(s:PassesOwn (model X.prog X.w) X.A X.env X.xe)(n:X.calm=true)(d:Gl X "range")(r:X.mg "range"=none)(l:QXA X E [a] [x])(o:QG X tg (tgt X.K g))(m:QZs X E body t)(f:autoParam (starEach [a] X.env=[(false,eval a X.env)]) jA1)
  (hs:autoParam (∀x,foldedSetIterable (.Call (.Name "range" p) [a] [] b) X.env x=pure x) jC1):QZ X E (.For tg (.Call (.Name "range" p) [a] [] b) body [] pos) (.forr [x] g t):=
 zgd s n o m (λz H R h=>zaW rfl (λvs u y q=>by
  rcases q with q | ⟨i,j,e,_⟩
  .exact q
  simp_all) h) (z7K d r l f) hs
def iAny (K:W.Frag)(tl:TE):TI:=λe H R=>tl e H λx b=>(∃a,x = .ref a/\(∃d,SqL K b a d)/\R (Itl K a) b)\/(∃a,x = .ref a/\(∃d,SqT K b a d)/\R (Itt K a) b)\/∃y,x = .str y/\R (Its y) b
def zj5 {l:Expr}{tl:TE}(G:QE X l tl):QI X tg l (iAny X.K tl):=by
 constructor
 intro g s S H R I h;refine thn (G.p g s S H _ I h) λv d O =>?_;obtain⟨x,j,f,r1,L⟩:=O;have n:∀b∈[d.heap.objs.size],FpOk X g j b:=λb F=>by
  have e:b=d.heap.objs.size:=by simpa using F
  subst e;exact f.fpOk (wq _) (f.hok.fresh (wq _))
 rcases L with ⟨a,e,⟨N,u⟩,q⟩ | ⟨a,e,⟨N,u⟩,q⟩ | ⟨y,rfl,q⟩
 .subst e
  cases r1
  obtain⟨m,M,p,J⟩:=f.list u;refine wpAny_pyIter_list p.isList ?_;exact⟨d.heap.objs.size,[d.heap.objs.size],_,_,j,rfl,f.kept (t':=d.toks) λb o e=>wf _ e,zaY a _,⟨_,wn _ rfl,rfl,rfl⟩,n,q⟩
 .subst e
  cases r1
  obtain⟨m,M,p,J⟩:=f.tuple u;refine uU (show d.heap.IsTuple a m.toArray from p) ?_;exact⟨d.heap.objs.size,[d.heap.objs.size],_,_,j,rfl,f.kept (t':=d.toks) λb o e=>wf _ e,za9 a _,⟨_,wn _ rfl,rfl,rfl⟩,n,q⟩
 .obtain⟨t,rfl⟩:=r1
  cases z:y.cps.all (· < 128)
  .exact wpAny_pyIter_wide z ⟨d.heap.objs.size,[d.heap.objs.size],_,_,j,rfl,f.kept (t':=d.toks) λb o e=>wf _ e,z9n y t _ (by decide) (λC r=>Walks.strWide r _ y t) (λA i s Q E w h=>wpAny_pyIter_striter_wide w h),⟨vn _,_,wn _ rfl,rfl,rfl⟩,n,q⟩
  .exact wpAny_pyIter_ascii z ⟨d.heap.objs.size,[d.heap.objs.size],_,_,j,rfl,f.kept (t':=d.toks) λb o e=>wf _ e,z9n y t _ (by decide) (λC r=>Walks.strAscii r _ y t) (λA i s Q E w h=>wpAny_pyIter_striter_ascii w h),⟨vn _,_,wn _ rfl,rfl,rfl⟩,n,q⟩
def zaU {K:W.Frag}{mg:WmP}{G:Hp}{a:Addr}{xs:List V}{l:List D}(h:SqL K G a xs)(r:RDs K mg G l xs):Walk K mg G l (Itl K a):=λi m H g j=>by
 have b:=z1j (z03 g j) h;refine⟨λd e =>?_,λn=>⟨xs,b,by rw[r.len];exact n⟩⟩;obtain⟨v,f,o⟩:=r.get e;refine⟨⟨xs,v,b,f⟩,λq p y =>?_⟩;obtain⟨rfl,y⟩:=y;have:=y xs b;rw[f] at this
 cases this
 exact⟨Same.refl',m,Gr.refl,j,o.same g⟩
def zcX {K:W.Frag}{mg:WmP}{G:Hp}{a:Addr}{xs:List V}{l:List D}(h:SqT K G a xs)(r:RDs K mg G l xs):Walk K mg G l (Itt K a):=λi m H g j=>by
 have b:=z0u (z03 g j) h;refine⟨λd e =>?_,λn=>⟨xs,b,by rw[r.len];exact n⟩⟩;obtain⟨v,f,o⟩:=r.get e;refine⟨⟨xs,v,b,f⟩,λq p y =>?_⟩;obtain⟨rfl,y⟩:=y;have:=y xs b;rw[f] at this
 cases this
 exact⟨Same.refl',m,Gr.refl,j,o.same g⟩
def zcY {K:W.Frag}{mg:WmP}{G:Hp}{y:Str}:Walk K mg G (y.cps.toList.map λc =>.str ⟨#[c]⟩) (Its y):=λi b H m g=>by
 refine⟨λd e =>?_,λa=>(show y.cps.size<=i by simpa using a)⟩;rw[wO] at e
 cases q:y.cps.toList[i]? with
 | none=>simp_all
 | some c=>
  rw[q] at e
  cases e
  have a  := by
   have:=(wv.mp q).1;omega
  refine⟨a,λv j h =>?_⟩;obtain⟨rfl,f,l,rfl⟩:=h;have:f=c:=by
   simp_all
  subst this;exact⟨Same.refl',b,Gr.refl,g,by rw[RD]⟩
def qi_x (h:QX X E iter x):QXI X E tg iter x:=QI.imp (zj5 h) <| by
 rintro A H R ⟨G,z,p,r,hs,s,t,w,n,u⟩;refine⟨G,z,p,r,hs,s,t,λd v g i q j b g3 rd =>?_,u⟩
 cases d with
 | lst l=>
  obtain⟨a,o,rfl,f,m⟩:=rd;exact .inl ⟨a,rfl,⟨o,z1j b f⟩,n _ g i q j b g3 l _ rfl (zaU f m)⟩
 | tup l=>
  obtain⟨a,o,rfl,f,m⟩:=rd;exact .inr (.inl ⟨a,rfl,⟨o,z0u b f⟩,n _ g i q j b g3 l _ rfl (zcX f m)⟩)
 | str y=>
  subst rd;exact .inr (.inr ⟨y,rfl,n _ g i q j b g3 _ _ rfl zcY⟩)
 | _=>
  obtain⟨l,e⟩:=w _ q
  cases e
end
section
variable {K:W.Frag}{mg:WmP}{H0 G0 G G1 H H1:Hp}{ρ:Pu.Env}{σ:L2.St}{i:Nat}
def z4k {a:List D->Prop}(h:ownL ρ i a):∃l,ρ[i]? = some (B.o (.lst l))/\a l:=by
 unfold ownL at h
 split at h
 .rename_i l e;exact⟨l,e,h⟩
 .exact h.elim
def ze1:(λa=>∃(j:Nat) (d:D),True/\ρ[j]? = some (B.o d)/\σ[j]? = some (some (V.ref a)))=z3t ρ σ:=by
 funext a
 exact propext ⟨λ⟨j,d,_,h⟩=>⟨j,d,h⟩,λ⟨j,d,h⟩=>⟨j,d,trivial,h⟩⟩
def z3D {d:D}{v:V}(h:AbS K mg H0 G0 G ρ σ H)(a:Same G1 H1)(g3:Same H H1)(b:Safe d ρ)(rd:RD K mg G1 d v):RD K mg (minus G1 (z3t ρ σ)) d v:=by
 have:=z8H h a g3 b rd;rw[ze1] at this;exact this
def zdg {l:List D}(h:AbS K mg H0 G0 G ρ σ H)(a:Same G1 H1)(g3:Same H H1):∀{xs:List V},(∀x∈l,Safe x ρ)->RDs K mg G1 l xs->RDs K mg (minus G1 (z3t ρ σ)) l xs:=by
 induction l with
 | nil=>intro xs _ h;exact h
 | cons y l i=>
  intro xs hs f;obtain⟨v,r,b,d,e⟩:=f;exact⟨v,r,b,z3D h a g3 (hs y ww) d,i (λz g=>hs z (wp _ g)) e⟩
def AbS.wrB {l l':List D}{a:Addr}{d:List V}(b:AbS K mg H0 G0 G ρ σ H)(f:Gr (plus G H (z3t ρ σ)) H G1)(m:Same G1 H1)(g3:Same H H1)(n:ρ[i]? = some (B.o (.lst l)))(hs:σ[i]? = some (some (V.ref a)))(p:RDs K mg (minus G1 (z3t ρ σ)) l' d):
  AbS K mg H0 G0 (minus G1 (z3t ρ σ)) (ρ.set i (.o (.lst l'))) σ (upd H1 a (.lst d))/\Same G (minus G1 (z3t ρ σ)):=by
 have g  := z2Y (z03 (z2i b.free) f.1) b.free;exact⟨b.wr (λa o e=>b.nw1 f a o (z2w a o e)) g (z03 z2w m) g3 (λj h a e s=>z5a ⟨j,h,e,s⟩) n hs ⟨d,z06,p⟩,g⟩
end
section
variable {X:Cx}{E:XK}{st:Stmt}{t:Sm}{e o tg:Expr}{x y z:Ex}{pos cpos apos:Pos}{i j:Nat}
def ziK (S:QE X o (tVar i))(Q:QXA X E [e] [x])
  (hs:autoParam (swapsWith (.Call (.Attribute o "append" apos) [e] [] cpos) none pos.line X.env=pure false) jA1)
  (h:autoParam (attributeBase o "append" X.env (eval o X.env)=eval o X.env) jA1)
  (m:autoParam (((backTo cpos (starEach [e] X.env)).all (λx => !x.1) && (backToKw cpos (keywordEach [] X.env)).all (λx=>x.1.isSome)
   && decide ([e].length+([]:List Keyword).length+(if ([]:List Keyword).isEmpty then 0 else 1)<30))=true) jA1)
  (j:autoParam ((apos.endLine == cpos.line)=true) jA1) (u:autoParam (starEach [e] X.env=(false,eval e X.env)::starEach [] X.env) jA1) (b:autoParam ((backTo cpos (starEach [] X.env)).any (·.1)=false) jA1):
  QZ X E (.Expr (.Call (.Attribute o "append" apos) [e] [] cpos) pos) (.app i x):=
 QS.imp (z8O (zgw jk PySem.F.slot_list_append PySem.F.type_list_append z6e S Q h m j u b) hs) <| by
  rintro Z Y H ⟨H0,G0,G,p,M,R0,r,f,t,R,hR,T⟩;obtain⟨l,I,t⟩:=z4k t;obtain⟨a,K,ga,h0,L,J,n⟩:=f.ow i _ I;refine⟨.ref a,K,.inl ⟨rfl,L,SqL.of J⟩,?_⟩;refine⟨plus G H _,p,λy=>∃d,y=[d]/\l.length<sizeLine/\Safe d p/\M (p.set i (.o (.lst (l++[d])))),r,z3k f.g,f.abe,x.mono p _ _ r r (λd q=>⟨d,rfl,q⟩) (λ_ z=>z) t,?_,T.same f.s0⟩;rintro y vs G1 H1 ⟨d,rfl,w,W,O⟩ A C g3 rds;obtain⟨v,rfl,rd⟩:=rds1 rds;refine⟨a,L,v,rfl,rfl,g3 _ _ J,by rw[n.len];exact w,?_⟩;have U  := z2Y (z03 (z2i f.free) A.1) f.free;obtain⟨s,N⟩:=f.wrB A C g3 I K ((n.same U).app (RDs.cons (z3D f C g3 W rd) RDs.nil));exact R _ Y _ _ O s N
def ziJ (Q:QE X o (tVar i))(N:QF X E e x)
  (hs:autoParam (swapsWith (.Call (.Attribute o "extend" apos) [e] [] cpos) none pos.line X.env=pure false) jA1)
  (j:autoParam (attributeBase o "extend" X.env (eval o X.env)=eval o X.env) jA1)
  (p:autoParam (((backTo cpos (starEach [e] X.env)).all (λx => !x.1) && (backToKw cpos (keywordEach [] X.env)).all (λx=>x.1.isSome)
   && decide ([e].length+([]:List Keyword).length+(if ([]:List Keyword).isEmpty then 0 else 1)<30))=true) jA1)
  (n:autoParam ((apos.endLine == cpos.line)=true) jA1) (s:autoParam (starEach [e] X.env=(false,eval e X.env)::starEach [] X.env) jA1) (f:autoParam ((backTo cpos (starEach [] X.env)).any (·.1)=false) jA1):
  QZ X E (.Expr (.Call (.Attribute o "extend" apos) [e] [] cpos) pos) (.ext i x):=by
 refine QS.imp (z8O (zgw jk PySem.F.slot_list_extend PySem.F.type_list_extend zbY Q (z3j N z5y s) j p n s f) hs) λDe σ H Z =>?_;obtain⟨H0,G0,G,ρ,N0,R0,L,h,y,O,hR,R⟩:=Z;obtain⟨l,C,y⟩:=z4k y;obtain⟨a,J,ga,h0,K,I,r⟩:=h.ow i _ C;refine⟨.ref a,J,.inl ⟨rfl,K,SqL.of I⟩,?_⟩;refine⟨plus G H _,ρ,_,L,z3k h.g,h.abe,y,λd b G1 H1 q z A g3 hb gb w =>?_,R.same h.s0⟩
 cases d with
 | lst m=>
  obtain⟨zs,S,t⟩:=w;obtain⟨U,W,Y⟩:=q;refine⟨a,b,K,zs,rfl,rfl,g3 _ _ I,S,by rw[r.len,t.len];exact U,?_⟩;have T  := z2Y (z03 (z2i h.free) z.1) h.free;obtain⟨u,M⟩:=h.wrB z A g3 C J ((r.same T).app (zdg h A g3 W t));exact O _ σ _ _ Y u M
 | _=>exact q.elim
def RDs.last {K:W.Frag}{mg:WmP}{G:Hp}{l:List D}{xs:List V}(h:RDs K mg G l xs):RDs K mg G l.dropLast xs.dropLast:=by
 rw[List.dropLast_eq_take,List.dropLast_eq_take,h.len];exact h.take _
def zbt {l:List D}{a:List D->D->Prop}(h:popL l a):∃d,l[l.length - 1]? = some d/\a l.dropLast d:=by
 unfold popL at h
 split at h
 .rename_i d e;exact⟨d,e,h⟩
 .exact h.elim
def zhI {K:W.Frag}{mg:WmP}{n m G H:Hp}{f:Pu.Env}{h:L2.St}{l l':List D}{a:Addr}{d:List V}(b:AbS K mg n m G f h H)(q:f[i]? = some (B.o (.lst l)))(hs:h[i]? = some (some (V.ref a)))(r:RDs K mg G l' d):AbS K mg n m G (f.set i (.o (.lst l'))) h (upd H a (.lst d)):=
 b.wr b.nw Same.refl' b.g Same.refl' (λj p a e s=>b.free a ⟨j,p,e,s⟩) q hs ⟨d,z06,r⟩
def ziF (t:QE X o (tVar i))(hs:autoParam (swapsWith (.Call (.Attribute o "pop" apos) [] [] cpos) none pos.line X.env=pure false) jA1)(b:autoParam (attributeBase o "pop" X.env (eval o X.env)=eval o X.env) jA1)(e:autoParam ((apos.endLine == cpos.line)=true) jA1):
  QZ X E (.Expr (.Call (.Attribute o "pop" apos) [] [] cpos) pos) (.pop i):=
 QS.imp (z8O (zji jk PySem.F.slot_list_pop PySem.F.type_list_pop zkt t b e) hs) <| by
  rintro x w H ⟨z,y,G,O,A,C,I,h,g,s,L,M⟩;obtain⟨l,j,g⟩:=z4k g;obtain⟨d,r,q⟩:=zbt g;obtain⟨a,n,J,K,p,m,f⟩:=h.ow i _ j;refine⟨.ref a,n,.inl ⟨rfl,p,SqL.of m⟩,?_⟩;obtain⟨v,u,N⟩:=f.get r;exact⟨a,p,v,rfl,rfl,m,by rw[f.len];exact u,s _ w _ G q (zhI h j n f.last) Same.refl'⟩
def z9N {d:D}{a:Int->Prop}(h:isI d a):∃k,d = .int k/\a k:=by
 cases d with
 | int k=>exact⟨k,rfl,h⟩
 | _=>exact h.elim
def ze4 {o:Option Nat}{a:Nat->Prop}(h:onN o a):∃k,o=some k/\a k:=by
 cases o with
 | none=>exact h.elim
 | some k=>exact⟨k,rfl,h⟩
def ziE {k:Expr}{n:Pos}(ho:QE X o (tVar i))(Y:QX X E k y)(W:QX X E e x)(h:∀{M:TE}{g:TG},QE X e M->QG X (.Subscript o k n) g->QS X (.Assign [.Subscript o k n] e pos) (tAsg M g))
  (U:autoParam (∀v,assign (.Subscript o k n) X.env v=(do
   let r <- holding [v] (eval o X.env)
   let u <- holding [v,r] (eval k X.env)
   standAt n
   holding [v,r,u] (setItem r u v)
   release [v,r,u] [])) jC1):QZ X E (.Assign [.Subscript o k n] e pos) (.put i y x):=
 QS.imp (h W ⟨zjw ho.p Y.p zde U⟩) <| by
  rintro De σ H ⟨H0,G0,G,N,N0,R0,z,b,t,Z,hR,F⟩;obtain⟨l,C,t⟩:=z4k t;obtain⟨a,L,ga,h0,xs,hw,m⟩:=b.ow i _ C;refine⟨plus G H _,N,_,z,z3k b.g,b.abe,t,λd v O H1 q A S g3 rd =>?_,F.same b.s0⟩;obtain⟨sf,q⟩:=q;refine⟨.ref a,L,?_⟩;refine⟨O,N,_,z,S,b.abe.same A.1,q,λkd kv G2 H2 w J K k3 rk =>?_,F.same (z03 b.s0 g3)⟩;obtain⟨kk,rfl,w⟩:=z9N w;obtain⟨I,Q,T⟩:=ze4 w;have j  := A.trans g3 J;have f  := z03 g3 k3;have lm  := z2Y (z03 (z2i b.free) j.1) b.free;refine⟨a,xs,kk,I,rfl,z0z rk,f _ _ hw,by rw[m.len];exact Q,?_⟩;obtain⟨s,R⟩:=b.wrB j K f C L (RDs.set (z3D b K f sf (rd.same J.1)) I (m.same lm));exact Z _ σ _ _ T s R
end
section
variable {P:Program}{w:World}{K:W.Frag}{mg:WmP}{base:Heap}{N:List Str}{qual:Str}{f:Addr}
def zdb {G H:Hp}{g:List D}{vs:List V}{w u:Nat}(hs:Same G H)(r:RDs K mg G g vs)(y:g.length=w)(x:N.length=u):AbS K mg H G G (g.map B.s++List.replicate (u - w) .n) (L2.z4B N vs) H:=by
 have t:∀(i:Nat) (b:B),(g.map B.s++List.replicate (u - w) .n)[i]? = some b->(∃d,b = .s d/\g[i]? = some d)\/b = .n:=λi b e=>by
  by_cases h:i<g.length
  .rw[wH (by simpa using h),wO] at e;rw[wt h] at e ⊢
   cases e
   exact .inl ⟨_,rfl,rfl⟩
  .rw[wU (by simpa using h)] at e;have:=wv.mp e;obtain⟨q,l⟩:=this;simp at l;exact .inr l.symm
 refine⟨?_,Same.refl',Same.refl',hs,λa o e =>.inl ⟨o,e⟩,λi d e =>?_,λi d e =>?_,λi j d m a _ e =>?_⟩
 .unfold L2.z4B;rw[wC,wC,we,we,uA,uA,r.len,y,x]
 .rcases t i _ e with ⟨m,f,p⟩ | f
  .cases f
   obtain⟨v,q,l⟩:=r.get p;refine⟨v,?_,l⟩;unfold L2.z4B;have h:i<vs.length:=(wv.mp q).1;rw[wH (by simpa using h),wO,q]
   rfl
  .cases f
 .rcases t i _ e with ⟨m,f,p⟩ | f <;> cases f
 .rcases t i _ e with ⟨m,f,p⟩ | f <;> cases f
def fnN {x:Str}{st:Stmt}{m:FuncData}{ps:List Str}{k p o:Nat}{b:Sm}(F:Fun K x qual st f m)(S:z4R N ps (z09 st))(I:ps.length=p)(z:N.length=o)
  (C:∀(d:Value) (A:Around) (a:List PySem.Env) (s:Shared) (H:Hp) (E:XK),Room k (A.deeper (envOfC qual (z09 st) s.heap.objs.size f d))->QZs ((cxOf (CXe P w) P w K mg base N qual (z09 st) f d A a s H E).wish λ_ _=>False) E0 (z1F st) b):
  FnOk P w K mg base (CXe P w) (k+1) f m ps (spP K mg (Fn.mkN p o b)):=by
 refine F.okN S (λvs H Q E ⟨G,y,i,u,hs,rds,⟨l,n⟩,j,J⟩=>by rw[rds.len,l,I]) λd A a s H vs Q E e ⟨G,y,i,u,hs,rds,⟨l,n⟩,j,J⟩=>⟨_,C d A _ s H E e,?_⟩
 refine⟨H,G,G,_,λ_=>i _,i,λ_=>False,zdb hs rds l z,n,λL M t r q h _ =>?_,j,Kx.no⟩;exact j _ _ r t q ⟨h.g0,h.nw⟩ h.g h.s0 (by rw[RD])
end
def Tg.slots:Tg->List Nat
 | .nm i=>[i]
 | .tp is=>is
section
variable {K:W.Frag}{mg:WmP}{G G1 H H1:Hp}{ρ:Pu.Env}{σ:L2.St}
def AbE.put {i:Nat}{d:D}{v:V}(h:AbE K mg G ρ σ)(l:i < σ.length)(r:RD K mg G d v):AbE K mg G (ρ.set i (.s d)) (σ.set i (some v)):=λj e q=>by
 rw[Env.get_eq] at q
 by_cases a:j=i
 .subst a
  cases z:(ρ.set j (.s d))[j]? with
  | none=>simp_all
  | some b=>
   have m  := by
    have:=(wv.mp z).1;simpa using this
   rw[wK m] at q
   cases q
   exact⟨v,by rw[wK l],r⟩
 .rw[wB (vG a), <- Env.get_eq] at q;obtain⟨w,f,g⟩:=h j e q;exact⟨w,by rw[wB (vG a)];exact f,g⟩
def AbE.keep {i:Nat}{v:V}(h:AbE K mg G ρ σ)(f:ρ.get i=none):AbE K mg G ρ (σ.set i (some v)):=λj e q=>by
 have d:j≠i:=λz=>by grind
 obtain⟨w,a,b⟩:=h j e q;exact⟨w,by rw[wB (vG d)];exact a,b⟩
theorem AbE.putAll {b:Pu.Env}:∀(is:List Nat) (e:List D) (vs:List V) {f:Pu.Env}{a:L2.St},is.length=e.length->RDs K mg G e vs->(∀i∈is,i < a.length)->(∀i∈is,b.get i=none)->AbE K mg G f a->AbE K mg G b a->
  AbE K mg G (z0c is e f) ((is.zip vs).foldl (λa p=>a.set p.1 (some p.2)) a)/\AbE K mg G b ((is.zip vs).foldl (λa p=>a.set p.1 (some p.2)) a)/\((is.zip vs).foldl (λa p=>a.set p.1 (some p.2)) a).length=a.length
 | [],[],vs,f,a,_,h,_,_,g,l=>by exact⟨g,l,rfl⟩
 | [],_::_,_,_,_,h,_,_,_,_,_=>by simp at h
 | _::_,[],_,_,_,h,_,_,_,_,_=>by simp at h
 | i::is,d::e,vs,f,a,h,r,w,o,g,l=>by
  obtain⟨v,m,rfl,t,u⟩:=r;obtain⟨q,s,x⟩:=AbE.putAll is e m (by simpa using h) u (λj n=>by simp_all) (λj n=>o j (wp _ n)) (g.put (w i ww) t) (l.keep (o i ww));exact⟨q,s,by simp_all⟩
def zd8 {j:Tg}{d:D}{v:V}{p:Pu.Env->Prop}{N:L2.St->Hp->Prop}(m:AbE K mg G ρ σ)(g:Same G H)(rd:RD K mg G d v)(r:∀i∈j.slots,i < σ.length)(q:∀i∈j.slots,ρ.get i=none)(h:j.put d ρ p)
  (s:∀l b,p l->AbE K mg G l b->AbE K mg G ρ b->b.length=σ.length->N b H):tgt K j v σ H N:=by
 cases j with
 | nm i=>
  have n:=r i (by simp[Tg.slots]);have f:=q i (by simp[Tg.slots]);exact s _ _ h (m.put n rd) (m.keep f) (by simp)
 | tp is=>
  cases d with
  | tup x=>
   obtain⟨e,h⟩:=h;obtain⟨a,o,rfl,n,f⟩:=rd;obtain⟨t,u,w⟩:=AbE.putAll is x o e f r q m m;exact⟨a,o,rfl,z0u g n,by rw[f.len,e],z5M (K:=K) is o σ H N (by rw[f.len,e]) (s _ _ h t u w)⟩
  | _=>exact h.elim
def zaO {g:Nat}{l:List Nat}(h:AbE K mg G ρ σ):AbE K mg G (z16 g l ρ) (List.replicate g none++l.map λj=>(σ[j]?).getD none):=λi d e=>by
 rw[Env.get_eq] at e;unfold z16 at e
 by_cases f:i<g
 .rw[wH (by simpa using f),jg,if_pos f] at e
  cases e
 .rw[wU (by simpa using f),uA,wO] at e;rw[wU (by simpa using f),wO]
  cases q:l[i - g]? with
  | none=>simp_all
  | some j=>
   rw[q] at e;have a:((ρ[j]?).getD .n).get=some d:=e;have m:ρ.get j=some d:=by
    rw[Env.get_eq]
    cases z:ρ[j]? with
    | none=>rw[z] at a;cases a
    | some b=>rw[z] at a;exact a
   obtain⟨v,o,p⟩:=h j d m
   simp_all
def z8k {b:Nat}{d:List Nat}{i:Nat}(a:i<b):(z16 b d ρ).get i=none:=by
 rw[Env.get_eq];unfold z16;rw[wH (by simpa using a),jg,if_pos a]
 rfl
def TcOk (K:W.Frag)(mg:WmP)(c:Option Ex)(a:TT):Prop:=match c with
 | none=>a=z5n
 | some c=>a=tt K mg E0 c
def zek {f:Nat}{n:List Nat}{A:Tg}{c:Option Ex}{a:Ex}{l:List D}{J:It}{tc:TT}{C:List D->Prop}{Q:VK}(U:∀i∈A.slots,i<f)(ab:AbE K mg G ρ σ)(g:Same G H)(hw:Walk K mg G l J)(hsz:l.length<sizeLine)
  (hr:z4x (z4O A c a (z16 f n ρ)) l C)
  (T:TcOk K mg c tc)
  (hk:∀h x p L z,C h->Gr G H L->Same L z->Same H z->RDs K mg L h x->z p=none->Q (.ref p) (upd z p (.lst x))):
  LcG J (tgt K A) tc (tx K mg E0 a) Q (List.replicate f none++n.map λj=>(σ[j]?).getD none) H:=by
 refine⟨λi m x Z H'=>m=l.length - i/\i<=l.length/\x.length<=i/\Z.length=f+n.length/\∃s h,Gr G H s/\Same s H'/\Same H H'/\RDs K mg s h x/\AbE K mg s (z16 f n ρ) Z/\z4x (z4O A c a (z16 f n ρ)) (l.drop i) λr=>C (h++r),
  ⟨l.length,by simp,vn _,by simp,by simp,G,[],Gr.refl,g,Same.refl',RDs.nil,zaO ab,by simpa using hr⟩,?_⟩
 rintro i m x a3 H1 ⟨rfl,hi,a2,E,G1,h,g1,g2,g3,rds,a0,h1⟩;refine⟨by lia,?_⟩;obtain⟨w1,w2⟩:=hw i G1 H1 g1.1 g2
 by_cases u:i<l.length
 .have e:l[i]? = some l[i]:=by simp[u]
  obtain⟨go,yl⟩:=w1 _ e;rw[uZ u] at h1;have t:z4O A c a (z16 f n ρ) l[i] (λo=>z4x (z4O A c a (z16 f n ρ)) (l.drop (i+1)) λr=>C (h++(o.toList++r))):=h1;unfold z4O at t;refine .inr ⟨go,λv z y =>?_⟩;obtain⟨s2,L,W,k2,rd⟩:=yl v z y;refine zd8 (a0.same W.1) k2 rd (λj hj=>by rw[E];have:=U j hj;lia) (λj hj=>z8k (U j hj)) t λF I hb O R S =>?_;have el:∀{M N:Hp},Gr L z M->Same M N->Same z N->(a.run F (λd=>z4x (z4O A c a (z16 f n ρ)) (l.drop (i+1)) λr=>C (h++((some d:Option D).toList++r))) λ_=>False)->
    tx K mg E0 a I N λy H4=>∃m',m'<l.length - i/\m'=l.length - (i+1)/\i+1<=l.length/\(x++[y]).length<=i+1/\I.length=f+n.length/\∃s Y,Gr G H s/\Same s H4/\Same H H4/\RDs K mg s Y (x++[y])/\AbE K mg s (z16 f n ρ) I/\z4x (z4O A c a (z16 f n ρ)) (l.drop (i+1)) λr=>C (Y++r):=λ{M N} w k4 X he=>by
   refine⟨M,F,_,λ_=>False,k4,O.same w.1,he,λd v' G4 H4 q n1 n2 n3 a1 =>?_,Kx.no⟩;refine⟨l.length - (i+1),by lia,rfl,u,by simp;lia,by rw[S,E],G4,h++[d],g1.trans g3 (W.trans s2 (w.trans X n1)),n2,z03 g3 (z03 s2 (z03 X n3)),((rds.same (z03 W.1 (z03 w.1 n1.1))).app (RDs.cons a1 RDs.nil)),R.same (z03 w.1 n1.1),?_⟩;refine z3P z4N _ _ _ (λr q =>?_) q;simpa using q
  cases c with
  | none=>
   have:tc=z5n:=T;subst this;unfold z5n;dsimp only;rw[if_pos rfl];exact el Gr.refl k2 Same.refl' hb
  | some c=>
   have:tc=tt K mg E0 c:=T;subst this;refine⟨L,F,_,λ_=>False,k2,O,hb,λd M N q w k4 X =>?_,Kx.no⟩;obtain⟨b,rfl,q1,q2⟩:=z7t q;refine⟨b,rfl,?_⟩
   cases b with
   | true=>exact iteT (el w k4 X (q1 rfl))
   | false=>
    refine iteF ⟨l.length - (i+1),by lia,rfl,u,by lia,by rw[S,E],M,h,g1.trans g3 (W.trans s2 w),k4,z03 g3 (z03 s2 X),rds.same (z03 W.1 w.1),R.same w.1,?_⟩;refine z3P z4N _ _ _ (λr q =>?_) (q2 rfl);simpa using q
 .have e:i=l.length:=by lia
  subst e;rw[List.drop_length] at h1;refine .inl ⟨w2 (wq _),λp hp=>hk h x p G1 H1 ?_ g1 g2 g3 rds hp⟩;have t:C (h++[]):=h1;simpa using t
def zb0 {E:XK}{g:Nat}{t:List Nat}{m:Tg}{src:Ex}{c:Option Ex}{a:Ex}{x:TT}{Q:VK}(f:∀i∈m.slots,i<g)(e:TcOk K mg c x)(h:tf K mg E (.comp g t m src c a) σ H Q):tLcG (ti K mg E src) (tgt K m) x (tx K mg E0 a) g t σ H Q:=by
 obtain⟨G,W,Z,F,hs,n,O,M,S⟩:=h;refine⟨G,W,_,F,hs,n,O,λd q=>(z9F q).imp λ_ z=>z.1,λd X Y q o L g3 l J I R =>?_,S⟩;have j  := q;rw[I] at j;refine zek f (n.same o.1) L R j.1 j.2 e λrs U p y C N T u w rds b =>?_;have r:∀{A:Hp},Same A C->A p=none:=λs=>z0M s b;refine M _ p y _ N (o.trans g3 T) (z03 u (z0f b _)) (z03 g3 (z03 w (z0f b _))) (r (z03 g3 w)) (r u) ⟨U,z06,rds⟩
end
section
variable {X:Cx}{E:XK}{elt iter target:Expr}{ct:Option Expr}{pos spos py:Pos}{scope:Scope}{N':List Str}{nt:Nat}{js:List Nat}{tg:Tg}{src x:Ex}{c:Option Ex}{y:Str}{iy:Nat}
def CtOk (X:Cx)(a:Scope)(b:List Str)(ct:Option Expr)(c:Option Ex):Prop:=match ct,c with
 | none,none=>True
 | some e,some x=>∀(C:Addr) (s:Shared) (H:Hp) (d:List Addr),QXT (X.compG a b C s H d) E0 e x
 | _,_=>False
def CtQ (X:Cx)(a:Scope)(d:List Str)(ct:Option Expr)(b:TT):Prop:=match ct with
      | none=>b=z5n
      | some c=>∀(C:Addr) (s:Shared) (H:Hp) (e:List Addr),QT (X.compG a d C s H e) c b
def za3 (h:CtOk X scope N' ct c):∃tc:TT,CtQ X scope N' ct tc/\TcOk X.K X.mg c tc:=by
 cases ct with
 | none=>
  cases c with
  | none=>exact⟨z5n,rfl,rfl⟩
  | some c=>exact h.elim
 | some e=>
  cases c with
  | none=>exact h.elim
  | some c=>exact⟨tt X.K _ E0 c,h,rfl⟩
def zbn (j:X.calm=true)(b:QXI X E target iter src)(n:scope.kind = .function)(e:z44 X N' nt js scope)(d:tg.slots.all (· < nt)=true)
  (m:∀(C:Addr) (s:Shared) (H:Hp) (a:List Addr),QG (X.compG scope N' C s H a) target (tgt X.K tg)) (o:CtOk X scope N' ct c)
  (l:∀(C:Addr) (s:Shared) (H:Hp) (a:List Addr),QX (X.compG scope N' C s H a) E0 elt x) (hs:autoParam (∀x,foldedSetIterable iter X.env x=pure x) jC1):QF X E (.ListComp elt [⟨target,iter,ct.toList,0⟩] scope pos) (.comp nt js tg src c x):=by
 obtain⟨p,f,g⟩:=za3 o;exact QE.imp (zjf j b n e m f l hs) λq H Q h=>zb0 (λi b=>uj (jO.mp d i b)) g h
def zbm (n:X.N.Nodup)(d:X.N[iy]? = some y)(e:X.env.scope.names.lookup y=some .local)(o:X.calm=true)(b:QXI X E target iter src)(r:scope.kind = .function)(j:z44 X N' nt js scope)(g:tg.slots.all (· < nt)=true)
  (q:∀(C:Addr) (s:Shared) (H:Hp) (a:List Addr),QG (X.compG scope N' C s H a) target (tgt X.K tg)) (t:CtOk X scope N' ct c)
  (p:∀(C:Addr) (s:Shared) (H:Hp) (a:List Addr),QX (X.compG scope N' C s H a) E0 elt x) (f:autoParam (swapsWith (.ListComp elt [⟨target,iter,ct.toList,0⟩] scope pos) (some (.Name y py)) spos.line X.env=pure true) jA1) (hs:autoParam (∀x,foldedSetIterable iter X.env x=pure x) jC1):
  QS X (.Assign [.Name y py] (.ListComp elt [⟨target,iter,ct.toList,0⟩] scope pos) spos) (tAsg (tf X.K X.mg E (.comp nt js tg src c x)) (z2N iy)):=by
 obtain⟨u,l,m⟩:=za3 t;exact QS.imp (zj3 n d e o b r j q l p f hs) λD w H h=>zb0 (λi b=>uj (jO.mp g i b)) m h
def zd9 {K:W.Frag}{mg:WmP}{a:L2.St}{H:Hp}{Q:VK}(h:tx K mg E x a H Q):tf K mg E x a H Q:=by
 obtain⟨G,j,b,d,hs,e,g,f,i⟩:=h;exact⟨G,j,b,d,hs,e,g,f.kf,i⟩
def QS.sh {st:Stmt}(h:QS X st (tAsg (tf X.K X.mg E x) (z2N iy))):QS X st (tAsg (tx X.K X.mg E x) (z2N iy)):=QS.imp h λD a H h=>zd9 h
def zj7 {i:Nat}{z:Str}{a:Pos}(b:X.N.Nodup)(d:X.N[i]? = some z)(e:X.env.scope.names.lookup z=some .local):QG X (.Name z a) (tgt X.K (.nm i)):=zj8 b d e
def pTup:Fn:=⟨λa Q _=>a.length<=sizeLine/\Q (.tup a),λa Q b X d m _ q=>⟨q.1,m _ q.2⟩⟩
def pLst:Fn:=⟨λa Q _=>a.length<=sizeLine/\Q (.lst a),λa Q b X d m _ q=>⟨q.1,m _ q.2⟩⟩
def ziL {es:List Expr}{xs:List Ex}{l}(h:QXA X E es xs):QX X E (.Tuple es l pos) (.op pTup xs):=QE.imp (⟨zjx h.p⟩) <| by
 rintro t H Q ⟨G,m,r,d,hs,e,i,g,j⟩;refine⟨G,m,_,d,hs,e,i,λs vs n o q f a g3 rds=>⟨by rw[rds.len];exact q.1,λp b =>?_⟩,j⟩;refine(g.same f g3).new a b q.2 ?_;exact⟨p,vs,rfl,SqT.of z06,rds.same (z0f (z0M a b) _)⟩
def zj9 {es:List Expr}{xs:List Ex}(h:QXA X E es xs):QF X E (.List es pos) (.op pLst xs):=QE.imp (zje h) <| by
 rintro s H Q ⟨G,m,o,e,hs,f,j,i,l⟩;refine⟨G,m,_,e,hs,f,j,λr vs d n q g b g3 rds=>⟨by rw[rds.len];exact q.1,λp a =>?_⟩,l⟩;exact i _ p d _ q.2 g (z03 b (z0f a _)) (z03 g3 (z0f a _)) (z0M g3 a) (z0M b a) ⟨vs,z06,rds⟩
end
def fn2 (g:D->D->DK->Prop)(m:∀a b (Q Q':DK),(∀d,Q d->Q' d)->g a b Q->g a b Q'):Fn:=⟨λe Q _=>match e with
 | [a,b]=>g a b Q
 | _=>False,λe Q Q' X h f _ q=>by
 match e,q with
 | [a,b],q=>exact m a b Q Q' f q
 | [],q=>exact q.elim
 | [_],q=>exact q.elim
 | _::_::_::_,q=>exact q.elim⟩
def fn1 (g:D->DK->Prop)(m:∀a (Q Q':DK),(∀d,Q d->Q' d)->g a Q->g a Q'):Fn:=⟨λb Q _=>match b with
 | [a]=>g a Q
 | _=>False,λb Q Q' X f e _ q=>by
 match b,q with
 | [a],q=>exact m a Q Q' e q
 | [],q=>exact q.elim
 | _::_::_,q=>exact q.elim⟩
def z9C {o:Option D}{Q Q':DK}(m:∀d,Q d->Q' d)(h:onV o Q):onV o Q':=by
 cases o with
 | none=>exact h
 | some d=>exact m _ h
def z9B {o:Option D}{Q:DK}(h:onV o Q):∃d,o=some d/\Q d:=by
 cases o with
 | none=>exact h.elim
 | some d=>exact⟨d,rfl,h⟩
def gAdd (a b:D)(Q:DK):Prop:=match a,b with
 | .int i,.int j=>Q (.int (i+j))
 | .str x,.str y=>x.length+y.length<=sizeLine/\Q (.str (x++y))
 | .lst l,.lst m=>l.length+m.length<=sizeLine/\Q (.lst (l++m))
 | .tup l,.tup m=>l.length+m.length<=sizeLine/\Q (.tup (l++m))
 | _,_=>False
def zct (a b:D)(Q Q':DK)(m:∀d,Q d->Q' d)(h:gAdd a b Q):gAdd a b Q':=by
 unfold gAdd at h ⊢
 split at h
 .exact m _ h
 .simp_all
 .simp_all
 .simp_all
 omega
def pAdd:Fn:=fn2 gAdd zct
def gI (g:Int->Int->DK->Prop)(a b:D)(Q:DK):Prop:=match a,b with
 | .int i,.int j=>g i j Q
 | _,_=>False
def zhl {g:Int->Int->DK->Prop}(e:∀i j (Q Q':DK),(∀d,Q d->Q' d)->g i j Q->g i j Q')(a b:D)(Q Q':DK)(m:∀d,Q d->Q' d)(h:gI g a b Q):gI g a b Q':=by
 unfold gI at h ⊢
 split at h
 .exact e _ _ _ _ m h
 omega
def fnI (g:Int->Int->DK->Prop)(a:∀i j (Q Q':DK),(∀d,Q d->Q' d)->g i j Q->g i j Q'):Fn:=fn2 (gI g) (zhl a)
def pSub:Fn:=fnI (λi j Q=>Q (.int (i - j))) λ_ _ _ _ m h=>m _ h
def z1u:Fn:=fnI (λi j Q=>zlc i j/\Q (.int (i.fdiv j))) λ_ _ _ _ m h=>⟨h.1,m _ h.2⟩
def pMod:Fn:=fnI (λi j Q=>j≠0/\Q (.int (i.fmod j))) λ_ _ _ _ m h=>⟨h.1,m _ h.2⟩
def pPow:Fn:=fnI (λi j Q=>CPow i j/\Q (.int (i ^ j.toNat))) λ_ _ _ _ m h=>⟨h.1,m _ h.2⟩
def gNeg (a:D)(Q:DK):Prop:=match a with
 | .int i=>Q (.int (-i))
 | _=>False
def pNeg:Fn:=fn1 gNeg λa Q b m h=>by
 unfold gNeg at h ⊢
 split at h
 .exact m _ h
 .exact h.elim
section
variable {X:Cx}{K:W.Frag}{mg:WmP}
def r2 (K:W.Frag)(mg:WmP)(F:Fn):R2:=λf g H Q=>∃G b d a e,Same G H/\RD K mg G b f/\RD K mg G d g/\F.run [b,d] a e/\Kt K mg G H a Q
def r1 (K:W.Frag)(mg:WmP)(F:Fn):V->Hp->VK->Prop:=λv H Q=>∃G d a b,Same G H/\RD K mg G d v/\F.run [d] a b/\Kt K mg G H a Q
def rN (K:W.Frag)(mg:WmP)(F:Fn):List V->Hp->VK->Prop:=λvs H Q=>∃G b a d,Same G H/\RDs K mg G b vs/\F.run b a d/\Kt K mg G H a Q
def lk2 {F:Fn}:Lk2 K mg F (r2 K mg F):=λG H h i j l f g Q a b c d e=>⟨G,h,i,f,g,a,b,c,d,e⟩
def lk1 {F:Fn}:Lk1 K mg F (r1 K mg F):=λG H d v e f Q a b c d=>⟨G,_,e,f,a,b,c,d⟩
def lkN {F:Fn}:LkN K mg F (rN K mg F):=λG H d v e f Q a b c d=>⟨G,_,e,f,a,b,c,d⟩
def zeL {prog:Program}{w:World}{A:Around}{E:WvP}{s:Shared}{t b:Addr}{ws:List Value}{Q:WvP}(x:IsTup s.heap t ([]:List Value).toArray)(q:IsTup s.heap b ws.toArray)(h:Q (.ref b) s):wpAny (model prog w) A (binaryOp .Add (.ref t) (.ref b)) Q E s:=by
 obtain⟨⟨o,p,l,sl⟩,m,r,n,u⟩:=id x;obtain⟨⟨j,e,d,i⟩,a,f,y,g⟩:=id q;subst r u f g;exact concat_meets ⟨_,m,rfl⟩ ⟨_,a,rfl⟩ noFill_tuple_add seq_tuple_add PySem.F.slot_tuple_add PySem.F.entry_tuple_add (PySem.F.args_tuple_add_2 _ _)
   (tuple_addW0 t b _ _ n y p e sl i (by simp)) ⟨m,a,h⟩
def ze3:OpR X (binaryOp .Add) (λx y H Q=>∃a b f,x = .ref a/\y = .ref b/\SqT X.K H a []/\SqT X.K H b f/\Q (.ref b) H):=by
 intro e s p H x y v u Q I n o h;obtain⟨a,b,f,rfl,rfl,g,i,q⟩:=h
 cases n
 cases o
 obtain⟨j,r1,l,_⟩:=I.tuple g;obtain⟨d,r2,m,_⟩:=I.tuple i
 cases r1
 exact zeL l m ⟨.ref b,H,I,rfl,q⟩
def zly (K:W.Frag):R2:=λx y H Q=>∃l b a d,x = .ref l/\y = .ref b/\SqL K H l a/\SqL K H b d/\a.length+d.length<=sizeLine/\∀p,H p=none->Q (.ref p) (upd H p (.lst (a++d)))
def zgU:OpR X (binaryOp .Add) (zly X.K):=by
 intro w s σ H x y v u Q I N O h;obtain⟨l,b,U,Z,rfl,rfl,G,E,R,q⟩:=h
 cases N
 cases O
 obtain⟨d,r,⟨⟨z,A,p,sl⟩,n,e,J,_,L⟩,W⟩:=I.list G;obtain⟨a,r2,⟨⟨o,g,f,m⟩,M,t,i,_,j⟩,Y⟩:=I.list E;subst J L i j;have S:=r.length;have T:=r2.length;have C:d.toArray++a.toArray=(d++a).toArray:=by simp
 refine concat_meets ⟨_,e,rfl⟩ ⟨_,t,rfl⟩ noFill_list_add seq_list_add PySem.F.slot_list_add PySem.F.entry_list_add (PySem.F.args_list_add_2 _ _) (list_addW l b _ _ n M A g sl m (by grind)) ⟨e,t,?_⟩;rw[C];exact⟨.ref _,_,I.lnew (r.append r2) (by simp_all),rfl,q _ I.fresh⟩
def z1m {G:Hp}{l:List D}{v:V}(h:RD K mg G (.tup l) v):∃a xs,v = .ref a/\SqT K G a xs/\RDs K mg G l xs:=by exact h
def z1W {G:Hp}{l:List D}{v:V}(h:RD K mg G (.lst l) v):∃a xs,v = .ref a/\SqL K G a xs/\RDs K mg G l xs:=by exact h
def z3i {G:Hp}{x:Str}{v:V}(h:RD K mg G (.str x) v):v = .str x:=by exact h
def z8N {G:Hp}{x:Bool}{v:V}(h:RD K mg G (.bl x) v):v = .bl x:=by exact h
def z7J {G:Hp}{v:V}(h:RD K mg G .non v):v = .non:=by exact h
def RD.newT {G H:Hp}{p:Addr}{l:List D}{xs:List V}(r:RDs K mg G l xs)(g:Same G H)(a:H p=none):RD K mg (upd G p (.tup xs)) (.tup l) (.ref p):=by
 exact⟨p,xs,rfl,SqT.of z06,r.same (z0f (z0M g a) _)⟩
def RD.newL {G H:Hp}{p:Addr}{l:List D}{xs:List V}(r:RDs K mg G l xs)(g:Same G H)(a:H p=none):RD K mg (upd G p (.lst xs)) (.lst l) (.ref p):=by
 exact⟨p,xs,rfl,SqL.of z06,r.same (z0f (z0M g a) _)⟩
def RD.ofT {G:Hp}{a:Addr}{l:List D}{xs:List V}(h:SqT K G a xs)(r:RDs K mg G l xs):RD K mg G (.tup l) (.ref a):=by exact⟨a,xs,rfl,h,r⟩
def RD.ofL {G:Hp}{a:Addr}{l:List D}{xs:List V}(h:SqL K G a xs)(r:RDs K mg G l xs):RD K mg G (.lst l) (.ref a):=by exact⟨a,xs,rfl,h,r⟩
def RD.int' {G:Hp}{i:Int}:RD K mg G (.int i) (.int i):=by rw[RD]
def RD.bl' {G:Hp}{i:Bool}:RD K mg G (.bl i) (.bl i):=by rw[RD]
def RD.str' {G:Hp}{i:Str}:RD K mg G (.str i) (.str i):=by rw[RD]
def RDs.ne_nil {G:Hp}{l:List D}{xs:List V}(r:RDs K mg G l xs):xs=[]↔l=[]:=by
 have:=r.len
 constructor
 .rintro rfl;exact um.mp this.symm
 .rintro rfl;simp_all
def zk5:OpR X (binaryOp .Add) (r2 X.K X.mg pAdd):=by
 rintro f s n H x y v u Q I j l ⟨G,A,C,Q0,F,g,o,q,E,h⟩;have d:gAdd A C Q0:=E;unfold gAdd at d
 split at d
 .exact zjX f s n H x y v u Q I j l ⟨_,_,z0z o,z0z q,h.now g d RD.int'⟩
 .exact zat f s n H x y v u Q I j l ⟨_,_,z3i o,z3i q,d.1,h.now g d.2 RD.str'⟩
 .obtain⟨a,t,rfl,r,r1⟩:=z1W o;obtain⟨b,w,rfl,m,r2⟩:=z1W q;exact zgU f s n H _ _ v u Q I j l ⟨a,b,t,w,rfl,rfl,z1j g r,z1j g m,by rw[r1.len,r2.len];exact d.1,λp i=>h.new g i d.2 (RD.newL (r1.app r2) g i)⟩
 .obtain⟨a,t,rfl,r,r1⟩:=z1m o;obtain⟨b,w,rfl,m,r2⟩:=z1m q
  by_cases z:t=[]
  .subst z;have e:=r1.ne_nil.mp rfl;subst e;exact ze3 f s n H _ _ v u Q I j l ⟨a,b,w,rfl,rfl,z0u g r,z0u g m,h.now g d.2 (RD.ofT m r2)⟩
  .refine zgT f s n H _ _ v u Q I j l ⟨a,b,t,w,rfl,rfl,z0u g r,z0u g m,z,by rw[r1.len,r2.len];exact d.1,λe =>?_,λe p i=>h.new g i d.2 (RD.newT (r1.app r2) g i)⟩;have e:=r2.ne_nil.mp e;refine h.now g d.2 ?_
   simp_all
 .exact d.elim
def z5N {g:Int->Int->DK->Prop}{a b:D}{Q:DK}(h:gI g a b Q):∃i j,a = .int i/\b = .int j/\g i j Q:=by
 unfold gI at h
 split at h
 .exact⟨_,_,rfl,rfl,h⟩
 .exact h.elim
def ze9 {f:Value->Value->Sem Value}{C:Int->Int->Prop}{a:Int->Int->Int}{n}(h:OpR X f (rI C λi j =>.int (a i j))):OpR X f (r2 X.K X.mg (fnI (λi j Q=>C i j/\Q (.int (a i j))) n)):=h.imp <| by
 rintro x y H Q ⟨G,d,e,b,r,g,l,m,p,o⟩;obtain⟨i,j,rfl,rfl,c,q⟩:=z5N (show gI (λi j Q=>C i j/\Q _) d e b from p);exact⟨i,j,z0z l,z0z m,c,o.now g q RD.int'⟩
def zk1:OpR X (binaryOp .Sub) (r2 X.K X.mg pSub):=zjR.imp <| by
 rintro x y H Q ⟨G,b,d,a,m,g,e,f,l,h⟩;obtain⟨i,j,rfl,rfl,q⟩:=z5N (show gI (λi j Q=>Q _) b d a from l);exact⟨i,j,z0z e,z0z f,h.now g q RD.int'⟩
def zgW:OpR X (binaryOp .FloorDiv) (r2 X.K X.mg z1u):=ze9 ze2
def zk4:OpR X (binaryOp .Mod) (r2 X.K X.mg pMod):=ze9 zgS
def zk2:OpR X (binaryOp .Pow) (r2 X.K X.mg pPow):=ze9 zjS
def zjQ:UnR X (unaryOp .USub) (r1 X.K X.mg pNeg):=by
 rintro b s j H x v Q I i ⟨G,d,Q0,l,g,e,h,f⟩;have a:gNeg d Q0:=h;unfold gNeg at a
 split at a
 .exact zhM _ s j H x v Q I i ⟨_,z0z e,f.now g a RD.int'⟩
 .exact a.elim
def z0b:Fn:=fnI (λi j Q=>zhF i j/\Q (.int (i*j))) λ_ _ _ _ m h=>⟨h.1,m _ h.2⟩
def zk3:OpR X (binaryOp .Mult) (r2 X.K X.mg z0b):=ze9 zgR
end
end Pu
namespace HT
open PySem PyProof.Rows
section
open PySem.SeqAt
open PySem.AutoSeq1 (wpAny_loadPart')
open PySem.MeetsSeq PySem.MeetsSeq2 PySem.MeetsSeq3
def zdt (A:Around)(s:Shared)(a:Int)(t:Tok)(c:Int)(u:Tok)(prog:Program)(w:World)(E:WvP)(Q:WvP)(h:Q (.bool (decide (c<a))) s):
  wpAny (model prog w) A (richCompare .Gt (.int a t) (.int c u)) Q E s:=
 (PyProof.Rows.gt_int h)
def z6C (l b:Addr)(z01 f:Array Value)(n n2:Nat)(dd Q:Option Addr)(sl W:Array (Option Value))(ns L:List Int)(X:IntsAre z01.toList ns)(Y:IntsAre f.toList L):
  Meets (Builtin.«tuple.__gt__» ⟨[.ref l,.ref b],[]⟩)
   (λ_ R s=>s.heap.get? l=some { cls :=.type "tuple",dict:=dd,data :=.seq z01 n,slots:=sl }/\s.heap.get? b=some { cls :=.type "tuple",dict:=Q,data :=.seq f n2,slots:=W }/\
    R (.ok (.ret (.bool (z0x L ns)))) s):=
 .of_wp λC w A R s h=>by
  obtain⟨K,g,d,N,M⟩:=s;obtain⟨hl,hb,h⟩:=h;have f2:=AutoSeq1.sub_tuple_tuple;have z1:z01.size=ns.length:=by rw[<- X.length];simp
  have z2:f.size=L.length:=by rw[<- Y.length];simp
  wp_walk using u7 hl,u7 hb,jo _ (λE b U=>b.1=none/\U=⟨K,g,d,N,M⟩/\∃(vs O:List Value) (m j:List Int),E=vs.zip O/\
   IntsAre vs m/\IntsAre O j/\m.length+f.size=j.length+z01.size/\R (.ok (.ret (.bool (z0x j m)))) ⟨K,g,d,N,M⟩) _
  case turn=>
   rintro⟨y,x⟩ E b U ⟨F,rfl,vs,O,m,j,p,H,o,i,r⟩
   cases H with
   | nil=>rw[List.zip_nil_left] at p;cases p
   | cons a t I=>
    cases o with
    | nil=>rw[List.zip_nil_right] at p;cases p
    | cons c u J=>
     rw[uT] at p
     injection p with T G
     injection T with hy hx
     subst hy hx;rw[z0P] at r;simp only[wQ] at i;obtain⟨e,he,z⟩:=z9X A.in1 ⟨K,g,d,N,M⟩ a t c u;refine wc (he C w _ _ ?_)
     cases e with
     | true=>
      rw[if_pos (z.mp rfl).symm] at r
      wp_walk
      exact⟨rfl,rfl,_,_,_,_,G,I,J,by omega,r⟩
     | false=>
      rw[if_neg (λq=>absurd (z.mpr (Eq.symm q)) wX)] at r;have S:=zdt A.in1 ⟨K,g,d,N,M⟩ a t c u C w
      wp_walk using S
      exact⟨_,rfl,by simpa using r⟩
  case fin=>
   rintro⟨b1,b2⟩ U ⟨F,rfl,vs,O,m,j,p,H,o,i,r⟩;simp only at F;subst F;have Z:z0x j m=decide (f.size<z01.size):=by
    cases H with
    | nil=>
     cases o with
     | nil=>
      simp only[uc] at i;rw[z2X];exact(w9 (by omega)).symm
     | cons c u hw=>
      simp only[uc,wQ] at i;rw[z3U];exact(w9 (by omega)).symm
    | cons a t Z=>
     cases o with
     | nil=>
      simp only[uc,wQ] at i;rw[z3T];exact(wE (by omega)).symm
     | cons c u hw=>
      rw[uT] at p
      cases p
   rw[Z] at r
   wp_walk
   exact⟨_,rfl,by simpa[Builtin.Tuple.tupleCompareSizes] using r⟩
  case h=>
   exact⟨rfl,rfl,z01.toList,f.toList,ns,L,rfl,X,Y,by omega,h⟩
end
section
variable {prog:Program}{w:World}{A:Around}{E:WvP}{s:Shared}
def z6v {l b:Addr}{z01 a:Array Value}{ns j:List Int}{Q:WvP}(H:IsTup s.heap l z01)(u:IsTup s.heap b a)(C:IntsAre z01.toList ns)(G:IntsAre a.toList j)
  (I:A.units<cLine) (h:Q (.bool (z0x j ns)) s):wpAny (model prog w) A (compareOp .Gt (.ref l) (.ref b)) Q E s:=by
 obtain⟨⟨r,t,p,sl⟩,q,y,n,z⟩:=id H;obtain⟨⟨o,f,e,m⟩,d,g,J,i⟩:=id u;subst y z g i;exact richCompare_meets_room (op :=.Gt) ⟨_,q,rfl⟩ ⟨_,d,rfl⟩ PySem.F.slot_tuple_gt PySem.F.entry_tuple_gt (PySem.F.args_tuple_gt_2 _ _) (z6C l b _ _ n J t f sl m ns j C G)
  ⟨q,d,⟨(λx=>nomatch x),h⟩⟩ I
end
end HT
namespace Pu
open PySem PySem.Spec PyProof.Rows L2
def ints? : List D->Option (List Int)
 | []=>some []
 | .int i::r=>match ints? r with
  | some l=>some (i::l)
  | none=>none
 | _::_=>none
theorem z3o:∀{l:List D}{ns:List Int},ints? l=some ns->l=ns.map D.int
 | [],ns,h=>by
  have  := by simpa[ints?] using h.symm
  subst this;rfl
 | .int i::r,ns,h=>by
  unfold ints? at h
  cases q:ints? r with
  | none=>simp_all
  | some l=>
   rw[q] at h
   cases h
   rw[z3o q];rfl
 | .non::_,_,h=>by simp[ints?] at h
 | .bl _::_,_,h=>by simp[ints?] at h
 | .str _::_,_,h=>by simp[ints?] at h
 | .tup _::_,_,h=>by simp[ints?] at h
 | .lst _::_,_,h=>by simp[ints?] at h
 | .dct _ _::_,_,h=>by simp[ints?] at h
 | .fn _::_,_,h=>by simp[ints?] at h
 | .exc _::_,_,h=>by simp[ints?] at h
 | .ptr _::_,_,h=>by simp[ints?] at h
 | .fz _ _::_,_,h=>by simp[ints?] at h
 | .ins _ _ _::_,_,h=>by simp[ints?] at h
def z9P (ns:List Int):ints? (ns.map D.int)=some ns:=by
 induction ns with
 | nil=>rfl
 | cons n ns a=>rw[wL,ints?, a]
def onI (o:Option (List Int))(Q:List Int->Prop):Prop:=match o with
 | some l=>Q l
 | none=>False
def z59 {o:Option (List Int)}{Q Q':List Int->Prop}(m:∀d,Q d->Q' d)(h:onI o Q):onI o Q':=by
 cases o with
 | none=>exact h
 | some d=>exact m _ h
def z58 {o:Option (List Int)}{Q:List Int->Prop}(h:onI o Q):∃d,o=some d/\Q d:=by
 cases o with
 | none=>exact h.elim
 | some d=>exact⟨d,rfl,h⟩
def gCmp (f:Int->Int->Bool)(t:List Int->List Int->Bool)(a b:D)(Q:DK):Prop:=match a,b with
 | .int i,.int j=>Q (.bl (f i j))
 | .tup l,.tup m=>onI (ints? l) λe=>onI (ints? m) λd=>Q (.bl (t e d))
 | _,_=>False
def z8b {f:Int->Int->Bool}{t:List Int->List Int->Bool}(a b:D)(Q Q':DK)(m:∀d,Q d->Q' d)(h:gCmp f t a b Q):gCmp f t a b Q':=by
 unfold gCmp at h ⊢
 split at h
 .exact m _ h
 .exact z59 (λ_ h=>z59 (λ_ h=>m _ h) h) h
 grind
def pLt:Fn:=fn2 (gCmp (λi j=>decide (i<j)) λb a=>HT.z0x b a) z8b
def pGt:Fn:=fn2 (gCmp (λi j=>decide (j<i)) λb a=>HT.z0x a b) z8b
def pLe:Fn:=fnI (λi j Q=>Q (.bl (decide (i<=j)))) λ_ _ _ _ m h=>m _ h
section
variable {X:Cx}{K:W.Frag}{mg:WmP}
theorem z3E {G:Hp}:∀(ns:List Int) {xs:List V},RDs K mg G (ns.map D.int) xs->xs=ns.map V.int
 | [],xs,h=>by subst h;rfl
 | n::ns,xs,h=>by
  obtain⟨x,r,rfl,a,b⟩:=h;rw[z0z a,z3E ns b];rfl
theorem z5b {G:Hp}:∀(ns:List Int),RDs K mg G (ns.map D.int) (ns.map V.int)
 | []=>RDs.nil
 | n::ns=>RDs.cons RD.int' (z5b ns)
def zk0 {op:CmpOp}{f:Int->Int->Bool}{t:List Int->List Int->Bool}{J}(F:OpR X (compareOp op) (rI0 λi j =>.bl (f i j)))(M:OpR X (compareOp op) (λx y H Q=>∃a b ns e,x = .ref a/\y = .ref b/\SqT X.K H a (ns.map V.int)/\SqT X.K H b (e.map V.int)/\Q (.bl (t ns e)) H)):
  OpR X (compareOp op) (r2 X.K X.mg (fn2 (gCmp f t) J)):=by
 rintro n s w H x y v u Q I o p ⟨G,z,A,Q0,N,g,h,l,L,m⟩;have d:gCmp f t z A Q0:=L;unfold gCmp at d
 split at d
 .exact F _ s w H x y v u Q I o p ⟨_,_,z0z h,z0z l,m.now g d RD.bl'⟩
 .obtain⟨ns,C,d⟩:=z58 d;obtain⟨e,E,d⟩:=z58 d;obtain⟨a,O,rfl,q,r1⟩:=z1m h;obtain⟨b,R,rfl,r,r2⟩:=z1m l;rw[z3o C] at r1;rw[z3o E] at r2;rw[z3E ns r1] at q;rw[z3E e r2] at r;exact M _ s w H _ _ v u Q I o p ⟨a,b,ns,e,rfl,rfl,z0u g q,z0u g r,m.now g d RD.bl'⟩
 .exact d.elim
def zm5 (a:X.A.units+64<cLine):OpR X (compareOp .Lt) (r2 X.K X.mg pLt):=zk0 zlZ (zjU (by omega))
def zjV (j:X.A.units<cLine):OpR X (compareOp .Gt) (λx y H Q=>∃a b ns d,x = .ref a/\y = .ref b/\SqT X.K H a (ns.map V.int)/\SqT X.K H b (d.map V.int)/\Q (.bl (HT.z0x d ns)) H):=by
 intro f s r H x y v u Q I o p h;obtain⟨a,b,ns,d,rfl,rfl,g,i,q⟩:=h
 cases o
 cases p
 obtain⟨l,r1,m,_⟩:=I.tuple g;obtain⟨e,r2,n,_⟩:=I.tuple i;exact HT.z6v m n (z3I r1) (z3I r2) j ⟨.bl _,H,I,rfl,q⟩
def zm7 (a:X.A.units+64<cLine):OpR X (compareOp .Gt) (r2 X.K X.mg pGt):=zk0 zm1 (zjV (by omega))
def zm6 (_:X.A.units+64<cLine):OpR X (compareOp .LtE) (r2 X.K X.mg pLe):=zm0.imp <| by
 rintro x y H Q ⟨G,b,d,a,m,g,e,f,l,h⟩;obtain⟨i,j,rfl,rfl,q⟩:=z5N (show gI (λi j Q=>Q _) b d a from l);exact⟨i,j,z0z e,z0z f,h.now g q RD.bl'⟩
def pGeI:Fn:=fnI (λi j Q=>Q (.bl (decide (j<=i)))) λ_ _ _ _ m h=>m _ h
def zm8:OpR X (compareOp .GtE) (r2 X.K X.mg pGeI):=zm2.imp <| by
 rintro x y H Q ⟨G,b,d,a,m,g,e,f,l,h⟩;obtain⟨i,j,rfl,rfl,q⟩:=z5N (show gI (λi j Q=>Q _) b d a from l);exact⟨i,j,z0z e,z0z f,h.now g q RD.bl'⟩
end
mutual
def py:D->PyData
 | .non =>.none
 | .bl b =>.bool b
 | .int i =>.int i
 | .str x =>.str x
 | .tup l =>.tuple (pys l)
 | .lst l =>.list (pys l)
 | _ =>.none
def pys:List D->List PyData
 | []=>[]
 | d::a=>py d::pys a
end
def Da:Nat->D->Prop
 | _,.non=>True
 | _,.bl _=>True
 | _,.int _=>True
 | _,.str x=>PyData.strOk x=true
 | 0,.tup _=>False
 | n+1,.tup l=>∀d∈l,Da n d
 | 0,.lst _=>False
 | n+1,.lst l=>∀d∈l,Da n d
 | _,.dct _ _=>False
 | _,.fn _=>False
 | _,.exc _=>False
 | _,.ptr _=>False
 | _,.fz _ _=>False
 | _,.ins _ _ _=>False
section
variable {X:Cx}{K:W.Frag}{mg:WmP}
theorem Da.tup {n:Nat}{l:List D}:Da (n+1) (.tup l)↔∀d∈l,Da n d:=by rw[Da]
theorem Da.lst {n:Nat}{l:List D}:Da (n+1) (.lst l)↔∀d∈l,Da n d:=by rw[Da]
theorem Da.int {n:Nat}{i:Int}:Da n (.int i):=by cases n <;> (trivial)
theorem Da.non {n:Nat}:Da n .non:=by cases n <;> (trivial)
theorem Da.str {n:Nat}{x:Str}:Da n (.str x)↔PyData.strOk x=true:=by cases n <;> rw[Da]
def Da.canLay:∀(n:Nat) (d:D),Da n d->(py d).canLay0=true/\(py d).depth<=n:=by
 intro n
 induction n with
 | zero=>
  intro d h
  cases d with
  | non=>exact⟨rfl,wq _⟩
  | bl _=>exact⟨rfl,wq _⟩
  | int _=>exact⟨rfl,wq _⟩
  | str x=>exact⟨by exact Da.str.mp h,by rw[py,PyData.depth];exact wq _⟩
  | _=>rw[Da] at h;exact h.elim
 | succ n o=>
  have all:∀l:List D,(∀d∈l,Da n d)->PyData.canLayAll0 (pys l)=true/\PyData.depthAll (pys l)<=n:=by
   intro l
   induction l with
   | nil=>intro _;exact⟨rfl,vn _⟩
   | cons d l e=>
    intro h;obtain⟨f,g⟩:=o d (h d ww);obtain⟨i,j⟩:=e λx m=>h x (wp _ m);rw[pys,PyData.canLayAll0,PyData.depthAll,f,i];exact⟨rfl,Nat.max_le.mpr ⟨g,j⟩⟩
  intro d h
  cases d with
  | non=>exact⟨rfl,vn _⟩
  | bl _=>exact⟨rfl,vn _⟩
  | int _=>exact⟨rfl,vn _⟩
  | str x=>exact⟨by exact Da.str.mp h,by rw[py,PyData.depth];exact vn _⟩
  | tup l=>
   obtain⟨a,b⟩:=all l (Da.tup.mp h);exact⟨by rw[py,PyData.canLay0];exact a,by rw[py,PyData.depth];omega⟩
  | lst l=>
   obtain⟨a,b⟩:=all l (Da.lst.mp h);exact⟨by rw[py,PyData.canLay0];exact a,by rw[py,PyData.depth];omega⟩
  | _=>rw[Da] at h;exact h.elim
theorem Da.shaped {n:Nat}{d:D}(h:Da n d)(e:n<=64):PySem.SeqAt.shaped (py d)=true:=by
 obtain⟨a,b⟩:=Da.canLay n d h;unfold PySem.SeqAt.shaped;rw[a,wE (wM b e)]
 rfl
def Da.rp {G:Hp}:∀(n:Nat) (d:D) {v:V},Da n d->RD K mg G d v->Rp K G (py d) v:=by
 intro n
 induction n with
 | zero=>
  intro d v h r
  cases d with
  | non=>rw[py,Rp];exact z7J r
  | bl _=>rw[py,Rp];exact z8N r
  | int _=>rw[py,Rp];exact z0z r
  | str x=>rw[py,Rp];exact z3i r
  | _=>rw[Da] at h;exact h.elim
 | succ n i=>
  have all:∀(l:List D) {xs:List V},(∀d∈l,Da n d)->RDs K mg G l xs->RpL K G (pys l) xs:=by
   intro l
   induction l with
   | nil=>intro xs _ r;rw[RDs] at r;subst r;rw[pys,RpL]
   | cons d l f=>
    intro xs h r;obtain⟨x,j,rfl,r1,r2⟩:=r;exact⟨x,j,rfl,i d (h d ww) r1,f (λx g=>h x (wp _ g)) r2⟩
  intro d v h r
  cases d with
  | non=>rw[py,Rp];exact z7J r
  | bl _=>rw[py,Rp];exact z8N r
  | int _=>rw[py,Rp];exact z0z r
  | str x=>rw[py,Rp];exact z3i r
  | tup l=>
   obtain⟨a,xs,rfl,b,e⟩:=z1m r;rw[py,Rp];exact⟨a,xs,rfl,b,all l (Da.tup.mp h) e⟩
  | lst l=>
   obtain⟨a,xs,rfl,b,e⟩:=z1W r;rw[py,Rp];exact⟨a,xs,rfl,b,all l (Da.lst.mp h) e⟩
  | _=>rw[Da] at h;exact h.elim
end
def deq (a b:D):Bool:=PyData.eqv (py a) (py b)
def gEq (neg:Bool)(a b:D)(Q:DK):Prop:=match a,b with
 | .int i,.int j=>Q (.bl (if neg then !decide (i=j) else decide (i=j)))
 | .str x,.str y=>Q (.bl (if neg then !decide (x=y) else decide (x=y)))
 | .bl x,.bl y=>Q (.bl (if neg then !decide (x=y) else decide (x=y)))
 | a,b=>Da 60 a/\Da 60 b/\Q (.bl (if neg then !deq a b else deq a b))
def z7e {neg:Bool}(a b:D)(Q Q':DK)(m:∀d,Q d->Q' d)(h:gEq neg a b Q):gEq neg a b Q':=by
 unfold gEq at h ⊢
 split at h
 .exact m _ h
 .exact m _ h
 .exact m _ h
 simp_all
def pEq:Fn:=fn2 (gEq false) z7e
def pNe:Fn:=fn2 (gEq true) z7e
section
variable {X:Cx}{K:W.Frag}{mg:WmP}
def z7j {p q:Prop}[Decidable p][Decidable q](h:p↔q):decide p=decide q:=by simp_all
def zfl {op:CmpOp}{neg:Bool}(l:OpR X (compareOp op) (λx y H Q=>scal x y=true/\Q (.bl (if neg then !decide (x=y) else decide (x=y))) H))(t:OpR X (compareOp op) (rEqD X.K neg)):OpR X (compareOp op) (r2 X.K X.mg (fn2 (gEq neg) z7e)):=by
 rintro o s j H x y v u Q I f i ⟨G,p,r,Q0,z,g,r1,r2,w,e⟩;have a:gEq neg p r Q0:=w;unfold gEq at a
 split at a
 .have b:=z0z r1;have d:=z0z r2;subst b;subst d;refine l _ s j H _ _ v u Q I f i ⟨rfl,?_⟩;rw[z7j (⟨λh=>V.int.inj h,λh=>congrArg V.int h⟩)];exact e.now g a RD.bl'
 .have b:=z3i r1;have d:=z3i r2;subst b;subst d;refine l _ s j H _ _ v u Q I f i ⟨rfl,?_⟩;rw[z7j (⟨λh=>V.str.inj h,λh=>congrArg V.str h⟩)];exact e.now g a RD.bl'
 .have b:=z8N r1;have d:=z8N r2;subst b;subst d;refine l _ s j H _ _ v u Q I f i ⟨rfl,?_⟩;rw[z7j (⟨λh=>V.bl.inj h,λh=>congrArg V.bl h⟩)];exact e.now g a RD.bl'
 .obtain⟨m,n,q⟩:=a;exact t _ s j H x y v u Q I f i ⟨_,_,(Da.rp 60 _ m r1).same g,(Da.rp 60 _ n r2).same g,m.shaped (by decide),n.shaped (by decide),e.now g q RD.bl'⟩
def zm9 (a:X.A.units+64<cLine):OpR X (compareOp .Eq) (r2 X.K X.mg pEq):=zfl (zm3.imp λ_ _ _ _ h=>h) (zjW a)
def zm4 (a:X.A.units+64<cLine):OpR X (compareOp .NotEq) (r2 X.K X.mg pNe):=zfl (zlY.imp λ_ _ _ _ h=>h) (zjT a)
def isN:D->Bool
 | .non=>true
 | _=>false
def gIs (neg:Bool)(a b:D)(Q:DK):Prop:=match b with
 | .non=>Q (.bl (if neg then !isN a else isN a))
 | _=>False
def zev {neg:Bool}(a b:D)(Q Q':DK)(m:∀d,Q d->Q' d)(h:gIs neg a b Q):gIs neg a b Q':=by
 unfold gIs at h ⊢
 split at h
 .exact m _ h
 omega
def z9z:Fn:=fn2 (gIs true) zev
def zix {G:Hp}{d:D}{v:V}(r:RD K mg G d v):decide (v = .non)=isN d:=by
 cases d with
 | non=>rw[z7J r];rfl
 | bl b=>rw[z8N r];rfl
 | int b=>rw[z0z r];rfl
 | str b=>rw[z3i r];rfl
 | tup l=>obtain⟨a,e,rfl,_⟩:=z1m r;rfl
 | lst l=>obtain⟨a,e,rfl,_⟩:=z1W r;rfl
 | dct k v=>obtain⟨a,e,rfl,_⟩:=r;rfl
 | fn n=>obtain⟨a,rfl,_⟩:=r;rfl
 | exc n=>obtain⟨a,e,rfl,_⟩:=r;rfl
 | ptr a=>subst r;rfl
 | fz k v=>obtain⟨a,e,rfl,_⟩:=r;rfl
 | ins n fs f=>obtain⟨p,C,g,e,rfl,_⟩:=r;rfl
def zea:OpR X (compareOp .IsNot) (r2 X.K X.mg z9z):=zgQ.imp <| by
 rintro x y H Q ⟨G,b,d,Q0,h,g,r1,r2,f,e⟩;have a:gIs _ b d Q0:=f;unfold gIs at a
 split at a
 .exact⟨z7J r2,by rw[zix r1];exact e.now g a RD.bl'⟩
 .exact a.elim
def z1c {g:D->DK->Prop}{m}{b:List D}{Q:DK}{e:XP}(h:(fn1 g m).run b Q e):∃d,b=[d]/\g d Q:=by
 match b,h with
 | [a],h=>exact⟨a,rfl,h⟩
 | [],h=>exact h.elim
 | _::_::_,h=>exact h.elim
def zey {g:D->D->DK->Prop}{m}{f:List D}{Q:DK}{i:XP}(h:(fn2 g m).run f Q i):∃d e,f=[d,e]/\g d e Q:=by
 match f,h with
 | [a,b],h=>exact⟨a,b,rfl,h⟩
 | [],h=>exact h.elim
 | [_],h=>exact h.elim
 | _::_::_::_,h=>exact h.elim
def gLen (d:D)(Q:DK):Prop:=match d with
 | .lst l=>Q (.int (l.length:Int))
 | .tup l=>Q (.int (l.length:Int))
 | .str x=>x.length<=sizeLine/\Q (.int (x.length:Int))
 | _=>False
def pLen:Fn:=fn1 gLen λd Q a m h=>by
 unfold gLen at h ⊢
 split at h
 .exact m _ h
 .exact m _ h
 .exact⟨h.1,m _ h.2⟩
 .exact h.elim
def zl0:z0C X (.builtin "len") (rN X.K X.mg pLen):=(z0C.or z8p z8o).imp <| by
 rintro vs H Q ⟨G,o,m,n,g,rds,l,i⟩;obtain⟨d,rfl,b⟩:=z1c l;obtain⟨v,rfl,rd⟩:=rds1 rds;unfold gLen at b
 split at b
 .obtain⟨a,j,rfl,f,h⟩:=z1W rd;exact .inl ⟨a,j,rfl,.inl (z1j g f),by rw[h.len];exact i.now g b RD.int'⟩
 .obtain⟨a,j,rfl,f,h⟩:=z1m rd;exact .inl ⟨a,j,rfl,.inr (z0u g f),by rw[h.len];exact i.now g b RD.int'⟩
 .have e:=z3i rd;subst e;exact .inr ⟨_,rfl,b.1,i.now g b.2 RD.int'⟩
 .exact b.elim
def gAbs (d:D)(Q:DK):Prop:=match d with
 | .int i=>Q (.int (if i<0 then -i else i))
 | _=>False
def pAbs:Fn:=fn1 gAbs λd Q a m h=>by
 unfold gAbs at h ⊢
 split at h
 .exact m _ h
 .exact h.elim
def zl2:z0C X (.builtin "abs") (rN X.K X.mg pAbs):=zeP.imp <| by
 rintro vs H Q ⟨G,j,h,i,g,rds,f,b⟩;obtain⟨d,rfl,a⟩:=z1c f;obtain⟨v,rfl,rd⟩:=rds1 rds;unfold gAbs at a
 split at a
 .have e:=z0z rd;subst e;exact⟨_,rfl,b.now g a RD.int'⟩
 .exact a.elim
def zcp (d:D)(Q:DK):Prop:=match d with
 | .lst l=>Q (.tup l)
 | .tup l=>Q (.tup l)
 | _=>False
def z1Y:Fn:=fn1 zcp λd Q a m h=>by
 unfold zcp at h ⊢
 split at h
 .exact m _ h
 .exact m _ h
 .exact h.elim
def za2:z0C X (.type "tuple") (rN X.K X.mg z1Y):=z7m.imp <| by
 rintro vs H Q ⟨G,o,m,n,g,rds,l,i⟩;obtain⟨d,rfl,b⟩:=z1c l;obtain⟨v,rfl,rd⟩:=rds1 rds;unfold zcp at b
 split at b
 .obtain⟨a,h,rfl,e,f⟩:=z1W rd;exact⟨a,h,rfl,.inl ⟨z1j g e,λp j=>i.new g j b (RD.newT f g j)⟩⟩
 .obtain⟨a,h,rfl,e,f⟩:=z1m rd;exact⟨a,h,rfl,.inr ⟨z0u g e,i.now g b (RD.ofT e f)⟩⟩
 .exact b.elim
def zcs (d:D)(Q:DK):Prop:=match d with
 | .lst l=>Q (.lst l)
 | .tup l=>Q (.lst l)
 | _=>False
def zbF:Fn:=fn1 zcs λd Q a m h=>by
 unfold zcs at h ⊢
 split at h
 .exact m _ h
 .exact m _ h
 .exact h.elim
def rNf (K:W.Frag)(mg:WmP)(F:Fn):List V->Hp->VK->Prop:=λvs H Q=>∃G b a d,Same G H/\RDs K mg G b vs/\F.run b a d/\Kf K mg G H a Q
def Kf.same {G b H e:Hp}{f:DK}{Q:VK}(h:Kf K mg G H f Q)(g:Gr G H b)(k:Same H e):Kf K mg b e f Q:=λd a i j q l m g3 o n p=>h d a i j q (g.trans k l) m (z03 k g3) (z0M k o) n p
def Kf.newL {G H:Hp}{b:DK}{Q:VK}{p:Addr}{l:List D}{xs:List V}(h:Kf K mg G H b Q)(g:Same G H)(a:H p=none)(q:b (.lst l))(r:RDs K mg G l xs):Q (.ref p) (upd H p (.lst xs)):=
 h _ p G _ q Gr.refl (z03 g (z0f a _)) (z0f a _) a (z0M g a) ⟨xs,z06,r⟩
def tfN {E:XK}{e:L2.St}{H:Hp}{Q:VK}{F:Fn}{es:List Ex}(h:tf K mg E (.op F es) e H Q):tCB (rNf K mg F) (txa K mg E es) e H Q:=by
 obtain⟨G,p,d,a,hs,g,n,m,o⟩:=h;exact⟨G,p,λb=>F.run b d a,a,hs,g,n,λb vs f q l i j g3 rd=>⟨f,b,d,a,j,rd,l,m.same i g3⟩,o⟩
def zja {E:XK}{e:Expr}{es:List Expr}{xs:List Ex}{a:Pos}{f:Str}{p:Pos}{id:String}{F:Fn}(i:z0C X (.type id) (rNf X.K X.mg F))(l:Gl X f)(m:X.mg f=none)(o:bootBuiltins f=some (.type id))(g:QXA X E (e::es) xs)(n:autoParam (f≠"__name__") jB1)(b:autoParam ((f == ("__debug__":Str))=false) jB1)
  (j:autoParam (starEach (e::es) X.env=(false,eval e X.env)::starEach es X.env) jA1) (d:autoParam ((backTo a (starEach es X.env)).any (·.1)=false) jA1):QF X E (.Call (.Name f p) (e::es) [] a) (.op F xs):=
 QE.imp (z2g i l m o g n b j d) λ_ _ _ h=>tfN h
def zlK {E:XK}{e:Expr}{es:List Expr}{xs:List Ex}{a:Pos}{f:Str}{p:Pos}{id:String}{F:Fn}(i:z0C X (.builtin id) (rNf X.K X.mg F))(l:Gl X f)(m:X.mg f=none)(o:bootBuiltins f=some (.builtin id))(g:QXA X E (e::es) xs)(n:autoParam (f≠"__name__") jB1)(b:autoParam ((f == ("__debug__":Str))=false) jB1)
  (j:autoParam (starEach (e::es) X.env=(false,eval e X.env)::starEach es X.env) jA1) (d:autoParam ((backTo a (starEach es X.env)).any (·.1)=false) jA1):QF X E (.Call (.Name f p) (e::es) [] a) (.op F xs):=
 QE.imp (z4h i l m o g n b j d) λ_ _ _ h=>tfN h
def zcE:z0C X (.type "list") (rNf X.K X.mg zbF):=z8n.imp <| by
 rintro vs H Q ⟨G,o,m,n,g,rds,l,j⟩;obtain⟨d,rfl,b⟩:=z1c l;obtain⟨v,rfl,rd⟩:=rds1 rds;unfold zcs at b
 split at b
 .obtain⟨a,i,rfl,e,f⟩:=z1W rd;exact⟨a,i,rfl,.inl (z1j g e),λp h=>j.newL g h b f⟩
 .obtain⟨a,i,rfl,e,f⟩:=z1m rd;exact⟨a,i,rfl,.inr (z0u g e),λp h=>j.newL g h b f⟩
 .exact b.elim
def zcr (d:D)(Q:DK):Prop:=match d with
 | .lst l=>onI (ints? l) λa=>a≠[]/\∀m,m∈a->(∀x∈a,x<=m)->Q (.int m)
 | _=>False
def zaJ (d:D)(Q Q':DK)(m:∀d,Q d->Q' d)(h:zcr d Q):zcr d Q':=by
 unfold zcr at h ⊢
 split at h
 .exact z59 (λ_ q=>⟨q.1,λx a b=>m _ (q.2 x a b)⟩) h
 grind
def gSum (d:D)(Q:DK):Prop:=match d with
 | .lst l=>onI (ints? l) λa=>Q (.int a.sum)
 | _=>False
def pSum:Fn:=fn1 gSum λd Q a m h=>by
 unfold gSum at h ⊢
 split at h
 .exact z59 (λ_ q=>m _ q) h
 .exact h.elim
def zkZ (j:X.calm=true):z0C X (.builtin "sum") (rN X.K X.mg pSum):=(zcJ j).imp <| by
 rintro vs H Q ⟨G,p,n,o,g,rds,m,l⟩;obtain⟨d,rfl,b⟩:=z1c m;obtain⟨v,rfl,rd⟩:=rds1 rds;unfold gSum at b
 split at b
 .obtain⟨i,e,q⟩:=z58 b;obtain⟨a,r,rfl,f,h⟩:=z1W rd;rw[z3o e] at h;rw[z3E i h] at f;exact⟨a,i,rfl,z1j g f,l.now g q RD.int'⟩
 .exact b.elim
def gIx (a b:D)(Q:DK):Prop:=match a,b with
 | .lst l,.int i=>onV (atI l i) Q
 | .tup l,.int i=>onV (atI l i) Q
 | .str x,.int i=>x.length<=sizeLine/\∃c,atI x.cps.toList i=some c/\Q (.str ⟨#[c]⟩)
 | _,_=>False
def zeu (a b:D)(Q Q':DK)(m:∀d,Q d->Q' d)(h:gIx a b Q):gIx a b Q':=by
 unfold gIx at h ⊢
 split at h
 .exact z9C m h
 .exact z9C m h
 .obtain⟨e,c,f,g⟩:=h;exact⟨e,c,f,m _ g⟩
 grind
def pIx:Fn:=fn2 gIx zeu
def IxR.imp {r r':R2}(h:IxR X r)(i:∀x y H Q,r' x y H Q->r x y H Q):IxR X r':=λb a d s g H x y v u Q I e f q hs=>h _ _ _ s g H x y v u Q I e f (i x y H Q q) hs
def ix_p:IxR X (r2 X.K X.mg pIx):=IxR.imp zkK <| by
 rintro x y H Q ⟨G,n,o,Q0,s,g,r1,r2,r,j⟩;have b:gIx n o Q0:=r;unfold gIx at b
 split at b
 .obtain⟨d,e,q⟩:=z9B b;obtain⟨a,m,rfl,f,h⟩:=z1W r1;obtain⟨v,i,l⟩:=h.at e;exact .inl ⟨a,m,_,v,rfl,z0z r2,z1j g f,i,j.now g q l⟩
 .obtain⟨d,e,q⟩:=z9B b;obtain⟨a,m,rfl,f,h⟩:=z1m r1;obtain⟨v,i,l⟩:=h.at e;exact .inr (.inl ⟨a,m,_,v,rfl,z0z r2,z0u g f,i,j.now g q l⟩)
 .obtain⟨f,c,h,p⟩:=b;exact .inr (.inr ⟨_,_,c,z3i r1,z0z r2,f,h,j.now g p RD.str'⟩)
 .exact b.elim
def zlC {E:XK}{a b:Expr}{x y:Ex}{d:Pos}(e:QX X E a x)(f:QX X E b y)(hs:z9j b):QX X E (.Subscript a b d) (.op pIx [x,y]):=QE.imp (zlN ix_p e f hs) λ_ _ _ h=>tx2 lk2 h
end
end Pu
namespace HT
open PySem PyProof.Rows
section
variable {prog:Program}{w:World}{A:Around}{E:WvP}{s:Shared}
def zaZ {t sl:Addr}{z01:Array Value}{q r vs:Value}{R:Int × Int × Nat}{Q:WvP}(d:IsTup s.heap t z01)(hs:s.heap.IsSliceOf sl q r vs)
  (n:∀{A:Around}{E:WvP}{Q:Int × Int × Nat->Shared->Prop},Q R s->wpAny (model prog w) A (Builtin.Slice.sliceApplied (.ref sl) (pure (z01.size:Int))) Q E s) (hsz:R.2.2<=sizeLine)
  (e:(R.1 == 0 && R.2.1 == 1 && R.2.2 == z01.size)=true->Q (.ref t) s)
  (l:¬ (R.1 == 0 && R.2.1 == 1 && R.2.2 == z01.size)=true->Q (.ref s.heap.objs.size) { s with heap:=s.heap.push { cls :=.type "tuple",data :=.seq ((List.range R.2.2).filterMap λ(k:Nat)=>z01[(R.1+(k:Int)*R.2.1).toNat]?).toArray } }):
  wpAny (model prog w) A (getItem (.ref t) (.ref sl)) Q E s:=by
 obtain⟨p,i,g,o⟩:=id hs;have f:s.TypeIs (.ref sl) "slice":=⟨p,i,g⟩
 have a:sizeOk (.seq ((List.range R.2.2).filterMap λ(k:Nat)=>z01[(R.1+(k:Int)*R.2.1).toNat]?).toArray):=by
  show ((List.range R.2.2).filterMap λ(k:Nat)=>z01[(R.1+(k:Int)*R.2.1).toNat]?).toArray.size<=sizeLine;rw[vd];refine wM (List.length_filterMap_le _ _) ?_;rw[v8];exact hsz
 unfold getItem
 try with_reducible refine vS ?_
 first | refine wc (wg ?_) | skip
 refine wc (wpAny_sequenceKey d.typeIs (by decide) ?_);refine wc (vm (name:=Str.ofString "__getitem__") d.typeIs vP
  (vA vP d.typeIs entry_tuple_getitem ?_ (args_tuple_getitem _ _)))
 show wpAny _ _ (Builtin.Tuple.tupleItemsOf (.ref t) >>= _) _ _ s;refine wc (tupleItemsOf_ d ?_);refine wc (jd f ?_);rw[if_pos (by decide)];refine wc (n ?_);obtain⟨r1,r2,j⟩:=R;show wpAny _ _ (if (r1 == 0 && r2 == 1 && j == z01.size)=true then _ else _) _ _ s
 by_cases b:(r1 == 0 && r2 == 1 && j == z01.size)=true
 .rw[if_pos b];refine wc (m:=Builtin.Tuple.tupleIsExact (.ref t)) ?_;refine wc (jd d.typeIs (wg ?_));rw[if_pos (by decide)]
  first
   | exact wc (wg (wg ⟨_,rfl,wg (e b)⟩))
   | exact wc (jX (wg ⟨_,rfl,wg (e b)⟩))
   | exact wc (jX (wc (wg (wg ⟨_,rfl,wg (e b)⟩))))
   | exact wg ⟨_,rfl,wg (e b)⟩
 .rw[if_neg b];have h:=l b
  first
   | exact wc (m:=Builtin.Tuple.tupleExact _) (wP (wg ⟨_,rfl,wg h⟩) a)
   | exact wc (m:=Builtin.Tuple.tupleExact _) (wP (wc (wg (wg ⟨_,rfl,wg h⟩))) a)
   | exact wc (wc (m:=Builtin.Tuple.tupleExact _) (wP (wg (wg ⟨_,rfl,wg h⟩)) a))
   | exact wc (wc (m:=Builtin.Tuple.tupleExact _) (wP (wg ⟨_,rfl,wg h⟩) a))
end
end HT
namespace Pu
open PySem PySem.Spec PyProof.Rows L2
def part (o:Option Ex)(a:Pu.Env)(K:Option Int->Prop)(X:XP):Prop:=match o with
 | none=>K none
 | some e=>e.run a (λd=>isI d λi=>K (some i)) X
def z7Q {o:Option Ex}{a:Pu.Env}{K b:Option Int->Prop}{X X':XP}(m:∀i,K i->b i)(f:∀x,X x->X' x)(h:part o a K X):part o a b X':=by
 cases o with
 | none=>exact m _ h
 | some e=>exact e.mono a _ _ X X' (λd q=>z9O (λi q=>m _ q) q) f h
def cutD (l:List D)(a b:Option Int):List D:=(l.drop (HT.sIx l.length 0 a)).take (HT.sIx l.length l.length b - HT.sIx l.length 0 a)
def slcD (d:D)(b a:Option Int)(Q:DK):Prop:=match d with
 | .lst l=>Q (.lst (cutD l b a))
 | .tup l=>Q (.tup (cutD l b a))
 | .str x=>x.length<=sizeLine/\Q (.str (Txt.slice x b a))
 | _=>False
def zb5 {d:D}{b a:Option Int}{Q Q':DK}(m:∀d,Q d->Q' d)(h:slcD d b a Q):slcD d b a Q':=by
 unfold slcD at h ⊢
 split at h
 .exact m _ h
 .exact m _ h
 .simp_all
 omega
def Ex.sl (e:Ex)(h g:Option Ex):Ex:=⟨λa Q X=>e.run a (λd=>part h a (λl=>part g a (λu=>slcD d l u Q) X) X) X,λa Q i X f m b q=>e.mono a _ _ X f (λd q=>z7Q (λl q=>z7Q (λu q=>zb5 m q) b q) b q) b q⟩
def rSlP (K:W.Frag)(mg:WmP):V->Option Int->Option Int->Hp->VK->Prop:=λx e b H Q=>∃G d a,Same G H/\RD K mg G d x/\slcD d e b a/\Kt K mg G H a Q
section
variable {X:Cx}{K:W.Frag}{mg:WmP}{E:XK}
def zdc:SlR X (λx g d H Q=>∃a xs,x = .ref a/\SqT X.K H a xs/\(HT.sIx xs.length 0 g=0/\HT.sIx xs.length xs.length d=xs.length)/\Q (.ref a) H):=by
 intro i s u H x v p t g d sl Q I m hs pl l h;obtain⟨a,xs,rfl,j,n,q⟩:=h
 cases m
 obtain⟨b,r,f,o⟩:=I.tuple j;have e:b.toArray.size=xs.length:=by exact r.length.symm
 refine⟨"tuple",_,vP.lookup,f.typeIs,?_⟩;refine HT.zaZ f hs (λh=>HT.z35 hs pl l h) ?_ (λ_=>⟨.ref a,H,I,rfl,q⟩) (λz =>?_)
 .simp_all
 simp_all
def zaN {xs:List D}{b a:Option Int}(h:HT.sIx xs.length 0 b=0/\HT.sIx xs.length xs.length a=xs.length):cutD xs b a=xs:=by
 unfold cutD
 simp_all
def sl_p:SlR X (rSlP X.K X.mg):=((zfW.or (zib.or zdc)).or zic).imp <| by
 rintro x n m H Q ⟨G,d,o,g,rd,b,j⟩;unfold slcD at b
 split at b
 .obtain⟨a,e,rfl,h,i⟩:=z1W rd;exact .inl (.inl ⟨a,e,rfl,z1j g h,λp f=>j.new g f b (RD.newL (i.cut n m) g f)⟩)
 .obtain⟨a,e,rfl,h,i⟩:=z1m rd
  by_cases l:HT.sIx e.length 0 n=0/\HT.sIx e.length e.length m=e.length
  .refine .inl (.inr (.inr ⟨a,e,rfl,z0u g h,l,j.now g b ?_⟩));rw[i.len] at l;rw[zaN l];omega
  .exact .inl (.inr (.inl ⟨a,e,rfl,z0u g h,l,λp f=>j.new g f b (RD.newT (i.cut n m) g f)⟩))
 .exact .inr ⟨_,z3i rd,b.1,j.now g b.2 RD.str'⟩
 .exact b.elim
def zab (K:W.Frag)(mg:WmP)(E:XK)(o:Option Ex):TO:=λg H Q=>∃G f d e,Same G H/\AbE K mg G f g/\part o f d e/\(∀i b a,d i->Gr G H b->Same b a->Same H a->Q i a)/\Kx mg H e E
def QO.imp {e:Option Expr}{t t':TO}(h:QO X e t)(i:∀a H Q,t' a H Q->t a H Q):QO X e t':=⟨λb s a H Q I q=>h.p _ s a H Q I (i a H Q q)⟩
def zgq:QO X none (zab X.K X.mg E none):=QO.imp zgs <| by rintro i H Q ⟨G,h,d,e,hs,f,b,a,g⟩;exact a _ G H b Gr.refl hs Same.refl'
def zgp {e:Expr}{x:Ex}(h:QX X E e x):QO X (some e) (zab X.K X.mg E (some x)):=QO.imp (zgr h) <| by
 rintro s H Q ⟨G,p,r,f,hs,g,n,m,o⟩;refine⟨G,p,_,f,hs,g,n,λd v a b q j l g3 rd =>?_,o⟩;obtain⟨i,rfl,q⟩:=z9N q;exact⟨i,z0z rd,m _ a b q j l g3⟩
def zle {r:L2.St}{H:Hp}{Q:VK}{e:Ex}{o n:Option Ex}(h:tx K mg E (.sl e o n) r H Q):tSl (rSlP K mg) (tx K mg E e) (zab K mg E o) (zab K mg E n) r H Q:=by
 obtain⟨G,m,x,a,hs,b,A,z,g⟩:=h;refine⟨G,m,_,a,hs,b,A,λd v s J q f y g3 rd =>?_,g⟩;refine⟨s,m,_,a,y,b.same f.1,q,λl t L q i C j =>?_,g.same g3⟩;refine⟨t,m,_,a,C,b.same (z03 f.1 i.1),q,λu w M q p F I =>?_,g.same (z03 g3 j)⟩;exact⟨w,d,x,F,rd.same (z03 i.1 p.1),q,z.same (f.trans g3 (i.trans j p)) (z03 g3 (z03 j I))⟩
def zlB {e:Expr}{x:Ex}{d b:Option Expr}{l u:Option Ex}{j a:Pos}(f:QX X E e x)(g:QO X d (zab X.K X.mg E l))(i:QO X b (zab X.K X.mg E u)):QX X E (.Subscript e (.Slice d b none j) a) (.sl x l u):=QE.imp (zdN sl_p f g i) λ_ _ _ h=>zle h
def isiD (T:String):D->Option Bool
 | .int _=>some (T == "int")
 | .bl _=>some (T == "int" || T == "bool")
 | .str _=>some (T == "str")
 | .tup _=>some (T == "tuple")
 | .lst _=>some (T == "list")
 | .non=>some false
 | _=>none
def onB (o:Option Bool)(Q:Bool->Prop):Prop:=match o with
 | some b=>Q b
 | none=>False
def ze7 {o:Option Bool}{Q Q':Bool->Prop}(m:∀b,Q b->Q' b)(h:onB o Q):onB o Q':=by
 cases o with
 | none=>exact h
 | some b=>exact m _ h
def ze6 {o:Option Bool}{Q:Bool->Prop}(h:onB o Q):∃b,o=some b/\Q b:=by
 cases o with
 | none=>exact h.elim
 | some b=>exact⟨b,rfl,h⟩
def pIsi (T:String):Fn:=fn1 (λd Q=>onB (isiD T d) λb=>Q (.bl b)) λd Q a m h=>ze7 (λb q=>m _ q) h
def zen:List String:=["int","bool","str","tuple","list"]
def zhb {T:String}(a:T∈zen):W.kitOne K (.type "int") (.type T)=some (T == "int")/\W.kitOne K (.type "bool") (.type T)=some (T == "int" || T == "bool")/\W.kitOne K (.type "str") (.type T)=some (T == "str")/\
  W.kitOne K (.type "tuple") (.type T)=some (T == "tuple")/\W.kitOne K (.type "list") (.type T)=some (T == "list")/\W.kitOne K (.type "NoneType") (.type T)=some false:=by
 unfold zen at a;simp[wm,wz,vK] at a
 rcases a with rfl | rfl | rfl | rfl | rfl <;> exact⟨rfl,rfl,rfl,rfl,rfl,rfl⟩
def zlw (K:W.Frag)(mg:WmP)(T:String):List V->Hp->VK->Prop:=λvs H Q=>∃v G d a,vs=[v,.ty T]/\Same G H/\RD K mg G d v/\(onB (isiD T d) λb=>a (.bl b))/\Kt K mg G H a Q
def zl1 {T:String}(E:T∈zen):z0C X (.builtin "isinstance") (zlw X.K X.mg T):=by
 rintro j s Z H vs us Q I L ⟨v,G,d,Q0,e,g,rd,J,F⟩;subst e;obtain⟨b,f,q⟩:=ze6 J;obtain⟨u,w,rfl,h,y⟩:=zhL L
 cases (show w=Value.type T from y)
 obtain⟨M,N,O,R,S,U⟩:=zhb (K:=X.K) E;have fin:∀A,EP X j Z Q (.bool b) { s with toks:=A }:=λA=>⟨.bl b,H,I.tok A,rfl,F.now g q RD.bl'⟩
 cases d with
 | int i=>
  have e:=z0z rd;subst e;rw[show isiD T (.int i)=some (T == "int") from rfl] at f;exact z4s I h (.int i) (M.trans f) fin
 | bl i=>
  have e:=z8N rd;subst e;exact z4s I h (.bl i) (N.trans f) fin
 | str i=>
  have e:=z3i rd;subst e;rw[show isiD T (.str i)=some (T == "str") from rfl] at f;exact z4s I h (.str i) (O.trans f) fin
 | non=>
  have e:=z7J rd;subst e;rw[show isiD T .non=some false from rfl] at f;exact z4s I h .non (U.trans f) fin
 | tup l=>
  obtain⟨a,Y,rfl,m,C⟩:=z1m rd
  cases h
  rw[show isiD T (.tup l)=some (T == "tuple") from rfl] at f;obtain⟨x,r,⟨o,t,p,_⟩,_⟩:=I.tuple (z0u g m);exact vU W.kitx_tuple I.kIn ⟨o,t,p⟩ (R.trans f) (λz=>nomatch z) fin
 | lst l=>
  obtain⟨a,Y,rfl,m,C⟩:=z1W rd
  cases h
  rw[show isiD T (.lst l)=some (T == "list") from rfl] at f;obtain⟨x,r,⟨o,n,t,p,_⟩,_⟩:=I.list (z1j g m);exact vU W.kitx_list I.kIn ⟨o,t,p⟩ (S.trans f) (λz=>nomatch z) fin
 | _=>cases f
def ziP {e t:Expr}{x:Ex}{I b:Pos}{T:String}(p:T∈zen)(s:Gl X "isinstance")(w:X.mg "isinstance"=none)(r:QX X E e x)(A:QE X t (tC (.ty T)))
  (a:autoParam (starEach [e,t] X.env=(false,eval e X.env)::starEach [t] X.env) jA1) (h:autoParam (starEach [t] X.env=(false,eval t X.env)::starEach [] X.env) jA1) (g:autoParam ((backTo b (starEach [t] X.env)).any (·.1)=false) jA1)
  (C:autoParam (bootBuiltins "isinstance"=some (.builtin "isinstance")) jA1) (y:autoParam (("isinstance":Str)≠"__name__") jB1) (f:autoParam ((("isinstance":Str) == ("__debug__":Str))=false) jB1):QX X E (.Call (.Name "isinstance" I) [e,t] [] b) (.op (pIsi T) [x]):=
 QE.imp (z4h (zl1 p) s w C (z3j r (z3j A z5y h) a) y f a g) <| by
  rintro L H Q ⟨G,J,j,l,hs,m,z,u,F⟩;refine⟨G,J,_,l,hs,m,z,λd v i K q n o g3 rd =>?_,F⟩;exact⟨v,i,d,j,rfl,o,rd,q,u.same n g3⟩
def ze0:Fn:=fn1 zcr zaJ
def zhw (l:X.calm=true):z0C X (.builtin "max") (rN X.K X.mg ze0):=(zcO l).imp <| by
 rintro vs H Q ⟨G,u,s,t,g,rds,p,n⟩;obtain⟨d,rfl,b⟩:=z1c p;obtain⟨v,rfl,rd⟩:=rds1 rds;unfold zcr at b
 split at b
 .obtain⟨j,e,f,q⟩:=z58 b;obtain⟨a,w,rfl,h,i⟩:=z1W rd;rw[z3o e] at i;rw[z3E j i] at h;exact⟨a,j,rfl,z1j g h,f,λm o r=>n.now g (q m o r) RD.int'⟩
 .exact b.elim
def zex {g:Int->Int->DK->Prop}{l}{a:List D}{Q:DK}{b:XP}(h:(fnI g l).run a Q b):∃i j,a=[.int i,.int j]/\g i j Q:=by
 obtain⟨d,e,rfl,f⟩:=zey h;obtain⟨i,j,rfl,rfl,q⟩:=z5N f;exact⟨i,j,rfl,q⟩
def zas:Fn:=fnI (λi j Q=>Q (.int (if j<i then j else i))) λ_ _ _ _ m h=>m _ h
def zhu (a:X.calm=true):z0C X (.builtin "min") (rN X.K X.mg zas):=(zcM a).imp <| by
 rintro vs H Q ⟨G,h,e,f,g,rds,d,b⟩;obtain⟨i,j,rfl,q⟩:=zex d;obtain⟨v,w,rfl,r1,r2⟩:=rds2 rds;exact⟨i,j,by rw[z0z r1,z0z r2],b.now g q RD.int'⟩
end
structure Nm (sc:Scope)(x:Str):Prop where
 loc:Loc sc x
 hd:(x == ("__debug__":Str))=false
 hcd:(x == ("__classdict__":Str))=false
def Nm.vis {sc:Scope}{x:Str}(h:Nm sc x):Vis sc x:=h.loc.elim .inl λz =>.inr (.inl z)
section
variable {CX:CXT}{P:Program}{w:World}{K:W.Frag}{mg:WmP}{base:Heap}{N:List Str}{qual:Str}{sc:Scope}{f:Addr}{cdv:Value}{A:Around}{outer:List PySem.Env}{s:Shared}{H:Hp}{E:XK}{xe:WvP}{x:Str}{pos pos2:Pos}{e:Expr}{te:TE}
def vg (i:Nat)(h:Nm sc x)(a:autoParam (N[i]? = some x) jA1):QE ((cxOf CX P w K mg base N qual sc f cdv A outer s H E).wish xe) (.Name x pos) (tVar i):=⟨zfi a h.vis h.hd h.hcd⟩
def ng (i:Nat)(b:N.Nodup)(h:Nm sc x)(a:autoParam (N[i]? = some x) jA1):QG ((cxOf CX P w K mg base N qual sc f cdv A outer s H E).wish xe) (.Name x pos) (z2N i):=⟨zbB b a h.loc (.inl rfl)⟩
def ag (i:Nat)(d:N.Nodup)(h:Nm sc x)(b:QE ((cxOf CX P w K mg base N qual sc f cdv A outer s H E).wish xe) e te)(a:autoParam (N[i]? = some x) jA1)(hs:autoParam (swapsWith e (some (.Name x pos2)) pos.line ((cxOf CX P w K mg base N qual sc f cdv A outer s H E).wish xe).env=pure false) jA1):QS ((cxOf CX P w K mg base N qual sc f cdv A outer s H E).wish xe) (.Assign [.Name x pos2] e pos) (tAsg te (z2N i)):=⟨zjo d a h.loc b.p hs (.inl rfl)⟩
end
def spL (K:W.Frag):Sp:=λvs H Q _=>∃(a:Addr) (b:List Int),vs=[.ref a]/\SqL K H a (b.map V.int)/\b.length<=63/\∀d,Q (.bl true) d
def zkB {P:Program}{w:World}{K:W.Frag}{mg:WmP}{b:Heap}{CX:CXT}{k:Nat}{f:Addr}{g:FuncData}{ps:List Str}{F:Fn}(h:∀ns:List Int,ns.length<=63->F.run [.lst (ns.map .int)] (λd=>d = .bl true) (λ_=>False))(ok:FnOk P w K mg b CX k f g ps (spP K mg F)):FnOk P w K mg b CX k f g ps (spL K):=
 ok.imp λvs H Q E ⟨a,ns,e,j,l,q⟩=>⟨H,[.lst _],_,_,Same.refl',by rw[e];exact RDs.cons (RD.ofL j (z5b ns)) RDs.nil,h ns l,λd v m i e n o g3 rd=>by
  subst e;rw[z8N rd];exact q i,Kx.no⟩
end Pu
namespace Pu
open PySem L2
open Builtin.Int (intBits)
section
variable {ρ:Pu.Env}{Q:DK}{X:XP}{N:Pu.Env->Prop}{a b c e:Ex}{s t:Sm}{F:Fn}{d:D}{i j:Nat}
def z9H {d:D}(q:Q d):onV (some d) Q:=q
def e_c (q:Q d):(Ex.c d).run ρ Q X:=q
def e_v (q:onV (ρ.get i) Q):(Ex.v i).run ρ Q X:=q
def zeC (q:a.run ρ (λx=>F.run [x] Q X) X):(Ex.op F [a]).run ρ Q X:=q
def zkQ (q:a.run ρ (λx=>b.run ρ (λy=>F.run [x,y] Q X) X) X):(Ex.op F [a,b]).run ρ Q X:=q
def zmv (q:a.run ρ (λx=>b.run ρ (λy=>c.run ρ (λz=>F.run [x,y,z] Q X) X) X) X):(Ex.op F [a,b,c]).run ρ Q X:=q
def zmu (q:a.run ρ (λx=>b.run ρ (λy=>c.run ρ (λz=>e.run ρ (λu=>F.run [x,y,z,u] Q X) X) X) X) X):(Ex.op F [a,b,c,e]).run ρ Q X:=q
def zmt {es:List Ex}(q:runs es ρ (λa=>F.run a Q X) X):(Ex.op F es).run ρ Q X:=q
def zis {Q:List D->Prop}(q:Q []):runs [] ρ Q X:=q
def zg9 {es:List Ex}{Q:List D->Prop}(q:a.run ρ (λd=>runs es ρ (λb=>Q (d::b)) X) X):runs (a::es) ρ Q X:=q
def zmx (q:a.run ρ (λd=>tst d (b.run ρ Q X) (Q (.bl false))) X):(Ex.and a b).run ρ Q X:=q
def e_or (q:a.run ρ (λd=>tst d (Q (.bl true)) (b.run ρ Q X)) X):(Ex.or a b).run ρ Q X:=q
def notD (d:D)(Q:DK):Prop:=match d with
 | .bl b=>Q (.bl (!b))
 | _=>False
def zmw (q:a.run ρ (λd=>notD d Q) X):(Ex.not a).run ρ Q X:=q
def n_bl {k:Bool}(q:Q (.bl (!k))):notD (.bl k) Q:=q
def zfB {e:Nat}{b:List Nat}{f:Tg}{src:Ex}{ct:Option Ex}{a:Ex}(q:src.run ρ (λd=>onL (z01 d) λl=>l.length<sizeLine/\z4x (z4O f ct a (z16 e b ρ)) l λr=>Q (.lst r)) X):(Ex.comp e b f src ct a).run ρ Q X:=q
def zmo {l:List D}{K:List D->Prop}(q:K l):onL (z01 (.lst l)) K:=q
def zmn {l:List D}{K:List D->Prop}(q:K l):onL (z01 (.tup l)) K:=q
def e_sl {e b:Option Ex}(q:a.run ρ (λd=>part e ρ (λl=>part b ρ (λu=>slcD d l u Q) X) X) X):(Ex.sl a e b).run ρ Q X:=q
def zjK {K:Option Int->Prop}(q:K none):part none ρ K X:=q
def zjJ {K:Option Int->Prop}(q:a.run ρ (λd=>isI d λi=>K (some i)) X):part (some a) ρ K X:=q
def zkL {k:Int}{K:Int->Prop}(q:K k):isI (.int k) K:=q
def zmF {l:List D}{b a:Option Int}(q:Q (.lst (cutD l b a))):slcD (.lst l) b a Q:=q
def zmE {l:List D}{b a:Option Int}(q:Q (.tup (cutD l b a))):slcD (.tup l) b a Q:=q
def z49 {A B:Prop}(h:A):tst (.bl true) A B:=⟨λ_=>h,(λz=>by cases z)⟩
def z3e {A B:Prop}(h:B):tst (.bl false) A B:=⟨(λz=>by cases z),λ_=>h⟩
def z0j {d:D}{a:Pu.Env}{B:Prop}(h:Safe d a)(q:B):Safe d a/\B:=⟨h,q⟩
def z2G {d:D}{a:Pu.Env}{B:Prop}(h:zcV d a)(q:B):zcV d a/\B:=⟨h,q⟩
def t_bl {k:Bool}{A B:Prop}(h:k=true->A)(a:k=false->B):tst (.bl k) A B:=⟨h,a⟩
def z0k {p:Prop}[Decidable p]{A B:Prop}(h:p->A)(a:¬ p->B):tst (.bl (decide p)) A B:=⟨λe=>h (uj e),λe=>a (of_decide_eq_false e)⟩
def z5Y {p:Prop}[Decidable p]{A B:Prop}(a:p)(h:A):tst (.bl (decide p)) A B:=z0k (λ_=>h) λn=>(n a).elim
def t_no {p:Prop}[Decidable p]{A B:Prop}(a:¬ p)(h:B):tst (.bl (decide p)) A B:=z0k (λy=>(a y).elim) λ_=>h
def z2L {k:Bool}{A B:Prop}(h:tst (.bl k) B A):tst (.bl (!k)) A B:=by
 cases k
 .exact z49 (h.2 rfl)
 .exact z3e (h.1 rfl)
def zfS {k:Bool}{A B:Prop}(e:k=true)(h:A):tst (.bl k) A B:=by rw[e];exact z49 h
def zhY {k:Bool}{A B:Prop}(e:k=false)(h:B):tst (.bl k) A B:=by rw[e];exact z3e h
def zf2 (q:N ρ):Sm.skip.run ρ N Q X:=q
def z3R (q:s.run ρ (λa=>t.run a N Q X) Q X):(Sm.seq s t).run ρ N Q X:=q
def zlj (q:a.run ρ (λd=>Safe d (ρ.set i .n)/\N (ρ.set i (.s d))) X):(Sm.set i a).run ρ N Q X:=q
def zdk (q:a.run ρ (λd=>zcV d (ρ.set i .n)/\N (ρ.set i (.o d))) X):(Sm.own i a).run ρ N Q X:=q
def zij {b:List Nat}(q:a.run (vis (dem b ρ)) (λd=>N ((dem b ρ).set i (.s d))) X):(Sm.setx b i a).run ρ N Q X:=q
def s_if (q:c.run ρ (λd=>tst d (s.run ρ N Q X) (t.run ρ N Q X)) X):(Sm.ifs c s t).run ρ N Q X:=q
def zlk (q:a.run ρ Q X):(Sm.ret a).run ρ N Q X:=q
def zlm {b:List Nat}{e:Tg}(q:a.run (vis (dem b ρ)) (λd=>onL (z01 d) λl=>forL e s N Q X l (dem b ρ)) X):(Sm.for_ b e a s).run ρ N Q X:=q
def zg5 {b:Tg}(q:a.run ρ (λd=>onR [d] λl=>forL b s N Q X l ρ) X):(Sm.forr [a] b s).run ρ N Q X:=q
def z4g {l:List D}(h:ownL ρ i λl=>a.run ρ (λd=>l.length<sizeLine/\Safe d ρ/\N (ρ.set i (.o (.lst (l++[d]))))) X):(Sm.app i a).run ρ N Q X:=h
def zll (h:ownL ρ i λl=>popL l λl' _=>N (ρ.set i (.o (.lst l')))):(Sm.pop i).run ρ N Q X:=h
def zln (h:ownL ρ i λl=>a.run ρ (λd=>isLs d λm=>l.length+m.length<=sizeLine/\(∀x∈m,Safe x ρ)/\N (ρ.set i (.o (.lst (l++m))))) X):(Sm.ext i a).run ρ N Q X:=h
def zg2 (h:ownL ρ i λl=>a.run ρ (λd=>Safe d ρ/\b.run ρ (λe=>isI e λz=>onN (ixN l.length z) λj=>N (ρ.set i (.o (.lst (l.set j d))))) X) X):(Sm.put i b a).run ρ N Q X:=h
def zlp {b d:Nat}{a:List D}(h:a.length=b)(q:s.run (a.map B.s++List.replicate (d - b) .n) (λ_=>Q .non) Q (λ_=>False)):(Fn.mkN b d s).run a Q X:=⟨h,q⟩
def zlq {b d:Nat}{a:List D}(h:a.length=b)(q:s.run (a.map B.s++List.replicate (d - b) .n) (λ_=>Q .non) Q X):(Fn.mk' b d s).run a Q X:=⟨h,q⟩
def Sm.cut (W:Pu.Env->Prop)(h:s.run ρ W Q X)(k:∀a,W a->t.run a N Q X):(Sm.seq s t).run ρ N Q X:=s.mono ρ W _ Q Q X X k (λ_ z=>z) (λ_ z=>z) h
def zi0 (W:Pu.Env->Prop)(h:tst d (s.run ρ W Q X) (t.run ρ W Q X))(k:∀a,W a->N a):tst d (s.run ρ N Q X) (t.run ρ N Q X):=z2P (s.mono ρ W N Q Q X X k (λ_ z=>z) (λ_ z=>z)) (t.mono ρ W N Q Q X X k (λ_ z=>z) (λ_ z=>z)) h
def nI (a:Pu.Env)(i:Nat):Int:=match a.get i with
 | some (.int s)=>s
 | _=>0
def nL (a:Pu.Env)(i:Nat):Nat:=match a.get i with
 | some (.lst k)=>k.length
 | _=>0
def z0m {d:Type}{f:d->D}{j:Tg}{l:List d}(I:List d->Pu.Env->Prop)(m:I [] ρ)(hs:∀(a:List d) (x:d) (r:List d) (ρ:Pu.Env),l=a++x::r->I a ρ->j.put (f x) ρ λg=>s.run g (λb=>I (a++[x]) b) Q X)(n:∀ρ,I l ρ->N ρ):forL j s N Q X (l.map f) ρ:=by
 have i:∀(r a:List d) (ρ:Pu.Env),l=a++r->I a ρ->forL j s N Q X (r.map f) ρ:=by
  intro r
  induction r with
  | nil=>
   intro a ρ e h;rw[vV] at e;subst e;exact n ρ h
  | cons x r o=>
   intro a ρ e h;exact Tg.put_mono (λg q=>s.mono g _ _ Q Q X X (λb q=>o _ _ (by rw[e];simp) q) (λ_ z=>z) (λ_ z=>z) q) (hs a x r ρ e h)
 exact i l [] ρ rfl m
def z5i (I:Pu.Env->Prop)(e:Pu.Env->Nat)(f:I ρ)(hs:∀ρ,I ρ->c.run ρ (λd=>tst d (s.run ρ (λa=>I a/\e a < e ρ) Q X) (N ρ)) X):(Sm.wh c s).run ρ N Q X:=by
 have b:∀(n:Nat) (ρ:Pu.Env),I ρ->e ρ < n->wh c s N Q X n ρ:=by
  intro n
  induction n with
  | zero=>simp_all
  | succ n h=>
   intro ρ g i;exact c.mono ρ _ _ X X (λd q=>z2P (s.mono ρ _ _ Q Q X X (λa q=>h a q.1 (by lia)) (λ_ z=>z) (λ_ z=>z)) (λz=>z) q) (λ_ z=>z) (hs ρ g)
 exact⟨e ρ+1,b _ ρ f (uG _)⟩
theorem z1o {a:Type}{f g:a->D}{G:D->(Option D->Prop)->Prop}{M:List D->Prop}:∀{l:List a},(∀x∈l,∀K:Option D->Prop,K (some (g x))->G (f x) K)->M (l.map g)->z4x G (l.map f) M
 | [],_,q=>q
 | x::r,h,q=>h x ww _ (z1o (λy b=>h y (wp _ b)) q)
theorem z2E {b:Type}{f g:b->D}{p:b->Bool}{G:D->(Option D->Prop)->Prop}{M:List D->Prop}:∀{l:List b},(∀x∈l,∀K:Option D->Prop,(p x=true->K (some (g x)))->(p x=false->K none)->G (f x) K)->M ((l.filter p).map g)->z4x G (l.map f) M
 | [],_,q=>q
 | x::r,h,q=>by
  refine h x ww _ (λe =>?_) (λe =>?_)
  .refine z2E (λy a=>h y (wp _ a)) ?_
   simp_all
  .refine z2E (λy a=>h y (wp _ a)) ?_
   simp_all
theorem z4w {d e:Type}{f:d->D}{g:e->D}{P:d->e->Prop}{G:D->(Option D->Prop)->Prop}:∀{l:List d}{M:List D->Prop},(∀x∈l,∀K:Option D->Prop,(∀y,P x y->K (some (g y)))->G (f x) K)->(∀a:List e,a.length=l.length->(∀y∈a,∃x∈l,P x y)->M (a.map g))->z4x G (l.map f) M
 | [],_,_,q=>q [] rfl (λ_ z=>by simp at z)
 | x::r,M,h,q=>h x ww _ λy j=>z4w (λz b=>h z (wp _ b)) λa i m=>q (y::a) (by simp[i]) λz b=>by
  rcases wm.mp b with rfl | b
  .exact⟨x,ww,j⟩
  simp_all
def zmC {k:Nat}{a:Ex}{x:D}{K:Option D->Prop}(q:a.run (ρ.set k (.s x)) (λd=>K (some d)) (λ_=>False)):z4O (.nm k) none a ρ x K:=q
def zkY {k:Nat}{a:Ex}{x:D}{K:Option D->Prop}(q:c.run (ρ.set k (.s x)) (λb=>tst b (a.run (ρ.set k (.s x)) (λd=>K (some d)) (λ_=>False)) (K none)) (λ_=>False)):z4O (.nm k) (some c) a ρ x K:=q
variable {m n:Int}
def zmh (q:Q (.int (m+n))):pAdd.run [.int m,.int n] Q X:=q
def zmb (q:Q (.int (m - n))):pSub.run [.int m,.int n] Q X:=q
def zmd (h:zhF m n)(q:Q (.int (m*n))):z0b.run [.int m,.int n] Q X:=⟨h,q⟩
def zmc (q:Q (.int (-m))):pNeg.run [.int m] Q X:=q
def zfn (h:0<n)(a:Bt 9000 n)(q:Q (.int (m / n))):z1u.run [.int m,.int n] Q X:=⟨⟨by lia,a⟩,by rw[Int.fdiv_eq_ediv_of_nonneg m (by lia)];exact q⟩
def zke (h:0<n)(q:Q (.int (m % n))):pMod.run [.int m,.int n] Q X:=⟨by lia,by rw[Int.fmod_eq_emod_of_nonneg m (by lia)];exact q⟩
def zkb (h:CPow m n)(q:Q (.int (m ^ n.toNat))):pPow.run [.int m,.int n] Q X:=⟨h,q⟩
def o_lt (q:Q (.bl (decide (m<n)))):pLt.run [.int m,.int n] Q X:=q
def o_le (q:Q (.bl (decide (m<=n)))):pLe.run [.int m,.int n] Q X:=q
def o_gt (q:Q (.bl (decide (n<m)))):pGt.run [.int m,.int n] Q X:=q
def o_ge (q:Q (.bl (decide (n<=m)))):pGeI.run [.int m,.int n] Q X:=q
def o_eq (q:Q (.bl (decide (m=n)))):pEq.run [.int m,.int n] Q X:=q
def o_ne (q:Q (.bl (!decide (m=n)))):pNe.run [.int m,.int n] Q X:=q
def zkl {l r:List D}(a:Da 60 (.tup l))(b:Da 60 (.tup r))(q:Q (.bl (deq (.tup l) (.tup r)))):pEq.run [.tup l,.tup r] Q X:=⟨a,b,q⟩
def zbQ {l r:List D}(a:Da 60 (.tup l))(b:Da 60 (.tup r))(q:Q (.bl (!deq (.tup l) (.tup r)))):pNe.run [.tup l,.tup r] Q X:=⟨a,b,q⟩
def zgX (q:Q (.bl (!isN d))):z9z.run [d,.non] Q X:=q
def zki {l:List D}(q:Q (.int (l.length:Int))):pLen.run [.lst l] Q X:=q
def zkh {l:List D}(q:Q (.int (l.length:Int))):pLen.run [.tup l] Q X:=q
def zmg {l:List D}(q:onV (atI l m) Q):pIx.run [.lst l,.int m] Q X:=q
def zmf {l:List D}(q:onV (atI l m) Q):pIx.run [.tup l,.int m] Q X:=q
def zma {a:List D}(h:a.length<=sizeLine)(q:Q (.tup a)):pTup.run a Q X:=⟨h,q⟩
def zme {a:List D}(h:a.length<=sizeLine)(q:Q (.lst a)):pLst.run a Q X:=⟨h,q⟩
def zk9 {l:List D}(q:Q (.tup l)):z1Y.run [.lst l] Q X:=q
def zkg {l:List D}(q:Q (.lst l)):zbF.run [.tup l] Q X:=q
def zmi (q:Q (.int (if m<0 then -m else m))):pAbs.run [.int m] Q X:=q
def zkj {T:String}{k:Bool}(q:Q (.bl (T == "int" || T == "bool"))):(pIsi T).run [.bl k] Q X:=q
def zfm {ns:List Int}(a:ns≠[])(q:∀k,k∈ns->(∀x∈ns,x<=k)->Q (.int k)):ze0.run [.lst (ns.map D.int)] Q X:=by
 show onI _ _;rw[z9P];exact⟨a,q⟩
def zkf (q:Q (.int (if n<m then n else m))):zas.run [.int m,.int n] Q X:=q
def zka {ns:List Int}(q:Q (.int ns.sum)):pSum.run [.lst (ns.map D.int)] Q X:=by
 show onI _ _;rw[z9P];exact q
def zbS {l r:List D}(h:l.length+r.length<=sizeLine)(q:Q (.lst (l++r))):pAdd.run [.lst l,.lst r] Q X:=⟨h,q⟩
def z5D {l r:List D}(h:l.length+r.length<=sizeLine)(q:Q (.tup (l++r))):pAdd.run [.tup l,.tup r] Q X:=⟨h,q⟩
end
theorem Safe.of_noL {d:D}(a:noL d=true)(b:noD d=true):∀e:Pu.Env,Safe d e
 | []=>trivial
 | .n::r=>⟨trivial,Safe.of_noL a b r⟩
 | .s _::r=>⟨trivial,Safe.of_noL a b r⟩
 | .o x::r=>⟨by cases x <;> first | exact a | exact b | trivial,Safe.of_noL a b r⟩
def z0w {a:Pu.Env}{i:Nat}{l:List D}{K:List D->Prop}(h:a[i]? = some (B.o (.lst l)))(q:K l):ownL a i K:=by unfold ownL;rw[h];exact q
def z9x {k:Int}{K:List D->Prop}(h : -(2 ^ 62)<=k)(a:k<2 ^ 62)(q:K ((List.range k.toNat).map λ(j:Nat)=>D.int (j:Int))):onR [.int k] K:=⟨⟨h,a⟩,q⟩
def z0T {l:List D}{k:Int}{d:D}{Q:DK}(e:atI l k=some d)(q:Q d):onV (atI l k) Q:=by rw[e];exact q
abbrev vec (p:Int × Int):D :=.tup [.int p.1,.int p.2]
theorem z1O:∀{l:List D},(∀d∈l,noL d=true)->noLs l=true
 | [],_=>rfl
 | d::r,h=>by rw[noLs,h d ww,z1O λx a=>h x (wp _ a)];rfl
theorem z1P:∀{l:List D},(∀d∈l,noD d=true)->noDs l=true
 | [],_=>rfl
 | d::r,h=>by rw[noDs,h d ww,z1P λx a=>h x (wp _ a)];rfl
abbrev vecs (l:List (Int × Int)):D :=.tup (l.map vec)
def z27 (l:List (Int × Int)):noL (vecs l)=true:=by
 refine z1O λd a =>?_;obtain⟨p,_,rfl⟩:=wj.mp a
 rfl
def z28 (l:List (Int × Int)):noD (vecs l)=true:=by
 refine z1P λd a =>?_;obtain⟨p,_,rfl⟩:=wj.mp a
 rfl
def z0s {a:Type}{f:a->D}{l:List a}{k:Int}{x:a}(h:atI l k=some x):atI (l.map f) k=some (f x):=by
 unfold atI at h ⊢
 cases q:ixN l.length k with
 | none=>simp_all
 | some j=>
  simp_all
def menu {ns:List Int}{k:Int}{Q:DK}(a:0<=k)(b:k<ns.length)(q:∀v∈ns,Q (.int v)):onV (atI (ns.map D.int) k) Q:=by
 obtain⟨v,d,e⟩:=z3W a b;rw[z0s e];exact q v d
def z1G {d:Type}(f:d->D)(l:List d)(a b:Option Int):cutD (l.map f) a b=((l.drop (HT.sIx l.length 0 a)).take (HT.sIx l.length l.length b - HT.sIx l.length 0 a)).map f:=by
 unfold cutD
 simp_all
def z3q (p r:Int × Int):deq (vec p) (vec r)=decide (p=r):=by
 obtain⟨a,b⟩:=p;obtain⟨c,d⟩:=r;show PyData.eqv (.tuple [.int a,.int b]) (.tuple [.int c,.int d])=decide _;rw[eqv2,decide_eq_decide,Prod.mk.injEq]
theorem Da.vec (p:Int × Int){n:Nat}:Da (n+1) (vec p):=Da.tup.mpr λd a=>by
 simp[wm,wz,vK] at a
 rcases a with rfl | rfl <;> exact Da.int
theorem Da.vecs (l:List (Int × Int)){n:Nat}:Da (n+2) (vecs l):=Da.tup.mpr λd a=>by
 obtain⟨p,_,rfl⟩:=wj.mp a;exact Da.vec p
end Pu
namespace Geo
abbrev P:=Int × Int
def cr (a b c:P):Int:=(b.1 - a.1)*(c.2 - a.2) - (b.2 - a.2)*(c.1 - a.1)
def Lx (a b:P):Prop:=a.1<b.1\/(a.1=b.1/\a.2<b.2)
instance (a b:P):Decidable (Lx a b):=inferInstanceAs (Decidable (_\/_))
def Lx.irr {a:P}:¬ Lx a a:=by unfold Lx;lia
def Lx.tr {a b c:P}(h:Lx a b)(q:Lx b c):Lx a c:=by unfold Lx at *;lia
def Lx.asym {a b:P}(h:Lx a b):¬ Lx b a:=by unfold Lx at *;lia
def Lx.tri (a b:P):Lx a b\/a=b\/Lx b a:=by
 obtain⟨d,e⟩:=a;obtain⟨f,g⟩:=b;unfold Lx
 grind
def Lx.ne {a b:P}(h:Lx a b):a≠b:=λz=>by subst z;exact Lx.irr h
def z7Y {a b:P}(d:¬ Lx a b)(e:¬ Lx b a):a=b:=by
 rcases Lx.tri a b with h | h | h
 .exact absurd h d
 .exact h
 simp_all
def z4e {k m:Int}(h:0<k)(q:0<=m*k):0<=m:=by
 rcases(show m<0\/0<=m by lia) with z | z
 .have:=Int.mul_neg_of_neg_of_pos z h;lia
 .exact z
def zid {k m:Int}(h:0<k)(q:0<m*k):0<m:=by
 rcases(show m<=0\/0<m by lia) with z | z
 .have:=vC z (vq h);lia
 .exact z
def zfO {u1 u2 w1 w2 z1 z2:Int}(a:0<w1\/w1=0/\0<w2)(l:0<u1\/u1=0/\0<=u2)(hz:0<z1\/z1=0/\0<=z2)(f:0<=u1*w2 - u2*w1)(g:0<=w1*z2 - w2*z1):0<=u1*z2 - u2*z1:=by
 rcases a with a | ⟨a,b⟩
 .refine z4e a ?_;have e:(u1*z2 - u2*z1)*w1=(u1*w2 - u2*w1)*z1+(w1*z2 - w2*z1)*u1:=by grind
  have i:=wV f (show 0<=z1 by lia);have j:=wV g (show 0<=u1 by lia);lia
 .subst a;have h:z1=0:=by
   rcases hz with hz | hz
   .have:=vD b hz;lia
   .exact hz.1
  have d:0<=z2:=by lia
  subst h;have:=wV (show 0<=u1 by lia) d;lia
def zlf {u1 u2 w1 w2 z1 z2:Int}(a:0<w1\/w1=0/\0<w2)(b:0<u1\/u1=0/\0<u2)(hz:0<z1\/z1=0/\0<z2)(g:0<u1*w2 - u2*w1)(h:0<w1*z2 - w2*z1):0<u1*z2 - u2*z1:=by
 rcases a with a | ⟨a,f⟩
 .refine zid a ?_;have e:(u1*z2 - u2*z1)*w1=(u1*w2 - u2*w1)*z1+(w1*z2 - w2*z1)*u1:=by grind
  rcases b with b | ⟨b,d⟩
  .have i:=wV (vq g) (show 0<=z1 by lia);have j:=vD h b;lia
  .have:=vD d a;lia
 .subst a
  rcases hz with hz | ⟨hz,_⟩
  .have:=vD f hz;lia
  .subst hz;lia
def pops (v:P):List P->List P
 | b::a::r=>if cr a b v<=0 then pops v (a::r) else b::a::r
 | s=>s
def z6h (S:P->Prop):List P->Prop
 | b::a::r=>(∀p,S p->0<=cr a b p)/\Lx a b/\z6h S (a::r)
 | _=>True
def Conv:List P->Prop
 | c::b::a::r=>0<cr a b c/\Conv (b::a::r)
 | _=>True
def z6h.tail {S:P->Prop}{b:P}{r:List P}(h:z6h S (b::r)):z6h S r:=by
 cases r with
 | nil=>trivial
 | cons a r=>exact h.2.2
def Conv.tail {b:P}{r:List P}(h:Conv (b::r)):Conv r:=by
 match r,h with
 | [],_=>trivial
 | [_],_=>trivial
 | _::_::_,h=>exact h.2
theorem z8f {S:P->Prop}{v:P}:∀{r:List P}{b a:P},z6h S (b::a::r)->Conv (b::a::r)->Lx b v->0<cr a b v->z6h (λp=>p=v\/S p) (b::a::r)
 | [],b,a,e,g,j,h=>⟨λp f=>by
   rcases f with rfl | f
   .exact vq h
   .exact e.1 p f,e.2.1,trivial⟩
 | c::r,b,a,e,g,j,h=>by
  have i:=e.2.2.2.1;have d:=e.2.1;have m:0<cr c a v:=by
   have l:0<cr c a b:=g.1;have:=zlf (u1:=a.1 - c.1) (u2:=a.2 - c.2) (w1:=b.1 - a.1) (w2:=b.2 - a.2) (z1:=v.1 - b.1) (z2:=v.2 - b.2) (by unfold Lx at d;lia) (by unfold Lx at i;lia) (by unfold Lx at j;lia)
    (by unfold cr at l;grind) (by unfold cr at h;grind)
   unfold cr at l ⊢
   grind
  exact⟨λp f=>by
   rcases f with rfl | f
   .exact vq h
   .exact e.1 p f,d,z8f e.2.2 g.2 (d.tr j) m⟩
theorem zbr {S:P->Prop}{v:P}(u:∀p,S p->Lx p v):∀{r:List P}{b:P},(∀x∈b::r,S x)->z6h S (b::r)->Conv (b::r)->(∀p,S p->¬ Lx p b->0<=cr b v p)->(∀z,(b::r).getLast? = some z->∀p,S p->¬ Lx p z)->
  ∃d l,pops v (b::r)=d::l/\(d::l) <:+ (b::r)/\(∀p,S p->0<=cr d v p)/\z6h (λp=>p=v\/S p) (d::l)/\Conv (v::d::l)
 | [],b,hs,j,m,s,q=>⟨b,[],rfl,List.suffix_refl _,λp i=>s p i (q b rfl p i),trivial,trivial⟩
 | a::r,b,hs,j,m,s,q=>by
  have f:=j.2.1;have g:=u b (hs b (by simp))
  by_cases h:cr a b v<=0
  .have e:pops v (b::a::r)=pops v (a::r):=by rw[pops,if_pos h]
   obtain⟨d,l,w,y,A,C,E⟩:=zbr u (r:=r) (b:=a) (λx F=>hs x (wp _ F)) j.tail m.tail (λp i n=>by
    have t:=j.1 p i;have:=zfO (u1:=v.1 - a.1) (u2:=v.2 - a.2) (w1:=b.1 - a.1) (w2:=b.2 - a.2) (z1:=p.1 - a.1) (z2:=p.2 - a.2) (by unfold Lx at f;lia) (by have:=f.tr g;unfold Lx at this;lia) (by unfold Lx at n;lia)
     (by unfold cr at h;grind) (by unfold cr at t;grind)
    unfold cr
    grind) (λz G=>q z (by rw[jl];exact G))
   exact⟨d,l,e.trans w,y.trans (List.suffix_cons _ _),A,C,E⟩
  .have o:0<cr a b v:=by lia
   have e:pops v (b::a::r)=b::a::r:=by rw[pops,if_neg h]
   refine⟨b,a::r,e,List.suffix_refl _,λp i =>?_,z8f j m g o,⟨o,m⟩⟩
   by_cases n:Lx p b
   .have t:=j.1 p i;have:=zfO (u1:=b.1 - p.1) (u2:=b.2 - p.2) (w1:=b.1 - a.1) (w2:=b.2 - a.2) (z1:=v.1 - b.1) (z2:=v.2 - b.2) (by unfold Lx at f;lia) (by unfold Lx at n;lia) (by unfold Lx at g;lia)
     (by unfold cr at t;grind) (by unfold cr at o;grind)
    unfold cr
    grind
   .exact s p i n
structure Ok (S:P->Prop)(s:List P):Prop where
 sub:∀x∈s,S x
 desc:s.Pairwise λx y=>Lx y x
 top:∃b r,s=b::r/\∀p,S p->¬ Lx b p
 bot:∃z,s.getLast? = some z/\∀p,S p->¬ Lx p z
 edges:z6h S s
 conv:Conv s
def z5r {s t:List P}{b:P}(h:(b::t) <:+ s):s.getLast? = (b::t).getLast? := by
 obtain⟨u,rfl⟩:=h;rw[List.getLast?_append]
 rfl
def Ok.push {S:P->Prop}{s:List P}{v:P}(o:Ok S s)(i:∀p,S p->Lx p v):Ok (λp=>p=v\/S p) (v::pops v s):=by
 obtain⟨b,r,rfl,h⟩:=o.top;obtain⟨z,m,f⟩:=o.bot;obtain⟨n,A,q,l,t,u,w⟩:=zbr i o.sub o.edges o.conv (λp a y=>by
  have:p=b:=z7Y y (h p a);subst this;unfold cr
  grind) (λC j=>by rw[m] at j;injection j with e;subst e;exact f)
 have d:∀x∈n::A,S x:=λx g=>o.sub x (l.subset g);rw[q];refine⟨λx g =>?_,?_,⟨v,_,rfl,λp a =>?_⟩,⟨z,?_,λp a =>?_⟩,⟨λp a =>?_,i n (d n (by simp)),u⟩,w⟩
 .rcases wm.mp g with rfl | g
  .exact .inl rfl
  .exact .inr (d x g)
 .exact wY.mpr ⟨λx g=>i x (d x g),o.desc.sublist l.sublist⟩
 .rcases a with rfl | a
  .exact Lx.irr
  .exact(i p a).asym
 .rw[jl, <- z5r l];exact m
 .rcases a with rfl | a
  .exact(i z (by rw[z5r l] at m;exact d z (List.mem_of_getLast? m))).asym
  .exact f p a
 .rcases a with rfl | a
  .unfold cr;grind
  .exact t p a
def z2j (l:List P):List P:=l.foldl (λs v=>v::pops v s) []
def Ok.one (v:P):Ok (λp=>p=v) [v]:=⟨by simp,by simp,⟨v,[],rfl,λp a=>by subst a;exact Lx.irr⟩,⟨v,rfl,λp a=>by subst a;exact Lx.irr⟩,trivial,trivial⟩
def Ok.congr {S a:P->Prop}{s:List P}(o:Ok S s)(h:∀p,S p↔a p):Ok a s:=by
 have e  := funext λp=>propext (h p);subst e;exact o
theorem za4:∀(l:List P) (S:P->Prop) (s:List P),Ok S s->(∀x∈l,∀p,S p->Lx p x)->l.Pairwise Lx->Ok (λp=>S p\/p∈l) (l.foldl (λs v=>v::pops v s) s)
 | [],S,s,o,_,_=>o.congr (by simp)
 | v::l,S,s,o,h,a=>by
  obtain⟨d,e⟩:=wY.mp a;have:=za4 l _ _ (o.push (h v (by simp))) (λx b p a=>by
   rcases a with rfl | a
   .exact d x b
   .exact h x (by simp[b]) p a) e
  refine this.congr λp =>?_;simp[wm]
  constructor
  .rintro((h | h) | h)
   .exact .inr (.inl h)
   .exact .inl h
   simp_all
  .rintro(h | h | h)
   .simp_all
   .exact .inl (.inl h)
   .exact .inr h
def z8l {l:List P}(e:l≠[])(a:l.Pairwise Lx):Ok (· ∈ l) (z2j l):=by
 match l,e with
 | v::l,_=>
  obtain⟨b,d⟩:=wY.mp a;have:=za4 l _ [v] (Ok.one v) (λx f p a=>by subst a;exact b x f) d;exact this.congr λp=>by simp
def ng (p:P):P:=(-p.1,-p.2)
def z4r (p:P):ng (ng p)=p:=by unfold ng;simp
def zeH (a b c:P):cr (ng a) (ng b) (ng c)=cr a b c:=by unfold cr ng;grind
def zaF {a b:P}:Lx (ng a) (ng b)↔Lx b a:=by unfold Lx ng;simp;lia
theorem zbs (v:P):∀s:List P,pops (ng v) (s.map ng)=(pops v s).map ng
 | []=>rfl
 | [_]=>rfl
 | b::a::r=>by
  show (if cr _ _ _<=0 then pops _ ((a::r).map ng) else _)=_;rw[zeH,zbs v _,pops]
  by_cases h:cr a b v<=0
  .simp_all
  .rw[if_neg h,if_neg h];rfl
theorem zcu:∀(l s:List P),(l.map ng).foldl (λs v=>v::pops v s) (s.map ng)=(l.foldl (λs v=>v::pops v s) s).map ng
 | [],_=>rfl
 | v::l,s=>by
  show (l.map ng).foldl _ (ng v::pops _ _)=_;rw[zbs];exact zcu l (v::pops v s)
def zcG (l:List P):z2j (l.map ng)=(z2j l).map ng:=zcu l []
def dot (a b p:P):Int:=(p.1 - a.1)*(b.1 - a.1)+(p.2 - a.2)*(b.2 - a.2)
structure Edge (S:P->Prop)(a b:P):Prop where
 sa:S a
 sb:S b
 ne:a≠b
 left:∀p,S p->0<=cr a b p
 btw:∀p,S p->cr a b p=0->0<=dot a b p/\0<=dot b a p
theorem Edge.ng {S:P->Prop}{a b:P}(e:Edge (λp=>S (Geo.ng p)) a b):Edge S (Geo.ng a) (Geo.ng b):=by
 refine⟨e.sa,e.sb,λz=>e.ne (by have:=congrArg Geo.ng z;rwa [z4r,z4r] at this),λp d =>?_,λp d h =>?_⟩
 .have:=e.left _ (by rw[z4r];exact d);rw[<- zeH,z4r] at this;exact this
 .have:=e.btw _ (by rw[z4r];exact d) (by rw[<- zeH,z4r];exact h);unfold dot Geo.ng at*
  grind
def zhr (a b c:P):cr a c b = -cr a b c:=by unfold cr;grind
def z0e (x:Int):0<=x*x:=by
 rcases(show x<=0\/0<=x by lia) with h | h
 .exact uO h h
 .exact wV h h
def z3Z {x y:Int}(h:x*x+y*y=0):x=0/\y=0:=by
 have d:=z0e x;have e:=z0e y;have a:x*x=0:=by omega
 have b:y*y=0:=by omega
 constructor
 .rcases wZ.mp a with z | z <;> exact z
 .rcases wZ.mp b with z | z <;> exact z
def Edge.det {S:P->Prop}{a b c:P}(e:Edge S a b)(f:Edge S a c):b=c:=by
 have h1:=e.left c f.sb;have h2:=f.left b e.sb;have N:=zhr a b c;have q:cr a b c=0:=by lia
 have r:cr a c b=0:=by lia
 have u:=e.btw c f.sb q;have w:=f.btw b e.sb r;have a0:=e.ne;have a3:=f.ne;obtain⟨m,n⟩:=a;obtain⟨d,g⟩:=b;obtain⟨i,j⟩:=c;unfold cr at q;unfold dot at u w;simp only[ne_eq,Prod.mk.injEq] at*;obtain⟨a4,s⟩:=u;obtain⟨a5,l⟩:=w;have U:(d - i)*(d - i)+(g - j)*(g - j)=0:=by
  generalize O:d - m=u1 at*;generalize Q:g - n=u2 at*;generalize R:i - m=w1 at*;generalize T:j - n=w2 at*;have y:d - i=u1 - w1:=by lia
  have G:g - j=u2 - w2:=by lia
  have H:i - d=w1 - u1:=by lia
  have I:j - g=w2 - u2:=by lia
  have J:m - d = -u1:=by lia
  have K:n - g = -u2:=by lia
  have L:m - i = -w1:=by lia
  have M:n - j = -w2:=by lia
  rw[y,G] at l ⊢;rw[H,I,J,K] at s;rw[L,M] at l;have A:0<=(u1*u1+u2*u2) - (u1*w1+u2*w2):=by grind
  have B:0<=(w1*w1+w2*w2) - (u1*w1+u2*w2):=by grind
  have C:(u1*u1+u2*u2)*(w1*w1+w2*w2)=(u1*w1+u2*w2)*(u1*w1+u2*w2):=by
   have:(u1*u1+u2*u2)*(w1*w1+w2*w2)=(u1*w1+u2*w2)*(u1*w1+u2*w2)+(u1*w2 - u2*w1)*(u1*w2 - u2*w1):=by grind
   rw[this,q];lia
  have D:0<=u1*w1+u2*w2:=by grind
  have PX:0<u1*u1+u2*u2:=by
   have W:=z0e u1;have n2:=z0e u2
   rcases(show u1*u1+u2*u2=0\/0<u1*u1+u2*u2 by lia) with z | z
   .have:=z3Z z;lia
   .exact z
  have PY:0<w1*w1+w2*w2:=by
   have W:=z0e w1;have n2:=z0e w2
   rcases(show w1*w1+w2*w2=0\/0<w1*w1+w2*w2 by lia) with z | z
   .have:=z3Z z;lia
   .exact z
  have E:(u1 - w1)*(u1 - w1)+(u2 - w2)*(u2 - w2)=((u1*u1+u2*u2) - (u1*w1+u2*w2))+((w1*w1+w2*w2) - (u1*w1+u2*w2)):=by grind
  rw[E];generalize u1*u1+u2*u2=X at*;generalize w1*w1+w2*w2=Y at*;generalize u1*w1+u2*w2=Z at*;have F:(X - Z)*Y+Z*(Y - Z)=0:=by grind
  have G1:=wV A (show 0<=Y by lia);have G2:=wV D B;have x:(X - Z)*Y=0:=by omega
  have t:Z*(Y - Z)=0:=by omega
  rcases wZ.mp x with h | h
  .rcases wZ.mp t with o | o
   .have:X*Y=0:=by rw[C,o];rfl
    rcases wZ.mp this with p | p <;> lia
   .lia
  .rcases wZ.mp t with o | o <;> lia
 have:=z3Z U;lia
def Path (R:P->P->Prop):List P->Prop
 | a::b::r=>R a b/\Path R (b::r)
 | _=>True
theorem Path.join {R:P->P->Prop}{M:P}{t:List P}:∀{A:List P},Path R (A++[M])->Path R (M::t)->Path R (A++M::t)
 | [],_,h=>h
 | [a],h,q=>⟨h.1,q⟩
 | a::b::A,h,q=>⟨h.1,Path.join (A:=b::A) h.2 q⟩
def Path.snoc {R:P->P->Prop}{a b:P}{A:List P}(h:Path R (A++[a]))(q:R a b):Path R (A++[a,b]):=Path.join h ⟨q,trivial⟩
theorem Path.rev {R:P->P->Prop}:∀{l:List P},Path (λx y=>R y x) l->Path R l.reverse
 | [],_=>trivial
 | [_],_=>trivial
 | a::b::r,h=>by
  have:=Path.rev h.2;rw[uw] at this ⊢;rw[uw];rw[vz];exact Path.snoc this h.1
theorem Path.imp {R d:P->P->Prop}(i:∀a b,R a b->d a b):∀{l:List P},Path R l->Path d l
 | [],_=>trivial
 | [_],_=>trivial
 | _::_::_,h=>⟨i _ _ h.1,Path.imp i h.2⟩
theorem Path.map {R:P->P->Prop}{f:P->P}:∀{l:List P},Path (λa b=>R (f a) (f b)) l->Path R (l.map f)
 | [],_=>trivial
 | [_],_=>trivial
 | _::b::r,h=>⟨h.1,Path.map h.2⟩
def zfp {a b p:P}(h:Lx a b)(q:¬ Lx b p)(z:cr a b p=0):0<=dot b a p:=by
 unfold Lx at h q;unfold cr at z;unfold dot;have e:(p.1 - b.1)*(a.1 - b.1)+(p.2 - b.2)*(a.2 - b.2)=(b.1 - a.1)*(b.1 - p.1)+(b.2 - a.2)*(b.2 - p.2):=by grind
 rw[e];have u:(b.1 - a.1)*(b.2 - p.2)=(b.2 - a.2)*(b.1 - p.1):=by grind
 generalize m:b.1 - a.1=d at*;generalize n:b.2 - a.2=f at*;generalize o:b.1 - p.1=i at*;generalize r:b.2 - p.2=j at*
 rcases(show 0<d\/d=0/\0<f by lia) with g | ⟨g,l⟩
 .refine z4e g ?_;have:(d*i+f*j)*d=i*(d*d+f*f):=by grind
  rw[this];have s:=z0e d;have t:=z0e f;exact wV (by lia) (by lia)
 .subst g;have:f*i=0:=by lia
  rcases wZ.mp this with z | z
  .lia
  .subst z;have:=wV (vq l) (show 0<=j by lia);lia
def zh4 {a b p:P}(h:Lx a b)(q:¬ Lx p a)(z:cr a b p=0):0<=dot a b p:=by
 have:=zfp (zaF.mpr h) (λy=>q (zaF.mp y)) (by rw[zeH];unfold cr at *;grind);unfold dot ng at*;dsimp only at this
 grind
def zbW {a b c p:P}(h:0<cr a b c)(q:0<=cr b c p)(z:cr a b p=0):0<=dot b a p:=by
 unfold cr at h q z;unfold dot;have l:(p.1 - b.1)*(a.1 - b.1)+(p.2 - b.2)*(a.2 - b.2) = -((p.1 - b.1)*(b.1 - a.1)+(p.2 - b.2)*(b.2 - a.2)):=by grind
 rw[l];have m:0<(b.1 - a.1)*(c.2 - b.2) - (b.2 - a.2)*(c.1 - b.1):=by grind
 have n:(b.1 - a.1)*(p.2 - b.2) - (b.2 - a.2)*(p.1 - b.1)=0:=by grind
 generalize b.1 - a.1=d at*;generalize b.2 - a.2=e at*;generalize c.1 - b.1=f at*;generalize c.2 - b.2=g at*;generalize p.1 - b.1=i at*;generalize p.2 - b.2=j at*;refine z4e m ?_;have : -(i*d+j*e)*(d*g - e*f)=(f*j - g*i)*(d*d+e*e) - (d*j - e*i)*(f*d+g*e):=by grind
 rw[this,n,jz,Int.sub_zero];have o:=z0e d;have r:=z0e e;exact wV q (by lia)
def z9J {y a b p:P}(h:0<cr y a b)(q:0<=cr y a p)(z:cr a b p=0):0<=dot a b p:=by
 unfold cr at h q z;unfold dot;have l:0<(a.1 - y.1)*(b.2 - a.2) - (a.2 - y.2)*(b.1 - a.1):=by grind
 have m:0<=(a.1 - y.1)*(p.2 - a.2) - (a.2 - y.2)*(p.1 - a.1):=by grind
 generalize b.1 - a.1=d at*;generalize b.2 - a.2=e at*;generalize a.1 - y.1=f at*;generalize a.2 - y.2=g at*;generalize p.1 - a.1=i at*;generalize p.2 - a.2=j at*;refine z4e l ?_;have:(i*d+j*e)*(f*e - g*d)=(f*j - g*i)*(d*d+e*e) - (d*j - e*i)*(f*d+g*e):=by grind
 rw[this,z,jz,Int.sub_zero];have n:=z0e d;have o:=z0e e;exact wV m (by lia)
theorem z6x {S:P->Prop}:∀{r:List P}{b a:P},(∀x∈b::a::r,S x)->z6h S (b::a::r)->Conv (b::a::r)->(∀z,(b::a::r).getLast? = some z->∀p,S p->¬ Lx p z)->(∀p,S p->cr a b p=0->0<=dot b a p)->Path (λx y=>Edge S y x) (b::a::r)
 | [],b,a,hs,d,f,g,h=>⟨⟨hs a (by simp),hs b (by simp),d.2.1.ne,d.1,λp e z=>⟨zh4 d.2.1 (g a rfl p e) z,h p e z⟩⟩,trivial⟩
 | y::r,b,a,hs,d,f,g,h=>by
  refine⟨⟨hs a (by simp),hs b (by simp),d.2.1.ne,d.1,λp e z=>⟨z9J f.1 (d.2.2.1 p e) z,h p e z⟩⟩,?_⟩;exact z6x (λx i=>hs x (wp _ i)) d.2.2 f.2 (λz j=>g z (by simp_all)) λp e z=>zbW f.1 (d.1 p e) z
def Ok.path {S:P->Prop}{s:List P}(o:Ok S s):Path (Edge S) s.reverse:=by
 refine Path.rev ?_;obtain⟨b,r,rfl,h⟩:=o.top;obtain⟨z,i,f⟩:=o.bot
 cases r with
 | nil=>trivial
 | cons a r=>exact z6x o.sub o.edges o.conv (λj d=>by rw[i] at d;injection d with e;subst e;exact f) λp g z=>zfp o.edges.2.1 (h p g) z
def hull (l:List P):List P:=if l.length<=1 then l else (z2j l).reverse.dropLast++(z2j l.reverse).reverse.dropLast
structure z0a (S:P->Prop)(h:List P):Prop where
 ex:∃m t,h=m::t/\S m/\(∀p,S p->¬ Lx p m)/\m ∉ t/\((t=[]/\∀p,S p->p=m)\/(t≠[]/\Path (Edge S) (m::t++[m])))
theorem z3X {R:P->P->Prop}(det:∀a b c,R a b->R a c->b=c){m:P}:∀{t t':List P}{a:P},m ∉ t->m ∉ t'->Path R (a::t++[m])->Path R (a::t'++[m])->t=t'
 | [],[],_,_,_,_,_=>rfl
 | [],b::t',a,_,h,p,q=>by
  have  := det a b m q.1 p.1
  simp_all
 | b::t,[],a,h,_,p,q=>by
  have  := det a b m p.1 q.1
  simp_all
 | b::t,c::t',a,h,d,p,q=>by
  have e  := det a b c p.1 q.1;subst e;rw[z3X det (λz=>h (by simp[z])) (λz=>d (by simp[z])) p.2 q.2]
def z0a.unique {S:P->Prop}{h h':List P}(x:z0a S h)(y:z0a S h'):h=h':=by
 obtain⟨m,t,rfl,E,z,C,e⟩:=x.ex;obtain⟨A,F,rfl,n,j,l,o⟩:=y.ex;have r  := z7Y (j m E) (z A n);subst r;have one:∀{u:List P},u≠[]->Path (Edge S) (m::u++[m])->(∀p,S p->p=m)->False:=λ{u} w i f=>by
  match u,w with
  | b::u,_=>
   have e  := i.1;exact e.ne (f b e.sb).symm
 rcases e with ⟨rfl,f⟩ | ⟨s,i⟩
 .rcases o with ⟨rfl,_⟩ | ⟨g,d⟩
  .rfl
  .exact(one g d f).elim
 .rcases o with ⟨rfl,f⟩ | ⟨g,d⟩
  .exact(one s i f).elim
  .rw[z3X (R:=Edge S) (λa b c p q=>Edge.det p q) C l i d]
def z36 {s:List P}{z:P}(h:s.getLast? = some z):s.dropLast++[z]=s:=by
 have a:s≠[]:=λe=>by simp_all
 have e  := by
  rw[List.getLast?_eq_some_getLast a] at h;exact vh h
 rw[<- e];exact List.dropLast_concat_getLast a
def zhN {l:List P}(b:2<=l.length)(a:l.Pairwise Lx):∃x y,x∈l/\y∈l/\Lx x y:=by
 match l,b,a with
 | x::y::r,_,a=>exact⟨x,y,by simp,by simp,(wY.mp a).1 y (by simp)⟩
def z6u {l:List P}(O:2<=l.length)(w:l.Pairwise Lx):∃m M A B,hull l=m::A++M::B/\m∈l/\M∈l/\Lx m M/\(∀p∈l,¬ Lx p m)/\(∀p∈l,¬ Lx M p)/\
  (m::A++[M]).Pairwise Lx/\(M::B++[m]).Pairwise (λx y=>Lx y x)/\Path (Edge (· ∈ l)) (m::A++[M])/\Path (Edge (· ∈ l)) (M::B++[m]):=by
 have F:l≠[]:=λz=>by rw[z] at O;simp at O
 have E:=z8l F w;have Q:(l.reverse.map ng).Pairwise Lx:=by
  rw[wS,List.pairwise_reverse];exact w.imp λh=>zaF.mpr h
 have s:=z8l (l:=l.reverse.map ng) (by simpa using F) Q;rw[zcG] at s;have d:∀p,p∈l.reverse.map ng↔ng p∈l:=λp=>by
  simp only[wj,List.mem_reverse]
  constructor
  .rintro⟨q,Z,rfl⟩;rw[z4r];exact Z
  .intro h;exact⟨ng p,h,z4r p⟩
 obtain⟨M,r1,U,G⟩:=E.top;obtain⟨m,t,i⟩:=E.bot;obtain⟨g,r2,J,t2⟩:=s.top;obtain⟨C,u,I⟩:=s.bot;have T:M∈l:=E.sub M (by rw[U];simp);have S:m∈l:=E.sub m (List.mem_of_getLast? t);have H:ng g∈l:=(d g).mp (s.sub g (by rw[J];simp));have R:ng C∈l:=(d C).mp (s.sub C (List.mem_of_getLast? u));have j:ng g=m:=by
  refine z7Y (i _ H) λz =>?_;have:=t2 (ng m) ((d _).mpr (by rw[z4r];exact S));exact this (by rw[<- z4r g];exact zaF.mpr z)
 have o:ng C=M:=by
  refine z7Y (λz =>?_) (G _ R);have:=I (ng M) ((d _).mpr (by rw[z4r];exact T));exact this (by rw[<- z4r C];exact zaF.mpr z)
 have n:Lx m M:=by
  rcases Lx.tri m M with h | h | h
  .exact h
  .exfalso
   subst h;have all:∀p∈l,p=m:=λp w=>z7Y (i p w) (G p w);obtain⟨x,y,hx,hy,this⟩:=zhN O w;rw[all x hx,all y hy] at this;exact Lx.irr this
  .exact absurd h (G m S)
 have there:∃A,(z2j l).reverse=m::A++[M]:=by
  rw[U] at t ⊢
  cases r1 with
  | nil=>simp at t;exact absurd (t ▸ n) Lx.irr
  | cons c r=>
   rw[jl] at t;refine⟨(c::r).dropLast.reverse,?_⟩;rw[uw, <- z36 t];simp
 obtain⟨A,K⟩:=there;have N:z2j l.reverse=(g::r2).map ng:=by
  have:((z2j l.reverse).map ng).map ng=(g::r2).map ng:=by rw[J]
  rw[wJ] at this;simpa[Function.comp_def,z4r] using this
 have back:∃B,(z2j l.reverse).reverse=M::B++[m]:=by
  rw[J] at u;rw[N]
  cases r2 with
  | nil=>
   simp at u;rw[u] at j;rw[j] at o;exact absurd (o ▸ n) Lx.irr
  | cons c r=>
   rw[jl] at u;refine⟨((c::r).dropLast.map ng).reverse,?_⟩;have:(c::r)=(c::r).dropLast++[C]:=(z36 u).symm;rw[wL,uw,j,this,wA];simp[o]
 obtain⟨B,L⟩:=back;refine⟨m,M,A,B,?_,S,T,n,i,G,?_,?_,?_,?_⟩
 .unfold hull;rw[if_neg (by lia),K,L,List.dropLast_concat,List.dropLast_concat]
 .rw[<- K,List.pairwise_reverse];exact E.desc
 .rw[<- L,List.pairwise_reverse];have q:=s.desc;rw[wS] at q;exact q.imp λh=>zaF.mp h
 .rw[<- K];exact E.path
 .rw[<- L];have q:=s.path;rw[<- jP] at q;have Y:Path (λa b=>Edge (· ∈ l) (ng a) (ng b)) ((z2j l.reverse).map ng).reverse:=by
   rw[<- jP];refine Path.imp (λa b e =>?_) q;refine Edge.ng ?_;have X:(λp=>ng p∈l)=(λp=>p∈l.reverse.map ng):=funext λp=>propext (d p).symm;rw[X];exact e
  have W:=Path.map (f:=ng) Y;rw[jP,wJ] at W;simpa[Function.comp_def,z4r] using W
def zhh {l:List P}(h:l≠[])(b:l.Pairwise Lx):z0a (· ∈ l) (hull l):=by
 by_cases f:l.length<=1
 .match l,h,f with
  | [x],_,_=>exact⟨x,[],rfl,by simp,λp b=>by rw[wo.mp b];exact Lx.irr,by simp,.inl ⟨rfl,λp b=>wo.mp b⟩⟩
 .obtain⟨m,M,A,B,e,i,q,g,a,d,j,r,n,o⟩:=z6u (by lia) b;refine⟨m,A++M::B,e,i,a,λz =>?_,.inr ⟨by simp,?_⟩⟩
  .rcases wG.mp z with z | z
   .exact Lx.irr ((wY.mp j).1 m (by simp[z]))
   grind
  .have:m::(A++M::B)++[m]=(m::A)++M::(B++[m]):=by simp
   rw[this];exact Path.join n o
end Geo
open Geo
namespace Lcg
def orb (x:Nat):Nat->Nat
 | 0=>x
 | n+1=>orb x n*5+1
theorem z8P (x m:Nat):∀n,orb x (m+n)=orb (orb x m) n
 | 0=>rfl
 | n+1=>congrArg (· * 5+1) (z8P x m n)
theorem zbH:∀k:Nat,∃c d,∀y,orb y (2 ^ k)=y+2 ^ k*(2*d+1+4*c*y)
 | 0=>⟨1,0,λy=>by show y*5+1=_;lia⟩
 | k+1=>by
  obtain⟨c,d,h⟩:=zbH k;exact⟨c+2*c*c*2 ^ k,d+(2*d+1)*c*2 ^ k,λy=>by
   rw[Nat.pow_succ,Nat.mul_two,z8P,h,h]
   grind⟩
theorem zbI (x e:Nat):∀k,∃n,n<2 ^ k/\orb x n % 2 ^ k=e % 2 ^ k
 | 0=>⟨0,by decide,by lia⟩
 | k+1=>by
  obtain⟨n,h,g⟩:=zbI x e k;obtain⟨c,d,t⟩:=zbH k;simp[Nat.pow_succ,Nat.mod_mul]
  by_cases q:orb x n / 2 ^ k % 2=e / 2 ^ k % 2
  .exact⟨n,by lia,by rw[g,q]⟩
  .refine⟨n+2 ^ k,by lia,?_⟩;rw[z8P,t,Nat.add_mul_mod_self_left,Nat.add_mul_div_left _ _ (Nat.two_pow_pos k)]
   congr 2
   lia
end Lcg
namespace Tab
open PySem PySem.SetTable
theorem z7o (xs:Array Nat)(j:Nat)(m:∀a b,a<b->b<xs.size->xs.getD a 0<xs.getD b 0):∀(fuel d hi:Nat),hi<=xs.size->hi - d<=fuel->d<=hi->(∀i,i<d->xs.getD i 0<j)->(∀i,hi<=i->i<xs.size->j<=xs.getD i 0)->
  below.go xs j fuel d hi<=xs.size/\(∀i,i<below.go xs j fuel d hi->xs.getD i 0<j)/\(∀i,below.go xs j fuel d hi<=i->i<xs.size->j<=xs.getD i 0)
 | 0,d,hi,g,r,s,h,l=>by
  have:d=hi:=by lia
  subst this;exact⟨g,h,l⟩
 | fuel+1,d,hi,g,r,s,h,l=>by
  rw[below.go]
  by_cases f:d<hi
  .rw[if_pos f];have q:(d+hi) / 2<xs.size:=by lia
   have e:xs.getD ((d+hi) / 2) j=xs.getD ((d+hi) / 2) 0:=by simp[Array.getD,q]
   dsimp only;rw[e]
   by_cases p:xs.getD ((d+hi) / 2) 0<j
   .rw[if_pos p];refine z7o xs j m fuel _ hi g (by lia) (by lia) (λi n =>?_) l
    rcases wN i ((d+hi) / 2) with z | z
    .have:=m i _ z q;lia
    .have:i=(d+hi) / 2:=by lia
     subst this;exact p
   .rw[if_neg p];refine z7o xs j m fuel d _ (by lia) (by lia) (by lia) h (λi n o =>?_)
    rcases wN ((d+hi) / 2) i with z | z
    .have:=m _ i z o;lia
    .have:i=(d+hi) / 2:=by lia
     subst this;lia
  .rw[if_neg f];have:d=hi:=by lia
   subst this;exact⟨g,h,l⟩
abbrev Rise (xs:Array Nat):Prop:=∀a b,a<b->b<xs.size->xs.getD a 0<xs.getD b 0
def z4P {xs:Array Nat}(b:Rise xs)(j:Nat):below xs j<=xs.size/\(∀i,i<below xs j->xs.getD i 0<j)/\(∀i,below xs j<=i->i<xs.size->j<=xs.getD i 0):=
 z7o xs j b _ 0 _ (wq _) (by lia) (vn _) (λ_ h=>absurd h (jA _)) (λi a d=>absurd a (by lia))
def zhk {xs:Array Nat}{i j:Nat}(h:xs[i]? = some j):i<xs.size/\xs.getD i 0=j:=by
 obtain⟨a,e⟩:=Array.getElem?_eq_some_iff.mp h
 simp_all
def zmL {xs:Array Nat}{i:Nat}(h:i<xs.size):xs[i]? = some (xs.getD i 0):=by simp_all
def zeQ {xs:Array Nat}(a:Rise xs){i j:Nat}(h:xs[i]? = some j):below xs j=i:=by
 obtain⟨g,b,d⟩:=z4P a j;obtain⟨f,e⟩:=zhk h
 rcases ux (below xs j) i with z | z | z
 .have:=d _ (wq _) (by lia);have:=a _ _ z f;lia
 .exact z
 .have:=b i z;lia
def z7x {t:SetTable}(a:Rise t.place){i j:Nat}(h:t.place[i]? = some j):t.slot j = .live i:=by
 unfold SetTable.slot;rw[zeQ a h]
 simp_all
def zad {t:SetTable}(a:t.dummies = #[]){j:Nat}(h:∀i:Nat,t.place[i]? ≠ some j):t.slot j = .empty:=by
 unfold SetTable.slot;have b:(t.place[below t.place j]? == some j)=false:=by
  simp_all
 have d:has t.dummies j=false:=by rw[a];rfl
 simp_all
def adv (mask:Nat)(p:Probe):Probe:=
 if p.more > 0 then { p with j:=p.j+1,more:=p.more - 1 } else
 { p with j:=(leap mask p.i p.perturb).1,more:=runEnd mask (leap mask p.i p.perturb).1 - (leap mask p.i p.perturb).1,i:=(leap mask p.i p.perturb).1,perturb:=(leap mask p.i p.perturb).2 }
def advs (mask:Nat)(p:Probe):Nat->Probe
 | 0=>p
 | n+1=>adv mask (advs mask p n)
theorem z2F (mask:Nat)(p:Probe)(m:Nat):∀n,advs mask p (m+n)=advs mask (advs mask p m) n
 | 0=>rfl
 | n+1=>congrArg _ (z2F _ p m n)
def z4y (mask:Nat)(p:Probe)(n:Nat):advs mask p (n+1)=advs mask (adv mask p) n:=by
 rw[Nat.add_comm,z2F]
 rfl
def z8x (mask:Nat)(p:Probe):(adv mask p).dummy=p.dummy:=by
 unfold adv;split <;> rfl
theorem z6A (mask:Nat)(p:Probe):∀n,(advs mask p n).dummy=p.dummy
 | 0=>rfl
 | n+1=>by rw[advs,z8x,z6A _ p n]
theorem z7q (mask:Nat):∀(p:Probe) (n:Nat),n<=p.more->advs mask p n={ p with j:=p.j+n,more:=p.more - n }
 | p,0,_=>rfl
 | p,n+1,h=>by
  rw[advs,z7q _ p n (by lia)];unfold adv
  grind
def z6H (mask i:Nat):runEnd mask i - i<=9:=by unfold runEnd;split <;> lia
def lp (mask:Nat)(i q:Nat):Nat->Nat × Nat
 | 0=>(i,q)
 | c+1=>leap mask (lp mask i q c).1 (lp mask i q c).2
theorem zc6 (mask:Nat)(i q:Nat):∀c,lp mask i q (c+1)=lp mask (leap mask i q).1 (leap mask i q).2 c
 | 0=>rfl
 | c+1=>by
  show leap _ _ _=_;rw[zc6 _ i q c]
  rfl
def z3F (mask:Nat)(p:Probe):advs mask p (p.more+1)={ p with j:=(leap mask p.i p.perturb).1,more:=runEnd mask (leap mask p.i p.perturb).1 - (leap mask p.i p.perturb).1,i:=(leap mask p.i p.perturb).1,perturb:=(leap mask p.i p.perturb).2 }:=by
 rw[advs,z7q _ p _ (wq _)];unfold adv
 grind
theorem runs (mask:Nat):∀(c:Nat) (p:Probe),p.more<=9->∃s,s<=10*(c+1)/\(advs mask p s).j=(lp mask p.i p.perturb (c+1)).1/\(advs mask p s).i=(lp mask p.i p.perturb (c+1)).1/\(advs mask p s).perturb=(lp mask p.i p.perturb (c+1)).2/\(advs mask p s).more<=9
 | 0,p,h=>⟨p.more+1,by lia,by rw[z3F];rfl,by rw[z3F];rfl,by rw[z3F];rfl,by rw[z3F];exact z6H _ _⟩
 | c+1,p,h=>by
  obtain⟨s,d,e,a,b,f⟩:=runs mask c p h;refine⟨s+((advs mask p s).more+1),by lia,?_⟩;rw[z2F,z3F];refine⟨?_,?_,?_,z6H _ _⟩
  .rw[a,b];rfl
  .rw[a,b];rfl
  .rw[a,b];rfl
theorem z4K (mask i q:Nat):∀c,(lp mask i q c).2=q / 32 ^ c
 | 0=>by simp[lp]
 | c+1=>by
  show (lp _ i q c).2 / 32=_;rw[z4K _ i q c,Nat.div_div_eq_div_mul,Nat.pow_succ]
theorem zfr {mask i q:Nat}(a:q=0):∀c:Nat,(lp mask i q c).1 % (mask+1)=Lcg.orb i c % (mask+1)
 | 0=>rfl
 | c+1=>by
  show ((lp _ i q c).1*5+1+(lp _ i q c).2 / 32) % (mask+1) % _=(_*5+1) % _;rw[z4K,a,Nat.zero_div,Nat.add_zero,Nat.mod_mod,Nat.add_mod,Nat.mul_mod, <- a,zfr a c, <- Nat.mul_mod, <- Nat.add_mod]
theorem zfs (mask i q m:Nat):∀n,lp mask i q (m+n)=lp mask (lp mask i q m).1 (lp mask i q m).2 n
 | 0=>rfl
 | n+1=>by
  show leap _ (lp _ i q (m+n)).1 (lp _ i q (m+n)).2=_;rw[zfs _ i q m n]
  rfl
def zf8 {k mask i q e:Nat}(f:mask+1=2 ^ k)(j:q<2 ^ 64)(m:e<=mask):∃c,c<=13+mask/\13<=c/\(lp mask i q c).1=e:=by
 have b:(lp mask i q 13).2=0:=by
  rw[z4K];exact Nat.div_eq_of_lt (wF j (by decide))
 obtain⟨d,l,h⟩:=Lcg.zbI _ e k;refine⟨13+d,by lia,by lia,?_⟩;have g := @zfr mask (lp mask i q 13).1 _ b d;rw[f,h, <- f, <- zfs,Nat.add_comm,w6 (a:=e) (by lia)] at g;rw[Nat.add_comm, <- g];exact(w6 (jq _ (by lia))).symm
def zb4 {k mask e:Nat}{p:Probe}(g:mask+1=2 ^ k)(i:p.perturb<2 ^ 64)(h:p.more<=9)(f:e<=mask):∃s,s<10*turns mask/\(advs mask p s).j=e:=by
 obtain⟨c,m,n,d⟩:=zf8 g i f;obtain⟨a,rfl⟩:∃a,c=a+1:=⟨c - 1,by lia⟩
 obtain⟨s,l,b,_⟩:=runs _ a p h;exact⟨s,by unfold turns;lia,b.trans d⟩
def zl8 {mask:Nat}{p:Probe}(a:p.perturb<2 ^ 64)(b:p.more<=9):(adv mask p).perturb<2 ^ 64/\(adv mask p).more<=9:=by
 unfold adv
 split
 .exact⟨a,by lia⟩
 .exact⟨jt (Nat.div_le_self _ _) a,z6H _ _⟩
theorem z9i {mask:Nat}{p:Probe}(b:p.perturb<2 ^ 64)(a:p.more<=9):∀n,(advs mask p n).perturb<2 ^ 64/\(advs mask p n).more<=9
 | 0=>⟨b,a⟩
 | n+1=>zl8 (z9i b a n).1 (z9i b a n).2
def z4c (t:SetTable)(h:Int):(t.probeStart h).perturb<2 ^ 64/\(t.probeStart h).more<=9:=by
 refine⟨?_,z6H _ _⟩;show (h % (2 ^ 64)).toNat<2 ^ 64
 grind
theorem z9y {t:SetTable}(n:t.dummies = #[])(u:Rise t.place)(a:Nat->Int)(h:Int):∀(fuel:Nat) (p:Probe),(∃s,s<fuel/\∀i:Nat,t.place[i]? ≠ some (advs t.mask p s).j)->
  ∃s,(∀m,m<s->∃i:Nat,t.place[i]? = some (advs t.mask p m).j/\a i≠h)/\
   (((∀i:Nat,t.place[i]? ≠ some (advs t.mask p s).j)/\probe.go t a h fuel p=some (.empty (advs t.mask p s).j p.dummy))\/
    ∃i:Nat,t.place[i]? = some (advs t.mask p s).j/\a i=h/\probe.go t a h fuel p=some (.candidate (advs t.mask p s).j i (advs t.mask p (s+1))))
 | 0,p,⟨s,hs,_⟩=>absurd hs (jA _)
 | fuel+1,p,⟨s,hs,f⟩=>by
  by_cases o:∃i:Nat,t.place[i]? = some p.j
  .obtain⟨i,d⟩:=o;have l:probe.go t a h (fuel+1) p=if a i == h then some (.candidate p.j i (t.advance p)) else probe.go t a h fuel (t.advance p):=by
    rw[probe.go,z7x u d]
   by_cases b:a i=h
   .refine⟨0,λm e=>absurd e (jA _),.inr ⟨i,d,b,?_⟩⟩;rw[l,if_pos (by simpa using b)]
    rfl
   .have y:s≠0:=λz=>by subst z;exact f i d
    obtain⟨g,rfl⟩:∃g,s=g+1:=⟨s - 1,by lia⟩
    rw[z4y] at f;obtain⟨r,w,x⟩:=z9y n u a h fuel (adv t.mask p) ⟨g,by lia,f⟩;refine⟨r+1,λm e =>?_,?_⟩
    .cases m with
     | zero=>exact⟨i,d,b⟩
     | succ m=>rw[z4y];exact w m (by lia)
    .rw[l,if_neg (by simpa using b),z4y,z4y, <- z8x t.mask p];exact x
  .have q:∀i:Nat,t.place[i]? ≠ some p.j:=λi z=>o ⟨i,z⟩;refine⟨0,λm e=>absurd e (jA _),.inl ⟨q,?_⟩⟩;rw[probe.go,zad n q]
   rfl
theorem z2W:∀{l l':List Nat},l.Nodup->(∀x∈l,x∈l')->l.length<=l'.length
 | [],_,_,_=>vn _
 | a::l,l',h,hs=>by
  obtain⟨d,e⟩:=vO.mp h;have:=z2W e λx b=>(List.mem_erase_of_ne (λ(z:x=a)=>d (z ▸ b))).mpr (hs x (by simp[b]))
  grind
theorem z4i:∀{l l':List Nat},l.Nodup->l'.Nodup->(∀x,x∈l↔x∈l')->l.Perm l'
 | [],l',_,_,h=>by
  cases l' with
  | nil=>rfl
  | cons b l'=>exact absurd ((h b).mpr (by simp)) (by simp)
 | a::l,l',d,e,h=>by
  obtain⟨i,g⟩:=vO.mp d;have f  := (h a).mp (by simp);have p:=z4i g (e.erase a) λx=>by
   grind
  exact(List.Perm.cons a p).trans (List.perm_cons_erase f).symm
variable {α:Type}
abbrev Rw (α:Type):=Nat × Int × α
def zaS (mask:Nat)(occ:Nat->Prop)(h:Int)(j:Nat):Prop:=∃n,(advs mask (probeStart { mask:=mask,place := #[],dummies := #[],finger:=0,led:=true,moves:=0,plain:=true } h) n).j=j/\∀m,m<n->occ (advs mask (probeStart { mask:=mask,place := #[],dummies := #[],finger:=0,led:=true,moves:=0,plain:=true } h) m).j
abbrev st0 (mask:Nat)(h:Int):Probe:=probeStart { mask:=mask,place := #[],dummies := #[],finger:=0,led:=true,moves:=0,plain:=true } h
def zaS.mono {mask:Nat}{occ b:Nat->Prop}{h:Int}{j:Nat}(x:zaS mask occ h j)(i:∀a,occ a->b a):zaS mask b h j:=by
 obtain⟨n,d,e⟩:=x;exact⟨n,d,λm f=>i _ (e m f)⟩
structure TabW (t:SetTable)(es:Array (Int × α))(L:List (Rw α)):Prop where
 place:t.place=(L.map (·.1)).toArray
 es:es=(L.map (·.2)).toArray
 rise:L.Pairwise λa b=>a.1<b.1
 le:∀r∈L,r.1<=t.mask
 dum:t.dummies = #[]
 pow:∃k,3<=k/\t.mask+1=2 ^ k
 reach:∀r∈L,zaS t.mask (λj=>∃r'∈L,r'.1=j) r.2.1 r.1
def TabW.occ {t:SetTable}{es:Array (Int × α)}{L:List (Rw α)}(w:TabW t es L){j:Nat}:(∃i:Nat,t.place[i]? = some j)↔∃r∈L,r.1=j:=by
 rw[w.place]
 constructor
 .rintro⟨i,h⟩;have b:(L.map (·.1))[i]? = some j:=by simpa using h
  obtain⟨r,a,e⟩:=wj.mp (wD b);exact⟨r,a,e⟩
 .rintro⟨r,a,rfl⟩;obtain⟨i,d,e⟩:=wT.mp a;exact⟨i,by simp[d,e]⟩
def TabW.riseP {t:SetTable}{es:Array (Int × α)}{L:List (Rw α)}(w:TabW t es L):Rise t.place:=by
 rw[w.place];intro a b e f;have d  := by simpa using f
 have:=vI.mp w.rise a b (by lia) d e;simpa[show a<L.length by lia,d] using this
theorem TabW.size {t:SetTable}{es:Array (Int × α)}{L:List (Rw α)}(w:TabW t es L):t.place.size=L.length/\es.size=L.length/\t.fill=L.length:=by
 refine⟨by rw[w.place];simp,by rw[w.es];simp,?_⟩;unfold fill;rw[w.place,w.dum];simp
def TabW.nodup {t:SetTable}{es:Array (Int × α)}{L:List (Rw α)}(w:TabW t es L):(L.map (·.1)).Nodup:=by
 rw[List.nodup_iff_pairwise_ne,wS];exact w.rise.imp λh=>wI h
def TabW.room {t:SetTable}{es:Array (Int × α)}{L:List (Rw α)}(w:TabW t es L)(h:L.length<=t.mask):∃e,e<=t.mask/\¬ ∃r∈L,r.1=e:=by
 refine vZ λa =>?_;have all  := λe b=>vZ λz=>a ⟨e,b,z⟩;have:=z2W (l:=List.range (t.mask+1)) (l':=L.map (·.1)) List.nodup_range λx d=>by
  grind
 simp at this;lia
theorem TabW.probe {t:SetTable}{es:Array (Int × α)}{L:List (Rw α)}(w:TabW t es L)(b:L.length<=t.mask)(a:Nat->Int)(h:Int)(n:Nat):
  ∃s,(∀m,n<=m->m<n+s->∃i:Nat,t.place[i]? = some (advs t.mask (st0 t.mask h) m).j/\a i≠h)/\
   (((∀i:Nat,t.place[i]? ≠ some (advs t.mask (st0 t.mask h) (n+s)).j)/\t.probe a h (advs t.mask (st0 t.mask h) n)=some (.empty (advs t.mask (st0 t.mask h) (n+s)).j none))\/
    ∃i:Nat,t.place[i]? = some (advs t.mask (st0 t.mask h) (n+s)).j/\a i=h/\t.probe a h (advs t.mask (st0 t.mask h) n)=some (.candidate (advs t.mask (st0 t.mask h) (n+s)).j i (advs t.mask (st0 t.mask h) (n+s+1)))):=by
 obtain⟨e,q,f⟩:=w.room b;obtain⟨k,_,r⟩:=w.pow;have ok:=z9i (mask:=t.mask) (z4c t h).1 (z4c t h).2 n;obtain⟨y,g,o⟩:=zb4 (p:=advs _ (st0 t.mask h) n) r ok.1 ok.2 q;obtain⟨s,A,l⟩:=z9y w.dum w.riseP a h _ _ ⟨y,g,λi z=>by
  rw[o] at z;exact f (w.occ.mp ⟨i,z⟩)⟩
 refine⟨s,λm u x =>?_,?_⟩
 .obtain⟨d,rfl⟩:∃d,m=n+d:=⟨m - n,by lia⟩
  rw[z2F]
  simp_all
 .rw[Nat.add_assoc,z2F,z2F];rw[z6A] at l;exact l
def TabW.soon {t:SetTable}{es:Array (Int × α)}{L:List (Rw α)}(w:TabW t es L)(a:L.length<=t.mask)(h:Int):∃N,N<10*turns t.mask/\¬ ∃r∈L,r.1=(advs t.mask (st0 t.mask h) N).j:=by
 obtain⟨e,g,b⟩:=w.room a;obtain⟨k,_,i⟩:=w.pow;obtain⟨l,d,f⟩:=zb4 (p:=st0 _ h) i (z4c t h).1 (z4c t h).2 g;exact⟨l,d,by rw[f];exact b⟩
def ins (L:List (Rw α))(p:Nat)(r:Rw α):List (Rw α):=L.take p++r::L.drop p
def z76 {L:List (Rw α)}{p:Nat}{r x:Rw α}:x∈ins L p r↔x=r\/x∈L:=by
 unfold ins;rw[wG,wm]
 constructor
 .grind
 .rintro(h | h)
  .exact .inr (.inl h)
  .rw[<- uV p L,wG] at h
   rcases h with h | h
   .exact .inl h
   simp_all
def z4t {a:Type}(l:List a){p:Nat}(x:a):insertAt l.toArray p x=(l.take p++x::l.drop p).toArray:=by
 unfold insertAt;simp;exact vL (by simp)
theorem TabW.put {t:SetTable}{es:Array (Int × α)}{L:List (Rw α)}(w:TabW t es L){h:Int}{x:α}{n:Nat}(u:∀m,m<n->∃r∈L,r.1=(advs t.mask (st0 t.mask h) m).j)(s:¬ ∃r∈L,r.1=(advs t.mask (st0 t.mask h) n).j)(C:(advs t.mask (st0 t.mask h) n).j<=t.mask):
  TabW (t.put (advs t.mask (st0 t.mask h) n).j).1 (insertAt es (t.put (advs t.mask (st0 t.mask h) n).j).2 (h,x)) (ins L (t.put (advs t.mask (st0 t.mask h) n).j).2 ((advs t.mask (st0 t.mask h) n).j,h,x)):=by
 generalize K:(advs t.mask (st0 t.mask h) n).j=j at*;obtain⟨G,H,I⟩:=z4P w.riseP j;have N:(t.put j).2=below t.place j:=rfl;rw[N];generalize Q:below t.place j=p at*;have O:p<=L.length:=by rw[<- w.size.1];exact G
 have o:∀i (g:i<L.length),t.place.getD i 0=(L[i]).1:=λi g=>by rw[w.place];simp[Array.getD,g]
 have R:∀r∈L.take p,r.1<j:=λr f=>by
  obtain⟨i,g,rfl⟩:=wT.mp f;have d:i<p/\i<L.length:=by simp at g;lia
  have:=H i d.1;rw[o i d.2] at this;simpa using this
 have g:∀r∈L.drop p,j<r.1:=λr f=>by
  obtain⟨i,g,rfl⟩:=wT.mp f;have d:p+i<L.length:=by simp at g;lia
  have J:=I (p+i) (by lia) (by rw[w.size.1];exact d);rw[o _ d] at J;have S:(L[p+i]).1≠j:=λz=>s ⟨L[p+i],jp d,z⟩;simp only[List.getElem_drop];lia
 have q:(t.put j).1.dummies = #[]:=by
  show (if has t.dummies j then eraseAt t.dummies (below t.dummies j) else t.dummies) = #[];rw[w.dum];simp[has]
 refine⟨?_,?_,?_,λr f =>?_,q,w.pow,λr f =>?_⟩
 .show insertAt t.place (below t.place j) j=_;rw[Q,w.place,z4t];unfold ins;rw[wA,wL,List.map_take,List.map_drop]
 .rw[w.es,z4t];unfold ins;rw[wA,wL,List.map_take,List.map_drop]
 .unfold ins;rw[ua];have y:=w.rise;rw[<- uV p L,ua] at y;refine⟨y.1,wY.mpr ⟨λr f=>g r f,y.2.1⟩,λa F b A =>?_⟩
  rcases wm.mp A with rfl | A
  .exact R a F
  .exact y.2.2 a F b A
 .show r.1<=t.mask
  rcases z76.mp f with rfl | f
  .exact C
  .exact w.le r f
 .show zaS t.mask _ r.2.1 r.1
  rcases z76.mp f with rfl | f
  .exact⟨n,K,λm M=>by
    obtain⟨E,l,e⟩:=u m M;exact⟨E,z76.mpr (.inr l),e⟩⟩
  .exact(w.reach r f).mono λa ⟨E,l,e⟩=>⟨E,z76.mpr (.inr l),e⟩
theorem j_le {mask:Nat}:∀(n:Nat) {p:Probe},p.j+p.more<=mask->(advs mask p n).j+(advs mask p n).more<=mask
 | 0,_,h=>h
 | n+1,p,h=>by
  have b:=j_le n h;show (adv _ _).j+(adv _ _).more<=mask;unfold adv
  split
  .lia
  .have a:(leap _ (advs mask p n).i (advs mask p n).perturb).1<=mask:=Nat.le_of_lt_succ (jq _ (Nat.succ_pos _));unfold runEnd
   split <;> lia
def zb3 (mask:Nat)(h:Int)(n:Nat):(advs mask (st0 mask h) n).j<=mask:=by
 have:(st0 mask h).j+(st0 mask h).more<=mask:=by
  show bits h % (mask+1)+(runEnd mask _ - bits h % (mask+1))<=mask;have a:bits h % (mask+1)<=mask:=Nat.le_of_lt_succ (jq _ (Nat.succ_pos _));generalize bits h % (mask+1)=x at a;unfold runEnd
  split <;> lia
 have:=j_le n this;lia
variable {α:Type}
def rp (mask i q:Nat):Probe:={ j:=i,more:=runEnd mask i - i,i:=i,perturb:=q,dummy:=none }
def zia (mask:Nat)(h:Int):st0 mask h=rp mask (bits h % (mask+1)) (bits h):=rfl
def zbj (mask i q:Nat):advs mask (rp mask i q) (runEnd mask i - i+1)=rp mask (leap mask i q).1 (leap mask i q).2:=z3F _ _
def zdq (mask i q:Nat){m:Nat}(h:m<=runEnd mask i - i):(advs mask (rp mask i q) m).j=i+m:=by rw[z7q _ _ m h];rfl
def zir (mask i:Nat):i<=runEnd mask i:=by unfold runEnd;split <;> lia
theorem z8c {mask:Nat}{owner:Array (Option Nat)}:∀(fuel i q:Nat),(∃c,c<fuel/\(owner.getD (lp mask i q c).1 (some 0)).isNone=true)->
  ∃s,layClean.free mask owner fuel i q=some (advs mask (rp mask i q) s).j/\(owner.getD (advs mask (rp mask i q) s).j (some 0)).isNone=true/\∀m,m<s->(owner.getD (advs mask (rp mask i q) m).j (some 0)).isNone=false
 | 0,i,q,⟨c,l,_⟩=>absurd l (jA _)
 | fuel+1,i,q,⟨c,l,h⟩=>by
  rw[layClean.free];have r:=zir mask i
  cases n:(List.range (runEnd mask i+1 - i)).find? λk=>(owner.getD (i+k) (some 0)).isNone with
  | some k=>
   obtain⟨b,e,g⟩:=List.find?_range_eq_some.mp n;have t:k<runEnd mask i+1 - i:=by simpa using e
   dsimp only;refine⟨k,by rw[zdq mask i q (by lia)],by rw[zdq mask i q (by lia)];exact b,λm o =>?_⟩;rw[zdq mask i q (by lia)];have:=g m o;simpa using this
  | none=>
   have u:=List.find?_range_eq_none.mp n;have all:∀k,k<=runEnd mask i - i->(owner.getD (i+k) (some 0)).isNone=false:=λk t=>by
    have:=u k (by lia);simpa using this
   have p:c≠0:=λz=>by
    subst z;have:=all 0 (vn _);rw[Nat.add_zero] at this;have a:(owner.getD i (some 0)).isNone=true:=h;rw[this] at a
    cases a
   obtain⟨f,rfl⟩:∃f,c=f+1:=⟨c - 1,by lia⟩
   rw[zc6] at h;obtain⟨s,b,e,g⟩:=z8c fuel _ _ ⟨f,by lia,h⟩;rw[<- zbj, <- z2F] at b e;dsimp only;refine⟨runEnd mask i - i+1+s,b,e,λm o =>?_⟩
   rcases wN m (runEnd mask i - i+1) with z | z
   .rw[zdq mask i q (by lia)];exact all m (by lia)
   .obtain⟨d,rfl⟩:∃d,m=runEnd mask i - i+1+d:=⟨m - (runEnd mask i - i+1),by lia⟩
    rw[z2F,zbj];exact g d (by lia)
structure Own (mask:Nat)(hs:List Int)(owner:Array (Option Nat))(pos:List Nat):Prop where
 size:owner.size=mask+1
 len:pos.length=hs.length
 le:∀j∈pos,j<=mask
 nd:pos.Nodup
 own:∀j,j<=mask->∀k,owner.getD j (some 0)=some k↔pos[k]? = some j
 reach:∀(k:Nat) (h:Int) (j:Nat),hs[k]? = some h->pos[k]? = some j->zaS mask (· ∈ pos) h j
def Own.free {mask:Nat}{hs:List Int}{owner:Array (Option Nat)}{pos:List Nat}(o:Own mask hs owner pos){j:Nat}(a:j<=mask):(owner.getD j (some 0)).isNone=true↔j ∉ pos:=by
 constructor
 .intro h z;obtain⟨k,b,e⟩:=wT.mp z;have:=(o.own j a k).mpr (by simp_all)
  simp_all
 .intro h
  cases e:owner.getD j _ with
  | none=>rfl
  | some k=>exact absurd (wD ((o.own j a k).mp e)) h
def Own.add {mask k:Nat}{hs:List Int}{owner:Array (Option Nat)}{pos:List Nat}(o:Own mask hs owner pos)(E:mask+1=2 ^ k)(H:hs.length<=mask)(h:Int):
  ∃j,layClean.free mask owner (turns mask) (bits h % (mask+1)) (bits h)=some j/\Own mask (hs++[h]) (owner.setIfInBounds j (some hs.length)) (pos++[j]):=by
 have A:∃e,e<=mask/\e ∉ pos:=by
  refine vZ λG =>?_;have:=z2W (l:=List.range (mask+1)) (l':=pos) List.nodup_range λx r=>vZ λz=>G ⟨x,by have:=ub.mp r;lia,z⟩;rw[v8,o.len] at this;lia
 obtain⟨e,M,F⟩:=A;have U:bits h<2 ^ 64:=(z4c { mask:=mask,place := #[],dummies := #[],finger:=0,led:=true,moves:=0,plain:=true } h).1;obtain⟨c,c1,c2,N⟩:=zf8 (i:=bits h % (mask+1)) (q:=bits h) E U M;obtain⟨s,J,K,L⟩:=z8c (mask:=mask) (owner:=owner) (turns mask) (bits h % (mask+1)) (bits h) ⟨c,by unfold turns;lia,by rw[N];exact(o.free M).mpr F⟩;rw[<- zia] at J K L;have g:=zb3 mask h s;refine⟨_,J,?_⟩;generalize R:(advs mask (st0 mask h) s).j=j at*;have p:j ∉ pos:=(o.free g).mp K;refine⟨by rw[Array.size_setIfInBounds];exact o.size,by rw[wC,wC,o.len];rfl,λx r =>?_,?_,λx r n =>?_,λn I X t u =>?_⟩
 .rcases wG.mp r with z | z
  .exact o.le x z
  .rw[wo.mp z];exact g
 .rw[List.nodup_append];exact⟨o.nd,by simp,λa y b Q z=>p (by rw[wo.mp Q] at z;exact z ▸ y)⟩
 .have W:x<owner.size:=by rw[o.size];lia
  have O:(owner.setIfInBounds j (some hs.length)).getD x (some 0)=if j=x then some hs.length else owner.getD x (some 0):=by
   have C:j<owner.size:=by rw[o.size];lia
   rw[uK,uK,Array.getElem?_setIfInBounds]
   by_cases d:j=x
   .subst d;rw[if_pos rfl,if_pos C,if_pos rfl];rfl
   .rw[if_neg d,if_neg d]
  rw[O]
  by_cases d:j=x
  .subst d;rw[if_pos rfl]
   constructor
   .intro z;have:hs.length=n:=vh z;rw[<- this, <- o.len,wU (wq _)];simp
   .intro z
    rcases wN n pos.length with f | f
    .rw[wH f] at z;exact absurd (wD z) p
    .rw[wU f] at z;have T:n - pos.length=0:=by
      rcases Nat.eq_zero_or_pos (n - pos.length) with w | w
      .exact w
      .rw[v5 (by show 1<=_;lia)] at z;cases z
     rw[<- o.len]
     congr 1
     lia
  .rw[if_neg d,o.own x r n]
   constructor
   .intro z;obtain⟨S,_⟩:=wv.mp z;rw[wH S];exact z
   .intro z
    rcases wN n pos.length with f | f
    .rw[wH f] at z;exact z
    .rw[wU f] at z;exact absurd (wo.mp (wD z)).symm d
 .rcases wN n pos.length with f | f
  .rw[wH f] at u;rw[wH (by rw[<- o.len];exact f)] at t;exact(o.reach n I X t u).mono λa y=>jJ _ y
  .rw[wU f] at u;rw[wU (by rw[<- o.len];exact f)] at t;have Y:=wo.mp (wD t);have Z:=wo.mp (wD u);subst Y Z;refine⟨s,R,λm E=>jJ _ ?_⟩;have:=L m E;refine vZ λz =>?_;rw[(o.free (zb3 mask I m)).mpr z] at this
   cases this
theorem z5H {mask k:Nat}(g:mask+1=2 ^ k):∀(hs done:List Int) (owner:Array (Option Nat)) (b:List Nat),Own mask done owner b->done.length+hs.length<=mask+1->
  ∃a d,(hs.foldl (init:=some (owner,done.length)) λf h=>do
   let (owner,k) <- f
   let j <- layClean.free mask owner (turns mask) (bits h % (mask+1)) (bits h)
   pure (owner.setIfInBounds j (some k),k+1))=some (a,done.length+hs.length)/\Own mask (done++hs) a d
 | [],done,owner,b,o,_=>⟨owner,b,rfl,by simp_all⟩
 | h::hs,done,owner,b,o,l=>by
  simp[wQ] at l;obtain⟨j,e,m⟩:=o.add g (by lia) h;obtain⟨p,ps,i,n⟩:=z5H g hs _ _ _ m (by simp;lia);refine⟨p,ps,?_,by simpa using n⟩;rw[List.foldl_cons];have:(do
   let (owner,k) <- some (owner,done.length)
   let j <- layClean.free mask owner (turns mask) (bits h % (mask+1)) (bits h)
   pure (owner.setIfInBounds j (some k),k+1))=some (owner.setIfInBounds j (some done.length),(done++[h]).length):=by
   simp[e]
  rw[this,i];simp;lia
def own0 (mask:Nat):Own mask [] (Array.replicate (mask+1) none) []:=by
 refine⟨by simp,rfl,by simp,by simp,λj a k =>?_,λk h j e _=>by simp at e⟩;have:(Array.replicate (mask+1) none).getD j (some 0)=none:=by simp[Array.getD,show j<mask+1 by lia]
 rw[this];simp
def zha {mask k finger moves:Nat}{led plain:Bool}(R:mask+1=2 ^ k)(Z:3<=k){es:Array (Int × α)}(hl:es.size<=mask+1):
  ∃t' d W,laid mask finger moves led plain (es.map (·.1))=some (t',d)/\t'.mask=mask/\t'.finger=finger/\t'.moves=moves/\t'.led=led/\t'.plain=plain/\(d.filterMap (es[·]?)).size=es.size/\TabW t' (d.filterMap (es[·]?)) W/\(d.filterMap (es[·]?)).toList.Perm es.toList:=by
 obtain⟨owner,s,e,o⟩:=z5H R (es.map (·.1)).toList [] _ _ (own0 mask) (by simpa using hl);simp only[List.nil_append,uc,Nat.zero_add] at e o;have G:layClean mask (es.map (·.1))=some owner:=by
  unfold layClean;rw[<- Array.foldl_toList,e]
  rfl
 have hn:(es.map (·.1)).toList.length=es.size:=by simp
 have a0:s.length=es.size:=by rw[o.len,hn]
 generalize f:((List.range (mask+1)).filterMap λj=>(owner.getD j none).map (j, ·))=live;have Q:∀j,j<=mask->owner.getD j none=owner.getD j (some 0):=λj F=>by
  have:j<owner.size:=by rw[o.size];lia
  simp[Array.getD,this]
 have g:∀j n,(j,n)∈live↔s[n]? = some j:=λj n=>by
  rw[<- f,uE]
  constructor
  .rintro⟨x,q,e⟩;have u:x<=mask:=by have:=ub.mp q;lia
   rw[Q x u] at e;obtain⟨y,hy,L⟩:=ur.mp e
   cases L
   exact(o.own j u n).mp hy
  .intro h;have F:j<=mask:=o.le j (wD h);refine⟨j,ub.mpr (by lia),?_⟩;rw[Q j F,(o.own j F n).mpr h]
   rfl
 have m:live.Pairwise λa b=>a.1<b.1:=by
  rw[<- f];have p:(List.range (mask+1)).Pairwise (· < ·):=List.pairwise_lt_range;generalize List.range (mask+1)=U at p
  induction U with
  | nil=>simp
  | cons x U K=>
   obtain⟨p1,S⟩:=wY.mp p;rw[uv]
   cases q:(owner.getD x none).map (x, ·) with
   | none=>exact K S
   | some y=>
    obtain⟨z,_,rfl⟩:=ur.mp q;refine wY.mpr ⟨λb E =>?_,K S⟩;obtain⟨x',u,X⟩:=uE.mp E;obtain⟨z',_,rfl⟩:=ur.mp X;exact p1 x' u
 have O:(live.map (·.2)).Nodup:=by
  rw[List.nodup_iff_pairwise_ne,wS];refine List.Pairwise.imp_of_mem ?_ m;intro a b t E Y z;have p:=(g a.1 a.2).mp t;have C:=(g b.1 b.2).mp E;rw[<- z,p] at C;have:a.1=b.1:=vh C;lia
 have perm:(live.map (·.2)).Perm (List.range es.size):=by
  refine z4i O List.nodup_range λn =>?_;rw[ub]
  constructor
  .intro h;obtain⟨a,t,rfl⟩:=wj.mp h;obtain⟨M,_⟩:=wv.mp ((g a.1 a.2).mp t);lia
  .intro h;refine wj.mpr ⟨(s[n]'(by lia),n),(g _ _).mpr (wt (by lia)),rfl⟩
 have J:(List.range es.size).filterMap (es[·]?)=es.toList:=by
  have:∀(l:List (Int × α)),(List.range l.length).filterMap (l[·]?)=l:=λl=>by
   have A:(List.range l.length).map (l[·]?)=l.map some:=by
    apply List.ext_getElem
    .simp
    .intro i p C;simp at p;simp[p]
   have L:(List.range l.length).filterMap (l[·]?)=((List.range l.length).map (l[·]?)).filterMap id:=by rw[List.filterMap_map];rfl
   rw[L,A,List.filterMap_map];simp
  have h:=this es.toList;simpa using h
 have T:(((live.map (·.2)).toArray).filterMap (es[·]?)).toList.Perm es.toList:=by
  have:=perm.filterMap (es[·]?);rw[J] at this;simpa using this
 refine⟨{ mask,place:=(live.map (·.1)).toArray,dummies := #[],finger,led,moves,plain },(live.map (·.2)).toArray,live.filterMap λa=>(es[a.2]?).map λx=>(a.1,x),?_,rfl,rfl,rfl,rfl,rfl,?_,?_,T⟩
 .unfold laid;rw[G];simp only[Option.bind_eq_bind,Option.bind_some];rw[f]
  rfl
 .have:=T.length_eq;simpa using this
 ·-- each live row has an element
  have has:∀a∈live,∃x,es[a.2]? = some x:=λa t=>by
   obtain⟨M,_⟩:=wv.mp ((g a.1 a.2).mp t);exact⟨es[a.2]'(by lia),ue (by lia)⟩
  have A:∀(l:List (Nat × Nat)),(∀a∈l,∃x,es[a.2]? = some x)->(l.filterMap λa=>(es[a.2]?).map λx=>(a.1,x)).map (·.1)=l.map (·.1)/\(l.filterMap λa=>(es[a.2]?).map λx=>(a.1,x)).map (·.2)=(l.map (·.2)).filterMap (es[·]?):=λl=>by
   induction l with
   | nil=>intro _;exact⟨rfl,rfl⟩
   | cons a l K=>
    intro h;obtain⟨x,q⟩:=h a (by simp);obtain⟨i1,i2⟩:=K λb E=>h b (by simp[E]);refine⟨?_,?_⟩
    .rw[uv,q];simp only[Option.map_some,wL];rw[i1]
    .rw[uv,q];simp only[Option.map_some,wL,uv,q];rw[i2]
  have w:∀r:Rw α,r∈(live.filterMap λa=>(es[a.2]?).map λx=>(a.1,x))->∃n,s[n]? = some r.1/\es[n]? = some r.2:=λr I=>by
   obtain⟨a,t,e⟩:=uE.mp I;obtain⟨x,q,rfl⟩:=ur.mp e;exact⟨a.2,(g a.1 a.2).mp t,q⟩
  have occ:∀j,j∈s->∃r'∈(live.filterMap λa=>(es[a.2]?).map λx=>(a.1,x)),r'.1=j:=λj F=>by
   obtain⟨n,N,e⟩:=wT.mp F;have H:(j,n)∈live:=(g j n).mpr (by rw[wt N,e]);obtain⟨x,q⟩:=has _ H;exact⟨(j,x),uE.mpr ⟨(j,n),H,by rw[show es[(j,n).2]? = some x from q];rfl⟩,rfl⟩
  refine⟨by rw[(A live has).1],?_,?_,λr I =>?_,rfl,⟨k,Z,R⟩,λr I =>?_⟩
  .rw[(A live has).2];apply Array.ext';simp
  .have:((live.filterMap λa=>(es[a.2]?).map λx=>(a.1,x)).map (·.1)).Pairwise (· < ·):=by
    rw[(A live has).1,wS];exact m
   rw[wS] at this;exact this
  .obtain⟨n,p,_⟩:=w r I;exact o.le r.1 (wD p)
  .obtain⟨n,p,C⟩:=w r I;exact(o.reach n r.2.1 r.1 (by simp[C]) p).mono λa t=>occ a t
open PyProof.Rows
section
variable {prog:Program}{w:World}{A:Around}{E:WvP}{s:Shared}
abbrev TK (prog:Program)(w:World)(h:Heap)(k:List Int)(a:Addr):Prop:=IsTupleKey (intKind prog w) h k a
def z90 {n:Nat}{v:Value}(h:carriedByValue v=true):ofAClassStatement n v=pure false:=by
 cases v with
 | ref a=>simp[carriedByValue] at h
 | _=>first | rfl | (unfold ofAClassStatement;rfl) | rfl
def z2e {ks:List Int}{a:Addr}{Q:Bool->Shared->Prop}(g:TK prog w s.heap ks a)(h:Q false s):wpAny (model prog w) A (ofAClassStatement 8 (.ref a)) Q E s:=by
 have j:=g.typeIs;obtain⟨o,z01,n,p,_,l,m⟩:=g;unfold ofAClassStatement;refine wc (jd j ?_);refine wc (wg ?_);refine wc (v3 p l ?_);refine wc ?_;rw[<- Array.forIn_toList];refine jo _ (λd r f=>r.1=none/\f=s/\∀v∈d,carriedByValue v=true) _ ?_ ?_ _ _ ⟨rfl,rfl,m.byValue⟩
 .rintro v d r f ⟨i,rfl,b⟩;rw[z90 (b v ww)];exact wg ⟨rfl,rfl,λu e=>b u (wp _ e)⟩
 .rintro⟨r1,r2⟩ f ⟨i,rfl,_⟩;subst i;exact wg h
def zaI {n:Nat}{k:Int}{v:Value}(h:(intKind prog w).is k v=true):hashByValue n v=pure true:=by
 obtain⟨t,rfl⟩:=Value.isInt_shape h
 cases n <;> rfl
def z46 {ks:List Int}{a:Addr}{Q:Bool->Shared->Prop}(e:TK prog w s.heap ks a)(h:Q true s):wpAny (model prog w) A (hashByValue 8 (.ref a)) Q E s:=by
 have j:=e.typeIs;obtain⟨o,z01,n,t,_,m,p⟩:=e;refine wc (uC j F.slot_tuple_hash.lookup ?_);refine wc (v3 t m ?_);refine wc ?_;rw[<- Array.forIn_toList];refine jo _ (λb r d=>r.1=none/\d=s/\∃l,ItemsAre (intKind _ w) l b) _ ?_ ?_ _ _ ⟨rfl,rfl,ks,p⟩
 .rintro v b r d ⟨f,rfl,l,q⟩
  cases q with
  | cons g i=>
   rw[zaI g];exact wg ⟨rfl,rfl,_,i⟩
 .rintro⟨r1,r2⟩ d ⟨f,rfl,_⟩;subst f;exact wg h
def za8 {ks:List Int}{a:Addr}{d:List Value}{Q:Bool->Shared->Prop}(n:TK prog w s.heap ks a)(i:∀y∈d,∃b k,y = .ref b/\TK prog w s.heap k b)(h:Q false s):wpAny (model prog w) A (searchCouldBeSeen (.ref a) d) Q E s:=by
 unfold searchCouldBeSeen;refine wc ?_;refine jo _ (λf r l=>r.1=none/\l=s/\∀y∈f,∃b k,y = .ref b/\TK prog w s.heap k b) _ ?_ ?_ _ _ ⟨rfl,rfl,i⟩
 .rintro y f r l ⟨g,rfl,e⟩;obtain⟨b,k,rfl,m⟩:=e y ww;dsimp only
  split
  .exact wg ⟨rfl,rfl,λu j=>e u (wp _ j)⟩
  .refine wc (wpAny_eqIsQuiet_tuple n ?_);simp only[Bool.not_true,vi,jh];refine wc (wpAny_eqIsQuiet_tuple m ?_);simp only[Bool.not_true,vi,jh];refine wc (z2e n ?_);simp only[vi,jh];refine wc (z2e m ?_);simp only[vi,jh];exact wg ⟨rfl,rfl,λu j=>e u (wp _ j)⟩
 .rintro⟨r1,r2⟩ l ⟨g,rfl,_⟩;simp only at g;subst g;exact wg h
structure z8y (prog:Program)(w:World)(h:Heap)(a:Addr)(L:List (Rw Value))(o:Obj)(es:Array (Int × Value))(ep:Nat)(t:SetTable):Prop where
 get:h.get? a=some o
 ex:o.ExactSet
 data:o.data = .set es ep t
 tab:TabW t es L
 room:L.length<=t.mask
 small:t.mask<=8191
 plain:t.plain=true
 led:t.led = !w.params.followText "set-order"
 key:∀r∈L,∃b k,r.2.2 = .ref b/\TK prog w h k b/\r.2.1=tupleKeyHash (intKind prog w) k
theorem z8y.fits {h:Heap}{a:Addr}{L:List (Rw Value)}{o:Obj}{es:Array (Int × Value)}{ep:Nat}{t:SetTable}(x:z8y prog w h a L o es ep t):t.fits es.size=true:=by
 unfold SetTable.fits;rw[x.tab.size.1,x.tab.size.2.1,x.tab.size.2.2];simp[x.room]
def z8y.odd {h:Heap}{a:Addr}{L:List (Rw Value)}{o:Obj}{es:Array (Int × Value)}{ep:Nat}{t:SetTable}(x:z8y prog w h a L o es ep t):t.gaveWay=false:=by
 unfold SetTable.gaveWay;obtain⟨k,b,e⟩:=x.tab.pow
 grind
def zf9 {t:SetTable}{es:Array (Int × Value)}{L:List (Rw Value)}(w:TabW t es L){i j:Nat}(h:t.place[i]? = some j):∃r,L[i]? = some r/\r.1=j/\es[i]? = some r.2:=by
 have a:(L.map (·.1))[i]? = some j:=by rw[w.place] at h;simpa using h
 rw[wO] at a;obtain⟨r,b,e⟩:=ur.mp a;refine⟨r,b,e,?_⟩;rw[w.es];simp[b]
def z7r {a b:Addr}{u:List Int}{L:List (Rw Value)}{o:Obj}{es:Array (Int × Value)}{ep:Nat}{t:SetTable}(x:z8y prog w s.heap a L o es ep t)(hu:A.units<cLine)(hk:TK prog w s.heap u b){N:Nat}
  (hN:¬ ∃r∈L,r.1=(advs t.mask (st0 t.mask (tupleKeyHash (intKind prog w) u)) N).j) {Q:SetFound->Shared->Prop}
  (O:(∃r∈L,∃c,r.2.2 = .ref c/\TK prog w s.heap u c)->Q (.there none) s)
  (X:∀n,(∀m,m<n->∃r∈L,r.1=(advs t.mask (st0 t.mask (tupleKeyHash (intKind prog w) u)) m).j/\∀c,r.2.2 = .ref c->¬ TK prog w s.heap u c)->(¬ ∃r∈L,r.1=(advs t.mask (st0 t.mask (tupleKeyHash (intKind prog w) u)) n).j)->Q (.free (advs t.mask (st0 t.mask (tupleKeyHash (intKind prog w) u)) n).j false) s):
  ∀(g n:Nat) (q:Option Probe),q.getD (t.probeStart (tupleKeyHash (intKind prog w) u))=advs t.mask (st0 t.mask (tupleKeyHash (intKind prog w) u)) n->N<g+n->
   (∀m,m<n->∃r∈L,r.1=(advs t.mask (st0 t.mask (tupleKeyHash (intKind prog w) u)) m).j/\∀c,r.2.2 = .ref c->¬ TK prog w s.heap u c)->
   wpAny (model prog w) A (setSearchFrom a (.ref b) (tupleKeyHash (intKind prog w) u) true g q) Q E s:=by
 intro g
 induction g with
 | zero=>
  intro n q hs hl I;obtain⟨r,M,e,_⟩:=I N (by lia);exact absurd ⟨r,M,e⟩ hN
 | succ g ih=>
  intro n q hs hl I;generalize hh:tupleKeyHash (intKind prog w) u=F at*;unfold setSearchFrom;refine wc (vQ x.get x.data x.fits ?_);dsimp only;rw[x.odd];simp only[vi,jh]
  try refine wc (wg ?_)
  rw[hs];obtain⟨f,hf⟩:∃f:Nat->Int,f=λi=>(es[i]?.map (·.1)).getD 0:=⟨_,rfl⟩
  show wpAny (model prog w) A (match t.probe (λi=>(es[i]?.map (·.1)).getD 0) F (advs t.mask (st0 t.mask F) n) with
   | some a7=>_
   | _=>_) Q E s
  rw[<- hf];have other:∀r∈L,r.2.1≠F->∀c,r.2.2 = .ref c->¬ TK prog w s.heap u c:=λr M K c e z=>by
   obtain⟨b',k,R,Y,eh⟩:=x.key r M;rw[R] at e
   cases e
   rw[Y.inj z] at eh;exact K (eh.trans hh)
  obtain⟨d,h1,h2⟩:=x.tab.probe x.room f F n;have H:∀m,m<n+d->∃r∈L,r.1=(advs t.mask (st0 t.mask F) m).j/\∀c,r.2.2 = .ref c->¬ TK prog w s.heap u c:=λm hm=>by
   rcases wN m n with z | z
   .exact I m z
   .obtain⟨i,hi,K⟩:=h1 m z hm;obtain⟨r,M,e1,e2⟩:=zf9 x.tab hi;have G:r∈L:=wD M;refine⟨r,G,e1,other r G ?_⟩;rw[hf] at K;simpa[e2] using K
  rcases h2 with ⟨a0,e⟩ | ⟨i,hi,a3,e⟩
  .rw[e];dsimp only;exact wg (X (n+d) H <| by
    rintro⟨r,M,R⟩;obtain⟨i,hi⟩:=x.tab.occ.mpr ⟨r,M,R⟩;exact a0 i hi)
  .rw[e];dsimp only;obtain⟨r,M,e1,e2⟩:=zf9 x.tab hi;have G:r∈L:=wD M;obtain⟨c,k,ec,hc,a2⟩:=x.key r G;have U:wpAny (model prog w) A (match es[i]? with
             | some (_,y)=>do
              let l <- holding [y] (eqBool y (Value.ref b))
              let W <- setState a
              if (true && l)=true then pure (SetFound.there none)
               else
                match W.2.snd.sameMemory t.moves t.mask with
                | some same=>
                 match if same=true then W.2.snd.slot (advs t.mask (st0 t.mask F) (n+d)).j else Slot.empty with
                 | Slot.live T=>
                  match W.fst[T]? with
                  | some (_,y')=>do
                   let C <- isSame y' y
                   let h <- pure (if C=true then some T else none)
                   match h with
                    | none=>do
                     rule "set.search.anew"
                     setSearchFrom a (Value.ref b) F true g none
                    | some T=>if l=true then pure (SetFound.there (some T)) else setSearchFrom a (Value.ref b) F true g (some (advs t.mask (st0 t.mask F) (n+d+1)))
                  | none=>do
                   let h <- pure none
                   match h with
                    | none=>do
                     rule "set.search.anew"
                     setSearchFrom a (Value.ref b) F true g none
                    | some T=>if l=true then pure (SetFound.there (some T)) else setSearchFrom a (Value.ref b) F true g (some (advs t.mask (st0 t.mask F) (n+d+1)))
                 | _=>do
                  let h <- pure none
                  match h with
                   | none=>do
                    rule "set.search.anew"
                    setSearchFrom a (Value.ref b) F true g none
                   | some T=>if l=true then pure (SetFound.there (some T)) else setSearchFrom a (Value.ref b) F true g (some (advs t.mask (st0 t.mask F) (n+d+1)))
                | _=>unsupported "set.changed-during-lookup:is-the-new-block-at-the-old-address"
             | _=>unsupported "internal:set-entry") Q E s:=by
    rw[e2, <- Prod.eta r.2];dsimp only;rw[ec];refine wc (vS (wpAny_eqBool_tuple hu hc hk ?_));refine wc (vQ x.get x.data x.fits ?_);dsimp only
    by_cases J:k=u
    .rw[wE J];simp only[Bool.and_self,jS];exact wg (O ⟨r,G,c,ec,J ▸ hc⟩)
    .rw[w9 J];simp only[jL,vi,jh];have a6:t.sameMemory t.moves t.mask=some true:=by unfold SetTable.sameMemory;simp
     rw[a6];dsimp only;rw[if_pos rfl,z7x x.tab.riseP hi];dsimp only;rw[e2, <- Prod.eta r.2];dsimp only;rw[ec];refine wc (wpAny_isSame_ref_self ?_);refine wc (wg ?_);simp only[jS];refine ih (n+d+1) _ rfl (by lia) λm hm =>?_
     rcases wN m (n+d) with z | z
     .exact H m z
     .have:m=n+d:=by lia
      subst this;exact⟨r,G,e1,λc' R z=>by
       rw[ec] at R
       cases R
       exact J (hc.inj z)⟩
   by_cases S:t.led=true
   .rw[S];simp only[Bool.not_true,vi,jh];exact U
   .have Z:t.led=false:=by simpa using S
    rw[Z];simp only[Bool.not_false,jS];refine wc (za8 hk (λy hy =>?_) ?_)
    .obtain⟨p,hp,rfl⟩:=wj.mp hy;have a1:p∈es:=by
      have:=Array.mem_toList_iff.mp hp;exact(Array.mem_filter.mp this).1
     have a4:p∈L.map (·.2):=by rw[x.tab.es] at a1;simpa using a1
     obtain⟨r',a5,rfl⟩:=wj.mp a4;obtain⟨b',k',R,Y,_⟩:=x.key r' a5;exact⟨b',k',R,Y⟩
    .simp only[vi,jh];exact U
end
theorem z4T (n:Nat):∀(fuel j:Nat),n<2 ^ (j+fuel)->∃k,sizeAbove.go n fuel (2 ^ j)=2 ^ k/\j<=k/\n<2 ^ k/\(k=j\/2 ^ k<=2*n)
 | 0,j,h=>⟨j,rfl,wq _,h,.inl rfl⟩
 | fuel+1,j,h=>by
  rw[sizeAbove.go]
  by_cases b:2 ^ j<=n
  .rw[if_pos b];obtain⟨k,d,f,e,a⟩:=z4T n _ _ (by rw[show j+1+fuel=j+(fuel+1) by lia];exact h);refine⟨k,d,by lia,e,.inr ?_⟩
   rcases a with a | a
   .grind
   .exact a
  .rw[if_neg b];exact⟨j,rfl,wq _,by lia,.inl rfl⟩
def z5Z {n:Nat}(h:n<2 ^ 60):∃k,sizeAbove n=2 ^ k/\3<=k/\n<2 ^ k/\(k=3\/2 ^ k<=2*n):=z4T n 64 3 (wF h (by decide))
section
variable {prog:Program}{w:World}{A:Around}{E:WvP}{s:Shared}
def TK.stay {h g:Heap}{k:List Int}{a b:Addr}{o:Obj}{es ep t}(x:TK prog w h k b)(p:h.get? a=some o)(m:o.data = .set es ep t)(hs:Heap.SameBut a h g):TK prog w g k b:=by
 obtain⟨l,z01,n,f,i,d,j⟩:=x;have e:b≠a:=by
  grind
 exact⟨l,z01,n,(hs.2 b e).trans f,i,d,j⟩
structure zcU (prog:Program)(w:World)(h:Heap)(a:Addr)(L:List (Rw Value)):Prop where
 ex:∃o es ep t,z8y prog w h a L o es ep t/\L.length*5<t.mask*3
def z7v {h:Heap}{a:Addr}{o:Obj}{es:Array (Int × Value)}{ep:Nat}{t:SetTable}(e:h.get? a=some o)(d:o.data = .set es ep t)(b:Array (Int × Value))(t':SetTable):
  (h.update a (Obj.putSet b t')).get? a=some { o with data :=.set b (ep+1) t' }:=by
 have:=wW (Obj.putSet b t') e (by rw[putSet_of b t' d];rfl);rw[putSet_of b t' d] at this;exact this
def z4Y {a b:Addr}{S:List Int}{L:List (Rw Value)}(x:zcU prog w s.heap a L)(hu:A.units<cLine)(hk:TK prog w s.heap S b)(c9:L.length<2047){Q:Bool->Shared->Prop}
  (Z:(∃r∈L,∃c,r.2.2 = .ref c/\TK prog w s.heap S c)->∀tk,Q false { s with toks:=tk })
  (b6:(¬ ∃r∈L,∃c,r.2.2 = .ref c/\TK prog w s.heap S c)->∀H tk L',Heap.SameBut a s.heap H->zcU prog w H a L'->(L'.map (·.2)).Perm ((tupleKeyHash (intKind prog w) S,.ref b)::L.map (·.2))->Q true { s with heap:=H,toks:=tk }):
  wpAny (model prog w) A (setAdd a (.ref b)) Q E s:=by
 obtain⟨o,es,ep,t,y,c3⟩:=x.ex;unfold setAdd;refine vS (wc (wpAny_pyHash_tuple hu hk ?_));generalize Y:({ s with toks:=s.toks+(S.length+1) }:Shared)=T;have d:z8y prog w T.heap a L o es ep t:=by rw[<- Y];exact y
 have a7:TK prog w T.heap S b:=by rw[<- Y];exact hk
 unfold setAddHashed;refine vS ?_;show wpAny _ _ (setAddHashedIn a (.ref b) _ (99999+1)) _ _ _;unfold setAddHashedIn;refine wc (vQ d.get d.data d.fits ?_);dsimp only;have c2:byScan (Value.ref b) es=false:=by unfold byScan;simp[Value.scannable]
 rw[c2];simp only[vi,jh];obtain⟨N,hN,c1⟩:=d.tab.soon d.room (tupleKeyHash (intKind prog w) S);have a9:t.mask<=8191:=d.small;refine wc ?_;unfold setSearch;refine z7r (s:=T) d hu a7 c1 ?_ ?_ 100000 0 none rfl (by unfold turns at hN;lia) (λm hm=>absurd hm (jA _))
 .intro b3;dsimp only;refine wg ?_;rw[<- Y] at b3 ⊢;exact Z b3 _
 .intro n a3 J;dsimp only;refine wc (vQ d.get d.data d.fits ?_);dsimp only;have a0:¬ ∃r∈L,∃c,r.2.2 = .ref c/\TK prog w T.heap S c:=by
   rintro⟨r,C,c,ec,hc⟩;obtain⟨U,k',e',l,eh⟩:=d.key r C;rw[ec] at e'
   cases e'
   have ek:=l.inj hc;subst ek;obtain⟨m,e1,e2⟩:=d.tab.reach r C;rw[eh] at e1 e2
   rcases ux m n with z | z | z
   .obtain⟨r',M,e3,e4⟩:=a3 m z;have:r'=r:=by
     have nd:=d.tab.nodup;have e5:r'.1=r.1:=e3.trans e1;obtain⟨i,hi,ei⟩:=wT.mp M;obtain⟨j,hj,ej⟩:=wT.mp C;have c5:i=j:=by
      rcases ux i j with q | q | q
      .have:=vI.mp d.tab.rise i j hi hj q;rw[ei,ej] at this;lia
      .exact q
      .have:=vI.mp d.tab.rise j i hj hi q;rw[ei,ej] at this;lia
     subst c5;exact ei.symm.trans ej
    subst this;exact e4 c ec hc
   .subst z;exact J ⟨r,C,e1.symm⟩
   .obtain⟨r',M,e3⟩:=e2 n z;exact J ⟨r',M,e3⟩
  generalize hh:tupleKeyHash (intKind prog w) S=I at*;generalize hj:(advs t.mask (st0 t.mask I) n).j=j at*;have c6:j<=t.mask:=by rw[<- hj];exact zb3 t.mask I n
  have G:TabW (t.put j).1 (insertAt es (t.put j).2 (I,Value.ref b)) (ins L (t.put j).2 (j,I,Value.ref b)):=by
   have:=d.tab.put (x:=Value.ref b) (h:=I) (n:=n) (λm hm=>by
    obtain⟨r,C,e,_⟩:=a3 m hm;exact⟨r,C,e⟩) (by rw[hj];exact J) (by rw[hj];exact c6)
   rw[hj] at this;exact this
  have X:(ins L (t.put j).2 (j,I,Value.ref b)).length=L.length+1:=by
   unfold ins;rw[wC,wQ,uf,uQ];lia
  have b5:(t.put j).1.mask=t.mask:=rfl;have b0:(t.put j).1.plain=true:=d.plain;have p:((ins L (t.put j).2 (j,I,Value.ref b)).map (·.2)).Perm ((I,Value.ref b)::L.map (·.2)):=by
   unfold ins;rw[wA,wL];refine jQ.trans ?_;refine List.Perm.cons _ ?_;rw[<- wA,uV]
  generalize b2:(t.put j).1=t2 at*;generalize d3:ins L (t.put j).2 (j,I,Value.ref b)=L2 at*;generalize d1:insertAt es (t.put j).2 (I,Value.ref b)=f at*;have d0:t.put j=(t2,(t.put j).2):=by rw[<- b2]
  rw[b0];simp only[jS];refine wc (z46 a7 ?_);simp only[jS];have O:f.size=L.length+1:=by rw[G.size.2.1,X]
  refine wc (wpAny_storeSet_of d.get d.data ?_ (by rw[O];exact fits_of_scanBound (by unfold scanBound;lia)));have g2:=z7v d.get d.data f t2;have b1:=uh T.heap a (Obj.putSet f t2);have K:t2.led=t.led:=by rw[<- b2];rfl
  have a5:∀H,Heap.SameBut a T.heap H->∀r:Int × Value,r∈(I,Value.ref b)::L.map (·.2)->∃U k,r.2 = .ref U/\TK prog w H k U/\r.1=tupleKeyHash (intKind prog w) k:=λH sb r C=>by
   rcases wm.mp C with rfl | C
   .exact⟨b,S,rfl,a7.stay d.get d.data sb,hh.symm⟩
   .obtain⟨r',M,rfl⟩:=wj.mp C;obtain⟨U,k',e',l,eh⟩:=d.key r' M;exact⟨U,k',e',l.stay d.get d.data sb,eh⟩
  have fin:∀H L',Heap.SameBut a T.heap H->zcU prog w H a L'->(L'.map (·.2)).Perm ((I,.ref b)::L.map (·.2))->Q true { T with heap:=H }:=λH L' sb ok pm=>by
   rw[<- Y] at sb a0 ⊢;exact b6 a0 H _ L' sb ok pm
  have h7:7<=t.mask:=by
   obtain⟨k,a8,e⟩:=d.tab.pow;have:2 ^ 3<=2 ^ k:=jK (by decide) a8;lia
  have g:z8y prog w (T.heap.update a (Obj.putSet f t2)) a L2 { o with data :=.set f (ep+1) t2 } f (ep+1) t2:=by
   refine⟨g2,d.ex,rfl,G,?_,?_,b0,?_,λr C =>?_⟩
   .rw[X,b5];lia
   .rw[b5];exact a9
   .rw[K];exact d.led
   .obtain⟨U,k',e',l,eh⟩:=a5 _ b1 r.2 (p.mem_iff.mp (wj.mpr ⟨r,C,rfl⟩));exact⟨U,k',e',l,eh⟩
  have a6:t2.fill=L.length+1:=by rw[G.size.2.2,X]
  by_cases b7:t2.tooFull=true
  .rw[b7];simp only[Bool.not_false,Bool.and_self,jS];obtain⟨k,a1,a8,d4,c7⟩:=z5Z (n:=SetTable.grown (es.size+1)) (by
    have:es.size=L.length:=d.tab.size.2.1;unfold SetTable.grown;rw[this,if_neg (by lia)];exact wF (show (L.length+1)*4<8192 by lia) (by decide))
   have c4:SetTable.grown (es.size+1)=(L.length+1)*4:=by
    have:es.size=L.length:=d.tab.size.2.1;unfold SetTable.grown;rw[this,if_neg (by lia)]
   have d5:2 ^ k<=8192:=by
    rcases c7 with z | z
    .subst z;decide
    .rw[c4] at z
     rcases wN k 14 with y | y
     .exact jK (by decide) (show k<=13 by lia)
     .have:=jK (show 0<2 by decide) y;have:(2:Nat) ^ 14=16384:=by decide
      lia
   have a2:2 ^ k - 1+1=2 ^ k:=Nat.sub_add_cancel (Nat.one_le_two_pow);obtain⟨t3,u,L3,hl,m1,m2,m3,m4,m5,m6,R,b8⟩:=zha (es:=f) (mask:=2 ^ k - 1) (finger:=t2.finger) (moves:=t2.movedTo (2 ^ k - 1)) (led:=t2.led) (plain:=t2.plain) a2 a8 (by rw[O,a2];lia);unfold setRelay;refine wc (wc (vQ g.get g.data g.fits ?_));dsimp only;rw[a1];rw[if_neg (show ¬ 2 ^ k > sizeLine by rw[sizeLine_eq];lia)]
   try refine wc (wg ?_)
   have c8:t2.relaid (f.map (·.1)) (SetTable.grown (es.size+1))=some (t3,u):=by
    unfold SetTable.relaid;rw[a1];exact hl
   rw[c8];refine wc ?_;show wpAny _ _ (if (((u.filterMap (f[·]?)).size != f.size)=true) then _ else _) _ _ _;rw[if_neg (by rw[m6];simp)];refine wg ?_;dsimp only;generalize d2:u.filterMap (f[·]?)=W at*;have a4:W.size=L.length+1:=by rw[m6,O]
   have b4:L3.length=L.length+1:=by rw[<- R.size.2.1,a4]
   refine wpAny_storeSet_of g.get g.data ?_ (by rw[a4];exact fits_of_scanBound (by unfold scanBound;lia));have g3:=z7v g.get g.data W t3;have b9:=b1.trans (uh (T.heap.update a (Obj.putSet f t2)) a (Obj.putSet W t3));have e3:W.toList=L3.map (·.2):=by rw[R.es]
   have c0:f.toList=L2.map (·.2):=by rw[G.es]
   have pm:(L3.map (·.2)).Perm ((I,Value.ref b)::L.map (·.2)):=by
    rw[e3,c0] at b8;exact b8.trans p
   refine wg (fin _ L3 b9 ⟨_,_,_,_,⟨g3,d.ex,rfl,R,?_,?_,m5.trans b0,?_,λr C =>?_⟩,?_⟩ pm)
   .rw[b4,m1];lia
   .rw[m1];lia
   .rw[m4,K];exact d.led
   .obtain⟨U,k',e',l,eh⟩:=a5 _ b9 r.2 (pm.mem_iff.mp (wj.mpr ⟨r,C,rfl⟩));exact⟨U,k',e',l,eh⟩
   .rw[b4,m1];lia
  .have F:t2.tooFull=false:=by simpa using b7
   rw[F];simp only[jL,vi,jh];refine wg (fin _ L2 b1 ⟨_,_,_,_,g,?_⟩ p);unfold SetTable.tooFull at F;rw[a6] at F;rw[X];have:=of_decide_eq_false F;lia
end
inductive Two {α β:Type}(R:α->β->Prop):List α->List β->Prop
 | nil:Two R [] []
 | cons {a b l m}:R a b->Two R l m->Two R (a::l) (b::m)
def Two.imp {e f:Type}{R d:e->f->Prop}(i:∀a b,R a b->d a b){l:List e}{m:List f}(h:Two R l m):Two d l m:=by
 induction h with
 | nil=>exact .nil
 | cons h _ g=>exact .cons (i _ _ h) g
def Two.perm {o q:Type}{R:o->q->Prop}{l l':List o}(p:l.Perm l'):∀{m:List q},Two R l m->∃m',m.Perm m'/\Two R l' m':=by
 induction p with
 | nil=>intro m h;exact⟨m,List.Perm.refl _,h⟩
 | cons x _ t=>
  intro m h
  cases h with
  | cons d e=>
   obtain⟨m',j,a⟩:=t e;exact⟨_::m',j.cons _,.cons d a⟩
 | swap x y l=>
  intro m h
  cases h with
  | cons d e=>
   cases e with
   | cons r s=>exact⟨_,List.Perm.swap _ _ _,.cons r (.cons d s)⟩
 | trans _ _ f g=>
  intro m h;obtain⟨m',j,a⟩:=f h;obtain⟨i,n,b⟩:=g a;exact⟨i,j.trans n,b⟩
def Two.mem_left {e f:Type}{R:e->f->Prop}{l:List e}{m:List f}(h:Two R l m){a:e}(d:a∈l):∃b∈m,R a b:=by
 induction h with
 | nil=>simp at d
 | cons h _ g=>
  rcases wm.mp d with rfl | d
  .simp_all
  simp_all
def Two.mem_right {f e:Type}{R:f->e->Prop}{l:List f}{m:List e}(h:Two R l m){b:e}(d:b∈m):∃a∈l,R a b:=by
 induction h with
 | nil=>simp at d
 | cons h _ g=>
  rcases wm.mp d with rfl | d
  .simp_all
  simp_all
section
variable {prog:Program}{w:World}
def IsK (prog:Program)(w:World)(M:Value->Prop)(h:Heap)(v:Value)(k:List Int):Prop:=M v/\∃b,v = .ref b/\TK prog w h k b
structure SetK (prog:Program)(w:World)(M:Value->Prop)(h:Heap)(a:Addr)(kl:List (List Int)):Prop where
 ex:∃L,zcU prog w h a L/\Two (IsK prog w M h) (L.map (·.2.2)) kl
 nd:kl.Nodup
def SetK.len {M:Value->Prop}{h:Heap}{a:Addr}{b:List (List Int)}(x:SetK prog w M h a b):∃L,zcU prog w h a L/\Two (IsK prog w M h) (L.map (·.2.2)) b/\L.length=b.length:=by
 obtain⟨L,e,d⟩:=x.ex;refine⟨L,e,d,?_⟩;have:∀{l:List _}{m:List _},Two (IsK prog w M h) l m->l.length=m.length:=by
  intro l m t
  induction t with
  | nil=>rfl
  | cons _ _ f=>simp[f]
 have:=this d;simpa using this
def SetK.stay {M:Value->Prop}{h d:Heap}{a:Addr}{kl:List (List Int)}{wr:List Addr}(x:SetK prog w M h a kl)(k:∀b o,b ∉ wr->h.get? b=some o->d.get? b=some o)(l:a ∉ wr)(A:∀b∈wr,∀ks,¬ TK prog w h ks b):SetK prog w M d a kl:=by
 obtain⟨L,⟨o,i,g,t,y,s⟩,j⟩:=x.ex;have f:∀{ks:List Int}{b:Addr},TK _ w h ks b->TK _ w d ks b:=λ{ks b} z=>by
  have p  := λq=>A b q ks z;obtain⟨o,it,n,e,r⟩:=z;exact⟨o,it,n,k _ _ p e,r⟩
 refine⟨⟨L,⟨o,i,g,t,⟨k _ _ l y.get,y.ex,y.data,y.tab,y.room,y.small,y.plain,y.led,λr u =>?_⟩,s⟩,j.imp λa b ⟨m,c,e,z⟩=>⟨m,c,e,f z⟩⟩,x.nd⟩;obtain⟨b,ks,e,z,q⟩:=y.key r u;exact⟨b,ks,e,f z,q⟩
variable {A:Around}{R:Result->Shared->Prop}{I:Addr}{fp wr:List Addr}{G:Array GenState->Array GenState->Prop}{n:Nat}{P:Nat->Value->Prop}{St:Nat->Shared->Prop}
def z8B {M:Value->Prop}(W:WalksS prog w A.in1 I fp wr G n P St)(S:Addr)(Y:S ∉ fp)(hu:A.in1.units<cLine)(ks:Nat->List Int)(hn:n<=2040)(hw:∀i s,St i s->∀b∈wr,∀k,¬ TK prog w s.heap k b)(hM:∀j v,P j v->M v):
  ∀(k i:Nat) (s:Shared) (kl:List (List Int)),n - i=k->i<=n->St i s->(∀j v,P j v->∃b,v = .ref b/\TK prog w s.heap (ks j) b)->
   SetK prog w M s.heap S kl->kl.length<=i->(∀x,x∈kl↔∃j,j<i/\ks j=x)->
   (∀s' d,Moved (S::wr) G s s'->SetK prog w M s'.heap S d->d.length<=n->(∀x,x∈d↔∃j,j<n/\ks j=x)->R (.ok (.ret .none)) s')->
   codeAny (model prog w) A (.builtin "set.update.loop" ⟨[.ref S,.ref I],[]⟩) R s:=by
 have Z:S ∉ wr:=λh=>Y (W.sub _ h);have J:∀b∈wr,b∈S::wr:=λb hb=>wp _ hb;intro k
 induction k with
 | zero=>
  intro i s kl hk hi p hP hS hl hm hR;have a7:i=n:=by lia
  subst a7;refine vX F.entry_set_update_loop ?_;rw[vk jm _];show wpAny _ A.in1 (pyNext (.ref I) >>= _) _ _ s;refine wc (W.done s _ _ p λs' l =>?_);show wpAny _ A.in1 (ret Value.none) _ _ s';exact wg (hR s' kl (l.mono J) (hS.stay l.heap Z (hw _ _ p)) hl hm)
 | succ k ih=>
  intro i s kl hk hi p hP hS hl hm hR;have N:i<n:=by lia
  refine vX F.entry_set_update_loop ?_;rw[vk jm _];show wpAny _ A.in1 (pyNext (.ref I) >>= _) _ _ s;refine wc (W.item i s _ _ N p λv s' U a2 l =>?_);have X:=hS.stay l.heap Z (hw _ _ p);have T:∀j v,P j v->∃b,v = .ref b/\TK prog w s'.heap (ks j) b:=λj u O=>by
   obtain⟨b,e,z⟩:=hP j u O;have hb:b ∉ wr:=λq=>hw _ _ p b q _ z;obtain⟨o,it,m,e',r⟩:=z;exact⟨b,e,o,it,m,l.heap _ _ hb e',r⟩
  obtain⟨b,rfl,a1⟩:=T i v U;show wpAny _ A.in1 (holding [Value.ref b] (setAdd S (.ref b)) >>= _) _ _ s';refine wc (vS ?_);obtain⟨L,hL,h2,b2⟩:=X.len;have E:∀(H:Heap) (K:Nat),s'.toks<=K->Heap.SameBut S s'.heap H->St (i+1) { s' with heap:=H,toks:=K }/\(∀j v,P j v->∃b,v = .ref b/\TK prog w H (ks j) b)/\∀s'',Moved (S::wr) G { s' with heap:=H,toks:=K } s''->Moved (S::wr) G s s'':=λH K C g=>by
   obtain⟨o,es,ep,t,y,_⟩:=hL.ex;refine⟨W.frame _ s' _ _ a2 C λc hc o' e =>?_,λj u O =>?_,λs'' f =>?_⟩
   .rw[g.2 c (λz:c=S=>Y (by rw[<- z];exact hc))];exact e
   .obtain⟨c,e,z⟩:=T j u O;exact⟨c,e,z.stay y.get y.data g⟩
   .refine Moved.trans W.gtrans ((l.mono J).then_heap C λc o' hc e =>?_) f;rw[g.2 c (λz:c=S=>hc (by rw[z];exact ww))];exact e
  refine wpAny_with_toks (wq s'.toks) ?_;refine z4Y hL hu a1 (by lia) ?_ ?_
  .intro a6 K C;obtain⟨g1,g2,g3⟩:=E s'.heap K C (Heap.SameBut.refl _ _);refine wg ⟨v9 jm _,ih (i+1) _ kl (by lia) N g1 g2 X (by lia) (λx =>?_) λs'' d f=>hR s'' d (g3 s'' f)⟩;rw[hm x]
   constructor
   .rintro⟨j,hj,e⟩;exact⟨j,by lia,e⟩
   .rintro⟨j,hj,e⟩
    rcases wN j i with z | z
    .exact⟨j,z,e⟩
    .have:j=i:=by lia
     subst this;obtain⟨r,hr,c,ec,hc⟩:=a6;obtain⟨y,hy,_,c',Q,a5⟩:=h2.mem_left (wj.mpr ⟨r,hr,rfl⟩);rw[ec] at Q
     cases Q
     have:=hc.inj a5;rw[<- e,this];exact(hm y).mp hy
  .intro a0 H K L' g a9 pm C;obtain⟨g1,g2,g3⟩:=E H K C g;obtain⟨o,es,ep,t,y,_⟩:=hL.ex;have t1:Two (IsK prog w M H) (Value.ref b::L.map (·.2.2)) (ks i::kl) :=.cons ⟨hM i _ U,b,rfl,a1.stay y.get y.data g⟩ (h2.imp λa k ⟨m,c,e,z⟩=>⟨m,c,e,z.stay y.get y.data g⟩);have b1:(Value.ref b::L.map (·.2.2)).Perm (L'.map (·.2.2)):=by
    have:=pm.symm.map (·.2);simpa[Function.comp_def] using this
   obtain⟨d,p',t'⟩:=t1.perm b1;have a8:ks i ∉ kl:=λz=>by
    obtain⟨a',a4,_,c,e,z'⟩:=h2.mem_right z;obtain⟨r,hr,rfl⟩:=wj.mp a4;exact a0 ⟨r,hr,c,e,z'⟩
   have b0:d.Nodup:=p'.nodup_iff.mp (vO.mpr ⟨a8,hS.nd⟩);have b3:d.length=kl.length+1:=by rw[<- p'.length_eq];rfl
   refine wg ⟨v9 jm _,ih (i+1) _ d (by lia) N g1 g2 ⟨⟨L',a9,t'⟩,b0⟩ (by lia) (λx =>?_) λs'' a3 f=>hR s'' a3 (g3 s'' f)⟩;rw[<- p'.mem_iff,wm,hm x]
   constructor
   .rintro(e | ⟨j,hj,e⟩)
    .exact⟨i,by lia,e.symm⟩
    .exact⟨j,by lia,e⟩
   .rintro⟨j,hj,e⟩
    rcases wN j i with z | z
    .exact .inr ⟨j,z,e⟩
    .have:j=i:=by lia
     subst this;exact .inl e.symm
end
section
variable {prog:Program}{w:World}{A:Around}{E:WvP}{s:Shared}
def z6E:isSubtype (.type "tuple") (.type "set")=pure false:=by kernel_rfl
def z3Y:isSubtype (.type "tuple") (.type "frozenset")=pure false:=by rfl
abbrev led0 (w:World):Bool := !w.params.followText "set-order"
def z7k (a:Value){Q₁:WvP}
  (h:Q₁ (.ref s.heap.objs.size) { s with heap:=s.heap.push { cls :=.type "set",dict:=none,data :=.set #[] 0 (.fresh 0 0 (led0 w)) } }):
  codeAny (model prog w) A (.call (.builtin "set.__new__") ⟨[.type "set",a],[]⟩) (wants Q₁ E) s:=by
 refine codeAny_of_tree ?_;refine wc (ui (F.newCall_set_1 a) (wg ⟨v9 F.plain_set_new _,vX F.entry_set_new ?_⟩));rw[vk F.plain_set_new _];unfold Builtin.«set.__new__» Builtin.Frozenset.newClass;have b:=sub_set_self;obtain⟨e,g,d,i,f⟩:=s;dsimp only
 wp_walk
 refine jR (wg ?_);dsimp only;simp only[newObj];refine wc (wpAny_alloc (wg ?_));exact wg h
def zaf {M:Value->Prop}{h:Heap}{a:Addr}(e:h.get? a=some { cls :=.type "set",dict:=none,data :=.set #[] 0 (.fresh 0 0 (led0 w)) }):SetK prog w M h a []:=by
 refine⟨⟨[],⟨_, #[],0,_,⟨e,⟨rfl,rfl,rfl⟩,rfl,⟨rfl,rfl,.nil,(λr b=>by simp at b),rfl,⟨3,wq _,rfl⟩,(λr b=>by simp at b)⟩,(by simp_all),(by show 7<=8191;decide),rfl,rfl,(λr b=>by simp at b)⟩,(by show 0*5<7*3;decide)⟩,.nil⟩,.nil⟩
def zkp {h:Heap}{k:List Int}{b:Addr}{tn:String}(x:∃o,h.get? b=some o/\o.cls = .type tn)(i:tn≠"tuple"):¬ TK prog w h k b:=by
 rintro⟨l,_,_,d,a,_⟩;obtain⟨j,g,e⟩:=x;rw[g] at d
 cases d
 rw[e] at a
 injection a with f
 exact i f
def z4W {M:Value->Prop}{l:Addr}{z01:Array Value}{ks:List (List Int)}{Q:WvP}{H io:Obj}(T:s.heap.get? l=some H)(b9:isSubtype H.cls (.type "set")=pure false)(b8:isSubtype H.cls (.type "frozenset")=pure false)(c4:(H.cls == .type "dict")=false)(a6:io.isFreed=false)
  (a7:∀{A':Around}{E':WvP}{s':Shared}{Q':WvP},s'.heap.get? l=some H->Q' (.ref s'.heap.objs.size) { s' with heap:=s'.heap.push io }->wpAny (model prog w) A' (pyIter (.ref l)) Q' E' s')
  (b4:∀{A':Around}(I:Addr),A'.handled=none->l≠I->∃St,Walks prog w A' I [I,l] [I] z01.size (λi v=>z01[i]? = some v) St/\(∀h:Heap,h.get? I=some io->h.get? l=some H->St 0 h)/\∀i h k,St i h->¬ TK prog w h k I)
  (hh:A.handled=none) (hu:A.units+8<cLine) (hi:Two (IsK prog w M s.heap) z01.toList ks) (Y:z01.size<=2040)
  (h:∀(g:Heap) (tk:Nat) (n:List (List Int)),SetK prog w M g s.heap.objs.size n->n.length<=z01.size->(∀x,x∈n↔x∈ks)->
   (∀b o,b<s.heap.objs.size->s.heap.get? b=some o->g.get? b=some o)->Q (.ref s.heap.objs.size) { s with heap:=g,toks:=tk }):
  wpAny (model prog w) A (call (.type "set") [.ref l]) Q E s:=by
 obtain⟨c,tl,b7⟩:=jB.mro;have b2:=jB.made;have c0:=jB.sub;refine wpAny_call (codeAny_of_tree ?_);show wpAny _ _ (callAny (.type "set") _) _ _ _;refine wg ⟨Code.quiet_builtin _ (by decide +kernel),vX F.entry_type_call ?_⟩;rw[Around.under_plain (weight_type_call_type "set" [.ref l] []) rfl];have h1:=jB.notType;have h2:=jB.canCreate;have c2:=F.typeCall_set_1 (.ref l)
 repeat (any_goals (first | assumption | wp_step))
 refine j6 (z7k (.ref l) (E:=E) (Q₁:=λU u=>U = .ref s.heap.objs.size/\u={ s with heap:=s.heap.push { cls :=.type "set",dict:=none,data :=.set #[] 0 (.fresh 0 0 (led0 w)) } }) ⟨rfl,rfl⟩) λr u hr =>?_
 cases r with
 | error e=>exact hr
 | ok fl=>
  cases fl with
  | ret U=>
   obtain⟨rfl,rfl⟩:=hr;generalize N:led0 w=a at*;have hS:(s.heap.push { cls :=.type "set",dict:=none,data :=.set #[] 0 (.fresh 0 0 a) }).get? s.heap.objs.size=some { cls :=.type "set",dict:=none,data :=.set #[] 0 (.fresh 0 0 a) }:=wn _ rfl;have hT:Shared.TypeIs { s with heap:=s.heap.push { cls :=.type "set",dict:=none,data :=.set #[] 0 (.fresh 0 0 a) } } (.ref s.heap.objs.size) "set":=⟨_,hS,rfl⟩
   have c3:=jB.init.lookup;have c1:=jB.init.bind (.ref s.heap.objs.size)
   repeat (any_goals (first | assumption | wp_step))
   refine j6 (codeAny_call_builtin (R:=wants (λr y=>r = .none/\∃g tk n,y={ s with heap:=g,toks:=tk }/\SetK prog w M g s.heap.objs.size n/\n.length<=z01.size/\(∀x,x∈n↔x∈ks)/\
     (∀b o,b<s.heap.objs.size->s.heap.get? b=some o->g.get? b=some o)) E) jB.init.plain F.entry_set_init (check_set_init_1 hT ?_)) λX y d =>?_
   .have q:=wf (show Obj from { cls :=.type "set",dict:=none,data :=.set #[] 0 (.fresh 0 0 a) }) T;unfold Builtin.«set.__init__» noKeywords Builtin.Frozenset.updateFrom;generalize a0:pyIter=PI
    wp_walk
    subst a0;apply a7 (by exact q);refine wc (wpAny_runValue ?_);have L:l<s.heap.objs.size:=wu T;have a5:A.in1.in1.in1.handled=none:=by simp[hh]
    have S:l≠(s.heap.push { cls :=.type "set",dict:=none,data :=.set #[] 0 (.fresh 0 0 a) }).objs.size:=by
     rw[vY];exact wI (v7 L)
    have a1:s.heap.objs.size ∉ [(s.heap.push { cls :=.type "set",dict:=none,data :=.set #[] 0 (.fresh 0 0 a) }).objs.size,l]:=by
     rw[vY];simp only[wm,wo,wz,vK,not_or];exact⟨wI (uG _),jw L⟩
    have p:∀(i:Nat) (v:Value),z01[i]? = some v->M v/\∃b,v = .ref b/\TK prog w s.heap (ks.getD i []) b:=λi v G=>by
     have f:z01.toList[i]? = some v:=by simpa using G
     generalize z01.toList=il at hi f;clear G h
     induction hi generalizing i with
     | nil=>simp at f
     | cons h0 _ ih=>
      cases i with
      | zero=>
       simp at f;subst f;exact h0
      | succ i=>exact ih i (by simpa using f)
    have K:ks.length=z01.size:=by
     have:∀{l:List Value}{m:List (List Int)},Two (IsK prog w M s.heap) l m->l.length=m.length:=by
      intro l m t
      induction t with
      | nil=>rfl
      | cons _ _ ih=>simp[ih]
     have:=this hi;simpa using this.symm
    obtain⟨St,W,st0,hw⟩:=b4 (A':=A.in1.in1.in1) _ a5 S;refine z8B W.toS s.heap.objs.size a1 (by simp;lia) (λi=>ks.getD i []) Y (λi s0 b3 b a2 k => ?hw) (λj v G=>(p j v G).1) (z01.size - 0) 0 _ [] (by lia) (vn _) (st0 _ (wn _ a6) (wf _ q)) (λj v G => ?hP) ?hS0 (vn _) (λx=>by simp) ?hR
    case hw=>
     rw[wo.mp a2];exact hw _ _ _ b3
    case hP=>
     obtain⟨_,b,e,o2,it,m,e2,r⟩:=p j v G;exact⟨b,e,o2,it,m,wf _ (wf _ e2),r⟩
    case hS0=>
     refine zaf (h:=(s.heap.push { cls :=.type "set",dict:=none,data :=.set #[] 0 (.fresh 0 0 a) }).push _) ?_;rw[N];exact wf _ hS
    case hR=>
     intro s' n hm C b1 O;obtain⟨g,g',d',b6,b5⟩:=s';have eg:g'=s.gens:=hm.gens;have ed:d'=s.drawn:=hm.drawn;have eo:b5=s.os:=hm.os;subst eg;subst ed;subst eo;show wpAny _ _ _ _ _ _;refine wg ?_;show wpAny _ _ (ret Value.none) _ _ _;refine wg ⟨rfl,g,b6,n,rfl,C,b1,λx =>?_,λb o Y e =>?_⟩
     .rw[O x]
      constructor
      .rintro⟨j,Z,e⟩;have J:j<ks.length:=by rw[K];exact Z
       rw[<- e];show ks.getD j []∈ks;rw[uq,wt J];exact jp J
      .intro hx;obtain⟨j,Z,e⟩:=wT.mp hx;refine⟨j,by rw[<- K];exact Z,?_⟩;show ks.getD j []=x;rw[uq,wt Z];exact e
     .have a3:b≠s.heap.objs.size:=wI Y;have a4:b≠(s.heap.push { cls :=.type "set",dict:=none,data :=.set #[] 0 (.fresh 0 0 a) }).objs.size:=by
       rw[vY];exact wI (v7 Y)
      exact hm.heap b o (by simp only[wm,wo,wz,vK,not_or];exact⟨a3,a4⟩) (wf _ (wf _ e))
   .cases X with
    | error e=>exact d
    | ok z=>
     cases z with
     | ret r=>
      obtain⟨rfl,g,tk,n,rfl,C,a9,b0,a8⟩:=d
      repeat (any_goals (first | assumption | wp_step))
      exact h _ _ _ C a9 b0 a8
     | _=>exact d.elim
  | _=>exact hr.elim
def z7n {M:Value->Prop}{l:Addr}{z01:Array Value}{ks:List (List Int)}{Q:WvP}
  (u:A.handled=none) (C:A.units+8<cLine) (z:s.heap.IsList l z01) (y:Two (IsK prog w M s.heap) z01.toList ks) (t:z01.size<=2040)
  (h:∀(f:Heap) (tk:Nat) (i:List (List Int)),SetK prog w M f s.heap.objs.size i->i.length<=z01.size->(∀x,x∈i↔x∈ks)->
   (∀b o,b<s.heap.objs.size->s.heap.get? b=some o->f.get? b=some o)->Q (.ref s.heap.objs.size) { s with heap:=f,toks:=tk }):
  wpAny (model prog w) A (call (.type "set") [.ref l]) Q E s:=by
 obtain⟨G,g,a,j,d⟩:=z;exact z4W g (by rw[a];exact F.sub_list_set) (by rw[a];exact F.sub_list_frozenset) (by rw[a];rfl) rfl (λe q=>wpAny_pyIter_list ⟨_,e,a,j,d⟩ q) (λI h n=>⟨_,Walks.list h I l n z01,λ_ p r=>⟨⟨_,p,rfl,rfl⟩,_,r,a,j,d⟩,λ_ _ _ m=>zkp (tn:="list_iterator") ⟨_,m.1.choose_spec.1,m.1.choose_spec.2.1⟩ (by decide)⟩) u C y t h
def z6g {M:Value->Prop}{l:Addr}{z01:Array Value}{ks:List (List Int)}{Q:WvP}
  (u:A.handled=none) (C:A.units+8<cLine) (z:s.heap.IsTuple l z01) (y:Two (IsK prog w M s.heap) z01.toList ks) (t:z01.size<=2040)
  (h:∀(f:Heap) (tk:Nat) (i:List (List Int)),SetK prog w M f s.heap.objs.size i->i.length<=z01.size->(∀x,x∈i↔x∈ks)->
   (∀b o,b<s.heap.objs.size->s.heap.get? b=some o->f.get? b=some o)->Q (.ref s.heap.objs.size) { s with heap:=f,toks:=tk }):
  wpAny (model prog w) A (call (.type "set") [.ref l]) Q E s:=by
 obtain⟨F,g,a,j,d⟩:=z;exact z4W g (by rw[a];exact z6E) (by rw[a];exact z3Y) (by rw[a];rfl) rfl (λe q=>uU ⟨_,e,a,j,d⟩ q) (λI h n=>⟨_,Walks.tuple h I l n z01,λ_ p r=>⟨⟨_,p,rfl,rfl⟩,_,r,a,j,d⟩,λ_ _ _ m=>zkp (tn:="tuple_iterator") ⟨_,m.1.choose_spec.1,m.1.choose_spec.2.1⟩ (by decide)⟩) u C y t h
end
end Tab
namespace Tim
open PySem PyProof.Rows PySem.W
def Rn (rk:Nat->Nat)(p:Array Nat)(i:Nat):Nat:=rk (p[i]?.getD 0)
def Up (rk:Nat->Nat)(p:Array Nat)(j:Nat):Prop:=∀a b,a<=b->b<j->Rn rk p a<=Rn rk p b
def Dn (rk:Nat->Nat)(p:Array Nat)(j:Nat):Prop:=∀a b,a<=b->b<j->Rn rk p b<=Rn rk p a
abbrev Ok (n:Nat)(p:Array Nat):Prop:=p.Perm (List.range n).toArray
section
variable {cmp:Nat->Nat->(Bool->Shared->Prop)->Shared->Prop}{s:Shared}{rk:Nat->Nat}{n:Nat}{p:Array Nat}{α:Type}
def z3l (h:Ok n p):p.size=n:=by rw[h.size_eq];simp
def zjY (a:0<n)(h:Ok n p)(i:Nat):p[i]?.getD 0<n:=by
 rcases wN i _ with z | z
 .rw[ue z];have:=(Array.perm_iff_toList_perm.mp h).mem_iff.mp (Array.getElem_mem_toList z);simpa using this
 simp_all
def As (a:Nat->Nat->(Bool->Shared->Prop)->Shared->Prop)(rk:Nat->Nat)(n:Nat)(s:Shared):Prop:=∀(i j:Nat) (C:Bool->Shared->Prop),i<n->j<n->C (decide (rk i<rk j)) s->a i j C s
def ask_ {k:Bool->KasT α}{Q:α->Shared->Prop}{i j:Nat}(A:As cmp rk n s)(a:0<n)(b:Ok n p)(h:Rn rk p i<Rn rk p j->(k true).kasWp cmp Q s)(d:Rn rk p j<=Rn rk p i->(k false).kasWp cmp Q s):(KasT.ask (p.getD i 0) (p.getD j 0) k).kasWp cmp Q s:=by
 rw[uK,uK];refine A _ _ _ (zjY a b i) (zjY a b j) ?_
 rcases wN _ _ with z | z
 .rw[show decide (rk _<rk _)=true from wE z];exact h z
 .rw[show decide (rk _<rk _)=false from w9 (Nat.not_lt.mpr z)];exact d z
theorem asc_ {Q:Nat->Shared->Prop}(A:As cmp rk n s)(g:0<n)(i:Ok n p):∀(f m:Nat),1<=m->Up rk p m->(∀k,m<=k->k<=m+f->Up rk p k->k=m+f\/Rn rk p k<Rn rk p (k - 1)->Q k s)->(kas_asc p f m).kasWp cmp Q s
 | 0,m,e,d,q=>q m (by lia) (by lia) d (.inl rfl)
 | f+1,m,e,d,q=>by
  refine ask_ A g i (λh =>?_) λh =>?_
  .exact q m (by lia) (by lia) d (.inr h)
  .refine asc_ A g i f (m+1) (by lia) (λa b e j =>?_) λk e j l o=>q k (by lia) (by lia) l (o.imp (by lia) id)
   rcases wN b m with z | z
   .exact d a b e z
   .obtain rfl:b=m:=by lia
    rcases wN a b with w | w
    .exact wM (d a (b - 1) (by lia) (by lia)) h
    grind
def zfa {i j:Nat}(a:j<=p.size)(k:Nat):Rn rk (kas_rev p i j) k=if i<=k/\k<j then Rn rk p (i+j - 1 - k) else Rn rk p k:=by
 unfold Rn kas_rev;rw[getElem?_mirror_all a k]
 split <;> rfl
def z7T (h:Ok n p){i j:Nat}:Ok n (kas_rev p i j):=(mirror_perm _ _ _ _).trans h
def zg8 {i j:Nat}(a:j<=p.size)(b:∀k,i<=k->k<j->Rn rk p k=Rn rk p (j - 1))(k:Nat):Rn rk (kas_rev p i j) k=Rn rk p k:=by
 rw[zfa a]
 grind
def z5U {m:Nat}(d:1<=m)(h:Dn rk p m)(k:Rn rk p m<=Rn rk p (m - 1)):Dn rk p (m+1):=λa b x y=>by
 rcases wN b m with z | z
 .exact h a b x z
 .obtain rfl:b=m:=by lia
  rcases wN a b with w | w
  .exact wM k (h a _ (by lia) (by lia))
  .obtain rfl:a=b:=by lia
   simp_all
theorem zeG {Q:Array Nat × Nat × Nat->Shared->Prop}(A:As cmp rk n s)(C:0<n):∀(f:Nat) (p:Array Nat) (m q:Nat),Ok n p->Dn rk p m->q<m->(∀i,m - (q+1)<=i->i<m->Rn rk p i=Rn rk p (m - 1))->m+f<=n->
  (∀o l t,Ok n o->Dn rk o l->t<l->m<=l->l<=m+f->(∀i,l - (t+1)<=i->i<l->Rn rk o i=Rn rk o (l - 1))->Q (o,l,t) s)->(kas_desc f p m q).kasWp cmp Q s
 | 0,p,m,q,r,u,F,w,I,h=>h p m q r u F (by lia) (by lia) w
 | f+1,p,m,q,r,u,F,w,I,h=>by
  refine ask_ A C r (λG =>?_) λG =>?_
  .rw[if_pos rfl];have eq:=zg8 (rk:=rk) (p:=p) (i:=m - (q+1)) (j:=m) (by rw[z3l r];lia) w
   by_cases E:q > 0
   .rw[if_pos E];refine zeG A C f _ (m+1) 0 (z7T r) (z5U (by lia) (λa b x y=>by rw[eq,eq];exact u a b x y) (by rw[eq,eq];lia)) (by lia) (λi x y=>by rw[show i=m+1 - 1 by lia]) (by lia) λo l t a b c d e g=>h o l t a b c (by lia) (by lia) g
   .rw[if_neg E];exact zeG A C f p (m+1) 0 r (z5U (by lia) u (by lia)) (by lia) (λi x y=>by rw[show i=m+1 - 1 by lia]) (by lia) λo l t a b c d e g=>h o l t a b c (by lia) (by lia) g
  .rw[if_neg (by decide)];refine ask_ A C r (λH =>?_) λH =>?_
   .rw[if_pos rfl];exact h p m q r u F (by lia) (by lia) w
   .rw[if_neg (by decide)];refine zeG A C f p (m+1) (q+1) r (z5U (by lia) u (by lia)) (by lia) (λi x y =>?_) (by lia) λo l t a b c d e g=>h o l t a b c (by lia) (by lia) g
    rcases wN i m with z | z
    .rw[w i (by lia) z,show m+1 - 1=m by lia];lia
    .rw[show i=m+1 - 1 by lia]
def zhW {Q:Nat × Array Nat->Shared->Prop}(A:As cmp rk n s)(o:0<n)(f:Ok n p){m:Nat}(h:1<=m)(l:m<=n)(j:Dn rk p m)(q:∀d g,Ok n g->1<=d->d<=n->Up rk g d->Q (d,g) s):(kas_tail3 m n p).kasWp cmp Q s:=by
 unfold kas_tail3;rw[j2];refine asc_ A o (z7T f) _ _ h (λa b x y =>?_) λk x y u _=>q k _ (z7T f) (by lia) (by lia) u;have e:=zfa (rk:=rk) (i:=0) (by rw[z3l f];exact l);rw[e,e,if_pos (by lia),if_pos (by lia)];exact j _ _ (by lia) (by lia)
def zjH {Q:Nat × Array Nat->Shared->Prop}(A:As cmp rk n s)(j:0<n)(t:Ok n p){m:Nat}(u:m<n)(r:Dn rk p (m+1))(q:∀f h,Ok n h->1<=f->f<=n->Up rk h f->Q (f,h) s):(kas_descPart m n p).kasWp cmp Q s:=by
 unfold kas_descPart;rw[j2];refine zeG A j _ p _ 0 t r (by lia) (λi x y=>by rw[show i=m+1 - 1 by lia]) (by lia) λh f w a b c d e g =>?_;dsimp only;have eq:=zg8 (by rw[z3l a];lia) g
 split
 .exact zhW A j (z7T a) (by lia) (by lia) (λx y l o=>by rw[eq,eq];exact b x y l o) q
 .exact zhW A j a (by lia) (by lia) b q
def zkX {Q:Nat × Array Nat->Shared->Prop}(A:As cmp rk n s)(o:0<n)(d:Ok n p)(q:∀r t,Ok n t->1<=r->r<=n->Up rk t r->Q (r,t) s):(kas_count n p).kasWp cmp Q s:=by
 unfold kas_count;rw[j2];refine asc_ A o d _ 1 (wq 1) (λa b x y=>by rw[show a=b by lia];exact wq _) λm l w f u =>?_
 by_cases e:m=n
 .rw[if_pos (by simpa using e)];exact q m p d l (by lia) f
 rw[if_neg (by simpa using e)];have lt:=u.resolve_left (by lia)
 by_cases g:m > 1
 .rw[if_pos g];refine ask_ A o d (λh =>?_) λh =>?_
  .rw[if_pos rfl];exact q m p d l (by lia) f
  .rw[if_neg (by decide)];have eq:=zg8 (rk:=rk) (p:=p) (i:=0) (j:=m) (by rw[z3l d];lia) λk _ y=>Nat.le_antisymm (f k (m - 1) (by lia) (by lia)) (wM h (f 0 k (by lia) y));refine zjH A o (z7T d) (by lia) (z5U l (λa b x y =>?_) ?_) q
   .rw[eq,eq];exact wM (f b (m - 1) (by lia) (by lia)) (wM h (f 0 a (by lia) (by lia)))
   .rw[eq,eq];lia
 .rw[if_neg g];refine zjH A o d (by lia) (z5U l (λa b x y=>by rw[show a=b by lia];exact wq _) (by lia)) q
theorem zbw {Q:Nat->Shared->Prop}(A:As cmp rk n s)(e:0<n)(j:Ok n p){k:Nat}(q:∀l,l<=k->(∀i,i<l->Rn rk p i<=Rn rk p k)->(∀i,l<=i->i<k->Rn rk p k<=Rn rk p i)->Q l s):∀(f l r:Nat),r - l<=f->l<=r->r<=k->Up rk p k->(∀i,i<l->Rn rk p i<=Rn rk p k)->(∀i,r<=i->i<k->Rn rk p k<=Rn rk p i)->(kas_place p k f l r).kasWp cmp Q s
 | 0,l,r,o,t,m,a,b,d=>q l (by lia) b λi x y=>d i (by lia) y
 | f+1,l,r,o,t,m,a,b,d=>by
  unfold kas_place
  by_cases g:l>=r
  .rw[if_pos g];exact q l (by lia) b λi x y=>d i (by lia) y
  .rw[if_neg g];refine ask_ A e j (λh =>?_) λh =>?_
   .rw[if_pos rfl];exact zbw A e j q f l _ (by lia) (by lia) (by lia) a b λi x y=>wM (jc h) (a _ i (by lia) y)
   .exact zbw A e j q f _ r (by lia) (by lia) m a (λi x=>wM (a i _ (by lia) (by lia)) h) d
theorem bin_ {Q:Array Nat->Shared->Prop}(A:As cmp rk n s)(r:0<n)(q:∀p,Ok n p->Up rk p n->Q p s):∀(f:Nat) (p:Array Nat) (k:Nat),Ok n p->Up rk p k->k+f=n->(kas_bin f p k).kasWp cmp Q s
 | 0,p,k,g,d,e=>q p g (by rw[<- e];exact d)
 | f+1,p,k,g,d,e=>by
  unfold kas_bin;rw[j2];refine zbw A r g (λl C t u =>?_) k 0 k (by lia) (by lia) (wq _) d (λi x=>by lia) λi x y=>by lia
  refine bin_ A r q f _ (k+1) ((bubble_perm _ _ _).trans g) (λa b x y =>?_) (by lia);have j:=λi=>getElem?_bubble (xs:=p) (src:=k) (by rw[z3l g];lia) (k - l) (by lia) i;rw[show k - (k - l)=l by lia] at j;have o:∀i,i<l->Rn rk (bubble p k (k - l)) i=Rn rk p i:=λi z=>by unfold Rn;rw[j,if_neg (by lia),if_neg (by lia)]
  have m:Rn rk (bubble p k (k - l)) l=Rn rk p k:=by unfold Rn;rw[j,if_pos rfl]
  have h:∀i,l<i->i<=k->Rn rk (bubble p k (k - l)) i=Rn rk p (i - 1):=λi z w=>by unfold Rn;rw[j,if_neg (by lia),if_pos (by lia)]
  rcases ux a l with z | rfl | z
  .rw[o a z]
   rcases ux b l with w | rfl | w
   .rw[o b w];exact d a b x (by lia)
   .rw[m];exact t a z
   .rw[h b w (by lia)];exact d _ _ (by lia) (by lia)
  .rw[m]
   rcases wN a b with w | w
   .rw[h b w (by lia)];exact u _ (by lia) (by lia)
   .rw[show b=a by lia,m];exact wq _
  .rw[h a z (by lia),h b (by lia) (by lia)];exact d _ _ (by lia) (by lia)
def zli {Q:Array Nat->Shared->Prop}(A:As cmp rk n s)(a:0<n)(q:∀p,Ok n p->Up rk p n->Q p s):(kas_sort n).kasWp cmp Q s:=by
 unfold kas_sort;rw[j2];refine zkX A a (Array.Perm.refl _) λm p b e f d =>?_;dsimp only
 split
 .exact bin_ A a q _ p _ b (by simp_all) (by lia)
 .obtain rfl:m=n:=by lia
  exact q p b d
end
open HT
theorem z5F:∀k:List Int,z0x k k=false
 | []=>rfl
 | x::a=>by rw[z0P,if_pos rfl];exact z5F a
theorem z9K:∀{a b c:List Int},z0x a b=true->z0x b c=true->z0x a c=true
 | [],[],_,h,_=>by cases h
 | [],_::_,[],_,k=>by cases k
 | [],_::_,_::_,_,_=>rfl
 | _::_,[],_,h,_=>by cases h
 | _::_,_::_,[],_,k=>by cases k
 | x::f,y::g,z::i,h,k=>by
  rw[z0P] at h k ⊢
  by_cases e:x=y
  .subst e
   by_cases d:x=z
   .subst d;rw[if_pos rfl] at h k ⊢;exact z9K h k
   .rw[if_neg d] at k ⊢;exact k
  grind
theorem z94:∀(a b:List Int),z0x a b=false->z0x b a=false->a=b
 | [],[],_,_=>rfl
 | [],_::_,h,_=>by cases h
 | _::_,[],_,k=>by cases k
 | x::d,y::f,h,k=>by
  rw[z0P] at h k
  by_cases e:x=y
  .subst e;rw[if_pos rfl] at h k;rw[z94 d f h k]
  grind
def rkL (l:List (List Int))(k:List Int):Nat:=l.countP λq=>z0x q k
def z8i {d:Type}{p q:d->Bool}{l:List d}(h:∀x,p x=true->q x=true){a:d}(b:a∈l)(f:p a=false)(g:q a=true):l.countP p<l.countP q:=by
 induction l with
 | nil=>cases b
 | cons y l j=>
  rw[List.countP_cons,List.countP_cons];have e:l.countP p<=l.countP q:=List.countP_mono_left λx _ i=>h x i
  rcases wm.mp b with rfl | b
  .rw[f,g];simp;omega
  .have:=j b
   by_cases py:p y=true
   .simp_all
   .rw[if_neg py];split <;> omega
def z9v {l:List (List Int)}{a b:List Int}(g:a∈l)(h:b∈l):z0x a b=decide (rkL l a<rkL l b):=by
 cases q:z0x a b with
 | true=>
  symm
  apply wE;exact z8i (λx e=>z9K e q) g (z5F a) q
 | false=>
  symm
  apply w9;intro d
  cases f:z0x b a with
  | true=>
   have:=z8i (p:=λx=>z0x x b) (λx e=>z9K e f) h (z5F b) f;unfold rkL at d;omega
  | false=>
   rw[z94 a b q f] at d;omega
section
variable {prog:Program}{w:World}{A:Around}{E:WvP}{s:Shared}
theorem z5I {b fin:Bool}{Q:Bool->Shared->Prop}:∀{vs ws:List Value}{ns d:List Int}(i:Nat),IntsAre vs ns->IntsAre ws d->fin=decide (ns.length<d.length)->Q (z0x ns d) s->KatLex prog w A b fin Q (vs.zip ws) i s
 | _,_,_,_,i,.nil,.nil,a,h=>by
  refine kat_nil ?_;rw[a];exact h
 | _,_,_,_,i,.nil,.cons m u r,a,h=>by
  refine kat_nil ?_;rw[a];rw[show decide (([]:List Int).length<(m::_).length)=true by simp];exact h
 | _,_,_,_,i,.cons n t r,.nil,a,h=>by
  refine kat_nil ?_;rw[a];rw[show decide ((n::_).length<([]:List Int).length)=false by simp];exact h
 | _,_,_,_,i,.cons n t r,.cons m u r2,a,h=>by
  refine kat_cons (wpAny_eqBool_int ?_);rw[z0P] at h
  by_cases e:n=m
  .subst e;rw[if_pos rfl] at h;rw[show (n == n)=true by simp];exact kat_yes (z5I (i+1) r r2 (by rw[a];simp) h)
  .rw[if_neg e] at h;rw[show (n == m)=false by simpa using e];refine kat_no ?_
   cases f:(b && i == 0) with
   | true=>exact oneLt_int h
   | false=>exact kat_one _ _ (lt_int h)
def TI (h:Heap)(v:Value)(k:List Int):Prop:=∃a o z01 n,v = .ref a/\h.get? a=some o/\o.cls = .type "tuple"/\o.data = .seq z01 n/\IntsAre z01.toList k
def TI.keep {h d:Heap}{v:Value}{k:List Int}(x:TI h v k)(g:∀b o,h.get? b=some o->o.cls = .type "tuple"->d.get? b=some o):TI d v k:=by
 obtain⟨a,o,z01,n,e,i,f,j,l⟩:=x;exact⟨a,o,z01,n,e,g _ _ i f,f,j,l⟩
def AsV (prog:Program)(w:World)(A:Around)(s:Shared)(κ:SortKind)(vs:List Value)(rk:Value->Nat):Prop:=∀x∈vs,∀y∈vs,∀(Q:Bool->Shared->Prop) (E:WvP),Q (decide (rk x<rk y)) s->wpAny (model prog w) A (keyLt' κ x y) Q E s
def zeS {vs:List Value}{key:Value->List Int}(a:∀v∈vs,TI s.heap v (key v))(b:Bool):AsV prog w A s (tuples' b) vs (λv=>rkL (vs.map key) (key v)):=by
 intro x f y g Q E h;rw[<- z9v (wj.mpr ⟨_,f,rfl⟩) (wj.mpr ⟨_,g,rfl⟩)] at h;obtain⟨p,G,u,C,l,n,r,i,d⟩:=a _ f;obtain⟨q,H,z,F,m,o,t,j,e⟩:=a _ g;rw[l,m];exact kat_lt n i o j (z5I 0 d e (by rw[<- IntsAre.length d, <- IntsAre.length e,ug,ug]) h)
theorem z5J {h:Heap}{key:Value->List Int}:∀{vs:List Value},(∀v∈vs,TI h v (key v)/\key v≠[])->∃fs:List Value,KatTups h vs fs/\fs.length=vs.length/\∀f∈fs,∃n t,f = .int n t
 | [],_=>⟨[],.nil,rfl,λ_ h=>by cases h⟩
 | v::vs,i=>by
  obtain⟨fs,u,w,y⟩:=z5J (λv s=>i v (wp _ s));obtain⟨⟨a,o,z01,n,e,j,l,m,b⟩,g⟩:=i v (ww ..);subst e;obtain⟨x,xs,ex⟩:∃x xs,key (.ref a)=x::xs:=by
   cases q:key _ with
   | nil=>exact(g q).elim
   | cons x xs=>exact⟨x,xs,rfl⟩
  rw[ex] at b;generalize p:z01.toList=z at b
  cases b with
  | cons _ t r=>
   refine⟨.int x t::fs,.cons j l m ?_ u,by simp[w],λf d =>?_⟩
   .rw[<- uk,p];rfl
   .rcases wm.mp d with rfl | d
    .exact⟨_,_,rfl⟩
    .exact y f d
def zeo {vs:List Value}{key:Value->List Int}{Q:SortKind->Shared->Prop}(a:∀v∈vs,TI s.heap v (key v)/\key v≠[])(b:0<vs.length)(h:Q (tuples' true) s):wpAny (model prog w) A (keyKind' vs.toArray) Q E s:=by
 obtain⟨fs,e,g,f⟩:=z5J a;refine kat_kind (T :=.type "int") e (by omega) (λv d =>?_) rfl h;obtain⟨n,t,rfl⟩:=f v d;exact Looks.now
def zdO {a:Type}{R:a->a->Prop}{l:List a}(h:l.length<2):l.Pairwise R:=by
 match l,h with
 | [],_=>simp_all
 | [x],_=>exact List.pairwise_singleton _ _
def z53 (prog:Program)(w:World)(h:Heap)(vs:List Value)(rk:Value->Nat):Prop:=∀(A:Around) (s:Shared),(∀b o,h.get? b=some o->o.cls = .type "tuple"->s.heap.get? b=some o)->
 ∃a,AsV prog w A s a vs rk/\(1<vs.length->∀(Q:SortKind->Shared->Prop) (E:WvP),Q a s->wpAny (model prog w) A (keyKind' vs.toArray) Q E s)
def z53.keep {h a:Heap}{vs:List Value}{rk:Value->Nat}(x:z53 prog w h vs rk)(k:∀b o,h.get? b=some o->a.get? b=some o):z53 prog w a vs rk:=λA s d=>x A s λb o e c=>d b o (k b o e) c
def z53.tups {h:Heap}{vs:List Value}{key:Value->List Int}(b:∀v∈vs,TI h v (key v)/\key v≠[]):z53 prog w h vs (λv=>rkL (vs.map key) (key v)):=λA s k=>
 ⟨_,zeS (λv a=>(b v a).1.keep k) _,λd Q E q=>zeo (λv a=>⟨(b v a).1.keep k,(b v a).2⟩) (by omega) q⟩
def z80 {a:Addr}{vs:List Value}{rk:Value->Nat}{n:Nat}{P:PySem.Fin->Shared->Prop}(z:s.heap.get? a=some (seqObj "list" vs.toArray n))(hz:vs.length<=sizeLine)(M:vs.length<64)
  (Y:z53 prog w s.heap vs rk)
  (h:∀l:List Value,l.Perm vs->l.Pairwise (λx y=>rk x<=rk y)->P (.done (.ret .none)) { s with heap:=sortedHeap s.heap a vs l.toArray }):
  wpAny (model prog w) A (Builtin.«list.sort» ⟨[.ref a],[]⟩) P E s:=by
 rw[list_sort_plain];have g:a<s.heap.objs.size:=wu z;refine wc (listItems_at z rfl ?_);refine wc (listUpdate_at z rfl ?_ (by rw[vd];omega) (vn _));obtain⟨L,F⟩:∃L,(s.heap.update a (Obj.mapSeq λ_ => #[])).get? a=some (seqObj "list" #[] L):=⟨_,get?_update_seq z (λ_ => #[])⟩
 refine wc (seqEpoch_at F rfl ?_);refine wc (wpAny_newTuple ?_ (by show vs.length<=_;omega));refine wc (wpAny_newList ?_ (vn _));refine vS ?_;have d:(((s.heap.update a (Obj.mapSeq λ_ => #[])).push (seqObj "tuple" vs.toArray 0)).push (seqObj "list" #[] 0)).get? a=some (seqObj "list" #[] L):=by
  rw[jI _ _ _ (by rw[size_push',Heap.size_update];exact wI (v7 g)),jI _ _ _ (by rw[Heap.size_update];exact wI g)];exact F
 have keep:∀b o,s.heap.get? b=some o->o.cls = .type "tuple"->(((s.heap.update a (Obj.mapSeq λ_ => #[])).push (seqObj "tuple" vs.toArray 0)).push (seqObj "list" #[] 0)).get? b=some o:=λb o J X=>by
  have t:b<s.heap.objs.size:=wu J;have O:b≠a:=by
   rintro rfl;rw[z] at J
   cases J
   exact absurd (show Value.type "list"=Value.type "tuple" from X) (by decide)
  rw[jI _ _ _ (by rw[size_push',Heap.size_update];exact wI (v7 t)),jI _ _ _ (by rw[Heap.size_update];exact wI t),Heap.get?_update_ne _ _ _ _ O];exact J
 show wpAny (model prog w) A _ P E { s with heap:=((s.heap.update a (Obj.mapSeq λ_ => #[])).push (seqObj "tuple" vs.toArray 0)).push (seqObj "list" #[] 0) };dsimp only;have R:vs.toArray.size=vs.length:=by simp
 by_cases m:vs.toArray.size<2
 .rw[if_pos m,if_pos m];refine wc (wg ?_);rw[StateT.run_pure];refine wc (wg ?_);dsimp only;refine wc (seqEpoch_at d rfl ?_);have U:(arrOf (SortSt.mk' general' (vs.toArray.zip vs.toArray) #[] 7 none)).map (·.2)=vs.toArray:=by
   show (vs.toArray.zip vs.toArray).map (·.2)=_;apply Array.toList_inj.mp;simpa using List.map_snd_zip (l₁:=vs) (l₂:=vs) (wq _)
  rw[U];refine wc (listUpdate_at d rfl ?_ (vn _) (Nat.le_succ_of_le (by rw[R];exact hz)));simp only[bne_self_eq_false,vi,jh];exact wg (h vs (List.Perm.refl _) (zdO (by omega)))
 .rw[if_neg m,if_neg m];obtain⟨κ,Z,kk⟩:=Y A { s with heap:=((s.heap.update a (Obj.mapSeq λ_ => #[])).push (seqObj "tuple" vs.toArray 0)).push (seqObj "list" #[] 0) } keep;refine wc (kk (by omega) _ _ ?_);have H:∀i,i<vs.length->vs.getD i Value.none∈vs:=λi r=>by rw[uq,wt r];exact jp r
  refine wc (vJ (kat_run (ks:=vs) (vs:=vs) (κ:=κ) (Q:=λf I=>I=_/\∃p,Ok vs.length p/\Up (λi=>rk (vs.getD i Value.none)) p vs.length/\arrOf f=p.map (kas_item (vs.toArray.zip vs.toArray))/\failedOf f=none) (G:=λp I=>I=_/\Ok vs.length p/\Up (λi=>rk (vs.getD i Value.none)) p vs.length) rfl (by omega) M (λp f I _ g K ⟨e,o,u⟩=>⟨e,p,o,u,g,K⟩) (zli (rk:=λi=>rk (vs.getD i Value.none)) (λi j C r T q=>Z _ (H i r) _ (H j T) C _ q) (by omega) λp o u=>⟨rfl,o,u⟩)) ?_ λ_ _ e=>e);rintro⟨⟨⟩,f⟩ I ⟨rfl,p,o,u,g,K⟩;dsimp only at g K ⊢;have W:=kat_snds (ks:=vs) (vs:=vs) rfl g;refine wc (seqEpoch_at d rfl ?_);rw[W];have S:p.toList.length=vs.length:=by rw[ug,z3l o]
  refine wc (listUpdate_at d rfl ?_ (vn _) (Nat.le_succ_of_le (by rw[vd,we,S];exact hz)));rw[K];simp only[bne_self_eq_false,vi,jh];refine wg (h _ ?_ ?_)
  .have:=(Array.perm_iff_toList_perm.mp o).map λi=>vs.getD i Value.none;refine this.trans ?_;rw[show (List.range vs.length).toArray.toList.map (λi=>vs.getD i Value.none)=vs from List.ext_getElem (by simp) λi h1 m=>by simp[m]]
  .rw[wS,vI];intro i j r T N;have:=u i j (jc N) (by omega);unfold Rn at this;rw[ue (by rw[z3l o];omega),ue (by rw[z3l o];omega)] at this;simpa using this
def zla (prog:Program)(w:World)(rk:Value->Nat)(Q:WvP)(vs:List Value)(d:Shared):Prop:=
 vs.length<64/\z53 prog w d.heap vs rk/\∀a:List Value,a.Perm vs->a.Pairwise (λx y=>rk x<=rk y)->
  ∀f,(∀b o,d.heap.get? b=some o->f.get? b=some o)->(∃e,f.get? d.heap.objs.size=some (seqObj "list" a.toArray e))->Q (.ref d.heap.objs.size) { d with heap:=f }
def z5s {v:Value}{Q:WvP}(i:∀E',wpAny (model prog w) A.in1 (collect v) (λvs a=>∃rk,zla prog w rk Q vs a) E' s):wpAny (model prog w) A (call (.builtin "sorted") [v]) Q E s:=by
 refine Calls.call_function_entry kind_sorted plain_sorted entry_sorted (args_sorted1 _) ?_;unfold Builtin.«sorted»;refine wc (m:=checkCount "sorted" 1 1 _) (wg ?_);refine wc (vJ (i _) (λvs a q =>?_) λ_ _ e=>e);obtain⟨rk,f,p,h⟩:=q;have n:vs.length<=sizeLine:=wM (jc f) (by decide);refine wc (wpAny_newList ?_ n);have d:(a.heap.push (seqObj "list" vs.toArray 0)).get? a.heap.objs.size=some (seqObj "list" vs.toArray 0):=wn _ rfl;have keep:∀b o,a.heap.get? b=some o->(a.heap.push (seqObj "list" vs.toArray 0)).get? b=some o:=λb o q=>wf _ q;show wpAny _ _ _ _ _ { a with heap:=a.heap.push (seqObj "list" vs.toArray 0) };refine wc (vS (vA slot_list_sort ⟨_,d,rfl⟩ entry_list_sort (z80 d n f (p.keep keep) λl r t=>⟨_,rfl,?_⟩) (args_list_sort _)));refine wg ⟨_,rfl,h l r t _ (λb o g =>?_) ?_⟩
 .have j:b<a.heap.objs.size:=wu g;rw[sortedHeap_old (wI j) (by rw[size_push'];exact v7 j)];exact keep b o g
 .exact sortedHeap_at d
def zl9 (key:Value->List Int)(Q:WvP)(vs:List Value)(d:Shared):Prop:=
 vs.length<64/\(∀x∈vs,TI d.heap x (key x)/\key x≠[])/\∀a:List Value,a.Perm vs->a.Pairwise (λx y=>z0x (key y) (key x)=false)->
  ∀f,(∀b o,d.heap.get? b=some o->f.get? b=some o)->(∃e,f.get? d.heap.objs.size=some (seqObj "list" a.toArray e))->Q (.ref d.heap.objs.size) { d with heap:=f }
def z8G {v:Value}{key:Value->List Int}{Q:WvP}(a:∀E',wpAny (model prog w) A.in1 (collect v) (zl9 key Q) E' s):wpAny (model prog w) A (call (.builtin "sorted") [v]) Q E s:=
 z5s λE'=>vJ (a E') (λvs n ⟨l,f,h⟩=>⟨_,l,z53.tups f,λd b m=>h d b (m.imp_of_mem λ{x y} g j i=>by
  rw[z9v (wj.mpr ⟨_,b.mem_iff.mp j,rfl⟩) (wj.mpr ⟨_,b.mem_iff.mp g,rfl⟩)]
  simp_all)⟩) λ_ _ e=>e
end
end Tim
namespace Tab
open PySem PySem.SetTable PyProof.Rows
def z6f:entryFor table "set.__iter__"=some Builtin.«frozenset.__iter__»:=
 entryFor_alias (id':="frozenset.__iter__") (by kernel_rfl) rfl (by decide +kernel) (by kernel_rfl)
def z1v:Slot "set_iterator" "__next__" "set_iterator.__next__":=
 .of (owner:="set_iterator") (n:="__next__") (by rfl) (by decide +kernel) (by decide +kernel) (by decide +kernel)
  (by first | exact .inl (by decide +kernel) | grind) (by rfl)
def z4S:Slot "set_iterator" "__iter__" "set_iterator.__iter__":=
 .of (owner:="set_iterator") (n:="__iter__") (by rfl) (by decide +kernel) (by decide +kernel) (by decide +kernel)
  (by first | exact .inl (by decide +kernel) | rfl) (by kernel_rfl)
def z4u:entryFor table "set_iterator.__next__"=some Builtin.«set_iterator.__next__»:=entryFor_of_fast (by kernel_rfl)
def z4X (a:Value):argsOk "set_iterator.__next__" ⟨[a],[]⟩:=by rfl
section
variable {prog:Program}{w:World}{A:Around}{E:WvP}{s:Shared}
def z2k (h:Heap)(it S:Addr)(a i n ep:Nat):Prop:=∃o,h.get? it=some o/\o.cls = .type "set_iterator"/\o.data = .fields #[.int a 0,.int i 0,.ref S,.int n 0,.int ep 0]
def z2k.typeIs {it S:Addr}{a i n ep:Nat}(x:z2k s.heap it S a i n ep):s.TypeIs (.ref it) "set_iterator":=let ⟨o,d,b,_⟩:=x;⟨o,d,b⟩
def z4Z {S:Addr}{o:Obj}{es:Array (Int × Value)}{ep:Nat}{t:SetTable}{Q:WvP}(b:s.heap.get? S=some o)(g:o.cls = .type "set")(d:o.data = .set es ep t)(e:t.fits es.size=true)(i:t.plain=true)
  (h:Q (.ref s.heap.objs.size) { s with heap:=s.heap.push { cls :=.type "set_iterator",data :=.fields #[.int 0 0,.int 0 0,.ref S,.int es.size 0,.int ep 0] } }):wpAny (model prog w) A (pyIter (.ref S)) Q E s:=by
 have f:s.TypeIs (.ref S) _:=⟨o,b,g⟩
 refine wpAny_pyIter_slot f F.slot_set_iter (vA F.slot_set_iter f z6f ?_ (F.args_set_iter_1 _));show wpAny _ _ (Builtin.Frozenset.sizeOf S >>= _) _ _ s;refine wc (wc (wc (vQ b d e (wg (wg ?_)))));refine wc (wc (vQ b d e ?_));show wpAny _ _ (setsByText >>= λa=>pure (!a && (!t.plain && decide _))) _ _ s;refine wc (wc (jR (wg (wg ?_))));rw[i];simp only[Bool.not_true,Bool.false_and,jL,vi,jh];refine wc (wg (wc (wc (vQ b d e (wg ?_)))));exact wc (wP (wg ⟨_,rfl,"set_iterator",_,⟨_,wn _ rfl,rfl⟩,z1v.lookup,h⟩))
def nxt (w:World)(S:Addr)(es:Array (Int × Value))(ep:Nat)(t:SetTable)(a i:Nat):Option (Value × Nat):=
 if w.params.followText "set-order"=true then ((pickOrder (w.params.setOrder S ep) es)[i]?).map λe=>(e.2,a) else
  match es[below t.place a]?, t.place[below t.place a]? with
  | some (_,x),some j=>some (x,j+1)
  | _,_=>none
def z45 {S:Addr}{o:Obj}{es:Array (Int × Value)}{ep:Nat}{t:SetTable}{a i:Nat}{Q:Option (Value × Nat)->Shared->Prop}(g:s.heap.get? S=some o)(e:o.data = .set es ep t)(f:t.fits es.size=true)(l:t.plain=true)(j:t.led = !w.params.followText "set-order")
  (h:Q (nxt w S es ep t a i) s):wpAny (model prog w) A (setNext S a i ep) Q E s:=by
 unfold setNext;refine wc (vQ g e f ?_);show wpAny _ _ (setsByText >>= _) _ _ s;unfold setsByText;refine wc (wc (jR (wg ?_)));unfold nxt at h
 by_cases c:w.params.followText "set-order"=true
 .have d:(model prog w).w.params.followText "set-order"=true:=c;rw[if_pos c] at h;rw[if_pos d];rw[if_neg (by simp)];unfold setWalk;refine wc (wc (vQ g e f ?_));show wpAny _ _ (setsByText >>= _) _ _ s;unfold setsByText;refine wc (wc (jR (wg ?_)));rw[if_pos d];exact wc (jR (wg (wg h)))
 .have d:¬ (model prog w).w.params.followText "set-order"=true:=c;rw[if_neg c] at h;rw[if_neg d];have b:t.led=true:=by rw[j];simpa using c
  show wpAny _ _ (if (!t.plain && decide (es.size > 1))=true then _ else _) _ _ s;rw[l,if_neg (by simp)];show wpAny _ _ ((if (!t.led && !es.isEmpty)=true then unsupported "set:maker-not-led" else pure PUnit.unit) >>= _) _ _ s;rw[b,if_neg (by simp)];exact wc (wg (wg h))
def z39 {it S:Addr}{o:Obj}{es:Array (Int × Value)}{ep:Nat}{t:SetTable}{d i a:Nat}{x:Value}{Q:Option Value->Shared->Prop}(e:z2k s.heap it S d i es.size ep)
  (n:s.heap.get? S=some o) (l:o.data = .set es ep t) (m:t.fits es.size=true) (r:t.plain=true) (q:t.led = !w.params.followText "set-order") (u:nxt w S es ep t d i=some (x,a))
  (p:∀g,z2k g it S a (i+1) es.size ep->Heap.SameBut it s.heap g->Q (some x) { s with heap:=g }):wpAny (model prog w) A (pyNext (.ref it)) Q E s:=by
 obtain⟨y,f,h,b⟩:=id e;unfold pyNext;refine wc (jn (vm e.typeIs z1v
  (vA z1v e.typeIs z4u ?_ (z4X _))))
 show wpAny _ _ (fieldsOf (.ref it) >>= _) _ _ s;refine wc (wpAny_fieldsOf f b ?_);unfold setEntries;refine wc (wc (vQ n l m (wg ?_)));rw[if_neg (by simp)];simp only[Int.toNat_natCast];refine wc (z45 n l m r q ?_);rw[u];dsimp only;refine wc (u3 f b (by simp) ?_);have j:=wW (Obj.mapFields (·.setIfInBounds 0 (rawInt (a:Int)))) f (uW (vF b _));refine wc (u3 j (vF b _) (by simp) ?_);refine wg ⟨x,rfl,wg (p _ ?_ ((uh ..).trans (uh ..)))⟩;refine⟨_,wW _ j (uW (vF (vF b _) _)),((Obj.cls_mapFields ..).trans (Obj.cls_mapFields ..)).trans h,?_⟩;rw[vF (vF b _)];simp[rawInt]
def z3Q {it S:Addr}{o:Obj}{es:Array (Int × Value)}{ep:Nat}{t:SetTable}{d i:Nat}{Q:Option Value->Shared->Prop}(n:A.handled=none)(e:z2k s.heap it S d i es.size ep)
  (p:s.heap.get? S=some o) (j:o.data = .set es ep t) (l:t.fits es.size=true) (x:t.plain=true) (u:t.led = !w.params.followText "set-order") (y:nxt w S es ep t d i=none)
  (q:∀h,Heap.ExtBut it s.heap h->Q none { s with heap:=h }):wpAny (model prog w) A (pyNext (.ref it)) Q E s:=by
 obtain⟨z,g,r,f⟩:=id e;unfold pyNext;refine wc (jn (vm (name:=Str.ofString "__next__") e.typeIs z1v
  (vA z1v e.typeIs z4u ?_ (z4X _))))
 show wpAny _ _ (fieldsOf (.ref it) >>= _) _ _ s;refine wc (wpAny_fieldsOf g f ?_);show wpAny _ _ (setEntries S >>= _) _ _ s;unfold setEntries;refine wc (wc (vQ p j l (wg ?_)));rw[if_neg (by simp)];show wpAny _ _ (setNext S (d:Int).toNat (i:Int).toNat (ep:Int).toNat >>= _) _ _ s;simp only[Int.toNat_natCast];refine wc (z45 p j l x u ?_);rw[y];dsimp only;refine wc (u3 g f (by simp) ?_);show wpAny _ _ (newExc (.type "StopIteration") [] >>= _) _ _ _;refine wc ?_;simp only[newExc,newTuple];refine wc (wP ?_ (by size_fits));refine wc (m:=firstArgMember _ _) (ui (a:=Value.none) (by first | rfl | (simp only[firstArgMember];rfl)) ?_);refine wP ?_ (by size_fits);simp only[raiseNew];refine wc (wpAny_handled ?_)
 first | rw[show A.in1.handled=none from n] | rw[n]
 refine wc (wg (wpAny_throw ?_));refine wc (uR (T:="StopIteration") (b:=true) ⟨_,wn _ rfl,rfl⟩ isSubtype_stop ?_);exact wg (q _ (((uh ..).extBut.push _).push _))
end
theorem z7N {d:Type}(next:Nat->Nat):∀(n k:Nat) (left:List d) (a:Array d),left.length=n->(pickOrder.go next n k left a).toList.Perm (a.toList++left)
 | 0,k,left,a,h=>by
  rw[List.eq_nil_of_length_eq_zero h,vV]
  rfl
 | n+1,k,left,a,h=>by
  have b:next k % left.length<left.length:=jq _ (by lia);rw[pickOrder.go,wt b];refine(z7N _ n _ _ _ (by rw[List.length_eraseIdx_of_lt b];lia)).trans ?_;rw[Array.toList_push,vz];refine jC _ ?_;show (left[next k % left.length]::left.eraseIdx _).Perm _;rw[List.eraseIdx_eq_take_drop_succ];refine(jQ.symm).trans ?_;rw[<- uZ b,uV]
def z62 {a:Type}(next:Nat->Nat)(xs:Array a):(pickOrder next xs).toList.Perm xs.toList:=by
 have:=z7N next xs.size 0 xs.toList #[] (by simp);simpa[pickOrder] using this
def ordE (w:World)(S:Addr)(es:Array (Int × Value))(ep:Nat):Array (Int × Value):=if w.params.followText "set-order"=true then pickOrder (w.params.setOrder S ep) es else es
def z7R (w:World)(S:Addr)(es:Array (Int × Value))(ep:Nat):(ordE w S es ep).toList.Perm es.toList:=by
 unfold ordE
 split
 .exact z62 _ _
 rfl
def z5z (w:World)(S:Addr)(es:Array (Int × Value))(ep:Nat):(ordE w S es ep).size=es.size:=by
 rw[<- ug,(z7R w S es ep).length_eq,ug]
def z5t (w:World)(t:SetTable)(i:Nat):Nat:=if w.params.followText "set-order"=true then 0 else if i=0 then 0 else t.place.getD (i - 1) 0+1
def z6y {t:SetTable}(d:Rise t.place){i:Nat}(l:i<=t.place.size):below t.place (if i=0 then 0 else t.place.getD (i - 1) 0+1)=i:=by
 obtain⟨j,a,b⟩:=z4P d (if i=0 then 0 else t.place.getD (i - 1) 0+1);generalize below t.place (if i=0 then 0 else t.place.getD (i - 1) 0+1)=k at*
 by_cases e:i=0
 .subst e;rw[if_pos rfl] at a
  by_cases z:k=0
  .exact z
  .have:=a 0 (by lia);lia
 .rw[if_neg e] at a b
  by_cases c:k<i
  .have:=b (i - 1) (by lia) (by lia);lia
  .by_cases f:i<k
   .have g:=a i f;have h:=d (i - 1) i (by lia) (by lia);lia
   .lia
def zec {w:World}{S:Addr}{es:Array (Int × Value)}{ep:Nat}{t:SetTable}(f:Rise t.place)(hsz:t.place.size=es.size){i:Nat}(d:i<es.size):
  ∃e,(ordE w S es ep)[i]? = some e/\nxt w S es ep t (z5t w t i) i=some (e.2,z5t w t (i+1)):=by
 have a:i<(ordE w S es ep).size:=by rw[z5z];exact d
 refine⟨(ordE w S es ep)[i],jY _ i a,?_⟩;unfold nxt z5t
 by_cases c:w.params.followText "set-order"=true
 .simp only[if_pos c];have b:ordE w S es ep=pickOrder (w.params.setOrder S ep) es:=by unfold ordE;rw[if_pos c]
  rw[<- b,jY _ i a]
  rfl
 .simp only[if_neg c];have b:ordE w S es ep=es:=by unfold ordE;rw[if_neg c]
  rw[z6y f (by lia),jY es i d,zmL (xs:=t.place) (by lia)];simp only[Nat.add_sub_cancel,if_neg (Nat.succ_ne_zero i)]
  congr 1
  simp only[b]
def zgZ {w:World}{S:Addr}{es:Array (Int × Value)}{ep:Nat}{t:SetTable}(b:Rise t.place)(hsz:t.place.size=es.size):nxt w S es ep t (z5t w t es.size) es.size=none:=by
 unfold nxt z5t
 by_cases c:w.params.followText "set-order"=true
 .simp only[if_pos c];have a:ordE w S es ep=pickOrder (w.params.setOrder S ep) es:=by unfold ordE;rw[if_pos c]
  rw[<- a,getElem?_neg _ _ (by rw[z5z];lia)]
  rfl
 .simp only[if_neg c];rw[z6y b (by lia),getElem?_neg es es.size (by lia)]
def z7g:entryFor table "set_iterator.__iter__"=some Builtin.«dict_keyiterator.__iter__»:=
 entryFor_alias (id':="dict_keyiterator.__iter__") (by kernel_rfl) rfl (by decide +kernel) (by kernel_rfl)
def z8v (a:Value):argsOk "set_iterator.__iter__" ⟨[a],[]⟩:=by rfl
section
variable {prog:Program}{w:World}{A:Around}{E:WvP}{s:Shared}
def z5h {it S:Addr}{b i n ep:Nat}{Q:WvP}(a:z2k s.heap it S b i n ep)(h:Q (.ref it) s):wpAny (model prog w) A (pyIter (.ref it)) Q E s:=by
 refine wpAny_pyIter_slot a.typeIs z4S (vA z4S a.typeIs z7g ?_ (z8v _));exact wg ⟨_,rfl,"set_iterator",_,a.typeIs,z1v.lookup,h⟩
theorem Walks.set (H:A.handled=none)(I S:Addr)(n:S≠I){o:Obj}{es:Array (Int × Value)}{ep:Nat}{t:SetTable}(p:o.data = .set es ep t)(q:t.fits es.size=true)(x:t.plain=true)(u:t.led = !w.params.followText "set-order")(y:Rise t.place)(hsz:t.place.size=es.size):
  Walks prog w A I [I,S] [I] es.size (λi v=>∃e,(ordE w S es ep)[i]? = some e/\v=e.2) (λi h=>z2k h I S (z5t w t i) i es.size ep/\h.get? S=some o) where
 sub:=λb d=>by simp at d;simp[d]
 frame:=λi h l a r=>⟨let ⟨K,F,G⟩:=a.1;⟨K,r I (by simp) _ F,G⟩,r S (by simp) _ a.2⟩
 item:=λi s Q E J a f=>by
  obtain⟨e,z,C⟩:=zec (w:=w) (S:=S) (ep:=ep) y hsz J;refine z39 a.1 a.2 p q x u C λl g j =>?_;exact f _ l s.toks ⟨e,z,rfl⟩ ⟨g,j.extBut S _ n a.2⟩ λb o d e=>j.extBut b o (λh=>d (by simp[h])) e
 done:=λs Q E a f=>z3Q H a.1 a.2 p q x u (zgZ y hsz) λl m=>f l s.toks λb o d e=>m b o (λh=>d (by simp[h])) e
 self:=λ_ _ _ _ a f=>z5h a.1 f
def z9c {S:Addr}{o:Obj}{es:Array (Int × Value)}{ep:Nat}{t:SetTable}{Q:List Value->Shared->Prop}(hh:A.handled=none)(W:s.heap.get? S=some o)(N:o.cls = .type "set")(T:o.data = .set es ep t)(U:t.fits es.size=true)(X:t.plain=true)(hl:t.led = !w.params.followText "set-order")(hr:Rise t.place)(hsz:t.place.size=es.size)(hz:es.size<=sizeLine)
  (h:∀s',(∀b o,s.heap.get? b=some o->s'.heap.get? b=some o)->s'.gens=s.gens->s'.drawn=s.drawn->s'.os=s.os->s.toks<=s'.toks->Q ((ordE w S es ep).toList.map (·.2)) s'):wpAny (model prog w) A (collect (.ref S)) Q E s:=by
 have d:S<s.heap.objs.size:=wu W;unfold collect;refine wc (wpAny_runValue (vX F.entry_proto_collect ?_));rw[vk F.plain_proto_collect _];show wpAny _ A.in1 (newList [] >>= λl=>again (.builtin "list.__iadd__" ⟨[l,.ref S],[]⟩)) _ _ s;refine wc (wP ?_);refine wg ⟨v9 F.plain_list_iadd _,vX F.entry_list_iadd ?_⟩;rw[vk F.plain_list_iadd _];show wpAny _ A.in1 (Builtin.List.listExtendWith (.ref s.heap.objs.size) (.ref S) (.ref s.heap.objs.size)) _ _ _;unfold Builtin.List.listExtendWith;have j:(s.heap.push { cls :=.type "list",data :=.seq ([]:List Value).toArray }).get? S=some o:=wf _ W;have M:Shared.TypeIs { s with heap:=s.heap.push { cls :=.type "list",data :=.seq ([]:List Value).toArray } } (.ref S) "set":=⟨o,j,N⟩
 refine wc (jd M ?_);have h1:Builtin.List.listSameRef (.ref s.heap.objs.size) (.ref S)=false:=by simp[Builtin.List.listSameRef];exact jw d
 have h2:(Value.type "set" == Value.type "list")=false:=by decide
 have h3:(Value.type "set" == Value.type "tuple")=false:=by decide
 simp only[h1,h2,h3,Bool.or_false,vi,jh];refine wc (z4Z j N T U X ?_);refine wc (vS ?_);generalize G:s.heap.push { cls :=.type "list",data :=.seq ([]:List Value).toArray }=H at*;have q:H.objs.size=s.heap.objs.size+1:=by rw[<- G,vY]
 dsimp only;have u:Shared.TypeIs { s with heap:=H.push { cls :=.type "set_iterator",data :=.fields #[.int 0 0,.int 0 0,.ref S,.int es.size 0,.int ep 0] } } (.ref S) "set":=⟨o,wf _ j,N⟩
 unfold Builtin.List.listLengthHint;refine wc (uC u F.slot_set_len.lookup ?_)
 wp_delta
 refine wc (uR (b:=true) u (by rw[isSubtype_type];kernel_rfl) ?_);show wpAny _ A.in1 (typeOf (Value.ref S) >>= _) _ _ _;refine wc (jd u ?_);refine wg ?_;rw[if_pos (by decide)];refine wc (jX ?_);refine wc ?_;show wpAny _ A.in1 (updateSeq s.heap.objs.size (·.push .none) >>= λ_=>updateSeq s.heap.objs.size (·.pop)) _ _ _;generalize I:({ cls :=.type "set_iterator",data :=.fields #[.int 0 0,.int 0 0,.ref S,.int es.size 0,.int ep 0] }:Obj)=io at*;have f:(H.push io).get? s.heap.objs.size=some { cls :=.type "list",data :=.seq ([]:List Value).toArray }:=wf _ (G ▸ wn _ rfl);refine wc (uL f rfl ?_);have g:=wW (Obj.mapSeq (·.push Value.none)) f rfl;refine uL g rfl ?_;have r:=wW (Obj.mapSeq (·.pop)) g rfl;have x:∀b o,b≠s.heap.objs.size->(H.push io).get? b=some o->(((H.push io).update s.heap.objs.size (Obj.mapSeq (·.push Value.none))).update s.heap.objs.size (Obj.mapSeq (·.pop))).get? b=some o:=
  λb o C e=>(wR _ _ (vG C)).trans ((wR _ _ (vG C)).trans e)
 have p:S≠s.heap.objs.size:=wI d;have n:H.objs.size≠s.heap.objs.size:=by rw[q];exact jw (uG _)
 have K:S≠H.objs.size:=by rw[q];exact wI (v7 d)
 have L:s.heap.objs.size ∉ [H.objs.size,S]:=by
  simp only[wm,wz,vK,not_or];exact⟨vG n,vG p⟩
 have O:(H.push io).get? H.objs.size=some io:=wn _ (by rw[<- I];rfl);refine wg ⟨v9 F.plain_extend_loop _,codeAny_extend_loopS (Walks.set (A:=A.in1) (w:=w) (prog:=prog) hh H.objs.size S K T U X hl hr hsz).toS hz _ L _ es.size 0 _ _ _ rfl (vn _)
  ⟨⟨io,x _ _ n O,by rw[<- I],by rw[<- I];simp[z5t]⟩,x _ _ p (wf _ j)⟩ r (ItemsOf.nil _) λs' a c' z J i =>?_⟩
 show wpAny _ A (load s.heap.objs.size >>= _) _ _ s';refine wc (wpAny_load J ?_);have hq:a.toList=(ordE w S es ep).toList.map (·.2):=by
  apply jH;intro k;rw[uk,wO,uk]
  by_cases R:k<es.size
  .have y:k<a.size:=by rw[i.1];exact R
   obtain⟨e,Z,e2⟩:=i.2 k a[k] (jY a k y);rw[jY a k y,Z,e2];rfl
  .rw[getElem?_neg a k (by rw[i.1];exact R),getElem?_neg (ordE w S es ep) k (by rw[z5z];exact R)];rfl
 have m:=h s' (λb Y e=>z.heap b Y (λC =>?_) (x b Y (wI (wu e)) (wf _ (G ▸ wf _ e)))) z.gens z.drawn z.os z.toks
 .rw[<- hq] at m;exact wg m
 .have d:=wu e
  rcases wm.mp C with h | h
  .exact absurd d (h ▸ vB _)
  .rw[wo.mp h,q] at d;exact absurd d (Nat.not_lt.mpr (Nat.le_succ _))
def zaH {k:List Int}{vs:List Value}(h:ItemsAre (intKind prog w) k vs):IntsAre vs k:=by
 induction h with
 | nil=>exact .nil
 | cons a _ b=>
  obtain⟨t,rfl⟩:=Value.isInt_shape a;exact .cons _ _ b
def TK.ti {h:Heap}{k:List Int}{b:Addr}(x:TK prog w h k b):Tim.TI h (.ref b) k:=by
 obtain⟨o,z01,n,a,d,e,f⟩:=x;exact⟨b,o,z01,n,rfl,a,d,e,zaH f⟩
def zhV {h:Heap}{v:Value}{k k':List Int}(x:Tim.TI h v k)(y:Tim.TI h v k'):k=k':=by
 obtain⟨a,o,z01,n,e,i,q,j,l⟩:=x;obtain⟨m,s,b,r,d,f,p,g3,g⟩:=y;rw[e] at d;cases d;rw[i] at f;cases f;rw[j] at g3;cases g3;exact(IntsAre.nums l).symm.trans (IntsAre.nums g)
def z79 (h:Heap)(v:Value):List Int:=by
 classical exact if c:∃k,Tim.TI h v k then c.choose else []
def z78 {h:Heap}{v:Value}{k:List Int}(x:Tim.TI h v k):z79 h v=k:=by
 unfold z79;have c:∃k,Tim.TI h v k:=⟨k,x⟩
 rw[dif_pos c];exact zhV c.choose_spec x
def zd1 {M:Value->Prop}{h:Heap}{l:List Value}{m:List (List Int)}(t:Two (IsK prog w M h) l m):l.map (z79 h)=m:=by
 induction t with
 | nil=>rfl
 | cons a _ d=>
  obtain⟨_,b,rfl,z⟩:=a;rw[wL,d,z78 (TK.ti z)]
def zac {M:Value->Prop}{S:Addr}{p:List (List Int)}{Q:WvP}(U:A.handled=none)(x:SetK prog w M s.heap S p)(u:∀k∈p,k≠[])(hz:p.length<64)
  (h:∀s' (d:List Value),(∀b o,s.heap.get? b=some o->s'.heap.get? b=some o)->s'.gens=s.gens->s'.drawn=s.drawn->s'.os=s.os->s.toks<=s'.toks->
   (d.map (z79 s.heap)).Perm p->(∀v∈d,M v/\Tim.TI s.heap v (z79 s.heap v))->(d.map (z79 s.heap)).Pairwise (λa b=>HT.z0x b a=false)->
   ∀D,s.heap.get? D=none->(∃e,s'.heap.get? D=some (seqObj "list" d.toArray e))->Q (.ref D) s'):wpAny (model prog w) A (call (.builtin "sorted") [.ref S]) Q E s:=by
 obtain⟨L,T,r,I⟩:=x.len;obtain⟨o,n,H,t,y,_⟩:=T.ex;have q:n.size=L.length:=by rw[y.tab.es];simp
 have f:=zd1 r;have l:∀v∈L.map (·.2.2),Tim.TI s.heap v (z79 s.heap v):=λv j=>by
  obtain⟨k,_,_,b,rfl,z⟩:=r.mem_left j;rw[z78 (TK.ti z)];exact TK.ti z
 have i:((ordE w S n H).toList.map (·.2)).Perm (L.map (·.2.2)):=by
  refine((z7R w S n H).map (·.2)).trans ?_;rw[y.tab.es];simp only[wJ];exact List.Perm.refl _
 refine Tim.z8G (key:=z79 s.heap) λY =>?_;refine z9c (A:=A.in1) U y.get y.ex.1 y.data y.fits y.plain y.led y.tab.riseP (by rw[y.tab.place,q];simp) (wM (show n.size<=64 by omega) (by decide)) λG C J K g3 N =>?_;refine⟨by rw[i.length_eq,we];lia,λv j =>?_,λd F X O keep R =>?_⟩
 .have m:=i.mem_iff.mp j;refine⟨(l v m).keep λb o g _=>C b o g,u _ ?_⟩;rw[<- f];exact wj.mpr ⟨v,m,rfl⟩
 .refine h { G with heap:=O } d (λb o g=>keep b o (C b o g)) J K g3 N ?_ (λv j=>⟨(r.mem_left (i.mem_iff.mp (F.mem_iff.mp j))).choose_spec.2.1,l v (i.mem_iff.mp (F.mem_iff.mp j))⟩) (wS.mpr X) G.heap.objs.size ?_ R
  .rw[<- f];exact(F.trans i).map _
  .cases W:s.heap.get? G.heap.objs.size with
   | none=>rfl
   | some o=>exact absurd (wu (C _ _ W)) (vB _)
end
end Tab
namespace Pu
open PySem PySem.Spec PyProof.Rows L2 Tab
def SetO (P:Program)(w:World)(a:Addr)(L:List (Rw Value))(h:Heap):Prop:=∃o b d t,h.get? a=some o/\o.ExactSet/\o.data = .set b d t/\TabW t b L/\L.length<=t.mask/\t.mask<=8191/\t.plain=true/\t.led=(!w.params.followText "set-order")/\L.length*5<t.mask*3
def Mem (K:W.Frag)(P:Program)(w:World)(G:Hp)(L:List (Rw Value))(a:List (List Int)):Prop:=Two (λ(r:Rw Value) (k:List Int)=>∃b,r.2.2 = .ref b/\SqT K G b (k.map V.int)/\r.2.1=tupleKeyHash (intKind P w) k) L a
def Tis (K:W.Frag)(G:Hp)(xs:List V)(ks:List (List Int)):Prop:=Two (λ(x:V) (k:List Int)=>∃b,x = .ref b/\SqT K G b (k.map V.int)) xs ks
def MemV (K:W.Frag)(G:Hp)(v:Value):Prop:=∃b k,v = .ref b/\SqT K G b ((k:List Int).map V.int)
def zaX {a b:Type}{R:a->b->Prop}{l:List a}{m:List b}(h:Two R l m):l.length=m.length:=by
 induction h with
 | nil=>rfl
 | cons _ _ d=>simp[d]
theorem z8D {a d e:Type}{R:a->d->Prop}{f:e->a}:∀{l:List e}{m:List d},Two R (l.map f) m->Two (λc b=>R (f c) b) l m
 | [],_,h=>by cases h;exact .nil
 | c::l,_,h=>by
  cases h with
  | cons g i=>exact .cons g (z8D i)
theorem zc3 {a d e:Type}{R:a->d->Prop}{f:e->a}:∀{l:List e}{m:List d},Two (λc b=>R (f c) b) l m->Two R (l.map f) m
 | [],_,h=>by cases h;exact .nil
 | c::l,_,h=>by
  cases h with
  | cons g i=>exact .cons g (zc3 i)
def zfM {b d:Type}{R:b->d->Prop}{S:b->Prop}{l:List b}{m:List d}(h:Two R l m)(a:∀x∈l,S x):Two (λx y=>R x y/\S x) l m:=by
 induction h with
 | nil=>exact .nil
 | cons e _ g=>exact .cons ⟨e,a _ ww⟩ (g λx f=>a x (wp _ f))
def zd6 {K:W.Frag}{G:Hp}{R:Value->List Int->Prop}(e:∀b k,SqT K G b (k.map V.int)->R (.ref b) k){xs:List V}{ks:List (List Int)}(t:Tis K G xs ks):∀{a:List Value},Vals xs a->Two R a ks:=by
 induction t with
 | nil=>intro a r;cases r;exact .nil
 | cons d _ g=>
  intro a r;obtain⟨b,rfl,f⟩:=d
  cases r with
  | cons r1 r2=>
   cases r1
   exact .cons (e b _ f) (g r2)
def z1i.there {P:Program}{w:World}{H:Hp}{h:Heap}{a:Addr}{o:HO}(x:z1i P w H h a o):∃u,h.get? a=some u:=by
 cases o with
 | lst d=>obtain⟨_,_,_,_,e⟩:=x;exact⟨_,e⟩
 | tup d=>obtain⟨_,_,_,⟨o,e,_⟩,_⟩:=x;exact⟨_,e⟩
 | dK b=>obtain⟨_,_,_,_,o,_,_,e,_⟩:=x;exact⟨_,e⟩
 | dT b=>obtain⟨_,_,_,_,o,_,_,e,_⟩:=x;exact⟨_,e⟩
 | set S n=>obtain⟨o,_,_,_,e,_⟩:=x;exact⟨_,e⟩
 | ins C g fs=>obtain⟨_,_,_,e,_⟩:=x;exact⟨_,e⟩
 | own y=>exact x
 | xd fs=>obtain⟨_,⟨_,_,_,e,_⟩,_⟩:=x;exact⟨_,e⟩
 | rng j i=>obtain⟨_,_,_,e⟩:=x;exact⟨_,e⟩
 | frz l u=>obtain⟨e,_⟩:=x;exact⟨_,e⟩
 | tbl ps=>rcases x with e | ⟨_,_,_,_,_,_,_,_,_,_,_,e,_⟩ <;> exact⟨_,e⟩
 | met f y=>exact⟨_,(x)⟩
 | ext m=>obtain⟨_,z,_⟩:=x;exact z
def _root_.L2.HOk.none_of {P:Program}{w:World}{H:Hp}{h:Heap}{a:Addr}(x:HOk P w H h)(e:h.get? a=none):H a=none:=by
 cases q:H a with
 | none=>rfl
 | some u=>
  obtain⟨v,z⟩:=z1i.there (x a u q)
  grind
def _root_.L2.Inv.laid' {X:Cx}{H:Hp}{f:List (Addr × Obj)}{i:L2.St}{s:Shared}{g:Heap}{a:Addr}{o:HO}{t':Nat}(I:Inv X f i H s)(k:∀b u,s.heap.get? b=some u->g.get? b=some u)(j:s.heap.get? a=none)(new:z1i X.prog X.w (upd H a o) g a o):
  Inv X f i (upd H a o) { s with heap:=g,toks:=t' }:=by
 have m:=I.hok.none_of j;have ne:∀b u,s.heap.get? b=some u->b≠a:=λb u e z=>by grind
 have d:∀b u,H b=some u->b≠a:=λb u e z=>by grind
 refine I.un ⟨λb o e q _ _=>k b o e,λb o e q _ _=>⟨o.slots,k b o e⟩,λb o e q _=>by rw[z05 (ne b o e)];exact q,λb o e _=>⟨o,k b o e⟩,λb l e=>by rw[z05 (d b _ e)];exact e,λb o u e=>by rw[z05 (d b _ e)];exact e,λb ps e=>⟨#[],by rw[z05 (d b _ e)];exact e⟩⟩ λb u e =>?_
 by_cases h:b=a
 .subst h;rw[z06] at e;grind
 .rw[z05 h] at e;exact(I.hok b u e).stay (λc v _ q=>k c v q) (λc q=>by rw[z05 (d c _ q)];exact q) (λc l q=>by rw[z05 (d c _ q)];exact q) λc _ _ q=>by rw[z05 (d c _ q)];exact q
section
variable {X:Cx}{G H:Hp}{pins:List (Addr × Obj)}{σ:L2.St}{s:Shared}
theorem z6t {P:Program}{w:World}:∀{ns:List Int}{a:List Value},Vals (ns.map V.int) a->ItemsAre (intKind P w) ns a
 | [],_,r=>by cases r;exact .nil
 | n::ns,_,r=>by
  cases r with
  | cons r1 r2=>
   obtain⟨t,rfl⟩:=r1;exact .cons (by simp[intKind,Value.isInt]) (z6t r2)
def z8E {b:Addr}{k:List Int}(I:Inv X pins σ H s)(g:Same G H)(h:SqT X.K G b (k.map V.int)):TK X.prog X.w s.heap k b:=by
 obtain⟨a,r,⟨o,f,d,n,e⟩,_⟩:=I.tuple (z0u g h);exact⟨o,a.toArray,n,f,d,e,by simpa using z6t r⟩
def zg0 {p:Addr}{L:List (Rw Value)}{kl:List (List Int)}(I:Inv X pins σ H s)(g:Same G H)(A:H p=some (.ext (SetO X.prog X.w p L)))(d:Mem X.K X.prog X.w G L kl)(E:kl.Nodup):SetK X.prog X.w (MemV X.K G) s.heap p kl:=by
 obtain⟨o,h,f,t,i,j,l,m,n,q,u,x,y⟩:SetO _ X.w p L _:=(I.hok p _ A).1;refine⟨⟨L,⟨o,h,f,t,⟨i,j,l,m,n,q,u,x,λr C =>?_⟩,y⟩,zc3 (d.imp λr k ⟨b,e,a,_⟩=>⟨⟨b,k,e,a⟩,b,e,z8E I g a⟩)⟩,E⟩;obtain⟨k,_,b,e,a,z⟩:=Two.mem_left d C;exact⟨b,k,e,z8E I g a,z⟩
def rSet (K:W.Frag)(P:Program)(w:World):List V->Hp->VK->Prop:=λvs H Q=>∃G a b e,vs=[.ref a]/\Same G H/\(SqL K G a b\/SqT K G a b)/\Tis K G b e/\b.length<=63/\
 ∀p L d,H p=none->Mem K P w G L d->d.Nodup->(∀x,x∈d↔x∈e)->Q (.ref p) (upd H p (.ext (SetO P w p L)))
def zeN (Z:X.calm=true)(hu:X.A.units+64<cLine):z0C X (.type "set") (rSet X.K X.prog X.w):=by
 rintro F s σ H xs us Q I rv ⟨G,a,ys,ks,e,g,l,ht,hl,q⟩;subst e;obtain⟨u,rfl,rx⟩:=z37 rv
 cases rx
 have W:X.A.handled=none:=I.ok.hd Z;have E:∀{f:List Value},Vals ys f->Two (IsK X.prog X.w (MemV X.K G) s.heap) f ks:=λr=>zd6 (λb k m=>⟨⟨b,k,rfl,m⟩,b,rfl,z8E I g m⟩) ht r;have fin:∀(h':Heap) (i:Nat) (h:List (List Int)),SetK X.prog X.w (MemV X.K G) h' s.heap.objs.size h->(∀x,x∈h↔x∈ks)->(∀b o,b<s.heap.objs.size->s.heap.get? b=some o->h'.get? b=some o)->EP X F σ Q (.ref s.heap.objs.size) { s with heap:=h',toks:=i }:=by
  intro h' i h j C keep;have d:∀b o,s.heap.get? b=some o->h'.get? b=some o:=λb o e=>keep b o (wu e) e;obtain⟨L,⟨o,N,J,t,y,hf⟩,U⟩:=j.ex;have so:SetO X.prog X.w s.heap.objs.size L h':=⟨o,N,J,t,y.get,y.ex,y.data,y.tab,y.room,y.small,y.plain,y.led,hf⟩
  refine⟨.ref s.heap.objs.size,_,I.laid (o :=.ext (SetO X.prog X.w s.heap.objs.size L)) (t':=i) d (wq _) ⟨so,⟨o,y.get⟩,λh1 U ⟨o,N,J,t,z,r⟩ st=>⟨o,N,J,t,st _ z,r⟩⟩,rfl,q _ L h (I.hok.fresh (wq _)) ?_ j.nd C⟩;refine(zfM (z8D U) (S:=λr=>∃b k,r.2.2 = .ref b/\TK X.prog X.w h' k b/\r.2.1=tupleKeyHash (intKind X.prog X.w) k) y.key).imp λr k z9 =>?_;obtain⟨⟨⟨b,k1,O,m⟩,b2,R,z2⟩,b3,k3,T,z3,hk⟩:=z9;rw[O] at R T
  cases R;cases T
  have Y:TK X.prog X.w h' k1 b:=by
   obtain⟨o,it,n,w1,w2⟩:=z8E I g m;exact⟨o,it,n,d _ _ w1,w2⟩
  have:=Y.inj z2;subst this;have:=Y.inj z3;subst this;exact⟨b,O,m,hk⟩
 rcases l with l | l
 .obtain⟨f,r,pl,hz⟩:=I.list (z1j g l);have p:=r.length;exact z7n (M:=MemV X.K G) (ks:=ks) W (by lia) pl.isList (by simpa using E r) (by simp only[vd] <;> lia) λh' i h j _ C keep=>fin h' i h j C keep
 .obtain⟨f,r,pl,hz⟩:=I.tuple (z0u g l);have p:=r.length;exact z6g (M:=MemV X.K G) (ks:=ks) W (by lia) pl (by simpa using E r) (by simp only[vd] <;> lia) λh' i h j _ C keep=>fin h' i h j C keep
def ziC (K:W.Frag)(P:Program)(w:World):List V->Hp->VK->Prop:=λvs H Q=>∃G p L e,vs=[.ref p]/\Same G H/\H p=some (.ext (SetO P w p L))/\Mem K P w G L e/\e.Nodup/\(∀k∈e,k≠[])/\e.length<=63/\
 ∀D f d,H D=none->Tis K G f d->d.Perm e->d.Pairwise (λa b=>HT.z0x b a=false)->Q (.ref D) (upd H D (.lst f))
def zaP (E:X.calm=true):z0C X (.builtin "sorted") (ziC X.K X.prog X.w):=by
 rintro A s σ H xs us Q I W ⟨G,p,L,S,e,g,N,J,T,l,hz,q⟩;subst e;obtain⟨u,rfl,Y⟩:=z37 W
 cases Y
 have hn:=z5E;have F:(63:Nat)<=sizeLine:=by decide
 refine zac (M:=MemV X.K G) (I.ok.hd E) (zg0 I g N J T) l (by lia) λZ a keep t x g3 g4 perm i C D y h =>?_;obtain⟨e,h⟩:=h;obtain⟨h',g',d',n,U⟩:=Z;dsimp only at t x g3 keep h;subst t;subst x;subst g3;have f  := λv m=>(i v m).1;have O:∃d:List V,Vals d a/\Tis X.K G d (a.map (z79 s.heap)):=by
  clear perm C h i
  induction a with
  | nil=>exact⟨[],.nil,.nil⟩
  | cons v a R=>
   obtain⟨d,j,r⟩:=R λv m=>f v (wp _ m);obtain⟨b,k,rfl,z⟩:=f v ww;refine⟨.ref b::d,.cons rfl j,.cons ⟨b,rfl,?_⟩ r⟩;rw[z78 (TK.ti (z8E I g z))];exact z
 obtain⟨d,j,r⟩:=O;have hl:d.length=S.length:=by rw[<- perm.length_eq,we,j.length]
 exact⟨.ref D,upd H D (.lst d),I.laid' (o :=.lst d) (t':=n) keep y ⟨by lia,a,e,j,h⟩,rfl,q D d _ (I.hok.none_of y) r perm C⟩
end
abbrev tupD (k:List Int):D :=.tup (k.map .int)
structure Rows (ks kl:List (List Int)):Prop where
 up:kl.Pairwise (λa b=>HT.z0x a b=true)
 mem:∀x,x∈kl↔x∈ks
def zb8 (d:D)(P:List (List Int)->Prop):Prop:=match d with
 | .lst l=>∃a,l=a.map tupD/\l.length<=63/\P a
 | .tup l=>∃a,l=a.map tupD/\l.length<=63/\P a
 | _=>False
def zae {d:D}{P P':List (List Int)->Prop}(m:∀k,P k->P' k)(h:zb8 d P):zb8 d P':=by
 cases d with
 | lst l=>obtain⟨e,a,b,c⟩:=h;exact⟨e,a,b,m _ c⟩
 | tup l=>obtain⟨e,a,b,c⟩:=h;exact⟨e,a,b,m _ c⟩
 | _=>exact h.elim
def zes (d:D)(Q:DK):Prop:=zb8 d λb=>(∀k∈b,k≠[])/\∀a,Rows b a->Q (.lst (a.map tupD))
def z6Q:Fn:=fn1 zes λd Q b m h=>zae (λe q=>⟨q.1,λa z=>m _ (q.2 a z)⟩) h
section
variable {X:Cx}{K:W.Frag}{mg:WmP}{E:XK}{G H:Hp}
theorem z6I:∀{ks:List (List Int)}{xs:List V},RDs K mg G (ks.map tupD) xs->Tis K G xs ks
 | [],_,h=>by subst h;exact .nil
 | k::ks,_,h=>by
  obtain⟨x,r,rfl,d,e⟩:=h;obtain⟨a,g,rfl,b,f⟩:=z1m d;rw[z3E k f] at b;exact .cons ⟨a,rfl,b⟩ (z6I e)
def zfQ:∀{ks:List (List Int)}{xs:List V},Tis K G xs ks->RDs K mg G (ks.map tupD) xs:=by
 intro ks xs h
 induction h with
 | nil=>rfl
 | cons a _ e=>
  obtain⟨b,rfl,d⟩:=a;exact RDs.cons (RD.ofT d (z5b _)) e
def zdf {d:D}{v:V}{P:List (List Int)->Prop}(r:RD K mg G d v)(h:zb8 d P):∃a xs ks,v = .ref a/\(SqL K G a xs\/SqT K G a xs)/\Tis K G xs ks/\xs.length<=63/\P ks:=by
 cases d with
 | lst l=>
  obtain⟨ks,rfl,f,q⟩:=h;obtain⟨a,xs,rfl,e,b⟩:=z1W r;exact⟨a,xs,ks,rfl,.inl e,z6I b,by rw[b.len];exact f,q⟩
 | tup l=>
  obtain⟨ks,rfl,f,q⟩:=h;obtain⟨a,xs,rfl,e,b⟩:=z1m r;exact⟨a,xs,ks,rfl,.inr e,z6I b,by rw[b.len];exact f,q⟩
 | _=>exact h.elim
def zfb {d:List (List Int)}(f:d.Nodup)(h:d.Pairwise (λa b=>HT.z0x b a=false)):d.Pairwise (λa b=>HT.z0x a b=true):=by
 induction d with
 | nil=>exact .nil
 | cons a l i=>
  rw[wY] at h ⊢;rw[vO] at f;refine⟨λb g =>?_,i f.2 h.2⟩
  cases z:HT.z0x a b with
  | true=>rfl
  | false=>
   have e  := Tim.z94 a b z (h.1 b g)
   simp_all
theorem z1X {d:Type}[DecidableEq d]:∀{l m:List d},l.Nodup->(∀x∈l,x∈m)->l.length<=m.length
 | [],_,_,_=>vn _
 | a::l,m,b,h=>by
  rw[vO] at b;have g:=h a ww;have:=z1X b.2 λx f=>(List.mem_erase_of_ne (λ(e:x=a)=>b.1 (by simp_all))).mpr (h x (wp _ f))
  grind
def zep {ks a:List (List Int)}(d:a.Nodup)(h:∀x,x∈a↔x∈ks):a.length<=ks.length:=z1X d λx b=>(h x).mp b
def zaq {e:Expr}{x:Ex}{p1 J K p4:Pos}(hu:X.A.units+64<cLine)(R:X.calm=true)(hg:Gl X "sorted")(hm:X.mg "sorted"=none)(t:Gl X "set")(y:X.mg "set"=none)(ha:QXA X E [e] [x])
  (F:autoParam (starEach [e] X.env=(false,eval e X.env)::starEach [] X.env) jA1) (h:autoParam (starEach [.Call (.Name "set" J) [e] [] K] X.env=(false,eval (.Call (.Name "set" J) [e] [] K) X.env)::starEach [] X.env) jA1):QF X E (.Call (.Name "sorted" p1) [.Call (.Name "set" J) [e] [] K] [] p4) (.op z6Q [x]):=
 QE.imp (z4h (zaP R) hg hm (by rfl) (z3j (z2g (zeN R hu) t y (by rfl) ha (by decide) (by decide) F (by rfl)) z5y h) (by decide) (by decide) h (by rfl)) <| by
  rintro σ H Q ⟨G,ρ,Z,M,hs,ab,hr,u,hx⟩;refine⟨G,ρ,λN=>z6Q.run N Z M,M,hs,ab,hr,λN vs n g q g1 l g3 rds =>?_,hx⟩;obtain⟨d,rfl,q'⟩:=z1c q;obtain⟨v,rfl,rd⟩:=rds1 rds;obtain⟨a,Y,T,rfl,h1,O,h3,C,h4⟩:=zdf rd q';refine⟨n,a,Y,T,rfl,l,h1,O,h3,λp L kl hp hM I b =>?_⟩;have m:Same g (upd g p (.ext (SetO X.prog X.w p L))):=z0f hp _;have S:T.length=Y.length:=(zaX O).symm;refine⟨n,p,L,kl,rfl,z03 l m,z06,hM,I,λk u=>C k ((b k).mp u),by have:=zep I b;lia,λD j i r ht U pw =>?_⟩;have f:g D=none:=by
   cases z:g D with
   | none=>rfl
   | some o=>rw[m D o z] at r;cases r
  have s:H D=none:=by
   cases z:H D with
   | none=>rfl
   | some o=>rw[g3 D o z] at f;cases f
  have W:=z0f (H:=upd g p (.ext (SetO X.prog X.w p L))) r (.lst j);refine u (.lst (i.map tupD)) D n _ (h4 i ⟨zfb (U.nodup_iff.mpr I) pw,λz=>by rw[U.mem_iff];exact b z⟩) g1 (z03 l (z03 m W)) (z03 g3 (z03 m W)) s (z0M l f) ⟨j,z06,zfQ ht⟩
end
end Pu
namespace Rev
open PySem PyProof.Rows
def no_len:typeLookup (.type "list_reverseiterator") "__len__"=pure none:=by
 rfl
def its_hint:typeLookup (.type "list_reverseiterator") "__length_hint__"=pure (some (.builtin "list_reverseiterator.__length_hint__")):=by
 rfl
section
variable {prog:Program}{w:World}{A:Around}{E:WvP}{s:Shared}{R:Result->Shared->Prop}{r:Addr}
def zhj {Q:Bool->Shared->Prop}(ty:s.TypeIs (.ref r) "list_reverseiterator")(q:Q false s):wpAny (model prog w) A (Builtin.List.listLengthHint (.ref r)) Q E s:=by
 unfold Builtin.List.listLengthHint;refine wc (uC ty no_len ?_);show wpAny _ A (specialOf (.ref r) (Str.ofString "__length_hint__") >>= _) Q E s;refine wc (uC ty its_hint ?_);generalize a:("list_reverseiterator.__length_hint__":String)=d
 wp_delta
 rw[show splitId d=some ("list_reverseiterator","__length_hint__") from by rw[<- a];decide +kernel];refine wc (uR (b:=true) ty (by rw[isSubtype_type];kernel_rfl) ?_);subst a;exact wg q
def zaK {g wr:List Addr}{G:Array GenState->Array GenState->Prop}{n:Nat}{P:Nat->Value->Prop}{St:Nat->Shared->Prop}(W:WalksS prog w A.in1 r g wr G n P St)(ty:∀i s,St i s->s.TypeIs (.ref r) "list_reverseiterator")(S:Addr)(res:Value)(j:Nat)(st:St 0 s)(b:S ∉ g)(l:r∈g)(hz:n<=sizeLine)
  (d:s.heap.get? S=some { cls :=.type "list",data :=.seq #[] j }) (q:∀s' a c,Moved (S::wr) G s s'->s'.heap.get? S=some { cls :=.type "list",dict:=none,data :=.seq a c,slots := #[] }->ItemsOf P a n->R (.ok (.ret res)) s'):
  wpAny (model prog w) A.in1 (Builtin.List.listExtendWith (.ref S) (.ref r) res) (λfin s'=>match fin with | .done f=>R (.ok f) s' | .again h=>h.quiet=true/\codeAny (model prog w) A h R s') (λe s'=>R (.error e) s') s:=by
 have ne:S≠r:=λe=>b (by simp_all);refine wc (jd (ty 0 s st) ?_);have m:Builtin.List.listSameRef (.ref S) (.ref r)=false:=by simp[Builtin.List.listSameRef,ne]
 have p:(Value.type "list_reverseiterator" == .type "list")=false:=by decide
 have o:(Value.type "list_reverseiterator" == .type "tuple")=false:=by decide
 rw[m,o];refine wc (W.self 0 s _ _ st (wc (vS (zhj (ty 0 s st) ?_))));exact wg ⟨v9 F.plain_extend_loop _,codeAny_extend_loopS W hz S b res n 0 s #[] j rfl (vn _) st d (ItemsOf.nil P) q⟩
def zeq {j wr:List Addr}{G:Array GenState->Array GenState->Prop}{n:Nat}{P:Nat->Value->Prop}{St:Nat->Shared->Prop}(W:WalksS prog w A.in1 r j wr G n P St)(ty:∀i s,St i s->s.TypeIs (.ref r) "list_reverseiterator")(S:Addr)(st:St 0 s)(h:S ∉ j)(g:r∈j)(hz:n<=sizeLine)
  (d:s.heap.get? S=some { cls :=.type "list",data :=.seq #[] }) (q:∀s' a c,Moved (S::wr) G s s'->s'.heap.get? S=some { cls :=.type "list",dict:=none,data :=.seq a c,slots := #[] }->ItemsOf P a n->R (.ok (.ret .none)) s'):
  wpAny (model prog w) A.in1 (Builtin.«list.__init__» ⟨[.ref S,.ref r],[]⟩) (λfin s'=>match fin with | .done f=>R (.ok f) s' | .again m=>m.quiet=true/\codeAny (model prog w) A m R s') (λe s'=>R (.error e) s') s:=by
 show wpAny _ A.in1 (Builtin.List.listItems (.ref S) >>= λp=>Builtin.List.listUpdate (.ref S) _ >>= λ_=>letGo _ >>= λ_=>Builtin.List.listExtendWith (.ref S) (.ref r) .none) _ _ s;refine wc (wc (v3 d rfl (wg ?_)));refine wc (uL d rfl (wc (jT ?_)));have keep:∀b o,b≠S->s.heap.get? b=some o->(s.heap.update S (Obj.mapSeq λ_=>(#[]))).get? b=some o:=λb o z e=>by rw[wR _ _ (vG z)];exact e
 refine zaK W ty S .none _ (W.frame 0 s _ s.toks st (wq _) λb l o e=>keep b o (λz=>h (z ▸ l)) e) h g hz (wW _ d rfl) λs' a c mv e it=>q s' a c ?_ e it;exact Moved.trans W.gtrans ((Moved.refl W.grefl).then_heap (wq _) λb o l e=>keep b o (λz=>l (by simp_all)) e) mv
end
end Rev
namespace Pu
open PySem PySem.Spec PyProof.Rows L2 Tab
def Ex.callv (T:Nat->Fn)(i:Nat)(es:List Ex):Ex:=⟨λb Q a=>∃n,b.get i=some (.fn n)/\runs es b (λd=>(T n).run d Q a) a,λb Q h a f m g ⟨n,e,q⟩=>⟨n,e,z3h es b _ _ a f (λd j=>(T n).mono d Q h a f m g j) g q⟩⟩
def FTab (P:Program)(w:World)(K:W.Frag)(mg:WmP)(a:Heap)(CX:CXT)(k:Nat)(T:Nat->Fn):Prop:=∀n f,mg (z5Q n)=some (.ref f)->∃j b ps,j<=k/\FnOk P w K mg a CX j f b ps (spP K mg (T n))/\W.keepIn K (.ref f)=true/\z6i K b ps []
def FTab.mk {P:Program}{w:World}{K:W.Frag}{mg:WmP}{a:Heap}{CX:CXT}{k:Nat}{T:Nat->Fn}(hz:mg ""=none)
  (h:∀n<4,∀f,mg (z5Q n)=some (.ref f)->∃j b ps,j<=k/\FnOk P w K mg a CX j f b ps (spP K mg (T n))/\W.keepIn K (.ref f)=true/\z6i K b ps []):FTab P w K mg a CX k T:=λn f e=>by
 by_cases d:n<4
 .exact h n d f e
 .rw[show z5Q n="" from by
   match n,d with
   | 0,h=>simp_all
   | 1,h=>simp_all
   | 2,h=>simp_all
   | 3,h=>simp_all
   | n+4,_=>rfl,hz] at e
  cases e
def _root_.L2.Cal.tab {P:Program}{w:World}{K:W.Frag}{mg:WmP}{a:Heap}{CX:CXT}{j k:Nat}{x:Str}{ps:List Str}{F:Fn}(C:Cal P w K mg a CX j x ps (spP K mg F))(h:j<=k)(f:Addr)(e:mg x=some (.ref f)):∃j b ps,j<=k/\FnOk P w K mg a CX j f b ps (spP K mg F)/\W.keepIn K (.ref f)=true/\z6i K b ps []:=by
 obtain⟨m,b,d,l,i,g⟩:=C.ex;rw[l] at e;cases e;exact⟨j,b,ps,h,d,i,g⟩
section
variable {X:Cx}{E:XK}{CX:CXT}{e:Expr}{es:List Expr}{xs:List Ex}{pos:Pos}
def zi7 (X:Cx)(CX:CXT)(E:XK)(i:Nat)(t:TA):TE:=λd H Q=>∃f a ps b k,d[i]? = some (some (.ref f))/\FnOk X.prog X.w X.K X.mg X.base CX k f a ps b/\Room k X.A/\W.keepIn X.K (.ref f)=true/\z6i X.K a ps []/\t d H λvs e=>b (vs++[]) e Q E
def zdY {x:Str}{i:Nat}{p:Pos}{t:TA}(G:z4z CX X E)(C:PE X (.Name x p) (tVar i))(o:PA X (e::es) t)(y:autoParam (starEach (e::es) X.env=(false,eval e X.env)::starEach es X.env) jA1)(b:autoParam ((backTo pos (starEach es X.env)).any (·.1)=false) jA1):
  PE X (.Call (.Name x p) (e::es) [] pos) (zi7 X CX E i t):=by
 rintro m s g H Q I ⟨f,O,ps,S,k,d,F,A,z,w,h⟩;refine j0 (thn (C _ s g H (λv a=>v = .ref f/\t g a _) I ⟨_,d,rfl,h⟩) λu L M =>?_);obtain⟨v,a,j,K,n,q⟩:=M;subst n
 cases K
 exact W.callWith_K j.ok.mod.kin z (thn (o pos _ L g a _ j q) λT R ⟨vs,N,l,r,J⟩=>⟨l.kIn,zf7 F A w .nil G l r J⟩) y b
def zdC {T:Nat->Fn}{k:Nat}{x:Str}{i:Nat}{p:Pos}(Y:FTab X.prog X.w X.K X.mg X.base CX k T)(S:Room k X.A)(W:z4z CX X E)(U:QE X (.Name x p) (tVar i))(I:QXA X E (e::es) xs)
  (L:autoParam (starEach (e::es) X.env=(false,eval e X.env)::starEach es X.env) jA1) (d:autoParam ((backTo pos (starEach es X.env)).any (·.1)=false) jA1):QX X E (.Call (.Name x p) (e::es) [] pos) (.callv T i xs):=
 ⟨PE.imp (zdY W U.p I.p L d) <| by
  rintro σ H Q ⟨G,Z,r,h,hs,l,⟨n,R,g⟩,N,a⟩;obtain⟨v,z,C⟩:=l i _ R;obtain⟨f,rfl,O⟩:=C;obtain⟨j,t,ps,M,F,b,J⟩:=Y n f O;refine⟨f,t,ps,_,j,z,F,S.mono M,b,J,G,Z,_,h,hs,l,g,λs vs m o q u y g3 rds =>?_,a⟩;show spP X.K _ _ _ o Q E;rw[vV];exact⟨m,s,r,h,y,rds,q,N.same u g3,a.same g3⟩⟩
def zfe {x:Str}{n k:Nat}{ps:List Str}{sp:Sp}{p:Pos}(j:z5Q n=x)(b:Gl X x)(C:Cal X.prog X.w X.K X.mg X.base CX k x ps sp)(a:(x == ("__debug__":Str))=false):QX X E (.Name x p) (.c (.fn n)):=by
 obtain⟨f,g,e,d,i,h⟩:=C.ex;exact qx_c (v :=.ref f) ⟨zbC b d rfl a⟩ λ_=>by rw[RD];simp_all
end
def _root_.L2.Inv.spent {X:Cx}{H:Hp}{h:List (Addr × Obj)}{J:L2.St}{s:Shared}{A:Heap}{r a:Addr}{i:Heap->Prop}{o:HO}{t':Nat}(I:Inv X h J (upd H r (.ext i)) s)(R:H r=none)(M:X.s₀.heap.objs.size<=r)(k:∀b u,b≠r->s.heap.get? b=some u->A.get? b=some u)(n:s.heap.get? a=none)
  (new:z1i X.prog X.w (upd H a o) A a o):Inv X h J (upd H a o) { s with heap:=A,toks:=t' }:=by
 have t:upd H r (.ext i) r=some (.ext i):=z06;have back:∀b (u:HO),upd H r (.ext i) b=some u->(∀G,u ≠ .ext G)->H b=some u/\b≠r:=λb u e z=>by
  have f:b≠r:=λy=>by rw[y,t] at e;cases e;exact z i rfl
  rw[z05 f] at e;exact⟨e,f⟩
 have g:=I.hok.none_of n;have C:a≠r:=λy=>by rw[y,t] at g;cases g
 have O:H a=none:=by rw[z05 C] at g;exact g
 have ne:∀b u,s.heap.get? b=some u->b≠a:=λb u e z=>by rw[z,n] at e;cases e
 have F:∀b u,H b=some u->b≠a:=λb u e z=>by rw[z,O] at e;cases e
 have d:∀b,upd H r (.ext i) b=none->b≠r/\H b=none:=λb e=>by
  have f:b≠r:=λy=>by rw[y,t] at e;cases e
  rw[z05 f] at e;exact⟨f,e⟩
 have same:∀b (u:HO),upd H r (.ext i) b=some u->(∀G,u ≠ .ext G)->upd H a o b=some u:=λb u e z=>by
  obtain⟨l,_⟩:=back b u e z;rw[z05 (F b u l)];exact l
 refine I.step (g':=s.gens) (d':=s.drawn) (ch:=[r]) (λb f =>?_) (λb u _ _ j e _=>k b u (λz=>j (by simp[z])) e) (λb u _ _ j e _=>⟨u.slots,k b u (λz=>j (by simp[z])) e⟩) (λb u _ e q=>by rw[z05 (ne b u e)];exact(d b q).2)
  (λb u j e=>⟨u,k b u (λz=>j (by simp[z])) e⟩) (λb S e=>same b _ e λ_=>nofun) (λb u v e=>same b _ e λ_=>nofun) (λb ps e=>⟨#[],by rw[same b _ e λ_=>nofun,Array.append_empty]⟩) (λm N =>?_) (λb u e =>?_) I.bare
 .have e:b=r:=by simpa using f
  subst e;exact⟨.inr M,(λz=>(d _ I.free).1 z.symm),λx c e=>(d c (I.freeC x c e)).1,λp n=>(d _ (I.pin p n).2.1).1⟩
 .obtain⟨u,L,K,Q,q⟩:=N;exact⟨u,L,K,k _ u (d _ I.free).1 Q,q⟩
 by_cases f:b=a
 .subst f;rw[z06] at e;cases e;exact new
 rw[z05 f] at e;have E:b≠r:=λz=>by rw[z,R] at e;cases e
 have l:upd H r (.ext i) b=some u:=by rw[z05 E];exact e
 refine(I.hok b u l).stay (λc v j q=>k c v ?_ q) (λc q=>same c _ q λ_=>nofun) (λc S q=>same c _ q λ_=>nofun) λc _ _ q=>same c _ q λ_=>nofun
 grind
def RevO (r a:Addr)(n:Nat)(h:Heap):Prop:=h.IsRevIter r a ((n:Int) - 1)
section
variable {X:Cx}{E:XK}
def rRev (X:Cx):List V->Hp->VK->Prop:=λvs H Q=>∃a b,vs=[.ref a]/\SqL X.K H a b/\∀r,H r=none->X.s₀.heap.objs.size<=r->Q (.ref r) (upd H r (.ext (RevO r a b.length)))
def zeO:z0C X (.type "reversed") (rRev X):=by
 rintro f s z H w t Q I i ⟨a,y,e,g,q⟩;subst e;obtain⟨u,rfl,j⟩:=z37 i
 cases j
 obtain⟨h,r,pl,p⟩:=I.list g;have d:=r.length;refine call_reversed_list pl.isList ⟨.ref _,_,I.laid (o :=.ext _) (λb o e=>wf _ e) (wq _) ⟨⟨_,wn _ rfl,rfl,by simp[revObj,d]⟩,⟨_,wn _ rfl⟩,λm n x l=>x.at l⟩,rfl,q _ (I.hok.fresh (wq _)) I.sz⟩
def zdv (X:Cx):List V->Hp->VK->Prop:=λvs H Q=>∃r a e b,vs=[.ref r]/\H=upd b r (.ext (RevO r a e.length))/\b r=none/\X.s₀.heap.objs.size<=r/\SqL X.K b a e/\∀d,b d=none->Q (.ref d) (upd b d (.lst e.reverse))
def z8m (hc:X.calm=true):z0C X (.type "list") (zdv X):=by
 rintro a0 s σ H xs us Q I rv ⟨r,a,E,Y,e,eH,R,h0,J,q⟩;subst e;subst eH;have hS:=z1j (z0f R (.ext (RevO r a E.length))) J;obtain⟨u,rfl,rx⟩:=z37 rv
 cases rx
 have hh:X.A.handled=none:=I.ok.hd hc;obtain⟨g,C,pl,hz⟩:=I.list hS;have f:=C.length;have hR:s.heap.IsRevIter r a ((E.length:Int) - 1):=(show z1i X.prog X.w _ s.heap r (.ext (RevO r a E.length)) from I.hok r _ z06).1;have S:a≠r:=by
  obtain⟨o,ho,K,_⟩:=hR;obtain⟨o',p,l,_⟩:=pl.isList;intro z;rw[z,ho] at p;cases p;rw[K] at l
  injection l with h
  exact absurd h (by decide)
 have W:=(Walks.listRev (prog:=X.prog) (w:=X.w) (A:=X.A.in1.in1) (by simp[hh]) r a S g.toArray).toS;have sz:g.toArray.size=E.length:=by simp[f]
 refine callType_codes (Q₁:=λv s1=>v = .ref s.heap.objs.size/\s1={ s with heap:=s.heap.push { cls :=.type "list",data :=.seq #[] } }) F.called_list (F.typeCall_list_1 _) F.entry_list_init (code_list_new _ ⟨rfl,rfl⟩) λv s1 hv =>?_;obtain⟨rfl,rfl⟩:=hv;have Z:(s.heap.push { cls :=.type "list",data :=.seq #[] }).get? s.heap.objs.size=some { cls :=.type "list",data :=.seq #[] }:=wn _ rfl;have m:∀{b:Addr}{o:Obj},s.heap.get? b=some o->b≠s.heap.objs.size:=λe=>wI (wu e);obtain⟨o1,t,L,M⟩:=hR;obtain⟨o2,x,n2⟩:=pl.isList;refine⟨⟨_,Z,rfl⟩,F.args_list_init_2 _ _,Rev.zeq (A:=X.A.in1) W (λi s st=>st.2.1.typeIs) s.heap.objs.size ⟨vn _,⟨o1,wf _ t,L,by rw[M,sz];simp⟩,⟨o2,wf _ x,n2⟩⟩ (by
  simp only[wm,wz,vK,not_or];exact⟨vG (m t),vG (m x)⟩) (by simp) (by rw[sz];exact hz) Z λs' d c mv G it=>⟨rfl,?_⟩⟩
 have keep:∀b o,b≠r->s.heap.get? b=some o->s'.heap.get? b=some o:=λb o hb e=>mv.heap b o (by
  simp only[wm,wz,vK,not_or];exact⟨m e,hb⟩) (wf _ e)
 obtain⟨h',g',d',U,T⟩:=s';have eg:g'=s.gens:=mv.gens;have ed:d'=s.drawn:=mv.drawn;have eo:T=s.os:=mv.os;subst eg;subst ed;subst eo;have n:d.toList=g.reverse:=by
  apply jH;intro k
  by_cases N:k<g.length
  .have j:k<d.size:=by rw[it.1,sz,f];exact N
   have:=it.2 k d[k] (jY d k j);rw[uk,jY d k j,List.getElem?_reverse N, <- this];simp
  .have j:¬ k<d.size:=by rw[it.1,sz,f];exact N
   rw[uk,getElem?_neg d k j,v5 (by simp;lia)]
 have y:s.heap.get? s.heap.objs.size=none:=by
  cases z:s.heap.get? s.heap.objs.size with
  | none=>rfl
  | some o=>exact absurd (wu z) (vB _)
 have O:Y s.heap.objs.size=none:=by
  have:=I.hok.none_of y
  cases z:Y s.heap.objs.size with
  | none=>rfl
  | some o=>rw[z0f R _ _ _ z] at this;cases this
 refine⟨.ref s.heap.objs.size,_,I.spent (o :=.lst E.reverse) (t':=U) R h0 keep y ⟨by simpa using hz,g.reverse,c,C.reverse,?_⟩,rfl,q _ O⟩;rw[<- n];exact G
end
section
variable {X:Cx}{K:W.Frag}{mg:WmP}{E:XK}{G H:Hp}
def zet (d:D)(Q:DK):Prop:=isLs d λl=>Q (.lst l.reverse)
def z1N:Fn:=fn1 zet λd Q a m h=>z88 (λl q=>m _ q) h
def zci {d:D}{P:List D->Prop}(h:isLs d P):∃l,d = .lst l/\P l:=by
 cases d with
 | lst l=>exact⟨l,rfl,h⟩
 | _=>exact h.elim
def z4C {e:Expr}{x:Ex}{W s t Y:Pos}(N:X.calm=true)(O:Gl X "list")(S:X.mg "list"=none)(i:Gl X "reversed")(j:X.mg "reversed"=none)(M:QXA X E [e] [x])
  (p:autoParam (starEach [e] X.env=(false,eval e X.env)::starEach [] X.env) jA1) (f:autoParam (starEach [.Call (.Name "reversed" s) [e] [] t] X.env=(false,eval (.Call (.Name "reversed" s) [e] [] t) X.env)::starEach [] X.env) jA1):QF X E (.Call (.Name "list" W) [.Call (.Name "reversed" s) [e] [] t] [] Y) (.op z1N [x]):=
 QE.imp (z2g (z8m N) O S (by rfl) (z3j (z2g zeO i j (by rfl) M (by decide) (by decide) p (by rfl)) z5y f) (by decide) (by decide) f (by rfl)) <| by
  rintro σ H Q ⟨G,ρ,I,w,hs,J,T,R,U⟩;refine⟨G,ρ,λy=>z1N.run y I w,w,hs,J,T,λy vs C F q K g g3 rds =>?_,U⟩;obtain⟨d,rfl,Z⟩:=z1c q;obtain⟨v,rfl,rd⟩:=rds1 rds;obtain⟨l,rfl,q2⟩:=zci Z;obtain⟨a,u,rfl,A,L⟩:=z1W rd;refine⟨a,u,rfl,z1j g A,λr m n=>⟨r,a,u,F,rfl,rfl,m,n,z1j g A,λd b =>?_⟩⟩;have h:H d=none:=by
   cases z:H d with
   | none=>rfl
   | some o=>rw[g3 d o z] at b;cases b
  exact R (.lst l.reverse) d C _ q2 K (z03 g (z0f b _)) (z03 g3 (z0f b _)) h (z0M g b) ⟨u.reverse,z06,L.rev⟩
open Classical in
def z8w {s:Shared}{a:D}{l:List D}{xs:List V}{b:List Value}{p:List (Addr × Obj)}{σ:L2.St}(I:Inv X p σ H s)(g:Same G H)(hu:X.A.units+64<cLine){v:V}{u:Value}(U:RD X.K X.mg G a v)(W:RelV v u)(q:Da 60 a)(J:∀d∈l,Da 60 d)(rds:RDs X.K X.mg G l xs)(r:Vals xs b):
  ∃e:Value->Bool,(∀y∈b,SeqAt.EqAt X.A.in1 s y u (e y))/\b.any e=l.any (λd=>deq d a)/\∀(i:Nat) (y:Value) (d:D),b[i]? = some y->l[i]? = some d->e y=deq d a:=by
 obtain⟨L,r1⟩:=Rp.reads I (py a) ((Da.rp 60 _ q U).same g) W;have key:∀(d:D) (x:V) (y:Value),Da 60 d->RD X.K X.mg G d x->RelV x y->SeqAt.EqAt X.A.in1 s y u (deq d a):=λd x y f n E=>by
  obtain⟨bs,r2⟩:=Rp.reads I (py d) ((Da.rp 60 _ f n).same g) E;obtain⟨w,M⟩:=Da.canLay 60 d f;obtain⟨N,c4⟩:=Da.canLay 60 a q;exact SeqAt.eqAt_reads (py d) (py a) X.A.in1 s y u bs L r2 r1 w N (by
   have:min (py d).depth (py a).depth<=60:=wM (Nat.min_le_left _ _) M;have:X.A.in1.units<=X.A.units+1:=by simp
   lia)
 let e:Value->Bool:=λy=>if h:∃m bs,Reads s.heap y m bs/\m.canLay0=true then PyData.eqv h.choose (py a) else false
 have F:∀(d:D) (x:V) (y:Value),Da 60 d->RD X.K X.mg G d x->RelV x y->e y=deq d a:=λd x y f n E=>by
  obtain⟨bs,r2⟩:=Rp.reads I (py d) ((Da.rp 60 _ f n).same g) E;have w:=(Da.canLay 60 d f).1;have h:∃m bs,Reads s.heap y m bs/\m.canLay0=true:=⟨_,bs,r2,w⟩
  show (if h:∃m bs,Reads s.heap y m bs/\m.canLay0=true then PyData.eqv h.choose (py a) else false)=deq d a;rw[dif_pos h];obtain⟨cs,Z,z2⟩:=h.choose_spec;rw[(Reads.unique Z _ _ r2).1]
  rfl
 refine⟨e,?_⟩
 clear_value e
 induction l generalizing xs b with
 | nil=>
  rw[RDs] at rds;subst rds
  cases r
  exact⟨λy o=>(by cases o),rfl,λi y d h=>(by simp at h)⟩
 | cons d l T=>
  rw[RDs] at rds;obtain⟨x,Y,rfl,f,n⟩:=rds
  cases r with
  | cons t r=>
   obtain⟨Q,R,S⟩:=T (λd q=>J d (wp _ q)) n r;have j:=J d ww;refine⟨λy o =>?_,by rw[List.any_cons,List.any_cons,F d x _ j f t,R],λi y O z C =>?_⟩
   rotate_left
   .cases i with
    | zero=>
     rw[List.getElem?_cons_zero] at z C
     cases z
     cases C
     exact F d x _ j f t
    | succ i=>exact S i y O (by rwa [uJ] at z) (by rwa [uJ] at C)
   rcases wm.mp o with rfl | o
   .rw[F d x _ j f t];exact key d x _ j f t
   .exact Q y o
def z9o:∀{xs:List V}{ks:List (List Int)}{a:List Value}{i:Nat}{y:Value},Tis K G xs ks->Vals xs a->a[i]? = some y->∃b k,xs[i]? = some (.ref b)/\ks[i]? = some k/\y = .ref b/\SqT K G b (k.map V.int):=by
 intro xs ks a i y h
 induction h generalizing a i with
 | nil=>intro r e;cases r;simp at e
 | cons d _ g=>
  intro r e
  cases r with
  | cons r1 r2=>
   obtain⟨b,rfl,f⟩:=d
   cases i with
   | zero=>simp at e;subst e;cases r1;exact⟨b,_,rfl,rfl,rfl,f⟩
   | succ i=>simpa using g r2 (by simpa using e)
end
end Pu
namespace Pu
open PySem L2
def z04:Fn:=Fn.mkN 2 5 (.seq (.set 2 (.op pAbs [.v 0]))
 (.seq (.set 3 (.op pAbs [.v 1]))
 (.seq (.wh (.op pNe [.v 3,.c (.int 0)]) (.seq (.set 4 (.op pMod [.v 2,.v 3]))
 (.seq (.set 2 (.v 3))
 (.set 3 (.v 4)))))
 (.ret (.v 2)))))
def z1n:Fn:=Fn.mkN 2 2 (.ret (.op pSub [.op z0b [.op pIx [.v 0,.c (.int 0)],.op pIx [.v 1,.c (.int 1)]],.op z0b [.op pIx [.v 0,.c (.int 1)],.op pIx [.v 1,.c (.int 0)]]]))
def z0v:Fn:=Fn.mkN 2 2 (.ret (.op pTup [.op pSub [.op pIx [.v 1,.c (.int 0)],.op pIx [.v 0,.c (.int 0)]],.op pSub [.op pIx [.v 1,.c (.int 1)],.op pIx [.v 0,.c (.int 1)]]]))
def z3p:Fn:=Fn.mkN 3 3 (.ret (.op z1n [.op z0v [.v 0,.v 1],.op z0v [.v 1,.v 2]]))
def z8d:Fn:=Fn.mkN 3 5 (.seq (.set 3 (.op pSub [.op z0b [.op pIx [.v 1,.c (.int 0)],.op pIx [.v 2,.c (.int 2)]],.op z0b [.op pIx [.v 2,.c (.int 0)],.op pIx [.v 1,.c (.int 2)]]]))
 (.seq (.set 4 (.op pSub [.op z0b [.op pIx [.v 1,.c (.int 1)],.op pIx [.v 2,.c (.int 2)]],.op z0b [.op pIx [.v 2,.c (.int 1)],.op pIx [.v 1,.c (.int 2)]]]))
 (.ret (.op pAdd [.op pSub [.op z0b [.op pIx [.v 0,.c (.int 0)],.v 4],.op z0b [.op pIx [.v 0,.c (.int 1)],.v 3]],.op z0b [.op pIx [.v 0,.c (.int 2)],.op pSub [.op z0b [.op pIx [.v 1,.c (.int 0)],.op pIx [.v 2,.c (.int 1)]],.op z0b [.op pIx [.v 1,.c (.int 1)],.op pIx [.v 2,.c (.int 0)]]]]]))))
def z8e:Fn:=Fn.mkN 2 5 (.seq (.set 2 (.op pSub [.op z0b [.op pIx [.v 1,.c (.int 0)],.op pIx [.v 0,.c (.int 2)]],.op z0b [.op pIx [.v 0,.c (.int 0)],.op pIx [.v 1,.c (.int 2)]]]))
 (.seq (.set 3 (.op pSub [.op z0b [.op pIx [.v 1,.c (.int 1)],.op pIx [.v 0,.c (.int 2)]],.op z0b [.op pIx [.v 0,.c (.int 1)],.op pIx [.v 1,.c (.int 2)]]]))
 (.seq (.set 4 (.op z04 [.v 2,.v 3]))
 (.ret (.op pTup [.op z1u [.v 2,.v 4],.op z1u [.v 3,.v 4]])))))
def z98:Nat->Fn
 | 0=>z3p
 | 1=>z8d
 | 2=>z0v
 | 3=>z8e
 | _=>⟨λ_ _ _=>False,λ_ _ _ _ _ _ _ z=>z⟩
def z2O:Fn:=Fn.mkN 2 4 (.seq (.own 2 (.op pLst []))
 (.seq (.for_ [] (.nm 3) (.v 0) (.seq (.wh (.and (.op pGt [.op pLen [.v 2],.c (.int 1)]) (.op pLe [.callv z98 1 [.op pIx [.v 2,.op pNeg [.c (.int 2)]],.op pIx [.v 2,.op pNeg [.c (.int 1)]],.v 3],.c (.int 0)])) (.pop 2))
 (.app 2 (.v 3))))
 (.ret (.v 2))))
def z2b:Fn:=Fn.mkN 2 4 (.seq (.ifs (.op pLt [.op pLen [.v 0],.c (.int 2)]) (.ret (.op z1Y [.v 0])) .skip)
 (.seq (.set 2 (.op z2O [.v 0,.v 1]))
 (.seq (.set 3 (.op z2O [.op z1N [.v 0],.v 1]))
 (.ret (.op z1Y [.op pAdd [.sl (.v 2) none (some (.op pNeg [.c (.int 1)])),.sl (.v 3) none (some (.op pNeg [.c (.int 1)]))]])))))
def z07:Fn:=Fn.mkN 1 1 (.ret (.op z2b [.op z6Q [.v 0],.c (.fn 0)]))
def z14:Fn:=Fn.mkN 2 2 (.ret (.op pAdd [.op z0b [.op pIx [.v 0,.c (.int 0)],.op pIx [.v 1,.c (.int 0)]],.op z0b [.op pIx [.v 0,.c (.int 1)],.op pIx [.v 1,.c (.int 1)]]]))
def z3N:Fn:=Fn.mkN 2 2 (.ret (.op ze0 [.comp 1 [1] (.nm 0) (.v 0) none (.op z14 [.v 0,.v 1])]))
def z0g:Fn:=Fn.mkN 2 2 (.seq (.ifs (.op pLt [.v 1,.op pLen [.v 0]]) (.ret (.op pIx [.v 0,.v 1])) .skip)
 (.ret (.c (.int 0))))
def z0L:Fn:=Fn.mkN 2 2 (.ret (.op pTup [.op pAdd [.op pIx [.v 0,.c (.int 0)],.op pIx [.v 1,.c (.int 0)]],.op pAdd [.op pIx [.v 0,.c (.int 1)],.op pIx [.v 1,.c (.int 1)]]]))
def z3O:Fn:=Fn.mkN 1 1 (.ret (.op z07 [.comp 1 [0] (.nm 0) (.op pIx [.v 0,.c (.int 0)]) none (.op z0L [.v 0,.op pIx [.v 1,.c (.int 1)]])]))
open PySem.Spec PyProof.Rows
def Sm.never:Sm:=⟨λ_ _ _ _=>False,λ_ _ _ _ _ _ _ _ _ _ q=>q⟩
def zdy {X:Cx}{E:XK}{st:Stmt}:QZ X E st .never:=QS.imp zdG <| by rintro _ _ _ ⟨_,_,_,_,_,_,_,_,a,_⟩;exact a
section
variable {P:Program}{w:World}{K:W.Frag}{mg:WmP}{base:Heap}{f:Addr}{qual:Str}{N:List Str}
def fnM {x:Str}{st:Stmt}{e:FuncData}{ps:List Str}{k i h:Nat}{b:Sm}(F:Fun K x qual st f e)(S:z4R N ps (z09 st))
  (l:∀(d:Value) (A:Around) (a:List PySem.Env) (s:Shared) (H:Hp) (E:XK),Room k (A.deeper (envOfC qual (z09 st) s.heap.objs.size f d))->(A.deeper (envOfC qual (z09 st) s.heap.objs.size f d)).units+64<cLine->QZs ((cxOf (CXe P w) P w K mg base N qual (z09 st) f d A a s H E).wish λ_ _=>False) E0 (z1F st) b) (m:autoParam (ps.length=i) jA1) (j:autoParam (N.length=h) jA1):
  FnOk P w K mg base (CXe P w) (k+1) f e ps (spP K mg (Fn.mkN i h b)):=fnN F S m j λd A a s H E g=>l d A a s H E g g.units
end
def z4M:Fn:=Fn.mkN 2 7 (.seq (.set 2 (.op z04 [.op pIx [.v 0,.c (.int 1)],.op pIx [.v 1,.c (.int 1)]]))
 (.seq (.set 3 (.op z1u [.op pIx [.v 1,.c (.int 1)],.v 2]))
 (.seq (.set 4 (.op z1u [.op pIx [.v 0,.c (.int 1)],.v 2]))
 (.seq (.set 5 (.op pAdd [.op z0b [.op pIx [.v 0,.c (.int 0)],.v 3],.op z0b [.op pIx [.v 1,.c (.int 0)],.v 4]]))
 (.seq (.set 6 (.op z04 [.v 2,.v 5]))
 (.ret (.op pTup [.op z1u [.v 5,.v 6],.op z0b [.v 4,.op z1u [.op pIx [.v 1,.c (.int 1)],.v 6]]])))))))
def z2x:Fn:=Fn.mkN 1 4 (.seq (.set 1 (.op pTup [.c (.int 0),.c (.int 1)]))
 (.seq (.for_ [] (.tp [2,3]) (.v 0) (.set 1 (.op z4M [.v 1,.v 3])))
 (.ret (.v 1))))
def z3M:Fn:=Fn.mkN 1 1 (.ret (.and (.op pGt [.op pIx [.v 0,.c (.int 0)],.c (.int 0)]) (.and (.op pGt [.op pIx [.v 0,.c (.int 1)],.c (.int 0)]) (.op pEq [.op z04 [.op pIx [.v 0,.c (.int 0)],.op pIx [.v 0,.c (.int 1)]],.c (.int 1)]))))
def z1w:Fn:=Fn.mkN 2 5 (.seq (.set 2 (.op pNeg [.c (.int 1)]))
 (.seq (.for_ [] (.tp [3,4]) (.v 1) (.seq (.ifs (.or (.op pLe [.v 3,.v 2]) (.or (.op pGeI [.v 3,.op pLen [.v 0]]) (.not (.op z3M [.v 4])))) (.ret (.c (.bl false))) .skip)
 (.set 2 (.v 3))))
 (.ret (.c (.bl true)))))
def z0W:Fn:=Fn.mkN 2 8 (.seq (.set 2 (.op z04 [.op pIx [.v 0,.c (.int 2)],.op pIx [.v 1,.c (.int 2)]]))
 (.seq (.set 3 (.op z1u [.op pIx [.v 1,.c (.int 2)],.v 2]))
 (.seq (.set 4 (.op z1u [.op pIx [.v 0,.c (.int 2)],.v 2]))
 (.seq (.set 5 (.op pAdd [.op z0b [.op pIx [.v 0,.c (.int 0)],.v 3],.op z0b [.op pIx [.v 1,.c (.int 0)],.v 4]]))
 (.seq (.set 6 (.op pAdd [.op z0b [.op pIx [.v 0,.c (.int 1)],.v 3],.op z0b [.op pIx [.v 1,.c (.int 1)],.v 4]]))
 (.seq (.set 7 (.op z04 [.op z04 [.v 2,.v 5],.v 6]))
 (.ret (.op pTup [.op z1u [.v 5,.v 7],.op z1u [.v 6,.v 7],.op z0b [.v 4,.op z1u [.op pIx [.v 1,.c (.int 2)],.v 7]]]))))))))
def z1S:Fn:=Fn.mkN 3 4 (.seq (.set 3 (.op z04 [.op z04 [.v 2,.v 0],.v 1]))
 (.ret (.op pTup [.op z1u [.v 0,.v 3],.op z1u [.v 1,.v 3],.op z1u [.v 2,.v 3]])))
def z2a:Fn:=Fn.mkN 2 2 (.ret (.op z1S [.op z0b [.op pIx [.v 0,.c (.int 0)],.op pIx [.v 1,.c (.int 0)]],.op z0b [.op pIx [.v 0,.c (.int 1)],.op pIx [.v 1,.c (.int 0)]],.op z0b [.op pIx [.v 0,.c (.int 2)],.op pIx [.v 1,.c (.int 1)]]]))
def z2y:Fn:=Fn.mkN 2 6 (.seq (.ifs (.not (.op z1w [.v 0,.v 1])) .never .skip)
 (.seq (.set 2 (.op pTup [.c (.int 0),.c (.int 0),.c (.int 1)]))
 (.seq (.for_ [] (.tp [3,4]) (.v 1) (.seq (.set 5 (.op pIx [.v 0,.v 3]))
 (.set 2 (.op z0W [.v 2,.op z2a [.op pTup [.op pIx [.v 5,.c (.int 0)],.op pIx [.v 5,.c (.int 1)],.c (.int 1)],.v 4]]))))
 (.ret (.v 2)))))
def z0d:Fn:=Fn.mkN 2 3 (.seq (.set 2 (.op pAdd [.op z0b [.c (.int 2),.v 1],.c (.int 1)]))
 (.ret (.op pTup [.op pSub [.op pMod [.v 0,.v 2],.v 1],.op pSub [.op pMod [.op z1u [.v 0,.v 2],.v 2],.v 1]])))
def z0q:Fn:=Fn.mkN 1 7 (.seq (.set 1 (.op pIx [.op pLst [.c (.int 3),.c (.int 12),.op pPow [.c (.int 10),.c (.int 9)]],.op pMod [.op z1u [.op pIx [.v 0,.c (.int 0)],.c (.int 2)],.c (.int 3)]]))
 (.seq (.own 2 (.op pLst []))
 (.seq (.set 3 (.c (.int 1)))
 (.seq (.wh (.and (.op pLt [.v 3,.op zas [.op pLen [.v 0],.c (.int 61)]]) (.op pLt [.op pLen [.v 2],.c (.int 12)])) (.seq (.set 4 (.op pAdd [.c (.int 1),.op pMod [.op pIx [.v 0,.v 3],.c (.int 12)]]))
 (.seq (.set 5 (.op z1u [.op pIx [.v 0,.v 3],.c (.int 12)]))
 (.seq (.own 6 (.op pLst [.op z0d [.v 5,.v 1]]))
 (.seq (.ext 6 (.comp 1 [1] (.nm 0) (.sl (.v 0) (some (.op pAdd [.v 3,.c (.int 1)])) (some (.op zas [.op pAdd [.v 3,.v 4],.c (.int 61)]))) none (.op z0d [.v 0,.v 1])))
 (.seq (.app 2 (.op pTup [.op z1Y [.v 6],.op z0d [.op z1u [.v 5,.op pPow [.op pAdd [.op z0b [.c (.int 2),.v 1],.c (.int 1)],.c (.int 2)]],.v 1]]))
 (.set 3 (.op pAdd [.v 3,.v 4]))))))))
 (.ret (.op z1Y [.v 2]))))))
def z00:Fn:=Fn.mkN 3 5 (.seq (.set 3 (.c (.int 170141183460469231731687303715884105727)))
 (.seq (.set 4 (.op pMod [.op z0b [.op pAdd [.op pMod [.v 0,.v 3],.op z0b [.op pAdd [.v 1,.c (.int 3)],.c (.int 1000000007)]],.c (.int 105172331949523456789012345678901234567)],.v 3]))
 (.seq (.set 4 (.op pMod [.op z0b [.v 4,.v 4],.v 3]))
 (.ret (.op pMod [.op z1u [.op pMod [.op z0b [.op pAdd [.v 4,.v 1],.c (.int 83492791123456789012345678901234567891)],.v 3],.c (.int 7)],.v 2])))))
def z0J:Fn:=Fn.mkN 3 4 (.seq (.ifs (.op z9z [.v 2,.c .non]) (.seq (.set 3 (.op pSub [.op z00 [.v 0,.c (.int 2),.c (.int 7)],.c (.int 3)]))
 (.ret (.op pTup [.op z0b [.op pIx [.v 2,.c (.int 0)],.v 3],.op z0b [.op pIx [.v 2,.c (.int 1)],.v 3]]))) .skip)
 (.ret (.op pTup [.op pSub [.op z00 [.v 0,.c (.int 2),.op pAdd [.op z0b [.c (.int 2),.v 1],.c (.int 1)]],.v 1],.op pSub [.op z00 [.v 0,.c (.int 3),.op pAdd [.op z0b [.c (.int 2),.v 1],.c (.int 1)]],.v 1]])))
def z0Y:Fn:=Fn.mkN 1 10 (.seq (.set 1 (.op z0g [.v 0,.c (.int 0)]))
 (.seq (.ifs (.op pEq [.op pMod [.v 1,.c (.int 2)],.c (.int 1)]) (.ret (.op z0q [.v 0])) .skip)
 (.seq (.set 2 (.op pIx [.op pLst [.c (.int 3),.c (.int 3),.c (.int 12),.op pPow [.c (.int 10),.c (.int 9)]],.op z00 [.v 1,.c (.int 1),.c (.int 4)]]))
 (.seq (.set 3 (.c .non))
 (.seq (.ifs (.op pEq [.op z00 [.v 1,.c (.int 4),.c (.int 5)],.c (.int 0)]) (.set 3 (.op pTup [.op pSub [.op z00 [.v 1,.c (.int 5),.c (.int 7)],.c (.int 3)],.op pSub [.op z00 [.v 1,.c (.int 6),.c (.int 7)],.c (.int 3)]])) .skip)
 (.seq (.set 4 (.op pIx [.op pLst [.c (.int 3),.c (.int 3),.c (.int 5),.c (.int 12)],.op z00 [.v 1,.c (.int 8),.c (.int 4)]]))
 (.seq (.own 5 (.op pLst []))
 (.seq (.set 6 (.c (.int 1)))
 (.seq (.wh (.and (.op pLt [.v 6,.op zas [.op pLen [.v 0],.c (.int 61)]]) (.op pLt [.op pLen [.v 5],.c (.int 12)])) (.seq (.set 7 (.op pAdd [.c (.int 1),.op z00 [.op pIx [.v 0,.v 6],.c (.int 7),.v 4]]))
 (.seq (.own 8 (.comp 1 [2,3] (.nm 0) (.sl (.v 0) (some (.v 6)) (some (.op zas [.op pAdd [.v 6,.v 7],.c (.int 61)]))) none (.op z0J [.v 0,.v 1,.v 2])))
 (.seq (.set 9 (.op pTup [.c (.int 0),.c (.int 0)]))
 (.seq (.ifs (.op pEq [.op z00 [.op pIx [.v 0,.v 6],.c (.int 9),.c (.int 2)],.c (.int 1)]) (.set 9 (.op z0J [.op pAdd [.op pIx [.v 0,.v 6],.c (.int 1)],.v 2,.v 3])) .skip)
 (.seq (.app 5 (.op pTup [.op z1Y [.v 8],.v 9]))
 (.set 6 (.op pAdd [.v 6,.v 7]))))))))
 (.ret (.op z1Y [.v 5])))))))))))
def z2c:Fn:=Fn.mkN 2 2 (.ret (.op pSum [.comp 2 [1] (.tp [0,1]) (.v 0) none (.op pAdd [.op z3N [.v 0,.v 2],.op z14 [.v 1,.v 2]])]))
def z0o:Fn:=Fn.mkN 2 2 (.ret (.op pAdd [.op z0b [.op pIx [.v 0,.c (.int 0)],.op pIx [.v 1,.c (.int 0)]],.op z0b [.op pIx [.v 0,.c (.int 1)],.op pIx [.v 1,.c (.int 1)]]]))
def z1D:Fn:=Fn.mkN 2 5 (.seq (.set 2 (.c (.int 0)))
 (.seq (.for_ [] (.tp [3,4]) (.v 0) (.set 2 (.op pAdd [.op pAdd [.v 2,.op ze0 [.comp 1 [1] (.nm 0) (.v 3) none (.op z0o [.v 1,.v 0])]],.op z0o [.v 1,.v 4]])))
 (.ret (.v 2))))
end Pu
namespace Zp
open PySem PySem.Spec PyProof.Rows L2
section
variable {prog:Program}{w:World}{A:Around}{E:WvP}{s:Shared}
def nx {j t:Addr}{n:Nat}{xs:Array Value}{x:Value}{Q:WvP}(it:s.heap.IsTupleIter j t n)(i:s.heap.IsTuple t xs)(e:xs[n]? = some x)
  (q:∀d,d.IsTupleIter j t (n+1)->Heap.SameBut j s.heap d->Q x { s with heap:=d }):wpAny (model prog w) A (Builtin.SmallTypes.nextOf (.ref j)) Q E s:=by
 obtain⟨m,g,f,a⟩:=id it;obtain⟨o,h,_,l,b⟩:=i;refine wc (vm it.typeIs uP (vA uP it.typeIs F.entry_tuple_iterator_next ?_ (F.args_tuple_iterator_next_1 _)));show wpAny _ _ (PySem.field _ 0 >>= _) _ _ s;refine wc (vH g a rfl ?_);refine wc (vH g a rfl ?_);refine wc (v3 h b ?_);simp[Int.toNat_natCast,e];refine wc (u3 g a (by simp) (wg ⟨x,rfl,wg (q _ ⟨_,wW _ g (uW (vF a _)),(Obj.cls_mapFields ..).trans f,by rw[vF a];rfl⟩ (uh ..))⟩))
def nxE {j t:Addr}{n:Nat}{xs:Array Value}{Q:WvP}(h:A.handled=none)(it:s.heap.IsTupleIter j t n)(l:s.heap.IsTuple t xs)(e:xs[n]? = none)
  (q:∀f z,Heap.ExtBut j s.heap f->(∃o,f.get? z=some o/\o.cls = .type "StopIteration")->E (.ref z) { s with heap:=f }):wpAny (model prog w) A (Builtin.SmallTypes.nextOf (.ref j)) Q E s:=by
 obtain⟨u,g,p,b⟩:=id it;obtain⟨y,i,_,r,d⟩:=l
 delta Builtin.SmallTypes.nextOf
 refine wc (vm (name:=Str.ofString "__next__") it.typeIs uP (vA uP it.typeIs F.entry_tuple_iterator_next ?_ (F.args_tuple_iterator_next_1 _)));show wpAny _ _ (PySem.field (.ref j) 0 >>= _) _ _ s;refine wc (vH g b (x :=.ref t) rfl ?_);rw[if_neg (show ¬ (Value.ref t == Value.none)=true from wX)];refine wc (vH g b (x :=.int n 0) rfl ?_);show wpAny _ _ (seqItems? (.ref t) >>= λ_=>_) _ _ s;refine wc (v3 i d ?_);simp only[Int.toNat_natCast,e];refine wc (jX (wc (u3 g b (by simp) (show wpAny _ _ (newExc (.type "StopIteration") [] >>= λ_=>_) _ _ _ from wc ?_))));simp only[newExc,newTuple];refine wc (wP (wc (m:=firstArgMember _ _) (ui (a:=Value.none) (by first | rfl | (simp only[firstArgMember];rfl)) (wP ?_ (by size_fits)))) (by size_fits));simp only[raiseNew];refine wc (wpAny_handled ?_)
 first | rw[show A.in1.handled=none from h] | rw[h]
 exact wc (wg (wpAny_throw (q _ _ (((uh ..).extBut.push _).push _) ⟨_,wn _ rfl,rfl⟩)))
structure St (h:Heap)(z TI TO i1 i2 t1 t2:Addr)(f:Value)(n:Nat):Prop where
 z:IsZip h z TI TO f
 ti:IsPair h TI (.ref i1) (.ref i2)
 to:∃a b,IsPair h TO a b
 a:h.IsTupleIter i1 t1 n
 b:h.IsTupleIter i2 t2 n
def tat {h a:Heap}{t:Addr}{xs:Array Value}(x:h.IsTuple t xs)(k:∀o,h.get? t=some o->a.get? t=some o):a.IsTuple t xs:=by
 obtain⟨o,e,r⟩:=x;exact⟨o,k o e,r⟩
variable {z TI TO i1 i2 t1 t2:Addr}{n:Nat}{xs ys:Array Value}{x y:Value}
def item {Q:Option Value->Shared->Prop}(D:ZipApart z TI TO i1 i2 t1 t2)(S:St s.heap z TI TO i1 i2 t1 t2 .none n)(hx:s.heap.IsTuple t1 xs)(hy:s.heap.IsTuple t2 ys)(ex:xs[n]? = some x)(ey:ys[n]? = some y)
  (q:∀i,St i z TI TO i1 i2 t1 t2 (rawInt s.heap.objs.size) (n+1)->IsPair i s.heap.objs.size x y->i.objs.size=s.heap.objs.size+1->(∀c o,c≠z->c≠TO->c≠i1->c≠i2->s.heap.get? c=some o->i.get? c=some o)->Q (some (.ref s.heap.objs.size)) { s with heap:=i }):
  wpAny (model prog w) A (pyNext (.ref z)) Q E s:=by
 obtain⟨sz,m,⟨pa,pb,M⟩,sa,sb⟩:=S;have ty:s.TypeIs (.ref z) "zip":=⟨_,sz,rfl⟩
 delta pyNext
 refine wc (jn (vm (name:=Str.ofString "__next__") ty F.slot_zip_next (vA F.slot_zip_next ty F.entry_zip_next ?_ (F.args_zip_next_1 _))));show wpAny _ _ (PySem.field (.ref z) 2 >>= λ_=>_) _ _ _;refine wc (vH sz rfl (x :=.bool false) rfl (show wpAny _ _ (PySem.field (.ref z) 3 >>= λ_=>_) _ _ _ from wc (vH sz rfl (x :=.ref TI) rfl (wc (v3 m rfl ?_)))));show wpAny _ _ (Builtin.SmallTypes.ownedTupleIsFree (.ref z) >>= λ_=>_) _ _ _;refine wc ?_
 delta Builtin.SmallTypes.ownedTupleIsFree
 refine wc (vH sz rfl (x:=Value.none) rfl (wg ?_));simp only[jS];refine wc (jX (wc (vH sz rfl (x:=Value.ref TO) rfl (wc (uX sz (by simp) λg1 N d =>?_)))))
 replace N:IsZip g1 z TI TO .ellipsis:=N
 refine wc ?_;simp only[List.zipIdx_cons,List.zipIdx_nil,List.forIn_cons,List.forIn_nil];refine wc (wc (wpAny_onRaise (show wpAny _ _ (Builtin.SmallTypes.nextOf (.ref i1) >>= λ_=>_) _ _ _ from wc (nx (sa.extBut d.extBut D.i1z) (tat hx λo e=>d.extBut _ _ D.l1z e) ex λg2 Z f=>wg ?_))));have T:IsPair g2 TO pa pb:=f.extBut _ _ D.TOi1 (d.extBut _ _ D.TOz M);refine wc (v3 T rfl (wc (wpAny_updateSeq_pair T λg3 L g =>?_)))
 replace L:IsPair g3 TO x pb:=L
 refine wc (jT (wg ?_));refine wc (wc (wpAny_onRaise (show wpAny _ _ (Builtin.SmallTypes.nextOf (.ref i2) >>= λ_=>_) _ _ _ from wc (nx (((sb.extBut d.extBut D.i2z).extBut f.extBut D.i12.symm).extBut g.extBut D.TOi2.symm)
  (tat hy λo e=>g.extBut _ _ D.l2TO (f.extBut _ _ D.l2i1 (d.extBut _ _ D.l2z e))) ey λg4 b4 j=>wg ?_))))
 have U:IsPair g4 TO x pb:=j.extBut _ _ D.TOi2 L;refine wc (v3 U rfl (wc (wpAny_updateSeq_pair U λa C l =>?_)))
 replace C:IsPair a TO x y:=C
 refine wc (jT (wg (wg (wc (v3 C rfl (wc (wpAny_newTuple ?_)))))));have p:a.objs.size=s.heap.objs.size:=by rw[l.1,j.1,g.1,f.1,d.1]
 have Y:IsZip a z TI TO .ellipsis:=l.extBut _ _ D.TOz.symm (j.extBut _ _ D.i2z.symm (g.extBut _ _ D.TOz.symm (f.extBut _ _ D.i1z.symm N)));have R:∀c o,c≠z->c≠TO->c≠i1->c≠i2->s.heap.get? c=some o->a.get? c=some o:=λc o b u H I e=>l.extBut _ _ u (j.extBut _ _ I (g.extBut _ _ u (f.extBut _ _ H (d.extBut _ _ b e))));have a5:a.IsTupleIter i1 t1 (n+1):=((Z.extBut g.extBut D.TOi1.symm).extBut j.extBut D.i12).extBut l.extBut D.TOi1.symm;have b5:a.IsTupleIter i2 t2 (n+1):=b4.extBut l.extBut D.TOi2.symm;have t:z<a.objs.size:=wu Y;show wpAny _ _ (Builtin.SmallTypes.ownedTupleHandOut (.ref z) (.ref a.objs.size) >>= λ_=>_) _ _ _;refine wc ?_
 delta Builtin.SmallTypes.ownedTupleHandOut
 have z6:IsZip (a.push { cls :=.type "tuple",data :=.seq #[x,y] }) z TI TO .ellipsis:=wf _ Y;refine wc (uX z6 (by simp) λg7 O J =>?_)
 replace O:IsZip g7 z TI TO (rawInt a.objs.size):=O
 refine uX O (by simp) λh G K =>?_
 replace G:IsZip h z TI TO (rawInt a.objs.size):=G
 have r:∀c o,c≠z->a.get? c=some o->h.get? c=some o:=λc o b e=>K.extBut _ _ b (J.extBut _ _ b (wf _ e));have X:IsPair h a.objs.size x y:=K.extBut _ _ (jw t) (J.extBut _ _ (jw t) (wn _ rfl));have W:h.objs.size=a.objs.size+1:=by rw[K.1,J.1,vY]
 rw[p] at G X W;refine wg ⟨_,rfl,wg ?_⟩;show Q (some (.ref a.objs.size)) _;rw[p];exact q h ⟨G,r _ _ D.TIz (R _ _ D.TIz D.TITO D.TIi1 D.TIi2 m),⟨_,_,r _ _ D.TOz C⟩,a5.at λo e=>r _ o D.i1z e,b5.at λo e=>r _ o D.i2z e⟩ X W λc o b u H I e=>r c o b (R c o b u H I e)
def fin {Q:Option Value->Shared->Prop}(C:A.handled=none)(D:ZipApart z TI TO i1 i2 t1 t2)(S:St s.heap z TI TO i1 i2 t1 t2 .none n)(G:s.heap.IsTuple t1 xs)(hy:s.heap.IsTuple t2 ys)(e:xs[n]? = none\/ys[n]? = none)
  (q:∀h,(∀c o,c≠z->c≠TO->c≠i1->c≠i2->s.heap.get? c=some o->h.get? c=some o)->Q none { s with heap:=h }):wpAny (model prog w) A (pyNext (.ref z)) Q E s:=by
 obtain⟨sz,u,⟨pa,pb,y⟩,K,sb⟩:=S;have ty:s.TypeIs (.ref z) "zip":=⟨_,sz,rfl⟩
 have stop:∀h v,(∀c o,c≠z->c≠TO->c≠i1->c≠i2->s.heap.get? c=some o->h.get? c=some o)->(∃o,h.get? v=some o/\o.cls = .type "StopIteration")->wpAny (model prog w) A (isInstance (.ref v) (.type "StopIteration") >>= λb=>if b=true then pure none else throw (Value.ref v)) Q E { s with heap:=h }:=λh v kk ⟨o,Z,Y⟩=>
  wc (uR (T:="StopIteration") (b:=true) ⟨o,Z,Y⟩ isSubtype_stop (wg (q _ kk)))
 delta pyNext
 refine wc (jn (vm (name:=Str.ofString "__next__") ty F.slot_zip_next (vA F.slot_zip_next ty F.entry_zip_next ?_ (F.args_zip_next_1 _))));show wpAny _ _ (PySem.field (.ref z) 2 >>= λ_=>_) _ _ _;refine wc (vH sz rfl (x :=.bool false) rfl (show wpAny _ _ (PySem.field (.ref z) 3 >>= λ_=>_) _ _ _ from wc (vH sz rfl (x :=.ref TI) rfl (wc (v3 u rfl ?_)))));show wpAny _ _ (Builtin.SmallTypes.ownedTupleIsFree (.ref z) >>= λ_=>_) _ _ _;refine wc ?_
 delta Builtin.SmallTypes.ownedTupleIsFree
 refine wc (vH sz rfl (x:=Value.none) rfl (wg ?_));simp only[jS];refine wc (jX (wc (vH sz rfl (x:=Value.ref TO) rfl (wc (uX sz (by simp) λU l f =>?_)))))
 replace l:IsZip U z TI TO .ellipsis:=l
 refine wc ?_;simp only[List.zipIdx_cons,List.zipIdx_nil,List.forIn_cons,List.forIn_nil];refine wc (wc (wpAny_onRaise (show wpAny _ _ (Builtin.SmallTypes.nextOf (.ref i1) >>= λ_=>_) _ _ _ from wc ?_)))
 cases ex:xs[n]? with
 | none=>
  refine nxE C (K.extBut f.extBut D.i1z) (tat G λo e=>f.extBut _ _ D.l1z e) ex λp v g r =>?_;obtain⟨t,a,d⟩:=r;have L:IsZip p z TI TO .ellipsis:=g _ _ D.i1z.symm l;have ne:v≠z:=λw=>by subst w;rw[L] at a;cases a;simp at d
  exact uX L (by simp) λg3 _ i=>stop g3 v (λc o j _ m _ w=>i.extBut _ _ j (g _ _ m (f.extBut _ _ j w))) ⟨t,i.extBut _ _ ne a,d⟩
 | some x=>
  have R:ys[n]? = none:=e.resolve_left (by rw[ex];exact λw=>nomatch w);refine nx (K.extBut f.extBut D.i1z) (tat G λo e=>f.extBut _ _ D.l1z e) ex λp a2 g=>wg ?_;have J:IsPair p TO pa pb:=g.extBut _ _ D.TOi1 (f.extBut _ _ D.TOz y);refine wc (v3 J rfl (wc (wpAny_updateSeq_pair J λg3 o3 i =>?_)));refine wc (jT (wg ?_));refine wc (wc (wpAny_onRaise (show wpAny _ _ (Builtin.SmallTypes.nextOf (.ref i2) >>= λ_=>_) _ _ _ from wc (nxE C (((sb.extBut f.extBut D.i2z).extBut g.extBut D.i12.symm).extBut i.extBut D.TOi2.symm)
   (tat hy λo e=>i.extBut _ _ D.l2TO (g.extBut _ _ D.l2i1 (f.extBut _ _ D.l2z e))) R λW v H r =>?_))))
  obtain⟨t,a,d⟩:=r;have M:IsZip W z TI TO .ellipsis:=H _ _ D.i2z.symm (i.extBut _ _ D.TOz.symm (g.extBut _ _ D.i1z.symm l));have ne:v≠z:=λw=>by subst w;rw[M] at a;cases a;simp at d
  exact uX M (by simp) λX _ I=>stop X v (λc o j N m O w=>I.extBut _ _ j (H _ _ O (i.extBut _ _ N (g.extBut _ _ m (f.extBut _ _ j w))))) ⟨t,I.extBut _ _ ne a,d⟩
end
abbrev mk1 (h:Heap)(t:Addr):Heap:=h.push { cls :=.type "tuple_iterator",data :=.fields #[.ref t,.int 0 0] }
abbrev mk3 (h:Heap)(t1 t2:Addr):Heap:=((mk1 (mk1 h t1) t2).push { cls :=.type "tuple",data :=.seq #[.ref h.objs.size,.ref (mk1 h t1).objs.size] }).push { cls :=.type "tuple",data :=.seq #[.none,.none] }
abbrev mk5 (h:Heap)(t1 t2:Addr):Heap:=(mk3 h t1 t2).push { cls :=.type "zip",data :=.fields #[.none,.bool false,.bool false,.ref (mk1 (mk1 h t1) t2).objs.size,.ref ((mk1 (mk1 h t1) t2).push { cls :=.type "tuple",data :=.seq #[.ref h.objs.size,.ref (mk1 h t1).objs.size] }).objs.size] }
def newZ (a b:Addr)(xs ys:Array Value):Meets (Builtin.«zip.__new__» ⟨[.type "zip",.ref a,.ref b],[]⟩) (λ_ R s=>s.heap.IsTuple a xs/\s.heap.IsTuple b ys/\R (.ok (.ret (.ref (mk3 s.heap a b).objs.size))) { s with heap:=mk5 s.heap a b }):=
 .of_wp λi w A R s h=>by
  obtain⟨e,g,d,j,f⟩:=s;obtain⟨l,m,h⟩:=h;have sub:=sub_zip;have n:Heap.IsTuple (Shared.heap ⟨e,g,d,j,f⟩) a xs:=l;have o:Heap.IsTuple (Shared.heap ⟨mk1 e a,g,d,j,f⟩) b ys:=Heap.IsTuple.push m _
  wp_walk using uU n,uU o
  exact⟨_,rfl,h⟩
section
variable {prog:Program}{w:World}{A:Around}{E:WvP}{s:Shared}{t1 t2:Addr}{xs ys:Array Value}
def zmD {Q:WvP}(t:s.heap.IsTuple t1 xs)(u:s.heap.IsTuple t2 ys)
  (q:∀d,St d (s.heap.objs.size+4) (s.heap.objs.size+2) (s.heap.objs.size+3) s.heap.objs.size (s.heap.objs.size+1) t1 t2 .none 0->(∀c o,s.heap.get? c=some o->d.get? c=some o)->Q (.ref (s.heap.objs.size+4)) { s with heap:=d }):
  wpAny (model prog w) A (call (.type "zip") [.ref t1,.ref t2]) Q E s:=by
 refine callType_new F.called_zip (by decide) (F.typeCall_zip_2 _ _) (F.newCall_zip_2 _ _) (λj=>F.args_object_init_3 j _ _) F.entry_zip_new (newZ t1 t2 xs ys) ⟨t,u,?_⟩;have f:(mk1 s.heap t1).objs.size=s.heap.objs.size+1:=vY ..;have g:(mk1 (mk1 s.heap t1) t2).objs.size=s.heap.objs.size+2:=by rw[vY,f]
 have i:((mk1 (mk1 s.heap t1) t2).push { cls :=.type "tuple",data :=.seq #[.ref s.heap.objs.size,.ref (mk1 s.heap t1).objs.size] }).objs.size=s.heap.objs.size+3:=by rw[vY,g]
 have p:(mk3 s.heap t1 t2).objs.size=s.heap.objs.size+4:=by rw[vY,i]
 have a:∀{h:Heap}{c:Addr}{o x:Obj},h.get? c=some o->(h.push x).get? c=some o:=λe=>wf _ e;have b:(mk5 s.heap t1 t2).get? (mk3 s.heap t1 t2).objs.size=some _:=wn _ rfl;have n:(mk5 s.heap t1 t2).get? ((mk1 (mk1 s.heap t1) t2).push { cls :=.type "tuple",data :=.seq #[.ref s.heap.objs.size,.ref (mk1 s.heap t1).objs.size] }).objs.size=some _:=a (wn _ rfl);have m:(mk5 s.heap t1 t2).get? (mk1 (mk1 s.heap t1) t2).objs.size=some _:=a (a (wn _ rfl));have l:(mk5 s.heap t1 t2).get? (mk1 s.heap t1).objs.size=some _:=a (a (a (wn _ rfl)));have r:(mk5 s.heap t1 t2).get? s.heap.objs.size=some _:=a (a (a (a (wn _ rfl))));show _/\_;rw[p,g,i] at b;rw[i] at n;rw[f,g] at m;rw[f] at l;rw[p];exact⟨⟨_,b,rfl⟩,q _ ⟨b,m,⟨_,_,n⟩,⟨_,r,rfl,rfl⟩,⟨_,l,rfl,rfl⟩⟩ λc o e=>a (a (a (a (a e))))⟩
end
end Zp
namespace L2
open PySem PySem.Spec PyProof.Rows
section
variable {X:Cx}{pins:List (Addr × Obj)}{σ:List (Option V)}{H H':Hp}{s:Shared}{h':Heap}
def Inv.turnedL {t':Nat}{fp:List Addr}(I:Inv X pins σ H s)(k:∀b o,b ∉ fp->s.heap.get? b=some o->h'.get? b=some o)(f:∀b∈fp,FpOk X pins H b):Inv X pins σ H { s with heap:=h',toks:=t' }:=by
 have d:∀b u,H b=some u->b ∉ fp:=λb u e z=>by rw[(f b z).1] at e;cases e
 have t  := λz=>(f _ z).2.1 rfl;refine I.step (λb w =>?_) (λb o _ _ a e _=>k b o a e) (λb o _ _ a e _=>⟨o.slots,k b o a e⟩) (λ_ _ _ _ n=>n)
  (λb o a e=>⟨o,k b o a e⟩) (λ_ _ e=>e) (λ_ _ _ e=>e) (λb ps e=>⟨#[],by rw[e];simp⟩) (λm x =>?_) (λb u e =>?_) I.bare
 .obtain⟨A,i,C,j,l,p⟩:=f b w;exact⟨j,i,l,p⟩
 .obtain⟨o,h,g,y,r⟩:=x;exact⟨o,h,g,k _ o t y,r⟩
 .refine(I.hok b u e).stay (λc v a q=>k c v ?_ q) (λ_ q=>q) λ_ _ q=>q
  rcases a with z | z
  .rw[z];exact d b u e
  .exact d c _ z
end
end L2
namespace Zp
open PySem PySem.Spec PyProof.Rows L2
def Itz (K:W.Frag)(d e:Addr):It:=
 ⟨λi H=>∃a b x y,SqT K H d a/\SqT K H e b/\a[i]? = some x/\b[i]? = some y,
  λi H v f=>∃p x y,v = .ref p/\H p=none/\f=upd H p (.tup [x,y])/\∀a b,SqT K H d a->SqT K H e b->a[i]? = some x/\b[i]? = some y,
  λi H=>∃a b,SqT K H d a/\SqT K H e b/\(a.length<=i\/b.length<=i)⟩
def zd2 {P:Program}{w:World}{K:W.Frag}{es:List Expr}{kk:Nat}{a0:Pos}{z TI TO n p G J:Addr}(D:ZipApart z TI TO n p G J):Turn P w K (.Tuple es kk a0) (Itz K G J) [z,TO,n,p,TI] z (λi h=>St h z TI TO n p G J .none i) where
 mem:=by simp
 obj:=λi h m b d=>by
  obtain⟨sz,j,⟨C,F,l⟩,⟨oa,N,ca,da⟩,⟨Z,O,cb,db⟩⟩:=m;simp only[wm,wz,vK] at d
  rcases d with rfl | rfl | rfl | rfl | rfl
  .exact⟨_,sz,λv q=>by cases (show Data.fields _=Data.cell v from q)⟩
  .exact⟨_,l,λv q=>by cases (show Data.seq _ _=Data.cell v from q)⟩
  .exact⟨_,N,λv q=>by rw[da] at q;cases q⟩
  .exact⟨_,O,λv q=>by rw[db] at q;cases q⟩
  .exact⟨_,j,λv q=>by cases (show Data.seq _ _=Data.cell v from q)⟩
 keep:=λi h h' m k=>by
  obtain⟨sz,j,⟨C,F,l⟩,sa,sb⟩:=m;exact⟨k z (by simp) _ sz,k TI (by simp) _ j,⟨C,F,k TO (by simp) _ l⟩,sa.at λo e=>k n (by simp) o e,sb.at λo e=>k p (by simp) o e⟩
 item:=by
  intro X R U Q hc i g s σ H E I S m T;subst R U Q;obtain⟨xs,ys,x,y,L,M,ex,ey⟩:=T;obtain⟨us,r1,p1,_⟩:=I.tuple L;obtain⟨vs,r2,p2,_⟩:=I.tuple M;obtain⟨u,hu,ru⟩:=r1.get ex;obtain⟨v,hv,rv⟩:=r2.get ey;refine item D m (show s.heap.IsTuple G us.toArray from p1) (show s.heap.IsTuple J vs.toArray from p2) (x:=u) (y:=v) (by simpa using hu) (by simpa using hv) λh' r tp _ Y=>⟨_,rfl,?_⟩
  refine wpAny_letOwnedTupleGo_zip r.z λh2 z2 A =>?_;have lt:∀{b o},s.heap.get? b=some o->b≠s.heap.objs.size:=λe=>wI (wu e);have Z:∀b∈[z,TO,n,p,TI],b≠s.heap.objs.size:=λb d=>by
   obtain⟨sz,j,⟨C,F,l⟩,⟨oa,N,_⟩,⟨oo,O,_⟩⟩:=m;simp only[wm,wz,vK] at d
   rcases d with rfl | rfl | rfl | rfl | rfl
   .exact lt sz
   .exact lt l
   .exact lt N
   .exact lt O
   .exact lt j
  have hz:z≠s.heap.objs.size:=Z z (by simp);have new:(s.heap.push { cls :=.type "tuple",data :=.seq #[u,v] }).get? s.heap.objs.size=some { cls :=.type "tuple",data :=.seq #[u,v] }:=wn _ rfl;have I1:Inv X g σ (upd H s.heap.objs.size (.tup [x,y])) { s with heap:=s.heap.push { cls :=.type "tuple",data :=.seq #[u,v] },toks:=s.toks }:=
   I.laid (λ_ _ q=>wf _ q) (wq _) ⟨wM (show 2<=64 by decide) (by decide),[u,v],.cons ru (.cons rv .nil),⟨_,wn _ rfl,rfl,_,rfl⟩,_,wn _ rfl,rfl⟩
  have t:∀b∈[z,TO,n,p,TI],FpOk X g (upd H s.heap.objs.size (.tup [x,y])) b:=λb d=>by
   obtain⟨f0,f⟩:=S b d;exact⟨by rw[z05 (Z b d)];exact f0,f⟩
  have I2:Inv X g σ (upd H s.heap.objs.size (.tup [x,y])) { s with heap:=h2,toks:=s.toks }:=I1.turnedL (t':=s.toks) (λb o d e=>by
   simp only[wm,wz,vK,not_or] at d;obtain⟨b1,b2,b3,b4,b5⟩:=d;refine A.extBut _ _ b1 ?_
   by_cases he:b=s.heap.objs.size
   .subst he;rw[new] at e
    cases e
    exact tp
   .rw[jI _ _ _ he] at e;exact Y b o b1 b2 b3 b4 e) t
  refine⟨.ref s.heap.objs.size,_,I2,rfl,⟨_,x,y,rfl,I.fresh,rfl,λas bs ha d=>⟨by rw[I.tuple_inj ha L];exact ex,by rw[I.tuple_inj d M];exact ey⟩⟩,⟨z2,A.extBut _ _ D.TIz r.ti,?_,r.a.extBut A.extBut D.i1z,r.b.extBut A.extBut D.i2z⟩,λb d=>(t b d).1⟩;obtain⟨C,F,e⟩:=r.to;exact⟨C,F,A.extBut _ _ D.TOz e⟩
 done:=by
  intro X R U Q hc i g s σ H E I S m T;subst R U Q;obtain⟨xs,ys,L,M,e⟩:=T;obtain⟨us,r1,p1,_⟩:=I.tuple L;obtain⟨vs,r2,p2,_⟩:=I.tuple M;have l1:=r1.length;have l2:=r2.length;refine fin (I.ok.hd hc) D m (show s.heap.IsTuple G us.toArray from p1) (show s.heap.IsTuple J vs.toArray from p2) (e.imp (λq=>by simp;lia) λq=>by simp;lia) λh' Y=>⟨rfl,I.turnedL (t':=s.toks) (λb o d e =>?_) S⟩
  simp only[wm,wz,vK,not_or] at d;exact Y b o d.1 d.2.1 d.2.2.1 d.2.2.2.1 e
 self:=λ_ _ _ _ _ m h=>wpAny_pyIter_zip m.z h
def iZip (K:W.Frag)(e:TA):TI:=λh H R=>e h H λvs d=>∃a b,vs=[.ref a,.ref b]/\(∃f,SqT K d a f)/\(∃g,SqT K d b g)/\R (Itz K a b) d
section
variable {X:Cx}{es:List Expr}{kk:Nat}{tp:Pos}
def zju {a b:Expr}{A:TA}{p l:Pos}(L:Gl X "zip")(M:X.mg "zip"=none)(J:PA X [a,b] A)(hs:autoParam (starEach [a,b] X.env=[(false,eval a X.env),(false,eval b X.env)]) jA1)(j:autoParam (starEach [b] X.env=[(false,eval b X.env)]) jA1):PI X (.Tuple es kk tp) (.Call (.Name "zip" p) [a,b] [] l) (iZip X.K A):=by
 intro d s E H R I h;refine Call_ (z81 I L M (show bootBuiltins "zip"=some (.type "zip") from rfl) (jx (thn (J l d s E H _ I h) λC f z9 =>?_) (by rw[hs,j]) (by rw[j];rfl)));obtain⟨vs,u,g,r1,T⟩:=z9;obtain⟨n,t,e,⟨xs,U⟩,⟨ys,W⟩,q⟩:=T;subst e
 cases r1 with
 | cons r m=>
  cases m with
  | cons Y m=>
   cases m
   cases (show _=Value.ref n from r)
   cases (show _=Value.ref t from Y)
   obtain⟨C,Z,x,_⟩:=g.tuple U;obtain⟨vs,a0,y,_⟩:=g.tuple W;have O:n<f.heap.objs.size:=by obtain⟨o,e,_⟩:=x;exact wu e
   have Q:t<f.heap.objs.size:=by obtain⟨o,e,_⟩:=y;exact wu e
   refine zmD (show f.heap.IsTuple n C.toArray from x) (show f.heap.IsTuple t vs.toArray from y) λG S N =>?_;refine wpAny_pyIter_zip S.z ?_;have F:Inv X d E u { f with heap:=G,toks:=f.toks }:=g.kept (t':=f.toks) N;refine⟨_,_,_,_,u,rfl,F,zd2 (zipApart_new O Q),S,λb w =>?_,q⟩;have i:f.heap.objs.size<=b:=by
    simp only[wm,wz,vK] at w
    rcases w with rfl | rfl | rfl | rfl | rfl
    .exact Nat.le_add_right _ 4
    .exact Nat.le_add_right _ 3
    .exact wq _
    .exact Nat.le_add_right _ 1
    .exact Nat.le_add_right _ 2
   exact g.fpOk i (g.hok.fresh i)
end
end Zp
namespace Pu
open PySem PySem.Spec PyProof.Rows L2 Zp
def gZip (a b:D)(Q:DK):Prop:=match a,b with
 | .tup l,.tup m=>Q (.lst ((l.zip m).map λp =>.tup [p.1,p.2]))
 | _,_=>False
def zco (a b:D)(Q Q':DK)(m:∀d,Q d->Q' d)(h:gZip a b Q):gZip a b Q':=by
 unfold gZip at h ⊢
 split at h
 .exact m _ h
 omega
def z6P:Fn:=fn2 gZip zco
def zcW {K:W.Frag}{mg:WmP}{G:Hp}{a b:Addr}{xs g:List V}{l m:List D}(J:SqT K G a xs)(L:SqT K G b g)(r1:RDs K mg G l xs)(r2:RDs K mg G m g):Walk K mg G ((l.zip m).map λp =>.tup [p.1,p.2]) (Itz K a b):=λi I H h f=>by
 have n:=z0u (z03 h f) J;have o:=z0u (z03 h f) L;refine⟨λd e =>?_,λM=>⟨xs,g,n,o,?_⟩⟩
 .rw[wO,ur] at e;obtain⟨⟨O,Q⟩,e,rfl⟩:=e;rw[List.getElem?_zip_eq_some] at e;obtain⟨A,t,r⟩:=r1.get e.1;obtain⟨C,w,s⟩:=r2.get e.2;refine⟨⟨xs,g,A,C,n,o,t,w⟩,λv N y =>?_⟩;obtain⟨p,x,y,rfl,j,rfl,q⟩:=y;obtain⟨E,F⟩:=q xs g n o;rw[t] at E;rw[w] at F
  cases E
  cases F
  refine⟨z0f j _,upd I p (.tup [A,C]),?_,?_,?_⟩
  .exact Gr.new f j
  .intro c u e
   by_cases z:c=p
   .subst z;rw[z06] at e ⊢;exact e
   .rw[z05 z] at e ⊢;exact f c u e
  .exact RD.newT (RDs.cons (r.same h) (RDs.cons (s.same h) RDs.nil)) f j
 .simp only[we,u8] at M;rw[r1.len,r2.len];lia
section
variable {X:Cx}{E:XK}
def zdJ {es:List Expr}{O:Nat}{Q p j:Pos}{a b:Expr}{x y:Ex}(J:Gl X "zip")(L:X.mg "zip"=none)(I:QXA X E [a,b] [x,y])(hs:autoParam (starEach [a,b] X.env=[(false,eval a X.env),(false,eval b X.env)]) jA1)(i:autoParam (starEach [b] X.env=[(false,eval b X.env)]) jA1):
  QXI X E (.Tuple es O Q) (.Call (.Name "zip" p) [a,b] [] j) (.op z6P [x,y]):=QI.imp (⟨zju J L I.p hs i⟩) <| by
 rintro σ H R ⟨G,n,Q0,e,hs,u,M,Y,K,N⟩;refine⟨G,n,_,e,hs,u,(show runs _ n (λf=>z6P.run f Q0 e) e from M),λf vs o r q A g g3 rds =>?_,N⟩
 match f,q,rds with
 | [w,z],q,rds=>
  have d:gZip w z Q0:=q;unfold gZip at d
  split at d
  .obtain⟨Z,r1,rfl,C,h⟩:=rds;obtain⟨v2,r2,rfl,h,F⟩:=h;subst F;obtain⟨s,U,rfl,l,S⟩:=z1m C;obtain⟨t,W,rfl,m,T⟩:=z1m h;exact⟨s,t,rfl,⟨U,z0u g l⟩,⟨W,z0u g m⟩,K _ o r d A g g3 _ _ rfl (zcW l m S T)⟩
  .exact d.elim
end
end Pu
namespace Pu
open PySem L2
def z2C:Fn:=Fn.mkN 2 4 (.seq (.set 2 (.op pGt [.v 0,.op pTup [.c (.int 0),.c (.int 0)]]))
 (.seq (.set 3 (.op pGt [.v 1,.op pTup [.c (.int 0),.c (.int 0)]]))
 (.seq (.ifs (.op pNe [.v 2,.v 3]) (.ret (.v 2)) .skip)
 (.ret (.op pGt [.op z1n [.v 0,.v 1],.c (.int 0)])))))
def z1R:Fn:=Fn.mkN 2 5 (.seq (.own 2 (.op pLst []))
 (.seq (.set 3 (.c (.int 0)))
 (.seq (.for_ [] (.nm 4) (.v 1) (.seq (.wh (.and (.op pLt [.v 3,.op pLen [.v 0]]) (.op z2C [.op pIx [.v 0,.v 3],.v 4])) (.seq (.app 2 (.op pIx [.v 0,.v 3]))
 (.set 3 (.op pAdd [.v 3,.c (.int 1)]))))
 (.app 2 (.v 4))))
 (.ret (.op pAdd [.v 2,.sl (.v 0) (some (.v 3)) none])))))
def z1C:Fn:=Fn.mkN 2 3 (.seq (.ifs (.op pEq [.op pLen [.v 0],.c (.int 1)]) (.ret (.op pLst [])) .skip)
 (.seq (.set 2 (.op pAdd [.sl (.v 0) (some (.c (.int 1))) none,.sl (.v 0) none (some (.c (.int 1)))]))
 (.ret (.comp 2 [1] (.tp [0,1]) (.op z6P [.v 0,.v 2]) none (.callv z98 2 [.v 0,.v 1])))))
def z5e:Fn:=Fn.mkN 2 7 (.seq (.set 2 (.op z07 [.v 0]))
 (.seq (.set 3 (.op z07 [.v 1]))
 (.seq (.set 4 (.op z0L [.op pIx [.v 2,.c (.int 0)],.op pIx [.v 3,.c (.int 0)]]))
 (.seq (.own 5 (.op pLst [.v 4]))
 (.seq (.for_ [] (.nm 6) (.op z1R [.op z1C [.v 2,.c (.fn 2)],.op z1C [.v 3,.c (.fn 2)]]) (.seq (.set 4 (.op z0L [.v 4,.v 6]))
 (.app 5 (.v 4))))
 (.ret (.op z07 [.v 5])))))))
def z2A:Fn:=Fn.mkN 1 3 (.seq (.set 1 (.op pTup [.op pTup [.c (.int 0),.c (.int 0)]]))
 (.seq (.for_ [] (.nm 2) (.v 0) (.set 1 (.op z5e [.v 1,.v 2])))
 (.ret (.v 1))))
def z3L:Fn:=Fn.mkN 1 1 (.ret (.op z2A [.comp 1 [] (.nm 0) (.v 0) none (.op z3O [.v 0])]))
open PySem.Spec PyProof.Rows Tab
mutual
def z85 (K:W.Frag):D->Value->Bool
 | .int i,.int j _=>i == j
 | .str x,.str y _=>x == y
 | .non,.none=>true
 | .bl b,.bool c=>b == c
 | .tup e,.ref a=>match K.lookup a with
  | some o=>(match o.cls with | .type t=>t == "tuple" | _=>false) && (match o.data with
   | .seq d _=>(decide (d.size<=sizeLine) && o.dict.isNone) && z9L K e d.toList
   | _=>false)
  | none=>false
 | _,_=>false
def z9L (K:W.Frag):List D->List Value->Bool
 | [],[]=>true
 | d::a,v::vs=>z85 K d v && z9L K a vs
 | _,_=>false
end
def zlb (K:W.Frag)(mg:WmP)(x:Str)(d:D):Prop:=∃v,mg x=some v/\z85 K d v=true
section
variable {K:W.Frag}{mg:WmP}
mutual
theorem z9M:∀(d:D) {u:Value},z85 K d u=true->∃v,RelV v u/\∀G,RD K mg G d v
 | .non,u,h=>by
  cases u with
  | none=>exact⟨.non,rfl,λ_=>by rw[RD]⟩
  | _=>cases h
 | .bl b,u,h=>by
  cases u with
  | bool c=>rw[z85] at h;cases (eq_of_beq h);exact⟨.bl b,rfl,λ_=>RD.bl'⟩
  | _=>cases h
 | .int i,u,h=>by
  cases u with
  | int j t=>rw[z85] at h;cases (eq_of_beq h);exact⟨.int i,⟨t,rfl⟩,λ_=>RD.int'⟩
  | _=>cases h
 | .str x,u,h=>by
  cases u with
  | str y t=>rw[z85] at h;cases (eq_of_beq h);exact⟨.str x,⟨t,rfl⟩,λ_=>RD.str'⟩
  | _=>cases h
 | .tup l,u,h=>by
  cases u with
  | ref a=>
   rw[z85] at h
   split at h
   .rename_i o p
    rw[w5] at h;obtain⟨f,e⟩:=h
    split at e
    .rename_i g n m
     rw[w5,w5] at e;obtain⟨vs,r,q⟩:=z84 l e.2;refine⟨.ref a,rfl,λG=>by
      rw[RD];refine⟨a,vs,rfl,.inr ⟨o,g,n,p,?_,m,uj e.1.1,r,Option.isNone_iff_eq_none.mp e.1.2⟩,q G⟩
      split at f
      .rename_i t s;rw[s,eq_of_beq f]
      .cases f⟩
    .cases e
   .cases h
  | _=>cases h
 | .lst _,_,h=>by cases h
 | .dct _ _,_,h=>by cases h
 | .fn _,_,h=>by cases h
 | .exc _,_,h=>by cases h
 | .ptr _,_,h=>by cases h
 | .fz _ _,_,h=>by cases h
 | .ins _ _ _,_,h=>by cases h
theorem z84:∀(a:List D) {b:List Value},z9L K a b=true->∃vs,Vals vs b/\∀G,RDs K mg G a vs
 | [],[],_=>⟨[],.nil,λ_=>RDs.nil⟩
 | [],_::_,h=>by cases h
 | _::_,[],h=>by cases h
 | d::a,u::b,h=>by
  rw[z9L,w5] at h;obtain⟨v,r,q⟩:=z9M d h.1;obtain⟨vs,f,e⟩:=z84 a h.2;exact⟨v::vs,.cons r f,λG=>RDs.cons (q G) (e G)⟩
end
end
def zlF {X:Cx}{E:XK}{x:Str}{d:D}{a:Pos}(e:Gl X x)(f:zlb X.K X.mg x d)(b:autoParam ((x == ("__debug__":Str))=false) jB1):QX X E (.Name x a) (.c d):=by
 obtain⟨u,g,h⟩:=f;obtain⟨v,r,q⟩:=z9M (mg:=X.mg) d h;exact qx_c ⟨zbC e g r b⟩ q
def z30:D :=.tup [.tup [.int (1),.int (0)],.tup [.int (0),.int (1)],.tup [.int (-1),.int (0)],.tup [.int (0),.int (-1)]]
def z2d:Fn:=Fn.mkN 1 1 (.ret (.op pTup [.op pIx [.v 0,.c (.int 1)],.op pNeg [.op pIx [.v 0,.c (.int 0)]]]))
def z1t:Fn:=Fn.mkN 2 6 (.seq (.ifs (.op pEq [.op pLen [.v 0],.c (.int 1)]) (.ret (.comp 1 [0] (.nm 0) (.c z30) none (.op pTup [.v 0,.op pIx [.v 1,.c (.int 0)]]))) .skip)
 (.seq (.own 2 (.op pLst []))
 (.seq (.forr [.op pLen [.v 0]] (.nm 3) (.seq (.set 4 (.op pIx [.v 0,.v 3]))
 (.seq (.set 5 (.callv z98 1 [.op pIx [.v 0,.op pSub [.v 3,.c (.int 1)]],.v 4]))
 (.seq (.app 2 (.op pTup [.op z2d [.v 5],.v 4]))
 (.ifs (.op pEq [.op pLen [.v 0],.c (.int 2)]) (.app 2 (.op pTup [.v 5,.v 4])) .skip)))))
 (.ret (.v 2)))))
def z3K:Fn:=Fn.mkN 1 2 (.seq (.set 1 (.op z1t [.op z07 [.v 0],.c (.fn 2)]))
 (.ret (.op z1Y [.comp 2 [] (.tp [0,1]) (.v 1) none (.op pTup [.v 0,.op z14 [.v 0,.v 1]])])))
end Pu
namespace Geo
def Hd (l h:List P):Prop:=∃a:List P,a.Pairwise Lx/\(∀p,p∈a↔p∈l)/\h=hull a
def Hd.is {l h:List P}(x:Hd l h)(e:l≠[]):z0a (· ∈ l) h:=by
 obtain⟨f,b,d,rfl⟩:=x;have a:f≠[]:=λz=>by
  cases l with
  | nil=>exact e rfl
  | cons p l=>have:=(d p).mpr (by simp);grind
 have:=zhh a b
 simp_all
theorem z6N {R:P->P->Prop}:∀{l:List P}{i:Nat}{a b:P},Path R l->l[i]? = some a->l[i+1]? = some b->R a b
 | [],_,_,_,_,e,_=>by simp at e
 | [_],i,_,_,_,e,f=>by simp at f
 | x::y::r,0,a,b,h,e,f=>by
  simp at e f;subst e;subst f;exact h.1
 | x::y::r,i+1,a,b,h,e,f=>z6N h.2 (by simpa using e) (by simpa using f)
theorem z4j {R:P->P->Prop}:∀{u v:List P},Path R (u++v)->Path R v
 | [],_,h=>h
 | [x],[],_=>trivial
 | [x],y::v,h=>h.2
 | x::y::u,v,h=>z4j (u:=y::u) h.2
theorem z6r {R:P->P->Prop}(det:∀a b c,R a b->R a c->b=c){m:P}:∀{t:List P},m ∉ t->Path R (t++[m])->t.Nodup
 | [],_,_ =>.nil
 | a::t,i,h=>by
  rw[vO];have d  := λz=>i (wp _ z);refine⟨λg =>?_,z6r det d (z4j (u:=[a]) h)⟩;obtain⟨u,v,e⟩:=List.append_of_mem g;have f  := by
   have:Path R ((a::u)++(a::v++[m])):=by simp_all
   exact z4j this
  have j:m ∉ v:=λz=>d (by rw[e];simp[z]);have:=z3X det d j h f;have:=congrArg List.length this;rw[e] at this;simp at this;lia
def z0a.nodup {S:P->Prop}{h:List P}(x:z0a S h):h.Nodup:=by
 obtain⟨m,t,rfl,i,j,g,d⟩:=x.ex
 rcases d with ⟨rfl,_⟩ | ⟨_,d⟩
 .simp
 .rw[vO];exact⟨g,z6r (λa b c e f=>e.det f) g (z4j (u:=[m]) d)⟩
def z0a.sub {S:P->Prop}{h:List P}(x:z0a S h):∀p∈h,S p:=by
 obtain⟨m,t,rfl,j,l,n,a⟩:=x.ex
 rcases a with ⟨rfl,_⟩ | ⟨o,a⟩
 .simp_all
 .intro p g;obtain⟨i,b,e⟩:=wT.mp g;have f:(m::t++[m])[i]? = some p:=by rw[wH b,wt b,e]
  have d:i+1<(m::t++[m]).length:=by simp at b ⊢;lia
  exact(z6N a f (wt d)).sa
def Edge.less {S T:P->Prop}{a b:P}(e:Edge S a b)(h:∀p,T p->S p)(f:T a)(g:T b):Edge T a b:=⟨f,g,e.ne,λp d=>e.left p (h p d),λp d=>e.btw p (h p d)⟩
theorem z7P {S T:P->Prop}(h:∀p,T p->S p):∀{l:List P},(∀p∈l,T p)->Path (Edge S) l->Path (Edge T) l
 | [],_,_=>trivial
 | [_],_,_=>trivial
 | a::b::r,e,d=>⟨d.1.less h (e a (by simp)) (e b (by simp)),z7P h (λp d=>e p (wp _ d)) d.2⟩
def z0a.of {S T:P->Prop}{h:List P}(x:z0a S h)(e:∀p,T p->S p)(i:∀p∈h,T p):z0a T h:=by
 obtain⟨m,t,rfl,j,f,g,a⟩:=x.ex;refine⟨m,t,rfl,i m (by simp),λp b=>f p (e p b),g,?_⟩
 rcases a with ⟨rfl,a⟩ | ⟨d,a⟩
 .exact .inl ⟨rfl,λp b=>a p (e p b)⟩
 .exact .inr ⟨d,z7P e (λp b=>by
   grind) a⟩
def z5T {S:P->Prop}{a b c:P}(e:Edge S a b)(f:Edge S b c)(h:a≠c):0<cr a b c:=by
 have H:=e.left c f.sb
 rcases ju H with z | z
 .exact z
 exfalso
 have x:cr a b c=0:=z.symm;have U:cr b c a=0:=by rw[<- x];unfold cr;grind
 obtain⟨Y,Q⟩:=e.btw c f.sb x;obtain⟨Z,R⟩:=f.btw a e.sa U;have o:=e.ne;have p:=f.ne;obtain⟨m,n⟩:=a;obtain⟨g,i⟩:=b;obtain⟨j,l⟩:=c;simp only[cr,dot] at*;generalize K:g - m=u1 at*;generalize L:i - n=u2 at*;generalize M:j - m=v1 at*;generalize N:l - n=v2 at*;have F:(j - g)*(m - g)+(l - i)*(n - i)=(u1*u1+u2*u2) - (u1*v1+u2*v2):=by
  have:j - g=v1 - u1:=by lia
  have:l - i=v2 - u2:=by lia
  have:m - g = -u1:=by lia
  have:n - i = -u2:=by lia
  grind
 have G:(m - j)*(g - j)+(n - l)*(i - l)=(v1*v1+v2*v2) - (u1*v1+u2*v2):=by
  have:m - j = -v1:=by lia
  have:n - l = -v2:=by lia
  have:g - j=u1 - v1:=by lia
  have:i - l=u2 - v2:=by lia
  grind
 rw[F] at Q;rw[G] at R;have u:(u1*v1+u2*v2)*(u1*v1+u2*v2)=(u1*u1+u2*u2)*(v1*v1+v2*v2):=by
  have:(u1*u1+u2*u2)*(v1*v1+v2*v2) - (u1*v1+u2*v2)*(u1*v1+u2*v2)=(u1*v2 - u2*v1)*(u1*v2 - u2*v1):=by grind
  rw[x] at this;lia
 have J:0<=u1*v1+u2*v2:=by
  have:(v1*u1+v2*u2)=u1*v1+u2*v2:=by grind
  lia
 generalize W:u1*v1+u2*v2=d at*;generalize I:u1*u1+u2*u2=uu at*;generalize X:v1*v1+v2*v2=vv at*;have w:0<=uu:=by have:=z0e u1;have:=z0e u2;lia
 have T:0<=vv:=by have:=z0e v1;have:=z0e v2;lia
 have C:d*d<=uu*d:=vR (by lia) J;have E:uu*d<=uu*vv:=Int.mul_le_mul_of_nonneg_left (by lia) w;have s:uu*(vv - d)=0:=by
  have:uu*(vv - d)=uu*vv - uu*d:=by grind
  omega
 rcases wZ.mp s with z | z
 .obtain⟨y,A⟩:=z3Z (I.trans z);exact o (uo (by show m=g;lia) (by show n=i;lia))
 .have r:vv=d:=by lia
  have t:d*(uu - d)=0:=by
   have:d*(uu - d)=uu*d - d*d:=by grind
   rw[r] at u;omega
  rcases wZ.mp t with z | z
  .have q:v1*v1+v2*v2=0:=by lia
   obtain⟨y,A⟩:=z3Z q;exact h (uo (by show m=j;lia) (by show n=l;lia))
  .have O:(u1 - v1)*(u1 - v1)+(u2 - v2)*(u2 - v2)=0:=by
    have:(u1 - v1)*(u1 - v1)+(u2 - v2)*(u2 - v2)=(u1*u1+u2*u2) - 2*(u1*v1+u2*v2)+(v1*v1+v2*v2):=by grind
    lia
   obtain⟨y,A⟩:=z3Z O;exact p (uo (by show g=j;lia) (by show i=l;lia))
end Geo
local macro_rules | `(tactic| walk_at "bt") => `(tactic| first | assumption | (refine L2.Bt.add ?_ ?_ <;> walk_at "bt") | (refine L2.Bt.sub ?_ ?_ <;> walk_at "bt") | (refine L2.Bt.mul ?_ ?_ <;> walk_at "bt") | (apply L2.Bt.neg;walk_at "bt") | exact L2.bt_k (by decide +kernel) | exact L2.bt_n (by omega) (by omega))
local macro_rules | `(tactic| walk_at "mu") => `(tactic| exact⟨L2.Bt.le (by walk_at "bt") (by decide),L2.Bt.le (by walk_at "bt") (by decide)⟩)
local macro_rules | `(tactic| walk_at "ps") => `(tactic| first | assumption | decide | omega)
local macro_rules | `(tactic| walk_at "bb") => `(tactic| first | exact L2.za6 (by decide) (by decide) | exact L2.Bt.le (by walk_at "bt") (by decide) | exact L2.za6 (by omega) (by omega))
local macro_rules | `(tactic| walk_at "sf") => `(tactic| first | exact Pu.Safe.of_noL rfl rfl _ | exact Pu.Safe.of_noL (Pu.z27 _) (Pu.z28 _) _ | (repeat (first | exact trivial | refine⟨trivial,?_⟩)) | assumption)
local macro_rules | `(tactic| walk_at "en") => `(tactic| try simp only[List.set_cons_zero,List.set_cons_succ,wL,je,List.replicate,List.cons_append,List.nil_append,Nat.reduceSub,Pu.dem,Pu.vis,Pu.visB,Pu.demB,List.getElem?_cons_zero,uJ,Option.getD_some,Pu.z16,List.replicate_succ,List.replicate_zero])
local macro_rules | `(tactic| walk_at "st") => `(tactic| first
 | with_reducible apply Pu.e_c
 | ((with_reducible apply Pu.e_v);(apply Pu.z9H))
 |(with_reducible first|apply Pu.zkQ|apply Pu.zeC|apply Pu.zmv|apply Pu.zmu|apply Pu.zmt|apply Pu.zg9|apply Pu.zis|apply Pu.zmh|apply Pu.zmb|apply Pu.zmc)| ((with_reducible apply Pu.zmd);(focus walk_at "mu"))
 | ((with_reducible apply Pu.zfn);(focus walk_at "ps");(focus walk_at "bb"))
 | ((with_reducible apply Pu.zke);(focus walk_at "ps"))
 | ((with_reducible apply Pu.zkb);(focus exact⟨by decide,by decide,by decide⟩))
 | ((with_reducible apply Pu.zmf);(try apply Pu.z9H))
 | ((with_reducible apply Pu.zmg);(try apply Pu.z9H))
 |(with_reducible first|apply Pu.o_lt|apply Pu.o_le|apply Pu.o_gt|apply Pu.o_ge|apply Pu.o_eq|apply Pu.o_ne|apply Pu.zgX|apply Pu.zki|apply Pu.zkh)| ((with_reducible apply Pu.zma);(focus (simp only[wQ,uc];decide)))
 | ((with_reducible apply Pu.zme);(focus (simp only[wQ,uc];decide)))
 |(with_reducible first|apply Pu.zk9|apply Pu.zkg|apply Pu.zmi|apply Pu.zkj|apply Pu.zkf|apply Pu.zmx|apply Pu.e_or|apply Pu.zmw|apply Pu.n_bl|apply Pu.zfB|apply Pu.zmo|apply Pu.zmn|apply Pu.e_sl|apply Pu.zjK|apply Pu.zjJ|apply Pu.zkL|apply Pu.zmF|apply Pu.zmE|apply Pu.z49|apply Pu.z3e|apply Pu.z3R|apply Pu.zlj|apply Pu.zdk|apply Pu.zij|apply Pu.s_if|apply Pu.zlk|apply Pu.zf2)| ((with_reducible apply Pu.zlm);(walk_at "en"))
 | with_reducible apply Pu.zg5
 | ((with_reducible apply Pu.z0j);(focus walk_at "sf");(walk_at "en"))
 | ((with_reducible apply Pu.zmC);(walk_at "en"))
 | ((with_reducible apply Pu.zkY);(walk_at "en")))
local macro_rules | `(tactic| walk_at "go") => `(tactic| repeat walk_at "st")
local macro_rules | `(tactic| walk_at "fn") => `(tactic| ((refine Pu.zlp rfl ?_);(walk_at "en")))
local macro_rules | `(tactic| walk_at "fe") => `(tactic| ((refine Pu.zlq rfl ?_);(walk_at "en")))
local macro_rules | `(tactic| ac_nf) => `(tactic| walk_at "go")
local macro_rules | `(tactic| ac_rfl) => `(tactic| walk_at "en")
namespace Pu
open PySem L2
def szl {n:Nat}(h:n<=1000000):n<=sizeLine:=wM h (by decide)
def szl' {n:Nat}(h:n<=1000000):n<sizeLine:=jt h (by decide)
abbrev Vb (n:Nat)(p:Int × Int):Prop:=Bt n p.1/\Bt n p.2
abbrev Wb (n:Nat)(l:List (Int × Int)):Prop:=∀p∈l,Vb n p
theorem Vb.le {m n:Nat}{p:Int × Int}(h:Vb m p)(q:autoParam (m<=n) jB1):Vb n p:=⟨h.1.le q,h.2.le q⟩
theorem Wb.le {m n:Nat}{l:List (Int × Int)}(h:Wb m l)(q:autoParam (m<=n) jB1):Wb n l:=λp a=>(h p a).le q
def z3g {p r:Int × Int}{Q:DK}{X:XP}(b:Vb 30000000 p)(e:Vb 30000000 r)(q:Q (.int (p.1*r.2 - p.2*r.1))):z1n.run [vec p,vec r] Q X:=by
 obtain⟨f,g⟩:=b;obtain⟨i,j⟩:=e;walk_at "fn";ac_nf;exact q
def z2V {p r:Int × Int}{Q:DK}{X:XP}(b:Vb 30000000 p)(e:Vb 30000000 r)(q:Q (.int (p.1*r.1+p.2*r.2))):z14.run [vec p,vec r] Q X:=by
 obtain⟨f,g⟩:=b;obtain⟨i,j⟩:=e;walk_at "fn";ac_nf;exact q
def z1V {p r:Int × Int}{Q:DK}{X:XP}(q:Q (vec (r.1 - p.1,r.2 - p.2))):z0v.run [vec p,vec r] Q X:=by
 walk_at "fn";ac_nf;exact q
def Vb.step {p r:Int × Int}(h:Vb 20000000 p)(k:Vb 20000000 r):Vb 30000000 (r.1 - p.1,r.2 - p.2):=⟨(Bt.sub k.1 h.1).le,(Bt.sub k.2 h.2).le⟩
def zba {a b c:Int × Int}{Q:DK}{X:XP}(g:Vb 20000000 a)(f:Vb 20000000 b)(i:Vb 20000000 c)(q:Q (.int (Geo.cr a b c))):z3p.run [vec a,vec b,vec c] Q X:=by
 walk_at "fn";ac_nf;refine z1V ?_;ac_nf;refine z1V ?_;refine z3g (g.step f) (f.step i) ?_;have e:(b.1 - a.1)*(c.2 - b.2) - (b.2 - a.2)*(c.1 - b.1)=Geo.cr a b c:=by unfold Geo.cr;grind
 simp_all
def z99 {T:Nat->Fn}{i n:Nat}{es:List Ex}{a:Pu.Env}{Q:DK}{X:XP}(h:a.get i=some (.fn n))(q:runs es a (λb=>(T n).run b Q X) X):(Ex.callv T i es).run a Q X:=⟨n,h,q⟩
def zbR {l:List D}{Q:DK}{X:XP}(q:Q (.lst l.reverse)):z1N.run [.lst l] Q X:=q
def zl6 {a:Type}{b:a}{r:List a}:atI (b::r).reverse (-1)=some b:=by
 unfold atI ixN;rw[if_neg (by decide),jU,wQ,if_pos (by lia)];rw[show ((-1)+((r.length+1:Nat):Int)).toNat=r.length by lia];simp
def zhA {d:Type}{a b:d}{r:List d}:atI (b::a::r).reverse (-2)=some a:=by
 unfold atI ixN;rw[if_neg (by decide),jU,wQ,wQ,if_pos (by lia)];rw[show ((-2)+((r.length+1+1:Nat):Int)).toNat=r.length by lia];simp
def z6o {l:List (Int × Int)}{Q:DK}{X:XP}(N:Wb 20000000 l)(hz:l.length<=100000)(q:Q (.lst ((z2j l).reverse.map vec))):z2O.run [.lst (l.map vec),.fn 0] Q X:=by
 walk_at "fn";refine z3R (zdk ?_);ac_nf;refine z2G (λx R=>by cases R) ?_;ac_rfl;ac_nf;refine z0m (f:=vec) (λJ j=>∃(y:List (Int × Int)) (x:B),y=z2j J/\(∀p∈y,p∈l)/\y.length<=J.length/\j=[.s (.lst (l.map vec)),.s (.fn 0),.o (.lst (y.reverse.map vec)),x]) ⟨[],_,rfl,(λp I=>by cases I),wq _,rfl⟩ ?_ ?_
 .rintro J v r j e ⟨y,x,w,C,z,rfl⟩;have M:v∈l:=by rw[e];simp
  show Sm.run _ _ _ _ _;ac_rfl;refine Sm.cut (λj=>∃g:List (Int × Int),g=pops v y/\(∀p∈g,p∈l)/\g.length<=J.length/\j=[.s (.lst (l.map vec)),.s (.fn 0),.o (.lst (g.reverse.map vec)),.s (vec v)]) ?_ ?_
  .refine z5i (λj=>∃g:List (Int × Int),pops v g=pops v y/\(∀p∈g,p∈l)/\g.length<=J.length/\j=[.s (.lst (l.map vec)),.s (.fn 0),.o (.lst (g.reverse.map vec)),.s (vec v)]) (λj=>nL j 2) ⟨y,rfl,C,z,rfl⟩ ?_;rintro j ⟨g,m,i,u,rfl⟩;ac_nf
   match g,m,i,u with
   | [],m,i,u=>
    refine t_no (by simp) ?_;refine z3e ?_;exact⟨[],by rw[<- m];rfl,i,u,rfl⟩
   | [b],m,i,u=>
    refine t_no (by simp) ?_;refine z3e ?_;exact⟨[b],by rw[<- m];rfl,i,u,rfl⟩
   | b::a::r,m,i,u=>
    refine z5Y (by simp;lia) ?_;ac_nf;refine z99 rfl ?_;ac_nf;refine z0T (z0s zhA) ?_;ac_nf;refine z0T (z0s zl6) ?_;ac_nf;have K:∀p,p∈l->Vb 20000000 p:=N;refine zba (K a (i a (by simp))) (K b (i b (by simp))) (K v M) ?_;ac_nf;refine z0k (λL =>?_) (λL =>?_)
    .refine zll (z0w rfl ?_);unfold popL;rw[we,jU,wO,show (b::a::r).reverse[(b::a::r).length - 1]? = some b by simp];refine⟨⟨a::r,?_,λp I=>i p (wp _ I),by simp at u ⊢;lia,?_⟩,?_⟩
     .rw[<- m];show _=pops v (b::a::r);rw[pops,if_pos L]
     .simp
     .show List.length _<List.length _;simp
    .exact⟨b::a::r,by rw[<- m,pops,if_neg L],i,u,rfl⟩
  .rintro j ⟨g,m,i,u,rfl⟩;refine z4g (l:=[]) (z0w rfl ?_);ac_nf;have O:J.length<l.length:=by rw[e];simp
   refine⟨by simp;exact szl' (by lia),Safe.of_noL rfl rfl _,?_⟩;ac_rfl;refine⟨v::g,.s (vec v),?_,λp I =>?_,by simp;lia,by simp⟩
   .unfold z2j at w ⊢;rw[List.foldl_append, <- w,m]
    rfl
   .rcases wm.mp I with rfl | I
    .exact M
    .exact i p I
 rintro j ⟨y,x,w,C,z,rfl⟩;ac_nf;rw[w];exact q
def z5f {a:Type}(l:List a):(l.drop (HT.sIx l.length 0 none)).take (HT.sIx l.length l.length (some (-1)) - HT.sIx l.length 0 none)=l.dropLast:=by
 rw[List.dropLast_eq_take];show (l.drop 0).take ((if (-1)<0 then ((-1:Int)+l.length).toNat else min (-1).toNat l.length) - 0)=_
 grind
def z6G {l:List (Int × Int)}{Q:DK}{X:XP}(g:Wb 20000000 l)(hz:l.length<=100000)(q:Q (vecs (hull l))):z2b.run [.lst (l.map vec),.fn 0] Q X:=by
 walk_at "fn";ac_nf;rw[we];refine z0k (λh =>?_) (λh =>?_)
 .ac_nf;rw[hull,if_pos (by lia)] at q;exact q
 ac_nf;refine z6o g hz ?_;have f:∀(l:List (Int × Int)) (s:List (Int × Int)),(l.foldl (λs v=>v::pops v s) s).length<=l.length+s.length:=by
  have i:∀(v:Int × Int) (s:List (Int × Int)),(pops v s).length<=s.length:=by
   intro v s
   induction s with
   | nil=>exact wq _
   | cons b s e=>
    cases s with
    | nil=>exact wq _
    | cons a s=>
     rw[pops]
     split
     .exact Nat.le_succ_of_le e
     .exact wq _
  intro l
  induction l with
  | nil=>intro s;simp
  | cons v l e=>
   intro s;rw[List.foldl_cons];have:=e (v::pops v s);have:=i v s;simp only[wQ] at*;lia
 have m:(z2j l).length<=l.length:=wM (f l []) (wq _);have o:(z2j l.reverse).length<=l.length:=wM (f l.reverse []) (by simp);refine z0j ?_ ?_
 .exact⟨trivial,trivial,trivial,trivial,trivial⟩
 ac_rfl;ac_nf;refine zbR ?_;ac_nf;rw[<- jP];refine z6o (λp j=>g p (by simpa using j)) (by simpa using hz) ?_;refine z0j ⟨trivial,trivial,trivial,trivial,trivial⟩ ?_;ac_rfl;ac_nf;rw[z1G,z1G,z5f,z5f];refine zbS (by simp;exact szl (by lia)) ?_;ac_nf;rw[<- wA];rw[hull,if_neg (by lia)] at q;exact q
def zfw {a b:Int × Int}:HT.z0x [a.1,a.2] [b.1,b.2]=true↔Lx a b:=by
 rw[HT.z0P,HT.z0P];unfold Lx
 split
 .split
  .rw[HT.z2X]
   simp_all
  .simp;lia
 .simp;lia
def pk (p:Int × Int):List Int:=[p.1,p.2]
def zfh {p r:Int × Int}(h:pk p=pk r):p=r:=by
 unfold pk at h
 grind
def zdr:∀{ks b:List (List Int)}{l:List (Int × Int)},ks=l.map pk->Rows ks b->∃a:List (Int × Int),b=a.map pk/\a.Pairwise Lx/\∀p,p∈a↔p∈l:=by
 intro ks b l e h;have j:∀k∈b,∃p,k=pk p:=λk i=>by
  have:=(h.mem k).mp i;rw[e] at this;obtain⟨p,_,rfl⟩:=wj.mp this;exact⟨p,rfl⟩
 have m:∃a:List _,b=a.map pk:=by
  clear h e
  induction b with
  | nil=>exact⟨[],rfl⟩
  | cons k b n=>
   obtain⟨p,d⟩:=j k ww;obtain⟨a,f⟩:=n λk i=>j k (wp _ i);exact⟨p::a,by rw[d,f];rfl⟩
 obtain⟨a,rfl⟩:=m;refine⟨a,rfl,?_,λp =>?_⟩
 .have:=h.up;rw[wS] at this;exact this.imp λz=>zfw.mp z
 .have:=h.mem (pk p);rw[e] at this
  constructor
  .intro d;obtain⟨r,f,g⟩:=wj.mp (this.mp (wj.mpr ⟨p,d,rfl⟩));rw[<- zfh g];exact f
  .intro d;obtain⟨r,f,g⟩:=wj.mp (this.mpr (wj.mpr ⟨p,d,rfl⟩));rw[<- zfh g];exact f
def Vs (d:D)(l:List (Int × Int)):Prop:=d = .tup (l.map vec)\/d = .lst (l.map vec)
def zaV (l:List (Int × Int)):l.map vec=(l.map pk).map tupD:=by rw[wJ];rfl
def Vs.set {d:D}{l:List (Int × Int)}{P:List (List Int)->Prop}(h:Vs d l)(hz:l.length<=63)(q:P (l.map pk)):zb8 d P:=by
 rcases h with rfl | rfl
 .exact⟨l.map pk,zaV l,by simpa using hz,q⟩
 .exact⟨l.map pk,zaV l,by simpa using hz,q⟩
def z0F {d:D}{l:List (Int × Int)}{Q:DK}{X:XP}(g:Vs d l)(f:Wb 20000000 l)(hz:l.length<=63)(q:∀h,Hd l h->Q (vecs h)):z07.run [d] Q X:=by
 walk_at "fn";refine g.set hz ⟨λk i =>?_,λu h =>?_⟩
 .obtain⟨p,_,rfl⟩:=wj.mp i;unfold pk;simp
 obtain⟨o,rfl,e,b⟩:=zdr rfl h;ac_nf;rw[<- zaV];have nd  := e.imp λz=>z.ne;have r  := z1X nd λx m=>(b x).mp m;exact z6G (λp j=>f p ((b p).mp j)) (by lia) (q _ ⟨o,e,b,rfl⟩)
def dot (p r:Int × Int):Int:=p.1*r.1+p.2*r.2
def zal {l:List (Int × Int)}{b:Int × Int}{Q:DK}{X:XP}(j:Vb 30000000 b)(r:Wb 30000000 l)(u:l≠[])(hz:l.length<sizeLine)(q:∀m,m∈l.map (dot · b)->(∀p∈l,dot p b<=m)->Q (.int m)):z3N.run [vecs l,vec b] Q X:=by
 walk_at "fn";refine⟨by simp_all,?_⟩;refine z1o (g:=λp =>.int (dot p b)) (λp f K i =>?_) ?_
 .ac_nf;exact z2V (r p f) j i
 have e:(l.map λp=>D.int (dot p b))=(l.map (dot · b)).map D.int:=by rw[wJ];rfl
 rw[e];refine zfm (by simpa using u) λk o w=>q k o λp f=>w _ (wj.mpr ⟨p,f,rfl⟩)
end Pu
namespace Geo
def z0a.cyc {S:P->Prop}{h:List P}(x:z0a S h)(l:2<=h.length){j:Nat}(g:j<h.length){a b:P}(e:h[(j+h.length - 1) % h.length]? = some a)(f:h[j]? = some b):Edge S a b:=by
 obtain⟨m,t,rfl,n,o,p,d⟩:=x.ex
 rcases d with ⟨rfl,_⟩ | ⟨_,d⟩
 .simp at l
 cases j with
 | zero=>
  rw[show (0+(m::t).length - 1) % (m::t).length=(m::t).length - 1 by simp_all] at e;simp at f;subst f;refine z6N (i:=(m::t).length - 1) d ?_ ?_
  .grind
  .simp
 | succ j=>
  rw[show (j+1+(m::t).length - 1) % (m::t).length=j by rw[show j+1+(m::t).length - 1=j+(m::t).length by lia,ul];exact w6 (by lia)] at e;refine z6N (i:=j) d ?_ ?_
  .rw[wH (by lia)];exact e
  .rw[wH g];exact f
def In (h:List P)(p:P):Prop:=match h with
 | []=>False
 | [m]=>p=m
 | [a,b]=>cr a b p=0/\0<=dot a b p/\0<=dot b a p
 | h=>∀j a b,j<h.length->h[(j+h.length - 1) % h.length]? = some a->h[j]? = some b->0<=cr a b p
def In.three {h:List P}{p:P}(d:3<=h.length):In h p↔∀j a b,j<h.length->h[(j+h.length - 1) % h.length]? = some a->h[j]? = some b->0<=cr a b p:=by
 match h,d with
 | a::b::c::r,_=>rfl
def z0a.in {S:P->Prop}{h:List P}(x:z0a S h){p:P}(d:S p):In h p:=by
 match h,x with
 | [],x=>obtain⟨m,t,e,_⟩:=x.ex;cases e
 | [m],x=>
  obtain⟨w,t,e,q,s,u,f⟩:=x.ex
  cases e
  rcases f with ⟨_,f⟩ | ⟨f,_⟩
  .exact f p d
  simp_all
 | [a,b],x=>
  have g:Edge S a b:=x.cyc (j:=1) (by simp) (by simp) (by simp) rfl;have i:Edge S b a:=x.cyc (j:=0) (by simp) (by simp) (by simp) rfl;have A:cr b a p = -cr a b p:=by unfold cr;grind
  have z:cr a b p=0:=by have:=g.left p d;have:=i.left p d;lia
  exact⟨z,g.btw p d z⟩
 | a::b::c::r,x=>exact λj y z o l n=>(x.cyc (by simp) o l n).left p d
def cy (h:List P)(i:Nat):P:=h.getD (i % h.length) (0,0)
def z1k {h:List P}{i:Nat}(a:0<h.length):h[i % h.length]? = some (cy h i):=by
 unfold cy;have:=jq i a
 simp_all
def z3r {h:List P}{i:Nat}(a:0<h.length):cy h i∈h:=wD (z1k a)
def z6L {i n:Nat}(a:0<n):((i+1) % n+n - 1) % n=i % n:=by
 have b:=jq i a;have e:(i+1) % n=(i % n+1) % n:=by simp
 rw[e]
 rcases wN (i % n+1) n with z | z
 .rw[w6 z,show i % n+1+n - 1=i % n+n by lia,ul,w6 b]
 .have:i % n+1=n:=by lia
  rw[this,Nat.mod_self,Nat.zero_add,w6 (by lia)];lia
def z3s {S:P->Prop}{h:List P}(x:z0a S h)(a:2<=h.length)(i:Nat):Edge S (cy h i) (cy h (i+1)):=
 x.cyc a (jq _ (by lia)) (by rw[z6L (by lia)];exact z1k (by lia)) (z1k (by lia))
def zfH {S:P->Prop}{h:List P}(x:z0a S h)(o:3<=h.length)(i:Nat):cy h i≠cy h (i+2):=λz=>by
 have f:=x.nodup;have m:=z1k (h:=h) (i:=i) (by lia);have d:=z1k (h:=h) (i:=i+2) (by lia);rw[<- z] at d;obtain⟨a,g⟩:=wv.mp m;obtain⟨b,j⟩:=wv.mp d;have e:i % h.length=(i+2) % h.length:=by
  rcases ux _ _ with y | y | y
  .exact(vI.mp f _ _ a b y (g.trans j.symm)).elim
  .exact y
  .exact(vI.mp f _ _ b a y (j.trans g.symm)).elim
 have l:(i+2) % h.length=(i % h.length+2) % h.length:=by simp
 rw[l] at e;generalize i % h.length=r at*
 rcases wN (r+2) h.length with y | y
 .rw[w6 y] at e;lia
 .have n:(r+2) % h.length=r+2 - h.length:=by
   rw[Nat.mod_eq_sub_mod y];exact w6 (by lia)
  lia
theorem zbE {R:P->P->Prop}:∀{l:List P},(∀i a b,l[i]? = some a->l[i+1]? = some b->R a b)->Path R l
 | [],_=>trivial
 | [_],_=>trivial
 | x::y::r,h=>⟨h 0 x y rfl rfl,zbE λi a b d e=>h (i+1) a b (by simpa using d) (by simpa using e)⟩
def zej {y m z p:P}(a:0<=cr y m p)(b:0<=cr m z p)(d:0<cr y m z)(e:Lx m y)(f:Lx m z)(g:Lx p m):False:=by
 unfold Lx at e f g;have q:=zfO (u1:=y.1 - m.1) (u2:=y.2 - m.2) (w1:=m.1 - p.1) (w2:=m.2 - p.2) (z1:=z.1 - m.1) (z2:=z.2 - m.2) (by lia) (by lia) (by lia) (by unfold cr at a;grind) (by unfold cr at b;grind);unfold cr at d
 grind
def z0a.fill {S T:P->Prop}{h:List P}(x:z0a S h)(l:∀p∈h,T p)(g:∀p,T p->In h p):z0a T h:=by
 have sub:=x.sub
 match h,x,l,g,sub with
 | [],x,_,_,_=>obtain⟨m,t,e,_⟩:=x.ex;cases e
 | [m],x,l,g,_=>exact⟨m,[],rfl,l m (by simp),λp d=>by rw[g p d];exact Lx.irr,by simp,.inl ⟨rfl,g⟩⟩
 | [a,b],x,l,g,sub=>
  obtain⟨m,t,e,h1,w,I,h4⟩:=x.ex
  cases e
  have r:Edge S a b:=x.cyc (j:=1) (by simp) (by simp) (by simp) rfl;have a3:Lx a b:=by
   rcases Lx.tri a b with z | z | z
   .exact z
   .exact absurd z r.ne
   .exact absurd z (w b r.sb)
  refine⟨a,[b],rfl,l a (by simp),λp d z =>?_,I,.inr ⟨by simp,⟨⟨l a (by simp),l b (by simp),r.ne,λp d =>?_,λp d _=>(g p d).2⟩,⟨l b (by simp),l a (by simp),vG r.ne,λp d =>?_,λp d _=>⟨(g p d).2.2,(g p d).2.1⟩⟩,trivial⟩⟩⟩
  .obtain⟨y1,y2,y3⟩:=g p d;obtain⟨L,M⟩:=a;obtain⟨U,W⟩:=b;obtain⟨C,E⟩:=p;simp only[cr,dot,Lx] at*;generalize a6:U - L=u1 at*;generalize a7:W - M=u2 at*;generalize a4:C - L=q1 at*;generalize a5:E - M=F at*;have hz:q1<0\/q1=0/\F<0:=by lia
   rcases(show 0<u1\/u1=0/\0<u2 by lia) with u | ⟨u,k2⟩
   .have r:(q1*u1+F*u2)*u1=q1*(u1*u1+u2*u2):=by grind
    have n1:=z0e u1;have n2:=z0e u2;have n3:0<u1*u1:=vD u u;have Y:0<=q1*(u1*u1+u2*u2):=by rw[<- r];exact wV y2 (vq u)
    have e3:0<=q1:=z4e (show 0<u1*u1+u2*u2 by lia) Y;have Z:q1=0:=by lia
    subst Z;have G:u1*F=0:=by lia
    rcases wZ.mp G with z | z <;> lia
   .subst u;have G:u2*q1=0:=by lia
    rcases wZ.mp G with z | z
    .lia
    .subst z;have:0<=F*u2:=by lia
     have:=z4e k2 this;lia
  .rw[(g p d).1];exact jy _
  .have z0:cr b a p = -cr a b p:=by unfold cr;grind
   rw[z0,(g p d).1];exact jy _
 | a0::R::X::r0,x,l,g,sub=>
  generalize hh:a0::R::X::r0=h at*;have A:3<=h.length:=by rw[<- hh];simp
  have n:∀p,T p->∀i,0<=cr (cy h i) (cy h (i+1)) p:=λp d i=>by
   have q:=(In.three A).mp (g p d) ((i+1) % h.length) (cy h i) (cy h (i+1)) (jq _ (by lia));exact q (by rw[z6L (by lia)];exact z1k (by lia)) (z1k (by lia))
  have Qa:=z3s x (by lia);have J:=zfH x A;have K:∀i,0<cr (cy h i) (cy h (i+1)) (cy h (i+2)):=λi=>z5T (Qa i) (Qa (i+1)) (J i);have N:∀i,T (cy h i):=λi=>l _ (z3r (by lia));have H:∀i,Edge T (cy h (i+1)) (cy h (i+2)):=λi=>⟨N _,N _,(Qa (i+1)).ne,λp d=>n p d (i+1),λp d z=>⟨z9J (K i) (n p d i) z,zbW (K (i+1)) (n p d (i+2)) z⟩⟩
  have f:∀i,cy h (i+h.length)=cy h i:=λi=>by unfold cy;rw[ul]
  obtain⟨m,t,e,h1,w,I,h4⟩:=x.ex;have s:cy h 0=m:=by unfold cy;rw[e];simp
  refine⟨m,t,e,l m (by rw[e];simp),λp d z =>?_,I,.inr ⟨λy=>by rw[e,y] at A;simp at A,zbE λi a b ea eb =>?_⟩⟩
  .have l1:Lx m (cy h 1):=by
    rcases Lx.tri m (cy h 1) with y | y | y
    .exact y
    .exact absurd (s.trans y) (Qa 0).ne
    .exact absurd y (w _ (Qa 0).sb)
   have O:Edge S (cy h (h.length - 1)) m:=by
    have:=Qa (h.length - 1);rw[show h.length - 1+1=0+h.length by lia,f,s] at this;exact this
   have l2:Lx m (cy h (h.length - 1)):=by
    rcases Lx.tri m (cy h (h.length - 1)) with y | y | y
    .exact y
    .exact absurd y.symm O.ne
    .exact absurd y (w _ O.sa)
   have C:=n p d (h.length - 1);rw[show h.length - 1+1=0+h.length by lia,f,s] at C;have E:=n p d 0;rw[s] at E;have Q:=K (h.length - 1);rw[show h.length - 1+1=0+h.length by lia,show h.length - 1+2=1+h.length by lia,f,f,s] at Q;exact zej C E Q l2 l1 z
  .have hn:h.length=t.length+1:=by rw[e];simp
   have get:∀i z,(m::t++[m])[i]? = some z->i<=h.length/\z=cy h i:=λi z o=>by
    rcases ux i h.length with y | y | y
    .rw[<- e,wH y] at o;refine⟨by lia,?_⟩;have:=z1k (h:=h) (i:=i) (by lia);rw[w6 y,o] at this;exact(vh this)
    .rw[<- e,wU (by lia),y] at o;simp at o;refine⟨by lia,?_⟩;rw[show i=0+h.length by lia,f,s];exact o.symm
    .rw[<- e,v5 (by simp;lia)] at o
     cases o
   obtain⟨i1,rfl⟩:=get i a ea;obtain⟨i2,rfl⟩:=get (i+1) b eb;have:=H (i+h.length - 1);rw[show i+h.length - 1+1=i+h.length by lia,show i+h.length - 1+2=i+1+h.length by lia,f,f] at this;exact this
end Geo
namespace Pu
open PySem L2
def zcS {a:Type}{l:List a}{k:Nat}(h:k<l.length):atI l (k:Int)=l[k]? := by
 unfold atI ixN
 simp_all
def zcR {a:Type}{x:a}{r:List a}:atI (x::r) 0=some x:=zcS (by simp)
def zmM {d:Type}{l:List d}{k:Nat}(h:k<l.length):atI l ((k:Int) - 1)=l[(k+l.length - 1) % l.length]? := by
 unfold atI ixN
 by_cases a:0<=(k:Int) - 1
 .rw[if_pos a,if_pos (by lia)];show l[((k:Int) - 1).toNat]? = _;rw[show (k+l.length - 1) % l.length=k - 1 by rw[show k+l.length - 1=(k - 1)+l.length by lia,ul];exact w6 (by lia)]
  congr 1
  lia
 .rw[if_neg a,if_pos (by lia)];have b:k=0:=by lia
  subst b;show l[(((0:Nat):Int) - 1+(l.length:Int)).toNat]? = _;rw[show (0+l.length - 1) % l.length=l.length - 1 by rw[Nat.zero_add];exact w6 (by lia)]
  congr 1
  lia
abbrev P:=Geo.P
def stp (a b:P):P:=(b.1 - a.1,b.2 - a.2)
def rt (s:P):P:=(s.2,-s.1)
def z0y (h:List P)(j:Nat):List (P × P):=(rt (stp (Geo.cy h (j+h.length - 1)) (Geo.cy h j)),Geo.cy h j)::if h.length=2 then [(stp (Geo.cy h (j+h.length - 1)) (Geo.cy h j),Geo.cy h j)] else []
def ways:List P:=[(1,0),(0,1),(-1,0),(0,-1)]
def z0O (h:List P):List (P × P):=if h.length=1 then ways.map λb=>(b,Geo.cy h 0) else (List.range h.length).flatMap (z0y h)
abbrev zgO (x:P × P):D :=.tup [vec x.1,vec x.2]
def z6n {s:P}{Q:DK}{X:XP}(q:Q (vec (rt s))):z2d.run [vec s] Q X:=by
 walk_at "fn";ac_nf;exact q
def z8h {h:List P}{k:Nat}(a:k<h.length):atI h (k:Int)=some (Geo.cy h k):=by
 rw[zcS a, <- z1k (by lia),w6 a]
def zkU {h:List P}{k:Nat}(a:k<h.length):atI h ((k:Int) - 1)=some (Geo.cy h (k+h.length - 1)):=by rw[zmM a,z1k (by lia)]
def z50 {h:List P}{Q:DK}{X:XP}(hz:h.length<=100000)(N:h≠[])(q:Q (.lst ((z0O h).map zgO))):z1t.run [vecs h,.fn 2] Q X:=by
 have C:0<h.length:=ve.mpr N;walk_at "fn";ac_nf;rw[we];refine z0k (λL =>?_) (λL =>?_)
 .ac_nf;show onL (z01 (vecs ways)) _;ac_nf;refine⟨by rw[we];exact szl' (by decide),?_⟩;refine z1o (g:=λb=>zgO (b,Geo.cy h 0)) (λb R K J =>?_) ?_
  .ac_nf;refine z0T (z0s (z8h (k:=0) C)) ?_;ac_nf;exact J
  .rw[z0O,if_pos (by lia),wJ] at q;exact q
 refine zf2 ?_;refine z3R (zdk ?_);ac_nf;refine z2G (λx O=>by cases O) ?_;ac_rfl;ac_nf;rw[we];refine z9x (by lia) (by lia) ?_;have w:((h.length:Nat):Int).toNat=h.length:=by simp
 rw[w];have m:∀i:List Nat,(i.flatMap (z0y h)).length<=2*i.length:=by
  intro i
  induction i with
  | nil=>simp
  | cons k i W=>
   rw[List.flatMap_cons,wC];have:(z0y h k).length<=2:=by unfold z0y;split <;> simp
   simp only[wQ];lia
 refine z0m (f:=λ(j:Nat)=>D.int (j:Int)) (λi p=>∃x y z:B,(∀d,noL d=true->noD d=true->True)/\p=[.s (vecs h),.s (.fn 2),.o (.lst ((i.flatMap (z0y h)).map zgO)),x,y,z]) ⟨_,_,_,λ_ _ _=>trivial,rfl⟩ ?_ ?_
 .rintro i k r p e ⟨x,y,z,_,rfl⟩;have u:k<h.length:=by
   have:k∈List.range h.length:=by rw[e];simp
   simpa using this
  have U:i.length<h.length:=by
   have:=congrArg List.length e;simp at this;lia
  have M:=m i;show Sm.run _ _ _ _ _;ac_rfl;ac_nf;refine z0T (z0s (z8h u)) ?_;refine z0j (Safe.of_noL rfl rfl _) ?_;ac_rfl;ac_nf;refine z99 rfl ?_;ac_nf;refine z0T (z0s (zkU u)) ?_;ac_nf;refine z1V ?_;refine z0j (Safe.of_noL rfl rfl _) ?_;ac_rfl;refine z3R (z4g (l:=[]) (z0w rfl ?_));ac_nf;refine z6n ?_;ac_nf;refine⟨by rw[we];exact szl' (by lia),Safe.of_noL rfl rfl _,?_⟩;ac_rfl;ac_nf;rw[we];refine z0k (λI =>?_) (λI =>?_)
  .refine z4g (l:=[]) (z0w rfl ?_);ac_nf;refine⟨by rw[wC,we];exact szl' (by simp only[wQ,uc];lia),Safe.of_noL rfl rfl _,?_⟩;ac_rfl;refine⟨.s (.int (k:Int)),.s (vec (Geo.cy h k)),.s (vec (stp (Geo.cy h (k+h.length - 1)) (Geo.cy h k))),λ_ _ _=>trivial,?_⟩;rw[List.flatMap_append,wA,List.flatMap_cons,List.flatMap_nil,vV,z0y,if_pos (by lia)];simp[stp]
  .ac_nf;refine⟨.s (.int (k:Int)),.s (vec (Geo.cy h k)),.s (vec (stp (Geo.cy h (k+h.length - 1)) (Geo.cy h k))),λ_ _ _=>trivial,?_⟩;rw[List.flatMap_append,wA,List.flatMap_cons,List.flatMap_nil,vV,z0y,if_neg (by lia)];simp[stp]
 rintro p ⟨x,y,z,_,rfl⟩;ac_nf;rw[z0O,if_neg (by lia)] at q;exact q
def z4d {a b p:P}:dot p (rt (stp a b))<=dot b (rt (stp a b))↔0<=Geo.cr a b p:=by
 have e:dot b (rt (stp a b)) - dot p (rt (stp a b))=Geo.cr a b p:=by
  unfold dot rt stp Geo.cr
  grind
 lia
def z5v {a b p:P}:dot p (stp a b)<=dot b (stp a b)↔0<=Geo.dot b a p:=by
 have e:dot b (stp a b) - dot p (stp a b)=Geo.dot b a p:=by
  unfold dot stp Geo.dot
  grind
 lia
def z5u {h:List P}{s:P × P}(a:h.length≠1)(hs:s∈z0O h):∃j,j<h.length/\s∈z0y h j:=by
 rw[z0O,if_neg a] at hs
 simp_all
def z2M {h:List P}{s:P × P}{j:Nat}(b:h.length≠1)(a:j<h.length)(hs:s∈z0y h j):s∈z0O h:=by
 rw[z0O,if_neg b,List.mem_flatMap];exact⟨j,ub.mpr a,hs⟩
def zdd {h:List P}{p:P}(w:h≠[])(hs:∀s∈z0O h,dot p s.1<=dot s.2 s.1):In h p:=by
 match h,w,hs with
 | [m],_,hs=>
  have f:=hs ((1,0),m) (by simp[z0O,ways,Geo.cy]);have g:=hs ((0,1),m) (by simp[z0O,ways,Geo.cy]);have d:=hs ((-1,0),m) (by simp[z0O,ways,Geo.cy]);have e:=hs ((0,-1),m) (by simp[z0O,ways,Geo.cy]);unfold dot at f g d e;dsimp only at f g d e;show p=m;exact uo (by lia) (by lia)
 | [a,b],_,hs=>
  have q:∀s,s∈z0y [a,b] 0->s∈z0O [a,b]:=λs z=>z2M (by simp) (by simp) z;have t:∀s,s∈z0y [a,b] 1->s∈z0O [a,b]:=λs z=>z2M (by simp) (by simp) z;have f:=z4d.mp (hs _ (q (rt (stp b a),a) (by simp[z0y,Geo.cy])));have g:=z4d.mp (hs _ (t (rt (stp a b),b) (by simp[z0y,Geo.cy])));have d:=z5v.mp (hs _ (q (stp b a,a) (by simp[z0y,Geo.cy])));have e:=z5v.mp (hs _ (t (stp a b,b) (by simp[z0y,Geo.cy])));have A:Geo.cr b a p = -Geo.cr a b p:=by unfold Geo.cr;grind
  exact⟨by lia,d,e⟩
 | a::b::c::r,_,hs=>
  refine(In.three (by simp)).mpr λj x y o ex u =>?_;have l:Geo.cy (a::b::c::r) j=y:=by
   have:=z1k (h:=a::b::c::r) (i:=j) (by simp);rw[w6 o,u] at this;exact(vh this).symm
  have n:Geo.cy (a::b::c::r) (j+(a::b::c::r).length - 1)=x:=by
   have:=z1k (h:=a::b::c::r) (i:=j+(a::b::c::r).length - 1) (by simp);rw[ex] at this;exact(vh this).symm
  have:=hs (rt (stp x y),y) (z2M (j:=j) (by simp) o (by rw[z0y,l,n];exact ww));exact z4d.mp this
def z9s {S:P->Prop}{h:List P}(x:z0a S h){s:P × P}(hs:s∈z0O h):s.2∈h/\∀p,S p->dot p s.1<=dot s.2 s.1:=by
 by_cases g:h.length=1
 .obtain⟨m,rfl⟩:∃m,h=[m]:=by
   match h,g with
   | [m],_=>exact⟨m,rfl⟩
  rw[z0O,if_pos g] at hs;obtain⟨b,n,rfl⟩:=wj.mp hs;refine⟨by simp[Geo.cy],λp a =>?_⟩;have:p=m:=x.in a;subst this;exact jy _
 .obtain⟨j,o,hs⟩:=z5u g hs;have i:2<=h.length:=by lia
  have e:=z3s x i (j+h.length - 1);rw[show j+h.length - 1+1=j+h.length by lia,show Geo.cy h (j+h.length)=Geo.cy h j by unfold Geo.cy;rw[ul]] at e;unfold z0y at hs
  rcases wm.mp hs with rfl | hs
  .exact⟨z3r (by lia),λp a=>z4d.mpr (e.left p a)⟩
  .split at hs
   .rename_i d
    rw[wo.mp hs];refine⟨z3r (by lia),λp a=>z5v.mpr ?_⟩;have f:=z3s x i j;have l:Geo.cy h (j+h.length - 1)=Geo.cy h (j+1):=by unfold Geo.cy;rw[d];congr 1
    rw[l] at e ⊢;have t:Geo.cr (Geo.cy h j) (Geo.cy h (j+1)) p = -Geo.cr (Geo.cy h (j+1)) (Geo.cy h j) p:=by unfold Geo.cr;grind
    have q:=e.left p a;have r:=f.left p a;exact(f.btw p a (by lia)).1
   .cases hs
end Pu
namespace Geo
def sc (p b:P):Int:=p.1*b.1+p.2*b.2
def zaL (b:P):∀{h:List P},h≠[]->∃i,i<h.length/\∀p∈h,sc p b<=sc (cy h i) b:=by
 have d:∀{h:List P},h≠[]->∃c∈h,∀p∈h,sc p b<=sc c b:=by
  intro h
  induction h with
  | nil=>intro z;exact absurd rfl z
  | cons x r m=>
   intro _
   cases r with
   | nil=>simp_all
   | cons y r=>
    obtain⟨c,g,f⟩:=m (by simp)
    by_cases z:sc x b<=sc c b
    .refine⟨c,wp _ g,λp a =>?_⟩
     rcases wm.mp a with rfl | a
     .exact z
     .exact f p a
    .refine⟨x,by simp,λp a =>?_⟩
     rcases wm.mp a with rfl | a
     .exact jy _
     .have:=f p a;lia
 intro h l;obtain⟨c,g,f⟩:=d l;obtain⟨i,j,e⟩:=wT.mp g;refine⟨i,j,λp a =>?_⟩;have:cy h i=c:=by
  have:=z1k (h:=h) (i:=i) (by lia);rw[w6 j,wt j,e] at this
  simp_all
 rw[this];exact f p a
def z0a.far {S:P->Prop}{h:List P}(x:z0a S h){p:P}(l:In h p)(b:P):∃c∈h,sc p b<=sc c b:=by
 match h,x,l with
 | [],x,_=>obtain⟨m,t,e,_⟩:=x.ex;cases e
 | [m],x,l=>exact⟨m,by simp,by rw[show p=m from l];exact jy _⟩
 | [y,z],x,l=>
  obtain⟨H,O,I⟩:=l;have E:Edge S y z:=x.cyc (j:=1) (by simp) (by simp) (by simp) rfl;have J:=E.ne;obtain⟨y1,y2⟩:=y;obtain⟨r,s⟩:=z;obtain⟨u,w⟩:=p;obtain⟨d,f⟩:=b;simp only[cr,dot] at H O I;generalize a3:r - y1=u1 at*;generalize a4:s - y2=u2 at*;generalize a1:u - y1=n at*;generalize a2:w - y2=o at*;have g:0<u1*u1+u2*u2:=by
   have:=z0e u1;have:=z0e u2
   rcases ju (show 0<=u1*u1+u2*u2 by lia) with k | k
   .exact k
   .obtain⟨U,W⟩:=z3Z k.symm;exact(J (uo (by show y1=r;lia) (by show y2=s;lia))).elim
  by_cases hb:0<=u1*d+u2*f
  .refine⟨(r,s),by simp,?_⟩;simp only[sc];have U:y1 - r = -u1:=by lia
   have W:y2 - s = -u2:=by lia
   have k3:u - r=n - u1:=by lia
   have k4:w - s=o - u2:=by lia
   rw[U,W,k3,k4] at I;have a:(r*d+s*f - (u*d+w*f))*(u1*u1+u2*u2)=((n - u1) * -u1+(o - u2) * -u2)*(u1*d+u2*f)+(u1*o - u2*n)*(u2*d - u1*f):=by
    have E:r=u1+y1:=by lia
    have e2:s=u2+y2:=by lia
    have F:u=n+y1:=by lia
    have G:w=o+y2:=by lia
    subst E e2 F G
    grind
   rw[H,jz,uD] at a;have:=z4e g (by rw[a];exact wV I hb);lia
  .refine⟨(y1,y2),by simp,?_⟩;simp only[sc];have a:(y1*d+y2*f - (u*d+w*f))*(u1*u1+u2*u2)=(n*u1+o*u2) * -(u1*d+u2*f) - (u1*o - u2*n)*(u1*f - u2*d):=by
    have F:u=n+y1:=by lia
    have G:w=o+y2:=by lia
    subst F G
    grind
   rw[H,jz,Int.sub_zero] at a;have:=z4e g (by rw[a];exact wV O (by lia));lia
 | a0::Z::c0::r0,x,l=>
  generalize Q:a0::Z::c0::r0=h at*;have R:3<=h.length:=by rw[<- Q];simp
  have A:∀i,0<=cr (cy h i) (cy h (i+1)) p:=λi=>by
   have q:=(In.three R).mp l ((i+1) % h.length) (cy h i) (cy h (i+1)) (jq _ (by lia));exact q (by rw[z6L (by lia)];exact z1k (by lia)) (z1k (by lia))
  have Qa:=z3s x (by lia);have L:=zfH x R;have tn:∀i,0<cr (cy h i) (cy h (i+1)) (cy h (i+2)):=λi=>z5T (Qa i) (Qa (i+1)) (L i);have C:∀i,cy h (i+h.length)=cy h i:=λi=>by unfold cy;rw[ul]
  obtain⟨i,hi,T⟩:=zaL b (h:=h) (by rw[<- Q];simp);refine⟨cy h i,z3r (by lia),?_⟩;have m1:=T (cy h (i+h.length - 1)) (z3r (by lia));have m2:=T (cy h (i+1)) (z3r (by lia));have M:=tn (i+h.length - 1);have X:=A (i+h.length - 1);have Y:=A i;rw[show i+h.length - 1+1=i+h.length by lia,C] at M X;rw[show i+h.length - 1+2=(i+1)+h.length by lia,C] at M;generalize cy h (i+h.length - 1)=y at*;generalize cy h i=c at*;generalize cy h (i+1)=z at*;unfold cr at M X Y;unfold sc at m1 m2 ⊢;have N:0<(z.1 - c.1)*(y.2 - c.2) - (z.2 - c.2)*(y.1 - c.1):=by grind
  have K:0<=(p.1 - c.1)*(y.2 - c.2) - (p.2 - c.2)*(y.1 - c.1):=by grind
  have a:(c.1*b.1+c.2*b.2 - (p.1*b.1+p.2*b.2))*((z.1 - c.1)*(y.2 - c.2) - (z.2 - c.2)*(y.1 - c.1))=((p.1 - c.1)*(y.2 - c.2) - (p.2 - c.2)*(y.1 - c.1))*(c.1*b.1+c.2*b.2 - (z.1*b.1+z.2*b.2))+((z.1 - c.1)*(p.2 - c.2) - (z.2 - c.2)*(p.1 - c.1))*(c.1*b.1+c.2*b.2 - (y.1*b.1+y.2*b.2)):=by grind
  have n1:=wV K (show 0<=c.1*b.1+c.2*b.2 - (z.1*b.1+z.2*b.2) by lia);have n2:=wV Y (show 0<=c.1*b.1+c.2*b.2 - (y.1*b.1+y.2*b.2) by lia);have:=z4e N (by rw[a];lia);lia
theorem z3H:∀{l:List Int},(∀x∈l,0<=x)->0<=l.sum/\∀x∈l,x<=l.sum
 | [],_=>⟨by simp,λx a=>by cases a⟩
 | y::l,h=>by
  have d:=z3H (l:=l) λx a=>h x (by simp[a]);have b:=h y (by simp);rw[vp]
  grind
end Geo
namespace Pu
open PySem L2
def Far (m:Int)(p:Int × Int):Prop:=(-m<=p.1/\p.1<=m) /\ -m<=p.2/\p.2<=m
def Far.vb {m:Int}{n:Nat}{p:Int × Int}(h:Far m p)(f:m<2 ^ n):Vb n p:=by
 obtain⟨⟨a,b⟩,d,e⟩:=h;refine⟨z08 ?_,z08 ?_⟩ <;> lia
def zdn {s t:Sm}{b:Pu.Env}{N:Pu.Env->Prop}{Q:DK}{X:XP}(W:Pu.Env->Prop)(h:s.run b W Q X)(k:∀a,W a->t.run a N Q X):(Sm.seq s t).run b N Q X:=s.mono b W _ Q Q X X k (λ_ z=>z) (λ_ z=>z) h
def zfJ {a:Type}{f:a->D}{l:List a}{k:Int}(h:0<=k):cutD (l.map f) (some k) none=(l.drop k.toNat).map f:=by
 have hs:HT.sIx l.length 0 (some k)=min k.toNat l.length:=by
  show (if k<0 then (k+l.length).toNat else min _ _)=_;rw[if_neg (by lia)]
 rw[z1G,hs];show ((l.drop _).take (l.length - min _ _)).map f=_;rw[vL (by simp)]
 simp_all
open Mth
structure Pl (x y b u v t:Int):Prop where
 pos:0<t
 cop:Int.gcd ((Int.gcd u v:Nat):Int) t=1
 cx:u*b=x*t
 cy:v*b=y*t
def Pl.of {x y b u v t:Int}(h:Plc x y b u v t):Pl x y b u v t:=⟨by have:=h.pos;lia,h.cop,h.cx,h.cy⟩
def z7i {u v t b:Int}(e:Int.gcd ((Int.gcd u v:Nat):Int) t=1)(h:t ∣ u*b)(i:t ∣ v*b):t ∣ b:=by
 have f:t.natAbs ∣ u.natAbs*b.natAbs:=by rw[<- ud];simp_all
 have g:t.natAbs ∣ v.natAbs*b.natAbs:=by rw[<- ud];simp_all
 have d:=j5 f g;rw[Nat.gcd_mul_right] at d;have a:Nat.Coprime t.natAbs (Nat.gcd u.natAbs v.natAbs):=by
  rw[z31,jW] at e;exact e
 exact uB.mp (a.dvd_of_dvd_mul_left d)
def Pl.dvd {x y b u v t:Int}(h:Pl x y b u v t):t ∣ b:=z7i h.cop ⟨x,by rw[h.cx,vN]⟩ ⟨y,by rw[h.cy,vN]⟩
def Pl.eq {x y b u v t a i t':Int}(p:0<b)(h:Pl x y b u v t)(k:Pl x y b a i t'):u=a/\v=i/\t=t':=by
 have g:b≠0:=by lia
 have cr:∀{u a x:Int},u*b=x*t->a*b=x*t'->u*t'=a*t:=λ{u a x} n o=>by
  apply vj g
  calc u*t'*b=(u*b)*t':=by grind
   _=(a*b)*t:=by rw[n,o];grind
   _=a*t*b:=by grind
 have d:=cr h.cx k.cx;have f:=cr h.cy k.cy;have l:t ∣ t':=z7i h.cop ⟨a,by rw[d,vN]⟩ ⟨i,by rw[f,vN]⟩;have m:t' ∣ t:=z7i k.cop ⟨u,by rw[<- d,vN]⟩ ⟨v,by rw[<- f,vN]⟩;have e:t=t':=Int.dvd_antisymm (by have:=h.pos;lia) (by have:=k.pos;lia) l m;subst e;have j:t≠0:=by have:=h.pos;lia
 exact⟨vj j d,vj j f,rfl⟩
def Pl.bt {x y b u v t:Int}{n m:Nat}(i:0<b)(h:Pl x y b u v t)(f:Bt n b)(g:Bt m x)(d:Bt m y):Bt n t/\Bt m u/\Bt m v:=by
 obtain⟨k,a⟩:=h.dvd;have j:=h.pos;have le:∀{u x:Int},u*b=x*t->u.natAbs<=x.natAbs:=λ{u x} e=>by
  have:u*k=x:=by
   apply vj (show t≠0 by lia);rw[<- e,a]
   grind
  rw[<- this,ud];exact Nat.le_mul_of_pos_right _ (by lia)
 refine⟨f.of_abs ?_,g.of_abs (le h.cx),d.of_abs (le h.cy)⟩;rw[a,ud];exact Nat.le_mul_of_pos_right _ (by lia)
def zcT (a:Int):(if a<0 then -a else a)=(a.natAbs:Int):=by split <;> lia
def z25 {a b:Int}{Q:DK}{X:XP}(q:Q (.int ((Int.gcd a b:Nat):Int))):z04.run [.int a,.int b] Q X:=by
 walk_at "fn";ac_nf;rw[zcT,zcT];refine z5i (λf=>∃(g s:Nat) (x:B),Nat.gcd g s=Int.gcd a b/\f=[.s (.int a),.s (.int b),.s (.int (g:Int)),.s (.int (s:Int)),x]) (λf=>(nI f 3).toNat) ⟨a.natAbs,b.natAbs,_,rfl,rfl⟩ ?_;rintro f ⟨g,s,x,e,rfl⟩;ac_nf;refine z2L (z0k (λz =>?_) (λz =>?_))
 .ac_nf;have:s=0:=by lia
  subst this;rw[Nat.gcd_zero_right] at e;rw[e];exact q
 .ac_nf;have i:(g:Int) % (s:Int)=((g % s:Nat):Int):=by simp
  refine⟨⟨s,g % s,_,by rw[<- e,jW g s,Nat.gcd_rec s g,jW],by rw[i]⟩,?_⟩;show ((g:Int) % (s:Int)).toNat<((s:Nat):Int).toNat
  rw[i];have:=jq g (show 0<s by lia);lia
def z61 {x y b:Int}{Q:DK}{X:XP}(e:0<b)(f:Bt 8000 b)(q:∀u v t,Pl x y b u v t->Q (.tup [.int u,.int v,.int t])):z1S.run [.int x,.int y,.int b] Q X:=by
 have g:=zfg (x:=x) (y:=y) e;have j:=z9T (x:=x) (y:=y) e;have i:Bt 9000 _:=Bt.le (f.of_abs (by
  have:=uB.mpr (z5c x y b);exact Nat.le_of_dvd (by lia) this))
 walk_at "fn";ac_nf;refine z25 ?_;ac_nf;refine z25 ?_;rw[show ((Int.gcd _ y:Nat):Int)=g3 x y b from rfl];ac_nf;exact q _ _ _ (Pl.of g)
def z2U {x y z a b c:Int}{Q:DK}{X:XP}(hz:0<z)(I:0<c)(w:Int.gcd ((Int.gcd x y:Nat):Int) z=1)(C:Int.gcd ((Int.gcd a b:Nat):Int) c=1)(Z:Bt 8000 x)(O:Bt 8000 y)(e:Bt 8000 z)(R:Bt 8000 a)(U:Bt 8000 b)(f:Bt 8000 c)
  (q:∀u v t,Pl (x*c+a*z) (y*c+b*z) (z*c) u v t->Q (.tup [.int u,.int v,.int t])):z0W.run [.tup [.int x,.int y,.int z],.tup [.int a,.int b,.int c]] Q X:=by
 obtain⟨g,i⟩:∃g,g=((Int.gcd z c:Nat):Int):=⟨_,rfl⟩
 obtain⟨u,m⟩:∃u,u=x*(c / g)+a*(z / g):=⟨_,rfl⟩
 obtain⟨v,o⟩:∃v,v=y*(c / g)+b*(z / g):=⟨_,rfl⟩
 obtain⟨r,j⟩:∃r,r=((Int.gcd ((Int.gcd g u:Nat):Int) v:Nat):Int):=⟨_,rfl⟩
 obtain⟨p,J,gl,K,pl⟩:=z7M hz I w C i m o j;have W:Bt 9000 g:=Bt.le (e.of_abs gl);have Y:Bt 9000 r:=Bt.le (e.of_abs K);have L:Bt 8000 (c / g):=f.of_abs (z0l p);have M:Bt 8000 (z / g):=e.of_abs (z0l p);have N:Bt 8000 (c / r):=f.of_abs (z0l J);walk_at "fn";ac_nf;refine z25 ?_;rw[<- i];ac_nf;rw[<- m, <- o];refine z25 ?_;ac_nf;refine z25 ?_;rw[<- j];ac_nf;exact q _ _ _ (Pl.of pl)
def gcd0 (u t:Int):Int.gcd ((Int.gcd u 0:Nat):Int) t=Int.gcd u t:=by simp[Int.gcd]
def Pl.low {t b:Int}(f:0<b):Pl t 0 b (t / (Int.gcd t b:Int)) 0 (b / (Int.gcd t b:Int)):=by
 obtain⟨i,a,d,h,e⟩:=z42 (t:=t) f;refine⟨by lia,by rw[gcd0];exact e,?_,by simp⟩;generalize (Int.gcd t b)=g at*;generalize t / g=u at*;generalize b / g=w at*;rw[d,a]
 grind
def z8L {a b c d:Int}{Q:DK}{X:XP}(C:0<b)(I:0<d)(p:Int.gcd a b=1)(w:Int.gcd c d=1)(O:Bt 8000 a)(e:Bt 8000 b)(R:Bt 8000 c)(f:Bt 8000 d)
  (q:∀u t,Pl (a*d+c*b) 0 (b*d) u 0 t->Q (.tup [.int u,.int t])):z4M.run [.tup [.int a,.int b],.tup [.int c,.int d]] Q X:=by
 obtain⟨g,i⟩:∃g,g=((Int.gcd b d:Nat):Int):=⟨_,rfl⟩
 obtain⟨t,m⟩:∃t,t=a*(d / g)+c*(b / g):=⟨_,rfl⟩
 obtain⟨r,j⟩:∃r,r=((Int.gcd g t:Nat):Int):=⟨_,rfl⟩
 obtain⟨o,J,gl,K,pl⟩:=z7M (x:=a) (y:=0) (z:=b) (a:=c) (b:=0) (c:=d) (v:=0) (r:=r) C I (by rw[gcd0];exact p) (by rw[gcd0];exact w) i m (by simp) (by rw[j];simp);have U:Bt 9000 g:=Bt.le (e.of_abs gl);have W:Bt 9000 r:=Bt.le (e.of_abs K);have L:Bt 8000 (d / g):=f.of_abs (z0l o);have M:Bt 8000 (b / g):=e.of_abs (z0l o);have N:Bt 8000 (d / r):=f.of_abs (z0l J);walk_at "fn";ac_nf;refine z25 ?_;rw[<- i];ac_nf;rw[<- m];refine z25 ?_;rw[<- j];ac_nf;have:=Pl.of pl;simp only[Int.zero_ediv,jz,uD] at this;exact q _ _ this
abbrev Sh:=Nat × Int × Int
abbrev shD (s:Sh):D :=.tup [.int (s.1:Int),.tup [.int s.2.1,.int s.2.2]]
def wx (l:List P)(k:Nat):Int:=(Geo.cy l k).1
def wy (l:List P)(k:Nat):Int:=(Geo.cy l k).2
def z0E {c k m:Int}{Q:DK}{X:XP}(g:0<=k)(b:k<=1000)(e:0<m)(q:∀r:Int,0<=r->r<m->Q (.int r)):z00.run [.int c,.int k,.int m] Q X:=by
 have f:Bt 700 (c % 170141183460469231731687303715884105727+(k+3)*1000000007):=(Bt.add (z08 (n:=130) (by lia)) (z08 (n:=130) (by lia))).le;walk_at "fn";ac_nf;exact q _ (j3 _ (by lia)) (jv _ e)
def Ln (d:D):Prop:=d = .non\/∃p:P,d=vec p/\Far 3 p
def zbd {c m:Int}{Q:DK}{X:XP}(u:0<=m)(r:m<=1000000000)(q:∀p,Far 1000000000 p->Q (vec p)):z0d.run [.int c,.int m] Q X:=by
 have b:0<2*m+1:=by lia
 have e:Bt 640 m:=z08 (by lia);have f:Bt 9000 (2*m+1):=Bt.le (m:=40) (z08 (by lia));walk_at "fn";ac_nf;have g:=j3 c (show 2*m+1≠0 by lia);have i:=jv c b;have j:=j3 (c / (2*m+1)) (show 2*m+1≠0 by lia);have o:=jv (c / (2*m+1)) b;exact q (c % (2*m+1) - m,c / (2*m+1) % (2*m+1) - m) ⟨⟨by lia,by lia⟩,by lia,by lia⟩
abbrev wtD (x:List P × P):D :=.tup [vecs x.1,vec x.2]
def zbT (x:List P × P):noL (wtD x)=true:=by
 have:=z27 x.1;simpa[noLs,noL] using this
def zbU (x:List P × P):noD (wtD x)=true:=by
 have:=z28 x.1;simpa[noDs,noD] using this
def min2 (a b:Int):(if b<a then b else a)=min a b:=by split <;> lia
def z6p {n d:Nat}{k:Int}(h:0<=k):HT.sIx n d (some k)=min k.toNat n:=by
 show (if k<0 then (k+n).toNat else min _ n)=_;rw[if_neg (by lia)]
def zbg {ns:List Int}{Q:DK}{X:XP}(q:∀c,(c % 2=1->ns≠[])->Q (.int c)):z0g.run [.lst (ns.map .int),.int 0] Q X:=by
 walk_at "fn";refine z0k (λh =>?_) (λh =>?_)
 .ac_nf;rw[we] at h;obtain⟨v,_,e⟩:=z3W (by decide) h;rw[z0s e];exact q v λ_ z=>by simp_all
 .exact q 0 λz=>by lia
theorem z4v {b d:Type}{f:b->D}{g:d->D}{P:b->d->Prop}{G:D->(Option D->Prop)->Prop}:∀{l:List b}{M:List D->Prop},(∀x∈l,∀K:Option D->Prop,(∀y,P x y->K (some (g y)))->G (f x) K)->(∀a:List d,a.length=l.length->(∀(i:Nat) (h:i<l.length),∃y,a[i]? = some y/\P l[i] y)->M (a.map g))->z4x G (l.map f) M
 | [],_,_,q=>q [] rfl (λi h=>absurd h (by simp))
 | x::r,M,h,q=>h x ww _ λy m=>z4v (λz n=>h z (wp _ n)) λa j e=>q (y::a) (by simp[j]) λi o=>by
  cases i with
  | zero=>exact⟨y,rfl,m⟩
  | succ i=>exact e i _
def most (l:List P)(b:P):Int->Prop:=λm=>m∈l.map (dot · b)/\∀p∈l,dot p b<=m
def zh5 {l:List P}{b:P}{m n:Int}(h:most l b m)(k:most l b n):m=n:=by
 obtain⟨p,a,rfl⟩:=wj.mp h.1;obtain⟨r,d,rfl⟩:=wj.mp k.1;exact Int.le_antisymm (k.2 p a) (h.2 r d)
def Sums (ws:List (List P × P))(b:P)(t:Int):Prop:=∃a:List Int,a.length=ws.length/\(∀(i:Nat) (h:i<ws.length),∃m,most ws[i].1 b m/\a[i]? = some (m+dot ws[i].2 b))/\t=a.sum
def zfV {ws:List (List P × P)}{b:P}{s t:Int}(h:Sums ws b s)(k:Sums ws b t):s=t:=by
 obtain⟨p,l,e,rfl⟩:=h;obtain⟨q,o,f,rfl⟩:=k
 congr 1
 apply jH;intro i
 rcases wN i _ with z | z
 .obtain⟨m,g,a⟩:=e i z;obtain⟨n,j,d⟩:=f i z;rw[a,d,zh5 g j]
 simp_all
def Sums.nil {b:P}:Sums [] b 0:=⟨[],rfl,λi h=>absurd h (by simp),rfl⟩
def Sums.snoc {ws:List (List P × P)}{x:List P × P}{b:P}{s m:Int}(h:Sums ws b s)(k:most x.1 b m):Sums (ws++[x]) b (s+m+dot x.2 b):=by
 obtain⟨g,d,e,rfl⟩:=h;refine⟨g++[m+dot x.2 b],by simp[d],λi f =>?_,by simp[uM];lia⟩
 rcases wN i _ with z | z
 .obtain⟨n,j,a⟩:=e i z;refine⟨n,?_,?_⟩
  .simp_all
  .rw[wH (by lia),List.getElem_append_left z];exact a
 .obtain rfl:i=ws.length:=by simp at f;lia
  simp_all
def z7C {p r:P}{Q:DK}{X:XP}(b:Vb 30000000 p)(e:Vb 30000000 r)(q:Q (.int (dot p r))):z0o.run [vec p,vec r] Q X:=by
 obtain⟨f,g⟩:=b;obtain⟨i,j⟩:=e;walk_at "fn";ac_nf;exact q
def z9Y (p r:P):dot p r=dot r p:=by
 simp[dot];rw[vN p.1,vN p.2]
def zh0 (l:List (List P × P)):noL (.tup (l.map wtD))=true:=by
 refine z1O λd a =>?_;obtain⟨x,_,rfl⟩:=wj.mp a;exact zbT x
def zh2 (l:List (List P × P)):noD (.tup (l.map wtD))=true:=by
 refine z1P λd a =>?_;obtain⟨x,_,rfl⟩:=wj.mp a;exact zbU x
abbrev zfZ (s:P × P):D :=.tup [vec s.1,.int (dot s.2 s.1)]
def zfX {h:List P}(n:h≠[])(l:Wb 10000000 h){s:P × P}(hs:s∈z0O h):Vb 20000000 s.1/\s.2∈h:=by
 have d  := ve.mpr n
 by_cases m:h.length=1
 .rw[z0O,if_pos m] at hs;obtain⟨b,a,rfl⟩:=wj.mp hs;refine⟨?_,z3r d⟩;show Vb _ b;unfold ways at a;simp[wm,wz,vK] at a
  rcases a with rfl | rfl | rfl | rfl <;> exact⟨(bt_k (by decide +kernel)).le,(bt_k (by decide +kernel)).le⟩
 .obtain⟨j,o,hs⟩:=z5u m hs;have f:=l _ (z3r (i:=j+h.length - 1) d);have g:=l _ (z3r (i:=j) d);have e:Vb 20000000 (stp _ _):=⟨(Bt.sub g.1 f.1).le,(Bt.sub g.2 f.2).le⟩
  rcases wm.mp hs with rfl | hs
  .exact⟨⟨e.2,e.1.neg⟩,z3r d⟩
  .split at hs
   .rw[wo.mp hs];exact⟨e,z3r d⟩
   .cases hs
def zfY {S:P->Prop}{h:List P}(x:z0a S h){s:P × P}(hs:s∈z0O h):s.1≠(0,0):=by
 by_cases d:h.length=1
 .rw[z0O,if_pos d] at hs;obtain⟨b,a,rfl⟩:=wj.mp hs;show b≠(0,0);unfold ways at a;simp only[wm,wz,vK] at a
  rcases a with rfl | rfl | rfl | rfl <;> decide
 .obtain⟨j,l,hs⟩:=z5u d hs;have e:=z3s x (by lia) (j+h.length - 1);rw[show j+h.length - 1+1=j+h.length by lia,show Geo.cy h (j+h.length)=Geo.cy h j by unfold Geo.cy;rw[ul]] at e;have g:stp (Geo.cy h (j+h.length - 1)) (Geo.cy h j)≠(0,0):=λz=>by
   unfold stp at z
   injection z with f i
   exact e.ne (uo (by lia) (by lia))
  unfold z0y at hs
  rcases wm.mp hs with rfl | hs
  .intro z;unfold rt at z
   injection z with f i
   exact g (uo (by dsimp only;lia) f)
  simp_all
def zb6 (h:List P):(z0O h).length<=2*h.length+4:=by
 unfold z0O
 split
 .simp[ways]
 .have:∀a:List Nat,(a.flatMap (z0y h)).length<=2*a.length:=by
   intro a
   induction a with
   | nil=>simp
   | cons k a b=>
    rw[List.flatMap_cons,wC];have:(z0y h k).length<=2:=by unfold z0y;split <;> simp
    grind
  grind
def zah {d:D}{l:List P}{Q:DK}{X:XP}(y:Vs d l)(f:Wb 10000000 l)(z:l≠[])(hz:l.length<=63)(q:∀h,Hd l h->Q (.tup ((z0O h).map zfZ))):z3K.run [d] Q X:=by
 walk_at "fn";ac_nf;refine z0F y f.le hz λh j =>?_;have x:=j.is z;have hs:=x.sub;have J:h.length<=l.length:=z1X x.nodup hs;have b:h≠[]:=by
  obtain⟨m,t,u,_⟩:=x.ex;rw[u];simp
 ac_nf;refine z50 (by lia) b ?_;have I:=zb6 h;refine z0j ⟨trivial,trivial,trivial⟩ ?_;ac_rfl;ac_nf;refine⟨by rw[we];exact szl' (by lia),?_⟩;refine z1o (g:=zfZ) (λs i K w =>?_) ?_
 .obtain⟨o,r⟩:=zfX b (λp C=>f p (hs p C)) i;refine⟨rfl,?_⟩;show Ex.run _ _ _ _;unfold z0c z0c z0c;ac_rfl;ac_nf;refine z2V o.le ((f _ (hs _ r)).le) ?_;ac_nf;have e:s.1.1*s.2.1+s.1.2*s.2.2=dot s.2 s.1:=by unfold dot;grind
  rw[e];exact w
 ac_nf;exact q h j
def zkd {x y:Bool}{Q:DK}{X:XP}(q:Q (.bl (!decide (x=y)))):pNe.run [.bl x,.bl y] Q X:=q
theorem filterMap_map {a b:Type}{f:a->Option b}{g:a->b}:∀{ks:List a},(∀k∈ks,f k=some (g k))->ks.filterMap f=ks.map g
 | [],_=>rfl
 | k::ks,h=>by rw[uv,h k (by simp),wL,filterMap_map λx d=>h x (by simp[d])]
def zhi {S T:P->Prop}{h:List P}(x:z0a T h)(hs:∀p∈h,S p)(f:∀p,S p->∀b:P,∃c,T c/\dot p b<=dot c b):z0a S h:=by
 refine x.fill hs λp g=>zdd (by obtain⟨m,t,d,_⟩:=x.ex;rw[d];simp) λs hs =>?_;obtain⟨c,e,a⟩:=f p g s.1;exact Int.le_trans a ((z9s x hs).2 c e)
def z2H {p r:P}{Q:DK}{X:XP}(q:Q (vec (p.1+r.1,p.2+r.2))):z0L.run [vec p,vec r] Q X:=by
 walk_at "fn";ac_nf;exact q
def mv (s p:P):P:=(p.1+s.1,p.2+s.2)
def zam {l:List P}{s:P}{Q:DK}{X:XP}(b:Wb 600 l)(hs:Vb 600 s)(hz:l.length<=62)(q:∀h,Hd (l.map (mv s)) h->Q (vecs h)):z3O.run [.tup [vecs l,vec s]] Q X:=by
 walk_at "fn";ac_nf;refine⟨by rw[we];exact szl' (by lia),?_⟩;refine z1o (g:=λp=>vec (mv s p)) (λp e K i =>?_) ?_
 .ac_nf;exact z2H i
 refine z0F (.inr (by rw[wJ];rfl)) (λp e =>?_) (by simp;lia) q;obtain⟨v,f,rfl⟩:=wj.mp e;exact⟨(Bt.add (b v f).1 hs.1).le,(Bt.add (b v f).2 hs.2).le⟩
end Pu
namespace Geo
def cx (u v:P):Int:=u.1*v.2 - u.2*v.1
def Rs (u:P):Prop:=0<u.1\/(u.1=0/\0<u.2)
instance (u:P):Decidable (Rs u):=inferInstanceAs (Decidable (_\/_))
def Be (u v:P):Prop:=(Rs u/\¬ Rs v)\/((Rs u↔Rs v)/\0<cx u v)
instance (u v:P):Decidable (Be u v):=inferInstanceAs (Decidable (_\/_))
def z7I {u:P}(h:u≠(0,0)):Rs (ng u)↔¬ Rs u:=by
 obtain⟨a,b⟩:=u;have:¬ (a=0/\b=0):=λ⟨d,e⟩=>h (by rw[d,e]);simp[Rs,ng];lia
def zaM (u v:P):cx (ng u) (ng v)=cx u v:=by simp[cx,ng];grind
def zfI (u v:P):cx (ng u) v=cx v u:=by simp[cx,ng];grind
def zcD (u v:P):cx u (ng v) = -cx u v:=by simp[cx,ng];grind
def zmj {u:P}(h:u≠(0,0)):ng u≠(0,0):=λz=>h (by
 have a:=congrArg Prod.fst z;have b:=congrArg Prod.snd z;simp[ng] at a b;exact uo (by lia) (by lia))
def zcn {u v w:P}(n:Rs u)(f:Rs v)(o:Rs w)(g:0<cx u v)(h:0<cx v w):0<cx u w:=by
 obtain⟨u1,b⟩:=u;obtain⟨a,d⟩:=v;obtain⟨w1,e⟩:=w;simp only[Rs,cx] at*;have j:(u1*e - b*w1)*a=(u1*d - b*a)*w1+(a*e - d*w1)*u1:=by grind
 rcases f with f | ⟨f,i⟩
 .rcases v6 0 (u1*e - b*w1) with z | z
  .exact z
  .exfalso
   have p:(u1*e - b*w1)*a<=0:=vC z (by lia);have q:0<=(u1*d - b*a)*w1:=wV (by lia) (by lia);have r:0<=(a*e - d*w1)*u1:=wV (by lia) (by lia);have m:(a*e - d*w1)*u1=0:=by omega
   have l:u1=0:=(wZ.mp m).resolve_left (by lia);subst l;have:=vD (show 0<b by lia) f;simp at g;lia
 .subst f;have:0<=d*w1:=wV (by lia) (by lia);simp at h;lia
def zcm {u v w:P}(n:Rs u)(a:Rs v)(o:Rs w)(h:0<cx u w):0<cx u v\/0<cx v w:=by
 obtain⟨b,g⟩:=u;obtain⟨i,j⟩:=v;obtain⟨w1,m⟩:=w;simp only[Rs,cx] at*
 rcases v6 0 _ with d | d
 .exact .inl d
 rcases v6 0 _ with f | f
 .exact .inr f
 exfalso
 have p:(b*j - g*i)*w1<=0:=vC d (by lia);have r:(i*m - j*w1)*b<=0:=vC f (by lia)
 rcases a with a | ⟨a,e⟩
 .have:=vD h a;lia
 .subst a;simp at d;have l:b=0:=by
   rcases v6 0 b with q | q
   .have:=vD q e;lia
   .lia
  subst l;have:0<=g*w1:=wV (by lia) (by lia);simp at h;lia
def Be.tr {u v w:P}(g:u≠(0,0))(h:v≠(0,0))(i:w≠(0,0))(f:Be u v)(e:Be v w):Be u w:=by
 rcases f with ⟨a,b⟩ | ⟨a,b⟩
 .rcases e with ⟨c,d⟩ | ⟨c,d⟩
  .exact absurd c b
  .exact .inl ⟨a,λz=>b (c.mpr z)⟩
 .rcases e with ⟨c,d⟩ | ⟨c,d⟩
  .exact .inl ⟨a.mpr c,d⟩
  .refine .inr ⟨a.trans c,?_⟩
   by_cases r:Rs u
   .exact zcn r (a.mp r) (c.mp (a.mp r)) b d
   .have:=zcn ((z7I g).mpr r) ((z7I h).mpr λz=>r (a.mpr z)) ((z7I i).mpr λz=>r (a.mpr (c.mpr z))) (by rw[zaM];exact b) (by rw[zaM];exact d)
    rwa [zaM] at this
def Be.wk {u v w:P}(d:u≠(0,0))(e:v≠(0,0))(f:w≠(0,0))(h:Be u w):Be u v\/Be v w:=by
 rcases h with ⟨a,b⟩ | ⟨a,b⟩
 .by_cases r:Rs v
  .exact .inr (.inl ⟨r,b⟩)
  .exact .inl (.inl ⟨a,r⟩)
 .by_cases r:Rs u
  .by_cases s:Rs v
   .rcases zcm r s (a.mp r) b with z | z
    .exact .inl (.inr ⟨⟨λ_=>s,λ_=>r⟩,z⟩)
    .exact .inr (.inr ⟨⟨λ_=>a.mp r,λ_=>s⟩,z⟩)
   .exact .inl (.inl ⟨r,s⟩)
  .by_cases s:Rs v
   .exact .inr (.inl ⟨s,λz=>r (a.mpr z)⟩)
   .rcases zcm ((z7I d).mpr r) ((z7I e).mpr s) ((z7I f).mpr λz=>r (a.mpr z)) (by rw[zaM];exact b) with z | z
    .rw[zaM] at z;exact .inl (.inr ⟨⟨λq=>absurd q r,λq=>absurd q s⟩,z⟩)
    .rw[zaM] at z;exact .inr (.inr ⟨⟨λq=>absurd q s,λq=>absurd (a.mpr q) r⟩,z⟩)
def Be.irr {u:P}:¬ Be u u:=by
 rintro(⟨a,b⟩ | ⟨_,b⟩)
 .exact b a
 .have:cx u u=0:=by simp[cx];grind
  lia
def Dt (t:P)(l:List P):Int:=(l.map (cx · t)).sum
def Dt.app (t:P)(l m:List P):Dt t (l++m)=Dt t l+Dt t m:=by unfold Dt;simp_all
theorem Dt.nonneg {t:P}:∀{l:List P},(∀u∈l,0<=cx u t)->0<=Dt t l
 | [],_=>by simp[Dt]
 | u::l,h=>by
  have:=Dt.nonneg (l:=l) λx a=>h x (by simp[a]);have:=h u (by simp);simp[Dt] at*;lia
theorem Dt.nonpos {t:P}:∀{l:List P},(∀u∈l,cx u t<=0)->Dt t l<=0
 | [],_=>by simp[Dt]
 | u::l,h=>by
  have:=Dt.nonpos (l:=l) λx a=>h x (by simp[a]);have:=h u (by simp);simp[Dt] at*;lia
theorem z6O {t:P}{R:P->P->Prop}(d:∀u v:P,R u v->Be v t->Be u t):∀{E:List P},E.Pairwise R->∃F G,E=F++G/\(∀u∈F,Be u t)/\(∀u∈G,¬ Be u t)
 | [],_=>⟨[],[],rfl,λ_ h=>by(cases h),λ_ h=>by(cases h)⟩
 | u::E,h=>by
  rw[wY] at h
  by_cases b:Be u t
  .obtain⟨F,G,e,f,g⟩:=z6O d h.2;exact⟨u::F,G,by rw[e];rfl,λx a=>(wm.mp a).elim (λz=>z ▸ b) (f x),g⟩
  .exact⟨[],u::E,rfl,λ_ h=>by(cases h),λx a=>(wm.mp a).elim (λz=>z ▸ b) λz q=>b (d u x (h.1 x z) q)⟩
def lead {t:P}(o:t≠(0,0)){E F G K L:List P}(i:∀u∈E,u≠(0,0))(hs:E.Pairwise Be)(I:Dt t E=0)(e:E=F++G)(x:∀u∈F,Be u t)(m:∀u∈G,¬ Be u t)(k:E=K++L):Dt t K<=Dt t F:=by
 have s:Dt t F+Dt t G=0:=by rw[<- Dt.app, <- e];exact I
 have J:∀u∈F,u≠(0,0):=λu b=>i u (by rw[e];simp[b]);have M:∀u∈G,u≠(0,0):=λu b=>i u (by rw[e];simp[b]);have C:=zmj o
 by_cases r:Rs t
 .have y:∀u∈F,0<cx u t:=λu b=>by
   rcases x u b with ⟨_,z⟩ | ⟨_,z⟩
   .exact absurd r z
   .exact z
  have R:0<=Dt t F:=Dt.nonneg λu b=>vq (y u b)
  rcases jM.mp (k.symm.trans e) with ⟨a,d,f⟩ | ⟨c,d,f⟩
  .have:0<=Dt t a:=Dt.nonneg λu b=>vq (y u (by rw[d];simp[b]));rw[d,Dt.app];lia
  .rw[d,Dt.app]
   rcases v6 0 (Dt t c) with z | z
   .exfalso
    obtain⟨u,b,n⟩:∃u∈c,0<cx u t:=by
     apply vZ;intro q;have:=Dt.nonpos (t:=t) (l:=c) λu b=>by
      rcases v6 0 (cx u t) with w | w
      .exact absurd ⟨u,b,w⟩ q
      .exact w
     lia
    have p:¬ Rs u:=λw=>m u (by rw[f];simp[b]) (.inr ⟨⟨λ_=>r,λ_=>w⟩,n⟩);have rt:¬ Rs (ng t):=λw=>(z7I o).mp w r;have j:Be (ng t) u :=.inr ⟨⟨λw=>absurd w rt,λw=>absurd w p⟩,by rw[zfI];exact n⟩;have U:0<=Dt t L:=Dt.nonneg λv h=>by
     have g:Be u v:=by
      rw[k,d,ua] at hs;exact hs.2.2 u (by simp[b]) v h
     have O:=i v (by rw[k];simp[h]);have H:=j.tr C (M u (by rw[f];simp[b])) O g
     rcases H with ⟨w,_⟩ | ⟨_,w⟩
     .exact absurd w rt
     .rw[zfI] at w;lia
    rw[f,Dt.app] at s;lia
   .lia
 .have A:∀u∈G,cx u t<=0:=λu b=>by
   have p:¬ Rs u:=λw=>m u b (.inl ⟨w,r⟩)
   rcases v6 0 (cx u t) with w | w
   .exact absurd (.inr ⟨⟨λq=>absurd q p,λq=>absurd q r⟩,w⟩) (m u b)
   .exact w
  have S:Dt t G<=0:=Dt.nonpos A
  rcases jM.mp (k.symm.trans e) with ⟨a,d,f⟩ | ⟨c,d,f⟩
  .rw[d,Dt.app]
   rcases v6 (Dt t a) 0 with z | z
   .exfalso
    obtain⟨v,h,n⟩:∃v∈a,cx v t<0:=by
     apply vZ;intro q;have:=Dt.nonneg (t:=t) (l:=a) λu b=>by
      rcases v6 (cx u t) 0 with w | w
      .exact absurd ⟨u,b,w⟩ q
      .exact w
     lia
    have Q:Rs v:=by
     rcases x v (by rw[d];simp[h]) with ⟨w,_⟩ | ⟨_,w⟩
     .exact w
     .lia
    have rt:Rs (ng t):=(z7I o).mpr r;have j:Be v (ng t) :=.inr ⟨⟨λ_=>rt,λ_=>Q⟩,by rw[zcD];lia⟩;have T:Dt t K<=0:=Dt.nonpos λu b=>by
     have g:Be u v:=by
      rw[k,f,ua] at hs;exact hs.2.2 u b v (by simp[h])
     have N:=i u (by rw[k];simp[b])
     rcases g.tr N (J v (by rw[d];simp[h])) C j with ⟨_,w⟩ | ⟨_,w⟩
     .exact absurd rt w
     .rw[zcD] at w;lia
    rw[d,Dt.app] at s;lia
   .lia
  .have:Dt t c<=0:=Dt.nonpos λu b=>A u (by rw[f];simp[b]);rw[d,Dt.app];lia
def sb (a b:P):P:=(b.1 - a.1,b.2 - a.2)
def pl (a b:P):P:=(a.1+b.1,a.2+b.2)
def vs (l:List P):P:=((l.map (·.1)).sum,(l.map (·.2)).sum)
def z1I (u:P)(l:List P):vs (u::l)=pl u (vs l):=rfl
def z9l (l m:List P):vs (l++m)=pl (vs l) (vs m):=by
 simp[vs,pl,wA,uM]
def vs_perm {l m:List P}(h:l.Perm m):vs l=vs m:=by
 induction h with
 | nil=>rfl
 | cons x _ d=>rw[z1I,z1I,d]
 | swap x y l=>simp only[z1I,pl];exact uo (by simp;lia) (by simp;lia)
 | trans _ _ a b=>exact a.trans b
theorem z9b (t:P):∀l:List P,Dt t l=cx (vs l) t
 | []=>by simp[Dt,vs,cx]
 | u::l=>by
  have a:=z9b t l;rw[z1I,show Dt t _=cx u t+Dt t l by simp[Dt],a];simp[cx,pl]
  grind
def df:List P->List P
 | a::b::r=>sb a b::df (b::r)
 | _=>[]
theorem z9Z:∀{r:List P}{a q:P},q∈a::r->∃K L,df (a::r)=K++L/\vs K=sb a q
 | [],a,q,h=>by
  rw[wo.mp h];exact⟨[],[],rfl,by simp[vs,sb]⟩
 | b::r,a,q,h=>by
  rcases wm.mp h with rfl | h
  .exact⟨[],_,rfl,by simp[vs,sb]⟩
  .obtain⟨K,L,e,v⟩:=z9Z h;refine⟨sb a b::K,L,by rw[df,e];rfl,?_⟩;rw[z1I,v];simp only[pl,sb];exact uo (by simp;lia) (by simp;lia)
theorem zkS:∀{r:List P}{a:P}{K L:List P},df (a::r)=K++L->∃q∈a::r,vs K=sb a q
 | [],a,K,L,h=>by
  have  := (jr.mp h.symm).1;subst this;exact⟨a,by simp,by simp[vs,sb]⟩
 | b::r,a,[],L,h=>⟨a,by simp,by simp[vs,sb]⟩
 | b::r,a,u::K,L,h=>by
  obtain⟨rfl,d⟩:=List.cons.inj h;obtain⟨q,e,v⟩:=zkS d;refine⟨q,wp _ e,?_⟩;rw[z1I,v];simp only[pl,sb];exact uo (by simp;lia) (by simp;lia)
theorem za1:∀{r:List P}{a z:P},vs (df (a::r++[z]))=sb a z
 | [],a,z=>by simp[df,vs,sb]
 | b::r,a,z=>by
  show vs (sb a b::df (b::r++[z]))=_;rw[z1I,za1];simp only[pl,sb];exact uo (by simp;lia) (by simp;lia)
theorem zfE:∀{r s:List P}{a m:P},df (a::r++m::s)=df (a::r++[m])++df (m::s)
 | [],s,a,m=>by
  rfl
 | b::r,s,a,m=>by
  show sb a b::df (b::r++m::s)=sb a b::df _++df _;rw[zfE]
  rfl
def mg:List P->List P->List P
 | E,[]=>E
 | E,f::F=>E.takeWhile (λu=>decide (Be u f))++f::mg (E.dropWhile (λu=>decide (Be u f))) F
theorem z4J:∀(E F:List P),(mg E F).Perm (E++F)
 | E,[]=>by simp[mg]
 | E,f::F=>by
  have a:=z4J (E.dropWhile (λu=>decide (Be u f))) F;refine(jC _ (a.cons f)).trans ?_
  conv=>rhs;rw[<- u9 (p:=λu=>decide (Be u f)) (l:=E),vz]
  exact jC _ jQ.symm
theorem zfq:∀{E F K L:List P},mg E F=K++L->∃b g d i,E=b++g/\F=d++i/\K.Perm (b++d)
 | E,[],K,L,h=>⟨K,L,[],[],h,rfl,by simp⟩
 | E,f::F,K,L,h=>by
  rw[mg] at h;have m:=u9 (p:=λu=>decide (Be u f)) (l:=E);generalize E.takeWhile (λu=>decide (Be u f))=T at*;generalize E.dropWhile (λu=>decide (Be u f))=R at*
  rcases jM.mp h with ⟨a,e,j⟩ | ⟨c,e,j⟩
  .cases a with
   | nil=>exact⟨T,R,[],f::F,m.symm,rfl,by rw[e]⟩
   | cons x a=>
    rw[List.cons_append] at j;obtain⟨rfl,n⟩:=List.cons.inj j;obtain⟨b,g,d,i,o,q,r⟩:=zfq n;refine⟨T++b,g,f::d,i,by rw[<- m,o,vz],by rw[q,List.cons_append],?_⟩;rw[e,vz];exact jC _ ((r.cons f).trans jQ.symm)
  .exact⟨K,c++R,[],f::F,by rw[<- m,e,vz],rfl,by simp⟩
def Nz (l:List P):Prop:=∀u∈l,u≠(0,0)
def Be.asym {u v:P}(a:u≠(0,0))(b:v≠(0,0))(h:Be u v):¬ Be v u:=λz=>Be.irr (h.tr a b a z)
theorem zkw:∀{E F:List P},Nz E->Nz F->E.Pairwise (λx y=>¬ Be y x)->F.Pairwise (λx y=>¬ Be y x)->(mg E F).Pairwise (λx y=>¬ Be y x)
 | E,[],_,_,h,_=>by rw[mg];exact h
 | E,f::F,H,I,g,n=>by
  have A:=u9 (p:=λu=>decide (Be u f)) (l:=E);have G:∀u∈E.takeWhile (λu=>decide (Be u f)),Be u f:=λu a=>by
   have:=jO.mp (List.all_takeWhile (p:=λu=>decide (Be u f)) (l:=E)) u a;simpa using this
  have o:∀d r,E.dropWhile (λu=>decide (Be u f))=d::r->¬ Be d f:=λd r e z=>by
   have:=List.head?_dropWhile_not (λu=>decide (Be u f)) E;rw[e] at this;simp at this;exact this z
  rw[mg];have K:=z4J (E.dropWhile (λu=>decide (Be u f))) F;generalize E.takeWhile (λu=>decide (Be u f))=T at*;generalize E.dropWhile (λu=>decide (Be u f))=R at*;have J:Nz T:=λu a=>H u (by rw[<- A];simp[a]);have s:Nz R:=λu a=>H u (by rw[<- A];simp[a]);have t:=I f (by simp);have m:Nz F:=λu a=>I u (by simp[a]);rw[<- A,ua] at g;rw[wY] at n;have L:=zkw s m g.2.1 n.2;have j:∀y∈mg R F,y∈R\/y∈F:=λy b=>wG.mp (K.mem_iff.mp b);rw[ua,wY];refine⟨g.1,⟨λy b =>?_,L⟩,λx i y b =>?_⟩
  .rcases j y b with z | z
   .cases R with
    | nil=>cases z
    | cons d r=>
     have C:=o d r rfl
     rcases wm.mp z with rfl | z
     .exact C
     .intro w
      rcases w.wk (v:=d) (s y (by simp[z])) (s d (by simp)) t with q | q
      .exact(wY.mp g.2.1).1 y z q
      .exact C q
   .exact n.1 y z
  .rcases wm.mp b with rfl | b
   .exact(G x i).asym (J x i) t
   .rcases j y b with z | z
    .exact g.2.2 x i y z
    .intro w;exact n.1 y z (w.tr (m y z) (J x i) t (G x i))
def zh7 {t:P}(p:t≠(0,0)){E F:List P}(j:Nz E)(m:Nz F)(C:E.Pairwise Be)(G:F.Pairwise Be)(zE:vs E=(0,0))(zF:vs F=(0,0)):
  ∃K L,mg E F=K++L/\∀r H s I,E=r++H->F=s++I->Dt t r+Dt t s<=Dt t K:=by
 have J:∀{l:List P},vs l=(0,0)->Dt t l=0:=λ{l} h=>by rw[z9b,h];simp[cx]
 have wk:∀{l:List P},Nz l->l.Pairwise Be->l.Pairwise (λx y=>¬ Be y x):=λ{l} n h=>by
  have:l.Pairwise λx y=>(x∈l/\y∈l):=u4 λx g y i=>⟨g,i⟩
  exact(h.and this).imp λ{x y} ⟨q,g,i⟩=>q.asym (n x g) (n y i)
 have z:∀{l:List P}{R:P->P->Prop},Nz l->l.Pairwise R->l.Pairwise λx y=>(x≠(0,0)/\y≠(0,0))/\R x y:=λ{l R} n h=>by
  have:l.Pairwise λx y=>(x≠(0,0)/\y≠(0,0)):=u4 λx g y i=>⟨n x g,n y i⟩
  exact this.and h
 have e:∀u v:P,((u≠(0,0)/\v≠(0,0))/\Be u v)->Be v t->Be u t:=λu v ⟨⟨a,b⟩,c⟩ d=>c.tr a b p d;have o:∀u v:P,((u≠(0,0)/\v≠(0,0))/\¬ Be v u)->Be v t->Be u t:=λu v ⟨⟨a,b⟩,c⟩ d=>(d.wk b a p).resolve_left c;have nM:Nz (mg E F):=λu f=>(wG.mp ((z4J E F).mem_iff.mp f)).elim (j u) (m u);obtain⟨X,E2,M,S,U⟩:=z6O e (z j C);obtain⟨F1,F2,N,T,W⟩:=z6O e (z m G);obtain⟨K,L,Q,pK,qK⟩:=z6O o (z nM (zkw j m (wk j C) (wk m G)));refine⟨K,L,Q,λr H s I Y Z =>?_⟩;have a1:=lead p j C (J zE) M S U Y;have a2:=lead p m G (J zF) N T W Z;have w:∀{A B:List P},(∀u∈A,Be u t)->(∀u∈B,¬ Be u t)->(A++B).filter (λu=>decide (Be u t))=A:=λ{A B} ha hb=>by
  rw[List.filter_append,List.filter_eq_self.mpr λu f=>wE (ha u f),List.filter_eq_nil_iff.mpr λu f=>by simpa using hb u f,vV]
 have O:=(z4J E F).filter (λu=>decide (Be u t));rw[Q,w pK qK,List.filter_append,M,w S U,N,w T W] at O;have:Dt t K=Dt t X+Dt t F1:=by rw[z9b,vs_perm O, <- z9b,Dt.app]
 lia
def rd (h:List P):List P:=if h.length=1 then [] else df (h++h.take 1)
def zky {a b c:P}(h:Lx a b)(k:Lx b c):Lx a c:=by
 simp[Lx] at*;lia
def zh8 {a b:P}(h:Lx a b):Rs (sb a b):=by
 simp[Lx,Rs,sb] at*;lia
def zc5 {a b:P}(h:Lx b a):¬ Rs (sb a b):=by
 simp only[Lx,Rs,sb] at*;lia
def zie {a b:P}(h:a≠b):sb a b≠(0,0):=λz=>h (by
 have d:=congrArg Prod.fst z;have e:=congrArg Prod.snd z;simp[sb] at d e
 grind)
theorem zeF {R:P->P->Prop}(e:∀a b,R a b->a≠b):∀{p:List P},Path R p->Nz (df p)
 | [],_=>λu d=>by(cases d)
 | [_],_=>λu d=>by(cases d)
 | a::b::r,h=>λu d=>by
  rcases wm.mp d with rfl | d
  .exact zie (e a b h.1)
  .exact zeF e h.2 u d
theorem za0 {p:List P}{u:P}:u∈df p->∃a b,(∀R:P->P->Prop,Path R p->R a b)/\u=sb a b:=by
 match p with
 | []=>intro h;cases h
 | [_]=>intro h;cases h
 | a::b::r=>
  intro h
  rcases wm.mp h with rfl | h
  .exact⟨a,b,λR q=>q.1,rfl⟩
  .obtain⟨x,y,q,e⟩:=za0 h;exact⟨x,y,λR w=>q R w.2,e⟩
theorem z6M {R:P->P->Prop}:∀{p:List P},p.Pairwise R->Path R p
 | [],_=>trivial
 | [_],_=>trivial
 | a::b::r,h=>by
  rw[wY] at h;exact⟨h.1 b (by simp),z6M h.2⟩
theorem zhp {S:P->Prop}{O:P->P->Prop}(j:∀a b c d:P,O a b->O c d->(Rs (sb a b)↔Rs (sb c d)))(tr:∀a b c:P,O a b->O b c->a≠c):∀{p:List P},Path (Edge S) p->Path O p->(df p).Pairwise Be
 | [],_,_ =>.nil
 | [_],_,_ =>.nil
 | [a,b],_,_=>List.pairwise_singleton _ _
 | a::b::c::r,h,o=>by
  have g:=zhp j tr h.2 o.2;have i:=zeF (λ_ _ e=>e.ne) h.2;rw[df,wY];refine⟨λu f =>?_,g⟩;have first:Be _ _ :=.inr ⟨j a b b c o.1 o.2.1,by
   have:=z5T h.1 h.2.1 (tr a b c o.1 o.2.1);have e:cr a b c=cx (sb a b) (sb b c):=by simp[cr,cx,sb];grind
   rwa [e] at this⟩
  rw[df] at f g i
  rcases wm.mp f with rfl | f
  .exact first
  .exact first.tr (zie h.1.ne) (i _ (by simp)) (i u (by simp[f])) ((wY.mp g).1 u f)
structure Rnd (h:List P):Prop where
 nz:Nz (rd h)
 up:(rd h).Pairwise Be
 zero:vs (rd h)=(0,0)
def Hd.rnd {l h:List P}(x:Hd l h)(H:l≠[]):Rnd h:=by
 obtain⟨rl,E,F,rfl⟩:=x;have I:rl≠[]:=λz=>by
  obtain⟨p,r,rfl⟩:=List.exists_cons_of_ne_nil H;have:=(F p).mpr (by simp);rw[z] at this
  cases this
 have Q:=ve.mpr I
 rcases wN rl.length 2 with z | z
 .have e:hull rl=rl:=if_pos (by lia);have:rd (hull rl)=[]:=by rw[e];exact if_pos (by lia)
  refine⟨?_,?_,?_⟩ <;> rw[this]
  .exact λu f=>by(cases f)
  .exact .nil
  .rfl
 .obtain⟨m,M,A,B,e,R,N,G,o,n,K,L,t,C⟩:=z6u z E;have i:rd (hull rl)=df (m::A++[M])++df (M::B++[m]):=by
   unfold rd;rw[if_neg (by rw[e];simp),e];show df (m::A++M::B++[m])=_;rw[vz,List.cons_append];exact zfE
  have s:=z6M K;have j:=z6M L;have g:∀a b,Edge (· ∈ rl) a b->a≠b:=λa b e=>e.ne;refine⟨?_,?_,?_⟩
  .rw[i];intro u f
   rcases wG.mp f with f | f
   .exact zeF g t u f
   .exact zeF g C u f
  .rw[i,ua];refine⟨zhp (O:=Lx) (λa b c d q w=>⟨λ_=>zh8 w,λ_=>zh8 q⟩) (λa b c q w z=>by subst z;exact Lx.irr (zky q w)) t s,zhp (O:=λx y=>Lx y x) (λa b c d q w=>⟨λz=>absurd z (zc5 q),λz=>absurd z (zc5 w)⟩) (λa b c q w z=>by subst z;exact Lx.irr (zky q w)) C j,λu f v J =>?_⟩;obtain⟨a,b,q,rfl⟩:=za0 f;obtain⟨c,d,w,rfl⟩:=za0 J;exact .inl ⟨zh8 (q _ s),zc5 (w _ j)⟩
  .rw[i,z9l,za1,za1];simp only[pl,sb];exact uo (by simp;lia) (by simp;lia)
def ziA {h:List P}{a:P}{r K L:List P}(e:h=a::r)(k:rd h=K++L):∃q∈h,vs K=sb a q:=by
 subst e;unfold rd at k
 split at k
 .have  := (jr.mp k.symm).1;subst this;exact⟨a,by simp,by simp[vs,sb]⟩
 .obtain⟨q,b,v⟩:=zkS k;refine⟨q,?_,v⟩;simp at b ⊢
  grind
def z9w {h:List P}{a q:P}{r:List P}(e:h=a::r)(b:q∈h):∃K L,rd h=K++L/\vs K=sb a q:=by
 subst e;unfold rd
 split
 .rename_i z
  have  := um.mp (by simpa using z);subst this;rw[wo.mp b];exact⟨[],[],rfl,by simp[vs,sb]⟩
 .exact z9Z (by simp at b ⊢;rcases b with z | z;exact .inl z;simp_all)
def join {r s e f r1 r2:List P}{a b:P}(N:Hd r e)(O:Hd s f)(G:r≠[])(H:s≠[])(m:e=a::r1)(n:f=b::r2):
  (∀K L,mg (rd e) (rd f)=K++L->∃p∈e,∃q∈f,pl (pl a b) (vs K)=pl p q)/\
  ∀p∈e,∀q∈f,∀d:P,∃K L,mg (rd e) (rd f)=K++L/\sc (pl p q) d<=sc (pl (pl a b) (vs K)) d:=by
 have g:=N.rnd G;have R2:=O.rnd H;refine⟨λK L k =>?_,λp h q i d =>?_⟩
 .obtain⟨Q,R,S,T,I,J,M⟩:=zfq k;obtain⟨p,h,j⟩:=ziA m I;obtain⟨q,i,l⟩:=ziA n J;refine⟨p,h,q,i,?_⟩;rw[vs_perm M,z9l,j,l];simp only[pl,sb]
  grind
 .by_cases o:d=(0,0)
  .subst o;exact⟨[],_,rfl,by simp[sc]⟩
  .have C:((-d.2,d.1):P)≠(0,0):=λz=>o (by
    have t:=congrArg Prod.fst z;have u:=congrArg Prod.snd z;simp at t u;exact uo u t)
   obtain⟨K,L,k,far⟩:=zh7 C g.nz R2.nz g.up R2.up g.zero R2.zero;obtain⟨w,y,E,j⟩:=z9w m h;obtain⟨x,A,F,l⟩:=z9w n i;refine⟨K,L,k,?_⟩;have:=far w y x A E F;rw[z9b,z9b,z9b,j,l] at this;simp only[cx,sb,sc,pl] at*
   grind
end Geo
namespace Pu
open PySem L2
def zkk {p r:Int × Int}{Q:DK}{X:XP}(q:Q (.bl (HT.z0x [r.1,r.2] [p.1,p.2]))):pGt.run [vec p,vec r] Q X:=q
def zfv (u:P):HT.z0x [(0:Int),0] [u.1,u.2]=decide (Geo.Rs u):=by
 rw[jZ];exact(zfw (a:=(0,0))).trans ⟨λh=>by simp[Lx,Geo.Rs] at *;lia,λh=>by simp[Lx,Geo.Rs] at *;lia⟩
def z7F {u v:P}{Q:DK}{X:XP}(hu:Vb 30000000 u)(g:Vb 30000000 v)(q:Q (.bl (decide (Be u v)))):z2C.run [vec u,vec v] Q X:=by
 walk_at "fn";ac_nf;refine zkk (p:=u) (r:=(0,0)) ?_;rw[show HT.z0x [((0,0):P).1,((0,0):P).2] [u.1,u.2]=decide (Geo.Rs u) from zfv u];ac_nf;refine zkk (p:=v) (r:=(0,0)) ?_;rw[show HT.z0x [((0,0):P).1,((0,0):P).2] [v.1,v.2]=decide (Geo.Rs v) from zfv v];ac_nf;refine zkd ?_;refine z2L (z0k (λe =>?_) (λe =>?_))
 .ac_nf;refine z3g hu g ?_;ac_nf;have f:Geo.Rs u↔Geo.Rs v:=by rw[<- decide_eq_true_iff (p:=Geo.Rs u),e,decide_eq_true_iff]
  have:decide (0<u.1*v.2 - u.2*v.1)=decide (Be u v):=decide_eq_decide.mpr ⟨λz =>.inr ⟨f,z⟩,λz=>by
   rcases z with ⟨a,b⟩ | ⟨_,b⟩
   .exact absurd (f.mp a) b
   .exact b⟩
  rw[this];exact q
 .ac_nf;have:decide (Geo.Rs u)=decide (Be u v):=decide_eq_decide.mpr ⟨λz =>.inl ⟨z,λw=>e (by rw[wE z,wE w])⟩,λz=>by
   rcases z with ⟨a,_⟩ | ⟨a,_⟩
   .exact a
   .exact absurd (decide_eq_decide.mpr a) e⟩
  rw[this];exact q
def z60 {E F:List P}{Q:DK}{X:XP}(Z:Wb 30000000 E)(hF:Wb 30000000 F)(zE:E.length<=1000)(zF:F.length<=1000)(q:Q (.lst ((Geo.mg E F).map vec))):z1R.run [.lst (E.map vec),.lst (F.map vec)] Q X:=by
 walk_at "fn";ac_nf;refine z2G (λx hx=>by cases hx) ?_;ac_rfl;ac_nf;refine z0m (f:=vec) (λI y=>∃(m:List P) (n:Nat) (R:B),(∀G,Geo.mg E (I++G)=m++Geo.mg (E.drop n) G)/\n<=E.length/\m.length=n+I.length/\y=[.s (.lst (E.map vec)),.s (.lst (F.map vec)),.o (.lst (m.map vec)),.s (.int (n:Int)),R]) ⟨[],0,_,λG=>by simp,by simp,by simp,rfl⟩ ?_ ?_
 .rintro I f r y e ⟨m,n,R,O,Y,W,rfl⟩;have hf:=hF f (by rw[e];simp);have hd:I.length<=1000:=by
   have:=congrArg List.length e;simp at this;lia
  show Sm.run _ _ _ _ _;ac_rfl;refine zdn (λL=>∃(g:List P) (j:Nat),g=m++(E.drop n).takeWhile (λu=>decide (Be u f))/\E.drop j=(E.drop n).dropWhile (λu=>decide (Be u f))/\j<=E.length/\g.length=j+I.length/\L=[.s (.lst (E.map vec)),.s (.lst (F.map vec)),.o (.lst (g.map vec)),.s (.int (j:Int)),.s (vec f)]) ?_ ?_
  .refine z5i (λy=>∃(g:List P) (j:Nat),g++(E.drop j).takeWhile (λu=>decide (Be u f))=m++(E.drop n).takeWhile (λu=>decide (Be u f))/\(E.drop j).dropWhile (λu=>decide (Be u f))=(E.drop n).dropWhile (λu=>decide (Be u f))/\j<=E.length/\g.length=j+I.length/\y=[.s (.lst (E.map vec)),.s (.lst (F.map vec)),.o (.lst (g.map vec)),.s (.int (j:Int)),.s (vec f)]) (λy=>((E.length:Int) - nI y 3).toNat) ⟨m,n,rfl,rfl,Y,W,rfl⟩ ?_;rintro y ⟨g,j,J,w,N,K,rfl⟩;ac_nf;rw[we];refine z0k (λz =>?_) (λz =>?_)
   .have C:j<E.length:=by lia
    obtain⟨u,hu,M⟩:=z3W (xs:=E) (i:=(j:Int)) (by lia) (by lia);have p:E.drop j=u::E.drop (j+1):=by
     rw[uZ C]
     congr 1
     rw[zcS C,wt C] at M;exact vh M
    ac_nf;refine z0T (z0s M) ?_;ac_nf;refine z7F (Z u hu) hf ?_;refine z0k (λb =>?_) (λb =>?_)
    .refine z3R (z4g (l:=[]) (z0w rfl ?_));ac_nf;refine z0T (z0s M) ?_;refine⟨by rw[we];exact szl' (by lia),Safe.of_noL rfl rfl _,?_⟩;ac_rfl;ac_nf;refine⟨⟨g++[u],j+1,?_,?_,by lia,by simp;lia,by rw[wA];simp⟩,?_⟩
     .rw[<- J,p,List.takeWhile_cons,if_pos (by simpa using b),vz]
      rfl
     .rw[<- w,p,List.dropWhile_cons,if_pos (by simpa using b)]
     .show ((E.length:Int) - ((j:Int)+1)).toNat<((E.length:Int) - (j:Int)).toNat
      lia
    .rw[p,List.takeWhile_cons,if_neg (by simpa using b),vV] at J;rw[p,List.dropWhile_cons,if_neg (by simpa using b), <- p] at w;exact⟨g,j,J,w,N,K,rfl⟩
   .ac_nf;have p:E.drop j=[]:=List.drop_eq_nil_of_le (by lia);rw[p] at J w;simp only[List.takeWhile_nil,vV,List.dropWhile_nil] at J w;exact⟨g,j,J,by rw[p];exact w,N,K,rfl⟩
  rintro L ⟨g,j,rfl,w,N,K,rfl⟩;refine z4g (l:=[]) (z0w rfl ?_);ac_nf;refine⟨by rw[we,K];exact szl' (by lia),Safe.of_noL rfl rfl _,?_⟩;ac_rfl;refine⟨m++(E.drop n).takeWhile (λu=>decide (Be u f))++[f],j,_,λG =>?_,N,by rw[wC,K];simp;lia,by rw[wA (l₂:=[f])];rfl⟩;rw[vz,List.singleton_append,O (f::G),Geo.mg,w];simp
 rintro y ⟨m,n,R,O,Y,W,rfl⟩;have U:=O [];rw[vV,Geo.mg] at U;ac_nf;rw[zfJ (by lia)];refine zbS (by simp;exact szl (by lia)) ?_;rw[<- wA,show ((n:Int)).toNat=n by lia, <- U];exact q
def zk6 {l m:List D}{Q:DK}{X:XP}(q:Q (.lst ((l.zip m).map λp =>.tup [p.1,p.2]))):z6P.run [.tup l,.tup m] Q X:=q
def zkW {a:Type}{f:a->D}{l:List a}{k:Int}(h:0<=k):cutD (l.map f) none (some k)=(l.take k.toNat).map f:=by
 have hs:HT.sIx l.length l.length (some k)=min k.toNat l.length:=by
  show (if k<0 then (k+l.length).toNat else min _ _)=_;rw[if_neg (by lia)]
 rw[z1G,hs];show ((l.drop 0).take (min _ _ - 0)).map f=_
 simp_all
theorem zeT:∀(r:List P) (a z:P),((a::r).zip (r++[z])).map (λp=>Geo.sb p.1 p.2)=df (a::r++[z])
 | [],a,z=>rfl
 | b::r,a,z=>by
  show Geo.sb a b::((b::r).zip (r++[z])).map _=Geo.sb a b::df (b::r++[z]);rw[zeT r b z]
def z4f {h:List P}{Q:DK}{X:XP}(hz:h.length<=1000)(f:h≠[])(q:Q (.lst ((Geo.rd h).map vec))):z1C.run [vecs h,.fn 2] Q X:=by
 walk_at "fn";ac_nf;rw[we];refine z0k (λz =>?_) (λz =>?_)
 .ac_nf;have:Geo.rd h=[]:=if_pos (by lia);rw[this] at q;exact q
 ac_nf;obtain⟨a,r,rfl⟩:=List.exists_cons_of_ne_nil f;rw[zfJ (by decide),zkW (by decide)];refine z5D (by simp;exact szl (by simp at hz;lia)) ?_;rw[<- wA,show (a::r).drop (1:Int).toNat++(a::r).take (1:Int).toNat=r++[a] from rfl];refine z0j (Safe.of_noL (z27 _) (z28 _) _) ?_;ac_rfl;ac_nf;refine zk6 ?_;rw[List.zip_map,wJ];ac_nf;refine⟨by rw[we];exact szl' (by simp at hz ⊢;lia),?_⟩;refine z1o (g:=λp:P × P=>vec (Geo.sb p.1 p.2)) (λp i K b =>?_) ?_
 .refine⟨rfl,?_⟩;show Ex.run _ _ _ _;unfold z0c z0c z0c;ac_rfl;refine z99 rfl ?_;ac_nf;exact z1V b
 have e:Geo.rd (a::r)=df (a::r++[a]):=if_neg (by lia);rw[show (((a::r).zip (r++[a])).map λp=>vec (Geo.sb p.1 p.2))=(((a::r).zip (r++[a])).map λp=>Geo.sb p.1 p.2).map vec by rw[wJ];rfl,zeT, <- e];exact q
theorem zfD:∀(l:List P),(df l).length<=l.length - 1
 | []=>by simp[df]
 | [_]=>by simp[df]
 | a::b::r=>by
  have:=zfD (b::r);rw[df]
  simp_all
def zit {h:List P}(e:Wb 20000000 h):Wb 30000000 (Geo.rd h):=λu d=>by
 unfold Geo.rd at d
 split at d
 .cases d
 .obtain⟨a,b,R,rfl⟩:=za0 d;have:∀p∈h++h.take 1,p∈h:=λp g=>(wG.mp g).elim id uH;have f:=R (λa b=>a∈h/\b∈h) (z6M (u4 λx i y j=>⟨this x i,this y j⟩));exact(e a f.1).step (e b f.2)
def Sm2 (d e:List P)(p:P):Prop:=∃a∈d,∃b∈e,p=Geo.pl a b
end Pu
namespace Geo
def In.of_far {S:P->Prop}{h:List P}{p:P}(x:z0a S h)(d:∀b,∃c∈h,sc p b<=sc c b):In h p:=by
 match h,x,d with
 | [],x,_=>obtain⟨m,t,e,_⟩:=x.ex;cases e
 | [m],x,d=>
  have g:∀b,sc p b<=sc m b:=λb=>by
   obtain⟨c,f,le⟩:=d b;rw[wo.mp f] at le;exact le
  have i:=g (1,0);have n:=g (-1,0);have o:=g (0,1);have q:=g (0,-1);simp only[sc] at i n o q;show p=m;exact uo (by omega) (by omega)
 | [a,b],x,d=>
  have g:∀u,sc p u<=sc a u\/sc p u<=sc b u:=λu=>by
   obtain⟨c,f,le⟩:=d u;simp only[wm,wz,vK] at f
   rcases f with rfl | rfl
   .exact .inl le
   .exact .inr le
  have K:=z0e (b.1 - a.1);have L:=z0e (b.2 - a.2);have i:=g (-(b.2 - a.2),b.1 - a.1);have n:=g (b.2 - a.2,-(b.1 - a.1));have o:=g (a.1 - b.1,a.2 - b.2);have q:=g (b.1 - a.1,b.2 - a.2);clear g d x;have r:sc p (-(b.2 - a.2),b.1 - a.1)=sc a (-(b.2 - a.2),b.1 - a.1)+cr a b p:=by simp only[sc,cr];grind
  have s:sc b (-(b.2 - a.2),b.1 - a.1)=sc a (-(b.2 - a.2),b.1 - a.1):=by simp only[sc];grind
  have w:sc p (b.2 - a.2,-(b.1 - a.1))=sc a (b.2 - a.2,-(b.1 - a.1)) - cr a b p:=by simp only[sc,cr];grind
  have y:sc b (b.2 - a.2,-(b.1 - a.1))=sc a (b.2 - a.2,-(b.1 - a.1)):=by simp only[sc];grind
  have z:sc p (a.1 - b.1,a.2 - b.2)=sc a (a.1 - b.1,a.2 - b.2) - dot a b p:=by simp only[sc,dot];grind
  have A:sc b (a.1 - b.1,a.2 - b.2)=sc a (a.1 - b.1,a.2 - b.2) - ((b.1 - a.1)*(b.1 - a.1)+(b.2 - a.2)*(b.2 - a.2)):=by simp only[sc];grind
  have C:sc p (b.1 - a.1,b.2 - a.2)=sc b (b.1 - a.1,b.2 - a.2) - dot b a p:=by simp only[sc,dot];grind
  have E:sc a (b.1 - a.1,b.2 - a.2)=sc b (b.1 - a.1,b.2 - a.2) - ((b.1 - a.1)*(b.1 - a.1)+(b.2 - a.2)*(b.2 - a.2)):=by simp only[sc];grind
  show cr a b p=0/\0<=dot a b p/\0<=dot b a p;generalize cr a b p=M at*;generalize dot a b p=N at*;generalize dot b a p=O at*;generalize (b.1 - a.1)*(b.1 - a.1)=Q at*;generalize (b.2 - a.2)*(b.2 - a.2)=R at*;rw[r,s] at i;rw[w,y] at n;rw[z,A] at o;rw[C,E] at q;refine⟨?_,?_,?_⟩ <;> omega
 | a0::I::J::t,x,d=>
  refine(In.three (by simp)).mpr λj a b H F G =>?_;have e:=x.cyc (by simp) H F G;obtain⟨c,f,le⟩:=d (b.2 - a.2,-(b.1 - a.1));have l:=e.left c (x.sub c f);simp only[sc] at le;simp only[cr] at l ⊢
  grind
def Ms:List (List P)->P->Prop
 | [],p=>p=(0,0)
 | d::a,p=>∃q∈d,∃r,Ms a r/\p=pl q r
def zby (a b:P):pl a b=pl b a:=by simp only[pl];grind
def zbx (a b c:P):pl a (pl b c)=pl b (pl a c):=by simp[pl];grind
def zc1 {l m:List (List P)}(h:l.Perm m):∀p,Ms l p->Ms m p:=by
 induction h with
 | nil=>exact λ_ h=>h
 | cons x _ j=>rintro p ⟨q,a,r,i,e⟩;exact⟨q,a,r,j r i,e⟩
 | swap x y l=>rintro p ⟨q,a,r,⟨n,b,o,d,rfl⟩,rfl⟩;exact⟨n,b,_,⟨q,a,o,d,rfl⟩,zbx _ _ _⟩
 | trans _ _ f g=>exact λp h=>g p (f p h)
def zc0 {a:List (List P)}{d:List P}{p:P}:Ms (a++[d]) p↔∃r,Ms a r/\∃q∈d,p=pl r q:=by
 constructor
 .intro h;obtain⟨q,b,r,f,e⟩:=zc1 (List.perm_append_singleton d a) p h;exact⟨r,f,q,b,by rw[e,zby]⟩
 .rintro⟨r,f,q,b,e⟩;exact zc1 (List.perm_append_singleton d a).symm p ⟨q,b,r,f,by rw[e,zby]⟩
def zg1 (a b u:P):sc (pl a b) u=sc a u+sc b u:=by simp[sc,pl];grind
def zeg {n:List (List P)}{m d h h':List P}(x:z0a (Ms n) h)(l:z0a (· ∈ m) d)(y:z0a (λp=>∃a∈h,∃b∈d,p=pl a b) h'):z0a (Ms (n++[m])) h':=by
 refine y.fill (λp i =>?_) (λp i =>?_)
 .obtain⟨a,t,b,w,e⟩:=y.sub p i;exact zc0.mpr ⟨a,x.sub a t,b,l.sub b w,e⟩
 .obtain⟨r,C,q,A,rfl⟩:=zc0.mp i;refine In.of_far y λu =>?_;obtain⟨c,z,le⟩:=x.far (x.in C) u;obtain⟨s,g,E⟩:=l.far (l.in A) u;obtain⟨o,f,j⟩:=y.far (y.in ⟨c,z,s,g,rfl⟩) u;refine⟨o,f,?_⟩;rw[zg1] at j ⊢;omega
def zkv:z0a (Ms []) [(0,0)]:=⟨(0,0),[],rfl,rfl,λp a=>by(have  := a;rw[this];exact Lx.irr),by simp,.inl ⟨rfl,λ_ h=>h⟩⟩
def Far (S:P->Prop)(b:P)(F:Int):Prop:=(∀p,S p->sc p b<=F)/\∃p,S p/\sc p b=F
def zhm {b:P}:Far (Ms []) b 0:=⟨λp a=>by(have  := a;rw[this];simp[sc]),(0,0),rfl,by simp[sc]⟩
end Geo
namespace Pu
open PySem L2
structure Wt4 (x:List P × P):Prop where
 wb:Wb 140 x.1
 ne:x.1≠[]
 len:x.1.length<=12
 vb:Vb 140 x.2
def zf1 {c m:Int}{d:D}{Q:DK}{X:XP}(M:0<=m)(w:m<=10000000000000000000000000000000000000000)(o:Ln d)(q:∀p,Far 10000000000000000000000000000000000000000 p->Q (vec p)):z0J.run [.int c,.int m,d] Q X:=by
 have I:Bt 640 m:=z08 (by lia)
 rcases o with rfl | ⟨⟨a,b⟩,rfl,⟨⟨e,f⟩,g,i⟩⟩
 .walk_at "fn";ac_nf;refine z2L (zfS rfl ?_);ac_nf;refine z0E (by decide) (by decide) (by lia) λr y r1 =>?_;ac_nf;refine z0E (by decide) (by decide) (by lia) λu N O =>?_;ac_nf;exact q (r - m,u - m) ⟨⟨by show _<=r - m;lia,by show r - m<=_;lia⟩,by show _<=u - m;lia,by show u - m<=_;lia⟩
 .dsimp only at e f g i;have z:Bt 640 a:=z08 (by lia);have C:Bt 640 b:=z08 (by lia);walk_at "fn";ac_nf;refine z2L (zhY rfl ?_);ac_nf;refine z0E (by decide) (by decide) (by decide) λr y r1 =>?_;ac_nf;have J:Bt 640 (r - 3):=z08 (by lia);ac_nf;have j:∀x:Int,-3<=x->x<=3 -> -9<=x*(r - 3)/\x*(r - 3)<=9:=λx K L=>by
   rcases(by lia:x = -3\/x = -2\/x = -1\/x=0\/x=1\/x=2\/x=3) with rfl | rfl | rfl | rfl | rfl | rfl | rfl <;> lia
  have:=j a e f;have:=j b g i;exact q (a*(r - 3),b*(r - 3)) ⟨⟨by show _<=a*(r - 3);lia,by show a*(r - 3)<=_;lia⟩,by show _<=b*(r - 3);lia,by show b*(r - 3)<=_;lia⟩
def zaj {ws:List (List P × P)}{b:P}{Q:DK}{X:XP}(L:∀x∈ws,Wt4 x)(C:Vb 1000 b)(q:∀t,Sums ws b t->Q (.int t)):z1D.run [.tup (ws.map wtD),vec b] Q X:=by
 walk_at "fn";ac_nf;refine z0m (f:=wtD) (λz y=>∃(t:Int) (u w:B),Sums z b t/\y=[.s (.tup (ws.map wtD)),.s (vec b),.s (.int t),u,w]) ⟨0,_,_,Sums.nil,rfl⟩ ?_ ?_
 .rintro z x r y e ⟨t,u,w,o,rfl⟩;obtain⟨M,ne,len,vb⟩:=L x (by rw[e];simp);refine⟨rfl,?_⟩;show Sm.run _ _ _ _ _;unfold z0c z0c z0c;ac_rfl;ac_nf;refine⟨by rw[we];exact szl' (by lia),?_⟩;refine z1o (g:=λp =>.int (dot p b)) (λp j K I =>?_) ?_
  .ac_nf;refine z7C C.le (M p j).le ?_;rw[z9Y];exact I
  rw[show (x.1.map λp=>D.int (dot p b))=(x.1.map (dot · b)).map D.int by rw[wJ];rfl];refine zfm (by simpa using ne) λm J i =>?_;ac_nf;refine z7C C.le vb.le ?_;rw[z9Y];ac_nf;exact⟨_,_,_,o.snoc ⟨J,λp j=>i _ (wj.mpr ⟨p,j,rfl⟩)⟩,rfl⟩
 rintro y ⟨t,u,w,o,rfl⟩;ac_nf;exact q t o
def z7b {S:P->Prop}{h:List P}(x:z0a S h):h≠[]:=by obtain⟨m,t,e,_⟩:=x.ex;rw[e];simp
def vs_perm {l m:List P}(h:l.Perm m):Geo.vs l=Geo.vs m:=by
 induction h with
 | nil=>rfl
 | cons x _ a=>rw[z1I,z1I,a]
 | swap x y l=>rw[z1I,z1I,z1I,z1I,zbx]
 | trans _ _ i j=>rw[i,j]
def zhK (h:List P):Geo.vs (Geo.rd h)=(0,0):=by
 unfold Geo.rd
 split
 .rfl
 .cases h with
  | nil=>rfl
  | cons a r=>rw[show (a::r)++(a::r).take 1=a::r++[a] from rfl,za1];simp[Geo.sb]
def ziv {h:List P}{n:Nat}(k:h.length≠1->h.length<=n):(Geo.rd h).length<=n:=by
 unfold Geo.rd
 split
 .simp
 .have:=zfD (h++h.take 1);simp at*;lia
def zbc {l1 l2:List P}{Q:DK}{X:XP}(R:Wb 300 l1)(U:Wb 300 l2)(N:z0a (· ∈ l1) l1)(O:z0a (· ∈ l2) l2)(z1:l1.length<=62)(z2:l2.length<=62)(z:(Geo.rd l1).length+(Geo.rd l2).length<=62)
  (q:∀h,z0a (Sm2 l1 l2) h->(Geo.rd h).length<=(Geo.rd l1).length+(Geo.rd l2).length->Q (vecs h)):z5e.run [vecs l1,vecs l2] Q X:=by
 walk_at "fn";ac_nf;have n1:l1≠[]:=z7b N;have n2:l2≠[]:=z7b O;refine z0F (.inl rfl) R.le (by lia) λh1 x1 =>?_;obtain rfl:h1=l1:=(x1.is n1).unique N;refine z0j (Safe.of_noL (z27 _) (z28 _) _) ?_;ac_rfl;ac_nf;refine z0F (.inl rfl) U.le (by lia) λh2 x2 =>?_;obtain rfl:h2=l2:=(x2.is n2).unique O;refine z0j (Safe.of_noL (z27 _) (z28 _) _) ?_;ac_rfl;obtain⟨a,r1,I,_⟩:=N.ex;obtain⟨b,r2,e2,_⟩:=O.ex;have J:=Geo.join x1 x2 n1 n2 I e2;have c1:Wb 20000000 h1:=R.le;have c2:Wb 20000000 h2:=U.le;ac_nf;refine z0T (d:=vec a) (by rw[I];exact zcR) ?_;ac_nf;refine z0T (d:=vec b) (by rw[e2];exact zcR) ?_;refine z2H ?_;refine z0j (Safe.of_noL rfl rfl _) ?_;ac_rfl;ac_nf;refine z2G (λx hx=>by rw[wo.mp hx];exact Safe.of_noL rfl rfl _) ?_;ac_rfl;ac_nf;refine z4f (by lia) (by rw[I];simp) ?_;ac_nf;refine z4f (by lia) (by rw[e2];simp) ?_;refine z60 (zit c1) (zit c2) (by lia) (by lia) ?_;have km:=(z4J (Geo.rd h1) (Geo.rd h2)).length_eq;rw[wC] at km;have vM:Geo.vs (Geo.mg (Geo.rd h1) (Geo.rd h2))=(0,0):=by
  rw[vs_perm (z4J _ _),z9l,zhK,zhK]
  rfl
 generalize Geo.mg (Geo.rd h1) (Geo.rd h2)=M at*;ac_nf;refine z0m (f:=vec) (λi ρ=>∃(H:List P) (x6:B),H.length=i.length+1/\(∀p,p∈H↔∃K L,i=K++L/\p=Geo.pl (Geo.pl a b) (Geo.vs K))/\ρ=[.s (vecs h1),.s (vecs h2),.s (vecs h1),.s (vecs h2),.s (vec (Geo.pl (Geo.pl a b) (Geo.vs i))),.o (.lst (H.map vec)),x6]) ⟨[Geo.pl a b],_,rfl,λp =>?_,by simp[Geo.vs,Geo.pl];rfl⟩ ?_ ?_
 .constructor
  .intro h;exact⟨[],[],rfl,by rw[wo.mp h];simp[Geo.vs,Geo.pl]⟩
  .rintro⟨K,L,e,rfl⟩;rw[(jr.mp e.symm).1];simp[Geo.vs,Geo.pl]
 .rintro i u r ρ e ⟨H,x6,W,C,rfl⟩;have hd:i.length<M.length:=by rw[e];simp
  show Sm.run _ _ _ _ _;ac_rfl;ac_nf;refine z2H ?_;refine z0j (Safe.of_noL rfl rfl _) ?_;ac_rfl;refine z4g (l:=[]) (z0w rfl ?_);ac_nf;refine⟨by rw[we];exact szl' (by lia),Safe.of_noL rfl rfl _,?_⟩;ac_rfl;have ev:(((Geo.pl (Geo.pl a b) (Geo.vs i)).1+u.1,(Geo.pl (Geo.pl a b) (Geo.vs i)).2+u.2):P)=Geo.pl (Geo.pl a b) (Geo.vs (i++[u])):=by
   rw[z9l];simp[Geo.pl,Geo.vs,Int.add_assoc]
  rw[ev];refine⟨H++[Geo.pl (Geo.pl a b) (Geo.vs (i++[u]))],_,by simp[W],λp =>?_,by rw[wA];rfl⟩;rw[wG,C,wo]
  constructor
  .rintro(⟨K,L,e,rfl⟩ | rfl)
   .exact⟨K,L++[u],by rw[e,vz],rfl⟩
   .exact⟨i++[u],[],by simp,rfl⟩
  .rintro⟨K,L,e,rfl⟩
   rcases List.eq_nil_or_concat L with rfl | ⟨L',w,rfl⟩
   .rw[vV] at e;exact .inr (by rw[e])
   .rw[List.concat_eq_append, <- vz] at e;exact .inl ⟨K,L',(List.append_inj' e rfl).1,rfl⟩
 rintro ρ ⟨H,x6,W,C,rfl⟩;have j:∀p∈H,Sm2 h1 h2 p:=λp g=>by
  obtain⟨K,L,e,rfl⟩:=(C p).mp g;obtain⟨p,g,q,hq,e⟩:=J.1 K L e;exact⟨p,g,q,hq,e⟩
 ac_nf;refine z0F (l:=H) (.inr rfl) (λp g =>?_) (by lia) λh x =>?_
 .obtain⟨u,hu,v,Y,rfl⟩:=j p g;exact⟨(Bt.add (R u hu).1 (U v Y).1).le,(Bt.add (R u hu).2 (U v Y).2).le⟩
 have hn:H≠[]:=λz=>by rw[z] at W;simp at W
 have y:=x.is hn;refine q h (zhi y (λp g=>j p (y.sub p g)) λp g w =>?_) (ziv λn1 =>?_)
 .obtain⟨u,hu,v,Y,rfl⟩:=g;obtain⟨Z,a0,lu⟩:=N.far (N.in hu) w;obtain⟨cv,a1,lv⟩:=O.far (O.in Y) w;obtain⟨K,L,e,le⟩:=J.2 Z a0 cv a1 w;refine⟨_,(C _).mpr ⟨K,L,e,rfl⟩,?_⟩;have s1:dot (Geo.pl u v) w=Geo.sc u w+Geo.sc v w:=by simp only[dot,Geo.pl,Geo.sc];grind
  have s2:Geo.sc (Geo.pl Z cv) w=Geo.sc Z w+Geo.sc cv w:=by simp only[Geo.pl,Geo.sc];grind
  have s3:dot (Geo.pl (Geo.pl a b) (Geo.vs K)) w=Geo.sc (Geo.pl (Geo.pl a b) (Geo.vs K)) w:=rfl;rw[s1,s3];lia
 .have e0:M≠[]:=λe=>by
   have:=z1X (m:=[Geo.pl a b]) y.nodup λp g=>by
    obtain⟨K,L,e',rfl⟩:=(C p).mp (y.sub p g);rw[e] at e';rw[(jr.mp e'.symm).1];simp[Geo.vs,Geo.pl]
   have h0:0<h.length:=ve.mpr (z7b y);simp at this;lia
  have:=z1X (m:=(List.range M.length).map λk=>Geo.pl (Geo.pl a b) (Geo.vs (M.take k))) y.nodup λp g=>by
   obtain⟨K,L,e,rfl⟩:=(C p).mp (y.sub p g);have I:=congrArg List.length e;rw[wC] at I;have hM:=ve.mpr e0
   rcases wN K.length M.length with z | z
   .exact wj.mpr ⟨K.length,ub.mpr z,by rw[e,List.take_left]⟩
   .have:L=[]:=um.mp (by lia);rw[this,vV] at e;exact wj.mpr ⟨0,ub.mpr hM,by rw[<- e,vM];rfl⟩
  rw[we,v8] at this;lia
def tl (ws:List (List P × P)):Nat:=(ws.map λx=>x.1.length).sum
def z5l (ws:List (List P × P))(x:List P × P):tl (ws++[x])=tl ws+x.1.length:=by simp[tl]
def zh6 (A B n:Nat):min A n - min B n<=A - B:=by omega
def zg4 {ns:List Int}{Q:DK}{X:XP}(h0:ns≠[])(hz:ns.length<=63)(q:∀ws:List (List P × P),(∀x∈ws,Wt4 x)->ws.length<=12->tl ws<=60->Q (.tup (ws.map wtD))):z0q.run [.lst (ns.map .int)] Q X:=by
 have J:=ve.mpr h0;obtain⟨c0,_,e0⟩:=z3W (xs:=ns) (i:=0) (by decide) (by lia);walk_at "fn";ac_nf;refine z0T (z0s e0) ?_;ac_nf;refine menu (ns:=[3,12,10 ^ 9]) (by lia) (by show c0 / 2 % 3<3;lia) λm W =>?_;have b:0<=m/\m<=1000000000:=by
  simp only[wm,wz,vK] at W;lia
 clear W;have bm:Bt 640 m:=z08 (by lia);ac_nf;refine z2G (λx e=>by cases e) ?_;ac_rfl;ac_nf;refine z5i (λM=>∃(ws:List (List P × P)) (a:Nat) (Z x5 x6:B),(∀x∈ws,Wt4 x)/\ws.length<=12/\1<=a/\a<=100/\tl ws<a/\tl ws<=60/\M=[.s (.lst (ns.map .int)),.s (.int m),.o (.lst (ws.map wtD)),.s (.int (a:Int)),Z,x5,x6]) (λM=>(100 - nI M 3).toNat) ⟨[],1,_,_,_,λ_ z=>by(cases z),by simp,by simp,by simp,by simp[tl],by simp[tl],rfl⟩ ?_;rintro M ⟨ws,a,Z,x5,x6,r,j,a0,ha,a1,I,rfl⟩;ac_nf;rw[we,min2];refine z0k (λh =>?_) (λh =>?_)
 .ac_nf;rw[we];refine z0k (λN =>?_) (λN =>?_)
  .obtain⟨c,_,C⟩:=z3W (xs:=ns) (i:=(a:Int)) (by lia) (by lia);ac_nf;refine z0T (z0s C) ?_;ac_nf;have hs:0<=c % 12/\c % 12<12:=by lia
   generalize c % 12=sz at*;refine z0T (z0s C) ?_;ac_nf;generalize c / 12=f at*;refine zbd b.1 b.2 λu O =>?_;ac_nf;refine z2G (λx e=>by rw[wo.mp e];exact Safe.of_noL rfl rfl _) ?_;ac_rfl;refine z3R (zln (z0w rfl ?_));ac_nf;rw[z1G];have key:∀L:Nat,L<=(if 61<(a:Int)+(1+sz) then 61 else (a:Int)+(1+sz)).toNat - ((a:Int)+1).toNat->L<=11/\L<=sz.toNat/\L<=60 - a:=λL hL=>by split at hL <;> lia
   have U:0<=(if 61<(a:Int)+(1+sz) then 61 else (a:Int)+(1+sz)):=by split <;> lia
   have a3:=key ((ns.drop (HT.sIx ns.length 0 (some ((a:Int)+1)))).take (HT.sIx ns.length ns.length (some (if 61<(a:Int)+(1+sz) then 61 else (a:Int)+(1+sz))) - HT.sIx ns.length 0 (some ((a:Int)+1)))).length (by rw[uf,uQ,z6p (k:=(a:Int)+1) (by lia),z6p U];exact wM (Nat.min_le_left ..) (zh6 ..));clear key U;generalize (ns.drop (HT.sIx ns.length 0 (some ((a:Int)+1)))).take (HT.sIx ns.length ns.length (some (if 61<(a:Int)+(1+sz) then 61 else (a:Int)+(1+sz))) - HT.sIx ns.length 0 (some ((a:Int)+1)))=Y at*;refine⟨by rw[we];exact szl' (by lia),?_⟩;refine z4w (g:=vec) (P:=λ_ p=>Far 1000000000 p) (λc _ K hK =>?_) λw a2 hy =>?_
   .ac_nf;exact zbd b.1 b.2 hK
   refine⟨by simp;exact szl (by lia),λd hd =>?_,?_⟩
   .obtain⟨y,_,rfl⟩:=wj.mp hd;exact Safe.of_noL rfl rfl _
   ac_rfl;rw[show vec u::w.map vec=(u::w).map vec from rfl];refine z3R (z4g (l:=[]) (z0w rfl ?_));ac_nf;refine zkb ⟨by decide,by decide,by lia⟩ ?_;have hw:0<(2*m+1) ^ (2:Int).toNat:=by
    show 0<(2*m+1) ^ 2;exact Int.pow_pos (by lia)
   have bw:Bt 9000 ((2*m+1) ^ (2:Int).toNat):=by
    have R:Bt 40 (2*m+1):=z08 (by lia);show Bt 9000 ((2*m+1) ^ 2);rw[show (2*m+1) ^ 2=(2*m+1)*(2*m+1) by grind];exact(Bt.mul R R).le
   refine zfn hw bw ?_;ac_nf;refine zbd b.1 b.2 λs hs =>?_;ac_nf;refine⟨by rw[we];exact szl' (by lia),Safe.of_noL (zbT (u::w,s)) (zbU (u::w,s)) _,?_⟩;ac_rfl;ac_nf;refine⟨⟨ws++[(u::w,s)],a+(1+sz.toNat),.s (.int (1+sz)),.s (.int f),.o (.lst ((u::w).map vec)),λx e =>?_,by simp;lia,by lia,by lia,by rw[z5l];simp;lia,by rw[z5l];simp;lia,?_⟩,?_⟩
   .rcases wG.mp e with e | e
    .exact r x e
    .rw[wo.mp e];refine⟨λp J =>?_,by simp,by show (u::w).length<=12;simp;lia,(hs.vb (n:=30) (by decide)).le⟩
     rcases wm.mp J with rfl | J
     .exact(O.vb (n:=30) (by decide)).le
     .obtain⟨_,_,hf⟩:=hy p J;exact(hf.vb (n:=30) (by decide)).le
   .rw[wA,show ((a+(1+sz.toNat):Nat):Int)=(a:Int)+(1+sz) by lia]
    rfl
   .show (100 - ((a:Int)+(1+sz))).toNat<(100 - (a:Int)).toNat
    lia
  .ac_nf;exact q ws r j I
 .ac_nf;exact q ws r j I
def tr (x:List P × P):List P:=x.1.map (mv x.2)
abbrev MS (ws:List (List P × P)):P->Prop:=Ms (ws.map tr)
def zhR {x:List P × P}{b:P}{m:Int}(h:most x.1 b m):Geo.Far (· ∈ tr x) b (m+dot x.2 b):=by
 have e:∀v,Geo.sc (mv x.2 v) b=dot v b+dot x.2 b:=λv=>by
  simp[Geo.sc,mv,dot]
  grind
 refine⟨λp f =>?_,?_⟩
 .obtain⟨v,a,rfl⟩:=wj.mp f;have:=h.2 v a;rw[e];lia
 .obtain⟨v,a,d⟩:=wj.mp h.1;refine⟨mv x.2 v,uy a,?_⟩;rw[e, <- d]
def zez {f:List (List P)}{d:List P}{b:P}{F M:Int}(h:Geo.Far (Ms f) b F)(k:Geo.Far (· ∈ d) b M):Geo.Far (Ms (d::f)) b (M+F):=by
 refine⟨λp j =>?_,?_⟩
 .obtain⟨q,a,r,e,rfl⟩:=j;have:=h.1 r e;have:=k.1 q a;rw[zg1];lia
 .obtain⟨r,e,g⟩:=h.2;obtain⟨q,a,i⟩:=k.2;exact⟨Geo.pl q r,⟨q,a,r,e,rfl⟩,by rw[zg1,g,i]⟩
theorem z9q {b:P}:∀{ws:List (List P × P)}{t:Int},Sums ws b t->Geo.Far (MS ws) b t
 | [],t,⟨d,a,_,e⟩=>by
  have  := um.mp a;rw[e,this];exact zhm
 | x::ws,t,⟨d,a,g,e⟩=>by
  obtain⟨m,l,f⟩:=g 0 (by simp)
  cases d with
  | nil=>simp at a
  | cons o d=>
   have f  := by simpa using f
   have j:=z9q ⟨d,by simpa using a,λi h=>by
    obtain⟨n,r1,r2⟩:=g (i+1) (by simpa using h);exact⟨n,by simpa using r1,by simpa using r2⟩,rfl⟩
   rw[e,f];exact zez j (zhR l)
theorem zku:∀{a:List (List P)}{p:P},(∀d∈a,Wb 150 d)->Ms a p->Vb (150+a.length) p
 | [],p,_,h=>by
  have  := h;rw[this];exact⟨Bt.le (m:=1) (z08 (by decide)),Bt.le (m:=1) (z08 (by decide))⟩
 | d::a,p,i,⟨q,j,r,l,e⟩=>by
  have f:=i d (by simp) q j;have g:=zku (λd b=>i d (by simp[b])) l;rw[e];exact⟨Bt.le (Bt.add f.1 g.1) (by simp;lia),Bt.le (Bt.add f.2 g.2) (by simp;lia)⟩
def zhQ {x:List P × P}(h:Wt4 x):Wb 150 (tr x):=λp b=>by
 obtain⟨v,a,rfl⟩:=wj.mp b;exact⟨Bt.le (Bt.add (h.wb v a).1 h.vb.1),Bt.le (Bt.add (h.wb v a).2 h.vb.2)⟩
def zhD {ws:List (List P × P)}{p:P}(b:∀x∈ws,Wt4 x)(hz:ws.length<=20)(h:MS ws p):Vb 200 p:=by
 have:=zku (λd a=>by obtain⟨x,e,rfl⟩:=wj.mp a;exact zhQ (b x e)) h;rw[we] at this;exact⟨this.1.le (by lia),this.2.le (by lia)⟩
def zfP (ws:List (List P × P))(n:Nat):tl (ws.take n)<=tl ws:=by
 have:=congrArg tl (uV n ws);simp only[tl,wA,uM] at this ⊢;lia
def ziy (h:List P):h.length<=(Geo.rd h).length+1:=by
 unfold Geo.rd
 split
 .simp;lia
 .have:∀l,l.length<=(df l).length+1:=λl=>by
   induction l with
   | nil=>simp
   | cons a r d=>cases r with
    | nil=>simp
    | cons b r=>rw[df];simp_all
  grind
def z7z {S:P->Prop}{h:List P}(x:z0a S h):z0a (· ∈ h) h:=x.of x.sub λ_ a=>a
def z7D {ws:List (List P × P)}{u:List (List P)}{Q:DK}{X:XP}(M:∀x∈ws,Wt4 x)(hz:ws.length<=12)(ht:tl ws<=60)(hl:u.length=ws.length)(R:∀(i:Nat) (h:i<ws.length),∃y,u[i]? = some y/\Hd (tr ws[i]) y)(q:∀h,z0a (MS ws) h->h.length<=61->Q (vecs h)):z2A.run [.lst (u.map vecs)] Q X:=by
 walk_at "fn";ac_nf;refine z0m (f:=vecs) (λb J=>∃(h:List P) (I:B),z0a (MS (ws.take b.length)) h/\(Geo.rd h).length<=tl (ws.take b.length)/\J=[.s (.lst (u.map vecs)),.s (vecs h),I]) ⟨[(0,0)],_,zkv,by simp[Geo.rd],rfl⟩ ?_ ?_
 .rintro b y r J e ⟨h,I,j,g,rfl⟩;have le:=congrArg List.length e;rw[wC,wQ] at le;have o:b.length<ws.length:=by lia
  obtain⟨y',K,Y⟩:=R b.length o;have:y'=y:=by
   rw[e] at K;simpa using K.symm
  subst this;have wx:=M _ (jp o);have tn:tr ws[b.length]≠[]:=λz=>wx.ne (List.map_eq_nil_iff.mp z);have m:=Y.is tn;have yl:=z1X m.nodup m.sub;have a0:(tr ws[b.length]).length=ws[b.length].1.length:=by unfold tr;rw[we]
  have Z:tl (ws.take (b.length+1))=tl (ws.take b.length)+ws[b.length].1.length:=by
   rw[List.take_succ,wt o];exact z5l _ _
  have t2:=zfP ws (b.length+1);have N:=ziy h;have h2:(Geo.rd y').length<=ws[b.length].1.length:=ziv λ_=>by lia
  have wl:=wx.len;have O:Wb 200 h:=λp C=>zhD (λx W=>M x (uH W)) (by rw[uf];lia) (j.sub p C);have yb:Wb 150 y':=λp C=>zhQ wx p (m.sub p C);show Sm.run _ _ _ _ _;ac_rfl;ac_nf;refine zbc O.le yb.le (z7z j) (z7z m) (by lia) (by lia) (by lia) λL w U =>?_;refine z0j (Safe.of_noL (z27 _) (z28 _) _) ?_;ac_rfl;refine⟨L,_,?_,by rw[wC,v4,Z];lia,rfl⟩;rw[wC,v4,List.take_succ,wt o];show z0a (Ms ((ws.take b.length++[ws[b.length]]).map tr)) L;rw[wA];exact zeg j m w
 rintro J ⟨h,I,j,g,rfl⟩;ac_nf;rw[vL (by lia)] at j g;have N:=ziy h;exact q h j (by lia)
def zai {ws:List (List P × P)}{Q:DK}{X:XP}(b:∀x∈ws,Wt4 x)(hz:ws.length<=12)(m:tl ws<=60)(q:∀h,z0a (MS ws) h->h.length<=61->Q (vecs h)):z3L.run [.tup (ws.map wtD)] Q X:=by
 walk_at "fn";refine⟨by rw[we];exact szl' (by lia),?_⟩;refine z4v (g:=vecs) (P:=λx y=>Hd (tr x) y) (λx o K e =>?_) λp j f =>?_
 .have wx:=b x o;ac_nf;exact zam wx.wb.le ⟨wx.vb.1.le,wx.vb.2.le⟩ (by have:=wx.len;lia) λh i=>e h i
 exact z7D b hz m j f q
def z0X:Fn:=Fn.mkN 3 3 (.ret (.op pGt [.op pAdd [.op z0b [.op pIx [.v 1,.c (.int 0)],.op pIx [.v 0,.c (.int 0)]],.op z0b [.op pIx [.v 1,.c (.int 1)],.op pIx [.v 0,.c (.int 1)]]],.op z0b [.v 2,.op pIx [.v 0,.c (.int 2)]]]))
end Pu
namespace Geo
def zfL {a b p:P}(ne:a≠b):(cr a b p=0/\0<=dot a b p/\0<=dot b a p)↔(0<=cr a b p/\0<=cr b a p/\(a.1 - p.1)*(b.1 - p.1)+(a.2 - p.2)*(b.2 - p.2)<=0):=by
 obtain⟨f,g⟩:=a;obtain⟨h,i⟩:=b;obtain⟨d,e⟩:=p;simp only[cr,dot];have q:(h - f)*(e - g) - (i - g)*(d - f)=(f - d)*(i - e) - (g - e)*(h - d):=by grind
 have r:(f - h)*(e - i) - (g - i)*(d - h) = -((f - d)*(i - e) - (g - e)*(h - d)):=by grind
 have t:(d - f)*(h - f)+(e - g)*(i - g)=((f - d)*(f - d)+(g - e)*(g - e)) - ((f - d)*(h - d)+(g - e)*(i - e)):=by grind
 have u:(d - h)*(f - h)+(e - i)*(g - i)=((h - d)*(h - d)+(i - e)*(i - e)) - ((f - d)*(h - d)+(g - e)*(i - e)):=by grind
 have o:¬ (f - d=h - d/\g - e=i - e):=λz=>ne (uo (by simp;lia) (by simp;lia));rw[q,r,t,u];generalize f - d=A at*;generalize g - e=B at*;generalize h - d=C at*;generalize i - e=E at*;clear q r t u ne;have l:∀x:Int,0<=x*x:=λx=>by
  rcases Int.le_total 0 x with z | z
  .exact wV z z
  .exact uO z z
 constructor
 .rintro⟨y,F,G⟩;refine⟨by lia,by lia,?_⟩
  rcases v6 0 (A*C+B*E) with z | z
  .exfalso
   have j:(A*C+B*E)*(A*C+B*E)+(A*E - B*C)*(A*E - B*C)=(A*A+B*B)*(C*C+E*E):=by grind
   rw[y,jz,uD] at j;have df:(A - C)*(A - C)+(B - E)*(B - E)=(A*A+B*B)+(C*C+E*E) - 2*(A*C+B*E):=by grind
   have L:=l (A - C);have M:=l (B - E);generalize A*C+B*E=s at*;generalize A*A+B*B=m at*;generalize C*C+E*E=n at*;have H:m=s:=by
    rcases v6 s m with w | w
    .have:=jD w (show 0<n by lia);have:=Int.mul_le_mul_of_nonneg_left (show s<=n by lia) (show 0<=s by lia);lia
    .lia
   have K:n=s:=by
    rw[H] at j;exact(Int.eq_of_mul_eq_mul_left (by lia) j).symm
   have I:(A - C)*(A - C)=0:=by omega
   have J:(B - E)*(B - E)=0:=by omega
   have N:=wZ.mp I;have O:=wZ.mp J;exact o ⟨by lia,by lia⟩
  .exact z
 .rintro⟨y,F,G⟩;have:=l A;have:=l B;have:=l C;have:=l E;exact⟨by lia,by lia,by lia⟩
end Geo
namespace Pu
open PySem L2 Mth
def zh1 (l:List Sh):noL (.tup (l.map shD))=true:=by
 refine z1O λd a =>?_;obtain⟨x,_,rfl⟩:=wj.mp a
 rfl
def zh3 (l:List Sh):noD (.tup (l.map shD))=true:=by
 refine z1P λd a =>?_;obtain⟨x,_,rfl⟩:=wj.mp a
 rfl
abbrev Rs:=Int × Int × Int
abbrev rsD (r:Rs):D :=.tup [.int r.1,.tup [.int r.2.1,.int r.2.2]]
def z38 (n:Int):Int->List Rs->Bool
 | _,[]=>true
 | a,r::l=>decide (a<r.1) && (decide (r.1<n) && (decide (0<r.2.1) && (decide (0<r.2.2) && (decide (Int.gcd r.2.1 r.2.2=1) && z38 n r.1 l))))
def zdi {t b:Int}{Q:DK}{X:XP}(q:Q (.bl (decide (0<t) && (decide (0<b) && decide (Int.gcd t b=1))))):z3M.run [.tup [.int t,.int b]] Q X:=by
 walk_at "fn";ac_nf;refine z0k (λe =>?_) (λe =>?_)
 .rw[wE e] at q;ac_nf;refine z0k (λf =>?_) (λf =>?_)
  .rw[wE f] at q;ac_nf;refine z25 ?_;ac_nf;rw[show (decide ((Int.gcd t b:Int)=1))=decide (Int.gcd t b=1) from z7j ⟨λh=>by lia,λh=>by lia⟩];exact q
  simp_all
 simp_all
def zc7 {l:List P}{g:List Rs}{b:Sm}{N:Pu.Env->Prop}{Q:DK}{X:XP}(u:z38 (l.length:Int) (-1) g=false->Q (.bl false))(w:z38 (l.length:Int) (-1) g=true->∀a i j,N [.s (vecs l),.s (.tup (g.map rsD)),.s (.int a),i,j])
  (x:∀(a:Int) (r:Rs) (p:Pu.Env->Prop),(a<r.1/\r.1<l.length/\0<r.2.1/\0<r.2.2/\Int.gcd r.2.1 r.2.2=1->p [.s (vecs l),.s (.tup (g.map rsD)),.s (.int r.1),.s (.int r.1),.s (.tup [.int r.2.1,.int r.2.2])])->(¬ (a<r.1/\r.1<l.length/\0<r.2.1/\0<r.2.2/\Int.gcd r.2.1 r.2.2=1)->Q (.bl false))->
   b.run [.s (vecs l),.s (.tup (g.map rsD)),.s (.int a),.s (.int r.1),.s (.tup [.int r.2.1,.int r.2.2])] p Q X):
  forL (.tp [3,4]) b N Q X (g.map rsD) [.s (vecs l),.s (.tup (g.map rsD)),.s (.int (-1)),.n,.n]:=by
 refine z0m (f:=rsD) (λq o=>∃(a:Int) (i j:B),(∀d,g=q++d->z38 (l.length:Int) (-1) g=z38 (l.length:Int) a d)/\o=[.s (vecs l),.s (.tup (g.map rsD)),.s (.int a),i,j]) ⟨-1,_,_,λd e=>by rw[e];rfl,rfl⟩ ?_ ?_
 .rintro q r d o e ⟨a,i,j,m,rfl⟩;have h:=m _ e;refine⟨rfl,?_⟩;show Sm.run _ _ _ _ _;unfold z0c z0c z0c;ac_rfl;refine x a r _ (λc =>?_) (λc =>?_)
  .refine⟨r.1,_,_,λrest' t =>?_,rfl⟩;have:d=rest':=by
    rw[e,vz] at t;have:=List.append_cancel_left t;simpa using this
   rw[h, <- this];show (_ && _)=_;rw[wE c.1,wE c.2.1,wE c.2.2.1,wE c.2.2.2.1,wE c.2.2.2.2]
   rfl
  .refine u ?_;rw[h];show (_ && _)=_;rw[Bool.eq_false_iff];intro z;simp only[w5,ja] at z;exact c ⟨z.1,z.2.1,z.2.2.1,z.2.2.2.1,z.2.2.2.2.1⟩
 rintro o ⟨a,i,j,m,rfl⟩;exact w (by rw[m [] (by simp)];rfl) a i j
def z7B {l:List P}{f:List Rs}{Q:DK}{X:XP}(q:Q (.bl (z38 (l.length:Int) (-1) f))):z1w.run [vecs l,.tup (f.map rsD)] Q X:=by
 walk_at "fn";ac_nf;refine zc7 (λe=>by rw[e] at q;exact q) (λe a o p =>?_) (λa r m j b =>?_)
 .ac_nf;rw[e] at q;exact q
 .ac_nf;refine z0k (λg =>?_) (λg =>?_)
  .ac_nf;exact b λc=>by lia
  ac_nf;rw[we];refine z0k (λi =>?_) (λi =>?_)
  .ac_nf;exact b λc=>by lia
  ac_nf;refine zdi ?_;ac_nf;refine z2L (t_bl (λe =>?_) (λe =>?_))
  .simp only[w5,ja] at e;ac_nf;exact j ⟨by lia,by lia,e.1,e.2.1,e.2.2⟩
  .ac_nf;refine b λc =>?_;rw[wE c.2.2.1,wE c.2.2.2.1,wE c.2.2.2.2] at e
   cases e
def toR (s:Sh):Rs:=((s.1:Int),s.2)
def z6D (sh:List Sh):sh.map shD=(sh.map toR).map rsD:=by rw[wJ];rfl
abbrev pcD (x y t:Int):D :=.tup [.int x,.int y,.int t]
structure Pc (x y t:Int):Prop where
 pos:0<t
 bx:Bt 800 x
 bY:Bt 800 y
 bt:Bt 110 t
 cop:Int.gcd ((Int.gcd x y:Nat):Int) t=1
def Pl.pc {x y b u v t:Int}(h:Pl x y b u v t)(f:0<b)(d:Bt 110 b)(e:Bt 800 x)(a:Bt 800 y):Pc u v t:=by
 obtain⟨g,i,j⟩:=h.bt f d e a;exact⟨h.pos,i,j,g,h.cop⟩
def deq3 (a b c x y z:Int):deq (pcD a b c) (pcD x y z)=decide (a=x/\b=y/\c=z):=by
 show PyData.eqv (.tuple [.int a,.int b,.int c]) (.tuple [.int x,.int y,.int z])=_;simp[PyData.eqv,PyData.eqvAll]
 rfl
def Da3 (a b c:Int){n:Nat}:Da (n+1) (pcD a b c):=Da.tup.mpr λd e=>by
 simp[wm,wz,vK] at e
 rcases e with rfl | rfl | rfl <;> exact Da.int
def zeD {l:List P}{b:P}{m:Int}(f:Wb 600 l)(a:Vb 700 b)(h:m∈l.map (dot · b)):Bt 1400 m:=by
 obtain⟨p,g,rfl⟩:=wj.mp h;obtain⟨d,e⟩:=f p g;exact Bt.le (Bt.add (Bt.mul d a.1) (Bt.mul e a.2))
def zdo {x y t m:Int}{b:P}{Q:DK}{X:XP}(pc:Pc x y t)(f:Vb 700 b)(j:Bt 1400 m)(q:Q (.bl (decide (m*t<dot (x,y) b)))):z0X.run [pcD x y t,vec b,.int m] Q X:=by
 obtain⟨g,o,i,e,_⟩:=pc;obtain⟨p,r⟩:=f;walk_at "fn";ac_nf;rw[show b.1*x+b.2*y=dot (x,y) b by simp[dot];rw[vN b.1,vN b.2]];exact q
def z3m {x y:Str}{Q:DK}{X:XP}(q:Q (.bl (decide (x=y)))):pEq.run [.str x,.str y] Q X:=q
end Pu
namespace Tim
open PySem PyProof.Rows PySem.W HT
def TP (h:Heap)(v:Value)(n:Int):Prop:=∃a o b m t r,v = .ref a/\h.get? a=some o/\o.cls = .type "tuple"/\o.data = .seq b m/\b.toList=[.int n t,r]
def TP.keep {h f:Heap}{v:Value}{n:Int}(x:TP h v n)(g:∀b o,h.get? b=some o->o.cls = .type "tuple"->f.get? b=some o):TP f v n:=by
 obtain⟨a,o,d,m,t,r,e,j,i,l,p⟩:=x;exact⟨a,o,d,m,t,r,e,g _ _ j i,i,l,p⟩
def keyP (h:Heap)(v:Value):Int:=match v with
 | .ref a=>match h.get? a with
  | some o=>match o.data with
   | .seq b _=>match b.toList with
    | .int n _::_=>n
    | _=>0
   | _=>0
  | none=>0
 | _=>0
def TP.key {h:Heap}{v:Value}{n:Int}(x:TP h v n):keyP h v=n:=by
 obtain⟨a,o,f,m,t,r,rfl,b,_,d,e⟩:=x;simp[keyP,b,d,e]
section
variable {prog:Program}{w:World}{A:Around}{s:Shared}
def lex1 (a b:Int):z0x [a] [b]=decide (a<b):=by
 rw[z0P]
 by_cases e:a=b
 .rw[if_pos e]
  symm
  exact w9 (by omega)
 .rw[if_neg e]
def zhc {b:Bool}{Q:Bool->Shared->Prop}{n m:Int}{t u:Tok}{r a:Value}(d:n=m->r=a)(h:Q (decide (n<m)) s):KatLex prog w A b false Q ([Value.int n t,r].zip [Value.int m u,a]) 0 s:=by
 refine kat_cons (wpAny_eqBool_int ?_)
 by_cases e:n=m
 .subst e;rw[show (n == n)=true by simp];obtain rfl:=d rfl;refine kat_yes (kat_cons (SeqAt.EqAt.same r _ w _ _ (kat_yes (kat_nil ?_))))
  grind
 .rw[show (n == m)=false by simpa using e];refine kat_no ?_
  cases f:(b && 0 == 0) with
  | true=>exact oneLt_int h
  | false=>exact kat_one _ _ (lt_int h)
theorem z86 {h:Heap}{key:Value->Int}:∀{vs:List Value},(∀v∈vs,TP h v (key v))->∃fs:List Value,KatTups h vs fs/\fs.length=vs.length/\∀f∈fs,∃n t,f = .int n t
 | [],_=>⟨[],.nil,rfl,λ_ h=>by cases h⟩
 | v::vs,d=>by
  obtain⟨fs,q,s,u⟩:=z86 (λv m=>d v (wp _ m));obtain⟨a,o,p,n,t,r,e,g,i,j,l⟩:=d v (ww ..);subst e;refine⟨.int _ t::fs,.cons g i j (by rw[<- uk,l];rfl) q,by simp[s],λf b =>?_⟩
  rcases wm.mp b with rfl | b
  .exact⟨_,_,rfl⟩
  .exact u f b
def z53.prs {h:Heap}{vs:List Value}{key:Value->Int}(a:∀v∈vs,TP h v (key v))(inj:∀u∈vs,∀v∈vs,key u=key v->u=v):z53 prog w h vs (λv=>rkL (vs.map λv=>[key v]) [key v]):=λA s k=>by
 refine⟨tuples' true,?_,λO Q E q =>?_⟩
 .intro x d y f Q E g;rw[<- z9v (wj.mpr ⟨_,d,rfl⟩) (wj.mpr ⟨_,f,rfl⟩),lex1] at g;have R:=inj _ d _ f;obtain⟨K,W,C,S,Z,r1,o,r,M,l,i⟩:=(a _ d).keep k;obtain⟨L,X,F,U,t2,r2,p,z,N,m,j⟩:=(a _ f).keep k;rw[o,p];have G:C.size=2:=by rw[<- ug,i];rfl
  have H:F.size=2:=by rw[<- ug,j];rfl
  refine kat_lt r l z m ?_;rw[i,j,show decide _=false by rw[G,H];rfl];refine zhc (λe =>?_) g
  grind
 .obtain⟨fs,I,Y,J⟩:=z86 λv b=>(a v b).keep k;refine kat_kind (T :=.type "int") I (by omega) (λv b =>?_) rfl q;obtain⟨n,t,rfl⟩:=J v b;exact Looks.now
end
end Tim
namespace Pu
open PySem PySem.Spec PyProof.Rows L2 Tab
abbrev pdD (x:Int × D):D :=.tup [.int x.1,x.2]
def zkP (d:D)(Q:DK):Prop:=∃e:List (Int × D),d = .lst (e.map pdD)/\(e.map (·.1)).Nodup/\e.length<=63/\∀f:List (Int × D),f.Perm e->f.Pairwise (λa b=>a.1<b.1)->Q (.lst (f.map pdD))
def zfj:Fn:=fn1 zkP λd Q l m h=>by
 obtain⟨j,e,f,g,q⟩:=h;exact⟨j,e,f,g,λi a b=>m _ (q i a b)⟩
section
variable {X:Cx}
theorem zbp {G:Hp}{P:Value->Int->Prop}(g:∀(b:Addr) (n:Int) (u:V),SqT X.K G b [.int n,u]->P (.ref b) n):∀{e:List (Int × D)}{xs:List V}{d:List Value},RDs X.K X.mg G (e.map pdD) xs->Vals xs d->Two (λv (p:V × Int × D)=>P v p.2.1/\RelV p.1 v/\RD X.K X.mg G (pdD p.2) p.1) d (xs.zip e)
 | [],xs,d,h,r=>by
  subst h
  cases r
  exact .nil
 | x::e,xs,d,h,r=>by
  obtain⟨v,vs,rfl,f,i⟩:=h
  cases r with
  | cons r1 r2=>
   refine .cons ⟨?_,r1,f⟩ (zbp g i r2);obtain⟨a,q,rfl,j,l⟩:=z1m f
   cases r1
   obtain⟨y,z,rfl,m,o⟩:=rds2 l;subst m;exact g a x.1 z j
theorem z8C {G:Hp}{P:Value->Int->Prop}:∀{a:List Value}{m:List (V × Int × D)},Two (λv (p:V × Int × D)=>P v p.2.1/\RelV p.1 v/\RD X.K X.mg G (pdD p.2) p.1) a m->Vals (m.map (·.1)) a/\RDs X.K X.mg G ((m.map (·.2)).map pdD) (m.map (·.1))
 | _,_,.nil=>⟨.nil,RDs.nil⟩
 | _,_,.cons ⟨_,b,d⟩ t=>⟨.cons b (z8C t).1,RDs.cons d (z8C t).2⟩
theorem z5k {d e j:Type}{R:d->e->Prop}{f:d->j}{g:e->j}(i:∀a b,R a b->f a=g b):∀{l:List d}{m:List e},Two R l m->l.map f=m.map g
 | _,_,.nil=>rfl
 | _,_,.cons h t=>by rw[wL,wL,i _ _ h,z5k i t]
theorem zck {i m:Type}{f:i->m}:∀{l:List i},(l.map f).Nodup->∀u∈l,∀v∈l,f u=f v->u=v
 | a::l,h,u,j,v,g,e=>by
  rw[wL,vO] at h
  rcases wm.mp j with rfl | d
  .rcases wm.mp g with rfl | b
   .rfl
   .exact(h.1 (wj.mpr ⟨v,b,e.symm⟩)).elim
  .rcases wm.mp g with rfl | b
   .simp_all
   .exact zck h.2 u d v b e
def zf0 {h:Heap}{o:Type}{d e:List Value}{m:List o}{g:o->Int}(j:e.Perm d)(t:e.Pairwise λx y=>Tim.rkL (d.map λv=>[Tim.keyP h v]) [Tim.keyP h x]<=Tim.rkL (d.map λv=>[Tim.keyP h v]) [Tim.keyP h y])(s:e.map (Tim.keyP h)=m.map g)(i:(m.map g).Nodup):m.Pairwise λa b=>g a<g b:=by
 have n:(e.map (Tim.keyP h)).Pairwise (· <= ·):=by
  rw[wS];refine t.imp_of_mem λ{x y} q r f =>?_;have p:=Tim.z9v (l:=d.map λv=>[Tim.keyP h v]) (wj.mpr ⟨y,j.mem_iff.mp r,rfl⟩) (wj.mpr ⟨x,j.mem_iff.mp q,rfl⟩);rw[Tim.lex1,w9 (Nat.not_lt.mpr f)] at p;lia
 rw[s,wS] at n;unfold List.Nodup at i;rw[wS] at i;exact(n.and i).imp λ{x y} h=>by
  lia
def zaQ:z0C X (.builtin "sorted") (λvs H Q=>∃(G:Hp) (a:Addr) (xs:List V) (rs:List (Int × D)),vs=[.ref a]/\Same G H/\SqL X.K G a xs/\RDs X.K X.mg G (rs.map pdD) xs/\(rs.map (·.1)).Nodup/\rs.length<=63/\
  ∀(x:Addr) (f:List V) (L:List (Int × D)),H x=none->RDs X.K X.mg G (L.map pdD) f->L.Perm rs->L.Pairwise (λa b=>a.1<b.1)->Q (.ref x) (upd H x (.lst f))):=by
 rintro R s σ H xs us Q I rv ⟨G,a,w,rs,e,g,hs,N,J,hz,q⟩;subst e;obtain⟨u,rfl,rx⟩:=z37 rv
 cases rx
 obtain⟨d,r,pl,_⟩:=I.list (z1j g hs);have j:=zbp (P:=λv n=>Tim.TP s.heap v n) (λb n u h=>by
  obtain⟨a1,r',⟨o,ho,Y,m,Z⟩,_⟩:=I.tuple (z0u g h)
  cases r' with
  | cons r1 r2=>
   obtain⟨t,rfl⟩:=r1
   cases r2 with
   | cons r3 r4=>
    cases r4
    exact⟨b,o,_,m,t,_,rfl,ho,Y,Z,rfl⟩) N r
 have i:d.map (Tim.keyP s.heap)=(w.zip rs).map (·.2.1):=z5k (λv p h=>h.1.key) j;have l:w.length=rs.length:=by rw[N.len,we]
 have U:(w.zip rs).map (·.2.1)=rs.map (·.1):=by
  rw[show ((w.zip rs).map (·.2.1))=((w.zip rs).map (·.2)).map (·.1) by rw[wJ];rfl,List.map_snd_zip (by lia)]
 have A:∀v∈d,Tim.TP s.heap v (Tim.keyP s.heap v):=λv E=>by
  obtain⟨p,_,y,_⟩:=j.mem_left E;rw[y.key];exact y
 have inj:∀u∈d,∀v∈d,Tim.keyP s.heap u=Tim.keyP s.heap v->u=v:=λu hu v E e=>by
  rw[U] at i;rw[<- i] at J;exact zck J u hu v E e
 have a0:d.length=rs.length:=by rw[<- r.length,l]
 refine Tim.z5s λE' =>?_;refine collect_list (vs:=d) (by simpa using pl.isList) ?_ (by lia);have keep:∀b o,s.heap.get? b=some o->((s.heap.push (seqObj "list" #[] 0)).update s.heap.objs.size (Obj.mapSeq (· ++ d.toArray))).get? b=some o:=λb o z=>by
  rw[Heap.get?_update_ne _ _ _ _ (wI (wu z))];exact wf _ z
 refine⟨_,by lia,(Tim.z53.prs A inj).keep keep,λf O p2 h' kp C =>?_⟩;obtain⟨e,C⟩:=C;obtain⟨m,S,T⟩:=j.perm O.symm;obtain⟨v1,v2⟩:=z8C T;have M:s.heap.get? ((s.heap.push (seqObj "list" #[] 0)).update s.heap.objs.size (Obj.mapSeq (· ++ d.toArray))).objs.size=none:=by
  cases z:s.heap.get? ((s.heap.push (seqObj "list" #[] 0)).update s.heap.objs.size (Obj.mapSeq (· ++ d.toArray))).objs.size with
  | none=>rfl
  | some o=>exact absurd (wu (keep _ _ z)) (vB _)
 have perm:(m.map (·.2)).Perm rs:=by
  have:=(S.map (·.2)).symm
  rwa [List.map_snd_zip (by lia)] at this
 have F:(m.map (·.1)).length<=sizeLine:=by
  have y:=S.length_eq;have W:=perm.length_eq;rw[we] at W ⊢;exact wM (show m.length<=64 by lia) (by decide)
 refine⟨.ref _,upd H _ (.lst (m.map (·.1))),I.laid' (o :=.lst (m.map (·.1))) (t':=s.toks) (λb o z=>kp b o (keep b o z)) M ⟨F,f,e,v1,C⟩,rfl,q _ _ _ (I.hok.none_of M) v2 perm ?_⟩;refine wS.mpr (zf0 (h:=s.heap) (g:=λp:V × Int × D=>p.2.1) O p2 (z5k (λv p h=>h.1.key) T) ?_);have:=perm.map (·.1);rw[wJ] at this;exact this.nodup_iff.mpr J
def zeK:z0C X (.builtin "sorted") (rNf X.K X.mg zfj):=zaQ.imp <| by
 rintro vs H Q ⟨G,y,w,x,g,rds,j,i⟩;obtain⟨d,rfl,b⟩:=z1c j;obtain⟨v,rfl,rd⟩:=rds1 rds;obtain⟨t,rfl,n,m,q⟩:=b;obtain⟨a,u,rfl,e,f⟩:=z1W rd;exact⟨G,a,u,t,rfl,g,e,f,n,m,λD o s h l p r=>i.newL g h (q s p r) l⟩
end
end Pu
namespace Idx
open PySem PySem.Spec PyProof.Rows SeqAt
def zhJ {M:Model}{A:Around}{E:WvP}{s:Shared}{g:Type}{hi:Nat}(f:Nat->g->Sem (ForInStep g))(J:Nat->g->Shared->Prop)(Q:g->Shared->Prop){b:g}
  (step:∀i b s,i<hi->J i b s->wpAny M A (f i b) (λr s'=>match r with | .yield d=>J (i+1) d s' | .done d=>Q d s') E s)
  (last:∀b s,J hi b s->Q b s) (h:J 0 b s):wpAny M A (forIn [:hi] b f) Q E s:=by
 rw[Std.Legacy.Range.forIn_eq_forIn_range'];have sz:([:hi]).size=hi:=by simp_all
 rw[sz];refine jo f (λa b s=>∃i,i<=hi/\a=List.range' i (hi - i)/\J i b s) Q ?_ ?_ _ b ⟨0,by omega,rfl,h⟩
 .rintro x a b s ⟨i,m,e,l⟩
  rcases wN i hi with z | z
  .rw[show hi - i=hi - (i+1)+1 by omega] at e;obtain⟨rfl,rfl⟩:=List.cons.inj e;refine vJ (step x b s z l) (λr s' n =>?_) λ_ _ j=>j
   cases r with
   | yield d=>grind
   | done d=>exact n
  simp_all
 grind
def zhO (l:Addr)(a:Array Value)(n:Nat)(u:Option Addr)(sl:Array (Option Value))(x:Value)(e:Value->Bool)(j:Nat)(K:j<a.size)(q:e a[j]=true)(r:∀m (L:m<a.size),m<j->e a[m]=false):
  Meets (Builtin.«tuple.index» ⟨[.ref l,x],[]⟩) (λA R s=>s.heap.get? l=some { cls :=.type "tuple",dict:=u,data :=.seq a n,slots:=sl }/\(∀y,y∈a->EqAt A.in1 s y x (e y))/\R (.ok (.ret (.int j s.toks))) { s with toks:=s.toks+1 }):=
 .of_wp λo w A R s h=>by
  obtain⟨G,g,d,I,H⟩:=s;obtain⟨F,E,h⟩:=h
  wp_walk using u7 F,zhJ _ (λi b t=>b.1=none/\t=⟨G,g,d,I,H⟩/\i<=j) _
  case step=>
   rintro i b t J ⟨C,rfl,p⟩;have f:i<a.size:=by omega
   rw[ue f];refine wc (E a[i] (Array.getElem_mem f) o w _ _ ?_)
   rcases wN i j with z | z
   .rw[r i f z]
    wp_walk
    exact⟨rfl,rfl,z⟩
   .obtain rfl:i=j:=by omega
    rw[q]
    wp_walk
    exact⟨_,rfl,h⟩
  case last=>
   rintro b t ⟨C,rfl,p⟩;omega
  case h=>exact⟨rfl,rfl,by omega⟩
end Idx
namespace Pu
open PySem PySem.Spec PyProof.Rows L2 Tab
section
variable {X:Cx}{G H:Hp}
def z4V (b a:D)(Q:DK):Prop:=match b with
 | .tup l=>Da 60 a/\(∀d∈l,Da 60 d)/\(∃d∈l,deq d a=true)/\∀(i:Nat) (d:D),l[i]? = some d->deq d a=true->(∀j e,j<i->l[j]? = some e->deq e a=false)->Q (.int (i:Int))
 | _=>False
def z97 (a b:D)(Q Q':DK)(m:∀d,Q d->Q' d)(h:z4V a b Q):z4V a b Q':=by
 unfold z4V at h ⊢
 split at h
 .exact⟨h.1,h.2.1,h.2.2.1,λi d e f g=>m _ (h.2.2.2 i d e f g)⟩
 omega
def zbG:Fn:=fn2 z4V z97
open Classical in
theorem z5R {d:Type}(f:d->Bool):∀(l:List d),(∃x∈l,f x=true)->∃(i:Nat) (x:d),l[i]? = some x/\f x=true/\∀(j:Nat) (y:d),j<i->l[j]? = some y->f y=false
 | [],⟨x,b,_⟩=>by cases b
 | a::l,⟨x,b,h⟩=>by
  cases g:f a with
  | true=>exact⟨0,a,rfl,g,λj y p=>by omega⟩
  | false=>
   rcases wm.mp b with rfl | b
   .rw[g] at h;cases h
   .obtain⟨i,y,m,n,o⟩:=z5R f l ⟨x,b,h⟩;refine⟨i+1,y,by rw[uJ];exact m,n,λj z p e =>?_⟩
    cases j with
    | zero=>rw[List.getElem?_cons_zero] at e;cases e;exact g
    | succ j=>exact o j z (by omega) (by rwa [uJ] at e)
def zgb (X:Cx):V->List V->Hp->VK->Prop:=λx g H Q=>∃(G:Hp) (a:Addr) (f:List V) (l:List D) (d:D) (v:V),x = .ref a/\g=[v]/\Same G H/\SqT X.K G a f/\RDs X.K X.mg G l f/\RD X.K X.mg G d v/\Da 60 d/\(∀e∈l,Da 60 e)/\(∃e∈l,deq e d=true)/\
 ∀(i:Nat) (e:D),l[i]? = some e->deq e d=true->(∀(j:Nat) (b:D),j<i->l[j]? = some b->deq b d=false)->Q (.int (i:Int)) H
def z6c (hu:X.A.units+64<cLine):MtR X "tuple.index" (zgb X):=by
 rintro N s σ H x xs v us Q I rx rs ⟨G,a,ys,l,d,w,T,U,g,hT,J,hd,W,Y,Z,q⟩;subst T;subst U
 cases rx
 obtain⟨u,rfl,ru⟩:=rs.one;obtain⟨b,O,pl,_⟩:=I.tuple (z0u g hT);obtain⟨e,q1,_,q2⟩:=z8w I g hu hd ru W Y J O;obtain⟨⟨R,S,t,sl⟩,K,C,n,f⟩:=id pl;simp only at C f;subst C f;obtain⟨i,x,j,L,h⟩:=z5R (λe=>deq e d) l Z;have il:i<l.length:=by
  rcases wN i l.length with z | z
  .exact z
  .rw[v5 z] at j;cases j
 have len:b.length=l.length:=by rw[<- O.length,J.len]
 have E:i<b.toArray.size:=by simpa[len] using il
 have val:∀(m:Nat) (o:m<b.toArray.size) (y:D),l[m]? = some y->e b.toArray[m]=deq y d:=λm o y r=>q2 m _ y (by rw[wt (by simpa using o)];simp) r;refine call_meets PySem.F.slot_tuple_index ⟨_,K,rfl⟩ PySem.F.entry_tuple_index (PySem.F.args_tuple_index_2 _ _) (Idx.zhO a b.toArray n S sl u e i E ((val i E x j).trans L) λm o p =>?_) ⟨K,λy r=>q1 y (by simpa using r),?_⟩
 .have M:m<l.length:=by omega
  rw[val m o _ (wt M)];exact h m _ p (wt M)
 .exact⟨.int i,H,I.tok _,⟨_,rfl⟩,q i x j L h⟩
end
section
variable {X:Cx}{E:XK}{o e:Expr}{apos cpos:Pos}{i j:Nat}
def tBMT (K:W.Frag)(r:V->List V->Hp->VK->Prop)(f:TE)(t:TA):TE:=λd H Q=>f d H λx b=>(∃p a,x = .ref p/\SqT K b p a)/\t d b λa e=>r x a e Q
def zjh {id:String}{name:Str}{r:V->List V->Hp->VK->Prop}{w:TE}{n:TA}(g:Slot "tuple" name id)(l:typeOf (.builtin id)=pure (.type "method_descriptor"))(L:MtR X id r)(M:QE X o w)(J:QA X [e] n)
  (b:autoParam (attributeBase o name X.env (eval o X.env)=eval o X.env) jA1)
  (f:autoParam (((backTo cpos (starEach [e] X.env)).all (λx => !x.1) && (backToKw cpos (keywordEach [] X.env)).all (λx=>x.1.isSome)
   && decide ([e].length+([]:List Keyword).length+(if ([]:List Keyword).isEmpty then 0 else 1)<30))=true) jA1)
  (d:autoParam ((apos.endLine == cpos.line)=true) jA1) (hs:autoParam (starEach [e] X.env=(false,eval e X.env)::starEach [] X.env) jA1) (i:autoParam ((backTo cpos (starEach [] X.env)).any (·.1)=false) jA1):
  QE X (.Call (.Attribute o name apos) [e] [] cpos) (tBMT X.K r w n):=⟨by
 intro u s m H Q I h;refine wpAny_Call_method_late b f d rfl (thn (M.p _ s m H _ I h) λv T Y =>?_);obtain⟨x,y,j,r1,⟨p,Z,ex,t⟩,R⟩:=Y;subst ex
 cases r1
 obtain⟨N,_,⟨O,E,G,_⟩,_⟩:=j.tuple t;refine⟨"tuple",id,PySem.F.plainAttrs_tuple,g,l,⟨O,E,G⟩,λa C =>?_,?_⟩
 .cases C
  exact j.tupNoD t
 have q:=J.p cpos _ T m y _ j R;rw[hs] at q ⊢;refine uN (by rfl) (Calls.evalArgs_plain ?_);exact thn q λW U ⟨vs,z,A,r2,S⟩=>L _ U m z (.ref p) vs _ W Q A rfl r2 S⟩
def zan (hu:X.A.units+64<cLine)(ho:QX X E o (.v i))(ha:QXA X E [e] [.v j])
  (s:autoParam (attributeBase o "index" X.env (eval o X.env)=eval o X.env) jA1)
  (u:autoParam (((backTo cpos (starEach [e] X.env)).all (λx => !x.1) && (backToKw cpos (keywordEach [] X.env)).all (λx=>x.1.isSome)
   && decide ([e].length+([]:List Keyword).length+(if ([]:List Keyword).isEmpty then 0 else 1)<30))=true) jA1)
  (t:autoParam ((apos.endLine == cpos.line)=true) jA1) (hs:autoParam (starEach [e] X.env=(false,eval e X.env)::starEach [] X.env) jA1) (h:autoParam ((backTo cpos (starEach [] X.env)).any (·.1)=false) jA1):
  QX X E (.Call (.Attribute o "index" apos) [e] [] cpos) (.op zbG [.v i,.v j]):=
 QE.imp (zjh PySem.F.slot_tuple_index PySem.F.type_tuple_index (z6c hu) ho ha s u t hs h) <| by
  rintro σ H Q ⟨G,p,Q0,K,g,L,hr,hk,S⟩;have b:onV (p.get i) _:=hr
  cases C:p.get i with
  | none=>rw[C] at b;exact b.elim
  | some d=>
   rw[C] at b
   cases I:p.get j with
   | none=>
    have f:onV (p.get j) (λr=>z4V d r Q0):=b;rw[I] at f;exact f.elim
   | some r=>
    have f:onV (p.get j) (λr=>z4V d r Q0):=b;rw[I] at f;have m:z4V d r Q0:=f;refine⟨G,p,λc=>c=d,K,g,L,(by show onV (p.get i) _;rw[C];exact rfl),?_,S⟩;rintro c v W H1 rfl N O g3 rd;unfold z4V at m
    split at m
    .rename_i l
     obtain⟨h1,h2,h3,q⟩:=m;obtain⟨a,U,rfl,R,hl⟩:=z1m rd;refine⟨⟨a,U,rfl,z0u O R⟩,W,p,λM=>M=[r],K,O,L.same N.1,(by show onV (p.get j) _;rw[I];exact rfl),?_,S.same g3⟩;rintro M vs J Y rfl y T k3 rds;obtain⟨w,rfl,z⟩:=rds1 rds;exact⟨J,a,U,l,r,w,rfl,rfl,T,z0u y.1 R,hl.same y.1,z,h1,h2,h3,λn c Z e2 e3=>hk _ _ J Y (q n c Z e2 e3) (N.trans g3 y) T (z03 g3 k3) RD.int'⟩
    .exact m.elim
end
section
variable {X:Cx}
theorem za7 (f:Nat->Int):∀k,argBest (λi j=>decide (f i<f j)) k<=k/\∀j,j<=k->f (argBest (λi j=>decide (f i<f j)) k)<=f j
 | 0=>⟨wq _,λj h=>by rw[show j=0 by lia];exact jy _⟩
 | k+1=>by
  obtain⟨a,b⟩:=za7 f k;rw[argBest]
  grind
def zcL (hc:X.calm=true):z0C X (.builtin "min") (λvs H Q=>∃G a ns,vs=[.ref a]/\Same G H/\SqT X.K G a (ns.map V.int)/\ns≠[]/\∀m,m∈ns->(∀x∈ns,m<=x)->Q (.int m) H):=by
 rintro O s σ H xs us Q I rv ⟨G,a,ns,e,g,Z,r,q⟩;subst e;obtain⟨u,rfl,rx⟩:=z37 rv
 cases rx
 have hh:X.A.handled=none:=I.ok.hd hc;obtain⟨a1,rr,pl,_⟩:=I.tuple (z0u g Z);obtain⟨l,rfl,L⟩:=z5j ns rr;have a0:l.length=ns.length:=by rw[<- L,we]
 have N:0<ns.length:=ve.mpr r;obtain⟨o,M,f,n,hd⟩:=id pl;have F:a<s.heap.objs.size:=wu M;have val:∀(i:Nat) (v:Value),(l.map λp=>Value.int p.1 p.2).toArray[i]? = some v->∃t,v = .int ((ns[i]?).getD 0) t/\i<ns.length:=λi v e=>by
  have d:(l.map λp=>Value.int p.1 p.2)[i]? = some v:=by simpa using e
  rw[wO] at d
  cases z:l[i]? with
  | none=>rw[z] at d;cases d
  | some p=>
   rw[z] at d
   cases d
   have h:i<l.length:=by
    rcases wN i l.length with w | w
    .exact w
    .rw[v5 w] at z;cases z
   exact⟨p.2,by rw[<- L,wO,z];rfl,by lia⟩
 have W:=(Walks.tuple (prog:=X.prog) (w:=X.w) (A:=X.A.in1) (show X.A.in1.handled=none from by simp[hh]) s.heap.objs.size a (wI F) (l.map λp=>Value.int p.1 p.2).toArray).toS;refine call_min_walkS (uU pl ⟨_,_,_,_,_,_,_,λi j=>decide ((ns[i]?).getD 0<(ns[j]?).getD 0),rfl,W,⟨⟨_,wn _ rfl,rfl,rfl⟩,⟨o,wf _ M,f,n,hd⟩⟩,λb J =>?_,by simp;lia,?_,λv s' pv mv =>?_⟩)
 .rw[vY];simp only[wm,wz,vK] at J
  rcases J with e | e
  .rw[e];exact uG _
  .rw[e];exact v7 F
 .intro i j x y s1 Q1 E1 px py q1;obtain⟨t,rfl,_⟩:=val i x px;obtain⟨t',rfl,_⟩:=val j y py;exact lt_int q1
 .obtain⟨t,rfl,h⟩:=val _ v pv;obtain⟨h',Y,R,E,C⟩:=s';have T:Y=s.gens:=mv.gens;have S:R=s.drawn:=mv.drawn;have U:C=s.os:=mv.os;subst T;subst S;subst U;refine⟨.int _,H,I.kept (t':=E) λb o e=>mv.heap b o ?_ (wf _ e),⟨t,rfl⟩,q _ ?_ λx hx =>?_⟩
  .simp only[wo];exact wI (wu e)
  .rw[wt h];exact jp h
  .obtain⟨j,hj,rfl⟩:=wT.mp hx;have:=(za7 (λi=>(ns[i]?).getD 0) ((l.map λp=>Value.int p.1 p.2).toArray.size - 1)).2 j (by simp;lia);simpa[wt hj] using this
def zmq (d:D)(Q:DK):Prop:=∃a:List Int,d = .tup (a.map .int)/\a≠[]/\∀m,m∈a->(∀x∈a,m<=x)->Q (.int m)
def zjM:Fn:=fn1 zmq λd Q i m ⟨h,e,f,g⟩=>⟨h,e,f,λk a b=>m _ (g k a b)⟩
theorem z8M:∀{ns:List Int}{vs:List V}{K:W.Frag}{mg:WmP}{G:Hp},RDs K mg G (ns.map D.int) vs->vs=ns.map V.int
 | [],vs,K,mg,G,h=>by
  exact h
 | n::ns,vs,K,mg,G,h=>by
  obtain⟨x,r,rfl,a,b⟩:=h;rw[a,z8M b]
  rfl
def zht (l:X.calm=true):z0C X (.builtin "min") (rN X.K X.mg zjM):=(zcL l).imp <| by
 rintro vs H Q ⟨G,t,r,s,g,rds,o,n⟩;obtain⟨d,rfl,e⟩:=z1c o;obtain⟨v,rfl,rd⟩:=rds1 rds;obtain⟨p,rfl,b,q⟩:=e;obtain⟨a,u,rfl,f,h⟩:=z1m rd;rw[z8M h] at f;exact⟨G,a,p,rfl,g,f,b,λm i j=>n.now g (q m i j) RD.int'⟩
def zcI (y:X.calm=true):z0C X (.builtin "sum") (λvs H Q=>∃(G:Hp) (a:Addr) (ns:List Int),vs=[.ref a]/\Same G H/\SqT X.K G a (ns.map V.int)/\Q (.int ns.sum) H):=by
 rintro t s W H U T Q I N ⟨G,a,ns,e,g,x,q⟩;subst e;obtain⟨u,rfl,O⟩:=z37 N
 cases O
 have E:X.A.handled=none:=I.ok.hd y;obtain⟨L,M,pl,_⟩:=I.tuple (z0u g x);obtain⟨l,rfl,m⟩:=z5j ns M;have J:l.length=ns.length:=by rw[<- m,we]
 obtain⟨o,r,f,n,C⟩:=id pl;have h:a<s.heap.objs.size:=wu r;refine call_sum_walkG (uU pl ⟨_,_,_,_,_,_,λi=>ns.getD i 0,rfl,Walks.tuple (prog:=X.prog) (w:=X.w) (A:=X.A.in1) (show X.A.in1.handled=none from by simp[E]) s.heap.objs.size a (wI h) (l.map λp=>Value.int p.1 p.2).toArray,⟨⟨_,wn _ rfl,rfl,rfl⟩,⟨o,wf _ r,f,n,C⟩⟩,λb j =>?_,λi v e =>?_,λS R t' F =>?_⟩)
 .rw[vY];simp only[wm,wz,vK] at j
  rcases j with e | e
  .rw[e];exact uG _
  .rw[e];exact v7 h
 .have d:(l.map λp=>Value.int p.1 p.2)[i]? = some v:=by simpa using e
  rw[wO] at d
  cases z:l[i]? with
  | none=>rw[z] at d;cases d
  | some p=>
   rw[z] at d
   cases d
   exact⟨p.2,by dsimp only;rw[uq, <- m,wO,z];rfl⟩
 .refine⟨.int _,H,I.kept (t':=R) λb o e=>F b o ?_ (wf _ e),⟨t',rfl⟩,?_⟩
  .simp only[wo];exact wI (wu e)
  .rw[preSum_getD,vL (by simp;lia)];exact q
def zmp (d:D)(Q:DK):Prop:=∃a:List Int,d = .tup (a.map .int)/\Q (.int a.sum)
def zjL:Fn:=fn1 zmp λd Q b m ⟨a,e,h⟩=>⟨a,e,m _ h⟩
def zhs (h:X.calm=true):z0C X (.builtin "sum") (rN X.K X.mg zjL):=(zcI h).imp <| by
 rintro vs H Q ⟨G,o,m,n,g,rds,j,i⟩;obtain⟨d,rfl,b⟩:=z1c j;obtain⟨v,rfl,rd⟩:=rds1 rds;obtain⟨l,rfl,q⟩:=b;obtain⟨a,p,rfl,e,f⟩:=z1m rd;rw[z8M f] at e;exact⟨G,a,l,rfl,g,e,i.now g q RD.int'⟩
end
end Pu
namespace Pu
open PySem L2
def z1h:Fn:=Fn.mkN 2 4 (.seq (.for_ [] (.tp [2,3]) (.op z3K [.v 0]) (.ifs (.op z0X [.v 1,.v 2,.v 3]) (.ret (.v 2)) .skip))
 (.ret (.c .non)))
def z3J:Fn:=Fn.mkN 2 2 (.ret (.op pTup [.op pSub [.op pIx [.v 1,.c (.int 0)],.op z0b [.op pIx [.v 0,.c (.int 0)],.op pIx [.v 1,.c (.int 2)]]],.op pSub [.op pIx [.v 1,.c (.int 1)],.op z0b [.op pIx [.v 0,.c (.int 1)],.op pIx [.v 1,.c (.int 2)]]]]))
def z2z:Fn:=Fn.mkN 2 5 (.seq (.set 2 (.op z0v [.op pIx [.v 0,.c (.int 0)],.op pIx [.v 0,.c (.int 1)]]))
 (.seq (.set 3 (.op z0b [.op z14 [.v 2,.v 2],.op pIx [.v 1,.c (.int 2)]]))
 (.seq (.set 4 (.op z14 [.op z3J [.op pIx [.v 0,.c (.int 0)],.v 1],.v 2]))
 (.ret (.op pTup [.op pSub [.v 3,.v 4],.v 4])))))
def z0H:Fn:=Fn.mkN 2 8 (.seq (.set 2 (.op z0v [.op pIx [.v 0,.c (.int 0)],.op pIx [.v 0,.c (.int 1)]]))
 (.seq (.set 3 (.op z0v [.op pIx [.v 0,.c (.int 0)],.op pIx [.v 0,.c (.int 2)]]))
 (.seq (.set 4 (.op z3J [.op pIx [.v 0,.c (.int 0)],.v 1]))
 (.seq (.set 5 (.op z0b [.op z1n [.v 2,.v 3],.op pIx [.v 1,.c (.int 2)]]))
 (.seq (.set 6 (.op z1n [.v 4,.v 3]))
 (.seq (.set 7 (.op z1n [.v 2,.v 4]))
 (.ret (.op pTup [.op pSub [.op pSub [.v 5,.v 6],.v 7],.v 6,.v 7]))))))))
def z1d:Fn:=Fn.mkN 2 4 (.seq (.set 2 (.c (.int 2)))
 (.seq (.set 3 (.sl (.v 0) none (some (.c (.int 3)))))
 (.seq (.wh (.op pLt [.op zjM [.op z0H [.v 3,.v 1]],.c (.int 0)]) (.seq (.set 2 (.op pAdd [.v 2,.c (.int 1)]))
 (.set 3 (.op pTup [.op pIx [.v 0,.c (.int 0)],.op pIx [.v 0,.op pSub [.v 2,.c (.int 1)]],.op pIx [.v 0,.v 2]]))))
 (.ret (.v 3)))))
def z5d:Fn:=Fn.mkN 2 3 (.seq (.ifs (.op pEq [.v 1,.c (.int 0)]) .never .skip)
 (.seq (.set 2 (.op z04 [.v 1,.v 0]))
 (.seq (.ifs (.op pLt [.v 1,.c (.int 0)]) (.set 2 (.op pNeg [.v 2])) .skip)
 (.ret (.op pTup [.op z1u [.v 0,.v 2],.op z1u [.v 1,.v 2]])))))
def z0Q:Fn:=Fn.mkN 3 5 (.seq (.set 3 (.op zjL [.v 2]))
 (.seq (.set 4 (.comp 2 [3,0] (.tp [0,1]) (.op z6P [.v 1,.v 2]) (some (.op pGt [.v 1,.c (.int 0)])) (.op pTup [.op zbG [.v 3,.v 0],.op z5d [.v 1,.v 2]])))
 (.ret (.op z1Y [.op zfj [.v 4]]))))
def z32:Fn:=Fn.mkN 2 6 (.seq (.set 2 (.op z07 [.v 0]))
 (.seq (.set 3 (.op z1h [.v 2,.v 1]))
 (.seq (.ifs (.op z9z [.v 3,.c .non]) (.ret (.op pTup [.c (.str "barred"),.v 3])) .skip)
 (.seq (.set 4 (.v 2))
 (.seq (.set 5 (.op pTup [.c (.int 1)]))
 (.seq (.ifs (.op pEq [.op pLen [.v 2],.c (.int 2)]) (.set 5 (.op z2z [.v 4,.v 1])) .skip)
 (.seq (.ifs (.op pGt [.op pLen [.v 2],.c (.int 2)]) (.seq (.set 4 (.op z1d [.v 2,.v 1]))
 (.set 5 (.op z0H [.v 4,.v 1]))) .skip)
 (.ret (.op pTup [.c (.str "sailed"),.op z0Q [.v 0,.v 4,.v 5]])))))))))
end Pu
namespace Geo
def zbX {a b c d:Int}(g:0<a)(h:0<=b)(i:c<0)(j:0<=d)(e:a*b=c*d):d=0:=by
 have l:=wV (vq g) h;have m:=vC (vq i) j;have f:c*d=0:=by lia
 rcases wZ.mp f with z | z
 .lia
 .exact z
def sqp {a b:Int}(h:¬ (a=0/\b=0)):0<a*a+b*b:=by
 have d:∀x:Int,0<=x*x:=λx=>by
  rcases Int.le_total 0 x with z | z
  .exact wV z z
  .exact uO z z
 have e:=d a;have f:=d b
 rcases ju (Int.add_nonneg e f) with z | z
 .exact z
 .exfalso
  have g:a*a=0:=by omega
  have i:b*b=0:=by omega
  have j:=wZ.mp g;have l:=wZ.mp i;exact h ⟨by lia,by lia⟩
def zko {S:P->Prop}{a b o c:P}(j:Edge S a b)(l:Edge S o c)(K:a≠o)(L:b≠o):0<cr a b o:=by
 rcases ju (j.left o l.sa) with z | z
 .exact z
 exfalso
 have z:=z.symm;have bt:=j.btw o l.sa z;have R:=((zfL j.ne).mp ⟨z,bt.1,bt.2⟩).2.2;have N:=l.left a j.sa;have O:=l.left b j.sb;have G:=l.btw a j.sa;have H:=l.btw b j.sb;have Q:=l.ne;obtain⟨r,s⟩:=a;obtain⟨t,u⟩:=b;obtain⟨m,n⟩:=o;obtain⟨I,J⟩:=c;simp only[cr,dot] at z R N O G H;have x:¬ (r - m=0/\s - n=0):=λw=>K (uo (by simp;lia) (by simp;lia));have y:¬ (t - m=0/\u - n=0):=λw=>L (uo (by simp;lia) (by simp;lia));have A:¬ (I - m=0/\J - n=0):=λw=>Q (uo (by simp;lia) (by simp;lia));have T:(r - m)*(u - n) - (s - n)*(t - m)=0:=by rw[<- z];grind
 clear z K L Q bt j l;generalize r - m=d at*;generalize s - n=e at*;generalize t - m=h at*;generalize u - n=i at*;generalize I - m=f at*;generalize J - n=g at*;have U:=sqp x;have V:=sqp y;have C:=sqp A;have p:(d*h+e*i)*(d*h+e*i)+(d*i - e*h)*(d*i - e*h)=(d*d+e*e)*(h*h+i*i):=by grind
 have q:(d*d+e*e)*(f*i - g*h)=(d*h+e*i)*(f*e - g*d)+(d*i - e*h)*(f*d+g*e):=by grind
 have M:(d*d+e*e)*(h*f+i*g)=(d*h+e*i)*(d*f+e*g) - (d*i - e*h)*(f*e - g*d):=by grind
 have W:(d*f+e*g)*(d*f+e*g)+(f*e - g*d)*(f*e - g*d)=(d*d+e*e)*(f*f+g*g):=by grind
 rw[T,jz,uD] at p q;rw[T,jz,Int.sub_zero] at M;have UV:=vD U V;have neg:d*h+e*i<0:=by
  rcases ju R with w | w
  .exact w
  .rw[w] at p;lia
 have E:f*e - g*d=0:=zbX U O neg N q;have F:f*i - g*h=0:=by
  rw[E,Int.mul_zero] at q
  rcases wZ.mp q with w | w
  .lia
  .exact w
 have X:=(G E).1;have Y:=(H F).1;have Z:d*f+e*g=0:=zbX U Y neg X M;rw[E,Z] at W;have:=vD U C;lia
def Qa (a b:P)(x y t:Int):Int:=(b.1 - a.1)*(y - a.2*t) - (b.2 - a.2)*(x - a.1*t)
def zcw (a b:P)(x y t:Int):Qa b a x y t = -Qa a b x y t:=by simp[Qa];grind
def z8g {h:List P}(f:h.Nodup){i j:Nat}(a:i<h.length)(b:j<h.length)(ne:i≠j):cy h i≠cy h j:=λe=>by
 have g:=z1k (h:=h) (i:=i) (by lia);have l:=z1k (h:=h) (i:=j) (by lia);rw[w6 a] at g;rw[w6 b] at l;have d:h[i]=h[j]:=by
  simp_all
 rcases Nat.lt_or_gt_of_ne ne with z | z
 .exact(vI.mp f i j a b z) d
 .exact(vI.mp f j i b a z) d.symm
def zeA {S:P->Prop}{h:List P}(x:z0a S h){k:Nat}(a:1<=k)(b:k+1<h.length):0<cr (cy h k) (cy h (k+1)) (cy h 0):=
 zko (z3s x (by lia) k) (z3s x (by lia) 0) (z8g x.nodup (by lia) (by lia) (by lia)) (z8g x.nodup (by lia) (by lia) (by lia))
end Geo
namespace Pu
open PySem L2 Mth
def cyw {h:List P}{n:Nat}(b:h≠[])(a:Wb n h)(k:Nat):Vb n (Geo.cy h k):=a _ (wD (z1k (ve.mpr b)))
def zb7 {h:List P}(g:h≠[])(f:Wb 600 h){s:P × P}(hs:s∈z0O h):Vb 700 s.1:=by
 unfold z0O at hs
 split at hs
 .obtain⟨b,a,rfl⟩:=wj.mp hs;unfold ways at a;simp[wm,wz,vK] at a
  rcases a with rfl | rfl | rfl | rfl <;> exact⟨Bt.le (m:=1) (z08 (by dsimp only;decide)),Bt.le (m:=1) (z08 (by dsimp only;decide))⟩
 .obtain⟨j,_,hs⟩:=List.mem_flatMap.mp hs;obtain⟨i,l⟩:=cyw g f (j+h.length - 1);obtain⟨n,o⟩:=cyw g f j;have d:Bt 601 _:=Bt.le (Bt.sub n i);have e:Bt 601 _:=Bt.le (Bt.sub o l)
  rcases wm.mp hs with rfl | hs
  .exact⟨e.le,Bt.le (Bt.neg d)⟩
  .split at hs
   .rw[wo.mp hs];exact⟨d.le,e.le⟩
   .cases hs
def Wthn (h:List P)(x y t:Int):Prop:=∀s∈z0O h,dot (x,y) s.1<=dot s.2 s.1*t
def zbh {l h:List P}{x y t:Int}{Q:DK}{X:XP}(i:z0a (· ∈ l) h)(q:Wb 600 h)(hz:h.length<=62)(pc:Pc x y t)
  (N:∀b,b≠(0,0)->Vb 700 b->(∀p∈l,dot p b*t<dot (x,y) b)->Q (vec b)) (O:Wthn h x y t->Q .non):z1h.run [vecs h,pcD x y t] Q X:=by
 obtain⟨m,tl,M,_⟩:=i.ex;have C:h≠[]:=by rw[M];simp
 walk_at "fn";ac_nf;refine zah (.inl rfl) q.le C (by lia) λh' w =>?_;have o:z0a (· ∈ h) h:=i.of (λp j=>i.sub p j) λp j=>j;obtain rfl:h'=h:=(w.is C).unique o;ac_nf;refine z0m (f:=zfZ) (λL K=>∃I J:B,(∀s∈L,dot (x,y) s.1<=dot s.2 s.1*t)/\K=[.s (vecs h'),.s (pcD x y t),I,J]) ⟨_,_,by simp,rfl⟩ ?_ ?_
 .rintro L s r K e ⟨I,J,u,rfl⟩;have hs:s∈z0O h':=by rw[e];simp
  have sb:=zb7 C q hs;obtain⟨U,W⟩:=z9s i hs;refine⟨rfl,?_⟩;show Sm.run _ _ _ _ _;unfold z0c z0c z0c;ac_rfl;ac_nf;refine zdo pc sb (zeD q sb (wj.mpr ⟨s.2,U,rfl⟩)) ?_;refine z0k (λz =>?_) (λz =>?_)
  .ac_nf;refine N s.1 (zfY i hs) sb λp j =>?_;have:=vR (W p j) (vq pc.pos);lia
  .ac_nf;refine⟨_,_,λR g =>?_,rfl⟩
   rcases wG.mp g with g | g
   .exact u R g
   .rw[wo.mp g];lia
 rintro K ⟨I,J,u,rfl⟩;ac_nf;exact O u
def z8A {h:List P}{x y t:Int}(d:2<=h.length)(w:Wthn h x y t){k:Nat}(b:k<h.length):0<=Qa (Geo.cy h k) (Geo.cy h (k+1)) x y t:=by
 have key:∀j,j<h.length->0<=Qa (Geo.cy h (j+h.length - 1)) (Geo.cy h j) x y t:=λj a=>by
  have:=w _ (z2M (by lia) a (ww ..));simp only[dot,rt,stp] at this;simp only[Qa]
  grind
 rcases wN (k+1) h.length with z | z
 .have:=key (k+1) z;rw[show k+1+h.length - 1=k+h.length by lia] at this
  rwa [show Geo.cy h (k+h.length)=Geo.cy h k by unfold Geo.cy;rw[ul]] at this
 .have:=key 0 (by lia);rw[show 0+h.length - 1=k by lia] at this
  rwa [show Geo.cy h 0=Geo.cy h (k+1) by unfold Geo.cy;rw[show k+1=h.length by lia,Nat.mod_self,Nat.zero_mod]] at this
def z9t {a:P}{x y t:Int}{Q:DK}{X:XP}(e:Vb 600 a)(pc:Pc x y t)(q:Q (vec (x - a.1*t,y - a.2*t))):z3J.run [vec a,pcD x y t] Q X:=by
 obtain⟨f,m,j,b,_⟩:=pc;obtain⟨g,i⟩:=e;walk_at "fn";ac_nf;exact q
def zeV {a:P}{x y t:Int}(b:Vb 600 a)(pc:Pc x y t):Vb 900 (x - a.1*t,y - a.2*t):=⟨Bt.le (Bt.sub pc.bx (Bt.mul b.1 pc.bt)),Bt.le (Bt.sub pc.bY (Bt.mul b.2 pc.bt))⟩
def z6k {a b:P}(d:Vb 600 a)(e:Vb 600 b):Vb 601 (b.1 - a.1,b.2 - a.2):=⟨Bt.le (Bt.sub e.1 d.1),Bt.le (Bt.sub e.2 d.2)⟩
def zig {a b c:P}{x y t:Int}{Q:DK}{X:XP}(g:Vb 600 a)(r:Vb 600 b)(u:Vb 600 c)(pc:Pc x y t)(q:Q (.tup ([Qa b c x y t,Qa c a x y t,Qa a b x y t].map .int))):z0H.run [vecs [a,b,c],pcD x y t] Q X:=by
 have e:=z6k g r;have f:=z6k g u;have i:=zeV g pc;have j:=pc.bt;walk_at "fn";ac_nf;refine z1V ?_;ac_nf;refine z1V ?_;ac_nf;refine z9t g pc ?_;ac_nf;refine z3g ⟨e.1.le,e.2.le⟩ ⟨f.1.le,f.2.le⟩ ?_;have w:Bt 1203 ((b.1 - a.1)*(c.2 - a.2) - (b.2 - a.2)*(c.1 - a.1)):=Bt.le (Bt.sub (Bt.mul e.1 f.2) (Bt.mul e.2 f.1));ac_nf;refine z3g ⟨i.1.le,i.2.le⟩ ⟨f.1.le,f.2.le⟩ ?_;ac_nf;refine z3g ⟨e.1.le,e.2.le⟩ ⟨i.1.le,i.2.le⟩ ?_;ac_nf;have m:((b.1 - a.1)*(c.2 - a.2) - (b.2 - a.2)*(c.1 - a.1))*t - ((x - a.1*t)*(c.2 - a.2) - (y - a.2*t)*(c.1 - a.1)) - ((b.1 - a.1)*(y - a.2*t) - (b.2 - a.2)*(x - a.1*t))=Qa b c x y t:=by simp only[Qa];grind
 have o:(x - a.1*t)*(c.2 - a.2) - (y - a.2*t)*(c.1 - a.1)=Qa c a x y t:=by simp only[Qa];grind
 have p:(b.1 - a.1)*(y - a.2*t) - (b.2 - a.2)*(x - a.1*t)=Qa a b x y t:=rfl;rw[m,o,p];exact q
structure Fan (h:List P)(x y t:Int)(k:Nat):Prop where
 lo:1<=k
 hi:k+1<h.length
 a:0<=Qa (Geo.cy h k) (Geo.cy h (k+1)) x y t
 b:0<=Qa (Geo.cy h (k+1)) (Geo.cy h 0) x y t
 c:0<=Qa (Geo.cy h 0) (Geo.cy h k) x y t
def zlg {h:List P}(d:3<=h.length):h.take 3=[Geo.cy h 0,Geo.cy h 1,Geo.cy h 2]:=by
 match h,d with
 | a::b::c::r,_=>
  rfl
def zdp {h:List P}{x y t:Int}{Q:DK}{X:XP}(i:Wb 600 h)(C:3<=h.length)(hz:h.length<=62)(pc:Pc x y t)(w:Wthn h x y t)
  (q:∀k,Fan h x y t k->Q (vecs [Geo.cy h 0,Geo.cy h k,Geo.cy h (k+1)])):z1d.run [vecs h,pcD x y t] Q X:=by
 have r:h≠[]:=List.ne_nil_of_length_pos (by lia);have g:=λ{k:Nat}(K:k<h.length)=>z8A (by lia) w K;have f:0<=Qa (Geo.cy h (h.length - 1)) (Geo.cy h 0) x y t:=by
  have:=g (k:=h.length - 1) (by lia)
  rwa [show Geo.cy h (h.length - 1+1)=Geo.cy h 0 by unfold Geo.cy;rw[show h.length - 1+1=h.length by lia,Nat.mod_self,Nat.zero_mod]] at this
 have u:cutD (h.map vec) none (some 3)=(h.take 3).map vec:=by
  rw[z1G,show HT.sIx h.length h.length (some (3:Int))=min 3 h.length by
   show (if (3:Int)<0 then ((3:Int)+(h.length:Int)).toNat else min (3:Int).toNat h.length)=_;rw[if_neg (by decide)]
   rfl]
  show (h.take (min 3 h.length)).map vec=_;rw[show min 3 h.length=3 by lia]
 walk_at "fn";ac_nf;rw[u,zlg C];ac_nf;refine z3R (z5i (λb=>∃k:Nat,1<=k/\k+1<h.length/\0<=Qa (Geo.cy h 0) (Geo.cy h k) x y t/\b=[.s (vecs h),.s (pcD x y t),.s (.int ((k:Int)+1)),.s (vecs [Geo.cy h 0,Geo.cy h k,Geo.cy h (k+1)])]) (λb=>(100 - nI b 2).toNat) ⟨1,by lia,by lia,g (k:=0) (by lia),rfl⟩ ?_);rintro b ⟨k,M,N,J,rfl⟩;have I:=g (k:=k) (by lia);ac_nf;refine zig (cyw r i _) (cyw r i _) (cyw r i _) pc ?_;refine⟨_,rfl,by simp,λm L p =>?_⟩;ac_nf;have O:=p _ (wp _ (ww ..));refine z0k (λz =>?_) (λz =>?_)
 .have j:Qa (Geo.cy h (k+1)) (Geo.cy h 0) x y t<0:=by
   simp only[wm,wz,vK] at L;lia
  have ne:k+1≠h.length - 1:=λe=>by rw[e] at j;lia
  have o:0<=Qa (Geo.cy h 0) (Geo.cy h (k+1)) x y t:=by rw[zcw];lia
  ac_nf;refine z0T (z0s (z8h (k:=0) (by lia))) ?_;ac_nf;rw[show (k:Int)+1+1 - 1=((k+1:Nat):Int) by lia];refine z0T (z0s (z8h (k:=k+1) (by lia))) ?_;ac_nf;rw[show (k:Int)+1+1=((k+2:Nat):Int) by lia];refine z0T (z0s (z8h (k:=k+2) (by lia))) ?_;ac_nf;refine⟨⟨k+1,by lia,by lia,o,rfl⟩,?_⟩;show (100 - ((k+2:Nat):Int)).toNat<(100 - ((k:Int)+1)).toNat
  lia
 .ac_nf;refine q k ⟨M,N,I,by lia,J⟩
def zdl {p W:Int}{Q:DK}{X:XP}(b:0<W)(e:Bt 1400 W)(q:Q (vec (p / (Int.gcd p W:Int),W / (Int.gcd p W:Int)))):z5d.run [.int p,.int W] Q X:=by
 obtain⟨g,_,_,_,_⟩:=z42 b;have i:(Int.gcd p W)<=W:=Int.le_of_dvd b (jF ..);have f:Bt 9000 (Int.gcd p W:Int):=Bt.le (e.of_abs (by lia));walk_at "fn";refine t_no (by lia) ?_;ac_nf;refine z25 ?_;rw[Int.gcd_comm];ac_nf;refine t_no (by lia) ?_;ac_nf;exact q
def idx (l:List P)(c:P):Nat:=l.findIdx λp=>decide (p=c)
def z7a {l:List P}{c:P}(h:c∈l):l[idx l c]? = some c:=by
 have a:idx l c<l.length:=List.findIdx_lt_length_of_exists ⟨c,h,by simp⟩;rw[wt a];have:=List.findIdx_getElem (w:=a);exact congrArg _ (uj this)
def z9Q {l:List P}{c:P}(h:c∈l):idx l c<l.length:=List.findIdx_lt_length_of_exists ⟨c,h,by simp⟩
def zhg {l:List P}{c d:P}(b:c∈l)(f:d∈l)(e:idx l c=idx l d):c=d:=by
 have a:=z7a b;rw[e,z7a f] at a
 simp_all
def zkM {l:List P}{c:P}(h:c∈l):Geo.cy l (idx l c)=c:=by
 have b:=z7a h;have a:=z1k (h:=l) (i:=idx l c) (by have:=z9Q h;lia);rw[w6 (z9Q h),b] at a;exact(vh a).symm
def zgY {l:List P}{c:P}{Q:DK}{X:XP}(h:c∈l)(q:Q (.int (idx l c:Int))):zbG.run [vecs l,vec c] Q X:=by
 refine⟨Da.vec c,λd g =>?_,⟨vec c,uy h,by rw[z3q];simp⟩,λi d a b e =>?_⟩
 .obtain⟨p,_,rfl⟩:=wj.mp g;exact Da.vec p
 .rw[wO] at a
  cases z:l[i]? with
  | none=>simp_all
  | some p=>
   rw[z] at a
   cases a
   rw[z3q] at b;have f:=uj b;subst f;have:i=idx l p:=by
    rcases ux i (idx l p) with w | w | w
    .have j  := Nat.lt_trans w (z9Q h);have:=List.not_of_lt_findIdx (w)
     simp_all
    .exact w
    .have:=e (idx l p) (vec p) w (by rw[wO,z7a h];rfl);rw[z3q] at this;simp at this
   simp_all
def shOf (l:List P)(W:Int)(x:P × Int):Sh:=(idx l x.1,x.2 / (Int.gcd x.2 W:Int),W / (Int.gcd x.2 W:Int))
def rwOf (l:List P)(W:Int)(x:P × Int):Int × D:=((idx l x.1:Int),vec (x.2 / (Int.gcd x.2 W:Int),W / (Int.gcd x.2 W:Int)))
def back:Int × D->Sh
 | (n,.tup [.int a,.int b])=>(n.toNat,a,b)
 | (n,_)=>(n.toNat,0,1)
def z7p (l:List P)(W:Int)(x:P × Int):back (rwOf l W x)=shOf l W x:=by
 rfl
def z7O {f:Sh->Int}{a b:List Sh}(h:a.Perm b):(a.map f).sum=(b.map f).sum:=by
 induction h with
 | nil=>rfl
 | cons x _ g=>simp[g]
 | swap x y l=>simp;lia
 | trans _ _ d e=>rw[d,e]
theorem z9W {f:P × Int->Int}:∀{l:List (P × Int)},(∀x∈l,0<=x.2)->(∀x,x.2=0->f x=0)->((l.filter λx=>decide (0<x.2)).map f).sum=(l.map f).sum
 | [],_,_=>rfl
 | x::l,h,a=>by
  have d:=z9W (l:=l) (λy b=>h y (by simp[b])) a;rw[List.filter_cons]
  split
  .simp_all
  .rename_i z
   have e:=h x (by simp);have:x.2=0:=by simp at z;lia
   rw[wL,vp,a x this,Int.zero_add,d]
def zk7 {l m:List D}{Q:DK}{X:XP}(q:Q (.lst ((l.zip m).map λp =>.tup [p.1,p.2]))):z6P.run [.tup l,.tup m] Q X:=q
def zil {a b:P}{x y t:Int}{Q:DK}{X:XP}(f:Vb 600 a)(j:Vb 600 b)(pc:Pc x y t)
  (q:Q (.tup ([((b.1 - a.1)*(b.1 - a.1)+(b.2 - a.2)*(b.2 - a.2))*t - ((x - a.1*t)*(b.1 - a.1)+(y - a.2*t)*(b.2 - a.2)),(x - a.1*t)*(b.1 - a.1)+(y - a.2*t)*(b.2 - a.2)].map .int))):z2z.run [vecs [a,b],pcD x y t] Q X:=by
 have e:=z6k f j;have g:=zeV f pc;have i:=pc.bt;walk_at "fn";ac_nf;refine z1V ?_;ac_nf;refine z2V ⟨e.1.le,e.2.le⟩ ⟨e.1.le,e.2.le⟩ ?_;have m:Bt 1203 _:=Bt.le (Bt.add (Bt.mul e.1 e.1) (Bt.mul e.2 e.2));ac_nf;refine z9t f pc ?_;ac_nf;refine z2V ⟨g.1.le,g.2.le⟩ ⟨e.1.le,e.2.le⟩ ?_;ac_nf;exact q
abbrev swD (sh:List Sh):D :=.tup [.str (Str.ofString "sailed"),.tup (sh.map shD)]
abbrev brD (b:P):D :=.tup [.str (Str.ofString "barred"),vec b]
structure Prt (l:List P)(x y t:Int)(xs:List (P × Int)):Prop where
 mem:∀z∈xs,z.1∈l
 nd:(xs.map (·.1)).Nodup
 few:xs.length<=3
 nn:∀z∈xs,0<=z.2
 pos:0<(xs.map (·.2)).sum
 bt:Bt 1400 (xs.map (·.2)).sum
 ex:(xs.map λz=>z.1.1*z.2).sum*t=(xs.map (·.2)).sum*x
 ey:(xs.map λz=>z.1.2*z.2).sum*t=(xs.map (·.2)).sum*y
def zgH {l:List P}{m:P}{x y t:Int}(n:m∈l)(w:Wthn [m] x y t):Prt l x y t [(m,1)]:=by
 have f  := λb j=>w (b,m) (by
  exact wj.mpr ⟨b,j,rfl⟩)
 have a:=f (1,0) (by decide);have d:=f (0,1) (by decide);have e:=f (-1,0) (by decide);have g:=f (0,-1) (by decide);simp[dot,Int.neg_mul] at a d e g;have h:m.1*t=x:=by lia
 have i:m.2*t=y:=by omega
 exact⟨by simpa using n,by simp,by simp,by simp,by simp,by simpa using z08 (wF (by decide:(1:Int).natAbs<2 ^ 1) (jK (by decide) (by decide))),by simpa using h,by simpa using i⟩
def zgG {S:P->Prop}{l:List P}{a b:P}{x y t:Int}(pc:Pc x y t)(u:z0a S [a,b])(r:a∈l)(s:b∈l)(F:Vb 600 a)(vb:Vb 600 b)(w:Wthn [a,b] x y t):
  Prt l x y t [(a,((b.1 - a.1)*(b.1 - a.1)+(b.2 - a.2)*(b.2 - a.2))*t - ((x - a.1*t)*(b.1 - a.1)+(y - a.2*t)*(b.2 - a.2))),(b,(x - a.1*t)*(b.1 - a.1)+(y - a.2*t)*(b.2 - a.2))]:=by
 have i:=u.nodup;have ne:a≠b:=λe=>by rw[e] at i;simp at i
 have o:=z8A (h:=[a,b]) (by simp) w (k:=0) (by simp);have d:=z8A (h:=[a,b]) (by simp) w (k:=1) (by simp);have o:0<=Qa a b x y t:=o;have n:Geo.cy [a,b] 2=a:=by simp[Geo.cy]
 have d:0<=Qa b a x y t:=by rw[show (1+1:Nat)=2 from rfl,n] at d;exact d
 rw[zcw] at d;have q:Qa a b x y t=0:=by lia
 have A:=w (stp a b,b) (z2M (by simp) (j:=1) (by simp) (by unfold z0y;rw[if_pos (show [a,b].length=2 from rfl),show 1+[a,b].length - 1=2 from rfl,n];exact wp _ (wo.mpr rfl)));have C:=w (stp b a,a) (z2M (by simp) (j:=0) (by simp) (by unfold z0y;rw[if_pos (show [a,b].length=2 from rfl)];exact wp _ (wo.mpr rfl)));have g:=z6k F vb;have m:=pc.pos;have E:0<(b.1 - a.1)*(b.1 - a.1)+(b.2 - a.2)*(b.2 - a.2):=sqp λz=>ne (uo (by lia) (by lia));have f:((b.1 - a.1)*(b.1 - a.1)+(b.2 - a.2)*(b.2 - a.2))*t - ((x - a.1*t)*(b.1 - a.1)+(y - a.2*t)*(b.2 - a.2))+((x - a.1*t)*(b.1 - a.1)+(y - a.2*t)*(b.2 - a.2))=((b.1 - a.1)*(b.1 - a.1)+(b.2 - a.2)*(b.2 - a.2))*t:=by lia
 simp only[dot,stp] at A C;simp only[Qa] at q;refine⟨by simp[r,s],i,by simp,?_,?_,?_,?_,?_⟩
 .intro z p;simp only[wm,wz,vK] at p
  rcases p with rfl | rfl
  .show 0<=_ - _
   grind
  .show 0<=_+_
   grind
 .simp only[wL,je,vp,jE,uD];rw[f];exact vD E m
 .simp only[wL,je,vp,jE,uD];rw[f];exact Bt.le (Bt.mul (Bt.add (Bt.mul g.1 g.1) (Bt.mul g.2 g.2)) pc.bt)
 .simp only[wL,je,vp,jE,uD];rw[f]
  grind
 .simp only[wL,je,vp,jE,uD];rw[f]
  grind
def zbo {S:P->Prop}{l h:List P}{x y t:Int}{k:Nat}(pc:Pc x y t)(d:z0a S h)(C:∀p∈h,p∈l)(g:Wb 600 h)(F:Fan h x y t k):
  Prt l x y t [(Geo.cy h 0,Qa (Geo.cy h k) (Geo.cy h (k+1)) x y t),(Geo.cy h k,Qa (Geo.cy h (k+1)) (Geo.cy h 0) x y t),(Geo.cy h (k+1),Qa (Geo.cy h 0) (Geo.cy h k) x y t)]:=by
 obtain⟨E,G,u,w,A⟩:=F;have e:h≠[]:=List.ne_nil_of_length_pos (by lia);have N:=zeA d E G;have K:=z8g d.nodup (i:=0) (j:=k) (by lia) (by lia) (by lia);have L:=z8g d.nodup (i:=0) (j:=k+1) (by lia) (by lia) (by lia);have M:=z8g d.nodup (i:=k) (j:=k+1) (by lia) (by lia) (by lia);have m:∀j,Geo.cy h j∈l:=λj=>C _ (wD (z1k (ve.mpr e)));have H:=m 0;have I:=m k;have J:=m (k+1);have O:=cyw e g 0;have s:=cyw e g k;have Q:=cyw e g (k+1);generalize Geo.cy h 0=a at*;generalize Geo.cy h k=b at*;generalize Geo.cy h (k+1)=c at*;have n:=pc.pos;have f:Qa b c x y t+(Qa c a x y t+Qa a b x y t)=Geo.cr b c a*t:=by simp only[Qa,Geo.cr];grind
 refine⟨by simp[H,I,J],by simp[K,L,M],by simp,?_,?_,?_,?_,?_⟩
 .intro z r;simp only[wm,wz,vK] at r
  rcases r with rfl | rfl | rfl
  .exact u
  .exact w
  .exact A
 .simp only[wL,je,vp,jE,uD];rw[f];exact vD N n
 .simp only[wL,je,vp,jE,uD];rw[f];have o:=z6k s Q;have q:=z6k s O;exact Bt.le (Bt.mul (Bt.sub (Bt.mul o.1 q.2) (Bt.mul o.2 q.1)) pc.bt)
 .simp only[wL,je,vp,jE,uD];rw[f];simp only[Qa,Geo.cr]
  grind
 .simp only[wL,je,vp,jE,uD];rw[f];simp only[Qa,Geo.cr]
  grind
end Pu
namespace Rev
open PySem PyProof.Rows
section
variable {prog:Program}{w:World}{A:Around}{E:WvP}{R:Result->Shared->Prop}{r:Addr}{fp wr:List Addr}{G:Array GenState->Array GenState->Prop}{n:Nat}{P:Nat->Value->Prop}{St:Nat->Shared->Prop}{bt:Nat->Nat->Bool}{Ok:Shared->Prop}
def zhE (prog:Program)(w:World)(A:Around)(Ok:Shared->Prop)(P:Nat->Value->Prop)(bt:Nat->Nat->Bool):Prop:=∀(i j:Nat) (x y:Value) (s:Shared) (Q:WvP) (E:WvP),Ok s->P i x->P j y->Q (.bool (bt i j)) s->wpAny (model prog w) A (richCompare .Gt x y) Q E s
def zkx (W:WalksS prog w A.in1 r fp wr G n P St)(t:zhE prog w A.in1 Ok P bt)(S:Addr)(l:S ∉ fp)(stay:∀s s',Ok s->Moved (S::wr) G s s'->Ok s'):
  ∀(left d:Nat) (s:Shared) (a:Value) (c:Nat),n=d+1+left->St (d+1) s->Ok s->P (argBest bt d) a->s.heap.get? S=some { cls :=.type "list",dict:=none,data :=.seq #[a,a] c,slots := #[] }->
   (∀v s',P (argBest bt (n - 1)) v->Moved (S::wr) G s s'->R (.ok (.ret v)) s')->codeAny (model prog w) A (.builtin "max.loop" ⟨[.ref r,.none,.ref S],[]⟩) R s:=by
 have h:S ∉ wr:=λz=>l (W.sub S z);have more:∀b∈wr,b∈S::wr:=λb z=>wp S z;have f:∀{b:Addr},b ∉ S::wr->S≠b:=λz e=>z (by subst e;exact ww);have M:(toString "max"++toString ".loop":String)="max.loop":=by decide
 intro left
 induction left with
 | zero=>
  intro d s a c E J ok hb hS fin;refine vX F.entry_max_loop ?_;rw[vk uS _];refine wc (m:=seqItems? (.ref S)) (v3 hS rfl ?_);refine wc (m:=tryCatch (pyNext (.ref r)) _) (wpAny_tryCatch (W.done s _ _ (by rw[E];exact J) λs1 mv =>?_));have g:=mv.heap S _ h hS;refine wc (m:=updateSeq S λ_ => #[]) (uL g rfl (wc (jT (wg ?_))));refine fin a _ (by rw[E];exact hb) ((mv.mono more).then_heap (tk:=s1.toks) (wq _) λb o z e =>?_);rw[wR _ _ (f z)];exact e
 | succ left O=>
  intro d s a c E J ok hb hS fin;refine vX F.entry_max_loop ?_;rw[vk uS _];refine wc (m:=seqItems? (.ref S)) (v3 hS rfl ?_);refine wc (m:=tryCatch (pyNext (.ref r)) _) (wpAny_tryCatch (W.item (d+1) s _ _ (by lia) J λv s1 N p mv =>?_));have g:=mv.heap S _ h hS;have i:=mv.mono more;have I:Ok s1:=stay s s1 ok i;show wpAny _ A.in1 (tryCatch (holding [v,v] (richCompare .Gt v a >>= _)) _ >>= _) _ _ s1;refine wc (wpAny_tryCatch (vS (wc (t (d+1) (argBest bt d) v a s1 _ _ I N hb ?_))));refine wc (vS (wpAny_truthy_bool (wc (jT (wg ?_)))));have step:∀(s2:Shared) (u:Value) (q:Nat),Moved (S::wr) G s s2->St (d+2) s2->P (argBest bt (d+1)) u->s2.heap.get? S=some { cls :=.type "list",dict:=none,data :=.seq #[u,u] q,slots := #[] }->codeAny (model prog w) A (.builtin "max.loop" ⟨[.ref r,.none,.ref S],[]⟩) R s2:=λs2 u q j K Q C=>
   O (d+1) s2 u q (by lia) K (stay s s2 ok j) Q C λx U T H=>fin x U T (Moved.trans W.gtrans j H)
  cases L:bt (d+1) (argBest bt d) with
  | true=>
   rw[if_pos rfl];refine wc (uL g rfl (wc (jT ?_)));rw[M];refine wg ⟨v9 uS _,step _ v _ (i.then_heap (wq _) λb o z e =>?_) (W.frame _ s1 _ s1.toks p (wq _) λb z o e =>?_) (by rw[argBest,L];exact N) (wW _ g rfl)⟩
   .rw[wR _ _ (f z)];exact e
   .rw[wR _ _ λy:S=b=>l (by rw[y];exact z)];exact e
  | false=>
   rw[if_neg (by decide)];refine wc (jT ?_);rw[M];exact wg ⟨v9 uS _,step s1 a c i p (by rw[argBest,L];exact hb) g⟩
def zc2 (W:WalksS prog w A.in1 r fp wr G n P St)(j:zhE prog w A.in1 Ok P bt)(S:Addr)(d:S ∉ fp)(stay:∀s s',Ok s->Moved (S::wr) G s s'->Ok s')(u:0<n){s:Shared}{c:Nat}(st:St 0 s)(ok:Ok s)
  (t:s.heap.get? S=some { cls :=.type "list",dict:=none,data :=.seq #[] c,slots := #[] }) (fin:∀v s',P (argBest bt (n - 1)) v->Moved (S::wr) G s s'->R (.ok (.ret v)) s'):codeAny (model prog w) A (.builtin "max.loop" ⟨[.ref r,.none,.ref S],[]⟩) R s:=by
 have h:S ∉ wr:=λz=>d (W.sub S z);have a:∀{b:Addr},b ∉ S::wr->S≠b:=λz e=>z (by subst e;exact ww);have C:(toString "max"++toString ".loop":String)="max.loop":=by decide
 refine vX F.entry_max_loop ?_;rw[vk uS _];refine wc (m:=seqItems? (.ref S)) (v3 t rfl ?_);refine wc (m:=tryCatch (pyNext (.ref r)) _) (wpAny_tryCatch (W.item 0 s _ _ u st λv i E q mv =>?_));have f:=mv.heap S _ h t;have l:=mv.mono λb z=>wp S z;refine wc (m:=updateSeq S λ_ => #[v,v]) (uL f rfl ?_);rw[C];have g:Moved (S::wr) G s { i with heap:=i.heap.update S (Obj.mapSeq λ_ => #[v,v]) }:=l.then_heap (wq _) λb o z e=>by rw[wR _ _ (a z)];exact e
 refine wg ⟨v9 uS _,zkx W j S d stay (n - 1) 0 _ v _ (by lia) (W.frame _ i _ i.toks q (wq _) λb z o e =>?_) (stay _ _ ok g) E (wW _ f rfl) λx I H p=>fin x I H (Moved.trans W.gtrans g p)⟩;rw[wR _ _ λy:S=b=>d (by rw[y];exact z)];exact e
def zei {x:Value}{s:Shared}{Q:WvP}
  (h:wpAny (model prog w) A.in1 (pyIter x) (λit d=>∃r fp wr G n P St bt Ok,it = .ref r/\WalksS prog w A.in1 r fp wr G n P St/\St 0 d/\Ok d/\(∀s s',Ok s->(∀b o,b ∉ wr->b<d.heap.objs.size->s.heap.get? b=some o->s'.heap.get? b=some o)->Ok s')/\(∀b∈fp,b<d.heap.objs.size)/\0<n/\zhE prog w A.in1 Ok P bt/\
   ∀v s',P (argBest bt (n - 1)) v->Moved wr G d s'->Q v s') E s):wpAny (model prog w) A (call (.builtin "max") [x]) Q E s:=by
 have l:(toString "max"++toString ".loop":String)="max.loop":=by decide
 refine call_function_tree F.kind_max F.plain_max F.entry_max (F.args_max1 _) ?_;refine wc (m:=Builtin.Builtins.bindParams "max" ["key","default"] 0 ⟨[],[]⟩) (ui (a:=[none,none]) rfl (wc (wg ?_)));refine wc (vJ h (λit d i =>?_) λ_ _ e=>e);obtain⟨r,fp,wr,G,n,P,St,bt,Ok,rfl,W,q,ok,stay,low,j,f,fin⟩:=i;have g:d.heap.objs.size ∉ fp:=λz=>vB _ (low _ z);refine wc (wP ?_);rw[l];refine wg ⟨v9 uS _,zc2 (Ok:=Ok) W f d.heap.objs.size g (λs s' o mv=>stay s s' o λb u t y e=>mv.heap b u (λz =>?_) e) j (W.frame 0 d _ d.toks q (wq _) λb _ o e=>wf _ e) (stay d _ ok λb o _ _ e=>wf _ e) (wn _ rfl) λv s' p mv=>fin v s' p (Moved.drop_new (tk:=d.toks) mv (wq _))⟩
 simp_all
end
end Rev
namespace Pu
open PySem PySem.Spec PyProof.Rows L2 Tab
def LxG (p q:Int × Int):Prop:=q.1<p.1\/p.1=q.1/\q.2<=p.2
def zmr (d:D)(Q:DK):Prop:=∃ps:List (Int × Int),d = .lst (ps.map vec)/\ps≠[]/\ps.length<=1000/\∀m∈ps,(∀x∈ps,LxG m x)->Q (vec m)
def zjN:Fn:=fn1 zmr λd Q i m ⟨ps,e,f,g,h⟩=>⟨ps,e,f,g,λk a b=>m _ (h k a b)⟩
def z7f (d:D)(Q:DK):Prop:=∃ps:List (Int × Int),d = .lst (ps.map vec)/\ps≠[]/\ps.length<=1000/\∀(i:Nat) (m:Int × Int),ps[i]? = some m->(∀x∈ps,LxG m x)->Q (.int (i:Int))
def z9A:Fn:=fn1 z7f λd Q j m ⟨ps,e,f,g,h⟩=>⟨ps,e,f,g,λi k a b=>m _ (h i k a b)⟩
def zkz (a b:Int × Int)(h:HT.z0x [a.1,a.2] [b.1,b.2]=false):LxG a b:=by
 rw[HT.z0P] at h;unfold LxG
 by_cases e:a.1=b.1
 .rw[if_pos e,HT.z0P] at h
  grind
 grind
theorem zcQ (f:Nat->List Int):∀k j,j<=k->HT.z0x (f (argBest (λi j=>HT.z0x (f j) (f i)) k)) (f j)=false
 | 0,j,h=>by
  obtain rfl:j=0:=by lia
  exact Tim.z5F _
 | k+1,j,h=>by
  have a:=zcQ f k;rw[argBest]
  split
  .rename_i b
   rcases wN j (k+1) with z | z
   .cases q:HT.z0x _ _ with
    | false=>rfl
    | true=>have:=a j (by lia);rw[Tim.z9K b q] at this;cases this
   .obtain rfl:j=k+1:=by lia
    exact Tim.z5F _
  .rcases wN j (k+1) with z | z
   .exact a j (by lia)
   .obtain rfl:j=k+1:=by lia
    simp_all
section
variable {X:Cx}
def zcN (hc:X.calm=true)(hu:X.A.units+64<cLine):z0C X (.builtin "max") (λvs H Q=>∃G a xs ks,vs=[.ref a]/\Same G H/\SqL X.K G a xs/\Tis X.K G xs ks/\ks≠[]/\∀(i:Nat) (b:Addr) (k:List Int),xs[i]? = some (.ref b)->ks[i]? = some k->SqT X.K G b (k.map V.int)->(∀x∈ks,HT.z0x k x=false)->Q (.ref b) H):=by
 rintro a7 s σ H xs us Q I rv ⟨G,a,F,ks,e,g,hS,E,Y,q⟩;subst e;obtain⟨u,rfl,rx⟩:=z37 rv
 cases rx
 have hh:X.A.handled=none:=I.ok.hd hc;have Z:X.A.in1.units<cLine:=by
  have:X.A.in1.units<=X.A.units+1:=by simp
  lia
 have W:F.length=ks.length:=zaX E;have a6:0<ks.length:=ve.mpr Y;obtain⟨l,t,pl,_⟩:=I.list (z1j g hS);obtain⟨o,ho,U,n,hd⟩:=pl.isList;have ha:a<s.heap.objs.size:=wu ho;have a8:l.length=ks.length:=by rw[<- t.length,W]
 have f:∀(i:Nat) (b:Addr) (k:List Int),F[i]? = some (.ref b)->ks[i]? = some k->SqT X.K G b (k.map V.int):=λi b k m p=>by
  obtain⟨u,e3,ru⟩:=t.get m;obtain⟨b',k',e4,e5,e6,h⟩:=z9o E t e3;rw[m] at e4;cases e4;rw[p] at e5;cases e5;exact h
 let Ok:Shared->Prop:=λs'=>∀(i:Nat) (b:Addr) (k:List Int),F[i]? = some (.ref b)->ks[i]? = some k->Tim.TI s'.heap (.ref b) k
 have low:∀(i:Nat) (b:Addr) (k:List Int),F[i]? = some (.ref b)->ks[i]? = some k->b<s.heap.objs.size:=λi b k m p=>by
  obtain⟨o,l,n,C,_⟩:=z8E I g (f i b k m p);exact wu C
 have d:∀w s2:Shared,Ok w->(∀b o,b≠s.heap.objs.size->b<s.heap.objs.size->w.heap.get? b=some o->s2.heap.get? b=some o)->Ok s2:=λw s2 h k i b key m p=>by
  obtain⟨b',o,l,n,e,C,M,O,S⟩:=h i b key m p
  cases e
  have r:=low i b key m p;exact⟨b,o,l,n,rfl,k b o (wI r) r C,M,O,S⟩
 have a0:Ok s:=λi b k m p=>TK.ti (z8E I g (f i b k m p));refine Rev.zei (wpAny_pyIter_list pl.isList ⟨_,_,_,_,_,_,_,λi j=>HT.z0x ((ks[j]?).getD []) ((ks[i]?).getD []),Ok,rfl,(Walks.list (show X.A.in1.handled=none from by simp[hh]) _ a (wI ha) l.toArray).toS,⟨⟨_,wn _ rfl,rfl,rfl⟩,⟨o,wf _ ho,U,n,hd⟩⟩,d s _ a0 (λb o _ _ e=>wf _ e),λw s2 o k=>d w s2 o λb u r hl e=>k b u (by simpa using r) (by rw[vY];lia) e,λb r =>?_,by simp;lia,?_,λv s' pv mv =>?_⟩)
 .rw[vY];simp only[wm,wz,vK] at r
  rcases r with e | e
  .rw[e];exact uG _
  .rw[e];exact v7 ha
 .intro i j x y w Q1 E1 ok px py q1;obtain⟨b1,k1,J,z,rfl,a4⟩:=z9o E t (by simpa using px);obtain⟨b2,k2,c1,c2,rfl,c4⟩:=z9o E t (by simpa using py);obtain⟨_,o,a9,n,e,C,M,O,S⟩:=ok i b1 k1 J z
  cases e
  obtain⟨_,o',b0,n',e',L,N,R,T⟩:=ok j b2 k2 c1 c2
  cases e'
  dsimp only at q1;rw[z,c2] at q1;exact HT.z6v ⟨o,C,M,n,O⟩ ⟨o',L,N,n',R⟩ S T Z q1
 .obtain⟨b,k,J,z,rfl,a4⟩:=z9o E t (by simpa using pv);obtain⟨h',g',d',a5,a3⟩:=s';have eg:g'=s.gens:=mv.gens;have ed:d'=s.drawn:=mv.drawn;have eo:a3=s.os:=mv.os;subst eg;subst ed;subst eo;refine⟨.ref b,H,I.kept (t':=a5) λb o e=>mv.heap b o ?_ (wf _ e),rfl,q _ b k J z a4 λx hx =>?_⟩
  .simp only[wo];exact wI (wu e)
  .obtain⟨j,hj,rfl⟩:=wT.mp hx;have:=zcQ (λi=>(ks[i]?).getD []) (l.length - 1) j (by lia);rw[z,wt hj] at this;exact this
def zjt:∀ps:List (Int × Int),ps.map vec=(ps.map λp=>[p.1,p.2]).map tupD:=λps=>by rw[wJ];rfl
def zhv (n:X.calm=true)(t:X.A.units+64<cLine):z0C X (.builtin "max") (rN X.K X.mg zjN):=(zcN n t).imp <| by
 rintro vs H Q ⟨G,E,y,C,g,rds,s,o⟩;obtain⟨d,rfl,h⟩:=z1c s;obtain⟨v,rfl,rd⟩:=rds1 rds;obtain⟨ps,rfl,f,I,q⟩:=h;obtain⟨a,w,rfl,l,j⟩:=z1W rd;rw[zjt] at j;refine⟨G,a,w,_,rfl,g,l,z6I j,by simpa using f,λi b k F e m r =>?_⟩;rw[wO] at e
 cases z:ps[i]? with
 | none=>simp_all
 | some p=>
  rw[z] at e
  cases e
  exact o.now g (q p (wD z) λx u=>zkz _ _ (r _ (wj.mpr ⟨x,u,rfl⟩))) (RD.ofT m (z5b [p.1,p.2]))
def zdw (X:Cx):V->List V->Hp->VK->Prop:=λx f H Q=>∃(G:Hp) (a:Addr) (b:List V) (l:List D) (d:D) (v:V),x = .ref a/\f=[v]/\Same G H/\SqL X.K G a b/\RDs X.K X.mg G l b/\RD X.K X.mg G d v/\Da 60 d/\(∀e∈l,Da 60 e)/\(∃e∈l,deq e d=true)/\l.length<=1000000/\
 ∀(i:Nat) (e:D),l[i]? = some e->deq e d=true->Q (.int (i:Int)) H
def z6d (hu:X.A.units+64<cLine):MtR X "list.index" (zdw X):=by
 rintro N s σ H x xs v us Q I rx rs ⟨G,a,ys,l,d,w,T,U,g,hT,J,hd,W,Y,Z,hz,q⟩;subst T;subst U
 cases rx
 obtain⟨u,rfl,ru⟩:=rs.one;obtain⟨b,O,pl,_⟩:=I.list (z1j g hT);obtain⟨e,q1,_,q2⟩:=z8w I g hu hd ru W Y J O;obtain⟨⟨R,S,t,sl⟩,K,C,n,f⟩:=id pl.isList;simp only at C f;subst C f;obtain⟨i,x,h,L,p⟩:=z5R (λe=>deq e d) l Z;have il:i<l.length:=by
  rcases wN i l.length with z | z
  .exact z
  .rw[v5 z] at h;cases h
 have len:b.length=l.length:=by rw[<- O.length,J.len]
 have E:i<b.toArray.size:=by simpa[len] using il
 have val:∀(m:Nat) (j:m<b.toArray.size) (y:D),l[m]? = some y->e b.toArray[m]=deq y d:=λm j y r=>q2 m _ y (by rw[wt (by simpa using j)];simp) r;refine call_meets PySem.F.slot_list_index ⟨_,K,rfl⟩ PySem.F.entry_list_index (PySem.F.args_list_index_2 _ _) (SeqAt.list_indexAt a b.toArray n S sl u e i E (by omega) ((val i E x h).trans L) λm j o =>?_) ⟨K,λy r=>q1 y (by simpa using r),?_⟩
 .have M:m<l.length:=by omega
  rw[val m j _ (wt M)];exact p m _ o (wt M)
 .exact⟨.int i,H,I.tok _,⟨_,rfl⟩,q i x h L⟩
end
section
variable {X:Cx}{E:XK}{o e:Expr}{apos cpos:Pos}{i:Nat}
def zao (hu:X.A.units+64<cLine)(ho:QE X o (tVar i))(Z:QXA X E [e] [.op zjN [.v i]])
  (h:autoParam (attributeBase o "index" X.env (eval o X.env)=eval o X.env) jA1)
  (r:autoParam (((backTo cpos (starEach [e] X.env)).all (λx => !x.1) && (backToKw cpos (keywordEach [] X.env)).all (λx=>x.1.isSome)
   && decide ([e].length+([]:List Keyword).length+(if ([]:List Keyword).isEmpty then 0 else 1)<30))=true) jA1)
  (l:autoParam ((apos.endLine == cpos.line)=true) jA1) (hs:autoParam (starEach [e] X.env=(false,eval e X.env)::starEach [] X.env) jA1) (b:autoParam ((backTo cpos (starEach [] X.env)).any (·.1)=false) jA1):
  QX X E (.Call (.Attribute o "index" apos) [e] [] cpos) (.op z9A [.v i]):=
 QE.imp (zgw jk PySem.F.slot_list_index PySem.F.type_list_index (z6d hu) ho Z h r l hs b) <| by
  rintro σ H Q ⟨G,y,M,W,g,N,hr,hk,hx⟩;have f:onV (y.get i) (λd=>z7f d M):=hr
  cases u:y.get i with
  | none=>rw[u] at f;exact f.elim
  | some d=>
   rw[u] at f;obtain⟨ps,rfl,J,hz,q⟩:=(f:z7f d M)
   obtain⟨v,s1,rd⟩:=N i _ u;obtain⟨a,xs,rfl,T,Y⟩:=z1W rd;have O:∀p:Int × Int,Da 60 (vec p):=λp=>Da.vec p;refine⟨.ref a,s1,.inl ⟨rfl,_,z1j g T⟩,G,y,λR=>∃m,m∈ps/\(∀x∈ps,LxG m x)/\R=[vec m],W,g,N,?_,?_,hx⟩
   .show onV (y.get i) _;rw[u];exact⟨ps,rfl,J,hz,λm I j=>⟨m,I,j,rfl⟩⟩
   .rintro R vs L U ⟨m,I,j,rfl⟩ C S g3 rds;obtain⟨w,rfl,K⟩:=rds1 rds;refine⟨L,a,xs,ps.map vec,vec m,w,rfl,rfl,S,z1j C.1 T,Y.same C.1,K,O m,λe t =>?_,⟨_,wj.mpr ⟨m,I,rfl⟩,?_⟩,by rw[we];omega,λn e s t =>?_⟩
    .obtain⟨p,_,rfl⟩:=wj.mp t;exact O p
    .rw[show deq (vec m) (vec m)=decide (m=m) from z3q m m];exact wE rfl
    .rw[wO] at s
     cases z:ps[n]? with
     | none=>rw[z] at s;cases s
     | some p=>
      rw[z] at s
      cases s
      rw[show deq (vec p) (vec m)=decide (p=m) from z3q p m] at t;rw[uj t] at z;exact hk _ _ L U (q n m z j) C S g3 RD.int'
end
end Pu
namespace L2
open PySem PySem.Spec PyProof.Rows
section
variable {κ:Type}[DecidableEq κ]
def valV (kvs:List (κ × V))(k:κ):Option V:=(kvs.find? λa=>decide (a.1=k)).map (·.2)
def putK (kvs:List (κ × V))(k:κ)(v:V):List (κ × V):=
 if (kvs.any λa=>decide (a.1=k))=true then kvs.map (λa=>if a.1=k then (a.1,v) else a) else kvs++[(k,v)]
def z54 {p:κ × V}{r:List (κ × V)}{k:κ}(e:p.1=k):valV (p::r) k=some p.2:=by simp[valV,jb,e]
def z55 {p:κ × V}{r:List (κ × V)}{k:κ}(e:¬ p.1=k):valV (p::r) k=valV r k:=by simp[valV,jb,e]
theorem z9m (k:κ):∀kvs:List (κ × V),(kvs.any λa=>decide (a.1=k))=(valV kvs k).isSome
 | []=>rfl
 | p::r=>by
  rw[List.any_cons]
  by_cases e:p.1=k
  .simp[z54 e,wE e,Bool.true_or,Option.isSome_some]
  .rw[z55 e,w9 e];exact z9m k r
def z5G (kvs:List (κ × V))(k:κ)(v:V):(putK kvs k v).length<=kvs.length+1:=by
 unfold putK
 grind
def RelO.isSome_eq {o:Option V}{u:Option Value}(r:RelO o u):o.isSome=u.isSome:=by
 cases o with
 | none=>cases u with
  | none=>rfl
  | some _=>exact(r).elim
 | some _=>cases u with
  | none=>exact(r).elim
  | some _=>rfl
theorem RelO.getD {o:Option V}{u:Option Value}{d:V}{d':Value}(r:RelO o u)(rd:RelV d d'):RelV (o.getD d) (u.getD d'):=by
 cases o with
 | none=>cases u with
  | none=>exact rd
  | some _=>exact(r).elim
 | some _=>cases u with
  | none=>exact(r).elim
  | some _=>exact r
def KV.val {kvs:List (κ × V)}{vs:List (κ × Value)}(r:KV kvs vs)(k:κ):RelO (valV kvs k) (valueAt vs k):=by
 induction r with
 | nil=>exact True.intro
 | @cons p q ps d h t i=>
  obtain⟨f,g⟩:=h
  by_cases e:p.1=k
  .have a  := f.symm.trans e;have b:valueAt (q::d) k=some q.2:=by simp[valueAt,jb,a]
   rw[z54 e,b];exact g
  .have a:¬ q.1=k:=λz=>e (f.trans z);have b:valueAt (q::d) k=valueAt d k:=by simp[valueAt,jb,a]
   rw[z55 e,b];exact i
theorem KV.any {kvs:List (κ × V)}{vs:List (κ × Value)}(r:KV kvs vs)(k:κ):(kvs.any λa=>decide (a.1=k))=vs.any λa=>decide (a.1=k):=by
 induction r with
 | nil=>rfl
 | cons h t b=>simp_all
def KV.repl {kvs:List (κ × V)}{vs:List (κ × Value)}(r:KV kvs vs)(k:κ){y:V}{u:Value}(f:RelV y u):
  KV (kvs.map λa=>if a.1=k then (a.1,y) else a) (vs.map λa=>if a.1=k then (a.1,u) else a):=by
 induction r with
 | nil=>exact .nil
 | @cons p q ps d h t b=>
  refine .cons ?_ b
  by_cases e:p.1=k
  .simp_all
  simp_all
def KV.put {kvs:List (κ × V)}{vs:List (κ × Value)}(r:KV kvs vs)(k:κ){y:V}{u:Value}(a:RelV y u):KV (putK kvs k y) (stored vs k u):=by
 unfold putK stored;rw[r.any k]
 by_cases e:(vs.any λb=>decide (b.1=k))=true
 .rw[if_pos e,if_pos e];exact r.repl k a
 .rw[if_neg e,if_neg e];exact Paired.snoc r ⟨rfl,a⟩
theorem KV.length {kvs:List (κ × V)}{vs:List (κ × Value)}(r:KV kvs vs):kvs.length=vs.length:=Paired.length r
end
def zhd {P:Program}{w:World}{k:Key}{u:Value}(r:RelV (kV k) u):(z0V P w).is k u=true:=by
 cases k with
 | inl i=>obtain⟨t,e⟩:=(r);subst e;exact z92 P w i t
 | inr x=>obtain⟨t,e⟩:=(r);subst e;exact z91 P w x t
theorem z87 {P:Program}{w:World}:∀{ks:List Key}{a:List Value},Vals (ks.map kV) a->ItemsAre (z0V P w) ks a
 | [],_,r=>by cases r;exact .nil
 | k::ks,_,r=>by
  cases r with
  | cons h t=>exact .cons (zhd h) (z87 t)
abbrev KT (H:Hp):List (List Key × V)->List (List Key × Addr × Value)->Prop:=Paired λp q=>p.1=q.1/\H q.2.1=some (.tup (p.1.map kV))/\RelV p.2 q.2.2
def KT.val {H:Hp}{kvs:List (List Key × V)}{xs:List (List Key × Addr × Value)}(r:KT H kvs xs)(k:List Key):RelO (valV kvs k) ((atKey xs k).map (·.2)):=by
 induction r with
 | nil=>exact True.intro
 | @cons p q ps d h t i=>
  obtain⟨f,_,g⟩:=h
  by_cases e:p.1=k
  .have a  := f.symm.trans e;have b:atKey (q::d) k=some q.2:=by simp[atKey,jb,a]
   rw[z54 e,b];exact g
  .have a:¬ q.1=k:=λz=>e (f.trans z);have b:atKey (q::d) k=atKey d k:=by simp[atKey,jb,a]
   rw[z55 e,b];exact i
def KT.repl {H:Hp}{kvs:List (List Key × V)}{xs:List (List Key × Addr × Value)}(r:KT H kvs xs)(k:List Key){y:V}{u:Value}(i:RelV y u):
  KT H (kvs.map λb=>if b.1=k then (b.1,y) else b) (xs.map (putAt k u)):=by
 induction r with
 | nil=>exact .nil
 | @cons p q ps j h t g=>
  rw[wL];refine .cons ?_ g;obtain⟨a,d,f⟩:=h;unfold putAt
  by_cases e:p.1=k
  .rw[if_pos e,if_pos (a.symm.trans e)];exact⟨a,d,i⟩
  .rw[if_neg e,if_neg (λz=>e (a.trans z))];exact⟨a,d,f⟩
def KT.put {H:Hp}{kvs:List (List Key × V)}{xs:List (List Key × Addr × Value)}(r:KT H kvs xs)(k:List Key){b:Addr}{y:V}{u:Value}(d:H b=some (.tup (k.map kV)))(a:RelV y u):
  KT H (putK kvs k y) (storedH xs k b u):=by
 have e:(kvs.any λf=>decide (f.1=k))=(atKey xs k).isSome:=by
  rw[z9m,(r.val k).isSome_eq,Option.isSome_map]
 unfold putK storedH;rw[e]
 by_cases q:(atKey xs k).isSome=true
 .rw[if_pos q,if_pos q];exact r.repl k a
 .rw[if_neg q,if_neg q];exact Paired.snoc r ⟨rfl,d,a⟩
def KT.keeps {H a:Hp}{kvs:List (List Key × V)}{xs:List (List Key × Addr × Value)}(r:KT H kvs xs)(e:∀b d,H b=some (.tup d)->a b=some (.tup d)):KT a kvs xs:=
 Paired.mapP r λ_ _ z=>⟨z.1,e _ _ z.2.1,z.2.2⟩
section
variable {P:Program}{w:World}{H:Hp}{h:Heap}{a:Addr}
def ziu {u:HO}(ok:HOk P w H h)(e:Rd H a u):z1i P w H h a u:=e.ok ok
def zcx {kvs:List (Key × V)}(ok:HOk P w H h)(e:Rd H a (.dK kvs)):kvs.length<=sizeLine/\(a == sysModules)=false/\∃vs,KV kvs vs/\h.DictOf (z0V P w) a vs:=
 ziu ok e
def zmz {kvs:List (Key × V)}(ok:HOk P w H h)(e:H a=some (.dK kvs)):kvs.length<=sizeLine/\(a == sysModules)=false/\∃vs,KV kvs vs/\h.DictOf (z0V P w) a vs:=zcx ok (.inl e)
def zcd {ks:List Key}(ok:HOk P w H h)(e:H a=some (.tup (ks.map kV))):(tupleKind (z0V P w)).is h ks a:=by
 obtain⟨_,b,r,⟨o,d,f,n,g⟩,_⟩:=(ok a _ e)
 exact⟨o,b.toArray,n,d,f,g,by simpa using z87 r⟩
def zho {kvs:List (List Key × V)}(ok:HOk P w H h)(e:Rd H a (.dT kvs)):kvs.length<=sizeLine/\(a == sysModules)=false/\
  ∃xs,KT H kvs xs/\h.DictOfH (tupleKind (z0V P w)) a xs:=by
 obtain⟨z,y,xs,r,o,f,d,g,i,j,n,s⟩:=(ziu ok e)
 refine⟨z,y,xs,r,o,f,d,g,i,j,n,λx b =>?_,s⟩;have all:∀{l:List _}{m:List _},KT H l m->∀x∈m,(tupleKind (z0V P w)).is h x.1 x.2.1:=by
  intro l m q
  induction q with
  | nil=>simp_all
  | @cons p q ps C A t u=>
   intro x b
   rcases wm.mp b with e | b
   .exact zcd ok (by simp_all)
   .exact u x b
 exact all r x b
def zmy {kvs:List (List Key × V)}(ok:HOk P w H h)(e:H a=some (.dT kvs)):kvs.length<=sizeLine/\(a == sysModules)=false/\
  ∃xs,KT H kvs xs/\h.DictOfH (tupleKind (z0V P w)) a xs:=zho ok (.inl e)
end
def DGet (H:Hp)(a:Addr)(y:V)(r:Option V):Prop:=
 (∃d k,Rd H a (.dK d)/\y=kV k/\r=valV d k)\/∃d k b,Rd H a (.dT d)/\y = .ref b/\H b=some (.tup (k.map kV))/\r=valV d k
def DPut (H:Hp)(a:Addr)(y v:V)(e:Hp):Prop:=
 (∃d k,H a=some (.dK d)/\y=kV k/\d.length<sizeLine/\e=upd H a (.dK (putK d k v)))\/
 ∃d k b,H a=some (.dT d)/\y = .ref b/\H b=some (.tup (k.map kV))/\d.length<sizeLine/\e=upd H a (.dT (putK d k v))
theorem DPut.k {H:Hp}{a:Addr}{kvs:List (Key × V)}{k:Key}{v:V}(e:H a=some (.dK kvs))(b:kvs.length<sizeLine):DPut H a (kV k) v (upd H a (.dK (putK kvs k v))) :=.inl ⟨kvs,k,e,rfl,b,rfl⟩
section
variable {X:Cx}{pins:List (Addr × Obj)}{σ:St}{H:Hp}{s:Shared}{a:Addr}{y v:V}{u r:Value}{o:Option V}{A:Around}{E:WvP}
def Inv.big (I:Inv X pins σ H s):sysModules<s.heap.objs.size:=by
 have h  := (I.mod.glob.keeps I.bk).lt;exact Nat.lt_trans (by decide) h
def zcB {d:Heap}{t':Nat}{e:HO}(I:Inv X pins σ H s)(h:Mut (H a))(hs:Heap.SameBut a s.heap d)(g:∃q,d.get? a=some q)(new:z1i X.prog X.w (upd H a e) d a e):
  Inv X pins σ (upd H a e) { s with heap:=d,toks:=t' }:=
 I.write h (.inl rfl) (λb q f z=>(hs.2 b f).trans z) g new
def zkR {P:Program}{w:World}{e:Hp}{d:Heap}{kvs:List (Key × V)}{vs:List (Key × Value)}(z:kvs.length<=sizeLine)(g:(a == sysModules)=false)(b:KV kvs vs)(f:d.DictOf (z0V P w) a vs):
  z1i P w e d a (.dK kvs):=⟨z,g,vs,b,f⟩
def zcC {C:Hp}{Q:Unit->Shared->Prop}(W:A.units+1<cLine)(I:Inv X pins σ H s)(g:DPut H a y v C)(L:RelV y u)(K:RelV v r)(h:∀s',Inv X pins σ C s'->Q () s'):
  wpAny (model X.prog X.w) A (setItem (.ref a) u r) Q E s:=by
 rcases g with ⟨d,k,e,o,l,n⟩ | ⟨d,k,b,e,o,F,l,n⟩
 .subst o n;obtain⟨z,p,vs,f,m⟩:=zmz I.hok e;have x:vs.length<=sizeLine:=by rw[<- f.length];exact z
  have t:(putK d k v).length<=sizeLine:=by have:=z5G d k v;omega
  refine wpAny_setItem_pairs (hsz:=x) (zhd L) m λJ i hs=>h _ ?_;have U:∃q,J.get? a=some q:=let ⟨q,_,_,j,_⟩:=i;⟨q,j⟩;exact zcB I (by rw[e];exact True.intro) hs U (zkR t p (f.put k K) i)
 .subst o n
  cases (show u=Value.ref b from L)
  obtain⟨z,p,Y,f,m⟩:=zmy I.hok e;have x:Y.length<=sizeLine:=by rw[<- Paired.length f];exact z
  have t:(putK d k v).length<=sizeLine:=by have:=z5G d k v;omega
  refine wpAny_setItem_heap (hsz:=x) (tupleKind_room_in1 W) (zcd I.hok F) m λJ i hs=>h _ ?_;obtain⟨q,N,M,j,O,R,S,_,T⟩:=i;refine zcB I (by rw[e];exact True.intro) hs ⟨q,j⟩ ⟨t,p,_,(f.put k F K).keeps λc Z G =>?_,q,N,M,j,O,R,S,T⟩;rw[z05 (zmk G e (λz=>nomatch z))];exact G
end
def zlo (h ty i:TE):TS:=λD b H=>i b H λv e=>h b e λx f=>ty b f λy g=>∃a d,x = .ref a/\DPut g a y v d/\D.nx b d
section
variable {X:Cx}{o i e value:Expr}{pos pos' tpos:Pos}{td ty tv:TE}
def zgF (w:X.A.units+1<cLine)(t:PE X o td)(q:PE X i ty)(z:PE X value tv)(hs:swapsWith value (some (.Subscript o i pos')) pos.line X.env=pure false):
  PS X (.Assign [.Subscript o i pos'] value pos) (zlo td ty tv):=by
 intro d s b H D I h;refine wpAny_Assign_Subscript (thn (z _ s b H _ I h) λr L ⟨v,e,l,G,C⟩=>thn (t _ L b e _ l C) λu M ⟨x,f,m,J,E⟩=>thn (q _ M b f _ m E) λQ R N =>?_) hs;obtain⟨y,O,n,K,a,j,ex,g,F⟩:=N;subst ex;obtain rfl:u=Value.ref a:=J;exact zcC w n g K G λS p=>⟨b,j,p,F⟩
end
def zeE {P:Program}{w:World}{H:Hp}(h:Heap)(a:sysModules<h.objs.size):z1i P w H (h.push { cls :=.type "dict",data :=.dict #[] }) h.objs.size (.dK []):=
 ⟨vn _,beq_eq_false_iff_ne.mpr (vG (wI a)),[],.nil,Heap.DictOf.new h⟩
def zi4:TE:=λ_ H Q=>∀p,H p=none->Q (.ref p) (upd H p (.dK []))
section
variable {X:Cx}{pos:Pos}
def zdW:PE X (.Dict [] [] pos) zi4:=λa s b H Q I h=>
 wpAny_Dict_empty ⟨.ref _,_,I.laid (λ_ _ q=>wf _ q) (wq _) (zeE _ I.big),rfl,h _ (I.hok.fresh (wq _))⟩
end
structure M2 (X:Cx)(o:Expr)(m:Str)(apos:Pos)(e f:Expr)(cpos:Pos):Prop where
 base:attributeBase o m X.env (eval o X.env)=eval o X.env
 few:((backTo cpos (starEach [e,f] X.env)).all (λx => !x.1) && (backToKw cpos (keywordEach [] X.env)).all (λx=>x.1.isSome)
  && decide (([e,f]:List Expr).length+([]:List Keyword).length+(if ([]:List Keyword).isEmpty then 0 else 1)<30))=true
 line:(apos.endLine == cpos.line)=true
 trees:backTo cpos (starEach [e,f] X.env)=[(false,eval e X.env),(false,eval f X.env)]
def IsD (H:Hp)(a:Addr):Prop:=(∃b,Rd H a (.dK b))\/∃b,Rd H a (.dT b)
def zfz {X:Cx}{h:List (Addr × Obj)}{n:St}{H:Hp}{s:Shared}{a:Addr}(I:Inv X h n H s)(d:IsD H a):
  s.TypeIs (.ref a) "dict"/\(∀b,Value.ref a = .ref b->∃f,s.heap.get? b=some f/\f.dict=none)/\(a == sysModules)=false:=by
 rcases d with ⟨m,e⟩ | ⟨m,e⟩
 .obtain⟨_,l,vs,_,g⟩:=zcx I.hok e;refine⟨g.typeIs,λb q =>?_,l⟩
  cases q
  obtain⟨f,_,_,i,j,_⟩:=g;exact⟨f,i,j.2.1⟩
 .obtain⟨_,l,o,_,g⟩:=zho I.hok e;refine⟨g.typeIs,λb q =>?_,l⟩
  cases q
  obtain⟨f,_,_,i,j,_⟩:=g;exact⟨f,i,j.2.1⟩
section
variable {X:Cx}{pins:List (Addr × Obj)}{σ:St}{H:Hp}{s:Shared}{a:Addr}{y d:V}{u r:Value}{o:Option V}{A:Around}{E:WvP}
def zkT {Q:WvP}(x:A.units+1<cLine)(I:Inv X pins σ H s)(g:DGet H a y o)(p:RelV y u)(rd:RelV d r)(h:∀q s',Inv X pins σ H s'->RelV (o.getD d) q->Q q s'):
  wpAny (model X.prog X.w) A (call (.builtin "dict.get") [.ref a,u,r]) Q E s:=by
 rcases g with ⟨n,k,e,j,l⟩ | ⟨n,k,b,e,j,t,l⟩
 .subst j;obtain⟨z,m,vs,f,i⟩:=zcx I.hok e;refine call_meetsIn PySem.F.slot_dict_get i.typeIs PySem.F.entry_dict_get (PySem.F.args_dict_get_3 _ _ _) (meets_dict_get_default (z0V X.prog X.w) a (zhd p) m r) ⟨_,i.mapOf,h _ _ (I.tok _) ?_⟩;rw[l];exact(f.val k).getD rd
 .subst j
  cases (p)
  obtain⟨z,m,C,f,i⟩:=zho I.hok e;refine call_meetsIn PySem.F.slot_dict_get i.typeIs PySem.F.entry_dict_get (PySem.F.args_dict_get_3 _ _ _) (meetsH_dict_get_default _ a b m r) ⟨tupleKind_room_in1 x,k,C,zcd I.hok t,i,h _ _ (I.tok _) ?_⟩;rw[l];exact(f.val k).getD rd
end
def zi5 (g ty tx:TE):TE:=λb H Q=>g b H λx d=>∃a,x = .ref a/\IsD d a/\ty b d λy f=>tx b f λz e=>∃o,DGet e a y o/\Q (o.getD z) e
section
variable {X:Cx}{o e f:Expr}{apos cpos:Pos}{td ty tx:TE}
def zdX (J:X.A.units+1<cLine)(G:PE X o td)(C:PE X e ty)(E:PE X f tx)(m:M2 X o "get" apos e f cpos):PE X (.Call (.Attribute o "get" apos) [e,f] [] cpos) (zi5 td ty tx):=by
 intro b s j H Q I h;refine wpAny_Call_method m.base m.few m.line PySem.F.plainAttrs_dict PySem.F.slot_dict_get PySem.F.type_dict_get (thn (G b s j H _ I h) λu S Y =>?_);obtain⟨x,n,l,N,a,ex,d,K⟩:=Y;subst ex;obtain rfl:u=Value.ref a:=N;obtain⟨U,W,_⟩:=zfz l d;refine⟨U,W,?_⟩;rw[m.trees];refine uN rfl (Calls.evalArgs_plain (Calls.spliced_cons (thn (C b S j n _ l K) λiv T ⟨y,p,r,O,L⟩=>
  Calls.spliced_cons (thn (E b T j p _ r L) λZ s3 ⟨z,q,t,R,ov,g,M⟩=>Calls.spliced_nil ?_))))
 exact zkT J t g O R λw' s4 w i=>⟨_,q,w,i,M⟩
end
end L2
namespace Pu
open PySem PySem.Spec PyProof.Rows L2
def dk (kvs:List (Key × D)):D :=.dct (kvs.map λp=>kD p.1) (kvs.map (·.2))
def valD (kvs:List (Key × D))(k:Key):Option D:=(kvs.find? λp=>decide (p.1=k)).map (·.2)
def putD (kvs:List (Key × D))(k:Key)(d:D):List (Key × D):=if (kvs.any λp=>decide (p.1=k))=true then kvs.map (λp=>if p.1=k then (p.1,d) else p) else kvs++[(k,d)]
def PK (K:W.Frag)(mg:WmP)(G:Hp):List (Key × D)->List (Key × V)->Prop
 | [],[]=>True
 | (k,d)::r,(a,v)::b=>k=a/\RD K mg G d v/\PK K mg G r b
 | _,_=>False
def zkH:∀{k a:Key},kD k=kD a->k=a
 | .inl _,.inl _,h=>by injection h with h;rw[h]
 | .inr _,.inr _,h=>by injection h with h;rw[h]
 | .inl _,.inr _,h=>by cases h
 | .inr _,.inl _,h=>by cases h
section
variable {K:W.Frag}{mg:WmP}{G G' H:Hp}
theorem PK.of:∀{kvs:List (Key × D)}{a:List (Key × V)},kvs.map (λp=>kD p.1)=a.map (λp=>kD p.1)->RDs K mg G (kvs.map (·.2)) (a.map (·.2))->PK K mg G kvs a
 | [],[],_,_=>trivial
 | [],_::_,h,_=>by cases h
 | _::_,[],h,_=>by cases h
 | (k,d)::r,(g,v)::i,h,q=>by
  simp[wL,List.cons.injEq] at h q;obtain⟨x,y,e,b,f⟩:=q;simp[List.cons.injEq] at e;obtain⟨rfl,rfl⟩:=e;exact⟨zkH h.1,b,PK.of h.2 f⟩
theorem PK.keys:∀{kvs:List (Key × D)}{a:List (Key × V)},PK K mg G kvs a->kvs.map (·.1)=a.map (·.1)
 | [],[],_=>rfl
 | [],_::_,h=>h.elim
 | _::_,[],h=>h.elim
 | (k,d)::r,(b,v)::e,h=>by
  obtain⟨rfl,_,h⟩:=h;simp[PK.keys h]
theorem PK.rds:∀{kvs:List (Key × D)}{a:List (Key × V)},PK K mg G kvs a->RDs K mg G (kvs.map (·.2)) (a.map (·.2))
 | [],[],_=>RDs.nil
 | [],_::_,h=>h.elim
 | _::_,[],h=>h.elim
 | (k,d)::r,(b,v)::e,h=>RDs.cons h.2.1 (PK.rds h.2.2)
theorem PK.same (g:Same G G'):∀{kvs:List (Key × D)}{a:List (Key × V)},PK K mg G kvs a->PK K mg G' kvs a
 | [],[],_=>trivial
 | [],_::_,h=>h.elim
 | _::_,[],h=>h.elim
 | (k,d)::r,(b,v)::e,h=>⟨h.1,h.2.1.same g,PK.same g h.2.2⟩
theorem PK.val {j:Key}:∀{kvs:List (Key × D)}{a:List (Key × V)},PK K mg G kvs a->(valD kvs j=none/\valV a j=none)\/∃d v,valD kvs j=some d/\valV a j=some v/\RD K mg G d v
 | [],[],_ =>.inl ⟨rfl,rfl⟩
 | [],_::_,h=>h.elim
 | _::_,[],h=>h.elim
 | (k,d)::r,(i,v)::l,h=>by
  obtain⟨rfl,f,g⟩:=h
  by_cases e:k=j
  .refine .inr ⟨d,v,?_,z54 e,f⟩;unfold valD;rw[jb,wE e]
   rfl
  .have b:valD ((k,d)::r) j=valD r j:=by
    unfold valD
    simp_all
   rw[b,z55 e];exact PK.val g
theorem PK.any {j:Key}{kvs:List (Key × D)}{a:List (Key × V)}(h:PK K mg G kvs a):(kvs.any λp=>decide (p.1=j))=(a.any λp=>decide (p.1=j)):=by
 have b:(kvs.any λp=>decide (p.1=j))=((kvs.map (·.1)).any λk=>decide (k=j)):=by rw[List.any_map];rfl
 have d:(a.any λp=>decide (p.1=j))=((a.map (·.1)).any λk=>decide (k=j)):=by rw[List.any_map];rfl
 rw[b,d,h.keys]
theorem PK.repl {j:Key}{b:D}{i:V}(a:RD K mg G b i):∀{kvs:List (Key × D)}{g:List (Key × V)},PK K mg G kvs g->PK K mg G (kvs.map λp=>if p.1=j then (p.1,b) else p) (g.map λp=>if p.1=j then (p.1,i) else p)
 | [],[],_=>trivial
 | [],_::_,h=>h.elim
 | _::_,[],h=>h.elim
 | (k,d)::r,(m,v)::n,h=>by
  obtain⟨rfl,l,f⟩:=h;simp[wL]
  by_cases e:k=j
  .rw[if_pos e,if_pos e];exact⟨rfl,a,PK.repl a f⟩
  .rw[if_neg e,if_neg e];exact⟨rfl,l,PK.repl a f⟩
theorem PK.snoc {j:Key}{a:D}{f:V}(e:RD K mg G a f):∀{kvs:List (Key × D)}{b:List (Key × V)},PK K mg G kvs b->PK K mg G (kvs++[(j,a)]) (b++[(j,f)])
 | [],[],_=>⟨rfl,e,trivial⟩
 | [],_::_,h=>h.elim
 | _::_,[],h=>h.elim
 | (k,d)::r,(g,v)::i,h=>⟨h.1,h.2.1,PK.snoc e h.2.2⟩
def PK.put {j:Key}{a:D}{e:V}(d:RD K mg G a e){kvs:List (Key × D)}{b:List (Key × V)}(h:PK K mg G kvs b):PK K mg G (putD kvs j a) (putK b j e):=by
 unfold putD putK;rw[h.any]
 split
 .exact h.repl d
 .exact h.snoc d
def PK.len {kvs:List (Key × D)}{a:List (Key × V)}(h:PK K mg G kvs a):kvs.length=a.length:=by
 have:=congrArg List.length h.keys;simpa using this
def zjP {a:Addr}{kvs:List (Key × D)}(h:z4Q K mg G H a (dk kvs)):∃kw,H a=some (.dK kw)/\PK K mg G kvs kw:=by
 obtain⟨j,e,⟨kw,q,b,rfl⟩ | ⟨kw,q,n,b,rfl⟩⟩:=h
 .exact⟨kw,q,PK.of b e⟩
 .exfalso
  cases kw with
  | nil=>exact n rfl
  | cons p r=>
   cases kvs with
   | nil=>cases b
   | cons f g=>
    simp[wL,List.cons.injEq] at b;obtain⟨⟨i | x,d⟩,_⟩:=f,g
    all_goals exact absurd b.1 (by simp[kD])
def zfC {a:Addr}{kvs:List (Key × D)}{b:List (Key × V)}(h:H a=some (.dK b))(p:PK K mg G kvs b):z4Q K mg G H a (dk kvs):=by
 refine⟨_,p.rds,.inl ⟨b,h,?_,rfl⟩⟩;have:kvs.map (λp=>kD p.1)=(kvs.map (·.1)).map kD:=by rw[wJ];rfl
 rw[this,p.keys,wJ]
 rfl
def ziz {v:V}{kvs:List (Key × D)}(h:RD K mg G (dk kvs) v):∃a kw,v = .ref a/\Rd G a (.dK kw)/\PK K mg G kvs kw:=by
 unfold dk at h;obtain⟨a,j,rfl,e,⟨kw,q,b,rfl⟩ | ⟨kw,q,n,b,rfl⟩⟩:=h
 .exact⟨a,kw,rfl,q,PK.of b e⟩
 .exfalso
  cases kw with
  | nil=>exact n rfl
  | cons p r=>
   cases kvs with
   | nil=>cases b
   | cons f g=>
    simp[wL,List.cons.injEq] at b;obtain⟨⟨i | x,d⟩,_⟩:=f,g
    all_goals exact absurd b.1 (by simp[kD])
def ziw {k:Key}{v:V}(h:RD K mg G (kD k) v):v=kV k:=by
 cases k with
 | inl i=>exact(by exact h)
 | inr x=>exact(by exact h)
end
open Tab
def ownD (b:Env)(i:Nat)(P:List (Key × D)->Prop):Prop:=∃a,b[i]? = some (.o (dk a))/\P a
def Sm.dput (i:Nat)(k e:Ex):Sm:=⟨λf N _ X=>ownD f i λa=>e.run f (λd=>Safe d f/\k.run f (λb=>∃j,b=kD j/\a.length<sizeLine/\N (f.set i (.o (dk (putD a j d))))) X) X,λf N s Q t X g r m l ⟨a,h,q⟩=>⟨a,h,e.mono f _ _ X g (λd q=>⟨q.1,k.mono f _ _ X g (λb ⟨j,n,p,q⟩=>⟨j,n,p,r _ q⟩) l q.2⟩) l q⟩⟩
def zjO:Fn:=⟨λ_ Q _=>Q (dk []),λ_ Q a X b m _ q=>m _ q⟩
def Ex.dget2 (x k e:Ex):Ex:=⟨λf Q X=>x.run f (λa=>∃d,a=dk d/\k.run f (λb=>∃j,b=kD j/\e.run f (λc=>Q ((valD d j).getD c)) X) X) X,λf Q l X g m i q=>x.mono f _ _ X g (λa ⟨d,h,q⟩=>⟨d,h,k.mono f _ _ X g (λb ⟨j,h,q⟩=>⟨j,h,e.mono f _ _ X g (λc q=>m _ q) i q⟩) i q⟩) i q⟩
abbrev dkI (rs:List (Int × D)):D:=dk (rs.map λr=>(Sum.inl r.1,r.2))
def zcq (d:D)(Q:DK):Prop:=∃e:List (Int × D),d=dkI e/\(e.map (·.1)).Nodup/\e.length<=63/\∀f:List (Int × D),f.Perm e->f.Pairwise (λa b=>a.1<b.1)->Q (.lst (f.map pdD))
def z6s:Fn:=fn1 zcq λd Q j m ⟨i,e,f,g,q⟩=>⟨i,e,f,g,λh a b=>m _ (q h a b)⟩
section
variable {X:Cx}{E:XK}{e f o y:Expr}{x z u:Ex}{pos spos apos cpos p1:Pos}{i:Nat}
def zge (hu:X.A.units+64<cLine)(S:QE X o (tVar i))(W:QX X E y z)(Q:QX X E e x)(hs:autoParam (swapsWith e (some (.Subscript o y spos)) pos.line X.env=pure false) jA1):QZ X E (.Assign [.Subscript o y spos] e pos) (.dput i z x):=
 QS.imp ⟨zgF (by omega) S.p W.p Q.p hs⟩ <| by
  rintro De σ H ⟨H0,G0,G,ρ,N0,R0,X0,m,⟨a0,t,T⟩,R,hR,C⟩;refine zd4 m T C λd w G1 H1 q N s g3 rd =>?_;obtain⟨h,n⟩:=m.back N s g3;have r:=z3D m s g3 q.1 rd;obtain⟨a,I,ga,h0,U⟩:=h.ow i _ t;refine⟨.ref a,I,?_⟩;refine zd4 h q.2 C λb u G2 H2 q2 k1 k2 F rb =>?_;obtain⟨f,l⟩:=h.back k1 k2 F;obtain⟨j,rfl,Y,O⟩:=q2;rw[ziw rb];obtain⟨kw,w1,J⟩:=zjP U;refine⟨a,_,rfl,DPut.k (F _ _ w1) (by rw[<- J.len];exact Y),?_⟩;refine R _ σ _ _ O (f.wr f.nw Same.refl' f.g Same.refl' (λZ L K M s'=>f.free K ⟨Z,L,M,s'⟩) t I (zfC z06 ((J.same l).put (r.same l)))) (z03 n l)
def zgu:QF X E (.Dict [] [] pos) (.op zjO []):=QE.imp ⟨zdW⟩ λj H Q ⟨G,i,e,f,hs,g,d,b,h⟩ p a=>
 b _ p G _ d Gr.refl (z03 hs (z0f a _)) (z0f a _) a (z0M hs a) (zfC z06 trivial)
def z6J {G H:Hp}{a:Addr}{o:HO}(g:Same G H)(h:Rd G a o):Rd H a o:=h.imp (g _ _) λ⟨u,e⟩=>⟨u,g _ _ e⟩
def zdB (hu:X.A.units+64<cLine)(Z:QX X E o x)(T:QX X E e z)(U:QX X E f u)(m:autoParam (attributeBase o "get" X.env (eval o X.env)=eval o X.env) jA1)
  (hw:autoParam (((backTo cpos (starEach [e,f] X.env)).all (λx => !x.1) && (backToKw cpos (keywordEach [] X.env)).all (λx=>x.1.isSome) && decide (([e,f]:List Expr).length+([]:List Keyword).length+(if ([]:List Keyword).isEmpty then 0 else 1)<30))=true) jA1)
  (Y:autoParam ((apos.endLine == cpos.line)=true) jA1) (ht:autoParam (backTo cpos (starEach [e,f] X.env)=[(false,eval e X.env),(false,eval f X.env)]) jA1):QX X E (.Call (.Attribute o "get" apos) [e,f] [] cpos) (.dget2 x z u):=
 QE.imp ⟨zdX (by omega) Z.p T.p U.p ⟨m,hw,Y,ht⟩⟩ <| by
 rintro σ H Q ⟨G,t,Q0,h,hs,i,hr,W,n⟩;refine⟨G,t,_,h,hs,i,hr,λd v L H1 ⟨a0,S,q⟩ l F g3 rd =>?_,n⟩;subst S;obtain⟨a,J,rfl,I,R⟩:=ziz rd;refine⟨a,rfl,.inl ⟨J,z6J F I⟩,?_⟩;refine⟨L,t,_,h,F,i.same l.1,q,λb w M H2 ⟨j,m,q2⟩ g k2 r rb =>?_,n.same g3⟩;subst m;rw[ziw rb];refine⟨M,t,_,h,k2,i.same (z03 l.1 g.1),q2,λc v N O q3 s K m3 rc =>?_,n.same (z03 g3 r)⟩;refine⟨_,.inl ⟨J,j,z6J (z03 g.1 (z03 s.1 K)) I,rfl,rfl⟩,?_⟩;refine W _ _ N O q3 (l.trans g3 (g.trans r s)) K (z03 g3 (z03 r m3)) ?_
 rcases R.val (j:=j) with ⟨y,C⟩ | ⟨d,v,y,C,rv⟩
 .simp_all
 .rw[y,C];exact rv.same (z03 g.1 s.1)
def zml {H f:Hp}{a:List (Addr × Obj)}{h:L2.St}{s:Shared}{g:Heap}{t':Nat}(I:Inv X a h H s)(k:∀b u,s.heap.get? b=some u->g.get? b=some u)(d:Same H f)(j:∀b o,f b=some o->H b=some o\/(s.heap.get? b=none/\z1i X.prog X.w f g b o)):
  Inv X a h f { s with heap:=g,toks:=t' }:=
 have i  := λb o e q=>by
  cases z:f b with
  | none=>rfl
  | some v=>
   grind
 I.un ⟨λb o e q _ _=>k b o e,λb o e q _ _=>⟨o.slots,k b o e⟩,λb o e q _=>i b o e q,λb o e _=>⟨o,k b o e⟩,λb l e=>d _ _ e,λb o u e=>d _ _ e,λb ps e=>⟨#[],by exact d _ _ e⟩⟩ λb v e=>by
  rcases j b v e with w | w
  .exact(I.hok b v w).stay (λc v _ q=>k c v q) (λc q=>d _ _ q) (λc l q=>d _ _ q) λc _ _ q=>d _ _ q
  .exact w.2
def layP (H:Hp):List (Addr × Int × V)->Hp
 | []=>H
 | r::l=>upd (layP H l) r.1 (.tup [.int r.2.1,r.2.2])
theorem z2Z {H:Hp}{b:Addr}:∀{l:List (Addr × Int × V)},(∀r∈l,r.1≠b)->layP H l b=H b
 | [],_=>rfl
 | r::l,h=>by rw[layP,z05 (vG (h r (by simp)))];exact z2Z λx a=>h x (by simp[a])
theorem z95 {H:Hp}:∀{l:List (Addr × Int × V)},(l.map (·.1)).Nodup->∀r∈l,layP H l r.1=some (.tup [.int r.2.1,r.2.2])
 | r::l,b,x,a=>by
  rw[wL,vO] at b
  rcases wm.mp a with rfl | a
  .exact z06
  .rw[layP,z05 (λz=>b.1 (wj.mpr ⟨x,a,z⟩))];exact z95 b.2 x a
def z82 {H:Hp}{l:List (Addr × Int × V)}(h:∀r∈l,H r.1=none):Same H (layP H l):=λb o e=>by
 rw[z2Z λr a z=>by rw[<- z,h r a] at e;cases e];exact e
theorem z83 {G H:Hp}(g:Same G H):∀{l:List (Addr × Int × V)},Same (layP G l) (layP H l)
 | []=>g
 | r::l=>λb o e=>by
  rw[layP] at e ⊢
  by_cases a:b=r.1
  .subst a;rw[z06] at e ⊢;exact e
  .rw[z05 a] at e ⊢;exact z83 g b o e
theorem zcc {K:W.Frag}{mg:WmP}{G:Hp}:∀{a:List (Addr × Int × V)}{m:List (Int × D)},Two (λr p=>r.2.1=p.1/\RD K mg G p.2 r.2.2) a m->(∀r∈a,G r.1=some (.tup [.int r.2.1,r.2.2]))->RDs K mg G (m.map pdD) (a.map λr =>.ref r.1)
 | _,_,.nil,_=>RDs.nil
 | r::_,p::_,.cons h t,k=>RDs.cons (RD.ofT (SqT.of (k r (by simp))) (RDs.cons (by rw[h.1];rfl) (RDs.cons h.2 RDs.nil))) (zcc t λx b=>k x (by simp[b]))
def zmm {P:Program}{w:World}{k:Int}{v:Value}(h:(z0V P w).is (.inl k) v=true):∃t,v = .int k t:=by
 rw[zaD] at h
 rcases z0K h with ⟨i,t,e,rfl⟩ | ⟨x,t,e,_⟩
 .grind
 .cases e
theorem zfy {P:Program}{w:World}{h:Heap}:∀{f:List (Int × V)}{vs:List (Key × Value)}{a:List Addr},KV (f.map λp=>(Sum.inl p.1,p.2)) vs->a.length=vs.length->(∀(j:Nat) (b:Addr),a[j]? = some b->∃key k x,vs[j]? = some (k,x)/\(z0V P w).is k key=true/\h.get? b=some { cls :=.type "tuple",data :=.seq #[key,x] })->
  Two (λ(v:Value) (z:Addr × Int × V)=>v = .ref z.1/\∃t w,RelV z.2.2 w/\h.get? z.1=some { cls :=.type "tuple",data :=.seq #[.int z.2.1 t,w] }) (a.map Value.ref) (a.zip f)
 | [],_,a,r,d,_=>by
  cases r
  rw[um.mp d];exact .nil
 | q::f,_,a,r,d,g=>by
  cases r with
  | cons r1 r2=>
   cases a with
   | nil=>simp at d
   | cons b a=>
    refine .cons ?_ (zfy r2 (by simpa using d) λj b l=>g (j+1) b (by simpa using l));obtain⟨key,k,x,e,n,m⟩:=g 0 b rfl;simp at e;rw[e] at r1;have i  := r1.1;subst i;obtain⟨t,rfl⟩:=zmm n;exact⟨rfl,t,x,r1.2,m⟩
theorem vals_refs:∀l:List (Addr × Int × V),Vals (l.map λr =>.ref r.1) (l.map λr =>.ref r.1)
 | [] =>.nil
 | _::l =>.cons rfl (vals_refs l)
def ItV (v a:Addr):HO :=.ext λh=>h.IsItemsView v a
def z9e (hc:X.calm=true):z0C X (.builtin "sorted") (λvs H Q=>∃(v a:Addr) (kw:List (Int × V)),vs=[.ref v]/\H v=some (ItV v a)/\Rd H a (.dK (kw.map λp=>(Sum.inl p.1,p.2)))/\(kw.map (·.1)).Nodup/\kw.length<=63/\
  ∀(D:Addr) (n:List (Addr × Int × V)),H D=none->(n.map (·.2)).Perm kw->n.Pairwise (λa b=>a.2.1<b.2.1)->(n.map (·.1)).Nodup->(∀r∈n,H r.1=none/\r.1≠D)->Q (.ref D) (upd (layP H n) D (.lst (n.map λr =>.ref r.1)))):=by
 rintro a1 s σ H xs us Q I rv ⟨v,a,kw,e,T,hd,nd,d,q⟩;subst e;obtain⟨u,rfl,rx⟩:=z37 rv
 cases rx
 obtain⟨U,_⟩:=I.hok v _ T;obtain⟨_,_,vs,r,od,es,ep,da⟩:=zcx I.hok hd;have a0:kw.length=vs.length:=by rw[<- KV.length r,we]
 refine Tim.z5s λE' =>?_;refine W.kdx_collect (knd:=z0V X.prog X.w) (kvs:=vs) (ep:=ep) (by simp[I.ok.hd hc]) U ⟨od,es,da⟩ (wM (show vs.length<=64 by omega) (by decide)) λi tk as keep hl K =>?_;have j:=zfy r hl K.pairs;have tp:∀z∈as.zip kw,Tim.TP i (.ref z.1) z.2.1:=λz d=>by
  obtain⟨v,_,_,t,w,_,g⟩:=j.mem_right d;exact⟨_,_,_,_,t,w,rfl,g,rfl,rfl,rfl⟩
 have zl:(as.zip kw).map (·.1)=as:=List.map_fst_zip (by omega);have zr:(as.zip kw).map (·.2)=kw:=List.map_snd_zip (by omega);have Z:as.Nodup:=K.rise.imp λh=>wI h;have C:∀(v:Value) (z:Addr × Int × V),(v = .ref z.1/\∃t w,RelV z.2.2 w/\i.get? z.1=some { cls :=.type "tuple",data :=.seq #[.int z.2.1 t,w] })->Tim.keyP i v=z.2.1:=by
  rintro v z ⟨e,t,w,_,g⟩;rw[e];exact Tim.TP.key ⟨_,_,_,_,t,w,rfl,g,rfl,rfl,rfl⟩
 have x:(as.map Value.ref).map (Tim.keyP i)=kw.map (·.1):=by
  rw[z5k C j, <- zr,wJ,zr]
  rfl
 have R:∀v∈as.map Value.ref,Tim.TP i v (Tim.keyP i v):=λv T=>by
  obtain⟨z,d,e,_⟩:=j.mem_left T;rw[e,(tp z d).key];exact tp z d
 have inj:∀u∈as.map Value.ref,∀v∈as.map Value.ref,Tim.keyP i u=Tim.keyP i v->u=v:=zck (by rw[x];exact nd);refine⟨_,by rw[we];omega,Tim.z53.prs R inj,λG p1 p2 h' Y z9 =>?_⟩;obtain⟨e,he⟩:=z9;dsimp only at Y he ⊢;obtain⟨m,l,tm⟩:=j.perm p1.symm;have E:G=m.map λz =>.ref z.1:=by
  have:=z5k (f:=λv=>v) (g:=λz:Addr × Int × V=>Value.ref z.1) (λ_ _ h=>h.1) tm;simpa using this
 have perm:(m.map (·.2)).Perm kw:=by rw[<- zr];exact(l.map (·.2)).symm
 have F:(m.map (·.1)).Nodup:=(l.map (·.1)).nodup_iff.mp (by rw[zl];exact Z);have new:∀z∈m,s.heap.get? z.1=none/\z.1≠i.objs.size:=λz d=>by
  have A:z.1∈as:=by rw[<- zl];exact wj.mpr ⟨z,l.mem_iff.mpr d,rfl⟩
  refine⟨?_,wI (K.there A)⟩
  cases y:s.heap.get? z.1 with
  | none=>rfl
  | some o=>exact absurd (wu y) (Nat.not_lt.mpr (jc (K.above _ A)))
 have O:s.heap.get? i.objs.size=none:=by
  cases y:s.heap.get? i.objs.size with
  | none=>rfl
  | some o=>exact absurd (wu (keep _ _ y)) (vB _)
 have mk:(as.zip kw).Perm m:=l;have hT:∀z∈m,∃t w,RelV z.2.2 w/\h'.get? z.1=some { cls :=.type "tuple",data :=.seq #[.int z.2.1 t,w] }:=λz d=>by
  obtain⟨v,_,_,t,w,N,J⟩:=j.mem_right (l.mem_iff.mpr d);exact⟨t,w,N,Y _ _ J⟩
 have S:∀z∈m,z.1≠i.objs.size:=λz d=>(new z d).2;refine⟨.ref i.objs.size,upd (layP H m) i.objs.size (.lst (m.map λr =>.ref r.1)),zml (t':=tk) I (λb o y=>Y b o (keep b o y)) (λb o y =>?_) (λb o y =>?_),rfl,q _ m (I.hok.none_of O) perm ?_ F λz d=>⟨I.hok.none_of (new z d).1,S z d⟩⟩
 .have L:∃u,s.heap.get? b=some u:=z1i.there (I.hok b o y);obtain⟨u,M⟩:=L;rw[z05 (λz=>by rw[z,O] at M;cases M),z2Z λz d e=>by rw[<- e,(new z d).1] at M;cases M];exact y
 .by_cases L:b=i.objs.size
  .subst L;rw[z06] at y
   cases y
   refine .inr ⟨O,by rw[we, <- l.length_eq,u8];exact wM (show _<=64 by omega) (by decide),G,e,?_,he⟩;rw[E];exact vals_refs m
  .rw[z05 L] at y
   by_cases hm:∃z∈m,z.1=b
   .obtain⟨z,d,rfl⟩:=hm;rw[z95 F z d] at y
    cases y
    obtain⟨t,w,N,J⟩:=hT z d;exact .inr ⟨(new z d).1,by show 2<=sizeLine;decide,[.int z.2.1 t,w],.cons ⟨t,rfl⟩ (.cons N .nil),⟨_,J,rfl,_,rfl⟩,⟨_,J,rfl⟩⟩
   .rw[z2Z λz d e=>hm ⟨z,d,e⟩] at y;exact .inl y
 .refine zf0 (h:=i) p1 p2 (g:=λz:Addr × Int × V=>z.2.1) (z5k C tm) ?_;have:=perm.map (·.1);rw[wJ] at this;exact this.nodup_iff.mpr nd
theorem zbz {K:W.Frag}{mg:WmP}{G:Hp}:∀{b:List (Int × D)}{d:List (Key × V)},PK K mg G (b.map λr=>(Sum.inl r.1,r.2)) d->∃a:List (Int × V),d=a.map (λp=>(Sum.inl p.1,p.2))/\a.map (·.1)=b.map (·.1)/\Two (λ(p:Int × V) (r:Int × D)=>p.1=r.1/\RD K mg G r.2 p.2) a b
 | [],[],_=>⟨[],rfl,rfl,.nil⟩
 | r::b,(k,v)::d,⟨f,g,h⟩=>by
  obtain⟨a,rfl,e,t⟩:=zbz h;subst f;exact⟨(r.1,v)::a,rfl,by simp[e],.cons ⟨rfl,g⟩ t⟩
def zdV {q:TE}(z:PE X o q)(t:attributeBase o "items" X.env (eval o X.env)=eval o X.env)(C:((backTo cpos (starEach [] X.env)).all (λx => !x.1) && (backToKw cpos (keywordEach [] X.env)).all (λx=>x.1.isSome) && decide (([]:List Expr).length+([]:List Keyword).length+(if ([]:List Keyword).isEmpty then 0 else 1)<30))=true)(y:(apos.endLine == cpos.line)=true)(A:backTo cpos (starEach [] X.env)=[]):
  PE X (.Call (.Attribute o "items" apos) [] [] cpos) (λm H Q=>q m H λx i=>∃a l,x = .ref a/\Rd i a (.dK l)/\∀v,i v=none->Q (.ref v) (upd i v (ItV v a))):=by
 intro f s m H Q I h;refine wpAny_Call_method t C y PySem.F.plainAttrs_dict PySem.F.slot_dict_items PySem.F.type_dict_items (thn (z f s m H _ I h) λu g N =>?_);obtain⟨x,i,j,G,a,l,ex,d,E⟩:=N;subst ex;obtain rfl:u=Value.ref a:=G;obtain⟨K,L,M⟩:=zfz j (.inl ⟨l,d⟩);refine⟨K,L,?_⟩;rw[A];refine uN rfl (PySem.evalArgs_none ?_);obtain⟨_,_,vs,_,n⟩:=zcx j.hok d;refine call_meetsIn PySem.F.slot_dict_items n.typeIs PySem.F.entry_dict_items (PySem.F.args_dict_items_1 _) (meets_dict_items (z0V X.prog X.w) a M) ⟨⟨vs,n⟩,?_⟩;have p:(g.heap.push { cls :=.type "dict_items",data :=.fields #[.ref a] }).get? g.heap.objs.size=some { cls :=.type "dict_items",data :=.fields #[.ref a] }:=wn _ rfl;exact⟨.ref g.heap.objs.size,_,j.laid (o:=ItV g.heap.objs.size a) (t':=g.toks) (λb o e=>wf _ e) (wq _) ⟨⟨_,p,rfl,rfl⟩,⟨_,p⟩,λO R ⟨o,e,r⟩ J=>⟨o,J _ e,r⟩⟩,rfl,E _ (j.hok.fresh (wq _))⟩
def z7L {p4:Pos}(hc:X.calm=true)(hg:Gl X "sorted")(hm:X.mg "sorted"=none)(ho:QX X E o x)(F:autoParam (attributeBase o "items" X.env (eval o X.env)=eval o X.env) jA1)
  (hw:autoParam (((backTo cpos (starEach [] X.env)).all (λx => !x.1) && (backToKw cpos (keywordEach [] X.env)).all (λx=>x.1.isSome) && decide (([]:List Expr).length+([]:List Keyword).length+(if ([]:List Keyword).isEmpty then 0 else 1)<30))=true) jA1) (hl:autoParam ((apos.endLine == cpos.line)=true) jA1) (ht:autoParam (backTo cpos (starEach [] X.env)=[]) jA1)
  (hs:autoParam (starEach [.Call (.Attribute o "items" apos) [] [] cpos] X.env=(false,eval (.Call (.Attribute o "items" apos) [] [] cpos) X.env)::starEach [] X.env) jA1):QF X E (.Call (.Name "sorted" p1) [.Call (.Attribute o "items" apos) [] [] cpos] [] p4) (.op z6s [x]):=
 QE.imp (z4h (z9e hc) hg hm (by rfl) (z3j ⟨zdV ho.p F hw hl ht⟩ z5y hs) (by decide) (by decide) hs (by rfl)) <| by
  rintro σ H Q ⟨G,U,W,X0,hs,Y,i,hk,hx⟩;have K:x.run U (λd=>zcq d W) X0:=i;refine⟨G,U,_,X0,hs,Y,K,λd v A s q g1 t g3 rd =>?_,hx⟩;obtain⟨rs,rfl,nd,hz,q⟩:=q;obtain⟨a,kw,rfl,O,h2⟩:=ziz rd;obtain⟨kv,rfl,R,h4⟩:=zbz h2;refine⟨a,_,rfl,z6J t O,λv hv =>?_⟩;have N:Same s (upd s v (ItV v a)):=z0f hv _;refine⟨v,a,kv,rfl,z06,z6J (z03 t N) O,by rw[R];exact nd,by rw[<- we (f:=(·.1)),R,we];exact hz,λw j C pm I L new =>?_⟩;have Z:w≠v:=λz=>by rw[z,z06] at C;cases C
  have n:∀r∈j,s r.1=none:=λr i=>by
   have:=(new r i).1
   rwa [z05 (λz=>by rw[z,z06] at this;cases this)] at this
  have u:s w=none:=by rwa [z05 Z] at C
  have nG:∀r∈j,A r.1=none:=λr i=>z0M t (n r i);obtain⟨m,M,J⟩:=Two.perm pm.symm h4;have J:=z8D J;have s2:=z83 (l:=j) (z03 t N);have S:Gr A s (layP A j):=⟨z82 nG,λb o y=>by
   by_cases F:∃r∈j,r.1=b
   .obtain⟨r,i,rfl⟩:=F;exact .inr (n r i)
   .rw[z2Z λr i z=>F ⟨r,i,z⟩] at y;exact .inl ⟨o,y⟩⟩
  have lD:layP (upd s v (ItV v a)) j w=none:=by rw[z2Z λr i=>(new r i).2];exact C
  have T:=z0f lD (.lst (j.map λr=>V.ref r.1));refine hk (.lst (m.map pdD)) w (layP A j) _ (q m M.symm ?_) (g1.trans g3 S) (z03 s2 T) (z03 g3 (z03 N (z03 (z82 λr i=>(new r i).1) T))) (z0M g3 u) (by rw[z2Z λr i=>(new r i).2];exact z0M t u) ⟨_,z06,zcc (J.imp λr p h=>⟨h.1,h.2.same S.1⟩) (z95 L)⟩;have e:=z5k (f:=λr:Addr × Int × V=>r.2.1) (g:=λp:Int × D=>p.1) (λr p h=>h.1) J;have I:(j.map λr=>r.2.1).Pairwise (· < ·):=wS.mpr I;rw[e] at I;exact wS.mp I
end
end Pu
namespace Pu
open PySem L2
def z2B:Fn:=Fn.mkN 2 4 (.seq (.set 2 (.op z2d [.v 1]))
 (.seq (.set 3 (.comp 1 [2,1] (.nm 0) (.v 0) none (.op pTup [.op z14 [.v 0,.v 1],.op z14 [.v 0,.v 2]])))
 (.ret (.op z9A [.v 3]))))
def z1e:Fn:=Fn.mkN 3 7 (.seq (.own 3 (.op zjO []))
 (.seq (.for_ [] (.tp [4,5]) (.v 2) (.seq (.set 6 (.op z2B [.v 0,.op z0v [.op pIx [.v 1,.op pSub [.v 4,.c (.int 1)]],.op pIx [.v 1,.v 4]]]))
 (.dput 3 (.v 6) (.op z4M [.dget2 (.v 3) (.v 6) (.op pTup [.c (.int 0),.c (.int 1)]),.v 5]))))
 (.ret (.op z1Y [.op z6s [.v 3]]))))
def z33:Fn:=Fn.mkN 2 4 (.seq (.set 2 (.op z3L [.v 0]))
 (.seq (.set 3 (.op z32 [.v 2,.v 1]))
 (.seq (.ifs (.op pEq [.op pIx [.v 3,.c (.int 0)],.c (.str "barred")]) (.ret (.v 3)) .skip)
 (.ret (.op pTup [.c (.str "course"),.op z1Y [.comp 1 [2,3] (.nm 0) (.v 0) none (.op z1e [.op pIx [.v 0,.c (.int 0)],.v 1,.op pIx [.v 2,.c (.int 1)]])]])))))
def z13:Fn:=Fn.mkN 3 3 (.ret (.op pGt [.op z0o [.v 1,.v 2],.op z0b [.op z1D [.v 0,.v 1],.op pIx [.v 2,.c (.int 2)]]]))
def z02:Fn:=Fn.mkN 1 5 (.seq (.set 1 (.c (.int 0)))
 (.seq (.for_ [] (.nm 2) (.v 0) (.seq (.set 3 (.op pAbs [.v 2]))
 (.wh (.op pGt [.v 3,.c (.int 0)]) (.seq (.set 4 (.op pMod [.v 1,.v 3]))
 (.seq (.set 1 (.v 3))
 (.set 3 (.v 4)))))))
 (.ret (.op z1Y [.comp 1 [1] (.nm 0) (.v 0) none (.op z1u [.v 0,.v 1])]))))
def z0B:Fn:=Fn.mkN 3 6 (.seq (.set 3 (.op pIx [.v 2,.c (.int 0)]))
 (.seq (.set 4 (.op pAdd [.op z0b [.op pIx [.v 0,.c (.int 0)],.op pIx [.v 2,.c (.int 1)]],.op z0b [.op z0b [.op pIx [.v 1,.c (.int 0)],.v 3],.op pIx [.v 0,.c (.int 2)]]]))
 (.seq (.set 5 (.op pAdd [.op z0b [.op pIx [.v 0,.c (.int 1)],.op pIx [.v 2,.c (.int 1)]],.op z0b [.op z0b [.op pIx [.v 1,.c (.int 1)],.v 3],.op pIx [.v 0,.c (.int 2)]]]))
 (.ret (.op z02 [.op pLst [.v 4,.v 5,.op z0b [.op pIx [.v 0,.c (.int 2)],.op pIx [.v 2,.c (.int 1)]]]])))))
def z0R:Fn:=Fn.mkN 2 2 (.ret (.op z02 [.op pLst [.op pAdd [.op z0b [.op pIx [.v 0,.c (.int 0)],.op pIx [.v 1,.c (.int 1)]],.op z0b [.op pIx [.v 1,.c (.int 0)],.op pIx [.v 0,.c (.int 1)]]],.op z0b [.op pIx [.v 0,.c (.int 1)],.op pIx [.v 1,.c (.int 1)]]]]))
def z0S:Fn:=Fn.mkN 2 7 (.seq (.set 2 (.op pTup [.c (.int 0),.c (.int 0),.c (.int 1)]))
 (.seq (.forr [.op pLen [.v 1]] (.nm 3) (.seq (.set 4 (.op pTup [.c (.int 0),.c (.int 1)]))
 (.seq (.for_ [] (.tp [5,6]) (.op pIx [.v 1,.v 3]) (.seq (.set 2 (.op z0B [.v 2,.op pIx [.op pIx [.op pIx [.v 0,.v 3],.c (.int 0)],.v 5],.v 6]))
 (.set 4 (.op z0R [.v 4,.v 6]))))
 (.set 2 (.op z0B [.v 2,.op pIx [.op pIx [.v 0,.v 3],.c (.int 1)],.v 4])))))
 (.ret (.v 2))))
def z1g:Fn:=Fn.mkN 2 6 (.seq (.set 2 (.op pNeg [.c (.int 1)]))
 (.seq (.set 3 (.op pTup [.c (.int 0),.c (.int 1)]))
 (.seq (.for_ [] (.tp [4,5]) (.v 1) (.seq (.ifs (.or (.op pLe [.v 4,.v 2]) (.or (.op pGeI [.v 4,.v 0]) (.or (.op pLt [.op pIx [.v 5,.c (.int 0)],.c (.int 1)]) (.or (.op pLt [.op pIx [.v 5,.c (.int 1)],.c (.int 1)]) (.op pNe [.op z02 [.op zbF [.v 5]],.v 5]))))) (.ret (.c .non)) .skip)
 (.seq (.set 2 (.v 4))
 (.set 3 (.op z0R [.v 3,.v 5])))))
 (.ret (.v 3)))))
def z0r:Fn:=Fn.mkN 3 4 (.seq (.ifs (.op pNe [.op pLen [.v 1],.op pLen [.v 0]]) (.ret (.c (.bl false))) .skip)
 (.seq (.forr [.op pLen [.v 1]] (.nm 3) (.ifs (.op pNe [.op z1g [.op pLen [.op pIx [.op pIx [.v 0,.v 3],.c (.int 0)]],.op pIx [.v 1,.v 3]],.op pTup [.c (.int 1),.c (.int 1)]]) (.ret (.c (.bl false))) .skip))
 (.ret (.op pEq [.op z0S [.v 0,.v 1],.v 2]))))
def z0D:Fn:=Fn.mkN 2 5 (.seq (.set 2 (.op pAdd [.op z0b [.c (.int 80),.op pAdd [.v 1,.c (.int 1)]],.c (.int 1)]))
 (.seq (.set 3 (.op pSub [.op pMod [.v 0,.v 2],.op z1u [.v 2,.c (.int 2)]]))
 (.seq (.set 4 (.op pSub [.op pMod [.op z1u [.v 0,.v 2],.v 2],.op z1u [.v 2,.c (.int 2)]]))
 (.ret (.op z02 [.op pLst [.v 3,.v 4,.op pAdd [.c (.int 1),.op pMod [.op z1u [.op z1u [.v 0,.v 2],.v 2],.c (.int 60)]]]])))))
def z1f:Fn:=Fn.mkN 3 9 (.seq (.set 3 (.op z00 [.v 0,.c (.int 31),.op pAdd [.v 2,.c (.int 1)]]))
 (.seq (.set 4 (.op z00 [.v 0,.c (.int 32),.v 1]))
 (.seq (.set 5 (.op z00 [.v 0,.c (.int 33),.v 1]))
 (.seq (.set 6 (.op z00 [.v 0,.c (.int 34),.v 1]))
 (.seq (.set 7 (.op z00 [.v 0,.c (.int 35),.op pAdd [.op pSub [.v 2,.v 3],.c (.int 1)]]))
 (.seq (.own 8 (.comp 1 [] (.nm 0) (.op z4U [.v 1]) none (.c (.int 0))))
 (.seq (.put 8 (.v 4) (.op pAdd [.op pIx [.v 8,.v 4],.v 3]))
 (.seq (.put 8 (.v 5) (.op pAdd [.op pIx [.v 8,.v 5],.v 7]))
 (.seq (.put 8 (.v 6) (.op pSub [.op pSub [.op pAdd [.op pIx [.v 8,.v 6],.v 2],.v 3],.v 7]))
 (.ret (.v 8)))))))))))
def z0h:Fn:=Fn.mkN 2 6 (.seq (.own 2 (.op pLst []))
 (.seq (.forr [.op pLen [.v 0]] (.nm 3) (.seq (.set 4 (.op pAdd [.c (.int 1),.op z00 [.v 1,.op pAdd [.c (.int 40),.v 3],.op pIx [.op pLst [.c (.int 1),.c (.int 6),.c (.int 60)],.op z00 [.v 1,.c (.int 39),.c (.int 3)]]]]))
 (.seq (.setx [] 5 (.op z1f [.op pAdd [.v 1,.op z0b [.c (.int 7),.v 3]],.op pLen [.op pIx [.op pIx [.v 0,.v 3],.c (.int 0)]],.v 4]))
 (.seq (.ifs (.op pEq [.op z00 [.op pAdd [.v 1,.v 3],.c (.int 38),.c (.int 4)],.c (.int 0)]) (.seq (.setx [] 5 (.comp 1 [1,3] (.nm 0) (.op z4U [.op pLen [.op pIx [.op pIx [.v 0,.v 3],.c (.int 0)]]]) none (.op pAdd [.c (.int 1),.op z00 [.op pAdd [.v 1,.v 2],.op pAdd [.c (.int 120),.v 0],.c (.int 5)]])))
 (.set 4 (.op pSum [.v 5]))) .skip)
 (.app 2 (.op z1Y [.comp 1 [4,5] (.nm 0) (.op z4U [.op pLen [.v 5]]) (some (.op pGt [.op pIx [.v 2,.v 0],.c (.int 0)])) (.op pTup [.v 0,.op z02 [.op pLst [.op pIx [.v 2,.v 0],.v 1]]])]))))))
 (.ret (.op z1Y [.v 2]))))
def z1s:Fn:=Fn.mkN 3 7 (.seq (.ifs (.op pEq [.op pMod [.v 1,.c (.int 2)],.c (.int 1)]) (.ret (.op z0D [.op z1u [.v 1,.c (.int 2)],.v 2])) .skip)
 (.seq (.set 3 (.op z0S [.v 0,.op z0h [.v 0,.v 1]]))
 (.seq (.set 4 (.op z00 [.v 1,.c (.int 61),.c (.int 6)]))
 (.seq (.ifs (.op pLt [.v 4,.c (.int 3)]) (.ret (.v 3)) .skip)
 (.seq (.set 5 (.op pIx [.op pLst [.c (.int 1),.op pAdd [.c (.int 1),.v 2],.op z0b [.c (.int 40),.op pAdd [.c (.int 1),.v 2]]],.op pSub [.v 4,.c (.int 3)]]))
 (.seq (.set 6 (.op pTup [.op pSub [.op z00 [.v 1,.c (.int 62),.op pAdd [.op z0b [.c (.int 2),.v 5],.c (.int 1)]],.v 5],.op pSub [.op z00 [.v 1,.c (.int 63),.op pAdd [.op z0b [.c (.int 2),.v 5],.c (.int 1)]],.v 5]]))
 (.ret (.op z0B [.v 3,.v 6,.op z02 [.op pLst [.c (.int 1),.op pAdd [.c (.int 1),.op z00 [.v 1,.c (.int 64),.c (.int 3)]]]]]))))))))
open Mth
def gl:Nat->List Int->Nat
 | g,[]=>g
 | g,x::l=>gl (Nat.gcd g x.natAbs) l
def zf4 {row:List Int}{Q:DK}{X:XP}(hz:row.length<=1000)(J:gl 0 row≠0)(L:Bt 9000 (gl 0 row:Int))(q:Q (.tup (row.map λx =>.int (x / (gl 0 row:Int))))):z02.run [.lst (row.map .int)] Q X:=by
 walk_at "fn";ac_nf;refine z0m (f :=.int) (λu i=>∃(g:Nat) (m o p:B),(∀b,row=u++b->gl 0 row=gl g b)/\i=[.s (.lst (row.map .int)),.s (.int (g:Int)),m,o,p]) ⟨0,_,_,_,λb e=>by rw[e];rfl,rfl⟩ ?_ ?_
 .rintro u x r i e ⟨g,m,o,p,hg,rfl⟩;show Sm.run _ _ _ _ _;ac_rfl;ac_nf;rw[zcT];refine z5i (λi=>∃(a s:Nat) (y:B),Nat.gcd a s=Nat.gcd g x.natAbs/\i=[.s (.lst (row.map .int)),.s (.int (a:Int)),.s (.int x),.s (.int (s:Int)),y]) (λi=>(nI i 3).toNat) ⟨g,x.natAbs,_,rfl,rfl⟩ ?_;rintro i ⟨a,s,y,j,rfl⟩;ac_nf;refine z0k (λz =>?_) (λz =>?_)
  .ac_nf;have C:(a:Int) % (s:Int)=((a % s:Nat):Int):=by simp
   refine⟨⟨s,a % s,_,by rw[<- j,jW a s,Nat.gcd_rec s a,jW],by rw[C]⟩,?_⟩;show ((a:Int) % (s:Int)).toNat<((s:Nat):Int).toNat
   rw[C];have:=jq a (show 0<s by lia);lia
  .have:s=0:=by lia
   subst this;rw[Nat.gcd_zero_right] at j;refine⟨a,_,_,_,λrest' w =>?_,rfl⟩;have:r=rest':=by
    rw[e,vz] at w;have:=List.append_cancel_left w;simpa using this
   rw[hg _ e, <- this,j]
   rfl
 rintro i ⟨g,m,o,p,hg,rfl⟩;have I:gl 0 row=g:=hg [] (by simp);rw[I] at J L q;ac_nf;refine⟨by rw[we];exact szl (by lia),?_⟩;refine z1o (g:=λx =>.int (x / (g:Int))) (λx _ K k =>?_) ?_
 .have:(0:Int)<(g:Int):=by lia
  ac_nf;exact k
 ac_nf;exact q
def gl2 (t b:Int):gl 0 [t,b]=Int.gcd t b:=by
 show Nat.gcd _ _=_;rw[Nat.gcd_zero_left]
 rfl
def z8J {t b:Int}{Q:DK}{X:XP}(d:0<b)(a:Bt 8000 b)(q:Q (.tup [.int (t / (Int.gcd t b:Int)),.int (b / (Int.gcd t b:Int))])):z02.run [.lst [.int t,.int b]] Q X:=by
 obtain⟨e,_,_,_,_⟩:=z42 (t:=t) d;refine zf4 (row:=[t,b]) (by show 2<=1000;decide) (by rw[gl2];lia) (by
  rw[gl2];exact Bt.le (a.of_abs (by
   have:=Nat.le_of_dvd (by lia) (Int.gcd_dvd_natAbs_right t b);lia))) ?_
 rw[gl2];exact q
def zf6 {t b:Int}{Q:DK}{X:XP}(a:0<b)(d:Bt 8000 b)(q:∀u w,Pl t 0 b u 0 w->Q (.tup [.int u,.int w])):z02.run [.lst [.int t,.int b]] Q X:=z8J a d (q _ _ (Pl.low a))
def zf5 {x y b:Int}{Q:DK}{X:XP}(a:0<b)(e:Bt 8000 b)(q:∀u v t,Pl x y b u v t->Q (.tup [.int u,.int v,.int t])):z02.run [.lst [.int x,.int y,.int b]] Q X:=by
 have d:((gl 0 [x,y,b]):Int)=g3 x y b:=by
  show ((Nat.gcd _ _:Nat):Int)=_;unfold g3;rw[z31,Nat.gcd_zero_left];rw[jW, <- Nat.gcd_assoc]
 have g:=zfg (x:=x) (y:=y) a;have h:=z9T (x:=x) (y:=y) a;have f:Bt 9000 _:=Bt.le (e.of_abs (by
  have:=uB.mpr (z5c x y b);exact Nat.le_of_dvd (by lia) this))
 refine zf4 (row:=[x,y,b]) (by show 3<=1000;decide) (by lia) (by rw[d];exact f) ?_;rw[d];exact q _ _ _ (Pl.of g)
def zbb {u v t a c:Int}{p:P}{Q:DK}{X:XP}(w:0<t)(r:0<c)(x:Bt 3000 u)(y:Bt 3000 v)(f:Bt 3000 t)(g:Bt 3000 a)(m:Bt 3000 c)(o:Vb 150 p)(q:∀i j t',Pl (u*c+p.1*a*t) (v*c+p.2*a*t) (t*c) i j t'->Q (.tup [.int i,.int j,.int t'])):z0B.run [.tup [.int u,.int v,.int t],vec p,.tup [.int a,.int c]] Q X:=by
 obtain⟨I,py⟩:=p;obtain⟨b,e⟩:=o;have z  := Bt.mul b g;have C  := Bt.mul e g;walk_at "fn";ac_nf;refine zf5 (vD w r) (Bt.le (Bt.mul f m)) q
def zf3 {a b c d:Int}{Q:DK}{X:XP}(g:0<b)(i:0<d)(j:Bt 3000 a)(e:Bt 3000 b)(m:Bt 3000 c)(f:Bt 3000 d)(q:∀u t,Pl (a*d+c*b) 0 (b*d) u 0 t->Q (.tup [.int u,.int t])):z0R.run [.tup [.int a,.int b],.tup [.int c,.int d]] Q X:=by
 walk_at "fn";ac_nf;refine zf6 (vD g i) (Bt.le (Bt.mul e f)) q
def wsh (ws:List Int):List Sh:=((List.range ws.length).filter λk=>decide (0<ws.getD k 0)).map λk=>(k,ws.getD k 0 / (Int.gcd (ws.getD k 0) ws.sum:Int),ws.sum / (Int.gcd (ws.getD k 0) ws.sum:Int))
theorem z5q:∀{l:List Int}{i:Nat}{d:Int},i<l.length->(l.set i (l.getD i 0+d)).sum=l.sum+d
 | [],i,d,h=>by simp at h
 | x::l,0,d,_=>by simp;lia
 | x::l,i+1,d,h=>by
  have:=z5q (d:=d) (by simpa using h);simp only[List.getD_cons_succ,List.set_cons_succ,vp];lia
def zeh {b:Type}{l:List b}{i:Nat}{a x:b}(h:x∈l.set i a):x∈l\/x=a:=by
 rcases List.mem_or_eq_of_mem_set h with z | z
 .exact .inl z
 .exact .inr z
def z9S {l:List Int}{i:Nat}(h:i<l.length):l.getD i 0∈l:=by
 simp_all
def z3V {n:Nat}{k:Int}(a:0<=k)(b:k<n):ixN n k=some k.toNat:=by
 unfold ixN
 simp_all
def z8u {ws:List Int}{k:Int}(a:0<=k)(b:k<ws.length):atI (ws.map D.int) k=some (.int (ws.getD k.toNat 0)):=by
 unfold atI;rw[we,z3V a b]
 simp_all
def z75 {k:Int}{Q:DK}{X:XP}(h : -(2 ^ 62)<=k)(a:k<2 ^ 62)(q:Q (.lst ((List.range k.toNat).map λ(j:Nat)=>D.int (j:Int)))):z4U.run [.int k] Q X:=⟨⟨h,a⟩,q⟩
def zg3 {c:Int}{n:Nat}{m:Int}{Q:DK}{X:XP}(hn:0<n)(Y:n<=100)(hm:0<m)(W:m<=100)(q:∀ts:List Int,ts.length=n->(∀t∈ts,0<=t)->ts.sum=m->Q (.lst (ts.map .int))):z1f.run [.int c,.int (n:Int),.int m] Q X:=by
 walk_at "fn";ac_nf;refine z0E (by decide) (by decide) (by lia) λcut O c1 =>?_;ac_nf;refine z0E (by decide) (by decide) (by lia) λa J L =>?_;ac_nf;refine z0E (by decide) (by decide) (by lia) λb M N =>?_;ac_nf;refine z0E (by decide) (by decide) (by lia) λe R U =>?_;ac_nf;refine z0E (by decide) (by decide) (by lia) λr r0 r1 =>?_;ac_nf;refine z75 (by lia) (by lia) ?_;ac_nf;rw[show ((n:Nat):Int).toNat=n by simp];refine⟨by rw[we,v8];exact szl (by lia),?_⟩;refine z1o (g:=λ_ =>.int 0) (λx _ K k =>?_) ?_
 .ac_nf;exact k
 rw[show (List.range n).map (λ_=>D.int 0)=((List.range n).map λ_=>(0:Int)).map .int by rw[wJ];rfl];obtain⟨ts,f,p,j,h3⟩:∃ts:List Int,ts=(List.range n).map (λ_=>(0:Int))/\ts.length=n/\(∀t∈ts,0<=t)/\ts.sum=0:=⟨_,rfl,by simp,λt u=>by(obtain⟨_,_,rfl⟩:=wj.mp u;decide),by
  have:∀l:List Nat,(l.map λ_=>(0:Int)).sum=0:=λl=>by
   induction l with
   | nil=>rfl
   | cons a l ih=>simp[ih]
  exact this _⟩
 rw[<- f];clear f;refine z2G (λx Z =>?_) ?_
 .obtain⟨w,_,rfl⟩:=wj.mp Z;exact Safe.of_noL rfl rfl _
 ac_rfl;have one:∀{ts:List Int}{k:Int}{d:Int},ts.length=n->(∀t∈ts,0<=t)->0<=k->k<n->0<=d->(ts.set k.toNat (ts.getD k.toNat 0+d)).length=n/\(∀t∈ts.set k.toNat (ts.getD k.toNat 0+d),0<=t)/\(ts.set k.toNat (ts.getD k.toNat 0+d)).sum=ts.sum+d:=λ{ts k d} p j k0 k1 hd=>by
  refine⟨by rw[List.length_set];exact p,λt u =>?_,z5q (by lia)⟩
  rcases zeh u with z | z
  .exact j t z
  .have:=j _ (z9S (l:=ts) (i:=k.toNat) (by lia));lia
 have s1:=one p j J L O;refine z3R (zg2 (z0w rfl ?_));ac_nf;refine z0T (z8u (by lia) (by lia)) ?_;ac_nf;rw[we,z3V (by lia) (by lia)];show Sm.run _ _ _ _ _;ac_rfl;rw[<- List.map_set];generalize ts.set a.toNat (ts.getD a.toNat 0+cut)=I at*;obtain⟨p1,p2,p3⟩:=s1;have s2:=one p1 p2 M N r0;refine z3R (zg2 (z0w rfl ?_));ac_nf;refine z0T (z8u (by lia) (by lia)) ?_;ac_nf;rw[we,z3V (by lia) (by lia)];show Sm.run _ _ _ _ _;ac_rfl;rw[<- List.map_set];generalize I.set b.toNat (I.getD b.toNat 0+r)=o at*;obtain⟨q1,q2,q3⟩:=s2;have s3:=one q1 q2 R U (show 0<=m - cut - r by lia);refine z3R (zg2 (z0w rfl ?_));ac_nf;refine z0T (z8u (by lia) (by lia)) ?_;ac_nf;rw[we,z3V (by lia) (by lia)];show Sm.run _ _ _ _ _;ac_rfl;rw[<- List.map_set,show o.getD e.toNat 0+m - cut - r=o.getD e.toNat 0+(m - cut - r) by lia];generalize o.set e.toNat (o.getD e.toNat 0+(m - cut - r))=t3 at*;obtain⟨y,C,a2⟩:=s3;ac_nf;exact q t3 y C (by lia)
abbrev shsD (sh:List Sh):D :=.tup (sh.map shD)
theorem zfx:∀{ws:List Int},(∀w∈ws,0<=w)->∀w∈ws,w<=ws.sum
 | [],_,w,h=>by cases h
 | x::ws,h,w,f=>by
  have e:=zfx (ws:=ws) λy b=>h y (by simp[b]);have d:=h x (by simp);have hs  := by
   have:∀(l:List Int),(∀w∈l,0<=w)->0<=l.sum:=λl=>by
    induction l with
    | nil=>intro _;simp
    | cons a l e=>
     intro k;have:=e λx d=>k x (by simp[d]);have:=k a (by simp);rw[vp];lia
   exact this ws λy b=>h y (by simp[b])
  rw[vp]
  grind
def zkq (l:List Sh):noL (shsD l)=true:=z1O λd a=>by(obtain⟨x,_,rfl⟩:=wj.mp a;rfl)
def zkr (l:List Sh):noD (shsD l)=true:=z1P λd a=>by(obtain⟨x,_,rfl⟩:=wj.mp a;rfl)
def zeI {ts:List Int}{Q:DK}{X:XP}{a:Pu.Env}{m:Int}(x:a.get 4=some (.int m))(o:a.get 5=some (.lst (ts.map .int)))(i:a[4]? = some (.s (.int m)))(l:a[5]? = some (.s (.lst (ts.map .int))))(y:ts.length<=100)(hs:ts.sum=m)(r:0<m)(t:m<1000)(q:Q (shsD (wsh ts))):
  Ex.run (.op z1Y [(.comp 1 [4,5] (.nm 0) (.op z4U [(.op pLen [(.v 5)])]) (some (.op pGt [(.op pIx [(.v 2),(.v 0)]),(.c (.int 0))])) (.op pTup [(.v 0),(.op z02 [(.op pLst [(.op pIx [(.v 2),(.v 0)]),(.v 1)])])]))]) a Q X:=by
 refine zeC (zfB (zeC (zeC (e_v ?_))));rw[o];refine z9H ?_;ac_nf;rw[we];refine z75 (by lia) (by lia) ?_;rw[show ((ts.length:Nat):Int).toNat=ts.length by simp];ac_nf;refine⟨by rw[we,v8];exact szl (by lia),?_⟩;rw[show z16 1 [4,5] a=[.n,.s (.int m),.s (.lst (ts.map .int))] by unfold z16;simp[i,l]];refine z2E (f:=λ(j:Nat)=>D.int (j:Int)) (p:=λk=>decide (0<ts.getD k 0)) (g:=λk=>shD (k,ts.getD k 0 / (Int.gcd (ts.getD k 0) ts.sum:Int),ts.sum / (Int.gcd (ts.getD k 0) ts.sum:Int))) (λk d K u w =>?_) ?_
 .have h:k<ts.length:=ub.mp d;ac_nf;refine z0T (z8u (by lia) (by lia)) ?_;rw[show ((k:Nat):Int).toNat=k by simp];ac_nf;refine z0k (λb =>?_) (λb =>?_)
  .ac_nf;refine z0T (z8u (by lia) (by lia)) ?_;rw[show ((k:Nat):Int).toNat=k by simp];ac_nf;refine z8J r (Bt.le (m:=10) (z08 (by lia))) ?_;ac_nf;rw[<- hs];exact u (wE b)
  .exact w (w9 b)
 ac_nf;rw[show ∀e:List Nat,e.map (λk=>shD (k,ts.getD k 0 / (Int.gcd (ts.getD k 0) ts.sum:Int),ts.sum / (Int.gcd (ts.getD k 0) ts.sum:Int)))=(e.map λk=>((k,ts.getD k 0 / (Int.gcd (ts.getD k 0) ts.sum:Int),ts.sum / (Int.gcd (ts.getD k 0) ts.sum:Int)):Sh)).map shD from λe=>by rw[wJ];rfl];exact q
theorem z9k {d e:Type}{x:d}{y:e}:∀{m:List e}{l:List d},l[m.length]? = some x->l.zip (m++[y])=l.zip m++[(x,y)]
 | [],l,h=>by
  cases l with
  | nil=>simp at h
  | cons a l=>simp_all
 | b::m,l,h=>by
  cases l with
  | nil=>simp at h
  | cons a l=>
   have:=z9k (y:=y) (by simpa using h)
   simp_all
def Pl.more {x y W u v t a c p vx vy b f t':Int}(j:0<c)(h:Pl x y W u v t)(e:a*W=p*c)(s:Pl (u*c+vx*a*t) (v*c+vy*a*t) (t*c) b f t'):Pl (x+vx*p) (y+vy*p) W b f t':=by
 have l:t*c≠0:=by have:=vD h.pos j;lia
 have d:∀{b u x vx:Int},b*(t*c)=(u*c+vx*a*t)*t'->u*W=x*t->b*W=(x+vx*p)*t':=λ{b u x vx} g i=>by
  apply vj l
  calc b*W*(t*c)=(b*(t*c))*W:=by grind
   _=((u*W)*c+vx*(a*W)*t)*t':=by rw[g];grind
   _=(x+vx*p)*t'*(t*c):=by rw[i,e];grind
 exact⟨s.pos,s.cop,d s.cx h.cx,d s.cy h.cy⟩
structure Sw (W:Int)(n:Nat)(s:Sh):Prop where
 top:0<s.2.1
 bot:0<s.2.2
 le:s.2.1<=2*s.2.2
 dv:s.2.2 ∣ W
 ix:s.1<n
def pt (W:Int)(s:Sh):Int:=s.2.1*(W / s.2.2)
def z6K {W:Int}{s:Sh}(h:s.2.2 ∣ W):s.2.1*W=pt W s*s.2.2:=by unfold pt;rw[uI,Int.ediv_mul_cancel h]
def Sw.pt_le {W:Int}{n:Nat}{s:Sh}(h:Sw W n s)(a:0<W):0<pt W s/\pt W s<=2*W:=by
 have e:=Int.ediv_mul_cancel h.dv;have b  := Int.ediv_pos_of_pos_of_dvd a (vq h.bot) h.dv;unfold pt;generalize W / s.2.2=k at*;refine⟨vD h.top b,?_⟩;rw[<- e,vN k, <- uI];exact vR h.le (by lia)
def Sw.mul {W m:Int}{n:Nat}{s:Sh}(h:Sw W n s):Sw (W*m) n s:=⟨h.top,h.bot,h.le,jG h.dv (Int.dvd_mul_right _ _),h.ix⟩
def bt2 {k:Nat}{W:Int}(b:Bt k W):Bt (k+1) (W+W):=Bt.le (Bt.add b b) (by lia)
def Sw.bits {W:Int}{n k:Nat}{s:Sh}(h:Sw W n s)(a:0<W)(b:Bt k W):Bt (k+1) s.2.1/\Bt k s.2.2:=by
 have:=h.top;have:=h.bot;have:=h.le;have:=Int.le_of_dvd a h.dv;exact⟨(bt2 b).of_abs (by lia),b.of_abs (by lia)⟩
def sw (w:Nat->Int)(W:Int)(l:List Sh):Int:=(l.map λs=>w s.1*pt W s).sum
def z3f {w:Nat->Int}{W:Int}(l:List Sh)(s:Sh):sw w W (l++[s])=sw w W l+w s.1*pt W s:=by simp[sw]
theorem z77 {m:Nat}:∀{l:List Int},(∀x∈l,Bt m x)->Bt (m+l.length) l.sum
 | [],_=>Bt.le (m:=0) (z08 (by decide)) (by lia)
 | x::l,h=>by
  exact Bt.le (Bt.add (h x (by simp)) (z77 λy a=>h y (by simp[a]))) (by simp;lia)
def z5o {w:Nat->Int}{W:Int}{n k m:Nat}{l:List Sh}(f:l.length<=14)(a:0<W)(b:Bt k W)(h:∀s∈l,Sw W n s)(d:∀i,Bt m (w i)):Bt (m+k+15) (sw w W l):=by
 refine Bt.le (z77 (m:=m+k+1) λx e =>?_) (by rw[we];lia);obtain⟨s,hs,rfl⟩:=wj.mp e;have:=(h s hs).pt_le a;exact Bt.le (Bt.mul (d _) ((bt2 b).of_abs (by lia))) (by lia)
def cX (W:Int)(p:(List P × P) × List Sh):Int:=sw (wx p.1.1) W p.2+p.1.2.1*sw (λ_=>1) W p.2
def cY (W:Int)(p:(List P × P) × List Sh):Int:=sw (wy p.1.1) W p.2+p.1.2.2*sw (λ_=>1) W p.2
structure Crs (W:Int)(ws:List (List P × P))(co:List (List Sh)):Prop where
 len:co.length=ws.length
 ok:∀p∈ws.zip co,p.2.length<=14/\∀s∈p.2,Sw W p.1.1.length s
def zcP {n:Nat}:Bt (n+1) 1:=Bt.le (m:=1) (z08 (by decide)) (by lia)
def cyb {n:Nat}{l:List P}(h:l≠[])(a:Wb n l)(k:Nat):Vb n (Geo.cy l k):=a _ (wD (z1k (ve.mpr h)))
def zmA {W:Int}{k:Nat}{p:(List P × P) × List Sh}(d:0<W)(b:Bt k W)(a:Wt4 p.1)(e:p.2.length<=14)(h:∀s∈p.2,Sw W p.1.1.length s):Bt (k+160) (cX W p)/\Bt (k+160) (cY W p):=by
 have f:=z5o (m:=1) e d b h λ_=>zcP;exact⟨Bt.le (Bt.add (z5o e d b h λi=>(cyb a.ne a.wb i).1) (Bt.mul a.vb.1 f)) (by lia),Bt.le (Bt.add (z5o e d b h λi=>(cyb a.ne a.wb i).2) (Bt.mul a.vb.2 f)) (by lia)⟩
def z8F {W:Int}{k n:Nat}{ws:List (List P × P)}{d:List (List Sh)}(i:∀x∈ws,Wt4 x)(hz:ws.length<=12)(h:0<W)(b:Bt k W)(g:Crs W ws d):Bt (k+180) (((ws.zip d).take n).map (cX W)).sum/\Bt (k+180) (((ws.zip d).take n).map (cY W)).sum:=by
 have j:((ws.zip d).take n).length<=12:=by grind
 have f:∀p∈(ws.zip d).take n,Bt _ _/\Bt _ _:=λp a=>by
  have a:=uH a;exact zmA h b (i _ (uz a).1) (g.ok p a).1 (g.ok p a).2
 constructor
 .refine Bt.le (z77 (m:=k+160) λx e =>?_) (by rw[we];lia);obtain⟨p,a,rfl⟩:=wj.mp e;exact(f p a).1
 .refine Bt.le (z77 (m:=k+160) λx e =>?_) (by rw[we];lia);obtain⟨p,a,rfl⟩:=wj.mp e;exact(f p a).2
def zhH {ts:List Int}(n:∀t∈ts,0<=t)(hs:0<ts.sum):(wsh ts≠[]/\(wsh ts).length<=ts.length)/\∀s∈wsh ts,Sw ts.sum ts.length s/\s.2.1<=s.2.2:=by
 refine⟨⟨λz =>?_,by unfold wsh;rw[we];exact wM (List.length_filter_le _ _) (by simp)⟩,λs j =>?_⟩
 .have no:=List.map_eq_nil_iff.mp z;rw[List.filter_eq_nil_iff] at no;have:ts.sum=0:=by
   have e:∀l:List Int,(∀t∈l,0<=t)->(∀t∈l,¬ 0<t)->l.sum=0:=λl=>by
    induction l with
    | nil=>intros;rfl
    | cons a l u=>
     intro p q;have:=p a (by simp);have:=q a (by simp);rw[vp,u (λt h=>p t (by simp[h])) (λt h=>q t (by simp[h]))];lia
   refine e ts n λt h =>?_;obtain⟨k,i,rfl⟩:=jV h;have:=no k (ub.mpr i);rw[uq,wt i] at this;simpa using this
  lia
 obtain⟨k,i,rfl⟩:=wj.mp j;obtain⟨b,f⟩:=List.mem_filter.mp i;have b:=ub.mp b;have f:=uj f;have d:=zfx n _ (z9S b);obtain⟨m,w,r,x,y⟩:=z42 (t:=ts.getD k 0) hs;generalize (Int.gcd (ts.getD k 0) ts.sum:Int)=g at*;have d:=Int.ediv_le_ediv m d;have o:0<ts.sum / g:=by lia
 refine⟨⟨?_,o,by show ts.getD k 0 / g<=2*(ts.sum / g);lia,⟨g,?_⟩,b⟩,d⟩
 .show 0<ts.getD k 0 / g
  rcases v6 0 (ts.getD k 0 / g) with z | z
  .exact z
  .have:=vf (vq m) z;lia
 .show ts.sum=ts.sum / g*g;rw[vN];exact r
def Pl.eq0 {x p W u t:Int}(h:Pl (x+1*p) (0+0*p) W u 0 t):Pl (x+1*p) 0 W u 0 t:=by simpa using h
def z9u {ws:List (List P × P)}{c:Int}{Q:DK}{X:XP}(hw:∀x∈ws,Wt4 x)(hz:ws.length<=12)(q:∀w W,0<W->Bt 85 W->Crs W ws w->(∀p∈ws.zip w,p.2≠[]/\p.2.length<=12/\∀s∈p.2,s.2.1<=s.2.2)->Q (.tup (w.map shsD))):z0h.run [.tup (ws.map wtD),.int c] Q X:=by
 walk_at "fn";ac_nf;refine z2G (λx hx=>by cases hx) ?_;ac_rfl;ac_nf;rw[we];refine z9x (by lia) (by lia) ?_;rw[show ((ws.length:Nat):Int).toNat=ws.length by simp];refine z0m (f:=λ(j:Nat)=>D.int (j:Int)) (λJ Z=>∃(w:List (List Sh)) (x3 x4 x5:B),w.length=J.length/\(∃W,0<W/\Bt (1+7*J.length) W/\∀p∈ws.zip w,(p.2≠[]/\p.2.length<=12)/\∀s∈p.2,Sw W p.1.1.length s/\s.2.1<=s.2.2)/\Z=[.s (.tup (ws.map wtD)),.s (.int c),.o (.lst (w.map shsD)),x3,x4,x5]) ⟨[],_,_,_,rfl,⟨1,by decide,z08 (by decide),λp C=>by(simp at C)⟩,rfl⟩ ?_ ?_
 .rintro J k r Z e ⟨w,x3,x4,x5,U,⟨W,W0,O,u⟩,rfl⟩;have hk:k=J.length/\k<ws.length:=by
   have h4:=congrArg List.length e;have h5:(List.range ws.length)[J.length]? = some k:=by rw[e];simp
   rw[List.getElem?_range (by simp at h4;lia)] at h5;simp at h4 h5;lia
  obtain⟨x,hx,ex⟩:=z3W (xs:=ws) (i:=(k:Int)) (by lia) (by lia);obtain⟨wb,ne,len,vb⟩:=hw x hx;have C:=ve.mpr ne;show Sm.run _ _ _ _ _;ac_rfl;ac_nf;refine z0E (by decide) (by decide) (by decide) λr0 a3 a4 =>?_;ac_nf;refine menu (ns:=[1,6,60]) a3 (by show r0<3;exact a4) λm hm =>?_;have a1:0<m/\m<=60:=by
   simp only[wm,wz,vK] at hm;lia
  clear hm;refine z0E (by lia) (by lia) a1.1 λb b0 b1 =>?_;ac_nf;ac_rfl;ac_nf;refine z0T (z0s ex) ?_;ac_nf;rw[we];refine zg3 C (by lia) (by lia) (by lia) λts h1 h2 R =>?_;ac_rfl;refine zdn (λa5=>∃(ts:List Int) (m:Int),ts.length=x.1.length/\(∀t∈ts,0<=t)/\ts.sum=m/\0<m/\m<=60/\a5=[.s (.tup (ws.map wtD)),.s (.int c),.o (.lst (w.map shsD)),.s (.int (k:Int)),.s (.int m),.s (.lst (ts.map .int))]) ?_ ?_
  .ac_nf;refine z0E (by decide) (by decide) (by decide) λr1 a6 a7 =>?_;ac_nf;refine z0k (λ_ =>?_) (λ_ =>?_)
   .ac_nf;ac_rfl;ac_nf;refine z0T (z0s ex) ?_;ac_nf;rw[we];refine z75 (by lia) (by lia) ?_;rw[show ((x.1.length:Nat):Int).toNat=x.1.length by simp];ac_nf;refine⟨by rw[we,v8];exact szl (by lia),?_⟩;refine z4w (f:=λ(j:Nat)=>D.int (j:Int)) (g:=D.int) (P:=λ_ y=>1<=y/\y<=5) (λj hj K hK =>?_) λY I M =>?_
    .have:=ub.mp hj;ac_nf;refine z0E (by lia) (by lia) (by decide) λv v0 v1 =>?_;ac_nf;exact hK _ ⟨by lia,by lia⟩
    ac_rfl;ac_nf;refine zka ?_;have N:∀y∈Y,1<=y/\y<=5:=λy a2=>(M y a2).choose_spec.2;have I:Y.length=x.1.length:=by rw[I,v8]
    have bd:∀l:List Int,(∀y∈l,1<=y/\y<=5)->(l.length:Int)<=l.sum/\l.sum<=5*(l.length:Int):=λl=>by
     induction l with
     | nil=>intro _;simp
     | cons a l ih=>
      intro h;have:=ih λy M=>h y (by simp[M]);have:=h a (by simp);rw[vp,wQ];lia
    have:=bd Y N;ac_nf;exact⟨Y,_,I,λy M=>by have:=N y M;lia,rfl,by lia,by lia,rfl⟩
   .ac_nf;exact⟨ts,_,h1,h2,R,by lia,by lia,rfl⟩
  rintro Z ⟨ts,m,h1,h2,R,m0,m1,rfl⟩;refine z4g (l:=[]) (z0w rfl ?_);refine zeI rfl rfl rfl rfl (by lia) R m0 (by lia) ?_;refine⟨by rw[we];exact szl' (by lia),Safe.of_noL (zkq _) (zkr _) _,?_⟩;ac_rfl;refine⟨w++[wsh ts],_,_,_,by simp[U],⟨W*m,vD W0 m0,Bt.le (Bt.mul O (z08 (n:=6) (by lia))) (by simp;lia),λp L =>?_⟩,by rw[wA];rfl⟩;have ok:=zhH h2 (by lia);rw[h1,R] at ok;have a0:ws[w.length]? = some x:=by
   unfold atI at ex;rw[z3V (by lia) (by lia)] at ex;have ex:ws[((k:Nat):Int).toNat]? = some x:=ex;rw[show ((k:Nat):Int).toNat=w.length by lia] at ex;exact ex
  rw[z9k a0] at L
  rcases wG.mp L with z | z
  .exact⟨(u p z).1,λs hs=>⟨((u p z).2 s hs).1.mul,((u p z).2 s hs).2⟩⟩
  .rw[wo.mp z];refine⟨⟨ok.1.1,by have:=ok.1.2;show (wsh ts).length<=12;lia⟩,λs hs=>⟨?_,(ok.2 s hs).2⟩⟩;rw[vN];exact(ok.2 s hs).1.mul
 rintro Z ⟨w,x3,x4,x5,U,⟨W,W0,O,u⟩,rfl⟩;ac_nf;rw[v8] at U O;exact q w W W0 (O.le (by lia)) ⟨U,λp C=>⟨by have:=(u p C).1.2;lia,λs hs=>((u p C).2 s hs).1⟩⟩ λp C=>⟨(u p C).1.1,(u p C).1.2,λs hs=>((u p C).2 s hs).2⟩
def zeU {f g:Type}{l:List f}{m:List g}(h:m.length=l.length){a:List Nat}{k:Nat}{r:List Nat}(e:List.range m.length=a++k::r):∃x y,k=a.length/\atI l (k:Int)=some x/\atI m (k:Int)=some y/\(l.zip m)[k]? = some (x,y):=by
 have b:=congrArg List.length e;have d:(List.range m.length)[a.length]? = some k:=by rw[e];simp
 rw[List.getElem?_range (by simp at b;lia)] at d;simp at b d;have i:k<m.length:=by lia
 refine⟨l[k],m[k],by lia,?_,?_,?_⟩
 .unfold atI;rw[z3V (by lia) (by lia)]
  simp_all
 .unfold atI;rw[z3V (by lia) (by lia)]
  simp_all
 .rw[wt (by grind),List.getElem_zip]
def zin {ws:List (List P × P)}{g:List (List Sh)}{W:Int}{Q:DK}{X:XP}(hw:∀x∈ws,Wt4 x)(hz:ws.length<=12)(Y:0<W)(M:Bt 1500 W)(hc:Crs W ws g)(q:∀u v t,Pl ((ws.zip g).map (cX W)).sum ((ws.zip g).map (cY W)).sum W u v t->Q (.tup [.int u,.int v,.int t])):z0S.run [.tup (ws.map wtD),.tup (g.map shsD)] Q X:=by
 have hl:=hc.len;have a3:(ws.zip g).length=ws.length:=by rw[u8];lia
 have zero:Pl 0 0 W 0 0 1:=⟨by decide,by decide,by simp,by simp⟩
 walk_at "fn";ac_nf;rw[we];refine z9x (by lia) (by lia) ?_;rw[show ((g.length:Nat):Int).toNat=g.length by simp];refine z0m (f:=λ(j:Nat)=>D.int (j:Int)) (λJ ρ=>∃(u v t:Int) (x3 x4 x5 x6:B),Pl (((ws.zip g).take J.length).map (cX W)).sum (((ws.zip g).take J.length).map (cY W)).sum W u v t/\ρ=[.s (.tup (ws.map wtD)),.s (.tup (g.map shsD)),.s (.tup [.int u,.int v,.int t]),x3,x4,x5,x6]) ⟨0,0,1,_,_,_,_,zero,rfl⟩ ?_ ?_
 .rintro J k r ρ e ⟨u,v,t,x3,x4,x5,x6,o,rfl⟩;obtain⟨x,sh,ek,e1,e2,e3⟩:=zeU hl e;have hm:=wD e3;have z:Wt4 x:=hw x (uz hm).1;obtain⟨K,hs⟩:=hc.ok _ hm;dsimp only at K hs;obtain⟨bA,bB⟩:=z8F (n:=J.length) hw hz Y M hc;have nx:(ws.zip g).take (J++[k]).length=(ws.zip g).take J.length++[(x,sh)]:=by rw[wC,v4,List.take_succ, <- ek,e3];rfl
  rw[nx,wA,uM,wA,uM];generalize (((ws.zip g).take J.length).map (cX W)).sum=A at o bA ⊢;generalize (((ws.zip g).take J.length).map (cY W)).sum=C at o bB ⊢;have bits:∀l:List Sh,(∀s∈l,s∈sh)->l.length<=14->∀{u v t a b:Int},Pl (A+sw (wx x.1) W l) (C+sw (wy x.1) W l) W u v t->Pl (sw (λ_=>1) W l) 0 W a 0 b->Bt 1500 t/\Bt 1700 u/\Bt 1700 v/\Bt 1500 b/\Bt 1520 a:=λl hl U {u v t a b} h1 h2=>by
   have Z:∀s∈l,Sw W x.1.length s:=λs h=>hs s (hl s h);obtain⟨c1,c2,c3⟩:=h1.bt (n:=1500) (m:=1700) Y M (Bt.le (Bt.add bA (z5o U Y M Z λi=>(cyb z.ne z.wb i).1))) (Bt.le (Bt.add bB (z5o U Y M Z λi=>(cyb z.ne z.wb i).2)));obtain⟨c4,c5,_⟩:=h2.bt (n:=1500) (m:=1520) Y M (Bt.le (z5o (w:=λ_=>1) (m:=1) U Y M Z λ_=>zcP)) (Bt.le (m:=0) (z08 (by decide)));exact⟨c1,c2,c3,c4,c5⟩
  show Sm.run _ _ _ _ _;ac_rfl;ac_nf;refine z0T (z0s e2) ?_;ac_nf;refine z0m (f:=shD) (λp ρ=>∃(u v t a b:Int) (x5 x6:B),Pl (A+sw (wx x.1) W p) (C+sw (wy x.1) W p) W u v t/\Pl (sw (λ_=>1) W p) 0 W a 0 b/\ρ=[.s (.tup (ws.map wtD)),.s (.tup (g.map shsD)),.s (.tup [.int u,.int v,.int t]),.s (.int (k:Int)),.s (.tup [.int a,.int b]),x5,x6]) ⟨u,v,t,0,1,_,_,by simpa[sw] using o,zero,rfl⟩ ?_ ?_
  .rintro p s r' ρ e' ⟨u,v,t,a,b,x5,x6,o,L,rfl⟩;have y:=hs s (by rw[e'];simp);have I:=y.bot;obtain⟨a0,a1⟩:=y.bits Y M;have a2:p.length<=14:=by have:=congrArg List.length e';simp at this;lia
   obtain⟨R,bu,bv,O,N⟩:=bits p (λs h=>by rw[e'];simp[h]) a2 o L;refine⟨rfl,?_⟩;show Sm.run _ _ _ _ _;unfold z0c z0c z0c;ac_rfl;ac_nf;refine z0T (z0s e1) ?_;ac_nf;refine z0T (z0s (z8h y.ix)) ?_;ac_nf;refine zbb o.pos I bu.le bv.le R.le a0.le a1.le ⟨(cyb z.ne z.wb s.1).1.le,(cyb z.ne z.wb s.1).2.le⟩ λu' v' t' h' =>?_;refine z0j (Safe.of_noL rfl rfl _) ?_;ac_rfl;ac_nf;refine zf3 L.pos I N.le O.le a0.le a1.le λa' b' h2 =>?_;refine z0j (Safe.of_noL rfl rfl _) ?_;ac_rfl;refine⟨u',v',t',a',b',_,_,?_,?_,rfl⟩
   .rw[z3f,z3f, <- Int.add_assoc, <- Int.add_assoc];exact o.more I (z6K y.dv) h'
   .rw[z3f];exact(L.more (vx:=1) (vy:=0) I (z6K y.dv) (by simpa using h2)).eq0
  rintro ρ ⟨u,v,t,a,b,x5,x6,o,L,rfl⟩;obtain⟨R,bu,bv,O,N⟩:=bits sh (λs h=>h) K o L;ac_nf;refine z0T (z0s e1) ?_;ac_nf;refine zbb o.pos L.pos bu.le bv.le R.le N.le O.le ⟨z.vb.1.le,z.vb.2.le⟩ λu' v' t' h' =>?_;refine z0j (Safe.of_noL rfl rfl _) ?_;ac_rfl;refine⟨u',v',t',_,_,_,_,?_,rfl⟩;have:=o.more L.pos L.cx h';simpa[cX,cY,Int.add_assoc] using this
 rintro ρ ⟨u,v,t,x3,x4,x5,x6,o,rfl⟩;rw[v8,vL (by lia)] at o;ac_nf;exact q u v t o
def z7G {c m:Int}{Q:DK}{X:XP}(C:0<m)(I:m<=10000000000000000000000000000000000000000)(q:∀u v t,Pc u v t->Q (.tup [.int u,.int v,.int t])):z0D.run [.int c,.int m] Q X:=by
 have p:Bt 135 (m+1):=z08 (by lia);walk_at "fn";ac_nf;obtain⟨w,b,e,J⟩:∃w,w=80*(m+1)+1/\0<w/\w<100000000000000000000000000000000000000000000:=⟨_,rfl,by lia,by lia⟩
 rw[<- b];clear b;have r:Bt 9000 w:=Bt.le (m:=150) (z08 (by lia));ac_nf;have f:=j3 c (show w≠0 by lia);have g:=jv c e;have i:=j3 (c / w) (show w≠0 by lia);have j:=jv (c / w) e;have o:0<=c / w / w % 60/\c / w / w % 60<60:=by lia
 generalize c % w=x at*;generalize c / w % w=y at*;generalize c / w / w % 60=z at*;refine zf5 (by lia) (Bt.le (m:=10) (z08 (by lia))) λu v t h =>?_;exact q u v t (h.pc (by lia) (Bt.le (m:=10) (z08 (by lia))) (Bt.le (m:=150) (z08 (by lia))) (Bt.le (m:=150) (z08 (by lia))))
def zim {ws:List (List P × P)}{c m:Int}{Q:DK}{X:XP}(I:∀x∈ws,Wt4 x)(hz:ws.length<=12)(R:0<m)(U:m<=10000000000000000000000000000000000000000)(q:∀u v t,Pc u v t->Q (.tup [.int u,.int v,.int t])):z1s.run [.tup (ws.map wtD),.int c,.int m] Q X:=by
 have bm:Bt 135 (1+m):=z08 (by lia);walk_at "fn";ac_nf;refine z0k (λ_ =>?_) (λ_ =>?_)
 .ac_nf;exact z7G R U q
 ac_nf;refine z9u I hz λco W g j M _ =>?_;obtain⟨w,C⟩:=z8F (n:=100) I hz g j M;rw[vL (by rw[u8];lia)] at w C;refine zin I hz g j.le M λu v t N =>?_;refine z0j (Safe.of_noL rfl rfl _) ?_;ac_rfl;have J:Pc u v t:=N.pc g j.le w.le C.le;obtain⟨e,K,L⟩:=N.bt g j w C;ac_nf;refine z0E (by decide) (by decide) (by decide) λr r0 r1 =>?_;ac_nf;refine z0k (λ_ =>?_) (λhr =>?_)
 .ac_nf;exact q u v t J
 ac_nf;refine menu (ns:=[1,1+m,40*(1+m)]) (by lia) (by show r - 3<3;lia) λs hs =>?_;have Y:0<s/\s<=10000000000000000000000000000000000000000000:=by
  simp only[wm,wz,vK] at hs;lia
 clear hs;have bs:Bt 145 s:=z08 (by lia);ac_nf;refine z0E (by decide) (by decide) (by lia) λx x0 x1 =>?_;ac_nf;refine z0E (by decide) (by decide) (by lia) λy y0 y1 =>?_;ac_nf;refine z0E (by decide) (by decide) (by decide) λz z0 z1 =>?_;ac_nf;refine zf6 (by lia) (Bt.le (m:=10) (z08 (by lia))) λa b f =>?_;obtain⟨i,o,_⟩:=f.bt (n:=10) (m:=10) (by lia) (z08 (by lia)) (z08 (by decide)) (z08 (by decide));have vs:Vb 149 (x - s,y - s):=⟨z08 (by show (x - s).natAbs<2 ^ 149;lia),z08 (by show (y - s).natAbs<2 ^ 149;lia)⟩
 refine zbb (p:=(x - s,y - s)) J.pos f.pos K.le L.le e.le o.le i.le ⟨vs.1.le,vs.2.le⟩ λu' v' Z O =>?_;refine q u' v' Z (O.pc (vD J.pos f.pos) (Bt.le (Bt.mul e i)) (Bt.le (Bt.add (Bt.mul K i) (Bt.mul (Bt.mul vs.1 o) e))) (Bt.le (Bt.add (Bt.mul L i) (Bt.mul (Bt.mul vs.2 o) e))))
structure Gd (W:Int)(n:Nat)(sh:List Sh):Prop where
 each:∀s∈sh,Sw W n s/\Int.gcd s.2.1 s.2.2=1
 up:sh.Pairwise (λa b=>a.1<b.1)
 few:sh.length<=3
def z8I {l:List P}{xs:List (P × Int)}{Q:DK}{X:XP}(u:∀x∈xs,x.1∈l)(hz:l.length<=62)(nd:(xs.map (·.1)).Nodup)(h3:xs.length<=3)(h0:∀x∈xs,0<=x.2)(O:0<(xs.map (·.2)).sum)(bW:Bt 1400 (xs.map (·.2)).sum)
  (q:∀sh,Gd (xs.map (·.2)).sum l.length sh->(∀(w:Nat->Int) (f:P->Int),(∀k,w k=f (Geo.cy l k))->sw w (xs.map (·.2)).sum sh=(xs.map λx=>f x.1*x.2).sum)->Q (.tup (sh.map shD))):z0Q.run [vecs l,vecs (xs.map (·.1)),.tup ((xs.map (·.2)).map .int)] Q X:=by
 walk_at "fe";ac_nf;refine⟨_,rfl,?_⟩;generalize eW:(xs.map (·.2)).sum=W at*;ac_nf;refine zk7 ?_;rw[wJ,wJ,List.zip_map',wJ];ac_nf;refine⟨by rw[we];exact szl' (by lia),?_⟩;refine z2E (f:=λx:P × Int=>D.tup [vec x.1,.int x.2]) (p:=λx=>decide (0<x.2)) (g:=λx=>pdD (rwOf l W x)) (λx i K k1 k2 =>?_) ?_
 .refine⟨rfl,?_⟩;show Ex.run _ _ _ _;unfold z0c z0c z0c;ac_rfl;ac_nf;refine z0k (λz =>?_) (λz =>?_)
  .ac_nf;refine zgY (u x i) ?_;ac_nf;refine zdl O bW ?_;ac_nf;exact k1 (wE z)
  .exact k2 (w9 z)
 generalize I:(xs.filter λx=>decide (0<x.2))=F;have J:∀x∈F,x∈xs/\0<x.2:=λx i=>by
  rw[<- I] at i;obtain⟨h1,h2⟩:=List.mem_filter.mp i;exact⟨h1,uj h2⟩
 have lF:F.length<=3:=by
  rw[<- I];exact wM (List.length_filter_le _ _) h3
 rw[show (F.map λx=>pdD (rwOf l W x))=(F.map (rwOf l W)).map pdD by rw[wJ];rfl];refine⟨⟨trivial,trivial,trivial,trivial,trivial,trivial⟩,?_⟩;ac_rfl;ac_nf;refine⟨F.map (rwOf l W),rfl,?_,by rw[we];lia,λr pm pw =>?_⟩
 .rw[wJ];have n1:(F.map (·.1)).Nodup:=by
   rw[<- I];exact(List.filter_sublist.map _).nodup nd
  unfold List.Nodup at n1 ⊢;rw[wS] at n1 ⊢;refine n1.imp_of_mem λ{a b} R U j e =>?_;have e:((idx l a.1:Nat):Int)=(idx l b.1:Nat):=e;exact j (zhg (u a (J a R).1) (u b (J b U).1) (by lia))
 ac_nf;have m:∀y∈r,∃x∈F,y=rwOf l W x:=λy C=>by
  obtain⟨x,i,e⟩:=wj.mp (pm.mem_iff.mp C);exact⟨x,i,e.symm⟩
 have e1:r.map pdD=(r.map back).map shD:=by
  rw[wJ];apply vT;intro y C;obtain⟨x,i,rfl⟩:=m y C;show pdD (rwOf l W x)=shD (back (rwOf l W x));rw[z7p]
  rfl
 have o:(r.map back).Perm (F.map (shOf l W)):=by
  have:=pm.map back
  rwa [wJ,show back ∘ rwOf l W=shOf l W from funext λx=>z7p l W x] at this
 rw[e1];have hs:∀s∈r.map back,∃x∈F,s=shOf l W x:=λs hs=>by
  obtain⟨x,i,e⟩:=wj.mp (o.mem_iff.mp hs);exact⟨x,i,e.symm⟩
 have sg:∀s∈r.map back,Sw W l.length s/\Int.gcd s.2.1 s.2.2=1:=λs Y=>by
  obtain⟨x,i,rfl⟩:=hs s Y;obtain⟨L,x2⟩:=J x i;obtain⟨N,Z,M,f3,f4⟩:=z42 (t:=x.2) O;have xW:x.2<=W:=by
   rw[<- eW];exact(z3H λy C=>by obtain⟨z,hz,rfl⟩:=wj.mp C;exact h0 z hz).2 _ (uy L)
  have le:=Int.ediv_le_ediv N xW;refine⟨⟨?_,by show 0<W / (Int.gcd x.2 W:Int);lia,by show x.2 / (Int.gcd x.2 W:Int)<=2*(W / (Int.gcd x.2 W:Int));lia,⟨_,M.trans (vN _ _)⟩,z9Q (u x L)⟩,f4⟩;show 0<x.2 / (Int.gcd x.2 W:Int)
  rcases v6 0 (x.2 / (Int.gcd x.2 W:Int)) with z | z
  .exact z
  .have:=vf (vq N) z;lia
 refine q _ ⟨sg,?_,by rw[o.length_eq,we];exact lF⟩ λw f hw =>?_
 .rw[wS];refine pw.imp_of_mem λ{a b} R U j =>?_;obtain⟨x,_,rfl⟩:=m a R;obtain⟨y,_,rfl⟩:=m b U;rw[z7p,z7p];have j:((idx l x.1:Nat):Int)<(idx l y.1:Nat):=j;show idx l x.1<idx l y.1;lia
 .unfold sw;rw[z7O o,wJ, <- z9W (l:=xs) h0 (λx i=>by rw[i,Int.mul_zero]),I]
  congr 1
  apply vT;intro x i;obtain⟨L,x2⟩:=J x i;obtain⟨N,Z,M,f3,f4⟩:=z42 (t:=x.2) O;show w (idx l x.1)*(x.2 / (Int.gcd x.2 W:Int)*(W / (W / (Int.gcd x.2 W:Int))))=f x.1*x.2;rw[hw,zkM (u x L)];have e2:W / (W / (Int.gcd x.2 W:Int))=(Int.gcd x.2 W:Int):=Int.ediv_eq_of_eq_mul_left (by lia) M;rw[e2,vN (x.2 / _), <- Z]
structure LedW (l:List P)(x y t W:Int)(sh:List Sh):Prop where
 pos:0<W
 bt:Bt 1400 W
 gd:Gd W l.length sh
 one:sw (λ_=>1) W sh=W
 ex:sw (wx l) W sh*t=W*x
 ey:sw (wy l) W sh*t=W*y
def zbe {l:List P}{x y t:Int}{xs:List (P × Int)}{Q:DK}{X:XP}(hz:l.length<=62)(g:Prt l x y t xs)(a:∀sh W,LedW l x y t W sh->Q (.tup (sh.map shD))):
  z0Q.run [vecs l,vecs (xs.map (·.1)),.tup ((xs.map (·.2)).map .int)] Q X:=by
 refine z8I g.mem hz g.nd g.few g.nn g.pos g.bt λsh G k=>a sh _ ⟨g.pos,g.bt,G,?_,?_,?_⟩
 .rw[k _ (λ_=>1) λ_=>rfl]
  simp_all
 .rw[k (wx l) _ λ_=>rfl];exact g.ex
 .rw[k (wy l) _ λ_=>rfl];exact g.ey
def z7A {l:List P}{x y t:Int}{Q:DK}{X:XP}(M:l≠[])(hz:l.length<=62)(u:Wb 600 l)(pc:Pc x y t)
  (R:∀b,b≠(0,0)->Vb 700 b->(∀p∈l,dot p b*t<dot (x,y) b)->Q (brD b)) (q:∀sh W,LedW l x y t W sh->Q (swD sh)):z32.run [vecs l,pcD x y t] Q X:=by
 walk_at "fn";ac_nf;refine z0F (.inl rfl) u.le (by lia) λh o =>?_;have f:=o.is M;have U:=z1X f.nodup f.sub;have e:Wb 600 h:=λp N=>u p (f.sub p N);have g:h≠[]:=by obtain⟨m,tl,K,_⟩:=f.ex;rw[K];simp
 have O:=pc.pos;refine z0j (Safe.of_noL (z27 _) (z28 _) _) ?_;ac_rfl;ac_nf;refine zbh f e (by lia) pc (λb I J i =>?_) λw =>?_
 .ac_nf;refine zfS rfl ?_;ac_nf;exact R b I J i
 ac_nf;refine zhY rfl ?_;ac_nf;rw[we];refine z0k (λz =>?_) (λz =>?_)
 .obtain⟨a,b,rfl⟩:∃a b,h=[a,b]:=by
   match h,z with
   | [a,b],_=>exact⟨a,b,rfl⟩
  have C:=e a (by simp);have vb:=e b (by simp);ac_nf;refine zil C vb pc ?_;ac_nf;refine t_no (by simp) ?_;ac_nf;refine zbe hz (zgG pc f (f.sub a (by simp)) (f.sub b (by simp)) C vb w) λsh W L =>?_;ac_nf;exact q sh W L
 ac_nf;rw[we];refine z0k (λj =>?_) (λj =>?_)
 .ac_nf;refine zdp e (by lia) (by lia) pc w λk F =>?_;refine z0j (Safe.of_noL (z27 _) (z28 _) _) ?_;ac_rfl;ac_nf;refine zig (cyw g e _) (cyw g e _) (cyw g e _) pc ?_;ac_nf;refine zbe hz (zbo pc f f.sub e F) λsh W L =>?_;ac_nf;exact q sh W L
 .obtain⟨m,rfl⟩:∃m,h=[m]:=by
   match h,g,z,j with
   | [m],_,_,_=>exact⟨m,rfl⟩
   | _::_::r,_,z,j=>simp at z j;lia
  ac_nf;refine zbe hz (zgH (f.sub m (by simp)) w) λsh W L =>?_;ac_nf;exact q sh W L
def ky (st v:P):P:=(dot v (rt st),dot v st)
def zc4 {a b c d:P}(h:LxG a b)(k:LxG c d):LxG (Geo.pl a c) (Geo.pl b d):=by
 simp[LxG,Geo.pl] at*;lia
def zem (st u v:P):ky st (Geo.pl u v)=Geo.pl (ky st u) (ky st v):=by
 simp[ky,Geo.pl,dot,rt,Prod.mk.injEq]
 grind
def Top (S:P->Prop)(st q:P):Prop:=S q/\∀r,S r->LxG (ky st q) (ky st r)
def zhT {l:List P}{st v s:P}(h:Top (· ∈ l) st v):Top (· ∈ l.map (mv s)) st (mv s v):=by
 refine⟨uy h.1,λr a =>?_⟩;obtain⟨u,b,rfl⟩:=wj.mp a;have e:∀v,mv s v=Geo.pl v s:=λv=>rfl;rw[e,e,zem,zem];exact zc4 (h.2 u b) (.inr ⟨rfl,jy _⟩)
def zd5 {a:List (List P)}{d:List P}{st p q:P}(h:Top (· ∈ d) st p)(k:Top (Ms a) st q):Top (Ms (d::a)) st (Geo.pl p q):=by
 refine⟨⟨p,h.1,q,k.1,rfl⟩,λr b =>?_⟩;obtain⟨u,e,v,f,rfl⟩:=b;rw[zem,zem];exact zc4 (h.2 u e) (k.2 v f)
def zhU {S:P->Prop}{h:List P}{k:Nat}{q:P}(x:z0a S h)(n:k<h.length)(t:Top S (stp (Geo.cy h (k+h.length - 1)) (Geo.cy h k)) q):q=Geo.cy h k:=by
 rcases wN 1 h.length with z | z
 .have e:=z3s x (by lia) (k+h.length - 1);rw[show k+h.length - 1+1=k+h.length by lia,show Geo.cy h (k+h.length)=Geo.cy h k by unfold Geo.cy;rw[ul]] at e;generalize Geo.cy h (k+h.length - 1)=a at*;generalize Geo.cy h k=b at*;have f:=t.2 b e.sb;have l:=e.left q t.1;have g:=e.btw q t.1;have E:0<(b.1 - a.1)*(b.1 - a.1)+(b.2 - a.2)*(b.2 - a.2):=sqp λw=>e.ne (uo (by lia) (by lia));simp only[LxG,ky,stp,rt,dot,Geo.cr,Geo.dot] at f l g;have o:(b.1 - a.1)*(q.2 - a.2) - (b.2 - a.2)*(q.1 - a.1)=0:=by
   rcases f with w | w
   .grind
   .grind
  obtain⟨u,y⟩:=g o;have i:(b.1 - a.1)*(q.1 - b.1)+(b.2 - a.2)*(q.2 - b.2)=0:=by
   rcases f with w | w
   .grind
   .grind
  have j:(b.1 - a.1)*(q.2 - b.2) - (b.2 - a.2)*(q.1 - b.1)=0:=by grind
  generalize b.1 - a.1=c at*;generalize b.2 - a.2=d at*;have p:(c*c+d*d)*(q.1 - b.1)=0:=by
   have:(c*c+d*d)*(q.1 - b.1)=c*(c*(q.1 - b.1)+d*(q.2 - b.2)) - d*(c*(q.2 - b.2) - d*(q.1 - b.1)):=by grind
   rw[this,i,j];simp
  have s:(c*c+d*d)*(q.2 - b.2)=0:=by
   have:(c*c+d*d)*(q.2 - b.2)=d*(c*(q.1 - b.1)+d*(q.2 - b.2))+c*(c*(q.2 - b.2) - d*(q.1 - b.1)):=by grind
   rw[this,i,j];simp
  have A:=(wZ.mp p).resolve_left (by lia);have C:=(wZ.mp s).resolve_left (by lia);exact uo (by lia) (by lia)
 .obtain⟨m,r,rfl,_,_,_,⟨rfl,c⟩ | ⟨c,_⟩⟩:=x.ex
  .have:k=0:=by simpa using n
   subst this;exact c q t.1
  .cases r with
   | nil=>exact absurd rfl c
   | cons=>simp at z
def z7E {l:List P}{st:P}{Q:DK}{X:XP}(x:l≠[])(hz:l.length<=12)(b:Wb 140 l)(hs:Vb 300 st)(q:∀i,i<l.length->Top (· ∈ l) st (Geo.cy l i)->Q (.int (i:Int))):z2B.run [vecs l,vec st] Q X:=by
 have hr:Vb 300 (rt st):=⟨hs.2,hs.1.neg⟩
 walk_at "fn";ac_nf;refine z6n ?_;refine z0j (Safe.of_noL rfl rfl _) ?_;ac_rfl;ac_nf;refine⟨by rw[we];exact szl' (by lia),?_⟩;refine z1o (g:=λp=>vec (ky st p)) (λp j K r =>?_) ?_
 .ac_nf;refine z2V (b p j).le hr.le ?_;ac_nf;refine z2V (b p j).le hs.le ?_;ac_nf;exact r
 ac_rfl;ac_nf;refine⟨l.map (ky st),by rw[wJ];rfl,by simpa using x,by rw[we];lia,λi m e w =>?_⟩;rw[wO] at e
 cases z:l[i]? with
 | none=>rw[z] at e;cases e
 | some v=>
  rw[z] at e
  cases e
  have f:i<l.length:=(wv.mp z).1;have o:Geo.cy l i=v:=by
   have:=z1k (h:=l) (i:=i) (by lia);rw[w6 f,z] at this;exact(vh this).symm
  refine q i f ?_;rw[o];exact⟨wD z,λu hu=>w _ (uy hu)⟩
def stq (h:List P)(s:Sh):P:=stp (Geo.cy h (s.1+h.length - 1)) (Geo.cy h s.1)
abbrev enD (s:Sh):Int × D:=((s.1:Int),vec s.2)
abbrev foD (fs:List Sh):D:=dkI (fs.map enD)
def zgA {fs:List Sh}{s:Sh}(h:∀x∈fs,x.1≠s.1):putD ((fs.map enD).map λr=>(Sum.inl r.1,r.2)) (.inl (s.1:Int)) (vec s.2)=((fs++[s]).map enD).map λr=>(Sum.inl r.1,r.2):=by
 unfold putD;rw[if_neg]
 .simp
 .simp only[List.any_eq_true,not_exists,not_and];intro p a;obtain⟨r,b,rfl⟩:=wj.mp a;obtain⟨x,d,rfl⟩:=wj.mp b;have:=h x d;simp;lia
def zd0 {fs:List Sh}{i:Nat}(h:∀x∈fs,x.1≠i):valD ((fs.map enD).map λr=>(Sum.inl r.1,r.2)) (.inl (i:Int))=none:=by
 unfold valD;rw[List.find?_eq_none.mpr]
 .rfl
 .intro p a;obtain⟨r,b,rfl⟩:=wj.mp a;obtain⟨x,d,rfl⟩:=wj.mp b;have:=h x d;simp;lia
def zcZ {A C:List Sh}{s:Sh}(h:∀x∈A,x.1≠s.1):valD (((A++s::C).map enD).map λr=>(Sum.inl r.1,r.2)) (.inl (s.1:Int))=some (vec s.2):=by
 unfold valD;rw[wA,wA,List.find?_append,List.find?_eq_none.mpr]
 .simp
 .intro p a;obtain⟨r,b,rfl⟩:=wj.mp a;obtain⟨x,d,rfl⟩:=wj.mp b;have:=h x d;simp;lia
def zgz {A C:List Sh}{s s':Sh}(e:s'.1=s.1)(h:∀x∈A++C,x.1≠s.1):putD (((A++s::C).map enD).map λr=>(Sum.inl r.1,r.2)) (.inl (s.1:Int)) (vec s'.2)=((A++s'::C).map enD).map λr=>(Sum.inl r.1,r.2):=by
 unfold putD;have b:∀l:List Sh,(∀x∈l,x.1≠s.1)->(((l.map enD).map λr=>((Sum.inl r.1,r.2):Key × D)).map λp=>if p.1=(.inl (s.1)) then (p.1,vec s'.2) else p)=(l.map enD).map λr=>(Sum.inl r.1,r.2):=λl d=>by
  rw[wJ,wJ,wJ];apply vT;intro x a;have:=d x a;show (if (Sum.inl (x.1):Key)=Sum.inl _ then _ else _)=_;rw[if_neg (by grind)]
  rfl
 simp only[wA,wL];rw[b A λx a=>h x (by simp[a]),b C λx a=>h x (by simp[a])];simp[e]
def Sw.pl {W:Int}{n:Nat}{s:Sh}(h:Sw W n s)(g:Int.gcd s.2.1 s.2.2=1):Pl (pt W s) 0 W s.2.1 0 s.2.2:=⟨h.bot,by rw[gcd0];exact g,z6K h.dv,by simp⟩
def zft {W p u t:Int}{n i:Nat}(d:0<W)(h:Pl p 0 W u 0 t)(g:0<p)(j:p<=W)(f:i<n):(Sw W n (i,u,t)/\Int.gcd u t=1)/\pt W (i,u,t)=p:=by
 have a:=h.pos;have e:=h.cx;have b:=h.cop;rw[gcd0] at b;have l:0<u:=by
  rcases v6 0 u with z | z
  .exact z
  .have:=vC z (vq d);have:=vD g a;lia
 have q:u<=t:=by
  rcases v6 t u with z | z
  .have m:=jD z d;have o:=vR j (vq a);lia
  .exact z
 refine⟨⟨⟨l,a,by lia,h.dvd,f⟩,b⟩,?_⟩;show u*(W / t)=p;apply vj (show t≠0 by lia);rw[uI,Int.ediv_mul_cancel h.dvd,e]
def zhn {x k e:Ex}{d:Pu.Env}{Q:DK}{X:XP}(q:x.run d (λa=>∃kvs,a=dk kvs/\k.run d (λb=>∃j,b=kD j/\e.run d (λc=>Q ((valD kvs j).getD c)) X) X) X):(Ex.dget2 x k e).run d Q X:=q
def zks {A C:List Sh}{y:Sh}(h:((A++y::C).map (·.1)).Nodup):∀z∈A++C,z.1≠y.1:=λz a e=>by
 rw[wA] at h;have:=(jQ.nodup_iff.mp h)
 rw[vO, <- wA] at this;exact this.1 (wj.mpr ⟨z,a,e⟩)
def z9p {w:Nat->Int}{W:Int}(A C:List Sh)(y:Sh):sw w W (A++y::C)=sw w W A+w y.1*pt W y+sw w W C:=by
 simp[sw];lia
def zda {W:Int}{n:Nat}{l:List Sh}(a:0<W)(h:∀s∈l,Sw W n s):0<=sw (λ_=>1) W l:=by
 refine(z3H λy b =>?_).1;obtain⟨s,hs,rfl⟩:=wj.mp b;have:=(h s hs).pt_le a;lia
def z9f (s:Sh):back (enD s)=s:=by
 rfl
def zak {x:List P × P}{h:List P}{sh:List Sh}{W:Int}{Q:DK}{X:XP}(hx:Wt4 x)(Y:Wb 200 h)(hn:h≠[])(p:0<W)(bW:Bt 1400 W)(G:Gd W h.length sh)(one:sw (λ_=>1) W sh=W)
  (q:∀(Z:List Sh) (φ:Sh->P),(∀s∈sh,Top (· ∈ x.1) (stq h s) (φ s))->Gd W x.1.length Z->sw (wx x.1) W Z=(sh.map λs=>(φ s).1*pt W s).sum->sw (wy x.1) W Z=(sh.map λs=>(φ s).2*pt W s).sum->sw (λ_=>1) W Z=W->Q (shsD Z)):z1e.run [vecs x.1,vecs h,shsD sh] Q X:=by
 have zero:Pl 0 0 W 0 0 1:=⟨by decide,by decide,by simp,by simp⟩
 walk_at "fn";refine z3R (zdk ?_);refine⟨λ_ h=>by(cases h),?_⟩;ac_rfl;ac_nf;refine z0m (f:=shD) (λdn ρ=>∃(fs:List Sh) (I:Sh->Nat) (x4 x5 x6:B),(∀s∈dn,Top (· ∈ x.1) (stq h s) (Geo.cy x.1 (I s)))/\(∀w:Nat->Int,sw w W fs=(dn.map λs=>w (I s)*pt W s).sum)/\(∀s∈fs,Sw W x.1.length s/\Int.gcd s.2.1 s.2.2=1)/\(fs.map (·.1)).Nodup/\fs.length<=dn.length/\ρ=[.s (vecs x.1),.s (vecs h),.s (shsD sh),.o (foD fs),x4,x5,x6]) ⟨[],λ_=>0,_,_,_,λ_ h=>by(cases h),λ_=>rfl,λ_ h=>by(cases h),.nil,wq _,rfl⟩ ?_ ?_
 .rintro dn s r ρ e ⟨fs,I,x4,x5,x6,h1,h2,J,U,h5,rfl⟩;obtain⟨R,sg⟩:=G.each s (by rw[e];simp);have sc:=R.bot;obtain⟨b1,b2⟩:=R.bits p bW;have a4:=G.few;have le:=congrArg List.length e;rw[wC,wQ] at le;have a0:∀s'∈dn,s'≠s:=λs' g z=>by
   have up:=G.up;rw[e,ua] at up;have:=up.2.2 s' g s (by simp);rw[z] at this;lia
  have v1:=cyb hn Y (s.1+h.length - 1);have v2:=cyb hn Y s.1;refine⟨rfl,?_⟩;show Sm.run _ _ _ _ _;unfold z0c z0c z0c;ac_rfl;ac_nf;refine z0T (z0s (zkU R.ix)) ?_;ac_nf;refine z0T (z0s (z8h R.ix)) ?_;ac_nf;refine z1V ?_;ac_nf;refine z7E (st:=stq h s) hx.ne hx.len hx.wb ⟨Bt.le (Bt.sub v2.1 v1.1),Bt.le (Bt.sub v2.2 v1.2)⟩ λi hi top =>?_;ac_nf;refine⟨_,rfl,zkQ (zhn ?_)⟩;ac_nf;refine⟨_,rfl,?_⟩;ac_nf;refine⟨.inl (i:Int),rfl,?_⟩;ac_nf;have p0:=(R.pt_le p).1;have a5:sw (λ_=>1) W fs+pt W s<=W:=by
   have e1:=h2 λ_=>1;have e2:=z9p (w:=λ_=>1) (W:=W) dn r s;rw[<- e,one] at e2;have e3:(dn.map λs=>(1:Int)*pt W s).sum=sw (λ_=>1) W dn:=rfl;have e4:=zda (l:=r) p λs' g=>(G.each s' (by rw[e];simp[g])).1;lia
  have fin:∀j:List Sh,(∀w:Nat->Int,sw w W j=sw w W fs+w i*pt W s)->(∀s∈j,Sw W x.1.length s/\Int.gcd s.2.1 s.2.2=1)->(j.map (·.1)).Nodup->j.length<=fs.length+1->
    ∃(fs:List Sh) (I:Sh->Nat) (x4 x5 x6:B),(∀a3∈dn++[s],Top (· ∈ x.1) (stq h a3) (Geo.cy x.1 (I a3)))/\(∀w:Nat->Int,sw w W fs=((dn++[s]).map λs=>w (I s)*pt W s).sum)/\(∀s∈fs,Sw W x.1.length s/\Int.gcd s.2.1 s.2.2=1)/\(fs.map (·.1)).Nodup/\fs.length<=(dn++[s]).length/\[.s (vecs x.1),.s (vecs h),.s (shsD sh),.o (foD j),.s (.int (s.1:Int)),.s (.tup [.int s.2.1,.int s.2.2]),.s (.int (i:Int))]=[.s (vecs x.1),.s (vecs h),.s (shsD sh),.o (foD fs),x4,x5,x6]:=λj k1 k2 k3 k4=>by
   refine⟨j,λs'=>if s'=s then i else I s',_,_,_,λs' g =>?_,λw =>?_,k2,k3,by simp;lia,rfl⟩
   .rcases wG.mp g with z | z
    .dsimp only;rw[if_neg (a0 s' z)];exact h1 s' z
    .rw[wo.mp z];dsimp only;rw[if_pos rfl];exact top
   .rw[k1,h2,wA,uM]
    congr 1
    .congr 1
     refine vT λs' g =>?_;dsimp only;rw[if_neg (a0 s' g)]
    .simp
  by_cases K:∃y∈fs,y.1=i
  .obtain⟨y,K,rfl⟩:=K;obtain⟨A,C,eA⟩:=List.append_of_mem K;subst eA;obtain⟨ys,yg⟩:=J y (by simp);have yc:=ys.bot;obtain⟨c1,c2⟩:=ys.bits p bW;have nd:=zks U;rw[zcZ λz hz=>nd z (by simp[hz])];refine z8L yc sc yg sg c1.le c2.le b1.le b2.le λu t M =>?_;have M:=((ys.pl yg).more (vx:=1) (vy:=0) sc (z6K R.dv) (by simpa using M)).eq0;have a1:=zda (l:=A) p λs' g=>(J s' (by simp[g])).1;have a2:=zda (l:=C) p λs' g=>(J s' (by simp[g])).1;rw[z9p] at a5;have y0:=(ys.pt_le p).1;obtain⟨n1,n2⟩:=zft (i:=y.1) p M (by lia) (by lia) ys.ix;refine⟨Safe.of_noL rfl rfl _,?_⟩;ac_nf;refine⟨.inl (y.1:Int),rfl,?_,?_⟩
   .rw[we,we];exact szl' (by lia)
   have pe:putD (((A++y::C).map enD).map λr=>(Sum.inl r.1,r.2)) (.inl (y.1:Int)) (.tup [.int u,.int t])=_:=zgz (s':=(y.1,u,t)) rfl nd;rw[pe];refine fin (A++(y.1,u,t)::C) (λw =>?_) (λs' g =>?_) ?_ (by simp)
   .rw[z9p,z9p,n2];show _+w y.1*(_+1*_)+_=_
    grind
   .rcases wG.mp g with z | z
    .exact J s' (by simp[z])
    .rcases wm.mp z with z | z
     .rw[z];exact n1
     .exact J s' (by simp[z])
   .simpa using U
  .have nd:∀z∈fs,z.1≠i:=λz hz e=>K ⟨z,hz,e⟩;rw[zd0 nd];refine z8L (by decide) sc (by decide) sg (Bt.le (m:=1) (z08 (by decide))) (Bt.le (m:=1) (z08 (by decide))) b1.le b2.le λu t M =>?_;have M:=(zero.more (vx:=1) (vy:=0) sc (z6K R.dv) (by simpa using M)).eq0;have a1:=zda (l:=fs) p λs' g=>(J s' g).1;obtain⟨n1,n2⟩:=zft (i:=i) p M (by lia) (by lia) hi;refine⟨Safe.of_noL rfl rfl _,?_⟩;ac_nf;refine⟨.inl (i:Int),rfl,?_,?_⟩
   .rw[we,we];exact szl' (by lia)
   have pe:putD ((fs.map enD).map λr=>(Sum.inl r.1,r.2)) (.inl (i:Int)) (.tup [.int u,.int t])=_:=zgA (s:=(i,u,t)) nd;rw[pe];refine fin (fs++[(i,u,t)]) (λw =>?_) (λs' g =>?_) ?_ (by simp)
   .rw[z3f,n2];show _+w i*(0+1*_)=_
    grind
   .rcases wG.mp g with z | z
    .exact J s' z
    .rw[wo.mp z];exact n1
   .rw[wA];refine List.nodup_append.mpr ⟨U,by simp,λa ha b Y =>?_⟩;obtain⟨z,hz,rfl⟩:=wj.mp ha;rw[wo.mp Y];exact nd z hz
 rintro ρ ⟨fs,I,x4,x5,x6,h1,h2,J,U,h5,rfl⟩;have a4:=G.few;ac_nf;have nd:((fs.map enD).map (·.1)).Nodup:=by
  rw[show (fs.map enD).map (·.1)=(fs.map (·.1)).map λk:Nat=>(k:Int) by rw[wJ,wJ];rfl];unfold List.Nodup at U ⊢;rw[wS];exact U.imp λ{a b} h=>by lia
 refine⟨fs.map enD,rfl,nd,by rw[we];lia,λrl pm pw =>?_⟩;ac_nf;have O:(rl.map back).Perm fs:=by
  have:=pm.map back
  rwa [wJ,show (back ∘ enD)=id from funext λs=>z9f s,List.map_id] at this
 have N:∀y∈rl,y=enD (back y):=λy K=>by
  obtain⟨s,_,rfl⟩:=wj.mp (pm.mem_iff.mp K);rw[z9f]
 rw[show rl.map pdD=(rl.map back).map shD by
  rw[wJ];refine vT λy K =>?_;rw[N y K];show _=shD (back (enD (back y)));rw[z9f]]
 have sp:∀w:Nat->Int,sw w W (rl.map back)=(sh.map λs=>w (I s)*pt W s).sum:=λw=>by rw[<- h2];exact z7O O
 refine q _ (λs=>Geo.cy x.1 (I s)) h1 ⟨λs hs=>J s (O.mem_iff.mp hs),?_,by rw[O.length_eq];lia⟩ (sp _) (sp _) ?_
 .rw[wS];refine pw.imp_of_mem λ{a b} ha Y L =>?_;rw[N a ha,N b Y] at L;have L:((back a).1:Int)<(back b).1:=L;lia
 .rw[sp];exact one
end Pu
namespace Rvt
open PySem PyProof.Rows
def own:Manifest.owners.lookup (String.ofList ['d','e','s','r','e','v','e','r'].reverse)=some Manifest.sig_reversed:=by kernel_rfl
def nx:Slot "reversed" "__next__" "reversed.__next__" :=.of (owner:="reversed") (n:="__next__") (by rfl) (by rfl) (by rfl) (by decide +kernel) (.inl (by rfl)) (by rfl)
def nx_e:entryFor table "reversed.__next__"=some Builtin.«reversed.__next__»:=entryFor_of_tree (by kernel_rfl)
def nx_a (a:Value):argsOk "reversed.__next__" ⟨[a],[]⟩:=by
 unfold argsOk;rw[signature?_of (n:=['_','_','t','x','e','n','_','_']) (by kernel_rfl) own]
 kernel_rfl
def it:Slot "reversed" "__iter__" "reversed.__iter__" :=.of (owner:="reversed") (n:="__iter__") (by rfl) (by rfl) (by rfl) (by decide +kernel) (.inl (by rfl)) (by rfl)
def it_a (a:Value):argsOk "reversed.__iter__" ⟨[a],[]⟩:=by
 unfold argsOk;rw[signature?_of (n:=['_','_','r','e','t','i','_','_']) (by kernel_rfl) own]
 kernel_rfl
def it_e:entryFor table "reversed.__iter__"=some Builtin.«dict_keyiterator.__iter__»:=entryFor_alias (id':="dict_keyiterator.__iter__") (by kernel_rfl) (by rfl) (by decide +kernel) (by kernel_rfl)
def zkn:typeLookup (.type "tuple") "__reversed__"=pure none:=by kernel_rfl
def gi:typeLookup (.type "tuple") "__getitem__"=pure (some (.builtin "tuple.__getitem__")):=by rfl
def no_len:typeLookup (.type "reversed") "__len__"=pure none:=by kernel_rfl
def its_hint:typeLookup (.type "reversed") "__length_hint__"=pure (some (.builtin "reversed.__length_hint__")):=by rfl
def zhZ:isSubtype (.type "tuple") (.type "dict")=pure false:=by rfl
def init:Slot "reversed" "__init__" "object.__init__" :=.of (owner:="object") (n:="__init__") (by rfl) (by rfl) (by rfl) (by decide +kernel) (.inl (by decide +kernel)) (by rfl)
def zcH:TypeCalled "reversed" "reversed.__new__" "object.__init__":=⟨by rfl,by rfl,⟨_,_,F.mro_reversed⟩,F.made_reversed,by decide +kernel,F.sub_reversed_self,init⟩
def IsRv (h:Heap)(a t:Addr)(i:Int):Prop:=∃o,h.get? a=some o/\o.cls = .type "reversed"/\o.data = .fields #[.ref t,rawInt i]
def IsRv.ty {s:Shared}{a t:Addr}{i:Int}(x:IsRv s.heap a t i):s.TypeIs (.ref a) "reversed":=let ⟨o,d,b,_⟩:=x;⟨o,d,b⟩
def IsRv.at {h b:Heap}{a t:Addr}{i:Int}(x:IsRv h a t i)(e:∀o,h.get? a=some o->b.get? a=some o):IsRv b a t i:=let ⟨o,d,r⟩:=x;⟨o,e _ d,r⟩
def zg7 (t:Addr)(i:Int):Obj:={ cls :=.type "reversed",data :=.fields #[.ref t,rawInt i] }
section
variable {prog:Program}{w:World}{A:Around}{E:WvP}{s:Shared}{t r:Addr}{z01:Array Value}
def zef {e:WvP}(d:IsTup s.heap t z01)(hz:z01.size<2 ^ 62)(h:∀tk,e (.ref s.heap.objs.size) { s with heap:=s.heap.push (zg7 t ((z01.size:Int) - 1)),toks:=tk }):
  codeAny (model prog w) A (.call (.builtin "reversed.__new__") ⟨[.type "reversed",.ref t],[]⟩) (wants e E) s:=by
 refine codeAny_of_tree ?_;show wpAny _ A.in1 (do checkBuiltinCall "reversed.__new__" ⟨[.type "reversed",.ref t],[]⟩;again (.builtin "reversed.__new__" ⟨[.type "reversed",.ref t],[]⟩)) _ _ s;refine wc (ui (F.newCall_reversed_1 _) (wg ⟨v9 F.plain_reversed_new _,vX F.entry_reversed_new ?_⟩));rw[vk F.plain_reversed_new _];unfold Builtin.«reversed.__new__»;refine wc (ui (newClass_reversed _) ?_)
 try dsimp only
 refine wc (ui (a:=()) (by first | rfl | kernel_rfl) ?_);refine wc (ui (a:=()) (by first | rfl | kernel_rfl) ?_)
 try dsimp only
 refine wc (uC d.typeIs zkn ?_)
 try dsimp only
 refine wc ?_
 wp_delta
 refine wc (uR (b:=false) d.typeIs zhZ ?_);rw[if_neg (by decide)];refine wc (uC d.typeIs gi ?_);dsimp only;rw[if_pos (by decide +kernel)];refine wg ?_;rw[if_neg (by decide)];refine wc (len_tuple d (by omega) ?_);refine wc (ui (a:=some ((z01.size:Nat):Int)) (by first | rfl | kernel_rfl) ?_);dsimp only;refine wc (m:=newObj (.type "reversed") (.fields #[.ref t,rawInt ((z01.size:Int) - 1)])) (wP ?_);exact wg (h _)
def zhy {Q:WvP}(e:IsTup s.heap t z01)(hz:z01.size<2 ^ 62)(h:∀tk,Q (.ref s.heap.objs.size) { s with heap:=s.heap.push (zg7 t ((z01.size:Int) - 1)),toks:=tk }):wpAny (model prog w) A (call (.type "reversed") [.ref t]) Q E s:=by
 refine callType_codes (Q₁:=λa b=>b.TypeIs a _/\Q a b) zcH (F.typeCall_reversed_1 _) F.entry_object_init
  (zef e hz λtk=>⟨⟨_,wn _ rfl,rfl⟩,h tk⟩) λa b d =>?_
 exact⟨d.1,F.args_object_init_2 a _,object_init_meets zcH.init.lookup zcH.made (by decide) _ w _ _ b ⟨d.1,rfl,d.2⟩⟩
def zlh {d:Type}{Q:d->Shared->Prop}{E:WvP}(f:A.handled=none)(q:∀e a,(∀b o,s.heap.get? b=some o->a.get? b=some o)->({ s with heap:=a }:Shared).TypeIs e "StopIteration"->E e { s with heap:=a }):
  wpAny (model prog w) A (Builtin.SmallTypes.stopIteration:Sem d) Q E s:=by
 show wpAny _ A (newExc _ [] >>= λv=>raiseNew v) _ _ _;refine wc (wc (wP (wc (ui (by rfl) (wP ?_ (by size_fits)))) (by size_fits)));refine wc (wpAny_handled ?_);rw[f];refine wc (wg (wpAny_throw (q (.ref _) _ (λb o e=>wf _ (wf _ e)) ⟨_,wn _ rfl,rfl⟩)))
def zbV {i:Nat}{x:Value}{Q:Option Value->Shared->Prop}(f:IsRv s.heap r t (i:Int))(g:IsTup s.heap t z01)(hz:z01.size<2 ^ 62)(h:z01[i]? = some x)
  (q:∀e tk,IsRv e r t ((i:Int) - 1)->Heap.SameBut r s.heap e->Q (some x) { s with heap:=e,toks:=tk }):wpAny (model prog w) A (pyNext (.ref r)) Q E s:=by
 obtain⟨o,d,l,b⟩:=id f;unfold pyNext;refine wc (jn (vm (name:=Str.ofString "__next__") f.ty nx (vA nx f.ty nx_e ?_ (nx_a _))));unfold Builtin.«reversed.__next__»;refine wc (ui (a:=(Value.ref r,[])) rfl ?_)
 try dsimp only
 refine wc (vH d b (x :=.ref t) rfl ?_);refine wc (vH d b (x:=rawInt (i:Int)) rfl ?_);show wpAny _ _ (if (i:Int)<0 then _ else _) _ _ s;rw[if_neg (by omega)];refine wc (uC g.typeIs gi ?_);rw[if_neg (by decide)];refine wc (wpAny_mkInt ?_);have m:i<z01.size:=by
  obtain⟨z,_⟩:=Array.getElem?_eq_some_iff.mp h;exact z
 refine wc (jn (getItem_tuple (s:={ s with toks:=s.toks+1 }) g (by omega) (by omega) (j:=i) ?_ h ?_))
 .unfold seqIndex?;simp;omega
 dsimp only;refine wc (vH (s:={ s with toks:=s.toks+1 }) d b (x:=rawInt (i:Int)) rfl ?_);show wpAny _ _ (setField (.ref r) 1 (rawInt ((i:Int) - 1)) >>= λ_=>ret x) _ _ _;refine wc (u3 (s:={ s with toks:=s.toks+1 }) d b (by simp) ?_);refine wg ⟨x,rfl,wg (q _ _ ?_ (uh ..))⟩;exact⟨_,wW _ d (uW (vF b _)),(Obj.cls_mapFields ..).trans l,by
  rw[vF b];simp⟩
def zee {Q:Option Value->Shared->Prop}(j:A.handled=none)(h:IsRv s.heap r t (-1))(q:∀g,Heap.ExtBut r s.heap g->Q none { s with heap:=g }):wpAny (model prog w) A (pyNext (.ref r)) Q E s:=by
 obtain⟨o,f,u,d⟩:=id h;unfold pyNext;refine wc (jn (vm (name:=Str.ofString "__next__") h.ty nx (vA nx h.ty nx_e ?_ (nx_a _))));unfold Builtin.«reversed.__next__»;refine wc (ui (a:=(Value.ref r,[])) rfl ?_)
 try dsimp only
 refine wc (vH f d (x :=.ref t) rfl ?_);refine wc (vH f d (x:=rawInt (-1)) rfl ?_);show wpAny _ _ (if (-1:Int)<0 then _ else _) _ _ s;rw[if_pos (by decide)];refine wc (jX ?_);refine wc ?_
 wp_delta
 refine wc (u3 f d (by simp) ?_);have n:=wW (Obj.mapFields λx=>x.setIfInBounds 1 (rawInt (-1))) f (uW (vF d _));refine u3 n (vF d _) (by simp) ?_;refine wc (zlh (A:=A.in1) (by first | exact j | simpa using j) λe g p ty =>?_);refine wc (uR (T:="StopIteration") (b:=true) ty isSubtype_stop ?_);rw[if_pos rfl];refine wg (q _ λb o i m=>p b o ?_);have l:=(wR s.heap (Obj.mapFields λx=>x.setIfInBounds 1 (rawInt (-1))) (vG i)).trans m;exact(wR _ _ (vG i)).trans l
def zch {i:Int}{Q:WvP}(a:IsRv s.heap r t i)(q:Q (.ref r) s):wpAny (model prog w) A (pyIter (.ref r)) Q E s:=
 wpAny_pyIter_slot a.ty it (vA it a.ty it_e (wg ⟨_,rfl,"reversed",_,a.ty,nx.lookup,q⟩) (it_a _))
end
def zld {prog:Program}{w:World}{A:Around}(u:A.handled=none)(r t:Addr)(ne:t≠r)(z01:Array Value)(hz:z01.size<2 ^ 62):
  Walks prog w A r [r,t] [r] z01.size (λi v=>z01[z01.size - 1 - i]? = some v) (λi h=>i<=z01.size/\IsRv h r t ((z01.size:Int) - 1 - (i:Int))/\IsTup h t z01) where
 sub:=λb a=>by simp at a;simp[a]
 frame:=λ_ _ _ x n=>⟨x.1,x.2.1.at λo e=>n r (by simp) o e,by
  obtain⟨o,m,z⟩:=x.2.2;exact⟨o,n t (by simp) o m,z⟩⟩
 item:=λi s Q E y x d=>by
  obtain⟨_,f,p⟩:=x;have q:z01[z01.size - 1 - i]? = some _:=ue (by omega);rw[show (z01.size:Int) - 1 - (i:Int)=((z01.size - 1 - i:Nat):Int) by omega] at f;refine zbV f p hz q λl C g hs =>?_;rw[show ((z01.size - 1 - i:Nat):Int) - 1=(z01.size:Int) - 1 - ((i+1:Nat):Int) by omega] at g;refine d _ l C q ⟨y,g,?_⟩ λb o a j=>hs.extBut b o (λz=>a (by simp[z])) j;obtain⟨o,m,z⟩:=p;exact⟨o,(hs.2 t ne).trans m,z⟩
 done:=λs Q E x d=>by
  obtain⟨_,f,_⟩:=x;rw[show (z01.size:Int) - 1 - (z01.size:Int) = -1 by omega] at f;exact zee u f λl e=>d l s.toks λb o a j=>e b o (λz=>a (by simp[z])) j
 self:=λ_ _ _ _ x d=>zch x.2.1 d
def hs:Slot "reversed" "__length_hint__" "reversed.__length_hint__" :=.of (owner:="reversed") (n:="__length_hint__") (by rfl) (by rfl) (by rfl) (by decide +kernel) (.inr (by rfl)) (by rfl)
def hs_e:entryFor table "reversed.__length_hint__"=some Builtin.«reversed.__length_hint__»:=entryFor_of_tree (by kernel_rfl)
def hs_a (a:Value):argsOk "reversed.__length_hint__" ⟨[a],[]⟩:=by
 unfold argsOk;rw[signature?_of (n:=['_','_','t','n','i','h','_','h','t','g','n','e','l','_','_']) (by kernel_rfl) own]
 kernel_rfl
section
variable {prog:Program}{w:World}{A:Around}{E:WvP}{s:Shared}{r t:Addr}{z01:Array Value}
def zkO {Q:WvP}(d:IsRv s.heap r t ((z01.size:Int) - 1))(e:IsTup s.heap t z01)(hz:z01.size<2 ^ 62)(q:∀u tk,s.toks<=tk->Q (.int (z01.size:Int) u) { s with toks:=tk }):wpAny (model prog w) A (call (.builtin "reversed.__length_hint__") [.ref r]) Q E s:=by
 obtain⟨o,b,f,a⟩:=id d;refine vA hs d.ty hs_e ?_ (hs_a _);refine wc (ui rfl ?_);refine wc (vH b a rfl ?_);refine wc (len_tuple e (by omega) ?_);refine wc (ui (by rfl) ?_);refine wc (vH b a rfl ?_);show wpAny _ _ (if z01.size<(z01.size:Int) - 1+1 then _ else _) _ _ _;rw[if_neg (by omega)];refine wc (wpAny_mkInt (wg ⟨_,rfl,?_⟩))
 grind
def hint {Q:Bool->Shared->Prop}(d:IsRv s.heap r t ((z01.size:Int) - 1))(e:IsTup s.heap t z01)(hz:z01.size<=sizeLine)(q:∀b tk,s.toks<=tk->Q b { s with toks:=tk }):wpAny (model prog w) A (Builtin.List.listLengthHint (.ref r)) Q E s:=by
 have f:z01.size<2 ^ 62:=jt hz (by decide);unfold Builtin.List.listLengthHint;refine wc (uC d.ty no_len ?_);show wpAny _ A (specialOf (.ref r) (Str.ofString "__length_hint__") >>= _) Q E s;refine wc (uC d.ty its_hint ?_);generalize l:("reversed.__length_hint__":String)=m;dsimp only;rw[show splitId m=some ("reversed","__length_hint__") from by rw[<- l];decide +kernel];refine wc (uR (b:=true) d.ty F.sub_reversed_self ?_);rw[if_neg (by decide)];subst l;rw[if_neg (by decide +kernel)];refine wc (jX (wc (ui (hs.bind _) ?_)));refine wc (jn (zkO d e f λu tk e =>?_));have g:asInt? (.int (z01.size:Int) u)=pure (some (z01.size:Int)):=rfl;have h:Builtin.List.listFitsIndex (z01.size:Int)=true:=by
  have a : -(2 ^ 63:Int)<=(z01.size:Int):=by omega
  have b:(z01.size:Int)<2 ^ 63:=by omega
  exact Bool.and_eq_true_iff.mpr ⟨wE a,wE b⟩
 have i:Builtin.List.listTooLong (z01.size:Int).toNat=false:=by
  unfold Builtin.List.listTooLong;simp;exact hz
 have j:¬ (z01.size:Int)<0:=by omega
 generalize (z01.size:Int)=N at g h i j ⊢;show wpAny _ _ (asInt? (.int N u) >>= _) _ _ _;rw[g];refine wc (wg ?_);dsimp only;rw[h,if_neg (by decide),if_neg j,i,if_neg (by decide)];exact wg (q _ _ e)
def zeB {R:Result->Shared->Prop}{S:Addr}{res:Value}{L:Nat}(T:A.handled=none)(u:IsRv s.heap r t ((z01.size:Int) - 1))(E:IsTup s.heap t z01)(hz:z01.size<=sizeLine)(I:S ∉ [r,t])(C:s.heap.get? S=some { cls :=.type "list",data :=.seq #[] L })
  (q:∀s' l c,Moved (S::[r]) (λa b=>b=a) s s'->s'.heap.get? S=some { cls :=.type "list",dict:=none,data :=.seq l c,slots := #[] }->ItemsOf (λi v=>z01[z01.size - 1 - i]? = some v) l z01.size->R (.ok (.ret res)) s'):
  wpAny (model prog w) A.in1 (Builtin.List.listExtendWith (.ref S) (.ref r) res) (λfin s'=>match fin with | .done f=>R (.ok f) s' | .again d=>d.quiet=true/\codeAny (model prog w) A d R s') (λe s'=>R (.error e) s') s:=by
 have H:z01.size<2 ^ 62:=jt hz (by decide);have ne:t≠r:=by
  obtain⟨o,U,Q,_⟩:=u;obtain⟨Z,p,n,_⟩:=E;intro z;rw[z,U] at p;cases p;rw[Q] at n
  injection n with h
  exact absurd h (by decide)
 have W:=(zld (prog:=prog) (w:=w) (A:=A.in1) (by simpa using T) r t ne z01 H).toS;have Y:S≠r:=λe=>I (by simp[e]);have st0:(λ(i:Nat) (s:Shared)=>i<=z01.size/\IsRv s.heap r t ((z01.size:Int) - 1 - (i:Int))/\IsTup s.heap t z01) 0 s:=⟨vn _,by simpa using u,E⟩
 unfold Builtin.List.listExtendWith;refine wc (jd u.ty ?_);rw[show Builtin.List.listSameRef (.ref S) (.ref r)=false by simp[Builtin.List.listSameRef,Y],show (Value.type "reversed" == .type "list")=false by decide,show (Value.type "reversed" == .type "tuple")=false by decide,if_neg (by decide)];refine wc (W.self 0 _ _ _ st0 (wc (vS (hint u E hz λb x le =>?_))));have M:∀(g:Heap) (c:Nat),(∀b o,b≠S->s.heap.get? b=some o->g.get? b=some o)->g.get? S=some { cls :=.type "list",data :=.seq #[] c }->
   wpAny (model prog w) A.in1 (again (.builtin "list.extend.loop" ⟨[.ref S,.ref r,res],[]⟩)) (λfin s'=>match fin with | .done f=>R (.ok f) s' | .again d=>d.quiet=true/\codeAny (model prog w) A d R s') (λe s'=>R (.error e) s') { s with heap:=g,toks:=x }:=λg c N y=>by
  have J:=W.frame 0 s g x st0 le λb j o e=>N b o (λz=>I (z ▸ j)) e;refine wg ⟨v9 F.plain_extend_loop _,codeAny_extend_loopS W hz S I res z01.size 0 _ #[] c rfl (vn _) J y (ItemsOf.nil _) λs' m d mv O it=>q s' m d ?_ O it⟩;have X:Moved (S::[r]) (λa b=>b=a) s { s with heap:=g,toks:=x }:=(Moved.refl (wr:=S::[r]) (G:=λa b=>b=a) W.grefl).then_heap le λb o j e=>N b o (λz=>j (by rw[z];exact ww)) e;exact Moved.trans W.gtrans X mv
 split
 .refine wc (jX ?_);refine wc ?_;show wpAny _ _ (updateSeq S (·.push .none) >>= λ_=>updateSeq S (·.pop)) _ _ _;refine wc (uL (s:={ s with toks:=x }) C rfl ?_);have K:=wW (Obj.mapSeq (·.push Value.none)) C rfl;refine uL (hz:=by seq_fits) K rfl ?_;have y:=wW (Obj.mapSeq (·.pop)) K rfl;refine M _ _ (λb o j e =>?_) y;exact(wR _ _ (vG j)).trans ((wR _ _ (vG j)).trans e)
 .exact M s.heap L (λ_ _ _ e=>e) C
def zeJ {Q:List Value->Shared->Prop}(K:A.handled=none)(n:IsRv s.heap r t ((z01.size:Int) - 1))(C:IsTup s.heap t z01)(hz:z01.size<=sizeLine)
  (q:∀s',Moved [r] (λa b=>b=a) s s'->s.heap.objs.size<s'.heap.objs.size->Q z01.toList.reverse s'):wpAny (model prog w) A (collect (.ref r)) Q E s:=by
 have p:∀b∈[r,t],b<s.heap.objs.size:=λb y=>by
  simp only[wm,wz,vK] at y
  rcases y with rfl | rfl
  .obtain⟨o,j,_⟩:=n;exact wu j
  .obtain⟨o,j,_⟩:=C;exact wu j
 have M:s.heap.objs.size ∉ [r,t]:=λm=>vB _ (p _ m);unfold collect;refine wc (wpAny_runValue (vX F.entry_proto_collect ?_));rw[vk F.plain_proto_collect _];show wpAny _ A.in1 (newList [] >>= λl=>again (.builtin "list.__iadd__" ⟨[l,.ref r],[]⟩)) _ _ s;refine wc (wP (wg ⟨v9 F.plain_list_iadd _,vX F.entry_list_iadd ?_⟩));rw[vk F.plain_list_iadd _];show wpAny _ A.in1 (Builtin.List.listExtendWith (.ref s.heap.objs.size) (.ref r) (.ref s.heap.objs.size)) _ _ _;have fin:∀s' d c,Moved (s.heap.objs.size::[r]) (λa b=>b=a) { s with heap:=s.heap.push { cls :=.type "list",data :=.seq ([]:List Value).toArray } } s'->s'.heap.get? s.heap.objs.size=some { cls :=.type "list",dict:=none,data :=.seq d c,slots := #[] }->ItemsOf (λi v=>z01[z01.size - 1 - i]? = some v) d z01.size->wpAny (model prog w) A (load s.heap.objs.size >>= λo=>match o.data with | .seq N _=>pure N.toList | _=>unsupported "internal:collect") Q E s':=λs' d c mv g it=>by
  refine wc (wpAny_load g (wg ?_));have H:d.toList=z01.toList.reverse:=by
   apply jH;intro i
   rcases wN i z01.size with z | z
   .obtain⟨T,L⟩:=it;have x:d.toList[i]? = some (d.toList[i]'(by simp;omega)):=wt _;have J:=L i _ (by rw[<- uk];exact x);rw[x,List.getElem?_reverse (by simpa using z), <- J];simp
   .rw[v5 (by have:=it.1;simp;omega),v5 (by simp;omega)]
  rw[H];exact q s' (Moved.drop_new (o:={ cls :=.type "list",data :=.seq ([]:List Value).toArray }) (tk:=s.toks) mv (wq _)) (wu g)
 refine vJ (zeB (A:=A) (s:={ s with heap:=s.heap.push { cls :=.type "list",data :=.seq ([]:List Value).toArray } }) (S:=s.heap.objs.size) (res :=.ref s.heap.objs.size) (R:=λG s'=>G = .ok (.ret (.ref s.heap.objs.size))/\∃d c,Moved (s.heap.objs.size::[r]) (λa b=>b=a) { s with heap:=s.heap.push { cls :=.type "list",data :=.seq ([]:List Value).toArray } } s'/\s'.heap.get? s.heap.objs.size=some { cls :=.type "list",dict:=none,data :=.seq d c,slots := #[] }/\ItemsOf (λi v=>z01[z01.size - 1 - i]? = some v) d z01.size) K (n.at λo e=>wf _ e) (by
  obtain⟨o,j,z⟩:=C;exact⟨o,wf _ j,z⟩) hz M (wn _ rfl) λs' d c mv g it=>⟨rfl,d,c,mv,g,it⟩) (λI s' h =>?_) (λe s' h =>?_)
 .cases I with
  | done f=>
   obtain⟨e,d,c,mv,g,it⟩:=h
   cases e
   exact fin s' d c mv g it
  | again O=>
   refine⟨h.1,j6 h.2 λG u n =>?_⟩;obtain⟨rfl,d,c,mv,g,it⟩:=n;exact fin u d c mv g it
 .exact absurd h.1 (by simp)
def zd3 {d:WvP}(g:A.handled=none)(e:IsRv s.heap r t ((z01.size:Int) - 1))(h:IsTup s.heap t z01)(hz:z01.size<=sizeLine)
  (q:∀s',Moved [r] (λa b=>b=a) s s'->s.heap.objs.size<s'.heap.objs.size->d (.ref s'.heap.objs.size) { s' with heap:=s'.heap.push { cls :=.type "tuple",data :=.seq z01.toList.reverse.toArray } }):
  codeAny (model prog w) A (.call (.builtin "tuple.__new__") ⟨[.type "tuple",.ref r],[]⟩) (wants d E) s:=by
 refine codeAny_of_tree ?_;show wpAny _ A.in1 (do checkBuiltinCall "tuple.__new__" ⟨[.type "tuple",.ref r],[]⟩;again (.builtin "tuple.__new__" ⟨[.type "tuple",.ref r],[]⟩)) _ _ s;refine wc (ui (F.newCall_tuple_1 _) (wg ⟨v9 F.plain_tuple_new _,vX F.entry_tuple_new ?_⟩));rw[vk F.plain_tuple_new _];have i:=sub_tuple_self;have j:=init_tuple_lookup;have l:=madeHere_tuple;have f:=e.ty
 wp_walk using jd f,zeJ (by simpa using g) e h hz
 intro s' mv lt;show wpAny _ _ (Builtin.Tuple.tupleExact z01.toList.reverse.toArray >>= λv=>ret v) _ _ _;unfold Builtin.Tuple.tupleExact;exact wc (wP (wg (q s' mv lt)) (by show z01.toList.reverse.toArray.size<=sizeLine;simpa using hz))
def zeM {Q:WvP}(g:A.handled=none)(h:IsRv s.heap r t ((z01.size:Int) - 1))(i:IsTup s.heap t z01)(hz:z01.size<=sizeLine)
  (q:∀s',Moved [r] (λa b=>b=a) s s'->s.heap.objs.size<s'.heap.objs.size->Q (.ref s'.heap.objs.size) { s' with heap:=s'.heap.push { cls :=.type "tuple",data :=.seq z01.toList.reverse.toArray } }):wpAny (model prog w) A (call (.type "tuple") [.ref r]) Q E s:=by
 refine callType_codes (Q₁:=λd e=>e.TypeIs d _/\Q d e) F.called_tuple (F.typeCall_tuple_1 _) F.entry_object_init (zd3 (by simpa using g) h i hz λs' mv lt=>⟨⟨_,wn _ rfl,rfl⟩,q s' mv lt⟩) λd e f =>?_;exact⟨f.1,F.args_object_init_2 d _,object_init_meets F.called_tuple.init.lookup F.called_tuple.made (by decide) _ w _ _ e ⟨f.1,rfl,f.2⟩⟩
end
end Rvt
namespace Pu
open PySem PySem.Spec PyProof.Rows L2
def RvO (r a:Addr)(n:Nat)(h:Heap):Prop:=Rvt.IsRv h r a ((n:Int) - 1)
section
variable {X:Cx}{E:XK}
def zlu (X:Cx):List V->Hp->VK->Prop:=λvs H Q=>∃a b,vs=[.ref a]/\SqT X.K H a b/\∀r,H r=none->X.s₀.heap.objs.size<=r->Q (.ref r) (upd H r (.ext (RvO r a b.length)))
def zcK:z0C X (.type "reversed") (zlu X):=by
 rintro h s C H A z Q I l ⟨a,p,e,i,q⟩;subst e;obtain⟨u,rfl,m⟩:=z37 l
 cases m
 obtain⟨g,r,pl,j⟩:=I.tuple i;have d:=r.length;have f:g.toArray.size<2 ^ 62:=by
  have:p.length<2 ^ 62:=jt j (by decide);simp;omega
 refine Rvt.zhy pl f λy=>⟨.ref _,_,I.laid (o :=.ext _) (λb o e=>wf _ e) (wq _) ⟨⟨_,wn _ rfl,rfl,by simp[Rvt.zg7,d]⟩,⟨_,wn _ rfl⟩,λt w x n=>x.at n⟩,rfl,q _ (I.hok.fresh (wq _)) I.sz⟩
def zga (X:Cx):List V->Hp->VK->Prop:=λvs H Q=>∃r a e b,vs=[.ref r]/\H=upd b r (.ext (RvO r a e.length))/\b r=none/\X.s₀.heap.objs.size<=r/\SqT X.K b a e/\∀d,b d=none->Q (.ref d) (upd b d (.tup e.reverse))
def z9d (T:X.calm=true):z0C X (.type "tuple") (zga X):=by
 rintro G s σ H xs us Q I Y ⟨r,a,C,E,e,K,w,R,n,q⟩;subst e;subst K;have S:=z0u (z0f w (.ext (RvO r a C.length))) n;obtain⟨u,rfl,Z⟩:=z37 Y
 cases Z
 have U:X.A.handled=none:=I.ok.hd T;obtain⟨j,l,pl,F⟩:=I.tuple S;have i:=l.length;have m  := (I.hok r _ z06).1;have sz:j.toArray.size=C.length:=by simp[i]
 rw[<- sz] at m;refine Rvt.zeM U m pl (by rw[sz];exact F) λs' mv lt =>?_;have d  := λb o h e=>mv.heap b o (by simpa using h) e;obtain⟨g,O,J,y,x⟩:=s';have M:O=s.gens:=mv.gens;have L:J=s.drawn:=mv.drawn;have N:x=s.os:=mv.os;subst M;subst L;subst N;have f:s.heap.get? g.objs.size=none:=by
  cases z:s.heap.get? g.objs.size with
  | none=>rfl
  | some o=>
   by_cases h:g.objs.size=r
   .obtain⟨o1,t,_⟩:=m;have W:g.objs.size<s.heap.objs.size:=by rw[h];exact wu t
    exact absurd (Nat.lt_trans W lt) (vB _)
   .exact absurd (wu (d _ o h z)) (vB _)
 have p:E g.objs.size=none:=by
  have:=I.hok.none_of f
  cases z:E g.objs.size with
  | none=>rfl
  | some o=>rw[z0f w _ _ _ z] at this;cases this
 refine⟨.ref g.objs.size,_,I.spent (o :=.tup C.reverse) (t':=y) w R (λb u h e=>wf _ (d b u h e)) f ⟨by simpa using F,j.reverse,l.reverse,⟨_,wn _ rfl,rfl,0,by simp⟩,_,wn _ rfl,rfl⟩,rfl,q _ p⟩
def z7d (d:D)(Q:DK):Prop:=match d with
 | .tup l=>Q (.tup l.reverse)
 | _=>False
def z8a (d:D)(Q Q':DK)(m:∀d,Q d->Q' d)(h:z7d d Q):z7d d Q':=by
 cases d with
 | tup l=>exact m _ h
 | _=>exact h.elim
def z26:Fn:=fn1 z7d z8a
def z89 {d:D}{Q:DK}(h:z7d d Q):∃l,d = .tup l/\Q (.tup l.reverse):=by
 cases d with
 | tup l=>exact⟨l,rfl,h⟩
 | _=>exact h.elim
def z51 {e:Expr}{x:Ex}{R n o S:Pos}(J:X.calm=true)(K:Gl X "tuple")(M:X.mg "tuple"=none)(g:Gl X "reversed")(h:X.mg "reversed"=none)(I:QXA X E [e] [x])
  (m:autoParam (starEach [e] X.env=(false,eval e X.env)::starEach [] X.env) jA1) (b:autoParam (starEach [.Call (.Name "reversed" n) [e] [] o] X.env=(false,eval (.Call (.Name "reversed" n) [e] [] o) X.env)::starEach [] X.env) jA1):QX X E (.Call (.Name "tuple" R) [.Call (.Name "reversed" n) [e] [] o] [] S) (.op z26 [x]):=
 QE.imp (z2g (z9d J) K M (by rfl) (z3j (z2g zcK g h (by rfl) I (by decide) (by decide) m (by rfl)) z5y b) (by decide) (by decide) b (by rfl)) <| by
  rintro Z H Q ⟨G,W,z,s,hs,A,N,L,O⟩;refine⟨G,W,λt=>z26.run t z s,s,hs,A,N,λt vs Y y q C f g3 rds =>?_,O⟩;obtain⟨d,rfl,T⟩:=z1c q;obtain⟨v,rfl,rd⟩:=rds1 rds;obtain⟨l,rfl,U⟩:=z89 T;obtain⟨a,p,rfl,u,F⟩:=z1m rd;refine⟨a,p,rfl,z0u f u,λr i j=>⟨r,a,p,y,rfl,rfl,i,j,z0u f u,λd w =>?_⟩⟩;exact(L.same C g3).new f w U (by rw[RD];exact⟨d,p.reverse,rfl,SqT.of z06,(F.rev).same (z0f (z0M f w) _)⟩)
end
end Pu
namespace Pu
open PySem L2
def z0n:Fn:=Fn.mkN 3 7 (.seq (.set 3 (.op pIx [.op pIx [.v 0,.c (.int 0)],.c (.int 0)]))
 (.seq (.set 4 (.op pIx [.op pIx [.v 0,.c (.int 0)],.c (.int 1)]))
 (.seq (.set 5 (.sl (.v 0) (some (.c (.int 1))) none))
 (.seq (.ifs (.op pEq [.v 1,.c (.int 2)]) (.ret (.op pTup [])) .skip)
 (.seq (.ifs (.op pEq [.v 1,.c (.int 3)]) (.ret (.op pAdd [.sl (.v 0) none (some (.op pNeg [.c (.int 1)])),.op pTup [.op pTup [.v 2,.op pIx [.op pIx [.v 0,.op pNeg [.c (.int 1)]],.c (.int 1)]]]])) .skip)
 (.seq (.ifs (.op pEq [.v 1,.c (.int 4)]) (.ret (.op pAdd [.op pTup [.op pTup [.op pNeg [.c (.int 1)],.v 4]],.v 5])) .skip)
 (.seq (.ifs (.op pEq [.v 1,.c (.int 5)]) (.seq (.set 6 (.op pTup [.op pIx [.v 4,.c (.int 0)],.op z0b [.c (.int 2),.op pIx [.v 4,.c (.int 1)]]]))
 (.ret (.op pAdd [.op pTup [.op pTup [.v 3,.v 6],.op pTup [.v 3,.v 6]],.v 5]))) .skip)
 (.seq (.ifs (.op pEq [.v 1,.c (.int 6)]) (.ret (.op pAdd [.op z26 [.v 0],.op pTup [.op pTup [.c (.int 0),.op pTup [.c (.int 0),.c (.int 1)]]]])) .skip)
 (.seq (.ifs (.op pEq [.v 1,.c (.int 7)]) (.ret (.op pAdd [.op pTup [.op pTup [.v 3,.op pTup [.c (.int 0),.c (.int 1)]]],.v 5])) .skip)
 (.seq (.ifs (.op pEq [.v 1,.c (.int 8)]) (.ret (.op pAdd [.op pTup [.op pTup [.v 3,.op pTup [.op z0b [.c (.int 2),.op pIx [.v 4,.c (.int 0)]],.op z0b [.c (.int 2),.op pIx [.v 4,.c (.int 1)]]]]],.v 5])) .skip)
 (.seq (.ifs (.op pEq [.v 1,.c (.int 9)]) (.ret (.op pAdd [.op pTup [.op pTup [.v 3,.op pTup [.op pIx [.v 4,.c (.int 0)],.c (.int 0)]]],.v 5])) .skip)
 (.seq (.ifs (.op pEq [.v 1,.c (.int 10)]) (.ret (.op pAdd [.op pTup [.op pTup [.v 3,.op pTup [.op pNeg [.op pIx [.v 4,.c (.int 0)]],.op pIx [.v 4,.c (.int 1)]]]],.v 5])) .skip)
 (.ret (.op pAdd [.op pTup [.op pTup [.v 3,.op pTup [.op pAdd [.op pIx [.v 4,.c (.int 0)],.op pIx [.v 4,.c (.int 1)]],.op pIx [.v 4,.c (.int 1)]]]],.v 5]))))))))))))))
def z0p:Fn:=Fn.mkN 3 6 (.seq (.set 3 (.op z00 [.v 2,.c (.int 51),.c (.int 12)]))
 (.seq (.set 4 (.op z00 [.v 2,.c (.int 52),.op pLen [.v 1]]))
 (.seq (.ifs (.op pEq [.v 3,.c (.int 0)]) (.ret (.sl (.v 1) none (some (.op pNeg [.c (.int 1)])))) .skip)
 (.seq (.ifs (.op pEq [.v 3,.c (.int 1)]) (.ret (.op pAdd [.v 1,.sl (.v 1) none (some (.c (.int 1)))])) .skip)
 (.seq (.set 5 (.op z0n [.op pIx [.v 1,.v 4],.v 3,.op pLen [.op pIx [.op pIx [.v 0,.v 4],.c (.int 0)]]]))
 (.ret (.op pAdd [.op pAdd [.sl (.v 1) none (some (.v 4)),.op pTup [.v 5]],.sl (.v 1) (some (.op pAdd [.v 4,.c (.int 1)])) none])))))))
def z0Z:Fn:=Fn.mkN 3 7 (.seq (.set 3 (.op z33 [.v 0,.v 1]))
 (.seq (.set 4 (.op z0h [.v 0,.v 2]))
 (.seq (.set 5 (.op pTup [.op pSub [.op z00 [.v 2,.c (.int 71),.c (.int 9)],.c (.int 4)],.op pSub [.op z00 [.v 2,.c (.int 72),.c (.int 9)],.c (.int 4)]]))
 (.seq (.own 6 (.op pLst [.v 3,.op pTup [.c (.str "course"),.v 4],.op pTup [.c (.str "barred"),.v 5],.op pTup [.c (.str "barred"),.op pTup [.c (.int 0),.c (.int 0)]],.op pTup [.c (.str "sailed"),.v 5]]))
 (.seq (.ifs (.op pNe [.v 0,.op pTup []]) (.seq (.app 6 (.op pTup [.c (.str "course"),.op z0p [.v 0,.v 4,.v 2]]))
 (.ifs (.op pEq [.op pIx [.v 3,.c (.int 0)],.c (.str "course")]) (.app 6 (.op pTup [.c (.str "course"),.op z0p [.v 0,.op pIx [.v 3,.c (.int 1)],.op pAdd [.v 2,.c (.int 1)]]])) .skip)) .skip)
 (.seq (.ifs (.op pEq [.op pIx [.v 3,.c (.int 0)],.c (.str "barred")]) (.seq (.app 6 (.op pTup [.c (.str "barred"),.op pTup [.op pNeg [.op pIx [.op pIx [.v 3,.c (.int 1)],.c (.int 0)]],.op pNeg [.op pIx [.op pIx [.v 3,.c (.int 1)],.c (.int 1)]]]]))
 (.app 6 (.op pTup [.c (.str "barred"),.op pTup [.op z0b [.op pIx [.op pIx [.v 3,.c (.int 1)],.c (.int 0)],.c (.int 3)],.op z0b [.op pIx [.op pIx [.v 3,.c (.int 1)],.c (.int 1)],.c (.int 3)]]]))) .skip)
 (.ret (.v 6))))))))
def z1r:Fn:=Fn.mkN 1 1 (.seq (.ifs (.op pEq [.op pMod [.op z0g [.v 0,.c (.int 0)],.c (.int 2)],.c (.int 1)]) (.ret (.op pIx [.op pLst [.c (.int 3),.c (.int 12),.op pPow [.c (.int 10),.c (.int 9)]],.op pMod [.op z1u [.op pIx [.v 0,.c (.int 0)],.c (.int 2)],.c (.int 3)]])) .skip)
 (.ret (.op pIx [.op pLst [.c (.int 3),.c (.int 3),.c (.int 12),.op pPow [.c (.int 10),.c (.int 9)]],.op z00 [.op z0g [.v 0,.c (.int 0)],.c (.int 1),.c (.int 4)]])))
def z1K:Fn:=Fn.mkN 2 4 (.seq (.ifs (.op pNe [.op pLen [.v 1],.op pLen [.v 0]]) (.ret (.c (.bl false))) .skip)
 (.seq (.for_ [] (.tp [2,3]) (.op z6P [.v 0,.v 1]) (.ifs (.or (.not (.op z1w [.op pIx [.v 2,.c (.int 0)],.v 3])) (.op pNe [.op z2x [.v 3],.op pTup [.c (.int 1),.c (.int 1)]])) (.ret (.c (.bl false))) .skip))
 (.ret (.c (.bl true)))))
def z2D:Fn:=Fn.mkN 2 7 (.seq (.ifs (.not (.op z1K [.v 0,.v 1])) .never .skip)
 (.seq (.set 2 (.op pTup [.c (.int 0),.c (.int 0),.c (.int 1)]))
 (.seq (.for_ [] (.tp [3,4]) (.op z6P [.v 0,.v 1]) (.seq (.set 5 (.op pIx [.v 3,.c (.int 1)]))
 (.seq (.set 6 (.op z0W [.op z2y [.op pIx [.v 3,.c (.int 0)],.v 4],.op pTup [.op pIx [.v 5,.c (.int 0)],.op pIx [.v 5,.c (.int 1)],.c (.int 1)]]))
 (.set 2 (.op z0W [.v 2,.v 6])))))
 (.ret (.v 2)))))
def z15:Fn:=Fn.mkN 3 3 (.seq (.ifs (.op pEq [.op pIx [.v 2,.c (.int 0)],.c (.str "course")]) (.ret (.and (.op z1K [.v 0,.op pIx [.v 2,.c (.int 1)]]) (.op pEq [.op z2D [.v 0,.op pIx [.v 2,.c (.int 1)]],.v 1]))) .skip)
 (.seq (.ifs (.op pEq [.op pIx [.v 2,.c (.int 0)],.c (.str "barred")]) (.ret (.op z0X [.v 1,.op pIx [.v 2,.c (.int 1)],.op z2c [.v 0,.op pIx [.v 2,.c (.int 1)]]])) .skip)
 (.ret (.c (.bl false)))))
def z1E:Fn:=Fn.mkN 3 3 (.seq (.ifs (.op pEq [.op pIx [.v 2,.c (.int 0)],.c (.str "course")]) (.ret (.op z0r [.v 0,.op pIx [.v 2,.c (.int 1)],.v 1])) .skip)
 (.ret (.and (.op pEq [.op pIx [.v 2,.c (.int 0)],.c (.str "barred")]) (.op z13 [.v 0,.op pIx [.v 2,.c (.int 1)],.v 1]))))
def z5S:Fn:=Fn.mkN 1 6 (.seq (.set 1 (.op z0Y [.v 0]))
 (.seq (.for_ [] (.nm 2) (.sl (.op pAdd [.op pLst [.c (.int 0)],.v 0]) (some (.op pNeg [.c (.int 4)])) none) (.seq (.set 3 (.op z1s [.v 1,.v 2,.op z1r [.v 0]]))
 (.for_ [] (.nm 4) (.op z0Z [.v 1,.v 3,.v 2]) (.seq (.set 5 (.op z15 [.v 1,.v 3,.v 4]))
 (.ifs (.or (.not (.op (pIsi "bool") [.v 5])) (.op pNe [.v 5,.op z1E [.v 1,.v 3,.v 4]])) (.ret (.c (.bl false))) .skip)))))
 (.ret (.c (.bl true)))))
open Mth
def zag {ns:List Int}{Q:DK}{X:XP}(hz:ns.length<=63)(q:∀ws:List (List P × P),(∀x∈ws,Wt4 x)->ws.length<=12->tl ws<=60->Q (.tup (ws.map wtD))):z0Y.run [.lst (ns.map .int)] Q X:=by
 walk_at "fn";ac_nf;refine zbg (λb hb =>?_);ac_nf;refine z0k (λh =>?_) (λ_ =>?_)
 .ac_nf;exact zg4 (hb h) hz q
 clear hb;ac_nf;refine z0E (by decide) (by decide) (by decide) λr r0 r1 =>?_;ac_nf;refine menu (ns:=[3,3,12,10 ^ 9]) r0 r1 λm hm =>?_;have f:0<=m/\m<=10000000000000000000000000000000000000000:=by
  simp only[wm,wz,vK] at hm;lia
 clear hm;ac_nf;refine z0E (by decide) (by decide) (by decide) λr2 a8 a9 =>?_;ac_nf;refine zi0 (λe=>∃d,Ln d/\e=[.s (.lst (ns.map .int)),.s (.int b),.s (.int m),.s d,.n,.n,.n,.n,.n,.n]) ?_ ?_
 .refine z0k (λ_ =>?_) (λ_ =>?_)
  .ac_nf;refine z0E (by decide) (by decide) (by decide) λu u0 u1 =>?_;ac_nf;refine z0E (by decide) (by decide) (by decide) λv v0 v1 =>?_;ac_nf;exact⟨_,.inr ⟨(u - 3,v - 3),rfl,⟨by show -3<=u - 3;lia,by show u - 3<=3;lia⟩,by show -3<=v - 3;lia,by show v - 3<=3;lia⟩,rfl⟩
  .ac_nf;exact⟨_,.inl rfl,rfl⟩
 rintro e ⟨d,hd,rfl⟩;ac_nf;refine z0E (by decide) (by decide) (by decide) λr3 a2 a3 =>?_;ac_nf;refine menu (ns:=[3,3,5,12]) a2 a3 λY O =>?_;have R:0<Y/\Y<=12:=by
  simp only[wm,wz,vK] at O;lia
 clear O;ac_nf;refine z2G (λx j=>by cases j) ?_;ac_rfl;ac_nf;refine z5i (λZ=>∃(ws:List (List P × P)) (a:Nat) (x7 x8 x9:B),(∀x∈ws,Wt4 x)/\ws.length<=12/\1<=a/\a<=100/\tl ws<a/\tl ws<=60/\Z=[.s (.lst (ns.map .int)),.s (.int b),.s (.int m),.s d,.s (.int Y),.o (.lst (ws.map wtD)),.s (.int (a:Int)),x7,x8,x9]) (λZ=>(100 - nI Z 6).toNat) ⟨[],1,_,_,_,λ_ z=>by(cases z),by simp,by simp,by simp,by simp[tl],by simp[tl],rfl⟩ ?_;rintro Z ⟨ws,a,x7,x8,x9,M,C,a6,ha,a7,W,rfl⟩;ac_nf;rw[we,min2];refine z0k (λh =>?_) (λh =>?_)
 .ac_nf;rw[we];refine z0k (λa0 =>?_) (λa0 =>?_)
  .obtain⟨c,_,J⟩:=z3W (xs:=ns) (i:=(a:Int)) (by lia) (by lia);ac_nf;refine z0T (z0s J) ?_;ac_nf;refine z0E (by decide) (by decide) R.1 λsz b2 b3 =>?_;ac_nf;obtain⟨k2,N,a4⟩:∃k2:Int,k2=(if 61<(a:Int)+(1+sz) then 61 else (a:Int)+(1+sz))/\(a:Int)<k2:=⟨_,rfl,by split <;> lia⟩
   rw[<- N,z1G];have e1:HT.sIx ns.length 0 (some (a:Int))=a:=by
    show (if (a:Int)<0 then ((a:Int)+(ns.length:Int)).toNat else min (a:Int).toNat ns.length)=_;rw[if_neg (by lia)];lia
   have e2:HT.sIx ns.length ns.length (some k2)=min k2.toNat ns.length:=by
    show (if k2<0 then (k2+(ns.length:Int)).toNat else min k2.toNat ns.length)=_;rw[if_neg (by lia)]
   rw[e1,e2];have key:∀L:Nat,L<=k2.toNat - a->L<=12/\L<=1+sz.toNat/\L<=61 - a:=λL hL=>by split at N <;> lia
   have U:(ns.drop a).take (min k2.toNat ns.length - a)≠[]/\(((ns.drop a).take (min k2.toNat ns.length - a)).length<=12/\((ns.drop a).take (min k2.toNat ns.length - a)).length<=1+sz.toNat/\((ns.drop a).take (min k2.toNat ns.length - a)).length<=61 - a):=by
    refine⟨λw =>?_,key _ (by rw[uf,uQ];exact wM (Nat.min_le_left ..) (Nat.sub_le_sub_right (Nat.min_le_left ..) _))⟩;have:=congrArg List.length w;rw[uf,uQ,uc] at this;lia
   clear key;generalize (ns.drop a).take (min k2.toNat ns.length - a)=a5 at*;refine⟨by rw[we];exact szl' (by lia),?_⟩;refine z4w (g:=vec) (P:=λ_ p=>Far 10000000000000000000000000000000000000000 p) (λc _ K hK =>?_) λI a1 hy =>?_
   .ac_nf;exact zf1 f.1 f.2 hd hK
   refine z2G (λx j =>?_) ?_
   .obtain⟨y,_,rfl⟩:=wj.mp j;exact Safe.of_noL rfl rfl _
   ac_rfl;ac_nf;refine z0T (z0s J) ?_;ac_nf;refine z0E (by decide) (by decide) (by decide) λr4 b0 b1 =>?_;ac_nf;refine zi0 (λe=>∃s,Far 10000000000000000000000000000000000000000 s/\e=[.s (.lst (ns.map .int)),.s (.int b),.s (.int m),.s d,.s (.int Y),.o (.lst (ws.map wtD)),.s (.int (a:Int)),.s (.int (1+sz)),.o (.lst (I.map vec)),.s (vec s)]) ?_ ?_
   .refine z0k (λ_ =>?_) (λ_ =>?_)
    .ac_nf;refine z0T (z0s J) ?_;ac_nf;refine zf1 f.1 f.2 hd λs hs =>?_;refine z0j (Safe.of_noL rfl rfl _) ?_;exact⟨s,hs,rfl⟩
    .ac_nf;exact⟨(0,0),by unfold Far;decide,rfl⟩
   rintro e ⟨s,hs,rfl⟩;refine z3R (z4g (l:=[]) (z0w rfl ?_));ac_nf;refine⟨by rw[we];exact szl' (by lia),Safe.of_noL (zbT (I,s)) (zbU (I,s)) _,?_⟩;ac_rfl;ac_nf;refine⟨⟨ws++[(I,s)],a+(1+sz.toNat),.s (.int (1+sz)),.o (.lst (I.map vec)),.s (vec s),λx j =>?_,by simp;lia,by lia,by lia,by rw[z5l];show _+I.length<_;lia,by rw[z5l];show _+I.length<=_;lia,?_⟩,?_⟩
   .rcases wG.mp j with j | j
    .exact M x j
    .rw[wo.mp j];refine⟨λp hp =>?_,λz=>U.1 (um.mp (by rw[<- a1];exact congrArg List.length z)),by show I.length<=12;lia,(hs.vb (n:=134) (by decide)).le⟩;obtain⟨_,_,hf⟩:=hy p hp;exact(hf.vb (n:=134) (by decide)).le
   .rw[wA,show ((a+(1+sz.toNat):Nat):Int)=(a:Int)+(1+sz) by lia]
    rfl
   .show (100 - ((a:Int)+(1+sz))).toNat<(100 - (a:Int)).toNat
    lia
  .ac_nf;exact q ws M C W
 .ac_nf;exact q ws M C W
def Pl.plus {x y x' y' W u v t a c w b e t':Int}(h:Pl x y W u v t)(k:Pl x' y' W a c w)(s:Pl (u*w+a*t) (v*w+c*t) (t*w) b e t'):Pl (x+x') (y+y') W b e t':=by
 have j:t*w≠0:=by have:=vD h.pos k.pos;lia
 have d:∀{b u a x x':Int},b*(t*w)=(u*w+a*t)*t'->u*W=x*t->a*W=x'*w->b*W=(x+x')*t':=λ{b u a x x'} f g i=>by
  apply vj j
  calc b*W*(t*w)=(b*(t*w))*W:=by grind
   _=((u*W)*w+(a*W)*t)*t':=by rw[f];grind
   _=(x+x')*t'*(t*w):=by rw[g,i];grind
 exact⟨s.pos,s.cop,d s.cx h.cx k.cx,d s.cy h.cy k.cy⟩
def Pl.over {vx vy p q a c w W P:Int}(f:0<q)(h:Pl (vx*p) (vy*p) q a c w)(e:p*W=P*q):Pl (vx*P) (vy*P) W a c w:=by
 have b:∀{a vx:Int},a*q=vx*p*w->a*W=vx*P*w:=λ{a vx} d=>by
  apply vj (show q≠0 by lia)
  calc a*W*q=(a*q)*W:=by grind
   _=vx*(p*W)*w:=by rw[d];grind
   _=vx*P*w*q:=by rw[e];grind
 exact⟨h.pos,h.cop,b h.cx,b h.cy⟩
def z6R {S W u t:Int}(a:0<W)(h:Pl S 0 W u 0 t):((u,t)=((1:Int),(1:Int)))↔S=W:=by
 constructor
 .intro e
  cases e
  have:=h.cx;lia
 .rintro rfl;obtain⟨rfl,_,rfl⟩:=h.eq a (⟨by decide,by decide,by rw[vN],by simp⟩:Pl S 0 S 1 0 1)
  rfl
def z29 (r:Rs):Sh:=(r.1.toNat,r.2)
def rcD (a:List Rs):D :=.tup (a.map rsD)
structure Rb (W:Int)(rs:List Rs):Prop where
 len:rs.length<=14
 ok:∀r∈rs,0<r.2.1->0<r.2.2->r.2.2 ∣ W/\r.2.1<=2*r.2.2
theorem z9R {n:Int}:∀{d:List Rs}{a:Int},z38 n a d=true->∀r∈d,a<r.1/\r.1<n/\0<r.2.1/\0<r.2.2/\Int.gcd r.2.1 r.2.2=1
 | r0::l,a,h,r,b=>by
  simp[z38,w5,ja] at h
  rcases wm.mp b with rfl | b
  .simp_all
  .have:=z9R h.2.2.2.2.2 r b;exact⟨by lia,this.2⟩
def zi9 {W:Int}{n:Nat}{e:List Rs}{r:Rs}(f:Rb W e)(g:r∈e)(h : -1<r.1)(i:r.1<n)(a:0<r.2.1)(b:0<r.2.2):Sw W n (z29 r):=by
 obtain⟨d,l⟩:=f.ok r g a b;exact⟨a,b,l,d,by show r.1.toNat<n;lia⟩
def z5L {W:Int}{n:Nat}{a:List Rs}(j:Rb W a)(g:z38 n (-1) a=true):rcD a=shsD (a.map z29)/\∀s∈a.map z29,Sw W n s/\Int.gcd s.2.1 s.2.2=1:=by
 have m:=z9R g
 constructor
 .show D.tup _=D.tup _;rw[wJ]
  congr 1
  refine vT λr b =>?_;have:=(m r b).1;show D.tup _=D.tup [.int ((r.1.toNat):Int),_];rw[show ((r.1.toNat):Int)=r.1 by lia]
  rfl
 .intro s hs;obtain⟨r,b,rfl⟩:=wj.mp hs;obtain⟨d,e,f,h,i⟩:=m r b;exact⟨zi9 j b d e f h,i⟩
def okB (W:Int)(p:(List P × P) × List Rs):Bool:=z38 p.1.1.length (-1) p.2 && decide (sw (λ_=>1) W (p.2.map z29)=W)
def okC (W:Int)(ws:List (List P × P))(a:List (List Rs)):Bool:=decide (a.length=ws.length) && (ws.zip a).all (okB W)
def zeX {W:Int}{n:Nat}{sh f r:List Sh}{a b:Int}(q:sh.length<=14)(g:0<W)(d:Bt 1500 W)(h:∀s∈sh,Sw W n s)(e:sh=f++r)(l:Pl (sw (λ_=>1) W f) 0 W a 0 b):Bt 1520 a/\Bt 1500 b:=by
 have le:=congrArg List.length e;rw[wC] at le;obtain⟨i,j,_⟩:=l.bt (m:=1520) g d (Bt.le (z5o (m:=1) (by lia) g d (λp o=>h p (by simp_all)) λ_=>zcP)) (Bt.le (m:=0) (z08 (by decide)));exact⟨j,i⟩
def zih {W:Int}{n:Nat}{sh:List Sh}{Q:DK}{X:XP}(L:sh.length<=14)(y:0<W)(p:Bt 1500 W)(h:∀s∈sh,Sw W n s/\Int.gcd s.2.1 s.2.2=1)(q:∀u t,Pl (sw (λ_=>1) W sh) 0 W u 0 t->Q (.tup [.int u,.int t])):z2x.run [shsD sh] Q X:=by
 walk_at "fn";ac_nf;refine z0m (f:=shD) (λx o=>∃(a b:Int) (j m:B),Pl (sw (λ_=>1) W x) 0 W a 0 b/\o=[.s (shsD sh),.s (.tup [.int a,.int b]),j,m]) ⟨0,1,_,_,⟨by decide,by decide,by simp[sw],by simp⟩,rfl⟩ ?_ ?_
 .rintro x s r o e ⟨a,b,j,m,g,rfl⟩;obtain⟨i,M⟩:=h s (by rw[e];simp);obtain⟨z,C⟩:=i.bits y p;obtain⟨I,J⟩:=zeX L y p (λs hs=>(h s hs).1) e g;have w:=g.cop;rw[gcd0] at w;refine⟨rfl,?_⟩;show Sm.run _ _ _ _ _;unfold z0c z0c z0c;ac_rfl;ac_nf;refine z8L g.pos i.bot w M I.le J.le z.le C.le λu t K =>?_;refine z0j (Safe.of_noL rfl rfl _) ?_;ac_rfl;refine⟨u,t,_,_,?_,rfl⟩;rw[z3f];exact(g.more (vx:=1) (vy:=0) i.bot (z6K i.dv) (by simpa using K)).eq0
 rintro o ⟨a,b,j,m,g,rfl⟩;ac_nf;exact q a b g
theorem zip_map {d e:Type}{f:d->D}{g:e->D}:∀{l:List d}{m:List e},((l.map f).zip (m.map g)).map (λp=>D.tup [p.1,p.2])=(l.zip m).map λp=>D.tup [f p.1,g p.2]
 | [],_=>by simp
 | _::_,[]=>by simp
 | a::l,b::m=>by
  have:=zip_map (f:=f) (g:=g) (l:=l) (m:=m)
  simp_all
def zk8 {a b:Type}{f:a->D}{g:b->D}{l:List a}{m:List b}{Q:DK}{X:XP}(q:Q (.lst ((l.zip m).map λp =>.tup [f p.1,g p.2]))):z6P.run [.tup (l.map f),.tup (m.map g)] Q X:=by
 rw[<- zip_map] at q;exact q
def z5x {ws:List (List P × P)}{rc:List (List Rs)}{W:Int}{Q:DK}{X:XP}(hz:ws.length<=20)(N:rc.length<=1000)(j:0<W)(J:Bt 1500 W)(L:∀R∈rc,Rb W R)(q:Q (.bl (okC W ws rc))):z1K.run [.tup (ws.map wtD),.tup (rc.map rcD)] Q X:=by
 unfold okC at q;walk_at "fn";ac_nf;rw[we,we];refine z2L (z0k (λh =>?_) (λh =>?_))
 .rw[wE (show rc.length=ws.length by lia)] at q;ac_nf;refine zk8 ?_;ac_nf;refine z0m (f:=λp:(List P × P) × List Rs=>D.tup [wtD p.1,rcD p.2]) (λy x=>∃o w:B,y.all (okB W)=true/\x=[.s (.tup (ws.map wtD)),.s (.tup (rc.map rcD)),o,w]) ⟨_,_,rfl,rfl⟩ ?_ ?_
  .rintro y p r x e ⟨o,w,m,rfl⟩;have M:p∈ws.zip rc:=by rw[e];simp
   obtain⟨Y,O⟩:=uz M;have rb:=L _ O;have b:okB W p=false->Q (.bl false):=λK=>by
    rw[e,List.all_append,List.all_cons,K] at q;simpa using q
   refine⟨rfl,?_⟩;show Sm.run _ _ _ _ _;unfold z0c z0c z0c;ac_rfl;ac_nf;refine z7B ?_
   cases g:z38 p.1.1.length (-1) p.2 with
   | false=>
    ac_nf;refine z2L (z3e ?_);ac_nf;exact b (by unfold okB;rw[g];rfl)
   | true=>
    obtain⟨C,U⟩:=z5L rb g;ac_nf;refine z2L (z49 ?_);ac_nf;rw[C];refine zih (by rw[we];exact rb.len) j J U λu t I =>?_;ac_nf;refine zbQ (l:=[.int u,.int t]) (r:=[.int 1,.int 1]) (Da.vec (u,t)) (Da.vec (1,1)) ?_;rw[show deq (.tup [.int u,.int t]) (.tup [.int 1,.int 1])=decide ((u,t)=((1:Int),(1:Int))) from z3q (u,t) (1,1)];refine z2L (z0k (λi =>?_) (λi =>?_))
    .ac_nf;refine⟨_,_,?_,by rw[<- C]⟩;have:okB W p=true:=by unfold okB;rw[g,wE ((z6R j I).mp i)];rfl
     rw[List.all_append,m,List.all_cons,this]
     rfl
    .ac_nf;exact b (by unfold okB;rw[w9 λz=>i ((z6R j I).mpr z),jL])
  rintro x ⟨o,w,m,rfl⟩;ac_nf;rw[m] at q;exact q
 .rw[w9 (show ¬ rc.length=ws.length by lia)] at q;ac_nf;exact q
def zdj {a b p q:Int}{Q:DK}{X:XP}(f:0<q)(e:Bt 1600 q)(g:Bt 600 a)(i:Bt 600 b)(j:Bt 1600 p)(h:∀u v t,Pl (a*p) (b*p) q u v t->Q (.tup [.int u,.int v,.int t])):z2a.run [.tup [.int a,.int b,.int 1],.tup [.int p,.int q]] Q X:=by
 walk_at "fn";ac_nf;rw[Int.one_mul];exact z61 f e.le h
def zik {x:List P × P}{b:List Rs}{W:Int}{Q:DK}{X:XP}(j:Wt4 x)(I:0<W)(y:Bt 1500 W)(rb:Rb W b)(Z:z38 x.1.length (-1) b=true)(q:∀u v t,Pl (sw (wx x.1) W (b.map z29)) (sw (wy x.1) W (b.map z29)) W u v t->Q (.tup [.int u,.int v,.int t])):z2y.run [vecs x.1,rcD b] Q X:=by
 obtain⟨ed,sg⟩:=z5L rb Z;have hl:(b.map z29).length<=14:=by rw[we];exact rb.len
 walk_at "fn";ac_nf;refine z7B ?_;rw[Z];ac_nf;refine z2L (z49 ?_);rw[ed];generalize b.map z29=sh at*;ac_nf;refine z0m (f:=shD) (λC U=>∃(u v t:Int) (N O R:B),Pl (sw (wx x.1) W C) (sw (wy x.1) W C) W u v t/\U=[.s (vecs x.1),.s (shsD sh),.s (.tup [.int u,.int v,.int t]),N,O,R]) ⟨0,0,1,_,_,_,⟨by decide,by decide,by simp[sw],by simp[sw]⟩,rfl⟩ ?_ ?_
 .rintro C s r U e ⟨u,v,t,N,O,R,g,rfl⟩;obtain⟨o,_⟩:=sg s (by rw[e];simp);obtain⟨K,Y⟩:=o.bits I y;have z:=cyb j.ne j.wb s.1;have le:=congrArg List.length e;rw[wC] at le;have p:∀s∈C,Sw W x.1.length s:=λs hs=>(sg s (by rw[e];simp[hs])).1;obtain⟨L,bu,bv⟩:=g.bt (n:=1500) (m:=1700) I y (Bt.le (z5o (by lia) I y p λi=>(cyb j.ne j.wb i).1)) (Bt.le (z5o (by lia) I y p λi=>(cyb j.ne j.wb i).2));refine⟨rfl,?_⟩;show Sm.run _ _ _ _ _;unfold z0c z0c z0c;ac_rfl;ac_nf;refine z0T (z0s (z8h o.ix)) ?_;refine z0j (Safe.of_noL rfl rfl _) ?_;ac_rfl;ac_nf;refine zdj o.bot Y.le z.1.le z.2.le K.le λa c w J =>?_;obtain⟨bw,ba,bc⟩:=J.bt o.bot Y (Bt.mul z.1 K) (Bt.mul z.2 K);refine z2U g.pos J.pos g.cop J.cop bu.le bv.le L.le ba.le bc.le bw.le λu' v' t' M =>?_;refine z0j (Safe.of_noL rfl rfl _) ?_;ac_rfl;refine⟨u',v',t',_,_,_,?_,rfl⟩;rw[z3f,z3f];exact g.plus (J.over o.bot (z6K o.dv)) M
 rintro U ⟨u,v,t,N,O,R,g,rfl⟩;ac_nf;exact q u v t g
def toK (a:List (List Rs)):List (List Sh):=a.map λb=>b.map z29
def z8z {ws:List (List P × P)}{a:List (List Rs)}:ws.zip (toK a)=(ws.zip a).map λp=>(p.1,p.2.map z29):=by
 unfold toK;rw[<- List.map_id ws,List.zip_map,List.map_id]
 rfl
def zbO {W:Int}{ws:List (List P × P)}{a:List (List Rs)}(h:okC W ws a=true):a.length=ws.length/\∀p∈ws.zip a,z38 p.1.1.length (-1) p.2=true/\sw (λ_=>1) W (p.2.map z29)=W:=by
 simp only[okC,w5,ja,jO] at h;refine⟨h.1,λp b =>?_⟩;have:=h.2 p b;simpa only[okB,w5,ja] using this
def zbN {W:Int}{ws:List (List P × P)}{a:List (List Rs)}(f:∀g∈a,Rb W g)(h:okC W ws a=true):Crs W ws (toK a):=by
 obtain⟨i,e⟩:=zbO h;refine⟨by unfold toK;simp_all,λp b =>?_⟩;rw[z8z] at b;obtain⟨r,d,rfl⟩:=wj.mp b;have rb:=f _ (uz d).2;exact⟨by rw[we];exact rb.len,λs hs=>((z5L rb (e r d).1).2 s hs).1⟩
def zio {ws:List (List P × P)}{rc:List (List Rs)}{W:Int}{Q:DK}{X:XP}(hw:∀x∈ws,Wt4 x)(hz:ws.length<=12)(Z:rc.length<=1000)(j:0<W)(b:Bt 1500 W)(R:∀rs∈rc,Rb W rs)(ok:okC W ws rc=true)(q:∀u v t,Pl ((ws.zip (toK rc)).map (cX W)).sum ((ws.zip (toK rc)).map (cY W)).sum W u v t->Q (.tup [.int u,.int v,.int t])):z2D.run [.tup (ws.map wtD),.tup (rc.map rcD)] Q X:=by
 have hc:=zbN R ok;obtain⟨hl,Y⟩:=zbO ok;walk_at "fn";ac_nf;refine z5x (by lia) Z j b R ?_;rw[ok];ac_nf;refine z2L (z49 ?_);ac_nf;refine zk8 ?_;ac_nf;refine z0m (f:=λp:(List P × P) × List Rs=>D.tup [wtD p.1,rcD p.2]) (λg ρ=>∃(u v t:Int) (x3 x4 x5 x6:B),Pl ((g.map λp=>(p.1,p.2.map z29)).map (cX W)).sum ((g.map λp=>(p.1,p.2.map z29)).map (cY W)).sum W u v t/\ρ=[.s (.tup (ws.map wtD)),.s (.tup (rc.map rcD)),.s (.tup [.int u,.int v,.int t]),x3,x4,x5,x6]) ⟨0,0,1,_,_,_,_,⟨by decide,by decide,by simp,by simp⟩,rfl⟩ ?_ ?_
 .rintro g p r ρ e ⟨u,v,t,x3,x4,x5,x6,y,rfl⟩;have hm:p∈ws.zip rc:=by rw[e];simp
  obtain⟨m1,m2⟩:=uz hm;have o:=hw p.1 m1;have rb:=R _ m2;obtain⟨O,one⟩:=Y p hm;have et:g.map (λp=>(p.1,p.2.map z29))=(ws.zip (toK rc)).take g.length:=by rw[z8z,e,wA,List.take_left' (by rw[we])]
  obtain⟨bA,bB⟩:=z8F (n:=g.length) hw hz j b hc;rw[<- et] at bA bB;obtain⟨M,bu,bv⟩:=y.bt j b bA bB;rw[wA,wA,uM,wA,uM];generalize ((g.map λp=>(p.1,p.2.map z29)).map (cX W)).sum=A at*;generalize ((g.map λp=>(p.1,p.2.map z29)).map (cY W)).sum=C at*;obtain⟨⟨wd,st⟩,sh⟩:=p;obtain⟨sx,sy⟩:=st;dsimp only at o rb O one ⊢;have J:=o.vb;obtain⟨_,sg⟩:=z5L rb O;have z:(sh.map z29).length<=14:=by rw[we];exact rb.len
  refine⟨rfl,?_⟩;show Sm.run _ _ _ _ _;unfold z0c z0c z0c;ac_rfl;ac_nf;refine zik (x:=(wd,sx,sy)) o j b rb O λa c w I =>?_;have z1:=z5o z j b (λs hs=>(sg s hs).1) λi=>(cyb o.ne o.wb i).1;have z2:=z5o z j b (λs hs=>(sg s hs).1) λi=>(cyb o.ne o.wb i).2;obtain⟨bw,ba,bc⟩:=I.bt (n:=1500) (m:=1700) j b z1.le z2.le;ac_nf;refine z2U I.pos (by decide) I.cop (Int.gcd_one) ba.le bc.le bw.le J.1.le J.2.le (Bt.le (m:=1) (z08 (by decide))) λa' c' w' U =>?_;have pk:=I.plus (x':=sx*W) (y':=sy*W) (a:=sx) (c:=sy) (w:=1) ⟨by decide,Int.gcd_one,by simp,by simp⟩ U;obtain⟨N,K,L⟩:=pk.bt (n:=1500) (m:=1720) j b (Bt.le (Bt.add z1 (Bt.mul J.1 b))) (Bt.le (Bt.add z2 (Bt.mul J.2 b)));refine z0j (Safe.of_noL rfl rfl _) ?_;ac_rfl;ac_nf;refine z2U y.pos pk.pos y.cop pk.cop bu.le bv.le M.le K.le L.le N.le λu' v' t' h' =>?_;refine z0j (Safe.of_noL rfl rfl _) ?_;ac_rfl;refine⟨u',v',t',_,_,_,_,?_,rfl⟩;have:=y.plus pk h';simpa[cX,cY,one] using this
 rintro ρ ⟨u,v,t,x3,x4,x5,x6,y,rfl⟩;ac_nf;rw[z8z] at q;exact q u v t y
def zdm {W:Int}{n:Nat}{j:List Rs}{Q:DK}{X:XP}(Z:0<W)(N:Bt 1500 W)(rb:Rb W j)(q1:z38 n (-1) j=false->Q .non)(q2:z38 n (-1) j=true->∀u t,Pl (sw (λ_=>1) W (j.map z29)) 0 W u 0 t->Q (.tup [.int u,.int t])):z1g.run [.int (n:Int),rcD j] Q X:=by
 have hl:=rb.len;walk_at "fn";ac_nf;refine z0m (f:=rsD) (λo K=>∃(l a b:Int) (I J:B),-1<=l/\(∀g,j=o++g->z38 n (-1) j=z38 n l g)/\(∀s∈o.map z29,Sw W n s)/\Pl (sw (λ_=>1) W (o.map z29)) 0 W a 0 b/\K=[.s (.int (n:Int)),.s (rcD j),.s (.int l),.s (.tup [.int a,.int b]),I,J]) ⟨-1,0,1,_,_,by decide,λg e=>by(rw[e];rfl),λ_ h=>by(cases h),⟨by decide,by decide,by simp[sw],by simp⟩,rfl⟩ ?_ ?_
 .rintro o r g K e ⟨l,a,b,I,J,l0,hg,m,p,rfl⟩;have R:=hg _ e;have le:=congrArg List.length e;rw[wC,wQ] at le;obtain⟨c1,c2⟩:=zeX (sh:=o.map z29) (r:=[]) (by rw[we];lia) Z N m (by simp) p;have i:¬ (l<r.1/\r.1<n/\0<r.2.1/\0<r.2.2/\Int.gcd r.2.1 r.2.2=1)->Q .non:=λz=>q1 (by
   rw[R,Bool.eq_false_iff];intro w;simp only[z38,w5,ja] at w;exact z ⟨w.1,w.2.1,w.2.2.1,w.2.2.2.1,w.2.2.2.2.1⟩)
  refine⟨rfl,?_⟩;show Sm.run _ _ _ _ _;unfold z0c z0c z0c;ac_rfl;ac_nf;refine z0k (λh =>?_) (λh1 =>?_)
  .ac_nf;exact i λz=>by lia
  ac_nf;refine z0k (λh =>?_) (λY =>?_)
  .ac_nf;exact i λz=>by lia
  ac_nf;refine z0k (λh =>?_) (λh3 =>?_)
  .ac_nf;exact i λz=>by lia
  ac_nf;refine z0k (λh =>?_) (λh4 =>?_)
  .ac_nf;exact i λz=>by lia
  have x:=zi9 (n:=n) rb (r:=r) (by rw[e];simp) (by lia) (by lia) (by lia) (by lia);obtain⟨y,q⟩:=x.bits Z N;have y:Bt 1501 r.2.1:=y;have q:Bt 1500 r.2.2:=q;ac_nf;refine z8J (by lia) (Bt.le q) ?_;ac_nf;refine zbQ (l:=[.int (r.2.1 / (Int.gcd r.2.1 r.2.2:Int)),.int (r.2.2 / (Int.gcd r.2.1 r.2.2:Int))]) (r:=[.int r.2.1,.int r.2.2]) (Da.vec (_,_)) (Da.vec r.2) ?_;rw[show deq (.tup [.int (r.2.1 / (Int.gcd r.2.1 r.2.2:Int)),.int (r.2.2 / (Int.gcd r.2.1 r.2.2:Int))]) (.tup [.int r.2.1,.int r.2.2])=decide ((r.2.1 / (Int.gcd r.2.1 r.2.2:Int),r.2.2 / (Int.gcd r.2.1 r.2.2:Int))=r.2) from z3q (_,_) r.2];have one:(r.2.1 / (Int.gcd r.2.1 r.2.2:Int),r.2.2 / (Int.gcd r.2.1 r.2.2:Int))=r.2↔Int.gcd r.2.1 r.2.2=1:=by
   obtain⟨g0,f1,U,_,_⟩:=z42 (t:=r.2.1) (show 0<r.2.2 by lia)
   constructor
   .intro z;have z:r.2.2 / (Int.gcd r.2.1 r.2.2:Int)=r.2.2:=congrArg Prod.snd z;rw[z] at U;have:(Int.gcd r.2.1 r.2.2:Int)=1:=vj (show r.2.2≠0 by lia) (by rw[Int.one_mul];exact U.symm);lia
   .intro z;rw[z];simp
  refine z2L (z0k (λC =>?_) (λC =>?_))
  .have g1:=one.mp C;ac_nf;refine zf3 p.pos (by lia) c1.le c2.le y.le q.le λL M Y =>?_;refine z0j (Safe.of_noL rfl rfl _) ?_;ac_rfl;refine⟨r.1,L,M,_,_,by lia,λrest' O =>?_,λs hs =>?_,?_,rfl⟩
   .have:g=rest':=by
     rw[e,vz] at O;simpa using List.append_cancel_left O
    rw[R, <- this];show (_ && _)=_;rw[wE (show l<r.1 by lia),wE (show r.1<n by lia),wE (show 0<r.2.1 by lia),wE (show 0<r.2.2 by lia),wE g1]
    rfl
   .rw[wA] at hs
    rcases wG.mp hs with z | z
    .exact m s z
    .rw[wo.mp z];exact x
   .rw[wA];show Pl (sw (λ_=>1) W (o.map z29++[z29 r])) 0 W L 0 M;rw[z3f];exact(p.more (vx:=1) (vy:=0) x.bot (z6K x.dv) (by simpa[z29] using Y)).eq0
  .ac_nf;exact i λz=>C (one.mpr z.2.2.2.2)
 rintro K ⟨l,a,b,I,J,l0,hg,m,p,rfl⟩;ac_nf;exact q2 (by rw[hg [] (by simp)];rfl) a b p
def zkc {l:List D}{Q:DK}{X:XP}(h:Da 60 (.tup l))(q:Q (.bl true)):pNe.run [.non,.tup l] Q X:=⟨Da.non,h,by exact q⟩
def z7H {ws:List (List P × P)}{rc:List (List Rs)}{W x y t:Int}{Q:DK}{X:XP}(hw:∀x∈ws,Wt4 x)(hz:ws.length<=12)(a0:rc.length<=1000)(m:0<W)(M:Bt 1500 W)(J:∀b∈rc,Rb W b)(Y:okC W ws rc=false->Q (.bl false))(q2:okC W ws rc=true->∀u v t',Pl ((ws.zip (toK rc)).map (cX W)).sum ((ws.zip (toK rc)).map (cY W)).sum W u v t'->Q (.bl (decide (u=x/\v=y/\t'=t)))):z0r.run [.tup (ws.map wtD),.tup (rc.map rcD),pcD x y t] Q X:=by
 walk_at "fn";ac_nf;rw[we,we];refine z2L (z0k (λh =>?_) (λh =>?_))
 .have R:rc.length=ws.length:=by lia
  ac_nf;rw[we];refine z9x (by lia) (by lia) ?_;rw[show ((rc.length:Nat):Int).toNat=rc.length by simp];refine z0m (f:=λ(j:Nat)=>D.int (j:Int)) (λq L=>∃K:B,((ws.zip rc).take q.length).all (okB W)=true/\L=[.s (.tup (ws.map wtD)),.s (.tup (rc.map rcD)),.s (pcD x y t),K]) ⟨_,rfl,rfl⟩ ?_ ?_
  .rintro q k r L e ⟨K,o,rfl⟩;obtain⟨z,b,O,Z,e2,N⟩:=zeU R e;have p:=wD N;have rb:=J b (uz p).2;have g:okB W (z,b)=false->Q (.bl false):=λC=>Y (by
    unfold okC;rw[show (ws.zip rc).all (okB W)=false from List.all_eq_false.mpr ⟨_,p,by rw[C];decide⟩,jL])
   have nx:okB W (z,b)=true->((ws.zip rc).take (q++[k]).length).all (okB W)=true:=λh=>by
    rw[wC,v4,List.take_succ, <- O,N,List.all_append,O,o];show (true && (okB W (z,b) && true))=true;rw[h]
    rfl
   show Sm.run _ _ _ _ _;ac_rfl;ac_nf;refine z0T (z0s Z) ?_;ac_nf;rw[we];refine z0T (z0s e2) ?_;ac_nf;refine zdm m M rb (λw =>?_) (λw u t U =>?_)
   .ac_nf;refine zkc (Da.vec (1,1)) ?_;refine z49 ?_;ac_nf;exact g (by unfold okB;rw[w];rfl)
   .ac_nf;refine zbQ (l:=[.int u,.int t]) (r:=[.int 1,.int 1]) (Da.vec (u,t)) (Da.vec (1,1)) ?_;rw[show deq (.tup [.int u,.int t]) (.tup [.int 1,.int 1])=decide ((u,t)=((1:Int),(1:Int))) from z3q (u,t) (1,1)];refine z2L (z0k (λI =>?_) (λI =>?_))
    .ac_nf;exact⟨_,nx (by unfold okB;rw[w,wE ((z6R m U).mp I)];rfl),rfl⟩
    .ac_nf;exact g (by unfold okB;rw[w9 λz=>I ((z6R m U).mpr z),jL])
  rintro L ⟨K,o,rfl⟩;rw[v8,vL (by rw[u8];lia)] at o;have ok:okC W ws rc=true:=by unfold okC;rw[wE R,o];rfl
  have ed:rc.map rcD=(toK rc).map shsD:=by
   unfold toK;rw[wJ];refine vT λb hr =>?_;obtain⟨i,hi,rfl⟩:=jV hr;have p:(ws[i]'(by lia),rc[i])∈ws.zip rc:=wT.mpr ⟨i,by rw[u8];lia,by rw[List.getElem_zip]⟩;exact(z5L (J _ hr) ((zbO ok).2 _ p).1).1
  ac_nf;rw[ed];refine zin hw hz m M (zbN J ok) λu v t' h =>?_;ac_nf;refine zkl (l:=[.int u,.int v,.int t']) (r:=[.int x,.int y,.int t]) (Da3 u v t') (Da3 x y t) ?_;rw[show deq (.tup [.int u,.int v,.int t']) (.tup [.int x,.int y,.int t])=decide (u=x/\v=y/\t'=t) from deq3 u v t' x y t];exact q2 ok u v t' h
 .ac_nf;exact Y (by unfold okC;rw[w9 (show ¬ rc.length=ws.length by lia)];rfl)
def zg6 {ws:List (List P × P)}{b:P}{Q:DK}{X:XP}(u:∀x∈ws,Wt4 x)(hz:ws.length<=1000)(j:Vb 800 b)(q:∀t,Sums ws b t->Q (.int t)):z2c.run [.tup (ws.map wtD),vec b] Q X:=by
 walk_at "fn";ac_nf;refine⟨by rw[we];exact szl' (by lia),?_⟩;refine z4v (f:=wtD) (g:=D.int) (P:=λx y=>∃m,most x.1 b m/\y=m+dot x.2 b) (λx w K p =>?_) λz r o =>?_
 .obtain⟨C,ne,len,vb⟩:=u x w;refine⟨rfl,?_⟩;show Ex.run _ _ _ _;unfold z0c z0c z0c;ac_rfl;ac_nf;refine zal j.le C.le ne (szl' (by lia)) λm o e =>?_;ac_nf;refine z2V vb.le j.le ?_;ac_nf;exact p _ ⟨m,⟨o,e⟩,rfl⟩
 refine zka ?_;refine q _ ⟨z,r,λi I =>?_,rfl⟩
 simp_all
theorem z5p {W c:Int}{a b:Sh->Int}:∀l:List Sh,(l.map λs=>(a s+c+b s)*pt W s).sum=(l.map λs=>a s*pt W s).sum+c*sw (λ_=>1) W l+(l.map λs=>b s*pt W s).sum
 | []=>by simp[sw]
 | s::l=>by
  have d:=z5p (W:=W) (c:=c) (a:=a) (b:=b) l;have e:sw (λ_=>1) W (s::l)=pt W s+sw (λ_=>1) W l:=by simp[sw]
  rw[wL,vp,d,e,wL,vp,wL,vp]
  grind
def Flw (W:Int)(h:List P)(sh:List Sh)(x:List P × P)(a:List Sh):Prop:=∃b:Sh->P,(∀s∈sh,Top (· ∈ x.1) (stq h s) (b s))/\sw (wx x.1) W a=(sh.map λs=>(b s).1*pt W s).sum/\sw (wy x.1) W a=(sh.map λs=>(b s).2*pt W s).sum/\sw (λ_=>1) W a=W
theorem zcv {W:Int}{h:List P}{sh:List Sh}(one:sw (λ_=>1) W sh=W):∀{ws:List (List P × P)}{d:List (List Sh)},d.length=ws.length->(∀p∈ws.zip d,Flw W h sh p.1 p.2)->
  ∃ b:Sh->P,(∀s∈sh,Top (MS ws) (stq h s) (b s))/\((ws.zip d).map (cX W)).sum=(sh.map λs=>(b s).1*pt W s).sum/\((ws.zip d).map (cY W)).sum=(sh.map λs=>(b s).2*pt W s).sum
 | [],[],_,_=>by
  have z:∀l:List Sh,(l.map λs=>(0:Int)*pt W s).sum=0:=λl=>by
   induction l with
   | nil=>rfl
   | cons a l A=>simp_all
  refine⟨λ_=>(0,0),λs _=>⟨rfl,λr t =>?_⟩,(z sh).symm,(z sh).symm⟩;rw[t];exact .inr ⟨rfl,jy _⟩
 | x::ws,g::d,o,f=>by
  obtain⟨i,j,m,n,e⟩:=f (x,g) (by simp);obtain⟨b,u,w,y⟩:=zcv one (by simpa using o) λp q=>f p (by simp[q]);refine⟨λs=>Geo.pl _ (b s),λs hs=>zd5 (zhT (j s hs)) (u s hs),?_,?_⟩
  .rw[uT,wL,vp,w];show sw (wx x.1) W g+x.2.1*sw _ W g+_=(sh.map λs=>((i s).1+x.2.1+(b s).1)*pt W s).sum;rw[m,e,z5p,one]
  .rw[uT,wL,vp,y];show sw (wy x.1) W g+x.2.2*sw _ W g+_=(sh.map λs=>((i s).2+x.2.2+(b s).2)*pt W s).sum;rw[n,e,z5p,one]
abbrev coD (co:List (List Sh)):D :=.tup [.str (Str.ofString "course"),.tup (co.map shsD)]
def z8K {ws:List (List P × P)}{x y t:Int}{Q:DK}{X:XP}(I:∀x∈ws,Wt4 x)(hz:ws.length<=12)(ht:tl ws<=60)(pc:Pc x y t)(q1:∀b,b≠(0,0)->Vb 700 b->(∀p,MS ws p->dot p b*t<dot (x,y) b)->Q (brD b))
  (q2:∀o W,0<W->Bt 1400 W->o.length=ws.length->(∀p∈ws.zip o,Gd W p.1.1.length p.2/\sw (λ_=>1) W p.2=W)->Pl ((ws.zip o).map (cX W)).sum ((ws.zip o).map (cY W)).sum W x y t->Q (coD o)):z33.run [.tup (ws.map wtD),pcD x y t] Q X:=by
 walk_at "fn";ac_nf;refine zai I hz ht λh u hl =>?_;have w:=z7b u;have U:Wb 200 h:=λp j=>zhD I (by lia) (u.sub p j);refine z0j (Safe.of_noL (z27 _) (z28 _) _) ?_;ac_rfl;ac_nf;refine z7A w (by lia) U.le pc (λb Z vb q =>?_) λsh W L =>?_
 .refine z0j (Safe.of_noL rfl rfl _) ?_;ac_rfl;ac_nf;refine z3m ?_;refine z5Y rfl ?_;ac_nf;refine q1 b Z vb λp j =>?_;obtain⟨c,hc,le⟩:=u.far (u.in j) b;have:=q c hc;have:=vR (show dot p b<=dot c b from le) (vq pc.pos);lia
 .refine z0j (Safe.of_noL (by show noLs _=true;exact z1O λd r=>by(simp at r;rcases r with rfl | rfl;rfl;exact zh1 sh)) (by show noDs _=true;exact z1P λd r=>by(simp at r;rcases r with rfl | rfl;rfl;exact zh3 sh)) _) ?_;ac_rfl;ac_nf;refine z3m ?_;refine t_no (by decide) ?_;ac_nf;refine⟨by rw[we];exact szl' (by lia),?_⟩;refine z4v (f:=wtD) (g:=shsD) (P:=λx C=>Flw W h sh x C/\Gd W x.1.length C) (λx hx K hK =>?_) λY z hy =>?_
  .ac_nf;refine zak (I x hx) U w L.pos L.bt L.gd L.one λC φ J M N k4 k5 =>?_;exact hK C ⟨⟨φ,J,N,k4,k5⟩,M⟩
  have m:∀p∈ws.zip Y,Flw W h sh p.1 p.2/\Gd W p.1.1.length p.2:=λp j=>by
   obtain⟨i,hi,e⟩:=jV j;rw[u8] at hi;obtain⟨y,R,k⟩:=hy i (by lia);rw[List.getElem_zip] at e;rw[wt (by lia)] at R;rw[<- e,vh R];exact k
  ac_nf;obtain⟨O,J,M,N⟩:=zcv L.one z λp j=>(m p j).1;have eq:∀s∈sh,O s=Geo.cy h s.1:=λs hs=>zhU u (L.gd.each s hs).1.ix (J s hs);refine q2 Y W L.pos L.bt z (λp j=>⟨(m p j).2,by obtain⟨_,_,_,_,k⟩:=(m p j).1;exact k⟩) ⟨pc.pos,pc.cop,?_,?_⟩
  .rw[M,show (sh.map λs=>(O s).1*pt W s)=sh.map λs=>wx h s.1*pt W s from vT λs hs=>by rw[eq s hs];rfl,vN x];exact L.ex.symm
  .rw[N,show (sh.map λs=>(O s).2*pt W s)=sh.map λs=>wy h s.1*pt W s from vT λs hs=>by rw[eq s hs];rfl,vN y];exact L.ey.symm
def zeb {l:List D}{Q:DK}{X:XP}(q:Q (.tup l.reverse)):z26.run [.tup l] Q X:=q
def Rb.of {W:Int}{n:Nat}{sh:List Sh}(b:sh.length<=12)(h:∀s∈sh,Sw W n s):Rb (W*2) (sh.map toR):=⟨by rw[we];lia,λr a _ _=>by
 obtain⟨s,hs,rfl⟩:=wj.mp a;exact⟨jG (h s hs).dv (Int.dvd_mul_right _ _),(h s hs).le⟩⟩
def Rb.app {W:Int}{l m:List Rs}(h:Rb W l)(k:∀r∈m,0<r.2.1->0<r.2.2->r.2.2 ∣ W/\r.2.1<=2*r.2.2)(b:m.length+l.length<=14):Rb W (m++l):=⟨by simp_all,λr a=>by
 rcases wG.mp a with z | z
 .exact k r z
 .exact h.ok r z⟩
def z5w {n:Nat}{sh:List Sh}{W N:Int}{Q:DK}{X:XP}(hn:n<=12)(h0:sh≠[])(u:sh.length<=12)(hW:0<W)(bW:Bt 1400 W)(h:∀s∈sh,Sw W n s/\s.2.1<=s.2.2)(q:∀rs,Rb (W*2) rs->Q (rcD rs)):z0n.run [shsD sh,.int N,.int (n:Int)] Q X:=by
 obtain⟨s,r,j⟩:∃s r,sh=s::r:=by
  cases sh with
  | nil=>exact(h0 rfl).elim
  | cons s r=>exact⟨s,r,rfl⟩
 obtain⟨ss,M⟩:=h s (by rw[j];simp);obtain⟨b1,b2⟩:=ss.bits hW bW;have hl:=congrArg List.length j;rw[wQ] at hl;have L:Rb (W*2) (r.map toR):=Rb.of (by lia) λx g=>(h x (by rw[j];simp[g])).1;obtain⟨k,a,b⟩:=s;obtain⟨g1,g2,g3,Z,g5⟩:=ss;dsimp only at g1 g2 g3 Z g5 M b1 b2;obtain⟨m,Y⟩:=Z;have O:b ∣ W*2:=⟨m*2,by rw[Y,uI]⟩
 have R:2*b ∣ W*2:=⟨m,by rw[Y];grind⟩
 have fin:∀(C:List Rs),C.length<=2->(∀x∈C,0<x.2.1->0<x.2.2->x.2.2 ∣ W*2/\x.2.1<=2*x.2.2)->∀X:XP,pAdd.run [.tup (C.map rsD),.tup (r.map shD)] Q X:=λC hl hh X=>by
  refine z5D (by rw[we,we];exact szl (by lia)) ?_;rw[z6D, <- wA];exact q _ (L.app hh (by rw[we];lia))
 have cr:cutD (sh.map shD) (some 1) none=r.map shD:=by
  rw[z1G,z6p (by decide),j];show List.map shD (List.take (r.length+1 - min 1 (r.length+1)) (List.drop (min 1 (r.length+1)) ((k,a,b)::r)))=_;rw[Nat.min_eq_left (by lia)];simp
 walk_at "fn";ac_nf;have U:atI (sh.map shD) 0=some (shD (k,a,b)):=z0s (f:=shD) (by unfold atI;rw[z3V (by decide) (by lia),j];rfl);refine z0T U ?_;ac_nf;refine z0T U ?_;ac_nf;rw[cr];refine z0k (λi =>?_) (λi =>?_)
 .ac_nf;exact q [] ⟨by simp,λ_ z=>by cases z⟩
 ac_nf;refine z0k (λi =>?_) (λi =>?_)
 .obtain⟨e,o,w⟩:∃e o,sh=e++[o]:=⟨_,_,(List.dropLast_concat_getLast h0).symm⟩
  have ll:=congrArg List.length w;rw[wC,v4] at ll;have cl:cutD (sh.map shD) none (some (-1))=e.map shD:=by
   rw[z1G,z5f,w];simp
  have K:atI (sh.map shD) (-1)=some (shD o):=z0s (f:=shD) (by
   rw[w];unfold atI;rw[show ixN (e++[o]).length (-1)=some e.length by
    unfold ixN;rw[if_neg (by decide),wC,v4];have:(0:Int) <= -1+((e.length+1:Nat):Int):=by lia
    first | (rw[if_pos this];congr 1;lia) | (rw[if_pos (by lia)];congr 1;lia)]
   show (e++[o])[e.length]? = some o;simp)
  ac_nf;rw[cl];ac_nf;refine z0T K ?_;ac_nf;refine z5D (by simp;exact szl (by lia)) ?_;rw[z6D,show ((e.map toR).map rsD++[D.tup [.int (n:Int),.tup [.int o.2.1,.int o.2.2]]])=(e.map toR++[((n:Int),o.2)]).map rsD by simp];have J:=Rb.of (W:=W) u λs hs=>(h s hs).1;refine q _ ⟨by simp;lia,λx g =>?_⟩
  rcases wG.mp g with z | z
  .obtain⟨y,hy,rfl⟩:=wj.mp z;exact J.ok _ (uy (by rw[w];simp[hy]))
  .rw[wo.mp z];exact J.ok (toR o) (uy (by rw[w];simp))
 ac_nf;refine z0k (λi =>?_) (λi =>?_)
 .ac_nf;exact fin [(-1,a,b)] (by simp) (λx g _ _=>by rw[wo.mp g];exact⟨O,g3⟩) _
 ac_nf;refine z0k (λi =>?_) (λi =>?_)
 .ac_nf;refine fin [((k:Int),a,2*b),((k:Int),a,2*b)] (by simp) (λx g _ _ =>?_) _;simp only[wm,wz,vK,or_self] at g;rw[g];exact⟨R,by show a<=2*(2*b);lia⟩
 ac_nf;refine z0k (λi =>?_) (λi =>?_)
 .ac_nf;refine zeb ?_;ac_nf;refine z5D (by simp;exact szl (by lia)) ?_;rw[<- jP,z6D,show ((sh.reverse.map toR).map rsD++[D.tup [.int 0,.tup [.int 0,.int 1]]])=(sh.reverse.map toR++[((0:Int),(0:Int),(1:Int))]).map rsD by simp];have J:=Rb.of (W:=W) (sh:=sh.reverse) (by rw[jU];exact u) λs hs=>(h s (List.mem_reverse.mp hs)).1;refine q _ ⟨by simp;lia,λx g p I =>?_⟩
  rcases wG.mp g with z | z
  .exact J.ok x z p I
  .rw[wo.mp z] at p;exact absurd p (by decide)
 ac_nf;refine z0k (λi =>?_) (λi =>?_)
 .ac_nf;exact fin [((k:Int),0,1)] (by simp) (λx g p _=>by rw[wo.mp g] at p;exact absurd (show (0:Int)<0 from p) (by decide)) _
 ac_nf;refine z0k (λi =>?_) (λi =>?_)
 .ac_nf;exact fin [((k:Int),2*a,2*b)] (by simp) (λx g _ _=>by rw[wo.mp g];exact⟨R,by show 2*a<=2*(2*b);lia⟩) _
 ac_nf;refine z0k (λi =>?_) (λi =>?_)
 .ac_nf;exact fin [((k:Int),a,0)] (by simp) (λx g _ I=>by rw[wo.mp g] at I;exact absurd I (Int.lt_irrefl _)) _
 ac_nf;refine z0k (λi =>?_) (λi =>?_)
 .ac_nf;exact fin [((k:Int),-a,b)] (by simp) (λx g p _=>by rw[wo.mp g] at p;have p:0 < -a:=p;lia) _
 ac_nf;exact fin [((k:Int),a+b,b)] (by simp) (λx g _ _=>by rw[wo.mp g];exact⟨O,by show a+b<=2*b;lia⟩) _
structure Gc (W:Int)(ws:List (List P × P))(co:List (List Sh)):Prop where
 pos:0<W
 bt:Bt 1400 W
 len:co.length=ws.length
 ok:∀p∈ws.zip co,p.2≠[]/\p.2.length<=12/\∀s∈p.2,Sw W p.1.1.length s/\s.2.1<=s.2.2
def toC (a:List (List Sh)):List (List Rs):=a.map λsh=>sh.map toR
def z4A (a:List (List Sh)):a.map shsD=(toC a).map rcD:=by
 unfold toC;rw[wJ];refine vT λsh _ =>?_;show D.tup _=D.tup _;rw[z6D]
def Gc.rb {W:Int}{ws:List (List P × P)}{co:List (List Sh)}(h:Gc W ws co):∀sh∈co,Rb (W*2) (sh.map toR):=λsh hs=>by
 obtain⟨i,e,rfl⟩:=jV hs;have f:=h.len;have a:(ws[i]'(by lia),co[i])∈ws.zip co:=wT.mpr ⟨i,by grind,by simp_all⟩;obtain⟨_,b,d⟩:=h.ok _ a;exact Rb.of b λs hs=>(d s hs).1
def zhq {a:Type}(f:a->D){l:List a}{n:Nat}(h:n<l.length):cutD (l.map f) none (some (n:Int))=(l.take n).map f/\cutD (l.map f) (some ((n:Int)+1)) none=(l.drop (n+1)).map f:=by
 have b:HT.sIx l.length 0 none=0:=rfl;have d:HT.sIx l.length _ none=l.length:=rfl;rw[z1G,z1G,b,z6p (by lia),z6p (by lia),show (n:Int).toNat=n by simp,show ((n:Int)+1).toNat=n+1 by lia,Nat.min_eq_left (by lia),Nat.min_eq_left (by lia)];exact⟨by simp,by rw[vL (by simp_all)]⟩
def zkV {a:Type}(f:a->D){l:List a}{n:Nat}(h:n<=l.length):cutD (l.map f) none (some (n:Int))=(l.take n).map f:=by
 have b:HT.sIx l.length 0 none=0:=rfl;rw[z1G,z6p (by lia)]
 simp_all
def zbf {ws:List (List P × P)}{co:List (List Sh)}{W c:Int}{Q:DK}{X:XP}(Y:∀x∈ws,Wt4 x)(hz:ws.length<=12)(O:ws≠[])(o:Gc W ws co)(q:∀K:List (List Rs),K.length<=100->(∀e∈K,Rb (W*2) e)->Q (.tup (K.map rcD))):z0p.run [.tup (ws.map wtD),.tup (co.map shsD),.int c] Q X:=by
 have hp:=ve.mpr O;have hl:=o.len;have b:=o.rb;walk_at "fn";ac_nf;refine z0E (by decide) (by decide) (by decide) λa2 w0 w1 =>?_;ac_nf;rw[we];refine z0E (by decide) (by decide) (by lia) λm a0 a1 =>?_;obtain⟨j,rfl⟩:∃j:Nat,m=j:=⟨m.toNat,by lia⟩
 ac_nf;refine z0k (λu =>?_) (λu =>?_)
 .ac_nf;have:cutD (co.map shsD) none (some (-1))=(toC co.dropLast).map rcD:=by
   rw[z1G,z5f,z4A]
  rw[this];refine q _ (by unfold toC;rw[we,List.length_dropLast];lia) λe hr =>?_;obtain⟨sh,hs,rfl⟩:=wj.mp hr;exact b _ (List.dropLast_subset _ hs)
 ac_nf;refine z0k (λw =>?_) (λw =>?_)
 .ac_nf;have:cutD (co.map shsD) none (some 1)=(co.take 1).map shsD:=zkV shsD (l:=co) (n:=1) (by lia);rw[this];refine z5D (by simp;exact szl (by lia)) ?_;rw[<- wA,z4A];refine q _ (by unfold toC;rw[we,wC,uf];lia) λe hr =>?_;obtain⟨sh,hs,rfl⟩:=wj.mp hr
  rcases wG.mp hs with z | z
  .exact b _ z
  .exact b _ (uH z)
 obtain⟨x,Z,ex⟩:=z3W (xs:=ws) (i:=(j:Int)) (by lia) (by lia);obtain⟨sh,hs,g⟩:=z3W (xs:=co) (i:=(j:Int)) (by lia) (by lia);have ix:ws[j]? = some x:=by
  unfold atI at ex;rw[z3V (by lia) (by lia)] at ex;have ex:ws[((j:Nat):Int).toNat]? = some x:=ex;simpa using ex
 have is:co[j]? = some sh:=by
  unfold atI at g;rw[z3V (by lia) (by lia)] at g;have g:co[((j:Nat):Int).toNat]? = some sh:=g;simpa using g
 have U:(x,sh)∈ws.zip co:=by
  refine wD (i:=j) ?_;rw[List.getElem?_zip_eq_some];exact⟨ix,is⟩
 obtain⟨C,I,J⟩:=o.ok _ U;have y:=(Y x Z).len;ac_nf;refine z0T (z0s g) ?_;ac_nf;refine z0T (z0s ex) ?_;ac_nf;rw[we];refine z5w y C I o.pos o.bt J λe R =>?_;have L:noL (rcD e)=true/\noD (rcD e)=true:=⟨z1O λd p=>by(obtain⟨x,_,rfl⟩:=wj.mp p;rfl),z1P λd p=>by(obtain⟨x,_,rfl⟩:=wj.mp p;rfl)⟩
 refine z0j (Safe.of_noL L.1 L.2 _) ?_;ac_rfl;obtain⟨M,N⟩:=zhq shsD (l:=co) (n:=j) (by lia);ac_nf;rw[M];refine z5D (by simp;exact szl (by lia)) ?_;ac_nf;rw[N];refine z5D (by simp;exact szl (by lia)) ?_;rw[z4A,z4A,show (toC (co.take j)).map rcD++[rcD e]++(toC (co.drop (j+1))).map rcD=(toC (co.take j)++[e]++toC (co.drop (j+1))).map rcD by simp];have l1:(toC (co.take j)).length=j:=by unfold toC;rw[we,uf];lia
 have l2:(toC (co.drop (j+1))).length=ws.length - (j+1):=by unfold toC;rw[we,uQ];lia
 refine q _ (by rw[wC,wC,v4];lia) λr hr =>?_
 rcases wG.mp hr with hr | hr
 .rcases wG.mp hr with hr | hr
  .obtain⟨s,f,rfl⟩:=wj.mp hr;exact b _ (uH f)
  .rw[wo.mp hr];exact R
 .obtain⟨s,f,rfl⟩:=wj.mp hr;exact b _ (List.mem_of_mem_drop f)
def zfG {ws:List (List P × P)}:Da 60 (.tup (ws.map wtD)):=Da.tup.mpr λd a=>by
 obtain⟨x,_,rfl⟩:=wj.mp a;refine Da.tup.mpr λd a =>?_;simp[wm,wz,vK] at a
 rcases a with rfl | rfl
 .exact Da.vecs x.1
 .exact Da.vec x.2
abbrev rwD (rc:List (List Rs)):D :=.tup [.str (Str.ofString "course"),.tup (rc.map rcD)]
abbrev slD (b:P):D :=.tup [.str (Str.ofString "sailed"),vec b]
inductive An (d:D):Prop
 | course (rc:List (List Rs)) (W:Int) (hW:0<W) (bW:Bt 1500 W) (hl:rc.length<=100) (hb:∀rs∈rc,Rb W rs) (e:d=rwD rc)
 | barred (b:P) (vb:Vb 704 b) (e:d=brD b)
 | sailed (b:P) (e:d=slD b)
def ziB (b:List (List Rs)):noL (.tup (b.map rcD))=true/\noD (.tup (b.map rcD))=true:=
 ⟨z1O λd a=>by(obtain⟨e,_,rfl⟩:=wj.mp a;exact z1O λd a=>by(obtain⟨x,_,rfl⟩:=wj.mp a;rfl)),z1P λd a=>by(obtain⟨e,_,rfl⟩:=wj.mp a;exact z1P λd a=>by(obtain⟨x,_,rfl⟩:=wj.mp a;rfl))⟩
def An.no {d:D}(h:An d):noL d=true/\noD d=true:=by
 cases h with
 | course i W l j n m e=>
  subst e;obtain⟨f,g⟩:=ziB i
  constructor
  .refine z1O λd a =>?_;simp at a
   rcases a with rfl | rfl
   .rfl
   .exact f
  .refine z1P λd a =>?_;simp at a
   rcases a with rfl | rfl
   .rfl
   .exact g
 | barred b vb e=>subst e;exact⟨rfl,rfl⟩
 | sailed b e=>subst e;exact⟨rfl,rfl⟩
def zdh {ws:List (List P × P)}{x y t:Int}{d:D}{X:XP}(f:∀x∈ws,Wt4 x)(hz:ws.length<=12)(pc:Pc x y t)(h:An d):
  z15.run [.tup (ws.map wtD),pcD x y t,d] (λr=>∃v,r = .bl v/\∀(Q:DK) (X:XP),Q (.bl v)->z1E.run [.tup (ws.map wtD),pcD x y t,d] Q X) X:=by
 cases h with
 | course U W g j hl o e=>
  subst e;walk_at "fn";ac_nf;refine z3m ?_;refine z5Y rfl ?_;ac_nf;refine z5x (by lia) (by lia) g j o ?_
  cases ok:okC W ws U with
  | false=>
   ac_nf;refine⟨false,rfl,λQ X q =>?_⟩;walk_at "fn";ac_nf;refine z3m ?_;refine z5Y rfl ?_;ac_nf;exact z7H f hz (by lia) g j o (λ_=>q) λz=>by rw[ok] at z;cases z
  | true=>
   ac_nf;refine zio f hz (by lia) g j o ok λu v i I =>?_;ac_nf;refine zkl (l:=[.int u,.int v,.int i]) (r:=[.int x,.int y,.int t]) (Da3 u v i) (Da3 x y t) ?_;rw[show deq (.tup [.int u,.int v,.int i]) (.tup [.int x,.int y,.int t])=decide (u=x/\v=y/\i=t) from deq3 u v i x y t];refine⟨_,rfl,λQ X q =>?_⟩;walk_at "fn";ac_nf;refine z3m ?_;refine z5Y rfl ?_;ac_nf;refine z7H f hz (by lia) g j o (λz=>by rw[ok] at z;cases z) λ_ a b c J =>?_;obtain⟨rfl,rfl,rfl⟩:=I.eq g J;exact q
 | barred b vb e=>
  subst e;have L:∀m,Sums ws b m->Bt 1000 m:=λm w=>by
   obtain⟨_,p,I,e⟩:=z9q w;have v:=zhD f (by lia) I;rw[<- e];exact Bt.le (Bt.add (Bt.mul v.1 vb.1) (Bt.mul v.2 vb.2))
  obtain⟨R,bx,Z,M,_⟩:=id pc;obtain⟨v1,v2⟩:=id vb;walk_at "fn";ac_nf;refine z3m ?_;refine t_no (by decide) ?_;ac_nf;refine z3m ?_;refine z5Y rfl ?_;ac_nf;refine zg6 f (by lia) vb.le λm w =>?_;have Y:=L m w;have O:∀{Q:DK}{X:XP},Q (.bl (decide (m*t<b.1*x+b.2*y)))->z0X.run [pcD x y t,vec b,.int m] Q X:=λ{Q X} k=>by
   walk_at "fn";ac_nf;exact k
  refine O ⟨_,rfl,λQ X q =>?_⟩;have N:∀{Q:DK}{X:XP},Q (.int (b.1*x+b.2*y))->z0o.run [vec b,pcD x y t] Q X:=λ{Q X} k=>by
   walk_at "fn";ac_nf;exact k
  walk_at "fn";ac_nf;refine z3m ?_;refine t_no (by decide) ?_;ac_nf;refine z3m ?_;refine z5Y rfl ?_;ac_nf;have K:∀{Q:DK}{X:XP},Q (.bl (decide (m*t<b.1*x+b.2*y)))->z13.run [.tup (ws.map wtD),vec b,pcD x y t] Q X:=λ{Q X} k=>by
   walk_at "fn";ac_nf;refine N ?_;ac_nf;refine zaj f vb.le λm' C =>?_;obtain rfl:=zfV w C;ac_nf;exact k
  exact K q
 | sailed b e=>
  subst e;walk_at "fn";ac_nf;refine z3m ?_;refine t_no (by decide) ?_;ac_nf;refine z3m ?_;refine t_no (by decide) ?_;ac_nf;refine⟨false,rfl,λQ X q =>?_⟩;walk_at "fn";ac_nf;refine z3m ?_;refine t_no (by decide) ?_;ac_nf;refine z3m ?_;refine t_no (by decide) ?_;ac_nf;exact q
def zkA {W:Int}{n:Nat}{a:List Sh}(f:0<W)(h:∀s∈a,Sw W n s)(one:sw (λ_=>1) W a=W):∀s∈a,s.2.1<=s.2.2:=λs hs=>by
 have g:1*pt W s<=W:=by
  refine Int.le_trans ?_ (Int.le_of_eq one);refine(z3H λy i =>?_).2 _ (wj.mpr ⟨s,hs,rfl⟩);obtain⟨j,b,rfl⟩:=wj.mp i;have:=((h j b).pt_le f).1;lia
 have e:=z6K (h s hs).dv
 rcases v6 s.2.2 s.2.1 with z | z
 .have l:=jD z f;have d:=vR g (vq (h s hs).bot);rw[vN W] at d;rw[Int.one_mul] at d;lia
 .exact z
def Gc.an {W:Int}{ws:List (List P × P)}{a:List (List Sh)}(hz:ws.length<=12)(h:Gc W ws a):An (coD a):=by
 refine .course (toC a) (W*2) (by have:=h.pos;lia) (Bt.le (Bt.mul h.bt (z08 (n:=2) (by decide)))) (by unfold toC;rw[we,h.len];lia) (λd b =>?_) (by show D.tup _=D.tup _;rw[z4A]);obtain⟨sh,hs,rfl⟩:=wj.mp b;exact h.rb sh hs
def zfo {ws:List (List P × P)}(a:ws≠[]):deq (.tup (ws.map wtD)) (.tup [])=false:=by
 cases ws with
 | nil=>simp_all
 | cons x l=>rfl
def zbi {ws:List (List P × P)}{x y t c:Int}{Q:DK}{X:XP}(hw:∀x∈ws,Wt4 x)(hz:ws.length<=12)(ht:tl ws<=60)(pc:Pc x y t)(q:∀M:List D,(∀d∈M,An d)->Q (.lst M)):z0Z.run [.tup (ws.map wtD),pcD x y t,.int c] Q X:=by
 have O:∀(M:List D) (ρ:Pu.Env),(∀d∈M,An d)->zcV (.lst M) ρ:=λM ρ h d e=>Safe.of_noL (h d e).no.1 (h d e).no.2 _;have U:∀co:List (List Sh),noL (.tup (co.map shsD))=true/\noD (.tup (co.map shsD))=true:=λco=>by rw[z4A];exact ziB _
 have own:∀{Q:DK}{X:XP},(∀co W,Gc W ws co->Q (.tup (co.map shsD)))->z0h.run [.tup (ws.map wtD),.int c] Q X:=λ{Q X} k=>z9u hw hz λco W W0 Y f ho=>k co W ⟨W0,Y.le,f.len,λp N=>⟨(ho p N).1,(ho p N).2.1,λs hs=>⟨(f.ok p N).2 s hs,(ho p N).2.2 s hs⟩⟩⟩;have K:∀{Q:DK}{X:XP}{co:List (List Sh)}{W c:Int},ws≠[]->Gc W ws co->(∀r,An (rwD r)->Q (.tup (r.map rcD)))->z0p.run [.tup (ws.map wtD),.tup (co.map shsD),.int c] Q X:=λ{Q X co W c} j f k=>zbf hw hz j f λr Z hb=>k r (.course r (W*2) (by have:=f.pos;lia) (Bt.le (Bt.mul f.bt (z08 (n:=2) (by decide)))) Z hb rfl);walk_at "fn";ac_nf;refine z8K hw hz ht pc (λb b0 vb a1 =>?_) λco W hW Y Z hg pl =>?_
 .refine z0j (Safe.of_noL rfl rfl _) ?_;ac_rfl;ac_nf;refine own λg W' f =>?_;refine z0j (Safe.of_noL (U _).1 (U _).2 _) ?_;ac_rfl;ac_nf;refine z0E (by decide) (by decide) (by decide) λu u0 u1 =>?_;ac_nf;refine z0E (by decide) (by decide) (by decide) λv v0 v1 =>?_;ac_nf;obtain⟨A,C,i,lA⟩:∃A,A=[brD b,coD g,brD (u - 4,v - 4),brD (0,0),slD (u - 4,v - 4)]/\(∀d∈A,An d)/\A.length<=5:=⟨_,rfl,λd e=>by
   simp only[wm,wz,vK] at e
   rcases e with rfl | rfl | rfl | rfl | rfl
   .exact .barred b ⟨vb.1.le,vb.2.le⟩ rfl
   .exact f.an hz
   .exact .barred (u - 4,v - 4) ⟨Bt.le (m:=4) (z08 (by lia)),Bt.le (m:=4) (z08 (by lia))⟩ rfl
   .exact .barred (0,0) ⟨Bt.le (m:=1) (z08 (by decide)),Bt.le (m:=1) (z08 (by decide))⟩ rfl
   .exact .sailed _ rfl,by simp⟩
  refine⟨O _ _ (by rw[<- C];exact i),?_⟩;rw[<- C];clear C;ac_rfl;refine zdn (λL=>∃A:List D,(∀d∈A,An d)/\A.length<=6/\L=[.s (.tup (ws.map wtD)),.s (pcD x y t),.s (.int c),.s (brD b),.s (.tup (g.map shsD)),.s (vec (u - 4,v - 4)),.o (.lst A)]) ?_ ?_
  .ac_nf;refine zbQ zfG (Da.tup.mpr λd e=>by cases e) ?_
   by_cases j:ws=[]
   .subst j;rw[show deq (.tup (([]:List (List P × P)).map wtD)) (.tup [])=true by decide +kernel];refine z2L (z49 ?_);ac_nf;exact⟨A,i,by lia,rfl⟩
   .rw[zfo j];refine z2L (z3e ?_);refine z3R (z4g (l:=[]) (z0w rfl ?_));ac_nf;refine K j f λr I =>?_;ac_nf;refine⟨szl' (by lia),Safe.of_noL I.no.1 I.no.2 _,?_⟩;ac_rfl;ac_nf;refine z3m ?_;refine t_no (by decide) ?_;ac_nf;exact⟨A++[rwD r],λd e=>(wG.mp e).elim (i d) λz=>by rw[wo.mp z];exact I,by simp;lia,rfl⟩
  rintro ρ ⟨A,i,lA,rfl⟩;ac_nf;refine z3m ?_;refine z5Y rfl ?_;refine z3R (z4g (l:=[]) (z0w rfl ?_));obtain⟨b1,b2⟩:=vb;ac_nf;refine⟨szl' (by lia),Safe.of_noL rfl rfl _,?_⟩;ac_rfl;refine z4g (l:=[]) (z0w rfl ?_);ac_nf;refine⟨szl' (by simp;lia),Safe.of_noL rfl rfl _,?_⟩;ac_rfl;ac_nf;refine q _ λd e =>?_
  rcases wG.mp e with z | z
  .rcases wG.mp z with z | z
   .exact i d z
   .rw[wo.mp z];exact .barred (-b.1,-b.2) ⟨Bt.le (Bt.neg b1),Bt.le (Bt.neg b2)⟩ rfl
  .rw[wo.mp z];exact .barred (b.1*3,b.2*3) ⟨Bt.le (Bt.mul b1 (z08 (n:=2) (by decide))),Bt.le (Bt.mul b2 (z08 (n:=2) (by decide)))⟩ rfl
 .have R:Gc W ws co:=⟨hW,Y,Z,λp N=>by
   obtain⟨G,one⟩:=hg p N;have w:=λs hs=>(G.each s hs).1;refine⟨λz =>?_,by have:=G.few;lia,λs hs=>⟨w s hs,zkA hW w one s hs⟩⟩;rw[z] at one;have:(0:Int)=W:=one;lia⟩
  refine z0j (Safe.of_noL (R.an hz).no.1 (R.an hz).no.2 _) ?_;ac_rfl;ac_nf;refine own λg W' f =>?_;refine z0j (Safe.of_noL (U _).1 (U _).2 _) ?_;ac_rfl;ac_nf;refine z0E (by decide) (by decide) (by decide) λu u0 u1 =>?_;ac_nf;refine z0E (by decide) (by decide) (by decide) λv v0 v1 =>?_;ac_nf;obtain⟨A,C,i,lA⟩:∃A,A=[coD co,coD g,brD (u - 4,v - 4),brD (0,0),slD (u - 4,v - 4)]/\(∀d∈A,An d)/\A.length<=5:=⟨_,rfl,λd e=>by
   simp only[wm,wz,vK] at e
   rcases e with rfl | rfl | rfl | rfl | rfl
   .exact R.an hz
   .exact f.an hz
   .exact .barred (u - 4,v - 4) ⟨Bt.le (m:=4) (z08 (by lia)),Bt.le (m:=4) (z08 (by lia))⟩ rfl
   .exact .barred (0,0) ⟨Bt.le (m:=1) (z08 (by decide)),Bt.le (m:=1) (z08 (by decide))⟩ rfl
   .exact .sailed _ rfl,by simp⟩
  refine⟨O _ _ (by rw[<- C];exact i),?_⟩;rw[<- C];clear C;ac_rfl;refine zdn (λL=>∃A:List D,(∀d∈A,An d)/\L=[.s (.tup (ws.map wtD)),.s (pcD x y t),.s (.int c),.s (coD co),.s (.tup (g.map shsD)),.s (vec (u - 4,v - 4)),.o (.lst A)]) ?_ ?_
  .ac_nf;refine zbQ zfG (Da.tup.mpr λd e=>by cases e) ?_
   by_cases j:ws=[]
   .subst j;rw[show deq (.tup (([]:List (List P × P)).map wtD)) (.tup [])=true by decide +kernel];refine z2L (z49 ?_);ac_nf;exact⟨A,i,rfl⟩
   .rw[zfo j];refine z2L (z3e ?_);refine z3R (z4g (l:=[]) (z0w rfl ?_));ac_nf;refine K j f λr I =>?_;ac_nf;refine⟨szl' (by lia),Safe.of_noL I.no.1 I.no.2 _,?_⟩;ac_rfl;ac_nf;refine z3m ?_;refine z5Y rfl ?_;refine z4g (l:=[]) (z0w rfl ?_);ac_nf;refine K j R λa0 J =>?_;ac_nf;refine⟨szl' (by simp;lia),Safe.of_noL J.no.1 J.no.2 _,?_⟩;ac_rfl;exact⟨A++[rwD r]++[rwD a0],λd e=>(wG.mp e).elim (λz=>(wG.mp z).elim (i d) λz=>by rw[wo.mp z];exact I) λz=>by rw[wo.mp z];exact J,rfl⟩
  rintro ρ ⟨A,i,rfl⟩;ac_nf;refine z3m ?_;refine t_no (by decide) ?_;ac_nf;exact q A i
def zii {ns:List Int}{Q:DK}{X:XP}(q:∀m,0<m->m<=1000000000->Q (.int m)):z1r.run [.lst (ns.map .int)] Q X:=by
 walk_at "fn";ac_nf;refine zbg λc f =>?_;ac_nf;have g:(10:Int) ^ (9:Int).toNat=1000000000:=by decide
 refine z0k (λh =>?_) (λh =>?_)
 .have o:=ve.mpr (f h);obtain⟨v,_,e⟩:=z3W (xs:=ns) (i:=0) (by decide) (by lia);ac_nf;refine z0T (z0s e) ?_;ac_nf;refine menu (ns:=[3,12,10 ^ (9:Int).toNat]) (by lia) (by show v / 2 % 3<3;lia) λm b =>?_;simp only[wm,wz,vK,g] at b;exact q m (by lia) (by lia)
 .ac_nf;refine zbg λc f =>?_;ac_nf;refine z0E (by decide) (by decide) (by decide) λr j r1 =>?_;ac_nf;refine menu (ns:=[3,3,12,10 ^ (9:Int).toNat]) j (by show r<4;exact r1) λm b =>?_;simp only[wm,wz,vK,g] at b;exact q m (by lia) (by lia)
def zh9 (ns:List Int)(h:ns.length<=63):z5S.run [.lst (ns.map .int)] (λd=>d = .bl true) (λ_=>False):=by
 walk_at "fn";ac_nf;refine zag h λJ q x M =>?_;refine z0j (Safe.of_noL (zh0 _) (zh2 _) _) ?_;ac_rfl;ac_nf;refine zbS (by simp;exact szl (by lia)) ?_;rw[show D.int 0::([]:List D)++ns.map D.int=(0::ns).map .int by simp];ac_nf;rw[z1G];generalize ((0::ns).drop (HT.sIx (0::ns).length 0 (some (-4)))).take (HT.sIx (0::ns).length (0::ns).length none - HT.sIx (0::ns).length 0 (some (-4)))=Q;refine z0m (f :=.int) (λj i=>∃y C b g:B,i=[.s (.lst (ns.map .int)),.s (.tup (J.map wtD)),y,C,b,g]) ⟨_,_,_,_,rfl⟩ ?_ ?_
 .rintro j c r i e ⟨y,C,b,g,rfl⟩;show Sm.run _ _ _ _ _;ac_rfl;ac_nf;refine zii λm N R =>?_;ac_nf;refine zim q x N (by lia) λu v t pc =>?_;refine z0j (Safe.of_noL rfl rfl _) ?_;ac_rfl;ac_nf;refine zbi q x M pc λI p =>?_;ac_nf;rw[show I=I.map id by simp];refine z0m (f:=id) (λj i=>∃b g:B,i=[.s (.lst (ns.map .int)),.s (.tup (J.map wtD)),.s (.int c),.s (pcD u v t),b,g]) ⟨_,_,rfl⟩ ?_ ?_
  .rintro j d r i e ⟨b,g,rfl⟩;have L:=p d (by rw[e];simp);show Sm.run _ _ _ _ _;ac_rfl;ac_nf;refine z15.mono _ _ _ _ _ (λU O =>?_) (λ_ z=>z) (zdh q x pc L);obtain⟨w,K,o⟩:=O;subst K;refine z0j (Safe.of_noL rfl rfl _) ?_;ac_rfl;ac_nf;refine z2L (zfS rfl ?_);ac_nf;refine o _ _ ?_;refine zkd ?_;refine z2L (z5Y rfl ?_);ac_nf;exact⟨_,_,rfl⟩
  rintro i ⟨b,g,rfl⟩;exact⟨_,_,_,_,rfl⟩
 rintro i ⟨y,C,b,g,rfl⟩;ac_nf
 rfl
open PySem.Spec PyProof.Rows
def Std (K:W.Frag)(n:Str)(st:Stmt)(f:Addr):Prop:=∃(e:Value) (g:Option Addr) (sl:Array (Option Value)) (kV d h:Value) (an:Option Addr) (a b:Value),
 W.nsIn K mainGlobals n=some (some (.ref f))/\K.lookup f=some ⟨e,g,.func (W.fnOf n n (z34 st) (z1F st) (z09 st) .none kV d h an a b),sl⟩/\W.codeIn K a n=true/\W.keepIn K (.ref f)=true
def Std.mk {K:W.Frag}{n:Str}{st:Stmt}{f:Addr}{e:Value}{g:Option Addr}{sl:Array (Option Value)}{kV d h:Value}{an:Option Addr}{b ct:Value}(a:W.nsIn K mainGlobals n=some (some (.ref f)))(l:K.lookup f=some ⟨e,g,.func (W.fnOf n n (z34 st) (z1F st) (z09 st) .none kV d h an b ct),sl⟩)(c:W.codeIn K b n=true)(k:W.keepIn K (.ref f)=true):Std K n st f:=⟨e,g,sl,kV,d,h,an,b,ct,a,l,c,k⟩
section
variable {P:Program}{w:World}{K:W.Frag}{mg:WmP}{h base:Heap}{CX:CXT}{k:Nat}{n:Str}{st:Stmt}{f fa:Addr}{ps:List Str}{sp:Sp}
def zl3 (X:K.In h)(G:h.Ns mainGlobals mg)(d:Std K n st f)
  (o:∀(kV g m:Value) (an:Option Addr) (e ct:Value) (b:List Value),b.length=ps.length->bindArgs (W.fnOf n n (z34 st) (z1F st) (z09 st) .none kV g m an e ct) ⟨b,[]⟩=pure (ps.zip b))
  (ok:∀i,Fun K n n st f i->FnOk P w K mg base CX k f i ps sp):Cal P w K mg base CX k n ps sp:=by
 obtain⟨p,q,sl,kV,g,m,an,e,ct,a,l,c,j⟩:=d;have F:=zfA (st:=st) l c j;exact⟨_,_,ok _ F,W.mg_of X G a,j,F.binds (ps:=ps) o⟩
def zhS {x:Str}(X:K.In h)(G:h.Ns mainGlobals mg)(d:Std K n st f)(j:mg n=some (.ref fa))
  (o:∀(kV i m:Value) (an:Option Addr) (g ct:Value) (s:Shared) (v:Value),BindsTo s (W.fnOf n n (z34 st) (z1F st) (z09 st) .none kV i m an g ct) ⟨[v],[]⟩ [(x,v)])
  (ok:∀b:Heap,K.In b->b.Ns mainGlobals mg->∀e,Fun K n n st fa e->FnOk P w K mg b CX k fa e [x] sp):
  ∃e:FuncData,(∀(s:Shared) (v:Value),BindsTo s e ⟨[v],[]⟩ [(x,v)])/\∀b:Heap,K.In b->b.Ns mainGlobals mg->FnOk P w K mg b CX k fa e [x] sp:=by
 obtain⟨t,u,sl,kV,i,m,an,g,ct,a,l,c,q⟩:=d
 cases j.symm.trans (W.mg_of X G a)
 exact⟨_,λs v=>o kV i m an g ct s v,λb p r=>ok b p r _ (zfA (st:=st) l c q)⟩
end
structure Sc (N ps:List Str)(sc:Scope):Prop where
 fs:z4R N ps sc
 nm:∀x∈N,Nm sc x
def Sc.of {N ps:List Str}{sc:Scope}(h:(sc.kind = .function/\sc.isCoroutine=false/\sc.isGenerator=false)/\N.Nodup/\N.take ps.length=ps/\(∀y∈sc.names,y.2 ≠ .free)/\∀x∈N,(sc.names.lookup x=some .local\/sc.names.lookup x=some .cell)/\(x == ("__debug__":Str))=false/\(x == ("__classdict__":Str))=false):Sc N ps sc:=
 ⟨⟨h.1.1,h.1.2.1,h.1.2.2,h.2.1,h.2.2.1,λx a=>(h.2.2.2.2 x (uH (by rw[h.2.2.1];exact a))).1,h.2.2.2.1⟩,λx a=>⟨(h.2.2.2.2 x a).1,(h.2.2.2.2 x a).2.1,(h.2.2.2.2 x a).2.2⟩⟩
section
variable {CX:CXT}{P:Program}{w:World}{K:W.Frag}{mg:WmP}{base:Heap}{N ps:List Str}{qual:Str}{sc:Scope}{f:Addr}{cdv:Value}{A:Around}{outer:List PySem.Env}{s:Shared}{H:Hp}{E:XK}{xe:WvP}{x:Str}{pos pos2:Pos}{e:Expr}{te:TE}{i:Nat}
def vx (S:Sc N ps sc)(a:N[i]? = some x):QE ((cxOf CX P w K mg base N qual sc f cdv A outer s H E).wish xe) (.Name x pos) (tVar i):=vg i (S.nm x (wD a)) a
def nx (S:Sc N ps sc)(a:N[i]? = some x):QG ((cxOf CX P w K mg base N qual sc f cdv A outer s H E).wish xe) (.Name x pos) (z2N i):=ng i S.fs.nd (S.nm x (wD a)) a
def ax (S:Sc N ps sc)(a:N[i]? = some x)(b:QE ((cxOf CX P w K mg base N qual sc f cdv A outer s H E).wish xe) e te)(hs:swapsWith e (some (.Name x pos2)) pos.line ((cxOf CX P w K mg base N qual sc f cdv A outer s H E).wish xe).env=pure false):QS ((cxOf CX P w K mg base N qual sc f cdv A outer s H E).wish xe) (.Assign [.Name x pos2] e pos) (tAsg te (z2N i)):=ag i S.fs.nd (S.nm x (wD a)) b a hs
end
def zlH {X:Cx}{E:XK}{op:BoolOp}{es:List Expr}{a:Pos}{x:Ex}(h:QXW X E (.BoolOp op es a) x):QXT X E (.BoolOp op es a) x:=QW.pt h
def tgN:Expr->List Str
 | .Name x _=>[x]
 | .Tuple a _ _=>a.filterMap fun | .Name x _=>some x | _=>none
 | _=>[]
def z1H (b:Expr)(a:List Nat)(N:List Str):List Str:=tgN b++a.map λj=>N.getD j ""
section
variable {X:Cx}{E:XK}{N ps:List Str}{sc scope:Scope}{target iter elt c:Expr}{src x y:Ex}{nt iy:Nat}{js:List Nat}{tg:Tg}{pos py spos:Pos}{z:Str}
def zdM (S:Sc N ps sc)(f:X.N=N)(b:X.env.scope=sc)(g:X.calm=true)(j:QXI X E target iter src)(l:scope.kind = .function)(d:z5W (z1H target js N) N nt js scope.names sc.names=true/\(z1H target js N).Nodup)(e:tg.slots.all (· < nt)=true)
  (i:∀(C:Addr) (s:Shared) (H:Hp) (a:List Addr),(z1H target js N).Nodup->QG (X.compG scope (z1H target js N) C s H a) target (tgt X.K tg))
  (h:∀(C:Addr) (s:Shared) (H:Hp) (a:List Addr),(z1H target js N).Nodup->QX (X.compG scope (z1H target js N) C s H a) E0 elt x) (hs:∀x,foldedSetIterable iter X.env x=pure x):QF X E (.ListComp elt [⟨target,iter,[],0⟩] scope pos) (.comp nt js tg src none x):=
 zbn (ct:=none) g j l (z5W.ok f b d.1) e (λC s H a=>i C s H a d.2) trivial (λC s H a=>h C s H a d.2) hs
def zdL (S:Sc N ps sc)(f:X.N=N)(b:X.env.scope=sc)(g:X.calm=true)(j:QXI X E target iter src)(l:scope.kind = .function)(d:z5W (z1H target js N) N nt js scope.names sc.names=true/\(z1H target js N).Nodup)(e:tg.slots.all (· < nt)=true)
  (i:∀(C:Addr) (s:Shared) (H:Hp) (a:List Addr),(z1H target js N).Nodup->QG (X.compG scope (z1H target js N) C s H a) target (tgt X.K tg))
  (m:∀(C:Addr) (s:Shared) (H:Hp) (a:List Addr),(z1H target js N).Nodup->QXT (X.compG scope (z1H target js N) C s H a) E0 c y)
  (h:∀(C:Addr) (s:Shared) (H:Hp) (a:List Addr),(z1H target js N).Nodup->QX (X.compG scope (z1H target js N) C s H a) E0 elt x) (hs:∀x,foldedSetIterable iter X.env x=pure x):QF X E (.ListComp elt [⟨target,iter,[c],0⟩] scope pos) (.comp nt js tg src (some y) x):=
 zbn (ct:=some c) g j l (z5W.ok f b d.1) e (λC s H a=>i C s H a d.2) (λC s H a=>m C s H a d.2) (λC s H a=>h C s H a d.2) hs
def zdI (S:Sc N ps sc)(d:X.N=N)(b:X.env.scope=sc)(m:N[iy]? = some z)(o:sc.names.lookup z=some .local)(h:X.calm=true)(l:QXI X E target iter src)(n:scope.kind = .function)(e:z5W (z1H target js N) N nt js scope.names sc.names=true/\(z1H target js N).Nodup)(g:tg.slots.all (· < nt)=true)
  (j:∀(C:Addr) (s:Shared) (H:Hp) (a:List Addr),(z1H target js N).Nodup->QG (X.compG scope (z1H target js N) C s H a) target (tgt X.K tg))
  (i:∀(C:Addr) (s:Shared) (H:Hp) (a:List Addr),(z1H target js N).Nodup->QX (X.compG scope (z1H target js N) C s H a) E0 elt x) (f:swapsWith (.ListComp elt [⟨target,iter,[],0⟩] scope pos) (some (.Name z py)) spos.line X.env=pure true) (hs:∀x,foldedSetIterable iter X.env x=pure x):
  QS X (.Assign [.Name z py] (.ListComp elt [⟨target,iter,[],0⟩] scope pos) spos) (tAsg (tf X.K X.mg E (.comp nt js tg src none x)) (z2N iy)):=
 zbm (ct:=none) (by rw[d];exact S.fs.nd) (by simp_all) (by simp_all) h l n (z5W.ok d b e.1) g (λC s H a=>j C s H a e.2) trivial (λC s H a=>i C s H a e.2) f hs
def zdH (S:Sc N ps sc)(d:X.N=N)(b:X.env.scope=sc)(m:N[iy]? = some z)(o:sc.names.lookup z=some .local)(h:X.calm=true)(l:QXI X E target iter src)(n:scope.kind = .function)(e:z5W (z1H target js N) N nt js scope.names sc.names=true/\(z1H target js N).Nodup)(g:tg.slots.all (· < nt)=true)
  (j:∀(C:Addr) (s:Shared) (H:Hp) (a:List Addr),(z1H target js N).Nodup->QG (X.compG scope (z1H target js N) C s H a) target (tgt X.K tg))
  (p:∀(C:Addr) (s:Shared) (H:Hp) (a:List Addr),(z1H target js N).Nodup->QXT (X.compG scope (z1H target js N) C s H a) E0 c y)
  (i:∀(C:Addr) (s:Shared) (H:Hp) (a:List Addr),(z1H target js N).Nodup->QX (X.compG scope (z1H target js N) C s H a) E0 elt x) (f:swapsWith (.ListComp elt [⟨target,iter,[c],0⟩] scope pos) (some (.Name z py)) spos.line X.env=pure true) (hs:∀x,foldedSetIterable iter X.env x=pure x):
  QS X (.Assign [.Name z py] (.ListComp elt [⟨target,iter,[c],0⟩] scope pos) spos) (tAsg (tf X.K X.mg E (.comp nt js tg src (some y) x)) (z2N iy)):=
 zbm (ct:=some c) (by rw[d];exact S.fs.nd) (by simp_all) (by simp_all) h l n (z5W.ok d b e.1) g (λC s H a=>j C s H a e.2) (λC s H a=>p C s H a e.2) (λC s H a=>i C s H a e.2) f hs
end
structure Te where
 k:Nat
 x:Str
 i:Nat
 np:Nat
 N:List Str
 F:Fn
abbrev Te.ps (t:Te):List Str:=t.N.take t.np
structure Gx where
 P:Program
 w:World
 K:W.Frag
 mg:Str->Option Value
 base:Heap
abbrev Ct (G:Gx)(t:Te):Prop:=Cal G.P G.w G.K G.mg G.base (CXe G.P G.w) t.k t.x t.ps (spP G.K G.mg t.F)
abbrev Ft (G:Gx)(t:Te)(f:Addr)(fd:FuncData):Prop:=FnOk G.P G.w G.K G.mg G.base (CXe G.P G.w) t.k f fd t.ps (spP G.K G.mg t.F)
section
variable {P:Program}{w:World}{K:W.Frag}{mg:WmP}{base:Heap}{f:Addr}{fd:FuncData}{N ps:List Str}{qual x:Str}{st:Stmt}{k np nn:Nat}{b:Sm}
def fnQ (F:Fun K x qual st f fd)(S:Sc N ps (z09 st))
  (g:∀(a:Value) (A:Around) (d:List PySem.Env) (s:Shared) (H:Hp) (E:XK),Sc N ps (z09 st)->Room k (A.deeper (envOfC qual (z09 st) s.heap.objs.size f a))->(A.deeper (envOfC qual (z09 st) s.heap.objs.size f a)).units+64<cLine->QZs ((cxOf (CXe P w) P w K mg base N qual (z09 st) f a A d s H E).wish λ_ _=>False) E0 (z1F st) b) (h:autoParam (ps.length=np) jA1) (e:autoParam (N.length=nn) jA1):
  FnOk P w K mg base (CXe P w) (k+1) f fd ps (spP K mg (Fn.mkN np nn b)):=fnM F S.fs (λa A d s H E i j=>g a A _ s H E S i j) h e
end
section
variable {G:Gx}{t:Te}{f:Addr}{fd:FuncData}{st:Stmt}{k np nn:Nat}{b:Sm}
def fnT (F:Fun G.K t.x t.x st f fd)(S:Sc t.N t.ps (z09 st))(e:t.F=Fn.mkN np nn b)(i:t.k=k+1)
  (h:∀(a:Value) (A:Around) (d:List PySem.Env) (s:Shared) (H:Hp) (E:XK),Sc t.N t.ps (z09 st)->Room k (A.deeper (envOfC t.x (z09 st) s.heap.objs.size f a))->(A.deeper (envOfC t.x (z09 st) s.heap.objs.size f a)).units+64<cLine->QZs ((cxOf (CXe G.P G.w) G.P G.w G.K G.mg G.base t.N t.x (z09 st) f a A d s H E).wish λ_ _=>False) E0 (z1F st) b) (j:autoParam (t.ps.length=np) jA1) (g:autoParam (t.N.length=nn) jA1):Ft G t f fd:=by
 show FnOk _ _ _ _ _ _ t.k _ _ _ _;rw[e,i];exact fnQ F S h j g
end
structure Cf (G:Gx)(F:Fn)(t:Te):Prop where
 c:Ct G t
 e:t.F=F
def ziR {X:Cx}{E:XK}{e:Expr}{es:List Expr}{xs:List Ex}{a n:Pos}{f:Str}{F:Fn}{G:Gx}{t:Te}(C:Cf G F t)(h:Ct G t->Cal X.prog X.w X.K X.mg X.base (CXe G.P G.w) t.k f t.ps (spP X.K X.mg t.F))(l:Room t.k X.A)(m:z4z (CXe G.P G.w) X E)(g:QXA X E (e::es) xs)(j:Gl X f)
  (b:(f == ("__debug__":Str))=false) (i:starEach (e::es) X.env=(false,eval e X.env)::starEach es X.env) (d:(backTo a (starEach es X.env)).any (·.1)=false):QX X E (.Call (.Name f n) (e::es) [] a) (.op F xs):=by
 have q:=h C.c;rw[C.e] at q;exact zlD q l m g j b i d
def us_s {P:List Value->Prop}{n:Nat}(h:∀a us,us.length=n->P (a::us))(us:List Value)(e:us.length=n+1):P us:=by
 cases us with
 | nil=>cases e
 | cons a us=>exact h a us (Nat.succ.inj e)
def us1 {P:List Value->Prop}(h:∀b,P [b]):∀us,us.length=1->P us:=us_s λa us e=>by
 cases us with
 | nil=>exact h a
 | cons _ _=>cases e
def us2 {P:List Value->Prop}(h:∀b d,P [b,d]):∀us,us.length=2->P us:=us_s λa=>us1 (P:=λus=>P (a::us)) (h a)
def us3 {P:List Value->Prop}(h:∀b d e,P [b,d,e]):∀us,us.length=3->P us:=us_s λa=>us2 (P:=λus=>P (a::us)) (h a)
section
variable {K:W.Frag}{h:Heap}{mg:WmP}{base:Heap}{P:Program}{w:World}
def zmB (X:K.In h)(G:h.Ns mainGlobals mg)(t:Te){st:Stmt}{f:Addr}(d:Std K t.x st f)(ok:∀e,Fun K t.x t.x st f e->Ft ⟨P,w,K,mg,base⟩ t f e)
  (j:∀(kV i m:Value) (an:Option Addr) (g ct:Value) (b:List Value),b.length=t.ps.length->bindArgs (W.fnOf t.x t.x (z34 st) (z1F st) (z09 st) .none kV i m an g ct) ⟨b,[]⟩=pure (t.ps.zip b):=by walk_at "c"):Cf ⟨P,w,K,mg,base⟩ t.F t:=⟨zl3 X G d j ok,rfl⟩
end
end Pu
end
set_option Elab.async false
set_option linter.all false
set_option maxRecDepth 100000
set_option maxHeartbeats 4000000
namespace My
open PySem L2 Pu
def top (i:Nat):Stmt:=PySem.Challenge.pw_closehaul_k27_whole_which_answers_stand.main.body.getD i (.Pass ⟨0,0,0,0⟩)
abbrev Fu (G:Gx)(t:Te)(f:Addr)(fd:FuncData):Prop:=Fun G.K t.x t.x (top t.i) f fd
local macro_rules | `(tactic| walk_at "c") => `(tactic| first | exact λ_ _ _ _ _ _=>us1 λ_=>rfl | exact λ_ _ _ _ _ _=>us2 λ_ _=>rfl | exact λ_ _ _ _ _ _=>us3 λ_ _ _=>rfl)
abbrev BL:List Str:=["abs","bool","isinstance","len","list","max","min","range","reversed","set","sorted","sum","tuple","zip"]
structure Txt (K:W.Frag)(mg:WmP):Prop where
 nb:∀b∈BL,mg b=none
 g_EVERY_WAY:zlb K mg "EVERY_WAY" z30
def zmK:bootBuiltins "abs"=some (.builtin "abs"):=by rfl
def zl5:bootBuiltins "bool"=some (.type "bool"):=by rfl
def zmJ:bootBuiltins "len"=some (.builtin "len"):=by rfl
def zl4:bootBuiltins "list"=some (.type "list"):=by rfl
def zmI:bootBuiltins "max"=some (.builtin "max"):=by rfl
def zmH:bootBuiltins "min"=some (.builtin "min"):=by rfl
def zeR:bootBuiltins "sorted"=some (.builtin "sorted"):=by rfl
def zmG:bootBuiltins "sum"=some (.builtin "sum"):=by rfl
def zhz:bootBuiltins "tuple"=some (.type "tuple"):=by rfl
set_option hygiene false in
local macro_rules
 | `(tactic| walk_at "q2") => `(tactic| first | ((with_reducible show QE _ _ _);walk_at "e") | ((with_reducible show _=_);first | (with_reducible first | exact zmK | exact zl5 | exact zmJ | exact zl4 | exact zmI | exact zmH | exact zeR | exact zmG | exact zhz) | exact rfl) | ((with_reducible show QA _ _ _);first | (with_reducible first | refine zdA ?_ ?_ ?_ | exact zgg)) | ((with_reducible show QSs _ _ _);first | (with_reducible first | refine zfc ?_ | refine zbl ?_ ?_ | exact ziH)) | ((with_reducible show QS _ _ _);walk_at "s") | ((with_reducible show QT _ _ _);first | (with_reducible first | refine zj1 ?_ lk2 ?_ ?_ ?_ | refine zgk ?_) | with_reducible refine zlH ?_ | with_reducible refine zgl ?_ ?_) | ((with_reducible show QW _ _ _);first | (with_reducible first | refine zdD ?_ | refine zgh ?_ | refine zgi ?_ ?_ | refine ziW ?_ ?_)) | ((with_reducible show QI _ _ _ _);first | (with_reducible first | refine zap ?_ ?_ ?_ ?_ | refine zdJ ?_ ?_ ?_ ?_ ?_ | refine qi_x ?_)) | walk_at "o")
 | `(tactic| walk_at "e") => `(tactic| first | ((with_reducible refine qx_v ?_);first | exact vx S rfl | exact qv _) | (with_reducible first | exact ziQ | refine ziU ?_ lk2 ?_ ?_ | refine zlC ?_ ?_ ?_ | refine ziL ?_ | refine ziT ?_ lk2 ?_ ?_ ?_) | (with_reducible refine ziR (G:=?_) (t:=?_) ?_ ?_ ?_ ?_ ?_ ?_ ?_ ?_ ?_;rotate_left 2;assumption;with_unfolding_all exact λh=>h) | walk_at "g")
 | `(tactic| walk_at "g") => `(tactic| first | (with_reducible first | refine qx_v ?_ | exact zlG | exact ziM | exact ziO | refine zlA ?_ lk1 ?_ | refine ziN ?_ | refine ziV ?_ ?_ | refine zlB ?_ ?_ ?_ | refine zdM S ?_ ?_ ?_ ?_ ?_ ?_ ?_ ?_ ?_ ?_ | refine zdL S ?_ ?_ ?_ ?_ ?_ ?_ ?_ ?_ ?_ ?_ ?_ | refine zj9 ?_ | refine zaq ?_ ?_ ?_ ?_ ?_ ?_ ?_ ?_ ?_ | refine z4C ?_ ?_ ?_ ?_ ?_ ?_ ?_ ?_ | refine z51 ?_ ?_ ?_ ?_ ?_ ?_ ?_ ?_ | refine ziP ?_ ?_ ?_ ?_ ?_ ?_ ?_ ?_ ?_ ?_ ?_ | exact zgu | refine zdB ?_ ?_ ?_ ?_ ?_ ?_ ?_ ?_ | refine z7L ?_ ?_ ?_ ?_ ?_ ?_ ?_ ?_ ?_ | refine zao ?_ ?_ ?_ ?_ ?_ ?_ ?_ ?_ | refine zan ?_ ?_ ?_ ?_ ?_ ?_ ?_ ?_) | (with_reducible refine zdC (CX:=?_) (k:=?_) ?_ ?_ ?_ ?_ ?_ ?_ ?_;rotate_left 2;with_unfolding_all exact tb) | (with_reducible refine zfe (n := 0) (CX:=?_) (k:=?_) (ps:=?_) (sp:=?_) ?_ ?_ ?_ ?_;rotate_left 6;with_unfolding_all exact (‹Cf G z3p _›).c) | (with_reducible refine zfe (n := 2) (CX:=?_) (k:=?_) (ps:=?_) (sp:=?_) ?_ ?_ ?_ ?_;rotate_left 6;with_unfolding_all exact (‹Cf G z0v _›).c) | with_reducible refine zlF (d:=z30) ?_ ?_ ?_ | (with_reducible refine zlE (id:=?_) ?_ lkN ?_ ?_ ?_ ?_ ?_ ?_ ?_ ?_;rotate_left;walk_at "h") | (with_reducible refine ziS (id:=?_) ?_ lkN ?_ ?_ ?_ ?_ ?_ ?_ ?_ ?_;rotate_left;first | exact za2 | exact zcE) | (with_reducible refine zlK (id:=?_) ?_ ?_ ?_ ?_ ?_ ?_ ?_ ?_ ?_;rotate_left;walk_at "h") | (with_reducible refine zja (id:=?_) ?_ ?_ ?_ ?_ ?_ ?_ ?_ ?_ ?_;rotate_left;first | exact za2 | exact zcE) | with_reducible refine QF.qx ?_ | exact vx S rfl | exact qv _ | refine zgx rfl (T.nb _ (by decide)) ?_ rfl (by decide) (by decide))
 | `(tactic| walk_at "s") => `(tactic| first | ((with_reducible refine zfd ?_);refine ax S rfl ?_ rfl) | (with_reducible first | refine zfd ?_ | refine ziD ?_ | refine zlz ?_ ?_ ?_ | refine ziG ?_ | refine zgf ?_ | refine ziK ?_ ?_ ?_ ?_ ?_ ?_ ?_ ?_ | refine ziJ ?_ ?_ ?_ ?_ ?_ ?_ ?_ ?_ | refine ziF ?_ ?_ ?_ ?_ | refine zdx ?_ ?_ ?_ | refine ziI ?_ ?_ ?_ ?_ ?_ ?_ | refine zdz ?_ ?_ ?_ ?_ ?_ ?_ ?_ ?_ ?_ | exact zdy | refine ziE ?_ ?_ ?_ ?_ ?_ | refine zdI S ?_ ?_ ?_ ?_ ?_ ?_ ?_ ?_ ?_ ?_ ?_ ?_ ?_ | refine zdH S ?_ ?_ ?_ ?_ ?_ ?_ ?_ ?_ ?_ ?_ ?_ ?_ ?_ ?_ | refine zge ?_ ?_ ?_ ?_ ?_) | refine ax S rfl ?_ rfl | refine QS.sh ?_)
 | `(tactic| walk_at "o") => `(tactic| first | (with_reducible first | exact zk3 | exact zk5 | exact zk1 | exact zk4 | exact zgW | exact zk2 | refine zm9 ?_ | refine zm4 ?_ | refine zm5 ?_ | refine zm7 ?_ | refine zm6 ?_ | exact zm8 | exact zea | exact zjQ | exact zgq | refine zgp ?_) | exact nx S rfl | exact zj7 n1 rfl rfl | exact zj8 n1 rfl rfl | refine zdK ?_ ?_ rfl | exact zgt | refine zj6 rfl ?_ | exact hr.mono (by decide) | exact zjG | exact hu | exact PassesOwn.never | exact zkm _ | exact rfl | exact T.nb _ (by decide) | assumption | (intro _;rfl) | (intro _ _;rfl) | (intro _ _ _ _ n1) | decide | exact S.fs.nd | decide +kernel | (intro _ _ he hg;exact zj4 he hg) | exact T.g_EVERY_WAY)
 | `(tactic| walk_at "h") => `(tactic| first | exact zl0 | exact zl2 | (refine zkZ ?_;with_unfolding_all rfl) | (refine zhw ?_;with_unfolding_all rfl) | (refine zhv ?_ ?_;with_unfolding_all rfl;with_unfolding_all exact hu) | (refine zhu ?_;with_unfolding_all rfl) | (refine zht ?_;with_unfolding_all rfl) | (refine zhs ?_;with_unfolding_all rfl) | exact zeK)
local macro_rules | `(tactic| walk_at "q") => `(tactic| walk_at "q2" <;> walk_at "q")
set_option hygiene false in
local macro_rules | `(tactic| walk_at "f") => `(tactic| (refine fnT F (Sc.of (by decide +kernel)) rfl rfl (λcdv A outer s H E S hr hu =>?_);first | refine zfc ?_ | refine zbl ?_ ?_) <;> walk_at "q")
def z1A:Te:=⟨1,"_law_cell_at",57,2,["script","k"],z0g⟩
def z1a:Te:=⟨1,"_law_free_vector",60,2,["cell","far","wide"],z0d⟩
def z11:Te:=⟨2,"_law_free_watches",61,1,["script","far","watches","at","size","first","wind"],z0q⟩
def z0N:Te:=⟨1,"_law_draw",58,3,["cell","k","many","prime","mixed"],z00⟩
def z2o:Te:=⟨2,"_law_vector",59,3,["cell","far","line","times"],z0J⟩
def z22:Te:=⟨3,"_law_watches",62,1,["script","base","far","line","most","watches","at","size","wind","stream"],z0Y⟩
def z0I:Te:=⟨1,"_law_lowest",63,1,["row","least","number","one","rest"],z02⟩
def z3d:Te:=⟨2,"_law_add",69,3,["place","vector","share","top","x","y"],z0B⟩
def z3a:Te:=⟨2,"_law_sum",64,2,["one","other"],z0R⟩
def z3b:Te:=⟨3,"_law_end",70,2,["watches","course","place","k","total","j","share"],z0S⟩
def z1p:Te:=⟨2,"_law_free_place",74,2,["cell","far","wide","x","y"],z0D⟩
def z2R:Te:=⟨2,"_law_parts",67,3,["cell","many","bottom","cut","one","two","three","rest","tops"],z1f⟩
def z1T:Te:=⟨3,"_law_course",68,2,["watches","cell","course","k","bottom","tops"],z0h⟩
def z3y:Te:=⟨4,"_law_goal",75,3,["watches","cell","far","place","way","size","step"],z1s⟩
def z2J:Te:=⟨1,"turn_of",2,2,["one","other"],z1n⟩
def z1x:Te:=⟨1,"step_of",5,2,["start","end"],z0v⟩
def z48:Te:=⟨2,"turn_by",8,3,["start","middle","end"],z3p⟩
def z3C:Te:=⟨3,"chain_of",9,2,["spots","turn","kept","spot"],z2O⟩
def z21:Te:=⟨4,"least_round",10,2,["rising","turn","there","back"],z2b⟩
def z0t:Te:=⟨5,"least_headings",11,1,["wind"],z07⟩
def z1l:Te:=⟨1,"vector_added",4,2,["one","other"],z0L⟩
def z2t:Te:=⟨2,"goes_first",25,2,["one","other","one_rises","other_rises"],z2C⟩
def z1L:Te:=⟨3,"steps_merged",26,2,["ones","others","steps","taken","other"],z1R⟩
def z1Z:Te:=⟨3,"steps_round",24,2,["corners","step_between","behind"],z1C⟩
def z57:Te:=⟨6,"joined",27,2,["one","other","ones","others","heading","headings","step"],z5e⟩
def z2r:Te:=⟨7,"joined_all",28,1,["winds","total","wind"],z2A⟩
def z3B:Te:=⟨6,"drift_of",29,1,["watch"],z3O⟩
def z3w:Te:=⟨8,"reach_of",48,1,["watches"],z3L⟩
def z2K:Te:=⟨1,"right_of",6,1,["step"],z2d⟩
def z1q:Te:=⟨3,"bearings_round",12,2,["corners","step_between","found","number","corner","step"],z1t⟩
def z2u:Te:=⟨1,"dot_of",3,2,["one","other"],z14⟩
def z3v:Te:=⟨6,"sides_of",13,1,["wind","sides"],z3K⟩
def z1z:Te:=⟨1,"lies_beyond",39,3,["place","bearing","most"],z0X⟩
def z1b:Te:=⟨7,"barring_bearing",40,2,["headings","place","bearing","most"],z1h⟩
def z47:Te:=⟨1,"way_to",41,2,["vector","place"],z3J⟩
def z2n:Te:=⟨2,"line_parts",42,2,["corners","place","step","whole","second"],z2z⟩
def z10:Te:=⟨2,"triangle_parts",43,2,["corners","place","one","other","way","whole","second","third"],z0H⟩
def z17:Te:=⟨3,"triangle_around",44,2,["headings","place","number","corners"],z1d⟩
def z0i:Te:=⟨1,"common_divisor",20,2,["one","other","great","small","rest"],z04⟩
def z56:Te:=⟨2,"lowest",21,2,["top","bottom","divisor"],z5d⟩
def z18:Te:=⟨3,"shares_of_parts",45,3,["wind","corners","parts","whole","shares"],z0Q⟩
def z2Q:Te:=⟨8,"shares_to",46,2,["wind","place","headings","bearing","corners","parts"],z32⟩
def z2s:Te:=⟨2,"heading_at",52,2,["wind","step","side","ways"],z2B⟩
def z5m:Te:=⟨2,"added",22,2,["one","other","shared","one_times","other_times","top","rest"],z4M⟩
def z19:Te:=⟨3,"shares_in_watch",53,3,["wind","reach","shares","found","number","share","heading"],z1e⟩
def z2T:Te:=⟨9,"course_to",54,2,["watches","place","reach","answer"],z33⟩
def z0U:Te:=⟨1,"_law_spoilt_shares",77,3,["shares","way","many","heading","share","rest","half"],z0n⟩
def z2p:Te:=⟨2,"_law_spoilt",78,3,["watches","course","cell","way","at","other"],z0p⟩
def z23:Te:=⟨10,"_law_answers",80,3,["watches","place","cell","told","course","bearing","answers"],z0Z⟩
def z3x:Te:=⟨2,"_law_size",76,1,["script"],z1r⟩
def z3z:Te:=⟨2,"is_share",35,1,["share"],z3M⟩
def z1U:Te:=⟨3,"are_shares",36,2,["wind","shares","ahead","heading","share"],z1w⟩
def z2l:Te:=⟨3,"shares_sum",37,1,["shares","total","heading","share"],z2x⟩
def z2f:Te:=⟨4,"is_course",50,2,["watches","course","watch","shares"],z1K⟩
def z3A:Te:=⟨2,"farthest",7,2,["wind","bearing"],z3N⟩
def z24:Te:=⟨3,"farthest_by",49,2,["watches","bearing"],z2c⟩
def z1y:Te:=⟨2,"place_added",32,2,["one","other","shared","one_times","other_times","x","y","rest"],z0W⟩
def z1M:Te:=⟨2,"lowest_place",31,3,["x","y","bottom","divisor"],z1S⟩
def z20:Te:=⟨3,"place_times",33,2,["place","fraction"],z2a⟩
def z2m:Te:=⟨4,"shares_end",38,2,["wind","shares","end","heading","share","vector"],z2y⟩
def z2v:Te:=⟨5,"course_end",51,2,["watches","course","end","watch","shares","stream","led"],z2D⟩
def z1B:Te:=⟨6,"course_stands",55,3,["watches","place","answer"],z15⟩
def z2S:Te:=⟨3,"_law_fills",71,2,["many","shares","last","total","j","share"],z1g⟩
def z12:Te:=⟨4,"_law_course_right",72,3,["watches","course","place","k"],z0r⟩
def z3c:Te:=⟨1,"_law_dot",65,2,["one","other"],z0o⟩
def z4a:Te:=⟨2,"_law_far",66,2,["watches","bearing","total","wind","stream"],z1D⟩
def z2q:Te:=⟨3,"_law_beyond",73,3,["watches","bearing","place"],z13⟩
def z4b:Te:=⟨5,"_law_due",79,3,["watches","place","answer"],z1E⟩
def zhX:Te:=⟨11,"law",81,1,["script","watches","cell","place","answer","found"],z5S⟩
section
variable {G:Gx}{f:Addr}{fd:FuncData}(T:Txt G.K G.mg)
include T
theorem z69 (F:Fu G z1A f fd):Ft G z1A f fd:=by walk_at "f"
theorem z4p (F:Fu G z1a f fd):Ft G z1a f fd:=by walk_at "f"
theorem z40 (F:Fu G z11 f fd)(_:Cf G z0d z1a):Ft G z11 f fd:=by walk_at "f"
theorem z8V (F:Fu G z0N f fd):Ft G z0N f fd:=by walk_at "f"
theorem z6V (F:Fu G z2o f fd)(_:Cf G z00 z0N):Ft G z2o f fd:=by walk_at "f"
theorem z68 (F:Fu G z22 f fd)(_:Cf G z0g z1A)(_:Cf G z00 z0N)(_:Cf G z0J z2o)(_:Cf G z0q z11):Ft G z22 f fd:=by walk_at "f"
theorem z6X (F:Fu G z0I f fd):Ft G z0I f fd:=by walk_at "f"
theorem zaC (F:Fu G z3d f fd)(_:Cf G z02 z0I):Ft G z3d f fd:=by walk_at "f"
theorem zax (F:Fu G z3a f fd)(_:Cf G z02 z0I):Ft G z3a f fd:=by walk_at "f"
theorem zaz (F:Fu G z3b f fd)(_:Cf G z0R z3a)(_:Cf G z0B z3d):Ft G z3b f fd:=by walk_at "f"
theorem z4F (F:Fu G z1p f fd)(_:Cf G z02 z0I):Ft G z1p f fd:=by walk_at "f"
theorem z7U (F:Fu G z2R f fd)(_:Cf G z00 z0N):Ft G z2R f fd:=by walk_at "f"
theorem z6Y (F:Fu G z1T f fd)(_:Cf G z00 z0N)(_:Cf G z02 z0I)(_:Cf G z1f z2R):Ft G z1T f fd:=by walk_at "f"
theorem z8U (F:Fu G z3y f fd)(_:Cf G z00 z0N)(_:Cf G z02 z0I)(_:Cf G z0h z1T)(_:Cf G z0B z3d)(_:Cf G z0S z3b)(_:Cf G z0D z1p):Ft G z3y f fd:=by walk_at "f"
theorem zau (F:Fu G z2J f fd):Ft G z2J f fd:=by walk_at "f"
theorem zaw (F:Fu G z1x f fd):Ft G z1x f fd:=by walk_at "f"
theorem zav (F:Fu G z48 f fd)(_:Cf G z1n z2J)(_:Cf G z0v z1x):Ft G z48 f fd:=by walk_at "f"
theorem z8Z (F:Fu G z3C f fd)(tb:FTab G.P G.w G.K G.mg G.base (CXe G.P G.w) 2 z98):Ft G z3C f fd:=by walk_at "f"
theorem z67 (F:Fu G z21 f fd)(_:Cf G z2O z3C):Ft G z21 f fd:=by walk_at "f"
theorem z4E (F:Fu G z0t f fd)(_:Cf G z3p z48)(_:Cf G z2b z21):Ft G z0t f fd:=by walk_at "f"
theorem z5A (F:Fu G z1l f fd):Ft G z1l f fd:=by walk_at "f"
theorem z72 (F:Fu G z2t f fd)(_:Cf G z1n z2J):Ft G z2t f fd:=by walk_at "f"
theorem z5B (F:Fu G z1L f fd)(_:Cf G z2C z2t):Ft G z1L f fd:=by walk_at "f"
theorem z63 (F:Fu G z1Z f fd)(tb:FTab G.P G.w G.K G.mg G.base (CXe G.P G.w) 2 z98):Ft G z1Z f fd:=by walk_at "f"
theorem zbL (F:Fu G z57 f fd)(_:Cf G z0L z1l)(_:Cf G z0v z1x)(_:Cf G z07 z0t)(_:Cf G z1C z1Z)(_:Cf G z1R z1L):Ft G z57 f fd:=by walk_at "f"
theorem z70 (F:Fu G z2r f fd)(_:Cf G z5e z57):Ft G z2r f fd:=by walk_at "f"
theorem z8Y (F:Fu G z3B f fd)(_:Cf G z0L z1l)(_:Cf G z07 z0t):Ft G z3B f fd:=by walk_at "f"
theorem z8S (F:Fu G z3w f fd)(_:Cf G z2A z2r)(_:Cf G z3O z3B):Ft G z3w f fd:=by walk_at "f"
theorem z8R (F:Fu G z2K f fd):Ft G z2K f fd:=by walk_at "f"
theorem z4H (F:Fu G z1q f fd)(_:Cf G z2d z2K)(tb:FTab G.P G.w G.K G.mg G.base (CXe G.P G.w) 2 z98):Ft G z1q f fd:=by walk_at "f"
theorem zbM (F:Fu G z2u f fd):Ft G z2u f fd:=by walk_at "f"
theorem z8Q (F:Fu G z3v f fd)(_:Cf G z14 z2u)(_:Cf G z0v z1x)(_:Cf G z07 z0t)(_:Cf G z1t z1q):Ft G z3v f fd:=by walk_at "f"
theorem z66 (F:Fu G z1z f fd):Ft G z1z f fd:=by walk_at "f"
theorem z4q (F:Fu G z1b f fd)(_:Cf G z3K z3v)(_:Cf G z0X z1z):Ft G z1b f fd:=by walk_at "f"
theorem zbJ (F:Fu G z47 f fd):Ft G z47 f fd:=by walk_at "f"
theorem z6U (F:Fu G z2n f fd)(_:Cf G z14 z2u)(_:Cf G z0v z1x)(_:Cf G z3J z47):Ft G z2n f fd:=by walk_at "f"
theorem z4D (F:Fu G z10 f fd)(_:Cf G z1n z2J)(_:Cf G z0v z1x)(_:Cf G z3J z47):Ft G z10 f fd:=by walk_at "f"
theorem z4m (F:Fu G z17 f fd)(_:Cf G z0H z10):Ft G z17 f fd:=by walk_at "f"
theorem z4G (F:Fu G z0i f fd):Ft G z0i f fd:=by walk_at "f"
theorem zbK (F:Fu G z56 f fd)(_:Cf G z04 z0i):Ft G z56 f fd:=by walk_at "f"
theorem z4n (F:Fu G z18 f fd)(_:Cf G z5d z56):Ft G z18 f fd:=by walk_at "f"
theorem z7S (F:Fu G z2Q f fd)(_:Cf G z07 z0t)(_:Cf G z1h z1b)(_:Cf G z2z z2n)(_:Cf G z0H z10)(_:Cf G z1d z17)(_:Cf G z0Q z18):Ft G z2Q f fd:=by walk_at "f"
theorem z71 (F:Fu G z2s f fd)(_:Cf G z14 z2u)(_:Cf G z2d z2K):Ft G z2s f fd:=by walk_at "f"
theorem ze8 (F:Fu G z5m f fd)(_:Cf G z04 z0i):Ft G z5m f fd:=by walk_at "f"
theorem z4o (F:Fu G z19 f fd)(_:Cf G z0v z1x)(_:Cf G z4M z5m)(_:Cf G z2B z2s):Ft G z19 f fd:=by walk_at "f"
theorem z7X (F:Fu G z2T f fd)(_:Cf G z32 z2Q)(_:Cf G z3L z3w)(_:Cf G z1e z19):Ft G z2T f fd:=by walk_at "f"
theorem z3S (F:Fu G z0U f fd):Ft G z0U f fd:=by walk_at "f"
theorem z6W (F:Fu G z2p f fd)(_:Cf G z00 z0N)(_:Cf G z0n z0U):Ft G z2p f fd:=by walk_at "f"
theorem z6a (F:Fu G z23 f fd)(_:Cf G z33 z2T)(_:Cf G z00 z0N)(_:Cf G z0h z1T)(_:Cf G z0p z2p):Ft G z23 f fd:=by walk_at "f"
theorem z8T (F:Fu G z3x f fd)(_:Cf G z0g z1A)(_:Cf G z00 z0N):Ft G z3x f fd:=by walk_at "f"
theorem z8W (F:Fu G z3z f fd)(_:Cf G z04 z0i):Ft G z3z f fd:=by walk_at "f"
theorem z74 (F:Fu G z1U f fd)(_:Cf G z3M z3z):Ft G z1U f fd:=by walk_at "f"
theorem z6S (F:Fu G z2l f fd)(_:Cf G z4M z5m):Ft G z2l f fd:=by walk_at "f"
theorem z7W (F:Fu G z2f f fd)(_:Cf G z1w z1U)(_:Cf G z2x z2l):Ft G z2f f fd:=by walk_at "f"
theorem z8X (F:Fu G z3A f fd)(_:Cf G z14 z2u):Ft G z3A f fd:=by walk_at "f"
theorem z6b (F:Fu G z24 f fd)(_:Cf G z14 z2u)(_:Cf G z3N z3A):Ft G z24 f fd:=by walk_at "f"
theorem z65 (F:Fu G z1y f fd)(_:Cf G z04 z0i):Ft G z1y f fd:=by walk_at "f"
theorem z5C (F:Fu G z1M f fd)(_:Cf G z04 z0i):Ft G z1M f fd:=by walk_at "f"
theorem z64 (F:Fu G z20 f fd)(_:Cf G z1S z1M):Ft G z20 f fd:=by walk_at "f"
theorem z6T (F:Fu G z2m f fd)(_:Cf G z0W z1y)(_:Cf G z2a z20)(_:Cf G z1w z1U):Ft G z2m f fd:=by walk_at "f"
theorem z73 (F:Fu G z2v f fd)(_:Cf G z0W z1y)(_:Cf G z2y z2m)(_:Cf G z1K z2f):Ft G z2v f fd:=by walk_at "f"
theorem z52 (F:Fu G z1B f fd)(_:Cf G z0X z1z)(_:Cf G z2c z24)(_:Cf G z1K z2f)(_:Cf G z2D z2v):Ft G z1B f fd:=by walk_at "f"
theorem z7V (F:Fu G z2S f fd)(_:Cf G z02 z0I)(_:Cf G z0R z3a):Ft G z2S f fd:=by walk_at "f"
theorem z41 (F:Fu G z12 f fd)(_:Cf G z0S z3b)(_:Cf G z1g z2S):Ft G z12 f fd:=by walk_at "f"
theorem zaB (F:Fu G z3c f fd):Ft G z3c f fd:=by walk_at "f"
theorem zay (F:Fu G z4a f fd)(_:Cf G z0o z3c):Ft G z4a f fd:=by walk_at "f"
theorem z6Z (F:Fu G z2q f fd)(_:Cf G z0o z3c)(_:Cf G z1D z4a):Ft G z2q f fd:=by walk_at "f"
theorem zaA (F:Fu G z4b f fd)(_:Cf G z0r z12)(_:Cf G z13 z2q):Ft G z4b f fd:=by walk_at "f"
theorem zjZ (F:Fu G zhX f fd)(_:Cf G z15 z1B)(_:Cf G z0Y z22)(_:Cf G z1s z3y)(_:Cf G z1r z3x)(_:Cf G z1E z4b)(_:Cf G z0Z z23):Ft G zhX f fd:=by walk_at "f"
end
def zl7 {l:W.OpenLaw}{w:World}{K:W.Frag}{h:Heap}{mg:WmP}{fa f0 f1 f2 f3 f4 f5 f6 f7 f8 f9 g4 g5 g6 g7 g8 g9 h0 h1 h2 h3 h4 h5 h6 h7 h8 h9 i0 i1 i2 i3 i4 i5 i6 i7 i8 i9 j7 j8 j9 k0 k1 k2 k3 k4 k5 k6 k7 k8 k9 l0 l1 l2 l3 l4 l5 l6 l7 l8 l9 m0 m1 m2 m3 m4 m5 m6 m7 m8 m9:Addr}(X:K.In h)(G:h.Ns mainGlobals mg)(n0:mg "law"=some (.ref fa))
  (d0:Std K "_law_cell_at" (top 57) f0)
  (d1:Std K "_law_free_vector" (top 60) f1)
  (d2:Std K "_law_free_watches" (top 61) f2)
  (d3:Std K "_law_draw" (top 58) f3)
  (d4:Std K "_law_vector" (top 59) f4)
  (d5:Std K "_law_watches" (top 62) f5)
  (d6:Std K "_law_lowest" (top 63) f6)
  (d7:Std K "_law_add" (top 69) f7)
  (d8:Std K "_law_sum" (top 64) f8)
  (d9:Std K "_law_end" (top 70) f9)
  (A:Std K "_law_free_place" (top 74) g4)
  (C:Std K "_law_parts" (top 67) g5)
  (E:Std K "_law_course" (top 68) g6)
  (H:Std K "_law_goal" (top 75) g7)
  (I:Std K "turn_of" (top 2) g8)
  (J:Std K "step_of" (top 5) g9)
  (L:Std K "turn_by" (top 8) h0)
  (M:Std K "chain_of" (top 9) h1)
  (N:Std K "least_round" (top 10) h2)
  (O:Std K "least_headings" (top 11) h3)
  (Q:Std K "vector_added" (top 4) h4)
  (R:Std K "goes_first" (top 25) h5)
  (S:Std K "steps_merged" (top 26) h6)
  (U:Std K "steps_round" (top 24) h7)
  (Y:Std K "joined" (top 27) h8)
  (Z:Std K "joined_all" (top 28) h9)
  (a0:Std K "drift_of" (top 29) i0)
  (a1:Std K "reach_of" (top 48) i1)
  (a2:Std K "right_of" (top 6) i2)
  (a3:Std K "bearings_round" (top 12) i3)
  (a4:Std K "dot_of" (top 3) i4)
  (a5:Std K "sides_of" (top 13) i5)
  (a6:Std K "lies_beyond" (top 39) i6)
  (a7:Std K "barring_bearing" (top 40) i7)
  (a8:Std K "way_to" (top 41) i8)
  (a9:Std K "line_parts" (top 42) i9)
  (b0:Std K "triangle_parts" (top 43) j7)
  (b1:Std K "triangle_around" (top 44) j8)
  (b2:Std K "common_divisor" (top 20) j9)
  (b3:Std K "lowest" (top 21) k0)
  (b4:Std K "shares_of_parts" (top 45) k1)
  (b5:Std K "shares_to" (top 46) k2)
  (b6:Std K "heading_at" (top 52) k3)
  (b7:Std K "added" (top 22) k4)
  (b8:Std K "shares_in_watch" (top 53) k5)
  (b9:Std K "course_to" (top 54) k6)
  (c0:Std K "_law_spoilt_shares" (top 77) k7)
  (c1:Std K "_law_spoilt" (top 78) k8)
  (c2:Std K "_law_answers" (top 80) k9)
  (c3:Std K "_law_size" (top 76) l0)
  (c4:Std K "is_share" (top 35) l1)
  (c5:Std K "are_shares" (top 36) l2)
  (c6:Std K "shares_sum" (top 37) l3)
  (c7:Std K "is_course" (top 50) l4)
  (c8:Std K "farthest" (top 7) l5)
  (c9:Std K "farthest_by" (top 49) l6)
  (e0:Std K "place_added" (top 32) l7)
  (e1:Std K "lowest_place" (top 31) l8)
  (e2:Std K "place_times" (top 33) l9)
  (e3:Std K "shares_end" (top 38) m0)
  (e4:Std K "course_end" (top 51) m1)
  (e5:Std K "course_stands" (top 55) m2)
  (e6:Std K "_law_fills" (top 71) m3)
  (e7:Std K "_law_course_right" (top 72) m4)
  (e8:Std K "_law_dot" (top 65) m5)
  (e9:Std K "_law_far" (top 66) m6)
  (g0:Std K "_law_beyond" (top 73) m7)
  (g1:Std K "_law_due" (top 79) m8)
  (g2:Std K "law" (top 81) m9)
  (zb:∀b∈BL,W.nsIn K mainGlobals b=some none)
  (i:W.nsIn K mainGlobals "turn_among"=some none)
  (g:W.nsIn K mainGlobals "step_among"=some none)
  (x:W.nsIn K mainGlobals ""=some none)
  {d:Addr}(o:W.nsIn K mainGlobals "EVERY_WAY"=some (some (.ref d))) (m:z85 K z30 (.ref d)=true)
  : ∃fd:FuncData,(∀(s:Shared) (v:Value),BindsTo s fd ⟨[v],[]⟩ [("script",v)])/\∀j:Heap,K.In j->j.Ns mainGlobals mg->FnOk l.prog w K mg j (CXe l.prog w) 11 fa fd ["script"] (spL K):=by
 have T:Txt K mg:=⟨λb hb=>j4 X G (zb b hb),⟨_,W.mg_of X G o,m⟩⟩
 refine zhS X G g2 n0 (λ_ _ _ _ _ _ s v =>.of_eq rfl) λj kb nb fd F =>?_;have a := @zmB K h mg j l.prog w X G;have q0:=a z1A d0 λ_ F=>z69 T F;have q1:=a z1a d1 λ_ F=>z4p T F;have q3:=a z11 d2 λ_ F=>z40 T F q1;have p:=a z0N d3 λ_ F=>z8V T F;have q5:=a z2o d4 λ_ F=>z6V T F p;have q6:=a z22 d5 λ_ F=>z68 T F q0 p q5 q3;have r:=a z0I d6 λ_ F=>z6X T F;have q8:=a z3d d7 λ_ F=>zaC T F r;have q9:=a z3a d8 λ_ F=>zax T F r;have qa:=a z3b d9 λ_ F=>zaz T F q9 q8;have qb:=a z1p A λ_ F=>z4F T F r;have qc:=a z2R C λ_ F=>z7U T F p;have qd:=a z1T E λ_ F=>z6Y T F p r qc;have qe:=a z3y H λ_ F=>z8U T F p r qd q8 qa qb;have qf:=a z2J I λ_ F=>zau T F;have q:=a z1x J λ_ F=>zaw T F;have qh:=a z48 L λ_ F=>zav T F qf q;have z:FTab l.prog w K mg j (CXe l.prog w) 2 z98:=FTab.mk (j4 X G x) λn hn f e=>by
  match n,hn with
  | 0,_=>exact qh.c.tab (by decide) f e
  | 1,_=>rw[show z5Q 1="turn_among" from rfl,j4 X G i] at e;cases e
  | 2,_=>exact q.c.tab (by decide) f e
  | 3,_=>rw[show z5Q 3="step_among" from rfl,j4 X G g] at e;cases e
 have qi:=a z3C M λ_ F=>z8Z T F z;have qj:=a z21 N λ_ F=>z67 T F qi;have y:=a z0t O λ_ F=>z4E T F qh qj;have ql:=a z1l Q λ_ F=>z5A T F;have qm:=a z2t R λ_ F=>z72 T F qf;have qn:=a z1L S λ_ F=>z5B T F qm;have qo:=a z1Z U λ_ F=>z63 T F z;have qp:=a z57 Y λ_ F=>zbL T F ql q y qo qn;have qq:=a z2r Z λ_ F=>z70 T F qp;have qr:=a z3B a0 λ_ F=>z8Y T F ql y;have qs:=a z3w a1 λ_ F=>z8S T F qq qr;have qt:=a z2K a2 λ_ F=>z8R T F;have qu:=a z1q a3 λ_ F=>z4H T F qt z;have u:=a z2u a4 λ_ F=>zbM T F;have qy:=a z3v a5 λ_ F=>z8Q T F u q y qu;have qz:=a z1z a6 λ_ F=>z66 T F;have qA:=a z1b a7 λ_ F=>z4q T F qy qz;have qB:=a z47 a8 λ_ F=>zbJ T F;have qC:=a z2n a9 λ_ F=>z6U T F u q qB;have qD:=a z10 b0 λ_ F=>z4D T F qf q qB;have qE:=a z17 b1 λ_ F=>z4m T F qD;have t:=a z0i b2 λ_ F=>z4G T F;have qG:=a z56 b3 λ_ F=>zbK T F t;have qH:=a z18 b4 λ_ F=>z4n T F qG;have qI:=a z2Q b5 λ_ F=>z7S T F y qA qC qD qE qH;have qJ:=a z2s b6 λ_ F=>z71 T F u qt;have qK:=a z5m b7 λ_ F=>ze8 T F t;have qL:=a z19 b8 λ_ F=>z4o T F q qK qJ
 have qM:=a z2T b9 λ_ F=>z7X T F qI qs qL;have qN:=a z0U c0 λ_ F=>z3S T F;have qO:=a z2p c1 λ_ F=>z6W T F p qN;have qP:=a z23 c2 λ_ F=>z6a T F qM p qd qO;have qQ:=a z3x c3 λ_ F=>z8T T F q0 p;have qR:=a z3z c4 λ_ F=>z8W T F t;have qS:=a z1U c5 λ_ F=>z74 T F qR;have qT:=a z2l c6 λ_ F=>z6S T F qK;have qU:=a z2f c7 λ_ F=>z7W T F qS qT;have qV:=a z3A c8 λ_ F=>z8X T F u;have qW:=a z24 c9 λ_ F=>z6b T F u qV;have qX:=a z1y e0 λ_ F=>z65 T F t;have qY:=a z1M e1 λ_ F=>z5C T F t;have qZ:=a z20 e2 λ_ F=>z64 T F qY;have y0:=a z2m e3 λ_ F=>z6T T F qX qZ qS;have y1:=a z2v e4 λ_ F=>z73 T F qX y0 qU;have y2:=a z1B e5 λ_ F=>z52 T F qz qW qU y1;have y3:=a z2S e6 λ_ F=>z7V T F r q9;have y4:=a z12 e7 λ_ F=>z41 T F qa y3;have y5:=a z3c e8 λ_ F=>zaB T F;have y6:=a z4a e9 λ_ F=>zay T F y5;have y7:=a z2q g0 λ_ F=>z6Z T F y5 y6;have y8:=a z4b g1 λ_ F=>zaA T F y4 y7;exact zkB zh9 (zjZ (G:=⟨l.prog,w,K,mg,j⟩) T F y2 q6 qe qQ y8 qP)
def walk {l:W.OpenLaw}{q:Program}{e:List Str}{XP:(Str->Option Value)->Heap->Prop}{g:World->Heap->Prop}{d:DefRec}{K:Params->W.Frag}(A:l.most=some 63)(i:d.params.defaults=[])
  (r:∀(w:World) (h:Heap),g w h->(K w.params).In h) (p:∀(w:World) (h:Heap),g w h->∀P t,(tsOf (K w.params)).lookup P=some t->h.get? P=some { cls :=.none,data :=.fields #[] })
  (F:∀(w:World) (mg:WmP) (j:Addr) (h:Heap),(K w.params).In h->h.Ns mainGlobals mg->mg d.name=some (.ref j)->
   ∃m:FuncData,(∀(s:Shared) (u:Value),BindsTo s m ⟨[u],[]⟩ [("script",u)])/\∀b:Heap,(K w.params).In b->b.Ns mainGlobals mg->FnOk l.prog w (K w.params) mg b (CXe l.prog w) 11 j m ["script"] (spL (K w.params))):
  W.WalkO q e XP g l.row.toRowW d [] (λf vs=>PySem.call f vs):=
 L2.zfK (n:=63) (k:=11) (x:="script") (CX:=λw=>(CXe l.prog w)) (sp:=λw=>spL (K w.params)) A (by decide) i ⟨rfl,by decide,by decide⟩ r p F (λ_ _ a C y o=>⟨a,C,rfl,o,y,λ_=>rfl⟩) λ_ _ _ _ _ ⟨_,_,_,_,_,_,_,_,_,z⟩=>z
end My
open PySem PySem.W PyProof.Rows
local macro_rules | `(tactic| walk_at "ks") => `(tactic| (refine' Pu.Std.mk ?a ?l ?c ?k;(case a=>k_is);(case l=>k_is);(case c=>k_is);(case k=>k_is)))
set_option maxRecDepth 100000 in
set_option maxHeartbeats 0 in
theorem PySem.Challenge.cw_closehaul_k27_whole_which_answers_stand_holds : PySem.Challenge.rw_closehaul_k27_whole_which_answers_stand.Holds := by
 w_on;o_law;k_head;(case hw=>w_witness2)
 k_fill
 refine My.walk (l:=PySem.Challenge.rw_closehaul_k27_whole_which_answers_stand) rfl rfl (λw h Y=>W.kIn_of Y) (λw h Y=>λP t e=>by rw[show L2.tsOf _=[] from by kernel_rfl] at e;cases e) ?F
 case F=>
  intro w mg g h f G b;refine' My.zl7 f G b ?_ ?_ ?_ ?_ ?_ ?_ ?_ ?_ ?_ ?_ ?_ ?_ ?_ ?_ ?_ ?_ ?_ ?_ ?_ ?_ ?_ ?_ ?_ ?_ ?_ ?_ ?_ ?_ ?_ ?_ ?_ ?_ ?_ ?_ ?_ ?_ ?_ ?_ ?_ ?_ ?_ ?_ ?_ ?_ ?_ ?_ ?_ ?_ ?_ ?_ ?_ ?_ ?_ ?_ ?_ ?_ ?_ ?_ ?_ ?_ ?_ ?_ ?_ ?_ ?_ ?_ ?_ ?_ ?_ ?_ ?_ ?_ ?_ ?_ ?_
  all_goals first | walk_at "ks" | k_is | kernel_rfl | ((repeat refine List.forall_mem_cons.2 ⟨by k_is,?_⟩);intro _ h;cases h) | skip
