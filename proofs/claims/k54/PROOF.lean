import PyProof.Rows.All
import Wide.All
import OpenK.AllK
import Wide.FinOn
import Lean
import PyProof.EqAt
import PyProof.EqKinds
import PyProof.TupleCall
import PyProof.Rows.SortRuns
import KE.KRevIter
import PyProof.SetRoads
import PyProof.ListNew
import PyProof.Rows.ListMulPlace
import PyProof.ZipIter
import PyProof.Rows.ZipGen
import PyProof.Rows.SumGenD
import PySem.Challenge.RW_closehaul_k54_winds_and_watches_refused
namespace PySem.W.Fast
def tw4565742354431288234:=0
def tw2872335166691213726:=0
def tw8221727032326634621:=0
def tw7893590509324535687:=0
def tw14031381289764675299:=0
def tw15440903003847005153:=0
def tw5891570814719863432:=0
def tw3064189331651768409:=0
def tw17699410557682897684:=0
def tw7573586488766787690:=0
def tw12453351793290773921:=0
def tw8050875576384145612:=0
def tw8446747339218630868:=0
def tw4960772689703947110:=0
def tw8643342441343369486:=0
def tw11306145971979733720:=0
def tw7404885549101021850:=0
def tw5905375426316076809:=0
def tw14541406086145085043:=0
def tw460613245150581794:=0
def tw8102518107502305582:=0
def tw8622968869457612548:=0
def tw7586062740807002389:=0
def tw5847569640986743023:=0
def tw14965658956529732503:=0
def tw11350334897440310475:=0
def tw3103667899826507524:=0
def tw1733471056336628684:=0
def tw18136834748831038212:=0
def tw7255321584954891322:=0
def tw10961111404102279612:=0
def tw4103022601711395059:=0
def tw13779379363538739607:=0
def tw17618627495412322680:=0
def tw8444378578414672333:=0
def tw5033732165850363509:=0
def tw16141805317039388293:=0
def tw4965028736826475987:=0
def tw2000945045741801003:=0
def tw18366826179877117374:=0
def tw4383002414439972774:=0
def tw11087201627179986163:=0
def tw10100613675059296474:=0
def tw13853215042358930998:=0
def tw2985811665029836847:=0
def tw12125196646152862076:=0
def tw15367298003347088763:=0
def tw6410946701612868767:=0
def tw5536578442837741630:=0
def tw4890887791126622034:=0
def tw7798355043363902276:=0
def tw13135287786385913172:=0
def tw13077255133147113418:=0
def tw17460275696056192903:=0
def tw6158903763235951668:=0
def tw12051627577250967723:=0
def tw17451657049973676484:=0
def tw5354998821338603295:=0
def tw2707183584467499801:=0
def tw9443564177538294174:=0
def tw6697684306679624788:=0
def tw8362636855968104529:=0
def tw939126325836047130:=0
def tw16304880232079313511:=0
def tw1053086014869251603:=0
def tw2880139526439095073:=0
def tw89042746129294280:=0
def tw3021938279946704870:=0
def tw16207025562397292454:=0
def tw11273209126734037000:=0
def tw12540904790967485902:=0
def tw942274757880670974:=0
def tw15421095885706003543:=0
def tw14881162539759466468:=0
def tw13879754260873777162:=0
def tw13742703882600076842:=0
def tw8375639000645231331:=0
def tw702307478964642012:=0
def tw6812805642519026047:=0
def tw10743153599468187674:=0
def tw17976665794440741427:=0
def tw17026675837267113153:=0
def tw15815685592706262173:=0
def tw12808901673613460056:=0
def tw13485587295503908902:=0
def tw12481012770528014618:=0
def tw437130586585509128:=0
def tw14863983489760420030:=0
def tw5266824871336860329:=0
def tw10870099591962679603:=0
def tw57525077212035106:=0
def tw18136215407757394597:=0
def tw13357552717996316331:=0
def tw3255569833553348522:=0
def tw9433691519609090134:=0
def tw12409635164965417119:=0
def tw2060464167648648996:=0
def tw16476590431218936739:=0
def tw503357564257675183:=0
def tw18121883786418327871:=0
def tw2407150126722338812:=0
def tw16109176218798969235:=0
def tw18254494704674529839:=0
def tw16689048993956700132:=0
def tw929567543123725605:=0
def tw4123923983128969017:=0
def tw8435214805555342754:=0
def tw18020234766209075442:=0
def tw17782246267664373752:=0
def tw11445991202223232238:=0
def tw14340094458168235355:=0
def tw6075528386933220148:=0
def tw3893653139988644952:=0
def tw8985059986682921828:=0
def tw13141271906040775125:=0
def tw10518798682203742595:=0
def tw1777156432220605617:=0
def tw1192583275079343198:=0
def tw10848638535101462206:=0
def tw14557480376429954461:=0
def tw7753422129158952452:=0
def tw6410283917069247043:=0
def tw1562802937950679146:=0
def tw13552794448233696067:=0
def tw11050172886531325918:=0
def tw16684731621401572273:=0
def tw2004163805311383867:=0
def tw1135342332631612852:=0
def tw6095884274417434367:=0
def tw12390014243381824964:=0
def tw8485616323445478208:=0
def tw9811188031238765508:=0
def tw14575809519711613919:=0
def tw2266599887142686255:=0
def tw12897023523543827181:=0
def tw7359621637707352094:=0
def tw2862121458656558896:=0
def tw6994922413972613357:=0
def tw14763107722284610691:=0
def tw5996284864445127471:=0
def tw5954236577961755637:=0
def tw4505058336483569842:=0
def tw14966879769396268691:=0
def tw7875428570297861998:=0
def tw4706716883373745875:=0
def tw2155983969257087715:=0
def tw9396114769630300072:=0
def tw573927638086229246:=0
def tw17647365566059890463:=0
def tw3039130767693125727:=0
def tw4377834759113866931:=0
def tw17262148862650967437:=0
def tw17520570277334891129:=0
def tw14365576163633454028:=0
def tw6028771199163503133:=0
def tw2425573463584598037:=0
def tw17472270689157897243:=0
def tw15664283834178899782:=0
def tw10608669856973233259:=0
def tw1407473536016565383:=0
def tw3237758927228489141:=0
def tw16203988952892667714:=0
def tw14896372649613920712:=0
def tw3121148731958248582:=0
def tw8734825091221830288:=0
def tw14614720011297496493:=0
def tw91398322612502899:=0
def tw9594487753440572746:=0
def tw4550426109959808188:=0
def tw2238020059571848028:=0
def tw8102767952297431417:=0
def tw13204448495545281258:=0
def tw15453152467543506538:=0
def tw5723427141625370608:=0
def tw13240911417393535355:=0
def tw3033439971059255839:=0
def tw14608969476475385382:=0
def tw9121235539695854899:=0
def tw16311496487111743237:=0
def tw9529258087394293668:=0
def tw12309407630186109111:=0
def tw2536399207282783211:=0
def tw7481752637932425626:=0
def tw12447322484284514310:=0
def tw2462069073746148826:=0
def tw17828097312756007118:=0
def tw705807860239742328:=0
def tw4034796892280350336:=0
def tw16294191969707288497:=0
def tw1563793863967001660:=0
def tw14185122045927793987:=0
def tw17780015658603605049:=0
def tw2569877112359261261:=0
def tw16092034400072517968:=0
def tw9320229600207110211:=0
def tw8372905723518812137:=0
def tw4470937071833495040:=0
def tw14363014979243515745:=0
def tw12526538635956213161:=0
def tw6157850779486721088:=0
def tw16088265336761525022:=0
def tw12630859759082586441:=0
def tw15031248133075072107:=0
def tw14979112183388855301:=0
def tw2444822094531908912:=0
def tw12189407608161684682:=0
def tw565379764192155633:=0
def tw10054251140377656232:=0
def tw9804846138407455641:=0
def tw12621671025584844083:=0
def tw9233915684272757149:=0
def tw11611183492791962252:=0
def tw11434170009251110699:=0
def tw17763758989824295056:=0
def tw18076948421545761304:=0
def tw18313749341894995925:=0
def tw12396256138588070719:=0
def tw7524043540957729955:=0
def tw537539979721826666:=0
def tw9318853254579057843:=0
def tw3749792097487819233:=0
def tw2251868631477107305:=0
def tw13046750432916964715:=0
def tw7510175470751431773:=0
def tw4595760686468976251:=0
def tw111927943002966352:=0
def tw9169396862475693914:=0
def tw663933802804463040:=0
def tw4716445054535567653:=0
def tw9941502995264183032:=0
def tw8628840254723147404:=0
def tw120270200023493033:=0
def tw3477133753576784671:=0
def tw18082105520244684082:=0
def tw18024670322444945840:=0
def tw996318918398568446:=0
def tw4961409511063592568:=0
def tw11129900335215284674:=0
def tw2987137168014526030:=0
def tw8310607280233853489:=0
def tw13415416729574745393:=0
def tw9626135697563604565:=0
def tw3551999736712844728:=0
def tw10095294975855284026:=0
def tw9149194962410298285:=0
def tw8730147289382963777:=0
def tw232753726284767307:=0
def tw16318581265437313793:=0
def tw5251329082745438433:=0
def tw18235310744007827013:=0
def tw1054533992920827435:=0
def tw14517482292662374576:=0
def tw8616556597001604046:=0
def tw1080889258474783969:=0
def tw6497857202750837892:=0
def tw6591901162300628059:=0
def tw5792026613422534076:=0
def tw15462433670340599132:=0
def tw12961787031370151497:=0
def tw14948332320892544574:=0
def tw2897974608413250109:=0
def tw13318698500034299120:=0
def tw11470508928754252926:=0
def tw11488870587184643043:=0
def tw8627741284083046022:=0
def tw14206158310517849055:=0
def tw13404186001638620345:=0
def tw15397188749592788703:=0
def tw9728946583410043607:=0
def tw12247951066173851661:=0
def tw5812890733876068282:=0
def tw4177349010391775086:=0
def tw1953107775532789131:=0
def tw5032183709606504150:=0
def tw12275806012845920238:=0
def tw14584772949988816918:=0
def tw9843706561179099802:=0
def tw8980498699762626117:=0
def tw9378286448749800544:=0
def tw15952412058636542543:=0
def tw8172205062050076022:=0
def tw7693715392601807045:=0
def tw3738921054556442107:=0
def tw16222259120924706644:=0
def tw15425330374342755250:=0
def tw13861732919967283973:=0
def tw11576997136540902274:=0
def tw6042010377631420576:=0
def tw10643998216815589331:=0
def tw10011276331275744210:=0
def tw3139802442123159220:=0
def tw12595283999680731653:=0
def tw7240887381573156424:=0
def tw2529684892726476471:=0
def tw4464070654715359433:=0
def tw1098669465127067568:=0
def tw16873329929858618023:=0
def tw65465275934661696:=0
def tw14028356717673090775:=0
def tw1346288448819298599:=0
def tw11135076524412307096:=0
def tw4421998011132887244:=0
def tw3145474530988194718:=0
def tw6308059398245503636:=0
def tw3784769325370802598:=0
def tw12812908437286519948:=0
def tw883418075553447935:=0
def tw9147064198595824690:=0
def tw8006183802963016557:=0
def tw788992792467864602:=0
def tw6903146027082565625:=0
def tw6050062727841441628:=0
def tw4349653354285244882:=0
def tw3479308717226379172:=0
def tw16050706017434258129:=0
def tw15474371625421293083:=0
def tw12514485111787121886:=0
def tw11325671132869677666:=0
def tw11046761981211067448:=0
def tw10320221039505062246:=0
def tw946265231993791946:=0
def tw2906379359062836008:=0
def tw7295790959619470725:=0
def tw6234683391269156677:=0
def tw3059836241592454834:=0
def tw266240366957175630:=0
def tw2412226954598481778:=0
def tw2154615839218266067:=0
def tw18122328387297185383:=0
def tw11129244699647719323:=0
def tw10233579862167457953:=0
def tw7842698129162131918:=0
def tw609792202502311072:=0
def tw4130466763703695407:=0
def tw2304913845290383187:=0
def tw18439075184530866626:=0
def tw15836313101638535679:=0
def tw13175648578539111206:=0
def tw10560166618135046606:=0
def tw3766946246553001502:=0
def tw9012860194554338646:=0
def tw7379873033007024219:=0
def tw5910172858213405755:=0
def tw1402681702873242757:=0
def tw13855414396459083467:=0
def tw13482412494923239116:=0
def tw8919545713563690165:=0
def tw780225891819731544:=0
def tw6514178841120041696:=0
def tw3587094523160621198:=0
def tw12497554483645811706:=0
def tw12056263598063356934:=0
def tw11401312981605005387:=0
def tw10478563956947488417:=0
def tw9787889729548827159:=0
def tw9691389661426525421:=0
def tw9666216699400028157:=0
def tw962290150514972255:=0
def tw939157840108919619:=0
def tw9033773204416904919:=0
def tw8782716416508939638:=0
def tw8716373519440548160:=0
def tw864806079543877166:=0
def tw8248270678268023607:=0
def tw7835237890205659020:=0
def tw7610080001732876385:=0
def tw7519706879613401735:=0
def tw7492572336203895493:=0
def tw7243290329757590058:=0
def tw7129853906629675608:=0
def tw6875962461100069569:=0
def tw6838470575328884811:=0
def tw6813698931357091381:=0
def tw6776927663924156283:=0
def tw6760227106693977633:=0
def tw662640488295909948:=0
def tw6587686381215877646:=0
def tw6523505497712817994:=0
def tw6420500345515662043:=0
def tw6382152452999785011:=0
def tw6295815292686396213:=0
def tw6245060642983390795:=0
def tw621356117718899874:=0
def tw6065559430047558348:=0
def tw5831240046364462681:=0
def tw5751661706987200002:=0
def tw5685353897671611596:=0
def tw5307264032526230615:=0
def tw5305987665431356266:=0
def tw5262885376772540223:=0
def tw5233351304077032364:=0
def tw5200151646032827936:=0
def tw5003914822885784110:=0
def tw4968098715318425420:=0
def tw4804018539052009728:=0
def tw4653159534638894597:=0
def tw4574377249747603608:=0
def tw4477077063734127653:=0
def tw4468725413485552478:=0
def tw4450874910646879032:=0
def tw4213788420666704115:=0
def tw4165194630338112366:=0
def tw4065085770130559255:=0
def tw405203412561453307:=0
def tw3919671344282498082:=0
def tw3831921860661741971:=0
def tw3779259564515386437:=0
def tw3768719865953914768:=0
def tw3743857004736122893:=0
def tw3686815194312707998:=0
def tw3570701382590361921:=0
def tw3487431083093470486:=0
def tw3348069015183141639:=0
def tw3237845357420411965:=0
def tw32201601027152466:=0
def tw3176221079637696934:=0
def tw3103968511382701826:=0
def tw3069449499365443525:=0
def tw2959138184975001469:=0
def tw2847848872021755770:=0
def tw2844358018215509060:=0
def tw282001420486274272:=0
def tw277144073624874577:=0
def tw2740431705342064583:=0
def tw2472017305799172149:=0
def tw2250349926739826472:=0
def tw1905799492223828320:=0
def tw18424505417822504891:=0
def tw18418388626211472234:=0
def tw18328281407904132950:=0
def tw1820777055239064951:=0
def tw17866774817707934629:=0
def tw17850979648146146591:=0
def tw17727144552240659362:=0
def tw17490021352209288991:=0
def tw17335606254184386475:=0
def tw17301159747801741868:=0
def tw17124398062001681440:=0
def tw16985895333725708038:=0
def tw16875810230309256456:=0
def tw16504862676639623961:=0
def tw16415181541287917858:=0
def tw16352475747380633737:=0
def tw16244162929498888243:=0
def tw16116895684176981651:=0
def tw15979587758693054400:=0
def tw15926693885552118386:=0
def tw15753077119613496918:=0
def tw15255801183184280877:=0
def tw15090323172482680107:=0
def tw1498500332904741941:=0
def tw14420976808882001547:=0
def tw14377101666459500476:=0
def tw13777166677468561182:=0
def tw13643619007950259386:=0
def tw13621275073226903963:=0
def tw13311536221338375309:=0
def tw13258094977714849941:=0
def tw13245253007739735696:=0
def tw13045604318188632083:=0
def tw12869515982462325170:=0
def tw12743939008552364853:=0
def tw1262761861812180469:=0
def tw12608303656019178486:=0
def tw1244686243460064839:=0
def tw12388623082689014701:=0
def tw12327665571791383930:=0
def tw12250056629728505874:=0
def tw12190087052273997404:=0
def tw11880757491896787692:=0
def tw11865826320654806914:=0
def tw11826784261276236183:=0
def tw11373813679989991612:=0
def tw11176279341372618946:=0
def tw11079457133307722130:=0
def tw10500657311192828718:=0
def tw1043081162504805165:=0
def tw10394196054148673302:=0
def tw10318036765659219116:=0
def tw10245436666198453034:=0
def tw10232254467187119640:=0
def tw10207403223726000674:=0
end PySem.W.Fast
noncomputable section
def wa:=@PySem.wpAny_bind
def wb:=@List.getElem?_eq_some_iff
def wc:=@Nat.le_refl
def wd:=@PySem.Heap.get?_push_of_some
def we:=@List.getElem?_set_ne
def wf:=@PySem.wpAny_pure
def wg:=@Nat.lt_of_lt_of_le
def wj:=@List.mem_cons_of_mem
def wk:=@List.getElem?_set_self
def wm:=@PyProof.Rows.wpS_bind
def wo:=@PySem.Heap.lt_size
def wq:=@List.getElem?_eq_getElem
def wt:=@List.mem_cons_self
def wu:=@PyProof.Rows.wpS_pure
def wv:=@List.size_toArray
def ww:=@List.mem_singleton
def wx:=@List.mem_cons
def wy:=@PySem.Heap.get?_push_size
def wz:=@List.map_cons
def wA:=@List.length_map
def wB:=@decide_eq_false
def wC:=@List.length_cons
def wD:=@Nat.ne_of_lt
def wE:=@List.mem_append
def wF:=@Bool.false_ne_true
def wG:=@List.length_append
def wH:=@decide_eq_true
def wI:=@List.getElem?_map
def wJ:=@List.mem_append_right
def wK:=@PySem.wpAny_mono
def wL:=@Array.length_toList
def wM:=@Bool.and_eq_true
def wN:=@List.not_mem_nil
def wO:=@Option.some.inj
def wP:=@List.mem_of_getElem?
def wQ:=@Nat.le_trans
def wR:=@List.lookup_cons
def wS:=@PySem.W.mg_none_of
def wT:=@Array.toList_append
def wU:=@Ne.symm
def wV:=@PySem.W.kia_one
def wW:=@List.append_nil
def wX:=@List.drop_eq_getElem_cons
def wY:=@PyProof.Rows.slot_tuple_getitem
def wZ:=@List.length_replicate
def w5:=@PySem.F.excBase_ValueError
def w6:=@Nat.zero_le
def w9:=@PySem.W.mg_of
def va:=@List.length_nil
def vb:=@PySem.wpAny_newObj_type
def vd:=@Nat.lt_irrefl
def ve:=@List.nodup_cons
def vf:=@List.map_map
def vh:=@PyProof.Rows.wpS_forRange
def vi:=@Array.getElem?_toList
def vj:=@PySem.wpAny_holding
def vk:=@List.append_assoc
def vm:=@List.zip_cons_cons
def vn:=@List.getElem?_append_left
def vo:=@List.replicate_succ
def vp:=@Bool.false_eq_true
def vq:=@List.mem_map
def vt:=@List.getElem?_append_right
def vv:=@Bool.and_false
def vw:=@List.mem_of_mem_take
def vx:=@PySem.F.plainAttrs_list
def vy:=@PySem.wpAny_truthy_bool
def vz:=@PySem.wpAny_loadPart'
def vA:=@List.find?_cons
def vB:=@Array.perm_iff_toList_perm
def vC:=@List.take_append_drop
def vD:=@List.mem_of_mem_drop
def vE:=@beq_iff_eq
def vF:=@Option.isSome_iff_exists
def vG:=@List.length_range
def vH:=@List.map_append
def vI:=@Nat.le_of_lt
def vJ:=@List.map_nil
def vK:=@beq_eq_false_iff_ne
def vL:=@PySem.mem_of_lookup
def vM:=@List.getElem?_replicate
def vN:=@List.length_eq_zero_iff
def vO:=@or_false
def vP:=@PyProof.Rows.wpS_mono
def vQ:=@List.all_eq_true
def vR:=@PyProof.Rows.wpS_modify
def vS:=@List.Perm.append_right
def vT:=@PySem.wpAny_Call_Name_kw
def vU:=@Array.size_extract
def vV:=@Int.emod_lt_of_pos
def vW:=@List.Perm.append_left
def vX:=@List.perm_append_comm
def vY:=@Int.emod_nonneg
def vZ:=@Nat.lt_succ_of_lt
def v4:=@of_decide_eq_true
def v5:=@List.flatten_cons
def v6:=@Array.toList_reverse
def v7:=@Bool.false_and
def v8:=@List.pairwise_iff_getElem
def v9:=@List.length_take
def ua:=@PySem.wpAny_call_entry
def ub:=@PySem.wpAny_rule
def uc:=@getElem?_pos
def ud:=@List.mem_filterMap
def ue:=@PySem.wpAny_passesOwn
def uf:=@Bool.eq_iff_iff
def ug:=@PySem.W.callWith_K
def uh:=@if_true
def ui:=@List.length_set
def uj:=@List.cons.injEq
def uk:=@List.pairwise_cons
def ul:=@PySem.PassesOwn.never
def um:=@List.mem_range
def uo:=@if_false
def uq:=@PySem.codeAny_mono
namespace Tab
end Tab
set_option Elab.async false
set_option linter.all false
set_option maxRecDepth 100000
namespace L2
open PySem PySem.Spec PyProof.Rows
abbrev Key:=Sum Int Str
def z8w:Key->Value->Bool
 | .inl k,v=>Value.isInt k v
 | .inr x,v=>Value.isStrOf x v
def keyH (w:World):Key->Int
 | .inl k=>hashInt k
 | .inr x=>hashStr w x
def z14:∀{k:Key}{v:Value},z8w k v=true->(∃i t,k=Sum.inl i/\v=Value.int i t)\/(∃x t,k=Sum.inr x/\v=Value.str x t)
 | .inl i,v,h=>by
  obtain⟨t,e⟩:=Value.isInt_shape (k:=i) (v:=v) h;exact .inl ⟨i,t,rfl,e⟩
 | .inr x,v,h=>by
  obtain⟨t,e⟩:=Value.isStrOf_shape (x:=x) (v:=v) h;exact .inr ⟨x,t,rfl,e⟩
def zbx (i:Int)(t:Tok):z8w (.inl i) (.int i t)=true:=by simp[z8w,Value.isInt]
def zbw (x:Str)(t:Tok):z8w (.inr x) (.str x t)=true:=by simp[z8w,Value.isStrOf]
def zhR (a b:Int):decide ((Sum.inl a:Key)=Sum.inl b)=(a == b):=by
 by_cases e:a=b
 ·subst e; simp
 ·have h:¬ (Sum.inl a:Key)=Sum.inl b:=λq=>e (Sum.inl.inj q);rw[wB h];exact(vK.mpr e).symm
def zhO (a b:Str):decide ((Sum.inr a:Key)=Sum.inr b)=decide (a=b):=by
 by_cases e:a=b
 ·subst e; simp
 ·have h:¬ (Sum.inr a:Key)=Sum.inr b:=λq=>e (Sum.inr.inj q);rw[wB h,wB e]
def zhQ (a:Int)(b:Str):decide ((Sum.inl a:Key)=Sum.inr b)=false:=wB (λq=>nomatch q)
def zhP (a:Str)(b:Int):decide ((Sum.inr a:Key)=Sum.inl b)=false:=wB (λq=>nomatch q)
def z1a (prog:Program)(w:World):PySem.KeyKind prog w Key where
 is:=z8w
 hash:=keyH w
 inj:=λv a b ha hb=>by
  rcases z14 ha with ⟨i,t,rfl,rfl⟩ | ⟨x,t,rfl,rfl⟩
  ·rcases z14 hb with ⟨j,u,rfl,e⟩ | ⟨y,u,rfl,e⟩
   ·injection e with e1 _; rw[e1]
   ·exact nomatch e
  ·rcases z14 hb with ⟨j,u,rfl,e⟩ | ⟨y,u,rfl,e⟩
   ·exact nomatch e
   ·injection e with e1 _; rw[e1]
 byValue:=λk v h=>by
  rcases z14 h with ⟨i,t,rfl,rfl⟩ | ⟨x,t,rfl,rfl⟩ <;> rfl
 pyHash:=λhv h=>by
  rcases z14 hv with ⟨i,t,rfl,rfl⟩ | ⟨x,t,rfl,rfl⟩
  ·exact wpAny_pyHash_int h
  ·exact wpAny_pyHash_str h
 eqBool:=λhu hv h=>by
  rcases z14 hu with ⟨i,t,rfl,rfl⟩ | ⟨x,t,rfl,rfl⟩
  ·rcases z14 hv with ⟨j,u,rfl,rfl⟩ | ⟨y,u,rfl,rfl⟩
   ·rw[zhR] at h; exact wpAny_eqBool_int h
   ·rw[zhQ] at h; exact SeqAt.EqAt.int_str i t y u _ _ _ _ h
  ·rcases z14 hv with ⟨j,u,rfl,rfl⟩ | ⟨y,u,rfl,rfl⟩
   ·rw[zhP] at h; exact SeqAt.EqAt.str_int x t j u _ _ _ _ h
   ·rw[zhO] at h; exact wpAny_eqBool_str h
 «strs»:=λk x t v h=>by
  rcases z14 h with ⟨i,u,rfl,e⟩ | ⟨y,u,rfl,e⟩
  ·exact nomatch e
  ·injection e with e1 _
   subst e1
   cases v <;> rfl
def z9O (prog:Program)(w:World)(k:Key)(v:Value):(z1a prog w).is k v=z8w k v:=rfl
def z8q (prog:Program)(w:World)(i:Int)(t:Tok):(z1a prog w).is (.inl i) (.int i t)=true:=zbx i t
def z8p (prog:Program)(w:World)(x:Str)(t:Tok):(z1a prog w).is (.inr x) (.str x t)=true:=zbw x t
inductive V where
 | non | bl (b:Bool) | int (i:Int) | str (x:Str) | byt (b:Array UInt8) | flt (b:UInt64) | ref (a:Addr) | ty (n:String)
 deriving DecidableEq
def RelV:V->Value->Prop
 | .non,u=>u=Value.none
 | .bl b,u=>u=Value.bool b
 | .int i,u=>∃t,u=Value.int i t
 | .str x,u=>∃t,u=Value.str x t
 | .byt b,u=>∃t,u=Value.bytes b t
 | .flt b,u=>∃t,u=Value.float b t
 | .ref a,u=>u=Value.ref a
 | .ty n,u=>u=Value.type n
abbrev Vals:List V->List Value->Prop:=Paired RelV
theorem Vals.length {xs:List V}{us:List Value}(r:Vals xs us):xs.length=us.length:=Paired.length r
theorem Vals.get:∀{xs:List V}{us:List Value}{i:Nat}{x:V},Vals xs us->xs[i]? = some x->∃u,us[i]? = some u/\RelV x u
 | _,_,_,_,.nil,e=>by simp at e
 | _,_,0,_,.cons r _,e=>by simp at e; subst e; exact⟨_,rfl,r⟩
 | _,_,i+1,x,.cons _ t,e=>by
  obtain⟨u,h1,h2⟩:=Vals.get (i:=i) (x:=x) t (by simpa using e);exact⟨u,by simpa using h1,h2⟩
theorem Vals.set {x:V}{u:Value}(r:RelV x u):∀{xs:List V}{us:List Value}(i:Nat),Vals xs us->Vals (xs.set i x) (us.set i u)
 | _,_,_,.nil =>.nil
 | _,_,0,.cons _ t =>.cons r t
 | _,_,i+1,.cons q t =>.cons q (Vals.set r i t)
theorem Vals.append:∀{xs ys:List V}{us ws:List Value},Vals xs us->Vals ys ws->Vals (xs++ys) (us++ws)
 | _,_,_,_,.nil,s=>s
 | _,_,_,_,.cons r t,s =>.cons r (Vals.append t s)
theorem Vals.take:∀{xs:List V}{us:List Value}(n:Nat),Vals xs us->Vals (xs.take n) (us.take n)
 | _,_,0,_ =>.nil
 | _,_,_+1,.nil =>.nil
 | _,_,n+1,.cons r t =>.cons r (Vals.take n t)
theorem Vals.drop:∀{xs:List V}{us:List Value}(n:Nat),Vals xs us->Vals (xs.drop n) (us.drop n)
 | _,_,0,r=>r
 | _,_,_+1,.nil =>.nil
 | _,_,n+1,.cons _ t=>Vals.drop n t
def RelO:Option V->Option Value->Prop
 | some v,some u=>RelV v u
 | none,none=>True
 | _,_=>False
def KV {κ:Type}:List (κ × V)->List (κ × Value)->Prop:=Paired λ(p:κ × V) (q:κ × Value)=>p.1=q.1/\RelV p.2 q.2
def kV:Key->V
 | .inl i =>.int i
 | .inr x =>.str x
inductive HO where
 | lst (xs:List V)
 | tup (xs:List V)
 | dK (kvs:List (Key × V)) | dT (kvs:List (List Key × V))
 | set (S:Int->Bool) (n:Nat)
 | ins (C dx:Addr) (fs:List (Str × V))
 | own (x:Addr)
 | xd (fs:List (Str × V))
 | met (f x:Addr)
 | rng (lo hi:Int)
 | frz (o:Obj) (u:HO)
 | tbl (ps:Array Value)
 | ext (φ:Heap->Prop)
abbrev Hp:=Addr->Option HO
def upd (H:Hp)(a:Addr)(o:HO):Hp:=λb=>if b=a then some o else H b
def z09 {H:Hp}{a:Addr}{o:HO}:upd H a o a=some o:=by unfold upd; rw[if_pos rfl]
def z04 {H:Hp}{a b:Addr}{o:HO}(h:b≠a):upd H a o b=H b:=by unfold upd; rw[if_neg h]
def zjh {H:Hp}{a b:Addr}{o u:HO}(h:H a=some o)(h':H b=some u)(d:o≠u):a≠b:=by
 intro e; subst e; rw[h] at h'; exact d (wO h')
def z0p {H:Hp}{a b:Addr}{o:HO}(h:H a=some o)(h':H b=none):a≠b:=by
 intro e; subst e; rw[h] at h'; cases h'
def NoD (h:Heap)(a:Addr):Prop:=∃o,h.get? a=some o/\o.dict=none
def zjB (H:Hp)(h:Heap)(a:Addr)(ps:Array Value):Prop:=h.get? a=some { cls :=.none,data :=.fields #[] }\/
 ∃(l c:Value) (q:Str) (t:Tok) (c':Addr) (o:Obj) (vs:Array Value) (u:Tok),ps[0]? = some l/\ps[1]? = some c/\ps[2]? = some (.str q t)/\h.get? a=some { cls :=.none,data :=.fields #[l,c,.ref c'] }/\H c'=some (.frz o (.own c'))/\o.data = .fields vs/\vs[1]? = some (.str q u)
section
variable (P:Program)(w:World)
def z1l (H:Hp)(h:Heap)(a:Addr):HO->Prop
 | .lst xs=>xs.length<=sizeLine/\∃(its:List Value) (n:Nat),Vals xs its/\h.get? a=some { cls :=.type "list",data :=.seq its.toArray n }
 | .tup xs=>xs.length<=sizeLine/\∃its:List Value,Vals xs its/\IsTup h a its.toArray/\NoD h a
 | .dK kvs=>kvs.length<=sizeLine/\(a == sysModules)=false/\∃vs,KV kvs vs/\h.DictOf (z1a P w) a vs
 | .dT kvs=>kvs.length<=sizeLine/\(a == sysModules)=false/\∃xs:List (List Key × Addr × Value),
   Paired (λ(p:List Key × V) (q:List Key × Addr × Value)=>p.1=q.1/\H q.2.1=some (.tup (p.1.map kV))/\RelV p.2 q.2.2) kvs xs/\
   ∃o es ep,h.get? a=some o/\o.ExactDict/\o.data = .dict es ep/\es.toList=xs.map (entryOfKey (tupleKind (z1a P w)))/\(xs.map (·.1)).Nodup
 | .set S n=>h.SetOf (intKind P w) a S n
 | .ins C dx fs=>H dx=some (.own a)/\fs.length<=1000/\dx≠a/\h.get? a=some (PySem.W.instObj C dx)/\
   ∃mA,h.Ns1 dx mA/\(∀f,RelO (fs.lookup f) (mA f))/\PySem.Within mA (fs.map (·.1))
 | .own _=>∃o,h.get? a=some o
 | .xd fs=>∃mA,h.Ns1 a mA/\∀f,RelO (fs.lookup f) (mA f)
 | .rng lo hi=>∃t u v,h.get? a=some { cls :=.type "range",data :=.fields #[.int lo t,.int hi u,.int 1 v] }
 | .frz o u=>h.get? a=some o/\z1l H h a u
 | .tbl ps=>zjB H h a ps
 | .met f x=>h.get? a=some (PySem.W.methodObj (.ref f) (.ref x))
 | .ext φ=>φ h/\(∃o,h.get? a=some o)/\∀h1 h2:Heap,φ h1->(∀o,h1.get? a=some o->h2.get? a=some o)->φ h2
def HOk (H:Hp)(h:Heap):Prop:=∀a o,H a=some o->z1l P w H h a o
end
section
variable {P:Program}{w:World}{H H':Hp}{h h':Heap}{a:Addr}{o:HO}
theorem z1l.lt (x:z1l P w H h a o):a<h.objs.size:=by
 cases o with
 | lst xs=>obtain⟨_,_,_,_,e⟩:=x; exact wo e
 | tup xs=>obtain⟨_,_,_,p,_⟩:=x; exact p.lt
 | dK kvs=>obtain⟨_,_,_,_,o,_,_,e,_⟩:=x; exact wo e
 | dT kvs=>obtain⟨_,_,_,_,o,_,_,e,_⟩:=x; exact wo e
 | set S n=>obtain⟨o,_,_,_,e,_⟩:=x; exact wo e
 | ins C dx fs=>obtain⟨_,_,_,e,_⟩:=x; exact wo e
 | own y=>obtain⟨_,e⟩:=x; exact wo e
 | xd fs=>obtain⟨_,⟨_,_,_,e,_⟩,_⟩:=x; exact wo e
 | rng lo hi=>obtain⟨_,_,_,e⟩:=x; exact wo e
 | frz ob u=>obtain⟨e,_⟩:=x; exact wo e
 | tbl ps=>rcases x with e | ⟨_,_,_,_,_,_,_,_,_,_,_,e,_⟩ <;> exact wo e
 | met f y=>exact wo (show h.get? a=some _ from x)
 | ext φ=>obtain⟨_,⟨_,e⟩,_⟩:=x; exact wo e
theorem Paired.mapP {α β:Type}{F G:α->β->Prop}:∀{l₁:List α} {l₂:List β},Paired F l₁ l₂->(∀a b,F a b->G a b)->Paired G l₁ l₂
 | _,_,.nil,_ =>.nil
 | _,_,.cons r t,f =>.cons (f _ _ r) (Paired.mapP t f)
def z1l.stay (x:z1l P w H h a o)(k:∀b u,(b=a\/H b=some (.own a))->h.get? b=some u->h'.get? b=some u)
  (ho:∀b,H b=some (.own a)->H' b=some (.own a)) (ht:∀b xs,H b=some (.tup xs)->H' b=some (.tup xs)) (hf:∀b o c,H b=some (.frz o (.own c))->H' b=some (.frz o (.own c)):=by first | exact λ_ _ _ q=>q | exact λc _ _ q=>by rw[z04 (z0p q (by assumption))]; exact q):z1l P w H' h' a o:=by
 induction o with
 | lst xs=>obtain⟨z,its,n,r,e⟩:=x; exact⟨z,its,n,r,k _ _ (.inl rfl) e⟩
 | tup xs=>obtain⟨z,its,r,⟨ob,e,c⟩,od,ed,cd⟩:=x; exact⟨z,its,r,⟨ob,k _ _ (.inl rfl) e,c⟩,od,k _ _ (.inl rfl) ed,cd⟩
 | dK kvs=>obtain⟨z,y,vs,r,ob,es,ep,e,c⟩:=x; exact⟨z,y,vs,r,ob,es,ep,k _ _ (.inl rfl) e,c⟩
 | dT kvs=>
  obtain⟨z,y,xs,r,ob,es,ep,e,c⟩:=x;exact⟨z,y,xs,Paired.mapP r λp q z=>⟨z.1,ht _ _ z.2.1,z.2.2⟩,ob,es,ep,k _ _ (.inl rfl) e,c⟩
 | set S n=>obtain⟨ob,es,ep,t,e,c⟩:=x; exact⟨ob,es,ep,t,k _ _ (.inl rfl) e,c⟩
 | ins C dx fs=>
  obtain⟨d,z,ne,e,mA,⟨od,es,ep,e2,c⟩,r⟩:=x;exact⟨ho _ d,z,ne,k _ _ (.inl rfl) e,mA,⟨od,es,ep,k _ _ (.inr d) e2,c⟩,r⟩
 | own y=>obtain⟨ob,e⟩:=x; exact⟨ob,k _ _ (.inl rfl) e⟩
 | xd fs=>obtain⟨mA,⟨od,es,ep,e,c⟩,r⟩:=x; exact⟨mA,⟨od,es,ep,k _ _ (.inl rfl) e,c⟩,r⟩
 | rng lo hi=>obtain⟨t,u,v,e⟩:=x; exact⟨t,u,v,k _ _ (.inl rfl) e⟩
 | frz ob u ih=>obtain⟨e,q⟩:=x; exact⟨k _ _ (.inl rfl) e,ih q⟩
 | tbl ps=>
  rcases x with e | ⟨l,c,q,t,c',ob,vs,u,e1,e2,e3,e,ec,r⟩
  ·exact .inl (k a _ (.inl rfl) e)
  ·exact .inr ⟨l,c,q,t,c',ob,vs,u,e1,e2,e3,k a _ (.inl rfl) e,hf _ _ _ ec,r⟩
 | met f y=>
  have e:h.get? a=some (PySem.W.methodObj (.ref f) (.ref y)):=x;show h'.get? a=some (PySem.W.methodObj (.ref f) (.ref y));exact k a _ (.inl rfl) e
 | ext φ=>obtain⟨p,⟨o,e⟩,st⟩:=x; exact⟨st _ _ p λo q=>k _ _ (.inl rfl) q,⟨o,k _ _ (.inl rfl) e⟩,st⟩
theorem HOk.lt (x:HOk P w H h)(e:H a=some o):a<h.objs.size:=(x a o e).lt
def HOk.fresh (x:HOk P w H h)(e:h.objs.size<=a):H a=none:=by
 cases q:H a with
 | none=>rfl
 | some u=>exact absurd (wg (x.lt q) e) (vd _)
def HOk.kept (x:HOk P w H h)(k:∀b u,h.get? b=some u->h'.get? b=some u):HOk P w H h':=λa o e=>
 (x a o e).stay (λb u _ q=>k b u q) (λ_ q=>q) λ_ _ q=>q
def HOk.laid (x:HOk P w H h)(k:∀b u,h.get? b=some u->h'.get? b=some u)(hp:h.objs.size<=a)(new:z1l P w (upd H a o) h' a o):HOk P w (upd H a o) h':=λb u e=>by
 have hn:=x.fresh hp
 by_cases hb:b=a
 ·subst hb; rw[z09] at e; cases e; exact new
 ·rw[z04 hb] at e;exact(x b u e).stay (λc v _ q=>k c v q) (λc q=>by rw[z04 (z0p q hn)]; exact q) λc xs q=>by rw[z04 (z0p q hn)]; exact q
end
def Rd (H:Hp)(a:Addr)(u:HO):Prop:=H a=some u\/∃o,H a=some (.frz o u)
def Rd.ok {P:Program}{w:World}{H:Hp}{h:Heap}{a:Addr}{u:HO}(r:Rd H a u)(x:HOk P w H h):z1l P w H h a u:=by
 rcases r with r | ⟨o,r⟩
 ·exact x a u r
 ·obtain⟨_,q⟩:=x a _ r;exact q
def Mut:Option HO->Prop
 | some (.lst _)=>True
 | some (.dK _)=>True
 | some (.dT _)=>True
 | some (.set _ _)=>True
 | some (.ins _ _ _)=>True
 | some (.ext _)=>True
 | _=>False
section
variable {P:Program}{w:World}{H:Hp}{h h':Heap}{x e:Addr}{o':HO}
def HOk.write (ok:HOk P w H h)(mu:Mut (H x))(he:e=x\/H e=some (.own x))(k:∀b u,b≠e->h.get? b=some u->h'.get? b=some u)(heo:∃u,h'.get? e=some u)
  (new:z1l P w (upd H x o') h' x o'):HOk P w (upd H x o') h':=λb u q=>by
 have nown:∀c y,H c=some (.own y)->c≠x:=λc y r z=>by subst z; rw[r] at mu; exact mu
 have ntup:∀c xs,H c=some (.tup xs)->c≠x:=λc xs r z=>by subst z; rw[r] at mu; exact mu
 by_cases hb:b=x
 ·subst hb; rw[z09] at q; cases q; exact new
 ·rw[z04 hb] at q
  by_cases hbe:b=e
  ·have q':H b=some (.own x):=by
    rcases he with z | z
    ·exact absurd (hbe.trans z) hb
    ·rw[hbe]; exact z
   rw[q] at q'; cases q';obtain⟨v,hv⟩:=heo;exact⟨v,by rw[hbe]; exact hv⟩
  ·refine(ok b u q).stay (λc v hc r=>k c v ?_ r) (λc r=>by rw[z04 (nown c b r)]; exact r) (λc xs r=>by rw[z04 (ntup c xs r)]; exact r) λc o u r=>by rw[z04 (λz=>by subst z; rw[r] at mu; exact mu)]; exact r
   rcases hc with rfl | hc
   ·exact hbe
   ·rintro rfl
    rcases he with z | z
    ·exact nown c b hc z
    ·rw[hc] at z; cases z; exact hb rfl
end
structure Un (fs ex:List Addr)(H H':Hp)(h h':Heap):Prop where
 keep:∀b o,h.get? b=some o->H b=none->b ∉ fs->b ∉ ex->h'.get? b=some o
 slot:∀b o,h.get? b=some o->H b=none->b∈fs->b ∉ ex->∃sl,h'.get? b=some { o with slots:=sl }
 free:∀b o,h.get? b=some o->H b=none->b ∉ ex->H' b=none
 there:∀b o,h.get? b=some o->b ∉ ex->∃o',h'.get? b=some o'
 tups:∀b xs,H b=some (.tup xs)->H' b=some (.tup xs)
 frzs:∀b o u,H b=some (.frz o u)->H' b=some (.frz o u)
 tbls:∀b ps,H b=some (.tbl ps)->∃more,H' b=some (.tbl (ps++more))
section
variable {fs fs' ex ex':List Addr}{H H1 H2:Hp}{h h1 h2 h':Heap}{a x e:Addr}{o:HO}
def Un.any (u:Un fs ex H H1 h h1){b:Addr}{ob:Obj}(q:h.get? b=some ob)(n:H b=none)(hx:b ∉ ex):∃sl,h1.get? b=some { ob with slots:=sl }:=by
 by_cases hb:b∈fs
 ·exact u.slot b ob q n hb hx
 ·exact⟨ob.slots,u.keep b ob q n hb hx⟩
def Un.kept (k:∀b u,h.get? b=some u->h'.get? b=some u):Un fs ex H H h h':=
 ⟨λb ob q _ _ _=>k b ob q,λb ob q _ _ _=>⟨ob.slots,k b ob q⟩,λ_ _ _ n _=>n,λb ob q _=>⟨ob,k b ob q⟩,λ_ _ q=>q,λ_ _ _ q=>q,λ_ ps q=>⟨#[],by rw[q]; simp⟩⟩
def Un.refl:Un fs ex H H h h:=Un.kept λ_ _ q=>q
def Un.laid (k:∀b u,h.get? b=some u->h'.get? b=some u)(hp:h.objs.size<=a)(hn:H a=none):Un fs ex H (upd H a o) h h' where
 keep:=λb u q _ _ _=>k b u q
 slot:=λb u q _ _ _=>⟨u.slots,k b u q⟩
 free:=λb u q n _=>by rw[z04 (wD (wg (wo q) hp))]; exact n
 there:=λb u q _=>⟨u,k b u q⟩
 tups:=λb xs q=>by rw[z04 (z0p q hn)]; exact q
 frzs:=λb u xs q=>by rw[z04 (z0p q hn)]; exact q
 tbls:=λb ps q=>⟨#[],by rw[z04 (z0p q hn),q]; simp⟩
def Un.write (mu:Mut (H x))(he:e=x\/H e=some (.own x))(k:∀b u,b≠e->h.get? b=some u->h'.get? b=some u)(heo:∃u,h'.get? e=some u):Un fs ex H (upd H x o) h h':=by
 have hx:∀b,H b=none->b≠x:=λb n z=>by subst z; rw[n] at mu; exact mu
 have hb:∀b,H b=none->b≠e:=λb n z=>by
  subst z
  rcases he with r | r
  ·exact hx b n r
  ·rw[n] at r; cases r
 have hm:∀b u,H b=some u->¬ Mut (some u)->b≠x:=λb u q nm z=>by subst z; rw[q] at mu; exact nm mu
 refine⟨λb u q n _ _=>k b u (hb b n) q,λb u q n _ _=>⟨u.slots,k b u (hb b n) q⟩,λb u q n _=>by rw[z04 (hx b n)]; exact n,λb u q _ =>?_,
  λb xs q=>by rw[z04 (hm b _ q λz=>z)]; exact q,λb u xs q=>by rw[z04 (hm b _ q λz=>z)]; exact q,λb ps q=>⟨#[],by rw[z04 (hm b _ q λz=>z),q]; simp⟩⟩
 by_cases hbe:b=e
 ·subst hbe; exact heo
 ·exact⟨u,k b u hbe q⟩
end
def trk (h:Heap)(H:Hp):List Addr:=(List.range h.objs.size).filter λa=>(H a).isSome
def hidT (h:Heap)(H:Hp):Heap:=PySem.W.hideAll h (trk h H)
def zbD (h:Heap)(H:Hp):(hidT h H).objs.size=h.objs.size:=PySem.W.hideAll_size _ _
def z6X {h:Heap}{H:Hp}{b:Addr}{o:Obj}(e:h.get? b=some o)(n:H b=none):(hidT h H).get? b=some o:=
 PySem.W.hideAll_get _ e λhm=>by
  have q:(H b).isSome=true:=(List.mem_filter.mp hm).2;rw[n] at q; simp at q
def zfh {h:Heap}{H:Hp}{b:Addr}{o:Obj}(e:(hidT h H).get? b=some o):h.get? b=some o/\H b=none:=by
 have e':h.get? b=some o:=PySem.W.of_hideAll (trk h H) e;refine⟨e',?_⟩
 cases q:H b with
 | none=>rfl
 | some x=>
  have hm:b∈trk h H:=List.mem_filter.mpr ⟨um.mpr (wo e'),by simp[q]⟩;have z:(hidT h H).get? b=none:=PySem.W.hideAll_none (trk h H) hm;rw[z] at e; cases e
def BmAt (mg:Str->Option Value)(h:Heap):Prop:=∃bm ob,mg "__builtins__"=some (.ref bm)/\bm≠builtinsNs/\h.get? bm=some ob/\ob.cls = .type "module"/\ob.dict=some builtinsNs/\ob.data = .plain
def zhN (fd:FuncData):Option Pos:=match fd.body with
 | .stmts b=>(match b.getLast? with
  | some (.Return (some (.Call _ _ [⟨_,.Lambda _ _ _ pos,_⟩] _)) _)=>some pos
  | _=>none)
 | _=>none
def zal (K:W.Frag)(c:Addr):Option Addr:=match K.lookup c with
 | some ⟨.type "code",_,.fields vs,_⟩=>(match (vs[11]? : Option Value) with | some (.ref P)=>if (K.lookup P).isNone then some P else none | _=>none)
 | _=>none
def tsOf (K:W.Frag):List (Addr × Nat × Nat × Str):=K.filterMap λp=>match p.2.data with
 | .func fd=>(match zhN fd,fd.code with
  | some pos,.ref c=>(zal K c).map λP=>(P,pos.line,pos.col,fd.qualname++".<locals>."++"<lambda>")
  | _,_=>none)
 | _=>none
def encT (t:Nat × Nat × Str):Array Value := #[rawInt t.1,rawInt t.2.1,.str t.2.2 0]
def Tbs (K:W.Frag)(H:Hp):Prop:=∀P t,(tsOf K).lookup P=some t->∃more,H P=some (.tbl (encT t++more))
structure Mod (K:W.Frag)(mg:Str->Option Value)(base:Heap):Prop where
 kin:K.In base
 glob:base.Ns mainGlobals mg
 blt:∃mb,base.Ns builtinsNs mb/\∀x:Str,x≠"__name__"->mb x=bootBuiltins x
 nolimit:base.NoLimit
 bm:BmAt mg base
structure Cx where
 prog:Program
 w:World
 K:W.Frag
 mg:Str->Option Value
 base:Heap
 A:Around
 N:List Str
 s₀:Shared
 H₀:Hp
 env:Env
 outer:List Env
 stack:List Env
 ex:List Addr
 fn:Str->Bool
 calm:Bool
 pn:List (Addr × Obj)
 xe:Value->Shared->Prop
def frs (l:List Env):List Addr:=l.filterMap (·.frame)
abbrev Cx.fs (X:Cx):List Addr:=frs X.outer
def Vis (sc:Scope)(x:Str):Prop:=sc.names.lookup x=some .local\/sc.names.lookup x=some .cell\/sc.names.lookup x=some .free
def Loc (sc:Scope)(x:Str):Prop:=sc.names.lookup x=some .local\/sc.names.lookup x=some .cell
def Look (env:Env)(h:Heap)(m:Str->Option Value)(x:Str)(u:Value):Prop:=
 (env.kindOf x=some .local/\m x=some u)\/((env.kindOf x=some .cell\/env.kindOf x=some .free)/\∃c,env.cells.lookup x=some c/\h.IsCell c (some u))
structure Cx.Ok (X:Cx):Prop where
 mod:Mod X.K X.mg X.base
 kind:X.env.scope.kind = .function
 glob:X.env.globals=mainGlobals
 blt:X.env.builtins=builtinsNs
 above:X.s₀.heap.objs.size<=X.env.locals
 inj:∀x y c,X.env.cells.lookup x=some c->X.env.cells.lookup y=some c->x=y
 has:∀x,(X.env.kindOf x=some .cell\/X.env.kindOf x=some .free)->∃c,X.env.cells.lookup x=some c
 cab:∀x c,X.fn x=true->X.env.cells.lookup x=some c->X.s₀.heap.objs.size<=c
 hd:X.calm=true->X.A.handled=none
 frames:X.A.frames=some X.stack
 stk:X.stack=X.outer\/(X.stack=X.env::X.outer/\X.env.frame=some X.env.locals)
 exf:∀b∈X.ex,b≠X.env.locals/\∀x c,X.env.cells.lookup x=some c->c≠b
 bs:∀b o,X.base.get? b=some o->X.s₀.heap.get? b=some o/\X.H₀ b=none
 bsz:X.base.objs.size<=X.s₀.heap.objs.size
 noex:∀b o,X.base.get? b=some o->b ∉ X.ex
 exfs:∀b∈X.ex,b ∉ X.fs
 funs:X.s₀.heap.FunFrames X.base X.outer
 frf:∀b∈X.fs,X.H₀ b=none
 tbs:Tbs X.K X.H₀
structure Inv (X:Cx)(pins:List (Addr × Obj))(σ:List (Option V))(H:Hp)(s:Shared):Prop where
 ok:X.Ok
 os:s.os=X.s₀.os
 bare:AllBare s.gens
 base:Un X.fs X.ex X.H₀ H X.s₀.heap s.heap
 loc:∃m,s.heap.Ns X.env.locals m/\∀(i:Nat) (x:Str) (v:V),X.N[i]? = some x->σ[i]? = some (some v)->Vis X.env.scope x->∃u,RelV v u/\Look X.env s.heap m x u
 cell:∀x c,X.env.cells.lookup x=some c->∃v,s.heap.IsCell c v
 free:H X.env.locals=none
 freeC:∀x c,X.env.cells.lookup x=some c->H c=none
 pin:∀p∈X.pn++pins,s.heap.get? p.1=some p.2/\H p.1=none/\p.1≠X.env.locals/\p.1 ∉ X.fs/\∀v,p.2.data ≠ .cell v
 hok:HOk X.prog X.w H s.heap
 len:σ.length=X.N.length
section
variable {X:Cx}{pins:List (Addr × Obj)}{σ:List (Option V)}{H H':Hp}{s:Shared}{h':Heap}
def Cx.Ok.nofr (ok:X.Ok){b:Addr}{o:Obj}(e:X.base.get? b=some o):b ∉ X.fs:=λhb=>by
 have:=(ok.funs.mem hb).1;rw[e] at this; cases this
theorem Inv.bs (I:Inv X pins σ H s):∀b o,X.base.get? b=some o->s.heap.get? b=some o/\H b=none:=λb o e=>
 ⟨I.base.keep b o (I.ok.bs b o e).1 (I.ok.bs b o e).2 (I.ok.nofr e) (I.ok.noex b o e),I.base.free b o (I.ok.bs b o e).1 (I.ok.bs b o e).2 (I.ok.noex b o e)⟩
def Inv.bk (I:Inv X pins σ H s):∀b o,X.base.get? b=some o->s.heap.get? b=some o:=λb o e=>(I.bs b o e).1
theorem Inv.mod (I:Inv X pins σ H s):Mod X.K X.mg X.base:=I.ok.mod
def Inv.kIn (I:Inv X pins σ H s):X.K.In s.heap:=I.ok.mod.kin.keeps I.bk
theorem Inv.lt (I:Inv X pins σ H s):X.env.locals<s.heap.objs.size:=let ⟨_,hn,_⟩:=I.loc; hn.lt
def Inv.sz (I:Inv X pins σ H s):X.s₀.heap.objs.size<=s.heap.objs.size:=wQ I.ok.above (vI I.lt)
def Inv.nofs (I:Inv X pins σ H s){a:Addr}(h:s.heap.objs.size<=a):a ∉ X.fs:=λhb=>by
 obtain⟨_,o,ho,_⟩:=I.ok.funs.mem hb;exact absurd (wg (wo ho) (wQ I.sz h)) (vd _)
def Inv.cne (I:Inv X pins σ H s):∀x c,X.env.cells.lookup x=some c->c≠X.env.locals:=λx c e z=>by
 obtain⟨v,o,ho,hd⟩:=I.cell x c e;obtain⟨m,⟨o',es,ep,ho',hd',_⟩,_⟩:=I.loc;rw[z,ho'] at ho; cases ho; rw[hd'] at hd; cases hd
theorem Inv.funs (I:Inv X pins σ H s):s.heap.FunFrames X.base X.outer:=by
 have all:∀(l:List Env),(∀b∈frs l,b∈X.fs)->X.s₀.heap.FunFrames X.base l->s.heap.FunFrames X.base l:=by
  intro l
  induction l with
  | nil=>intro _ _; trivial
  | cons env r ih=>
   intro hs hl;obtain⟨hk,⟨L,o,hf,hn,ho,hd⟩,hr⟩:=hl;have hL:L∈X.fs:=hs L (by unfold frs; rw[List.filterMap_cons,hf]; exact wt);obtain⟨sl,e⟩:=I.base.slot L o ho (I.ok.frf L hL) hL λz=>I.ok.exfs L z hL;exact⟨hk,⟨L,_,hf,hn,e,hd⟩,ih (λb hb=>hs b (by unfold frs; rw[List.filterMap_cons,hf]; exact wj _ hb)) hr⟩
 exact all X.outer (λ_ hb=>hb) I.ok.funs
theorem Inv.stack (I:Inv X pins σ H s):s.heap.FunFrames X.base X.stack:=by
 rcases I.ok.stk with e | ⟨e,hf⟩
 ·rw[e]; exact I.funs
 ·rw[e];obtain⟨m,hn,_⟩:=I.loc;refine .cons (by rw[I.ok.kind]; decide) hf hn ?_ I.funs;exact Heap.get?_none_of_le (wQ I.ok.bsz I.ok.above)
def Inv.stkSub (I:Inv X pins σ H s):∀b∈frs X.stack,b∈X.env.locals::X.fs:=λb hb=>by
 rcases I.ok.stk with e | ⟨e,hf⟩
 ·rw[e] at hb; exact wj _ hb
 ·rw[e] at hb;unfold frs at hb;rw[List.filterMap_cons,hf] at hb;exact hb
def Inv.stkFree (I:Inv X pins σ H s):∀b∈frs X.stack,H b=none:=λb hb=>by
 rcases wx.mp (I.stkSub b hb) with e | hb
 ·rw[e]; exact I.free
 ·obtain⟨_,o,ho,_⟩:=I.ok.funs.mem hb;exact I.base.free b o ho (I.ok.frf b hb) λz=>I.ok.exfs b z hb
theorem Inv.tbs (I:Inv X pins σ H s):Tbs X.K H:=λP t e=>by
 obtain⟨m1,e1⟩:=I.ok.tbs P t e;obtain⟨m2,e2⟩:=I.base.tbls P _ e1;exact⟨m1++m2,by rw[e2,Array.append_assoc]⟩
def Inv.step {g':Array GenState}{t':Nat}{d':Drawn}{ch:List Addr}(I:Inv X pins σ H s)
  (hch:∀b∈ch,(b∈X.ex\/X.s₀.heap.objs.size<=b)/\b≠X.env.locals/\(∀x c,X.env.cells.lookup x=some c->c≠b)/\∀p∈X.pn++pins,p.1≠b)
  (keep:∀b o,b≠X.env.locals->b ∉ X.fs->b ∉ ch->s.heap.get? b=some o->H b=none->h'.get? b=some o)
  (slot:∀b o,b≠X.env.locals->b∈X.fs->b ∉ ch->s.heap.get? b=some o->H b=none->∃sl,h'.get? b=some { o with slots:=sl }) (free:∀b o,b ∉ ch->s.heap.get? b=some o->H b=none->H' b=none)
  (there:∀b o,b ∉ ch->s.heap.get? b=some o->∃o',h'.get? b=some o')
  (tups:∀b xs,H b=some (.tup xs)->H' b=some (.tup xs)) (frzs:∀b o u,H b=some (.frz o u)->H' b=some (.frz o u)) (tbls:∀b ps,H b=some (.tbl ps)->∃more,H' b=some (.tbl (ps++more)))
  (ns:∀m,s.heap.Ns X.env.locals m->h'.Ns X.env.locals m) (hok:HOk X.prog X.w H' h') (hg:AllBare g'):
  Inv X pins σ H' { s with heap:=h',gens:=g',drawn:=d',toks:=t' }:=by
 have neL:∀b o,X.s₀.heap.get? b=some o->b≠X.env.locals:=λb o e=>wD (wg (wo e) I.ok.above);have neC:∀b o,X.s₀.heap.get? b=some o->b ∉ X.ex->b ∉ ch:=λb o e hx hb=>by
  rcases(hch b hb).1 with z | z
  ·exact hx z
  ·exact absurd (wg (wo e) z) (vd _)
 have cellK:∀x c,X.env.cells.lookup x=some c->∀v,s.heap.IsCell c v->h'.IsCell c v:=λx c e v ⟨o,ho,hd⟩=>by
  have nch:c ∉ ch:=λz=>(hch c z).2.2.1 x c e rfl
  by_cases hc:c∈X.fs
  ·obtain⟨sl,q⟩:=slot c o (I.cne x c e) hc nch ho (I.freeC x c e);exact⟨_,q,hd⟩
  ·exact⟨o,keep c o (I.cne x c e) hc nch ho (I.freeC x c e),hd⟩
 refine⟨I.ok,I.os,hg,⟨λb o e n hb hx =>?_,λb o e n hb hx =>?_,λb o e n hx =>?_,λb o e hx =>?_,λb xs e=>tups b xs (I.base.tups b xs e),λb o xs e=>frzs b o xs (I.base.frzs b o xs e),λb ps e =>?_⟩,?_,λx c e =>?_,?_,λx c e =>?_,λp hp =>?_,hok,I.len⟩
 ·exact keep b o (neL b o e) hb (neC b o e hx) (I.base.keep b o e n hb hx) (I.base.free b o e n hx)
 ·obtain⟨sl,e1⟩:=I.base.slot b o e n hb hx;obtain⟨sl',e2⟩:=slot b _ (neL b o e) hb (neC b o e hx) e1 (I.base.free b o e n hx);exact⟨sl',e2⟩
 ·obtain⟨o',e1⟩:=I.base.there b o e hx;exact free b o' (neC b o e hx) e1 (I.base.free b o e n hx)
 ·obtain⟨o',e1⟩:=I.base.there b o e hx;exact there b o' (neC b o e hx) e1
 ·obtain⟨m1,e1⟩:=I.base.tbls b ps e;obtain⟨m2,e2⟩:=tbls b _ e1;exact⟨m1++m2,by rw[e2,Array.append_assoc]⟩
 ·obtain⟨m,hn,hl⟩:=I.loc;refine⟨m,ns m hn,λi x v e1 e2 e3 =>?_⟩;obtain⟨u,r,l⟩:=hl i x v e1 e2 e3;refine⟨u,r,?_⟩
  rcases l with l | ⟨k,c,e,z⟩
  ·exact .inl l
  ·exact .inr ⟨k,c,e,cellK x c e _ z⟩
 ·obtain⟨v,z⟩:=I.cell x c e;exact⟨v,cellK x c e v z⟩
 ·obtain⟨m,⟨o,_,_,ho,_⟩,_⟩:=I.loc;exact free _ o (λz=>(hch _ z).2.1 rfl) ho I.free
 ·obtain⟨v,o,ho,hd⟩:=I.cell x c e;exact free c o (λz=>(hch c z).2.2.1 x c e rfl) ho (I.freeC x c e)
 ·obtain⟨e,n,ne,nf,d⟩:=I.pin p hp;have nch:p.1 ∉ ch:=λz=>(hch p.1 z).2.2.2 p hp rfl;exact⟨keep p.1 p.2 ne nf nch e n,free p.1 p.2 nch e n,ne,nf,d⟩
def Inv.un {t':Nat}(I:Inv X pins σ H s)(u:Un X.fs [] H H' s.heap h')(hok:HOk X.prog X.w H' h'):Inv X pins σ H' { s with heap:=h',toks:=t' }:=by
 obtain⟨m,⟨o,es,ep,ho,r⟩,_⟩:=id I.loc;obtain⟨sl,hL⟩:=u.any ho I.free (by simp);exact I.step (g':=s.gens) (d':=s.drawn) (ch:=[]) (λ_ z=>nomatch z) (λb o _ hb _ e n=>u.keep b o e n hb (by simp)) (λb o _ hb _ e n=>u.slot b o e n hb (by simp)) (λb o _ e n=>u.free b o e n (by simp)) (λb o _ e=>u.there b o e (by simp)) u.tups u.frzs u.tbls (λm' hm=>by
  obtain⟨o',es',ep',ho',r'⟩:=hm;rw[ho] at ho'; cases ho';exact⟨_,es',ep',hL,r'⟩) hok I.bare
def Inv.call {g':Array GenState}{t':Nat}{d':Drawn}{ch:List Addr}(I:Inv X pins σ H s)(u:Un (frs X.stack) ch H H' s.heap h')(hok:HOk X.prog X.w H' h')(hg:AllBare g')
  (hch:∀b∈ch,(b∈X.ex\/X.s₀.heap.objs.size<=b)/\b≠X.env.locals/\(∀x c,X.env.cells.lookup x=some c->c≠b)/\∀p∈X.pn++pins,p.1≠b):
  Inv X pins σ H' { s with heap:=h',gens:=g',drawn:=d',toks:=t' }:=by
 obtain⟨m,⟨o,es,ep,ho,r⟩,_⟩:=id I.loc;obtain⟨sl,hL⟩:=u.any ho I.free λz=>(hch _ z).2.1 rfl;exact I.step (ch:=ch) hch (λb o hL hb hc e n=>u.keep b o e n (λz=>(wx.mp (I.stkSub b z)).elim hL hb) hc) (λb o _ _ hc e n=>u.any e n hc) (λb o hc e n=>u.free b o e n hc) (λb o hc e=>u.there b o e hc) u.tups u.frzs u.tbls (λm' hm=>by
  obtain⟨o',es',ep',ho',r'⟩:=hm;rw[ho] at ho'; cases ho';exact⟨_,es',ep',hL,r'⟩) hok hg
def Inv.turned {t':Nat}{it:Addr}(I:Inv X pins σ H s)(k:∀b o,b≠it->s.heap.get? b=some o->h'.get? b=some o)(hn:H it=none)(hL:it≠X.env.locals)
  (h1:it∈X.ex\/X.s₀.heap.objs.size<=it) (h2:∀x c,X.env.cells.lookup x=some c->c≠it) (h3:∀p∈X.pn++pins,p.1≠it):Inv X pins σ H { s with heap:=h',toks:=t' }:=by
 have nit:∀b u,H b=some u->b≠it:=λb u e z=>by rw[z,hn] at e; cases e
 refine I.step (g':=s.gens) (d':=s.drawn) (ch:=[it]) (λb hb =>?_) (λb o _ _ hc e _=>k b o (λz=>hc (by simp[z])) e) (λb o _ _ hc e _=>⟨o.slots,k b o (λz=>hc (by simp[z])) e⟩) (λ_ _ _ _ n=>n)
  (λb o hc e=>⟨o,k b o (λz=>hc (by simp[z])) e⟩) (λ_ _ e=>e) (λ_ _ _ e=>e) (λb ps e=>⟨#[],by rw[e]; simp⟩) (λm hm =>?_) (λb u e =>?_) I.bare
 ·have e:b=it:=by simpa using hb
  subst e;exact⟨h1,hL,h2,h3⟩
 ·obtain⟨o,es,ep,ho,r⟩:=hm;exact⟨o,es,ep,k _ o (wU hL) ho,r⟩
 ·refine(I.hok b u e).stay (λc v hc q=>k c v ?_ q) (λ_ q=>q) λ_ _ q=>q
  rcases hc with z | z
  ·rw[z]; exact nit b u e
  ·exact nit c _ z
def Inv.tok (I:Inv X pins σ H s)(t:Nat):Inv X pins σ H { s with toks:=t }:=I.un (h':=s.heap) (t':=t) Un.refl I.hok
theorem Inv.kept {t':Nat}(I:Inv X pins σ H s)(k:∀b u,s.heap.get? b=some u->h'.get? b=some u):Inv X pins σ H { s with heap:=h',toks:=t' }:=I.un (Un.kept k) (I.hok.kept k)
theorem Inv.laid {a:Addr}{o:HO}{t':Nat}(I:Inv X pins σ H s)(k:∀b u,s.heap.get? b=some u->h'.get? b=some u)(hp:s.heap.objs.size<=a)(new:z1l X.prog X.w (upd H a o) h' a o):
  Inv X pins σ (upd H a o) { s with heap:=h',toks:=t' }:=I.un (Un.laid k hp (I.hok.fresh hp)) (I.hok.laid k hp new)
theorem Inv.write {x e:Addr}{o:HO}{t':Nat}(I:Inv X pins σ H s)(mu:Mut (H x))(he:e=x\/H e=some (.own x))(k:∀b u,b≠e->s.heap.get? b=some u->h'.get? b=some u)(heo:∃u,h'.get? e=some u)
  (new:z1l X.prog X.w (upd H x o) h' x o):Inv X pins σ (upd H x o) { s with heap:=h',toks:=t' }:=I.un (Un.write mu he k heo) (I.hok.write mu he k heo new)
def Inv.pins_of {pins':List (Addr × Obj)}(I:Inv X pins σ H s)(h:∀p∈pins',s.heap.get? p.1=some p.2/\H p.1=none/\p.1≠X.env.locals/\p.1 ∉ X.fs/\∀v,p.2.data ≠ .cell v):Inv X pins' σ H s:=
 ⟨I.ok,I.os,I.bare,I.base,I.loc,I.cell,I.free,I.freeC,λp hp=>(wE.mp hp).elim (λz=>I.pin p (List.mem_append_left _ z)) (h p),I.hok,I.len⟩
def z6T {N:List Str}(hN:N.Nodup){i j:Nat}{x:Str}(a:N[i]? = some x)(b:N[j]? = some x):i=j:=by
 obtain⟨h1,e1⟩:=wb.mp a;obtain⟨h2,e2⟩:=wb.mp b;exact(List.getElem_inj hN).mp (e1.trans e2.symm)
def z7e {M:Model}{A:Around}{E:Value->Shared->Prop}{i:Nat}{x:Str}{v:V}{u:Value}{Q:Unit->Shared->Prop}(I:Inv X pins σ H s)(hN:X.N.Nodup)(hi:X.N[i]? = some x)(hx:Loc X.env.scope x)(r:RelV v u)
  (h:∀s',Inv X pins (σ.set i (some v)) H s'->(∃a,Heap.SameBut a s.heap s'.heap/\(a=X.env.locals\/X.env.cells.lookup x=some a))->Q () s') (hf:X.fn x=true\/X.env.scope.names.lookup x=some .local:=by first | exact .inl rfl | exact .inr rfl | assumption):wpAny M A (storeName X.env x u) Q E s:=by
 obtain⟨m,hn,hl⟩:=id I.loc;have hcls:(X.env.scope.kind == .class || (X.env.scope.kind == .module && X.env.locals != X.env.globals))=false:=by rw[I.ok.kind]; rfl
 have hiσ:i < σ.length:=by rw[I.len]; exact(wb.mp hi).1
 have cne:=I.cne;have tracked:∀{a:Addr}{h':Heap},(∃o,s.heap.get? a=some o/\H a=none)->Heap.SameBut a s.heap h'->HOk X.prog X.w H h':=λ{a h'} ha hs b ob e=>by
  obtain⟨_,_,hfree⟩:=ha;refine(I.hok b ob e).stay (λc w' hc q=>(hs.2 c ?_).trans q) (λ_ q=>q) λ_ _ q=>q;rintro rfl
  rcases hc with rfl | hc
  ·rw[hfree] at e; cases e
  ·rw[hfree] at hc; cases hc
 rcases hx with hk | hk
 ·refine wpAny_storeName_local hk hn (λh' hn' hs =>?_) hcls;obtain⟨oL,_,_,hoL,_⟩:=id hn;refine h _ ⟨I.ok,I.os,I.bare,⟨λb o e n hb hx =>?_,λb o e n hb hx =>?_,I.base.free,λb o e hx =>?_,I.base.tups,I.base.frzs,I.base.tbls⟩,⟨_,hn',λj y v' e1 e2 e3 =>?_⟩,λy c e =>?_,I.free,I.freeC,λp hp =>?_,tracked ⟨oL,hoL,I.free⟩ hs,by simpa using I.len⟩ ⟨_,hs,.inl rfl⟩
  ·exact(hs.2 b (wD (wg (wo e) I.ok.above))).trans (I.base.keep b o e n hb hx)
  ·obtain⟨sl,e1⟩:=I.base.slot b o e n hb hx;exact⟨sl,(hs.2 b (wD (wg (wo e) I.ok.above))).trans e1⟩
  ·obtain⟨o',e1⟩:=I.base.there b o e hx;exact⟨o',(hs.2 b (wD (wg (wo e) I.ok.above))).trans e1⟩
  ·by_cases hj:j=i
   ·subst hj;rw[hi] at e1; cases e1;rw[wk hiσ] at e2
    cases e2
    exact⟨u,r,.inl ⟨hk,by simp⟩⟩
   ·rw[we (wU hj)] at e2;obtain⟨u',r',q⟩:=hl j y v' e1 e2 e3;refine⟨u',r',?_⟩
    rcases q with ⟨k,e⟩ | ⟨k,c,e,z⟩
    ·refine .inl ⟨k,?_⟩;have:y≠x:=λe=>hj (z6T hN e1 (e ▸ hi));simp[this,e]
    ·exact .inr ⟨k,c,e,z.sameBut hs (cne y c e)⟩
  ·obtain⟨w',z⟩:=I.cell y c e;exact⟨w',z.sameBut hs (cne y c e)⟩
  ·obtain⟨e,n,ne,nf,d⟩:=I.pin p hp;exact⟨(hs.2 p.1 ne).trans e,n,ne,nf,d⟩
 ·have hfn:X.fn x=true:=by
   rcases hf with z | z
   ·exact z
   ·rw[z] at hk; cases hk
  obtain⟨c,hc⟩:=I.ok.has x (.inl hk);obtain⟨w',z⟩:=I.cell x c hc;refine wpAny_storeName_cell I.ok.kind hk hc z (λh' hc' hs =>?_);obtain⟨oc,hoc,hocd⟩:=id z;refine h { s with heap:=h' } ⟨I.ok,I.os,I.bare,⟨λb o e n hb hx =>?_,λb o e n hb hx =>?_,I.base.free,λb o e hx =>?_,I.base.tups,I.base.frzs,I.base.tbls⟩,⟨m,hn.sameBut hs (wU (cne x c hc)),λj y v' e1 e2 e3 =>?_⟩,λy c' e =>?_,I.free,I.freeC,λp hp =>?_,tracked ⟨oc,hoc,I.freeC x c hc⟩ hs,by simpa using I.len⟩ ⟨c,hs,.inr hc⟩
  ·exact(hs.2 b (wD (wg (wo e) (I.ok.cab x c hfn hc)))).trans (I.base.keep b o e n hb hx)
  ·obtain⟨sl,e1⟩:=I.base.slot b o e n hb hx;exact⟨sl,(hs.2 b (wD (wg (wo e) (I.ok.cab x c hfn hc)))).trans e1⟩
  ·obtain⟨o',e1⟩:=I.base.there b o e hx;exact⟨o',(hs.2 b (wD (wg (wo e) (I.ok.cab x c hfn hc)))).trans e1⟩
  ·by_cases hj:j=i
   ·subst hj;rw[hi] at e1; cases e1;rw[wk hiσ] at e2
    cases e2
    exact⟨u,r,.inr ⟨.inl hk,c,hc,hc'⟩⟩
   ·rw[we (wU hj)] at e2;obtain⟨u',r',q⟩:=hl j y v' e1 e2 e3;refine⟨u',r',?_⟩
    rcases q with q | ⟨k,c',e,z'⟩
    ·exact .inl q
    ·refine .inr ⟨k,c',e,z'.sameBut hs ?_⟩;rintro rfl;exact hj (z6T hN e1 (I.ok.inj _ _ _ e hc ▸ hi))
  ·by_cases hcc:c'=c
   ·subst hcc; exact⟨_,hc'⟩
   ·obtain⟨w2,z2⟩:=I.cell y c' e;exact⟨w2,z2.sameBut hs hcc⟩
  ·obtain⟨e,n,ne,nf,d⟩:=I.pin p hp;refine⟨(hs.2 p.1 ?_).trans e,n,ne,nf,d⟩;intro q;rw[q,hoc] at e;have q':oc=p.2:=wO e;exact d w' (by rw[<- q']; exact hocd)
def z6E {M:Model}{A:Around}{E:Value->Shared->Prop}{i:Nat}{x:Str}{v:V}{u:Value}{Q:Unit->Shared->Prop}(I:Inv X pins σ H s)(hN:X.N.Nodup)(hi:X.N[i]? = some x)(hx:Loc X.env.scope x)(r:RelV v u)
  (h:∀s',Inv X pins (σ.set i (some v)) H s'->Q () s') (hf:X.fn x=true\/X.env.scope.names.lookup x=some .local:=by first | exact .inl rfl | exact .inr rfl | assumption):wpAny M A (storeName X.env x u) Q E s:=
 z7e I hN hi hx r (λs' I' _=>h s' I') hf
def Inv.call' {s':Shared}{ch:List Addr}(I:Inv X pins σ H s)(ho:s'.os=s.os)(u:Un (frs X.stack) ch H H' s.heap s'.heap)(hok:HOk X.prog X.w H' s'.heap)(hg:AllBare s'.gens)
  (hch:∀b∈ch,(b∈X.ex\/X.s₀.heap.objs.size<=b)/\b≠X.env.locals/\(∀x c,X.env.cells.lookup x=some c->c≠b)/\∀p∈X.pn++pins,p.1≠b):Inv X pins σ H' s':=by
 obtain⟨h',g',d',t',o'⟩:=s';have e:o'=s.os:=ho;subst e;exact I.call (g':=g') (t':=t') (d':=d') u hok hg hch
end
abbrev XK:=Value->Option Addr->Hp->Prop
abbrev St:=List (Option V)
abbrev VK:=V->Hp->Prop
abbrev TE:=St->Hp->VK->Prop
abbrev TT:=St->Hp->(Bool->Hp->Prop)->Prop
abbrev TA:=St->Hp->(List V->Hp->Prop)->Prop
structure Ends where
 nx:St->Hp->Prop
 rt:VK
 bk:St->Hp->Prop:=λ_ _=>False
 ct:St->Hp->Prop:=λ_ _=>False
abbrev TS:=Ends->St->Hp->Prop
def EP (X:Cx)(pins:List (Addr × Obj))(σ:St)(Q:VK)(u:Value)(s':Shared):Prop:=∃v H',Inv X pins σ H' s'/\RelV v u/\Q v H'
def TP (X:Cx)(pins:List (Addr × Obj))(σ:St)(Q:Bool->Hp->Prop)(b:Bool)(s':Shared):Prop:=∃H',Inv X pins σ H' s'/\Q b H'
def AP (X:Cx)(pins:List (Addr × Obj))(σ:St)(Q:List V->Hp->Prop)(us:List Value)(s':Shared):Prop:=∃vs H',Inv X pins σ H' s'/\Vals vs us/\Q vs H'
def SP (X:Cx)(pins:List (Addr × Obj))(D:Ends)(f:Flow)(s':Shared):Prop:=
 match f with
 | .next=>∃σ' H',Inv X pins σ' H' s'/\D.nx σ' H'
 | .brk=>∃σ' H',Inv X pins σ' H' s'/\D.bk σ' H'
 | .cont=>∃σ' H',Inv X pins σ' H' s'/\D.ct σ' H'
 | .ret u=>∃v σ' H',Inv X pins σ' H' s'/\RelV v u/\D.rt v H'
def PE (X:Cx)(e:Expr)(t:TE):Prop:=
 ∀(pins:List (Addr × Obj)) (s:Shared) (σ:St) (H:Hp) (Q:VK),Inv X pins σ H s->t σ H Q->wpAny (model X.prog X.w) X.A (eval e X.env) (EP X pins σ Q) X.xe s
def PT (X:Cx)(e:Expr)(t:TT):Prop:=
 ∀(pins:List (Addr × Obj)) (s:Shared) (σ:St) (H:Hp) (Q:Bool->Hp->Prop),Inv X pins σ H s->t σ H Q->wpAny (model X.prog X.w) X.A (isTrue e X.env (eval e X.env)) (TP X pins σ Q) X.xe s
def PW (X:Cx)(e:Expr)(t:TT):Prop:=
 ∀(whole:Sem Value) (pins:List (Addr × Obj)) (s:Shared) (σ:St) (H:Hp) (Q:Bool->Hp->Prop),Inv X pins σ H s->t σ H Q->wpAny (model X.prog X.w) X.A (isTrue e X.env whole) (TP X pins σ Q) X.xe s
def PW.pt {X:Cx}{e:Expr}{t:TT}(h:PW X e t):PT X e t:=h _
def PA (X:Cx)(es:List Expr)(t:TA):Prop:=
 ∀(pos:Pos) (pins:List (Addr × Obj)) (s:Shared) (σ:St) (H:Hp) (Q:List V->Hp->Prop),Inv X pins σ H s->t σ H Q->wpAny (model X.prog X.w) X.A (spliced (backTo pos (starEach es X.env))) (AP X pins σ Q) X.xe s
def PS (X:Cx)(st:Stmt)(t:TS):Prop:=
 ∀(pins:List (Addr × Obj)) (s:Shared) (σ:St) (H:Hp) (D:Ends),Inv X pins σ H s->t D σ H->wpAny (model X.prog X.w) X.A (exec st X.env) (SP X pins D) X.xe s
def PSs (X:Cx)(st:List Stmt)(t:TS):Prop:=
 ∀(pins:List (Addr × Obj)) (s:Shared) (σ:St) (H:Hp) (D:Ends),Inv X pins σ H s->t D σ H->wpAny (model X.prog X.w) X.A (execs st X.env) (SP X pins D) X.xe s
def thn {α:Type}{t:Sem α}{Q Q':α->Shared->Prop}{M:Model}{A:Around}{E:Value->Shared->Prop}{s:Shared}(h:wpAny M A t Q E s)(hQ:∀a s,Q a s->Q' a s):wpAny M A t Q' E s:=wK h hQ λ_ _ x=>x
section
variable {X:Cx}
def tVar (i:Nat):TE:=λσ H Q=>∃v,σ[i]? = some (some v)/\Q v H
def tC (v:V):TE:=λ_ H Q=>Q v H
def zbc {i:Nat}{x:Str}{pos:Pos}(hN:X.N[i]? = some x)(hv:Vis X.env.scope x)(hd:(x == ("__debug__":Str))=false:=by decide)(hcd:(x == ("__classdict__":Str))=false:=by decide):PE X (.Name x pos) (tVar i):=by
 intro pins s σ H Q I h;obtain⟨v,e,h⟩:=h;obtain⟨m,hn,hl⟩:=I.loc;obtain⟨u,r,l⟩:=hl i x v hN e hv;have fin:EP X pins σ Q u s:=⟨v,H,I,r,h⟩
 rcases l with ⟨hk,hm⟩ | ⟨hk,c,hc,hcell⟩
 ·exact wpAny_Name (wpAny_loadName_local I.ok.kind hk hn hm fin) hd
 ·rcases hk with hk | hk
  ·exact wpAny_Name (wpAny_loadName_cell I.ok.kind hk hc hcell fin) hd
  ·exact wpAny_Name (wpAny_loadName_free I.ok.kind hk hc hcell fin hcd) hd
def z93 {i j pos}:PE X (.Constant (.int i) j pos) (tC (.int i)):=λ_ _ _ H _ I h=>wpAny_Constant_int ⟨.int i,H,I.tok _,⟨_,rfl⟩,h⟩
def ziX {b j pos}:PE X (.Constant (.bool b) j pos) (tC (.bl b)):=λ_ _ _ H _ I h=>Constant_bool ⟨.bl b,H,I,rfl,h⟩
def zgY {j pos}:PE X (.Constant .none j pos) (tC .non):=λ_ _ _ H _ I h=>Constant_none ⟨.non,H,I,rfl,h⟩
def zdU {x j pos}:PE X (.Constant (.str x) j pos) (tC (.str x)):=λ_ _ _ H _ I h=>Calls.Constant_str ⟨.str x,H,I.tok _,⟨_,rfl⟩,h⟩
def Gl (X:Cx)(x:Str):Prop:=X.env.kindOf x=some .globalImplicit
def z4S {E:Value->Shared->Prop}{pins:List (Addr × Obj)}{s:Shared}{σ:St}{H:Hp}{x:Str}{u:Value}{pos:Pos}{Q:Value->Shared->Prop}(I:Inv X pins σ H s)(hg:Gl X x)(hm:X.mg x=some u)(h:Q u s)
  (hd:(x == ("__debug__":Str))=false:=by decide):wpAny (model X.prog X.w) X.A (eval (.Name x pos) X.env) Q E s:=
 Calls.Name_function_global I.ok.kind hg (Calls.loadGlobal_global (by rw[I.ok.glob]; exact I.mod.glob.keeps I.bk) hm h) hd
def z9k {E:Value->Shared->Prop}{pins:List (Addr × Obj)}{s:Shared}{σ:St}{H:Hp}{x:Str}{u:Value}{pos:Pos}{Q:Value->Shared->Prop}(I:Inv X pins σ H s)(hg:Gl X x)(hm:X.mg x=none)(hv:bootBuiltins x=some u)(h:Q u s)
  (hn:x≠"__name__":=by decide) (hd:(x == ("__debug__":Str))=false:=by decide):wpAny (model X.prog X.w) X.A (eval (.Name x pos) X.env) Q E s:=by
 obtain⟨mb,h1,h2⟩:=I.mod.blt;exact Calls.Name_function_global I.ok.kind hg (Calls.loadGlobal_builtin (by rw[I.ok.glob]; exact I.mod.glob.keeps I.bk) hm (by rw[I.ok.blt]; exact h1.keeps I.bk) ((h2 x hn).trans hv) h) hd
def z8j {x:Str}{v:V}{u:Value}{pos:Pos}(hg:Gl X x)(hm:X.mg x=some u)(r:RelV v u)(hd:(x == ("__debug__":Str))=false:=by decide):PE X (.Name x pos) (tC v):=
 λ_ _ _ H _ I h=>z4S I hg hm ⟨v,H,I,r,h⟩ hd
def zfa {x:Str}{v:V}{u:Value}{pos:Pos}(hg:Gl X x)(hm:X.mg x=none)(hv:bootBuiltins x=some u)(r:RelV v u)(hn:x≠"__name__":=by decide)(hd:(x == ("__debug__":Str))=false:=by decide):PE X (.Name x pos) (tC v):=
 λ_ _ _ H _ I h=>z9k I hg hm hv ⟨v,H,I,r,h⟩ hn hd
variable {a b:Expr}{ta tb:TE}{pos:Pos}
def PC (X:Cx)(op:CmpOp)(a b:Expr)(t:TE):Prop:=
 ∀(pins:List (Addr × Obj)) (s:Shared) (σ:St) (H:Hp) (Q:VK),Inv X pins σ H s->t σ H Q->
  wpAny (model X.prog X.w) X.A (eval a X.env) (λv s₁=>wpAny (model X.prog X.w) X.A (eval b X.env) (λu s₂=>wpAny (model X.prog X.w) X.A (compareOp op v u) (EP X pins σ Q) X.xe s₂) X.xe s₁) X.xe s
def zda (b:Expr){op:CmpOp}(h:op ≠ .In)(h2:op ≠ .NotIn):behindInMarks op b=false:=by
 have e1:(op == CmpOp.In)=false:=by cases op <;> first | rfl | exact absurd rfl h
 have e2:(op == CmpOp.NotIn)=false:=by cases op <;> first | rfl | exact absurd rfl h2
 cases b <;> simp[behindInMarks,e1,e2]
def tB (t:TE):TT:=λσ H Q=>t σ H λx H1=>∃c,x = .bl c/\Q c H1
def zgM {op:CmpOp}{t:TE}(h:PC X op a b t)(h1:behindInMarks op b=false:=by first | exact zda _ (by decide) (by decide) | rfl):PT X (.Compare a [op] [b] pos) (tB t):=by
 intro pins s σ H Q I hw;refine wpAny_isTrue_Compare1 (thn (h pins s σ H _ I hw) λv s1 h1=>thn h1 λu s2 h2=>thn h2 λc s3 ⟨x,H1,I1,r1,q1⟩ =>?_) h1;obtain⟨d,rfl,q⟩:=q1
 cases r1
 exact vy ⟨H1,I1,q⟩
def zgJ {e:Expr}{t:TE}(h:PE X e t)(he:∀whole,isTrue e X.env whole=(do let v <- whole; standAt e.pos; holding [v] (truthy v)):=by intro _; rfl):PT X e (tB t):=by
 intro pins s σ H Q I hw;refine isTrue_plain (thn (h pins s σ H _ I hw) λv s1 ⟨x,H1,I1,r1,q1⟩ =>?_) (he _);obtain⟨d,rfl,q⟩:=q1
 cases r1
 exact vy ⟨H1,I1,q⟩
variable {tA tB':TT}{rest:List Expr}
def tOr (t u:TT):TT:=λσ H Q=>t σ H λc H1=>if c=true then Q true H1 else u σ H1 Q
def tNot (t:TT):TT:=λσ H Q=>t σ H λc H1=>Q (!c) H1
def zgI (ha:PT X a tA):PW X (.BoolOp .Or [a] pos) tA:=by
 intro wh pins s σ H Q I h;refine isTrue_or (thn (ha pins s σ H Q I h) λc s1 e =>?_)
 cases c with
 | false=>exact isTrue_or_nil e
 | true=>exact e
def ziO (ha:PT X a tA)(hb:PW X (.BoolOp .Or (b::rest) pos) tB'):PW X (.BoolOp .Or (a::b::rest) pos) (tOr tA tB'):=by
 intro wh pins s σ H Q I h;refine isTrue_or (thn (ha pins s σ H _ I h) λc s1 ⟨H1,I1,q1⟩ =>?_)
 cases c with
 | true=>exact⟨H1,I1,q1⟩
 | false=>exact hb wh pins s1 σ H1 Q I1 q1
def zgK (ha:PT X a tA):PT X (.UnaryOp .Not a pos) (tNot tA):=by
 intro pins s σ H Q I h;exact isTrue_not (ha pins s σ H (λc H1=>Q (!c) H1) I h)
def zfQ (ta tb:TE):TE:=λσ H Q=>ta σ H λx H1=>∃c,x = .bl c/\if c=true then tb σ H1 Q else Q (.bl false) H1
def zgX {op}{t:TE}(h:PE X a t):PE X (.BoolOp op [a] pos) t:=λpins s σ H Q I hw=>BoolOp_one (h pins s σ H Q I hw)
def zh3 (ha:PE X a ta)(hb:PE X (.BoolOp .And (b::rest) pos) tb):PE X (.BoolOp .And (a::b::rest) pos) (zfQ ta tb):=by
 intro pins s σ H Q I h;refine BoolOp_and (thn (ha pins s σ H _ I h) λv s1 ⟨x,H1,I1,r1,q1⟩ =>?_);obtain⟨c,rfl,q1⟩:=q1
 cases r1
 refine vy ?_
 cases c with
 | true=>exact hb pins s1 σ H1 Q I1 q1
 | false=>exact⟨.bl false,H1,I1,rfl,q1⟩
end
def SqL (K:W.Frag)(H:Hp)(a:Addr)(xs:List V):Prop:=
 Rd H a (.lst xs)\/
  ∃(o:Obj) (its:Array Value) (n:Nat),K.lookup a=some o/\o.cls = .type "list"/\o.dict=none/\o.data = .seq its n/\its.size<=sizeLine/\Vals xs its.toList
def SqT (K:W.Frag)(H:Hp)(a:Addr)(xs:List V):Prop:=
 Rd H a (.tup xs)\/
  ∃(o:Obj) (its:Array Value) (n:Nat),K.lookup a=some o/\o.cls = .type "tuple"/\o.data = .seq its n/\its.size<=sizeLine/\Vals xs its.toList/\o.dict=none
def absV:Value->Option V
 | .none=>some .non
 | .bool b=>some (.bl b)
 | .int i _=>some (.int i)
 | .str x _=>some (.str x)
 | .bytes b _=>some (.byt b)
 | .float b _=>some (.flt b)
 | .ref a=>some (.ref a)
 | .type n=>some (.ty n)
 | _=>none
def RelV.abs {x:V}{u:Value}(r:RelV x u):absV u=some x:=by
 cases x with
 | non=>cases r; rfl
 | bl _=>cases r; rfl
 | int _=>obtain⟨t,rfl⟩:=r; rfl
 | str _=>obtain⟨t,rfl⟩:=r; rfl
 | byt _=>obtain⟨t,rfl⟩:=r; rfl
 | flt _=>obtain⟨t,rfl⟩:=r; rfl
 | ref _=>cases r; rfl
 | ty _=>cases r; rfl
def RelV.inj {x y:V}{u:Value}(r:RelV x u)(q:RelV y u):x=y:=wO (r.abs.symm.trans q.abs)
theorem Vals.inj:∀{xs ys:List V}{us:List Value},Vals xs us->Vals ys us->xs=ys
 | _,_,_,.nil,.nil=>rfl
 | _,_,_,.cons r t,.cons r' t'=>by rw[r.inj r',Vals.inj t t']
section
variable {X:Cx}{pins:List (Addr × Obj)}{σ:St}{H:Hp}{s:Shared}{a:Addr}{xs ys:List V}
def SqL.of {K:W.Frag}(h:H a=some (.lst xs)):SqL K H a xs :=.inl (.inl h)
def SqT.of {K:W.Frag}(h:H a=some (.tup xs)):SqT K H a xs :=.inl (.inl h)
def Inv.list (I:Inv X pins σ H s)(h:SqL X.K H a xs):∃its:List Value,Vals xs its/\PlainL s.heap a its.toArray/\xs.length<=sizeLine:=by
 rcases h with h | ⟨o,its,n,hk,hc,hd,hs,hz,r⟩
 ·obtain⟨z,its,n,r,e⟩:=h.ok I.hok;exact⟨its,r,⟨_,n,e,rfl,rfl,rfl⟩,z⟩
 ·refine⟨its.toList,r,⟨o,n,I.kIn a o hk,hc,hd,by simpa using hs⟩,?_⟩;have e:=r.length;simp only[wL] at e;lia
def Inv.tuple (I:Inv X pins σ H s)(h:SqT X.K H a xs):∃its:List Value,Vals xs its/\IsTup s.heap a its.toArray/\xs.length<=sizeLine:=by
 rcases h with h | ⟨o,its,n,hk,hc,hs,hz,r,_⟩
 ·obtain⟨z,its,r,p,_⟩:=h.ok I.hok;exact⟨its,r,p,z⟩
 ·refine⟨its.toList,r,⟨o,I.kIn a o hk,hc,n,by simpa using hs⟩,?_⟩;have e:=r.length;simp only[wL] at e;lia
def Inv.list_inj (I:Inv X pins σ H s)(h:SqL X.K H a xs)(h':SqL X.K H a ys):xs=ys:=by
 obtain⟨its,r,⟨o,n,e,_,_,d⟩,_⟩:=I.list h;obtain⟨its',r',⟨o',n',e',_,_,d'⟩,_⟩:=I.list h';rw[e] at e'; cases e';rw[d] at d'
 injection d' with d1 _
 have:its=its':=by simpa using congrArg Array.toList d1
 subst this;exact r.inj r'
def Inv.tuple_inj (I:Inv X pins σ H s)(h:SqT X.K H a xs)(h':SqT X.K H a ys):xs=ys:=by
 obtain⟨its,r,⟨o,e,_,n,d⟩,_⟩:=I.tuple h;obtain⟨its',r',⟨o',e',_,n',d'⟩,_⟩:=I.tuple h';rw[e] at e'; cases e';rw[d] at d'
 injection d' with d1 _
 have:its=its':=by simpa using congrArg Array.toList d1
 subst this;exact r.inj r'
end
abbrev Cx.wish (X:Cx)(E:Value->Shared->Prop):Cx:={ X with xe:=E }
abbrev Cx.nox (X:Cx):Cx:=X.wish λ_ _=>False
theorem Cx.Ok.wish {X:Cx}(ok:X.Ok)(E:Value->Shared->Prop):(X.wish E).Ok:=
 ⟨ok.mod,ok.kind,ok.glob,ok.blt,ok.above,ok.inj,ok.has,ok.cab,ok.hd,ok.frames,ok.stk,ok.exf,ok.bs,ok.bsz,ok.noex,ok.exfs,ok.funs,ok.frf,ok.tbs⟩
def Cx.Ok.unwish {X:Cx}{E:Value->Shared->Prop}(ok:(X.wish E).Ok):X.Ok:=
 ⟨ok.mod,ok.kind,ok.glob,ok.blt,ok.above,ok.inj,ok.has,ok.cab,ok.hd,ok.frames,ok.stk,ok.exf,ok.bs,ok.bsz,ok.noex,ok.exfs,ok.funs,ok.frf,ok.tbs⟩
section
variable {X:Cx}{pins:List (Addr × Obj)}{σ:St}{H:Hp}{s:Shared}{E:Value->Shared->Prop}
theorem Inv.wish (I:Inv X pins σ H s)(E:Value->Shared->Prop):Inv (X.wish E) pins σ H s:=⟨I.ok.wish E,I.os,I.bare,I.base,I.loc,I.cell,I.free,I.freeC,I.pin,I.hok,I.len⟩
theorem Inv.unwish (I:Inv (X.wish E) pins σ H s):Inv X pins σ H s:=⟨I.ok.unwish,I.os,I.bare,I.base,I.loc,I.cell,I.free,I.freeC,I.pin,I.hok,I.len⟩
theorem SP.unwish {D:Ends}{f:Flow}{s':Shared}(h:SP (X.wish E) pins D f s'):SP X pins D f s':=by
 cases f with
 | next=>obtain⟨σ',H',I,q⟩:=h; exact⟨σ',H',I.unwish,q⟩
 | brk=>obtain⟨σ',H',I,q⟩:=h; exact⟨σ',H',I.unwish,q⟩
 | cont=>obtain⟨σ',H',I,q⟩:=h; exact⟨σ',H',I.unwish,q⟩
 | ret u=>obtain⟨v,σ',H',I,r,q⟩:=h; exact⟨v,σ',H',I.unwish,r,q⟩
theorem PSs.nox {st:List Stmt}{t:TS}(h:PSs X.nox st t):PSs X st t:=λpins s σ H D I hw=>
 wK (h pins s σ H D (I.wish _) hw) (λ_ _ q=>q.unwish) λ_ _ z=>False.elim z
end
section
variable {X:Cx}{st:Stmt}{rest:List Stmt}{t u:TS}{e:Expr}{te:TE}{pos:Pos}
def zfL:TS:=λD σ H=>D.nx σ H
def tSeq (t u:TS):TS:=λD σ H=>t { D with nx:=u D } σ H
def zeX:PSs X [] zfL:=λ_ _ σ H _ I h=>wpAny_execs_nil ⟨σ,H,I,h⟩
def z4o (h1:PS X st t)(h2:PSs X rest u):PSs X (st::rest) (tSeq t u):=by
 intro pins s σ H D I h;refine wpAny_execs_cons (thn (h1 pins s σ H { D with nx:=u D } I h) λf s1 q =>?_)
 cases f with
 | next=>
  obtain⟨σ',H',I',q⟩:=q;exact h2 pins s1 σ' H' D I' q
 | ret v=>exact q
 | brk=>exact q
 | cont=>exact q
def zb6 (h1:PS X st t):PSs X [st] t:=by
 intro pins s σ H D I h;refine wpAny_execs_cons (thn (h1 pins s σ H D I h) λf s1 q =>?_)
 cases f with
 | next=>exact wpAny_execs_nil q
 | ret v=>exact q
 | brk=>exact q
 | cont=>exact q
def Inv.quiet {pins:List (Addr × Obj)}{σ:St}{H:Hp}{s:Shared}(I:Inv X pins σ H s):interactive X.env=false:=by simp[interactive,I.ok.kind]
def zfN (te:TE):TS:=λD σ H=>te σ H λ_ H1=>D.nx σ H1
def zeY (he:PE X e te)(hs:swapsWith e none pos.line X.env=pure false:=by rfl):PS X (.Expr e pos) (zfN te):=by
 intro pins s σ H D I h;exact wpAny_Expr_any (thn (he pins s σ H _ I h) λv s1 ⟨x,H1,I1,r1,q1⟩=>⟨σ,H1,I1,q1⟩) I.quiet hs
def tRet (te:TE):TS:=λD σ H=>te σ H D.rt
def zgN (he:PE X e te):PS X (.Return (some e) pos) (tRet te):=by
 intro pins s σ H D I h;exact wpAny_Return_some (thn (he pins s σ H _ I h) λv s1 ⟨x,H1,I1,r1,q1⟩=>⟨x,σ,H1,I1,r1,q1⟩)
def tIfS (c:TT)(t u:TS):TS:=λD σ H=>c σ H λb H1=>if b=true then t D σ H1 else u D σ H1
def ziP {c:Expr}{a b:List Stmt}{tc:TT}(hc:PT X c tc)(ha:PSs X a t)(hb:PSs X b u):PS X (.If c a b pos) (tIfS tc t u):=by
 intro pins s σ H D I h;refine wpAny_If (thn (hc pins s σ H _ I h) λd s1 ⟨H1,I1,q1⟩ =>?_)
 cases d with
 | true=>exact ha pins s1 σ H1 D I1 q1
 | false=>exact hb pins s1 σ H1 D I1 q1
def zdB:TS:=λ_ _ _=>False
def zcP:PS X st zdB:=λ_ _ _ _ _ _ h=>h.elim
end
abbrev TG:=V->St->Hp->(St->Hp->Prop)->Prop
abbrev TGs:=List V->St->Hp->(St->Hp->Prop)->Prop
def PG (X:Cx)(target:Expr)(t:TG):Prop:=
 ∀(pins:List (Addr × Obj)) (s:Shared) (σ:St) (H:Hp) (v:V) (u:Value) (Q:St->Hp->Prop),Inv X pins σ H s->RelV v u->t v σ H Q->
  wpAny (model X.prog X.w) X.A (assign target X.env u) (λ_ s'=>∃σ' H',Inv X pins σ' H' s'/\Q σ' H') X.xe s
def PGs (X:Cx)(ts:List Expr)(t:TGs):Prop:=
 ∀(pins:List (Addr × Obj)) (s:Shared) (σ:St) (H:Hp) (vs:List V) (us:List Value) (Q:St->Hp->Prop),Inv X pins σ H s->Vals vs us->t vs σ H Q->
  wpAny (model X.prog X.w) X.A (assignInOrder ((assignEach ts X.env).map (·.2)) us) (λ_ s'=>∃σ' H',Inv X pins σ' H' s'/\Q σ' H') X.xe s
abbrev TSet:=V->V->V->Hp->(Hp->Prop)->Prop
def PSet (X:Cx)(t:TSet):Prop:=
 ∀(pins:List (Addr × Obj)) (s:Shared) (σ:St) (H:Hp) (o i v:V) (ov iv u:Value) (Q:Hp->Prop),Inv X pins σ H s->RelV o ov->RelV i iv->RelV v u->t o i v H Q->
  wpAny (model X.prog X.w) X.A (setItem ov iv u) (λ_ s'=>∃H',Inv X pins σ H' s'/\Q H') X.xe s
section
variable {X:Cx}{pos:Pos}
def z34 (i:Nat):TG:=λv σ H Q=>Q (σ.set i (some v)) H
def zbb {i:Nat}{x:Str}(hN:X.N.Nodup)(hi:X.N[i]? = some x)(hx:Loc X.env.scope x)(hf:X.fn x=true\/X.env.scope.names.lookup x=some .local:=by first | exact .inl rfl | exact .inr rfl | assumption):PG X (.Name x pos) (z34 i):=by
 intro pins s σ H v u Q I r h;exact wpAny_assign_Name (z6E I hN hi hx r (λs' I'=>⟨_,H,I',h⟩) hf)
def gNil:TGs:=λvs σ H Q=>vs=[]/\Q σ H
def za1 (t:TG)(u:TGs):TGs:=λvs σ H Q=>∃v r,vs=v::r/\t v σ H λσ' H'=>u r σ' H' Q
def zf4:PGs X [] gNil:=by
 intro pins s σ H vs us Q I r h;obtain⟨e,h⟩:=h;subst e
 cases r
 exact assignInOrder_nil ⟨σ,H,I,h⟩
def zcT {e:Expr}{es:List Expr}{t:TG}{u:TGs}(h1:PG X e t)(h2:PGs X es u)
  (hs:(assignEach (e::es) X.env).map (·.2)=assign e X.env::(assignEach es X.env).map (·.2):=by rfl):PGs X (e::es) (za1 t u):=by
 intro pins s σ H vs us Q I r h;obtain⟨v,vr,e1,h⟩:=h;subst e1
 cases r with
 | cons r rr=>
  rw[hs];refine assignInOrder_cons (thn (h1 pins s σ H _ _ _ I r h) λ_ s1 ⟨σ1,H1,I1,q1⟩ =>?_);exact h2 pins s1 σ1 H1 _ _ Q I1 rr q1
def gTup (K:W.Frag)(n:Nat)(t:TGs):TG:=λv σ H Q=>∃a xs,v = .ref a/\SqT K H a xs/\xs.length=n/\t xs σ H Q
def zgU {es:List Expr}{k:Nat}{t:TGs}{n:Nat}(hc:X.calm=true)(h:PGs X es t)
  (hn:(assignEach es X.env).length=n:=by rfl) (hst:(assignEach es X.env).findIdx? (·.1)=none:=by rfl):PG X (.Tuple es k pos) (gTup X.K n t):=by
 intro pins s σ H v u Q I r hw;obtain⟨a,xs,e1,hq,hl,hw⟩:=hw;subst e1
 cases r
 obtain⟨its,rv,ht,hz⟩:=I.tuple hq;refine assign_Tuple_tuple (I.ok.hd hc) ht (by simp[hn, <- hl,rv.length]) hst λh' hx =>?_;have I1:Inv X pins σ H { s with heap:=h' }:=I.kept (t':=s.toks) λb o e=>hx b o (wD (wo e)) e;exact h pins _ σ H xs _ Q I1 (by simpa using rv) hw
def gSub (to ti:TE)(t:TSet):TG:=λv σ H Q=>to σ H λo H1=>ti σ H1 λi H2=>t o i v H2 λH3=>Q σ H3
def zgV {o i:Expr}{to ti:TE}{t:TSet}(ho:PE X o to)(hi:PE X i ti)(hs:PSet X t)
  (ha:∀v,assign (.Subscript o i pos) X.env v=(do
   let ov <- holding [v] (eval o X.env)
   let iv <- holding [v,ov] (eval i X.env)
   standAt pos
   holding [v,ov,iv] (setItem ov iv v)
   release [v,ov,iv] []):=by intro _; rfl):PG X (.Subscript o i pos) (gSub to ti t):=by
 intro pins s σ H v u Q I r h;rw[ha];refine wa (vj (thn (ho pins s σ H _ I h) λov s1 ⟨x,H1,I1,r1,q1⟩ =>?_));refine wa (vj (thn (hi pins s1 σ H1 _ I1 q1) λiv s2 ⟨y,H2,I2,r2,q2⟩ =>?_));refine wa (wpAny_standAt (wa (vj (thn (hs pins s2 σ H2 x y v ov iv u _ I2 r1 r2 r q2) λ_ s3 ⟨H3,I3,q3⟩ =>?_))));exact wpAny_release ⟨σ,H3,I3,q3⟩
def tAsg (te:TE)(g:TG):TS:=λD σ H=>te σ H λx H1=>g x σ H1 D.nx
def zgQ {tg e:Expr}{te:TE}{g:TG}(he:PE X e te)(hg:PG X tg g)(hs:swapsWithSole [tg] e pos.line X.env=pure false:=by rfl)(hw:swappedStores [tg] e X.env=pure none:=by rfl)
  (h1:(assignEach [tg] X.env).map (·.2)=[assign tg X.env]:=by rfl):PS X (.Assign [tg] e pos) (tAsg te g):=by
 intro pins s σ H D I h;refine wpAny_Assign_stores (thn (he pins s σ H _ I h) λv s1 ⟨x,H1,I1,r1,q1⟩ =>?_) hs hw;rw[h1];exact thn (hg pins s1 σ H1 x v _ I1 r1 q1) λ_ s2 q=>q
def zdS {i:Nat}{x:Str}{e:Expr}{te:TE}{pos':Pos}(hN:X.N.Nodup)(hi:X.N[i]? = some x)(hx:Loc X.env.scope x)(he:PE X e te)(hs:swapsWith e (some (.Name x pos')) pos.line X.env=pure false:=by rfl)(hf:X.fn x=true\/X.env.scope.names.lookup x=some .local:=by first | exact .inl rfl | exact .inr rfl | assumption):
  PS X (.Assign [.Name x pos'] e pos) (tAsg te (z34 i)):=by
 intro pins s σ H D I h;refine wpAny_Assign_Name (thn (he pins s σ H _ I h) λv s1 ⟨y,H1,I1,r1,q1⟩ =>?_) hs;exact z6E I1 hN hi hx r1 (λs2 I2=>⟨_,H1,I2,q1⟩) hf
end
structure It where
 go:Nat->Hp->Prop
 yld:Nat->Hp->V->Hp->Prop
 stop:Nat->Hp->Prop
def FpOk (X:Cx)(pins:List (Addr × Obj))(H:Hp)(b:Addr):Prop:=
 H b=none/\b≠X.env.locals/\b ∉ X.fs/\(b∈X.ex\/X.s₀.heap.objs.size<=b)/\(∀x c,X.env.cells.lookup x=some c->c≠b)/\∀p∈X.pn++pins,p.1≠b
def Inv.fpOk {X:Cx}{pins:List (Addr × Obj)}{σ:St}{H H':Hp}{s:Shared}{b:Addr}(I:Inv X pins σ H s)(hb:s.heap.objs.size<=b)(hn:H' b=none):FpOk X pins H' b:=by
 refine⟨hn,Nat.ne_of_gt (wg I.lt hb),I.nofs hb,.inr (wQ I.sz hb),λx c e z =>?_,λp hp z =>?_⟩
 ·obtain⟨v,q⟩:=I.cell x c e;exact absurd (wg q.lt (by rw[z]; exact hb)) (vd _)
 ·exact absurd (wg (wo (I.pin p hp).1) (by rw[z]; exact hb)) (vd _)
structure Turn (P:Program)(w:World)(K:W.Frag)(tg:Expr)(J:It)(fp:List Addr)(it:Addr)(tn:Nat->Heap->Prop):Prop where
 mem:it∈fp
 obj:∀i h,tn i h->∀b∈fp,∃o,h.get? b=some o/\∀v,o.data ≠ .cell v
 keep:∀i h h',tn i h->(∀b∈fp,∀o,h.get? b=some o->h'.get? b=some o)->tn i h'
 item:∀(X:Cx),X.prog=P->X.w=w->X.K=K->X.calm=true->∀(i:Nat) (pins:List (Addr × Obj)) (s:Shared) (σ:St) (H:Hp) (E:Value->Shared->Prop),Inv X pins σ H s->(∀b∈fp,FpOk X pins H b)->tn i s.heap->J.go i H->
  wpAny (model P w) X.A (pyNext (.ref it)) (λr s1=>∃u,r=some u/\
   wpAny (model P w) X.A (letOwnedTupleGo tg (.ref it) u) (λ_ s2=>∃x H',Inv X pins σ H' s2/\RelV x u/\J.yld i H x H'/\tn (i+1) s2.heap/\∀b∈fp,H' b=none) E s1) E s
 done:∀(X:Cx),X.prog=P->X.w=w->X.K=K->X.calm=true->∀(i:Nat) (pins:List (Addr × Obj)) (s:Shared) (σ:St) (H:Hp) (E:Value->Shared->Prop),Inv X pins σ H s->(∀b∈fp,FpOk X pins H b)->tn i s.heap->J.stop i H->
  wpAny (model P w) X.A (pyNext (.ref it)) (λr s1=>r=none/\Inv X pins σ H s1) E s
 self:∀(A:Around) (i:Nat) (s:Shared) (Q:Value->Shared->Prop) (E:Value->Shared->Prop),tn i s.heap->Q (.ref it) s->wpAny (model P w) A (pyIter (.ref it)) Q E s
abbrev TI:=St->Hp->(It->Hp->Prop)->Prop
def PIE (X:Cx)(pins:List (Addr × Obj))(σ:St)(tg:Expr)(R:It->Hp->Prop)(itv:Value)(s2:Shared):Prop:=
 ∃(it:Addr) (fp:List Addr) (tn:Nat->Heap->Prop) (J:It) (H':Hp),itv = .ref it/\Inv X pins σ H' s2/\Turn X.prog X.w X.K tg J fp it tn/\tn 0 s2.heap/\(∀b∈fp,FpOk X pins H' b)/\R J H'
def PI (X:Cx)(tg iter:Expr)(wi:TI):Prop:=
 ∀(pins:List (Addr × Obj)) (s:Shared) (σ:St) (H:Hp) (R:It->Hp->Prop),Inv X pins σ H s->wi σ H R->
  wpAny (model X.prog X.w) X.A (eval iter X.env) (λv s1=>wpAny (model X.prog X.w) X.A (pyIter v) (PIE X pins σ tg R) X.xe s1) X.xe s
def zbG {M:Model}{A:Around}{E:Value->Shared->Prop}{s:Shared}{tg:Expr}{it:Addr}{u:Value}{o:Obj}{n:String}{vs:Array Value}{Q:Unit->Shared->Prop}(ho:s.heap.get? it=some o)(hc:o.cls = .type n)(hd:o.data = .fields vs)
  (hn:["enumerate","zip","dict_itemiterator","dict_reverseitemiterator","odict_iterator","itertools.zip_longest","itertools.pairwise"].contains n=false) (hQ:Q () s):wpAny M A (letOwnedTupleGo tg (.ref it) u) Q E s:=by
 unfold letOwnedTupleGo
 cases tg <;> first
  | exact wf hQ
  | (cases u <;> first
    | exact wf hQ
    | (refine wa (wpAny_load ho ?_)
       rw[hc,hd];show wpAny M A (if (["enumerate","zip","dict_itemiterator","dict_reverseitemiterator","odict_iterator","itertools.zip_longest","itertools.pairwise"].contains n && vs[0]? == some (rawInt _))=true then _ else _) Q E s;rw[if_neg (by intro h; rw[hn,v7] at h; cases h)];exact wf hQ))
def Itl (K:W.Frag)(a:Addr):It:=
 ⟨λi H=>∃xs x,SqL K H a xs/\xs[i]? = some x,λi H x H'=>H'=H/\∀xs,SqL K H a xs->xs[i]? = some x,λi H=>∃xs,SqL K H a xs/\xs.length<=i⟩
def Itt (K:W.Frag)(a:Addr):It:=
 ⟨λi H=>∃xs x,SqT K H a xs/\xs[i]? = some x,λi H x H'=>H'=H/\∀xs,SqT K H a xs->xs[i]? = some x,λi H=>∃xs,SqT K H a xs/\xs.length<=i⟩
def Itr (lo:Int)(n:Nat):It:=⟨λi _=>i<n,λi H x H'=>H'=H/\x = .int (lo+i),λi _=>n<=i⟩
def zah {P:Program}{w:World}{K:W.Frag}{tg:Expr}(a it:Addr):Turn P w K tg (Itl K a) [it] it (λi h=>h.IsListIter it a i) where
 mem:=by simp
 obj:=λi h st b hb=>by
  have e:b=it:=by simpa using hb
  subst e;obtain⟨o,e,c,d⟩:=st;exact⟨o,e,λv z=>by rw[d] at z; cases z⟩
 keep:=λi h h' st k=>st.at λo e=>k it (by simp) o e
 item:=by
  intro X hP hw hK hc i pins s σ H E I hf st hg;subst hP hw hK;obtain⟨xs,x,hq,hx⟩:=hg;obtain⟨its,rv,p,hz⟩:=I.list hq;obtain⟨u,hu,ru⟩:=rv.get hx;obtain⟨f0,f1,f2,f3,f4,f5⟩:=hf it (by simp);refine wpAny_pyNext_list_item st p.isList (x:=u) (by simpa using hu) λh' st' sb =>?_;have I1:Inv X pins σ H { s with heap:=h' }:=I.turned (t':=s.toks) (λb o hb e=>(sb.2 b hb).trans e) f0 f1 f3 f4 f5;obtain⟨o,e,c,d⟩:=id st';exact⟨u,rfl,zbG (s:={ s with heap:=h' }) e c d (by decide) ⟨x,H,I1,ru,⟨rfl,λys hy=>by rw[I.list_inj hy hq]; exact hx⟩,st',λb hb=>(hf b hb).1⟩⟩
 done:=by
  intro X hP hw hK hc i pins s σ H E I hf st hg;subst hP hw hK;obtain⟨xs,hq,hx⟩:=hg;obtain⟨its,rv,p,hz⟩:=I.list hq;obtain⟨f0,f1,f2,f3,f4,f5⟩:=hf it (by simp);have hl:=rv.length;exact wpAny_pyNext_list_end (I.ok.hd hc) st p.isList (by simp; lia) λh' eb=>⟨rfl,I.turned (t':=s.toks) (λb o hb e=>eb b o hb e) f0 f1 f3 f4 f5⟩
 self:=λ_ _ _ _ _ st h=>wpAny_pyIter_listiter st h
def z9y {P:Program}{w:World}{K:W.Frag}{tg:Expr}(a it:Addr):Turn P w K tg (Itt K a) [it] it (λi h=>h.IsTupleIter it a i) where
 mem:=by simp
 obj:=λi h st b hb=>by
  have e:b=it:=by simpa using hb
  subst e;obtain⟨o,e,c,d⟩:=st;exact⟨o,e,λv z=>by rw[d] at z; cases z⟩
 keep:=λi h h' st k=>st.at λo e=>k it (by simp) o e
 item:=by
  intro X hP hw hK hc i pins s σ H E I hf st hg;subst hP hw hK;obtain⟨xs,x,hq,hx⟩:=hg;obtain⟨its,rv,p,hz⟩:=I.tuple hq;obtain⟨u,hu,ru⟩:=rv.get hx;obtain⟨f0,f1,f2,f3,f4,f5⟩:=hf it (by simp);refine wpAny_pyNext_tuple_item st (show s.heap.IsTuple a its.toArray from p) (x:=u) (by simpa using hu) λh' st' sb =>?_;have I1:Inv X pins σ H { s with heap:=h' }:=I.turned (t':=s.toks) (λb o hb e=>(sb.2 b hb).trans e) f0 f1 f3 f4 f5;obtain⟨o,e,c,d⟩:=id st';exact⟨u,rfl,zbG (s:={ s with heap:=h' }) e c d (by decide) ⟨x,H,I1,ru,⟨rfl,λys hy=>by rw[I.tuple_inj hy hq]; exact hx⟩,st',λb hb=>(hf b hb).1⟩⟩
 done:=by
  intro X hP hw hK hc i pins s σ H E I hf st hg;subst hP hw hK;obtain⟨xs,hq,hx⟩:=hg;obtain⟨its,rv,p,hz⟩:=I.tuple hq;obtain⟨f0,f1,f2,f3,f4,f5⟩:=hf it (by simp);have hl:=rv.length;exact wpAny_pyNext_tuple_end (I.ok.hd hc) st (show s.heap.IsTuple a its.toArray from p) (by simp; lia) λh' eb=>⟨rfl,I.turned (t':=s.toks) (λb o hb e=>eb b o hb e) f0 f1 f3 f4 f5⟩
 self:=λ_ _ _ _ _ st h=>wpAny_pyIter_tupleiter st h
def z9z {P:Program}{w:World}{K:W.Frag}{tg:Expr}(it:Addr)(lo:Int)(n:Nat):Turn P w K tg (Itr lo n) [it] it (λi h=>IsRangeIter h it (lo+(i:Nat)*1) ((n:Int) - (i:Nat)) 1) where
 mem:=by simp
 obj:=λi h st b hb=>by
  have e:b=it:=by simpa using hb
  subst e;exact⟨_,st,λv z=>by
   have z':Data.fields _=Data.cell v:=z
   cases z'⟩
 keep:=λi h h' st k=>k it (by simp) _ st
 item:=by
  intro X hP hw hK hc i pins s σ H E I hf st hg;subst hP hw hK;obtain⟨f0,f1,f2,f3,f4,f5⟩:=hf it (by simp);have W:=Walks.range (prog:=X.prog) (w:=X.w) (I.ok.hd hc) it lo 1 n;refine W.item i s _ _ hg st λv h' tk hv st' kk =>?_;obtain⟨t,rfl⟩:=hv;have I1:Inv X pins σ H { s with heap:=h',toks:=tk }:=I.turned (λb o hb e=>kk b o (by simpa using hb) e) f0 f1 f3 f4 f5;refine⟨_,rfl,zbG (s:={ s with heap:=h',toks:=tk }) (n:="range_iterator") st' rfl rfl (by decide) ⟨.int (lo+i),H,I1,⟨t,?_⟩,⟨rfl,rfl⟩,st',λb hb=>(hf b hb).1⟩⟩;rw[Int.mul_one]
 done:=by
  intro X hP hw hK hc i pins s σ H E I hf st hg;subst hP hw hK;obtain⟨f0,f1,f2,f3,f4,f5⟩:=hf it (by simp);exact wpAny_pyNext_range_end (I.ok.hd hc) st (by have:n<=i:=hg; lia) λh' eb=>⟨rfl,I.turned (t':=s.toks) (λb o hb e=>eb b o hb e) f0 f1 f3 f4 f5⟩
 self:=λ_ _ _ _ _ st h=>wpAny_pyIter_rangeiter st h
section
variable {X:Cx}{tg:Expr}
def zcA {pins:List (Addr × Obj)}{σ:St}{H:Hp}{s:Shared}{R:It->Hp->Prop}{E:Value->Shared->Prop}{lo hi:Int}{t u v:Tok}{tk:Nat}(I:Inv X pins σ H s)(h1 : -(2 ^ 62)<=lo)(h2:lo<2 ^ 62)(h3 : -(2 ^ 62)<=hi)(h4:hi<2 ^ 62)
  (q:R (Itr lo (hi - lo).toNat) H):wpAny (model X.prog X.w) X.A (pyIter (.ref s.heap.objs.size)) (PIE X pins σ tg R) E { s with heap:=s.heap.push { cls :=.type "range",data :=.fields #[.int lo t,.int hi u,.int 1 v] },toks:=tk }:=by
 refine wpAny_pyIter_range (IsRange.new ..) (small_one h1 h2 h3 h4) ?_;have I1:Inv X pins σ H { s with heap:=s.heap.push { cls :=.type "range",data :=.fields #[.int lo t,.int hi u,.int 1 v] },toks:=tk }:=I.kept λb o e=>wd _ e;refine⟨(s.heap.push { cls :=.type "range",data :=.fields #[.int lo t,.int hi u,.int 1 v] }).objs.size,[(s.heap.push { cls :=.type "range",data :=.fields #[.int lo t,.int hi u,.int 1 v] }).objs.size],_,_,H,rfl,
  I1.kept (t':=tk) λb o e=>wd _ e,z9z _ lo (hi - lo).toNat,?_,λb hb =>?_,q⟩
 ·have e1:lo+((0:Nat):Int)*1=lo:=by simp
  have e2:(((hi - lo).toNat:Nat):Int) - ((0:Nat):Int)=Builtin.Range.rangeSize lo hi 1:=by rw[rangeSize_one]; split <;> lia
  show IsRangeIter _ _ (lo+((0:Nat):Int)*1) ((((hi - lo).toNat:Nat):Int) - ((0:Nat):Int)) 1;rw[e1,e2];exact wy _ rfl
 ·have e:b=(s.heap.push { cls :=.type "range",data :=.fields #[.int lo t,.int hi u,.int 1 v] }).objs.size:=by simpa using hb
  subst e;exact I1.fpOk (wc _) (I1.hok.fresh (wc _))
def zi0 (ta:TA):TI:=λσ H R=>ta σ H λvs H1=>∃j:Int,vs=[.int j] /\ -(2 ^ 62)<=j/\j<2 ^ 62/\R (Itr 0 j.toNat) H1
def zba {a:Expr}{ta:TA}{p pos:Pos}(hg:Gl X "range")(hm:X.mg "range"=none)(ha:PA X [a] ta)(hs:starEach [a] X.env=[(false,eval a X.env)]:=by rfl):PI X tg (.Call (.Name "range" p) [a] [] pos) (zi0 ta):=by
 intro pins s σ H R I h;refine Call_ (z9k I hg hm boot_range (PyProof.Rows.callWith_type1 (thn (ha pos pins s σ H _ I h) λus s1 ⟨vs,H1,I1,r1,q1⟩ =>?_) hs rfl));obtain⟨j,e,q1,q2,q⟩:=q1;subst e
 cases r1 with
 | cons r rr=>
  cases rr
  obtain⟨t,rfl⟩:=r;exact call_range_1 (zcA I1 (by lia) (by lia) q1 q2 (by simpa using q))
def tFor (wi:TI)(g:TG)(tb:TS):TS:=λD σ H=>wi σ H λJ H1=>∃W:Nat->Nat->St->Hp->Prop,(∃m,W 0 m σ H1)/\∀i m σ H,W i m σ H->
 (J.stop i H/\D.nx σ H)\/(J.go i H/\∃N:St->Hp->Prop,(∀σ' H',N σ' H'->∃m',m'<m/\W (i+1) m' σ' H')/\∀x H',J.yld i H x H'->g x σ H' λσ2 H2=>tb { D with nx:=N,ct:=N,bk:=D.nx } σ2 H2)
def z4Z (fp:List Addr)(h:Heap):List (Addr × Obj):=fp.filterMap λb=>(h.get? b).map λo=>(b,o)
def z2u {fp:List Addr}{h:Heap}{b:Addr}{o:Obj}(hb:b∈fp)(e:h.get? b=some o):(b,o)∈z4Z fp h:=ud.mpr ⟨b,hb,by rw[e]; rfl⟩
def zbn {fp:List Addr}{h:Heap}{p:Addr × Obj}(hp:p∈z4Z fp h):p.1∈fp/\h.get? p.1=some p.2:=by
 obtain⟨b,hb,e⟩:=ud.mp hp
 cases q:h.get? b with
 | none=>rw[q] at e; cases e
 | some o=>
  rw[q] at e;have e':(b,o)=p:=wO e;subst e';exact⟨hb,q⟩
def Inv.pinned {pins:List (Addr × Obj)}{σ:St}{H:Hp}{s:Shared}{fp:List Addr}(I:Inv X pins σ H s)(hf:∀b∈fp,FpOk X pins H b)(ho:∀b∈fp,∃o,s.heap.get? b=some o/\∀v,o.data ≠ .cell v):Inv X (pins++z4Z fp s.heap) σ H s:=
 I.pins_of λp hp=>(wE.mp hp).elim (λz=>I.pin p (wJ _ z)) λz=>by
  obtain⟨hb,e⟩:=zbn z;obtain⟨f0,f1,f2,_⟩:=hf p.1 hb;obtain⟨o,e',d⟩:=ho p.1 hb;rw[e] at e'; cases e';exact⟨e,f0,f1,f2,d⟩
def Inv.unpinned {pins pl:List (Addr × Obj)}{σ:St}{H:Hp}{s:Shared}(I:Inv X (pins++pl) σ H s):Inv X pins σ H s:=I.pins_of λp hp=>I.pin p (wJ _ (List.mem_append_left _ hp))
def zgP {iter:Expr}{body:List Stmt}{wi:TI}{g:TG}{tb:TS}{pos:Pos}(hp:PassesOwn (model X.prog X.w) X.A X.env X.xe)(hc:X.calm=true)(hi:PI X tg iter wi)(hg:PG X tg g)(hb:PSs X body tb)
  (hs:∀x,foldedSetIterable iter X.env x=pure x:=by intro _; rfl):PS X (.For tg iter body [] pos) (tFor wi g tb):=by
 intro pins s σ H D I h;refine wpAny_For (thn (hi pins s σ H _ I h) λv s1 h1=>thn h1 λitv s2 h2 =>?_) hs;obtain⟨it,fp,tn,J,H2,e,I2,T,st2,f2,W,⟨m0,w0⟩,turn⟩:=h2;subst e;have stat:∀{H':Hp},(∀b∈fp,H' b=none)->∀b∈fp,FpOk X pins H' b:=λhn b hb=>⟨hn b hb,(f2 b hb).2⟩
 refine codeAny_forLoop_any (λn s'=>∃i σ' H',Inv X pins σ' H' s'/\tn i s'.heap/\(∀b∈fp,H' b=none)/\W i n σ' H') ?_ m0 ⟨0,σ,H2,I2,st2,λb hb=>(f2 b hb).1,w0⟩;rintro n s3 ⟨i,σ3,H3,I3,st3,fr3,w3⟩
 rcases turn i n σ3 H3 w3 with ⟨stop,qn⟩ | ⟨go,N,hN,step⟩
 ·refine ue hp (thn (T.done X rfl rfl rfl hc i pins s3 σ3 H3 X.xe I3 (stat fr3) st3 stop) λr s4 ⟨hr,I4⟩ =>?_);subst hr;exact wpAny_execs_nil ⟨σ3,H3,I4,qn⟩
 ·refine ue hp (thn (T.item X rfl rfl rfl hc i pins s3 σ3 H3 X.xe I3 (stat fr3) st3 go) λr s4 ⟨u,hr,h4⟩ =>?_);subst hr;refine ue hp (thn h4 λ_ s5 ⟨x,H5,I5,r5,y5,st5,fr5⟩ =>?_);have I5':=I5.pinned (stat fr5) (T.obj _ _ st5);refine ue hp (thn (hg _ s5 σ3 H5 x u _ I5' r5 (step x H5 y5)) λ_ s6 ⟨σ6,H6,I6,q6⟩ =>?_);refine ue hp (thn (hb _ s6 σ6 H6 _ I6 q6) λf s7 q7 =>?_);have again:∀{σ7:St}{H7:Hp},Inv X (pins++z4Z fp s5.heap) σ7 H7 s7->N σ7 H7->∃m,m<n/\∃i σ' H',Inv X pins σ' H' s7/\tn i s7.heap/\(∀b∈fp,H' b=none)/\W i m σ' H':=λ{σ7 H7} I7 n7=>by
   obtain⟨m',hm,w7⟩:=hN σ7 H7 n7;refine⟨m',hm,i+1,σ7,H7,I7.unpinned,T.keep _ _ _ st5 λb hb o e=>(I7.pin (b,o) (wJ _ (wJ _ (z2u hb e)))).1,λb hb =>?_,w7⟩;obtain⟨o,e,d⟩:=T.obj _ _ st5 b hb;exact(I7.pin (b,o) (wJ _ (wJ _ (z2u hb e)))).2.1
  cases f with
  | next=>obtain⟨σ7,H7,I7,n7⟩:=q7; exact again I7 n7
  | cont=>obtain⟨σ7,H7,I7,n7⟩:=q7; exact again I7 n7
  | brk=>obtain⟨σ7,H7,I7,q7⟩:=q7; exact⟨σ7,H7,I7.unpinned,q7⟩
  | ret v=>obtain⟨x7,σ7,H7,I7,r7,q7⟩:=q7; exact⟨x7,σ7,H7,I7.unpinned,r7,q7⟩
end
abbrev R2:=V->V->Hp->VK->Prop
def OpR (X:Cx)(f:Value->Value->Sem Value)(r:R2):Prop:=
 ∀(pins:List (Addr × Obj)) (s:Shared) (σ:St) (H:Hp) (x y:V) (v u:Value) (Q:VK),Inv X pins σ H s->RelV x v->RelV y u->r x y H Q->
  wpAny (model X.prog X.w) X.A (f v u) (EP X pins σ Q) X.xe s
def UnR (X:Cx)(f:Value->Sem Value)(r:V->Hp->VK->Prop):Prop:=
 ∀(pins:List (Addr × Obj)) (s:Shared) (σ:St) (H:Hp) (x:V) (v:Value) (Q:VK),Inv X pins σ H s->RelV x v->r x H Q->
  wpAny (model X.prog X.w) X.A (f v) (EP X pins σ Q) X.xe s
def z1v (X:Cx)(f:Value)(r:List V->Hp->VK->Prop):Prop:=
 ∀(pins:List (Addr × Obj)) (s:Shared) (σ:St) (H:Hp) (xs:List V) (us:List Value) (Q:VK),Inv X pins σ H s->Vals xs us->r xs H Q->
  wpAny (model X.prog X.w) X.A (call f us) (EP X pins σ Q) X.xe s
def tOp (r:R2)(ta tb:TE):TE:=λσ H Q=>ta σ H λx H1=>tb σ H1 λy H2=>r x y H2 Q
def tUn (r:V->Hp->VK->Prop)(ta:TE):TE:=λσ H Q=>ta σ H λx H1=>r x H1 Q
def rI (C:Int->Int->Prop)(g:Int->Int->V):R2:=λx y H Q=>∃i j,x = .int i/\y = .int j/\C i j/\Q (g i j) H
def rI0 (g:Int->Int->V):R2:=λx y H Q=>∃i j,x = .int i/\y = .int j/\Q (g i j) H
def rU (g:Int->V):V->Hp->VK->Prop:=λx H Q=>∃i,x = .int i/\Q (g i) H
section
variable {X:Cx}{a b c:Expr}{ta tb tc:TE}{pos:Pos}
def binT (ha:PE X a ta)(hb:PE X b tb){pins:List (Addr × Obj)}{s:Shared}{σ:St}{H:Hp}{R:V->V->Hp->Prop}(I:Inv X pins σ H s)
  (h:ta σ H λx H1=>tb σ H1 λy H2=>R x y H2) {Q:Value->Shared->Prop}{f:Value->Value->Sem Value}
  (hf:∀v u s2 x y H2,Inv X pins σ H2 s2->RelV x v->RelV y u->R x y H2->wpAny (model X.prog X.w) X.A (f v u) Q X.xe s2):
  wpAny (model X.prog X.w) X.A (eval a X.env) (λv s₁=>wpAny (model X.prog X.w) X.A (eval b X.env) (λu s₂=>wpAny (model X.prog X.w) X.A (f v u) Q X.xe s₂) X.xe s₁) X.xe s:=by
 refine thn (ha pins s σ H _ I h) λv s1 ⟨x,H1,I1,r1,q1⟩ =>?_;refine thn (hb pins s1 σ H1 _ I1 q1) λu s2 ⟨y,H2,I2,r2,q2⟩ =>?_;exact hf v u s2 x y H2 I2 r1 r2 q2
def ziT {op:Operator}{r:R2}(ho:OpR X (binaryOp op) r)(ha:PE X a ta)(hb:PE X b tb):PE X (.BinOp a op b pos) (tOp r ta tb):=by
 intro pins s σ H Q I h;exact wpAny_BinOp (binT ha hb I h λv u s2 x y H2 I2 rx ry q=>ho pins s2 σ H2 x y v u Q I2 rx ry q)
def ziS {op:UnaryOp}{r:V->Hp->VK->Prop}(ho:UnR X (unaryOp op) r)(ha:PE X a ta):PE X (.UnaryOp op a pos) (tUn r ta):=by
 intro pins s σ H Q I h;exact UnaryOp_ (thn (ha pins s σ H _ I h) λv s1 ⟨x,H1,I1,r1,q1⟩=>ho pins s1 σ H1 x v Q I1 r1 q1)
def opI {f:Value->Value->Sem Value}{C:Int->Int->Prop}{g:Int->Int->Int}
  (rule:∀(i j:Int) (t u:Tok) (s:Shared) (Q:Value->Shared->Prop) (E:Value->Shared->Prop),C i j->Q (.int (g i j) s.toks) { s with toks:=s.toks+1 }->wpAny (model X.prog X.w) X.A (f (.int i t) (.int j u)) Q E s):
  OpR X f (rI C λi j =>.int (g i j)):=by
 intro pins s σ H x y v u Q I rx ry h;obtain⟨i,j,rfl,rfl,hc,q⟩:=h;obtain⟨t,rfl⟩:=rx;obtain⟨t',rfl⟩:=ry;exact rule i j t t' s _ _ hc ⟨.int (g i j),H,I.tok _,⟨_,rfl⟩,q⟩
def opI0 {f:Value->Value->Sem Value}{g:Int->Int->Int}
  (rule:∀(i j:Int) (t u:Tok) (s:Shared) (Q:Value->Shared->Prop) (E:Value->Shared->Prop),Q (.int (g i j) s.toks) { s with toks:=s.toks+1 }->wpAny (model X.prog X.w) X.A (f (.int i t) (.int j u)) Q E s):
  OpR X f (rI0 λi j =>.int (g i j)):=by
 intro pins s σ H x y v u Q I rx ry h;obtain⟨i,j,rfl,rfl,q⟩:=h;obtain⟨t,rfl⟩:=rx;obtain⟨t',rfl⟩:=ry;exact rule i j t t' s _ _ ⟨.int (g i j),H,I.tok _,⟨_,rfl⟩,q⟩
def opB0 {f:Value->Value->Sem Value}{g:Int->Int->Bool}
  (rule:∀(i j:Int) (t u:Tok) (s:Shared) (Q:Value->Shared->Prop) (E:Value->Shared->Prop),Q (.bool (g i j)) s->wpAny (model X.prog X.w) X.A (f (.int i t) (.int j u)) Q E s):
  OpR X f (rI0 λi j =>.bl (g i j)):=by
 intro pins s σ H x y v u Q I rx ry h;obtain⟨i,j,rfl,rfl,q⟩:=h;obtain⟨t,rfl⟩:=rx;obtain⟨t',rfl⟩:=ry;exact rule i j t t' s _ _ ⟨.bl (g i j),H,I,rfl,q⟩
def CPow (i j:Int):Prop:=0<=j/\j<=1000000/\i.natAbs<2 ^ 64
def zhh:OpR X (binaryOp .Add) (rI0 λi j =>.int (i+j)):=opI0 λ_ _ _ _ _ _ _ q=>add_int q
def zh9:OpR X (binaryOp .Sub) (rI0 λi j =>.int (i - j)):=opI0 λ_ _ _ _ _ _ _ q=>sub_int q
def zfd:OpR X (binaryOp .Mod) (rI (λ_ j=>j≠0) λi j =>.int (i.fmod j)):=opI λ_ _ _ _ _ _ _ hc q=>mod_int' hc q
def zha:OpR X (binaryOp .Pow) (rI CPow λi j =>.int (i ^ j.toNat)):=opI λ_ _ _ _ _ _ _ hc q=>pow_int_small hc.1 hc.2.1 hc.2.2 q
def unI {f:Value->Sem Value}{g:Int->Int}
  (rule:∀(i:Int) (t:Tok) (s:Shared) (Q:Value->Shared->Prop) (E:Value->Shared->Prop),Q (.int (g i) s.toks) { s with toks:=s.toks+1 }->wpAny (model X.prog X.w) X.A (f (.int i t)) Q E s):
  UnR X f (rU λi =>.int (g i)):=by
 intro pins s σ H x v Q I rx h;obtain⟨i,rfl,q⟩:=h;obtain⟨t,rfl⟩:=rx;exact rule i t s _ _ ⟨.int (g i),H,I.tok _,⟨_,rfl⟩,q⟩
def zfD:UnR X (unaryOp .USub) (rU λi =>.int (-i)):=unI λ_ _ _ _ _ q=>neg_int q
end
def scal:V->V->Bool
 | .non,.non=>true | .non,.int _=>true | .int _,.non=>true | .non,.bl _=>true | .bl _,.non=>true | .non,.str _=>true | .str _,.non=>true
 | .int _,.int _=>true | .bl _,.bl _=>true | .str _,.str _=>true | .byt _,.byt _=>true
 | .int _,.str _=>true | .str _,.int _=>true | .bl _,.str _=>true | .str _,.bl _=>true
 | _,_=>false
def rEq:R2:=λx y H Q=>scal x y=true/\Q (.bl (decide (x=y))) H
def rNe:R2:=λx y H Q=>scal x y=true/\Q (.bl (!decide (x=y))) H
def zc0 {i j:Int}:decide (V.int i=V.int j)=(i == j):=by
 rw[uf];simp
def zec {i j:Bool}:decide (V.bl i=V.bl j)=(i == j):=by
 rw[uf];simp
def zbZ {i j:Str}:decide (V.str i=V.str j)=(i == j):=by
 rw[uf];simp
def zc1 {i j:Array UInt8}:decide (V.byt i=V.byt j)=(i.toList == j.toList):=by
 rw[uf]
 cases i
 cases j
 simp
section
variable {X:Cx}{a b c:Expr}{ta tb tc:TE}{pos:Pos}
def z0Q {pins:List (Addr × Obj)}{σ:St}{H:Hp}{s:Shared}{Q:VK}{k k':Bool}(I:Inv X pins σ H s)(q:Q (.bl k) H)(e:k=k'):EP X pins σ Q (.bool k') s:=by
 subst e;exact⟨.bl k,H,I,rfl,q⟩
def zj3:OpR X (compareOp .Eq) rEq:=by
 intro pins s σ H x y v u Q I rx ry h;obtain⟨hs,q⟩:=h
 cases x with
 | non=>
  cases rx
  cases y with
  | non=>cases ry; exact PySem.EqNone.eq_none_none (z0Q I q (by simp))
  | bl j=>cases ry; exact PySem.EqNone.eq_none_bool (z0Q I q (by simp))
  | int j=>obtain⟨t',rfl⟩:=ry; exact PySem.EqNone.eq_none_int (z0Q I q (by simp))
  | str j=>obtain⟨t',rfl⟩:=ry; exact PySem.EqNone.eq_none_str (z0Q I q (by simp))
  | _=>exact absurd (show false=true from hs) wF
 | bl i=>
  cases rx
  cases y with
  | non=>cases ry; exact PySem.EqNone.eq_bool_none (z0Q I q (by simp))
  | bl j=>cases ry; exact eq_bool (z0Q I q zec)
  | str j=>obtain⟨t',rfl⟩:=ry; exact PySem.EqMixed.eq_bool_str (z0Q I q (by simp))
  | _=>exact absurd (show false=true from hs) wF
 | int i=>
  obtain⟨t,rfl⟩:=rx
  cases y with
  | non=>cases ry; exact PySem.EqNone.eq_int_none (z0Q I q (by simp))
  | int j=>obtain⟨t',rfl⟩:=ry; exact eq_int (z0Q I q zc0)
  | str j=>obtain⟨t',rfl⟩:=ry; exact PySem.EqMixed.eq_int_str (z0Q I q (by simp))
  | _=>exact absurd (show false=true from hs) wF
 | str i=>
  obtain⟨t,rfl⟩:=rx
  cases y with
  | non=>cases ry; exact PySem.EqNone.eq_str_none (z0Q I q (by simp))
  | bl j=>cases ry; exact PySem.EqMixed.eq_str_bool (z0Q I q (by simp))
  | int j=>obtain⟨t',rfl⟩:=ry; exact PySem.EqMixed.eq_str_int (z0Q I q (by simp))
  | str j=>obtain⟨t',rfl⟩:=ry; exact eq_str (z0Q I q zbZ)
  | _=>exact absurd (show false=true from hs) wF
 | byt i=>
  obtain⟨t,rfl⟩:=rx
  cases y with
  | byt j=>obtain⟨t',rfl⟩:=ry; exact PySem.W.eq_bytes (z0Q I q zc1)
  | _=>exact absurd (show false=true from hs) wF
 | _=>cases y <;> exact absurd (show false=true from hs) wF
def ziZ:OpR X (compareOp .NotEq) rNe:=by
 intro pins s σ H x y v u Q I rx ry h;obtain⟨hs,q⟩:=h
 cases x with
 | non=>
  cases rx
  cases y with
  | non=>cases ry; exact PySem.EqNone.ne_none_none (z0Q I q (by simp))
  | bl j=>cases ry; exact PySem.EqNone.ne_none_bool (z0Q I q (by simp))
  | int j=>obtain⟨t',rfl⟩:=ry; exact PySem.EqNone.ne_none_int (z0Q I q (by simp))
  | str j=>obtain⟨t',rfl⟩:=ry; exact PySem.EqNone.ne_none_str (z0Q I q (by simp))
  | _=>exact absurd (show false=true from hs) wF
 | bl i=>
  cases rx
  cases y with
  | non=>cases ry; exact PySem.EqNone.ne_bool_none (z0Q I q (by simp))
  | bl j=>cases ry; exact ne_bool (z0Q I q (congrArg not zec))
  | str j=>obtain⟨t',rfl⟩:=ry; exact PySem.EqMixed.ne_bool_str (z0Q I q (by simp))
  | _=>exact absurd (show false=true from hs) wF
 | int i=>
  obtain⟨t,rfl⟩:=rx
  cases y with
  | non=>cases ry; exact PySem.EqNone.ne_int_none (z0Q I q (by simp))
  | int j=>obtain⟨t',rfl⟩:=ry; exact ne_int (z0Q I q (congrArg not zc0))
  | str j=>obtain⟨t',rfl⟩:=ry; exact PySem.EqMixed.ne_int_str (z0Q I q (by simp))
  | _=>exact absurd (show false=true from hs) wF
 | str i=>
  obtain⟨t,rfl⟩:=rx
  cases y with
  | non=>cases ry; exact PySem.EqNone.ne_str_none (z0Q I q (by simp))
  | bl j=>cases ry; exact PySem.EqMixed.ne_str_bool (z0Q I q (by simp))
  | int j=>obtain⟨t',rfl⟩:=ry; exact PySem.EqMixed.ne_str_int (z0Q I q (by simp))
  | str j=>obtain⟨t',rfl⟩:=ry; exact ne_str (z0Q I q (congrArg not zbZ))
  | _=>exact absurd (show false=true from hs) wF
 | byt i=>
  obtain⟨t,rfl⟩:=rx
  cases y with
  | byt j=>obtain⟨t',rfl⟩:=ry; exact PySem.W.ne_bytes (z0Q I q (congrArg not zc1))
  | _=>exact absurd (show false=true from hs) wF
 | _=>cases y <;> exact absurd (show false=true from hs) wF
def zj0:OpR X (compareOp .Lt) (rI0 λi j =>.bl (decide (i<j))):=opB0 λ_ _ _ _ _ _ _ q=>lt_int q
def zj1:OpR X (compareOp .LtE) (rI0 λi j =>.bl (decide (i<=j))):=opB0 λ_ _ _ _ _ _ _ q=>le_int q
def zj2:OpR X (compareOp .Gt) (rI0 λi j =>.bl (decide (j<i))):=opB0 λ_ _ _ _ _ _ _ q=>gt_int q
def zbl:OpR X (compareOp .In) (λx y H Q=>∃i j,x = .str i/\y = .str j/\Q (.bl (!(Builtin.Str.occurrences j i 0 j.length 1).isEmpty)) H):=by
 intro pins s σ H x y v u Q I rx ry h;obtain⟨i,j,rfl,rfl,q⟩:=h;obtain⟨t,rfl⟩:=rx;obtain⟨t',rfl⟩:=ry;exact in_str (z0Q I q rfl)
def zhe:OpR X (compareOp .Is) (λx y H Q=>y = .non/\Q (.bl (decide (x = .non))) H):=by
 intro pins s σ H x y v u Q I rx ry h;obtain⟨rfl,q⟩:=h
 cases ry
 refine is_none_gen (z0Q I q ?_)
 cases x <;> first
  | (cases rx; rfl)
  | (obtain⟨t,rfl⟩:=rx; rfl)
def z1u (b:Expr){op:CmpOp}(h:op ≠ .In:=by decide)(h2:op ≠ .NotIn:=by decide):behindInMarks op b=false:=by
 have e1:(op == CmpOp.In)=false:=by cases op <;> first | rfl | exact absurd rfl h
 have e2:(op == CmpOp.NotIn)=false:=by cases op <;> first | rfl | exact absurd rfl h2
 cases b <;> simp[behindInMarks,e1,e2]
def zf8 {op:CmpOp}{r:R2}(ho:OpR X (compareOp op) r)(ha:PE X a ta)(hb:PE X b tb)(hm:behindInMarks op b=false):PE X (.Compare a [op] [b] pos) (tOp r ta tb):=by
 intro pins s σ H Q I h;exact wpAny_Compare1 (binT ha hb I h λv u s2 x y H2 I2 rx ry q=>ho pins s2 σ H2 x y v u Q I2 rx ry q) hm
def zao (t:TE):TT:=λσ H Q=>t σ H λx H'=>∃k,x = .bl k/\Q k H'
def zeW {op:CmpOp}{r:R2}(ho:OpR X (compareOp op) r)(ha:PE X a ta)(hb:PE X b tb)(hm:behindInMarks op b=false):PT X (.Compare a [op] [b] pos) (zao (tOp r ta tb)):=by
 intro pins s σ H Q I h;refine wpAny_isTrue_Compare1 (thn (ha pins s σ H _ I h) λv s1 ⟨x,H1,I1,r1,q1⟩=>thn (hb pins s1 σ H1 _ I1 q1) λu s2 ⟨y,H2,I2,r2,q2⟩=>
  thn (ho pins s2 σ H2 x y v u _ I2 r1 r2 q2) λc s3 ⟨z,H3,I3,r3,k,e,q3⟩ =>?_) hm
 subst e
 cases r3
 exact vy ⟨H3,I3,q3⟩
def z7d (r r':R2)(ta tb tc:TE):TE:=λσ H Q=>ta σ H λx H1=>tb σ H1 λy H2=>r x y H2 λz H3=>∃k,z = .bl k/\
 (if k=true then tc σ H3 λw' H4=>r' y w' H4 Q else Q (.bl false) H3)
def zcZ {op op':CmpOp}{r r':R2}(ho:OpR X (compareOp op) r)(ho':OpR X (compareOp op') r')(ha:PE X a ta)(hb:PE X b tb)(hc:PE X c tc)
  (hm:lastMarks [op,op'] [b,c]=false:=by with_unfolding_all rfl):PE X (.Compare a [op,op'] [b,c] pos) (z7d r r' ta tb tc):=by
 intro pins s σ H Q I h;refine Compare_chain (thn (ha pins s σ H _ I h) λv s1 ⟨x,H1,I1,r1,q1⟩=>chain_link (thn (hb pins s1 σ H1 _ I1 q1) λu s2 ⟨y,H2,I2,r2,q2⟩=>
  thn (ho pins s2 σ H2 x y v u _ I2 r1 r2 q2) λd s3 ⟨z,H3,I3,r3,k,e,q3⟩ =>?_)) hm
 subst e
 cases r3
 refine vy ?_
 cases k with
 | false=>exact ite_ff ⟨.bl false,H3,I3,rfl,q3⟩
 | true=>exact ite_tt (chain_last (thn (hc pins s3 σ H3 _ I3 q3) λw' s4 ⟨z',H4,I4,r4,q4⟩=>ho' pins s4 σ H4 y z' u w' Q I4 r2 r4 q4))
def zcO {op op':CmpOp}{r r':R2}(ho:OpR X (compareOp op) r)(ho':OpR X (compareOp op') r')(ha:PE X a ta)(hb:PE X b tb)(hc:PE X c tc)
  (hm:lastMarks [op,op'] [b,c]=false:=by with_unfolding_all rfl):PT X (.Compare a [op,op'] [b,c] pos) (zao (z7d r r' ta tb tc)):=by
 intro pins s σ H Q I h;refine isTrue_chain (thn (ha pins s σ H _ I h) λv s1 ⟨x,H1,I1,r1,q1⟩=>test_link (thn (hb pins s1 σ H1 _ I1 q1) λu s2 ⟨y,H2,I2,r2,q2⟩=>
  thn (ho pins s2 σ H2 x y v u _ I2 r1 r2 q2) λd s3 ⟨z,H3,I3,r3,k,e,q3⟩ =>?_)) hm
 subst e
 cases r3
 refine vy ?_
 cases k with
 | false=>
  obtain⟨k',e',q'⟩:=q3
  cases e'
  exact ite_ff ⟨H3,I3,q'⟩
 | true=>
  refine ite_tt (test_last (thn (hc pins s3 σ H3 _ I3 q3) λw' s4 ⟨z',H4,I4,r4,q4⟩=>thn (ho' pins s4 σ H4 y z' u w' _ I4 r2 r4 q4) λd' s5 ⟨z2,H5,I5,r5,k2,e2,q5⟩ =>?_));subst e2
  cases r5
  exact vy ⟨H5,I5,q5⟩
def z6t:(sizeLine:Nat)<2 ^ 63:=by rw[sizeLine_eq]; decide
def z9J:OpR X (binaryOp .Add) (λx y H Q=>∃i j,x = .str i/\y = .str j/\i.length+j.length<=sizeLine/\Q (.str (i++j)) H):=by
 intro pins s σ H x y v u Q I rx ry h;obtain⟨i,j,rfl,rfl,hz,q⟩:=h;obtain⟨t,rfl⟩:=rx;obtain⟨t',rfl⟩:=ry;exact add_str (λt' tk=>⟨.str (i++j),H,I.tok _,⟨_,rfl⟩,q⟩) hz
def z6z {x:V}{us:List Value}(r:Vals [x] us):∃u,us=[u]/\RelV x u:=by
 cases r with
 | cons r1 r2=>cases r2; exact⟨_,rfl,r1⟩
def zeg {x y:V}{us:List Value}(r:Vals [x,y] us):∃u w',us=[u,w']/\RelV x u/\RelV y w':=by
 cases r with
 | cons r1 r2=>
  cases r2 with
  | cons r3 r4=>cases r4; exact⟨_,_,rfl,r1,r3⟩
def zdv:z1v X (.builtin "abs") (λxs H Q=>∃i,xs=[.int i]/\Q (.int (if i<0 then -i else i)) H):=by
 intro pins s σ H xs us Q I r h;obtain⟨i,rfl,q⟩:=h;obtain⟨u,rfl,t,rfl⟩:=z6z r;exact call_abs_int λu tk=>⟨.int (if i<0 then -i else i),H,I.tok _,⟨_,rfl⟩,q⟩
def zcb (hc:X.calm=true):z1v X (.builtin "max") (λxs H Q=>∃i j,xs=[.int i,.int j]/\Q (.int (if j > i then j else i)) H):=by
 intro pins s σ H xs us Q I r h;obtain⟨i,j,rfl,q⟩:=h;obtain⟨u,w',rfl,⟨t,rfl⟩,⟨t',rfl⟩⟩:=zeg r;refine max_two_ints (I.ok.hd hc) λh' tk k=>⟨_,H,I.kept k,?_,q⟩
 by_cases hj:j > i
 ·rw[if_pos hj,if_pos hj]; exact⟨_,rfl⟩
 ·rw[if_neg hj,if_neg hj]; exact⟨_,rfl⟩
end
structure ObjM (h:Heap)(x dx C:Addr)(mA:Str->Option Value):Prop where
 obj:h.get? x=some (PySem.W.instObj C dx)
 ns:h.Ns1 dx mA
 ne:dx≠x
def zbt {h:Heap}{dx:Addr}{mA:Str->Option Value}(n:h.Ns1 dx mA):∃od,h.get? dx=some od/\∀name,PySem.W.lookIn name od=some (mA name):=by
 obtain⟨o,es,ep,ho,hd,hk,_,hm⟩:=n;refine⟨o,ho,λname =>?_⟩;have e:=hm name;unfold nsFind findBy at e;rw[<- Array.find?_toList] at e;unfold PySem.W.lookIn;rw[hd];dsimp only
 split
 ·rename_i y q
  rw[q] at e;exact congrArg some e
 ·rename_i q
  rw[q] at e;have a:es.toList.any (·.refKey)=false:=by
   rw[List.any_eq_false];intro y hy;obtain⟨z,t,hkey⟩:=hk y (Array.mem_toList_iff.mp hy);simp[DictEntry.refKey,hkey]
  have a':¬ es.toList.any (·.refKey)=true:=by rw[a]; exact wF
  rw[if_neg a'];exact congrArg some e
def ObjM.look {h:Heap}{x dx C:Addr}{mA:Str->Option Value}(I:ObjM h x dx C mA):∃od,PySem.W.InstAt h x (PySem.W.instObj C dx) C (some od)/\∀name,PySem.W.lookIn name od=some (mA name):=
 let ⟨od,ho,hl⟩:=zbt I.ns
 ⟨od,⟨I.obj,rfl,rfl,ho⟩,hl⟩
section
variable {prog:Program}{w:World}{A:Around}{E:Value->Shared->Prop}{s:Shared}{K:W.Frag}{x dx C f:Addr}{mA:Str->Option Value}{name:Str}{v:Value}
def zfs {expr:Bool}{Q:Value->Shared->Prop}(X:K.In s.heap)(I:ObjM s.heap x dx C mA)(hg:PySem.W.plainGet K C name=true)(hh:PySem.W.hasDictIn K C=true)
  (ha:PySem.W.findIn K (.ref C) name=some none) (hv:mA name=some v) (hv':PySem.W.handedIn v=true) (h:Q v { s with toks:=s.toks+1 }):
  wpAny (model prog w) A (getAttr (.ref x) name expr) Q E s:=by
 obtain⟨od,J,hl⟩:=I.look;exact PySem.W.get_value X J (PySem.W.plainGet_of hg).1 (PySem.W.findObj_own hh ha rfl (by rw[hl,hv])) hv' h
def zdj {pl:Sem Bool}{Q:Value × List Value->Shared->Prop}(X:K.In s.heap)(I:ObjM s.heap x dx C mA)(hg:PySem.W.plainGet K C name=true)
  (hf:PySem.W.findIn K (.ref C) name=some (some (.ref f))) (ht:PySem.W.isFn K (.ref f)=true) (hv:mA name=none) (h:Q (.ref f,[.ref x]) s):
  wpAny (model prog w) A (getMethod (.ref x) name pl) Q E s:=by
 obtain⟨od,J,hl⟩:=I.look;exact PySem.W.method_fn X J (PySem.W.plainGet_of hg).1 (PySem.W.plainGet_of hg).2 hf (vE.mp ht) (by show (PySem.W.lookIn name od).map (·.isSome)=some false; rw[hl,hv]; rfl) h
def zeo {ns:List Str}{Q:Unit->Shared->Prop}(X:K.In s.heap)(I:ObjM s.heap x dx C mA)
  (hs:PySem.W.findIn K (.ref C) "__setattr__"=some (some (.builtin "object.__setattr__"))) (hp:PySem.W.plainOver K C=true) (ht:PySem.W.takerIn K C name=some none) (hh:PySem.W.hasDictIn K C=true)
  (hw:PySem.Within mA ns) (hsz:ns.length<=sizeLine)
  (h:∀h',ObjM h' x dx C (λy=>if y=name then some v else mA y)->Heap.SameBut dx s.heap h'->Q () { s with heap:=h',toks:=s.toks+2 }):
  wpAny (model prog w) A (setAttr (.ref x) name v) Q E s:=by
 obtain⟨od,J,hl⟩:=I.look;refine PySem.W.set_plain X J hs (PySem.W.osa_open (s:={ s with toks:=s.toks+1 }) (r:=none) X J hp ht λb =>?_);obtain⟨cd,hc,hd'⟩:=PySem.W.any_some hh;have hx:s.heap.get? x=some ⟨.ref C,some dx,.plain, #[]⟩:=I.obj;refine wa (wf (wa (wa (wpAny_loadPart hx (wa (PySem.W.Looks.here (s:={ s with toks:=s.toks+1 }) (PySem.W.looks_clsIn X hc) ?_))))));rw[hd'];refine wf (a:=some dx) (wa (wf (wa ?_)));refine wpAny_nsSet1 (s:={ s with toks:=s.toks+1 }) I.ns λh' hn2 hs2 =>?_;obtain⟨oD,esD,epD,hoD,hdD,hcD⟩:=hn2.count (PySem.Within.cons name v hw);refine wa (wpAny_lookBehind hoD (by rw[hdD]; exact pastItsLine_dict (wQ hcD (by rw[wC]; lia))) ?_);exact wf (h _ ⟨(hs2.2 _ (wU I.ne)).trans I.obj,hn2,I.ne⟩ hs2)
def zde {R:Result->Shared->Prop}{vs:List Value}{kw:List (Str × Value)}(X:K.In s.heap)(hm:PySem.W.makesIn K C=true)
  (hi:PySem.W.findIn K (.ref C) "__init__"=some (some (.ref f))) (hf:PySem.W.typeIn K (.ref f)=some (.type "function"))
  (h:codeAny (model prog w) (A.under (.builtin "type.__call__" ⟨.ref C::vs,kw⟩)) (.call (.ref f) ⟨.ref (s.heap.objs.size+1)::vs,kw⟩) (PySem.W.InitBack (s.heap.objs.size+1) R)
   { s with heap:=(s.heap.push PySem.W.emptyDict).push (PySem.W.instObj C s.heap.objs.size) }):
  codeAny (model prog w) A (.call (.ref C) ⟨vs,kw⟩) R s:=by
 obtain⟨hh,g,d,t,os⟩:=s;exact PySem.W.make_core (PySem.W.makes_of X hm) (PySem.W.looks_findIn X hi) (λself=>PySem.W.bind_fn X self hf) (.inl rfl) h
end
def putF (f:Str)(v:V):List (Str × V)->List (Str × V)
 | []=>[(f,v)]
 | (g,x)::r=>if g=f then (g,v)::r else (g,x)::putF f v r
theorem z5E (f g:Str)(v:V):∀fs:List (Str × V),(putF f v fs).lookup g=if g=f then some v else fs.lookup g
 | []=>by
  show List.lookup g [(f,v)]=_
  by_cases h:g=f
  ·have hb:(g == f)=true:=vE.mpr h;simp only[List.lookup,hb,if_pos h]
  ·have hb:(g == f)=false:=vK.mpr h;simp only[List.lookup,hb,if_neg h]
 | (k,x)::r=>by
  have ih:=z5E f g v r;rw[show putF f v ((k,x)::r)=(if k=f then (k,v)::r else (k,x)::putF f v r) from rfl]
  by_cases hk:k=f
  ·rw[if_pos hk]
   by_cases h:g=k
   ·have hb:(g == k)=true:=vE.mpr h;simp only[List.lookup,hb,if_pos (h.trans hk)]
   ·have hb:(g == k)=false:=vK.mpr h;simp only[List.lookup,hb,if_neg (λe:g=f=>h (e.trans hk.symm))]
  ·rw[if_neg hk]
   by_cases h:g=k
   ·have hb:(g == k)=true:=vE.mpr h;simp only[List.lookup,hb,if_neg (λe:g=f=>hk (h.symm.trans e))]
   ·have hb:(g == k)=false:=vK.mpr h;simp only[List.lookup,hb];exact ih
theorem z5H (f:Str)(v:V):∀fs:List (Str × V),f∈(putF f v fs).map (·.1)/\∀g,g∈fs.map (·.1)->g∈(putF f v fs).map (·.1)
 | []=>⟨by simp[putF],λg h=>by simp at h⟩
 | (k,x)::r=>by
  obtain⟨i1,i2⟩:=z5H f v r;rw[show putF f v ((k,x)::r)=(if k=f then (k,v)::r else (k,x)::putF f v r) from rfl]
  by_cases hk:k=f
  ·rw[if_pos hk];subst hk;exact⟨by simp,λg h=>by simpa using h⟩
  ·rw[if_neg hk];refine⟨?_,λg h =>?_⟩
   ·rw[wz];exact wj _ i1
   ·rw[wz] at h ⊢
    rcases wx.mp h with e | e
    ·exact wx.mpr (.inl e)
    ·exact wj _ (i2 g e)
theorem z5F (f:Str)(v:V):∀fs:List (Str × V),(putF f v fs).length<=fs.length+1
 | []=>by simp[putF]
 | (k,x)::r=>by
  have ih:=z5F f v r;rw[show putF f v ((k,x)::r)=(if k=f then (k,v)::r else (k,x)::putF f v r) from rfl]
  by_cases hk:k=f
  ·rw[if_pos hk,wC,wC]; lia
  ·rw[if_neg hk,wC,wC]; lia
def RelO.some_of {v:V}{o:Option Value}(r:RelO (some v) o):∃u,o=some u/\RelV v u:=by
 cases o with
 | none=>exact(show False from r).elim
 | some u=>exact⟨u,rfl,r⟩
def RelO.none_of {o:Option Value}(r:RelO none o):o=none:=by
 cases o with
 | none=>rfl
 | some u=>exact(show False from r).elim
def zbE {v:V}{u:Value}(r:RelV v u):PySem.W.handedIn u=true:=by
 cases v with
 | non=>cases (show u=Value.none from r); rfl
 | bl b=>cases (show u=Value.bool b from r); rfl
 | int i=>obtain⟨t,e⟩:=(show ∃t,u=Value.int i t from r); cases e; rfl
 | str x=>obtain⟨t,e⟩:=(show ∃t,u=Value.str x t from r); cases e; rfl
 | byt b=>obtain⟨t,e⟩:=(show ∃t,u=Value.bytes b t from r); cases e; rfl
 | flt b=>obtain⟨t,e⟩:=(show ∃t,u=Value.float b t from r); cases e; rfl
 | ref a=>cases (show u=Value.ref a from r); rfl
 | ty n=>cases (show u=Value.type n from r); rfl
section
variable {P:Program}{w:World}{H H':Hp}{h h':Heap}{a C dx:Addr}{fs fs':List (Str × V)}
def z6W (hok:HOk P w H h)(e:H a=some (.ins C dx fs)):∃mA,ObjM h a dx C mA/\(∀f,RelO (fs.lookup f) (mA f))/\PySem.Within mA (fs.map (·.1))/\fs.length<=1000/\H dx=some (.own a):=by
 obtain⟨d,z,ne,ob,mA,n,r,q⟩:=(show z1l P w H h a (.ins C dx fs) from hok a _ e)
 exact⟨mA,⟨ob,n,ne⟩,r,q,z,d⟩
end
structure Cls (K:W.Frag)(C:Addr):Prop where
 pg:PySem.W.plainGet K C Str.empty=true
 hd:PySem.W.hasDictIn K C=true
 po:PySem.W.plainOver K C=true
 sa:PySem.W.findIn K (.ref C) "__setattr__"=some (some (.builtin "object.__setattr__"))
def Cls.get {K:W.Frag}{C:Addr}(c:Cls K C)(f:Str):PySem.W.plainGet K C f=true:=c.pg
def z2K (K:W.Frag)(C:Addr)(f:Str):Prop:=PySem.W.findIn K (.ref C) f=some none
def z2K.taker {K:W.Frag}{C:Addr}{f:Str}(n:z2K K C f):PySem.W.takerIn K C f=some none:=by
 unfold PySem.W.takerIn;rw[show PySem.W.findIn K (.ref C) f=some none from n]
 rfl
structure Meth (K:W.Frag)(C:Addr)(m:Str)(f:Addr):Prop where
 at_:PySem.W.findIn K (.ref C) m=some (some (.ref f))
 fn:PySem.W.isFn K (.ref f)=true
 kp:PySem.W.keepIn K (.ref f)=true
section
variable {X:Cx}{pins:List (Addr × Obj)}{σ:St}{H:Hp}{s:Shared}{a C dx:Addr}{fs:List (Str × V)}{f:Str}{v:V}{A:Around}{E:Value->Shared->Prop}
def z9Y {b:Bool}{Q:Value->Shared->Prop}(I:Inv X pins σ H s)(e:H a=some (.ins C dx fs))(c:Cls X.K C)(n:z2K X.K C f)(l:fs.lookup f=some v)
  (h:∀u s',Inv X pins σ H s'->RelV v u->Q u s'):wpAny (model X.prog X.w) A (getAttr (.ref a) f b) Q E s:=by
 obtain⟨mA,O,r,_,_,_⟩:=z6W I.hok e;obtain⟨u,hu,ru⟩:=RelO.some_of (v:=v) (o:=mA f) (by rw[<- l]; exact r f);exact zfs I.kIn O (c.get f) c.hd n hu (zbE ru) (h u _ (I.tok _) ru)
def z4U {m:Str}{g:Addr}{pl:Sem Bool}{Q:Value × List Value->Shared->Prop}(I:Inv X pins σ H s)(e:H a=some (.ins C dx fs))(c:Cls X.K C)(k:Meth X.K C m g)(l:fs.lookup m=none)
  (h:Q (.ref g,[.ref a]) s):wpAny (model X.prog X.w) A (getMethod (.ref a) m pl) Q E s:=by
 obtain⟨mA,O,r,_,_,_⟩:=z6W I.hok e;have hn:mA m=none:=RelO.none_of (by rw[<- l]; exact r m);exact zdj I.kIn O (c.get m) k.at_ k.fn hn h
def z9B {y:V}{u:Value}{Q:Unit->Shared->Prop}(I:Inv X pins σ H s)(e:H a=some (.ins C dx fs))(c:Cls X.K C)(n:z2K X.K C f)(hl:fs.length<1000)(ry:RelV y u)
  (h:∀s',Inv X pins σ (upd H a (.ins C dx (putF f y fs))) s'->Q () s'):wpAny (model X.prog X.w) A (setAttr (.ref a) f u) Q E s:=by
 obtain⟨mA,O,r,wi,_,ho⟩:=z6W I.hok e;have hz:(fs.map (·.1)).length<=sizeLine:=by rw[wA,sizeLine_eq]; lia
 refine zeo I.kIn O c.sa c.po n.taker c.hd wi hz λh' O' sb=>h _ ?_;have hd:∃o,h'.get? dx=some o:=let ⟨o,_,_,e',_⟩:=O'.ns; ⟨o,e'⟩;refine I.write (x:=a) (e:=dx) (by rw[e]; exact True.intro) (.inr ho) (λb q hb z=>(sb.2 b hb).trans z) hd ?_;refine⟨by rw[z04 O.ne]; exact ho,?_,O.ne,O'.obj,_,O'.ns,λg =>?_,λg hg =>?_⟩
 ·have:=z5F f y fs; lia
 ·show RelO ((putF f y fs).lookup g) (if g=f then some u else mA g);rw[z5E]
  by_cases q:g=f
  ·rw[if_pos q,if_pos q]; exact ry
  ·rw[if_neg q,if_neg q]; exact r g
 ·by_cases q:g=f
  ·rw[q]; exact(z5H f y fs).1
  ·refine(z5H f y fs).2 g (wi g λz=>hg ?_);show (if g=f then some u else mA g)=none;rw[if_neg q]; exact z
def Inv.made (I:Inv X pins σ H s):Inv X pins σ (upd (upd H s.heap.objs.size (.own (s.heap.objs.size+1))) (s.heap.objs.size+1) (.ins C s.heap.objs.size []))
  { s with heap:=(s.heap.push PySem.W.emptyDict).push (PySem.W.instObj C s.heap.objs.size) }:=by
 have e1:(s.heap.push PySem.W.emptyDict).get? s.heap.objs.size=some PySem.W.emptyDict:=wy s.heap rfl;have e2:((s.heap.push PySem.W.emptyDict).push (PySem.W.instObj C s.heap.objs.size)).get? (s.heap.objs.size+1)=some (PySem.W.instObj C s.heap.objs.size):=by
  have:=wy (s.heap.push PySem.W.emptyDict) (o:=PySem.W.instObj C s.heap.objs.size) rfl
  rwa [Heap.size_push] at this
 have e3:(s.heap.push PySem.W.emptyDict).Ns s.heap.objs.size (λ_=>none):=⟨PySem.W.emptyDict, #[],_,e1,rfl,(λe he=>absurd he (by simp)),λ_=>rfl⟩
 have I1:=I.laid (a:=s.heap.objs.size) (o :=.own (s.heap.objs.size+1)) (h':=s.heap.push PySem.W.emptyDict) (t':=s.toks) (λb u q=>wd _ q) (wc _) ⟨_,e1⟩;refine I1.laid (a:=s.heap.objs.size+1) (o :=.ins C s.heap.objs.size []) (t':=s.toks) (λb u q=>wd _ q) (Nat.le_of_eq (Heap.size_push _ _)) ?_;have ne:s.heap.objs.size≠s.heap.objs.size+1:=wD (Nat.lt_succ_self _);refine⟨by rw[z04 ne,z09],w6 _,ne,e2,λ_=>none,(Heap.Ns1.of_empty e3).at λo q=>wd _ q,λ_=>True.intro,λy hy=>absurd rfl hy⟩
def zfy {prog:Program}{w:World}{env:Env}{e:Expr}{f:Str}{pos:Pos}{s:Shared}{Q:Value->Shared->Prop}(hb:attributeBase e f env (eval e env)=eval e env)
  (h:wpAny (model prog w) A (eval e env) (λo s₁=>wpAny (model prog w) A (getAttr o f true) Q E s₁) E s):wpAny (model prog w) A (eval (.Attribute e f pos) env) Q E s:=
 Attribute_any_ h (by rw[arm_eval_Attribute,hb])
end
def tFld (K:W.Frag)(ta:TE)(f:Str):TE:=λσ H Q=>ta σ H λx H1=>∃a C dx fs v,x = .ref a/\H1 a=some (.ins C dx fs)/\Cls K C/\z2K K C f/\fs.lookup f=some v/\Q v H1
def sFld (K:W.Frag)(ta tv:TE)(f:Str):TS:=λD σ H=>tv σ H λy H1=>ta σ H1 λx H2=>∃a C dx fs,x = .ref a/\H2 a=some (.ins C dx fs)/\Cls K C/\z2K K C f/\fs.length<1000/\
 D.nx σ (upd H2 a (.ins C dx (putF f y fs)))
section
variable {X:Cx}{o e value:Expr}{f:Str}{pos pos' tpos:Pos}{ta tv:TE}
def zh1 (he:PE X e ta)(hb:attributeBase e f X.env (eval e X.env)=eval e X.env):PE X (.Attribute e f pos) (tFld X.K ta f):=by
 intro pins s σ H Q I h;refine zfy hb (thn (he pins s σ H _ I h) λu s1 ⟨x,H1,I1,rx,a,C,dx,fs,v,ex,ea,c,n,l,q⟩ =>?_);subst ex;obtain rfl:u=Value.ref a:=rx;exact z9Y I1 ea c n l λu' s2 I2 ru=>⟨v,H1,I2,ru,q⟩
def z7t (ha:PE X o ta)(hv:PE X value tv)(hs:swapsWith value (some (.Attribute o f pos')) pos.line X.env=pure false):PS X (.Assign [.Attribute o f pos'] value pos) (sFld X.K ta tv f):=by
 intro pins s σ H D I h;refine plainObj_wpAny_Assign_Attribute (thn (hv pins s σ H _ I h) λu s1 ⟨y,H1,I1,ry,q⟩=>thn (ha pins s1 σ H1 _ I1 q) λov s2 ⟨x,H2,I2,rx,a,C,dx,fs,ex,ea,c,n,l,q2⟩ =>?_) hs;subst ex;obtain rfl:ov=Value.ref a:=rx;exact z9B I2 ea c n l ry λs3 I3=>⟨σ,_,I3,q2⟩
end
section
variable {X:Cx}{pins:List (Addr × Obj)}{σ:St}{H:Hp}{s:Shared}{A:Around}{E:Value->Shared->Prop}{Q:Value->Shared->Prop}{c:Value}{b:Bool}
inductive TyOf (K:W.Frag) (H:Hp):V->Value->Prop where
 | non:TyOf K H .non (.type "NoneType")
 | bl (x:Bool):TyOf K H (.bl x) (.type "bool")
 | int (i:Int):TyOf K H (.int i) (.type "int")
 | str (x:Str):TyOf K H (.str x) (.type "str")
 | flt (x:UInt64):TyOf K H (.flt x) (.type "float")
 | lst {a:Addr}{xs:List V}(e:H a=some (.lst xs)):TyOf K H (.ref a) (.type "list")
 | frz {a:Addr}{o:Obj}{xs:List V}(e:H a=some (.frz o (.lst xs))):TyOf K H (.ref a) (.type "list")
 | tup {a:Addr}{xs:List V}(e:H a=some (.tup xs)):TyOf K H (.ref a) (.type "tuple")
 | dK {a:Addr}{kvs:List (Key × V)}(e:H a=some (.dK kvs)):TyOf K H (.ref a) (.type "dict")
 | dT {a:Addr}{kvs:List (List Key × V)}(e:H a=some (.dT kvs)):TyOf K H (.ref a) (.type "dict")
 | ins {a C dx:Addr}{fs:List (Str × V)}(e:H a=some (.ins C dx fs)) (cl:Cls K C) (ha:PySem.W.findIn K (.ref C) "__class__"=some (some (.builtin "object.__class__")))
   (hn:PySem.W.specialIn K (.builtin "object.__class__") "__get__"=some (some (.builtin "getset_descriptor.__get__"))) (htk:PySem.W.takesIn K (.builtin "object.__class__")=some true)
   (hm:PySem.W.mroIn K C (.type "object")=some true):TyOf K H (.ref a) (.ref C)
def z4x {x:V}{u t:Value}(I:Inv X pins σ H s)(rx:RelV x u)(ty:TyOf X.K H x t)(e:PySem.W.kitOne X.K t c=some b)(h:∀tk,Q (.bool b) { s with toks:=tk }):
  wpAny (model X.prog X.w) A (call (.builtin "isinstance") [u,c]) Q E s:=by
 cases ty with
 | non=>cases (show u=Value.none from rx); exact wV PySem.W.kitx_none I.kIn True.intro e (λz=>nomatch z) h
 | bl y=>cases (show u=Value.bool y from rx); exact wV PySem.W.kitx_bool I.kIn True.intro e (λz=>nomatch z) h
 | int i=>obtain⟨t,q⟩:=(show ∃t,u=Value.int i t from rx); cases q; exact wV PySem.W.kitx_int I.kIn True.intro e (λz=>nomatch z) h
 | str y=>obtain⟨t,q⟩:=(show ∃t,u=Value.str y t from rx); cases q; exact wV PySem.W.kitx_str I.kIn True.intro e (λz=>nomatch z) h
 | flt y=>obtain⟨t,q⟩:=(show ∃t,u=Value.float y t from rx); cases q; exact wV PySem.W.kitx_float I.kIn True.intro e (λz=>nomatch z) h
 | @lst a xs ea=>
  cases (show u=Value.ref a from rx)
  obtain⟨_,_,n,_,h1⟩:=(show z1l X.prog X.w H s.heap a (.lst xs) from I.hok a _ ea)
  exact wV PySem.W.kitx_list I.kIn ⟨_,h1,rfl⟩ e (λz=>nomatch z) h
 | @frz a ob xs ea=>
  cases (show u=Value.ref a from rx)
  obtain⟨_,_,_,n,_,h1⟩:=(show z1l X.prog X.w H s.heap a (.frz ob (.lst xs)) from I.hok a _ ea)
  exact wV PySem.W.kitx_list I.kIn ⟨_,h1,rfl⟩ e (λz=>nomatch z) h
 | @tup a xs ea=>
  cases (show u=Value.ref a from rx)
  obtain⟨_,_,_,p,_⟩:=(show z1l X.prog X.w H s.heap a (.tup xs) from I.hok a _ ea)
  obtain⟨o,h1,h2,_⟩:=p;exact wV PySem.W.kitx_tuple I.kIn ⟨o,h1,h2⟩ e (λz=>nomatch z) h
 | @dK a kvs ea=>
  cases (show u=Value.ref a from rx)
  obtain⟨_,_,vs,_,p⟩:=(show z1l X.prog X.w H s.heap a (.dK kvs) from I.hok a _ ea)
  obtain⟨o,es,ep,h1,h2,_⟩:=p;exact wV PySem.W.kitx_dict I.kIn ⟨o,h1,h2.1⟩ e (λz=>nomatch z) h
 | @dT a kvs ea=>
  cases (show u=Value.ref a from rx)
  obtain⟨_,_,xs,_,o,es,ep,h1,h2,_⟩:=(show z1l X.prog X.w H s.heap a (.dT kvs) from I.hok a _ ea)
  exact wV PySem.W.kitx_dict I.kIn ⟨o,h1,h2.1⟩ e (λz=>nomatch z) h
 | @ins a C dx fs ea cl ha hn htk hm=>
  cases (show u=Value.ref a from rx)
  obtain⟨mA,O,_⟩:=z6W I.hok ea;obtain⟨od,J,_⟩:=O.look;exact wV (PySem.W.kitx_own (cl.get _) cl.hd ha hn htk hm) I.kIn J e (λz=>nomatch z) h
end
structure Room (k:Nat)(A:Around):Prop where
 hd:A.handled=none
 dp:A.depth+3*k+5<recursionLimit
 un:A.units+16*k+200<cLine
def Room.mono {j k:Nat}{A:Around}(r:Room k A)(h:j<=k):Room j A:=⟨r.hd,by have:=r.dp; lia,by have:=r.un; lia⟩
theorem Room.deeper {k:Nat}{A:Around}(r:Room (k+1) A)(env:Env):Room k (A.deeper env):=
 ⟨r.hd,by have:=r.dp; show A.depth+1+3*k+5<_; lia,by have:=r.un; show A.units+3+16*k+200<_; lia⟩
def z9S {A:Around}{C:Addr}{us:List Value}{kw:List (Str × Value)}:(A.under (.builtin "type.__call__" ⟨.ref C::us,kw⟩)).depth=A.depth+1:=by
 first | rfl | simp[Around.under,Code.weight,Code.isCreation,Code.isGuard,Code.isCaller,Code.frames,Code.isFrame,guardIds]
def z9R {A:Around}{C:Addr}{us:List Value}{kw:List (Str × Value)}:(A.under (.builtin "type.__call__" ⟨.ref C::us,kw⟩)).units=A.units+1:=by
 first | rfl | simp[Around.under,Code.cUnits,Code.frames,Code.isFrame]
def Room.make {k:Nat}{A:Around}(r:Room (k+1) A)(C:Addr)(us:List Value)(kw:List (Str × Value)):Room k (A.under (.builtin "type.__call__" ⟨.ref C::us,kw⟩)):=
 ⟨r.hd,by have:=r.dp; rw[z9S]; lia,by have:=r.un; rw[z9R]; lia⟩
theorem Room.depth {k:Nat}{A:Around}(r:Room k A):A.depth<recursionLimit:=by have:=r.dp; lia
theorem Room.units {k:Nat}{A:Around}(r:Room k A):A.units+64<cLine:=by have:=r.un; lia
def tNil:TA:=λ_ H Q=>Q [] H
def zfP (ta:TE)(tr:TA):TA:=λσ H Q=>ta σ H λx H1=>tr σ H1 λxs H2=>Q (x::xs) H2
section
variable {X:Cx}{e:Expr}{es:List Expr}{te:TE}{t:TA}{pos:Pos}
def z5x:PA X [] tNil:=λ_ _ _ _ H Q I h=>Calls.spliced_nil ⟨[],H,I,.nil,h⟩
def z4Q (ha:PE X e te)(hr:PA X es t)(hs:starEach (e::es) X.env=(false,eval e X.env)::starEach es X.env:=by rfl):PA X (e::es) (zfP te t):=by
 intro pos pins s σ H Q I h;rw[hs];show wpAny _ _ (spliced ((false,eval e X.env)::backTo pos (starEach es X.env))) _ _ s;refine Calls.spliced_cons (thn (ha pins s σ H _ I h) λu s1 ⟨x,H1,I1,r1,q1⟩ =>?_);exact thn (hr pos pins s1 σ H1 _ I1 q1) λus s2 ⟨xs,H2,I2,r2,q2⟩=>⟨x::xs,H2,I2,.cons r1 r2,q2⟩
def tTup (t:TA):TE:=λσ H Q=>t σ H λxs H1=>xs.length<=sizeLine/\∀p,H1 p=none->Q (.ref p) (upd H1 p (.tup xs))
def tLst (t:TA):TE:=λσ H Q=>t σ H λxs H1=>xs.length<=sizeLine/\∀p,H1 p=none->Q (.ref p) (upd H1 p (.lst xs))
def zdT {x1}(h:PA X es t):PE X (.Tuple es x1 pos) (tTup t):=by
 intro pins s σ H Q I hq;refine wpAny_Tuple_spliced (thn (h pos pins s σ H _ I hq) λus s1 ⟨xs,H1,I1,r,z,q⟩=>⟨by rw[<- r.length]; exact z,?_⟩);have hf:H1 s1.heap.objs.size=none:=I1.hok.fresh (wc _);refine⟨.ref s1.heap.objs.size,upd H1 s1.heap.objs.size (.tup xs),I1.laid (t':=s1.toks) (λb u e=>wd _ e) (wc _) ?_,rfl,q _ hf⟩;exact⟨z,us,r,⟨_,wy _ rfl,rfl,_,rfl⟩,_,wy _ rfl,rfl⟩
def z7u (h:PA X es t):PE X (.List es pos) (tLst t):=by
 intro pins s σ H Q I hq;refine wpAny_List_spliced (thn (h pos pins s σ H _ I hq) λus s1 ⟨xs,H1,I1,r,z,q⟩=>⟨by rw[<- r.length]; exact z,?_⟩);have hf:H1 s1.heap.objs.size=none:=I1.hok.fresh (wc _);refine⟨.ref s1.heap.objs.size,upd H1 s1.heap.objs.size (.lst xs),I1.laid (t':=s1.toks) (λb u e=>wd _ e) (wc _) ?_,rfl,q _ hf⟩;exact⟨z,us,0,r,wy _ rfl⟩
end
abbrev Sp:=List V->Hp->VK->XK->Prop
abbrev CXT:=List Env->Hp->Shared->XK->Value->Shared->Prop
structure Env0 (P:Program)(w:World)(K:W.Frag)(mg:Str->Option Value)(base:Heap)(A:Around)(outer:List Env)(s:Shared)(H:Hp):Prop where
 frames:A.frames=some outer
 mod:Mod K mg base
 bs:∀b o,base.get? b=some o->s.heap.get? b=some o/\H b=none
 bsz:base.objs.size<=s.heap.objs.size
 funs:s.heap.FunFrames base outer
 frf:∀b∈frs outer,H b=none
 tbs:Tbs K H
 hok:HOk P w H s.heap
 bare:AllBare s.gens
def CE (outer:List Env)(P:Program)(w:World)(H:Hp)(s:Shared)(Q:VK)(u:Value)(s':Shared):Prop:=
 ∃v H',s'.os=s.os/\AllBare s'.gens/\Un (frs outer) [] H H' s.heap s'.heap/\HOk P w H' s'.heap/\RelV v u/\Q v H'
def CR (CX:CXT)(outer:List Env)(P:Program)(w:World)(H:Hp)(s:Shared)(Q:VK)(E:XK)(r:Result)(s':Shared):Prop:=
 match r with
 | .ok (.ret u)=>CE outer P w H s Q u s'
 | .ok _=>False
 | .error e=>CX outer H s E e s'
structure FnOk (P:Program)(w:World)(K:W.Frag)(mg:Str->Option Value)(base:Heap)(CX:CXT)(k:Nat)(f:Addr)(fd:FuncData)(ps:List Str)(sp:Sp):Prop where
 len:∀vs H Q E,sp vs H Q E->vs.length=ps.length
 run:∀(A:Around) (outer:List Env) (s:Shared) (H:Hp) (args:Args) (us:List Value) (vs:List V) (Q:VK) (E:XK),Room k A->Env0 P w K mg base A outer s H->BindsTo s fd args (ps.zip us)->Vals vs us->sp vs H Q E->
  codeAny (model P w) A (.call (.ref f) args) (CR CX outer P w H s Q E) s
def FnOk.imp {P:Program}{w:World}{K:W.Frag}{mg:Str->Option Value}{base:Heap}{CX:CXT}{k:Nat}{f:Addr}{fd:FuncData}{ps:List Str}{sp sp':Sp}(F:FnOk P w K mg base CX k f fd ps sp)
  (h:∀vs H Q E,sp' vs H Q E->sp vs H Q E):FnOk P w K mg base CX k f fd ps sp':=
 ⟨λvs H Q E q=>F.len vs H Q E (h _ _ _ _ q),λA outer s H args us vs Q E hr he hb hv hs=>F.run A outer s H args us vs Q E hr he hb hv (h _ _ _ _ hs)⟩
def Env0.make {P:Program}{w:World}{K:W.Frag}{mg:Str->Option Value}{base:Heap}{A:Around}{outer:List Env}{s:Shared}{H:Hp}(e:Env0 P w K mg base A outer s H)(C:Addr)(us:List Value)(kw:List (Str × Value)):
  Env0 P w K mg base (A.under (.builtin "type.__call__" ⟨.ref C::us,kw⟩)) outer s H:=⟨by first | exact e.frames | (simpa[Around.under,Code.envs,Code.isFrame,pushEnvs] using e.frames),e.mod,e.bs,e.bsz,e.funs,e.frf,e.tbs,e.hok,e.bare⟩
section
variable {X:Cx}{pins:List (Addr × Obj)}{σ:St}{H:Hp}{s s':Shared}
def Inv.env0 (I:Inv X pins σ H s):Env0 X.prog X.w X.K X.mg X.base X.A X.stack s H:=
 ⟨I.ok.frames,I.ok.mod,I.bs,wQ I.ok.bsz I.sz,I.stack,I.stkFree,I.tbs,I.hok,I.bare⟩
def Inv.after {Q:VK}{u:Value}(I:Inv X pins σ H s)(h:CE X.stack X.prog X.w H s Q u s'):EP X pins σ Q u s':=by
 obtain⟨v,H',os,bare,un,hok,r,q⟩:=h;obtain⟨hh,g,d,t,os'⟩:=s';obtain rfl:os'=s.os:=os;exact⟨v,H',I.call (h':=hh) (g':=g) (d':=d) (t':=t) (ch:=[]) un hok bare (λb z=>absurd z (by simp)),r,q⟩
end
def zcp (sp:Sp)(dvs:List V)(E:XK)(t:TA):TE:=λσ H Q=>t σ H λvs H1=>sp (vs++dvs) H1 Q E
def zek (C:Addr)(m:Str)(sp:Sp)(dvs:List V)(E:XK)(ta:TE)(t:TA):TE:=λσ H Q=>ta σ H λx H1=>∃a dx fs,x = .ref a/\H1 a=some (.ins C dx fs)/\fs.lookup m=none/\
 t σ H1 λvs H2=>sp (x::(vs++dvs)) H2 Q E
def zfM (C:Addr)(sp:Sp)(dvs:List V)(E:XK)(t:TA):TE:=λσ H Q=>t σ H λvs H1=>∀x dx,H1 x=none->H1 dx=none->dx≠x->
 sp (.ref x::(vs++dvs)) (upd (upd H1 dx (.own x)) x (.ins C dx [])) (λv H2=>v = .non/\Q (.ref x) H2) E
def z3i (K:W.Frag)(fd:FuncData)(ps:List Str)(ds:List Value):Prop:=
 ∀(s:Shared) (us:List Value),K.In s.heap->(us++ds).length=ps.length->BindsTo s fd ⟨us,[]⟩ (ps.zip (us++ds))
def z3i.all {K:W.Frag}{fd:FuncData}{ps:List Str}(h:∀us:List Value,us.length=ps.length->bindArgs fd ⟨us,[]⟩=pure (ps.zip us)):z3i K fd ps []:=λs us _ hl=>by
 rw[wW] at hl ⊢;exact .of_eq (h us hl)
def z1D (CX:CXT)(X:Cx)(E:XK):Prop:=∀(pins:List (Addr × Obj)) (σ:St) (H:Hp) (s:Shared) (e:Value) (s':Shared),Inv X pins σ H s->CX X.stack H s E e s'->X.xe e s'
section
variable {X:Cx}{CX:CXT}{k:Nat}{f C:Addr}{fd:FuncData}{ps:List Str}{sp:Sp}{dvs:List V}{ds:List Value}{E:XK}{x m:Str}{p pos apos:Pos}{e o:Expr}{es:List Expr}{ta:TE}{t:TA}
def zaK {pins:List (Addr × Obj)}{σ:St}{H:Hp}{s:Shared}{Q:VK}{us:List Value}{vs:List V}(F:FnOk X.prog X.w X.K X.mg X.base CX k f fd ps sp)(hr:Room k X.A)(hb:z3i X.K fd ps ds)(hd:Vals dvs ds)(hx:z1D CX X E)
  (I:Inv X pins σ H s) (r:Vals vs us) (h:sp (vs++dvs) H Q E):wpAny (model X.prog X.w) X.A (call (.ref f) us) (EP X pins σ Q) X.xe s:=by
 have r2:Vals (vs++dvs) (us++ds):=r.append hd;have hl:(us++ds).length=ps.length:=by rw[<- r2.length]; exact F.len _ _ _ _ h
 refine wpAny_call (uq (F.run X.A X.stack s H ⟨us,[]⟩ (us++ds) (vs++dvs) Q E hr I.env0 (hb s us I.kIn hl) r2 h) λr s' hq =>?_)
 cases r with
 | error e=>exact hx pins σ H s e s' I hq
 | ok fl=>
  cases fl with
  | ret u=>exact I.after hq
  | next=>exact False.elim hq
  | brk=>exact False.elim hq
  | cont=>exact False.elim hq
def zf9 (F:FnOk X.prog X.w X.K X.mg X.base CX k f fd ps sp)(hr:Room k X.A)(hg:Gl X x)(hm:X.mg x=some (.ref f))(hk:PySem.W.keepIn X.K (.ref f)=true)(hb:z3i X.K fd ps ds)(hd:Vals dvs ds)(hx:z1D CX X E)
  (ha:PA X (e::es) t) (hdb:(x == ("__debug__":Str))=false:=by decide) (he:starEach (e::es) X.env=(false,eval e X.env)::starEach es X.env:=by rfl) (hpl:(backTo pos (starEach es X.env)).any (·.1)=false:=by rfl):
  PE X (.Call (.Name x p) (e::es) [] pos) (zcp sp dvs E t):=by
 intro pins s σ H Q I h;refine vT (z4S I hg hm ?_ hdb);refine ug (h₀:=X.base) I.ok.mod.kin hk (thn (ha pos pins s σ H _ I h) λus s1 ⟨vs,H1,I1,r,q⟩=>⟨I1.kIn,?_⟩) he hpl;exact zaK F hr hb hd hx I1 r q
def zbd {pl:Sem Bool}(he:PE X o ta)(c:Cls X.K C)(hm:Meth X.K C m f)(F:FnOk X.prog X.w X.K X.mg X.base CX k f fd ps sp)(hr:Room k X.A)(hb:z3i X.K fd ps ds)(hd:Vals dvs ds)(hx:z1D CX X E)(ha:PA X (e::es) t)
  (hst:starEach (e::es) X.env=(false,eval e X.env)::starEach es X.env:=by rfl) (hpl:(backTo pos (starEach es X.env)).any (·.1)=false:=by rfl)
  (ht:eval (.Call (.Attribute o m apos) (e::es) [] pos) X.env=(do
   let ov <- eval o X.env
   standAt apos.atName
   let (f,first) <- holding [ov] (getMethod ov m pl)
   callWith pos f first (backTo pos (starEach (e::es) X.env)) (backToKw pos (keywordEach [] X.env))):=by rfl):
  PE X (.Call (.Attribute o m apos) (e::es) [] pos) (zek C m sp dvs E ta t):=by
 intro pins s σ H Q I h;refine PySem.W.methodCall_KW (pl:=pl) (thn (he pins s σ H _ I h) λu s1 ⟨x,H1,I1,rx,a,dx,fs,ex,ea,l,q⟩ =>?_) ht;subst ex;obtain rfl:u=Value.ref a:=rx;refine z4U I1 ea c hm l ?_;refine ug (first:=[.ref a]) (h₀:=X.base) I.ok.mod.kin hm.kp (thn (ha pos pins s1 σ H1 _ I1 q) λus s2 ⟨vs,H2,I2,r,q2⟩=>⟨I2.kIn,?_⟩) hst hpl;exact zaK (us :=.ref a::us) (vs :=.ref a::vs) F hr hb hd hx I2 (.cons rfl r) q2
def zcW {pl:Sem Bool}(he:PE X o ta)(c:Cls X.K C)(hm:Meth X.K C m f)(F:FnOk X.prog X.w X.K X.mg X.base CX k f fd ps sp)(hr:Room k X.A)(hb:z3i X.K fd ps ds)(hd:Vals dvs ds)(hx:z1D CX X E)
  (ht:eval (.Call (.Attribute o m apos) [] [] pos) X.env=(do
   let ov <- eval o X.env
   standAt apos.atName
   let (f,first) <- holding [ov] (getMethod ov m pl)
   callWith pos f first (backTo pos (starEach [] X.env)) (backToKw pos (keywordEach [] X.env))):=by rfl):
  PE X (.Call (.Attribute o m apos) [] [] pos) (zek C m sp dvs E ta tNil):=by
 intro pins s σ H Q I h;refine PySem.W.methodCall_KW (pl:=pl) (thn (he pins s σ H _ I h) λu s1 ⟨x,H1,I1,rx,a,dx,fs,ex,ea,l,q⟩ =>?_) ht;subst ex;obtain rfl:u=Value.ref a:=rx;refine z4U I1 ea c hm l ?_;exact PySem.W.callWith_K0 (first:=[.ref a]) I1.kIn hm.kp (zaK (us:=[.ref a]) (vs:=[.ref a]) F hr hb hd hx I1 (.cons rfl .nil) q)
structure Mk (K:W.Frag)(C f:Addr):Prop where
 makes:PySem.W.makesIn K C=true
 init:PySem.W.findIn K (.ref C) "__init__"=some (some (.ref f))
 fn:PySem.W.isFn K (.ref f)=true
 kp:PySem.W.keepIn K (.ref C)=true
def zcw {pins:List (Addr × Obj)}{σ:St}{H:Hp}{s:Shared}{Q:VK}{us:List Value}{vs:List V}(M:Mk X.K C f)(F:FnOk X.prog X.w X.K X.mg X.base CX k f fd ps sp)(hr:Room (k+1) X.A)(hb:z3i X.K fd ps ds)(hd:Vals dvs ds)
  (hx:z1D CX X E) (I:Inv X pins σ H s) (r:Vals vs us)
  (h:∀x dx,H x=none->H dx=none->dx≠x->sp (.ref x::(vs++dvs)) (upd (upd H dx (.own x)) x (.ins C dx [])) (λv H2=>v = .non/\Q (.ref x) H2) E):
  wpAny (model X.prog X.w) X.A (call (.ref C) us) (EP X pins σ Q) X.xe s:=by
 have hq:=h (s.heap.objs.size+1) s.heap.objs.size (I.hok.fresh (Nat.le_succ _)) (I.hok.fresh (wc _)) (wD (Nat.lt_succ_self _));have I2:=Inv.made (C:=C) I;have r2:Vals (V.ref (s.heap.objs.size+1)::(vs++dvs)) (Value.ref (s.heap.objs.size+1)::(us++ds)) :=.cons rfl (r.append hd);have hl:(Value.ref (s.heap.objs.size+1)::us++ds).length=ps.length:=by
  have e:=r2.length;rw[F.len _ _ _ _ hq] at e;exact e.symm
 refine wpAny_call (zde (f:=f) I.kIn M.makes M.init (vE.mp M.fn) (uq (F.run _ X.stack _ _ ⟨Value.ref (s.heap.objs.size+1)::us,[]⟩ (Value.ref (s.heap.objs.size+1)::(us++ds)) _ _ E (hr.make C us [])
  (I2.env0.make C us []) (hb _ (Value.ref (s.heap.objs.size+1)::us) I2.kIn hl) r2 hq) λr s' hq' =>?_))
 cases r with
 | error e=>exact hx pins σ _ _ e s' I2 hq'
 | ok fl=>
  cases fl with
  | ret u=>
   obtain⟨v,H',I3,rv,ev,q3⟩:=I2.after hq';subst ev;exact⟨rv,⟨V.ref (s.heap.objs.size+1),H',I3,rfl,q3⟩⟩
  | next=>exact False.elim hq'
  | brk=>exact False.elim hq'
  | cont=>exact False.elim hq'
def zcX (M:Mk X.K C f)(F:FnOk X.prog X.w X.K X.mg X.base CX k f fd ps sp)(hr:Room (k+1) X.A)(hg:Gl X x)(hm:X.mg x=some (.ref C))(hb:z3i X.K fd ps ds)(hd:Vals dvs ds)(hx:z1D CX X E)
  (hdb:(x == ("__debug__":Str))=false:=by decide):PE X (.Call (.Name x p) [] [] pos) (zfM C sp dvs E tNil):=by
 intro pins s σ H Q I h;refine vT (z4S I hg hm ?_ hdb);exact PySem.W.callWith_K0 I.kIn M.kp (zcw (us:=[]) M F hr hb hd hx I .nil h)
end
def PK (X:Cx)(kws:List Keyword)(t:TA):Prop:=
 ∀(pos:Pos) (pins:List (Addr × Obj)) (s:Shared) (σ:St) (H:Hp) (Q:List V->Hp->Prop),Inv X pins σ H s->t σ H Q->wpAny (model X.prog X.w) X.A (evalAll ((backToKw pos (keywordEach kws X.env)).map (·.2))) (AP X pins σ Q) X.xe s
structure z0i (N P:List Str)(sc:Scope):Prop where
 kind:sc.kind = .function
 co:sc.isCoroutine=false
 gen:sc.isGenerator=false
 nd:N.Nodup
 pre:N.take P.length=P
 par:∀x∈P,sc.names.lookup x=some .local\/sc.names.lookup x=some .cell
 nofree:∀y∈sc.names,y.2 ≠ .free
theorem z7V {kindOf:Str->Option NameKind}{x:Str}:∀{binds:List (Str × Value)}{m:Str->Option Value},(∀v,(x,v) ∉ binds)->bindL kindOf binds m x=m x
 | [],_,_=>rfl
 | (n,v)::r,m,h=>by
  unfold bindL;rw[z7V λw hw=>h w (wj _ hw)]
  split
  ·have:x≠n:=by rintro rfl; exact h v wt
   simp[this]
  ·rfl
theorem z7X {kindOf:Str->Option NameKind}{x:Str}:∀{binds:List (Str × Value)}{m:Str->Option Value},(∀v,(x,v) ∉ binds)->bindC kindOf binds m x=m x
 | [],_,_=>rfl
 | (n,v)::r,m,h=>by
  unfold bindC;rw[z7X λw hw=>h w (wj _ hw)]
  split
  ·rfl
  ·have:x≠n:=by rintro rfl; exact h v wt
   simp[this]
theorem z7W {kindOf:Str->Option NameKind}{x:Str}{v:Value}:∀{P:List Str}{vs:List Value}{i:Nat}{m:Str->Option Value},P.Nodup->P[i]? = some x->vs[i]? = some v->kindOf x=some .local->
  bindL kindOf (P.zip vs) m x=some v
 | [],_,_,_,_,h,_,_=>by simp at h
 | _::_,[],_,_,_,_,h,_=>by simp at h
 | p::P,w::vs,0,m,nd,h1,h2,hk=>by
  simp at h1 h2; subst h1; subst h2;show bindL kindOf ((p,w)::P.zip vs) m p=_;unfold bindL;rw[z7V λv hv=>(ve.mp nd).1 (List.of_mem_zip hv).1,if_pos hk];simp
 | p::P,w::vs,i+1,m,nd,h1,h2,hk=>by
  show bindL kindOf ((p,w)::P.zip vs) m x=_;unfold bindL;exact z7W (i:=i) (ve.mp nd).2 (by simpa using h1) (by simpa using h2) hk
theorem z7Y {kindOf:Str->Option NameKind}{x:Str}{v:Value}:∀{P:List Str}{vs:List Value}{i:Nat}{m:Str->Option Value},P.Nodup->P[i]? = some x->vs[i]? = some v->kindOf x≠some .local->
  bindC kindOf (P.zip vs) m x=some v
 | [],_,_,_,_,h,_,_=>by simp at h
 | _::_,[],_,_,_,_,h,_=>by simp at h
 | p::P,w::vs,0,m,nd,h1,h2,hk=>by
  simp at h1 h2; subst h1; subst h2;show bindC kindOf ((p,w)::P.zip vs) m p=_;unfold bindC;rw[z7X λv hv=>(ve.mp nd).1 (List.of_mem_zip hv).1,if_neg hk];simp
 | p::P,w::vs,i+1,m,nd,h1,h2,hk=>by
  show bindC kindOf ((p,w)::P.zip vs) m x=_;unfold bindC;exact z7Y (i:=i) (ve.mp nd).2 (by simpa using h1) (by simpa using h2) hk
def z3V (N:List Str)(vs:List V):St:=vs.map some++List.replicate (N.length - vs.length) none
def cxOf (CX:CXT)(P:Program)(w:World)(K:W.Frag)(mg:Str->Option Value)(base:Heap)(N:List Str)(qual:Str)(scope:Scope)(f:Addr)(cd:Value)(A:Around)(outer:List Env)(s:Shared)(H:Hp)(E:XK):Cx where
 prog:=P
 w:=w
 K:=K
 mg:=mg
 base:=base
 A:=A.deeper (envOfC qual scope s.heap.objs.size f cd)
 N:=N
 s₀:=s
 H₀:=H
 env:=envOfC qual scope s.heap.objs.size f cd
 outer:=outer
 stack:=envOfC qual scope s.heap.objs.size f cd::outer
 ex:=[]
 calm:=true
 fn:=λ_=>true
 pn:=[]
 xe:=λe s'=>wpAny (model P w) (A.deeper (envOfC qual scope s.heap.objs.size f cd)) (leaving (envOfC qual scope s.heap.objs.size f cd) e) (λ_ s''=>CX outer H s E e s'') (λe' s''=>CX outer H s E e' s'') s'
def z9u {sc:Scope}{n:Nat}{x:Str}(h:sc.names.lookup x=some .cell):∃c,(cellsFrom n sc.names []).lookup x=some c:=by
 have q:=PySem.W.cellsFrom_some sc.names n [] (.inl h);exact vF.mp q
def z7H {CX:CXT}{P:Program}{w:World}{K:W.Frag}{mg:Str->Option Value}{base:Heap}{N ps:List Str}{qual:Str}{scope:Scope}{f:Addr}{cd:Value}{A:Around}{outer:List Env}{s s1:Shared}{H:Hp}{E:XK}{us:List Value}{vs:List V}
  (S:z0i N ps scope) (hd:A.handled=none) (e0:Env0 P w K mg base A outer s H) (hl:vs.length=ps.length) (r:Vals vs us)
  (x:InCallC s s.heap.objs.size (bindL (envOfC qual scope s.heap.objs.size f cd).kindOf (ps.zip us) λ_=>none) (cellsFrom (s.heap.objs.size+1) scope.names []) (bindC (envOfC qual scope s.heap.objs.size f cd).kindOf (ps.zip us) λ_=>none) s1):
  Inv (cxOf CX P w K mg base N qual scope f cd A outer s H E) [] (z3V N vs) H s1:=by
 have hpl:ps.length<=N.length:=by have:=congrArg List.length S.pre; rw[v9] at this; lia
 obtain⟨h1,tk,rfl,hk⟩:=x.done;have noA:∀b:Addr,b ∉ (cxOf CX P w K mg base N qual scope f cd A outer s H E).ex:=λb z=>absurd (show b∈([]:List Addr) from z) (by simp);refine⟨⟨e0.mod,S.kind,rfl,rfl,wc _,λy z c h1 h2 =>?_,λy hy =>?_,λy c _ h =>?_,λ_=>hd,Around.frames_deeper e0.frames,.inr ⟨rfl,rfl⟩,λb z=>absurd z (noA b),e0.bs,e0.bsz,λb _ _=>noA b,λb z=>absurd z (noA b),e0.funs,e0.frf,e0.tbs⟩,
  rfl,e0.bare,Un.kept hk,⟨_,x.toInCall.ns,λi y v h1 h2 h3 =>?_⟩,λy c h=>⟨_,x.cell y c h⟩,e0.hok.fresh (wc _),λy c h =>?_,λp hp=>absurd (show p∈([]:List (Addr × Obj)) from hp) (by simp),e0.hok.kept hk,?_⟩
 ·exact name_of_addr x.apart (vL h1) (vL h2)
 ·have hy:scope.names.lookup y=some .cell\/scope.names.lookup y=some .free:=hy
  rcases hy with hy | hy
  ·exact z9u hy
  ·exact absurd rfl (S.nofree _ (vL hy))
 ·exact vI (x.above y c (vL h))
 ·have hi:i<vs.length:=by
   unfold z3V at h2
   by_cases hi:i<vs.length
   ·exact hi
   ·rw[vt (by simpa using hi)] at h2;rw[vM] at h2
    split at h2 <;> cases h2
  have ha:vs[i]? = some v:=by
   unfold z3V at h2;rw[vn (by simpa using hi),wI] at h2
   cases e:vs[i]? with
   | none=>rw[e] at h2; cases h2
   | some a=>rw[e] at h2; cases h2; rfl
  obtain⟨u,hu,rv⟩:=r.get ha;have hp:ps[i]? = some y:=by
   rw[<- S.pre,List.getElem?_take_of_lt (by lia)]; exact h1
  have ndP:ps.Nodup:=by rw[<- S.pre]; exact S.nd.sublist (List.take_sublist _ _)
  refine⟨u,rv,?_⟩
  rcases S.par y (wP hp) with k | k
  ·exact .inl ⟨k,z7W ndP hp hu k⟩
  ·obtain⟨c,e⟩:=z9u (n:=s.heap.objs.size+1) k;refine .inr ⟨.inl k,c,e,?_⟩;have q:=x.cell y c e;rw[z7Y ndP hp hu (by show scope.names.lookup y≠_; rw[k]; decide)] at q;exact q
 ·exact e0.hok.fresh (vI (x.above y c (vL h)))
 ·unfold z3V;show _=N.length;rw[wG,wA,wZ];lia
def zi3 {CX:CXT}{P:Program}{w:World}{K:W.Frag}{mg:Str->Option Value}{base:Heap}{k:Nat}{f:Addr}{name qual:Str}{params:Arguments}{body:List Stmt}{scope:Scope}{dV kV doc pm cdv ct oc:Value}{an od:Option Addr}
  {osl:Array (Option Value)}{N ps:List Str}{sp:Sp}(lk:K.lookup f=some ⟨oc,od,.func (PySem.W.fnOf name qual params body scope dV kV doc pm an cdv ct),osl⟩) (hcd:PySem.W.codeIn K cdv qual=true) (S:z0i N ps scope)
  (len:∀vs H Q E,sp vs H Q E->vs.length=ps.length)
  (hbody:∀(A:Around) (outer:List Env) (s:Shared) (H:Hp) (vs:List V) (Q:VK) (E:XK),Room k (A.deeper (envOfC qual scope s.heap.objs.size f cdv))->sp vs H Q E->
   ∃t,PSs (cxOf CX P w K mg base N qual scope f cdv A outer s H E) body t/\t { nx:=λ_ H'=>Q .non H',rt:=Q } (z3V N vs) H):
  FnOk P w K mg base CX (k+1) f (PySem.W.fnOf name qual params body scope dV kV doc pm an cdv ct) ps sp:=by
 refine⟨len,λA outer s H args us vs Q E hr e0 hb r hsp =>?_⟩;have hl:=len _ _ _ _ hsp;have KX:K.In s.heap:=e0.mod.kin.keeps λb o e=>(e0.bs b o e).1;have lim:s.heap.NoLimit:=e0.mod.nolimit.keeps λb o e=>(e0.bs b o e).1;have hkind:∀y∈ps.zip us,scope.names.lookup y.1=some .local\/(scope.names.lookup y.1=some .cell/\((cellsFrom (s.heap.objs.size+1) scope.names []).lookup y.1).isSome=true):=λ⟨n,v⟩ hy=>by
  rcases S.par n (List.of_mem_zip hy).1 with q | q
  ·exact .inl q
  ·exact .inr ⟨q,PySem.W.cellsFrom_some _ _ _ (.inl q)⟩
 refine codeAny_call_function hr.depth (KX _ _ lk) rfl S.co S.gen rfl (PySem.W.codeRec_of KX hcd) (hb _ _ _ _ ?_);refine wpAny_newFunctionEnv_cells S.kind hkind λenv he s1 x =>?_;subst he;refine⟨lim.keeps x.toInCall.keep,codeAny_func ?_⟩;obtain⟨t,ht,hq⟩:=hbody A outer s H vs Q E (hr.deeper _) hsp;have I:Inv (cxOf CX P w K mg base N qual scope f cdv A outer s H E) [] (z3V N vs) H s1:=z7H S hr.hd e0 hl r x;refine wK (ht [] s1 (z3V N vs) H _ I hq) (λfl s' hs =>?_) λe s' hs=>hs;have fin:∀{σ':St}{H':Hp}{v:V}{u:Value},Inv (cxOf CX P w K mg base N qual scope f cdv A outer s H E) [] σ' H' s'->RelV v u->Q v H'->CE outer P w H s Q u s':=
  λ{σ' H' v u} J rv q=>⟨v,H',J.os,J.bare,J.base,J.hok,rv,q⟩
 cases fl with
 | ret u=>
  obtain⟨v,σ',H',J,rv,q⟩:=hs;exact fin J rv q
 | next=>
  obtain⟨σ',H',J,q⟩:=hs;exact fin (v:=V.non) (u:=Value.none) J rfl q
 | brk=>
  obtain⟨_,_,_,q⟩:=hs;exact False.elim q
 | cont=>
  obtain⟨_,_,_,q⟩:=hs;exact False.elim q
section
variable {X:Cx}{x:Str}{p pos:Pos}{e:Expr}{es:List Expr}{t:TA}{id T:String}{r:List V->Hp->VK->Prop}
def tCB (r:List V->Hp->VK->Prop)(t:TA):TE:=λσ H Q=>t σ H λvs H1=>r vs H1 Q
def zd0 (hc:z1v X (.builtin id) r)(hg:Gl X x)(hm:X.mg x=none)(hv:bootBuiltins x=some (.builtin id))(ha:PA X (e::es) t)(hn:x≠"__name__":=by decide)(hdb:(x == ("__debug__":Str))=false:=by decide)
  (he:starEach (e::es) X.env=(false,eval e X.env)::starEach es X.env:=by rfl) (hpl:(backTo pos (starEach es X.env)).any (·.1)=false:=by rfl):PE X (.Call (.Name x p) (e::es) [] pos) (tCB r t):=by
 intro pins s σ H Q I h;refine vT (z9k I hg hm hv ?_ hn hdb);exact PyProof.Rows.callWith_builtin1 (thn (ha pos pins s σ H _ I h) λus s1 ⟨vs,H1,I1,r1,q1⟩=>hc pins s1 σ H1 vs us Q I1 r1 q1) he hpl
def zbe (hc:z1v X (.type T) r)(hg:Gl X x)(hm:X.mg x=none)(hv:bootBuiltins x=some (.type T))(ha:PA X (e::es) t)(hn:x≠"__name__":=by decide)(hdb:(x == ("__debug__":Str))=false:=by decide)
  (he:starEach (e::es) X.env=(false,eval e X.env)::starEach es X.env:=by rfl) (hpl:(backTo pos (starEach es X.env)).any (·.1)=false:=by rfl):PE X (.Call (.Name x p) (e::es) [] pos) (tCB r t):=by
 intro pins s σ H Q I h;refine vT (z9k I hg hm hv ?_ hn hdb);exact PyProof.Rows.callWith_type1 (thn (ha pos pins s σ H _ I h) λus s1 ⟨vs,H1,I1,r1,q1⟩=>hc pins s1 σ H1 vs us Q I1 r1 q1) he hpl
end
end L2
namespace HT
open PySem PyProof.Rows
def z0N:List Int->List Int->Bool
 | [],[]=>false
 | [],_::_=>true
 | _::_,[]=>false
 | x::xs,y::ys=>if x=y then z0N xs ys else decide (x<y)
def z29 (x y:Int)(xs ys:List Int):z0N (x::xs) (y::ys)=if x=y then z0N xs ys else decide (x<y):=rfl
def z3d:z0N [] []=false:=rfl
def z2X (y:Int)(ys:List Int):z0N [] (y::ys)=true:=rfl
def z2Y (x:Int)(xs:List Int):z0N (x::xs) []=false:=rfl
def z73 (A:Around)(s:Shared)(a:Int)(t:Tok)(c:Int)(u:Tok):∃e,SeqAt.EqAt A s (.int a t) (.int c u) e/\(e=true↔a=c):=
 ⟨(a == c),SeqAt.EqAt.int_int a t c u,by simp⟩
def zcx (A:Around)(s:Shared)(a:Int)(t:Tok)(c:Int)(u:Tok)(prog:Program)(w:World)(E:Value->Shared->Prop)(Q:Value->Shared->Prop)(h:Q (.bool (decide (a<c))) s):
  wpAny (model prog w) A (richCompare .Lt (.int a t) (.int c u)) Q E s:=
 (PyProof.Rows.lt_int h:wpAny (model prog w) A (compareOp .Lt (.int a t) (.int c u)) Q E s)
section
open PySem.SeqAt
open PySem.AutoSeq1 (wpAny_loadPart')
open PySem.MeetsSeq PySem.MeetsSeq2 PySem.MeetsSeq3
def z6A (l b:Addr)(z08 items2:Array Value)(n n2:Nat)(dd dd2:Option Addr)(sl sl2:Array (Option Value))(ns ms:List Int)(hi:IntsAre z08.toList ns)(hj:IntsAre items2.toList ms):
  Meets (Builtin.«tuple.__lt__» ⟨[.ref l,.ref b],[]⟩)
   (λ_ R s=>s.heap.get? l=some { cls :=.type "tuple",dict:=dd,data :=.seq z08 n,slots:=sl }/\s.heap.get? b=some { cls :=.type "tuple",dict:=dd2,data :=.seq items2 n2,slots:=sl2 }/\
    R (.ok (.ret (.bool (z0N ns ms)))) s):=
 .of_wp λprog w A R s h=>by
  obtain⟨hp,g,d,tk,os⟩:=s; obtain⟨hl,hb,h⟩:=h;have f2:=AutoSeq1.sub_tuple_tuple;have z1:z08.size=ns.length:=by rw[<- hi.length]; simp
  have z2:items2.size=ms.length:=by rw[<- hj.length]; simp
  wp_walk using vz hl,vz hb,wpAny_forIn_list _ (λrest b s'=>b.1=none/\s'=⟨hp,g,d,tk,os⟩/\∃(vs ws:List Value) (ns' ms':List Int),rest=vs.zip ws/\
   IntsAre vs ns'/\IntsAre ws ms'/\ns'.length+items2.size=ms'.length+z08.size/\R (.ok (.ret (.bool (z0N ns' ms')))) ⟨hp,g,d,tk,os⟩) _
  case turn=>
   rintro⟨y,x⟩ rest b s' ⟨hb',rfl,vs,ws,ns',ms',hz,hvi,hwi,hlen,hR⟩
   cases hvi with
   | nil=>rw[List.zip_nil_left] at hz; cases hz
   | cons a t hvi'=>
    cases hwi with
    | nil=>rw[List.zip_nil_right] at hz; cases hz
    | cons c u hwi'=>
     rw[vm] at hz
     injection hz with hyx hrest
     injection hyx with hy hx
     subst hy hx;rw[z29] at hR;simp only[wC] at hlen;obtain⟨e,he,hiff⟩:=z73 A.in1 ⟨hp,g,d,tk,os⟩ a t c u;refine wa (he prog w _ _ ?_)
     cases e with
     | true=>
      rw[if_pos (hiff.mp rfl)] at hR
      wp_walk
      exact⟨rfl,rfl,_,_,_,_,hrest,hvi',hwi',by lia,hR⟩
     | false=>
      rw[if_neg (λq=>absurd (hiff.mpr q) wF)] at hR;have hri:=zcx A.in1 ⟨hp,g,d,tk,os⟩ a t c u prog w
      wp_walk using hri
      exact⟨_,rfl,by simpa using hR⟩
  case fin=>
   rintro⟨b1,b2⟩ s' ⟨hb',rfl,vs,ws,ns',ms',hz,hvi,hwi,hlen,hR⟩;simp only at hb';subst hb';have hv:z0N ns' ms'=decide (z08.size<items2.size):=by
    cases hvi with
    | nil=>
     cases hwi with
     | nil=>
      simp only[va] at hlen;rw[z3d];exact(wB (by lia)).symm
     | cons c u hw=>
      simp only[va,wC] at hlen;rw[z2X];exact(wH (by lia)).symm
    | cons a t hv=>
     cases hwi with
     | nil=>
      simp only[va,wC] at hlen;rw[z2Y];exact(wB (by lia)).symm
     | cons c u hw=>
      rw[vm] at hz
      cases hz
   rw[hv] at hR
   wp_walk
   exact⟨_,rfl,by simpa[Builtin.Tuple.tupleCompareSizes] using hR⟩
  case h=>
   exact⟨rfl,rfl,z08.toList,items2.toList,ns,ms,rfl,hi,hj,by lia,h⟩
end
section
variable {prog:Program}{w:World}{A:Around}{E:Value->Shared->Prop}{s:Shared}
def z9T {l b:Addr}{z08 items2:Array Value}{ns ms:List Int}{Q:Value->Shared->Prop}(hl:IsTup s.heap l z08)(hb:IsTup s.heap b items2)(hi:IntsAre z08.toList ns)(hj:IntsAre items2.toList ms)
  (hu:A.units<cLine) (h:Q (.bool (z0N ns ms)) s):wpAny (model prog w) A (compareOp .Lt (.ref l) (.ref b)) Q E s:=by
 obtain⟨⟨cls,dd,data,sl⟩,ho,hc,n,hd⟩:=id hl;obtain⟨⟨cls2,dd2,data2,sl2⟩,ho2,hc2,n2,hd2⟩:=id hb;simp only at hc hd hc2 hd2;subst hc hd hc2 hd2;exact richCompare_meets_room (op :=.Lt) ⟨_,ho,rfl⟩ ⟨_,ho2,rfl⟩ PySem.F.slot_tuple_lt PySem.F.entry_tuple_lt (PySem.F.args_tuple_lt_2 _ _) (z6A l b z08 items2 n n2 dd dd2 sl sl2 ns ms hi hj)
  ⟨ho,ho2,show Value.bool (z0N ns ms)≠Value.notImplemented/\Q (.bool (z0N ns ms)) s from ⟨(λx=>nomatch x),h⟩⟩ hu
def zfw {t b:Addr}{vs ws:List Value}{Q:Value->Shared->Prop}(ht:IsTup s.heap t vs.toArray)(hb:IsTup s.heap b ws.toArray)(hv:vs≠[])
  (h1:ws=[]->Q (.ref t) s) (h2:ws≠[]->Q (.ref s.heap.objs.size) { s with heap:=s.heap.push { cls :=.type "tuple",data :=.seq (vs++ws).toArray } })
  (hsz:vs.length+ws.length<=sizeLine):wpAny (model prog w) A (binaryOp .Add (.ref t) (.ref b)) Q E s:=by
 obtain⟨⟨cls,dd,data,sl⟩,ho,hc,n,hd⟩:=id ht;obtain⟨⟨cls2,dd2,data2,sl2⟩,ho2,hc2,n2,hd2⟩:=id hb;simp only at hc hd hc2 hd2;subst hc hd hc2 hd2;have e:vs.toArray++ws.toArray=(vs++ws).toArray:=by simp
 by_cases hw:ws=[]
 ·exact concat_meets ⟨_,ho,rfl⟩ ⟨_,ho2,rfl⟩ noFill_tuple_add seq_tuple_add PySem.F.slot_tuple_add PySem.F.entry_tuple_add (PySem.F.args_tuple_add_2 _ _)
   (tuple_addW1 t b vs.toArray ws.toArray n n2 dd dd2 sl sl2 (by simpa using hv) (by simp[hw])) ⟨ho,ho2,h1 hw⟩
 ·refine concat_meets ⟨_,ho,rfl⟩ ⟨_,ho2,rfl⟩ noFill_tuple_add seq_tuple_add PySem.F.slot_tuple_add PySem.F.entry_tuple_add (PySem.F.args_tuple_add_2 _ _)
   (tuple_addW2 t b vs.toArray ws.toArray n n2 dd dd2 sl sl2 (by simpa using hv) (by simpa using hw) (by rw[wv,wv]; exact hsz)) ⟨ho,ho2,?_⟩
  rw[e];exact h2 hw
def sIx (n d:Nat):Option Int->Nat
 | none=>d
 | some v=>if v<0 then (v+(n:Int)).toNat else min v.toNat n
def zg9 (n d:Nat)(hd:d<=n)(o:Option Int):sIx n d o<=n:=by
 cases o with
 | none=>exact hd
 | some v=>
  show (if v<0 then (v+(n:Int)).toNat else min v.toNat n)<=n
  by_cases hv:v<0
  ·rw[if_pos hv]; lia
  ·rw[if_neg hv]; exact Nat.min_le_right _ _
def zca (v:Int)(n d:Nat):(if v<0 then max (v+(n:Int)) 0 else min v (n:Int))=((sIx n d (some v):Nat):Int):=by
 show (if v<0 then max (v+(n:Int)) 0 else min v (n:Int))=(((if v<0 then (v+(n:Int)).toNat else min v.toNat n):Nat):Int)
 by_cases hv:v<0
 ·simp only[if_pos hv]; lia
 ·simp only[if_neg hv]; lia
def zaa (lo hi:Option Int)(n:Nat):Builtin.Slice.sliceAdjust lo hi 1 (n:Int)=(((sIx n 0 lo:Nat):Int),((sIx n n hi:Nat):Int)):=by
 have h1:¬ ((1:Int)<0):=by lia
 unfold Builtin.Slice.sliceAdjust;simp only[h1,uo];refine Prod.ext ?_ ?_
 ·cases lo with
  | none=>rfl
  | some v=>exact zca v n 0
 ·cases hi with
  | none=>rfl
  | some v=>exact zca v n n
def z9H (i j:Nat):Builtin.Slice.slicePlaces (i:Int) (j:Int) 1=j - i:=by
 unfold Builtin.Slice.slicePlaces;have h1:(1:Int) > 0:=by lia
 simp only[h1,uh,Int.ediv_one]
 split <;> lia
def z6j {v:Value}{o:Option Int}{Q:Option Int->Shared->Prop}(p:IsPart v o)(h:Q o s):wpAny (model prog w) A (Builtin.Slice.slicePartIndex v) Q E s:=by
 cases p with
 | none=>exact slicePart_none h
 | int i t=>exact slicePart_int h
def z3j {sl:Addr}{vl vu:Value}{lo hi:Option Int}{n:Nat}{Q:Int × Int × Nat->Shared->Prop}(hs:s.heap.IsSliceOf sl vl vu .none)(pl:IsPart vl lo)(pu:IsPart vu hi)
  (h:Q (((sIx n 0 lo:Nat):Int),1,sIx n n hi - sIx n 0 lo) s):wpAny (model prog w) A (Builtin.Slice.sliceApplied (.ref sl) (pure (n:Int))) Q E s:=by
 obtain⟨os,hos,hcs,hds⟩:=id hs;unfold Builtin.Slice.sliceApplied Builtin.Slice.sliceFields;refine wa (wa (wpAny_field hos hds (x:=vl) rfl (wa (wpAny_field hos hds (x:=vu) rfl (wa (wpAny_field hos hds (x :=.none) rfl (wf ?_)))))));refine wa (slicePart_none ?_);show wpAny _ _ (if ((1:Int) == 0)=true then _ else _) _ _ s;rw[if_neg (by decide)];refine wa (z6j pl (wa (z6j pu (wa (wf ?_)))));show wpAny _ _ (match Builtin.Slice.sliceAdjust lo hi 1 (n:Int) with | (lo,hi)=>pure (lo,(1:Int),Builtin.Slice.slicePlaces lo hi 1)) _ _ s;rw[zaa lo hi n];show wpAny _ _ (pure (((sIx n 0 lo:Nat):Int),(1:Int),Builtin.Slice.slicePlaces ((sIx n 0 lo:Nat):Int) ((sIx n n hi:Nat):Int) 1)) _ _ s;rw[z9H];exact wf h
def zcS (xs:Array Value)(i k:Nat):((List.range k).filterMap λ(m:Nat)=>xs[((i:Int)+(m:Int)*1).toNat]?).toArray=((xs.toList.drop i).take k).toArray:=by
 have e:(λ(m:Nat)=>xs[((i:Int)+(m:Int)*1).toNat]?)=λm=>xs[i+m]? := by
  funext m
  have:((i:Int)+(m:Int)*1).toNat=i+m:=by lia
  rw[this]
 rw[e];have:=pick_run xs i k;rw[List.filterMap_map] at this;have e2:((λx=>xs[x]?) ∘ λx=>i+x)=λm=>xs[i+m]? := rfl;rw[e2] at this;rw[this]
def z4V {t sl:Addr}{z08:Array Value}{vl vu:Value}{lo hi:Option Int}{Q:Value->Shared->Prop}(ht:IsTup s.heap t z08)(hs:s.heap.IsSliceOf sl vl vu .none)(pl:IsPart vl lo)(pu:IsPart vu hi)
  (hw:¬ (sIx z08.size 0 lo=0/\sIx z08.size z08.size hi=z08.size))
  (h:Q (.ref s.heap.objs.size) { s with heap:=s.heap.push { cls :=.type "tuple",data :=.seq ((z08.toList.drop (sIx z08.size 0 lo)).take (sIx z08.size z08.size hi - sIx z08.size 0 lo)).toArray } })
  (hsz:z08.size<=sizeLine):wpAny (model prog w) A (getItem (.ref t) (.ref sl)) Q E s:=by
 have htake:sizeOk (.seq ((z08.toList.drop (sIx z08.size 0 lo)).take (sIx z08.size z08.size hi - sIx z08.size 0 lo)).toArray):=by
  show ((z08.toList.drop (sIx z08.size 0 lo)).take (sIx z08.size z08.size hi - sIx z08.size 0 lo)).toArray.size<=sizeLine;rw[wv,v9,List.length_drop,wL];lia
 have hj:sIx z08.size z08.size hi<=z08.size:=zg9 _ _ (wc _) hi;obtain⟨os,hos,hcs,hds⟩:=id hs;have hTs:s.TypeIs (.ref sl) "slice":=⟨os,hos,hcs⟩
 unfold getItem
 try with_reducible refine vj ?_
 first | refine wa (wf ?_) | skip
 refine wa (wpAny_sequenceKey ht.typeIs (by decide) ?_);refine wa (wpAny_callSpecial?_slot (name:=Str.ofString "__getitem__") ht.typeIs wY
  (ua wY ht.typeIs entry_tuple_getitem ?_ (args_tuple_getitem _ _)))
 show wpAny _ _ (Builtin.Tuple.tupleItemsOf (.ref t) >>= _) _ _ s;refine wa (tupleItemsOf_ ht ?_);refine wa (wpAny_typeOf hTs ?_);rw[if_pos (by decide)];refine wa (z3j hs pl pu ?_);have hno:¬ ((((sIx z08.size 0 lo:Nat):Int) == 0 && (1:Int) == 1 && (sIx z08.size z08.size hi - sIx z08.size 0 lo) == z08.size)=true):=by
  intro q;rw[wM,wM] at q;have q1:((sIx z08.size 0 lo:Nat):Int)=0:=eq_of_beq q.1.1;have q2:sIx z08.size z08.size hi - sIx z08.size 0 lo=z08.size:=eq_of_beq q.2;exact hw ⟨by lia,by lia⟩
 show wpAny _ _ (if (((sIx z08.size 0 lo:Nat):Int) == 0 && (1:Int) == 1 && (sIx z08.size z08.size hi - sIx z08.size 0 lo) == z08.size)=true then _ else _) _ _ s;rw[if_neg hno,zcS]
 first
  | exact wa (m:=Builtin.Tuple.tupleExact _) (vb (wf ⟨_,rfl,wf h⟩) htake)
  | exact wa (m:=Builtin.Tuple.tupleExact _) (vb (wa (wf (wf ⟨_,rfl,wf h⟩))) htake)
  | exact wa (wa (m:=Builtin.Tuple.tupleExact _) (vb (wf (wf ⟨_,rfl,wf h⟩)) htake))
  | exact wa (wa (m:=Builtin.Tuple.tupleExact _) (vb (wf ⟨_,rfl,wf h⟩) htake))
end
end HT
namespace L2
open PySem PySem.Spec PyProof.Rows
abbrev TO:=St->Hp->(Option Int->Hp->Prop)->Prop
def PO (X:Cx)(e:Option Expr)(t:TO):Prop:=
 ∀(pins:List (Addr × Obj)) (s:Shared) (σ:St) (H:Hp) (Q:Option Int->Hp->Prop),Inv X pins σ H s->t σ H Q->
  wpAny (model X.prog X.w) X.A (evalPart e X.env) (λu s'=>∃o H',Inv X pins σ H' s'/\IsPart u o/\Q o H') X.xe s
def zaq:TO:=λ_ H Q=>Q none H
def zfK (t:TE):TO:=λσ H Q=>t σ H λx H1=>∃i,x = .int i/\Q (some i) H1
def z2v {ns:List Int}:∀{us:List Value},Vals (ns.map V.int) us->IntsAre us ns:=by
 induction ns with
 | nil=>intro us r; rw[vJ] at r; cases r; exact .nil
 | cons n ns ih=>
  intro us r;rw[wz] at r
  cases r with
  | cons r1 r2=>
   obtain⟨t,e⟩:=r1;subst e;exact .cons n t (ih r2)
section
variable {X:Cx}{e:Expr}{te:TE}{lo hi:Option Expr}{tl th:TO}{pos p2:Pos}
def zf2:PO X none zaq:=by
 intro pins s σ H Q I h;rw[evalPart_none];exact wf ⟨none,H,I,.none,h⟩
def zf1 (h:PE X e te):PO X (some e) (zfK te):=by
 intro pins s σ H Q I hw;rw[evalPart_some];refine thn (h pins s σ H _ I hw) λu s1 ⟨x,H1,I1,r1,q1⟩ =>?_;obtain⟨i,rfl,q⟩:=q1;obtain⟨t,rfl⟩:=r1;exact⟨some i,H1,I1,.int i t,q⟩
def SlR (X:Cx)(r:V->Option Int->Option Int->Hp->VK->Prop):Prop:=
 ∀(pins:List (Addr × Obj)) (s:Shared) (σ:St) (H:Hp) (x:V) (v vl vu:Value) (lo hi:Option Int) (sl:Addr) (Q:VK),Inv X pins σ H s->RelV x v->s.heap.IsSliceOf sl vl vu .none->IsPart vl lo->IsPart vu hi->r x lo hi H Q->
  ∃T id,typeLookup (.type T) "__getitem__"=pure (some (.builtin id))/\s.TypeIs v T/\wpAny (model X.prog X.w) X.A (getItem v (.ref sl)) (EP X pins σ Q) X.xe s
def SlR.or {r r':V->Option Int->Option Int->Hp->VK->Prop}(h:SlR X r)(h':SlR X r'):SlR X (λx lo hi H Q=>r x lo hi H Q\/r' x lo hi H Q):=by
 intro pins s σ H x v vl vu lo hi sl Q I rx hs pl pu q
 rcases q with q | q
 ·exact h pins s σ H x v vl vu lo hi sl Q I rx hs pl pu q
 ·exact h' pins s σ H x v vl vu lo hi sl Q I rx hs pl pu q
def tSl (r:V->Option Int->Option Int->Hp->VK->Prop)(te:TE)(tl th:TO):TE:=λσ H Q=>te σ H λx H1=>tl σ H1 λl H2=>th σ H2 λu H3=>r x l u H3 Q
def zcU {r:V->Option Int->Option Int->Hp->VK->Prop}(hr:SlR X r)(he:PE X e te)(hl:PO X lo tl)(hu:PO X hi th):PE X (.Subscript e (.Slice lo hi none p2) pos) (tSl r te tl th):=by
 intro pins s σ H Q I h;refine Subscript_ (thn (he pins s σ H _ I h) λv s1 ⟨x,H1,I1,r1,q1⟩ =>?_);refine wpAny_Slice (thn (hl pins s1 σ H1 _ I1 q1) λvl s2 ⟨l,H2,I2,pl,q2⟩=>thn (hu pins s2 σ H2 _ I2 q2) λvu s3 ⟨u,H3,I3,pu,q3⟩ =>?_);rw[evalPart_none];refine wf ?_;have I4:Inv X pins σ H3 { s3 with heap:=s3.heap.push { cls :=.type "slice",data :=.fields #[vl,vu,.none] } }:=I3.kept (t':=s3.toks) λb ob q=>wd _ q;obtain⟨T,id,hT,ht,hg⟩:=hr pins { s3 with heap:=s3.heap.push { cls :=.type "slice",data :=.fields #[vl,vu,.none] } } σ H3 x v vl vu l u s3.heap.objs.size Q I4 r1 (Heap.IsSliceOf.new ..) pl pu q3;show wpAny (model X.prog X.w) X.A (subscriptTail e (.Slice lo hi none p2) v (.ref s3.heap.objs.size)) (EP X pins σ Q) X.xe { s3 with heap:=s3.heap.push { cls :=.type "slice",data :=.fields #[vl,vu,.none] } };exact tail_any (ops:=[.ref s3.heap.objs.size,v]) ht hT hg (by with_unfolding_all rfl)
def cutV (xs:List V)(lo hi:Option Int):List V:=(xs.drop (HT.sIx xs.length 0 lo)).take (HT.sIx xs.length xs.length hi - HT.sIx xs.length 0 lo)
def z5V (xs:List V)(lo hi:Option Int):(cutV xs lo hi).length<=xs.length:=by
 unfold cutV;rw[v9,List.length_drop];lia
def rSlT (K:W.Frag):V->Option Int->Option Int->Hp->VK->Prop:=λx lo hi H Q=>∃a xs,x = .ref a/\SqT K H a xs/\
 ¬ (HT.sIx xs.length 0 lo=0/\HT.sIx xs.length xs.length hi=xs.length)/\∀p,H p=none->Q (.ref p) (upd H p (.tup (cutV xs lo hi)))
def zfT:SlR X (rSlT X.K):=by
 intro pins s σ H x v vl vu lo hi sl Q I rx hs pl pu h;obtain⟨a,xs,rfl,hx,hw,q⟩:=h
 cases rx
 obtain⟨its,r,ht,hz⟩:=I.tuple hx;have hlen:its.toArray.size=xs.length:=by rw[wv]; exact r.length.symm
 refine⟨"tuple",_,wY.lookup,ht.typeIs,?_⟩;refine HT.z4V ht hs pl pu (by rw[hlen]; exact hw) ?_ (by rw[hlen]; exact hz);rw[hlen];refine⟨.ref s.heap.objs.size,_,I.laid (t':=s.toks) (o :=.tup (cutV xs lo hi)) (λb ob q=>wd _ q) (wc _) ?_,rfl,q _ (I.hok.fresh (wc _))⟩;exact⟨wQ (z5V xs lo hi) hz,_,(r.drop (HT.sIx xs.length 0 lo)).take (HT.sIx xs.length xs.length hi - HT.sIx xs.length 0 lo),IsTup.new _ _,_,wy _ rfl,rfl⟩
def rLtT (K:W.Frag):R2:=λx y H Q=>∃a b ns ms,x = .ref a/\y = .ref b/\SqT K H a (ns.map V.int)/\SqT K H b (ms.map V.int)/\Q (.bl (HT.z0N ns ms)) H
def zhc (hu:X.A.units<cLine):OpR X (compareOp .Lt) (rLtT X.K):=by
 intro pins s σ H x y v u Q I rx ry h;obtain⟨a,b,ns,ms,rfl,rfl,ha,hb,q⟩:=h
 cases rx
 cases ry
 obtain⟨its,r1,p1,_⟩:=I.tuple ha;obtain⟨its2,r2,p2,_⟩:=I.tuple hb;have i1:IntsAre its.toArray.toList ns:=z2v r1;have i2:IntsAre its2.toArray.toList ms:=z2v r2;exact HT.z9T p1 p2 i1 i2 hu ⟨.bl (HT.z0N ns ms),H,I,rfl,q⟩
def ziF (K:W.Frag):R2:=λx y H Q=>∃a b xs ys,x = .ref a/\y = .ref b/\SqT K H a xs/\SqT K H b ys/\xs≠[]/\xs.length+ys.length<=sizeLine/\
 (ys=[]->Q (.ref a) H)/\(ys≠[]->∀p,H p=none->Q (.ref p) (upd H p (.tup (xs++ys))))
def Vals.nil_iff {xs:List V}{us:List Value}(r:Vals xs us):us=[]↔xs=[]:=by
 cases r with
 | nil=>simp
 | cons _ _=>simp
def zfe:OpR X (binaryOp .Add) (ziF X.K):=by
 intro pins s σ H x y v u Q I rx ry h;obtain⟨a,b,xs,ys,rfl,rfl,ha,hb,hx,hz,q1,q2⟩:=h
 cases rx
 cases ry
 obtain⟨its,r1,p1,_⟩:=I.tuple ha;obtain⟨its2,r2,p2,_⟩:=I.tuple hb;refine HT.zfw p1 p2 (λz=>hx (r1.nil_iff.mp z)) (λz=>⟨.ref a,H,I,rfl,q1 (r2.nil_iff.mp z)⟩) (λz =>?_) (by rw[<- r1.length, <- r2.length]; exact hz);refine⟨.ref s.heap.objs.size,_,I.laid (t':=s.toks) (o :=.tup (xs++ys)) (λb ob q=>wd _ q) (wc _) ?_,rfl,q2 (λw=>z (r2.nil_iff.mpr w)) _ (I.hok.fresh (wc _))⟩;exact⟨by rw[wG]; exact hz,_,r1.append r2,IsTup.new _ _,_,wy _ rfl,rfl⟩
end
def ixN (n:Nat)(i:Int):Option Nat:=if 0<=i then (if i<n then some i.toNat else none) else if -(n:Int)<=i then some (i+n).toNat else none
def atI {α:Type}(xs:List α)(i:Int):Option α:=(ixN xs.length i).bind λj=>xs[j]?
def zbz {n:Nat}{i:Int}{j:Nat}(h:ixN n i=some j):seqIndex? i n=some j/\j<n /\ -(n:Int)<=i/\i<n:=by
 unfold ixN at h
 by_cases h0:0<=i
 ·rw[if_pos h0] at h
  by_cases h1:i<n
  ·rw[if_pos h1] at h;have e:i.toNat=j:=wO h;exact⟨by rw[seqIndex_of h0 h1,e],by lia,by lia,h1⟩
  ·rw[if_neg h1] at h; cases h
 ·rw[if_neg h0] at h
  by_cases h1 : -(n:Int)<=i
  ·rw[if_pos h1] at h;have e:(i+n).toNat=j:=wO h;exact⟨by rw[seqIndex_neg (by lia) h1,e],by lia,h1,by lia⟩
  ·rw[if_neg h1] at h; cases h
def z8L {α:Type}{xs:List α}{i:Int}{v:α}(h:atI xs i=some v):∃j,seqIndex? i xs.length=some j/\xs[j]? = some v/\j<xs.length /\ -(xs.length:Int)<=i/\i<xs.length:=by
 unfold atI at h
 cases e:ixN xs.length i with
 | none=>rw[e] at h; cases h
 | some j=>
  rw[e] at h;obtain⟨h1,h2,h3,h4⟩:=zbz e;exact⟨j,h1,h,h2,h3,h4⟩
def z4Y {α:Type}{xs:List α}{j:Nat}{v:α}(h:xs[j]? = some v):atI xs (j:Int)=some v:=by
 have hj:j<xs.length:=(wb.mp h).1;have e:ixN xs.length (j:Int)=some j:=by
  unfold ixN;rw[if_pos (by lia),if_pos (by lia)]; simp
 unfold atI; rw[e]; exact h
def z8M (b:Expr):Prop:=∀o i,subscripted b false o i=operate [o,i] (getItem o i)
def IxR (X:Cx)(r:R2):Prop:=
 ∀(value slice:Expr) (pins:List (Addr × Obj)) (s:Shared) (σ:St) (H:Hp) (x y:V) (v u:Value) (Q:VK),Inv X pins σ H s->RelV x v->RelV y u->r x y H Q->
  subscripted slice false v u=operate [v,u] (getItem v u)->wpAny (model X.prog X.w) X.A (subscriptTail value slice v u) (EP X pins σ Q) X.xe s
def MtR (X:Cx)(id:String)(r:V->List V->Hp->VK->Prop):Prop:=
 ∀(pins:List (Addr × Obj)) (s:Shared) (σ:St) (H:Hp) (x:V) (xs:List V) (v:Value) (us:List Value) (Q:VK),Inv X pins σ H s->RelV x v->Vals xs us->r x xs H Q->
  wpAny (model X.prog X.w) X.A (call (.builtin id) (v::us)) (EP X pins σ Q) X.xe s
section
variable {X:Cx}{a b:Expr}{ta tb:TE}{pos:Pos}
def IxR.or {r r':R2}(h:IxR X r)(h':IxR X r'):IxR X (λx y H Q=>r x y H Q\/r' x y H Q):=by
 intro value slice pins s σ H x y v u Q I rx ry q hs
 rcases q with q | q
 ·exact h value slice pins s σ H x y v u Q I rx ry q hs
 ·exact h' value slice pins s σ H x y v u Q I rx ry q hs
def ziU {r:R2}(hr:IxR X r)(ha:PE X a ta)(hb:PE X b tb)(hs:z8M b):PE X (.Subscript a b pos) (tOp r ta tb):=by
 intro pins s σ H Q I h;exact Subscript_ (binT ha hb I h λv u s2 x y H2 I2 rx ry q=>hr a b pins s2 σ H2 x y v u Q I2 rx ry q (hs _ _))
def rIxL (K:W.Frag):R2:=λx y H Q=>∃p xs i v,x = .ref p/\y = .int i/\SqL K H p xs/\atI xs i=some v/\Q v H
def rIxT (K:W.Frag):R2:=λx y H Q=>∃p xs i v,x = .ref p/\y = .int i/\SqT K H p xs/\atI xs i=some v/\Q v H
def rIxS:R2:=λx y H Q=>∃z i c,x = .str z/\y = .int i/\z.length<=sizeLine/\atI z.cps.toList i=some c/\Q (.str ⟨#[c]⟩) H
def zfq:IxR X (rIxL X.K):=by
 intro value slice pins s σ H x y v u Q I rx ry h hs;obtain⟨p,xs,i,z,rfl,rfl,hq,he,q⟩:=h
 cases rx
 obtain⟨t,rfl⟩:=ry;obtain⟨its,r,pl,hz⟩:=I.list hq;obtain⟨j,h1,h2,h3,h4,h5⟩:=z8L he;obtain⟨w,ew,rw'⟩:=r.get h2;have hl:=r.length;have hn:=z6t;have fin:EP X pins σ Q w s:=⟨z,H,I,rw',q⟩
 by_cases h0:0<=i
 ·have hj:i.toNat=j:=by
   rw[seqIndex_of h0 h5] at h1;exact wO h1
  exact item_listR pl.isList h0 (by lia) (by rw[hj]; simpa using ew) fin hs
 ·have hj:(i+(its.toArray.size:Int)).toNat=j:=by
   rw[seqIndex_neg (by lia) h4] at h1;rw[wv, <- hl];exact wO h1
  exact subscriptTail_builtinR (x:=w) pl.isList.typeIs slot_list_getitem.lookup
   (wpAny_getItem_list_neg (Q:=λr s'=>r=w/\EP X pins σ Q r s') pl.isList (by lia) (by rw[wv] <;> lia) (by lia) (by rw[hj]; simpa using ew) ⟨rfl,fin⟩) hs
def zhT:IxR X (rIxT X.K):=by
 intro value slice pins s σ H x y v u Q I rx ry h hs;obtain⟨p,xs,i,z,rfl,rfl,hq,he,q⟩:=h
 cases rx
 obtain⟨t,rfl⟩:=ry;obtain⟨its,r,pl,hz⟩:=I.tuple hq;obtain⟨j,h1,h2,h3,h4,h5⟩:=z8L he;obtain⟨w,ew,rw'⟩:=r.get h2;have hl:=r.length;have hn:=z6t;have fin:EP X pins σ Q w s:=⟨z,H,I,rw',q⟩
 exact subscriptTail_builtinR (x:=w) pl.typeIs slot_tuple_getitem.lookup
  (getItem_tuple (j:=j) (Q:=λr s'=>r=w/\EP X pins σ Q r s') pl (by lia) (by lia) (by rw[wv, <- hl]; exact h1) (by simpa using ew) ⟨rfl,fin⟩) hs
def zhU:IxR X rIxS:=by
 intro value slice pins s σ H x y v u Q I rx ry h hs;obtain⟨z,i,c,rfl,rfl,hz,he,q⟩:=h;obtain⟨t,rfl⟩:=rx;obtain⟨t',rfl⟩:=ry;obtain⟨j,h1,h2,h3,h4,h5⟩:=z8L he;have hl:z.cps.toList.length=z.length:=by simp[Str.length]
 rw[hl] at h1 h4 h5;have hn:=z6t;exact tail_any (typeIs_str s z t) slot_str_getitem.lookup (getItem_str (c:=c) (by
  have e1:decide (i < -(2 ^ 63:Int))=false:=wB (by lia);have e2:decide (i>=2 ^ 63)=false:=wB (by lia);rw[e1,e2,Bool.or_false]) (by rw[h1]; simpa using h2) ⟨.str ⟨#[c]⟩,H,I.tok _,⟨_,rfl⟩,q⟩) hs
def rIx (K:W.Frag):R2:=λx y H Q=>rIxL K x y H Q\/rIxT K x y H Q\/rIxS x y H Q
def zhV:IxR X (rIx X.K):=zfq.or (zhT.or zhU)
def z9Q (its:List Value)(n j:Nat)(u:Value):Obj.mapSeq (·.setIfInBounds j u) { cls :=.type "list",data :=.seq its.toArray n }={ cls :=.type "list",data :=.seq (its.set j u).toArray n }:=by
 simp[Obj.mapSeq]
theorem Inv.lst {pins:List (Addr × Obj)}{σ:St}{H:Hp}{s:Shared}{p:Addr}{xs:List V}(I:Inv X pins σ H s)(h:H p=some (.lst xs)):
  ∃(its:List Value) (n:Nat),Vals xs its/\s.heap.get? p=some { cls :=.type "list",data :=.seq its.toArray n }/\xs.length<=sizeLine:=by
 obtain⟨z,its,n,r,e⟩:=I.hok p _ h;exact⟨its,n,r,e,z⟩
def Inv.lstUpd {pins:List (Addr × Obj)}{σ:St}{H:Hp}{s:Shared}{p:Addr}{xs ys:List V}{its its':List Value}{n n':Nat}{f:Obj->Obj}(I:Inv X pins σ H s)(h:H p=some (.lst xs))
  (ho:s.heap.get? p=some { cls :=.type "list",data :=.seq its.toArray n }) (hf:f { cls :=.type "list",data :=.seq its.toArray n }={ cls :=.type "list",data :=.seq its'.toArray n' }) (r:Vals ys its') (hz:ys.length<=sizeLine) (t:Nat):
  Inv X pins σ (upd H p (.lst ys)) { s with heap:=s.heap.update p f,toks:=t }:=by
 have e:(s.heap.update p f).get? p=some { cls :=.type "list",data :=.seq its'.toArray n' }:=by
  rw[Heap.get?_update_self f ho (by rw[hf] <;> rfl),hf]
 refine I.write (x:=p) (e:=p) (by rw[h]; trivial) (.inl rfl) (λb u hb q=>(Heap.get?_update_other _ _ (wU hb)).trans q) ⟨_,e⟩ ?_;exact⟨hz,its',n',r,e⟩
def ziC:V->V->V->Hp->(Hp->Prop)->Prop:=λo i v H Q=>∃p xs k j,o = .ref p/\i = .int k/\H p=some (.lst xs)/\ixN xs.length k=some j/\Q (upd H p (.lst (xs.set j v)))
def zct:PSet X ziC:=by
 intro pins s σ H o i v ov iv u Q I ro ri rv h;obtain⟨p,xs,k,j,rfl,rfl,hp,hj,q⟩:=h
 cases ro
 obtain⟨t,rfl⟩:=ri;obtain⟨its,n,r,ho,hz⟩:=I.lst hp;obtain⟨h1,h2,h3,h4⟩:=zbz hj;have hl:=r.length;have hn:=z6t;have I':Inv X pins σ (upd H p (.lst (xs.set j v))) { s with heap:=s.heap.update p (Obj.mapSeq (·.setIfInBounds j u)) }:=
  I.lstUpd hp ho (z9Q its n j u) (r.set rv j) (by rw[ui]; exact hz) s.toks
 by_cases h0:0<=k
 ·have hk:k.toNat=j:=by
   rw[seqIndex_of h0 h4] at h1;exact wO h1
  exact PySem.W.ki_setAt ho h0 (by lia) (by rw[wv, <- hl]; exact h4) (by rw[hk]; exact⟨_,I',q⟩)
 ·have hk:(k+(its.toArray.size:Int)).toNat=j:=by
   rw[seqIndex_neg (by lia) h3] at h1;rw[wv, <- hl];exact wO h1
  exact PySem.W.ki_setBack ho (by lia) (by rw[wv, <- hl]; exact h3) (by lia) (by rw[hk]; exact⟨_,I',q⟩)
def z7f (lo hi:Option Int)(n:Nat):(sliceBounds lo hi none n).1=((HT.sIx n 0 lo:Nat):Int)/\(sliceBounds lo hi none n).2.1=((HT.sIx n n hi:Nat):Int)/\(sliceBounds lo hi none n).2.2=1:=by
 refine⟨?_,?_,rfl⟩
 ·cases lo with
  | none=>simp[sliceBounds,HT.sIx]
  | some i=>
   simp only[sliceBounds,HT.sIx,Option.getD_none,show (1:Int) > 0 by decide,uh]
   by_cases h:i<0
   ·simp only[h,uh] <;> lia
   ·simp only[h,uo] <;> lia
 ·cases hi with
  | none=>simp[sliceBounds,HT.sIx]
  | some i=>
   simp only[sliceBounds,HT.sIx,Option.getD_none,show (1:Int) > 0 by decide,uh]
   by_cases h:i<0
   ·simp only[h,uh] <;> lia
   ·simp only[h,uo] <;> lia
def z6F (its:List Value)(lo hi:Option Int):slicePick its.toArray lo hi none=((its.drop (HT.sIx its.length 0 lo)).take (HT.sIx its.length its.length hi - HT.sIx its.length 0 lo)).toArray:=by
 obtain⟨h1,h2,h3⟩:=z7f lo hi its.toArray.size;unfold slicePick;rw[h1,h2,h3];simp only[sliceRange_one,pick_run,wv] <;> rfl
def rSlL (K:W.Frag):V->Option Int->Option Int->Hp->VK->Prop:=λx lo hi H Q=>∃a xs,x = .ref a/\SqL K H a xs/\∀p,H p=none->Q (.ref p) (upd H p (.lst (cutV xs lo hi)))
def zen:SlR X (rSlL X.K):=by
 intro pins s σ H x v vl vu lo hi sl Q I rx hs pl pu h;obtain⟨a,xs,rfl,hx,q⟩:=h
 cases rx
 obtain⟨its,r,ht,hz⟩:=I.list hx;have hlen:=r.length;refine⟨"list",_,slot_list_getitem.lookup,ht.isList.typeIs,?_⟩;refine wpAny_getItem_list_slice ht.isList hs pl pu .none (by simp) ?_ (by rw[wv] <;> lia);rw[z6F, <- hlen];refine⟨.ref s.heap.objs.size,_,I.laid (t':=s.toks) (o :=.lst (cutV xs lo hi)) (λb ob q=>wd _ q) (wc _) ?_,rfl,q _ (I.hok.fresh (wc _))⟩;exact⟨wQ (z5V xs lo hi) hz,_,0,(r.drop (HT.sIx xs.length 0 lo)).take (HT.sIx xs.length xs.length hi - HT.sIx xs.length 0 lo),wy _ rfl⟩
def eqV:V->V->Bool
 | .non,.non=>true
 | .bl a,.bl b=>a == b
 | .bl a,.int b=>(if a then 1 else 0) == b
 | .int a,.bl b=>a == (if b then 1 else 0)
 | .int a,.int b=>a == b
 | .str a,.str b=>a == b
 | _,_=>false
def inV (x:V)(xs:List V):Bool:=xs.any λy=>eqV y x
def z7U:z1v X (.builtin "len") (λxs H Q=>∃p ys,xs=[.ref p]/\(SqL X.K H p ys\/SqT X.K H p ys)/\Q (.int ys.length) H):=by
 intro pins s σ H xs us Q I r h;obtain⟨p,ys,rfl,hq,q⟩:=h;obtain⟨u,rfl,rx⟩:=z6z r
 cases rx
 have hn:=z6t
 rcases hq with hq | hq
 ·obtain⟨its,r',pl,hz⟩:=I.list hq;have hlen:=r'.length;exact Calls.call_len_list pl.isList (by simp only[wv] <;> lia) ⟨.int ys.length,H,I.tok _,⟨s.toks+1,by rw[wv,hlen]⟩,q⟩
 ·obtain⟨its,r',pl,hz⟩:=I.tuple hq;have hlen:=r'.length;exact len_tuple pl (by simp only[wv] <;> lia) ⟨.int ys.length,H,I.tok _,⟨s.toks+1,by rw[wv,hlen]⟩,q⟩
def z7T:z1v X (.builtin "len") (λxs H Q=>∃z,xs=[.str z]/\z.length<=sizeLine/\Q (.int z.length) H):=by
 intro pins s σ H xs us Q I r h;obtain⟨z,rfl,hz,q⟩:=h;obtain⟨u,rfl,t,rfl⟩:=z6z r;have hn:=z6t;exact len_str (by lia) ⟨.int z.length,H,I.tok _,⟨_,rfl⟩,q⟩
def z1v.or {f:Value}{r r':List V->Hp->VK->Prop}(h:z1v X f r)(h':z1v X f r'):z1v X f (λxs H Q=>r xs H Q\/r' xs H Q):=by
 intro pins s σ H xs us Q I rs q
 rcases q with q | q
 ·exact h pins s σ H xs us Q I rs q
 ·exact h' pins s σ H xs us Q I rs q
def z7S:z1v X (.type "list") (λxs H Q=>∃p ys,xs=[.ref p]/\(SqL X.K H p ys\/SqT X.K H p ys)/\∀l,H l=none->Q (.ref l) (upd H l (.lst ys))):=by
 intro pins s σ H xs us Q I r h;obtain⟨p,ys,rfl,hq,q⟩:=h;obtain⟨u,rfl,rx⟩:=z6z r
 cases rx
 have fin:∀(its:List Value),Vals ys its->ys.length<=sizeLine->∀(h':Heap) (c':Nat),(∀b o',s.heap.get? b=some o'->h'.get? b=some o')->
   h'.get? s.heap.objs.size=some { cls :=.type "list",dict:=none,data :=.seq its.toArray c',slots := #[] }->EP X pins σ Q (.ref s.heap.objs.size) { s with heap:=h' }:=λits r' hz h' c' kp e=>
  ⟨.ref s.heap.objs.size,_,I.laid (t':=s.toks) kp (wc _) (show z1l X.prog X.w _ h' _ (.lst ys) from ⟨hz,its,c',r',e⟩),rfl,q _ (I.hok.fresh (wc _))⟩
 rcases hq with hq | hq
 ·obtain⟨its,r',pl,hz⟩:=I.list hq;have hlen:=r'.length;obtain⟨o,ho,hc,n,hd⟩:=pl.isList;exact call_list_seq p (.inl rfl) ho hc hd (λh' c' kp e=>fin its r' hz h' c' kp e) (by simp only[wv] <;> lia)
 ·obtain⟨its,r',pl,hz⟩:=I.tuple hq;have hlen:=r'.length;obtain⟨o,ho,hc,n,hd⟩:=pl;exact call_list_seq p (.inr rfl) ho hc hd (λh' c' kp e=>fin its r' hz h' c' kp e) (by simp only[wv] <;> lia)
def z76:z1v X (.type "tuple") (λxs H Q=>∃p ys,xs=[.ref p]/\((SqL X.K H p ys/\∀l,H l=none->Q (.ref l) (upd H l (.tup ys)))\/(SqT X.K H p ys/\Q (.ref p) H))):=by
 intro pins s σ H xs us Q I r h;obtain⟨p,ys,rfl,h⟩:=h;obtain⟨u,rfl,rx⟩:=z6z r
 cases rx
 rcases h with ⟨hq,q⟩ | ⟨hq,q⟩
 ·obtain⟨its,r',pl,hz⟩:=I.list hq;have hlen:=r'.length;refine call_tuple_list pl.isList (λh' kp =>?_) (by simp only[wv] <;> lia);have I1:Inv X pins σ H { s with heap:=h' }:=I.kept (t':=s.toks) kp;have I2:Inv X pins σ (upd H h'.objs.size (.tup ys)) { s with heap:=h'.push { cls :=.type "tuple",data :=.seq its.toArray } }:=
   I1.laid (t':=s.toks) (λb o e=>wd _ e) (wc _) (show z1l X.prog X.w _ _ _ (.tup ys) from ⟨hz,its,r',IsTup.new _ _,_,wy _ rfl,rfl⟩)
  exact⟨.ref h'.objs.size,_,I2,rfl,q _ (I1.hok.fresh (wc _))⟩
 ·obtain⟨its,r',pl,hz⟩:=I.tuple hq;exact call_tuple_same pl ⟨.ref p,H,I,rfl,q⟩
def tyV (K:W.Frag)(T:String)(x:V)(H:Hp):Prop:=match x with
 | .str _=>T="str"
 | .int _=>T="int"
 | .ref p=>(T="list"/\∃xs,SqL K H p xs)\/(T="tuple"/\∃o,K.lookup p=some o/\o.cls = .type "tuple"/\o.dict=none)\/
   (T="dict"/\((∃kvs,H p=some (.dK kvs))\/∃kvs,H p=some (.dT kvs)))\/(T="set"/\∃S n,H p=some (.set S n))
 | _=>False
def zdz {pins:List (Addr × Obj)}{σ:St}{H:Hp}{s:Shared}{T:String}{x:V}{v:Value}(I:Inv X pins σ H s)(r:RelV x v)(ty:tyV X.K T x H):
  s.TypeIs v T/\∀a,v = .ref a->∃ob,s.heap.get? a=some ob/\ob.dict=none:=by
 cases x with
 | str z=>
  obtain⟨t,rfl⟩:=r
  cases (show T="str" from ty)
  exact⟨typeIs_str s z t,λ_ e=>nomatch e⟩
 | int i=>
  obtain⟨t,rfl⟩:=r
  cases (show T="int" from ty)
  exact⟨typeIs_int s i t,λ_ e=>nomatch e⟩
 | ref p=>
  cases r
  rcases ty with ⟨rfl,xs,hq⟩ | ⟨rfl,o,hk,hc,hd⟩ | ⟨rfl,hk⟩ | ⟨rfl,S,n,hk⟩
  ·obtain⟨its,_,pl,_⟩:=I.list hq;refine⟨pl.isList.typeIs,λa e =>?_⟩
   cases e
   obtain⟨o,n,e,c,hd,_⟩:=pl;exact⟨o,e,hd⟩
  ·refine⟨⟨o,I.kIn p o hk,hc⟩,λa e =>?_⟩
   cases e
   exact⟨o,I.kIn _ o hk,hd⟩
  ·have z:∃o,s.heap.get? p=some o/\o.ExactDict:=by
    rcases hk with ⟨kvs,hk⟩ | ⟨kvs,hk⟩
    ·obtain⟨_,_,_,_,o,_,_,e,ex,_⟩:=I.hok p _ hk;exact⟨o,e,ex⟩
    ·obtain⟨_,_,_,_,o,_,_,e,ex,_⟩:=I.hok p _ hk;exact⟨o,e,ex⟩
   obtain⟨o,e,ex⟩:=z;refine⟨⟨o,e,ex.1⟩,λa e2 =>?_⟩
   cases e2
   exact⟨o,e,ex.2.1⟩
  ·obtain⟨o,_,_,_,e,ex,_⟩:=I.hok p _ hk;refine⟨⟨o,e,ex.1⟩,λa e2 =>?_⟩
   cases e2
   exact⟨o,e,ex.2.1⟩
 | _=>exact False.elim ty
def tBM0 (K:W.Frag)(T:String)(r:V->List V->Hp->VK->Prop)(to:TE):TE:=λσ H Q=>to σ H λx H1=>tyV K T x H1/\r x [] H1 Q
def tBM (K:W.Frag)(T:String)(r:V->List V->Hp->VK->Prop)(to:TE)(t:TA):TE:=λσ H Q=>to σ H λx H1=>tyV K T x H1/\t σ H1 λxs H2=>r x xs H2 Q
variable {o e:Expr}{es:List Expr}{to:TE}{t:TA}{name:Str}{apos cpos:Pos}{T id:String}{r:V->List V->Hp->VK->Prop}
def zh2 (pa:PlainAttrs T)(slot:Slot T name id)(hty:typeOf (.builtin id)=pure (.type "method_descriptor"))(hm:MtR X id r)(ho:PE X o to)
  (hbase:attributeBase o name X.env (eval o X.env)=eval o X.env:=by rfl) (hline:(apos.endLine == cpos.line)=true:=by rfl):PE X (.Call (.Attribute o name apos) [] [] cpos) (tBM0 X.K T r to):=by
 intro pins s σ H Q I h;refine wpAny_Call_method0_late hbase hline (thn (ho pins s σ H _ I h) λv s1 ⟨x,H1,I1,r1,ty,q1⟩ =>?_);obtain⟨h1,h2⟩:=zdz I1 r1 ty;exact⟨T,id,pa,slot,hty,h1,h2,Calls.callWith_builtin rfl (PySem.evalArgs_none (hm pins s1 σ H1 x [] v [] Q I1 r1 .nil q1))⟩
def ziW (pa:PlainAttrs T)(slot:Slot T name id)(hty:typeOf (.builtin id)=pure (.type "method_descriptor"))(hm:MtR X id r)(ho:PE X o to)(ha:PA X (e::es) t)
  (hbase:attributeBase o name X.env (eval o X.env)=eval o X.env:=by rfl)
  (hfew:((backTo cpos (starEach (e::es) X.env)).all (λx => !x.1) && (backToKw cpos (keywordEach [] X.env)).all (λx=>x.1.isSome)
   && decide ((e::es).length+([]:List Keyword).length+(if ([]:List Keyword).isEmpty then 0 else 1)<30))=true:=by rfl)
  (hline:(apos.endLine == cpos.line)=true:=by rfl) (hs:starEach (e::es) X.env=(false,eval e X.env)::starEach es X.env:=by rfl) (hplain:(backTo cpos (starEach es X.env)).any (·.1)=false:=by rfl):
  PE X (.Call (.Attribute o name apos) (e::es) [] cpos) (tBM X.K T r to t):=by
 intro pins s σ H Q I h;refine wpAny_Call_method_late hbase hfew hline rfl (thn (ho pins s σ H _ I h) λv s1 ⟨x,H1,I1,r1,ty,q1⟩ =>?_);obtain⟨h1,h2⟩:=zdz I1 r1 ty;refine⟨T,id,pa,slot,hty,h1,h2,?_⟩;have hA:=ha cpos pins s1 σ H1 _ I1 q1;rw[hs] at hA ⊢;refine Calls.callWith_builtin (by show (false || (backTo cpos (starEach es X.env)).any (·.1))=false; rw[hplain] <;> rfl) (Calls.evalArgs_plain ?_);exact thn hA λus s2 ⟨vs,H2,I2,r2,q2⟩=>hm pins s2 σ H2 x vs v us Q I2 r1 r2 q2
end
def MtM (X:Cx)(id:String)(r:V->List V->Hp->VK->Prop):Prop:=
 ∀(pins:List (Addr × Obj)) (s:Shared) (σ:St) (H:Hp) (x:V) (xs:List V) (v:Value) (us:List Value) (Q:VK),Inv X pins σ H s->RelV x v->Vals xs us->r x xs H Q->
  wpAny (model X.prog X.w) X.A (call (.builtin id) (v::us)) (EP X pins σ Q) X.xe s
def Vals.one:∀{x:V}{us:List Value},Vals [x] us->∃u,us=[u]/\RelV x u
 | _,_,.cons r .nil=>⟨_,rfl,r⟩
def Vals.zero:∀{us:List Value},Vals [] us->us=[]
 | _,.nil=>rfl
section
variable {X:Cx}{pins:List (Addr × Obj)}{σ:St}{H:Hp}{s:Shared}{l b:Addr}{xs ys zs:List V}
def Inv.lset {its its':List Value}{n:Nat}{f:Array Value->Array Value}{t':Nat}(I:Inv X pins σ H s)(hH:H l=some (.lst xs))
  (e:s.heap.get? l=some { cls :=.type "list",data :=.seq its.toArray n }) (hf:f its.toArray=its'.toArray) (hv:Vals ys its') (hz:ys.length<=sizeLine):
  Inv X pins σ (upd H l (.lst ys)) { s with heap:=s.heap.update l (Obj.mapSeq f),toks:=t' }:=by
 have q:=PySem.IsL.update e f;rw[hf] at q;refine I.write (x:=l) (e:=l) (by rw[hH]; exact trivial) (.inl rfl) (λb' u hb hu=>(Heap.get?_update_other s.heap (Obj.mapSeq f) (wU hb)).trans hu) ⟨_,q⟩ ?_;exact⟨hz,its',_,hv,q⟩
def Inv.lnew {its:List Value}{t':Nat}(I:Inv X pins σ H s)(hv:Vals ys its)(hz:ys.length<=sizeLine):
  Inv X pins σ (upd H s.heap.objs.size (.lst ys)) { s with heap:=s.heap.push { cls :=.type "list",data :=.seq its.toArray },toks:=t' }:=
 I.laid (λ_ _ q=>wd _ q) (wc _) ⟨hz,its,0,hv,wy _ rfl⟩
theorem Inv.fresh (I:Inv X pins σ H s):H s.heap.objs.size=none:=I.hok.fresh (wc _)
def Inv.lstM (I:Inv X pins σ H s)(hH:H l=some (.lst xs)):xs.length<=sizeLine/\∃(its:List Value) (n:Nat),Vals xs its/\xs.length=its.length/\s.heap.get? l=some { cls :=.type "list",data :=.seq its.toArray n }:=by
 obtain⟨z,its,n,r,e⟩:=I.hok l _ hH;exact⟨z,its,n,r,r.length,e⟩
end
section
variable {X:Cx}
def zaP:V->List V->Hp->VK->Prop:=λx vs H Q=>∃l xs y,x = .ref l/\vs=[y]/\H l=some (.lst xs)/\xs.length<sizeLine/\Q .non (upd H l (.lst (xs++[y])))
def zbq:MtM X "list.append" zaP:=by
 intro pins s σ H x vs v us Q I rx rv h;obtain⟨l,xs,y,rfl,rfl,hH,hz,q⟩:=h
 cases rx
 obtain⟨u,rfl,ru⟩:=rv.one;obtain⟨z,its,n,r,hl,e⟩:=I.lstM hH;refine call_meets F.slot_list_append ⟨_,e,rfl⟩ F.entry_list_append (F.args_list_append_2 _ _) (PySem.list_append l its.toArray n u (by rw[wv]; lia)) ⟨e,?_⟩;refine⟨.non,_,I.lset (its':=its++[u]) hH e (by simp) (r.append (.cons ru .nil)) ?_,rfl,q⟩;rw[wG,List.length_singleton];lia
def zgi:V->List V->Hp->VK->Prop:=λx vs H Q=>∃l xs,x = .ref l/\vs=[]/\H l=some (.lst xs)/\Q .non (upd H l (.lst []))
def zdb:MtM X "list.clear" zgi:=by
 intro pins s σ H x vs v us Q I rx rv h;obtain⟨l,xs,rfl,rfl,hH,q⟩:=h
 cases rx
 have hus:=rv.zero;subst hus;obtain⟨z,its,n,r,hl,e⟩:=I.lstM hH;refine call_meets F.slot_list_clear ⟨_,e,rfl⟩ F.entry_list_clear (F.args_list_clear_1 _) (AutoSeq1.list_clear_list_0 l its.toArray n (by rw[wv]; lia)) ⟨e,?_⟩;exact⟨.non,_,I.lset (its':=[]) (ys:=[]) hH e rfl .nil (w6 _),rfl,q⟩
end
end L2
namespace Att
open PySem PySem.W PySem.Calls PyProof.Rows
def z5J {P:Params}{h:Heap}:∀(ns:List Int) (vs:List Value),WellAll P h vs (ns.map WData.int)->IntsAre vs ns:=by
 intro ns
 induction ns with
 | nil=>
  intro vs w;rw[vJ] at w
  cases w
  exact .nil
 | cons n ns ih=>
  intro vs w;rw[wz] at w
  cases w with
  | cons a b=>
   cases a
   exact .cons _ _ (ih _ b)
def zaD {l:OpenLaw}{n:Nat}(hn:l.most=some n){P:Params}{h:Heap}{args:List WData}{vals:List Value}
  (hpre:l.row.toRowW.claim.pre args=true) (hwl:WellAll P h vals args):
  ∃a vs ns,vals=[Value.ref a]/\args=[WData.list (ns.map WData.int)]/\h.get? a=some { cls :=.type "list",data :=.seq vs.toArray }/\IntsAre vs ns/\ns.length<=n:=by
 have hsh:WShape.hasAll [] args [.list .int]=true:=(pre_splitW hpre).1;have hc:l.pre.holds [] { args:=args }=true:=(pre_splitW hpre).2;obtain⟨d,r,rfl,h1,h2⟩:=hasAllW_cons hsh;obtain rfl:=hasAllW_nil h2;obtain⟨xs,rfl,h3⟩:=hasW_list h1;obtain⟨ns,rfl⟩:=items_int h3;have hlen:ns.length<=n:=by
  unfold OpenLaw.pre at hc;have h4:(WTm.not (.lt (.lit (.int (n:Int))) (.len (.arg 0)))).holds [] { args:=[.list (ns.map .int)] }=true:=by
   have h4:=(holds_andW hc).1;rw[hn] at h4;exact h4
  have h5:=condW_of h4 (w_not (w_lt w_lit (w_len_list (w_arg rfl))));rw[wA] at h5;refine Nat.le_of_not_lt λq =>?_;have q':(n:Int)<((ns.length:Nat):Int):=by lia
  first
   | (rw[wH q'] at h5; exact absurd h5 (by decide))
   | (simp at h5; lia)
 cases hwl with
 | cons w1 w2=>
  cases w2
  cases w1 with
  | list ho hall=>exact⟨_,_,ns,rfl,rfl,ho,z5J ns _ hall,hlen⟩
def zb9 (l:OpenLaw)(args:List WData):l.row.toRowW.claim.post args (.bool true) args=true:=
 postW_of (r:=l.row.toRowW) (X:=(true == true))
  (show WShape.has [] (.bool true) .bool=true by first | rfl | decide | simp[WShape.has,WShape.arms,WShape.armsAll])
  (show (WTm.eq .res (.lit (.bool true))).value [] { args:=args,res:=some (.bool true),after:=args }=some (.bool (true == true)) from w_eq_bool (w_res rfl) w_lit) rfl
def z8K {l:OpenLaw}{n:Nat}{q:Program}{loose:List Str}{XP:(Str->Option Value)->Heap->Prop}{YP:World->Heap->Prop}{d:DefRec}
  (hn:l.most=some n) (hdf:d.params.defaults=[])
  (call:∀(w:World) (s₀ s₁:Shared) (mg mb:Str->Option Value) (fa:Addr) (o:Obj) (pm cd doc:Value) (a:Addr) (vs:List Value) (ns:List Int),
   Ground q loose [] XP w s₀ mg mb s₁.heap->YP w s₁.heap->
   s₁.heap.get? fa=some o->o.data = .func (docDef d.name d.params d.body d.scope pm cd doc)->s₁.heap.CodeRec cd d.name->mg d.name=some (.ref fa)->
   s₁.heap.get? a=some { cls :=.type "list",data :=.seq vs.toArray }->IntsAre vs ns->ns.length<=n->s₁.gens = #[]->
   codeAny (model l.prog w) callerA (.call (.ref fa) ⟨[.ref a],[]⟩) (λr s'=>r = .ok (.ret (.bool true))/\OldK s₁.heap s'.heap/\s'.os=s₁.os/\AllBare s'.gens) s₁):
  WalkO q loose XP YP l.row.toRowW d [] (λf vs=>PySem.call f vs):=by
 intro w s₀ s₁ mg mb G Y fa o pm cd doc dV kV ho hd hcd hD hmg hg args vals as hpre hlay hrd hwl hlo;obtain rfl:dV = .none:=Dflts.none hD hdf;obtain rfl:kV = .none:=Dflts.noKw hD;obtain⟨a,vs,ns,rfl,rfl,hobj,hints,hlen⟩:=zaD hn hpre hwl;refine enter_call (uq (call w s₀ s₁ mg mb fa o pm cd doc a vs ns G Y ho (fd_plain hd) hcd hmg hobj hints hlen hg) λr s' hq =>?_);obtain⟨rfl,h2,h3,h4⟩:=hq;exact⟨.inl ⟨.bool true,.bool true,[],rfl,λ_=>rfl,.bool true,zb9 l _,λ_=>⟨List.Pairwise.nil,λ_ hm=>(nomatch hm)⟩⟩,h2,h3,h4⟩
end Att
namespace L2
open PySem PySem.Spec PyProof.Rows
theorem z7b:∀{vs:List Value}{ns:List Int},IntsAre vs ns->Vals (ns.map V.int) vs
 | _,_,.nil =>.nil
 | _,_,.cons n t h =>.cons ⟨t,rfl⟩ (z7b h)
theorem ze4 {α β:Type}[BEq α][LawfulBEq α]{a:α}{b:β}:∀{l:List (α × β)},l.lookup a=some b->(a,b)∈l
 | [],h=>by cases h
 | (c,d)::r,h=>by
  rw[wR] at h
  cases e:a == c with
  | true=>rw[e] at h; cases h; rw[eq_of_beq e]; exact .head _
  | false=>rw[e] at h; exact .tail _ (ze4 h)
def z6h {K:W.Frag}{c P:Addr}(h:zal K c=some P):K.lookup P=none/\∃o vs,K.lookup c=some o/\o.cls = .type "code"/\o.data = .fields vs/\vs[11]? = some (.ref P):=by
 unfold zal at h
 split at h
 ·rename_i vs _ hk
  split at h
  ·rename_i P' h11
   split at h
   ·rename_i hn
    cases h
    exact⟨by simpa using hn,_,vs,hk,rfl,rfl,h11⟩
   ·cases h
  ·cases h
 ·cases h
def z7c {K:W.Frag}{P:Addr}{t:Nat × Nat × Str}(h:(tsOf K).lookup P=some t):∃c,zal K c=some P:=by
 obtain⟨p,_,e⟩:=ud.mp (ze4 h)
 split at e
 ·split at e
  ·rename_i c _ _
   cases q:zal K c with
   | none=>rw[q] at e; cases e
   | some P'=>rw[q] at e; cases e; exact⟨c,q⟩
  ·cases e
 ·cases e
def zdh {P:Program}{w:World}{K:W.Frag}{mg mb:Str->Option Value}{CX:CXT}{k:Nat}{fa a:Addr}{fd:FuncData}{x:Str}{sp:Sp}{s₁:Shared}{vs:List Value}{ns:List Int}
  (KX:K.In s₁.heap) (hns:s₁.heap.Ns mainGlobals mg) (hb:s₁.heap.Ns builtinsNs mb) (hbb:∀x:Str,x≠"__name__"->mb x=bootBuiltins x) (hlim:s₁.heap.NoLimit) (hbm:BmAt mg s₁.heap) (hg:s₁.gens = #[])
  (ha:s₁.heap.get? a=some { cls :=.type "list",data :=.seq vs.toArray }) (hi:IntsAre vs ns) (hl:ns.length<=sizeLine) (hr:Room k callerA)
  (hT:∀P t,(tsOf K).lookup P=some t->s₁.heap.get? P=some { cls :=.none,data :=.fields #[] })
  (F:∀base:Heap,K.In base->base.Ns mainGlobals mg->FnOk P w K mg base CX k fa fd [x] sp) (hbind:∀(s:Shared) (u:Value),BindsTo s fd ⟨[u],[]⟩ [(x,u)])
  (hsp:∀H:Hp,SqL K H a (ns.map V.int)->sp [.ref a] H (λv _=>v = .bl true) λ_ _ _=>False)
  (hCX:∀H e s',CX [] H s₁ (λ_ _ _=>False) e s'->False):
  codeAny (model P w) callerA (.call (.ref fa) ⟨[.ref a],[]⟩) (λr s'=>r = .ok (.ret (.bool true))/\OldK s₁.heap s'.heap/\s'.os=s₁.os/\AllBare s'.gens) s₁:=by
 have rv:=z7b hi;have lenV:=hi.length;have aT:(tsOf K).lookup a=none:=by
  cases q:(tsOf K).lookup a with
  | none=>rfl
  | some t=>
   have e:=hT a t q;rw[ha] at e; cases e
 have core:∀u:Option HO,SqL K (λb=>if b=a then u else ((tsOf K).lookup b).map λt =>.tbl (encT t)) a (ns.map V.int)->((u=none)\/(K.lookup a=none/\u=some (.frz { cls :=.type "list",data :=.seq vs.toArray } (.lst (ns.map V.int)))))->
   codeAny (model P w) callerA (.call (.ref fa) ⟨[.ref a],[]⟩) (λr s'=>r = .ok (.ret (.bool true))/\OldK s₁.heap s'.heap/\s'.os=s₁.os/\AllBare s'.gens) s₁:=by
  intro u hS hu;generalize hH:(λb=>if b=a then u else ((tsOf K).lookup b).map λt=>HO.tbl (encT t):Hp)=H at hS;have at_:∀{b v},H b=some v->(b=a/\u=some v)\/(b≠a/\∃t,(tsOf K).lookup b=some t/\v = .tbl (encT t)):=λ{b v} e=>by
   rw[<- hH] at e
   by_cases hb:b=a
   ·exact .inl ⟨hb,by rw[<- e]; exact(if_pos hb).symm⟩
   ·have e':=(if_neg hb).symm.trans e
    cases q:(tsOf K).lookup b with
    | none=>rw[q] at e'; cases e'
    | some t=>rw[q] at e'; cases e'; exact .inr ⟨hb,t,rfl,rfl⟩
  have hok:HOk P w H s₁.heap:=λb v e=>by
   rcases at_ e with ⟨rfl,z⟩ | ⟨_,t,q,rfl⟩
   ·rcases hu with hu | ⟨_,hu⟩
    ·rw[hu] at z; cases z
    ·rw[hu] at z
     cases z
     exact⟨ha,by rw[wA]; exact hl,vs,_,rv,ha⟩
   ·exact .inl (hT b t q)
  have noA:∀{b:Addr}{o:Obj}{es:Array DictEntry}{ep:Nat},s₁.heap.get? b=some o->o.data = .dict es ep->H b=none:=λ{b o es ep} e d=>by
   cases q:H b with
   | none=>rfl
   | some v=>
    rcases at_ q with ⟨rfl,_⟩ | ⟨_,t,q,_⟩
    ·rw[ha] at e; cases e;have d':Data.seq vs.toArray _=Data.dict es ep:=d
     cases d'
    ·have:=hT b t q;rw[e] at this; cases this;have d':Data.fields _=Data.dict es ep:=d
     cases d'
  have noP:∀{b:Addr}{o:Obj},s₁.heap.get? b=some o->o.data = .plain->H b=none:=λ{b o} e d=>by
   cases q:H b with
   | none=>rfl
   | some v=>
    rcases at_ q with ⟨rfl,_⟩ | ⟨_,t,q,_⟩
    ·rw[ha] at e; cases e;have d':Data.seq vs.toArray _=Data.plain:=d
     cases d'
    ·have:=hT b t q;rw[e] at this; cases this;have d':Data.fields _=Data.plain:=d
     cases d'
  have nsK:∀{b:Addr}{m:Str->Option Value},s₁.heap.Ns b m->(hidT s₁.heap H).Ns b m:=λ{b m} ⟨o,es,ep,e,d,r⟩=>⟨o,es,ep,z6X e (noA e d),d,r⟩
  have hKb:K.In (hidT s₁.heap H):=λb o e=>z6X (KX b o e) (by
   cases q:H b with
   | none=>rfl
   | some v=>
    rcases at_ q with ⟨rfl,z⟩ | ⟨_,t,q,_⟩
    ·rcases hu with hu | ⟨hu,_⟩
     ·rw[hu] at z; cases z
     ·rw[hu] at e; cases e
    ·obtain⟨c,hc⟩:=z7c q;rw[(z6h hc).1] at e; cases e)
  have hM:Mod K mg (hidT s₁.heap H):=⟨hKb,nsK hns,⟨mb,nsK hb,hbb⟩,let ⟨mc,h1,h2⟩:=hlim; ⟨mc,nsK h1,h2⟩,let ⟨bm,ob,b1,b2,b3,b4,b5,b6⟩:=hbm; ⟨bm,ob,b1,b2,z6X b3 (noP b3 b6),b4,b5,b6⟩⟩
  have e0:Env0 P w K mg (hidT s₁.heap H) callerA [] s₁ H:=⟨rfl,hM,λb o e=>zfh e,Nat.le_of_eq (zbD _ _),trivial,λb hb=>absurd (show b∈([]:List Addr) from hb) (by simp),λPt t e=>⟨#[],by
   rw[<- hH];show (if Pt=a then u else ((tsOf K).lookup Pt).map λt=>HO.tbl (encT t))=_;rw[if_neg (λz=>by rw[z,aT] at e; cases e),e]; simp⟩,hok,.of_eq hg⟩
  refine uq ((F _ hKb (nsK hns)).run callerA [] s₁ H ⟨[.ref a],[]⟩ [.ref a] [.ref a] _ _ hr e0 (hbind s₁ (.ref a)) (.cons rfl .nil) (hsp H hS)) λr s' h =>?_
  cases r with
  | error e=>exact(hCX H e s' h).elim
  | ok fl=>
   cases fl with
   | next=>exact False.elim h
   | brk=>exact False.elim h
   | cont=>exact False.elim h
   | ret v0=>
    obtain⟨v,H',os,bare,un,hok',r',q⟩:=h;have q':v = .bl true:=q;subst q';obtain rfl:v0=Value.bool true:=r';refine⟨rfl,⟨λb o e =>?_,λb o e=>un.there b o e (by simp)⟩,os,bare⟩
    cases q:H b with
    | none=>exact .inl (un.keep b o e q (by intro z; exact absurd (show b∈([]:List Addr) from z) (by simp)) (by simp))
    | some v=>
     rcases at_ q with ⟨rfl,z⟩ | ⟨_,t,q2,rfl⟩
     ·rcases hu with hu | ⟨_,hu⟩
      ·rw[hu] at z; cases z
      ·rw[hu] at z
       cases z
       obtain⟨e2,_⟩:=hok' _ _ (un.frzs _ _ _ q);rw[ha] at e
       cases e
       exact .inl e2
     ·have e1:=hT b t q2;rw[e] at e1
      cases e1
      obtain⟨more,q3⟩:=un.tbls b _ q;obtain⟨c,hc⟩:=z7c q2;obtain⟨_,oc,vc,c1,c2,c3,c4⟩:=z6h hc
      rcases hok' b _ q3 with z | ⟨l,c,_,_,c',_,_,_,_,_,_,z,_⟩
      ·exact .inl z
      ·exact .inr (.inl ⟨⟨_,oc,vc,KX _ _ c1,c2,c3,c4⟩,rfl, #[], #[l,c,.ref c'],rfl,by rw[z]; simp⟩)
 cases hk:K.lookup a with
 | some o=>
  have e:=KX a o hk;rw[ha] at e
  cases e
  exact core none (.inr ⟨_,vs.toArray,_,hk,rfl,rfl,rfl,by rw[wv,lenV]; exact hl,by simpa using rv⟩) (.inl rfl)
 | none=>exact core _ (.inl (.inr ⟨_,if_pos rfl⟩)) (.inr ⟨hk,rfl⟩)
def zef {l:PySem.W.OpenLaw}{n k:Nat}{q:Program}{loose:List Str}{XP:(Str->Option Value)->Heap->Prop}{YP:World->Heap->Prop}{d:DefRec}{K:Params->W.Frag}{CX:World->CXT}{sp:World->Sp}{x:Str}
  (hn:l.most=some n) (hn2:n<=sizeLine) (hdf:d.params.defaults=[]) (hr:Room k callerA)
  (hY:∀(w:World) (h:Heap),YP w h->(K w.params).In h) (hT:∀(w:World) (h:Heap),YP w h->∀P t,(tsOf (K w.params)).lookup P=some t->h.get? P=some { cls :=.none,data :=.fields #[] })
  (F:∀(w:World) (mg:Str->Option Value) (fa:Addr) (h:Heap),(K w.params).In h->h.Ns mainGlobals mg->mg d.name=some (.ref fa)->
   ∃fd:FuncData,(∀(s:Shared) (u:Value),BindsTo s fd ⟨[u],[]⟩ [(x,u)])/\
    ∀base:Heap,(K w.params).In base->base.Ns mainGlobals mg->FnOk l.prog w (K w.params) mg base (CX w) k fa fd [x] (sp w))
  (hsp:∀(w:World) (H:Hp) (a:Addr) (ns:List Int),ns.length<=n->SqL (K w.params) H a (ns.map V.int)->sp w [.ref a] H (λv _=>v = .bl true) λ_ _ _=>False)
  (hCX:∀(w:World) (H:Hp) (s:Shared) (e:Value) (s':Shared),CX w [] H s (λ_ _ _=>False) e s'->False):
  PySem.W.WalkO q loose XP YP l.row.toRowW d [] (λf vs=>PySem.call f vs):=by
 refine Att.z8K hn hdf λw s₀ s₁ mg mb fa o pm cd doc a vs ns G Y ho hd hcd hmg hobj hints hlen hg =>?_;have KX:=hY w _ Y;obtain⟨fd,hb,hF⟩:=F w mg fa _ KX G.T.g hmg;exact zdh KX G.T.g G.T.b G.T.builtins G.T.nolimit G.T.bmain hg hobj hints (wQ hlen hn2) hr (hT w _ Y) hF hb (λH hS=>hsp w H a ns hlen hS) λH e s'=>hCX w H s₁ e s'
def z3G (s:Stmt)(j:Nat):Stmt:=match s with
 | .ClassDef _ _ _ body _ _ _ _ _ _ _=>body.getD j (.Pass ⟨0,0,0,0⟩)
 | _ =>.Pass ⟨0,0,0,0⟩
def z2d (s:Stmt):Arguments:=match s with
 | .FunctionDef _ a _ _ _ _ _ _ _ _=>a
 | _=>{ posonlyargs:=[],args:=[],vararg:=none,kwonlyargs:=[],kw_defaults:=[],kwarg:=none,defaults:=[] }
def z15 (s:Stmt):List Stmt:=match s with
 | .FunctionDef _ _ b _ _ _ _ _ _ _=>b
 | _=>[]
def z01 (s:Stmt):Scope:=match s with
 | .FunctionDef _ _ _ _ _ _ sc _ _ _=>sc
 | _=>{ kind :=.function,names:=[],isGenerator:=false,isCoroutine:=false }
abbrev E0:XK:=λ_ _ _=>False
structure Fun (K:W.Frag)(x qual:Str)(st:Stmt)(f:Addr)(fd:FuncData):Prop where
 ex:∃(oc:Value) (od:Option Addr) (kV doc pm:Value) (an:Option Addr) (cdv ct:Value) (osl:Array (Option Value)),
  fd=PySem.W.fnOf x qual (z2d st) (z15 st) (z01 st) .none kV doc pm an cdv ct/\K.lookup f=some ⟨oc,od,.func fd,osl⟩/\PySem.W.codeIn K cdv qual=true
 kp:PySem.W.keepIn K (.ref f)=true
section
variable {P:Program}{w:World}{K:W.Frag}{mg:Str->Option Value}{base:Heap}
def Fun.binds {x qual:Str}{st:Stmt}{f:Addr}{fd:FuncData}{ps:List Str}(F:Fun K x qual st f fd)
  (h:∀(kV doc pm:Value) (an:Option Addr) (cdv ct:Value) (us:List Value),us.length=ps.length->bindArgs (PySem.W.fnOf x qual (z2d st) (z15 st) (z01 st) .none kV doc pm an cdv ct) ⟨us,[]⟩=pure (ps.zip us)):z3i K fd ps []:=by
 obtain⟨oc,od,kV,doc,pm,an,cdv,ct,osl,rfl,lk,hcd⟩:=F.ex;exact .all (h kV doc pm an cdv ct)
def z7J {x qual:Str}{st:Stmt}{f:Addr}{oc:Value}{od an:Option Addr}{osl:Array (Option Value)}{kV doc pm cdv ct:Value}(l:K.lookup f=some ⟨oc,od,.func (PySem.W.fnOf x qual (z2d st) (z15 st) (z01 st) .none kV doc pm an cdv ct),osl⟩)
  (c:PySem.W.codeIn K cdv qual=true) (k:PySem.W.keepIn K (.ref f)=true):Fun K x qual st f (PySem.W.fnOf x qual (z2d st) (z15 st) (z01 st) .none kV doc pm an cdv ct):=⟨⟨oc,od,kV,doc,pm,an,cdv,ct,osl,rfl,l,c⟩,k⟩
end
section
variable {X:Cx}
def pv (i:Nat){x:Str}{pos:Pos}(hN:X.N[i]? = some x:=by rfl)(hv:Vis X.env.scope x:=by first | exact Or.inl rfl | exact Or.inr (Or.inl rfl) | exact Or.inr (Or.inr rfl))(hd:(x == ("__debug__":Str))=false:=by decide)
  (hcd:(x == ("__classdict__":Str))=false:=by decide):PE X (.Name x pos) (tVar i):=zbc hN hv hd hcd
end
def iteF {A B:Prop}(h:B):if false=true then A else B:=by
 rw[if_neg wF];exact h
def iteT {A B:Prop}(h:A):if true=true then A else B:=by
 rw[if_pos rfl];exact h
def Same (H H':Hp):Prop:=∀b o,H b=some o->H' b=some o
def Same.seq {K:W.Frag}{H H':Hp}{a:Addr}{xs:List V}(e:Same H H')(h:SqL K H a xs):SqL K H' a xs:=by
 rcases h with (h | ⟨o,h⟩) | h
 ·exact .inl (.inl (e _ _ h))
 ·exact .inl (.inr ⟨o,e _ _ h⟩)
 ·exact .inr h
end L2
set_option maxHeartbeats 4000000
namespace L2
open PySem PySem.Spec PyProof.Rows
open Builtin.Int (intBits)
abbrev Bt (n:Nat)(i:Int):Prop:=intBits i<=n
def Bt.le {m n:Nat}{i:Int}(h:Bt m i)(q:m<=n:=by decide):Bt n i:=wQ h q
def z3q {n:Nat}{i:Int}(h:i.natAbs<2 ^ n):Bt n i:=PySem.intBits_le_iff.mpr h
def Bt.add {m n:Nat}{i j:Int}(h:Bt m i)(q:Bt n j):Bt (max m n+1) (i+j):=PySem.intBits_add_le h q
def Bt.sub {m n:Nat}{i j:Int}(h:Bt m i)(q:Bt n j):Bt (max m n+1) (i - j):=PySem.intBits_sub_le h q
def Bt.mul {m n:Nat}{i j:Int}(h:Bt m i)(q:Bt n j):Bt (m+n) (i*j):=PySem.intBits_mul_le h q
def Bt.neg {m:Nat}{i:Int}(h:Bt m i):Bt m (-i):=PySem.intBits_neg_le h
def zfz (i j:Int):Prop:=Bt 60000000 i/\Bt 60000000 j
def zim (_ j:Int):Prop:=j≠0/\Bt 9000 j
def zbu {j:Int}(h0:j≠0)(h:Bt 9000 j):j.natAbs.log2<9000:=by
 have e:intBits j=j.natAbs.log2+1:=by
  unfold Builtin.Int.intBits;rw[if_neg (by simpa using h0)]
 have h':intBits j<=9000:=h;omega
section
variable {X:Cx}{a b c:Expr}{ta tb tc:TE}{pos:Pos}
def zfc:OpR X (binaryOp .Mult) (rI zfz λi j =>.int (i*j)):=opI λ_ _ _ _ _ _ _ hc q=>mul_int q (IntMulOk.of_le hc.1 hc.2 (by decide))
def zd2:OpR X (binaryOp .FloorDiv) (rI zim λi j =>.int (i.fdiv j)):=opI λ_ _ _ _ _ _ _ hc q=>floordiv_int hc.1 q (.inl (PyProof.noPylong_of_log2 (zbu hc.1 hc.2)))
end
mutual
def Rp (K:W.Frag)(H:Hp):PyData->V->Prop
 | .none,v=>v = .non
 | .bool b,v=>v = .bl b
 | .int i,v=>v = .int i
 | .str x,v=>v = .str x
 | .list ds,v=>∃a xs,v = .ref a/\SqL K H a xs/\RpL K H ds xs
 | .tuple ds,v=>∃a xs,v = .ref a/\SqT K H a xs/\RpL K H ds xs
 | .dict _,_=>False
def RpL (K:W.Frag)(H:Hp):List PyData->List V->Prop
 | [],xs=>xs=[]
 | d::ds,xs=>∃x r,xs=x::r/\Rp K H d x/\RpL K H ds r
end
def Same.seqT {K:W.Frag}{H H':Hp}{a:Addr}{xs:List V}(e:Same H H')(h:SqT K H a xs):SqT K H' a xs:=by
 rcases h with (h | ⟨o,h⟩) | h
 ·exact .inl (.inl (e _ _ h))
 ·exact .inl (.inr ⟨o,e _ _ h⟩)
 ·exact .inr h
mutual
theorem Rp.same {K:W.Frag}{H H':Hp}(e:Same H H'):∀(d:PyData) {v:V},Rp K H d v->Rp K H' d v
 | .none,_,h=>by simpa[Rp] using h
 | .bool _,_,h=>by simpa[Rp] using h
 | .int _,_,h=>by simpa[Rp] using h
 | .str _,_,h=>by simpa[Rp] using h
 | .list ds,_,h=>by
  rw[Rp] at h ⊢;obtain⟨a,xs,h1,h2,h3⟩:=h;exact⟨a,xs,h1,e.seq h2,RpL.same e ds h3⟩
 | .tuple ds,_,h=>by
  rw[Rp] at h ⊢;obtain⟨a,xs,h1,h2,h3⟩:=h;exact⟨a,xs,h1,e.seqT h2,RpL.same e ds h3⟩
 | .dict _,_,h=>by simp[Rp] at h
theorem RpL.same {K:W.Frag}{H H':Hp}(e:Same H H'):∀(ds:List PyData) {xs:List V},RpL K H ds xs->RpL K H' ds xs
 | [],_,h=>by simpa[RpL] using h
 | d::ds,_,h=>by
  rw[RpL] at h ⊢;obtain⟨x,r,h1,h2,h3⟩:=h;exact⟨x,r,h1,Rp.same e d h2,RpL.same e ds h3⟩
end
section
variable {X:Cx}{pins:List (Addr × Obj)}{σ:St}{H:Hp}{s:Shared}
mutual
theorem Rp.reads (I:Inv X pins σ H s):∀(d:PyData) {v:V}{u:Value},Rp X.K H d v->RelV v u->∃as,Reads s.heap u d as
 | .none,v,u,h,r=>by
  rw[Rp] at h; subst h
  cases (show u=Value.none from r); exact⟨_,.none⟩
 | .bool b,v,u,h,r=>by
  rw[Rp] at h; subst h
  cases (show u=Value.bool b from r); exact⟨_,.bool b⟩
 | .int i,v,u,h,r=>by
  rw[Rp] at h; subst h;obtain⟨t,rfl⟩:=(show ∃t,u=Value.int i t from r); exact⟨_,.int i t⟩
 | .str x,v,u,h,r=>by
  rw[Rp] at h; subst h;obtain⟨t,rfl⟩:=(show ∃t,u=Value.str x t from r); exact⟨_,.str x t⟩
 | .list ds,v,u,h,r=>by
  rw[Rp] at h;obtain⟨a,xs,rfl,h2,h3⟩:=h
  cases (show u=Value.ref a from r)
  obtain⟨its,hv,⟨o,n,e,hc,_,hd⟩,_⟩:=I.list h2;obtain⟨as,q⟩:=RpL.reads I ds h3 hv;exact⟨_,.list e hc hd (by simpa using q)⟩
 | .tuple ds,v,u,h,r=>by
  rw[Rp] at h;obtain⟨a,xs,rfl,h2,h3⟩:=h
  cases (show u=Value.ref a from r)
  obtain⟨its,hv,⟨o,e,hc,n,hd⟩,_⟩:=I.tuple h2;obtain⟨as,q⟩:=RpL.reads I ds h3 hv;exact⟨_,.tuple e hc hd (by simpa using q)⟩
 | .dict _,v,u,h,r=>by simp[Rp] at h
theorem RpL.reads (I:Inv X pins σ H s):∀(ds:List PyData) {xs:List V}{us:List Value},RpL X.K H ds xs->Vals xs us->∃as,ReadsAll s.heap us ds as
 | [],xs,us,h,r=>by
  rw[RpL] at h; subst h
  cases r; exact⟨_,.nil⟩
 | d::ds,xs,us,h,r=>by
  rw[RpL] at h;obtain⟨x,t,rfl,h2,h3⟩:=h
  cases r with
  | cons r1 r2=>
   obtain⟨as,q⟩:=Rp.reads I d h2 r1;obtain⟨bs,q'⟩:=RpL.reads I ds h3 r2;exact⟨_,.cons q q'⟩
end
end
section
variable {X:Cx}
def rEqD (K:W.Frag)(neg:Bool):R2:=λx y H Q=>∃d e,Rp K H d x/\Rp K H e y/\PySem.SeqAt.shaped d=true/\PySem.SeqAt.shaped e=true/\Q (.bl (if neg then !PyData.eqv d e else PyData.eqv d e)) H
def zhg (hu:X.A.units+64<cLine):OpR X (compareOp .Eq) (rEqD X.K false):=by
 intro pins s σ H x y v u Q I rx ry h;obtain⟨d,e,h1,h2,h3,h4,q⟩:=h;obtain⟨as,r1⟩:=Rp.reads I d h1 rx;obtain⟨bs,r2⟩:=Rp.reads I e h2 ry;exact eq_dataH r1 r2 h3 h4 hu ⟨.bl (PyData.eqv d e),H,I,rfl,q⟩
def zhb (hu:X.A.units+64<cLine):OpR X (compareOp .NotEq) (rEqD X.K true):=by
 intro pins s σ H x y v u Q I rx ry h;obtain⟨d,e,h1,h2,h3,h4,q⟩:=h;obtain⟨as,r1⟩:=Rp.reads I d h1 rx;obtain⟨bs,r2⟩:=Rp.reads I e h2 ry;exact ne_dataH r1 r2 h3 h4 hu ⟨.bl (!PyData.eqv d e),H,I,rfl,q⟩
end
structure Cal (P:Program)(w:World)(K:W.Frag)(mg:Str->Option Value)(base:Heap)(CX:CXT)(k:Nat)(x:Str)(ps:List Str)(sp:Sp):Prop where
 ex:∃f fd,FnOk P w K mg base CX k f fd ps sp/\mg x=some (.ref f)/\PySem.W.keepIn K (.ref f)=true/\z3i K fd ps []
section
variable {X:Cx}{CX:CXT}{k:Nat}{ps:List Str}{sp:Sp}{E:XK}{x:Str}{p pos:Pos}{e:Expr}{es:List Expr}{t:TA}
def ziV (C:Cal X.prog X.w X.K X.mg X.base CX k x ps sp)(hr:Room k X.A)(hx:z1D CX X E)(ha:PA X (e::es) t)(hg:Gl X x:=by rfl)
  (hdb:(x == ("__debug__":Str))=false:=by decide) (he:starEach (e::es) X.env=(false,eval e X.env)::starEach es X.env:=by rfl) (hpl:(backTo pos (starEach es X.env)).any (·.1)=false:=by rfl):
  PE X (.Call (.Name x p) (e::es) [] pos) (zcp sp [] E t):=by
 obtain⟨f,fd,F,hm,hk,hb⟩:=C.ex;exact zf9 F hr hg hm hk hb .nil hx ha hdb he hpl
end
end L2
namespace L2
open PySem PySem.Spec PyProof.Rows
section
variable {P:Program}{w:World}{H:Hp}{h h':Heap}{a:Addr}{o:HO}
def HOk.track (x:HOk P w H h)(hn:H a=none)(new:z1l P w (upd H a o) h a o):HOk P w (upd H a o) h:=λb u e=>by
 by_cases hb:b=a
 ·subst hb; rw[z09] at e; cases e; exact new
 ·rw[z04 hb] at e;exact(x b u e).stay (λc v _ q=>q) (λc q=>by rw[z04 (z0p q hn)]; exact q) λc xs q=>by rw[z04 (z0p q hn)]; exact q
def HOk.other (x:HOk P w H h)(hn:H a=none)(k:∀b u,b≠a->h.get? b=some u->h'.get? b=some u):HOk P w H h':=λb u e=>by
 have nit:∀c v,H c=some v->c≠a:=λc v q z=>by rw[z,hn] at q; cases q
 refine(x b u e).stay (λc v hc q=>k c v ?_ q) (λ_ q=>q) λ_ _ q=>q
 rcases hc with z | z
 ·rw[z]; exact nit b u e
 ·exact nit c _ z
end
def z9w {i:Int}(h1 : -(2 ^ 64)<i)(h2:i<2 ^ 64):Bt 9000 i:=wQ (PySem.intBits_le_64 h1 h2) (by decide)
def bt_k {i:Int}(h:i.natAbs<2 ^ 640):Bt 640 i:=z3q h
def bt_n {i:Int}(h0:0<=i)(h:i<2 ^ 640):Bt 640 i:=z3q (by lia)
def zfI (t:TA):TE:=λσ H Q=>t σ H λxs H1=>xs.length<=sizeLine/\∀p H2,Same H1 H2->H2 p=some (.tup xs)->Q (.ref p) H2
def z1g {H:Hp}{p:Addr}(h:H p=none)(o:HO):Same H (upd H p o):=λb u q=>by rw[z04 (z0p q h)]; exact q
def PE.imp {X:Cx}{e:Expr}{t t':TE}(h:PE X e t)(i:∀σ H Q,t' σ H Q->t σ H Q):PE X e t':=λpins s σ H Q I q=>h pins s σ H Q I (i σ H Q q)
def OpR.imp {X:Cx}{f:Value->Value->Sem Value}{r r':R2}(h:OpR X f r)(i:∀x y H Q,r' x y H Q->r x y H Q):OpR X f r':=λpins s σ H x y v u Q I rx ry q=>h pins s σ H x y v u Q I rx ry (i x y H Q q)
section
variable {X:Cx}{es:List Expr}{t:TA}{pos:Pos}
def zf5 {x1}(h:PA X es t):PE X (.Tuple es x1 pos) (zfI t):=by
 intro pins s σ H Q I hq;refine wpAny_Tuple_spliced (thn (h pos pins s σ H _ I hq) λus s1 ⟨xs,H1,I1,r,z,q⟩=>⟨by rw[<- r.length]; exact z,?_⟩);have hf:H1 s1.heap.objs.size=none:=I1.hok.fresh (wc _);refine⟨.ref s1.heap.objs.size,upd H1 s1.heap.objs.size (.tup xs),I1.laid (t':=s1.toks) (λb u e=>wd _ e) (wc _) ?_,rfl,q _ _ (z1g hf _) z09⟩;exact⟨z,us,r,⟨_,wy _ rfl,rfl,_,rfl⟩,_,wy _ rfl,rfl⟩
def SlR.imp {r r':V->Option Int->Option Int->Hp->VK->Prop}(h:SlR X r)(i:∀x lo hi H Q,r' x lo hi H Q->r x lo hi H Q):SlR X r':=by
 unfold SlR at h ⊢
 intros
 apply h
 all_goals first | assumption | (apply i; assumption)
end
structure QE (X:Cx)(e:Expr)(t:TE):Prop where
 p:PE X e t
structure QT (X:Cx)(e:Expr)(t:TT):Prop where
 p:PT X e t
structure QW (X:Cx)(e:Expr)(t:TT):Prop where
 p:PW X e t
structure QA (X:Cx)(es:List Expr)(t:TA):Prop where
 p:PA X es t
structure QS (X:Cx)(st:Stmt)(t:TS):Prop where
 p:PS X st t
structure QSs (X:Cx)(st:List Stmt)(t:TS):Prop where
 p:PSs X st t
structure QG (X:Cx)(e:Expr)(t:TG):Prop where
 p:PG X e t
structure QGs (X:Cx)(es:List Expr)(t:TGs):Prop where
 p:PGs X es t
structure QI (X:Cx)(tg e:Expr)(t:TI):Prop where
 p:PI X tg e t
structure QO (X:Cx)(e:Option Expr)(t:TO):Prop where
 p:PO X e t
section
variable {X:Cx}{a b c e f o:Expr}{ta tb tc te:TE}{pos pos2 p2:Pos}{tA tB':TT}{rest:List Expr}{es:List Expr}{aa:TA}
def zgF {i j pos}:QE X (.Constant (.int i) j pos) (tC (.int i)):=⟨z93⟩
def ziN {i j pos}:QE X (.Constant (.bool i) j pos) (tC (.bl i)):=⟨ziX⟩
def zgC {j pos}:QE X (.Constant .none j pos) (tC .non):=⟨zgY⟩
def zgA {x j pos}:QE X (.Constant (.str x) j pos) (tC (.str x)):=⟨zdU⟩
def qv (i:Nat){x:Str}{pos:Pos}(hN:X.N[i]? = some x:=by rfl)(hv:Vis X.env.scope x:=by first | exact Or.inl rfl | exact Or.inr (Or.inl rfl) | exact Or.inr (Or.inr rfl))(hd:(x == ("__debug__":Str))=false:=by decide)
  (hcd:(x == ("__classdict__":Str))=false:=by decide):QE X (.Name x pos) (tVar i):=⟨zbc hN hv hd hcd⟩
def ziL {op:Operator}{r:R2}(ho:OpR X (binaryOp op) r)(ha:QE X a ta)(hb:QE X b tb):QE X (.BinOp a op b pos) (tOp r ta tb):=⟨ziT ho ha.p hb.p⟩
def ziK {op:UnaryOp}{r:V->Hp->VK->Prop}(ho:UnR X (unaryOp op) r)(ha:QE X a ta):QE X (.UnaryOp op a pos) (tUn r ta):=⟨ziS ho ha.p⟩
def zgB {op}{t:TE}(h:QE X a t):QE X (.BoolOp op [a] pos) t:=⟨zgX h.p⟩
def zgH (ha:QE X a ta)(hb:QE X (.BoolOp .And (b::rest) pos) tb):QE X (.BoolOp .And (a::b::rest) pos) (zfQ ta tb):=⟨zh3 ha.p hb.p⟩
def zeU {op:CmpOp}{r:R2}(ho:OpR X (compareOp op) r)(ha:QE X a ta)(hb:QE X b tb)(hm:behindInMarks op b=false):QE X (.Compare a [op] [b] pos) (tOp r ta tb):=⟨zf8 ho ha.p hb.p hm⟩
def zaV {op:CmpOp}{r:R2}(ho:OpR X (compareOp op) r)(ha:QE X a ta)(hb:QE X b tb)(hm:behindInMarks op b=false):QT X (.Compare a [op] [b] pos) (zao (tOp r ta tb)):=⟨zeW ho ha.p hb.p hm⟩
def zcL {op op':CmpOp}{r r':R2}(ho:OpR X (compareOp op) r)(ho':OpR X (compareOp op') r')(ha:QE X a ta)(hb:QE X b tb)(hc:QE X c tc)(hm:lastMarks [op,op'] [b,c]=false:=by with_unfolding_all rfl):QE X (.Compare a [op,op'] [b,c] pos) (z7d r r' ta tb tc):=⟨zcZ ho ho' ha.p hb.p hc.p hm⟩
def zcE {op op':CmpOp}{r r':R2}(ho:OpR X (compareOp op) r)(ho':OpR X (compareOp op') r')(ha:QE X a ta)(hb:QE X b tb)(hc:QE X c tc)(hm:lastMarks [op,op'] [b,c]=false:=by with_unfolding_all rfl):QT X (.Compare a [op,op'] [b,c] pos) (zao (z7d r r' ta tb tc)):=⟨zcO ho ho' ha.p hb.p hc.p hm⟩
def zgm {t:TE}(h:QE X e t)(he:∀whole,isTrue e X.env whole=(do let v <- whole; standAt e.pos; holding [v] (truthy v)):=by intro _; rfl):QT X e (tB t):=⟨zgJ h.p he⟩
def zgn (ha:QT X a tA):QT X (.UnaryOp .Not a pos) (tNot tA):=⟨zgK ha.p⟩
def zgl (ha:QT X a tA):QW X (.BoolOp .Or [a] pos) tA:=⟨zgI ha.p⟩
def ziI (ha:QT X a tA)(hb:QW X (.BoolOp .Or (b::rest) pos) tB'):QW X (.BoolOp .Or (a::b::rest) pos) (tOr tA tB'):=⟨ziO ha.p hb.p⟩
theorem QW.pt {t:TT}(h:QW X e t):QT X e t:=⟨h.p.pt⟩
def zb5 {x:Str}{v:V}{u:Value}(hg:Gl X x)(hm:X.mg x=some u)(r:RelV v u)(hd:(x == ("__debug__":Str))=false:=by decide):QE X (.Name x pos) (tC v):=⟨z8j hg hm r hd⟩
def zcK {x y:Str}(hg:Gl X x)(hm:∃t,X.mg x=some (.str y t))(hd:(x == ("__debug__":Str))=false:=by decide):QE X (.Name x pos) (tC (.str y)):=by
 obtain⟨t,hm⟩:=hm;exact⟨z8j hg hm ⟨t,rfl⟩ hd⟩
def z4m {x:Str}{y:Int}(hg:Gl X x)(hm:∃t,X.mg x=some (.int y t))(hd:(x == ("__debug__":Str))=false:=by decide):QE X (.Name x pos) (tC (.int y)):=by
 obtain⟨t,hm⟩:=hm;exact⟨z8j hg hm ⟨t,rfl⟩ hd⟩
def z2p {x:Str}{v:V}{u:Value}(hg:Gl X x)(hm:X.mg x=none)(hv:bootBuiltins x=some u)(r:RelV v u)(hn:x≠"__name__":=by decide)(hd:(x == ("__debug__":Str))=false:=by decide):QE X (.Name x pos) (tC v):=⟨zfa hg hm hv r hn hd⟩
def z7s:QA X [] tNil:=⟨z5x⟩
def z46 (ha:QE X e te)(hr:QA X es aa)(hs:starEach (e::es) X.env=(false,eval e X.env)::starEach es X.env:=by rfl):QA X (e::es) (zfP te aa):=⟨z4Q ha.p hr.p hs⟩
def zeT {CX:CXT}{k:Nat}{ps:List Str}{sp:Sp}{E:XK}{x:Str}{pp:Pos}(C:Cal X.prog X.w X.K X.mg X.base CX k x ps sp)(hr:Room k X.A)(hx:z1D CX X E)(ha:QA X (e::es) aa)(hg:Gl X x:=by rfl)
  (hdb:(x == ("__debug__":Str))=false:=by decide) (he:starEach (e::es) X.env=(false,eval e X.env)::starEach es X.env:=by rfl) (hpl:(backTo pos (starEach es X.env)).any (·.1)=false:=by rfl):QE X (.Call (.Name x pp) (e::es) [] pos) (zcp sp [] E aa):=⟨ziV C hr hx ha.p hg hdb he hpl⟩
def z5d {x:Str}{pp:Pos}{id:String}{r:List V->Hp->VK->Prop}(hc:z1v X (.builtin id) r)(hg:Gl X x)(hm:X.mg x=none)(hv:bootBuiltins x=some (.builtin id))(ha:QA X (e::es) aa)(hn:x≠"__name__":=by decide)(hdb:(x == ("__debug__":Str))=false:=by decide)
  (he:starEach (e::es) X.env=(false,eval e X.env)::starEach es X.env:=by rfl) (hpl:(backTo pos (starEach es X.env)).any (·.1)=false:=by rfl):QE X (.Call (.Name x pp) (e::es) [] pos) (tCB r aa):=⟨zd0 hc hg hm hv ha.p hn hdb he hpl⟩
def z7r {x:Str}{pp:Pos}{id:String}{r:List V->Hp->VK->Prop}(hc:z1v X (.type id) r)(hg:Gl X x)(hm:X.mg x=none)(hv:bootBuiltins x=some (.type id))(ha:QA X (e::es) aa)(hn:x≠"__name__":=by decide)(hdb:(x == ("__debug__":Str))=false:=by decide)
  (he:starEach (e::es) X.env=(false,eval e X.env)::starEach es X.env:=by rfl) (hpl:(backTo pos (starEach es X.env)).any (·.1)=false:=by rfl):QE X (.Call (.Name x pp) (e::es) [] pos) (tCB r aa):=⟨zbe hc hg hm hv ha.p hn hdb he hpl⟩
def ziM {r:R2}(hr:IxR X r)(ha:QE X a ta)(hb:QE X b tb)(hs:z8M b):QE X (.Subscript a b pos) (tOp r ta tb):=⟨ziU hr ha.p hb.p hs⟩
def zeQ:QO X none zaq:=⟨zf2⟩
def zeP (h:QE X e te):QO X (some e) (zfK te):=⟨zf1 h.p⟩
def zcJ {r:V->Option Int->Option Int->Hp->VK->Prop}{lo hi:Option Expr}{tl th:TO}(hr:SlR X r)(he:QE X e te)(hl:QO X lo tl)(hu:QO X hi th):QE X (.Subscript e (.Slice lo hi none p2) pos) (tSl r te tl th):=⟨zcU hr he.p hl.p hu.p⟩
def zeS {x1}(h:QA X es aa):QE X (.Tuple es x1 pos) (zfI aa):=⟨zf5 h.p⟩
def zgG {T id:String}{name:Str}{apos cpos:Pos}{r:V->List V->Hp->VK->Prop}(pa:PlainAttrs T)(slot:Slot T name id)(hty:typeOf (.builtin id)=pure (.type "method_descriptor"))(hm:MtR X id r)(ho:QE X o te)
  (hbase:attributeBase o name X.env (eval o X.env)=eval o X.env:=by rfl) (hline:(apos.endLine == cpos.line)=true:=by rfl):QE X (.Call (.Attribute o name apos) [] [] cpos) (tBM0 X.K T r te):=⟨zh2 pa slot hty hm ho.p hbase hline⟩
def zcM {T id:String}{name:Str}{apos cpos:Pos}{r:V->List V->Hp->VK->Prop}(pa:PlainAttrs T)(slot:Slot T name id)(hty:typeOf (.builtin id)=pure (.type "method_descriptor"))(hm:MtR X id r)(ho:QE X o te)(ha:QA X (e::es) aa)
  (hbase:attributeBase o name X.env (eval o X.env)=eval o X.env:=by rfl)
  (hfew:((backTo cpos (starEach (e::es) X.env)).all (λx => !x.1) && (backToKw cpos (keywordEach [] X.env)).all (λx=>x.1.isSome)
   && decide ((e::es).length+([]:List Keyword).length+(if ([]:List Keyword).isEmpty then 0 else 1)<30))=true:=by rfl)
  (hline:(apos.endLine == cpos.line)=true:=by rfl) (hs:starEach (e::es) X.env=(false,eval e X.env)::starEach es X.env:=by rfl) (hplain:(backTo cpos (starEach es X.env)).any (·.1)=false:=by rfl):
  QE X (.Call (.Attribute o name apos) (e::es) [] cpos) (tBM X.K T r te aa):=⟨ziW pa slot hty hm ho.p ha.p hbase hfew hline hs hplain⟩
end
section
variable {X:Cx}{st:Stmt}{rest body a b:List Stmt}{t u tb:TS}{e tg c iter:Expr}{te:TE}{tc:TT}{pos:Pos}{g:TG}{wi:TI}{aa:TA}
def zaX:QSs X [] zfL:=⟨zeX⟩
def z90 (h1:QS X st t)(h2:QSs X rest u):QSs X (st::rest) (tSeq t u):=⟨z4o h1.p h2.p⟩
def z8g (h1:QS X st t):QSs X [st] t:=⟨zb6 h1.p⟩
def zcG:QS X st zdB:=⟨zcP⟩
def zgo (he:QE X e te):QS X (.Return (some e) pos) (tRet te):=⟨zgN he.p⟩
def z6N (he:QE X e te)(hs:swapsWith e none pos.line X.env=pure false:=by rfl):QS X (.Expr e pos) (zfN te):=⟨zeY he.p hs⟩
def zaZ (hc:QT X c tc)(ha:QSs X a t)(hb:QSs X b u):QS X (.If c a b pos) (tIfS tc t u):=⟨ziP hc.p ha.p hb.p⟩
def zdO (hp:PassesOwn (model X.prog X.w) X.A X.env X.xe)(hc:X.calm=true)(hi:QI X tg iter wi)(hg:QG X tg g)(hb:QSs X body tb)
  (hs:∀x,foldedSetIterable iter X.env x=pure x:=by intro _; rfl):QS X (.For tg iter body [] pos) (tFor wi g tb):=⟨zgP hp hc hi.p hg.p hb.p hs⟩
def zdP (he:QE X e te)(hg:QG X tg g)(hs:swapsWithSole [tg] e pos.line X.env=pure false:=by rfl)(hw:swappedStores [tg] e X.env=pure none:=by rfl)
  (h1:(assignEach [tg] X.env).map (·.2)=[assign tg X.env]:=by rfl):QS X (.Assign [tg] e pos) (tAsg te g):=⟨zgQ he.p hg.p hs hw h1⟩
def zeR:QGs X [] gNil:=⟨zf4⟩
def z91 {es:List Expr}{t:TG}{u:TGs}(h1:QG X e t)(h2:QGs X es u)
  (hs:(assignEach (e::es) X.env).map (·.2)=assign e X.env::(assignEach es X.env).map (·.2):=by rfl):QGs X (e::es) (za1 t u):=⟨zcT h1.p h2.p hs⟩
def z7q {a:Expr}{p:Pos}(hg:Gl X "range")(hm:X.mg "range"=none)(ha:QA X [a] aa)(hs:starEach [a] X.env=[(false,eval a X.env)]:=by rfl):QI X tg (.Call (.Name "range" p) [a] [] pos) (zi0 aa):=⟨zba hg hm ha.p hs⟩
end
def zh8 {K:W.Frag}{h0:Heap}{mg:Str->Option Value}{x:Str}{C:Addr}{bmB:List Value}{newId:String}(X:K.In h0)(hm:mg x=some (.ref C))(q:PySem.W.excIn K C bmB newId=true):OwnCls x C bmB newId mg h0:=by
 refine⟨hm,?_⟩;unfold PySem.W.excIn at q
 split at q
 ·rename_i dd cd sl ho
  split at q
  ·rename_i C' bm k0 k1 k2 k3 n k5 hm hs
   simp only[wM,vE,Bool.not_eq_true'] at q;obtain⟨⟨⟨⟨⟨rfl,rfl⟩,hdel⟩,ht⟩,hok⟩,hni⟩:=q;obtain⟨nm,bs,mro,ns,qn,hd,sn,sub,ab,col,del⟩:=cd;dsimp only at hm hdel hok hni;subst hm hdel;have hsl:sl = #[k0,k1,k2,k3,some (.builtin n),k5]:=by
    obtain⟨l⟩:=sl;simp only at hs;rw[hs]
   subst hsl;exact⟨bm,ns,nm,qn,bs,hd,sn,sub,ab,col,dd,k0,k1,k2,k3,k5,_,X _ _ ho,.of_isNs (PySem.W.isNs_of_in X hok),PySem.W.nsMap_none_of_in X hok hni,PySem.W.tail_of_in X ht⟩
  ·cases q
 ·cases q
structure Fly (P:Program)(w:World)(outer:List Env)(H:Hp)(h0:Heap)(Cv:Value)(H':Hp)(ea t:Addr)(B h:Heap):Prop where
 fl:Heap.FlyingW B outer ea Cv (.ref t) h
 un:Un (frs outer) [] H H' h0 h
 hok:HOk P w H' h
 trk:∀b o,H' b=some o->∃ob,B.get? b=some ob
 kep:∀b o,h0.get? b=some o->b ∉ frs outer->∃ob,B.get? b=some ob
def CXe (P:Program)(w:World):CXT:=λouter H s E e s'=>∃(ea t:Addr) (Cv:Value) (H':Hp) (B:Heap),e = .ref ea/\Fly P w outer H s.heap Cv H' ea t B s'.heap/\AllBare s'.gens/\s'.os=s.os/\E Cv none H'
section
variable {P:Program}{w:World}{outer:List Env}{H H':Hp}{h0 h h2:Heap}{Cv:Value}{ea t:Addr}{B:Heap}
def z1l.there {a:Addr}{o:HO}(x:z1l P w H h a o):∃ob,h.get? a=some ob:=by
 cases o with
 | lst xs=>obtain⟨_,_,_,_,e⟩:=x; exact⟨_,e⟩
 | tup xs=>obtain⟨_,_,_,⟨ob,e,_⟩,_⟩:=x; exact⟨_,e⟩
 | dK kvs=>obtain⟨_,_,_,_,o,_,_,e,_⟩:=x; exact⟨_,e⟩
 | dT kvs=>obtain⟨_,_,_,_,o,_,_,e,_⟩:=x; exact⟨_,e⟩
 | set S n=>obtain⟨o,_,_,_,e,_⟩:=x; exact⟨_,e⟩
 | ins C dx fs=>obtain⟨_,_,_,e,_⟩:=x; exact⟨_,e⟩
 | own y=>obtain⟨_,e⟩:=x; exact⟨_,e⟩
 | xd fs=>obtain⟨_,⟨_,_,_,e,_⟩,_⟩:=x; exact⟨_,e⟩
 | rng lo hi=>obtain⟨_,_,_,e⟩:=x; exact⟨_,e⟩
 | frz ob u=>obtain⟨e,_⟩:=x; exact⟨_,e⟩
 | tbl ps=>rcases x with e | ⟨_,_,_,_,_,_,_,_,_,_,_,e,_⟩ <;> exact⟨_,e⟩
 | met f y=>exact⟨_,(show h.get? a=some _ from x)⟩
 | ext φ=>obtain⟨_,⟨_,e⟩,_⟩:=x; exact⟨_,e⟩
def HOk.over (ok:HOk P w H' h)(trk:∀b o,H' b=some o->∃ob,B.get? b=some ob)(k1:B.StaysIn h)(k2:B.StaysIn h2):HOk P w H' h2:=λa o e=>
 (ok a o e).stay (λb u hb q=>by
  have hb':∃o',H' b=some o':=by
   rcases hb with z | z
   ·exact⟨o,by rw[z]; exact e⟩
   ·exact⟨_,z⟩
  obtain⟨o',hb'⟩:=hb';obtain⟨ob,z⟩:=trk b o' hb';have z1:=k1 b ob z;rw[q] at z1
  cases z1
  exact k2 b u z) (λ_ q=>q) λ_ _ q=>q
def Fly.free (x:Fly P w outer H h0 Cv H' ea t B h):H' ea=none:=by
 cases q:H' ea with
 | none=>rfl
 | some o=>
  obtain⟨ob,z⟩:=x.trk ea o q;have:=x.fl.2.1;rw[z] at this
  cases this
def Fly.on (x:Fly P w outer H h0 Cv H' ea t B h)(f:B.StaysIn h2)(sm:h.UpToSlots h2):Un (frs outer) [] H H' h0 h2/\HOk P w H' h2:=by
 have fr:∀b∈frs outer,∃o,h.get? b=some o/\∀vs,o.data ≠ .fields vs:=λb hb=>(x.fl.2.2.1.mem hb).2;refine⟨⟨λb o e n hb hx =>?_,λb o e n hb hx =>?_,x.un.free,λb o e hx =>?_,x.un.tups,x.un.frzs,x.un.tbls⟩,x.hok.over x.trk x.fl.1 f⟩
 ·obtain⟨ob,z⟩:=x.kep b o e hb;have z1:=x.fl.1 b ob z;rw[x.un.keep b o e n hb hx] at z1
  cases z1
  exact f b _ z
 ·obtain⟨sl,z⟩:=x.un.slot b o e n hb hx;obtain⟨o',z',d⟩:=fr b hb;rw[z] at z'
  cases z'
  obtain⟨sl',z2⟩:=sm b _ z d;exact⟨sl',z2⟩
 ·by_cases hb:b∈frs outer
  ·obtain⟨o',z',d⟩:=fr b hb;obtain⟨sl',z2⟩:=sm b _ z' d;exact⟨_,z2⟩
  ·obtain⟨ob,z⟩:=x.kep b o e hb;exact⟨ob,f b ob z⟩
end
section
variable {P:Program}{w:World}{K:W.Frag}{mg:Str->Option Value}{base:Heap}{N:List Str}{qual:Str}{sc:Scope}{f:Addr}{cdv:Value}{A:Around}{outer:List Env}{s:Shared}{H:Hp}{E:XK}
def z9I:z1D (CXe P w) ((cxOf (CXe P w) P w K mg base N qual sc f cdv A outer s H E).wish (cxOf (CXe P w) P w K mg base N qual sc f cdv A outer s H E).xe) E:=by
 intro pins σ H1 s1 e s' I hx;obtain⟨ea,t,Cv,H',B,rfl,F,hb,ho,q⟩:=hx;show wpAny (model P w) _ (leaving _ (.ref ea)) _ _ s';have hfr:=I.ok.frames;refine wpAny_leaves_onW hfr rfl F.fl λh2 hfl2 sm =>?_;obtain⟨un2,hok2⟩:=F.on hfl2.1 sm;have u1:Un (frs outer) [] H H1 s.heap s1.heap:=I.base;have sz:∀b o,s.heap.get? b=some o->b≠s.heap.objs.size:=λb o e=>wD (wo e);have nin:∀b o,s.heap.get? b=some o->b ∉ frs outer->b ∉ frs (envOfC qual sc s.heap.objs.size f cdv::outer):=λb o e hb z=>by
  rcases wx.mp (I.stkSub b z) with y | y
  ·exact sz b o e y
  ·exact hb y
 refine⟨ea,t,Cv,H',B,rfl,⟨hfl2,⟨λb o e n hb _ =>?_,λb o e n hb _ =>?_,λb o e n _ =>?_,λb o e _ =>?_,λb xs e=>un2.tups b xs (u1.tups b xs e),λb o u e=>un2.frzs b o u (u1.frzs b o u e),λb ps e =>?_⟩,hok2,F.trk,λb o e hb =>?_⟩,hb,ho.trans I.os,q⟩
 ·exact un2.keep b o (u1.keep b o e n hb (by simp)) (u1.free b o e n (by simp)) (nin b o e hb) (by simp)
 ·obtain⟨sl,z⟩:=u1.slot b o e n hb (by simp);obtain⟨sl2,z2⟩:=un2.any z (u1.free b o e n (by simp)) (by simp);exact⟨sl2,z2⟩
 ·obtain⟨o',z⟩:=u1.there b o e (by simp);exact un2.free b o' z (u1.free b o e n (by simp)) (by simp)
 ·obtain⟨o',z⟩:=u1.there b o e (by simp);exact un2.there b o' z (by simp)
 ·obtain⟨m1,e1⟩:=u1.tbls b ps e;obtain⟨m2,e2⟩:=un2.tbls b _ e1;exact⟨m1++m2,by rw[e2,Array.append_assoc]⟩
 ·obtain⟨o',z⟩:=u1.there b o e (by simp);exact F.kep b o' z (nin b o e hb)
end
section
variable {P:Program}{w:World}{K:W.Frag}{mg:Str->Option Value}{base:Heap}{N:List Str}{qual:Str}{sc:Scope}{f:Addr}{cdv:Value}{A:Around}{outer:List Env}{s:Shared}{H:Hp}{E:XK}
structure Exc (K:W.Frag)(mg:Str->Option Value)(x:Str)(C:Addr):Prop where
 nm:mg x=some (.ref C)
 ok:∃newId initId bm,ExcBaseFacts "ValueError" newId initId bm/\PySem.W.excIn K C bm newId=true
def zfJ (E:XK)(C:Addr):TS:=λ_ _ H=>E (.ref C) none H
def zcF {x:Str}{C:Addr}{m:Str}{np cpos pos p2:Pos}{j}(T:Exc K mg x C)(hg:Gl ((cxOf (CXe P w) P w K mg base N qual sc f cdv A outer s H E).wish (cxOf (CXe P w) P w K mg base N qual sc f cdv A outer s H E).xe) x)(hdb:(x == ("__debug__":Str))=false:=by decide):
  QS ((cxOf (CXe P w) P w K mg base N qual sc f cdv A outer s H E).wish (cxOf (CXe P w) P w K mg base N qual sc f cdv A outer s H E).xe) (.Raise (some (.Call (.Name x np) [.Constant (.str m) j p2] [] cpos)) none pos) (zfJ E C):=by
 constructor
 intro pins s1 σ H1 D I q;obtain⟨newId,initId,bmB,FB,hex⟩:=T.ok;obtain⟨bm,Nn,nm,qn,bs,hdct,sn,sub,ab,col,dd,k0,k1,k2,k3,k5,mN,hC,hN,hni,TT⟩:=(zh8 I.mod.kin T.nm hex).obj;refine wpAny_Raise_call_subT (C:=C) (nm:=nm) (q:=qn) (N:=Nn) (bs:=bs) (bm:=bm) (hdct:=hdct) (sn:=sn) (sub:=sub) (ab:=ab) (col:=col) (dd:=dd) (k0:=k0) (k1:=k1) (k2:=k2) (k3:=k3) (k5:=k5) FB (mN:=mN) (TT.hasType FB.hasBase) (I.ok.hd rfl) rfl hni (z4S I hg T.nm ⟨rfl,?_⟩ hdb);refine Calls.evalArgs_plain (wK ((z4Q zdU z5x) cpos pins s1 σ H1 (λvs H2=>vs=[V.str m]/\H2=H1) I ⟨rfl,rfl⟩) (λus s2 h2 =>?_) λ_ _ y=>y);obtain⟨vs,H2,I2,rv,rfl,rfl⟩:=h2;obtain⟨u,rfl,_⟩:=z6z rv;refine⟨rfl,(by show 1<=sizeLine; decide),I2.bk _ _ hC,hN.keeps I2.bk,TT.keeps I2.bk,λh' e hx =>?_⟩;show wpAny (model P w) _ (leaving _ (.ref e)) _ _ _;have fin:∀env∈(envOfC qual sc s.heap.objs.size f cdv::outer),∀b,env.frame=some b->b∈frs (envOfC qual sc s.heap.objs.size f cdv::outer):=λenv he b hb=>ud.mpr ⟨env,he,hb⟩;refine wpAny_leaves_madeW (base:=PySem.W.hideAll s2.heap (frs (envOfC qual sc s.heap.objs.size f cdv::outer))) (h:=s2.heap) I2.ok.frames rfl (λb o q=>PySem.W.of_hideAll _ q) (PySem.W.funFrames_hide I2.stack fin) hx λh2 t x1 x2 x3 x4 =>?_;have u1:Un (frs outer) [] H H2 s.heap s2.heap:=I2.base;have sz:∀b o,s.heap.get? b=some o->b≠s.heap.objs.size:=λb o e=>wD (wo e);have nin:∀b o,s.heap.get? b=some o->b ∉ frs outer->b ∉ frs (envOfC qual sc s.heap.objs.size f cdv::outer):=λb o e hb z=>by
  rcases wx.mp (I2.stkSub b z) with y | y
  ·exact sz b o e y
  ·exact hb y
 have inB:∀b o,s2.heap.get? b=some o->b ∉ frs (envOfC qual sc s.heap.objs.size f cdv::outer)->(PySem.W.hideAll s2.heap (frs (envOfC qual sc s.heap.objs.size f cdv::outer))).get? b=some o:=λb o e hb=>PySem.W.hideAll_get _ e hb;have trk:∀b o,H2 b=some o->∃ob,(PySem.W.hideAll s2.heap (frs (envOfC qual sc s.heap.objs.size f cdv::outer))).get? b=some ob:=λb o e=>by
  obtain⟨ob,z⟩:=(I2.hok b o e).there;refine⟨ob,inB b ob z λy =>?_⟩;rw[I2.stkFree b y] at e
  cases e
 have stay:=x1.1;have hok2:HOk P w H2 h2:=I2.hok.over trk (λb o q=>PySem.W.of_hideAll _ q) stay;have fr:∀b∈frs outer,∃o,s2.heap.get? b=some o/\∀vs,o.data ≠ .fields vs:=λb hb=>(I2.stack.mem (wj _ hb)).2;have up:s2.heap.UpToSlots h2:=(Heap.UpToSlots.of_keeps hx.keeps).trans x4;refine⟨e,t,.ref C,H2,_,rfl,⟨x1,⟨λb o e n hb _ =>?_,λb o e n hb _ =>?_,u1.free,λb o e _ =>?_,u1.tups,u1.frzs,u1.tbls⟩,hok2,trk,λb o e hb =>?_⟩,I2.bare,I2.os,q⟩
 ·exact stay b o (inB b o (u1.keep b o e n hb (by simp)) (nin b o e hb))
 ·obtain⟨sl,z⟩:=u1.slot b o e n hb (by simp);obtain⟨o',z',d⟩:=fr b hb;rw[z] at z'
  cases z'
  obtain⟨sl',z2⟩:=up b _ z d;exact⟨sl',z2⟩
 ·obtain⟨o',z⟩:=u1.there b o e (by simp)
  by_cases hb:b∈frs outer
  ·obtain⟨o2,z',d⟩:=fr b hb;obtain⟨sl',z2⟩:=up b _ z' d;exact⟨_,z2⟩
  ·exact⟨o',stay b o' (inB b o' z (nin b o e hb))⟩
 ·obtain⟨o',z⟩:=u1.there b o e (by simp);exact⟨o',inB b o' z (nin b o e hb)⟩
def Fun.okE {x:Str}{st:Stmt}{fd:FuncData}{ps:List Str}{k:Nat}{sp:Sp}(F:Fun K x qual st f fd)(S:z0i N ps (z01 st))(len:∀vs H Q E,sp vs H Q E->vs.length=ps.length)
  (hbody:∀(cdv:Value) (A:Around) (outer:List Env) (s:Shared) (H:Hp) (vs:List V) (Q:VK) (E:XK),Room k (A.deeper (envOfC qual (z01 st) s.heap.objs.size f cdv))->sp vs H Q E->
   ∃t,QSs ((cxOf (CXe P w) P w K mg base N qual (z01 st) f cdv A outer s H E).wish (cxOf (CXe P w) P w K mg base N qual (z01 st) f cdv A outer s H E).xe) (z15 st) t/\t { nx:=λ_ H'=>Q .non H',rt:=Q } (z3V N vs) H):FnOk P w K mg base (CXe P w) (k+1) f fd ps sp:=by
 obtain⟨oc,od,kV,doc,pm,an,cdv,ct,osl,rfl,lk,hcd⟩:=F.ex;refine zi3 lk hcd S len λA outer s H vs Q E hr hsp =>?_;obtain⟨t,h,q⟩:=hbody cdv A outer s H vs Q E hr hsp;exact⟨t,h.p,q⟩
def Fun.okN {x:Str}{st:Stmt}{fd:FuncData}{ps:List Str}{k:Nat}{sp:Sp}(F:Fun K x qual st f fd)(S:z0i N ps (z01 st))(len:∀vs H Q E,sp vs H Q E->vs.length=ps.length)
  (hbody:∀(cdv:Value) (A:Around) (outer:List Env) (s:Shared) (H:Hp) (vs:List V) (Q:VK) (E:XK),Room k (A.deeper (envOfC qual (z01 st) s.heap.objs.size f cdv))->sp vs H Q E->
   ∃t,QSs ((cxOf (CXe P w) P w K mg base N qual (z01 st) f cdv A outer s H E).wish λ_ _=>False) (z15 st) t/\t { nx:=λ_ H'=>Q .non H',rt:=Q } (z3V N vs) H):FnOk P w K mg base (CXe P w) (k+1) f fd ps sp:=by
 obtain⟨oc,od,kV,doc,pm,an,cdv,ct,osl,rfl,lk,hcd⟩:=F.ex;refine zi3 lk hcd S len λA outer s H vs Q E hr hsp =>?_;obtain⟨t,h,q⟩:=hbody cdv A outer s H vs Q E hr hsp;exact⟨t,h.p.nox,q⟩
def z0j {X:Cx}:z1D (CXe P w) X E0:=λ_ _ _ _ _ _ _ ⟨_,_,_,_,_,_,_,_,_,q⟩=>q.elim
end
@[reducible] def Cx.suite (X:Cx)(ea:Addr):Cx:={ X with A:=X.A.mark (some (.ref ea)),calm:=false,xe:=λ_ _=>False }
@[reducible] def Cx.within (X:Cx)(pins:List (Addr × Obj))(xe:Value->Shared->Prop):Cx:={ X with pn:=X.pn++pins,xe:=xe }
section
variable {X:Cx}{pins:List (Addr × Obj)}{σ:St}{H:Hp}{s:Shared}{ea:Addr}{xe:Value->Shared->Prop}
theorem Cx.Ok.suite (o:X.Ok):(X.suite ea).Ok:=⟨o.mod,o.kind,o.glob,o.blt,o.above,o.inj,o.has,o.cab,(λz=>by cases z),o.frames,o.stk,o.exf,o.bs,o.bsz,o.noex,o.exfs,o.funs,o.frf,o.tbs⟩
theorem Cx.Ok.within (o:X.Ok):(X.within pins xe).Ok:=⟨o.mod,o.kind,o.glob,o.blt,o.above,o.inj,o.has,o.cab,o.hd,o.frames,o.stk,o.exf,o.bs,o.bsz,o.noex,o.exfs,o.funs,o.frf,o.tbs⟩
theorem Inv.suite (I:Inv X pins σ H s):Inv (X.suite ea) pins σ H s:=⟨I.ok.suite,I.os,I.bare,I.base,I.loc,I.cell,I.free,I.freeC,I.pin,I.hok,I.len⟩
theorem Inv.within (I:Inv X pins σ H s):Inv (X.within pins xe) [] σ H s:=⟨I.ok.within,I.os,I.bare,I.base,I.loc,I.cell,I.free,I.freeC,(λp hp=>I.pin p (by simpa using hp)),I.hok,I.len⟩
def Inv.out {pins':List (Addr × Obj)}(ok:X.Ok)(I:Inv (X.within pins xe) pins' σ H s):Inv X pins σ H s:=⟨ok,I.os,I.bare,I.base,I.loc,I.cell,I.free,I.freeC,(λp hp=>I.pin p (List.mem_append_left _ hp)),I.hok,I.len⟩
theorem SP.out {pins':List (Addr × Obj)}(ok:X.Ok){D:Ends}{f:Flow}(h:SP (X.within pins xe) pins' D f s):SP X pins D f s:=by
 cases f with
 | next=>obtain⟨σ',H',I,q⟩:=h; exact⟨σ',H',I.out ok,q⟩
 | brk=>obtain⟨σ',H',I,q⟩:=h; exact⟨σ',H',I.out ok,q⟩
 | cont=>obtain⟨σ',H',I,q⟩:=h; exact⟨σ',H',I.out ok,q⟩
 | ret u=>obtain⟨v,σ',H',I,r,q⟩:=h; exact⟨v,σ',H',I.out ok,r,q⟩
def Inv.unsuite (ok:X.Ok)(I:Inv (X.suite ea) pins σ H s):Inv X pins σ H s:=⟨ok,I.os,I.bare,I.base,I.loc,I.cell,I.free,I.freeC,I.pin,I.hok,I.len⟩
theorem SP.unsuite (ok:X.Ok){D:Ends}{f:Flow}(h:SP (X.suite ea) pins D f s):SP X pins D f s:=by
 cases f with
 | next=>obtain⟨σ',H',I,q⟩:=h; exact⟨σ',H',I.unsuite ok,q⟩
 | brk=>obtain⟨σ',H',I,q⟩:=h; exact⟨σ',H',I.unsuite ok,q⟩
 | cont=>obtain⟨σ',H',I,q⟩:=h; exact⟨σ',H',I.unsuite ok,q⟩
 | ret u=>obtain⟨v,σ',H',I,r,q⟩:=h; exact⟨v,σ',H',I.unsuite ok,r,q⟩
end
section
variable {X:Cx}{k:Nat}{ps:List Str}{sp:Sp}{x g cx:Str}{e:Expr}{es:List Expr}{ta:TA}{C2:Addr}{b0:Stmt}{suite:List Stmt}{ts:TS}{p1 p2 p3 p4 p5 p6 pos:Pos}
def zdN {i:Nat}{x:Str}{e:Expr}{te:TE}{p1 pos:Pos}(hN:X.N.Nodup)(hi:X.N[i]? = some x)(hx:Loc X.env.scope x)(he:QE X e te)(hs:swapsWith e (some (.Name x p1)) pos.line X.env=pure false:=by rfl)(hf:X.fn x=true\/X.env.scope.names.lookup x=some .local:=by first | exact .inl rfl | exact .inr rfl | assumption):
  QS X (.Assign [.Name x p1] e pos) (tAsg te (z34 i)):=⟨zdS hN hi hx he.p hs hf⟩
end
def z22 (K:W.Frag)(C:Addr):Bool:=
 (PySem.W.findIn K (.ref C) "__getattribute__" == some (some (.builtin "BaseException.__getattribute__"))) && ((PySem.W.findIn K (.ref C) "__getattr__").isSome) &&
 (PySem.W.findIn K (.ref C) "__class__" == some (some (.builtin "object.__class__"))) && (PySem.W.subIn K (.ref C) (.type "BaseException") == some true) && (PySem.W.subIn K (.ref C) (.type "object") == some true) && (PySem.W.clsIn K C).isSome
def z3v (a C:Addr)(h:Heap):Prop:=∃o,h.get? a=some o/\o.cls = .ref C/\∃vs,o.data = .fields vs
def z3v.ty {M:Model}{a C:Addr}{h:Heap}(x:z3v a C h):PySem.W.Looks M h (typeOf (.ref a)) (.ref C):=by
 obtain⟨o,h1,h2,_⟩:=x;rw[<- h2];exact(PySem.W.Looks.ld h1).andThen .now
def z9W {K:W.Frag}{M:Model}{C:Addr}{h:Heap}(X:K.In h)(e:(PySem.W.clsIn K C).isSome=true):PySem.W.Looks M h (isType (.ref C)) true:=by
 obtain⟨cd,hc⟩:=vF.mp e;unfold PySem.W.clsIn at hc
 split at hc
 ·rename_i c' d' cd' sl' ho
  intro A' Q' E' s' k q;unfold isType loadHead;exact wa (wpAny_loadPart (k _ _ (X _ _ ho)) (wf q))
 ·cases hc
section
open PySem.W
variable {prog:Program}{w:World}{A:Around}{E:Value->Shared->Prop}{s:Shared}{K:W.Frag}{a C:Addr}
def zdo {tp:Value}{R:Result->Shared->Prop}(X:K.In s.heap)(x:z3v a C s.heap)(hm:PySem.W.subIn K (.ref C) (.type "object")=some true)(h:R (.ok (.ret (.ref C))) s):
  codeAny (model prog w) A (.call (.builtin "getset_descriptor.__get__") ⟨[.builtin "object.__class__",.ref a,tp],[]⟩) R s:=by
 obtain⟨hh,g,dr,t,os⟩:=s;have L0:=x.ty (M:=model prog w);have L1:=looks_subIn (M:=model prog w) X hm;refine codeAny_call_builtin KF.slot_gs.plain KF.entry_gs (KF.slot_gs.check _ _ _ _ _ _ _ _ KF.type_class (KF.args_gs _ _ _) ?_);unfold Builtin.«getset_descriptor.__get__» Builtin.Getset_descriptor.descrGet;rw[dga_obj];refine wa (wf ?_);unfold Builtin.Getset_descriptor.descrGetter Builtin.Getset_descriptor.descrCheckInstance Builtin.Getset_descriptor.descrNameAndClass isInstance;simp only[KF.owner_class]
 repeat lk
 refine⟨Code.quiet_builtin _ (by decide +kernel),codeAny_builtin KF.entry_class ?_⟩;unfold Builtin.«object.__class__» shownTypeOf
 repeat lk
 exact h
end
section
open PySem.W
variable {prog:Program}{w:World}{A:Around}{E:Value->Shared->Prop}{s:Shared}{K:W.Frag}{a C:Addr}
def zi6 {tk:Tok}{Q:Fin->Shared->Prop}(X:K.In s.heap)(x:z3v a C s.heap)(hm:PySem.W.subIn K (.ref C) (.type "object")=some true)(ha:PySem.W.findIn K (.ref C) "__class__"=some (some (.builtin "object.__class__")))
  (h:Q (.done (.ret (.ref C))) s):wpAny (model prog w) A (Builtin.«object.__getattribute__» ⟨[.ref a,.str "__class__" tk],[]⟩) Q E s:=by
 obtain⟨hh,g,dr,t,os⟩:=s;have L0:=x.ty (M:=model prog w);have L1:=looks_findIn (M:=model prog w) X ha;have f5:=F.typeOf_object_class;have f6:=F.slot_gs_get.lookup;have f7:=F.slot_gs_set.lookup;have hT5:(⟨hh,g,dr,t,os⟩:Shared).TypeIs (.builtin "object.__class__") "getset_descriptor":=F.typeOf_object_class
 repeat (any_goals (first | assumption | with_reducible refine Looks.at L0 ?_ | with_reducible refine Looks.at L1 ?_ | wp_step))
 refine zdo X x hm ?_
 repeat (any_goals (first | assumption | wp_step))
def zbU {Q:Option Value->Shared->Prop}(hL:z22 K C=true)(X:K.In s.heap)(x:z3v a C s.heap)(h:Q (some (.ref C)) { s with toks:=s.toks+1 }):wpAny (model prog w) A (getAttr? (.ref a) "__class__") Q E s:=by
 unfold z22 at hL;simp only[wM,vE] at hL;obtain⟨⟨⟨⟨⟨h1,h2⟩,h3⟩,h4⟩,h5⟩,h6⟩:=hL;obtain⟨r2,h2⟩:=vF.mp h2;obtain⟨hh,g,dr,t,os⟩:=s;have L0:=x.ty (M:=model prog w);have L1:=looks_findIn (M:=model prog w) X h1;have L2':=looks_findIn (M:=model prog w) X h2;unfold getAttr? getAttrBy? getAttrBy;refine wa (wpAny_mkText (wa (wpAny_attempt (vj (wa (L0.at (wa (L1.at ?_))))))));dsimp only;rw[show (onTheHeap (Value.ref C) && Value.builtin "BaseException.__getattribute__" == Value.builtin "object.__getattribute__")=false from by rw[show (Value.builtin "BaseException.__getattribute__" == Value.builtin "object.__getattribute__")=false from by decide +kernel,vv],if_neg (by decide)];unfold getAttrByItsOwn hookBefore;refine wa (L2'.at (wa (wpAny_attempt (vj ?_))));unfold callGetattribute;rw[show (false && onTheHeap (Value.builtin "BaseException.__getattribute__"))=false from rfl,if_neg (by decide)];unfold boundAndCalled;rw[F.attrBase_ValueError.ga.bind];refine wa (wf ?_);show wpAny _ _ (call (.builtin "BaseException.__getattribute__") [.ref a,.str "__class__" t]) _ _ _;refine wpAny_call ?_;refine codeAny_call_builtin F.attrBase_ValueError.ga.plain F.entry_bexc_ga ?_;refine @check_slot (model prog w) _ _ ⟨hh,g,dr,t+1,os⟩ "BaseException.__getattribute__" "BaseException" "__getattribute__" (.ref a) [.str "__class__" t] [] _ (by decide +kernel) (by decide +kernel) (L0.andThen (looks_subIn X h4)) (F.args_bexc_ga (.ref a) (.str "__class__" t)) ?_;refine zi6 (s:=⟨hh,g,dr,t+1,os⟩) X x h5 h3 ?_;exact wf (wf h)
def z6U (hL:z22 K C=true):KitX K (.ref a) (.ref C) (z3v a C) where
 ty:=λ_ _ _ x=>x.ty
 it:=λ_ _ X _=>z9W X (by
  unfold z22 at hL;simp only[wM] at hL;exact hL.2)
 ne:=λh tp dd its n sl X htp=>by
  unfold z22 at hL;simp only[wM] at hL;obtain⟨cd,hc⟩:=vF.mp hL.2;refine Bool.eq_false_iff.mpr λq =>?_;have e:C=tp:=Value.ref.inj (vE.mp q);subst e;unfold clsIn at hc
  split at hc
  ·rename_i c' d' cd' sl' ho
   have z:=(X _ _ ho).symm.trans htp
   cases z
  ·cases hc
 ca:=λX x k=>zbU hL X x k
end
section
variable {X:Cx}
theorem z7a:∀(cs:List Addr) {us:List Value},Vals (cs.map V.ref) us->us=cs.map Value.ref
 | [],_,r=>by cases r; rfl
 | c::cs,_,r=>by
  cases r with
  | cons r1 r2=>
   rw[z7a cs r2]
   cases (show _=Value.ref c from r1)
   rfl
def ziD (K:W.Frag):List V->Hp->VK->Prop:=λxs H Q=>∃(ea C:Addr) (y:V) (b:Bool),xs=[.ref ea,y]/\H ea=some (.ext (z3v ea C))/\z22 K C=true/\
 ((∃C2,y = .ref C2/\PySem.W.kitOne K (.ref C) (.ref C2)=some b)\/(∃T,y = .ty T/\PySem.W.kitOne K (.ref C) (.type T)=some b)\/(∃(tp:Addr) (cs:List Addr),y = .ref tp/\SqT K H tp (cs.map V.ref)/\PySem.W.kitAny K (.ref C) (cs.map Value.ref)=some b))/\Q (.bl b) H
def zcc:z1v X (.builtin "isinstance") (ziD X.K):=by
 intro pins s σ H xs us Q I r h;obtain⟨ea,C,y,b,rfl,he,hL,hy,q⟩:=h;obtain⟨u,v,rfl,rx,ry⟩:=zeg r
 cases (show u=Value.ref ea from rx)
 have hx:z3v ea C s.heap:=(show z1l X.prog X.w H s.heap ea (.ext (z3v ea C)) from I.hok ea _ he).1;have fin:∀tk,∃w H',Inv X pins σ H' { s with toks:=tk }/\RelV w (Value.bool b)/\Q w H':=λtk=>⟨.bl b,H,I.tok tk,rfl,q⟩
 rcases hy with ⟨C2,rfl,e⟩ | ⟨T,rfl,e⟩ | ⟨tp,cs,rfl,hs,e⟩
 ·cases (show v=Value.ref C2 from ry)
  exact wV (z6U hL) I.kIn hx e (λz=>nomatch z) fin
 ·cases (show v=Value.type T from ry)
  exact wV (z6U hL) I.kIn hx e (λz=>nomatch z) fin
 ·cases (show v=Value.ref tp from ry)
  obtain⟨its,hv,⟨o,e1,hc,n,hd⟩,_⟩:=I.tuple hs
  cases z7a cs hv
  obtain⟨oc,od,odt,osl⟩:=o;dsimp only at hc hd;subst hc hd;exact PySem.W.kia_tup (z6U hL) I.kIn hx e1 e (λz=>nomatch z) fin
end
def zeh {fs:List Addr}{H1 H2:Hp}{h1 h2:Heap}{a:Addr}{o:HO}(u:Un fs [] H1 H2 h1 h2)(hn:h1.get? a=none)(h0:H2 a=none):Un fs [] H1 (upd H2 a o) h1 h2:=by
 have ne:∀b ob,h1.get? b=some ob->b≠a:=λb ob e z=>by rw[z,hn] at e; cases e
 have nt:∀b x,H2 b=some x->b≠a:=λb x e z=>by rw[z,h0] at e; cases e
 refine⟨u.keep,u.slot,λb ob e n hx =>?_,u.there,λb xs e =>?_,λb ob v e =>?_,λb ps e =>?_⟩
 ·rw[z04 (ne b ob e)]; exact u.free b ob e n hx
 ·have:=u.tups b xs e; rw[z04 (nt b _ this)]; exact this
 ·have:=u.frzs b ob v e; rw[z04 (nt b _ this)]; exact this
 ·obtain⟨m,z⟩:=u.tbls b ps e;exact⟨m,by rw[z04 (nt b _ z)]; exact z⟩
def zdi {P:Program}{w:World}{H:Hp}{h:Heap}{a C:Addr}(k:HOk P w H h)(h0:H a=none)(x:z3v a C h):HOk P w (upd H a (.ext (z3v a C))) h:=λb u e=>by
 by_cases hb:b=a
 ·subst hb;rw[z09] at e
  cases e
  refine⟨x,⟨_,x.choose_spec.1⟩,λh1 h2 y z =>?_⟩;obtain⟨o,e1,e2⟩:=y;exact⟨o,z o e1,e2⟩
 ·rw[z04 hb] at e;exact(k b u e).stay (λ_ _ _ q=>q) (λc q=>by rw[z04 (z0p q h0)]; exact q) λc xs q=>by rw[z04 (z0p q h0)]; exact q
def zcu {H:Hp}{a:Addr}{o:HO}(h:H a=none):Same H (upd H a o):=λb u e=>by rw[z04 (λz=>by rw[z,h] at e; cases e)]; exact e
def Fly.out {P:Program}{w:World}{outer:List Env}{H H':Hp}{h0 h:Heap}{Cv:Value}{ea t:Addr}{B:Heap}(x:Fly P w outer H h0 Cv H' ea t B h):h0.get? ea=none:=by
 cases q:h0.get? ea with
 | none=>rfl
 | some o=>
  exfalso
  by_cases hb:ea∈frs outer
  ·obtain⟨o',z,d⟩:=(x.fl.2.2.1.mem hb).2;obtain⟨oe,vs,he,_,hd,_⟩:=x.fl.first;rw[he] at z
   cases z
   exact d vs hd
  ·obtain⟨ob,z⟩:=x.kep ea o q hb;rw[x.fl.2.1] at z
   cases z
def z71 {X:Cx}{pins:List (Addr × Obj)}{σ:St}{H:Hp}{s:Shared}{M:Model}{A:Around}{E:Value->Shared->Prop}{i:Nat}{x:Str}{pos:Pos}{Q:Unit->Shared->Prop}(I:Inv X pins σ H s)(hN:X.N.Nodup)(hi:X.N[i]? = some x)(hk:X.env.scope.names.lookup x=some .local)
  (h:∀s',Inv X pins (σ.set i none) H s'->Q () s'):wpAny M A (do bindName X.env x .none; unbindBehindTheSuite X.env x pos) Q E s:=by
 obtain⟨m,hn,hl⟩:=id I.loc;have hcls:(X.env.scope.kind == .class || (X.env.scope.kind == .module && X.env.locals != X.env.globals))=false:=by rw[I.ok.kind]; rfl
 have cne:=I.cne;have hiσ:i < σ.length:=by rw[I.len]; exact(wb.mp hi).1
 refine wpAny_nameGoes_keeps hk hn hcls λh' v hn' hs =>?_;obtain⟨oL,_,_,hoL,_⟩:=id hn;have hok':HOk X.prog X.w H h':=λb ob e=>by
  refine(I.hok b ob e).stay (λc w' hc q=>(hs.2 c ?_).trans q) (λ_ q=>q) λ_ _ q=>q;rintro rfl
  rcases hc with z | hc
  ·rw[<- z,I.free] at e; cases e
  ·rw[I.free] at hc; cases hc
 refine h _ ⟨I.ok,I.os,I.bare,⟨λb o e n hb hx =>?_,λb o e n hb hx =>?_,I.base.free,λb o e hx =>?_,I.base.tups,I.base.frzs,I.base.tbls⟩,⟨_,hn',λj y v' e1 e2 e3 =>?_⟩,λy c e =>?_,I.free,I.freeC,λp hp =>?_,hok',by simpa using I.len⟩
 ·exact(hs.2 b (wD (wg (wo e) I.ok.above))).trans (I.base.keep b o e n hb hx)
 ·obtain⟨sl,e1⟩:=I.base.slot b o e n hb hx;exact⟨sl,(hs.2 b (wD (wg (wo e) I.ok.above))).trans e1⟩
 ·obtain⟨o',e1⟩:=I.base.there b o e hx;exact⟨o',(hs.2 b (wD (wg (wo e) I.ok.above))).trans e1⟩
 ·by_cases hj:j=i
  ·subst hj;rw[wk hiσ] at e2
   cases e2
  ·rw[we (wU hj)] at e2;obtain⟨u',r',q⟩:=hl j y v' e1 e2 e3;refine⟨u',r',?_⟩
   rcases q with ⟨k,e⟩ | ⟨k,c,e,z⟩
   ·refine .inl ⟨k,?_⟩;have:y≠x:=λe=>hj (z6T hN e1 (e ▸ hi));simp[this,e]
   ·exact .inr ⟨k,c,e,z.sameBut hs (cne y c e)⟩
 ·obtain⟨w',z⟩:=I.cell y c e;exact⟨w',z.sameBut hs (cne y c e)⟩
 ·obtain⟨e,n,ne,nf,d⟩:=I.pin p hp;exact⟨(hs.2 p.1 ne).trans e,n,ne,nf,d⟩
@[reducible] def Ends.less (D:Ends)(j:Nat):Ends:={ nx:=λσ H=>D.nx (σ.set j none) H,rt:=D.rt,bk:=λσ H=>D.bk (σ.set j none) H,ct:=λσ H=>D.ct (σ.set j none) H }
end L2
namespace L2
open PySem PySem.Spec PyProof.Rows
open Builtin.Str
section
variable {X:Cx}
theorem vals_strs:∀(ys:List Str) {us:List Value},Vals (ys.map V.str) us->∃l:List (Str × Tok),strValues l=us/\l.map (·.1)=ys
 | [],_,r=>by cases r; exact⟨[],rfl,rfl⟩
 | y::ys,_,r=>by
  cases r with
  | cons r1 r2=>
   obtain⟨l,rfl,h⟩:=vals_strs ys r2;obtain⟨t,rfl⟩:=r1;exact⟨(y,t)::l,rfl,by simp[h]⟩
def rAll (K:W.Frag):List V->Hp->VK->Prop:=λxs H Q=>∃(a:Addr) (bs:List Bool),xs=[.ref a]/\SqL K H a (bs.map V.bl)/\Q (.bl (bs.all id)) H
theorem z8P:∀(bs:List Bool) {us:List Value},Vals (bs.map V.bl) us->us=bs.map Value.bool
 | [],_,r=>by cases r; rfl
 | b::bs,_,r=>by
  cases r with
  | cons r1 r2=>
   rw[z8P bs r2]
   cases (show _=Value.bool b from r1)
   rfl
def zcg (bs:List Bool):(List.range bs.length).all (λi=>bs[i]?.getD true)=bs.all id:=by
 apply uf.mpr;simp only[vQ,um,id]
 constructor
 ·intro h b hb;obtain⟨i,hi,e⟩:=List.mem_iff_getElem.mp hb;have:=h i hi;rw[wq hi] at this;simpa[e] using this
 ·intro h i hi;rw[wq hi];exact h _ (List.getElem_mem hi)
def zcd (hc:X.calm=true):z1v X (.builtin "all") (rAll X.K):=by
 intro pins s σ H xs us Q I r h;obtain⟨a,bs,rfl,hs,q⟩:=h;obtain⟨u,rfl,ru⟩:=z6z r
 cases (show u=Value.ref a from ru)
 obtain⟨its,hv,pl,_⟩:=I.list hs
 cases z8P bs hv
 have hl:=pl.isList;refine call_all_walk (wpAny_pyIter_list hl ?_);have hne:a≠s.heap.objs.size:=by
  obtain⟨o,n,e,_⟩:=pl;exact wD (wo e)
 refine⟨s.heap.objs.size,_,_,_,_,_,λi=>bs[i]?.getD true,rfl,Walks.list (A:=X.A.in1) (I.ok.hd hc) s.heap.objs.size a hne (bs.map Value.bool).toArray,⟨⟨_,wy _ rfl,rfl,rfl⟩,(pl.keeps λb o e=>wd _ e).isList⟩,?_,λh' tk hk =>?_⟩
 ·intro i v s' Q' E' hP hQ;have hP':(bs.map Value.bool)[i]? = some v:=by simpa using hP
  rw[wI] at hP';obtain⟨b,hb,rfl⟩:=Option.map_eq_some_iff.mp hP';have hQ':Q' (bs[i]?.getD true) s':=hQ;rw[hb] at hQ';exact wf hQ'
 ·have e:(List.range (bs.map Value.bool).toArray.size).all (λi=>bs[i]?.getD true)=bs.all id:=by
   rw[wv,wA];exact zcg bs
  rw[e];refine⟨.bl _,H,I.kept (t':=tk) λb o eb=>hk b o ?_ (wd _ eb),rfl,q⟩;intro z;rw[ww.mp z] at eb;exact absurd (wo eb) (vd _)
def rSlS:V->Option Int->Option Int->Hp->VK->Prop:=λx lo hi H Q=>∃y,x = .str y/\y.length<=sizeLine/\Q (.str (Txt.slice y lo hi)) H
def zfU:SlR X rSlS:=by
 intro pins s σ H x v vl vu lo hi sl Q I rx hs pl pu h;obtain⟨y,rfl,hz,q⟩:=h;obtain⟨t,rfl⟩:=rx;refine⟨"str",_,F.slot_str_getitem.lookup,typeIs_str _ _ _,?_⟩;obtain⟨o,ho,hc,hd⟩:=hs;have fin:∀(l u:Option (Int × Tok)),l.map (·.1)=lo->u.map (·.1)=hi->vl=partValue l->vu=partValue u->wpAny (model X.prog X.w) X.A (getItem (.str y t) (.ref sl)) (EP X pins σ Q) X.xe s:=λl u e1 e2 e3 e4=>by
  subst e1 e2 e3 e4;exact wpAny_getItem_str_slice (l:=l) (u:=u) (st:=none) ⟨o,ho,hc,hd⟩ rfl (post_val_or_str ⟨wQ (Txt.slice_le y _ _) hz,λt' k=>⟨.str _,H,I.tok k,⟨t',rfl⟩,q⟩⟩)
 cases pl with
 | none=>
  cases pu with
  | none=>exact fin none none rfl rfl rfl rfl
  | int j u=>exact fin none (some (j,u)) rfl rfl rfl rfl
 | int i w=>
  cases pu with
  | none=>exact fin (some (i,w)) none rfl rfl rfl rfl
  | int j u=>exact fin (some (i,w)) (some (j,u)) rfl rfl rfl rfl
def Its (x:Str):It:=⟨λi _=>i<x.cps.size,λi H v H'=>H'=H/\∃c,x.cps[i]? = some c/\v = .str ⟨#[c]⟩,λi _=>x.cps.size<=i⟩
def z8S {P:Program}{w:World}{K:W.Frag}{tg:Expr}(x:Str)(t:Tok)(it:Addr){ty:String}(hty:["enumerate","zip","dict_itemiterator","dict_reverseitemiterator","odict_iterator","itertools.zip_longest","itertools.pairwise"].contains ty=false)
  (W:∀A':Around,A'.handled=none->Walks P w A' it [it] [it] x.cps.size (SignAt x) (λi h=>h.IsStrIter it ty x t i)) (hs:∀(A:Around) (i:Nat) (s:Shared) (Q:Value->Shared->Prop) (E:Value->Shared->Prop),s.heap.IsStrIter it ty x t i->Q (.ref it) s->wpAny (model P w) A (pyIter (.ref it)) Q E s):
  Turn P w K tg (Its x) [it] it (λi h=>i<=x.cps.size/\h.IsStrIter it ty x t i) where
 mem:=by simp
 obj:=λi h st b hb=>by
  have e:b=it:=by simpa using hb
  subst e;obtain⟨_,o,e,c,d⟩:=st;exact⟨o,e,λv z=>by rw[d] at z; cases z⟩
 keep:=λi h h' st k=>⟨st.1,(W { } rfl).frame i h h' st.2 k⟩
 item:=by
  intro X hP hw hK hc i pins s σ H E I hf st hg;subst hP hw hK;obtain⟨f0,f1,f2,f3,f4,f5⟩:=hf it (by simp);refine(W X.A (I.ok.hd hc)).item i s _ _ hg st.2 λv h' tk hv st' kk =>?_;obtain⟨c,u,hc',rfl⟩:=hv;have I1:Inv X pins σ H { s with heap:=h',toks:=tk }:=I.turned (λb o hb e=>kk b o (by simpa using hb) e) f0 f1 f3 f4 f5;obtain⟨o,e1,e2,e3⟩:=id st';exact⟨_,rfl,zbG (s:={ s with heap:=h',toks:=tk }) e1 e2 e3 hty ⟨.str ⟨#[c]⟩,H,I1,⟨u,rfl⟩,⟨rfl,c,hc',rfl⟩,⟨hg,st'⟩,λb hb=>(hf b hb).1⟩⟩
 done:=by
  intro X hP hw hK hc i pins s σ H E I hf st hg;subst hP hw hK;obtain⟨f0,f1,f2,f3,f4,f5⟩:=hf it (by simp);have e:i=x.cps.size:=Nat.le_antisymm st.1 hg;subst e;exact(W X.A (I.ok.hd hc)).done s _ _ st.2 λh' tk kk=>⟨rfl,I.turned (λb o hb e=>kk b o (by simpa using hb) e) f0 f1 f3 f4 f5⟩
 self:=λA i s Q E st h=>hs A i s Q E st.2 h
variable {tg:Expr}
def zgD {es:List Expr}{aa:TA}{pos:Pos}(h:QA X es aa):QE X (.List es pos) (tLst aa):=⟨z7u h.p⟩
def z3Y:MtR X "list.append" zaP:=zbq
end
end L2
namespace L2
open PySem PySem.Spec PyProof.Rows
section
variable {prog:Program}{w:World}{A:Around}{R:Result->Shared->Prop}{s:Shared}
def zdx (M:Model)(A:Around)(ct:Option Expr)(env:Env)(Q:Bool->Shared->Prop)(E:Value->Shared->Prop)(s:Shared):Prop:=
 match ct with
 | none=>Q true s
 | some c=>wpAny M A (isTrue c env (eval c env)) Q E s
def z52 {elt target iter:Expr}{ct:Option Expr}{scope:Scope}{pos:Pos}{it acc:Value}{env:Env}(I:Nat->Shared->Prop)
  (turn:∀n s,I n s->wpAny (model prog w) A (pyNext it) (λr s1=>match r with
   | none=>R (.ok .next) s1
   | some v=>wpAny (model prog w) A (letOwnedTupleGo target it v) (λ_ s5=>wpAny (model prog w) A (assign target env v) (λ_ s2=>zdx (model prog w) A ct env (λok s3=>if ok=true then wpAny (model prog w) A (eval elt env) (λx s4=>
     wpAny (model prog w) A (call (.builtin "list.append") [acc,x]) (λ_ s6=>∃m,m<n/\I m s6) (notedBy (model prog w) A env λe s'=>R (.error e) s') s4)
     (notedBy (model prog w) A env λe s'=>R (.error e) s') s3 else ∃m,m<n/\I m s3) (notedBy (model prog w) A env λe s'=>R (.error e) s') s2) (notedBy (model prog w) A env λe s'=>R (.error e) s') s5) (notedBy (model prog w) A env λe s'=>R (.error e) s') s1) (notedBy (model prog w) A env λe s'=>R (.error e) s') s)
  (n:Nat) (h:I n s):
  codeAny (model prog w) A (.compLoop (.ListComp elt [⟨target,iter,ct.toList,0⟩] scope pos) 0 it acc env) R s:=by
 refine codeAny_loop rfl I (λn s hI =>?_) n h;show wpAny _ _ ((compTurn (.ListComp elt [⟨target,iter,ct.toList,0⟩] scope pos) 0 it acc env).onRaise (λx=>do noteFrame x env; theTreesLotGoes x)) _ _ s;refine wpAny_noted ?_;rw[compTurn_list];refine wa (wpAny_standAt (wa (wK (turn n s hI) (λr s1 h1 =>?_) λ_ _ h'=>h')))
 cases r with
 | none=>exact wf h1
 | some v=>
  refine wa (wK h1 (λ_ s5 h5 =>?_) λ_ _ h'=>h');refine wa (wK h5 (λ_ s2 h2 =>?_) λ_ _ h'=>h')
  cases ct with
  | none=>
   refine wa (wK (wpAny_tests_nil (Q:=λok s3=>ok=true/\s3=s2) ⟨rfl,rfl⟩) (λok s3 h3 =>?_) λ_ _ h'=>h');obtain⟨rfl,rfl⟩:=h3;have h2':=h2;simp only[zdx,uh] at h2';exact wa (wa (wK h2' (λx s4 h4=>wa (wK h4 (λ_ s6 h6=>wf (wf ⟨rfl,h6⟩)) λ_ _ h'=>h')) λ_ _ h'=>h'))
  | some c=>
   refine wa (wpAny_tests_one (wK (show wpAny (model prog w) A (isTrue c env (eval c env)) _ _ _ from h2) (λokb s3 h3 =>?_) λ_ _ h'=>h'))
   cases okb with
   | false=>exact wf ⟨rfl,by simpa using h3⟩
   | true=>
    have h3':=h3;simp only[uh] at h3';exact wa (wa (wK h3' (λx s4 h4=>wa (wK h4 (λ_ s6 h6=>wf (wf ⟨rfl,h6⟩)) λ_ _ h'=>h')) λ_ _ h'=>h'))
end
def z3t (env:Env)(names:List (Str × NameKind))(acc:List (Str × Addr)):List (Str × Addr):=names.foldl (λc x=>if x.2 == .free then (x.1,(env.cells.lookup x.1).getD 0)::c else c) acc
theorem z6u {α β:Type}{f:α->β->Sem (ForInStep β)}{g:α->β->β}:∀(l:List α) (b:β),(∀x∈l,∀c,f x c=pure (.yield (g x c)))->forIn l b f=(pure (l.foldl (λc x=>g x c) b):Sem β)
 | [],b,_=>rfl
 | x::l,b,h=>by
  rw[List.forIn_cons,h x wt,pure_bind];exact z6u l (g x b) λy hy=>h y (wj _ hy)
def z4I {scope:Scope}{env:Env}(h:∀x∈scope.names,x.2 = .free->∃c,env.cells.lookup x.1=some c):closureFor scope env=pure (z3t env scope.names []):=by
 simp only[closureFor];rw[z6u (g:=λx c=>if x.2 == .free then (x.1,(env.cells.lookup x.1).getD 0)::c else c) scope.names [] (λx hx c=>by
  obtain⟨n,kind⟩:=x
  by_cases hk:kind = .free
  ·subst hk;obtain⟨a,ha⟩:=h _ hx rfl;have e:cellOf env n=pure a:=by unfold cellOf; rw[ha]
   simp[e,ha]
  ·have:(kind == NameKind.free)=false:=by simpa using hk
   simp[this])]
 rfl
theorem z8s {env:Env}{y:Str}{c:Addr}:∀{names:List (Str × NameKind)}{acc:List (Str × Addr)},(y,c)∈z3t env names acc↔(y,c)∈acc\/((y,NameKind.free)∈names/\c=(env.cells.lookup y).getD 0)
 | [],acc=>by simp[z3t]
 | (n,k)::r,acc=>by
  show (y,c)∈z3t env r (if k == .free then (n,(env.cells.lookup n).getD 0)::acc else acc)↔_;rw[z8s]
  by_cases hk:k = .free
  ·subst hk;simp only[beq_self_eq_true,uh,wx,Prod.mk.injEq]
   constructor
   ·rintro((⟨rfl,rfl⟩ | h) | ⟨h1,h2⟩)
    ·exact .inr ⟨.inl (by simp),rfl⟩
    ·exact .inl h
    ·exact .inr ⟨.inr h1,h2⟩
   ·rintro(h | ⟨⟨rfl,_⟩ | h1,h2⟩)
    ·exact .inl (.inr h)
    ·exact .inl (.inl ⟨rfl,h2⟩)
    ·exact .inr ⟨h1,h2⟩
  ·have:(k == NameKind.free)=false:=by simpa using hk
   simp only[this,vp,uo,wx,Prod.mk.injEq]
   constructor
   ·rintro(h | ⟨h1,h2⟩)
    ·exact .inl h
    ·exact .inr ⟨.inr h1,h2⟩
   ·rintro(h | ⟨⟨_,h⟩ | h1,h2⟩)
    ·exact .inl h
    ·exact absurd h.symm hk
    ·exact .inr ⟨h1,h2⟩
theorem z28 {β:Type}{y:Str}{c:β}:∀{l:List (Str × β)},l.lookup y=some c->(y,c)∈l
 | [],h=>by simp at h
 | (n,j)::r,h=>by
  rw[wR] at h
  by_cases e:y=n
  ·subst e;simp at h;subst h;exact wt
  ·have:(y == n)=false:=by simpa using e
   rw[this] at h;exact wj _ (z28 h)
theorem z3F {β:Type}{y:Str}{c:β}:∀{l:List (Str × β)},(y,c)∈l->∃d,l.lookup y=some d
 | (n,j)::r,h=>by
  rw[wR]
  by_cases e:y=n
  ·subst e;simp
  ·have:(y == n)=false:=by simpa using e
   rw[this]
   rcases wx.mp h with h | h
   ·exact absurd (congrArg Prod.fst h) e
   ·exact z3F h
theorem z2W {env:Env}:∀{names:List (Str × NameKind)}{x:Str}{k:NameKind},(names.map λ(n,k)=>if (k == NameKind.free && env.scope.kind == .function && env.kindOf n == some .cell) then (n,NameKind.cell) else (n,k)).lookup x=some k->
  names.lookup x=some k\/(k = .cell/\names.lookup x=some .free)
 | [],_,_,h=>by simp at h
 | (n,j)::r,x,k,h=>by
  have ih := @z2W env r x k;have h':List.lookup x ((if (j == NameKind.free && env.scope.kind == .function && env.kindOf n == some .cell)=true then (n,NameKind.cell) else (n,j))::(r.map λ(n,k)=>if (k == NameKind.free && env.scope.kind == .function && env.kindOf n == some .cell) then (n,NameKind.cell) else (n,k)))=some k:=h
  by_cases hc:(j == NameKind.free && env.scope.kind == .function && env.kindOf n == some .cell)=true
  ·rw[if_pos hc] at h';have hj:j = .free:=by
    have:=hc;simp only[wM,vE] at this;exact this.1.1
   cases hx:x == n with
   | true=>
    simp only[wR,hx] at h' ⊢;exact .inr ⟨(wO h').symm,by rw[hj]⟩
   | false=>
    simp only[wR,hx] at h' ⊢;exact ih h'
  ·rw[if_neg hc] at h'
   cases hx:x == n with
   | true=>
    simp only[wR,hx] at h' ⊢;exact .inl h'
   | false=>
    simp only[wR,hx] at h' ⊢;exact ih h'
theorem z2F {env:Env}:∀{names:List (Str × NameKind)}{x:Str},names.lookup x=some .free->
  (names.map λ(n,k)=>if (k == NameKind.free && env.scope.kind == .function && env.kindOf n == some .cell) then (n,NameKind.cell) else (n,k)).lookup x=some .cell\/
  (names.map λ(n,k)=>if (k == NameKind.free && env.scope.kind == .function && env.kindOf n == some .cell) then (n,NameKind.cell) else (n,k)).lookup x=some .free
 | [],_,h=>by simp at h
 | (n,j)::r,x,h=>by
  have ih := @z2F env r x;show List.lookup x ((if (j == NameKind.free && env.scope.kind == .function && env.kindOf n == some .cell)=true then (n,NameKind.cell) else (n,j))::_)=_\/List.lookup x ((if (j == NameKind.free && env.scope.kind == .function && env.kindOf n == some .cell)=true then (n,NameKind.cell) else (n,j))::_)=_
  cases hx:x == n with
  | true=>
   simp only[wR,hx] at h
   cases h
   by_cases hc:(NameKind.free == NameKind.free && env.scope.kind == .function && env.kindOf n == some .cell)=true
   ·rw[if_pos hc]; simp[wR,hx]
   ·rw[if_neg hc]; simp[wR,hx]
  | false=>
   simp only[wR,hx] at h
   by_cases hc:(j == NameKind.free && env.scope.kind == .function && env.kindOf n == some .cell)=true
   ·rw[if_pos hc]; simp only[wR,hx]; exact ih h
   ·rw[if_neg hc]; simp only[wR,hx]; exact ih h
@[reducible] def Cx.compG (X:Cx)(scope:Scope)(N':List Str)(C:Addr)(s:Shared)(H:Hp)(fp:List Addr):Cx:=
 { X with N:=N',s₀:=s,H₀:=H,env:=compEnvC scope (z3t X.env scope.names []) C X.env,outer:=X.stack,stack:=X.stack,ex:=fp,pn:=[],fn:=λy=>((z3t X.env scope.names []).lookup y).isNone,xe:=λ_ _=>False }
def z5j:TT:=λ_ H Q=>Q true H
def LcG (J:It)(g:TG)(tc:TT)(te:TE)(Q:VK)(σ0:St)(H1:Hp):Prop:=∃W:Nat->Nat->List V->St->Hp->Prop,(∃m,W 0 m [] σ0 H1)/\∀i m ys σ H,W i m ys σ H->
 ys.length<sizeLine/\((J.stop i H/\∀p,H p=none->Q (.ref p) (upd H p (.lst ys)))\/(J.go i H/\∀x H',J.yld i H x H'->g x σ H' λσ1 H1=>tc σ1 H1 λb H2=>if b=true then te σ1 H2 λy H3=>∃m',m'<m/\W (i+1) m' (ys++[y]) σ1 H3 else ∃m',m'<m/\W (i+1) m' ys σ1 H2))
def tLcG (wi:TI)(g:TG)(tc:TT)(te:TE)(nt:Nat)(js:List Nat):TE:=λσ H Q=>wi σ H λJ H1=>LcG J g tc te Q (List.replicate nt none++js.map λj=>(σ[j]?).getD none) H1
def z75 (N' xn:List Str)(nt:Nat)(js:List Nat)(names onames:List (Str × NameKind)):Bool:=
 N'.length == nt+js.length && (js.zipIdx.all λp=>match N'[nt+p.2]? with
  | some y=>xn[p.1]? == some y && names.lookup y == some .free
  | none=>false) && names.all (λx=>x.2 != .cell && (x.2 != .local || names.lookup x.1 == some .local) && (x.2 != .free || ((onames.lookup x.1 == some .cell || onames.lookup x.1 == some .free))))
section
variable {X:Cx}{pins:List (Addr × Obj)}{σ:St}{H:Hp}{s:Shared}
structure z4J (X:Cx)(N':List Str)(nt:Nat)(js:List Nat)(scope:Scope):Prop where
 len:N'.length=nt+js.length
 cap:∀k j,js[k]? = some j->∃y,N'[nt+k]? = some y/\X.N[j]? = some y/\scope.names.lookup y=some .free
 nocell:∀y∈scope.names,y.2 ≠ .cell
 loc:∀y∈scope.names,y.2 = .local->scope.names.lookup y.1=some .local
 free:∀y∈scope.names,y.2 = .free->X.env.kindOf y.1=some .cell\/X.env.kindOf y.1=some .free
def z75.ok {N' xn:List Str}{nt:Nat}{js:List Nat}{scope osc:Scope}(hxn:X.N=xn)(hosc:X.env.scope=osc)(h:z75 N' xn nt js scope.names osc.names=true):z4J X N' nt js scope:=by
 unfold z75 at h;simp only[wM,vE] at h;obtain⟨⟨h1,h2⟩,h3⟩:=h;rw[vQ] at h2 h3;have h3':∀y∈scope.names,y.2 ≠ .cell/\(y.2 = .local->scope.names.lookup y.1=some .local)/\(y.2 = .free->osc.names.lookup y.1=some .cell\/osc.names.lookup y.1=some .free):=λy hy=>by
  have:=h3 y hy;simp only[wM,Bool.or_eq_true,bne_iff_ne,vE] at this;refine⟨this.1.1,λz =>?_,λz =>?_⟩
  ·rcases this.1.2 with q | q
   ·exact absurd z q
   ·exact q
  ·rcases this.2 with q | q
   ·exact absurd z q
   ·exact q
 refine⟨h1,λk j hk =>?_,λy hy=>(h3' y hy).1,λy hy=>(h3' y hy).2.1,λy hy z =>?_⟩
 ·have hm:(j,k)∈js.zipIdx:=by
   rw[List.mem_zipIdx_iff_getElem?];exact hk
  have:=h2 (j,k) hm
  cases e:N'[nt+k]? with
  | none=>simp only[e] at this; cases this
  | some y=>
   simp only[e,wM,vE] at this;exact⟨y,rfl,by rw[hxn]; exact this.1,this.2⟩
 ·show X.env.scope.names.lookup y.1=some .cell\/X.env.scope.names.lookup y.1=some .free;rw[hosc];exact(h3' y hy).2.2 z
theorem z4J.cells {N':List Str}{nt:Nat}{js:List Nat}{scope:Scope}(c:z4J X N' nt js scope)(I:Inv X pins σ H s):∀x∈scope.names,x.2 = .free->∃a,X.env.cells.lookup x.1=some a:=λx hx hf=>I.ok.has x.1 (c.free x hx hf)
def z4J.clo {N':List Str}{nt:Nat}{js:List Nat}{scope:Scope}(c:z4J X N' nt js scope)(I:Inv X pins σ H s){y:Str}{a:Addr}(h:(z3t X.env scope.names []).lookup y=some a):X.env.cells.lookup y=some a/\(y,NameKind.free)∈scope.names:=by
 rcases z8s.mp (z28 h) with z | ⟨z1,z2⟩
 ·simp at z
 ·obtain⟨b,hb⟩:=c.cells I (y,.free) z1 rfl;have hb':X.env.cells.lookup y=some b:=hb;rw[hb'] at z2;exact⟨by rw[hb',z2]; rfl,z1⟩
def z4J.has {N':List Str}{nt:Nat}{js:List Nat}{scope:Scope}(c:z4J X N' nt js scope)(I:Inv X pins σ H s){y:Str}(h:(y,NameKind.free)∈scope.names):∃a,(z3t X.env scope.names []).lookup y=some a:=
 z3F (c:=(X.env.cells.lookup y).getD 0) (z8s.mpr (.inr ⟨h,rfl⟩))
theorem Inv.compG {scope:Scope}{N':List Str}{nt:Nat}{js:List Nat}{C:Addr}{fp:List Addr}{h1:Heap}{t1:Nat}(I:Inv X pins σ H s)(hk:scope.kind = .function)(c:z4J X N' nt js scope)
  (hC:s.heap.objs.size<=C) (hfp:∀b∈fp,FpOk X pins H b) (hfo:∀b∈fp,b<s.heap.objs.size) (keep:∀b o,s.heap.get? b=some o->h1.get? b=some o) (hns:∃m,h1.Ns C m) (hc:X.calm=true):
  Inv (X.compG scope N' C s H fp) [] (List.replicate nt none++js.map λj=>(σ[j]?).getD none) H { s with heap:=h1,toks:=t1 }:=by
 have nofs:∀b∈fp,b ∉ frs X.stack:=λb hb z=>by
  rcases wx.mp (I.stkSub b z) with q | q
  ·exact(hfp b hb).2.1 q
  ·exact(hfp b hb).2.2.1 q
 have nobase:∀b o,X.base.get? b=some o->b ∉ fp:=λb o e hb=>by
  have e2:=(I.ok.bs b o e).1
  rcases(hfp b hb).2.2.2.1 with z | z
  ·exact I.ok.noex b o e z
  ·exact absurd (wg (wo e2) z) (vd _)
 have kd:∀{y:Str},((compEnvC scope (z3t X.env scope.names []) C X.env).kindOf y=some .cell\/(compEnvC scope (z3t X.env scope.names []) C X.env).kindOf y=some .free)->(y,NameKind.free)∈scope.names:=λ{y} q=>by
  rcases q with q | q
  ·rcases z2W (env:=X.env) q with z | ⟨_,z⟩
   ·exact absurd rfl (c.nocell _ (z28 z))
   ·exact z28 z
  ·rcases z2W (env:=X.env) q with z | ⟨z,_⟩
   ·exact z28 z
   ·cases z
 have cell:∀{a:Addr}{v:Option Value},s.heap.IsCell a v->h1.IsCell a v:=λ⟨o,ho,hd⟩=>⟨o,keep _ _ ho,hd⟩
 obtain⟨m1,hm1⟩:=hns;refine⟨⟨I.ok.mod,hk,I.ok.glob,I.ok.blt,hC,(λy z a e1 e2=>I.ok.inj y z a (c.clo I e1).1 (c.clo I e2).1),(λy q=>c.has I (kd q)),(λy a hf e =>?_),(λ_=>I.ok.hd hc),I.ok.frames,.inl rfl,(λb hb=>⟨wD (wg (hfo b hb) hC),(λy a e=>(hfp b hb).2.2.2.2.1 y a (c.clo I e).1)⟩),(λb o e=>⟨I.bk b o e,(I.bs b o e).2⟩),wQ I.ok.bsz I.sz,nobase,nofs,I.stack,I.stkFree,I.tbs⟩,
  rfl,I.bare,Un.kept keep,⟨m1,hm1,(λi y v e1 e2 hv =>?_)⟩,(λy a e =>?_),I.hok.fresh hC,(λy a e=>I.freeC y a (c.clo I e).1),(λp hp=>by simp at hp),I.hok.kept keep,?_⟩
 ·have hf':((z3t X.env scope.names []).lookup y).isNone=true:=hf;have e':(z3t X.env scope.names []).lookup y=some a:=e;rw[e'] at hf'
  cases hf'
 ·rcases Nat.lt_or_ge i nt with hi | hi
  ·rw[vn (by simpa using hi),vM] at e2;rw[if_pos hi] at e2
   cases e2
  ·rw[vt (by simpa using hi),wZ,wI] at e2
   cases ej:js[i - nt]? with
   | none=>rw[ej] at e2; cases e2
   | some j=>
    rw[ej] at e2;obtain⟨y',q1,q2,q3⟩:=c.cap _ _ ej;have hi':nt+(i - nt)=i:=by lia
    rw[hi'] at q1;have e1':N'[i]? = some y:=e1;rw[q1] at e1'
    cases e1'
    have e2:some ((σ[j]?).getD none)=some (some v):=e2;have hσ:σ[j]? = some (some v):=by
     cases ez:σ[j]? with
     | none=>rw[ez] at e2; cases e2
     | some z=>rw[ez] at e2; exact congrArg some (wO e2)
    have hkX:=c.free _ (z28 q3) rfl;obtain⟨m,hn,hl⟩:=I.loc;obtain⟨u,r,l⟩:=hl j y v q2 hσ (.inr hkX);refine⟨u,r,.inr ⟨z2F (env:=X.env) q3,?_⟩⟩
    rcases l with ⟨l,_⟩ | ⟨_,a,ha,hcell⟩
    ·have l':X.env.kindOf y=some .local:=l
     rcases hkX with z | z
     ·rw[l'] at z; cases z
     ·rw[l'] at z; cases z
    ·obtain⟨b,hb⟩:=c.has I (z28 q3);have:=(c.clo I hb).1;rw[ha] at this
     cases this
     exact⟨a,hb,cell hcell⟩
 ·obtain⟨v,z⟩:=I.cell y a (c.clo I e).1;exact⟨v,cell z⟩
 ·show (List.replicate nt none++js.map λj=>(σ[j]?).getD none).length=N'.length;rw[wG,wZ,wA,c.len]
def zgZ {elt iter target:Expr}{ct:Option Expr}{pos:Pos}{scope:Scope}{wi:TI}{g:TG}{tc:TT}{te:TE}{N':List Str}{nt:Nat}{js:List Nat}(hc:X.calm=true)(hi:PI X target iter wi)(hk:scope.kind = .function)(cp:z4J X N' nt js scope)
  (hg:∀(C:Addr) (s:Shared) (H:Hp) (fp:List Addr),PG (X.compG scope N' C s H fp) target g)
  (ht:match ct with
   | none=>tc=z5j
   | some c=>∀(C:Addr) (s:Shared) (H:Hp) (fp:List Addr),PT (X.compG scope N' C s H fp) c tc)
  (he:∀(C:Addr) (s:Shared) (H:Hp) (fp:List Addr),PE (X.compG scope N' C s H fp) elt te) (hs:∀x,foldedSetIterable iter X.env x=pure x:=by intro _; rfl):PE X (.ListComp elt [⟨target,iter,ct.toList,0⟩] scope pos) (tLcG wi g tc te nt js):=by
 intro pins s σ H Q I h;rw[eval_ListComp];refine wpAny_comprehension_free (use:=none) rfl hs (z4I (cp.cells I)) hk cp.loc (thn (hi pins s σ H _ I h) λv s1 h1=>thn h1 λitv s2 h2 =>?_);obtain⟨it,fp,tn,J,H2,e,I2,T,st2,f2,W,⟨m0,w0⟩,turn⟩:=h2;subst e;have hfo:∀b∈fp,b<s2.heap.objs.size:=λb hb=>by
  obtain⟨o,e,_⟩:=T.obj _ _ st2 b hb;exact wo e
 refine vb (wpAny_newFunctionEnv cp.nocell (by intro y hy; simp at hy) (λg1 hns1 hsb1 =>?_) hk);dsimp only at hns1 hsb1 ⊢;generalize hG2:s2.heap.push { cls :=.type "list",dict:=none,data :=.seq ([]:List Value).toArray }=G2 at hns1 hsb1 ⊢;have hC:G2.objs.size=s2.heap.objs.size+1:=by rw[<- hG2,Heap.size_push]
 have hDC:s2.heap.objs.size≠G2.objs.size:=by rw[hC]; exact wD (Nat.lt_succ_self _)
 have below:∀b,b<s2.heap.objs.size->b≠G2.objs.size/\b≠s2.heap.objs.size:=λb hb=>⟨by rw[hC]; exact wD (vZ hb),wD hb⟩
 have old:∀b o,s2.heap.get? b=some o->g1.get? b=some o:=λb o e=>hsb1.extBut b o (below b (wo e)).1 (wd _ (hG2 ▸ wd _ e));have hacc:g1.get? s2.heap.objs.size=some { cls :=.type "list",data :=.seq ([]:List Value).toArray 0 }:=hsb1.extBut _ _ hDC (wd _ (hG2 ▸ wy _ rfl));have hCge:s2.heap.objs.size<=G2.objs.size:=by rw[hC]; exact Nat.le_succ _
 have cellD:∀y a,X.env.cells.lookup y=some a->a<s2.heap.objs.size:=λy a e=>by
  obtain⟨v,o,ho,_⟩:=I2.cell y a e;exact wo ho
 generalize hCC:G2.objs.size=C at*;generalize hDD:s2.heap.objs.size=D at*
 let Y:Cx:=X.compG scope N' C s2 H2 fp
 have IY:Inv Y [] (List.replicate nt none++js.map λj=>(σ[j]?).getD none) H2 { s2 with heap:=g1,toks:=s2.toks+([]:List (Str × Value)).length }:=I2.compG hk cp (by rw[hDD]; exact hCge) f2 (by rw[hDD]; exact hfo) old ⟨_,hns1⟩ hc;have fpD:∀b∈fp,b≠D:=λb hb=>(below b (hfo b hb)).2;have fpC:∀b∈fp,b≠C:=λb hb=>(below b (hfo b hb)).1;have H2D:H2 D=none:=I2.hok.fresh (by rw[hDD]; exact wc _);have Dnf:D ∉ frs X.stack:=λz=>by
  obtain⟨_,o,e,_⟩:=I2.stack.mem z;exact absurd (wo e) (by rw[hDD]; exact vd _)
 have stat:∀{H':Hp}{pl:List (Addr × Obj)},(∀b∈fp,H' b=none)->(∀p∈pl,p.1=D)->∀b∈fp,FpOk Y pl H' b:=λhn hp b hb=>⟨hn b hb,fpC b hb,(λz=>IY.ok.exfs b hb z),.inl hb,(λy a e=>(f2 b hb).2.2.2.2.1 y a (cp.clo I2 e).1),λp hp' z=>fpD b hb (z.symm.trans (hp p (by simpa[Y] using hp')))⟩
 have loop:∀s3:Shared,s3={ s2 with heap:=g1,toks:=s2.toks+([]:List (Str × Value)).length }->
   codeAny (model X.prog X.w) X.A (.compLoop (.ListComp elt [⟨target,iter,ct.toList,0⟩] scope pos) 0 (.ref it) (.ref D) (compEnvC scope (z3t X.env scope.names []) C X.env)) (compPost (model X.prog X.w) X.A X.xe none (EP X pins σ Q) (.ref D) C) s3:=by
  intro s3 e3;refine z52 (λn s'=>∃i ys its σ' H',Inv Y [] σ' H' s'/\s'.heap.get? D=some { cls :=.type "list",data :=.seq (its:List Value).toArray its.length }/\Vals ys its/\H' D=none/\tn i s'.heap/\(∀b∈fp,H' b=none)/\W i n ys σ' H') ?_ m0 ⟨0,[],[],_,H2,e3 ▸ IY,?_,.nil,H2D,?_,λb hb=>(f2 b hb).1,w0⟩
  ·rintro n s4 ⟨i,ys,its,σ4,H4,I4,hD4,hv4,hn4,st4,fr4,w4⟩;obtain⟨hsz,step⟩:=turn i n ys σ4 H4 w4;have hl4:ys.length=its.length:=hv4.length;have I4p:Inv Y [(D,{ cls :=.type "list",data :=.seq its.toArray its.length })] σ4 H4 s4:=I4.pins_of λp hp=>by
    rw[ww.mp hp];exact⟨hD4,hn4,hDC,Dnf,λv z=>by cases z⟩
   have one:∀p∈[((D:Addr),({ cls :=.type "list",data :=.seq its.toArray its.length }:Obj))],p.1=D:=λp hp=>by rw[ww.mp hp]
   rcases step with ⟨stop,qn⟩ | ⟨go,step⟩
   ·refine wK (T.done Y rfl rfl rfl hc i _ s4 σ4 H4 (λ_ _=>False) I4p (stat fr4 one) st4 stop) (λr s5 hr =>?_) λ_ _ z=>z.elim;obtain⟨rfl,I5⟩:=hr;have hD5:s5.heap.get? D=some { cls :=.type "list",data :=.seq its.toArray its.length }:=(I5.pin (D,_) (by simp)).1;obtain⟨m5,hm5,_⟩:=I5.loc;refine⟨m5,hm5,λh' sb =>?_⟩;have U:Un (frs X.stack) fp H2 H4 s2.heap s5.heap:=I5.base;have nC:∀b o,s2.heap.get? b=some o->b≠C:=λb o e=>(below b (hDD ▸ wo e)).1;have nD:∀b o,s2.heap.get? b=some o->b≠D:=λb o e=>(below b (hDD ▸ wo e)).2;have ex:∀b o,b≠C->s5.heap.get? b=some o->h'.get? b=some o:=λb o n e=>sb.extBut b o n e;have U':Un (frs X.stack) fp H2 (upd H4 D (.lst ys)) s2.heap h':=⟨λb o e n hb hx'=>ex b o (nC b o e) (U.keep b o e n hb hx'),λb o e n hb hx'=>by
      obtain⟨sl,q⟩:=U.slot b o e n hb hx';exact⟨sl,ex b _ (nC b o e) q⟩,λb o e n hx'=>by rw[z04 (nD b o e)]; exact U.free b o e n hx',λb o e hx'=>by
      obtain⟨o',q⟩:=U.there b o e hx';exact⟨o',ex b _ (nC b o e) q⟩,λb xs e=>by rw[z04 (z0p (U.tups b xs e) hn4)]; exact U.tups b xs e,λb o xs e=>by rw[z04 (z0p (U.frzs b o xs e) hn4)]; exact U.frzs b o xs e,λb ps e=>by
      obtain⟨more,q⟩:=U.tbls b ps e;exact⟨more,by rw[z04 (z0p q hn4)]; exact q⟩⟩
    have ok1:HOk X.prog X.w H4 h':=HOk.other I5.hok I5.free λb u n e=>ex b u n e;have ok2:HOk X.prog X.w (upd H4 D (.lst ys)) h':=ok1.track hn4 ⟨vI hsz,its,_,hv4,ex D _ hDC hD5⟩;exact⟨.ref D,upd H4 D (.lst ys),I2.call' (s':={ s5 with heap:=h' }) I5.os U' ok2 I5.bare (λb hb=>⟨(f2 b hb).2.2.2.1,(f2 b hb).2.1,(f2 b hb).2.2.2.2.1,(f2 b hb).2.2.2.2.2⟩),rfl,qn D hn4⟩
   ·refine wK (T.item Y rfl rfl rfl hc i _ s4 σ4 H4 (λ_ _=>False) I4p (stat fr4 one) st4 go) (λr s5 hr =>?_) λ_ _ z=>z.elim;obtain⟨u,rfl,h5⟩:=hr;refine wK h5 (λ_ s6 h6 =>?_) λ_ _ z=>z.elim;obtain⟨xv,H6,I6,r6,y6,st6,fr6⟩:=h6;have I6p:=I6.pinned (stat fr6 one) (T.obj _ _ st6);have after:∀{σ8:St}{H8:Hp}{s8:Shared},Inv Y _ σ8 H8 s8->_:=λ{σ8 H8 s8} (I8:Inv Y ([(D,{ cls :=.type "list",data :=.seq its.toArray its.length })]++z4Z fp s6.heap) σ8 H8 s8)=>
     (show (s8.heap.get? D=some { cls :=.type "list",data :=.seq its.toArray its.length }/\H8 D=none)/\tn (i+1) s8.heap/\(∀b∈fp,H8 b=none)/\Inv Y [] σ8 H8 s8 from by
      have pD:=I8.pin (D,{ cls :=.type "list",data :=.seq its.toArray its.length }) (by simp);refine⟨⟨pD.1,pD.2.1⟩,T.keep _ _ _ st6 λb hb o e=>(I8.pin (b,o) (wJ _ (wJ _ (z2u hb e)))).1,λb hb =>?_,I8.pins_of (pins':=[]) λp hp=>by simp at hp⟩;obtain⟨o,e,d⟩:=T.obj _ _ st6 b hb;exact(I8.pin (b,o) (wJ _ (wJ _ (z2u hb e)))).2.1)
    refine wK (hg C s2 H2 fp _ s6 σ4 H6 xv u _ I6p r6 (step xv H6 y6)) (λ_ s7 h7 =>?_) λ_ _ z=>z.elim;obtain⟨σ7,H7,I7,q7⟩:=h7;have yes:∀s7' H7',Inv Y _ σ7 H7' s7'->(te σ7 H7' λy H3=>∃m',m'<n/\W (i+1) m' (ys++[y]) σ7 H3)->_:=λs7' H7' (I7':Inv Y ([(D,{ cls :=.type "list",data :=.seq its.toArray its.length })]++z4Z fp s6.heap) σ7 H7' s7') qe=>
     wK (Q':=λyv s8=>wpAny (model X.prog X.w) X.A (call (.builtin "list.append") [.ref D,yv]) (λ_ s6=>∃m,m<n/\∃i ys its σ' H',Inv Y [] σ' H' s6/\s6.heap.get? D=some { cls :=.type "list",data :=.seq (its:List Value).toArray its.length }/\Vals ys its/\H' D=none/\tn i s6.heap/\(∀b∈fp,H' b=none)/\W i m ys σ' H') (notedBy (model X.prog X.w) X.A (compEnvC scope (z3t X.env scope.names []) C X.env) λe s'=>compPost (model X.prog X.w) X.A X.xe none (EP X pins σ Q) (.ref D) C (.error e) s') s8) (he C s2 H2 fp _ s7' σ7 H7' _ I7' qe) (λyv s8 h8=>by
      obtain⟨y,H8,I8,r8,m',hm',w8⟩:=h8;obtain⟨⟨pD1,pD2⟩,st8,fr8,I8u⟩:=after I8;refine append_at (hsz:=by rw[wv, <- hl4]; exact vI hsz) pD1 λh9 sb9 hD9 =>?_;refine⟨m',hm',i+1,ys++[y],its++[yv],σ7,H8,I8u.turned (it:=D) (t':=s8.toks) (λb o n e=>sb9.extBut b o n e) pD2 hDC (.inr (by rw[hDD]; exact wc _)) (λy a e z=>by
        have:=cellD y a (cp.clo I2 e).1;rw[z] at this;exact vd _ this) (λp hp=>by simp[Y] at hp),?_,Vals.append hv4 (.cons r8 .nil),pD2,T.keep _ _ _ st8 λb hb o e=>sb9.extBut b o (fpD b hb) e,fr8,w8⟩
      show h9.get? D=_;rw[hD9];simp) (E':=notedBy (model X.prog X.w) X.A (compEnvC scope (z3t X.env scope.names []) C X.env) λe s'=>compPost (model X.prog X.w) X.A X.xe none (EP X pins σ Q) (.ref D) C (.error e) s') (λ_ _ z=>z.elim)
    cases ct with
    | none=>
     have ht':tc=z5j:=ht;subst ht';simp only[zdx,uh];have q7':if true=true then te σ7 H7 λy H3=>∃m',m'<n/\W (i+1) m' (ys++[y]) σ7 H3 else ∃m',m'<n/\W (i+1) m' ys σ7 H7:=q7
     rw[if_pos rfl] at q7';exact yes s7 H7 I7 q7'
    | some c=>
     refine wK (ht C s2 H2 fp _ s7 σ7 H7 _ I7 q7) (λb s8 h8 =>?_) λ_ _ z=>z.elim;obtain⟨H8,I8,q8⟩:=h8
     cases b with
     | true=>
      rw[if_pos rfl] at q8 ⊢;exact yes s8 H8 I8 q8
     | false=>
      rw[if_neg wF] at q8 ⊢;obtain⟨m',hm',w8⟩:=q8;obtain⟨⟨pD1,pD2⟩,st8,fr8,I8u⟩:=after I8;exact⟨m',hm',i+1,ys,its,σ7,H8,I8u,pD1,hv4,pD2,st8,fr8,w8⟩
  ·rw[e3]; exact hacc
  ·rw[e3]; exact T.keep _ _ _ st2 λb _ o e=>old b o e
 exact codeAny_compStart_list (loop _ rfl) (T.self _ 0 _ _ _ (T.keep _ _ _ st2 λb _ o e=>old b o e) (loop _ rfl))
def zgE {elt iter target:Expr}{ct:Option Expr}{pos:Pos}{scope:Scope}{wi:TI}{g:TG}{tc:TT}{te:TE}{N':List Str}{nt:Nat}{js:List Nat}(hc:X.calm=true)(hi:QI X target iter wi)(hk:scope.kind = .function)(cp:z4J X N' nt js scope)
  (hg:∀(C:Addr) (s:Shared) (H:Hp) (fp:List Addr),QG (X.compG scope N' C s H fp) target g)
  (ht:match ct with
   | none=>tc=z5j
   | some c=>∀(C:Addr) (s:Shared) (H:Hp) (fp:List Addr),QT (X.compG scope N' C s H fp) c tc)
  (he:∀(C:Addr) (s:Shared) (H:Hp) (fp:List Addr),QE (X.compG scope N' C s H fp) elt te) (hs:∀x,foldedSetIterable iter X.env x=pure x:=by intro _; rfl):QE X (.ListComp elt [⟨target,iter,ct.toList,0⟩] scope pos) (tLcG wi g tc te nt js):=by
 refine⟨zgZ hc hi.p hk cp (λC s H fp=>(hg C s H fp).p) ?_ (λC s H fp=>(he C s H fp).p) hs⟩
 cases ct with
 | none=>exact ht
 | some c=>exact λC s H fp=>(ht C s H fp).p
def ziJ {i:Nat}{x:Str}{pos:Pos}(hN:X.N.Nodup)(hi:X.N[i]? = some x)(hx:X.env.scope.names.lookup x=some .local):QG X (.Name x pos) (z34 i):=⟨zbb hN hi (.inl hx) (.inr hx)⟩
end
section
variable {X:Cx}
def z1v.imp {f:Value}{r r':List V->Hp->VK->Prop}(h:z1v X f r)(i:∀xs H Q,r' xs H Q->r xs H Q):z1v X f r':=λpins s σ H xs us Q I rv q=>h pins s σ H xs us Q I rv (i xs H Q q)
end
section
variable {X:Cx}{pins:List (Addr × Obj)}{σ:St}{H:Hp}{s:Shared}
def zgO {elt iter target:Expr}{ct:Option Expr}{pos spos py:Pos}{y:Str}{iy:Nat}(hN:X.N.Nodup)(hiy:X.N[iy]? = some y)(hly:X.env.scope.names.lookup y=some .local){scope:Scope}{wi:TI}{g:TG}{tc:TT}{te:TE}{N':List Str}{nt:Nat}{js:List Nat}(hc:X.calm=true)(hi:PI X target iter wi)(hk:scope.kind = .function)(cp:z4J X N' nt js scope)
  (hg:∀(C:Addr) (s:Shared) (H:Hp) (fp:List Addr),PG (X.compG scope N' C s H fp) target g)
  (ht:match ct with
   | none=>tc=z5j
   | some c=>∀(C:Addr) (s:Shared) (H:Hp) (fp:List Addr),PT (X.compG scope N' C s H fp) c tc)
  (he:∀(C:Addr) (s:Shared) (H:Hp) (fp:List Addr),PE (X.compG scope N' C s H fp) elt te) (hsw:swapsWith (.ListComp elt [⟨target,iter,ct.toList,0⟩] scope pos) (some (.Name y py)) spos.line X.env=pure true:=by rfl) (hs:∀x,foldedSetIterable iter X.env x=pure x:=by intro _; rfl):PS X (.Assign [.Name y py] (.ListComp elt [⟨target,iter,ct.toList,0⟩] scope pos) spos) (tAsg (tLcG wi g tc te nt js) (z34 iy)):=by
 intro pins s σ H Dn I h;rw[exec_Assign_Name_used _ _ _ _ hsw];refine wa (wpAny_standAt (wa ?_));show wpAny _ X.A (do let _ <- comprehension (.ListComp elt [⟨target,iter,ct.toList,0⟩] scope pos) scope X.env _ (newList []) false (eval iter X.env) (some (assign (.Name y py) X.env))) _ _ s;refine wa (wK (wpAny_comprehension_free (use:=some (assign (.Name y py) X.env)) (Q:=λ_ s'=>SP X pins Dn .next s') rfl hs (z4I (cp.cells I)) hk cp.loc (thn (hi pins s σ H _ I h) λv s1 h1=>thn h1 λitv s2 h2 =>?_)) (λ_ s' hq=>wf (wf hq)) λ_ _ e=>e);obtain⟨it,fp,tn,J,H2,e,I2,T,st2,f2,W,⟨m0,w0⟩,turn⟩:=h2;subst e;have hfo:∀b∈fp,b<s2.heap.objs.size:=λb hb=>by
  obtain⟨o,e,_⟩:=T.obj _ _ st2 b hb;exact wo e
 refine vb (wpAny_newFunctionEnv cp.nocell (by intro y hy; simp at hy) (λg1 hns1 hsb1 =>?_) hk);dsimp only at hns1 hsb1 ⊢;generalize hG2:s2.heap.push { cls :=.type "list",dict:=none,data :=.seq ([]:List Value).toArray }=G2 at hns1 hsb1 ⊢;have hC:G2.objs.size=s2.heap.objs.size+1:=by rw[<- hG2,Heap.size_push]
 have hDC:s2.heap.objs.size≠G2.objs.size:=by rw[hC]; exact wD (Nat.lt_succ_self _)
 have below:∀b,b<s2.heap.objs.size->b≠G2.objs.size/\b≠s2.heap.objs.size:=λb hb=>⟨by rw[hC]; exact wD (vZ hb),wD hb⟩
 have old:∀b o,s2.heap.get? b=some o->g1.get? b=some o:=λb o e=>hsb1.extBut b o (below b (wo e)).1 (wd _ (hG2 ▸ wd _ e));have hacc:g1.get? s2.heap.objs.size=some { cls :=.type "list",data :=.seq ([]:List Value).toArray 0 }:=hsb1.extBut _ _ hDC (wd _ (hG2 ▸ wy _ rfl));have hCge:s2.heap.objs.size<=G2.objs.size:=by rw[hC]; exact Nat.le_succ _
 have cellD:∀y a,X.env.cells.lookup y=some a->a<s2.heap.objs.size:=λy a e=>by
  obtain⟨v,o,ho,_⟩:=I2.cell y a e;exact wo ho
 generalize hCC:G2.objs.size=C at*;generalize hDD:s2.heap.objs.size=D at*
 let Y:Cx:=X.compG scope N' C s2 H2 fp
 have IY:Inv Y [] (List.replicate nt none++js.map λj=>(σ[j]?).getD none) H2 { s2 with heap:=g1,toks:=s2.toks+([]:List (Str × Value)).length }:=I2.compG hk cp (by rw[hDD]; exact hCge) f2 (by rw[hDD]; exact hfo) old ⟨_,hns1⟩ hc;have fpD:∀b∈fp,b≠D:=λb hb=>(below b (hfo b hb)).2;have fpC:∀b∈fp,b≠C:=λb hb=>(below b (hfo b hb)).1;have H2D:H2 D=none:=I2.hok.fresh (by rw[hDD]; exact wc _);have Dnf:D ∉ frs X.stack:=λz=>by
  obtain⟨_,o,e,_⟩:=I2.stack.mem z;exact absurd (wo e) (by rw[hDD]; exact vd _)
 have stat:∀{H':Hp}{pl:List (Addr × Obj)},(∀b∈fp,H' b=none)->(∀p∈pl,p.1=D)->∀b∈fp,FpOk Y pl H' b:=λhn hp b hb=>⟨hn b hb,fpC b hb,(λz=>IY.ok.exfs b hb z),.inl hb,(λy a e=>(f2 b hb).2.2.2.2.1 y a (cp.clo I2 e).1),λp hp' z=>fpD b hb (z.symm.trans (hp p (by simpa[Y] using hp')))⟩
 have loop:∀s3:Shared,s3={ s2 with heap:=g1,toks:=s2.toks+([]:List (Str × Value)).length }->
   codeAny (model X.prog X.w) X.A (.compLoop (.ListComp elt [⟨target,iter,ct.toList,0⟩] scope pos) 0 (.ref it) (.ref D) (compEnvC scope (z3t X.env scope.names []) C X.env)) (compPost (model X.prog X.w) X.A X.xe (some (assign (.Name y py) X.env)) (λ_ s'=>SP X pins Dn .next s') (.ref D) C) s3:=by
  intro s3 e3;refine z52 (λn s'=>∃i ys its σ' H',Inv Y [] σ' H' s'/\s'.heap.get? D=some { cls :=.type "list",data :=.seq (its:List Value).toArray its.length }/\Vals ys its/\H' D=none/\tn i s'.heap/\(∀b∈fp,H' b=none)/\W i n ys σ' H') ?_ m0 ⟨0,[],[],_,H2,e3 ▸ IY,?_,.nil,H2D,?_,λb hb=>(f2 b hb).1,w0⟩
  ·rintro n s4 ⟨i,ys,its,σ4,H4,I4,hD4,hv4,hn4,st4,fr4,w4⟩;obtain⟨hsz,step⟩:=turn i n ys σ4 H4 w4;have hl4:ys.length=its.length:=hv4.length;have I4p:Inv Y [(D,{ cls :=.type "list",data :=.seq its.toArray its.length })] σ4 H4 s4:=I4.pins_of λp hp=>by
    rw[ww.mp hp];exact⟨hD4,hn4,hDC,Dnf,λv z=>by cases z⟩
   have one:∀p∈[((D:Addr),({ cls :=.type "list",data :=.seq its.toArray its.length }:Obj))],p.1=D:=λp hp=>by rw[ww.mp hp]
   rcases step with ⟨stop,qn⟩ | ⟨go,step⟩
   ·refine wK (T.done Y rfl rfl rfl hc i _ s4 σ4 H4 (λ_ _=>False) I4p (stat fr4 one) st4 stop) (λr s5 hr =>?_) λ_ _ z=>z.elim;obtain⟨rfl,I5⟩:=hr;have hD5:s5.heap.get? D=some { cls :=.type "list",data :=.seq its.toArray its.length }:=(I5.pin (D,_) (by simp)).1;obtain⟨m5,hm5,_⟩:=I5.loc;have U:Un (frs X.stack) fp H2 H4 s2.heap s5.heap:=I5.base;have nC:∀b o,s2.heap.get? b=some o->b≠C:=λb o e=>(below b (hDD ▸ wo e)).1;have nD:∀b o,s2.heap.get? b=some o->b≠D:=λb o e=>(below b (hDD ▸ wo e)).2;have U':Un (frs X.stack) fp H2 (upd H4 D (.lst ys)) s2.heap s5.heap:=⟨U.keep,U.slot,λb o e n hx'=>by rw[z04 (nD b o e)]; exact U.free b o e n hx',U.there,λb xs e=>by rw[z04 (z0p (U.tups b xs e) hn4)]; exact U.tups b xs e,λb o xs e=>by rw[z04 (z0p (U.frzs b o xs e) hn4)]; exact U.frzs b o xs e,λb ps e=>by
      obtain⟨more,q⟩:=U.tbls b ps e;exact⟨more,by rw[z04 (z0p q hn4)]; exact q⟩⟩
    have ok2:HOk X.prog X.w (upd H4 D (.lst ys)) s5.heap:=HOk.track I5.hok hn4 ⟨vI hsz,its,_,hv4,hD5⟩;have I6:Inv X pins σ (upd H4 D (.lst ys)) s5:=I2.call' (s':=s5) I5.os U' ok2 I5.bare (λb hb=>⟨(f2 b hb).2.2.2.1,(f2 b hb).2.1,(f2 b hb).2.2.2.2.1,(f2 b hb).2.2.2.2.2⟩);show wpAny _ X.A (assign (.Name y py) X.env (.ref D)) _ _ _;refine wpAny_assign_Name (z7e I6 hN hiy (.inl hly) (show RelV (.ref D) (.ref D) from rfl) (λs7 I7 hs7 =>?_) (.inr hly));obtain⟨c7,sb7,hc7⟩:=hs7;have lt2:X.env.locals<D:=by rw[<- hDD]; exact I2.lt
    have c7C:c7≠C:=by
     rcases hc7 with z | z
     ·rw[z]; exact wD (wg lt2 hCge)
     ·exact wD (wg (cellD _ _ z) hCge)
    refine⟨m5,hm5.sameBut sb7 (wU c7C),λh' sb =>?_⟩;refine⟨_,_,I7.turned (it:=C) (t':=s7.toks) (λb o n e=>sb.extBut b o n e) (by rw[z04 (wU hDC)]; exact I5.free) (Nat.ne_of_gt (wg lt2 hCge)) (.inr (wQ I2.sz (by rw[hDD]; exact hCge))) (λx a e z =>?_) (λp hp z =>?_),qn D hn4⟩
    ·have:=cellD x a e;rw[z] at this;exact absurd (wg this hCge) (vd _)
    ·have:=wo (I2.pin p hp).1;rw[z,hDD] at this;exact absurd (wg this hCge) (vd _)
   ·refine wK (T.item Y rfl rfl rfl hc i _ s4 σ4 H4 (λ_ _=>False) I4p (stat fr4 one) st4 go) (λr s5 hr =>?_) λ_ _ z=>z.elim;obtain⟨u,rfl,h5⟩:=hr;refine wK h5 (λ_ s6 h6 =>?_) λ_ _ z=>z.elim;obtain⟨xv,H6,I6,r6,y6,st6,fr6⟩:=h6;have I6p:=I6.pinned (stat fr6 one) (T.obj _ _ st6);have after:∀{σ8:St}{H8:Hp}{s8:Shared},Inv Y _ σ8 H8 s8->_:=λ{σ8 H8 s8} (I8:Inv Y ([(D,{ cls :=.type "list",data :=.seq its.toArray its.length })]++z4Z fp s6.heap) σ8 H8 s8)=>
     (show (s8.heap.get? D=some { cls :=.type "list",data :=.seq its.toArray its.length }/\H8 D=none)/\tn (i+1) s8.heap/\(∀b∈fp,H8 b=none)/\Inv Y [] σ8 H8 s8 from by
      have pD:=I8.pin (D,{ cls :=.type "list",data :=.seq its.toArray its.length }) (by simp);refine⟨⟨pD.1,pD.2.1⟩,T.keep _ _ _ st6 λb hb o e=>(I8.pin (b,o) (wJ _ (wJ _ (z2u hb e)))).1,λb hb =>?_,I8.pins_of (pins':=[]) λp hp=>by simp at hp⟩;obtain⟨o,e,d⟩:=T.obj _ _ st6 b hb;exact(I8.pin (b,o) (wJ _ (wJ _ (z2u hb e)))).2.1)
    refine wK (hg C s2 H2 fp _ s6 σ4 H6 xv u _ I6p r6 (step xv H6 y6)) (λ_ s7 h7 =>?_) λ_ _ z=>z.elim;obtain⟨σ7,H7,I7,q7⟩:=h7;have yes:∀s7' H7',Inv Y _ σ7 H7' s7'->(te σ7 H7' λy H3=>∃m',m'<n/\W (i+1) m' (ys++[y]) σ7 H3)->_:=λs7' H7' (I7':Inv Y ([(D,{ cls :=.type "list",data :=.seq its.toArray its.length })]++z4Z fp s6.heap) σ7 H7' s7') qe=>
     wK (Q':=λyv s8=>wpAny (model X.prog X.w) X.A (call (.builtin "list.append") [.ref D,yv]) (λ_ s6=>∃m,m<n/\∃i ys its σ' H',Inv Y [] σ' H' s6/\s6.heap.get? D=some { cls :=.type "list",data :=.seq (its:List Value).toArray its.length }/\Vals ys its/\H' D=none/\tn i s6.heap/\(∀b∈fp,H' b=none)/\W i m ys σ' H') (notedBy (model X.prog X.w) X.A (compEnvC scope (z3t X.env scope.names []) C X.env) λe s'=>compPost (model X.prog X.w) X.A X.xe (some (assign (.Name y py) X.env)) (λ_ s'=>SP X pins Dn .next s') (.ref D) C (.error e) s') s8) (he C s2 H2 fp _ s7' σ7 H7' _ I7' qe) (λyv s8 h8=>by
      obtain⟨y,H8,I8,r8,m',hm',w8⟩:=h8;obtain⟨⟨pD1,pD2⟩,st8,fr8,I8u⟩:=after I8;refine append_at (hsz:=by rw[wv, <- hl4]; exact vI hsz) pD1 λh9 sb9 hD9 =>?_;refine⟨m',hm',i+1,ys++[y],its++[yv],σ7,H8,I8u.turned (it:=D) (t':=s8.toks) (λb o n e=>sb9.extBut b o n e) pD2 hDC (.inr (by rw[hDD]; exact wc _)) (λy a e z=>by
        have:=cellD y a (cp.clo I2 e).1;rw[z] at this;exact vd _ this) (λp hp=>by simp[Y] at hp),?_,Vals.append hv4 (.cons r8 .nil),pD2,T.keep _ _ _ st8 λb hb o e=>sb9.extBut b o (fpD b hb) e,fr8,w8⟩
      show h9.get? D=_;rw[hD9];simp) (E':=notedBy (model X.prog X.w) X.A (compEnvC scope (z3t X.env scope.names []) C X.env) λe s'=>compPost (model X.prog X.w) X.A X.xe (some (assign (.Name y py) X.env)) (λ_ s'=>SP X pins Dn .next s') (.ref D) C (.error e) s') (λ_ _ z=>z.elim)
    cases ct with
    | none=>
     have ht':tc=z5j:=ht;subst ht';simp only[zdx,uh];have q7':if true=true then te σ7 H7 λy H3=>∃m',m'<n/\W (i+1) m' (ys++[y]) σ7 H3 else ∃m',m'<n/\W (i+1) m' ys σ7 H7:=q7
     rw[if_pos rfl] at q7';exact yes s7 H7 I7 q7'
    | some c=>
     refine wK (ht C s2 H2 fp _ s7 σ7 H7 _ I7 q7) (λb s8 h8 =>?_) λ_ _ z=>z.elim;obtain⟨H8,I8,q8⟩:=h8
     cases b with
     | true=>
      rw[if_pos rfl] at q8 ⊢;exact yes s8 H8 I8 q8
     | false=>
      rw[if_neg wF] at q8 ⊢;obtain⟨m',hm',w8⟩:=q8;obtain⟨⟨pD1,pD2⟩,st8,fr8,I8u⟩:=after I8;exact⟨m',hm',i+1,ys,its,σ7,H8,I8u,pD1,hv4,pD2,st8,fr8,w8⟩
  ·rw[e3]; exact hacc
  ·rw[e3]; exact T.keep _ _ _ st2 λb _ o e=>old b o e
 exact codeAny_compStart_list (loop _ rfl) (T.self _ 0 _ _ _ (T.keep _ _ _ st2 λb _ o e=>old b o e) (loop _ rfl))
def zgp {elt iter target:Expr}{ct:Option Expr}{pos spos py:Pos}{y:Str}{iy:Nat}(hN:X.N.Nodup)(hiy:X.N[iy]? = some y)(hly:X.env.scope.names.lookup y=some .local){scope:Scope}{wi:TI}{g:TG}{tc:TT}{te:TE}{N':List Str}{nt:Nat}{js:List Nat}(hc:X.calm=true)(hi:QI X target iter wi)(hk:scope.kind = .function)(cp:z4J X N' nt js scope)
  (hg:∀(C:Addr) (s:Shared) (H:Hp) (fp:List Addr),QG (X.compG scope N' C s H fp) target g)
  (ht:match ct with
   | none=>tc=z5j
   | some c=>∀(C:Addr) (s:Shared) (H:Hp) (fp:List Addr),QT (X.compG scope N' C s H fp) c tc)
  (he:∀(C:Addr) (s:Shared) (H:Hp) (fp:List Addr),QE (X.compG scope N' C s H fp) elt te) (hsw:swapsWith (.ListComp elt [⟨target,iter,ct.toList,0⟩] scope pos) (some (.Name y py)) spos.line X.env=pure true:=by rfl) (hs:∀x,foldedSetIterable iter X.env x=pure x:=by intro _; rfl):QS X (.Assign [.Name y py] (.ListComp elt [⟨target,iter,ct.toList,0⟩] scope pos) spos) (tAsg (tLcG wi g tc te nt js) (z34 iy)):=by
 refine⟨zgO hN hiy hly hc hi.p hk cp (λC s H fp=>(hg C s H fp).p) ?_ (λC s H fp=>(he C s H fp).p) hsw hs⟩
 cases ct with
 | none=>exact ht
 | some c=>exact λC s H fp=>(ht C s H fp).p
end
end L2
namespace Pu
open PySem PySem.Spec PyProof.Rows L2
inductive D where
 | non | bl (b:Bool) | int (i:Int) | str (x:Str) | tup (l:List D) | lst (l:List D) | dct (ks vs:List D) | fn (n:Nat) | exc (x:Str) | ptr (a:Addr) | ins (n:Str) (fs:List Str) (cs:List D) | fz (ks vs:List D)
instance:Inhabited D:=⟨.non⟩
def zi5:Nat->Str
 | 0=>"turn_by" | 1=>"turn_among" | 2=>"step_of" | 3=>"step_among" | _=>""
def kD:Key->D
 | .inl i =>.int i
 | .inr x =>.str x
section
variable (K:W.Frag)(mg:Str->Option Value)
mutual
/-- the value v stands for d,in the heap G -/
def RD (G:Hp):D->V->Prop
 | .non,v=>v = .non
 | .bl b,v=>v = .bl b
 | .int i,v=>v = .int i
 | .str x,v=>v = .str x
 | .tup ds,v=>∃a xs,v = .ref a/\SqT K G a xs/\RDs G ds xs
 | .lst ds,v=>∃a xs,v = .ref a/\SqL K G a xs/\RDs G ds xs
 | .dct ks vs,v=>∃a xs,v = .ref a/\RDs G vs xs/\((∃kvs:List (Key × V),Rd G a (.dK kvs)/\ks=kvs.map (λp=>kD p.1)/\xs=kvs.map (·.2))\/∃kvs:List (List Key × V),G a=some (.dT kvs)/\kvs≠[]/\ks=kvs.map (λp =>.tup (p.1.map kD))/\xs=kvs.map (·.2))
 | .fn n,v=>∃f,v = .ref f/\mg (zi5 n)=some (.ref f)
 | .exc x,v=>∃ea C,v = .ref ea/\G ea=some (.ext (z3v ea C))/\mg x=some (.ref C)
 | .ptr a,v=>v = .ref a
 | .fz ks vs,v=>∃a xs,v = .ref a/\RDs G vs xs/\∃(o:Obj) (kvs:List (Key × V)),G a=some (.frz o (.dK kvs))/\ks=kvs.map (λp=>kD p.1)/\xs=kvs.map (·.2)
 | .ins n fs cs,v=>∃p C dx xs,v = .ref p/\G p=some (.ins C dx (fs.zip xs))/\mg n=some (.ref C)/\RDs G cs xs
def RDs (G:Hp):List D->List V->Prop
 | [],xs=>xs=[]
 | d::ds,xs=>∃x r,xs=x::r/\RD G d x/\RDs G ds r
end
end
section
variable {K:W.Frag}{mg:Str->Option Value}{G G' H H':Hp}
def Same.refl':Same H H:=λ_ _ h=>h
def z06 {A B C:Hp}(h:Same A B)(h':Same B C):Same A C:=λa o e=>h' a o (h a o e)
def z1U {a:Addr}{xs:List V}(e:Same G G')(h:SqL K G a xs):SqL K G' a xs:=by
 rcases h with (h | ⟨o,h⟩) | h
 ·exact .inl (.inl (e _ _ h))
 ·exact .inl (.inr ⟨o,e _ _ h⟩)
 ·exact .inr h
def z1T {a:Addr}{xs:List V}(e:Same G G')(h:SqT K G a xs):SqT K G' a xs:=by
 rcases h with (h | ⟨o,h⟩) | h
 ·exact .inl (.inl (e _ _ h))
 ·exact .inl (.inr ⟨o,e _ _ h⟩)
 ·exact .inr h
mutual
theorem RD.same (e:Same G G'):∀(d:D) {v:V},RD K mg G d v->RD K mg G' d v
 | .non,_,h=>by simpa[RD] using h
 | .bl _,_,h=>by simpa[RD] using h
 | .int _,_,h=>by simpa[RD] using h
 | .str _,_,h=>by simpa[RD] using h
 | .fn _,_,h=>by rw[RD] at h ⊢; exact h
 | .exc _,_,h=>by
  rw[RD] at h ⊢;obtain⟨ea,C,h1,h2,h3⟩:=h;exact⟨ea,C,h1,e _ _ h2,h3⟩
 | .ptr _,_,h=>by rw[RD] at h ⊢; exact h
 | .fz _ vs,_,h=>by
  rw[RD] at h ⊢;obtain⟨a,xs,h1,h2,o,kvs,q,r⟩:=h;exact⟨a,xs,h1,RDs.same e vs h2,o,kvs,e _ _ q,r⟩
 | .ins _ _ cs,_,h=>by
  rw[RD] at h ⊢;obtain⟨p,C,dx,xs,h1,h2,h3,h4⟩:=h;exact⟨p,C,dx,xs,h1,e _ _ h2,h3,RDs.same e cs h4⟩
 | .tup ds,_,h=>by
  rw[RD] at h ⊢;obtain⟨a,xs,h1,h2,h3⟩:=h;exact⟨a,xs,h1,z1T e h2,RDs.same e ds h3⟩
 | .lst ds,_,h=>by
  rw[RD] at h ⊢;obtain⟨a,xs,h1,h2,h3⟩:=h;exact⟨a,xs,h1,z1U e h2,RDs.same e ds h3⟩
 | .dct ks vs,_,h=>by
  rw[RD] at h ⊢;obtain⟨a,xs,h1,h3,h4⟩:=h;refine⟨a,xs,h1,RDs.same e vs h3,?_⟩
  rcases h4 with ⟨kvs,q,r⟩ | ⟨kvs,q,r⟩
  ·exact .inl ⟨kvs,q.imp (e _ _) λ⟨o,q⟩=>⟨o,e _ _ q⟩,r⟩
  ·exact .inr ⟨kvs,e _ _ q,r⟩
theorem RDs.same (e:Same G G'):∀(ds:List D) {xs:List V},RDs K mg G ds xs->RDs K mg G' ds xs
 | [],_,h=>by simpa[RDs] using h
 | d::ds,_,h=>by
  rw[RDs] at h ⊢;obtain⟨x,r,h1,h2,h3⟩:=h;exact⟨x,r,h1,RD.same e d h2,RDs.same e ds h3⟩
end
def RDs.nil:RDs K mg G [] []:=by rw[RDs]
def RDs.cons {d:D}{v:V}{ds:List D}{vs:List V}(h:RD K mg G d v)(t:RDs K mg G ds vs):RDs K mg G (d::ds) (v::vs):=by rw[RDs]; exact⟨v,vs,rfl,h,t⟩
theorem RDs.len:∀{ds:List D}{vs:List V},RDs K mg G ds vs->vs.length=ds.length
 | [],_,h=>by rw[RDs] at h; subst h; rfl
 | _::_,_,h=>by
  rw[RDs] at h;obtain⟨x,r,rfl,_,h3⟩:=h;simp[RDs.len h3]
theorem RDs.app:∀{ds es:List D}{vs us:List V},RDs K mg G ds vs->RDs K mg G es us->RDs K mg G (ds++es) (vs++us)
 | [],_,_,_,h,k=>by rw[RDs] at h; subst h; exact k
 | _::_,_,_,_,h,k=>by
  rw[RDs] at h;obtain⟨x,r,rfl,h2,h3⟩:=h;exact RDs.cons h2 (RDs.app h3 k)
theorem RDs.get:∀{ds:List D}{vs:List V}{i:Nat}{d:D},RDs K mg G ds vs->ds[i]? = some d->∃v,vs[i]? = some v/\RD K mg G d v
 | [],_,_,_,_,e=>by simp at e
 | _::_,_,0,_,h,e=>by
  rw[RDs] at h;obtain⟨x,r,rfl,h2,h3⟩:=h;simp at e; subst e;exact⟨x,rfl,h2⟩
 | _::_,_,i+1,_,h,e=>by
  rw[RDs] at h;obtain⟨x,r,rfl,h2,h3⟩:=h;obtain⟨v,e1,e2⟩:=RDs.get (i:=i) h3 (by simpa using e);exact⟨v,by simpa using e1,e2⟩
theorem RDs.take:∀{ds:List D}{vs:List V}(n:Nat),RDs K mg G ds vs->RDs K mg G (ds.take n) (vs.take n)
 | _,_,0,_=>by simp; exact RDs.nil
 | [],_,_+1,h=>by rw[RDs] at h; subst h; exact RDs.nil
 | _::_,_,n+1,h=>by
  rw[RDs] at h;obtain⟨x,r,rfl,h2,h3⟩:=h;exact RDs.cons h2 (RDs.take n h3)
theorem RDs.drop:∀{ds:List D}{vs:List V}(n:Nat),RDs K mg G ds vs->RDs K mg G (ds.drop n) (vs.drop n)
 | _,_,0,h=>by simpa using h
 | [],_,_+1,h=>by rw[RDs] at h; subst h; exact RDs.nil
 | _::_,_,n+1,h=>by
  rw[RDs] at h;obtain⟨x,r,rfl,h2,h3⟩:=h;exact RDs.drop n h3
theorem RDs.set {d:D}{v:V}(q:RD K mg G d v):∀{ds:List D}{vs:List V}(i:Nat),RDs K mg G ds vs->RDs K mg G (ds.set i d) (vs.set i v)
 | [],_,_,h=>by rw[RDs] at h; subst h; exact RDs.nil
 | _::_,_,0,h=>by
  rw[RDs] at h;obtain⟨x,r,rfl,h2,h3⟩:=h;exact RDs.cons q h3
 | _::_,_,i+1,h=>by
  rw[RDs] at h;obtain⟨x,r,rfl,h2,h3⟩:=h;exact RDs.cons h2 (RDs.set q i h3)
theorem RDs.at {ds:List D}{vs:List V}{i:Int}{d:D}(h:RDs K mg G ds vs)(e:atI ds i=some d):∃v,atI vs i=some v/\RD K mg G d v:=by
 unfold atI at e ⊢;rw[h.len]
 cases q:ixN ds.length i with
 | none=>rw[q] at e; cases e
 | some j=>
  rw[q] at e;exact h.get e
def RDs.cut {ds:List D}{vs:List V}(lo hi:Option Int)(h:RDs K mg G ds vs):RDs K mg G ((ds.drop (HT.sIx ds.length 0 lo)).take (HT.sIx ds.length ds.length hi - HT.sIx ds.length 0 lo)) (cutV vs lo hi):=by
 unfold cutV;rw[h.len];exact(h.drop _).take _
end
inductive B where
 | n | s (d:D) | o (d:D)
abbrev Env:=List B
def B.get:B->Option D
 | .n=>none
 | .s d=>some d
 | .o d=>some d
def Env.get (ρ:Env)(i:Nat):Option D:=match ρ,i with
 | [],_=>none
 | b::_,0=>b.get
 | _::r,i+1=>Env.get r i
theorem Env.get_eq:∀(ρ:Env) (i:Nat),Env.get ρ i=(ρ[i]?).bind B.get
 | [],i=>by simp[Env.get]
 | b::r,0=>by simp[Env.get]
 | b::r,i+1=>by simp[Env.get,Env.get_eq r i]
abbrev DK:=D->Prop
abbrev XP:=Str->Prop
structure Fn where
 run:List D->DK->XP->Prop
 mono:∀ds (Q Q':DK) (X X':XP),(∀d,Q d->Q' d)->(∀x,X x->X' x)->run ds Q X->run ds Q' X'
structure Ex where
 run:Env->DK->XP->Prop
 mono:∀ρ (Q Q':DK) (X X':XP),(∀d,Q d->Q' d)->(∀x,X x->X' x)->run ρ Q X->run ρ Q' X'
structure Sm where
 run:Env->(Env->Prop)->DK->XP->Prop
 mono:∀ρ (N N':Env->Prop) (Q Q':DK) (X X':XP),(∀ρ,N ρ->N' ρ)->(∀d,Q d->Q' d)->(∀x,X x->X' x)->run ρ N Q X->run ρ N' Q' X'
def onV (o:Option D)(Q:DK):Prop:=match o with
 | some d=>Q d
 | none=>False
def Ex.c (d:D):Ex:=⟨λ_ Q _=>Q d,λ_ _ _ _ _ m _ q=>m _ q⟩
def Ex.v (i:Nat):Ex:=⟨λρ Q _=>onV (ρ.get i) Q,λρ Q Q' _ _ m _ q=>by
 show onV (ρ.get i) Q';have q':onV (ρ.get i) Q:=q
 cases e:ρ.get i with
 | none=>rw[e] at q'; exact q'
 | some d=>rw[e] at q'; exact m _ q'⟩
def runs:List Ex->Env->(List D->Prop)->XP->Prop
 | [],_,Q,_=>Q []
 | e::es,ρ,Q,X=>e.run ρ (λd=>runs es ρ (λds=>Q (d::ds)) X) X
theorem z32:∀(es:List Ex) (ρ:Env) (Q Q':List D->Prop) (X X':XP),(∀d,Q d->Q' d)->(∀x,X x->X' x)->runs es ρ Q X->runs es ρ Q' X'
 | [],_,_,_,_,_,m,_,q=>m _ q
 | e::es,ρ,Q,Q',X,X',m,mx,q=>e.mono ρ _ _ X X' (λd q1=>z32 es ρ _ _ X X' (λds q2=>m _ q2) mx q1) mx q
def Ex.op (f:Fn)(es:List Ex):Ex:=⟨λρ Q X=>runs es ρ (λds=>f.run ds Q X) X,λρ Q Q' X X' m mx q=>z32 es ρ _ _ X X' (λds q1=>f.mono ds Q Q' X X' m mx q1) mx q⟩
def tst (d:D)(A B:Prop):Prop:=match d with
 | .bl b=>(b=true->A)/\(b=false->B)
 | _=>False
def z2s {d:D}{A A' B B':Prop}(ha:A->A')(hb:B->B')(h:tst d A B):tst d A' B':=by
 cases d with
 | bl b=>exact⟨λe=>ha (h.1 e),λe=>hb (h.2 e)⟩
 | _=>exact h.elim
def z4e {d:D}{A B:Prop}(h:tst d A B):∃b,d = .bl b/\(b=true->A)/\(b=false->B):=by
 cases d with
 | bl b=>exact⟨b,rfl,h⟩
 | _=>exact h.elim
def Ex.and (a b:Ex):Ex:=⟨λρ Q X=>a.run ρ (λd=>tst d (b.run ρ Q X) (Q (.bl false))) X,λρ Q Q' X X' m mx q=>a.mono ρ _ _ X X' (λd q1=>z2s (b.mono ρ Q Q' X X' m mx) (m _) q1) mx q⟩
def Ex.or (a b:Ex):Ex:=⟨λρ Q X=>a.run ρ (λd=>tst d (Q (.bl true)) (b.run ρ Q X)) X,λρ Q Q' X X' m mx q=>a.mono ρ _ _ X X' (λd q1=>z2s (m _) (b.mono ρ Q Q' X X' m mx) q1) mx q⟩
def Ex.not (a:Ex):Ex:=⟨λρ Q X=>a.run ρ (λd=>match d with | .bl b=>Q (.bl (!b)) | _=>False) X,λρ Q Q' X X' m mx q=>a.mono ρ _ _ X X' (λd q1=>by
 cases d with
 | bl b=>exact m _ q1
 | _=>exact q1.elim) mx q⟩
def Ex.ifx (c a b:Ex):Ex:=⟨λρ Q X=>c.run ρ (λd=>tst d (a.run ρ Q X) (b.run ρ Q X)) X,λρ Q Q' X X' m mx q=>c.mono ρ _ _ X X' (λd q1=>z2s (a.mono ρ Q Q' X X' m mx) (b.mono ρ Q Q' X X' m mx) q1) mx q⟩
inductive Tg where
 | nm (i:Nat) | tp (is:List Nat)
def z6k:List Nat->List D->Env->Env
 | i::is,d::ds,ρ=>z6k is ds (ρ.set i (.s d))
 | _,_,ρ=>ρ
def Tg.put (t:Tg)(d:D)(ρ:Env)(K:Env->Prop):Prop:=match t,d with
 | .nm i,d=>K (ρ.set i (.s d))
 | .tp is,.tup ds=>is.length=ds.length/\K (z6k is ds ρ)
 | _,_=>False
def Tg.put_mono {t:Tg}{d:D}{ρ:Env}{K K':Env->Prop}(m:∀ρ,K ρ->K' ρ)(h:t.put d ρ K):t.put d ρ K':=by
 cases t with
 | nm i=>exact m _ h
 | tp is=>
  cases d with
  | tup ds=>exact⟨h.1,m _ h.2⟩
  | _=>exact h.elim
def z08:D->Option (List D)
 | .lst l=>some l
 | .tup l=>some l
 | .str x=>some (x.cps.toList.map λc =>.str ⟨#[c]⟩)
 | _=>none
def onL (o:Option (List D))(Q:List D->Prop):Prop:=match o with
 | some l=>Q l
 | none=>False
def z5e {o:Option (List D)}{Q Q':List D->Prop}(m:∀l,Q l->Q' l)(h:onL o Q):onL o Q':=by
 cases o with
 | none=>exact h
 | some l=>exact m _ h
def z4G (f:D->(Option D->Prop)->Prop):List D->(List D->Prop)->Prop
 | [],N=>N []
 | x::xs,N=>f x λo=>z4G f xs λr=>N (o.toList++r)
theorem z3R {f f':D->(Option D->Prop)->Prop}(hf:∀x K K',(∀o,K o->K' o)->f x K->f' x K'):∀(xs:List D) (N N':List D->Prop),(∀l,N l->N' l)->z4G f xs N->z4G f' xs N'
 | [],_,_,m,q=>m _ q
 | x::xs,N,N',m,q=>hf x _ _ (λo q1=>z3R hf xs _ _ (λr q2=>m _ q2) q1) q
def z1G (nt:Nat)(js:List Nat)(ρ:Env):Env:=List.replicate nt .n++js.map λj=>(ρ[j]?).getD .n
def z4H (t:Tg)(c:Option Ex)(elt:Ex)(ρ:Env)(x:D)(K:Option D->Prop):Prop:=
 t.put x ρ λρ'=>match c with
  | none=>elt.run ρ' (λd=>K (some d)) (λ_=>False)
  | some c=>c.run ρ' (λb=>tst b (elt.run ρ' (λd=>K (some d)) (λ_=>False)) (K none)) (λ_=>False)
def z4X {t:Tg}{c:Option Ex}{elt:Ex}{ρ:Env}(x:D)(K K':Option D->Prop)(m:∀o,K o->K' o)(h:z4H t c elt ρ x K):z4H t c elt ρ x K':=by
 refine Tg.put_mono (λρ' q =>?_) h
 cases c with
 | none=>exact elt.mono ρ' _ _ _ _ (λd q1=>m _ q1) (λ_ z=>z) q
 | some c=>exact c.mono ρ' _ _ _ _ (λb q1=>z2s (elt.mono ρ' _ _ _ _ (λd q2=>m _ q2) (λ_ z=>z)) (m _) q1) (λ_ z=>z) q
def Ex.comp (nt:Nat)(js:List Nat)(t:Tg)(src:Ex)(c:Option Ex)(elt:Ex):Ex:=
 ⟨λρ Q X=>src.run ρ (λd=>onL (z08 d) λl=>l.length<sizeLine/\z4G (z4H t c elt (z1G nt js ρ)) l λr=>Q (.lst r)) X,λρ Q Q' X X' m mx q=>
  src.mono ρ _ _ X X' (λd q1=>z5e (λl q2=>⟨q2.1,z3R z4X l _ _ (λr q3=>m _ q3) q2.2⟩) q1) mx q⟩
def Sm.skip:Sm:=⟨λρ N _ _=>N ρ,λ_ _ _ _ _ _ _ m _ _ q=>m _ q⟩
def Sm.seq (a b:Sm):Sm:=⟨λρ N Q X=>a.run ρ (λρ'=>b.run ρ' N Q X) Q X,λρ N N' Q Q' X X' mn m mx q=>a.mono ρ _ _ Q Q' X X' (λρ' q1=>b.mono ρ' N N' Q Q' X X' mn m mx q1) m mx q⟩
mutual
def noL:D->Bool
 | .lst _=>false
 | .tup l=>noLs l
 | .dct ks vs=>noLs vs
 | .ins _ _ _=>false
 | .fz _ _=>false
 | _=>true
def noLs:List D->Bool
 | []=>true
 | d::ds=>noL d && noLs ds
end
mutual
def noD:D->Bool
 | .dct _ _=>false
 | .tup l=>noDs l
 | .lst l=>noDs l
 | .ins _ _ _=>false
 | .fz _ _=>false
 | _=>true
def noDs:List D->Bool
 | []=>true
 | d::ds=>noD d && noDs ds
end
def zfX (d:D):B->Prop
 | .o (.lst _)=>noL d=true
 | .o (.dct _ _)=>noD d=true
 | _=>True
def Safe (d:D):Env->Prop
 | []=>True
 | b::r=>zfX d b/\Safe d r
def zil (d:D)(ρ:Env):Prop:=match d with
 | .lst l=>∀x∈l,Safe x ρ
 | .dct _ vs=>∀x∈vs,Safe x ρ
 | _=>False
def Sm.set (i:Nat)(e:Ex):Sm:=⟨λρ N _ X=>e.run ρ (λd=>Safe d (ρ.set i .n)/\N (ρ.set i (.s d))) X,λρ N N' Q Q' X X' mn m mx q=>e.mono ρ _ _ X X' (λd q1=>⟨q1.1,mn _ q1.2⟩) mx q⟩
def Sm.own (i:Nat)(e:Ex):Sm:=⟨λρ N _ X=>e.run ρ (λd=>zil d (ρ.set i .n)/\N (ρ.set i (.o d))) X,λρ N N' Q Q' X X' mn m mx q=>e.mono ρ _ _ X X' (λd q1=>⟨q1.1,mn _ q1.2⟩) mx q⟩
def demB:B->B
 | .o d =>.s d
 | b=>b
def dem:List Nat->Env->Env
 | [],ρ=>ρ
 | j::js,ρ=>dem js (ρ.set j (demB ((ρ[j]?).getD .n)))
def visB:B->B
 | .o _ =>.n
 | b=>b
def vis (ρ:Env):Env:=ρ.map visB
def Sm.setx (js:List Nat)(i:Nat)(e:Ex):Sm:=⟨λρ N _ X=>e.run (vis (dem js ρ)) (λd=>N ((dem js ρ).set i (.s d))) X,λρ N N' Q Q' X X' mn m mx q=>e.mono _ _ _ X X' (λd q1=>mn _ q1) mx q⟩
def Sm.ifs (c:Ex)(a b:Sm):Sm:=⟨λρ N Q X=>c.run ρ (λd=>tst d (a.run ρ N Q X) (b.run ρ N Q X)) X,λρ N N' Q Q' X X' mn m mx q=>c.mono ρ _ _ X X' (λd q1=>z2s (a.mono ρ N N' Q Q' X X' mn m mx) (b.mono ρ N N' Q Q' X X' mn m mx) q1) mx q⟩
def Sm.ret (e:Ex):Sm:=⟨λρ _ Q X=>e.run ρ Q X,λρ N N' Q Q' X X' mn m mx q=>e.mono ρ _ _ X X' m mx q⟩
def Sm.retN:Sm:=⟨λ_ _ Q _=>Q .non,λρ N N' Q Q' X X' mn m mx q=>m _ q⟩
def Sm.ex (e:Ex):Sm:=⟨λρ N _ X=>e.run ρ (λ_=>N ρ) X,λρ N N' Q Q' X X' mn m mx q=>e.mono ρ _ _ X X' (λ_ q1=>mn _ q1) mx q⟩
def Sm.raise (x:Str):Sm:=⟨λ_ _ _ X=>X x,λρ N N' Q Q' X X' mn m mx q=>mx _ q⟩
def forL (t:Tg)(b:Sm)(N:Env->Prop)(Q:DK)(X:XP):List D->Env->Prop
 | [],ρ=>N ρ
 | x::xs,ρ=>t.put x ρ λρ'=>b.run ρ' (forL t b N Q X xs) Q X
theorem z5P {t:Tg}{b:Sm}{N N':Env->Prop}{Q Q':DK}{X X':XP}(mn:∀ρ,N ρ->N' ρ)(m:∀d,Q d->Q' d)(mx:∀x,X x->X' x):∀(l:List D) (ρ:Env),forL t b N Q X l ρ->forL t b N' Q' X' l ρ
 | [],_,q=>mn _ q
 | x::xs,ρ,q=>Tg.put_mono (λρ' q1=>b.mono ρ' _ _ Q Q' X X' (λρ2 q2=>z5P mn m mx xs ρ2 q2) m mx q1) q
def Sm.for_ (js:List Nat)(t:Tg)(src:Ex)(b:Sm):Sm:=⟨λρ N Q X=>src.run (vis (dem js ρ)) (λd=>onL (z08 d) λl=>forL t b N Q X l (dem js ρ)) X,λρ N N' Q Q' X X' mn m mx q=>src.mono _ _ _ X X' (λd q1=>z5e (λl q2=>z5P mn m mx l _ q2) q1) mx q⟩
def onR (ds:List D)(K:List D->Prop):Prop:=match ds with
 | [.int j]=>(-(2 ^ 62)<=j/\j<2 ^ 62)/\K ((List.range j.toNat).map λ(k:Nat) =>.int (k:Int))
 | [.int i,.int j]=>((-(2 ^ 62)<=i/\i<2 ^ 62) /\ -(2 ^ 62)<=j/\j<2 ^ 62)/\K ((List.range (j - i).toNat).map λ(k:Nat) =>.int (i+(k:Int)))
 | _=>False
def z98 {ds:List D}{K K':List D->Prop}(m:∀l,K l->K' l)(h:onR ds K):onR ds K':=by
 unfold onR at h ⊢
 split at h
 ·exact⟨h.1,m _ h.2⟩
 ·exact⟨h.1,m _ h.2⟩
 ·exact h.elim
def Sm.forr (es:List Ex)(t:Tg)(b:Sm):Sm:=⟨λρ N Q X=>runs es ρ (λds=>onR ds λl=>forL t b N Q X l ρ) X,λρ N N' Q Q' X X' mn m mx q=>z32 es ρ _ _ X X' (λd q1=>z98 (λl q2=>z5P mn m mx l _ q2) q1) mx q⟩
def ownL (ρ:Env)(i:Nat)(K:List D->Prop):Prop:=match ρ[i]? with
 | some (.o (.lst l))=>K l
 | _=>False
def z7y {ρ:Env}{i:Nat}{K K':List D->Prop}(m:∀l,K l->K' l)(h:ownL ρ i K):ownL ρ i K':=by
 unfold ownL at h ⊢
 split <;> rename_i e
 ·rw[e] at h; exact m _ h
 ·split at h
  ·rename_i l e'; exact(e l e').elim
  ·exact h
def Sm.app (i:Nat)(e:Ex):Sm:=⟨λρ N _ X=>ownL ρ i λl=>e.run ρ (λd=>l.length<sizeLine/\Safe d ρ/\N (ρ.set i (.o (.lst (l++[d]))))) X,λρ N N' Q Q' X X' mn m mx q=>z7y (λl q1=>e.mono ρ _ _ X X' (λd q2=>⟨q2.1,q2.2.1,mn _ q2.2.2⟩) mx q1) q⟩
def isLs (d:D)(K:List D->Prop):Prop:=match d with
 | .lst l=>K l
 | _=>False
def zbC {d:D}{K K':List D->Prop}(m:∀j,K j->K' j)(h:isLs d K):isLs d K':=by
 cases d with
 | lst l=>exact m _ h
 | _=>exact h.elim
def onN (o:Option Nat)(K:Nat->Prop):Prop:=match o with
 | some j=>K j
 | none=>False
def zd6 {o:Option Nat}{K K':Nat->Prop}(m:∀j,K j->K' j)(h:onN o K):onN o K':=by
 cases o with
 | none=>exact h
 | some l=>exact m _ h
def isI (d:D)(K:Int->Prop):Prop:=match d with
 | .int i=>K i
 | _=>False
def z6V {d:D}{K K':Int->Prop}(m:∀j,K j->K' j)(h:isI d K):isI d K':=by
 cases d with
 | int i=>exact m _ h
 | _=>exact h.elim
def Fn.mk' (np nn:Nat)(b:Sm):Fn:=⟨λds Q X=>ds.length=np/\b.run (ds.map B.s++List.replicate (nn - np) .n) (λ_=>Q .non) Q X,λds Q Q' X X' m mx q=>⟨q.1,b.mono _ _ _ Q Q' X X' (λ_ q1=>m _ q1) m mx q.2⟩⟩
def Fn.mkN (np nn:Nat)(b:Sm):Fn:=⟨λds Q _=>ds.length=np/\b.run (ds.map B.s++List.replicate (nn - np) .n) (λ_=>Q .non) Q (λ_=>False),λds Q Q' X X' m mx q=>⟨q.1,b.mono _ _ _ Q Q' _ _ (λ_ q1=>m _ q1) m (λ_ z=>z) q.2⟩⟩
def Sm.calm (b:Sm):Sm:=⟨λρ N Q _=>b.run ρ N Q (λ_=>False),λρ N N' Q Q' X X' mn m mx q=>b.mono ρ N N' Q Q' _ _ mn m (λ_ z=>z) q⟩
end Pu
namespace Pu
open PySem PySem.Spec PyProof.Rows L2
def AbE (K:W.Frag)(mg:Str->Option Value)(G:Hp)(ρ:Pu.Env)(σ:L2.St):Prop:=∀i d,ρ.get i=some d->∃v,σ[i]? = some (some v)/\RD K mg G d v
def Gr (G H G':Hp):Prop:=Same G G'/\∀a o,G' a=some o->(∃u,G a=some u)\/H a=none
def Gr.refl {G H:Hp}:Gr G H G:=⟨Same.refl',λa o e =>.inl ⟨o,e⟩⟩
def Gr.trans {G H G1 H1 G2:Hp}(h:Gr G H G1)(k:Same H H1)(h':Gr G1 H1 G2):Gr G H G2:=⟨z06 h.1 h'.1,λa o e=>by
 rcases h'.2 a o e with ⟨u,q⟩ | q
 ·exact h.2 a u q
 ·refine .inr ?_
  cases z:H a with
  | none=>rfl
  | some w=>rw[k a w z] at q; cases q⟩
def Gr.new {G H:Hp}{p:Addr}{o:HO}(g:Same G H)(hp:H p=none):Gr G H (upd G p o):=by
 have gp:G p=none:=by
  cases e:G p with
  | none=>rfl
  | some u=>rw[g p u e] at hp; cases hp
 refine⟨z1g gp o,λa u e =>?_⟩
 by_cases ha:a=p
 ·subst ha; exact .inr hp
 ·rw[z04 ha] at e; exact .inl ⟨u,e⟩
def Kt (K:W.Frag)(mg:Str->Option Value)(G H:Hp)(Q0:DK)(Q:VK):Prop:=∀d v G' H',Q0 d->Gr G H G'->Same G' H'->Same H H'->RD K mg G' d v->Q v H'
def Kts (K:W.Frag)(mg:Str->Option Value)(G H:Hp)(Q0:List D->Prop)(Q:List V->Hp->Prop):Prop:=∀ds vs G' H',Q0 ds->Gr G H G'->Same G' H'->Same H H'->RDs K mg G' ds vs->Q vs H'
def Kx (mg:Str->Option Value)(H:Hp)(X0:XP)(E:XK):Prop:=∀x C H',X0 x->mg x=some (.ref C)->Same H H'->E (.ref C) none H'
def tx (K:W.Frag)(mg:Str->Option Value)(E:XK)(e:Ex):TE:=λσ H Q=>∃G ρ Q0 X0,Same G H/\AbE K mg G ρ σ/\e.run ρ Q0 X0/\Kt K mg G H Q0 Q/\Kx mg H X0 E
def txa (K:W.Frag)(mg:Str->Option Value)(E:XK)(es:List Ex):TA:=λσ H Q=>∃G ρ Q0 X0,Same G H/\AbE K mg G ρ σ/\runs es ρ Q0 X0/\Kts K mg G H Q0 Q/\Kx mg H X0 E
def tt (K:W.Frag)(mg:Str->Option Value)(E:XK)(e:Ex):TT:=λσ H Q=>∃G ρ Q0 X0,Same G H/\AbE K mg G ρ σ/\e.run ρ Q0 X0/\(∀d G' H',Q0 d->Gr G H G'->Same G' H'->Same H H'->∃b,d = .bl b/\Q b H')/\Kx mg H X0 E
section
variable {K:W.Frag}{mg:Str->Option Value}{G G' H H':Hp}{ρ:Pu.Env}{σ:L2.St}{Q0:DK}{Q:VK}{X0:XP}{E:XK}
theorem AbE.same (h:AbE K mg G ρ σ)(g:Same G G'):AbE K mg G' ρ σ:=λi d e=>by
 obtain⟨v,h1,h2⟩:=h i d e;exact⟨v,h1,h2.same g⟩
def Kt.same (h:Kt K mg G H Q0 Q)(g:Gr G H G')(k:Same H H'):Kt K mg G' H' Q0 Q:=λd v G1 H1 q a b c r=>h d v G1 H1 q (g.trans k a) b (z06 k c) r
def Kx.same (h:Kx mg H X0 E)(k:Same H H'):Kx mg H' X0 E:=λx C H1 q m c=>h x C H1 q m (z06 k c)
def Kx.no {E:XK}:Kx mg H (λ_=>False) E:=λ_ _ _ z=>z.elim
def Kt.now {d:D}{v:V}(h:Kt K mg G H Q0 Q)(g:Same G H)(q:Q0 d)(r:RD K mg G d v):Q v H:=h d v G H q Gr.refl g Same.refl' r
theorem Kt.new {d:D}{p:Addr}{o:HO}{v:V}(h:Kt K mg G H Q0 Q)(g:Same G H)(hp:H p=none)(q:Q0 d)(r:RD K mg (upd G p o) d v):Q v (upd H p o):=by
 have gp:G p=none:=by
  cases e:G p with
  | none=>rfl
  | some u=>rw[g p u e] at hp; cases hp
 refine h d v (upd G p o) (upd H p o) q (Gr.new g hp) (λb u e =>?_) (z1g hp o) r
 by_cases hb:b=p
 ·subst hb; rw[z09] at e ⊢; exact e
 ·rw[z04 hb] at e ⊢; exact g b u e
def z0x (g:Same G H){p:Addr}(hp:H p=none):G p=none:=by
 cases e:G p with
 | none=>rfl
 | some u=>rw[g p u e] at hp; cases hp
end
def Lk2 (K:W.Frag)(mg:Str->Option Value)(F:Fn)(r:R2):Prop:=∀(G H:Hp) (d1 d2:D) (v1 v2:V) (Q0:DK) (X0:XP) (Q:VK),Same G H->RD K mg G d1 v1->RD K mg G d2 v2->F.run [d1,d2] Q0 X0->Kt K mg G H Q0 Q->r v1 v2 H Q
def Lk1 (K:W.Frag)(mg:Str->Option Value)(F:Fn)(r:V->Hp->VK->Prop):Prop:=∀(G H:Hp) (d:D) (v:V) (Q0:DK) (X0:XP) (Q:VK),Same G H->RD K mg G d v->F.run [d] Q0 X0->Kt K mg G H Q0 Q->r v H Q
def LkN (K:W.Frag)(mg:Str->Option Value)(F:Fn)(r:List V->Hp->VK->Prop):Prop:=∀(G H:Hp) (ds:List D) (vs:List V) (Q0:DK) (X0:XP) (Q:VK),Same G H->RDs K mg G ds vs->F.run ds Q0 X0->Kt K mg G H Q0 Q->r vs H Q
section
variable {K:W.Frag}{mg:Str->Option Value}{E:XK}{σ:L2.St}{H:Hp}{Q:VK}{a b c:Ex}{F:Fn}{es:List Ex}
def tx2 {r:R2}(lk:Lk2 K mg F r)(h:tx K mg E (.op F [a,b]) σ H Q):tOp r (tx K mg E a) (tx K mg E b) σ H Q:=by
 obtain⟨G,ρ,Q0,X0,hs,ab,hr,hk,hx⟩:=h;refine⟨G,ρ,λd=>b.run ρ (λd'=>F.run [d,d'] Q0 X0) X0,X0,hs,ab,hr,?_,hx⟩;intro d v G1 H1 hb g1 g2 g3 rd;refine⟨G1,ρ,λd'=>F.run [d,d'] Q0 X0,X0,g2,ab.same g1.1,hb,?_,hx.same g3⟩;intro d' v' G2 H2 hF k1 k2 k3 rd';exact lk G2 H2 d d' v v' Q0 X0 Q k2 (rd.same k1.1) rd' hF (hk.same (g1.trans g3 k1) (z06 g3 k3))
def tx1 {r:V->Hp->VK->Prop}(lk:Lk1 K mg F r)(h:tx K mg E (.op F [a]) σ H Q):tUn r (tx K mg E a) σ H Q:=by
 obtain⟨G,ρ,Q0,X0,hs,ab,hr,hk,hx⟩:=h;refine⟨G,ρ,λd=>F.run [d] Q0 X0,X0,hs,ab,hr,?_,hx⟩;intro d v G1 H1 hF g1 g2 g3 rd;exact lk G1 H1 d v Q0 X0 Q g2 rd hF (hk.same g1 g3)
def txN {r:List V->Hp->VK->Prop}(lk:LkN K mg F r)(h:tx K mg E (.op F es) σ H Q):tCB r (txa K mg E es) σ H Q:=by
 obtain⟨G,ρ,Q0,X0,hs,ab,hr,hk,hx⟩:=h;refine⟨G,ρ,λds=>F.run ds Q0 X0,X0,hs,ab,hr,?_,hx⟩;intro ds vs G1 H1 hF g1 g2 g3 rd;exact lk G1 H1 ds vs Q0 X0 Q g2 rd hF (hk.same g1 g3)
end
theorem QE.imp {X:Cx}{e:Expr}{t t':TE}(h:QE X e t)(i:∀σ H Q,t' σ H Q->t σ H Q):QE X e t':=⟨h.p.imp i⟩
def QT.imp {X:Cx}{e:Expr}{t t':TT}(h:QT X e t)(i:∀σ H Q,t' σ H Q->t σ H Q):QT X e t':=⟨λpins s σ H Q I q=>h.p pins s σ H Q I (i σ H Q q)⟩
def QA.imp {X:Cx}{e:List Expr}{t t':TA}(h:QA X e t)(i:∀σ H Q,t' σ H Q->t σ H Q):QA X e t':=⟨λpos pins s σ H Q I q=>h.p pos pins s σ H Q I (i σ H Q q)⟩
def QW.imp {X:Cx}{e:Expr}{t t':TT}(h:QW X e t)(i:∀σ H Q,t' σ H Q->t σ H Q):QW X e t':=⟨λw pins s σ H Q I q=>h.p w pins s σ H Q I (i σ H Q q)⟩
def QS.imp {X:Cx}{e:Stmt}{t t':TS}(h:QS X e t)(i:∀D σ H,t' D σ H->t D σ H):QS X e t':=⟨λpins s σ H D I q=>h.p pins s σ H D I (i D σ H q)⟩
def QSs.imp {X:Cx}{e:List Stmt}{t t':TS}(h:QSs X e t)(i:∀D σ H,t' D σ H->t D σ H):QSs X e t':=⟨λpins s σ H D I q=>h.p pins s σ H D I (i D σ H q)⟩
def QI.imp {X:Cx}{tg e:Expr}{t t':TI}(h:QI X tg e t)(i:∀σ H R,t' σ H R->t σ H R):QI X tg e t':=⟨λpins s σ H R I q=>h.p pins s σ H R I (i σ H R q)⟩
abbrev QX (X:Cx)(E:XK)(e:Expr)(x:Ex):Prop:=QE X e (tx X.K X.mg E x)
abbrev QXT (X:Cx)(E:XK)(e:Expr)(x:Ex):Prop:=QT X e (tt X.K X.mg E x)
abbrev QXW (X:Cx)(E:XK)(e:Expr)(x:Ex):Prop:=QW X e (tt X.K X.mg E x)
abbrev QXA (X:Cx)(E:XK)(es:List Expr)(x:List Ex):Prop:=QA X es (txa X.K X.mg E x)
section
variable {X:Cx}{E:XK}{e a b c:Expr}{x y z:Ex}{pos:Pos}{es:List Expr}{xs:List Ex}{rest:List Expr}
def qx_c {d:D}{v:V}(h:QE X e (tC v))(r:∀G,RD X.K X.mg G d v):QX X E e (.c d):=QE.imp h λσ H Q ⟨G,ρ,Q0,X0,hs,ab,hr,hk,hx⟩=>hk.now hs hr (r G)
def qx_v {i:Nat}(h:QE X e (tVar i)):QX X E e (.v i):=QE.imp h λσ H Q ⟨G,ρ,Q0,X0,hs,ab,hr,hk,hx⟩=>by
 have hr':onV (ρ.get i) Q0:=hr
 cases q:ρ.get i with
 | none=>rw[q] at hr'; exact hr'.elim
 | some d=>
  rw[q] at hr';obtain⟨v,h1,h2⟩:=ab i d q;exact⟨v,h1,hk.now hs hr' h2⟩
def z03 {i:Int}{j:Nat}:QX X E (.Constant (.int i) j pos) (.c (.int i)):=qx_c zgF λ_=>by rw[RD]
def z3A {i:Bool}{j:Nat}:QX X E (.Constant (.bool i) j pos) (.c (.bl i)):=qx_c ziN λ_=>by rw[RD]
def z5r {j:Nat}:QX X E (.Constant .none j pos) (.c .non):=qx_c zgC λ_=>by rw[RD]
def z0M {i:Str}{j:Nat}:QX X E (.Constant (.str i) j pos) (.c (.str i)):=qx_c zgA λ_=>by rw[RD]
def z07 {op:Operator}{F:Fn}{r:R2}(ho:OpR X (binaryOp op) r)(lk:Lk2 X.K X.mg F r)(ha:QX X E a x)(hb:QX X E b y):QX X E (.BinOp a op b pos) (.op F [x,y]):=QE.imp (ziL ho ha hb) λ_ _ _ h=>tx2 lk h
def z9F {op:UnaryOp}{F:Fn}{r:V->Hp->VK->Prop}(ho:UnR X (unaryOp op) r)(lk:Lk1 X.K X.mg F r)(ha:QX X E a x):QX X E (.UnaryOp op a pos) (.op F [x]):=QE.imp (ziK ho ha) λ_ _ _ h=>tx1 lk h
def z5u {op:CmpOp}{F:Fn}{r:R2}(ho:OpR X (compareOp op) r)(lk:Lk2 X.K X.mg F r)(ha:QX X E a x)(hb:QX X E b y)(hm:behindInMarks op b=false):QX X E (.Compare a [op] [b] pos) (.op F [x,y]):=QE.imp (zeU ho ha hb hm) λ_ _ _ h=>tx2 lk h
def z88 {t:TE}{σ:L2.St}{H:Hp}{Q:Bool->Hp->Prop}(m:∀Q,tx X.K X.mg E x σ H Q->t σ H Q)(h:tt X.K X.mg E x σ H Q):zao t σ H Q:=by
 obtain⟨G,ρ,Q0,X0,hs,ab,hr,hk,hx⟩:=h;refine m _ ⟨G,ρ,Q0,X0,hs,ab,hr,λd v G' H' q g1 g2 g3 rd =>?_,hx⟩;obtain⟨b,rfl,q'⟩:=hk d G' H' q g1 g2 g3;rw[RD] at rd;exact⟨b,rd,q'⟩
def z2k {op:CmpOp}{F:Fn}{r:R2}(ho:OpR X (compareOp op) r)(lk:Lk2 X.K X.mg F r)(ha:QX X E a x)(hb:QX X E b y)(hm:behindInMarks op b=false):QXT X E (.Compare a [op] [b] pos) (.op F [x,y]):=QT.imp (zaV ho ha hb hm) λσ H Q h=>z88 (λ_ h=>tx2 lk h) h
def z1q (h:QX X E e x)(he:∀whole,isTrue e X.env whole=(do let v <- whole; standAt e.pos; holding [v] (truthy v)):=by intro _; rfl):QXT X E e x:=QT.imp (zgm h he) λσ H Q h=>by
 obtain⟨G,ρ,Q0,X0,hs,ab,hr,hk,hx⟩:=h;refine⟨G,ρ,Q0,X0,hs,ab,hr,λd v G' H' q g1 g2 g3 rd =>?_,hx⟩;obtain⟨b,rfl,q'⟩:=hk d G' H' q g1 g2 g3;rw[RD] at rd;exact⟨b,rd,q'⟩
def z1P (ha:QXT X E a x):QXT X E (.UnaryOp .Not a pos) (.not x):=QT.imp (zgn ha) λσ H Q ⟨G,ρ,Q0,X0,hs,ab,hr,hk,hx⟩=>by
 refine⟨G,ρ,_,X0,hs,ab,hr,λd G' H' q g1 g2 g3 =>?_,hx⟩
 cases d with
 | bl b=>
  obtain⟨b',e,q'⟩:=hk (.bl !b) G' H' q g1 g2 g3
  cases e
  exact⟨b,rfl,q'⟩
 | _=>exact q.elim
def z8Z {op}(h:QX X E a x):QX X E (.BoolOp op [a] pos) x:=zgB h
def z6o (ha:QX X E a x)(hb:QX X E (.BoolOp .And (b::rest) pos) y):QX X E (.BoolOp .And (a::b::rest) pos) (.and x y):=QE.imp (zgH ha hb) λσ H Q ⟨G,ρ,Q0,X0,hs,ab,hr,hk,hx⟩=>by
 refine⟨G,ρ,_,X0,hs,ab,hr,λd v G' H' q g1 g2 g3 rd =>?_,hx⟩;obtain⟨k,rfl,q1,q2⟩:=z4e q;rw[RD] at rd;refine⟨k,rd,?_⟩
 cases k with
 | true=>exact iteT ⟨G',ρ,Q0,X0,g2,ab.same g1.1,q1 rfl,hk.same g1 g3,hx.same g3⟩
 | false=>exact iteF (hk (.bl false) (.bl false) G' H' (q2 rfl) g1 g2 g3 (by rw[RD]))
def z3B (ha:QXT X E a x):QXW X E (.BoolOp .Or [a] pos) x:=zgl ha
def z4k (ha:QXT X E a x)(hb:QXW X E (.BoolOp .Or (b::rest) pos) y):QXW X E (.BoolOp .Or (a::b::rest) pos) (.or x y):=QW.imp (ziI ha hb) λσ H Q ⟨G,ρ,Q0,X0,hs,ab,hr,hk,hx⟩=>by
 refine⟨G,ρ,_,X0,hs,ab,hr,λd G' H' q g1 g2 g3 =>?_,hx⟩;obtain⟨k,rfl,q1,q2⟩:=z4e q;refine⟨k,rfl,?_⟩
 cases k with
 | false=>exact iteF ⟨G',ρ,Q0,X0,g2,ab.same g1.1,q2 rfl,λd G2 H2 q k1 k2 k3=>hk d G2 H2 q (g1.trans g3 k1) k2 (z06 g3 k3),hx.same g3⟩
 | true=>
  obtain⟨b',e,q'⟩:=hk (.bl true) G' H' (q1 rfl) g1 g2 g3
  cases e
  exact iteT q'
def z02:QXA X E [] []:=QA.imp z7s λσ H Q ⟨G,ρ,Q0,X0,hs,ab,hr,hk,hx⟩=>hk [] [] G H hr Gr.refl hs Same.refl' RDs.nil
def z00 (ha:QX X E e x)(hr:QXA X E es xs)(hs:starEach (e::es) X.env=(false,eval e X.env)::starEach es X.env:=by rfl):QXA X E (e::es) (x::xs):=QA.imp (z46 ha hr hs) λσ H Q ⟨G,ρ,Q0,X0,hs,ab,hr,hk,hx⟩=>by
 refine⟨G,ρ,_,X0,hs,ab,hr,λd v G' H' q g1 g2 g3 rd =>?_,hx⟩;refine⟨G',ρ,_,X0,g2,ab.same g1.1,q,λds vs G2 H2 q' k1 k2 k3 rds =>?_,hx.same g3⟩;exact hk (d::ds) (v::vs) G2 H2 q' (g1.trans g3 k1) k2 (z06 g3 k3) (RDs.cons (rd.same k1.1) rds)
def spP (K:W.Frag)(mg:Str->Option Value)(F:Fn):Sp:=λvs H Q E=>∃G ds Q0 X0,Same G H/\RDs K mg G ds vs/\F.run ds Q0 X0/\Kt K mg G H Q0 Q/\Kx mg H X0 E
def z1d {CX:CXT}{k:Nat}{ps:List Str}{F:Fn}{f:Str}{pp:Pos}(C:Cal X.prog X.w X.K X.mg X.base CX k f ps (spP X.K X.mg F))(hr:Room k X.A)(hx:z1D CX X E)(ha:QXA X E (e::es) xs)(hg:Gl X f:=by rfl)
  (hdb:(f == ("__debug__":Str))=false:=by decide) (he:starEach (e::es) X.env=(false,eval e X.env)::starEach es X.env:=by rfl) (hpl:(backTo pos (starEach es X.env)).any (·.1)=false:=by rfl):QX X E (.Call (.Name f pp) (e::es) [] pos) (.op F xs):=
 QE.imp (zeT C hr hx ha hg hdb he hpl) λσ H Q ⟨G,ρ,Q0,X0,hs,ab,hr,hk,hx⟩=>by
  refine⟨G,ρ,_,X0,hs,ab,hr,λds vs G' H' q g1 g2 g3 rds =>?_,hx⟩;show spP X.K X.mg F (vs++[]) H' Q E;rw[wW];exact⟨G',ds,Q0,X0,g2,rds,q,hk.same g1 g3,hx.same g3⟩
def z3z {f:Str}{pp:Pos}{id:String}{F:Fn}{r:List V->Hp->VK->Prop}(hc:z1v X (.builtin id) r)(lk:LkN X.K X.mg F r)(hg:Gl X f)(hm:X.mg f=none)(hv:bootBuiltins f=some (.builtin id))(ha:QXA X E (e::es) xs)(hn:f≠"__name__":=by decide)(hdb:(f == ("__debug__":Str))=false:=by decide)
  (he:starEach (e::es) X.env=(false,eval e X.env)::starEach es X.env:=by rfl) (hpl:(backTo pos (starEach es X.env)).any (·.1)=false:=by rfl):QX X E (.Call (.Name f pp) (e::es) [] pos) (.op F xs):=
 QE.imp (z5d hc hg hm hv ha hn hdb he hpl) λ_ _ _ h=>txN lk h
def z5t {f:Str}{pp:Pos}{id:String}{F:Fn}{r:List V->Hp->VK->Prop}(hc:z1v X (.type id) r)(lk:LkN X.K X.mg F r)(hg:Gl X f)(hm:X.mg f=none)(hv:bootBuiltins f=some (.type id))(ha:QXA X E (e::es) xs)(hn:f≠"__name__":=by decide)(hdb:(f == ("__debug__":Str))=false:=by decide)
  (he:starEach (e::es) X.env=(false,eval e X.env)::starEach es X.env:=by rfl) (hpl:(backTo pos (starEach es X.env)).any (·.1)=false:=by rfl):QX X E (.Call (.Name f pp) (e::es) [] pos) (.op F xs):=
 QE.imp (z7r hc hg hm hv ha hn hdb he hpl) λ_ _ _ h=>txN lk h
end
def z3u (K:W.Frag)(mg:Str->Option Value)(G H:Hp)(a:Addr):D->Prop
 | .lst ds=>∃xs,H a=some (.lst xs)/\RDs K mg G ds xs
 | .dct ks vs=>∃xs,RDs K mg G vs xs/\((∃kvs:List (Key × V),H a=some (.dK kvs)/\ks=kvs.map (λp=>kD p.1)/\xs=kvs.map (·.2))\/∃kvs:List (List Key × V),H a=some (.dT kvs)/\kvs≠[]/\ks=kvs.map (λp =>.tup (p.1.map kD))/\xs=kvs.map (·.2))
 | _=>False
structure AbS (K:W.Frag)(mg:Str->Option Value)(H0 G0 G:Hp)(ρ:Pu.Env)(σ:L2.St)(H:Hp):Prop where
 len:σ.length=ρ.length
 s0:Same H0 H
 g0:Same G0 G
 g:Same G H
 nw:∀a o,G a=some o->(∃u,G0 a=some u)\/H0 a=none
 sh:∀(i:Nat) (d:D),ρ[i]? = some (B.s d)->∃v,σ[i]? = some (some v)/\RD K mg G d v
 ow:∀(i:Nat) (d:D),ρ[i]? = some (B.o d)->∃a,σ[i]? = some (some (V.ref a))/\G a=none/\H0 a=none/\z3u K mg G H a d
 ne:∀(i j:Nat) (d d':D) (a:Addr),i≠j->ρ[i]? = some (B.o d)->ρ[j]? = some (B.o d')->σ[i]? = some (some (V.ref a))->σ[j]? = some (some (V.ref a))->False
open Classical in
def plus (G H:Hp)(O:Addr->Prop):Hp:=λa=>if O a then H a else G a
open Classical in
def minus (G:Hp)(O:Addr->Prop):Hp:=λa=>if O a then none else G a
section
variable {K:W.Frag}{mg:Str->Option Value}{H0 G0 G G' H H' H1:Hp}{ρ:Pu.Env}{σ:L2.St}{O:Addr->Prop}
def z1Z (g:Same G H):Same (plus G H O) H:=λa o e=>by
 unfold plus at e
 split at e
 ·exact e
 ·exact g a o e
def z2a (h:∀a,O a->G a=none):Same G (plus G H O):=λa o e=>by
 unfold plus
 split
 ·rename_i z; rw[h a z] at e; cases e
 ·exact e
def z3C {a:Addr}(h:O a):plus G H O a=H a:=by unfold plus; rw[if_pos h]
def z1i:Same (minus G O) G:=λa o e=>by
 unfold minus at e
 split at e
 ·cases e
 ·exact e
def z20 {a:Addr}(h:O a):minus G O a=none:=by unfold minus; rw[if_pos h]
def z2l {a:Addr}(h:¬ O a):minus G O a=G a:=by unfold minus; rw[if_neg h]
def z2t (g:Same G G')(h:∀a,O a->G a=none):Same G (minus G' O):=λa o e=>by
 by_cases z:O a
 ·rw[h a z] at e; cases e
 ·rw[z2l z]; exact g a o e
theorem z3u.same {a:Addr}{d:D}(h:z3u K mg G H a d)(g:Same G G')(k:∀o,H a=some o->H1 a=some o):z3u K mg G' H1 a d:=by
 cases d with
 | lst ds=>
  obtain⟨xs,h1,h2⟩:=h;exact⟨xs,k _ h1,h2.same g⟩
 | dct ks vs=>
  obtain⟨xs,h1,h2⟩:=h;refine⟨xs,h1.same g,?_⟩
  rcases h2 with ⟨kvs,q,r⟩ | ⟨kvs,q,r⟩
  ·exact .inl ⟨kvs,k _ q,r⟩
  ·exact .inr ⟨kvs,k _ q,r⟩
 | _=>exact h.elim
theorem z3u.some {a:Addr}{d:D}(h:z3u K mg G H a d):∃o,H a=some o:=by
 cases d with
 | lst ds=>obtain⟨xs,h1,h2⟩:=h; exact⟨_,h1⟩
 | dct ks vs=>
  obtain⟨xs,h1,h2⟩:=h
  rcases h2 with ⟨kvs,q,r⟩ | ⟨kvs,q,r⟩ <;> exact⟨_,q⟩
 | _=>exact h.elim
def z3u.rd {a:Addr}{d:D}(h:z3u K mg G H a d)(g:Same G G')(e:G' a=H a):RD K mg G' d (.ref a):=by
 cases d with
 | lst ds=>
  obtain⟨xs,h1,h2⟩:=h;rw[RD];exact⟨a,xs,rfl,SqL.of (e.trans h1),h2.same g⟩
 | dct ks vs=>
  obtain⟨xs,h1,h2⟩:=h;rw[RD];refine⟨a,xs,rfl,h1.same g,?_⟩
  rcases h2 with ⟨kvs,q,r⟩ | ⟨kvs,q,r⟩
  ·exact .inl ⟨kvs,.inl (e.trans q),r⟩
  ·exact .inr ⟨kvs,e.trans q,r⟩
 | _=>exact h.elim
def OK1 (G:Hp)(O:Addr->Prop)(bL bD:Prop):Prop:=∀a,O a->G a=none\/((∃xs,G a=some (.lst xs))/\bL)\/(((∃kvs,G a=some (.dK kvs))\/∃kvs,G a=some (.dT kvs))/\bD)
def z2g {a:Addr}{o u:HO}{bL bD:Prop}(hO:OK1 G O bL bD)(h:G a=some o)(h1:∀xs,o = .lst xs->¬ bL)(h2:∀k,o = .dK k->¬ bD)(h3:∀k,o = .dT k->¬ bD):minus G O a=some o:=by
 by_cases z:O a
 ·rcases hO a z with q | ⟨⟨xs,q⟩,b⟩ | ⟨⟨k,q⟩ | ⟨k,q⟩,b⟩
  ·rw[q] at h; cases h
  ·rw[q] at h; cases h; exact(h1 _ rfl b).elim
  ·rw[q] at h; cases h; exact(h2 _ rfl b).elim
  ·rw[q] at h; cases h; exact(h3 _ rfl b).elim
 ·rw[z2l z]; exact h
mutual
theorem RD.minus {bL bD:Prop}(hO:OK1 G O bL bD):∀(d:D) {v:V},(bL->noL d=true)->(bD->noD d=true)->RD K mg G d v->RD K mg (Pu.minus G O) d v
 | .non,_,_,_,h=>by simpa[RD] using h
 | .bl _,_,_,_,h=>by simpa[RD] using h
 | .int _,_,_,_,h=>by simpa[RD] using h
 | .str _,_,_,_,h=>by simpa[RD] using h
 | .fn _,_,_,_,h=>by rw[RD] at h ⊢; exact h
 | .exc _,_,_,_,h=>by
  rw[RD] at h ⊢;obtain⟨ea,C,h1,h2,h3⟩:=h;exact⟨ea,C,h1,z2g (u :=.lst []) hO h2 (λ_ z=>by cases z) (λ_ z=>by cases z) (λ_ z=>by cases z),h3⟩
 | .ptr _,_,_,_,h=>by rw[RD] at h ⊢; exact h
 | .fz _ vs,_,nl,nd,h=>by
  rw[RD] at h ⊢;obtain⟨a,xs,h1,h2,o,kvs,q,r⟩:=h;exact⟨a,xs,h1,RDs.minus hO vs (λb=>by have:=nl b; rw[noL] at this; cases this) (λb=>by have:=nd b; rw[noD] at this; cases this) h2,o,kvs,z2g (u :=.lst []) hO q (λ_ z=>by cases z) (λ_ z=>by cases z) (λ_ z=>by cases z),r⟩
 | .ins _ _ cs,_,nl,nd,h=>by
  rw[RD] at h ⊢;obtain⟨p,C,dx,xs,h1,h2,h3,h4⟩:=h;exact⟨p,C,dx,xs,h1,z2g (u :=.lst []) hO h2 (λ_ z=>by cases z) (λ_ z=>by cases z) (λ_ z=>by cases z),h3,RDs.minus hO cs (λb=>by have:=nl b; rw[noL] at this; cases this) (λb=>by have:=nd b; rw[noD] at this; cases this) h4⟩
 | .tup ds,_,nl,nd,h=>by
  rw[RD] at h ⊢;obtain⟨a,xs,h1,h2,h3⟩:=h;refine⟨a,xs,h1,?_,RDs.minus hO ds (λb=>by have:=nl b; rwa [noL] at this) (λb=>by have:=nd b; rwa [noD] at this) h3⟩
  rcases h2 with (h2 | ⟨o,h2⟩) | h2
  ·exact .inl (.inl (z2g (u :=.lst []) hO h2 (λ_ z=>by cases z) (λ_ z=>by cases z) (λ_ z=>by cases z)))
  ·exact .inl (.inr ⟨o,z2g (u :=.lst []) hO h2 (λ_ z=>by cases z) (λ_ z=>by cases z) (λ_ z=>by cases z)⟩)
  ·exact .inr h2
 | .lst ds,_,nl,nd,h=>by
  rw[RD] at h ⊢;obtain⟨a,xs,h1,h2,h3⟩:=h;have nb:¬ bL:=λb=>by have:=nl b; rw[noL] at this; cases this
  refine⟨a,xs,h1,?_,RDs.minus hO ds (λb=>(nb b).elim) (λb=>by have:=nd b; rwa [noD] at this) h3⟩
  rcases h2 with (h2 | ⟨o,h2⟩) | h2
  ·exact .inl (.inl (z2g (u :=.lst []) hO h2 (λ_ _=>nb) (λ_ z=>by cases z) (λ_ z=>by cases z)))
  ·exact .inl (.inr ⟨o,z2g (u :=.lst []) hO h2 (λ_ z=>by cases z) (λ_ z=>by cases z) (λ_ z=>by cases z)⟩)
  ·exact .inr h2
 | .dct ks vs,_,nl,nd,h=>by
  rw[RD] at h ⊢;obtain⟨a,xs,h1,h3,h4⟩:=h;have nb:¬ bD:=λb=>by have:=nd b; rw[noD] at this; cases this
  refine⟨a,xs,h1,RDs.minus hO vs (λb=>by have:=nl b; rwa [noL] at this) (λb=>(nb b).elim) h3,?_⟩
  rcases h4 with ⟨kvs,q,r⟩ | ⟨kvs,q,r⟩
  ·exact .inl ⟨kvs,q.imp (λq=>z2g (u :=.lst []) hO q (λ_ z=>by cases z) (λ_ _=>nb) (λ_ _=>nb)) λ⟨o,q⟩=>⟨o,z2g (u :=.lst []) hO q (λ_ z=>by cases z) (λ_ z=>by cases z) (λ_ z=>by cases z)⟩,r⟩
  ·exact .inr ⟨kvs,z2g (u :=.lst []) hO q (λ_ z=>by cases z) (λ_ _=>nb) (λ_ _=>nb),r⟩
theorem RDs.minus {bL bD:Prop}(hO:OK1 G O bL bD):∀(ds:List D) {xs:List V},(bL->noLs ds=true)->(bD->noDs ds=true)->RDs K mg G ds xs->RDs K mg (Pu.minus G O) ds xs
 | [],_,_,_,h=>by simpa[RDs] using h
 | d::ds,_,nl,nd,h=>by
  rw[RDs] at h ⊢;obtain⟨x,r,h1,h2,h3⟩:=h;exact⟨x,r,h1,RD.minus hO d (λb=>by have:=nl b; rw[noLs,wM] at this; exact this.1) (λb=>by have:=nd b; rw[noDs,wM] at this; exact this.1) h2,
   RDs.minus hO ds (λb=>by have:=nl b; rw[noLs,wM] at this; exact this.2) (λb=>by have:=nd b; rw[noDs,wM] at this; exact this.2) h3⟩
end
def z13 (ρ:Pu.Env)(σ:L2.St)(a:Addr):Prop:=∃(j:Nat) (d:D),ρ[j]? = some (B.o d)/\σ[j]? = some (some (V.ref a))
def AbS.free (h:AbS K mg H0 G0 G ρ σ H):∀a,z13 ρ σ a->G a=none:=λa ⟨j,d,e,q⟩=>by
 obtain⟨b,q',hb,_⟩:=h.ow j d e;rw[q] at q'; cases q';exact hb
def AbS.owned0 (h:AbS K mg H0 G0 G ρ σ H):∀a,z13 ρ σ a->H0 a=none:=λa ⟨j,d,e,q⟩=>by
 obtain⟨b,q',hb,h0,_⟩:=h.ow j d e;rw[q] at q'; cases q';exact h0
def AbS.nw1 {G1:Hp}(h:AbS K mg H0 G0 G ρ σ H)(g:Gr (plus G H (z13 ρ σ)) H G1):∀a o,G1 a=some o->(∃u,G0 a=some u)\/H0 a=none:=λa o e=>by
 rcases g.2 a o e with ⟨u,q⟩ | q
 ·by_cases z:z13 ρ σ a
  ·exact .inr (h.owned0 a z)
  ·unfold plus at q; rw[if_neg z] at q; exact h.nw a u q
 ·refine .inr ?_
  cases z:H0 a with
  | none=>rfl
  | some w=>rw[h.s0 a w z] at q; cases q
def AbS.nw2 {G1:Hp}(h:AbS K mg H0 G0 G ρ σ H)(g:Gr G H G1):∀a o,G1 a=some o->(∃u,G0 a=some u)\/H0 a=none:=λa o e=>by
 rcases g.2 a o e with ⟨u,q⟩ | q
 ·exact h.nw a u q
 ·refine .inr ?_
  cases z:H0 a with
  | none=>rfl
  | some w=>rw[h.s0 a w z] at q; cases q
def AbS.abe (h:AbS K mg H0 G0 G ρ σ H):AbE K mg (plus G H (z13 ρ σ)) ρ σ:=λi d e=>by
 rw[Env.get_eq] at e
 cases q:ρ[i]? with
 | none=>rw[q] at e; cases e
 | some b=>
  rw[q] at e
  cases b with
  | n=>cases e
  | s d'=>
   cases e
   obtain⟨v,h1,h2⟩:=h.sh i d q;exact⟨v,h1,h2.same (z2a h.free)⟩
  | o d'=>
   cases e
   obtain⟨a,h1,h2,h3,h4⟩:=h.ow i d q;exact⟨.ref a,h1,h4.rd (z2a h.free) (z3C ⟨i,d,q,h1⟩)⟩
theorem AbS.vis (h:AbS K mg H0 G0 G ρ σ H):AbE K mg G (vis ρ) σ:=λi d e=>by
 rw[Env.get_eq] at e;unfold Pu.vis at e;rw[wI] at e
 cases q:ρ[i]? with
 | none=>rw[q] at e; cases e
 | some b=>
  rw[q] at e
  cases b with
  | n=>cases e
  | s d'=>
   cases e
   exact h.sh i d q
  | o d'=>cases e
theorem Safe.get {d:D}:∀{ρ:Pu.Env}{j:Nat}{b:B},Safe d ρ->ρ[j]? = some b->zfX d b
 | [],_,_,_,e=>by simp at e
 | c::r,0,b,h,e=>by simp at e; subst e; exact h.1
 | c::r,j+1,b,h,e=>Safe.get (j:=j) h.2 (by simpa using e)
def zdX {G1:Hp}{d:D}{I:Nat->Prop}(h:AbS K mg H0 G0 G ρ σ H)(g2:Same G1 H1)(g3:Same H H1):
  OK1 G1 (λa=>∃(j:Nat) (d:D),I j/\ρ[j]? = some (B.o d)/\σ[j]? = some (some (V.ref a))) (∃(j:Nat) (l:List D),I j/\ρ[j]? = some (B.o (.lst l))) (∃(j:Nat) (k v:List D),I j/\ρ[j]? = some (B.o (.dct k v))):=λa ⟨j,d',hI,e,q⟩=>by
 obtain⟨b,q',hb,h0,hw⟩:=h.ow j d' e;rw[q] at q'; cases q'
 cases e1:G1 a with
 | none=>exact .inl rfl
 | some o=>
  have e2:=g2 a o e1
  cases d' with
  | lst ds=>
   obtain⟨xs,h1,h2⟩:=hw;rw[g3 a _ h1] at e2
   cases e2
   exact .inr (.inl ⟨⟨xs,rfl⟩,j,ds,hI,e⟩)
  | dct ks vs=>
   obtain⟨xs,h1,h2⟩:=hw
   rcases h2 with ⟨kvs,z,r⟩ | ⟨kvs,z,r⟩
   ·rw[g3 a _ z] at e2
    cases e2
    exact .inr (.inr ⟨.inl ⟨kvs,rfl⟩,j,ks,vs,hI,e⟩)
   ·rw[g3 a _ z] at e2
    cases e2
    exact .inr (.inr ⟨.inr ⟨kvs,rfl⟩,j,ks,vs,hI,e⟩)
  | _=>exact hw.elim
def z6m {G1:Hp}{d:D}{v:V}{i:Nat}(h:AbS K mg H0 G0 G ρ σ H)(g2:Same G1 H1)(g3:Same H H1)(sf:Safe d (ρ.set i .n))(rd:RD K mg G1 d v):
  RD K mg (Pu.minus G1 (λa=>∃(j:Nat) (d:D),j≠i/\ρ[j]? = some (B.o d)/\σ[j]? = some (some (V.ref a)))) d v:=by
 refine RD.minus (zdX (d:=d) (I:=λj=>j≠i) h g2 g3) d (λ⟨j,l,hj,e⟩ =>?_) (λ⟨j,k,v,hj,e⟩ =>?_) rd
 ·exact Safe.get sf (j:=j) (b :=.o (.lst l)) (by rw[we (wU hj)]; exact e)
 ·exact Safe.get sf (j:=j) (b :=.o (.dct k v)) (by rw[we (wU hj)]; exact e)
def z8c {G1:Hp}{d:D}{v:V}(h:AbS K mg H0 G0 G ρ σ H)(g2:Same G1 H1)(g3:Same H H1)(sf:Safe d ρ)(rd:RD K mg G1 d v):
  RD K mg (Pu.minus G1 (λa=>∃(j:Nat) (d:D),True/\ρ[j]? = some (B.o d)/\σ[j]? = some (some (V.ref a)))) d v:=by
 refine RD.minus (zdX (d:=d) (I:=λ_=>True) h g2 g3) d (λ⟨j,l,hj,e⟩ =>?_) (λ⟨j,k,v,hj,e⟩ =>?_) rd
 ·exact Safe.get sf (j:=j) (b :=.o (.lst l)) e
 ·exact Safe.get sf (j:=j) (b :=.o (.dct k v)) e
def AbS.put {G1:Hp}{i:Nat}{d:D}{v:V}(h:AbS K mg H0 G0 G ρ σ H)(nw:∀a o,G1 a=some o->(∃u,G0 a=some u)\/H0 a=none)(g1:Same G G1)(g2:Same G1 H1)(g3:Same H H1)(hO:∀(j:Nat) (d':D) (a:Addr),j≠i->ρ[j]? = some (B.o d')->σ[j]? = some (some (V.ref a))->G1 a=none)(rd:RD K mg G1 d v):
  AbS K mg H0 G0 G1 (ρ.set i (.s d)) (σ.set i (some v)) H1 where
 len:=by simp[h.len]
 s0:=z06 h.s0 g3
 g0:=z06 h.g0 g1
 g:=g2
 nw:=nw
 sh:=λj e q=>by
  by_cases hj:j=i
  ·subst hj;have hl:j < ρ.length:=by
    have:=(wb.mp q).1;simpa using this
   rw[wk hl] at q
   cases q
   exact⟨v,by rw[wk (by rw[h.len]; exact hl)],rd⟩
  ·rw[we (wU hj)] at q;obtain⟨w,h1,h2⟩:=h.sh j e q;exact⟨w,by rw[we (wU hj)]; exact h1,h2.same g1⟩
 ow:=λj e q=>by
  by_cases hj:j=i
  ·subst hj;have hl:j < ρ.length:=by
    have:=(wb.mp q).1;simpa using this
   rw[wk hl] at q
   cases q
  ·rw[we (wU hj)] at q;obtain⟨a,h1,h2,h3,h4⟩:=h.ow j e q;exact⟨a,by rw[we (wU hj)]; exact h1,hO j e a hj q h1,h3,h4.same g1 (g3 a)⟩
 ne:=λj k e e' a hjk q q' s s'=>by
  have hl:∀{j:Nat}{e:D},(ρ.set i (.s d))[j]? = some (B.o e)->j≠i:=λ{j e} q hj=>by
   subst hj;have hl:j < ρ.length:=by
    have:=(wb.mp q).1;simpa using this
   rw[wk hl] at q
   cases q
  have hj:=hl q;have hk:=hl q';rw[we (wU hj)] at q s;rw[we (wU hk)] at q' s';exact h.ne j k e e' a hjk q q' s s'
def AbS.own {G1:Hp}{i:Nat}{d:D}{a:Addr}(h:AbS K mg H0 G0 G ρ σ H)(nw:∀a o,G1 a=some o->(∃u,G0 a=some u)\/H0 a=none)(g1:Same G G1)(g2:Same G1 H1)(g3:Same H H1)(hO:∀(j:Nat) (d':D) (a:Addr),j≠i->ρ[j]? = some (B.o d')->σ[j]? = some (some (V.ref a))->G1 a=none)(hn:H a=none)(ga:G1 a=none)(hw:z3u K mg G1 H1 a d):
  AbS K mg H0 G0 G1 (ρ.set i (.o d)) (σ.set i (some (.ref a))) H1 where
 len:=by simp[h.len]
 s0:=z06 h.s0 g3
 g0:=z06 h.g0 g1
 g:=g2
 nw:=nw
 sh:=λj e q=>by
  by_cases hj:j=i
  ·subst hj;have hl:j < ρ.length:=by
    have:=(wb.mp q).1;simpa using this
   rw[wk hl] at q
   cases q
  ·rw[we (wU hj)] at q;obtain⟨w,h1,h2⟩:=h.sh j e q;exact⟨w,by rw[we (wU hj)]; exact h1,h2.same g1⟩
 ow:=λj e q=>by
  by_cases hj:j=i
  ·subst hj;have hl:j < ρ.length:=by
    have:=(wb.mp q).1;simpa using this
   rw[wk hl] at q
   cases q
   refine⟨a,by rw[wk (by rw[h.len]; exact hl)],ga,?_,hw⟩;exact z0x h.s0 hn
  ·rw[we (wU hj)] at q;obtain⟨b,h1,h2,h3,h4⟩:=h.ow j e q;exact⟨b,by rw[we (wU hj)]; exact h1,hO j e b hj q h1,h3,h4.same g1 (g3 b)⟩
 ne:=λj k e e' b hjk q q' s s'=>by
  have old:∀{j:Nat}{e:D},j≠i->(ρ.set i (.o d))[j]? = some (B.o e)->(σ.set i (some (.ref a)))[j]? = some (some (V.ref b))->ρ[j]? = some (B.o e)/\σ[j]? = some (some (V.ref b)):=λ{j e} hj q s=>by
   rw[we (wU hj)] at q s;exact⟨q,s⟩
  have new:∀{j:Nat}{e:D},j=i->(ρ.set i (.o d))[j]? = some (B.o e)->(σ.set i (some (.ref a)))[j]? = some (some (V.ref b))->b=a:=λ{j e} hj q s=>by
   subst hj;have hl:j < σ.length:=by
    have:=(wb.mp s).1;simpa using this
   rw[wk hl] at s
   cases s; rfl
  have none:∀{j:Nat}{e:D},ρ[j]? = some (B.o e)->σ[j]? = some (some (V.ref b))->b≠a:=λ{j e} q s z=>by
   obtain⟨b',h1,h2,h3,h4⟩:=h.ow j e q;rw[s] at h1; cases h1;obtain⟨o,ho⟩:=h4.some;rw[z,hn] at ho; cases ho
  by_cases hj:j=i
  ·have hb:=new hj q s;have hk:k≠i:=λz=>hjk (hj.trans z.symm);obtain⟨q1,s1⟩:=old hk q' s';exact none q1 s1 hb
  ·obtain⟨q1,s1⟩:=old hj q s
   by_cases hk:k=i
   ·exact none q1 s1 (new hk q' s')
   ·obtain⟨q2,s2⟩:=old hk q' s';exact h.ne j k e e' b hjk q1 q2 s1 s2
def AbS.wr {G1:Hp}{i:Nat}{d d':D}{a:Addr}{o:HO}(h:AbS K mg H0 G0 G ρ σ H)(nw:∀a o,G1 a=some o->(∃u,G0 a=some u)\/H0 a=none)(g1:Same G G1)(g2:Same G1 H1)(g3:Same H H1)(hO:∀(j:Nat) (d':D) (a:Addr),ρ[j]? = some (B.o d')->σ[j]? = some (some (V.ref a))->G1 a=none)(hi:ρ[i]? = some (B.o d))(hs:σ[i]? = some (some (V.ref a)))
  (hw:z3u K mg G1 (upd H1 a o) a d'):AbS K mg H0 G0 G1 (ρ.set i (.o d')) σ (upd H1 a o):=by
 obtain⟨a',e1,ga,h0a,hw0⟩:=h.ow i d hi;rw[hs] at e1; cases e1;have hl:i < ρ.length:=(wb.mp hi).1;refine⟨by simp[h.len],λb u e =>?_,z06 h.g0 g1,λb u e =>?_,nw,λj e q =>?_,λj e q =>?_,λj k e e' b hjk q q' s s' =>?_⟩
 ·have hb:b≠a:=λz=>by rw[z,h0a] at e; cases e
  rw[z04 hb]; exact g3 b u (h.s0 b u e)
 ·have hb:b≠a:=λz=>by rw[z,hO i d a hi hs] at e; cases e
  rw[z04 hb]; exact g2 b u e
 ·by_cases hj:j=i
  ·subst hj;rw[wk hl] at q; cases q
  ·rw[we (wU hj)] at q;obtain⟨w,h1,h2⟩:=h.sh j e q;exact⟨w,h1,h2.same g1⟩
 ·by_cases hj:j=i
  ·subst hj;rw[wk hl] at q; cases q;exact⟨a,hs,hO j d a hi hs,h0a,hw⟩
  ·rw[we (wU hj)] at q;obtain⟨b,h1,h2,h3,h4⟩:=h.ow j e q;have hb:b≠a:=λz=>by subst z; exact h.ne j i e d b hj q hi h1 hs
   exact⟨b,h1,hO j e b q h1,h3,h4.same g1 (λu e=>by rw[z04 hb]; exact g3 b u e)⟩
 ·have old:∀{j:Nat}{e:D},(ρ.set i (.o d'))[j]? = some (B.o e)->∃e',ρ[j]? = some (B.o e'):=λ{j e} q=>by
   by_cases hj:j=i
   ·subst hj; exact⟨d,hi⟩
   ·rw[we (wU hj)] at q; exact⟨e,q⟩
  obtain⟨x,q1⟩:=old q;obtain⟨y,q2⟩:=old q';exact h.ne j k x y b hjk q1 q2 s s'
def AbS.dem1 (h:AbS K mg H0 G0 G ρ σ H)(j:Nat):∃G',AbS K mg H0 G0 G' (ρ.set j (demB ((ρ[j]?).getD .n))) σ H/\Same G G':=by
 cases q:ρ[j]? with
 | none=>
  have:ρ.set j (demB ((none:Option B).getD .n))=ρ:=by
   apply List.set_eq_of_length_le;exact List.getElem?_eq_none_iff.mp q
  rw[this];exact⟨G,h,Same.refl'⟩
 | some b=>
  have hl:j < ρ.length:=(wb.mp q).1;have same:∀b',b=b'->demB b'=b'->∃G',AbS K mg H0 G0 G' (ρ.set j (demB ((some b).getD .n))) σ H/\Same G G':=λb' e e'=>by
   subst e;have:ρ.set j (demB ((some b).getD .n))=ρ:=by
    show ρ.set j (demB b)=ρ;rw[e'];apply List.ext_getElem?;intro k
    by_cases hk:k=j
    ·subst hk; rw[wk hl,q]
    ·rw[we (wU hk)]
   rw[this];exact⟨G,h,Same.refl'⟩
  cases b with
  | n=>exact same .n rfl rfl
  | s d=>exact same (.s d) rfl rfl
  | o d=>
   obtain⟨a,s1,ga,h0a,hw⟩:=h.ow j d q;show ∃G',AbS K mg H0 G0 G' (ρ.set j (.s d)) σ H/\Same G G';have lp:Same G (plus G H (· = a)):=z2a (λb z=>by rw[z]; exact ga);refine⟨plus G H (· = a),⟨by simp[h.len],h.s0,z06 h.g0 lp,z1Z h.g,λb o e=>(by
     by_cases hb:b=a
     ·exact .inr (by rw[hb]; exact h0a)
     ·unfold plus at e; rw[if_neg hb] at e; exact h.nw b o e),λk e z =>?_,λk e z =>?_,λk l e e' b hkl z z' s s' =>?_⟩,lp⟩
   ·by_cases hk:k=j
    ·subst hk;rw[wk hl] at z; cases z;exact⟨.ref a,s1,hw.rd lp (z3C rfl)⟩
    ·rw[we (wU hk)] at z;obtain⟨w,h1,h2⟩:=h.sh k e z;exact⟨w,h1,h2.same lp⟩
   ·by_cases hk:k=j
    ·subst hk;rw[wk hl] at z; cases z
    ·rw[we (wU hk)] at z;obtain⟨b,h1,h2,h3,h4⟩:=h.ow k e z;have hb:b≠a:=λy=>by subst y; exact h.ne k j e d b hk z q h1 s1
     refine⟨b,h1,?_,h3,h4.same lp (λ_ e=>e)⟩;unfold plus;rw[if_neg hb]; exact h2
   ·have old:∀{k:Nat}{e:D},(ρ.set j (.s d))[k]? = some (B.o e)->ρ[k]? = some (B.o e):=λ{k e} z=>by
     by_cases hk:k=j
     ·subst hk; rw[wk hl] at z; cases z
     ·rw[we (wU hk)] at z; exact z
    exact h.ne k l e e' b hkl (old z) (old z') s s'
theorem AbS.dem (js:List Nat):∀{G:Hp}{ρ:Pu.Env},AbS K mg H0 G0 G ρ σ H->∃G',AbS K mg H0 G0 G' (dem js ρ) σ H/\Same G G':=by
 induction js with
 | nil=>intro G ρ h; exact⟨G,h,Same.refl'⟩
 | cons j js ih=>
  intro G ρ h;obtain⟨G1,h1,g1⟩:=h.dem1 j;obtain⟨G2,h2,g2⟩:=ih h1;exact⟨G2,h2,z06 g1 g2⟩
end
end Pu
namespace Pu
open PySem PySem.Spec PyProof.Rows L2
def Kn (K:W.Frag)(mg:Str->Option Value)(H0 G0 G:Hp)(N0:Pu.Env->Prop)(N:L2.St->Hp->Prop):Prop:=∀ρ' σ' H' G',N0 ρ'->AbS K mg H0 G0 G' ρ' σ' H'->Same G G'->N σ' H'
def Kr (K:W.Frag)(mg:Str->Option Value)(H0 G0:Hp)(R0:DK)(R:VK):Prop:=∀d v G' H',R0 d->Gr G0 H0 G'->Same G' H'->Same H0 H'->RD K mg G' d v->R v H'
def ts (K:W.Frag)(mg:Str->Option Value)(E:XK)(t:Sm):TS:=λD σ H=>∃H0 G0 G ρ N0 R0 X0,AbS K mg H0 G0 G ρ σ H/\t.run ρ N0 R0 X0/\Kn K mg H0 G0 G N0 D.nx/\Kr K mg H0 G0 R0 D.rt/\Kx mg H0 X0 E
def Kn.same {K:W.Frag}{mg:Str->Option Value}{H0 G0 G G1:Hp}{N0:Pu.Env->Prop}{N:L2.St->Hp->Prop}(h:Kn K mg H0 G0 G N0 N)(g:Same G G1):Kn K mg H0 G0 G1 N0 N:=λρ' σ' H' G' a b c=>h ρ' σ' H' G' a b (z06 g c)
abbrev QZ (X:Cx)(E:XK)(st:Stmt)(t:Sm):Prop:=QS X st (ts X.K X.mg E t)
abbrev QZs (X:Cx)(E:XK)(st:List Stmt)(t:Sm):Prop:=QSs X st (ts X.K X.mg E t)
section
variable {X:Cx}{E:XK}{st:Stmt}{rest body la lb:List Stmt}{t u:Sm}{e a b c:Expr}{x y z:Ex}{pos:Pos}
def z1V:QZs X E [] .skip:=QSs.imp zaX λD σ H ⟨H0,G0,G,ρ,N0,R0,X0,ab,hr,hn,hR,hx⟩=>hn ρ σ H G hr ab Same.refl'
def z0h (h:QZ X E st t):QZs X E [st] t:=z8g h
def z0c (h:QZ X E st t)(h':QZs X E rest u):QZs X E (st::rest) (.seq t u):=QSs.imp (z90 h h') λD σ H ⟨H0,G0,G,ρ,N0,R0,X0,ab,hr,hn,hR,hx⟩=>
 ⟨H0,G0,G,ρ,λρ'=>u.run ρ' N0 R0 X0,R0,X0,ab,hr,λρ' σ' H' G' q ab' g=>⟨H0,G0,G',ρ',N0,R0,X0,ab',q,hn.same g,hR,hx⟩,hR,hx⟩
def zcl {K:W.Frag}{mg:Str->Option Value}{H0 G0 G H:Hp}{ρ:Pu.Env}{σ:L2.St}{Q0:DK}{X0:XP}{Q:VK}(ab:AbS K mg H0 G0 G ρ σ H)(hr:x.run ρ Q0 X0)(hx:Kx mg H0 X0 E)(hk:Kt K mg (plus G H (z13 ρ σ)) H Q0 Q):tx K mg E x σ H Q:=
 ⟨plus G H (z13 ρ σ),ρ,Q0,X0,z1Z ab.g,ab.abe,hr,hk,hx.same ab.s0⟩
def AbS.back {K:W.Frag}{mg:Str->Option Value}{H0 G0 G G1 H H1:Hp}{ρ:Pu.Env}{σ:L2.St}(ab:AbS K mg H0 G0 G ρ σ H)(g1:Gr (plus G H (z13 ρ σ)) H G1)(g2:Same G1 H1)(g3:Same H H1):AbS K mg H0 G0 (minus G1 (z13 ρ σ)) ρ σ H1/\Same G (minus G1 (z13 ρ σ)):=by
 have hf:=ab.free;have lm:Same G (minus G1 (z13 ρ σ)):=z2t (z06 (z2a hf) g1.1) hf;exact⟨⟨ab.len,z06 ab.s0 g3,z06 ab.g0 lm,z06 z1i g2,λa o e=>ab.nw1 g1 a o (z1i a o e),λi d e=>by
   obtain⟨v,h1,h2⟩:=ab.sh i d e;exact⟨v,h1,h2.same lm⟩,λi d e=>by
   obtain⟨a,h1,h2,h3,h4⟩:=ab.ow i d e;exact⟨a,h1,z20 ⟨i,d,e,h1⟩,h3,h4.same lm (g3 a)⟩,ab.ne⟩,lm⟩
def zio {K:W.Frag}{mg:Str->Option Value}{H0 G0 G H:Hp}{ρ:Pu.Env}{σ:L2.St}{A B:Prop}{X0:XP}{Q:Bool->Hp->Prop}(ab:AbS K mg H0 G0 G ρ σ H)(hr:x.run ρ (λd=>tst d A B) X0)(hx:Kx mg H0 X0 E)
  (ha:A->∀H' G',AbS K mg H0 G0 G' ρ σ H'->Same G G'->Q true H') (hb:B->∀H' G',AbS K mg H0 G0 G' ρ σ H'->Same G G'->Q false H'):tt K mg E x σ H Q:=by
 refine⟨plus G H (z13 ρ σ),ρ,_,X0,z1Z ab.g,ab.abe,hr,λd G1 H1 q g1 g2 g3 =>?_,hx.same ab.s0⟩;obtain⟨b,rfl,q1,q2⟩:=z4e q;refine⟨b,rfl,?_⟩;obtain⟨ab',lm⟩:=ab.back g1 g2 g3
 cases b with
 | true=>exact ha (q1 rfl) H1 _ ab' lm
 | false=>exact hb (q2 rfl) H1 _ ab' lm
def z2C (hc:QXT X E c z)(ha:QZs X E la t)(hb:QZs X E lb u):QZ X E (.If c la lb pos) (.ifs z t u):=QS.imp (zaZ hc ha hb) λD σ H ⟨H0,G0,G,ρ,N0,R0,X0,ab,hr,hn,hR,hx⟩=>by
 refine zio ab hr hx (λq H' G' ab' g =>?_) (λq H' G' ab' g =>?_)
 ·exact iteT ⟨H0,G0,G',ρ,N0,R0,X0,ab',q,hn.same g,hR,hx⟩
 ·exact iteF ⟨H0,G0,G',ρ,N0,R0,X0,ab',q,hn.same g,hR,hx⟩
def z0t (he:QX X E e x):QZ X E (.Return (some e) pos) (.ret x):=QS.imp (zgo he) λD σ H ⟨H0,G0,G,ρ,N0,R0,X0,ab,hr,hn,hR,hx⟩=>
 zcl ab hr hx λd v G1 H1 q g1 g2 g3 rd=>hR d v G1 H1 q ⟨z06 ab.g0 (z06 (z2a ab.free) g1.1),ab.nw1 g1⟩ g2 (z06 ab.s0 g3) rd
def z3S (i:Nat)(ρ:Pu.Env)(σ:L2.St)(a:Addr):Prop:=∃(j:Nat) (d:D),j≠i/\ρ[j]? = some (B.o d)/\σ[j]? = some (some (V.ref a))
def z0H {i:Nat}{tg:Expr}(h:QS X (.Assign [tg] e pos) (tAsg (tx X.K X.mg E x) (z34 i))):QZ X E (.Assign [tg] e pos) (.set i x):=QS.imp h λD σ H ⟨H0,G0,G,ρ,N0,R0,X0,ab,hr,hn,hR,hx⟩=>
 zcl ab hr hx λd v G1 H1 q g1 g2 g3 rd=>by
  have hf:∀a,z3S i ρ σ a->G a=none:=λa ⟨j,d,_,h1,h2⟩=>ab.free a ⟨j,d,h1,h2⟩;have lm:Same G (minus G1 (z3S i ρ σ)):=z2t (z06 (z2a ab.free) g1.1) hf;exact hn (ρ.set i (.s d)) (σ.set i (some v)) H1 _ q.2 (ab.put (λa o e=>ab.nw1 g1 a o (z1i a o e)) lm (z06 z1i g2) g3 (λj d' a hj e s=>z20 ⟨j,d',hj,e,s⟩) (z6m ab g2 g3 q.1 rd)) lm
def Kf (K:W.Frag)(mg:Str->Option Value)(G H:Hp)(Q0:DK)(Q:VK):Prop:=∀d a G' H',Q0 d->Gr G H G'->Same G' H'->Same H H'->H a=none->G' a=none->z3u K mg G' H' a d->Q (.ref a) H'
def tf (K:W.Frag)(mg:Str->Option Value)(E:XK)(e:Ex):TE:=λσ H Q=>∃G ρ Q0 X0,Same G H/\AbE K mg G ρ σ/\e.run ρ Q0 X0/\Kf K mg G H Q0 Q/\Kx mg H X0 E
abbrev QF (X:Cx)(E:XK)(e:Expr)(x:Ex):Prop:=QE X e (tf X.K X.mg E x)
def Kt.kf {K:W.Frag}{mg:Str->Option Value}{G H:Hp}{Q0:DK}{Q:VK}(h:Kt K mg G H Q0 Q):Kf K mg G H Q0 Q:=λd a G' H' q g1 g2 g3 hn gn hw=>by
 obtain⟨o,ho⟩:=hw.some;have lp:Same G' (upd G' a o):=z1g gn o;refine h d (.ref a) (upd G' a o) H' q ⟨z06 g1.1 lp,λb u e =>?_⟩ (λb u e =>?_) g3 (hw.rd lp (by rw[z09]; exact ho.symm))
 ·by_cases hb:b=a
  ·subst hb; exact .inr hn
  ·rw[z04 hb] at e; exact g1.2 b u e
 ·by_cases hb:b=a
  ·subst hb; rw[z09] at e; rw[ho]; exact e
  ·rw[z04 hb] at e; exact g2 b u e
def QF.qx (h:QF X E e x):QX X E e x:=QE.imp h λσ H Q ⟨G,ρ,Q0,X0,hs,ab,hr,hk,hx⟩=>⟨G,ρ,Q0,X0,hs,ab,hr,hk.kf,hx⟩
def z7n {i:Nat}{tg:Expr}(h:QS X (.Assign [tg] e pos) (tAsg (tf X.K X.mg E x) (z34 i))):QZ X E (.Assign [tg] e pos) (.own i x):=QS.imp h λD σ H ⟨H0,G0,G,ρ,N0,R0,X0,ab,hr,hn,hR,hx⟩=>by
 refine⟨plus G H (z13 ρ σ),ρ,_,X0,z1Z ab.g,ab.abe,hr,λd a G1 H1 q g1 g2 g3 ha ga hw =>?_,hx.same ab.s0⟩;have hf:∀a,z3S i ρ σ a->G a=none:=λa ⟨j,d,_,h1,h2⟩=>ab.free a ⟨j,d,h1,h2⟩;have lm:Same G (minus G1 (z3S i ρ σ)):=z2t (z06 (z2a ab.free) g1.1) hf;have z08:∀(l:List Pu.D) (xs:List V),(∀x∈l,Safe x (ρ.set i .n))->RDs X.K X.mg G1 l xs->RDs X.K X.mg (minus G1 (z3S i ρ σ)) l xs:=by
  intro l
  induction l with
  | nil=>intro xs _ h; rw[RDs] at h ⊢; exact h
  | cons y l ih=>
   intro xs hs h;rw[RDs] at h ⊢;obtain⟨v,r,h1,h2,h3⟩:=h;exact⟨v,r,h1,z6m ab g2 g3 (hs y wt) h2,ih r (λz hz=>hs z (wj _ hz)) h3⟩
 have na:minus G1 (z3S i ρ σ) a=none:=by
  unfold minus
  split
  ·rfl
  ·exact ga
 refine hn (ρ.set i (.o d)) (σ.set i (some (.ref a))) H1 _ q.2 (ab.own (λa o e=>ab.nw1 g1 a o (z1i a o e)) lm (z06 z1i g2) g3 (λj d' a hj e s=>z20 ⟨j,d',hj,e,s⟩) ha na ?_) lm;have q1:=q.1
 cases d with
 | lst l=>
  obtain⟨xs,h1,h2⟩:=hw;exact⟨xs,h1,z08 l xs q1 h2⟩
 | dct ks vs=>
  obtain⟨xs,h1,h2⟩:=hw;exact⟨xs,z08 vs xs q1 h1,h2⟩
 | _=>exact q1.elim
end
section
variable {X:Cx}{E:XK}{st:Stmt}{rest body la lb:List Stmt}{t u:Sm}{e a b c tg iter:Expr}{x y z:Ex}{pos:Pos}
def z99 {o:Option (List D)}{Q:List D->Prop}(h:onL o Q):∃l,o=some l/\Q l:=by
 cases o with
 | none=>exact h.elim
 | some l=>exact⟨l,rfl,h⟩
def Walk (K:W.Frag)(mg:Str->Option Value)(G:Hp)(l:List D)(J:It):Prop:=∀(i:Nat) (G1 H:Hp),Same G G1->Same G1 H->
 (∀d,l[i]? = some d->J.go i H/\∀v H',J.yld i H v H'->Same H H'/\∃G2,Gr G1 H G2/\Same G2 H'/\RD K mg G2 d v)/\(l.length<=i->J.stop i H)
def ti (K:W.Frag)(mg:Str->Option Value)(E:XK)(e:Ex):TI:=λσ H R=>∃G ρ Q0 X0,Same G H/\AbE K mg G ρ σ/\e.run ρ Q0 X0/\(∀d,Q0 d->∃l,z08 d=some l)/\(∀d G' H',Q0 d->Gr G H G'->Same G' H'->Same H H'->∀l J,z08 d=some l->Walk K mg G' l J->R J H')/\Kx mg H X0 E
abbrev QXI (X:Cx)(E:XK)(tg e:Expr)(x:Ex):Prop:=QI X tg e (ti X.K X.mg E x)
def tgt (K:W.Frag):Tg->TG
 | .nm i=>z34 i
 | .tp is=>gTup K is.length (is.foldr (λi r=>za1 (z34 i) r) gNil)
theorem z4y {K:W.Frag}:∀(is:List Nat) (vs:List V) (σ:L2.St) (H:Hp) (Q:L2.St->Hp->Prop),is.length=vs.length->Q ((is.zip vs).foldl (λσ p=>σ.set p.1 (some p.2)) σ) H->(is.foldr (λi r=>za1 (z34 i) r) gNil) vs σ H Q
 | [],[],_,_,_,_,q=>⟨rfl,q⟩
 | [],_::_,_,_,_,h,_=>by simp at h
 | _::_,[],_,_,_,h,_=>by simp at h
 | i::is,v::vs,σ,H,Q,h,q=>⟨v,vs,rfl,z4y (K:=K) is vs _ H Q (by simpa using h) q⟩
theorem AbS.putAll {K:W.Frag}{mg:Str->Option Value}{H0 G0 H:Hp}:∀(is:List Nat) (ds:List D) (vs:List V) {G:Hp}{ρ:Pu.Env}{σ:L2.St},is.length=ds.length->RDs K mg G ds vs->AbS K mg H0 G0 G ρ σ H->
  AbS K mg H0 G0 G (z6k is ds ρ) ((is.zip vs).foldl (λσ p=>σ.set p.1 (some p.2)) σ) H
 | [],[],vs,G,ρ,σ,_,h,ab=>by rw[RDs] at h; subst h; exact ab
 | [],_::_,_,_,_,_,h,_,_=>by simp at h
 | _::_,[],_,_,_,_,h,_,_=>by simp at h
 | i::is,d::ds,vs,G,ρ,σ,h,r,ab=>by
  rw[RDs] at r;obtain⟨v,vs',rfl,h1,h2⟩:=r;exact AbS.putAll is ds vs' (by simpa using h) h2 (ab.put ab.nw Same.refl' ab.g Same.refl' (λj d' a hj e s=>ab.free a ⟨j,d',e,s⟩) h1)
def zei {K:W.Frag}{mg:Str->Option Value}{H0 G0 G H:Hp}{ρ:Pu.Env}{σ:L2.St}{tg:Tg}{d:D}{v:V}{N0:Pu.Env->Prop}{N:L2.St->Hp->Prop}(ab:AbS K mg H0 G0 G ρ σ H)(rd:RD K mg G d v)(hp:tg.put d ρ N0)(hn:∀ρ' σ',N0 ρ'->AbS K mg H0 G0 G ρ' σ' H->N σ' H):tgt K tg v σ H N:=by
 cases tg with
 | nm i=>exact hn _ _ hp (ab.put ab.nw Same.refl' ab.g Same.refl' (λj d' a hj e s=>ab.free a ⟨j,d',e,s⟩) rd)
 | tp is=>
  cases d with
  | tup ds=>
   obtain⟨hl,hp⟩:=hp;rw[RD] at rd;obtain⟨a,xs,rfl,h1,h2⟩:=rd;exact⟨a,xs,rfl,z1T ab.g h1,by rw[h2.len,hl],z4y (K:=K) is xs σ H N (by rw[h2.len,hl]) (hn _ _ hp (ab.putAll is ds xs hl h2))⟩
  | _=>exact hp.elim
def AbS.over {K:W.Frag}{mg:Str->Option Value}{H0 G0 G G2 H H2:Hp}{ρ:Pu.Env}{σ:L2.St}(ab:AbS K mg H0 G0 G ρ σ H)(g2:Gr G H G2)(k2:Same G2 H2)(s2:Same H H2):AbS K mg H0 G0 G2 ρ σ H2 where
 len:=ab.len
 s0:=z06 ab.s0 s2
 g0:=z06 ab.g0 g2.1
 g:=k2
 nw:=ab.nw2 g2
 sh:=λi d e=>by
  obtain⟨v,h1,h2⟩:=ab.sh i d e;exact⟨v,h1,h2.same g2.1⟩
 ow:=λi d e=>by
  obtain⟨a,h1,h2,h3,h4⟩:=ab.ow i d e;refine⟨a,h1,?_,h3,h4.same g2.1 (s2 a)⟩
  cases z:G2 a with
  | none=>rfl
  | some o=>
   obtain⟨u,hu⟩:=h4.some
   rcases g2.2 a o z with ⟨w,q⟩ | q
   ·rw[h2] at q; cases q
   ·rw[hu] at q; cases q
 ne:=ab.ne
def z7K {K:W.Frag}{mg:Str->Option Value}{H0 G0 G H:Hp}{ρ:Pu.Env}{σ:L2.St}{l:List D}{J:It}{tg:Tg}{N0:Pu.Env->Prop}{R0:DK}{X0:XP}{De:Ends}(ab:AbS K mg H0 G0 G ρ σ H)(hw:Walk K mg G l J)(hr:forL tg t N0 R0 X0 l ρ)
  (hn:Kn K mg H0 G0 G N0 De.nx) (hR:Kr K mg H0 G0 R0 De.rt) (hx:Kx mg H0 X0 E):
  ∃W:Nat->Nat->L2.St->Hp->Prop,(∃m,W 0 m σ H)/\∀i m σ H,W i m σ H->
   (J.stop i H/\De.nx σ H)\/(J.go i H/\∃N:L2.St->Hp->Prop,(∀σ' H',N σ' H'->∃m',m'<m/\W (i+1) m' σ' H')/\∀x H',J.yld i H x H'->tgt K tg x σ H' λσ2 H2=>ts K mg E t { De with nx:=N,ct:=N,bk:=De.nx } σ2 H2):=by
 refine⟨λi m σ H=>m=l.length - i/\i<=l.length/\∃G1 ρ1,AbS K mg H0 G0 G1 ρ1 σ H/\Same G G1/\forL tg t N0 R0 X0 (l.drop i) ρ1,⟨l.length,by simp,w6 _,G,ρ,ab,Same.refl',by simpa using hr⟩,?_⟩;rintro i m σ1 H1 ⟨rfl,hi,G1,ρ1,ab1,g1,h1⟩;obtain⟨w1,w2⟩:=hw i G1 H1 g1 ab1.g
 by_cases hlt:i<l.length
 ·have e:l[i]? = some l[i]:=by simp[hlt]
  obtain⟨go,yl⟩:=w1 _ e;rw[wX hlt] at h1;refine .inr ⟨go,λσ' H'=>∃G2 ρ2,AbS K mg H0 G0 G2 ρ2 σ' H'/\Same G G2/\forL tg t N0 R0 X0 (l.drop (i+1)) ρ2,λσ' H' w=>⟨l.length - (i+1),by omega,rfl,hlt,w⟩,λv H2 y =>?_⟩;obtain⟨s2,G2,g2,k2,rd⟩:=yl v H2 y;have ab2:=ab1.over g2 k2 s2;refine zei ab2 rd h1 λρ3 σ3 hb ab3 =>?_;exact⟨H0,G0,G2,ρ3,_,R0,X0,ab3,hb,λρ' σ' H' G' w ab' g'=>⟨G',ρ',ab',z06 g1 (z06 g2.1 g'),w⟩,hR,hx⟩
 ·have e:i=l.length:=by omega
  subst e;rw[List.drop_length] at h1;exact .inl ⟨w2 (wc _),hn ρ1 σ1 H1 G1 h1 ab1 g1⟩
def z3O {K:W.Frag}{mg:Str->Option Value}{G:Hp}{lo:Int}{n:Nat}:Walk K mg G ((List.range n).map λ(k:Nat)=>D.int (lo+(k:Int))) (Itr lo n):=λi G1 H g1 g2=>by
 refine⟨λd e =>?_,λhi=>(show n<=i by simpa using hi)⟩;obtain⟨h,e'⟩:=wb.mp e;have hi:i<n:=by simpa using h
 refine⟨hi,λv H' y =>?_⟩;obtain⟨rfl,rfl⟩:=y;refine⟨Same.refl',G1,Gr.refl,g2,?_⟩;rw[<- e'];simp only[List.getElem_map,List.getElem_range];rw[RD]
def z94:Fn:=⟨λds Q _=>onR ds λl=>Q (.lst l),λds Q Q' X X' m _ q=>z98 (λ_ q=>m _ q) q⟩
def z16 {K:W.Frag}{mg:Str->Option Value}{G:Hp}{i:Int}{v:V}(h:RD K mg G (.int i) v):v = .int i:=by rw[RD] at h; exact h
def rds1 {K:W.Frag}{mg:Str->Option Value}{G:Hp}{d:D}{vs:List V}(h:RDs K mg G [d] vs):∃v,vs=[v]/\RD K mg G d v:=by
 rw[RDs] at h;obtain⟨x,r,rfl,h1,h2⟩:=h;rw[RDs] at h2;subst h2;exact⟨x,rfl,h1⟩
def rds2 {K:W.Frag}{mg:Str->Option Value}{G:Hp}{d e:D}{vs:List V}(h:RDs K mg G [d,e] vs):∃v w,vs=[v,w]/\RD K mg G d v/\RD K mg G e w:=by
 rw[RDs] at h;obtain⟨x,r,rfl,h1,h2⟩:=h;obtain⟨y,rfl,h3⟩:=rds1 h2;exact⟨x,y,rfl,h1,h3⟩
def z97 {K:W.Frag}{mg:Str->Option Value}{G:Hp}{ds:List D}{vs:List V}{Kk:List D->Prop}(rds:RDs K mg G ds vs)(h:onR ds Kk):
  (∃j:Int,vs=[.int j] /\ -(2 ^ 62)<=j/\j<2 ^ 62/\Kk ((List.range j.toNat).map λ(k:Nat)=>D.int (0+(k:Int))))\/∃i j:Int,vs=[.int i,.int j]/\(-(2 ^ 62)<=i/\i<2 ^ 62 /\ -(2 ^ 62)<=j/\j<2 ^ 62)/\Kk ((List.range (j - i).toNat).map λ(k:Nat)=>D.int (i+(k:Int))):=by
 unfold onR at h
 split at h
 ·obtain⟨v,rfl,r1⟩:=rds1 rds;refine .inl ⟨_,by rw[z16 r1],h.1.1,h.1.2,?_⟩;simpa using h.2
 ·obtain⟨v,w,rfl,r1,r2⟩:=rds2 rds;exact .inr ⟨_,_,by rw[z16 r1,z16 r2],⟨h.1.1.1,h.1.1.2,h.1.2.1,h.1.2.2⟩,h.2⟩
 ·exact h.elim
def zcm {K:W.Frag}{mg:Str->Option Value}{es:List Ex}{σ:L2.St}{H:Hp}{R:It->Hp->Prop}(h:ti K mg E (.op z94 es) σ H R):txa K mg E es σ H λvs H1=>(∃j:Int,vs=[.int j] /\ -(2 ^ 62)<=j/\j<2 ^ 62/\R (Itr 0 j.toNat) H1)\/∃i j:Int,vs=[.int i,.int j]/\(-(2 ^ 62)<=i/\i<2 ^ 62 /\ -(2 ^ 62)<=j/\j<2 ^ 62)/\R (Itr i (j - i).toNat) H1:=by
 obtain⟨G,ρ,Q0,X0,hs,ab,hr,_,hk,hx⟩:=h;refine⟨G,ρ,λds=>z94.run ds Q0 X0,X0,hs,ab,hr,λds vs G1 H1 q g1 g2 g3 rds =>?_,hx⟩
 rcases z97 rds (show onR ds (λl=>Q0 (.lst l)) from q) with ⟨j,e,h1,h2,q'⟩ | ⟨i,j,e,h1,q'⟩
 ·exact .inl ⟨j,e,h1,h2,hk _ G1 H1 q' g1 g2 g3 _ _ rfl z3O⟩
 ·exact .inr ⟨i,j,e,h1,hk _ G1 H1 q' g1 g2 g3 _ _ rfl z3O⟩
def zaf {K:W.Frag}{mg:Str->Option Value}{es:List Ex}{n:Nat}{σ:L2.St}{H:Hp}{Q Q':List V->Hp->Prop}(hl:es.length=n)(m:∀vs H1,vs.length=n->Q vs H1->Q' vs H1)(h:txa K mg E es σ H Q):txa K mg E es σ H Q':=by
 obtain⟨G,ρ,Q0,X0,hs,ab,hr,hk,hx⟩:=h;have len:∀(es:List Ex) (Q:List D->Prop),runs es ρ Q X0->runs es ρ (λds=>ds.length=es.length/\Q ds) X0:=by
  intro es
  induction es with
  | nil=>intro Q h; exact⟨rfl,h⟩
  | cons e es ih=>
   intro Q h;exact e.mono ρ _ _ X0 X0 (λd q=>z32 es ρ _ _ X0 X0 (λds q=>⟨by simp[q.1],q.2⟩) (λ_ z=>z) (ih _ q)) (λ_ z=>z) h
 exact⟨G,ρ,_,X0,hs,ab,len es Q0 hr,λds vs G1 H1 q g1 g2 g3 rds=>m vs H1 (by rw[rds.len,q.1,hl]) (hk ds vs G1 H1 q.2 g1 g2 g3 rds),hx⟩
def z9G {p:Pos}(hg:Gl X "range")(hm:X.mg "range"=none)(ha:QXA X E [a] [x])(hs:starEach [a] X.env=[(false,eval a X.env)]:=by rfl):QXI X E tg (.Call (.Name "range" p) [a] [] pos) (.op z94 [x]):=QI.imp (z7q hg hm ha hs) λσ H R h=>
 zaf (n:=1) rfl (λvs H1 hl q=>by
  rcases q with q | ⟨i,j,e,_⟩
  ·exact q
  ·rw[e] at hl; simp at hl) (zcm h)
def zeC {g:Tg}{es:List Ex}{wi:TI}(hp:PassesOwn (model X.prog X.w) X.A X.env X.xe)(hc:X.calm=true)(hg:QG X tg (tgt X.K g))(hb:QZs X E body t)
  (hri:∀σ H R,(txa X.K X.mg E es σ H λvs H1=>(∃j:Int,vs=[.int j] /\ -(2 ^ 62)<=j/\j<2 ^ 62/\R (Itr 0 j.toNat) H1)\/∃i j:Int,vs=[.int i,.int j]/\(-(2 ^ 62)<=i/\i<2 ^ 62 /\ -(2 ^ 62)<=j/\j<2 ^ 62)/\R (Itr i (j - i).toNat) H1)->wi σ H R) (hi':QI X tg iter wi)
  (hs:∀x,foldedSetIterable iter X.env x=pure x:=by intro _; rfl):
  QZ X E (.For tg iter body [] pos) (.forr es g t):=QS.imp (zdO hp hc hi' hg hb hs) λDe σ H ⟨H0,G0,G,ρ,N0,R0,X0,ab,hr,hn,hR,hx⟩=>by
 refine hri σ H _ ⟨plus G H (z13 ρ σ),ρ,λds=>onR ds λl=>forL g t N0 R0 X0 l ρ,X0,z1Z ab.g,ab.abe,hr,λds vs G1 H1 q g1 g2 g3 rds =>?_,hx.same ab.s0⟩;obtain⟨ab',lm⟩:=ab.back g1 g2 g3
 rcases z97 rds q with ⟨j,e,h1,h2,q'⟩ | ⟨i,j,e,h1,q'⟩
 ·exact .inl ⟨j,e,h1,h2,z7K (E:=E) ab' z3O q' (hn.same lm) hR hx⟩
 ·exact .inr ⟨i,j,e,h1,z7K (E:=E) ab' z3O q' (hn.same lm) hR hx⟩
def z5c {g:Tg}{p pos2:Pos}(hp:PassesOwn (model X.prog X.w) X.A X.env X.xe)(hc:X.calm=true)(hgr:Gl X "range")(hm:X.mg "range"=none)(ha:QXA X E [a] [x])(hg:QG X tg (tgt X.K g))(hb:QZs X E body t)(hst:starEach [a] X.env=[(false,eval a X.env)]:=by rfl)
  (hs:∀x,foldedSetIterable (.Call (.Name "range" p) [a] [] pos2) X.env x=pure x:=by intro _; rfl):QZ X E (.For tg (.Call (.Name "range" p) [a] [] pos2) body [] pos) (.forr [x] g t):=
 zeC hp hc hg hb (λσ H R h=>zaf (n:=1) rfl (λvs H1 hl q=>by
  rcases q with q | ⟨i,j,e,_⟩
  ·exact q
  ·rw[e] at hl; simp at hl) h) (z7q hgr hm ha hst) hs
def iAny (K:W.Frag)(tl:TE):TI:=λσ H R=>tl σ H λx H1=>(∃a,x = .ref a/\(∃xs,SqL K H1 a xs)/\R (Itl K a) H1)\/(∃a,x = .ref a/\(∃xs,SqT K H1 a xs)/\R (Itt K a) H1)\/∃y,x = .str y/\R (Its y) H1
def zgx {l:Expr}{tl:TE}(hl:QE X l tl):QI X tg l (iAny X.K tl):=by
 constructor
 intro pins s σ H R I h;refine thn (hl.p pins s σ H _ I h) λv s1 ⟨x,H1,I1,r1,q1⟩ =>?_;have fp:∀b∈[s1.heap.objs.size],FpOk X pins H1 b:=λb hb=>by
  have e:b=s1.heap.objs.size:=by simpa using hb
  subst e;exact I1.fpOk (wc _) (I1.hok.fresh (wc _))
 rcases q1 with ⟨a,e,⟨xs,hq⟩,q⟩ | ⟨a,e,⟨xs,hq⟩,q⟩ | ⟨y,rfl,q⟩
 ·subst e
  cases r1
  obtain⟨its,rv,p,hz⟩:=I1.list hq;refine wpAny_pyIter_list p.isList ?_;exact⟨s1.heap.objs.size,[s1.heap.objs.size],_,_,H1,rfl,I1.kept (t':=s1.toks) λb o e=>wd _ e,zah a _,⟨_,wy _ rfl,rfl,rfl⟩,fp,q⟩
 ·subst e
  cases r1
  obtain⟨its,rv,p,hz⟩:=I1.tuple hq;refine wpAny_pyIter_tuple (show s1.heap.IsTuple a its.toArray from p) ?_;exact⟨s1.heap.objs.size,[s1.heap.objs.size],_,_,H1,rfl,I1.kept (t':=s1.toks) λb o e=>wd _ e,z9y a _,⟨_,wy _ rfl,rfl,rfl⟩,fp,q⟩
 ·obtain⟨t,rfl⟩:=r1
  cases ha:y.cps.all (· < 128)
  ·exact wpAny_pyIter_wide ha ⟨s1.heap.objs.size,[s1.heap.objs.size],_,_,H1,rfl,I1.kept (t':=s1.toks) λb o e=>wd _ e,z8S y t _ (by decide) (λA' hA=>Walks.strWide hA _ y t) (λA i s Q E st h=>wpAny_pyIter_striter_wide st h),⟨w6 _,_,wy _ rfl,rfl,rfl⟩,fp,q⟩
  ·exact wpAny_pyIter_ascii ha ⟨s1.heap.objs.size,[s1.heap.objs.size],_,_,H1,rfl,I1.kept (t':=s1.toks) λb o e=>wd _ e,z8S y t _ (by decide) (λA' hA=>Walks.strAscii hA _ y t) (λA i s Q E st h=>wpAny_pyIter_striter_ascii st h),⟨w6 _,_,wy _ rfl,rfl,rfl⟩,fp,q⟩
def zae {K:W.Frag}{mg:Str->Option Value}{G:Hp}{a:Addr}{xs:List V}{l:List D}(h:SqL K G a xs)(r:RDs K mg G l xs):Walk K mg G l (Itl K a):=λi G1 H g1 g2=>by
 have hH:=z1U (z06 g1 g2) h;refine⟨λd e =>?_,λhi=>⟨xs,hH,by rw[r.len]; exact hi⟩⟩;obtain⟨v,ev,rv⟩:=r.get e;refine⟨⟨xs,v,hH,ev⟩,λv' H' y =>?_⟩;obtain⟨rfl,y⟩:=y;have:=y xs hH;rw[ev] at this
 cases this
 exact⟨Same.refl',G1,Gr.refl,g2,rv.same g1⟩
def zci {K:W.Frag}{mg:Str->Option Value}{G:Hp}{a:Addr}{xs:List V}{l:List D}(h:SqT K G a xs)(r:RDs K mg G l xs):Walk K mg G l (Itt K a):=λi G1 H g1 g2=>by
 have hH:=z1T (z06 g1 g2) h;refine⟨λd e =>?_,λhi=>⟨xs,hH,by rw[r.len]; exact hi⟩⟩;obtain⟨v,ev,rv⟩:=r.get e;refine⟨⟨xs,v,hH,ev⟩,λv' H' y =>?_⟩;obtain⟨rfl,y⟩:=y;have:=y xs hH;rw[ev] at this
 cases this
 exact⟨Same.refl',G1,Gr.refl,g2,rv.same g1⟩
def zcj {K:W.Frag}{mg:Str->Option Value}{G:Hp}{y:Str}:Walk K mg G (y.cps.toList.map λc =>.str ⟨#[c]⟩) (Its y):=λi G1 H g1 g2=>by
 refine⟨λd e =>?_,λhi=>(show y.cps.size<=i by simpa using hi)⟩;rw[wI] at e
 cases q:y.cps.toList[i]? with
 | none=>rw[q] at e; cases e
 | some c=>
  rw[q] at e
  cases e
  have hi:i<y.cps.size:=by
   have:=(wb.mp q).1;simpa using this
  refine⟨hi,λv H' yl =>?_⟩;obtain⟨rfl,c',ec,rfl⟩:=yl;have:c'=c:=by
   have q':y.cps[i]? = some c:=by simpa using q
   rw[q'] at ec; exact(wO ec).symm
  subst this;exact⟨Same.refl',G1,Gr.refl,g2,by rw[RD]⟩
def qi_x (h:QX X E iter x):QXI X E tg iter x:=QI.imp (zgx h) λσ H R ⟨G,ρ,Q0,X0,hs,ab,hr,hz,hk,hx⟩=>by
 refine⟨G,ρ,Q0,X0,hs,ab,hr,λd v G1 H1 q g1 g2 g3 rd =>?_,hx⟩
 cases d with
 | lst l=>
  rw[RD] at rd;obtain⟨a,xs,rfl,h1,h2⟩:=rd;exact .inl ⟨a,rfl,⟨xs,z1U g2 h1⟩,hk _ G1 H1 q g1 g2 g3 l _ rfl (zae h1 h2)⟩
 | tup l=>
  rw[RD] at rd;obtain⟨a,xs,rfl,h1,h2⟩:=rd;exact .inr (.inl ⟨a,rfl,⟨xs,z1T g2 h1⟩,hk _ G1 H1 q g1 g2 g3 l _ rfl (zci h1 h2)⟩)
 | str y=>
  rw[RD] at rd;subst rd;exact .inr (.inr ⟨y,rfl,hk _ G1 H1 q g1 g2 g3 _ _ rfl zcj⟩)
 | _=>
  obtain⟨l,e⟩:=hz _ q
  cases e
end
section
variable {K:W.Frag}{mg:Str->Option Value}{H0 G0 G G1 H H1:Hp}{ρ:Pu.Env}{σ:L2.St}{i:Nat}
def z7x {Kk:List D->Prop}(h:ownL ρ i Kk):∃l,ρ[i]? = some (B.o (.lst l))/\Kk l:=by
 unfold ownL at h
 split at h
 ·rename_i l e; exact⟨l,e,h⟩
 ·exact h.elim
def zd1:(λa=>∃(j:Nat) (d:D),True/\ρ[j]? = some (B.o d)/\σ[j]? = some (some (V.ref a)))=z13 ρ σ:=by
 funext a
 exact propext ⟨λ⟨j,d,_,h⟩=>⟨j,d,h⟩,λ⟨j,d,h⟩=>⟨j,d,trivial,h⟩⟩
def z6l {d:D}{v:V}(h:AbS K mg H0 G0 G ρ σ H)(g2:Same G1 H1)(g3:Same H H1)(sf:Safe d ρ)(rd:RD K mg G1 d v):RD K mg (minus G1 (z13 ρ σ)) d v:=by
 have:=z8c h g2 g3 sf rd;rw[zd1] at this;exact this
def AbS.wrB {l l':List D}{a:Addr}{ys:List V}(ab:AbS K mg H0 G0 G ρ σ H)(g1:Gr (plus G H (z13 ρ σ)) H G1)(g2:Same G1 H1)(g3:Same H H1)(hi:ρ[i]? = some (B.o (.lst l)))(hs:σ[i]? = some (some (V.ref a)))(hr:RDs K mg (minus G1 (z13 ρ σ)) l' ys):
  AbS K mg H0 G0 (minus G1 (z13 ρ σ)) (ρ.set i (.o (.lst l'))) σ (upd H1 a (.lst ys))/\Same G (minus G1 (z13 ρ σ)):=by
 have lm:Same G (minus G1 (z13 ρ σ)):=z2t (z06 (z2a ab.free) g1.1) ab.free;exact⟨ab.wr (λa o e=>ab.nw1 g1 a o (z1i a o e)) lm (z06 z1i g2) g3 (λj d' a e s=>z20 ⟨j,d',e,s⟩) hi hs ⟨ys,z09,hr⟩,lm⟩
end
section
variable {X:Cx}{E:XK}{st:Stmt}{t:Sm}{e o tg:Expr}{x y z:Ex}{pos cpos apos:Pos}{i j:Nat}
def zdM (ho:QE X o (tVar i))(ha:QXA X E [e] [x])
  (hs:swapsWith (.Call (.Attribute o "append" apos) [e] [] cpos) none pos.line X.env=pure false:=by rfl)
  (hbase:attributeBase o "append" X.env (eval o X.env)=eval o X.env:=by rfl)
  (hfew:((backTo cpos (starEach [e] X.env)).all (λx => !x.1) && (backToKw cpos (keywordEach [] X.env)).all (λx=>x.1.isSome)
   && decide ([e].length+([]:List Keyword).length+(if ([]:List Keyword).isEmpty then 0 else 1)<30))=true:=by rfl)
  (hline:(apos.endLine == cpos.line)=true:=by rfl) (hst:starEach [e] X.env=(false,eval e X.env)::starEach [] X.env:=by rfl) (hplain:(backTo cpos (starEach [] X.env)).any (·.1)=false:=by rfl):
  QZ X E (.Expr (.Call (.Attribute o "append" apos) [e] [] cpos) pos) (.app i x):=
 QS.imp (z6N (zcM vx PySem.F.slot_list_append PySem.F.type_list_append z3Y ho ha hbase hfew hline hst hplain) hs) λDe σ H ⟨H0,G0,G,ρ,N0,R0,X0,ab,hr,hn,hR,hx⟩=>by
  obtain⟨l,hl,hr⟩:=z7x hr;obtain⟨a,s1,ga,h0,xs,hw,hrd⟩:=ab.ow i _ hl;refine⟨.ref a,s1,.inl ⟨rfl,xs,SqL.of hw⟩,?_⟩;refine⟨plus G H (z13 ρ σ),ρ,λds=>∃d,ds=[d]/\l.length<sizeLine/\Safe d ρ/\N0 (ρ.set i (.o (.lst (l++[d])))),X0,z1Z ab.g,ab.abe,x.mono ρ _ _ X0 X0 (λd q=>⟨d,rfl,q⟩) (λ_ z=>z) hr,?_,hx.same ab.s0⟩;rintro ds vs G1 H1 ⟨d,rfl,hsz,sf,hN⟩ g1 g2 g3 rds;obtain⟨v,rfl,rd⟩:=rds1 rds;refine⟨a,xs,v,rfl,rfl,g3 _ _ hw,by rw[hrd.len]; exact hsz,?_⟩;have lm:Same G (minus G1 (z13 ρ σ)):=z2t (z06 (z2a ab.free) g1.1) ab.free;obtain⟨ab',g'⟩:=ab.wrB (i:=i) (l':=l++[d]) (ys:=xs++[v]) g1 g2 g3 hl s1 ((hrd.same lm).app (RDs.cons (z6l ab g2 g3 sf rd) RDs.nil));exact hn _ σ _ _ hN ab' g'
def z9o {d:D}{Kk:Int->Prop}(h:isI d Kk):∃k,d = .int k/\Kk k:=by
 cases d with
 | int k=>exact⟨k,rfl,h⟩
 | _=>exact h.elim
def zd5 {o:Option Nat}{Kk:Nat->Prop}(h:onN o Kk):∃k,o=some k/\Kk k:=by
 cases o with
 | none=>exact h.elim
 | some k=>exact⟨k,rfl,h⟩
end
section
variable {P:Program}{w:World}{K:W.Frag}{mg:Str->Option Value}{base:Heap}{N:List Str}{qual:Str}{f:Addr}
def z4f {G H:Hp}{ds:List D}{vs:List V}{np nn:Nat}(hs:Same G H)(r:RDs K mg G ds vs)(hl:ds.length=np)(hN:N.length=nn):AbS K mg H G G (ds.map B.s++List.replicate (nn - np) .n) (L2.z3V N vs) H:=by
 have hn:∀(i:Nat) (b:B),(ds.map B.s++List.replicate (nn - np) .n)[i]? = some b->(∃d,b = .s d/\ds[i]? = some d)\/b = .n:=λi b e=>by
  by_cases hi:i<ds.length
  ·rw[vn (by simpa using hi),wI] at e;rw[wq hi] at e ⊢
   cases e
   exact .inl ⟨_,rfl,rfl⟩
  ·rw[vt (by simpa using hi)] at e;have:=wb.mp e;obtain⟨h1,h2⟩:=this;simp at h2;exact .inr h2.symm
 refine⟨?_,Same.refl',Same.refl',hs,λa o e =>.inl ⟨o,e⟩,λi d e =>?_,λi d e =>?_,λi j d d' a _ e =>?_⟩
 ·unfold L2.z3V;rw[wG,wG,wA,wA,wZ,wZ,r.len,hl,hN]
 ·rcases hn i _ e with ⟨d',e1,e2⟩ | e1
  ·cases e1
   obtain⟨v,h1,h2⟩:=r.get e2;refine⟨v,?_,h2⟩;unfold L2.z3V;have hi:i<vs.length:=(wb.mp h1).1;rw[vn (by simpa using hi),wI,h1]
   rfl
  ·cases e1
 ·rcases hn i _ e with ⟨d',e1,e2⟩ | e1 <;> cases e1
 ·rcases hn i _ e with ⟨d',e1,e2⟩ | e1 <;> cases e1
def fnN {x:Str}{st:Stmt}{fd:FuncData}{ps:List Str}{k np nn:Nat}{b:Sm}(F:Fun K x qual st f fd)(S:z0i N ps (z01 st))(hp:ps.length=np)(hN:N.length=nn)
  (hb:∀(cdv:Value) (A:Around) (outer:List PySem.Env) (s:Shared) (H:Hp) (E:XK),Room k (A.deeper (envOfC qual (z01 st) s.heap.objs.size f cdv))->QZs ((cxOf (CXe P w) P w K mg base N qual (z01 st) f cdv A outer s H E).wish λ_ _=>False) E0 (z15 st) b):
  FnOk P w K mg base (CXe P w) (k+1) f fd ps (spP K mg (Fn.mkN np nn b)):=by
 refine F.okN S (λvs H Q E ⟨G,ds,Q0,X0,hs,rds,⟨hl,hr⟩,hk,hx⟩=>by rw[rds.len,hl,hp]) λcdv A outer s H vs Q E hroom ⟨G,ds,Q0,X0,hs,rds,⟨hl,hr⟩,hk,hx⟩=>⟨_,hb cdv A outer s H E hroom,?_⟩
 refine⟨H,G,G,_,λ_=>Q0 .non,Q0,λ_=>False,z4f hs rds hl hN,hr,λρ' σ' H' G' q ab _ =>?_,hk,Kx.no⟩;exact hk .non .non G' H' q ⟨ab.g0,ab.nw⟩ ab.g ab.s0 (by rw[RD])
def fnE {x:Str}{st:Stmt}{fd:FuncData}{ps:List Str}{k np nn:Nat}{b:Sm}(F:Fun K x qual st f fd)(S:z0i N ps (z01 st))(hp:ps.length=np)(hN:N.length=nn)
  (hb:∀(cdv:Value) (A:Around) (outer:List PySem.Env) (s:Shared) (H:Hp) (E:XK),Room k (A.deeper (envOfC qual (z01 st) s.heap.objs.size f cdv))->QZs ((cxOf (CXe P w) P w K mg base N qual (z01 st) f cdv A outer s H E).wish (cxOf (CXe P w) P w K mg base N qual (z01 st) f cdv A outer s H E).xe) E (z15 st) b):
  FnOk P w K mg base (CXe P w) (k+1) f fd ps (spP K mg (Fn.mk' np nn b)):=by
 refine F.okE S (λvs H Q E ⟨G,ds,Q0,X0,hs,rds,⟨hl,hr⟩,hk,hx⟩=>by rw[rds.len,hl,hp]) λcdv A outer s H vs Q E hroom ⟨G,ds,Q0,X0,hs,rds,⟨hl,hr⟩,hk,hx⟩=>⟨_,hb cdv A outer s H E hroom,?_⟩
 refine⟨H,G,G,_,λ_=>Q0 .non,Q0,X0,z4f hs rds hl hN,hr,λρ' σ' H' G' q ab _ =>?_,hk,hx⟩;exact hk .non .non G' H' q ⟨ab.g0,ab.nw⟩ ab.g ab.s0 (by rw[RD])
def z3P {cdv:Value}{sc:Scope}{A:Around}{outer:List PySem.Env}{s:Shared}{H:Hp}{E:XK}{x:Str}{C:Addr}{m:Str}{np cpos pos p2:Pos}{j}(T:Exc K mg x C)(hg:Gl ((cxOf (CXe P w) P w K mg base N qual sc f cdv A outer s H E).wish (cxOf (CXe P w) P w K mg base N qual sc f cdv A outer s H E).xe) x)(hdb:(x == ("__debug__":Str))=false:=by decide):
  QZ ((cxOf (CXe P w) P w K mg base N qual sc f cdv A outer s H E).wish (cxOf (CXe P w) P w K mg base N qual sc f cdv A outer s H E).xe) E (.Raise (some (.Call (.Name x np) [.Constant (.str m) j p2] [] cpos)) none pos) (.raise x):=
 QS.imp (zcF T hg hdb) λDe σ H ⟨H0,G0,G,ρ,N0,R0,X0,ab,hr,hn,hR,hx⟩=>hx x C H hr T.nm ab.s0
end
def Tg.slots:Tg->List Nat
 | .nm i=>[i]
 | .tp is=>is
section
variable {K:W.Frag}{mg:Str->Option Value}{G G1 H H1:Hp}{ρ:Pu.Env}{σ:L2.St}
def AbE.put {i:Nat}{d:D}{v:V}(h:AbE K mg G ρ σ)(hi:i < σ.length)(r:RD K mg G d v):AbE K mg G (ρ.set i (.s d)) (σ.set i (some v)):=λj e q=>by
 rw[Env.get_eq] at q
 by_cases hj:j=i
 ·subst hj
  cases z:(ρ.set j (.s d))[j]? with
  | none=>rw[z] at q; cases q
  | some b=>
   have hl:j < ρ.length:=by
    have:=(wb.mp z).1;simpa using this
   rw[wk hl] at q
   cases q
   exact⟨v,by rw[wk hi],r⟩
 ·rw[we (wU hj), <- Env.get_eq] at q;obtain⟨w,h1,h2⟩:=h j e q;exact⟨w,by rw[we (wU hj)]; exact h1,h2⟩
def AbE.keep {i:Nat}{v:V}(h:AbE K mg G ρ σ)(hn:ρ.get i=none):AbE K mg G ρ (σ.set i (some v)):=λj e q=>by
 have hj:j≠i:=λz=>by rw[z,hn] at q; cases q
 obtain⟨w,h1,h2⟩:=h j e q;exact⟨w,by rw[we (wU hj)]; exact h1,h2⟩
theorem AbE.putAll {base:Pu.Env}:∀(is:List Nat) (ds:List D) (vs:List V) {ρ:Pu.Env}{σ:L2.St},is.length=ds.length->RDs K mg G ds vs->(∀i∈is,i < σ.length)->(∀i∈is,base.get i=none)->AbE K mg G ρ σ->AbE K mg G base σ->
  AbE K mg G (z6k is ds ρ) ((is.zip vs).foldl (λσ p=>σ.set p.1 (some p.2)) σ)/\AbE K mg G base ((is.zip vs).foldl (λσ p=>σ.set p.1 (some p.2)) σ)/\((is.zip vs).foldl (λσ p=>σ.set p.1 (some p.2)) σ).length=σ.length
 | [],[],vs,ρ,σ,_,h,_,_,ab,bb=>by rw[RDs] at h; subst h; exact⟨ab,bb,rfl⟩
 | [],_::_,_,_,_,h,_,_,_,_,_=>by simp at h
 | _::_,[],_,_,_,h,_,_,_,_,_=>by simp at h
 | i::is,d::ds,vs,ρ,σ,h,r,hl,hn,ab,bb=>by
  rw[RDs] at r;obtain⟨v,vs',rfl,h1,h2⟩:=r;obtain⟨a1,a2,a3⟩:=AbE.putAll (base:=base) is ds vs' (ρ:=ρ.set i (.s d)) (σ:=σ.set i (some v)) (by simpa using h) h2 (λj hj=>by rw[ui]; exact hl j (wj _ hj)) (λj hj=>hn j (wj _ hj)) (ab.put (hl i wt) h1) (bb.keep (hn i wt));exact⟨a1,a2,by rw[vm,List.foldl_cons,a3,ui]⟩
def zcn {tg:Tg}{d:D}{v:V}{N0:Pu.Env->Prop}{N:L2.St->Hp->Prop}(ab:AbE K mg G ρ σ)(g:Same G H)(rd:RD K mg G d v)(hl:∀i∈tg.slots,i < σ.length)(hf:∀i∈tg.slots,ρ.get i=none)(hp:tg.put d ρ N0)
  (hn:∀ρ' σ',N0 ρ'->AbE K mg G ρ' σ'->AbE K mg G ρ σ'->σ'.length=σ.length->N σ' H):tgt K tg v σ H N:=by
 cases tg with
 | nm i=>
  have h1:=hl i (by simp[Tg.slots]);have h2:=hf i (by simp[Tg.slots]);exact hn _ _ hp (ab.put h1 rd) (ab.keep h2) (by simp)
 | tp is=>
  cases d with
  | tup ds=>
   obtain⟨hle,hp⟩:=hp;rw[RD] at rd;obtain⟨a,xs,rfl,h1,h2⟩:=rd;obtain⟨a1,a2,a3⟩:=AbE.putAll (base:=ρ) is ds xs (ρ:=ρ) (σ:=σ) hle h2 hl hf ab ab;exact⟨a,xs,rfl,z1T g h1,by rw[h2.len,hle],z4y (K:=K) is xs σ H N (by rw[h2.len,hle]) (hn _ _ hp a1 a2 a3)⟩
  | _=>exact hp.elim
def za8 {nt:Nat}{js:List Nat}(h:AbE K mg G ρ σ):AbE K mg G (z1G nt js ρ) (List.replicate nt none++js.map λj=>(σ[j]?).getD none):=λi d e=>by
 rw[Env.get_eq] at e;unfold z1G at e
 by_cases hi:i<nt
 ·rw[vn (by simpa using hi),vM,if_pos hi] at e
  cases e
 ·rw[vt (by simpa using hi),wZ,wI] at e;rw[vt (by simpa using hi),wZ,wI]
  cases q:js[i - nt]? with
  | none=>rw[q] at e; cases e
  | some j=>
   rw[q] at e;have e':((ρ[j]?).getD .n).get=some d:=e;have e2:ρ.get j=some d:=by
    rw[Env.get_eq]
    cases z:ρ[j]? with
    | none=>rw[z] at e'; cases e'
    | some b=>rw[z] at e'; exact e'
   obtain⟨v,h1,h2⟩:=h j d e2;refine⟨v,?_,h2⟩;show some ((σ[j]?).getD none)=some (some v);rw[h1]; rfl
def z7R {nt:Nat}{js:List Nat}{i:Nat}(hi:i<nt):(z1G nt js ρ).get i=none:=by
 rw[Env.get_eq];unfold z1G;rw[vn (by simpa using hi),vM,if_pos hi]
 rfl
def TcOk (K:W.Frag)(mg:Str->Option Value)(c:Option Ex)(tc:TT):Prop:=match c with
 | none=>tc=z5j
 | some c=>tc=tt K mg E0 c
def zdg {nt:Nat}{js:List Nat}{tg:Tg}{c:Option Ex}{elt:Ex}{l:List D}{J:It}{tc:TT}{Q0:List D->Prop}{Q:VK}(hts:∀i∈tg.slots,i<nt)(ab:AbE K mg G ρ σ)(g:Same G H)(hw:Walk K mg G l J)(hsz:l.length<sizeLine)
  (hr:z4G (z4H tg c elt (z1G nt js ρ)) l Q0)
  (htc:TcOk K mg c tc)
  (hk:∀rs ys p G2 H2,Q0 rs->Gr G H G2->Same G2 H2->Same H H2->RDs K mg G2 rs ys->H2 p=none->Q (.ref p) (upd H2 p (.lst ys))):
  LcG J (tgt K tg) tc (tx K mg E0 elt) Q (List.replicate nt none++js.map λj=>(σ[j]?).getD none) H:=by
 refine⟨λi m ys σ' H'=>m=l.length - i/\i<=l.length/\ys.length<=i/\σ'.length=nt+js.length/\∃G' rs,Gr G H G'/\Same G' H'/\Same H H'/\RDs K mg G' rs ys/\AbE K mg G' (z1G nt js ρ) σ'/\z4G (z4H tg c elt (z1G nt js ρ)) (l.drop i) λr=>Q0 (rs++r),
  ⟨l.length,by simp,w6 _,by simp,by simp,G,[],Gr.refl,g,Same.refl',RDs.nil,za8 ab,by simpa using hr⟩,?_⟩
 rintro i m ys σ1 H1 ⟨rfl,hi,hyl,hsl,G1,rs,g1,g2,g3,rds,ab1,h1⟩;refine⟨by lia,?_⟩;obtain⟨w1,w2⟩:=hw i G1 H1 g1.1 g2
 by_cases hlt:i<l.length
 ·have e:l[i]? = some l[i]:=by simp[hlt]
  obtain⟨go,yl⟩:=w1 _ e;rw[wX hlt] at h1;have h1':z4H tg c elt (z1G nt js ρ) l[i] (λo=>z4G (z4H tg c elt (z1G nt js ρ)) (l.drop (i+1)) λr=>Q0 (rs++(o.toList++r))):=h1;unfold z4H at h1';refine .inr ⟨go,λv H2 y =>?_⟩;obtain⟨s2,G2,k1,k2,rd⟩:=yl v H2 y;refine zcn (ab1.same k1.1) k2 rd (λj hj=>by rw[hsl]; have:=hts j hj; lia) (λj hj=>z7R (hts j hj)) h1' λρ3 σ3 hb ab3 bb3 hl3 =>?_;have el:∀{G3 H3:Hp},Gr G2 H2 G3->Same G3 H3->Same H2 H3->(elt.run ρ3 (λd=>z4G (z4H tg c elt (z1G nt js ρ)) (l.drop (i+1)) λr=>Q0 (rs++((some d:Option D).toList++r))) λ_=>False)->
    tx K mg E0 elt σ3 H3 λy H4=>∃m',m'<l.length - i/\m'=l.length - (i+1)/\i+1<=l.length/\(ys++[y]).length<=i+1/\σ3.length=nt+js.length/\∃G' rs',Gr G H G'/\Same G' H4/\Same H H4/\RDs K mg G' rs' (ys++[y])/\AbE K mg G' (z1G nt js ρ) σ3/\z4G (z4H tg c elt (z1G nt js ρ)) (l.drop (i+1)) λr=>Q0 (rs'++r):=λ{G3 H3} k3 k4 k5 he=>by
   refine⟨G3,ρ3,_,λ_=>False,k4,ab3.same k3.1,he,λd v' G4 H4 q n1 n2 n3 rd' =>?_,Kx.no⟩;refine⟨l.length - (i+1),by lia,rfl,hlt,by simp; lia,by rw[hl3,hsl],G4,rs++[d],g1.trans g3 (k1.trans s2 (k3.trans k5 n1)),n2,z06 g3 (z06 s2 (z06 k5 n3)),((rds.same (z06 k1.1 (z06 k3.1 n1.1))).app (RDs.cons rd' RDs.nil)),bb3.same (z06 k3.1 n1.1),?_⟩;refine z3R z4X _ _ _ (λr q =>?_) q;simpa using q
  cases c with
  | none=>
   have:tc=z5j:=htc;subst this;unfold z5j; dsimp only;rw[if_pos rfl];exact el Gr.refl k2 Same.refl' hb
  | some c=>
   have:tc=tt K mg E0 c:=htc;subst this;refine⟨G2,ρ3,_,λ_=>False,k2,ab3,hb,λd G3 H3 q k3 k4 k5 =>?_,Kx.no⟩;obtain⟨b,rfl,q1,q2⟩:=z4e q;refine⟨b,rfl,?_⟩
   cases b with
   | true=>exact iteT (el k3 k4 k5 (q1 rfl))
   | false=>
    refine iteF ⟨l.length - (i+1),by lia,rfl,hlt,by lia,by rw[hl3,hsl],G3,rs,g1.trans g3 (k1.trans s2 k3),k4,z06 g3 (z06 s2 k5),rds.same (z06 k1.1 k3.1),bb3.same k3.1,?_⟩;refine z3R z4X _ _ _ (λr q =>?_) (q2 rfl);simpa using q
 ·have e:i=l.length:=by lia
  subst e;rw[List.drop_length] at h1;refine .inl ⟨w2 (wc _),λp hp=>hk rs ys p G1 H1 ?_ g1 g2 g3 rds hp⟩;have h1':Q0 (rs++[]):=h1;simpa using h1'
def zak {E:XK}{nt:Nat}{js:List Nat}{tg:Tg}{src:Ex}{c:Option Ex}{elt:Ex}{tc:TT}{Q:VK}(hts:∀i∈tg.slots,i<nt)(htc:TcOk K mg c tc)(h:tf K mg E (.comp nt js tg src c elt) σ H Q):tLcG (ti K mg E src) (tgt K tg) tc (tx K mg E0 elt) nt js σ H Q:=by
 obtain⟨G,ρ,Q0,X0,hs,ab,hr,hk,hx⟩:=h;refine⟨G,ρ,_,X0,hs,ab,hr,λd q=>(z99 q).imp λ_ z=>z.1,λd G1 H1 q g1 g2 g3 l J el hw =>?_,hx⟩;have q':onL (z08 d) λl=>l.length<sizeLine/\z4G (z4H tg c elt (z1G nt js ρ)) l λr=>Q0 (.lst r):=q;rw[el] at q';refine zdg hts (ab.same g1.1) g2 hw q'.1 q'.2 htc λrs ys p G2 H2 hq k1 k2 k3 rds hp =>?_;have hn:∀{A:Hp},Same A H2->A p=none:=λs=>z0x s hp;refine hk (.lst rs) p G2 (upd H2 p (.lst ys)) hq (g1.trans g3 k1) (z06 k2 (z1g hp _)) (z06 g3 (z06 k3 (z1g hp _))) (hn (z06 g3 k3)) (hn k2) ⟨ys,z09,rds⟩
end
section
variable {X:Cx}{E:XK}{elt iter target:Expr}{ct:Option Expr}{pos spos py:Pos}{scope:Scope}{N':List Str}{nt:Nat}{js:List Nat}{tg:Tg}{src x:Ex}{c:Option Ex}{y:Str}{iy:Nat}
def CtOk (X:Cx)(scope:Scope)(N':List Str)(ct:Option Expr)(c:Option Ex):Prop:=match ct,c with
 | none,none=>True
 | some e,some x=>∀(C:Addr) (s:Shared) (H:Hp) (fp:List Addr),QXT (X.compG scope N' C s H fp) E0 e x
 | _,_=>False
def CtQ (X:Cx)(scope:Scope)(N':List Str)(ct:Option Expr)(tc:TT):Prop:=match ct with
      | none=>tc=z5j
      | some c=>∀(C:Addr) (s:Shared) (H:Hp) (fp:List Addr),QT (X.compG scope N' C s H fp) c tc
def z9t (h:CtOk X scope N' ct c):∃tc:TT,CtQ X scope N' ct tc/\TcOk X.K X.mg c tc:=by
 cases ct with
 | none=>
  cases c with
  | none=>exact⟨z5j,rfl,rfl⟩
  | some c=>exact h.elim
 | some e=>
  cases c with
  | none=>exact h.elim
  | some c=>exact⟨tt X.K X.mg E0 c,h,rfl⟩
def z5w (hc:X.calm=true)(hi:QXI X E target iter src)(hk:scope.kind = .function)(cp:z4J X N' nt js scope)(hts:tg.slots.all (· < nt)=true)
  (hg:∀(C:Addr) (s:Shared) (H:Hp) (fp:List Addr),QG (X.compG scope N' C s H fp) target (tgt X.K tg)) (ht:CtOk X scope N' ct c)
  (he:∀(C:Addr) (s:Shared) (H:Hp) (fp:List Addr),QX (X.compG scope N' C s H fp) E0 elt x) (hs:∀x,foldedSetIterable iter X.env x=pure x:=by intro _; rfl):QF X E (.ListComp elt [⟨target,iter,ct.toList,0⟩] scope pos) (.comp nt js tg src c x):=by
 obtain⟨tc,h1,h2⟩:=z9t ht;exact QE.imp (zgE hc hi hk cp hg h1 he hs) λσ H Q h=>zak (λi hi=>v4 (vQ.mp hts i hi)) h2 h
def zeI (hN:X.N.Nodup)(hiy:X.N[iy]? = some y)(hly:X.env.scope.names.lookup y=some .local)(hc:X.calm=true)(hi:QXI X E target iter src)(hk:scope.kind = .function)(cp:z4J X N' nt js scope)(hts:tg.slots.all (· < nt)=true)
  (hg:∀(C:Addr) (s:Shared) (H:Hp) (fp:List Addr),QG (X.compG scope N' C s H fp) target (tgt X.K tg)) (ht:CtOk X scope N' ct c)
  (he:∀(C:Addr) (s:Shared) (H:Hp) (fp:List Addr),QX (X.compG scope N' C s H fp) E0 elt x) (hsw:swapsWith (.ListComp elt [⟨target,iter,ct.toList,0⟩] scope pos) (some (.Name y py)) spos.line X.env=pure true:=by rfl) (hs:∀x,foldedSetIterable iter X.env x=pure x:=by intro _; rfl):
  QS X (.Assign [.Name y py] (.ListComp elt [⟨target,iter,ct.toList,0⟩] scope pos) spos) (tAsg (tf X.K X.mg E (.comp nt js tg src c x)) (z34 iy)):=by
 obtain⟨tc,h1,h2⟩:=z9t ht;exact QS.imp (zgp hN hiy hly hc hi hk cp hg h1 he hsw hs) λD σ H h=>zak (λi hi=>v4 (vQ.mp hts i hi)) h2 h
def z6q {i:Nat}{z:Str}{pos:Pos}(hN:X.N.Nodup)(hi:X.N[i]? = some z)(hx:X.env.scope.names.lookup z=some .local):QG X (.Name z pos) (tgt X.K (.nm i)):=ziJ hN hi hx
def pTup:Fn:=⟨λds Q _=>ds.length<=sizeLine/\Q (.tup ds),λds Q Q' X X' m _ q=>⟨q.1,m _ q.2⟩⟩
def pLst:Fn:=⟨λds Q _=>ds.length<=sizeLine/\Q (.lst ds),λds Q Q' X X' m _ q=>⟨q.1,m _ q.2⟩⟩
def z0z {es:List Expr}{xs:List Ex}{x1}(h:QXA X E es xs):QX X E (.Tuple es x1 pos) (.op pTup xs):=QE.imp (⟨zdT h.p⟩:QE X (.Tuple es x1 pos) _) λσ H Q ⟨G,ρ,Q0,X0,hs,ab,hr,hk,hx⟩=>by
 refine⟨G,ρ,_,X0,hs,ab,hr,λds vs G1 H1 q g1 g2 g3 rds=>⟨by rw[rds.len]; exact q.1,λp hp =>?_⟩,hx⟩;refine(hk.same g1 g3).new g2 hp q.2 ?_;rw[RD];exact⟨p,vs,rfl,SqT.of z09,rds.same (z1g (z0x g2 hp) _)⟩
def z2Q {es:List Expr}{xs:List Ex}(h:QXA X E es xs):QF X E (.List es pos) (.op pLst xs):=QE.imp (zgD h) λσ H Q ⟨G,ρ,Q0,X0,hs,ab,hr,hk,hx⟩=>by
 refine⟨G,ρ,_,X0,hs,ab,hr,λds vs G1 H1 q g1 g2 g3 rds=>⟨by rw[rds.len]; exact q.1,λp hp =>?_⟩,hx⟩;exact hk (.lst ds) p G1 (upd H1 p (.lst vs)) q.2 g1 (z06 g2 (z1g hp _)) (z06 g3 (z1g hp _)) (z0x g3 hp) (z0x g2 hp) ⟨vs,z09,rds⟩
end
def fn2 (g:D->D->DK->Prop)(m:∀a b (Q Q':DK),(∀d,Q d->Q' d)->g a b Q->g a b Q'):Fn:=⟨λds Q _=>match ds with
 | [a,b]=>g a b Q
 | _=>False,λds Q Q' X X' mm _ q=>by
 match ds,q with
 | [a,b],q=>exact m a b Q Q' mm q
 | [],q=>exact q.elim
 | [_],q=>exact q.elim
 | _::_::_::_,q=>exact q.elim⟩
def fn1 (g:D->DK->Prop)(m:∀a (Q Q':DK),(∀d,Q d->Q' d)->g a Q->g a Q'):Fn:=⟨λds Q _=>match ds with
 | [a]=>g a Q
 | _=>False,λds Q Q' X X' mm _ q=>by
 match ds,q with
 | [a],q=>exact m a Q Q' mm q
 | [],q=>exact q.elim
 | _::_::_,q=>exact q.elim⟩
def z96 {o:Option D}{Q Q':DK}(m:∀d,Q d->Q' d)(h:onV o Q):onV o Q':=by
 cases o with
 | none=>exact h
 | some d=>exact m _ h
def z95 {o:Option D}{Q:DK}(h:onV o Q):∃d,o=some d/\Q d:=by
 cases o with
 | none=>exact h.elim
 | some d=>exact⟨d,rfl,h⟩
def gAdd (a b:D)(Q:DK):Prop:=match a,b with
 | .int i,.int j=>Q (.int (i+j))
 | .str x,.str y=>x.length+y.length<=sizeLine/\Q (.str (x++y))
 | .lst l,.lst m=>l.length+m.length<=sizeLine/\Q (.lst (l++m))
 | .tup l,.tup m=>l.length+m.length<=sizeLine/\Q (.tup (l++m))
 | _,_=>False
def zbP (a b:D)(Q Q':DK)(m:∀d,Q d->Q' d)(h:gAdd a b Q):gAdd a b Q':=by
 unfold gAdd at h ⊢
 split at h
 ·exact m _ h
 ·exact⟨h.1,m _ h.2⟩
 ·exact⟨h.1,m _ h.2⟩
 ·exact⟨h.1,m _ h.2⟩
 ·exact h.elim
def pAdd:Fn:=fn2 gAdd zbP
def gI (g:Int->Int->DK->Prop)(a b:D)(Q:DK):Prop:=match a,b with
 | .int i,.int j=>g i j Q
 | _,_=>False
def zbM {g:Int->Int->DK->Prop}(hg:∀i j (Q Q':DK),(∀d,Q d->Q' d)->g i j Q->g i j Q')(a b:D)(Q Q':DK)(m:∀d,Q d->Q' d)(h:gI g a b Q):gI g a b Q':=by
 unfold gI at h ⊢
 split at h
 ·exact hg _ _ _ _ m h
 ·exact h.elim
def fnI (g:Int->Int->DK->Prop)(hg:∀i j (Q Q':DK),(∀d,Q d->Q' d)->g i j Q->g i j Q'):Fn:=fn2 (gI g) (zbM hg)
def pSub:Fn:=fnI (λi j Q=>Q (.int (i - j))) λ_ _ _ _ m h=>m _ h
def z5y:Fn:=fnI (λi j Q=>zim i j/\Q (.int (i.fdiv j))) λ_ _ _ _ m h=>⟨h.1,m _ h.2⟩
def pMod:Fn:=fnI (λi j Q=>j≠0/\Q (.int (i.fmod j))) λ_ _ _ _ m h=>⟨h.1,m _ h.2⟩
def pPow:Fn:=fnI (λi j Q=>CPow i j/\Q (.int (i ^ j.toNat))) λ_ _ _ _ m h=>⟨h.1,m _ h.2⟩
def gNeg (a:D)(Q:DK):Prop:=match a with
 | .int i=>Q (.int (-i))
 | _=>False
def pNeg:Fn:=fn1 gNeg λa Q Q' m h=>by
 unfold gNeg at h ⊢
 split at h
 ·exact m _ h
 ·exact h.elim
section
variable {X:Cx}{K:W.Frag}{mg:Str->Option Value}
def r2 (K:W.Frag)(mg:Str->Option Value)(F:Fn):R2:=λv1 v2 H Q=>∃G d1 d2 Q0 X0,Same G H/\RD K mg G d1 v1/\RD K mg G d2 v2/\F.run [d1,d2] Q0 X0/\Kt K mg G H Q0 Q
def r1 (K:W.Frag)(mg:Str->Option Value)(F:Fn):V->Hp->VK->Prop:=λv H Q=>∃G d Q0 X0,Same G H/\RD K mg G d v/\F.run [d] Q0 X0/\Kt K mg G H Q0 Q
def rN (K:W.Frag)(mg:Str->Option Value)(F:Fn):List V->Hp->VK->Prop:=λvs H Q=>∃G ds Q0 X0,Same G H/\RDs K mg G ds vs/\F.run ds Q0 X0/\Kt K mg G H Q0 Q
def lk2 {F:Fn}:Lk2 K mg F (r2 K mg F):=λG H d1 d2 v1 v2 Q0 X0 Q a b c d e=>⟨G,d1,d2,Q0,X0,a,b,c,d,e⟩
def lk1 {F:Fn}:Lk1 K mg F (r1 K mg F):=λG H d v Q0 X0 Q a b c d=>⟨G,_,Q0,X0,a,b,c,d⟩
def lkN {F:Fn}:LkN K mg F (rN K mg F):=λG H d v Q0 X0 Q a b c d=>⟨G,_,Q0,X0,a,b,c,d⟩
def zdu {prog:Program}{w:World}{A:Around}{E:Value->Shared->Prop}{s:Shared}{t b:Addr}{ws:List Value}{Q:Value->Shared->Prop}(ht:IsTup s.heap t ([]:List Value).toArray)(hb:IsTup s.heap b ws.toArray)(h:Q (.ref b) s):wpAny (model prog w) A (binaryOp .Add (.ref t) (.ref b)) Q E s:=by
 obtain⟨⟨cls,dd,data,sl⟩,ho,hc,n,hd⟩:=id ht;obtain⟨⟨cls2,dd2,data2,sl2⟩,ho2,hc2,n2,hd2⟩:=id hb;simp only at hc hd hc2 hd2;subst hc hd hc2 hd2;exact concat_meets ⟨_,ho,rfl⟩ ⟨_,ho2,rfl⟩ noFill_tuple_add seq_tuple_add PySem.F.slot_tuple_add PySem.F.entry_tuple_add (PySem.F.args_tuple_add_2 _ _)
   (tuple_addW0 t b _ ws.toArray n n2 dd dd2 sl sl2 (by simp)) ⟨ho,ho2,h⟩
def zd3:OpR X (binaryOp .Add) (λx y H Q=>∃a b ys,x = .ref a/\y = .ref b/\SqT X.K H a []/\SqT X.K H b ys/\Q (.ref b) H):=by
 intro pins s σ H x y v u Q I rx ry h;obtain⟨a,b,ys,rfl,rfl,ha,hb,q⟩:=h
 cases rx
 cases ry
 obtain⟨its,r1,p1,_⟩:=I.tuple ha;obtain⟨its2,r2,p2,_⟩:=I.tuple hb
 cases r1
 exact zdu p1 p2 ⟨.ref b,H,I,rfl,q⟩
def ziG (K:W.Frag):R2:=λx y H Q=>∃l b xs zs,x = .ref l/\y = .ref b/\SqL K H l xs/\SqL K H b zs/\xs.length+zs.length<=sizeLine/\∀p,H p=none->Q (.ref p) (upd H p (.lst (xs++zs)))
def zff:OpR X (binaryOp .Add) (ziG X.K):=by
 intro pins s σ H x y v u Q I rx ry h;obtain⟨l,b,xs,zs,rfl,rfl,hH,hB,hz,q⟩:=h
 cases rx
 cases ry
 obtain⟨its,r,⟨⟨cls,dd,data,sl⟩,n,e,hc,_,hd⟩,z1⟩:=I.list hH;obtain⟨its2,r2,⟨⟨cls2,dd2,data2,sl2⟩,n2,e2,hc2,_,hd2⟩,z2⟩:=I.list hB;dsimp only at hc hd hc2 hd2;subst hc hd hc2 hd2;have l1:=r.length;have l2:=r2.length;have ea:its.toArray++its2.toArray=(its++its2).toArray:=by simp
 refine concat_meets ⟨_,e,rfl⟩ ⟨_,e2,rfl⟩ noFill_list_add seq_list_add PySem.F.slot_list_add PySem.F.entry_list_add (PySem.F.args_list_add_2 _ _) (list_addW l b its.toArray its2.toArray n n2 dd dd2 sl sl2 (by simp only[wv]; omega)) ⟨e,e2,?_⟩;rw[ea];exact⟨.ref _,_,I.lnew (t':=s.toks) (r.append r2) (by rw[wG]; omega),rfl,q _ I.fresh⟩
def z2P {G:Hp}{l:List D}{v:V}(h:RD K mg G (.tup l) v):∃a xs,v = .ref a/\SqT K G a xs/\RDs K mg G l xs:=by rw[RD] at h; exact h
def z2B {G:Hp}{l:List D}{v:V}(h:RD K mg G (.lst l) v):∃a xs,v = .ref a/\SqL K G a xs/\RDs K mg G l xs:=by rw[RD] at h; exact h
def z3x {G:Hp}{x:Str}{v:V}(h:RD K mg G (.str x) v):v = .str x:=by rw[RD] at h; exact h
def z7l {G:Hp}{x:Bool}{v:V}(h:RD K mg G (.bl x) v):v = .bl x:=by rw[RD] at h; exact h
def z7k {G:Hp}{v:V}(h:RD K mg G .non v):v = .non:=by rw[RD] at h; exact h
def RD.newT {G H:Hp}{p:Addr}{l:List D}{xs:List V}(r:RDs K mg G l xs)(g:Same G H)(hp:H p=none):RD K mg (upd G p (.tup xs)) (.tup l) (.ref p):=by
 rw[RD];exact⟨p,xs,rfl,SqT.of z09,r.same (z1g (z0x g hp) _)⟩
def RD.newL {G H:Hp}{p:Addr}{l:List D}{xs:List V}(r:RDs K mg G l xs)(g:Same G H)(hp:H p=none):RD K mg (upd G p (.lst xs)) (.lst l) (.ref p):=by
 rw[RD];exact⟨p,xs,rfl,SqL.of z09,r.same (z1g (z0x g hp) _)⟩
def RD.ofT {G:Hp}{a:Addr}{l:List D}{xs:List V}(h:SqT K G a xs)(r:RDs K mg G l xs):RD K mg G (.tup l) (.ref a):=by rw[RD]; exact⟨a,xs,rfl,h,r⟩
def RD.ofL {G:Hp}{a:Addr}{l:List D}{xs:List V}(h:SqL K G a xs)(r:RDs K mg G l xs):RD K mg G (.lst l) (.ref a):=by rw[RD]; exact⟨a,xs,rfl,h,r⟩
def RD.int' {G:Hp}{i:Int}:RD K mg G (.int i) (.int i):=by rw[RD]
def RD.bl' {G:Hp}{i:Bool}:RD K mg G (.bl i) (.bl i):=by rw[RD]
def RD.str' {G:Hp}{i:Str}:RD K mg G (.str i) (.str i):=by rw[RD]
def RDs.ne_nil {G:Hp}{l:List D}{xs:List V}(r:RDs K mg G l xs):xs=[]↔l=[]:=by
 have:=r.len
 constructor
 ·rintro rfl; exact vN.mp this.symm
 ·rintro rfl; exact vN.mp this
def z1C:OpR X (binaryOp .Add) (r2 X.K X.mg pAdd):=by
 intro pins s σ H x y v u Q I rx ry ⟨G,d1,d2,Q0,X0,g,h1,h2,hr,hk⟩;have hr':gAdd d1 d2 Q0:=hr;unfold gAdd at hr'
 split at hr'
 ·exact zhh pins s σ H x y v u Q I rx ry ⟨_,_,z16 h1,z16 h2,hk.now g hr' RD.int'⟩
 ·exact z9J pins s σ H x y v u Q I rx ry ⟨_,_,z3x h1,z3x h2,hr'.1,hk.now g hr'.2 RD.str'⟩
 ·obtain⟨a,xs,rfl,s1,r1⟩:=z2B h1;obtain⟨b,zs,rfl,s2,r2⟩:=z2B h2;exact zff pins s σ H _ _ v u Q I rx ry ⟨a,b,xs,zs,rfl,rfl,z1U g s1,z1U g s2,by rw[r1.len,r2.len]; exact hr'.1,λp hp=>hk.new g hp hr'.2 (RD.newL (r1.app r2) g hp)⟩
 ·obtain⟨a,xs,rfl,s1,r1⟩:=z2P h1;obtain⟨b,zs,rfl,s2,r2⟩:=z2P h2
  by_cases hx:xs=[]
  ·subst hx;have e:=r1.ne_nil.mp rfl;subst e;exact zd3 pins s σ H _ _ v u Q I rx ry ⟨a,b,zs,rfl,rfl,z1T g s1,z1T g s2,hk.now g hr'.2 (RD.ofT s2 r2)⟩
  ·refine zfe pins s σ H _ _ v u Q I rx ry ⟨a,b,xs,zs,rfl,rfl,z1T g s1,z1T g s2,hx,by rw[r1.len,r2.len]; exact hr'.1,λe =>?_,λe p hp=>hk.new g hp hr'.2 (RD.newT (r1.app r2) g hp)⟩;have e:=r2.ne_nil.mp e;subst e;refine hk.now g hr'.2 ?_;rw[wW];exact RD.ofT s1 r1
 ·exact hr'.elim
def z8B {g:Int->Int->DK->Prop}{a b:D}{Q:DK}(h:gI g a b Q):∃i j,a = .int i/\b = .int j/\g i j Q:=by
 unfold gI at h
 split at h
 ·exact⟨_,_,rfl,rfl,h⟩
 ·exact h.elim
def zd9 {f:Value->Value->Sem Value}{C:Int->Int->Prop}{gv:Int->Int->Int}{hg}(h:OpR X f (rI C λi j =>.int (gv i j))):OpR X f (r2 X.K X.mg (fnI (λi j Q=>C i j/\Q (.int (gv i j))) hg)):=h.imp λx y H Q ⟨G,d1,d2,Q0,X0,g,h1,h2,hr,hk⟩=>by
 obtain⟨i,j,rfl,rfl,c,q⟩:=z8B (show gI (λi j Q=>C i j/\Q (.int (gv i j))) d1 d2 Q0 from hr);exact⟨i,j,z16 h1,z16 h2,c,hk.now g q RD.int'⟩
def z9c:OpR X (binaryOp .Sub) (r2 X.K X.mg pSub):=zh9.imp λx y H Q ⟨G,d1,d2,Q0,X0,g,h1,h2,hr,hk⟩=>by
 obtain⟨i,j,rfl,rfl,q⟩:=z8B (show gI (λi j Q=>Q (.int (i - j))) d1 d2 Q0 from hr);exact⟨i,j,z16 h1,z16 h2,hk.now g q RD.int'⟩
def z3c:OpR X (binaryOp .FloorDiv) (r2 X.K X.mg z5y):=zd9 zd2
def z0T:OpR X (binaryOp .Mod) (r2 X.K X.mg pMod):=zd9 zfd
def z4u:OpR X (binaryOp .Pow) (r2 X.K X.mg pPow):=zd9 zha
def z6s:UnR X (unaryOp .USub) (r1 X.K X.mg pNeg):=by
 intro pins s σ H x v Q I rx ⟨G,d,Q0,X0,g,h1,hr,hk⟩;have hr':gNeg d Q0:=hr;unfold gNeg at hr'
 split at hr'
 ·exact zfD pins s σ H x v Q I rx ⟨_,z16 h1,hk.now g hr' RD.int'⟩
 ·exact hr'.elim
def z4q:Fn:=fnI (λi j Q=>zfz i j/\Q (.int (i*j))) λ_ _ _ _ m h=>⟨h.1,m _ h.2⟩
def z3k:OpR X (binaryOp .Mult) (r2 X.K X.mg z4q):=zd9 zfc
end
end Pu
namespace HT
open PySem PyProof.Rows
section
open PySem.SeqAt
open PySem.AutoSeq1 (wpAny_loadPart')
open PySem.MeetsSeq PySem.MeetsSeq2 PySem.MeetsSeq3
def zcz (A:Around)(s:Shared)(a:Int)(t:Tok)(c:Int)(u:Tok)(prog:Program)(w:World)(E:Value->Shared->Prop)(Q:Value->Shared->Prop)(h:Q (.bool (decide (c<a))) s):
  wpAny (model prog w) A (richCompare .Gt (.int a t) (.int c u)) Q E s:=
 (PyProof.Rows.gt_int h:wpAny (model prog w) A (compareOp .Gt (.int a t) (.int c u)) Q E s)
def z6C (l b:Addr)(z08 items2:Array Value)(n n2:Nat)(dd dd2:Option Addr)(sl sl2:Array (Option Value))(ns ms:List Int)(hi:IntsAre z08.toList ns)(hj:IntsAre items2.toList ms):
  Meets (Builtin.«tuple.__gt__» ⟨[.ref l,.ref b],[]⟩)
   (λ_ R s=>s.heap.get? l=some { cls :=.type "tuple",dict:=dd,data :=.seq z08 n,slots:=sl }/\s.heap.get? b=some { cls :=.type "tuple",dict:=dd2,data :=.seq items2 n2,slots:=sl2 }/\
    R (.ok (.ret (.bool (z0N ms ns)))) s):=
 .of_wp λprog w A R s h=>by
  obtain⟨hp,g,d,tk,os⟩:=s; obtain⟨hl,hb,h⟩:=h;have f2:=AutoSeq1.sub_tuple_tuple;have z1:z08.size=ns.length:=by rw[<- hi.length]; simp
  have z2:items2.size=ms.length:=by rw[<- hj.length]; simp
  wp_walk using vz hl,vz hb,wpAny_forIn_list _ (λrest b s'=>b.1=none/\s'=⟨hp,g,d,tk,os⟩/\∃(vs ws:List Value) (ns' ms':List Int),rest=vs.zip ws/\
   IntsAre vs ns'/\IntsAre ws ms'/\ns'.length+items2.size=ms'.length+z08.size/\R (.ok (.ret (.bool (z0N ms' ns')))) ⟨hp,g,d,tk,os⟩) _
  case turn=>
   rintro⟨y,x⟩ rest b s' ⟨hb',rfl,vs,ws,ns',ms',hz,hvi,hwi,hlen,hR⟩
   cases hvi with
   | nil=>rw[List.zip_nil_left] at hz; cases hz
   | cons a t hvi'=>
    cases hwi with
    | nil=>rw[List.zip_nil_right] at hz; cases hz
    | cons c u hwi'=>
     rw[vm] at hz
     injection hz with hyx hrest
     injection hyx with hy hx
     subst hy hx;rw[z29] at hR;simp only[wC] at hlen;obtain⟨e,he,hiff⟩:=z73 A.in1 ⟨hp,g,d,tk,os⟩ a t c u;refine wa (he prog w _ _ ?_)
     cases e with
     | true=>
      rw[if_pos (hiff.mp rfl).symm] at hR
      wp_walk
      exact⟨rfl,rfl,_,_,_,_,hrest,hvi',hwi',by omega,hR⟩
     | false=>
      rw[if_neg (λq=>absurd (hiff.mpr (Eq.symm q)) wF)] at hR;have hri:=zcz A.in1 ⟨hp,g,d,tk,os⟩ a t c u prog w
      wp_walk using hri
      exact⟨_,rfl,by simpa using hR⟩
  case fin=>
   rintro⟨b1,b2⟩ s' ⟨hb',rfl,vs,ws,ns',ms',hz,hvi,hwi,hlen,hR⟩;simp only at hb';subst hb';have hv:z0N ms' ns'=decide (items2.size<z08.size):=by
    cases hvi with
    | nil=>
     cases hwi with
     | nil=>
      simp only[va] at hlen;rw[z3d];exact(wB (by omega)).symm
     | cons c u hw=>
      simp only[va,wC] at hlen;rw[z2Y];exact(wB (by omega)).symm
    | cons a t hv=>
     cases hwi with
     | nil=>
      simp only[va,wC] at hlen;rw[z2X];exact(wH (by omega)).symm
     | cons c u hw=>
      rw[vm] at hz
      cases hz
   rw[hv] at hR
   wp_walk
   exact⟨_,rfl,by simpa[Builtin.Tuple.tupleCompareSizes] using hR⟩
  case h=>
   exact⟨rfl,rfl,z08.toList,items2.toList,ns,ms,rfl,hi,hj,by omega,h⟩
def zcy (A:Around)(s:Shared)(a:Int)(t:Tok)(c:Int)(u:Tok)(prog:Program)(w:World)(E:Value->Shared->Prop)(Q:Value->Shared->Prop)(h:Q (.bool (decide (a<=c))) s):
  wpAny (model prog w) A (richCompare .LtE (.int a t) (.int c u)) Q E s:=
 (PyProof.Rows.le_int h:wpAny (model prog w) A (compareOp .LtE (.int a t) (.int c u)) Q E s)
def z6B (l b:Addr)(z08 items2:Array Value)(n n2:Nat)(dd dd2:Option Addr)(sl sl2:Array (Option Value))(ns ms:List Int)(hi:IntsAre z08.toList ns)(hj:IntsAre items2.toList ms):
  Meets (Builtin.«tuple.__le__» ⟨[.ref l,.ref b],[]⟩)
   (λ_ R s=>s.heap.get? l=some { cls :=.type "tuple",dict:=dd,data :=.seq z08 n,slots:=sl }/\s.heap.get? b=some { cls :=.type "tuple",dict:=dd2,data :=.seq items2 n2,slots:=sl2 }/\
    R (.ok (.ret (.bool (!z0N ms ns)))) s):=
 .of_wp λprog w A R s h=>by
  obtain⟨hp,g,d,tk,os⟩:=s; obtain⟨hl,hb,h⟩:=h;have f2:=AutoSeq1.sub_tuple_tuple;have z1:z08.size=ns.length:=by rw[<- hi.length]; simp
  have z2:items2.size=ms.length:=by rw[<- hj.length]; simp
  wp_walk using vz hl,vz hb,wpAny_forIn_list _ (λrest b s'=>b.1=none/\s'=⟨hp,g,d,tk,os⟩/\∃(vs ws:List Value) (ns' ms':List Int),rest=vs.zip ws/\
   IntsAre vs ns'/\IntsAre ws ms'/\ns'.length+items2.size=ms'.length+z08.size/\R (.ok (.ret (.bool (!z0N ms' ns')))) ⟨hp,g,d,tk,os⟩) _
  case turn=>
   rintro⟨y,x⟩ rest b s' ⟨hb',rfl,vs,ws,ns',ms',hz,hvi,hwi,hlen,hR⟩
   cases hvi with
   | nil=>rw[List.zip_nil_left] at hz; cases hz
   | cons a t hvi'=>
    cases hwi with
    | nil=>rw[List.zip_nil_right] at hz; cases hz
    | cons c u hwi'=>
     rw[vm] at hz
     injection hz with hyx hrest
     injection hyx with hy hx
     subst hy hx;rw[z29] at hR;simp only[wC] at hlen;obtain⟨e,he,hiff⟩:=z73 A.in1 ⟨hp,g,d,tk,os⟩ a t c u;refine wa (he prog w _ _ ?_)
     cases e with
     | true=>
      rw[if_pos (hiff.mp rfl).symm] at hR
      wp_walk
      exact⟨rfl,rfl,_,_,_,_,hrest,hvi',hwi',by omega,hR⟩
     | false=>
      have hne:¬ c=a:=λq=>absurd (hiff.mpr (Eq.symm q)) wF;rw[if_neg hne] at hR;have hri:=zcy A.in1 ⟨hp,g,d,tk,os⟩ a t c u prog w;have ed:(!decide (c<a))=decide (a<=c):=by
       rw[<- decide_not,decide_eq_decide]; omega
      rw[ed] at hR
      wp_walk using hri
      exact⟨_,rfl,by simpa using hR⟩
  case fin=>
   rintro⟨b1,b2⟩ s' ⟨hb',rfl,vs,ws,ns',ms',hz,hvi,hwi,hlen,hR⟩;simp only at hb';subst hb';have hv:(!z0N ms' ns')=decide (z08.size<=items2.size):=by
    cases hvi with
    | nil=>
     cases hwi with
     | nil=>
      simp only[va] at hlen;rw[z3d];exact(wH (by omega)).symm
     | cons c u hw=>
      simp only[va,wC] at hlen;rw[z2Y];exact(wH (by omega)).symm
    | cons a t hv=>
     cases hwi with
     | nil=>
      simp only[va,wC] at hlen;rw[z2X];exact(wB (by omega)).symm
     | cons c u hw=>
      rw[vm] at hz
      cases hz
   rw[hv] at hR
   wp_walk
   exact⟨_,rfl,by simpa[Builtin.Tuple.tupleCompareSizes] using hR⟩
  case h=>
   exact⟨rfl,rfl,z08.toList,items2.toList,ns,ms,rfl,hi,hj,by omega,h⟩
end
section
variable {prog:Program}{w:World}{A:Around}{E:Value->Shared->Prop}{s:Shared}
def z9X {l b:Addr}{z08 items2:Array Value}{ns ms:List Int}{Q:Value->Shared->Prop}(hl:IsTup s.heap l z08)(hb:IsTup s.heap b items2)(hi:IntsAre z08.toList ns)(hj:IntsAre items2.toList ms)
  (hu:A.units<cLine) (h:Q (.bool (z0N ms ns)) s):wpAny (model prog w) A (compareOp .Gt (.ref l) (.ref b)) Q E s:=by
 obtain⟨⟨cls,dd,data,sl⟩,ho,hc,n,hd⟩:=id hl;obtain⟨⟨cls2,dd2,data2,sl2⟩,ho2,hc2,n2,hd2⟩:=id hb;simp only at hc hd hc2 hd2;subst hc hd hc2 hd2;exact richCompare_meets_room (op :=.Gt) ⟨_,ho,rfl⟩ ⟨_,ho2,rfl⟩ PySem.F.slot_tuple_gt PySem.F.entry_tuple_gt (PySem.F.args_tuple_gt_2 _ _) (z6C l b z08 items2 n n2 dd dd2 sl sl2 ns ms hi hj)
  ⟨ho,ho2,show Value.bool (z0N ms ns)≠Value.notImplemented/\Q (.bool (z0N ms ns)) s from ⟨(λx=>nomatch x),h⟩⟩ hu
def z9U {l b:Addr}{z08 items2:Array Value}{ns ms:List Int}{Q:Value->Shared->Prop}(hl:IsTup s.heap l z08)(hb:IsTup s.heap b items2)(hi:IntsAre z08.toList ns)(hj:IntsAre items2.toList ms)
  (hu:A.units<cLine) (h:Q (.bool (!z0N ms ns)) s):wpAny (model prog w) A (compareOp .LtE (.ref l) (.ref b)) Q E s:=by
 obtain⟨⟨cls,dd,data,sl⟩,ho,hc,n,hd⟩:=id hl;obtain⟨⟨cls2,dd2,data2,sl2⟩,ho2,hc2,n2,hd2⟩:=id hb;simp only at hc hd hc2 hd2;subst hc hd hc2 hd2;exact richCompare_meets_room (op :=.LtE) ⟨_,ho,rfl⟩ ⟨_,ho2,rfl⟩ PySem.F.slot_tuple_le PySem.F.entry_tuple_le (PySem.F.args_tuple_le_2 _ _) (z6B l b z08 items2 n n2 dd dd2 sl sl2 ns ms hi hj)
  ⟨ho,ho2,show Value.bool (!z0N ms ns)≠Value.notImplemented/\Q (.bool (!z0N ms ns)) s from ⟨(λx=>nomatch x),h⟩⟩ hu
end
end HT
namespace Pu
open PySem PySem.Spec PyProof.Rows L2
def ints? : List D->Option (List Int)
 | []=>some []
 | .int i::r=>match ints? r with
  | some l=>some (i::l)
  | none=>none
 | _::_=>none
theorem z5I:∀{l:List D}{ns:List Int},ints? l=some ns->l=ns.map D.int
 | [],ns,h=>by
  have:ns=[]:=by simpa[ints?] using h.symm
  subst this; rfl
 | .int i::r,ns,h=>by
  unfold ints? at h
  cases q:ints? r with
  | none=>rw[q] at h; cases h
  | some l=>
   rw[q] at h
   cases h
   rw[z5I q]; rfl
 | .non::_,_,h=>by simp[ints?] at h
 | .bl _::_,_,h=>by simp[ints?] at h
 | .str _::_,_,h=>by simp[ints?] at h
 | .tup _::_,_,h=>by simp[ints?] at h
 | .lst _::_,_,h=>by simp[ints?] at h
 | .dct _ _::_,_,h=>by simp[ints?] at h
 | .fn _::_,_,h=>by simp[ints?] at h
 | .exc _::_,_,h=>by simp[ints?] at h
 | .ptr _::_,_,h=>by simp[ints?] at h
 | .fz _ _::_,_,h=>by simp[ints?] at h
 | .ins _ _ _::_,_,h=>by simp[ints?] at h
def onI (o:Option (List Int))(Q:List Int->Prop):Prop:=match o with
 | some l=>Q l
 | none=>False
def z9b {o:Option (List Int)}{Q Q':List Int->Prop}(m:∀d,Q d->Q' d)(h:onI o Q):onI o Q':=by
 cases o with
 | none=>exact h
 | some d=>exact m _ h
def z9a {o:Option (List Int)}{Q:List Int->Prop}(h:onI o Q):∃d,o=some d/\Q d:=by
 cases o with
 | none=>exact h.elim
 | some d=>exact⟨d,rfl,h⟩
def gCmp (f:Int->Int->Bool)(t:List Int->List Int->Bool)(a b:D)(Q:DK):Prop:=match a,b with
 | .int i,.int j=>Q (.bl (f i j))
 | .tup l,.tup m=>onI (ints? l) λns=>onI (ints? m) λms=>Q (.bl (t ns ms))
 | _,_=>False
def z5O {f:Int->Int->Bool}{t:List Int->List Int->Bool}(a b:D)(Q Q':DK)(m:∀d,Q d->Q' d)(h:gCmp f t a b Q):gCmp f t a b Q':=by
 unfold gCmp at h ⊢
 split at h
 ·exact m _ h
 ·exact z9b (λ_ h=>z9b (λ_ h=>m _ h) h) h
 ·exact h.elim
def pLt:Fn:=fn2 (gCmp (λi j=>decide (i<j)) λns ms=>HT.z0N ns ms) z5O
def pGt:Fn:=fn2 (gCmp (λi j=>decide (j<i)) λns ms=>HT.z0N ms ns) z5O
def pLe:Fn:=fn2 (gCmp (λi j=>decide (i<=j)) λns ms => !HT.z0N ms ns) z5O
section
variable {X:Cx}{K:W.Frag}{mg:Str->Option Value}
theorem z6K {G:Hp}:∀(ns:List Int) {xs:List V},RDs K mg G (ns.map D.int) xs->xs=ns.map V.int
 | [],xs,h=>by rw[vJ,RDs] at h; subst h; rfl
 | n::ns,xs,h=>by
  rw[wz,RDs] at h;obtain⟨x,r,rfl,h1,h2⟩:=h;rw[z16 h1,z6K ns h2]; rfl
theorem z9p {G:Hp}:∀(ns:List Int),RDs K mg G (ns.map D.int) (ns.map V.int)
 | []=>RDs.nil
 | n::ns=>RDs.cons RD.int' (z9p ns)
def zfi {op:CmpOp}{f:Int->Int->Bool}{t:List Int->List Int->Bool}{hm}(hi:OpR X (compareOp op) (rI0 λi j =>.bl (f i j)))(ht:OpR X (compareOp op) (λx y H Q=>∃a b ns ms,x = .ref a/\y = .ref b/\SqT X.K H a (ns.map V.int)/\SqT X.K H b (ms.map V.int)/\Q (.bl (t ns ms)) H)):
  OpR X (compareOp op) (r2 X.K X.mg (fn2 (gCmp f t) hm)):=by
 intro pins s σ H x y v u Q I rx ry ⟨G,d1,d2,Q0,X0,g,h1,h2,hr,hk⟩;have hr':gCmp f t d1 d2 Q0:=hr;unfold gCmp at hr'
 split at hr'
 ·exact hi pins s σ H x y v u Q I rx ry ⟨_,_,z16 h1,z16 h2,hk.now g hr' RD.bl'⟩
 ·obtain⟨ns,e1,hr'⟩:=z9a hr';obtain⟨ms,e2,hr'⟩:=z9a hr';obtain⟨a,xs,rfl,s1,r1⟩:=z2P h1;obtain⟨b,ys,rfl,s2,r2⟩:=z2P h2;rw[z5I e1] at r1;rw[z5I e2] at r2;rw[z6K ns r1] at s1;rw[z6K ms r2] at s2;exact ht pins s σ H _ _ v u Q I rx ry ⟨a,b,ns,ms,rfl,rfl,z1T g s1,z1T g s2,hk.now g hr' RD.bl'⟩
 ·exact hr'.elim
def zj4 (hu:X.A.units+64<cLine):OpR X (compareOp .Lt) (r2 X.K X.mg pLt):=zfi zj0 (zhc (by omega))
def zhf (hu:X.A.units<cLine):OpR X (compareOp .Gt) (λx y H Q=>∃a b ns ms,x = .ref a/\y = .ref b/\SqT X.K H a (ns.map V.int)/\SqT X.K H b (ms.map V.int)/\Q (.bl (HT.z0N ms ns)) H):=by
 intro pins s σ H x y v u Q I rx ry h;obtain⟨a,b,ns,ms,rfl,rfl,ha,hb,q⟩:=h
 cases rx
 cases ry
 obtain⟨its,r1,p1,_⟩:=I.tuple ha;obtain⟨its2,r2,p2,_⟩:=I.tuple hb;exact HT.z9X p1 p2 (z2v r1) (z2v r2) hu ⟨.bl (HT.z0N ms ns),H,I,rfl,q⟩
def zhd (hu:X.A.units<cLine):OpR X (compareOp .LtE) (λx y H Q=>∃a b ns ms,x = .ref a/\y = .ref b/\SqT X.K H a (ns.map V.int)/\SqT X.K H b (ms.map V.int)/\Q (.bl (!HT.z0N ms ns)) H):=by
 intro pins s σ H x y v u Q I rx ry h;obtain⟨a,b,ns,ms,rfl,rfl,ha,hb,q⟩:=h
 cases rx
 cases ry
 obtain⟨its,r1,p1,_⟩:=I.tuple ha;obtain⟨its2,r2,p2,_⟩:=I.tuple hb;exact HT.z9U p1 p2 (z2v r1) (z2v r2) hu ⟨.bl (!HT.z0N ms ns),H,I,rfl,q⟩
def zhm (hu:X.A.units+64<cLine):OpR X (compareOp .Gt) (r2 X.K X.mg pGt):=zfi zj2 (zhf (by omega))
def z7A (hu:X.A.units+64<cLine):OpR X (compareOp .LtE) (r2 X.K X.mg pLe):=zfi zj1 (zhd (by omega))
def pGeI:Fn:=fnI (λi j Q=>Q (.bl (decide (j<=i)))) λ_ _ _ _ m h=>m _ h
end
mutual
def py:D->PyData
 | .non =>.none
 | .bl b =>.bool b
 | .int i =>.int i
 | .str x =>.str x
 | .tup l =>.tuple (pys l)
 | .lst l =>.list (pys l)
 | _ =>.none
def pys:List D->List PyData
 | []=>[]
 | d::ds=>py d::pys ds
end
def Da:Nat->D->Prop
 | _,.non=>True
 | _,.bl _=>True
 | _,.int _=>True
 | _,.str x=>PyData.strOk x=true
 | 0,.tup _=>False
 | n+1,.tup l=>∀d∈l,Da n d
 | 0,.lst _=>False
 | n+1,.lst l=>∀d∈l,Da n d
 | _,.dct _ _=>False
 | _,.fn _=>False
 | _,.exc _=>False
 | _,.ptr _=>False
 | _,.fz _ _=>False
 | _,.ins _ _ _=>False
section
variable {X:Cx}{K:W.Frag}{mg:Str->Option Value}
theorem Da.tup {n:Nat}{l:List D}:Da (n+1) (.tup l)↔∀d∈l,Da n d:=by rw[Da]
theorem Da.lst {n:Nat}{l:List D}:Da (n+1) (.lst l)↔∀d∈l,Da n d:=by rw[Da]
theorem Da.non {n:Nat}:Da n .non:=by cases n <;> (rw[Da]; trivial)
theorem Da.str {n:Nat}{x:Str}:Da n (.str x)↔PyData.strOk x=true:=by cases n <;> rw[Da]
def Da.canLay:∀(n:Nat) (d:D),Da n d->(py d).canLay0=true/\(py d).depth<=n:=by
 intro n
 induction n with
 | zero=>
  intro d h
  cases d with
  | non=>exact⟨rfl,wc _⟩
  | bl _=>exact⟨rfl,wc _⟩
  | int _=>exact⟨rfl,wc _⟩
  | str x=>exact⟨by rw[py,PyData.canLay0]; exact Da.str.mp h,by rw[py,PyData.depth]; exact wc _⟩
  | _=>rw[Da] at h; exact h.elim
 | succ n ih=>
  have all:∀l:List D,(∀d∈l,Da n d)->PyData.canLayAll0 (pys l)=true/\PyData.depthAll (pys l)<=n:=by
   intro l
   induction l with
   | nil=>intro _; exact⟨rfl,w6 _⟩
   | cons d l ihl=>
    intro h;obtain⟨a1,a2⟩:=ih d (h d wt);obtain⟨b1,b2⟩:=ihl λx hx=>h x (wj _ hx);rw[pys,PyData.canLayAll0,PyData.depthAll,a1,b1];exact⟨rfl,Nat.max_le.mpr ⟨a2,b2⟩⟩
  intro d h
  cases d with
  | non=>exact⟨rfl,w6 _⟩
  | bl _=>exact⟨rfl,w6 _⟩
  | int _=>exact⟨rfl,w6 _⟩
  | str x=>exact⟨by rw[py,PyData.canLay0]; exact Da.str.mp h,by rw[py,PyData.depth]; exact w6 _⟩
  | tup l=>
   obtain⟨a,b⟩:=all l (Da.tup.mp h);exact⟨by rw[py,PyData.canLay0]; exact a,by rw[py,PyData.depth]; omega⟩
  | lst l=>
   obtain⟨a,b⟩:=all l (Da.lst.mp h);exact⟨by rw[py,PyData.canLay0]; exact a,by rw[py,PyData.depth]; omega⟩
  | _=>rw[Da] at h; exact h.elim
theorem Da.shaped {n:Nat}{d:D}(h:Da n d)(hn:n<=64):PySem.SeqAt.shaped (py d)=true:=by
 obtain⟨a,b⟩:=Da.canLay n d h;unfold PySem.SeqAt.shaped;rw[a,wH (wQ b hn)]
 rfl
def Da.rp {G:Hp}:∀(n:Nat) (d:D) {v:V},Da n d->RD K mg G d v->Rp K G (py d) v:=by
 intro n
 induction n with
 | zero=>
  intro d v h r
  cases d with
  | non=>rw[py,Rp]; exact z7k r
  | bl _=>rw[py,Rp]; exact z7l r
  | int _=>rw[py,Rp]; exact z16 r
  | str x=>rw[py,Rp]; exact z3x r
  | _=>rw[Da] at h; exact h.elim
 | succ n ih=>
  have all:∀(l:List D) {xs:List V},(∀d∈l,Da n d)->RDs K mg G l xs->RpL K G (pys l) xs:=by
   intro l
   induction l with
   | nil=>intro xs _ r; rw[RDs] at r; subst r; rw[pys,RpL]
   | cons d l ihl=>
    intro xs h r;rw[RDs] at r;obtain⟨x,r',rfl,r1,r2⟩:=r;rw[pys,RpL];exact⟨x,r',rfl,ih d (h d wt) r1,ihl (λx hx=>h x (wj _ hx)) r2⟩
  intro d v h r
  cases d with
  | non=>rw[py,Rp]; exact z7k r
  | bl _=>rw[py,Rp]; exact z7l r
  | int _=>rw[py,Rp]; exact z16 r
  | str x=>rw[py,Rp]; exact z3x r
  | tup l=>
   obtain⟨a,xs,rfl,h1,h2⟩:=z2P r;rw[py,Rp];exact⟨a,xs,rfl,h1,all l (Da.tup.mp h) h2⟩
  | lst l=>
   obtain⟨a,xs,rfl,h1,h2⟩:=z2B r;rw[py,Rp];exact⟨a,xs,rfl,h1,all l (Da.lst.mp h) h2⟩
  | _=>rw[Da] at h; exact h.elim
end
def deq (a b:D):Bool:=PyData.eqv (py a) (py b)
def gEq (neg:Bool)(a b:D)(Q:DK):Prop:=match a,b with
 | .int i,.int j=>Q (.bl (if neg then !decide (i=j) else decide (i=j)))
 | .str x,.str y=>Q (.bl (if neg then !decide (x=y) else decide (x=y)))
 | .bl x,.bl y=>Q (.bl (if neg then !decide (x=y) else decide (x=y)))
 | a,b=>Da 60 a/\Da 60 b/\Q (.bl (if neg then !deq a b else deq a b))
def z72 {neg:Bool}(a b:D)(Q Q':DK)(m:∀d,Q d->Q' d)(h:gEq neg a b Q):gEq neg a b Q':=by
 unfold gEq at h ⊢
 split at h
 ·exact m _ h
 ·exact m _ h
 ·exact m _ h
 ·exact⟨h.1,h.2.1,m _ h.2.2⟩
def pEq:Fn:=fn2 (gEq false) z72
def pNe:Fn:=fn2 (gEq true) z72
section
variable {X:Cx}{K:W.Frag}{mg:Str->Option Value}
def z8E {p q:Prop}[Decidable p][Decidable q](h:p↔q):decide p=decide q:=by rw[decide_eq_decide]; exact h
def zdZ {op:CmpOp}{neg:Bool}(h1:OpR X (compareOp op) (λx y H Q=>scal x y=true/\Q (.bl (if neg then !decide (x=y) else decide (x=y))) H))(h2:OpR X (compareOp op) (rEqD X.K neg)):OpR X (compareOp op) (r2 X.K X.mg (fn2 (gEq neg) z72)):=by
 intro pins s σ H x y v u Q I rx ry ⟨G,d1,d2,Q0,X0,g,r1,r2,hr,hk⟩;have hr':gEq neg d1 d2 Q0:=hr;unfold gEq at hr'
 split at hr'
 ·have e1:=z16 r1; have e2:=z16 r2;subst e1; subst e2;refine h1 pins s σ H _ _ v u Q I rx ry ⟨rfl,?_⟩;rw[z8E (⟨λh=>V.int.inj h,λh=>congrArg V.int h⟩:V.int _=V.int _↔_)];exact hk.now g hr' RD.bl'
 ·have e1:=z3x r1; have e2:=z3x r2;subst e1; subst e2;refine h1 pins s σ H _ _ v u Q I rx ry ⟨rfl,?_⟩;rw[z8E (⟨λh=>V.str.inj h,λh=>congrArg V.str h⟩:V.str _=V.str _↔_)];exact hk.now g hr' RD.bl'
 ·have e1:=z7l r1; have e2:=z7l r2;subst e1; subst e2;refine h1 pins s σ H _ _ v u Q I rx ry ⟨rfl,?_⟩;rw[z8E (⟨λh=>V.bl.inj h,λh=>congrArg V.bl h⟩:V.bl _=V.bl _↔_)];exact hk.now g hr' RD.bl'
 ·obtain⟨a1,a2,q⟩:=hr';exact h2 pins s σ H x y v u Q I rx ry ⟨_,_,(Da.rp 60 _ a1 r1).same g,(Da.rp 60 _ a2 r2).same g,a1.shaped (by decide),a2.shaped (by decide),hk.now g q RD.bl'⟩
def z4t (hu:X.A.units+64<cLine):OpR X (compareOp .Eq) (r2 X.K X.mg pEq):=zdZ (neg:=false) (zj3.imp λ_ _ _ _ h=>h) (zhg hu)
def zbo (hu:X.A.units+64<cLine):OpR X (compareOp .NotEq) (r2 X.K X.mg pNe):=zdZ (neg:=true) (ziZ.imp λ_ _ _ _ h=>h) (zhb hu)
def isN:D->Bool
 | .non=>true
 | _=>false
def gIs (neg:Bool)(a b:D)(Q:DK):Prop:=match b with
 | .non=>Q (.bl (if neg then !isN a else isN a))
 | _=>False
def z9q {neg:Bool}(a b:D)(Q Q':DK)(m:∀d,Q d->Q' d)(h:gIs neg a b Q):gIs neg a b Q':=by
 unfold gIs at h ⊢
 split at h
 ·exact m _ h
 ·exact h.elim
def pIs:Fn:=fn2 (gIs false) z9q
def zh7:Fn:=fn2 (gIs true) z9q
def zgd {G:Hp}{d:D}{v:V}(r:RD K mg G d v):decide (v = .non)=isN d:=by
 cases d with
 | non=>rw[z7k r]; rfl
 | bl b=>rw[z7l r]; rfl
 | int b=>rw[z16 r]; rfl
 | str b=>rw[z3x r]; rfl
 | tup l=>obtain⟨a,xs,rfl,_⟩:=z2P r; rfl
 | lst l=>obtain⟨a,xs,rfl,_⟩:=z2B r; rfl
 | dct k v=>rw[RD] at r; obtain⟨a,xs,rfl,_⟩:=r; rfl
 | fn n=>rw[RD] at r; obtain⟨a,rfl,_⟩:=r; rfl
 | exc n=>rw[RD] at r; obtain⟨a,xs,rfl,_⟩:=r; rfl
 | ptr a=>rw[RD] at r; subst r; rfl
 | fz k v=>rw[RD] at r; obtain⟨a,xs,rfl,_⟩:=r; rfl
 | ins n fs cs=>rw[RD] at r; obtain⟨p,C,dx,xs,rfl,_⟩:=r; rfl
def zhl:OpR X (compareOp .Is) (r2 X.K X.mg pIs):=zhe.imp λx y H Q ⟨G,d1,d2,Q0,X0,g,r1,r2,hr,hk⟩=>by
 have hr':gIs false d1 d2 Q0:=hr;unfold gIs at hr'
 split at hr'
 ·exact⟨z7k r2,by rw[zgd r1]; exact hk.now g hr' RD.bl'⟩
 ·exact hr'.elim
def z2U {g:D->DK->Prop}{m}{ds:List D}{Q:DK}{Xp:XP}(h:(fn1 g m).run ds Q Xp):∃d,ds=[d]/\g d Q:=by
 match ds,h with
 | [a],h=>exact⟨a,rfl,h⟩
 | [],h=>exact h.elim
 | _::_::_,h=>exact h.elim
def zdn {g:D->D->DK->Prop}{m}{ds:List D}{Q:DK}{Xp:XP}(h:(fn2 g m).run ds Q Xp):∃d e,ds=[d,e]/\g d e Q:=by
 match ds,h with
 | [a,b],h=>exact⟨a,b,rfl,h⟩
 | [],h=>exact h.elim
 | [_],h=>exact h.elim
 | _::_::_::_,h=>exact h.elim
def gLen (d:D)(Q:DK):Prop:=match d with
 | .lst l=>Q (.int (l.length:Int))
 | .tup l=>Q (.int (l.length:Int))
 | .str x=>x.length<=sizeLine/\Q (.int (x.length:Int))
 | _=>False
def pLen:Fn:=fn1 gLen λd Q Q' m h=>by
 unfold gLen at h ⊢
 split at h
 ·exact m _ h
 ·exact m _ h
 ·exact⟨h.1,m _ h.2⟩
 ·exact h.elim
def z43:z1v X (.builtin "len") (rN X.K X.mg pLen):=(z1v.or z7U z7T).imp λvs H Q ⟨G,ds,Q0,X0,g,rds,hr,hk⟩=>by
 obtain⟨d,rfl,hr'⟩:=z2U hr;obtain⟨v,rfl,rd⟩:=rds1 rds;unfold gLen at hr'
 split at hr'
 ·obtain⟨a,xs,rfl,h1,h2⟩:=z2B rd;exact .inl ⟨a,xs,rfl,.inl (z1U g h1),by rw[h2.len]; exact hk.now g hr' RD.int'⟩
 ·obtain⟨a,xs,rfl,h1,h2⟩:=z2P rd;exact .inl ⟨a,xs,rfl,.inr (z1T g h1),by rw[h2.len]; exact hk.now g hr' RD.int'⟩
 ·have e:=z3x rd;subst e;exact .inr ⟨_,rfl,hr'.1,hk.now g hr'.2 RD.int'⟩
 ·exact hr'.elim
def gAbs (d:D)(Q:DK):Prop:=match d with
 | .int i=>Q (.int (if i<0 then -i else i))
 | _=>False
def pAbs:Fn:=fn1 gAbs λd Q Q' m h=>by
 unfold gAbs at h ⊢
 split at h
 ·exact m _ h
 ·exact h.elim
def zed:z1v X (.builtin "abs") (rN X.K X.mg pAbs):=zdv.imp λvs H Q ⟨G,ds,Q0,X0,g,rds,hr,hk⟩=>by
 obtain⟨d,rfl,hr'⟩:=z2U hr;obtain⟨v,rfl,rd⟩:=rds1 rds;unfold gAbs at hr'
 split at hr'
 ·have e:=z16 rd;subst e;exact⟨_,rfl,hk.now g hr' RD.int'⟩
 ·exact hr'.elim
def gInt (d:D)(Q:DK):Prop:=match d with
 | .int i=>Q (.int i)
 | .bl b=>Q (.int (if b then 1 else 0))
 | .str x=>∃n,PySem.intText? x=some n/\x.length<=640/\Q (.int n)
 | _=>False
def pInt:Fn:=fn1 gInt λd Q Q' m h=>by
 unfold gInt at h ⊢
 split at h
 ·exact m _ h
 ·exact m _ h
 ·obtain⟨n,h1,h2,h3⟩:=h;exact⟨n,h1,h2,m _ h3⟩
 ·exact h.elim
def zbH (d:D)(Q:DK):Prop:=match d with
 | .lst l=>Q (.tup l)
 | .tup l=>Q (.tup l)
 | _=>False
def z2r:Fn:=fn1 zbH λd Q Q' m h=>by
 unfold zbH at h ⊢
 split at h
 ·exact m _ h
 ·exact m _ h
 ·exact h.elim
def z3g:z1v X (.type "tuple") (rN X.K X.mg z2r):=z76.imp λvs H Q ⟨G,ds,Q0,X0,g,rds,hr,hk⟩=>by
 obtain⟨d,rfl,hr'⟩:=z2U hr;obtain⟨v,rfl,rd⟩:=rds1 rds;unfold zbH at hr'
 split at hr'
 ·obtain⟨a,xs,rfl,h1,h2⟩:=z2B rd;exact⟨a,xs,rfl,.inl ⟨z1U g h1,λp hp=>hk.new g hp hr' (RD.newT h2 g hp)⟩⟩
 ·obtain⟨a,xs,rfl,h1,h2⟩:=z2P rd;exact⟨a,xs,rfl,.inr ⟨z1T g h1,hk.now g hr' (RD.ofT h1 h2)⟩⟩
 ·exact hr'.elim
def zbI (d:D)(Q:DK):Prop:=match d with
 | .lst l=>Q (.lst l)
 | .tup l=>Q (.lst l)
 | _=>False
def z7w:Fn:=fn1 zbI λd Q Q' m h=>by
 unfold zbI at h ⊢
 split at h
 ·exact m _ h
 ·exact m _ h
 ·exact h.elim
def rNf (K:W.Frag)(mg:Str->Option Value)(F:Fn):List V->Hp->VK->Prop:=λvs H Q=>∃G ds Q0 X0,Same G H/\RDs K mg G ds vs/\F.run ds Q0 X0/\Kf K mg G H Q0 Q
def Kf.same {G G' H H':Hp}{Q0:DK}{Q:VK}(h:Kf K mg G H Q0 Q)(g:Gr G H G')(k:Same H H'):Kf K mg G' H' Q0 Q:=λd a G1 H1 q g1 g2 g3 hn gn hw=>h d a G1 H1 q (g.trans k g1) g2 (z06 k g3) (z0x k hn) gn hw
def Kf.newL {G H:Hp}{Q0:DK}{Q:VK}{p:Addr}{l:List D}{xs:List V}(h:Kf K mg G H Q0 Q)(g:Same G H)(hp:H p=none)(q:Q0 (.lst l))(r:RDs K mg G l xs):Q (.ref p) (upd H p (.lst xs)):=
 h (.lst l) p G (upd H p (.lst xs)) q Gr.refl (z06 g (z1g hp _)) (z1g hp _) hp (z0x g hp) ⟨xs,z09,r⟩
def tfN {E:XK}{σ:L2.St}{H:Hp}{Q:VK}{F:Fn}{es:List Ex}(h:tf K mg E (.op F es) σ H Q):tCB (rNf K mg F) (txa K mg E es) σ H Q:=by
 obtain⟨G,ρ,Q0,X0,hs,ab,hr,hk,hx⟩:=h;exact⟨G,ρ,λds=>F.run ds Q0 X0,X0,hs,ab,hr,λds vs G1 H1 hF g1 g2 g3 rd=>⟨G1,ds,Q0,X0,g2,rd,hF,hk.same g1 g3⟩,hx⟩
def zb4 {E:XK}{e:Expr}{es:List Expr}{xs:List Ex}{pos:Pos}{f:Str}{pp:Pos}{id:String}{F:Fn}(hc:z1v X (.type id) (rNf X.K X.mg F))(hg:Gl X f)(hm:X.mg f=none)(hv:bootBuiltins f=some (.type id))(ha:QXA X E (e::es) xs)(hn:f≠"__name__":=by decide)(hdb:(f == ("__debug__":Str))=false:=by decide)
  (he:starEach (e::es) X.env=(false,eval e X.env)::starEach es X.env:=by rfl) (hpl:(backTo pos (starEach es X.env)).any (·.1)=false:=by rfl):QF X E (.Call (.Name f pp) (e::es) [] pos) (.op F xs):=
 QE.imp (z7r hc hg hm hv ha hn hdb he hpl) λ_ _ _ h=>tfN h
def zgz {E:XK}{e:Expr}{es:List Expr}{xs:List Ex}{pos:Pos}{f:Str}{pp:Pos}{id:String}{F:Fn}(hc:z1v X (.builtin id) (rNf X.K X.mg F))(hg:Gl X f)(hm:X.mg f=none)(hv:bootBuiltins f=some (.builtin id))(ha:QXA X E (e::es) xs)(hn:f≠"__name__":=by decide)(hdb:(f == ("__debug__":Str))=false:=by decide)
  (he:starEach (e::es) X.env=(false,eval e X.env)::starEach es X.env:=by rfl) (hpl:(backTo pos (starEach es X.env)).any (·.1)=false:=by rfl):QF X E (.Call (.Name f pp) (e::es) [] pos) (.op F xs):=
 QE.imp (z5d hc hg hm hv ha hn hdb he hpl) λ_ _ _ h=>tfN h
def zc9:z1v X (.type "list") (rNf X.K X.mg z7w):=z7S.imp λvs H Q ⟨G,ds,Q0,X0,g,rds,hr,hk⟩=>by
 obtain⟨d,rfl,hr'⟩:=z2U hr;obtain⟨v,rfl,rd⟩:=rds1 rds;unfold zbI at hr'
 split at hr'
 ·obtain⟨a,xs,rfl,h1,h2⟩:=z2B rd;exact⟨a,xs,rfl,.inl (z1U g h1),λp hp=>hk.newL g hp hr' h2⟩
 ·obtain⟨a,xs,rfl,h1,h2⟩:=z2P rd;exact⟨a,xs,rfl,.inr (z1T g h1),λp hp=>hk.newL g hp hr' h2⟩
 ·exact hr'.elim
def gIx (a b:D)(Q:DK):Prop:=match a,b with
 | .lst l,.int i=>onV (atI l i) Q
 | .tup l,.int i=>onV (atI l i) Q
 | .str x,.int i=>x.length<=sizeLine/\∃c,atI x.cps.toList i=some c/\Q (.str ⟨#[c]⟩)
 | _,_=>False
def zdk (a b:D)(Q Q':DK)(m:∀d,Q d->Q' d)(h:gIx a b Q):gIx a b Q':=by
 unfold gIx at h ⊢
 split at h
 ·exact z96 m h
 ·exact z96 m h
 ·obtain⟨h1,c,h2,h3⟩:=h;exact⟨h1,c,h2,m _ h3⟩
 ·exact h.elim
def pIx:Fn:=fn2 gIx zdk
def IxR.imp {r r':R2}(h:IxR X r)(i:∀x y H Q,r' x y H Q->r x y H Q):IxR X r':=λvalue slice pins s σ H x y v u Q I rx ry q hs=>h value slice pins s σ H x y v u Q I rx ry (i x y H Q q) hs
def ix_p:IxR X (r2 X.K X.mg pIx):=IxR.imp zhV λx y H Q ⟨G,d1,d2,Q0,X0,g,r1,r2,hr,hk⟩=>by
 have hr':gIx d1 d2 Q0:=hr;unfold gIx at hr'
 split at hr'
 ·obtain⟨d,e,q⟩:=z95 hr';obtain⟨a,xs,rfl,h1,h2⟩:=z2B r1;obtain⟨v,e1,rv⟩:=h2.at e;exact .inl ⟨a,xs,_,v,rfl,z16 r2,z1U g h1,e1,hk.now g q rv⟩
 ·obtain⟨d,e,q⟩:=z95 hr';obtain⟨a,xs,rfl,h1,h2⟩:=z2P r1;obtain⟨v,e1,rv⟩:=h2.at e;exact .inr (.inl ⟨a,xs,_,v,rfl,z16 r2,z1T g h1,e1,hk.now g q rv⟩)
 ·obtain⟨h1,c,h2,h3⟩:=hr';exact .inr (.inr ⟨_,_,c,z3x r1,z16 r2,h1,h2,hk.now g h3 RD.str'⟩)
 ·exact hr'.elim
def z17 {E:XK}{a b:Expr}{x y:Ex}{pos:Pos}(ha:QX X E a x)(hb:QX X E b y)(hs:z8M b):QX X E (.Subscript a b pos) (.op pIx [x,y]):=QE.imp (ziM ix_p ha hb hs) λ_ _ _ h=>tx2 lk2 h
end
end Pu
namespace HT
open PySem PyProof.Rows
section
variable {prog:Program}{w:World}{A:Around}{E:Value->Shared->Prop}{s:Shared}
def zaj {t sl:Addr}{z08:Array Value}{vl vu vs:Value}{R:Int × Int × Nat}{Q:Value->Shared->Prop}(ht:IsTup s.heap t z08)(hs:s.heap.IsSliceOf sl vl vu vs)
  (ha:∀{A:Around}{E:Value->Shared->Prop}{Q:Int × Int × Nat->Shared->Prop},Q R s->wpAny (model prog w) A (Builtin.Slice.sliceApplied (.ref sl) (pure (z08.size:Int))) Q E s) (hsz:R.2.2<=sizeLine)
  (h1:(R.1 == 0 && R.2.1 == 1 && R.2.2 == z08.size)=true->Q (.ref t) s)
  (h2:¬ (R.1 == 0 && R.2.1 == 1 && R.2.2 == z08.size)=true->Q (.ref s.heap.objs.size) { s with heap:=s.heap.push { cls :=.type "tuple",data :=.seq ((List.range R.2.2).filterMap λ(k:Nat)=>z08[(R.1+(k:Int)*R.2.1).toNat]?).toArray } }):
  wpAny (model prog w) A (getItem (.ref t) (.ref sl)) Q E s:=by
 obtain⟨os,hos,hcs,hds⟩:=id hs;have hTs:s.TypeIs (.ref sl) "slice":=⟨os,hos,hcs⟩
 have htake:sizeOk (.seq ((List.range R.2.2).filterMap λ(k:Nat)=>z08[(R.1+(k:Int)*R.2.1).toNat]?).toArray):=by
  show ((List.range R.2.2).filterMap λ(k:Nat)=>z08[(R.1+(k:Int)*R.2.1).toNat]?).toArray.size<=sizeLine;rw[wv];refine wQ (List.length_filterMap_le _ _) ?_;rw[vG]; exact hsz
 unfold getItem
 try with_reducible refine vj ?_
 first | refine wa (wf ?_) | skip
 refine wa (wpAny_sequenceKey ht.typeIs (by decide) ?_);refine wa (wpAny_callSpecial?_slot (name:=Str.ofString "__getitem__") ht.typeIs wY
  (ua wY ht.typeIs entry_tuple_getitem ?_ (args_tuple_getitem _ _)))
 show wpAny _ _ (Builtin.Tuple.tupleItemsOf (.ref t) >>= _) _ _ s;refine wa (tupleItemsOf_ ht ?_);refine wa (wpAny_typeOf hTs ?_);rw[if_pos (by decide)];refine wa (ha ?_);obtain⟨r1,r2,r3⟩:=R;show wpAny _ _ (if (r1 == 0 && r2 == 1 && r3 == z08.size)=true then _ else _) _ _ s
 by_cases hb:(r1 == 0 && r2 == 1 && r3 == z08.size)=true
 ·rw[if_pos hb];refine wa (m:=Builtin.Tuple.tupleIsExact (.ref t)) ?_;refine wa (wpAny_typeOf ht.typeIs (wf ?_));rw[if_pos (by decide)]
  first
   | exact wa (wf (wf ⟨_,rfl,wf (h1 hb)⟩))
   | exact wa (ub (wf ⟨_,rfl,wf (h1 hb)⟩))
   | exact wa (ub (wa (wf (wf ⟨_,rfl,wf (h1 hb)⟩))))
   | exact wf ⟨_,rfl,wf (h1 hb)⟩
 ·rw[if_neg hb];have h:=h2 hb
  first
   | exact wa (m:=Builtin.Tuple.tupleExact _) (vb (wf ⟨_,rfl,wf h⟩) htake)
   | exact wa (m:=Builtin.Tuple.tupleExact _) (vb (wa (wf (wf ⟨_,rfl,wf h⟩))) htake)
   | exact wa (wa (m:=Builtin.Tuple.tupleExact _) (vb (wf (wf ⟨_,rfl,wf h⟩)) htake))
   | exact wa (wa (m:=Builtin.Tuple.tupleExact _) (vb (wf ⟨_,rfl,wf h⟩) htake))
end
end HT
namespace Pu
open PySem PySem.Spec PyProof.Rows L2
def part (o:Option Ex)(ρ:Pu.Env)(K:Option Int->Prop)(X:XP):Prop:=match o with
 | none=>K none
 | some e=>e.run ρ (λd=>isI d λi=>K (some i)) X
def z4p {o:Option Ex}{ρ:Pu.Env}{K K':Option Int->Prop}{X X':XP}(m:∀i,K i->K' i)(mx:∀x,X x->X' x)(h:part o ρ K X):part o ρ K' X':=by
 cases o with
 | none=>exact m _ h
 | some e=>exact e.mono ρ _ _ X X' (λd q=>z6V (λi q=>m _ q) q) mx h
def cutD (l:List D)(lo hi:Option Int):List D:=(l.drop (HT.sIx l.length 0 lo)).take (HT.sIx l.length l.length hi - HT.sIx l.length 0 lo)
def slcD (d:D)(lo hi:Option Int)(Q:DK):Prop:=match d with
 | .lst l=>Q (.lst (cutD l lo hi))
 | .tup l=>Q (.tup (cutD l lo hi))
 | .str x=>x.length<=sizeLine/\Q (.str (Txt.slice x lo hi))
 | _=>False
def zaB {d:D}{lo hi:Option Int}{Q Q':DK}(m:∀d,Q d->Q' d)(h:slcD d lo hi Q):slcD d lo hi Q':=by
 unfold slcD at h ⊢
 split at h
 ·exact m _ h
 ·exact m _ h
 ·exact⟨h.1,m _ h.2⟩
 ·exact h.elim
def Ex.sl (e:Ex)(lo hi:Option Ex):Ex:=⟨λρ Q X=>e.run ρ (λd=>part lo ρ (λl=>part hi ρ (λu=>slcD d l u Q) X) X) X,λρ Q Q' X X' m mx q=>e.mono ρ _ _ X X' (λd q=>z4p (λl q=>z4p (λu q=>zaB m q) mx q) mx q) mx q⟩
def ziR (l:List D)(lo hi:Option Int)(st:Int):List D:=(sliceRange (sliceBounds lo hi (some st) l.length).1 (sliceBounds lo hi (some st) l.length).2.1 (sliceBounds lo hi (some st) l.length).2.2).filterMap (l[·]?)
def ziQ (l:List D)(lo hi:Option Int)(st:Int):List D:=
 (List.range (Builtin.Slice.slicePlaces (Builtin.Slice.sliceAdjust lo hi st l.length).1 (Builtin.Slice.sliceAdjust lo hi st l.length).2 st)).filterMap λ(k:Nat)=>l[((Builtin.Slice.sliceAdjust lo hi st l.length).1+(k:Int)*st).toNat]?
def slsD (d:D)(lo hi:Option Int)(st:Int)(Q:DK):Prop:=st≠0/\match d with
 | .lst l=>Q (.lst (ziR l lo hi st))
 | .tup l=>st≠1/\Builtin.Slice.slicePlaces (Builtin.Slice.sliceAdjust lo hi st l.length).1 (Builtin.Slice.sliceAdjust lo hi st l.length).2 st<=sizeLine/\Q (.tup (ziQ l lo hi st))
 | _=>False
def zaA {d:D}{lo hi:Option Int}{st:Int}{Q Q':DK}(m:∀d,Q d->Q' d)(h:slsD d lo hi st Q):slsD d lo hi st Q':=by
 refine⟨h.1,?_⟩;have h2:=h.2
 split at h2
 ·exact m _ h2
 ·exact⟨h2.1,h2.2.1,m _ h2.2.2⟩
 ·exact h2.elim
def Ex.sls (e:Ex)(lo hi:Option Ex)(st:Ex):Ex:=⟨λρ Q X=>e.run ρ (λd=>part lo ρ (λl=>part hi ρ (λu=>st.run ρ (λk=>isI k λk=>slsD d l u k Q) X) X) X) X,λρ Q Q' X X' m mx q=>e.mono ρ _ _ X X' (λd q=>z4p (λl q=>z4p (λu q=>st.mono ρ _ _ X X' (λk q=>z6V (λk q=>zaA m q) q) mx q) mx q) mx q) mx q⟩
def rSlP (K:W.Frag)(mg:Str->Option Value):V->Option Int->Option Int->Hp->VK->Prop:=λx lo hi H Q=>∃G d Q0,Same G H/\RD K mg G d x/\slcD d lo hi Q0/\Kt K mg G H Q0 Q
section
variable {X:Cx}{K:W.Frag}{mg:Str->Option Value}{E:XK}
def zcr:SlR X (λx lo hi H Q=>∃a xs,x = .ref a/\SqT X.K H a xs/\(HT.sIx xs.length 0 lo=0/\HT.sIx xs.length xs.length hi=xs.length)/\Q (.ref a) H):=by
 intro pins s σ H x v vl vu lo hi sl Q I rx hs pl pu h;obtain⟨a,xs,rfl,hx,hw,q⟩:=h
 cases rx
 obtain⟨its,r,ht,hz⟩:=I.tuple hx;have hlen:its.toArray.size=xs.length:=by rw[wv]; exact r.length.symm
 refine⟨"tuple",_,wY.lookup,ht.typeIs,?_⟩;refine HT.zaj (R:=(((HT.sIx its.toArray.size 0 lo:Nat):Int),1,HT.sIx its.toArray.size its.toArray.size hi - HT.sIx its.toArray.size 0 lo)) ht hs (λh=>HT.z3j hs pl pu h) ?_ (λ_=>⟨.ref a,H,I,rfl,q⟩) (λz =>?_)
 ·rw[hlen]; dsimp only; rw[hw.1,hw.2]; omega
 ·rw[hlen] at z;exact absurd (by dsimp only; rw[hw.1,hw.2]; simp) z
def za7 {xs:List D}{lo hi:Option Int}(h:HT.sIx xs.length 0 lo=0/\HT.sIx xs.length xs.length hi=xs.length):cutD xs lo hi=xs:=by
 unfold cutD;rw[h.1,h.2];simp
def sl_p:SlR X (rSlP X.K X.mg):=((zen.or (zfT.or zcr)).or zfU).imp λx lo hi H Q ⟨G,d,Q0,g,rd,hr,hk⟩=>by
 unfold slcD at hr
 split at hr
 ·obtain⟨a,xs,rfl,h1,h2⟩:=z2B rd;exact .inl (.inl ⟨a,xs,rfl,z1U g h1,λp hp=>hk.new g hp hr (RD.newL (h2.cut lo hi) g hp)⟩)
 ·obtain⟨a,xs,rfl,h1,h2⟩:=z2P rd
  by_cases hw:HT.sIx xs.length 0 lo=0/\HT.sIx xs.length xs.length hi=xs.length
  ·refine .inl (.inr (.inr ⟨a,xs,rfl,z1T g h1,hw,hk.now g hr ?_⟩));rw[h2.len] at hw;rw[za7 hw];exact RD.ofT h1 h2
  ·exact .inl (.inr (.inl ⟨a,xs,rfl,z1T g h1,hw,λp hp=>hk.new g hp hr (RD.newT (h2.cut lo hi) g hp)⟩))
 ·exact .inr ⟨_,z3x rd,hr.1,hk.now g hr.2 RD.str'⟩
 ·exact hr.elim
def z9A (K:W.Frag)(mg:Str->Option Value)(E:XK)(o:Option Ex):TO:=λσ H Q=>∃G ρ Q0 X0,Same G H/\AbE K mg G ρ σ/\part o ρ Q0 X0/\(∀i G' H',Q0 i->Gr G H G'->Same G' H'->Same H H'->Q i H')/\Kx mg H X0 E
def QO.imp {e:Option Expr}{t t':TO}(h:QO X e t)(i:∀σ H Q,t' σ H Q->t σ H Q):QO X e t':=⟨λpins s σ H Q I q=>h.p pins s σ H Q I (i σ H Q q)⟩
def zeO:QO X none (z9A X.K X.mg E none):=QO.imp zeQ λσ H Q ⟨G,ρ,Q0,X0,hs,ab,hr,hk,hx⟩=>hk none G H hr Gr.refl hs Same.refl'
def zeN {e:Expr}{x:Ex}(h:QX X E e x):QO X (some e) (z9A X.K X.mg E (some x)):=QO.imp (zeP h) λσ H Q ⟨G,ρ,Q0,X0,hs,ab,hr,hk,hx⟩=>by
 refine⟨G,ρ,_,X0,hs,ab,hr,λd v G1 H1 q g1 g2 g3 rd =>?_,hx⟩;obtain⟨i,rfl,q⟩:=z9o q;exact⟨i,z16 rd,hk (some i) G1 H1 q g1 g2 g3⟩
def zin {σ:L2.St}{H:Hp}{Q:VK}{e:Ex}{lo hi:Option Ex}(h:tx K mg E (.sl e lo hi) σ H Q):tSl (rSlP K mg) (tx K mg E e) (z9A K mg E lo) (z9A K mg E hi) σ H Q:=by
 obtain⟨G,ρ,Q0,X0,hs,ab,hr,hk,hx⟩:=h;refine⟨G,ρ,_,X0,hs,ab,hr,λd v G1 H1 q g1 g2 g3 rd =>?_,hx⟩;refine⟨G1,ρ,_,X0,g2,ab.same g1.1,q,λl G2 H2 q k1 k2 k3 =>?_,hx.same g3⟩;refine⟨G2,ρ,_,X0,k2,ab.same (z06 g1.1 k1.1),q,λu G3 H3 q n1 n2 n3 =>?_,hx.same (z06 g3 k3)⟩;exact⟨G3,d,Q0,n2,rd.same (z06 k1.1 n1.1),q,hk.same (g1.trans g3 (k1.trans k3 n1)) (z06 g3 (z06 k3 n3))⟩
def ziH {e:Expr}{x:Ex}{lo hi:Option Expr}{l u:Option Ex}{p2 pos:Pos}(he:QX X E e x)(hl:QO X lo (z9A X.K X.mg E l))(hu:QO X hi (z9A X.K X.mg E u)):QX X E (.Subscript e (.Slice lo hi none p2) pos) (.sl x l u):=QE.imp (zcJ sl_p he hl hu) λ_ _ _ h=>zin h
end
section
variable {X:Cx}{K:W.Frag}{mg:Str->Option Value}{E:XK}
def isiD (T:String):D->Option Bool
 | .int _=>some (T == "int")
 | .bl _=>some (T == "int" || T == "bool")
 | .str _=>some (T == "str")
 | .tup _=>some (T == "tuple")
 | .lst _=>some (T == "list")
 | .non=>some false
 | _=>none
def onB (o:Option Bool)(Q:Bool->Prop):Prop:=match o with
 | some b=>Q b
 | none=>False
def zd8 {o:Option Bool}{Q Q':Bool->Prop}(m:∀b,Q b->Q' b)(h:onB o Q):onB o Q':=by
 cases o with
 | none=>exact h
 | some b=>exact m _ h
def zd7 {o:Option Bool}{Q:Bool->Prop}(h:onB o Q):∃b,o=some b/\Q b:=by
 cases o with
 | none=>exact h.elim
 | some b=>exact⟨b,rfl,h⟩
def pIsi (T:String):Fn:=fn1 (λd Q=>onB (isiD T d) λb=>Q (.bl b)) λd Q Q' m h=>zd8 (λb q=>m _ q) h
def z9V:List String:=["int","bool","str","tuple","list"]
def zfp {T:String}(hT:T∈z9V):PySem.W.kitOne K (.type "int") (.type T)=some (T == "int")/\PySem.W.kitOne K (.type "bool") (.type T)=some (T == "int" || T == "bool")/\PySem.W.kitOne K (.type "str") (.type T)=some (T == "str")/\
  PySem.W.kitOne K (.type "tuple") (.type T)=some (T == "tuple")/\PySem.W.kitOne K (.type "list") (.type T)=some (T == "list")/\PySem.W.kitOne K (.type "NoneType") (.type T)=some false:=by
 unfold z9V at hT;simp only[wx,wN,vO] at hT
 rcases hT with rfl | rfl | rfl | rfl | rfl <;> exact⟨rfl,rfl,rfl,rfl,rfl,rfl⟩
def ziE (K:W.Frag)(mg:Str->Option Value)(T:String):List V->Hp->VK->Prop:=λvs H Q=>∃v G d Q0,vs=[v,.ty T]/\Same G H/\RD K mg G d v/\(onB (isiD T d) λb=>Q0 (.bl b))/\Kt K mg G H Q0 Q
def zif {T:String}(hT:T∈z9V):z1v X (.builtin "isinstance") (ziE X.K X.mg T):=by
 intro pins s σ H vs us Q I rv ⟨v,G,d,Q0,e,g,rd,hr,hk⟩;subst e;obtain⟨b,eb,q⟩:=zd7 hr;obtain⟨u,w,rfl,ru,rw'⟩:=zeg rv
 cases (show w=Value.type T from rw')
 obtain⟨t1,t2,t3,t4,t5,t6⟩:=zfp (K:=X.K) hT;have fin:∀tk,EP X pins σ Q (.bool b) { s with toks:=tk }:=λtk=>⟨.bl b,H,I.tok tk,rfl,hk.now g q RD.bl'⟩
 cases d with
 | int i=>
  have e:=z16 rd; subst e;rw[show isiD T (.int i)=some (T == "int") from rfl] at eb;exact z4x I ru (.int i) (t1.trans eb) fin
 | bl i=>
  have e:=z7l rd; subst e;rw[show isiD T (.bl i)=some (T == "int" || T == "bool") from rfl] at eb;exact z4x I ru (.bl i) (t2.trans eb) fin
 | str i=>
  have e:=z3x rd; subst e;rw[show isiD T (.str i)=some (T == "str") from rfl] at eb;exact z4x I ru (.str i) (t3.trans eb) fin
 | non=>
  have e:=z7k rd; subst e;rw[show isiD T .non=some false from rfl] at eb;exact z4x I ru .non (t6.trans eb) fin
 | tup l=>
  obtain⟨a,xs,rfl,h1,h2⟩:=z2P rd
  cases ru
  rw[show isiD T (.tup l)=some (T == "tuple") from rfl] at eb;obtain⟨its,r,⟨o,ho,hc,_⟩,_⟩:=I.tuple (z1T g h1);exact wV PySem.W.kitx_tuple I.kIn ⟨o,ho,hc⟩ (t4.trans eb) (λz=>nomatch z) fin
 | lst l=>
  obtain⟨a,xs,rfl,h1,h2⟩:=z2B rd
  cases ru
  rw[show isiD T (.lst l)=some (T == "list") from rfl] at eb;obtain⟨its,r,⟨o,n,ho,hc,_⟩,_⟩:=I.list (z1U g h1);exact wV PySem.W.kitx_list I.kIn ⟨o,ho,hc⟩ (t5.trans eb) (λz=>nomatch z) fin
 | _=>cases eb
def z3y {e t:Expr}{x:Ex}{pp pos:Pos}{T:String}(hT:T∈z9V)(hg:Gl X "isinstance")(hm:X.mg "isinstance"=none)(he:QX X E e x)(ht:QE X t (tC (.ty T)))
  (hs1:starEach [e,t] X.env=(false,eval e X.env)::starEach [t] X.env:=by rfl) (hs2:starEach [t] X.env=(false,eval t X.env)::starEach [] X.env:=by rfl) (hpl:(backTo pos (starEach [t] X.env)).any (·.1)=false:=by rfl)
  (hv:bootBuiltins "isinstance"=some (.builtin "isinstance"):=by rfl) (hn:("isinstance":Str)≠"__name__":=by decide) (hdb:(("isinstance":Str) == ("__debug__":Str))=false:=by decide):QX X E (.Call (.Name "isinstance" pp) [e,t] [] pos) (.op (pIsi T) [x]):=
 QE.imp (z5d (zif hT) hg hm hv (z46 he (z46 ht z7s hs2) hs1) hn hdb hs1 hpl) λσ H Q ⟨G,ρ,Q0,X0,hs,ab,hr,hk,hx⟩=>by
  refine⟨G,ρ,_,X0,hs,ab,hr,λd v G1 H1 q g1 g2 g3 rd =>?_,hx⟩;exact⟨v,G1,d,Q0,rfl,g2,rd,q,hk.same g1 g3⟩
def zdm {g:Int->Int->DK->Prop}{hg}{ds:List D}{Q:DK}{Xp:XP}(h:(fnI g hg).run ds Q Xp):∃i j,ds=[.int i,.int j]/\g i j Q:=by
 obtain⟨d,e,rfl,h'⟩:=zdn (m:=zbM hg) h;obtain⟨i,j,rfl,rfl,q⟩:=z8B h';exact⟨i,j,rfl,q⟩
def zbg:Fn:=fnI (λi j Q=>Q (.int (if j > i then j else i))) λ_ _ _ _ m h=>m _ h
def ziY:Fn:=fnI (λi j Q=>Q (.int (if j<i then j else i))) λ_ _ _ _ m h=>m _ h
def zfv (hc:X.calm=true):z1v X (.builtin "max") (rN X.K X.mg zbg):=(zcb hc).imp λvs H Q ⟨G,ds,Q0,X0,g,rds,hr,hk⟩=>by
 obtain⟨i,j,rfl,q⟩:=zdm hr;obtain⟨v,w,rfl,r1,r2⟩:=rds2 rds;exact⟨i,j,by rw[z16 r1,z16 r2],hk.now g q RD.int'⟩
end
def GlS (sc:Scope)(x:Str):Prop:=sc.names.lookup x=some .globalImplicit
structure Nm (sc:Scope)(x:Str):Prop where
 loc:Loc sc x
 hd:(x == ("__debug__":Str))=false
 hcd:(x == ("__classdict__":Str))=false
def Nm.vis {sc:Scope}{x:Str}(h:Nm sc x):Vis sc x:=h.loc.elim .inl λz =>.inr (.inl z)
section
variable {CX:CXT}{P:Program}{w:World}{K:W.Frag}{mg:Str->Option Value}{base:Heap}{N:List Str}{qual:Str}{sc:Scope}{f:Addr}{cdv:Value}{A:Around}{outer:List PySem.Env}{s:Shared}{H:Hp}{E:XK}{xe:Value->Shared->Prop}{x:Str}{pos pos2:Pos}{e:Expr}{te:TE}
def vg (i:Nat)(h:Nm sc x)(hN:N[i]? = some x:=by rfl):QE ((cxOf CX P w K mg base N qual sc f cdv A outer s H E).wish xe) (.Name x pos) (tVar i):=⟨zbc hN h.vis h.hd h.hcd⟩
def ng (i:Nat)(nd:N.Nodup)(h:Nm sc x)(hN:N[i]? = some x:=by rfl):QG ((cxOf CX P w K mg base N qual sc f cdv A outer s H E).wish xe) (.Name x pos) (z34 i):=⟨zbb nd hN h.loc (.inl rfl)⟩
def ag (i:Nat)(nd:N.Nodup)(h:Nm sc x)(he:QE ((cxOf CX P w K mg base N qual sc f cdv A outer s H E).wish xe) e te)(hN:N[i]? = some x:=by rfl)(hs:swapsWith e (some (.Name x pos2)) pos.line ((cxOf CX P w K mg base N qual sc f cdv A outer s H E).wish xe).env=pure false:=by rfl):QS ((cxOf CX P w K mg base N qual sc f cdv A outer s H E).wish xe) (.Assign [.Name x pos2] e pos) (tAsg te (z34 i)):=⟨zdS nd hN h.loc he.p hs (.inl rfl)⟩
def glg (h:GlS sc x):Gl ((cxOf CX P w K mg base N qual sc f cdv A outer s H E).wish xe) x:=h
end
def spL (K:W.Frag):Sp:=λvs H Q _=>∃(a:Addr) (ns:List Int),vs=[.ref a]/\SqL K H a (ns.map V.int)/\ns.length<=63/\∀H',Q (.bl true) H'
def zhM {P:Program}{w:World}{K:W.Frag}{mg:Str->Option Value}{base:Heap}{CX:CXT}{k:Nat}{f:Addr}{fd:FuncData}{ps:List Str}{F:Fn}(h:∀ns:List Int,ns.length<=63->F.run [.lst (ns.map .int)] (λd=>d = .bl true) (λ_=>False))(ok:FnOk P w K mg base CX k f fd ps (spP K mg F)):FnOk P w K mg base CX k f fd ps (spL K):=
 ok.imp λvs H Q E ⟨a,ns,e,hS,hl,q⟩=>⟨H,[.lst (ns.map .int)],_,_,Same.refl',by rw[e]; exact RDs.cons (RD.ofL hS (z9p ns)) RDs.nil,h ns hl,λd v G' H' e g1 g2 g3 rd=>by
  subst e;rw[z7l rd];exact q H',Kx.no⟩
end Pu
namespace Pu
open PySem L2
open Builtin.Int (intBits)
section
variable {ρ:Pu.Env}{Q:DK}{X:XP}{N:Pu.Env->Prop}{a b c e:Ex}{s t:Sm}{F:Fn}{d:D}{i j:Nat}
def z5D {d:D}(q:Q d):onV (some d) Q:=q
def e_c (q:Q d):(Ex.c d).run ρ Q X:=q
def e_v (q:onV (ρ.get i) Q):(Ex.v i).run ρ Q X:=q
def zjp (q:a.run ρ (λx=>F.run [x] Q X) X):(Ex.op F [a]).run ρ Q X:=q
def zjo (q:a.run ρ (λx=>b.run ρ (λy=>F.run [x,y] Q X) X) X):(Ex.op F [a,b]).run ρ Q X:=q
def zjn (q:a.run ρ (λx=>b.run ρ (λy=>c.run ρ (λz=>F.run [x,y,z] Q X) X) X) X):(Ex.op F [a,b,c]).run ρ Q X:=q
def zjm (q:a.run ρ (λx=>b.run ρ (λy=>c.run ρ (λz=>e.run ρ (λu=>F.run [x,y,z,u] Q X) X) X) X) X):(Ex.op F [a,b,c,e]).run ρ Q X:=q
def zjl {es:List Ex}(q:runs es ρ (λds=>F.run ds Q X) X):(Ex.op F es).run ρ Q X:=q
def zga {Q:List D->Prop}(q:Q []):runs [] ρ Q X:=q
def zew {es:List Ex}{Q:List D->Prop}(q:a.run ρ (λd=>runs es ρ (λds=>Q (d::ds)) X) X):runs (a::es) ρ Q X:=q
def zjs (q:a.run ρ (λd=>tst d (b.run ρ Q X) (Q (.bl false))) X):(Ex.and a b).run ρ Q X:=q
def e_or (q:a.run ρ (λd=>tst d (Q (.bl true)) (b.run ρ Q X)) X):(Ex.or a b).run ρ Q X:=q
def notD (d:D)(Q:DK):Prop:=match d with
 | .bl b=>Q (.bl (!b))
 | _=>False
def zjq (q:a.run ρ (λd=>notD d Q) X):(Ex.not a).run ρ Q X:=q
def n_bl {k:Bool}(q:Q (.bl (!k))):notD (.bl k) Q:=q
def zjr (q:c.run ρ (λd=>tst d (a.run ρ Q X) (b.run ρ Q X)) X):(Ex.ifx c a b).run ρ Q X:=q
def zi7 {nt:Nat}{js:List Nat}{tg:Tg}{src:Ex}{ct:Option Ex}{elt:Ex}(q:src.run ρ (λd=>onL (z08 d) λl=>l.length<sizeLine/\z4G (z4H tg ct elt (z1G nt js ρ)) l λr=>Q (.lst r)) X):(Ex.comp nt js tg src ct elt).run ρ Q X:=q
def zhZ {l:List D}{K:List D->Prop}(q:K l):onL (z08 (.lst l)) K:=q
def zjj {l:List D}{K:List D->Prop}(q:K l):onL (z08 (.tup l)) K:=q
def e_sl {lo hi:Option Ex}(q:a.run ρ (λd=>part lo ρ (λl=>part hi ρ (λu=>slcD d l u Q) X) X) X):(Ex.sl a lo hi).run ρ Q X:=q
def zjk {lo hi:Option Ex}(q:a.run ρ (λd=>part lo ρ (λl=>part hi ρ (λu=>b.run ρ (λk=>isI k λk=>slsD d l u k Q) X) X) X) X):(Ex.sls a lo hi b).run ρ Q X:=q
def zh5 {K:Option Int->Prop}(q:K none):part none ρ K X:=q
def zh4 {K:Option Int->Prop}(q:a.run ρ (λd=>isI d λi=>K (some i)) X):part (some a) ρ K X:=q
def zhY {k:Int}{K:Int->Prop}(q:K k):isI (.int k) K:=q
def zjy {l:List D}{lo hi:Option Int}(q:Q (.lst (cutD l lo hi))):slcD (.lst l) lo hi Q:=q
def zjx {l:List D}{lo hi:Option Int}(q:Q (.tup (cutD l lo hi))):slcD (.tup l) lo hi Q:=q
def zam {A B:Prop}(h:A):tst (.bl true) A B:=⟨λ_=>h,(λz=>by cases z)⟩
def z89 {A B:Prop}(h:B):tst (.bl false) A B:=⟨(λz=>by cases z),λ_=>h⟩
def zfW {d:D}{ρ:Pu.Env}{B:Prop}(h:Safe d ρ)(q:B):Safe d ρ/\B:=⟨h,q⟩
def t_bl {k:Bool}{A B:Prop}(h:k=true->A)(h':k=false->B):tst (.bl k) A B:=⟨h,h'⟩
def z3U {p:Prop}[Decidable p]{A B:Prop}(h:p->A)(h':¬ p->B):tst (.bl (decide p)) A B:=⟨λe=>h (v4 e),λe=>h' (of_decide_eq_false e)⟩
def zfH {p:Prop}[Decidable p]{A B:Prop}(h:¬ p->A)(h':p->B):tst (.bl (!decide p)) A B:=⟨λe=>h (by simpa using e),λe=>h' (by simpa using e)⟩
def zfG {p:Prop}[Decidable p]{A B:Prop}(hp:p)(h:A):tst (.bl (decide p)) A B:=z3U (λ_=>h) λn=>(n hp).elim
def t_no {p:Prop}[Decidable p]{A B:Prop}(hp:¬ p)(h:B):tst (.bl (decide p)) A B:=z3U (λy=>(hp y).elim) λ_=>h
def zan {k:Bool}{A B:Prop}(h:tst (.bl k) B A):tst (.bl (!k)) A B:=by
 cases k
 ·exact zam (h.2 rfl)
 ·exact z89 (h.1 rfl)
def z3r {k:Bool}{A B:Prop}(e:k=true)(h:A):tst (.bl k) A B:=by rw[e]; exact zam h
def z1E {k:Bool}{A B:Prop}(e:k=false)(h:B):tst (.bl k) A B:=by rw[e]; exact z89 h
def zg1 (q:N ρ):Sm.skip.run ρ N Q X:=q
def zg3 (q:s.run ρ (λρ'=>t.run ρ' N Q X) Q X):(Sm.seq s t).run ρ N Q X:=q
def zit (q:a.run ρ (λd=>Safe d (ρ.set i .n)/\N (ρ.set i (.s d))) X):(Sm.set i a).run ρ N Q X:=q
def ziv (q:a.run ρ (λd=>zil d (ρ.set i .n)/\N (ρ.set i (.o d))) X):(Sm.own i a).run ρ N Q X:=q
def zg2 {js:List Nat}(q:a.run (vis (dem js ρ)) (λd=>N ((dem js ρ).set i (.s d))) X):(Sm.setx js i a).run ρ N Q X:=q
def s_if (q:c.run ρ (λd=>tst d (s.run ρ N Q X) (t.run ρ N Q X)) X):(Sm.ifs c s t).run ρ N Q X:=q
def ziu (q:a.run ρ Q X):(Sm.ret a).run ρ N Q X:=q
def zg4 (q:Q .non):Sm.retN.run ρ N Q X:=q
def s_ex (q:a.run ρ (λ_=>N ρ) X):(Sm.ex a).run ρ N Q X:=q
def zeq {x:Str}(q:X x):(Sm.raise x).run ρ N Q X:=q
def zg7 (q:s.run ρ N Q (λ_=>False)):(Sm.calm s).run ρ N Q X:=q
def zix {js:List Nat}{tg:Tg}(q:a.run (vis (dem js ρ)) (λd=>onL (z08 d) λl=>forL tg s N Q X l (dem js ρ)) X):(Sm.for_ js tg a s).run ρ N Q X:=q
def zeu {tg:Tg}(q:a.run ρ (λd=>onR [d] λl=>forL tg s N Q X l ρ) X):(Sm.forr [a] tg s).run ρ N Q X:=q
def zet {tg:Tg}(q:a.run ρ (λd=>b.run ρ (λd'=>onR [d,d'] λl=>forL tg s N Q X l ρ) X) X):(Sm.forr [a,b] tg s).run ρ N Q X:=q
def zg8 {l:List D}(h:ownL ρ i λl=>a.run ρ (λd=>l.length<sizeLine/\Safe d ρ/\N (ρ.set i (.o (.lst (l++[d]))))) X):(Sm.app i a).run ρ N Q X:=h
def ziA {np nn:Nat}{ds:List D}(h:ds.length=np)(q:s.run (ds.map B.s++List.replicate (nn - np) .n) (λ_=>Q .non) Q (λ_=>False)):(Fn.mkN np nn s).run ds Q X:=⟨h,q⟩
def ziB {np nn:Nat}{ds:List D}(h:ds.length=np)(q:s.run (ds.map B.s++List.replicate (nn - np) .n) (λ_=>Q .non) Q X):(Fn.mk' np nn s).run ds Q X:=⟨h,q⟩
def Sm.cut (W:Pu.Env->Prop)(h:s.run ρ W Q X)(k:∀ρ',W ρ'->t.run ρ' N Q X):(Sm.seq s t).run ρ N Q X:=s.mono ρ W (λρ'=>t.run ρ' N Q X) Q Q X X k (λ_ z=>z) (λ_ z=>z) h
def z5f {α:Type}{f:α->D}{tg:Tg}{l:List α}(I:List α->Pu.Env->Prop)(h0:I [] ρ)(hs:∀(dn:List α) (x:α) (r:List α) (ρ:Pu.Env),l=dn++x::r->I dn ρ->tg.put (f x) ρ λρ'=>s.run ρ' (λρ''=>I (dn++[x]) ρ'') Q X)(hd:∀ρ,I l ρ->N ρ):forL tg s N Q X (l.map f) ρ:=by
 have main:∀(r dn:List α) (ρ:Pu.Env),l=dn++r->I dn ρ->forL tg s N Q X (r.map f) ρ:=by
  intro r
  induction r with
  | nil=>
   intro dn ρ e h;rw[wW] at e;subst e;exact hd ρ h
  | cons x r ih=>
   intro dn ρ e h;rw[wz];exact Tg.put_mono (λρ' q=>s.mono ρ' _ _ Q Q X X (λρ'' q=>ih (dn++[x]) ρ'' (by rw[e]; simp) q) (λ_ z=>z) (λ_ z=>z) q) (hs dn x r ρ e h)
 exact main l [] ρ rfl h0
theorem z4F {α:Type}{f g:α->D}{G:D->(Option D->Prop)->Prop}{M:List D->Prop}:∀{l:List α},(∀x∈l,∀K:Option D->Prop,K (some (g x))->G (f x) K)->M (l.map g)->z4G G (l.map f) M
 | [],_,q=>q
 | x::r,h,q=>h x wt _ (z4F (l:=r) (λy hy=>h y (wj _ hy)) q)
theorem z7Q {α β:Type}{f:α->D}{g:β->D}{P:α->β->Prop}{G:D->(Option D->Prop)->Prop}:∀{l:List α}{M:List D->Prop},(∀x∈l,∀K:Option D->Prop,(∀y,P x y->K (some (g y)))->G (f x) K)->(∀ys:List β,ys.length=l.length->(∀y∈ys,∃x∈l,P x y)->M (ys.map g))->z4G G (l.map f) M
 | [],_,_,q=>q [] rfl (λ_ z=>by simp at z)
 | x::r,M,h,q=>h x wt _ λy hy=>z7Q (l:=r) (M:=λt=>M ((some (g y)).toList++t)) (λz hz=>h z (wj _ hz)) λys hl ha=>q (y::ys) (by simp[hl]) λz hz=>by
  rcases wx.mp hz with rfl | hz
  ·exact⟨x,wt,hy⟩
  ·obtain⟨w,hw,hp⟩:=ha z hz;exact⟨w,wj _ hw,hp⟩
def zjw {k:Nat}{elt:Ex}{x:D}{K:Option D->Prop}(q:elt.run (ρ.set k (.s x)) (λd=>K (some d)) (λ_=>False)):z4H (.nm k) none elt ρ x K:=q
def zie {k:Nat}{elt:Ex}{x:D}{K:Option D->Prop}(q:c.run (ρ.set k (.s x)) (λb=>tst b (elt.run (ρ.set k (.s x)) (λd=>K (some d)) (λ_=>False)) (K none)) (λ_=>False)):z4H (.nm k) (some c) elt ρ x K:=q
variable {m n:Int}
def zjf (q:Q (.int (m+n))):pAdd.run [.int m,.int n] Q X:=q
def zj6 (q:Q (.int (m - n))):pSub.run [.int m,.int n] Q X:=q
def zj9 (h:zfz m n)(q:Q (.int (m*n))):z4q.run [.int m,.int n] Q X:=⟨h,q⟩
def zj8 (q:Q (.int (-m))):pNeg.run [.int m] Q X:=q
def zhG (h:0<n)(hb:Bt 9000 n)(q:Q (.int (m / n))):z5y.run [.int m,.int n] Q X:=⟨⟨by lia,hb⟩,by rw[Int.fdiv_eq_ediv_of_nonneg m (by lia)]; exact q⟩
def zhq (h:0<n)(q:Q (.int (m % n))):pMod.run [.int m,.int n] Q X:=⟨by lia,by rw[Int.fmod_eq_emod_of_nonneg m (by lia)]; exact q⟩
def zj7 (h:CPow m n)(q:Q (.int (m ^ n.toNat))):pPow.run [.int m,.int n] Q X:=⟨h,q⟩
def o_lt (q:Q (.bl (decide (m<n)))):pLt.run [.int m,.int n] Q X:=q
def o_le (q:Q (.bl (decide (m<=n)))):pLe.run [.int m,.int n] Q X:=q
def o_gt (q:Q (.bl (decide (n<m)))):pGt.run [.int m,.int n] Q X:=q
def o_ge (q:Q (.bl (decide (n<=m)))):pGeI.run [.int m,.int n] Q X:=q
def o_eq (q:Q (.bl (decide (m=n)))):pEq.run [.int m,.int n] Q X:=q
def o_ne (q:Q (.bl (!decide (m=n)))):pNe.run [.int m,.int n] Q X:=q
def o_is (q:Q (.bl (isN d))):pIs.run [d,.non] Q X:=q
def zfl (q:Q (.bl (!isN d))):zh7.run [d,.non] Q X:=q
def zhx {l:List D}(q:Q (.int (l.length:Int))):pLen.run [.lst l] Q X:=q
def zhv {l:List D}(q:Q (.int (l.length:Int))):pLen.run [.tup l] Q X:=q
def zjc {l:List D}(q:onV (atI l m) Q):pIx.run [.lst l,.int m] Q X:=q
def zjb {l:List D}(q:onV (atI l m) Q):pIx.run [.tup l,.int m] Q X:=q
def zj5 {ds:List D}(h:ds.length<=sizeLine)(q:Q (.tup ds)):pTup.run ds Q X:=⟨h,q⟩
def zja {ds:List D}(h:ds.length<=sizeLine)(q:Q (.lst ds)):pLst.run ds Q X:=⟨h,q⟩
def zho {l:List D}(q:Q (.tup l)):z2r.run [.lst l] Q X:=q
def zhn {l:List D}(q:Q (.tup l)):z2r.run [.tup l] Q X:=q
def zhu {l:List D}(q:Q (.lst l)):z7w.run [.lst l] Q X:=q
def zht {l:List D}(q:Q (.lst l)):z7w.run [.tup l] Q X:=q
def zjg (q:Q (.int (if m<0 then -m else m))):pAbs.run [.int m] Q X:=q
def zhE (q:Q (.int m)):pInt.run [.int m] Q X:=q
def zhF {k:Bool}(q:Q (.int (if k then 1 else 0))):pInt.run [.bl k] Q X:=q
def zhC {T:String}(q:Q (.bl (T == "int"))):(pIsi T).run [.int m] Q X:=q
def zhD {T:String}{k:Bool}(q:Q (.bl (T == "int" || T == "bool"))):(pIsi T).run [.bl k] Q X:=q
def zhy {T:String}{l:List D}(q:Q (.bl (T == "tuple"))):(pIsi T).run [.tup l] Q X:=q
def zhB {T:String}{l:List D}(q:Q (.bl (T == "list"))):(pIsi T).run [.lst l] Q X:=q
def zhz {T:String}{x:Str}(q:Q (.bl (T == "str"))):(pIsi T).run [.str x] Q X:=q
def zhA {T:String}(q:Q (.bl false)):(pIsi T).run [.non] Q X:=q
def zhs (q:Q (.int (if n > m then n else m))):zbg.run [.int m,.int n] Q X:=q
def zhr (q:Q (.int (if n<m then n else m))):ziY.run [.int m,.int n] Q X:=q
def zbp {l r:List D}(h:l.length+r.length<=sizeLine)(q:Q (.lst (l++r))):pAdd.run [.lst l,.lst r] Q X:=⟨h,q⟩
def zhH {l r:List D}(h:l.length+r.length<=sizeLine)(q:Q (.tup (l++r))):pAdd.run [.tup l,.tup r] Q X:=⟨h,q⟩
end
theorem Safe.of_noL {d:D}(h1:noL d=true)(h2:noD d=true):∀ρ:Pu.Env,Safe d ρ
 | []=>trivial
 | .n::r=>⟨trivial,Safe.of_noL h1 h2 r⟩
 | .s _::r=>⟨trivial,Safe.of_noL h1 h2 r⟩
 | .o x::r=>⟨by cases x <;> first | exact h1 | exact h2 | trivial,Safe.of_noL h1 h2 r⟩
abbrev vec (p:Int × Int):D :=.tup [.int p.1,.int p.2]
theorem z9e:∀{l:List D},(∀d∈l,noL d=true)->noLs l=true
 | [],_=>rfl
 | d::r,h=>by rw[noLs,h d wt,z9e λx hx=>h x (wj _ hx)]; rfl
theorem z9g:∀{l:List D},(∀d∈l,noD d=true)->noDs l=true
 | [],_=>rfl
 | d::r,h=>by rw[noDs,h d wt,z9g λx hx=>h x (wj _ hx)]; rfl
abbrev vecs (l:List (Int × Int)):D :=.tup (l.map vec)
def z9f (l:List (Int × Int)):noL (vecs l)=true:=by
 show noLs (l.map vec)=true;refine z9e λd hd =>?_;obtain⟨p,_,rfl⟩:=vq.mp hd
 rfl
def z9h (l:List (Int × Int)):noD (vecs l)=true:=by
 show noDs (l.map vec)=true;refine z9g λd hd =>?_;obtain⟨p,_,rfl⟩:=vq.mp hd
 rfl
end Pu
namespace L2
open PySem PySem.Spec PyProof.Rows
section
variable {X:Cx}{k:Nat}{ps:List Str}{sp:Sp}{x g cx n:Str}{e:Expr}{es:List Expr}{ta:TA}{C2:Addr}{b0:Stmt}{suite:List Stmt}{ts:TS}{p1 p2 p3 p4 p5 p6 pos:Pos}{j:Nat}
def zej {pins:List (Addr × Obj)}{σ:St}{H1:Hp}{s1 s':Shared}{ev:Value}{D:Ends}{Q:Flow->Shared->Prop}{E':Value->Shared->Prop}(I1:Inv X pins σ H1 s1)(hst:X.stack=X.env::X.outer/\X.env.frame=some X.env.locals)
  (hN:X.N.Nodup) (hi:X.N[j]? = some n) (hk:X.env.scope.names.lookup n=some .local)
  (T:Exc X.K X.mg cx C2) (hgc:Gl X cx) (hs:∀ea,QSs (X.suite ea) (b0::suite) ts) (hx:CXe X.prog X.w X.stack H1 s1 (λCv _ H2=>PySem.W.exmOne X.K Cv (.ref C2)=some true/\∃C,Cv = .ref C/\∀ea H3,H2 ea=none->Same H2 H3->H3 ea=some (.ext (z3v ea C))->ts (D.less j) (σ.set j (some (.ref ea))) H3) ev s')
  (hQ:∀f s2,SP X pins D f s2->Q f s2) (hdb:(cx == ("__debug__":Str))=false):
  wpAny (model X.prog X.w) X.A (noteFrame ev X.env) (λ_ s2=>wpAny (model X.prog X.w) X.A (setFlight ev none) (λ_ s3=>wpAny (model X.prog X.w) X.A (handleBy ev X.env (.ExceptHandler (some (.Name cx p5)) (some n) (b0::suite) p6::[])) Q E' s3) E' s2) E' s':=by
 obtain⟨ea,t,Cv,H2,B,rfl,F,hb,ho,hm,C,rfl,q⟩:=hx;have F':=F.fl;rw[hst.1] at F';refine wpAny_looks_onW (by rw[I1.ok.frames,hst.1]) hst.2 F' λh4 held4 sm4 =>?_;refine wpAny_landsW held4 λh5 fl5 sm5 =>?_;obtain⟨un5,hok5⟩:=F.on fl5.1 (sm4.trans sm5);have I5:Inv X pins σ H2 { s' with heap:=h5 }:=I1.call' (s':={ s' with heap:=h5 }) ho un5 hok5 hb (λb z=>by simp at z);refine wpAny_handleBy_cons (codeAny_handlers_test ?_) (by intro z; cases z);refine z4S (X:=X.suite ea) I5.suite hgc T.nm ?_ hdb;obtain⟨ob,hob,hobc⟩:=fl5.there;have LT:PySem.W.Looks (model X.prog X.w) h5 (typeOf (.ref ea)) (.ref C):=by
  rw[<- hobc];exact(PySem.W.Looks.ld hob).andThen .now
 refine(PySem.W.exm_one I5.kIn LT hm) _ _ _ _ (λ_ _ z=>z) ?_;show codeAny _ _ _ _ _;refine codeAny_handlers_suite_as ?_;refine lands_againW fl5 λh6 fl6 sm6 =>?_;have F5:Fly X.prog X.w X.stack H1 s1.heap (.ref C) H2 ea t B h5:=⟨hst.1 ▸ fl5,un5,hok5,F.trk,F.kep⟩
 obtain⟨un6,hok6⟩:=F5.on fl6.1 sm6;obtain⟨oe,ws,hoe,hoec,hoed,_⟩:=fl6.first;have hxe:z3v ea C h6:=⟨oe,hoe,hoec,ws,hoed⟩
 have I6:Inv X pins σ (upd H2 ea (.ext (z3v ea C))) { s' with heap:=h6 }:=I1.call' (s':={ s' with heap:=h6 }) ho (zeh un6 F.out F.free) (zdi hok6 F.free hxe) hb (λb z=>by simp at z);refine z6E (X:=X.suite ea) I6.suite hN hi (.inl hk) (v :=.ref ea) rfl (λs7 I7 =>?_) (.inr hk);refine wK ((hs ea).p pins _ _ _ (D.less j) I7 (q ea _ F.free (zcu F.free) z09)) (λf s8 z =>?_) λ_ _ z=>z.elim;have z:=z.unsuite I1.ok;show wpAny _ _ _ (λ_ s3=>Q f s3) E' s8
 cases f with
 | next=>obtain⟨σ',H',I,q⟩:=z; exact z71 I hN hi hk λs9 I9=>hQ _ _ ⟨_,_,I9,q⟩
 | brk=>obtain⟨σ',H',I,q⟩:=z; exact z71 I hN hi hk λs9 I9=>hQ _ _ ⟨_,_,I9,q⟩
 | cont=>obtain⟨σ',H',I,q⟩:=z; exact z71 I hN hi hk λs9 I9=>hQ _ _ ⟨_,_,I9,q⟩
 | ret u=>obtain⟨v,σ',H',I,r,q⟩:=z; exact z71 I hN hi hk λs9 I9=>hQ _ _ ⟨_,_,_,I9,r,q⟩
end
end L2
namespace Pu
open PySem PySem.Spec PyProof.Rows L2
def XT (mg:Str->Option Value)(xs:List Str)(P:Str->Addr->Prop):Prop:=∀x C,x∈xs->mg x=some (.ref C)->P x C
def z3w {mg:Str->Option Value}{P:Str->Addr->Prop}:XT mg [] P:=λ_ _ h=>by cases h
def z0X {mg:Str->Option Value}{P:Str->Addr->Prop}{x:Str}{C:Addr}{xs:List Str}(h:mg x=some (.ref C))(p:P x C)(r:XT mg xs P):XT mg (x::xs) P:=λy C' hy e=>by
 rcases wx.mp hy with z | z
 ·subst z;rw[h] at e
  cases e
  exact p
 ·exact r y C' z e
section
variable {K:W.Frag}{mg:Str->Option Value}{H0 G0 G H:Hp}{ρ:Pu.Env}{σ:L2.St}
def AbS.del (h:AbS K mg H0 G0 G ρ σ H)(i:Nat):AbS K mg H0 G0 G (ρ.set i .n) (σ.set i none) H:=by
 have old:∀{k:Nat}{b:B},b ≠ .n->(ρ.set i .n)[k]? = some b->k≠i/\ρ[k]? = some b:=λ{k b} hb z=>by
  by_cases hk:k=i
  ·subst hk
   rcases Nat.lt_or_ge k ρ.length with l | l
   ·rw[wk l] at z; cases z; exact(hb rfl).elim
   ·rw[List.getElem?_eq_none (by simpa using l)] at z; cases z
  ·rw[we (wU hk)] at z; exact⟨hk,z⟩
 refine⟨by simp[h.len],h.s0,h.g0,h.g,h.nw,λk e z =>?_,λk e z =>?_,λk l e e' b hkl z z' s s' =>?_⟩
 ·obtain⟨hk,z⟩:=old (by intro y; cases y) z;obtain⟨v,h1,h2⟩:=h.sh k e z;exact⟨v,by rw[we (wU hk)]; exact h1,h2⟩
 ·obtain⟨hk,z⟩:=old (by intro y; cases y) z;obtain⟨a,h1,h2⟩:=h.ow k e z;exact⟨a,by rw[we (wU hk)]; exact h1,h2⟩
 ·obtain⟨hk,z⟩:=old (by intro y; cases y) z;obtain⟨hl,z'⟩:=old (by intro y; cases y) z';rw[we (wU hk)] at s;rw[we (wU hl)] at s';exact h.ne k l e e' b hkl z z' s s'
end
section
variable {X:Cx}{E:XK}{k:Nat}{ps:List Str}{F:Fn}{g cx n:Str}{e:Expr}{es:List Expr}{ys:List Ex}{C2:Addr}{b0:Stmt}{suite:List Stmt}{t:Sm}{p2 p3 p4 p5 p6 pos:Pos}{j:Nat}{xs:List Str}
def gIsx (xs:List Str)(f:Str->Bool)(d:D)(Q:DK):Prop:=match d with
 | .exc x=>x∈xs/\Q (.bl (f x))
 | _=>False
def zbK {xs:List Str}{f:Str->Bool}(d:D)(Q Q':DK)(m:∀d,Q d->Q' d)(h:gIsx xs f d Q):gIsx xs f d Q':=by
 cases d with
 | exc x=>exact⟨h.1,m _ h.2⟩
 | _=>exact h.elim
def pIsx (xs:List Str)(f:Str->Bool):Fn:=fn1 (gIsx xs f) zbK
def zbJ {xs:List Str}{f:Str->Bool}{d:D}{Q:DK}(h:gIsx xs f d Q):∃x,d = .exc x/\x∈xs/\Q (.bl (f x)):=by
 cases d with
 | exc x=>exact⟨x,rfl,h⟩
 | _=>exact h.elim
def clsV (K:W.Frag)(C:Addr)(b:Bool)(y:V)(H:Hp):Prop:=(∃C2,y = .ref C2/\PySem.W.kitOne K (.ref C) (.ref C2)=some b)\/(∃T,y = .ty T/\PySem.W.kitOne K (.ref C) (.type T)=some b)\/(∃(tp:Addr) (cs:List Addr),y = .ref tp/\SqT K H tp (cs.map V.ref)/\PySem.W.kitAny K (.ref C) (cs.map Value.ref)=some b)
def zaR {f:Str->Bool}{t:Expr}{x:Ex}{tc:TE}{pp:Pos}(hg:Gl X "isinstance")(hmg:X.mg "isinstance"=none)(hx:QX X E e x)(ht:QE X t tc)
  (h:∀σ H Q,(∀y H',Same H H'->(XT X.mg xs λz C=>clsV X.K C (f z) y H')->Q y H')->tc σ H Q) (hl:XT X.mg xs λ_ C=>z22 X.K C=true)
  (hs1:starEach [e,t] X.env=(false,eval e X.env)::starEach [t] X.env:=by rfl) (hs2:starEach [t] X.env=(false,eval t X.env)::starEach [] X.env:=by rfl) (hpl:(backTo pos (starEach [t] X.env)).any (·.1)=false:=by rfl)
  (hv:bootBuiltins "isinstance"=some (.builtin "isinstance"):=by rfl) (hn:("isinstance":Str)≠"__name__":=by decide) (hdb:(("isinstance":Str) == ("__debug__":Str))=false:=by decide):QX X E (.Call (.Name "isinstance" pp) [e,t] [] pos) (.op (pIsx xs f) [x]):=
 QE.imp (z5d zcc hg hmg hv (z46 hx (z46 ht z7s hs2) hs1) hn hdb hs1 hpl) λσ H Q ⟨G,ρ,Q0,X0,hs,ab,hr,hk,hx⟩=>by
  refine⟨G,ρ,_,X0,hs,ab,hr,λd v G1 H1 q g1 g2 g3 rd =>?_,hx⟩;obtain⟨z,rfl,hz,q⟩:=zbJ q;rw[RD] at rd;obtain⟨ea,C,rfl,h1,h2⟩:=rd;refine h σ H1 _ λy H' s' hc =>?_;refine⟨ea,C,y,f z,rfl,s' _ _ (g2 _ _ h1),hl z C hz h2,hc z C hz h2,?_⟩;exact hk (.bl (f z)) (.bl (f z)) G1 H' q g1 (z06 g2 s') (z06 g3 s') RD.bl'
def z8f {f:Str->Bool}{c:Str}{C2:Addr}{x:Ex}{pp p1:Pos}(hg:Gl X "isinstance")(hmg:X.mg "isinstance"=none)(hx:QX X E e x)(hgc:Gl X c)(T:Exc X.K X.mg c C2)(hd:(c == ("__debug__":Str))=false)(hl:XT X.mg xs λ_ C=>z22 X.K C=true)(hc:XT X.mg xs λz C=>PySem.W.kitOne X.K (.ref C) (.ref C2)=some (f z))
  (hs1:starEach [e,.Name c p1] X.env=(false,eval e X.env)::starEach [.Name c p1] X.env:=by rfl) (hs2:starEach [.Name c p1] X.env=(false,eval (.Name c p1) X.env)::starEach [] X.env:=by rfl) (hpl:(backTo pos (starEach [.Name c p1] X.env)).any (·.1)=false:=by rfl):
  QX X E (.Call (.Name "isinstance" pp) [e,.Name c p1] [] pos) (.op (pIsx xs f) [x]):=
 zaR hg hmg hx (zb5 (v :=.ref C2) hgc T.nm rfl hd) (λσ H Q q=>q (.ref C2) H Same.refl' λz C hz e =>.inl ⟨C2,rfl,hc z C hz e⟩) hl hs1 hs2 hpl
def zeF {f:Str->Bool}{c:Str}{T:String}{x:Ex}{pp p1:Pos}(hg:Gl X "isinstance")(hmg:X.mg "isinstance"=none)(hx:QX X E e x)(ht:QE X (.Name c p1) (tC (.ty T)))(hl:XT X.mg xs λ_ C=>z22 X.K C=true)(hc:XT X.mg xs λz C=>PySem.W.kitOne X.K (.ref C) (.type T)=some (f z))
  (hs1:starEach [e,.Name c p1] X.env=(false,eval e X.env)::starEach [.Name c p1] X.env:=by rfl) (hs2:starEach [.Name c p1] X.env=(false,eval (.Name c p1) X.env)::starEach [] X.env:=by rfl) (hpl:(backTo pos (starEach [.Name c p1] X.env)).any (·.1)=false:=by rfl):
  QX X E (.Call (.Name "isinstance" pp) [e,.Name c p1] [] pos) (.op (pIsx xs f) [x]):=
 zaR hg hmg hx ht (λσ H Q q=>q (.ty T) H Same.refl' λz C hz e =>.inr (.inl ⟨T,rfl,hc z C hz e⟩)) hl hs1 hs2 hpl
def zco (cs:List Addr):TA:=λ_ H Q=>Q (cs.map V.ref) H
def zeV:QA X [] (zco []):=QA.imp z7s λ_ _ _ q=>q
def z6P {c:Str}{C2:Addr}{cs:List Addr}{es:List Expr}{p1:Pos}(hgc:Gl X c)(T:Exc X.K X.mg c C2)(hd:(c == ("__debug__":Str))=false)(r:QA X es (zco cs))(hs:starEach (.Name c p1::es) X.env=(false,eval (.Name c p1) X.env)::starEach es X.env:=by rfl):QA X (.Name c p1::es) (zco (C2::cs)):=
 QA.imp (z46 (zb5 (v :=.ref C2) hgc T.nm rfl hd) r hs) λ_ _ _ q=>q
def zeG {f:Str->Bool}{cs:List Addr}{tes:List Expr}{x:Ex}{pp p1:Pos}{x1}(hg:Gl X "isinstance")(hmg:X.mg "isinstance"=none)(hx:QX X E e x)(ht:QA X tes (zco cs))(hz:cs.length<=sizeLine)(hl:XT X.mg xs λ_ C=>z22 X.K C=true)(hc:XT X.mg xs λz C=>PySem.W.kitAny X.K (.ref C) (cs.map Value.ref)=some (f z))
  (hs1:starEach [e,.Tuple tes x1 p1] X.env=(false,eval e X.env)::starEach [.Tuple tes x1 p1] X.env:=by rfl) (hs2:starEach [.Tuple tes x1 p1] X.env=(false,eval (.Tuple tes x1 p1) X.env)::starEach [] X.env:=by rfl) (hpl:(backTo pos (starEach [.Tuple tes x1 p1] X.env)).any (·.1)=false:=by rfl):
  QX X E (.Call (.Name "isinstance" pp) [e,.Tuple tes x1 p1] [] pos) (.op (pIsx xs f) [x]):=
 zaR hg hmg hx (zeS ht) (λσ H Q q=>by
  refine⟨by rw[wA]; exact hz,λp H' s' e'=>q _ _ s' λz C hz e =>.inr (.inr ⟨p,cs,rfl,SqT.of e',hc z C hz e⟩)⟩) hl hs1 hs2 hpl
def zaQ {i:Nat}{x:Str}{y:Ex}{p1:Pos}(hN:X.N.Nodup)(hi:X.N[i]? = some x)(hx:Loc X.env.scope x)(he:QX X E e y)(hs:swapsWith e (some (.Name x p1)) pos.line X.env=pure false:=by rfl)(hf:X.fn x=true\/X.env.scope.names.lookup x=some .local:=by first | exact .inl rfl | exact .inr rfl):QZ X E (.Assign [.Name x p1] e pos) (.set i y):=
 z0H (zdN hN hi hx he hs hf)
end
abbrev Wd:=Addr->Option D
def OwnL (K:W.Frag)(mg:Str->Option Value)(G H:Hp):List Addr->List D->Prop
 | [],[]=>True
 | a::as,c::cs=>z3u K mg G H a c/\OwnL K mg G H as cs
 | _,_=>False
def Pr (d:D):Prop:=noL d=true/\noD d=true
def Pc:D->Prop
 | .lst l=>∀d∈l,Pr d
 | .dct ks vs=>∀d∈vs,Pr d
 | _=>False
def z82 (K:W.Frag)(mg:Str->Option Value)(G H:Hp)(p:Addr)(as:List Addr):D->Prop
 | .ins n fs cs=>(∃C dx,H p=some (.ins C dx (fs.zip (as.map V.ref)))/\mg n=some (.ref C))/\OwnL K mg G H as cs/\∀c∈cs,Pc c
 | _=>False
def Foot (W:Wd)(A:Addr->List Addr)(a:Addr):Prop:=∃p c,W p=some c/\a∈p::A p
structure StO (K:W.Frag)(mg:Str->Option Value)(G H:Hp)(W:Wd)(A:Addr->List Addr):Prop where
 at_:∀p c,W p=some c->z82 K mg G H p (A p) c
 nd:∀p c,W p=some c->(p::A p).Nodup
 dj:∀p q c c' a,W p=some c->W q=some c'->a∈p::A p->a∈q::A q->p=q
 out:∀a,Foot W A a->G a=none
structure AbR (K:W.Frag)(mg:Str->Option Value)(H0 G0 G:Hp)(ρ:Pu.Env)(σ:L2.St)(H:Hp)(W:Wd)(A:Addr->List Addr):Prop where
 ab:AbS K mg H0 G0 G ρ σ H
 st:StO K mg G H W A
 no:∀a,Foot W A a->H0 a=none/\¬ z13 ρ σ a
def Mu:HO->Prop
 | .lst _=>True
 | .dK _=>True
 | .dT _=>True
 | .ins _ _ _=>True
 | _=>False
section
variable {K:W.Frag}{mg:Str->Option Value}{H0 G0 G G' H H' H1:Hp}{ρ:Pu.Env}{σ:L2.St}{W W':Wd}{A A':Addr->List Addr}{O:Addr->Prop}
def zau {a:Addr}{o:HO}(hO:∀a o,O a->G a=some o->Mu o)(h:G a=some o)(n:¬ Mu o):minus G O a=some o:=by
 rw[z2l λz=>n (hO a o z h)]; exact h
mutual
theorem RD.strip (hO:∀a o,O a->G a=some o->Mu o):∀(d:D) {v:V},noL d=true->noD d=true->RD K mg G d v->RD K mg (Pu.minus G O) d v
 | .non,_,_,_,h=>by simpa[RD] using h
 | .bl _,_,_,_,h=>by simpa[RD] using h
 | .int _,_,_,_,h=>by simpa[RD] using h
 | .str _,_,_,_,h=>by simpa[RD] using h
 | .fn _,_,_,_,h=>by rw[RD] at h ⊢; exact h
 | .ptr _,_,_,_,h=>by rw[RD] at h ⊢; exact h
 | .ins _ _ _,_,h,_,_=>by rw[noL] at h; cases h
 | .fz _ _,_,h,_,_=>by rw[noL] at h; cases h
 | .lst _,_,h,_,_=>by rw[noL] at h; cases h
 | .dct _ _,_,_,h,_=>by rw[noD] at h; cases h
 | .exc _,_,_,_,h=>by
  rw[RD] at h ⊢;obtain⟨ea,C,h1,h2,h3⟩:=h;exact⟨ea,C,h1,zau hO h2 id,h3⟩
 | .tup ds,_,nl,nd,h=>by
  rw[RD] at h ⊢;obtain⟨a,xs,h1,h2,h3⟩:=h;rw[noL] at nl;rw[noD] at nd;refine⟨a,xs,h1,?_,RDs.strip hO ds nl nd h3⟩
  rcases h2 with (h2 | ⟨o,h2⟩) | h2
  ·exact .inl (.inl (zau hO h2 id))
  ·exact .inl (.inr ⟨o,zau hO h2 id⟩)
  ·exact .inr h2
theorem RDs.strip (hO:∀a o,O a->G a=some o->Mu o):∀(ds:List D) {xs:List V},noLs ds=true->noDs ds=true->RDs K mg G ds xs->RDs K mg (Pu.minus G O) ds xs
 | [],_,_,_,h=>by simpa[RDs] using h
 | d::ds,_,nl,nd,h=>by
  rw[RDs] at h ⊢;obtain⟨x,r,h1,h2,h3⟩:=h;rw[noLs,wM] at nl;rw[noDs,wM] at nd;exact⟨x,r,h1,RD.strip hO d nl.1 nd.1 h2,RDs.strip hO ds nl.2 nd.2 h3⟩
end
theorem RDs.stripA (hO:∀a o,O a->G a=some o->Mu o):∀(ds:List D) {xs:List V},(∀d∈ds,Pr d)->RDs K mg G ds xs->RDs K mg (Pu.minus G O) ds xs
 | [],_,_,h=>by simpa[RDs] using h
 | d::ds,_,n,h=>by
  rw[RDs] at h ⊢;obtain⟨x,r,h1,h2,h3⟩:=h;have:=n d wt;exact⟨x,r,h1,RD.strip hO d this.1 this.2 h2,RDs.stripA hO ds (λe he=>n e (wj _ he)) h3⟩
theorem OwnL.same (g:Same G G'):∀{as:List Addr}{cs:List D},OwnL K mg G H as cs->(∀a∈as,∀o,H a=some o->H' a=some o)->OwnL K mg G' H' as cs
 | [],[],_,_=>trivial
 | a::as,c::cs,h,k=>⟨h.1.same g (k a wt),OwnL.same g h.2 λb hb=>k b (wj _ hb)⟩
 | [],_::_,h,_=>h.elim
 | _::_,[],h,_=>h.elim
theorem OwnL.get:∀{as:List Addr}{cs:List D}{i:Nat}{c:D},OwnL K mg G H as cs->cs[i]? = some c->∃a,as[i]? = some a/\z3u K mg G H a c
 | _::_,_::_,0,_,h,e=>by cases e; exact⟨_,rfl,h.1⟩
 | _::_,_::_,i+1,_,h,e=>OwnL.get (i:=i) h.2 e
 | [],[],_,_,_,e=>by simp at e
 | [],_::_,_,_,h,_=>h.elim
 | _::_,[],_,_,h,_=>h.elim
theorem OwnL.exO:∀{as:List Addr}{cs:List D}{a:Addr},OwnL K mg G H as cs->a∈as->∃o,H a=some o/\Mu o
 | a::as,c::cs,b,h,hb=>by
  rcases wx.mp hb with z | z
  ·subst z;have h1:=h.1
   cases c with
   | lst ds=>obtain⟨xs,h1,h2⟩:=h1; exact⟨_,h1,trivial⟩
   | dct ks vs=>
    obtain⟨xs,_,h2⟩:=h1
    rcases h2 with ⟨kvs,q,r⟩ | ⟨kvs,q,r⟩ <;> exact⟨_,q,trivial⟩
   | _=>exact h1.elim
  ·exact OwnL.exO h.2 z
 | [],[],_,_,hb=>by cases hb
 | [],_::_,_,h,_=>h.elim
 | _::_,[],_,h,_=>h.elim
theorem OwnL.rds (g:Same G G'):∀{as:List Addr}{cs:List D},OwnL K mg G H as cs->(∀a∈as,G' a=H a)->RDs K mg G' cs (as.map V.ref)
 | [],[],_,_=>RDs.nil
 | a::as,c::cs,h,k=>RDs.cons (h.1.rd g (k a wt)) (OwnL.rds g h.2 λb hb=>k b (wj _ hb))
 | [],_::_,h,_=>h.elim
 | _::_,[],h,_=>h.elim
theorem z82.exO {p a:Addr}{as:List Addr}{c:D}(h:z82 K mg G H p as c)(ha:a∈p::as):∃o,H a=some o/\Mu o:=by
 cases c with
 | ins n fs cs=>
  obtain⟨⟨C,dx,h1,h2⟩,h3,h4⟩:=h
  rcases wx.mp ha with z | z
  ·subst z; exact⟨_,h1,trivial⟩
  ·exact h3.exO z
 | _=>exact h.elim
theorem z82.same {p:Addr}{as:List Addr}{c:D}(h:z82 K mg G H p as c)(g:Same G G')(k:∀a∈p::as,∀o,H a=some o->H' a=some o):z82 K mg G' H' p as c:=by
 cases c with
 | ins n fs cs=>
  obtain⟨⟨C,dx,h1,h2⟩,h3,h4⟩:=h;exact⟨⟨C,dx,k p wt _ h1,h2⟩,h3.same g (λa ha=>k a (wj _ ha)),h4⟩
 | _=>exact h.elim
def z82.rd {p:Addr}{as:List Addr}{c:D}(h:z82 K mg G H p as c)(g:Same G G')(k:∀a∈p::as,G' a=H a):RD K mg G' c (.ref p):=by
 cases c with
 | ins n fs cs=>
  obtain⟨⟨C,dx,h1,h2⟩,h3,h4⟩:=h;rw[RD];exact⟨p,C,dx,as.map V.ref,rfl,(k p wt).trans h1,h2,h3.rds g λa ha=>k a (wj _ ha)⟩
 | _=>exact h.elim
theorem StO.exO {a:Addr}(h:StO K mg G H W A)(ha:Foot W A a):∃o,H a=some o/\Mu o:=by
 obtain⟨p,c,e,ha⟩:=ha;exact(h.at_ p c e).exO ha
theorem StO.same (h:StO K mg G H W A)(g:Same G G')(k:∀a,Foot W A a->∀o,H a=some o->H' a=some o)(n:∀a,Foot W A a->G' a=none):StO K mg G' H' W A:=
 ⟨λp c e=>(h.at_ p c e).same g λa ha=>k a ⟨p,c,e,ha⟩,h.nd,h.dj,n⟩
def AbS.weak {H0':Hp}(h:AbS K mg H0 G0 G ρ σ H)(k:Same H0' H0):AbS K mg H0' G0 G ρ σ H where
 len:=h.len
 s0:=z06 k h.s0
 g0:=h.g0
 g:=h.g
 nw:=λa o e=>by
  rcases h.nw a o e with z | z
  ·exact .inl z
  ·exact .inr (z0x k z)
 sh:=h.sh
 ow:=λi d e=>by
  obtain⟨a,h1,h2,h3,h4⟩:=h.ow i d e;exact⟨a,h1,h2,z0x k h3,h4⟩
 ne:=h.ne
def AbS.backO {G1:Hp}(ab:AbS K mg H0 G0 G ρ σ H)(ho:∀a,O a->G a=none)(hO:∀a,z13 ρ σ a->O a)(g1:Gr (plus G H O) H G1)(g2:Same G1 H1)(g3:Same H H1):AbS K mg H0 G0 (minus G1 O) ρ σ H1/\Same G (minus G1 O):=by
 have lm:Same G (minus G1 O):=z2t (z06 (z2a ho) g1.1) ho;refine⟨⟨ab.len,z06 ab.s0 g3,z06 ab.g0 lm,z06 z1i g2,λa o e =>?_,λi d e =>?_,λi d e =>?_,ab.ne⟩,lm⟩
 ·have na:¬ O a:=λz=>by rw[z20 z] at e; cases e
  rcases g1.2 a o (z1i a o e) with ⟨u,q⟩ | q
  ·unfold plus at q; rw[if_neg na] at q; exact ab.nw a u q
  ·exact .inr (z0x ab.s0 q)
 ·obtain⟨v,h1,h2⟩:=ab.sh i d e;exact⟨v,h1,h2.same lm⟩
 ·obtain⟨a,h1,h2,h3,h4⟩:=ab.ow i d e;exact⟨a,h1,z20 (hO a ⟨i,d,e,h1⟩),h3,h4.same lm (g3 a)⟩
def Hid (ρ:Pu.Env)(σ:L2.St)(W:Wd)(A:Addr->List Addr)(a:Addr):Prop:=z13 ρ σ a\/Foot W A a
def AbS.ownMu (h:AbS K mg H0 G0 G ρ σ H){a:Addr}(ha:z13 ρ σ a):∃o,H a=some o/\Mu o:=by
 obtain⟨i,d,e,s⟩:=ha;obtain⟨b,h1,h2,h3,h4⟩:=h.ow i d e;rw[s] at h1; cases h1
 cases d with
 | lst ds=>obtain⟨xs,h5,h6⟩:=h4; exact⟨_,h5,trivial⟩
 | dct ks vs=>
  obtain⟨xs,_,h6⟩:=h4
  rcases h6 with ⟨kvs,q,r⟩ | ⟨kvs,q,r⟩ <;> exact⟨_,q,trivial⟩
 | _=>exact h4.elim
def AbR.hid (h:AbR K mg H0 G0 G ρ σ H W A){a:Addr}(ha:Hid ρ σ W A a):G a=none/\∃o,H a=some o/\Mu o:=by
 rcases ha with z | z
 ·exact⟨h.ab.free a z,h.ab.ownMu z⟩
 ·exact⟨h.st.out a z,h.st.exO z⟩
def AbR.mu {G1:Hp}(h:AbR K mg H0 G0 G ρ σ H W A)(g2:Same G1 H1)(g3:Same H H1):∀a o,Hid ρ σ W A a->G1 a=some o->Mu o:=λa o ha e=>by
 obtain⟨_,u,hu,m⟩:=h.hid ha;have e1:=g2 a o e;rw[g3 a u hu] at e1
 cases e1; exact m
def AbR.back {G1:Hp}(h:AbR K mg H0 G0 G ρ σ H W A)(g1:Gr (plus G H (Hid ρ σ W A)) H G1)(g2:Same G1 H1)(g3:Same H H1):AbR K mg H0 G0 (minus G1 (Hid ρ σ W A)) ρ σ H1 W A/\Same G (minus G1 (Hid ρ σ W A)):=by
 obtain⟨ab',lm⟩:=h.ab.backO (λa z=>(h.hid z).1) (λa z =>.inl z) g1 g2 g3;exact⟨⟨ab',h.st.same lm (λa _=>g3 a) (λa ha=>z20 (.inr ha)),h.no⟩,lm⟩
def shB (W:Wd):B->B
 | .s (.ptr a)=>match W a with
  | some c =>.s c
  | none =>.s (.ptr a)
 | b=>b
def shw (W:Wd)(ρ:Pu.Env):Pu.Env:=ρ.map (shB W)
def AbR.abe (h:AbR K mg H0 G0 G ρ σ H W A):AbE K mg (plus G H (Hid ρ σ W A)) (shw W ρ) σ:=λi d e=>by
 have lp:Same G (plus G H (Hid ρ σ W A)):=z2a λa z=>(h.hid z).1;rw[Env.get_eq] at e;unfold shw at e;rw[wI] at e
 cases q:ρ[i]? with
 | none=>rw[q] at e; cases e
 | some b=>
  rw[q] at e;have old:∀d',b = .s d'->∃v,σ[i]? = some (some v)/\RD K mg (plus G H (Hid ρ σ W A)) d' v:=λd' z=>by
   subst z;obtain⟨v,h1,h2⟩:=h.ab.sh i d' q;exact⟨v,h1,h2.same lp⟩
  cases b with
  | n=>cases e
  | o d'=>
   cases e
   obtain⟨a,h1,h2,h3,h4⟩:=h.ab.ow i d q;exact⟨.ref a,h1,h4.rd lp (z3C (.inl ⟨i,d,q,h1⟩))⟩
  | s d'=>
   cases d' with
   | ptr a=>
    have e':(match W a with | some c=>B.s c | none =>.s (.ptr a)).get=some d:=e
    cases z:W a with
    | none=>rw[z] at e'; cases e'; exact old _ rfl
    | some c=>
     rw[z] at e'
     cases e'
     obtain⟨v,h1,h2⟩:=h.ab.sh i _ q;rw[RD] at h2;subst h2;exact⟨_,h1,(h.st.at_ a _ z).rd lp λb hb=>z3C (.inr ⟨a,_,z,hb⟩)⟩
   | _=>cases e; exact old _ rfl
end
end Pu
namespace Pu
open PySem PySem.Spec PyProof.Rows L2
abbrev DW:=D->Wd->Prop
abbrev XW:=Str->Wd->Prop
structure FnR where
 run:List D->Wd->DW->XW->Prop
 mono:∀ds W (Q Q':DW) (X X':XW),(∀d w,Q d w->Q' d w)->(∀x w,X x w->X' x w)->run ds W Q X->run ds W Q' X'
structure ExR where
 run:Env->Wd->DW->XW->Prop
 mono:∀ρ W (Q Q':DW) (X X':XW),(∀d w,Q d w->Q' d w)->(∀x w,X x w->X' x w)->run ρ W Q X->run ρ W Q' X'
def ExR.raw (i:Nat):ExR:=⟨λρ W Q _=>∃a,ρ[i]? = some (.s (.ptr a))/\Q (.ptr a) W,λρ W Q Q' X X' m mx ⟨a,e,q⟩=>⟨a,e,m _ _ q⟩⟩
def z5q:List ExR->Env->Wd->(List D->Wd->Prop)->XW->Prop
 | [],_,W,Q,_=>Q [] W
 | e::es,ρ,W,Q,X=>e.run ρ W (λd W'=>z5q es ρ W' (λds w=>Q (d::ds) w) X) X
theorem z4P:∀(es:List ExR) (ρ:Env) (W:Wd) (Q Q':List D->Wd->Prop) (X X':XW),(∀d w,Q d w->Q' d w)->(∀x w,X x w->X' x w)->z5q es ρ W Q X->z5q es ρ W Q' X'
 | [],_,_,_,_,_,_,m,_,q=>m _ _ q
 | e::es,ρ,W,Q,Q',X,X',m,mx,q=>e.mono ρ W _ _ X X' (λd W' q1=>z4P es ρ W' _ _ X X' (λds w q2=>m _ _ q2) mx q1) mx q
def ExR.call (F:FnR)(es:List ExR):ExR:=⟨λρ W Q X=>z5q es ρ W (λds W'=>F.run ds W' Q X) X,λρ W Q Q' X X' m mx q=>z4P es ρ W _ _ X X' (λds W' q1=>F.mono ds W' Q Q' X X' m mx q1) mx q⟩
def ExR.meth (n:Str)(fs:List Str)(F:FnR)(i:Nat)(es:List ExR):ExR:=⟨λρ W Q X=>∃a cs,ρ[i]? = some (.s (.ptr a))/\W a=some (.ins n fs cs)/\z5q es ρ W (λds W'=>F.run (.ptr a::ds) W' Q X) X,λρ W Q Q' X X' m mx ⟨a,cs,e,e',q⟩=>⟨a,cs,e,e',z4P es ρ W _ _ X X' (λds W' q1=>F.mono _ W' Q Q' X X' m mx q1) mx q⟩⟩
def ExR.cmp (F:Fn)(x y:ExR):ExR:=⟨λρ W Q X=>x.run ρ W (λd W1=>y.run ρ W1 (λd' W2=>F.run [d,d'] (λb=>Q b W2) (λ_=>False)) X) X,λρ W Q Q' X X' m mx q=>x.mono ρ W _ _ X X' (λd W1 q1=>y.mono ρ W1 _ _ X X' (λd' W2 q2=>F.mono _ _ _ _ _ (λb q3=>m _ _ q3) (λ_ z=>z) q2) mx q1) mx q⟩
section
variable (K:W.Frag)(mg:Str->Option Value)(H0 G0 G:Hp)(ρ:Pu.Env)(σ:L2.St)
def KtR (Q0:DW)(Q:VK):Prop:=∀d v W' A' G' H',Q0 d W'->AbR K mg H0 G0 G' ρ σ H' W' A'->Same G G'->RD K mg G' d v->Q v H'
def KtsR (Q0:List D->Wd->Prop)(Q:List V->Hp->Prop):Prop:=∀ds vs W' A' G' H',Q0 ds W'->AbR K mg H0 G0 G' ρ σ H' W' A'->Same G G'->RDs K mg G' ds vs->Q vs H'
def KxR (X0:XW)(E:XK):Prop:=∀x C H' W' A' G',X0 x W'->mg x=some (.ref C)->Gr G0 H0 G'->Same G' H'->Same H0 H'->StO K mg G' H' W' A'->(∀a,Foot W' A' a->H0 a=none)->E (.ref C) none H'
def KrR (R0:DW)(R:VK):Prop:=∀d v G' H' W' A',R0 d W'->Gr G0 H0 G'->Same G' H'->Same H0 H'->StO K mg G' H' W' A'->(∀a,Foot W' A' a->H0 a=none)->RD K mg G' d v->R v H'
end
def txr (K:W.Frag)(mg:Str->Option Value)(E:XK)(e:ExR):TE:=λσ H Q=>∃H0 G0 G ρ W A Q0 X0,AbR K mg H0 G0 G ρ σ H W A/\e.run ρ W Q0 X0/\KtR K mg H0 G0 G ρ σ Q0 Q/\KxR K mg H0 G0 X0 E
def txra (K:W.Frag)(mg:Str->Option Value)(E:XK)(es:List ExR):TA:=λσ H Q=>∃H0 G0 G ρ W A Q0 X0,AbR K mg H0 G0 G ρ σ H W A/\z5q es ρ W Q0 X0/\KtsR K mg H0 G0 G ρ σ Q0 Q/\KxR K mg H0 G0 X0 E
abbrev QXR (X:Cx)(E:XK)(e:Expr)(x:ExR):Prop:=QE X e (txr X.K X.mg E x)
abbrev QAR (X:Cx)(E:XK)(es:List Expr)(x:List ExR):Prop:=QA X es (txra X.K X.mg E x)
def spR (K:W.Frag)(mg:Str->Option Value)(F:FnR):Sp:=λvs H Q E=>∃G ds W A Q0 X0,Same G H/\RDs K mg G ds vs/\StO K mg G H W A/\F.run ds W Q0 X0/\KrR K mg (minus H (Foot W A)) G Q0 Q/\KxR K mg (minus H (Foot W A)) G X0 E
section
variable {K:W.Frag}{mg:Str->Option Value}{H0 G0 G G' H H':Hp}{ρ:Pu.Env}{σ:L2.St}{W W':Wd}{A A':Addr->List Addr}
def z9i {O:Addr->Prop}{a:Addr}(h:minus H O a=none):O a\/H a=none:=by
 by_cases z:O a
 ·exact .inl z
 ·rw[z2l z] at h; exact .inr h
def AbR.xs (h:AbR K mg H0 G0 G ρ σ H W A)(g:Gr G (minus H (Foot W A)) G'):Gr G0 H0 G':=⟨z06 h.ab.g0 g.1,λa o e=>by
 rcases g.2 a o e with ⟨u,q⟩ | q
 ·exact h.ab.nw a u q
 ·rcases z9i q with z | z
  ·exact .inr (h.no a z).1
  ·exact .inr (z0x h.ab.s0 z)⟩
def AbR.ys (h:AbR K mg H0 G0 G ρ σ H W A)(s:Same (minus H (Foot W A)) H'):Same H0 H':=λa o e=>by
 have na:¬ Foot W A a:=λz=>by rw[(h.no a z).1] at e; cases e
 exact s a o (by rw[z2l na]; exact h.ab.s0 a o e)
def AbR.zs (h:AbR K mg H0 G0 G ρ σ H W A)(n:∀a,Foot W' A' a->minus H (Foot W A) a=none):∀a,Foot W' A' a->H0 a=none:=λa ha=>by
 rcases z9i (n a ha) with z | z
 ·exact(h.no a z).1
 ·exact z0x h.ab.s0 z
def AbR.after (h:AbR K mg H0 G0 G ρ σ H W A)(g:Gr G (minus H (Foot W A)) G')(g2:Same G' H')(s:Same (minus H (Foot W A)) H')(st:StO K mg G' H' W' A')(n:∀a,Foot W' A' a->minus H (Foot W A) a=none):AbR K mg H0 G0 G' ρ σ H' W' A':=by
 have own:∀a,z13 ρ σ a->∃o,minus H (Foot W A) a=some o/\H a=some o:=λa ha=>by
  obtain⟨o,ho,_⟩:=h.ab.ownMu ha;exact⟨o,by rw[z2l λz=>(h.no a z).2 ha]; exact ho,ho⟩
 refine⟨⟨h.ab.len,h.ys s,z06 h.ab.g0 g.1,g2,(h.xs g).2,λi d e =>?_,λi d e =>?_,h.ab.ne⟩,st,λa ha=>⟨h.zs n a ha,λz =>?_⟩⟩
 ·obtain⟨v,h1,h2⟩:=h.ab.sh i d e;exact⟨v,h1,h2.same g.1⟩
 ·obtain⟨a,h1,h2,h3,h4⟩:=h.ab.ow i d e;obtain⟨o,e1,e2⟩:=own a ⟨i,d,e,h1⟩;refine⟨a,h1,?_,h3,h4.same g.1 λu hu =>?_⟩
  ·cases z:G' a with
   | none=>rfl
   | some u=>
    rcases g.2 a u z with ⟨w,q⟩ | q
    ·rw[h2] at q; cases q
    ·rw[e1] at q; cases q
  ·rw[e2] at hu; cases hu;exact s a _ e1
 ·obtain⟨o,e1,_⟩:=own a z;rw[n a ha] at e1; cases e1
def AbR.grow (h:AbR K mg H0 G0 G ρ σ H W A)(g:Gr G H G')(g2:Same G' H')(s:Same H H'):AbR K mg H0 G0 G' ρ σ H' W A:=by
 have nf:∀a,Foot W A a->G' a=none:=λa ha=>by
  obtain⟨o,ho,_⟩:=h.st.exO ha
  cases z:G' a with
  | none=>rfl
  | some u=>
   rcases g.2 a u z with ⟨w,q⟩ | q
   ·rw[h.st.out a ha] at q; cases q
   ·rw[ho] at q; cases q
 refine h.after ⟨g.1,λa o e =>?_⟩ g2 (z06 z1i s) (h.st.same g.1 (λa _=>s a) nf) λa ha=>z20 ha
 rcases g.2 a o e with z | z
 ·exact .inl z
 ·exact .inr (z0x z1i z)
def KxR.at_ {X0:XW}{E:XK}(h:AbR K mg H0 G0 G ρ σ H W A)(hx:KxR K mg H0 G0 X0 E):Kx mg H (λs=>X0 s W) E:=λx C H' q mC s=>
 hx x C H' W A G q mC ⟨h.ab.g0,h.ab.nw⟩ (z06 h.ab.g s) (z06 h.ab.s0 s) (h.st.same Same.refl' (λa _=>s a) h.st.out) λa ha=>(h.no a ha).1
end
section
variable {X:Cx}{E:XK}{e a b c o:Expr}{x y z:ExR}{pos apos:Pos}{es:List Expr}{xs:List ExR}
def zdQ {i:Nat}(h:QE X e (tVar i)):QXR X E e (.raw i):=QE.imp h λσ H Q ⟨H0,G0,G,ρ,W,A,Q0,X0,ab,⟨p,e,q⟩,hk,hx⟩=>by
 obtain⟨v,h1,h2⟩:=ab.ab.sh i _ e;exact⟨v,h1,hk _ v W A G H q ab Same.refl' h2⟩
def z3b:QAR X E [] []:=QA.imp z7s λσ H Q ⟨H0,G0,G,ρ,W,A,Q0,X0,ab,hr,hk,hx⟩=>hk [] [] W A G H hr ab Same.refl' RDs.nil
def z1h (ha:QXR X E e x)(hr:QAR X E es xs)(hs:starEach (e::es) X.env=(false,eval e X.env)::starEach es X.env:=by rfl):QAR X E (e::es) (x::xs):=QA.imp (z46 ha hr hs) λσ H Q ⟨H0,G0,G,ρ,W,A,Q0,X0,ab,hr,hk,hx⟩=>
 ⟨H0,G0,G,ρ,W,A,_,X0,ab,hr,λd v W1 A1 G1 H1 q ab1 g1 rd=>
  ⟨H0,G0,G1,ρ,W1,A1,_,X0,ab1,q,λds vs W2 A2 G2 H2 q2 ab2 g2 rds=>hk (d::ds) (v::vs) W2 A2 G2 H2 q2 ab2 (z06 g1 g2) (RDs.cons (rd.same g2) rds),hx⟩,hx⟩
def z8J {F:FnR}{K:W.Frag}{mg:Str->Option Value}{H0 G0 G H:Hp}{ρ:Pu.Env}{σ:L2.St}{W:Wd}{A:Addr->List Addr}{ds:List D}{vs:List V}{Q0:DW}{X0:XW}{Q:VK}(ab:AbR K mg H0 G0 G ρ σ H W A)(rds:RDs K mg G ds vs)(hr:F.run ds W Q0 X0)
  (hk:∀d v W' A' G' H',Q0 d W'->AbR K mg H0 G0 G' ρ σ H' W' A'->Same G G'->RD K mg G' d v->Q v H') (hx:KxR K mg H0 G0 X0 E):spR K mg F vs H Q E:=
 ⟨G,ds,W,A,Q0,X0,ab.ab.g,rds,ab.st,hr,λd v G' H' W' A' q g g2 s st n rd=>hk d v W' A' G' H' q (ab.after g g2 s st n) g.1 rd,λx C H' W' A' G' q mC g g2 s st n=>hx x C H' W' A' G' q mC (ab.xs g) g2 (ab.ys s) st (ab.zs n)⟩
def zgv {CX:CXT}{k:Nat}{ps:List Str}{F:FnR}{f:Str}{pp:Pos}(C:Cal X.prog X.w X.K X.mg X.base CX k f ps (spR X.K X.mg F))(hr:Room k X.A)(hx:z1D CX X E)(ha:QAR X E (e::es) xs)(hg:Gl X f:=by rfl)
  (hdb:(f == ("__debug__":Str))=false:=by decide) (he:starEach (e::es) X.env=(false,eval e X.env)::starEach es X.env:=by rfl) (hpl:(backTo pos (starEach es X.env)).any (·.1)=false:=by rfl):QXR X E (.Call (.Name f pp) (e::es) [] pos) (.call F xs):=
 QE.imp (zeT C hr hx ha hg hdb he hpl) λσ H Q ⟨H0,G0,G,ρ,W,A,Q0,X0,ab,hr,hk,hx⟩=>
  ⟨H0,G0,G,ρ,W,A,_,X0,ab,hr,λds vs W1 A1 G1 H1 q ab1 g1 rds=>by
   show spR X.K X.mg F (vs++[]) H1 Q E;rw[wW];exact z8J ab1 rds q (λd v W' A' G' H' q' ab' g' rd=>hk d v W' A' G' H' q' ab' (z06 g1 g') rd) hx,hx⟩
theorem z4c {m:Str}:∀{fs:List Str}{vs:List V},m ∉ fs->(fs.zip vs).lookup m=none
 | [],_,_=>by simp
 | _::_,[],_=>by simp
 | f::fs,v::vs,h=>by
  rw[vm,wR];have hf:(m == f)=false:=by
   cases z:m == f with
   | false=>rfl
   | true=>exact(h (by rw[eq_of_beq z]; exact wt)).elim
  rw[hf];exact z4c λz=>h (wj _ z)
def zeK {CX:CXT}{k i:Nat}{C f:Addr}{fd:FuncData}{ps fs:List Str}{F:FnR}{m n:Str}{pl:Sem Bool}(ho:QE X o (tVar i))(c:Cls X.K C)(hC:X.mg n=some (.ref C))(hm:Meth X.K C m f)(hn:m ∉ fs)(Fk:FnOk X.prog X.w X.K X.mg X.base CX k f fd ps (spR X.K X.mg F))(hr:Room k X.A)(hb:z3i X.K fd ps [])(hx:z1D CX X E)(ha:QAR X E (e::es) xs)
  (hst:starEach (e::es) X.env=(false,eval e X.env)::starEach es X.env:=by rfl) (hpl:(backTo pos (starEach es X.env)).any (·.1)=false:=by rfl)
  (ht:eval (.Call (.Attribute o m apos) (e::es) [] pos) X.env=(do
   let ov <- eval o X.env
   standAt apos.atName
   let (f,first) <- holding [ov] (getMethod ov m pl)
   callWith pos f first (backTo pos (starEach (e::es) X.env)) (backToKw pos (keywordEach [] X.env))):=by rfl):QXR X E (.Call (.Attribute o m apos) (e::es) [] pos) (.meth n fs F i xs):=
 QE.imp ⟨zbd (pl:=pl) ho.p c hm Fk hr hb .nil hx ha.p hst hpl ht⟩ λσ H Q ⟨H0,G0,G,ρ,W,A,Q0,X0,ab,⟨p,cs,e1,e2,hr⟩,hk,hx⟩=>by
  obtain⟨v,h1,h2⟩:=ab.ab.sh i _ e1;rw[RD] at h2;subst h2;obtain⟨⟨C',dx,h3,h4⟩,_⟩:=ab.st.at_ p _ e2;rw[hC] at h4
  cases h4
  refine⟨_,h1,p,dx,_,rfl,h3,z4c hn,?_⟩;refine⟨H0,G0,G,ρ,W,A,_,X0,ab,hr,λds vs W1 A1 G1 H1 q ab1 g1 rds =>?_,hx⟩;show spR X.K X.mg F ((.ref p::vs)++[]) H1 Q E;rw[wW];exact z8J ab1 (RDs.cons (by rw[RD]) rds) q (λd v W' A' G' H' q' ab' g' rd=>hk d v W' A' G' H' q' ab' (z06 g1 g') rd) hx
def zid {F:Fn}{r:R2}{t:TE}(lk:Lk2 X.K X.mg F r){σ:L2.St}{H:Hp}{Q:VK}(h:txr X.K X.mg E (.cmp F x y) σ H Q):tOp r (txr X.K X.mg E x) (txr X.K X.mg E y) σ H Q:=by
 obtain⟨H0,G0,G,ρ,W,A,Q0,X0,ab,hr,hk,hx⟩:=h;refine⟨H0,G0,G,ρ,W,A,_,X0,ab,hr,λd v W1 A1 G1 H1 q ab1 g1 rd =>?_,hx⟩;refine⟨H0,G0,G1,ρ,W1,A1,_,X0,ab1,q,λd' v' W2 A2 G2 H2 q2 ab2 g2 rd' =>?_,hx⟩;refine lk G2 H2 d d' v v' _ _ Q ab2.ab.g (rd.same g2) rd' q2 λb u G3 H3 q3 k1 k2 k3 rb =>?_;exact hk b u W2 A2 G3 H3 q3 (ab2.grow k1 k2 k3) (z06 g1 (z06 g2 k1.1)) rb
def ttr (K:W.Frag)(mg:Str->Option Value)(E:XK)(e:ExR):TT:=λσ H Q=>∃H0 G0 G ρ W A Q0 X0,AbR K mg H0 G0 G ρ σ H W A/\e.run ρ W Q0 X0/\(∀d W' A' G' H',Q0 d W'->AbR K mg H0 G0 G' ρ σ H' W' A'->Same G G'->∃b,d = .bl b/\Q b H')/\KxR K mg H0 G0 X0 E
def zaU {op:CmpOp}{F:Fn}{r:R2}(ho:OpR X (compareOp op) r)(lk:Lk2 X.K X.mg F r)(ha:QXR X E a x)(hb:QXR X E b y)(hm:behindInMarks op b=false):QT X (.Compare a [op] [b] pos) (ttr X.K X.mg E (.cmp F x y)):=QT.imp (zaV ho ha hb hm) λσ H Q ⟨H0,G0,G,ρ,W,A,Q0,X0,ab,hr,hk,hx⟩=>
 zid (t:=λ_ _ _=>True) lk ⟨H0,G0,G,ρ,W,A,Q0,X0,ab,hr,λd v W' A' G' H' q ab' g' rd=>by
  obtain⟨b,rfl,q'⟩:=hk d W' A' G' H' q ab' g';rw[RD] at rd;exact⟨b,rd,q'⟩,hx⟩
end
abbrev EW:=Env->Wd->Prop
structure SmR where
 run:Env->Wd->EW->DW->XW->Prop
 mono:∀ρ W (N N':EW) (Q Q':DW) (X X':XW),(∀r w,N r w->N' r w)->(∀d w,Q d w->Q' d w)->(∀x w,X x w->X' x w)->run ρ W N Q X->run ρ W N' Q' X'
def SmR.lift (t:Sm):SmR:=⟨λρ W N Q X=>t.run ρ (λρ'=>N ρ' W) (λd=>Q d W) (λx=>X x W),λρ W N N' Q Q' X X' mn m mx q=>t.mono ρ _ _ _ _ _ _ (λ_ q=>mn _ _ q) (λ_ q=>m _ _ q) (λ_ q=>mx _ _ q) q⟩
def SmR.seq (a b:SmR):SmR:=⟨λρ W N Q X=>a.run ρ W (λρ' W'=>b.run ρ' W' N Q X) Q X,λρ W N N' Q Q' X X' mn m mx q=>a.mono ρ W _ _ Q Q' X X' (λρ' W' q1=>b.mono ρ' W' N N' Q Q' X X' mn m mx q1) m mx q⟩
def SmR.skip:SmR:=⟨λρ W N _ _=>N ρ W,λ_ _ _ _ _ _ _ _ m _ _ q=>m _ _ q⟩
def SmR.ifp (z:Ex)(a b:SmR):SmR:=⟨λρ W N Q X=>z.run (shw W ρ) (λd=>tst d (a.run ρ W N Q X) (b.run ρ W N Q X)) (λx=>X x W),λρ W N N' Q Q' X X' mn m mx q=>z.mono _ _ _ _ _ (λd q1=>z2s (a.mono ρ W N N' Q Q' X X' mn m mx) (b.mono ρ W N N' Q Q' X X' mn m mx) q1) (λ_ q=>mx _ _ q) q⟩
def SmR.ifr (z:ExR)(a b:SmR):SmR:=⟨λρ W N Q X=>z.run ρ W (λd W'=>tst d (a.run ρ W' N Q X) (b.run ρ W' N Q X)) X,λρ W N N' Q Q' X X' mn m mx q=>z.mono _ _ _ _ _ _ (λd W' q1=>z2s (a.mono ρ W' N N' Q Q' X X' mn m mx) (b.mono ρ W' N N' Q Q' X X' mn m mx) q1) mx q⟩
def SmR.ex (e:ExR):SmR:=⟨λρ W N _ X=>e.run ρ W (λ_ W'=>N ρ W') X,λρ W N N' Q Q' X X' mn m mx q=>e.mono ρ W _ _ X X' (λ_ _ q1=>mn _ _ q1) mx q⟩
def SmR.set (i:Nat)(e:ExR):SmR:=⟨λρ W N _ X=>e.run ρ W (λd W'=>N (ρ.set i (.s d)) W') X,λρ W N N' Q Q' X X' mn m mx q=>e.mono ρ W _ _ X X' (λ_ _ q1=>mn _ _ q1) mx q⟩
def KnR (K:W.Frag)(mg:Str->Option Value)(H0 G0 G:Hp)(N0:EW)(N:L2.St->Hp->Prop):Prop:=∀ρ' W' A' σ' H' G',N0 ρ' W'->AbR K mg H0 G0 G' ρ' σ' H' W' A'->Same G G'->N σ' H'
def tsr (K:W.Frag)(mg:Str->Option Value)(E:XK)(t:SmR):TS:=λD σ H=>∃H0 G0 G ρ W A N0 R0 X0,AbR K mg H0 G0 G ρ σ H W A/\t.run ρ W N0 R0 X0/\KnR K mg H0 G0 G N0 D.nx/\KrR K mg H0 G0 R0 D.rt/\KxR K mg H0 G0 X0 E
def KnR.same {K:W.Frag}{mg:Str->Option Value}{H0 G0 G G1:Hp}{N0:EW}{N:L2.St->Hp->Prop}(h:KnR K mg H0 G0 G N0 N)(g:Same G G1):KnR K mg H0 G0 G1 N0 N:=λρ' W' A' σ' H' G' a b c=>h ρ' W' A' σ' H' G' a b (z06 g c)
abbrev QR (X:Cx)(E:XK)(st:Stmt)(t:SmR):Prop:=QS X st (tsr X.K X.mg E t)
abbrev QRs (X:Cx)(E:XK)(st:List Stmt)(t:SmR):Prop:=QSs X st (tsr X.K X.mg E t)
section
variable {X:Cx}{E:XK}{st:Stmt}{rest body la lb:List Stmt}{t u:SmR}{e a b c tg:Expr}{x y z:ExR}{pos:Pos}
def z6p:QRs X E [] .skip:=QSs.imp zaX λD σ H ⟨H0,G0,G,ρ,W,A,N0,R0,X0,ab,hr,hn,hR,hx⟩=>hn ρ W A σ H G hr ab Same.refl'
def z23 (h:QR X E st t):QRs X E [st] t:=z8g h
def z0w (h:QR X E st t)(h':QRs X E rest u):QRs X E (st::rest) (.seq t u):=QSs.imp (z90 h h') λD σ H ⟨H0,G0,G,ρ,W,A,N0,R0,X0,ab,hr,hn,hR,hx⟩=>
 ⟨H0,G0,G,ρ,W,A,λρ' W'=>u.run ρ' W' N0 R0 X0,R0,X0,ab,hr,λρ' W' A' σ' H' G' q ab' g=>⟨H0,G0,G',ρ',W',A',N0,R0,X0,ab',q,hn.same g,hR,hx⟩,hR,hx⟩
def AbS.anew {K:W.Frag}{mg:Str->Option Value}{H0 G0 G H:Hp}{ρ:Pu.Env}{σ:L2.St}(h:AbS K mg H0 G0 G ρ σ H):AbS K mg (minus H (z13 ρ σ)) G G ρ σ H:=
 ⟨h.len,z1i,Same.refl',h.g,λa o e =>.inl ⟨o,e⟩,h.sh,λi d e=>by
  obtain⟨a,h1,h2,h3,h4⟩:=h.ow i d e;exact⟨a,h1,h2,z20 ⟨i,d,e,h1⟩,h4⟩,h.ne⟩
def AbS.low {K:W.Frag}{mg:Str->Option Value}{H0 G0 G H:Hp}{ρ:Pu.Env}{σ:L2.St}(h:AbS K mg H0 G0 G ρ σ H):Same H0 (minus H (z13 ρ σ)):=z2t h.s0 h.owned0
def AbS.lowG {K:W.Frag}{mg:Str->Option Value}{H0 G0 G H:Hp}{ρ:Pu.Env}{σ:L2.St}(h:AbS K mg H0 G0 G ρ σ H):Same G (minus H (z13 ρ σ)):=z2t h.g h.free
def AbR.nf {K:W.Frag}{mg:Str->Option Value}{H0 G0 G H:Hp}{ρ:Pu.Env}{σ:L2.St}{W:Wd}{A:Addr->List Addr}(ab:AbR K mg H0 G0 G ρ σ H W A){a:Addr}(ha:Foot W A a):∃o,minus H (z13 ρ σ) a=some o/\H a=some o:=by
 obtain⟨o,ho,_⟩:=ab.st.exO ha;exact⟨o,by rw[z2l (ab.no a ha).2]; exact ho,ho⟩
def AbR.free' {K:W.Frag}{mg:Str->Option Value}{H0 G0 G G' H:Hp}{ρ:Pu.Env}{σ:L2.St}{W:Wd}{A:Addr->List Addr}(ab:AbR K mg H0 G0 G ρ σ H W A)(nw:∀a o,G' a=some o->(∃u,G a=some u)\/minus H (z13 ρ σ) a=none):∀a,Foot W A a->G' a=none:=λa ha=>by
 cases z:G' a with
 | none=>rfl
 | some o=>
  rcases nw a o z with ⟨w,q⟩ | q
  ·rw[ab.st.out a ha] at q; cases q
  ·obtain⟨u,hu,_⟩:=ab.nf ha;rw[hu] at q; cases q
def AbR.kept {K:W.Frag}{mg:Str->Option Value}{H0 G0 G H H':Hp}{ρ:Pu.Env}{σ:L2.St}{W:Wd}{A:Addr->List Addr}(ab:AbR K mg H0 G0 G ρ σ H W A)(s:Same (minus H (z13 ρ σ)) H'):∀a,Foot W A a->∀o,H a=some o->H' a=some o:=λa ha o e=>by
 obtain⟨u,h1,h2⟩:=ab.nf ha;rw[h2] at e; cases e;exact s a _ h1
def AbR.gr {K:W.Frag}{mg:Str->Option Value}{H0 G0 G G' H:Hp}{ρ:Pu.Env}{σ:L2.St}{W:Wd}{A:Addr->List Addr}(ab:AbR K mg H0 G0 G ρ σ H W A)(g:Gr G (minus H (z13 ρ σ)) G'):Gr G0 H0 G':=⟨z06 ab.ab.g0 g.1,λa o e=>by
 rcases g.2 a o e with ⟨u,q⟩ | q
 ·exact ab.ab.nw a u q
 ·exact .inr (z0x ab.ab.low q)⟩
def AbR.then {K:W.Frag}{mg:Str->Option Value}{H0 G0 G G' H H':Hp}{ρ ρ':Pu.Env}{σ σ':L2.St}{W:Wd}{A:Addr->List Addr}(ab:AbR K mg H0 G0 G ρ σ H W A)(ab':AbS K mg (minus H (z13 ρ σ)) G G' ρ' σ' H'):AbR K mg H0 G0 G' ρ' σ' H' W A:=by
 have g:=ab.gr ⟨ab'.g0,ab'.nw⟩;have ab2:=ab'.weak ab.ab.low;refine⟨⟨ab2.len,ab2.s0,g.1,ab2.g,g.2,ab2.sh,ab2.ow,ab2.ne⟩,ab.st.same ab'.g0 (ab.kept ab'.s0) (ab.free' ab'.nw),λa ha=>⟨(ab.no a ha).1,λz =>?_⟩⟩;obtain⟨u,hu,_⟩:=ab.nf ha;rw[ab'.owned0 a z] at hu; cases hu
def z0I {s:Sm}(h:QZ X E st s):QR X E st (.lift s):=QS.imp h λD σ H ⟨H0,G0,G,ρ,W,A,N0,R0,X0,ab,hr,hn,hR,hx⟩=>
 ⟨_,G,G,ρ,_,_,_,ab.ab.anew,hr,λρ' σ' H' G' q ab' g=>hn ρ' W A σ' H' G' q (ab.then ab') g,λd v G' H' q g g2 s rd=>hR d v G' H' W A q (ab.gr g) g2 (z06 ab.ab.low s) (ab.st.same g.1 (ab.kept s) (ab.free' g.2)) (λa ha=>(ab.no a ha).1) rd,
  λx C H' q mC s=>hx x C H' W A G q mC ⟨ab.ab.g0,ab.ab.nw⟩ (z06 ab.ab.lowG s) (z06 ab.ab.low s) (ab.st.same Same.refl' (ab.kept s) ab.st.out) λa ha=>(ab.no a ha).1⟩
def zb1 {w:Ex}(hc:QXT X E c w)(ha:QRs X E la t)(hb:QRs X E lb u):QR X E (.If c la lb pos) (.ifp w t u):=QS.imp (zaZ hc ha hb) λD σ H ⟨H0,G0,G,ρ,W,A,N0,R0,X0,ab,hr,hn,hR,hx⟩=>by
 refine⟨plus G H (Hid ρ σ W A),shw W ρ,_,_,z1Z ab.ab.g,ab.abe,hr,λd G1 H1 q g1 g2 g3 =>?_,hx.at_ ab⟩;obtain⟨b,rfl,q1,q2⟩:=z4e q;obtain⟨ab',lm⟩:=ab.back g1 g2 g3;refine⟨b,rfl,?_⟩
 cases b with
 | true=>exact iteT ⟨H0,G0,_,ρ,W,A,N0,R0,X0,ab',q1 rfl,hn.same lm,hR,hx⟩
 | false=>exact iteF ⟨H0,G0,_,ρ,W,A,N0,R0,X0,ab',q2 rfl,hn.same lm,hR,hx⟩
def zdR (hc:QT X c (ttr X.K X.mg E z))(ha:QRs X E la t)(hb:QRs X E lb u):QR X E (.If c la lb pos) (.ifr z t u):=QS.imp (zaZ hc ha hb) λD σ H ⟨H0,G0,G,ρ,W,A,N0,R0,X0,ab,hr,hn,hR,hx⟩=>by
 refine⟨H0,G0,G,ρ,W,A,_,X0,ab,hr,λd W' A' G' H' q ab' g =>?_,hx⟩;obtain⟨b,rfl,q1,q2⟩:=z4e q;refine⟨b,rfl,?_⟩
 cases b with
 | true=>exact iteT ⟨H0,G0,G',ρ,W',A',N0,R0,X0,ab',q1 rfl,hn.same g,hR,hx⟩
 | false=>exact iteF ⟨H0,G0,G',ρ,W',A',N0,R0,X0,ab',q2 rfl,hn.same g,hR,hx⟩
def zb3 (he:QXR X E e x)(hs:swapsWith e none pos.line X.env=pure false:=by rfl):QR X E (.Expr e pos) (.ex x):=QS.imp (z6N he hs) λD σ H ⟨H0,G0,G,ρ,W,A,N0,R0,X0,ab,hr,hn,hR,hx⟩=>
 ⟨H0,G0,G,ρ,W,A,_,X0,ab,hr,λd v W' A' G' H' q ab' g rd=>hn ρ W' A' σ H' G' q ab' g,hx⟩
theorem AbR.put {K:W.Frag}{mg:Str->Option Value}{H0 G0 G H:Hp}{ρ:Pu.Env}{σ:L2.St}{W:Wd}{A:Addr->List Addr}{i:Nat}{d:Pu.D}{v:V}(h:AbR K mg H0 G0 G ρ σ H W A)(rd:RD K mg G d v):AbR K mg H0 G0 G (ρ.set i (.s d)) (σ.set i (some v)) H W A:=by
 refine⟨h.ab.put h.ab.nw Same.refl' h.ab.g Same.refl' (λj d' a _ e s=>h.ab.free a ⟨j,d',e,s⟩) rd,h.st,λa ha=>⟨(h.no a ha).1,λ⟨j,d',e,s⟩ =>?_⟩⟩
 by_cases hj:j=i
 ·subst hj;have hl:j < ρ.length:=by
   have:=(wb.mp e).1;simpa using this
  rw[wk hl] at e
  cases e
 ·rw[we (wU hj)] at e s;exact(h.no a ha).2 ⟨j,d',e,s⟩
end
end Pu
namespace L2
open PySem PySem.Spec PyProof.Rows
section
variable {κ:Type}[DecidableEq κ]
def valV (kvs:List (κ × V))(k:κ):Option V:=(kvs.find? λkv=>decide (kv.1=k)).map (·.2)
def putK (kvs:List (κ × V))(k:κ)(v:V):List (κ × V):=
 if (kvs.any λkv=>decide (kv.1=k))=true then kvs.map (λkv=>if kv.1=k then (kv.1,v) else kv) else kvs++[(k,v)]
def z5a {p:κ × V}{r:List (κ × V)}{k:κ}(e:p.1=k):valV (p::r) k=some p.2:=by simp[valV,vA,e]
def z5b {p:κ × V}{r:List (κ × V)}{k:κ}(e:¬ p.1=k):valV (p::r) k=valV r k:=by simp[valV,vA,e]
theorem z8Q (k:κ):∀kvs:List (κ × V),(kvs.any λkv=>decide (kv.1=k))=(valV kvs k).isSome
 | []=>rfl
 | p::r=>by
  rw[List.any_cons]
  by_cases e:p.1=k
  ·simp only[z5a e,wH e,Bool.true_or,Option.isSome_some]
  ·rw[z5b e,wB e,Bool.false_or]; exact z8Q k r
def z47 (kvs:List (κ × V))(k:κ)(v:V):(putK kvs k v).length<=kvs.length+1:=by
 unfold putK
 split
 ·rw[wA]; omega
 ·rw[wG,wC,va]; omega
def RelO.isSome_eq {o:Option V}{u:Option Value}(r:RelO o u):o.isSome=u.isSome:=by
 cases o with
 | none=>cases u with
  | none=>rfl
  | some _=>exact(show False from r).elim
 | some _=>cases u with
  | none=>exact(show False from r).elim
  | some _=>rfl
def KV.val {kvs:List (κ × V)}{vs:List (κ × Value)}(r:KV kvs vs)(k:κ):RelO (valV kvs k) (valueAt vs k):=by
 unfold KV at r
 induction r with
 | nil=>exact True.intro
 | @cons p q ps qs h t ih=>
  obtain⟨h1,h2⟩:=h
  by_cases e:p.1=k
  ·have e':q.1=k:=h1.symm.trans e;have b:valueAt (q::qs) k=some q.2:=by simp[valueAt,vA,e']
   rw[z5a e,b]; exact h2
  ·have e':¬ q.1=k:=λz=>e (h1.trans z);have b:valueAt (q::qs) k=valueAt qs k:=by simp[valueAt,vA,e']
   rw[z5b e,b]; exact ih
theorem KV.any {kvs:List (κ × V)}{vs:List (κ × Value)}(r:KV kvs vs)(k:κ):(kvs.any λkv=>decide (kv.1=k))=vs.any λkv=>decide (kv.1=k):=by
 unfold KV at r
 induction r with
 | nil=>rfl
 | cons h t ih=>rw[List.any_cons,List.any_cons,ih,h.1]
def KV.repl {kvs:List (κ × V)}{vs:List (κ × Value)}(r:KV kvs vs)(k:κ){y:V}{u:Value}(ry:RelV y u):
  KV (kvs.map λkv=>if kv.1=k then (kv.1,y) else kv) (vs.map λkv=>if kv.1=k then (kv.1,u) else kv):=by
 unfold KV at r ⊢
 induction r with
 | nil=>exact .nil
 | @cons p q ps qs h t ih=>
  rw[wz,wz];refine .cons ?_ ih;obtain⟨h1,h2⟩:=h
  by_cases e:p.1=k
  ·rw[if_pos e,if_pos (h1.symm.trans e)]; exact⟨h1,ry⟩
  ·rw[if_neg e,if_neg (λz=>e (h1.trans z))]; exact⟨h1,h2⟩
def KV.put {kvs:List (κ × V)}{vs:List (κ × Value)}(r:KV kvs vs)(k:κ){y:V}{u:Value}(ry:RelV y u):KV (putK kvs k y) (stored vs k u):=by
 unfold putK stored;rw[r.any k]
 by_cases e:(vs.any λkv=>decide (kv.1=k))=true
 ·rw[if_pos e,if_pos e]; exact r.repl k ry
 ·rw[if_neg e,if_neg e]; exact Paired.snoc r ⟨rfl,ry⟩
def KV.keys {kvs:List (κ × V)}{vs:List (κ × Value)}(r:KV kvs vs):kvs.map (·.1)=vs.map (·.1):=by
 unfold KV at r
 induction r with
 | nil=>rfl
 | cons h t ih=>rw[wz,wz,ih,h.1]
theorem KV.length {kvs:List (κ × V)}{vs:List (κ × Value)}(r:KV kvs vs):kvs.length=vs.length:=Paired.length r
end
def zby {P:Program}{w:World}{k:Key}{u:Value}(r:RelV (kV k) u):(z1a P w).is k u=true:=by
 cases k with
 | inl i=>obtain⟨t,e⟩:=(show ∃t,u=Value.int i t from r); subst e; exact z8q P w i t
 | inr x=>obtain⟨t,e⟩:=(show ∃t,u=Value.str x t from r); subst e; exact z8p P w x t
theorem z7G {P:Program}{w:World}:∀{ks:List Key}{us:List Value},Vals (ks.map kV) us->ItemsAre (z1a P w) ks us
 | [],_,r=>by rw[vJ] at r; cases r; exact .nil
 | k::ks,_,r=>by
  rw[wz] at r
  cases r with
  | cons h t=>exact .cons (zby h) (z7G t)
abbrev KT (H:Hp):List (List Key × V)->List (List Key × Addr × Value)->Prop:=Paired λp q=>p.1=q.1/\H q.2.1=some (.tup (p.1.map kV))/\RelV p.2 q.2.2
def KT.val {H:Hp}{kvs:List (List Key × V)}{xs:List (List Key × Addr × Value)}(r:KT H kvs xs)(k:List Key):RelO (valV kvs k) ((atKey xs k).map (·.2)):=by
 induction r with
 | nil=>exact True.intro
 | @cons p q ps qs h t ih=>
  obtain⟨h1,_,h2⟩:=h
  by_cases e:p.1=k
  ·have e':q.1=k:=h1.symm.trans e;have b:atKey (q::qs) k=some q.2:=by simp[atKey,vA,e']
   rw[z5a e,b]; exact h2
  ·have e':¬ q.1=k:=λz=>e (h1.trans z);have b:atKey (q::qs) k=atKey qs k:=by simp[atKey,vA,e']
   rw[z5b e,b]; exact ih
def KT.repl {H:Hp}{kvs:List (List Key × V)}{xs:List (List Key × Addr × Value)}(r:KT H kvs xs)(k:List Key){y:V}{u:Value}(ry:RelV y u):
  KT H (kvs.map λkv=>if kv.1=k then (kv.1,y) else kv) (xs.map (putAt k u)):=by
 induction r with
 | nil=>exact .nil
 | @cons p q ps qs h t ih=>
  rw[wz,wz];refine .cons ?_ ih;obtain⟨h1,h2,h3⟩:=h;unfold putAt
  by_cases e:p.1=k
  ·rw[if_pos e,if_pos (h1.symm.trans e)]; exact⟨h1,h2,ry⟩
  ·rw[if_neg e,if_neg (λz=>e (h1.trans z))]; exact⟨h1,h2,h3⟩
def KT.put {H:Hp}{kvs:List (List Key × V)}{xs:List (List Key × Addr × Value)}(r:KT H kvs xs)(k:List Key){b:Addr}{y:V}{u:Value}(hb:H b=some (.tup (k.map kV)))(ry:RelV y u):
  KT H (putK kvs k y) (storedH xs k b u):=by
 have e:(kvs.any λkv=>decide (kv.1=k))=(atKey xs k).isSome:=by
  rw[z8Q,(r.val k).isSome_eq,Option.isSome_map]
 unfold putK storedH;rw[e]
 by_cases q:(atKey xs k).isSome=true
 ·rw[if_pos q,if_pos q]; exact r.repl k ry
 ·rw[if_neg q,if_neg q]; exact Paired.snoc r ⟨rfl,hb,ry⟩
def KT.keeps {H H':Hp}{kvs:List (List Key × V)}{xs:List (List Key × Addr × Value)}(r:KT H kvs xs)(ht:∀b ys,H b=some (.tup ys)->H' b=some (.tup ys)):KT H' kvs xs:=
 Paired.mapP r λ_ _ z=>⟨z.1,ht _ _ z.2.1,z.2.2⟩
section
variable {P:Program}{w:World}{H:Hp}{h:Heap}{a:Addr}
def zgb {u:HO}(ok:HOk P w H h)(e:Rd H a u):z1l P w H h a u:=e.ok ok
def za4 {kvs:List (Key × V)}(ok:HOk P w H h)(e:Rd H a (.dK kvs)):kvs.length<=sizeLine/\(a == sysModules)=false/\∃vs,KV kvs vs/\h.DictOf (z1a P w) a vs:=
 show z1l P w H h a (.dK kvs) from zgb ok e
def zi9 {kvs:List (Key × V)}(ok:HOk P w H h)(e:H a=some (.dK kvs)):kvs.length<=sizeLine/\(a == sysModules)=false/\∃vs,KV kvs vs/\h.DictOf (z1a P w) a vs:=za4 ok (.inl e)
def z9m {ks:List Key}(ok:HOk P w H h)(e:H a=some (.tup (ks.map kV))):(tupleKind (z1a P w)).is h ks a:=by
 obtain⟨_,its,r,⟨o,h1,h2,n,h3⟩,_⟩:=(show z1l P w H h a (.tup (ks.map kV)) from ok a _ e)
 exact⟨o,its.toArray,n,h1,h2,h3,by simpa using z7G r⟩
def zdp {kvs:List (List Key × V)}(ok:HOk P w H h)(e:Rd H a (.dT kvs)):kvs.length<=sizeLine/\(a == sysModules)=false/\
  ∃xs,KT H kvs xs/\h.DictOfH (tupleKind (z1a P w)) a xs:=by
 obtain⟨z,y,xs,r,o,es,ep,h1,h2,h3,h4,h5⟩:=(show z1l P w H h a (.dT kvs) from zgb ok e)
 refine⟨z,y,xs,r,o,es,ep,h1,h2,h3,h4,λx hx =>?_,h5⟩;have all:∀{l:List (List Key × V)}{m:List (List Key × Addr × Value)},KT H l m->∀x∈m,(tupleKind (z1a P w)).is h x.1 x.2.1:=by
  intro l m q
  induction q with
  | nil=>intro x hx; exact nomatch hx
  | @cons p q ps qs hq t ih=>
   intro x hx
   rcases wx.mp hx with e | hx
   ·subst e;exact z9m ok (by rw[<- hq.1]; exact hq.2.1)
   ·exact ih x hx
 exact all r x hx
def zjt {kvs:List (List Key × V)}(ok:HOk P w H h)(e:H a=some (.dT kvs)):kvs.length<=sizeLine/\(a == sysModules)=false/\
  ∃xs,KT H kvs xs/\h.DictOfH (tupleKind (z1a P w)) a xs:=zdp ok (.inl e)
end
def DGet (H:Hp)(a:Addr)(y:V)(r:Option V):Prop:=
 (∃kvs k,Rd H a (.dK kvs)/\y=kV k/\r=valV kvs k)\/∃kvs k b,Rd H a (.dT kvs)/\y = .ref b/\H b=some (.tup (k.map kV))/\r=valV kvs k
def DPut (H:Hp)(a:Addr)(y v:V)(H':Hp):Prop:=
 (∃kvs k,H a=some (.dK kvs)/\y=kV k/\kvs.length<sizeLine/\H'=upd H a (.dK (putK kvs k v)))\/
 ∃kvs k b,H a=some (.dT kvs)/\y = .ref b/\H b=some (.tup (k.map kV))/\kvs.length<sizeLine/\H'=upd H a (.dT (putK kvs k v))
theorem DPut.k {H:Hp}{a:Addr}{kvs:List (Key × V)}{k:Key}{v:V}(e:H a=some (.dK kvs))(hl:kvs.length<sizeLine):DPut H a (kV k) v (upd H a (.dK (putK kvs k v))) :=.inl ⟨kvs,k,e,rfl,hl,rfl⟩
section
variable {X:Cx}{pins:List (Addr × Obj)}{σ:St}{H:Hp}{s:Shared}{a:Addr}{y v:V}{u r:Value}{o:Option V}{A:Around}{E:Value->Shared->Prop}
def Inv.big (I:Inv X pins σ H s):sysModules<s.heap.objs.size:=by
 have h:mainGlobals<s.heap.objs.size:=(I.mod.glob.keeps I.bk).lt;exact Nat.lt_trans (by decide) h
def zc6 {Q:Value->Shared->Prop}(hu:A.units+1<cLine)(I:Inv X pins σ H s)(g:DGet H a y (some v))(ry:RelV y u)(h:∀w' s',Inv X pins σ H s'->RelV v w'->Q w' s'):
  wpAny (model X.prog X.w) A (getItem (.ref a) u) Q E s:=by
 rcases g with ⟨kvs,k,e,ey,l⟩ | ⟨kvs,k,b,e,ey,eb,l⟩
 ·subst ey;obtain⟨z,hd,vs,rel,dd⟩:=za4 I.hok e;obtain⟨w',hw,rw'⟩:=RelO.some_of (v:=v) (o:=valueAt vs k) (by rw[l]; exact rel.val k);exact wpAny_getItem_of (zby ry) dd.mapOf hw (h w' _ (I.tok _) rw')
 ·subst ey
  cases (show u=Value.ref b from ry)
  obtain⟨z,hd,xs,rel,dd⟩:=zdp I.hok e;obtain⟨w',hw,rw'⟩:=RelO.some_of (v:=v) (o:=(atKey xs k).map (·.2)) (by rw[l]; exact rel.val k);obtain⟨p,hp,hp2⟩:=Option.map_eq_some_iff.mp hw;refine wpAny_getItem_heap (tupleKind_room_in1 hu) (z9m I.hok eb) dd hp ?_;rw[hp2];exact h w' _ (I.tok _) rw'
def zft {Q:Value->Shared->Prop}(hu:A.units+1<cLine)(I:Inv X pins σ H s)(g:DGet H a y o)(ry:RelV y u)(h:∀s',Inv X pins σ H s'->Q (.bool (!o.isSome)) s'):
  wpAny (model X.prog X.w) A (compareOp .NotIn u (.ref a)) Q E s:=by
 rcases g with ⟨kvs,k,e,ey,l⟩ | ⟨kvs,k,b,e,ey,eb,l⟩
 ·subst ey;obtain⟨z,hd,vs,rel,dd⟩:=za4 I.hok e;refine wpAny_notIn_of (zby ry) hd dd.mapOf ?_;rw[<- (rel.val k).isSome_eq, <- l];exact h _ (I.tok _)
 ·subst ey
  cases (show u=Value.ref b from ry)
  obtain⟨z,hd,xs,rel,dd⟩:=zdp I.hok e;refine wpAny_notIn_heap (tupleKind_room_in1 hu) (z9m I.hok eb) hd dd ?_;have q:=(rel.val k).isSome_eq;rw[Option.isSome_map] at q;rw[<- q, <- l];exact h _ (I.tok _)
def z8F {h':Heap}{t':Nat}{ob:HO}(I:Inv X pins σ H s)(mu:Mut (H a))(hs:Heap.SameBut a s.heap h')(he:∃q,h'.get? a=some q)(new:z1l X.prog X.w (upd H a ob) h' a ob):
  Inv X pins σ (upd H a ob) { s with heap:=h',toks:=t' }:=
 I.write (x:=a) (e:=a) mu (.inl rfl) (λb q hb z=>(hs.2 b hb).trans z) he new
def zeb {P:Program}{w:World}{H':Hp}{h':Heap}{kvs:List (Key × V)}{vs:List (Key × Value)}(z:kvs.length<=sizeLine)(hd:(a == sysModules)=false)(rel:KV kvs vs)(dd:h'.DictOf (z1a P w) a vs):
  z1l P w H' h' a (.dK kvs):=⟨z,hd,vs,rel,dd⟩
def zc2 {H':Hp}{Q:Unit->Shared->Prop}(hu:A.units+1<cLine)(I:Inv X pins σ H s)(g:DPut H a y v H')(ry:RelV y u)(rv:RelV v r)(h:∀s',Inv X pins σ H' s'->Q () s'):
  wpAny (model X.prog X.w) A (setItem (.ref a) u r) Q E s:=by
 rcases g with ⟨kvs,k,e,ey,l,eH⟩ | ⟨kvs,k,b,e,ey,eb,l,eH⟩
 ·subst ey eH;obtain⟨z,hd,vs,rel,dd⟩:=zi9 I.hok e;have hz:vs.length<=sizeLine:=by rw[<- rel.length]; exact z
  have hl:(putK kvs k v).length<=sizeLine:=by have:=z47 kvs k v; omega
  refine wpAny_setItem_pairs (hsz:=hz) (zby ry) dd λh' dd' hs=>h _ ?_;have he:∃q,h'.get? a=some q:=let ⟨q,_,_,hq,_⟩:=dd'; ⟨q,hq⟩;exact z8F I (by rw[e]; exact True.intro) hs he (zeb hl hd (rel.put k rv) dd')
 ·subst ey eH
  cases (show u=Value.ref b from ry)
  obtain⟨z,hd,xs,rel,dd⟩:=zjt I.hok e;have hz:xs.length<=sizeLine:=by rw[<- Paired.length rel]; exact z
  have hl:(putK kvs k v).length<=sizeLine:=by have:=z47 kvs k v; omega
  refine wpAny_setItem_heap (hsz:=hz) (tupleKind_room_in1 hu) (z9m I.hok eb) dd λh' dd' hs=>h _ ?_;obtain⟨q,es,ep,hq,h2,h3,h4,_,h5⟩:=dd';refine z8F I (by rw[e]; exact True.intro) hs ⟨q,hq⟩ ⟨hl,hd,_,(rel.put k eb rv).keeps λc ys ec =>?_,q,es,ep,hq,h2,h3,h4,h5⟩;rw[z04 (zjh ec e (λz=>nomatch z))];exact ec
end
section
variable {X:Cx}{pins:List (Addr × Obj)}{σ:St}{H:Hp}{s:Shared}{a:Addr}{kvs:List (Key × V)}{k:Key}{u:Value}{A:Around}{E:Value->Shared->Prop}
def d_len {Q:Value->Shared->Prop}(I:Inv X pins σ H s)(e:Rd H a (.dK kvs))(h:∀t s',Inv X pins σ H s'->Q (.int kvs.length t) s'):wpAny (model X.prog X.w) A (call (.builtin "len") [.ref a]) Q E s:=by
 obtain⟨z,hd,vs,rel,dd⟩:=za4 I.hok e;refine call_len_dict hd dd (by rw[<- rel.length]; rw[sizeLine_eq] at z; omega) ?_;rw[<- rel.length];exact h _ _ (I.tok _)
end
def NoSl (i:Expr):Prop:=∀ov iv,subscripted i false ov iv=operate [ov,iv] (getItem ov iv)
def zem {prog:Program}{w:World}{A:Around}{E:Value->Shared->Prop}{s:Shared}{env:Env}{value slice:Expr}{pos:Pos}{T id:String}{Q:Value->Shared->Prop}
  (hl:typeLookup (.type T) "__getitem__"=pure (some (.builtin id))) (hs:NoSl slice)
  (h:wpAny (model prog w) A (eval value env) (λo s₁=>wpAny (model prog w) A (eval slice env) (λi s₂=>s₂.TypeIs o T/\wpAny (model prog w) A (getItem o i) Q E s₂) E s₁) E s):
  wpAny (model prog w) A (eval (.Subscript value slice pos) env) Q E s:=by
 refine Subscript_ (wK h (λo s₁ h₁=>wK h₁ (λi s₂ h₂ =>?_) λ_ _ x=>x) λ_ _ x=>x);obtain⟨hT,h₂⟩:=h₂;unfold subscriptTail;refine wa ?_;rw[getitemInPython_of_ne hT.not_modules];refine wa (wpAny_specialOf hT hl ?_);have fin:wpAny (model prog w) A (subscripted slice false o i) (λr s₃=>wpAny (model prog w) A (letTemporaryGo value o r >>= λ_=>pure r) Q E s₃) E s₂:=by
  rw[hs o i];exact wpAny_operating (wK h₂ (λr s₃ h₃=>wa (wpAny_letTemporaryGo (wf h₃))) λ_ _ x=>x)
 first
  | exact wf (wa fin)
  | exact wa (wf (wa fin))
  | exact wa fin
def z8D {X:Cx}{pins:List (Addr × Obj)}{σ:St}{H:Hp}{s:Shared}{a:Addr}{y:V}{o:Option V}(I:Inv X pins σ H s)(g:DGet H a y o):s.TypeIs (.ref a) "dict":=by
 rcases g with ⟨kvs,k,e,_,_⟩ | ⟨kvs,k,b,e,_,_,_⟩
 ·obtain⟨_,_,vs,_,dd⟩:=za4 I.hok e;exact dd.typeIs
 ·obtain⟨_,_,xs,_,dd⟩:=zdp I.hok e;exact dd.typeIs
def zir (td ty:TE):TE:=λσ H Q=>td σ H λx H1=>ty σ H1 λy H2=>∃a v,x = .ref a/\DGet H2 a y (some v)/\Q v H2
def zar (ty td:TE):TE:=λσ H Q=>ty σ H λy H1=>td σ H1 λx H2=>∃a o,x = .ref a/\DGet H2 a y o/\Q (.bl (!o.isSome)) H2
def ziy (td ty tv:TE):TS:=λD σ H=>tv σ H λv H1=>td σ H1 λx H2=>ty σ H2 λy H3=>∃a H4,x = .ref a/\DPut H3 a y v H4/\D.nx σ H4
section
variable {X:Cx}{o i e value:Expr}{pos pos' tpos:Pos}{td ty tv:TE}
def zf7 (hu:X.A.units+1<cLine)(ho:PE X o td)(hi:PE X i ty)(hs:NoSl i):PE X (.Subscript o i pos) (zir td ty):=by
 intro pins s σ H Q I h;refine zem PySem.F.slot_dict_getitem.lookup hs (thn (ho pins s σ H _ I h) λu s1 ⟨x,H1,I1,rx,q1⟩=>thn (hi pins s1 σ H1 _ I1 q1) λiv s2 ⟨y,H2,I2,ry,a,v,ex,g,q2⟩ =>?_);subst ex;obtain rfl:u=Value.ref a:=rx;exact⟨z8D I2 g,zc6 hu I2 g ry λw' s3 I3 rw'=>⟨v,H2,I3,rw',q2⟩⟩
def zbf (hu:X.A.units+1<cLine)(hi:PE X i ty)(ho:PE X o td):PC X .NotIn i o (zar ty td):=by
 intro pins s σ H Q I h;refine thn (hi pins s σ H _ I h) λiv s1 ⟨y,H1,I1,ry,q1⟩=>thn (ho pins s1 σ H1 _ I1 q1) λu s2 ⟨x,H2,I2,rx,a,ov,ex,g,q2⟩ =>?_;subst ex;obtain rfl:u=Value.ref a:=rx;exact zft hu I2 g ry λs3 I3=>⟨.bl (!ov.isSome),H2,I3,rfl,q2⟩
def zb7 (hu:X.A.units+1<cLine)(ho:PE X o td)(hi:PE X i ty)(hv:PE X value tv)(hs:swapsWith value (some (.Subscript o i pos')) pos.line X.env=pure false):
  PS X (.Assign [.Subscript o i pos'] value pos) (ziy td ty tv):=by
 intro pins s σ H D I h;refine wpAny_Assign_Subscript (thn (hv pins s σ H _ I h) λr s1 ⟨v,H1,I1,rv,q1⟩=>thn (ho pins s1 σ H1 _ I1 q1) λu s2 ⟨x,H2,I2,rx,q2⟩=>thn (hi pins s2 σ H2 _ I2 q2) λiv s3 ⟨y,H3,I3,ry,a,H4,ex,g,q3⟩ =>?_) hs;subst ex;obtain rfl:u=Value.ref a:=rx;exact zc2 hu I3 g ry rv λs4 I4=>⟨σ,H4,I4,q3⟩
end
def z9r {P:Program}{w:World}{H:Hp}(h:Heap)(hb:sysModules<h.objs.size):z1l P w H (h.push { cls :=.type "dict",data :=.dict #[] }) h.objs.size (.dK []):=
 ⟨w6 _,vK.mpr (wU (wD hb)),[],.nil,Heap.DictOf.new h⟩
def zfO:TE:=λ_ H Q=>∀p,H p=none->Q (.ref p) (upd H p (.dK []))
section
variable {X:Cx}{pos:Pos}
def zcY:PE X (.Dict [] [] pos) zfO:=λpins s σ H Q I h=>
 wpAny_Dict_empty ⟨.ref s.heap.objs.size,_,I.laid (a:=s.heap.objs.size) (o :=.dK []) (t':=s.toks) (λ_ _ q=>wd _ q) (wc _) (z9r s.heap I.big),rfl,h _ (I.hok.fresh (wc _))⟩
end
def zap:List (TE × TE)->St->Hp->(List (V × V)->Hp->Prop)->Prop
 | [],_,H,Q=>Q [] H
 | (tk,tv)::r,σ,H,Q=>tk σ H λx H1=>tv σ H1 λy H2=>zap r σ H2 λps H3=>Q ((x,y)::ps) H3
abbrev VV:List (V × V)->List (Value × Value)->Prop:=Paired λp q=>RelV p.1 q.1/\RelV p.2 q.2
def PPs (X:Cx)(pos:Pos)(keys:List (Option Expr))(values:List Expr)(trs:List (TE × TE)):Prop:=
 ∀(pins:List (Addr × Obj)) (s:Shared) (σ:St) (H:Hp) (Q:List (V × V)->Hp->Prop),Inv X pins σ H s->zap trs σ H Q->
  wpAny (model X.prog X.w) X.A (evalPairs (pairTrees keys values X.env pos)) (λvs s'=>∃ps H',Inv X pins σ H' s'/\VV ps vs/\Q ps H') X.xe s
def zf0 {X:Cx}{pos:Pos}:PPs X pos [] [] []:=λpins s σ H Q I h=>pairTrees_nil_walk ⟨[],H,I,.nil,h⟩
def zcR {X:Cx}{pos:Pos}{k v:Expr}{ks:List (Option Expr)}{vs:List Expr}{tk tv:TE}{trs:List (TE × TE)}(hk:PE X k tk)(hv:PE X v tv)(hr:PPs X pos ks vs trs):
  PPs X pos (some k::ks) (v::vs) ((tk,tv)::trs):=λpins s σ H Q I h=>
 pairTrees_cons_walk (thn (hk pins s σ H _ I h) λu s1 ⟨x,H1,I1,rx,q1⟩=>thn (hv pins s1 σ H1 _ I1 q1) λw2 s2 ⟨y,H2,I2,ry,q2⟩=>
  thn (hr pins s2 σ H2 _ I2 q2) λws s3 ⟨ps,H3,I3,rel,q3⟩=>⟨(x,y)::ps,H3,I3,.cons ⟨rx,ry⟩ rel,q3⟩)
def z7C (kvs more:List (Key × V)):List (Key × V):=more.foldl (λacc kv=>putK acc kv.1 kv.2) kvs
def KV.merge:∀{more:List (Key × V)}{rs:List (Key × Value)}{kvs:List (Key × V)}{vs:List (Key × Value)},KV more rs->KV kvs vs->KV (z7C kvs more) (merged vs rs):=by
 intro more rs kvs vs r;unfold KV at r
 induction r generalizing kvs vs with
 | nil=>intro q; exact q
 | @cons p q ps qs h t ih=>
  intro r0;have e:KV (putK kvs p.1 p.2) (stored vs q.1 q.2):=by
   have:=r0.put p.1 h.2;rw[<- h.1]; exact this
  exact ih e
theorem z4w:∀(more kvs:List (Key × V)),(z7C kvs more).length<=kvs.length+more.length
 | [],kvs=>by show kvs.length<=kvs.length+0; omega
 | p::r,kvs=>by
  have h1:=z4w r (putK kvs p.1 p.2);have h2:=z47 kvs p.1 p.2;show (z7C (putK kvs p.1 p.2) r).length<=_;rw[wC]; omega
theorem z6w {P:Program}{w:World}:∀{kvs:List (Key × V)}{ws:List (Value × Value)},VV (kvs.map λkv=>(kV kv.1,kv.2)) ws->∃rs,Carries (z1a P w) ws rs/\KV kvs rs
 | [],_,r=>by rw[vJ] at r; cases r; exact⟨[],True.intro,.nil⟩
 | p::kvs,_,r=>by
  rw[wz] at r
  cases r with
  | @cons a b as bs h t=>
   obtain⟨rs,c,q⟩:=z6w (P:=P) (w:=w) t;obtain⟨b1,b2⟩:=b;exact⟨(p.1,b2)::rs,⟨zby h.1,rfl,c⟩,.cons ⟨rfl,h.2⟩ q⟩
def ziq (trs:List (TE × TE)):TE:=λσ H Q=>∀p,H p=none->zap trs σ (upd H p (.dK [])) λps H2=>H2 p=some (.dK [])/\∃kvs:List (Key × V),ps=kvs.map (λkv=>(kV kv.1,kv.2))/\kvs.length<=15/\Q (.ref p) (upd H2 p (.dK (z7C [] kvs)))
def zf6 {X:Cx}{pos:Pos}{keys:List (Option Expr)}{values:List Expr}{trs:List (TE × TE)}(h:PPs X pos keys values trs)(hall:keys.all (·.isSome)=true)(hl:keys.length=values.length)(h0:keys≠[])
  (h15:keys.length<=15):PE X (.Dict keys values pos) (ziq trs):=by
 intro pins s σ H Q I q;have hn:=I.hok.fresh (wc s.heap.objs.size);have I1:=I.laid (a:=s.heap.objs.size) (o :=.dK []) (h':=s.heap.push { cls :=.type "dict",data :=.dict #[] }) (t':=s.toks) (λ_ _ q=>wd _ q) (wc _) (z9r s.heap I.big);refine wpAny_Dict_walk (knd:=z1a X.prog X.w) hall hl h0 h15 (thn (h pins _ σ _ _ I1 (q _ hn)) λws s2 ⟨ps,H2,I2,rel,e,kvs,ep,lk,q2⟩ =>?_);subst ep;obtain⟨rs,c,rk⟩:=z6w (P:=X.prog) (w:=X.w) rel;obtain⟨z,hd,vs0,r0,dd⟩:=zi9 I2.hok e
 cases r0
 refine⟨rs,c,dd,λh' dd' hs=>⟨.ref s.heap.objs.size,_,?_,rfl,q2⟩⟩;have hz:(z7C [] kvs).length<=sizeLine:=by
  have h1:=z4w kvs [];rw[va] at h1;rw[sizeLine_eq]; omega
 have he:∃q,h'.get? s.heap.objs.size=some q:=let ⟨q,_,_,hq,_⟩:=dd'; ⟨q,hq⟩;exact z8F I2 (by rw[e]; exact True.intro) hs he (zeb hz hd (rk.merge .nil) dd')
end L2
namespace Att
open PySem PySem.W PySem.Calls PyProof.Rows
end Att
namespace L2
open PySem PySem.Spec PyProof.Rows
end L2
namespace Pu
open PySem PySem.Spec PyProof.Rows L2
def dk (kvs:List (Key × D)):D :=.dct (kvs.map λp=>kD p.1) (kvs.map (·.2))
def fk (kvs:List (Key × D)):D :=.fz (kvs.map λp=>kD p.1) (kvs.map (·.2))
def IsDk (d:D)(kvs:List (Key × D)):Prop:=d=dk kvs\/d=fk kvs
def valD (kvs:List (Key × D))(k:Key):Option D:=(kvs.find? λp=>decide (p.1=k)).map (·.2)
def putD (kvs:List (Key × D))(k:Key)(d:D):List (Key × D):=if (kvs.any λp=>decide (p.1=k))=true then kvs.map (λp=>if p.1=k then (p.1,d) else p) else kvs++[(k,d)]
def PK (K:W.Frag)(mg:Str->Option Value)(G:Hp):List (Key × D)->List (Key × V)->Prop
 | [],[]=>True
 | (k,d)::r,(k',v)::r'=>k=k'/\RD K mg G d v/\PK K mg G r r'
 | _,_=>False
def zhS:∀{k k':Key},kD k=kD k'->k=k'
 | .inl _,.inl _,h=>by injection h with h; rw[h]
 | .inr _,.inr _,h=>by injection h with h; rw[h]
 | .inl _,.inr _,h=>by cases h
 | .inr _,.inl _,h=>by cases h
section
variable {K:W.Frag}{mg:Str->Option Value}{G G' H:Hp}
theorem PK.of:∀{kvs:List (Key × D)}{kw:List (Key × V)},kvs.map (λp=>kD p.1)=kw.map (λp=>kD p.1)->RDs K mg G (kvs.map (·.2)) (kw.map (·.2))->PK K mg G kvs kw
 | [],[],_,_=>trivial
 | [],_::_,h,_=>by cases h
 | _::_,[],h,_=>by cases h
 | (k,d)::r,(k',v)::r',h,q=>by
  simp only[wz,uj] at h q;rw[RDs] at q;obtain⟨x,y,e,h1,h2⟩:=q;simp only[uj] at e;obtain⟨rfl,rfl⟩:=e;exact⟨zhS h.1,h1,PK.of h.2 h2⟩
theorem PK.keys:∀{kvs:List (Key × D)}{kw:List (Key × V)},PK K mg G kvs kw->kvs.map (·.1)=kw.map (·.1)
 | [],[],_=>rfl
 | [],_::_,h=>h.elim
 | _::_,[],h=>h.elim
 | (k,d)::r,(k',v)::r',h=>by
  obtain⟨rfl,_,h⟩:=h;simp[PK.keys h]
theorem PK.rds:∀{kvs:List (Key × D)}{kw:List (Key × V)},PK K mg G kvs kw->RDs K mg G (kvs.map (·.2)) (kw.map (·.2))
 | [],[],_=>RDs.nil
 | [],_::_,h=>h.elim
 | _::_,[],h=>h.elim
 | (k,d)::r,(k',v)::r',h=>RDs.cons h.2.1 (PK.rds h.2.2)
theorem PK.same (g:Same G G'):∀{kvs:List (Key × D)}{kw:List (Key × V)},PK K mg G kvs kw->PK K mg G' kvs kw
 | [],[],_=>trivial
 | [],_::_,h=>h.elim
 | _::_,[],h=>h.elim
 | (k,d)::r,(k',v)::r',h=>⟨h.1,h.2.1.same g,PK.same g h.2.2⟩
theorem PK.val {j:Key}:∀{kvs:List (Key × D)}{kw:List (Key × V)},PK K mg G kvs kw->(valD kvs j=none/\valV kw j=none)\/∃d v,valD kvs j=some d/\valV kw j=some v/\RD K mg G d v
 | [],[],_ =>.inl ⟨rfl,rfl⟩
 | [],_::_,h=>h.elim
 | _::_,[],h=>h.elim
 | (k,d)::r,(k',v)::r',h=>by
  obtain⟨rfl,h1,h2⟩:=h
  by_cases e:k=j
  ·refine .inr ⟨d,v,?_,z5a e,h1⟩;unfold valD;rw[vA,wH e]
   rfl
  ·have e1:valD ((k,d)::r) j=valD r j:=by
    unfold valD;rw[vA,wB e]
   rw[e1,z5b e];exact PK.val h2
theorem PK.any {j:Key}{kvs:List (Key × D)}{kw:List (Key × V)}(h:PK K mg G kvs kw):(kvs.any λp=>decide (p.1=j))=(kw.any λp=>decide (p.1=j)):=by
 have e1:(kvs.any λp=>decide (p.1=j))=((kvs.map (·.1)).any λk=>decide (k=j)):=by rw[List.any_map]; rfl
 have e2:(kw.any λp=>decide (p.1=j))=((kw.map (·.1)).any λk=>decide (k=j)):=by rw[List.any_map]; rfl
 rw[e1,e2,h.keys]
theorem PK.repl {j:Key}{d0:D}{v0:V}(r0:RD K mg G d0 v0):∀{kvs:List (Key × D)}{kw:List (Key × V)},PK K mg G kvs kw->PK K mg G (kvs.map λp=>if p.1=j then (p.1,d0) else p) (kw.map λp=>if p.1=j then (p.1,v0) else p)
 | [],[],_=>trivial
 | [],_::_,h=>h.elim
 | _::_,[],h=>h.elim
 | (k,d)::r,(k',v)::r',h=>by
  obtain⟨rfl,h1,h2⟩:=h;simp only[wz]
  by_cases e:k=j
  ·rw[if_pos e,if_pos e]; exact⟨rfl,r0,PK.repl r0 h2⟩
  ·rw[if_neg e,if_neg e]; exact⟨rfl,h1,PK.repl r0 h2⟩
theorem PK.snoc {j:Key}{d0:D}{v0:V}(r0:RD K mg G d0 v0):∀{kvs:List (Key × D)}{kw:List (Key × V)},PK K mg G kvs kw->PK K mg G (kvs++[(j,d0)]) (kw++[(j,v0)])
 | [],[],_=>⟨rfl,r0,trivial⟩
 | [],_::_,h=>h.elim
 | _::_,[],h=>h.elim
 | (k,d)::r,(k',v)::r',h=>⟨h.1,h.2.1,PK.snoc r0 h.2.2⟩
def PK.put {j:Key}{d0:D}{v0:V}(r0:RD K mg G d0 v0){kvs:List (Key × D)}{kw:List (Key × V)}(h:PK K mg G kvs kw):PK K mg G (putD kvs j d0) (putK kw j v0):=by
 unfold putD putK;rw[h.any]
 split
 ·exact h.repl r0
 ·exact h.snoc r0
def PK.len {kvs:List (Key × D)}{kw:List (Key × V)}(h:PK K mg G kvs kw):kvs.length=kw.length:=by
 have:=congrArg List.length h.keys;simpa using this
def zbk {a:Addr}{kvs:List (Key × D)}(h:z3u K mg G H a (dk kvs)):∃kw,H a=some (.dK kw)/\PK K mg G kvs kw:=by
 obtain⟨xs,h1,⟨kw,q,e1,rfl⟩ | ⟨kw,q,n,e1,rfl⟩⟩:=h
 ·exact⟨kw,q,PK.of e1 h1⟩
 ·exfalso
  cases kw with
  | nil=>exact n rfl
  | cons p r=>
   cases kvs with
   | nil=>cases e1
   | cons p' r'=>
    simp only[wz,uj] at e1;obtain⟨⟨i | x,d⟩,_⟩:=p',r'
    all_goals exact absurd e1.1 (by simp[kD])
def zbW {a:Addr}{kvs:List (Key × D)}{kw:List (Key × V)}(h:H a=some (.dK kw))(p:PK K mg G kvs kw):z3u K mg G H a (dk kvs):=by
 refine⟨_,p.rds,.inl ⟨kw,h,?_,rfl⟩⟩;have:kvs.map (λp=>kD p.1)=(kvs.map (·.1)).map kD:=by rw[vf]; rfl
 rw[this,p.keys,vf]
 rfl
def zex {v:V}{kvs:List (Key × D)}(h:RD K mg G (dk kvs) v):∃a kw,v = .ref a/\Rd G a (.dK kw)/\PK K mg G kvs kw:=by
 unfold dk at h;rw[RD] at h;obtain⟨a,xs,rfl,h1,⟨kw,q,e1,rfl⟩ | ⟨kw,q,n,e1,rfl⟩⟩:=h
 ·exact⟨a,kw,rfl,q,PK.of e1 h1⟩
 ·exfalso
  cases kw with
  | nil=>exact n rfl
  | cons p r=>
   cases kvs with
   | nil=>cases e1
   | cons p' r'=>
    simp only[wz,uj] at e1;obtain⟨⟨i | x,d⟩,_⟩:=p',r'
    all_goals exact absurd e1.1 (by simp[kD])
def zge {v:V}{kvs:List (Key × D)}(h:RD K mg G (fk kvs) v):∃a kw o,v = .ref a/\G a=some (.frz o (.dK kw))/\PK K mg G kvs kw:=by
 unfold fk at h;rw[RD] at h;obtain⟨a,xs,rfl,h1,o,kw,q,e1,rfl⟩:=h;exact⟨a,kw,o,rfl,q,PK.of e1 h1⟩
def zdK {v:V}{d:D}{kvs:List (Key × D)}(i:IsDk d kvs)(h:RD K mg G d v):∃a kw,v = .ref a/\Rd G a (.dK kw)/\PK K mg G kvs kw:=by
 rcases i with rfl | rfl
 ·exact zex h
 ·obtain⟨a,kw,o,e,q,p⟩:=zge h;exact⟨a,kw,e,.inr ⟨o,q⟩,p⟩
def zaO {k:Key}{v:V}(h:RD K mg G (kD k) v):v=kV k:=by
 cases k with
 | inl i=>exact(by rw[kD,RD] at h; exact h)
 | inr x=>exact(by rw[kD,RD] at h; exact h)
end
end Pu
namespace Tim
open PySem PyProof.Rows
def z8A:Bool->Keyed->Array Keyed->Nat->Nat->Nat->StateT SortSt Sem (Option Nat):=sortPriv% PySem.Builtin.gallop
def z1X:Nat->StateT SortSt Sem Unit:=sortPriv% PySem.Builtin.setMinGallop
def zdc:Array Keyed->Array Keyed->StateT SortSt Sem (Array Keyed):=sortPriv% PySem.Builtin.mergeLo
def zdd:Array Keyed->Array Keyed->StateT SortSt Sem (Array Keyed):=sortPriv% PySem.Builtin.mergeHi
abbrev z1Y (st:SortSt)(g:Nat):SortSt:=SortSt.mk' (kindOf st) (arrOf st) (pendingOf st) g (failedOf st)
def z1K (g:Nat):z1X g=modify λs=>z1Y s g:=rfl
section
variable {M:Model}{A:Around}{E:Value->Shared->Prop}{s:Shared}{rk:Keyed->Nat}{κ:SortKind}{a₀:Array Keyed}
def Asks (M:Model)(A:Around)(s:Shared)(κ:SortKind)(a₀:Array Keyed)(rk:Keyed->Nat):Prop:=
 ∀x y,x∈a₀.toList->y∈a₀.toList->∀(Q:Bool->Shared->Prop) (E:Value->Shared->Prop),Q (decide (rk x<rk y)) s->wpAny M A (keyLt' κ x.1 y.1) Q E s
structure TB (κ:SortKind)(a₀:Array Keyed)(st:SortSt):Prop where
 kind:kindOf st=κ
 failed:failedOf st=none
 perm:(arrOf st).Perm a₀
def zhj {α:Type}{P:α->Prop}{G:Prop}(p:∀x,P x)(u:(∀x,P x)->G):G:=u p
def zd4 {α β:Type}{H P:α->β->Prop}{G:Prop}(p:∀x y,H x y->P x y)(u:(∀x y,H x y->P x y)->G):G:=u p
def zhi {α:Type}{H P:α->Prop}{G:Prop}(p:∀x,H x->P x)(u:(∀x,H x->P x)->G):G:=u p
def z78 (hL:Asks M A s κ a₀ rk){st:SortSt}{x y:Keyed}{Q:Option Bool->SortSt->Prop}(hk:kindOf st=κ)(hx:x∈a₀.toList)(hy:y∈a₀.toList)(h:Q (some (decide (rk x<rk y))) st):
  wpS M A E s (lt' x y) Q st:=by
 rw[lt'_eq];refine wm (wpS_get ?_);rw[hk];refine wm (wpS_lift (wpAny_attempt (hL x y hx hy _ _ ⟨rfl,?_⟩)));exact wu h
def z0r {st:SortSt}{arr:Array Keyed}{i:Nat}{p:Keyed}{Q:Keyed->SortSt->Prop}(e:arr[i]? = some p)(h:Q p st):wpS M A E s (elem' arr i) Q st:=by
 rw[elem'_eq,e];exact wu h
theorem TB.size {st:SortSt}(h:TB κ a₀ st):(arrOf st).size=a₀.size:=h.perm.size_eq
def TB.mem {st:SortSt}(h:TB κ a₀ st){p:Keyed}(hp:p∈(arrOf st).toList):p∈a₀.toList:=(vB.mp h.perm).mem_iff.mp hp
def Rk (rk:Keyed->Nat)(xs:Array Keyed)(i:Nat):Nat:=match xs[i]? with
 | some p=>rk p
 | none=>0
def z0L {xs:Array Keyed}{i:Nat}{p:Keyed}(h:xs[i]? = some p):Rk rk xs i=rk p:=by unfold Rk; rw[h]
def z1B {xs ys:Array Keyed}{i j:Nat}(h:xs[i]? = ys[j]?):Rk rk xs i=Rk rk ys j:=by unfold Rk; rw[h]
def z1S {xs:Array Keyed}{i:Nat}(h:i<xs.size):∃p,xs[i]? = some p/\p∈xs.toList:=⟨xs[i],uc xs i h,by simp⟩
theorem TB.setArr {st:SortSt}(h:TB κ a₀ st){xs:Array Keyed}(hp:xs.Perm (arrOf st)):TB κ a₀ (setArr st xs):=⟨h.kind,h.failed,hp.trans h.perm⟩
def z4K (hL:Asks M A s κ a₀ rk){st:SortSt}{i j:Nat}{Q:Option Bool->SortSt->Prop}(hB:TB κ a₀ st)(hi:i<a₀.size)(hj:j<a₀.size)
  (h:Q (some (decide (Rk rk (arrOf st) i<Rk rk (arrOf st) j))) st):wpS M A E s (ltAt' i j) Q st:=by
 obtain⟨p,e1,m1⟩:=z1S (xs:=arrOf st) (i:=i) (by rw[hB.size]; exact hi);obtain⟨q,e2,m2⟩:=z1S (xs:=arrOf st) (i:=j) (by rw[hB.size]; exact hj);rw[z0L e1,z0L e2] at h;rw[ltAt'_eq];refine wm (wpS_get ?_);exact wm (z0r e1 (wm (z0r e2 (z78 hL hB.kind (hB.mem m1) (hB.mem m2) h))))
def z6f (hL:Asks M A s κ a₀ rk){st:SortSt}{left:Bool}{key:Keyed}{arr:Array Keyed}{base n hint:Nat}{Q:Option Nat->SortSt->Prop}(hk:kindOf st=κ)(hkey:key∈a₀.toList)
  (harr:∀p∈arr.toList,p∈a₀.toList) (hn:base+n<=arr.size) (hh:hint<n) (P:Nat->Bool)
  (hP:∀i,i<n->P i=(if left then decide (Rk rk arr (base+i)<rk key) else !decide (rk key<Rk rk arr (base+i))))
  (hmono:∀i j,i<=j->j<n->P j=true->P i=true)
  (h:∀k,k<=n->(∀i,i<k->P i=true)->(∀i,k<=i->i<n->P i=false)->Q (some k) st):wpS M A E s (z8A left key arr base n hint) Q st:=by
 have ask:∀(i:Nat) (R:Option Bool->SortSt->Prop),i<n->R (some (P i)) st->wpS M A E s (do
   let x <- elem' arr (base+i)
   if left=true then lt' x key else do
    let r <- lt' key x
    pure (r.map (!·))) R st:=by
  intro i R hi hr;obtain⟨p,e1,m1⟩:=z1S (xs:=arr) (i:=base+i) (by omega);rw[hP i hi,z0L e1] at hr;refine wm (z0r e1 ?_)
  cases left with
  | true=>exact z78 hL hk (harr _ m1) hkey hr
  | false=>exact wm (z78 hL hk hkey (harr _ m1) (wu hr))
 have hmonoF:∀i j,i<=j->j<n->P i=false->P j=false:=λi j hij hj hi=>by
  cases q:P j with
  | false=>rfl
  | true=>rw[hmono i j hij hj q] at hi; cases hi
 have last:∀lo hi,lo<=hi->hi<=n->(∀i,i<lo->P i=true)->(∀i,hi<=i->i<n->P i=false)->∀(f:Nat->Option (Option Nat) × Nat × Nat->StateT SortSt Sem (ForInStep (Option (Option Nat) × Nat × Nat))) (k:Option (Option Nat) × Nat × Nat->StateT SortSt Sem (Option Nat)),
   (∀x l r (R:ForInStep (Option (Option Nat) × Nat × Nat)->SortSt->Prop),r<=n->(l>=r->R (.done (none,l,r)) st)->(l<r->P (l+(r - l) / 2)=true->R (.yield (none,l+(r - l) / 2+1,r)) st)->(l<r->P (l+(r - l) / 2)=false->R (.yield (none,l,l+(r - l) / 2)) st)->wpS M A E s (f x (none,l,r)) R st)->
   (∀l r (R:Option Nat->SortSt->Prop),R (some r) st->wpS M A E s (k (none,l,r)) R st)->wpS M A E s (forIn [0:n] ((none,lo,hi):Option (Option Nat) × Nat × Nat) f >>= k) Q st:=by
  intro lo hi hlh hhn hlo hhi f k hf hk;refine wm (vP (vh (I:=λx c st'=>st'=st/\∃l r,c=(none,l,r)/\l<=r/\r<=n/\r - l<=n - x/\(∀i,i<l->P i=true)/\(∀i,r<=i->i<n->P i=false))
   (Q:=λc st'=>st'=st/\∃l,c=(none,l,l)/\l<=n/\(∀i,i<l->P i=true)/\(∀i,l<=i->i<n->P i=false)) ?step ?fin ⟨rfl,lo,hi,rfl,hlh,hhn,by omega,hlo,hhi⟩) ?post)
  case fin=>
   rintro c st' ⟨rfl,l,r,rfl,h1,h2,h3,h4,h5⟩;have:l=r:=by omega
   subst this;exact⟨rfl,l,rfl,h2,h4,h5⟩
  case post=>
   rintro c st' ⟨rfl,l,rfl,h2,h4,h5⟩;exact hk _ _ _ (h l h2 h4 h5)
  case step=>
   rintro x c st' _ hx ⟨rfl,l,r,rfl,h1,h2,h3,h4,h5⟩;refine hf x l r _ h2 (λhge =>?_) (λhlt q =>?_) (λhlt q =>?_)
   ·have:l=r:=by omega
    subst this;exact⟨rfl,l,rfl,h2,h4,h5⟩
   ·exact⟨rfl,_,_,rfl,by omega,h2,by omega,λi hi=>hmono i _ (by omega) (by omega) q,h5⟩
   ·exact⟨rfl,_,_,rfl,by omega,by omega,by omega,h4,λi h1 h2=>hmonoF _ i h1 h2 q⟩
 try dsimp only
 refine wm (ask hint _ hh ?_)
 cases q:P hint with
 | true=>
  simp only[uh];refine wm (vP (vh (I:=λx c st'=>st'=st/\∃la o,c=(none,la,o)/\la<o/\x<o/\hint+la<n/\P (hint+la)=true)
   (Q:=λc st'=>st'=st/\∃la o,c=(none,la,o)/\la<o/\hint+la<n/\P (hint+la)=true/\(o>=n - hint\/(hint+o<n/\P (hint+o)=false))) ?step ?fin ⟨rfl,0,1,rfl,by omega,by omega,by omega,q⟩) ?post)
  case post=>
   rintro c st' ⟨rfl,la,o,rfl,h1,h2,h3,h4⟩;dsimp only;refine last (hint+la+1) (hint+min o (n - hint)) (by omega) (by omega) (λi hi=>hmono i (hint+la) (by omega) h2 h3) (λi h5 h6 =>?_) _ _ ?_ ?_
   rotate_left
   ·intro x l r R hr ha hb hc;dsimp only
    by_cases hge:l>=r
    ·rw[if_pos hge]; exact wu (ha hge)
    ·rw[if_neg hge];refine wm (ask (l+(r - l) / 2) _ (by omega) ?_)
     cases q9:P (l+(r - l) / 2) with
     | true=>simp only[uh]; exact wu (hb (by omega) q9)
     | false=>simp only[vp,uo]; exact wu (hc (by omega) q9)
   ·intro l r R hr;exact wu hr
   rcases h4 with h4 | ⟨h4,h7⟩
   ·omega
   ·exact hmonoF (hint+o) i (by omega) h6 h7
  case fin=>
   rintro c st' ⟨rfl,la,o,rfl,h1,h0,h2,h3⟩;exact⟨rfl,la,o,rfl,h1,h2,h3,.inl (by omega)⟩
  case step=>
   rintro x c st' _ hx ⟨rfl,la,o,rfl,h1,h0,h2,h3⟩;dsimp only
   by_cases hge:o>=n - hint
   ·rw[if_pos hge];exact wu ⟨rfl,la,o,rfl,h1,h2,h3,.inl hge⟩
   ·rw[if_neg hge];refine wm (ask (hint+o) _ (by omega) ?_)
    cases q':P (hint+o) with
    | true=>
     simp only[Bool.not_true,vp,uo];exact wu ⟨rfl,_,_,rfl,by omega,by omega,by omega,q'⟩
    | false=>
     simp only[Bool.not_false,uh];exact wu ⟨rfl,la,o,rfl,h1,h2,h3,.inr ⟨by omega,q'⟩⟩
 | false=>
  simp only[vp,uo];refine wm (vP (vh (I:=λx c st'=>st'=st/\∃la o,c=(none,la,o)/\la<o/\x<o/\la<=hint/\P (hint - la)=false)
   (Q:=λc st'=>st'=st/\∃la o,c=(none,la,o)/\la<o/\la<=hint/\P (hint - la)=false/\(o>=hint+1\/(o<=hint/\P (hint - o)=true))) ?step ?fin ⟨rfl,0,1,rfl,by omega,by omega,by omega,q⟩) ?post)
  case post=>
   rintro c st' ⟨rfl,la,o,rfl,h1,h2,h3,h4⟩;dsimp only;refine last (hint+1 - min o (hint+1)) (hint - la) (by omega) (by omega) (λi hi =>?_) (λi h5 h6=>hmonoF (hint - la) i h5 h6 h3) _ _ ?_ ?_
   rotate_left
   ·intro x l r R hr ha hb hc;dsimp only
    by_cases hge:l>=r
    ·rw[if_pos hge]; exact wu (ha hge)
    ·rw[if_neg hge];refine wm (ask (l+(r - l) / 2) _ (by omega) ?_)
     cases q9:P (l+(r - l) / 2) with
     | true=>simp only[uh]; exact wu (hb (by omega) q9)
     | false=>simp only[vp,uo]; exact wu (hc (by omega) q9)
   ·intro l r R hr;exact wu hr
   rcases h4 with h4 | ⟨h4,h7⟩
   ·omega
   ·exact hmono i (hint - o) (by omega) (by omega) h7
  case fin=>
   rintro c st' ⟨rfl,la,o,rfl,h1,h0,h2,h3⟩;exact⟨rfl,la,o,rfl,h1,h2,h3,.inl (by omega)⟩
  case step=>
   rintro x c st' _ hx ⟨rfl,la,o,rfl,h1,h0,h2,h3⟩;dsimp only
   by_cases hge:o>=hint+1
   ·rw[if_pos hge];exact wu ⟨rfl,la,o,rfl,h1,h2,h3,.inl hge⟩
   ·rw[if_neg hge];refine wm (ask (hint - o) _ (by omega) ?_)
    cases q':P (hint - o) with
    | false=>
     simp only[vp,uo]
     by_cases h9:2*o+1<=hint+1
     ·exact wu ⟨rfl,_,_,rfl,by omega,by omega,by omega,q'⟩
     ·exact wu ⟨rfl,_,_,rfl,by omega,by omega,by omega,q'⟩
    | true=>
     simp only[uh];exact wu ⟨rfl,la,o,rfl,h1,h2,h3,.inr ⟨by omega,q'⟩⟩
def z0f {σ α:Type}{c:Prop}[Decidable c]{x y:StateT σ Sem α}{Q:α->σ->Prop}{st:σ}(h:c)(k:wpS M A E s x Q st):wpS M A E s (if c then x else y) Q st:=by
 rw[if_pos h];exact k
def z0e {σ α:Type}{c:Prop}[Decidable c]{x y:StateT σ Sem α}{Q:α->σ->Prop}{st:σ}(h:¬ c)(k:wpS M A E s y Q st):wpS M A E s (if c then x else y) Q st:=by
 rw[if_neg h];exact k
end
section
variable {t1 t2 t3 t4 t5 t6 t7 C S:Type}{c:C}{s:S}{G:C->S->Prop}
def el5 {F:t1->t2->t3->t4->t5->C}{H:t1->t2->t3->t4->t5->S}{P:t1->t2->t3->t4->t5->Prop}(h:∃a b x d e,c=F a b x d e/\s=H a b x d e/\P a b x d e)(k:∀a b x d e,P a b x d e->G (F a b x d e) (H a b x d e)):G c s:=by
 obtain⟨a,b,x,d,e,rfl,rfl,p⟩:=h;exact k a b x d e p
def el7 {F:t1->t2->t3->t4->t5->t6->t7->C}{H:t1->t2->t3->t4->t5->t6->t7->S}{P:t1->t2->t3->t4->t5->t6->t7->Prop}(h:∃a b x d e f g,c=F a b x d e f g/\s=H a b x d e f g/\P a b x d e f g)(k:∀a b x d e f g,P a b x d e f g->G (F a b x d e f g) (H a b x d e f g)):G c s:=by
 obtain⟨a,b,x,d,e,f,g,rfl,rfl,p⟩:=h;exact k a b x d e f g p
def elc0 {C:Type}{c F:C}{P:Prop}{G:C->Prop}(h:c=F/\P)(k:P->G F):G c:=by
 obtain⟨rfl,p⟩:=h;exact k p
def elc1 {t1 C:Type}{c:C}{F:t1->C}{P:t1->Prop}{G:C->Prop}(h:∃a,c=F a/\P a)(k:∀a,P a->G (F a)):G c:=by
 obtain⟨a,rfl,p⟩:=h;exact k a p
end
section
variable {M:Model}{A:Around}{E:Value->Shared->Prop}{s:Shared}{rk:Keyed->Nat}{κ:SortKind}{a₀:Array Keyed}
def Seg (rk:Keyed->Nat)(xs:Array Keyed)(i j:Nat):Prop:=∀p q,i<=p->p<=q->q<j->Rk rk xs p<=Rk rk xs q
def Gec (rk:Keyed->Nat)(xs:Array Keyed)(i j:Nat):Prop:=∀p q,i<=p->p<=q->q<j->Rk rk xs q<=Rk rk xs p
def Low (xs ys:Array Keyed)(lo:Nat):Prop:=∀k,k<lo->xs[k]? = ys[k]?
def Seg.one {xs:Array Keyed}{i j:Nat}(h:j<=i+1):Seg rk xs i j:=λp q a1 a2 a3=>by
 obtain rfl:p=q:=by lia
 exact wc _
def Low.refl {xs:Array Keyed}{lo:Nat}:Low xs xs lo:=λ_ _=>rfl
theorem Low.trans {xs ys zs:Array Keyed}{lo:Nat}(h:Low xs ys lo)(k:Low ys zs lo):Low xs zs lo:=λi hi=>(h i hi).trans (k i hi)
def z5Z {xs:Array Keyed}{i j:Nat}(hj:j<=xs.size)(k:Nat):
  Rk rk (mirror xs i j ((j - i) / 2)) k=if i<=k/\k<j then Rk rk xs (i+j - 1 - k) else Rk rk xs k:=by
 have e:=getElem?_mirror_all (i:=i) hj k
 by_cases h1:i<=k/\k<j
 ·rw[if_pos h1] at e ⊢; exact z1B e
 ·rw[if_neg h1] at e ⊢; exact z1B e
def z1y {xs:Array Keyed}{i j:Nat}(hj:j<=xs.size)(heq:∀k,i<=k->k<j->Rk rk xs k=Rk rk xs (j - 1))(k:Nat):
  Rk rk (mirror xs i j ((j - i) / 2)) k=Rk rk xs k:=by
 rw[z5Z hj]
 split
 ·rw[heq _ (by lia) (by lia),heq k (by lia) (by lia)]
 ·rfl
def z3T {xs:Array Keyed}{i j lo:Nat}(hj:j<=xs.size)(hi:lo<=i):Low (mirror xs i j ((j - i) / 2)) xs lo:=λk hk=>by
 rw[getElem?_mirror_all hj k,if_neg (by lia)]
def z81 {xs:Array Keyed}{src d:Nat}(hs:src<xs.size)(hd:d<=src)(k:Nat):
  Rk rk (bubble xs src d) k=if k=src - d then Rk rk xs src else if src - d<k/\k<=src then Rk rk xs (k - 1) else Rk rk xs k:=by
 have e:=getElem?_bubble hs d hd k
 by_cases h1:k=src - d
 ·rw[if_pos h1] at e ⊢; exact z1B e
 ·rw[if_neg h1] at e ⊢
  by_cases h2:src - d<k/\k<=src
  ·rw[if_pos h2] at e ⊢; exact z1B e
  ·rw[if_neg h2] at e ⊢; exact z1B e
def zab {xs:Array Keyed}{src d lo:Nat}(hs:src<xs.size)(hd:d<=src)(hl:lo<=src - d):Low (bubble xs src d) xs lo:=λk hk=>by
 rw[getElem?_bubble hs d hd k,if_neg (by lia),if_neg (by lia)]
def z2M {st:SortSt}{i j:Nat}{Q:Unit->SortSt->Prop}(h:Q () (setArr st (mirror (arrOf st) i j ((j - i) / 2)))):
  wpS M A E s (reverseSlice' i j) Q st:=by
 rw[reverseSlice'_eq]; exact vR h
def zad {st:SortSt}{lo a nrem:Nat}{Q:Option Nat->SortSt->Prop}{f:Nat->Option (Option Nat) × Nat->StateT SortSt Sem (ForInStep (Option (Option Nat) × Nat))}{k:Option (Option Nat) × Nat->StateT SortSt Sem (Option Nat)}
  (ha:1<=a) (han:a<=nrem) (hs:Seg rk (arrOf st) lo (lo+a))
  (hf:∀x n (R:ForInStep (Option (Option Nat) × Nat)->SortSt->Prop),1<=n->n<nrem->(Rk rk (arrOf st) (lo+n)<Rk rk (arrOf st) (lo+n - 1)->R (.done (none,n)) st)->(Rk rk (arrOf st) (lo+n - 1)<=Rk rk (arrOf st) (lo+n)->R (.yield (none,n+1)) st)->wpS M A E s (f x (none,n)) R st)
  (hk:∀n,a<=n->n<=nrem->Seg rk (arrOf st) lo (lo+n)->(n=nrem\/Rk rk (arrOf st) (lo+n)<Rk rk (arrOf st) (lo+n - 1))->wpS M A E s (k (none,n)) Q st):
  wpS M A E s (forIn [a:nrem] ((none,a):Option (Option Nat) × Nat) f >>= k) Q st:=by
 refine wm (vP (vh (I:=λx c st'=>st'=st/\c=(none,x)/\Seg rk (arrOf st) lo (lo+x))
  (Q:=λc st'=>st'=st/\∃n,c=(none,n)/\a<=n/\n<=nrem/\Seg rk (arrOf st) lo (lo+n)/\(n=nrem\/Rk rk (arrOf st) (lo+n)<Rk rk (arrOf st) (lo+n - 1))) ?step ?fin ⟨rfl,rfl,hs⟩) ?post)
 case fin=>
  rintro c st' ⟨rfl,rfl,hs'⟩;rw[show max a nrem=nrem by lia] at hs' ⊢;exact⟨rfl,nrem,rfl,han,wc _,hs',.inl rfl⟩
 case post=>
  rintro c st' ⟨rfl,n,rfl,h1,h2,h3,h4⟩;exact hk n h1 h2 h3 h4
 case step=>
  rintro x c st' hax hxn ⟨rfl,rfl,hs'⟩;refine hf x x _ (by lia) hxn (λhl=>⟨rfl,x,rfl,hax,by lia,hs',.inr hl⟩) (λhl=>⟨rfl,rfl,λp q h1 h2 h3 =>?_⟩)
  by_cases hq:q<lo+x
  ·exact hs' p q h1 h2 hq
  ·have e:q=lo+x:=by lia
   subst e
   by_cases hp:p=lo+x
   ·subst hp; exact wc _
   ·exact wQ (hs' p (lo+x - 1) h1 (by lia) (by lia)) hl
def z79 (hL:Asks M A s κ a₀ rk){st:SortSt}{lo nrem:Nat}{Q:Option Nat->SortSt->Prop}(hn:lo+nrem<=a₀.size)(h1:1<=nrem)(hB:TB κ a₀ st)
  (h:∀m st',TB κ a₀ st'->pendingOf st'=pendingOf st->1<=m->m<=nrem->Seg rk (arrOf st') lo (lo+m)->Low (arrOf st') (arrOf st) lo->Q (some m) st'):
  wpS M A E s (countRun' lo nrem) Q st:=by
 try dsimp only
 refine zad (rk:=rk) (lo:=lo) (wc 1) h1 (Seg.one (wc _)) ?f ?k
 case f=>
  intro x n R n1 n2 ha hb;dsimp only;refine wm (z4K hL hB (by lia) (by lia) ?_)
  by_cases hl:Rk rk (arrOf st) (lo+n)<Rk rk (arrOf st) (lo+n - 1)
  ·refine z0f (by simpa using hl) ?_; exact wu (ha hl)
  ·refine z0e (by simpa using hl) ?_; exact wu (hb (by lia))
 case k=>
  intro n hn1 hn2 hsn hor;dsimp only
  by_cases hnn:n=nrem
  ·refine z0f (by simpa using hnn) ?_;exact wu (h n st hB rfl hn1 hn2 hsn Low.refl)
  ·refine z0e (by simpa using hnn) ?_;have hlt:=hor.resolve_left hnn;have hsz:lo+n<=(arrOf st).size:=by rw[hB.size]; lia
   refine zhi (H:=λst1:SortSt=>TB κ a₀ st1/\pendingOf st1=pendingOf st/\Gec rk (arrOf st1) lo (lo+n+1)/\Low (arrOf st1) (arrOf st) lo) (P := ?pp1) ?tl1 ?us1
   case us1=>
    intro J
    by_cases hgt:n > 1
    ·refine z0f hgt ?_;refine wm (z4K hL hB (by lia) (by lia) ?_)
     by_cases hrose:Rk rk (arrOf st) lo<Rk rk (arrOf st) (lo+n - 1)
     ·refine z0f (by simpa using hrose) ?_;exact wu (h n st hB rfl hn1 hn2 hsn Low.refl)
     refine z0e (by simpa using hrose) ?_;have hall:∀k,lo<=k->k<lo+n->Rk rk (arrOf st) k=Rk rk (arrOf st) (lo+n - 1):=by
      intro k k1 k2;have a1:=hsn lo k (by lia) (by lia) k2;have a2:=hsn k (lo+n - 1) (by lia) (by lia) (by lia);lia
     refine wm (z2M ?_);obtain⟨st1,e1,hB1,hp1,hG1,hl1⟩:∃st1:SortSt,st1=setArr st (mirror (arrOf st) lo (lo+n) ((lo+n - lo) / 2))/\TB κ a₀ st1/\pendingOf st1=pendingOf st/\Gec rk (arrOf st1) lo (lo+n+1)/\Low (arrOf st1) (arrOf st) lo:=by
      refine⟨_,rfl,hB.setArr (mirror_perm _ _ _ _),rfl,λp q p1 p2 p3 =>?_,z3T hsz (wc _)⟩;show Rk rk (mirror (arrOf st) _ _ _) q<=Rk rk (mirror (arrOf st) _ _ _) p;rw[z1y hsz hall,z1y hsz hall]
      by_cases hq:q<lo+n
      ·rw[hall p (by lia) (by lia),hall q (by lia) hq]; exact wc _
      ·have e:q=lo+n:=by lia
       subst e
       by_cases hp:p=lo+n
       ·subst hp; exact wc _
       ·rw[hall p (by lia) (by lia)]; lia
     rw[<- e1];exact J st1 ⟨hB1,hp1,hG1,hl1⟩
    ·refine z0e hgt ?_;refine J st ⟨hB,rfl,λp q p1 p2 p3 =>?_,Low.refl⟩
     by_cases hp:p=q
     ·subst hp; exact wc _
     ·obtain rfl:p=lo:=by lia
      obtain rfl:q=p+n:=by lia
      obtain rfl:n=1:=by lia
      rw[show p+1 - 1=p by lia] at hlt;lia
   rintro st1 ⟨hB1,hp1,hG1,hl1⟩;refine wm (wpS_lift (ub ⟨rfl,?_⟩));refine wm (vP (vh (I:=λx c st2=>∃neq,c=(none,x,neq)/\TB κ a₀ st2/\pendingOf st2=pendingOf st/\Low (arrOf st2) (arrOf st) lo/\Gec rk (arrOf st2) lo (lo+x)/\neq+1<=x/\
     (∀i,lo+x - (neq+1)<=i->i<lo+x->Rk rk (arrOf st2) i=Rk rk (arrOf st2) (lo+x - 1)))
    (Q:=λc st2=>∃m neq,c=(none,m,neq)/\m<=nrem/\TB κ a₀ st2/\pendingOf st2=pendingOf st/\Low (arrOf st2) (arrOf st) lo/\Gec rk (arrOf st2) lo (lo+m)/\neq+1<=m/\
     (∀i,lo+m - (neq+1)<=i->i<lo+m->Rk rk (arrOf st2) i=Rk rk (arrOf st2) (lo+m - 1))) ?step ?fin ⟨0,rfl,hB1,hp1,hl1,hG1,by lia,λi h1 h2=>by congr 1; lia⟩) ?post)
   case fin=>
    rintro c st2 hI1;apply elc1 (c:=c) hI1;intro neq p1;have hB2:=p1.1;have hp2:=p1.2.1;have hl2:=p1.2.2.1;have hG2:=p1.2.2.2.1;have hq:=p1.2.2.2.2.1;have he:=p1.2.2.2.2.2;clear p1 hI1;refine⟨_,neq,rfl,by lia,hB2,hp2,hl2,hG2,hq,he⟩
   case step=>
    rintro x c st2 hax hxn hI2;apply elc1 (c:=c) hI2;intro neq p2;have hB2:=p2.1;have hp2:=p2.2.1;have hl2:=p2.2.2.1;have hG2:=p2.2.2.2.1;have hq:=p2.2.2.2.2.1;have he:=p2.2.2.2.2.2;clear p2 hI2;dsimp only;have hsz2:lo+x<=(arrOf st2).size:=by rw[hB2.size]; lia
    refine wm (z4K hL hB2 (by lia) (by lia) ?_)
    by_cases hless:Rk rk (arrOf st2) (lo+x)<Rk rk (arrOf st2) (lo+x - 1)
    ·refine z0f (by simpa using hless) ?_;have step1:∀xs:Array Keyed,(∀k,Rk rk xs k=Rk rk (arrOf st2) k)->Gec rk xs lo (lo+(x+1)):=by
      intro xs hk p q p1 p2 p3;rw[hk,hk]
      by_cases hq':q<lo+x
      ·exact hG2 p q p1 p2 hq'
      ·obtain rfl:q=lo+x:=by lia
       by_cases hp':p=lo+x
       ·subst hp'; exact wc _
       ·exact wQ (vI hless) (hG2 p (lo+x - 1) p1 (by lia) (by lia))
     by_cases hneq:neq > 0
     ·refine z0f hneq ?_;refine wm (z2M (wu ⟨0,rfl,hB2.setArr (mirror_perm _ _ _ _),hp2,(z3T hsz2 (by lia)).trans hl2,step1 _ (z1y hsz2 he),by lia,λi h1 h2=>by congr 1; lia⟩))
     ·refine z0e hneq ?_;exact wu ⟨0,rfl,hB2,hp2,hl2,step1 _ (λ_=>rfl),by lia,λi h1 h2=>by congr 1; lia⟩
    ·refine z0e (by simpa using hless) ?_;refine wm (z4K hL hB2 (by lia) (by lia) ?_)
     by_cases hlarger:Rk rk (arrOf st2) (lo+x - 1)<Rk rk (arrOf st2) (lo+x)
     ·refine z0f (by simpa using hlarger) ?_;exact wu ⟨x,neq,rfl,by lia,hB2,hp2,hl2,hG2,hq,he⟩
     ·refine z0e (by simpa using hlarger) ?_;have heqx:Rk rk (arrOf st2) (lo+x)=Rk rk (arrOf st2) (lo+x - 1):=by lia
      refine wu ⟨neq+1,rfl,hB2,hp2,hl2,λp q p1 p2 p3 =>?_,by lia,λi h1 h2 =>?_⟩
      ·by_cases hq':q<lo+x
       ·exact hG2 p q p1 p2 hq'
       ·obtain rfl:q=lo+x:=by lia
        by_cases hp':p=lo+x
        ·subst hp'; exact wc _
        ·rw[heqx]; exact hG2 p (lo+x - 1) p1 (by lia) (by lia)
      ·rw[show lo+(x+1) - 1=lo+x by lia]
       by_cases hix:i=lo+x
       ·subst hix; rfl
       ·rw[heqx]; exact he i (by lia) (by lia)
   case post=>
    rintro c st2 ⟨m,neq,rfl,hm,hB2,hp2,hl2,hG2,hq,he⟩;dsimp only;have hsz2:lo+m<=(arrOf st2).size:=by rw[hB2.size]; lia
    refine zhi (H:=λst3:SortSt=>TB κ a₀ st3/\pendingOf st3=pendingOf st/\Low (arrOf st3) (arrOf st) lo/\Gec rk (arrOf st3) lo (lo+m)) (P := ?pp2) ?tl2 ?us2
    case us2=>
     intro J
     by_cases hneq:neq > 0
     ·refine z0f hneq ?_;refine wm (z2M ?_);obtain⟨st3,e3,hB3,hp3,hl3,hG3⟩:∃st3:SortSt,st3=setArr st2 (mirror (arrOf st2) (lo+m - (neq+1)) (lo+m) ((lo+m - (lo+m - (neq+1))) / 2))/\TB κ a₀ st3/\pendingOf st3=pendingOf st/\Low (arrOf st3) (arrOf st) lo/\Gec rk (arrOf st3) lo (lo+m):=by
       refine⟨_,rfl,hB2.setArr (mirror_perm _ _ _ _),hp2,(z3T hsz2 (by lia)).trans hl2,λp q p1 p2 p3 =>?_⟩;show Rk rk (mirror (arrOf st2) _ _ _) q<=Rk rk (mirror (arrOf st2) _ _ _) p;rw[z1y hsz2 he,z1y hsz2 he];exact hG2 p q p1 p2 p3
      rw[<- e3];exact J st3 ⟨hB3,hp3,hl3,hG3⟩
     ·refine z0e hneq ?_;exact J st2 ⟨hB2,hp2,hl2,hG2⟩
    rintro st3 ⟨hB3,hp3,hl3,hG3⟩;have hsz3:lo+m<=(arrOf st3).size:=by rw[hB3.size]; lia
    refine wm (z2M ?_);have hB4:TB κ a₀ (setArr st3 (mirror (arrOf st3) lo (lo+m) ((lo+m - lo) / 2))):=hB3.setArr (mirror_perm _ _ _ _);refine zad (rk:=rk) (lo:=lo) (by lia) hm (λp q p1 p2 p3 =>?_) ?f ?k
    case f=>
     intro x n R n1 n2 ha hb;dsimp only;refine wm (z4K hL hB4 (by lia) (by lia) ?_)
     by_cases hl:Rk rk (mirror (arrOf st3) lo (lo+m) ((lo+m - lo) / 2)) (lo+n)<Rk rk (mirror (arrOf st3) lo (lo+m) ((lo+m - lo) / 2)) (lo+n - 1)
     ·refine z0f (by simpa using hl) ?_; exact wu (ha hl)
     ·refine z0e (by simpa using hl) ?_; exact wu (hb (Nat.le_of_not_lt hl))
    case k=>
     intro n hn1 hn2 hsn _;exact wu (h n _ hB4 hp3 (by lia) hn2 hsn ((z3T hsz3 (wc _)).trans hl3))
    show Rk rk (mirror (arrOf st3) lo (lo+m) ((lo+m - lo) / 2)) p<=Rk rk (mirror (arrOf st3) lo (lo+m) ((lo+m - lo) / 2)) q;rw[z5Z hsz3,z5Z hsz3,if_pos (by lia),if_pos (by lia)];exact hG3 _ _ (by lia) (by lia) (by lia)
end
section
variable {M:Model}{A:Around}{E:Value->Shared->Prop}{s:Shared}{rk:Keyed->Nat}{κ:SortKind}{a₀:Array Keyed}
def z61 (hL:Asks M A s κ a₀ rk){st:SortSt}{lo n ok:Nat}{Q:Bool->SortSt->Prop}(hn:lo+n<=a₀.size)(hok:ok<=n)(h1:1<=ok)(hB:TB κ a₀ st)(hs:Seg rk (arrOf st) lo (lo+ok))
  (h:∀st',TB κ a₀ st'->pendingOf st'=pendingOf st->Seg rk (arrOf st') lo (lo+n)->Low (arrOf st') (arrOf st) lo->Q true st'):wpS M A E s (binarySort' lo n ok) Q st:=by
 refine wm (vP (vh (I:=λk c st'=>c=(none,())/\TB κ a₀ st'/\pendingOf st'=pendingOf st/\Seg rk (arrOf st') lo (lo+k)/\Low (arrOf st') (arrOf st) lo)
  (Q:=λc st'=>c=(none,())/\TB κ a₀ st'/\pendingOf st'=pendingOf st/\Seg rk (arrOf st') lo (lo+n)/\Low (arrOf st') (arrOf st) lo) ?step ?fin ?init) ?post)
 case post=>
  rintro c st' hI1;apply elc0 (c:=c) hI1;intro p1;have hB':=p1.1;have hp':=p1.2.1;have hs':=p1.2.2.1;have hl':=p1.2.2.2;clear p1 hI1;exact wu (h st' hB' hp' hs' hl')
 case init=>
  rw[show max ok 1=ok by lia];exact⟨rfl,hB,rfl,hs,Low.refl⟩
 case fin=>
  rintro c st' ⟨hc,hB',hp',hs',hl'⟩;rw[show max (max ok 1) n=n by lia] at hs';exact⟨hc,hB',hp',hs',hl'⟩
 case step=>
  rintro k c st' hak hkn hI2;apply elc0 (c:=c) hI2;intro p2;have hB':=p2.1;have hp':=p2.2.1;have hs':=p2.2.2.1;have hl':=p2.2.2.2;clear p2 hI2;dsimp only;have hk:lo+k<a₀.size:=by lia
  refine wm (vP (vh (I:=λx c st''=>st''=st'/\∃l r,c=(none,l,r)/\l<=r/\r<=k/\r - l<=k - x/\
    (∀i,i<l->Rk rk (arrOf st') (lo+i)<=Rk rk (arrOf st') (lo+k))/\(∀i,r<=i->i<k->Rk rk (arrOf st') (lo+k)<Rk rk (arrOf st') (lo+i)))
   (Q:=λc st''=>st''=st'/\∃l r,c=(none,l,r)/\l<=k/\
    (∀i,i<l->Rk rk (arrOf st') (lo+i)<=Rk rk (arrOf st') (lo+k))/\(∀i,l<=i->i<k->Rk rk (arrOf st') (lo+k)<Rk rk (arrOf st') (lo+i))) ?istep ?ifin ?iinit) ?ipost)
  case iinit=>exact⟨rfl,0,k,rfl,by lia,by lia,by lia,λi hi=>by lia,λi h1 h2=>by lia⟩
  case ifin=>
   rintro c st'' ⟨rfl,l,r,rfl,hlr,hrk,hm,hlo,hhi⟩;obtain rfl:l=r:=by lia
   exact⟨rfl,l,l,rfl,hrk,hlo,hhi⟩
  case istep=>
   rintro x c st'' _ hxk ⟨rfl,l,r,rfl,hlr,hrk,hm,hlo,hhi⟩;dsimp only
   by_cases hge:l>=r
   ·refine z0f hge ?_;obtain rfl:l=r:=by lia
    exact wu ⟨rfl,l,l,rfl,hrk,hlo,hhi⟩
   ·refine z0e hge ?_;refine wm (z4K hL hB' hk (by lia) ?_)
    by_cases hless:Rk rk (arrOf st'') (lo+k)<Rk rk (arrOf st'') (lo+(l+r) / 2)
    ·refine z0f (by simpa using hless) ?_;refine wu ⟨rfl,l,(l+r) / 2,rfl,by lia,by lia,by lia,hlo,λi h1 h2 =>?_⟩;exact wg hless (hs' _ _ (by lia) (by lia) (by lia))
    ·refine z0e (by simpa using hless) ?_;refine wu ⟨rfl,(l+r) / 2+1,r,rfl,by lia,by lia,by lia,λi h1 =>?_,hhi⟩;exact wQ (hs' (lo+i) (lo+(l+r) / 2) (by lia) (by lia) (by lia)) (Nat.le_of_not_lt hless)
  case ipost=>
   rintro c st'' ⟨rfl,l,r,rfl,hlk,hlo,hhi⟩;dsimp only;show wpS M A E s (moveDown' _ _ >>= _) _ _;rw[moveDown'_eq];have hks:lo+k<(arrOf st'').size:=by rw[hB'.size]; exact hk
   refine wm (vR (wu ⟨rfl,hB'.setArr (bubble_perm _ _ _),hp',?_,(zab hks (by lia) (by lia)).trans hl'⟩));intro i j hi hij hj;show Rk rk (bubble (arrOf st'') (lo+k) (lo+k - (lo+l))) i<=Rk rk (bubble (arrOf st'') (lo+k) (lo+k - (lo+l))) j;rw[z81 hks (by lia),z81 hks (by lia),show lo+k - (lo+k - (lo+l))=lo+l by lia];have hlo':∀i,lo<=i->i<lo+l->Rk rk (arrOf st'') i<=Rk rk (arrOf st'') (lo+k):=λi h1 h2=>by
    have:=hlo (i - lo) (by lia)
    rwa [show lo+(i - lo)=i by lia] at this
   have hhi':∀i,lo+l<=i->i<lo+k->Rk rk (arrOf st'') (lo+k)<Rk rk (arrOf st'') i:=λi h1 h2=>by
    have:=hhi (i - lo) (by lia) (by lia)
    rwa [show lo+(i - lo)=i by lia] at this
   repeat' split
   all_goals first
    | (exfalso; lia)
    | exact wc _
    | exact hlo' _ (by lia) (by lia)
    | exact vI (hhi' _ (by lia) (by lia))
    | exact hs' _ _ (by lia) (by lia) (by lia)
end
section
variable {M:Model}{A:Around}{E:Value->Shared->Prop}{s:Shared}{rk:Keyed->Nat}{κ:SortKind}{a₀:Array Keyed}
def Up (rk:Keyed->Nat)(l:List Keyed):Prop:=l.Pairwise λx y=>rk x<=rk y
def z2o (rk:Keyed->Nat)(l m:List Keyed):Prop:=∀x∈l,∀y∈m,rk x<=rk y
def Up.append {l m:List Keyed}(h:Up rk l)(k:Up rk m)(c:z2o rk l m):Up rk (l++m):=List.pairwise_append.mpr ⟨h,k,c⟩
theorem Up.drop {l:List Keyed}(h:Up rk l)(n:Nat):Up rk (l.drop n):=List.Pairwise.sublist (List.drop_sublist n l) h
theorem Up.take {l:List Keyed}(h:Up rk l)(n:Nat):Up rk (l.take n):=List.Pairwise.sublist (List.take_sublist n l) h
def Up.cut {l:List Keyed}(h:Up rk l)(n:Nat):z2o rk (l.take n) (l.drop n):=by
 have:=h;unfold Up at this;rw[<- vC n l] at this;exact(List.pairwise_append.mp this).2.2
def Up.seg {a:Array Keyed}(h:Up rk a.toList):Seg rk a 0 a.size:=λp q _ hpq hq=>by
 by_cases e:p=q
 ·subst e; exact wc _
 ·have:=v8.mp h p q (by simpa using (by lia:p<a.size)) (by simpa using hq) (by lia);rw[z0L (uc a p (by lia)),z0L (uc a q hq)];simpa using this
def zaC {a:Array Keyed}{i j:Nat}(h:Seg rk a i j)(hj:j<=a.size):Up rk (a.extract i j).toList:=by
 refine v8.mpr λp q hp hq hpq =>?_;have hp':p<(a.extract i j).size:=by rw[<- wL]; exact hp
 have hq':q<(a.extract i j).size:=by rw[<- wL]; exact hq
 have hsz:(a.extract i j).size=j - i:=by rw[vU]; lia
 have:=h (i+p) (i+q) (by lia) (by lia) (by lia);rw[z0L (uc a (i+p) (by lia)),z0L (uc a (i+q) (by lia))] at this;simpa[Array.getElem_extract] using this
structure Mrg (rk:Keyed->Nat)(a b o:List Keyed)(ia ib:Nat):Prop where
 up:Up rk o
 ina:z2o rk o (a.drop ia)
 inb:z2o rk o (b.drop ib)
 perm:(o++a.drop ia++b.drop ib).Perm (a++b)
def z5g (l:List Keyed)(i k:Nat):l.drop i=(l.drop i).take k++l.drop (i+k):=by
 rw[<- List.drop_drop]; exact(vC k _).symm
def Mrg.moveA {a b o:List Keyed}{ia ib:Nat}(h:Mrg rk a b o ia ib)(ha:Up rk a)(k:Nat)(hle:z2o rk ((a.drop ia).take k) (b.drop ib)):Mrg rk a b (o++(a.drop ia).take k) (ia+k) ib:=by
 have e:=z5g a ia k;refine⟨h.up.append ((ha.drop ia).take k) (λx hx y hy=>h.ina x hx y (vw hy)),λx hx y hy =>?_,λx hx y hy =>?_,?_⟩
 ·rcases wE.mp hx with hx | hx
  ·exact h.ina x hx y (by rw[e]; exact wE.mpr (.inr hy))
  ·exact(ha.drop ia).cut k x hx y (by rw[List.drop_drop]; exact hy)
 ·rcases wE.mp hx with hx | hx
  ·exact h.inb x hx y hy
  ·exact hle x hx y hy
 ·have:=h.perm;rw[e] at this;simpa[vk] using this
def Mrg.moveB {a b o:List Keyed}{ia ib:Nat}(h:Mrg rk a b o ia ib)(hb:Up rk b)(k:Nat)(hle:z2o rk ((b.drop ib).take k) (a.drop ia)):Mrg rk a b (o++(b.drop ib).take k) ia (ib+k):=by
 have e:=z5g b ib k;refine⟨h.up.append ((hb.drop ib).take k) (λx hx y hy=>h.inb x hx y (vw hy)),λx hx y hy =>?_,λx hx y hy =>?_,?_⟩
 ·rcases wE.mp hx with hx | hx
  ·exact h.ina x hx y hy
  ·exact hle x hx y hy
 ·rcases wE.mp hx with hx | hx
  ·exact h.inb x hx y (by rw[e]; exact wE.mpr (.inr hy))
  ·exact(hb.drop ib).cut k x hx y (by rw[List.drop_drop]; exact hy)
 ·have hp:=h.perm;rw[e] at hp;refine List.Perm.trans ?_ hp;simp only[vk];refine vW o ?_;rw[<- vk, <- vk];exact vS _ vX
def Mrg.done {a b o:List Keyed}{ia ib:Nat}(h:Mrg rk a b o ia ib)(ha:Up rk a)(hb:Up rk b)(e:a.length<=ia\/b.length<=ib):Up rk (o++a.drop ia++b.drop ib):=by
 rcases e with e | e
 ·rw[List.drop_eq_nil_of_le e,wW]; exact h.up.append (hb.drop _) h.inb
 ·rw[List.drop_eq_nil_of_le e,wW]; exact h.up.append (ha.drop _) h.ina
def Mrg.lastA {a b o:List Keyed}{ia ib:Nat}(h:Mrg rk a b o ia ib)(ha:Up rk a)(hb:Up rk b)(e:z2o rk (b.drop ib) (a.drop ia)):Up rk (o++b.drop ib++a.drop ia)/\(o++b.drop ib++a.drop ia).Perm (a++b):=by
 refine⟨(h.up.append (hb.drop _) h.inb).append (ha.drop _) (λx hx y hy =>?_),?_⟩
 ·rcases wE.mp hx with hx | hx
  ·exact h.ina x hx y hy
  ·exact e x hx y hy
 ·refine List.Perm.trans ?_ h.perm;simp only[vk];exact vW o vX
def z2e {l:List Keyed}{i:Nat}{p:Keyed}(h:l[i]? = some p):(l.drop i).take 1=[p]:=by
 obtain⟨hi,rfl⟩:=wb.mp h;rw[wX hi]; rfl
def z4v {l:List Keyed}{i k:Nat}{x:Keyed}(h:x∈(l.drop i).take k):∃j,j<k/\i+j<l.length/\l[i+j]? = some x:=by
 obtain⟨j,hj,e⟩:=List.getElem_of_mem h;have hj':j<k/\i+j<l.length:=by simp at hj; lia
 refine⟨j,hj'.1,hj'.2,?_⟩;rw[List.getElem_take,List.getElem_drop] at e;rw[wq hj'.2,e]
def z8r {l:List Keyed}{i:Nat}{x:Keyed}(h:x∈l.drop i):∃j,i+j<l.length/\l[i+j]? = some x:=by
 obtain⟨j,hj,e⟩:=List.getElem_of_mem h;have hj':i+j<l.length:=by simp at hj; lia
 refine⟨j,hj',?_⟩;rw[List.getElem_drop] at e;rw[wq hj',e]
def z2L {a:Array Keyed}{j:Nat}{x:Keyed}(h:a.toList[j]? = some x):Rk rk a j=rk x:=z0L (by rw[<- vi]; exact h)
def z6x (hL:Asks M A s κ a₀ rk){st:SortSt}{key:Keyed}{arr:Array Keyed}{base n hint:Nat}{Q:Option Nat->SortSt->Prop}(hk:kindOf st=κ)(hkey:key∈a₀.toList)
  (harr:∀p∈arr.toList,p∈a₀.toList) (hn:base+n<=arr.size) (hh:hint<n) (hs:Seg rk arr base (base+n))
  (h:∀k,k<=n->(∀i,i<k->Rk rk arr (base+i)<=rk key)->(∀i,k<=i->i<n->rk key<Rk rk arr (base+i))->Q (some k) st):wpS M A E s (z8A false key arr base n hint) Q st:=by
 refine z6f hL hk hkey harr hn hh (λi => !decide (rk key<Rk rk arr (base+i))) (λi hi=>by simp) (λi j hij hj q =>?_) (λk hk h1 h2=>h k hk (λi hi =>?_) (λi h3 h4 =>?_))
 ·have:=hs (base+i) (base+j) (by lia) (by lia) (by lia);simp at q ⊢; lia
 ·have:=h1 i hi; simp at this; lia
 ·have:=h2 i h3 h4; simp at this; lia
def z6y (hL:Asks M A s κ a₀ rk){st:SortSt}{key:Keyed}{arr:Array Keyed}{base n hint:Nat}{Q:Option Nat->SortSt->Prop}(hk:kindOf st=κ)(hkey:key∈a₀.toList)
  (harr:∀p∈arr.toList,p∈a₀.toList) (hn:base+n<=arr.size) (hh:hint<n) (hs:Seg rk arr base (base+n))
  (h:∀k,k<=n->(∀i,i<k->Rk rk arr (base+i)<rk key)->(∀i,k<=i->i<n->rk key<=Rk rk arr (base+i))->Q (some k) st):wpS M A E s (z8A true key arr base n hint) Q st:=by
 refine z6f hL hk hkey harr hn hh (λi=>decide (Rk rk arr (base+i)<rk key)) (λi hi=>by simp) (λi j hij hj q =>?_) (λk hk h1 h2=>h k hk (λi hi =>?_) (λi h3 h4 =>?_))
 ·have:=hs (base+i) (base+j) (by lia) (by lia) (by lia);simp at q ⊢; lia
 ·have:=h1 i hi; simp at this; lia
 ·have:=h2 i h3 h4; simp at this; lia
end
section
variable {M:Model}{A:Around}{E:Value->Shared->Prop}{s:Shared}{rk:Keyed->Nat}{κ:SortKind}{a₀:Array Keyed}
def z2N {a:Array Keyed}{i j:Nat}:(a.extract i j).toList=(a.toList.drop i).take (j - i):=by
 rw[Array.toList_extract]
def z8T {a:Array Keyed}{i:Nat}:(a.extract i a.size).toList=a.toList.drop i:=by
 rw[z2N];exact List.take_of_length_le (by simp)
def z1W {a:Array Keyed}{i:Nat}{p:Keyed}(h:a[i]? = some p):a.toList[i]? = some p:=by rw[vi]; exact h
def z84 (hL:Asks M A s κ a₀ rk){st:SortSt}{a b:Array Keyed}{Q:Array Keyed->SortSt->Prop}(hk:kindOf st=κ)
  (hma:∀p∈a.toList,p∈a₀.toList) (hmb:∀p∈b.toList,p∈a₀.toList) (ha:Up rk a.toList) (hb:Up rk b.toList) (h1:1<=a.size) (h2:1<=b.size)
  (hf:z2o rk (b.toList.take 1) a.toList) (hl:z2o rk b.toList (a.toList.drop (a.size - 1)))
  (h:∀r g,Up rk r.toList->r.toList.Perm (a.toList++b.toList)->Q r (z1Y st g)):wpS M A E s (zdc a b) Q st:=by
 have sa:=ha.seg;have sb:=hb.seg;have la:a.toList.length=a.size:=by simp
 have lb:b.toList.length=b.size:=by simp
 have fin:∀(out:Array Keyed) (ia ib g:Nat),Mrg rk a.toList b.toList out.toList ia ib->(a.size<=ia\/b.size<=ib)->Q (out++a.extract ia a.size++b.extract ib b.size) (z1Y st g):=λout ia ib g m e=>by
  have t:(out++a.extract ia a.size++b.extract ib b.size).toList=out.toList++a.toList.drop ia++b.toList.drop ib:=by
   rw[wT,wT,z8T,z8T]
  exact h _ g (by rw[t]; exact m.done ha hb (by rw[la,lb]; exact e)) (by rw[t]; exact m.perm)
 have fin2:∀(out:Array Keyed) (ia ib g:Nat),Mrg rk a.toList b.toList out.toList ia ib->ia+1=a.size->Q (out++b.extract ib b.size++a.extract ia a.size) (z1Y st g):=λout ia ib g m e=>by
  have t:(out++b.extract ib b.size++a.extract ia a.size).toList=out.toList++b.toList.drop ib++a.toList.drop ia:=by
   rw[wT,wT,z8T,z8T]
  have q:=m.lastA ha hb (λx hx y hy=>hl x (vD hx) y (by rw[show a.size - 1=ia by lia]; exact hy));exact h _ g (by rw[t]; exact q.1) (by rw[t]; exact q.2)
 refine wm (wpS_lift (ub ⟨rfl,?_⟩));dsimp only;obtain⟨b0,eb0,mb0⟩:=z1S (xs:=b) (i:=0) (by lia);refine wm (z0r eb0 ?_);have m0:Mrg rk a.toList b.toList (#[b0]:Array Keyed).toList 0 1:=by
  have z:Mrg rk a.toList b.toList [] 0 0:=⟨List.Pairwise.nil,(λx hx=>by cases hx),(λx hx=>by cases hx),by simp⟩
  have:=z.moveB hb 1 (by rw[List.drop_zero]; exact hf);rw[z2e (z1W eb0)] at this;simpa using this
 by_cases c1:1=b.size
 ·refine z0f (by simpa using c1) ?_;exact wu (fin _ _ _ (gallopOf st) m0 (.inr (by lia)))
 refine z0e (by simpa using c1) ?_
 by_cases c2:0+1=a.size
 ·refine z0f (by simpa using c2) ?_;exact wu (fin2 _ _ _ (gallopOf st) m0 c2)
 refine z0e (by simpa using c2) ?_;refine wm (wpS_get ?_);refine wm (vP (vh
  (I:=λx c st'=>∃out ia ib mg g,c=(none,out,ia,ib,mg)/\st'=z1Y st g/\Mrg rk a.toList b.toList out.toList ia ib/\ia+1<a.size/\ib<b.size/\x+1<=ia+ib)
  (Q:=λc st'=>∃r rest,c=(some r,rest)/\Q r st') ?step ?fin ⟨_,_,_,_,gallopOf st,rfl,rfl,m0,by lia,by lia,by lia⟩) ?post)
 case post=>
  rintro c st' ⟨r,rest,rfl,q⟩;exact wu q
 case fin=>
  rintro c st' hI1;apply el5 (c:=c) (s:=st') hI1;intro out ia ib mg g p1;have m:=p1.1;have i1:=p1.2.1;have i2:=p1.2.2.1;have i3:=p1.2.2.2;clear p1 hI1;lia
 case step=>
  rintro x c st' _ hx hI2;apply el5 (c:=c) (s:=st') hI2;intro out ia ib mg g p2;have m:=p2.1;have i1:=p2.2.1;have i2:=p2.2.2.1;have i3:=p2.2.2.2;clear p2 hI2;dsimp only;refine wm (vP (vh
   (I:=λy c st'=>∃out ja jb ac bc,c=(none,out,ja,jb,ac,bc)/\st'=z1Y st g/\Mrg rk a.toList b.toList out.toList ja jb/\ja+1<a.size/\jb<b.size/\ia+ib+y<=ja+jb)
   (Q:=λc st'=>(∃r rest,c=(some r,rest)/\Q r st')\/∃out ja jb ac bc,c=(none,out,ja,jb,ac,bc)/\st'=z1Y st g/\Mrg rk a.toList b.toList out.toList ja jb/\ja+1<a.size/\jb<b.size/\ia+ib+1<=ja+jb)
   ?istep ?ifin ⟨_,_,_,_,_,rfl,rfl,m,i1,i2,by lia⟩) ?ipost)
  case ifin=>
   rintro c st' hI3;apply el5 (c:=c) (s:=st') hI3;intro out ja jb ac bc p3;have m:=p3.1;have j1:=p3.2.1;have j2:=p3.2.2.1;have j3:=p3.2.2.2;clear p3 hI3;exact .inr ⟨_,_,_,_,_,rfl,rfl,m,j1,j2,by lia⟩
  case istep=>
   rintro y c st' _ hy hI4;apply el5 (c:=c) (s:=st') hI4;intro out ja jb ac bc p4;have m:=p4.1;have j1:=p4.2.1;have j2:=p4.2.2.1;have j3:=p4.2.2.2;clear p4 hI4;dsimp only;obtain⟨pb,eb,mb⟩:=z1S (xs:=b) (i:=jb) j2;obtain⟨pa,ea,ma⟩:=z1S (xs:=a) (i:=ja) (by lia);refine wm (z0r eb (wm (z0r ea (wm (z78 hL hk (hmb _ mb) (hma _ ma) ?_)))))
   by_cases hw:rk pb<rk pa
   ·refine z0f (by simpa using hw) ?_;refine wm (z0r eb ?_);have m':Mrg rk a.toList b.toList (out.push pb).toList ja (jb+1):=by
     have:=m.moveB hb 1 (by
      rw[z2e (z1W eb)];intro x hx y hy;obtain rfl:=ww.mp hx;obtain⟨j,hj,e⟩:=z8r hy;have:=sa ja (ja+j) (by lia) (by lia) (by lia);rw[z0L ea,z2L e] at this;lia)
     rw[z2e (z1W eb)] at this;simpa using this
    by_cases c3:jb+1=b.size
    ·refine z0f (by simpa using c3) ?_;exact wu (.inl ⟨_,_,rfl,fin _ _ _ g m' (.inr (by lia))⟩)
    refine z0e (by simpa using c3) ?_
    split
    ·exact wu (.inr ⟨_,_,_,_,_,rfl,rfl,m',j1,by lia,by lia⟩)
    ·exact wu ⟨_,_,_,_,_,rfl,rfl,m',j1,by lia,by lia⟩
   ·refine z0e (by simpa using hw) ?_;refine wm (z0r ea ?_);have m':Mrg rk a.toList b.toList (out.push pa).toList (ja+1) jb:=by
     have:=m.moveA ha 1 (by
      rw[z2e (z1W ea)];intro x hx y hy;obtain rfl:=ww.mp hx;obtain⟨j,hj,e⟩:=z8r hy;have:=sb jb (jb+j) (by lia) (by lia) (by lia);rw[z0L eb,z2L e] at this;lia)
     rw[z2e (z1W ea)] at this;simpa using this
    by_cases c3:ja+1+1=a.size
    ·refine z0f (by simpa using c3) ?_;exact wu (.inl ⟨_,_,rfl,fin2 _ _ _ g m' c3⟩)
    refine z0e (by simpa using c3) ?_
    split
    ·exact wu (.inr ⟨_,_,_,_,_,rfl,rfl,m',by lia,j2,by lia⟩)
    ·exact wu ⟨_,_,_,_,_,rfl,rfl,m',by lia,j2,by lia⟩
  case ipost=>
   rintro c st' (hA | hI5)
   ·obtain⟨r,rest,rfl,q⟩:=hA;obtain⟨r1,r2,r3,r4,r5⟩:=rest;exact wu ⟨_,_,rfl,q⟩
   apply el5 (c:=c) (s:=st') hI5;intro out ka kb ac bc p5;have m:=p5.1;have j1:=p5.2.1;have j2:=p5.2.2.1;have j3:=p5.2.2.2;clear p5 hI5;dsimp only;refine wm (wpS_lift (ub ⟨rfl,?_⟩));refine wm (vP (vh
    (I:=λy c st'=>∃out ja jb mg ac bc g,c=(none,out,ja,jb,mg,ac,bc)/\st'=z1Y st g/\Mrg rk a.toList b.toList out.toList ja jb/\ja+1<a.size/\jb<b.size/\ia+ib+1<=ja+jb)
    (Q:=λc st'=>(∃r rest,c=(some r,rest)/\Q r st')\/∃out ja jb mg ac bc g,c=(none,out,ja,jb,mg,ac,bc)/\st'=z1Y st g/\Mrg rk a.toList b.toList out.toList ja jb/\ja+1<a.size/\jb<b.size/\ia+ib+1<=ja+jb)
    ?gstep ?gfin ⟨_,_,_,_,_,_,g,rfl,rfl,m,j1,j2,j3⟩) ?gpost)
   case gfin=>
    rintro c st' z;exact .inr z
   case gpost=>
    rintro c st' (hA | hI6)
    ·obtain⟨r,rest,rfl,q⟩:=hA;obtain⟨r1,r2,r3,r4,r5,r6⟩:=rest;exact wu ⟨_,_,rfl,q⟩
    apply el7 (c:=c) (s:=st') hI6;intro out ka kb mg ac bc g p6;have m:=p6.1;have j1:=p6.2.1;have j2:=p6.2.2.1;have j3:=p6.2.2.2;clear p6 hI6;dsimp only;show wpS M A E s (z1X _ >>= _) _ _;rw[z1K];refine wm (vR (wu ⟨_,_,_,_,mg+1,rfl,rfl,m,j1,j2,by lia⟩))
   case gstep=>
    clear m j1 j2 j3 out ka kb ac bc g;rintro y c st' _ hy hI7;apply el7 (c:=c) (s:=st') hI7;intro out ja jb mg ac bc g p7;have m:=p7.1;have j1:=p7.2.1;have j2:=p7.2.2.1;have j3:=p7.2.2.2;clear p7 hI7;dsimp only;obtain⟨pb,eb,mb⟩:=z1S (xs:=b) (i:=jb) j2;refine zhj (α:=Nat) (P := ?pp1) ?tl1 ?us1
    case us1=>
     intro J
     by_cases cg:mg > 1
     ·refine z0f cg ?_;generalize mg - 1=mg';exact J mg'
     ·refine z0e cg ?_;exact J mg
    intro mg';show wpS M A E s (z1X _ >>= _) _ _;rw[z1K];refine wm (vR ?_);refine wm (z0r eb ?_);refine wm (z6x hL hk (hmb _ mb) hma (by lia) (by lia) (λp q p1 p2 p3=>sa p q (by lia) p2 (by lia)) λk hk1 g1 g2 =>?_);dsimp only;have mA:Mrg rk a.toList b.toList (out.toList++(a.toList.drop ja).take k) (ja+k) jb:=m.moveA ha k (by
     intro x hx y hy;obtain⟨i,hi,hi2,e⟩:=z4v hx;obtain⟨j,hj,e2⟩:=z8r hy;have q1:=g1 i hi;have q2:=sb jb (jb+j) (by lia) (by lia) (by lia);rw[z2L e] at q1;rw[z0L eb,z2L e2] at q2;lia)
    have hgt:z2o rk [pb] (a.toList.drop (ja+k)):=by
     intro x hx y hy;obtain rfl:=ww.mp hx;obtain⟨j,hj,e⟩:=z8r hy;have:=g2 (k+j) (by lia) (by lia);rw[show ja+(k+j)=ja+k+j by lia,z2L e] at this;lia
    refine zd4 (H:=λ(ka:Nat) (out1:Array Keyed)=>ka+1<a.size/\ja<=ka/\Mrg rk a.toList b.toList out1.toList ka jb/\z2o rk [pb] (a.toList.drop ka)) (P := ?pp2) ?tl2 ?us2
    case us2=>
     intro J
     by_cases c3:k > 0
     ·refine z0f c3 ?_;have mA':Mrg rk a.toList b.toList (out++a.extract ja (ja+k)).toList (ja+k) jb:=by
       rw[wT,z2N,show ja+k - ja=k by lia]; exact mA
      by_cases c4:ja+k+1=a.size
      ·refine z0f (by simpa using c4) ?_;exact wu (.inl ⟨_,_,rfl,fin2 _ _ _ mg' mA' c4⟩)
      refine z0e (by simpa using c4) ?_
      by_cases c5:ja+k=a.size
      ·refine z0f (by simpa using c5) ?_;exact wu (.inl ⟨_,_,rfl,fin _ _ _ mg' mA' (.inl (by lia))⟩)
      refine z0e (by simpa using c5) ?_;have kl:ja+k+1<a.size/\ja<=ja+k:=by lia
      generalize out++a.extract ja (ja+k)=out1 at mA' ⊢;have hg:=hgt;generalize ja+k=ka at mA' hg kl ⊢;exact J ka out1 ⟨kl.1,kl.2,mA',hg⟩
     ·refine z0e c3 ?_;obtain rfl:k=0:=by lia
      exact J ja out ⟨by lia,by lia,m,hgt⟩
    clear mA hgt g1 g2 m;rintro ka out1 ⟨kl,kk,mA',hgt⟩;refine wm (z0r eb ?_);have mB:Mrg rk a.toList b.toList (out1.push pb).toList ka (jb+1):=by
     have:=mA'.moveB hb 1 (by rw[z2e (z1W eb)]; exact hgt);rw[z2e (z1W eb)] at this;simpa using this
    by_cases c6:jb+1=b.size
    case pos=>
     refine z0f (by simpa using c6) ?_;exact wu (.inl ⟨_,_,rfl,fin _ _ _ mg' mB (.inr (by lia))⟩)
    refine z0e (by simpa using c6) ?_;obtain⟨pa,ea,ma⟩:=z1S (xs:=a) (i:=ka) (by lia);refine wm (z0r ea ?_);refine wm (z6y hL hk (hma _ ma) hmb (by lia) (by lia) (λp q p1 p2 p3=>sb p q (by lia) p2 (by lia)) λl hl1 f1 f2 =>?_);dsimp only;have mC:Mrg rk a.toList b.toList ((out1.push pb).toList++(b.toList.drop (jb+1)).take l) ka (jb+1+l):=mB.moveB hb l (by
     intro x hx y hy;obtain⟨i,hi,hi2,e⟩:=z4v hx;obtain⟨j,hj,e2⟩:=z8r hy;have q1:=f1 i hi;have q2:=sa ka (ka+j) (by lia) (by lia) (by lia);rw[z2L e] at q1;rw[z0L ea,z2L e2] at q2;lia)
    have hgt2:z2o rk [pa] (b.toList.drop (jb+1+l)):=by
     intro x hx y hy;obtain rfl:=ww.mp hx;obtain⟨j,hj,e⟩:=z8r hy;have:=f2 (l+j) (by lia) (by lia);rw[show jb+1+(l+j)=jb+1+l+j by lia,z2L e] at this;lia
    refine zd4 (H:=λ(kb:Nat) (out2:Array Keyed)=>kb<b.size/\jb+1<=kb/\Mrg rk a.toList b.toList out2.toList ka kb/\z2o rk [pa] (b.toList.drop kb)) (P := ?pp3) ?tl3 ?us3
    case us3=>
     intro J
     by_cases c7:l > 0
     ·refine z0f c7 ?_;have mC':Mrg rk a.toList b.toList (out1.push pb++b.extract (jb+1) (jb+1+l)).toList ka (jb+1+l):=by
       rw[wT,z2N,show jb+1+l - (jb+1)=l by lia]; exact mC
      by_cases c8:jb+1+l=b.size
      ·refine z0f (by simpa using c8) ?_;exact wu (.inl ⟨_,_,rfl,fin _ _ _ mg' mC' (.inr (by lia))⟩)
      refine z0e (by simpa using c8) ?_;have kl:jb+1+l<b.size/\jb+1<=jb+1+l:=by lia
      generalize out1.push pb++b.extract (jb+1) (jb+1+l)=out2 at mC' ⊢;have hg:=hgt2;generalize jb+1+l=kb at mC' hg kl ⊢;exact J kb out2 ⟨kl.1,kl.2,mC',hg⟩
     ·refine z0e c7 ?_;obtain rfl:l=0:=by lia
      exact J (jb+1) (out1.push pb) ⟨by lia,by lia,mB,hgt2⟩
    clear mC hgt2 f1 f2 mB mA' hgt;rintro kb out2 ⟨kbl,kk2,mC',hgt2⟩;refine wm (z0r ea ?_);have mD:Mrg rk a.toList b.toList (out2.push pa).toList (ka+1) kb:=by
     have:=mC'.moveA ha 1 (by rw[z2e (z1W ea)]; exact hgt2);rw[z2e (z1W ea)] at this;simpa using this
    by_cases c9:ka+1+1=a.size
    case pos=>
     refine z0f (by simpa using c9) ?_;exact wu (.inl ⟨_,_,rfl,fin2 _ _ _ mg' mD c9⟩)
    refine z0e (by simpa using c9) ?_
    split
    ·exact wu (.inr ⟨_,_,_,_,_,_,mg',rfl,rfl,mD,by lia,kbl,by lia⟩)
    ·exact wu ⟨_,_,_,_,_,_,mg',rfl,rfl,mD,by lia,kbl,by lia⟩
end
section
variable {M:Model}{A:Around}{E:Value->Shared->Prop}{s:Shared}{rk:Keyed->Nat}{κ:SortKind}{a₀:Array Keyed}
structure Mrh (rk:Keyed->Nat)(a b o:List Keyed)(na nb:Nat):Prop where
 up:Up rk o
 ina:z2o rk (a.take na) o
 inb:z2o rk (b.take nb) o
 perm:(a.take na++b.take nb++o).Perm (a++b)
def z8V (l:List Keyed){n k:Nat}(h:k<=n):l.take n=l.take k++(l.take n).drop k:=by
 have:=(vC k (l.take n)).symm
 rwa [List.take_take,Nat.min_eq_left h] at this
def Mrh.moveA {a b o:List Keyed}{na nb:Nat}(h:Mrh rk a b o na nb)(ha:Up rk a)(k:Nat)(hk:k<=na)(hle:z2o rk (b.take nb) ((a.take na).drop k)):Mrh rk a b ((a.take na).drop k++o) k nb:=by
 have e:=z8V a hk;refine⟨((ha.take na).drop k).append h.up (λx hx y hy=>h.ina x (vD hx) y hy),λx hx y hy =>?_,λx hx y hy =>?_,?_⟩
 ·rcases wE.mp hy with hy | hy
  ·have:=(ha.take na).cut k x (by rw[List.take_take,Nat.min_eq_left hk]; exact hx) y hy;exact this
  ·exact h.ina x (by rw[e]; exact wE.mpr (.inl hx)) y hy
 ·rcases wE.mp hy with hy | hy
  ·exact hle x hx y hy
  ·exact h.inb x hx y hy
 ·have hp:=h.perm;rw[e] at hp;refine List.Perm.trans ?_ hp;simp only[vk];refine vW _ ?_;rw[<- vk, <- vk];exact vS _ vX
def Mrh.moveB {a b o:List Keyed}{na nb:Nat}(h:Mrh rk a b o na nb)(hb:Up rk b)(k:Nat)(hk:k<=nb)(hle:z2o rk (a.take na) ((b.take nb).drop k)):Mrh rk a b ((b.take nb).drop k++o) na k:=by
 have e:=z8V b hk;refine⟨((hb.take nb).drop k).append h.up (λx hx y hy=>h.inb x (vD hx) y hy),λx hx y hy =>?_,λx hx y hy =>?_,?_⟩
 ·rcases wE.mp hy with hy | hy
  ·exact hle x hx y hy
  ·exact h.ina x hx y hy
 ·rcases wE.mp hy with hy | hy
  ·have:=(hb.take nb).cut k x (by rw[List.take_take,Nat.min_eq_left hk]; exact hx) y hy;exact this
  ·exact h.inb x (by rw[e]; exact wE.mpr (.inl hx)) y hy
 ·have hp:=h.perm;rw[e] at hp;simpa[vk] using hp
def Mrh.done {a b o:List Keyed}{na nb:Nat}(h:Mrh rk a b o na nb)(ha:Up rk a)(hb:Up rk b)(e:na=0\/nb=0):Up rk (a.take na++b.take nb++o):=by
 rcases e with rfl | rfl
 ·rw[List.take_zero,List.nil_append]; exact(hb.take _).append h.up h.inb
 ·rw[List.take_zero,wW]; exact(ha.take _).append h.up h.ina
def Mrh.firstB {a b o:List Keyed}{na nb:Nat}(h:Mrh rk a b o na nb)(ha:Up rk a)(hb:Up rk b)(e:z2o rk (b.take nb) (a.take na)):Up rk (b.take nb++a.take na++o)/\(b.take nb++a.take na++o).Perm (a++b):=by
 refine⟨((hb.take _).append (ha.take _) e).append h.up (λx hx y hy =>?_),?_⟩
 ·rcases wE.mp hx with hx | hx
  ·exact h.inb x hx y hy
  ·exact h.ina x hx y hy
 ·exact List.Perm.trans (vS _ vX) h.perm
def z2j {l:List Keyed}{n:Nat}{p:Keyed}(h:l[n]? = some p):(l.take (n+1)).drop n=[p]:=by
 obtain⟨hi,rfl⟩:=wb.mp h;rw[List.drop_take,show n+1 - n=1 by lia];exact z2e (wq hi)
def z9P {l:List Keyed}{n:Nat}{x:Keyed}(h:x∈l.take n):∃j,j<n/\j<l.length/\l[j]? = some x:=by
 have:=z4v (i:=0) (k:=n) (l:=l) (x:=x) (by simpa using h);obtain⟨j,h1,h2,h3⟩:=this;exact⟨j,h1,by lia,by simpa using h3⟩
def ze3 {l:List Keyed}{n k:Nat}{x:Keyed}(h:x∈(l.take n).drop k):∃j,k<=j/\j<n/\j<l.length/\l[j]? = some x:=by
 rw[List.drop_take] at h;obtain⟨j,h1,h2,h3⟩:=z4v h;exact⟨k+j,by lia,by lia,h2,h3⟩
def z8U {a:Array Keyed}{n:Nat}:(a.extract 0 n).toList=a.toList.take n:=by
 rw[z2N,List.drop_zero,Nat.sub_zero]
def z85 (hL:Asks M A s κ a₀ rk){st:SortSt}{a b:Array Keyed}{Q:Array Keyed->SortSt->Prop}(hk:kindOf st=κ)
  (hma:∀p∈a.toList,p∈a₀.toList) (hmb:∀p∈b.toList,p∈a₀.toList) (ha:Up rk a.toList) (hb:Up rk b.toList) (h1:1<=a.size) (h2:1<=b.size)
  (hf:z2o rk (b.toList.take 1) a.toList) (hl:z2o rk b.toList (a.toList.drop (a.size - 1)))
  (h:∀r g,Up rk r.toList->r.toList.Perm (a.toList++b.toList)->Q r (z1Y st g)):wpS M A E s (zdd a b) Q st:=by
 have sa:=ha.seg;have sb:=hb.seg;have la:a.toList.length=a.size:=by simp
 have lb:b.toList.length=b.size:=by simp
 have fin:∀(out:Array Keyed) (na nb g:Nat),Mrh rk a.toList b.toList out.toList.reverse na nb->(na=0\/nb=0)->Q (a.extract 0 na++b.extract 0 nb++out.reverse) (z1Y st g):=λout na nb g m e=>by
  have t:(a.extract 0 na++b.extract 0 nb++out.reverse).toList=a.toList.take na++b.toList.take nb++out.toList.reverse:=by
   rw[wT,wT,z8U,z8U,v6]
  exact h _ g (by rw[t]; exact m.done ha hb e) (by rw[t]; exact m.perm)
 have fin2:∀(out:Array Keyed) (na nb g:Nat),Mrh rk a.toList b.toList out.toList.reverse na nb->nb=1->Q (b.extract 0 nb++a.extract 0 na++out.reverse) (z1Y st g):=λout na nb g m e=>by
  have t:(b.extract 0 nb++a.extract 0 na++out.reverse).toList=b.toList.take nb++a.toList.take na++out.toList.reverse:=by
   rw[wT,wT,z8U,z8U,v6]
  have q:=m.firstB ha hb (λx hx y hy=>hf x (by rw[e] at hx; exact hx) y (vw hy));exact h _ g (by rw[t]; exact q.1) (by rw[t]; exact q.2)
 refine wm (wpS_lift (ub ⟨rfl,?_⟩));dsimp only;obtain⟨pz,ez,mz⟩:=z1S (xs:=a) (i:=a.size - 1) (by lia);refine wm (z0r ez ?_);have m0:Mrh rk a.toList b.toList (#[pz]:Array Keyed).toList.reverse (a.size - 1) b.size:=by
  have z:Mrh rk a.toList b.toList [] (a.size - 1+1) b.size:=⟨List.Pairwise.nil,(λx _ y hy=>by cases hy),(λx _ y hy=>by cases hy),by
   rw[show a.size - 1+1=a.toList.length by lia, <- lb,List.take_length,List.take_length,wW]⟩
  have:=z.moveA ha (a.size - 1) (by lia) (by
   rw[z2j (z1W ez)];intro x hx y hy;exact hl x (vw hx) y (by
    obtain rfl:=ww.mp hy;rw[wX (by lia)];have:=z1W ez;rw[wq (by lia)] at this;rw[wO this];exact wt))
  rw[z2j (z1W ez)] at this;simpa using this
 by_cases c1:a.size - 1=0
 ·refine z0f (by simpa using c1) ?_;exact wu (fin _ _ _ (gallopOf st) m0 (.inl c1))
 refine z0e (by simpa using c1) ?_
 by_cases c2:b.size=1
 ·refine z0f (by simpa using c2) ?_;exact wu (fin2 _ _ _ (gallopOf st) m0 c2)
 refine z0e (by simpa using c2) ?_;refine wm (wpS_get ?_);refine wm (vP (vh
  (I:=λx c st'=>∃out na nb mg g,c=(none,na,nb,out,mg)/\st'=z1Y st g/\Mrh rk a.toList b.toList out.toList.reverse na nb/\0<na/\1<nb/\na<a.size/\nb<=b.size/\na+nb+x+1<=a.size+b.size)
  (Q:=λc st'=>∃r rest,c=(some r,rest)/\Q r st') ?step ?fin ⟨_,_,_,_,gallopOf st,rfl,rfl,m0,by lia,by lia,by lia,by lia,by lia⟩) ?post)
 case post=>
  rintro c st' ⟨r,rest,rfl,q⟩;exact wu q
 case fin=>
  rintro c st' hI1;apply el5 (c:=c) (s:=st') hI1;intro out na nb mg g p1;have m:=p1.1;have i1:=p1.2.1;have i2:=p1.2.2.1;have i3:=p1.2.2.2;clear p1 hI1;lia
 case step=>
  rintro x c st' _ hx hI2;apply el5 (c:=c) (s:=st') hI2;intro out na nb mg g p2;have m:=p2.1;have i1:=p2.2.1;have i2:=p2.2.2.1;have i3:=p2.2.2.2.1;have i4:=p2.2.2.2.2.1;have i5:=p2.2.2.2.2.2;clear p2 hI2;dsimp only;refine wm (vP (vh
   (I:=λy c st'=>∃out ja jb ac bc,c=(none,ja,jb,out,ac,bc)/\st'=z1Y st g/\Mrh rk a.toList b.toList out.toList.reverse ja jb/\0<ja/\1<jb/\ja<a.size/\jb<=b.size/\ja+jb+y<=na+nb)
   (Q:=λc st'=>(∃r rest,c=(some r,rest)/\Q r st')\/∃out ja jb ac bc,c=(none,ja,jb,out,ac,bc)/\st'=z1Y st g/\Mrh rk a.toList b.toList out.toList.reverse ja jb/\0<ja/\1<jb/\ja<a.size/\jb<=b.size/\ja+jb+1<=na+nb)
   ?istep ?ifin ⟨_,_,_,_,_,rfl,rfl,m,i1,i2,i3,i4,by lia⟩) ?ipost)
  case ifin=>
   rintro c st' hI3;apply el5 (c:=c) (s:=st') hI3;intro out ja jb ac bc p3;have m:=p3.1;have j1:=p3.2.1;have j2:=p3.2.2.1;have j3:=p3.2.2.2.1;have j4:=p3.2.2.2.2.1;have j5:=p3.2.2.2.2.2;clear p3 hI3;exact .inr ⟨_,_,_,_,_,rfl,rfl,m,j1,j2,j3,j4,by lia⟩
  case istep=>
   rintro y c st' _ hy hI4;apply el5 (c:=c) (s:=st') hI4;intro out ja jb ac bc p4;have m:=p4.1;have j1:=p4.2.1;have j2:=p4.2.2.1;have j3:=p4.2.2.2.1;have j4:=p4.2.2.2.2.1;have j5:=p4.2.2.2.2.2;clear p4 hI4;obtain⟨ja,rfl⟩:∃i,ja=i+1:=⟨ja - 1,by lia⟩
   obtain⟨jb,rfl⟩:∃i,jb=i+1:=⟨jb - 1,by lia⟩
   dsimp only[Nat.add_one_sub_one];obtain⟨pb,eb,mb⟩:=z1S (xs:=b) (i:=jb) (by lia);obtain⟨pa,ea,ma⟩:=z1S (xs:=a) (i:=ja) (by lia);refine wm (z0r eb (wm (z0r ea (wm (z78 hL hk (hmb _ mb) (hma _ ma) ?_)))))
   by_cases hw:rk pb<rk pa
   ·refine z0f (by simpa using hw) ?_;refine wm (z0r ea ?_);have m':Mrh rk a.toList b.toList (out.push pa).toList.reverse ja (jb+1):=by
     have:=m.moveA ha ja (by lia) (by
      rw[z2j (z1W ea)];intro x hx y hy;obtain rfl:=ww.mp hy;obtain⟨j,hj,hj2,e⟩:=z9P hx;have:=sb j jb (by lia) (by lia) (by lia);rw[z0L eb,z2L e] at this;lia)
     rw[z2j (z1W ea)] at this;simpa using this
    by_cases c3:ja=0
    ·refine z0f (by simpa using c3) ?_;exact wu (.inl ⟨_,_,rfl,fin _ _ _ g m' (.inl c3)⟩)
    refine z0e (by simpa using c3) ?_
    split
    ·exact wu (.inr ⟨_,_,_,_,_,rfl,rfl,m',by lia,j2,by lia,j4,by lia⟩)
    ·exact wu ⟨_,_,_,_,_,rfl,rfl,m',by lia,j2,by lia,j4,by lia⟩
   ·refine z0e (by simpa using hw) ?_;refine wm (z0r eb ?_);have m':Mrh rk a.toList b.toList (out.push pb).toList.reverse (ja+1) jb:=by
     have:=m.moveB hb jb (by lia) (by
      rw[z2j (z1W eb)];intro x hx y hy;obtain rfl:=ww.mp hy;obtain⟨j,hj,hj2,e⟩:=z9P hx;have:=sa j ja (by lia) (by lia) (by lia);rw[z0L ea,z2L e] at this;lia)
     rw[z2j (z1W eb)] at this;simpa using this
    by_cases c3:jb=1
    ·refine z0f (by simpa using c3) ?_;exact wu (.inl ⟨_,_,rfl,fin2 _ _ _ g m' c3⟩)
    refine z0e (by simpa using c3) ?_
    split
    ·exact wu (.inr ⟨_,_,_,_,_,rfl,rfl,m',j1,by lia,by lia,by lia,by lia⟩)
    ·exact wu ⟨_,_,_,_,_,rfl,rfl,m',j1,by lia,by lia,by lia,by lia⟩
  case ipost=>
   rintro c st' (hA | hI5)
   ·obtain⟨r,rest,rfl,q⟩:=hA;obtain⟨r1,r2,r3,r4,r5⟩:=rest;exact wu ⟨_,_,rfl,q⟩
   apply el5 (c:=c) (s:=st') hI5;intro out ka kb ac bc p5;have m:=p5.1;have j1:=p5.2.1;have j2:=p5.2.2.1;have j3:=p5.2.2.2.1;have j4:=p5.2.2.2.2.1;have j5:=p5.2.2.2.2.2;clear p5 hI5;dsimp only;refine wm (wpS_lift (ub ⟨rfl,?_⟩));refine wm (vP (vh
    (I:=λy c st'=>∃out ja jb mg ac bc g,c=(none,ja,jb,out,mg,ac,bc)/\st'=z1Y st g/\Mrh rk a.toList b.toList out.toList.reverse ja jb/\0<ja/\1<jb/\ja<a.size/\jb<=b.size/\ja+jb+1<=na+nb)
    (Q:=λc st'=>(∃r rest,c=(some r,rest)/\Q r st')\/∃out ja jb mg ac bc g,c=(none,ja,jb,out,mg,ac,bc)/\st'=z1Y st g/\Mrh rk a.toList b.toList out.toList.reverse ja jb/\0<ja/\1<jb/\ja<a.size/\jb<=b.size/\ja+jb+1<=na+nb)
    ?gstep ?gfin ⟨_,_,_,_,_,_,g,rfl,rfl,m,j1,j2,j3,j4,j5⟩) ?gpost)
   case gfin=>
    rintro c st' z;exact .inr z
   case gpost=>
    rintro c st' (hA | hI6)
    ·obtain⟨r,rest,rfl,q⟩:=hA;obtain⟨r1,r2,r3,r4,r5,r6⟩:=rest;exact wu ⟨_,_,rfl,q⟩
    apply el7 (c:=c) (s:=st') hI6;intro out ka kb mg ac bc g p6;have m:=p6.1;have j1:=p6.2.1;have j2:=p6.2.2.1;have j3:=p6.2.2.2.1;have j4:=p6.2.2.2.2.1;have j5:=p6.2.2.2.2.2;clear p6 hI6;dsimp only;show wpS M A E s (z1X _ >>= _) _ _;rw[z1K];refine wm (vR (wu ⟨_,_,_,_,mg+1,rfl,rfl,m,j1,j2,j3,j4,by lia⟩))
   case gstep=>
    clear m j1 j2 j3 j4 j5 out ka kb ac bc g;rintro y c st' _ hy hI7;apply el7 (c:=c) (s:=st') hI7;intro out ja jb mg ac bc g p7;have m:=p7.1;have j1:=p7.2.1;have j2:=p7.2.2.1;have j3:=p7.2.2.2.1;have j4:=p7.2.2.2.2.1;have j5:=p7.2.2.2.2.2;clear p7 hI7;obtain⟨jb,rfl⟩:∃i,jb=i+1:=⟨jb - 1,by lia⟩
    dsimp only[Nat.add_one_sub_one];obtain⟨pb,eb,mb⟩:=z1S (xs:=b) (i:=jb) (by lia);refine zhj (α:=Nat) (P := ?pp1) ?tl1 ?us1
    case us1=>
     intro J
     by_cases cg:mg > 1
     ·refine z0f cg ?_;generalize mg - 1=mg';exact J mg'
     ·refine z0e cg ?_;exact J mg
    intro mg';show wpS M A E s (z1X _ >>= _) _ _;rw[z1K];refine wm (vR ?_);refine wm (z0r eb ?_);refine wm (z6x hL hk (hmb _ mb) hma (by lia) (by lia) (λp q p1 p2 p3=>sa p q (by lia) p2 (by lia)) λk hk1 g1 g2 =>?_);simp only[Nat.zero_add] at g1 g2;dsimp only;have mA:Mrh rk a.toList b.toList ((a.toList.take ja).drop k++out.toList.reverse) k (jb+1):=m.moveA ha k hk1 (by
     intro x hx y hy;obtain⟨i,hi,hi2,e⟩:=z9P hx;obtain⟨j,hj,hj2,hj3,e2⟩:=ze3 hy;have q1:=g2 j hj hj2;have q2:=sb i jb (by lia) (by lia) (by lia);rw[z2L e2] at q1;rw[z0L eb,z2L e] at q2;lia)
    have hgt:z2o rk (a.toList.take k) [pb]:=by
     intro x hx y hy;obtain rfl:=ww.mp hy;obtain⟨j,hj,hj2,e⟩:=z9P hx;have:=g1 j hj;rw[z2L e] at this;lia
    refine zd4 (H:=λ(ka:Nat) (out1:Array Keyed)=>0<ka/\ka<=ja/\Mrh rk a.toList b.toList out1.toList.reverse ka (jb+1)/\z2o rk (a.toList.take ka) [pb]) (P := ?pp2) ?tl2 ?us2
    case us2=>
     intro J;have hk2:=hk1;have hg:=hgt
     by_cases c3:ja - k > 0
     ·refine z0f c3 ?_;have mA':Mrh rk a.toList b.toList (out++(a.extract k ja).reverse).toList.reverse k (jb+1):=by
       rw[wT,List.reverse_append,v6,List.reverse_reverse,z2N, <- List.drop_take]; exact mA
      by_cases c4:k=0
      ·refine z0f (by simpa using c4) ?_;exact wu (.inl ⟨_,_,rfl,fin _ _ _ mg' mA' (.inl c4)⟩)
      refine z0e (by simpa using c4) ?_;generalize out++(a.extract k ja).reverse=out1 at mA' ⊢;generalize k=ka at mA' hg hk2 c4 ⊢;exact J ka out1 ⟨by lia,hk2,mA',hg⟩
     ·refine z0e c3 ?_;obtain rfl:k=ja:=by lia
      exact J k out ⟨by lia,by lia,m,hg⟩
    clear mA hgt g1 g2;rintro ka out1 ⟨kl,kn,mA',hgt⟩;refine wm (z0r eb ?_);have mB:Mrh rk a.toList b.toList (out1.push pb).toList.reverse ka jb:=by
     have:=mA'.moveB hb jb (by lia) (by rw[z2j (z1W eb)]; exact hgt);rw[z2j (z1W eb)] at this;simpa using this
    by_cases c6:jb=1
    case pos=>
     refine z0f (by simpa using c6) ?_;exact wu (.inl ⟨_,_,rfl,fin2 _ _ _ mg' mB c6⟩)
    refine z0e (by simpa using c6) ?_;obtain⟨kc,ekc⟩:∃i,ka=i+1:=⟨ka - 1,by lia⟩
    subst ekc;dsimp only[Nat.add_one_sub_one];obtain⟨pa,ea,ma⟩:=z1S (xs:=a) (i:=kc) (by lia);refine wm (z0r ea ?_);refine wm (z6y hL hk (hma _ ma) hmb (by lia) (by lia) (λp q p1 p2 p3=>sb p q (by lia) p2 (by lia)) λl hl1 f1 f2 =>?_);simp only[Nat.zero_add] at f1 f2;dsimp only;have mC:Mrh rk a.toList b.toList ((b.toList.take jb).drop l++(out1.push pb).toList.reverse) (kc+1) l:=mB.moveB hb l hl1 (by
     intro x hx y hy;obtain⟨i,hi,hi2,e⟩:=z9P hx;obtain⟨j,hj,hj2,hj3,e2⟩:=ze3 hy;have q1:=f2 j hj hj2;have q2:=sa i kc (by lia) (by lia) (by lia);rw[z2L e2] at q1;rw[z0L ea,z2L e] at q2;lia)
    have hgt2:z2o rk (b.toList.take l) [pa]:=by
     intro x hx y hy;obtain rfl:=ww.mp hy;obtain⟨j,hj,hj2,e⟩:=z9P hx;have:=f1 j hj;rw[z2L e] at this;lia
    refine zd4 (H:=λ(kb:Nat) (out2:Array Keyed)=>1<kb/\kb<=jb/\Mrh rk a.toList b.toList out2.toList.reverse (kc+1) kb/\z2o rk (b.toList.take kb) [pa]) (P := ?pp3) ?tl3 ?us3
    case us3=>
     intro J;have hk2:=hl1;have hg:=hgt2
     by_cases c7:jb - l > 0
     ·refine z0f c7 ?_;have mC':Mrh rk a.toList b.toList (out1.push pb++(b.extract l jb).reverse).toList.reverse (kc+1) l:=by
       rw[wT,List.reverse_append,v6,List.reverse_reverse,z2N, <- List.drop_take]; exact mC
      by_cases c8:l=1
      ·refine z0f (by simpa using c8) ?_;exact wu (.inl ⟨_,_,rfl,fin2 _ _ _ mg' mC' c8⟩)
      refine z0e (by simpa using c8) ?_
      by_cases c8':l=0
      ·refine z0f (by simpa using c8') ?_;exact wu (.inl ⟨_,_,rfl,fin _ _ _ mg' mC' (.inr c8')⟩)
      refine z0e (by simpa using c8') ?_;generalize out1.push pb++(b.extract l jb).reverse=out2 at mC' ⊢;generalize l=kb at mC' hg hk2 c8 c8' ⊢;exact J kb out2 ⟨by lia,hk2,mC',hg⟩
     ·refine z0e c7 ?_;obtain rfl:l=jb:=by lia
      exact J l (out1.push pb) ⟨by lia,by lia,mB,hgt2⟩
    clear mC hgt2 f1 f2;rintro kb out2 ⟨kbl,kbn,mC',hgt2⟩;refine wm (z0r ea ?_);have mD:Mrh rk a.toList b.toList (out2.push pa).toList.reverse kc kb:=by
     have:=mC'.moveA ha kc (by lia) (by rw[z2j (z1W ea)]; exact hgt2);rw[z2j (z1W ea)] at this;simpa using this
    by_cases c9:kc=0
    case pos=>
     refine z0f (by simpa using c9) ?_;exact wu (.inl ⟨_,_,rfl,fin _ _ _ mg' mD (.inl c9)⟩)
    refine z0e (by simpa using c9) ?_
    split
    ·exact wu (.inr ⟨_,_,_,_,_,_,mg',rfl,rfl,mD,by lia,by lia,by lia,by lia,by lia⟩)
    ·exact wu ⟨_,_,_,_,_,_,mg',rfl,rfl,mD,by lia,by lia,by lia,by lia,by lia⟩
end
section
variable {M:Model}{A:Around}{E:Value->Shared->Prop}{s:Shared}{rk:Keyed->Nat}{κ:SortKind}{a₀:Array Keyed}
def Runs (rk:Keyed->Nat)(xs:Array Keyed):List (Nat × Nat)->Nat->Nat->Prop
 | [],i,j=>i=j
 | (b,n)::r,i,j=>b=i/\1<=n/\Seg rk xs i (i+n)/\Runs rk xs r (i+n) j
theorem Runs.le {xs:Array Keyed}:∀{l:List (Nat × Nat)}{i j:Nat},Runs rk xs l i j->i+l.length<=j
 | [],i,j,h=>by cases h; simp
 | (b,n)::r,i,j,h=>by
  have:=Runs.le h.2.2.2;have:=h.2.1;simp only[wC]; lia
theorem Runs.app {xs:Array Keyed}:∀{l m:List (Nat × Nat)}{i j:Nat},Runs rk xs (l++m) i j↔∃k,Runs rk xs l i k/\Runs rk xs m k j
 | [],m,i,j=>⟨λh=>⟨i,rfl,h⟩,λ⟨k,h,h'⟩=>by cases h; exact h'⟩
 | (b,n)::r,m,i,j=>by
  constructor
  ·rintro⟨h1,h2,h3,h4⟩;obtain⟨k,q1,q2⟩:=Runs.app.mp h4;exact⟨k,⟨h1,h2,h3,q1⟩,q2⟩
  ·rintro⟨k,⟨h1,h2,h3,h4⟩,q⟩;exact⟨h1,h2,h3,Runs.app.mpr ⟨k,h4,q⟩⟩
def Seg.congr {xs ys:Array Keyed}{i j:Nat}(e:∀k,i<=k->k<j->ys[k]? = xs[k]?)(h:Seg rk xs i j):Seg rk ys i j:=λp q h1 h2 h3=>by
 rw[z1B (e p h1 (by lia)),z1B (e q (by lia) h3)];exact h p q h1 h2 h3
theorem Runs.congr {xs ys:Array Keyed}:∀{l:List (Nat × Nat)}{i j:Nat},(∀k,i<=k->k<j->ys[k]? = xs[k]?)->Runs rk xs l i j->Runs rk ys l i j
 | [],_,_,_,h=>h
 | (b,n)::r,i,j,e,h=>by
  have:=Runs.le h.2.2.2;exact⟨h.1,h.2.1,h.2.2.1.congr λk h1 h2=>e k h1 (by lia),Runs.congr (λk h1 h2=>e k (by lia) h2) h.2.2.2⟩
def prs (p:Array (Nat × Nat × Nat)):List (Nat × Nat):=p.toList.map λr=>(r.1,r.2.1)
def zb8 (p:Array (Nat × Nat × Nat)):(prs p).length=p.size:=by simp[prs]
theorem zfC (i:Nat):∀(m:List Keyed) (n:Nat) (arr:Array Keyed),i+n+m.length<=arr.size->
  ((m.zipIdx n).foldl (λa x=>match x with | (p,j)=>a.setIfInBounds (i+j) p) arr).size=arr.size/\
  ∀k,((m.zipIdx n).foldl (λa x=>match x with | (p,j)=>a.setIfInBounds (i+j) p) arr)[k]? = if i+n<=k/\k<i+n+m.length then m[k - (i+n)]? else arr[k]?
 | [],n,arr,_=>⟨rfl,λk=>by rw[if_neg (by simp)]; rfl⟩
 | x::m,n,arr,h=>by
  simp only[wC] at h;have ih:=zfC i m (n+1) (arr.setIfInBounds (i+n) x) (by rw[Array.size_setIfInBounds]; lia);rw[List.zipIdx_cons,List.foldl_cons];refine⟨ih.1.trans Array.size_setIfInBounds,λk =>?_⟩;rw[ih.2 k];simp only[wC]
  by_cases h1:i+(n+1)<=k/\k<i+(n+1)+m.length
  ·rw[if_pos h1,if_pos (by lia),show k - (i+n)=k - (i+(n+1))+1 by lia,List.getElem?_cons_succ]
  ·rw[if_neg h1]
   by_cases h2:k=i+n
   ·subst h2;rw[if_pos (by lia),Nat.sub_self,Array.getElem?_setIfInBounds_self_of_lt (by lia)]; rfl
   ·rw[if_neg (by lia),Array.getElem?_setIfInBounds_ne (by lia)]
def z5i (hL:Asks M A s κ a₀ rk){st:SortSt}{i hi:Nat}{Q:Bool->SortSt->Prop}(hB:TB κ a₀ st)(hr:Runs rk (arrOf st) (prs (pendingOf st)) 0 hi)(hhi:hi<=a₀.size)(hi1:i+1<(pendingOf st).size)
  (h:∀st',TB κ a₀ st'->Runs rk (arrOf st') (prs (pendingOf st')) 0 hi->(pendingOf st').size+1=(pendingOf st).size->(∀k,hi<=k->(arrOf st')[k]? = (arrOf st)[k]?)->Q true st'):
  wpS M A E s (mergeAt' i) Q st:=by
 obtain⟨kd,X,P,G,F⟩:=st
 replace hi1:i+1<P.size:=hi1
 replace h:∀st',TB κ a₀ st'->Runs rk (arrOf st') (prs (pendingOf st')) 0 hi->(pendingOf st').size+1=P.size->(∀k,hi<=k->(arrOf st')[k]? = X[k]?)->Q true st':=h
 obtain⟨⟨sa,na,pw⟩,ep⟩:∃v,P[i]? = some v:=⟨_,uc _ i (by lia)⟩
 obtain⟨⟨sb,nb,pw2⟩,ep2⟩:∃v,P[i+1]? = some v:=⟨_,uc _ (i+1) hi1⟩
 obtain⟨l1,l2,el,ll⟩:∃l1 l2,P.toList=l1++(sa,na,pw)::(sb,nb,pw2)::l2/\l1.length=i:=by
  have e1:P.toList[i]? = some (sa,na,pw):=by rw[vi]; exact ep
  have e2:P.toList[i+1]? = some (sb,nb,pw2):=by rw[vi]; exact ep2
  obtain⟨q1,r1⟩:=wb.mp e1;obtain⟨q2,r2⟩:=wb.mp e2;refine⟨P.toList.take i,P.toList.drop (i+2),?_,by rw[v9]; lia⟩;rw[<- r1, <- r2, <- wX q2, <- wX q1,vC]
 have hr':Runs rk X (prs P) 0 hi:=hr;unfold prs at hr';rw[el,vH,wz,wz] at hr';obtain⟨k0,r1,r2⟩:=Runs.app.mp hr';obtain⟨f1,f2,f3,f4,f5,f6,f7⟩:=r2;dsimp only at f1 f2 f3 f4 f5 f6 f7;subst f1;subst f4;have hend:=Runs.le f7;have hsz:X.size=a₀.size:=hB.size;have hpend:(P.setIfInBounds i (sa,na+nb,pw)).eraseIdxIfInBounds (i+1)=(l1++(sa,na+nb,pw)::l2).toArray:=by
  apply Array.toList_inj.mp;rw[Array.toList_eraseIdxIfInBounds,Array.toList_setIfInBounds,el, <- ll,List.set_append_right _ _ (wc _),Nat.sub_self,List.set_cons_zero,List.eraseIdx_append_of_length_le (by lia),show l1.length+1 - l1.length=1 by lia]
  rfl
 have hps:P.size=l1.length+l2.length+2:=by
  rw[<- wL,el,wG,wC,wC]; lia
 have fin:∀(st':SortSt),TB κ a₀ st'->pendingOf st'=(P.setIfInBounds i (sa,na+nb,pw)).eraseIdxIfInBounds (i+1)->Seg rk (arrOf st') sa (sa+na+nb)->(∀k,k<sa\/sa+na+nb<=k->(arrOf st')[k]? = X[k]?)->Q true st':=by
  intro st' hB' hp' hs' ho;refine h st' hB' ?_ ?_ (λk hk=>ho k (.inr (by lia)))
  ·rw[hp',hpend];unfold prs;rw[vH,wz];refine Runs.app.mpr ⟨sa,r1.congr (λk _ hk=>ho k (.inl hk)),rfl,(by show 1<=na+nb; lia),?_,?_⟩
   ·rw[show sa+(na+nb)=sa+na+nb by lia]; exact hs'
   ·rw[show sa+(na+nb)=sa+na+nb by lia]; exact f7.congr (λk hk _=>ho k (.inr hk))
  ·rw[hp',hpend,hps];show (l1++(sa,na+nb,pw)::l2).length+1=_;rw[wG,wC]; lia
 refine wm (wpS_get ?_);rw[ep,ep2];dsimp only;refine wm ?_;show wpS M A E s (set (setPending (SortSt.mk' kd X P G F) ((P.setIfInBounds i (sa,na+nb,pw)).eraseIdxIfInBounds (i+1))):StateT SortSt Sem PUnit) _ (SortSt.mk' kd X P G F);obtain⟨st1,e1⟩:∃st1:SortSt,st1=setPending (SortSt.mk' kd X P G F) ((P.setIfInBounds i (sa,na+nb,pw)).eraseIdxIfInBounds (i+1)):=⟨_,rfl⟩
 rw[<- e1];have hset:∀(R:PUnit->SortSt->Prop),R ⟨⟩ st1->wpS M A E s (set st1:StateT SortSt Sem PUnit) R (SortSt.mk' kd X P G F):=λR hR=>by
  unfold wpS;rw[StateT.run_set];exact wf ⟨rfl,hR⟩
 refine hset _ ?_;have a1:arrOf st1=X:=by rw[e1]
 have p1:pendingOf st1=(P.setIfInBounds i (sa,na+nb,pw)).eraseIdxIfInBounds (i+1):=by rw[e1]
 have hB1:TB κ a₀ st1:=by rw[e1]; exact⟨hB.kind,hB.failed,hB.perm⟩
 clear e1;have hmem:∀p∈X.toList,p∈a₀.toList:=λp hp=>hB.mem (st:=SortSt.mk' kd X P G F) hp;obtain⟨qb,eb,mb⟩:=z1S (xs:=X) (i:=sa+na) (by lia);refine wm (z0r eb ?_);refine wm (z6x hL hB1.kind (hmem _ mb) hmem (by lia) (by lia) f3 λk hk1 g1 g2 =>?_);dsimp only
 by_cases c1:na - k=0
 ·rw[if_pos (by simpa using c1)];obtain rfl:k=na:=by lia
  refine wu (fin st1 hB1 p1 (λp q x1 x2 x3 =>?_) (λk _=>by rw[a1]));rw[a1]
  by_cases y1:q<sa+k
  ·exact f3 p q x1 x2 y1
  ·by_cases y2:sa+k<=p
   ·exact f6 p q y2 x2 x3
   ·have z1:=g1 (p - sa) (by lia);have z2:=f6 (sa+k) q (by lia) (by lia) x3;rw[show sa+(p - sa)=p by lia] at z1;rw[z0L eb] at z2;lia
 rw[if_neg (by simpa using c1)];rw[show sa+k+(na - k) - 1=sa+na - 1 by lia];obtain⟨qa,ea,ma⟩:=z1S (xs:=X) (i:=sa+na - 1) (by lia);refine wm (z0r ea ?_);refine wm (z6y hL hB1.kind (hmem _ ma) hmem (by lia) (by lia) f6 λl hl1 u1 u2 =>?_);dsimp only
 by_cases c2:l=0
 ·rw[if_pos (by simpa using c2)];refine wu (fin st1 hB1 p1 (λp q x1 x2 x3 =>?_) (λk _=>by rw[a1]));rw[a1]
  by_cases y1:q<sa+na
  ·exact f3 p q x1 x2 y1
  ·by_cases y2:sa+na<=p
   ·exact f6 p q y2 x2 x3
   ·have z1:=u2 (q - (sa+na)) (by lia) (by lia);have z2:=f3 p (sa+na - 1) x1 (by lia) (by lia);rw[show sa+na+(q - (sa+na))=q by lia] at z1;rw[z0L ea] at z2;lia
 rw[if_neg (by simpa using c2)];have back:∀(r:Array Keyed) (g:Nat),Up rk r.toList->r.toList.Perm ((X.extract (sa+k) (sa+na)).toList++(X.extract (sa+na) (sa+na+l)).toList)->
   ∀(arr':Array Keyed),arr'=r.toList.zipIdx.foldl (λa x=>match x with | (p,j)=>a.setIfInBounds (sa+k+j) p) X->Q true (setArr (z1Y st1 g) arr'):=by
  intro r g ru rp arr' earr;have rl:r.toList.length=na - k+l:=by
   rw[rp.length_eq,wG,wL,wL,vU,vU]; lia
  have w:=zfC (sa+k) r.toList 0 X (by lia);rw[<- earr] at w;simp only[Nat.add_zero,rl] at w;rw[show sa+k+(na - k+l)=sa+na+l by lia] at w;have rm:∀x∈r.toList,Rk rk X (sa+na)<=rk x/\rk x<=Rk rk X (sa+na - 1):=by
   intro x hx
   rcases wE.mp (rp.mem_iff.mp hx) with hx | hx
   ·rw[z2N] at hx;obtain⟨j,j1,j2,je⟩:=z4v hx;have z1:=g2 (k+j) (by lia) (by lia);have z2:=f3 (sa+k+j) (sa+na - 1) (by lia) (by lia) (by lia);rw[show sa+(k+j)=sa+k+j by lia,z2L je] at z1;rw[z2L je] at z2;rw[z0L eb];lia
   ·rw[z2N] at hx;obtain⟨j,j1,j2,je⟩:=z4v hx;have z1:=u1 j (by lia);have z2:=f6 (sa+na) (sa+na+j) (by lia) (by lia) (by lia);rw[z2L je] at z1 z2;rw[z0L ea];lia
  have at1:∀p,p<sa+k\/sa+na+l<=p->arr'[p]? = X[p]? := λp hp=>by rw[w.2 p,if_neg (by lia)]
  have at2:∀p,sa+k<=p->p<sa+na+l->∃x,x∈r.toList/\r.toList[p - (sa+k)]? = some x/\Rk rk arr' p=rk x:=λp h1 h2=>by
   have hlt:p - (sa+k)<r.toList.length:=by lia
   refine⟨r.toList[p - (sa+k)],List.getElem_mem hlt,wq hlt,z0L ?_⟩;rw[w.2 p,if_pos ⟨h1,h2⟩,wq hlt]
  have hperm:arr'.Perm X:=by
   apply vB.mpr;have ex:arr'.toList=X.toList.take (sa+k)++(r.toList++X.toList.drop (sa+na+l)):=by
    apply List.ext_getElem?;intro p;rw[vi,w.2 p,List.getElem?_append,v9,wL,Nat.min_eq_left (by lia)]
    by_cases h1:p<sa+k
    ·rw[if_neg (by lia),if_pos h1,List.getElem?_take,if_pos h1,vi]
    ·rw[if_neg h1,List.getElem?_append,rl]
     by_cases h2:p<sa+na+l
     ·rw[if_pos (by lia),if_pos (by lia)]
     ·rw[if_neg (by lia),if_neg (by lia),List.getElem?_drop,vi]
      congr 1; lia
   have ey:X.toList=X.toList.take (sa+k)++(((X.extract (sa+k) (sa+na)).toList++(X.extract (sa+na) (sa+na+l)).toList)++X.toList.drop (sa+na+l)):=by
    rw[z2N,z2N];have d1:=z5g X.toList (sa+k) (sa+na - (sa+k));have d2:=z5g X.toList (sa+na) (sa+na+l - (sa+na));rw[show sa+k+(sa+na - (sa+k))=sa+na by lia] at d1;rw[show sa+na+(sa+na+l - (sa+na))=sa+na+l by lia] at d2;rw[vk, <- d2, <- d1,vC]
   rw[ex]
   conv=>rhs; rw[ey]
   exact vW _ (vS _ rp)
  refine fin _ ⟨hB1.kind,hB1.failed,hperm.trans hB.perm⟩ p1 (λp q x1 x2 x3 =>?_) (λp hp=>at1 p (by lia));show Rk rk arr' p<=Rk rk arr' q
  by_cases p2:p<sa+k
  ·rw[z1B (at1 p (.inl p2))]
   by_cases q2:q<sa+k
   ·rw[z1B (at1 q (.inl q2))]; exact f3 p q x1 x2 (by lia)
   ·have z1:=g1 (p - sa) (by lia);rw[show sa+(p - sa)=p by lia] at z1
    by_cases q3:q<sa+na+l
    ·obtain⟨x,xm,_,xr⟩:=at2 q (by lia) q3;rw[xr];have:=(rm x xm).1;rw[z0L eb] at this;lia
    ·rw[z1B (at1 q (.inr (by lia)))];have:=f6 (sa+na) q (by lia) (by lia) x3;rw[z0L eb] at this;lia
  ·by_cases p3:p<sa+na+l
   ·obtain⟨x,xm,xi,xr⟩:=at2 p (by lia) p3;rw[xr]
    by_cases q3:q<sa+na+l
    ·obtain⟨y,ym,yi,yr⟩:=at2 q (by lia) q3;rw[yr]
     by_cases epq:p=q
     ·subst epq; rw[xi] at yi; cases yi; exact wc _
     ·obtain⟨v1,w1⟩:=wb.mp xi;obtain⟨v2,w2⟩:=wb.mp yi;have:=v8.mp ru (p - (sa+k)) (q - (sa+k)) v1 v2 (by lia);rw[w1,w2] at this;exact this
    ·rw[z1B (at1 q (.inr (by lia)))];have z1:=(rm x xm).2;have z2:=u2 (q - (sa+na)) (by lia) (by lia);rw[show sa+na+(q - (sa+na))=q by lia] at z2;rw[z0L ea] at z1;lia
   ·rw[z1B (at1 p (.inr (by lia))),z1B (at1 q (.inr (by lia)))];exact f6 p q (by lia) x2 x3
 have upx:Up rk (X.extract (sa+k) (sa+na)).toList:=zaC (λp q x1 x2 x3=>f3 p q (by lia) x2 x3) (by lia);have upy:Up rk (X.extract (sa+na) (sa+na+l)).toList:=zaC (λp q x1 x2 x3=>f6 p q x1 x2 (by lia)) (by lia);have szx:(X.extract (sa+k) (sa+na)).size=na - k:=by rw[vU]; lia
 have szy:(X.extract (sa+na) (sa+na+l)).size=l:=by rw[vU]; lia
 have mx:∀p∈(X.extract (sa+k) (sa+na)).toList,p∈a₀.toList:=λp hp=>hmem p (by rw[z2N] at hp; exact vD (vw hp));have my:∀p∈(X.extract (sa+na) (sa+na+l)).toList,p∈a₀.toList:=λp hp=>hmem p (by rw[z2N] at hp; exact vD (vw hp));have c3:z2o rk ((X.extract (sa+na) (sa+na+l)).toList.take 1) (X.extract (sa+k) (sa+na)).toList:=by
  intro x hx y hy;rw[z2N] at hx hy;rw[List.take_take] at hx;obtain⟨i1,j1,j2,je⟩:=z4v hx;obtain⟨i2,k1,k2,ke⟩:=z4v hy;have z1:=g2 (k+i2) (by lia) (by lia);rw[show sa+(k+i2)=sa+k+i2 by lia,z2L ke] at z1;obtain rfl:i1=0:=by lia
  have z3:Rk rk X (sa+na)=rk x:=z2L je;rw[z0L eb] at z3;lia
 have c4:z2o rk (X.extract (sa+na) (sa+na+l)).toList ((X.extract (sa+k) (sa+na)).toList.drop ((X.extract (sa+k) (sa+na)).size - 1)):=by
  intro x hx y hy;rw[z2N] at hx;obtain⟨i1,j1,j2,je⟩:=z4v hx;rw[szx] at hy;obtain⟨i2,k2,ke⟩:=z8r hy;rw[wL,szx] at k2;obtain rfl:i2=0:=by lia
  have z1:=u1 i1 (by lia);rw[z2L je] at z1;rw[vi,Array.getElem?_extract,if_pos (by lia),show sa+k+(na - k - 1+0)=sa+na - 1 by lia,ea] at ke
  cases ke
  lia
 have last:∀(r:Array Keyed) (g:Nat),Up rk r.toList->r.toList.Perm ((X.extract (sa+k) (sa+na)).toList++(X.extract (sa+na) (sa+na+l)).toList)->
   Q ((failedOf st1).isNone) (setArr (z1Y st1 g) (r.toList.zipIdx.foldl (λa x=>match x with | (p,j)=>a.setIfInBounds (sa+k+j) p) (arrOf st1))):=λr g ru rp=>by
  rw[hB1.failed,a1];exact back r g ru rp _ rfl
 by_cases c5:na - k<=l
 ·rw[if_pos c5];refine wm (z84 hL hB1.kind mx my upx upy (by lia) (by lia) c3 c4 λr g ru rp =>?_);exact wm (vR (wm (wpS_get (wu (last r g ru rp)))))
 ·rw[if_neg c5];refine wm (z85 hL hB1.kind mx my upx upy (by lia) (by lia) c3 c4 λr g ru rp =>?_);exact wm (vR (wm (wpS_get (wu (last r g ru rp)))))
end
section
variable {M:Model}{A:Around}{E:Value->Shared->Prop}{s:Shared}{rk:Keyed->Nat}{κ:SortKind}{a₀:Array Keyed}
def zeZ (p:Array (Nat × Nat × Nat))(i w:Nat):prs (p.modify i λx=>match x with | (st,len,_)=>(st,len,w))=prs p:=by
 unfold prs;rw[Array.toList_modify];apply List.ext_getElem?;intro k;rw[wI,wI,List.getElem?_modify]
 cases p.toList[k]? with
 | none=>rfl
 | some v=>
  obtain⟨v1,v2,v3⟩:=v
  by_cases e:i=k <;> simp[e]
def zf3 {c:Prop}[Decidable c]{n:Nat}(h:1<n):(if c then n - 2 - 1 else n - 2)+1<n:=by
 split <;> lia
def zcQ (p:Array (Nat × Nat × Nat))(v:Nat × Nat × Nat):prs (p.push v)=prs p++[(v.1,v.2.1)]:=by
 unfold prs; rw[Array.toList_push,vH]; rfl
def z77 (hL:Asks M A s κ a₀ rk){st:SortSt}{Q:Unit->SortSt->Prop}(hB:TB κ a₀ st)(hp:pendingOf st = #[])(h1:1<=a₀.size)
  (h:∀st',TB κ a₀ st'->Seg rk (arrOf st') 0 a₀.size->Q () st'):wpS M A E s sortRuns' Q st:=by
 refine wm (wpS_get ?_);dsimp only;have hz:(PyProof.Rows.arrOf st).size=a₀.size:=hB.size;rw[hz];obtain⟨mr,emr⟩:∃mr,minRun' a₀.size a₀.size 0=mr:=⟨_,rfl⟩
 delta minRun' at emr
 rw[emr];refine wm (vP (vh
  (I:=λx c st'=>∃lo,c=(none,lo)/\TB κ a₀ st'/\Runs rk (arrOf st') (prs (pendingOf st')) 0 lo/\lo<=a₀.size/\x<=lo)
  (Q:=λc st'=>c=(none,a₀.size)/\TB κ a₀ st'/\Runs rk (arrOf st') (prs (pendingOf st')) 0 a₀.size) ?step ?fin ⟨0,rfl,hB,by rw[hp]; exact rfl,by lia,by lia⟩) ?post)
 case fin=>
  rintro c st' hI1;apply elc1 (c:=c) hI1;intro lo p1;have hB':=p1.1;have hr':=p1.2.1;have l1:=p1.2.2.1;have l2:=p1.2.2.2;clear p1 hI1;obtain rfl:lo=a₀.size:=by lia
  exact⟨rfl,hB',hr'⟩
 case step=>
  rintro x c st' _ hx hI2;apply elc1 (c:=c) hI2;intro lo p2;have hB':=p2.1;have hr':=p2.2.1;have l1:=p2.2.2.1;have l2:=p2.2.2.2;clear p2 hI2;dsimp only
  by_cases c1:lo>=a₀.size
  ·refine z0f c1 ?_;obtain rfl:lo=a₀.size:=by lia
   exact wu ⟨rfl,hB',hr'⟩
  refine z0e c1 ?_;refine wm (z79 hL (by lia) (by lia) hB' λm st1 hB1 hp1 m1 m2 hs1 hl1 =>?_);dsimp only;have hr1:Runs rk (arrOf st1) (prs (pendingOf st1)) 0 lo:=by rw[hp1]; exact hr'.congr (λk _ hk=>hl1 k hk)
  by_cases c2:m<mr
  case' pos=>
   refine z0f c2 ?_;refine wm (wpS_lift (ub ⟨rfl,?_⟩));refine wm (z61 hL (by lia) (by lia) m1 hB1 hs1 λst2 hB2 hp2 hs2 hl2 =>?_);refine z0e (by decide) ?_;have hr2:Runs rk (arrOf st2) (prs (pendingOf st2)) 0 lo:=by rw[hp2]; exact hr1.congr (λk _ hk=>hl2 k hk)
   obtain⟨n,en,n1,n2⟩:∃n,n=min (a₀.size - lo) mr/\1<=n/\lo+n<=a₀.size:=⟨_,rfl,by lia,by lia⟩
   rw[<- en] at hs2 ⊢;clear en
  case' neg=>
   refine z0e c2 ?_;obtain⟨n,en,n1,n2⟩:∃n,n=m/\1<=n/\lo+n<=a₀.size:=⟨_,rfl,by lia,by lia⟩
   obtain⟨st2,e2,hB2,hr2⟩:∃st2,st2=st1/\TB κ a₀ st2/\Runs rk (arrOf st2) (prs (pendingOf st2)) 0 lo:=⟨_,rfl,hB1,hr1⟩
   have hs2:Seg rk (arrOf st2) lo (lo+n):=by rw[e2,en]; exact hs1
   rw[<- en, <- e2];clear en e2
  all_goals
   refine wm (wpS_get ?_);have push:∀st3,TB κ a₀ st3->Runs rk (arrOf st3) (prs (pendingOf st3)) 0 lo->Seg rk (arrOf st3) lo (lo+n)->TB κ a₀ (setPending st3 ((pendingOf st3).push (lo,n,0)))/\Runs rk (arrOf st3) (prs ((pendingOf st3).push (lo,n,0))) 0 (lo+n):=λst3 hB3 hr3 hs3=>by
    refine⟨⟨hB3.kind,hB3.failed,hB3.perm⟩,?_⟩;rw[zcQ];exact Runs.app.mpr ⟨lo,hr3,rfl,n1,hs3,rfl⟩
   split
   ·rename_i s1 n1' w eb
    refine wm (vP (vh (I:=λy c st3=>c=(none,())/\TB κ a₀ st3/\Runs rk (arrOf st3) (prs (pendingOf st3)) 0 lo/\Seg rk (arrOf st3) lo (lo+n))
     (Q:=λc st3=>c=(none,())/\TB κ a₀ st3/\Runs rk (arrOf st3) (prs (pendingOf st3)) 0 lo/\Seg rk (arrOf st3) lo (lo+n)) ?istep (λ_ _ z=>z) ⟨rfl,hB2,hr2,hs2⟩) ?ipost)
    case istep=>
     rintro y c st3 _ _ hI3;apply elc0 (c:=c) hI3;intro p3;have hB3:=p3.1;have hr3:=p3.2.1;have hs3:=p3.2.2;clear p3 hI3;refine wm (wpS_get ?_)
     split
     ·rename_i f1 f2 old eo
      split
      ·exact wu ⟨rfl,hB3,hr3,hs3⟩
      ·have hgt:(pendingOf st3).size > 1:=by
        by_cases q:(pendingOf st3).size > 1
        ·exact q
        ·rw[if_neg q] at eo; cases eo
       refine wm (z5i hL hB3 hr3 l1 (by show (pendingOf st3).size - 2+1<(pendingOf st3).size; lia) λst4 hB4 hr4 _ ho4 =>?_);refine z0e (by decide) ?_;exact wu ⟨rfl,hB4,hr4,hs3.congr λk hk _=>ho4 k hk⟩
     ·exact wu ⟨rfl,hB3,hr3,hs3⟩
    case ipost=>
     rintro c st3 hI4;apply elc0 (c:=c) hI4;intro p4;have hB3:=p4.1;have hr3:=p4.2.1;have hs3:=p4.2.2;clear p4 hI4;dsimp only;refine wm (vR (wm (vR (wu ?_))));have:=push (setPending st3 ((pendingOf st3).modify ((pendingOf st3).size - 1) λx=>match x with | (st,len,_)=>(st,len,power' a₀.size (2*s1+n1') (2*s1+n1'+n1'+n) a₀.size))) ⟨hB3.kind,hB3.failed,hB3.perm⟩ (by
      show Runs rk (arrOf st3) (prs ((pendingOf st3).modify _ _)) 0 lo;rw[zeZ]; exact hr3) hs3
     exact⟨lo+n,rfl,this.1,this.2,n2,by lia⟩
   ·have:=push st2 hB2 hr2 hs2;exact wm (vR (wu ⟨lo+n,rfl,this.1,this.2,n2,by lia⟩))
 case post=>
  rintro c st' hI5;apply elc0 (c:=c) hI5;intro p5;have hB':=p5.1;have hr':=p5.2;clear p5 hI5;dsimp only;have hle:=hr'.le;rw[zb8] at hle;refine wm (vP (vh (I:=λy c st3=>c=(none,())/\TB κ a₀ st3/\Runs rk (arrOf st3) (prs (pendingOf st3)) 0 a₀.size/\((pendingOf st3).size<=1\/(pendingOf st3).size+y<=a₀.size))
   (Q:=λc st3=>c=(none,())/\TB κ a₀ st3/\Runs rk (arrOf st3) (prs (pendingOf st3)) 0 a₀.size/\(pendingOf st3).size<=1) ?fstep ?ffin ⟨rfl,hB',hr',.inr (by lia)⟩) ?fpost)
  case ffin=>
   rintro c st3 hI6;apply elc0 (c:=c) hI6;intro p6;have hB3:=p6.1;have hr3:=p6.2.1;have hs3:=p6.2.2;clear p6 hI6;exact⟨rfl,hB3,hr3,by lia⟩
  case fpost=>
   rintro c st3 hI7;apply elc0 (c:=c) hI7;intro p7;have hB3:=p7.1;have hr3:=p7.2.1;have hs3:=p7.2.2;clear p7 hI7;refine wu (h st3 hB3 ?_);rw[<- zb8] at hs3
   match hl:prs (pendingOf st3),hr3,hs3 with
   | [],hr3,_=>have:0=a₀.size:=hr3; lia
   | [(b,n)],hr3,_=>
    obtain⟨q1,q2,q3,q4⟩:=hr3;have:0+n=a₀.size:=q4;rw[<- this]; exact q3
   | _::_::_,_,hs3=>simp at hs3
  case fstep=>
   rintro y c st3 _ _ hI8;apply elc0 (c:=c) hI8;intro p8;have hB3:=p8.1;have hr3:=p8.2.1;have hs3:=p8.2.2;clear p8 hI8;refine wm (wpS_get ?_)
   by_cases c3:(pendingOf st3).size<=1
   ·refine z0f c3 ?_;exact wu ⟨rfl,hB3,hr3,c3⟩
   ·refine z0e c3 ?_;refine wm (z5i hL hB3 hr3 (wc _) ?_ λst4 hB4 hr4 hz4 ho4 =>?_)
    ·show (if _ then (pendingOf st3).size - 2 - 1 else (pendingOf st3).size - 2)+1<(pendingOf st3).size;exact zf3 (by lia)
    ·refine z0e (by decide) ?_;exact wu ⟨rfl,hB4,hr4,by lia⟩
end
end Tim
namespace Tim
open PySem PyProof.Rows PySem.W HT
theorem z8v:∀k:List Int,z0N k k=false
 | []=>rfl
 | x::xs=>by rw[z29,if_pos rfl]; exact z8v xs
theorem zbv:∀{a b c:List Int},z0N a b=true->z0N b c=true->z0N a c=true
 | [],[],_,h,_=>by cases h
 | [],_::_,[],_,k=>by cases k
 | [],_::_,_::_,_,_=>rfl
 | _::_,[],_,h,_=>by cases h
 | _::_,_::_,[],_,k=>by cases k
 | x::xs,y::ys,z::zs,h,k=>by
  rw[z29] at h k ⊢
  by_cases e1:x=y
  ·subst e1
   by_cases e2:x=z
   ·subst e2;rw[if_pos rfl] at h k ⊢;exact zbv h k
   ·rw[if_neg e2] at k ⊢; exact k
  ·rw[if_neg e1] at h;have h':=v4 h
   by_cases e2:y=z
   ·subst e2;rw[if_neg e1]; exact h
   ·rw[if_neg e2] at k;have k':=v4 k;rw[if_neg (by omega)];exact wH (by omega)
theorem z8u:∀(a b:List Int),z0N a b=false->z0N b a=false->a=b
 | [],[],_,_=>rfl
 | [],_::_,h,_=>by cases h
 | _::_,[],_,k=>by cases k
 | x::xs,y::ys,h,k=>by
  rw[z29] at h k
  by_cases e:x=y
  ·subst e;rw[if_pos rfl] at h k;rw[z8u xs ys h k]
  ·rw[if_neg e] at h;rw[if_neg (wU e)] at k;have h':=of_decide_eq_false h;have k':=of_decide_eq_false k;omega
def rkL (l:List (List Int))(k:List Int):Nat:=l.countP λq=>z0N q k
def z7O {α:Type}{p q:α->Bool}{l:List α}(h:∀x,p x=true->q x=true){a:α}(ha:a∈l)(hp:p a=false)(hq:q a=true):l.countP p<l.countP q:=by
 induction l with
 | nil=>cases ha
 | cons y l ih=>
  rw[List.countP_cons,List.countP_cons];have hle:l.countP p<=l.countP q:=List.countP_mono_left λx _ hx=>h x hx
  rcases wx.mp ha with rfl | ha
  ·rw[hp,hq]; simp; omega
  ·have:=ih ha
   by_cases py:p y=true
   ·rw[py,h y py]; simp; omega
   ·rw[if_neg py]; split <;> omega
def zdJ {l:List (List Int)}{a b:List Int}(ha:a∈l)(hb:b∈l):z0N a b=decide (rkL l a<rkL l b):=by
 cases q:z0N a b with
 | true=>
  symm
  apply wH;exact z7O (λx hx=>zbv hx q) ha (z8v a) q
 | false=>
  symm
  apply wB;intro hlt
  cases q2:z0N b a with
  | true=>
   have:=z7O (p:=λx=>z0N x b) (q:=λx=>z0N x a) (λx hx=>zbv hx q2) hb (z8v b) q2;unfold rkL at hlt; omega
  | false=>
   rw[z8u a b q q2] at hlt;omega
section
variable {prog:Program}{w:World}{A:Around}{E:Value->Shared->Prop}{s:Shared}
def TI (h:Heap)(v:Value)(k:List Int):Prop:=∃a o z08 n,v = .ref a/\h.get? a=some o/\o.cls = .type "tuple"/\o.data = .seq z08 n/\IntsAre z08.toList k
def zcN {α:Type}{R:α->α->Prop}{l:List α}(h:l.length<2):l.Pairwise R:=by
 match l,h with
 | [],_=>exact List.Pairwise.nil
 | [x],_=>exact List.pairwise_singleton _ _
def z80 (prog:Program)(w:World)(h:Heap)(vs:List Value)(rk:Value->Nat):Prop:=∀(A:Around) (s:Shared),(∀b o,h.get? b=some o->o.cls = .type "tuple"->s.heap.get? b=some o)->
 ∃κ,Asks (model prog w) A s κ (pairsOf vs) (λp=>rk p.1)/\(1<vs.length->∀(Q:SortKind->Shared->Prop) (E:Value->Shared->Prop),Q κ s->wpAny (model prog w) A (keyKind' vs.toArray) Q E s)
def z80.keep {h h':Heap}{vs:List Value}{rk:Value->Nat}(x:z80 prog w h vs rk)(k:∀b o,h.get? b=some o->h'.get? b=some o):z80 prog w h' vs rk:=λA s k'=>x A s λb o e c=>k' b o (k b o e) c
def z7E {a:Addr}{vs:List Value}{rk:Value->Nat}{n:Nat}{P:PySem.Fin->Shared->Prop}(ho:s.heap.get? a=some (seqObj "list" vs.toArray n))(hz:vs.length<=sizeLine)
  (hk:z80 prog w s.heap vs rk)
  (h:∀out:List Value,out.Perm vs->out.Pairwise (λx y=>rk x<=rk y)->P (.done (.ret .none)) { s with heap:=sortedHeap s.heap a vs out.toArray }):
  wpAny (model prog w) A (Builtin.«list.sort» ⟨[.ref a],[]⟩) P E s:=by
 rw[list_sort_plain];have ha:a<s.heap.objs.size:=wo ho;refine wa (listItems_at ho rfl ?_);refine wa (listUpdate_at ho rfl ?_ (by rw[wv]; omega) (w6 _));obtain⟨e1,ho1⟩:∃e1,(s.heap.update a (Obj.mapSeq λ_ => #[])).get? a=some (seqObj "list" #[] e1):=⟨_,get?_update_seq ho (λ_ => #[])⟩
 refine wa (seqEpoch_at ho1 rfl ?_);refine wa (wpAny_newTuple ?_ (by show vs.length<=_; omega));refine wa (wpAny_newList ?_ (w6 _));refine vj ?_;have ho6:(((s.heap.update a (Obj.mapSeq λ_ => #[])).push (seqObj "tuple" vs.toArray 0)).push (seqObj "list" #[] 0)).get? a=some (seqObj "list" #[] e1):=by
  rw[Heap.get?_push_ne _ _ _ (by rw[size_push',Heap.size_update]; exact wD (vZ ha)),Heap.get?_push_ne _ _ _ (by rw[Heap.size_update]; exact wD ha)];exact ho1
 have keep:∀b o,s.heap.get? b=some o->o.cls = .type "tuple"->(((s.heap.update a (Obj.mapSeq λ_ => #[])).push (seqObj "tuple" vs.toArray 0)).push (seqObj "list" #[] 0)).get? b=some o:=λb o hb hc=>by
  have hlt:b<s.heap.objs.size:=wo hb;have hne:b≠a:=by
   rintro rfl;rw[ho] at hb
   cases hb
   exact absurd (show Value.type "list"=Value.type "tuple" from hc) (by decide)
  rw[Heap.get?_push_ne _ _ _ (by rw[size_push',Heap.size_update]; exact wD (vZ hlt)),Heap.get?_push_ne _ _ _ (by rw[Heap.size_update]; exact wD hlt),Heap.get?_update_ne _ _ _ _ hne];exact hb
 show wpAny (model prog w) A _ P E { s with heap:=((s.heap.update a (Obj.mapSeq λ_ => #[])).push (seqObj "tuple" vs.toArray 0)).push (seqObj "list" #[] 0) };dsimp only;have hsz:vs.toArray.size=vs.length:=by simp
 have snd:∀st':SortSt,(arrOf st').Perm (pairsOf vs)->∃out:List Value,(arrOf st').map (·.2)=out.toArray/\out.Perm vs/\(arrOf st').toList.map (·.1)=out:=λst' hp=>by
  refine⟨(arrOf st').toList.map (·.2),?_,?_,?_⟩
  ·apply Array.toList_inj.mp;rw[Array.toList_map]
  ·have:=(vB.mp hp).map (·.2);rw[pairsOf_toList] at this;refine this.trans ?_;rw[List.map_snd_zip (wc _)]
  ·apply List.map_congr_left;intro p hp';have:=(vB.mp hp).mem_iff.mp hp';rw[pairsOf_toList] at this;exact(mem_zip_self this).1
 have outsz:∀st':SortSt,(arrOf st').Perm (pairsOf vs)->((arrOf st').map (·.2)).size<=sizeLine:=λst' hp=>by
  rw[Array.size_map,hp.size_eq,pairsOf_size]; exact hz
 by_cases h2:vs.toArray.size<2
 ·rw[if_pos h2,if_pos h2];refine wa (wf ?_);rw[StateT.run_pure];refine wa (wf ?_);dsimp only;refine wa (seqEpoch_at ho6 rfl ?_);have hp0:(arrOf (SortSt.mk' general' (vs.toArray.zip vs.toArray) #[] 7 none)).Perm (pairsOf vs):=Array.Perm.refl _;refine wa (listUpdate_at ho6 rfl ?_ (w6 _) (Nat.le_succ_of_le (outsz _ hp0)));simp only[bne_self_eq_false,vp,uo];obtain⟨out,o1,o2,o3⟩:=snd _ hp0;have ee:sortedHeap s.heap a vs out.toArray=sortedHeap s.heap a vs ((arrOf (SortSt.mk' general' (vs.toArray.zip vs.toArray) #[] 7 none)).map (·.2)):=by rw[o1]
  have hfin:=h out o2 (by
   have hl:out.length<2:=by rw[o2.length_eq]; omega
   exact zcN hl)
  rw[ee] at hfin;exact wf hfin
 ·rw[if_neg h2,if_neg h2];obtain⟨κ,ka,kk⟩:=hk A { s with heap:=((s.heap.update a (Obj.mapSeq λ_ => #[])).push (seqObj "tuple" vs.toArray 0)).push (seqObj "list" #[] 0) } keep;refine wa (kk (by omega) _ _ ?_);refine wa (wK (z77 (a₀:=pairsOf vs) (κ:=κ) (rk:=λp=>rk p.1) (st:=SortSt.mk' κ (vs.toArray.zip vs.toArray) #[] 7 none)
   (Q:=λ_ st'=>TB κ (pairsOf vs) st'/\Seg (λp=>rk p.1) (arrOf st') 0 (pairsOf vs).size)
   ka ⟨rfl,rfl,Array.Perm.refl _⟩ rfl (by rw[pairsOf_size]; omega) λst' b1 b2=>⟨b1,b2⟩) ?_ λ_ _ e=>e)
  rintro⟨⟨⟩,st'⟩ s' ⟨rfl,hB,hs⟩;dsimp only at hB hs ⊢;refine wa (seqEpoch_at ho6 rfl ?_);refine wa (listUpdate_at ho6 rfl ?_ (w6 _) (Nat.le_succ_of_le (outsz st' hB.perm)));rw[hB.failed];simp only[bne_self_eq_false,vp,uo];obtain⟨out,o1,o2,o3⟩:=snd st' hB.perm;have hfin:=h out o2 (by
   have hup:Up (λp=>rk p.1) (arrOf st').toList:=by
    have:=zaC hs (by rw[hB.perm.size_eq]; exact wc _);rw[<- hB.perm.size_eq] at this;simpa using this
   rw[<- o3];exact List.pairwise_map.mpr hup)
  rw[<- o1] at hfin;exact wf hfin
end
section
variable {prog:Program}{w:World}{A:Around}{E:Value->Shared->Prop}{s:Shared}
def zee (prog:Program)(w:World)(rk:Value->Nat)(Q:Value->Shared->Prop)(vs:List Value)(s1:Shared):Prop:=
 vs.length<=sizeLine/\z80 prog w s1.heap vs rk/\∀out:List Value,out.Perm vs->out.Pairwise (λx y=>rk x<=rk y)->
  ∀h',(∀b o,s1.heap.get? b=some o->h'.get? b=some o)->(∃e,h'.get? s1.heap.objs.size=some (seqObj "list" out.toArray e))->Q (.ref s1.heap.objs.size) { s1 with heap:=h' }
def zay {v:Value}{Q:Value->Shared->Prop}(hcol:∀E',wpAny (model prog w) A.in1 (collect v) (λvs s1=>∃rk,zee prog w rk Q vs s1) E' s):wpAny (model prog w) A (call (.builtin "sorted") [v]) Q E s:=by
 refine Calls.call_function_entry kind_sorted plain_sorted entry_sorted (args_sorted1 _) ?_;unfold Builtin.«sorted»;refine wa (m:=checkCount "sorted" 1 1 _) (wf ?_);refine wa (wK (hcol _) (λvs s1 q =>?_) λ_ _ e=>e);obtain⟨rk,hz,hk,h⟩:=q;refine wa (wpAny_newList ?_ hz);have hoL:(s1.heap.push (seqObj "list" vs.toArray 0)).get? s1.heap.objs.size=some (seqObj "list" vs.toArray 0):=wy _ rfl;have keep:∀b o,s1.heap.get? b=some o->(s1.heap.push (seqObj "list" vs.toArray 0)).get? b=some o:=λb o q=>wd _ q;show wpAny _ _ _ _ _ { s1 with heap:=s1.heap.push (seqObj "list" vs.toArray 0) };refine wa (vj (ua slot_list_sort ⟨_,hoL,rfl⟩ entry_list_sort (z7E hoL hz (hk.keep keep) λout o1 o2=>⟨_,rfl,?_⟩) (args_list_sort _)));refine wf ⟨_,rfl,h out o1 o2 _ (λb o g =>?_) ?_⟩
 ·have hlt:b<s1.heap.objs.size:=wo g;rw[sortedHeap_old (wD hlt) (by rw[size_push']; exact vZ hlt)];exact keep b o g
 ·exact sortedHeap_at hoL
end
end Tim
namespace Pu
open PySem PySem.Spec PyProof.Rows L2 Tab
def z1l.there {P:Program}{w:World}{H:Hp}{h:Heap}{a:Addr}{o:HO}(x:z1l P w H h a o):∃u,h.get? a=some u:=by
 cases o with
 | lst xs=>obtain⟨_,_,_,_,e⟩:=x; exact⟨_,e⟩
 | tup xs=>obtain⟨_,_,_,⟨o,e,_⟩,_⟩:=x; exact⟨_,e⟩
 | dK kvs=>obtain⟨_,_,_,_,o,_,_,e,_⟩:=x; exact⟨_,e⟩
 | dT kvs=>obtain⟨_,_,_,_,o,_,_,e,_⟩:=x; exact⟨_,e⟩
 | set S n=>obtain⟨o,_,_,_,e,_⟩:=x; exact⟨_,e⟩
 | ins C dx fs=>obtain⟨_,_,_,e,_⟩:=x; exact⟨_,e⟩
 | own y=>exact x
 | xd fs=>obtain⟨_,⟨_,_,_,e,_⟩,_⟩:=x; exact⟨_,e⟩
 | rng lo hi=>obtain⟨_,_,_,e⟩:=x; exact⟨_,e⟩
 | frz ob u=>obtain⟨e,_⟩:=x; exact⟨_,e⟩
 | tbl ps=>rcases x with e | ⟨_,_,_,_,_,_,_,_,_,_,_,e,_⟩ <;> exact⟨_,e⟩
 | met f y=>exact⟨_,(show h.get? a=some _ from x)⟩
 | ext φ=>obtain⟨_,z,_⟩:=x; exact z
def _root_.L2.HOk.none_of {P:Program}{w:World}{H:Hp}{h:Heap}{a:Addr}(x:HOk P w H h)(e:h.get? a=none):H a=none:=by
 cases q:H a with
 | none=>rfl
 | some u=>
  obtain⟨v,z⟩:=z1l.there (x a u q);rw[e] at z; cases z
def _root_.L2.Inv.laid' {X:Cx}{H:Hp}{pins:List (Addr × Obj)}{σ:L2.St}{s:Shared}{h':Heap}{a:Addr}{o:HO}{t':Nat}(I:Inv X pins σ H s)(k:∀b u,s.heap.get? b=some u->h'.get? b=some u)(hp:s.heap.get? a=none)(new:z1l X.prog X.w (upd H a o) h' a o):
  Inv X pins σ (upd H a o) { s with heap:=h',toks:=t' }:=by
 have hn:=I.hok.none_of hp;have ne:∀b u,s.heap.get? b=some u->b≠a:=λb u e z=>by rw[z,hp] at e; cases e
 have neH:∀b u,H b=some u->b≠a:=λb u e z=>by rw[z,hn] at e; cases e
 refine I.un ⟨λb o e q _ _=>k b o e,λb o e q _ _=>⟨o.slots,k b o e⟩,λb o e q _=>by rw[z04 (ne b o e)]; exact q,λb o e _=>⟨o,k b o e⟩,λb xs e=>by rw[z04 (neH b _ e)]; exact e,λb o u e=>by rw[z04 (neH b _ e)]; exact e,λb ps e=>⟨#[],by rw[z04 (neH b _ e),Array.append_empty]; exact e⟩⟩ λb u e =>?_
 by_cases hb:b=a
 ·subst hb; rw[z09] at e; cases e; exact new
 ·rw[z04 hb] at e;exact(I.hok b u e).stay (λc v _ q=>k c v q) (λc q=>by rw[z04 (neH c _ q)]; exact q) (λc xs q=>by rw[z04 (neH c _ q)]; exact q) λc _ _ q=>by rw[z04 (neH c _ q)]; exact q
end Pu
namespace Pu
open PySem L2
def Fn.bot:Fn:=⟨λ_ _ _=>False,λ_ _ _ _ _ _ _ h=>h⟩
def zi4 {P:Program}{w:World}{K:W.Frag}{mg:Str->Option Value}{base:Heap}{CX:CXT}{k:Nat}{f:Addr}{fd:FuncData}{ps:List Str}:FnOk P w K mg base CX k f fd ps (spP K mg Fn.bot):=
 ⟨λ_ _ _ _ ⟨_,_,_,_,_,_,h,_⟩=>h.elim,λ_ _ _ _ _ _ _ _ _ _ _ _ _ ⟨_,_,_,_,_,_,h,_⟩=>h.elim⟩
end Pu
namespace Pu
open PySem PySem.Spec PyProof.Rows L2
section
variable {X:Cx}{K:W.Frag}{mg:Str->Option Value}{E:XK}{G H:Hp}
theorem z8N {xs:List V}{its:List Value}(r:Vals xs its):∀k:Nat,Vals (List.replicate k xs).flatten (List.replicate k its).flatten
 | 0 =>.nil
 | k+1=>by
  rw[vo,vo,v5,v5];exact r.append (z8N r k)
theorem zaL {l:List D}{xs:List V}(r:RDs K mg G l xs):∀k:Nat,RDs K mg G (List.replicate k l).flatten (List.replicate k xs).flatten
 | 0=>RDs.nil
 | k+1=>by
  rw[vo,vo,v5,v5];exact r.app (zaL r k)
end
end Pu
namespace Rev
open PySem PyProof.Rows
section
variable {prog:Program}{w:World}{A:Around}{E:Value->Shared->Prop}{s:Shared}{r l:Addr}{z08:Array Value}
theorem zi8 (hh:A.handled=none)(ne:l≠r):∀(m i:Nat) (s:Shared) (Q:List Value->Shared->Prop),s.heap.IsListIter r l i->s.heap.IsList l z08->i+m<=z08.size->
  (∀h' tk,h'.IsListIter r l (i+m)->h'.IsList l z08->(∀b o,b≠r->s.heap.get? b=some o->h'.get? b=some o)->Q ((z08.toList.drop i).take m) { s with heap:=h',toks:=tk })->wpAny (model prog w) A (draw (.ref r) m) Q E s
 | 0,i,s,Q,it,ls,_,q=>by
  have:=q s.heap s.toks it ls λ_ _ _ e=>e;rw[List.take_zero] at this;exact wf this
 | m+1,i,s,Q,it,ls,le,q=>by
  have W:=Walks.list (prog:=prog) (w:=w) hh r l ne z08;have hi:i<z08.size:=by lia
  refine wa (m:=pyNext (.ref r)) (W.item i s _ _ hi ⟨it,ls⟩ λv h1 tk1 pv st1 keep1 =>?_);refine wa (vj (zi8 hh ne m (i+1) _ _ st1.1 st1.2 (by lia) λh2 tk2 it2 ls2 keep2=>wf ?_));have e1:z08.toList.drop i=v::z08.toList.drop (i+1):=by
   have hv:z08.toList[i]? = some v:=by simpa using pv
   rw[wX (by simpa using hi)];rw[wq (by simpa using hi)] at hv;rw[wO hv]
  have:=q h2 tk2 (by rw[show i+(m+1)=i+1+m by lia]; exact it2) ls2 λb o hb e=>keep2 b o hb (keep1 b o (by simpa using hb) e);rw[e1,List.take_succ_cons] at this;exact this
def z87 {tg:List (Bool × (Value->Sem Unit))}{Q:Unit->Shared->Prop}(hh:A.handled=none)(ls:s.heap.IsList l z08)(hn:tg.length=z08.size)(hst:tg.findIdx? (·.1)=none)
  (q:∀h' tk,(∀b o,s.heap.get? b=some o->h'.get? b=some o)->wpAny (model prog w) A (assignInOrder (tg.map (·.2)) z08.toList) Q E { s with heap:=h',toks:=tk }):wpAny (model prog w) A (unpack (.ref l) tg) Q E s:=by
 obtain⟨o,ho,hc,n,hd⟩:=id ls;have ne:l≠s.heap.objs.size:=wD (wo ho);unfold unpack;rw[hn,hst];refine wa (vj ?_);unfold unpackItems;refine wa ?_;unfold notIterableAtAll;refine wa (wpAny_specialOf ls.typeIs slot_list_iter.lookup (wf ?_));rw[if_neg (by decide)];refine wa (vj (wpAny_pyIter_list ls ?_));have ls1:(s.heap.push { cls :=.type "list_iterator",data :=.fields #[.ref l,.int 0 0] }).IsList l z08:=⟨o,wd _ ho,hc,n,hd⟩
 refine wa (vj (zi8 hh ne z08.size 0 _ _ ⟨_,wy _ rfl,rfl,rfl⟩ ls1 (by lia) λh1 tk1 it1 ls2 keep1 =>?_));rw[List.drop_zero,List.take_of_length_le (by simp),if_neg (by simp)];have W:=Walks.list (prog:=prog) (w:=w) hh s.heap.objs.size l ne z08;refine wa (vj (W.done _ _ _ ⟨by simpa using it1,ls2⟩ λh2 tk2 keep2 =>?_));rw[if_neg (by decide)];refine wf (q h2 tk2 λb o e =>?_);have hb:b≠s.heap.objs.size:=wD (wo e);exact keep2 b o (by simpa using hb) (keep1 b o hb (wd _ e))
end
end Rev
namespace Pu
open PySem PySem.Spec PyProof.Rows L2 Tab
def seqD:D->Option (List D)
 | .lst l=>some l
 | .tup l=>some l
 | _=>none
def Sm.unp (js is:List Nat)(e:Ex):Sm:=⟨λρ N _ Xp=>e.run (vis (dem js ρ)) (λd=>onL (seqD d) λds=>is.length=ds.length/\N (z6k is ds (dem js ρ))) Xp,λρ N N' Q Q' Xp X' mn m mx q=>e.mono _ _ _ Xp X' (λd q1=>z5e (λl q2=>⟨q2.1,mn _ q2.2⟩) q1) mx q⟩
def gSeq (K:W.Frag)(n:Nat)(t:TGs):TG:=λv σ H Q=>∃a xs,v = .ref a/\(SqL K H a xs\/SqT K H a xs)/\xs.length=n/\t xs σ H Q
section
variable {X:Cx}{E:XK}{pos:Pos}
def zgW {es:List Expr}{k:Nat}{t:TGs}{n:Nat}(hc:X.calm=true)(h:PGs X es t)(hn:(assignEach es X.env).length=n:=by rfl)(hst:(assignEach es X.env).findIdx? (·.1)=none:=by rfl):PG X (.Tuple es k pos) (gSeq X.K n t):=by
 intro pins s σ H v u Q I r ⟨a,xs,e1,hq,hl,hw⟩
 rcases hq with hq | hq
 ·subst e1
  cases r
  obtain⟨its,rv,pl,hz⟩:=I.list hq;rw[assign_Tuple];refine wa (wpAny_standAt (Rev.z87 (I.ok.hd hc) pl.isList (by simp[hn, <- hl,rv.length]) hst λh' tk keep =>?_));have I1:Inv X pins σ H { s with heap:=h',toks:=tk }:=I.kept (t':=tk) keep;exact h pins _ σ H xs _ Q I1 (by simpa using rv) hw
 ·exact zgU hc h hn hst pins s σ H v u Q I r ⟨a,xs,e1,hq,hl,hw⟩
def zgy {es:List Expr}{k:Nat}{t:TGs}{n:Nat}(hc:X.calm=true)(h:QGs X es t)(hn:(assignEach es X.env).length=n:=by rfl)(hst:(assignEach es X.env).findIdx? (·.1)=none:=by rfl):QG X (.Tuple es k pos) (gSeq X.K n t):=⟨zgW hc h.p hn hst⟩
def zbm {o:Option (List D)}{Q:List D->Prop}(h:onL o Q):∃l,o=some l/\Q l:=by
 cases o with
 | none=>exact h.elim
 | some l=>exact⟨l,rfl,h⟩
def zgj {js is:List Nat}{tg e:Expr}{x:Ex}(h:QS X (.Assign [tg] e pos) (tAsg (tx X.K X.mg E x) (gSeq X.K is.length (is.foldr (λi r=>za1 (z34 i) r) gNil)))):QZ X E (.Assign [tg] e pos) (.unp js is x):=QS.imp h λD σ H ⟨H0,G0,G,ρ,N0,R0,X0,ab,hr,hn,hR,hx⟩=>by
 obtain⟨G',ab',g'⟩:=ab.dem js;refine⟨G',vis (dem js ρ),_,X0,ab'.g,ab'.vis,hr,λd v G1 H1 q g1 g2 g3 rd =>?_,hx.same ab.s0⟩;have ab2:=ab'.over g1 g2 g3;obtain⟨ds,e1,hl,q'⟩:=zbm q;have fin:∀xs,RDs X.K X.mg G1 ds xs->(is.foldr (λi r=>za1 (z34 i) r) gNil) xs σ H1 D.nx:=λxs h2=>z4y (K:=X.K) is xs σ H1 D.nx (by rw[h2.len,hl]) (hn _ _ _ _ q' (ab2.putAll is ds xs hl h2) (z06 g' g1.1))
 cases d with
 | lst l=>
  cases e1
  obtain⟨a,xs,rfl,h1,h2⟩:=z2B rd;exact⟨a,xs,rfl,.inl (z1U ab2.g h1),by rw[h2.len,hl],fin xs h2⟩
 | tup l=>
  cases e1
  obtain⟨a,xs,rfl,h1,h2⟩:=z2P rd;exact⟨a,xs,rfl,.inr (z1T ab2.g h1),by rw[h2.len,hl],fin xs h2⟩
 | _=>cases e1
end
end Pu
namespace Pu
open PySem PySem.Spec PyProof.Rows L2
def gAll (d:D)(Q:DK):Prop:=∃bs:List Bool,d = .lst (bs.map .bl)/\Q (.bl (bs.all id))
def pAll:Fn:=fn1 gAll λd Q Q' m h=>by
 obtain⟨bs,e,q⟩:=h;exact⟨bs,e,m _ q⟩
def zje {bs:List Bool}{Q:DK}{X:XP}(q:Q (.bl (bs.all id))):pAll.run [.lst (bs.map .bl)] Q X:=⟨bs,rfl,q⟩
section
variable {X:Cx}
theorem zaM {K:W.Frag}{mg:Str->Option Value}{G:Hp}:∀(bs:List Bool) {xs:List V},RDs K mg G (bs.map .bl) xs->xs=bs.map .bl
 | [],xs,h=>by
  rw[vJ,RDs] at h;exact h
 | b::bs,xs,h=>by
  rw[wz,RDs] at h;obtain⟨v,r,rfl,h1,h2⟩:=h;rw[zaM bs h2,z7l h1]
  rfl
def z9v (hc:X.calm=true):z1v X (.builtin "all") (rN X.K X.mg pAll):=(zcd hc).imp λvs H Q ⟨G,ds,Q0,X0,g,rds,hr,hk⟩=>by
 obtain⟨d,rfl,hr'⟩:=z2U hr;obtain⟨v,rfl,rd⟩:=rds1 rds;obtain⟨bs,rfl,q⟩:=hr';obtain⟨a,xs,rfl,h1,h2⟩:=z2B rd;rw[zaM bs h2] at h1;exact⟨a,bs,rfl,z1U g h1,hk.now g q RD.bl'⟩
end
end Pu
namespace Tim
open PySem PyProof.Rows PySem.W HT
def kyS (x:Str):List Int:=x.cps.toList.map Int.ofNat
def keyS:Value->List Int
 | .str x _=>kyS x
 | _=>[]
theorem lexN:∀(a b:List Nat),z0N (a.map Int.ofNat) (b.map Int.ofNat)=decide (a<b)
 | [],[]=>by rw[show decide (([]:List Nat) < [])=false from wB (by simp)]; rfl
 | [],_::_=>by rw[show decide (([]:List Nat)<_::_)=true from wH (by simp)]; rfl
 | _::_,[]=>by rw[show decide (_::_<([]:List Nat))=false from wB (by simp)]; rfl
 | x::xs,y::ys=>by
  rw[wz,wz,z29,lexN xs ys]
  by_cases e:x=y
  ·subst e;rw[if_pos rfl];refine decide_eq_decide.mpr ?_;rw[List.cons_lt_cons_iff];exact⟨λh =>.inr ⟨rfl,h⟩,λh=>h.elim (λz=>absurd z (vd _)) (·.2)⟩
  ·rw[if_neg (λz=>e (Int.ofNat.inj z))];refine decide_eq_decide.mpr ?_;rw[List.cons_lt_cons_iff];exact⟨λh =>.inl (Int.ofNat_lt.mp h),λh=>h.elim (λz=>Int.ofNat_lt.mpr z) λz=>(e z.1).elim⟩
section
variable {prog:Program}{w:World}{A:Around}{E:Value->Shared->Prop}{s:Shared}
def z80.strs {h:Heap}{vs:List Value}(hv:∀v∈vs,∃x t,v=Value.str x t):z80 prog w h vs (λv=>rkL (vs.map keyS) (keyS v)):=λA s k=>by
 refine⟨oneType',?_,λhl Q E q =>?_⟩
 ·intro x y hx hy Q E hq;rw[pairsOf_toList] at hx hy;have mx:=(mem_zip_self hx).2;have my:=(mem_zip_self hy).2;rw[<- zdJ (vq.mpr ⟨_,mx,rfl⟩) (vq.mpr ⟨_,my,rfl⟩)] at hq;obtain⟨a,t,e1⟩:=hv _ mx;obtain⟨b,u,e2⟩:=hv _ my;rw[e1,e2] at hq ⊢;rw[keyLt'_oneType];refine strKind_oneLt prog w A E s _ _ a.cps.toList b.cps.toList rfl rfl ?_;rw[show keyS (.str a t)=a.cps.toList.map Int.ofNat from rfl,show keyS (.str b u)=b.cps.toList.map Int.ofNat from rfl,lexN] at hq;exact hq
 ·have all:∀l:List Value,(∀v∈l,∃x t,v=Value.str x t)->∃ss,StrsAre l ss:=by
   intro l
   induction l with
   | nil=>intro _; exact⟨[],.nil⟩
   | cons v l ih=>
    intro h;obtain⟨ss,hs⟩:=ih λx hx=>h x (wj _ hx);obtain⟨x,t,rfl⟩:=h v wt;exact⟨x::ss,.cons x t hs⟩
  obtain⟨ss,hs⟩:=all vs hv
  match vs,hl,hs with
  | v1::v2::r,_,hs=>
   rw[keyKind_strs hs];exact wf q
def SrtS (ss out:List Str):Prop:=out.Perm ss/\out.Pairwise λa b=>z0N (kyS b) (kyS a)=false
def zfo {a b:Str}(h:kyS a=kyS b):a=b:=by
 unfold kyS at h;have:a.cps.toList=b.cps.toList:=by
  have inj:∀(l m:List Nat),l.map Int.ofNat=m.map Int.ofNat->l=m:=by
   intro l
   induction l with
   | nil=>intro m h; cases m with
    | nil=>rfl
    | cons=>cases h
   | cons x l ih=>
    intro m h
    cases m with
    | nil=>cases h
    | cons y m=>
     simp only[wz,uj] at h;rw[Int.ofNat.inj h.1,ih m h.2]
  exact inj _ _ h
 cases a; cases b
 simp only[Str.mk.injEq];exact Array.toList_inj.mp this
def SrtS.unique {ss a b:List Str}(ha:SrtS ss a)(hb:SrtS ss b):a=b:=by
 have key:∀(a b:List Str),a.Perm b->a.Pairwise (λx y=>z0N (kyS y) (kyS x)=false)->b.Pairwise (λx y=>z0N (kyS y) (kyS x)=false)->a=b:=by
  intro a
  induction a with
  | nil=>intro b p _ _; exact(List.nil_perm.mp p).symm
  | cons x a ih=>
   intro b p pa pb
   cases b with
   | nil=>exact(List.not_perm_cons_nil p).elim
   | cons y b=>
    have hxy:x=y:=by
     by_cases e:x=y
     ·exact e
     ·have h1:y∈a:=by
       have:=p.mem_iff.mpr (wt (a:=y) (l:=b))
       rcases wx.mp this with z | z
       ·exact(e z.symm).elim
       ·exact z
      have h2:x∈b:=by
       have:=p.mem_iff.mp (wt (a:=x) (l:=a))
       rcases wx.mp this with z | z
       ·exact(e z).elim
       ·exact z
      exact zfo (z8u _ _ ((uk.mp pb).1 x h2) ((uk.mp pa).1 y h1))
    subst hxy;rw[ih b (List.perm_cons x |>.mp p) (uk.mp pa).2 (uk.mp pb).2]
 exact key a b (ha.1.trans hb.1.symm) ha.2 hb.2
end
end Tim
namespace Pu
open PySem PySem.Spec PyProof.Rows L2 Tim
def gDIn (neg:Bool)(a b:D)(Q:DK):Prop:=∃j kvs,a=kD j/\IsDk b kvs/\Q (.bl (if neg then !(valD kvs j).isSome else (valD kvs j).isSome))
def zbN {neg:Bool}(a b:D)(Q Q':DK)(m:∀d,Q d->Q' d)(h:gDIn neg a b Q):gDIn neg a b Q':=by
 obtain⟨j,kvs,e1,e2,q⟩:=h;exact⟨j,kvs,e1,e2,m _ q⟩
def z3D:Fn:=fn2 (gDIn true) zbN
def zi2 (a b:D)(Q:DK):Prop:=∃j kvs d,b=kD j/\IsDk a kvs/\valD kvs j=some d/\Q d
def z5z:Fn:=fn2 zi2 λa b Q Q' m h=>by
 obtain⟨j,kvs,d,e1,e2,e3,q⟩:=h;exact⟨j,kvs,d,e1,e2,e3,m _ q⟩
def zi1 (d:D)(Q:DK):Prop:=∃kvs,d=dk kvs/\Q (.lst (kvs.map λp=>kD p.1))
def zbh:Fn:=fn1 zi1 λd Q Q' m h=>by
 obtain⟨kvs,e,q⟩:=h;exact⟨kvs,e,m _ q⟩
def ze8 (d:D)(Q:DK):Prop:=∃kvs ss,d=dk kvs/\kvs.map (·.1)=ss.map Sum.inr/\∀out,SrtS ss out->Q (.lst (out.map .str))
def zdV:Fn:=fn1 ze8 λd Q Q' m h=>by
 obtain⟨kvs,ss,e,e2,q⟩:=h;exact⟨kvs,ss,e,e2,λout h=>m _ (q out h)⟩
def ze7 (d:D)(Q:DK):Prop:=∃ss:List Str,d = .lst (ss.map .str)/\ss.length<=sizeLine/\∀out,SrtS ss out->Q (.lst (out.map .str))
def z7v:Fn:=fn1 ze7 λd Q Q' m h=>by
 obtain⟨ss,e,e2,q⟩:=h;exact⟨ss,e,e2,λout h=>m _ (q out h)⟩
section
variable {K:W.Frag}{mg:Str->Option Value}{G G' H:Hp}
def zbY {a:Addr}{kw:List (Key × V)}{j:Key}(h:Rd H a (.dK kw)):DGet H a (kV j) (valV kw j) :=.inl ⟨kw,j,h,rfl,rfl⟩
def z6L {a:Addr}{o:HO}(g:Same G H)(h:Rd G a o):Rd H a o:=h.imp (g _ _) λ⟨u,e⟩=>⟨u,g _ _ e⟩
theorem z8X:∀{ss:List Str}{vs:List V},RDs K mg G (ss.map D.str) vs->vs=ss.map V.str
 | [],_,h=>by rw[vJ,RDs] at h; exact h
 | x::ss,_,h=>by
  rw[wz,RDs] at h;obtain⟨v,r,rfl,h1,h2⟩:=h;rw[RD] at h1;rw[h1,z8X h2]
  rfl
theorem z6D:∀(ss:List Str),RDs K mg G (ss.map D.str) (ss.map V.str)
 | []=>RDs.nil
 | x::ss=>RDs.cons (by rw[RD]) (z6D ss)
theorem vals_strs:∀{ss:List Str}{us:List Value},Vals (ss.map V.str) us->∀v∈us,∃x t,v=Value.str x t
 | [],_,h,v,hv=>by cases h; cases hv
 | x::ss,_,h,v,hv=>by
  rw[wz] at h
  cases h with
  | cons h1 h2=>
   rcases wx.mp hv with z | z
   ·obtain⟨t,e⟩:=h1; exact⟨x,t,z.trans e⟩
   ·exact vals_strs h2 v z
theorem zat:∀(us:List Value),(∀v∈us,∃x t,v=Value.str x t)->∃ss:List Str,Vals (ss.map V.str) us/\ss.map kyS=us.map keyS
 | [],_=>⟨[],.nil,rfl⟩
 | v::us,h=>by
  obtain⟨x,t,rfl⟩:=h v wt;obtain⟨ss,h1,h2⟩:=zat us λw hw=>h w (wj _ hw);exact⟨x::ss,.cons ⟨t,rfl⟩ h1,by rw[wz,wz,h2]; rfl⟩
theorem z8O:∀{ss:List Str}{us:List Value},Vals (ss.map V.str) us->ss.map kyS=us.map keyS
 | [],_,h=>by cases h; rfl
 | x::ss,_,h=>by
  rw[wz] at h
  cases h with
  | cons h1 h2=>
   obtain⟨t,rfl⟩:=h1;rw[wz,wz,z8O h2]
   rfl
def z8t {a b:List Str}(h:(a.map kyS).Perm (b.map kyS)):a.Perm b:=by
 have inj:∀(l:List Str),(l.map kyS).map (λk=>(⟨(k.map Int.toNat).toArray⟩:Str))=l:=by
  intro l;rw[vf]
  conv=>rhs; rw[<- List.map_id l]
  refine List.map_congr_left λx _ =>?_;show (⟨((x.cps.toList.map Int.ofNat).map Int.toNat).toArray⟩:Str)=x;rw[vf];have:(Int.toNat ∘ Int.ofNat)=id:=by funext n; rfl
  rw[this,List.map_id]
 have:=h.map (λk=>(⟨(k.map Int.toNat).toArray⟩:Str))
 rwa [inj,inj] at this
end
section
variable {X:Cx}{E:XK}{a b e o y tg:Expr}{x z:Ex}{pos p1 pp:Pos}{i:Nat}
def zag {σ:L2.St}{H:Hp}{Q:VK}(h:tx X.K X.mg E (.op z3D [x,z]) σ H Q):zar (tx X.K X.mg E x) (tx X.K X.mg E z) σ H Q:=by
 have h':tOp (λy x H Q=>∃a o,x = .ref a/\DGet H a y o/\Q (.bl (!o.isSome)) H) (tx X.K X.mg E x) (tx X.K X.mg E z) σ H Q:=tx2 (λG H d1 d2 v1 v2 Q0 X0 Q g r1 r2 hr hk=>by
  obtain⟨j,kvs,rfl,hi,q⟩:=(show gDIn true d1 d2 Q0 from hr)
  obtain⟨a,kw,rfl,h1,h2⟩:=zdK hi r2;rw[zaO r1];refine⟨a,_,rfl,zbY (z6L g h1),?_⟩;have e:(valV kw j).isSome=(valD kvs j).isSome:=by
   rcases h2.val (j:=j) with ⟨e1,e2⟩ | ⟨d,v,e1,e2,_⟩ <;> rw[e1,e2] <;> rfl
  rw[e];exact hk.now g q (by rw[RD]; rfl)) h
 exact h'
def z5v (hu:X.A.units+1<cLine)(ha:QX X E a x)(hb:QX X E b z)(hm:behindInMarks .NotIn b=false:=by with_unfolding_all rfl):QXT X E (.Compare a [.NotIn] [b] pos) (.op z3D [x,z]):=QT.imp ⟨zgM (zbf hu ha.p hb.p) hm⟩ λσ H Q h=>z88 (λ_ h=>zag h) h
def z6O (hu:X.A.units+1<cLine)(ha:QX X E a x)(hb:QX X E b z)(hs:NoSl b):QX X E (.Subscript a b pos) (.op z5z [x,z]):=QE.imp ⟨zf7 hu ha.p hb.p hs⟩ λσ H Q h=>by
 have h':tOp (λx y H Q=>∃a v,x = .ref a/\DGet H a y (some v)/\Q v H) (tx X.K X.mg E x) (tx X.K X.mg E z) σ H Q:=tx2 (λG H d1 d2 v1 v2 Q0 X0 Q g r1 r2 hr hk=>by
  obtain⟨j,kvs,d,rfl,hi,e,q⟩:=(show zi2 d1 d2 Q0 from hr)
  obtain⟨a,kw,rfl,h1,h2⟩:=zdK hi r1;rw[zaO r2]
  rcases h2.val (j:=j) with ⟨e1,e2⟩ | ⟨d',v,e1,e2,r⟩
  ·rw[e] at e1; cases e1
  ·rw[e] at e1; cases e1;refine⟨a,v,rfl,?_,hk.now g q r⟩;rw[<- e2];exact zbY (z6L g h1)) h
 exact h'
end
section
variable {X:Cx}{pins:List (Addr × Obj)}{σ:L2.St}{H:Hp}{s:Shared}{a:Addr}{kw:List (Key × V)}
def zbX (I:Inv X pins σ H s)(h:Rd H a (.dK kw)):∃ep vs,kw.length<=sizeLine/\(a == sysModules)=false/\KV kw vs/\Heap.DictAt (z1a X.prog X.w) s.heap a vs ep:=by
 obtain⟨h1,h2,vs,h3,o,es,ep,h4⟩:=za4 I.hok h;exact⟨ep,vs,h1,h2,h3,o,es,h4⟩
def zhX {P:Program}{w:World}{k:Key}{v:Value}(h:(z1a P w).is k v=true):RelV (kV k) v:=by
 rw[z9O] at h
 rcases z14 h with ⟨i,t,rfl,rfl⟩ | ⟨x,t,rfl,rfl⟩
 ·exact⟨t,rfl⟩
 ·exact⟨t,rfl⟩
theorem z5G {P:Program}{w:World}:∀{kw:List (Key × V)}{vs:List (Key × Value)}{l:List Value},KV kw vs->l.length=vs.length->(∀(i:Nat) v,l[i]? = some v->∃k x,vs[i]? = some (k,x)/\(z1a P w).is k v=true)->Vals (kw.map λq=>kV q.1) l
 | [],_,l,r,hl,_=>by
  cases r
  cases l with
  | nil=>exact .nil
  | cons=>simp at hl
 | q::kw,_,l,r,hl,h=>by
  cases r with
  | cons r1 r2=>
   cases l with
   | nil=>simp at hl
   | cons v l=>
    obtain⟨k,x,e,hk⟩:=h 0 v rfl;simp at e;refine .cons ?_ (z5G r2 (by simpa using hl) λi v hv=>h (i+1) v (by simpa using hv));show RelV (kV q.1) v;rw[r1.1,e];exact zhX hk
def zgh:List V->Hp->VK->Prop:=λvs H Q=>∃a kw,vs=[.ref a]/\Rd H a (.dK kw)/\∀p,H p=none->Q (.ref p) (upd H p (.lst (kw.map λq=>kV q.1)))
def za9 (hc:X.calm=true):z1v X (.type "list") zgh:=by
 intro pins s σ H xs us Q I rv ⟨a,kw,e,hr,q⟩;subst e;obtain⟨u,rfl,rx⟩:=z6z rv
 cases rx
 have hh:X.A.handled=none:=I.ok.hd hc;obtain⟨ep,vs,hz,hy,r,da⟩:=zbX I hr;have hl:kw.length=vs.length:=KV.length r;refine PySem.W.kdl_call (PySem.W.kdl_dict hy) hh da (by rw[<- hl]; exact hz) λh' tk acc c keep hS it =>?_;have v:=z5G (l:=acc.toList) r (by rw[wL]; exact it.1) (λi v e=>it.2 i v (by simpa using e));refine⟨.ref s.heap.objs.size,_,I.laid (o :=.lst (kw.map λq=>kV q.1)) keep (wc _) ⟨by rw[wA]; exact hz,acc.toList,c,v,?_⟩,rfl,q _ (I.hok.fresh (wc _))⟩;rw[hS]
def zey (K:W.Frag):List V->Hp->VK->Prop:=λvs H Q=>∃a ss,vs=[.ref a]/\((∃kw,Rd H a (.dK kw)/\kw.map (·.1)=ss.map Sum.inr)\/(SqL K H a (ss.map V.str)/\ss.length<=sizeLine))/\∀p out,H p=none->SrtS ss out->Q (.ref p) (upd H p (.lst (out.map V.str)))
def z8W {ss:List Str}{us:List Value}{Q:VK}{s1:Shared}(I:Inv X pins σ H s)(hv:Vals (ss.map V.str) us)(hz:us.length<=sizeLine)(keep:∀b o,s.heap.get? b=some o->s1.heap.get? b=some o)(he:s1.gens=s.gens/\s1.drawn=s.drawn/\s1.os=s.os)
  (q:∀p out,H p=none->SrtS ss out->Q (.ref p) (upd H p (.lst (out.map V.str)))):∃rk,zee X.prog X.w rk (EP X pins σ Q) us s1:=by
 refine⟨_,hz,z80.strs (vals_strs hv),λout p1 p2 h' kp ⟨e,hS⟩ =>?_⟩;obtain⟨ot,v1,v2⟩:=zat out λv h=>vals_strs hv v (p1.mem_iff.mp h);have hk:=z8O hv;have srt:SrtS ss ot:=by
  refine⟨z8t ?_,?_⟩
  ·rw[v2,hk]; exact p1.map _
  ·have:(ot.map kyS).Pairwise λa b=>HT.z0N b a=false:=by
    rw[v2];refine List.pairwise_map.mpr (p2.imp_of_mem λ{x y} hx hy hxy =>?_);rw[zdJ (vq.mpr ⟨_,p1.mem_iff.mp hy,rfl⟩) (vq.mpr ⟨_,p1.mem_iff.mp hx,rfl⟩)];exact wB (Nat.not_lt.mpr hxy)
   exact List.pairwise_map.mp this
 have hD:s.heap.get? s1.heap.objs.size=none:=by
  cases z:s.heap.get? s1.heap.objs.size with
  | none=>rfl
  | some o=>exact absurd (wo (keep _ _ z)) (vd _)
 have hzl:(ot.map V.str).length<=sizeLine:=by
  have:=v1.length;have:=p1.length_eq;omega
 obtain⟨g1,g2,g3⟩:=he;have es:({ s1 with heap:=h' }:Shared)={ s with heap:=h',toks:=s1.toks }:=by
  cases s1; cases s
  simp only at g1 g2 g3;subst g1 g2 g3
  rfl
 rw[es];exact⟨.ref _,upd H _ (.lst (ot.map V.str)),I.laid' (o :=.lst (ot.map V.str)) (t':=s1.toks) (λb o z=>kp b o (keep b o z)) hD ⟨hzl,out,e,v1,hS⟩,rfl,q _ ot (I.hok.none_of hD) srt⟩
def z5X (hc:X.calm=true):z1v X (.builtin "sorted") (zey X.K):=by
 intro pins s σ H xs us Q I rv ⟨a,ss,e,h,q⟩;subst e;obtain⟨u,rfl,rx⟩:=z6z rv
 cases rx
 have hh:X.A.handled=none:=I.ok.hd hc;refine zay λE' =>?_
 rcases h with ⟨kw,hr,hk⟩ | ⟨hs,hz⟩
 ·obtain⟨ep,vs,hz,hy,r,da⟩:=zbX I hr;have hl:kw.length=vs.length:=KV.length r;refine PySem.W.kdu_collect (A:=X.A.in1) (PySem.W.kdl_dict hy) hh da (by rw[<- hl]; exact hz) λh' tk acc keep it =>?_;have v:=z5G (l:=acc.toList) r (by rw[wL]; exact it.1) (λi v e=>it.2 i v (by simpa using e));have e:(kw.map λq=>kV q.1)=ss.map V.str:=by
   have:(kw.map λq=>kV q.1)=(kw.map (·.1)).map kV:=by rw[vf]; rfl
   rw[this,hk,vf]
   rfl
  rw[e] at v;exact z8W (s1:={ s with heap:=h',toks:=tk }) I v (by rw[wL,it.1, <- hl]; exact hz) keep ⟨rfl,rfl,rfl⟩ q
 ·obtain⟨its,r,pl,_⟩:=I.list hs;have hlen:=r.length;rw[wA] at hlen;refine collect_list (vs:=its) (by simpa using pl.isList) ?_ (by omega);have keep:∀b o,s.heap.get? b=some o->((s.heap.push (seqObj "list" #[] 0)).update s.heap.objs.size (Obj.mapSeq (· ++ its.toArray))).get? b=some o:=λb o z=>by
   rw[Heap.get?_update_ne _ _ _ _ (wD (wo z))];exact wd _ z
  exact z8W (s1:={ s with heap:=(s.heap.push (seqObj "list" #[] 0)).update s.heap.objs.size (Obj.mapSeq (· ++ its.toArray)) }) I r (by omega) keep ⟨rfl,rfl,rfl⟩ q
end
section
variable {X:Cx}
def zfu (hc:X.calm=true):z1v X (.type "list") (rNf X.K X.mg zbh):=(za9 hc).imp λvs H Q ⟨G,ds,Q0,X0,g,rds,hr,hk⟩=>by
 obtain⟨d,rfl,hr'⟩:=z2U hr;obtain⟨v,rfl,rd⟩:=rds1 rds;obtain⟨kvs,rfl,q⟩:=(show zi1 d Q0 from hr')
 obtain⟨a,kw,rfl,h1,h2⟩:=zex rd;refine⟨a,kw,rfl,z6L g h1,λp hp=>hk.newL g hp q ?_⟩;have e1:(kvs.map λp=>kD p.1)=(kvs.map (·.1)).map kD:=by rw[vf]; rfl
 have e2:(kw.map λq=>kV q.1)=(kw.map (·.1)).map kV:=by rw[vf]; rfl
 rw[e1,e2,h2.keys];have:∀l:List Key,RDs X.K X.mg G (l.map kD) (l.map kV):=by
  intro l
  induction l with
  | nil=>exact RDs.nil
  | cons k l ih=>
   refine RDs.cons ?_ ih
   cases k <;> (show RD _ _ _ _ _; simp only[kD,kV]; rw[RD])
 exact this _
def zdt (hc:X.calm=true):z1v X (.builtin "sorted") (rNf X.K X.mg zdV):=(z5X hc).imp λvs H Q ⟨G,ds,Q0,X0,g,rds,hr,hk⟩=>by
 obtain⟨d,rfl,hr'⟩:=z2U hr;obtain⟨v,rfl,rd⟩:=rds1 rds;obtain⟨kvs,ss,rfl,e,q⟩:=(show ze8 d Q0 from hr')
 obtain⟨a,kw,rfl,h1,h2⟩:=zex rd;exact⟨a,ss,rfl,.inl ⟨kw,z6L g h1,by rw[<- h2.keys]; exact e⟩,λp out hp ho=>hk.newL g hp (q out ho) (z6D out)⟩
def zds (hc:X.calm=true):z1v X (.builtin "sorted") (rNf X.K X.mg z7v):=(z5X hc).imp λvs H Q ⟨G,ds,Q0,X0,g,rds,hr,hk⟩=>by
 obtain⟨d,rfl,hr'⟩:=z2U hr;obtain⟨v,rfl,rd⟩:=rds1 rds;obtain⟨ss,rfl,hz,q⟩:=(show ze7 d Q0 from hr')
 obtain⟨a,xs,rfl,h1,h2⟩:=z2B rd;rw[z8X h2] at h1;exact⟨a,ss,rfl,.inr ⟨z1U g h1,hz⟩,λp out hp ho=>hk.newL g hp (q out ho) (z6D out)⟩
end
def Itd (a:Addr)(o:Obj)(kw:List (Key × V)):It:=⟨λi H=>H a=some (.frz o (.dK kw))/\i<kw.length,λi H x H'=>H'=H/\∃q,kw[i]? = some q/\x=kV q.1,λi H=>H a=some (.frz o (.dK kw))/\kw.length<=i⟩
def z7F {prog:Program}{w:World}{A:Around}{E:Value->Shared->Prop}{s:Shared}{it d:Addr}{i n ep:Nat}{Q:Value->Shared->Prop}(hit:s.heap.IsKeyIter it d i n ep)(h:Q (.ref it) s):wpAny (model prog w) A (pyIter (.ref it)) Q E s:=by
 refine wpAny_pyIter_slot hit.typeIs F.slot_dict_keyiterator_iter (ua F.slot_dict_keyiterator_iter hit.typeIs F.entry_dict_keyiterator_iter ?_ (F.args_dict_keyiterator_iter_1 _));show wpAny _ _ (ret (.ref it)) _ _ s;exact wf ⟨_,rfl,"dict_keyiterator",_,hit.typeIs,F.slot_dict_keyiterator_next.lookup,h⟩
def zbQ {X:Cx}{pins:List (Addr × Obj)}{σ:L2.St}{H:Hp}{s:Shared}{a:Addr}{o:Obj}{kw:List (Key × V)}(I:Inv X pins σ H s)(h:H a=some (.frz o (.dK kw))):kw.length<=sizeLine/\(a == sysModules)=false/\∃vs es ep,KV kw vs/\o.data = .dict es ep/\Heap.DictAt (z1a X.prog X.w) s.heap a vs ep:=by
 obtain⟨e,h1,h2,vs,h3,o',es,ep,h4,h5,h6,h7⟩:=(show z1l X.prog X.w H s.heap a (.frz o (.dK kw)) from I.hok a _ h)
 rw[e] at h4
 cases h4
 exact⟨h1,h2,vs,es,ep,h3,h6,o,es,e,h5,h6,h7⟩
def zai {P:Program}{w:World}{K:W.Frag}{tg:Expr}(a it:Addr)(o:Obj)(kw:List (Key × V)){ep:Nat}(hep:∃es,o.data = .dict es ep):Turn P w K tg (Itd a o kw) [it] it (λi h=>h.IsKeyIter it a i kw.length ep) where
 mem:=ww.mpr rfl
 obj:=λi h st b hb=>by
  obtain rfl:=ww.mp hb;obtain⟨o,e,c,d⟩:=st;exact⟨o,e,λv z=>by rw[d] at z; cases z⟩
 keep:=λi h h' st k=>st.at λo e=>k it (ww.mpr rfl) o e
 item:=λX hP hw hK hc i pins s σ H E I hf st hg=>by
  subst hP hw hK;obtain⟨hq,hi⟩:=hg;obtain⟨hz,hy,vs,es,ep',r,e1,da⟩:=zbQ I hq;obtain⟨es',e2⟩:=hep;rw[e1] at e2
  cases e2
  have hl:kw.length=vs.length:=KV.length r;obtain⟨f0,f1,f2,f3,f4,f5⟩:=hf it (ww.mpr rfl);have hv:vs[i]? = some vs[i]:=wq (by omega);rw[hl] at st;refine wpAny_pyNext_dict_item st da hv λkey h' hk st' sb =>?_;have I1:Inv X pins σ H { s with heap:=h' }:=I.turned (t':=s.toks) (λb o hb e=>(sb.2 b hb).trans e) f0 f1 f3 f4 f5;obtain⟨o1,e3,c,d⟩:=id st';have hk':kw[i].1=vs[i].1:=by
   have:=congrArg (λl=>l[i]?) (KV.keys r);simp only[wI] at this;rw[wq hi,hv] at this;exact wO this
  refine⟨key,rfl,zbG (s:={ s with heap:=h' }) e3 c d (by decide) ⟨kV kw[i].1,H,I1,?_,⟨rfl,kw[i],wq hi,rfl⟩,by rw[hl]; exact st',λb hb=>(hf b hb).1⟩⟩;rw[hk'];exact zhX hk
 done:=λX hP hw hK hc i pins s σ H E I hf st hg=>by
  subst hP hw hK;obtain⟨hq,hi⟩:=hg;obtain⟨hz,hy,vs,es,ep',r,e1,da⟩:=zbQ I hq;obtain⟨es',e2⟩:=hep;rw[e1] at e2
  cases e2
  have hl:kw.length=vs.length:=KV.length r;obtain⟨f0,f1,f2,f3,f4,f5⟩:=hf it (ww.mpr rfl);rw[hl] at st;exact wpAny_pyNext_dict_end (I.ok.hd hc) st da (List.getElem?_eq_none (by omega)) λh' eb=>⟨rfl,I.turned (t':=s.toks) (λb o hb e=>eb b o hb e) f0 f1 f3 f4 f5⟩
 self:=λ_ _ _ _ _ st h=>z7F st h
def iDct (te:TE):TI:=λσ H R=>te σ H λx H1=>∃a o kw,x = .ref a/\H1 a=some (.frz o (.dK kw))/\R (Itd a o kw) H1
section
variable {X:Cx}{E:XK}{tg iter:Expr}{x:Ex}
def zgT {te:TE}(he:PE X iter te):PI X tg iter (iDct te):=λpins s σ H R I h=>by
 refine thn (he pins s σ H _ I h) λv s1 ⟨u,H1,I1,r1,q1⟩ =>?_;obtain⟨a,o,kw,e,hq,q⟩:=q1;subst e
 cases r1
 obtain⟨hz,hy,vs,es,ep,r,e1,da⟩:=zbQ I1 hq;refine wpAny_pyIter_dict hy da ?_;refine⟨s1.heap.objs.size,[s1.heap.objs.size],_,_,H1,rfl,I1.kept (t':=s1.toks) λb o e=>wd _ e,zai a _ o kw ⟨es,e1⟩,⟨_,wy _ rfl,rfl,by rw[KV.length r]; rfl⟩,λb hb =>?_,q⟩;obtain rfl:=ww.mp hb;exact I1.fpOk (wc _) (I1.hok.fresh (wc _))
def ze9 (d:D)(Q:DK):Prop:=∃kvs,d=fk kvs/\Q (.lst (kvs.map λp=>kD p.1))
def z6r:Fn:=fn1 ze9 λd Q Q' m h=>by
 obtain⟨kvs,e,q⟩:=h;exact⟨kvs,e,m _ q⟩
def zgc {K:W.Frag}{mg:Str->Option Value}{G:Hp}(k:Key):RD K mg G (kD k) (kV k):=by
 cases k <;> (show RD _ _ _ _ _; simp only[kD,kV]; rw[RD])
def zck {K:W.Frag}{mg:Str->Option Value}{G:Hp}{a:Addr}{o:Obj}{kw:List (Key × V)}{kvs:List (Key × D)}(h:G a=some (.frz o (.dK kw)))(p:PK K mg G kvs kw):Walk K mg G (kvs.map λp=>kD p.1) (Itd a o kw):=λi G1 H g1 g2=>by
 have hH:=g2 _ _ (g1 _ _ h);have hl:=p.len;refine⟨λd e =>?_,λhi=>⟨hH,by rw[wA] at hi; omega⟩⟩;rw[wI] at e
 cases z:kvs[i]? with
 | none=>rw[z] at e; cases e
 | some q=>
  rw[z] at e
  cases e
  have hi:i<kvs.length:=(wb.mp z).1;refine⟨⟨hH,by omega⟩,λv H' y =>?_⟩;obtain⟨rfl,q',e',rfl⟩:=y;have hk:q.1=q'.1:=by
   have:=congrArg (λl=>l[i]?) p.keys;simp only[wI] at this;rw[z,e'] at this;exact wO this
  refine⟨Same.refl',G1,Gr.refl,g2,?_⟩;rw[<- hk];exact zgc q.1
def zgw (h:QX X E iter x):QXI X E tg iter (.op z6r [x]):=QI.imp ⟨zgT h.p⟩ λσ H R ⟨G,ρ,Q0,X0,hs,ab,hr,hz,hk,hx⟩=>by
 refine⟨G,ρ,λd=>z6r.run [d] Q0 X0,X0,hs,ab,hr,λd v G1 H1 q g1 g2 g3 rd =>?_,hx⟩;obtain⟨kvs,rfl,q2⟩:=(show ze9 d Q0 from q)
 obtain⟨a,kw,o,rfl,h1,h2⟩:=zge rd;exact⟨a,o,kw,rfl,g2 _ _ h1,hk _ G1 H1 q2 g1 g2 g3 _ _ rfl (zck h1 h2)⟩
end
end Pu
namespace Pu
open PySem PySem.Spec PyProof.Rows L2
def upW (W:Wd)(p:Addr)(c:D):Wd:=λb=>if b=p then some c else W b
def z1J {W:Wd}{p:Addr}{c:D}:upW W p c p=some c:=by unfold upW; rw[if_pos rfl]
def z3W {W:Wd}{p q:Addr}{c:D}(h:q≠p):upW W p c q=W q:=by unfold upW; rw[if_neg h]
theorem z83 {f:Str}{v:V}:∀{fs:List Str}{vs:List V}{k:Nat},fs.Nodup->fs[k]? = some f->vs[k]? = some v->(fs.zip vs).lookup f=some v
 | _::_,_::_,0,_,h1,h2=>by
  simp at h1 h2;subst h1 h2;simp
 | g::gs,w::ws,k+1,nd,h1,h2=>by
  simp at h1 h2;rw[vm,wR];have hf:(f == g)=false:=by
   cases z:f == g with
   | false=>rfl
   | true=>
    rw[eq_of_beq z] at h1;exact((ve.mp nd).1 (wP h1)).elim
  rw[hf];exact z83 (ve.mp nd).2 h1 h2
 | [],_,_,_,h,_=>by simp at h
 | _::_,[],_,_,_,h=>by simp at h
section
variable {K:W.Frag}{mg:Str->Option Value}{H0 G0 G G1 H H1:Hp}{ρ:Pu.Env}{σ:L2.St}{W:Wd}{A:Addr->List Addr}{n f:Str}{fs:List Str}{cs:List D}{p a C:Addr}{k i:Nat}{c c':D}{o:HO}
theorem OwnL.put:∀{as:List Addr}{cs:List D}{k:Nat},as.Nodup->as[k]? = some a->OwnL K mg G H as cs->z3u K mg G (upd H a o) a c'->OwnL K mg G (upd H a o) as (cs.set k c')
 | b::as,c::cs,0,nd,e,h,w=>by
  simp at e;subst e;refine⟨w,OwnL.same Same.refl' h.2 λx hx u hu =>?_⟩;rw[z04 (λz=>by subst z; exact(ve.mp nd).1 hx)]; exact hu
 | b::as,c::cs,k+1,nd,e,h,w=>by
  simp at e;have hb:b≠a:=λz=>by subst z; exact(ve.mp nd).1 (wP e)
  exact⟨h.1.same Same.refl' λu hu=>by rw[z04 hb]; exact hu,OwnL.put (ve.mp nd).2 e h.2 w⟩
 | [],_,_,_,e,_,_=>by simp at e
 | _::_,[],_,_,_,h,_=>h.elim
def AbS.wrF (ab:AbS K mg H0 G0 G ρ σ H)(h0:H0 a=none)(hg:G a=none)(ho:¬ z13 ρ σ a):AbS K mg H0 G0 G ρ σ (upd H a o) where
 len:=ab.len
 s0:=λb u e=>by rw[z04 (λz=>by rw[z,h0] at e; cases e)]; exact ab.s0 b u e
 g0:=ab.g0
 g:=λb u e=>by rw[z04 (λz=>by rw[z,hg] at e; cases e)]; exact ab.g b u e
 nw:=ab.nw
 sh:=ab.sh
 ow:=λj d e=>by
  obtain⟨b,h1,h2,h3,h4⟩:=ab.ow j d e;refine⟨b,h1,h2,h3,h4.same Same.refl' λu hu =>?_⟩;rw[z04 (λz=>by subst z; exact ho ⟨j,d,e,h1⟩)]; exact hu
 ne:=ab.ne
def zbR (hp:W p=some c){b:Addr}(h:Foot (upW W p c') A b):Foot W A b:=by
 obtain⟨q,d,e,m⟩:=h
 by_cases hq:q=p
 ·subst hq; exact⟨q,c,hp,m⟩
 ·rw[z3W hq] at e; exact⟨q,d,e,m⟩
def AbR.wr (h:AbR K mg H0 G0 G ρ σ H W A)(hp:W p=some (.ins n fs cs))(hk:(A p)[k]? = some a)(hw:z3u K mg G (upd H a o) a c')(pc:Pc c'):AbR K mg H0 G0 G ρ σ (upd H a o) (upW W p (.ins n fs (cs.set k c'))) A:=by
 have ha:a∈A p:=wP hk;have fa:Foot W A a:=⟨p,_,hp,wj _ ha⟩
 obtain⟨⟨C,dx,r1,r2⟩,r3,r4⟩:=h.st.at_ p _ hp;have nd:=ve.mp (h.st.nd p _ hp);refine⟨h.ab.wrF (h.no a fa).1 (h.st.out a fa) (h.no a fa).2,⟨λq d e =>?_,λq d e =>?_,λq q' d d' b e e' m m' =>?_,λb hb=>h.st.out b (zbR hp hb)⟩,λb hb=>h.no b (zbR hp hb)⟩
 ·by_cases hq:q=p
  ·subst hq;rw[z1J] at e
   cases e
   refine⟨⟨C,dx,by rw[z04 (λz=>nd.1 (by rw[<- z] at ha; exact ha))]; exact r1,r2⟩,r3.put nd.2 hk hw,λx hx =>?_⟩
   rcases List.mem_or_eq_of_mem_set hx with z | z
   ·exact r4 x z
   ·rw[z]; exact pc
  ·rw[z3W hq] at e;refine(h.st.at_ q d e).same Same.refl' λb hb u hu =>?_;rw[z04 (λz=>hq (h.st.dj q p d _ b e hp hb (by rw[z]; exact wj _ ha)))];exact hu
 ·by_cases hq:q=p
  ·subst hq; exact h.st.nd q _ hp
  ·rw[z3W hq] at e; exact h.st.nd q d e
 ·have old:∀q d,upW W p (.ins n fs (cs.set k c')) q=some d->∃d',W q=some d':=λq d e=>by
   by_cases hq:q=p
   ·subst hq; exact⟨_,hp⟩
   ·rw[z3W hq] at e; exact⟨d,e⟩
  obtain⟨x,e1⟩:=old q d e;obtain⟨y,e2⟩:=old q' d' e';exact h.st.dj q q' x y b e1 e2 m m'
def AbR.fld (h:AbR K mg H0 G0 G ρ σ H W A)(e1:ρ[i]? = some (.s (.ptr p)))(e2:W p=some (.ins n fs cs))(hC:mg n=some (.ref C))(nd:fs.Nodup)(hf:fs[k]? = some f)(hc:cs[k]? = some c):
  ∃dx a fl,σ[i]? = some (some (.ref p))/\H p=some (.ins C dx fl)/\fl.lookup f=some (.ref a)/\(A p)[k]? = some a/\z3u K mg G H a c/\Foot W A a:=by
 obtain⟨v,h1,h2⟩:=h.ab.sh i _ e1;rw[RD] at h2;subst h2;obtain⟨⟨C',dx,r1,r2⟩,r3,r4⟩:=h.st.at_ p _ e2;rw[hC] at r2
 cases r2
 obtain⟨a,ha,hw⟩:=r3.get hc;exact⟨dx,a,_,h1,r1,z83 nd hf (by rw[wI,ha]; rfl),ha,hw,p,_,e2,wj _ (wP ha)⟩
end
structure Rc (K:W.Frag)(mg:Str->Option Value)(n:Str)(C:Addr):Prop where
 c:Cls K C
 m:mg n=some (.ref C)
def zbT (n:Str)(fs:List Str)(i k:Nat)(ρ:Env)(W:Wd)(P:Addr->List D->D->Prop):Prop:=∃p cs c,ρ[i]? = some (.s (.ptr p))/\W p=some (.ins n fs cs)/\cs[k]? = some c/\P p cs c
def z4W {n:Str}{fs:List Str}{i k:Nat}{ρ:Env}{W:Wd}{P P':Addr->List D->D->Prop}(m:∀p cs c,P p cs c->P' p cs c)(h:zbT n fs i k ρ W P):zbT n fs i k ρ W P':=by
 obtain⟨p,cs,c,h1,h2,h3,h4⟩:=h;exact⟨p,cs,c,h1,h2,h3,m _ _ _ h4⟩
def SmR.fapp (n:Str)(fs:List Str)(i k:Nat)(e:Ex):SmR:=⟨λρ W N _ X=>zbT n fs i k ρ W λp cs c=>∃l,c = .lst l/\e.run (shw W ρ) (λd=>l.length<sizeLine/\Pr d/\N ρ (upW W p (.ins n fs (cs.set k (.lst (l++[d])))))) (λx=>X x W),λρ W N N' Q Q' X X' mn m mx q=>z4W (λp cs c ⟨l,h,q⟩=>⟨l,h,e.mono _ _ _ _ _ (λd q=>⟨q.1,q.2.1,mn _ _ q.2.2⟩) (λ_ q=>mx _ _ q) q⟩) q⟩
def SmR.fclr (n:Str)(fs:List Str)(i k:Nat):SmR:=⟨λρ W N _ X=>zbT n fs i k ρ W λp cs c=>∃l,c = .lst l/\N ρ (upW W p (.ins n fs (cs.set k (.lst [])))),λρ W N N' Q Q' X X' mn m mx q=>z4W (λp cs c ⟨l,h,q⟩=>⟨l,h,mn _ _ q⟩) q⟩
def SmR.fput (n:Str)(fs:List Str)(i k:Nat)(y e:Ex):SmR:=⟨λρ W N _ X=>zbT n fs i k ρ W λp cs c=>∃kvs,c=dk kvs/\e.run (shw W ρ) (λd=>Pr d/\y.run (shw W ρ) (λb=>∃j,b=kD j/\kvs.length<sizeLine/\N ρ (upW W p (.ins n fs (cs.set k (dk (putD kvs j d)))))) (λx=>X x W)) (λx=>X x W),λρ W N N' Q Q' X X' mn m mx q=>z4W (λp cs c ⟨l,h,q⟩=>⟨l,h,e.mono _ _ _ _ _ (λd q=>⟨q.1,y.mono _ _ _ _ _ (λb ⟨j,h,h',q⟩=>⟨j,h,h',mn _ _ q⟩) (λ_ q=>mx _ _ q) q.2⟩) (λ_ q=>mx _ _ q) q⟩) q⟩
section
variable {X:Cx}{E:XK}{e o y tg:Expr}{x z:Ex}{pos cpos apos fpos spos:Pos}{i k:Nat}{n f:Str}{fs:List Str}{C:Addr}
def z92 {te:TE}(he:QE X e te)(hb:attributeBase e f X.env (eval e X.env)=eval e X.env:=by rfl):QE X (.Attribute e f pos) (tFld X.K te f):=⟨zh1 he.p hb⟩
def zb2 (R:Rc X.K X.mg n C)(na:z2K X.K C f)(nd:fs.Nodup)(hf:fs[k]? = some f)(ho:QE X o (tVar i))(ha:QXA X E [e] [x])(hb:attributeBase o f X.env (eval o X.env)=eval o X.env:=by rfl)
  (hs:swapsWith (.Call (.Attribute (.Attribute o f fpos) "append" apos) [e] [] cpos) none pos.line X.env=pure false:=by rfl)
  (hbase:attributeBase (.Attribute o f fpos) "append" X.env (eval (.Attribute o f fpos) X.env)=eval (.Attribute o f fpos) X.env:=by rfl)
  (hfew:((backTo cpos (starEach [e] X.env)).all (λx => !x.1) && (backToKw cpos (keywordEach [] X.env)).all (λx=>x.1.isSome)
   && decide ([e].length+([]:List Keyword).length+(if ([]:List Keyword).isEmpty then 0 else 1)<30))=true:=by rfl)
  (hline:(apos.endLine == cpos.line)=true:=by rfl) (hst:starEach [e] X.env=(false,eval e X.env)::starEach [] X.env:=by rfl) (hplain:(backTo cpos (starEach [] X.env)).any (·.1)=false:=by rfl):
  QR X E (.Expr (.Call (.Attribute (.Attribute o f fpos) "append" apos) [e] [] cpos) pos) (.fapp n fs i k x):=
 QS.imp (z6N (zcM vx PySem.F.slot_list_append PySem.F.type_list_append z3Y (z92 ho hb) ha hbase hfew hline hst hplain) hs) λDe σ H ⟨H0,G0,G,ρ,W,A,N0,R0,X0,ab,hr,hn,hR,hx⟩=>by
  obtain⟨p,cs,c,e1,e2,e3,l,rfl,hr⟩:=hr;obtain⟨dx,a,fl,s1,h1,h2,h3,hw,fa⟩:=ab.fld e1 e2 R.m nd hf e3;obtain⟨xs,w1,w2⟩:=hw;refine⟨.ref p,s1,p,C,dx,fl,.ref a,rfl,h1,R.c,na,h2,.inl ⟨rfl,xs,SqL.of w1⟩,?_⟩;refine⟨plus G H (Hid ρ σ W A),shw W ρ,λds=>∃d,ds=[d]/\l.length<sizeLine/\Pr d/\N0 ρ (upW W p (.ins n fs (cs.set k (.lst (l++[d]))))),_,z1Z ab.ab.g,ab.abe,x.mono _ _ _ _ _ (λd q=>⟨d,rfl,q⟩) (λ_ z=>z) hr,?_,hx.at_ ab⟩;rintro ds vs G1 H1 ⟨d,rfl,hsz,pr,hN⟩ g1 g2 g3 rds;obtain⟨v,rfl,rd⟩:=rds1 rds;refine⟨a,xs,v,rfl,rfl,g3 _ _ w1,by rw[w2.len]; exact hsz,?_⟩;obtain⟨ab',lm⟩:=ab.back g1 g2 g3;have pc:=(ab.st.at_ p _ e2).2.2 _ (wP e3);refine hn ρ _ A σ _ _ hN (ab'.wr e2 h3 ⟨xs++[v],z09,(w2.same lm).app (RDs.cons (RD.strip (ab.mu g2 g3) d pr.1 pr.2 rd) RDs.nil)⟩ λb hb =>?_) lm
  rcases wE.mp hb with z | z
  ·exact pc b z
  ·rw[ww.mp z]; exact pr
def zeM (R:Rc X.K X.mg n C)(na:z2K X.K C f)(nd:fs.Nodup)(hf:fs[k]? = some f)(ho:QE X o (tVar i))(hb:attributeBase o f X.env (eval o X.env)=eval o X.env:=by rfl)
  (hs:swapsWith (.Call (.Attribute (.Attribute o f fpos) "clear" apos) [] [] cpos) none pos.line X.env=pure false:=by rfl)
  (hbase:attributeBase (.Attribute o f fpos) "clear" X.env (eval (.Attribute o f fpos) X.env)=eval (.Attribute o f fpos) X.env:=by rfl)
  (hline:(apos.endLine == cpos.line)=true:=by rfl):
  QR X E (.Expr (.Call (.Attribute (.Attribute o f fpos) "clear" apos) [] [] cpos) pos) (.fclr n fs i k):=
 QS.imp (z6N (zgG vx PySem.F.slot_list_clear PySem.F.type_list_clear zdb (z92 ho hb) hbase hline) hs) λDe σ H ⟨H0,G0,G,ρ,W,A,N0,R0,X0,ab,hr,hn,hR,hx⟩=>by
  obtain⟨p,cs,c,e1,e2,e3,l,rfl,hr⟩:=hr;obtain⟨dx,a,fl,s1,h1,h2,h3,hw,fa⟩:=ab.fld e1 e2 R.m nd hf e3;obtain⟨xs,w1,w2⟩:=hw;refine⟨.ref p,s1,p,C,dx,fl,.ref a,rfl,h1,R.c,na,h2,.inl ⟨rfl,xs,SqL.of w1⟩,?_⟩;refine⟨a,xs,rfl,rfl,w1,?_⟩;exact hn ρ _ A σ _ _ hr (ab.wr e2 h3 ⟨[],z09,RDs.nil⟩ λb hb=>by cases hb) Same.refl'
def zeL (hu:X.A.units+1<cLine)(R:Rc X.K X.mg n C)(na:z2K X.K C f)(nd:fs.Nodup)(hf:fs[k]? = some f)(ho:QE X o (tVar i))(hy:QX X E y z)(he:QX X E e x)(hb:attributeBase o f X.env (eval o X.env)=eval o X.env:=by rfl)
  (hs:swapsWith e (some (.Subscript (.Attribute o f fpos) y spos)) pos.line X.env=pure false:=by rfl):QR X E (.Assign [.Subscript (.Attribute o f fpos) y spos] e pos) (.fput n fs i k z x):=
 QS.imp ⟨zb7 hu (z92 ho hb).p hy.p he.p hs⟩ λDe σ H ⟨H0,G0,G,ρ,W,A,N0,R0,X0,ab,hr,hn,hR,hx⟩=>by
  obtain⟨p,cs,c,e1,e2,e3,kvs,rfl,hr⟩:=hr;refine⟨plus G H (Hid ρ σ W A),shw W ρ,_,_,z1Z ab.ab.g,ab.abe,hr,λd v G1 H1 q g1 g2 g3 rd =>?_,hx.at_ ab⟩;obtain⟨ab',lm⟩:=ab.back g1 g2 g3;have rd':=RD.strip (ab.mu g2 g3) d q.1.1 q.1.2 rd;obtain⟨dx,a,fl,s1,h1,h2,h3,hw,fa⟩:=ab'.fld e1 e2 R.m nd hf e3;refine⟨.ref p,s1,p,C,dx,fl,.ref a,rfl,h1,R.c,na,h2,?_⟩;refine⟨plus _ H1 (Hid ρ σ W A),shw W ρ,_,_,z1Z ab'.ab.g,ab'.abe,q.2,λb u G2 H2 q2 k1 k2 k3 rb =>?_,hx.at_ ab'⟩;obtain⟨ab2,lm2⟩:=ab'.back k1 k2 k3;obtain⟨j,rfl,hz,hN⟩:=q2;have eu:=zaO rb;subst eu;obtain⟨kw,w1,w2⟩:=zbk hw;refine⟨a,_,rfl,DPut.k (k3 _ _ w1) (by rw[<- w2.len]; exact hz),?_⟩;have pc:=(ab.st.at_ p _ e2).2.2 _ (wP e3);refine hn ρ _ A σ _ _ hN (ab2.wr e2 h3 (zbW z09 ((w2.same lm2).put (rd'.same lm2))) ?_) (z06 lm lm2);have pc':∀c∈kvs.map (·.2),Pr c:=pc;show ∀c∈(putD kvs j d).map (·.2),Pr c;intro c hc;unfold putD at hc
  split at hc
  ·rw[vf] at hc;obtain⟨r,hr,rfl⟩:=vq.mp hc;show Pr (if r.1=j then (r.1,d) else r).2
   split
   ·exact q.1
   ·exact pc' _ (List.mem_map_of_mem hr)
  ·rw[vH] at hc
   rcases wE.mp hc with z | z
   ·exact pc' _ z
   ·simp at z; rw[z]; exact q.1
end
def forR (i:Nat)(b:SmR)(N:EW)(Q:DW)(X:XW):List D->Env->Wd->Prop
 | [],ρ,W=>N ρ W
 | x::xs,ρ,W=>b.run (ρ.set i (.s x)) W (forR i b N Q X xs) Q X
theorem z7L {i:Nat}{b:SmR}{N N':EW}{Q Q':DW}{X X':XW}(mn:∀r w,N r w->N' r w)(m:∀d w,Q d w->Q' d w)(mx:∀x w,X x w->X' x w):∀(l:List D) (ρ:Env) (W:Wd),forR i b N Q X l ρ W->forR i b N' Q' X' l ρ W
 | [],_,_,q=>mn _ _ q
 | x::xs,ρ,W,q=>b.mono _ W _ _ Q Q' X X' (λρ2 W2 q2=>z7L mn m mx xs ρ2 W2 q2) m mx q
def SmR.for_ (i:Nat)(src:Ex)(b:SmR):SmR:=⟨λρ W N Q X=>src.run (vis ρ) (λd=>onL (z08 d) λl=>forR i b N Q X l ρ W) (λx=>X x W),λρ W N N' Q Q' X X' mn m mx q=>src.mono _ _ _ _ _ (λd q1=>z5e (λl q2=>z7L mn m mx l _ _ q2) q1) (λ_ q=>mx _ _ q) q⟩
def FnR.mk' (np nn:Nat)(b:SmR):FnR:=⟨λds W Q X=>ds.length=np/\b.run (ds.map B.s++List.replicate (nn - np) .n) W (λ_ w=>Q .non w) Q X,λds W Q Q' X X' m mx q=>⟨q.1,b.mono _ _ _ _ Q Q' X X' (λ_ _ q1=>m _ _ q1) m mx q.2⟩⟩
def Fn.ofR (np nn:Nat)(b:SmR):Fn:=⟨λds Q _=>ds.length=np/\b.run (ds.map B.s++List.replicate (nn - np) .n) (λ_=>none) (λ_ _=>Q .non) (λd _=>Q d) (λ_ _=>False),λds Q Q' X X' m mx q=>⟨q.1,b.mono _ _ _ _ _ _ _ _ (λ_ _ q1=>m _ q1) (λ_ _ q1=>m _ q1) (λ_ _ z=>z) q.2⟩⟩
section
variable {X:Cx}{E:XK}{tg iter:Expr}{body:List Stmt}{x:Ex}{t:SmR}{pos:Pos}{i:Nat}
def za2 {K:W.Frag}{mg:Str->Option Value}{H0 G0 G H:Hp}{ρ:Pu.Env}{σ:L2.St}{W:Wd}{A:Addr->List Addr}{l:List D}{J:It}{N0:EW}{R0:DW}{X0:XW}{De:Ends}(ab:AbR K mg H0 G0 G ρ σ H W A)(hw:Walk K mg G l J)(hr:forR i t N0 R0 X0 l ρ W)
  (hn:KnR K mg H0 G0 G N0 De.nx) (hR:KrR K mg H0 G0 R0 De.rt) (hx:KxR K mg H0 G0 X0 E):
  ∃Z:Nat->Nat->L2.St->Hp->Prop,(∃m,Z 0 m σ H)/\∀j m σ H,Z j m σ H->
   (J.stop j H/\De.nx σ H)\/(J.go j H/\∃N:L2.St->Hp->Prop,(∀σ' H',N σ' H'->∃m',m'<m/\Z (j+1) m' σ' H')/\∀x H',J.yld j H x H'->tgt K (.nm i) x σ H' λσ2 H2=>tsr K mg E t { De with nx:=N,ct:=N,bk:=De.nx } σ2 H2):=by
 refine⟨λj m σ H=>m=l.length - j/\j<=l.length/\∃G1 ρ1 W1 A1,AbR K mg H0 G0 G1 ρ1 σ H W1 A1/\Same G G1/\forR i t N0 R0 X0 (l.drop j) ρ1 W1,⟨l.length,by simp,w6 _,G,ρ,W,A,ab,Same.refl',by simpa using hr⟩,?_⟩;rintro j m σ1 H1 ⟨rfl,hi,G1,ρ1,W1,A1,ab1,g1,h1⟩;obtain⟨w1,w2⟩:=hw j G1 H1 g1 ab1.ab.g
 by_cases hlt:j<l.length
 ·have e:l[j]? = some l[j]:=by simp[hlt]
  obtain⟨go,yl⟩:=w1 _ e;rw[wX hlt] at h1;refine .inr ⟨go,λσ' H'=>∃G2 ρ2 W2 A2,AbR K mg H0 G0 G2 ρ2 σ' H' W2 A2/\Same G G2/\forR i t N0 R0 X0 (l.drop (j+1)) ρ2 W2,λσ' H' w=>⟨l.length - (j+1),by omega,rfl,hlt,w⟩,λv H2 y =>?_⟩;obtain⟨s2,G2,g2,k2,rd⟩:=yl v H2 y;have ab2:=(ab1.grow g2 k2 s2).put (i:=i) rd;exact⟨H0,G0,G2,_,W1,A1,_,R0,X0,ab2,h1,λρ' W' A' σ' H' G' w ab' g'=>⟨G',ρ',W',A',ab',z06 g1 (z06 g2.1 g'),w⟩,hR,hx⟩
 ·have e:j=l.length:=by omega
  subst e;rw[List.drop_length] at h1;exact .inl ⟨w2 (wc _),hn ρ1 W1 A1 σ1 H1 G1 h1 ab1 g1⟩
def zgu (hp:PassesOwn (model X.prog X.w) X.A X.env X.xe)(hc:X.calm=true)(hi:QXI X E tg iter x)(hg:QG X tg (tgt X.K (.nm i)))(hb:QRs X E body t)(hs:∀x,foldedSetIterable iter X.env x=pure x:=by intro _; rfl):
  QR X E (.For tg iter body [] pos) (.for_ i x t):=QS.imp (zdO hp hc hi hg hb hs) λD σ H ⟨H0,G0,G,ρ,W,A,N0,R0,X0,ab,hr,hn,hR,hx⟩=>by
 refine⟨G,vis ρ,_,_,ab.ab.g,ab.ab.vis,hr,λd q=>(z99 q).imp λ_ z=>z.1,λd G1 H1 q g1 g2 g3 l J el hw =>?_,hx.at_ ab⟩;have q':onL (z08 d) λl=>forR i t N0 R0 X0 l ρ W:=q;rw[el] at q';exact za2 (E:=E) (ab.grow g1 g2 g3) hw q' (hn.same g1.1) hR hx
end
section
variable {P:Program}{w:World}{K:W.Frag}{mg:Str->Option Value}{base:Heap}{N:List Str}{qual:Str}{f:Addr}
def zcq {ds:List D}{σ:L2.St}{m:Nat}{a:Addr}:¬ z13 (ds.map B.s++List.replicate m .n) σ a:=λ⟨j,d,e,_⟩=>by
 have:=wP e
 rcases wE.mp this with z | z
 ·obtain⟨_,_,z⟩:=vq.mp z; cases z
 ·have:=List.eq_of_mem_replicate z; cases this
def fnR {x:Str}{st:Stmt}{fd:FuncData}{ps:List Str}{k np nn:Nat}{b:SmR}(F:Fun K x qual st f fd)(S:z0i N ps (z01 st))(hp:ps.length=np)(hN:N.length=nn)
  (hb:∀(cdv:Value) (A:Around) (outer:List PySem.Env) (s:Shared) (H:Hp) (E:XK),Room k (A.deeper (envOfC qual (z01 st) s.heap.objs.size f cdv))->QRs ((cxOf (CXe P w) P w K mg base N qual (z01 st) f cdv A outer s H E).wish (cxOf (CXe P w) P w K mg base N qual (z01 st) f cdv A outer s H E).xe) E (z15 st) b):
  FnOk P w K mg base (CXe P w) (k+1) f fd ps (spR K mg (FnR.mk' np nn b)):=by
 refine F.okE S (λvs H Q E ⟨G,ds,W,A,Q0,X0,hs,rds,st,⟨hl,hr⟩,hk,hx⟩=>by rw[rds.len,hl,hp]) λcdv A' outer s H vs Q E hroom ⟨G,ds,W,A,Q0,X0,hs,rds,st,⟨hl,hr⟩,hk,hx⟩=>⟨_,hb cdv A' outer s H E hroom,?_⟩
 refine⟨minus H (Foot W A),G,G,_,W,A,_,Q0,X0,⟨(z4f hs rds hl hN).weak z1i,st,λa ha=>⟨z20 ha,zcq⟩⟩,hr,λρ' W' A' σ' H' G' q ab _ =>?_,hk,hx⟩;exact hk .non .non G' H' W' A' q ⟨ab.ab.g0,ab.ab.nw⟩ ab.ab.g ab.ab.s0 ab.st (λa ha=>(ab.no a ha).1) (by rw[RD])
def zbS {A:Addr->List Addr}{a:Addr}:¬ Foot (λ_=>none) A a:=λ⟨_,_,e,_⟩=>by cases e
def fnO {x:Str}{st:Stmt}{fd:FuncData}{ps:List Str}{k np nn:Nat}{b:SmR}(F:Fun K x qual st f fd)(S:z0i N ps (z01 st))(hp:ps.length=np)(hN:N.length=nn)
  (hb:∀(cdv:Value) (A:Around) (outer:List PySem.Env) (s:Shared) (H:Hp) (E:XK),Room k (A.deeper (envOfC qual (z01 st) s.heap.objs.size f cdv))->QRs ((cxOf (CXe P w) P w K mg base N qual (z01 st) f cdv A outer s H E).wish λ_ _=>False) E0 (z15 st) b):
  FnOk P w K mg base (CXe P w) (k+1) f fd ps (spP K mg (Fn.ofR np nn b)):=by
 refine F.okN S (λvs H Q E ⟨G,ds,Q0,X0,hs,rds,⟨hl,hr⟩,hk,hx⟩=>by rw[rds.len,hl,hp]) λcdv A outer s H vs Q E hroom ⟨G,ds,Q0,X0,hs,rds,⟨hl,hr⟩,hk,hx⟩=>⟨_,hb cdv A outer s H E hroom,?_⟩
 refine⟨H,G,G,_,λ_=>none,λ_=>[],_,_,λ_ _=>False,⟨z4f hs rds hl hN,⟨λp c e=>(by cases e),λp c e=>(by cases e),λp q c c' a e=>(by cases e),λa ha=>(zbS ha).elim⟩,λa ha=>(zbS ha).elim⟩,hr,λρ' W' A' σ' H' G' q ab _ =>?_,λd v G' H' W' A' q g g2 s st n rd=>hk d v G' H' q g g2 s rd,λx C H' W' A' G' z=>z.elim⟩;exact hk .non .non G' H' q ⟨ab.ab.g0,ab.ab.nw⟩ ab.ab.g ab.ab.s0 (by rw[RD])
end
def zax (K:W.Frag)(mg:Str->Option Value)(C:Addr)(fs:List Str)(cs:List D):Sp:=λvs H Q _=>∃p dx,vs=[.ref p]/\H p=some (.ins C dx [])/\∀Gn H' as,(∀a o,Gn a=some o->H a=none)->Same Gn H'->OwnL K mg Gn H' as cs->(∀a∈as,H a=none/\Gn a=none)->as.Nodup->H' p=some (.ins C dx (fs.zip (as.map V.ref)))->(∀b o,H b=some o->b≠p->H' b=some o)->Q .non H'
def upA (A:Addr->List Addr)(p:Addr)(as:List Addr):Addr->List Addr:=λb=>if b=p then as else A b
def z4d {A:Addr->List Addr}{p:Addr}{as:List Addr}:upA A p as p=as:=by unfold upA; rw[if_pos rfl]
def z6g {A:Addr->List Addr}{p q:Addr}{as:List Addr}(h:q≠p):upA A p as q=A q:=by unfold upA; rw[if_neg h]
def SmR.new (i:Nat)(c:D):SmR:=⟨λρ W N _ _=>∀p,W p=none->N (ρ.set i (.s (.ptr p))) (upW W p c),λρ W N N' Q Q' X X' mn m mx q p h=>mn _ _ (q p h)⟩
section
variable {X:Cx}{E:XK}{tg e:Expr}{pos:Pos}{i:Nat}{n:Str}{fs:List Str}{cs:List D}{C:Addr}
def AbR.new {K:W.Frag}{mg:Str->Option Value}{H0 G0 G Gn H H':Hp}{ρ:Pu.Env}{σ:L2.St}{W:Wd}{A:Addr->List Addr}{p dx:Addr}{as:List Addr}(ab:AbR K mg H0 G0 G ρ σ H W A)(hC:mg n=some (.ref C))(pc:∀c∈cs,Pc c)(hp:H p=none)(gn:∀a o,Gn a=some o->H a=none/\a≠p)(gh:Same Gn H')(ow:OwnL K mg Gn H' as cs)(fr:∀a∈as,H a=none/\Gn a=none/\a≠p)(nd:as.Nodup)(hp':H' p=some (.ins C dx (fs.zip (as.map V.ref))))(s:Same H H'):
  ∃G' A',AbR K mg H0 G0 G' (ρ.set i (.s (.ptr p))) (σ.set i (some (.ref p))) H' (upW W p (.ins n fs cs)) A'/\Same G G':=by
 have gr:Gr G H (λa=>match G a with | some o=>some o | none=>Gn a):=⟨λa o e=>by show (match G a with | some o=>some o | none=>Gn a)=some o; rw[e],λa o e=>by
  have e':(match G a with | some o=>some o | none=>Gn a)=some o:=e
  cases z:G a with
  | some u=>exact .inl ⟨u,rfl⟩
  | none=>rw[z] at e'; exact .inr (gn a o e').1⟩
 have gs:Same (λa=>match G a with | some o=>some o | none=>Gn a) H':=λa o e=>by
  have e':(match G a with | some o=>some o | none=>Gn a)=some o:=e
  cases z:G a with
  | some u=>rw[z] at e'; cases e'; exact s a _ (ab.ab.g a _ z)
  | none=>rw[z] at e'; exact gh a o e'
 have gg:Same Gn (λa=>match G a with | some o=>some o | none=>Gn a):=λa o e=>by
  show (match G a with | some o=>some o | none=>Gn a)=some o;rw[z0x ab.ab.g (gn a o e).1]; exact e
 have ab1:=(ab.grow gr gs s).put (i:=i) (d :=.ptr p) (v :=.ref p) (by rw[RD]);have old:∀a,Foot W A a->∃o,H a=some o:=λa ha=>(ab.st.exO ha).imp λ_ z=>z.1;have wp:∀q c,W q=some c->q≠p:=λq c e z=>by
  subst z;obtain⟨o,ho⟩:=old q ⟨q,c,e,wt⟩;rw[hp] at ho; cases ho
 have newf:∀a,a∈p::as->H a=none:=λa ha=>by
  rcases wx.mp ha with z | z
  ·rw[z]; exact hp
  ·exact(fr a z).1
 have ft:∀a,Foot (upW W p (.ins n fs cs)) (upA A p as) a->Foot W A a\/a∈p::as:=λa ⟨q,c,e,m⟩=>by
  by_cases hq:q=p
  ·subst hq; rw[z4d] at m; exact .inr m
  ·rw[z6g hq] at m; rw[z3W hq] at e; exact .inl ⟨q,c,e,m⟩
 refine⟨_,upA A p as,⟨ab1.ab,⟨λq c e =>?_,λq c e =>?_,λq q' c c' a e e' m m' =>?_,λa ha =>?_⟩,λa ha =>?_⟩,gr.1⟩
 ·by_cases hq:q=p
  ·subst hq;rw[z1J] at e
   cases e
   rw[z4d];exact⟨⟨C,dx,hp',hC⟩,ow.same gg λ_ _ _ z=>z,pc⟩
  ·rw[z3W hq] at e; rw[z6g hq]; exact ab1.st.at_ q c e
 ·by_cases hq:q=p
  ·subst hq;rw[z4d];exact ve.mpr ⟨λz=>(fr q z).2.2 rfl,nd⟩
  ·rw[z3W hq] at e; rw[z6g hq]; exact ab.st.nd q c e
 ·by_cases hq:q=p
  ·by_cases hq':q'=p
   ·rw[hq,hq']
   ·rw[z6g hq'] at m'; rw[z3W hq'] at e'; rw[hq,z4d] at m;obtain⟨o,ho⟩:=old a ⟨q',c',e',m'⟩;rw[newf a m] at ho; cases ho
  ·rw[z6g hq] at m; rw[z3W hq] at e
   by_cases hq':q'=p
   ·rw[hq',z4d] at m';obtain⟨o,ho⟩:=old a ⟨q,c,e,m⟩;rw[newf a m'] at ho; cases ho
   ·rw[z6g hq'] at m'; rw[z3W hq'] at e';exact ab.st.dj q q' c c' a e e' m m'
 ·rcases ft a ha with z | z
  ·exact ab1.st.out a z
  ·show (match G a with | some o=>some o | none=>Gn a)=none;rw[z0x ab.ab.g (newf a z)]
   rcases wx.mp z with y | y
   ·cases x:Gn a with
    | none=>rfl
    | some o=>exact((gn a o x).2 y).elim
   ·exact(fr a y).2.1
 ·rcases ft a ha with z | z
  ·exact ab1.no a z
  ·refine⟨z0x ab.ab.s0 (newf a z),λy =>?_⟩;obtain⟨j,d,e,q⟩:=y
   by_cases hj:j=i
   ·subst hj;have hl:j < ρ.length:=by
     have:=(wb.mp e).1;simpa using this
    rw[wk hl] at e; cases e
   ·rw[we (wU hj)] at e q;obtain⟨o,ho,_⟩:=ab.ab.ownMu ⟨j,d,e,q⟩;rw[newf a z] at ho; cases ho
def zgs {sp:Sp}(hC:X.mg n=some (.ref C))(pc:∀c∈cs,Pc c)(h:QS X (.Assign [tg] e pos) (tAsg (zfM C (zax X.K X.mg C fs cs) [] E tNil) (z34 i))):QR X E (.Assign [tg] e pos) (.new i (.ins n fs cs)):=QS.imp h λD σ H ⟨H0,G0,G,ρ,W,A,N0,R0,X0,ab,hr,hn,hR,hx⟩=>by
 intro p dx hp hdx ne;refine⟨p,dx,rfl,z09,λGn H' as gn gh ow fr nd hp' kp=>⟨rfl,?_⟩⟩;have s0:∀b o,H b=some o->(upd (upd H dx (.own p)) p (.ins C dx [])) b=some o:=λb o e=>by
  rw[z04 (λz=>by rw[z,hp] at e; cases e),z04 (λz=>by rw[z,hdx] at e; cases e)]; exact e
 have back:∀b,(upd (upd H dx (.own p)) p (.ins C dx [])) b=none->H b=none/\b≠p:=λb z=>by
  refine⟨?_,λy=>by rw[y,z09] at z; cases z⟩
  cases e:H b with
  | none=>rfl
  | some o=>rw[s0 b o e] at z; cases z
 have wn:W p=none:=by
  cases z:W p with
  | none=>rfl
  | some c=>
   obtain⟨o,ho,_⟩:=ab.st.exO ⟨p,c,z,wt⟩;rw[hp] at ho; cases ho
 obtain⟨G',A',ab',g'⟩:=ab.new (i:=i) (n:=n) (fs:=fs) hC pc hp (λa o e=>back a (gn a o e)) gh ow (λa ha=>⟨(back a (fr a ha).1).1,(fr a ha).2,(back a (fr a ha).1).2⟩) nd hp' λb o e=>kp b o (s0 b o e) λz=>by rw[z,hp] at e; cases e
 exact hn _ _ A' _ H' G' (hr p wn) ab' g'
end
end Pu
namespace L2
open PySem PySem.Spec PyProof.Rows
def EH (X:Cx)(C2:Addr)(j:Nat)(ts:TS)(D:Ends)(σ:St):XK:=λCv _ H2=>PySem.W.exmOne X.K Cv (.ref C2)=some true/\∃C,Cv = .ref C/\∀ea H3,H2 ea=none->Same H2 H3->H3 ea=some (.ext (z3v ea C))->ts (D.less j) (σ.set j (some (.ref ea))) H3
def z3h (CX:CXT)(X:Cx)(σ:St)(E:XK):Prop:=∀(pins:List (Addr × Obj)) (H:Hp) (s:Shared) (e:Value) (s':Shared),Inv X pins σ H s->CX X.stack H s E e s'->X.xe e s'
section
variable {X:Cx}{k:Nat}{ps:List Str}{sp:Sp}{x g cx n:Str}{e o:Expr}{es:List Expr}{ta:TE}{t:TA}{C C2 f:Addr}{b0:Stmt}{body suite:List Stmt}{ts:TS}{p1 p2 p3 p4 p5 p6 pos apos:Pos}{j:Nat}{CX:CXT}{fd:FuncData}{ds:List Value}{dvs:List V}{E:XK}{σ0:St}{m:Str}
def zeH {tb:Ends->St->TS}(hst:X.stack=X.env::X.outer/\X.env.frame=some X.env.locals)(hN:X.N.Nodup)(hi:X.N[j]? = some n)(hk':X.env.scope.names.lookup n=some .local)(T:Exc X.K X.mg cx C2)(hgc:Gl X cx)(hdc:(cx == ("__debug__":Str))=false)(hs:∀ea,QSs (X.suite ea) (b0::suite) ts)
  (hb:∀pins xe D σ,z3h (CXe X.prog X.w) (X.within pins xe) σ (EH X C2 j ts D σ)->QSs (X.within pins xe) body (tb D σ)):
  QS X (.Try body [.ExceptHandler (some (.Name cx p5)) (some n) (b0::suite) p6] [] [] pos) (λD σ H=>tb D σ D σ H):=by
 constructor
 intro pins s σ H D I h;refine wpAny_Try_except ?_;generalize hxe:(λ(e:Value) (s1:Shared)=>wpAny (model X.prog X.w) X.A (noteFrame e X.env) (λ_ s2=>wpAny (model X.prog X.w) X.A (setFlight e none) (λ_ s3=>wpAny (model X.prog X.w) X.A (handleBy e X.env [.ExceptHandler (some (.Name cx p5)) (some n) (b0::suite) p6]) (SP X pins D) X.xe s3) X.xe s2) X.xe s1)=xe;have pa:z3h (CXe X.prog X.w) (X.within pins xe) σ (EH X C2 j ts D σ):=λpins' H1 s1 ev s2 I1 hq=>by
  show xe ev s2;rw[<- hxe];exact zej (I1.out I.ok) hst hN hi hk' T hgc hs hq (λ_ _ z=>z) hdc
 have body:=(hb pins xe D σ pa).p;refine wK (body [] s σ H { D with nx:=D.nx } I.within h) (λfl s2 z =>?_) λev s2 z =>?_
 ·have z':=SP.out I.ok z
  cases fl with
  | next=>exact wpAny_execs_nil z'
  | brk=>exact z'
  | cont=>exact z'
  | ret u=>exact z'
 ·exact z
def zev {pins:List (Addr × Obj)}{H:Hp}{s:Shared}{Q:VK}{us:List Value}{vs:List V}(F:FnOk X.prog X.w X.K X.mg X.base CX k f fd ps sp)(hr:Room k X.A)(hb:z3i X.K fd ps ds)(hd:Vals dvs ds)(hx:z3h CX X σ0 E)
  (I:Inv X pins σ0 H s) (r:Vals vs us) (h:sp (vs++dvs) H Q E):wpAny (model X.prog X.w) X.A (call (.ref f) us) (EP X pins σ0 Q) X.xe s:=by
 have r2:Vals (vs++dvs) (us++ds):=r.append hd;have hl:(us++ds).length=ps.length:=by rw[<- r2.length]; exact F.len _ _ _ _ h
 refine wpAny_call (uq (F.run X.A X.stack s H ⟨us,[]⟩ (us++ds) (vs++dvs) Q E hr I.env0 (hb s us I.kIn hl) r2 h) λr s' hq =>?_)
 cases r with
 | error e=>exact hx pins H s e s' I hq
 | ok fl=>
  cases fl with
  | ret u=>exact I.after hq
  | next=>exact False.elim hq
  | brk=>exact False.elim hq
  | cont=>exact False.elim hq
def zcV {pl:Sem Bool}(he:PE X o ta)(c:Cls X.K C)(hm:Meth X.K C m f)(F:FnOk X.prog X.w X.K X.mg X.base CX k f fd ps sp)(hr:Room k X.A)(hb:z3i X.K fd ps ds)(hd:Vals dvs ds)(hx:z3h CX X σ0 E)(ha:PA X (e::es) t)
  (hst:starEach (e::es) X.env=(false,eval e X.env)::starEach es X.env:=by rfl) (hpl:(backTo pos (starEach es X.env)).any (·.1)=false:=by rfl)
  (ht:eval (.Call (.Attribute o m apos) (e::es) [] pos) X.env=(do
   let ov <- eval o X.env
   standAt apos.atName
   let (f,first) <- holding [ov] (getMethod ov m pl)
   callWith pos f first (backTo pos (starEach (e::es) X.env)) (backToKw pos (keywordEach [] X.env))):=by rfl):
  PE X (.Call (.Attribute o m apos) (e::es) [] pos) (λσ H Q=>σ=σ0/\zek C m sp dvs E ta t σ H Q):=by
 rintro pins s σ H Q I ⟨rfl,h⟩;refine PySem.W.methodCall_KW (pl:=pl) (thn (he pins s σ H _ I h) λu s1 ⟨x,H1,I1,rx,a,dx,fs,ex,ea,l,q⟩ =>?_) ht;subst ex;obtain rfl:u=Value.ref a:=rx;refine z4U I1 ea c hm l ?_;refine ug (first:=[.ref a]) (h₀:=X.base) I.ok.mod.kin hm.kp (thn (ha pos pins s1 σ H1 _ I1 q) λus s2 ⟨vs,H2,I2,r,q2⟩=>⟨I2.kIn,?_⟩) hst hpl;exact zev (us :=.ref a::us) (vs :=.ref a::vs) F hr hb hd hx I2 (.cons rfl r) q2
end
end L2
namespace Pu
open PySem PySem.Spec PyProof.Rows L2
def SmR.tryr (t:SmR)(xs:List Str)(j:Nat)(s:SmR):SmR:=⟨λρ W N Q X=>(∀(i:Nat) (d:D),ρ[i]? ≠ some (B.o d))/\t.run ρ W N Q (λx W'=>x∈xs/\s.run (ρ.set j (.s (.exc x))) W' (λρ' W''=>N (ρ'.set j .n) W'') Q X),λρ W N N' Q Q' X X' mn m mx q=>⟨q.1,t.mono ρ W _ _ Q Q' _ _ mn m (λx W' q=>⟨q.1,s.mono _ _ _ _ Q Q' X X' (λ_ _ q=>mn _ _ q) m mx q.2⟩) q.2⟩⟩
abbrev QRA (X:Cx)(σ0:L2.St)(E:XK)(st:Stmt)(t:SmR):Prop:=QS X st (λD σ H=>σ=σ0/\tsr X.K X.mg E t D σ H)
abbrev QRsA (X:Cx)(σ0:L2.St)(E:XK)(st:List Stmt)(t:SmR):Prop:=QSs X st (λD σ H=>σ=σ0/\tsr X.K X.mg E t D σ H)
section
variable {X:Cx}{E:XK}{σ0:L2.St}{st:Stmt}{la lb body suite:List Stmt}{t u s:SmR}{c e o tg:Expr}{es:List Expr}{x:ExR}{xs:List ExR}{pos apos p5 p6:Pos}{i j:Nat}{cx n:Str}{C2:Addr}{b0:Stmt}
def z8h (h:QRA X σ0 E st t):QRsA X σ0 E [st] t:=z8g h
def zgq {w:Ex}(hc:QXT X E c w)(ha:QRsA X σ0 E la t)(hb:QRsA X σ0 E lb u):QRA X σ0 E (.If c la lb pos) (.ifp w t u):=QS.imp (zaZ hc ha hb) λD σ H ⟨hσ,H0,G0,G,ρ,W,A,N0,R0,X0,ab,hr,hn,hR,hx⟩=>by
 refine⟨plus G H (Hid ρ σ W A),shw W ρ,_,_,z1Z ab.ab.g,ab.abe,hr,λd G1 H1 q g1 g2 g3 =>?_,hx.at_ ab⟩;obtain⟨b,rfl,q1,q2⟩:=z4e q;obtain⟨ab',lm⟩:=ab.back g1 g2 g3;refine⟨b,rfl,?_⟩
 cases b with
 | true=>exact iteT ⟨hσ,H0,G0,_,ρ,W,A,N0,R0,X0,ab',q1 rfl,hn.same lm,hR,hx⟩
 | false=>exact iteF ⟨hσ,H0,G0,_,ρ,W,A,N0,R0,X0,ab',q2 rfl,hn.same lm,hR,hx⟩
def zb0 (h:QS X (.Assign [tg] e pos) (tAsg (λσ H Q=>σ=σ0/\txr X.K X.mg E x σ H Q) (z34 i))):QRA X σ0 E (.Assign [tg] e pos) (.set i x):=QS.imp h λD σ H ⟨hσ,H0,G0,G,ρ,W,A,N0,R0,X0,ab,hr,hn,hR,hx⟩=>
 ⟨hσ,H0,G0,G,ρ,W,A,_,X0,ab,hr,λd v W' A' G' H' q ab' g rd=>hn _ W' A' _ H' G' q (ab'.put rd) g,hx⟩
def zcH {CX:CXT}{k:Nat}{C f:Addr}{fd:FuncData}{ps fs:List Str}{F:FnR}{m n:Str}{pl:Sem Bool}(ho:QE X o (tVar i))(c:Cls X.K C)(hC:X.mg n=some (.ref C))(hm:Meth X.K C m f)(hn:m ∉ fs)(Fk:FnOk X.prog X.w X.K X.mg X.base CX k f fd ps (spR X.K X.mg F))(hr:Room k X.A)(hb:z3i X.K fd ps [])(hx:z3h CX X σ0 E)(ha:QAR X E (e::es) xs)
  (hst:starEach (e::es) X.env=(false,eval e X.env)::starEach es X.env:=by rfl) (hpl:(backTo pos (starEach es X.env)).any (·.1)=false:=by rfl)
  (ht:eval (.Call (.Attribute o m apos) (e::es) [] pos) X.env=(do
   let ov <- eval o X.env
   standAt apos.atName
   let (f,first) <- holding [ov] (getMethod ov m pl)
   callWith pos f first (backTo pos (starEach (e::es) X.env)) (backToKw pos (keywordEach [] X.env))):=by rfl):QE X (.Call (.Attribute o m apos) (e::es) [] pos) (λσ H Q=>σ=σ0/\txr X.K X.mg E (.meth n fs F i xs) σ H Q):=
 QE.imp ⟨zcV (pl:=pl) ho.p c hm Fk hr hb .nil hx ha.p hst hpl ht⟩ λσ H Q ⟨hσ,H0,G0,G,ρ,W,A,Q0,X0,ab,⟨p,cs,e1,e2,hr⟩,hk,hx⟩=>by
  refine⟨hσ,?_⟩;obtain⟨v,h1,h2⟩:=ab.ab.sh i _ e1;rw[RD] at h2;subst h2;obtain⟨⟨C',dx,h3,h4⟩,_⟩:=ab.st.at_ p _ e2;rw[hC] at h4
  cases h4
  refine⟨_,h1,p,dx,_,rfl,h3,z4c hn,?_⟩;refine⟨H0,G0,G,ρ,W,A,_,X0,ab,hr,λds vs W1 A1 G1 H1 q ab1 g1 rds =>?_,hx⟩;show spR X.K X.mg F ((.ref p::vs)++[]) H1 Q E;rw[wW];exact z8J ab1 (RDs.cons (by rw[RD]) rds) q (λd v W' A' G' H' q' ab' g' rd=>hk d v W' A' G' H' q' ab' (z06 g1 g') rd) hx
def AbR.anew {K:W.Frag}{mg:Str->Option Value}{H0 G0 G H:Hp}{ρ:Pu.Env}{σ:L2.St}{W:Wd}{A:Addr->List Addr}(ab:AbR K mg H0 G0 G ρ σ H W A)(no:∀(i:Nat) (d:D),ρ[i]? ≠ some (B.o d)):AbR K mg (minus H (Foot W A)) G G ρ σ H W A:=
 ⟨⟨ab.ab.len,z1i,Same.refl',ab.ab.g,λa o e =>.inl ⟨o,e⟩,ab.ab.sh,λi d e=>(no i d e).elim,ab.ab.ne⟩,ab.st,λa ha=>⟨z20 ha,(ab.no a ha).2⟩⟩
def AbR.then' {K:W.Frag}{mg:Str->Option Value}{H0 G0 G G' H H':Hp}{ρ ρ':Pu.Env}{σ σ':L2.St}{W W':Wd}{A A':Addr->List Addr}(ab:AbR K mg H0 G0 G ρ σ H W A)(ab':AbR K mg (minus H (Foot W A)) G G' ρ' σ' H' W' A'):AbR K mg H0 G0 G' ρ' σ' H' W' A':=by
 have g:=ab.xs ⟨ab'.ab.g0,ab'.ab.nw⟩;have low:Same H0 (minus H (Foot W A)):=λa o e=>by rw[z2l (λz=>by rw[(ab.no a z).1] at e; cases e)]; exact ab.ab.s0 a o e
 have ab2:=ab'.ab.weak low;exact⟨⟨ab2.len,ab2.s0,g.1,ab2.g,g.2,ab2.sh,ab2.ow,ab2.ne⟩,ab'.st,λa ha=>⟨ab.zs (λb hb=>(ab'.no b hb).1) a ha,(ab'.no a ha).2⟩⟩
theorem AbR.del {K:W.Frag}{mg:Str->Option Value}{H0 G0 G H:Hp}{ρ:Pu.Env}{σ:L2.St}{W:Wd}{A:Addr->List Addr}(ab:AbR K mg H0 G0 G ρ σ H W A)(i:Nat):AbR K mg H0 G0 G (ρ.set i .n) (σ.set i none) H W A:=by
 refine⟨ab.ab.del i,ab.st,λa ha=>⟨(ab.no a ha).1,λ⟨j,d,e,s⟩ =>?_⟩⟩
 by_cases hj:j=i
 ·subst hj;have hl:j < ρ.length:=by
   have:=(wb.mp e).1;simpa using this
  rw[wk hl] at e; cases e
 ·rw[we (wU hj)] at e s;exact(ab.no a ha).2 ⟨j,d,e,s⟩
def zgr {ys:List Str}(hst:X.stack=X.env::X.outer/\X.env.frame=some X.env.locals)(hN:X.N.Nodup)(hi:X.N[j]? = some n)(hk':X.env.scope.names.lookup n=some .local)(T:Exc X.K X.mg cx C2)(hgc:Gl X cx)(hdc:(cx == ("__debug__":Str))=false)(hm:XT X.mg ys λ_ C=>PySem.W.exmOne X.K (.ref C) (.ref C2)=some true)
  (hb:∀pins xe σ E',z3h (CXe X.prog X.w) (X.within pins xe) σ E'->QRsA (X.within pins xe) σ E' body t) (hs:∀ea,QRs (X.suite ea) E (b0::suite) s):QR X E (.Try body [.ExceptHandler (some (.Name cx p5)) (some n) (b0::suite) p6] [] [] pos) (.tryr t ys j s):=
 QS.imp (zeH (tb:=λD σ0 D' σ H=>σ=σ0/\tsr X.K X.mg (EH X C2 j (tsr X.K X.mg E s) D σ0) t D' σ H) hst hN hi hk' T hgc hdc hs λpins xe D σ pa=>hb pins xe σ _ pa) λD σ H ⟨H0,G0,G,ρ,W,A,N0,R0,X0,ab,⟨no,hr⟩,hn,hR,hx⟩=>by
  refine⟨rfl,minus H (Foot W A),G,G,ρ,W,A,N0,R0,_,ab.anew no,hr,λρ' W' A' σ' H' G' q ab' g=>hn ρ' W' A' σ' H' G' q (ab.then' ab') g,λd v G' H' W' A' q g g2 s st n rd=>hR d v G' H' W' A' q (ab.xs g) g2 (ab.ys s) st (ab.zs n) rd,λx C H' W' A' G' q mC g g2 s1 st n =>?_⟩;refine⟨hm x C q.1 mC,C,rfl,λea H3 h0 h3 e3 =>?_⟩;have ab1:=ab.after g g2 s1 st n;have k1:Gr G' H' (upd G' ea (.ext (z3v ea C))):=Gr.new g2 h0;have k2:Same (upd G' ea (.ext (z3v ea C))) H3:=λa o z=>by
   by_cases ha:a=ea
   ·subst ha; rw[z09] at z; rw[e3]; exact z
   ·rw[z04 ha] at z; exact h3 a o (g2 a o z)
  have ab2:=(ab1.grow k1 k2 h3).put (i:=j) (d :=.exc x) (v :=.ref ea) (by rw[RD]; exact⟨ea,C,rfl,z09,mC⟩);exact⟨H0,G0,_,_,W',A',_,R0,X0,ab2,q.2,λρ' W2 A2 σ' H2 G2 y ab' l'=>hn _ W2 A2 _ H2 G2 y (ab'.del j) (z06 g.1 (z06 k1.1 l')),hR,hx⟩
end
end Pu
namespace L2
open PySem PySem.Spec PyProof.Rows
section
variable {X:Cx}{pins:List (Addr × Obj)}{σ:St}{H:Hp}{s:Shared}{a:Addr}{u u':HO}
def Inv.swap (I:Inv X pins σ H s)(ha:H a=some u)(n1:∀xs,u ≠ .tup xs)(n2:∀c,u ≠ .own c)(n3:∀ps,u ≠ .tbl ps)(n4:∀o c,u ≠ .frz o (.own c))(nf:∀o v,X.H₀ a≠some (.frz o v))(ok:z1l X.prog X.w (upd H a u') s.heap a u'):Inv X pins σ (upd H a u') s:=by
 have ne:∀{b},H b=none->b≠a:=λ{b} e z=>by rw[z,ha] at e; cases e
 have ne':∀{b v},H b=some v->v≠u->b≠a:=λ{b v} e n z=>by rw[z,ha] at e; cases e; exact n rfl
 refine⟨I.ok,I.os,I.bare,⟨I.base.keep,I.base.slot,λb o e n hx =>?_,I.base.there,λb xs e =>?_,λb o v e =>?_,λb ps e =>?_⟩,I.loc,I.cell,?_,λx c e =>?_,λp hp =>?_,λb v e =>?_,I.len⟩
 ·have:=I.base.free b o e n hx;rw[z04 (ne this)]; exact this
 ·have:=I.base.tups b xs e;rw[z04 (ne' this λz=>n1 xs z.symm)]; exact this
 ·have:=I.base.frzs b o v e;rw[z04 (λz=>by subst z; exact nf o v e)]; exact this
 ·obtain⟨m,q⟩:=I.base.tbls b ps e;exact⟨m,by rw[z04 (ne' q λz=>n3 _ z.symm)]; exact q⟩
 ·rw[z04 (ne I.free)]; exact I.free
 ·rw[z04 (ne (I.freeC x c e))]; exact I.freeC x c e
 ·obtain⟨h1,h2,h3⟩:=I.pin p hp;exact⟨h1,by rw[z04 (ne h2)]; exact h2,h3⟩
 ·by_cases hb:b=a
  ·subst hb;rw[z09] at e
   cases e
   exact ok
  ·rw[z04 hb] at e;exact(I.hok b v e).stay (λ_ _ _ q=>q) (λc q=>by rw[z04 (ne' q λz=>n2 _ z.symm)]; exact q) (λc xs q=>by rw[z04 (ne' q λz=>n1 _ z.symm)]; exact q) λc o d q=>by rw[z04 (ne' q λz=>n4 _ _ z.symm)]; exact q
def zgL {c:Expr}{t:TT}(h:PT X c t):PT X c (λσ H Q=>∃a kw,H a=some (.dK kw)/\∀o,t σ (upd H a (.frz o (.dK kw))) (λb H1=>H1 a=some (.frz o (.dK kw))/\Q b (upd H1 a (.dK kw)))):=by
 intro pins s σ H Q I ⟨a,kw,ha,h2⟩;obtain⟨z1,z2,vs,z3,o,es,ep,z4,z5⟩:=(show z1l X.prog X.w H s.heap a (.dK kw) from I.hok a _ ha)
 have nf:∀o v,X.H₀ a≠some (.frz o v):=λo v e=>by
  have:=I.base.frzs a o v e;rw[ha] at this; cases this
 have If:Inv X pins σ (upd H a (.frz o (.dK kw))) s:=I.swap ha (λ_ z=>by cases z) (λ_ z=>by cases z) (λ_ z=>by cases z) (λ_ _ z=>by cases z) nf ⟨z4,z1,z2,vs,z3,o,es,ep,z4,z5⟩;refine thn (h pins s σ _ _ If (h2 o)) λb s1 q =>?_;obtain⟨H1,I1,e1,q1⟩:=q;obtain⟨y0,y1,y2,vs',y3,o',es',ep',y4,y5⟩:=(show z1l X.prog X.w H1 s1.heap a (.frz o (.dK kw)) from I1.hok a _ e1)
 exact⟨upd H1 a (.dK kw),I1.swap e1 (λ_ z=>by cases z) (λ_ z=>by cases z) (λ_ z=>by cases z) (λ_ _ z=>by cases z) nf ⟨y1,y2,vs',y3,o',es',ep',y4,y5⟩,q1⟩
end
end L2
namespace Pu
open PySem PySem.Spec PyProof.Rows L2
def SmR.ifz (j:Nat)(z:Ex)(a b:SmR):SmR:=⟨λρ W N Q X=>∃kvs,ρ[j]? = some (.o (dk kvs))/\z.run ((shw W ρ).set j (.s (fk kvs))) (λd=>tst d (a.run ρ W N Q X) (b.run ρ W N Q X)) (λ_=>False),λρ W N N' Q Q' X X' mn m mx ⟨kvs,e,q⟩=>⟨kvs,e,z.mono _ _ _ _ _ (λd q1=>z2s (a.mono ρ W N N' Q Q' X X' mn m mx) (b.mono ρ W N N' Q Q' X X' mn m mx) q1) (λ_ z=>z) q⟩⟩
section
variable {K:W.Frag}{mg:Str->Option Value}{H0 G0 G H:Hp}{ρ:Pu.Env}{σ:L2.St}{W:Wd}{A:Addr->List Addr}{j:Nat}{kvs:List (Key × D)}{kw:List (Key × V)}{a:Addr}{o:Obj}
def AbR.abeF (h:AbR K mg H0 G0 G ρ σ H W A)(e:ρ[j]? = some (.o (dk kvs)))(sj:σ[j]? = some (some (.ref a)))(p:PK K mg G kvs kw):AbE K mg (plus G (upd H a (.frz o (.dK kw))) (Hid ρ σ W A)) ((shw W ρ).set j (.s (fk kvs))) σ:=λi d ei=>by
 have lp:Same G (plus G (upd H a (.frz o (.dK kw))) (Hid ρ σ W A)):=z2a λa z=>(h.hid z).1;have oa:z13 ρ σ a:=⟨j,_,e,sj⟩
 have pl:∀{b},Hid ρ σ W A b->b≠a->plus G (upd H a (.frz o (.dK kw))) (Hid ρ σ W A) b=H b:=λ{b} hb n=>by rw[z3C hb,z04 n]
 rw[Env.get_eq] at ei
 by_cases hi:i=j
 ·subst hi;have hl:i<(shw W ρ).length:=by
   unfold shw;rw[wA];exact(wb.mp e).1
  rw[wk hl] at ei
  cases ei
  refine⟨.ref a,sj,?_⟩;unfold fk;rw[RD];refine⟨a,_,rfl,(p.same lp).rds,o,kw,by rw[z3C (.inl oa),z09],?_,rfl⟩;have:kvs.map (λp=>kD p.1)=(kvs.map (·.1)).map kD:=by rw[vf]; rfl
  rw[this,p.keys,vf]
  rfl
 ·rw[we (wU hi)] at ei;unfold shw at ei;rw[wI] at ei
  cases q:ρ[i]? with
  | none=>rw[q] at ei; cases ei
  | some b=>
   rw[q] at ei;have old:∀d',b = .s d'->∃v,σ[i]? = some (some v)/\RD K mg (plus G (upd H a (.frz o (.dK kw))) (Hid ρ σ W A)) d' v:=λd' z=>by
    subst z;obtain⟨v,h1,h2⟩:=h.ab.sh i d' q;exact⟨v,h1,h2.same lp⟩
   cases b with
   | n=>cases ei
   | o d'=>
    cases ei
    obtain⟨b,h1,h2,h3,h4⟩:=h.ab.ow i d q;have nb:b≠a:=λz=>by subst z; exact h.ab.ne i j _ _ b hi q e h1 sj
    exact⟨.ref b,h1,h4.rd lp (pl (.inl ⟨i,d,q,h1⟩) nb)⟩
   | s d'=>
    cases d' with
    | ptr r=>
     have e':(match W r with | some c=>B.s c | none =>.s (.ptr r)).get=some d:=ei
     cases z:W r with
     | none=>rw[z] at e'; cases e'; exact old _ rfl
     | some c=>
      rw[z] at e'
      cases e'
      obtain⟨v,h1,h2⟩:=h.ab.sh i _ q;rw[RD] at h2;subst h2;refine⟨_,h1,(h.st.at_ r _ z).rd lp λb hb=>pl (.inr ⟨r,_,z,hb⟩) λy =>?_⟩;subst y;exact(h.no b ⟨r,_,z,hb⟩).2 oa
    | _=>cases ei; exact old _ rfl
def AbR.backF {G1 H1:Hp}(h:AbR K mg H0 G0 G ρ σ H W A)(e:ρ[j]? = some (.o (dk kvs)))(sj:σ[j]? = some (some (.ref a)))(ha:H a=some (.dK kw))(g1:Gr (plus G (upd H a (.frz o (.dK kw))) (Hid ρ σ W A)) (upd H a (.frz o (.dK kw))) G1)(g2:Same G1 H1)(g3:Same (upd H a (.frz o (.dK kw))) H1):
  ∃G',AbR K mg H0 G0 G' ρ σ (upd H1 a (.dK kw)) W A/\Same G G':=by
 have oa:Hid ρ σ W A a :=.inl ⟨j,_,e,sj⟩;have pe:∀{b},b≠a->plus G (upd H a (.frz o (.dK kw))) (Hid ρ σ W A) b=plus G H (Hid ρ σ W A) b:=λ{b} n=>by unfold plus; rw[z04 n]
 have g3':Same H (upd H1 a (.dK kw)):=λb u eb=>by
  by_cases hb:b=a
  ·subst hb; rw[ha] at eb; rw[z09]; exact eb
  ·rw[z04 hb]; exact g3 b u (by rw[z04 hb]; exact eb)
 have k1:Gr (plus G H (Hid ρ σ W A)) H (upd G1 a (.dK kw)):=by
  refine⟨λb u eb =>?_,λb u eb =>?_⟩
  ·by_cases hb:b=a
   ·subst hb; rw[z3C oa,ha] at eb; rw[z09]; exact eb
   ·rw[z04 hb]; exact g1.1 b u (by rw[pe hb]; exact eb)
  ·by_cases hb:b=a
   ·subst hb; exact .inl ⟨.dK kw,by rw[z3C oa]; exact ha⟩
   ·rw[z04 hb] at eb
    rcases g1.2 b u eb with ⟨v,q⟩ | q
    ·rw[pe hb] at q; exact .inl ⟨v,q⟩
    ·rw[z04 hb] at q; exact .inr q
 have k2:Same (upd G1 a (.dK kw)) (upd H1 a (.dK kw)):=λb u eb=>by
  by_cases hb:b=a
  ·subst hb; rw[z09] at eb ⊢; exact eb
  ·rw[z04 hb] at eb ⊢; exact g2 b u eb
 obtain⟨ab',lm⟩:=h.back k1 k2 g3';exact⟨_,ab',lm⟩
end
section
variable {X:Cx}{E:XK}{la lb:List Stmt}{t u:SmR}{c:Expr}{pos:Pos}{j:Nat}
def zgt {w:Ex}(hc:QXT X E c w)(ha:QRs X E la t)(hb:QRs X E lb u):QR X E (.If c la lb pos) (.ifz j w t u):=QS.imp (zaZ (⟨zgL hc.p⟩:QT X c _) ha hb) λD σ H ⟨H0,G0,G,ρ,W,A,N0,R0,X0,ab,⟨kvs,e,hr⟩,hn,hR,hx⟩=>by
 obtain⟨a,sj,ga,h0,hw⟩:=ab.ab.ow j _ e;obtain⟨kw,hk,pk⟩:=zbk hw;refine⟨a,kw,hk,λo =>?_⟩;have gs:Same G (upd H a (.frz o (.dK kw))):=λb v eb=>by rw[z04 (λz=>by rw[z,ga] at eb; cases eb)]; exact ab.ab.g b v eb
 refine⟨_,_,_,λ_=>False,z1Z gs,ab.abeF e sj pk,hr,λd G1 H1 q g1 g2 g3 =>?_,Kx.no⟩
 ·obtain⟨b,rfl,q1,q2⟩:=z4e q;obtain⟨G',ab',lm⟩:=ab.backF e sj hk g1 g2 g3;refine⟨b,rfl,g3 _ _ z09,?_⟩
  cases b with
  | true=>exact iteT ⟨H0,G0,G',ρ,W,A,N0,R0,X0,ab',q1 rfl,hn.same lm,hR,hx⟩
  | false=>exact iteF ⟨H0,G0,G',ρ,W,A,N0,R0,X0,ab',q2 rfl,hn.same lm,hR,hx⟩
end
def ownD (ρ:Env)(i:Nat)(P:List (Key × D)->Prop):Prop:=∃kvs,ρ[i]? = some (.o (dk kvs))/\P kvs
def Sm.dput (i:Nat)(k e:Ex):Sm:=⟨λρ N _ X=>ownD ρ i λkvs=>e.run ρ (λd=>Safe d ρ/\k.run ρ (λb=>∃j,b=kD j/\kvs.length<sizeLine/\N (ρ.set i (.o (dk (putD kvs j d))))) X) X,λρ N N' Q Q' X X' mn m mx ⟨kvs,h,q⟩=>⟨kvs,h,e.mono ρ _ _ X X' (λd q=>⟨q.1,k.mono ρ _ _ X X' (λb ⟨j,h1,h2,q⟩=>⟨j,h1,h2,mn _ q⟩) mx q.2⟩) mx q⟩⟩
def zea (a b:D)(Q:DK):Prop:=∃j,a=kD j/\Q (dk [(j,b)])
def zdW:Fn:=fn2 zea λa b Q Q' m ⟨j,h,q⟩=>⟨j,h,m _ q⟩
section
variable {X:Cx}{E:XK}{e o y k v tg:Expr}{x z:Ex}{pos spos p1:Pos}{i:Nat}
def zeD (hu:X.A.units+1<cLine)(ho:QE X o (tVar i))(hy:QX X E y z)(he:QX X E e x)(hs:swapsWith e (some (.Subscript o y spos)) pos.line X.env=pure false:=by rfl):QZ X E (.Assign [.Subscript o y spos] e pos) (.dput i z x):=
 QS.imp ⟨zb7 hu ho.p hy.p he.p hs⟩ λDe σ H ⟨H0,G0,G,ρ,N0,R0,X0,ab,⟨kvs,hi,hr⟩,hn,hR,hx⟩=>by
  refine zcl ab hr hx λd w G1 H1 q g1 g2 g3 rd =>?_;obtain⟨ab1,lm1⟩:=ab.back g1 g2 g3;have rd1:=z6l ab g2 g3 q.1 rd;obtain⟨a,s1,ga,h0,hw⟩:=ab1.ow i _ hi;refine⟨.ref a,s1,?_⟩;refine zcl ab1 q.2 hx λb u G2 H2 q2 k1 k2 k3 rb =>?_;obtain⟨ab2,lm2⟩:=ab1.back k1 k2 k3;obtain⟨j,rfl,hz,hN⟩:=q2;rw[zaO rb];obtain⟨kw,w1,w2⟩:=zbk hw;refine⟨a,_,rfl,DPut.k (k3 _ _ w1) (by rw[<- w2.len]; exact hz),?_⟩;refine hn _ σ _ _ hN (ab2.wr (o :=.dK (putK kw j w)) ab2.nw Same.refl' ab2.g Same.refl' (λj' d' a' e' s'=>ab2.free a' ⟨j',d',e',s'⟩) hi s1 (zbW z09 ((w2.same lm2).put (rd1.same lm2)))) (z06 lm1 lm2)
def zcI (hk:QX X E k x)(hv:QX X E v z):QF X E (.Dict [some k] [v] pos) (.op zdW [x,z]):=
 QE.imp ⟨zf6 (zcR hk.p hv.p zf0) rfl rfl (by intro h; cases h) (by show 1<=15; decide)⟩ λσ H Q ⟨G,ρ,Q0,X0,hs,ab,hr,hkf,hx⟩=>by
  intro p hp;have gp:=z0x hs hp;have s1:Same H (upd H p (.dK [])):=z1g hp _;have hr':x.run ρ (λd=>z.run ρ (λd'=>zea d d' Q0) X0) X0:=hr;refine⟨G,ρ,_,X0,z06 hs s1,ab,hr',λd w G1 H1 q g1 g2 g3 rd =>?_,hx.same s1⟩;refine⟨G1,ρ,_,X0,g2,ab.same g1.1,q,λd' w' G2 H2 q2 k1 k2 k3 rd' =>?_,hx.same (z06 s1 g3)⟩;obtain⟨j,rfl,q3⟩:=q2;have hp2:H2 p=some (.dK []):=k3 _ _ (g3 _ _ z09);refine⟨hp2,[(j,w')],by rw[zaO rd]; rfl,by show 1<=15; decide,?_⟩;have g12:Gr G (upd H p (.dK [])) G2:=g1.trans g3 k1;have np:G2 p=none:=by
   cases e:G2 p with
   | none=>rfl
   | some o=>
    rcases g12.2 p o e with ⟨u,q⟩ | q
    ·rw[gp] at q; cases q
    ·rw[z09] at q; cases q
  refine hkf (dk [(j,d')]) p G2 _ q3 ⟨g12.1,λa o e =>?_⟩ (λa o e =>?_) (λa o e =>?_) hp np (zbW (kw:=[(j,w')]) (by rw[z09]; rfl) ⟨rfl,rd',trivial⟩)
  ·rcases g12.2 a o e with z | z
   ·exact .inl z
   ·exact .inr (z0x s1 z)
  ·rw[z04 (λz=>by rw[z,np] at e; cases e)]; exact k2 a o e
  ·rw[z04 (λz=>by rw[z,hp] at e; cases e)]; exact k3 a o (g3 a o (s1 a o e))
end
def gFld (n f:Str)(d:D)(Q:DK):Prop:=∃(fs:List Str) (cs:List D) (k:Nat) (c:D),d = .ins n fs cs/\fs.Nodup/\fs[k]? = some f/\cs[k]? = some c/\Q c
def pFld (n f:Str):Fn:=fn1 (gFld n f) λd Q Q' m ⟨fs,cs,k,c,h1,h2,h3,h4,q⟩=>⟨fs,cs,k,c,h1,h2,h3,h4,m _ q⟩
def Ex.meth (n:Str)(fs:List Str)(F:Fn)(x:Ex)(es:List Ex):Ex:=⟨λρ Q X=>x.run ρ (λd=>∃cs,d = .ins n fs cs/\runs es ρ (λds=>F.run (d::ds) Q X) X) X,λρ Q Q' X X' m mx q=>x.mono ρ _ _ X X' (λd ⟨cs,h,q⟩=>⟨cs,h,z32 es ρ _ _ X X' (λds q=>F.mono _ Q Q' X X' m mx q) mx q⟩) mx q⟩
section
variable {X:Cx}{E:XK}{e o:Expr}{es:List Expr}{x:Ex}{xs:List Ex}{pos apos:Pos}{n f m:Str}{C fa:Addr}{fs ps:List Str}{CX:CXT}{k:Nat}{fd:FuncData}{F:Fn}{pl:Sem Bool}
def z5s (R:Rc X.K X.mg n C)(na:z2K X.K C f)(he:QX X E e x)(hb:attributeBase e f X.env (eval e X.env)=eval e X.env:=by rfl):QX X E (.Attribute e f pos) (.op (pFld n f) [x]):=QE.imp (z92 he hb) λσ H Q ⟨G,ρ,Q0,X0,hs,ab,hr,hk,hx⟩=>by
 refine⟨G,ρ,λd=>gFld n f d Q0,X0,hs,ab,hr,λd v G1 H1 q g1 g2 g3 rd =>?_,hx⟩;obtain⟨fs,cs,k,c,rfl,h2,h3,h4,q⟩:=q;rw[RD] at rd;obtain⟨p,C',dx,xs,rfl,r1,r2,r3⟩:=rd;rw[R.m] at r2
 cases r2
 obtain⟨w,e1,e2⟩:=r3.get h4;exact⟨p,C,dx,_,w,rfl,g2 _ _ r1,R.c,na,z83 h2 h3 e1,hk c w G1 H1 q g1 g2 g3 e2⟩
def zeE (R:Rc X.K X.mg n C)(hm:Meth X.K C m fa)(hn:m ∉ fs)(ho:QX X E o x)(Fk:FnOk X.prog X.w X.K X.mg X.base CX k fa fd ps (spP X.K X.mg F))(hr:Room k X.A)(hb:z3i X.K fd ps [])(hx:z1D CX X E)(ha:QXA X E (e::es) xs)
  (hst:starEach (e::es) X.env=(false,eval e X.env)::starEach es X.env:=by rfl) (hpl:(backTo pos (starEach es X.env)).any (·.1)=false:=by rfl)
  (ht:eval (.Call (.Attribute o m apos) (e::es) [] pos) X.env=(do
   let ov <- eval o X.env
   standAt apos.atName
   let (f,first) <- holding [ov] (getMethod ov m pl)
   callWith pos f first (backTo pos (starEach (e::es) X.env)) (backToKw pos (keywordEach [] X.env))):=by rfl):QX X E (.Call (.Attribute o m apos) (e::es) [] pos) (.meth n fs F x xs):=
 QE.imp ⟨zbd (pl:=pl) ho.p R.c hm Fk hr hb .nil hx ha.p hst hpl ht⟩ λσ H Q ⟨G,ρ,Q0,X0,hs,ab,hr,hk,hx⟩=>by
  refine⟨G,ρ,_,X0,hs,ab,hr,λd v G1 H1 q g1 g2 g3 rd =>?_,hx⟩;obtain⟨cs,rfl,q⟩:=q;have rd0:=rd;rw[RD] at rd;obtain⟨p,C',dx,ys,rfl,r1,r2,r3⟩:=rd;rw[R.m] at r2
  cases r2
  refine⟨p,dx,_,rfl,g2 _ _ r1,z4c hn,?_⟩;refine⟨G1,ρ,_,X0,g2,ab.same g1.1,q,λds vs G2 H2 q2 k1 k2 k3 rds =>?_,hx.same g3⟩;show spP X.K X.mg F ((.ref p::vs)++[]) H2 Q E;rw[wW];exact⟨G2,_,Q0,X0,k2,RDs.cons (rd0.same k1.1) rds,q2,hk.same (g1.trans g3 k1) (z06 g3 k3),hx.same (z06 g3 k3)⟩
def zcD (R:Rc X.K X.mg n C)(hm:Meth X.K C m fa)(hn:m ∉ fs)(ho:QX X E o x)(Fk:FnOk X.prog X.w X.K X.mg X.base CX k fa fd ps (spP X.K X.mg F))(hr:Room k X.A)(hb:z3i X.K fd ps [])(hx:z1D CX X E)
  (ht:eval (.Call (.Attribute o m apos) [] [] pos) X.env=(do
   let ov <- eval o X.env
   standAt apos.atName
   let (f,first) <- holding [ov] (getMethod ov m pl)
   callWith pos f first (backTo pos (starEach [] X.env)) (backToKw pos (keywordEach [] X.env))):=by rfl):QX X E (.Call (.Attribute o m apos) [] [] pos) (.meth n fs F x []):=
 QE.imp ⟨zcW (pl:=pl) ho.p R.c hm Fk hr hb .nil hx ht⟩ λσ H Q ⟨G,ρ,Q0,X0,hs,ab,hr,hk,hx⟩=>by
  refine⟨G,ρ,_,X0,hs,ab,hr,λd v G1 H1 q g1 g2 g3 rd =>?_,hx⟩;obtain⟨cs,rfl,q⟩:=q;have rd0:=rd;rw[RD] at rd;obtain⟨p,C',dx,ys,rfl,r1,r2,r3⟩:=rd;rw[R.m] at r2
  cases r2
  refine⟨p,dx,_,rfl,g2 _ _ r1,z4c hn,?_⟩;exact⟨G1,_,Q0,X0,g2,RDs.cons rd0 RDs.nil,q,hk.same g1 g3,hx.same g3⟩
end
def isBv (m:Bool)(v:Value):Bool:=match v with
 | .bool k=>k == m
 | _=>false
theorem z86:∀{bs:List Bool}{us:List Value},Vals (bs.map V.bl) us->us=bs.map Value.bool
 | [],_,h=>by cases h; rfl
 | b::bs,_,h=>by
  rw[wz] at h
  cases h with
  | cons h1 h2=>
   rw[z86 h2,wz,show _=Value.bool b from h1]
section
variable {X:Cx}
def zeA (K:W.Frag):V->List V->Hp->VK->Prop:=λx xs H Q=>∃(a:Addr) (bs:List Bool) (m:Bool),x = .ref a/\xs=[.bl m]/\SqL K H a (bs.map V.bl)/\Q (.int (bs.countP (· == m))) H
def zez (K:W.Frag):V->List V->Hp->VK->Prop:=λx xs H Q=>∃(a:Addr) (bs:List Bool) (m:Bool) (i:Nat),x = .ref a/\xs=[.bl m]/\SqL K H a (bs.map V.bl)/\bs[i]? = some m/\(∀j,j<i->bs[j]? ≠ some m)/\i<1000/\Q (.int (i:Int)) H
def eqb {A:Around}{s:Shared}{m:Bool}{bs:List Bool}:∀(y:Value),y∈(bs.map Value.bool).toArray->SeqAt.EqAt A s y (.bool m) (isBv m y):=λy hy=>by
 obtain⟨b,_,rfl⟩:∃b∈bs,Value.bool b=y:=by simpa using hy
 exact SeqAt.EqAt.bool_bool b m
def z68:MtR X "list.count" (zeA X.K):=by
 intro pins s σ H x xs v us Q I rx rs ⟨a,bs,m,e1,e2,hL,q⟩;subst e1;subst e2
 cases rx
 obtain⟨u,rfl,tu⟩:=rs.one
 cases (show u=Value.bool m from tu)
 obtain⟨its,rr,pl,_⟩:=I.list hL;obtain rfl:=z86 rr;obtain⟨⟨cls,dd,data,sl⟩,ho,hc,n,hda⟩:=id pl.isList;simp only at hc hda;subst hc hda;refine call_meets PySem.F.slot_list_count ⟨_,ho,rfl⟩ PySem.F.entry_list_count (PySem.F.args_list_count_2 _ _) (SeqAt.list_countAt a (bs.map Value.bool).toArray n dd sl (.bool m) (isBv m)) ⟨ho,eqb,?_⟩;refine⟨.int (bs.countP (· == m)),H,I.tok _,⟨s.toks,?_⟩,q⟩;have:List.countP (isBv m) (bs.map Value.bool).toArray.toList=bs.countP (· == m):=by
  show List.countP (isBv m) (bs.map Value.bool)=_;rw[List.countP_map]
  rfl
 rw[this]
def z67:MtR X "list.index" (zez X.K):=by
 intro pins s σ H x xs v us Q I rx rs ⟨a,bs,m,i,e1,e2,hL,hi,hno,hz,q⟩;subst e1;subst e2
 cases rx
 obtain⟨u,rfl,tu⟩:=rs.one
 cases (show u=Value.bool m from tu)
 obtain⟨its,rr,pl,_⟩:=I.list hL;obtain rfl:=z86 rr;obtain⟨⟨cls,dd,data,sl⟩,ho,hc,n,hda⟩:=id pl.isList;simp only at hc hda;subst hc hda;have il:i<bs.length:=(wb.mp hi).1;have val:∀(j:Nat) (hj:j<(bs.map Value.bool).toArray.size) (k:Bool),bs[j]? = some k->isBv m (bs.map Value.bool).toArray[j]=(k == m):=λj hj k hk=>by
  have hj':j<bs.length:=by simpa using hj
  rw[wq hj'] at hk
  cases hk
  simp[isBv]
 have hj:i<(bs.map Value.bool).toArray.size:=by simpa using il
 refine call_meets PySem.F.slot_list_index ⟨_,ho,rfl⟩ PySem.F.entry_list_index (PySem.F.args_list_index_2 _ _) (SeqAt.list_indexAt a (bs.map Value.bool).toArray n dd sl (.bool m) (isBv m) i hj (by omega) ((val i hj m hi).trans (by simp)) λj hj' hji =>?_) ⟨ho,eqb,?_⟩
 ·have jl:j<bs.length:=by omega
  rw[val j hj' _ (wq jl)];have:=hno j hji;rw[wq jl] at this
  cases z:bs[j] == m with
  | false=>rfl
  | true=>exact(this (by rw[eq_of_beq z])).elim
 ·exact⟨.int i,H,I.tok _,⟨_,rfl⟩,q⟩
end
def Ex.lm (F:Fn)(x y:Ex):Ex:=⟨λρ Q X=>x.run ρ (λd=>isLs d λl=>y.run ρ (λe=>F.run [.lst l,e] Q X) X) X,λρ Q Q' X X' m mx q=>x.mono ρ _ _ X X' (λd q=>zbC (λl q=>y.mono ρ _ _ X X' (λe q=>F.mono _ Q Q' X X' m mx q) mx q) q) mx q⟩
def zbO (a b:D)(Q:DK):Prop:=∃(bs:List Bool) (m:Bool),a = .lst (bs.map .bl)/\b = .bl m/\Q (.int (bs.countP (· == m)))
def zbj:Fn:=fn2 zbO λa b Q Q' m ⟨bs,k,h1,h2,q⟩=>⟨bs,k,h1,h2,m _ q⟩
def zbL (a b:D)(Q:DK):Prop:=∃(bs:List Bool) (m:Bool) (i:Nat),a = .lst (bs.map .bl)/\b = .bl m/\bs[i]? = some m/\(∀j,j<i->bs[j]? ≠ some m)/\i<1000/\Q (.int (i:Int))
def zbi:Fn:=fn2 zbL λa b Q Q' m ⟨bs,k,i,h1,h2,h3,h4,h5,q⟩=>⟨bs,k,i,h1,h2,h3,h4,h5,m _ q⟩
def Ex.chain (F F':Fn)(a b c:Ex):Ex:=⟨λρ Q X=>a.run ρ (λx=>b.run ρ (λy=>F.run [x,y] (λd=>tst d (c.run ρ (λz=>F'.run [y,z] Q X) X) (Q (.bl false))) X) X) X,λρ Q Q' X X' m mx q=>a.mono ρ _ _ X X' (λx q=>b.mono ρ _ _ X X' (λy q=>F.mono _ _ _ X X' (λd q=>z2s (λq=>c.mono ρ _ _ X X' (λz q=>F'.mono _ Q Q' X X' m mx q) mx q) (m _) q) mx q) mx q) mx q⟩
section
variable {X:Cx}{E:XK}{a b c o e:Expr}{x y z:Ex}{pos apos cpos:Pos}
theorem zaN {K:W.Frag}{mg:Str->Option Value}{G:Hp}:∀{bs:List Bool}{vs:List V},RDs K mg G (bs.map D.bl) vs->vs=bs.map V.bl
 | [],_,h=>by rw[vJ,RDs] at h; exact h
 | _::bs,_,h=>by
  rw[wz,RDs] at h;obtain⟨v,r,rfl,h1,h2⟩:=h;rw[RD] at h1;rw[h1,zaN h2]
  rfl
def zaT (ho:QX X E o x)(ha:QXA X E [e] [y])(hbase:attributeBase o "count" X.env (eval o X.env)=eval o X.env:=by rfl)
  (hfew:((backTo cpos (starEach [e] X.env)).all (λx => !x.1) && (backToKw cpos (keywordEach [] X.env)).all (λx=>x.1.isSome)
   && decide ([e].length+([]:List Keyword).length+(if ([]:List Keyword).isEmpty then 0 else 1)<30))=true:=by rfl)
  (hline:(apos.endLine == cpos.line)=true:=by rfl) (hs:starEach [e] X.env=(false,eval e X.env)::starEach [] X.env:=by rfl) (hplain:(backTo cpos (starEach [] X.env)).any (·.1)=false:=by rfl):
  QX X E (.Call (.Attribute o "count" apos) [e] [] cpos) (.lm zbj x y):=
 QE.imp (zcM vx PySem.F.slot_list_count PySem.F.type_list_count z68 ho ha hbase hfew hline hs hplain) λσ H Q ⟨G,ρ,Q0,X0,hs,ab,hr,hk,hx⟩=>by
  refine⟨G,ρ,_,X0,hs,ab,hr,λd v G1 H1 q g1 g2 g3 rd =>?_,hx⟩
  cases d with
  | lst l=>
   obtain⟨p,xs,rfl,h1,h2⟩:=z2B rd;refine⟨.inl ⟨rfl,xs,z1U g2 h1⟩,?_⟩;have q':runs [y] ρ (λds=>∃w,ds=[w]/\zbO (.lst l) w Q0) X0:=y.mono ρ _ _ X0 X0 (λw q=>⟨w,rfl,q⟩) (λ_ z=>z) q;refine⟨G1,ρ,_,X0,g2,ab.same g1.1,q',λds vs G2 H2 q2 k1 k2 k3 rds =>?_,hx.same g3⟩;obtain⟨w,rfl,bs,m,e1,rfl,q3⟩:=q2;obtain⟨u,rfl,ru⟩:=rds1 rds;rw[RD] at ru
   injection e1 with e1
   subst e1;rw[zaN h2] at h1;exact⟨p,bs,m,rfl,by rw[ru],z1U k3 (z1U g2 h1),hk (.int _) _ G2 H2 q3 (g1.trans g3 k1) k2 (z06 g3 k3) (by rw[RD])⟩
  | _=>exact q.elim
def zaS (ho:QX X E o x)(ha:QXA X E [e] [y])(hbase:attributeBase o "index" X.env (eval o X.env)=eval o X.env:=by rfl)
  (hfew:((backTo cpos (starEach [e] X.env)).all (λx => !x.1) && (backToKw cpos (keywordEach [] X.env)).all (λx=>x.1.isSome)
   && decide ([e].length+([]:List Keyword).length+(if ([]:List Keyword).isEmpty then 0 else 1)<30))=true:=by rfl)
  (hline:(apos.endLine == cpos.line)=true:=by rfl) (hs:starEach [e] X.env=(false,eval e X.env)::starEach [] X.env:=by rfl) (hplain:(backTo cpos (starEach [] X.env)).any (·.1)=false:=by rfl):
  QX X E (.Call (.Attribute o "index" apos) [e] [] cpos) (.lm zbi x y):=
 QE.imp (zcM vx PySem.F.slot_list_index PySem.F.type_list_index z67 ho ha hbase hfew hline hs hplain) λσ H Q ⟨G,ρ,Q0,X0,hs,ab,hr,hk,hx⟩=>by
  refine⟨G,ρ,_,X0,hs,ab,hr,λd v G1 H1 q g1 g2 g3 rd =>?_,hx⟩
  cases d with
  | lst l=>
   obtain⟨p,xs,rfl,h1,h2⟩:=z2B rd;refine⟨.inl ⟨rfl,xs,z1U g2 h1⟩,?_⟩;have q':runs [y] ρ (λds=>∃w,ds=[w]/\zbL (.lst l) w Q0) X0:=y.mono ρ _ _ X0 X0 (λw q=>⟨w,rfl,q⟩) (λ_ z=>z) q;refine⟨G1,ρ,_,X0,g2,ab.same g1.1,q',λds vs G2 H2 q2 k1 k2 k3 rds =>?_,hx.same g3⟩;obtain⟨w,rfl,bs,m,i,e1,rfl,e3,e4,e5,q3⟩:=q2;obtain⟨u,rfl,ru⟩:=rds1 rds;rw[RD] at ru
   injection e1 with e1
   subst e1;rw[zaN h2] at h1;exact⟨p,bs,m,i,rfl,by rw[ru],z1U k3 (z1U g2 h1),e3,e4,e5,hk (.int _) _ G2 H2 q3 (g1.trans g3 k1) k2 (z06 g3 k3) (by rw[RD])⟩
  | _=>exact q.elim
def z8R {F F':Fn}{r r':R2}(lk:Lk2 X.K X.mg F r)(lk':Lk2 X.K X.mg F' r'){σ:L2.St}{H:Hp}{Q:VK}(h:tx X.K X.mg E (.chain F F' x y z) σ H Q):z7d r r' (tx X.K X.mg E x) (tx X.K X.mg E y) (tx X.K X.mg E z) σ H Q:=by
 obtain⟨G,ρ,Q0,X0,hs,ab,hr,hk,hx⟩:=h;refine⟨G,ρ,_,X0,hs,ab,hr,λd v G1 H1 q g1 g2 g3 rd =>?_,hx⟩;refine⟨G1,ρ,_,X0,g2,ab.same g1.1,q,λd' v' G2 H2 q2 k1 k2 k3 rd' =>?_,hx.same g3⟩;refine lk G2 H2 d d' v v' _ X0 _ k2 (rd.same k1.1) rd' q2 λb u G3 H3 q3 l1 l2 l3 rb =>?_;obtain⟨k,rfl,q4,q5⟩:=z4e q3;rw[RD] at rb;refine⟨k,rb,?_⟩
 cases k with
 | true=>
  refine iteT ⟨G3,ρ,_,X0,l2,(ab.same g1.1).same (z06 k1.1 l1.1),q4 rfl,λd3 v3 G4 H4 q6 m1 m2 m3 rd3 =>?_,hx.same (z06 g3 (z06 k3 l3))⟩;exact lk' G4 H4 d' d3 v' v3 Q0 X0 Q m2 (rd'.same (z06 l1.1 m1.1)) rd3 q6 (hk.same ((g1.trans g3 k1).trans (z06 g3 k3) (l1.trans l3 m1)) (z06 g3 (z06 k3 (z06 l3 m3))))
 | false=>exact iteF (hk (.bl false) (.bl false) G3 H3 (q5 rfl) ((g1.trans g3 k1).trans (z06 g3 k3) l1) l2 (z06 g3 (z06 k3 l3)) (by rw[RD]))
def z6M {op op':CmpOp}{F F':Fn}{r r':R2}(ho:OpR X (compareOp op) r)(ho':OpR X (compareOp op') r')(lk:Lk2 X.K X.mg F r)(lk':Lk2 X.K X.mg F' r')(ha:QX X E a x)(hb:QX X E b y)(hc:QX X E c z)(hm:lastMarks [op,op'] [b,c]=false:=by with_unfolding_all rfl):QX X E (.Compare a [op,op'] [b,c] pos) (.chain F F' x y z):=QE.imp (zcL ho ho' ha hb hc hm) λ_ _ _ h=>z8R lk lk' h
def zaW {op op':CmpOp}{F F':Fn}{r r':R2}(ho:OpR X (compareOp op) r)(ho':OpR X (compareOp op') r')(lk:Lk2 X.K X.mg F r)(lk':Lk2 X.K X.mg F' r')(ha:QX X E a x)(hb:QX X E b y)(hc:QX X E c z)(hm:lastMarks [op,op'] [b,c]=false:=by with_unfolding_all rfl):QXT X E (.Compare a [op,op'] [b,c] pos) (.chain F F' x y z):=QT.imp (zcE ho ho' ha hb hc hm) λ_ _ _ h=>z88 (λ_ h=>z8R lk lk' h) h
end
def Std (K:W.Frag)(n:Str)(st:Stmt)(f:Addr):Prop:=∃(oc:Value) (od:Option Addr) (sl:Array (Option Value)) (kV dc pm:Value) (an:Option Addr) (cd ct:Value),
 PySem.W.nsIn K mainGlobals n=some (some (.ref f))/\K.lookup f=some ⟨oc,od,.func (PySem.W.fnOf n n (z2d st) (z15 st) (z01 st) .none kV dc pm an cd ct),sl⟩/\PySem.W.codeIn K cd n=true/\PySem.W.keepIn K (.ref f)=true
def Std.mk {K:W.Frag}{n:Str}{st:Stmt}{f:Addr}{oc:Value}{od:Option Addr}{sl:Array (Option Value)}{kV dc pm:Value}{an:Option Addr}{cd ct:Value}(a:PySem.W.nsIn K mainGlobals n=some (some (.ref f)))(l:K.lookup f=some ⟨oc,od,.func (PySem.W.fnOf n n (z2d st) (z15 st) (z01 st) .none kV dc pm an cd ct),sl⟩)(c:PySem.W.codeIn K cd n=true)(k:PySem.W.keepIn K (.ref f)=true):Std K n st f:=⟨oc,od,sl,kV,dc,pm,an,cd,ct,a,l,c,k⟩
section
variable {P:Program}{w:World}{K:W.Frag}{mg:Str->Option Value}{h base:Heap}{CX:CXT}{k:Nat}{n:Str}{st:Stmt}{f fa:Addr}{ps:List Str}{sp:Sp}
def z1I (X:K.In h)(G:h.Ns mainGlobals mg)(d:Std K n st f)
  (hb:∀(kV dc pm:Value) (an:Option Addr) (cd ct:Value) (us:List Value),us.length=ps.length->bindArgs (PySem.W.fnOf n n (z2d st) (z15 st) (z01 st) .none kV dc pm an cd ct) ⟨us,[]⟩=pure (ps.zip us))
  (ok:∀fd,Fun K n n st f fd->FnOk P w K mg base CX k f fd ps sp):Cal P w K mg base CX k n ps sp:=by
 obtain⟨oc,od,sl,kV,dc,pm,an,cd,ct,a,l,c,kk⟩:=d;have F:=z7J (st:=st) l c kk;exact⟨_,_,ok _ F,w9 X G a,kk,F.binds (ps:=ps) hb⟩
def zfF {x:Str}(X:K.In h)(G:h.Ns mainGlobals mg)(d:Std K n st f)(hfa:mg n=some (.ref fa))
  (hb:∀(kV dc pm:Value) (an:Option Addr) (cd ct:Value) (s:Shared) (v:Value),BindsTo s (PySem.W.fnOf n n (z2d st) (z15 st) (z01 st) .none kV dc pm an cd ct) ⟨[v],[]⟩ [(x,v)])
  (ok:∀base:Heap,K.In base->base.Ns mainGlobals mg->∀fd,Fun K n n st fa fd->FnOk P w K mg base CX k fa fd [x] sp):
  ∃fd:FuncData,(∀(s:Shared) (v:Value),BindsTo s fd ⟨[v],[]⟩ [(x,v)])/\∀base:Heap,K.In base->base.Ns mainGlobals mg->FnOk P w K mg base CX k fa fd [x] sp:=by
 obtain⟨oc,od,sl,kV,dc,pm,an,cd,ct,a,l,c,kk⟩:=d
 cases hfa.symm.trans (w9 X G a)
 exact⟨_,λs v=>hb kV dc pm an cd ct s v,λbase kb nb=>ok base kb nb _ (z7J (st:=st) l c kk)⟩
end
def Sm.never:Sm:=⟨λ_ _ _ _=>False,λ_ _ _ _ _ _ _ _ _ _ q=>q⟩
def z8Y {X:Cx}{E:XK}{st:Stmt}:QZ X E st .never:=QS.imp zcG λ_ _ _ ⟨_,_,_,_,_,_,_,_,hr,_⟩=>hr
def hu1 {n:Nat}(h:n+64<cLine):n+1<cLine:=by omega
def gInS (a b:D)(Q:DK):Prop:=∃i j,a = .str i/\b = .str j/\Q (.bl (!(Builtin.Str.occurrences j i 0 j.length 1).isEmpty))
def pInS:Fn:=fn2 gInS λa b Q Q' m ⟨i,j,h1,h2,q⟩=>⟨i,j,h1,h2,m _ q⟩
def zdY {X:Cx}:OpR X (compareOp .In) (r2 X.K X.mg pInS):=zbl.imp λx y H Q ⟨G,d1,d2,Q0,X0,g,r1,r2,hr,hk⟩=>by
 obtain⟨i,j,rfl,rfl,q⟩:=(show gInS d1 d2 Q0 from hr)
 rw[RD] at r1 r2;exact⟨i,j,r1,r2,hk.now g q (by rw[RD])⟩
def ExR.vs (x:Ex):ExR:=⟨λρ W Q X=>x.run (vis ρ) (λd=>Q d W) (λs=>X s W),λρ W Q Q' X X' m mx q=>x.mono _ _ _ _ _ (λd q=>m _ _ q) (λs q=>mx _ _ q) q⟩
def StdM (K:W.Frag)(C:Addr)(n qn:Str)(st:Stmt)(f:Addr):Prop:=∃(oc:Value) (od:Option Addr) (sl:Array (Option Value)) (kV dc pm:Value) (an:Option Addr) (cd ct:Value),
 PySem.W.findIn K (.ref C) n=some (some (.ref f))/\PySem.W.isFn K (.ref f)=true/\K.lookup f=some ⟨oc,od,.func (PySem.W.fnOf n qn (z2d st) (z15 st) (z01 st) .none kV dc pm an cd ct),sl⟩/\PySem.W.codeIn K cd qn=true/\PySem.W.keepIn K (.ref f)=true
def StdM.mk {K:W.Frag}{C:Addr}{n qn:Str}{st:Stmt}{f:Addr}{oc:Value}{od:Option Addr}{sl:Array (Option Value)}{kV dc pm:Value}{an:Option Addr}{cd ct:Value}(a:PySem.W.findIn K (.ref C) n=some (some (.ref f)))(i:PySem.W.isFn K (.ref f)=true)(l:K.lookup f=some ⟨oc,od,.func (PySem.W.fnOf n qn (z2d st) (z15 st) (z01 st) .none kV dc pm an cd ct),sl⟩)(c:PySem.W.codeIn K cd qn=true)(k:PySem.W.keepIn K (.ref f)=true):StdM K C n qn st f:=⟨oc,od,sl,kV,dc,pm,an,cd,ct,a,i,l,c,k⟩
structure Cam (P:Program)(w:World)(K:W.Frag)(mg:Str->Option Value)(base:Heap)(CX:CXT)(k:Nat)(C:Addr)(m:Str)(ps:List Str)(sp:Sp):Prop where
 ex:∃f fd,Meth K C m f/\FnOk P w K mg base CX k f fd ps sp/\z3i K fd ps []
structure Cai (P:Program)(w:World)(K:W.Frag)(mg:Str->Option Value)(base:Heap)(CX:CXT)(k:Nat)(C:Addr)(ps:List Str)(sp:Sp):Prop where
 ex:∃f fd,Mk K C f/\FnOk P w K mg base CX k f fd ps sp/\z3i K fd ps []
section
variable {P:Program}{w:World}{K:W.Frag}{mg:Str->Option Value}{base:Heap}{CX:CXT}{k:Nat}{n qn:Str}{st:Stmt}{f C:Addr}{ps:List Str}{sp:Sp}
def z5W (d:StdM K C n qn st f)
  (hb:∀(kV dc pm:Value) (an:Option Addr) (cd ct:Value) (us:List Value),us.length=ps.length->bindArgs (PySem.W.fnOf n qn (z2d st) (z15 st) (z01 st) .none kV dc pm an cd ct) ⟨us,[]⟩=pure (ps.zip us))
  (ok:∀fd,Fun K n qn st f fd->FnOk P w K mg base CX k f fd ps sp):Cam P w K mg base CX k C n ps sp:=by
 obtain⟨oc,od,sl,kV,dc,pm,an,cd,ct,a,i,l,c,kk⟩:=d;have F:=z7J (st:=st) l c kk;exact⟨_,_,⟨a,i,kk⟩,ok _ F,F.binds (ps:=ps) hb⟩
def zig (d:StdM K C "__init__" qn st f)(mk:PySem.W.makesIn K C=true)(kc:PySem.W.keepIn K (.ref C)=true)
  (hb:∀(kV dc pm:Value) (an:Option Addr) (cd ct:Value) (us:List Value),us.length=ps.length->bindArgs (PySem.W.fnOf "__init__" qn (z2d st) (z15 st) (z01 st) .none kV dc pm an cd ct) ⟨us,[]⟩=pure (ps.zip us))
  (ok:∀fd,Fun K "__init__" qn st f fd->FnOk P w K mg base CX k f fd ps sp):Cai P w K mg base CX k C ps sp:=by
 obtain⟨oc,od,sl,kV,dc,pm,an,cd,ct,a,i,l,c,kk⟩:=d;have F:=z7J (st:=st) l c kk;exact⟨_,_,⟨mk,a,i,kc⟩,ok _ F,F.binds (ps:=ps) hb⟩
end
section
variable {X:Cx}{E:XK}{e o tg:Expr}{es:List Expr}{x:Ex}{xs:List Ex}{ys:List ExR}{pos apos p:Pos}{n m c:Str}{C:Addr}{fs ps:List Str}{CX:CXT}{k i:Nat}{pl:Sem Bool}{σ0:L2.St}{st:Stmt}{t:Sm}{cs:List D}
def z45 (h:QX X E e x):QXR X E e (.vs x):=QE.imp h λσ H Q ⟨H0,G0,G,ρ,W,A,Q0,X0,ab,hr,hk,hx⟩=>
 ⟨G,vis ρ,_,_,ab.ab.g,ab.ab.vis,hr,λd v G1 H1 q g1 g2 g3 rd=>hk d v W A G1 H1 q (ab.grow g1 g2 g3) g1.1 rd,hx.at_ ab⟩
def zcB (h:QZ X E0 st t):QZ X E st (.calm t):=QS.imp h λDe σ H ⟨H0,G0,G,ρ,N0,R0,X0,ab,hr,hn,hR,hx⟩=>⟨H0,G0,G,ρ,N0,R0,λ_=>False,ab,hr,hn,hR,Kx.no⟩
def zaY {x:Str}{te:TE}{p1:Pos}(hN:X.N.Nodup)(hi:X.N[i]? = some x)(hx:Loc X.env.scope x)(he:QE X e te)(hs:swapsWith e (some (.Name x p1)) pos.line X.env=pure false:=by rfl)(hf:X.fn x=true\/X.env.scope.names.lookup x=some .local:=by first | exact .inl rfl | exact .inr rfl):QS X (.Assign [.Name x p1] e pos) (tAsg te (z34 i)):=zdN hN hi hx he hs hf
def zcC {F:Fn}(R:Rc X.K X.mg n C)(M:Cam X.prog X.w X.K X.mg X.base CX k C m ps (spP X.K X.mg F))(hn:m ∉ fs)(ho:QX X E o x)(hr:Room k X.A)(hx:z1D CX X E)(ha:QXA X E (e::es) xs)
  (hst:starEach (e::es) X.env=(false,eval e X.env)::starEach es X.env:=by rfl) (hpl:(backTo pos (starEach es X.env)).any (·.1)=false:=by rfl)
  (ht:eval (.Call (.Attribute o m apos) (e::es) [] pos) X.env=(do
   let ov <- eval o X.env
   standAt apos.atName
   let (f,first) <- holding [ov] (getMethod ov m pl)
   callWith pos f first (backTo pos (starEach (e::es) X.env)) (backToKw pos (keywordEach [] X.env))):=by rfl):QX X E (.Call (.Attribute o m apos) (e::es) [] pos) (.meth n fs F x xs):=by
 obtain⟨f,fd,h1,h2,h3⟩:=M.ex;exact zeE (pl:=pl) R h1 hn ho h2 hr h3 hx ha hst hpl ht
def z7o {F:Fn}(R:Rc X.K X.mg n C)(M:Cam X.prog X.w X.K X.mg X.base CX k C m ps (spP X.K X.mg F))(hn:m ∉ fs)(ho:QX X E o x)(hr:Room k X.A)(hx:z1D CX X E)
  (ht:eval (.Call (.Attribute o m apos) [] [] pos) X.env=(do
   let ov <- eval o X.env
   standAt apos.atName
   let (f,first) <- holding [ov] (getMethod ov m pl)
   callWith pos f first (backTo pos (starEach [] X.env)) (backToKw pos (keywordEach [] X.env))):=by rfl):QX X E (.Call (.Attribute o m apos) [] [] pos) (.meth n fs F x []):=by
 obtain⟨f,fd,h1,h2,h3⟩:=M.ex;exact zcD (pl:=pl) R h1 hn ho h2 hr h3 hx ht
def z4l {F:FnR}(R:Rc X.K X.mg n C)(M:Cam X.prog X.w X.K X.mg X.base CX k C m ps (spR X.K X.mg F))(hn:m ∉ fs)(ho:QE X o (tVar i))(hr:Room k X.A)(hx:z1D CX X E)(ha:QAR X E (e::es) ys)
  (hst:starEach (e::es) X.env=(false,eval e X.env)::starEach es X.env:=by rfl) (hpl:(backTo pos (starEach es X.env)).any (·.1)=false:=by rfl)
  (ht:eval (.Call (.Attribute o m apos) (e::es) [] pos) X.env=(do
   let ov <- eval o X.env
   standAt apos.atName
   let (f,first) <- holding [ov] (getMethod ov m pl)
   callWith pos f first (backTo pos (starEach (e::es) X.env)) (backToKw pos (keywordEach [] X.env))):=by rfl):QXR X E (.Call (.Attribute o m apos) (e::es) [] pos) (.meth n fs F i ys):=by
 obtain⟨f,fd,h1,h2,h3⟩:=M.ex;exact zeK (pl:=pl) ho R.c R.m h1 hn h2 hr h3 hx ha hst hpl ht
def z7p {F:FnR}(R:Rc X.K X.mg n C)(M:Cam X.prog X.w X.K X.mg X.base CX k C m ps (spR X.K X.mg F))(hn:m ∉ fs)(ho:QE X o (tVar i))(hr:Room k X.A)(hx:z3h CX X σ0 E)(ha:QAR X E (e::es) ys)
  (hst:starEach (e::es) X.env=(false,eval e X.env)::starEach es X.env:=by rfl) (hpl:(backTo pos (starEach es X.env)).any (·.1)=false:=by rfl)
  (ht:eval (.Call (.Attribute o m apos) (e::es) [] pos) X.env=(do
   let ov <- eval o X.env
   standAt apos.atName
   let (f,first) <- holding [ov] (getMethod ov m pl)
   callWith pos f first (backTo pos (starEach (e::es) X.env)) (backToKw pos (keywordEach [] X.env))):=by rfl):QE X (.Call (.Attribute o m apos) (e::es) [] pos) (λσ H Q=>σ=σ0/\txr X.K X.mg E (.meth n fs F i ys) σ H Q):=by
 obtain⟨f,fd,h1,h2,h3⟩:=M.ex;exact zcH (pl:=pl) ho R.c R.m h1 hn h2 hr h3 hx ha hst hpl ht
def zeJ (R:Rc X.K X.mg n C)(M:Cai X.prog X.w X.K X.mg X.base CX k C ps (zax X.K X.mg C fs cs))(hr:Room (k+1) X.A)(hg:Gl X n)(hdb:(n == ("__debug__":Str))=false)(hx:z1D CX X E)
  (hs:∀{te:TE},QE X (.Call (.Name n p) [] [] apos) te->QS X (.Assign [tg] (.Call (.Name n p) [] [] apos) pos) (tAsg te (z34 i))) (pc:∀c∈cs,Pc c):QR X E (.Assign [tg] (.Call (.Name n p) [] [] apos) pos) (.new i (.ins n fs cs)):=by
 obtain⟨f,fd,h1,h2,h3⟩:=M.ex;exact zgs (sp:=zax X.K X.mg C fs cs) R.m pc (hs ⟨zcX h1 h2 hr hg R.m h3 .nil hx hdb⟩)
end
def Sm.putc (i:Nat)(k:Ex)(F:Fn)(es:List Ex):Sm:=⟨λρ N _ X=>ownL ρ i λl=>runs es ρ (λds=>(∀d∈ds,Pr d)/\F.run ds (λd=>k.run ρ (λkd=>isI kd λz=>onN (ixN l.length z) λj=>N (ρ.set i (.o (.lst (l.set j d))))) X) X) X,λρ N N' Q Q' X X' mn m mx q=>
 z7y (λl q1=>z32 es ρ _ _ X X' (λds q2=>⟨q2.1,F.mono ds _ _ X X' (λd q3=>k.mono ρ _ _ X X' (λkd q4=>z6V (λz q5=>zd6 (λj q6=>mn _ q6) q5) q4) mx q3) mx q2.2⟩) mx q1) q⟩
section
variable {X:Cx}{E:XK}{o e k:Expr}{es:List Expr}{y:Ex}{xs:List Ex}{pos cpos p2 pp:Pos}{i n:Nat}{CX:CXT}{ps:List Str}{F:Fn}{f:Str}
def zeB (ho:QE X o (tVar i))(hk:QX X E k y)(C:Cal X.prog X.w X.K X.mg X.base CX n f ps (spP X.K X.mg F))(hr:Room n X.A)(hp:z1D CX X E)(hga:QXA X E (e::es) xs)(hg:Gl X f)(hdb:(f == ("__debug__":Str))=false)
  (h:∀{te:TE}{g:TG},QE X (.Call (.Name f pp) (e::es) [] cpos) te->QG X (.Subscript o k p2) g->QS X (.Assign [.Subscript o k p2] (.Call (.Name f pp) (e::es) [] cpos) pos) (tAsg te g))
  (he:starEach (e::es) X.env=(false,eval e X.env)::starEach es X.env:=by rfl) (hpl:(backTo cpos (starEach es X.env)).any (·.1)=false:=by rfl)
  (ha:∀v,assign (.Subscript o k p2) X.env v=(do
   let ov <- holding [v] (eval o X.env)
   let iv <- holding [v,ov] (eval k X.env)
   standAt p2
   holding [v,ov,iv] (setItem ov iv v)
   release [v,ov,iv] []):=by intro _; rfl):QZ X E (.Assign [.Subscript o k p2] (.Call (.Name f pp) (e::es) [] cpos) pos) (.putc i y F xs):=
 QS.imp (h (zeT C hr hp hga hg hdb he hpl) ⟨zgV ho.p hk.p zct ha⟩) λDe σ H ⟨H0,G0,G,ρ,N0,R0,X0,ab,hr,hn,hR,hx⟩=>by
  obtain⟨l,hl,hr⟩:=z7x hr;refine⟨plus G H (z13 ρ σ),ρ,_,X0,z1Z ab.g,ab.abe,hr,λds vs G1 H1 q g1 g2 g3 rds =>?_,hx.same ab.s0⟩;obtain⟨pr,q⟩:=q;have mu:∀a o,z13 ρ σ a->G1 a=some o->Mu o:=λa o ha e=>by
   obtain⟨u,hu,m⟩:=ab.ownMu ha;have e1:=g2 a o e;rw[g3 a u hu] at e1
   cases e1; exact m
  have rds':=RDs.stripA (K:=X.K) (mg:=X.mg) mu ds pr rds;obtain⟨ab1,lm1⟩:=ab.back g1 g2 g3;show spP X.K X.mg F (vs++[]) H1 _ E;rw[wW];refine⟨minus G1 (z13 ρ σ),ds,_,X0,ab1.g,rds',q,λd v G2 H2 q2 k1 k2 k3 rd =>?_,hx.same (z06 ab.s0 g3)⟩;have ab2:=ab1.over k1 k2 k3;obtain⟨a,s1,ga,h0,ys,hw,hrd⟩:=ab2.ow i _ hl;refine⟨.ref a,s1,?_⟩;refine⟨plus G2 H2 (z13 ρ σ),ρ,_,X0,z1Z ab2.g,ab2.abe,q2,λkd kv G3 H3 q3 l1 l2 l3 rk =>?_,hx.same (z06 ab.s0 (z06 g3 k3))⟩;obtain⟨kk,rfl,q3⟩:=z9o q3;obtain⟨jj,ej,hN⟩:=zd5 q3;have lm:Same G2 (minus G3 (z13 ρ σ)):=z2t (z06 (z2a ab2.free) l1.1) ab2.free;refine⟨a,ys,kk,jj,rfl,z16 rk,l3 _ _ hw,by rw[hrd.len]; exact ej,?_⟩;obtain⟨ab',g'⟩:=ab2.wrB (i:=i) (l':=l.set jj d) (ys:=ys.set jj v) l1 l2 l3 hl s1 (RDs.set (rd.same lm) jj (hrd.same lm));exact hn _ σ _ _ hN ab' (z06 lm1 (z06 k1.1 g'))
end
def z0l {H:Hp}{a b:Addr}{o:HO}(h:upd H a o b=none):b≠a/\H b=none:=by
 by_cases e:b=a
 ·subst e; rw[z09] at h; cases h
 ·rw[z04 e] at h; exact⟨e,h⟩
end Pu
namespace Tmu
open PySem PyProof.Rows
def zhI:fillsNumberSlot (.type "tuple") "mul"=pure false:=PySem.fillsNumberSlot_seq (id:="tuple.__mul__") (r:=some (.builtin "tuple.__rmul__")) F.slot_tuple_mul.lookup (by decide +kernel) F.slot_tuple_rmul.lookup (by decide +kernel)
def rep:seqRepeat? (.type "tuple")=pure (some (.builtin "tuple.__mul__")):=by
 unfold seqRepeat?;rw[PySem.seqSlot_of (T:="tuple") (name:="__mul__") (id:="tuple.__mul__") F.slot_tuple_mul.lookup (by decide +kernel),PySem.seqSlot_of (T:="tuple") (name:="__rmul__") (id:="tuple.__rmul__") F.slot_tuple_rmul.lookup (by decide +kernel)]
 rfl
def rmul (a:Int)(t:Tok)(l:Addr)(o:Obj)(its:Array Value)(n:Nat)(hc:o.cls = .type "tuple")(hd:o.data = .seq its n):Meets (Builtin.«int.__rmul__» ⟨[.int a t,.ref l],[]⟩) (λ_ R s=>s.heap.get? l=some o/\R (.ok (.ret Value.notImplemented)) s):=
 .of_wp λprog w A R s h=>by
  obtain⟨hp,g,d,tk,os⟩:=s;obtain⟨hl,h⟩:=h;obtain⟨c1,c2,c3,c4⟩:=o;dsimp only at hc hd;subst hc hd;have hT:Shared.TypeIs ⟨hp,g,d,tk,os⟩ (.ref l) "tuple":=⟨_,hl,rfl⟩
  wp_walk using wpAny_typeOf hT
  exact⟨_,rfl,h⟩
section
variable {prog:Program}{w:World}{A:Around}{E:Value->Shared->Prop}{s:Shared}{t:Addr}{z08:Array Value}
def mul {Q:Value->Shared->Prop}{n:Int}{u:Tok}(ht:IsTup s.heap t z08)(h0:z08.size≠0)(n1:1<=n)(hz:z08.size*n.toNat<=100000)(hn:n<=100)(q1:n=1->Q (.ref t) s)(q2:n≠1->Q (.ref s.heap.objs.size) { s with heap:=s.heap.push { cls :=.type "tuple",data :=.seq ((List.replicate n.toNat z08).foldl (· ++ ·) #[]) } }):
  wpAny (model prog w) A (call (.builtin "tuple.__mul__") [.ref t,.int n u]) Q E s:=by
 refine ua F.slot_tuple_mul ht.typeIs F.entry_tuple_mul ?_ (F.args_tuple_mul_2 _ _);show wpAny _ _ (Builtin.«tuple.__mul__» _) _ _ _;unfold Builtin.«tuple.__mul__»
 wp_delta
 rw[if_neg (show ¬ ((!({ pos:=[Value.ref t,Value.int n u] }:Args).kw.isEmpty)=true) from wF)];refine wa (wpAny_of_eq (a:=n) rfl ?_);dsimp only;have c1:(decide (n < -2 ^ 63) || decide (n>=2 ^ 63))=false:=by
  rw[wB (by omega),wB (by omega)]
  rfl
 have he:z08.isEmpty=false:=by
  rw[Array.isEmpty_eq_false_iff];intro z;rw[z] at h0;exact h0 rfl
 rw[c1,if_neg (by decide)];refine wa (tupleItemsOf_ ht ?_);rw[he,Bool.false_or]
 by_cases hn1:n=1
 ·rw[if_pos (by rw[hn1]; rfl)];unfold Builtin.Tuple.tupleIsExact;refine wa (wa (wpAny_typeOf ht.typeIs (wf ?_)));rw[if_pos (by decide)];exact wa (ub (wf ⟨_,rfl,q1 hn1⟩))
 ·have hm:((z08.size*n.toNat:Nat):Int)=(z08.size:Int)*n:=by
   rw[Int.natCast_mul,Int.toNat_of_nonneg (by omega)]
  have c2:¬ (z08.size:Int)*n > (2 ^ 63 - 1) / 8:=by
   rw[<- hm];omega
  have c3:Builtin.Tuple.tupleTooMany ((z08.size:Int)*n)=false:=by
   unfold Builtin.Tuple.tupleTooMany;rw[<- hm];exact wB (by show ¬ ((z08.size*n.toNat:Nat):Int) > ((2 ^ 24:Nat):Int); omega)
  rw[if_neg (by simpa using hn1),Bool.or_false,if_neg (by simp; omega),if_neg c2,c3,if_neg (by decide)];unfold Builtin.Tuple.tupleExact;have hs:∀(k:Nat) (a:Array Value),((List.replicate k z08).foldl (· ++ ·) a).size=a.size+z08.size*k:=by
   intro k
   induction k with
   | zero=>intro a; simp
   | succ k ih=>
    intro a;rw[vo,List.foldl_cons,ih,Array.size_append,Nat.mul_succ];omega
  refine wa (vb (wf ⟨_,rfl,q2 hn1⟩) ?_);show ((List.replicate n.toNat z08).foldl (· ++ ·) #[]).size<=2 ^ 24;rw[hs];show 0+z08.size*n.toNat<=2 ^ 24;omega
end
end Tmu
namespace Pu
open PySem PySem.Spec PyProof.Rows L2
section
variable {X:Cx}{K:W.Frag}{mg:Str->Option Value}{E:XK}{G H:Hp}
def zfb:OpR X (binaryOp .Mult) (λx y H Q=>∃l xs n,x = .ref l/\y = .int n/\SqT X.K H l xs/\n<=100/\1<=n/\xs.length<=1000/\xs≠[]/\(n=1->Q (.ref l) H)/\∀p,H p=none->Q (.ref p) (upd H p (.tup (List.replicate n.toNat xs).flatten))):=by
 intro pins s σ H x y v u Q I rx ry h;obtain⟨l,xs,n,rfl,rfl,hH,hn,hn0,hz,hne,q1,q2⟩:=h
 cases rx
 obtain⟨tk,rfl⟩:=ry;obtain⟨its,r,pl,z1⟩:=I.tuple hH;obtain⟨o,e,hc,ep,hd⟩:=id pl;have l1:=r.length;have hm:its.length*n.toNat<=100000:=wQ (Nat.mul_le_mul (show its.length<=1000 by omega) (show n.toNat<=100 by omega)) (by decide);have h0:its.length≠0:=by
  intro z;exact hne (vN.mp (by omega))
 have ea:List.foldl (λx1 x2=>x1++x2) #[] (List.replicate n.toNat its.toArray)=((List.replicate n.toNat its).flatten).toArray:=by
  have:∀(k:Nat) (a:Array Value),List.foldl (λx1 x2=>x1++x2) a (List.replicate k its.toArray)=a++((List.replicate k its).flatten).toArray:=by
   intro k
   induction k with
   | zero=>intro a; simp
   | succ k ih=>
    intro a;rw[vo,vo,List.foldl_cons,ih,v5];simp
  simpa using this n.toNat #[]
 have szs:(List.replicate n.toNat xs).flatten.length<=sizeLine:=wQ (show _<=100000 by rw[<- l1] at hm; simpa[Nat.mul_comm] using hm) (by decide);refine wpAny_binaryOp_repeat_ref (T:="tuple") (U:="int") (by decide) ⟨_,e,hc⟩ (λs'=>typeIs_int s' n tk) Tmu.zhI PySem.F.fills_int_mul PySem.F.slot_int_rmul Tmu.rep PySem.F.slot_int_index.lookup ?_;refine call_meets PySem.F.slot_int_rmul (typeIs_int s n tk) PySem.F.entry_int_rmul (PySem.F.args_int_rmul_2 _ _) (Tmu.rmul n tk l o its.toArray ep hc hd) ⟨e,rfl,⟨_,e,hc⟩,?_⟩;refine Tmu.mul pl (by simpa using h0) hn0 (by simpa using hm) hn (λz=>⟨.ref l,H,I,rfl,q1 z⟩) λ_ =>?_;rw[ea];exact⟨.ref _,_,I.laid (o :=.tup (List.replicate n.toNat xs).flatten) (t':=s.toks) (λb o e=>wd _ e) (wc _) ⟨szs,(List.replicate n.toNat its).flatten,z8N r n.toNat,⟨_,wy _ rfl,rfl,0,rfl⟩,_,wy _ rfl,rfl⟩,rfl,q2 _ I.fresh⟩
def za0 (a b:D)(Q:DK):Prop:=match a,b with
 | .tup l,.int n=>(n<=100/\1<=n/\l.length<=1000/\l≠[])/\Q (.tup (List.replicate n.toNat l).flatten)
 | _,_=>False
def z9Z (a b:D)(Q Q':DK)(m:∀d,Q d->Q' d)(h:za0 a b Q):za0 a b Q':=by
 unfold za0 at h ⊢
 split at h
 ·exact⟨h.1,m _ h.2⟩
 ·exact h.elim
def zh6:Fn:=fn2 za0 z9Z
def zfj:OpR X (binaryOp .Mult) (r2 X.K X.mg zh6):=by
 intro pins s σ H x y v u Q I rx ry ⟨G,d1,d2,Q0,X0,g,h1,h2,hr,hk⟩;have hr':za0 d1 d2 Q0:=hr;unfold za0 at hr'
 split at hr'
 ·rename_i l n
  obtain⟨a,xs,rfl,s1,r1⟩:=z2P h1;obtain⟨⟨q1,q2,q3,q4⟩,q⟩:=hr';refine zfb pins s σ H _ _ v u Q I rx ry ⟨a,xs,_,rfl,z16 h2,z1T g s1,q1,q2,by rw[r1.len]; exact q3,λz =>?_,λz =>?_,λp hp =>?_⟩
  ·rw[z] at r1;exact q4 (vN.mp r1.len.symm)
  ·rw[z] at q;have:(List.replicate (1:Int).toNat l).flatten=l:=by simp
   rw[this] at q;exact hk.now g q h1
  ·exact hk.new g hp q (by rw[RD]; exact⟨p,_,rfl,SqT.of z09,(zaL r1 _).same (z1g (z0x g hp) _)⟩)
 ·exact hr'.elim
end
end Pu
namespace Pu
open PySem L2
abbrev zjz:D :=.ins "Log" ["winds","row","places","standing","undone"] [dk [],.lst [],.lst [.tup [.int 0,.int 0,.int 1]],.lst [],.lst []]
def z05:Fn:=Fn.mkN 2 4 (.seq (.set 2 (.c (.int 2305843009213693951)))
 (.seq (.set 3 (.op pMod [(.op z4q [(.op pAdd [(.op pAdd [(.op pMod [(.v 0),(.v 2)]),(.op z4q [(.c (.int 31)),(.v 1)])]),(.c (.int 7))]),(.c (.int 48271))]),(.v 2)]))
 (.ret (.op z5y [(.op pMod [(.op z4q [(.op pMod [(.op z4q [(.v 3),(.v 3)]),(.v 2)]),(.c (.int 69621))]),(.v 2)]),(.c (.int 7))]))))
def z0d:Nat->Fn
 | 0=>Fn.bot
 | n+1=>Fn.mkN 2 3 (.seq (.ifs (.op (pIsi "tuple") [(.v 1)]) (.seq (.ifs (.or (.not (.op (pIsi "tuple") [(.v 0)])) (.op pNe [(.op pLen [(.v 0)]),(.op pLen [(.v 1)])])) (.ret (.c (.bl false))) .skip)
 (.seq (.forr [(.op pLen [(.v 1)])] (.nm 2) (.ifs (.not (.op (z0d n) [(.op pIx [(.v 0),(.v 2)]),(.op pIx [(.v 1),(.v 2)])])) (.ret (.c (.bl false))) .skip))
 (.ret (.c (.bl true))))) .skip)
 (.seq (.ifs (.op pIs [(.v 1),(.c .non)]) (.ret (.op pIs [(.v 0),(.c .non)])) .skip)
 (.seq (.ifs (.op (pIsi "str") [(.v 1)]) (.ret (.and (.op (pIsi "str") [(.v 0)]) (.op pEq [(.v 0),(.v 1)]))) .skip)
 (.seq (.ifs (.or (.not (.op (pIsi "int") [(.v 0)])) (.op pNe [(.op (pIsi "bool") [(.v 0)]),(.op (pIsi "bool") [(.v 1)])])) (.ret (.c (.bl false))) .skip)
 (.ret (.op pEq [(.v 0),(.v 1)]))))))
def z0b:Fn:=z0d 5
def z0n:Fn:=Fn.mkN 3 4 (.seq (.set 3 (.op pSub [(.op pMod [(.op z05 [(.v 0),(.v 1)]),(.op pAdd [(.op z4q [(.c (.int 2)),(.v 2)]),(.c (.int 1))])]),(.v 2)]))
 (.ret (.op pTup [(.v 3),(.op pSub [(.op pMod [(.op z05 [(.v 0),(.op pAdd [(.v 1),(.c (.int 1))])]),(.op pAdd [(.op z4q [(.c (.int 2)),(.v 2)]),(.c (.int 1))])]),(.v 2)])])))
def z0u:Fn:=Fn.mkN 1 4 (.seq (.set 1 (.c (.str "abcdefghijklmnopqrstuvwxyz")))
 (.seq (.set 2 (.op pIx [(.v 1),(.op pMod [(.v 0),(.c (.int 3))])]))
 (.seq (.forr [(.op z4q [(.op pMod [(.op z5y [(.v 0),(.c (.int 3))]),(.c (.int 2))]),(.c (.int 11))])] (.nm 3) (.set 2 (.op pAdd [(.v 2),(.op pIx [(.v 1),(.op pMod [(.op pAdd [(.op z5y [(.v 0),(.c (.int 6))]),(.op z4q [(.v 3),(.v 3)])]),(.c (.int 26))])])])))
 (.ret (.v 2)))))
def z18:Fn:=Fn.mkN 1 5 (.seq (.set 1 (.c (.str "abcdefghijklmnopqrstuvwxyz")))
 (.seq (.set 2 (.c (.str "")))
 (.seq (.set 3 (.op z5y [(.v 0),(.c (.int 12))]))
 (.seq (.forr [(.op pAdd [(.c (.int 1)),(.op pMod [(.v 0),(.c (.int 12))])])] (.nm 4) (.seq (.set 2 (.op pAdd [(.v 2),(.op pIx [(.v 1),(.op pMod [(.v 3),(.c (.int 26))])])]))
 (.set 3 (.op z5y [(.v 3),(.c (.int 26))]))))
 (.ret (.v 2))))))
def z0Z:Fn:=Fn.mkN 1 2 (.seq (.set 1 (.op pLst [(.c (.str "")),(.c (.str "abcdefghijklm")),(.c (.str "aB")),(.c (.str "a1")),(.c (.str "a b")),(.c (.str "a\n")),(.c (.str "-")),(.c (.str " a"))]))
 (.seq (.ifs (.op pEq [(.op pMod [(.op z05 [(.v 0),(.c (.int 4))]),(.c (.int 4))]),(.c (.int 0))]) (.ret (.op pIx [(.v 1),(.op pMod [(.op z05 [(.v 0),(.c (.int 5))]),(.c (.int 8))])])) .skip)
 (.seq (.ifs (.op pEq [(.op pMod [(.op z05 [(.v 0),(.c (.int 70))]),(.c (.int 3))]),(.c (.int 0))]) (.ret (.op z18 [(.v 0)])) .skip)
 (.ret (.op z0u [(.op pMod [(.op z05 [(.v 0),(.c (.int 2))]),(.c (.int 12))])])))))
def z0o:Fn:=Fn.mkN 2 3 (.seq (.set 2 (.op pAdd [(.op z4q [(.c (.int 2)),(.v 1)]),(.c (.int 1))]))
 (.ret (.op pTup [(.op pSub [(.op pMod [(.v 0),(.v 2)]),(.v 1)]),(.op pSub [(.op pMod [(.op z5y [(.v 0),(.v 2)]),(.v 2)]),(.v 1)])])))
def z0O:Fn:=Fn.mkN 2 4 (.seq (.set 2 (.op pAdd [(.op pAdd [(.op pPow [(.c (.int 10)),(.c (.int 9))]),(.c (.int 1))]),(.op pMod [(.op z05 [(.v 1),(.c (.int 6))]),(.op pIx [(.op pLst [(.c (.int 2)),(.op pPow [(.c (.int 10)),(.c (.int 12))])]),(.op pMod [(.op z05 [(.v 1),(.c (.int 7))]),(.c (.int 2))])])])]))
 (.seq (.set 3 (.op pLst [(.op z7w [(.v 0)]),(.op pAdd [(.v 0),(.op pTup [(.c (.int 0))])]),(.sl (.v 0) none (some (.c (.int 1)))),(.op pTup [(.v 2),(.op pIx [(.v 0),(.c (.int 1))])]),(.op pTup [(.op pIx [(.v 0),(.c (.int 0))]),(.op pNeg [(.v 2)])]),(.op pTup [(.op pNeg [(.v 2)]),(.op pIx [(.v 0),(.c (.int 1))])])]))
 (.seq (.set 3 (.op pAdd [(.v 3),(.op pLst [(.op pTup [(.c (.bl true)),(.op pIx [(.v 0),(.c (.int 1))])]),(.op pTup [(.op pIx [(.v 0),(.c (.int 0))]),(.c .non)]),(.op pTup [(.c (.str "1")),(.op pIx [(.v 0),(.c (.int 1))])]),(.c (.int 0)),(.c .non)])]))
 (.seq (.set 3 (.op pAdd [(.v 3),(.op pLst [(.op pTup [(.v 0),(.v 0)]),(.op pTup [(.op pIx [(.v 0),(.c (.int 0))]),(.v 2)])])]))
 (.ret (.op pIx [(.v 3),(.op pMod [(.op z05 [(.v 1),(.c (.int 8))]),(.c (.int 13))])]))))))
def z0y:Fn:=Fn.mkN 2 5 (.seq (.set 2 (.op z5y [(.v 0),(.c (.int 12))]))
 (.seq (.own 3 (.op pLst []))
 (.seq (.forr [(.op pAdd [(.c (.int 1)),(.op pMod [(.v 0),(.c (.int 12))])])] (.nm 4) (.seq (.app 3 (.op z0o [(.v 2),(.v 1)]))
 (.set 2 (.op z5y [(.op z5y [(.v 2),(.op pAdd [(.op z4q [(.c (.int 2)),(.v 1)]),(.c (.int 1))])]),(.op pAdd [(.op z4q [(.c (.int 2)),(.v 1)]),(.c (.int 1))])]))))
 (.ret (.op z2r [(.v 3)])))))
def z0C:Fn:=Fn.mkN 1 6 (.seq (.set 1 (.op pIx [(.op pLst [(.c (.int 3)),(.op pPow [(.c (.int 10)),(.c (.int 9))])]),(.op pMod [(.op z05 [(.v 0),(.c (.int 9))]),(.c (.int 2))])]))
 (.seq (.set 2 (.op pIx [(.op pLst [(.c (.int 1)),(.c (.int 2)),(.c (.int 3)),(.c (.int 12))]),(.op pMod [(.op z05 [(.v 0),(.c (.int 10))]),(.c (.int 4))])]))
 (.seq (.own 3 (.comp 1 [0,1] (.nm 0) (.op z94 [(.v 2)]) none (.op z0n [(.v 1),(.op pAdd [(.c (.int 200)),(.op z4q [(.c (.int 2)),(.v 0)])]),(.v 2)])))
 (.seq (.ifs (.op pEq [(.op pMod [(.op z05 [(.v 0),(.c (.int 68))]),(.c (.int 2))]),(.c (.int 0))]) (.seq (.own 3 (.op z7w [(.op z0y [(.v 0),(.op pPow [(.c (.int 10)),(.c (.int 9))])])]))
 (.set 2 (.op pLen [(.v 3)]))) .skip)
 (.seq (.set 4 (.op pMod [(.op z05 [(.v 0),(.c (.int 11))]),(.c (.int 12))]))
 (.seq (.set 5 (.op pMod [(.op z05 [(.v 0),(.c (.int 12))]),(.v 2)]))
 (.seq (.ifs (.op pLt [(.v 4),(.c (.int 4))]) (.putc 3 (.v 5) z0O [(.op pIx [(.v 3),(.v 5)]),(.v 0)]) .skip)
 (.seq (.ifs (.op pEq [(.v 4),(.c (.int 4))]) (.ret (.op pTup [(.v 3),(.c (.bl false))])) .skip)
 (.seq (.ifs (.op pEq [(.v 4),(.c (.int 5))]) (.ret (.op pTup [(.op pIx [(.op pTup [(.op pTup []),(.op zh6 [(.op pTup [(.op pIx [(.v 3),(.c (.int 0))])]),(.c (.int 13))]),(.c (.int 7)),(.c .non),(.c (.str "wind")),(.c (.bl true))]),(.op pMod [(.op z05 [(.v 0),(.c (.int 13))]),(.c (.int 6))])]),(.c (.bl false))])) .skip)
 (.ret (.op pTup [(.op z2r [(.v 3)]),(.op pGt [(.v 4),(.c (.int 5))])])))))))))))
def z1n:Fn:=Fn.mkN 1 2 (.seq (.set 1 (.op pLst [(.op (pIsx ["NoDeed","NoWind"] (λx=>(x == "NoWind"))) [(.v 0)]),(.op (pIsx ["NoDeed","NoWind"] (λx=>(x == "NoDeed"))) [(.v 0)]),(.op (pIsx ["NoDeed","NoWind"] (λ_=>false)) [(.v 0)])]))
 (.seq (.ifs (.or (.op (pIsx ["NoDeed","NoWind"] (λ_=>false)) [(.v 0)]) (.or (.op pNe [(.lm zbj (.v 1) (.c (.bl true))),(.c (.int 1))]) (.not (.op (pIsx ["NoDeed","NoWind"] (λ_=>true)) [(.v 0)])))) (.ret (.c (.str "other"))) .skip)
 (.ret (.op pIx [(.op pLst [(.c (.str "wind")),(.c (.str "deed")),(.c (.str "shares"))]),(.lm zbi (.v 1) (.c (.bl true)))]))))
def z4z:Fn:=Fn.mkN 1 1 (.ret (.and (.chain pLe pLe (.c (.int 1)) (.op pLen [(.v 0)]) (.c (.int 12))) (.op pAll [(.comp 1 [] (.nm 0) (.v 0) none (.op pInS [(.v 0),(.c (.str "abcdefghijklmnopqrstuvwxyz"))]))])))
def z35:Fn:=Fn.mkN 1 1 (.seq (.ifs (.or (.not (.op (pIsi "int") [(.v 0)])) (.op (pIsi "bool") [(.v 0)])) (.ret (.c (.bl false))) .skip)
 (.ret (.chain pLe pLe (.op pNeg [(.c (.int 1000000000))]) (.v 0) (.c (.int 1000000000)))))
def z0E:Fn:=Fn.mkN 1 1 (.ret (.and (.op (pIsi "tuple") [(.v 0)]) (.and (.op pEq [(.op pLen [(.v 0)]),(.c (.int 2))]) (.and (.op z35 [(.op pIx [(.v 0),(.c (.int 0))])]) (.op z35 [(.op pIx [(.v 0),(.c (.int 1))])])))))
def z4A:Fn:=Fn.mkN 1 1 (.seq (.ifs (.or (.not (.op (pIsi "tuple") [(.v 0)])) (.not (.chain pLe pLe (.c (.int 1)) (.op pLen [(.v 0)]) (.c (.int 12))))) (.ret (.c (.bl false))) .skip)
 (.ret (.op pAll [(.comp 1 [] (.nm 0) (.v 0) none (.op z0E [(.v 0)]))])))
def z1b:FnR:=FnR.mk' 2 3 (.seq (.ifp (.op pEq [(.op pIx [(.v 1),(.c (.int 0))]),(.c (.str "wind"))]) (.fput "Log" ["winds","row","places","standing","undone"] 0 0 (.op pIx [(.v 1),(.c (.int 1))]) (.op pIx [(.v 1),(.c (.int 2))])) (.ifp (.op pEq [(.op pIx [(.v 1),(.c (.int 0))]),(.c (.str "watch"))]) (.fapp "Log" ["winds","row","places","standing","undone"] 0 1 (.op pTup [(.op z5z [(.op (pFld "Log" "winds") [(.v 0)]),(.op pIx [(.v 1),(.c (.int 1))])]),(.op pIx [(.v 1),(.c (.int 2))])])) (.seq (.lift .never) (.lift .never))))
 (.fapp "Log" ["winds","row","places","standing","undone"] 0 3 (.v 1)))
def z1p:FnR:=FnR.mk' 2 2 (.seq (.fclr "Log" ["winds","row","places","standing","undone"] 0 4)
 (.ex (.meth "Log" ["winds","row","places","standing","undone"] z1b 0 [(.vs (.v 1))])))
def z1o:FnR:=FnR.mk' 3 3 (.seq (.lift (.ifs (.not (.op z4z [(.v 1)])) (.raise "NoWind") .skip))
 (.seq (.lift (.ifs (.not (.op z4A [(.v 2)])) (.raise "NoWind") .skip))
 (.ex (.meth "Log" ["winds","row","places","standing","undone"] z1p 0 [(.vs (.op pTup [(.c (.str "wind")),(.v 1),(.op z2r [(.comp 1 [] (.nm 0) (.v 2) none (.op pTup [(.op pIx [(.v 0),(.c (.int 0))]),(.op pIx [(.v 0),(.c (.int 1))])]))])]))]))))
def z1c:FnR:=FnR.mk' 3 3 (.seq (.ifp (.op z3D [(.v 1),(.op (pFld "Log" "winds") [(.v 0)])]) (.lift (.raise "NoWind")) .skip)
 (.seq (.ifp (.op pEq [(.op pLen [(.op (pFld "Log" "row") [(.v 0)])]),(.c (.int 12))]) (.lift (.raise "NoDeed")) .skip)
 (.seq (.lift (.ifs (.not (.op z0E [(.v 2)])) (.raise "NoDeed") .skip))
 (.ex (.meth "Log" ["winds","row","places","standing","undone"] z1p 0 [(.vs (.op pTup [(.c (.str "watch")),(.v 1),(.op pTup [(.op pIx [(.v 2),(.c (.int 0))]),(.op pIx [(.v 2),(.c (.int 1))])])]))])))))
def z0k:FnR:=FnR.mk' 2 4 (.seq (.lift (.set 2 (.c (.str "nothing"))))
 (.seq (.tryr (.ifp (.op pEq [(.op pIx [(.v 1),(.c (.int 0))]),(.c (.str "wind"))]) (.set 2 (.meth "Log" ["winds","row","places","standing","undone"] z1o 0 [(.vs (.op pIx [(.v 1),(.c (.int 1))])),(.vs (.op pIx [(.v 1),(.c (.int 2))]))])) (.set 2 (.meth "Log" ["winds","row","places","standing","undone"] z1c 0 [(.vs (.op pIx [(.v 1),(.c (.int 1))])),(.vs (.op pIx [(.v 1),(.c (.int 2))]))]))) ["NoDeed","NoWind"] 3 (.lift (.calm (.set 2 (.op z1n [(.v 3)])))))
 (.lift (.ret (.v 2)))))
def z0D:Fn:=Fn.mkN 1 1 (.ret (.and (.chain pLe pLe (.c (.int 1)) (.op pLen [(.v 0)]) (.c (.int 12))) (.op pAll [(.comp 1 [] (.nm 0) (.v 0) none (.op pInS [(.v 0),(.c (.str "abcdefghijklmnopqrstuvwxyz"))]))])))
def z1R:Fn:=Fn.mkN 1 1 (.ret (.op z2r [(.op zdV [(.op (pFld "Log" "winds") [(.v 0)])])]))
def z1k:Fn:=Fn.mkN 1 1 (.ret (.op z2r [(.op (pFld "Log" "row") [(.v 0)])]))
def z0K:Fn:=Fn.mk' 2 2 (.seq (.ifs (.op z3D [(.v 1),(.op (pFld "Log" "winds") [(.v 0)])]) (.raise "NoWind") .skip)
 (.ret (.op z5z [(.op (pFld "Log" "winds") [(.v 0)]),(.v 1)])))
def z5Q:Fn:=Fn.ofR 1 11 (.seq (.new 1 zjz)
 (.seq (.ex (.meth "Log" ["winds","row","places","standing","undone"] z1o 1 [(.vs (.c (.str "first"))),(.vs (.op pTup [(.op pTup [(.c (.int 1)),(.c (.int 2))]),(.op pTup [(.op pNeg [(.c (.int 3))]),(.c (.int 0))])]))]))
 (.seq (.ex (.meth "Log" ["winds","row","places","standing","undone"] z1c 1 [(.vs (.c (.str "first"))),(.vs (.op pTup [(.c (.int 0)),(.c (.int 1))]))]))
 (.seq (.lift (.own 2 (.op zdW [(.c (.str "first")),(.op pTup [(.op pTup [(.c (.int 1)),(.c (.int 2))]),(.op pTup [(.op pNeg [(.c (.int 3))]),(.c (.int 0))])])])))
 (.seq (.lift (.own 3 (.op pLst [(.op pTup [(.op pTup [(.op pTup [(.c (.int 1)),(.c (.int 2))]),(.op pTup [(.op pNeg [(.c (.int 3))]),(.c (.int 0))])]),(.op pTup [(.c (.int 0)),(.c (.int 1))])])])))
 (.seq (.for_ 4 (.op pAdd [(.op pLst [(.c (.int 0))]),(.v 0)]) (.seq (.lift (.set 5 (.op z0Z [(.v 4)])))
 (.seq (.lift (.unp [] [6,7] (.op z0C [(.v 4)])))
 (.seq (.lift (.set 8 (.c .non)))
 (.seq (.lift (.ifs (.or (.not (.v 7)) (.not (.op z0D [(.v 5)]))) (.set 8 (.c (.str "wind"))) (.dput 2 (.v 5) (.v 6))))
 (.seq (.ifr (.cmp pNe (.call z0k [(.raw 1),(.vs (.op pTup [(.c (.str "wind")),(.v 5),(.v 6)]))]) (.vs (.v 8))) (.lift (.ret (.c (.bl false)))) .skip)
 (.seq (.lift (.set 9 (.op pIx [(.op pLst [(.c (.str "first")),(.v 5),(.op z0u [(.op pMod [(.op z05 [(.v 4),(.c (.int 14))]),(.c (.int 12))])])]),(.op pMod [(.op z05 [(.v 4),(.c (.int 15))]),(.c (.int 3))])])))
 (.seq (.lift (.set 10 (.op z0n [(.v 4),(.c (.int 16)),(.op pIx [(.op pLst [(.c (.int 4)),(.op pPow [(.c (.int 10)),(.c (.int 9))]),(.op pAdd [(.op pPow [(.c (.int 10)),(.c (.int 9))]),(.c (.int 3))]),(.op pPow [(.c (.int 10)),(.c (.int 20))])]),(.op pMod [(.op z05 [(.v 4),(.c (.int 18))]),(.c (.int 4))])])])))
 (.seq (.lift (.ifs (.op pEq [(.op pMod [(.op z05 [(.v 4),(.c (.int 71))]),(.c (.int 3))]),(.c (.int 0))]) (.set 10 (.op z0o [(.v 4),(.op pAdd [(.op pPow [(.c (.int 10)),(.c (.int 9))]),(.c (.int 2))])])) .skip))
 (.seq (.lift (.set 8 (.c .non)))
 (.seq (.lift (.ifs (.op z3D [(.v 9),(.v 2)]) (.set 8 (.c (.str "wind"))) (.ifs (.or (.op pEq [(.op pLen [(.v 3)]),(.c (.int 12))]) (.op pGt [(.op zbg [(.op pAbs [(.op pIx [(.v 10),(.c (.int 0))])]),(.op pAbs [(.op pIx [(.v 10),(.c (.int 1))])])]),(.op pPow [(.c (.int 10)),(.c (.int 9))])])) (.set 8 (.c (.str "deed"))) (.app 3 (.op pTup [(.op z5z [(.v 2),(.v 9)]),(.v 10)])))))
 (.seq (.ifr (.cmp pNe (.call z0k [(.raw 1),(.vs (.op pTup [(.c (.str "watch")),(.v 9),(.v 10)]))]) (.vs (.v 8))) (.lift (.ret (.c (.bl false)))) .skip)
 (.seq (.ifp (.or (.not (.op z0b [(.meth "Log" ["winds","row","places","standing","undone"] z1R (.v 1) []),(.op z2r [(.op z7v [(.op zbh [(.v 2)])])])])) (.not (.op z0b [(.meth "Log" ["winds","row","places","standing","undone"] z1k (.v 1) []),(.op z2r [(.v 3)])]))) (.lift (.ret (.c (.bl false)))) .skip)
 (.ifz 2 (.not (.op pAll [(.comp 1 [2,1] (.nm 0) (.op z6r [(.v 2)]) none (.op z0b [(.meth "Log" ["winds","row","places","standing","undone"] z0K (.v 2) [(.v 0)]),(.op z5z [(.v 1),(.v 0)])]))])) (.lift (.ret (.c (.bl false)))) .skip))))))))))))))
 (.lift (.ret (.c (.bl true))))))))))
end Pu
local macro_rules | `(tactic| walk_at "bt") => `(tactic| first | assumption | (refine L2.Bt.add ?_ ?_ <;> walk_at "bt") | (refine L2.Bt.sub ?_ ?_ <;> walk_at "bt") | (refine L2.Bt.mul ?_ ?_ <;> walk_at "bt") | (refine L2.Bt.neg ?_; walk_at "bt") | exact L2.bt_k (by decide +kernel) | exact L2.bt_n (by omega) (by omega))
local macro_rules | `(tactic| walk_at "mu") => `(tactic| exact⟨L2.Bt.le (by walk_at "bt") (by decide),L2.Bt.le (by walk_at "bt") (by decide)⟩)
local macro_rules | `(tactic| walk_at "ps") => `(tactic| first | assumption | decide | omega)
local macro_rules | `(tactic| walk_at "bb") => `(tactic| first | exact L2.z9w (by decide) (by decide) | exact L2.Bt.le (by walk_at "bt") (by decide) | exact L2.z9w (by omega) (by omega))
local macro_rules | `(tactic| walk_at "sf") => `(tactic| first | exact Pu.Safe.of_noL rfl rfl _ | exact Pu.Safe.of_noL (Pu.z9f _) (Pu.z9h _) _ | (repeat (first | exact trivial | refine⟨trivial,?_⟩)) | assumption)
local macro_rules | `(tactic| walk_at "en") => `(tactic| try simp only[List.set_cons_zero,List.set_cons_succ,wz,vJ,List.replicate,List.cons_append,List.nil_append,Nat.reduceSub,Pu.dem,Pu.vis,Pu.visB,Pu.demB,List.getElem?_cons_zero,List.getElem?_cons_succ,Option.getD_some,Pu.z1G,vo,List.replicate_zero])
local macro_rules | `(tactic| walk_at "st") => `(tactic| first
 | with_reducible refine Pu.e_c ?_
 | ((with_reducible refine Pu.e_v ?_); (refine Pu.z5D ?_))
 | with_reducible refine Pu.zjo ?_
 | with_reducible refine Pu.zjp ?_
 | with_reducible refine Pu.zjn ?_
 | with_reducible refine Pu.zjm ?_
 | with_reducible refine Pu.zjl ?_
 | with_reducible refine Pu.zew ?_
 | with_reducible refine Pu.zga ?_
 | with_reducible refine Pu.zjf ?_
 | with_reducible refine Pu.zj6 ?_
 | with_reducible refine Pu.zj8 ?_
 | ((with_reducible refine Pu.zj9 ?_ ?_); (focus walk_at "mu"))
 | ((with_reducible refine Pu.zhG ?_ ?_ ?_); (focus walk_at "ps"); (focus walk_at "bb"))
 | ((with_reducible refine Pu.zhq ?_ ?_); (focus walk_at "ps"))
 | ((with_reducible refine Pu.zj7 ?_ ?_); (focus exact⟨by decide,by decide,by decide⟩))
 | ((with_reducible refine Pu.zjb ?_); (try refine Pu.z5D ?_))
 | ((with_reducible refine Pu.zjc ?_); (try refine Pu.z5D ?_))
 | with_reducible refine Pu.o_lt ?_
 | with_reducible refine Pu.o_le ?_
 | with_reducible refine Pu.o_gt ?_
 | with_reducible refine Pu.o_ge ?_
 | with_reducible refine Pu.o_eq ?_
 | with_reducible refine Pu.o_ne ?_
 | with_reducible refine Pu.o_is ?_
 | with_reducible refine Pu.zfl ?_
 | with_reducible refine Pu.zhx ?_
 | with_reducible refine Pu.zhv ?_
 | ((with_reducible refine Pu.zj5 ?_ ?_); (focus (simp only[wC,va]; decide)))
 | ((with_reducible refine Pu.zja ?_ ?_); (focus (simp only[wC,va]; decide)))
 | with_reducible refine Pu.zho ?_
 | with_reducible refine Pu.zhn ?_
 | with_reducible refine Pu.zhu ?_
 | with_reducible refine Pu.zht ?_
 | with_reducible refine Pu.zjg ?_
 | with_reducible refine Pu.zhE ?_
 | with_reducible refine Pu.zhF ?_
 | with_reducible refine Pu.zhC ?_
 | with_reducible refine Pu.zhD ?_
 | with_reducible refine Pu.zhy ?_
 | with_reducible refine Pu.zhB ?_
 | with_reducible refine Pu.zhz ?_
 | with_reducible refine Pu.zhA ?_
 | with_reducible refine Pu.zhs ?_
 | with_reducible refine Pu.zhr ?_
 | with_reducible refine Pu.zjs ?_
 | with_reducible refine Pu.e_or ?_
 | with_reducible refine Pu.zjq ?_
 | with_reducible refine Pu.n_bl ?_
 | with_reducible refine Pu.zjr ?_
 | with_reducible refine Pu.zi7 ?_
 | with_reducible refine Pu.zhZ ?_
 | with_reducible refine Pu.zjj ?_
 | with_reducible refine Pu.e_sl ?_
 | with_reducible refine Pu.zjk ?_
 | with_reducible refine Pu.zh5 ?_
 | with_reducible refine Pu.zh4 ?_
 | with_reducible refine Pu.zhY ?_
 | with_reducible refine Pu.zjy ?_
 | with_reducible refine Pu.zjx ?_
 | with_reducible refine Pu.zam ?_
 | with_reducible refine Pu.z89 ?_
 | with_reducible refine Pu.zg3 ?_
 | with_reducible refine Pu.zit ?_
 | with_reducible refine Pu.ziv ?_
 | with_reducible refine Pu.zg2 ?_
 | with_reducible refine Pu.s_if ?_
 | with_reducible refine Pu.ziu ?_
 | with_reducible refine Pu.zg4 ?_
 | with_reducible refine Pu.zg1 ?_
 | with_reducible refine Pu.s_ex ?_
 | with_reducible refine Pu.zeq ?_
 | with_reducible refine Pu.zg7 ?_
 | ((with_reducible refine Pu.zix ?_); (walk_at "en"))
 | with_reducible refine Pu.zeu ?_
 | with_reducible refine Pu.zet ?_
 | ((with_reducible refine Pu.zfW ?_ ?_); (focus walk_at "sf"); (walk_at "en"))
 | ((with_reducible refine Pu.zjw ?_); (walk_at "en"))
 | ((with_reducible refine Pu.zie ?_); (walk_at "en")))
local macro_rules | `(tactic| walk_at "go") => `(tactic| repeat walk_at "st")
local macro_rules | `(tactic| walk_at "fn") => `(tactic| ((refine Pu.ziA rfl ?_); (walk_at "en")))
local macro_rules | `(tactic| walk_at "fe") => `(tactic| ((refine Pu.ziB rfl ?_); (walk_at "en")))
local macro_rules | `(tactic| ac_nf) => `(tactic| walk_at "go")
local macro_rules | `(tactic| ac_rfl) => `(tactic| walk_at "en")
namespace Pu
open PySem L2 Tim
def z44 {n:Nat}(h:n<=1000):n<=sizeLine:=wQ h (by decide)
def z3a {c k:Int}{Q:DK}{X:XP}(hk:0<=k)(hk':k<=1000)(q:∀m:Int,0<=m->m<2305843009213693951->Q (.int m)):z05.run [.int c,.int k] Q X:=by
 have bk:Bt 640 k:=z3q (by omega);have b1:Bt 700 (c % 2305843009213693951+31*k+7):=z3q (n:=700) (by omega);walk_at "fn";ac_nf;have h1:0<=(c % 2305843009213693951+31*k+7)*48271 % 2305843009213693951/\(c % 2305843009213693951+31*k+7)*48271 % 2305843009213693951<2305843009213693951:=by omega
 generalize (c % 2305843009213693951+31*k+7)*48271 % 2305843009213693951=z at*;have bz:Bt 70 z:=z3q (by omega);ac_nf;have h2:0<=z*z % 2305843009213693951/\z*z % 2305843009213693951<2305843009213693951:=by omega
 generalize z*z % 2305843009213693951=y at*;have by_:Bt 70 y:=z3q (by omega);ac_nf;exact q _ (by omega) (by omega)
def zdE {c k m:Int}{Q:DK}{X:XP}(hk:0<=k)(hk':k<=900)(hm:0<=m)(hm':m<=100000000000000000000)(q:∀x y:Int,-m<=x->x<=m -> -m<=y->y<=m->Q (.tup [.int x,.int y])):z0n.run [.int c,.int k,.int m] Q X:=by
 have bm:Bt 640 m:=z3q (by omega);walk_at "fn";ac_nf;refine z3a hk (by omega) λr r0 r1 =>?_;ac_nf;refine z3a (by omega) (by omega) λu u0 u1 =>?_;ac_nf;have h1:=vY r (show 2*m+1≠0 by omega);have h2:=vV r (show 0<2*m+1 by omega);have h3:=vY u (show 2*m+1≠0 by omega);have h4:=vV u (show 0<2*m+1 by omega);exact q _ _ (by omega) (by omega) (by omega) (by omega)
def zdH {c m:Int}{Q:DK}{X:XP}(hm:0<=m)(hm':m<=1000000002)(q:∀x y:Int,-m<=x->x<=m -> -m<=y->y<=m->Q (.tup [.int x,.int y])):z0o.run [.int c,.int m] Q X:=by
 have bm:Bt 640 m:=z3q (by omega);have bw:Bt 640 (2*m+1):=z3q (by omega);walk_at "fn";ac_nf;have h1:=vY c (show 2*m+1≠0 by omega);have h2:=vV c (show 0<2*m+1 by omega);have h3:=vY (c / (2*m+1)) (show 2*m+1≠0 by omega);have h4:=vV (c / (2*m+1)) (show 0<2*m+1 by omega);exact q _ _ (by omega) (by omega) (by omega) (by omega)
def zfm {i:Int}{Q:DK}{X:XP}(h:0<=i)(h':i<26)(q:∀c,Q (.str ⟨#[c]⟩)):pIx.run [.str "abcdefghijklmnopqrstuvwxyz",.int i] Q X:=by
 refine⟨by decide,?_⟩;have hl:(("abcdefghijklmnopqrstuvwxyz":Str).cps.toList).length=26:=by decide +kernel
 obtain⟨n,rfl⟩:=Int.eq_ofNat_of_zero_le h;have hn:n<(("abcdefghijklmnopqrstuvwxyz":Str).cps.toList).length:=by omega
 exact⟨_,z4Y (wq hn),q _⟩
def zav {x y:Str}:(x++y).length=x.length+y.length:=by
 show (x.cps++y.cps).size=x.cps.size+y.cps.size;simp
def ze1 {x y:Str}{Q:DK}{X:XP}(h:x.length+y.length<=1000)(q:Q (.str (x++y))):pAdd.run [.str x,.str y] Q X:=⟨z44 h,q⟩
def zdG {n:Int}{Q:DK}{X:XP}(h:0<=n)(h':n<12)(q:∀x:Str,x.length<=13->Q (.str x)):z0u.run [.int n] Q X:=by
 have bn:Bt 640 n:=z3q (by omega);walk_at "fn";ac_nf;refine zfm (by omega) (by omega) λc =>?_;ac_nf;refine⟨⟨by omega,by omega⟩,?_⟩;refine z5f (f:=λ(k:Nat)=>D.int (k:Int)) (λdn ρ=>∃(x:Str) (b:B),x.length<=1+dn.length/\ρ=[.s (.int n),.s (.str "abcdefghijklmnopqrstuvwxyz"),.s (.str x),b]) ⟨_,_,wc _,rfl⟩ ?_ ?_
 ·rintro dn k rest ρ e ⟨x,b,hx,rfl⟩;have hk:k<(n / 3 % 2*11).toNat:=by
   have:=congrArg (λl=>k∈l) e;simp only[um,wE,wx,true_or,or_true,eq_iff_iff,iff_true] at this;exact this
  have hl:dn.length<=11:=by
   have:=congrArg List.length e;simp at this;omega
  have bk:Bt 640 (k:Int):=z3q (by omega);show Sm.run _ _ _ _ _;ac_rfl;ac_nf;refine zfm (by omega) (by omega) λc =>?_;ac_nf;refine ze1 (by show x.length+1<=1000; omega) ?_;ac_nf;exact⟨_,_,by rw[zav]; show x.length+1<=_; rw[wG]; show _<=1+(dn.length+1); omega,rfl⟩
 ·rintro ρ ⟨x,b,hx,rfl⟩;ac_nf;refine q x ?_;rw[vG] at hx;omega
def zaJ {c:Int}{Q:DK}{X:XP}(q:∀x:Str,x.length<=13->Q (.str x)):z18.run [.int c] Q X:=by
 walk_at "fn";ac_nf;have h1:0<=c % 12/\c % 12<12:=by omega
 refine⟨⟨by omega,by omega⟩,?_⟩;refine z5f (f:=λ(k:Nat)=>D.int (k:Int)) (λdn ρ=>∃(x:Str) (r:Int) (b:B),x.length<=dn.length/\ρ=[.s (.int c),.s (.str "abcdefghijklmnopqrstuvwxyz"),.s (.str x),.s (.int r),b]) ⟨_,_,_,wc _,rfl⟩ ?_ ?_
 ·rintro dn k rest ρ e ⟨x,r,b,hx,rfl⟩;have hl:dn.length<=12:=by
   have:=congrArg List.length e;simp at this;omega
  show Sm.run _ _ _ _ _;ac_rfl;ac_nf;refine zfm (by omega) (by omega) λc =>?_;ac_nf;refine ze1 (by show x.length+1<=1000; omega) ?_;ac_nf;exact⟨_,_,_,by rw[zav]; show x.length+1<=_; rw[wG]; show _<=(dn.length+1); omega,rfl⟩
 ·rintro ρ ⟨x,r,b,hx,rfl⟩;ac_nf;refine q x ?_;rw[vG] at hx;omega
def ix8 {i:Int}{l:List D}{Q:DK}(h:0<=i)(h':i<l.length)(q:∀d∈l,Q d):onV (atI l i) Q:=by
 obtain⟨n,rfl⟩:=Int.eq_ofNat_of_zero_le h;have hn:n<l.length:=by omega
 rw[z4Y (wq hn)];exact q _ (List.getElem_mem hn)
def zfY {c:Int}{Q:DK}{X:XP}(q:∀x:Str,x.length<=13->Q (.str x)):z0Z.run [.int c] Q X:=by
 walk_at "fn";ac_nf;refine z3a (by omega) (by omega) λm m0 m1 =>?_;ac_nf;refine z3U (λ_ =>?_) (λ_ =>?_)
 ·ac_nf;refine z3a (by omega) (by omega) λu u0 u1 =>?_;ac_nf;refine ix8 (by omega) (by show _<(8:Int); omega) λd hd =>?_;simp only[wx,wN,vO] at hd
  rcases hd with rfl | rfl | rfl | rfl | rfl | rfl | rfl | rfl
  all_goals exact q _ (by decide +kernel)
 ·ac_nf;refine z3a (by omega) (by omega) λu u0 u1 =>?_;ac_nf;refine z3U (λ_ =>?_) (λ_ =>?_)
  ·ac_nf;exact zaJ q
  ·ac_nf;refine z3a (by omega) (by omega) λv v0 v1 =>?_;ac_nf;exact zdG (by omega) (by omega) q
def isW (x:Str):Bool:=decide (1<=(x.length:Int)) && (decide ((x.length:Int)<=12) && (x.cps.toList.map λc => !(Builtin.Str.occurrences "abcdefghijklmnopqrstuvwxyz" ⟨#[c]⟩ 0 ("abcdefghijklmnopqrstuvwxyz":Str).length 1).isEmpty).all id)
def zhw {x:Str}{Q:DK}{X:XP}(h:x.length<=1000)(q:Q (.int (x.length:Int))):pLen.run [.str x] Q X:=⟨z44 h,q⟩
def z8C {F F':Fn}{a b c:Ex}{ρ:Pu.Env}{Q:DK}{X:XP}(q:a.run ρ (λx=>b.run ρ (λy=>F.run [x,y] (λd=>tst d (c.run ρ (λz=>F'.run [y,z] Q X) X) (Q (.bl false))) X) X) X):(Ex.chain F F' a b c).run ρ Q X:=q
def zjd {x y:Str}{Q:DK}{X:XP}(q:Q (.bl (!(Builtin.Str.occurrences y x 0 y.length 1).isEmpty))):pInS.run [.str x,.str y] Q X:=⟨x,y,rfl,rfl,q⟩
def zdI {x:Str}{Q:DK}{X:XP}(h:x.length<=13)(q:Q (.bl (isW x))):(Sm.ret (.and (.chain pLe pLe (.c (.int 1)) (.op pLen [(.v 0)]) (.c (.int 12))) (.op pAll [(.comp 1 [] (.nm 0) (.v 0) none (.op pInS [(.v 0),(.c (.str "abcdefghijklmnopqrstuvwxyz"))]))]))).run [.s (.str x)] (λ_=>Q .non) Q X:=by
 unfold isW at q;ac_nf;refine z8C ?_;ac_nf;refine zhw (by omega) ?_;ac_nf;refine z3U (λh1 =>?_) (λh1 =>?_)
 ·rw[wH h1] at q;ac_nf;refine z3U (λh2 =>?_) (λh2 =>?_)
  ·rw[wH h2] at q;ac_nf;show _/\_;refine⟨?_,?_⟩
   ·rw[wA];show x.cps.toList.length<sizeLine;rw[wL];exact wg (show x.length<1000 by omega) (z44 (wc _))
   ·refine z4F (g:=λc=>D.bl (!(Builtin.Str.occurrences "abcdefghijklmnopqrstuvwxyz" ⟨#[c]⟩ 0 ("abcdefghijklmnopqrstuvwxyz":Str).length 1).isEmpty)) (λc _ K hK =>?_) ?_
    ·ac_nf;refine zjd ?_;exact hK
    ·refine⟨x.cps.toList.map λc => !(Builtin.Str.occurrences "abcdefghijklmnopqrstuvwxyz" ⟨#[c]⟩ 0 ("abcdefghijklmnopqrstuvwxyz":Str).length 1).isEmpty,by rw[vf]; rfl,?_⟩;exact q
  ·rw[wB h2] at q;ac_nf;exact q
 ·rw[wB h1] at q;ac_nf;exact q
def zaI {x:Str}{Q:DK}{X:XP}(h:x.length<=13)(q:Q (.bl (isW x))):z4z.run [.str x] Q X:=⟨rfl,zdI h q⟩
def z6I {x:Str}{Q:DK}{X:XP}(h:x.length<=13)(q:Q (.bl (isW x))):z0D.run [.str x] Q X:=⟨rfl,zdI h q⟩
def za3:isW "first"=true:=by decide +kernel
def inB (i:Int):Bool:=decide (-1000000000<=i) && decide (i<=1000000000)
def Sp1 (d:D)(b:Bool):Prop:=∀(Q:DK) (X:XP),Q (.bl b)->z35.run [d] Q X
def z2y (i:Int):Sp1 (.int i) (inB i):=λQ X q=>by
 unfold inB at q;walk_at "fn";ac_nf;refine z1E (by decide) ?_;ac_nf;refine z1E (by decide) ?_;ac_nf;refine z8C ?_;ac_nf;refine z3U (λh1 =>?_) (λh1 =>?_)
 ·rw[wH h1] at q;ac_nf;exact q
 ·rw[wB h1] at q;exact q
def zaw {d:D}(h:d = .non\/(∃b,d = .bl b)\/(∃x,d = .str x)\/∃l,d = .tup l):Sp1 d false:=λQ X q=>by
 rcases h with rfl | ⟨b,rfl⟩ | ⟨x,rfl⟩ | ⟨l,rfl⟩
 ·walk_at "fn";ac_nf;refine z3r rfl ?_;ac_nf;exact q
 ·walk_at "fn";ac_nf;refine z1E (by decide) ?_;ac_nf;refine z3r (by decide) ?_;ac_nf;exact q
 ·walk_at "fn";ac_nf;refine z3r (by decide) ?_;ac_nf;exact q
 ·walk_at "fn";ac_nf;refine z3r (by decide) ?_;ac_nf;exact q
def Sv (d:D)(b:Bool):Prop:=∀(Q:DK) (X:XP),Q (.bl b)->z0E.run [d] Q X
def z2V {a c:D}{x y:Bool}(ha:Sp1 a x)(hc:Sp1 c y):Sv (.tup [a,c]) (x && y):=λQ X q=>by
 walk_at "fn";ac_nf;refine z3r (by decide) ?_;ac_nf;refine zfG rfl ?_;ac_nf;refine ha _ _ ?_;refine t_bl (λh =>?_) (λh =>?_)
 ·subst h;ac_nf;exact hc _ _ q
 ·subst h;exact q
def zdC {l:List D}(h:(l.length:Int)≠2):Sv (.tup l) false:=λQ X q=>by
 walk_at "fn";ac_nf;refine z3r (by decide) ?_;ac_nf;refine t_no h ?_;exact q
def zel {d:D}(h:d = .non\/(∃i,d = .int i)\/∃l,d = .lst l):Sv d false:=λQ X q=>by
 rcases h with rfl | ⟨b,rfl⟩ | ⟨x,rfl⟩
 ·walk_at "fn";ac_nf;exact q
 ·walk_at "fn";ac_nf;refine z1E (by decide) ?_;exact q
 ·walk_at "fn";ac_nf;refine z1E (by decide) ?_;exact q
def Iw (d:D)(b:Bool):Prop:=∀(Q:DK) (X:XP),Q (.bl b)->z4A.run [d] Q X
def zbB {d:D}(h:d = .non\/(∃i,d = .int i)\/(∃b,d = .bl b)\/(∃x,d = .str x)\/∃l,d = .lst l):Iw d false:=λQ X q=>by
 rcases h with rfl | ⟨b,rfl⟩ | ⟨b,rfl⟩ | ⟨b,rfl⟩ | ⟨x,rfl⟩
 ·walk_at "fn";ac_nf;refine z3r rfl ?_;ac_nf;exact q
 all_goals
  walk_at "fn";ac_nf;refine z3r (by decide) ?_;ac_nf;exact q
theorem z7P {G:D->(Option D->Prop)->Prop}:∀(l:List D) (bs:List Bool) (M:List D->Prop),bs.length=l.length->(∀(i:Nat) (d:D) (b:Bool),l[i]? = some d->bs[i]? = some b->∀K:Option D->Prop,K (some (.bl b))->G d K)->M (bs.map .bl)->z4G G l M
 | [],[],_,_,_,q=>q
 | [],_::_,_,h,_,_=>by simp at h
 | _::_,[],_,h,_,_=>by simp at h
 | d::l,b::bs,M,h,hg,q=>hg 0 d b rfl rfl _ (z7P l bs _ (by simpa using h) (λi d b e1 e2=>hg (i+1) d b (by simpa using e1) (by simpa using e2)) q)
def z9n {l:List D}{bs:List Bool}(h:bs.length=l.length)(hz:l.length<=1000)(hs:∀(i:Nat) (d:D) (b:Bool),l[i]? = some d->bs[i]? = some b->Sv d b):Iw (.tup l) (decide (1<=(l.length:Int)) && (decide ((l.length:Int)<=12) && bs.all id)):=λQ X q=>by
 walk_at "fn";ac_nf;refine z1E (by decide) ?_;ac_nf;refine z8C ?_;ac_nf;refine z3U (λh1 =>?_) (λh1 =>?_)
 ·rw[wH h1] at q;ac_nf;refine zfH (λh2 =>?_) (λh2 =>?_)
  ·rw[wB h2] at q;ac_nf;exact q
  ·rw[wH h2] at q;ac_nf;refine⟨Nat.lt_of_le_of_lt hz (by decide),?_⟩;refine z7P l bs _ h (λi d b e1 e2 K hK =>?_) ?_
   ·ac_nf;exact hs i d b e1 e2 _ _ hK
   ·exact⟨bs,rfl,q⟩
 ·rw[wB h1] at q;refine z3r rfl ?_;ac_nf;exact q
def inV (p:Int × Int):Bool:=inB p.1 && inB p.2
def zas (p:Int × Int):Sv (vec p) (inV p):=z2V (z2y p.1) (z2y p.2)
def zbA {vs:List (Int × Int)}(h1:vs≠[])(h2:vs.length<=12)(hb:∀p∈vs,inV p=true):Iw (vecs vs) true:=by
 have:=z9n (l:=vs.map vec) (bs:=vs.map inV) (by rw[wA,wA]) (by rw[wA]; omega) λi d b e1 e2=>by
  rw[wI] at e1 e2
  cases z:vs[i]? with
  | none=>rw[z] at e1; cases e1
  | some p=>
   rw[z] at e1 e2
   cases e1; cases e2
   exact zas p
 have hl:1<=vs.length:=by
  cases vs with
  | nil=>exact(h1 rfl).elim
  | cons=>simp
 have e:(decide (1<=(((vs.map vec).length:Nat):Int)) && (decide ((((vs.map vec).length:Nat):Int)<=12) && (vs.map inV).all id))=true:=by
  rw[wA,wH (by omega),wH (by omega),Bool.true_and,Bool.true_and,List.all_map,vQ];exact hb
 rw[e] at this;exact this
def zhW {l:List D}(hz:l.length<=1000)(hs:∀d∈l,∃b,Sv d b)(ho:∃d∈l,Sv d false):Iw (.tup l) false:=by
 have pick:∀(l:List D),(∀d∈l,∃b,Sv d b)->∃bs:List Bool,bs.length=l.length/\(∀(i:Nat) (d:D) (b:Bool),l[i]? = some d->bs[i]? = some b->Sv d b):=by
  intro l
  induction l with
  | nil=>intro _; exact⟨[],rfl,λi d b e=>by simp at e⟩
  | cons x l ih=>
   intro h;obtain⟨bs,h1,h2⟩:=ih λd hd=>h d (wj _ hd);obtain⟨b,hb⟩:=h x wt;refine⟨b::bs,by rw[wC,wC,h1],λi d c e1 e2 =>?_⟩
   cases i with
   | zero=>simp at e1 e2; subst e1 e2; exact hb
   | succ i=>exact h2 i d c (by simpa using e1) (by simpa using e2)
 obtain⟨d,hd,hf⟩:=ho;obtain⟨k,hk⟩:=List.getElem?_of_mem hd;obtain⟨bs,h1,h2⟩:=pick l hs;have kl:k<bs.length:=by rw[h1]; exact(wb.mp hk).1
 have:=z9n (l:=l) (bs:=bs.set k false) (by rw[ui,h1]) hz λi d' b e1 e2=>by
  by_cases hi:i=k
  ·subst hi;rw[wk kl] at e2
   cases e2
   rw[hk] at e1
   cases e1
   exact hf
  ·rw[we (wU hi)] at e2;exact h2 i d' b e1 e2
 have e:(bs.set k false).all id=false:=by
  cases z:(bs.set k false).all id with
  | false=>rfl
  | true=>
   have:=vQ.mp z false (wP (wk kl))
   cases this
 rw[e,vv,vv] at this;exact this
def pow9:(10:Int) ^ (9:Int).toNat=1000000000:=by decide
def zgS:(10:Int) ^ (12:Int).toNat=1000000000000:=by decide
def zgR:(10:Int) ^ (20:Int).toNat=100000000000000000000:=by decide
def ze6 {x y:Int}(h1 : -1000000000<=x)(h2:x<=1000000000)(h3 : -1000000000<=y)(h4:y<=1000000000):inV (x,y)=true:=by
 unfold inV inB;rw[wH h1,wH h2,wH h3,wH h4]
 rfl
def zis {c:Int}{Q:DK}{X:XP}(q:∀vs:List (Int × Int),vs≠[]->vs.length<=12->(∀p∈vs,inV p=true)->Q (vecs vs)):z0y.run [.int c,.int 1000000000] Q X:=by
 walk_at "fn";ac_nf;refine⟨(λ_ z=>nomatch z),?_⟩;ac_rfl;ac_nf;have h1:0<=c % 12/\c % 12<12:=by omega
 refine⟨⟨by omega,by omega⟩,?_⟩;refine z5f (f:=λ(k:Nat)=>D.int (k:Int)) (λdn ρ=>∃(vs:List (Int × Int)) (r:Int) (b:B),vs.length=dn.length/\(∀p∈vs,inV p=true)/\ρ=[.s (.int c),.s (.int 1000000000),.s (.int r),.o (.lst (vs.map vec)),b]) ⟨[],_,_,rfl,(λp hp=>by cases hp),rfl⟩ ?_ ?_
 ·rintro dn k rest ρ e ⟨vs,r,b,hl,hv,rfl⟩;have hl':dn.length<=12:=by
   have:=congrArg List.length e;simp at this;omega
  show Sm.run _ _ _ _ _;ac_rfl;refine zg3 ?_;refine zg8 (l:=[]) ?_;show Ex.run _ _ _ _;ac_nf;refine zdH (by omega) (by omega) λx y x1 x2 y1 y2 =>?_;refine⟨by rw[wA]; exact wg (show vs.length<1000 by omega) (z44 (wc _)),Safe.of_noL rfl rfl _,?_⟩;ac_rfl;ac_nf;refine⟨vs++[(x,y)],_,_,by rw[wG,wG,hl]; rfl,λp hp =>?_,by rw[vH]; rfl⟩
  rcases wE.mp hp with z | z
  ·exact hv p z
  ·rw[ww.mp z]; exact ze6 x1 x2 y1 y2
 ·rintro ρ ⟨vs,r,b,hl,hv,rfl⟩;rw[vG] at hl;ac_nf;refine q vs (λz =>?_) (by omega) hv;rw[z] at hl;simp at hl;omega
def ziw {p:Int × Int}{c:Int}{Q:DK}{X:XP}(q:∀d,Sv d false->(∀a,d ≠ .ptr a)->Q d):z0O.run [vec p,.int c] Q X:=by
 walk_at "fn";ac_nf;refine z3a (by omega) (by omega) λm m0 m1 =>?_;ac_nf;refine z3a (by omega) (by omega) λu u0 u1 =>?_;ac_nf;refine ix8 (by omega) (by show _<(2:Int); omega) λd hd =>?_;obtain⟨far,rfl,f0,f1⟩:∃far:Int,d = .int far/\0<far/\far<=1000000000000:=by
  simp only[wx,wN,vO] at hd
  rcases hd with rfl | rfl
  ·exact⟨_,rfl,by omega,by omega⟩
  ·exact⟨_,rfl,by rw[zgS]; omega,by rw[zgS]; omega⟩
 ac_nf;rw[pow9];have h1:=vY m (show far≠0 by omega);generalize m % far=r at*;obtain⟨x,y⟩:=p;ac_nf;refine zhH (by show 3<=sizeLine; decide) ?_;ac_nf;refine zbp (by show 11<=sizeLine; decide) ?_;ac_nf;refine zbp (by show 13<=sizeLine; decide) ?_;ac_nf;refine z3a (by omega) (by omega) λv v0 v1 =>?_;ac_nf;refine ix8 (by omega) (by show _<(13:Int); omega) λd hd =>?_;have far1:inB (1000000000+1+r)=false:=by unfold inB; rw[wB (show ¬ (1000000000+1+r<=1000000000) by omega),vv]
 have far2:inB (-(1000000000+1+r))=false:=by unfold inB; rw[wB (show ¬ (-1000000000 <= -(1000000000+1+r)) by omega),v7]
 simp only[List.cons_append,List.nil_append,wx,wN,vO] at hd
 rcases hd with rfl | rfl | rfl | rfl | rfl | rfl | rfl | rfl | rfl | rfl | rfl | rfl | rfl
 ·exact q _ (zel (.inr (.inr ⟨_,rfl⟩))) λ_ z=>by cases z
 ·exact q _ (zdC (by show (3:Int)≠2; decide)) λ_ z=>by cases z
 ·exact q _ (zdC (by show (1:Int)≠2; decide)) λ_ z=>by cases z
 ·have:=z2V (z2y (1000000000+1+r)) (z2y y);rw[far1,v7] at this;exact q _ this λ_ z=>by cases z
 ·have:=z2V (z2y x) (z2y (-(1000000000+1+r)));rw[far2,vv] at this;exact q _ this λ_ z=>by cases z
 ·have:=z2V (z2y (-(1000000000+1+r))) (z2y y);rw[far2,v7] at this;exact q _ this λ_ z=>by cases z
 ·exact q _ (z2V (y:=inB y) (zaw (.inr (.inl ⟨_,rfl⟩))) (z2y y)) λ_ z=>by cases z
 ·have:=z2V (z2y x) (zaw (d :=.non) (.inl rfl));rw[vv] at this;exact q _ this λ_ z=>by cases z
 ·exact q _ (z2V (y:=inB y) (zaw (.inr (.inr (.inl ⟨_,rfl⟩)))) (z2y y)) λ_ z=>by cases z
 ·exact q _ (zel (.inr (.inl ⟨_,rfl⟩))) λ_ z=>by cases z
 ·exact q _ (zel (.inl rfl)) λ_ z=>by cases z
 ·exact q _ (z2V (x:=false) (y:=false) (zaw (.inr (.inr (.inr ⟨_,rfl⟩)))) (zaw (.inr (.inr (.inr ⟨_,rfl⟩))))) λ_ z=>by cases z
 ·have:=z2V (z2y x) (z2y (1000000000+1+r));rw[far1,vv] at this;exact q _ this λ_ z=>by cases z
def zg5 {i:Nat}{k:Ex}{F:Fn}{es:List Ex}{ρ:Pu.Env}{N:Pu.Env->Prop}{Q:DK}{X:XP}(h:ownL ρ i λl=>runs es ρ (λds=>(∀d∈ds,Pr d)/\F.run ds (λd=>k.run ρ (λkd=>isI kd λz=>onN (ixN l.length z) λj=>N (ρ.set i (.o (.lst (l.set j d))))) X) X) X):(Sm.putc i k F es).run ρ N Q X:=h
structure Wnd (w:D)(good:Bool):Prop where
 iw:Iw w good
 np:∀a,w ≠ .ptr a
 ok:good=true->∃vs:List (Int × Int),w=vecs vs/\vs.length<=12
def zaE {c:Int}{Q:DK}{X:XP}(q:∀w good,Wnd w good->Q (.tup [w,.bl good])):z0C.run [.int c] Q X:=by
 walk_at "fn";ac_nf;refine z3a (by omega) (by omega) λm m0 m1 =>?_;ac_nf;refine ix8 (by omega) (by show _<(2:Int); omega) λd hd =>?_;obtain⟨most,rfl,f0,f1⟩:∃far:Int,d = .int far/\0<=far/\far<=1000000000:=by
  simp only[wx,wN,vO] at hd
  rcases hd with rfl | rfl
  ·exact⟨_,rfl,by omega,by omega⟩
  ·exact⟨_,rfl,by rw[pow9]; omega,by rw[pow9]; omega⟩
 ac_nf;refine z3a (by omega) (by omega) λu u0 u1 =>?_;ac_nf;refine ix8 (by omega) (by show _<(4:Int); omega) λd hd2 =>?_;obtain⟨many,rfl,g0,g1⟩:∃n:Int,d = .int n/\1<=n/\n<=12:=by
  simp only[wx,wN,vO] at hd2
  rcases hd2 with rfl | rfl | rfl | rfl
  all_goals exact⟨_,rfl,by omega,by omega⟩
 ac_nf;refine⟨⟨by omega,by omega⟩,?_⟩;ac_nf;refine⟨by rw[wA,vG]; exact wg (show many.toNat<1000 by omega) (z44 (wc _)),?_⟩;refine z7Q (g:=vec) (P:=λ_ p=>inV p=true) (λk hk K hK =>?_) λvs hl hv =>?_
 ·have hk':=um.mp hk;have bk:Bt 640 (k:Int):=z3q (by omega);ac_nf;refine zdE (by omega) (by omega) f0 (by omega) λx y x1 x2 y1 y2 =>?_;exact hK (x,y) (ze6 (by omega) (by omega) (by omega) (by omega))
 have hv':∀p∈vs,inV p=true:=λp hp=>(hv p hp).elim λ_ z=>z.2;rw[vG] at hl;refine⟨λ_ _=>by walk_at "sf",?_⟩;ac_rfl;refine Sm.cut (λρ'=>∃ws:List (Int × Int),ws≠[]/\ws.length<=12/\(∀p∈ws,inV p=true)/\ρ'=[.s (.int c),.s (.int most),.s (.int (ws.length:Int)),.o (.lst (ws.map vec)),.n,.n]) ?_ ?_
 ·ac_nf;refine z3a (by omega) (by omega) λv v0 v1 =>?_;ac_nf;refine z3U (λ_ =>?_) (λ_ =>?_)
  ·ac_nf;rw[pow9];refine zis λws w1 w2 w3 =>?_;ac_nf;refine⟨λ_ _=>by walk_at "sf",?_⟩;ac_rfl;ac_nf;refine⟨ws,w1,w2,w3,?_⟩;rw[wA]
  ·ac_nf;refine⟨vs,λz =>?_,by omega,hv',?_⟩
   ·rw[z] at hl; simp at hl; omega
   ·rw[hl,Int.toNat_of_nonneg (by omega)]
 rintro ρ ⟨ws,w1,w2,w3,rfl⟩;have wl:1<=ws.length:=by
  cases ws with
  | nil=>exact(w1 rfl).elim
  | cons=>simp
 ac_nf;refine z3a (by omega) (by omega) λv v0 v1 =>?_;ac_nf;have way0:0<=v % 12/\v % 12<12:=by omega
 generalize v % 12=way at*;refine z3a (by omega) (by omega) λt t0 t1 =>?_;ac_nf;have at0:=vY t (show (ws.length:Int)≠0 by omega);have at1:=vV t (show 0<(ws.length:Int) by omega);generalize t % (ws.length:Int)=a at*;obtain⟨a,rfl⟩:=Int.eq_ofNat_of_zero_le at0;have ha:a<ws.length:=by omega
 have hat:(ws.map vec)[a]? = some (vec ws[a]):=by rw[wI,wq ha]; rfl
 refine z3U (λhw =>?_) (λhw =>?_)
 ·ac_nf;refine zg5 ?_;show runs _ _ _ _;ac_nf;rw[z4Y hat];refine z5D ?_;ac_nf;refine⟨λd hd =>?_,?_⟩
  ·simp only[wx,wN,vO] at hd
   rcases hd with rfl | rfl <;> exact⟨rfl,rfl⟩
  refine ziw λd hsv hnp =>?_;ac_nf;have hix:ixN (ws.map vec).length (a:Int)=some a:=by
   unfold ixN;rw[wA];simp;omega
  rw[hix];show Sm.run _ _ _ _ _;ac_rfl;ac_nf;refine t_no (by omega) ?_;ac_nf;refine t_no (by omega) ?_;ac_nf;rw[wB (show ¬ 5<way by omega)];refine q _ _ ⟨?_,(λ_ z=>by cases z),λz=>by cases z⟩;have hl':((ws.map vec).set a d).length<=1000:=by rw[ui,wA]; omega
  refine zhW hl' (λe he =>?_) ⟨d,?_,hsv⟩
  ·rcases List.mem_or_eq_of_mem_set he with z | z
   ·obtain⟨p,_,rfl⟩:=vq.mp z;exact⟨_,zas p⟩
   ·exact⟨false,by rw[z]; exact hsv⟩
  ·exact wP (wk (by rw[wA]; exact ha))
 ·ac_nf;refine z3U (λh4 =>?_) (λh4 =>?_)
  ·ac_nf;exact q _ _ ⟨zbB (.inr (.inr (.inr (.inr ⟨_,rfl⟩)))),(λ_ z=>by cases z),λz=>by cases z⟩
  ·ac_nf;refine z3U (λh5 =>?_) (λh5 =>?_)
   ·ac_nf;have h0:(ws.map vec)[0]? = some (vec ws[0]):=by rw[wI,wq (by omega)]; rfl
    rw[show (0:Int)=((0:Nat):Int) from rfl,z4Y h0];refine z5D ?_;ac_nf;refine⟨⟨by decide,by decide,by show 1<=1000; decide,by intro z; cases z⟩,?_⟩;ac_nf;refine z3a (by omega) (by omega) λy y0 y1 =>?_;ac_nf;refine ix8 (by omega) (by show _<(6:Int); omega) λd hd =>?_;ac_nf;refine q _ _ ?_;simp only[wx,wN,vO] at hd
    rcases hd with rfl | rfl | rfl | rfl | rfl | rfl
    ·exact⟨z9n (l:=[]) (bs:=[]) rfl (by decide) λi d b e=>by simp at e,(λ_ z=>by cases z),λz=>by cases z⟩
    ·refine⟨?_,(λ_ z=>by cases z),λz=>by cases z⟩;have e:(List.replicate (13:Int).toNat [vec ws[0]]).flatten=List.replicate 13 (vec ws[0]):=rfl;rw[e];have:=z9n (l:=List.replicate 13 (vec ws[0])) (bs:=List.replicate 13 (inV ws[0])) rfl (by rw[wZ]; decide) λi d b e1 e2=>by
      have m1:=List.eq_of_mem_replicate (wP e1);have m2:=List.eq_of_mem_replicate (wP e2);rw[m1,m2];exact zas _
     rw[wZ,wB (show ¬ (((13:Nat):Int)<=12) by decide),v7,vv] at this;exact this
    ·exact⟨zbB (.inr (.inl ⟨_,rfl⟩)),(λ_ z=>by cases z),λz=>by cases z⟩
    ·exact⟨zbB (.inl rfl),(λ_ z=>by cases z),λz=>by cases z⟩
    ·exact⟨zbB (.inr (.inr (.inr (.inl ⟨_,rfl⟩)))),(λ_ z=>by cases z),λz=>by cases z⟩
    ·exact⟨zbB (.inr (.inr (.inl ⟨_,rfl⟩))),(λ_ z=>by cases z),λz=>by cases z⟩
   ·ac_nf;rw[wH (show 5<way by omega)];exact q _ _ ⟨zbA w1 w2 w3,(λ_ z=>by cases z),λ_=>⟨ws,rfl,w2⟩⟩
section
variable {ρ:Pu.Env}{W:Wd}{N:EW}{Q:DW}{X:XW}{a b:SmR}{z x:Ex}{t:Sm}{u v:ExR}{i k:Nat}{n:Str}{fs:List Str}
def z1F (q:a.run ρ W (λρ' W'=>b.run ρ' W' N Q X) Q X):(SmR.seq a b).run ρ W N Q X:=q
def z1e (q:t.run ρ (λρ'=>N ρ' W) (λd=>Q d W) (λx=>X x W)):(SmR.lift t).run ρ W N Q X:=q
def zdL (q:N ρ W):SmR.skip.run ρ W N Q X:=q
def z7m (q:z.run (shw W ρ) (λd=>tst d (a.run ρ W N Q X) (b.run ρ W N Q X)) (λx=>X x W)):(SmR.ifp z a b).run ρ W N Q X:=q
def zgg (q:u.run ρ W (λd W'=>tst d (a.run ρ W' N Q X) (b.run ρ W' N Q X)) X):(SmR.ifr u a b).run ρ W N Q X:=q
def r_ex (q:u.run ρ W (λ_ W'=>N ρ W') X):(SmR.ex u).run ρ W N Q X:=q
def zgf (q:u.run ρ W (λd W'=>N (ρ.set i (.s d)) W') X):(SmR.set i u).run ρ W N Q X:=q
def x_vs (q:x.run (vis ρ) (λd=>Q d W) (λs=>X s W)):(ExR.vs x).run ρ W Q X:=q
def zdy {F:FnR}{es:List ExR}(q:z5q es ρ W (λds W'=>F.run ds W' Q X) X):(ExR.call F es).run ρ W Q X:=q
def zfB {F:Fn}(q:u.run ρ W (λd W1=>v.run ρ W1 (λd' W2=>F.run [d,d'] (λb=>Q b W2) (λ_=>False)) X) X):(ExR.cmp F u v).run ρ W Q X:=q
def z4j {Q:List D->Wd->Prop}(q:Q [] W):z5q [] ρ W Q X:=q
def z1O {es:List ExR}{Q:List D->Wd->Prop}(q:u.run ρ W (λd W'=>z5q es ρ W' (λds w=>Q (d::ds) w) X) X):z5q (u::es) ρ W Q X:=q
def z5h {F:FnR}{es:List ExR}{p:Addr}{cs:List D}(h:ρ[i]? = some (.s (.ptr p)))(hw:W p=some (.ins n fs cs))(q:z5q es ρ W (λds W'=>F.run (.ptr p::ds) W' Q X) X):(ExR.meth n fs F i es).run ρ W Q X:=⟨p,cs,h,hw,q⟩
def zfA {p:Addr}(h:ρ[i]? = some (.s (.ptr p)))(q:Q (.ptr p) W):(ExR.raw i).run ρ W Q X:=⟨p,h,q⟩
def z8e {np nn:Nat}{ds:List D}(h:ds.length=np)(q:a.run (ds.map B.s++List.replicate (nn - np) .n) W (λ_ w=>Q .non w) Q X):(FnR.mk' np nn a).run ds W Q X:=⟨h,q⟩
end
def z0v {W:Wd}{b:B}{ρ:Pu.Env}:shw W (b::ρ)=shB W b::shw W ρ:=rfl
def z4L {W:Wd}:shw W []=[]:=rfl
def z4M {W:Wd}{p:Addr}{c:D}(h:W p=some c):shB W (.s (.ptr p)) = .s c:=by show (match W p with | some c=>B.s c | none =>.s (.ptr p))=_; rw[h]
def zfV {W:Wd}{d:D}(h:∀a,d ≠ .ptr a):shB W (.s d) = .s d:=by
 cases d with
 | ptr a=>exact(h a rfl).elim
 | _=>rfl
def z6H {W:Wd}:shB W .n = .n:=rfl
def zcs {W:Wd}{d:D}:shB W (.o d) = .o d:=rfl
def z6G {W:Wd}{x:Str}:shB W (.s (.str x)) = .s (.str x):=rfl
def z2z {W:Wd}{l:List D}:shB W (.s (.tup l)) = .s (.tup l):=rfl
abbrev FS:List Str:=["winds","row","places","standing","undone"]
def cL (kvs:List (Key × D))(ws st un:List D):D :=.ins "Log" FS [dk kvs,.lst ws,.lst [.tup [.int 0,.int 0,.int 1]],.lst st,.lst un]
def z9N {x y:Str}{Q:DK}{X:XP}(q:Q (.bl (decide (x=y)))):pEq.run [.str x,.str y] Q X:=q
def z7j {p:Addr}{W:Wd}{kvs:List (Key × D)}{ws st un:List D}{n:Str}{w:D}{Q:DW}{X:XW}(hW:W p=some (cL kvs ws st un))(hw:Pr w)(hk:kvs.length<=900)(hs:st.length<=900)
  (q:∀W':Wd,W' p=some (cL (putD kvs (.inr n) w) ws (st++[.tup [.str "wind",.str n,w]]) un)->Q .non W'):z1b.run [.ptr p,.tup [.str "wind",.str n,w]] W Q X:=by
 refine z8e rfl ?_;ac_rfl;refine z1F ?_;refine z7m ?_;rw[z0v,z0v,z0v,z4L,z4M hW,z2z,z6H];ac_nf;refine z9N ?_;refine z3r (by decide) ?_;refine⟨p,_,_,rfl,hW,rfl,kvs,rfl,?_⟩;rw[z0v,z0v,z0v,z4L,z4M hW,z2z,z6H];ac_nf;refine⟨hw,?_⟩;ac_nf;refine⟨.inr n,rfl,wg (show kvs.length<1000 by omega) (z44 (wc _)),?_⟩;refine⟨p,_,_,rfl,z1J,rfl,st,rfl,?_⟩;rw[z0v,z0v,z0v,z4L,z4M z1J,z2z,z6H];ac_nf;refine⟨wg (show st.length<1000 by omega) (z44 (wc _)),?_,q _ z1J⟩;obtain⟨h1,h2⟩:=hw;exact⟨by simp[noL,noLs,h1],by simp[noD,noDs,h2]⟩
def z7B {kvs:List (Key × D)}{ws st un:List D}{Q:DK}{X:XP}(q:Q (dk kvs)):(pFld "Log" "winds").run [cL kvs ws st un] Q X:=⟨FS,_,0,_,rfl,by decide,rfl,rfl,q⟩
def ze0 {kvs:List (Key × D)}{ws st un:List D}{Q:DK}{X:XP}(q:Q (.lst ws)):(pFld "Log" "row").run [cL kvs ws st un] Q X:=⟨FS,_,1,_,rfl,by decide,rfl,rfl,q⟩
def z6S {kvs:List (Key × D)}{n:Str}{Q:DK}{X:XP}(q:Q (.bl !(valD kvs (.inr n)).isSome)):z3D.run [.str n,dk kvs] Q X:=⟨.inr n,kvs,rfl,.inl rfl,q⟩
def z9d {d w:D}{kvs:List (Key × D)}{n:Str}{Q:DK}{X:XP}(i:IsDk d kvs)(h:valD kvs (.inr n)=some w)(q:Q w):z5z.run [d,.str n] Q X:=⟨.inr n,kvs,w,rfl,i,h,q⟩
def z6J {p:Addr}{W:Wd}{kvs:List (Key × D)}{ws st un:List D}{n:Str}{w s:D}{Q:DW}{X:XW}(hW:W p=some (cL kvs ws st un))(hv:valD kvs (.inr n)=some w)(hw:Pr w)(hs':Pr s)(hk:ws.length<=900)(hs:st.length<=900)
  (q:∀W':Wd,W' p=some (cL kvs (ws++[.tup [w,s]]) (st++[.tup [.str "watch",.str n,s]]) un)->Q .non W'):z1b.run [.ptr p,.tup [.str "watch",.str n,s]] W Q X:=by
 refine z8e rfl ?_;ac_rfl;refine z1F ?_;refine z7m ?_;rw[z0v,z0v,z0v,z4L,z4M hW,z2z,z6H];ac_nf;refine z9N ?_;refine z1E (by decide) ?_;refine z7m ?_;rw[z0v,z0v,z0v,z4L,z4M hW,z2z,z6H];ac_nf;refine z9N ?_;refine z3r (by decide) ?_;refine⟨p,_,_,rfl,hW,rfl,ws,rfl,?_⟩;rw[z0v,z0v,z0v,z4L,z4M hW,z2z,z6H];ac_nf;refine z7B ?_;ac_nf;refine z9d (.inl rfl) hv ?_;ac_nf;refine⟨wg (show ws.length<1000 by omega) (z44 (wc _)),⟨by simp[noL,noLs,hw.1,hs'.1],by simp[noD,noDs,hw.2,hs'.2]⟩,?_⟩;refine⟨p,_,_,rfl,z1J,rfl,st,rfl,?_⟩;rw[z0v,z0v,z0v,z4L,z4M z1J,z2z,z6H];ac_nf;exact⟨wg (show st.length<1000 by omega) (z44 (wc _)),⟨by simp[noL,noLs,hs'.1],by simp[noD,noDs,hs'.2]⟩,q _ z1J⟩
def zaG {p:Addr}{W:Wd}{kvs:List (Key × D)}{ws st un:List D}{d:D}{Q:DW}{X:XW}(hW:W p=some (cL kvs ws st un))(q:∀W':Wd,W' p=some (cL kvs ws st [])->z1b.run [.ptr p,d] W' (λ_ W2=>Q .non W2) X):z1p.run [.ptr p,d] W Q X:=by
 refine z8e rfl ?_;ac_rfl;refine z1F ?_;refine⟨p,_,_,rfl,hW,rfl,un,rfl,?_⟩;refine r_ex ?_;refine z5h rfl z1J ?_;refine z1O ?_;refine x_vs ?_;ac_rfl;ac_nf;refine z4j ?_;exact q _ z1J
def z8i (vs:List (Int × Int)):Pr (vecs vs):=⟨z9f vs,z9h vs⟩
def z6n {p:Addr}{W:Wd}{kvs:List (Key × D)}{ws st un:List D}{n:Str}{w:D}{good:Bool}{Q:DW}{X:XW}(hW:W p=some (cL kvs ws st un))(hn:n.length<=13)(hw:Wnd w good)(hk:kvs.length<=900)(hs:st.length<=900)
  (q1:(isW n && good)=false->X "NoWind" W) (q2:(isW n && good)=true->∀W':Wd,W' p=some (cL (putD kvs (.inr n) w) ws (st++[.tup [.str "wind",.str n,w]]) [])->Q .non W'):z1o.run [.ptr p,.str n,w] W Q X:=by
 refine z8e rfl ?_;ac_rfl;refine z1F (z1e ?_);ac_nf;refine zaI hn ?_;ac_nf;refine zan (t_bl (λh1 =>?_) (λh1 =>?_))
 ·rw[h1,Bool.true_and] at q1 q2;ac_nf;refine z1F (z1e ?_);ac_nf;refine hw.iw _ _ ?_;ac_nf;refine zan (t_bl (λh2 =>?_) (λh2 =>?_))
  ·ac_nf;obtain⟨vs,rfl,hv⟩:=hw.ok h2;refine r_ex ?_;refine z5h rfl hW ?_;refine z1O ?_;refine x_vs ?_;ac_rfl;ac_nf;refine⟨by rw[wA]; exact wg (show vs.length<1000 by omega) (z44 (wc _)),?_⟩;refine z4F (g:=vec) (λv _ K hK =>?_) ?_
   ·ac_nf;exact hK
   ·ac_nf;refine z4j ?_;refine zaG hW λW' hW' =>?_;exact z7j hW' (z8i vs) hk hs λW2 h2'=>q2 h2 W2 h2'
  ·ac_nf;exact q1 h2
 ·rw[h1,v7] at q1;ac_nf;exact q1 rfl
def zcv {x y:Int}{Q:DK}{X:XP}(q:Q (.bl (inB x && inB y))):z0E.run [.tup [.int x,.int y]] Q X:=z2V (z2y x) (z2y y) Q X q
def z5p {p:Addr}{W:Wd}{kvs:List (Key × D)}{ws st un:List D}{n:Str}{x y:Int}{Q:DW}{X:XW}(hW:W p=some (cL kvs ws st un))(hp:∀w,valD kvs (.inr n)=some w->Pr w)(hk:ws.length<=900)(hs:st.length<=900)
  (q1:valD kvs (.inr n)=none->X "NoWind" W) (q2:∀w,valD kvs (.inr n)=some w->(ws.length=12\/(inB x && inB y)=false)->X "NoDeed" W)
  (q3:∀w,valD kvs (.inr n)=some w->ws.length≠12->(inB x && inB y)=true->∀W':Wd,W' p=some (cL kvs (ws++[.tup [w,.tup [.int x,.int y]]]) (st++[.tup [.str "watch",.str n,.tup [.int x,.int y]]]) [])->Q .non W'):z1c.run [.ptr p,.str n,.tup [.int x,.int y]] W Q X:=by
 refine z8e rfl ?_;ac_rfl;refine z1F ?_;refine z7m ?_;rw[z0v,z0v,z0v,z4L,z4M hW,z6G,z2z];ac_nf;refine z7B ?_;refine z6S ?_
 cases hv:valD kvs (.inr n) with
 | none=>
  refine z3r rfl ?_;refine z1e ?_;ac_nf;exact q1 hv
 | some w=>
  refine z1E rfl ?_;refine zdL ?_;refine z1F ?_;refine z7m ?_;rw[z0v,z0v,z0v,z4L,z4M hW,z6G,z2z];ac_nf;refine ze0 ?_;ac_nf;refine z3U (λh12 =>?_) (λh12 =>?_)
  ·refine z1e ?_;ac_nf;exact q2 w hv (.inl (by omega))
  ·refine zdL ?_;refine z1F (z1e ?_);ac_nf;refine zcv ?_;ac_nf;refine zan (t_bl (λh1 =>?_) (λh1 =>?_))
   ·ac_nf;refine r_ex ?_;refine z5h rfl hW ?_;refine z1O ?_;refine x_vs ?_;ac_rfl;ac_nf;refine z4j ?_;refine zaG hW λW' hW' =>?_;exact z6J hW' hv (hp w hv) ⟨rfl,rfl⟩ hk hs λW2 h2=>q3 w hv (by omega) h1 W2 h2
   ·ac_nf;exact q2 w hv (.inr h1)
def z3X {xs:List Str}{f:Str->Bool}{x:Str}{Q:DK}{X:XP}(h:x∈xs)(q:Q (.bl (f x))):(pIsx xs f).run [.exc x] Q X:=⟨h,q⟩
def e_lm {F:Fn}{x y:Ex}{ρ:Pu.Env}{Q:DK}{X:XP}(q:x.run ρ (λd=>isLs d λl=>y.run ρ (λe=>F.run [.lst l,e] Q X) X) X):(Ex.lm F x y).run ρ Q X:=q
def zaH {Q:DK}{X:XP}(q:Q (.str "wind")):z1n.run [.exc "NoWind"] Q X:=by
 walk_at "fn";ac_nf;refine z3X (by decide) ?_;ac_nf;refine z3X (by decide) ?_;ac_nf;refine z3X (by decide) ?_;ac_nf;refine z3X (by decide) ?_;ac_nf;refine e_lm ?_;ac_nf;refine⟨[true,false,false],true,rfl,rfl,?_⟩;ac_nf;refine z1E rfl ?_;ac_nf;refine z3X (by decide) ?_;ac_nf;refine z1E rfl ?_;ac_nf;refine e_lm ?_;ac_nf;refine⟨[true,false,false],true,0,rfl,rfl,rfl,(λj h=>absurd h (Nat.not_lt_zero _)),by decide,?_⟩;ac_nf;exact q
def zes {Q:DK}{X:XP}(q:Q (.str "deed")):z1n.run [.exc "NoDeed"] Q X:=by
 walk_at "fn";ac_nf;refine z3X (by decide) ?_;ac_nf;refine z3X (by decide) ?_;ac_nf;refine z3X (by decide) ?_;ac_nf;refine z3X (by decide) ?_;ac_nf;refine e_lm ?_;ac_nf;refine⟨[false,true,false],true,rfl,rfl,?_⟩;ac_nf;refine z1E rfl ?_;ac_nf;refine z3X (by decide) ?_;ac_nf;refine z1E rfl ?_;ac_nf;refine e_lm ?_;ac_nf;refine⟨[false,true,false],true,1,rfl,rfl,rfl,(λj h=>by have e:j=0:=(by omega); subst e; simp),by decide,?_⟩;ac_nf;exact q
def ze2 {a b c:D}:∀(i:Nat) (d:D),([.s a,.s b,.s c,.n]:Pu.Env)[i]? ≠ some (B.o d):=λi d e=>by
 rcases i with _ | _ | _ | _ | i <;> simp at e
def z8d {p:Addr}{W:Wd}{kvs:List (Key × D)}{ws st un:List D}{n:Str}{w:D}{good:Bool}{Q:DW}{X:XW}(hW:W p=some (cL kvs ws st un))(hn:n.length<=13)(hw:Wnd w good)(hk:kvs.length<=900)(hs:st.length<=900)
  (q1:(isW n && good)=false->Q (.str "wind") W) (q2:(isW n && good)=true->∀W':Wd,W' p=some (cL (putD kvs (.inr n) w) ws (st++[.tup [.str "wind",.str n,w]]) [])->Q .non W'):z0k.run [.ptr p,.tup [.str "wind",.str n,w]] W Q X:=by
 refine z8e rfl ?_;ac_rfl;refine z1F (z1e ?_);ac_nf;refine z1F ?_;refine⟨ze2,?_⟩;refine z7m ?_;rw[z0v,z0v,z0v,z0v,z4L,z4M hW,z2z,z6G,z6H];ac_nf;refine z9N ?_;refine z3r (by decide) ?_;refine zgf ?_;refine z5h rfl hW ?_;refine z1O ?_;refine x_vs ?_;ac_rfl;ac_nf;refine z1O ?_;refine x_vs ?_;ac_rfl;ac_nf;refine z4j ?_;refine z6n hW hn hw hk hs (λh=>⟨by decide,?_⟩) λh W' h' =>?_
 ·refine z1e ?_;ac_rfl;ac_nf;refine zaH ?_;ac_nf;refine z1e ?_;ac_rfl;ac_nf;exact q1 h
 ·refine z1e ?_;ac_rfl;ac_nf;exact q2 h W' h'
def z7i {p:Addr}{W:Wd}{kvs:List (Key × D)}{ws st un:List D}{n:Str}{x y:Int}{Q:DW}{X:XW}(hW:W p=some (cL kvs ws st un))(hp:∀w,valD kvs (.inr n)=some w->Pr w)(hk:ws.length<=900)(hs:st.length<=900)
  (q1:valD kvs (.inr n)=none->Q (.str "wind") W) (q2:∀w,valD kvs (.inr n)=some w->(ws.length=12\/(inB x && inB y)=false)->Q (.str "deed") W)
  (q3:∀w,valD kvs (.inr n)=some w->ws.length≠12->(inB x && inB y)=true->∀W':Wd,W' p=some (cL kvs (ws++[.tup [w,.tup [.int x,.int y]]]) (st++[.tup [.str "watch",.str n,.tup [.int x,.int y]]]) [])->Q .non W'):z0k.run [.ptr p,.tup [.str "watch",.str n,.tup [.int x,.int y]]] W Q X:=by
 refine z8e rfl ?_;ac_rfl;refine z1F (z1e ?_);ac_nf;refine z1F ?_;refine⟨ze2,?_⟩;refine z7m ?_;rw[z0v,z0v,z0v,z0v,z4L,z4M hW,z2z,z6G,z6H];ac_nf;refine z9N ?_;refine z1E (by decide) ?_;refine zgf ?_;refine z5h rfl hW ?_;refine z1O ?_;refine x_vs ?_;ac_rfl;ac_nf;refine z1O ?_;refine x_vs ?_;ac_rfl;ac_nf;refine z4j ?_;refine z5p hW hp hk hs (λh=>⟨by decide,?_⟩) (λw h h'=>⟨by decide,?_⟩) λw h h1 h2 W' h' =>?_
 ·refine z1e ?_;ac_rfl;ac_nf;refine zaH ?_;ac_nf;refine z1e ?_;ac_rfl;ac_nf;exact q1 h
 ·refine z1e ?_;ac_rfl;ac_nf;refine zes ?_;ac_nf;refine z1e ?_;ac_rfl;ac_nf;exact q2 w h h'
 ·refine z1e ?_;ac_rfl;ac_nf;exact q3 w h h1 h2 W' h'
def zer {kvs:List (Key × D)}{ws st un:List D}{ss:List Str}{Q:DK}{X:XP}(h:kvs.map (·.1)=ss.map Sum.inr)(q:∀out,SrtS ss out->Q (.tup (out.map .str))):z1R.run [cL kvs ws st un] Q X:=by
 walk_at "fn";ac_nf;refine z7B ?_;refine⟨kvs,ss,rfl,h,λout ho =>?_⟩;ac_nf;exact q out ho
def z9E {kvs:List (Key × D)}{ws st un:List D}{Q:DK}{X:XP}(q:Q (.tup ws)):z1k.run [cL kvs ws st un] Q X:=by
 walk_at "fn";ac_nf;refine ze0 ?_;ac_nf;exact q
def z7h {kvs:List (Key × D)}{ws st un:List D}{n:Str}{w:D}{Q:DK}{X:XP}(h:valD kvs (.inr n)=some w)(q:Q w):z0K.run [cL kvs ws st un,.str n] Q X:=by
 walk_at "fe";ac_nf;refine z7B ?_;refine z6S ?_;rw[h];refine z1E rfl ?_;ac_nf;refine z7B ?_;ac_nf;exact z9d (.inl rfl) h q
abbrev smF:=z0d
def Sm1 (n:Nat)(d:D):Prop:=∀(Q:DK) (X:XP),Q (.bl true)->(smF n).run [d,d] Q X
def zdD {n:Nat}{i:Int}:Sm1 (n+1) (.int i):=λQ X q=>by
 walk_at "fn";ac_nf;refine z1E (by decide) ?_;ac_nf;refine z1E rfl ?_;ac_nf;refine z1E (by decide) ?_;ac_nf;refine z1E (by decide) ?_;ac_nf;show tst (.bl _) _ _;refine z1E (by decide) ?_;ac_nf;rw[wH rfl];exact q
def zfR {n:Nat}{x:Str}:Sm1 (n+1) (.str x):=λQ X q=>by
 walk_at "fn";ac_nf;refine z1E (by decide) ?_;ac_nf;refine z1E rfl ?_;ac_nf;refine z3r (by decide) ?_;ac_nf;refine z3r (by decide) ?_;ac_nf;refine z9N ?_;rw[wH rfl];exact q
def z6i {n:Nat}{l:List D}(hz:l.length<=1000)(hi:∀d∈l,Sm1 n d):Sm1 (n+1) (.tup l):=λQ X q=>by
 walk_at "fn";ac_nf;refine z3r (by decide) ?_;ac_nf;refine z1E (by decide) ?_;ac_nf;refine zan (zfG rfl ?_);ac_nf;refine⟨⟨by omega,by omega⟩,?_⟩;refine z5f (f:=λ(k:Nat)=>D.int (k:Int)) (λdn ρ=>∃b:B,ρ=[.s (.tup l),.s (.tup l),b]) ⟨_,rfl⟩ ?_ ?_
 ·rintro dn k rest ρ e ⟨b,rfl⟩;have hk:k<l.length:=by
   have:=congrArg (λl=>k∈l) e;simp only[um,wE,wx,true_or,or_true,eq_iff_iff,iff_true] at this;simpa using this
  show Sm.run _ _ _ _ _;ac_rfl;ac_nf;rw[z4Y (wq hk)];refine z5D ?_;ac_nf;rw[z4Y (wq hk)];refine z5D ?_;refine hi _ (List.getElem_mem hk) _ _ ?_;ac_nf;refine z1E rfl ?_;ac_nf;exact⟨_,rfl⟩
 ·rintro ρ ⟨b,rfl⟩;ac_nf;exact q
def zaz {n:Nat}{vs:List (Int × Int)}(h:vs.length<=1000):Sm1 (n+3) (vecs vs):=z6i (by rw[wA]; exact h) λd hd=>by
 obtain⟨p,_,rfl⟩:=vq.mp hd;exact z6i (by show 2<=1000; decide) λe he=>by
  simp only[wx,wN,vO] at he
  rcases he with rfl | rfl <;> exact zdD
def z60 (kvs:List (Key × D))(ss:List Str):Prop:=kvs.map (·.1)=ss.map Sum.inr/\∀p∈kvs,∃vs:List (Int × Int),p.2=vecs vs/\vs.length<=12
def zac (ws:List D):Prop:=∀d∈ws,∃(vs:List (Int × Int)) (x y:Int),d = .tup [vecs vs,.tup [.int x,.int y]]/\vs.length<=12
def NB (b:B):Prop:=b = .n\/∃d,b = .s d
def z60.val {kvs:List (Key × D)}{ss:List Str}{n:Str}{w:D}(h:z60 kvs ss)(e:valD kvs (.inr n)=some w):∃vs:List (Int × Int),w=vecs vs/\vs.length<=12:=by
 unfold valD at e
 cases z:kvs.find? λp=>decide (p.1 = .inr n) with
 | none=>rw[z] at e; cases e
 | some p=>
  rw[z] at e
  cases e
  exact h.2 p (List.mem_of_find?_eq_some z)
def z60.put {kvs:List (Key × D)}{ss:List Str}{n:Str}{vs:List (Int × Int)}(h:z60 kvs ss)(hv:vs.length<=12):∃ss',z60 (putD kvs (.inr n) (vecs vs)) ss'/\(putD kvs (.inr n) (vecs vs)).length<=kvs.length+1:=by
 unfold putD
 split
 ·refine⟨ss,⟨?_,λp hp =>?_⟩,by rw[wA]; omega⟩
  ·rw[<- h.1,vf];refine List.map_congr_left λp _ =>?_;show (if p.1 = .inr n then (p.1,vecs vs) else p).1=p.1
   split <;> rfl
  ·obtain⟨r,hr,rfl⟩:=vq.mp hp
   split
   ·exact⟨vs,rfl,hv⟩
   ·exact h.2 r hr
 ·refine⟨ss++[n],⟨by rw[vH,vH,h.1]; rfl,λp hp =>?_⟩,by rw[wG]; show _+1<=_; omega⟩
  rcases wE.mp hp with z | z
  ·exact h.2 p z
  ·rw[ww.mp z]; exact⟨vs,rfl,hv⟩
def z60.get {kvs:List (Key × D)}{ss:List Str}{n:Str}(h:z60 kvs ss)(hn:n∈ss):∃w,valD kvs (.inr n)=some w:=by
 have:(Sum.inr n:Key)∈kvs.map (·.1):=by rw[h.1]; exact List.mem_map_of_mem hn
 obtain⟨p,hp,e⟩:=vq.mp this;unfold valD
 cases z:kvs.find? λp=>decide (p.1 = .inr n) with
 | none=>
  have:=List.find?_eq_none.mp z p hp;exact(this (wH e)).elim
 | some r=>exact⟨r.2,rfl⟩
def zfZ {js is:List Nat}{e:Ex}{ρ:Pu.Env}{N:Pu.Env->Prop}{Q:DK}{X:XP}(q:e.run (vis (dem js ρ)) (λd=>onL (seqD d) λds=>is.length=ds.length/\N (z6k is ds (dem js ρ))) X):(Sm.unp js is e).run ρ N Q X:=q
def zg6 {i:Nat}{k e:Ex}{kvs:List (Key × D)}{ρ:Pu.Env}{N:Pu.Env->Prop}{Q:DK}{X:XP}(h:ρ[i]? = some (.o (dk kvs)))(q:e.run ρ (λd=>Safe d ρ/\k.run ρ (λb=>∃j,b=kD j/\kvs.length<sizeLine/\N (ρ.set i (.o (dk (putD kvs j d))))) X) X):(Sm.dput i k e).run ρ N Q X:=⟨kvs,h,q⟩
abbrev R11 (S:D)(p:Addr)(kvs:List (Key × D))(ws:List D)(b4 b5 b6 b7 b8 b9 b10:B):Pu.Env:=[.s S,.s (.ptr p),.o (dk kvs),.o (.lst ws),b4,b5,b6,b7,b8,b9,b10]
section
variable {S:D}{p:Addr}{kvs:List (Key × D)}{ws st un:List D}{b4 b5 b6 b7 b8 b9 b10:B}{W:Wd}{N:EW}{Q:DW}{X:XW}{c:Int}{x:Str}{w:D}{good:Bool}
def t1 (q:∀x:Str,x.length<=13->N (R11 S p kvs ws (.s (.int c)) (.s (.str x)) b6 b7 b8 b9 b10) W):SmR.run (.lift (.set 5 (.op z0Z [.v 4]))) (R11 S p kvs ws (.s (.int c)) b5 b6 b7 b8 b9 b10) W N Q X:=by
 refine z1e ?_;ac_nf;refine zfY λx hx =>?_;exact⟨Safe.of_noL rfl rfl _,q x hx⟩
def t2 (q:∀w good,Wnd w good->N (R11 S p kvs ws (.s (.int c)) b5 (.s w) (.s (.bl good)) b8 b9 b10) W):SmR.run (.lift (.unp [] [6,7] (.op z0C [.v 4]))) (R11 S p kvs ws (.s (.int c)) b5 b6 b7 b8 b9 b10) W N Q X:=by
 refine z1e (zfZ ?_);ac_rfl;ac_nf;refine zaE λw good hw=>⟨rfl,?_⟩
 exact q w good hw
def t3 (q:N (R11 S p kvs ws b4 b5 b6 b7 (.s .non) b9 b10) W):SmR.run (.lift (.set 8 (.c .non))) (R11 S p kvs ws b4 b5 b6 b7 b8 b9 b10) W N Q X:=by
 refine z1e ?_;ac_nf;exact q
def t4 (hx:x.length<=13)(hw:Wnd w good)(hk:kvs.length<=900)(q1:(isW x && good)=false->N (R11 S p kvs ws b4 (.s (.str x)) (.s w) (.s (.bl good)) (.s (.str "wind")) b9 b10) W)(q2:(isW x && good)=true->N (R11 S p (putD kvs (.inr x) w) ws b4 (.s (.str x)) (.s w) (.s (.bl good)) (.s .non) b9 b10) W):
  SmR.run (.lift (.ifs (.or (.not (.v 7)) (.not (.op z0D [.v 5]))) (.set 8 (.c (.str "wind"))) (.dput 2 (.v 5) (.v 6)))) (R11 S p kvs ws b4 (.s (.str x)) (.s w) (.s (.bl good)) (.s .non) b9 b10) W N Q X:=by
 refine z1e ?_;ac_nf
 cases good with
 | true=>
  rw[Bool.and_true] at q1 q2;obtain⟨vs,rfl,hv⟩:=hw.ok rfl;refine z1E rfl ?_;ac_nf;refine z6I hx ?_;ac_nf;refine zan (t_bl (λh2 =>?_) (λh2 =>?_))
  ·refine zg6 rfl ?_;ac_nf;refine⟨.inr x,rfl,wg (show kvs.length<1000 by omega) (z44 (wc _)),?_⟩;exact q2 h2
  ·ac_nf;exact q1 h2
 | false=>
  rw[vv] at q1;refine z3r rfl ?_;ac_nf;exact q1 rfl
def deqN:deq .non .non=true:=by decide +kernel
def zhp {Q:DK}{X:XP}(q:Q (.bl false)):pNe.run [.non,.non] Q X:=⟨Da.non,Da.non,by rw[deqN]; exact q⟩
def zfk {x:Str}{Q:DK}{X:XP}(q:Q (.bl false)):pNe.run [.str x,.str x] Q X:=by
 show Q (.bl (!decide (x=x)));rw[wH rfl];exact q
def t5 {a:SmR}(hW:W p=some (cL kvs ws st un)){kvs':List (Key × D)}(hx:x.length<=13)(hw:Wnd w good)(hk:kvs.length<=900)(hs:st.length<=900)(q1:(isW x && good)=false->b8 = .s (.str "wind")/\N (R11 S p kvs' ws b4 (.s (.str x)) (.s w) b7 b8 b9 b10) W)(q2:(isW x && good)=true->b8 = .s .non/\∀W':Wd,W' p=some (cL (putD kvs (.inr x) w) ws (st++[.tup [.str "wind",.str x,w]]) [])->N (R11 S p kvs' ws b4 (.s (.str x)) (.s w) b7 b8 b9 b10) W'):
  SmR.run (.ifr (.cmp pNe (.call z0k [.raw 1,.vs (.op pTup [.c (.str "wind"),.v 5,.v 6])]) (.vs (.v 8))) a .skip) (R11 S p kvs' ws b4 (.s (.str x)) (.s w) b7 b8 b9 b10) W N Q X:=by
 refine zgg (zfB (zdy ?_));refine z1O (zfA rfl ?_);refine z1O (x_vs ?_);ac_rfl;ac_nf;refine z4j ?_;refine z8d hW hx hw hk hs (λh =>?_) λh W' h' =>?_
 ·obtain⟨rfl,hn⟩:=q1 h;refine x_vs ?_;ac_rfl;ac_nf;refine zfk ?_;refine z1E rfl ?_;exact hn
 ·obtain⟨rfl,hn⟩:=q2 h;refine x_vs ?_;ac_rfl;ac_nf;refine zhp ?_;refine z1E rfl ?_;exact hn W' h'
def t6 (hx:x.length<=13)(q:∀o:Str,o.length<=13->N (R11 S p kvs ws (.s (.int c)) (.s (.str x)) b6 b7 b8 (.s (.str o)) b10) W):SmR.run (.lift (.set 9 (.op pIx [.op pLst [.c (.str "first"),.v 5,.op z0u [.op pMod [.op z05 [.v 4,.c (.int 14)],.c (.int 12)]]],.op pMod [.op z05 [.v 4,.c (.int 15)],.c (.int 3)]]))) (R11 S p kvs ws (.s (.int c)) (.s (.str x)) b6 b7 b8 b9 b10) W N Q X:=by
 refine z1e ?_;ac_nf;refine z3a (by omega) (by omega) λm m0 m1 =>?_;ac_nf;refine zdG (by omega) (by omega) λy hy =>?_;ac_nf;refine z3a (by omega) (by omega) λu u0 u1 =>?_;ac_nf;refine ix8 (by omega) (by show _<(3:Int); omega) λd hd =>?_;simp only[wx,wN,vO] at hd
 rcases hd with rfl | rfl | rfl
 ·exact⟨Safe.of_noL rfl rfl _,q _ (by decide +kernel)⟩
 ·exact⟨Safe.of_noL rfl rfl _,q _ hx⟩
 ·exact⟨Safe.of_noL rfl rfl _,q _ hy⟩
def t7 (q:∀x y:Int,N (R11 S p kvs ws (.s (.int c)) b5 b6 b7 b8 b9 (.s (.tup [.int x,.int y]))) W):SmR.run (.lift (.set 10 (.op z0n [.v 4,.c (.int 16),.op pIx [.op pLst [.c (.int 4),.op pPow [.c (.int 10),.c (.int 9)],.op pAdd [.op pPow [.c (.int 10),.c (.int 9)],.c (.int 3)],.op pPow [.c (.int 10),.c (.int 20)]],.op pMod [.op z05 [.v 4,.c (.int 18)],.c (.int 4)]]]))) (R11 S p kvs ws (.s (.int c)) b5 b6 b7 b8 b9 b10) W N Q X:=by
 refine z1e ?_;ac_nf;refine z3a (by omega) (by omega) λm m0 m1 =>?_;ac_nf;refine ix8 (by omega) (by show _<(4:Int); omega) λd hd =>?_;obtain⟨most,rfl,f0,f1⟩:∃far:Int,d = .int far/\0<=far/\far<=100000000000000000000:=by
  simp only[wx,wN,vO] at hd
  rcases hd with rfl | rfl | rfl | rfl
  ·exact⟨_,rfl,by omega,by omega⟩
  ·exact⟨_,rfl,by rw[pow9]; omega,by rw[pow9]; omega⟩
  ·exact⟨_,rfl,by rw[pow9]; omega,by rw[pow9]; omega⟩
  ·exact⟨_,rfl,by rw[zgR]; omega,by rw[zgR]; omega⟩
 refine zdE (by omega) (by omega) f0 f1 λx y _ _ _ _ =>?_;exact⟨Safe.of_noL rfl rfl _,q x y⟩
def t8 {x0 y0:Int}(q:∀x y:Int,N (R11 S p kvs ws (.s (.int c)) b5 b6 b7 b8 b9 (.s (.tup [.int x,.int y]))) W):SmR.run (.lift (.ifs (.op pEq [.op pMod [.op z05 [.v 4,.c (.int 71)],.c (.int 3)],.c (.int 0)]) (.set 10 (.op z0o [.v 4,.op pAdd [.op pPow [.c (.int 10),.c (.int 9)],.c (.int 2)]])) .skip)) (R11 S p kvs ws (.s (.int c)) b5 b6 b7 b8 b9 (.s (.tup [.int x0,.int y0]))) W N Q X:=by
 refine z1e ?_;ac_nf;refine z3a (by omega) (by omega) λm m0 m1 =>?_;ac_nf;refine z3U (λ_ =>?_) (λ_ =>?_)
 ·ac_nf;rw[pow9];refine zdH (by omega) (by omega) λx y _ _ _ _ =>?_;exact⟨Safe.of_noL rfl rfl _,q x y⟩
 ·ac_nf;exact q x0 y0
end
section
variable {S:D}{p:Addr}{kvs:List (Key × D)}{ws ws' st un:List D}{ss:List Str}{b4 b5 b6 b7 b8 b9 b10:B}{W:Wd}{N:EW}{Q:DW}{X:XW}{c x y:Int}{n o:Str}{w:D}{good:Bool}
def ze5 (x y:Int):(1000000000<(if (if y<0 then -y else y) > (if x<0 then -x else x) then (if y<0 then -y else y) else (if x<0 then -x else x)))↔(inB x && inB y)=false:=by
 unfold inB;simp only[Bool.and_eq_false_iff,decide_eq_false_iff_not]
 split <;> split <;> (try split) <;> omega
def t9 (hp:∀w,valD kvs (.inr o)=some w->Pr w)(wl:ws.length<=900)(q1:valD kvs (.inr o)=none->N (R11 S p kvs ws b4 b5 b6 b7 (.s (.str "wind")) (.s (.str o)) (.s (.tup [.int x,.int y]))) W)(q2:∀w,valD kvs (.inr o)=some w->(ws.length=12\/(inB x && inB y)=false)->N (R11 S p kvs ws b4 b5 b6 b7 (.s (.str "deed")) (.s (.str o)) (.s (.tup [.int x,.int y]))) W)
  (q3:∀w,valD kvs (.inr o)=some w->ws.length≠12->(inB x && inB y)=true->N (R11 S p kvs (ws++[.tup [w,.tup [.int x,.int y]]]) b4 b5 b6 b7 (.s .non) (.s (.str o)) (.s (.tup [.int x,.int y]))) W):
  SmR.run (.lift (.ifs (.op z3D [.v 9,.v 2]) (.set 8 (.c (.str "wind"))) (.ifs (.or (.op pEq [.op pLen [.v 3],.c (.int 12)]) (.op pGt [.op zbg [.op pAbs [.op pIx [.v 10,.c (.int 0)]],.op pAbs [.op pIx [.v 10,.c (.int 1)]]],.op pPow [.c (.int 10),.c (.int 9)]])) (.set 8 (.c (.str "deed"))) (.app 3 (.op pTup [.op z5z [.v 2,.v 9],.v 10]))))) (R11 S p kvs ws b4 b5 b6 b7 (.s .non) (.s (.str o)) (.s (.tup [.int x,.int y]))) W N Q X:=by
 refine z1e ?_;ac_nf;refine z6S ?_
 cases hv:valD kvs (.inr o) with
 | none=>
  refine z3r rfl ?_;ac_nf;exact q1 hv
 | some w=>
  refine z1E rfl ?_;ac_nf;refine z3U (λh12 =>?_) (λh12 =>?_)
  ·ac_nf;exact q2 w hv (.inl (by omega))
  ·ac_nf;rw[pow9];refine z3U (λhm =>?_) (λhm =>?_)
   ·ac_nf;exact q2 w hv (.inr ((ze5 x y).mp hm))
   ·have hb:(inB x && inB y)=true:=by
     cases z:(inB x && inB y) with
     | true=>rfl
     | false=>exact(hm ((ze5 x y).mpr z)).elim
    refine zg8 (l:=[]) ?_;show Ex.run _ _ _ _;ac_nf;refine z9d (.inl rfl) hv ?_;ac_nf;refine⟨wg (show ws.length<1000 by omega) (z44 (wc _)),Safe.of_noL (by simp[noL,noLs,(hp w hv).1]) (by simp[noD,noDs,(hp w hv).2]) _,?_⟩;exact q3 w hv (by omega) hb
def t10 {a:SmR}(hW:W p=some (cL kvs ws st un))(hp:∀w,valD kvs (.inr o)=some w->Pr w)(hk:ws.length<=900)(hs:st.length<=900)
  (q1:valD kvs (.inr o)=none->b8 = .s (.str "wind")/\N (R11 S p kvs ws' b4 b5 b6 b7 b8 (.s (.str o)) (.s (.tup [.int x,.int y]))) W) (q2:∀w,valD kvs (.inr o)=some w->(ws.length=12\/(inB x && inB y)=false)->b8 = .s (.str "deed")/\N (R11 S p kvs ws' b4 b5 b6 b7 b8 (.s (.str o)) (.s (.tup [.int x,.int y]))) W)
  (q3:∀w,valD kvs (.inr o)=some w->ws.length≠12->(inB x && inB y)=true->b8 = .s .non/\∀W':Wd,W' p=some (cL kvs (ws++[.tup [w,.tup [.int x,.int y]]]) (st++[.tup [.str "watch",.str o,.tup [.int x,.int y]]]) [])->N (R11 S p kvs ws' b4 b5 b6 b7 b8 (.s (.str o)) (.s (.tup [.int x,.int y]))) W'):
  SmR.run (.ifr (.cmp pNe (.call z0k [.raw 1,.vs (.op pTup [.c (.str "watch"),.v 9,.v 10])]) (.vs (.v 8))) a .skip) (R11 S p kvs ws' b4 b5 b6 b7 b8 (.s (.str o)) (.s (.tup [.int x,.int y]))) W N Q X:=by
 refine zgg (zfB (zdy ?_));refine z1O (zfA rfl ?_);refine z1O (x_vs ?_);ac_rfl;ac_nf;refine z4j ?_;refine z7i hW hp hk hs (λh =>?_) (λw h h' =>?_) λw h h1 h2 W' h' =>?_
 ·obtain⟨rfl,hn⟩:=q1 h;refine x_vs ?_;ac_rfl;ac_nf;refine zfk ?_;refine z1E rfl ?_;exact hn
 ·obtain⟨rfl,hn⟩:=q2 w h h';refine x_vs ?_;ac_rfl;ac_nf;refine zfk ?_;refine z1E rfl ?_;exact hn
 ·obtain⟨rfl,hn⟩:=q3 w h h1 h2;refine x_vs ?_;ac_rfl;ac_nf;refine zhp ?_;refine z1E rfl ?_;exact hn W' h'
def zbV {n:Str}{fs:List Str}{F:Fn}{x:Ex}{es:List Ex}{ρ:Pu.Env}{Q:DK}{X:XP}(q:x.run ρ (λd=>∃cs,d = .ins n fs cs/\runs es ρ (λds=>F.run (d::ds) Q X) X) X):(Ex.meth n fs F x es).run ρ Q X:=q
def zaF {d:D}{Q:DK}{X:XP}(h:Sm1 5 d)(q:Q (.bl true)):z0b.run [d,d] Q X:=h Q X q
def zfS {ws:List D}(hz:ws.length<=1000)(gr:zac ws):Sm1 5 (.tup ws):=z6i hz λd hd=>by
 obtain⟨vs,x,y,rfl,hv⟩:=gr d hd;refine z6i (by show 2<=1000; decide) λe he =>?_;simp only[wx,wN,vO] at he
 rcases he with rfl | rfl
 ·exact zaz (n:=0) (by omega)
 ·exact z6i (by show 2<=1000; decide) λe he=>by
   simp only[wx,wN,vO] at he
   rcases he with rfl | rfl <;> exact zdD
def z9l {kvs:List (Key × D)}{ss:List Str}(h:kvs.map (·.1)=ss.map Sum.inr):(kvs.map λp=>kD p.1)=ss.map .str:=by
 have:(kvs.map λp=>kD p.1)=(kvs.map (·.1)).map kD:=by rw[vf]; rfl
 rw[this,h,vf]
 rfl
def t11 {a:SmR}(hW:W p=some (cL kvs ws st un))(hS:shB W (.s S) = .s S)(h4:shB W b4=b4)(h5:shB W b5=b5)(h6:shB W b6=b6)(h7:shB W b7=b7)(h8:shB W b8=b8)(h9:shB W b9=b9)(h10:shB W b10=b10)(gk:z60 kvs ss)(gr:zac ws)(kl:kvs.length<=900)(wl:ws.length<=900)(q:N (R11 S p kvs ws b4 b5 b6 b7 b8 b9 b10) W):
  SmR.run (.ifp (.or (.not (.op z0b [.meth "Log" ["winds","row","places","standing","undone"] z1R (.v 1) [],.op z2r [.op z7v [.op zbh [.v 2]]]])) (.not (.op z0b [.meth "Log" ["winds","row","places","standing","undone"] z1k (.v 1) [],.op z2r [.v 3]]))) a .skip) (R11 S p kvs ws b4 b5 b6 b7 b8 b9 b10) W N Q X:=by
 have sl:ss.length=kvs.length:=by
  have:=congrArg List.length gk.1;simp at this;omega
 refine z7m ?_;rw[z0v,z0v,z0v,z0v,z0v,z0v,z0v,z0v,z0v,z0v,z0v,z4L,hS,z4M hW,zcs,zcs,h4,h5,h6,h7,h8,h9,h10];ac_nf;refine zbV ?_;ac_nf;refine⟨_,rfl,?_⟩;ac_nf;refine zer gk.1 λout ho =>?_;ac_nf;refine⟨kvs,rfl,?_⟩;rw[z9l gk.1];refine⟨ss,rfl,z44 (by omega),λout2 ho2 =>?_⟩;obtain rfl:=SrtS.unique ho ho2;ac_nf;have ol:out.length=ss.length:=ho.1.length_eq;refine zaF (z6i (by rw[wA]; omega) λd hd =>?_) ?_
 ·obtain⟨z,_,rfl⟩:=vq.mp hd;exact zfR
 ac_nf;refine z1E rfl ?_;ac_nf;refine zbV ?_;ac_nf;refine⟨_,rfl,?_⟩;ac_nf;refine z9E ?_;ac_nf;refine zaF (zfS (by omega) gr) ?_;ac_nf;refine z1E rfl ?_;exact q
def t12 {a:SmR}(hW:W p=some (cL kvs ws st un))(hS:shB W (.s S) = .s S)(h4:shB W b4=b4)(h5:shB W b5=b5)(h6:shB W b6=b6)(h7:shB W b7=b7)(h8:shB W b8=b8)(h9:shB W b9=b9)(h10:shB W b10=b10)(gk:z60 kvs ss)(kl:kvs.length<=900)(q:N (R11 S p kvs ws b4 b5 b6 b7 b8 b9 b10) W):
  SmR.run (.ifz 2 (.not (.op pAll [.comp 1 [2,1] (.nm 0) (.op z6r [.v 2]) none (.op z0b [.meth "Log" ["winds","row","places","standing","undone"] z0K (.v 2) [.v 0],.op z5z [.v 1,.v 0]])])) a .skip) (R11 S p kvs ws b4 b5 b6 b7 b8 b9 b10) W N Q X:=by
 have sl:ss.length=kvs.length:=by
  have:=congrArg List.length gk.1;simp at this;omega
 refine⟨kvs,rfl,?_⟩;rw[z0v,z0v,z0v,z0v,z0v,z0v,z0v,z0v,z0v,z0v,z0v,z4L,hS,z4M hW,zcs,zcs,h4,h5,h6,h7,h8,h9,h10];ac_rfl;ac_nf;refine⟨kvs,rfl,?_⟩;rw[z9l gk.1];ac_nf;refine⟨by rw[wA]; exact wg (show ss.length<1000 by omega) (z44 (wc _)),?_⟩;refine z4F (g:=λ_=>D.bl true) (λn hn K hK =>?_) ?_
 ·obtain⟨w,hv⟩:=gk.get hn;obtain⟨vs,rfl,hl⟩:=gk.val hv;ac_nf;refine zbV ?_;ac_nf;refine⟨_,rfl,?_⟩;ac_nf;refine z7h hv ?_;ac_nf;refine z9d (.inr rfl) hv ?_;exact zaF (zaz (n:=2) (by omega)) hK
 ·rw[show ss.map (λ_=>D.bl true)=(ss.map λ_=>true).map .bl by rw[vf]; rfl];refine zje ?_;rw[show (ss.map λ_=>true).all id=true by simp];ac_nf;refine z1E rfl ?_;exact q
end
def zdl {α:Type}{f:α->D}{l:List α}{i:Nat}{b:SmR}{N:EW}{Q:DW}{X:XW}{ρ:Pu.Env}{W:Wd}(I:List α->Pu.Env->Wd->Prop)(h0:I [] ρ W)(hs:∀(dn:List α) (x:α) (r:List α) (ρ:Pu.Env) (W:Wd),l=dn++x::r->I dn ρ W->b.run (ρ.set i (.s (f x))) W (λρ' W'=>I (dn++[x]) ρ' W') Q X)(hd:∀ρ W,I l ρ W->N ρ W):forR i b N Q X (l.map f) ρ W:=by
 have main:∀(r dn:List α) (ρ:Pu.Env) (W:Wd),l=dn++r->I dn ρ W->forR i b N Q X (r.map f) ρ W:=by
  intro r
  induction r with
  | nil=>
   intro dn ρ W e h;rw[wW] at e;subst e;exact hd ρ W h
  | cons x r ih=>
   intro dn ρ W e h;rw[wz];exact b.mono _ W _ _ Q Q X X (λρ2 W2 q=>ih (dn++[x]) ρ2 W2 (by rw[e]; simp) q) (λ_ _ z=>z) (λ_ _ z=>z) (hs dn x r ρ W e h)
 exact main l [] ρ W rfl h0
def ziz {i:Nat}{src:Ex}{b:SmR}{N:EW}{Q:DW}{X:XW}{ρ:Pu.Env}{W:Wd}(q:src.run (vis ρ) (λd=>onL (z08 d) λl=>forR i b N Q X l ρ W) (λx=>X x W)):(SmR.for_ i src b).run ρ W N Q X:=q
abbrev w0:List (Int × Int):=[(1,2),(-3,0)]
def wnd0:Wnd (vecs w0) true:=⟨zbA (by decide) (by decide) (by decide),(λ_ z=>by cases z),λ_=>⟨w0,rfl,by decide⟩⟩
structure St54 (S:D)(p:Addr)(k:Nat)(ρ:Pu.Env)(W:Wd):Prop where
 ex:∃(kvs:List (Key × D)) (ws st un:List D) (ss:List Str) (b4 b5 b6 b7 b8 b9 b10:B),ρ=[.s S,.s (.ptr p),.o (dk kvs),.o (.lst ws),b4,b5,b6,b7,b8,b9,b10]/\NB b4/\NB b5/\NB b6/\NB b7/\NB b8/\NB b9/\NB b10/\
  W p=some (cL kvs ws st un)/\z60 kvs ss/\zac ws/\kvs.length<=k+1/\ws.length<=12/\st.length<=2*k+2
def nbs {d:D}:NB (.s d) :=.inr ⟨d,rfl⟩
abbrev zdA:SmR :=.seq (.lift (.set 9 (.op pIx [.op pLst [.c (.str "first"),.v 5,.op z0u [.op pMod [.op z05 [.v 4,.c (.int 14)],.c (.int 12)]]],.op pMod [.op z05 [.v 4,.c (.int 15)],.c (.int 3)]])))
 (.seq (.lift (.set 10 (.op z0n [.v 4,.c (.int 16),.op pIx [.op pLst [.c (.int 4),.op pPow [.c (.int 10),.c (.int 9)],.op pAdd [.op pPow [.c (.int 10),.c (.int 9)],.c (.int 3)],.op pPow [.c (.int 10),.c (.int 20)]],.op pMod [.op z05 [.v 4,.c (.int 18)],.c (.int 4)]]])))
 (.seq (.lift (.ifs (.op pEq [.op pMod [.op z05 [.v 4,.c (.int 71)],.c (.int 3)],.c (.int 0)]) (.set 10 (.op z0o [.v 4,.op pAdd [.op pPow [.c (.int 10),.c (.int 9)],.c (.int 2)]])) .skip))
 (.seq (.lift (.set 8 (.c .non)))
 (.seq (.lift (.ifs (.op z3D [.v 9,.v 2]) (.set 8 (.c (.str "wind"))) (.ifs (.or (.op pEq [.op pLen [.v 3],.c (.int 12)]) (.op pGt [.op zbg [.op pAbs [.op pIx [.v 10,.c (.int 0)]],.op pAbs [.op pIx [.v 10,.c (.int 1)]]],.op pPow [.c (.int 10),.c (.int 9)]])) (.set 8 (.c (.str "deed"))) (.app 3 (.op pTup [.op z5z [.v 2,.v 9],.v 10])))))
 (.seq (.ifr (.cmp pNe (.call z0k [.raw 1,.vs (.op pTup [.c (.str "watch"),.v 9,.v 10])]) (.vs (.v 8))) (.lift (.ret (.c (.bl false)))) .skip)
 (.seq (.ifp (.or (.not (.op z0b [.meth "Log" ["winds","row","places","standing","undone"] z1R (.v 1) [],.op z2r [.op z7v [.op zbh [.v 2]]]])) (.not (.op z0b [.meth "Log" ["winds","row","places","standing","undone"] z1k (.v 1) [],.op z2r [.v 3]]))) (.lift (.ret (.c (.bl false)))) .skip)
 (.ifz 2 (.not (.op pAll [.comp 1 [2,1] (.nm 0) (.op z6r [.v 2]) none (.op z0b [.meth "Log" ["winds","row","places","standing","undone"] z0K (.v 2) [.v 0],.op z5z [.v 1,.v 0]])])) (.lift (.ret (.c (.bl false)))) .skip)))))))
abbrev zfE:SmR :=.seq (.lift (.set 5 (.op z0Z [.v 4])))
 (.seq (.lift (.unp [] [6,7] (.op z0C [.v 4])))
 (.seq (.lift (.set 8 (.c .non)))
 (.seq (.lift (.ifs (.or (.not (.v 7)) (.not (.op z0D [.v 5]))) (.set 8 (.c (.str "wind"))) (.dput 2 (.v 5) (.v 6))))
 (.seq (.ifr (.cmp pNe (.call z0k [.raw 1,.vs (.op pTup [.c (.str "wind"),.v 5,.v 6])]) (.vs (.v 8))) (.lift (.ret (.c (.bl false)))) .skip)
 zdA))))
def zdF {ns:List Int}{p:Addr}{k:Nat}{c:Int}{W:Wd}{kvs:List (Key × D)}{ws st un:List D}{ss:List Str}{x:Str}{w:D}{good:Bool}{b8 b9 b10:B}{N:EW}{Q:DW}{X:XW}(hk:k<=64)(hx:x.length<=13)(hw:Wnd w good)(n8:NB b8)(n9:NB b9)(n10:NB b10)(hW:W p=some (cL kvs ws st un))(gk:z60 kvs ss)(gr:zac ws)(kl:kvs.length<=k+2)(wl:ws.length<=12)(sl:st.length<=2*k+3)
  (q:∀ρ' W',St54 (.lst (ns.map .int)) p (k+1) ρ' W'->N ρ' W'):zdA.run (R11 (.lst (ns.map .int)) p kvs ws (.s (.int c)) (.s (.str x)) (.s w) (.s (.bl good)) b8 b9 b10) W N Q X:=by
 refine z1F (t6 hx λo ho =>?_);refine z1F (t7 λx1 y1 =>?_);refine z1F (t8 λx2 y2 =>?_);refine z1F (t3 ?_);have hp:∀w,valD kvs (.inr o)=some w->Pr w:=λw hv=>by
  obtain⟨vs,rfl,_⟩:=gk.val hv;exact z8i vs
 have fin:∀(due:B) (W':Wd) (ws' st' un':List D),NB due->shB W' due=due->W' p=some (cL kvs ws' st' un')->zac ws'->ws'.length<=12->st'.length<=2*k+4->
   (SmR.seq (.ifp (.or (.not (.op z0b [.meth "Log" ["winds","row","places","standing","undone"] z1R (.v 1) [],.op z2r [.op z7v [.op zbh [.v 2]]]])) (.not (.op z0b [.meth "Log" ["winds","row","places","standing","undone"] z1k (.v 1) [],.op z2r [.v 3]]))) (.lift (.ret (.c (.bl false)))) .skip)
    (.ifz 2 (.not (.op pAll [.comp 1 [2,1] (.nm 0) (.op z6r [.v 2]) none (.op z0b [.meth "Log" ["winds","row","places","standing","undone"] z0K (.v 2) [.v 0],.op z5z [.v 1,.v 0]])])) (.lift (.ret (.c (.bl false)))) .skip)).run (R11 (.lst (ns.map .int)) p kvs ws' (.s (.int c)) (.s (.str x)) (.s w) (.s (.bl good)) due (.s (.str o)) (.s (.tup [.int x2,.int y2]))) W' N Q X:=λdue W' ws' st' un' nd hd hW' gr' wl' sl'=>
  z1F (t11 hW' rfl rfl rfl (zfV hw.np) rfl hd rfl rfl gk gr' (by omega) (by omega) (t12 hW' rfl rfl rfl (zfV hw.np) rfl hd rfl rfl gk (by omega) (q _ _ ⟨kvs,ws',st',un',ss,_,_,_,_,_,_,_,rfl,nbs,nbs,nbs,nbs,nd,nbs,nbs,hW',gk,gr',by omega,wl',by omega⟩)))
 have gr1:∀w,valD kvs (.inr o)=some w->zac (ws++[.tup [w,.tup [.int x2,.int y2]]]):=λw hv d hd=>by
  rcases wE.mp hd with z | z
  ·exact gr d z
  ·obtain⟨vs,rfl,hl⟩:=gk.val hv;rw[ww.mp z];exact⟨vs,x2,y2,rfl,hl⟩
 refine z1F (t9 hp (by omega) (λh =>?_) (λw h h' =>?_) λw h h1 h2 =>?_)
 ·refine z1F (t10 hW hp (by omega) (by omega) (λ_=>⟨rfl,fin _ W ws st un nbs rfl hW gr wl (by omega)⟩) (λw hv=>by rw[h] at hv; cases hv) λw hv=>by rw[h] at hv; cases hv)
 ·refine z1F (t10 hW hp (by omega) (by omega) (λhv=>by rw[h] at hv; cases hv) (λ_ _ _=>⟨rfl,fin _ W ws st un nbs rfl hW gr wl (by omega)⟩) λw' _ h1 h2 =>?_)
  rcases h' with z | z
  ·exact(h1 z).elim
  ·rw[z] at h2; cases h2
 ·refine z1F (t10 hW hp (by omega) (by omega) (λhv=>by rw[h] at hv; cases hv) (λw' _ h' =>?_) λw' hv _ _=>⟨rfl,λW' hW' =>?_⟩)
  ·rcases h' with z | z
   ·exact(h1 z).elim
   ·rw[z] at h2; cases h2
  ·rw[h] at hv
   cases hv
   exact fin _ W' _ _ _ nbs rfl hW' (gr1 w h) (by rw[wG]; show _+1<=12; omega) (by rw[wG]; show _+1<=_; omega)
def zg0 {ns:List Int}{p:Addr}{k:Nat}{c:Int}{ρ:Pu.Env}{W:Wd}{N:EW}{Q:DW}{X:XW}(hk:k<=64)(h:St54 (.lst (ns.map .int)) p k ρ W)(q:∀ρ' W',St54 (.lst (ns.map .int)) p (k+1) ρ' W'->N ρ' W'):zfE.run (ρ.set 4 (.s (.int c))) W N Q X:=by
 obtain⟨kvs,ws,st,un,ss,b4,b5,b6,b7,b8,b9,b10,rfl,n4,n5,n6,n7,n8,n9,n10,hW,gk,gr,kl,wl,sl⟩:=h;rw[show List.set (R11 (.lst (ns.map .int)) p kvs ws b4 b5 b6 b7 b8 b9 b10) 4 (.s (.int c))=R11 (.lst (ns.map .int)) p kvs ws (.s (.int c)) b5 b6 b7 b8 b9 b10 from rfl];refine z1F (t1 λx hx =>?_);refine z1F (t2 λw good hw =>?_);refine z1F (t3 ?_);refine z1F (t4 hx hw (by omega) (λhb =>?_) λhb =>?_)
 ·refine z1F (t5 hW hx hw (by omega) (by omega) (λ_=>⟨rfl,?_⟩) λz=>by rw[hb] at z; cases z);exact zdF hk hx hw nbs n9 n10 hW gk gr (by omega) wl (by omega) q
 ·refine z1F (t5 hW hx hw (by omega) (by omega) (λz=>by rw[hb] at z; cases z) λ_=>⟨rfl,λW' hW' =>?_⟩);have hg:good=true:=by
   cases good with
   | true=>rfl
   | false=>rw[vv] at hb; cases hb
  obtain⟨vs,rfl,hv⟩:=hw.ok hg;obtain⟨ss',gk',kl'⟩:=gk.put (n:=x) hv;exact zdF hk hx hw nbs n9 n10 hW' gk' gr (by omega) wl (by rw[wG]; show _+1<=_; omega) q
def zfn (ns:List Int)(h:ns.length<=63):z5Q.run [.lst (ns.map .int)] (λd=>d = .bl true) (λ_=>False):=by
 refine⟨rfl,?_⟩;ac_rfl;refine z1F ?_;intro p hp;ac_rfl;refine z1F (r_ex ?_);refine z5h rfl z1J ?_;refine z1O (x_vs ?_);ac_rfl;ac_nf;refine z1O (x_vs ?_);ac_rfl;ac_nf;refine z4j ?_;refine z6n (w:=vecs w0) (kvs:=[]) (ws:=[]) (st:=[]) (un:=[]) z1J (by decide) wnd0 (by decide) (by decide) (λz=>by rw[za3] at z; cases z) λ_ W1 h1 =>?_;refine z1F (r_ex ?_);refine z5h rfl h1 ?_;refine z1O (x_vs ?_);ac_rfl;ac_nf;refine z1O (x_vs ?_);ac_rfl;ac_nf;refine z4j ?_;have v1:valD (putD [] (.inr "first") (vecs w0)) (.inr "first")=some (vecs w0):=rfl;refine z5p h1 (λw hw=>by rw[v1] at hw; cases hw; exact z8i _) (by decide) (by decide) (λz=>by rw[v1] at z; cases z) (λw hw z=>by rcases z with z | z <;> exact absurd z (by decide)) λw hw _ _ W2 h2 =>?_;rw[v1] at hw
 cases hw
 refine z1F (z1e ?_);ac_nf;refine⟨.inr "first",rfl,?_⟩;refine⟨(λx hx=>Safe.of_noL (by simp at hx; subst hx; rfl) (by simp at hx; subst hx; rfl) _),?_⟩;ac_rfl;refine z1F (z1e ?_);ac_nf;refine⟨(λx hx=>Safe.of_noL (by simp at hx; subst hx; rfl) (by simp at hx; subst hx; rfl) _),?_⟩;ac_rfl;refine z1F ?_;refine ziz ?_;ac_rfl;ac_nf;refine zbp (by rw[wA]; exact z44 (show 1+ns.length<=1000 by omega)) ?_;refine zhZ ?_;rw[show [D.int 0]++List.map D.int ns=(0::ns).map D.int from rfl];have h3:W2 p=some (cL [(.inr "first",vecs w0)] [.tup [vecs w0,.tup [.int 0,.int 1]]] [.tup [.str "wind",.str "first",vecs w0],.tup [.str "watch",.str "first",.tup [.int 0,.int 1]]] []):=h2;refine zdl (λdn ρ W=>St54 (.lst (ns.map .int)) p dn.length ρ W) ?_ ?_ ?_
 ·refine⟨[(.inr "first",vecs w0)],[.tup [vecs w0,.tup [.int 0,.int 1]]],_,[],["first"],.n,.n,.n,.n,.n,.n,.n,rfl,.inl rfl,.inl rfl,.inl rfl,.inl rfl,.inl rfl,.inl rfl,.inl rfl,h3,⟨rfl,λr hr =>?_⟩,λd hd =>?_,wc 1,show 1<=12 by decide,wc 2⟩
  ·obtain rfl:=ww.mp hr;exact⟨w0,rfl,show 2<=12 by decide⟩
  ·obtain rfl:=ww.mp hd;exact⟨w0,0,1,rfl,show 2<=12 by decide⟩
 ·rintro dn c rest ρ W e hst;have hk:dn.length<=64:=by
   have:=congrArg List.length e;simp at this;omega
  exact zg0 hk hst λρ' W' z=>by rw[wG]; exact z
 ·rintro ρ W ⟨kvs,ws,st,un,ss,b4,b5,b6,b7,b8,b9,b10,rfl,_⟩;refine z1e ?_;ac_nf
  rfl
end Pu
namespace L2
open PySem PySem.Spec PyProof.Rows
structure z5Y (k:Nat)(A:Around):Prop where
 dp:A.depth+3*k+5<recursionLimit
 un:A.units+16*k+200<cLine
def Room.suite {j k:Nat}{A:Around}{v:Option Value}(r:Room k A)(h:j<=k):z5Y j (A.mark v):=⟨(r.mono h).dp,(r.mono h).un⟩
theorem z5Y.units {k:Nat}{A:Around}(r:z5Y k A):A.units+64<cLine:=by have:=r.un; lia
theorem z5Y.deeper {k:Nat}{A:Around}(r:z5Y (k+1) A)(env:Env):z5Y k (A.deeper env):=
 ⟨by have:=r.dp; show A.depth+1+3*k+5<_; lia,by have:=r.un; show A.units+3+16*k+200<_; lia⟩
structure zch (P:Program)(w:World)(K:W.Frag)(mg:Str->Option Value)(base:Heap)(CX:CXT)(k:Nat)(f:Addr)(fd:FuncData)(ps:List Str)(sp:Sp):Prop where
 len:∀vs H Q E,sp vs H Q E->vs.length=ps.length
 run:∀(A:Around) (outer:List Env) (s:Shared) (H:Hp) (args:Args) (us:List Value) (vs:List V) (Q:VK) (E:XK),z5Y k A->Env0 P w K mg base A outer s H->BindsTo s fd args (ps.zip us)->Vals vs us->sp vs H Q E->
  codeAny (model P w) A (.call (.ref f) args) (CR CX outer P w H s Q E) s
structure CalS (P:Program)(w:World)(K:W.Frag)(mg:Str->Option Value)(base:Heap)(CX:CXT)(k:Nat)(x:Str)(ps:List Str)(sp:Sp):Prop where
 ex:∃f fd,zch P w K mg base CX k f fd ps sp/\mg x=some (.ref f)/\PySem.W.keepIn K (.ref f)=true/\z3i K fd ps []
@[reducible] def Cx.wild (X:Cx)(A:Around):Cx:={ X with A:=A,calm:=false,xe:=λ_ _=>False }
section
variable {X:Cx}{CX:CXT}{k:Nat}{ps:List Str}{sp:Sp}{E:XK}{x:Str}{p pos:Pos}{e:Expr}{es:List Expr}{t:TA}
def zh0 (C:CalS X.prog X.w X.K X.mg X.base CX k x ps sp)(hr:z5Y k X.A)(hx:z1D CX X E)(ha:PA X (e::es) t)(hg:Gl X x)
  (hdb:(x == ("__debug__":Str))=false) (he:starEach (e::es) X.env=(false,eval e X.env)::starEach es X.env:=by rfl) (hpl:(backTo pos (starEach es X.env)).any (·.1)=false:=by rfl):
  PE X (.Call (.Name x p) (e::es) [] pos) (zcp sp [] E t):=by
 obtain⟨f,fd,F,hm,hk,hb⟩:=C.ex;intro pins s σ H Q I h;refine vT (z4S I hg hm ?_ hdb);refine ug (h₀:=X.base) I.ok.mod.kin hk (thn (ha pos pins s σ H _ I h) λus s1 ⟨vs,H1,I1,r,q⟩=>⟨I1.kIn,?_⟩) he hpl;have r2:Vals (vs++[]) (us++[]):=r.append .nil;have hl:(us++[]).length=ps.length:=by rw[<- r2.length]; exact F.len _ _ _ _ q
 refine wpAny_call (uq (F.run X.A X.stack s1 H1 ⟨us,[]⟩ (us++[]) (vs++[]) Q E hr I1.env0 (hb s1 us I1.kIn hl) r2 q) λr s' hq =>?_)
 cases r with
 | error e=>exact hx pins σ H1 s1 e s' I1 hq
 | ok fl=>
  cases fl with
  | ret u=>exact I1.after hq
  | next=>exact False.elim hq
  | brk=>exact False.elim hq
  | cont=>exact False.elim hq
end
section
variable {P:Program}{w:World}{K:W.Frag}{mg:Str->Option Value}{base:Heap}{k:Nat}{f:Addr}{qual:Str}{N ps:List Str}{sp:Sp}
def Fun.okS {x:Str}{st:Stmt}{fd:FuncData}(F:Fun K x qual st f fd)(S:z0i N ps (z01 st))(len:∀vs H Q E,sp vs H Q E->vs.length=ps.length)
  (hbody:∀(cdv:Value) (A B:Around) (outer:List Env) (s:Shared) (H:Hp) (vs:List V) (Q:VK) (E:XK),z5Y k (A.deeper (envOfC qual (z01 st) s.heap.objs.size f cdv))->sp vs H Q E->
   ∃t,QSs ((cxOf (CXe P w) P w K mg base N qual (z01 st) f cdv B outer s H E).wild (A.deeper (envOfC qual (z01 st) s.heap.objs.size f cdv))) (z15 st) t/\t { nx:=λ_ H'=>Q .non H',rt:=Q } (z3V N vs) H):zch P w K mg base (CXe P w) (k+1) f fd ps sp:=by
 obtain⟨oc,od,kV,doc,pm,an,cdv,ct,osl,rfl,lk,hcd⟩:=F.ex;refine⟨len,λA outer s H args us vs Q E hr e0 hb r hsp =>?_⟩;have hl:=len _ _ _ _ hsp;have KX:K.In s.heap:=e0.mod.kin.keeps λb o e=>(e0.bs b o e).1;have lim:s.heap.NoLimit:=e0.mod.nolimit.keeps λb o e=>(e0.bs b o e).1;have hkind:∀y∈ps.zip us,(z01 st).names.lookup y.1=some .local\/((z01 st).names.lookup y.1=some .cell/\((cellsFrom (s.heap.objs.size+1) (z01 st).names []).lookup y.1).isSome=true):=λ⟨n,v⟩ hy=>by
  rcases S.par n (List.of_mem_zip hy).1 with q | q
  ·exact .inl q
  ·exact .inr ⟨q,PySem.W.cellsFrom_some _ _ _ (.inl q)⟩
 refine codeAny_call_function (by have:=hr.dp; lia) (KX _ _ lk) rfl S.co S.gen rfl (PySem.W.codeRec_of KX hcd) (hb _ _ _ _ ?_);refine wpAny_newFunctionEnv_cells S.kind hkind λenv he s1 x =>?_;subst he;refine⟨lim.keeps x.toInCall.keep,codeAny_func ?_⟩;obtain⟨t,ht,hq⟩:=hbody cdv A { A with handled:=none } outer s H vs Q E (hr.deeper _) hsp;have I:Inv (cxOf (CXe P w) P w K mg base N qual (z01 st) f cdv { A with handled:=none } outer s H E) [] (z3V N vs) H s1:=z7H (A:={ A with handled:=none }) S rfl ⟨e0.frames,e0.mod,e0.bs,e0.bsz,e0.funs,e0.frf,e0.tbs,e0.hok,e0.bare⟩ hl r x;have o:=I.ok;have I2:Inv ((cxOf (CXe P w) P w K mg base N qual (z01 st) f cdv { A with handled:=none } outer s H E).wild (A.deeper (envOfC qual (z01 st) s.heap.objs.size f cdv))) [] (z3V N vs) H s1:=
  ⟨⟨o.mod,o.kind,o.glob,o.blt,o.above,o.inj,o.has,o.cab,(λz=>by cases z),Around.frames_deeper e0.frames,o.stk,o.exf,o.bs,o.bsz,o.noex,o.exfs,o.funs,o.frf,o.tbs⟩,I.os,I.bare,I.base,I.loc,I.cell,I.free,I.freeC,I.pin,I.hok,I.len⟩
 refine wK (ht.p [] s1 (z3V N vs) H _ I2 hq) (λfl s' hs =>?_) λe s' hs=>hs.elim;have fin:∀{σ':St}{H':Hp}{v:V}{u:Value},Inv ((cxOf (CXe P w) P w K mg base N qual (z01 st) f cdv { A with handled:=none } outer s H E).wild (A.deeper (envOfC qual (z01 st) s.heap.objs.size f cdv))) [] σ' H' s'->RelV v u->Q v H'->CE outer P w H s Q u s':=
  λ{σ' H' v u} J rv q=>⟨v,H',J.os,J.bare,J.base,J.hok,rv,q⟩
 cases fl with
 | ret u=>
  obtain⟨v,σ',H',J,rv,q⟩:=hs;exact fin J rv q
 | next=>
  obtain⟨σ',H',J,q⟩:=hs;exact fin (v:=V.non) (u:=Value.none) J rfl q
 | brk=>
  obtain⟨_,_,_,q⟩:=hs;exact False.elim q
 | cont=>
  obtain⟨_,_,_,q⟩:=hs;exact False.elim q
end
end L2
namespace Pu
open PySem PySem.Spec PyProof.Rows L2
theorem z4n {f:Str}{v:V}:∀{fs:List (Str × V)},f ∉ fs.map (·.1)->putF f v fs=fs++[(f,v)]
 | [],_=>rfl
 | (g,x)::r,h=>by
  rw[wz,wx,not_or] at h;show (if g=f then (g,v)::r else (g,x)::putF f v r)=_;rw[if_neg (λe=>h.1 e.symm),z4n h.2]
  rfl
section
variable {X:Cx}{E:XK}{e:Expr}{es:List Expr}{xs:List Ex}{pos:Pos}{k:Nat}
def zgk {CX:CXT}{ps:List Str}{F:Fn}{f:Str}{pp:Pos}(C:CalS X.prog X.w X.K X.mg X.base CX k f ps (spP X.K X.mg F))(hr:z5Y k X.A)(hx:z1D CX X E)(ha:QXA X E (e::es) xs)(hg:Gl X f)
  (hdb:(f == ("__debug__":Str))=false) (he:starEach (e::es) X.env=(false,eval e X.env)::starEach es X.env:=by rfl) (hpl:(backTo pos (starEach es X.env)).any (·.1)=false:=by rfl):QX X E (.Call (.Name f pp) (e::es) [] pos) (.op F xs):=
 QE.imp ⟨zh0 C hr hx ha.p hg hdb he hpl⟩ λσ H Q ⟨G,ρ,Q0,X0,hs,ab,hr,hk,hx⟩=>by
  refine⟨G,ρ,_,X0,hs,ab,hr,λds vs G' H' q g1 g2 g3 rds =>?_,hx⟩;show spP X.K X.mg F (vs++[]) H' Q E;rw[wW];exact⟨G',ds,Q0,X0,g2,rds,q,hk.same g1 g3,hx.same g3⟩
end
section
variable {P:Program}{w:World}{K:W.Frag}{mg:Str->Option Value}{h base:Heap}{k:Nat}{n:Str}{st:Stmt}{f:Addr}{N ps:List Str}{sp:Sp}
def fnS {x qual:Str}{fd:FuncData}{np nn:Nat}{b:Sm}(F:Fun K x qual st f fd)(S:z0i N ps (z01 st))(hp:ps.length=np)(hN:N.length=nn)
  (hb:∀(cdv:Value) (A B:Around) (outer:List PySem.Env) (s:Shared) (H:Hp) (E:XK),z5Y k (A.deeper (envOfC qual (z01 st) s.heap.objs.size f cdv))->QZs ((cxOf (CXe P w) P w K mg base N qual (z01 st) f cdv B outer s H E).wild (A.deeper (envOfC qual (z01 st) s.heap.objs.size f cdv))) E0 (z15 st) b):
  zch P w K mg base (CXe P w) (k+1) f fd ps (spP K mg (Fn.mkN np nn b)):=by
 refine F.okS S (λvs H Q E ⟨G,ds,Q0,X0,hs,rds,⟨hl,hr⟩,hk,hx⟩=>by rw[rds.len,hl,hp]) λcdv A B outer s H vs Q E hroom ⟨G,ds,Q0,X0,hs,rds,⟨hl,hr⟩,hk,hx⟩=>⟨_,hb cdv A B outer s H E hroom,?_⟩
 refine⟨H,G,G,_,λ_=>Q0 .non,Q0,λ_=>False,z4f hs rds hl hN,hr,λρ' σ' H' G' q ab _ =>?_,hk,Kx.no⟩;exact hk .non .non G' H' q ⟨ab.g0,ab.nw⟩ ab.g ab.s0 (by rw[RD])
def zfx {CX:CXT}(X:K.In h)(G:h.Ns mainGlobals mg)(d:Std K n st f)
  (hb:∀(kV dc pm:Value) (an:Option Addr) (cd ct:Value) (us:List Value),us.length=ps.length->bindArgs (PySem.W.fnOf n n (z2d st) (z15 st) (z01 st) .none kV dc pm an cd ct) ⟨us,[]⟩=pure (ps.zip us))
  (ok:∀fd,Fun K n n st f fd->zch P w K mg base CX k f fd ps sp):CalS P w K mg base CX k n ps sp:=by
 obtain⟨oc,od,sl,kV,dc,pm,an,cd,ct,a,l,c,kk⟩:=d;have F:=z7J (st:=st) l c kk;exact⟨_,_,ok _ F,w9 X G a,kk,F.binds (ps:=ps) hb⟩
end
end Pu
namespace My
open PySem L2 Pu
def top (i:Nat):Stmt:=PySem.Challenge.pw_closehaul_k54_winds_and_watches_refused.main.body.getD i (.Pass ⟨0,0,0,0⟩)
def zc8:(("LETTERS":Str) == ("__debug__":Str))=false:=by decide
def zjv:(("Log":Str) == ("__debug__":Str))=false:=by decide
def z5U:(("MOST_HEADINGS":Str) == ("__debug__":Str))=false:=by decide
def z6d:(("MOST_LETTERS":Str) == ("__debug__":Str))=false:=by decide
def z51:(("MOST_SPEED":Str) == ("__debug__":Str))=false:=by decide
def z6c:(("MOST_WATCHES":Str) == ("__debug__":Str))=false:=by decide
def za6:(("NoCourse":Str) == ("__debug__":Str))=false:=by decide
def z74:(("NoDeed":Str) == ("__debug__":Str))=false:=by decide
def z7N:(("NoFraction":Str) == ("__debug__":Str))=false:=by decide
def za5:(("NoShares":Str) == ("__debug__":Str))=false:=by decide
def zdr:(("NoText":Str) == ("__debug__":Str))=false:=by decide
def z4E:(("NoWind":Str) == ("__debug__":Str))=false:=by decide
def z8I:(("SailError":Str) == ("__debug__":Str))=false:=by decide
def z7M:(("ValueError":Str) == ("__debug__":Str))=false:=by decide
def z5T:(("_law_any_name":Str) == ("__debug__":Str))=false:=by decide
def z4D:(("_law_digits":Str) == ("__debug__":Str))=false:=by decide
def z5S:(("_law_done":Str) == ("__debug__":Str))=false:=by decide
def z6b:(("_law_is_word":Str) == ("__debug__":Str))=false:=by decide
def z8H:(("_law_kind":Str) == ("__debug__":Str))=false:=by decide
def z0m:(("_law_mix":Str) == ("__debug__":Str))=false:=by decide
def z5R:(("_law_name":Str) == ("__debug__":Str))=false:=by decide
def z4C:(("_law_odd_heading":Str) == ("__debug__":Str))=false:=by decide
def z3f:(("_law_same":Str) == ("__debug__":Str))=false:=by decide
def z4B:(("_law_vector":Str) == ("__debug__":Str))=false:=by decide
def z6a:(("_law_wind_by":Str) == ("__debug__":Str))=false:=by decide
def z3N:(("_law_wind_by_digits":Str) == ("__debug__":Str))=false:=by decide
def z8G:(("_law_word":Str) == ("__debug__":Str))=false:=by decide
def zic:(("abs":Str) == ("__debug__":Str))=false:=by decide
def zdq:(("all":Str) == ("__debug__":Str))=false:=by decide
def zc7:(("bool":Str) == ("__debug__":Str))=false:=by decide
def zib:(("int":Str) == ("__debug__":Str))=false:=by decide
def z6v:(("is_speed":Str) == ("__debug__":Str))=false:=by decide
def z36:(("is_speed_vector":Str) == ("__debug__":Str))=false:=by decide
def zc5:(("is_wind":Str) == ("__debug__":Str))=false:=by decide
def zc4:(("is_word":Str) == ("__debug__":Str))=false:=by decide
def d_len:(("len":Str) == ("__debug__":Str))=false:=by decide
def zc3:(("list":Str) == ("__debug__":Str))=false:=by decide
def zju:(("max":Str) == ("__debug__":Str))=false:=by decide
def z9s:(("sorted":Str) == ("__debug__":Str))=false:=by decide
def zia:(("str":Str) == ("__debug__":Str))=false:=by decide
def z2I:(("tuple":Str) == ("__debug__":Str))=false:=by decide
def z7Z:bootBuiltins "ValueError"=some (.type "ValueError"):=by rfl
def z7D:("ValueError":Str)≠"__name__":=by decide
def zij:bootBuiltins "abs"=some (.builtin "abs"):=by rfl
def zhL:("abs":Str)≠"__name__":=by decide
def zdw:bootBuiltins "all"=some (.builtin "all"):=by rfl
def zdf:("all":Str)≠"__name__":=by decide
def zcf:bootBuiltins "bool"=some (.type "bool"):=by rfl
def zbs:("bool":Str)≠"__name__":=by decide
def zii:bootBuiltins "int"=some (.type "int"):=by rfl
def zhK:("int":Str)≠"__name__":=by decide
def z6e:bootBuiltins "len"=some (.builtin "len"):=by rfl
def z69:("len":Str)≠"__name__":=by decide
def zce:bootBuiltins "list"=some (.type "list"):=by rfl
def zbr:("list":Str)≠"__name__":=by decide
def zjA:bootBuiltins "max"=some (.builtin "max"):=by rfl
def zji:("max":Str)≠"__name__":=by decide
def z9x:bootBuiltins "sorted"=some (.builtin "sorted"):=by rfl
def z9j:("sorted":Str)≠"__name__":=by decide
def zih:bootBuiltins "str"=some (.type "str"):=by rfl
def zhJ:("str":Str)≠"__name__":=by decide
def z2J:bootBuiltins "tuple"=some (.type "tuple"):=by rfl
def z2E:("tuple":Str)≠"__name__":=by decide
structure Txt (K:W.Frag)(mg:Str->Option Value)(cSailError cNoFraction cNoText cNoShares cNoCourse cNoWind cNoDeed cLog:Addr):Prop where
 triv:True
 n_ValueError:mg "ValueError"=none
 n_abs:mg "abs"=none
 n_all:mg "all"=none
 n_bool:mg "bool"=none
 n_int:mg "int"=none
 n_isinstance:mg "isinstance"=none
 n_len:mg "len"=none
 n_list:mg "list"=none
 n_max:mg "max"=none
 n_range:mg "range"=none
 n_sorted:mg "sorted"=none
 n_str:mg "str"=none
 n_tuple:mg "tuple"=none
 g_LETTERS:∃t,mg "LETTERS"=some (.str "abcdefghijklmnopqrstuvwxyz" t)
 g_MOST_HEADINGS:∃t,mg "MOST_HEADINGS"=some (.int 12 t)
 g_MOST_LETTERS:∃t,mg "MOST_LETTERS"=some (.int 12 t)
 g_MOST_SPEED:∃t,mg "MOST_SPEED"=some (.int 1000000000 t)
 g_MOST_WATCHES:∃t,mg "MOST_WATCHES"=some (.int 12 t)
 x_SailError:Exc K mg "SailError" cSailError
 x_NoFraction:Exc K mg "NoFraction" cNoFraction
 x_NoText:Exc K mg "NoText" cNoText
 x_NoShares:Exc K mg "NoShares" cNoShares
 x_NoCourse:Exc K mg "NoCourse" cNoCourse
 x_NoWind:Exc K mg "NoWind" cNoWind
 x_NoDeed:Exc K mg "NoDeed" cNoDeed
 l_NoDeed:z22 K cNoDeed=true
 l_NoWind:z22 K cNoWind=true
 i_NoDeed_NoWind:PySem.W.kitOne K (.ref cNoDeed) (.ref cNoWind)=some false
 i_NoWind_NoWind:PySem.W.kitOne K (.ref cNoWind) (.ref cNoWind)=some true
 i_NoDeed_NoDeed:PySem.W.kitOne K (.ref cNoDeed) (.ref cNoDeed)=some true
 i_NoWind_NoDeed:PySem.W.kitOne K (.ref cNoWind) (.ref cNoDeed)=some false
 i_NoDeed_NoShares:PySem.W.kitOne K (.ref cNoDeed) (.ref cNoShares)=some false
 i_NoWind_NoShares:PySem.W.kitOne K (.ref cNoWind) (.ref cNoShares)=some false
 i_NoDeed_ValueError:PySem.W.kitOne K (.ref cNoDeed) (.type "ValueError")=some true
 i_NoWind_ValueError:PySem.W.kitOne K (.ref cNoWind) (.type "ValueError")=some true
 i_NoDeed_t_NoCourse_NoFraction_NoText:PySem.W.kitAny K (.ref cNoDeed) [.ref cNoCourse,.ref cNoFraction,.ref cNoText]=some false
 i_NoWind_t_NoCourse_NoFraction_NoText:PySem.W.kitAny K (.ref cNoWind) [.ref cNoCourse,.ref cNoFraction,.ref cNoText]=some false
 m_NoDeed_SailError:PySem.W.exmOne K (.ref cNoDeed) (.ref cSailError)=some true
 m_NoWind_SailError:PySem.W.exmOne K (.ref cNoWind) (.ref cSailError)=some true
 rc:Rc K mg "Log" cLog
 na_winds:z2K K cLog "winds"
 na_row:z2K K cLog "row"
 na_places:z2K K cLog "places"
 na_standing:z2K K cLog "standing"
 na_undone:z2K K cLog "undone"
local macro_rules | `(tactic| rfl') => `(tactic| first | exact⟨.inl rfl,by decide,by decide⟩ | exact⟨.inr rfl,by decide,by decide⟩ | exact⟨rfl,rfl,rfl,by decide +kernel,rfl,by decide +kernel,by decide +kernel⟩)
local macro_rules | `(tactic| walk_at "c1") => `(tactic| exact λ_ _ _ _ _ _ us hl=>match us,hl with | [_],_=>rfl)
local macro_rules | `(tactic| walk_at "c2") => `(tactic| exact λ_ _ _ _ _ _ us hl=>match us,hl with | [_,_],_=>rfl)
local macro_rules | `(tactic| walk_at "c3") => `(tactic| exact λ_ _ _ _ _ _ us hl=>match us,hl with | [_,_,_],_=>rfl)
abbrev Cl (P:Program)(w:World)(K:W.Frag)(mg:Str->Option Value)(base:Heap)(n:Nat)(x:Str)(ps:List Str)(F:Fn):Prop:=Cal P w K mg base (CXe P w) n x ps (spP K mg F)
abbrev Clr (P:Program)(w:World)(K:W.Frag)(mg:Str->Option Value)(base:Heap)(n:Nat)(x:Str)(ps:List Str)(F:FnR):Prop:=Cal P w K mg base (CXe P w) n x ps (spR K mg F)
abbrev Fk (P:Program)(w:World)(K:W.Frag)(mg:Str->Option Value)(base:Heap)(n:Nat)(f:Addr)(fd:FuncData)(ps:List Str)(F:Fn):Prop:=FnOk P w K mg base (CXe P w) n f fd ps (spP K mg F)
abbrev Fkr (P:Program)(w:World)(K:W.Frag)(mg:Str->Option Value)(base:Heap)(n:Nat)(f:Addr)(fd:FuncData)(ps:List Str)(F:FnR):Prop:=FnOk P w K mg base (CXe P w) n f fd ps (spR K mg F)
abbrev ClS (P:Program)(w:World)(K:W.Frag)(mg:Str->Option Value)(base:Heap)(n:Nat)(x:Str)(ps:List Str)(F:Fn):Prop:=CalS P w K mg base (CXe P w) n x ps (spP K mg F)
abbrev Fks (P:Program)(w:World)(K:W.Frag)(mg:Str->Option Value)(base:Heap)(n:Nat)(f:Addr)(fd:FuncData)(ps:List Str)(F:Fn):Prop:=zch P w K mg base (CXe P w) n f fd ps (spP K mg F)
abbrev Nd (l:List Str):Prop:=l.Nodup
abbrev z8a:Stmt:=z3G (top 34) 0
def zep:z0i ["self"] ["self"] (z01 z8a):=by rfl'
abbrev z26:Stmt:=top 37
def z4N:z0i ["cell","k","prime","number"] ["cell","k"] (z01 z26):=by rfl'
def z8y:Nm (z01 z26) "cell":=by rfl'
def z8x:Nm (z01 z26) "k":=by rfl'
def z2H:Nm (z01 z26) "prime":=by rfl'
def z48:Nm (z01 z26) "number":=by rfl'
abbrev z25:Stmt:=top 38
def z5l:z0i ["found","due","k"] ["found","due"] (z01 z25):=by rfl'
def z12:Nm (z01 z25) "found":=by rfl'
def z11:Nm (z01 z25) "due":=by rfl'
def z3H:Nm (z01 z25) "k":=by rfl'
abbrev z1f:Stmt:=top 39
def z4g:z0i ["cell","k","most","east"] ["cell","k","most"] (z01 z1f):=by rfl'
def z41:Nm (z01 z1f) "cell":=by rfl'
def z40:Nm (z01 z1f) "k":=by rfl'
def z2h:Nm (z01 z1f) "most":=by rfl'
def z3Z:Nm (z01 z1f) "east":=by rfl'
abbrev z1N:Stmt:=top 40
def z2A:z0i ["number","letters","word","k"] ["number"] (z01 z1N):=by rfl'
def z3K:Nm (z01 z1N) "number":=by rfl'
def z3J:Nm (z01 z1N) "letters":=by rfl'
def z2R:Nm (z01 z1N) "word":=by rfl'
def z3I:Nm (z01 z1N) "k":=by rfl'
abbrev z0F:Stmt:=top 41
def z0S:z0i ["cell","letters","word","rest","k"] ["cell"] (z01 z0F):=by rfl'
def z3m:Nm (z01 z0F) "cell":=by rfl'
def z3l:Nm (z01 z0F) "letters":=by rfl'
def z1M:Nm (z01 z0F) "word":=by rfl'
def z1L:Nm (z01 z0F) "rest":=by rfl'
def z57:Nm (z01 z0F) "k":=by rfl'
abbrev z2w:Stmt:=top 43
def z5k:z0i ["cell","odd"] ["cell"] (z01 z2w):=by rfl'
def z2m:Nm (z01 z2w) "cell":=by rfl'
def z50:Nm (z01 z2w) "odd":=by rfl'
abbrev z1z:Stmt:=top 45
def z4h:z0i ["cell","far","wide"] ["cell","far"] (z01 z1z):=by rfl'
def z42:Nm (z01 z1z) "cell":=by rfl'
def z2Z:Nm (z01 z1z) "far":=by rfl'
def z2i:Nm (z01 z1z) "wide":=by rfl'
abbrev z0s:Stmt:=top 44
def z10:z0i ["heading","cell","far","odd"] ["heading","cell"] (z01 z0s):=by rfl'
def z0a:Nm (z01 z0s) "heading":=by rfl'
def z1Q:Nm (z01 z0s) "cell":=by rfl'
def z0V:Nm (z01 z0s) "far":=by rfl'
def z0A:Nm (z01 z0s) "odd":=by rfl'
abbrev z0g:Stmt:=top 46
def z0G:z0i ["cell","far","rest","rows","k"] ["cell","far"] (z01 z0g):=by rfl'
def z24:Nm (z01 z0g) "cell":=by rfl'
def z1s:Nm (z01 z0g) "far":=by rfl'
def z0W:Nm (z01 z0g) "rest":=by rfl'
def z1r:Nm (z01 z0g) "rows":=by rfl'
def z3s:Nm (z01 z0g) "k":=by rfl'
abbrev z0q:Stmt:=top 47
def z0P:z0i ["cell","most","many","wind","way","at"] ["cell"] (z01 z0q):=by rfl'
def z0J:Nm (z01 z0q) "cell":=by rfl'
def z5K:Nm (z01 z0q) "most":=by rfl'
def z21:Nm (z01 z0q) "many":=by rfl'
def z0U:Nm (z01 z0q) "wind":=by rfl'
def z1x:Nm (z01 z0q) "way":=by rfl'
def z2G:Nm (z01 z0q) "at":=by rfl'
abbrev z37:Stmt:=top 42
def z5m:z0i ["error","kinds"] ["error"] (z01 z37):=by rfl'
def z7I:Nm (z01 z37) "kinds":=by rfl'
abbrev z30:Stmt:=top 30
def z9C:z0i ["name"] ["name"] (z01 z30):=by rfl'
def z5M:Nm (z01 z30) "name":=by rfl'
abbrev z39:Stmt:=top 31
def z8b:z0i ["number"] ["number"] (z01 z39):=by rfl'
def z3M:Nm (z01 z39) "number":=by rfl'
abbrev z1t:Stmt:=top 32
def z4i:z0i ["vector"] ["vector"] (z01 z1t):=by rfl'
def z1j:Nm (z01 z1t) "vector":=by rfl'
abbrev z31:Stmt:=top 33
def z9D:z0i ["wind"] ["wind"] (z01 z31):=by rfl'
def z4b:Nm (z01 z31) "wind":=by rfl'
abbrev z1m:Stmt:=z3G (top 34) 7
def z53:z0i ["self","deed","led"] ["self","deed"] (z01 z1m):=by rfl'
def z1A:Nm (z01 z1m) "self":=by rfl'
def z0B:Nm (z01 z1m) "deed":=by rfl'
abbrev z1w:Stmt:=z3G (top 34) 6
def z5o:z0i ["self","deed"] ["self","deed"] (z01 z1w):=by rfl'
def z3p:Nm (z01 z1w) "self":=by rfl'
def z59:Nm (z01 z1w) "deed":=by rfl'
abbrev z0R:Stmt:=z3G (top 34) 1
def z5n:z0i ["self","name","wind"] ["self","name","wind"] (z01 z0R):=by rfl'
def z58:Nm (z01 z0R) "self":=by rfl'
def z3o:Nm (z01 z0R) "name":=by rfl'
def z3n:Nm (z01 z0R) "wind":=by rfl'
abbrev z0Y:Stmt:=z3G (top 34) 2
def z54:z0i ["self","name","stream"] ["self","name","stream"] (z01 z0Y):=by rfl'
def z2c:Nm (z01 z0Y) "self":=by rfl'
def z33:Nm (z01 z0Y) "name":=by rfl'
def z2b:Nm (z01 z0Y) "stream":=by rfl'
abbrev z38:Stmt:=top 48
def z27:z0i ["log","deed","found","e"] ["log","deed"] (z01 z38):=by rfl'
def z2n:Nm (z01 z38) "found":=by rfl'
abbrev z1H:Stmt:=top 49
def z62:z0i ["name"] ["name"] (z01 z1H):=by rfl'
def z3L:Nm (z01 z1H) "name":=by rfl'
abbrev z2O:Stmt:=z3G (top 34) 9
def z7g:z0i ["self"] ["self"] (z01 z2O):=by rfl'
def z70:Nm (z01 z2O) "self":=by rfl'
abbrev z2f:Stmt:=z3G (top 34) 11
def z63:z0i ["self"] ["self"] (z01 z2f):=by rfl'
def z5N:Nm (z01 z2f) "self":=by rfl'
abbrev z19:Stmt:=z3G (top 34) 10
def z4O:z0i ["self","name"] ["self","name"] (z01 z19):=by rfl'
def z2T:Nm (z01 z19) "self":=by rfl'
def z2S:Nm (z01 z19) "name":=by rfl'
abbrev z2x:Stmt:=top 50
def z2q:z0i ["script","log","winds","watches","cell","name","wind","good","due","other","stream"] ["script"] (z01 z2x):=by rfl'
def zfr:Nm (z01 z2x) "script":=by rfl'
def z4a:Nm (z01 z2x) "log":=by rfl'
def z4T:Nm (z01 z2x) "winds":=by rfl'
def z6Z:Nm (z01 z2x) "watches":=by rfl'
def z3e:Nm (z01 z2x) "cell":=by rfl'
def z5L:Nm (z01 z2x) "name":=by rfl'
def z8z:Nm (z01 z2x) "wind":=by rfl'
def zbF:Nm (z01 z2x) "good":=by rfl'
def z49:Nm (z01 z2x) "due":=by rfl'
def z6Y:Nm (z01 z2x) "other":=by rfl'
def z3Q:Nm (z01 z2x) "stream":=by rfl'
section
variable {P:Program}{w:World}{K:W.Frag}{mg:Str->Option Value}{base:Heap}{f:Addr}{fd:FuncData}{cSailError cNoFraction cNoText cNoShares cNoCourse cNoWind cNoDeed cLog:Addr}(T:Txt K mg cSailError cNoFraction cNoText cNoShares cNoCourse cNoWind cNoDeed cLog)
include T
omit T in theorem pc_Log:∀c∈[dk [],.lst [],.lst [.tup [.int 0,.int 0,.int 1]],.lst [],.lst []],Pc c:=by
 intro c hc;simp only[wx,wN,vO] at hc
 rcases hc with rfl | rfl | rfl | rfl | rfl
 ·intro d hd; cases hd
 ·intro d hd; cases hd
 ·intro d hd;rw[ww] at hd;subst hd; exact⟨rfl,rfl⟩
 ·intro d hd; cases hd
 ·intro d hd; cases hd
theorem zfg (F:Fun K "__init__" "Log.__init__" z8a f fd):FnOk P w K mg base (CXe P w) 1 f fd ["self"] (zax K mg cLog ["winds","row","places","standing","undone"] [dk [],.lst [],.lst [.tup [.int 0,.int 0,.int 1]],.lst [],.lst []]):=by
 refine F.okN zep (λvs H Q E ⟨p,dx,e,_⟩=>by rw[e]; rfl) λcdv A outer s H vs Q E hr ⟨p,dx,e,hp,k⟩ =>?_;subst e;refine⟨_,⟨z4o (z7t (pv 0) zcY rfl) (z4o (z7t (pv 0) (z7u z5x) rfl) (z4o (z7t (pv 0) (z7u (z4Q (zdT (z4Q z93 (z4Q z93 (z4Q z93 z5x)))) z5x)) rfl) (z4o (z7t (pv 0) (z7u z5x) rfl) (zb6 (z7t (pv 0) (z7u z5x) rfl)))))⟩,?_⟩;have hd:Cls K cLog:=T.rc.c;intro a1 n1;have p1:p≠a1:=z0p hp n1;refine⟨_,rfl,p,cLog,dx,[],rfl,(by rw[z04 p1]; exact hp),hd,T.na_winds,by decide,w6 _,λa2 n2 =>?_⟩;obtain⟨p2,n2⟩:=z0l n2;obtain⟨e21,n2⟩:=z0l n2;refine⟨_,rfl,p,cLog,dx,[("winds",.ref a1)],rfl,(by rw[z04 p2.symm,z09]; rfl),hd,T.na_row,(by show 1<1000; decide),(by show 3<=sizeLine; decide),λt nt =>?_⟩;obtain⟨pt,nt⟩:=z0l nt;obtain⟨et2,nt⟩:=z0l nt;obtain⟨_,nt⟩:=z0l nt;obtain⟨et1,nt⟩:=z0l nt;refine⟨(by show 1<=sizeLine; decide),λa3 n3 =>?_⟩;obtain⟨e3t,n3⟩:=z0l n3;obtain⟨p3,n3⟩:=z0l n3;obtain⟨e32,n3⟩:=z0l n3;obtain⟨_,n3⟩:=z0l n3;obtain⟨e31,n3⟩:=z0l n3;have q2:putF "row" (.ref a2) [("winds",.ref a1)]=([("winds",.ref a1),("row",.ref a2)]:List (Str × V)):=z4n (show ("row":Str) ∉ [("winds":Str)] by decide);refine⟨_,rfl,p,cLog,dx,[("winds",.ref a1),("row",.ref a2)],rfl,(by rw[z04 p3.symm,z04 pt.symm,z09,q2]),hd,T.na_places,(by show 2<1000; decide),w6 _,λa4 n4 =>?_⟩;obtain⟨p4,n4⟩:=z0l n4;obtain⟨e43,n4⟩:=z0l n4;obtain⟨e4t,n4⟩:=z0l n4;obtain⟨_,n4⟩:=z0l n4;obtain⟨e42,n4⟩:=z0l n4;obtain⟨_,n4⟩:=z0l n4;obtain⟨e41,n4⟩:=z0l n4;have q3:putF "places" (.ref a3) [("winds",.ref a1),("row",.ref a2)]=([("winds",.ref a1),("row",.ref a2),("places",.ref a3)]:List (Str × V)):=z4n (show ("places":Str) ∉ [("winds":Str),("row":Str)] by decide);refine⟨_,rfl,p,cLog,dx,[("winds",.ref a1),("row",.ref a2),("places",.ref a3)],rfl,(by rw[z04 p4.symm,z09,q3]),hd,T.na_standing,(by show 3<1000; decide),w6 _,λa5 n5 =>?_⟩;obtain⟨p5,n5⟩:=z0l n5;obtain⟨e54,n5⟩:=z0l n5;obtain⟨_,n5⟩:=z0l n5;obtain⟨e53,n5⟩:=z0l n5;obtain⟨e5t,n5⟩:=z0l n5;obtain⟨_,n5⟩:=z0l n5;obtain⟨e52,n5⟩:=z0l n5;obtain⟨_,n5⟩:=z0l n5;obtain⟨e51,n5⟩:=z0l n5;have q4:putF "standing" (.ref a4) [("winds",.ref a1),("row",.ref a2),("places",.ref a3)]=([("winds",.ref a1),("row",.ref a2),("places",.ref a3),("standing",.ref a4)]:List (Str × V)):=z4n (show ("standing":Str) ∉ [("winds":Str),("row":Str),("places":Str)] by decide);refine⟨_,rfl,p,cLog,dx,[("winds",.ref a1),("row",.ref a2),("places",.ref a3),("standing",.ref a4)],rfl,(by rw[z04 p5.symm,z09,q4]),hd,T.na_undone,(by show 4<1000; decide),?_⟩;refine k (upd (λ_=>none) t (.tup [.int 0,.int 0,.int 1])) _ [a1,a2,a3,a4,a5] (λa o e =>?_) (λa o e =>?_) ⟨?_,?_,?_,?_,?_,trivial⟩ (λa ha =>?_) ?_ ?_ (λb o e hb =>?_)
 ·by_cases h:a=t
  ·subst h; exact nt
  ·rw[z04 h] at e; cases e
 ·by_cases h:a=t
  ·subst h;rw[z09] at e;rw[z04 pt,z04 e5t.symm,z04 pt,z04 e4t.symm,z04 pt,z04 e3t.symm,z09]; exact e
  ·rw[z04 h] at e; cases e
 ·exact⟨[],RDs.nil,.inl ⟨[],by rw[z04 p1.symm,z04 e51.symm,z04 p1.symm,z04 e41.symm,z04 p1.symm,z04 e31.symm,z04 et1.symm,z04 p1.symm,z04 e21.symm,z04 p1.symm,z09],rfl,rfl⟩⟩
 ·exact⟨[],by rw[z04 p2,z04 e52.symm,z04 p2,z04 e42.symm,z04 p2,z04 e32.symm,z04 et2.symm,z04 p2,z09],RDs.nil⟩
 ·exact⟨[.ref t],by rw[z04 p3,z04 e53.symm,z04 p3,z04 e43.symm,z04 p3,z09],RDs.cons (by rw[RD]; exact⟨t,_,rfl,.inl (.inl z09),RDs.cons RD.int' (RDs.cons RD.int' (RDs.cons RD.int' RDs.nil))⟩) RDs.nil⟩
 ·exact⟨[],by rw[z04 p4,z04 e54.symm,z04 p4,z09],RDs.nil⟩
 ·exact⟨[],by rw[z04 p5,z09],RDs.nil⟩
 ·have hh:H a=none/\a≠t:=by
   simp only[wx,wN,vO] at ha
   rcases ha with rfl | rfl | rfl | rfl | rfl
   ·exact⟨n1,et1.symm⟩
   ·exact⟨n2,et2.symm⟩
   ·exact⟨n3,e3t⟩
   ·exact⟨n4,e4t⟩
   ·exact⟨n5,e5t⟩
  exact⟨hh.1,by rw[z04 hh.2]⟩
 ·simp only[ve,wx,wN,vO,not_or,not_false_eq_true,List.nodup_nil,and_true];exact⟨⟨e21.symm,e31.symm,e41.symm,e51.symm⟩,⟨e32.symm,e42.symm,e52.symm⟩,⟨e43.symm,e53.symm⟩,e54.symm⟩
 ·rw[z09,show putF "undone" (.ref a5) [("winds",.ref a1),("row",.ref a2),("places",.ref a3),("standing",.ref a4)]=([("winds",.ref a1),("row",.ref a2),("places",.ref a3),("standing",.ref a4),("undone",.ref a5)]:List (Str × V)) from z4n (show ("undone":Str) ∉ [("winds":Str),("row":Str),("places":Str),("standing":Str)] by decide)]; rfl
 ·have f1:b≠a1:=λz=>by rw[z,n1] at e; cases e
  have f2:b≠a2:=λz=>by rw[z,n2] at e; cases e
  have f3:b≠a3:=λz=>by rw[z,n3] at e; cases e
  have f4:b≠a4:=λz=>by rw[z,n4] at e; cases e
  have f5:b≠a5:=λz=>by rw[z,n5] at e; cases e
  have ft:b≠t:=λz=>by rw[z,nt] at e; cases e
  rw[z04 hb,z04 f5,z04 hb,z04 f4,z04 hb,z04 f3,z04 ft,z04 hb,z04 f2,z04 hb,z04 f1]; exact e
theorem z9K (F:Fun K "_law_mix" "_law_mix" z26 f fd):Fk P w K mg base 1 f fd ["cell","k"] z05:=by
 refine fnN F z4N rfl rfl (λcdv A outer s H E hr =>?_);have hu:=hr.units;exact(z0c (z0H (ag 2 z4N.nd z2H z03))
   (z0c (z0H (ag 3 z4N.nd z48 (z07 z0T lk2 (z07 z3k lk2 (z07 z1C lk2 (z07 z1C lk2 (z07 z0T lk2 (qx_v (vg 0 z8y)) (qx_v (vg 2 z2H))) (z07 z3k lk2 z03 (qx_v (vg 1 z8x)))) z03) z03) (qx_v (vg 2 z2H)))))
   (z0h (z0t (z07 z3c lk2 (z07 z0T lk2 (z07 z3k lk2 (z07 z0T lk2 (z07 z3k lk2 (qx_v (vg 3 z48)) (qx_v (vg 3 z48))) (qx_v (vg 2 z2H))) z03) (qx_v (vg 2 z2H))) z03)))))
theorem z2D {n k:Nat}(F:Fun K "_law_same" "_law_same" z25 f fd)(q0:Cl P w K mg base k "_law_same" ["found","due"] (z0d n))(hk:0<=k):Fk P w K mg base (k+1) f fd ["found","due"] (z0d (n+1)):=by
 refine fnN F z5l rfl rfl (λcdv A outer s H E hr =>?_);have hu:=hr.units;exact(z0c (z2C (z1q (z3y (T:="tuple") (by decide) (glg rfl) T.n_isinstance (qx_v (vg 1 z11)) (z2p (v :=.ty "tuple") (glg rfl) T.n_tuple z2J rfl z2E z2I))) (z0c (z2C (QW.pt (z4k (z1P (z1q (z3y (T:="tuple") (by decide) (glg rfl) T.n_isinstance (qx_v (vg 0 z12)) (z2p (v :=.ty "tuple") (glg rfl) T.n_tuple z2J rfl z2E z2I)))) (z3B (z2k (zbo hu) lk2 (z3z z43 lkN (glg rfl) T.n_len z6e (z00 (qx_v (vg 0 z12)) z02) z69 d_len) (z3z z43 lkN (glg rfl) T.n_len z6e (z00 (qx_v (vg 1 z11)) z02) z69 d_len) (z1u _))))) (z0h (z0t z3A)) z1V)
   (z0c (z5c (g:=(.nm 2)) ul rfl (glg rfl) T.n_range (z00 (z3z z43 lkN (glg rfl) T.n_len z6e (z00 (qx_v (vg 1 z11)) z02) z69 d_len) z02) (ng 2 z5l.nd z3H) (z0h (z2C (z1P (z1q (z1d q0 (hr.mono (by omega)) z0j (z00 (z17 (qx_v (vg 0 z12)) (qx_v (vg 2 z3H)) (λ_ _=>rfl)) (z00 (z17 (qx_v (vg 1 z11)) (qx_v (vg 2 z3H)) (λ_ _=>rfl)) z02)) (glg rfl) z3f))) (z0h (z0t z3A)) z1V)))
   (z0h (z0t z3A)))) z1V)
   (z0c (z2C (z2k zhl lk2 (qx_v (vg 1 z11)) z5r (z1u _)) (z0h (z0t (z5u zhl lk2 (qx_v (vg 0 z12)) z5r (z1u _)))) z1V)
   (z0c (z2C (z1q (z3y (T:="str") (by decide) (glg rfl) T.n_isinstance (qx_v (vg 1 z11)) (z2p (v :=.ty "str") (glg rfl) T.n_str zih rfl zhJ zia))) (z0h (z0t (z6o (z3y (T:="str") (by decide) (glg rfl) T.n_isinstance (qx_v (vg 0 z12)) (z2p (v :=.ty "str") (glg rfl) T.n_str zih rfl zhJ zia)) (z8Z (z5u (z4t hu) lk2 (qx_v (vg 0 z12)) (qx_v (vg 1 z11)) (z1u _)))))) z1V)
   (z0c (z2C (QW.pt (z4k (z1P (z1q (z3y (T:="int") (by decide) (glg rfl) T.n_isinstance (qx_v (vg 0 z12)) (z2p (v :=.ty "int") (glg rfl) T.n_int zii rfl zhK zib)))) (z3B (z2k (zbo hu) lk2 (z3y (T:="bool") (by decide) (glg rfl) T.n_isinstance (qx_v (vg 0 z12)) (z2p (v :=.ty "bool") (glg rfl) T.n_bool zcf rfl zbs zc7)) (z3y (T:="bool") (by decide) (glg rfl) T.n_isinstance (qx_v (vg 1 z11)) (z2p (v :=.ty "bool") (glg rfl) T.n_bool zcf rfl zbs zc7)) (z1u _))))) (z0h (z0t z3A)) z1V)
   (z0h (z0t (z5u (z4t hu) lk2 (qx_v (vg 0 z12)) (qx_v (vg 1 z11)) (z1u _))))))))
theorem z6Q (F:Fun K "_law_vector" "_law_vector" z1f f fd)(q1:Cl P w K mg base 1 "_law_mix" ["cell","k"] z05):Fk P w K mg base 2 f fd ["cell","k","most"] z0n:=by
 refine fnN F z4g rfl rfl (λcdv A outer s H E hr =>?_);have hu:=hr.units;exact(z0c (z0H (ag 3 z4g.nd z3Z (z07 z9c lk2 (z07 z0T lk2 (z1d (k:=1) q1 (hr.mono (by decide)) z0j (z00 (qx_v (vg 0 z41)) (z00 (qx_v (vg 1 z40)) z02)) (glg rfl) z0m) (z07 z1C lk2 (z07 z3k lk2 z03 (qx_v (vg 2 z2h))) z03)) (qx_v (vg 2 z2h)))))
   (z0h (z0t (z0z (z00 (qx_v (vg 3 z3Z)) (z00 (z07 z9c lk2 (z07 z0T lk2 (z1d (k:=1) q1 (hr.mono (by decide)) z0j (z00 (qx_v (vg 0 z41)) (z00 (z07 z1C lk2 (qx_v (vg 1 z40)) z03) z02)) (glg rfl) z0m) (z07 z1C lk2 (z07 z3k lk2 z03 (qx_v (vg 2 z2h))) z03)) (qx_v (vg 2 z2h))) z02))))))
theorem z8l (F:Fun K "_law_name" "_law_name" z1N f fd):Fk P w K mg base 1 f fd ["number"] z0u:=by
 refine fnN F z2A rfl rfl (λcdv A outer s H E hr =>?_);have hu:=hr.units;exact(z0c (z0H (ag 1 z2A.nd z3J z0M))
   (z0c (z0H (ag 2 z2A.nd z2R (z17 (qx_v (vg 1 z3J)) (z07 z0T lk2 (qx_v (vg 0 z3K)) z03) (λ_ _=>rfl))))
   (z0c (z5c (g:=(.nm 3)) ul rfl (glg rfl) T.n_range (z00 (z07 z3k lk2 (z07 z0T lk2 (z07 z3c lk2 (qx_v (vg 0 z3K)) z03) z03) z03) z02) (ng 3 z2A.nd z3I) (z0h (z0H (ag 2 z2A.nd z2R (z07 z1C lk2 (qx_v (vg 2 z2R)) (z17 (qx_v (vg 1 z3J)) (z07 z0T lk2 (z07 z1C lk2 (z07 z3c lk2 (qx_v (vg 0 z3K)) z03) (z07 z3k lk2 (qx_v (vg 3 z3I)) (qx_v (vg 3 z3I)))) z03) (λ_ _=>rfl)))))))
   (z0h (z0t (qx_v (vg 2 z2R)))))))
theorem z5A (F:Fun K "_law_any_name" "_law_any_name" z0F f fd):Fk P w K mg base 1 f fd ["cell"] z18:=by
 refine fnN F z0S rfl rfl (λcdv A outer s H E hr =>?_);have hu:=hr.units;exact(z0c (z0H (ag 1 z0S.nd z3l z0M))
   (z0c (z0H (ag 2 z0S.nd z1M z0M))
   (z0c (z0H (ag 3 z0S.nd z1L (z07 z3c lk2 (qx_v (vg 0 z3m)) z03)))
   (z0c (z5c (g:=(.nm 4)) ul rfl (glg rfl) T.n_range (z00 (z07 z1C lk2 z03 (z07 z0T lk2 (qx_v (vg 0 z3m)) z03)) z02) (ng 4 z0S.nd z57) (z0c (z0H (ag 2 z0S.nd z1M (z07 z1C lk2 (qx_v (vg 2 z1M)) (z17 (qx_v (vg 1 z3l)) (z07 z0T lk2 (qx_v (vg 3 z1L)) z03) (λ_ _=>rfl)))))
   (z0h (z0H (ag 3 z0S.nd z1L (z07 z3c lk2 (qx_v (vg 3 z1L)) z03))))))
   (z0h (z0t (qx_v (vg 2 z1M))))))))
theorem z8k (F:Fun K "_law_word" "_law_word" z2w f fd)(q1:Cl P w K mg base 1 "_law_mix" ["cell","k"] z05)(q5:Cl P w K mg base 1 "_law_name" ["number"] z0u)(q6:Cl P w K mg base 1 "_law_any_name" ["cell"] z18):Fk P w K mg base 2 f fd ["cell"] z0Z:=by
 refine fnN F z5k rfl rfl (λcdv A outer s H E hr =>?_);have hu:=hr.units;exact(z0c (z0H (ag 1 z5k.nd z50 (QF.qx (z2Q (z00 z0M (z00 z0M (z00 z0M (z00 z0M (z00 z0M (z00 z0M (z00 z0M (z00 z0M z02))))))))))))
   (z0c (z2C (z2k (z4t hu) lk2 (z07 z0T lk2 (z1d (k:=1) q1 (hr.mono (by decide)) z0j (z00 (qx_v (vg 0 z2m)) (z00 z03 z02)) (glg rfl) z0m) z03) z03 (z1u _)) (z0h (z0t (z17 (qx_v (vg 1 z50)) (z07 z0T lk2 (z1d (k:=1) q1 (hr.mono (by decide)) z0j (z00 (qx_v (vg 0 z2m)) (z00 z03 z02)) (glg rfl) z0m) z03) (λ_ _=>rfl)))) z1V)
   (z0c (z2C (z2k (z4t hu) lk2 (z07 z0T lk2 (z1d (k:=1) q1 (hr.mono (by decide)) z0j (z00 (qx_v (vg 0 z2m)) (z00 z03 z02)) (glg rfl) z0m) z03) z03 (z1u _)) (z0h (z0t (z1d (k:=1) q6 (hr.mono (by decide)) z0j (z00 (qx_v (vg 0 z2m)) z02) (glg rfl) z5T))) z1V)
   (z0h (z0t (z1d (k:=1) q5 (hr.mono (by decide)) z0j (z00 (z07 z0T lk2 (z1d (k:=1) q1 (hr.mono (by decide)) z0j (z00 (qx_v (vg 0 z2m)) (z00 z03 z02)) (glg rfl) z0m) z03) z02) (glg rfl) z5R))))))
theorem z6R (F:Fun K "_law_digits" "_law_digits" z1z f fd):Fk P w K mg base 1 f fd ["cell","far"] z0o:=by
 refine fnN F z4h rfl rfl (λcdv A outer s H E hr =>?_);have hu:=hr.units;exact(z0c (z0H (ag 2 z4h.nd z2i (z07 z1C lk2 (z07 z3k lk2 z03 (qx_v (vg 1 z2Z))) z03)))
   (z0h (z0t (z0z (z00 (z07 z9c lk2 (z07 z0T lk2 (qx_v (vg 0 z42)) (qx_v (vg 2 z2i))) (qx_v (vg 1 z2Z))) (z00 (z07 z9c lk2 (z07 z0T lk2 (z07 z3c lk2 (qx_v (vg 0 z42)) (qx_v (vg 2 z2i))) (qx_v (vg 2 z2i))) (qx_v (vg 1 z2Z))) z02))))))
theorem z4r (F:Fun K "_law_odd_heading" "_law_odd_heading" z0s f fd)(q1:Cl P w K mg base 1 "_law_mix" ["cell","k"] z05):Fk P w K mg base 2 f fd ["heading","cell"] z0O:=by
 refine fnN F z10 rfl rfl (λcdv A outer s H E hr =>?_);have hu:=hr.units;exact(z0c (z0H (ag 2 z10.nd z0V (z07 z1C lk2 (z07 z1C lk2 (z07 z4u lk2 z03 z03) z03) (z07 z0T lk2 (z1d (k:=1) q1 (hr.mono (by decide)) z0j (z00 (qx_v (vg 1 z1Q)) (z00 z03 z02)) (glg rfl) z0m) (z17 (QF.qx (z2Q (z00 z03 (z00 (z07 z4u lk2 z03 z03) z02)))) (z07 z0T lk2 (z1d (k:=1) q1 (hr.mono (by decide)) z0j (z00 (qx_v (vg 1 z1Q)) (z00 z03 z02)) (glg rfl) z0m) z03) (λ_ _=>rfl))))))
   (z0c (z0H (ag 3 z10.nd z0A (QF.qx (z2Q (z00 (QF.qx (zb4 zc9 (glg rfl) T.n_list zce (z00 (qx_v (vg 0 z0a)) z02) zbr zc3)) (z00 (z07 z1C lk2 (qx_v (vg 0 z0a)) (z0z (z00 z03 z02))) (z00 (ziH (qx_v (vg 0 z0a)) zeO (zeN z03)) (z00 (z0z (z00 (qx_v (vg 2 z0V)) (z00 (z17 (qx_v (vg 0 z0a)) z03 (λ_ _=>rfl)) z02))) (z00 (z0z (z00 (z17 (qx_v (vg 0 z0a)) z03 (λ_ _=>rfl)) (z00 (z9F z6s lk1 (qx_v (vg 2 z0V))) z02))) (z00 (z0z (z00 (z9F z6s lk1 (qx_v (vg 2 z0V))) (z00 (z17 (qx_v (vg 0 z0a)) z03 (λ_ _=>rfl)) z02))) z02))))))))))
   (z0c (z0H (ag 3 z10.nd z0A (z07 z1C lk2 (qx_v (vg 3 z0A)) (QF.qx (z2Q (z00 (z0z (z00 z3A (z00 (z17 (qx_v (vg 0 z0a)) z03 (λ_ _=>rfl)) z02))) (z00 (z0z (z00 (z17 (qx_v (vg 0 z0a)) z03 (λ_ _=>rfl)) (z00 z5r z02))) (z00 (z0z (z00 z0M (z00 (z17 (qx_v (vg 0 z0a)) z03 (λ_ _=>rfl)) z02))) (z00 z03 (z00 z5r z02))))))))))
   (z0c (z0H (ag 3 z10.nd z0A (z07 z1C lk2 (qx_v (vg 3 z0A)) (QF.qx (z2Q (z00 (z0z (z00 (qx_v (vg 0 z0a)) (z00 (qx_v (vg 0 z0a)) z02))) (z00 (z0z (z00 (z17 (qx_v (vg 0 z0a)) z03 (λ_ _=>rfl)) (z00 (qx_v (vg 2 z0V)) z02))) z02)))))))
   (z0h (z0t (z17 (qx_v (vg 3 z0A)) (z07 z0T lk2 (z1d (k:=1) q1 (hr.mono (by decide)) z0j (z00 (qx_v (vg 1 z1Q)) (z00 z03 z02)) (glg rfl) z0m) z03) (λ_ _=>rfl))))))))
theorem z3E (F:Fun K "_law_wind_by_digits" "_law_wind_by_digits" z0g f fd)(q7:Cl P w K mg base 1 "_law_digits" ["cell","far"] z0o):Fk P w K mg base 2 f fd ["cell","far"] z0y:=by
 refine fnN F z0G rfl rfl (λcdv A outer s H E hr =>?_);have hu:=hr.units;exact(z0c (z0H (ag 2 z0G.nd z0W (z07 z3c lk2 (qx_v (vg 0 z24)) z03)))
   (z0c (z7n (ag 3 z0G.nd z1r (z2Q z02)))
   (z0c (z5c (g:=(.nm 4)) ul rfl (glg rfl) T.n_range (z00 (z07 z1C lk2 z03 (z07 z0T lk2 (qx_v (vg 0 z24)) z03)) z02) (ng 4 z0G.nd z3s) (z0c (zdM (vg 3 z1r) (z00 (z1d (k:=1) q7 (hr.mono (by decide)) z0j (z00 (qx_v (vg 2 z0W)) (z00 (qx_v (vg 1 z1s)) z02)) (glg rfl) z4D) z02))
   (z0h (z0H (ag 2 z0G.nd z0W (z07 z3c lk2 (z07 z3c lk2 (qx_v (vg 2 z0W)) (z07 z1C lk2 (z07 z3k lk2 z03 (qx_v (vg 1 z1s))) z03)) (z07 z1C lk2 (z07 z3k lk2 z03 (qx_v (vg 1 z1s))) z03)))))))
   (z0h (z0t (z5t z3g lkN (glg rfl) T.n_tuple z2J (z00 (qx_v (vg 3 z1r)) z02) z2E z2I))))))
theorem z64 (F:Fun K "_law_wind_by" "_law_wind_by" z0q f fd)(q1:Cl P w K mg base 1 "_law_mix" ["cell","k"] z05)(q8:Cl P w K mg base 2 "_law_vector" ["cell","k","most"] z0n)(q9:Cl P w K mg base 2 "_law_odd_heading" ["heading","cell"] z0O)(qa:Cl P w K mg base 2 "_law_wind_by_digits" ["cell","far"] z0y):Fk P w K mg base 3 f fd ["cell"] z0C:=by
 refine fnN F z0P rfl rfl (λcdv A outer s H E hr =>?_);have hu:=hr.units;exact(z0c (z0H (ag 1 z0P.nd z5K (z17 (QF.qx (z2Q (z00 z03 (z00 (z07 z4u lk2 z03 z03) z02)))) (z07 z0T lk2 (z1d (k:=1) q1 (hr.mono (by decide)) z0j (z00 (qx_v (vg 0 z0J)) (z00 z03 z02)) (glg rfl) z0m) z03) (λ_ _=>rfl))))
   (z0c (z0H (ag 2 z0P.nd z21 (z17 (QF.qx (z2Q (z00 z03 (z00 z03 (z00 z03 (z00 z03 z02)))))) (z07 z0T lk2 (z1d (k:=1) q1 (hr.mono (by decide)) z0j (z00 (qx_v (vg 0 z0J)) (z00 z03 z02)) (glg rfl) z0m) z03) (λ_ _=>rfl))))
   (z0c (z7n (zeI (iy:=3) (tg:=(.nm 0)) (ct:=none) z0P.nd rfl rfl rfl (z9G (glg rfl) T.n_range (z00 (qx_v (vg 2 z21)) z02)) rfl (z75.ok (N':=["k","cell","most"]) (xn:=["cell","most","many","wind","way","at"]) (nt:=1) (js:=[0,1]) (osc:=z01 z0q) rfl rfl (by decide +kernel)) rfl (λC s2 H2 fp=>(z6q (i:=0) (show Nd ["k","cell","most"] from by decide) rfl rfl)) trivial (λC s2 H2 fp=>(z1d (k:=2) q8 (hr.mono (by decide)) z0j (z00 (qx_v (qv 1)) (z00 (z07 z1C lk2 z03 (z07 z3k lk2 z03 (qx_v (qv 0)))) (z00 (qx_v (qv 2)) z02))) (by rfl) z4B))))
   (z0c (z2C (z2k (z4t hu) lk2 (z07 z0T lk2 (z1d (k:=1) q1 (hr.mono (by decide)) z0j (z00 (qx_v (vg 0 z0J)) (z00 z03 z02)) (glg rfl) z0m) z03) z03 (z1u _)) (z0c (z7n (ag 3 z0P.nd z0U (zb4 zc9 (glg rfl) T.n_list zce (z00 (z1d (k:=2) qa (hr.mono (by decide)) z0j (z00 (qx_v (vg 0 z0J)) (z00 (z07 z4u lk2 z03 z03) z02)) (glg rfl) z3N) z02) zbr zc3)))
   (z0h (z0H (ag 2 z0P.nd z21 (z3z z43 lkN (glg rfl) T.n_len z6e (z00 (qx_v (vg 3 z0U)) z02) z69 d_len))))) z1V)
   (z0c (z0H (ag 4 z0P.nd z1x (z07 z0T lk2 (z1d (k:=1) q1 (hr.mono (by decide)) z0j (z00 (qx_v (vg 0 z0J)) (z00 z03 z02)) (glg rfl) z0m) z03)))
   (z0c (z0H (ag 5 z0P.nd z2G (z07 z0T lk2 (z1d (k:=1) q1 (hr.mono (by decide)) z0j (z00 (qx_v (vg 0 z0J)) (z00 z03 z02)) (glg rfl) z0m) (qx_v (vg 2 z21)))))
   (z0c (z2C (z2k (zj4 hu) lk2 (qx_v (vg 4 z1x)) z03 (z1u _)) (z0h (zeB (vg 3 z0U) (qx_v (vg 5 z2G)) q9 (hr.mono (by decide)) z0j (z00 (z17 (qx_v (vg 3 z0U)) (qx_v (vg 5 z2G)) (λ_ _=>rfl)) (z00 (qx_v (vg 0 z0J)) z02)) (glg rfl) z4C (λhe hg=>zdP he hg))) z1V)
   (z0c (z2C (z2k (z4t hu) lk2 (qx_v (vg 4 z1x)) z03 (z1u _)) (z0h (z0t (z0z (z00 (qx_v (vg 3 z0U)) (z00 z3A z02))))) z1V)
   (z0c (z2C (z2k (z4t hu) lk2 (qx_v (vg 4 z1x)) z03 (z1u _)) (z0h (z0t (z0z (z00 (z17 (z0z (z00 (z0z z02) (z00 (z07 zfj lk2 (z0z (z00 (z17 (qx_v (vg 3 z0U)) z03 (λ_ _=>rfl)) z02)) z03) (z00 z03 (z00 z5r (z00 z0M (z00 z3A z02))))))) (z07 z0T lk2 (z1d (k:=1) q1 (hr.mono (by decide)) z0j (z00 (qx_v (vg 0 z0J)) (z00 z03 z02)) (glg rfl) z0m) z03) (λ_ _=>rfl)) (z00 z3A z02))))) z1V)
   (z0h (z0t (z0z (z00 (z5t z3g lkN (glg rfl) T.n_tuple z2J (z00 (qx_v (vg 3 z0U)) z02) z2E z2I) (z00 (z5u (zhm hu) lk2 (qx_v (vg 4 z1x)) z03 (z1u _)) z02))))))))))))))
theorem z8m (F:Fun K "_law_kind" "_law_kind" z37 f fd):Fks P w K mg base 1 f fd ["error"] z1n:=by
 refine fnS F z5m rfl rfl (λcdv A B outer s H E hr =>?_);have hu:=hr.units;exact(z0c (zaQ (i:=1) z5m.nd rfl z7I.loc (QF.qx (z2Q (z00 (z8f (xs:=["NoDeed","NoWind"]) (f:=(λx=>(x == "NoWind"))) (by rfl) T.n_isinstance (qx_v (qv 0)) (by rfl) T.x_NoWind z4E (z0X T.x_NoDeed.nm T.l_NoDeed (z0X T.x_NoWind.nm T.l_NoWind z3w)) (z0X T.x_NoDeed.nm T.i_NoDeed_NoWind (z0X T.x_NoWind.nm T.i_NoWind_NoWind z3w))) (z00 (z8f (xs:=["NoDeed","NoWind"]) (f:=(λx=>(x == "NoDeed"))) (by rfl) T.n_isinstance (qx_v (qv 0)) (by rfl) T.x_NoDeed z74 (z0X T.x_NoDeed.nm T.l_NoDeed (z0X T.x_NoWind.nm T.l_NoWind z3w)) (z0X T.x_NoDeed.nm T.i_NoDeed_NoDeed (z0X T.x_NoWind.nm T.i_NoWind_NoDeed z3w))) (z00 (z8f (xs:=["NoDeed","NoWind"]) (f:=(λ_=>false)) (by rfl) T.n_isinstance (qx_v (qv 0)) (by rfl) T.x_NoShares za5 (z0X T.x_NoDeed.nm T.l_NoDeed (z0X T.x_NoWind.nm T.l_NoWind z3w)) (z0X T.x_NoDeed.nm T.i_NoDeed_NoShares (z0X T.x_NoWind.nm T.i_NoWind_NoShares z3w))) z02))))))
   (z0c (z2C (QW.pt (z4k (z1q (zeG (cs:=[cNoCourse,cNoFraction,cNoText]) (xs:=["NoDeed","NoWind"]) (f:=(λ_=>false)) (by rfl) T.n_isinstance (qx_v (qv 0)) (z6P (by rfl) T.x_NoCourse za6 (z6P (by rfl) T.x_NoFraction z7N (z6P (by rfl) T.x_NoText zdr zeV))) (by show 3<=sizeLine; decide) (z0X T.x_NoDeed.nm T.l_NoDeed (z0X T.x_NoWind.nm T.l_NoWind z3w)) (z0X T.x_NoDeed.nm T.i_NoDeed_t_NoCourse_NoFraction_NoText (z0X T.x_NoWind.nm T.i_NoWind_t_NoCourse_NoFraction_NoText z3w)))) (z4k (z2k (zbo hu) lk2 (zaT (qx_v (qv 1)) (z00 z3A z02)) z03 (z1u _)) (z3B (z1P (z1q (zeF (T:="ValueError") (xs:=["NoDeed","NoWind"]) (f:=(λ_=>true)) (by rfl) T.n_isinstance (qx_v (qv 0)) (z2p (v :=.ty "ValueError") (by rfl) T.n_ValueError z7Z rfl z7D z7M) (z0X T.x_NoDeed.nm T.l_NoDeed (z0X T.x_NoWind.nm T.l_NoWind z3w)) (z0X T.x_NoDeed.nm T.i_NoDeed_ValueError (z0X T.x_NoWind.nm T.i_NoWind_ValueError z3w))))))))) (z0h (z0t z0M)) z1V)
   (z0h (z0t (z17 (QF.qx (z2Q (z00 z0M (z00 z0M (z00 z0M z02))))) (zaS (qx_v (qv 1)) (z00 z3A z02)) (λ_ _=>rfl))))))
theorem z9L (F:Fun K "is_word" "is_word" z30 f fd):Fk P w K mg base 1 f fd ["name"] z4z:=by
 refine fnN F z9C rfl rfl (λcdv A outer s H E hr =>?_);have hu:=hr.units;exact(z0h (z0t (z6o (z6M (z7A hu) (z7A hu) lk2 lk2 z03 (z3z z43 lkN (glg rfl) T.n_len z6e (z00 (qx_v (vg 0 z5M)) z02) z69 d_len) (qx_c (z4m (glg rfl) T.g_MOST_LETTERS z6d) λ_=>RD.int')) (z8Z (z3z (z9v rfl) lkN (glg rfl) T.n_all zdw (z00 (QF.qx (z5w (tg:=(.nm 0)) (ct:=none) rfl (qi_x (qx_v (vg 0 z5M))) rfl (z75.ok (N':=["sign"]) (xn:=["name"]) (nt:=1) (js:=[]) (osc:=z01 z30) rfl rfl (by decide +kernel)) rfl (λC s2 H2 fp=>(z6q (i:=0) (show Nd ["sign"] from by decide) rfl rfl)) trivial (λC s2 H2 fp=>(z5u zdY lk2 (qx_v (qv 0)) (qx_c (zcK (by rfl) T.g_LETTERS zc8) λ_=>RD.str') (by with_unfolding_all rfl))))) z02) zdf zdq)))))
theorem z8o (F:Fun K "is_speed" "is_speed" z39 f fd):Fk P w K mg base 1 f fd ["number"] z35:=by
 refine fnN F z8b rfl rfl (λcdv A outer s H E hr =>?_);have hu:=hr.units;exact(z0c (z2C (QW.pt (z4k (z1P (z1q (z3y (T:="int") (by decide) (glg rfl) T.n_isinstance (qx_v (vg 0 z3M)) (z2p (v :=.ty "int") (glg rfl) T.n_int zii rfl zhK zib)))) (z3B (z1q (z3y (T:="bool") (by decide) (glg rfl) T.n_isinstance (qx_v (vg 0 z3M)) (z2p (v :=.ty "bool") (glg rfl) T.n_bool zcf rfl zbs zc7)))))) (z0h (z0t z3A)) z1V)
   (z0h (z0t (z6M (z7A hu) (z7A hu) lk2 lk2 (z9F z6s lk1 (qx_c (z4m (glg rfl) T.g_MOST_SPEED z51) λ_=>RD.int')) (qx_v (vg 0 z3M)) (qx_c (z4m (glg rfl) T.g_MOST_SPEED z51) λ_=>RD.int')))))
theorem z4s (F:Fun K "is_speed_vector" "is_speed_vector" z1t f fd)(qb:Cl P w K mg base 1 "is_speed" ["number"] z35):Fk P w K mg base 2 f fd ["vector"] z0E:=by
 refine fnN F z4i rfl rfl (λcdv A outer s H E hr =>?_);have hu:=hr.units;exact(z0h (z0t (z6o (z3y (T:="tuple") (by decide) (glg rfl) T.n_isinstance (qx_v (vg 0 z1j)) (z2p (v :=.ty "tuple") (glg rfl) T.n_tuple z2J rfl z2E z2I)) (z6o (z5u (z4t hu) lk2 (z3z z43 lkN (glg rfl) T.n_len z6e (z00 (qx_v (vg 0 z1j)) z02) z69 d_len) z03 (z1u _)) (z6o (z1d (k:=1) qb (hr.mono (by decide)) z0j (z00 (z17 (qx_v (vg 0 z1j)) z03 (λ_ _=>rfl)) z02) (glg rfl) z6v) (z8Z (z1d (k:=1) qb (hr.mono (by decide)) z0j (z00 (z17 (qx_v (vg 0 z1j)) z03 (λ_ _=>rfl)) z02) (glg rfl) z6v)))))))
theorem z9M (F:Fun K "is_wind" "is_wind" z31 f fd)(qc:Cl P w K mg base 2 "is_speed_vector" ["vector"] z0E):Fk P w K mg base 3 f fd ["wind"] z4A:=by
 refine fnN F z9D rfl rfl (λcdv A outer s H E hr =>?_);have hu:=hr.units;exact(z0c (z2C (QW.pt (z4k (z1P (z1q (z3y (T:="tuple") (by decide) (glg rfl) T.n_isinstance (qx_v (vg 0 z4b)) (z2p (v :=.ty "tuple") (glg rfl) T.n_tuple z2J rfl z2E z2I)))) (z3B (z1P (zaW (z7A hu) (z7A hu) lk2 lk2 z03 (z3z z43 lkN (glg rfl) T.n_len z6e (z00 (qx_v (vg 0 z4b)) z02) z69 d_len) (qx_c (z4m (glg rfl) T.g_MOST_HEADINGS z5U) λ_=>RD.int')))))) (z0h (z0t z3A)) z1V)
   (z0h (z0t (z3z (z9v rfl) lkN (glg rfl) T.n_all zdw (z00 (QF.qx (z5w (tg:=(.nm 0)) (ct:=none) rfl (qi_x (qx_v (vg 0 z4b))) rfl (z75.ok (N':=["heading"]) (xn:=["wind"]) (nt:=1) (js:=[]) (osc:=z01 z31) rfl rfl (by decide +kernel)) rfl (λC s2 H2 fp=>(z6q (i:=0) (show Nd ["heading"] from by decide) rfl rfl)) trivial (λC s2 H2 fp=>(z1d (k:=2) qc (hr.mono (by decide)) z0j (z00 (qx_v (qv 0)) z02) (by rfl) z36)))) z02) zdf zdq))))
theorem z55 (F:Fun K "carry_out" "Log.carry_out" z1m f fd):Fkr P w K mg base 1 f fd ["self","deed"] z1b:=by
 refine fnR F z53 rfl rfl (λcdv A outer s H E hr =>?_);have hu:=hr.units;exact(z0w (zb1 (z2k (z4t hu) lk2 (z17 (qx_v (vg 1 z0B)) z03 (λ_ _=>rfl)) z0M (z1u _)) (z23 (zeL (hu1 hu) T.rc T.na_winds (by decide) rfl (vg 0 z1A) (z17 (qx_v (vg 1 z0B)) z03 (λ_ _=>rfl)) (z17 (qx_v (vg 1 z0B)) z03 (λ_ _=>rfl)))) (z23 (zb1 (z2k (z4t hu) lk2 (z17 (qx_v (vg 1 z0B)) z03 (λ_ _=>rfl)) z0M (z1u _)) (z23 (zb2 T.rc T.na_row (by decide) rfl (vg 0 z1A) (z00 (z0z (z00 (z6O (hu1 hu) (z5s T.rc T.na_winds (qx_v (vg 0 z1A))) (z17 (qx_v (vg 1 z0B)) z03 (λ_ _=>rfl)) (λ_ _=>rfl)) (z00 (z17 (qx_v (vg 1 z0B)) z03 (λ_ _=>rfl)) z02))) z02))) (z0w (z0I z8Y) (z23 (z0I z8Y))))))
   (z23 (zb2 T.rc T.na_standing (by decide) rfl (vg 0 z1A) (z00 (qx_v (vg 1 z0B)) z02))))
theorem z5C (F:Fun K "do_newly" "Log.do_newly" z1w f fd)(m_carry_out:Cam P w K mg base (CXe P w) 1 cLog "carry_out" ["self","deed"] (spR K mg z1b)):Fkr P w K mg base 2 f fd ["self","deed"] z1p:=by
 refine fnR F z5o rfl rfl (λcdv A outer s H E hr =>?_);have hu:=hr.units;exact(z0w (zeM T.rc T.na_undone (by decide) rfl (vg 0 z3p))
   (z23 (zb3 (z4l T.rc m_carry_out (by decide) (vg 0 z3p) (hr.mono (by decide)) z9I (z1h (z45 (qx_v (vg 1 z59))) z3b)))))
theorem z5B (F:Fun K "set_wind" "Log.set_wind" z0R f fd)(qd:Cl P w K mg base 1 "is_word" ["name"] z4z)(qe:Cl P w K mg base 3 "is_wind" ["wind"] z4A)(m_do_newly:Cam P w K mg base (CXe P w) 2 cLog "do_newly" ["self","deed"] (spR K mg z1p)):Fkr P w K mg base 4 f fd ["self","name","wind"] z1o:=by
 refine fnR F z5n rfl rfl (λcdv A outer s H E hr =>?_);have hu:=hr.units;exact(z0w (z0I (z2C (z1P (z1q (z1d (k:=1) qd (hr.mono (by decide)) z9I (z00 (qx_v (vg 1 z3o)) z02) (glg rfl) zc4))) (z0h (z3P T.x_NoWind (glg rfl) z4E)) z1V))
   (z0w (z0I (z2C (z1P (z1q (z1d (k:=3) qe (hr.mono (by decide)) z9I (z00 (qx_v (vg 2 z3n)) z02) (glg rfl) zc5))) (z0h (z3P T.x_NoWind (glg rfl) z4E)) z1V))
   (z23 (zb3 (z4l T.rc m_do_newly (by decide) (vg 0 z58) (hr.mono (by decide)) z9I (z1h (z45 (z0z (z00 z0M (z00 (qx_v (vg 1 z3o)) (z00 (z5t z3g lkN (glg rfl) T.n_tuple z2J (z00 (QF.qx (z5w (tg:=(.nm 0)) (ct:=none) rfl (qi_x (qx_v (vg 2 z3n))) rfl (z75.ok (N':=["heading"]) (xn:=["self","name","wind"]) (nt:=1) (js:=[]) (osc:=z01 z0R) rfl rfl (by decide +kernel)) rfl (λC s2 H2 fp=>(z6q (i:=0) (show Nd ["heading"] from by decide) rfl rfl)) trivial (λC s2 H2 fp=>(z0z (z00 (z17 (qx_v (qv 0)) z03 (λ_ _=>rfl)) (z00 (z17 (qx_v (qv 0)) z03 (λ_ _=>rfl)) z02)))))) z02) z2E z2I) z02))))) z3b))))))
theorem z56 (F:Fun K "add_watch" "Log.add_watch" z0Y f fd)(qc:Cl P w K mg base 2 "is_speed_vector" ["vector"] z0E)(m_do_newly:Cam P w K mg base (CXe P w) 2 cLog "do_newly" ["self","deed"] (spR K mg z1p)):Fkr P w K mg base 3 f fd ["self","name","stream"] z1c:=by
 refine fnR F z54 rfl rfl (λcdv A outer s H E hr =>?_);have hu:=hr.units;exact(z0w (zb1 (z5v (hu1 hu) (qx_v (vg 1 z33)) (z5s T.rc T.na_winds (qx_v (vg 0 z2c)))) (z23 (z0I (z3P T.x_NoWind (glg rfl) z4E))) z6p)
   (z0w (zb1 (z2k (z4t hu) lk2 (z3z z43 lkN (glg rfl) T.n_len z6e (z00 (z5s T.rc T.na_row (qx_v (vg 0 z2c))) z02) z69 d_len) (qx_c (z4m (glg rfl) T.g_MOST_WATCHES z6c) λ_=>RD.int') (z1u _)) (z23 (z0I (z3P T.x_NoDeed (glg rfl) z74))) z6p)
   (z0w (z0I (z2C (z1P (z1q (z1d (k:=2) qc (hr.mono (by decide)) z9I (z00 (qx_v (vg 2 z2b)) z02) (glg rfl) z36))) (z0h (z3P T.x_NoDeed (glg rfl) z74)) z1V))
   (z23 (zb3 (z4l T.rc m_do_newly (by decide) (vg 0 z2c) (hr.mono (by decide)) z9I (z1h (z45 (z0z (z00 z0M (z00 (qx_v (vg 1 z33)) (z00 (z0z (z00 (z17 (qx_v (vg 2 z2b)) z03 (λ_ _=>rfl)) (z00 (z17 (qx_v (vg 2 z2b)) z03 (λ_ _=>rfl)) z02))) z02))))) z3b)))))))
theorem z8n (F:Fun K "_law_done" "_law_done" z38 f fd)(qf:ClS P w K mg base 1 "_law_kind" ["error"] z1n)(m_set_wind:Cam P w K mg base (CXe P w) 4 cLog "set_wind" ["self","name","wind"] (spR K mg z1o))(m_add_watch:Cam P w K mg base (CXe P w) 3 cLog "add_watch" ["self","name","stream"] (spR K mg z1c)):Fkr P w K mg base 5 f fd ["log","deed"] z0k:=by
 refine fnR F z27 rfl rfl (λcdv A outer s H E hr =>?_);have hu:=hr.units;exact(z0w (z0I (z0H (ag 2 z27.nd z2n z0M)))
   (z0w (zgr (ys:=["NoDeed","NoWind"]) ⟨rfl,rfl⟩ z27.nd rfl rfl T.x_SailError (glg rfl) z8I (z0X T.x_NoDeed.nm T.m_NoDeed_SailError (z0X T.x_NoWind.nm T.m_NoWind_SailError z3w)) (λpins xe σ E1 pa=>(z8h (zgq (z2k (z4t hu) lk2 (z17 (qx_v (qv 1)) z03 (λ_ _=>rfl)) z0M (z1u _)) (z8h (zb0 (zaY (i:=2) z27.nd rfl z2n.loc (z7p T.rc m_set_wind (by decide) (qv 0) (hr.mono (by decide)) pa (z1h (z45 (z17 (qx_v (qv 1)) z03 (λ_ _=>rfl))) (z1h (z45 (z17 (qx_v (qv 1)) z03 (λ_ _=>rfl))) z3b)))))) (z8h (zb0 (zaY (i:=2) z27.nd rfl z2n.loc (z7p T.rc m_add_watch (by decide) (qv 0) (hr.mono (by decide)) pa (z1h (z45 (z17 (qx_v (qv 1)) z03 (λ_ _=>rfl))) (z1h (z45 (z17 (qx_v (qv 1)) z03 (λ_ _=>rfl))) z3b))))))))) (λea=>(z23 (z0I (zcB (zaQ (i:=2) z27.nd rfl z2n.loc (zgk (k:=1) qf (hr.suite (by decide)) z0j (z00 (qx_v (qv 3)) z02) (by rfl) z8H)))))))
   (z23 (z0I (z0t (qx_v (vg 2 z2n)))))))
theorem z65 (F:Fun K "_law_is_word" "_law_is_word" z1H f fd):Fk P w K mg base 1 f fd ["name"] z0D:=by
 refine fnN F z62 rfl rfl (λcdv A outer s H E hr =>?_);have hu:=hr.units;exact(z0h (z0t (z6o (z6M (z7A hu) (z7A hu) lk2 lk2 z03 (z3z z43 lkN (glg rfl) T.n_len z6e (z00 (qx_v (vg 0 z3L)) z02) z69 d_len) z03) (z8Z (z3z (z9v rfl) lkN (glg rfl) T.n_all zdw (z00 (QF.qx (z5w (tg:=(.nm 0)) (ct:=none) rfl (qi_x (qx_v (vg 0 z3L))) rfl (z75.ok (N':=["sign"]) (xn:=["name"]) (nt:=1) (js:=[]) (osc:=z01 z1H) rfl rfl (by decide +kernel)) rfl (λC s2 H2 fp=>(z6q (i:=0) (show Nd ["sign"] from by decide) rfl rfl)) trivial (λC s2 H2 fp=>(z5u zdY lk2 (qx_v (qv 0)) z0M (by with_unfolding_all rfl))))) z02) zdf zdq)))))
theorem z7z (F:Fun K "names" "Log.names" z2O f fd):Fk P w K mg base 1 f fd ["self"] z1R:=by
 refine fnN F z7g rfl rfl (λcdv A outer s H E hr =>?_);have hu:=hr.units;exact(z0h (z0t (z5t z3g lkN (glg rfl) T.n_tuple z2J (z00 (QF.qx (zgz (zdt rfl) (glg rfl) T.n_sorted z9x (z00 (z5s T.rc T.na_winds (qx_v (vg 0 z70))) z02) z9j z9s)) z02) z2E z2I)))
theorem z66 (F:Fun K "watches" "Log.watches" z2f f fd):Fk P w K mg base 1 f fd ["self"] z1k:=by
 refine fnN F z63 rfl rfl (λcdv A outer s H E hr =>?_);have hu:=hr.units;exact(z0h (z0t (z5t z3g lkN (glg rfl) T.n_tuple z2J (z00 (z5s T.rc T.na_row (qx_v (vg 0 z5N))) z02) z2E z2I)))
theorem z4R (F:Fun K "wind_named" "Log.wind_named" z19 f fd):Fk P w K mg base 1 f fd ["self","name"] z0K:=by
 refine fnE F z4O rfl rfl (λcdv A outer s H E hr =>?_);have hu:=hr.units;exact(z0c (z2C (z5v (hu1 hu) (qx_v (vg 1 z2S)) (z5s T.rc T.na_winds (qx_v (vg 0 z2T)))) (z0h (z3P T.x_NoWind (glg rfl) z4E)) z1V)
   (z0h (z0t (z6O (hu1 hu) (z5s T.rc T.na_winds (qx_v (vg 0 z2T))) (qx_v (vg 1 z2S)) (λ_ _=>rfl)))))
theorem zhk (F:Fun K "law" "law" z2x f fd)(q1:Cl P w K mg base 1 "_law_mix" ["cell","k"] z05)(q0:Cl P w K mg base 5 "_law_same" ["found","due"] z0b)(q8:Cl P w K mg base 2 "_law_vector" ["cell","k","most"] z0n)(q5:Cl P w K mg base 1 "_law_name" ["number"] z0u)(qg:Cl P w K mg base 2 "_law_word" ["cell"] z0Z)(q7:Cl P w K mg base 1 "_law_digits" ["cell","far"] z0o)(qh:Cl P w K mg base 3 "_law_wind_by" ["cell"] z0C)(qi:Clr P w K mg base 5 "_law_done" ["log","deed"] z0k)(qj:Cl P w K mg base 1 "_law_is_word" ["name"] z0D)(m_set_wind:Cam P w K mg base (CXe P w) 4 cLog "set_wind" ["self","name","wind"] (spR K mg z1o))(m_add_watch:Cam P w K mg base (CXe P w) 3 cLog "add_watch" ["self","name","stream"] (spR K mg z1c))(m_names:Cam P w K mg base (CXe P w) 1 cLog "names" ["self"] (spP K mg z1R))(m_watches:Cam P w K mg base (CXe P w) 1 cLog "watches" ["self"] (spP K mg z1k))(m_wind_named:Cam P w K mg base (CXe P w) 1 cLog "wind_named" ["self","name"] (spP K mg z0K))(mk_Log:Cai P w K mg base (CXe P w) 1 cLog ["self"] (zax K mg cLog ["winds","row","places","standing","undone"] [dk [],.lst [],.lst [.tup [.int 0,.int 0,.int 1]],.lst [],.lst []])):Fk P w K mg base 6 f fd ["script"] z5Q:=by
 refine fnO F z2q rfl rfl (λcdv A outer s H E hr =>?_);have hu:=hr.units;exact(z0w (zeJ T.rc mk_Log (hr.mono (by decide)) (glg rfl) zjv z0j (λhe=>ag 1 z2q.nd z4a he) pc_Log)
   (z0w (zb3 (z4l T.rc m_set_wind (by decide) (vg 1 z4a) (hr.mono (by decide)) z0j (z1h (z45 z0M) (z1h (z45 (z0z (z00 (z0z (z00 z03 (z00 z03 z02))) (z00 (z0z (z00 (z9F z6s lk1 z03) (z00 z03 z02))) z02)))) z3b))))
   (z0w (zb3 (z4l T.rc m_add_watch (by decide) (vg 1 z4a) (hr.mono (by decide)) z0j (z1h (z45 z0M) (z1h (z45 (z0z (z00 z03 (z00 z03 z02)))) z3b))))
   (z0w (z0I (z7n (ag 2 z2q.nd z4T (zcI z0M (z0z (z00 (z0z (z00 z03 (z00 z03 z02))) (z00 (z0z (z00 (z9F z6s lk1 z03) (z00 z03 z02))) z02)))))))
   (z0w (z0I (z7n (ag 3 z2q.nd z6Z (z2Q (z00 (z0z (z00 (z0z (z00 (z0z (z00 z03 (z00 z03 z02))) (z00 (z0z (z00 (z9F z6s lk1 z03) (z00 z03 z02))) z02))) (z00 (z0z (z00 z03 (z00 z03 z02))) z02))) z02)))))
   (z0w (zgu ul rfl (qi_x (z07 z1C lk2 (QF.qx (z2Q (z00 z03 z02))) (qx_v (vg 0 zfr)))) (ng 4 z2q.nd z3e) (z0w (z0I (z0H (ag 5 z2q.nd z5L (z1d (k:=2) qg (hr.mono (by decide)) z0j (z00 (qx_v (vg 4 z3e)) z02) (glg rfl) z8G))))
   (z0w (z0I (zgj (js:=[]) (is:=[6,7]) (zdP (z1d (k:=3) qh (hr.mono (by decide)) z0j (z00 (qx_v (vg 4 z3e)) z02) (glg rfl) z6a) (zgy rfl (z91 (ng 6 z2q.nd z8z) (z91 (ng 7 z2q.nd zbF) zeR))))))
   (z0w (z0I (z0H (ag 8 z2q.nd z49 z5r)))
   (z0w (z0I (z2C (QW.pt (z4k (z1P (z1q (qx_v (vg 7 zbF)))) (z3B (z1P (z1q (z1d (k:=1) qj (hr.mono (by decide)) z0j (z00 (qx_v (vg 5 z5L)) z02) (glg rfl) z6b)))))) (z0h (z0H (ag 8 z2q.nd z49 z0M))) (z0h (zeD (hu1 hu) (vg 2 z4T) (qx_v (vg 5 z5L)) (qx_v (vg 6 z8z))))))
   (z0w (zdR (zaU (zbo hu) lk2 (zgv qi (hr.mono (by decide)) z0j (z1h (zdQ (vg 1 z4a)) (z1h (z45 (z0z (z00 z0M (z00 (qx_v (vg 5 z5L)) (z00 (qx_v (vg 6 z8z)) z02))))) z3b)) (glg rfl) z5S) (z45 (qx_v (vg 8 z49))) (z1u _)) (z23 (z0I (z0t z3A))) z6p)
   (z0w (z0I (z0H (ag 9 z2q.nd z6Y (z17 (QF.qx (z2Q (z00 z0M (z00 (qx_v (vg 5 z5L)) (z00 (z1d (k:=1) q5 (hr.mono (by decide)) z0j (z00 (z07 z0T lk2 (z1d (k:=1) q1 (hr.mono (by decide)) z0j (z00 (qx_v (vg 4 z3e)) (z00 z03 z02)) (glg rfl) z0m) z03) z02) (glg rfl) z5R) z02))))) (z07 z0T lk2 (z1d (k:=1) q1 (hr.mono (by decide)) z0j (z00 (qx_v (vg 4 z3e)) (z00 z03 z02)) (glg rfl) z0m) z03) (λ_ _=>rfl)))))
   (z0w (z0I (z0H (ag 10 z2q.nd z3Q (z1d (k:=2) q8 (hr.mono (by decide)) z0j (z00 (qx_v (vg 4 z3e)) (z00 z03 (z00 (z17 (QF.qx (z2Q (z00 z03 (z00 (z07 z4u lk2 z03 z03) (z00 (z07 z1C lk2 (z07 z4u lk2 z03 z03) z03) (z00 (z07 z4u lk2 z03 z03) z02)))))) (z07 z0T lk2 (z1d (k:=1) q1 (hr.mono (by decide)) z0j (z00 (qx_v (vg 4 z3e)) (z00 z03 z02)) (glg rfl) z0m) z03) (λ_ _=>rfl)) z02))) (glg rfl) z4B))))
   (z0w (z0I (z2C (z2k (z4t hu) lk2 (z07 z0T lk2 (z1d (k:=1) q1 (hr.mono (by decide)) z0j (z00 (qx_v (vg 4 z3e)) (z00 z03 z02)) (glg rfl) z0m) z03) z03 (z1u _)) (z0h (z0H (ag 10 z2q.nd z3Q (z1d (k:=1) q7 (hr.mono (by decide)) z0j (z00 (qx_v (vg 4 z3e)) (z00 (z07 z1C lk2 (z07 z4u lk2 z03 z03) z03) z02)) (glg rfl) z4D)))) z1V))
   (z0w (z0I (z0H (ag 8 z2q.nd z49 z5r)))
   (z0w (z0I (z2C (z5v (hu1 hu) (qx_v (vg 9 z6Y)) (qx_v (vg 2 z4T))) (z0h (z0H (ag 8 z2q.nd z49 z0M))) (z0h (z2C (QW.pt (z4k (z2k (z4t hu) lk2 (z3z z43 lkN (glg rfl) T.n_len z6e (z00 (qx_v (vg 3 z6Z)) z02) z69 d_len) z03 (z1u _)) (z3B (z2k (zhm hu) lk2 (z3z (zfv rfl) lkN (glg rfl) T.n_max zjA (z00 (z3z zed lkN (glg rfl) T.n_abs zij (z00 (z17 (qx_v (vg 10 z3Q)) z03 (λ_ _=>rfl)) z02) zhL zic) (z00 (z3z zed lkN (glg rfl) T.n_abs zij (z00 (z17 (qx_v (vg 10 z3Q)) z03 (λ_ _=>rfl)) z02) zhL zic) z02)) zji zju) (z07 z4u lk2 z03 z03) (z1u _))))) (z0h (z0H (ag 8 z2q.nd z49 z0M))) (z0h (zdM (vg 3 z6Z) (z00 (z0z (z00 (z6O (hu1 hu) (qx_v (vg 2 z4T)) (qx_v (vg 9 z6Y)) (λ_ _=>rfl)) (z00 (qx_v (vg 10 z3Q)) z02))) z02)))))))
   (z0w (zdR (zaU (zbo hu) lk2 (zgv qi (hr.mono (by decide)) z0j (z1h (zdQ (vg 1 z4a)) (z1h (z45 (z0z (z00 z0M (z00 (qx_v (vg 9 z6Y)) (z00 (qx_v (vg 10 z3Q)) z02))))) z3b)) (glg rfl) z5S) (z45 (qx_v (vg 8 z49))) (z1u _)) (z23 (z0I (z0t z3A))) z6p)
   (z0w (zb1 (QW.pt (z4k (z1P (z1q (z1d (k:=5) q0 (hr.mono (by decide)) z0j (z00 (z7o T.rc m_names (by decide) (qx_v (vg 1 z4a)) (hr.mono (by decide)) z0j) (z00 (z5t z3g lkN (glg rfl) T.n_tuple z2J (z00 (QF.qx (zgz (zds rfl) (glg rfl) T.n_sorted z9x (z00 (QF.qx (zb4 (zfu rfl) (glg rfl) T.n_list zce (z00 (qx_v (vg 2 z4T)) z02) zbr zc3)) z02) z9j z9s)) z02) z2E z2I) z02)) (glg rfl) z3f))) (z3B (z1P (z1q (z1d (k:=5) q0 (hr.mono (by decide)) z0j (z00 (z7o T.rc m_watches (by decide) (qx_v (vg 1 z4a)) (hr.mono (by decide)) z0j) (z00 (z5t z3g lkN (glg rfl) T.n_tuple z2J (z00 (qx_v (vg 3 z6Z)) z02) z2E z2I) z02)) (glg rfl) z3f)))))) (z23 (z0I (z0t z3A))) z6p)
   (z23 (zgt (j:=2) (z1P (z1q (z3z (z9v rfl) lkN (glg rfl) T.n_all zdw (z00 (QF.qx (z5w (tg:=(.nm 0)) (ct:=none) rfl (zgw (qx_v (vg 2 z4T))) rfl (z75.ok (N':=["one","winds","log"]) (xn:=["script","log","winds","watches","cell","name","wind","good","due","other","stream"]) (nt:=1) (js:=[2,1]) (osc:=z01 z2x) rfl rfl (by decide +kernel)) rfl (λC s2 H2 fp=>(z6q (i:=0) (show Nd ["one","winds","log"] from by decide) rfl rfl)) trivial (λC s2 H2 fp=>(z1d (k:=5) q0 (hr.mono (by decide)) z0j (z00 (zcC T.rc m_wind_named (by decide) (qx_v (qv 2)) (hr.mono (by decide)) z0j (z00 (qx_v (qv 0)) z02)) (z00 (z6O (hu1 hu) (qx_v (qv 1)) (qx_v (qv 0)) (λ_ _=>rfl)) z02)) (by rfl) z3f)))) z02) zdf zdq))) (z23 (z0I (z0t z3A))) z6p)))))))))))))))
   (z23 (z0I (z0t z3A)))))))))
end
def zik {l:PySem.W.OpenLaw}{w:World}{K:W.Frag}{h:Heap}{mg:Str->Option Value}{fa fi cLog f0 f1 f2 f3 f4 f5 f6 f7 f8 f9 f10 f11 f12 f13 f14 f15 f16 f17 f18 f19 f20 f21 f22 f23 f24:Addr}(X:K.In h)(G:h.Ns mainGlobals mg)(hfa:mg "law"=some (.ref fa))
  (aC:PySem.W.nsIn K mainGlobals "Log"=some (some (.ref cLog))) (pg:PySem.W.plainGet K cLog Str.empty=true) (hd:PySem.W.hasDictIn K cLog=true) (po:PySem.W.plainOver K cLog=true) (sa:PySem.W.findIn K (.ref cLog) "__setattr__"=some (some (.builtin "object.__setattr__"))) (mkc:PySem.W.makesIn K cLog=true) (kc:PySem.W.keepIn K (.ref cLog)=true)
  (nn_winds:PySem.W.findIn K (.ref cLog) "winds"=some none)
  (nn_row:PySem.W.findIn K (.ref cLog) "row"=some none)
  (nn_places:PySem.W.findIn K (.ref cLog) "places"=some none)
  (nn_standing:PySem.W.findIn K (.ref cLog) "standing"=some none)
  (nn_undone:PySem.W.findIn K (.ref cLog) "undone"=some none)
  (di:StdM K cLog "__init__" "Log.__init__" z8a fi)
  (d0:Std K "_law_mix" z26 f0)
  (d1:Std K "_law_same" z25 f1)
  (d2:Std K "_law_vector" z1f f2)
  (d3:Std K "_law_name" z1N f3)
  (d4:Std K "_law_any_name" z0F f4)
  (d5:Std K "_law_word" z2w f5)
  (d6:Std K "_law_digits" z1z f6)
  (d7:Std K "_law_odd_heading" z0s f7)
  (d8:Std K "_law_wind_by_digits" z0g f8)
  (d9:Std K "_law_wind_by" z0q f9)
  (d10:Std K "_law_kind" z37 f10)
  (d11:Std K "is_word" z30 f11)
  (d12:Std K "is_speed" z39 f12)
  (d13:Std K "is_speed_vector" z1t f13)
  (d14:Std K "is_wind" z31 f14)
  (d15:StdM K cLog "carry_out" "Log.carry_out" z1m f15)
  (d16:StdM K cLog "do_newly" "Log.do_newly" z1w f16)
  (d17:StdM K cLog "set_wind" "Log.set_wind" z0R f17)
  (d18:StdM K cLog "add_watch" "Log.add_watch" z0Y f18)
  (d19:Std K "_law_done" z38 f19)
  (d20:Std K "_law_is_word" z1H f20)
  (d21:StdM K cLog "names" "Log.names" z2O f21)
  (d22:StdM K cLog "watches" "Log.watches" z2f f22)
  (d23:StdM K cLog "wind_named" "Log.wind_named" z19 f23)
  (d24:Std K "law" z2x f24)
  (z_ValueError:PySem.W.nsIn K mainGlobals "ValueError"=some none)
  (z_abs:PySem.W.nsIn K mainGlobals "abs"=some none)
  (z_all:PySem.W.nsIn K mainGlobals "all"=some none)
  (z_bool:PySem.W.nsIn K mainGlobals "bool"=some none)
  (z_int:PySem.W.nsIn K mainGlobals "int"=some none)
  (z_isinstance:PySem.W.nsIn K mainGlobals "isinstance"=some none)
  (z_len:PySem.W.nsIn K mainGlobals "len"=some none)
  (z_list:PySem.W.nsIn K mainGlobals "list"=some none)
  (z_max:PySem.W.nsIn K mainGlobals "max"=some none)
  (z_range:PySem.W.nsIn K mainGlobals "range"=some none)
  (z_sorted:PySem.W.nsIn K mainGlobals "sorted"=some none)
  (z_str:PySem.W.nsIn K mainGlobals "str"=some none)
  (z_tuple:PySem.W.nsIn K mainGlobals "tuple"=some none)
  {tk_LETTERS:Tok}(y_LETTERS:PySem.W.nsIn K mainGlobals "LETTERS"=some (some (.str "abcdefghijklmnopqrstuvwxyz" tk_LETTERS)))
  {tk_MOST_HEADINGS:Tok}(y_MOST_HEADINGS:PySem.W.nsIn K mainGlobals "MOST_HEADINGS"=some (some (.int 12 tk_MOST_HEADINGS)))
  {tk_MOST_LETTERS:Tok}(y_MOST_LETTERS:PySem.W.nsIn K mainGlobals "MOST_LETTERS"=some (some (.int 12 tk_MOST_LETTERS)))
  {tk_MOST_SPEED:Tok}(y_MOST_SPEED:PySem.W.nsIn K mainGlobals "MOST_SPEED"=some (some (.int 1000000000 tk_MOST_SPEED)))
  {tk_MOST_WATCHES:Tok}(y_MOST_WATCHES:PySem.W.nsIn K mainGlobals "MOST_WATCHES"=some (some (.int 12 tk_MOST_WATCHES)))
  {cSailError:Addr}(aa_SailError:PySem.W.nsIn K mainGlobals "SailError"=some (some (.ref cSailError))) (xx_SailError:PySem.W.excIn K cSailError [.type "ValueError",.type "Exception",.type "BaseException",.type "object"] "ValueError.__new__"=true)
  {cNoFraction:Addr}(aa_NoFraction:PySem.W.nsIn K mainGlobals "NoFraction"=some (some (.ref cNoFraction))) (xx_NoFraction:PySem.W.excIn K cNoFraction [.type "ValueError",.type "Exception",.type "BaseException",.type "object"] "ValueError.__new__"=true)
  {cNoText:Addr}(aa_NoText:PySem.W.nsIn K mainGlobals "NoText"=some (some (.ref cNoText))) (xx_NoText:PySem.W.excIn K cNoText [.type "ValueError",.type "Exception",.type "BaseException",.type "object"] "ValueError.__new__"=true)
  {cNoShares:Addr}(aa_NoShares:PySem.W.nsIn K mainGlobals "NoShares"=some (some (.ref cNoShares))) (xx_NoShares:PySem.W.excIn K cNoShares [.type "ValueError",.type "Exception",.type "BaseException",.type "object"] "ValueError.__new__"=true)
  {cNoCourse:Addr}(aa_NoCourse:PySem.W.nsIn K mainGlobals "NoCourse"=some (some (.ref cNoCourse))) (xx_NoCourse:PySem.W.excIn K cNoCourse [.type "ValueError",.type "Exception",.type "BaseException",.type "object"] "ValueError.__new__"=true)
  {cNoWind:Addr}(aa_NoWind:PySem.W.nsIn K mainGlobals "NoWind"=some (some (.ref cNoWind))) (xx_NoWind:PySem.W.excIn K cNoWind [.type "ValueError",.type "Exception",.type "BaseException",.type "object"] "ValueError.__new__"=true)
  {cNoDeed:Addr}(aa_NoDeed:PySem.W.nsIn K mainGlobals "NoDeed"=some (some (.ref cNoDeed))) (xx_NoDeed:PySem.W.excIn K cNoDeed [.type "ValueError",.type "Exception",.type "BaseException",.type "object"] "ValueError.__new__"=true)
  (ff_l_NoDeed:z22 K cNoDeed=true)
  (ff_l_NoWind:z22 K cNoWind=true)
  (ff_i_NoDeed_NoWind:PySem.W.kitOne K (.ref cNoDeed) (.ref cNoWind)=some false)
  (ff_i_NoWind_NoWind:PySem.W.kitOne K (.ref cNoWind) (.ref cNoWind)=some true)
  (ff_i_NoDeed_NoDeed:PySem.W.kitOne K (.ref cNoDeed) (.ref cNoDeed)=some true)
  (ff_i_NoWind_NoDeed:PySem.W.kitOne K (.ref cNoWind) (.ref cNoDeed)=some false)
  (ff_i_NoDeed_NoShares:PySem.W.kitOne K (.ref cNoDeed) (.ref cNoShares)=some false)
  (ff_i_NoWind_NoShares:PySem.W.kitOne K (.ref cNoWind) (.ref cNoShares)=some false)
  (ff_i_NoDeed_ValueError:PySem.W.kitOne K (.ref cNoDeed) (.type "ValueError")=some true)
  (ff_i_NoWind_ValueError:PySem.W.kitOne K (.ref cNoWind) (.type "ValueError")=some true)
  (ff_i_NoDeed_t_NoCourse_NoFraction_NoText:PySem.W.kitAny K (.ref cNoDeed) [.ref cNoCourse,.ref cNoFraction,.ref cNoText]=some false)
  (ff_i_NoWind_t_NoCourse_NoFraction_NoText:PySem.W.kitAny K (.ref cNoWind) [.ref cNoCourse,.ref cNoFraction,.ref cNoText]=some false)
  (ff_m_NoDeed_SailError:PySem.W.exmOne K (.ref cNoDeed) (.ref cSailError)=some true)
  (ff_m_NoWind_SailError:PySem.W.exmOne K (.ref cNoWind) (.ref cSailError)=some true)
  : ∃fd:FuncData,(∀(s:Shared) (v:Value),BindsTo s fd ⟨[v],[]⟩ [("script",v)])/\∀base:Heap,K.In base->base.Ns mainGlobals mg->FnOk l.prog w K mg base (CXe l.prog w) 6 fa fd ["script"] (spL K):=by
 have T:Txt K mg cSailError cNoFraction cNoText cNoShares cNoCourse cNoWind cNoDeed cLog:=⟨trivial,wS X G z_ValueError,wS X G z_abs,wS X G z_all,wS X G z_bool,wS X G z_int,wS X G z_isinstance,wS X G z_len,wS X G z_list,wS X G z_max,wS X G z_range,wS X G z_sorted,wS X G z_str,wS X G z_tuple,⟨_,w9 X G y_LETTERS⟩,⟨_,w9 X G y_MOST_HEADINGS⟩,⟨_,w9 X G y_MOST_LETTERS⟩,⟨_,w9 X G y_MOST_SPEED⟩,⟨_,w9 X G y_MOST_WATCHES⟩,⟨w9 X G aa_SailError,_,_,_,w5,xx_SailError⟩,⟨w9 X G aa_NoFraction,_,_,_,w5,xx_NoFraction⟩,⟨w9 X G aa_NoText,_,_,_,w5,xx_NoText⟩,⟨w9 X G aa_NoShares,_,_,_,w5,xx_NoShares⟩,⟨w9 X G aa_NoCourse,_,_,_,w5,xx_NoCourse⟩,⟨w9 X G aa_NoWind,_,_,_,w5,xx_NoWind⟩,⟨w9 X G aa_NoDeed,_,_,_,w5,xx_NoDeed⟩,ff_l_NoDeed,ff_l_NoWind,ff_i_NoDeed_NoWind,ff_i_NoWind_NoWind,ff_i_NoDeed_NoDeed,ff_i_NoWind_NoDeed,ff_i_NoDeed_NoShares,ff_i_NoWind_NoShares,ff_i_NoDeed_ValueError,ff_i_NoWind_ValueError,ff_i_NoDeed_t_NoCourse_NoFraction_NoText,ff_i_NoWind_t_NoCourse_NoFraction_NoText,ff_m_NoDeed_SailError,ff_m_NoWind_SailError,⟨⟨pg,hd,po,sa⟩,w9 X G aC⟩,nn_winds,nn_row,nn_places,nn_standing,nn_undone⟩
 refine zfF X G d24 hfa (λ_ _ _ _ _ _ s v =>.of_eq rfl) λbase kb nb fd F =>?_;have MK:Cai l.prog w K mg base (CXe l.prog w) 1 cLog ["self"] _:=zig di mkc kc (by walk_at "c1") λ_ F=>zfg T F;have qk:Cl l.prog w K mg base _ _ _ _:=z1I X G d0 (by walk_at "c2") λ_ F=>z9K T F;have ql:Cl l.prog w K mg base 0 "_law_same" ["found","due"] (z0d 0):=z1I X G d1 (by walk_at "c2") λ_ _=>zi4;have ql:Cl l.prog w K mg base 1 "_law_same" ["found","due"] (z0d 1):=z1I X G d1 (by walk_at "c2") λ_ F=>z2D T F  ql (by decide);have ql:Cl l.prog w K mg base 2 "_law_same" ["found","due"] (z0d 2):=z1I X G d1 (by walk_at "c2") λ_ F=>z2D T F  ql (by decide);have ql:Cl l.prog w K mg base 3 "_law_same" ["found","due"] (z0d 3):=z1I X G d1 (by walk_at "c2") λ_ F=>z2D T F  ql (by decide);have ql:Cl l.prog w K mg base 4 "_law_same" ["found","due"] (z0d 4):=z1I X G d1 (by walk_at "c2") λ_ F=>z2D T F  ql (by decide);have ql:Cl l.prog w K mg base 5 "_law_same" ["found","due"] (z0d 5):=z1I X G d1 (by walk_at "c2") λ_ F=>z2D T F  ql (by decide);have qm:Cl l.prog w K mg base _ _ _ _:=z1I X G d2 (by walk_at "c3") λ_ F=>z6Q T F qk;have qn:Cl l.prog w K mg base _ _ _ _:=z1I X G d3 (by walk_at "c1") λ_ F=>z8l T F;have qo:Cl l.prog w K mg base _ _ _ _:=z1I X G d4 (by walk_at "c1") λ_ F=>z5A T F;have qp:Cl l.prog w K mg base _ _ _ _:=z1I X G d5 (by walk_at "c1") λ_ F=>z8k T F qk qn qo;have qq:Cl l.prog w K mg base _ _ _ _:=z1I X G d6 (by walk_at "c2") λ_ F=>z6R T F;have qr:Cl l.prog w K mg base _ _ _ _:=z1I X G d7 (by walk_at "c2") λ_ F=>z4r T F qk;have qs:Cl l.prog w K mg base _ _ _ _:=z1I X G d8 (by walk_at "c2") λ_ F=>z3E T F qq;have qt:Cl l.prog w K mg base _ _ _ _:=z1I X G d9 (by walk_at "c1") λ_ F=>z64 T F qk qm qr qs;have qu:ClS l.prog w K mg base _ _ _ _:=zfx X G d10 (by walk_at "c1") λ_ F=>z8m T F;have qw:Cl l.prog w K mg base _ _ _ _:=z1I X G d11 (by walk_at "c1") λ_ F=>z9L T F;have qy:Cl l.prog w K mg base _ _ _ _:=z1I X G d12 (by walk_at "c1") λ_ F=>z8o T F;have qz:Cl l.prog w K mg base _ _ _ _:=z1I X G d13 (by walk_at "c1") λ_ F=>z4s T F qy;have qA:Cl l.prog w K mg base _ _ _ _:=z1I X G d14 (by walk_at "c1") λ_ F=>z9M T F qz;have M_carry_out:Cam l.prog w K mg base (CXe l.prog w) _ cLog _ _ _:=z5W d15 (by walk_at "c2") λ_ F=>z55 T F;have M_do_newly:Cam l.prog w K mg base (CXe l.prog w) _ cLog _ _ _:=z5W d16 (by walk_at "c2") λ_ F=>z5C T F M_carry_out;have M_set_wind:Cam l.prog w K mg base (CXe l.prog w) _ cLog _ _ _:=z5W d17 (by walk_at "c3") λ_ F=>z5B T F qw qA M_do_newly;have M_add_watch:Cam l.prog w K mg base (CXe l.prog w) _ cLog _ _ _:=z5W d18 (by walk_at "c3") λ_ F=>z56 T F qz M_do_newly;have qB:Clr l.prog w K mg base _ _ _ _:=z1I X G d19 (by walk_at "c2") λ_ F=>z8n T F qu M_set_wind M_add_watch;have qC:Cl l.prog w K mg base _ _ _ _:=z1I X G d20 (by walk_at "c1") λ_ F=>z65 T F;have M_names:Cam l.prog w K mg base (CXe l.prog w) _ cLog _ _ _:=z5W d21 (by walk_at "c1") λ_ F=>z7z T F;have M_watches:Cam l.prog w K mg base (CXe l.prog w) _ cLog _ _ _:=z5W d22 (by walk_at "c1") λ_ F=>z66 T F;have M_wind_named:Cam l.prog w K mg base (CXe l.prog w) _ cLog _ _ _:=z5W d23 (by walk_at "c2") λ_ F=>z4R T F;exact zhM zfn (zhk T F qk ql qm qn qp qq qt qB qC M_set_wind M_add_watch M_names M_watches M_wind_named MK)
def walk {l:PySem.W.OpenLaw}{q:Program}{loose:List Str}{XP:(Str->Option Value)->Heap->Prop}{YP:World->Heap->Prop}{d:DefRec}{K:Params->W.Frag}(hn:l.most=some 63)(hdf:d.params.defaults=[])
  (hY:∀(w:World) (h:Heap),YP w h->(K w.params).In h) (hT:∀(w:World) (h:Heap),YP w h->∀P t,(tsOf (K w.params)).lookup P=some t->h.get? P=some { cls :=.none,data :=.fields #[] })
  (F:∀(w:World) (mg:Str->Option Value) (fa:Addr) (h:Heap),(K w.params).In h->h.Ns mainGlobals mg->mg d.name=some (.ref fa)->
   ∃fd:FuncData,(∀(s:Shared) (u:Value),BindsTo s fd ⟨[u],[]⟩ [("script",u)])/\∀base:Heap,(K w.params).In base->base.Ns mainGlobals mg->FnOk l.prog w (K w.params) mg base (CXe l.prog w) 6 fa fd ["script"] (spL (K w.params))):
  PySem.W.WalkO q loose XP YP l.row.toRowW d [] (λf vs=>PySem.call f vs):=
 L2.zef (n:=63) (k:=6) (x:="script") (CX:=λw=>(CXe l.prog w)) (sp:=λw=>spL (K w.params)) hn (by decide) hdf ⟨rfl,by decide,by decide⟩ hY hT F (λ_ _ a ns hl hS=>⟨a,ns,rfl,hS,hl,λ_=>rfl⟩) λ_ _ _ _ _ ⟨_,_,_,_,_,_,_,_,_,z⟩=>z
end My
open PySem PySem.W PyProof.Rows
local macro_rules | `(tactic| walk_at "ks") => `(tactic| (refine' Pu.Std.mk ?a ?l ?c ?k; (case a=>k_is); (case l=>k_is); (case c=>k_is); (case k=>k_is)))
local macro_rules | `(tactic| walk_at "km") => `(tactic| (refine' Pu.StdM.mk ?a ?i ?l ?c ?k; (case a=>k_is); (case i=>k_is); (case l=>k_is); (case c=>k_is); (case k=>k_is)))
set_option maxRecDepth 100000 in
set_option maxHeartbeats 0 in
theorem PySem.Challenge.cw_closehaul_k54_winds_and_watches_refused_holds : PySem.Challenge.rw_closehaul_k54_winds_and_watches_refused.Holds := by
 w_on; o_law; k_head; (case hw=>w_witness2)
 k_fill
 refine My.walk (l:=PySem.Challenge.rw_closehaul_k54_winds_and_watches_refused) rfl rfl (λw h Y=>PySem.W.kIn_of Y) (λw h Y=>λP t e=>by rw[show L2.tsOf _=[] from by kernel_rfl] at e; cases e) ?F
 case F=>
  intro w mg fa h KX G hmg;refine' My.zik KX G hmg ?aC ?pg ?hd ?po ?sa ?mkc ?kc ?nn_winds ?nn_row ?nn_places ?nn_standing ?nn_undone ?di ?d0 ?d1 ?d2 ?d3 ?d4 ?d5 ?d6 ?d7 ?d8 ?d9 ?d10 ?d11 ?d12 ?d13 ?d14 ?d15 ?d16 ?d17 ?d18 ?d19 ?d20 ?d21 ?d22 ?d23 ?d24 ?z_ValueError ?z_abs ?z_all ?z_bool ?z_int ?z_isinstance ?z_len ?z_list ?z_max ?z_range ?z_sorted ?z_str ?z_tuple ?y_LETTERS ?y_MOST_HEADINGS ?y_MOST_LETTERS ?y_MOST_SPEED ?y_MOST_WATCHES ?aa_SailError ?xx_SailError ?aa_NoFraction ?xx_NoFraction ?aa_NoText ?xx_NoText ?aa_NoShares ?xx_NoShares ?aa_NoCourse ?xx_NoCourse ?aa_NoWind ?xx_NoWind ?aa_NoDeed ?xx_NoDeed ?ff_l_NoDeed ?ff_l_NoWind ?ff_i_NoDeed_NoWind ?ff_i_NoWind_NoWind ?ff_i_NoDeed_NoDeed ?ff_i_NoWind_NoDeed ?ff_i_NoDeed_NoShares ?ff_i_NoWind_NoShares ?ff_i_NoDeed_ValueError ?ff_i_NoWind_ValueError ?ff_i_NoDeed_t_NoCourse_NoFraction_NoText ?ff_i_NoWind_t_NoCourse_NoFraction_NoText ?ff_m_NoDeed_SailError ?ff_m_NoWind_SailError
  (case aC=>k_is)
  (case pg=>k_is)
  (case hd=>k_is)
  (case po=>k_is)
  (case sa=>k_is)
  (case mkc=>k_is)
  (case kc=>k_is)
  (case nn_winds=>k_is)
  (case nn_row=>k_is)
  (case nn_places=>k_is)
  (case nn_standing=>k_is)
  (case nn_undone=>k_is)
  (case di=>walk_at "km")
  (case d0=>walk_at "ks")
  (case d1=>walk_at "ks")
  (case d2=>walk_at "ks")
  (case d3=>walk_at "ks")
  (case d4=>walk_at "ks")
  (case d5=>walk_at "ks")
  (case d6=>walk_at "ks")
  (case d7=>walk_at "ks")
  (case d8=>walk_at "ks")
  (case d9=>walk_at "ks")
  (case d10=>walk_at "ks")
  (case d11=>walk_at "ks")
  (case d12=>walk_at "ks")
  (case d13=>walk_at "ks")
  (case d14=>walk_at "ks")
  (case d15=>walk_at "km")
  (case d16=>walk_at "km")
  (case d17=>walk_at "km")
  (case d18=>walk_at "km")
  (case d19=>walk_at "ks")
  (case d20=>walk_at "ks")
  (case d21=>walk_at "km")
  (case d22=>walk_at "km")
  (case d23=>walk_at "km")
  (case d24=>walk_at "ks")
  (case z_ValueError=>k_is)
  (case z_abs=>k_is)
  (case z_all=>k_is)
  (case z_bool=>k_is)
  (case z_int=>k_is)
  (case z_isinstance=>k_is)
  (case z_len=>k_is)
  (case z_list=>k_is)
  (case z_max=>k_is)
  (case z_range=>k_is)
  (case z_sorted=>k_is)
  (case z_str=>k_is)
  (case z_tuple=>k_is)
  (case y_LETTERS=>k_is)
  (case y_MOST_HEADINGS=>k_is)
  (case y_MOST_LETTERS=>k_is)
  (case y_MOST_SPEED=>k_is)
  (case y_MOST_WATCHES=>k_is)
  (case aa_SailError=>k_is)
  (case xx_SailError=>k_exc)
  (case aa_NoFraction=>k_is)
  (case xx_NoFraction=>k_exc)
  (case aa_NoText=>k_is)
  (case xx_NoText=>k_exc)
  (case aa_NoShares=>k_is)
  (case xx_NoShares=>k_exc)
  (case aa_NoCourse=>k_is)
  (case xx_NoCourse=>k_exc)
  (case aa_NoWind=>k_is)
  (case xx_NoWind=>k_exc)
  (case aa_NoDeed=>k_is)
  (case xx_NoDeed=>k_exc)
  (case ff_l_NoDeed=>kernel_rfl)
  (case ff_l_NoWind=>kernel_rfl)
  (case ff_i_NoDeed_NoWind=>kernel_rfl)
  (case ff_i_NoWind_NoWind=>kernel_rfl)
  (case ff_i_NoDeed_NoDeed=>kernel_rfl)
  (case ff_i_NoWind_NoDeed=>kernel_rfl)
  (case ff_i_NoDeed_NoShares=>kernel_rfl)
  (case ff_i_NoWind_NoShares=>kernel_rfl)
  (case ff_i_NoDeed_ValueError=>kernel_rfl)
  (case ff_i_NoWind_ValueError=>kernel_rfl)
  (case ff_i_NoDeed_t_NoCourse_NoFraction_NoText=>kernel_rfl)
  (case ff_i_NoWind_t_NoCourse_NoFraction_NoText=>kernel_rfl)
  (case ff_m_NoDeed_SailError=>kernel_rfl)
  (case ff_m_NoWind_SailError=>kernel_rfl)
