import PyProof.Rows.All
import Wide.All
import OpenK.AllK
import Wide.FinOn
import Lean
import PyProof.EqAt
import PyProof.EqKinds
import PyProof.TupleCall
import PyProof.Rows.SortRuns
import KE.KRevIter
import PyProof.SetRoads
import PyProof.ListNew
import PyProof.Rows.ListMulPlace
import PyProof.ZipIter
import PyProof.Rows.ZipGen
import PyProof.Rows.SumGenD
import PySem.Challenge.RW_closehaul_k53_deeds_of_a_log
set_option compiler.extract_closed false
namespace PySem.W.Fast
def tw18188508694851228509:=0
def tw17551573998597957681:=0
def tw3881691140334811302:=0
def tw2955829433305543401:=0
def tw5806075074880448613:=0
def tw1447053049888147020:=0
def tw9248098747140566517:=0
def tw9778863051490462589:=0
def tw4889272174296174015:=0
def tw3789367109312623611:=0
def tw10027752527059060416:=0
def tw13736047799159323747:=0
def tw3546514709905047991:=0
def tw6910134610976147982:=0
def tw6593070288829209019:=0
def tw6712269948445394001:=0
def tw1691014197537785905:=0
def tw13032335381664195404:=0
def tw14901595920450385542:=0
def tw1802155724617483740:=0
def tw1803406020521376863:=0
def tw12870806980659009038:=0
def tw7330367062399841893:=0
def tw7754328246125747137:=0
def tw11561025984101576683:=0
def tw17618808846568179410:=0
def tw4925754048746196444:=0
def tw2292487631517634395:=0
def tw2989317039405581974:=0
def tw14752682836963192496:=0
def tw2645910240427461059:=0
def tw212484331923967407:=0
def tw11052603825245671789:=0
def tw627867987154426763:=0
def tw10149082260685909437:=0
def tw11330568029064722965:=0
def tw10291384803010730746:=0
def tw9668999605167702429:=0
def tw16759592188028836193:=0
def tw5186233682926153707:=0
def tw5683468438691966780:=0
def tw1215022294883107524:=0
def tw17468274230462683407:=0
def tw18378215953177330174:=0
def tw16534840947719504995:=0
def tw11408214217472301378:=0
def tw11027971145160633645:=0
def tw16646039390271844528:=0
def tw15209194624067181636:=0
def tw98709382471352008:=0
def tw6388882720082850561:=0
def tw7206393787389790096:=0
def tw13688204924912161743:=0
def tw5775520433342155778:=0
def tw15331628570779023427:=0
def tw11523036529881262396:=0
def tw1568249112610544246:=0
def tw14631868548416235857:=0
def tw13983241964544400617:=0
def tw10066452133779867535:=0
def tw243082246410712785:=0
def tw17403581765546798957:=0
def tw15872053087981293616:=0
def tw9633609189615765850:=0
def tw6186056926031271832:=0
def tw7863731567599263666:=0
def tw13194875785038475528:=0
def tw14153197981509247125:=0
def tw18287355119299592151:=0
def tw13945656973467339051:=0
def tw5816774616943011643:=0
def tw51872117243215399:=0
def tw12060932559653645960:=0
def tw5239156366990816795:=0
def tw4137373889901831291:=0
def tw16423125717600500395:=0
def tw11476487732484085384:=0
def tw4901054720307445849:=0
def tw9872773615875527799:=0
def tw14962757382149480239:=0
def tw10613341268857969110:=0
def tw2238756375085160496:=0
def tw12778445724909998393:=0
def tw12186922176168420923:=0
def tw17460368827625477995:=0
def tw15539995674069632190:=0
def tw8304338289898406573:=0
def tw7061119374618161359:=0
def tw13195961258720370056:=0
def tw3676390525439975979:=0
def tw9563900202707934844:=0
def tw4073721483214513294:=0
def tw12648713372856822754:=0
def tw9701726813083576159:=0
def tw4668700964045445158:=0
def tw18352948824719320468:=0
def tw17548528892214739884:=0
def tw12957717703005934006:=0
def tw13627555631031175071:=0
def tw8847853327705575777:=0
def tw1768232538322588049:=0
def tw14940602895130525437:=0
def tw5356267575216114162:=0
def tw15678964032520437689:=0
def tw2824055065317388189:=0
def tw10643590623338947005:=0
def tw13256679117160215354:=0
def tw8722498496453956710:=0
def tw5367441366142212942:=0
def tw9805101435858836636:=0
def tw3821257398006766323:=0
def tw11628816673171603373:=0
def tw1507257519251150236:=0
def tw16614109551377132078:=0
def tw16290467947086584074:=0
def tw7482789203551452055:=0
def tw2721106710060831378:=0
def tw8558844892025597101:=0
def tw4983131504659951775:=0
def tw89811702988034201:=0
def tw5104823011912098868:=0
def tw13849510230633823547:=0
def tw4947569619571405940:=0
def tw15108326266138042577:=0
def tw14317256110561857692:=0
def tw13704857858245765733:=0
def tw877809311875329171:=0
def tw17422785226664829026:=0
def tw16179277573499679279:=0
def tw4497717653586509373:=0
def tw11155219677055205608:=0
def tw15560666655812397621:=0
def tw13354980787810116486:=0
def tw3102404785074835467:=0
def tw15500844035753206796:=0
def tw7930372190796237807:=0
def tw7214672026955822248:=0
def tw4694580120079148913:=0
def tw1096502693811947772:=0
def tw17830939668829096846:=0
def tw11011521810679087563:=0
def tw2828333894979829730:=0
def tw8517165057074908662:=0
def tw7845648531330158743:=0
def tw6154126040679223104:=0
def tw1759083926688296639:=0
def tw11186859663324321777:=0
def tw11615361309727342999:=0
def tw10206222673017523822:=0
def tw17418432481940233582:=0
def tw823951291997982218:=0
def tw12778612188370807067:=0
def tw3798380328100276597:=0
def tw15016957616425650801:=0
def tw12728348920244606170:=0
def tw2160893768062774955:=0
def tw6455289999157249519:=0
def tw4851172703345081630:=0
def tw14637883569640380656:=0
def tw13977163015400752608:=0
def tw8851063333500287498:=0
def tw15149120734118654270:=0
def tw4461667475901658413:=0
def tw121764755941270420:=0
def tw6241427059563750462:=0
def tw14676385704859716501:=0
def tw2780771060107579455:=0
def tw1664312952923962216:=0
def tw16975713710685504960:=0
def tw10125000063423489142:=0
def tw2936082397059843954:=0
def tw12479280971544024904:=0
def tw9439627095374096336:=0
def tw14845966539735222252:=0
def tw3827175828441383576:=0
def tw1175401756694237618:=0
def tw930960256718698229:=0
def tw11776869282629793276:=0
def tw1160300302551761665:=0
def tw2163949850562207292:=0
def tw16624596911157905996:=0
def tw13798985467970525349:=0
def tw2654502285413828045:=0
def tw11495438137423465389:=0
def tw14265908685482863676:=0
def tw9575106115951486152:=0
def tw11100015549180302342:=0
def tw12963515336913231158:=0
def tw12556065796298978147:=0
def tw9182070479123121618:=0
def tw7379041844463479428:=0
def tw3522550015120845706:=0
def tw16849774091529629833:=0
def tw10663109766643738164:=0
def tw14283774926768410272:=0
def tw3373763288037551017:=0
def tw2510941445996861573:=0
def tw13043339678757134687:=0
def tw2771740380196414921:=0
def tw364169710214492279:=0
def tw1700626730281046554:=0
def tw2462658979373443292:=0
def tw8993604836647682013:=0
def tw308762086505175123:=0
def tw6107462861413254899:=0
def tw9749430073581905277:=0
def tw5400812080377360438:=0
def tw11635123695415065085:=0
def tw13323180698942328279:=0
def tw4365532113203309963:=0
def tw16057539901120314763:=0
def tw8621857059654963972:=0
def tw5885656446769218684:=0
def tw9298363637725776646:=0
def tw3652442275102693314:=0
def tw16052447893235591338:=0
def tw8316578678134939599:=0
def tw690360420177244609:=0
def tw2774138211210931851:=0
def tw15779906772556263530:=0
def tw12553433510406865180:=0
def tw12538935675091085954:=0
def tw8573774885621253971:=0
def tw17480384316886339383:=0
def tw5554198272913228557:=0
def tw2768641884568085069:=0
def tw12260140638191671271:=0
def tw955975006087201475:=0
def tw17173608754007691110:=0
def tw9449498835641553792:=0
def tw1718141432281853701:=0
def tw10829858078490234192:=0
def tw4277747025291470992:=0
def tw9983378307017590504:=0
def tw14322121823165360578:=0
def tw5165693703518788375:=0
def tw15420279484075442021:=0
def tw2492806259466732961:=0
def tw15614680097535991523:=0
def tw9823621853195599772:=0
def tw3418193680153822931:=0
def tw13007829339493989871:=0
def tw9737340192861738597:=0
def tw13499255180741305284:=0
def tw4646471665664687942:=0
def tw14996110234387170001:=0
def tw11795632786213456552:=0
def tw15160119825726000396:=0
def tw8912069045459100969:=0
def tw4593042318557583799:=0
def tw11911727812727472381:=0
def tw11043602132163336578:=0
def tw17088325620105162012:=0
def tw4518793512136073108:=0
def tw3872831644141768915:=0
def tw18148974864963729963:=0
def tw11233636272481578738:=0
def tw10500756081557456280:=0
def tw16705189608239812588:=0
def tw7056494242903349396:=0
def tw1707631990220013770:=0
def tw4356089870588778197:=0
def tw7732328635632652967:=0
def tw2281261840603196081:=0
def tw2107450391925038845:=0
def tw17408946679907346803:=0
def tw9163972915416303651:=0
def tw4737425477460128547:=0
def tw2249103540211364710:=0
def tw18332679175245885866:=0
def tw1818495917214790018:=0
def tw9321759722556309779:=0
def tw5625516169718505443:=0
def tw15739178299888506162:=0
def tw13098935945225157256:=0
def tw9740905938498485962:=0
def tw16434071361786245777:=0
def tw9523838153333645839:=0
def tw14819663624500952755:=0
def tw12500380060660634693:=0
def tw13709501628637882385:=0
def tw9210265616339049118:=0
def tw16471740239400163658:=0
def tw11156988509993526290:=0
def tw4955924544761851215:=0
def tw9471149359314071226:=0
def tw13995662310971632686:=0
def tw12010811419692289050:=0
def tw5107219699085126318:=0
def tw11845506540364857198:=0
def tw17611463694858647118:=0
def tw3628275965016286744:=0
def tw2729212863538507956:=0
def tw548709645830054980:=0
def tw17475317793223195650:=0
def tw9937324042420367612:=0
def tw5371068179109890638:=0
def tw10769006666390072161:=0
def tw13685876077693798368:=0
def tw11684660804863380075:=0
def tw8908240995472522100:=0
def tw7614331074700484947:=0
def tw15304412368427803891:=0
def tw17244069702259058881:=0
def tw799415457445677073:=0
def tw4563068578408136445:=0
def tw14507672657622933249:=0
def tw6381288599676289609:=0
def tw2683490602714100681:=0
def tw9773360337698690876:=0
def tw640508015870488107:=0
def tw6381983604834963272:=0
def tw1533378798384182277:=0
def tw7853381278312204977:=0
def tw7567337427091980899:=0
def tw314812890677361836:=0
def tw8168028651945588858:=0
def tw11152257642080003312:=0
def tw9094150075338323876:=0
def tw7758200616598179917:=0
def tw16448683198145186637:=0
def tw306259892934629401:=0
def tw17786757204402608769:=0
def tw5540484566903487165:=0
def tw3504589133028658447:=0
def tw8852217562016861049:=0
def tw10495629846151825735:=0
def tw15127198320140235283:=0
def tw9804700195547153605:=0
def tw9404964966677537191:=0
def tw8409542348862488852:=0
def tw5669397767817835714:=0
def tw15465845493825730434:=0
def tw15053799291428190137:=0
def tw11264187376166664693:=0
def tw9940407020371640967:=0
def tw4902591173663605659:=0
def tw13235216517198011656:=0
def tw3012763601750750028:=0
def tw13531593559576057567:=0
def tw4060260693765211687:=0
def tw17590347631682116837:=0
def tw1344984181880793812:=0
def tw6949370672560790065:=0
def tw1894966623366305809:=0
def tw4426653049592124572:=0
def tw2420700167748828429:=0
def tw12868563947849266330:=0
def tw12699268384309198148:=0
def tw1576420912919249528:=0
def tw12282406568755742257:=0
def tw393941850650883195:=0
def tw16935043450637902569:=0
def tw16614838428780158243:=0
def tw14009524052332083304:=0
def tw7937956105779920552:=0
def tw7840519518487564121:=0
def tw7377559636039394548:=0
def tw472658417937348014:=0
def tw16769355958852638042:=0
def tw16252063812934616085:=0
def tw15406835927054745863:=0
def tw14935011872219871443:=0
def tw13023813860609024356:=0
def tw12068779686985899102:=0
def tw1194588180056365216:=0
def tw8739264754076992861:=0
def tw319333584992062143:=0
def tw6986840512744253506:=0
def tw5672248323442537909:=0
def tw4649375122082296078:=0
def tw2067391212847548897:=0
def tw17781346599204335861:=0
def tw17095323905045703348:=0
def tw16441956222794461442:=0
def tw14400242165885310780:=0
def tw11203571149369688194:=0
def tw7786041665343448417:=0
def tw1991938546659451344:=0
def tw1812818896440293737:=0
def tw18077859968882542184:=0
def tw14090628611690882053:=0
def tw12360878313507352472:=0
def tw11312256697341210556:=0
def tw10261425022542910817:=0
def tw2659491648862919089:=0
def tw6679189849670327892:=0
def tw2396470027182495331:=0
def tw17921779432987973492:=0
def tw17519041488518332313:=0
def tw1689738033547144002:=0
def tw1242934904830390500:=0
def tw5175548028824310542:=0
def tw4253108266953473609:=0
def tw4170806514063896047:=0
def tw2811615234903103332:=0
def tw2230859672306780856:=0
def tw16863160032139810445:=0
def tw11427123079989552929:=0
def tw10498327534375656647:=0
def tw9909468619784036081:=0
def tw9728094334720315989:=0
def tw9438471111044256388:=0
def tw9390358564100908695:=0
def tw9224860488869128540:=0
def tw9196531523091652260:=0
def tw9162790758849217729:=0
def tw9129424758353347604:=0
def tw9001720060099188220:=0
def tw8987174847607279294:=0
def tw8874759705563446919:=0
def tw8819971468807242112:=0
def tw8663467110198333390:=0
def tw8584393559388610190:=0
def tw8170880792862707524:=0
def tw80261298293090813:=0
def tw7955945006408355301:=0
def tw7882182240888606595:=0
def tw7776600623805186793:=0
def tw7729182936193079140:=0
def tw7661286831719189549:=0
def tw7598081895889113286:=0
def tw7578237015185880916:=0
def tw7520777818958827239:=0
def tw7365635937421085430:=0
def tw7349182742579972197:=0
def tw7121332225997803617:=0
def tw7049957361644415725:=0
def tw6935207111107953520:=0
def tw6931720332810877716:=0
def tw6929247237717031048:=0
def tw6813947152910879064:=0
def tw6806770590907912858:=0
def tw6770699086535067741:=0
def tw6698954223526556781:=0
def tw669399788373456258:=0
def tw6599953587800057171:=0
def tw6594052541192920541:=0
def tw6357414999613489303:=0
def tw6263350418153739143:=0
def tw601955405892243810:=0
def tw5976494503322304613:=0
def tw5911299358338634482:=0
def tw5907806409388826183:=0
def tw5744964458690477824:=0
def tw5655628724627899203:=0
def tw557889770266612341:=0
def tw5550219730405239037:=0
def tw5419856689168803268:=0
def tw5244314710115375754:=0
def tw5141028993630725970:=0
def tw5097905578353190689:=0
def tw4868310792401348899:=0
def tw4783867426577625210:=0
def tw4778545733709792904:=0
def tw4554829823385421607:=0
def tw4356874197573048487:=0
def tw4313178646990762695:=0
def tw4177600973602668703:=0
def tw4142397809201828065:=0
def tw408646750944190256:=0
def tw4019286743915803120:=0
def tw3619747007653482020:=0
def tw3250742578820017666:=0
def tw3096966981970763441:=0
def tw28246007105617610:=0
def tw2773494008468252997:=0
def tw2720809266521396287:=0
def tw2652283778180892403:=0
def tw2330791436549123101:=0
def tw2301240548300975488:=0
def tw2226468257192711497:=0
def tw2115100258003294639:=0
def tw2001383179014632078:=0
def tw18305603395783840264:=0
def tw17999748583568644585:=0
def tw1798709385805981441:=0
def tw17958423305750692589:=0
def tw17722892620858302872:=0
def tw17711511894276069552:=0
def tw17693636303298173974:=0
def tw17691662219129507022:=0
def tw17488146315401925521:=0
def tw17263326381464649909:=0
def tw16992190275726870375:=0
def tw16762649651167890120:=0
def tw16639196468782454814:=0
def tw16529930533461090447:=0
def tw16507174908219556853:=0
def tw16503728858163241106:=0
def tw16433858879356530897:=0
def tw16211960826110462422:=0
def tw15935191480862933844:=0
def tw15898394320852673945:=0
def tw15869745419715923356:=0
def tw15490626486447335627:=0
def tw15466153090379417351:=0
def tw15456011171376960211:=0
def tw15385637222173191479:=0
def tw15347453180514486938:=0
def tw15226747965470329376:=0
def tw15073652549210347872:=0
def tw15055403155258092109:=0
def tw15028496896988842482:=0
def tw14912994548431009694:=0
def tw1480784902809605414:=0
def tw1465672092016416904:=0
def tw14636926707356771165:=0
def tw14599838984460829500:=0
def tw14451540820995153050:=0
def tw14394828476728996667:=0
def tw14384797755660450810:=0
def tw14209738236875270486:=0
def tw14195168811543926883:=0
def tw14125369619067068580:=0
def tw1405899026078048453:=0
def tw13700619058976054355:=0
def tw13660085815787626210:=0
def tw1339154479612397963:=0
def tw13153489391659070118:=0
def tw13038230320020134100:=0
def tw1301094110852224076:=0
def tw12999119203143001181:=0
def tw12963185715741941235:=0
def tw12938162840531608643:=0
def tw12642870760342121888:=0
def tw12641399624106532563:=0
def tw1254967035322620588:=0
def tw12448006559481747642:=0
def tw12440764016618297265:=0
def tw12424527825008608544:=0
def tw12179201639287270906:=0
def tw12124653993468470182:=0
def tw12094713924421442586:=0
def tw12087125772912663466:=0
def tw12057670514506207108:=0
def tw11659773330092437738:=0
def tw11650893387627382377:=0
def tw11514978742717040880:=0
def tw11466791819738816673:=0
def tw11370016698222585074:=0
def tw1117346968960016812:=0
def tw10864417272341451754:=0
def tw10723216278209258841:=0
def tw10632370204347692835:=0
def tw10615416599249782135:=0
def tw10386680794758795063:=0
def tw10380779816933918443:=0
def tw1022672012716335223:=0
def tw10014429428146037226:=0
end PySem.W.Fast
noncomputable section
section
set_option hygiene false
local macro_rules|`(tactic|kt_k)=>`(tactic|refine z0r (z0o (by decide) ?_))
local macro_rules|`(tactic|k_in)=>`(tactic|rintro σ H Q ⟨G,ρ,Q0,X0,hs,ab,hr,hk,hx⟩)
local macro_rules|`(tactic|z_go)=>`(tactic|intro pins s σ H Q I h)
local macro_rules|`(tactic|x_go)=>`(tactic|intro pins s σ H x y v u Q I rx ry h)
local macro_rules|`(tactic|w_up)=>`(tactic|refine⟨G,ρ,_,X0,hs,ab,hr,λd v G1 H1 q g1 g2 g3 rd =>?_,hx⟩)
local macro_rules|`(tactic|k_go)=>`(tactic|refine z0r (z1J (by decide) ?_))
local macro_rules|`(tactic|kd_p)=>`(tactic|rw[z04,z04,z04,z0x,z1l hW,z09,z2w])
local macro_rules|`(tactic|k_ne)=>`(tactic|intro X hP hw hK hc i pins s σ H E I hf st hg)
local macro_rules|`(tactic|kj_on)=>`(tactic|refine F.okN S (λvs H Q E ⟨G,ds,Q0,X0,hs,rds,⟨hl,hr⟩,hk,hx⟩=>by rw[rds.len,hl,hp]) λcdv A outer s H vs Q E hroom ⟨G,ds,Q0,X0,hs,rds,⟨hl,hr⟩,hk,hx⟩=>⟨_,hb cdv A outer s H E hroom,?_⟩)
local macro_rules|`(tactic|k_all)=>`(tactic|obtain⟨G,ρ,Q0,X0,hs,ab,hr,hk,hx⟩:=h)
local macro_rules|`(tactic|l_bnd)=>`(tactic|refine uy (h₀:=X.base) I.ok.mod.kin hk (thn (ha pos pins s σ H _ I h) λus s1 ⟨vs,H1,I1,r,q⟩=>⟨I1.kIn,?_⟩) he hpl)
local macro_rules|`(tactic|kd_p1)=>`(tactic|obtain⟨f0,f1,f2,f3,f4,f5⟩:=hf it (by simp))
local macro_rules|`(tactic|o_rec)=>`(tactic|show Sm.run _ _ _ _ _)
local macro_rules|`(tactic|kl_no)=>`(tactic|refine z0E (z1e ?_))
local macro_rules|`(tactic|f_int)=>`(tactic|rintro vs H Q ⟨G,ds,Q0,X0,g,rds,hr,hk⟩)
local macro_rules|`(tactic|k_not)=>`(tactic|intro pins s σ H D I h)
local macro_rules|`(tactic|kln_w)=>`(tactic|refine wa (vJ sz rfl (x :=.bool false) rfl (show wpAny _ _ (PySem.field (.ref z) 3 >>= λ_=>_) _ _ _ from wa (vJ sz rfl (x :=.ref TI) rfl (wa (ud sti rfl ?_))))))
local macro_rules|`(tactic|kt_le)=>`(tactic|refine⟨rfl,?_⟩)
local macro_rules|`(tactic|tm_up)=>`(tactic|refine uy (first:=[.ref a]) (h₀:=X.base) I.ok.mod.kin hm.kp (thn (ha pos pins s1 σ H1 _ I1 q) λus s2 ⟨vs,H2,I2,r,q2⟩=>⟨I2.kIn,?_⟩) hst hpl)
local macro_rules|`(tactic|tb_lt)=>`(tactic|obtain⟨v,rfl,rd⟩:=rds1 rds)
local macro_rules|`(tactic|l_fit)=>`(tactic|rintro De σ H ⟨H0,G0,G,ρ,W,A,N0,R0,X0,ab,hr,hn,hR,hx⟩)
local macro_rules|`(tactic|ksr_p)=>`(tactic|obtain⟨t,rfl⟩:=rx)
local macro_rules|`(tactic|z_run)=>`(tactic|obtain⟨x,H1,I1,r1,q1⟩:=z9)
local macro_rules|`(tactic|w_why)=>`(tactic|obtain⟨⟨cls2,dd2,data2,sl2⟩,ho2,hc2,n2,hd2⟩:=id hb)
local macro_rules|`(tactic|kw_lk)=>`(tactic|simpa using this)
local macro_rules|`(tactic|k_asm)=>`(tactic|obtain⟨ab',lm⟩:=ab.back g1 g2 g3)
local macro_rules|`(tactic|kpc_g)=>`(tactic|refine z1P (by omega) (by omega) λu u0 u1 =>?_)
local macro_rules|`(tactic|k_dec)=>`(tactic|have:=congrArg List.length e)
local macro_rules|`(tactic|o_new)=>`(tactic|have hdn:∀x∈dn.reverse,Sz x:=λx hx=>(h.each x (by rw[e];simp at hx;simp[hx])).1.toSz)
local macro_rules|`(tactic|sr_in)=>`(tactic|refine z1p (λh1 =>?_) (λh1 =>?_))
local macro_rules|`(tactic|l_out)=>`(tactic|refine z2j (z1Z ?_))
local macro_rules|`(tactic|f_tup)=>`(tactic|refine wpAny_call (uX (F.run X.A X.stack s H ⟨us,[]⟩ (us++ds) (vs++dvs) Q E hr I.env0 (hb s us I.kIn hl) r2 h) λr s' hq =>?_))
local macro_rules|`(tactic|kcj_m)=>`(tactic|rw[z04,z04,z0x,z1l hW,z09])
local macro_rules|`(tactic|k_end)=>`(tactic|refine z2P (Safe.of_noL rfl rfl _) ?_)
local macro_rules|`(tactic|l_idx)=>`(tactic|refine z3V rfl ?_)
local macro_rules|`(tactic|ks_is)=>`(tactic|obtain rfl:u=Value.ref a:=rx)
local macro_rules|`(tactic|k_one)=>`(tactic|refine wpAny_Tuple_spliced (thn (h pos pins s σ H _ I hq) λus s1 ⟨xs,H1,I1,r,z,q⟩=>⟨by rw[<- r.length];exact z,?_⟩))
local macro_rules|`(tactic|k_mem)=>`(tactic|refine PySem.W.methodCall_KW (pl:=pl) (thn (he pins s σ H _ I h) λu s1 z9 =>?_) ht)
local macro_rules|`(tactic|w_how)=>`(tactic|unfold z0g z0g z0g)
local macro_rules|`(tactic|w_fin)=>`(tactic|simp only[wf,wC,vj] at he)
local macro_rules|`(tactic|w_tab)=>`(tactic|rw[show putF f v ((k,x)::r)=(if k=f then (k,v)::r else (k,x)::putF f v r) from rfl])
local macro_rules|`(tactic|kpf_c)=>`(tactic|obtain⟨a,xs,rfl,h1,h2⟩:=z1K rd)
local macro_rules|`(tactic|kcf_m)=>`(tactic|obtain⟨oc,od,kV,doc,pm,an,cdv,ct,osl,rfl,lk,hcd⟩:=F.ex)
local macro_rules|`(tactic|k_few)=>`(tactic|obtain⟨d,rfl,hr'⟩:=z2D hr)
local macro_rules|`(tactic|k_get)=>`(tactic|rintro D σ H ⟨H0,G0,G,ρ,W,A,N0,R0,X0,ab,hr,hn,hR,hx⟩)
local macro_rules|`(tactic|mg_lt)=>`(tactic|by_cases hj:j=i)
local macro_rules|`(tactic|w_end)=>`(tactic|refine z0o (by decide) ?_)
local macro_rules|`(tactic|gn_on)=>`(tactic|refine z1p (λ_ =>?_) (λ_ =>?_))
local macro_rules|`(tactic|k_cls)=>`(tactic|intro pins s σ H xs us Q I r h)
local macro_rules|`(tactic|f_are)=>`(tactic|rintro⟨y,x⟩ rest b s' ⟨hb',rfl,vs,ws,ns',ms',hz,hvi,hwi,hlen,hR⟩)
local macro_rules|`(tactic|k_put)=>`(tactic|intro pins s σ H x v vl vu lo hi sl Q I rx hs pl pu h)
local macro_rules|`(tactic|k_go0)=>`(tactic|rintro D σ H ⟨H0,G0,G,ρ,N0,R0,X0,ab,hr,hn,hR,hx⟩)
local macro_rules|`(tactic|k_sub)=>`(tactic|obtain⟨o',z⟩:=u1.there b o e (by simp))
local macro_rules|`(tactic|o_src)=>`(tactic|by_cases hq:q=p)
local macro_rules|`(tactic|gp_on)=>`(tactic|rw[z04,z04,z0x,z2x hW,z09])
local macro_rules|`(tactic|f_len)=>`(tactic|cases (show u=Value.ref a from rx))
local macro_rules|`(tactic|x_run)=>`(tactic|rintro⟨b1,b2⟩ s' ⟨hb',rfl,vs,ws,ns',ms',hz,hvi,hwi,hlen,hR⟩)
local macro_rules|`(tactic|k_upd)=>`(tactic|exact⟨_,rfl,by simpa[Builtin.Tuple.tupleCompareSizes] using hR⟩)
local macro_rules|`(tactic|kst_p)=>`(tactic|exact hk .non .non G' H' q ⟨ab.g0,ab.nw⟩ ab.g ab.s0 (by rw[RD]))
local macro_rules|`(tactic|kd_in)=>`(tactic|obtain⟨o',e1⟩:=I.base.there b o e hx)
local macro_rules|`(tactic|cb_eq)=>`(tactic|refine z1L (z0E (z1e ?_)))
local macro_rules|`(tactic|by_in)=>`(tactic|obtain⟨a,xs,h1,h2,h3⟩:=h)
local macro_rules|`(tactic|lge_go)=>`(tactic|obtain⟨x,r,rfl,h2,h3⟩:=h)
local macro_rules|`(tactic|w_left)=>`(tactic|rintro x y H Q ⟨G,d1,d2,Q0,X0,g,r1,r2,hr,hk⟩)
local macro_rules|`(tactic|k_accD)=>`(tactic|refine⟨⟨by omega,by omega⟩,?_⟩)
local macro_rules|`(tactic|kmk_kw)=>`(tactic|rw[z04,z04,z04,z04,z0x,z2x hW,z09,z2w])
local macro_rules|`(tactic|k_data)=>`(tactic|obtain⟨its2,r2,p2,_⟩:=I.tuple hb)
abbrev WvP:=PySem.Value->PySem.Shared->Prop
abbrev WmP:=PySem.Str->Option PySem.Value
set_option hygiene true
def wa:=@PySem.wpAny_bind
def wc:=@List.length_map
def we:=@List.mem_cons_of_mem
def wf:=@List.mem_cons
def wg:=@List.getElem?_eq_some_iff
def wj:=@List.getElem?_set_ne
def wm:=@PySem.Heap.get?_push_of_some
def wu:=@decide_eq_true
def wv:=@PySem.wpAny_pure
def ww:=@List.mem_cons_self
def wz:=@List.length_append
def wA:=@List.map_cons
def wB:=@PySem.Heap.get?_push_size
def wC:=@List.not_mem_nil
def wD:=@List.getElem?_set_self
def wE:=@PySem.Heap.lt_size
def wF:=@decide_eq_false
def wG:=@Nat.le_refl
def wH:=@List.mem_of_getElem?
def wI:=@List.size_toArray
def wJ:=@List.getElem?_eq_getElem
def wK:=@Nat.lt_of_lt_of_le
def wL:=@List.length_cons
def wM:=@Bool.false_ne_true
def wN:=@Bool.and_eq_true
def wO:=@List.nodup_cons
def wP:=@List.mem_map
def wQ:=@List.append_nil
def wR:=@List.getElem?_map
def wS:=@List.zip_cons_cons
def wT:=@Nat.ne_of_lt
def wU:=@List.map_append
def wV:=@PySem.W.mg_none_of
def wW:=@Int.mul_nonpos_of_nonneg_of_nonpos
def wX:=@Nat.le_trans
def wY:=@PySem.PassesOwn.never
def wZ:=@List.mem_singleton
def w5:=@List.map_map
def w6:=@Int.eq_of_mul_eq_mul_right
def w9:=@List.mem_append_right
def va:=@PySem.wpAny_mono
def vd:=@List.lookup_cons
def ve:=@List.mem_append
def vf:=@PySem.W.kia_one
def vh:=@Nat.zero_le
def vi:=@List.mem_or_eq_of_mem_set
def vj:=@or_false
def vk:=@Ne.symm
def vm:=@Option.some.inj
def vn:=@PySem.wpAny_newObj_type
def vo:=@PyProof.Rows.slot_tuple_getitem
def vp:=@List.find?_cons
def vq:=@List.map_nil
def vt:=@PySem.F.excBase_ValueError
def vv:=@PySem.W.mg_of
def vw:=@List.length_nil
def vz:=@List.mem_range
def vA:=@List.length_singleton
def vB:=@Int.natAbs_dvd_natAbs
def vC:=@List.length_range
def vD:=@List.pairwise_cons
def vE:=@List.getElem?_append_left
def vF:=@Int.natAbs_mul
def vG:=@List.length_replicate
def vH:=@Int.mul_ediv_cancel_left
def vI:=@decide_eq_true_eq
def vJ:=@PySem.wpAny_field
def vK:=@PySem.wpAny_callSpecial?_slot
def vL:=@PySem.F.plainAttrs_list
def vM:=@List.all_eq_true
def vN:=@List.getElem?_append_right
def vO:=@List.getD_eq_getElem?_getD
def vP:=@of_decide_eq_true
def vQ:=@List.length_reverse
def vR:=@List.drop_eq_getElem_cons
def vS:=@List.cons.injEq
def vT:=@PySem.wpAny_Call_Name_kw
def vU:=@Int.emod_lt_of_pos
def vV:=@List.getElem_mem
def vW:=@Nat.lt_irrefl
def vX:=@PySem.wpAny_truthy_bool
def vY:=@List.mem_filter
def vZ:=@Array.length_toList
def v6:=@PySem.wpAny_loadPart'
def v7:=@Int.mul_pos
def v8:=@PySem.F.slot_tuple_iterator_next
def v9:=@PySem.wpAny_call_entry
def ua:=@PySem.wpAny_setField_rec
def ub:=@PySem.Heap.size_push
def uc:=@Nat.eq_of_mul_eq_mul_left
def ud:=@PySem.wpAny_seqItems
def ue:=@List.mem_append_left
def uf:=@Int.mul_ediv_cancel'
def ug:=@PySem.wpAny_passesOwn
def uh:=@beq_iff_eq
def ui:=@Option.isSome_iff_exists
def uj:=@List.length_zip
def uk:=@Int.emod_nonneg
def um:=@beq_eq_false_iff_ne
def uo:=@PySem.wpAny_holding
def uq:=@PySem.mem_of_lookup
def ur:=@List.getElem?_replicate
def ut:=@Nat.dvd_trans
def uu:=@List.sum_cons
def uv:=@List.filter_cons
def uw:=@PySem.Calls.callWith_builtin
def ux:=@List.take_of_length_le
def uy:=@PySem.W.callWith_K
def uz:=@Int.natAbs_natCast
def uA:=@PySem.wpAny_execs_nil
def uB:=@PyProof.Rows.callWith_type1
def uC:=@Bool.eq_iff_iff
def uD:=@List.length_set
def uE:=@Int.mul_comm
def uF:=@List.eq_nil_or_concat
def uG:=@Bool.not_eq_true'
def uH:=@PySem.Calls.evalArgs_plain
def uI:=@Nat.lt_succ_self
def uJ:=@List.length_drop
def uK:=@Int.gcd_dvd_left
def uL:=@List.length_pos_iff
def uM:=@List.reverse_append
def uN:=@List.map_congr_left
def uO:=@Nat.gcd_comm
def uP:=@List.mem_filterMap
def uQ:=@Int.mul_assoc
def uR:=@Prod.mk.injEq
def uS:=@of_decide_eq_false
def uT:=@PySem.tupleKind_room_in1
def uU:=@Bool.true_and
def uV:=@Nat.dvd_gcd
def uW:=@Nat.le_of_lt
def uX:=@PySem.codeAny_mono
def uY:=@Int.le_of_lt
def uZ:=@if_true
set_option Elab.async false
set_option linter.all false
set_option maxRecDepth 100000
namespace L2
open PySem PySem.Spec PyProof.Rows
abbrev Key:=Sum Int Str
def z90:Key->Value->Bool
 | .inl k,v=>Value.isInt k v
 | .inr x,v=>Value.isStrOf x v
def keyH (w:World):Key->Int
 | .inl k=>hashInt k
 | .inr x=>hashStr w x
def z11:∀{k:Key}{v:Value},z90 k v=true->(∃i t,k=Sum.inl i/\v=Value.int i t)\/(∃x t,k=Sum.inr x/\v=Value.str x t)
 | .inl i,v,h=>by
  obtain⟨t,e⟩:=Value.isInt_shape (k:=i) (v:=v) h;exact .inl ⟨i,t,rfl,e⟩
 | .inr x,v,h=>by
  obtain⟨t,e⟩:=Value.isStrOf_shape (x:=x) (v:=v) h;exact .inr ⟨x,t,rfl,e⟩
def zbZ (i:Int)(t:Tok):z90 (.inl i) (.int i t)=true:=by simp[z90,Value.isInt]
def zbY (x:Str)(t:Tok):z90 (.inr x) (.str x t)=true:=by simp[z90,Value.isStrOf]
def ziG (a b:Int):decide ((Sum.inl a:Key)=Sum.inl b)=(a == b):=by
 by_cases e:a=b
 .subst e;simp
 .have h:¬ (Sum.inl a:Key)=Sum.inl b:=λq=>e (Sum.inl.inj q);rw[wF h];exact(um.mpr e).symm
def ziD (a b:Str):decide ((Sum.inr a:Key)=Sum.inr b)=decide (a=b):=by
 by_cases e:a=b
 .subst e;simp
 .have h:¬ (Sum.inr a:Key)=Sum.inr b:=λq=>e (Sum.inr.inj q);rw[wF h,wF e]
def ziF (a:Int)(b:Str):decide ((Sum.inl a:Key)=Sum.inr b)=false:=wF (λq=>nomatch q)
def ziE (a:Str)(b:Int):decide ((Sum.inr a:Key)=Sum.inl b)=false:=wF (λq=>nomatch q)
def z0X (prog:Program)(w:World):PySem.KeyKind prog w Key where
 is:=z90
 hash:=keyH w
 inj:=λv a b ha hb=>by
  rcases z11 ha with ⟨i,t,rfl,rfl⟩ | ⟨x,t,rfl,rfl⟩
  .rcases z11 hb with ⟨j,u,rfl,e⟩ | ⟨y,u,rfl,e⟩
   .injection e with e1 _;rw[e1]
   .exact nomatch e
  .rcases z11 hb with ⟨j,u,rfl,e⟩ | ⟨y,u,rfl,e⟩
   .exact nomatch e
   .injection e with e1 _;rw[e1]
 byValue:=λk v h=>by
  rcases z11 h with ⟨i,t,rfl,rfl⟩ | ⟨x,t,rfl,rfl⟩ <;> rfl
 pyHash:=λhv h=>by
  rcases z11 hv with ⟨i,t,rfl,rfl⟩ | ⟨x,t,rfl,rfl⟩
  .exact wpAny_pyHash_int h
  .exact wpAny_pyHash_str h
 eqBool:=λhu hv h=>by
  rcases z11 hu with ⟨i,t,rfl,rfl⟩ | ⟨x,t,rfl,rfl⟩
  .rcases z11 hv with ⟨j,u,rfl,rfl⟩ | ⟨y,u,rfl,rfl⟩
   .rw[ziG] at h;exact wpAny_eqBool_int h
   .rw[ziF] at h;exact SeqAt.EqAt.int_str i t y u _ _ _ _ h
  .rcases z11 hv with ⟨j,u,rfl,rfl⟩ | ⟨y,u,rfl,rfl⟩
   .rw[ziE] at h;exact SeqAt.EqAt.str_int x t j u _ _ _ _ h
   .rw[ziD] at h;exact wpAny_eqBool_str h
 «strs»:=λk x t v h=>by
  rcases z11 h with ⟨i,u,rfl,e⟩ | ⟨y,u,rfl,e⟩
  .exact nomatch e
  .injection e with e1 _
   subst e1
   cases v <;> rfl
def zag (prog:Program)(w:World)(k:Key)(v:Value):(z0X prog w).is k v=z90 k v:=rfl
def z8Y (prog:Program)(w:World)(i:Int)(t:Tok):(z0X prog w).is (.inl i) (.int i t)=true:=zbZ i t
def z8X (prog:Program)(w:World)(x:Str)(t:Tok):(z0X prog w).is (.inr x) (.str x t)=true:=zbY x t
inductive V where
 | non | bl (b:Bool) | int (i:Int) | str (x:Str) | byt (b:Array UInt8) | flt (b:UInt64) | ref (a:Addr) | ty (n:String)
 deriving DecidableEq
def RelV:V->Value->Prop
 | .non,u=>u=Value.none
 | .bl b,u=>u=Value.bool b
 | .int i,u=>∃t,u=Value.int i t
 | .str x,u=>∃t,u=Value.str x t
 | .byt b,u=>∃t,u=Value.bytes b t
 | .flt b,u=>∃t,u=Value.float b t
 | .ref a,u=>u=Value.ref a
 | .ty n,u=>u=Value.type n
abbrev Vals:List V->List Value->Prop:=Paired RelV
theorem Vals.length {xs:List V}{us:List Value}(r:Vals xs us):xs.length=us.length:=Paired.length r
theorem Vals.get:∀{xs:List V}{us:List Value}{i:Nat}{x:V},Vals xs us->xs[i]? = some x->∃u,us[i]? = some u/\RelV x u
 | _,_,_,_,.nil,e=>by simp at e
 | _,_,0,_,.cons r _,e=>by simp at e;subst e;exact⟨_,rfl,r⟩
 | _,_,i+1,x,.cons _ t,e=>by
  obtain⟨u,h1,h2⟩:=Vals.get (i:=i) (x:=x) t (by simpa using e);exact⟨u,by simpa using h1,h2⟩
theorem Vals.set {x:V}{u:Value}(r:RelV x u):∀{xs:List V}{us:List Value}(i:Nat),Vals xs us->Vals (xs.set i x) (us.set i u)
 | _,_,_,.nil =>.nil
 | _,_,0,.cons _ t =>.cons r t
 | _,_,i+1,.cons q t =>.cons q (Vals.set r i t)
theorem Vals.append:∀{xs ys:List V}{us ws:List Value},Vals xs us->Vals ys ws->Vals (xs++ys) (us++ws)
 | _,_,_,_,.nil,s=>s
 | _,_,_,_,.cons r t,s =>.cons r (Vals.append t s)
theorem Vals.take:∀{xs:List V}{us:List Value}(n:Nat),Vals xs us->Vals (xs.take n) (us.take n)
 | _,_,0,_ =>.nil
 | _,_,_+1,.nil =>.nil
 | _,_,n+1,.cons r t =>.cons r (Vals.take n t)
theorem Vals.drop:∀{xs:List V}{us:List Value}(n:Nat),Vals xs us->Vals (xs.drop n) (us.drop n)
 | _,_,0,r=>r
 | _,_,_+1,.nil =>.nil
 | _,_,n+1,.cons _ t=>Vals.drop n t
def RelO:Option V->Option Value->Prop
 | some v,some u=>RelV v u
 | none,none=>True
 | _,_=>False
def KV {κ:Type}:List (κ × V)->List (κ × Value)->Prop:=Paired λ(p:κ × V) (q:κ × Value)=>p.1=q.1/\RelV p.2 q.2
def kV:Key->V
 | .inl i =>.int i
 | .inr x =>.str x
inductive HO where
 | lst (xs:List V)
 | tup (xs:List V)
 | dK (kvs:List (Key × V)) | dT (kvs:List (List Key × V))
 | set (S:Int->Bool) (n:Nat)
 | ins (C dx:Addr) (fs:List (Str × V))
 | own (x:Addr)
 | xd (fs:List (Str × V))
 | met (f x:Addr)
 | rng (lo hi:Int)
 | frz (o:Obj) (u:HO)
 | tbl (ps:Array Value)
 | ext (φ:Heap->Prop)
abbrev Hp:=Addr->Option HO
def upd (H:Hp)(a:Addr)(o:HO):Hp:=λb=>if b=a then some o else H b
def z06 {H:Hp}{a:Addr}{o:HO}:upd H a o a=some o:=by unfold upd;rw[if_pos rfl]
def z02 {H:Hp}{a b:Addr}{o:HO}(h:b≠a):upd H a o b=H b:=by unfold upd;rw[if_neg h]
def zkc {H:Hp}{a b:Addr}{o u:HO}(h:H a=some o)(h':H b=some u)(d:o≠u):a≠b:=by
 intro e;subst e;rw[h] at h';exact d (vm h')
def z0F {H:Hp}{a b:Addr}{o:HO}(h:H a=some o)(h':H b=none):a≠b:=by
 intro e;subst e;rw[h] at h';cases h'
def NoD (h:Heap)(a:Addr):Prop:=∃o,h.get? a=some o/\o.dict=none
def zkv (H:Hp)(h:Heap)(a:Addr)(ps:Array Value):Prop:=h.get? a=some { cls :=.none,data :=.fields #[] }\/
 ∃(l c:Value) (q:Str) (t:Tok) (c':Addr) (o:Obj) (vs:Array Value) (u:Tok),ps[0]? = some l/\ps[1]? = some c/\ps[2]? = some (.str q t)/\h.get? a=some { cls :=.none,data :=.fields #[l,c,.ref c'] }/\H c'=some (.frz o (.own c'))/\o.data = .fields vs/\vs[1]? = some (.str q u)
section
variable (P:Program)(w:World)
def z1u (H:Hp)(h:Heap)(a:Addr):HO->Prop
 | .lst xs=>xs.length<=sizeLine/\∃(its:List Value) (n:Nat),Vals xs its/\h.get? a=some { cls :=.type "list",data :=.seq its.toArray n }
 | .tup xs=>xs.length<=sizeLine/\∃its:List Value,Vals xs its/\IsTup h a its.toArray/\NoD h a
 | .dK kvs=>kvs.length<=sizeLine/\(a == sysModules)=false/\∃vs,KV kvs vs/\h.DictOf (z0X P w) a vs
 | .dT kvs=>kvs.length<=sizeLine/\(a == sysModules)=false/\∃xs:List (List Key × Addr × Value),
   Paired (λ(p:List Key × V) (q:List Key × Addr × Value)=>p.1=q.1/\H q.2.1=some (.tup (p.1.map kV))/\RelV p.2 q.2.2) kvs xs/\
   ∃o es ep,h.get? a=some o/\o.ExactDict/\o.data = .dict es ep/\es.toList=xs.map (entryOfKey (tupleKind (z0X P w)))/\(xs.map (·.1)).Nodup
 | .set S n=>h.SetOf (intKind P w) a S n
 | .ins C dx fs=>H dx=some (.own a)/\fs.length<=1000/\dx≠a/\h.get? a=some (W.instObj C dx)/\
   ∃mA,h.Ns1 dx mA/\(∀f,RelO (fs.lookup f) (mA f))/\PySem.Within mA (fs.map (·.1))
 | .own _=>∃o,h.get? a=some o
 | .xd fs=>∃mA,h.Ns1 a mA/\∀f,RelO (fs.lookup f) (mA f)
 | .rng lo hi=>∃t u v,h.get? a=some { cls :=.type "range",data :=.fields #[.int lo t,.int hi u,.int 1 v] }
 | .frz o u=>h.get? a=some o/\z1u H h a u
 | .tbl ps=>zkv H h a ps
 | .met f x=>h.get? a=some (W.methodObj (.ref f) (.ref x))
 | .ext φ=>φ h/\(∃o,h.get? a=some o)/\∀h1 h2:Heap,φ h1->(∀o,h1.get? a=some o->h2.get? a=some o)->φ h2
def HOk (H:Hp)(h:Heap):Prop:=∀a o,H a=some o->z1u P w H h a o
end
section
variable {P:Program}{w:World}{H H':Hp}{h h':Heap}{a:Addr}{o:HO}
theorem z1u.lt (x:z1u P w H h a o):a<h.objs.size:=by
 cases o with
 | lst xs=>obtain⟨_,_,_,_,e⟩:=x;exact wE e
 | tup xs=>obtain⟨_,_,_,p,_⟩:=x;exact p.lt
 | dK kvs=>obtain⟨_,_,_,_,o,_,_,e,_⟩:=x;exact wE e
 | dT kvs=>obtain⟨_,_,_,_,o,_,_,e,_⟩:=x;exact wE e
 | set S n=>obtain⟨o,_,_,_,e,_⟩:=x;exact wE e
 | ins C dx fs=>obtain⟨_,_,_,e,_⟩:=x;exact wE e
 | own y=>obtain⟨_,e⟩:=x;exact wE e
 | xd fs=>obtain⟨_,⟨_,_,_,e,_⟩,_⟩:=x;exact wE e
 | rng lo hi=>obtain⟨_,_,_,e⟩:=x;exact wE e
 | frz ob u=>obtain⟨e,_⟩:=x;exact wE e
 | tbl ps=>rcases x with e | ⟨_,_,_,_,_,_,_,_,_,_,_,e,_⟩ <;> exact wE e
 | met f y=>exact wE (show h.get? a=some _ from x)
 | ext φ=>obtain⟨_,⟨_,e⟩,_⟩:=x;exact wE e
theorem Paired.mapP {α β:Type}{F G:α->β->Prop}:∀{l₁:List α} {l₂:List β},Paired F l₁ l₂->(∀a b,F a b->G a b)->Paired G l₁ l₂
 | _,_,.nil,_ =>.nil
 | _,_,.cons r t,f =>.cons (f _ _ r) (Paired.mapP t f)
def z1u.stay (x:z1u P w H h a o)(k:∀b u,(b=a\/H b=some (.own a))->h.get? b=some u->h'.get? b=some u)
  (ho:∀b,H b=some (.own a)->H' b=some (.own a)) (ht:∀b xs,H b=some (.tup xs)->H' b=some (.tup xs)) (hf:∀b o c,H b=some (.frz o (.own c))->H' b=some (.frz o (.own c)):=by first | exact λ_ _ _ q=>q | exact λc _ _ q=>by rw[z02 (z0F q (by assumption))];exact q):z1u P w H' h' a o:=by
 induction o with
 | lst xs=>obtain⟨z,its,n,r,e⟩:=x;exact⟨z,its,n,r,k _ _ (.inl rfl) e⟩
 | tup xs=>obtain⟨z,its,r,⟨ob,e,c⟩,od,ed,cd⟩:=x;exact⟨z,its,r,⟨ob,k _ _ (.inl rfl) e,c⟩,od,k _ _ (.inl rfl) ed,cd⟩
 | dK kvs=>obtain⟨z,y,vs,r,ob,es,ep,e,c⟩:=x;exact⟨z,y,vs,r,ob,es,ep,k _ _ (.inl rfl) e,c⟩
 | dT kvs=>
  obtain⟨z,y,xs,r,ob,es,ep,e,c⟩:=x;exact⟨z,y,xs,Paired.mapP r λp q z=>⟨z.1,ht _ _ z.2.1,z.2.2⟩,ob,es,ep,k _ _ (.inl rfl) e,c⟩
 | set S n=>obtain⟨ob,es,ep,t,e,c⟩:=x;exact⟨ob,es,ep,t,k _ _ (.inl rfl) e,c⟩
 | ins C dx fs=>
  obtain⟨d,z,ne,e,mA,⟨od,es,ep,e2,c⟩,r⟩:=x;exact⟨ho _ d,z,ne,k _ _ (.inl rfl) e,mA,⟨od,es,ep,k _ _ (.inr d) e2,c⟩,r⟩
 | own y=>obtain⟨ob,e⟩:=x;exact⟨ob,k _ _ (.inl rfl) e⟩
 | xd fs=>obtain⟨mA,⟨od,es,ep,e,c⟩,r⟩:=x;exact⟨mA,⟨od,es,ep,k _ _ (.inl rfl) e,c⟩,r⟩
 | rng lo hi=>obtain⟨t,u,v,e⟩:=x;exact⟨t,u,v,k _ _ (.inl rfl) e⟩
 | frz ob u ih=>obtain⟨e,q⟩:=x;exact⟨k _ _ (.inl rfl) e,ih q⟩
 | tbl ps=>
  rcases x with e | ⟨l,c,q,t,c',ob,vs,u,e1,e2,e3,e,ec,r⟩
  .exact .inl (k a _ (.inl rfl) e)
  .exact .inr ⟨l,c,q,t,c',ob,vs,u,e1,e2,e3,k a _ (.inl rfl) e,hf _ _ _ ec,r⟩
 | met f y=>
  have e:h.get? a=some (W.methodObj (.ref f) (.ref y)):=x;show h'.get? a=some (W.methodObj (.ref f) (.ref y));exact k a _ (.inl rfl) e
 | ext φ=>obtain⟨p,⟨o,e⟩,st⟩:=x;exact⟨st _ _ p λo q=>k _ _ (.inl rfl) q,⟨o,k _ _ (.inl rfl) e⟩,st⟩
theorem HOk.lt (x:HOk P w H h)(e:H a=some o):a<h.objs.size:=(x a o e).lt
def HOk.fresh (x:HOk P w H h)(e:h.objs.size<=a):H a=none:=by
 cases q:H a with
 | none=>rfl
 | some u=>exact absurd (wK (x.lt q) e) (vW _)
def HOk.kept (x:HOk P w H h)(k:∀b u,h.get? b=some u->h'.get? b=some u):HOk P w H h':=λa o e=>
 (x a o e).stay (λb u _ q=>k b u q) (λ_ q=>q) λ_ _ q=>q
def HOk.laid (x:HOk P w H h)(k:∀b u,h.get? b=some u->h'.get? b=some u)(hp:h.objs.size<=a)(new:z1u P w (upd H a o) h' a o):HOk P w (upd H a o) h':=λb u e=>by
 have hn:=x.fresh hp
 by_cases hb:b=a
 .subst hb;rw[z06] at e;cases e;exact new
 .rw[z02 hb] at e;exact(x b u e).stay (λc v _ q=>k c v q) (λc q=>by rw[z02 (z0F q hn)];exact q) λc xs q=>by rw[z02 (z0F q hn)];exact q
end
def Rd (H:Hp)(a:Addr)(u:HO):Prop:=H a=some u\/∃o,H a=some (.frz o u)
def Rd.ok {P:Program}{w:World}{H:Hp}{h:Heap}{a:Addr}{u:HO}(r:Rd H a u)(x:HOk P w H h):z1u P w H h a u:=by
 rcases r with r | ⟨o,r⟩
 .exact x a u r
 .obtain⟨_,q⟩:=x a _ r;exact q
def Mut:Option HO->Prop
 | some (.lst _)=>True
 | some (.dK _)=>True
 | some (.dT _)=>True
 | some (.set _ _)=>True
 | some (.ins _ _ _)=>True
 | some (.ext _)=>True
 | _=>False
section
variable {P:Program}{w:World}{H:Hp}{h h':Heap}{x e:Addr}{o':HO}
def HOk.write (ok:HOk P w H h)(mu:Mut (H x))(he:e=x\/H e=some (.own x))(k:∀b u,b≠e->h.get? b=some u->h'.get? b=some u)(heo:∃u,h'.get? e=some u)
  (new:z1u P w (upd H x o') h' x o'):HOk P w (upd H x o') h':=λb u q=>by
 have nown:∀c y,H c=some (.own y)->c≠x:=λc y r z=>by subst z;rw[r] at mu;exact mu
 have ntup:∀c xs,H c=some (.tup xs)->c≠x:=λc xs r z=>by subst z;rw[r] at mu;exact mu
 by_cases hb:b=x
 .subst hb;rw[z06] at q;cases q;exact new
 .rw[z02 hb] at q
  by_cases hbe:b=e
  .have q':H b=some (.own x):=by
    rcases he with z | z
    .exact absurd (hbe.trans z) hb
    .rw[hbe];exact z
   rw[q] at q';cases q';obtain⟨v,hv⟩:=heo;exact⟨v,by rw[hbe];exact hv⟩
  .refine(ok b u q).stay (λc v hc r=>k c v ?_ r) (λc r=>by rw[z02 (nown c b r)];exact r) (λc xs r=>by rw[z02 (ntup c xs r)];exact r) λc o u r=>by rw[z02 (λz=>by subst z;rw[r] at mu;exact mu)];exact r
   rcases hc with rfl | hc
   .exact hbe
   .rintro rfl
    rcases he with z | z
    .exact nown c b hc z
    .rw[hc] at z;cases z;exact hb rfl
end
structure Un (fs ex:List Addr)(H H':Hp)(h h':Heap):Prop where
 keep:∀b o,h.get? b=some o->H b=none->b ∉ fs->b ∉ ex->h'.get? b=some o
 slot:∀b o,h.get? b=some o->H b=none->b∈fs->b ∉ ex->∃sl,h'.get? b=some { o with slots:=sl }
 free:∀b o,h.get? b=some o->H b=none->b ∉ ex->H' b=none
 there:∀b o,h.get? b=some o->b ∉ ex->∃o',h'.get? b=some o'
 tups:∀b xs,H b=some (.tup xs)->H' b=some (.tup xs)
 frzs:∀b o u,H b=some (.frz o u)->H' b=some (.frz o u)
 tbls:∀b ps,H b=some (.tbl ps)->∃more,H' b=some (.tbl (ps++more))
section
variable {fs fs' ex ex':List Addr}{H H1 H2:Hp}{h h1 h2 h':Heap}{a x e:Addr}{o:HO}
def Un.any (u:Un fs ex H H1 h h1){b:Addr}{ob:Obj}(q:h.get? b=some ob)(n:H b=none)(hx:b ∉ ex):∃sl,h1.get? b=some { ob with slots:=sl }:=by
 by_cases hb:b∈fs
 .exact u.slot b ob q n hb hx
 .exact⟨ob.slots,u.keep b ob q n hb hx⟩
def Un.kept (k:∀b u,h.get? b=some u->h'.get? b=some u):Un fs ex H H h h':=
 ⟨λb ob q _ _ _=>k b ob q,λb ob q _ _ _=>⟨ob.slots,k b ob q⟩,λ_ _ _ n _=>n,λb ob q _=>⟨ob,k b ob q⟩,λ_ _ q=>q,λ_ _ _ q=>q,λ_ ps q=>⟨#[],by rw[q];simp⟩⟩
def Un.refl:Un fs ex H H h h:=Un.kept λ_ _ q=>q
def Un.laid (k:∀b u,h.get? b=some u->h'.get? b=some u)(hp:h.objs.size<=a)(hn:H a=none):Un fs ex H (upd H a o) h h' where
 keep:=λb u q _ _ _=>k b u q
 slot:=λb u q _ _ _=>⟨u.slots,k b u q⟩
 free:=λb u q n _=>by rw[z02 (wT (wK (wE q) hp))];exact n
 there:=λb u q _=>⟨u,k b u q⟩
 tups:=λb xs q=>by rw[z02 (z0F q hn)];exact q
 frzs:=λb u xs q=>by rw[z02 (z0F q hn)];exact q
 tbls:=λb ps q=>⟨#[],by rw[z02 (z0F q hn),q];simp⟩
def Un.write (mu:Mut (H x))(he:e=x\/H e=some (.own x))(k:∀b u,b≠e->h.get? b=some u->h'.get? b=some u)(heo:∃u,h'.get? e=some u):Un fs ex H (upd H x o) h h':=by
 have hx:∀b,H b=none->b≠x:=λb n z=>by subst z;rw[n] at mu;exact mu
 have hb:∀b,H b=none->b≠e:=λb n z=>by
  subst z
  rcases he with r | r
  .exact hx b n r
  .rw[n] at r;cases r
 have hm:∀b u,H b=some u->¬ Mut (some u)->b≠x:=λb u q nm z=>by subst z;rw[q] at mu;exact nm mu
 refine⟨λb u q n _ _=>k b u (hb b n) q,λb u q n _ _=>⟨u.slots,k b u (hb b n) q⟩,λb u q n _=>by rw[z02 (hx b n)];exact n,λb u q _ =>?_,
  λb xs q=>by rw[z02 (hm b _ q λz=>z)];exact q,λb u xs q=>by rw[z02 (hm b _ q λz=>z)];exact q,λb ps q=>⟨#[],by rw[z02 (hm b _ q λz=>z),q];simp⟩⟩
 by_cases hbe:b=e
 .subst hbe;exact heo
 .exact⟨u,k b u hbe q⟩
end
def trk (h:Heap)(H:Hp):List Addr:=(List.range h.objs.size).filter λa=>(H a).isSome
def hidT (h:Heap)(H:Hp):Heap:=W.hideAll h (trk h H)
def zc3 (h:Heap)(H:Hp):(hidT h H).objs.size=h.objs.size:=W.hideAll_size _ _
def z7j {h:Heap}{H:Hp}{b:Addr}{o:Obj}(e:h.get? b=some o)(n:H b=none):(hidT h H).get? b=some o:=
 W.hideAll_get _ e λhm=>by
  have q:(H b).isSome=true:=(vY.mp hm).2;rw[n] at q;simp at q
def zg2 {h:Heap}{H:Hp}{b:Addr}{o:Obj}(e:(hidT h H).get? b=some o):h.get? b=some o/\H b=none:=by
 have e':h.get? b=some o:=W.of_hideAll (trk h H) e;refine⟨e',?_⟩
 cases q:H b with
 | none=>rfl
 | some x=>
  have hm:b∈trk h H:=vY.mpr ⟨vz.mpr (wE e'),by simp[q]⟩;have z:(hidT h H).get? b=none:=W.hideAll_none (trk h H) hm;rw[z] at e;cases e
def BmAt (mg:WmP)(h:Heap):Prop:=∃bm ob,mg "__builtins__"=some (.ref bm)/\bm≠builtinsNs/\h.get? bm=some ob/\ob.cls = .type "module"/\ob.dict=some builtinsNs/\ob.data = .plain
def ziC (fd:FuncData):Option Pos:=match fd.body with
 | .stmts b=>(match b.getLast? with
  | some (.Return (some (.Call _ _ [⟨_,.Lambda _ _ _ pos,_⟩] _)) _)=>some pos
  | _=>none)
 | _=>none
def zaJ (K:W.Frag)(c:Addr):Option Addr:=match K.lookup c with
 | some ⟨.type "code",_,.fields vs,_⟩=>(match (vs[11]? : Option Value) with | some (.ref P)=>if (K.lookup P).isNone then some P else none | _=>none)
 | _=>none
def tsOf (K:W.Frag):List (Addr × Nat × Nat × Str):=K.filterMap λp=>match p.2.data with
 | .func fd=>(match ziC fd,fd.code with
  | some pos,.ref c=>(zaJ K c).map λP=>(P,pos.line,pos.col,fd.qualname++".<locals>."++"<lambda>")
  | _,_=>none)
 | _=>none
def encT (t:Nat × Nat × Str):Array Value := #[rawInt t.1,rawInt t.2.1,.str t.2.2 0]
def Tbs (K:W.Frag)(H:Hp):Prop:=∀P t,(tsOf K).lookup P=some t->∃more,H P=some (.tbl (encT t++more))
structure Mod (K:W.Frag)(mg:WmP)(base:Heap):Prop where
 kin:K.In base
 glob:base.Ns mainGlobals mg
 blt:∃mb,base.Ns builtinsNs mb/\∀x:Str,x≠"__name__"->mb x=bootBuiltins x
 nolimit:base.NoLimit
 bm:BmAt mg base
structure Cx where
 prog:Program
 w:World
 K:W.Frag
 mg:Str->Option Value
 base:Heap
 A:Around
 N:List Str
 s₀:Shared
 H₀:Hp
 env:Env
 outer:List Env
 stack:List Env
 ex:List Addr
 fn:Str->Bool
 calm:Bool
 pn:List (Addr × Obj)
 xe:Value->Shared->Prop
def frs (l:List Env):List Addr:=l.filterMap (·.frame)
abbrev Cx.fs (X:Cx):List Addr:=frs X.outer
def Vis (sc:Scope)(x:Str):Prop:=sc.names.lookup x=some .local\/sc.names.lookup x=some .cell\/sc.names.lookup x=some .free
def Loc (sc:Scope)(x:Str):Prop:=sc.names.lookup x=some .local\/sc.names.lookup x=some .cell
def Look (env:Env)(h:Heap)(m:WmP)(x:Str)(u:Value):Prop:=
 (env.kindOf x=some .local/\m x=some u)\/((env.kindOf x=some .cell\/env.kindOf x=some .free)/\∃c,env.cells.lookup x=some c/\h.IsCell c (some u))
structure Cx.Ok (X:Cx):Prop where
 mod:Mod X.K X.mg X.base
 kind:X.env.scope.kind = .function
 glob:X.env.globals=mainGlobals
 blt:X.env.builtins=builtinsNs
 above:X.s₀.heap.objs.size<=X.env.locals
 inj:∀x y c,X.env.cells.lookup x=some c->X.env.cells.lookup y=some c->x=y
 has:∀x,(X.env.kindOf x=some .cell\/X.env.kindOf x=some .free)->∃c,X.env.cells.lookup x=some c
 cab:∀x c,X.fn x=true->X.env.cells.lookup x=some c->X.s₀.heap.objs.size<=c
 hd:X.calm=true->X.A.handled=none
 frames:X.A.frames=some X.stack
 stk:X.stack=X.outer\/(X.stack=X.env::X.outer/\X.env.frame=some X.env.locals)
 exf:∀b∈X.ex,b≠X.env.locals/\∀x c,X.env.cells.lookup x=some c->c≠b
 bs:∀b o,X.base.get? b=some o->X.s₀.heap.get? b=some o/\X.H₀ b=none
 bsz:X.base.objs.size<=X.s₀.heap.objs.size
 noex:∀b o,X.base.get? b=some o->b ∉ X.ex
 exfs:∀b∈X.ex,b ∉ X.fs
 funs:X.s₀.heap.FunFrames X.base X.outer
 frf:∀b∈X.fs,X.H₀ b=none
 tbs:Tbs X.K X.H₀
structure Inv (X:Cx)(pins:List (Addr × Obj))(σ:List (Option V))(H:Hp)(s:Shared):Prop where
 ok:X.Ok
 os:s.os=X.s₀.os
 bare:AllBare s.gens
 base:Un X.fs X.ex X.H₀ H X.s₀.heap s.heap
 loc:∃m,s.heap.Ns X.env.locals m/\∀(i:Nat) (x:Str) (v:V),X.N[i]? = some x->σ[i]? = some (some v)->Vis X.env.scope x->∃u,RelV v u/\Look X.env s.heap m x u
 cell:∀x c,X.env.cells.lookup x=some c->∃v,s.heap.IsCell c v
 free:H X.env.locals=none
 freeC:∀x c,X.env.cells.lookup x=some c->H c=none
 pin:∀p∈X.pn++pins,s.heap.get? p.1=some p.2/\H p.1=none/\p.1≠X.env.locals/\p.1 ∉ X.fs/\∀v,p.2.data ≠ .cell v
 hok:HOk X.prog X.w H s.heap
 len:σ.length=X.N.length
section
variable {X:Cx}{pins:List (Addr × Obj)}{σ:List (Option V)}{H H':Hp}{s:Shared}{h':Heap}
def Cx.Ok.nofr (ok:X.Ok){b:Addr}{o:Obj}(e:X.base.get? b=some o):b ∉ X.fs:=λhb=>by
 have:=(ok.funs.mem hb).1;rw[e] at this;cases this
theorem Inv.bs (I:Inv X pins σ H s):∀b o,X.base.get? b=some o->s.heap.get? b=some o/\H b=none:=λb o e=>
 ⟨I.base.keep b o (I.ok.bs b o e).1 (I.ok.bs b o e).2 (I.ok.nofr e) (I.ok.noex b o e),I.base.free b o (I.ok.bs b o e).1 (I.ok.bs b o e).2 (I.ok.noex b o e)⟩
def Inv.bk (I:Inv X pins σ H s):∀b o,X.base.get? b=some o->s.heap.get? b=some o:=λb o e=>(I.bs b o e).1
theorem Inv.mod (I:Inv X pins σ H s):Mod X.K X.mg X.base:=I.ok.mod
def Inv.kIn (I:Inv X pins σ H s):X.K.In s.heap:=I.ok.mod.kin.keeps I.bk
theorem Inv.lt (I:Inv X pins σ H s):X.env.locals<s.heap.objs.size:=let ⟨_,hn,_⟩:=I.loc;hn.lt
def Inv.sz (I:Inv X pins σ H s):X.s₀.heap.objs.size<=s.heap.objs.size:=wX I.ok.above (uW I.lt)
def Inv.nofs (I:Inv X pins σ H s){a:Addr}(h:s.heap.objs.size<=a):a ∉ X.fs:=λhb=>by
 obtain⟨_,o,ho,_⟩:=I.ok.funs.mem hb;exact absurd (wK (wE ho) (wX I.sz h)) (vW _)
def Inv.cne (I:Inv X pins σ H s):∀x c,X.env.cells.lookup x=some c->c≠X.env.locals:=λx c e z=>by
 obtain⟨v,o,ho,hd⟩:=I.cell x c e;obtain⟨m,⟨o',es,ep,ho',hd',_⟩,_⟩:=I.loc;rw[z,ho'] at ho;cases ho;rw[hd'] at hd;cases hd
theorem Inv.funs (I:Inv X pins σ H s):s.heap.FunFrames X.base X.outer:=by
 have all:∀(l:List Env),(∀b∈frs l,b∈X.fs)->X.s₀.heap.FunFrames X.base l->s.heap.FunFrames X.base l:=by
  intro l
  induction l with
  | nil=>intro _ _;trivial
  | cons env r ih=>
   intro hs hl;obtain⟨hk,⟨L,o,hf,hn,ho,hd⟩,hr⟩:=hl;have hL:L∈X.fs:=hs L (by unfold frs;rw[List.filterMap_cons,hf];exact ww);obtain⟨sl,e⟩:=I.base.slot L o ho (I.ok.frf L hL) hL λz=>I.ok.exfs L z hL;exact⟨hk,⟨L,_,hf,hn,e,hd⟩,ih (λb hb=>hs b (by unfold frs;rw[List.filterMap_cons,hf];exact we _ hb)) hr⟩
 exact all X.outer (λ_ hb=>hb) I.ok.funs
theorem Inv.stack (I:Inv X pins σ H s):s.heap.FunFrames X.base X.stack:=by
 rcases I.ok.stk with e | ⟨e,hf⟩
 .rw[e];exact I.funs
 .rw[e];obtain⟨m,hn,_⟩:=I.loc;refine .cons (by rw[I.ok.kind];decide) hf hn ?_ I.funs;exact Heap.get?_none_of_le (wX I.ok.bsz I.ok.above)
def Inv.stkSub (I:Inv X pins σ H s):∀b∈frs X.stack,b∈X.env.locals::X.fs:=λb hb=>by
 rcases I.ok.stk with e | ⟨e,hf⟩
 .rw[e] at hb;exact we _ hb
 .rw[e] at hb;unfold frs at hb;rw[List.filterMap_cons,hf] at hb;exact hb
def Inv.stkFree (I:Inv X pins σ H s):∀b∈frs X.stack,H b=none:=λb hb=>by
 rcases wf.mp (I.stkSub b hb) with e | hb
 .rw[e];exact I.free
 .obtain⟨_,o,ho,_⟩:=I.ok.funs.mem hb;exact I.base.free b o ho (I.ok.frf b hb) λz=>I.ok.exfs b z hb
theorem Inv.tbs (I:Inv X pins σ H s):Tbs X.K H:=λP t e=>by
 obtain⟨m1,e1⟩:=I.ok.tbs P t e;obtain⟨m2,e2⟩:=I.base.tbls P _ e1;exact⟨m1++m2,by rw[e2,Array.append_assoc]⟩
def Inv.step {g':Array GenState}{t':Nat}{d':Drawn}{ch:List Addr}(I:Inv X pins σ H s)
  (hch:∀b∈ch,(b∈X.ex\/X.s₀.heap.objs.size<=b)/\b≠X.env.locals/\(∀x c,X.env.cells.lookup x=some c->c≠b)/\∀p∈X.pn++pins,p.1≠b)
  (keep:∀b o,b≠X.env.locals->b ∉ X.fs->b ∉ ch->s.heap.get? b=some o->H b=none->h'.get? b=some o)
  (slot:∀b o,b≠X.env.locals->b∈X.fs->b ∉ ch->s.heap.get? b=some o->H b=none->∃sl,h'.get? b=some { o with slots:=sl }) (free:∀b o,b ∉ ch->s.heap.get? b=some o->H b=none->H' b=none)
  (there:∀b o,b ∉ ch->s.heap.get? b=some o->∃o',h'.get? b=some o')
  (tups:∀b xs,H b=some (.tup xs)->H' b=some (.tup xs)) (frzs:∀b o u,H b=some (.frz o u)->H' b=some (.frz o u)) (tbls:∀b ps,H b=some (.tbl ps)->∃more,H' b=some (.tbl (ps++more)))
  (ns:∀m,s.heap.Ns X.env.locals m->h'.Ns X.env.locals m) (hok:HOk X.prog X.w H' h') (hg:AllBare g'):
  Inv X pins σ H' { s with heap:=h',gens:=g',drawn:=d',toks:=t' }:=by
 have neL:∀b o,X.s₀.heap.get? b=some o->b≠X.env.locals:=λb o e=>wT (wK (wE e) I.ok.above);have neC:∀b o,X.s₀.heap.get? b=some o->b ∉ X.ex->b ∉ ch:=λb o e hx hb=>by
  rcases(hch b hb).1 with z | z
  .exact hx z
  .exact absurd (wK (wE e) z) (vW _)
 have cellK:∀x c,X.env.cells.lookup x=some c->∀v,s.heap.IsCell c v->h'.IsCell c v:=by
  rintro x c e v ⟨o,ho,hd⟩;have nch:c ∉ ch:=λz=>(hch c z).2.2.1 x c e rfl
  by_cases hc:c∈X.fs
  .obtain⟨sl,q⟩:=slot c o (I.cne x c e) hc nch ho (I.freeC x c e);exact⟨_,q,hd⟩
  .exact⟨o,keep c o (I.cne x c e) hc nch ho (I.freeC x c e),hd⟩
 refine⟨I.ok,I.os,hg,⟨λb o e n hb hx =>?_,λb o e n hb hx =>?_,λb o e n hx =>?_,λb o e hx =>?_,λb xs e=>tups b xs (I.base.tups b xs e),λb o xs e=>frzs b o xs (I.base.frzs b o xs e),λb ps e =>?_⟩,?_,λx c e =>?_,?_,λx c e =>?_,λp hp =>?_,hok,I.len⟩
 .exact keep b o (neL b o e) hb (neC b o e hx) (I.base.keep b o e n hb hx) (I.base.free b o e n hx)
 .obtain⟨sl,e1⟩:=I.base.slot b o e n hb hx;obtain⟨sl',e2⟩:=slot b _ (neL b o e) hb (neC b o e hx) e1 (I.base.free b o e n hx);exact⟨sl',e2⟩
 .kd_in;exact free b o' (neC b o e hx) e1 (I.base.free b o e n hx)
 .kd_in;exact there b o' (neC b o e hx) e1
 .obtain⟨m1,e1⟩:=I.base.tbls b ps e;obtain⟨m2,e2⟩:=tbls b _ e1;exact⟨m1++m2,by rw[e2,Array.append_assoc]⟩
 .obtain⟨m,hn,hl⟩:=I.loc;refine⟨m,ns m hn,λi x v e1 e2 e3 =>?_⟩;obtain⟨u,r,l⟩:=hl i x v e1 e2 e3;refine⟨u,r,?_⟩
  rcases l with l | ⟨k,c,e,z⟩
  .exact .inl l
  .exact .inr ⟨k,c,e,cellK x c e _ z⟩
 .obtain⟨v,z⟩:=I.cell x c e;exact⟨v,cellK x c e v z⟩
 .obtain⟨m,⟨o,_,_,ho,_⟩,_⟩:=I.loc;exact free _ o (λz=>(hch _ z).2.1 rfl) ho I.free
 .obtain⟨v,o,ho,hd⟩:=I.cell x c e;exact free c o (λz=>(hch c z).2.2.1 x c e rfl) ho (I.freeC x c e)
 .obtain⟨e,n,ne,nf,d⟩:=I.pin p hp;have nch:p.1 ∉ ch:=λz=>(hch p.1 z).2.2.2 p hp rfl;exact⟨keep p.1 p.2 ne nf nch e n,free p.1 p.2 nch e n,ne,nf,d⟩
def Inv.un {t':Nat}(I:Inv X pins σ H s)(u:Un X.fs [] H H' s.heap h')(hok:HOk X.prog X.w H' h'):Inv X pins σ H' { s with heap:=h',toks:=t' }:=by
 obtain⟨m,⟨o,es,ep,ho,r⟩,_⟩:=id I.loc;obtain⟨sl,hL⟩:=u.any ho I.free (by simp);exact I.step (g':=s.gens) (d':=s.drawn) (ch:=[]) (λ_ z=>nomatch z) (λb o _ hb _ e n=>u.keep b o e n hb (by simp)) (λb o _ hb _ e n=>u.slot b o e n hb (by simp)) (λb o _ e n=>u.free b o e n (by simp)) (λb o _ e=>u.there b o e (by simp)) u.tups u.frzs u.tbls (λm' hm=>by
  obtain⟨o',es',ep',ho',r'⟩:=hm;rw[ho] at ho';cases ho';exact⟨_,es',ep',hL,r'⟩) hok I.bare
def Inv.call {g':Array GenState}{t':Nat}{d':Drawn}{ch:List Addr}(I:Inv X pins σ H s)(u:Un (frs X.stack) ch H H' s.heap h')(hok:HOk X.prog X.w H' h')(hg:AllBare g')
  (hch:∀b∈ch,(b∈X.ex\/X.s₀.heap.objs.size<=b)/\b≠X.env.locals/\(∀x c,X.env.cells.lookup x=some c->c≠b)/\∀p∈X.pn++pins,p.1≠b):
  Inv X pins σ H' { s with heap:=h',gens:=g',drawn:=d',toks:=t' }:=by
 obtain⟨m,⟨o,es,ep,ho,r⟩,_⟩:=id I.loc;obtain⟨sl,hL⟩:=u.any ho I.free λz=>(hch _ z).2.1 rfl;exact I.step (ch:=ch) hch (λb o hL hb hc e n=>u.keep b o e n (λz=>(wf.mp (I.stkSub b z)).elim hL hb) hc) (λb o _ _ hc e n=>u.any e n hc) (λb o hc e n=>u.free b o e n hc) (λb o hc e=>u.there b o e hc) u.tups u.frzs u.tbls (λm' hm=>by
  obtain⟨o',es',ep',ho',r'⟩:=hm;rw[ho] at ho';cases ho';exact⟨_,es',ep',hL,r'⟩) hok hg
def Inv.turned {t':Nat}{it:Addr}(I:Inv X pins σ H s)(k:∀b o,b≠it->s.heap.get? b=some o->h'.get? b=some o)(hn:H it=none)(hL:it≠X.env.locals)
  (h1:it∈X.ex\/X.s₀.heap.objs.size<=it) (h2:∀x c,X.env.cells.lookup x=some c->c≠it) (h3:∀p∈X.pn++pins,p.1≠it):Inv X pins σ H { s with heap:=h',toks:=t' }:=by
 have nit:∀b u,H b=some u->b≠it:=λb u e z=>by rw[z,hn] at e;cases e
 refine I.step (g':=s.gens) (d':=s.drawn) (ch:=[it]) (λb hb =>?_) (λb o _ _ hc e _=>k b o (λz=>hc (by simp[z])) e) (λb o _ _ hc e _=>⟨o.slots,k b o (λz=>hc (by simp[z])) e⟩) (λ_ _ _ _ n=>n)
  (λb o hc e=>⟨o,k b o (λz=>hc (by simp[z])) e⟩) (λ_ _ e=>e) (λ_ _ _ e=>e) (λb ps e=>⟨#[],by rw[e];simp⟩) (λm hm =>?_) (λb u e =>?_) I.bare
 .have e:b=it:=by simpa using hb
  subst e;exact⟨h1,hL,h2,h3⟩
 .obtain⟨o,es,ep,ho,r⟩:=hm;exact⟨o,es,ep,k _ o (vk hL) ho,r⟩
 .refine(I.hok b u e).stay (λc v hc q=>k c v ?_ q) (λ_ q=>q) λ_ _ q=>q
  rcases hc with z | z
  .rw[z];exact nit b u e
  .exact nit c _ z
def Inv.tok (I:Inv X pins σ H s)(t:Nat):Inv X pins σ H { s with toks:=t }:=I.un (h':=s.heap) (t':=t) Un.refl I.hok
theorem Inv.kept {t':Nat}(I:Inv X pins σ H s)(k:∀b u,s.heap.get? b=some u->h'.get? b=some u):Inv X pins σ H { s with heap:=h',toks:=t' }:=I.un (Un.kept k) (I.hok.kept k)
theorem Inv.laid {a:Addr}{o:HO}{t':Nat}(I:Inv X pins σ H s)(k:∀b u,s.heap.get? b=some u->h'.get? b=some u)(hp:s.heap.objs.size<=a)(new:z1u X.prog X.w (upd H a o) h' a o):
  Inv X pins σ (upd H a o) { s with heap:=h',toks:=t' }:=I.un (Un.laid k hp (I.hok.fresh hp)) (I.hok.laid k hp new)
theorem Inv.write {x e:Addr}{o:HO}{t':Nat}(I:Inv X pins σ H s)(mu:Mut (H x))(he:e=x\/H e=some (.own x))(k:∀b u,b≠e->s.heap.get? b=some u->h'.get? b=some u)(heo:∃u,h'.get? e=some u)
  (new:z1u X.prog X.w (upd H x o) h' x o):Inv X pins σ (upd H x o) { s with heap:=h',toks:=t' }:=I.un (Un.write mu he k heo) (I.hok.write mu he k heo new)
def Inv.pins_of {pins':List (Addr × Obj)}(I:Inv X pins σ H s)(h:∀p∈pins',s.heap.get? p.1=some p.2/\H p.1=none/\p.1≠X.env.locals/\p.1 ∉ X.fs/\∀v,p.2.data ≠ .cell v):Inv X pins' σ H s:=
 ⟨I.ok,I.os,I.bare,I.base,I.loc,I.cell,I.free,I.freeC,λp hp=>(ve.mp hp).elim (λz=>I.pin p (ue _ z)) (h p),I.hok,I.len⟩
def z7d {N:List Str}(hN:N.Nodup){i j:Nat}{x:Str}(a:N[i]? = some x)(b:N[j]? = some x):i=j:=by
 obtain⟨h1,e1⟩:=wg.mp a;obtain⟨h2,e2⟩:=wg.mp b;exact(List.getElem_inj hN).mp (e1.trans e2.symm)
def zaS {M:Model}{A:Around}{E:WvP}{i:Nat}{x:Str}{v:V}{u:Value}{Q:Unit->Shared->Prop}(I:Inv X pins σ H s)(hN:X.N.Nodup)(hi:X.N[i]? = some x)(hx:Loc X.env.scope x)(r:RelV v u)
  (h:∀s',Inv X pins (σ.set i (some v)) H s'->(∃a,Heap.SameBut a s.heap s'.heap/\(a=X.env.locals\/X.env.cells.lookup x=some a))->Q () s') (hf:X.fn x=true\/X.env.scope.names.lookup x=some .local:=by first | exact .inl rfl | exact .inr rfl | assumption):wpAny M A (storeName X.env x u) Q E s:=by
 obtain⟨m,hn,hl⟩:=id I.loc;have hcls:(X.env.scope.kind == .class || (X.env.scope.kind == .module && X.env.locals != X.env.globals))=false:=by rw[I.ok.kind];rfl
 have hiσ:i < σ.length:=by rw[I.len];exact(wg.mp hi).1
 have cne:=I.cne;have tracked:∀{a:Addr}{h':Heap},(∃o,s.heap.get? a=some o/\H a=none)->Heap.SameBut a s.heap h'->HOk X.prog X.w H h':=λ{a h'} ha hs b ob e=>by
  obtain⟨_,_,hfree⟩:=ha;refine(I.hok b ob e).stay (λc w' hc q=>(hs.2 c ?_).trans q) (λ_ q=>q) λ_ _ q=>q;rintro rfl
  rcases hc with rfl | hc
  .rw[hfree] at e;cases e
  .rw[hfree] at hc;cases hc
 rcases hx with hk | hk
 .refine wpAny_storeName_local hk hn (λh' hn' hs =>?_) hcls;obtain⟨oL,_,_,hoL,_⟩:=id hn;refine h _ ⟨I.ok,I.os,I.bare,⟨λb o e n hb hx =>?_,λb o e n hb hx =>?_,I.base.free,λb o e hx =>?_,I.base.tups,I.base.frzs,I.base.tbls⟩,⟨_,hn',λj y v' e1 e2 e3 =>?_⟩,λy c e =>?_,I.free,I.freeC,λp hp =>?_,tracked ⟨oL,hoL,I.free⟩ hs,by simpa using I.len⟩ ⟨_,hs,.inl rfl⟩
  .exact(hs.2 b (wT (wK (wE e) I.ok.above))).trans (I.base.keep b o e n hb hx)
  .obtain⟨sl,e1⟩:=I.base.slot b o e n hb hx;exact⟨sl,(hs.2 b (wT (wK (wE e) I.ok.above))).trans e1⟩
  .kd_in;exact⟨o',(hs.2 b (wT (wK (wE e) I.ok.above))).trans e1⟩
  .mg_lt
   .subst hj;rw[hi] at e1;cases e1;rw[wD hiσ] at e2
    cases e2
    exact⟨u,r,.inl ⟨hk,by simp⟩⟩
   .rw[wj (vk hj)] at e2;obtain⟨u',r',q⟩:=hl j y v' e1 e2 e3;refine⟨u',r',?_⟩
    rcases q with ⟨k,e⟩ | ⟨k,c,e,z⟩
    .refine .inl ⟨k,?_⟩;have:y≠x:=λe=>hj (z7d hN e1 (e ▸ hi));simp[this,e]
    .exact .inr ⟨k,c,e,z.sameBut hs (cne y c e)⟩
  .obtain⟨w',z⟩:=I.cell y c e;exact⟨w',z.sameBut hs (cne y c e)⟩
  .obtain⟨e,n,ne,nf,d⟩:=I.pin p hp;exact⟨(hs.2 p.1 ne).trans e,n,ne,nf,d⟩
 .have hfn:X.fn x=true:=by
   rcases hf with z | z
   .exact z
   .rw[z] at hk;cases hk
  obtain⟨c,hc⟩:=I.ok.has x (.inl hk);obtain⟨w',z⟩:=I.cell x c hc;refine wpAny_storeName_cell I.ok.kind hk hc z (λh' hc' hs =>?_);obtain⟨oc,hoc,hocd⟩:=id z;refine h { s with heap:=h' } ⟨I.ok,I.os,I.bare,⟨λb o e n hb hx =>?_,λb o e n hb hx =>?_,I.base.free,λb o e hx =>?_,I.base.tups,I.base.frzs,I.base.tbls⟩,⟨m,hn.sameBut hs (vk (cne x c hc)),λj y v' e1 e2 e3 =>?_⟩,λy c' e =>?_,I.free,I.freeC,λp hp =>?_,tracked ⟨oc,hoc,I.freeC x c hc⟩ hs,by simpa using I.len⟩ ⟨c,hs,.inr hc⟩
  .exact(hs.2 b (wT (wK (wE e) (I.ok.cab x c hfn hc)))).trans (I.base.keep b o e n hb hx)
  .obtain⟨sl,e1⟩:=I.base.slot b o e n hb hx;exact⟨sl,(hs.2 b (wT (wK (wE e) (I.ok.cab x c hfn hc)))).trans e1⟩
  .kd_in;exact⟨o',(hs.2 b (wT (wK (wE e) (I.ok.cab x c hfn hc)))).trans e1⟩
  .mg_lt
   .subst hj;rw[hi] at e1;cases e1;rw[wD hiσ] at e2
    cases e2
    exact⟨u,r,.inr ⟨.inl hk,c,hc,hc'⟩⟩
   .rw[wj (vk hj)] at e2;obtain⟨u',r',q⟩:=hl j y v' e1 e2 e3;refine⟨u',r',?_⟩
    rcases q with q | ⟨k,c',e,z'⟩
    .exact .inl q
    .refine .inr ⟨k,c',e,z'.sameBut hs ?_⟩;rintro rfl;exact hj (z7d hN e1 (I.ok.inj _ _ _ e hc ▸ hi))
  .by_cases hcc:c'=c
   .subst hcc;exact⟨_,hc'⟩
   .obtain⟨w2,z2⟩:=I.cell y c' e;exact⟨w2,z2.sameBut hs hcc⟩
  .obtain⟨e,n,ne,nf,d⟩:=I.pin p hp;refine⟨(hs.2 p.1 ?_).trans e,n,ne,nf,d⟩;intro q;rw[q,hoc] at e;have q':oc=p.2:=vm e;exact d w' (by rw[<- q'];exact hocd)
def z4a {M:Model}{A:Around}{E:WvP}{i:Nat}{x:Str}{v:V}{u:Value}{Q:Unit->Shared->Prop}(I:Inv X pins σ H s)(hN:X.N.Nodup)(hi:X.N[i]? = some x)(hx:Loc X.env.scope x)(r:RelV v u)
  (h:∀s',Inv X pins (σ.set i (some v)) H s'->Q () s') (hf:X.fn x=true\/X.env.scope.names.lookup x=some .local:=by first | exact .inl rfl | exact .inr rfl | assumption):wpAny M A (storeName X.env x u) Q E s:=
 zaS I hN hi hx r (λs' I' _=>h s' I') hf
def Inv.call' {s':Shared}{ch:List Addr}(I:Inv X pins σ H s)(ho:s'.os=s.os)(u:Un (frs X.stack) ch H H' s.heap s'.heap)(hok:HOk X.prog X.w H' s'.heap)(hg:AllBare s'.gens)
  (hch:∀b∈ch,(b∈X.ex\/X.s₀.heap.objs.size<=b)/\b≠X.env.locals/\(∀x c,X.env.cells.lookup x=some c->c≠b)/\∀p∈X.pn++pins,p.1≠b):Inv X pins σ H' s':=by
 obtain⟨h',g',d',t',o'⟩:=s';have e:o'=s.os:=ho;subst e;exact I.call (g':=g') (t':=t') (d':=d') u hok hg hch
end
abbrev XK:=Value->Option Addr->Hp->Prop
abbrev St:=List (Option V)
abbrev VK:=V->Hp->Prop
abbrev TE:=St->Hp->VK->Prop
abbrev TT:=St->Hp->(Bool->Hp->Prop)->Prop
abbrev TA:=St->Hp->(List V->Hp->Prop)->Prop
structure Ends where
 nx:St->Hp->Prop
 rt:VK
 bk:St->Hp->Prop:=λ_ _=>False
 ct:St->Hp->Prop:=λ_ _=>False
abbrev TS:=Ends->St->Hp->Prop
def EP (X:Cx)(pins:List (Addr × Obj))(σ:St)(Q:VK)(u:Value)(s':Shared):Prop:=∃v H',Inv X pins σ H' s'/\RelV v u/\Q v H'
def TP (X:Cx)(pins:List (Addr × Obj))(σ:St)(Q:Bool->Hp->Prop)(b:Bool)(s':Shared):Prop:=∃H',Inv X pins σ H' s'/\Q b H'
def AP (X:Cx)(pins:List (Addr × Obj))(σ:St)(Q:List V->Hp->Prop)(us:List Value)(s':Shared):Prop:=∃vs H',Inv X pins σ H' s'/\Vals vs us/\Q vs H'
def SP (X:Cx)(pins:List (Addr × Obj))(D:Ends)(f:Flow)(s':Shared):Prop:=
 match f with
 | .next=>∃σ' H',Inv X pins σ' H' s'/\D.nx σ' H'
 | .brk=>∃σ' H',Inv X pins σ' H' s'/\D.bk σ' H'
 | .cont=>∃σ' H',Inv X pins σ' H' s'/\D.ct σ' H'
 | .ret u=>∃v σ' H',Inv X pins σ' H' s'/\RelV v u/\D.rt v H'
def PE (X:Cx)(e:Expr)(t:TE):Prop:=
 ∀(pins:List (Addr × Obj)) (s:Shared) (σ:St) (H:Hp) (Q:VK),Inv X pins σ H s->t σ H Q->wpAny (model X.prog X.w) X.A (eval e X.env) (EP X pins σ Q) X.xe s
def PT (X:Cx)(e:Expr)(t:TT):Prop:=
 ∀(pins:List (Addr × Obj)) (s:Shared) (σ:St) (H:Hp) (Q:Bool->Hp->Prop),Inv X pins σ H s->t σ H Q->wpAny (model X.prog X.w) X.A (isTrue e X.env (eval e X.env)) (TP X pins σ Q) X.xe s
def PW (X:Cx)(e:Expr)(t:TT):Prop:=
 ∀(whole:Sem Value) (pins:List (Addr × Obj)) (s:Shared) (σ:St) (H:Hp) (Q:Bool->Hp->Prop),Inv X pins σ H s->t σ H Q->wpAny (model X.prog X.w) X.A (isTrue e X.env whole) (TP X pins σ Q) X.xe s
def PW.pt {X:Cx}{e:Expr}{t:TT}(h:PW X e t):PT X e t:=h _
def PA (X:Cx)(es:List Expr)(t:TA):Prop:=
 ∀(pos:Pos) (pins:List (Addr × Obj)) (s:Shared) (σ:St) (H:Hp) (Q:List V->Hp->Prop),Inv X pins σ H s->t σ H Q->wpAny (model X.prog X.w) X.A (spliced (backTo pos (starEach es X.env))) (AP X pins σ Q) X.xe s
def PS (X:Cx)(st:Stmt)(t:TS):Prop:=
 ∀(pins:List (Addr × Obj)) (s:Shared) (σ:St) (H:Hp) (D:Ends),Inv X pins σ H s->t D σ H->wpAny (model X.prog X.w) X.A (exec st X.env) (SP X pins D) X.xe s
def PSs (X:Cx)(st:List Stmt)(t:TS):Prop:=
 ∀(pins:List (Addr × Obj)) (s:Shared) (σ:St) (H:Hp) (D:Ends),Inv X pins σ H s->t D σ H->wpAny (model X.prog X.w) X.A (execs st X.env) (SP X pins D) X.xe s
def thn {α:Type}{t:Sem α}{Q Q':α->Shared->Prop}{M:Model}{A:Around}{E:WvP}{s:Shared}(h:wpAny M A t Q E s)(hQ:∀a s,Q a s->Q' a s):wpAny M A t Q' E s:=va h hQ λ_ _ x=>x
section
variable {X:Cx}
def tVar (i:Nat):TE:=λσ H Q=>∃v,σ[i]? = some (some v)/\Q v H
def tC (v:V):TE:=λ_ H Q=>Q v H
def zbD {i:Nat}{x:Str}{pos:Pos}(hN:X.N[i]? = some x)(hv:Vis X.env.scope x)(hd:(x == ("__debug__":Str))=false:=by decide)(hcd:(x == ("__classdict__":Str))=false:=by decide):PE X (.Name x pos) (tVar i):=by
 z_go;obtain⟨v,e,h⟩:=h;obtain⟨m,hn,hl⟩:=I.loc;obtain⟨u,r,l⟩:=hl i x v hN e hv;have fin:EP X pins σ Q u s:=⟨v,H,I,r,h⟩
 rcases l with ⟨hk,hm⟩ | ⟨hk,c,hc,hcell⟩
 .exact wpAny_Name (wpAny_loadName_local I.ok.kind hk hn hm fin) hd
 .rcases hk with hk | hk
  .exact wpAny_Name (wpAny_loadName_cell I.ok.kind hk hc hcell fin) hd
  .exact wpAny_Name (wpAny_loadName_free I.ok.kind hk hc hcell fin hcd) hd
def z9y {i j pos}:PE X (.Constant (.int i) j pos) (tC (.int i)):=λ_ _ _ H _ I h=>wpAny_Constant_int ⟨.int i,H,I.tok _,⟨_,rfl⟩,h⟩
def zjT {b j pos}:PE X (.Constant (.bool b) j pos) (tC (.bl b)):=λ_ _ _ H _ I h=>Constant_bool ⟨.bl b,H,I,rfl,h⟩
def zhR {j pos}:PE X (.Constant .none j pos) (tC .non):=λ_ _ _ H _ I h=>Constant_none ⟨.non,H,I,rfl,h⟩
def zet {x j pos}:PE X (.Constant (.str x) j pos) (tC (.str x)):=λ_ _ _ H _ I h=>Calls.Constant_str ⟨.str x,H,I.tok _,⟨_,rfl⟩,h⟩
def Gl (X:Cx)(x:Str):Prop:=X.env.kindOf x=some .globalImplicit
def z31 {E:WvP}{pins:List (Addr × Obj)}{s:Shared}{σ:St}{H:Hp}{x:Str}{u:Value}{pos:Pos}{Q:WvP}(I:Inv X pins σ H s)(hg:Gl X x)(hm:X.mg x=some u)(h:Q u s)
  (hd:(x == ("__debug__":Str))=false:=by decide):wpAny (model X.prog X.w) X.A (eval (.Name x pos) X.env) Q E s:=
 Calls.Name_function_global I.ok.kind hg (Calls.loadGlobal_global (by rw[I.ok.glob];exact I.mod.glob.keeps I.bk) hm h) hd
def z8a {E:WvP}{pins:List (Addr × Obj)}{s:Shared}{σ:St}{H:Hp}{x:Str}{u:Value}{pos:Pos}{Q:WvP}(I:Inv X pins σ H s)(hg:Gl X x)(hm:X.mg x=none)(hv:bootBuiltins x=some u)(h:Q u s)
  (hn:x≠"__name__":=by decide) (hd:(x == ("__debug__":Str))=false:=by decide):wpAny (model X.prog X.w) X.A (eval (.Name x pos) X.env) Q E s:=by
 obtain⟨mb,h1,h2⟩:=I.mod.blt;exact Calls.Name_function_global I.ok.kind hg (Calls.loadGlobal_builtin (by rw[I.ok.glob];exact I.mod.glob.keeps I.bk) hm (by rw[I.ok.blt];exact h1.keeps I.bk) ((h2 x hn).trans hv) h) hd
def z8M {x:Str}{v:V}{u:Value}{pos:Pos}(hg:Gl X x)(hm:X.mg x=some u)(r:RelV v u)(hd:(x == ("__debug__":Str))=false:=by decide):PE X (.Name x pos) (tC v):=
 λ_ _ _ H _ I h=>z31 I hg hm ⟨v,H,I,r,h⟩ hd
def zfV {x:Str}{v:V}{u:Value}{pos:Pos}(hg:Gl X x)(hm:X.mg x=none)(hv:bootBuiltins x=some u)(r:RelV v u)(hn:x≠"__name__":=by decide)(hd:(x == ("__debug__":Str))=false:=by decide):PE X (.Name x pos) (tC v):=
 λ_ _ _ H _ I h=>z8a I hg hm hv ⟨v,H,I,r,h⟩ hn hd
variable {a b:Expr}{ta tb:TE}{pos:Pos}
def PC (X:Cx)(op:CmpOp)(a b:Expr)(t:TE):Prop:=
 ∀(pins:List (Addr × Obj)) (s:Shared) (σ:St) (H:Hp) (Q:VK),Inv X pins σ H s->t σ H Q->
  wpAny (model X.prog X.w) X.A (eval a X.env) (λv s₁=>wpAny (model X.prog X.w) X.A (eval b X.env) (λu s₂=>wpAny (model X.prog X.w) X.A (compareOp op v u) (EP X pins σ Q) X.xe s₂) X.xe s₁) X.xe s
def zdC (b:Expr){op:CmpOp}(h:op ≠ .In)(h2:op ≠ .NotIn):behindInMarks op b=false:=by
 have e1:(op == CmpOp.In)=false:=by cases op <;> first | rfl | exact absurd rfl h
 have e2:(op == CmpOp.NotIn)=false:=by cases op <;> first | rfl | exact absurd rfl h2
 cases b <;> simp[behindInMarks,e1,e2]
def tB (t:TE):TT:=λσ H Q=>t σ H λx H1=>∃c,x = .bl c/\Q c H1
def zhI {op:CmpOp}{t:TE}(h:PC X op a b t)(h1:behindInMarks op b=false:=by first | exact zdC _ (by decide) (by decide) | rfl):PT X (.Compare a [op] [b] pos) (tB t):=by
 intro pins s σ H Q I hw;refine wpAny_isTrue_Compare1 (thn (h pins s σ H _ I hw) λv s1 h1=>thn h1 λu s2 h2=>thn h2 λc s3 z9 =>?_) h1;z_run;obtain⟨d,rfl,q⟩:=q1
 cases r1
 exact vX ⟨H1,I1,q⟩
def zhG {e:Expr}{t:TE}(h:PE X e t)(he:∀whole,isTrue e X.env whole=(do let v <- whole;standAt e.pos;holding [v] (truthy v)):=by intro _;rfl):PT X e (tB t):=by
 intro pins s σ H Q I hw;refine isTrue_plain (thn (h pins s σ H _ I hw) λv s1 z9 =>?_) (he _);z_run;obtain⟨d,rfl,q⟩:=q1
 cases r1
 exact vX ⟨H1,I1,q⟩
variable {tA tB':TT}{rest:List Expr}
def tAnd (t u:TT):TT:=λσ H Q=>t σ H λc H1=>if c=true then u σ H1 Q else Q false H1
def tOr (t u:TT):TT:=λσ H Q=>t σ H λc H1=>if c=true then Q true H1 else u σ H1 Q
def tNot (t:TT):TT:=λσ H Q=>t σ H λc H1=>Q (!c) H1
def zfG (ha:PT X a tA):PW X (.BoolOp .And [a] pos) tA:=by
 intro wh pins s σ H Q I h;refine isTrue_and (thn (ha pins s σ H Q I h) λc s1 e =>?_)
 cases c with
 | true=>exact isTrue_and_nil e
 | false=>exact e
def zhE (ha:PT X a tA):PW X (.BoolOp .Or [a] pos) tA:=by
 intro wh pins s σ H Q I h;refine isTrue_or (thn (ha pins s σ H Q I h) λc s1 e =>?_)
 cases c with
 | false=>exact isTrue_or_nil e
 | true=>exact e
def zhF (ha:PT X a tA)(hb:PW X (.BoolOp .And (b::rest) pos) tB'):PW X (.BoolOp .And (a::b::rest) pos) (tAnd tA tB'):=by
 intro wh pins s σ H Q I h;refine isTrue_and (thn (ha pins s σ H _ I h) λc s1 z9 =>?_);obtain⟨H1,I1,q1⟩:=z9
 cases c with
 | true=>exact hb wh pins s1 σ H1 Q I1 q1
 | false=>exact⟨H1,I1,q1⟩
def zjM (ha:PT X a tA)(hb:PW X (.BoolOp .Or (b::rest) pos) tB'):PW X (.BoolOp .Or (a::b::rest) pos) (tOr tA tB'):=by
 intro wh pins s σ H Q I h;refine isTrue_or (thn (ha pins s σ H _ I h) λc s1 z9 =>?_);obtain⟨H1,I1,q1⟩:=z9
 cases c with
 | true=>exact⟨H1,I1,q1⟩
 | false=>exact hb wh pins s1 σ H1 Q I1 q1
def zhH (ha:PT X a tA):PT X (.UnaryOp .Not a pos) (tNot tA):=by
 z_go;exact isTrue_not (ha pins s σ H (λc H1=>Q (!c) H1) I h)
def zgL (ta tb:TE):TE:=λσ H Q=>ta σ H λx H1=>∃c,x = .bl c/\if c=true then tb σ H1 Q else Q (.bl false) H1
def zhQ {op}{t:TE}(h:PE X a t):PE X (.BoolOp op [a] pos) t:=λpins s σ H Q I hw=>BoolOp_one (h pins s σ H Q I hw)
def zhX (ha:PE X a ta)(hb:PE X (.BoolOp .And (b::rest) pos) tb):PE X (.BoolOp .And (a::b::rest) pos) (zgL ta tb):=by
 z_go;refine BoolOp_and (thn (ha pins s σ H _ I h) λv s1 z9 =>?_);z_run;obtain⟨c,rfl,q1⟩:=q1
 cases r1
 refine vX ?_
 cases c with
 | true=>exact hb pins s1 σ H1 Q I1 q1
 | false=>exact⟨.bl false,H1,I1,rfl,q1⟩
end
def SqL (K:W.Frag)(H:Hp)(a:Addr)(xs:List V):Prop:=
 Rd H a (.lst xs)\/
  ∃(o:Obj) (its:Array Value) (n:Nat),K.lookup a=some o/\o.cls = .type "list"/\o.dict=none/\o.data = .seq its n/\its.size<=sizeLine/\Vals xs its.toList
def SqT (K:W.Frag)(H:Hp)(a:Addr)(xs:List V):Prop:=
 Rd H a (.tup xs)\/
  ∃(o:Obj) (its:Array Value) (n:Nat),K.lookup a=some o/\o.cls = .type "tuple"/\o.data = .seq its n/\its.size<=sizeLine/\Vals xs its.toList/\o.dict=none
def absV:Value->Option V
 | .none=>some .non
 | .bool b=>some (.bl b)
 | .int i _=>some (.int i)
 | .str x _=>some (.str x)
 | .bytes b _=>some (.byt b)
 | .float b _=>some (.flt b)
 | .ref a=>some (.ref a)
 | .type n=>some (.ty n)
 | _=>none
def RelV.abs {x:V}{u:Value}(r:RelV x u):absV u=some x:=by
 cases x with
 | non=>cases r;rfl
 | bl _=>cases r;rfl
 | int _=>obtain⟨t,rfl⟩:=r;rfl
 | str _=>obtain⟨t,rfl⟩:=r;rfl
 | byt _=>obtain⟨t,rfl⟩:=r;rfl
 | flt _=>obtain⟨t,rfl⟩:=r;rfl
 | ref _=>cases r;rfl
 | ty _=>cases r;rfl
def RelV.inj {x y:V}{u:Value}(r:RelV x u)(q:RelV y u):x=y:=vm (r.abs.symm.trans q.abs)
theorem Vals.inj:∀{xs ys:List V}{us:List Value},Vals xs us->Vals ys us->xs=ys
 | _,_,_,.nil,.nil=>rfl
 | _,_,_,.cons r t,.cons r' t'=>by rw[r.inj r',Vals.inj t t']
section
variable {X:Cx}{pins:List (Addr × Obj)}{σ:St}{H:Hp}{s:Shared}{a:Addr}{xs ys:List V}
def SqL.of {K:W.Frag}(h:H a=some (.lst xs)):SqL K H a xs :=.inl (.inl h)
def SqT.of {K:W.Frag}(h:H a=some (.tup xs)):SqT K H a xs :=.inl (.inl h)
def Inv.list (I:Inv X pins σ H s)(h:SqL X.K H a xs):∃its:List Value,Vals xs its/\PlainL s.heap a its.toArray/\xs.length<=sizeLine:=by
 rcases h with h | ⟨o,its,n,hk,hc,hd,hs,hz,r⟩
 .obtain⟨z,its,n,r,e⟩:=h.ok I.hok;exact⟨its,r,⟨_,n,e,rfl,rfl,rfl⟩,z⟩
 .refine⟨its.toList,r,⟨o,n,I.kIn a o hk,hc,hd,by simpa using hs⟩,?_⟩;have e:=r.length;simp only[vZ] at e;lia
def Inv.tuple (I:Inv X pins σ H s)(h:SqT X.K H a xs):∃its:List Value,Vals xs its/\IsTup s.heap a its.toArray/\xs.length<=sizeLine:=by
 rcases h with h | ⟨o,its,n,hk,hc,hs,hz,r,_⟩
 .obtain⟨z,its,r,p,_⟩:=h.ok I.hok;exact⟨its,r,p,z⟩
 .refine⟨its.toList,r,⟨o,I.kIn a o hk,hc,n,by simpa using hs⟩,?_⟩;have e:=r.length;simp only[vZ] at e;lia
def Inv.list_inj (I:Inv X pins σ H s)(h:SqL X.K H a xs)(h':SqL X.K H a ys):xs=ys:=by
 obtain⟨its,r,⟨o,n,e,_,_,d⟩,_⟩:=I.list h;obtain⟨its',r',⟨o',n',e',_,_,d'⟩,_⟩:=I.list h';rw[e] at e';cases e';rw[d] at d'
 injection d' with d1 _
 have:its=its':=by simpa using congrArg Array.toList d1
 subst this;exact r.inj r'
def Inv.tuple_inj (I:Inv X pins σ H s)(h:SqT X.K H a xs)(h':SqT X.K H a ys):xs=ys:=by
 obtain⟨its,r,⟨o,e,_,n,d⟩,_⟩:=I.tuple h;obtain⟨its',r',⟨o',e',_,n',d'⟩,_⟩:=I.tuple h';rw[e] at e';cases e';rw[d] at d'
 injection d' with d1 _
 have:its=its':=by simpa using congrArg Array.toList d1
 subst this;exact r.inj r'
end
abbrev Cx.wish (X:Cx)(E:WvP):Cx:={ X with xe:=E }
abbrev Cx.nox (X:Cx):Cx:=X.wish λ_ _=>False
theorem Cx.Ok.wish {X:Cx}(ok:X.Ok)(E:WvP):(X.wish E).Ok:=
 ⟨ok.mod,ok.kind,ok.glob,ok.blt,ok.above,ok.inj,ok.has,ok.cab,ok.hd,ok.frames,ok.stk,ok.exf,ok.bs,ok.bsz,ok.noex,ok.exfs,ok.funs,ok.frf,ok.tbs⟩
def Cx.Ok.unwish {X:Cx}{E:WvP}(ok:(X.wish E).Ok):X.Ok:=
 ⟨ok.mod,ok.kind,ok.glob,ok.blt,ok.above,ok.inj,ok.has,ok.cab,ok.hd,ok.frames,ok.stk,ok.exf,ok.bs,ok.bsz,ok.noex,ok.exfs,ok.funs,ok.frf,ok.tbs⟩
section
variable {X:Cx}{pins:List (Addr × Obj)}{σ:St}{H:Hp}{s:Shared}{E:WvP}
theorem Inv.wish (I:Inv X pins σ H s)(E:WvP):Inv (X.wish E) pins σ H s:=⟨I.ok.wish E,I.os,I.bare,I.base,I.loc,I.cell,I.free,I.freeC,I.pin,I.hok,I.len⟩
theorem Inv.unwish (I:Inv (X.wish E) pins σ H s):Inv X pins σ H s:=⟨I.ok.unwish,I.os,I.bare,I.base,I.loc,I.cell,I.free,I.freeC,I.pin,I.hok,I.len⟩
theorem SP.unwish {D:Ends}{f:Flow}{s':Shared}(h:SP (X.wish E) pins D f s'):SP X pins D f s':=by
 cases f with
 | next=>obtain⟨σ',H',I,q⟩:=h;exact⟨σ',H',I.unwish,q⟩
 | brk=>obtain⟨σ',H',I,q⟩:=h;exact⟨σ',H',I.unwish,q⟩
 | cont=>obtain⟨σ',H',I,q⟩:=h;exact⟨σ',H',I.unwish,q⟩
 | ret u=>obtain⟨v,σ',H',I,r,q⟩:=h;exact⟨v,σ',H',I.unwish,r,q⟩
theorem PSs.nox {st:List Stmt}{t:TS}(h:PSs X.nox st t):PSs X st t:=λpins s σ H D I hw=>
 va (h pins s σ H D (I.wish _) hw) (λ_ _ q=>q.unwish) λ_ _ z=>False.elim z
end
section
variable {X:Cx}{st:Stmt}{rest:List Stmt}{t u:TS}{e:Expr}{te:TE}{pos:Pos}
def zgD:TS:=λD σ H=>D.nx σ H
def tSeq (t u:TS):TS:=λD σ H=>t { D with nx:=u D } σ H
def zfJ:PSs X [] zgD:=λ_ _ σ H _ I h=>uA ⟨σ,H,I,h⟩
def z4q (h1:PS X st t)(h2:PSs X rest u):PSs X (st::rest) (tSeq t u):=by
 k_not;refine wpAny_execs_cons (thn (h1 pins s σ H { D with nx:=u D } I h) λf s1 q =>?_)
 cases f with
 | next=>
  obtain⟨σ',H',I',q⟩:=q;exact h2 pins s1 σ' H' D I' q
 | ret v=>exact q
 | brk=>exact q
 | cont=>exact q
def zbx (h1:PS X st t):PSs X [st] t:=by
 k_not;refine wpAny_execs_cons (thn (h1 pins s σ H D I h) λf s1 q =>?_)
 cases f with
 | next=>exact uA q
 | ret v=>exact q
 | brk=>exact q
 | cont=>exact q
def Inv.quiet {pins:List (Addr × Obj)}{σ:St}{H:Hp}{s:Shared}(I:Inv X pins σ H s):interactive X.env=false:=by simp[interactive,I.ok.kind]
def zgF (te:TE):TS:=λD σ H=>te σ H λ_ H1=>D.nx σ H1
def zfK (he:PE X e te)(hs:swapsWith e none pos.line X.env=pure false:=by rfl):PS X (.Expr e pos) (zgF te):=by
 k_not;exact wpAny_Expr_any (thn (he pins s σ H _ I h) λv s1 ⟨x,H1,I1,r1,q1⟩=>⟨σ,H1,I1,q1⟩) I.quiet hs
def tRet (te:TE):TS:=λD σ H=>te σ H D.rt
def zhJ (he:PE X e te):PS X (.Return (some e) pos) (tRet te):=by
 k_not;exact wpAny_Return_some (thn (he pins s σ H _ I h) λv s1 ⟨x,H1,I1,r1,q1⟩=>⟨x,σ,H1,I1,r1,q1⟩)
def tIfS (c:TT)(t u:TS):TS:=λD σ H=>c σ H λb H1=>if b=true then t D σ H1 else u D σ H1
def zjN {c:Expr}{a b:List Stmt}{tc:TT}(hc:PT X c tc)(ha:PSs X a t)(hb:PSs X b u):PS X (.If c a b pos) (tIfS tc t u):=by
 k_not;refine wpAny_If (thn (hc pins s σ H _ I h) λd s1 z9 =>?_);obtain⟨H1,I1,q1⟩:=z9
 cases d with
 | true=>exact ha pins s1 σ H1 D I1 q1
 | false=>exact hb pins s1 σ H1 D I1 q1
def zdZ:TS:=λ_ _ _=>False
def zde:PS X st zdZ:=λ_ _ _ _ _ _ h=>h.elim
end
abbrev TG:=V->St->Hp->(St->Hp->Prop)->Prop
abbrev TGs:=List V->St->Hp->(St->Hp->Prop)->Prop
def PG (X:Cx)(target:Expr)(t:TG):Prop:=
 ∀(pins:List (Addr × Obj)) (s:Shared) (σ:St) (H:Hp) (v:V) (u:Value) (Q:St->Hp->Prop),Inv X pins σ H s->RelV v u->t v σ H Q->
  wpAny (model X.prog X.w) X.A (assign target X.env u) (λ_ s'=>∃σ' H',Inv X pins σ' H' s'/\Q σ' H') X.xe s
def PGs (X:Cx)(ts:List Expr)(t:TGs):Prop:=
 ∀(pins:List (Addr × Obj)) (s:Shared) (σ:St) (H:Hp) (vs:List V) (us:List Value) (Q:St->Hp->Prop),Inv X pins σ H s->Vals vs us->t vs σ H Q->
  wpAny (model X.prog X.w) X.A (assignInOrder ((assignEach ts X.env).map (·.2)) us) (λ_ s'=>∃σ' H',Inv X pins σ' H' s'/\Q σ' H') X.xe s
abbrev TSet:=V->V->V->Hp->(Hp->Prop)->Prop
def PSet (X:Cx)(t:TSet):Prop:=
 ∀(pins:List (Addr × Obj)) (s:Shared) (σ:St) (H:Hp) (o i v:V) (ov iv u:Value) (Q:Hp->Prop),Inv X pins σ H s->RelV o ov->RelV i iv->RelV v u->t o i v H Q->
  wpAny (model X.prog X.w) X.A (setItem ov iv u) (λ_ s'=>∃H',Inv X pins σ H' s'/\Q H') X.xe s
section
variable {X:Cx}{pos:Pos}
def z2y (i:Nat):TG:=λv σ H Q=>Q (σ.set i (some v)) H
def zbC {i:Nat}{x:Str}(hN:X.N.Nodup)(hi:X.N[i]? = some x)(hx:Loc X.env.scope x)(hf:X.fn x=true\/X.env.scope.names.lookup x=some .local:=by first | exact .inl rfl | exact .inr rfl | assumption):PG X (.Name x pos) (z2y i):=by
 intro pins s σ H v u Q I r h;exact wpAny_assign_Name (z4a I hN hi hx r (λs' I'=>⟨_,H,I',h⟩) hf)
def gNil:TGs:=λvs σ H Q=>vs=[]/\Q σ H
def zdO (t:TG)(u:TGs):TGs:=λvs σ H Q=>∃v r,vs=v::r/\t v σ H λσ' H'=>u r σ' H' Q
def zfP:PGs X [] gNil:=by
 intro pins s σ H vs us Q I r h;obtain⟨e,h⟩:=h;subst e
 cases r
 exact assignInOrder_nil ⟨σ,H,I,h⟩
def zdg {e:Expr}{es:List Expr}{t:TG}{u:TGs}(h1:PG X e t)(h2:PGs X es u)
  (hs:(assignEach (e::es) X.env).map (·.2)=assign e X.env::(assignEach es X.env).map (·.2):=by rfl):PGs X (e::es) (zdO t u):=by
 intro pins s σ H vs us Q I r h;obtain⟨v,vr,e1,h⟩:=h;subst e1
 cases r with
 | cons r rr=>
  rw[hs];refine assignInOrder_cons (thn (h1 pins s σ H _ _ _ I r h) λ_ s1 z9 =>?_);obtain⟨σ1,H1,I1,q1⟩:=z9;exact h2 pins s1 σ1 H1 _ _ Q I1 rr q1
def gTup (K:W.Frag)(n:Nat)(t:TGs):TG:=λv σ H Q=>∃a xs,v = .ref a/\SqT K H a xs/\xs.length=n/\t xs σ H Q
def zhO {es:List Expr}{k:Nat}{t:TGs}{n:Nat}(hc:X.calm=true)(h:PGs X es t)
  (hn:(assignEach es X.env).length=n:=by rfl) (hst:(assignEach es X.env).findIdx? (·.1)=none:=by rfl):PG X (.Tuple es k pos) (gTup X.K n t):=by
 intro pins s σ H v u Q I r hw;obtain⟨a,xs,e1,hq,hl,hw⟩:=hw;subst e1
 cases r
 obtain⟨its,rv,ht,hz⟩:=I.tuple hq;refine assign_Tuple_tuple (I.ok.hd hc) ht (by simp[hn, <- hl,rv.length]) hst λh' hx =>?_;have I1:Inv X pins σ H { s with heap:=h' }:=I.kept (t':=s.toks) λb o e=>hx b o (wT (wE e)) e;exact h pins _ σ H xs _ Q I1 (by simpa using rv) hw
def gSub (to ti:TE)(t:TSet):TG:=λv σ H Q=>to σ H λo H1=>ti σ H1 λi H2=>t o i v H2 λH3=>Q σ H3
def zhP {o i:Expr}{to ti:TE}{t:TSet}(ho:PE X o to)(hi:PE X i ti)(hs:PSet X t)
  (ha:∀v,assign (.Subscript o i pos) X.env v=(do
   let ov <- holding [v] (eval o X.env)
   let iv <- holding [v,ov] (eval i X.env)
   standAt pos
   holding [v,ov,iv] (setItem ov iv v)
   release [v,ov,iv] []):=by intro _;rfl):PG X (.Subscript o i pos) (gSub to ti t):=by
 intro pins s σ H v u Q I r h;rw[ha];refine wa (uo (thn (ho pins s σ H _ I h) λov s1 z9 =>?_));z_run;refine wa (uo (thn (hi pins s1 σ H1 _ I1 q1) λiv s2 z9 =>?_));obtain⟨y,H2,I2,r2,q2⟩:=z9;refine wa (wpAny_standAt (wa (uo (thn (hs pins s2 σ H2 x y v ov iv u _ I2 r1 r2 r q2) λ_ s3 z9 =>?_))));obtain⟨H3,I3,q3⟩:=z9;exact wpAny_release ⟨σ,H3,I3,q3⟩
def tAsg (te:TE)(g:TG):TS:=λD σ H=>te σ H λx H1=>g x σ H1 D.nx
def zhM {tg e:Expr}{te:TE}{g:TG}(he:PE X e te)(hg:PG X tg g)(hs:swapsWithSole [tg] e pos.line X.env=pure false:=by rfl)(hw:swappedStores [tg] e X.env=pure none:=by rfl)
  (h1:(assignEach [tg] X.env).map (·.2)=[assign tg X.env]:=by rfl):PS X (.Assign [tg] e pos) (tAsg te g):=by
 k_not;refine wpAny_Assign_stores (thn (he pins s σ H _ I h) λv s1 z9 =>?_) hs hw;z_run;rw[h1];exact thn (hg pins s1 σ H1 x v _ I1 r1 q1) λ_ s2 q=>q
def zeq {i:Nat}{x:Str}{e:Expr}{te:TE}{pos':Pos}(hN:X.N.Nodup)(hi:X.N[i]? = some x)(hx:Loc X.env.scope x)(he:PE X e te)(hs:swapsWith e (some (.Name x pos')) pos.line X.env=pure false:=by rfl)(hf:X.fn x=true\/X.env.scope.names.lookup x=some .local:=by first | exact .inl rfl | exact .inr rfl | assumption):
  PS X (.Assign [.Name x pos'] e pos) (tAsg te (z2y i)):=by
 k_not;refine wpAny_Assign_Name (thn (he pins s σ H _ I h) λv s1 z9 =>?_) hs;obtain⟨y,H1,I1,r1,q1⟩:=z9;exact z4a I1 hN hi hx r1 (λs2 I2=>⟨_,H1,I2,q1⟩) hf
def tPar (i j:Nat)(ta:TA):TS:=λD σ H=>ta σ H λvs H1=>∃v w,vs=[v,w]/\D.nx ((σ.set i (some v)).set j (some w)) H1
def zhK {i j:Nat}{x y:Str}{a b:Expr}{ta:TA}{px py pt:Pos}{kt k2 pt2}(hc:X.calm=true)(hN:X.N.Nodup)(hi:X.N[i]? = some x)(hj:X.N[j]? = some y)(hij:i≠j)
  (hx:X.env.scope.names.lookup x=some .local) (hy:X.env.scope.names.lookup y=some .local) (ha:PA X [a,b] ta)
  (hw:swappedStores [.Tuple [.Name x px,.Name y py] kt pt] (.Tuple [a,b] k2 pt2) X.env=pure (some [x,y]))
  (hs:swapsWithSole [.Tuple [.Name x px,.Name y py] kt pt] (.Tuple [a,b] k2 pt2) pos.line X.env=pure false:=by rfl):
  PS X (.Assign [.Tuple [.Name x px,.Name y py] kt pt] (.Tuple [a,b] k2 pt2) pos) (tPar i j ta):=by
 k_not;rw[exec_Assign_arm];refine wa (wpAny_standAt ?_);rw[hs];refine wa (wv ?_);rw[if_neg (by decide)];refine wa (Tuple_ (thn (ha _ pins s σ H _ I h) λus s1 z9 =>?_));obtain⟨vs,H1,I1,r1,q1⟩:=z9;obtain⟨v,w,e1,q1⟩:=q1;subst e1;obtain⟨u1,u2,rfl,rv,rw'⟩:∃u1 u2,us=[u1,u2]/\RelV v u1/\RelV w u2:=by
  cases r1 with
  | cons p q=>
   cases q with
   | cons p' q'=>
    cases q'
    exact⟨_,_,rfl,p,p'⟩
 refine vn ?_ (by show 2<=sizeLine;decide);have I2:Inv X pins σ H1 { s1 with heap:=s1.heap.push { cls :=.type "tuple",data :=.seq [u1,u2].toArray } }:=I1.kept (t':=s1.toks) λb o e=>wm _ e;rw[hw];refine wa (wv ?_);show wpAny (model X.prog X.w) X.A (do rule "assign.swapped-stores";let items <- unpackItems (.ref s1.heap.objs.size) 2 none;assignInOrder [λv=>bindName X.env y v,λv=>bindName X.env x v] items.reverse;pure Flow.next) _ _ _;refine wa (wpAny_rule (wa (unpackItems_tuple (items := #[u1,u2]) (I.ok.hd hc) (IsTup.new s1.heap _) λh' hx' =>?_)));have I3:=I2.kept (h':=h') (t':=s1.toks) λb o e=>hx' b o (wT (wE e)) e;show wpAny _ _ (assignInOrder [λv=>bindName X.env y v,λv=>bindName X.env x v] [u2,u1] >>= λ_=>pure Flow.next) _ _ _;refine wa (assignInOrder_cons (wpAny_bindName (z4a I3 hN hj (.inl hy) rw' (λs2 I4 =>?_) (.inr hy))));refine assignInOrder_cons (wpAny_bindName (z4a I4 hN hi (.inl hx) rv (λs3 I5=>assignInOrder_nil (wv ?_)) (.inr hx)));rw[List.set_comm _ _ (vk hij)] at I5;exact⟨_,H1,I5,q1⟩
def zdY (c:TT)(tb:TS):TS:=λD σ H=>∃W:Nat->St->Hp->Prop,(∃m,W m σ H)/\∀m σ H,W m σ H->
 c σ H λb H1=>if b=true then ∃N:St->Hp->Prop,(∀σ' H',N σ' H'->∃m',m'<m/\W m' σ' H')/\tb { D with nx:=N,ct:=N,bk:=D.nx } σ H1 else D.nx σ H1
def zdd {c:Expr}{body:List Stmt}{tc:TT}{tb:TS}(hp:PassesOwn (model X.prog X.w) X.A X.env X.xe)(hc:PT X c tc)(hb:PSs X body tb):PS X (.While c body [] pos) (zdY tc tb):=by
 k_not;obtain⟨W,⟨m0,w0⟩,turn⟩:=h;refine wpAny_While (codeAny_whileLoop (λn s'=>∃σ' H',Inv X pins σ' H' s'/\W n σ' H') ?_ m0 ⟨σ,H,I,w0⟩);rintro n s1 ⟨σ1,H1,I1,w1⟩;refine ug hp (thn (hc pins s1 σ1 H1 _ I1 (turn n σ1 H1 w1)) λb s2 z9 =>?_);obtain⟨H2,I2,q2⟩:=z9
 cases b with
 | true=>
  obtain⟨N,hN,q2⟩:=q2;rw[if_pos rfl];refine ug hp (thn (hb pins s2 σ1 H2 _ I2 q2) λf s3 q3 =>?_)
  cases f with
  | next=>
   obtain⟨σ3,H3,I3,n3⟩:=q3;obtain⟨m',hm,w3⟩:=hN σ3 H3 n3;exact⟨m',hm,σ3,H3,I3,w3⟩
  | cont=>
   obtain⟨σ3,H3,I3,n3⟩:=q3;obtain⟨m',hm,w3⟩:=hN σ3 H3 n3;exact⟨m',hm,σ3,H3,I3,w3⟩
  | brk=>exact q3
  | ret v=>exact q3
 | false=>
  rw[if_neg wM];exact uA ⟨σ1,H2,I2,q2⟩
end
structure It where
 go:Nat->Hp->Prop
 yld:Nat->Hp->V->Hp->Prop
 stop:Nat->Hp->Prop
def FpOk (X:Cx)(pins:List (Addr × Obj))(H:Hp)(b:Addr):Prop:=
 H b=none/\b≠X.env.locals/\b ∉ X.fs/\(b∈X.ex\/X.s₀.heap.objs.size<=b)/\(∀x c,X.env.cells.lookup x=some c->c≠b)/\∀p∈X.pn++pins,p.1≠b
def Inv.fpOk {X:Cx}{pins:List (Addr × Obj)}{σ:St}{H H':Hp}{s:Shared}{b:Addr}(I:Inv X pins σ H s)(hb:s.heap.objs.size<=b)(hn:H' b=none):FpOk X pins H' b:=by
 refine⟨hn,Nat.ne_of_gt (wK I.lt hb),I.nofs hb,.inr (wX I.sz hb),λx c e z =>?_,λp hp z =>?_⟩
 .obtain⟨v,q⟩:=I.cell x c e;exact absurd (wK q.lt (by rw[z];exact hb)) (vW _)
 .exact absurd (wK (wE (I.pin p hp).1) (by rw[z];exact hb)) (vW _)
structure Turn (P:Program)(w:World)(K:W.Frag)(tg:Expr)(J:It)(fp:List Addr)(it:Addr)(tn:Nat->Heap->Prop):Prop where
 mem:it∈fp
 obj:∀i h,tn i h->∀b∈fp,∃o,h.get? b=some o/\∀v,o.data ≠ .cell v
 keep:∀i h h',tn i h->(∀b∈fp,∀o,h.get? b=some o->h'.get? b=some o)->tn i h'
 item:∀(X:Cx),X.prog=P->X.w=w->X.K=K->X.calm=true->∀(i:Nat) (pins:List (Addr × Obj)) (s:Shared) (σ:St) (H:Hp) (E:WvP),Inv X pins σ H s->(∀b∈fp,FpOk X pins H b)->tn i s.heap->J.go i H->
  wpAny (model P w) X.A (pyNext (.ref it)) (λr s1=>∃u,r=some u/\
   wpAny (model P w) X.A (letOwnedTupleGo tg (.ref it) u) (λ_ s2=>∃x H',Inv X pins σ H' s2/\RelV x u/\J.yld i H x H'/\tn (i+1) s2.heap/\∀b∈fp,H' b=none) E s1) E s
 done:∀(X:Cx),X.prog=P->X.w=w->X.K=K->X.calm=true->∀(i:Nat) (pins:List (Addr × Obj)) (s:Shared) (σ:St) (H:Hp) (E:WvP),Inv X pins σ H s->(∀b∈fp,FpOk X pins H b)->tn i s.heap->J.stop i H->
  wpAny (model P w) X.A (pyNext (.ref it)) (λr s1=>r=none/\Inv X pins σ H s1) E s
 self:∀(A:Around) (i:Nat) (s:Shared) (Q:WvP) (E:WvP),tn i s.heap->Q (.ref it) s->wpAny (model P w) A (pyIter (.ref it)) Q E s
abbrev TI:=St->Hp->(It->Hp->Prop)->Prop
def PIE (X:Cx)(pins:List (Addr × Obj))(σ:St)(tg:Expr)(R:It->Hp->Prop)(itv:Value)(s2:Shared):Prop:=
 ∃(it:Addr) (fp:List Addr) (tn:Nat->Heap->Prop) (J:It) (H':Hp),itv = .ref it/\Inv X pins σ H' s2/\Turn X.prog X.w X.K tg J fp it tn/\tn 0 s2.heap/\(∀b∈fp,FpOk X pins H' b)/\R J H'
def PI (X:Cx)(tg iter:Expr)(wi:TI):Prop:=
 ∀(pins:List (Addr × Obj)) (s:Shared) (σ:St) (H:Hp) (R:It->Hp->Prop),Inv X pins σ H s->wi σ H R->
  wpAny (model X.prog X.w) X.A (eval iter X.env) (λv s1=>wpAny (model X.prog X.w) X.A (pyIter v) (PIE X pins σ tg R) X.xe s1) X.xe s
def zdK {M:Model}{A:Around}{E:WvP}{s:Shared}{tg:Expr}{it:Addr}{u:Value}{o:Obj}{n:String}{vs:Array Value}{Q:Unit->Shared->Prop}(ho:s.heap.get? it=some o)(hc:o.cls = .type n)(hd:o.data = .fields vs)
  (hn:["enumerate","zip","dict_itemiterator","dict_reverseitemiterator","odict_iterator","itertools.zip_longest","itertools.pairwise"].contains n=false) (hQ:Q () s):wpAny M A (letOwnedTupleGo tg (.ref it) u) Q E s:=by
 unfold letOwnedTupleGo
 cases tg <;> first
  | exact wv hQ
  | (cases u <;> first
    | exact wv hQ
    | (refine wa (wpAny_load ho ?_)
       rw[hc,hd];show wpAny M A (if (["enumerate","zip","dict_itemiterator","dict_reverseitemiterator","odict_iterator","itertools.zip_longest","itertools.pairwise"].contains n && vs[0]? == some (rawInt _))=true then _ else _) Q E s;rw[if_neg (by intro h;rw[hn,Bool.false_and] at h;cases h)];exact wv hQ))
def Itl (K:W.Frag)(a:Addr):It:=
 ⟨λi H=>∃xs x,SqL K H a xs/\xs[i]? = some x,λi H x H'=>H'=H/\∀xs,SqL K H a xs->xs[i]? = some x,λi H=>∃xs,SqL K H a xs/\xs.length<=i⟩
def Itt (K:W.Frag)(a:Addr):It:=
 ⟨λi H=>∃xs x,SqT K H a xs/\xs[i]? = some x,λi H x H'=>H'=H/\∀xs,SqT K H a xs->xs[i]? = some x,λi H=>∃xs,SqT K H a xs/\xs.length<=i⟩
def Itr (lo:Int)(n:Nat):It:=⟨λi _=>i<n,λi H x H'=>H'=H/\x = .int (lo+i),λi _=>n<=i⟩
def zaG {P:Program}{w:World}{K:W.Frag}{tg:Expr}(a it:Addr):Turn P w K tg (Itl K a) [it] it (λi h=>h.IsListIter it a i) where
 mem:=by simp
 obj:=λi h st b hb=>by
  have e:b=it:=by simpa using hb
  subst e;obtain⟨o,e,c,d⟩:=st;exact⟨o,e,λv z=>by rw[d] at z;cases z⟩
 keep:=λi h h' st k=>st.at λo e=>k it (by simp) o e
 item:=by
  k_ne;subst hP hw hK;obtain⟨xs,x,hq,hx⟩:=hg;obtain⟨its,rv,p,hz⟩:=I.list hq;obtain⟨u,hu,ru⟩:=rv.get hx;kd_p1;refine wpAny_pyNext_list_item st p.isList (x:=u) (by simpa using hu) λh' st' sb =>?_;have I1:Inv X pins σ H { s with heap:=h' }:=I.turned (t':=s.toks) (λb o hb e=>(sb.2 b hb).trans e) f0 f1 f3 f4 f5;obtain⟨o,e,c,d⟩:=id st';exact⟨u,rfl,zdK (s:={ s with heap:=h' }) e c d (by decide) ⟨x,H,I1,ru,⟨rfl,λys hy=>by rw[I.list_inj hy hq];exact hx⟩,st',λb hb=>(hf b hb).1⟩⟩
 done:=by
  k_ne;subst hP hw hK;obtain⟨xs,hq,hx⟩:=hg;obtain⟨its,rv,p,hz⟩:=I.list hq;kd_p1;have hl:=rv.length;exact wpAny_pyNext_list_end (I.ok.hd hc) st p.isList (by simp;lia) λh' eb=>⟨rfl,I.turned (t':=s.toks) (λb o hb e=>eb b o hb e) f0 f1 f3 f4 f5⟩
 self:=λ_ _ _ _ _ st h=>wpAny_pyIter_listiter st h
def z9Z {P:Program}{w:World}{K:W.Frag}{tg:Expr}(a it:Addr):Turn P w K tg (Itt K a) [it] it (λi h=>h.IsTupleIter it a i) where
 mem:=by simp
 obj:=λi h st b hb=>by
  have e:b=it:=by simpa using hb
  subst e;obtain⟨o,e,c,d⟩:=st;exact⟨o,e,λv z=>by rw[d] at z;cases z⟩
 keep:=λi h h' st k=>st.at λo e=>k it (by simp) o e
 item:=by
  k_ne;subst hP hw hK;obtain⟨xs,x,hq,hx⟩:=hg;obtain⟨its,rv,p,hz⟩:=I.tuple hq;obtain⟨u,hu,ru⟩:=rv.get hx;kd_p1;refine wpAny_pyNext_tuple_item st (show s.heap.IsTuple a its.toArray from p) (x:=u) (by simpa using hu) λh' st' sb =>?_;have I1:Inv X pins σ H { s with heap:=h' }:=I.turned (t':=s.toks) (λb o hb e=>(sb.2 b hb).trans e) f0 f1 f3 f4 f5;obtain⟨o,e,c,d⟩:=id st';exact⟨u,rfl,zdK (s:={ s with heap:=h' }) e c d (by decide) ⟨x,H,I1,ru,⟨rfl,λys hy=>by rw[I.tuple_inj hy hq];exact hx⟩,st',λb hb=>(hf b hb).1⟩⟩
 done:=by
  k_ne;subst hP hw hK;obtain⟨xs,hq,hx⟩:=hg;obtain⟨its,rv,p,hz⟩:=I.tuple hq;kd_p1;have hl:=rv.length;exact wpAny_pyNext_tuple_end (I.ok.hd hc) st (show s.heap.IsTuple a its.toArray from p) (by simp;lia) λh' eb=>⟨rfl,I.turned (t':=s.toks) (λb o hb e=>eb b o hb e) f0 f1 f3 f4 f5⟩
 self:=λ_ _ _ _ _ st h=>wpAny_pyIter_tupleiter st h
def za0 {P:Program}{w:World}{K:W.Frag}{tg:Expr}(it:Addr)(lo:Int)(n:Nat):Turn P w K tg (Itr lo n) [it] it (λi h=>IsRangeIter h it (lo+(i:Nat)*1) ((n:Int) - (i:Nat)) 1) where
 mem:=by simp
 obj:=λi h st b hb=>by
  have e:b=it:=by simpa using hb
  subst e;exact⟨_,st,λv z=>by
   have z':Data.fields _=Data.cell v:=z
   cases z'⟩
 keep:=λi h h' st k=>k it (by simp) _ st
 item:=by
  k_ne;subst hP hw hK;kd_p1;have W:=Walks.range (prog:=X.prog) (w:=X.w) (I.ok.hd hc) it lo 1 n;refine W.item i s _ _ hg st λv h' tk hv st' kk =>?_;obtain⟨t,rfl⟩:=hv;have I1:Inv X pins σ H { s with heap:=h',toks:=tk }:=I.turned (λb o hb e=>kk b o (by simpa using hb) e) f0 f1 f3 f4 f5;refine⟨_,rfl,zdK (s:={ s with heap:=h',toks:=tk }) (n:="range_iterator") st' rfl rfl (by decide) ⟨.int (lo+i),H,I1,⟨t,?_⟩,⟨rfl,rfl⟩,st',λb hb=>(hf b hb).1⟩⟩;rw[Int.mul_one]
 done:=by
  k_ne;subst hP hw hK;kd_p1;exact wpAny_pyNext_range_end (I.ok.hd hc) st (by have:n<=i:=hg;lia) λh' eb=>⟨rfl,I.turned (t':=s.toks) (λb o hb e=>eb b o hb e) f0 f1 f3 f4 f5⟩
 self:=λ_ _ _ _ _ st h=>wpAny_pyIter_rangeiter st h
section
variable {X:Cx}{tg:Expr}
def zcX {pins:List (Addr × Obj)}{σ:St}{H:Hp}{s:Shared}{R:It->Hp->Prop}{E:WvP}{lo hi:Int}{t u v:Tok}{tk:Nat}(I:Inv X pins σ H s)(h1 : -(2 ^ 62)<=lo)(h2:lo<2 ^ 62)(h3 : -(2 ^ 62)<=hi)(h4:hi<2 ^ 62)
  (q:R (Itr lo (hi - lo).toNat) H):wpAny (model X.prog X.w) X.A (pyIter (.ref s.heap.objs.size)) (PIE X pins σ tg R) E { s with heap:=s.heap.push { cls :=.type "range",data :=.fields #[.int lo t,.int hi u,.int 1 v] },toks:=tk }:=by
 refine wpAny_pyIter_range (IsRange.new ..) (small_one h1 h2 h3 h4) ?_;have I1:Inv X pins σ H { s with heap:=s.heap.push { cls :=.type "range",data :=.fields #[.int lo t,.int hi u,.int 1 v] },toks:=tk }:=I.kept λb o e=>wm _ e;refine⟨(s.heap.push { cls :=.type "range",data :=.fields #[.int lo t,.int hi u,.int 1 v] }).objs.size,[(s.heap.push { cls :=.type "range",data :=.fields #[.int lo t,.int hi u,.int 1 v] }).objs.size],_,_,H,rfl,
  I1.kept (t':=tk) λb o e=>wm _ e,za0 _ lo (hi - lo).toNat,?_,λb hb =>?_,q⟩
 .have e1:lo+((0:Nat):Int)*1=lo:=by simp
  have e2:(((hi - lo).toNat:Nat):Int) - ((0:Nat):Int)=Builtin.Range.rangeSize lo hi 1:=by rw[rangeSize_one];split <;> lia
  show IsRangeIter _ _ (lo+((0:Nat):Int)*1) ((((hi - lo).toNat:Nat):Int) - ((0:Nat):Int)) 1;rw[e1,e2];exact wB _ rfl
 .have e:b=(s.heap.push { cls :=.type "range",data :=.fields #[.int lo t,.int hi u,.int 1 v] }).objs.size:=by simpa using hb
  subst e;exact I1.fpOk (wG _) (I1.hok.fresh (wG _))
def ziN (ta:TA):TI:=λσ H R=>ta σ H λvs H1=>∃j:Int,vs=[.int j] /\ -(2 ^ 62)<=j/\j<2 ^ 62/\R (Itr 0 j.toNat) H1
def zbB {a:Expr}{ta:TA}{p pos:Pos}(hg:Gl X "range")(hm:X.mg "range"=none)(ha:PA X [a] ta)(hs:starEach [a] X.env=[(false,eval a X.env)]:=by rfl):PI X tg (.Call (.Name "range" p) [a] [] pos) (ziN ta):=by
 intro pins s σ H R I h;refine Call_ (z8a I hg hm boot_range (uB (thn (ha pos pins s σ H _ I h) λus s1 z9 =>?_) hs rfl));obtain⟨vs,H1,I1,r1,q1⟩:=z9;obtain⟨j,e,q1,q2,q⟩:=q1;subst e
 cases r1 with
 | cons r rr=>
  cases rr
  obtain⟨t,rfl⟩:=r;exact call_range_1 (zcX I1 (by lia) (by lia) q1 q2 (by simpa using q))
def tFor (wi:TI)(g:TG)(tb:TS):TS:=λD σ H=>wi σ H λJ H1=>∃W:Nat->Nat->St->Hp->Prop,(∃m,W 0 m σ H1)/\∀i m σ H,W i m σ H->
 (J.stop i H/\D.nx σ H)\/(J.go i H/\∃N:St->Hp->Prop,(∀σ' H',N σ' H'->∃m',m'<m/\W (i+1) m' σ' H')/\∀x H',J.yld i H x H'->g x σ H' λσ2 H2=>tb { D with nx:=N,ct:=N,bk:=D.nx } σ2 H2)
def z6z (fp:List Addr)(h:Heap):List (Addr × Obj):=fp.filterMap λb=>(h.get? b).map λo=>(b,o)
def z3E {fp:List Addr}{h:Heap}{b:Addr}{o:Obj}(hb:b∈fp)(e:h.get? b=some o):(b,o)∈z6z fp h:=uP.mpr ⟨b,hb,by rw[e];rfl⟩
def zbN {fp:List Addr}{h:Heap}{p:Addr × Obj}(hp:p∈z6z fp h):p.1∈fp/\h.get? p.1=some p.2:=by
 obtain⟨b,hb,e⟩:=uP.mp hp
 cases q:h.get? b with
 | none=>rw[q] at e;cases e
 | some o=>
  rw[q] at e;have e':(b,o)=p:=vm e;subst e';exact⟨hb,q⟩
def Inv.pinned {pins:List (Addr × Obj)}{σ:St}{H:Hp}{s:Shared}{fp:List Addr}(I:Inv X pins σ H s)(hf:∀b∈fp,FpOk X pins H b)(ho:∀b∈fp,∃o,s.heap.get? b=some o/\∀v,o.data ≠ .cell v):Inv X (pins++z6z fp s.heap) σ H s:=
 I.pins_of λp hp=>(ve.mp hp).elim (λz=>I.pin p (w9 _ z)) λz=>by
  obtain⟨hb,e⟩:=zbN z;obtain⟨f0,f1,f2,_⟩:=hf p.1 hb;obtain⟨o,e',d⟩:=ho p.1 hb;rw[e] at e';cases e';exact⟨e,f0,f1,f2,d⟩
def Inv.unpinned {pins pl:List (Addr × Obj)}{σ:St}{H:Hp}{s:Shared}(I:Inv X (pins++pl) σ H s):Inv X pins σ H s:=I.pins_of λp hp=>I.pin p (w9 _ (ue _ hp))
def zhL {iter:Expr}{body:List Stmt}{wi:TI}{g:TG}{tb:TS}{pos:Pos}(hp:PassesOwn (model X.prog X.w) X.A X.env X.xe)(hc:X.calm=true)(hi:PI X tg iter wi)(hg:PG X tg g)(hb:PSs X body tb)
  (hs:∀x,foldedSetIterable iter X.env x=pure x:=by intro _;rfl):PS X (.For tg iter body [] pos) (tFor wi g tb):=by
 k_not;refine wpAny_For (thn (hi pins s σ H _ I h) λv s1 h1=>thn h1 λitv s2 h2 =>?_) hs;obtain⟨it,fp,tn,J,H2,e,I2,T,st2,f2,W,⟨m0,w0⟩,turn⟩:=h2;subst e;have stat:∀{H':Hp},(∀b∈fp,H' b=none)->∀b∈fp,FpOk X pins H' b:=λhn b hb=>⟨hn b hb,(f2 b hb).2⟩
 refine codeAny_forLoop_any (λn s'=>∃i σ' H',Inv X pins σ' H' s'/\tn i s'.heap/\(∀b∈fp,H' b=none)/\W i n σ' H') ?_ m0 ⟨0,σ,H2,I2,st2,λb hb=>(f2 b hb).1,w0⟩;rintro n s3 ⟨i,σ3,H3,I3,st3,fr3,w3⟩
 rcases turn i n σ3 H3 w3 with ⟨stop,qn⟩ | ⟨go,N,hN,step⟩
 .refine ug hp (thn (T.done X rfl rfl rfl hc i pins s3 σ3 H3 X.xe I3 (stat fr3) st3 stop) λr s4 ⟨hr,I4⟩ =>?_);subst hr;exact uA ⟨σ3,H3,I4,qn⟩
 .refine ug hp (thn (T.item X rfl rfl rfl hc i pins s3 σ3 H3 X.xe I3 (stat fr3) st3 go) λr s4 ⟨u,hr,h4⟩ =>?_);subst hr;refine ug hp (thn h4 λ_ s5 z9 =>?_);obtain⟨x,H5,I5,r5,y5,st5,fr5⟩:=z9;have I5':=I5.pinned (stat fr5) (T.obj _ _ st5);refine ug hp (thn (hg _ s5 σ3 H5 x u _ I5' r5 (step x H5 y5)) λ_ s6 z9 =>?_);obtain⟨σ6,H6,I6,q6⟩:=z9;refine ug hp (thn (hb _ s6 σ6 H6 _ I6 q6) λf s7 q7 =>?_);have again:∀{σ7:St}{H7:Hp},Inv X (pins++z6z fp s5.heap) σ7 H7 s7->N σ7 H7->∃m,m<n/\∃i σ' H',Inv X pins σ' H' s7/\tn i s7.heap/\(∀b∈fp,H' b=none)/\W i m σ' H':=λ{σ7 H7} I7 n7=>by
   obtain⟨m',hm,w7⟩:=hN σ7 H7 n7;refine⟨m',hm,i+1,σ7,H7,I7.unpinned,T.keep _ _ _ st5 λb hb o e=>(I7.pin (b,o) (w9 _ (w9 _ (z3E hb e)))).1,λb hb =>?_,w7⟩;obtain⟨o,e,d⟩:=T.obj _ _ st5 b hb;exact(I7.pin (b,o) (w9 _ (w9 _ (z3E hb e)))).2.1
  cases f with
  | next=>obtain⟨σ7,H7,I7,n7⟩:=q7;exact again I7 n7
  | cont=>obtain⟨σ7,H7,I7,n7⟩:=q7;exact again I7 n7
  | brk=>obtain⟨σ7,H7,I7,q7⟩:=q7;exact⟨σ7,H7,I7.unpinned,q7⟩
  | ret v=>obtain⟨x7,σ7,H7,I7,r7,q7⟩:=q7;exact⟨x7,σ7,H7,I7.unpinned,r7,q7⟩
end
abbrev R2:=V->V->Hp->VK->Prop
def OpR (X:Cx)(f:Value->Value->Sem Value)(r:R2):Prop:=
 ∀(pins:List (Addr × Obj)) (s:Shared) (σ:St) (H:Hp) (x y:V) (v u:Value) (Q:VK),Inv X pins σ H s->RelV x v->RelV y u->r x y H Q->
  wpAny (model X.prog X.w) X.A (f v u) (EP X pins σ Q) X.xe s
def UnR (X:Cx)(f:Value->Sem Value)(r:V->Hp->VK->Prop):Prop:=
 ∀(pins:List (Addr × Obj)) (s:Shared) (σ:St) (H:Hp) (x:V) (v:Value) (Q:VK),Inv X pins σ H s->RelV x v->r x H Q->
  wpAny (model X.prog X.w) X.A (f v) (EP X pins σ Q) X.xe s
def z1k (X:Cx)(f:Value)(r:List V->Hp->VK->Prop):Prop:=
 ∀(pins:List (Addr × Obj)) (s:Shared) (σ:St) (H:Hp) (xs:List V) (us:List Value) (Q:VK),Inv X pins σ H s->Vals xs us->r xs H Q->
  wpAny (model X.prog X.w) X.A (call f us) (EP X pins σ Q) X.xe s
def tOp (r:R2)(ta tb:TE):TE:=λσ H Q=>ta σ H λx H1=>tb σ H1 λy H2=>r x y H2 Q
def tUn (r:V->Hp->VK->Prop)(ta:TE):TE:=λσ H Q=>ta σ H λx H1=>r x H1 Q
def rI (C:Int->Int->Prop)(g:Int->Int->V):R2:=λx y H Q=>∃i j,x = .int i/\y = .int j/\C i j/\Q (g i j) H
def rI0 (g:Int->Int->V):R2:=λx y H Q=>∃i j,x = .int i/\y = .int j/\Q (g i j) H
def rU (g:Int->V):V->Hp->VK->Prop:=λx H Q=>∃i,x = .int i/\Q (g i) H
section
variable {X:Cx}{a b c:Expr}{ta tb tc:TE}{pos:Pos}
def binT (ha:PE X a ta)(hb:PE X b tb){pins:List (Addr × Obj)}{s:Shared}{σ:St}{H:Hp}{R:V->V->Hp->Prop}(I:Inv X pins σ H s)
  (h:ta σ H λx H1=>tb σ H1 λy H2=>R x y H2) {Q:WvP}{f:Value->Value->Sem Value}
  (hf:∀v u s2 x y H2,Inv X pins σ H2 s2->RelV x v->RelV y u->R x y H2->wpAny (model X.prog X.w) X.A (f v u) Q X.xe s2):
  wpAny (model X.prog X.w) X.A (eval a X.env) (λv s₁=>wpAny (model X.prog X.w) X.A (eval b X.env) (λu s₂=>wpAny (model X.prog X.w) X.A (f v u) Q X.xe s₂) X.xe s₁) X.xe s:=by
 refine thn (ha pins s σ H _ I h) λv s1 z9 =>?_;z_run;refine thn (hb pins s1 σ H1 _ I1 q1) λu s2 z9 =>?_;obtain⟨y,H2,I2,r2,q2⟩:=z9;exact hf v u s2 x y H2 I2 r1 r2 q2
def zjP {op:Operator}{r:R2}(ho:OpR X (binaryOp op) r)(ha:PE X a ta)(hb:PE X b tb):PE X (.BinOp a op b pos) (tOp r ta tb):=by
 z_go;exact wpAny_BinOp (binT ha hb I h λv u s2 x y H2 I2 rx ry q=>ho pins s2 σ H2 x y v u Q I2 rx ry q)
def zjO {op:UnaryOp}{r:V->Hp->VK->Prop}(ho:UnR X (unaryOp op) r)(ha:PE X a ta):PE X (.UnaryOp op a pos) (tUn r ta):=by
 z_go;exact UnaryOp_ (thn (ha pins s σ H _ I h) λv s1 ⟨x,H1,I1,r1,q1⟩=>ho pins s1 σ H1 x v Q I1 r1 q1)
def opI {f:Value->Value->Sem Value}{C:Int->Int->Prop}{g:Int->Int->Int}
  (rule:∀(i j:Int) (t u:Tok) (s:Shared) (Q:WvP) (E:WvP),C i j->Q (.int (g i j) s.toks) { s with toks:=s.toks+1 }->wpAny (model X.prog X.w) X.A (f (.int i t) (.int j u)) Q E s):
  OpR X f (rI C λi j =>.int (g i j)):=by
 x_go;obtain⟨i,j,rfl,rfl,hc,q⟩:=h;ksr_p;obtain⟨t',rfl⟩:=ry;exact rule i j t t' s _ _ hc ⟨.int (g i j),H,I.tok _,⟨_,rfl⟩,q⟩
def opI0 {f:Value->Value->Sem Value}{g:Int->Int->Int}
  (rule:∀(i j:Int) (t u:Tok) (s:Shared) (Q:WvP) (E:WvP),Q (.int (g i j) s.toks) { s with toks:=s.toks+1 }->wpAny (model X.prog X.w) X.A (f (.int i t) (.int j u)) Q E s):
  OpR X f (rI0 λi j =>.int (g i j)):=by
 x_go;obtain⟨i,j,rfl,rfl,q⟩:=h;ksr_p;obtain⟨t',rfl⟩:=ry;exact rule i j t t' s _ _ ⟨.int (g i j),H,I.tok _,⟨_,rfl⟩,q⟩
def opB0 {f:Value->Value->Sem Value}{g:Int->Int->Bool}
  (rule:∀(i j:Int) (t u:Tok) (s:Shared) (Q:WvP) (E:WvP),Q (.bool (g i j)) s->wpAny (model X.prog X.w) X.A (f (.int i t) (.int j u)) Q E s):
  OpR X f (rI0 λi j =>.bl (g i j)):=by
 x_go;obtain⟨i,j,rfl,rfl,q⟩:=h;ksr_p;obtain⟨t',rfl⟩:=ry;exact rule i j t t' s _ _ ⟨.bl (g i j),H,I,rfl,q⟩
def CPow (i j:Int):Prop:=0<=j/\j<=1000000/\i.natAbs<2 ^ 64
def zib:OpR X (binaryOp .Add) (rI0 λi j =>.int (i+j)):=opI0 λ_ _ _ _ _ _ _ q=>add_int q
def zi3:OpR X (binaryOp .Sub) (rI0 λi j =>.int (i - j)):=opI0 λ_ _ _ _ _ _ _ q=>sub_int q
def zfY:OpR X (binaryOp .Mod) (rI (λ_ j=>j≠0) λi j =>.int (i.fmod j)):=opI λ_ _ _ _ _ _ _ hc q=>mod_int' hc q
def zi4:OpR X (binaryOp .Pow) (rI CPow λi j =>.int (i ^ j.toNat)):=opI λ_ _ _ _ _ _ _ hc q=>pow_int_small hc.1 hc.2.1 hc.2.2 q
def unI {f:Value->Sem Value}{g:Int->Int}
  (rule:∀(i:Int) (t:Tok) (s:Shared) (Q:WvP) (E:WvP),Q (.int (g i) s.toks) { s with toks:=s.toks+1 }->wpAny (model X.prog X.w) X.A (f (.int i t)) Q E s):
  UnR X f (rU λi =>.int (g i)):=by
 intro pins s σ H x v Q I rx h;obtain⟨i,rfl,q⟩:=h;ksr_p;exact rule i t s _ _ ⟨.int (g i),H,I.tok _,⟨_,rfl⟩,q⟩
def zgv:UnR X (unaryOp .USub) (rU λi =>.int (-i)):=unI λ_ _ _ _ _ q=>neg_int q
end
def scal:V->V->Bool
 | .non,.non=>true | .non,.int _=>true | .int _,.non=>true | .non,.bl _=>true | .bl _,.non=>true | .non,.str _=>true | .str _,.non=>true
 | .int _,.int _=>true | .bl _,.bl _=>true | .str _,.str _=>true | .byt _,.byt _=>true
 | .int _,.str _=>true | .str _,.int _=>true | .bl _,.str _=>true | .str _,.bl _=>true
 | _,_=>false
def rEq:R2:=λx y H Q=>scal x y=true/\Q (.bl (decide (x=y))) H
def rNe:R2:=λx y H Q=>scal x y=true/\Q (.bl (!decide (x=y))) H
def zcn {i j:Int}:decide (V.int i=V.int j)=(i == j):=by
 rw[uC];simp
def zeM {i j:Bool}:decide (V.bl i=V.bl j)=(i == j):=by
 rw[uC];simp
def zcm {i j:Str}:decide (V.str i=V.str j)=(i == j):=by
 rw[uC];simp
def zco {i j:Array UInt8}:decide (V.byt i=V.byt j)=(i.toList == j.toList):=by
 rw[uC]
 cases i
 cases j
 simp
section
variable {X:Cx}{a b c:Expr}{ta tb tc:TE}{pos:Pos}
def z0O {pins:List (Addr × Obj)}{σ:St}{H:Hp}{s:Shared}{Q:VK}{k k':Bool}(I:Inv X pins σ H s)(q:Q (.bl k) H)(e:k=k'):EP X pins σ Q (.bool k') s:=by
 subst e;exact⟨.bl k,H,I,rfl,q⟩
def zjZ:OpR X (compareOp .Eq) rEq:=by
 x_go;obtain⟨hs,q⟩:=h
 cases x with
 | non=>
  cases rx
  cases y with
  | non=>cases ry;exact PySem.EqNone.eq_none_none (z0O I q (by simp))
  | bl j=>cases ry;exact PySem.EqNone.eq_none_bool (z0O I q (by simp))
  | int j=>obtain⟨t',rfl⟩:=ry;exact PySem.EqNone.eq_none_int (z0O I q (by simp))
  | str j=>obtain⟨t',rfl⟩:=ry;exact PySem.EqNone.eq_none_str (z0O I q (by simp))
  | _=>exact absurd (show false=true from hs) wM
 | bl i=>
  cases rx
  cases y with
  | non=>cases ry;exact PySem.EqNone.eq_bool_none (z0O I q (by simp))
  | bl j=>cases ry;exact eq_bool (z0O I q zeM)
  | str j=>obtain⟨t',rfl⟩:=ry;exact PySem.EqMixed.eq_bool_str (z0O I q (by simp))
  | _=>exact absurd (show false=true from hs) wM
 | int i=>
  ksr_p
  cases y with
  | non=>cases ry;exact PySem.EqNone.eq_int_none (z0O I q (by simp))
  | int j=>obtain⟨t',rfl⟩:=ry;exact eq_int (z0O I q zcn)
  | str j=>obtain⟨t',rfl⟩:=ry;exact PySem.EqMixed.eq_int_str (z0O I q (by simp))
  | _=>exact absurd (show false=true from hs) wM
 | str i=>
  ksr_p
  cases y with
  | non=>cases ry;exact PySem.EqNone.eq_str_none (z0O I q (by simp))
  | bl j=>cases ry;exact PySem.EqMixed.eq_str_bool (z0O I q (by simp))
  | int j=>obtain⟨t',rfl⟩:=ry;exact PySem.EqMixed.eq_str_int (z0O I q (by simp))
  | str j=>obtain⟨t',rfl⟩:=ry;exact eq_str (z0O I q zcm)
  | _=>exact absurd (show false=true from hs) wM
 | byt i=>
  ksr_p
  cases y with
  | byt j=>obtain⟨t',rfl⟩:=ry;exact W.eq_bytes (z0O I q zco)
  | _=>exact absurd (show false=true from hs) wM
 | _=>cases y <;> exact absurd (show false=true from hs) wM
def zjU:OpR X (compareOp .NotEq) rNe:=by
 x_go;obtain⟨hs,q⟩:=h
 cases x with
 | non=>
  cases rx
  cases y with
  | non=>cases ry;exact PySem.EqNone.ne_none_none (z0O I q (by simp))
  | bl j=>cases ry;exact PySem.EqNone.ne_none_bool (z0O I q (by simp))
  | int j=>obtain⟨t',rfl⟩:=ry;exact PySem.EqNone.ne_none_int (z0O I q (by simp))
  | str j=>obtain⟨t',rfl⟩:=ry;exact PySem.EqNone.ne_none_str (z0O I q (by simp))
  | _=>exact absurd (show false=true from hs) wM
 | bl i=>
  cases rx
  cases y with
  | non=>cases ry;exact PySem.EqNone.ne_bool_none (z0O I q (by simp))
  | bl j=>cases ry;exact ne_bool (z0O I q (congrArg not zeM))
  | str j=>obtain⟨t',rfl⟩:=ry;exact PySem.EqMixed.ne_bool_str (z0O I q (by simp))
  | _=>exact absurd (show false=true from hs) wM
 | int i=>
  ksr_p
  cases y with
  | non=>cases ry;exact PySem.EqNone.ne_int_none (z0O I q (by simp))
  | int j=>obtain⟨t',rfl⟩:=ry;exact ne_int (z0O I q (congrArg not zcn))
  | str j=>obtain⟨t',rfl⟩:=ry;exact PySem.EqMixed.ne_int_str (z0O I q (by simp))
  | _=>exact absurd (show false=true from hs) wM
 | str i=>
  ksr_p
  cases y with
  | non=>cases ry;exact PySem.EqNone.ne_str_none (z0O I q (by simp))
  | bl j=>cases ry;exact PySem.EqMixed.ne_str_bool (z0O I q (by simp))
  | int j=>obtain⟨t',rfl⟩:=ry;exact PySem.EqMixed.ne_str_int (z0O I q (by simp))
  | str j=>obtain⟨t',rfl⟩:=ry;exact ne_str (z0O I q (congrArg not zcm))
  | _=>exact absurd (show false=true from hs) wM
 | byt i=>
  ksr_p
  cases y with
  | byt j=>obtain⟨t',rfl⟩:=ry;exact W.ne_bytes (z0O I q (congrArg not zco))
  | _=>exact absurd (show false=true from hs) wM
 | _=>cases y <;> exact absurd (show false=true from hs) wM
def zjV:OpR X (compareOp .Lt) (rI0 λi j =>.bl (decide (i<j))):=opB0 λ_ _ _ _ _ _ _ q=>lt_int q
def zjW:OpR X (compareOp .LtE) (rI0 λi j =>.bl (decide (i<=j))):=opB0 λ_ _ _ _ _ _ _ q=>le_int q
def zjX:OpR X (compareOp .Gt) (rI0 λi j =>.bl (decide (j<i))):=opB0 λ_ _ _ _ _ _ _ q=>gt_int q
def zjY:OpR X (compareOp .GtE) (rI0 λi j =>.bl (decide (j<=i))):=opB0 λ_ _ _ _ _ _ _ q=>ge_int q
def zbK:OpR X (compareOp .In) (λx y H Q=>∃i j,x = .str i/\y = .str j/\Q (.bl (!(Builtin.Str.occurrences j i 0 j.length 1).isEmpty)) H):=by
 x_go;obtain⟨i,j,rfl,rfl,q⟩:=h;ksr_p;obtain⟨t',rfl⟩:=ry;exact in_str (z0O I q rfl)
def zi8:OpR X (compareOp .Is) (λx y H Q=>y = .non/\Q (.bl (decide (x = .non))) H):=by
 x_go;obtain⟨rfl,q⟩:=h
 cases ry
 refine is_none_gen (z0O I q ?_)
 cases x <;> first
  | (cases rx;rfl)
  | (obtain⟨t,rfl⟩:=rx;rfl)
def zfW:OpR X (compareOp .IsNot) (λx y H Q=>y = .non/\Q (.bl (!decide (x = .non))) H):=by
 x_go;obtain⟨rfl,q⟩:=h
 cases ry
 refine isnot_none_gen (z0O I q ?_)
 cases x <;> first
  | (cases rx;rfl)
  | (obtain⟨t,rfl⟩:=rx;rfl)
def zeC (b:Expr){op:CmpOp}(h:op ≠ .In:=by decide)(h2:op ≠ .NotIn:=by decide):behindInMarks op b=false:=by
 have e1:(op == CmpOp.In)=false:=by cases op <;> first | rfl | exact absurd rfl h
 have e2:(op == CmpOp.NotIn)=false:=by cases op <;> first | rfl | exact absurd rfl h2
 cases b <;> simp[behindInMarks,e1,e2]
def zfT {op:CmpOp}{r:R2}(ho:OpR X (compareOp op) r)(ha:PE X a ta)(hb:PE X b tb)(hm:behindInMarks op b=false):PE X (.Compare a [op] [b] pos) (tOp r ta tb):=by
 z_go;exact wpAny_Compare1 (binT ha hb I h λv u s2 x y H2 I2 rx ry q=>ho pins s2 σ H2 x y v u Q I2 rx ry q) hm
def zaK (t:TE):TT:=λσ H Q=>t σ H λx H'=>∃k,x = .bl k/\Q k H'
def zfI {op:CmpOp}{r:R2}(ho:OpR X (compareOp op) r)(ha:PE X a ta)(hb:PE X b tb)(hm:behindInMarks op b=false):PT X (.Compare a [op] [b] pos) (zaK (tOp r ta tb)):=by
 z_go;refine wpAny_isTrue_Compare1 (thn (ha pins s σ H _ I h) λv s1 ⟨x,H1,I1,r1,q1⟩=>thn (hb pins s1 σ H1 _ I1 q1) λu s2 ⟨y,H2,I2,r2,q2⟩=>
  thn (ho pins s2 σ H2 x y v u _ I2 r1 r2 q2) λc s3 ⟨z,H3,I3,r3,k,e,q3⟩ =>?_) hm
 subst e
 cases r3
 exact vX ⟨H3,I3,q3⟩
def z7G (r r':R2)(ta tb tc:TE):TE:=λσ H Q=>ta σ H λx H1=>tb σ H1 λy H2=>r x y H2 λz H3=>∃k,z = .bl k/\
 (if k=true then tc σ H3 λw' H4=>r' y w' H4 Q else Q (.bl false) H3)
def zdm {op op':CmpOp}{r r':R2}(ho:OpR X (compareOp op) r)(ho':OpR X (compareOp op') r')(ha:PE X a ta)(hb:PE X b tb)(hc:PE X c tc)
  (hm:lastMarks [op,op'] [b,c]=false:=by with_unfolding_all rfl):PE X (.Compare a [op,op'] [b,c] pos) (z7G r r' ta tb tc):=by
 z_go;refine Compare_chain (thn (ha pins s σ H _ I h) λv s1 ⟨x,H1,I1,r1,q1⟩=>chain_link (thn (hb pins s1 σ H1 _ I1 q1) λu s2 ⟨y,H2,I2,r2,q2⟩=>
  thn (ho pins s2 σ H2 x y v u _ I2 r1 r2 q2) λd s3 ⟨z,H3,I3,r3,k,e,q3⟩ =>?_)) hm
 subst e
 cases r3
 refine vX ?_
 cases k with
 | false=>exact ite_ff ⟨.bl false,H3,I3,rfl,q3⟩
 | true=>exact ite_tt (chain_last (thn (hc pins s3 σ H3 _ I3 q3) λw' s4 ⟨z',H4,I4,r4,q4⟩=>ho' pins s4 σ H4 y z' u w' Q I4 r2 r4 q4))
def zdc {op op':CmpOp}{r r':R2}(ho:OpR X (compareOp op) r)(ho':OpR X (compareOp op') r')(ha:PE X a ta)(hb:PE X b tb)(hc:PE X c tc)
  (hm:lastMarks [op,op'] [b,c]=false:=by with_unfolding_all rfl):PT X (.Compare a [op,op'] [b,c] pos) (zaK (z7G r r' ta tb tc)):=by
 z_go;refine isTrue_chain (thn (ha pins s σ H _ I h) λv s1 ⟨x,H1,I1,r1,q1⟩=>test_link (thn (hb pins s1 σ H1 _ I1 q1) λu s2 ⟨y,H2,I2,r2,q2⟩=>
  thn (ho pins s2 σ H2 x y v u _ I2 r1 r2 q2) λd s3 ⟨z,H3,I3,r3,k,e,q3⟩ =>?_)) hm
 subst e
 cases r3
 refine vX ?_
 cases k with
 | false=>
  obtain⟨k',e',q'⟩:=q3
  cases e'
  exact ite_ff ⟨H3,I3,q'⟩
 | true=>
  refine ite_tt (test_last (thn (hc pins s3 σ H3 _ I3 q3) λw' s4 ⟨z',H4,I4,r4,q4⟩=>thn (ho' pins s4 σ H4 y z' u w' _ I4 r2 r4 q4) λd' s5 z9 =>?_));obtain⟨z2,H5,I5,r5,k2,e2,q5⟩:=z9;subst e2
  cases r5
  exact vX ⟨H5,I5,q5⟩
def z6D:(sizeLine:Nat)<2 ^ 63:=by rw[sizeLine_eq];decide
def zaa:OpR X (binaryOp .Add) (λx y H Q=>∃i j,x = .str i/\y = .str j/\i.length+j.length<=sizeLine/\Q (.str (i++j)) H):=by
 x_go;obtain⟨i,j,rfl,rfl,hz,q⟩:=h;ksr_p;obtain⟨t',rfl⟩:=ry;exact add_str (λt' tk=>⟨.str (i++j),H,I.tok _,⟨_,rfl⟩,q⟩) hz
def z6I {x:V}{us:List Value}(r:Vals [x] us):∃u,us=[u]/\RelV x u:=by
 cases r with
 | cons r1 r2=>cases r2;exact⟨_,rfl,r1⟩
def zgu {x y:V}{us:List Value}(r:Vals [x,y] us):∃u w',us=[u,w']/\RelV x u/\RelV y w':=by
 cases r with
 | cons r1 r2=>
  cases r2 with
  | cons r3 r4=>cases r4;exact⟨_,_,rfl,r1,r3⟩
def zdV:z1k X (.builtin "abs") (λxs H Q=>∃i,xs=[.int i]/\Q (.int (if i<0 then -i else i)) H):=by
 k_cls;obtain⟨i,rfl,q⟩:=h;obtain⟨u,rfl,t,rfl⟩:=z6I r;exact call_abs_int λu tk=>⟨.int (if i<0 then -i else i),H,I.tok _,⟨_,rfl⟩,q⟩
end
structure ObjM (h:Heap)(x dx C:Addr)(mA:WmP):Prop where
 obj:h.get? x=some (W.instObj C dx)
 ns:h.Ns1 dx mA
 ne:dx≠x
def zbV {h:Heap}{dx:Addr}{mA:WmP}(n:h.Ns1 dx mA):∃od,h.get? dx=some od/\∀name,W.lookIn name od=some (mA name):=by
 obtain⟨o,es,ep,ho,hd,hk,_,hm⟩:=n;refine⟨o,ho,λname =>?_⟩;have e:=hm name;unfold nsFind findBy at e;rw[<- Array.find?_toList] at e;unfold W.lookIn;rw[hd];dsimp only
 split
 .rename_i y q
  rw[q] at e;exact congrArg some e
 .rename_i q
  rw[q] at e;have a:es.toList.any (·.refKey)=false:=by
   rw[List.any_eq_false];intro y hy;obtain⟨z,t,hkey⟩:=hk y (Array.mem_toList_iff.mp hy);simp[DictEntry.refKey,hkey]
  have a':¬ es.toList.any (·.refKey)=true:=by rw[a];exact wM
  rw[if_neg a'];exact congrArg some e
def ObjM.look {h:Heap}{x dx C:Addr}{mA:WmP}(I:ObjM h x dx C mA):∃od,W.InstAt h x (W.instObj C dx) C (some od)/\∀name,W.lookIn name od=some (mA name):=
 let ⟨od,ho,hl⟩:=zbV I.ns
 ⟨od,⟨I.obj,rfl,rfl,ho⟩,hl⟩
section
variable {prog:Program}{w:World}{A:Around}{E:WvP}{s:Shared}{K:W.Frag}{x dx C f:Addr}{mA:WmP}{name:Str}{v:Value}
def zgg {expr:Bool}{Q:WvP}(X:K.In s.heap)(I:ObjM s.heap x dx C mA)(hg:W.plainGet K C name=true)(hh:W.hasDictIn K C=true)
  (ha:W.findIn K (.ref C) name=some none) (hv:mA name=some v) (hv':W.handedIn v=true) (h:Q v { s with toks:=s.toks+1 }):
  wpAny (model prog w) A (getAttr (.ref x) name expr) Q E s:=by
 obtain⟨od,J,hl⟩:=I.look;exact W.get_value X J (W.plainGet_of hg).1 (W.findObj_own hh ha rfl (by rw[hl,hv])) hv' h
def zdL {pl:Sem Bool}{Q:Value × List Value->Shared->Prop}(X:K.In s.heap)(I:ObjM s.heap x dx C mA)(hg:W.plainGet K C name=true)
  (hf:W.findIn K (.ref C) name=some (some (.ref f))) (ht:W.isFn K (.ref f)=true) (hv:mA name=none) (h:Q (.ref f,[.ref x]) s):
  wpAny (model prog w) A (getMethod (.ref x) name pl) Q E s:=by
 obtain⟨od,J,hl⟩:=I.look;exact W.method_fn X J (W.plainGet_of hg).1 (W.plainGet_of hg).2 hf (uh.mp ht) (by show (W.lookIn name od).map (·.isSome)=some false;rw[hl,hv];rfl) h
def zf3 {ns:List Str}{Q:Unit->Shared->Prop}(X:K.In s.heap)(I:ObjM s.heap x dx C mA)
  (hs:W.findIn K (.ref C) "__setattr__"=some (some (.builtin "object.__setattr__"))) (hp:W.plainOver K C=true) (ht:W.takerIn K C name=some none) (hh:W.hasDictIn K C=true)
  (hw:PySem.Within mA ns) (hsz:ns.length<=sizeLine)
  (h:∀h',ObjM h' x dx C (λy=>if y=name then some v else mA y)->Heap.SameBut dx s.heap h'->Q () { s with heap:=h',toks:=s.toks+2 }):
  wpAny (model prog w) A (setAttr (.ref x) name v) Q E s:=by
 obtain⟨od,J,hl⟩:=I.look;refine W.set_plain X J hs (W.osa_open (s:={ s with toks:=s.toks+1 }) (r:=none) X J hp ht λb =>?_);obtain⟨cd,hc,hd'⟩:=W.any_some hh;have hx:s.heap.get? x=some ⟨.ref C,some dx,.plain, #[]⟩:=I.obj;refine wa (wv (wa (wa (wpAny_loadPart hx (wa (W.Looks.here (s:={ s with toks:=s.toks+1 }) (W.looks_clsIn X hc) ?_))))));rw[hd'];refine wv (a:=some dx) (wa (wv (wa ?_)));refine wpAny_nsSet1 (s:={ s with toks:=s.toks+1 }) I.ns λh' hn2 hs2 =>?_;obtain⟨oD,esD,epD,hoD,hdD,hcD⟩:=hn2.count (PySem.Within.cons name v hw);refine wa (wpAny_lookBehind hoD (by rw[hdD];exact pastItsLine_dict (wX hcD (by rw[wL];lia))) ?_);exact wv (h _ ⟨(hs2.2 _ (vk I.ne)).trans I.obj,hn2,I.ne⟩ hs2)
def zdE {R:Result->Shared->Prop}{vs:List Value}{kw:List (Str × Value)}(X:K.In s.heap)(hm:W.makesIn K C=true)
  (hi:W.findIn K (.ref C) "__init__"=some (some (.ref f))) (hf:W.typeIn K (.ref f)=some (.type "function"))
  (h:codeAny (model prog w) (A.under (.builtin "type.__call__" ⟨.ref C::vs,kw⟩)) (.call (.ref f) ⟨.ref (s.heap.objs.size+1)::vs,kw⟩) (W.InitBack (s.heap.objs.size+1) R)
   { s with heap:=(s.heap.push W.emptyDict).push (W.instObj C s.heap.objs.size) }):
  codeAny (model prog w) A (.call (.ref C) ⟨vs,kw⟩) R s:=by
 obtain⟨hh,g,d,t,os⟩:=s;exact W.make_core (W.makes_of X hm) (W.looks_findIn X hi) (λself=>W.bind_fn X self hf) (.inl rfl) h
end
def putF (f:Str)(v:V):List (Str × V)->List (Str × V)
 | []=>[(f,v)]
 | (g,x)::r=>if g=f then (g,v)::r else (g,x)::putF f v r
theorem z5W (f g:Str)(v:V):∀fs:List (Str × V),(putF f v fs).lookup g=if g=f then some v else fs.lookup g
 | []=>by
  show List.lookup g [(f,v)]=_
  by_cases h:g=f
  .have hb:(g == f)=true:=uh.mpr h;simp only[List.lookup,hb,if_pos h]
  .have hb:(g == f)=false:=um.mpr h;simp only[List.lookup,hb,if_neg h]
 | (k,x)::r=>by
  have ih:=z5W f g v r;w_tab
  by_cases hk:k=f
  .rw[if_pos hk]
   by_cases h:g=k
   .have hb:(g == k)=true:=uh.mpr h;simp only[List.lookup,hb,if_pos (h.trans hk)]
   .have hb:(g == k)=false:=um.mpr h;simp only[List.lookup,hb,if_neg (λe:g=f=>h (e.trans hk.symm))]
  .rw[if_neg hk]
   by_cases h:g=k
   .have hb:(g == k)=true:=uh.mpr h;simp only[List.lookup,hb,if_neg (λe:g=f=>hk (h.symm.trans e))]
   .have hb:(g == k)=false:=um.mpr h;simp only[List.lookup,hb];exact ih
theorem z5Z (f:Str)(v:V):∀fs:List (Str × V),f∈(putF f v fs).map (·.1)/\∀g,g∈fs.map (·.1)->g∈(putF f v fs).map (·.1)
 | []=>⟨by simp[putF],λg h=>by simp at h⟩
 | (k,x)::r=>by
  obtain⟨i1,i2⟩:=z5Z f v r;w_tab
  by_cases hk:k=f
  .rw[if_pos hk];subst hk;exact⟨by simp,λg h=>by simpa using h⟩
  .rw[if_neg hk];refine⟨?_,λg h =>?_⟩
   .rw[wA];exact we _ i1
   .rw[wA] at h ⊢
    rcases wf.mp h with e | e
    .exact wf.mpr (.inl e)
    .exact we _ (i2 g e)
theorem z5X (f:Str)(v:V):∀fs:List (Str × V),(putF f v fs).length<=fs.length+1
 | []=>by simp[putF]
 | (k,x)::r=>by
  have ih:=z5X f v r;w_tab
  by_cases hk:k=f
  .rw[if_pos hk,wL,wL];lia
  .rw[if_neg hk,wL,wL];lia
def RelO.some_of {v:V}{o:Option Value}(r:RelO (some v) o):∃u,o=some u/\RelV v u:=by
 cases o with
 | none=>exact(show False from r).elim
 | some u=>exact⟨u,rfl,r⟩
def RelO.none_of {o:Option Value}(r:RelO none o):o=none:=by
 cases o with
 | none=>rfl
 | some u=>exact(show False from r).elim
def zc4 {v:V}{u:Value}(r:RelV v u):W.handedIn u=true:=by
 cases v with
 | non=>cases (show u=Value.none from r);rfl
 | bl b=>cases (show u=Value.bool b from r);rfl
 | int i=>obtain⟨t,e⟩:=(show ∃t,u=Value.int i t from r);cases e;rfl
 | str x=>obtain⟨t,e⟩:=(show ∃t,u=Value.str x t from r);cases e;rfl
 | byt b=>obtain⟨t,e⟩:=(show ∃t,u=Value.bytes b t from r);cases e;rfl
 | flt b=>obtain⟨t,e⟩:=(show ∃t,u=Value.float b t from r);cases e;rfl
 | ref a=>cases (show u=Value.ref a from r);rfl
 | ty n=>cases (show u=Value.type n from r);rfl
section
variable {P:Program}{w:World}{H H':Hp}{h h':Heap}{a C dx:Addr}{fs fs':List (Str × V)}
def z7i (hok:HOk P w H h)(e:H a=some (.ins C dx fs)):∃mA,ObjM h a dx C mA/\(∀f,RelO (fs.lookup f) (mA f))/\PySem.Within mA (fs.map (·.1))/\fs.length<=1000/\H dx=some (.own a):=by
 obtain⟨d,z,ne,ob,mA,n,r,q⟩:=(show z1u P w H h a (.ins C dx fs) from hok a _ e)
 exact⟨mA,⟨ob,n,ne⟩,r,q,z,d⟩
end
structure Cls (K:W.Frag)(C:Addr):Prop where
 pg:W.plainGet K C Str.empty=true
 hd:W.hasDictIn K C=true
 po:W.plainOver K C=true
 sa:W.findIn K (.ref C) "__setattr__"=some (some (.builtin "object.__setattr__"))
def Cls.get {K:W.Frag}{C:Addr}(c:Cls K C)(f:Str):W.plainGet K C f=true:=c.pg
def z2H (K:W.Frag)(C:Addr)(f:Str):Prop:=W.findIn K (.ref C) f=some none
def z2H.taker {K:W.Frag}{C:Addr}{f:Str}(n:z2H K C f):W.takerIn K C f=some none:=by
 unfold W.takerIn;rw[show W.findIn K (.ref C) f=some none from n]
 rfl
structure Meth (K:W.Frag)(C:Addr)(m:Str)(f:Addr):Prop where
 at_:W.findIn K (.ref C) m=some (some (.ref f))
 fn:W.isFn K (.ref f)=true
 kp:W.keepIn K (.ref f)=true
section
variable {X:Cx}{pins:List (Addr × Obj)}{σ:St}{H:Hp}{s:Shared}{a C dx:Addr}{fs:List (Str × V)}{f:Str}{v:V}{A:Around}{E:WvP}
def zao {b:Bool}{Q:WvP}(I:Inv X pins σ H s)(e:H a=some (.ins C dx fs))(c:Cls X.K C)(n:z2H X.K C f)(l:fs.lookup f=some v)
  (h:∀u s',Inv X pins σ H s'->RelV v u->Q u s'):wpAny (model X.prog X.w) A (getAttr (.ref a) f b) Q E s:=by
 obtain⟨mA,O,r,_,_,_⟩:=z7i I.hok e;obtain⟨u,hu,ru⟩:=RelO.some_of (v:=v) (o:=mA f) (by rw[<- l];exact r f);exact zgg I.kIn O (c.get f) c.hd n hu (zc4 ru) (h u _ (I.tok _) ru)
def z4W {m:Str}{g:Addr}{pl:Sem Bool}{Q:Value × List Value->Shared->Prop}(I:Inv X pins σ H s)(e:H a=some (.ins C dx fs))(c:Cls X.K C)(k:Meth X.K C m g)(l:fs.lookup m=none)
  (h:Q (.ref g,[.ref a]) s):wpAny (model X.prog X.w) A (getMethod (.ref a) m pl) Q E s:=by
 obtain⟨mA,O,r,_,_,_⟩:=z7i I.hok e;have hn:mA m=none:=RelO.none_of (by rw[<- l];exact r m);exact zdL I.kIn O (c.get m) k.at_ k.fn hn h
def za2 {y:V}{u:Value}{Q:Unit->Shared->Prop}(I:Inv X pins σ H s)(e:H a=some (.ins C dx fs))(c:Cls X.K C)(n:z2H X.K C f)(hl:fs.length<1000)(ry:RelV y u)
  (h:∀s',Inv X pins σ (upd H a (.ins C dx (putF f y fs))) s'->Q () s'):wpAny (model X.prog X.w) A (setAttr (.ref a) f u) Q E s:=by
 obtain⟨mA,O,r,wi,_,ho⟩:=z7i I.hok e;have hz:(fs.map (·.1)).length<=sizeLine:=by rw[wc,sizeLine_eq];lia
 refine zf3 I.kIn O c.sa c.po n.taker c.hd wi hz λh' O' sb=>h _ ?_;have hd:∃o,h'.get? dx=some o:=let ⟨o,_,_,e',_⟩:=O'.ns;⟨o,e'⟩;refine I.write (x:=a) (e:=dx) (by rw[e];exact True.intro) (.inr ho) (λb q hb z=>(sb.2 b hb).trans z) hd ?_;refine⟨by rw[z02 O.ne];exact ho,?_,O.ne,O'.obj,_,O'.ns,λg =>?_,λg hg =>?_⟩
 .have:=z5X f y fs;lia
 .show RelO ((putF f y fs).lookup g) (if g=f then some u else mA g);rw[z5W]
  by_cases q:g=f
  .rw[if_pos q,if_pos q];exact ry
  .rw[if_neg q,if_neg q];exact r g
 .by_cases q:g=f
  .rw[q];exact(z5Z f y fs).1
  .refine(z5Z f y fs).2 g (wi g λz=>hg ?_);show (if g=f then some u else mA g)=none;rw[if_neg q];exact z
def Inv.made (I:Inv X pins σ H s):Inv X pins σ (upd (upd H s.heap.objs.size (.own (s.heap.objs.size+1))) (s.heap.objs.size+1) (.ins C s.heap.objs.size []))
  { s with heap:=(s.heap.push W.emptyDict).push (W.instObj C s.heap.objs.size) }:=by
 have e1:(s.heap.push W.emptyDict).get? s.heap.objs.size=some W.emptyDict:=wB s.heap rfl;have e2:((s.heap.push W.emptyDict).push (W.instObj C s.heap.objs.size)).get? (s.heap.objs.size+1)=some (W.instObj C s.heap.objs.size):=by
  have:=wB (s.heap.push W.emptyDict) (o:=W.instObj C s.heap.objs.size) rfl
  rwa [ub] at this
 have e3:(s.heap.push W.emptyDict).Ns s.heap.objs.size (λ_=>none):=⟨W.emptyDict, #[],_,e1,rfl,(λe he=>absurd he (by simp)),λ_=>rfl⟩
 have I1:=I.laid (a:=s.heap.objs.size) (o :=.own (s.heap.objs.size+1)) (h':=s.heap.push W.emptyDict) (t':=s.toks) (λb u q=>wm _ q) (wG _) ⟨_,e1⟩;refine I1.laid (a:=s.heap.objs.size+1) (o :=.ins C s.heap.objs.size []) (t':=s.toks) (λb u q=>wm _ q) (Nat.le_of_eq (ub _ _)) ?_;have ne:s.heap.objs.size≠s.heap.objs.size+1:=wT (uI _);refine⟨by rw[z02 ne,z06],vh _,ne,e2,λ_=>none,(Heap.Ns1.of_empty e3).at λo q=>wm _ q,λ_=>True.intro,λy hy=>absurd rfl hy⟩
def zgp {prog:Program}{w:World}{env:Env}{e:Expr}{f:Str}{pos:Pos}{s:Shared}{Q:WvP}(hb:attributeBase e f env (eval e env)=eval e env)
  (h:wpAny (model prog w) A (eval e env) (λo s₁=>wpAny (model prog w) A (getAttr o f true) Q E s₁) E s):wpAny (model prog w) A (eval (.Attribute e f pos) env) Q E s:=
 Attribute_any_ h (by rw[arm_eval_Attribute,hb])
end
def tFld (K:W.Frag)(ta:TE)(f:Str):TE:=λσ H Q=>ta σ H λx H1=>∃a C dx fs v,x = .ref a/\H1 a=some (.ins C dx fs)/\Cls K C/\z2H K C f/\fs.lookup f=some v/\Q v H1
def sFld (K:W.Frag)(ta tv:TE)(f:Str):TS:=λD σ H=>tv σ H λy H1=>ta σ H1 λx H2=>∃a C dx fs,x = .ref a/\H2 a=some (.ins C dx fs)/\Cls K C/\z2H K C f/\fs.length<1000/\
 D.nx σ (upd H2 a (.ins C dx (putF f y fs)))
section
variable {X:Cx}{o e value:Expr}{f:Str}{pos pos' tpos:Pos}{ta tv:TE}
def zhV (he:PE X e ta)(hb:attributeBase e f X.env (eval e X.env)=eval e X.env):PE X (.Attribute e f pos) (tFld X.K ta f):=by
 z_go;refine zgp hb (thn (he pins s σ H _ I h) λu s1 z9 =>?_);obtain⟨x,H1,I1,rx,a,C,dx,fs,v,ex,ea,c,n,l,q⟩:=z9;subst ex;ks_is;exact zao I1 ea c n l λu' s2 I2 ru=>⟨v,H1,I2,ru,q⟩
def z7V (ha:PE X o ta)(hv:PE X value tv)(hs:swapsWith value (some (.Attribute o f pos')) pos.line X.env=pure false):PS X (.Assign [.Attribute o f pos'] value pos) (sFld X.K ta tv f):=by
 k_not;refine plainObj_wpAny_Assign_Attribute (thn (hv pins s σ H _ I h) λu s1 ⟨y,H1,I1,ry,q⟩=>thn (ha pins s1 σ H1 _ I1 q) λov s2 z9 =>?_) hs;obtain⟨x,H2,I2,rx,a,C,dx,fs,ex,ea,c,n,l,q2⟩:=z9;subst ex;obtain rfl:ov=Value.ref a:=rx;exact za2 I2 ea c n l ry λs3 I3=>⟨σ,_,I3,q2⟩
end
section
variable {X:Cx}{pins:List (Addr × Obj)}{σ:St}{H:Hp}{s:Shared}{A:Around}{E:WvP}{Q:WvP}{c:Value}{b:Bool}
inductive TyOf (K:W.Frag) (H:Hp):V->Value->Prop where
 | non:TyOf K H .non (.type "NoneType")
 | bl (x:Bool):TyOf K H (.bl x) (.type "bool")
 | int (i:Int):TyOf K H (.int i) (.type "int")
 | str (x:Str):TyOf K H (.str x) (.type "str")
 | flt (x:UInt64):TyOf K H (.flt x) (.type "float")
 | lst {a:Addr}{xs:List V}(e:H a=some (.lst xs)):TyOf K H (.ref a) (.type "list")
 | frz {a:Addr}{o:Obj}{xs:List V}(e:H a=some (.frz o (.lst xs))):TyOf K H (.ref a) (.type "list")
 | tup {a:Addr}{xs:List V}(e:H a=some (.tup xs)):TyOf K H (.ref a) (.type "tuple")
 | dK {a:Addr}{kvs:List (Key × V)}(e:H a=some (.dK kvs)):TyOf K H (.ref a) (.type "dict")
 | dT {a:Addr}{kvs:List (List Key × V)}(e:H a=some (.dT kvs)):TyOf K H (.ref a) (.type "dict")
 | ins {a C dx:Addr}{fs:List (Str × V)}(e:H a=some (.ins C dx fs)) (cl:Cls K C) (ha:W.findIn K (.ref C) "__class__"=some (some (.builtin "object.__class__")))
   (hn:W.specialIn K (.builtin "object.__class__") "__get__"=some (some (.builtin "getset_descriptor.__get__"))) (htk:W.takesIn K (.builtin "object.__class__")=some true)
   (hm:W.mroIn K C (.type "object")=some true):TyOf K H (.ref a) (.ref C)
def z4x {x:V}{u t:Value}(I:Inv X pins σ H s)(rx:RelV x u)(ty:TyOf X.K H x t)(e:W.kitOne X.K t c=some b)(h:∀tk,Q (.bool b) { s with toks:=tk }):
  wpAny (model X.prog X.w) A (call (.builtin "isinstance") [u,c]) Q E s:=by
 cases ty with
 | non=>cases (show u=Value.none from rx);exact vf W.kitx_none I.kIn True.intro e (λz=>nomatch z) h
 | bl y=>cases (show u=Value.bool y from rx);exact vf W.kitx_bool I.kIn True.intro e (λz=>nomatch z) h
 | int i=>obtain⟨t,q⟩:=(show ∃t,u=Value.int i t from rx);cases q;exact vf W.kitx_int I.kIn True.intro e (λz=>nomatch z) h
 | str y=>obtain⟨t,q⟩:=(show ∃t,u=Value.str y t from rx);cases q;exact vf W.kitx_str I.kIn True.intro e (λz=>nomatch z) h
 | flt y=>obtain⟨t,q⟩:=(show ∃t,u=Value.float y t from rx);cases q;exact vf W.kitx_float I.kIn True.intro e (λz=>nomatch z) h
 | @lst a xs ea=>
  f_len
  obtain⟨_,_,n,_,h1⟩:=(show z1u X.prog X.w H s.heap a (.lst xs) from I.hok a _ ea)
  exact vf W.kitx_list I.kIn ⟨_,h1,rfl⟩ e (λz=>nomatch z) h
 | @frz a ob xs ea=>
  f_len
  obtain⟨_,_,_,n,_,h1⟩:=(show z1u X.prog X.w H s.heap a (.frz ob (.lst xs)) from I.hok a _ ea)
  exact vf W.kitx_list I.kIn ⟨_,h1,rfl⟩ e (λz=>nomatch z) h
 | @tup a xs ea=>
  f_len
  obtain⟨_,_,_,p,_⟩:=(show z1u X.prog X.w H s.heap a (.tup xs) from I.hok a _ ea)
  obtain⟨o,h1,h2,_⟩:=p;exact vf W.kitx_tuple I.kIn ⟨o,h1,h2⟩ e (λz=>nomatch z) h
 | @dK a kvs ea=>
  f_len
  obtain⟨_,_,vs,_,p⟩:=(show z1u X.prog X.w H s.heap a (.dK kvs) from I.hok a _ ea)
  obtain⟨o,es,ep,h1,h2,_⟩:=p;exact vf W.kitx_dict I.kIn ⟨o,h1,h2.1⟩ e (λz=>nomatch z) h
 | @dT a kvs ea=>
  f_len
  obtain⟨_,_,xs,_,o,es,ep,h1,h2,_⟩:=(show z1u X.prog X.w H s.heap a (.dT kvs) from I.hok a _ ea)
  exact vf W.kitx_dict I.kIn ⟨o,h1,h2.1⟩ e (λz=>nomatch z) h
 | @ins a C dx fs ea cl ha hn htk hm=>
  f_len
  obtain⟨mA,O,_⟩:=z7i I.hok ea;obtain⟨od,J,_⟩:=O.look;exact vf (W.kitx_own (cl.get _) cl.hd ha hn htk hm) I.kIn J e (λz=>nomatch z) h
end
structure Room (k:Nat)(A:Around):Prop where
 hd:A.handled=none
 dp:A.depth+3*k+5<recursionLimit
 un:A.units+16*k+200<cLine
def Room.mono {j k:Nat}{A:Around}(r:Room k A)(h:j<=k):Room j A:=⟨r.hd,by have:=r.dp;lia,by have:=r.un;lia⟩
theorem Room.deeper {k:Nat}{A:Around}(r:Room (k+1) A)(env:Env):Room k (A.deeper env):=
 ⟨r.hd,by have:=r.dp;show A.depth+1+3*k+5<_;lia,by have:=r.un;show A.units+3+16*k+200<_;lia⟩
def zaj {A:Around}{C:Addr}{us:List Value}{kw:List (Str × Value)}:(A.under (.builtin "type.__call__" ⟨.ref C::us,kw⟩)).depth=A.depth+1:=by
 first | rfl | simp[Around.under,Code.weight,Code.isCreation,Code.isGuard,Code.isCaller,Code.frames,Code.isFrame,guardIds]
def zai {A:Around}{C:Addr}{us:List Value}{kw:List (Str × Value)}:(A.under (.builtin "type.__call__" ⟨.ref C::us,kw⟩)).units=A.units+1:=by
 first | rfl | simp[Around.under,Code.cUnits,Code.frames,Code.isFrame]
def Room.make {k:Nat}{A:Around}(r:Room (k+1) A)(C:Addr)(us:List Value)(kw:List (Str × Value)):Room k (A.under (.builtin "type.__call__" ⟨.ref C::us,kw⟩)):=
 ⟨r.hd,by have:=r.dp;rw[zaj];lia,by have:=r.un;rw[zai];lia⟩
theorem Room.depth {k:Nat}{A:Around}(r:Room k A):A.depth<recursionLimit:=by have:=r.dp;lia
theorem Room.units {k:Nat}{A:Around}(r:Room k A):A.units+64<cLine:=by have:=r.un;lia
def tNil:TA:=λ_ H Q=>Q [] H
def zgK (ta:TE)(tr:TA):TA:=λσ H Q=>ta σ H λx H1=>tr σ H1 λxs H2=>Q (x::xs) H2
section
variable {X:Cx}{e:Expr}{es:List Expr}{te:TE}{t:TA}{pos:Pos}
def z3u:PA X [] tNil:=λ_ _ _ _ H Q I h=>Calls.spliced_nil ⟨[],H,I,.nil,h⟩
def z4O (ha:PE X e te)(hr:PA X es t)(hs:starEach (e::es) X.env=(false,eval e X.env)::starEach es X.env:=by rfl):PA X (e::es) (zgK te t):=by
 intro pos pins s σ H Q I h;rw[hs];show wpAny _ _ (spliced ((false,eval e X.env)::backTo pos (starEach es X.env))) _ _ s;refine Calls.spliced_cons (thn (ha pins s σ H _ I h) λu s1 z9 =>?_);z_run;exact thn (hr pos pins s1 σ H1 _ I1 q1) λus s2 ⟨xs,H2,I2,r2,q2⟩=>⟨x::xs,H2,I2,.cons r1 r2,q2⟩
def tTup (t:TA):TE:=λσ H Q=>t σ H λxs H1=>xs.length<=sizeLine/\∀p,H1 p=none->Q (.ref p) (upd H1 p (.tup xs))
def tLst (t:TA):TE:=λσ H Q=>t σ H λxs H1=>xs.length<=sizeLine/\∀p,H1 p=none->Q (.ref p) (upd H1 p (.lst xs))
def zes {x1}(h:PA X es t):PE X (.Tuple es x1 pos) (tTup t):=by
 intro pins s σ H Q I hq;k_one;have hf:H1 s1.heap.objs.size=none:=I1.hok.fresh (wG _);refine⟨.ref s1.heap.objs.size,upd H1 s1.heap.objs.size (.tup xs),I1.laid (t':=s1.toks) (λb u e=>wm _ e) (wG _) ?_,rfl,q _ hf⟩;exact⟨z,us,r,⟨_,wB _ rfl,rfl,_,rfl⟩,_,wB _ rfl,rfl⟩
def z4t (h:PA X es t):PE X (.List es pos) (tLst t):=by
 intro pins s σ H Q I hq;refine wpAny_List_spliced (thn (h pos pins s σ H _ I hq) λus s1 ⟨xs,H1,I1,r,z,q⟩=>⟨by rw[<- r.length];exact z,?_⟩);have hf:H1 s1.heap.objs.size=none:=I1.hok.fresh (wG _);refine⟨.ref s1.heap.objs.size,upd H1 s1.heap.objs.size (.lst xs),I1.laid (t':=s1.toks) (λb u e=>wm _ e) (wG _) ?_,rfl,q _ hf⟩;exact⟨z,us,0,r,wB _ rfl⟩
end
abbrev Sp:=List V->Hp->VK->XK->Prop
abbrev CXT:=List Env->Hp->Shared->XK->Value->Shared->Prop
structure Env0 (P:Program)(w:World)(K:W.Frag)(mg:WmP)(base:Heap)(A:Around)(outer:List Env)(s:Shared)(H:Hp):Prop where
 frames:A.frames=some outer
 mod:Mod K mg base
 bs:∀b o,base.get? b=some o->s.heap.get? b=some o/\H b=none
 bsz:base.objs.size<=s.heap.objs.size
 funs:s.heap.FunFrames base outer
 frf:∀b∈frs outer,H b=none
 tbs:Tbs K H
 hok:HOk P w H s.heap
 bare:AllBare s.gens
def CE (outer:List Env)(P:Program)(w:World)(H:Hp)(s:Shared)(Q:VK)(u:Value)(s':Shared):Prop:=
 ∃v H',s'.os=s.os/\AllBare s'.gens/\Un (frs outer) [] H H' s.heap s'.heap/\HOk P w H' s'.heap/\RelV v u/\Q v H'
def CR (CX:CXT)(outer:List Env)(P:Program)(w:World)(H:Hp)(s:Shared)(Q:VK)(E:XK)(r:Result)(s':Shared):Prop:=
 match r with
 | .ok (.ret u)=>CE outer P w H s Q u s'
 | .ok _=>False
 | .error e=>CX outer H s E e s'
structure FnOk (P:Program)(w:World)(K:W.Frag)(mg:WmP)(base:Heap)(CX:CXT)(k:Nat)(f:Addr)(fd:FuncData)(ps:List Str)(sp:Sp):Prop where
 len:∀vs H Q E,sp vs H Q E->vs.length=ps.length
 run:∀(A:Around) (outer:List Env) (s:Shared) (H:Hp) (args:Args) (us:List Value) (vs:List V) (Q:VK) (E:XK),Room k A->Env0 P w K mg base A outer s H->BindsTo s fd args (ps.zip us)->Vals vs us->sp vs H Q E->
  codeAny (model P w) A (.call (.ref f) args) (CR CX outer P w H s Q E) s
def FnOk.imp {P:Program}{w:World}{K:W.Frag}{mg:WmP}{base:Heap}{CX:CXT}{k:Nat}{f:Addr}{fd:FuncData}{ps:List Str}{sp sp':Sp}(F:FnOk P w K mg base CX k f fd ps sp)
  (h:∀vs H Q E,sp' vs H Q E->sp vs H Q E):FnOk P w K mg base CX k f fd ps sp':=
 ⟨λvs H Q E q=>F.len vs H Q E (h _ _ _ _ q),λA outer s H args us vs Q E hr he hb hv hs=>F.run A outer s H args us vs Q E hr he hb hv (h _ _ _ _ hs)⟩
def Env0.make {P:Program}{w:World}{K:W.Frag}{mg:WmP}{base:Heap}{A:Around}{outer:List Env}{s:Shared}{H:Hp}(e:Env0 P w K mg base A outer s H)(C:Addr)(us:List Value)(kw:List (Str × Value)):
  Env0 P w K mg base (A.under (.builtin "type.__call__" ⟨.ref C::us,kw⟩)) outer s H:=⟨by first | exact e.frames | (simpa[Around.under,Code.envs,Code.isFrame,pushEnvs] using e.frames),e.mod,e.bs,e.bsz,e.funs,e.frf,e.tbs,e.hok,e.bare⟩
section
variable {X:Cx}{pins:List (Addr × Obj)}{σ:St}{H:Hp}{s s':Shared}
def Inv.env0 (I:Inv X pins σ H s):Env0 X.prog X.w X.K X.mg X.base X.A X.stack s H:=
 ⟨I.ok.frames,I.ok.mod,I.bs,wX I.ok.bsz I.sz,I.stack,I.stkFree,I.tbs,I.hok,I.bare⟩
def Inv.after {Q:VK}{u:Value}(I:Inv X pins σ H s)(h:CE X.stack X.prog X.w H s Q u s'):EP X pins σ Q u s':=by
 obtain⟨v,H',os,bare,un,hok,r,q⟩:=h;obtain⟨hh,g,d,t,os'⟩:=s';obtain rfl:os'=s.os:=os;exact⟨v,H',I.call (h':=hh) (g':=g) (d':=d) (t':=t) (ch:=[]) un hok bare (λb z=>absurd z (by simp)),r,q⟩
end
def za1 (sp:Sp)(dvs:List V)(E:XK)(t:TA):TE:=λσ H Q=>t σ H λvs H1=>sp (vs++dvs) H1 Q E
def zcK (C:Addr)(m:Str)(sp:Sp)(dvs:List V)(E:XK)(ta:TE)(t:TA):TE:=λσ H Q=>ta σ H λx H1=>∃a dx fs,x = .ref a/\H1 a=some (.ins C dx fs)/\fs.lookup m=none/\
 t σ H1 λvs H2=>sp (x::(vs++dvs)) H2 Q E
def zgE (C:Addr)(sp:Sp)(dvs:List V)(E:XK)(t:TA):TE:=λσ H Q=>t σ H λvs H1=>∀x dx,H1 x=none->H1 dx=none->dx≠x->
 sp (.ref x::(vs++dvs)) (upd (upd H1 dx (.own x)) x (.ins C dx [])) (λv H2=>v = .non/\Q (.ref x) H2) E
def z34 (K:W.Frag)(fd:FuncData)(ps:List Str)(ds:List Value):Prop:=
 ∀(s:Shared) (us:List Value),K.In s.heap->(us++ds).length=ps.length->BindsTo s fd ⟨us,[]⟩ (ps.zip (us++ds))
def z34.all {K:W.Frag}{fd:FuncData}{ps:List Str}(h:∀us:List Value,us.length=ps.length->bindArgs fd ⟨us,[]⟩=pure (ps.zip us)):z34 K fd ps []:=λs us _ hl=>by
 rw[wQ] at hl ⊢;exact .of_eq (h us hl)
def z1j (CX:CXT)(X:Cx)(E:XK):Prop:=∀(pins:List (Addr × Obj)) (σ:St) (H:Hp) (s:Shared) (e:Value) (s':Shared),Inv X pins σ H s->CX X.stack H s E e s'->X.xe e s'
section
variable {X:Cx}{CX:CXT}{k:Nat}{f C:Addr}{fd:FuncData}{ps:List Str}{sp:Sp}{dvs:List V}{ds:List Value}{E:XK}{x m:Str}{p pos apos:Pos}{e o:Expr}{es:List Expr}{ta:TE}{t:TA}
def z9o {pins:List (Addr × Obj)}{σ:St}{H:Hp}{s:Shared}{Q:VK}{us:List Value}{vs:List V}(F:FnOk X.prog X.w X.K X.mg X.base CX k f fd ps sp)(hr:Room k X.A)(hb:z34 X.K fd ps ds)(hd:Vals dvs ds)(hx:z1j CX X E)
  (I:Inv X pins σ H s) (r:Vals vs us) (h:sp (vs++dvs) H Q E):wpAny (model X.prog X.w) X.A (call (.ref f) us) (EP X pins σ Q) X.xe s:=by
 have r2:Vals (vs++dvs) (us++ds):=r.append hd;have hl:(us++ds).length=ps.length:=by rw[<- r2.length];exact F.len _ _ _ _ h
 f_tup
 cases r with
 | error e=>exact hx pins σ H s e s' I hq
 | ok fl=>
  cases fl with
  | ret u=>exact I.after hq
  | next=>exact False.elim hq
  | brk=>exact False.elim hq
  | cont=>exact False.elim hq
def zfU (F:FnOk X.prog X.w X.K X.mg X.base CX k f fd ps sp)(hr:Room k X.A)(hg:Gl X x)(hm:X.mg x=some (.ref f))(hk:W.keepIn X.K (.ref f)=true)(hb:z34 X.K fd ps ds)(hd:Vals dvs ds)(hx:z1j CX X E)
  (ha:PA X (e::es) t) (hdb:(x == ("__debug__":Str))=false:=by decide) (he:starEach (e::es) X.env=(false,eval e X.env)::starEach es X.env:=by rfl) (hpl:(backTo pos (starEach es X.env)).any (·.1)=false:=by rfl):
  PE X (.Call (.Name x p) (e::es) [] pos) (za1 sp dvs E t):=by
 z_go;refine vT (z31 I hg hm ?_ hdb);l_bnd;exact z9o F hr hb hd hx I1 r q
def zdo (F:FnOk X.prog X.w X.K X.mg X.base CX k f fd ps sp)(hr:Room k X.A)(hg:Gl X x)(hm:X.mg x=some (.ref f))(hk:W.keepIn X.K (.ref f)=true)(hb:z34 X.K fd ps ds)(hd:Vals dvs ds)(hx:z1j CX X E)
  (hdb:(x == ("__debug__":Str))=false:=by decide):PE X (.Call (.Name x p) [] [] pos) (za1 sp dvs E tNil):=by
 z_go;refine vT (z31 I hg hm ?_ hdb);exact W.callWith_K0 I.kIn hk (z9o (us:=[]) F hr hb hd hx I .nil h)
def zfR {pl:Sem Bool}(he:PE X o ta)(c:Cls X.K C)(hm:Meth X.K C m f)(F:FnOk X.prog X.w X.K X.mg X.base CX k f fd ps sp)(hr:Room k X.A)(hb:z34 X.K fd ps ds)(hd:Vals dvs ds)(hx:z1j CX X E)(ha:PA X (e::es) t)
  (hst:starEach (e::es) X.env=(false,eval e X.env)::starEach es X.env:=by rfl) (hpl:(backTo pos (starEach es X.env)).any (·.1)=false:=by rfl)
  (ht:eval (.Call (.Attribute o m apos) (e::es) [] pos) X.env=(do
   let ov <- eval o X.env
   standAt apos.atName
   let (f,first) <- holding [ov] (getMethod ov m pl)
   callWith pos f first (backTo pos (starEach (e::es) X.env)) (backToKw pos (keywordEach [] X.env))):=by rfl):
  PE X (.Call (.Attribute o m apos) (e::es) [] pos) (zcK C m sp dvs E ta t):=by
 z_go;k_mem;obtain⟨x,H1,I1,rx,a,dx,fs,ex,ea,l,q⟩:=z9;subst ex;ks_is;refine z4W I1 ea c hm l ?_;tm_up;exact z9o (us :=.ref a::us) (vs :=.ref a::vs) F hr hb hd hx I2 (.cons rfl r) q2
def z9x {pl:Sem Bool}(he:PE X o ta)(c:Cls X.K C)(hm:Meth X.K C m f)(F:FnOk X.prog X.w X.K X.mg X.base CX k f fd ps sp)(hr:Room k X.A)(hb:z34 X.K fd ps ds)(hd:Vals dvs ds)(hx:z1j CX X E)
  (ht:eval (.Call (.Attribute o m apos) [] [] pos) X.env=(do
   let ov <- eval o X.env
   standAt apos.atName
   let (f,first) <- holding [ov] (getMethod ov m pl)
   callWith pos f first (backTo pos (starEach [] X.env)) (backToKw pos (keywordEach [] X.env))):=by rfl):
  PE X (.Call (.Attribute o m apos) [] [] pos) (zcK C m sp dvs E ta tNil):=by
 z_go;k_mem;obtain⟨x,H1,I1,rx,a,dx,fs,ex,ea,l,q⟩:=z9;subst ex;ks_is;refine z4W I1 ea c hm l ?_;exact W.callWith_K0 (first:=[.ref a]) I1.kIn hm.kp (z9o (us:=[.ref a]) (vs:=[.ref a]) F hr hb hd hx I1 (.cons rfl .nil) q)
structure Mk (K:W.Frag)(C f:Addr):Prop where
 makes:W.makesIn K C=true
 init:W.findIn K (.ref C) "__init__"=some (some (.ref f))
 fn:W.isFn K (.ref f)=true
 kp:W.keepIn K (.ref C)=true
def zcT {pins:List (Addr × Obj)}{σ:St}{H:Hp}{s:Shared}{Q:VK}{us:List Value}{vs:List V}(M:Mk X.K C f)(F:FnOk X.prog X.w X.K X.mg X.base CX k f fd ps sp)(hr:Room (k+1) X.A)(hb:z34 X.K fd ps ds)(hd:Vals dvs ds)
  (hx:z1j CX X E) (I:Inv X pins σ H s) (r:Vals vs us)
  (h:∀x dx,H x=none->H dx=none->dx≠x->sp (.ref x::(vs++dvs)) (upd (upd H dx (.own x)) x (.ins C dx [])) (λv H2=>v = .non/\Q (.ref x) H2) E):
  wpAny (model X.prog X.w) X.A (call (.ref C) us) (EP X pins σ Q) X.xe s:=by
 have hq:=h (s.heap.objs.size+1) s.heap.objs.size (I.hok.fresh (Nat.le_succ _)) (I.hok.fresh (wG _)) (wT (uI _));have I2:=Inv.made (C:=C) I;have r2:Vals (V.ref (s.heap.objs.size+1)::(vs++dvs)) (Value.ref (s.heap.objs.size+1)::(us++ds)) :=.cons rfl (r.append hd);have hl:(Value.ref (s.heap.objs.size+1)::us++ds).length=ps.length:=by
  have e:=r2.length;rw[F.len _ _ _ _ hq] at e;exact e.symm
 refine wpAny_call (zdE (f:=f) I.kIn M.makes M.init (uh.mp M.fn) (uX (F.run _ X.stack _ _ ⟨Value.ref (s.heap.objs.size+1)::us,[]⟩ (Value.ref (s.heap.objs.size+1)::(us++ds)) _ _ E (hr.make C us [])
  (I2.env0.make C us []) (hb _ (Value.ref (s.heap.objs.size+1)::us) I2.kIn hl) r2 hq) λr s' hq' =>?_))
 cases r with
 | error e=>exact hx pins σ _ _ e s' I2 hq'
 | ok fl=>
  cases fl with
  | ret u=>
   obtain⟨v,H',I3,rv,ev,q3⟩:=I2.after hq';subst ev;exact⟨rv,⟨V.ref (s.heap.objs.size+1),H',I3,rfl,q3⟩⟩
  | next=>exact False.elim hq'
  | brk=>exact False.elim hq'
  | cont=>exact False.elim hq'
def zdj (M:Mk X.K C f)(F:FnOk X.prog X.w X.K X.mg X.base CX k f fd ps sp)(hr:Room (k+1) X.A)(hg:Gl X x)(hm:X.mg x=some (.ref C))(hb:z34 X.K fd ps ds)(hd:Vals dvs ds)(hx:z1j CX X E)
  (hdb:(x == ("__debug__":Str))=false:=by decide):PE X (.Call (.Name x p) [] [] pos) (zgE C sp dvs E tNil):=by
 z_go;refine vT (z31 I hg hm ?_ hdb);exact W.callWith_K0 I.kIn M.kp (zcT (us:=[]) M F hr hb hd hx I .nil h)
end
def PK (X:Cx)(kws:List Keyword)(t:TA):Prop:=
 ∀(pos:Pos) (pins:List (Addr × Obj)) (s:Shared) (σ:St) (H:Hp) (Q:List V->Hp->Prop),Inv X pins σ H s->t σ H Q->wpAny (model X.prog X.w) X.A (evalAll ((backToKw pos (keywordEach kws X.env)).map (·.2))) (AP X pins σ Q) X.xe s
structure z1U (N P:List Str)(sc:Scope):Prop where
 kind:sc.kind = .function
 co:sc.isCoroutine=false
 gen:sc.isGenerator=false
 nd:N.Nodup
 pre:N.take P.length=P
 par:∀x∈P,sc.names.lookup x=some .local\/sc.names.lookup x=some .cell
 nofree:∀y∈sc.names,y.2 ≠ .free
theorem z8o {kindOf:Str->Option NameKind}{x:Str}:∀{binds:List (Str × Value)}{m:WmP},(∀v,(x,v) ∉ binds)->bindL kindOf binds m x=m x
 | [],_,_=>rfl
 | (n,v)::r,m,h=>by
  unfold bindL;rw[z8o λw hw=>h w (we _ hw)]
  split
  .have:x≠n:=by rintro rfl;exact h v ww
   simp[this]
  .rfl
theorem z8q {kindOf:Str->Option NameKind}{x:Str}:∀{binds:List (Str × Value)}{m:WmP},(∀v,(x,v) ∉ binds)->bindC kindOf binds m x=m x
 | [],_,_=>rfl
 | (n,v)::r,m,h=>by
  unfold bindC;rw[z8q λw hw=>h w (we _ hw)]
  split
  .rfl
  .have:x≠n:=by rintro rfl;exact h v ww
   simp[this]
theorem z8p {kindOf:Str->Option NameKind}{x:Str}{v:Value}:∀{P:List Str}{vs:List Value}{i:Nat}{m:WmP},P.Nodup->P[i]? = some x->vs[i]? = some v->kindOf x=some .local->
  bindL kindOf (P.zip vs) m x=some v
 | [],_,_,_,_,h,_,_=>by simp at h
 | _::_,[],_,_,_,_,h,_=>by simp at h
 | p::P,w::vs,0,m,nd,h1,h2,hk=>by
  simp at h1 h2;subst h1;subst h2;show bindL kindOf ((p,w)::P.zip vs) m p=_;unfold bindL;rw[z8o λv hv=>(wO.mp nd).1 (List.of_mem_zip hv).1,if_pos hk];simp
 | p::P,w::vs,i+1,m,nd,h1,h2,hk=>by
  show bindL kindOf ((p,w)::P.zip vs) m x=_;unfold bindL;exact z8p (i:=i) (wO.mp nd).2 (by simpa using h1) (by simpa using h2) hk
theorem z8r {kindOf:Str->Option NameKind}{x:Str}{v:Value}:∀{P:List Str}{vs:List Value}{i:Nat}{m:WmP},P.Nodup->P[i]? = some x->vs[i]? = some v->kindOf x≠some .local->
  bindC kindOf (P.zip vs) m x=some v
 | [],_,_,_,_,h,_,_=>by simp at h
 | _::_,[],_,_,_,_,h,_=>by simp at h
 | p::P,w::vs,0,m,nd,h1,h2,hk=>by
  simp at h1 h2;subst h1;subst h2;show bindC kindOf ((p,w)::P.zip vs) m p=_;unfold bindC;rw[z8q λv hv=>(wO.mp nd).1 (List.of_mem_zip hv).1,if_neg hk];simp
 | p::P,w::vs,i+1,m,nd,h1,h2,hk=>by
  show bindC kindOf ((p,w)::P.zip vs) m x=_;unfold bindC;exact z8r (i:=i) (wO.mp nd).2 (by simpa using h1) (by simpa using h2) hk
def z3G (N:List Str)(vs:List V):St:=vs.map some++List.replicate (N.length - vs.length) none
def cxOf (CX:CXT)(P:Program)(w:World)(K:W.Frag)(mg:WmP)(base:Heap)(N:List Str)(qual:Str)(scope:Scope)(f:Addr)(cd:Value)(A:Around)(outer:List Env)(s:Shared)(H:Hp)(E:XK):Cx where
 prog:=P
 w:=w
 K:=K
 mg:=mg
 base:=base
 A:=A.deeper (envOfC qual scope s.heap.objs.size f cd)
 N:=N
 s₀:=s
 H₀:=H
 env:=envOfC qual scope s.heap.objs.size f cd
 outer:=outer
 stack:=envOfC qual scope s.heap.objs.size f cd::outer
 ex:=[]
 calm:=true
 fn:=λ_=>true
 pn:=[]
 xe:=λe s'=>wpAny (model P w) (A.deeper (envOfC qual scope s.heap.objs.size f cd)) (leaving (envOfC qual scope s.heap.objs.size f cd) e) (λ_ s''=>CX outer H s E e s'') (λe' s''=>CX outer H s E e' s'') s'
def z9T {sc:Scope}{n:Nat}{x:Str}(h:sc.names.lookup x=some .cell):∃c,(cellsFrom n sc.names []).lookup x=some c:=by
 have q:=W.cellsFrom_some sc.names n [] (.inl h);exact ui.mp q
def z8d {CX:CXT}{P:Program}{w:World}{K:W.Frag}{mg:WmP}{base:Heap}{N ps:List Str}{qual:Str}{scope:Scope}{f:Addr}{cd:Value}{A:Around}{outer:List Env}{s s1:Shared}{H:Hp}{E:XK}{us:List Value}{vs:List V}
  (S:z1U N ps scope) (hd:A.handled=none) (e0:Env0 P w K mg base A outer s H) (hl:vs.length=ps.length) (r:Vals vs us)
  (x:InCallC s s.heap.objs.size (bindL (envOfC qual scope s.heap.objs.size f cd).kindOf (ps.zip us) λ_=>none) (cellsFrom (s.heap.objs.size+1) scope.names []) (bindC (envOfC qual scope s.heap.objs.size f cd).kindOf (ps.zip us) λ_=>none) s1):
  Inv (cxOf CX P w K mg base N qual scope f cd A outer s H E) [] (z3G N vs) H s1:=by
 have hpl:ps.length<=N.length:=by have:=congrArg List.length S.pre;rw[List.length_take] at this;lia
 obtain⟨h1,tk,rfl,hk⟩:=x.done;have noA:∀b:Addr,b ∉ (cxOf CX P w K mg base N qual scope f cd A outer s H E).ex:=λb z=>absurd (show b∈([]:List Addr) from z) (by simp);refine⟨⟨e0.mod,S.kind,rfl,rfl,wG _,λy z c h1 h2 =>?_,λy hy =>?_,λy c _ h =>?_,λ_=>hd,Around.frames_deeper e0.frames,.inr ⟨rfl,rfl⟩,λb z=>absurd z (noA b),e0.bs,e0.bsz,λb _ _=>noA b,λb z=>absurd z (noA b),e0.funs,e0.frf,e0.tbs⟩,
  rfl,e0.bare,Un.kept hk,⟨_,x.toInCall.ns,λi y v h1 h2 h3 =>?_⟩,λy c h=>⟨_,x.cell y c h⟩,e0.hok.fresh (wG _),λy c h =>?_,λp hp=>absurd (show p∈([]:List (Addr × Obj)) from hp) (by simp),e0.hok.kept hk,?_⟩
 .exact name_of_addr x.apart (uq h1) (uq h2)
 .have hy:scope.names.lookup y=some .cell\/scope.names.lookup y=some .free:=hy
  rcases hy with hy | hy
  .exact z9T hy
  .exact absurd rfl (S.nofree _ (uq hy))
 .exact uW (x.above y c (uq h))
 .have hi:i<vs.length:=by
   unfold z3G at h2
   by_cases hi:i<vs.length
   .exact hi
   .rw[vN (by simpa using hi)] at h2;rw[ur] at h2
    split at h2 <;> cases h2
  have ha:vs[i]? = some v:=by
   unfold z3G at h2;rw[vE (by simpa using hi),wR] at h2
   cases e:vs[i]? with
   | none=>rw[e] at h2;cases h2
   | some a=>rw[e] at h2;cases h2;rfl
  obtain⟨u,hu,rv⟩:=r.get ha;have hp:ps[i]? = some y:=by
   rw[<- S.pre,List.getElem?_take_of_lt (by lia)];exact h1
  have ndP:ps.Nodup:=by rw[<- S.pre];exact S.nd.sublist (List.take_sublist _ _)
  refine⟨u,rv,?_⟩
  rcases S.par y (wH hp) with k | k
  .exact .inl ⟨k,z8p ndP hp hu k⟩
  .obtain⟨c,e⟩:=z9T (n:=s.heap.objs.size+1) k;refine .inr ⟨.inl k,c,e,?_⟩;have q:=x.cell y c e;rw[z8r ndP hp hu (by show scope.names.lookup y≠_;rw[k];decide)] at q;exact q
 .exact e0.hok.fresh (uW (x.above y c (uq h)))
 .unfold z3G;show _=N.length;rw[wz,wc,vG];lia
def ziQ {CX:CXT}{P:Program}{w:World}{K:W.Frag}{mg:WmP}{base:Heap}{k:Nat}{f:Addr}{name qual:Str}{params:Arguments}{body:List Stmt}{scope:Scope}{dV kV doc pm cdv ct oc:Value}{an od:Option Addr}
  {osl:Array (Option Value)}{N ps:List Str}{sp:Sp}(lk:K.lookup f=some ⟨oc,od,.func (W.fnOf name qual params body scope dV kV doc pm an cdv ct),osl⟩) (hcd:W.codeIn K cdv qual=true) (S:z1U N ps scope)
  (len:∀vs H Q E,sp vs H Q E->vs.length=ps.length)
  (hbody:∀(A:Around) (outer:List Env) (s:Shared) (H:Hp) (vs:List V) (Q:VK) (E:XK),Room k (A.deeper (envOfC qual scope s.heap.objs.size f cdv))->sp vs H Q E->
   ∃t,PSs (cxOf CX P w K mg base N qual scope f cdv A outer s H E) body t/\t { nx:=λ_ H'=>Q .non H',rt:=Q } (z3G N vs) H):
  FnOk P w K mg base CX (k+1) f (W.fnOf name qual params body scope dV kV doc pm an cdv ct) ps sp:=by
 refine⟨len,λA outer s H args us vs Q E hr e0 hb r hsp =>?_⟩;have hl:=len _ _ _ _ hsp;have KX:K.In s.heap:=e0.mod.kin.keeps λb o e=>(e0.bs b o e).1;have lim:s.heap.NoLimit:=e0.mod.nolimit.keeps λb o e=>(e0.bs b o e).1;have hkind:∀y∈ps.zip us,scope.names.lookup y.1=some .local\/(scope.names.lookup y.1=some .cell/\((cellsFrom (s.heap.objs.size+1) scope.names []).lookup y.1).isSome=true):=by
  rintro⟨n,v⟩ hy
  rcases S.par n (List.of_mem_zip hy).1 with q | q
  .exact .inl q
  .exact .inr ⟨q,W.cellsFrom_some _ _ _ (.inl q)⟩
 refine codeAny_call_function hr.depth (KX _ _ lk) rfl S.co S.gen rfl (W.codeRec_of KX hcd) (hb _ _ _ _ ?_);refine wpAny_newFunctionEnv_cells S.kind hkind λenv he s1 x =>?_;subst he;refine⟨lim.keeps x.toInCall.keep,codeAny_func ?_⟩;obtain⟨t,ht,hq⟩:=hbody A outer s H vs Q E (hr.deeper _) hsp;have I:Inv (cxOf CX P w K mg base N qual scope f cdv A outer s H E) [] (z3G N vs) H s1:=z8d S hr.hd e0 hl r x;refine va (ht [] s1 (z3G N vs) H _ I hq) (λfl s' hs =>?_) λe s' hs=>hs;have fin:∀{σ':St}{H':Hp}{v:V}{u:Value},Inv (cxOf CX P w K mg base N qual scope f cdv A outer s H E) [] σ' H' s'->RelV v u->Q v H'->CE outer P w H s Q u s':=
  λ{σ' H' v u} J rv q=>⟨v,H',J.os,J.bare,J.base,J.hok,rv,q⟩
 cases fl with
 | ret u=>
  obtain⟨v,σ',H',J,rv,q⟩:=hs;exact fin J rv q
 | next=>
  obtain⟨σ',H',J,q⟩:=hs;exact fin (v:=V.non) (u:=Value.none) J rfl q
 | brk=>
  obtain⟨_,_,_,q⟩:=hs;exact False.elim q
 | cont=>
  obtain⟨_,_,_,q⟩:=hs;exact False.elim q
section
variable {X:Cx}{x:Str}{p pos:Pos}{e:Expr}{es:List Expr}{t:TA}{id T:String}{r:List V->Hp->VK->Prop}
def tCB (r:List V->Hp->VK->Prop)(t:TA):TE:=λσ H Q=>t σ H λvs H1=>r vs H1 Q
def zdn (hc:z1k X (.builtin id) r)(hg:Gl X x)(hm:X.mg x=none)(hv:bootBuiltins x=some (.builtin id))(ha:PA X (e::es) t)(hn:x≠"__name__":=by decide)(hdb:(x == ("__debug__":Str))=false:=by decide)
  (he:starEach (e::es) X.env=(false,eval e X.env)::starEach es X.env:=by rfl) (hpl:(backTo pos (starEach es X.env)).any (·.1)=false:=by rfl):PE X (.Call (.Name x p) (e::es) [] pos) (tCB r t):=by
 z_go;refine vT (z8a I hg hm hv ?_ hn hdb);exact PyProof.Rows.callWith_builtin1 (thn (ha pos pins s σ H _ I h) λus s1 ⟨vs,H1,I1,r1,q1⟩=>hc pins s1 σ H1 vs us Q I1 r1 q1) he hpl
def zbF (hc:z1k X (.type T) r)(hg:Gl X x)(hm:X.mg x=none)(hv:bootBuiltins x=some (.type T))(ha:PA X (e::es) t)(hn:x≠"__name__":=by decide)(hdb:(x == ("__debug__":Str))=false:=by decide)
  (he:starEach (e::es) X.env=(false,eval e X.env)::starEach es X.env:=by rfl) (hpl:(backTo pos (starEach es X.env)).any (·.1)=false:=by rfl):PE X (.Call (.Name x p) (e::es) [] pos) (tCB r t):=by
 z_go;refine vT (z8a I hg hm hv ?_ hn hdb);exact uB (thn (ha pos pins s σ H _ I h) λus s1 ⟨vs,H1,I1,r1,q1⟩=>hc pins s1 σ H1 vs us Q I1 r1 q1) he hpl
end
end L2
namespace HT
open PySem PyProof.Rows
def z1y:List Int->List Int->Bool
 | [],[]=>false
 | [],_::_=>true
 | _::_,[]=>false
 | x::xs,y::ys=>if x=y then z1y xs ys else decide (x<y)
def z4V (x y:Int)(xs ys:List Int):z1y (x::xs) (y::ys)=if x=y then z1y xs ys else decide (x<y):=rfl
def z30:z1y [] []=false:=rfl
def z2K (y:Int)(ys:List Int):z1y [] (y::ys)=true:=rfl
def z2L (x:Int)(xs:List Int):z1y (x::xs) []=false:=rfl
def z7q (A:Around)(s:Shared)(a:Int)(t:Tok)(c:Int)(u:Tok):∃e,SeqAt.EqAt A s (.int a t) (.int c u) e/\(e=true↔a=c):=
 ⟨(a == c),SeqAt.EqAt.int_int a t c u,by simp⟩
def zcU (A:Around)(s:Shared)(a:Int)(t:Tok)(c:Int)(u:Tok)(prog:Program)(w:World)(E:WvP)(Q:WvP)(h:Q (.bool (decide (a<c))) s):
  wpAny (model prog w) A (richCompare .Lt (.int a t) (.int c u)) Q E s:=
 (PyProof.Rows.lt_int h:wpAny (model prog w) A (compareOp .Lt (.int a t) (.int c u)) Q E s)
section
open PySem.SeqAt
open PySem.AutoSeq1 (wpAny_loadPart')
open PySem.MeetsSeq PySem.MeetsSeq2 PySem.MeetsSeq3
def z6K (l b:Addr)(items items2:Array Value)(n n2:Nat)(dd dd2:Option Addr)(sl sl2:Array (Option Value))(ns ms:List Int)(hi:IntsAre items.toList ns)(hj:IntsAre items2.toList ms):
  Meets (Builtin.«tuple.__lt__» ⟨[.ref l,.ref b],[]⟩)
   (λ_ R s=>s.heap.get? l=some { cls :=.type "tuple",dict:=dd,data :=.seq items n,slots:=sl }/\s.heap.get? b=some { cls :=.type "tuple",dict:=dd2,data :=.seq items2 n2,slots:=sl2 }/\
    R (.ok (.ret (.bool (z1y ns ms)))) s):=
 .of_wp λprog w A R s h=>by
  obtain⟨hp,g,d,tk,os⟩:=s;obtain⟨hl,hb,h⟩:=h;have f2:=AutoSeq1.sub_tuple_tuple;have z1:items.size=ns.length:=by rw[<- hi.length];simp
  have z2:items2.size=ms.length:=by rw[<- hj.length];simp
  wp_walk using v6 hl,v6 hb,wpAny_forIn_list _ (λrest b s'=>b.1=none/\s'=⟨hp,g,d,tk,os⟩/\∃(vs ws:List Value) (ns' ms':List Int),rest=vs.zip ws/\
   IntsAre vs ns'/\IntsAre ws ms'/\ns'.length+items2.size=ms'.length+items.size/\R (.ok (.ret (.bool (z1y ns' ms')))) ⟨hp,g,d,tk,os⟩) _
  case turn=>
   f_are
   cases hvi with
   | nil=>rw[List.zip_nil_left] at hz;cases hz
   | cons a t hvi'=>
    cases hwi with
    | nil=>rw[List.zip_nil_right] at hz;cases hz
    | cons c u hwi'=>
     rw[wS] at hz
     injection hz with hyx hrest
     injection hyx with hy hx
     subst hy hx;rw[z4V] at hR;simp only[wL] at hlen;obtain⟨e,he,hiff⟩:=z7q A.in1 ⟨hp,g,d,tk,os⟩ a t c u;refine wa (he prog w _ _ ?_)
     cases e with
     | true=>
      rw[if_pos (hiff.mp rfl)] at hR
      wp_walk
      exact⟨rfl,rfl,_,_,_,_,hrest,hvi',hwi',by lia,hR⟩
     | false=>
      rw[if_neg (λq=>absurd (hiff.mpr q) wM)] at hR;have hri:=zcU A.in1 ⟨hp,g,d,tk,os⟩ a t c u prog w
      wp_walk using hri
      exact⟨_,rfl,by simpa using hR⟩
  case fin=>
   x_run;simp only at hb';subst hb';have hv:z1y ns' ms'=decide (items.size<items2.size):=by
    cases hvi with
    | nil=>
     cases hwi with
     | nil=>
      simp only[vw] at hlen;rw[z30];exact(wF (by lia)).symm
     | cons c u hw=>
      simp only[vw,wL] at hlen;rw[z2K];exact(wu (by lia)).symm
    | cons a t hv=>
     cases hwi with
     | nil=>
      simp only[vw,wL] at hlen;rw[z2L];exact(wF (by lia)).symm
     | cons c u hw=>
      rw[wS] at hz
      cases hz
   rw[hv] at hR
   wp_walk
   k_upd
  case h=>
   exact⟨rfl,rfl,items.toList,items2.toList,ns,ms,rfl,hi,hj,by lia,h⟩
end
section
variable {prog:Program}{w:World}{A:Around}{E:WvP}{s:Shared}
def zak {l b:Addr}{items items2:Array Value}{ns ms:List Int}{Q:WvP}(hl:IsTup s.heap l items)(hb:IsTup s.heap b items2)(hi:IntsAre items.toList ns)(hj:IntsAre items2.toList ms)
  (hu:A.units<cLine) (h:Q (.bool (z1y ns ms)) s):wpAny (model prog w) A (compareOp .Lt (.ref l) (.ref b)) Q E s:=by
 obtain⟨⟨cls,dd,data,sl⟩,ho,hc,n,hd⟩:=id hl;w_why;simp only at hc hd hc2 hd2;subst hc hd hc2 hd2;exact richCompare_meets_room (op :=.Lt) ⟨_,ho,rfl⟩ ⟨_,ho2,rfl⟩ PySem.F.slot_tuple_lt PySem.F.entry_tuple_lt (PySem.F.args_tuple_lt_2 _ _) (z6K l b items items2 n n2 dd dd2 sl sl2 ns ms hi hj)
  ⟨ho,ho2,show Value.bool (z1y ns ms)≠Value.notImplemented/\Q (.bool (z1y ns ms)) s from ⟨(λx=>nomatch x),h⟩⟩ hu
def zgn {t b:Addr}{vs ws:List Value}{Q:WvP}(ht:IsTup s.heap t vs.toArray)(hb:IsTup s.heap b ws.toArray)(hv:vs≠[])
  (h1:ws=[]->Q (.ref t) s) (h2:ws≠[]->Q (.ref s.heap.objs.size) { s with heap:=s.heap.push { cls :=.type "tuple",data :=.seq (vs++ws).toArray } })
  (hsz:vs.length+ws.length<=sizeLine):wpAny (model prog w) A (binaryOp .Add (.ref t) (.ref b)) Q E s:=by
 obtain⟨⟨cls,dd,data,sl⟩,ho,hc,n,hd⟩:=id ht;w_why;simp only at hc hd hc2 hd2;subst hc hd hc2 hd2;have e:vs.toArray++ws.toArray=(vs++ws).toArray:=by simp
 by_cases hw:ws=[]
 .exact concat_meets ⟨_,ho,rfl⟩ ⟨_,ho2,rfl⟩ noFill_tuple_add seq_tuple_add PySem.F.slot_tuple_add PySem.F.entry_tuple_add (PySem.F.args_tuple_add_2 _ _)
   (tuple_addW1 t b vs.toArray ws.toArray n n2 dd dd2 sl sl2 (by simpa using hv) (by simp[hw])) ⟨ho,ho2,h1 hw⟩
 .refine concat_meets ⟨_,ho,rfl⟩ ⟨_,ho2,rfl⟩ noFill_tuple_add seq_tuple_add PySem.F.slot_tuple_add PySem.F.entry_tuple_add (PySem.F.args_tuple_add_2 _ _)
   (tuple_addW2 t b vs.toArray ws.toArray n n2 dd dd2 sl sl2 (by simpa using hv) (by simpa using hw) (by rw[wI,wI];exact hsz)) ⟨ho,ho2,?_⟩
  rw[e];exact h2 hw
def sIx (n d:Nat):Option Int->Nat
 | none=>d
 | some v=>if v<0 then (v+(n:Int)).toNat else min v.toNat n
def zh9 (n d:Nat)(hd:d<=n)(o:Option Int):sIx n d o<=n:=by
 cases o with
 | none=>exact hd
 | some v=>
  show (if v<0 then (v+(n:Int)).toNat else min v.toNat n)<=n
  by_cases hv:v<0
  .rw[if_pos hv];lia
  .rw[if_neg hv];exact Nat.min_le_right _ _
def zcs (v:Int)(n d:Nat):(if v<0 then max (v+(n:Int)) 0 else min v (n:Int))=((sIx n d (some v):Nat):Int):=by
 show (if v<0 then max (v+(n:Int)) 0 else min v (n:Int))=(((if v<0 then (v+(n:Int)).toNat else min v.toNat n):Nat):Int)
 by_cases hv:v<0
 .simp only[if_pos hv];lia
 .simp only[if_neg hv];lia
def zax (lo hi:Option Int)(n:Nat):Builtin.Slice.sliceAdjust lo hi 1 (n:Int)=(((sIx n 0 lo:Nat):Int),((sIx n n hi:Nat):Int)):=by
 have h1:¬ ((1:Int)<0):=by lia
 unfold Builtin.Slice.sliceAdjust;simp only[h1,if_false];refine Prod.ext ?_ ?_
 .cases lo with
  | none=>rfl
  | some v=>exact zcs v n 0
 .cases hi with
  | none=>rfl
  | some v=>exact zcs v n n
def za8 (i j:Nat):Builtin.Slice.slicePlaces (i:Int) (j:Int) 1=j - i:=by
 unfold Builtin.Slice.slicePlaces;have h1:(1:Int) > 0:=by lia
 simp only[h1,uZ,Int.ediv_one]
 split <;> lia
def z6u {v:Value}{o:Option Int}{Q:Option Int->Shared->Prop}(p:IsPart v o)(h:Q o s):wpAny (model prog w) A (Builtin.Slice.slicePartIndex v) Q E s:=by
 cases p with
 | none=>exact slicePart_none h
 | int i t=>exact slicePart_int h
def z3c {sl:Addr}{vl vu:Value}{lo hi:Option Int}{n:Nat}{Q:Int × Int × Nat->Shared->Prop}(hs:s.heap.IsSliceOf sl vl vu .none)(pl:IsPart vl lo)(pu:IsPart vu hi)
  (h:Q (((sIx n 0 lo:Nat):Int),1,sIx n n hi - sIx n 0 lo) s):wpAny (model prog w) A (Builtin.Slice.sliceApplied (.ref sl) (pure (n:Int))) Q E s:=by
 obtain⟨os,hos,hcs,hds⟩:=id hs;unfold Builtin.Slice.sliceApplied Builtin.Slice.sliceFields;refine wa (wa (vJ hos hds (x:=vl) rfl (wa (vJ hos hds (x:=vu) rfl (wa (vJ hos hds (x :=.none) rfl (wv ?_)))))));refine wa (slicePart_none ?_);show wpAny _ _ (if ((1:Int) == 0)=true then _ else _) _ _ s;rw[if_neg (by decide)];refine wa (z6u pl (wa (z6u pu (wa (wv ?_)))));show wpAny _ _ (match Builtin.Slice.sliceAdjust lo hi 1 (n:Int) with | (lo,hi)=>pure (lo,(1:Int),Builtin.Slice.slicePlaces lo hi 1)) _ _ s;rw[zax lo hi n];show wpAny _ _ (pure (((sIx n 0 lo:Nat):Int),(1:Int),Builtin.Slice.slicePlaces ((sIx n 0 lo:Nat):Int) ((sIx n n hi:Nat):Int) 1)) _ _ s;rw[za8];exact wv h
def zdf (xs:Array Value)(i k:Nat):((List.range k).filterMap λ(m:Nat)=>xs[((i:Int)+(m:Int)*1).toNat]?).toArray=((xs.toList.drop i).take k).toArray:=by
 have e:(λ(m:Nat)=>xs[((i:Int)+(m:Int)*1).toNat]?)=λm=>xs[i+m]? := by
  funext m
  have:((i:Int)+(m:Int)*1).toNat=i+m:=by lia
  rw[this]
 rw[e];have:=pick_run xs i k;rw[List.filterMap_map] at this;have e2:((λx=>xs[x]?) ∘ λx=>i+x)=λm=>xs[i+m]? := rfl;rw[e2] at this;rw[this]
def z4X {t sl:Addr}{items:Array Value}{vl vu:Value}{lo hi:Option Int}{Q:WvP}(ht:IsTup s.heap t items)(hs:s.heap.IsSliceOf sl vl vu .none)(pl:IsPart vl lo)(pu:IsPart vu hi)
  (hw:¬ (sIx items.size 0 lo=0/\sIx items.size items.size hi=items.size))
  (h:Q (.ref s.heap.objs.size) { s with heap:=s.heap.push { cls :=.type "tuple",data :=.seq ((items.toList.drop (sIx items.size 0 lo)).take (sIx items.size items.size hi - sIx items.size 0 lo)).toArray } })
  (hsz:items.size<=sizeLine):wpAny (model prog w) A (getItem (.ref t) (.ref sl)) Q E s:=by
 have htake:sizeOk (.seq ((items.toList.drop (sIx items.size 0 lo)).take (sIx items.size items.size hi - sIx items.size 0 lo)).toArray):=by
  show ((items.toList.drop (sIx items.size 0 lo)).take (sIx items.size items.size hi - sIx items.size 0 lo)).toArray.size<=sizeLine;rw[wI,List.length_take,uJ,vZ];lia
 have hj:sIx items.size items.size hi<=items.size:=zh9 _ _ (wG _) hi;obtain⟨os,hos,hcs,hds⟩:=id hs;have hTs:s.TypeIs (.ref sl) "slice":=⟨os,hos,hcs⟩
 unfold getItem
 try with_reducible refine uo ?_
 first | refine wa (wv ?_) | skip
 refine wa (wpAny_sequenceKey ht.typeIs (by decide) ?_);refine wa (vK (name:=Str.ofString "__getitem__") ht.typeIs vo
  (v9 vo ht.typeIs entry_tuple_getitem ?_ (args_tuple_getitem _ _)))
 show wpAny _ _ (Builtin.Tuple.tupleItemsOf (.ref t) >>= _) _ _ s;refine wa (tupleItemsOf_ ht ?_);refine wa (wpAny_typeOf hTs ?_);rw[if_pos (by decide)];refine wa (z3c hs pl pu ?_);have hno:¬ ((((sIx items.size 0 lo:Nat):Int) == 0 && (1:Int) == 1 && (sIx items.size items.size hi - sIx items.size 0 lo) == items.size)=true):=by
  intro q;rw[wN,wN] at q;have q1:((sIx items.size 0 lo:Nat):Int)=0:=eq_of_beq q.1.1;have q2:sIx items.size items.size hi - sIx items.size 0 lo=items.size:=eq_of_beq q.2;exact hw ⟨by lia,by lia⟩
 show wpAny _ _ (if (((sIx items.size 0 lo:Nat):Int) == 0 && (1:Int) == 1 && (sIx items.size items.size hi - sIx items.size 0 lo) == items.size)=true then _ else _) _ _ s;rw[if_neg hno,zdf]
 first
  | exact wa (m:=Builtin.Tuple.tupleExact _) (vn (wv ⟨_,rfl,wv h⟩) htake)
  | exact wa (m:=Builtin.Tuple.tupleExact _) (vn (wa (wv (wv ⟨_,rfl,wv h⟩))) htake)
  | exact wa (wa (m:=Builtin.Tuple.tupleExact _) (vn (wv (wv ⟨_,rfl,wv h⟩)) htake))
  | exact wa (wa (m:=Builtin.Tuple.tupleExact _) (vn (wv ⟨_,rfl,wv h⟩) htake))
end
end HT
namespace L2
open PySem PySem.Spec PyProof.Rows
abbrev TO:=St->Hp->(Option Int->Hp->Prop)->Prop
def PO (X:Cx)(e:Option Expr)(t:TO):Prop:=
 ∀(pins:List (Addr × Obj)) (s:Shared) (σ:St) (H:Hp) (Q:Option Int->Hp->Prop),Inv X pins σ H s->t σ H Q->
  wpAny (model X.prog X.w) X.A (evalPart e X.env) (λu s'=>∃o H',Inv X pins σ H' s'/\IsPart u o/\Q o H') X.xe s
def zaM:TO:=λ_ H Q=>Q none H
def zgC (t:TE):TO:=λσ H Q=>t σ H λx H1=>∃i,x = .int i/\Q (some i) H1
def z2i {ns:List Int}:∀{us:List Value},Vals (ns.map V.int) us->IntsAre us ns:=by
 induction ns with
 | nil=>intro us r;rw[vq] at r;cases r;exact .nil
 | cons n ns ih=>
  intro us r;rw[wA] at r
  cases r with
  | cons r1 r2=>
   obtain⟨t,e⟩:=r1;subst e;exact .cons n t (ih r2)
section
variable {X:Cx}{e:Expr}{te:TE}{lo hi:Option Expr}{tl th:TO}{pos p2:Pos}
def zfO:PO X none zaM:=by
 z_go;rw[evalPart_none];exact wv ⟨none,H,I,.none,h⟩
def zfN (h:PE X e te):PO X (some e) (zgC te):=by
 intro pins s σ H Q I hw;rw[evalPart_some];refine thn (h pins s σ H _ I hw) λu s1 z9 =>?_;z_run;obtain⟨i,rfl,q⟩:=q1;obtain⟨t,rfl⟩:=r1;exact⟨some i,H1,I1,.int i t,q⟩
def SlR (X:Cx)(r:V->Option Int->Option Int->Hp->VK->Prop):Prop:=
 ∀(pins:List (Addr × Obj)) (s:Shared) (σ:St) (H:Hp) (x:V) (v vl vu:Value) (lo hi:Option Int) (sl:Addr) (Q:VK),Inv X pins σ H s->RelV x v->s.heap.IsSliceOf sl vl vu .none->IsPart vl lo->IsPart vu hi->r x lo hi H Q->
  ∃T id,typeLookup (.type T) "__getitem__"=pure (some (.builtin id))/\s.TypeIs v T/\wpAny (model X.prog X.w) X.A (getItem v (.ref sl)) (EP X pins σ Q) X.xe s
def SlR.or {r r':V->Option Int->Option Int->Hp->VK->Prop}(h:SlR X r)(h':SlR X r'):SlR X (λx lo hi H Q=>r x lo hi H Q\/r' x lo hi H Q):=by
 intro pins s σ H x v vl vu lo hi sl Q I rx hs pl pu q
 rcases q with q | q
 .exact h pins s σ H x v vl vu lo hi sl Q I rx hs pl pu q
 .exact h' pins s σ H x v vl vu lo hi sl Q I rx hs pl pu q
def tSl (r:V->Option Int->Option Int->Hp->VK->Prop)(te:TE)(tl th:TO):TE:=λσ H Q=>te σ H λx H1=>tl σ H1 λl H2=>th σ H2 λu H3=>r x l u H3 Q
def zdh {r:V->Option Int->Option Int->Hp->VK->Prop}(hr:SlR X r)(he:PE X e te)(hl:PO X lo tl)(hu:PO X hi th):PE X (.Subscript e (.Slice lo hi none p2) pos) (tSl r te tl th):=by
 z_go;refine Subscript_ (thn (he pins s σ H _ I h) λv s1 z9 =>?_);z_run;refine wpAny_Slice (thn (hl pins s1 σ H1 _ I1 q1) λvl s2 ⟨l,H2,I2,pl,q2⟩=>thn (hu pins s2 σ H2 _ I2 q2) λvu s3 z9 =>?_);obtain⟨u,H3,I3,pu,q3⟩:=z9;rw[evalPart_none];refine wv ?_;have I4:Inv X pins σ H3 { s3 with heap:=s3.heap.push { cls :=.type "slice",data :=.fields #[vl,vu,.none] } }:=I3.kept (t':=s3.toks) λb ob q=>wm _ q;obtain⟨T,id,hT,ht,hg⟩:=hr pins { s3 with heap:=s3.heap.push { cls :=.type "slice",data :=.fields #[vl,vu,.none] } } σ H3 x v vl vu l u s3.heap.objs.size Q I4 r1 (Heap.IsSliceOf.new ..) pl pu q3;show wpAny (model X.prog X.w) X.A (subscriptTail e (.Slice lo hi none p2) v (.ref s3.heap.objs.size)) (EP X pins σ Q) X.xe { s3 with heap:=s3.heap.push { cls :=.type "slice",data :=.fields #[vl,vu,.none] } };exact tail_any (ops:=[.ref s3.heap.objs.size,v]) ht hT hg (by with_unfolding_all rfl)
def cutV (xs:List V)(lo hi:Option Int):List V:=(xs.drop (HT.sIx xs.length 0 lo)).take (HT.sIx xs.length xs.length hi - HT.sIx xs.length 0 lo)
def z68 (xs:List V)(lo hi:Option Int):(cutV xs lo hi).length<=xs.length:=by
 unfold cutV;rw[List.length_take,uJ];lia
def rSlT (K:W.Frag):V->Option Int->Option Int->Hp->VK->Prop:=λx lo hi H Q=>∃a xs,x = .ref a/\SqT K H a xs/\
 ¬ (HT.sIx xs.length 0 lo=0/\HT.sIx xs.length xs.length hi=xs.length)/\∀p,H p=none->Q (.ref p) (upd H p (.tup (cutV xs lo hi)))
def zgP:SlR X (rSlT X.K):=by
 k_put;obtain⟨a,xs,rfl,hx,hw,q⟩:=h
 cases rx
 obtain⟨its,r,ht,hz⟩:=I.tuple hx;have hlen:its.toArray.size=xs.length:=by rw[wI];exact r.length.symm
 refine⟨"tuple",_,vo.lookup,ht.typeIs,?_⟩;refine HT.z4X ht hs pl pu (by rw[hlen];exact hw) ?_ (by rw[hlen];exact hz);rw[hlen];refine⟨.ref s.heap.objs.size,_,I.laid (t':=s.toks) (o :=.tup (cutV xs lo hi)) (λb ob q=>wm _ q) (wG _) ?_,rfl,q _ (I.hok.fresh (wG _))⟩;exact⟨wX (z68 xs lo hi) hz,_,(r.drop (HT.sIx xs.length 0 lo)).take (HT.sIx xs.length xs.length hi - HT.sIx xs.length 0 lo),IsTup.new _ _,_,wB _ rfl,rfl⟩
def rLtT (K:W.Frag):R2:=λx y H Q=>∃a b ns ms,x = .ref a/\y = .ref b/\SqT K H a (ns.map V.int)/\SqT K H b (ms.map V.int)/\Q (.bl (HT.z1y ns ms)) H
def zi6 (hu:X.A.units<cLine):OpR X (compareOp .Lt) (rLtT X.K):=by
 x_go;obtain⟨a,b,ns,ms,rfl,rfl,ha,hb,q⟩:=h
 cases rx
 cases ry
 obtain⟨its,r1,p1,_⟩:=I.tuple ha;k_data;have i1:IntsAre its.toArray.toList ns:=z2i r1;have i2:IntsAre its2.toArray.toList ms:=z2i r2;exact HT.zak p1 p2 i1 i2 hu ⟨.bl (HT.z1y ns ms),H,I,rfl,q⟩
def zjD (K:W.Frag):R2:=λx y H Q=>∃a b xs ys,x = .ref a/\y = .ref b/\SqT K H a xs/\SqT K H b ys/\xs≠[]/\xs.length+ys.length<=sizeLine/\
 (ys=[]->Q (.ref a) H)/\(ys≠[]->∀p,H p=none->Q (.ref p) (upd H p (.tup (xs++ys))))
def Vals.nil_iff {xs:List V}{us:List Value}(r:Vals xs us):us=[]↔xs=[]:=by
 cases r with
 | nil=>simp
 | cons _ _=>simp
def zfZ:OpR X (binaryOp .Add) (zjD X.K):=by
 x_go;obtain⟨a,b,xs,ys,rfl,rfl,ha,hb,hx,hz,q1,q2⟩:=h
 cases rx
 cases ry
 obtain⟨its,r1,p1,_⟩:=I.tuple ha;k_data;refine HT.zgn p1 p2 (λz=>hx (r1.nil_iff.mp z)) (λz=>⟨.ref a,H,I,rfl,q1 (r2.nil_iff.mp z)⟩) (λz =>?_) (by rw[<- r1.length, <- r2.length];exact hz);refine⟨.ref s.heap.objs.size,_,I.laid (t':=s.toks) (o :=.tup (xs++ys)) (λb ob q=>wm _ q) (wG _) ?_,rfl,q2 (λw=>z (r2.nil_iff.mpr w)) _ (I.hok.fresh (wG _))⟩;exact⟨by rw[wz];exact hz,_,r1.append r2,IsTup.new _ _,_,wB _ rfl,rfl⟩
end
def ixN (n:Nat)(i:Int):Option Nat:=if 0<=i then (if i<n then some i.toNat else none) else if -(n:Int)<=i then some (i+n).toNat else none
def atI {α:Type}(xs:List α)(i:Int):Option α:=(ixN xs.length i).bind λj=>xs[j]?
def zc0 {n:Nat}{i:Int}{j:Nat}(h:ixN n i=some j):seqIndex? i n=some j/\j<n /\ -(n:Int)<=i/\i<n:=by
 unfold ixN at h
 by_cases h0:0<=i
 .rw[if_pos h0] at h
  by_cases h1:i<n
  .rw[if_pos h1] at h;have e:i.toNat=j:=vm h;exact⟨by rw[seqIndex_of h0 h1,e],by lia,by lia,h1⟩
  .rw[if_neg h1] at h;cases h
 .rw[if_neg h0] at h
  by_cases h1 : -(n:Int)<=i
  .rw[if_pos h1] at h;have e:(i+n).toNat=j:=vm h;exact⟨by rw[seqIndex_neg (by lia) h1,e],by lia,h1,by lia⟩
  .rw[if_neg h1] at h;cases h
def z9d {α:Type}{xs:List α}{i:Int}{v:α}(h:atI xs i=some v):∃j,seqIndex? i xs.length=some j/\xs[j]? = some v/\j<xs.length /\ -(xs.length:Int)<=i/\i<xs.length:=by
 unfold atI at h
 cases e:ixN xs.length i with
 | none=>rw[e] at h;cases h
 | some j=>
  rw[e] at h;obtain⟨h1,h2,h3,h4⟩:=zc0 e;exact⟨j,h1,h,h2,h3,h4⟩
def z3x {α:Type}{xs:List α}{j:Nat}{v:α}(h:xs[j]? = some v):atI xs (j:Int)=some v:=by
 have hj:j<xs.length:=(wg.mp h).1;have e:ixN xs.length (j:Int)=some j:=by
  unfold ixN;rw[if_pos (by lia),if_pos (by lia)];simp
 unfold atI;rw[e];exact h
def z7x (b:Expr):Prop:=∀o i,subscripted b false o i=operate [o,i] (getItem o i)
def IxR (X:Cx)(r:R2):Prop:=
 ∀(value slice:Expr) (pins:List (Addr × Obj)) (s:Shared) (σ:St) (H:Hp) (x y:V) (v u:Value) (Q:VK),Inv X pins σ H s->RelV x v->RelV y u->r x y H Q->
  subscripted slice false v u=operate [v,u] (getItem v u)->wpAny (model X.prog X.w) X.A (subscriptTail value slice v u) (EP X pins σ Q) X.xe s
def MtR (X:Cx)(id:String)(r:V->List V->Hp->VK->Prop):Prop:=
 ∀(pins:List (Addr × Obj)) (s:Shared) (σ:St) (H:Hp) (x:V) (xs:List V) (v:Value) (us:List Value) (Q:VK),Inv X pins σ H s->RelV x v->Vals xs us->r x xs H Q->
  wpAny (model X.prog X.w) X.A (call (.builtin id) (v::us)) (EP X pins σ Q) X.xe s
section
variable {X:Cx}{a b:Expr}{ta tb:TE}{pos:Pos}
def IxR.or {r r':R2}(h:IxR X r)(h':IxR X r'):IxR X (λx y H Q=>r x y H Q\/r' x y H Q):=by
 intro value slice pins s σ H x y v u Q I rx ry q hs
 rcases q with q | q
 .exact h value slice pins s σ H x y v u Q I rx ry q hs
 .exact h' value slice pins s σ H x y v u Q I rx ry q hs
def zjQ {r:R2}(hr:IxR X r)(ha:PE X a ta)(hb:PE X b tb)(hs:z7x b):PE X (.Subscript a b pos) (tOp r ta tb):=by
 z_go;exact Subscript_ (binT ha hb I h λv u s2 x y H2 I2 rx ry q=>hr a b pins s2 σ H2 x y v u Q I2 rx ry q (hs _ _))
def rIxL (K:W.Frag):R2:=λx y H Q=>∃p xs i v,x = .ref p/\y = .int i/\SqL K H p xs/\atI xs i=some v/\Q v H
def rIxT (K:W.Frag):R2:=λx y H Q=>∃p xs i v,x = .ref p/\y = .int i/\SqT K H p xs/\atI xs i=some v/\Q v H
def rIxS:R2:=λx y H Q=>∃z i c,x = .str z/\y = .int i/\z.length<=sizeLine/\atI z.cps.toList i=some c/\Q (.str ⟨#[c]⟩) H
def zgd:IxR X (rIxL X.K):=by
 intro value slice pins s σ H x y v u Q I rx ry h hs;obtain⟨p,xs,i,z,rfl,rfl,hq,he,q⟩:=h
 cases rx
 obtain⟨t,rfl⟩:=ry;obtain⟨its,r,pl,hz⟩:=I.list hq;obtain⟨j,h1,h2,h3,h4,h5⟩:=z9d he;obtain⟨w,ew,rw'⟩:=r.get h2;have hl:=r.length;have hn:=z6D;have fin:EP X pins σ Q w s:=⟨z,H,I,rw',q⟩
 by_cases h0:0<=i
 .have hj:i.toNat=j:=by
   rw[seqIndex_of h0 h5] at h1;exact vm h1
  exact item_listR pl.isList h0 (by lia) (by rw[hj];simpa using ew) fin hs
 .have hj:(i+(its.toArray.size:Int)).toNat=j:=by
   rw[seqIndex_neg (by lia) h4] at h1;rw[wI, <- hl];exact vm h1
  exact subscriptTail_builtinR (x:=w) pl.isList.typeIs slot_list_getitem.lookup
   (wpAny_getItem_list_neg (Q:=λr s'=>r=w/\EP X pins σ Q r s') pl.isList (by lia) (by rw[wI] <;> lia) (by lia) (by rw[hj];simpa using ew) ⟨rfl,fin⟩) hs
def ziI:IxR X (rIxT X.K):=by
 intro value slice pins s σ H x y v u Q I rx ry h hs;obtain⟨p,xs,i,z,rfl,rfl,hq,he,q⟩:=h
 cases rx
 obtain⟨t,rfl⟩:=ry;obtain⟨its,r,pl,hz⟩:=I.tuple hq;obtain⟨j,h1,h2,h3,h4,h5⟩:=z9d he;obtain⟨w,ew,rw'⟩:=r.get h2;have hl:=r.length;have hn:=z6D;have fin:EP X pins σ Q w s:=⟨z,H,I,rw',q⟩
 exact subscriptTail_builtinR (x:=w) pl.typeIs slot_tuple_getitem.lookup
  (getItem_tuple (j:=j) (Q:=λr s'=>r=w/\EP X pins σ Q r s') pl (by lia) (by lia) (by rw[wI, <- hl];exact h1) (by simpa using ew) ⟨rfl,fin⟩) hs
def ziJ:IxR X rIxS:=by
 intro value slice pins s σ H x y v u Q I rx ry h hs;obtain⟨z,i,c,rfl,rfl,hz,he,q⟩:=h;ksr_p;obtain⟨t',rfl⟩:=ry;obtain⟨j,h1,h2,h3,h4,h5⟩:=z9d he;have hl:z.cps.toList.length=z.length:=by simp[Str.length]
 rw[hl] at h1 h4 h5;have hn:=z6D;exact tail_any (typeIs_str s z t) slot_str_getitem.lookup (getItem_str (c:=c) (by
  have e1:decide (i < -(2 ^ 63:Int))=false:=wF (by lia);have e2:decide (i>=2 ^ 63)=false:=wF (by lia);rw[e1,e2,Bool.or_false]) (by rw[h1];simpa using h2) ⟨.str ⟨#[c]⟩,H,I.tok _,⟨_,rfl⟩,q⟩) hs
def rIx (K:W.Frag):R2:=λx y H Q=>rIxL K x y H Q\/rIxT K x y H Q\/rIxS x y H Q
def ziK:IxR X (rIx X.K):=zgd.or (ziI.or ziJ)
def zah (its:List Value)(n j:Nat)(u:Value):Obj.mapSeq (·.setIfInBounds j u) { cls :=.type "list",data :=.seq its.toArray n }={ cls :=.type "list",data :=.seq (its.set j u).toArray n }:=by
 simp[Obj.mapSeq]
theorem Inv.lst {pins:List (Addr × Obj)}{σ:St}{H:Hp}{s:Shared}{p:Addr}{xs:List V}(I:Inv X pins σ H s)(h:H p=some (.lst xs)):
  ∃(its:List Value) (n:Nat),Vals xs its/\s.heap.get? p=some { cls :=.type "list",data :=.seq its.toArray n }/\xs.length<=sizeLine:=by
 obtain⟨z,its,n,r,e⟩:=I.hok p _ h;exact⟨its,n,r,e,z⟩
def Inv.lstUpd {pins:List (Addr × Obj)}{σ:St}{H:Hp}{s:Shared}{p:Addr}{xs ys:List V}{its its':List Value}{n n':Nat}{f:Obj->Obj}(I:Inv X pins σ H s)(h:H p=some (.lst xs))
  (ho:s.heap.get? p=some { cls :=.type "list",data :=.seq its.toArray n }) (hf:f { cls :=.type "list",data :=.seq its.toArray n }={ cls :=.type "list",data :=.seq its'.toArray n' }) (r:Vals ys its') (hz:ys.length<=sizeLine) (t:Nat):
  Inv X pins σ (upd H p (.lst ys)) { s with heap:=s.heap.update p f,toks:=t }:=by
 have e:(s.heap.update p f).get? p=some { cls :=.type "list",data :=.seq its'.toArray n' }:=by
  rw[Heap.get?_update_self f ho (by rw[hf] <;> rfl),hf]
 refine I.write (x:=p) (e:=p) (by rw[h];trivial) (.inl rfl) (λb u hb q=>(Heap.get?_update_other _ _ (vk hb)).trans q) ⟨_,e⟩ ?_;exact⟨hz,its',n',r,e⟩
def zjA:V->V->V->Hp->(Hp->Prop)->Prop:=λo i v H Q=>∃p xs k j,o = .ref p/\i = .int k/\H p=some (.lst xs)/\ixN xs.length k=some j/\Q (upd H p (.lst (xs.set j v)))
def zcO:PSet X zjA:=by
 intro pins s σ H o i v ov iv u Q I ro ri rv h;obtain⟨p,xs,k,j,rfl,rfl,hp,hj,q⟩:=h
 cases ro
 obtain⟨t,rfl⟩:=ri;obtain⟨its,n,r,ho,hz⟩:=I.lst hp;obtain⟨h1,h2,h3,h4⟩:=zc0 hj;have hl:=r.length;have hn:=z6D;have I':Inv X pins σ (upd H p (.lst (xs.set j v))) { s with heap:=s.heap.update p (Obj.mapSeq (·.setIfInBounds j u)) }:=
  I.lstUpd hp ho (zah its n j u) (r.set rv j) (by rw[uD];exact hz) s.toks
 by_cases h0:0<=k
 .have hk:k.toNat=j:=by
   rw[seqIndex_of h0 h4] at h1;exact vm h1
  exact W.ki_setAt ho h0 (by lia) (by rw[wI, <- hl];exact h4) (by rw[hk];exact⟨_,I',q⟩)
 .have hk:(k+(its.toArray.size:Int)).toNat=j:=by
   rw[seqIndex_neg (by lia) h3] at h1;rw[wI, <- hl];exact vm h1
  exact W.ki_setBack ho (by lia) (by rw[wI, <- hl];exact h3) (by lia) (by rw[hk];exact⟨_,I',q⟩)
def z7I (lo hi:Option Int)(n:Nat):(sliceBounds lo hi none n).1=((HT.sIx n 0 lo:Nat):Int)/\(sliceBounds lo hi none n).2.1=((HT.sIx n n hi:Nat):Int)/\(sliceBounds lo hi none n).2.2=1:=by
 refine⟨?_,?_,rfl⟩
 .cases lo with
  | none=>simp[sliceBounds,HT.sIx]
  | some i=>
   simp only[sliceBounds,HT.sIx,Option.getD_none,show (1:Int) > 0 by decide,uZ]
   by_cases h:i<0
   .simp only[h,uZ] <;> lia
   .simp only[h,if_false] <;> lia
 .cases hi with
  | none=>simp[sliceBounds,HT.sIx]
  | some i=>
   simp only[sliceBounds,HT.sIx,Option.getD_none,show (1:Int) > 0 by decide,uZ]
   by_cases h:i<0
   .simp only[h,uZ] <;> lia
   .simp only[h,if_false] <;> lia
def z6P (its:List Value)(lo hi:Option Int):slicePick its.toArray lo hi none=((its.drop (HT.sIx its.length 0 lo)).take (HT.sIx its.length its.length hi - HT.sIx its.length 0 lo)).toArray:=by
 obtain⟨h1,h2,h3⟩:=z7I lo hi its.toArray.size;unfold slicePick;rw[h1,h2,h3];simp only[sliceRange_one,pick_run,wI] <;> rfl
def rSlL (K:W.Frag):V->Option Int->Option Int->Hp->VK->Prop:=λx lo hi H Q=>∃a xs,x = .ref a/\SqL K H a xs/\∀p,H p=none->Q (.ref p) (upd H p (.lst (cutV xs lo hi)))
def zaY:SlR X (rSlL X.K):=by
 k_put;obtain⟨a,xs,rfl,hx,q⟩:=h
 cases rx
 obtain⟨its,r,ht,hz⟩:=I.list hx;have hlen:=r.length;refine⟨"list",_,slot_list_getitem.lookup,ht.isList.typeIs,?_⟩;refine wpAny_getItem_list_slice ht.isList hs pl pu .none (by simp) ?_ (by rw[wI] <;> lia);rw[z6P, <- hlen];refine⟨.ref s.heap.objs.size,_,I.laid (t':=s.toks) (o :=.lst (cutV xs lo hi)) (λb ob q=>wm _ q) (wG _) ?_,rfl,q _ (I.hok.fresh (wG _))⟩;exact⟨wX (z68 xs lo hi) hz,_,0,(r.drop (HT.sIx xs.length 0 lo)).take (HT.sIx xs.length xs.length hi - HT.sIx xs.length 0 lo),wB _ rfl⟩
def eqV:V->V->Bool
 | .non,.non=>true
 | .bl a,.bl b=>a == b
 | .bl a,.int b=>(if a then 1 else 0) == b
 | .int a,.bl b=>a == (if b then 1 else 0)
 | .int a,.int b=>a == b
 | .str a,.str b=>a == b
 | _,_=>false
def inV (x:V)(xs:List V):Bool:=xs.any λy=>eqV y x
def z8n:z1k X (.builtin "len") (λxs H Q=>∃p ys,xs=[.ref p]/\(SqL X.K H p ys\/SqT X.K H p ys)/\Q (.int ys.length) H):=by
 k_cls;obtain⟨p,ys,rfl,hq,q⟩:=h;obtain⟨u,rfl,rx⟩:=z6I r
 cases rx
 have hn:=z6D
 rcases hq with hq | hq
 .obtain⟨its,r',pl,hz⟩:=I.list hq;have hlen:=r'.length;exact Calls.call_len_list pl.isList (by simp only[wI] <;> lia) ⟨.int ys.length,H,I.tok _,⟨s.toks+1,by rw[wI,hlen]⟩,q⟩
 .obtain⟨its,r',pl,hz⟩:=I.tuple hq;have hlen:=r'.length;exact len_tuple pl (by simp only[wI] <;> lia) ⟨.int ys.length,H,I.tok _,⟨s.toks+1,by rw[wI,hlen]⟩,q⟩
def z8m:z1k X (.builtin "len") (λxs H Q=>∃z,xs=[.str z]/\z.length<=sizeLine/\Q (.int z.length) H):=by
 k_cls;obtain⟨z,rfl,hz,q⟩:=h;obtain⟨u,rfl,t,rfl⟩:=z6I r;have hn:=z6D;exact len_str (by lia) ⟨.int z.length,H,I.tok _,⟨_,rfl⟩,q⟩
def z1k.or {f:Value}{r r':List V->Hp->VK->Prop}(h:z1k X f r)(h':z1k X f r'):z1k X f (λxs H Q=>r xs H Q\/r' xs H Q):=by
 intro pins s σ H xs us Q I rs q
 rcases q with q | q
 .exact h pins s σ H xs us Q I rs q
 .exact h' pins s σ H xs us Q I rs q
def z7w:z1k X (.type "tuple") (λxs H Q=>∃p ys,xs=[.ref p]/\((SqL X.K H p ys/\∀l,H l=none->Q (.ref l) (upd H l (.tup ys)))\/(SqT X.K H p ys/\Q (.ref p) H))):=by
 k_cls;obtain⟨p,ys,rfl,h⟩:=h;obtain⟨u,rfl,rx⟩:=z6I r
 cases rx
 rcases h with ⟨hq,q⟩ | ⟨hq,q⟩
 .obtain⟨its,r',pl,hz⟩:=I.list hq;have hlen:=r'.length;refine call_tuple_list pl.isList (λh' kp =>?_) (by simp only[wI] <;> lia);have I1:Inv X pins σ H { s with heap:=h' }:=I.kept (t':=s.toks) kp;have I2:Inv X pins σ (upd H h'.objs.size (.tup ys)) { s with heap:=h'.push { cls :=.type "tuple",data :=.seq its.toArray } }:=
   I1.laid (t':=s.toks) (λb o e=>wm _ e) (wG _) (show z1u X.prog X.w _ _ _ (.tup ys) from ⟨hz,its,r',IsTup.new _ _,_,wB _ rfl,rfl⟩)
  exact⟨.ref h'.objs.size,_,I2,rfl,q _ (I1.hok.fresh (wG _))⟩
 .obtain⟨its,r',pl,hz⟩:=I.tuple hq;exact call_tuple_same pl ⟨.ref p,H,I,rfl,q⟩
def tyV (K:W.Frag)(T:String)(x:V)(H:Hp):Prop:=match x with
 | .str _=>T="str"
 | .int _=>T="int"
 | .ref p=>(T="list"/\∃xs,SqL K H p xs)\/(T="tuple"/\∃o,K.lookup p=some o/\o.cls = .type "tuple"/\o.dict=none)\/
   (T="dict"/\((∃kvs,H p=some (.dK kvs))\/∃kvs,H p=some (.dT kvs)))\/(T="set"/\∃S n,H p=some (.set S n))
 | _=>False
def zdX {pins:List (Addr × Obj)}{σ:St}{H:Hp}{s:Shared}{T:String}{x:V}{v:Value}(I:Inv X pins σ H s)(r:RelV x v)(ty:tyV X.K T x H):
  s.TypeIs v T/\∀a,v = .ref a->∃ob,s.heap.get? a=some ob/\ob.dict=none:=by
 cases x with
 | str z=>
  obtain⟨t,rfl⟩:=r
  cases (show T="str" from ty)
  exact⟨typeIs_str s z t,λ_ e=>nomatch e⟩
 | int i=>
  obtain⟨t,rfl⟩:=r
  cases (show T="int" from ty)
  exact⟨typeIs_int s i t,λ_ e=>nomatch e⟩
 | ref p=>
  cases r
  rcases ty with ⟨rfl,xs,hq⟩ | ⟨rfl,o,hk,hc,hd⟩ | ⟨rfl,hk⟩ | ⟨rfl,S,n,hk⟩
  .obtain⟨its,_,pl,_⟩:=I.list hq;refine⟨pl.isList.typeIs,λa e =>?_⟩
   cases e
   obtain⟨o,n,e,c,hd,_⟩:=pl;exact⟨o,e,hd⟩
  .refine⟨⟨o,I.kIn p o hk,hc⟩,λa e =>?_⟩
   cases e
   exact⟨o,I.kIn _ o hk,hd⟩
  .have z:∃o,s.heap.get? p=some o/\o.ExactDict:=by
    rcases hk with ⟨kvs,hk⟩ | ⟨kvs,hk⟩
    .obtain⟨_,_,_,_,o,_,_,e,ex,_⟩:=I.hok p _ hk;exact⟨o,e,ex⟩
    .obtain⟨_,_,_,_,o,_,_,e,ex,_⟩:=I.hok p _ hk;exact⟨o,e,ex⟩
   obtain⟨o,e,ex⟩:=z;refine⟨⟨o,e,ex.1⟩,λa e2 =>?_⟩
   cases e2
   exact⟨o,e,ex.2.1⟩
  .obtain⟨o,_,_,_,e,ex,_⟩:=I.hok p _ hk;refine⟨⟨o,e,ex.1⟩,λa e2 =>?_⟩
   cases e2
   exact⟨o,e,ex.2.1⟩
 | _=>exact False.elim ty
def tBM0 (K:W.Frag)(T:String)(r:V->List V->Hp->VK->Prop)(to:TE):TE:=λσ H Q=>to σ H λx H1=>tyV K T x H1/\r x [] H1 Q
def tBM (K:W.Frag)(T:String)(r:V->List V->Hp->VK->Prop)(to:TE)(t:TA):TE:=λσ H Q=>to σ H λx H1=>tyV K T x H1/\t σ H1 λxs H2=>r x xs H2 Q
variable {o e:Expr}{es:List Expr}{to:TE}{t:TA}{name:Str}{apos cpos:Pos}{T id:String}{r:V->List V->Hp->VK->Prop}
def zhW (pa:PlainAttrs T)(slot:Slot T name id)(hty:typeOf (.builtin id)=pure (.type "method_descriptor"))(hm:MtR X id r)(ho:PE X o to)
  (hbase:attributeBase o name X.env (eval o X.env)=eval o X.env:=by rfl) (hline:(apos.endLine == cpos.line)=true:=by rfl):PE X (.Call (.Attribute o name apos) [] [] cpos) (tBM0 X.K T r to):=by
 z_go;refine wpAny_Call_method0_late hbase hline (thn (ho pins s σ H _ I h) λv s1 z9 =>?_);obtain⟨x,H1,I1,r1,ty,q1⟩:=z9;obtain⟨h1,h2⟩:=zdX I1 r1 ty;exact⟨T,id,pa,slot,hty,h1,h2,uw rfl (PySem.evalArgs_none (hm pins s1 σ H1 x [] v [] Q I1 r1 .nil q1))⟩
def zjS (pa:PlainAttrs T)(slot:Slot T name id)(hty:typeOf (.builtin id)=pure (.type "method_descriptor"))(hm:MtR X id r)(ho:PE X o to)(ha:PA X (e::es) t)
  (hbase:attributeBase o name X.env (eval o X.env)=eval o X.env:=by rfl)
  (hfew:((backTo cpos (starEach (e::es) X.env)).all (λx => !x.1) && (backToKw cpos (keywordEach [] X.env)).all (λx=>x.1.isSome)
   && decide ((e::es).length+([]:List Keyword).length+(if ([]:List Keyword).isEmpty then 0 else 1)<30))=true:=by rfl)
  (hline:(apos.endLine == cpos.line)=true:=by rfl) (hs:starEach (e::es) X.env=(false,eval e X.env)::starEach es X.env:=by rfl) (hplain:(backTo cpos (starEach es X.env)).any (·.1)=false:=by rfl):
  PE X (.Call (.Attribute o name apos) (e::es) [] cpos) (tBM X.K T r to t):=by
 z_go;refine wpAny_Call_method_late hbase hfew hline rfl (thn (ho pins s σ H _ I h) λv s1 z9 =>?_);obtain⟨x,H1,I1,r1,ty,q1⟩:=z9;obtain⟨h1,h2⟩:=zdX I1 r1 ty;refine⟨T,id,pa,slot,hty,h1,h2,?_⟩;have hA:=ha cpos pins s1 σ H1 _ I1 q1;rw[hs] at hA ⊢;refine uw (by show (false || (backTo cpos (starEach es X.env)).any (·.1))=false;rw[hplain] <;> rfl) (uH ?_);exact thn hA λus s2 ⟨vs,H2,I2,r2,q2⟩=>hm pins s2 σ H2 x vs v us Q I2 r1 r2 q2
end
def MtM (X:Cx)(id:String)(r:V->List V->Hp->VK->Prop):Prop:=
 ∀(pins:List (Addr × Obj)) (s:Shared) (σ:St) (H:Hp) (x:V) (xs:List V) (v:Value) (us:List Value) (Q:VK),Inv X pins σ H s->RelV x v->Vals xs us->r x xs H Q->
  wpAny (model X.prog X.w) X.A (call (.builtin id) (v::us)) (EP X pins σ Q) X.xe s
def Vals.one:∀{x:V}{us:List Value},Vals [x] us->∃u,us=[u]/\RelV x u
 | _,_,.cons r .nil=>⟨_,rfl,r⟩
def Vals.zero:∀{us:List Value},Vals [] us->us=[]
 | _,.nil=>rfl
theorem Vals.dropLast {xs:List V}{us:List Value}(h:Vals xs us):Vals xs.dropLast us.dropLast:=by
 induction h with
 | nil=>exact .nil
 | cons r t ih=>
  cases t with
  | nil=>exact .nil
  | cons q t'=>exact .cons r ih
def zar {α:Type}(l:List α):l.eraseIdx (l.length - 1)=l.dropLast:=by
 induction l with
 | nil=>rfl
 | cons a r ih=>
  cases r with
  | nil=>rfl
  | cons b r=>
   have e:(a::b::r).length - 1=((b::r).length - 1)+1:=by
    have h1:(a::b::r).length=r.length+2:=rfl;have h2:(b::r).length=r.length+1:=rfl;lia
   rw[e,List.eraseIdx_cons_succ,ih]
   all_goals rfl
section
variable {X:Cx}{pins:List (Addr × Obj)}{σ:St}{H:Hp}{s:Shared}{l b:Addr}{xs ys zs:List V}
def Inv.lset {its its':List Value}{n:Nat}{f:Array Value->Array Value}{t':Nat}(I:Inv X pins σ H s)(hH:H l=some (.lst xs))
  (e:s.heap.get? l=some { cls :=.type "list",data :=.seq its.toArray n }) (hf:f its.toArray=its'.toArray) (hv:Vals ys its') (hz:ys.length<=sizeLine):
  Inv X pins σ (upd H l (.lst ys)) { s with heap:=s.heap.update l (Obj.mapSeq f),toks:=t' }:=by
 have q:=PySem.IsL.update e f;rw[hf] at q;refine I.write (x:=l) (e:=l) (by rw[hH];exact trivial) (.inl rfl) (λb' u hb hu=>(Heap.get?_update_other s.heap (Obj.mapSeq f) (vk hb)).trans hu) ⟨_,q⟩ ?_;exact⟨hz,its',_,hv,q⟩
def Inv.lnew {its:List Value}{t':Nat}(I:Inv X pins σ H s)(hv:Vals ys its)(hz:ys.length<=sizeLine):
  Inv X pins σ (upd H s.heap.objs.size (.lst ys)) { s with heap:=s.heap.push { cls :=.type "list",data :=.seq its.toArray },toks:=t' }:=
 I.laid (λ_ _ q=>wm _ q) (wG _) ⟨hz,its,0,hv,wB _ rfl⟩
theorem Inv.fresh (I:Inv X pins σ H s):H s.heap.objs.size=none:=I.hok.fresh (wG _)
def Inv.lstM (I:Inv X pins σ H s)(hH:H l=some (.lst xs)):xs.length<=sizeLine/\∃(its:List Value) (n:Nat),Vals xs its/\xs.length=its.length/\s.heap.get? l=some { cls :=.type "list",data :=.seq its.toArray n }:=by
 obtain⟨z,its,n,r,e⟩:=I.hok l _ hH;exact⟨z,its,n,r,r.length,e⟩
end
section
variable {X:Cx}
def zbf:V->List V->Hp->VK->Prop:=λx vs H Q=>∃l xs y,x = .ref l/\vs=[y]/\H l=some (.lst xs)/\xs.length<sizeLine/\Q .non (upd H l (.lst (xs++[y])))
def zbS:MtM X "list.append" zbf:=by
 intro pins s σ H x vs v us Q I rx rv h;obtain⟨l,xs,y,rfl,rfl,hH,hz,q⟩:=h
 cases rx
 obtain⟨u,rfl,ru⟩:=rv.one;obtain⟨z,its,n,r,hl,e⟩:=I.lstM hH;refine call_meets F.slot_list_append ⟨_,e,rfl⟩ F.entry_list_append (F.args_list_append_2 _ _) (PySem.list_append l its.toArray n u (by rw[wI];lia)) ⟨e,?_⟩;refine⟨.non,_,I.lset (its':=its++[u]) hH e (by simp) (r.append (.cons ru .nil)) ?_,rfl,q⟩;rw[wz,vA];lia
def rPop:V->List V->Hp->VK->Prop:=λx vs H Q=>∃l xs y,x = .ref l/\vs=[]/\H l=some (.lst xs)/\xs[xs.length - 1]? = some y/\Q y (upd H l (.lst xs.dropLast))
def ziw:MtM X "list.pop" rPop:=by
 intro pins s σ H x vs v us Q I rx rv h;obtain⟨l,xs,y,rfl,rfl,hH,hy,q⟩:=h
 cases rx
 have hus:=rv.zero;subst hus;obtain⟨z,its,n,r,hl,e⟩:=I.lstM hH;obtain⟨u,hu,ru⟩:=r.get hy;have hy':its.toArray[its.toArray.size - 1]? = some u:=by
  show its.toArray[its.length - 1]? = some u;rw[<- Array.getElem?_toList, <- hl];exact hu
 refine call_meets F.slot_list_pop ⟨_,e,rfl⟩ F.entry_list_pop (F.args_list_pop_1 _) (MeetsSeq.list_pop_last l its.toArray n u hy' (by rw[wI];lia)) ⟨e,?_⟩;refine⟨y,_,I.lset (its':=its.dropLast) hH e ?_ r.dropLast ?_,ru,q⟩
 .show its.toArray.eraseIdxIfInBounds (its.toArray.size - 1)=its.dropLast.toArray;rw[wI,List.eraseIdxIfInBounds_toArray,zar]
 .rw[List.length_dropLast];lia
def zhg:V->List V->Hp->VK->Prop:=λx vs H Q=>∃l xs,x = .ref l/\vs=[]/\H l=some (.lst xs)/\Q .non (upd H l (.lst []))
def zdD:MtM X "list.clear" zhg:=by
 intro pins s σ H x vs v us Q I rx rv h;obtain⟨l,xs,rfl,rfl,hH,q⟩:=h
 cases rx
 have hus:=rv.zero;subst hus;obtain⟨z,its,n,r,hl,e⟩:=I.lstM hH;refine call_meets F.slot_list_clear ⟨_,e,rfl⟩ F.entry_list_clear (F.args_list_clear_1 _) (AutoSeq1.list_clear_list_0 l its.toArray n (by rw[wI];lia)) ⟨e,?_⟩;exact⟨.non,_,I.lset (its':=[]) (ys:=[]) hH e rfl .nil (vh _),rfl,q⟩
end
end L2
namespace Att
open PySem PySem.W PySem.Calls PyProof.Rows
def z60 {P:Params}{h:Heap}:∀(ns:List Int) (vs:List Value),WellAll P h vs (ns.map WData.int)->IntsAre vs ns:=by
 intro ns
 induction ns with
 | nil=>
  intro vs w;rw[vq] at w
  cases w
  exact .nil
 | cons n ns ih=>
  intro vs w;rw[wA] at w
  cases w with
  | cons a b=>
   cases a
   exact .cons _ _ (ih _ b)
def zb0 {l:OpenLaw}{n:Nat}(hn:l.most=some n){P:Params}{h:Heap}{args:List WData}{vals:List Value}
  (hpre:l.row.toRowW.claim.pre args=true) (hwl:WellAll P h vals args):
  ∃a vs ns,vals=[Value.ref a]/\args=[WData.list (ns.map WData.int)]/\h.get? a=some { cls :=.type "list",data :=.seq vs.toArray }/\IntsAre vs ns/\ns.length<=n:=by
 have hsh:WShape.hasAll [] args [.list .int]=true:=(pre_splitW hpre).1;have hc:l.pre.holds [] { args:=args }=true:=(pre_splitW hpre).2;obtain⟨d,r,rfl,h1,h2⟩:=hasAllW_cons hsh;obtain rfl:=hasAllW_nil h2;obtain⟨xs,rfl,h3⟩:=hasW_list h1;obtain⟨ns,rfl⟩:=items_int h3;have hlen:ns.length<=n:=by
  unfold OpenLaw.pre at hc;have h4:(WTm.not (.lt (.lit (.int (n:Int))) (.len (.arg 0)))).holds [] { args:=[.list (ns.map .int)] }=true:=by
   have h4:=(holds_andW hc).1;rw[hn] at h4;exact h4
  have h5:=condW_of h4 (w_not (w_lt w_lit (w_len_list (w_arg rfl))));rw[wc] at h5;refine Nat.le_of_not_lt λq =>?_;have q':(n:Int)<((ns.length:Nat):Int):=by lia
  first
   | (rw[wu q'] at h5;exact absurd h5 (by decide))
   | (simp at h5;lia)
 cases hwl with
 | cons w1 w2=>
  cases w2
  cases w1 with
  | list ho hall=>exact⟨_,_,ns,rfl,rfl,ho,z60 ns _ hall,hlen⟩
def zbz (l:OpenLaw)(args:List WData):l.row.toRowW.claim.post args (.bool true) args=true:=
 postW_of (r:=l.row.toRowW) (X:=(true == true))
  (show WShape.has [] (.bool true) .bool=true by first | rfl | decide | simp[WShape.has,WShape.arms,WShape.armsAll])
  (show (WTm.eq .res (.lit (.bool true))).value [] { args:=args,res:=some (.bool true),after:=args }=some (.bool (true == true)) from w_eq_bool (w_res rfl) w_lit) rfl
def z9b {l:OpenLaw}{n:Nat}{q:Program}{loose:List Str}{XP:(Str->Option Value)->Heap->Prop}{YP:World->Heap->Prop}{d:DefRec}
  (hn:l.most=some n) (hdf:d.params.defaults=[])
  (call:∀(w:World) (s₀ s₁:Shared) (mg mb:WmP) (fa:Addr) (o:Obj) (pm cd doc:Value) (a:Addr) (vs:List Value) (ns:List Int),
   Ground q loose [] XP w s₀ mg mb s₁.heap->YP w s₁.heap->
   s₁.heap.get? fa=some o->o.data = .func (docDef d.name d.params d.body d.scope pm cd doc)->s₁.heap.CodeRec cd d.name->mg d.name=some (.ref fa)->
   s₁.heap.get? a=some { cls :=.type "list",data :=.seq vs.toArray }->IntsAre vs ns->ns.length<=n->s₁.gens = #[]->
   codeAny (model l.prog w) callerA (.call (.ref fa) ⟨[.ref a],[]⟩) (λr s'=>r = .ok (.ret (.bool true))/\OldK s₁.heap s'.heap/\s'.os=s₁.os/\AllBare s'.gens) s₁):
  WalkO q loose XP YP l.row.toRowW d [] (λf vs=>PySem.call f vs):=by
 intro w s₀ s₁ mg mb G Y fa o pm cd doc dV kV ho hd hcd hD hmg hg args vals as hpre hlay hrd hwl hlo;obtain rfl:dV = .none:=Dflts.none hD hdf;obtain rfl:kV = .none:=Dflts.noKw hD;obtain⟨a,vs,ns,rfl,rfl,hobj,hints,hlen⟩:=zb0 hn hpre hwl;refine enter_call (uX (call w s₀ s₁ mg mb fa o pm cd doc a vs ns G Y ho (fd_plain hd) hcd hmg hobj hints hlen hg) λr s' hq =>?_);obtain⟨rfl,h2,h3,h4⟩:=hq;exact⟨.inl ⟨.bool true,.bool true,[],rfl,λ_=>rfl,.bool true,zbz l _,λ_=>⟨List.Pairwise.nil,λ_ hm=>(nomatch hm)⟩⟩,h2,h3,h4⟩
end Att
namespace L2
open PySem PySem.Spec PyProof.Rows
theorem z7B:∀{vs:List Value}{ns:List Int},IntsAre vs ns->Vals (ns.map V.int) vs
 | _,_,.nil =>.nil
 | _,_,.cons n t h =>.cons ⟨t,rfl⟩ (z7B h)
theorem zeE {α β:Type}[BEq α][LawfulBEq α]{a:α}{b:β}:∀{l:List (α × β)},l.lookup a=some b->(a,b)∈l
 | [],h=>by cases h
 | (c,d)::r,h=>by
  rw[vd] at h
  cases e:a == c with
  | true=>rw[e] at h;cases h;rw[eq_of_beq e];exact .head _
  | false=>rw[e] at h;exact .tail _ (zeE h)
def z6n {K:W.Frag}{c P:Addr}(h:zaJ K c=some P):K.lookup P=none/\∃o vs,K.lookup c=some o/\o.cls = .type "code"/\o.data = .fields vs/\vs[11]? = some (.ref P):=by
 unfold zaJ at h
 split at h
 .rename_i vs _ hk
  split at h
  .rename_i P' h11
   split at h
   .rename_i hn
    cases h
    exact⟨by simpa using hn,_,vs,hk,rfl,rfl,h11⟩
   .cases h
  .cases h
 .cases h
def z7C {K:W.Frag}{P:Addr}{t:Nat × Nat × Str}(h:(tsOf K).lookup P=some t):∃c,zaJ K c=some P:=by
 obtain⟨p,_,e⟩:=uP.mp (zeE h)
 split at e
 .split at e
  .rename_i c _ _
   cases q:zaJ K c with
   | none=>rw[q] at e;cases e
   | some P'=>rw[q] at e;cases e;exact⟨c,q⟩
  .cases e
 .cases e
def zdG {P:Program}{w:World}{K:W.Frag}{mg mb:WmP}{CX:CXT}{k:Nat}{fa a:Addr}{fd:FuncData}{x:Str}{sp:Sp}{s₁:Shared}{vs:List Value}{ns:List Int}
  (KX:K.In s₁.heap) (hns:s₁.heap.Ns mainGlobals mg) (hb:s₁.heap.Ns builtinsNs mb) (hbb:∀x:Str,x≠"__name__"->mb x=bootBuiltins x) (hlim:s₁.heap.NoLimit) (hbm:BmAt mg s₁.heap) (hg:s₁.gens = #[])
  (ha:s₁.heap.get? a=some { cls :=.type "list",data :=.seq vs.toArray }) (hi:IntsAre vs ns) (hl:ns.length<=sizeLine) (hr:Room k callerA)
  (hT:∀P t,(tsOf K).lookup P=some t->s₁.heap.get? P=some { cls :=.none,data :=.fields #[] })
  (F:∀base:Heap,K.In base->base.Ns mainGlobals mg->FnOk P w K mg base CX k fa fd [x] sp) (hbind:∀(s:Shared) (u:Value),BindsTo s fd ⟨[u],[]⟩ [(x,u)])
  (hsp:∀H:Hp,SqL K H a (ns.map V.int)->sp [.ref a] H (λv _=>v = .bl true) λ_ _ _=>False)
  (hCX:∀H e s',CX [] H s₁ (λ_ _ _=>False) e s'->False):
  codeAny (model P w) callerA (.call (.ref fa) ⟨[.ref a],[]⟩) (λr s'=>r = .ok (.ret (.bool true))/\OldK s₁.heap s'.heap/\s'.os=s₁.os/\AllBare s'.gens) s₁:=by
 have rv:=z7B hi;have lenV:=hi.length;have aT:(tsOf K).lookup a=none:=by
  cases q:(tsOf K).lookup a with
  | none=>rfl
  | some t=>
   have e:=hT a t q;rw[ha] at e;cases e
 have core:∀u:Option HO,SqL K (λb=>if b=a then u else ((tsOf K).lookup b).map λt =>.tbl (encT t)) a (ns.map V.int)->((u=none)\/(K.lookup a=none/\u=some (.frz { cls :=.type "list",data :=.seq vs.toArray } (.lst (ns.map V.int)))))->
   codeAny (model P w) callerA (.call (.ref fa) ⟨[.ref a],[]⟩) (λr s'=>r = .ok (.ret (.bool true))/\OldK s₁.heap s'.heap/\s'.os=s₁.os/\AllBare s'.gens) s₁:=by
  intro u hS hu;generalize hH:(λb=>if b=a then u else ((tsOf K).lookup b).map λt=>HO.tbl (encT t):Hp)=H at hS;have at_:∀{b v},H b=some v->(b=a/\u=some v)\/(b≠a/\∃t,(tsOf K).lookup b=some t/\v = .tbl (encT t)):=λ{b v} e=>by
   rw[<- hH] at e
   by_cases hb:b=a
   .exact .inl ⟨hb,by rw[<- e];exact(if_pos hb).symm⟩
   .have e':=(if_neg hb).symm.trans e
    cases q:(tsOf K).lookup b with
    | none=>rw[q] at e';cases e'
    | some t=>rw[q] at e';cases e';exact .inr ⟨hb,t,rfl,rfl⟩
  have hok:HOk P w H s₁.heap:=λb v e=>by
   rcases at_ e with ⟨rfl,z⟩ | ⟨_,t,q,rfl⟩
   .rcases hu with hu | ⟨_,hu⟩
    .rw[hu] at z;cases z
    .rw[hu] at z
     cases z
     exact⟨ha,by rw[wc];exact hl,vs,_,rv,ha⟩
   .exact .inl (hT b t q)
  have noA:∀{b:Addr}{o:Obj}{es:Array DictEntry}{ep:Nat},s₁.heap.get? b=some o->o.data = .dict es ep->H b=none:=λ{b o es ep} e d=>by
   cases q:H b with
   | none=>rfl
   | some v=>
    rcases at_ q with ⟨rfl,_⟩ | ⟨_,t,q,_⟩
    .rw[ha] at e;cases e;have d':Data.seq vs.toArray _=Data.dict es ep:=d
     cases d'
    .have:=hT b t q;rw[e] at this;cases this;have d':Data.fields _=Data.dict es ep:=d
     cases d'
  have noP:∀{b:Addr}{o:Obj},s₁.heap.get? b=some o->o.data = .plain->H b=none:=λ{b o} e d=>by
   cases q:H b with
   | none=>rfl
   | some v=>
    rcases at_ q with ⟨rfl,_⟩ | ⟨_,t,q,_⟩
    .rw[ha] at e;cases e;have d':Data.seq vs.toArray _=Data.plain:=d
     cases d'
    .have:=hT b t q;rw[e] at this;cases this;have d':Data.fields _=Data.plain:=d
     cases d'
  have nsK:∀{b:Addr}{m:WmP},s₁.heap.Ns b m->(hidT s₁.heap H).Ns b m:=λ{b m} ⟨o,es,ep,e,d,r⟩=>⟨o,es,ep,z7j e (noA e d),d,r⟩
  have hKb:K.In (hidT s₁.heap H):=λb o e=>z7j (KX b o e) (by
   cases q:H b with
   | none=>rfl
   | some v=>
    rcases at_ q with ⟨rfl,z⟩ | ⟨_,t,q,_⟩
    .rcases hu with hu | ⟨hu,_⟩
     .rw[hu] at z;cases z
     .rw[hu] at e;cases e
    .obtain⟨c,hc⟩:=z7C q;rw[(z6n hc).1] at e;cases e)
  have hM:Mod K mg (hidT s₁.heap H):=⟨hKb,nsK hns,⟨mb,nsK hb,hbb⟩,let ⟨mc,h1,h2⟩:=hlim;⟨mc,nsK h1,h2⟩,let ⟨bm,ob,b1,b2,b3,b4,b5,b6⟩:=hbm;⟨bm,ob,b1,b2,z7j b3 (noP b3 b6),b4,b5,b6⟩⟩
  have e0:Env0 P w K mg (hidT s₁.heap H) callerA [] s₁ H:=⟨rfl,hM,λb o e=>zg2 e,Nat.le_of_eq (zc3 _ _),trivial,λb hb=>absurd (show b∈([]:List Addr) from hb) (by simp),λPt t e=>⟨#[],by
   rw[<- hH];show (if Pt=a then u else ((tsOf K).lookup Pt).map λt=>HO.tbl (encT t))=_;rw[if_neg (λz=>by rw[z,aT] at e;cases e),e];simp⟩,hok,.of_eq hg⟩
  refine uX ((F _ hKb (nsK hns)).run callerA [] s₁ H ⟨[.ref a],[]⟩ [.ref a] [.ref a] _ _ hr e0 (hbind s₁ (.ref a)) (.cons rfl .nil) (hsp H hS)) λr s' h =>?_
  cases r with
  | error e=>exact(hCX H e s' h).elim
  | ok fl=>
   cases fl with
   | next=>exact False.elim h
   | brk=>exact False.elim h
   | cont=>exact False.elim h
   | ret v0=>
    obtain⟨v,H',os,bare,un,hok',r',q⟩:=h;have q':v = .bl true:=q;subst q';obtain rfl:v0=Value.bool true:=r';refine⟨rfl,⟨λb o e =>?_,λb o e=>un.there b o e (by simp)⟩,os,bare⟩
    cases q:H b with
    | none=>exact .inl (un.keep b o e q (by intro z;exact absurd (show b∈([]:List Addr) from z) (by simp)) (by simp))
    | some v=>
     rcases at_ q with ⟨rfl,z⟩ | ⟨_,t,q2,rfl⟩
     .rcases hu with hu | ⟨_,hu⟩
      .rw[hu] at z;cases z
      .rw[hu] at z
       cases z
       obtain⟨e2,_⟩:=hok' _ _ (un.frzs _ _ _ q);rw[ha] at e
       cases e
       exact .inl e2
     .have e1:=hT b t q2;rw[e] at e1
      cases e1
      obtain⟨more,q3⟩:=un.tbls b _ q;obtain⟨c,hc⟩:=z7C q2;obtain⟨_,oc,vc,c1,c2,c3,c4⟩:=z6n hc
      rcases hok' b _ q3 with z | ⟨l,c,_,_,c',_,_,_,_,_,_,z,_⟩
      .exact .inl z
      .exact .inr (.inl ⟨⟨_,oc,vc,KX _ _ c1,c2,c3,c4⟩,rfl, #[], #[l,c,.ref c'],rfl,by rw[z];simp⟩)
 cases hk:K.lookup a with
 | some o=>
  have e:=KX a o hk;rw[ha] at e
  cases e
  exact core none (.inr ⟨_,vs.toArray,_,hk,rfl,rfl,rfl,by rw[wI,lenV];exact hl,by simpa using rv⟩) (.inl rfl)
 | none=>exact core _ (.inl (.inr ⟨_,if_pos rfl⟩)) (.inr ⟨hk,rfl⟩)
def zeT {l:W.OpenLaw}{n k:Nat}{q:Program}{loose:List Str}{XP:(Str->Option Value)->Heap->Prop}{YP:World->Heap->Prop}{d:DefRec}{K:Params->W.Frag}{CX:World->CXT}{sp:World->Sp}{x:Str}
  (hn:l.most=some n) (hn2:n<=sizeLine) (hdf:d.params.defaults=[]) (hr:Room k callerA)
  (hY:∀(w:World) (h:Heap),YP w h->(K w.params).In h) (hT:∀(w:World) (h:Heap),YP w h->∀P t,(tsOf (K w.params)).lookup P=some t->h.get? P=some { cls :=.none,data :=.fields #[] })
  (F:∀(w:World) (mg:WmP) (fa:Addr) (h:Heap),(K w.params).In h->h.Ns mainGlobals mg->mg d.name=some (.ref fa)->
   ∃fd:FuncData,(∀(s:Shared) (u:Value),BindsTo s fd ⟨[u],[]⟩ [(x,u)])/\
    ∀base:Heap,(K w.params).In base->base.Ns mainGlobals mg->FnOk l.prog w (K w.params) mg base (CX w) k fa fd [x] (sp w))
  (hsp:∀(w:World) (H:Hp) (a:Addr) (ns:List Int),ns.length<=n->SqL (K w.params) H a (ns.map V.int)->sp w [.ref a] H (λv _=>v = .bl true) λ_ _ _=>False)
  (hCX:∀(w:World) (H:Hp) (s:Shared) (e:Value) (s':Shared),CX w [] H s (λ_ _ _=>False) e s'->False):
  W.WalkO q loose XP YP l.row.toRowW d [] (λf vs=>PySem.call f vs):=by
 refine Att.z9b hn hdf λw s₀ s₁ mg mb fa o pm cd doc a vs ns G Y ho hd hcd hmg hobj hints hlen hg =>?_;have KX:=hY w _ Y;obtain⟨fd,hb,hF⟩:=F w mg fa _ KX G.T.g hmg;exact zdG KX G.T.g G.T.b G.T.builtins G.T.nolimit G.T.bmain hg hobj hints (wX hlen hn2) hr (hT w _ Y) hF hb (λH hS=>hsp w H a ns hlen hS) λH e s'=>hCX w H s₁ e s'
def z1F (s:Stmt)(j:Nat):Stmt:=match s with
 | .ClassDef _ _ _ body _ _ _ _ _ _ _=>body.getD j (.Pass ⟨0,0,0,0⟩)
 | _ =>.Pass ⟨0,0,0,0⟩
def z1G (s:Stmt):Arguments:=match s with
 | .FunctionDef _ a _ _ _ _ _ _ _ _=>a
 | _=>{ posonlyargs:=[],args:=[],vararg:=none,kwonlyargs:=[],kw_defaults:=[],kwarg:=none,defaults:=[] }
def z0v (s:Stmt):List Stmt:=match s with
 | .FunctionDef _ _ b _ _ _ _ _ _ _=>b
 | _=>[]
def z01 (s:Stmt):Scope:=match s with
 | .FunctionDef _ _ _ _ _ _ sc _ _ _=>sc
 | _=>{ kind :=.function,names:=[],isGenerator:=false,isCoroutine:=false }
abbrev E0:XK:=λ_ _ _=>False
structure Fun (K:W.Frag)(x qual:Str)(st:Stmt)(f:Addr)(fd:FuncData):Prop where
 ex:∃(oc:Value) (od:Option Addr) (kV doc pm:Value) (an:Option Addr) (cdv ct:Value) (osl:Array (Option Value)),
  fd=W.fnOf x qual (z1G st) (z0v st) (z01 st) .none kV doc pm an cdv ct/\K.lookup f=some ⟨oc,od,.func fd,osl⟩/\W.codeIn K cdv qual=true
 kp:W.keepIn K (.ref f)=true
section
variable {P:Program}{w:World}{K:W.Frag}{mg:WmP}{base:Heap}
def Fun.binds {x qual:Str}{st:Stmt}{f:Addr}{fd:FuncData}{ps:List Str}(F:Fun K x qual st f fd)
  (h:∀(kV doc pm:Value) (an:Option Addr) (cdv ct:Value) (us:List Value),us.length=ps.length->bindArgs (W.fnOf x qual (z1G st) (z0v st) (z01 st) .none kV doc pm an cdv ct) ⟨us,[]⟩=pure (ps.zip us)):z34 K fd ps []:=by
 kcf_m;exact .all (h kV doc pm an cdv ct)
def z8e {x qual:Str}{st:Stmt}{f:Addr}{oc:Value}{od an:Option Addr}{osl:Array (Option Value)}{kV doc pm cdv ct:Value}(l:K.lookup f=some ⟨oc,od,.func (W.fnOf x qual (z1G st) (z0v st) (z01 st) .none kV doc pm an cdv ct),osl⟩)
  (c:W.codeIn K cdv qual=true) (k:W.keepIn K (.ref f)=true):Fun K x qual st f (W.fnOf x qual (z1G st) (z0v st) (z01 st) .none kV doc pm an cdv ct):=⟨⟨oc,od,kV,doc,pm,an,cdv,ct,osl,rfl,l,c⟩,k⟩
end
section
variable {X:Cx}
def pv (i:Nat){x:Str}{pos:Pos}(hN:X.N[i]? = some x:=by rfl)(hv:Vis X.env.scope x:=by first | exact Or.inl rfl | exact Or.inr (Or.inl rfl) | exact Or.inr (Or.inr rfl))(hd:(x == ("__debug__":Str))=false:=by decide)
  (hcd:(x == ("__classdict__":Str))=false:=by decide):PE X (.Name x pos) (tVar i):=zbD hN hv hd hcd
end
def iteF {A B:Prop}(h:B):if false=true then A else B:=by
 rw[if_neg wM];exact h
def iteT {A B:Prop}(h:A):if true=true then A else B:=by
 rw[if_pos rfl];exact h
def Same (H H':Hp):Prop:=∀b o,H b=some o->H' b=some o
def Same.seq {K:W.Frag}{H H':Hp}{a:Addr}{xs:List V}(e:Same H H')(h:SqL K H a xs):SqL K H' a xs:=by
 rcases h with (h | ⟨o,h⟩) | h
 .exact .inl (.inl (e _ _ h))
 .exact .inl (.inr ⟨o,e _ _ h⟩)
 .exact .inr h
end L2
set_option maxHeartbeats 4000000
namespace L2
open PySem PySem.Spec PyProof.Rows
open Builtin.Int (intBits)
abbrev Bt (n:Nat)(i:Int):Prop:=intBits i<=n
def Bt.le {m n:Nat}{i:Int}(h:Bt m i)(q:m<=n:=by decide):Bt n i:=wX h q
def z0B {n:Nat}{i:Int}(h:i.natAbs<2 ^ n):Bt n i:=PySem.intBits_le_iff.mpr h
def Bt.of_abs {n:Nat}{i j:Int}(h:Bt n j)(q:i.natAbs<=j.natAbs):Bt n i:=PySem.intBits_le_of_natAbs q h
def Bt.add {m n:Nat}{i j:Int}(h:Bt m i)(q:Bt n j):Bt (max m n+1) (i+j):=PySem.intBits_add_le h q
def Bt.sub {m n:Nat}{i j:Int}(h:Bt m i)(q:Bt n j):Bt (max m n+1) (i - j):=PySem.intBits_sub_le h q
def Bt.mul {m n:Nat}{i j:Int}(h:Bt m i)(q:Bt n j):Bt (m+n) (i*j):=PySem.intBits_mul_le h q
def Bt.neg {m:Nat}{i:Int}(h:Bt m i):Bt m (-i):=PySem.intBits_neg_le h
def zgr (i j:Int):Prop:=Bt 60000000 i/\Bt 60000000 j
def zjg (_ j:Int):Prop:=j≠0/\Bt 9000 j
def zbW {j:Int}(h0:j≠0)(h:Bt 9000 j):j.natAbs.log2<9000:=by
 have e:intBits j=j.natAbs.log2+1:=by
  unfold Builtin.Int.intBits;rw[if_neg (by simpa using h0)]
 have h':intBits j<=9000:=h;omega
section
variable {X:Cx}{a b c:Expr}{ta tb tc:TE}{pos:Pos}
def zfX:OpR X (binaryOp .Mult) (rI zgr λi j =>.int (i*j)):=opI λ_ _ _ _ _ _ _ hc q=>mul_int q (IntMulOk.of_le hc.1 hc.2 (by decide))
def zdr:OpR X (binaryOp .FloorDiv) (rI zjg λi j =>.int (i.fdiv j)):=opI λ_ _ _ _ _ _ _ hc q=>floordiv_int hc.1 q (.inl (PyProof.noPylong_of_log2 (zbW hc.1 hc.2)))
end
mutual
def Rp (K:W.Frag)(H:Hp):PyData->V->Prop
 | .none,v=>v = .non
 | .bool b,v=>v = .bl b
 | .int i,v=>v = .int i
 | .str x,v=>v = .str x
 | .list ds,v=>∃a xs,v = .ref a/\SqL K H a xs/\RpL K H ds xs
 | .tuple ds,v=>∃a xs,v = .ref a/\SqT K H a xs/\RpL K H ds xs
 | .dict _,_=>False
def RpL (K:W.Frag)(H:Hp):List PyData->List V->Prop
 | [],xs=>xs=[]
 | d::ds,xs=>∃x r,xs=x::r/\Rp K H d x/\RpL K H ds r
end
def Same.seqT {K:W.Frag}{H H':Hp}{a:Addr}{xs:List V}(e:Same H H')(h:SqT K H a xs):SqT K H' a xs:=by
 rcases h with (h | ⟨o,h⟩) | h
 .exact .inl (.inl (e _ _ h))
 .exact .inl (.inr ⟨o,e _ _ h⟩)
 .exact .inr h
mutual
theorem Rp.same {K:W.Frag}{H H':Hp}(e:Same H H'):∀(d:PyData) {v:V},Rp K H d v->Rp K H' d v
 | .none,_,h=>by simpa[Rp] using h
 | .bool _,_,h=>by simpa[Rp] using h
 | .int _,_,h=>by simpa[Rp] using h
 | .str _,_,h=>by simpa[Rp] using h
 | .list ds,_,h=>by
  rw[Rp] at h ⊢;by_in;exact⟨a,xs,h1,e.seq h2,RpL.same e ds h3⟩
 | .tuple ds,_,h=>by
  rw[Rp] at h ⊢;by_in;exact⟨a,xs,h1,e.seqT h2,RpL.same e ds h3⟩
 | .dict _,_,h=>by simp[Rp] at h
theorem RpL.same {K:W.Frag}{H H':Hp}(e:Same H H'):∀(ds:List PyData) {xs:List V},RpL K H ds xs->RpL K H' ds xs
 | [],_,h=>by simpa[RpL] using h
 | d::ds,_,h=>by
  rw[RpL] at h ⊢;obtain⟨x,r,h1,h2,h3⟩:=h;exact⟨x,r,h1,Rp.same e d h2,RpL.same e ds h3⟩
end
section
variable {X:Cx}{pins:List (Addr × Obj)}{σ:St}{H:Hp}{s:Shared}
mutual
theorem Rp.reads (I:Inv X pins σ H s):∀(d:PyData) {v:V}{u:Value},Rp X.K H d v->RelV v u->∃as,Reads s.heap u d as
 | .none,v,u,h,r=>by
  rw[Rp] at h;subst h
  cases (show u=Value.none from r);exact⟨_,.none⟩
 | .bool b,v,u,h,r=>by
  rw[Rp] at h;subst h
  cases (show u=Value.bool b from r);exact⟨_,.bool b⟩
 | .int i,v,u,h,r=>by
  rw[Rp] at h;subst h;obtain⟨t,rfl⟩:=(show ∃t,u=Value.int i t from r);exact⟨_,.int i t⟩
 | .str x,v,u,h,r=>by
  rw[Rp] at h;subst h;obtain⟨t,rfl⟩:=(show ∃t,u=Value.str x t from r);exact⟨_,.str x t⟩
 | .list ds,v,u,h,r=>by
  rw[Rp] at h;obtain⟨a,xs,rfl,h2,h3⟩:=h
  cases (show u=Value.ref a from r)
  obtain⟨its,hv,⟨o,n,e,hc,_,hd⟩,_⟩:=I.list h2;obtain⟨as,q⟩:=RpL.reads I ds h3 hv;exact⟨_,.list e hc hd (by simpa using q)⟩
 | .tuple ds,v,u,h,r=>by
  rw[Rp] at h;obtain⟨a,xs,rfl,h2,h3⟩:=h
  cases (show u=Value.ref a from r)
  obtain⟨its,hv,⟨o,e,hc,n,hd⟩,_⟩:=I.tuple h2;obtain⟨as,q⟩:=RpL.reads I ds h3 hv;exact⟨_,.tuple e hc hd (by simpa using q)⟩
 | .dict _,v,u,h,r=>by simp[Rp] at h
theorem RpL.reads (I:Inv X pins σ H s):∀(ds:List PyData) {xs:List V}{us:List Value},RpL X.K H ds xs->Vals xs us->∃as,ReadsAll s.heap us ds as
 | [],xs,us,h,r=>by
  rw[RpL] at h;subst h
  cases r;exact⟨_,.nil⟩
 | d::ds,xs,us,h,r=>by
  rw[RpL] at h;obtain⟨x,t,rfl,h2,h3⟩:=h
  cases r with
  | cons r1 r2=>
   obtain⟨as,q⟩:=Rp.reads I d h2 r1;obtain⟨bs,q'⟩:=RpL.reads I ds h3 r2;exact⟨_,.cons q q'⟩
end
end
section
variable {X:Cx}
def rEqD (K:W.Frag)(neg:Bool):R2:=λx y H Q=>∃d e,Rp K H d x/\Rp K H e y/\PySem.SeqAt.shaped d=true/\PySem.SeqAt.shaped e=true/\Q (.bl (if neg then !PyData.eqv d e else PyData.eqv d e)) H
def zia (hu:X.A.units+64<cLine):OpR X (compareOp .Eq) (rEqD X.K false):=by
 x_go;obtain⟨d,e,h1,h2,h3,h4,q⟩:=h;obtain⟨as,r1⟩:=Rp.reads I d h1 rx;obtain⟨bs,r2⟩:=Rp.reads I e h2 ry;exact eq_dataH r1 r2 h3 h4 hu ⟨.bl (PyData.eqv d e),H,I,rfl,q⟩
def zi5 (hu:X.A.units+64<cLine):OpR X (compareOp .NotEq) (rEqD X.K true):=by
 x_go;obtain⟨d,e,h1,h2,h3,h4,q⟩:=h;obtain⟨as,r1⟩:=Rp.reads I d h1 rx;obtain⟨bs,r2⟩:=Rp.reads I e h2 ry;exact ne_dataH r1 r2 h3 h4 hu ⟨.bl (!PyData.eqv d e),H,I,rfl,q⟩
end
structure Cal (P:Program)(w:World)(K:W.Frag)(mg:WmP)(base:Heap)(CX:CXT)(k:Nat)(x:Str)(ps:List Str)(sp:Sp):Prop where
 ex:∃f fd,FnOk P w K mg base CX k f fd ps sp/\mg x=some (.ref f)/\W.keepIn K (.ref f)=true/\z34 K fd ps []
section
variable {X:Cx}{CX:CXT}{k:Nat}{ps:List Str}{sp:Sp}{E:XK}{x:Str}{p pos:Pos}{e:Expr}{es:List Expr}{t:TA}
def zjR (C:Cal X.prog X.w X.K X.mg X.base CX k x ps sp)(hr:Room k X.A)(hx:z1j CX X E)(ha:PA X (e::es) t)(hg:Gl X x:=by rfl)
  (hdb:(x == ("__debug__":Str))=false:=by decide) (he:starEach (e::es) X.env=(false,eval e X.env)::starEach es X.env:=by rfl) (hpl:(backTo pos (starEach es X.env)).any (·.1)=false:=by rfl):
  PE X (.Call (.Name x p) (e::es) [] pos) (za1 sp [] E t):=by
 obtain⟨f,fd,F,hm,hk,hb⟩:=C.ex;exact zfU F hr hg hm hk hb .nil hx ha hdb he hpl
end
end L2
namespace L2
open PySem PySem.Spec PyProof.Rows
section
variable {P:Program}{w:World}{H:Hp}{h h':Heap}{a:Addr}{o:HO}
def HOk.track (x:HOk P w H h)(hn:H a=none)(new:z1u P w (upd H a o) h a o):HOk P w (upd H a o) h:=λb u e=>by
 by_cases hb:b=a
 .subst hb;rw[z06] at e;cases e;exact new
 .rw[z02 hb] at e;exact(x b u e).stay (λc v _ q=>q) (λc q=>by rw[z02 (z0F q hn)];exact q) λc xs q=>by rw[z02 (z0F q hn)];exact q
def HOk.other (x:HOk P w H h)(hn:H a=none)(k:∀b u,b≠a->h.get? b=some u->h'.get? b=some u):HOk P w H h':=λb u e=>by
 have nit:∀c v,H c=some v->c≠a:=λc v q z=>by rw[z,hn] at q;cases q
 refine(x b u e).stay (λc v hc q=>k c v ?_ q) (λ_ q=>q) λ_ _ q=>q
 rcases hc with z | z
 .rw[z];exact nit b u e
 .exact nit c _ z
end
end L2
namespace Mth
def lowD (t b:Int):Int:=if b<0 then -(Int.gcd b t:Int) else (Int.gcd b t:Int)
def z4Y {t b:Int}(h:0<b):(0:Int)<(Int.gcd t b:Int)/\t=(Int.gcd t b:Int)*(t / (Int.gcd t b:Int))/\b=(Int.gcd t b:Int)*(b / (Int.gcd t b:Int))/\1<=b / (Int.gcd t b:Int)/\Int.gcd (t / (Int.gcd t b:Int)) (b / (Int.gcd t b:Int))=1:=by
 have p:=(Int.gcd_pos_iff (a:=t) (b:=b)).mpr (.inr (by lia));have e1:t=(Int.gcd t b:Int)*(t / (Int.gcd t b:Int)):=(uf (uK t b)).symm;have e2:b=(Int.gcd t b:Int)*(b / (Int.gcd t b:Int)):=(uf (Int.gcd_dvd_right t b)).symm;refine⟨by lia,e1,e2,?_,?_⟩
 .rcases(show b / (Int.gcd t b:Int)<1\/1<=b / (Int.gcd t b:Int) by lia) with q | q
  .have:(Int.gcd t b:Int)*(b / (Int.gcd t b:Int))<=0:=wW (by lia) (by lia);lia
  .exact q
 .have q:=Int.gcd_mul_left (Int.gcd t b:Int) (t / (Int.gcd t b:Int)) (b / (Int.gcd t b:Int));rw[<- e1, <- e2,uz] at q;have q':Int.gcd t b*1=Int.gcd t b*Int.gcd (t / (Int.gcd t b:Int)) (b / (Int.gcd t b:Int)):=by rw[Nat.mul_one];exact q
  exact(uc p q').symm
def z0c {a b:Int}(hb:0<b):(a / b).natAbs<=a.natAbs:=by
 rw[<- Int.fdiv_eq_ediv_of_nonneg a (uY hb)];exact PySem.natAbs_fdiv_le a b
end Mth
namespace L2
open PySem PySem.Spec PyProof.Rows
def z9U {i:Int}(h1 : -(2 ^ 64)<i)(h2:i<2 ^ 64):Bt 9000 i:=wX (PySem.intBits_le_64 h1 h2) (by decide)
def bt_k {i:Int}(h:i.natAbs<2 ^ 640):Bt 640 i:=z0B h
def bt_n {i:Int}(h0:0<=i)(h:i<2 ^ 640):Bt 640 i:=z0B (by lia)
def zgA (t:TA):TE:=λσ H Q=>t σ H λxs H1=>xs.length<=sizeLine/\∀p H2,Same H1 H2->H2 p=some (.tup xs)->Q (.ref p) H2
def z0P {H:Hp}{p:Addr}(h:H p=none)(o:HO):Same H (upd H p o):=λb u q=>by rw[z02 (z0F q h)];exact q
def PE.imp {X:Cx}{e:Expr}{t t':TE}(h:PE X e t)(i:∀σ H Q,t' σ H Q->t σ H Q):PE X e t':=λpins s σ H Q I q=>h pins s σ H Q I (i σ H Q q)
def OpR.imp {X:Cx}{f:Value->Value->Sem Value}{r r':R2}(h:OpR X f r)(i:∀x y H Q,r' x y H Q->r x y H Q):OpR X f r':=λpins s σ H x y v u Q I rx ry q=>h pins s σ H x y v u Q I rx ry (i x y H Q q)
section
variable {X:Cx}{es:List Expr}{t:TA}{pos:Pos}
def zfQ {x1}(h:PA X es t):PE X (.Tuple es x1 pos) (zgA t):=by
 intro pins s σ H Q I hq;k_one;have hf:H1 s1.heap.objs.size=none:=I1.hok.fresh (wG _);refine⟨.ref s1.heap.objs.size,upd H1 s1.heap.objs.size (.tup xs),I1.laid (t':=s1.toks) (λb u e=>wm _ e) (wG _) ?_,rfl,q _ _ (z0P hf _) z06⟩;exact⟨z,us,r,⟨_,wB _ rfl,rfl,_,rfl⟩,_,wB _ rfl,rfl⟩
def SlR.imp {r r':V->Option Int->Option Int->Hp->VK->Prop}(h:SlR X r)(i:∀x lo hi H Q,r' x lo hi H Q->r x lo hi H Q):SlR X r':=by
 unfold SlR at h ⊢
 intros
 apply h
 all_goals first | assumption | (apply i;assumption)
end
structure QE (X:Cx)(e:Expr)(t:TE):Prop where
 p:PE X e t
structure QT (X:Cx)(e:Expr)(t:TT):Prop where
 p:PT X e t
structure QW (X:Cx)(e:Expr)(t:TT):Prop where
 p:PW X e t
structure QA (X:Cx)(es:List Expr)(t:TA):Prop where
 p:PA X es t
structure QS (X:Cx)(st:Stmt)(t:TS):Prop where
 p:PS X st t
structure QSs (X:Cx)(st:List Stmt)(t:TS):Prop where
 p:PSs X st t
structure QG (X:Cx)(e:Expr)(t:TG):Prop where
 p:PG X e t
structure QGs (X:Cx)(es:List Expr)(t:TGs):Prop where
 p:PGs X es t
structure QI (X:Cx)(tg e:Expr)(t:TI):Prop where
 p:PI X tg e t
structure QO (X:Cx)(e:Option Expr)(t:TO):Prop where
 p:PO X e t
section
variable {X:Cx}{a b c e f o:Expr}{ta tb tc te:TE}{pos pos2 p2:Pos}{tA tB':TT}{rest:List Expr}{es:List Expr}{aa:TA}
def zhD {i j pos}:QE X (.Constant (.int i) j pos) (tC (.int i)):=⟨z9y⟩
def zjL {i j pos}:QE X (.Constant (.bool i) j pos) (tC (.bl i)):=⟨zjT⟩
def zhA {j pos}:QE X (.Constant .none j pos) (tC .non):=⟨zhR⟩
def z2S {x j pos}:QE X (.Constant (.str x) j pos) (tC (.str x)):=⟨zet⟩
def qv (i:Nat){x:Str}{pos:Pos}(hN:X.N[i]? = some x:=by rfl)(hv:Vis X.env.scope x:=by first | exact Or.inl rfl | exact Or.inr (Or.inl rfl) | exact Or.inr (Or.inr rfl))(hd:(x == ("__debug__":Str))=false:=by decide)
  (hcd:(x == ("__classdict__":Str))=false:=by decide):QE X (.Name x pos) (tVar i):=⟨zbD hN hv hd hcd⟩
def zhz {op:Operator}{r:R2}(ho:OpR X (binaryOp op) r)(ha:QE X a ta)(hb:QE X b tb):QE X (.BinOp a op b pos) (tOp r ta tb):=⟨zjP ho ha.p hb.p⟩
def zjJ {op:UnaryOp}{r:V->Hp->VK->Prop}(ho:UnR X (unaryOp op) r)(ha:QE X a ta):QE X (.UnaryOp op a pos) (tUn r ta):=⟨zjO ho ha.p⟩
def zen {op}{t:TE}(h:QE X a t):QE X (.BoolOp op [a] pos) t:=⟨zhQ h.p⟩
def zep (ha:QE X a ta)(hb:QE X (.BoolOp .And (b::rest) pos) tb):QE X (.BoolOp .And (a::b::rest) pos) (zgL ta tb):=⟨zhX ha.p hb.p⟩
def zfE {op:CmpOp}{r:R2}(ho:OpR X (compareOp op) r)(ha:QE X a ta)(hb:QE X b tb)(hm:behindInMarks op b=false):QE X (.Compare a [op] [b] pos) (tOp r ta tb):=⟨zfT ho ha.p hb.p hm⟩
def zfn {op:CmpOp}{r:R2}(ho:OpR X (compareOp op) r)(ha:QE X a ta)(hb:QE X b tb)(hm:behindInMarks op b=false):QT X (.Compare a [op] [b] pos) (zaK (tOp r ta tb)):=⟨zfI ho ha.p hb.p hm⟩
def zda {op op':CmpOp}{r r':R2}(ho:OpR X (compareOp op) r)(ho':OpR X (compareOp op') r')(ha:QE X a ta)(hb:QE X b tb)(hc:QE X c tc)(hm:lastMarks [op,op'] [b,c]=false:=by with_unfolding_all rfl):QE X (.Compare a [op,op'] [b,c] pos) (z7G r r' ta tb tc):=⟨zdm ho ho' ha.p hb.p hc.p hm⟩
def zd1 {op op':CmpOp}{r r':R2}(ho:OpR X (compareOp op) r)(ho':OpR X (compareOp op') r')(ha:QE X a ta)(hb:QE X b tb)(hc:QE X c tc)(hm:lastMarks [op,op'] [b,c]=false:=by with_unfolding_all rfl):QT X (.Compare a [op,op'] [b,c] pos) (zaK (z7G r r' ta tb tc)):=⟨zdc ho ho' ha.p hb.p hc.p hm⟩
def zhm {t:TE}(h:QE X e t)(he:∀whole,isTrue e X.env whole=(do let v <- whole;standAt e.pos;holding [v] (truthy v)):=by intro _;rfl):QT X e (tB t):=⟨zhG h.p he⟩
def zhn (ha:QT X a tA):QT X (.UnaryOp .Not a pos) (tNot tA):=⟨zhH ha.p⟩
def zfm (ha:QT X a tA):QW X (.BoolOp .And [a] pos) tA:=⟨zfG ha.p⟩
def zhk (ha:QT X a tA):QW X (.BoolOp .Or [a] pos) tA:=⟨zhE ha.p⟩
def zhl (ha:QT X a tA)(hb:QW X (.BoolOp .And (b::rest) pos) tB'):QW X (.BoolOp .And (a::b::rest) pos) (tAnd tA tB'):=⟨zhF ha.p hb.p⟩
def zjH (ha:QT X a tA)(hb:QW X (.BoolOp .Or (b::rest) pos) tB'):QW X (.BoolOp .Or (a::b::rest) pos) (tOr tA tB'):=⟨zjM ha.p hb.p⟩
theorem QW.pt {t:TT}(h:QW X e t):QT X e t:=⟨h.p.pt⟩
def zbv {x:Str}{v:V}{u:Value}(hg:Gl X x)(hm:X.mg x=some u)(r:RelV v u)(hd:(x == ("__debug__":Str))=false:=by decide):QE X (.Name x pos) (tC v):=⟨z8M hg hm r hd⟩
def zd8 {x y:Str}(hg:Gl X x)(hm:∃t,X.mg x=some (.str y t))(hd:(x == ("__debug__":Str))=false:=by decide):QE X (.Name x pos) (tC (.str y)):=by
 obtain⟨t,hm⟩:=hm;exact⟨z8M hg hm ⟨t,rfl⟩ hd⟩
def z4o {x:Str}{y:Int}(hg:Gl X x)(hm:∃t,X.mg x=some (.int y t))(hd:(x == ("__debug__":Str))=false:=by decide):QE X (.Name x pos) (tC (.int y)):=by
 obtain⟨t,hm⟩:=hm;exact⟨z8M hg hm ⟨t,rfl⟩ hd⟩
def z25 {x:Str}{v:V}{u:Value}(hg:Gl X x)(hm:X.mg x=none)(hv:bootBuiltins x=some u)(r:RelV v u)(hn:x≠"__name__":=by decide)(hd:(x == ("__debug__":Str))=false:=by decide):QE X (.Name x pos) (tC v):=⟨zfV hg hm hv r hn hd⟩
def z7U:QA X [] tNil:=⟨z3u⟩
def z3X (ha:QE X e te)(hr:QA X es aa)(hs:starEach (e::es) X.env=(false,eval e X.env)::starEach es X.env:=by rfl):QA X (e::es) (zgK te aa):=⟨z4O ha.p hr.p hs⟩
def zfC {CX:CXT}{k:Nat}{ps:List Str}{sp:Sp}{E:XK}{x:Str}{pp:Pos}(C:Cal X.prog X.w X.K X.mg X.base CX k x ps sp)(hr:Room k X.A)(hx:z1j CX X E)(ha:QA X (e::es) aa)(hg:Gl X x:=by rfl)
  (hdb:(x == ("__debug__":Str))=false:=by decide) (he:starEach (e::es) X.env=(false,eval e X.env)::starEach es X.env:=by rfl) (hpl:(backTo pos (starEach es X.env)).any (·.1)=false:=by rfl):QE X (.Call (.Name x pp) (e::es) [] pos) (za1 sp [] E aa):=⟨zjR C hr hx ha.p hg hdb he hpl⟩
def z5t {x:Str}{pp:Pos}{id:String}{r:List V->Hp->VK->Prop}(hc:z1k X (.builtin id) r)(hg:Gl X x)(hm:X.mg x=none)(hv:bootBuiltins x=some (.builtin id))(ha:QA X (e::es) aa)(hn:x≠"__name__":=by decide)(hdb:(x == ("__debug__":Str))=false:=by decide)
  (he:starEach (e::es) X.env=(false,eval e X.env)::starEach es X.env:=by rfl) (hpl:(backTo pos (starEach es X.env)).any (·.1)=false:=by rfl):QE X (.Call (.Name x pp) (e::es) [] pos) (tCB r aa):=⟨zdn hc hg hm hv ha.p hn hdb he hpl⟩
def z7T {x:Str}{pp:Pos}{id:String}{r:List V->Hp->VK->Prop}(hc:z1k X (.type id) r)(hg:Gl X x)(hm:X.mg x=none)(hv:bootBuiltins x=some (.type id))(ha:QA X (e::es) aa)(hn:x≠"__name__":=by decide)(hdb:(x == ("__debug__":Str))=false:=by decide)
  (he:starEach (e::es) X.env=(false,eval e X.env)::starEach es X.env:=by rfl) (hpl:(backTo pos (starEach es X.env)).any (·.1)=false:=by rfl):QE X (.Call (.Name x pp) (e::es) [] pos) (tCB r aa):=⟨zbF hc hg hm hv ha.p hn hdb he hpl⟩
def zjK {r:R2}(hr:IxR X r)(ha:QE X a ta)(hb:QE X b tb)(hs:z7x b):QE X (.Subscript a b pos) (tOp r ta tb):=⟨zjQ hr ha.p hb.p hs⟩
def zfz:QO X none zaM:=⟨zfO⟩
def zfy (h:QE X e te):QO X (some e) (zgC te):=⟨zfN h.p⟩
def z9v {r:V->Option Int->Option Int->Hp->VK->Prop}{lo hi:Option Expr}{tl th:TO}(hr:SlR X r)(he:QE X e te)(hl:QO X lo tl)(hu:QO X hi th):QE X (.Subscript e (.Slice lo hi none p2) pos) (tSl r te tl th):=⟨zdh hr he.p hl.p hu.p⟩
def zfB {x1}(h:QA X es aa):QE X (.Tuple es x1 pos) (zgA aa):=⟨zfQ h.p⟩
def zeo {T id:String}{name:Str}{apos cpos:Pos}{r:V->List V->Hp->VK->Prop}(pa:PlainAttrs T)(slot:Slot T name id)(hty:typeOf (.builtin id)=pure (.type "method_descriptor"))(hm:MtR X id r)(ho:QE X o te)
  (hbase:attributeBase o name X.env (eval o X.env)=eval o X.env:=by rfl) (hline:(apos.endLine == cpos.line)=true:=by rfl):QE X (.Call (.Attribute o name apos) [] [] cpos) (tBM0 X.K T r te):=⟨zhW pa slot hty hm ho.p hbase hline⟩
def zdb {T id:String}{name:Str}{apos cpos:Pos}{r:V->List V->Hp->VK->Prop}(pa:PlainAttrs T)(slot:Slot T name id)(hty:typeOf (.builtin id)=pure (.type "method_descriptor"))(hm:MtR X id r)(ho:QE X o te)(ha:QA X (e::es) aa)
  (hbase:attributeBase o name X.env (eval o X.env)=eval o X.env:=by rfl)
  (hfew:((backTo cpos (starEach (e::es) X.env)).all (λx => !x.1) && (backToKw cpos (keywordEach [] X.env)).all (λx=>x.1.isSome)
   && decide ((e::es).length+([]:List Keyword).length+(if ([]:List Keyword).isEmpty then 0 else 1)<30))=true:=by rfl)
  (hline:(apos.endLine == cpos.line)=true:=by rfl) (hs:starEach (e::es) X.env=(false,eval e X.env)::starEach es X.env:=by rfl) (hplain:(backTo cpos (starEach es X.env)).any (·.1)=false:=by rfl):
  QE X (.Call (.Attribute o name apos) (e::es) [] cpos) (tBM X.K T r te aa):=⟨zjS pa slot hty hm ho.p ha.p hbase hfew hline hs hplain⟩
end
section
variable {X:Cx}{st:Stmt}{rest body a b:List Stmt}{t u tb:TS}{e tg c iter:Expr}{te:TE}{tc:TT}{pos:Pos}{g:TG}{wi:TI}{aa:TA}
def z8K:QSs X [] zgD:=⟨zfJ⟩
def z9t (h1:QS X st t)(h2:QSs X rest u):QSs X (st::rest) (tSeq t u):=⟨z4q h1.p h2.p⟩
def z4M (h1:QS X st t):QSs X [st] t:=⟨zbx h1.p⟩
def zd5:QS X st zdZ:=⟨zde⟩
def zbn (he:QE X e te):QS X (.Return (some e) pos) (tRet te):=⟨zhJ he.p⟩
def z6V (he:QE X e te)(hs:swapsWith e none pos.line X.env=pure false:=by rfl):QS X (.Expr e pos) (zgF te):=⟨zfK he.p hs⟩
def zfq (hc:QT X c tc)(ha:QSs X a t)(hb:QSs X b u):QS X (.If c a b pos) (tIfS tc t u):=⟨zjN hc.p ha.p hb.p⟩
def zd2 (hp:PassesOwn (model X.prog X.w) X.A X.env X.xe)(hc:QT X c tc)(hb:QSs X body tb):QS X (.While c body [] pos) (zdY tc tb):=⟨zdd hp hc.p hb.p⟩
def z7Q (hp:PassesOwn (model X.prog X.w) X.A X.env X.xe)(hc:X.calm=true)(hi:QI X tg iter wi)(hg:QG X tg g)(hb:QSs X body tb)
  (hs:∀x,foldedSetIterable iter X.env x=pure x:=by intro _;rfl):QS X (.For tg iter body [] pos) (tFor wi g tb):=⟨zhL hp hc hi.p hg.p hb.p hs⟩
def zem (he:QE X e te)(hg:QG X tg g)(hs:swapsWithSole [tg] e pos.line X.env=pure false:=by rfl)(hw:swappedStores [tg] e X.env=pure none:=by rfl)
  (h1:(assignEach [tg] X.env).map (·.2)=[assign tg X.env]:=by rfl):QS X (.Assign [tg] e pos) (tAsg te g):=⟨zhM he.p hg.p hs hw h1⟩
def zhp {i j:Nat}{x y:Str}{a b:Expr}{px py pt:Pos}{kt k2 pt2}(hc:X.calm=true)(hN:X.N.Nodup)(hi:X.N[i]? = some x)(hj:X.N[j]? = some y)(hij:i≠j)
  (hx:X.env.scope.names.lookup x=some .local) (hy:X.env.scope.names.lookup y=some .local) (ha:QA X [a,b] aa)
  (hw:swappedStores [.Tuple [.Name x px,.Name y py] kt pt] (.Tuple [a,b] k2 pt2) X.env=pure (some [x,y]))
  (hs:swapsWithSole [.Tuple [.Name x px,.Name y py] kt pt] (.Tuple [a,b] k2 pt2) pos.line X.env=pure false:=by rfl):
  QS X (.Assign [.Tuple [.Name x px,.Name y py] kt pt] (.Tuple [a,b] k2 pt2) pos) (tPar i j aa):=⟨zhK hc hN hi hj hij hx hy ha.p hw hs⟩
def z23:QGs X [] gNil:=⟨zfP⟩
def z0t {es:List Expr}{t:TG}{u:TGs}(h1:QG X e t)(h2:QGs X es u)
  (hs:(assignEach (e::es) X.env).map (·.2)=assign e X.env::(assignEach es X.env).map (·.2):=by rfl):QGs X (e::es) (zdO t u):=⟨zdg h1.p h2.p hs⟩
def z3f {es:List Expr}{k:Nat}{t:TGs}{n:Nat}(hc:X.calm=true)(h:QGs X es t)
  (hn:(assignEach es X.env).length=n:=by rfl) (hst:(assignEach es X.env).findIdx? (·.1)=none:=by rfl):QG X (.Tuple es k pos) (gTup X.K n t):=⟨zhO hc h.p hn hst⟩
def z7S {a:Expr}{p:Pos}(hg:Gl X "range")(hm:X.mg "range"=none)(ha:QA X [a] aa)(hs:starEach [a] X.env=[(false,eval a X.env)]:=by rfl):QI X tg (.Call (.Name "range" p) [a] [] pos) (ziN aa):=⟨zbB hg hm ha.p hs⟩
end
def eqv2 {a b c d:Int}:PyData.eqv (.tuple [.int a,.int b]) (.tuple [.int c,.int d])=decide (a=c/\b=d):=by
 simp[PyData.eqv,PyData.eqvAll]
 by_cases h1:a=c <;> by_cases h2:b=d <;> simp[h1,h2]
end L2
namespace Mth
def g3 (x y b:Int):Int:=((Int.gcd ((Int.gcd b x:Nat):Int) y:Nat):Int)
def z5u (x y b:Int):g3 x y b ∣ b:=Int.dvd_trans (uK _ _) (uK b x)
def z9Q (x y b:Int):g3 x y b ∣ x:=Int.dvd_trans (uK _ _) (Int.gcd_dvd_right b x)
def z9P (x y b:Int):g3 x y b ∣ y:=Int.gcd_dvd_right _ _
def z9O {x y b:Int}(h:0<b):0<g3 x y b:=by
 have p:=(Int.gcd_pos_iff (a:=b) (b:=x)).mpr (.inl (by lia));have p2:=(Int.gcd_pos_iff (a:=((Int.gcd b x:Nat):Int)) (b:=y)).mpr (.inl (by lia));unfold g3;lia
structure Plc (x y b u v t:Int):Prop where
 pos:1<=t
 cop:Int.gcd ((Int.gcd u v:Nat):Int) t=1
 cx:u*b=x*t
 cy:v*b=y*t
 lu:u.natAbs<=x.natAbs
 lv:v.natAbs<=y.natAbs
 lt:t.natAbs<=b.natAbs
def z2C (a b c:Int):Int.gcd ((Int.gcd a b:Nat):Int) c=Nat.gcd (Nat.gcd a.natAbs b.natAbs) c.natAbs:=rfl
def z9w {x y b:Int}(h:0<b):Plc x y b (x / g3 x y b) (y / g3 x y b) (b / g3 x y b):=by
 have hg:=z9O (x:=x) (y:=y) h;have ex:x=g3 x y b*(x / g3 x y b):=(uf (z9Q x y b)).symm;have ey:y=g3 x y b*(y / g3 x y b):=(uf (z9P x y b)).symm;have eb:b=g3 x y b*(b / g3 x y b):=(uf (z5u x y b)).symm;have ee:g3 x y b=((Nat.gcd (Nat.gcd b.natAbs x.natAbs) y.natAbs:Nat):Int):=rfl;refine⟨?_,?_,?_,?_,z0c hg,z0c hg,z0c hg⟩
 .generalize b / g3 x y b=t at eb
  rcases(show t<1\/1<=t by lia) with q | q
  .have:g3 x y b*t<=0:=wW (by lia) (by lia);lia
  .exact q
 .rw[z2C];generalize hu:x / g3 x y b=u at ex;generalize hv:y / g3 x y b=v at ey;generalize ht:b / g3 x y b=t at eb;have nx:=congrArg Int.natAbs ex;have ny:=congrArg Int.natAbs ey;have nb:=congrArg Int.natAbs eb;rw[vF] at nx ny nb;have ng:(g3 x y b).natAbs=Nat.gcd (Nat.gcd b.natAbs x.natAbs) y.natAbs:=by rw[ee,uz]
  generalize hG:(g3 x y b).natAbs=G at nx ny nb ng;have hGp:0<G:=by lia
  rw[nx,ny,nb,Nat.gcd_mul_left,Nat.gcd_mul_left] at ng;have e1:G*1=G*Nat.gcd (Nat.gcd t.natAbs u.natAbs) v.natAbs:=by rw[Nat.mul_one];exact ng
  have e2:=uc hGp e1;rw[uO (Nat.gcd u.natAbs v.natAbs), <- Nat.gcd_assoc];exact e2.symm
 .have:x / g3 x y b*b=x / g3 x y b*(g3 x y b*(b / g3 x y b)):=congrArg _ eb;rw[this,Int.mul_left_comm, <- uQ, <- ex]
 .have:y / g3 x y b*b=y / g3 x y b*(g3 x y b*(b / g3 x y b)):=congrArg _ eb;rw[this,Int.mul_left_comm, <- uQ, <- ey]
end Mth
namespace L2
open PySem PySem.Spec PyProof.Rows
def zi2 {K:W.Frag}{h0:Heap}{mg:WmP}{x:Str}{C:Addr}{bmB:List Value}{newId:String}(X:K.In h0)(hm:mg x=some (.ref C))(q:W.excIn K C bmB newId=true):OwnCls x C bmB newId mg h0:=by
 refine⟨hm,?_⟩;unfold W.excIn at q
 split at q
 .rename_i dd cd sl ho
  split at q
  .rename_i C' bm k0 k1 k2 k3 n k5 hm hs
   simp only[wN,uh,uG] at q;obtain⟨⟨⟨⟨⟨rfl,rfl⟩,hdel⟩,ht⟩,hok⟩,hni⟩:=q;obtain⟨nm,bs,mro,ns,qn,hd,sn,sub,ab,col,del⟩:=cd;dsimp only at hm hdel hok hni;subst hm hdel;have hsl:sl = #[k0,k1,k2,k3,some (.builtin n),k5]:=by
    obtain⟨l⟩:=sl;simp only at hs;rw[hs]
   subst hsl;exact⟨bm,ns,nm,qn,bs,hd,sn,sub,ab,col,dd,k0,k1,k2,k3,k5,_,X _ _ ho,.of_isNs (W.isNs_of_in X hok),W.nsMap_none_of_in X hok hni,W.tail_of_in X ht⟩
  .cases q
 .cases q
structure Fly (P:Program)(w:World)(outer:List Env)(H:Hp)(h0:Heap)(Cv:Value)(H':Hp)(ea t:Addr)(B h:Heap):Prop where
 fl:Heap.FlyingW B outer ea Cv (.ref t) h
 un:Un (frs outer) [] H H' h0 h
 hok:HOk P w H' h
 trk:∀b o,H' b=some o->∃ob,B.get? b=some ob
 kep:∀b o,h0.get? b=some o->b ∉ frs outer->∃ob,B.get? b=some ob
def CXe (P:Program)(w:World):CXT:=λouter H s E e s'=>∃(ea t:Addr) (Cv:Value) (H':Hp) (B:Heap),e = .ref ea/\Fly P w outer H s.heap Cv H' ea t B s'.heap/\AllBare s'.gens/\s'.os=s.os/\E Cv none H'
section
variable {P:Program}{w:World}{outer:List Env}{H H':Hp}{h0 h h2:Heap}{Cv:Value}{ea t:Addr}{B:Heap}
def z1u.there {a:Addr}{o:HO}(x:z1u P w H h a o):∃ob,h.get? a=some ob:=by
 cases o with
 | lst xs=>obtain⟨_,_,_,_,e⟩:=x;exact⟨_,e⟩
 | tup xs=>obtain⟨_,_,_,⟨ob,e,_⟩,_⟩:=x;exact⟨_,e⟩
 | dK kvs=>obtain⟨_,_,_,_,o,_,_,e,_⟩:=x;exact⟨_,e⟩
 | dT kvs=>obtain⟨_,_,_,_,o,_,_,e,_⟩:=x;exact⟨_,e⟩
 | set S n=>obtain⟨o,_,_,_,e,_⟩:=x;exact⟨_,e⟩
 | ins C dx fs=>obtain⟨_,_,_,e,_⟩:=x;exact⟨_,e⟩
 | own y=>obtain⟨_,e⟩:=x;exact⟨_,e⟩
 | xd fs=>obtain⟨_,⟨_,_,_,e,_⟩,_⟩:=x;exact⟨_,e⟩
 | rng lo hi=>obtain⟨_,_,_,e⟩:=x;exact⟨_,e⟩
 | frz ob u=>obtain⟨e,_⟩:=x;exact⟨_,e⟩
 | tbl ps=>rcases x with e | ⟨_,_,_,_,_,_,_,_,_,_,_,e,_⟩ <;> exact⟨_,e⟩
 | met f y=>exact⟨_,(show h.get? a=some _ from x)⟩
 | ext φ=>obtain⟨_,⟨_,e⟩,_⟩:=x;exact⟨_,e⟩
def HOk.over (ok:HOk P w H' h)(trk:∀b o,H' b=some o->∃ob,B.get? b=some ob)(k1:B.StaysIn h)(k2:B.StaysIn h2):HOk P w H' h2:=λa o e=>
 (ok a o e).stay (λb u hb q=>by
  have hb':∃o',H' b=some o':=by
   rcases hb with z | z
   .exact⟨o,by rw[z];exact e⟩
   .exact⟨_,z⟩
  obtain⟨o',hb'⟩:=hb';obtain⟨ob,z⟩:=trk b o' hb';have z1:=k1 b ob z;rw[q] at z1
  cases z1
  exact k2 b u z) (λ_ q=>q) λ_ _ q=>q
def Fly.free (x:Fly P w outer H h0 Cv H' ea t B h):H' ea=none:=by
 cases q:H' ea with
 | none=>rfl
 | some o=>
  obtain⟨ob,z⟩:=x.trk ea o q;have:=x.fl.2.1;rw[z] at this
  cases this
def Fly.on (x:Fly P w outer H h0 Cv H' ea t B h)(f:B.StaysIn h2)(sm:h.UpToSlots h2):Un (frs outer) [] H H' h0 h2/\HOk P w H' h2:=by
 have fr:∀b∈frs outer,∃o,h.get? b=some o/\∀vs,o.data ≠ .fields vs:=λb hb=>(x.fl.2.2.1.mem hb).2;refine⟨⟨λb o e n hb hx =>?_,λb o e n hb hx =>?_,x.un.free,λb o e hx =>?_,x.un.tups,x.un.frzs,x.un.tbls⟩,x.hok.over x.trk x.fl.1 f⟩
 .obtain⟨ob,z⟩:=x.kep b o e hb;have z1:=x.fl.1 b ob z;rw[x.un.keep b o e n hb hx] at z1
  cases z1
  exact f b _ z
 .obtain⟨sl,z⟩:=x.un.slot b o e n hb hx;obtain⟨o',z',d⟩:=fr b hb;rw[z] at z'
  cases z'
  obtain⟨sl',z2⟩:=sm b _ z d;exact⟨sl',z2⟩
 .by_cases hb:b∈frs outer
  .obtain⟨o',z',d⟩:=fr b hb;obtain⟨sl',z2⟩:=sm b _ z' d;exact⟨_,z2⟩
  .obtain⟨ob,z⟩:=x.kep b o e hb;exact⟨ob,f b ob z⟩
end
section
variable {P:Program}{w:World}{K:W.Frag}{mg:WmP}{base:Heap}{N:List Str}{qual:Str}{sc:Scope}{f:Addr}{cdv:Value}{A:Around}{outer:List Env}{s:Shared}{H:Hp}{E:XK}
def z3Y:z1j (CXe P w) ((cxOf (CXe P w) P w K mg base N qual sc f cdv A outer s H E).wish (cxOf (CXe P w) P w K mg base N qual sc f cdv A outer s H E).xe) E:=by
 intro pins σ H1 s1 e s' I hx;obtain⟨ea,t,Cv,H',B,rfl,F,hb,ho,q⟩:=hx;show wpAny (model P w) _ (leaving _ (.ref ea)) _ _ s';have hfr:=I.ok.frames;refine wpAny_leaves_onW hfr rfl F.fl λh2 hfl2 sm =>?_;obtain⟨un2,hok2⟩:=F.on hfl2.1 sm;have u1:Un (frs outer) [] H H1 s.heap s1.heap:=I.base;have sz:∀b o,s.heap.get? b=some o->b≠s.heap.objs.size:=λb o e=>wT (wE e);have nin:∀b o,s.heap.get? b=some o->b ∉ frs outer->b ∉ frs (envOfC qual sc s.heap.objs.size f cdv::outer):=λb o e hb z=>by
  rcases wf.mp (I.stkSub b z) with y | y
  .exact sz b o e y
  .exact hb y
 refine⟨ea,t,Cv,H',B,rfl,⟨hfl2,⟨λb o e n hb _ =>?_,λb o e n hb _ =>?_,λb o e n _ =>?_,λb o e _ =>?_,λb xs e=>un2.tups b xs (u1.tups b xs e),λb o u e=>un2.frzs b o u (u1.frzs b o u e),λb ps e =>?_⟩,hok2,F.trk,λb o e hb =>?_⟩,hb,ho.trans I.os,q⟩
 .exact un2.keep b o (u1.keep b o e n hb (by simp)) (u1.free b o e n (by simp)) (nin b o e hb) (by simp)
 .obtain⟨sl,z⟩:=u1.slot b o e n hb (by simp);obtain⟨sl2,z2⟩:=un2.any z (u1.free b o e n (by simp)) (by simp);exact⟨sl2,z2⟩
 .k_sub;exact un2.free b o' z (u1.free b o e n (by simp)) (by simp)
 .k_sub;exact un2.there b o' z (by simp)
 .obtain⟨m1,e1⟩:=u1.tbls b ps e;obtain⟨m2,e2⟩:=un2.tbls b _ e1;exact⟨m1++m2,by rw[e2,Array.append_assoc]⟩
 .k_sub;exact F.kep b o' z (nin b o e hb)
structure Exc (K:W.Frag)(mg:WmP)(x:Str)(C:Addr):Prop where
 nm:mg x=some (.ref C)
 ok:∃newId initId bm,ExcBaseFacts "ValueError" newId initId bm/\W.excIn K C bm newId=true
def zgB (E:XK)(C:Addr):TS:=λ_ _ H=>E (.ref C) none H
def zd4 {x:Str}{C:Addr}{m:Str}{np cpos pos p2:Pos}{j}(T:Exc K mg x C)(hg:Gl ((cxOf (CXe P w) P w K mg base N qual sc f cdv A outer s H E).wish (cxOf (CXe P w) P w K mg base N qual sc f cdv A outer s H E).xe) x)(hdb:(x == ("__debug__":Str))=false:=by decide):
  QS ((cxOf (CXe P w) P w K mg base N qual sc f cdv A outer s H E).wish (cxOf (CXe P w) P w K mg base N qual sc f cdv A outer s H E).xe) (.Raise (some (.Call (.Name x np) [.Constant (.str m) j p2] [] cpos)) none pos) (zgB E C):=by
 constructor
 intro pins s1 σ H1 D I q;obtain⟨newId,initId,bmB,FB,hex⟩:=T.ok;obtain⟨bm,Nn,nm,qn,bs,hdct,sn,sub,ab,col,dd,k0,k1,k2,k3,k5,mN,hC,hN,hni,TT⟩:=(zi2 I.mod.kin T.nm hex).obj;refine wpAny_Raise_call_subT (C:=C) (nm:=nm) (q:=qn) (N:=Nn) (bs:=bs) (bm:=bm) (hdct:=hdct) (sn:=sn) (sub:=sub) (ab:=ab) (col:=col) (dd:=dd) (k0:=k0) (k1:=k1) (k2:=k2) (k3:=k3) (k5:=k5) FB (mN:=mN) (TT.hasType FB.hasBase) (I.ok.hd rfl) rfl hni (z31 I hg T.nm ⟨rfl,?_⟩ hdb);refine uH (va ((z4O zet z3u) cpos pins s1 σ H1 (λvs H2=>vs=[V.str m]/\H2=H1) I ⟨rfl,rfl⟩) (λus s2 h2 =>?_) λ_ _ y=>y);obtain⟨vs,H2,I2,rv,rfl,rfl⟩:=h2;obtain⟨u,rfl,_⟩:=z6I rv;refine⟨rfl,(by show 1<=sizeLine;decide),I2.bk _ _ hC,hN.keeps I2.bk,TT.keeps I2.bk,λh' e hx =>?_⟩;show wpAny (model P w) _ (leaving _ (.ref e)) _ _ _;have fin:∀env∈(envOfC qual sc s.heap.objs.size f cdv::outer),∀b,env.frame=some b->b∈frs (envOfC qual sc s.heap.objs.size f cdv::outer):=λenv he b hb=>uP.mpr ⟨env,he,hb⟩;refine wpAny_leaves_madeW (base:=W.hideAll s2.heap (frs (envOfC qual sc s.heap.objs.size f cdv::outer))) (h:=s2.heap) I2.ok.frames rfl (λb o q=>W.of_hideAll _ q) (W.funFrames_hide I2.stack fin) hx λh2 t x1 x2 x3 x4 =>?_;have u1:Un (frs outer) [] H H2 s.heap s2.heap:=I2.base;have sz:∀b o,s.heap.get? b=some o->b≠s.heap.objs.size:=λb o e=>wT (wE e);have nin:∀b o,s.heap.get? b=some o->b ∉ frs outer->b ∉ frs (envOfC qual sc s.heap.objs.size f cdv::outer):=λb o e hb z=>by
  rcases wf.mp (I2.stkSub b z) with y | y
  .exact sz b o e y
  .exact hb y
 have inB:∀b o,s2.heap.get? b=some o->b ∉ frs (envOfC qual sc s.heap.objs.size f cdv::outer)->(W.hideAll s2.heap (frs (envOfC qual sc s.heap.objs.size f cdv::outer))).get? b=some o:=λb o e hb=>W.hideAll_get _ e hb;have trk:∀b o,H2 b=some o->∃ob,(W.hideAll s2.heap (frs (envOfC qual sc s.heap.objs.size f cdv::outer))).get? b=some ob:=λb o e=>by
  obtain⟨ob,z⟩:=(I2.hok b o e).there;refine⟨ob,inB b ob z λy =>?_⟩;rw[I2.stkFree b y] at e
  cases e
 have stay:=x1.1;have hok2:HOk P w H2 h2:=I2.hok.over trk (λb o q=>W.of_hideAll _ q) stay;have fr:∀b∈frs outer,∃o,s2.heap.get? b=some o/\∀vs,o.data ≠ .fields vs:=λb hb=>(I2.stack.mem (we _ hb)).2;have up:s2.heap.UpToSlots h2:=(Heap.UpToSlots.of_keeps hx.keeps).trans x4;refine⟨e,t,.ref C,H2,_,rfl,⟨x1,⟨λb o e n hb _ =>?_,λb o e n hb _ =>?_,u1.free,λb o e _ =>?_,u1.tups,u1.frzs,u1.tbls⟩,hok2,trk,λb o e hb =>?_⟩,I2.bare,I2.os,q⟩
 .exact stay b o (inB b o (u1.keep b o e n hb (by simp)) (nin b o e hb))
 .obtain⟨sl,z⟩:=u1.slot b o e n hb (by simp);obtain⟨o',z',d⟩:=fr b hb;rw[z] at z'
  cases z'
  obtain⟨sl',z2⟩:=up b _ z d;exact⟨sl',z2⟩
 .k_sub
  by_cases hb:b∈frs outer
  .obtain⟨o2,z',d⟩:=fr b hb;obtain⟨sl',z2⟩:=up b _ z' d;exact⟨_,z2⟩
  .exact⟨o',stay b o' (inB b o' z (nin b o e hb))⟩
 .k_sub;exact⟨o',inB b o' z (nin b o e hb)⟩
def Fun.okE {x:Str}{st:Stmt}{fd:FuncData}{ps:List Str}{k:Nat}{sp:Sp}(F:Fun K x qual st f fd)(S:z1U N ps (z01 st))(len:∀vs H Q E,sp vs H Q E->vs.length=ps.length)
  (hbody:∀(cdv:Value) (A:Around) (outer:List Env) (s:Shared) (H:Hp) (vs:List V) (Q:VK) (E:XK),Room k (A.deeper (envOfC qual (z01 st) s.heap.objs.size f cdv))->sp vs H Q E->
   ∃t,QSs ((cxOf (CXe P w) P w K mg base N qual (z01 st) f cdv A outer s H E).wish (cxOf (CXe P w) P w K mg base N qual (z01 st) f cdv A outer s H E).xe) (z0v st) t/\t { nx:=λ_ H'=>Q .non H',rt:=Q } (z3G N vs) H):FnOk P w K mg base (CXe P w) (k+1) f fd ps sp:=by
 kcf_m;refine ziQ lk hcd S len λA outer s H vs Q E hr hsp =>?_;obtain⟨t,h,q⟩:=hbody cdv A outer s H vs Q E hr hsp;exact⟨t,h.p,q⟩
def Fun.okN {x:Str}{st:Stmt}{fd:FuncData}{ps:List Str}{k:Nat}{sp:Sp}(F:Fun K x qual st f fd)(S:z1U N ps (z01 st))(len:∀vs H Q E,sp vs H Q E->vs.length=ps.length)
  (hbody:∀(cdv:Value) (A:Around) (outer:List Env) (s:Shared) (H:Hp) (vs:List V) (Q:VK) (E:XK),Room k (A.deeper (envOfC qual (z01 st) s.heap.objs.size f cdv))->sp vs H Q E->
   ∃t,QSs ((cxOf (CXe P w) P w K mg base N qual (z01 st) f cdv A outer s H E).wish λ_ _=>False) (z0v st) t/\t { nx:=λ_ H'=>Q .non H',rt:=Q } (z3G N vs) H):FnOk P w K mg base (CXe P w) (k+1) f fd ps sp:=by
 kcf_m;refine ziQ lk hcd S len λA outer s H vs Q E hr hsp =>?_;obtain⟨t,h,q⟩:=hbody cdv A outer s H vs Q E hr hsp;exact⟨t,h.p.nox,q⟩
def z1w {X:Cx}:z1j (CXe P w) X E0:=λ_ _ _ _ _ _ _ ⟨_,_,_,_,_,_,_,_,_,q⟩=>q.elim
end
@[reducible] def Cx.suite (X:Cx)(ea:Addr):Cx:={ X with A:=X.A.mark (some (.ref ea)),calm:=false,xe:=λ_ _=>False }
@[reducible] def Cx.within (X:Cx)(pins:List (Addr × Obj))(xe:WvP):Cx:={ X with pn:=X.pn++pins,xe:=xe }
section
variable {X:Cx}{pins:List (Addr × Obj)}{σ:St}{H:Hp}{s:Shared}{ea:Addr}{xe:WvP}
theorem Cx.Ok.suite (o:X.Ok):(X.suite ea).Ok:=⟨o.mod,o.kind,o.glob,o.blt,o.above,o.inj,o.has,o.cab,(λz=>by cases z),o.frames,o.stk,o.exf,o.bs,o.bsz,o.noex,o.exfs,o.funs,o.frf,o.tbs⟩
theorem Cx.Ok.within (o:X.Ok):(X.within pins xe).Ok:=⟨o.mod,o.kind,o.glob,o.blt,o.above,o.inj,o.has,o.cab,o.hd,o.frames,o.stk,o.exf,o.bs,o.bsz,o.noex,o.exfs,o.funs,o.frf,o.tbs⟩
theorem Inv.suite (I:Inv X pins σ H s):Inv (X.suite ea) pins σ H s:=⟨I.ok.suite,I.os,I.bare,I.base,I.loc,I.cell,I.free,I.freeC,I.pin,I.hok,I.len⟩
theorem Inv.within (I:Inv X pins σ H s):Inv (X.within pins xe) [] σ H s:=⟨I.ok.within,I.os,I.bare,I.base,I.loc,I.cell,I.free,I.freeC,(λp hp=>I.pin p (by simpa using hp)),I.hok,I.len⟩
def Inv.out {pins':List (Addr × Obj)}(ok:X.Ok)(I:Inv (X.within pins xe) pins' σ H s):Inv X pins σ H s:=⟨ok,I.os,I.bare,I.base,I.loc,I.cell,I.free,I.freeC,(λp hp=>I.pin p (ue _ hp)),I.hok,I.len⟩
theorem SP.out {pins':List (Addr × Obj)}(ok:X.Ok){D:Ends}{f:Flow}(h:SP (X.within pins xe) pins' D f s):SP X pins D f s:=by
 cases f with
 | next=>obtain⟨σ',H',I,q⟩:=h;exact⟨σ',H',I.out ok,q⟩
 | brk=>obtain⟨σ',H',I,q⟩:=h;exact⟨σ',H',I.out ok,q⟩
 | cont=>obtain⟨σ',H',I,q⟩:=h;exact⟨σ',H',I.out ok,q⟩
 | ret u=>obtain⟨v,σ',H',I,r,q⟩:=h;exact⟨v,σ',H',I.out ok,r,q⟩
def Inv.unsuite (ok:X.Ok)(I:Inv (X.suite ea) pins σ H s):Inv X pins σ H s:=⟨ok,I.os,I.bare,I.base,I.loc,I.cell,I.free,I.freeC,I.pin,I.hok,I.len⟩
theorem SP.unsuite (ok:X.Ok){D:Ends}{f:Flow}(h:SP (X.suite ea) pins D f s):SP X pins D f s:=by
 cases f with
 | next=>obtain⟨σ',H',I,q⟩:=h;exact⟨σ',H',I.unsuite ok,q⟩
 | brk=>obtain⟨σ',H',I,q⟩:=h;exact⟨σ',H',I.unsuite ok,q⟩
 | cont=>obtain⟨σ',H',I,q⟩:=h;exact⟨σ',H',I.unsuite ok,q⟩
 | ret u=>obtain⟨v,σ',H',I,r,q⟩:=h;exact⟨v,σ',H',I.unsuite ok,r,q⟩
end
section
variable {X:Cx}{k:Nat}{ps:List Str}{sp:Sp}{x g cx:Str}{e:Expr}{es:List Expr}{ta:TA}{C2:Addr}{b0:Stmt}{suite:List Stmt}{ts:TS}{p1 p2 p3 p4 p5 p6 pos:Pos}
def zjl {pins:List (Addr × Obj)}{σ:St}{H1:Hp}{s1 s':Shared}{ev:Value}{D:Ends}{Q:Flow->Shared->Prop}{E':WvP}(I1:Inv X pins σ H1 s1)(hst:X.stack=X.env::X.outer/\X.env.frame=some X.env.locals)
  (T:Exc X.K X.mg cx C2) (hgc:Gl X cx) (hs:∀ea,QSs (X.suite ea) (b0::suite) ts) (hx:CXe X.prog X.w X.stack H1 s1 (λCv _ H2=>W.exmOne X.K Cv (.ref C2)=some true/\ts D σ H2) ev s')
  (hQ:∀f s2,SP X pins D f s2->Q f s2) (hdb:(cx == ("__debug__":Str))=false):
  wpAny (model X.prog X.w) X.A (noteFrame ev X.env) (λ_ s2=>wpAny (model X.prog X.w) X.A (setFlight ev none) (λ_ s3=>wpAny (model X.prog X.w) X.A (handleBy ev X.env (.ExceptHandler (some (.Name cx p5)) none (b0::suite) p6::[])) Q E' s3) E' s2) E' s':=by
 obtain⟨ea,t,Cv,H2,B,rfl,F,hb,ho,hm,q⟩:=hx;have F':=F.fl;rw[hst.1] at F';refine wpAny_looks_onW (by rw[I1.ok.frames,hst.1]) hst.2 F' λh4 held4 sm4 =>?_;refine wpAny_landsW held4 λh5 fl5 sm5 =>?_;obtain⟨un5,hok5⟩:=F.on fl5.1 (sm4.trans sm5);have I5:Inv X pins σ H2 { s' with heap:=h5 }:=I1.call' (s':={ s' with heap:=h5 }) ho un5 hok5 hb (λb z=>by simp at z);refine wpAny_handleBy_cons (codeAny_handlers_test ?_) (by intro z;cases z);refine z31 (X:=X.suite ea) I5.suite hgc T.nm ?_ hdb;obtain⟨ob,hob,hobc⟩:=fl5.there;have LT:W.Looks (model X.prog X.w) h5 (typeOf (.ref ea)) Cv:=by
  rw[<- hobc];exact(W.Looks.ld hob).andThen .now
 refine(W.exm_one I5.kIn LT hm) _ _ _ _ (λ_ _ z=>z) ?_;show codeAny _ _ _ _ _;refine codeAny_handlers_suite ?_;refine lands_againW fl5 λh6 fl6 sm6 =>?_;have F5:Fly X.prog X.w X.stack H1 s1.heap Cv H2 ea t B h5:=⟨hst.1 ▸ fl5,un5,hok5,F.trk,F.kep⟩
 obtain⟨un6,hok6⟩:=F5.on fl6.1 sm6;have I6:Inv X pins σ H2 { s' with heap:=h6 }:=I1.call' (s':={ s' with heap:=h6 }) ho un6 hok6 hb (λb z=>by simp at z);exact va ((hs ea).p pins _ σ H2 D I6.suite q) (λf s7 z=>hQ f s7 (z.unsuite I1.ok)) λ_ _ z=>z.elim
def zbm {i:Nat}{x:Str}{e:Expr}{te:TE}{p1 pos:Pos}(hN:X.N.Nodup)(hi:X.N[i]? = some x)(hx:Loc X.env.scope x)(he:QE X e te)(hs:swapsWith e (some (.Name x p1)) pos.line X.env=pure false:=by rfl)(hf:X.fn x=true\/X.env.scope.names.lookup x=some .local:=by first | exact .inl rfl | exact .inr rfl | assumption):
  QS X (.Assign [.Name x p1] e pos) (tAsg te (z2y i)):=⟨zeq hN hi hx he.p hs hf⟩
end
def z1T (K:W.Frag)(C:Addr):Bool:=
 (W.findIn K (.ref C) "__getattribute__" == some (some (.builtin "BaseException.__getattribute__"))) && ((W.findIn K (.ref C) "__getattr__").isSome) &&
 (W.findIn K (.ref C) "__class__" == some (some (.builtin "object.__class__"))) && (W.subIn K (.ref C) (.type "BaseException") == some true) && (W.subIn K (.ref C) (.type "object") == some true) && (W.clsIn K C).isSome
def z3h (a C:Addr)(h:Heap):Prop:=∃o,h.get? a=some o/\o.cls = .ref C/\∃vs,o.data = .fields vs
def z3h.ty {M:Model}{a C:Addr}{h:Heap}(x:z3h a C h):W.Looks M h (typeOf (.ref a)) (.ref C):=by
 obtain⟨o,h1,h2,_⟩:=x;rw[<- h2];exact(W.Looks.ld h1).andThen .now
def zam {K:W.Frag}{M:Model}{C:Addr}{h:Heap}(X:K.In h)(e:(W.clsIn K C).isSome=true):W.Looks M h (isType (.ref C)) true:=by
 obtain⟨cd,hc⟩:=ui.mp e;unfold W.clsIn at hc
 split at hc
 .rename_i c' d' cd' sl' ho
  intro A' Q' E' s' k q;unfold isType loadHead;exact wa (wpAny_loadPart (k _ _ (X _ _ ho)) (wv q))
 .cases hc
section
open PySem.W
variable {prog:Program}{w:World}{A:Around}{E:WvP}{s:Shared}{K:W.Frag}{a C:Addr}
def zdP {tp:Value}{R:Result->Shared->Prop}(X:K.In s.heap)(x:z3h a C s.heap)(hm:W.subIn K (.ref C) (.type "object")=some true)(h:R (.ok (.ret (.ref C))) s):
  codeAny (model prog w) A (.call (.builtin "getset_descriptor.__get__") ⟨[.builtin "object.__class__",.ref a,tp],[]⟩) R s:=by
 obtain⟨hh,g,dr,t,os⟩:=s;have L0:=x.ty (M:=model prog w);have L1:=looks_subIn (M:=model prog w) X hm;refine codeAny_call_builtin KF.slot_gs.plain KF.entry_gs (KF.slot_gs.check _ _ _ _ _ _ _ _ KF.type_class (KF.args_gs _ _ _) ?_);unfold Builtin.«getset_descriptor.__get__» Builtin.Getset_descriptor.descrGet;rw[dga_obj];refine wa (wv ?_);unfold Builtin.Getset_descriptor.descrGetter Builtin.Getset_descriptor.descrCheckInstance Builtin.Getset_descriptor.descrNameAndClass isInstance;simp only[KF.owner_class]
 repeat lk
 refine⟨Code.quiet_builtin _ (by decide +kernel),codeAny_builtin KF.entry_class ?_⟩;unfold Builtin.«object.__class__» shownTypeOf
 repeat lk
 exact h
def ziU {tk:Tok}{Q:Fin->Shared->Prop}(X:K.In s.heap)(x:z3h a C s.heap)(hm:W.subIn K (.ref C) (.type "object")=some true)(ha:W.findIn K (.ref C) "__class__"=some (some (.builtin "object.__class__")))
  (h:Q (.done (.ret (.ref C))) s):wpAny (model prog w) A (Builtin.«object.__getattribute__» ⟨[.ref a,.str "__class__" tk],[]⟩) Q E s:=by
 obtain⟨hh,g,dr,t,os⟩:=s;have L0:=x.ty (M:=model prog w);have L1:=looks_findIn (M:=model prog w) X ha;have f5:=F.typeOf_object_class;have f6:=F.slot_gs_get.lookup;have f7:=F.slot_gs_set.lookup;have hT5:(⟨hh,g,dr,t,os⟩:Shared).TypeIs (.builtin "object.__class__") "getset_descriptor":=F.typeOf_object_class
 repeat (any_goals (first | assumption | with_reducible refine Looks.at L0 ?_ | with_reducible refine Looks.at L1 ?_ | wp_step))
 refine zdP X x hm ?_
 repeat (any_goals (first | assumption | wp_step))
def zch {Q:Option Value->Shared->Prop}(hL:z1T K C=true)(X:K.In s.heap)(x:z3h a C s.heap)(h:Q (some (.ref C)) { s with toks:=s.toks+1 }):wpAny (model prog w) A (getAttr? (.ref a) "__class__") Q E s:=by
 unfold z1T at hL;simp only[wN,uh] at hL;obtain⟨⟨⟨⟨⟨h1,h2⟩,h3⟩,h4⟩,h5⟩,h6⟩:=hL;obtain⟨r2,h2⟩:=ui.mp h2;obtain⟨hh,g,dr,t,os⟩:=s;have L0:=x.ty (M:=model prog w);have L1:=looks_findIn (M:=model prog w) X h1;have L2':=looks_findIn (M:=model prog w) X h2;unfold getAttr? getAttrBy? getAttrBy;refine wa (wpAny_mkText (wa (wpAny_attempt (uo (wa (L0.at (wa (L1.at ?_))))))));dsimp only;rw[show (onTheHeap (Value.ref C) && Value.builtin "BaseException.__getattribute__" == Value.builtin "object.__getattribute__")=false from by rw[show (Value.builtin "BaseException.__getattribute__" == Value.builtin "object.__getattribute__")=false from by decide +kernel,Bool.and_false],if_neg (by decide)];unfold getAttrByItsOwn hookBefore;refine wa (L2'.at (wa (wpAny_attempt (uo ?_))));unfold callGetattribute;rw[show (false && onTheHeap (Value.builtin "BaseException.__getattribute__"))=false from rfl,if_neg (by decide)];unfold boundAndCalled;rw[F.attrBase_ValueError.ga.bind];refine wa (wv ?_);show wpAny _ _ (call (.builtin "BaseException.__getattribute__") [.ref a,.str "__class__" t]) _ _ _;refine wpAny_call ?_;refine codeAny_call_builtin F.attrBase_ValueError.ga.plain F.entry_bexc_ga ?_;refine @check_slot (model prog w) _ _ ⟨hh,g,dr,t+1,os⟩ "BaseException.__getattribute__" "BaseException" "__getattribute__" (.ref a) [.str "__class__" t] [] _ (by decide +kernel) (by decide +kernel) (L0.andThen (looks_subIn X h4)) (F.args_bexc_ga (.ref a) (.str "__class__" t)) ?_;refine ziU (s:=⟨hh,g,dr,t+1,os⟩) X x h5 h3 ?_;exact wv (wv h)
def z7h (hL:z1T K C=true):KitX K (.ref a) (.ref C) (z3h a C) where
 ty:=λ_ _ _ x=>x.ty
 it:=λ_ _ X _=>zam X (by
  unfold z1T at hL;simp only[wN] at hL;exact hL.2)
 ne:=λh tp dd its n sl X htp=>by
  unfold z1T at hL;simp only[wN] at hL;obtain⟨cd,hc⟩:=ui.mp hL.2;refine Bool.eq_false_iff.mpr λq =>?_;have e:C=tp:=Value.ref.inj (uh.mp q);subst e;unfold clsIn at hc
  split at hc
  .rename_i c' d' cd' sl' ho
   have z:=(X _ _ ho).symm.trans htp
   cases z
  .cases hc
 ca:=λX x k=>zch hL X x k
end
section
variable {X:Cx}
theorem z7A:∀(cs:List Addr) {us:List Value},Vals (cs.map V.ref) us->us=cs.map Value.ref
 | [],_,r=>by cases r;rfl
 | c::cs,_,r=>by
  cases r with
  | cons r1 r2=>
   rw[z7A cs r2]
   cases (show _=Value.ref c from r1)
   rfl
def zjB (K:W.Frag):List V->Hp->VK->Prop:=λxs H Q=>∃(ea C:Addr) (y:V) (b:Bool),xs=[.ref ea,y]/\H ea=some (.ext (z3h ea C))/\z1T K C=true/\
 ((∃C2,y = .ref C2/\W.kitOne K (.ref C) (.ref C2)=some b)\/(∃T,y = .ty T/\W.kitOne K (.ref C) (.type T)=some b)\/(∃(tp:Addr) (cs:List Addr),y = .ref tp/\SqT K H tp (cs.map V.ref)/\W.kitAny K (.ref C) (cs.map Value.ref)=some b))/\Q (.bl b) H
def zcv:z1k X (.builtin "isinstance") (zjB X.K):=by
 k_cls;obtain⟨ea,C,y,b,rfl,he,hL,hy,q⟩:=h;obtain⟨u,v,rfl,rx,ry⟩:=zgu r
 cases (show u=Value.ref ea from rx)
 have hx:z3h ea C s.heap:=(show z1u X.prog X.w H s.heap ea (.ext (z3h ea C)) from I.hok ea _ he).1;have fin:∀tk,∃w H',Inv X pins σ H' { s with toks:=tk }/\RelV w (Value.bool b)/\Q w H':=λtk=>⟨.bl b,H,I.tok tk,rfl,q⟩
 rcases hy with ⟨C2,rfl,e⟩ | ⟨T,rfl,e⟩ | ⟨tp,cs,rfl,hs,e⟩
 .cases (show v=Value.ref C2 from ry)
  exact vf (z7h hL) I.kIn hx e (λz=>nomatch z) fin
 .cases (show v=Value.type T from ry)
  exact vf (z7h hL) I.kIn hx e (λz=>nomatch z) fin
 .cases (show v=Value.ref tp from ry)
  obtain⟨its,hv,⟨o,e1,hc,n,hd⟩,_⟩:=I.tuple hs
  cases z7A cs hv
  obtain⟨oc,od,odt,osl⟩:=o;dsimp only at hc hd;subst hc hd;exact W.kia_tup (z7h hL) I.kIn hx e1 e (λz=>nomatch z) fin
end
def zeU {fs:List Addr}{H1 H2:Hp}{h1 h2:Heap}{a:Addr}{o:HO}(u:Un fs [] H1 H2 h1 h2)(hn:h1.get? a=none)(h0:H2 a=none):Un fs [] H1 (upd H2 a o) h1 h2:=by
 have ne:∀b ob,h1.get? b=some ob->b≠a:=λb ob e z=>by rw[z,hn] at e;cases e
 have nt:∀b x,H2 b=some x->b≠a:=λb x e z=>by rw[z,h0] at e;cases e
 refine⟨u.keep,u.slot,λb ob e n hx =>?_,u.there,λb xs e =>?_,λb ob v e =>?_,λb ps e =>?_⟩
 .rw[z02 (ne b ob e)];exact u.free b ob e n hx
 .have:=u.tups b xs e;rw[z02 (nt b _ this)];exact this
 .have:=u.frzs b ob v e;rw[z02 (nt b _ this)];exact this
 .obtain⟨m,z⟩:=u.tbls b ps e;exact⟨m,by rw[z02 (nt b _ z)];exact z⟩
def zdJ {P:Program}{w:World}{H:Hp}{h:Heap}{a C:Addr}(k:HOk P w H h)(h0:H a=none)(x:z3h a C h):HOk P w (upd H a (.ext (z3h a C))) h:=λb u e=>by
 by_cases hb:b=a
 .subst hb;rw[z06] at e
  cases e
  refine⟨x,⟨_,x.choose_spec.1⟩,λh1 h2 y z =>?_⟩;obtain⟨o,e1,e2⟩:=y;exact⟨o,z o e1,e2⟩
 .rw[z02 hb] at e;exact(k b u e).stay (λ_ _ _ q=>q) (λc q=>by rw[z02 (z0F q h0)];exact q) λc xs q=>by rw[z02 (z0F q h0)];exact q
def zcP {H:Hp}{a:Addr}{o:HO}(h:H a=none):Same H (upd H a o):=λb u e=>by rw[z02 (λz=>by rw[z,h] at e;cases e)];exact e
def Fly.out {P:Program}{w:World}{outer:List Env}{H H':Hp}{h0 h:Heap}{Cv:Value}{ea t:Addr}{B:Heap}(x:Fly P w outer H h0 Cv H' ea t B h):h0.get? ea=none:=by
 cases q:h0.get? ea with
 | none=>rfl
 | some o=>
  exfalso
  by_cases hb:ea∈frs outer
  .obtain⟨o',z,d⟩:=(x.fl.2.2.1.mem hb).2;obtain⟨oe,vs,he,_,hd,_⟩:=x.fl.first;rw[he] at z
   cases z
   exact d vs hd
  .obtain⟨ob,z⟩:=x.kep ea o q hb;rw[x.fl.2.1] at z
   cases z
def z7l {X:Cx}{pins:List (Addr × Obj)}{σ:St}{H:Hp}{s:Shared}{M:Model}{A:Around}{E:WvP}{i:Nat}{x:Str}{pos:Pos}{Q:Unit->Shared->Prop}(I:Inv X pins σ H s)(hN:X.N.Nodup)(hi:X.N[i]? = some x)(hk:X.env.scope.names.lookup x=some .local)
  (h:∀s',Inv X pins (σ.set i none) H s'->Q () s'):wpAny M A (do bindName X.env x .none;unbindBehindTheSuite X.env x pos) Q E s:=by
 obtain⟨m,hn,hl⟩:=id I.loc;have hcls:(X.env.scope.kind == .class || (X.env.scope.kind == .module && X.env.locals != X.env.globals))=false:=by rw[I.ok.kind];rfl
 have cne:=I.cne;have hiσ:i < σ.length:=by rw[I.len];exact(wg.mp hi).1
 refine wpAny_nameGoes_keeps hk hn hcls λh' v hn' hs =>?_;obtain⟨oL,_,_,hoL,_⟩:=id hn;have hok':HOk X.prog X.w H h':=λb ob e=>by
  refine(I.hok b ob e).stay (λc w' hc q=>(hs.2 c ?_).trans q) (λ_ q=>q) λ_ _ q=>q;rintro rfl
  rcases hc with z | hc
  .rw[<- z,I.free] at e;cases e
  .rw[I.free] at hc;cases hc
 refine h _ ⟨I.ok,I.os,I.bare,⟨λb o e n hb hx =>?_,λb o e n hb hx =>?_,I.base.free,λb o e hx =>?_,I.base.tups,I.base.frzs,I.base.tbls⟩,⟨_,hn',λj y v' e1 e2 e3 =>?_⟩,λy c e =>?_,I.free,I.freeC,λp hp =>?_,hok',by simpa using I.len⟩
 .exact(hs.2 b (wT (wK (wE e) I.ok.above))).trans (I.base.keep b o e n hb hx)
 .obtain⟨sl,e1⟩:=I.base.slot b o e n hb hx;exact⟨sl,(hs.2 b (wT (wK (wE e) I.ok.above))).trans e1⟩
 .kd_in;exact⟨o',(hs.2 b (wT (wK (wE e) I.ok.above))).trans e1⟩
 .mg_lt
  .subst hj;rw[wD hiσ] at e2
   cases e2
  .rw[wj (vk hj)] at e2;obtain⟨u',r',q⟩:=hl j y v' e1 e2 e3;refine⟨u',r',?_⟩
   rcases q with ⟨k,e⟩ | ⟨k,c,e,z⟩
   .refine .inl ⟨k,?_⟩;have:y≠x:=λe=>hj (z7d hN e1 (e ▸ hi));simp[this,e]
   .exact .inr ⟨k,c,e,z.sameBut hs (cne y c e)⟩
 .obtain⟨w',z⟩:=I.cell y c e;exact⟨w',z.sameBut hs (cne y c e)⟩
 .obtain⟨e,n,ne,nf,d⟩:=I.pin p hp;exact⟨(hs.2 p.1 ne).trans e,n,ne,nf,d⟩
@[reducible] def Ends.less (D:Ends)(j:Nat):Ends:={ nx:=λσ H=>D.nx (σ.set j none) H,rt:=D.rt,bk:=λσ H=>D.bk (σ.set j none) H,ct:=λσ H=>D.ct (σ.set j none) H }
open Builtin.Str
section
variable {X:Cx}
def rAll (K:W.Frag):List V->Hp->VK->Prop:=λxs H Q=>∃(a:Addr) (bs:List Bool),xs=[.ref a]/\SqL K H a (bs.map V.bl)/\Q (.bl (bs.all id)) H
theorem z9h:∀(bs:List Bool) {us:List Value},Vals (bs.map V.bl) us->us=bs.map Value.bool
 | [],_,r=>by cases r;rfl
 | b::bs,_,r=>by
  cases r with
  | cons r1 r2=>
   rw[z9h bs r2]
   cases (show _=Value.bool b from r1)
   rfl
def zcA (bs:List Bool):(List.range bs.length).all (λi=>bs[i]?.getD true)=bs.all id:=by
 apply uC.mpr;simp only[vM,vz,id]
 constructor
 .intro h b hb;obtain⟨i,hi,e⟩:=List.mem_iff_getElem.mp hb;have:=h i hi;rw[wJ hi] at this;simpa[e] using this
 .intro h i hi;rw[wJ hi];exact h _ (vV hi)
def zcw (hc:X.calm=true):z1k X (.builtin "all") (rAll X.K):=by
 k_cls;obtain⟨a,bs,rfl,hs,q⟩:=h;obtain⟨u,rfl,ru⟩:=z6I r
 cases (show u=Value.ref a from ru)
 obtain⟨its,hv,pl,_⟩:=I.list hs
 cases z9h bs hv
 have hl:=pl.isList;refine call_all_walk (wpAny_pyIter_list hl ?_);have hne:a≠s.heap.objs.size:=by
  obtain⟨o,n,e,_⟩:=pl;exact wT (wE e)
 refine⟨s.heap.objs.size,_,_,_,_,_,λi=>bs[i]?.getD true,rfl,Walks.list (A:=X.A.in1) (I.ok.hd hc) s.heap.objs.size a hne (bs.map Value.bool).toArray,⟨⟨_,wB _ rfl,rfl,rfl⟩,(pl.keeps λb o e=>wm _ e).isList⟩,?_,λh' tk hk =>?_⟩
 .intro i v s' Q' E' hP hQ;have hP':(bs.map Value.bool)[i]? = some v:=by simpa using hP
  rw[wR] at hP';obtain⟨b,hb,rfl⟩:=Option.map_eq_some_iff.mp hP';have hQ':Q' (bs[i]?.getD true) s':=hQ;rw[hb] at hQ';exact wv hQ'
 .have e:(List.range (bs.map Value.bool).toArray.size).all (λi=>bs[i]?.getD true)=bs.all id:=by
   rw[wI,wc];exact zcA bs
  rw[e];refine⟨.bl _,H,I.kept (t':=tk) λb o eb=>hk b o ?_ (wm _ eb),rfl,q⟩;intro z;rw[wZ.mp z] at eb;exact absurd (wE eb) (vW _)
def rSlS:V->Option Int->Option Int->Hp->VK->Prop:=λx lo hi H Q=>∃y,x = .str y/\y.length<=sizeLine/\Q (.str (Txt.slice y lo hi)) H
def zgQ:SlR X rSlS:=by
 k_put;obtain⟨y,rfl,hz,q⟩:=h;ksr_p;refine⟨"str",_,F.slot_str_getitem.lookup,typeIs_str _ _ _,?_⟩;obtain⟨o,ho,hc,hd⟩:=hs;have fin:∀(l u:Option (Int × Tok)),l.map (·.1)=lo->u.map (·.1)=hi->vl=partValue l->vu=partValue u->wpAny (model X.prog X.w) X.A (getItem (.str y t) (.ref sl)) (EP X pins σ Q) X.xe s:=λl u e1 e2 e3 e4=>by
  subst e1 e2 e3 e4;exact wpAny_getItem_str_slice (l:=l) (u:=u) (st:=none) ⟨o,ho,hc,hd⟩ rfl (post_val_or_str ⟨wX (Txt.slice_le y _ _) hz,λt' k=>⟨.str _,H,I.tok k,⟨t',rfl⟩,q⟩⟩)
 cases pl with
 | none=>
  cases pu with
  | none=>exact fin none none rfl rfl rfl rfl
  | int j u=>exact fin none (some (j,u)) rfl rfl rfl rfl
 | int i w=>
  cases pu with
  | none=>exact fin (some (i,w)) none rfl rfl rfl rfl
  | int j u=>exact fin (some (i,w)) (some (j,u)) rfl rfl rfl rfl
def Its (x:Str):It:=⟨λi _=>i<x.cps.size,λi H v H'=>H'=H/\∃c,x.cps[i]? = some c/\v = .str ⟨#[c]⟩,λi _=>x.cps.size<=i⟩
def z9j {P:Program}{w:World}{K:W.Frag}{tg:Expr}(x:Str)(t:Tok)(it:Addr){ty:String}(hty:["enumerate","zip","dict_itemiterator","dict_reverseitemiterator","odict_iterator","itertools.zip_longest","itertools.pairwise"].contains ty=false)
  (W:∀A':Around,A'.handled=none->Walks P w A' it [it] [it] x.cps.size (SignAt x) (λi h=>h.IsStrIter it ty x t i)) (hs:∀(A:Around) (i:Nat) (s:Shared) (Q:WvP) (E:WvP),s.heap.IsStrIter it ty x t i->Q (.ref it) s->wpAny (model P w) A (pyIter (.ref it)) Q E s):
  Turn P w K tg (Its x) [it] it (λi h=>i<=x.cps.size/\h.IsStrIter it ty x t i) where
 mem:=by simp
 obj:=λi h st b hb=>by
  have e:b=it:=by simpa using hb
  subst e;obtain⟨_,o,e,c,d⟩:=st;exact⟨o,e,λv z=>by rw[d] at z;cases z⟩
 keep:=λi h h' st k=>⟨st.1,(W { } rfl).frame i h h' st.2 k⟩
 item:=by
  k_ne;subst hP hw hK;kd_p1;refine(W X.A (I.ok.hd hc)).item i s _ _ hg st.2 λv h' tk hv st' kk =>?_;obtain⟨c,u,hc',rfl⟩:=hv;have I1:Inv X pins σ H { s with heap:=h',toks:=tk }:=I.turned (λb o hb e=>kk b o (by simpa using hb) e) f0 f1 f3 f4 f5;obtain⟨o,e1,e2,e3⟩:=id st';exact⟨_,rfl,zdK (s:={ s with heap:=h',toks:=tk }) e1 e2 e3 hty ⟨.str ⟨#[c]⟩,H,I1,⟨u,rfl⟩,⟨rfl,c,hc',rfl⟩,⟨hg,st'⟩,λb hb=>(hf b hb).1⟩⟩
 done:=by
  k_ne;subst hP hw hK;kd_p1;have e:i=x.cps.size:=Nat.le_antisymm st.1 hg;subst e;exact(W X.A (I.ok.hd hc)).done s _ _ st.2 λh' tk kk=>⟨rfl,I.turned (λb o hb e=>kk b o (by simpa using hb) e) f0 f1 f3 f4 f5⟩
 self:=λA i s Q E st h=>hs A i s Q E st.2 h
variable {tg:Expr}
def zhB {es:List Expr}{aa:TA}{pos:Pos}(h:QA X es aa):QE X (.List es pos) (tLst aa):=⟨z4t h.p⟩
def z3Q:MtR X "list.append" zbf:=zbS
end
end L2
namespace Mth
def z4T {a b:Nat}(h:∀p,p ∣ a->p ∣ b->p ∣ 1):Nat.Coprime a b:=
 Nat.dvd_one.mp (h _ (Nat.gcd_dvd_left a b) (Nat.gcd_dvd_right a b))
def z95 {p:Nat}{x:Int}:p ∣ x.natAbs↔(p:Int) ∣ x:=by rw[<- vB,uz]
def z7r {p z c:Nat}{x a:Int}(hzc:Nat.Coprime z c)(pz:p ∣ z)(h:(p:Int) ∣ x*(c:Int)+a*(z:Int)):p ∣ x.natAbs:=by
 have h1:(p:Int) ∣ a*(z:Int):=Int.dvd_trans (Int.natCast_dvd_natCast.mpr pz) (Int.dvd_mul_left _ _);have h2:(p:Int) ∣ x*(c:Int):=(Int.dvd_add_left h1).mp h;have h3:p ∣ x.natAbs*c:=by
  have:=z95.mpr h2;rw[vF,uz] at this;exact this
 exact(Nat.Coprime.coprime_dvd_left pz hzc).dvd_of_dvd_mul_right h3
def z7X {x y z a b c:Int}(hz:0<z)(hc:0<c)(h1:Int.gcd ((Int.gcd x y:Nat):Int) z=1)(h2:Int.gcd ((Int.gcd a b:Nat):Int) c=1)
  {g u v r:Int}(eg:g=((Int.gcd z c:Nat):Int)) (eu:u=x*(c / g)+a*(z / g)) (ev:v=y*(c / g)+b*(z / g)) (er:r=((Int.gcd ((Int.gcd g u:Nat):Int) v:Nat):Int)):
  0<g/\0<r/\g.natAbs<=z.natAbs/\r.natAbs<=z.natAbs/\Plc (x*c+a*z) (y*c+b*z) (z*c) (u / r) (v / r) (z / g*(c / r)):=by
 have gp:=(Int.gcd_pos_iff (a:=z) (b:=c)).mpr (.inl (by omega));have hg:0<g:=by omega
 have gz:g ∣ z:=eg ▸ uK z c;have gc:g ∣ c:=eg ▸ Int.gcd_dvd_right z c;have e3:r=g3 u v g:=er;have hr:0<r:=e3 ▸ z9O hg;have rg:r ∣ g:=e3 ▸ z5u u v g;have ru:r ∣ u:=e3 ▸ z9Q u v g;have rv:r ∣ v:=e3 ▸ z9P u v g;obtain⟨z',ez⟩:=gz;obtain⟨c',ec⟩:=gc;obtain⟨g',eg'⟩:=rg;obtain⟨u',eu'⟩:=ru;obtain⟨v',ev'⟩:=rv;have q1:z / g=z':=by rw[ez];exact vH z' (by omega)
 have q2:c / g=c':=by rw[ec];exact vH c' (by omega)
 have q3:u / r=u':=by rw[eu'];exact vH u' (by omega)
 have q4:v / r=v':=by rw[ev'];exact vH v' (by omega)
 have q5:c / r=g'*c':=by rw[ec,eg',uQ];exact vH _ (by omega)
 rw[q1,q2] at eu ev;rw[q1,q3,q4,q5];have hz':0<z':=by
  rcases(show z'<=0\/0<z' by omega) with h | h
  .have:=wW (uY hg) h;omega
  .exact h
 have hc':0<c':=by
  rcases(show c'<=0\/0<c' by omega) with h | h
  .have:=wW (uY hg) h;omega
  .exact h
 have hg':0<g':=by
  rcases(show g'<=0\/0<g' by omega) with h | h
  .have:=wW (uY hr) h;omega
  .exact h
 have czc:Nat.Coprime z'.natAbs c'.natAbs:=by
  have q:=Int.gcd_mul_left g z' c';rw[<- ez, <- ec] at q;have q':g.natAbs*1=g.natAbs*Int.gcd z' c':=by omega
  exact(uc (by omega) q').symm
 have cg:Nat.gcd (Nat.gcd g'.natAbs u'.natAbs) v'.natAbs=1:=by
  have n1:=congrArg Int.natAbs eg';have n2:=congrArg Int.natAbs eu';have n3:=congrArg Int.natAbs ev';rw[vF] at n1 n2 n3;have er':r.natAbs=Nat.gcd (Nat.gcd g.natAbs u.natAbs) v.natAbs:=by rw[er,uz,z2C]
  rw[n1,n2,n3,Nat.gcd_mul_left,Nat.gcd_mul_left] at er';have:r.natAbs*1=r.natAbs*Nat.gcd (Nat.gcd g'.natAbs u'.natAbs) v'.natAbs:=by omega
  exact(uc (by omega) this).symm
 have hzn:((z'.natAbs:Nat):Int)=z':=Int.natAbs_of_nonneg (by omega);have hcn:((c'.natAbs:Nat):Int)=c':=Int.natAbs_of_nonneg (by omega);have big:∀{p:Nat},p ∣ u'.natAbs->(p:Int) ∣ u:=λh=>eu' ▸ Int.dvd_trans (z95.mp h) (Int.dvd_mul_left _ _);have big2:∀{p:Nat},p ∣ v'.natAbs->(p:Int) ∣ v:=λh=>ev' ▸ Int.dvd_trans (z95.mp h) (Int.dvd_mul_left _ _);have k1:Nat.Coprime (Nat.gcd u'.natAbs v'.natAbs) z'.natAbs:=by
  refine z4T λp p1 p2 =>?_;have pu:=big (ut p1 (Nat.gcd_dvd_left _ _));have pv:=big2 (ut p1 (Nat.gcd_dvd_right _ _));rw[eu, <- hzn, <- hcn] at pu;rw[ev, <- hzn, <- hcn] at pv;have pz:p ∣ z.natAbs:=by rw[ez,vF];exact ut p2 (Nat.dvd_mul_left _ _)
  have:=uV (uV (z7r czc p2 pu) (z7r czc p2 pv)) pz;rw[z2C] at h1;rw[h1] at this;exact this
 have k2:Nat.Coprime (Nat.gcd u'.natAbs v'.natAbs) c'.natAbs:=by
  refine z4T λp p1 p2 =>?_;have pu:=big (ut p1 (Nat.gcd_dvd_left _ _));have pv:=big2 (ut p1 (Nat.gcd_dvd_right _ _));rw[eu, <- hzn, <- hcn,Int.add_comm] at pu;rw[ev, <- hzn, <- hcn,Int.add_comm] at pv;have pz:p ∣ c.natAbs:=by rw[ec,vF];exact ut p2 (Nat.dvd_mul_left _ _)
  have:=uV (uV (z7r czc.symm p2 pu) (z7r czc.symm p2 pv)) pz;rw[z2C] at h2;rw[h2] at this;exact this
 have k3:Nat.Coprime (Nat.gcd u'.natAbs v'.natAbs) g'.natAbs:=by
  refine z4T λp p1 p2 =>?_;have:=uV (uV p2 (ut p1 (Nat.gcd_dvd_left _ _))) (ut p1 (Nat.gcd_dvd_right _ _));rw[cg] at this;exact this
 have eX:x*c+a*z=g*r*u':=by rw[uQ, <- eu',eu,ec,ez];grind
 have eY:y*c+b*z=g*r*v':=by rw[uQ, <- ev',ev,ec,ez];grind
 have eZ:z*c=g*r*(z'*(g'*c')):=by rw[ez,ec];generalize g=G at eg' ⊢;subst eg';grind
 have hgr:0<g*r:=v7 hg hr;have z4G:∀k:Int,k.natAbs<=(g*r*k).natAbs:=λk=>by
  rw[vF];exact Nat.le_mul_of_pos_left _ (by omega)
 refine⟨hg,hr,Nat.le_of_dvd (by omega) (vB.mpr ⟨z',ez⟩),Nat.le_of_dvd (by omega) (vB.mpr ⟨g'*z',by rw[ez,eg',uQ]⟩),?_,?_,?_,?_,?_,?_,?_⟩
 .have:=v7 hz' (v7 hg' hc');omega
 .rw[z2C,vF,vF];exact Nat.Coprime.mul_right k1 (Nat.Coprime.mul_right k3 k2)
 .rw[eX,eZ];grind
 .rw[eY,eZ];grind
 .rw[eX];exact z4G _
 .rw[eY];exact z4G _
 .rw[eZ];exact z4G _
end Mth
namespace L2
open PySem PySem.Spec PyProof.Rows
section
variable {prog:Program}{w:World}{A:Around}{R:Result->Shared->Prop}{s:Shared}
def zgq (M:Model)(A:Around)(ct:Option Expr)(env:Env)(Q:Bool->Shared->Prop)(E:WvP)(s:Shared):Prop:=
 match ct with
 | none=>Q true s
 | some c=>wpAny M A (isTrue c env (eval c env)) Q E s
def z8h {elt target iter:Expr}{ct:Option Expr}{scope:Scope}{pos:Pos}{it acc:Value}{env:Env}(I:Nat->Shared->Prop)
  (turn:∀n s,I n s->wpAny (model prog w) A (pyNext it) (λr s1=>match r with
   | none=>R (.ok .next) s1
   | some v=>wpAny (model prog w) A (letOwnedTupleGo target it v) (λ_ s5=>wpAny (model prog w) A (assign target env v) (λ_ s2=>zgq (model prog w) A ct env (λok s3=>if ok=true then wpAny (model prog w) A (eval elt env) (λx s4=>
     wpAny (model prog w) A (call (.builtin "list.append") [acc,x]) (λ_ s6=>∃m,m<n/\I m s6) (notedBy (model prog w) A env λe s'=>R (.error e) s') s4)
     (notedBy (model prog w) A env λe s'=>R (.error e) s') s3 else ∃m,m<n/\I m s3) (notedBy (model prog w) A env λe s'=>R (.error e) s') s2) (notedBy (model prog w) A env λe s'=>R (.error e) s') s5) (notedBy (model prog w) A env λe s'=>R (.error e) s') s1) (notedBy (model prog w) A env λe s'=>R (.error e) s') s)
  (n:Nat) (h:I n s):
  codeAny (model prog w) A (.compLoop (.ListComp elt [⟨target,iter,ct.toList,0⟩] scope pos) 0 it acc env) R s:=by
 refine codeAny_loop rfl I (λn s hI =>?_) n h;show wpAny _ _ ((compTurn (.ListComp elt [⟨target,iter,ct.toList,0⟩] scope pos) 0 it acc env).onRaise (λx=>do noteFrame x env;theTreesLotGoes x)) _ _ s;refine wpAny_noted ?_;rw[compTurn_list];refine wa (wpAny_standAt (wa (va (turn n s hI) (λr s1 h1 =>?_) λ_ _ h'=>h')))
 cases r with
 | none=>exact wv h1
 | some v=>
  refine wa (va h1 (λ_ s5 h5 =>?_) λ_ _ h'=>h');refine wa (va h5 (λ_ s2 h2 =>?_) λ_ _ h'=>h')
  cases ct with
  | none=>
   refine wa (va (wpAny_tests_nil (Q:=λok s3=>ok=true/\s3=s2) ⟨rfl,rfl⟩) (λok s3 h3 =>?_) λ_ _ h'=>h');obtain⟨rfl,rfl⟩:=h3;have h2':=h2;simp only[zgq,uZ] at h2';exact wa (wa (va h2' (λx s4 h4=>wa (va h4 (λ_ s6 h6=>wv (wv ⟨rfl,h6⟩)) λ_ _ h'=>h')) λ_ _ h'=>h'))
  | some c=>
   refine wa (wpAny_tests_one (va (show wpAny (model prog w) A (isTrue c env (eval c env)) _ _ _ from h2) (λokb s3 h3 =>?_) λ_ _ h'=>h'))
   cases okb with
   | false=>exact wv ⟨rfl,by simpa using h3⟩
   | true=>
    have h3':=h3;simp only[uZ] at h3';exact wa (wa (va h3' (λx s4 h4=>wa (va h4 (λ_ s6 h6=>wv (wv ⟨rfl,h6⟩)) λ_ _ h'=>h')) λ_ _ h'=>h'))
end
def z45 (env:Env)(names:List (Str × NameKind))(acc:List (Str × Addr)):List (Str × Addr):=names.foldl (λc x=>if x.2 == .free then (x.1,(env.cells.lookup x.1).getD 0)::c else c) acc
theorem z6F {α β:Type}{f:α->β->Sem (ForInStep β)}{g:α->β->β}:∀(l:List α) (b:β),(∀x∈l,∀c,f x c=pure (.yield (g x c)))->forIn l b f=(pure (l.foldl (λc x=>g x c) b):Sem β)
 | [],b,_=>rfl
 | x::l,b,h=>by
  rw[List.forIn_cons,h x ww,pure_bind];exact z6F l (g x b) λy hy=>h y (we _ hy)
def z7v {scope:Scope}{env:Env}(h:∀x∈scope.names,x.2 = .free->∃c,env.cells.lookup x.1=some c):closureFor scope env=pure (z45 env scope.names []):=by
 simp only[closureFor];rw[z6F (g:=λx c=>if x.2 == .free then (x.1,(env.cells.lookup x.1).getD 0)::c else c) scope.names [] (λx hx c=>by
  obtain⟨n,kind⟩:=x
  by_cases hk:kind = .free
  .subst hk;obtain⟨a,ha⟩:=h _ hx rfl;have e:cellOf env n=pure a:=by unfold cellOf;rw[ha]
   simp[e,ha]
  .have:(kind == NameKind.free)=false:=by simpa using hk
   simp[this])]
 rfl
theorem z8Z {env:Env}{y:Str}{c:Addr}:∀{names:List (Str × NameKind)}{acc:List (Str × Addr)},(y,c)∈z45 env names acc↔(y,c)∈acc\/((y,NameKind.free)∈names/\c=(env.cells.lookup y).getD 0)
 | [],acc=>by simp[z45]
 | (n,k)::r,acc=>by
  show (y,c)∈z45 env r (if k == .free then (n,(env.cells.lookup n).getD 0)::acc else acc)↔_;rw[z8Z]
  by_cases hk:k = .free
  .subst hk;simp only[beq_self_eq_true,uZ,wf,uR]
   constructor
   .rintro((⟨rfl,rfl⟩ | h) | ⟨h1,h2⟩)
    .exact .inr ⟨.inl (by simp),rfl⟩
    .exact .inl h
    .exact .inr ⟨.inr h1,h2⟩
   .rintro(h | ⟨⟨rfl,_⟩ | h1,h2⟩)
    .exact .inl (.inr h)
    .exact .inl (.inl ⟨rfl,h2⟩)
    .exact .inr ⟨h1,h2⟩
  .have:(k == NameKind.free)=false:=by simpa using hk
   simp only[this,Bool.false_eq_true,if_false,wf,uR]
   constructor
   .rintro(h | ⟨h1,h2⟩)
    .exact .inl h
    .exact .inr ⟨.inr h1,h2⟩
   .rintro(h | ⟨⟨_,h⟩ | h1,h2⟩)
    .exact .inl h
    .exact absurd h.symm hk
    .exact .inr ⟨h1,h2⟩
theorem z1Q {β:Type}{y:Str}{c:β}:∀{l:List (Str × β)},l.lookup y=some c->(y,c)∈l
 | [],h=>by simp at h
 | (n,j)::r,h=>by
  rw[vd] at h
  by_cases e:y=n
  .subst e;simp at h;subst h;exact ww
  .have:(y == n)=false:=by simpa using e
   rw[this] at h;exact we _ (z1Q h)
theorem z3w {β:Type}{y:Str}{c:β}:∀{l:List (Str × β)},(y,c)∈l->∃d,l.lookup y=some d
 | (n,j)::r,h=>by
  rw[vd]
  by_cases e:y=n
  .subst e;simp
  .have:(y == n)=false:=by simpa using e
   rw[this]
   rcases wf.mp h with h | h
   .exact absurd (congrArg Prod.fst h) e
   .exact z3w h
theorem z2J {env:Env}:∀{names:List (Str × NameKind)}{x:Str}{k:NameKind},(names.map λ(n,k)=>if (k == NameKind.free && env.scope.kind == .function && env.kindOf n == some .cell) then (n,NameKind.cell) else (n,k)).lookup x=some k->
  names.lookup x=some k\/(k = .cell/\names.lookup x=some .free)
 | [],_,_,h=>by simp at h
 | (n,j)::r,x,k,h=>by
  have ih := @z2J env r x k;have h':List.lookup x ((if (j == NameKind.free && env.scope.kind == .function && env.kindOf n == some .cell)=true then (n,NameKind.cell) else (n,j))::(r.map λ(n,k)=>if (k == NameKind.free && env.scope.kind == .function && env.kindOf n == some .cell) then (n,NameKind.cell) else (n,k)))=some k:=h
  by_cases hc:(j == NameKind.free && env.scope.kind == .function && env.kindOf n == some .cell)=true
  .rw[if_pos hc] at h';have hj:j = .free:=by
    have:=hc;simp only[wN,uh] at this;exact this.1.1
   cases hx:x == n with
   | true=>
    simp only[vd,hx] at h' ⊢;exact .inr ⟨(vm h').symm,by rw[hj]⟩
   | false=>
    simp only[vd,hx] at h' ⊢;exact ih h'
  .rw[if_neg hc] at h'
   cases hx:x == n with
   | true=>
    simp only[vd,hx] at h' ⊢;exact .inl h'
   | false=>
    simp only[vd,hx] at h' ⊢;exact ih h'
theorem z2t {env:Env}:∀{names:List (Str × NameKind)}{x:Str},names.lookup x=some .free->
  (names.map λ(n,k)=>if (k == NameKind.free && env.scope.kind == .function && env.kindOf n == some .cell) then (n,NameKind.cell) else (n,k)).lookup x=some .cell\/
  (names.map λ(n,k)=>if (k == NameKind.free && env.scope.kind == .function && env.kindOf n == some .cell) then (n,NameKind.cell) else (n,k)).lookup x=some .free
 | [],_,h=>by simp at h
 | (n,j)::r,x,h=>by
  have ih := @z2t env r x;show List.lookup x ((if (j == NameKind.free && env.scope.kind == .function && env.kindOf n == some .cell)=true then (n,NameKind.cell) else (n,j))::_)=_\/List.lookup x ((if (j == NameKind.free && env.scope.kind == .function && env.kindOf n == some .cell)=true then (n,NameKind.cell) else (n,j))::_)=_
  cases hx:x == n with
  | true=>
   simp only[vd,hx] at h
   cases h
   by_cases hc:(NameKind.free == NameKind.free && env.scope.kind == .function && env.kindOf n == some .cell)=true
   .rw[if_pos hc];simp[vd,hx]
   .rw[if_neg hc];simp[vd,hx]
  | false=>
   simp only[vd,hx] at h
   by_cases hc:(j == NameKind.free && env.scope.kind == .function && env.kindOf n == some .cell)=true
   .rw[if_pos hc];simp only[vd,hx];exact ih h
   .rw[if_neg hc];simp only[vd,hx];exact ih h
@[reducible] def Cx.compG (X:Cx)(scope:Scope)(N':List Str)(C:Addr)(s:Shared)(H:Hp)(fp:List Addr):Cx:=
 { X with N:=N',s₀:=s,H₀:=H,env:=compEnvC scope (z45 X.env scope.names []) C X.env,outer:=X.stack,stack:=X.stack,ex:=fp,pn:=[],fn:=λy=>((z45 X.env scope.names []).lookup y).isNone,xe:=λ_ _=>False }
def z7F:TT:=λ_ H Q=>Q true H
def LcG (J:It)(g:TG)(tc:TT)(te:TE)(Q:VK)(σ0:St)(H1:Hp):Prop:=∃W:Nat->Nat->List V->St->Hp->Prop,(∃m,W 0 m [] σ0 H1)/\∀i m ys σ H,W i m ys σ H->
 ys.length<sizeLine/\((J.stop i H/\∀p,H p=none->Q (.ref p) (upd H p (.lst ys)))\/(J.go i H/\∀x H',J.yld i H x H'->g x σ H' λσ1 H1=>tc σ1 H1 λb H2=>if b=true then te σ1 H2 λy H3=>∃m',m'<m/\W (i+1) m' (ys++[y]) σ1 H3 else ∃m',m'<m/\W (i+1) m' ys σ1 H2))
def tLcG (wi:TI)(g:TG)(tc:TT)(te:TE)(nt:Nat)(js:List Nat):TE:=λσ H Q=>wi σ H λJ H1=>LcG J g tc te Q (List.replicate nt none++js.map λj=>(σ[j]?).getD none) H1
def zct (N' xn:List Str)(nt:Nat)(js:List Nat)(names onames:List (Str × NameKind)):Bool:=
 N'.length == nt+js.length && (js.zipIdx.all λp=>match N'[nt+p.2]? with
  | some y=>xn[p.1]? == some y && names.lookup y == some .free
  | none=>false) && names.all (λx=>x.2 != .cell && (x.2 != .local || names.lookup x.1 == some .local) && (x.2 != .free || ((onames.lookup x.1 == some .cell || onames.lookup x.1 == some .free))))
section
variable {X:Cx}{pins:List (Addr × Obj)}{σ:St}{H:Hp}{s:Shared}
structure z5o (X:Cx)(N':List Str)(nt:Nat)(js:List Nat)(scope:Scope):Prop where
 len:N'.length=nt+js.length
 cap:∀k j,js[k]? = some j->∃y,N'[nt+k]? = some y/\X.N[j]? = some y/\scope.names.lookup y=some .free
 nocell:∀y∈scope.names,y.2 ≠ .cell
 loc:∀y∈scope.names,y.2 = .local->scope.names.lookup y.1=some .local
 free:∀y∈scope.names,y.2 = .free->X.env.kindOf y.1=some .cell\/X.env.kindOf y.1=some .free
def zct.ok {N' xn:List Str}{nt:Nat}{js:List Nat}{scope osc:Scope}(hxn:X.N=xn)(hosc:X.env.scope=osc)(h:zct N' xn nt js scope.names osc.names=true):z5o X N' nt js scope:=by
 unfold zct at h;simp only[wN,uh] at h;obtain⟨⟨h1,h2⟩,h3⟩:=h;rw[vM] at h2 h3;have h3':∀y∈scope.names,y.2 ≠ .cell/\(y.2 = .local->scope.names.lookup y.1=some .local)/\(y.2 = .free->osc.names.lookup y.1=some .cell\/osc.names.lookup y.1=some .free):=λy hy=>by
  have:=h3 y hy;simp only[wN,Bool.or_eq_true,bne_iff_ne,uh] at this;refine⟨this.1.1,λz =>?_,λz =>?_⟩
  .rcases this.1.2 with q | q
   .exact absurd z q
   .exact q
  .rcases this.2 with q | q
   .exact absurd z q
   .exact q
 refine⟨h1,λk j hk =>?_,λy hy=>(h3' y hy).1,λy hy=>(h3' y hy).2.1,λy hy z =>?_⟩
 .have hm:(j,k)∈js.zipIdx:=by
   rw[List.mem_zipIdx_iff_getElem?];exact hk
  have:=h2 (j,k) hm
  cases e:N'[nt+k]? with
  | none=>simp only[e] at this;cases this
  | some y=>
   simp only[e,wN,uh] at this;exact⟨y,rfl,by rw[hxn];exact this.1,this.2⟩
 .show X.env.scope.names.lookup y.1=some .cell\/X.env.scope.names.lookup y.1=some .free;rw[hosc];exact(h3' y hy).2.2 z
theorem z5o.cells {N':List Str}{nt:Nat}{js:List Nat}{scope:Scope}(c:z5o X N' nt js scope)(I:Inv X pins σ H s):∀x∈scope.names,x.2 = .free->∃a,X.env.cells.lookup x.1=some a:=λx hx hf=>I.ok.has x.1 (c.free x hx hf)
def z5o.clo {N':List Str}{nt:Nat}{js:List Nat}{scope:Scope}(c:z5o X N' nt js scope)(I:Inv X pins σ H s){y:Str}{a:Addr}(h:(z45 X.env scope.names []).lookup y=some a):X.env.cells.lookup y=some a/\(y,NameKind.free)∈scope.names:=by
 rcases z8Z.mp (z1Q h) with z | ⟨z1,z2⟩
 .simp at z
 .obtain⟨b,hb⟩:=c.cells I (y,.free) z1 rfl;have hb':X.env.cells.lookup y=some b:=hb;rw[hb'] at z2;exact⟨by rw[hb',z2];rfl,z1⟩
def z5o.has {N':List Str}{nt:Nat}{js:List Nat}{scope:Scope}(c:z5o X N' nt js scope)(I:Inv X pins σ H s){y:Str}(h:(y,NameKind.free)∈scope.names):∃a,(z45 X.env scope.names []).lookup y=some a:=
 z3w (c:=(X.env.cells.lookup y).getD 0) (z8Z.mpr (.inr ⟨h,rfl⟩))
theorem Inv.compG {scope:Scope}{N':List Str}{nt:Nat}{js:List Nat}{C:Addr}{fp:List Addr}{h1:Heap}{t1:Nat}(I:Inv X pins σ H s)(hk:scope.kind = .function)(c:z5o X N' nt js scope)
  (hC:s.heap.objs.size<=C) (hfp:∀b∈fp,FpOk X pins H b) (hfo:∀b∈fp,b<s.heap.objs.size) (keep:∀b o,s.heap.get? b=some o->h1.get? b=some o) (hns:∃m,h1.Ns C m) (hc:X.calm=true):
  Inv (X.compG scope N' C s H fp) [] (List.replicate nt none++js.map λj=>(σ[j]?).getD none) H { s with heap:=h1,toks:=t1 }:=by
 have nofs:∀b∈fp,b ∉ frs X.stack:=λb hb z=>by
  rcases wf.mp (I.stkSub b z) with q | q
  .exact(hfp b hb).2.1 q
  .exact(hfp b hb).2.2.1 q
 have nobase:∀b o,X.base.get? b=some o->b ∉ fp:=λb o e hb=>by
  have e2:=(I.ok.bs b o e).1
  rcases(hfp b hb).2.2.2.1 with z | z
  .exact I.ok.noex b o e z
  .exact absurd (wK (wE e2) z) (vW _)
 have kd:∀{y:Str},((compEnvC scope (z45 X.env scope.names []) C X.env).kindOf y=some .cell\/(compEnvC scope (z45 X.env scope.names []) C X.env).kindOf y=some .free)->(y,NameKind.free)∈scope.names:=λ{y} q=>by
  rcases q with q | q
  .rcases z2J (env:=X.env) q with z | ⟨_,z⟩
   .exact absurd rfl (c.nocell _ (z1Q z))
   .exact z1Q z
  .rcases z2J (env:=X.env) q with z | ⟨z,_⟩
   .exact z1Q z
   .cases z
 have cell:∀{a:Addr}{v:Option Value},s.heap.IsCell a v->h1.IsCell a v:=λ⟨o,ho,hd⟩=>⟨o,keep _ _ ho,hd⟩
 obtain⟨m1,hm1⟩:=hns;refine⟨⟨I.ok.mod,hk,I.ok.glob,I.ok.blt,hC,(λy z a e1 e2=>I.ok.inj y z a (c.clo I e1).1 (c.clo I e2).1),(λy q=>c.has I (kd q)),(λy a hf e =>?_),(λ_=>I.ok.hd hc),I.ok.frames,.inl rfl,(λb hb=>⟨wT (wK (hfo b hb) hC),(λy a e=>(hfp b hb).2.2.2.2.1 y a (c.clo I e).1)⟩),(λb o e=>⟨I.bk b o e,(I.bs b o e).2⟩),wX I.ok.bsz I.sz,nobase,nofs,I.stack,I.stkFree,I.tbs⟩,
  rfl,I.bare,Un.kept keep,⟨m1,hm1,(λi y v e1 e2 hv =>?_)⟩,(λy a e =>?_),I.hok.fresh hC,(λy a e=>I.freeC y a (c.clo I e).1),(λp hp=>by simp at hp),I.hok.kept keep,?_⟩
 .have hf':((z45 X.env scope.names []).lookup y).isNone=true:=hf;have e':(z45 X.env scope.names []).lookup y=some a:=e;rw[e'] at hf'
  cases hf'
 .rcases Nat.lt_or_ge i nt with hi | hi
  .rw[vE (by simpa using hi),ur] at e2;rw[if_pos hi] at e2
   cases e2
  .rw[vN (by simpa using hi),vG,wR] at e2
   cases ej:js[i - nt]? with
   | none=>rw[ej] at e2;cases e2
   | some j=>
    rw[ej] at e2;obtain⟨y',q1,q2,q3⟩:=c.cap _ _ ej;have hi':nt+(i - nt)=i:=by lia
    rw[hi'] at q1;have e1':N'[i]? = some y:=e1;rw[q1] at e1'
    cases e1'
    have e2:some ((σ[j]?).getD none)=some (some v):=e2;have hσ:σ[j]? = some (some v):=by
     cases ez:σ[j]? with
     | none=>rw[ez] at e2;cases e2
     | some z=>rw[ez] at e2;exact congrArg some (vm e2)
    have hkX:=c.free _ (z1Q q3) rfl;obtain⟨m,hn,hl⟩:=I.loc;obtain⟨u,r,l⟩:=hl j y v q2 hσ (.inr hkX);refine⟨u,r,.inr ⟨z2t (env:=X.env) q3,?_⟩⟩
    rcases l with ⟨l,_⟩ | ⟨_,a,ha,hcell⟩
    .have l':X.env.kindOf y=some .local:=l
     rcases hkX with z | z
     .rw[l'] at z;cases z
     .rw[l'] at z;cases z
    .obtain⟨b,hb⟩:=c.has I (z1Q q3);have:=(c.clo I hb).1;rw[ha] at this
     cases this
     exact⟨a,hb,cell hcell⟩
 .obtain⟨v,z⟩:=I.cell y a (c.clo I e).1;exact⟨v,cell z⟩
 .show (List.replicate nt none++js.map λj=>(σ[j]?).getD none).length=N'.length;rw[wz,vG,wc,c.len]
def zhS {elt iter target:Expr}{ct:Option Expr}{pos:Pos}{scope:Scope}{wi:TI}{g:TG}{tc:TT}{te:TE}{N':List Str}{nt:Nat}{js:List Nat}(hc:X.calm=true)(hi:PI X target iter wi)(hk:scope.kind = .function)(cp:z5o X N' nt js scope)
  (hg:∀(C:Addr) (s:Shared) (H:Hp) (fp:List Addr),PG (X.compG scope N' C s H fp) target g)
  (ht:match ct with
   | none=>tc=z7F
   | some c=>∀(C:Addr) (s:Shared) (H:Hp) (fp:List Addr),PT (X.compG scope N' C s H fp) c tc)
  (he:∀(C:Addr) (s:Shared) (H:Hp) (fp:List Addr),PE (X.compG scope N' C s H fp) elt te) (hs:∀x,foldedSetIterable iter X.env x=pure x:=by intro _;rfl):PE X (.ListComp elt [⟨target,iter,ct.toList,0⟩] scope pos) (tLcG wi g tc te nt js):=by
 z_go;rw[eval_ListComp];refine wpAny_comprehension_free (use:=none) rfl hs (z7v (cp.cells I)) hk cp.loc (thn (hi pins s σ H _ I h) λv s1 h1=>thn h1 λitv s2 h2 =>?_);obtain⟨it,fp,tn,J,H2,e,I2,T,st2,f2,W,⟨m0,w0⟩,turn⟩:=h2;subst e;have hfo:∀b∈fp,b<s2.heap.objs.size:=λb hb=>by
  obtain⟨o,e,_⟩:=T.obj _ _ st2 b hb;exact wE e
 refine vn (wpAny_newFunctionEnv cp.nocell (by intro y hy;simp at hy) (λg1 hns1 hsb1 =>?_) hk);dsimp only at hns1 hsb1 ⊢;generalize hG2:s2.heap.push { cls :=.type "list",dict:=none,data :=.seq ([]:List Value).toArray }=G2 at hns1 hsb1 ⊢;have hC:G2.objs.size=s2.heap.objs.size+1:=by rw[<- hG2,ub]
 have hDC:s2.heap.objs.size≠G2.objs.size:=by rw[hC];exact wT (uI _)
 have below:∀b,b<s2.heap.objs.size->b≠G2.objs.size/\b≠s2.heap.objs.size:=λb hb=>⟨by rw[hC];exact wT (Nat.lt_succ_of_lt hb),wT hb⟩
 have old:∀b o,s2.heap.get? b=some o->g1.get? b=some o:=λb o e=>hsb1.extBut b o (below b (wE e)).1 (wm _ (hG2 ▸ wm _ e));have hacc:g1.get? s2.heap.objs.size=some { cls :=.type "list",data :=.seq ([]:List Value).toArray 0 }:=hsb1.extBut _ _ hDC (wm _ (hG2 ▸ wB _ rfl));have hCge:s2.heap.objs.size<=G2.objs.size:=by rw[hC];exact Nat.le_succ _
 have cellD:∀y a,X.env.cells.lookup y=some a->a<s2.heap.objs.size:=λy a e=>by
  obtain⟨v,o,ho,_⟩:=I2.cell y a e;exact wE ho
 generalize hCC:G2.objs.size=C at*;generalize hDD:s2.heap.objs.size=D at*
 let Y:Cx:=X.compG scope N' C s2 H2 fp
 have IY:Inv Y [] (List.replicate nt none++js.map λj=>(σ[j]?).getD none) H2 { s2 with heap:=g1,toks:=s2.toks+([]:List (Str × Value)).length }:=I2.compG hk cp (by rw[hDD];exact hCge) f2 (by rw[hDD];exact hfo) old ⟨_,hns1⟩ hc;have fpD:∀b∈fp,b≠D:=λb hb=>(below b (hfo b hb)).2;have fpC:∀b∈fp,b≠C:=λb hb=>(below b (hfo b hb)).1;have H2D:H2 D=none:=I2.hok.fresh (by rw[hDD];exact wG _);have Dnf:D ∉ frs X.stack:=λz=>by
  obtain⟨_,o,e,_⟩:=I2.stack.mem z;exact absurd (wE e) (by rw[hDD];exact vW _)
 have stat:∀{H':Hp}{pl:List (Addr × Obj)},(∀b∈fp,H' b=none)->(∀p∈pl,p.1=D)->∀b∈fp,FpOk Y pl H' b:=λhn hp b hb=>⟨hn b hb,fpC b hb,(λz=>IY.ok.exfs b hb z),.inl hb,(λy a e=>(f2 b hb).2.2.2.2.1 y a (cp.clo I2 e).1),λp hp' z=>fpD b hb (z.symm.trans (hp p (by simpa[Y] using hp')))⟩
 have loop:∀s3:Shared,s3={ s2 with heap:=g1,toks:=s2.toks+([]:List (Str × Value)).length }->
   codeAny (model X.prog X.w) X.A (.compLoop (.ListComp elt [⟨target,iter,ct.toList,0⟩] scope pos) 0 (.ref it) (.ref D) (compEnvC scope (z45 X.env scope.names []) C X.env)) (compPost (model X.prog X.w) X.A X.xe none (EP X pins σ Q) (.ref D) C) s3:=by
  intro s3 e3;refine z8h (λn s'=>∃i ys its σ' H',Inv Y [] σ' H' s'/\s'.heap.get? D=some { cls :=.type "list",data :=.seq (its:List Value).toArray its.length }/\Vals ys its/\H' D=none/\tn i s'.heap/\(∀b∈fp,H' b=none)/\W i n ys σ' H') ?_ m0 ⟨0,[],[],_,H2,e3 ▸ IY,?_,.nil,H2D,?_,λb hb=>(f2 b hb).1,w0⟩
  .rintro n s4 ⟨i,ys,its,σ4,H4,I4,hD4,hv4,hn4,st4,fr4,w4⟩;obtain⟨hsz,step⟩:=turn i n ys σ4 H4 w4;have hl4:ys.length=its.length:=hv4.length;have I4p:Inv Y [(D,{ cls :=.type "list",data :=.seq its.toArray its.length })] σ4 H4 s4:=I4.pins_of λp hp=>by
    rw[wZ.mp hp];exact⟨hD4,hn4,hDC,Dnf,λv z=>by cases z⟩
   have one:∀p∈[((D:Addr),({ cls :=.type "list",data :=.seq its.toArray its.length }:Obj))],p.1=D:=λp hp=>by rw[wZ.mp hp]
   rcases step with ⟨stop,qn⟩ | ⟨go,step⟩
   .refine va (T.done Y rfl rfl rfl hc i _ s4 σ4 H4 (λ_ _=>False) I4p (stat fr4 one) st4 stop) (λr s5 hr =>?_) λ_ _ z=>z.elim;obtain⟨rfl,I5⟩:=hr;have hD5:s5.heap.get? D=some { cls :=.type "list",data :=.seq its.toArray its.length }:=(I5.pin (D,_) (by simp)).1;obtain⟨m5,hm5,_⟩:=I5.loc;refine⟨m5,hm5,λh' sb =>?_⟩;have U:Un (frs X.stack) fp H2 H4 s2.heap s5.heap:=I5.base;have nC:∀b o,s2.heap.get? b=some o->b≠C:=λb o e=>(below b (hDD ▸ wE e)).1;have nD:∀b o,s2.heap.get? b=some o->b≠D:=λb o e=>(below b (hDD ▸ wE e)).2;have ex:∀b o,b≠C->s5.heap.get? b=some o->h'.get? b=some o:=λb o n e=>sb.extBut b o n e;have U':Un (frs X.stack) fp H2 (upd H4 D (.lst ys)) s2.heap h':=⟨λb o e n hb hx'=>ex b o (nC b o e) (U.keep b o e n hb hx'),λb o e n hb hx'=>by
      obtain⟨sl,q⟩:=U.slot b o e n hb hx';exact⟨sl,ex b _ (nC b o e) q⟩,λb o e n hx'=>by rw[z02 (nD b o e)];exact U.free b o e n hx',λb o e hx'=>by
      obtain⟨o',q⟩:=U.there b o e hx';exact⟨o',ex b _ (nC b o e) q⟩,λb xs e=>by rw[z02 (z0F (U.tups b xs e) hn4)];exact U.tups b xs e,λb o xs e=>by rw[z02 (z0F (U.frzs b o xs e) hn4)];exact U.frzs b o xs e,λb ps e=>by
      obtain⟨more,q⟩:=U.tbls b ps e;exact⟨more,by rw[z02 (z0F q hn4)];exact q⟩⟩
    have ok1:HOk X.prog X.w H4 h':=HOk.other I5.hok I5.free λb u n e=>ex b u n e;have ok2:HOk X.prog X.w (upd H4 D (.lst ys)) h':=ok1.track hn4 ⟨uW hsz,its,_,hv4,ex D _ hDC hD5⟩;exact⟨.ref D,upd H4 D (.lst ys),I2.call' (s':={ s5 with heap:=h' }) I5.os U' ok2 I5.bare (λb hb=>⟨(f2 b hb).2.2.2.1,(f2 b hb).2.1,(f2 b hb).2.2.2.2.1,(f2 b hb).2.2.2.2.2⟩),rfl,qn D hn4⟩
   .refine va (T.item Y rfl rfl rfl hc i _ s4 σ4 H4 (λ_ _=>False) I4p (stat fr4 one) st4 go) (λr s5 hr =>?_) λ_ _ z=>z.elim;obtain⟨u,rfl,h5⟩:=hr;refine va h5 (λ_ s6 h6 =>?_) λ_ _ z=>z.elim;obtain⟨xv,H6,I6,r6,y6,st6,fr6⟩:=h6;have I6p:=I6.pinned (stat fr6 one) (T.obj _ _ st6);have after:∀{σ8:St}{H8:Hp}{s8:Shared},Inv Y _ σ8 H8 s8->_:=λ{σ8 H8 s8} (I8:Inv Y ([(D,{ cls :=.type "list",data :=.seq its.toArray its.length })]++z6z fp s6.heap) σ8 H8 s8)=>
     (show (s8.heap.get? D=some { cls :=.type "list",data :=.seq its.toArray its.length }/\H8 D=none)/\tn (i+1) s8.heap/\(∀b∈fp,H8 b=none)/\Inv Y [] σ8 H8 s8 from by
      have pD:=I8.pin (D,{ cls :=.type "list",data :=.seq its.toArray its.length }) (by simp);refine⟨⟨pD.1,pD.2.1⟩,T.keep _ _ _ st6 λb hb o e=>(I8.pin (b,o) (w9 _ (w9 _ (z3E hb e)))).1,λb hb =>?_,I8.pins_of (pins':=[]) λp hp=>by simp at hp⟩;obtain⟨o,e,d⟩:=T.obj _ _ st6 b hb;exact(I8.pin (b,o) (w9 _ (w9 _ (z3E hb e)))).2.1)
    refine va (hg C s2 H2 fp _ s6 σ4 H6 xv u _ I6p r6 (step xv H6 y6)) (λ_ s7 h7 =>?_) λ_ _ z=>z.elim;obtain⟨σ7,H7,I7,q7⟩:=h7;have yes:∀s7' H7',Inv Y _ σ7 H7' s7'->(te σ7 H7' λy H3=>∃m',m'<n/\W (i+1) m' (ys++[y]) σ7 H3)->_:=λs7' H7' (I7':Inv Y ([(D,{ cls :=.type "list",data :=.seq its.toArray its.length })]++z6z fp s6.heap) σ7 H7' s7') qe=>
     va (Q':=λyv s8=>wpAny (model X.prog X.w) X.A (call (.builtin "list.append") [.ref D,yv]) (λ_ s6=>∃m,m<n/\∃i ys its σ' H',Inv Y [] σ' H' s6/\s6.heap.get? D=some { cls :=.type "list",data :=.seq (its:List Value).toArray its.length }/\Vals ys its/\H' D=none/\tn i s6.heap/\(∀b∈fp,H' b=none)/\W i m ys σ' H') (notedBy (model X.prog X.w) X.A (compEnvC scope (z45 X.env scope.names []) C X.env) λe s'=>compPost (model X.prog X.w) X.A X.xe none (EP X pins σ Q) (.ref D) C (.error e) s') s8) (he C s2 H2 fp _ s7' σ7 H7' _ I7' qe) (λyv s8 h8=>by
      obtain⟨y,H8,I8,r8,m',hm',w8⟩:=h8;obtain⟨⟨pD1,pD2⟩,st8,fr8,I8u⟩:=after I8;refine append_at (hsz:=by rw[wI, <- hl4];exact uW hsz) pD1 λh9 sb9 hD9 =>?_;refine⟨m',hm',i+1,ys++[y],its++[yv],σ7,H8,I8u.turned (it:=D) (t':=s8.toks) (λb o n e=>sb9.extBut b o n e) pD2 hDC (.inr (by rw[hDD];exact wG _)) (λy a e z=>by
        have:=cellD y a (cp.clo I2 e).1;rw[z] at this;exact vW _ this) (λp hp=>by simp[Y] at hp),?_,Vals.append hv4 (.cons r8 .nil),pD2,T.keep _ _ _ st8 λb hb o e=>sb9.extBut b o (fpD b hb) e,fr8,w8⟩
      show h9.get? D=_;rw[hD9];simp) (E':=notedBy (model X.prog X.w) X.A (compEnvC scope (z45 X.env scope.names []) C X.env) λe s'=>compPost (model X.prog X.w) X.A X.xe none (EP X pins σ Q) (.ref D) C (.error e) s') (λ_ _ z=>z.elim)
    cases ct with
    | none=>
     have ht':tc=z7F:=ht;subst ht';simp only[zgq,uZ];have q7':if true=true then te σ7 H7 λy H3=>∃m',m'<n/\W (i+1) m' (ys++[y]) σ7 H3 else ∃m',m'<n/\W (i+1) m' ys σ7 H7:=q7
     rw[if_pos rfl] at q7';exact yes s7 H7 I7 q7'
    | some c=>
     refine va (ht C s2 H2 fp _ s7 σ7 H7 _ I7 q7) (λb s8 h8 =>?_) λ_ _ z=>z.elim;obtain⟨H8,I8,q8⟩:=h8
     cases b with
     | true=>
      rw[if_pos rfl] at q8 ⊢;exact yes s8 H8 I8 q8
     | false=>
      rw[if_neg wM] at q8 ⊢;obtain⟨m',hm',w8⟩:=q8;obtain⟨⟨pD1,pD2⟩,st8,fr8,I8u⟩:=after I8;exact⟨m',hm',i+1,ys,its,σ7,H8,I8u,pD1,hv4,pD2,st8,fr8,w8⟩
  .rw[e3];exact hacc
  .rw[e3];exact T.keep _ _ _ st2 λb _ o e=>old b o e
 exact codeAny_compStart_list (loop _ rfl) (T.self _ 0 _ _ _ (T.keep _ _ _ st2 λb _ o e=>old b o e) (loop _ rfl))
def zhC {elt iter target:Expr}{ct:Option Expr}{pos:Pos}{scope:Scope}{wi:TI}{g:TG}{tc:TT}{te:TE}{N':List Str}{nt:Nat}{js:List Nat}(hc:X.calm=true)(hi:QI X target iter wi)(hk:scope.kind = .function)(cp:z5o X N' nt js scope)
  (hg:∀(C:Addr) (s:Shared) (H:Hp) (fp:List Addr),QG (X.compG scope N' C s H fp) target g)
  (ht:match ct with
   | none=>tc=z7F
   | some c=>∀(C:Addr) (s:Shared) (H:Hp) (fp:List Addr),QT (X.compG scope N' C s H fp) c tc)
  (he:∀(C:Addr) (s:Shared) (H:Hp) (fp:List Addr),QE (X.compG scope N' C s H fp) elt te) (hs:∀x,foldedSetIterable iter X.env x=pure x:=by intro _;rfl):QE X (.ListComp elt [⟨target,iter,ct.toList,0⟩] scope pos) (tLcG wi g tc te nt js):=by
 refine⟨zhS hc hi.p hk cp (λC s H fp=>(hg C s H fp).p) ?_ (λC s H fp=>(he C s H fp).p) hs⟩
 cases ct with
 | none=>exact ht
 | some c=>exact λC s H fp=>(ht C s H fp).p
def zhw {i:Nat}{x:Str}{pos:Pos}(hN:X.N.Nodup)(hi:X.N[i]? = some x)(hx:X.env.scope.names.lookup x=some .local):QG X (.Name x pos) (z2y i):=⟨zbC hN hi (.inl hx) (.inr hx)⟩
end
theorem zaD:∀(ns:List Int) {us:List Value},Vals (ns.map V.int) us->∃l:List (Int × Tok),us=l.map (λp=>Value.int p.1 p.2)/\l.map (·.1)=ns
 | [],_,r=>by cases r;exact⟨[],rfl,rfl⟩
 | n::ns,_,r=>by
  cases r with
  | cons r1 r2=>
   obtain⟨t,rfl⟩:=(show ∃t,_=Value.int n t from r1)
   obtain⟨l,rfl,hl⟩:=zaD ns r2;exact⟨(n,t)::l,rfl,by rw[wA,hl]⟩
section
variable {X:Cx}
def zjz (K:W.Frag):List V->Hp->VK->Prop:=λxs H Q=>∃(a:Addr) (ns:List Int),xs=[.ref a]/\SqL K H a (ns.map V.int)/\Q (.int ns.sum) H
def zcu (hc:X.calm=true):z1k X (.builtin "sum") (zjz X.K):=by
 k_cls;obtain⟨a,ns,rfl,hs,q⟩:=h;obtain⟨u,rfl,ru⟩:=z6I r
 cases (show u=Value.ref a from ru)
 obtain⟨its,hv,pl,_⟩:=I.list hs;obtain⟨l,rfl,hl⟩:=zaD ns hv;refine sum_intListG (xs:=l.toArray) (I.ok.hd hc) (by have:=pl.isList;simpa[intItems] using this) λh' tk t' hk =>?_;refine⟨.int _,H,I.kept (t':=tk) hk,⟨t',rfl⟩,?_⟩;rw[preSum_eq,ux (by simp)];simpa[hl] using q
def z1k.imp {f:Value}{r r':List V->Hp->VK->Prop}(h:z1k X f r)(i:∀xs H Q,r' xs H Q->r xs H Q):z1k X f r':=λpins s σ H xs us Q I rv q=>h pins s σ H xs us Q I rv (i xs H Q q)
end
def zjd {α:Type}{xs:List α}{i:Int}(h0:0<=i)(h1:i<xs.length):∃v∈xs,atI xs i=some v:=by
 have hk:i.toNat<xs.length:=by lia
 have ek:i=((i.toNat:Nat):Int):=by lia
 refine⟨xs[i.toNat],vV hk,?_⟩;have q:atI xs ((i.toNat:Nat):Int)=some xs[i.toNat]:=z3x (wJ hk);rw[<- ek] at q;exact q
end L2
namespace Pu
open PySem PySem.Spec PyProof.Rows L2
inductive D where
 | non | bl (b:Bool) | int (i:Int) | str (x:Str) | tup (l:List D) | lst (l:List D) | dct (ks vs:List D) | fn (n:Nat) | exc (x:Str) | ptr (a:Addr) | ins (n:Str) (fs:List Str) (cs:List D) | fz (ks vs:List D)
instance:Inhabited D:=⟨.non⟩
def ziS:Nat->Str
 | 0=>"turn_by" | 1=>"turn_among" | 2=>"step_of" | 3=>"step_among" | _=>""
def kD:Key->D
 | .inl i =>.int i
 | .inr x =>.str x
section
variable (K:W.Frag)(mg:WmP)
mutual
/-- the value v stands for d,in the heap G -/
def RD (G:Hp):D->V->Prop
 | .non,v=>v = .non
 | .bl b,v=>v = .bl b
 | .int i,v=>v = .int i
 | .str x,v=>v = .str x
 | .tup ds,v=>∃a xs,v = .ref a/\SqT K G a xs/\RDs G ds xs
 | .lst ds,v=>∃a xs,v = .ref a/\SqL K G a xs/\RDs G ds xs
 | .dct ks vs,v=>∃a xs,v = .ref a/\RDs G vs xs/\((∃kvs:List (Key × V),Rd G a (.dK kvs)/\ks=kvs.map (λp=>kD p.1)/\xs=kvs.map (·.2))\/∃kvs:List (List Key × V),G a=some (.dT kvs)/\kvs≠[]/\ks=kvs.map (λp =>.tup (p.1.map kD))/\xs=kvs.map (·.2))
 | .fn n,v=>∃f,v = .ref f/\mg (ziS n)=some (.ref f)
 | .exc x,v=>∃ea C,v = .ref ea/\G ea=some (.ext (z3h ea C))/\mg x=some (.ref C)
 | .ptr a,v=>v = .ref a
 | .fz ks vs,v=>∃a xs,v = .ref a/\RDs G vs xs/\∃(o:Obj) (kvs:List (Key × V)),G a=some (.frz o (.dK kvs))/\ks=kvs.map (λp=>kD p.1)/\xs=kvs.map (·.2)
 | .ins n fs cs,v=>∃p C dx xs,v = .ref p/\G p=some (.ins C dx (fs.zip xs))/\mg n=some (.ref C)/\RDs G cs xs
def RDs (G:Hp):List D->List V->Prop
 | [],xs=>xs=[]
 | d::ds,xs=>∃x r,xs=x::r/\RD G d x/\RDs G ds r
end
end
section
variable {K:W.Frag}{mg:WmP}{G G' H H':Hp}
def Same.refl':Same H H:=λ_ _ h=>h
def z03 {A B C:Hp}(h:Same A B)(h':Same B C):Same A C:=λa o e=>h' a o (h a o e)
def z1d {a:Addr}{xs:List V}(e:Same G G')(h:SqL K G a xs):SqL K G' a xs:=by
 rcases h with (h | ⟨o,h⟩) | h
 .exact .inl (.inl (e _ _ h))
 .exact .inl (.inr ⟨o,e _ _ h⟩)
 .exact .inr h
def z1H {a:Addr}{xs:List V}(e:Same G G')(h:SqT K G a xs):SqT K G' a xs:=by
 rcases h with (h | ⟨o,h⟩) | h
 .exact .inl (.inl (e _ _ h))
 .exact .inl (.inr ⟨o,e _ _ h⟩)
 .exact .inr h
mutual
theorem RD.same (e:Same G G'):∀(d:D) {v:V},RD K mg G d v->RD K mg G' d v
 | .non,_,h=>by simpa[RD] using h
 | .bl _,_,h=>by simpa[RD] using h
 | .int _,_,h=>by simpa[RD] using h
 | .str _,_,h=>by simpa[RD] using h
 | .fn _,_,h=>by rw[RD] at h ⊢;exact h
 | .exc _,_,h=>by
  rw[RD] at h ⊢;obtain⟨ea,C,h1,h2,h3⟩:=h;exact⟨ea,C,h1,e _ _ h2,h3⟩
 | .ptr _,_,h=>by rw[RD] at h ⊢;exact h
 | .fz _ vs,_,h=>by
  rw[RD] at h ⊢;obtain⟨a,xs,h1,h2,o,kvs,q,r⟩:=h;exact⟨a,xs,h1,RDs.same e vs h2,o,kvs,e _ _ q,r⟩
 | .ins _ _ cs,_,h=>by
  rw[RD] at h ⊢;obtain⟨p,C,dx,xs,h1,h2,h3,h4⟩:=h;exact⟨p,C,dx,xs,h1,e _ _ h2,h3,RDs.same e cs h4⟩
 | .tup ds,_,h=>by
  rw[RD] at h ⊢;by_in;exact⟨a,xs,h1,z1H e h2,RDs.same e ds h3⟩
 | .lst ds,_,h=>by
  rw[RD] at h ⊢;by_in;exact⟨a,xs,h1,z1d e h2,RDs.same e ds h3⟩
 | .dct ks vs,_,h=>by
  rw[RD] at h ⊢;obtain⟨a,xs,h1,h3,h4⟩:=h;refine⟨a,xs,h1,RDs.same e vs h3,?_⟩
  rcases h4 with ⟨kvs,q,r⟩ | ⟨kvs,q,r⟩
  .exact .inl ⟨kvs,q.imp (e _ _) λ⟨o,q⟩=>⟨o,e _ _ q⟩,r⟩
  .exact .inr ⟨kvs,e _ _ q,r⟩
theorem RDs.same (e:Same G G'):∀(ds:List D) {xs:List V},RDs K mg G ds xs->RDs K mg G' ds xs
 | [],_,h=>by simpa[RDs] using h
 | d::ds,_,h=>by
  rw[RDs] at h ⊢;obtain⟨x,r,h1,h2,h3⟩:=h;exact⟨x,r,h1,RD.same e d h2,RDs.same e ds h3⟩
end
def RDs.nil:RDs K mg G [] []:=by rw[RDs]
def RDs.cons {d:D}{v:V}{ds:List D}{vs:List V}(h:RD K mg G d v)(t:RDs K mg G ds vs):RDs K mg G (d::ds) (v::vs):=by rw[RDs];exact⟨v,vs,rfl,h,t⟩
theorem RDs.len:∀{ds:List D}{vs:List V},RDs K mg G ds vs->vs.length=ds.length
 | [],_,h=>by rw[RDs] at h;subst h;rfl
 | _::_,_,h=>by
  rw[RDs] at h;obtain⟨x,r,rfl,_,h3⟩:=h;simp[RDs.len h3]
theorem RDs.app:∀{ds es:List D}{vs us:List V},RDs K mg G ds vs->RDs K mg G es us->RDs K mg G (ds++es) (vs++us)
 | [],_,_,_,h,k=>by rw[RDs] at h;subst h;exact k
 | _::_,_,_,_,h,k=>by
  rw[RDs] at h;lge_go;exact RDs.cons h2 (RDs.app h3 k)
theorem RDs.get:∀{ds:List D}{vs:List V}{i:Nat}{d:D},RDs K mg G ds vs->ds[i]? = some d->∃v,vs[i]? = some v/\RD K mg G d v
 | [],_,_,_,_,e=>by simp at e
 | _::_,_,0,_,h,e=>by
  rw[RDs] at h;lge_go;simp at e;subst e;exact⟨x,rfl,h2⟩
 | _::_,_,i+1,_,h,e=>by
  rw[RDs] at h;lge_go;obtain⟨v,e1,e2⟩:=RDs.get (i:=i) h3 (by simpa using e);exact⟨v,by simpa using e1,e2⟩
theorem RDs.take:∀{ds:List D}{vs:List V}(n:Nat),RDs K mg G ds vs->RDs K mg G (ds.take n) (vs.take n)
 | _,_,0,_=>by simp;exact RDs.nil
 | [],_,_+1,h=>by rw[RDs] at h;subst h;exact RDs.nil
 | _::_,_,n+1,h=>by
  rw[RDs] at h;lge_go;exact RDs.cons h2 (RDs.take n h3)
theorem RDs.drop:∀{ds:List D}{vs:List V}(n:Nat),RDs K mg G ds vs->RDs K mg G (ds.drop n) (vs.drop n)
 | _,_,0,h=>by simpa using h
 | [],_,_+1,h=>by rw[RDs] at h;subst h;exact RDs.nil
 | _::_,_,n+1,h=>by
  rw[RDs] at h;lge_go;exact RDs.drop n h3
theorem RDs.set {d:D}{v:V}(q:RD K mg G d v):∀{ds:List D}{vs:List V}(i:Nat),RDs K mg G ds vs->RDs K mg G (ds.set i d) (vs.set i v)
 | [],_,_,h=>by rw[RDs] at h;subst h;exact RDs.nil
 | _::_,_,0,h=>by
  rw[RDs] at h;lge_go;exact RDs.cons q h3
 | _::_,_,i+1,h=>by
  rw[RDs] at h;lge_go;exact RDs.cons h2 (RDs.set q i h3)
theorem RDs.at {ds:List D}{vs:List V}{i:Int}{d:D}(h:RDs K mg G ds vs)(e:atI ds i=some d):∃v,atI vs i=some v/\RD K mg G d v:=by
 unfold atI at e ⊢;rw[h.len]
 cases q:ixN ds.length i with
 | none=>rw[q] at e;cases e
 | some j=>
  rw[q] at e;exact h.get e
def RDs.cut {ds:List D}{vs:List V}(lo hi:Option Int)(h:RDs K mg G ds vs):RDs K mg G ((ds.drop (HT.sIx ds.length 0 lo)).take (HT.sIx ds.length ds.length hi - HT.sIx ds.length 0 lo)) (cutV vs lo hi):=by
 unfold cutV;rw[h.len];exact(h.drop _).take _
end
inductive B where
 | n | s (d:D) | o (d:D)
abbrev Env:=List B
def B.get:B->Option D
 | .n=>none
 | .s d=>some d
 | .o d=>some d
def Env.get (ρ:Env)(i:Nat):Option D:=match ρ,i with
 | [],_=>none
 | b::_,0=>b.get
 | _::r,i+1=>Env.get r i
theorem Env.get_eq:∀(ρ:Env) (i:Nat),Env.get ρ i=(ρ[i]?).bind B.get
 | [],i=>by simp[Env.get]
 | b::r,0=>by simp[Env.get]
 | b::r,i+1=>by simp[Env.get,Env.get_eq r i]
abbrev DK:=D->Prop
abbrev XP:=Str->Prop
structure Fn where
 run:List D->DK->XP->Prop
 mono:∀ds (Q Q':DK) (X X':XP),(∀d,Q d->Q' d)->(∀x,X x->X' x)->run ds Q X->run ds Q' X'
structure Ex where
 run:Env->DK->XP->Prop
 mono:∀ρ (Q Q':DK) (X X':XP),(∀d,Q d->Q' d)->(∀x,X x->X' x)->run ρ Q X->run ρ Q' X'
structure Sm where
 run:Env->(Env->Prop)->DK->XP->Prop
 mono:∀ρ (N N':Env->Prop) (Q Q':DK) (X X':XP),(∀ρ,N ρ->N' ρ)->(∀d,Q d->Q' d)->(∀x,X x->X' x)->run ρ N Q X->run ρ N' Q' X'
def onV (o:Option D)(Q:DK):Prop:=match o with
 | some d=>Q d
 | none=>False
def Ex.c (d:D):Ex:=⟨λ_ Q _=>Q d,λ_ _ _ _ _ m _ q=>m _ q⟩
def Ex.v (i:Nat):Ex:=⟨λρ Q _=>onV (ρ.get i) Q,λρ Q Q' _ _ m _ q=>by
 show onV (ρ.get i) Q';have q':onV (ρ.get i) Q:=q
 cases e:ρ.get i with
 | none=>rw[e] at q';exact q'
 | some d=>rw[e] at q';exact m _ q'⟩
def runs:List Ex->Env->(List D->Prop)->XP->Prop
 | [],_,Q,_=>Q []
 | e::es,ρ,Q,X=>e.run ρ (λd=>runs es ρ (λds=>Q (d::ds)) X) X
theorem z2m:∀(es:List Ex) (ρ:Env) (Q Q':List D->Prop) (X X':XP),(∀d,Q d->Q' d)->(∀x,X x->X' x)->runs es ρ Q X->runs es ρ Q' X'
 | [],_,_,_,_,_,m,_,q=>m _ q
 | e::es,ρ,Q,Q',X,X',m,mx,q=>e.mono ρ _ _ X X' (λd q1=>z2m es ρ _ _ X X' (λds q2=>m _ q2) mx q1) mx q
def Ex.op (f:Fn)(es:List Ex):Ex:=⟨λρ Q X=>runs es ρ (λds=>f.run ds Q X) X,λρ Q Q' X X' m mx q=>z2m es ρ _ _ X X' (λds q1=>f.mono ds Q Q' X X' m mx q1) mx q⟩
def tst (d:D)(A B:Prop):Prop:=match d with
 | .bl b=>(b=true->A)/\(b=false->B)
 | _=>False
def z2z {d:D}{A A' B B':Prop}(ha:A->A')(hb:B->B')(h:tst d A B):tst d A' B':=by
 cases d with
 | bl b=>exact⟨λe=>ha (h.1 e),λe=>hb (h.2 e)⟩
 | _=>exact h.elim
def z51 {d:D}{A B:Prop}(h:tst d A B):∃b,d = .bl b/\(b=true->A)/\(b=false->B):=by
 cases d with
 | bl b=>exact⟨b,rfl,h⟩
 | _=>exact h.elim
def Ex.and (a b:Ex):Ex:=⟨λρ Q X=>a.run ρ (λd=>tst d (b.run ρ Q X) (Q (.bl false))) X,λρ Q Q' X X' m mx q=>a.mono ρ _ _ X X' (λd q1=>z2z (b.mono ρ Q Q' X X' m mx) (m _) q1) mx q⟩
def Ex.or (a b:Ex):Ex:=⟨λρ Q X=>a.run ρ (λd=>tst d (Q (.bl true)) (b.run ρ Q X)) X,λρ Q Q' X X' m mx q=>a.mono ρ _ _ X X' (λd q1=>z2z (m _) (b.mono ρ Q Q' X X' m mx) q1) mx q⟩
def Ex.not (a:Ex):Ex:=⟨λρ Q X=>a.run ρ (λd=>match d with | .bl b=>Q (.bl (!b)) | _=>False) X,λρ Q Q' X X' m mx q=>a.mono ρ _ _ X X' (λd q1=>by
 cases d with
 | bl b=>exact m _ q1
 | _=>exact q1.elim) mx q⟩
inductive Tg where
 | nm (i:Nat) | tp (is:List Nat)
def z0g:List Nat->List D->Env->Env
 | i::is,d::ds,ρ=>z0g is ds (ρ.set i (.s d))
 | _,_,ρ=>ρ
def Tg.put (t:Tg)(d:D)(ρ:Env)(K:Env->Prop):Prop:=match t,d with
 | .nm i,d=>K (ρ.set i (.s d))
 | .tp is,.tup ds=>is.length=ds.length/\K (z0g is ds ρ)
 | _,_=>False
def Tg.put_mono {t:Tg}{d:D}{ρ:Env}{K K':Env->Prop}(m:∀ρ,K ρ->K' ρ)(h:t.put d ρ K):t.put d ρ K':=by
 cases t with
 | nm i=>exact m _ h
 | tp is=>
  cases d with
  | tup ds=>exact⟨h.1,m _ h.2⟩
  | _=>exact h.elim
def items:D->Option (List D)
 | .lst l=>some l
 | .tup l=>some l
 | .str x=>some (x.cps.toList.map λc =>.str ⟨#[c]⟩)
 | _=>none
def onL (o:Option (List D))(Q:List D->Prop):Prop:=match o with
 | some l=>Q l
 | none=>False
def z6Z {o:Option (List D)}{Q Q':List D->Prop}(m:∀l,Q l->Q' l)(h:onL o Q):onL o Q':=by
 cases o with
 | none=>exact h
 | some l=>exact m _ h
def z44 (f:D->(Option D->Prop)->Prop):List D->(List D->Prop)->Prop
 | [],N=>N []
 | x::xs,N=>f x λo=>z44 f xs λr=>N (o.toList++r)
theorem z3F {f f':D->(Option D->Prop)->Prop}(hf:∀x K K',(∀o,K o->K' o)->f x K->f' x K'):∀(xs:List D) (N N':List D->Prop),(∀l,N l->N' l)->z44 f xs N->z44 f' xs N'
 | [],_,_,m,q=>m _ q
 | x::xs,N,N',m,q=>hf x _ _ (λo q1=>z3F hf xs _ _ (λr q2=>m _ q2) q1) q
def z1z (nt:Nat)(js:List Nat)(ρ:Env):Env:=List.replicate nt .n++js.map λj=>(ρ[j]?).getD .n
def z4C (t:Tg)(c:Option Ex)(elt:Ex)(ρ:Env)(x:D)(K:Option D->Prop):Prop:=
 t.put x ρ λρ'=>match c with
  | none=>elt.run ρ' (λd=>K (some d)) (λ_=>False)
  | some c=>c.run ρ' (λb=>tst b (elt.run ρ' (λd=>K (some d)) (λ_=>False)) (K none)) (λ_=>False)
def z50 {t:Tg}{c:Option Ex}{elt:Ex}{ρ:Env}(x:D)(K K':Option D->Prop)(m:∀o,K o->K' o)(h:z4C t c elt ρ x K):z4C t c elt ρ x K':=by
 refine Tg.put_mono (λρ' q =>?_) h
 cases c with
 | none=>exact elt.mono ρ' _ _ _ _ (λd q1=>m _ q1) (λ_ z=>z) q
 | some c=>exact c.mono ρ' _ _ _ _ (λb q1=>z2z (elt.mono ρ' _ _ _ _ (λd q2=>m _ q2) (λ_ z=>z)) (m _) q1) (λ_ z=>z) q
def Ex.comp (nt:Nat)(js:List Nat)(t:Tg)(src:Ex)(c:Option Ex)(elt:Ex):Ex:=
 ⟨λρ Q X=>src.run ρ (λd=>onL (items d) λl=>l.length<sizeLine/\z44 (z4C t c elt (z1z nt js ρ)) l λr=>Q (.lst r)) X,λρ Q Q' X X' m mx q=>
  src.mono ρ _ _ X X' (λd q1=>z6Z (λl q2=>⟨q2.1,z3F z50 l _ _ (λr q3=>m _ q3) q2.2⟩) q1) mx q⟩
def Sm.skip:Sm:=⟨λρ N _ _=>N ρ,λ_ _ _ _ _ _ _ m _ _ q=>m _ q⟩
def Sm.seq (a b:Sm):Sm:=⟨λρ N Q X=>a.run ρ (λρ'=>b.run ρ' N Q X) Q X,λρ N N' Q Q' X X' mn m mx q=>a.mono ρ _ _ Q Q' X X' (λρ' q1=>b.mono ρ' N N' Q Q' X X' mn m mx q1) m mx q⟩
mutual
def noL:D->Bool
 | .lst _=>false
 | .tup l=>noLs l
 | .dct ks vs=>noLs vs
 | .ins _ _ _=>false
 | .fz _ _=>false
 | _=>true
def noLs:List D->Bool
 | []=>true
 | d::ds=>noL d && noLs ds
end
mutual
def noD:D->Bool
 | .dct _ _=>false
 | .tup l=>noDs l
 | .lst l=>noDs l
 | .ins _ _ _=>false
 | .fz _ _=>false
 | _=>true
def noDs:List D->Bool
 | []=>true
 | d::ds=>noD d && noDs ds
end
def zgU (d:D):B->Prop
 | .o (.lst _)=>noL d=true
 | .o (.dct _ _)=>noD d=true
 | _=>True
def Safe (d:D):Env->Prop
 | []=>True
 | b::r=>zgU d b/\Safe d r
def zcB (d:D)(ρ:Env):Prop:=match d with
 | .lst l=>∀x∈l,Safe x ρ
 | .dct _ vs=>∀x∈vs,Safe x ρ
 | _=>False
def Sm.set (i:Nat)(e:Ex):Sm:=⟨λρ N _ X=>e.run ρ (λd=>Safe d (ρ.set i .n)/\N (ρ.set i (.s d))) X,λρ N N' Q Q' X X' mn m mx q=>e.mono ρ _ _ X X' (λd q1=>⟨q1.1,mn _ q1.2⟩) mx q⟩
def Sm.own (i:Nat)(e:Ex):Sm:=⟨λρ N _ X=>e.run ρ (λd=>zcB d (ρ.set i .n)/\N (ρ.set i (.o d))) X,λρ N N' Q Q' X X' mn m mx q=>e.mono ρ _ _ X X' (λd q1=>⟨q1.1,mn _ q1.2⟩) mx q⟩
def demB:B->B
 | .o d =>.s d
 | b=>b
def dem:List Nat->Env->Env
 | [],ρ=>ρ
 | j::js,ρ=>dem js (ρ.set j (demB ((ρ[j]?).getD .n)))
def visB:B->B
 | .o _ =>.n
 | b=>b
def vis (ρ:Env):Env:=ρ.map visB
def Sm.ifs (c:Ex)(a b:Sm):Sm:=⟨λρ N Q X=>c.run ρ (λd=>tst d (a.run ρ N Q X) (b.run ρ N Q X)) X,λρ N N' Q Q' X X' mn m mx q=>c.mono ρ _ _ X X' (λd q1=>z2z (a.mono ρ N N' Q Q' X X' mn m mx) (b.mono ρ N N' Q Q' X X' mn m mx) q1) mx q⟩
def Sm.ret (e:Ex):Sm:=⟨λρ _ Q X=>e.run ρ Q X,λρ N N' Q Q' X X' mn m mx q=>e.mono ρ _ _ X X' m mx q⟩
def Sm.ex (e:Ex):Sm:=⟨λρ N _ X=>e.run ρ (λ_=>N ρ) X,λρ N N' Q Q' X X' mn m mx q=>e.mono ρ _ _ X X' (λ_ q1=>mn _ q1) mx q⟩
def Sm.raise (x:Str):Sm:=⟨λ_ _ _ X=>X x,λρ N N' Q Q' X X' mn m mx q=>mx _ q⟩
def wh (c:Ex)(b:Sm)(N:Env->Prop)(Q:DK)(X:XP):Nat->Env->Prop
 | 0,_=>False
 | n+1,ρ=>c.run ρ (λd=>tst d (b.run ρ (wh c b N Q X n) Q X) (N ρ)) X
theorem zaB {c:Ex}{b:Sm}{N N':Env->Prop}{Q Q':DK}{X X':XP}(mn:∀ρ,N ρ->N' ρ)(m:∀d,Q d->Q' d)(mx:∀x,X x->X' x):∀(n:Nat) (ρ:Env),wh c b N Q X n ρ->wh c b N' Q' X' n ρ
 | 0,_,q=>q
 | n+1,ρ,q=>c.mono ρ _ _ X X' (λd q1=>z2z (b.mono ρ _ _ Q Q' X X' (λρ' q2=>zaB mn m mx n ρ' q2) m mx) (mn ρ) q1) mx q
def Sm.wh (c:Ex)(b:Sm):Sm:=⟨λρ N Q X=>∃n,Pu.wh c b N Q X n ρ,λρ N N' Q Q' X X' mn m mx ⟨n,q⟩=>⟨n,zaB mn m mx n ρ q⟩⟩
def forL (t:Tg)(b:Sm)(N:Env->Prop)(Q:DK)(X:XP):List D->Env->Prop
 | [],ρ=>N ρ
 | x::xs,ρ=>t.put x ρ λρ'=>b.run ρ' (forL t b N Q X xs) Q X
theorem z66 {t:Tg}{b:Sm}{N N':Env->Prop}{Q Q':DK}{X X':XP}(mn:∀ρ,N ρ->N' ρ)(m:∀d,Q d->Q' d)(mx:∀x,X x->X' x):∀(l:List D) (ρ:Env),forL t b N Q X l ρ->forL t b N' Q' X' l ρ
 | [],_,q=>mn _ q
 | x::xs,ρ,q=>Tg.put_mono (λρ' q1=>b.mono ρ' _ _ Q Q' X X' (λρ2 q2=>z66 mn m mx xs ρ2 q2) m mx q1) q
def Sm.for_ (js:List Nat)(t:Tg)(src:Ex)(b:Sm):Sm:=⟨λρ N Q X=>src.run (vis (dem js ρ)) (λd=>onL (items d) λl=>forL t b N Q X l (dem js ρ)) X,λρ N N' Q Q' X X' mn m mx q=>src.mono _ _ _ X X' (λd q1=>z6Z (λl q2=>z66 mn m mx l _ q2) q1) mx q⟩
def onR (ds:List D)(K:List D->Prop):Prop:=match ds with
 | [.int j]=>(-(2 ^ 62)<=j/\j<2 ^ 62)/\K ((List.range j.toNat).map λ(k:Nat) =>.int (k:Int))
 | [.int i,.int j]=>((-(2 ^ 62)<=i/\i<2 ^ 62) /\ -(2 ^ 62)<=j/\j<2 ^ 62)/\K ((List.range (j - i).toNat).map λ(k:Nat) =>.int (i+(k:Int)))
 | _=>False
def z9F {ds:List D}{K K':List D->Prop}(m:∀l,K l->K' l)(h:onR ds K):onR ds K':=by
 unfold onR at h ⊢
 split at h
 .exact⟨h.1,m _ h.2⟩
 .exact⟨h.1,m _ h.2⟩
 .exact h.elim
def Sm.forr (es:List Ex)(t:Tg)(b:Sm):Sm:=⟨λρ N Q X=>runs es ρ (λds=>onR ds λl=>forL t b N Q X l ρ) X,λρ N N' Q Q' X X' mn m mx q=>z2m es ρ _ _ X X' (λd q1=>z9F (λl q2=>z66 mn m mx l _ q2) q1) mx q⟩
def ownL (ρ:Env)(i:Nat)(K:List D->Prop):Prop:=match ρ[i]? with
 | some (.o (.lst l))=>K l
 | _=>False
def z7Z {ρ:Env}{i:Nat}{K K':List D->Prop}(m:∀l,K l->K' l)(h:ownL ρ i K):ownL ρ i K':=by
 unfold ownL at h ⊢
 split <;> rename_i e
 .rw[e] at h;exact m _ h
 .split at h
  .rename_i l e';exact(e l e').elim
  .exact h
def Sm.app (i:Nat)(e:Ex):Sm:=⟨λρ N _ X=>ownL ρ i λl=>e.run ρ (λd=>l.length<sizeLine/\Safe d ρ/\N (ρ.set i (.o (.lst (l++[d]))))) X,λρ N N' Q Q' X X' mn m mx q=>z7Z (λl q1=>e.mono ρ _ _ X X' (λd q2=>⟨q2.1,q2.2.1,mn _ q2.2.2⟩) mx q1) q⟩
def isLs (d:D)(K:List D->Prop):Prop:=match d with
 | .lst l=>K l
 | _=>False
def zc2 {d:D}{K K':List D->Prop}(m:∀j,K j->K' j)(h:isLs d K):isLs d K':=by
 cases d with
 | lst l=>exact m _ h
 | _=>exact h.elim
def onN (o:Option Nat)(K:Nat->Prop):Prop:=match o with
 | some j=>K j
 | none=>False
def zdu {o:Option Nat}{K K':Nat->Prop}(m:∀j,K j->K' j)(h:onN o K):onN o K':=by
 cases o with
 | none=>exact h
 | some l=>exact m _ h
def isI (d:D)(K:Int->Prop):Prop:=match d with
 | .int i=>K i
 | _=>False
def z9J {d:D}{K K':Int->Prop}(m:∀j,K j->K' j)(h:isI d K):isI d K':=by
 cases d with
 | int i=>exact m _ h
 | _=>exact h.elim
def Sm.put (i:Nat)(k e:Ex):Sm:=⟨λρ N _ X=>ownL ρ i λl=>e.run ρ (λd=>Safe d ρ/\k.run ρ (λkd=>isI kd λz=>onN (ixN l.length z) λj=>N (ρ.set i (.o (.lst (l.set j d))))) X) X,λρ N N' Q Q' X X' mn m mx q=>
 z7Z (λl q1=>e.mono ρ _ _ X X' (λd q2=>⟨q2.1,k.mono ρ _ _ X X' (λkd q3=>z9J (λz q4=>zdu (λj q5=>mn _ q5) q4) q3) mx q2.2⟩) mx q1) q⟩
def Fn.mk' (np nn:Nat)(b:Sm):Fn:=⟨λds Q X=>ds.length=np/\b.run (ds.map B.s++List.replicate (nn - np) .n) (λ_=>Q .non) Q X,λds Q Q' X X' m mx q=>⟨q.1,b.mono _ _ _ Q Q' X X' (λ_ q1=>m _ q1) m mx q.2⟩⟩
def Fn.mkN (np nn:Nat)(b:Sm):Fn:=⟨λds Q _=>ds.length=np/\b.run (ds.map B.s++List.replicate (nn - np) .n) (λ_=>Q .non) Q (λ_=>False),λds Q Q' X X' m mx q=>⟨q.1,b.mono _ _ _ Q Q' _ _ (λ_ q1=>m _ q1) m (λ_ z=>z) q.2⟩⟩
def Sm.calm (b:Sm):Sm:=⟨λρ N Q _=>b.run ρ N Q (λ_=>False),λρ N N' Q Q' X X' mn m mx q=>b.mono ρ N N' Q Q' _ _ mn m (λ_ z=>z) q⟩
def AbE (K:W.Frag)(mg:WmP)(G:Hp)(ρ:Pu.Env)(σ:L2.St):Prop:=∀i d,ρ.get i=some d->∃v,σ[i]? = some (some v)/\RD K mg G d v
def Gr (G H G':Hp):Prop:=Same G G'/\∀a o,G' a=some o->(∃u,G a=some u)\/H a=none
def Gr.refl {G H:Hp}:Gr G H G:=⟨Same.refl',λa o e =>.inl ⟨o,e⟩⟩
def Gr.trans {G H G1 H1 G2:Hp}(h:Gr G H G1)(k:Same H H1)(h':Gr G1 H1 G2):Gr G H G2:=⟨z03 h.1 h'.1,λa o e=>by
 rcases h'.2 a o e with ⟨u,q⟩ | q
 .exact h.2 a u q
 .refine .inr ?_
  cases z:H a with
  | none=>rfl
  | some w=>rw[k a w z] at q;cases q⟩
def Gr.new {G H:Hp}{p:Addr}{o:HO}(g:Same G H)(hp:H p=none):Gr G H (upd G p o):=by
 have gp:G p=none:=by
  cases e:G p with
  | none=>rfl
  | some u=>rw[g p u e] at hp;cases hp
 refine⟨z0P gp o,λa u e =>?_⟩
 by_cases ha:a=p
 .subst ha;exact .inr hp
 .rw[z02 ha] at e;exact .inl ⟨u,e⟩
def Kt (K:W.Frag)(mg:WmP)(G H:Hp)(Q0:DK)(Q:VK):Prop:=∀d v G' H',Q0 d->Gr G H G'->Same G' H'->Same H H'->RD K mg G' d v->Q v H'
def Kts (K:W.Frag)(mg:WmP)(G H:Hp)(Q0:List D->Prop)(Q:List V->Hp->Prop):Prop:=∀ds vs G' H',Q0 ds->Gr G H G'->Same G' H'->Same H H'->RDs K mg G' ds vs->Q vs H'
def Kx (mg:WmP)(H:Hp)(X0:XP)(E:XK):Prop:=∀x C H',X0 x->mg x=some (.ref C)->Same H H'->E (.ref C) none H'
def tx (K:W.Frag)(mg:WmP)(E:XK)(e:Ex):TE:=λσ H Q=>∃G ρ Q0 X0,Same G H/\AbE K mg G ρ σ/\e.run ρ Q0 X0/\Kt K mg G H Q0 Q/\Kx mg H X0 E
def txa (K:W.Frag)(mg:WmP)(E:XK)(es:List Ex):TA:=λσ H Q=>∃G ρ Q0 X0,Same G H/\AbE K mg G ρ σ/\runs es ρ Q0 X0/\Kts K mg G H Q0 Q/\Kx mg H X0 E
def tt (K:W.Frag)(mg:WmP)(E:XK)(e:Ex):TT:=λσ H Q=>∃G ρ Q0 X0,Same G H/\AbE K mg G ρ σ/\e.run ρ Q0 X0/\(∀d G' H',Q0 d->Gr G H G'->Same G' H'->Same H H'->∃b,d = .bl b/\Q b H')/\Kx mg H X0 E
section
variable {K:W.Frag}{mg:WmP}{G G' H H':Hp}{ρ:Pu.Env}{σ:L2.St}{Q0:DK}{Q:VK}{X0:XP}{E:XK}
theorem AbE.same (h:AbE K mg G ρ σ)(g:Same G G'):AbE K mg G' ρ σ:=λi d e=>by
 obtain⟨v,h1,h2⟩:=h i d e;exact⟨v,h1,h2.same g⟩
def Kt.same (h:Kt K mg G H Q0 Q)(g:Gr G H G')(k:Same H H'):Kt K mg G' H' Q0 Q:=λd v G1 H1 q a b c r=>h d v G1 H1 q (g.trans k a) b (z03 k c) r
def Kx.same (h:Kx mg H X0 E)(k:Same H H'):Kx mg H' X0 E:=λx C H1 q m c=>h x C H1 q m (z03 k c)
def Kx.no {E:XK}:Kx mg H (λ_=>False) E:=λ_ _ _ z=>z.elim
def Kt.now {d:D}{v:V}(h:Kt K mg G H Q0 Q)(g:Same G H)(q:Q0 d)(r:RD K mg G d v):Q v H:=h d v G H q Gr.refl g Same.refl' r
theorem Kt.new {d:D}{p:Addr}{o:HO}{v:V}(h:Kt K mg G H Q0 Q)(g:Same G H)(hp:H p=none)(q:Q0 d)(r:RD K mg (upd G p o) d v):Q v (upd H p o):=by
 have gp:G p=none:=by
  cases e:G p with
  | none=>rfl
  | some u=>rw[g p u e] at hp;cases hp
 refine h d v (upd G p o) (upd H p o) q (Gr.new g hp) (λb u e =>?_) (z0P hp o) r
 by_cases hb:b=p
 .subst hb;rw[z06] at e ⊢;exact e
 .rw[z02 hb] at e ⊢;exact g b u e
def z0p (g:Same G H){p:Addr}(hp:H p=none):G p=none:=by
 cases e:G p with
 | none=>rfl
 | some u=>rw[g p u e] at hp;cases hp
end
def Lk2 (K:W.Frag)(mg:WmP)(F:Fn)(r:R2):Prop:=∀(G H:Hp) (d1 d2:D) (v1 v2:V) (Q0:DK) (X0:XP) (Q:VK),Same G H->RD K mg G d1 v1->RD K mg G d2 v2->F.run [d1,d2] Q0 X0->Kt K mg G H Q0 Q->r v1 v2 H Q
def Lk1 (K:W.Frag)(mg:WmP)(F:Fn)(r:V->Hp->VK->Prop):Prop:=∀(G H:Hp) (d:D) (v:V) (Q0:DK) (X0:XP) (Q:VK),Same G H->RD K mg G d v->F.run [d] Q0 X0->Kt K mg G H Q0 Q->r v H Q
def LkN (K:W.Frag)(mg:WmP)(F:Fn)(r:List V->Hp->VK->Prop):Prop:=∀(G H:Hp) (ds:List D) (vs:List V) (Q0:DK) (X0:XP) (Q:VK),Same G H->RDs K mg G ds vs->F.run ds Q0 X0->Kt K mg G H Q0 Q->r vs H Q
section
variable {K:W.Frag}{mg:WmP}{E:XK}{σ:L2.St}{H:Hp}{Q:VK}{a b c:Ex}{F:Fn}{es:List Ex}
def tx2 {r:R2}(lk:Lk2 K mg F r)(h:tx K mg E (.op F [a,b]) σ H Q):tOp r (tx K mg E a) (tx K mg E b) σ H Q:=by
 k_all;refine⟨G,ρ,λd=>b.run ρ (λd'=>F.run [d,d'] Q0 X0) X0,X0,hs,ab,hr,?_,hx⟩;intro d v G1 H1 hb g1 g2 g3 rd;refine⟨G1,ρ,λd'=>F.run [d,d'] Q0 X0,X0,g2,ab.same g1.1,hb,?_,hx.same g3⟩;intro d' v' G2 H2 hF k1 k2 k3 rd';exact lk G2 H2 d d' v v' Q0 X0 Q k2 (rd.same k1.1) rd' hF (hk.same (g1.trans g3 k1) (z03 g3 k3))
def tx1 {r:V->Hp->VK->Prop}(lk:Lk1 K mg F r)(h:tx K mg E (.op F [a]) σ H Q):tUn r (tx K mg E a) σ H Q:=by
 k_all;refine⟨G,ρ,λd=>F.run [d] Q0 X0,X0,hs,ab,hr,?_,hx⟩;intro d v G1 H1 hF g1 g2 g3 rd;exact lk G1 H1 d v Q0 X0 Q g2 rd hF (hk.same g1 g3)
def txN {r:List V->Hp->VK->Prop}(lk:LkN K mg F r)(h:tx K mg E (.op F es) σ H Q):tCB r (txa K mg E es) σ H Q:=by
 k_all;refine⟨G,ρ,λds=>F.run ds Q0 X0,X0,hs,ab,hr,?_,hx⟩;intro ds vs G1 H1 hF g1 g2 g3 rd;exact lk G1 H1 ds vs Q0 X0 Q g2 rd hF (hk.same g1 g3)
end
theorem QE.imp {X:Cx}{e:Expr}{t t':TE}(h:QE X e t)(i:∀σ H Q,t' σ H Q->t σ H Q):QE X e t':=⟨h.p.imp i⟩
def QT.imp {X:Cx}{e:Expr}{t t':TT}(h:QT X e t)(i:∀σ H Q,t' σ H Q->t σ H Q):QT X e t':=⟨λpins s σ H Q I q=>h.p pins s σ H Q I (i σ H Q q)⟩
def QA.imp {X:Cx}{e:List Expr}{t t':TA}(h:QA X e t)(i:∀σ H Q,t' σ H Q->t σ H Q):QA X e t':=⟨λpos pins s σ H Q I q=>h.p pos pins s σ H Q I (i σ H Q q)⟩
def QW.imp {X:Cx}{e:Expr}{t t':TT}(h:QW X e t)(i:∀σ H Q,t' σ H Q->t σ H Q):QW X e t':=⟨λw pins s σ H Q I q=>h.p w pins s σ H Q I (i σ H Q q)⟩
def QS.imp {X:Cx}{e:Stmt}{t t':TS}(h:QS X e t)(i:∀D σ H,t' D σ H->t D σ H):QS X e t':=⟨λpins s σ H D I q=>h.p pins s σ H D I (i D σ H q)⟩
def QSs.imp {X:Cx}{e:List Stmt}{t t':TS}(h:QSs X e t)(i:∀D σ H,t' D σ H->t D σ H):QSs X e t':=⟨λpins s σ H D I q=>h.p pins s σ H D I (i D σ H q)⟩
def QI.imp {X:Cx}{tg e:Expr}{t t':TI}(h:QI X tg e t)(i:∀σ H R,t' σ H R->t σ H R):QI X tg e t':=⟨λpins s σ H R I q=>h.p pins s σ H R I (i σ H R q)⟩
abbrev QX (X:Cx)(E:XK)(e:Expr)(x:Ex):Prop:=QE X e (tx X.K X.mg E x)
abbrev QXT (X:Cx)(E:XK)(e:Expr)(x:Ex):Prop:=QT X e (tt X.K X.mg E x)
abbrev QXW (X:Cx)(E:XK)(e:Expr)(x:Ex):Prop:=QW X e (tt X.K X.mg E x)
abbrev QXA (X:Cx)(E:XK)(es:List Expr)(x:List Ex):Prop:=QA X es (txa X.K X.mg E x)
section
variable {X:Cx}{E:XK}{e a b c:Expr}{x y z:Ex}{pos:Pos}{es:List Expr}{xs:List Ex}{rest:List Expr}
def qx_c {d:D}{v:V}(h:QE X e (tC v))(r:∀G,RD X.K X.mg G d v):QX X E e (.c d):=QE.imp h <| by rintro σ H Q ⟨G,ρ,Q0,X0,hs,ab,hr,hk,hx⟩;exact hk.now hs hr (r G)
def qx_v {i:Nat}(h:QE X e (tVar i)):QX X E e (.v i):=QE.imp h <| by
 k_in;have hr':onV (ρ.get i) Q0:=hr
 cases q:ρ.get i with
 | none=>rw[q] at hr';exact hr'.elim
 | some d=>
  rw[q] at hr';obtain⟨v,h1,h2⟩:=ab i d q;exact⟨v,h1,hk.now hs hr' h2⟩
def z00 {i:Int}{j:Nat}:QX X E (.Constant (.int i) j pos) (.c (.int i)):=qx_c zhD λ_=>by rw[RD]
def z2Y {i:Bool}{j:Nat}:QX X E (.Constant (.bool i) j pos) (.c (.bl i)):=qx_c zjL λ_=>by rw[RD]
def z5a {j:Nat}:QX X E (.Constant .none j pos) (.c .non):=qx_c zhA λ_=>by rw[RD]
def z0a {i:Str}{j:Nat}:QX X E (.Constant (.str i) j pos) (.c (.str i)):=qx_c z2S λ_=>by rw[RD]
def zhj {op:Operator}{F:Fn}{r:R2}(ho:OpR X (binaryOp op) r)(lk:Lk2 X.K X.mg F r)(ha:QX X E a x)(hb:QX X E b y):QX X E (.BinOp a op b pos) (.op F [x,y]):=QE.imp (zhz ho ha hb) λ_ _ _ h=>tx2 lk h
def z8I {op:UnaryOp}{F:Fn}{r:V->Hp->VK->Prop}(ho:UnR X (unaryOp op) r)(lk:Lk1 X.K X.mg F r)(ha:QX X E a x):QX X E (.UnaryOp op a pos) (.op F [x]):=QE.imp (zjJ ho ha) λ_ _ _ h=>tx1 lk h
def zel {op:CmpOp}{F:Fn}{r:R2}(ho:OpR X (compareOp op) r)(lk:Lk2 X.K X.mg F r)(ha:QX X E a x)(hb:QX X E b y)(hm:behindInMarks op b=false):QX X E (.Compare a [op] [b] pos) (.op F [x,y]):=QE.imp (zfE ho ha hb hm) λ_ _ _ h=>tx2 lk h
def z8y {t:TE}{σ:L2.St}{H:Hp}{Q:Bool->Hp->Prop}(m:∀Q,tx X.K X.mg E x σ H Q->t σ H Q)(h:tt X.K X.mg E x σ H Q):zaK t σ H Q:=by
 k_all;refine m _ ⟨G,ρ,Q0,X0,hs,ab,hr,λd v G' H' q g1 g2 g3 rd =>?_,hx⟩;obtain⟨b,rfl,q'⟩:=hk d G' H' q g1 g2 g3;rw[RD] at rd;exact⟨b,rd,q'⟩
def zho {op:CmpOp}{F:Fn}{r:R2}(ho:OpR X (compareOp op) r)(lk:Lk2 X.K X.mg F r)(ha:QX X E a x)(hb:QX X E b y)(hm:behindInMarks op b=false):QXT X E (.Compare a [op] [b] pos) (.op F [x,y]):=QT.imp (zfn ho ha hb hm) λσ H Q h=>z8y (λ_ h=>tx2 lk h) h
def z0T (h:QX X E e x)(he:∀whole,isTrue e X.env whole=(do let v <- whole;standAt e.pos;holding [v] (truthy v)):=by intro _;rfl):QXT X E e x:=QT.imp (zhm h he) λσ H Q h=>by
 k_all;refine⟨G,ρ,Q0,X0,hs,ab,hr,λd v G' H' q g1 g2 g3 rd =>?_,hx⟩;obtain⟨b,rfl,q'⟩:=hk d G' H' q g1 g2 g3;rw[RD] at rd;exact⟨b,rd,q'⟩
def z16 (ha:QXT X E a x):QXT X E (.UnaryOp .Not a pos) (.not x):=QT.imp (zhn ha) <| by
 k_in;refine⟨G,ρ,_,X0,hs,ab,hr,λd G' H' q g1 g2 g3 =>?_,hx⟩
 cases d with
 | bl b=>
  obtain⟨b',e,q'⟩:=hk (.bl !b) G' H' q g1 g2 g3
  cases e
  exact⟨b,rfl,q'⟩
 | _=>exact q.elim
def z7P {op}(h:QX X E a x):QX X E (.BoolOp op [a] pos) x:=zen h
def z5b (ha:QX X E a x)(hb:QX X E (.BoolOp .And (b::rest) pos) y):QX X E (.BoolOp .And (a::b::rest) pos) (.and x y):=QE.imp (zep ha hb) <| by
 k_in;refine⟨G,ρ,_,X0,hs,ab,hr,λd v G' H' q g1 g2 g3 rd =>?_,hx⟩;obtain⟨k,rfl,q1,q2⟩:=z51 q;rw[RD] at rd;refine⟨k,rd,?_⟩
 cases k with
 | true=>exact iteT ⟨G',ρ,Q0,X0,g2,ab.same g1.1,q1 rfl,hk.same g1 g3,hx.same g3⟩
 | false=>exact iteF (hk (.bl false) (.bl false) G' H' (q2 rfl) g1 g2 g3 (by rw[RD]))
def z3B (ha:QXT X E a x):QXW X E (.BoolOp .And [a] pos) x:=zfm ha
def z2I (ha:QXT X E a x):QXW X E (.BoolOp .Or [a] pos) x:=zhk ha
def z4L (ha:QXT X E a x)(hb:QXW X E (.BoolOp .And (b::rest) pos) y):QXW X E (.BoolOp .And (a::b::rest) pos) (.and x y):=QW.imp (zhl ha hb) <| by
 k_in;refine⟨G,ρ,_,X0,hs,ab,hr,λd G' H' q g1 g2 g3 =>?_,hx⟩;obtain⟨k,rfl,q1,q2⟩:=z51 q;refine⟨k,rfl,?_⟩
 cases k with
 | true=>exact iteT ⟨G',ρ,Q0,X0,g2,ab.same g1.1,q1 rfl,λd G2 H2 q k1 k2 k3=>hk d G2 H2 q (g1.trans g3 k1) k2 (z03 g3 k3),hx.same g3⟩
 | false=>
  obtain⟨b',e,q'⟩:=hk (.bl false) G' H' (q2 rfl) g1 g2 g3
  cases e
  exact iteF q'
def z3d (ha:QXT X E a x)(hb:QXW X E (.BoolOp .Or (b::rest) pos) y):QXW X E (.BoolOp .Or (a::b::rest) pos) (.or x y):=QW.imp (zjH ha hb) <| by
 k_in;refine⟨G,ρ,_,X0,hs,ab,hr,λd G' H' q g1 g2 g3 =>?_,hx⟩;obtain⟨k,rfl,q1,q2⟩:=z51 q;refine⟨k,rfl,?_⟩
 cases k with
 | false=>exact iteF ⟨G',ρ,Q0,X0,g2,ab.same g1.1,q2 rfl,λd G2 H2 q k1 k2 k3=>hk d G2 H2 q (g1.trans g3 k1) k2 (z03 g3 k3),hx.same g3⟩
 | true=>
  obtain⟨b',e,q'⟩:=hk (.bl true) G' H' (q1 rfl) g1 g2 g3
  cases e
  exact iteT q'
def z3W:QXA X E [] []:=QA.imp z7U <| by rintro σ H Q ⟨G,ρ,Q0,X0,hs,ab,hr,hk,hx⟩;exact hk [] [] G H hr Gr.refl hs Same.refl' RDs.nil
def z5s (ha:QX X E e x)(hr:QXA X E es xs)(hs:starEach (e::es) X.env=(false,eval e X.env)::starEach es X.env:=by rfl):QXA X E (e::es) (x::xs):=QA.imp (z3X ha hr hs) <| by
 k_in;refine⟨G,ρ,_,X0,hs,ab,hr,λd v G' H' q g1 g2 g3 rd =>?_,hx⟩;refine⟨G',ρ,_,X0,g2,ab.same g1.1,q,λds vs G2 H2 q' k1 k2 k3 rds =>?_,hx.same g3⟩;exact hk (d::ds) (v::vs) G2 H2 q' (g1.trans g3 k1) k2 (z03 g3 k3) (RDs.cons (rd.same k1.1) rds)
def spP (K:W.Frag)(mg:WmP)(F:Fn):Sp:=λvs H Q E=>∃G ds Q0 X0,Same G H/\RDs K mg G ds vs/\F.run ds Q0 X0/\Kt K mg G H Q0 Q/\Kx mg H X0 E
def za7 {CX:CXT}{k:Nat}{ps:List Str}{F:Fn}{f:Str}{pp:Pos}(C:Cal X.prog X.w X.K X.mg X.base CX k f ps (spP X.K X.mg F))(hr:Room k X.A)(hx:z1j CX X E)(ha:QXA X E (e::es) xs)(hg:Gl X f:=by rfl)
  (hdb:(f == ("__debug__":Str))=false:=by decide) (he:starEach (e::es) X.env=(false,eval e X.env)::starEach es X.env:=by rfl) (hpl:(backTo pos (starEach es X.env)).any (·.1)=false:=by rfl):QX X E (.Call (.Name f pp) (e::es) [] pos) (.op F xs):=
 QE.imp (zfC C hr hx ha hg hdb he hpl) <| by
  k_in;refine⟨G,ρ,_,X0,hs,ab,hr,λds vs G' H' q g1 g2 g3 rds =>?_,hx⟩;show spP X.K X.mg F (vs++[]) H' Q E;rw[wQ];exact⟨G',ds,Q0,X0,g2,rds,q,hk.same g1 g3,hx.same g3⟩
def zjG {f:Str}{pp:Pos}{id:String}{F:Fn}{r:List V->Hp->VK->Prop}(hc:z1k X (.builtin id) r)(lk:LkN X.K X.mg F r)(hg:Gl X f)(hm:X.mg f=none)(hv:bootBuiltins f=some (.builtin id))(ha:QXA X E (e::es) xs)(hn:f≠"__name__":=by decide)(hdb:(f == ("__debug__":Str))=false:=by decide)
  (he:starEach (e::es) X.env=(false,eval e X.env)::starEach es X.env:=by rfl) (hpl:(backTo pos (starEach es X.env)).any (·.1)=false:=by rfl):QX X E (.Call (.Name f pp) (e::es) [] pos) (.op F xs):=
 QE.imp (z5t hc hg hm hv ha hn hdb he hpl) λ_ _ _ h=>txN lk h
def zhi {f:Str}{pp:Pos}{id:String}{F:Fn}{r:List V->Hp->VK->Prop}(hc:z1k X (.type id) r)(lk:LkN X.K X.mg F r)(hg:Gl X f)(hm:X.mg f=none)(hv:bootBuiltins f=some (.type id))(ha:QXA X E (e::es) xs)(hn:f≠"__name__":=by decide)(hdb:(f == ("__debug__":Str))=false:=by decide)
  (he:starEach (e::es) X.env=(false,eval e X.env)::starEach es X.env:=by rfl) (hpl:(backTo pos (starEach es X.env)).any (·.1)=false:=by rfl):QX X E (.Call (.Name f pp) (e::es) [] pos) (.op F xs):=
 QE.imp (z7T hc hg hm hv ha hn hdb he hpl) λ_ _ _ h=>txN lk h
end
def z2h (K:W.Frag)(mg:WmP)(G H:Hp)(a:Addr):D->Prop
 | .lst ds=>∃xs,H a=some (.lst xs)/\RDs K mg G ds xs
 | .dct ks vs=>∃xs,RDs K mg G vs xs/\((∃kvs:List (Key × V),H a=some (.dK kvs)/\ks=kvs.map (λp=>kD p.1)/\xs=kvs.map (·.2))\/∃kvs:List (List Key × V),H a=some (.dT kvs)/\kvs≠[]/\ks=kvs.map (λp =>.tup (p.1.map kD))/\xs=kvs.map (·.2))
 | _=>False
structure AbS (K:W.Frag)(mg:WmP)(H0 G0 G:Hp)(ρ:Pu.Env)(σ:L2.St)(H:Hp):Prop where
 len:σ.length=ρ.length
 s0:Same H0 H
 g0:Same G0 G
 g:Same G H
 nw:∀a o,G a=some o->(∃u,G0 a=some u)\/H0 a=none
 sh:∀(i:Nat) (d:D),ρ[i]? = some (B.s d)->∃v,σ[i]? = some (some v)/\RD K mg G d v
 ow:∀(i:Nat) (d:D),ρ[i]? = some (B.o d)->∃a,σ[i]? = some (some (V.ref a))/\G a=none/\H0 a=none/\z2h K mg G H a d
 ne:∀(i j:Nat) (d d':D) (a:Addr),i≠j->ρ[i]? = some (B.o d)->ρ[j]? = some (B.o d')->σ[i]? = some (some (V.ref a))->σ[j]? = some (some (V.ref a))->False
open Classical in
def plus (G H:Hp)(O:Addr->Prop):Hp:=λa=>if O a then H a else G a
open Classical in
def minus (G:Hp)(O:Addr->Prop):Hp:=λa=>if O a then none else G a
section
variable {K:W.Frag}{mg:WmP}{H0 G0 G G' H H' H1:Hp}{ρ:Pu.Env}{σ:L2.St}{O:Addr->Prop}
def z1h (g:Same G H):Same (plus G H O) H:=λa o e=>by
 unfold plus at e
 split at e
 .exact e
 .exact g a o e
def z1N (h:∀a,O a->G a=none):Same G (plus G H O):=λa o e=>by
 unfold plus
 split
 .rename_i z;rw[h a z] at e;cases e
 .exact e
def z5N {a:Addr}(h:O a):plus G H O a=H a:=by unfold plus;rw[if_pos h]
def z0V:Same (minus G O) G:=λa o e=>by
 unfold minus at e
 split at e
 .cases e
 .exact e
def z1r {a:Addr}(h:O a):minus G O a=none:=by unfold minus;rw[if_pos h]
def z1B {a:Addr}(h:¬ O a):minus G O a=G a:=by unfold minus;rw[if_neg h]
def z1X (g:Same G G')(h:∀a,O a->G a=none):Same G (minus G' O):=λa o e=>by
 by_cases z:O a
 .rw[h a z] at e;cases e
 .rw[z1B z];exact g a o e
theorem z2h.same {a:Addr}{d:D}(h:z2h K mg G H a d)(g:Same G G')(k:∀o,H a=some o->H1 a=some o):z2h K mg G' H1 a d:=by
 cases d with
 | lst ds=>
  obtain⟨xs,h1,h2⟩:=h;exact⟨xs,k _ h1,h2.same g⟩
 | dct ks vs=>
  obtain⟨xs,h1,h2⟩:=h;refine⟨xs,h1.same g,?_⟩
  rcases h2 with ⟨kvs,q,r⟩ | ⟨kvs,q,r⟩
  .exact .inl ⟨kvs,k _ q,r⟩
  .exact .inr ⟨kvs,k _ q,r⟩
 | _=>exact h.elim
theorem z2h.some {a:Addr}{d:D}(h:z2h K mg G H a d):∃o,H a=some o:=by
 cases d with
 | lst ds=>obtain⟨xs,h1,h2⟩:=h;exact⟨_,h1⟩
 | dct ks vs=>
  obtain⟨xs,h1,h2⟩:=h
  rcases h2 with ⟨kvs,q,r⟩ | ⟨kvs,q,r⟩ <;> exact⟨_,q⟩
 | _=>exact h.elim
def z2h.rd {a:Addr}{d:D}(h:z2h K mg G H a d)(g:Same G G')(e:G' a=H a):RD K mg G' d (.ref a):=by
 cases d with
 | lst ds=>
  obtain⟨xs,h1,h2⟩:=h;rw[RD];exact⟨a,xs,rfl,SqL.of (e.trans h1),h2.same g⟩
 | dct ks vs=>
  obtain⟨xs,h1,h2⟩:=h;rw[RD];refine⟨a,xs,rfl,h1.same g,?_⟩
  rcases h2 with ⟨kvs,q,r⟩ | ⟨kvs,q,r⟩
  .exact .inl ⟨kvs,.inl (e.trans q),r⟩
  .exact .inr ⟨kvs,e.trans q,r⟩
 | _=>exact h.elim
def OK1 (G:Hp)(O:Addr->Prop)(bL bD:Prop):Prop:=∀a,O a->G a=none\/((∃xs,G a=some (.lst xs))/\bL)\/(((∃kvs,G a=some (.dK kvs))\/∃kvs,G a=some (.dT kvs))/\bD)
def z1W {a:Addr}{o u:HO}{bL bD:Prop}(hO:OK1 G O bL bD)(h:G a=some o)(h1:∀xs,o = .lst xs->¬ bL)(h2:∀k,o = .dK k->¬ bD)(h3:∀k,o = .dT k->¬ bD):minus G O a=some o:=by
 by_cases z:O a
 .rcases hO a z with q | ⟨⟨xs,q⟩,b⟩ | ⟨⟨k,q⟩ | ⟨k,q⟩,b⟩
  .rw[q] at h;cases h
  .rw[q] at h;cases h;exact(h1 _ rfl b).elim
  .rw[q] at h;cases h;exact(h2 _ rfl b).elim
  .rw[q] at h;cases h;exact(h3 _ rfl b).elim
 .rw[z1B z];exact h
mutual
theorem RD.minus {bL bD:Prop}(hO:OK1 G O bL bD):∀(d:D) {v:V},(bL->noL d=true)->(bD->noD d=true)->RD K mg G d v->RD K mg (Pu.minus G O) d v
 | .non,_,_,_,h=>by simpa[RD] using h
 | .bl _,_,_,_,h=>by simpa[RD] using h
 | .int _,_,_,_,h=>by simpa[RD] using h
 | .str _,_,_,_,h=>by simpa[RD] using h
 | .fn _,_,_,_,h=>by rw[RD] at h ⊢;exact h
 | .exc _,_,_,_,h=>by
  rw[RD] at h ⊢;obtain⟨ea,C,h1,h2,h3⟩:=h;exact⟨ea,C,h1,z1W (u :=.lst []) hO h2 (λ_ z=>by cases z) (λ_ z=>by cases z) (λ_ z=>by cases z),h3⟩
 | .ptr _,_,_,_,h=>by rw[RD] at h ⊢;exact h
 | .fz _ vs,_,nl,nd,h=>by
  rw[RD] at h ⊢;obtain⟨a,xs,h1,h2,o,kvs,q,r⟩:=h;exact⟨a,xs,h1,RDs.minus hO vs (λb=>by have:=nl b;rw[noL] at this;cases this) (λb=>by have:=nd b;rw[noD] at this;cases this) h2,o,kvs,z1W (u :=.lst []) hO q (λ_ z=>by cases z) (λ_ z=>by cases z) (λ_ z=>by cases z),r⟩
 | .ins _ _ cs,_,nl,nd,h=>by
  rw[RD] at h ⊢;obtain⟨p,C,dx,xs,h1,h2,h3,h4⟩:=h;exact⟨p,C,dx,xs,h1,z1W (u :=.lst []) hO h2 (λ_ z=>by cases z) (λ_ z=>by cases z) (λ_ z=>by cases z),h3,RDs.minus hO cs (λb=>by have:=nl b;rw[noL] at this;cases this) (λb=>by have:=nd b;rw[noD] at this;cases this) h4⟩
 | .tup ds,_,nl,nd,h=>by
  rw[RD] at h ⊢;by_in;refine⟨a,xs,h1,?_,RDs.minus hO ds (λb=>by have:=nl b;rwa [noL] at this) (λb=>by have:=nd b;rwa [noD] at this) h3⟩
  rcases h2 with (h2 | ⟨o,h2⟩) | h2
  .exact .inl (.inl (z1W (u :=.lst []) hO h2 (λ_ z=>by cases z) (λ_ z=>by cases z) (λ_ z=>by cases z)))
  .exact .inl (.inr ⟨o,z1W (u :=.lst []) hO h2 (λ_ z=>by cases z) (λ_ z=>by cases z) (λ_ z=>by cases z)⟩)
  .exact .inr h2
 | .lst ds,_,nl,nd,h=>by
  rw[RD] at h ⊢;by_in;have nb:¬ bL:=λb=>by have:=nl b;rw[noL] at this;cases this
  refine⟨a,xs,h1,?_,RDs.minus hO ds (λb=>(nb b).elim) (λb=>by have:=nd b;rwa [noD] at this) h3⟩
  rcases h2 with (h2 | ⟨o,h2⟩) | h2
  .exact .inl (.inl (z1W (u :=.lst []) hO h2 (λ_ _=>nb) (λ_ z=>by cases z) (λ_ z=>by cases z)))
  .exact .inl (.inr ⟨o,z1W (u :=.lst []) hO h2 (λ_ z=>by cases z) (λ_ z=>by cases z) (λ_ z=>by cases z)⟩)
  .exact .inr h2
 | .dct ks vs,_,nl,nd,h=>by
  rw[RD] at h ⊢;obtain⟨a,xs,h1,h3,h4⟩:=h;have nb:¬ bD:=λb=>by have:=nd b;rw[noD] at this;cases this
  refine⟨a,xs,h1,RDs.minus hO vs (λb=>by have:=nl b;rwa [noL] at this) (λb=>(nb b).elim) h3,?_⟩
  rcases h4 with ⟨kvs,q,r⟩ | ⟨kvs,q,r⟩
  .exact .inl ⟨kvs,q.imp (λq=>z1W (u :=.lst []) hO q (λ_ z=>by cases z) (λ_ _=>nb) (λ_ _=>nb)) λ⟨o,q⟩=>⟨o,z1W (u :=.lst []) hO q (λ_ z=>by cases z) (λ_ z=>by cases z) (λ_ z=>by cases z)⟩,r⟩
  .exact .inr ⟨kvs,z1W (u :=.lst []) hO q (λ_ z=>by cases z) (λ_ _=>nb) (λ_ _=>nb),r⟩
theorem RDs.minus {bL bD:Prop}(hO:OK1 G O bL bD):∀(ds:List D) {xs:List V},(bL->noLs ds=true)->(bD->noDs ds=true)->RDs K mg G ds xs->RDs K mg (Pu.minus G O) ds xs
 | [],_,_,_,h=>by simpa[RDs] using h
 | d::ds,_,nl,nd,h=>by
  rw[RDs] at h ⊢;obtain⟨x,r,h1,h2,h3⟩:=h;exact⟨x,r,h1,RD.minus hO d (λb=>by have:=nl b;rw[noLs,wN] at this;exact this.1) (λb=>by have:=nd b;rw[noDs,wN] at this;exact this.1) h2,
   RDs.minus hO ds (λb=>by have:=nl b;rw[noLs,wN] at this;exact this.2) (λb=>by have:=nd b;rw[noDs,wN] at this;exact this.2) h3⟩
end
def z12 (ρ:Pu.Env)(σ:L2.St)(a:Addr):Prop:=∃(j:Nat) (d:D),ρ[j]? = some (B.o d)/\σ[j]? = some (some (V.ref a))
def AbS.free (h:AbS K mg H0 G0 G ρ σ H):∀a,z12 ρ σ a->G a=none:=by
 rintro a ⟨j,d,e,q⟩;obtain⟨b,q',hb,_⟩:=h.ow j d e;rw[q] at q';cases q';exact hb
def AbS.owned0 (h:AbS K mg H0 G0 G ρ σ H):∀a,z12 ρ σ a->H0 a=none:=by
 rintro a ⟨j,d,e,q⟩;obtain⟨b,q',hb,h0,_⟩:=h.ow j d e;rw[q] at q';cases q';exact h0
def AbS.nw1 {G1:Hp}(h:AbS K mg H0 G0 G ρ σ H)(g:Gr (plus G H (z12 ρ σ)) H G1):∀a o,G1 a=some o->(∃u,G0 a=some u)\/H0 a=none:=λa o e=>by
 rcases g.2 a o e with ⟨u,q⟩ | q
 .by_cases z:z12 ρ σ a
  .exact .inr (h.owned0 a z)
  .unfold plus at q;rw[if_neg z] at q;exact h.nw a u q
 .refine .inr ?_
  cases z:H0 a with
  | none=>rfl
  | some w=>rw[h.s0 a w z] at q;cases q
def AbS.nw2 {G1:Hp}(h:AbS K mg H0 G0 G ρ σ H)(g:Gr G H G1):∀a o,G1 a=some o->(∃u,G0 a=some u)\/H0 a=none:=λa o e=>by
 rcases g.2 a o e with ⟨u,q⟩ | q
 .exact h.nw a u q
 .refine .inr ?_
  cases z:H0 a with
  | none=>rfl
  | some w=>rw[h.s0 a w z] at q;cases q
def AbS.abe (h:AbS K mg H0 G0 G ρ σ H):AbE K mg (plus G H (z12 ρ σ)) ρ σ:=λi d e=>by
 rw[Env.get_eq] at e
 cases q:ρ[i]? with
 | none=>rw[q] at e;cases e
 | some b=>
  rw[q] at e
  cases b with
  | n=>cases e
  | s d'=>
   cases e
   obtain⟨v,h1,h2⟩:=h.sh i d q;exact⟨v,h1,h2.same (z1N h.free)⟩
  | o d'=>
   cases e
   obtain⟨a,h1,h2,h3,h4⟩:=h.ow i d q;exact⟨.ref a,h1,h4.rd (z1N h.free) (z5N ⟨i,d,q,h1⟩)⟩
theorem AbS.vis (h:AbS K mg H0 G0 G ρ σ H):AbE K mg G (vis ρ) σ:=λi d e=>by
 rw[Env.get_eq] at e;unfold Pu.vis at e;rw[wR] at e
 cases q:ρ[i]? with
 | none=>rw[q] at e;cases e
 | some b=>
  rw[q] at e
  cases b with
  | n=>cases e
  | s d'=>
   cases e
   exact h.sh i d q
  | o d'=>cases e
theorem Safe.get {d:D}:∀{ρ:Pu.Env}{j:Nat}{b:B},Safe d ρ->ρ[j]? = some b->zgU d b
 | [],_,_,_,e=>by simp at e
 | c::r,0,b,h,e=>by simp at e;subst e;exact h.1
 | c::r,j+1,b,h,e=>Safe.get (j:=j) h.2 (by simpa using e)
def zew {G1:Hp}{d:D}{I:Nat->Prop}(h:AbS K mg H0 G0 G ρ σ H)(g2:Same G1 H1)(g3:Same H H1):
  OK1 G1 (λa=>∃(j:Nat) (d:D),I j/\ρ[j]? = some (B.o d)/\σ[j]? = some (some (V.ref a))) (∃(j:Nat) (l:List D),I j/\ρ[j]? = some (B.o (.lst l))) (∃(j:Nat) (k v:List D),I j/\ρ[j]? = some (B.o (.dct k v))):=by
 rintro a ⟨j,d',hI,e,q⟩;obtain⟨b,q',hb,h0,hw⟩:=h.ow j d' e;rw[q] at q';cases q'
 cases e1:G1 a with
 | none=>exact .inl rfl
 | some o=>
  have e2:=g2 a o e1
  cases d' with
  | lst ds=>
   obtain⟨xs,h1,h2⟩:=hw;rw[g3 a _ h1] at e2
   cases e2
   exact .inr (.inl ⟨⟨xs,rfl⟩,j,ds,hI,e⟩)
  | dct ks vs=>
   obtain⟨xs,h1,h2⟩:=hw
   rcases h2 with ⟨kvs,z,r⟩ | ⟨kvs,z,r⟩
   .rw[g3 a _ z] at e2
    cases e2
    exact .inr (.inr ⟨.inl ⟨kvs,rfl⟩,j,ks,vs,hI,e⟩)
   .rw[g3 a _ z] at e2
    cases e2
    exact .inr (.inr ⟨.inr ⟨kvs,rfl⟩,j,ks,vs,hI,e⟩)
  | _=>exact hw.elim
def z4I {G1:Hp}{d:D}{v:V}{i:Nat}(h:AbS K mg H0 G0 G ρ σ H)(g2:Same G1 H1)(g3:Same H H1)(sf:Safe d (ρ.set i .n))(rd:RD K mg G1 d v):
  RD K mg (Pu.minus G1 (λa=>∃(j:Nat) (d:D),j≠i/\ρ[j]? = some (B.o d)/\σ[j]? = some (some (V.ref a)))) d v:=by
 refine RD.minus (zew (d:=d) (I:=λj=>j≠i) h g2 g3) d (λ⟨j,l,hj,e⟩ =>?_) (λ⟨j,k,v,hj,e⟩ =>?_) rd
 .exact Safe.get sf (j:=j) (b :=.o (.lst l)) (by rw[wj (vk hj)];exact e)
 .exact Safe.get sf (j:=j) (b :=.o (.dct k v)) (by rw[wj (vk hj)];exact e)
def z8B {G1:Hp}{d:D}{v:V}(h:AbS K mg H0 G0 G ρ σ H)(g2:Same G1 H1)(g3:Same H H1)(sf:Safe d ρ)(rd:RD K mg G1 d v):
  RD K mg (Pu.minus G1 (λa=>∃(j:Nat) (d:D),True/\ρ[j]? = some (B.o d)/\σ[j]? = some (some (V.ref a)))) d v:=by
 refine RD.minus (zew (d:=d) (I:=λ_=>True) h g2 g3) d (λ⟨j,l,hj,e⟩ =>?_) (λ⟨j,k,v,hj,e⟩ =>?_) rd
 .exact Safe.get sf (j:=j) (b :=.o (.lst l)) e
 .exact Safe.get sf (j:=j) (b :=.o (.dct k v)) e
def AbS.put {G1:Hp}{i:Nat}{d:D}{v:V}(h:AbS K mg H0 G0 G ρ σ H)(nw:∀a o,G1 a=some o->(∃u,G0 a=some u)\/H0 a=none)(g1:Same G G1)(g2:Same G1 H1)(g3:Same H H1)(hO:∀(j:Nat) (d':D) (a:Addr),j≠i->ρ[j]? = some (B.o d')->σ[j]? = some (some (V.ref a))->G1 a=none)(rd:RD K mg G1 d v):
  AbS K mg H0 G0 G1 (ρ.set i (.s d)) (σ.set i (some v)) H1 where
 len:=by simp[h.len]
 s0:=z03 h.s0 g3
 g0:=z03 h.g0 g1
 g:=g2
 nw:=nw
 sh:=λj e q=>by
  mg_lt
  .subst hj;have hl:j < ρ.length:=by
    have:=(wg.mp q).1;kw_lk
   rw[wD hl] at q
   cases q
   exact⟨v,by rw[wD (by rw[h.len];exact hl)],rd⟩
  .rw[wj (vk hj)] at q;obtain⟨w,h1,h2⟩:=h.sh j e q;exact⟨w,by rw[wj (vk hj)];exact h1,h2.same g1⟩
 ow:=λj e q=>by
  mg_lt
  .subst hj;have hl:j < ρ.length:=by
    have:=(wg.mp q).1;kw_lk
   rw[wD hl] at q
   cases q
  .rw[wj (vk hj)] at q;obtain⟨a,h1,h2,h3,h4⟩:=h.ow j e q;exact⟨a,by rw[wj (vk hj)];exact h1,hO j e a hj q h1,h3,h4.same g1 (g3 a)⟩
 ne:=λj k e e' a hjk q q' s s'=>by
  have hl:∀{j:Nat}{e:D},(ρ.set i (.s d))[j]? = some (B.o e)->j≠i:=λ{j e} q hj=>by
   subst hj;have hl:j < ρ.length:=by
    have:=(wg.mp q).1;kw_lk
   rw[wD hl] at q
   cases q
  have hj:=hl q;have hk:=hl q';rw[wj (vk hj)] at q s;rw[wj (vk hk)] at q' s';exact h.ne j k e e' a hjk q q' s s'
def AbS.own {G1:Hp}{i:Nat}{d:D}{a:Addr}(h:AbS K mg H0 G0 G ρ σ H)(nw:∀a o,G1 a=some o->(∃u,G0 a=some u)\/H0 a=none)(g1:Same G G1)(g2:Same G1 H1)(g3:Same H H1)(hO:∀(j:Nat) (d':D) (a:Addr),j≠i->ρ[j]? = some (B.o d')->σ[j]? = some (some (V.ref a))->G1 a=none)(hn:H a=none)(ga:G1 a=none)(hw:z2h K mg G1 H1 a d):
  AbS K mg H0 G0 G1 (ρ.set i (.o d)) (σ.set i (some (.ref a))) H1 where
 len:=by simp[h.len]
 s0:=z03 h.s0 g3
 g0:=z03 h.g0 g1
 g:=g2
 nw:=nw
 sh:=λj e q=>by
  mg_lt
  .subst hj;have hl:j < ρ.length:=by
    have:=(wg.mp q).1;kw_lk
   rw[wD hl] at q
   cases q
  .rw[wj (vk hj)] at q;obtain⟨w,h1,h2⟩:=h.sh j e q;exact⟨w,by rw[wj (vk hj)];exact h1,h2.same g1⟩
 ow:=λj e q=>by
  mg_lt
  .subst hj;have hl:j < ρ.length:=by
    have:=(wg.mp q).1;kw_lk
   rw[wD hl] at q
   cases q
   refine⟨a,by rw[wD (by rw[h.len];exact hl)],ga,?_,hw⟩;exact z0p h.s0 hn
  .rw[wj (vk hj)] at q;obtain⟨b,h1,h2,h3,h4⟩:=h.ow j e q;exact⟨b,by rw[wj (vk hj)];exact h1,hO j e b hj q h1,h3,h4.same g1 (g3 b)⟩
 ne:=λj k e e' b hjk q q' s s'=>by
  have old:∀{j:Nat}{e:D},j≠i->(ρ.set i (.o d))[j]? = some (B.o e)->(σ.set i (some (.ref a)))[j]? = some (some (V.ref b))->ρ[j]? = some (B.o e)/\σ[j]? = some (some (V.ref b)):=λ{j e} hj q s=>by
   rw[wj (vk hj)] at q s;exact⟨q,s⟩
  have new:∀{j:Nat}{e:D},j=i->(ρ.set i (.o d))[j]? = some (B.o e)->(σ.set i (some (.ref a)))[j]? = some (some (V.ref b))->b=a:=λ{j e} hj q s=>by
   subst hj;have hl:j < σ.length:=by
    have:=(wg.mp s).1;kw_lk
   rw[wD hl] at s
   cases s;rfl
  have none:∀{j:Nat}{e:D},ρ[j]? = some (B.o e)->σ[j]? = some (some (V.ref b))->b≠a:=λ{j e} q s z=>by
   obtain⟨b',h1,h2,h3,h4⟩:=h.ow j e q;rw[s] at h1;cases h1;obtain⟨o,ho⟩:=h4.some;rw[z,hn] at ho;cases ho
  mg_lt
  .have hb:=new hj q s;have hk:k≠i:=λz=>hjk (hj.trans z.symm);obtain⟨q1,s1⟩:=old hk q' s';exact none q1 s1 hb
  .obtain⟨q1,s1⟩:=old hj q s
   by_cases hk:k=i
   .exact none q1 s1 (new hk q' s')
   .obtain⟨q2,s2⟩:=old hk q' s';exact h.ne j k e e' b hjk q1 q2 s1 s2
def AbS.wr {G1:Hp}{i:Nat}{d d':D}{a:Addr}{o:HO}(h:AbS K mg H0 G0 G ρ σ H)(nw:∀a o,G1 a=some o->(∃u,G0 a=some u)\/H0 a=none)(g1:Same G G1)(g2:Same G1 H1)(g3:Same H H1)(hO:∀(j:Nat) (d':D) (a:Addr),ρ[j]? = some (B.o d')->σ[j]? = some (some (V.ref a))->G1 a=none)(hi:ρ[i]? = some (B.o d))(hs:σ[i]? = some (some (V.ref a)))
  (hw:z2h K mg G1 (upd H1 a o) a d'):AbS K mg H0 G0 G1 (ρ.set i (.o d')) σ (upd H1 a o):=by
 obtain⟨a',e1,ga,h0a,hw0⟩:=h.ow i d hi;rw[hs] at e1;cases e1;have hl:i < ρ.length:=(wg.mp hi).1;refine⟨by simp[h.len],λb u e =>?_,z03 h.g0 g1,λb u e =>?_,nw,λj e q =>?_,λj e q =>?_,λj k e e' b hjk q q' s s' =>?_⟩
 .have hb:b≠a:=λz=>by rw[z,h0a] at e;cases e
  rw[z02 hb];exact g3 b u (h.s0 b u e)
 .have hb:b≠a:=λz=>by rw[z,hO i d a hi hs] at e;cases e
  rw[z02 hb];exact g2 b u e
 .mg_lt
  .subst hj;rw[wD hl] at q;cases q
  .rw[wj (vk hj)] at q;obtain⟨w,h1,h2⟩:=h.sh j e q;exact⟨w,h1,h2.same g1⟩
 .mg_lt
  .subst hj;rw[wD hl] at q;cases q;exact⟨a,hs,hO j d a hi hs,h0a,hw⟩
  .rw[wj (vk hj)] at q;obtain⟨b,h1,h2,h3,h4⟩:=h.ow j e q;have hb:b≠a:=λz=>by subst z;exact h.ne j i e d b hj q hi h1 hs
   exact⟨b,h1,hO j e b q h1,h3,h4.same g1 (λu e=>by rw[z02 hb];exact g3 b u e)⟩
 .have old:∀{j:Nat}{e:D},(ρ.set i (.o d'))[j]? = some (B.o e)->∃e',ρ[j]? = some (B.o e'):=λ{j e} q=>by
   mg_lt
   .subst hj;exact⟨d,hi⟩
   .rw[wj (vk hj)] at q;exact⟨e,q⟩
  obtain⟨x,q1⟩:=old q;obtain⟨y,q2⟩:=old q';exact h.ne j k x y b hjk q1 q2 s s'
def AbS.dem1 (h:AbS K mg H0 G0 G ρ σ H)(j:Nat):∃G',AbS K mg H0 G0 G' (ρ.set j (demB ((ρ[j]?).getD .n))) σ H/\Same G G':=by
 cases q:ρ[j]? with
 | none=>
  have:ρ.set j (demB ((none:Option B).getD .n))=ρ:=by
   apply List.set_eq_of_length_le;exact List.getElem?_eq_none_iff.mp q
  rw[this];exact⟨G,h,Same.refl'⟩
 | some b=>
  have hl:j < ρ.length:=(wg.mp q).1;have same:∀b',b=b'->demB b'=b'->∃G',AbS K mg H0 G0 G' (ρ.set j (demB ((some b).getD .n))) σ H/\Same G G':=λb' e e'=>by
   subst e;have:ρ.set j (demB ((some b).getD .n))=ρ:=by
    show ρ.set j (demB b)=ρ;rw[e'];apply List.ext_getElem?;intro k
    by_cases hk:k=j
    .subst hk;rw[wD hl,q]
    .rw[wj (vk hk)]
   rw[this];exact⟨G,h,Same.refl'⟩
  cases b with
  | n=>exact same .n rfl rfl
  | s d=>exact same (.s d) rfl rfl
  | o d=>
   obtain⟨a,s1,ga,h0a,hw⟩:=h.ow j d q;show ∃G',AbS K mg H0 G0 G' (ρ.set j (.s d)) σ H/\Same G G';have lp:Same G (plus G H (· = a)):=z1N (λb z=>by rw[z];exact ga);refine⟨plus G H (· = a),⟨by simp[h.len],h.s0,z03 h.g0 lp,z1h h.g,λb o e=>(by
     by_cases hb:b=a
     .exact .inr (by rw[hb];exact h0a)
     .unfold plus at e;rw[if_neg hb] at e;exact h.nw b o e),λk e z =>?_,λk e z =>?_,λk l e e' b hkl z z' s s' =>?_⟩,lp⟩
   .by_cases hk:k=j
    .subst hk;rw[wD hl] at z;cases z;exact⟨.ref a,s1,hw.rd lp (z5N rfl)⟩
    .rw[wj (vk hk)] at z;obtain⟨w,h1,h2⟩:=h.sh k e z;exact⟨w,h1,h2.same lp⟩
   .by_cases hk:k=j
    .subst hk;rw[wD hl] at z;cases z
    .rw[wj (vk hk)] at z;obtain⟨b,h1,h2,h3,h4⟩:=h.ow k e z;have hb:b≠a:=λy=>by subst y;exact h.ne k j e d b hk z q h1 s1
     refine⟨b,h1,?_,h3,h4.same lp (λ_ e=>e)⟩;unfold plus;rw[if_neg hb];exact h2
   .have old:∀{k:Nat}{e:D},(ρ.set j (.s d))[k]? = some (B.o e)->ρ[k]? = some (B.o e):=λ{k e} z=>by
     by_cases hk:k=j
     .subst hk;rw[wD hl] at z;cases z
     .rw[wj (vk hk)] at z;exact z
    exact h.ne k l e e' b hkl (old z) (old z') s s'
theorem AbS.dem (js:List Nat):∀{G:Hp}{ρ:Pu.Env},AbS K mg H0 G0 G ρ σ H->∃G',AbS K mg H0 G0 G' (dem js ρ) σ H/\Same G G':=by
 induction js with
 | nil=>intro G ρ h;exact⟨G,h,Same.refl'⟩
 | cons j js ih=>
  intro G ρ h;obtain⟨G1,h1,g1⟩:=h.dem1 j;obtain⟨G2,h2,g2⟩:=ih h1;exact⟨G2,h2,z03 g1 g2⟩
end
def Kn (K:W.Frag)(mg:WmP)(H0 G0 G:Hp)(N0:Pu.Env->Prop)(N:L2.St->Hp->Prop):Prop:=∀ρ' σ' H' G',N0 ρ'->AbS K mg H0 G0 G' ρ' σ' H'->Same G G'->N σ' H'
def Kr (K:W.Frag)(mg:WmP)(H0 G0:Hp)(R0:DK)(R:VK):Prop:=∀d v G' H',R0 d->Gr G0 H0 G'->Same G' H'->Same H0 H'->RD K mg G' d v->R v H'
def ts (K:W.Frag)(mg:WmP)(E:XK)(t:Sm):TS:=λD σ H=>∃H0 G0 G ρ N0 R0 X0,AbS K mg H0 G0 G ρ σ H/\t.run ρ N0 R0 X0/\Kn K mg H0 G0 G N0 D.nx/\Kr K mg H0 G0 R0 D.rt/\Kx mg H0 X0 E
def Kn.same {K:W.Frag}{mg:WmP}{H0 G0 G G1:Hp}{N0:Pu.Env->Prop}{N:L2.St->Hp->Prop}(h:Kn K mg H0 G0 G N0 N)(g:Same G G1):Kn K mg H0 G0 G1 N0 N:=λρ' σ' H' G' a b c=>h ρ' σ' H' G' a b (z03 g c)
abbrev QZ (X:Cx)(E:XK)(st:Stmt)(t:Sm):Prop:=QS X st (ts X.K X.mg E t)
abbrev QZs (X:Cx)(E:XK)(st:List Stmt)(t:Sm):Prop:=QSs X st (ts X.K X.mg E t)
section
variable {X:Cx}{E:XK}{st:Stmt}{rest body la lb:List Stmt}{t u:Sm}{e a b c:Expr}{x y z:Ex}{pos:Pos}
def z0k:QZs X E [] .skip:=QSs.imp z8K <| by rintro D σ H ⟨H0,G0,G,ρ,N0,R0,X0,ab,hr,hn,hR,hx⟩;exact hn ρ σ H G hr ab Same.refl'
def z0J (h:QZ X E st t):QZs X E [st] t:=z4M h
def z07 (h:QZ X E st t)(h':QZs X E rest u):QZs X E (st::rest) (.seq t u):=QSs.imp (z9t h h') λD σ H ⟨H0,G0,G,ρ,N0,R0,X0,ab,hr,hn,hR,hx⟩=>
 ⟨H0,G0,G,ρ,λρ'=>u.run ρ' N0 R0 X0,R0,X0,ab,hr,λρ' σ' H' G' q ab' g=>⟨H0,G0,G',ρ',N0,R0,X0,ab',q,hn.same g,hR,hx⟩,hR,hx⟩
def zgw {K:W.Frag}{mg:WmP}{H0 G0 G H:Hp}{ρ:Pu.Env}{σ:L2.St}{Q0:DK}{X0:XP}{Q:VK}(ab:AbS K mg H0 G0 G ρ σ H)(hr:x.run ρ Q0 X0)(hx:Kx mg H0 X0 E)(hk:Kt K mg (plus G H (z12 ρ σ)) H Q0 Q):tx K mg E x σ H Q:=
 ⟨plus G H (z12 ρ σ),ρ,Q0,X0,z1h ab.g,ab.abe,hr,hk,hx.same ab.s0⟩
def AbS.back {K:W.Frag}{mg:WmP}{H0 G0 G G1 H H1:Hp}{ρ:Pu.Env}{σ:L2.St}(ab:AbS K mg H0 G0 G ρ σ H)(g1:Gr (plus G H (z12 ρ σ)) H G1)(g2:Same G1 H1)(g3:Same H H1):AbS K mg H0 G0 (minus G1 (z12 ρ σ)) ρ σ H1/\Same G (minus G1 (z12 ρ σ)):=by
 have hf:=ab.free;have lm:Same G (minus G1 (z12 ρ σ)):=z1X (z03 (z1N hf) g1.1) hf;exact⟨⟨ab.len,z03 ab.s0 g3,z03 ab.g0 lm,z03 z0V g2,λa o e=>ab.nw1 g1 a o (z0V a o e),λi d e=>by
   obtain⟨v,h1,h2⟩:=ab.sh i d e;exact⟨v,h1,h2.same lm⟩,λi d e=>by
   obtain⟨a,h1,h2,h3,h4⟩:=ab.ow i d e;exact⟨a,h1,z1r ⟨i,d,e,h1⟩,h3,h4.same lm (g3 a)⟩,ab.ne⟩,lm⟩
def zgx {K:W.Frag}{mg:WmP}{H0 G0 G H:Hp}{ρ:Pu.Env}{σ:L2.St}{A B:Prop}{X0:XP}{Q:Bool->Hp->Prop}(ab:AbS K mg H0 G0 G ρ σ H)(hr:x.run ρ (λd=>tst d A B) X0)(hx:Kx mg H0 X0 E)
  (ha:A->∀H' G',AbS K mg H0 G0 G' ρ σ H'->Same G G'->Q true H') (hb:B->∀H' G',AbS K mg H0 G0 G' ρ σ H'->Same G G'->Q false H'):tt K mg E x σ H Q:=by
 refine⟨plus G H (z12 ρ σ),ρ,_,X0,z1h ab.g,ab.abe,hr,λd G1 H1 q g1 g2 g3 =>?_,hx.same ab.s0⟩;obtain⟨b,rfl,q1,q2⟩:=z51 q;refine⟨b,rfl,?_⟩;k_asm
 cases b with
 | true=>exact ha (q1 rfl) H1 _ ab' lm
 | false=>exact hb (q2 rfl) H1 _ ab' lm
def z0Z (hc:QXT X E c z)(ha:QZs X E la t)(hb:QZs X E lb u):QZ X E (.If c la lb pos) (.ifs z t u):=QS.imp (zfq hc ha hb) <| by
 k_go0;refine zgx ab hr hx (λq H' G' ab' g =>?_) (λq H' G' ab' g =>?_)
 .exact iteT ⟨H0,G0,G',ρ,N0,R0,X0,ab',q,hn.same g,hR,hx⟩
 .exact iteF ⟨H0,G0,G',ρ,N0,R0,X0,ab',q,hn.same g,hR,hx⟩
def zbg (he:QX X E e x):QZ X E (.Return (some e) pos) (.ret x):=QS.imp (zbn he) λD σ H ⟨H0,G0,G,ρ,N0,R0,X0,ab,hr,hn,hR,hx⟩=>
 zgw ab hr hx λd v G1 H1 q g1 g2 g3 rd=>hR d v G1 H1 q ⟨z03 ab.g0 (z03 (z1N ab.free) g1.1),ab.nw1 g1⟩ g2 (z03 ab.s0 g3) rd
def z2G (i:Nat)(ρ:Pu.Env)(σ:L2.St)(a:Addr):Prop:=∃(j:Nat) (d:D),j≠i/\ρ[j]? = some (B.o d)/\σ[j]? = some (some (V.ref a))
def z1I {i:Nat}{tg:Expr}(h:QS X (.Assign [tg] e pos) (tAsg (tx X.K X.mg E x) (z2y i))):QZ X E (.Assign [tg] e pos) (.set i x):=QS.imp h λD σ H ⟨H0,G0,G,ρ,N0,R0,X0,ab,hr,hn,hR,hx⟩=>
 zgw ab hr hx λd v G1 H1 q g1 g2 g3 rd=>by
  have hf:∀a,z2G i ρ σ a->G a=none:=λa ⟨j,d,_,h1,h2⟩=>ab.free a ⟨j,d,h1,h2⟩;have lm:Same G (minus G1 (z2G i ρ σ)):=z1X (z03 (z1N ab.free) g1.1) hf;exact hn (ρ.set i (.s d)) (σ.set i (some v)) H1 _ q.2 (ab.put (λa o e=>ab.nw1 g1 a o (z0V a o e)) lm (z03 z0V g2) g3 (λj d' a hj e s=>z1r ⟨j,d',hj,e,s⟩) (z4I ab g2 g3 q.1 rd)) lm
def Kf (K:W.Frag)(mg:WmP)(G H:Hp)(Q0:DK)(Q:VK):Prop:=∀d a G' H',Q0 d->Gr G H G'->Same G' H'->Same H H'->H a=none->G' a=none->z2h K mg G' H' a d->Q (.ref a) H'
def tf (K:W.Frag)(mg:WmP)(E:XK)(e:Ex):TE:=λσ H Q=>∃G ρ Q0 X0,Same G H/\AbE K mg G ρ σ/\e.run ρ Q0 X0/\Kf K mg G H Q0 Q/\Kx mg H X0 E
abbrev QF (X:Cx)(E:XK)(e:Expr)(x:Ex):Prop:=QE X e (tf X.K X.mg E x)
def Kt.kf {K:W.Frag}{mg:WmP}{G H:Hp}{Q0:DK}{Q:VK}(h:Kt K mg G H Q0 Q):Kf K mg G H Q0 Q:=λd a G' H' q g1 g2 g3 hn gn hw=>by
 obtain⟨o,ho⟩:=hw.some;have lp:Same G' (upd G' a o):=z0P gn o;refine h d (.ref a) (upd G' a o) H' q ⟨z03 g1.1 lp,λb u e =>?_⟩ (λb u e =>?_) g3 (hw.rd lp (by rw[z06];exact ho.symm))
 .by_cases hb:b=a
  .subst hb;exact .inr hn
  .rw[z02 hb] at e;exact g1.2 b u e
 .by_cases hb:b=a
  .subst hb;rw[z06] at e;rw[ho];exact e
  .rw[z02 hb] at e;exact g2 b u e
def QF.qx (h:QF X E e x):QX X E e x:=QE.imp h λσ H Q ⟨G,ρ,Q0,X0,hs,ab,hr,hk,hx⟩=>⟨G,ρ,Q0,X0,hs,ab,hr,hk.kf,hx⟩
def zbh {i:Nat}{tg:Expr}(h:QS X (.Assign [tg] e pos) (tAsg (tf X.K X.mg E x) (z2y i))):QZ X E (.Assign [tg] e pos) (.own i x):=QS.imp h <| by
 k_go0;refine⟨plus G H (z12 ρ σ),ρ,_,X0,z1h ab.g,ab.abe,hr,λd a G1 H1 q g1 g2 g3 ha ga hw =>?_,hx.same ab.s0⟩;have hf:∀a,z2G i ρ σ a->G a=none:=λa ⟨j,d,_,h1,h2⟩=>ab.free a ⟨j,d,h1,h2⟩;have lm:Same G (minus G1 (z2G i ρ σ)):=z1X (z03 (z1N ab.free) g1.1) hf;have items:∀(l:List Pu.D) (xs:List V),(∀x∈l,Safe x (ρ.set i .n))->RDs X.K X.mg G1 l xs->RDs X.K X.mg (minus G1 (z2G i ρ σ)) l xs:=by
  intro l
  induction l with
  | nil=>intro xs _ h;rw[RDs] at h ⊢;exact h
  | cons y l ih=>
   intro xs hs h;rw[RDs] at h ⊢;obtain⟨v,r,h1,h2,h3⟩:=h;exact⟨v,r,h1,z4I ab g2 g3 (hs y ww) h2,ih r (λz hz=>hs z (we _ hz)) h3⟩
 have na:minus G1 (z2G i ρ σ) a=none:=by
  unfold minus
  split
  .rfl
  .exact ga
 refine hn (ρ.set i (.o d)) (σ.set i (some (.ref a))) H1 _ q.2 (ab.own (λa o e=>ab.nw1 g1 a o (z0V a o e)) lm (z03 z0V g2) g3 (λj d' a hj e s=>z1r ⟨j,d',hj,e,s⟩) ha na ?_) lm;have q1:=q.1
 cases d with
 | lst l=>
  obtain⟨xs,h1,h2⟩:=hw;exact⟨xs,h1,items l xs q1 h2⟩
 | dct ks vs=>
  obtain⟨xs,h1,h2⟩:=hw;exact⟨xs,items vs xs q1 h1,h2⟩
 | _=>exact q1.elim
end
section
variable {X:Cx}{E:XK}{st:Stmt}{rest body la lb:List Stmt}{t u:Sm}{e a b c tg iter:Expr}{x y z:Ex}{pos:Pos}
def z6Y {o:Option (List D)}{Q:List D->Prop}(h:onL o Q):∃l,o=some l/\Q l:=by
 cases o with
 | none=>exact h.elim
 | some l=>exact⟨l,rfl,h⟩
def z9q (hp:PassesOwn (model X.prog X.w) X.A X.env X.xe)(hc:QXT X E c z)(hb:QZs X E body t):QZ X E (.While c body [] pos) (.wh z t):=QS.imp (zd2 hp hc hb) <| by
 rintro D σ H ⟨H0,G0,G,ρ,N0,R0,X0,ab,⟨n,hr⟩,hn,hR,hx⟩;refine⟨λm σ' H'=>∃G' ρ',AbS X.K X.mg H0 G0 G' ρ' σ' H'/\Same G G'/\wh z t N0 R0 X0 m ρ',⟨n,G,ρ,ab,Same.refl',hr⟩,?_⟩;rintro m σ1 H1 ⟨G1,ρ1,ab1,g1,h1⟩
 cases m with
 | zero=>exact h1.elim
 | succ m=>
  refine zgx ab1 h1 hx (λq H2 G2 ab2 g2 =>?_) (λq H2 G2 ab2 g2 =>?_)
  .refine iteT ⟨λσ' H'=>∃G' ρ',AbS X.K X.mg H0 G0 G' ρ' σ' H'/\Same G G'/\wh z t N0 R0 X0 m ρ',λσ' H' w=>⟨m,uI _,w⟩,?_⟩;exact⟨H0,G0,G2,ρ1,wh z t N0 R0 X0 m,R0,X0,ab2,q,λρ' σ' H' G' w ab' g'=>⟨G',ρ',ab',z03 g1 (z03 g2 g'),w⟩,hR,hx⟩
  .exact iteF (hn ρ1 σ1 H2 G2 q ab2 (z03 g1 g2))
def Walk (K:W.Frag)(mg:WmP)(G:Hp)(l:List D)(J:It):Prop:=∀(i:Nat) (G1 H:Hp),Same G G1->Same G1 H->
 (∀d,l[i]? = some d->J.go i H/\∀v H',J.yld i H v H'->Same H H'/\∃G2,Gr G1 H G2/\Same G2 H'/\RD K mg G2 d v)/\(l.length<=i->J.stop i H)
def ti (K:W.Frag)(mg:WmP)(E:XK)(e:Ex):TI:=λσ H R=>∃G ρ Q0 X0,Same G H/\AbE K mg G ρ σ/\e.run ρ Q0 X0/\(∀d,Q0 d->∃l,items d=some l)/\(∀d G' H',Q0 d->Gr G H G'->Same G' H'->Same H H'->∀l J,items d=some l->Walk K mg G' l J->R J H')/\Kx mg H X0 E
abbrev QXI (X:Cx)(E:XK)(tg e:Expr)(x:Ex):Prop:=QI X tg e (ti X.K X.mg E x)
def tgt (K:W.Frag):Tg->TG
 | .nm i=>z2y i
 | .tp is=>gTup K is.length (is.foldr (λi r=>zdO (z2y i) r) gNil)
theorem z61 {K:W.Frag}:∀(is:List Nat) (vs:List V) (σ:L2.St) (H:Hp) (Q:L2.St->Hp->Prop),is.length=vs.length->Q ((is.zip vs).foldl (λσ p=>σ.set p.1 (some p.2)) σ) H->(is.foldr (λi r=>zdO (z2y i) r) gNil) vs σ H Q
 | [],[],_,_,_,_,q=>⟨rfl,q⟩
 | [],_::_,_,_,_,h,_=>by simp at h
 | _::_,[],_,_,_,h,_=>by simp at h
 | i::is,v::vs,σ,H,Q,h,q=>⟨v,vs,rfl,z61 (K:=K) is vs _ H Q (by simpa using h) q⟩
theorem AbS.putAll {K:W.Frag}{mg:WmP}{H0 G0 H:Hp}:∀(is:List Nat) (ds:List D) (vs:List V) {G:Hp}{ρ:Pu.Env}{σ:L2.St},is.length=ds.length->RDs K mg G ds vs->AbS K mg H0 G0 G ρ σ H->
  AbS K mg H0 G0 G (z0g is ds ρ) ((is.zip vs).foldl (λσ p=>σ.set p.1 (some p.2)) σ) H
 | [],[],vs,G,ρ,σ,_,h,ab=>by rw[RDs] at h;subst h;exact ab
 | [],_::_,_,_,_,_,h,_,_=>by simp at h
 | _::_,[],_,_,_,_,h,_,_=>by simp at h
 | i::is,d::ds,vs,G,ρ,σ,h,r,ab=>by
  rw[RDs] at r;obtain⟨v,vs',rfl,h1,h2⟩:=r;exact AbS.putAll is ds vs' (by simpa using h) h2 (ab.put ab.nw Same.refl' ab.g Same.refl' (λj d' a hj e s=>ab.free a ⟨j,d',e,s⟩) h1)
def zeW {K:W.Frag}{mg:WmP}{H0 G0 G H:Hp}{ρ:Pu.Env}{σ:L2.St}{tg:Tg}{d:D}{v:V}{N0:Pu.Env->Prop}{N:L2.St->Hp->Prop}(ab:AbS K mg H0 G0 G ρ σ H)(rd:RD K mg G d v)(hp:tg.put d ρ N0)(hn:∀ρ' σ',N0 ρ'->AbS K mg H0 G0 G ρ' σ' H->N σ' H):tgt K tg v σ H N:=by
 cases tg with
 | nm i=>exact hn _ _ hp (ab.put ab.nw Same.refl' ab.g Same.refl' (λj d' a hj e s=>ab.free a ⟨j,d',e,s⟩) rd)
 | tp is=>
  cases d with
  | tup ds=>
   obtain⟨hl,hp⟩:=hp;rw[RD] at rd;obtain⟨a,xs,rfl,h1,h2⟩:=rd;exact⟨a,xs,rfl,z1H ab.g h1,by rw[h2.len,hl],z61 (K:=K) is xs σ H N (by rw[h2.len,hl]) (hn _ _ hp (ab.putAll is ds xs hl h2))⟩
  | _=>exact hp.elim
def AbS.over {K:W.Frag}{mg:WmP}{H0 G0 G G2 H H2:Hp}{ρ:Pu.Env}{σ:L2.St}(ab:AbS K mg H0 G0 G ρ σ H)(g2:Gr G H G2)(k2:Same G2 H2)(s2:Same H H2):AbS K mg H0 G0 G2 ρ σ H2 where
 len:=ab.len
 s0:=z03 ab.s0 s2
 g0:=z03 ab.g0 g2.1
 g:=k2
 nw:=ab.nw2 g2
 sh:=λi d e=>by
  obtain⟨v,h1,h2⟩:=ab.sh i d e;exact⟨v,h1,h2.same g2.1⟩
 ow:=λi d e=>by
  obtain⟨a,h1,h2,h3,h4⟩:=ab.ow i d e;refine⟨a,h1,?_,h3,h4.same g2.1 (s2 a)⟩
  cases z:G2 a with
  | none=>rfl
  | some o=>
   obtain⟨u,hu⟩:=h4.some
   rcases g2.2 a o z with ⟨w,q⟩ | q
   .rw[h2] at q;cases q
   .rw[hu] at q;cases q
 ne:=ab.ne
def z65 {K:W.Frag}{mg:WmP}{H0 G0 G H:Hp}{ρ:Pu.Env}{σ:L2.St}{l:List D}{J:It}{tg:Tg}{N0:Pu.Env->Prop}{R0:DK}{X0:XP}{De:Ends}(ab:AbS K mg H0 G0 G ρ σ H)(hw:Walk K mg G l J)(hr:forL tg t N0 R0 X0 l ρ)
  (hn:Kn K mg H0 G0 G N0 De.nx) (hR:Kr K mg H0 G0 R0 De.rt) (hx:Kx mg H0 X0 E):
  ∃W:Nat->Nat->L2.St->Hp->Prop,(∃m,W 0 m σ H)/\∀i m σ H,W i m σ H->
   (J.stop i H/\De.nx σ H)\/(J.go i H/\∃N:L2.St->Hp->Prop,(∀σ' H',N σ' H'->∃m',m'<m/\W (i+1) m' σ' H')/\∀x H',J.yld i H x H'->tgt K tg x σ H' λσ2 H2=>ts K mg E t { De with nx:=N,ct:=N,bk:=De.nx } σ2 H2):=by
 refine⟨λi m σ H=>m=l.length - i/\i<=l.length/\∃G1 ρ1,AbS K mg H0 G0 G1 ρ1 σ H/\Same G G1/\forL tg t N0 R0 X0 (l.drop i) ρ1,⟨l.length,by simp,vh _,G,ρ,ab,Same.refl',by simpa using hr⟩,?_⟩;rintro i m σ1 H1 ⟨rfl,hi,G1,ρ1,ab1,g1,h1⟩;obtain⟨w1,w2⟩:=hw i G1 H1 g1 ab1.g
 by_cases hlt:i<l.length
 .have e:l[i]? = some l[i]:=by simp[hlt]
  obtain⟨go,yl⟩:=w1 _ e;rw[vR hlt] at h1;refine .inr ⟨go,λσ' H'=>∃G2 ρ2,AbS K mg H0 G0 G2 ρ2 σ' H'/\Same G G2/\forL tg t N0 R0 X0 (l.drop (i+1)) ρ2,λσ' H' w=>⟨l.length - (i+1),by omega,rfl,hlt,w⟩,λv H2 y =>?_⟩;obtain⟨s2,G2,g2,k2,rd⟩:=yl v H2 y;have ab2:=ab1.over g2 k2 s2;refine zeW ab2 rd h1 λρ3 σ3 hb ab3 =>?_;exact⟨H0,G0,G2,ρ3,_,R0,X0,ab3,hb,λρ' σ' H' G' w ab' g'=>⟨G',ρ',ab',z03 g1 (z03 g2.1 g'),w⟩,hR,hx⟩
 .have e:i=l.length:=by omega
  subst e;rw[List.drop_length] at h1;exact .inl ⟨w2 (wG _),hn ρ1 σ1 H1 G1 h1 ab1 g1⟩
def z59 {js:List Nat}{g:Tg}(hp:PassesOwn (model X.prog X.w) X.A X.env X.xe)(hc:X.calm=true)(hi:QXI X E tg iter x)(hg:QG X tg (tgt X.K g))(hb:QZs X E body t)(hs:∀x,foldedSetIterable iter X.env x=pure x:=by intro _;rfl):
  QZ X E (.For tg iter body [] pos) (.for_ js g x t):=QS.imp (z7Q hp hc hi hg hb hs) <| by
 k_go0;obtain⟨G',ab',g'⟩:=ab.dem js;refine⟨G',vis (dem js ρ),_,X0,ab'.g,ab'.vis,hr,λd q=>(z6Y q).imp λ_ z=>z.1,λd G1 H1 q g1 g2 g3 l J el hw =>?_,hx.same ab.s0⟩;have q':onL (items d) λl=>forL g t N0 R0 X0 l (dem js ρ):=q;rw[el] at q';exact z65 (E:=E) (ab'.over g1 g2 g3) hw q' (hn.same (z03 g' g1.1)) hR hx
def z3y {K:W.Frag}{mg:WmP}{G:Hp}{lo:Int}{n:Nat}:Walk K mg G ((List.range n).map λ(k:Nat)=>D.int (lo+(k:Int))) (Itr lo n):=λi G1 H g1 g2=>by
 refine⟨λd e =>?_,λhi=>(show n<=i by simpa using hi)⟩;obtain⟨h,e'⟩:=wg.mp e;have hi:i<n:=by simpa using h
 refine⟨hi,λv H' y =>?_⟩;obtain⟨rfl,rfl⟩:=y;refine⟨Same.refl',G1,Gr.refl,g2,?_⟩;rw[<- e'];simp only[List.getElem_map,List.getElem_range];rw[RD]
def z5O:Fn:=⟨λds Q _=>onR ds λl=>Q (.lst l),λds Q Q' X X' m _ q=>z9F (λ_ q=>m _ q) q⟩
def z15 {K:W.Frag}{mg:WmP}{G:Hp}{i:Int}{v:V}(h:RD K mg G (.int i) v):v = .int i:=by rw[RD] at h;exact h
def rds1 {K:W.Frag}{mg:WmP}{G:Hp}{d:D}{vs:List V}(h:RDs K mg G [d] vs):∃v,vs=[v]/\RD K mg G d v:=by
 rw[RDs] at h;obtain⟨x,r,rfl,h1,h2⟩:=h;rw[RDs] at h2;subst h2;exact⟨x,rfl,h1⟩
def rds2 {K:W.Frag}{mg:WmP}{G:Hp}{d e:D}{vs:List V}(h:RDs K mg G [d,e] vs):∃v w,vs=[v,w]/\RD K mg G d v/\RD K mg G e w:=by
 rw[RDs] at h;obtain⟨x,r,rfl,h1,h2⟩:=h;obtain⟨y,rfl,h3⟩:=rds1 h2;exact⟨x,y,rfl,h1,h3⟩
def z9E {K:W.Frag}{mg:WmP}{G:Hp}{ds:List D}{vs:List V}{Kk:List D->Prop}(rds:RDs K mg G ds vs)(h:onR ds Kk):
  (∃j:Int,vs=[.int j] /\ -(2 ^ 62)<=j/\j<2 ^ 62/\Kk ((List.range j.toNat).map λ(k:Nat)=>D.int (0+(k:Int))))\/∃i j:Int,vs=[.int i,.int j]/\(-(2 ^ 62)<=i/\i<2 ^ 62 /\ -(2 ^ 62)<=j/\j<2 ^ 62)/\Kk ((List.range (j - i).toNat).map λ(k:Nat)=>D.int (i+(k:Int))):=by
 unfold onR at h
 split at h
 .obtain⟨v,rfl,r1⟩:=rds1 rds;refine .inl ⟨_,by rw[z15 r1],h.1.1,h.1.2,?_⟩;simpa using h.2
 .obtain⟨v,w,rfl,r1,r2⟩:=rds2 rds;exact .inr ⟨_,_,by rw[z15 r1,z15 r2],⟨h.1.1.1,h.1.1.2,h.1.2.1,h.1.2.2⟩,h.2⟩
 .exact h.elim
def zcG {K:W.Frag}{mg:WmP}{es:List Ex}{σ:L2.St}{H:Hp}{R:It->Hp->Prop}(h:ti K mg E (.op z5O es) σ H R):txa K mg E es σ H λvs H1=>(∃j:Int,vs=[.int j] /\ -(2 ^ 62)<=j/\j<2 ^ 62/\R (Itr 0 j.toNat) H1)\/∃i j:Int,vs=[.int i,.int j]/\(-(2 ^ 62)<=i/\i<2 ^ 62 /\ -(2 ^ 62)<=j/\j<2 ^ 62)/\R (Itr i (j - i).toNat) H1:=by
 obtain⟨G,ρ,Q0,X0,hs,ab,hr,_,hk,hx⟩:=h;refine⟨G,ρ,λds=>z5O.run ds Q0 X0,X0,hs,ab,hr,λds vs G1 H1 q g1 g2 g3 rds =>?_,hx⟩
 rcases z9E rds (show onR ds (λl=>Q0 (.lst l)) from q) with ⟨j,e,h1,h2,q'⟩ | ⟨i,j,e,h1,q'⟩
 .exact .inl ⟨j,e,h1,h2,hk _ G1 H1 q' g1 g2 g3 _ _ rfl z3y⟩
 .exact .inr ⟨i,j,e,h1,hk _ G1 H1 q' g1 g2 g3 _ _ rfl z3y⟩
def zaE {K:W.Frag}{mg:WmP}{es:List Ex}{n:Nat}{σ:L2.St}{H:Hp}{Q Q':List V->Hp->Prop}(hl:es.length=n)(m:∀vs H1,vs.length=n->Q vs H1->Q' vs H1)(h:txa K mg E es σ H Q):txa K mg E es σ H Q':=by
 k_all;have len:∀(es:List Ex) (Q:List D->Prop),runs es ρ Q X0->runs es ρ (λds=>ds.length=es.length/\Q ds) X0:=by
  intro es
  induction es with
  | nil=>intro Q h;exact⟨rfl,h⟩
  | cons e es ih=>
   intro Q h;exact e.mono ρ _ _ X0 X0 (λd q=>z2m es ρ _ _ X0 X0 (λds q=>⟨by simp[q.1],q.2⟩) (λ_ z=>z) (ih _ q)) (λ_ z=>z) h
 exact⟨G,ρ,_,X0,hs,ab,len es Q0 hr,λds vs G1 H1 q g1 g2 g3 rds=>m vs H1 (by rw[rds.len,q.1,hl]) (hk ds vs G1 H1 q.2 g1 g2 g3 rds),hx⟩
def z4N {p:Pos}(hg:Gl X "range")(hm:X.mg "range"=none)(ha:QXA X E [a] [x])(hs:starEach [a] X.env=[(false,eval a X.env)]:=by rfl):QXI X E tg (.Call (.Name "range" p) [a] [] pos) (.op z5O [x]):=QI.imp (z7S hg hm ha hs) λσ H R h=>
 zaE (n:=1) rfl (λvs H1 hl q=>by
  rcases q with q | ⟨i,j,e,_⟩
  .exact q
  .rw[e] at hl;simp at hl) (zcG h)
def zfj {g:Tg}{es:List Ex}{wi:TI}(hp:PassesOwn (model X.prog X.w) X.A X.env X.xe)(hc:X.calm=true)(hg:QG X tg (tgt X.K g))(hb:QZs X E body t)
  (hri:∀σ H R,(txa X.K X.mg E es σ H λvs H1=>(∃j:Int,vs=[.int j] /\ -(2 ^ 62)<=j/\j<2 ^ 62/\R (Itr 0 j.toNat) H1)\/∃i j:Int,vs=[.int i,.int j]/\(-(2 ^ 62)<=i/\i<2 ^ 62 /\ -(2 ^ 62)<=j/\j<2 ^ 62)/\R (Itr i (j - i).toNat) H1)->wi σ H R) (hi':QI X tg iter wi)
  (hs:∀x,foldedSetIterable iter X.env x=pure x:=by intro _;rfl):
  QZ X E (.For tg iter body [] pos) (.forr es g t):=QS.imp (z7Q hp hc hi' hg hb hs) <| by
 rintro De σ H ⟨H0,G0,G,ρ,N0,R0,X0,ab,hr,hn,hR,hx⟩;refine hri σ H _ ⟨plus G H (z12 ρ σ),ρ,λds=>onR ds λl=>forL g t N0 R0 X0 l ρ,X0,z1h ab.g,ab.abe,hr,λds vs G1 H1 q g1 g2 g3 rds =>?_,hx.same ab.s0⟩;k_asm
 rcases z9E rds q with ⟨j,e,h1,h2,q'⟩ | ⟨i,j,e,h1,q'⟩
 .exact .inl ⟨j,e,h1,h2,z65 (E:=E) ab' z3y q' (hn.same lm) hR hx⟩
 .exact .inr ⟨i,j,e,h1,z65 (E:=E) ab' z3y q' (hn.same lm) hR hx⟩
def z4l {g:Tg}{p pos2:Pos}(hp:PassesOwn (model X.prog X.w) X.A X.env X.xe)(hc:X.calm=true)(hgr:Gl X "range")(hm:X.mg "range"=none)(ha:QXA X E [a] [x])(hg:QG X tg (tgt X.K g))(hb:QZs X E body t)(hst:starEach [a] X.env=[(false,eval a X.env)]:=by rfl)
  (hs:∀x,foldedSetIterable (.Call (.Name "range" p) [a] [] pos2) X.env x=pure x:=by intro _;rfl):QZ X E (.For tg (.Call (.Name "range" p) [a] [] pos2) body [] pos) (.forr [x] g t):=
 zfj hp hc hg hb (λσ H R h=>zaE (n:=1) rfl (λvs H1 hl q=>by
  rcases q with q | ⟨i,j,e,_⟩
  .exact q
  .rw[e] at hl;simp at hl) h) (z7S hgr hm ha hst) hs
def iAny (K:W.Frag)(tl:TE):TI:=λσ H R=>tl σ H λx H1=>(∃a,x = .ref a/\(∃xs,SqL K H1 a xs)/\R (Itl K a) H1)\/(∃a,x = .ref a/\(∃xs,SqT K H1 a xs)/\R (Itt K a) H1)\/∃y,x = .str y/\R (Its y) H1
def zbu {l:Expr}{tl:TE}(hl:QE X l tl):QI X tg l (iAny X.K tl):=by
 constructor
 intro pins s σ H R I h;refine thn (hl.p pins s σ H _ I h) λv s1 z9 =>?_;z_run;have fp:∀b∈[s1.heap.objs.size],FpOk X pins H1 b:=λb hb=>by
  have e:b=s1.heap.objs.size:=by simpa using hb
  subst e;exact I1.fpOk (wG _) (I1.hok.fresh (wG _))
 rcases q1 with ⟨a,e,⟨xs,hq⟩,q⟩ | ⟨a,e,⟨xs,hq⟩,q⟩ | ⟨y,rfl,q⟩
 .subst e
  cases r1
  obtain⟨its,rv,p,hz⟩:=I1.list hq;refine wpAny_pyIter_list p.isList ?_;exact⟨s1.heap.objs.size,[s1.heap.objs.size],_,_,H1,rfl,I1.kept (t':=s1.toks) λb o e=>wm _ e,zaG a _,⟨_,wB _ rfl,rfl,rfl⟩,fp,q⟩
 .subst e
  cases r1
  obtain⟨its,rv,p,hz⟩:=I1.tuple hq;refine wpAny_pyIter_tuple (show s1.heap.IsTuple a its.toArray from p) ?_;exact⟨s1.heap.objs.size,[s1.heap.objs.size],_,_,H1,rfl,I1.kept (t':=s1.toks) λb o e=>wm _ e,z9Z a _,⟨_,wB _ rfl,rfl,rfl⟩,fp,q⟩
 .obtain⟨t,rfl⟩:=r1
  cases ha:y.cps.all (· < 128)
  .exact wpAny_pyIter_wide ha ⟨s1.heap.objs.size,[s1.heap.objs.size],_,_,H1,rfl,I1.kept (t':=s1.toks) λb o e=>wm _ e,z9j y t _ (by decide) (λA' hA=>Walks.strWide hA _ y t) (λA i s Q E st h=>wpAny_pyIter_striter_wide st h),⟨vh _,_,wB _ rfl,rfl,rfl⟩,fp,q⟩
  .exact wpAny_pyIter_ascii ha ⟨s1.heap.objs.size,[s1.heap.objs.size],_,_,H1,rfl,I1.kept (t':=s1.toks) λb o e=>wm _ e,z9j y t _ (by decide) (λA' hA=>Walks.strAscii hA _ y t) (λA i s Q E st h=>wpAny_pyIter_striter_ascii st h),⟨vh _,_,wB _ rfl,rfl,rfl⟩,fp,q⟩
def z7z {K:W.Frag}{mg:WmP}{G:Hp}{a:Addr}{xs:List V}{l:List D}(h:SqL K G a xs)(r:RDs K mg G l xs):Walk K mg G l (Itl K a):=λi G1 H g1 g2=>by
 have hH:=z1d (z03 g1 g2) h;refine⟨λd e =>?_,λhi=>⟨xs,hH,by rw[r.len];exact hi⟩⟩;obtain⟨v,ev,rv⟩:=r.get e;refine⟨⟨xs,v,hH,ev⟩,λv' H' y =>?_⟩;obtain⟨rfl,y⟩:=y;have:=y xs hH;rw[ev] at this
 cases this
 exact⟨Same.refl',G1,Gr.refl,g2,rv.same g1⟩
def zcC {K:W.Frag}{mg:WmP}{G:Hp}{a:Addr}{xs:List V}{l:List D}(h:SqT K G a xs)(r:RDs K mg G l xs):Walk K mg G l (Itt K a):=λi G1 H g1 g2=>by
 have hH:=z1H (z03 g1 g2) h;refine⟨λd e =>?_,λhi=>⟨xs,hH,by rw[r.len];exact hi⟩⟩;obtain⟨v,ev,rv⟩:=r.get e;refine⟨⟨xs,v,hH,ev⟩,λv' H' y =>?_⟩;obtain⟨rfl,y⟩:=y;have:=y xs hH;rw[ev] at this
 cases this
 exact⟨Same.refl',G1,Gr.refl,g2,rv.same g1⟩
def zcD {K:W.Frag}{mg:WmP}{G:Hp}{y:Str}:Walk K mg G (y.cps.toList.map λc =>.str ⟨#[c]⟩) (Its y):=λi G1 H g1 g2=>by
 refine⟨λd e =>?_,λhi=>(show y.cps.size<=i by simpa using hi)⟩;rw[wR] at e
 cases q:y.cps.toList[i]? with
 | none=>rw[q] at e;cases e
 | some c=>
  rw[q] at e
  cases e
  have hi:i<y.cps.size:=by
   have:=(wg.mp q).1;kw_lk
  refine⟨hi,λv H' yl =>?_⟩;obtain⟨rfl,c',ec,rfl⟩:=yl;have:c'=c:=by
   have q':y.cps[i]? = some c:=by simpa using q
   rw[q'] at ec;exact(vm ec).symm
  subst this;exact⟨Same.refl',G1,Gr.refl,g2,by rw[RD]⟩
def qi_x (h:QX X E iter x):QXI X E tg iter x:=QI.imp (zbu h) <| by
 rintro σ H R ⟨G,ρ,Q0,X0,hs,ab,hr,hz,hk,hx⟩;refine⟨G,ρ,Q0,X0,hs,ab,hr,λd v G1 H1 q g1 g2 g3 rd =>?_,hx⟩
 cases d with
 | lst l=>
  rw[RD] at rd;obtain⟨a,xs,rfl,h1,h2⟩:=rd;exact .inl ⟨a,rfl,⟨xs,z1d g2 h1⟩,hk _ G1 H1 q g1 g2 g3 l _ rfl (z7z h1 h2)⟩
 | tup l=>
  rw[RD] at rd;obtain⟨a,xs,rfl,h1,h2⟩:=rd;exact .inr (.inl ⟨a,rfl,⟨xs,z1H g2 h1⟩,hk _ G1 H1 q g1 g2 g3 l _ rfl (zcC h1 h2)⟩)
 | str y=>
  rw[RD] at rd;subst rd;exact .inr (.inr ⟨y,rfl,hk _ G1 H1 q g1 g2 g3 _ _ rfl zcD⟩)
 | _=>
  obtain⟨l,e⟩:=hz _ q
  cases e
end
section
variable {K:W.Frag}{mg:WmP}{H0 G0 G G1 H H1:Hp}{ρ:Pu.Env}{σ:L2.St}{i:Nat}
def z7Y {Kk:List D->Prop}(h:ownL ρ i Kk):∃l,ρ[i]? = some (B.o (.lst l))/\Kk l:=by
 unfold ownL at h
 split at h
 .rename_i l e;exact⟨l,e,h⟩
 .exact h.elim
def zdq:(λa=>∃(j:Nat) (d:D),True/\ρ[j]? = some (B.o d)/\σ[j]? = some (some (V.ref a)))=z12 ρ σ:=by
 funext a
 exact propext ⟨λ⟨j,d,_,h⟩=>⟨j,d,h⟩,λ⟨j,d,h⟩=>⟨j,d,trivial,h⟩⟩
def z6w {d:D}{v:V}(h:AbS K mg H0 G0 G ρ σ H)(g2:Same G1 H1)(g3:Same H H1)(sf:Safe d ρ)(rd:RD K mg G1 d v):RD K mg (minus G1 (z12 ρ σ)) d v:=by
 have:=z8B h g2 g3 sf rd;rw[zdq] at this;exact this
def AbS.wrB {l l':List D}{a:Addr}{ys:List V}(ab:AbS K mg H0 G0 G ρ σ H)(g1:Gr (plus G H (z12 ρ σ)) H G1)(g2:Same G1 H1)(g3:Same H H1)(hi:ρ[i]? = some (B.o (.lst l)))(hs:σ[i]? = some (some (V.ref a)))(hr:RDs K mg (minus G1 (z12 ρ σ)) l' ys):
  AbS K mg H0 G0 (minus G1 (z12 ρ σ)) (ρ.set i (.o (.lst l'))) σ (upd H1 a (.lst ys))/\Same G (minus G1 (z12 ρ σ)):=by
 have lm:Same G (minus G1 (z12 ρ σ)):=z1X (z03 (z1N ab.free) g1.1) ab.free;exact⟨ab.wr (λa o e=>ab.nw1 g1 a o (z0V a o e)) lm (z03 z0V g2) g3 (λj d' a e s=>z1r ⟨j,d',e,s⟩) hi hs ⟨ys,z06,hr⟩,lm⟩
end
section
variable {X:Cx}{E:XK}{st:Stmt}{t:Sm}{e o tg:Expr}{x y z:Ex}{pos cpos apos:Pos}{i j:Nat}
def zek (ho:QE X o (tVar i))(ha:QXA X E [e] [x])
  (hs:swapsWith (.Call (.Attribute o "append" apos) [e] [] cpos) none pos.line X.env=pure false:=by rfl)
  (hbase:attributeBase o "append" X.env (eval o X.env)=eval o X.env:=by rfl)
  (hfew:((backTo cpos (starEach [e] X.env)).all (λx => !x.1) && (backToKw cpos (keywordEach [] X.env)).all (λx=>x.1.isSome)
   && decide ([e].length+([]:List Keyword).length+(if ([]:List Keyword).isEmpty then 0 else 1)<30))=true:=by rfl)
  (hline:(apos.endLine == cpos.line)=true:=by rfl) (hst:starEach [e] X.env=(false,eval e X.env)::starEach [] X.env:=by rfl) (hplain:(backTo cpos (starEach [] X.env)).any (·.1)=false:=by rfl):
  QZ X E (.Expr (.Call (.Attribute o "append" apos) [e] [] cpos) pos) (.app i x):=
 QS.imp (z6V (zdb vL PySem.F.slot_list_append PySem.F.type_list_append z3Q ho ha hbase hfew hline hst hplain) hs) <| by
  rintro De σ H ⟨H0,G0,G,ρ,N0,R0,X0,ab,hr,hn,hR,hx⟩;obtain⟨l,hl,hr⟩:=z7Y hr;obtain⟨a,s1,ga,h0,xs,hw,hrd⟩:=ab.ow i _ hl;refine⟨.ref a,s1,.inl ⟨rfl,xs,SqL.of hw⟩,?_⟩;refine⟨plus G H (z12 ρ σ),ρ,λds=>∃d,ds=[d]/\l.length<sizeLine/\Safe d ρ/\N0 (ρ.set i (.o (.lst (l++[d])))),X0,z1h ab.g,ab.abe,x.mono ρ _ _ X0 X0 (λd q=>⟨d,rfl,q⟩) (λ_ z=>z) hr,?_,hx.same ab.s0⟩;rintro ds vs G1 H1 ⟨d,rfl,hsz,sf,hN⟩ g1 g2 g3 rds;tb_lt;refine⟨a,xs,v,rfl,rfl,g3 _ _ hw,by rw[hrd.len];exact hsz,?_⟩;have lm:Same G (minus G1 (z12 ρ σ)):=z1X (z03 (z1N ab.free) g1.1) ab.free;obtain⟨ab',g'⟩:=ab.wrB (i:=i) (l':=l++[d]) (ys:=xs++[v]) g1 g2 g3 hl s1 ((hrd.same lm).app (RDs.cons (z6w ab g2 g3 sf rd) RDs.nil));exact hn _ σ _ _ hN ab' g'
def RDs.last {K:W.Frag}{mg:WmP}{G:Hp}{l:List D}{xs:List V}(h:RDs K mg G l xs):RDs K mg G l.dropLast xs.dropLast:=by
 rw[List.dropLast_eq_take,List.dropLast_eq_take,h.len];exact h.take _
def z9I {d:D}{Kk:Int->Prop}(h:isI d Kk):∃k,d = .int k/\Kk k:=by
 cases d with
 | int k=>exact⟨k,rfl,h⟩
 | _=>exact h.elim
def zdt {o:Option Nat}{Kk:Nat->Prop}(h:onN o Kk):∃k,o=some k/\Kk k:=by
 cases o with
 | none=>exact h.elim
 | some k=>exact⟨k,rfl,h⟩
def zej {k:Expr}{p2:Pos}(ho:QE X o (tVar i))(hk:QX X E k y)(he:QX X E e x)(h:∀{te:TE}{g:TG},QE X e te->QG X (.Subscript o k p2) g->QS X (.Assign [.Subscript o k p2] e pos) (tAsg te g))
  (ha:∀v,assign (.Subscript o k p2) X.env v=(do
   let ov <- holding [v] (eval o X.env)
   let iv <- holding [v,ov] (eval k X.env)
   standAt p2
   holding [v,ov,iv] (setItem ov iv v)
   release [v,ov,iv] []):=by intro _;rfl):QZ X E (.Assign [.Subscript o k p2] e pos) (.put i y x):=
 QS.imp (h he ⟨zhP ho.p hk.p zcO ha⟩) <| by
  rintro De σ H ⟨H0,G0,G,ρ,N0,R0,X0,ab,hr,hn,hR,hx⟩;obtain⟨l,hl,hr⟩:=z7Y hr;obtain⟨a,s1,ga,h0,xs,hw,hrd⟩:=ab.ow i _ hl;refine⟨plus G H (z12 ρ σ),ρ,_,X0,z1h ab.g,ab.abe,hr,λd v G1 H1 q g1 g2 g3 rd =>?_,hx.same ab.s0⟩;obtain⟨sf,q⟩:=q;refine⟨.ref a,s1,?_⟩;refine⟨G1,ρ,_,X0,g2,ab.abe.same g1.1,q,λkd kv G2 H2 q' k1 k2 k3 rk =>?_,hx.same (z03 ab.s0 g3)⟩;obtain⟨kk,rfl,q'⟩:=z9I q';obtain⟨jj,ej,hN⟩:=zdt q';have g12:Gr (plus G H (z12 ρ σ)) H G2:=g1.trans g3 k1;have g33:Same H H2:=z03 g3 k3;have lm:Same G (minus G2 (z12 ρ σ)):=z1X (z03 (z1N ab.free) g12.1) ab.free;refine⟨a,xs,kk,jj,rfl,z15 rk,g33 _ _ hw,by rw[hrd.len];exact ej,?_⟩;obtain⟨ab',g'⟩:=ab.wrB (i:=i) (l':=l.set jj d) (ys:=xs.set jj v) g12 k2 g33 hl s1 (RDs.set (z6w ab k2 g33 sf (rd.same k1.1)) jj (hrd.same lm));exact hn _ σ _ _ hN ab' g'
end
section
variable {P:Program}{w:World}{K:W.Frag}{mg:WmP}{base:Heap}{N:List Str}{qual:Str}{f:Addr}
def z3z {G H:Hp}{ds:List D}{vs:List V}{np nn:Nat}(hs:Same G H)(r:RDs K mg G ds vs)(hl:ds.length=np)(hN:N.length=nn):AbS K mg H G G (ds.map B.s++List.replicate (nn - np) .n) (L2.z3G N vs) H:=by
 have hn:∀(i:Nat) (b:B),(ds.map B.s++List.replicate (nn - np) .n)[i]? = some b->(∃d,b = .s d/\ds[i]? = some d)\/b = .n:=λi b e=>by
  by_cases hi:i<ds.length
  .rw[vE (by simpa using hi),wR] at e;rw[wJ hi] at e ⊢
   cases e
   exact .inl ⟨_,rfl,rfl⟩
  .rw[vN (by simpa using hi)] at e;have:=wg.mp e;obtain⟨h1,h2⟩:=this;simp at h2;exact .inr h2.symm
 refine⟨?_,Same.refl',Same.refl',hs,λa o e =>.inl ⟨o,e⟩,λi d e =>?_,λi d e =>?_,λi j d d' a _ e =>?_⟩
 .unfold L2.z3G;rw[wz,wz,wc,wc,vG,vG,r.len,hl,hN]
 .rcases hn i _ e with ⟨d',e1,e2⟩ | e1
  .cases e1
   obtain⟨v,h1,h2⟩:=r.get e2;refine⟨v,?_,h2⟩;unfold L2.z3G;have hi:i<vs.length:=(wg.mp h1).1;rw[vE (by simpa using hi),wR,h1]
   rfl
  .cases e1
 .rcases hn i _ e with ⟨d',e1,e2⟩ | e1 <;> cases e1
 .rcases hn i _ e with ⟨d',e1,e2⟩ | e1 <;> cases e1
def fnN {x:Str}{st:Stmt}{fd:FuncData}{ps:List Str}{k np nn:Nat}{b:Sm}(F:Fun K x qual st f fd)(S:z1U N ps (z01 st))(hp:ps.length=np)(hN:N.length=nn)
  (hb:∀(cdv:Value) (A:Around) (outer:List PySem.Env) (s:Shared) (H:Hp) (E:XK),Room k (A.deeper (envOfC qual (z01 st) s.heap.objs.size f cdv))->QZs ((cxOf (CXe P w) P w K mg base N qual (z01 st) f cdv A outer s H E).wish λ_ _=>False) E0 (z0v st) b):
  FnOk P w K mg base (CXe P w) (k+1) f fd ps (spP K mg (Fn.mkN np nn b)):=by
 kj_on
 refine⟨H,G,G,_,λ_=>Q0 .non,Q0,λ_=>False,z3z hs rds hl hN,hr,λρ' σ' H' G' q ab _ =>?_,hk,Kx.no⟩;kst_p
def fnE {x:Str}{st:Stmt}{fd:FuncData}{ps:List Str}{k np nn:Nat}{b:Sm}(F:Fun K x qual st f fd)(S:z1U N ps (z01 st))(hp:ps.length=np)(hN:N.length=nn)
  (hb:∀(cdv:Value) (A:Around) (outer:List PySem.Env) (s:Shared) (H:Hp) (E:XK),Room k (A.deeper (envOfC qual (z01 st) s.heap.objs.size f cdv))->QZs ((cxOf (CXe P w) P w K mg base N qual (z01 st) f cdv A outer s H E).wish (cxOf (CXe P w) P w K mg base N qual (z01 st) f cdv A outer s H E).xe) E (z0v st) b):
  FnOk P w K mg base (CXe P w) (k+1) f fd ps (spP K mg (Fn.mk' np nn b)):=by
 refine F.okE S (λvs H Q E ⟨G,ds,Q0,X0,hs,rds,⟨hl,hr⟩,hk,hx⟩=>by rw[rds.len,hl,hp]) λcdv A outer s H vs Q E hroom ⟨G,ds,Q0,X0,hs,rds,⟨hl,hr⟩,hk,hx⟩=>⟨_,hb cdv A outer s H E hroom,?_⟩
 refine⟨H,G,G,_,λ_=>Q0 .non,Q0,X0,z3z hs rds hl hN,hr,λρ' σ' H' G' q ab _ =>?_,hk,hx⟩;kst_p
def z1V {cdv:Value}{sc:Scope}{A:Around}{outer:List PySem.Env}{s:Shared}{H:Hp}{E:XK}{x:Str}{C:Addr}{m:Str}{np cpos pos p2:Pos}{j}(T:Exc K mg x C)(hg:Gl ((cxOf (CXe P w) P w K mg base N qual sc f cdv A outer s H E).wish (cxOf (CXe P w) P w K mg base N qual sc f cdv A outer s H E).xe) x)(hdb:(x == ("__debug__":Str))=false:=by decide):
  QZ ((cxOf (CXe P w) P w K mg base N qual sc f cdv A outer s H E).wish (cxOf (CXe P w) P w K mg base N qual sc f cdv A outer s H E).xe) E (.Raise (some (.Call (.Name x np) [.Constant (.str m) j p2] [] cpos)) none pos) (.raise x):=
 QS.imp (zd4 T hg hdb) λDe σ H ⟨H0,G0,G,ρ,N0,R0,X0,ab,hr,hn,hR,hx⟩=>hx x C H hr T.nm ab.s0
end
def Tg.slots:Tg->List Nat
 | .nm i=>[i]
 | .tp is=>is
section
variable {K:W.Frag}{mg:WmP}{G G1 H H1:Hp}{ρ:Pu.Env}{σ:L2.St}
def AbE.put {i:Nat}{d:D}{v:V}(h:AbE K mg G ρ σ)(hi:i < σ.length)(r:RD K mg G d v):AbE K mg G (ρ.set i (.s d)) (σ.set i (some v)):=λj e q=>by
 rw[Env.get_eq] at q
 mg_lt
 .subst hj
  cases z:(ρ.set j (.s d))[j]? with
  | none=>rw[z] at q;cases q
  | some b=>
   have hl:j < ρ.length:=by
    have:=(wg.mp z).1;kw_lk
   rw[wD hl] at q
   cases q
   exact⟨v,by rw[wD hi],r⟩
 .rw[wj (vk hj), <- Env.get_eq] at q;obtain⟨w,h1,h2⟩:=h j e q;exact⟨w,by rw[wj (vk hj)];exact h1,h2⟩
def AbE.keep {i:Nat}{v:V}(h:AbE K mg G ρ σ)(hn:ρ.get i=none):AbE K mg G ρ (σ.set i (some v)):=λj e q=>by
 have hj:j≠i:=λz=>by rw[z,hn] at q;cases q
 obtain⟨w,h1,h2⟩:=h j e q;exact⟨w,by rw[wj (vk hj)];exact h1,h2⟩
theorem AbE.putAll {base:Pu.Env}:∀(is:List Nat) (ds:List D) (vs:List V) {ρ:Pu.Env}{σ:L2.St},is.length=ds.length->RDs K mg G ds vs->(∀i∈is,i < σ.length)->(∀i∈is,base.get i=none)->AbE K mg G ρ σ->AbE K mg G base σ->
  AbE K mg G (z0g is ds ρ) ((is.zip vs).foldl (λσ p=>σ.set p.1 (some p.2)) σ)/\AbE K mg G base ((is.zip vs).foldl (λσ p=>σ.set p.1 (some p.2)) σ)/\((is.zip vs).foldl (λσ p=>σ.set p.1 (some p.2)) σ).length=σ.length
 | [],[],vs,ρ,σ,_,h,_,_,ab,bb=>by rw[RDs] at h;subst h;exact⟨ab,bb,rfl⟩
 | [],_::_,_,_,_,h,_,_,_,_,_=>by simp at h
 | _::_,[],_,_,_,h,_,_,_,_,_=>by simp at h
 | i::is,d::ds,vs,ρ,σ,h,r,hl,hn,ab,bb=>by
  rw[RDs] at r;obtain⟨v,vs',rfl,h1,h2⟩:=r;obtain⟨a1,a2,a3⟩:=AbE.putAll (base:=base) is ds vs' (ρ:=ρ.set i (.s d)) (σ:=σ.set i (some v)) (by simpa using h) h2 (λj hj=>by rw[uD];exact hl j (we _ hj)) (λj hj=>hn j (we _ hj)) (ab.put (hl i ww) h1) (bb.keep (hn i ww));exact⟨a1,a2,by rw[wS,List.foldl_cons,a3,uD]⟩
def zcH {tg:Tg}{d:D}{v:V}{N0:Pu.Env->Prop}{N:L2.St->Hp->Prop}(ab:AbE K mg G ρ σ)(g:Same G H)(rd:RD K mg G d v)(hl:∀i∈tg.slots,i < σ.length)(hf:∀i∈tg.slots,ρ.get i=none)(hp:tg.put d ρ N0)
  (hn:∀ρ' σ',N0 ρ'->AbE K mg G ρ' σ'->AbE K mg G ρ σ'->σ'.length=σ.length->N σ' H):tgt K tg v σ H N:=by
 cases tg with
 | nm i=>
  have h1:=hl i (by simp[Tg.slots]);have h2:=hf i (by simp[Tg.slots]);exact hn _ _ hp (ab.put h1 rd) (ab.keep h2) (by simp)
 | tp is=>
  cases d with
  | tup ds=>
   obtain⟨hle,hp⟩:=hp;rw[RD] at rd;obtain⟨a,xs,rfl,h1,h2⟩:=rd;obtain⟨a1,a2,a3⟩:=AbE.putAll (base:=ρ) is ds xs (ρ:=ρ) (σ:=σ) hle h2 hl hf ab ab;exact⟨a,xs,rfl,z1H g h1,by rw[h2.len,hle],z61 (K:=K) is xs σ H N (by rw[h2.len,hle]) (hn _ _ hp a1 a2 a3)⟩
  | _=>exact hp.elim
def zau {nt:Nat}{js:List Nat}(h:AbE K mg G ρ σ):AbE K mg G (z1z nt js ρ) (List.replicate nt none++js.map λj=>(σ[j]?).getD none):=λi d e=>by
 rw[Env.get_eq] at e;unfold z1z at e
 by_cases hi:i<nt
 .rw[vE (by simpa using hi),ur,if_pos hi] at e
  cases e
 .rw[vN (by simpa using hi),vG,wR] at e;rw[vN (by simpa using hi),vG,wR]
  cases q:js[i - nt]? with
  | none=>rw[q] at e;cases e
  | some j=>
   rw[q] at e;have e':((ρ[j]?).getD .n).get=some d:=e;have e2:ρ.get j=some d:=by
    rw[Env.get_eq]
    cases z:ρ[j]? with
    | none=>rw[z] at e';cases e'
    | some b=>rw[z] at e';exact e'
   obtain⟨v,h1,h2⟩:=h j d e2;refine⟨v,?_,h2⟩;show some ((σ[j]?).getD none)=some (some v);rw[h1];rfl
def z8j {nt:Nat}{js:List Nat}{i:Nat}(hi:i<nt):(z1z nt js ρ).get i=none:=by
 rw[Env.get_eq];unfold z1z;rw[vE (by simpa using hi),ur,if_pos hi]
 rfl
def TcOk (K:W.Frag)(mg:WmP)(c:Option Ex)(tc:TT):Prop:=match c with
 | none=>tc=z7F
 | some c=>tc=tt K mg E0 c
def zdF {nt:Nat}{js:List Nat}{tg:Tg}{c:Option Ex}{elt:Ex}{l:List D}{J:It}{tc:TT}{Q0:List D->Prop}{Q:VK}(hts:∀i∈tg.slots,i<nt)(ab:AbE K mg G ρ σ)(g:Same G H)(hw:Walk K mg G l J)(hsz:l.length<sizeLine)
  (hr:z44 (z4C tg c elt (z1z nt js ρ)) l Q0)
  (htc:TcOk K mg c tc)
  (hk:∀rs ys p G2 H2,Q0 rs->Gr G H G2->Same G2 H2->Same H H2->RDs K mg G2 rs ys->H2 p=none->Q (.ref p) (upd H2 p (.lst ys))):
  LcG J (tgt K tg) tc (tx K mg E0 elt) Q (List.replicate nt none++js.map λj=>(σ[j]?).getD none) H:=by
 refine⟨λi m ys σ' H'=>m=l.length - i/\i<=l.length/\ys.length<=i/\σ'.length=nt+js.length/\∃G' rs,Gr G H G'/\Same G' H'/\Same H H'/\RDs K mg G' rs ys/\AbE K mg G' (z1z nt js ρ) σ'/\z44 (z4C tg c elt (z1z nt js ρ)) (l.drop i) λr=>Q0 (rs++r),
  ⟨l.length,by simp,vh _,by simp,by simp,G,[],Gr.refl,g,Same.refl',RDs.nil,zau ab,by simpa using hr⟩,?_⟩
 rintro i m ys σ1 H1 ⟨rfl,hi,hyl,hsl,G1,rs,g1,g2,g3,rds,ab1,h1⟩;refine⟨by lia,?_⟩;obtain⟨w1,w2⟩:=hw i G1 H1 g1.1 g2
 by_cases hlt:i<l.length
 .have e:l[i]? = some l[i]:=by simp[hlt]
  obtain⟨go,yl⟩:=w1 _ e;rw[vR hlt] at h1;have h1':z4C tg c elt (z1z nt js ρ) l[i] (λo=>z44 (z4C tg c elt (z1z nt js ρ)) (l.drop (i+1)) λr=>Q0 (rs++(o.toList++r))):=h1;unfold z4C at h1';refine .inr ⟨go,λv H2 y =>?_⟩;obtain⟨s2,G2,k1,k2,rd⟩:=yl v H2 y;refine zcH (ab1.same k1.1) k2 rd (λj hj=>by rw[hsl];have:=hts j hj;lia) (λj hj=>z8j (hts j hj)) h1' λρ3 σ3 hb ab3 bb3 hl3 =>?_;have el:∀{G3 H3:Hp},Gr G2 H2 G3->Same G3 H3->Same H2 H3->(elt.run ρ3 (λd=>z44 (z4C tg c elt (z1z nt js ρ)) (l.drop (i+1)) λr=>Q0 (rs++((some d:Option D).toList++r))) λ_=>False)->
    tx K mg E0 elt σ3 H3 λy H4=>∃m',m'<l.length - i/\m'=l.length - (i+1)/\i+1<=l.length/\(ys++[y]).length<=i+1/\σ3.length=nt+js.length/\∃G' rs',Gr G H G'/\Same G' H4/\Same H H4/\RDs K mg G' rs' (ys++[y])/\AbE K mg G' (z1z nt js ρ) σ3/\z44 (z4C tg c elt (z1z nt js ρ)) (l.drop (i+1)) λr=>Q0 (rs'++r):=λ{G3 H3} k3 k4 k5 he=>by
   refine⟨G3,ρ3,_,λ_=>False,k4,ab3.same k3.1,he,λd v' G4 H4 q n1 n2 n3 rd' =>?_,Kx.no⟩;refine⟨l.length - (i+1),by lia,rfl,hlt,by simp;lia,by rw[hl3,hsl],G4,rs++[d],g1.trans g3 (k1.trans s2 (k3.trans k5 n1)),n2,z03 g3 (z03 s2 (z03 k5 n3)),((rds.same (z03 k1.1 (z03 k3.1 n1.1))).app (RDs.cons rd' RDs.nil)),bb3.same (z03 k3.1 n1.1),?_⟩;refine z3F z50 _ _ _ (λr q =>?_) q;simpa using q
  cases c with
  | none=>
   have:tc=z7F:=htc;subst this;unfold z7F;dsimp only;rw[if_pos rfl];exact el Gr.refl k2 Same.refl' hb
  | some c=>
   have:tc=tt K mg E0 c:=htc;subst this;refine⟨G2,ρ3,_,λ_=>False,k2,ab3,hb,λd G3 H3 q k3 k4 k5 =>?_,Kx.no⟩;obtain⟨b,rfl,q1,q2⟩:=z51 q;refine⟨b,rfl,?_⟩
   cases b with
   | true=>exact iteT (el k3 k4 k5 (q1 rfl))
   | false=>
    refine iteF ⟨l.length - (i+1),by lia,rfl,hlt,by lia,by rw[hl3,hsl],G3,rs,g1.trans g3 (k1.trans s2 k3),k4,z03 g3 (z03 s2 k5),rds.same (z03 k1.1 k3.1),bb3.same k3.1,?_⟩;refine z3F z50 _ _ _ (λr q =>?_) (q2 rfl);simpa using q
 .have e:i=l.length:=by lia
  subst e;rw[List.drop_length] at h1;refine .inl ⟨w2 (wG _),λp hp=>hk rs ys p G1 H1 ?_ g1 g2 g3 rds hp⟩;have h1':Q0 (rs++[]):=h1;simpa using h1'
def zeX {E:XK}{nt:Nat}{js:List Nat}{tg:Tg}{src:Ex}{c:Option Ex}{elt:Ex}{tc:TT}{Q:VK}(hts:∀i∈tg.slots,i<nt)(htc:TcOk K mg c tc)(h:tf K mg E (.comp nt js tg src c elt) σ H Q):tLcG (ti K mg E src) (tgt K tg) tc (tx K mg E0 elt) nt js σ H Q:=by
 k_all;refine⟨G,ρ,_,X0,hs,ab,hr,λd q=>(z6Y q).imp λ_ z=>z.1,λd G1 H1 q g1 g2 g3 l J el hw =>?_,hx⟩;have q':onL (items d) λl=>l.length<sizeLine/\z44 (z4C tg c elt (z1z nt js ρ)) l λr=>Q0 (.lst r):=q;rw[el] at q';refine zdF hts (ab.same g1.1) g2 hw q'.1 q'.2 htc λrs ys p G2 H2 hq k1 k2 k3 rds hp =>?_;have hn:∀{A:Hp},Same A H2->A p=none:=λs=>z0p s hp;refine hk (.lst rs) p G2 (upd H2 p (.lst ys)) hq (g1.trans g3 k1) (z03 k2 (z0P hp _)) (z03 g3 (z03 k3 (z0P hp _))) (hn (z03 g3 k3)) (hn k2) ⟨ys,z06,rds⟩
end
section
variable {X:Cx}{E:XK}{elt iter target:Expr}{ct:Option Expr}{pos spos py:Pos}{scope:Scope}{N':List Str}{nt:Nat}{js:List Nat}{tg:Tg}{src x:Ex}{c:Option Ex}{y:Str}{iy:Nat}
def CtOk (X:Cx)(scope:Scope)(N':List Str)(ct:Option Expr)(c:Option Ex):Prop:=match ct,c with
 | none,none=>True
 | some e,some x=>∀(C:Addr) (s:Shared) (H:Hp) (fp:List Addr),QXT (X.compG scope N' C s H fp) E0 e x
 | _,_=>False
def CtQ (X:Cx)(scope:Scope)(N':List Str)(ct:Option Expr)(tc:TT):Prop:=match ct with
      | none=>tc=z7F
      | some c=>∀(C:Addr) (s:Shared) (H:Hp) (fp:List Addr),QT (X.compG scope N' C s H fp) c tc
def zdR (h:CtOk X scope N' ct c):∃tc:TT,CtQ X scope N' ct tc/\TcOk X.K X.mg c tc:=by
 cases ct with
 | none=>
  cases c with
  | none=>exact⟨z7F,rfl,rfl⟩
  | some c=>exact h.elim
 | some e=>
  cases c with
  | none=>exact h.elim
  | some c=>exact⟨tt X.K X.mg E0 c,h,rfl⟩
def z24 (hc:X.calm=true)(hi:QXI X E target iter src)(hk:scope.kind = .function)(cp:z5o X N' nt js scope)(hts:tg.slots.all (· < nt)=true)
  (hg:∀(C:Addr) (s:Shared) (H:Hp) (fp:List Addr),QG (X.compG scope N' C s H fp) target (tgt X.K tg)) (ht:CtOk X scope N' ct c)
  (he:∀(C:Addr) (s:Shared) (H:Hp) (fp:List Addr),QX (X.compG scope N' C s H fp) E0 elt x) (hs:∀x,foldedSetIterable iter X.env x=pure x:=by intro _;rfl):QF X E (.ListComp elt [⟨target,iter,ct.toList,0⟩] scope pos) (.comp nt js tg src c x):=by
 obtain⟨tc,h1,h2⟩:=zdR ht;exact QE.imp (zhC hc hi hk cp hg h1 he hs) λσ H Q h=>zeX (λi hi=>vP (vM.mp hts i hi)) h2 h
def pTup:Fn:=⟨λds Q _=>ds.length<=sizeLine/\Q (.tup ds),λds Q Q' X X' m _ q=>⟨q.1,m _ q.2⟩⟩
def pLst:Fn:=⟨λds Q _=>ds.length<=sizeLine/\Q (.lst ds),λds Q Q' X X' m _ q=>⟨q.1,m _ q.2⟩⟩
def z0w {es:List Expr}{xs:List Ex}{x1}(h:QXA X E es xs):QX X E (.Tuple es x1 pos) (.op pTup xs):=QE.imp (⟨zes h.p⟩:QE X (.Tuple es x1 pos) _) <| by
 k_in;refine⟨G,ρ,_,X0,hs,ab,hr,λds vs G1 H1 q g1 g2 g3 rds=>⟨by rw[rds.len];exact q.1,λp hp =>?_⟩,hx⟩;refine(hk.same g1 g3).new g2 hp q.2 ?_;rw[RD];exact⟨p,vs,rfl,SqT.of z06,rds.same (z0P (z0p g2 hp) _)⟩
def z2q {es:List Expr}{xs:List Ex}(h:QXA X E es xs):QF X E (.List es pos) (.op pLst xs):=QE.imp (zhB h) <| by
 k_in;refine⟨G,ρ,_,X0,hs,ab,hr,λds vs G1 H1 q g1 g2 g3 rds=>⟨by rw[rds.len];exact q.1,λp hp =>?_⟩,hx⟩;exact hk (.lst ds) p G1 (upd H1 p (.lst vs)) q.2 g1 (z03 g2 (z0P hp _)) (z03 g3 (z0P hp _)) (z0p g3 hp) (z0p g2 hp) ⟨vs,z06,rds⟩
end
def fn2 (g:D->D->DK->Prop)(m:∀a b (Q Q':DK),(∀d,Q d->Q' d)->g a b Q->g a b Q'):Fn:=⟨λds Q _=>match ds with
 | [a,b]=>g a b Q
 | _=>False,λds Q Q' X X' mm _ q=>by
 match ds,q with
 | [a,b],q=>exact m a b Q Q' mm q
 | [],q=>exact q.elim
 | [_],q=>exact q.elim
 | _::_::_::_,q=>exact q.elim⟩
def fn1 (g:D->DK->Prop)(m:∀a (Q Q':DK),(∀d,Q d->Q' d)->g a Q->g a Q'):Fn:=⟨λds Q _=>match ds with
 | [a]=>g a Q
 | _=>False,λds Q Q' X X' mm _ q=>by
 match ds,q with
 | [a],q=>exact m a Q Q' mm q
 | [],q=>exact q.elim
 | _::_::_,q=>exact q.elim⟩
def z9D {o:Option D}{Q Q':DK}(m:∀d,Q d->Q' d)(h:onV o Q):onV o Q':=by
 cases o with
 | none=>exact h
 | some d=>exact m _ h
def z9C {o:Option D}{Q:DK}(h:onV o Q):∃d,o=some d/\Q d:=by
 cases o with
 | none=>exact h.elim
 | some d=>exact⟨d,rfl,h⟩
def gAdd (a b:D)(Q:DK):Prop:=match a,b with
 | .int i,.int j=>Q (.int (i+j))
 | .str x,.str y=>x.length+y.length<=sizeLine/\Q (.str (x++y))
 | .lst l,.lst m=>l.length+m.length<=sizeLine/\Q (.lst (l++m))
 | .tup l,.tup m=>l.length+m.length<=sizeLine/\Q (.tup (l++m))
 | _,_=>False
def zcd (a b:D)(Q Q':DK)(m:∀d,Q d->Q' d)(h:gAdd a b Q):gAdd a b Q':=by
 unfold gAdd at h ⊢
 split at h
 .exact m _ h
 .exact⟨h.1,m _ h.2⟩
 .exact⟨h.1,m _ h.2⟩
 .exact⟨h.1,m _ h.2⟩
 .exact h.elim
def pAdd:Fn:=fn2 gAdd zcd
def gI (g:Int->Int->DK->Prop)(a b:D)(Q:DK):Prop:=match a,b with
 | .int i,.int j=>g i j Q
 | _,_=>False
def zgh {g:Int->Int->DK->Prop}(hg:∀i j (Q Q':DK),(∀d,Q d->Q' d)->g i j Q->g i j Q')(a b:D)(Q Q':DK)(m:∀d,Q d->Q' d)(h:gI g a b Q):gI g a b Q':=by
 unfold gI at h ⊢
 split at h
 .exact hg _ _ _ _ m h
 .exact h.elim
def fnI (g:Int->Int->DK->Prop)(hg:∀i j (Q Q':DK),(∀d,Q d->Q' d)->g i j Q->g i j Q'):Fn:=fn2 (gI g) (zgh hg)
def pSub:Fn:=fnI (λi j Q=>Q (.int (i - j))) λ_ _ _ _ m h=>m _ h
def z1A:Fn:=fnI (λi j Q=>zjg i j/\Q (.int (i.fdiv j))) λ_ _ _ _ m h=>⟨h.1,m _ h.2⟩
def pMod:Fn:=fnI (λi j Q=>j≠0/\Q (.int (i.fmod j))) λ_ _ _ _ m h=>⟨h.1,m _ h.2⟩
def pPow:Fn:=fnI (λi j Q=>CPow i j/\Q (.int (i ^ j.toNat))) λ_ _ _ _ m h=>⟨h.1,m _ h.2⟩
def gNeg (a:D)(Q:DK):Prop:=match a with
 | .int i=>Q (.int (-i))
 | _=>False
def pNeg:Fn:=fn1 gNeg λa Q Q' m h=>by
 unfold gNeg at h ⊢
 split at h
 .exact m _ h
 .exact h.elim
section
variable {X:Cx}{K:W.Frag}{mg:WmP}
def r2 (K:W.Frag)(mg:WmP)(F:Fn):R2:=λv1 v2 H Q=>∃G d1 d2 Q0 X0,Same G H/\RD K mg G d1 v1/\RD K mg G d2 v2/\F.run [d1,d2] Q0 X0/\Kt K mg G H Q0 Q
def r1 (K:W.Frag)(mg:WmP)(F:Fn):V->Hp->VK->Prop:=λv H Q=>∃G d Q0 X0,Same G H/\RD K mg G d v/\F.run [d] Q0 X0/\Kt K mg G H Q0 Q
def rN (K:W.Frag)(mg:WmP)(F:Fn):List V->Hp->VK->Prop:=λvs H Q=>∃G ds Q0 X0,Same G H/\RDs K mg G ds vs/\F.run ds Q0 X0/\Kt K mg G H Q0 Q
def lk2 {F:Fn}:Lk2 K mg F (r2 K mg F):=λG H d1 d2 v1 v2 Q0 X0 Q a b c d e=>⟨G,d1,d2,Q0,X0,a,b,c,d,e⟩
def lk1 {F:Fn}:Lk1 K mg F (r1 K mg F):=λG H d v Q0 X0 Q a b c d=>⟨G,_,Q0,X0,a,b,c,d⟩
def lkN {F:Fn}:LkN K mg F (rN K mg F):=λG H d v Q0 X0 Q a b c d=>⟨G,_,Q0,X0,a,b,c,d⟩
def zdU {prog:Program}{w:World}{A:Around}{E:WvP}{s:Shared}{t b:Addr}{ws:List Value}{Q:WvP}(ht:IsTup s.heap t ([]:List Value).toArray)(hb:IsTup s.heap b ws.toArray)(h:Q (.ref b) s):wpAny (model prog w) A (binaryOp .Add (.ref t) (.ref b)) Q E s:=by
 obtain⟨⟨cls,dd,data,sl⟩,ho,hc,n,hd⟩:=id ht;w_why;simp only at hc hd hc2 hd2;subst hc hd hc2 hd2;exact concat_meets ⟨_,ho,rfl⟩ ⟨_,ho2,rfl⟩ noFill_tuple_add seq_tuple_add PySem.F.slot_tuple_add PySem.F.entry_tuple_add (PySem.F.args_tuple_add_2 _ _)
   (tuple_addW0 t b _ ws.toArray n n2 dd dd2 sl sl2 (by simp)) ⟨ho,ho2,h⟩
def zds:OpR X (binaryOp .Add) (λx y H Q=>∃a b ys,x = .ref a/\y = .ref b/\SqT X.K H a []/\SqT X.K H b ys/\Q (.ref b) H):=by
 x_go;obtain⟨a,b,ys,rfl,rfl,ha,hb,q⟩:=h
 cases rx
 cases ry
 obtain⟨its,r1,p1,_⟩:=I.tuple ha;k_data
 cases r1
 exact zdU p1 p2 ⟨.ref b,H,I,rfl,q⟩
def zjE (K:W.Frag):R2:=λx y H Q=>∃l b xs zs,x = .ref l/\y = .ref b/\SqL K H l xs/\SqL K H b zs/\xs.length+zs.length<=sizeLine/\∀p,H p=none->Q (.ref p) (upd H p (.lst (xs++zs)))
def zbL:OpR X (binaryOp .Add) (zjE X.K):=by
 x_go;obtain⟨l,b,xs,zs,rfl,rfl,hH,hB,hz,q⟩:=h
 cases rx
 cases ry
 obtain⟨its,r,⟨⟨cls,dd,data,sl⟩,n,e,hc,_,hd⟩,z1⟩:=I.list hH;obtain⟨its2,r2,⟨⟨cls2,dd2,data2,sl2⟩,n2,e2,hc2,_,hd2⟩,z2⟩:=I.list hB;dsimp only at hc hd hc2 hd2;subst hc hd hc2 hd2;have l1:=r.length;have l2:=r2.length;have ea:its.toArray++its2.toArray=(its++its2).toArray:=by simp
 refine concat_meets ⟨_,e,rfl⟩ ⟨_,e2,rfl⟩ noFill_list_add seq_list_add PySem.F.slot_list_add PySem.F.entry_list_add (PySem.F.args_list_add_2 _ _) (list_addW l b its.toArray its2.toArray n n2 dd dd2 sl sl2 (by simp only[wI];omega)) ⟨e,e2,?_⟩;rw[ea];exact⟨.ref _,_,I.lnew (t':=s.toks) (r.append r2) (by rw[wz];omega),rfl,q _ I.fresh⟩
def z2Q {G:Hp}{l:List D}{v:V}(h:RD K mg G (.tup l) v):∃a xs,v = .ref a/\SqT K G a xs/\RDs K mg G l xs:=by rw[RD] at h;exact h
def z1K {G:Hp}{l:List D}{v:V}(h:RD K mg G (.lst l) v):∃a xs,v = .ref a/\SqL K G a xs/\RDs K mg G l xs:=by rw[RD] at h;exact h
def z3r {G:Hp}{x:Str}{v:V}(h:RD K mg G (.str x) v):v = .str x:=by rw[RD] at h;exact h
def z7O {G:Hp}{x:Bool}{v:V}(h:RD K mg G (.bl x) v):v = .bl x:=by rw[RD] at h;exact h
def z6y {G:Hp}{v:V}(h:RD K mg G .non v):v = .non:=by rw[RD] at h;exact h
def RD.newT {G H:Hp}{p:Addr}{l:List D}{xs:List V}(r:RDs K mg G l xs)(g:Same G H)(hp:H p=none):RD K mg (upd G p (.tup xs)) (.tup l) (.ref p):=by
 rw[RD];exact⟨p,xs,rfl,SqT.of z06,r.same (z0P (z0p g hp) _)⟩
def RD.newL {G H:Hp}{p:Addr}{l:List D}{xs:List V}(r:RDs K mg G l xs)(g:Same G H)(hp:H p=none):RD K mg (upd G p (.lst xs)) (.lst l) (.ref p):=by
 rw[RD];exact⟨p,xs,rfl,SqL.of z06,r.same (z0P (z0p g hp) _)⟩
def RD.ofT {G:Hp}{a:Addr}{l:List D}{xs:List V}(h:SqT K G a xs)(r:RDs K mg G l xs):RD K mg G (.tup l) (.ref a):=by rw[RD];exact⟨a,xs,rfl,h,r⟩
def RD.ofL {G:Hp}{a:Addr}{l:List D}{xs:List V}(h:SqL K G a xs)(r:RDs K mg G l xs):RD K mg G (.lst l) (.ref a):=by rw[RD];exact⟨a,xs,rfl,h,r⟩
def RD.int' {G:Hp}{i:Int}:RD K mg G (.int i) (.int i):=by rw[RD]
def RD.bl' {G:Hp}{i:Bool}:RD K mg G (.bl i) (.bl i):=by rw[RD]
def RD.str' {G:Hp}{i:Str}:RD K mg G (.str i) (.str i):=by rw[RD]
def RDs.ne_nil {G:Hp}{l:List D}{xs:List V}(r:RDs K mg G l xs):xs=[]↔l=[]:=by
 have:=r.len
 constructor
 .rintro rfl;exact List.length_eq_zero_iff.mp this.symm
 .rintro rfl;exact List.length_eq_zero_iff.mp this
def z19:OpR X (binaryOp .Add) (r2 X.K X.mg pAdd):=by
 rintro pins s σ H x y v u Q I rx ry ⟨G,d1,d2,Q0,X0,g,h1,h2,hr,hk⟩;have hr':gAdd d1 d2 Q0:=hr;unfold gAdd at hr'
 split at hr'
 .exact zib pins s σ H x y v u Q I rx ry ⟨_,_,z15 h1,z15 h2,hk.now g hr' RD.int'⟩
 .exact zaa pins s σ H x y v u Q I rx ry ⟨_,_,z3r h1,z3r h2,hr'.1,hk.now g hr'.2 RD.str'⟩
 .obtain⟨a,xs,rfl,s1,r1⟩:=z1K h1;obtain⟨b,zs,rfl,s2,r2⟩:=z1K h2;exact zbL pins s σ H _ _ v u Q I rx ry ⟨a,b,xs,zs,rfl,rfl,z1d g s1,z1d g s2,by rw[r1.len,r2.len];exact hr'.1,λp hp=>hk.new g hp hr'.2 (RD.newL (r1.app r2) g hp)⟩
 .obtain⟨a,xs,rfl,s1,r1⟩:=z2Q h1;obtain⟨b,zs,rfl,s2,r2⟩:=z2Q h2
  by_cases hx:xs=[]
  .subst hx;have e:=r1.ne_nil.mp rfl;subst e;exact zds pins s σ H _ _ v u Q I rx ry ⟨a,b,zs,rfl,rfl,z1H g s1,z1H g s2,hk.now g hr'.2 (RD.ofT s2 r2)⟩
  .refine zfZ pins s σ H _ _ v u Q I rx ry ⟨a,b,xs,zs,rfl,rfl,z1H g s1,z1H g s2,hx,by rw[r1.len,r2.len];exact hr'.1,λe =>?_,λe p hp=>hk.new g hp hr'.2 (RD.newT (r1.app r2) g hp)⟩;have e:=r2.ne_nil.mp e;subst e;refine hk.now g hr'.2 ?_;rw[wQ];exact RD.ofT s1 r1
 .exact hr'.elim
def z92 {g:Int->Int->DK->Prop}{a b:D}{Q:DK}(h:gI g a b Q):∃i j,a = .int i/\b = .int j/\g i j Q:=by
 unfold gI at h
 split at h
 .exact⟨_,_,rfl,rfl,h⟩
 .exact h.elim
def zdy {f:Value->Value->Sem Value}{C:Int->Int->Prop}{gv:Int->Int->Int}{hg}(h:OpR X f (rI C λi j =>.int (gv i j))):OpR X f (r2 X.K X.mg (fnI (λi j Q=>C i j/\Q (.int (gv i j))) hg)):=h.imp <| by
 rintro x y H Q ⟨G,d1,d2,Q0,X0,g,h1,h2,hr,hk⟩;obtain⟨i,j,rfl,rfl,c,q⟩:=z92 (show gI (λi j Q=>C i j/\Q (.int (gv i j))) d1 d2 Q0 from hr);exact⟨i,j,z15 h1,z15 h2,c,hk.now g q RD.int'⟩
def z6A:OpR X (binaryOp .Sub) (r2 X.K X.mg pSub):=zi3.imp <| by
 rintro x y H Q ⟨G,d1,d2,Q0,X0,g,h1,h2,hr,hk⟩;obtain⟨i,j,rfl,rfl,q⟩:=z92 (show gI (λi j Q=>Q (.int (i - j))) d1 d2 Q0 from hr);exact⟨i,j,z15 h1,z15 h2,hk.now g q RD.int'⟩
def z0u:OpR X (binaryOp .FloorDiv) (r2 X.K X.mg z1A):=zdy zdr
def z0H:OpR X (binaryOp .Mod) (r2 X.K X.mg pMod):=zdy zfY
def z5V:OpR X (binaryOp .Pow) (r2 X.K X.mg pPow):=zdy zi4
def z5P:UnR X (unaryOp .USub) (r1 X.K X.mg pNeg):=by
 rintro pins s σ H x v Q I rx ⟨G,d,Q0,X0,g,h1,hr,hk⟩;have hr':gNeg d Q0:=hr;unfold gNeg at hr'
 split at hr'
 .exact zgv pins s σ H x v Q I rx ⟨_,z15 h1,hk.now g hr' RD.int'⟩
 .exact hr'.elim
def z17:Fn:=fnI (λi j Q=>zgr i j/\Q (.int (i*j))) λ_ _ _ _ m h=>⟨h.1,m _ h.2⟩
def z0y:OpR X (binaryOp .Mult) (r2 X.K X.mg z17):=zdy zfX
end
end Pu
namespace HT
open PySem PyProof.Rows
section
open PySem.SeqAt
open PySem.AutoSeq1 (wpAny_loadPart')
open PySem.MeetsSeq PySem.MeetsSeq2 PySem.MeetsSeq3
def zcW (A:Around)(s:Shared)(a:Int)(t:Tok)(c:Int)(u:Tok)(prog:Program)(w:World)(E:WvP)(Q:WvP)(h:Q (.bool (decide (c<a))) s):
  wpAny (model prog w) A (richCompare .Gt (.int a t) (.int c u)) Q E s:=
 (PyProof.Rows.gt_int h:wpAny (model prog w) A (compareOp .Gt (.int a t) (.int c u)) Q E s)
def z6M (l b:Addr)(items items2:Array Value)(n n2:Nat)(dd dd2:Option Addr)(sl sl2:Array (Option Value))(ns ms:List Int)(hi:IntsAre items.toList ns)(hj:IntsAre items2.toList ms):
  Meets (Builtin.«tuple.__gt__» ⟨[.ref l,.ref b],[]⟩)
   (λ_ R s=>s.heap.get? l=some { cls :=.type "tuple",dict:=dd,data :=.seq items n,slots:=sl }/\s.heap.get? b=some { cls :=.type "tuple",dict:=dd2,data :=.seq items2 n2,slots:=sl2 }/\
    R (.ok (.ret (.bool (z1y ms ns)))) s):=
 .of_wp λprog w A R s h=>by
  obtain⟨hp,g,d,tk,os⟩:=s;obtain⟨hl,hb,h⟩:=h;have f2:=AutoSeq1.sub_tuple_tuple;have z1:items.size=ns.length:=by rw[<- hi.length];simp
  have z2:items2.size=ms.length:=by rw[<- hj.length];simp
  wp_walk using v6 hl,v6 hb,wpAny_forIn_list _ (λrest b s'=>b.1=none/\s'=⟨hp,g,d,tk,os⟩/\∃(vs ws:List Value) (ns' ms':List Int),rest=vs.zip ws/\
   IntsAre vs ns'/\IntsAre ws ms'/\ns'.length+items2.size=ms'.length+items.size/\R (.ok (.ret (.bool (z1y ms' ns')))) ⟨hp,g,d,tk,os⟩) _
  case turn=>
   f_are
   cases hvi with
   | nil=>rw[List.zip_nil_left] at hz;cases hz
   | cons a t hvi'=>
    cases hwi with
    | nil=>rw[List.zip_nil_right] at hz;cases hz
    | cons c u hwi'=>
     rw[wS] at hz
     injection hz with hyx hrest
     injection hyx with hy hx
     subst hy hx;rw[z4V] at hR;simp only[wL] at hlen;obtain⟨e,he,hiff⟩:=z7q A.in1 ⟨hp,g,d,tk,os⟩ a t c u;refine wa (he prog w _ _ ?_)
     cases e with
     | true=>
      rw[if_pos (hiff.mp rfl).symm] at hR
      wp_walk
      exact⟨rfl,rfl,_,_,_,_,hrest,hvi',hwi',by omega,hR⟩
     | false=>
      rw[if_neg (λq=>absurd (hiff.mpr (Eq.symm q)) wM)] at hR;have hri:=zcW A.in1 ⟨hp,g,d,tk,os⟩ a t c u prog w
      wp_walk using hri
      exact⟨_,rfl,by simpa using hR⟩
  case fin=>
   x_run;simp only at hb';subst hb';have hv:z1y ms' ns'=decide (items2.size<items.size):=by
    cases hvi with
    | nil=>
     cases hwi with
     | nil=>
      simp only[vw] at hlen;rw[z30];exact(wF (by omega)).symm
     | cons c u hw=>
      simp only[vw,wL] at hlen;rw[z2L];exact(wF (by omega)).symm
    | cons a t hv=>
     cases hwi with
     | nil=>
      simp only[vw,wL] at hlen;rw[z2K];exact(wu (by omega)).symm
     | cons c u hw=>
      rw[wS] at hz
      cases hz
   rw[hv] at hR
   wp_walk
   k_upd
  case h=>
   exact⟨rfl,rfl,items.toList,items2.toList,ns,ms,rfl,hi,hj,by omega,h⟩
def zcV (A:Around)(s:Shared)(a:Int)(t:Tok)(c:Int)(u:Tok)(prog:Program)(w:World)(E:WvP)(Q:WvP)(h:Q (.bool (decide (a<=c))) s):
  wpAny (model prog w) A (richCompare .LtE (.int a t) (.int c u)) Q E s:=
 (PyProof.Rows.le_int h:wpAny (model prog w) A (compareOp .LtE (.int a t) (.int c u)) Q E s)
def z6L (l b:Addr)(items items2:Array Value)(n n2:Nat)(dd dd2:Option Addr)(sl sl2:Array (Option Value))(ns ms:List Int)(hi:IntsAre items.toList ns)(hj:IntsAre items2.toList ms):
  Meets (Builtin.«tuple.__le__» ⟨[.ref l,.ref b],[]⟩)
   (λ_ R s=>s.heap.get? l=some { cls :=.type "tuple",dict:=dd,data :=.seq items n,slots:=sl }/\s.heap.get? b=some { cls :=.type "tuple",dict:=dd2,data :=.seq items2 n2,slots:=sl2 }/\
    R (.ok (.ret (.bool (!z1y ms ns)))) s):=
 .of_wp λprog w A R s h=>by
  obtain⟨hp,g,d,tk,os⟩:=s;obtain⟨hl,hb,h⟩:=h;have f2:=AutoSeq1.sub_tuple_tuple;have z1:items.size=ns.length:=by rw[<- hi.length];simp
  have z2:items2.size=ms.length:=by rw[<- hj.length];simp
  wp_walk using v6 hl,v6 hb,wpAny_forIn_list _ (λrest b s'=>b.1=none/\s'=⟨hp,g,d,tk,os⟩/\∃(vs ws:List Value) (ns' ms':List Int),rest=vs.zip ws/\
   IntsAre vs ns'/\IntsAre ws ms'/\ns'.length+items2.size=ms'.length+items.size/\R (.ok (.ret (.bool (!z1y ms' ns')))) ⟨hp,g,d,tk,os⟩) _
  case turn=>
   f_are
   cases hvi with
   | nil=>rw[List.zip_nil_left] at hz;cases hz
   | cons a t hvi'=>
    cases hwi with
    | nil=>rw[List.zip_nil_right] at hz;cases hz
    | cons c u hwi'=>
     rw[wS] at hz
     injection hz with hyx hrest
     injection hyx with hy hx
     subst hy hx;rw[z4V] at hR;simp only[wL] at hlen;obtain⟨e,he,hiff⟩:=z7q A.in1 ⟨hp,g,d,tk,os⟩ a t c u;refine wa (he prog w _ _ ?_)
     cases e with
     | true=>
      rw[if_pos (hiff.mp rfl).symm] at hR
      wp_walk
      exact⟨rfl,rfl,_,_,_,_,hrest,hvi',hwi',by omega,hR⟩
     | false=>
      have hne:¬ c=a:=λq=>absurd (hiff.mpr (Eq.symm q)) wM;rw[if_neg hne] at hR;have hri:=zcV A.in1 ⟨hp,g,d,tk,os⟩ a t c u prog w;have ed:(!decide (c<a))=decide (a<=c):=by
       rw[<- decide_not,decide_eq_decide];omega
      rw[ed] at hR
      wp_walk using hri
      exact⟨_,rfl,by simpa using hR⟩
  case fin=>
   x_run;simp only at hb';subst hb';have hv:(!z1y ms' ns')=decide (items.size<=items2.size):=by
    cases hvi with
    | nil=>
     cases hwi with
     | nil=>
      simp only[vw] at hlen;rw[z30];exact(wu (by omega)).symm
     | cons c u hw=>
      simp only[vw,wL] at hlen;rw[z2L];exact(wu (by omega)).symm
    | cons a t hv=>
     cases hwi with
     | nil=>
      simp only[vw,wL] at hlen;rw[z2K];exact(wF (by omega)).symm
     | cons c u hw=>
      rw[wS] at hz
      cases hz
   rw[hv] at hR
   wp_walk
   k_upd
  case h=>
   exact⟨rfl,rfl,items.toList,items2.toList,ns,ms,rfl,hi,hj,by omega,h⟩
end
section
variable {prog:Program}{w:World}{A:Around}{E:WvP}{s:Shared}
def zan {l b:Addr}{items items2:Array Value}{ns ms:List Int}{Q:WvP}(hl:IsTup s.heap l items)(hb:IsTup s.heap b items2)(hi:IntsAre items.toList ns)(hj:IntsAre items2.toList ms)
  (hu:A.units<cLine) (h:Q (.bool (z1y ms ns)) s):wpAny (model prog w) A (compareOp .Gt (.ref l) (.ref b)) Q E s:=by
 obtain⟨⟨cls,dd,data,sl⟩,ho,hc,n,hd⟩:=id hl;w_why;simp only at hc hd hc2 hd2;subst hc hd hc2 hd2;exact richCompare_meets_room (op :=.Gt) ⟨_,ho,rfl⟩ ⟨_,ho2,rfl⟩ PySem.F.slot_tuple_gt PySem.F.entry_tuple_gt (PySem.F.args_tuple_gt_2 _ _) (z6M l b items items2 n n2 dd dd2 sl sl2 ns ms hi hj)
  ⟨ho,ho2,show Value.bool (z1y ms ns)≠Value.notImplemented/\Q (.bool (z1y ms ns)) s from ⟨(λx=>nomatch x),h⟩⟩ hu
def zal {l b:Addr}{items items2:Array Value}{ns ms:List Int}{Q:WvP}(hl:IsTup s.heap l items)(hb:IsTup s.heap b items2)(hi:IntsAre items.toList ns)(hj:IntsAre items2.toList ms)
  (hu:A.units<cLine) (h:Q (.bool (!z1y ms ns)) s):wpAny (model prog w) A (compareOp .LtE (.ref l) (.ref b)) Q E s:=by
 obtain⟨⟨cls,dd,data,sl⟩,ho,hc,n,hd⟩:=id hl;w_why;simp only at hc hd hc2 hd2;subst hc hd hc2 hd2;exact richCompare_meets_room (op :=.LtE) ⟨_,ho,rfl⟩ ⟨_,ho2,rfl⟩ PySem.F.slot_tuple_le PySem.F.entry_tuple_le (PySem.F.args_tuple_le_2 _ _) (z6L l b items items2 n n2 dd dd2 sl sl2 ns ms hi hj)
  ⟨ho,ho2,show Value.bool (!z1y ms ns)≠Value.notImplemented/\Q (.bool (!z1y ms ns)) s from ⟨(λx=>nomatch x),h⟩⟩ hu
end
end HT
namespace Pu
open PySem PySem.Spec PyProof.Rows L2
def ints? : List D->Option (List Int)
 | []=>some []
 | .int i::r=>match ints? r with
  | some l=>some (i::l)
  | none=>none
 | _::_=>none
theorem z4y:∀{l:List D}{ns:List Int},ints? l=some ns->l=ns.map D.int
 | [],ns,h=>by
  have:ns=[]:=by simpa[ints?] using h.symm
  subst this;rfl
 | .int i::r,ns,h=>by
  unfold ints? at h
  cases q:ints? r with
  | none=>rw[q] at h;cases h
  | some l=>
   rw[q] at h
   cases h
   rw[z4y q];rfl
 | .non::_,_,h=>by simp[ints?] at h
 | .bl _::_,_,h=>by simp[ints?] at h
 | .str _::_,_,h=>by simp[ints?] at h
 | .tup _::_,_,h=>by simp[ints?] at h
 | .lst _::_,_,h=>by simp[ints?] at h
 | .dct _ _::_,_,h=>by simp[ints?] at h
 | .fn _::_,_,h=>by simp[ints?] at h
 | .exc _::_,_,h=>by simp[ints?] at h
 | .ptr _::_,_,h=>by simp[ints?] at h
 | .fz _ _::_,_,h=>by simp[ints?] at h
 | .ins _ _ _::_,_,h=>by simp[ints?] at h
def zdI (ns:List Int):ints? (ns.map D.int)=some ns:=by
 induction ns with
 | nil=>rfl
 | cons n ns ih=>rw[wA,ints?, ih]
def onI (o:Option (List Int))(Q:List Int->Prop):Prop:=match o with
 | some l=>Q l
 | none=>False
def z71 {o:Option (List Int)}{Q Q':List Int->Prop}(m:∀d,Q d->Q' d)(h:onI o Q):onI o Q':=by
 cases o with
 | none=>exact h
 | some d=>exact m _ h
def z70 {o:Option (List Int)}{Q:List Int->Prop}(h:onI o Q):∃d,o=some d/\Q d:=by
 cases o with
 | none=>exact h.elim
 | some d=>exact⟨d,rfl,h⟩
def gCmp (f:Int->Int->Bool)(t:List Int->List Int->Bool)(a b:D)(Q:DK):Prop:=match a,b with
 | .int i,.int j=>Q (.bl (f i j))
 | .tup l,.tup m=>onI (ints? l) λns=>onI (ints? m) λms=>Q (.bl (t ns ms))
 | _,_=>False
def z62 {f:Int->Int->Bool}{t:List Int->List Int->Bool}(a b:D)(Q Q':DK)(m:∀d,Q d->Q' d)(h:gCmp f t a b Q):gCmp f t a b Q':=by
 unfold gCmp at h ⊢
 split at h
 .exact m _ h
 .exact z71 (λ_ h=>z71 (λ_ h=>m _ h) h) h
 .exact h.elim
def pLt:Fn:=fn2 (gCmp (λi j=>decide (i<j)) λns ms=>HT.z1y ns ms) z62
def pGt:Fn:=fn2 (gCmp (λi j=>decide (j<i)) λns ms=>HT.z1y ms ns) z62
def pLe:Fn:=fn2 (gCmp (λi j=>decide (i<=j)) λns ms => !HT.z1y ms ns) z62
section
variable {X:Cx}{K:W.Frag}{mg:WmP}
theorem z5r {G:Hp}:∀(ns:List Int) {xs:List V},RDs K mg G (ns.map D.int) xs->xs=ns.map V.int
 | [],xs,h=>by rw[vq,RDs] at h;subst h;rfl
 | n::ns,xs,h=>by
  rw[wA,RDs] at h;obtain⟨x,r,rfl,h1,h2⟩:=h;rw[z15 h1,z5r ns h2];rfl
theorem z9K {G:Hp}:∀(ns:List Int),RDs K mg G (ns.map D.int) (ns.map V.int)
 | []=>RDs.nil
 | n::ns=>RDs.cons RD.int' (z9K ns)
def zg3 {op:CmpOp}{f:Int->Int->Bool}{t:List Int->List Int->Bool}{hm}(hi:OpR X (compareOp op) (rI0 λi j =>.bl (f i j)))(ht:OpR X (compareOp op) (λx y H Q=>∃a b ns ms,x = .ref a/\y = .ref b/\SqT X.K H a (ns.map V.int)/\SqT X.K H b (ms.map V.int)/\Q (.bl (t ns ms)) H)):
  OpR X (compareOp op) (r2 X.K X.mg (fn2 (gCmp f t) hm)):=by
 rintro pins s σ H x y v u Q I rx ry ⟨G,d1,d2,Q0,X0,g,h1,h2,hr,hk⟩;have hr':gCmp f t d1 d2 Q0:=hr;unfold gCmp at hr'
 split at hr'
 .exact hi pins s σ H x y v u Q I rx ry ⟨_,_,z15 h1,z15 h2,hk.now g hr' RD.bl'⟩
 .obtain⟨ns,e1,hr'⟩:=z70 hr';obtain⟨ms,e2,hr'⟩:=z70 hr';obtain⟨a,xs,rfl,s1,r1⟩:=z2Q h1;obtain⟨b,ys,rfl,s2,r2⟩:=z2Q h2;rw[z4y e1] at r1;rw[z4y e2] at r2;rw[z5r ns r1] at s1;rw[z5r ms r2] at s2;exact ht pins s σ H _ _ v u Q I rx ry ⟨a,b,ns,ms,rfl,rfl,z1H g s1,z1H g s2,hk.now g hr' RD.bl'⟩
 .exact hr'.elim
def zg4 (hu:X.A.units+64<cLine):OpR X (compareOp .Lt) (r2 X.K X.mg pLt):=zg3 zjV (zi6 (by omega))
def zi9 (hu:X.A.units<cLine):OpR X (compareOp .Gt) (λx y H Q=>∃a b ns ms,x = .ref a/\y = .ref b/\SqT X.K H a (ns.map V.int)/\SqT X.K H b (ms.map V.int)/\Q (.bl (HT.z1y ms ns)) H):=by
 x_go;obtain⟨a,b,ns,ms,rfl,rfl,ha,hb,q⟩:=h
 cases rx
 cases ry
 obtain⟨its,r1,p1,_⟩:=I.tuple ha;k_data;exact HT.zan p1 p2 (z2i r1) (z2i r2) hu ⟨.bl (HT.z1y ms ns),H,I,rfl,q⟩
def zi7 (hu:X.A.units<cLine):OpR X (compareOp .LtE) (λx y H Q=>∃a b ns ms,x = .ref a/\y = .ref b/\SqT X.K H a (ns.map V.int)/\SqT X.K H b (ms.map V.int)/\Q (.bl (!HT.z1y ms ns)) H):=by
 x_go;obtain⟨a,b,ns,ms,rfl,rfl,ha,hb,q⟩:=h
 cases rx
 cases ry
 obtain⟨its,r1,p1,_⟩:=I.tuple ha;k_data;exact HT.zal p1 p2 (z2i r1) (z2i r2) hu ⟨.bl (!HT.z1y ms ns),H,I,rfl,q⟩
def zdB (hu:X.A.units+64<cLine):OpR X (compareOp .Gt) (r2 X.K X.mg pGt):=zg3 zjX (zi9 (by omega))
def z8W (hu:X.A.units+64<cLine):OpR X (compareOp .LtE) (r2 X.K X.mg pLe):=zg3 zjW (zi7 (by omega))
def pGeI:Fn:=fnI (λi j Q=>Q (.bl (decide (j<=i)))) λ_ _ _ _ m h=>m _ h
def zif:OpR X (compareOp .GtE) (r2 X.K X.mg pGeI):=zjY.imp <| by
 rintro x y H Q ⟨G,d1,d2,Q0,X0,g,h1,h2,hr,hk⟩;obtain⟨i,j,rfl,rfl,q⟩:=z92 (show gI (λi j Q=>Q (.bl (decide (j<=i)))) d1 d2 Q0 from hr);exact⟨i,j,z15 h1,z15 h2,hk.now g q RD.bl'⟩
end
mutual
def py:D->PyData
 | .non =>.none
 | .bl b =>.bool b
 | .int i =>.int i
 | .str x =>.str x
 | .tup l =>.tuple (pys l)
 | .lst l =>.list (pys l)
 | _ =>.none
def pys:List D->List PyData
 | []=>[]
 | d::ds=>py d::pys ds
end
def Da:Nat->D->Prop
 | _,.non=>True
 | _,.bl _=>True
 | _,.int _=>True
 | _,.str x=>PyData.strOk x=true
 | 0,.tup _=>False
 | n+1,.tup l=>∀d∈l,Da n d
 | 0,.lst _=>False
 | n+1,.lst l=>∀d∈l,Da n d
 | _,.dct _ _=>False
 | _,.fn _=>False
 | _,.exc _=>False
 | _,.ptr _=>False
 | _,.fz _ _=>False
 | _,.ins _ _ _=>False
section
variable {X:Cx}{K:W.Frag}{mg:WmP}
theorem Da.tup {n:Nat}{l:List D}:Da (n+1) (.tup l)↔∀d∈l,Da n d:=by rw[Da]
theorem Da.lst {n:Nat}{l:List D}:Da (n+1) (.lst l)↔∀d∈l,Da n d:=by rw[Da]
theorem Da.int {n:Nat}{i:Int}:Da n (.int i):=by cases n <;> (rw[Da];trivial)
theorem Da.non {n:Nat}:Da n .non:=by cases n <;> (rw[Da];trivial)
theorem Da.str {n:Nat}{x:Str}:Da n (.str x)↔PyData.strOk x=true:=by cases n <;> rw[Da]
def Da.canLay:∀(n:Nat) (d:D),Da n d->(py d).canLay0=true/\(py d).depth<=n:=by
 intro n
 induction n with
 | zero=>
  intro d h
  cases d with
  | non=>exact⟨rfl,wG _⟩
  | bl _=>exact⟨rfl,wG _⟩
  | int _=>exact⟨rfl,wG _⟩
  | str x=>exact⟨by rw[py,PyData.canLay0];exact Da.str.mp h,by rw[py,PyData.depth];exact wG _⟩
  | _=>rw[Da] at h;exact h.elim
 | succ n ih=>
  have all:∀l:List D,(∀d∈l,Da n d)->PyData.canLayAll0 (pys l)=true/\PyData.depthAll (pys l)<=n:=by
   intro l
   induction l with
   | nil=>intro _;exact⟨rfl,vh _⟩
   | cons d l ihl=>
    intro h;obtain⟨a1,a2⟩:=ih d (h d ww);obtain⟨b1,b2⟩:=ihl λx hx=>h x (we _ hx);rw[pys,PyData.canLayAll0,PyData.depthAll,a1,b1];exact⟨rfl,Nat.max_le.mpr ⟨a2,b2⟩⟩
  intro d h
  cases d with
  | non=>exact⟨rfl,vh _⟩
  | bl _=>exact⟨rfl,vh _⟩
  | int _=>exact⟨rfl,vh _⟩
  | str x=>exact⟨by rw[py,PyData.canLay0];exact Da.str.mp h,by rw[py,PyData.depth];exact vh _⟩
  | tup l=>
   obtain⟨a,b⟩:=all l (Da.tup.mp h);exact⟨by rw[py,PyData.canLay0];exact a,by rw[py,PyData.depth];omega⟩
  | lst l=>
   obtain⟨a,b⟩:=all l (Da.lst.mp h);exact⟨by rw[py,PyData.canLay0];exact a,by rw[py,PyData.depth];omega⟩
  | _=>rw[Da] at h;exact h.elim
theorem Da.shaped {n:Nat}{d:D}(h:Da n d)(hn:n<=64):PySem.SeqAt.shaped (py d)=true:=by
 obtain⟨a,b⟩:=Da.canLay n d h;unfold PySem.SeqAt.shaped;rw[a,wu (wX b hn)]
 rfl
def Da.rp {G:Hp}:∀(n:Nat) (d:D) {v:V},Da n d->RD K mg G d v->Rp K G (py d) v:=by
 intro n
 induction n with
 | zero=>
  intro d v h r
  cases d with
  | non=>rw[py,Rp];exact z6y r
  | bl _=>rw[py,Rp];exact z7O r
  | int _=>rw[py,Rp];exact z15 r
  | str x=>rw[py,Rp];exact z3r r
  | _=>rw[Da] at h;exact h.elim
 | succ n ih=>
  have all:∀(l:List D) {xs:List V},(∀d∈l,Da n d)->RDs K mg G l xs->RpL K G (pys l) xs:=by
   intro l
   induction l with
   | nil=>intro xs _ r;rw[RDs] at r;subst r;rw[pys,RpL]
   | cons d l ihl=>
    intro xs h r;rw[RDs] at r;obtain⟨x,r',rfl,r1,r2⟩:=r;rw[pys,RpL];exact⟨x,r',rfl,ih d (h d ww) r1,ihl (λx hx=>h x (we _ hx)) r2⟩
  intro d v h r
  cases d with
  | non=>rw[py,Rp];exact z6y r
  | bl _=>rw[py,Rp];exact z7O r
  | int _=>rw[py,Rp];exact z15 r
  | str x=>rw[py,Rp];exact z3r r
  | tup l=>
   obtain⟨a,xs,rfl,h1,h2⟩:=z2Q r;rw[py,Rp];exact⟨a,xs,rfl,h1,all l (Da.tup.mp h) h2⟩
  | lst l=>
   obtain⟨a,xs,rfl,h1,h2⟩:=z1K r;rw[py,Rp];exact⟨a,xs,rfl,h1,all l (Da.lst.mp h) h2⟩
  | _=>rw[Da] at h;exact h.elim
end
def deq (a b:D):Bool:=PyData.eqv (py a) (py b)
def gEq (neg:Bool)(a b:D)(Q:DK):Prop:=match a,b with
 | .int i,.int j=>Q (.bl (if neg then !decide (i=j) else decide (i=j)))
 | .str x,.str y=>Q (.bl (if neg then !decide (x=y) else decide (x=y)))
 | .bl x,.bl y=>Q (.bl (if neg then !decide (x=y) else decide (x=y)))
 | a,b=>Da 60 a/\Da 60 b/\Q (.bl (if neg then !deq a b else deq a b))
def z7m {neg:Bool}(a b:D)(Q Q':DK)(m:∀d,Q d->Q' d)(h:gEq neg a b Q):gEq neg a b Q':=by
 unfold gEq at h ⊢
 split at h
 .exact m _ h
 .exact m _ h
 .exact m _ h
 .exact⟨h.1,h.2.1,m _ h.2.2⟩
def pEq:Fn:=fn2 (gEq false) z7m
def pNe:Fn:=fn2 (gEq true) z7m
section
variable {X:Cx}{K:W.Frag}{mg:WmP}
def z4Z {p q:Prop}[Decidable p][Decidable q](h:p↔q):decide p=decide q:=by rw[decide_eq_decide];exact h
def zez {op:CmpOp}{neg:Bool}(h1:OpR X (compareOp op) (λx y H Q=>scal x y=true/\Q (.bl (if neg then !decide (x=y) else decide (x=y))) H))(h2:OpR X (compareOp op) (rEqD X.K neg)):OpR X (compareOp op) (r2 X.K X.mg (fn2 (gEq neg) z7m)):=by
 rintro pins s σ H x y v u Q I rx ry ⟨G,d1,d2,Q0,X0,g,r1,r2,hr,hk⟩;have hr':gEq neg d1 d2 Q0:=hr;unfold gEq at hr'
 split at hr'
 .have e1:=z15 r1;have e2:=z15 r2;subst e1;subst e2;refine h1 pins s σ H _ _ v u Q I rx ry ⟨rfl,?_⟩;rw[z4Z (⟨λh=>V.int.inj h,λh=>congrArg V.int h⟩:V.int _=V.int _↔_)];exact hk.now g hr' RD.bl'
 .have e1:=z3r r1;have e2:=z3r r2;subst e1;subst e2;refine h1 pins s σ H _ _ v u Q I rx ry ⟨rfl,?_⟩;rw[z4Z (⟨λh=>V.str.inj h,λh=>congrArg V.str h⟩:V.str _=V.str _↔_)];exact hk.now g hr' RD.bl'
 .have e1:=z7O r1;have e2:=z7O r2;subst e1;subst e2;refine h1 pins s σ H _ _ v u Q I rx ry ⟨rfl,?_⟩;rw[z4Z (⟨λh=>V.bl.inj h,λh=>congrArg V.bl h⟩:V.bl _=V.bl _↔_)];exact hk.now g hr' RD.bl'
 .obtain⟨a1,a2,q⟩:=hr';exact h2 pins s σ H x y v u Q I rx ry ⟨_,_,(Da.rp 60 _ a1 r1).same g,(Da.rp 60 _ a2 r2).same g,a1.shaped (by decide),a2.shaped (by decide),hk.now g q RD.bl'⟩
def z1c (hu:X.A.units+64<cLine):OpR X (compareOp .Eq) (r2 X.K X.mg pEq):=zez (neg:=false) (zjZ.imp λ_ _ _ _ h=>h) (zia hu)
def z5m (hu:X.A.units+64<cLine):OpR X (compareOp .NotEq) (r2 X.K X.mg pNe):=zez (neg:=true) (zjU.imp λ_ _ _ _ h=>h) (zi5 hu)
def isN:D->Bool
 | .non=>true
 | _=>false
def gIs (neg:Bool)(a b:D)(Q:DK):Prop:=match b with
 | .non=>Q (.bl (if neg then !isN a else isN a))
 | _=>False
def z9N {neg:Bool}(a b:D)(Q Q':DK)(m:∀d,Q d->Q' d)(h:gIs neg a b Q):gIs neg a b Q':=by
 unfold gIs at h ⊢
 split at h
 .exact m _ h
 .exact h.elim
def pIs:Fn:=fn2 (gIs false) z9N
def z9A:Fn:=fn2 (gIs true) z9N
def zeh {G:Hp}{d:D}{v:V}(r:RD K mg G d v):decide (v = .non)=isN d:=by
 cases d with
 | non=>rw[z6y r];rfl
 | bl b=>rw[z7O r];rfl
 | int b=>rw[z15 r];rfl
 | str b=>rw[z3r r];rfl
 | tup l=>obtain⟨a,xs,rfl,_⟩:=z2Q r;rfl
 | lst l=>obtain⟨a,xs,rfl,_⟩:=z1K r;rfl
 | dct k v=>rw[RD] at r;obtain⟨a,xs,rfl,_⟩:=r;rfl
 | fn n=>rw[RD] at r;obtain⟨a,rfl,_⟩:=r;rfl
 | exc n=>rw[RD] at r;obtain⟨a,xs,rfl,_⟩:=r;rfl
 | ptr a=>rw[RD] at r;subst r;rfl
 | fz k v=>rw[RD] at r;obtain⟨a,xs,rfl,_⟩:=r;rfl
 | ins n fs cs=>rw[RD] at r;obtain⟨p,C,dx,xs,rfl,_⟩:=r;rfl
def zdA:OpR X (compareOp .Is) (r2 X.K X.mg pIs):=zi8.imp <| by
 w_left;have hr':gIs false d1 d2 Q0:=hr;unfold gIs at hr'
 split at hr'
 .exact⟨z6y r2,by rw[zeh r1];exact hk.now g hr' RD.bl'⟩
 .exact hr'.elim
def zdz:OpR X (compareOp .IsNot) (r2 X.K X.mg z9A):=zfW.imp <| by
 w_left;have hr':gIs true d1 d2 Q0:=hr;unfold gIs at hr'
 split at hr'
 .exact⟨z6y r2,by rw[zeh r1];exact hk.now g hr' RD.bl'⟩
 .exact hr'.elim
def z2D {g:D->DK->Prop}{m}{ds:List D}{Q:DK}{Xp:XP}(h:(fn1 g m).run ds Q Xp):∃d,ds=[d]/\g d Q:=by
 match ds,h with
 | [a],h=>exact⟨a,rfl,h⟩
 | [],h=>exact h.elim
 | _::_::_,h=>exact h.elim
def gLen (d:D)(Q:DK):Prop:=match d with
 | .lst l=>Q (.int (l.length:Int))
 | .tup l=>Q (.int (l.length:Int))
 | .str x=>x.length<=sizeLine/\Q (.int (x.length:Int))
 | _=>False
def pLen:Fn:=fn1 gLen λd Q Q' m h=>by
 unfold gLen at h ⊢
 split at h
 .exact m _ h
 .exact m _ h
 .exact⟨h.1,m _ h.2⟩
 .exact h.elim
def z1i:z1k X (.builtin "len") (rN X.K X.mg pLen):=(z1k.or z8n z8m).imp <| by
 f_int;k_few;tb_lt;unfold gLen at hr'
 split at hr'
 .kpf_c;exact .inl ⟨a,xs,rfl,.inl (z1d g h1),by rw[h2.len];exact hk.now g hr' RD.int'⟩
 .obtain⟨a,xs,rfl,h1,h2⟩:=z2Q rd;exact .inl ⟨a,xs,rfl,.inr (z1H g h1),by rw[h2.len];exact hk.now g hr' RD.int'⟩
 .have e:=z3r rd;subst e;exact .inr ⟨_,rfl,hr'.1,hk.now g hr'.2 RD.int'⟩
 .exact hr'.elim
def gAbs (d:D)(Q:DK):Prop:=match d with
 | .int i=>Q (.int (if i<0 then -i else i))
 | _=>False
def pAbs:Fn:=fn1 gAbs λd Q Q' m h=>by
 unfold gAbs at h ⊢
 split at h
 .exact m _ h
 .exact h.elim
def z8l:z1k X (.builtin "abs") (rN X.K X.mg pAbs):=zdV.imp <| by
 f_int;k_few;tb_lt;unfold gAbs at hr'
 split at hr'
 .have e:=z15 rd;subst e;exact⟨_,rfl,hk.now g hr' RD.int'⟩
 .exact hr'.elim
def zc7 (d:D)(Q:DK):Prop:=match d with
 | .lst l=>Q (.tup l)
 | .tup l=>Q (.tup l)
 | _=>False
def z2r:Fn:=fn1 zc7 λd Q Q' m h=>by
 unfold zc7 at h ⊢
 split at h
 .exact m _ h
 .exact m _ h
 .exact h.elim
def z1t:z1k X (.type "tuple") (rN X.K X.mg z2r):=z7w.imp <| by
 f_int;k_few;tb_lt;unfold zc7 at hr'
 split at hr'
 .kpf_c;exact⟨a,xs,rfl,.inl ⟨z1d g h1,λp hp=>hk.new g hp hr' (RD.newT h2 g hp)⟩⟩
 .obtain⟨a,xs,rfl,h1,h2⟩:=z2Q rd;exact⟨a,xs,rfl,.inr ⟨z1H g h1,hk.now g hr' (RD.ofT h1 h2)⟩⟩
 .exact hr'.elim
def rNf (K:W.Frag)(mg:WmP)(F:Fn):List V->Hp->VK->Prop:=λvs H Q=>∃G ds Q0 X0,Same G H/\RDs K mg G ds vs/\F.run ds Q0 X0/\Kf K mg G H Q0 Q
def Kf.same {G G' H H':Hp}{Q0:DK}{Q:VK}(h:Kf K mg G H Q0 Q)(g:Gr G H G')(k:Same H H'):Kf K mg G' H' Q0 Q:=λd a G1 H1 q g1 g2 g3 hn gn hw=>h d a G1 H1 q (g.trans k g1) g2 (z03 k g3) (z0p k hn) gn hw
def Kf.newL {G H:Hp}{Q0:DK}{Q:VK}{p:Addr}{l:List D}{xs:List V}(h:Kf K mg G H Q0 Q)(g:Same G H)(hp:H p=none)(q:Q0 (.lst l))(r:RDs K mg G l xs):Q (.ref p) (upd H p (.lst xs)):=
 h (.lst l) p G (upd H p (.lst xs)) q Gr.refl (z03 g (z0P hp _)) (z0P hp _) hp (z0p g hp) ⟨xs,z06,r⟩
def tfN {E:XK}{σ:L2.St}{H:Hp}{Q:VK}{F:Fn}{es:List Ex}(h:tf K mg E (.op F es) σ H Q):tCB (rNf K mg F) (txa K mg E es) σ H Q:=by
 k_all;exact⟨G,ρ,λds=>F.run ds Q0 X0,X0,hs,ab,hr,λds vs G1 H1 hF g1 g2 g3 rd=>⟨G1,ds,Q0,X0,g2,rd,hF,hk.same g1 g3⟩,hx⟩
def zhx {E:XK}{e:Expr}{es:List Expr}{xs:List Ex}{pos:Pos}{f:Str}{pp:Pos}{id:String}{F:Fn}(hc:z1k X (.type id) (rNf X.K X.mg F))(hg:Gl X f)(hm:X.mg f=none)(hv:bootBuiltins f=some (.type id))(ha:QXA X E (e::es) xs)(hn:f≠"__name__":=by decide)(hdb:(f == ("__debug__":Str))=false:=by decide)
  (he:starEach (e::es) X.env=(false,eval e X.env)::starEach es X.env:=by rfl) (hpl:(backTo pos (starEach es X.env)).any (·.1)=false:=by rfl):QF X E (.Call (.Name f pp) (e::es) [] pos) (.op F xs):=
 QE.imp (z7T hc hg hm hv ha hn hdb he hpl) λ_ _ _ h=>tfN h
def zhy {E:XK}{e:Expr}{es:List Expr}{xs:List Ex}{pos:Pos}{f:Str}{pp:Pos}{id:String}{F:Fn}(hc:z1k X (.builtin id) (rNf X.K X.mg F))(hg:Gl X f)(hm:X.mg f=none)(hv:bootBuiltins f=some (.builtin id))(ha:QXA X E (e::es) xs)(hn:f≠"__name__":=by decide)(hdb:(f == ("__debug__":Str))=false:=by decide)
  (he:starEach (e::es) X.env=(false,eval e X.env)::starEach es X.env:=by rfl) (hpl:(backTo pos (starEach es X.env)).any (·.1)=false:=by rfl):QF X E (.Call (.Name f pp) (e::es) [] pos) (.op F xs):=
 QE.imp (z5t hc hg hm hv ha hn hdb he hpl) λ_ _ _ h=>tfN h
def gSum (d:D)(Q:DK):Prop:=match d with
 | .lst l=>onI (ints? l) λns=>Q (.int ns.sum)
 | _=>False
def pSum:Fn:=fn1 gSum λd Q Q' m h=>by
 unfold gSum at h ⊢
 split at h
 .exact z71 (λ_ q=>m _ q) h
 .exact h.elim
def z8k (hc:X.calm=true):z1k X (.builtin "sum") (rN X.K X.mg pSum):=(zcu hc).imp <| by
 f_int;k_few;tb_lt;unfold gSum at hr'
 split at hr'
 .obtain⟨ns,e,q⟩:=z70 hr';kpf_c;rw[z4y e] at h2;rw[z5r ns h2] at h1;exact⟨a,ns,rfl,z1d g h1,hk.now g q RD.int'⟩
 .exact hr'.elim
def gIx (a b:D)(Q:DK):Prop:=match a,b with
 | .lst l,.int i=>onV (atI l i) Q
 | .tup l,.int i=>onV (atI l i) Q
 | .str x,.int i=>x.length<=sizeLine/\∃c,atI x.cps.toList i=some c/\Q (.str ⟨#[c]⟩)
 | _,_=>False
def zdN (a b:D)(Q Q':DK)(m:∀d,Q d->Q' d)(h:gIx a b Q):gIx a b Q':=by
 unfold gIx at h ⊢
 split at h
 .exact z9D m h
 .exact z9D m h
 .obtain⟨h1,c,h2,h3⟩:=h;exact⟨h1,c,h2,m _ h3⟩
 .exact h.elim
def pIx:Fn:=fn2 gIx zdN
def IxR.imp {r r':R2}(h:IxR X r)(i:∀x y H Q,r' x y H Q->r x y H Q):IxR X r':=λvalue slice pins s σ H x y v u Q I rx ry q hs=>h value slice pins s σ H x y v u Q I rx ry (i x y H Q q) hs
def ix_p:IxR X (r2 X.K X.mg pIx):=IxR.imp ziK <| by
 w_left;have hr':gIx d1 d2 Q0:=hr;unfold gIx at hr'
 split at hr'
 .obtain⟨d,e,q⟩:=z9C hr';obtain⟨a,xs,rfl,h1,h2⟩:=z1K r1;obtain⟨v,e1,rv⟩:=h2.at e;exact .inl ⟨a,xs,_,v,rfl,z15 r2,z1d g h1,e1,hk.now g q rv⟩
 .obtain⟨d,e,q⟩:=z9C hr';obtain⟨a,xs,rfl,h1,h2⟩:=z2Q r1;obtain⟨v,e1,rv⟩:=h2.at e;exact .inr (.inl ⟨a,xs,_,v,rfl,z15 r2,z1H g h1,e1,hk.now g q rv⟩)
 .obtain⟨h1,c,h2,h3⟩:=hr';exact .inr (.inr ⟨_,_,c,z3r r1,z15 r2,h1,h2,hk.now g h3 RD.str'⟩)
 .exact hr'.elim
def zjF {E:XK}{a b:Expr}{x y:Ex}{pos:Pos}(ha:QX X E a x)(hb:QX X E b y)(hs:z7x b):QX X E (.Subscript a b pos) (.op pIx [x,y]):=QE.imp (zjK ix_p ha hb hs) λ_ _ _ h=>tx2 lk2 h
end
end Pu
namespace HT
open PySem PyProof.Rows
section
variable {prog:Program}{w:World}{A:Around}{E:WvP}{s:Shared}
def zaH {t sl:Addr}{items:Array Value}{vl vu vs:Value}{R:Int × Int × Nat}{Q:WvP}(ht:IsTup s.heap t items)(hs:s.heap.IsSliceOf sl vl vu vs)
  (ha:∀{A:Around}{E:WvP}{Q:Int × Int × Nat->Shared->Prop},Q R s->wpAny (model prog w) A (Builtin.Slice.sliceApplied (.ref sl) (pure (items.size:Int))) Q E s) (hsz:R.2.2<=sizeLine)
  (h1:(R.1 == 0 && R.2.1 == 1 && R.2.2 == items.size)=true->Q (.ref t) s)
  (h2:¬ (R.1 == 0 && R.2.1 == 1 && R.2.2 == items.size)=true->Q (.ref s.heap.objs.size) { s with heap:=s.heap.push { cls :=.type "tuple",data :=.seq ((List.range R.2.2).filterMap λ(k:Nat)=>items[(R.1+(k:Int)*R.2.1).toNat]?).toArray } }):
  wpAny (model prog w) A (getItem (.ref t) (.ref sl)) Q E s:=by
 obtain⟨os,hos,hcs,hds⟩:=id hs;have hTs:s.TypeIs (.ref sl) "slice":=⟨os,hos,hcs⟩
 have htake:sizeOk (.seq ((List.range R.2.2).filterMap λ(k:Nat)=>items[(R.1+(k:Int)*R.2.1).toNat]?).toArray):=by
  show ((List.range R.2.2).filterMap λ(k:Nat)=>items[(R.1+(k:Int)*R.2.1).toNat]?).toArray.size<=sizeLine;rw[wI];refine wX (List.length_filterMap_le _ _) ?_;rw[vC];exact hsz
 unfold getItem
 try with_reducible refine uo ?_
 first | refine wa (wv ?_) | skip
 refine wa (wpAny_sequenceKey ht.typeIs (by decide) ?_);refine wa (vK (name:=Str.ofString "__getitem__") ht.typeIs vo
  (v9 vo ht.typeIs entry_tuple_getitem ?_ (args_tuple_getitem _ _)))
 show wpAny _ _ (Builtin.Tuple.tupleItemsOf (.ref t) >>= _) _ _ s;refine wa (tupleItemsOf_ ht ?_);refine wa (wpAny_typeOf hTs ?_);rw[if_pos (by decide)];refine wa (ha ?_);obtain⟨r1,r2,r3⟩:=R;show wpAny _ _ (if (r1 == 0 && r2 == 1 && r3 == items.size)=true then _ else _) _ _ s
 by_cases hb:(r1 == 0 && r2 == 1 && r3 == items.size)=true
 .rw[if_pos hb];refine wa (m:=Builtin.Tuple.tupleIsExact (.ref t)) ?_;refine wa (wpAny_typeOf ht.typeIs (wv ?_));rw[if_pos (by decide)]
  first
   | exact wa (wv (wv ⟨_,rfl,wv (h1 hb)⟩))
   | exact wa (wpAny_rule (wv ⟨_,rfl,wv (h1 hb)⟩))
   | exact wa (wpAny_rule (wa (wv (wv ⟨_,rfl,wv (h1 hb)⟩))))
   | exact wv ⟨_,rfl,wv (h1 hb)⟩
 .rw[if_neg hb];have h:=h2 hb
  first
   | exact wa (m:=Builtin.Tuple.tupleExact _) (vn (wv ⟨_,rfl,wv h⟩) htake)
   | exact wa (m:=Builtin.Tuple.tupleExact _) (vn (wa (wv (wv ⟨_,rfl,wv h⟩))) htake)
   | exact wa (wa (m:=Builtin.Tuple.tupleExact _) (vn (wv (wv ⟨_,rfl,wv h⟩)) htake))
   | exact wa (wa (m:=Builtin.Tuple.tupleExact _) (vn (wv ⟨_,rfl,wv h⟩) htake))
end
end HT
namespace Pu
open PySem PySem.Spec PyProof.Rows L2
def part (o:Option Ex)(ρ:Pu.Env)(K:Option Int->Prop)(X:XP):Prop:=match o with
 | none=>K none
 | some e=>e.run ρ (λd=>isI d λi=>K (some i)) X
def z4u {o:Option Ex}{ρ:Pu.Env}{K K':Option Int->Prop}{X X':XP}(m:∀i,K i->K' i)(mx:∀x,X x->X' x)(h:part o ρ K X):part o ρ K' X':=by
 cases o with
 | none=>exact m _ h
 | some e=>exact e.mono ρ _ _ X X' (λd q=>z9J (λi q=>m _ q) q) mx h
def cutD (l:List D)(lo hi:Option Int):List D:=(l.drop (HT.sIx l.length 0 lo)).take (HT.sIx l.length l.length hi - HT.sIx l.length 0 lo)
def slcD (d:D)(lo hi:Option Int)(Q:DK):Prop:=match d with
 | .lst l=>Q (.lst (cutD l lo hi))
 | .tup l=>Q (.tup (cutD l lo hi))
 | .str x=>x.length<=sizeLine/\Q (.str (Txt.slice x lo hi))
 | _=>False
def zaX {d:D}{lo hi:Option Int}{Q Q':DK}(m:∀d,Q d->Q' d)(h:slcD d lo hi Q):slcD d lo hi Q':=by
 unfold slcD at h ⊢
 split at h
 .exact m _ h
 .exact m _ h
 .exact⟨h.1,m _ h.2⟩
 .exact h.elim
def Ex.sl (e:Ex)(lo hi:Option Ex):Ex:=⟨λρ Q X=>e.run ρ (λd=>part lo ρ (λl=>part hi ρ (λu=>slcD d l u Q) X) X) X,λρ Q Q' X X' m mx q=>e.mono ρ _ _ X X' (λd q=>z4u (λl q=>z4u (λu q=>zaX m q) mx q) mx q) mx q⟩
def rSlP (K:W.Frag)(mg:WmP):V->Option Int->Option Int->Hp->VK->Prop:=λx lo hi H Q=>∃G d Q0,Same G H/\RD K mg G d x/\slcD d lo hi Q0/\Kt K mg G H Q0 Q
section
variable {X:Cx}{K:W.Frag}{mg:WmP}{E:XK}
def zcM:SlR X (λx lo hi H Q=>∃a xs,x = .ref a/\SqT X.K H a xs/\(HT.sIx xs.length 0 lo=0/\HT.sIx xs.length xs.length hi=xs.length)/\Q (.ref a) H):=by
 k_put;obtain⟨a,xs,rfl,hx,hw,q⟩:=h
 cases rx
 obtain⟨its,r,ht,hz⟩:=I.tuple hx;have hlen:its.toArray.size=xs.length:=by rw[wI];exact r.length.symm
 refine⟨"tuple",_,vo.lookup,ht.typeIs,?_⟩;refine HT.zaH (R:=(((HT.sIx its.toArray.size 0 lo:Nat):Int),1,HT.sIx its.toArray.size its.toArray.size hi - HT.sIx its.toArray.size 0 lo)) ht hs (λh=>HT.z3c hs pl pu h) ?_ (λ_=>⟨.ref a,H,I,rfl,q⟩) (λz =>?_)
 .rw[hlen];dsimp only;rw[hw.1,hw.2];omega
 .rw[hlen] at z;exact absurd (by dsimp only;rw[hw.1,hw.2];simp) z
def zat {xs:List D}{lo hi:Option Int}(h:HT.sIx xs.length 0 lo=0/\HT.sIx xs.length xs.length hi=xs.length):cutD xs lo hi=xs:=by
 unfold cutD;rw[h.1,h.2];simp
def sl_p:SlR X (rSlP X.K X.mg):=((zaY.or (zgP.or zcM)).or zgQ).imp <| by
 rintro x lo hi H Q ⟨G,d,Q0,g,rd,hr,hk⟩;unfold slcD at hr
 split at hr
 .kpf_c;exact .inl (.inl ⟨a,xs,rfl,z1d g h1,λp hp=>hk.new g hp hr (RD.newL (h2.cut lo hi) g hp)⟩)
 .obtain⟨a,xs,rfl,h1,h2⟩:=z2Q rd
  by_cases hw:HT.sIx xs.length 0 lo=0/\HT.sIx xs.length xs.length hi=xs.length
  .refine .inl (.inr (.inr ⟨a,xs,rfl,z1H g h1,hw,hk.now g hr ?_⟩));rw[h2.len] at hw;rw[zat hw];exact RD.ofT h1 h2
  .exact .inl (.inr (.inl ⟨a,xs,rfl,z1H g h1,hw,λp hp=>hk.new g hp hr (RD.newT (h2.cut lo hi) g hp)⟩))
 .exact .inr ⟨_,z3r rd,hr.1,hk.now g hr.2 RD.str'⟩
 .exact hr.elim
def z7D (K:W.Frag)(mg:WmP)(E:XK)(o:Option Ex):TO:=λσ H Q=>∃G ρ Q0 X0,Same G H/\AbE K mg G ρ σ/\part o ρ Q0 X0/\(∀i G' H',Q0 i->Gr G H G'->Same G' H'->Same H H'->Q i H')/\Kx mg H X0 E
def QO.imp {e:Option Expr}{t t':TO}(h:QO X e t)(i:∀σ H Q,t' σ H Q->t σ H Q):QO X e t':=⟨λpins s σ H Q I q=>h.p pins s σ H Q I (i σ H Q q)⟩
def z2p:QO X none (z7D X.K X.mg E none):=QO.imp zfz <| by rintro σ H Q ⟨G,ρ,Q0,X0,hs,ab,hr,hk,hx⟩;exact hk none G H hr Gr.refl hs Same.refl'
def z2o {e:Expr}{x:Ex}(h:QX X E e x):QO X (some e) (z7D X.K X.mg E (some x)):=QO.imp (zfy h) <| by
 k_in;w_up;obtain⟨i,rfl,q⟩:=z9I q;exact⟨i,z15 rd,hk (some i) G1 H1 q g1 g2 g3⟩
def zjj {σ:L2.St}{H:Hp}{Q:VK}{e:Ex}{lo hi:Option Ex}(h:tx K mg E (.sl e lo hi) σ H Q):tSl (rSlP K mg) (tx K mg E e) (z7D K mg E lo) (z7D K mg E hi) σ H Q:=by
 k_all;w_up;refine⟨G1,ρ,_,X0,g2,ab.same g1.1,q,λl G2 H2 q k1 k2 k3 =>?_,hx.same g3⟩;refine⟨G2,ρ,_,X0,k2,ab.same (z03 g1.1 k1.1),q,λu G3 H3 q n1 n2 n3 =>?_,hx.same (z03 g3 k3)⟩;exact⟨G3,d,Q0,n2,rd.same (z03 k1.1 n1.1),q,hk.same (g1.trans g3 (k1.trans k3 n1)) (z03 g3 (z03 k3 n3))⟩
def z6g {e:Expr}{x:Ex}{lo hi:Option Expr}{l u:Option Ex}{p2 pos:Pos}(he:QX X E e x)(hl:QO X lo (z7D X.K X.mg E l))(hu:QO X hi (z7D X.K X.mg E u)):QX X E (.Subscript e (.Slice lo hi none p2) pos) (.sl x l u):=QE.imp (z9v sl_p he hl hu) λ_ _ _ h=>zjj h
def isiD (T:String):D->Option Bool
 | .int _=>some (T == "int")
 | .bl _=>some (T == "int" || T == "bool")
 | .str _=>some (T == "str")
 | .tup _=>some (T == "tuple")
 | .lst _=>some (T == "list")
 | .non=>some false
 | _=>none
def onB (o:Option Bool)(Q:Bool->Prop):Prop:=match o with
 | some b=>Q b
 | none=>False
def zdw {o:Option Bool}{Q Q':Bool->Prop}(m:∀b,Q b->Q' b)(h:onB o Q):onB o Q':=by
 cases o with
 | none=>exact h
 | some b=>exact m _ h
def zdv {o:Option Bool}{Q:Bool->Prop}(h:onB o Q):∃b,o=some b/\Q b:=by
 cases o with
 | none=>exact h.elim
 | some b=>exact⟨b,rfl,h⟩
def pIsi (T:String):Fn:=fn1 (λd Q=>onB (isiD T d) λb=>Q (.bl b)) λd Q Q' m h=>zdw (λb q=>m _ q) h
def zbX:List String:=["int","bool","str","tuple","list"]
def zgc {T:String}(hT:T∈zbX):W.kitOne K (.type "int") (.type T)=some (T == "int")/\W.kitOne K (.type "bool") (.type T)=some (T == "int" || T == "bool")/\W.kitOne K (.type "str") (.type T)=some (T == "str")/\
  W.kitOne K (.type "tuple") (.type T)=some (T == "tuple")/\W.kitOne K (.type "list") (.type T)=some (T == "list")/\W.kitOne K (.type "NoneType") (.type T)=some false:=by
 unfold zbX at hT;simp only[wf,wC,vj] at hT
 rcases hT with rfl | rfl | rfl | rfl | rfl <;> exact⟨rfl,rfl,rfl,rfl,rfl,rfl⟩
def zjC (K:W.Frag)(mg:WmP)(T:String):List V->Hp->VK->Prop:=λvs H Q=>∃v G d Q0,vs=[v,.ty T]/\Same G H/\RD K mg G d v/\(onB (isiD T d) λb=>Q0 (.bl b))/\Kt K mg G H Q0 Q
def zj3 {T:String}(hT:T∈zbX):z1k X (.builtin "isinstance") (zjC X.K X.mg T):=by
 rintro pins s σ H vs us Q I rv ⟨v,G,d,Q0,e,g,rd,hr,hk⟩;subst e;obtain⟨b,eb,q⟩:=zdv hr;obtain⟨u,w,rfl,ru,rw'⟩:=zgu rv
 cases (show w=Value.type T from rw')
 obtain⟨t1,t2,t3,t4,t5,t6⟩:=zgc (K:=X.K) hT;have fin:∀tk,EP X pins σ Q (.bool b) { s with toks:=tk }:=λtk=>⟨.bl b,H,I.tok tk,rfl,hk.now g q RD.bl'⟩
 cases d with
 | int i=>
  have e:=z15 rd;subst e;rw[show isiD T (.int i)=some (T == "int") from rfl] at eb;exact z4x I ru (.int i) (t1.trans eb) fin
 | bl i=>
  have e:=z7O rd;subst e;rw[show isiD T (.bl i)=some (T == "int" || T == "bool") from rfl] at eb;exact z4x I ru (.bl i) (t2.trans eb) fin
 | str i=>
  have e:=z3r rd;subst e;rw[show isiD T (.str i)=some (T == "str") from rfl] at eb;exact z4x I ru (.str i) (t3.trans eb) fin
 | non=>
  have e:=z6y rd;subst e;rw[show isiD T .non=some false from rfl] at eb;exact z4x I ru .non (t6.trans eb) fin
 | tup l=>
  obtain⟨a,xs,rfl,h1,h2⟩:=z2Q rd
  cases ru
  rw[show isiD T (.tup l)=some (T == "tuple") from rfl] at eb;obtain⟨its,r,⟨o,ho,hc,_⟩,_⟩:=I.tuple (z1H g h1);exact vf W.kitx_tuple I.kIn ⟨o,ho,hc⟩ (t4.trans eb) (λz=>nomatch z) fin
 | lst l=>
  kpf_c
  cases ru
  rw[show isiD T (.lst l)=some (T == "list") from rfl] at eb;obtain⟨its,r,⟨o,n,ho,hc,_⟩,_⟩:=I.list (z1d g h1);exact vf W.kitx_list I.kIn ⟨o,ho,hc⟩ (t5.trans eb) (λz=>nomatch z) fin
 | _=>cases eb
def z3t {e t:Expr}{x:Ex}{pp pos:Pos}{T:String}(hT:T∈zbX)(hg:Gl X "isinstance")(hm:X.mg "isinstance"=none)(he:QX X E e x)(ht:QE X t (tC (.ty T)))
  (hs1:starEach [e,t] X.env=(false,eval e X.env)::starEach [t] X.env:=by rfl) (hs2:starEach [t] X.env=(false,eval t X.env)::starEach [] X.env:=by rfl) (hpl:(backTo pos (starEach [t] X.env)).any (·.1)=false:=by rfl)
  (hv:bootBuiltins "isinstance"=some (.builtin "isinstance"):=by rfl) (hn:("isinstance":Str)≠"__name__":=by decide) (hdb:(("isinstance":Str) == ("__debug__":Str))=false:=by decide):QX X E (.Call (.Name "isinstance" pp) [e,t] [] pos) (.op (pIsi T) [x]):=
 QE.imp (z5t (zj3 hT) hg hm hv (z3X he (z3X ht z7U hs2) hs1) hn hdb hs1 hpl) <| by
  k_in;w_up;exact⟨v,G1,d,Q0,rfl,g2,rd,q,hk.same g1 g3⟩
end
def GlS (sc:Scope)(x:Str):Prop:=sc.names.lookup x=some .globalImplicit
structure Nm (sc:Scope)(x:Str):Prop where
 loc:Loc sc x
 hd:(x == ("__debug__":Str))=false
 hcd:(x == ("__classdict__":Str))=false
def Nm.vis {sc:Scope}{x:Str}(h:Nm sc x):Vis sc x:=h.loc.elim .inl λz =>.inr (.inl z)
section
variable {CX:CXT}{P:Program}{w:World}{K:W.Frag}{mg:WmP}{base:Heap}{N:List Str}{qual:Str}{sc:Scope}{f:Addr}{cdv:Value}{A:Around}{outer:List PySem.Env}{s:Shared}{H:Hp}{E:XK}{xe:WvP}{x:Str}{pos pos2:Pos}{e:Expr}{te:TE}
def vg (i:Nat)(h:Nm sc x)(hN:N[i]? = some x:=by rfl):QE ((cxOf CX P w K mg base N qual sc f cdv A outer s H E).wish xe) (.Name x pos) (tVar i):=⟨zbD hN h.vis h.hd h.hcd⟩
def ng (i:Nat)(nd:N.Nodup)(h:Nm sc x)(hN:N[i]? = some x:=by rfl):QG ((cxOf CX P w K mg base N qual sc f cdv A outer s H E).wish xe) (.Name x pos) (z2y i):=⟨zbC nd hN h.loc (.inl rfl)⟩
def ag (i:Nat)(nd:N.Nodup)(h:Nm sc x)(he:QE ((cxOf CX P w K mg base N qual sc f cdv A outer s H E).wish xe) e te)(hN:N[i]? = some x:=by rfl)(hs:swapsWith e (some (.Name x pos2)) pos.line ((cxOf CX P w K mg base N qual sc f cdv A outer s H E).wish xe).env=pure false:=by rfl):QS ((cxOf CX P w K mg base N qual sc f cdv A outer s H E).wish xe) (.Assign [.Name x pos2] e pos) (tAsg te (z2y i)):=⟨zeq nd hN h.loc he.p hs (.inl rfl)⟩
def glg (h:GlS sc x):Gl ((cxOf CX P w K mg base N qual sc f cdv A outer s H E).wish xe) x:=h
end
def spL (K:W.Frag):Sp:=λvs H Q _=>∃(a:Addr) (ns:List Int),vs=[.ref a]/\SqL K H a (ns.map V.int)/\ns.length<=63/\∀H',Q (.bl true) H'
def ziB {P:Program}{w:World}{K:W.Frag}{mg:WmP}{base:Heap}{CX:CXT}{k:Nat}{f:Addr}{fd:FuncData}{ps:List Str}{F:Fn}(h:∀ns:List Int,ns.length<=63->F.run [.lst (ns.map .int)] (λd=>d = .bl true) (λ_=>False))(ok:FnOk P w K mg base CX k f fd ps (spP K mg F)):FnOk P w K mg base CX k f fd ps (spL K):=
 ok.imp λvs H Q E ⟨a,ns,e,hS,hl,q⟩=>⟨H,[.lst (ns.map .int)],_,_,Same.refl',by rw[e];exact RDs.cons (RD.ofL hS (z9K ns)) RDs.nil,h ns hl,λd v G' H' e g1 g2 g3 rd=>by
  subst e;rw[z7O rd];exact q H',Kx.no⟩
end Pu
namespace Pu
open PySem L2
open Builtin.Int (intBits)
section
variable {ρ:Pu.Env}{Q:DK}{X:XP}{N:Pu.Env->Prop}{a b c e:Ex}{s t:Sm}{F:Fn}{d:D}{i j:Nat}
def z2B {d:D}(q:Q d):onV (some d) Q:=q
def e_c (q:Q d):(Ex.c d).run ρ Q X:=q
def e_v (q:onV (ρ.get i) Q):(Ex.v i).run ρ Q X:=q
def ziW (q:a.run ρ (λx=>F.run [x] Q X) X):(Ex.op F [a]).run ρ Q X:=q
def z93 (q:a.run ρ (λx=>b.run ρ (λy=>F.run [x,y] Q X) X) X):(Ex.op F [a,b]).run ρ Q X:=q
def zkk (q:a.run ρ (λx=>b.run ρ (λy=>c.run ρ (λz=>F.run [x,y,z] Q X) X) X) X):(Ex.op F [a,b,c]).run ρ Q X:=q
def zkj (q:a.run ρ (λx=>b.run ρ (λy=>c.run ρ (λz=>e.run ρ (λu=>F.run [x,y,z,u] Q X) X) X) X) X):(Ex.op F [a,b,c,e]).run ρ Q X:=q
def ziV {es:List Ex}(q:runs es ρ (λds=>F.run ds Q X) X):(Ex.op F es).run ρ Q X:=q
def z3O {Q:List D->Prop}(q:Q []):runs [] ρ Q X:=q
def z8G {es:List Ex}{Q:List D->Prop}(q:a.run ρ (λd=>runs es ρ (λds=>Q (d::ds)) X) X):runs (a::es) ρ Q X:=q
def zkl (q:a.run ρ (λd=>tst d (b.run ρ Q X) (Q (.bl false))) X):(Ex.and a b).run ρ Q X:=q
def e_or (q:a.run ρ (λd=>tst d (Q (.bl true)) (b.run ρ Q X)) X):(Ex.or a b).run ρ Q X:=q
def notD (d:D)(Q:DK):Prop:=match d with
 | .bl b=>Q (.bl (!b))
 | _=>False
def ziX (q:a.run ρ (λd=>notD d Q) X):(Ex.not a).run ρ Q X:=q
def n_bl {k:Bool}(q:Q (.bl (!k))):notD (.bl k) Q:=q
def ziY {nt:Nat}{js:List Nat}{tg:Tg}{src:Ex}{ct:Option Ex}{elt:Ex}(q:src.run ρ (λd=>onL (items d) λl=>l.length<sizeLine/\z44 (z4C tg ct elt (z1z nt js ρ)) l λr=>Q (.lst r)) X):(Ex.comp nt js tg src ct elt).run ρ Q X:=q
def zkg {l:List D}{K:List D->Prop}(q:K l):onL (items (.lst l)) K:=q
def zkf {l:List D}{K:List D->Prop}(q:K l):onL (items (.tup l)) K:=q
def e_sl {lo hi:Option Ex}(q:a.run ρ (λd=>part lo ρ (λl=>part hi ρ (λu=>slcD d l u Q) X) X) X):(Ex.sl a lo hi).run ρ Q X:=q
def zi0 {K:Option Int->Prop}(q:K none):part none ρ K X:=q
def zhZ {K:Option Int->Prop}(q:a.run ρ (λd=>isI d λi=>K (some i)) X):part (some a) ρ K X:=q
def ziM {k:Int}{K:Int->Prop}(q:K k):isI (.int k) K:=q
def zku {l:List D}{lo hi:Option Int}(q:Q (.lst (cutD l lo hi))):slcD (.lst l) lo hi Q:=q
def zkt {l:List D}{lo hi:Option Int}(q:Q (.tup (cutD l lo hi))):slcD (.tup l) lo hi Q:=q
def z1Z {A B:Prop}(h:A):tst (.bl true) A B:=⟨λ_=>h,(λz=>by cases z)⟩
def z4E {A B:Prop}(h:B):tst (.bl false) A B:=⟨(λz=>by cases z),λ_=>h⟩
def z2P {d:D}{ρ:Pu.Env}{B:Prop}(h:Safe d ρ)(q:B):Safe d ρ/\B:=⟨h,q⟩
def zf2 {d:D}{ρ:Pu.Env}{B:Prop}(h:zcB d ρ)(q:B):zcB d ρ/\B:=⟨h,q⟩
def t_bl {k:Bool}{A B:Prop}(h:k=true->A)(h':k=false->B):tst (.bl k) A B:=⟨h,h'⟩
def z1p {p:Prop}[Decidable p]{A B:Prop}(h:p->A)(h':¬ p->B):tst (.bl (decide p)) A B:=⟨λe=>h (vP e),λe=>h' (uS e)⟩
def zgz {p:Prop}[Decidable p]{A B:Prop}(h:¬ p->A)(h':p->B):tst (.bl (!decide p)) A B:=⟨λe=>h (by simpa using e),λe=>h' (by simpa using e)⟩
def zcI {p:Prop}[Decidable p]{A B:Prop}(hp:p)(h:A):tst (.bl (decide p)) A B:=z1p (λ_=>h) λn=>(n hp).elim
def t_no {p:Prop}[Decidable p]{A B:Prop}(hp:¬ p)(h:B):tst (.bl (decide p)) A B:=z1p (λy=>(hp y).elim) λ_=>h
def z2j {k:Bool}{A B:Prop}(h:tst (.bl k) B A):tst (.bl (!k)) A B:=by
 cases k
 .exact z1Z (h.2 rfl)
 .exact z4E (h.1 rfl)
def z1J {k:Bool}{A B:Prop}(e:k=true)(h:A):tst (.bl k) A B:=by rw[e];exact z1Z h
def z0o {k:Bool}{A B:Prop}(e:k=false)(h:B):tst (.bl k) A B:=by rw[e];exact z4E h
def zgY (q:N ρ):Sm.skip.run ρ N Q X:=q
def zf6 (q:s.run ρ (λρ'=>t.run ρ' N Q X) Q X):(Sm.seq s t).run ρ N Q X:=q
def zjp (q:a.run ρ (λd=>Safe d (ρ.set i .n)/\N (ρ.set i (.s d))) X):(Sm.set i a).run ρ N Q X:=q
def zjr (q:a.run ρ (λd=>zcB d (ρ.set i .n)/\N (ρ.set i (.o d))) X):(Sm.own i a).run ρ N Q X:=q
def s_if (q:c.run ρ (λd=>tst d (s.run ρ N Q X) (t.run ρ N Q X)) X):(Sm.ifs c s t).run ρ N Q X:=q
def zjq (q:a.run ρ Q X):(Sm.ret a).run ρ N Q X:=q
def zf7 {x:Str}(q:X x):(Sm.raise x).run ρ N Q X:=q
def zh5 (q:s.run ρ N Q (λ_=>False)):(Sm.calm s).run ρ N Q X:=q
def zjt {js:List Nat}{tg:Tg}(q:a.run (vis (dem js ρ)) (λd=>onL (items d) λl=>forL tg s N Q X l (dem js ρ)) X):(Sm.for_ js tg a s).run ρ N Q X:=q
def zfa {tg:Tg}(q:a.run ρ (λd=>onR [d] λl=>forL tg s N Q X l ρ) X):(Sm.forr [a] tg s).run ρ N Q X:=q
def zh8 {l:List D}(h:ownL ρ i λl=>a.run ρ (λd=>l.length<sizeLine/\Safe d ρ/\N (ρ.set i (.o (.lst (l++[d]))))) X):(Sm.app i a).run ρ N Q X:=h
def zgZ (h:ownL ρ i λl=>a.run ρ (λd=>Safe d ρ/\b.run ρ (λkd=>isI kd λz=>onN (ixN l.length z) λj=>N (ρ.set i (.o (.lst (l.set j d))))) X) X):(Sm.put i b a).run ρ N Q X:=h
def zjx {np nn:Nat}{ds:List D}(h:ds.length=np)(q:s.run (ds.map B.s++List.replicate (nn - np) .n) (λ_=>Q .non) Q (λ_=>False)):(Fn.mkN np nn s).run ds Q X:=⟨h,q⟩
def zjy {np nn:Nat}{ds:List D}(h:ds.length=np)(q:s.run (ds.map B.s++List.replicate (nn - np) .n) (λ_=>Q .non) Q X):(Fn.mk' np nn s).run ds Q X:=⟨h,q⟩
def nI (ρ:Pu.Env)(i:Nat):Int:=match ρ.get i with
 | some (.int s)=>s
 | _=>0
def z1D {α:Type}{f:α->D}{tg:Tg}{l:List α}(I:List α->Pu.Env->Prop)(h0:I [] ρ)(hs:∀(dn:List α) (x:α) (r:List α) (ρ:Pu.Env),l=dn++x::r->I dn ρ->tg.put (f x) ρ λρ'=>s.run ρ' (λρ''=>I (dn++[x]) ρ'') Q X)(hd:∀ρ,I l ρ->N ρ):forL tg s N Q X (l.map f) ρ:=by
 have main:∀(r dn:List α) (ρ:Pu.Env),l=dn++r->I dn ρ->forL tg s N Q X (r.map f) ρ:=by
  intro r
  induction r with
  | nil=>
   intro dn ρ e h;rw[wQ] at e;subst e;exact hd ρ h
  | cons x r ih=>
   intro dn ρ e h;rw[wA];exact Tg.put_mono (λρ' q=>s.mono ρ' _ _ Q Q X X (λρ'' q=>ih (dn++[x]) ρ'' (by rw[e];simp) q) (λ_ z=>z) (λ_ z=>z) q) (hs dn x r ρ e h)
 exact main l [] ρ rfl h0
def zdW (I:Pu.Env->Prop)(μ:Pu.Env->Nat)(h0:I ρ)(hs:∀ρ,I ρ->c.run ρ (λd=>tst d (s.run ρ (λρ'=>I ρ'/\μ ρ' < μ ρ) Q X) (N ρ)) X):(Sm.wh c s).run ρ N Q X:=by
 have main:∀(n:Nat) (ρ:Pu.Env),I ρ->μ ρ < n->wh c s N Q X n ρ:=by
  intro n
  induction n with
  | zero=>intro ρ _ h;exact absurd h (Nat.not_lt_zero _)
  | succ n ih=>
   intro ρ hI hm;exact c.mono ρ _ _ X X (λd q=>z2z (s.mono ρ _ _ Q Q X X (λρ' q=>ih ρ' q.1 (by lia)) (λ_ z=>z) (λ_ z=>z)) (λz=>z) q) (λ_ z=>z) (hs ρ hI)
 exact⟨μ ρ+1,main _ ρ h0 (uI _)⟩
theorem z2v {α:Type}{f g:α->D}{G:D->(Option D->Prop)->Prop}{M:List D->Prop}:∀{l:List α},(∀x∈l,∀K:Option D->Prop,K (some (g x))->G (f x) K)->M (l.map g)->z44 G (l.map f) M
 | [],_,q=>q
 | x::r,h,q=>h x ww _ (z2v (l:=r) (λy hy=>h y (we _ hy)) q)
theorem z22 {α:Type}{f g:α->D}{p:α->Bool}{G:D->(Option D->Prop)->Prop}{M:List D->Prop}:∀{l:List α},(∀x∈l,∀K:Option D->Prop,(p x=true->K (some (g x)))->(p x=false->K none)->G (f x) K)->M ((l.filter p).map g)->z44 G (l.map f) M
 | [],_,q=>q
 | x::r,h,q=>by
  refine h x ww _ (λe =>?_) (λe =>?_)
  .refine z22 (l:=r) (λy hy=>h y (we _ hy)) ?_;rw[uv,e] at q;exact q
  .refine z22 (l:=r) (λy hy=>h y (we _ hy)) ?_;rw[uv,e] at q;exact q
def zkq {k:Nat}{elt:Ex}{x:D}{K:Option D->Prop}(q:elt.run (ρ.set k (.s x)) (λd=>K (some d)) (λ_=>False)):z4C (.nm k) none elt ρ x K:=q
def zj2 {k:Nat}{elt:Ex}{x:D}{K:Option D->Prop}(q:c.run (ρ.set k (.s x)) (λb=>tst b (elt.run (ρ.set k (.s x)) (λd=>K (some d)) (λ_=>False)) (K none)) (λ_=>False)):z4C (.nm k) (some c) elt ρ x K:=q
variable {m n:Int}
def zka (q:Q (.int (m+n))):pAdd.run [.int m,.int n] Q X:=q
def zk1 (q:Q (.int (m - n))):pSub.run [.int m,.int n] Q X:=q
def zg6 (h:zgr m n)(q:Q (.int (m*n))):z17.run [.int m,.int n] Q X:=⟨h,q⟩
def zk3 (q:Q (.int (-m))):pNeg.run [.int m] Q X:=q
def zis (h:0<n)(hb:Bt 9000 n)(q:Q (.int (m / n))):z1A.run [.int m,.int n] Q X:=⟨⟨by lia,hb⟩,by rw[Int.fdiv_eq_ediv_of_nonneg m (by lia)];exact q⟩
def zij (h:0<n)(q:Q (.int (m % n))):pMod.run [.int m,.int n] Q X:=⟨by lia,by rw[Int.fmod_eq_emod_of_nonneg m (by lia)];exact q⟩
def zk2 (h:CPow m n)(q:Q (.int (m ^ n.toNat))):pPow.run [.int m,.int n] Q X:=⟨h,q⟩
def o_lt (q:Q (.bl (decide (m<n)))):pLt.run [.int m,.int n] Q X:=q
def o_le (q:Q (.bl (decide (m<=n)))):pLe.run [.int m,.int n] Q X:=q
def o_gt (q:Q (.bl (decide (n<m)))):pGt.run [.int m,.int n] Q X:=q
def o_ge (q:Q (.bl (decide (n<=m)))):pGeI.run [.int m,.int n] Q X:=q
def o_eq (q:Q (.bl (decide (m=n)))):pEq.run [.int m,.int n] Q X:=q
def o_ne (q:Q (.bl (!decide (m=n)))):pNe.run [.int m,.int n] Q X:=q
def zg8 {l r:List D}(a:Da 60 (.tup l))(b:Da 60 (.tup r))(q:Q (.bl (deq (.tup l) (.tup r)))):pEq.run [.tup l,.tup r] Q X:=⟨a,b,q⟩
def zii {l r:List D}(a:Da 60 (.tup l))(b:Da 60 (.tup r))(q:Q (.bl (!deq (.tup l) (.tup r)))):pNe.run [.tup l,.tup r] Q X:=⟨a,b,q⟩
def o_is (q:Q (.bl (isN d))):pIs.run [d,.non] Q X:=q
def zg7 (q:Q (.bl (!isN d))):z9A.run [d,.non] Q X:=q
def zim {l:List D}(q:Q (.int (l.length:Int))):pLen.run [.lst l] Q X:=q
def zik {l:List D}(q:Q (.int (l.length:Int))):pLen.run [.tup l] Q X:=q
def zk8 {l:List D}(q:onV (atI l m) Q):pIx.run [.lst l,.int m] Q X:=q
def zk7 {l:List D}(q:onV (atI l m) Q):pIx.run [.tup l,.int m] Q X:=q
def zk0 {ds:List D}(h:ds.length<=sizeLine)(q:Q (.tup ds)):pTup.run ds Q X:=⟨h,q⟩
def zk6 {ds:List D}(h:ds.length<=sizeLine)(q:Q (.lst ds)):pLst.run ds Q X:=⟨h,q⟩
def zih {l:List D}(q:Q (.tup l)):z2r.run [.lst l] Q X:=q
def zkb (q:Q (.int (if m<0 then -m else m))):pAbs.run [.int m] Q X:=q
def zir {T:String}(q:Q (.bl (T == "int"))):(pIsi T).run [.int m] Q X:=q
def zin {T:String}{l:List D}(q:Q (.bl (T == "tuple"))):(pIsi T).run [.tup l] Q X:=q
def zio {T:String}{x:Str}(q:Q (.bl (T == "str"))):(pIsi T).run [.str x] Q X:=q
def ziq {T:String}(q:Q (.bl false)):(pIsi T).run [.non] Q X:=q
def zbO {ns:List Int}(q:Q (.int ns.sum)):pSum.run [.lst (ns.map D.int)] Q X:=by
 show onI (ints? (ns.map D.int)) λns=>Q (.int ns.sum);rw[zdI];exact q
def zeA {l r:List D}(h:l.length+r.length<=sizeLine)(q:Q (.tup (l++r))):pAdd.run [.tup l,.tup r] Q X:=⟨h,q⟩
end
theorem Safe.of_noL {d:D}(h1:noL d=true)(h2:noD d=true):∀ρ:Pu.Env,Safe d ρ
 | []=>trivial
 | .n::r=>⟨trivial,Safe.of_noL h1 h2 r⟩
 | .s _::r=>⟨trivial,Safe.of_noL h1 h2 r⟩
 | .o x::r=>⟨by cases x <;> first | exact h1 | exact h2 | trivial,Safe.of_noL h1 h2 r⟩
def z9B {ρ:Pu.Env}{i:Nat}{l:List D}{K:List D->Prop}(h:ρ[i]? = some (B.o (.lst l)))(q:K l):ownL ρ i K:=by unfold ownL;rw[h];exact q
def z43 {l:List D}{k:Int}{d:D}{Q:DK}(e:atI l k=some d)(q:Q d):onV (atI l k) Q:=by rw[e];exact q
abbrev vec (p:Int × Int):D :=.tup [.int p.1,.int p.2]
theorem z3C:∀{l:List D},(∀d∈l,noL d=true)->noLs l=true
 | [],_=>rfl
 | d::r,h=>by rw[noLs,h d ww,z3C λx hx=>h x (we _ hx)];rfl
theorem z3D:∀{l:List D},(∀d∈l,noD d=true)->noDs l=true
 | [],_=>rfl
 | d::r,h=>by rw[noDs,h d ww,z3D λx hx=>h x (we _ hx)];rfl
abbrev vecs (l:List (Int × Int)):D :=.tup (l.map vec)
def z7e (l:List (Int × Int)):noL (vecs l)=true:=by
 show noLs (l.map vec)=true;refine z3C λd hd =>?_;obtain⟨p,_,rfl⟩:=wP.mp hd
 rfl
def z7f (l:List (Int × Int)):noD (vecs l)=true:=by
 show noDs (l.map vec)=true;refine z3D λd hd =>?_;obtain⟨p,_,rfl⟩:=wP.mp hd
 rfl
def z9W {α:Type}{f:α->D}{l:List α}{k:Int}{x:α}(h:atI l k=some x):atI (l.map f) k=some (f x):=by
 unfold atI at h ⊢;rw[wc]
 cases q:ixN l.length k with
 | none=>rw[q] at h;cases h
 | some j=>
  rw[q] at h;have h':l[j]? = some x:=h;show (l.map f)[j]? = some (f x);rw[wR,h']
  rfl
def menu {ns:List Int}{k:Int}{Q:DK}(h0:0<=k)(h1:k<ns.length)(q:∀v∈ns,Q (.int v)):onV (atI (ns.map D.int) k) Q:=by
 obtain⟨v,hv,e⟩:=zjd (xs:=ns) h0 h1;rw[z9W e];exact q v hv
def z9a {α:Type}(f:α->D)(l:List α)(lo hi:Option Int):cutD (l.map f) lo hi=((l.drop (HT.sIx l.length 0 lo)).take (HT.sIx l.length l.length hi - HT.sIx l.length 0 lo)).map f:=by
 unfold cutD;rw[wc,List.map_take,List.map_drop]
def zck (p r:Int × Int):deq (vec p) (vec r)=decide (p=r):=by
 obtain⟨a,b⟩:=p;obtain⟨c,d⟩:=r;show PyData.eqv (.tuple [.int a,.int b]) (.tuple [.int c,.int d])=decide ((a,b)=(c,d));rw[eqv2,decide_eq_decide,uR]
theorem Da.vec (p:Int × Int){n:Nat}:Da (n+1) (vec p):=Da.tup.mpr λd hd=>by
 simp only[wf,wC,vj] at hd
 rcases hd with rfl | rfl <;> exact Da.int
theorem Da.vecs (l:List (Int × Int)){n:Nat}:Da (n+2) (vecs l):=Da.tup.mpr λd hd=>by
 obtain⟨p,_,rfl⟩:=wP.mp hd;exact Da.vec p
end Pu
namespace L2
open PySem PySem.Spec PyProof.Rows
section
variable {X:Cx}{k:Nat}{ps:List Str}{sp:Sp}{x g cx n:Str}{e:Expr}{es:List Expr}{ta:TA}{C2:Addr}{b0:Stmt}{suite:List Stmt}{ts:TS}{p1 p2 p3 p4 p5 p6 pos:Pos}{j:Nat}
def zeY {pins:List (Addr × Obj)}{σ:St}{H1:Hp}{s1 s':Shared}{ev:Value}{D:Ends}{Q:Flow->Shared->Prop}{E':WvP}(I1:Inv X pins σ H1 s1)(hst:X.stack=X.env::X.outer/\X.env.frame=some X.env.locals)
  (hN:X.N.Nodup) (hi:X.N[j]? = some n) (hk:X.env.scope.names.lookup n=some .local)
  (T:Exc X.K X.mg cx C2) (hgc:Gl X cx) (hs:∀ea,QSs (X.suite ea) (b0::suite) ts) (hx:CXe X.prog X.w X.stack H1 s1 (λCv _ H2=>W.exmOne X.K Cv (.ref C2)=some true/\∃C,Cv = .ref C/\∀ea H3,H2 ea=none->Same H2 H3->H3 ea=some (.ext (z3h ea C))->ts (D.less j) (σ.set j (some (.ref ea))) H3) ev s')
  (hQ:∀f s2,SP X pins D f s2->Q f s2) (hdb:(cx == ("__debug__":Str))=false):
  wpAny (model X.prog X.w) X.A (noteFrame ev X.env) (λ_ s2=>wpAny (model X.prog X.w) X.A (setFlight ev none) (λ_ s3=>wpAny (model X.prog X.w) X.A (handleBy ev X.env (.ExceptHandler (some (.Name cx p5)) (some n) (b0::suite) p6::[])) Q E' s3) E' s2) E' s':=by
 obtain⟨ea,t,Cv,H2,B,rfl,F,hb,ho,hm,C,rfl,q⟩:=hx;have F':=F.fl;rw[hst.1] at F';refine wpAny_looks_onW (by rw[I1.ok.frames,hst.1]) hst.2 F' λh4 held4 sm4 =>?_;refine wpAny_landsW held4 λh5 fl5 sm5 =>?_;obtain⟨un5,hok5⟩:=F.on fl5.1 (sm4.trans sm5);have I5:Inv X pins σ H2 { s' with heap:=h5 }:=I1.call' (s':={ s' with heap:=h5 }) ho un5 hok5 hb (λb z=>by simp at z);refine wpAny_handleBy_cons (codeAny_handlers_test ?_) (by intro z;cases z);refine z31 (X:=X.suite ea) I5.suite hgc T.nm ?_ hdb;obtain⟨ob,hob,hobc⟩:=fl5.there;have LT:W.Looks (model X.prog X.w) h5 (typeOf (.ref ea)) (.ref C):=by
  rw[<- hobc];exact(W.Looks.ld hob).andThen .now
 refine(W.exm_one I5.kIn LT hm) _ _ _ _ (λ_ _ z=>z) ?_;show codeAny _ _ _ _ _;refine codeAny_handlers_suite_as ?_;refine lands_againW fl5 λh6 fl6 sm6 =>?_;have F5:Fly X.prog X.w X.stack H1 s1.heap (.ref C) H2 ea t B h5:=⟨hst.1 ▸ fl5,un5,hok5,F.trk,F.kep⟩
 obtain⟨un6,hok6⟩:=F5.on fl6.1 sm6;obtain⟨oe,ws,hoe,hoec,hoed,_⟩:=fl6.first;have hxe:z3h ea C h6:=⟨oe,hoe,hoec,ws,hoed⟩
 have I6:Inv X pins σ (upd H2 ea (.ext (z3h ea C))) { s' with heap:=h6 }:=I1.call' (s':={ s' with heap:=h6 }) ho (zeU un6 F.out F.free) (zdJ hok6 F.free hxe) hb (λb z=>by simp at z);refine z4a (X:=X.suite ea) I6.suite hN hi (.inl hk) (v :=.ref ea) rfl (λs7 I7 =>?_) (.inr hk);refine va ((hs ea).p pins _ _ _ (D.less j) I7 (q ea _ F.free (zcP F.free) z06)) (λf s8 z =>?_) λ_ _ z=>z.elim;have z:=z.unsuite I1.ok;show wpAny _ _ _ (λ_ s3=>Q f s3) E' s8
 cases f with
 | next=>obtain⟨σ',H',I,q⟩:=z;exact z7l I hN hi hk λs9 I9=>hQ _ _ ⟨_,_,I9,q⟩
 | brk=>obtain⟨σ',H',I,q⟩:=z;exact z7l I hN hi hk λs9 I9=>hQ _ _ ⟨_,_,I9,q⟩
 | cont=>obtain⟨σ',H',I,q⟩:=z;exact z7l I hN hi hk λs9 I9=>hQ _ _ ⟨_,_,I9,q⟩
 | ret u=>obtain⟨v,σ',H',I,r,q⟩:=z;exact z7l I hN hi hk λs9 I9=>hQ _ _ ⟨_,_,_,I9,r,q⟩
end
end L2
namespace Pu
open PySem PySem.Spec PyProof.Rows L2
def XT (mg:WmP)(xs:List Str)(P:Str->Addr->Prop):Prop:=∀x C,x∈xs->mg x=some (.ref C)->P x C
def z35 {mg:WmP}{P:Str->Addr->Prop}:XT mg [] P:=λ_ _ h=>by cases h
def z0j {mg:WmP}{P:Str->Addr->Prop}{x:Str}{C:Addr}{xs:List Str}(h:mg x=some (.ref C))(p:P x C)(r:XT mg xs P):XT mg (x::xs) P:=λy C' hy e=>by
 rcases wf.mp hy with z | z
 .subst z;rw[h] at e
  cases e
  exact p
 .exact r y C' z e
section
variable {K:W.Frag}{mg:WmP}{H0 G0 G H:Hp}{ρ:Pu.Env}{σ:L2.St}
def AbS.del (h:AbS K mg H0 G0 G ρ σ H)(i:Nat):AbS K mg H0 G0 G (ρ.set i .n) (σ.set i none) H:=by
 have old:∀{k:Nat}{b:B},b ≠ .n->(ρ.set i .n)[k]? = some b->k≠i/\ρ[k]? = some b:=λ{k b} hb z=>by
  by_cases hk:k=i
  .subst hk
   rcases Nat.lt_or_ge k ρ.length with l | l
   .rw[wD l] at z;cases z;exact(hb rfl).elim
   .rw[List.getElem?_eq_none (by simpa using l)] at z;cases z
  .rw[wj (vk hk)] at z;exact⟨hk,z⟩
 refine⟨by simp[h.len],h.s0,h.g0,h.g,h.nw,λk e z =>?_,λk e z =>?_,λk l e e' b hkl z z' s s' =>?_⟩
 .obtain⟨hk,z⟩:=old (by intro y;cases y) z;obtain⟨v,h1,h2⟩:=h.sh k e z;exact⟨v,by rw[wj (vk hk)];exact h1,h2⟩
 .obtain⟨hk,z⟩:=old (by intro y;cases y) z;obtain⟨a,h1,h2⟩:=h.ow k e z;exact⟨a,by rw[wj (vk hk)];exact h1,h2⟩
 .obtain⟨hk,z⟩:=old (by intro y;cases y) z;obtain⟨hl,z'⟩:=old (by intro y;cases y) z';rw[wj (vk hk)] at s;rw[wj (vk hl)] at s';exact h.ne k l e e' b hkl z z' s s'
end
section
variable {X:Cx}{E:XK}{k:Nat}{ps:List Str}{F:Fn}{g cx n:Str}{e:Expr}{es:List Expr}{ys:List Ex}{C2:Addr}{b0:Stmt}{suite:List Stmt}{t:Sm}{p2 p3 p4 p5 p6 pos:Pos}{j:Nat}{xs:List Str}
def gIsx (xs:List Str)(f:Str->Bool)(d:D)(Q:DK):Prop:=match d with
 | .exc x=>x∈xs/\Q (.bl (f x))
 | _=>False
def zc9 {xs:List Str}{f:Str->Bool}(d:D)(Q Q':DK)(m:∀d,Q d->Q' d)(h:gIsx xs f d Q):gIsx xs f d Q':=by
 cases d with
 | exc x=>exact⟨h.1,m _ h.2⟩
 | _=>exact h.elim
def pIsx (xs:List Str)(f:Str->Bool):Fn:=fn1 (gIsx xs f) zc9
def zc8 {xs:List Str}{f:Str->Bool}{d:D}{Q:DK}(h:gIsx xs f d Q):∃x,d = .exc x/\x∈xs/\Q (.bl (f x)):=by
 cases d with
 | exc x=>exact⟨x,rfl,h⟩
 | _=>exact h.elim
def clsV (K:W.Frag)(C:Addr)(b:Bool)(y:V)(H:Hp):Prop:=(∃C2,y = .ref C2/\W.kitOne K (.ref C) (.ref C2)=some b)\/(∃T,y = .ty T/\W.kitOne K (.ref C) (.type T)=some b)\/(∃(tp:Addr) (cs:List Addr),y = .ref tp/\SqT K H tp (cs.map V.ref)/\W.kitAny K (.ref C) (cs.map Value.ref)=some b)
def zbi {f:Str->Bool}{t:Expr}{x:Ex}{tc:TE}{pp:Pos}(hg:Gl X "isinstance")(hmg:X.mg "isinstance"=none)(hx:QX X E e x)(ht:QE X t tc)
  (h:∀σ H Q,(∀y H',Same H H'->(XT X.mg xs λz C=>clsV X.K C (f z) y H')->Q y H')->tc σ H Q) (hl:XT X.mg xs λ_ C=>z1T X.K C=true)
  (hs1:starEach [e,t] X.env=(false,eval e X.env)::starEach [t] X.env:=by rfl) (hs2:starEach [t] X.env=(false,eval t X.env)::starEach [] X.env:=by rfl) (hpl:(backTo pos (starEach [t] X.env)).any (·.1)=false:=by rfl)
  (hv:bootBuiltins "isinstance"=some (.builtin "isinstance"):=by rfl) (hn:("isinstance":Str)≠"__name__":=by decide) (hdb:(("isinstance":Str) == ("__debug__":Str))=false:=by decide):QX X E (.Call (.Name "isinstance" pp) [e,t] [] pos) (.op (pIsx xs f) [x]):=
 QE.imp (z5t zcv hg hmg hv (z3X hx (z3X ht z7U hs2) hs1) hn hdb hs1 hpl) <| by
  k_in;w_up;obtain⟨z,rfl,hz,q⟩:=zc8 q;rw[RD] at rd;obtain⟨ea,C,rfl,h1,h2⟩:=rd;refine h σ H1 _ λy H' s' hc =>?_;refine⟨ea,C,y,f z,rfl,s' _ _ (g2 _ _ h1),hl z C hz h2,hc z C hz h2,?_⟩;exact hk (.bl (f z)) (.bl (f z)) G1 H' q g1 (z03 g2 s') (z03 g3 s') RD.bl'
def z8J {f:Str->Bool}{c:Str}{C2:Addr}{x:Ex}{pp p1:Pos}(hg:Gl X "isinstance")(hmg:X.mg "isinstance"=none)(hx:QX X E e x)(hgc:Gl X c)(T:Exc X.K X.mg c C2)(hd:(c == ("__debug__":Str))=false)(hl:XT X.mg xs λ_ C=>z1T X.K C=true)(hc:XT X.mg xs λz C=>W.kitOne X.K (.ref C) (.ref C2)=some (f z))
  (hs1:starEach [e,.Name c p1] X.env=(false,eval e X.env)::starEach [.Name c p1] X.env:=by rfl) (hs2:starEach [.Name c p1] X.env=(false,eval (.Name c p1) X.env)::starEach [] X.env:=by rfl) (hpl:(backTo pos (starEach [.Name c p1] X.env)).any (·.1)=false:=by rfl):
  QX X E (.Call (.Name "isinstance" pp) [e,.Name c p1] [] pos) (.op (pIsx xs f) [x]):=
 zbi hg hmg hx (zbv (v :=.ref C2) hgc T.nm rfl hd) (λσ H Q q=>q (.ref C2) H Same.refl' λz C hz e =>.inl ⟨C2,rfl,hc z C hz e⟩) hl hs1 hs2 hpl
def zfk {f:Str->Bool}{c:Str}{T:String}{x:Ex}{pp p1:Pos}(hg:Gl X "isinstance")(hmg:X.mg "isinstance"=none)(hx:QX X E e x)(ht:QE X (.Name c p1) (tC (.ty T)))(hl:XT X.mg xs λ_ C=>z1T X.K C=true)(hc:XT X.mg xs λz C=>W.kitOne X.K (.ref C) (.type T)=some (f z))
  (hs1:starEach [e,.Name c p1] X.env=(false,eval e X.env)::starEach [.Name c p1] X.env:=by rfl) (hs2:starEach [.Name c p1] X.env=(false,eval (.Name c p1) X.env)::starEach [] X.env:=by rfl) (hpl:(backTo pos (starEach [.Name c p1] X.env)).any (·.1)=false:=by rfl):
  QX X E (.Call (.Name "isinstance" pp) [e,.Name c p1] [] pos) (.op (pIsx xs f) [x]):=
 zbi hg hmg hx ht (λσ H Q q=>q (.ty T) H Same.refl' λz C hz e =>.inr (.inl ⟨T,rfl,hc z C hz e⟩)) hl hs1 hs2 hpl
def zcJ (cs:List Addr):TA:=λ_ H Q=>Q (cs.map V.ref) H
def zfF:QA X [] (zcJ []):=QA.imp z7U λ_ _ _ q=>q
def z6X {c:Str}{C2:Addr}{cs:List Addr}{es:List Expr}{p1:Pos}(hgc:Gl X c)(T:Exc X.K X.mg c C2)(hd:(c == ("__debug__":Str))=false)(r:QA X es (zcJ cs))(hs:starEach (.Name c p1::es) X.env=(false,eval (.Name c p1) X.env)::starEach es X.env:=by rfl):QA X (.Name c p1::es) (zcJ (C2::cs)):=
 QA.imp (z3X (zbv (v :=.ref C2) hgc T.nm rfl hd) r hs) λ_ _ _ q=>q
def zfl {f:Str->Bool}{cs:List Addr}{tes:List Expr}{x:Ex}{pp p1:Pos}{x1}(hg:Gl X "isinstance")(hmg:X.mg "isinstance"=none)(hx:QX X E e x)(ht:QA X tes (zcJ cs))(hz:cs.length<=sizeLine)(hl:XT X.mg xs λ_ C=>z1T X.K C=true)(hc:XT X.mg xs λz C=>W.kitAny X.K (.ref C) (cs.map Value.ref)=some (f z))
  (hs1:starEach [e,.Tuple tes x1 p1] X.env=(false,eval e X.env)::starEach [.Tuple tes x1 p1] X.env:=by rfl) (hs2:starEach [.Tuple tes x1 p1] X.env=(false,eval (.Tuple tes x1 p1) X.env)::starEach [] X.env:=by rfl) (hpl:(backTo pos (starEach [.Tuple tes x1 p1] X.env)).any (·.1)=false:=by rfl):
  QX X E (.Call (.Name "isinstance" pp) [e,.Tuple tes x1 p1] [] pos) (.op (pIsx xs f) [x]):=
 zbi hg hmg hx (zfB ht) (λσ H Q q=>by
  refine⟨by rw[wc];exact hz,λp H' s' e'=>q _ _ s' λz C hz e =>.inr (.inr ⟨p,cs,rfl,SqT.of e',hc z C hz e⟩)⟩) hl hs1 hs2 hpl
def z8H {i:Nat}{x:Str}{y:Ex}{p1:Pos}(hN:X.N.Nodup)(hi:X.N[i]? = some x)(hx:Loc X.env.scope x)(he:QX X E e y)(hs:swapsWith e (some (.Name x p1)) pos.line X.env=pure false:=by rfl)(hf:X.fn x=true\/X.env.scope.names.lookup x=some .local:=by first | exact .inl rfl | exact .inr rfl):QZ X E (.Assign [.Name x p1] e pos) (.set i y):=
 z1I (zbm hN hi hx he hs hf)
end
abbrev Wd:=Addr->Option D
def OwnL (K:W.Frag)(mg:WmP)(G H:Hp):List Addr->List D->Prop
 | [],[]=>True
 | a::as,c::cs=>z2h K mg G H a c/\OwnL K mg G H as cs
 | _,_=>False
def Pr (d:D):Prop:=noL d=true/\noD d=true
def Pc:D->Prop
 | .lst l=>∀d∈l,Pr d
 | .dct ks vs=>∀d∈vs,Pr d
 | _=>False
def Hd (mg:WmP)(H:Hp)(p:Addr)(as:List Addr)(n:Str)(fs:List Str):Prop:=
 (n≠""/\∃C dx,H p=some (.ins C dx (fs.zip (as.map V.ref)))/\mg n=some (.ref C))\/(n=""/\mg n=none/\fs.length=as.length/\H p=some (.dK ((fs.map Sum.inr).zip (as.map V.ref))))
def z8u (K:W.Frag)(mg:WmP)(G H:Hp)(p:Addr)(as:List Addr):D->Prop
 | .ins n fs cs=>Hd mg H p as n fs/\OwnL K mg G H as cs/\∀c∈cs,Pc c
 | _=>False
def sho:D->D
 | .ins n fs cs=>if n="" then .dct (fs.map .str) cs else .ins n fs cs
 | d=>d
theorem Hd.ins {mg:WmP}{H:Hp}{p C:Addr}{as:List Addr}{n:Str}{fs:List Str}(h:Hd mg H p as n fs)(m:mg n=some (.ref C)):n≠""/\∃dx,H p=some (.ins C dx (fs.zip (as.map V.ref))):=by
 rcases h with ⟨h0,C',dx,h1,h2⟩ | ⟨_,h2,_⟩
 .rw[m] at h2;cases h2;exact⟨h0,dx,h1⟩
 .rw[m] at h2;cases h2
def Hd.ob {mg:WmP}{H:Hp}{p:Addr}{as:List Addr}{n:Str}{fs:List Str}(h:Hd mg H p as n fs):∃o,H p=some o/\(o matches .ins _ _ _ | .dK _)/\∀H':Hp,H' p=some o->Hd mg H' p as n fs:=by
 rcases h with ⟨h0,C,dx,h1,h2⟩ | ⟨h0,h2,h3,h1⟩
 .exact⟨_,h1,rfl,λH' e =>.inl ⟨h0,C,dx,e,h2⟩⟩
 .exact⟨_,h1,rfl,λH' e =>.inr ⟨h0,h2,h3,e⟩⟩
def Foot (W:Wd)(A:Addr->List Addr)(a:Addr):Prop:=∃p c,W p=some c/\a∈p::A p
structure StO (K:W.Frag)(mg:WmP)(G H:Hp)(W:Wd)(A:Addr->List Addr):Prop where
 at_:∀p c,W p=some c->z8u K mg G H p (A p) c
 nd:∀p c,W p=some c->(p::A p).Nodup
 dj:∀p q c c' a,W p=some c->W q=some c'->a∈p::A p->a∈q::A q->p=q
 out:∀a,Foot W A a->G a=none
structure AbR (K:W.Frag)(mg:WmP)(H0 G0 G:Hp)(ρ:Pu.Env)(σ:L2.St)(H:Hp)(W:Wd)(A:Addr->List Addr):Prop where
 ab:AbS K mg H0 G0 G ρ σ H
 st:StO K mg G H W A
 no:∀a,Foot W A a->H0 a=none/\¬ z12 ρ σ a
def Mu:HO->Prop
 | .lst _=>True
 | .dK _=>True
 | .dT _=>True
 | .ins _ _ _=>True
 | _=>False
section
variable {K:W.Frag}{mg:WmP}{H0 G0 G G' H H' H1:Hp}{ρ:Pu.Env}{σ:L2.St}{W W':Wd}{A A':Addr->List Addr}{O:Addr->Prop}
def zaQ {a:Addr}{o:HO}(hO:∀a o,O a->G a=some o->Mu o)(h:G a=some o)(n:¬ Mu o):minus G O a=some o:=by
 rw[z1B λz=>n (hO a o z h)];exact h
mutual
theorem RD.strip (hO:∀a o,O a->G a=some o->Mu o):∀(d:D) {v:V},noL d=true->noD d=true->RD K mg G d v->RD K mg (Pu.minus G O) d v
 | .non,_,_,_,h=>by simpa[RD] using h
 | .bl _,_,_,_,h=>by simpa[RD] using h
 | .int _,_,_,_,h=>by simpa[RD] using h
 | .str _,_,_,_,h=>by simpa[RD] using h
 | .fn _,_,_,_,h=>by rw[RD] at h ⊢;exact h
 | .ptr _,_,_,_,h=>by rw[RD] at h ⊢;exact h
 | .ins _ _ _,_,h,_,_=>by rw[noL] at h;cases h
 | .fz _ _,_,h,_,_=>by rw[noL] at h;cases h
 | .lst _,_,h,_,_=>by rw[noL] at h;cases h
 | .dct _ _,_,_,h,_=>by rw[noD] at h;cases h
 | .exc _,_,_,_,h=>by
  rw[RD] at h ⊢;obtain⟨ea,C,h1,h2,h3⟩:=h;exact⟨ea,C,h1,zaQ hO h2 id,h3⟩
 | .tup ds,_,nl,nd,h=>by
  rw[RD] at h ⊢;by_in;rw[noL] at nl;rw[noD] at nd;refine⟨a,xs,h1,?_,RDs.strip hO ds nl nd h3⟩
  rcases h2 with (h2 | ⟨o,h2⟩) | h2
  .exact .inl (.inl (zaQ hO h2 id))
  .exact .inl (.inr ⟨o,zaQ hO h2 id⟩)
  .exact .inr h2
theorem RDs.strip (hO:∀a o,O a->G a=some o->Mu o):∀(ds:List D) {xs:List V},noLs ds=true->noDs ds=true->RDs K mg G ds xs->RDs K mg (Pu.minus G O) ds xs
 | [],_,_,_,h=>by simpa[RDs] using h
 | d::ds,_,nl,nd,h=>by
  rw[RDs] at h ⊢;obtain⟨x,r,h1,h2,h3⟩:=h;rw[noLs,wN] at nl;rw[noDs,wN] at nd;exact⟨x,r,h1,RD.strip hO d nl.1 nd.1 h2,RDs.strip hO ds nl.2 nd.2 h3⟩
end
theorem RDs.stripA (hO:∀a o,O a->G a=some o->Mu o):∀(ds:List D) {xs:List V},(∀d∈ds,Pr d)->RDs K mg G ds xs->RDs K mg (Pu.minus G O) ds xs
 | [],_,_,h=>by simpa[RDs] using h
 | d::ds,_,n,h=>by
  rw[RDs] at h ⊢;obtain⟨x,r,h1,h2,h3⟩:=h;have:=n d ww;exact⟨x,r,h1,RD.strip hO d this.1 this.2 h2,RDs.stripA hO ds (λe he=>n e (we _ he)) h3⟩
def zbJ {a:Addr}{d:D}(h:z2h K mg G H a d)(hO:∀a o,O a->G a=some o->Mu o)(pc:Pc d):z2h K mg (Pu.minus G O) H a d:=by
 cases d with
 | lst ds=>obtain⟨xs,h1,h2⟩:=h;exact⟨xs,h1,RDs.stripA hO ds pc h2⟩
 | dct ks vs=>obtain⟨xs,h1,h2⟩:=h;exact⟨xs,RDs.stripA hO vs pc h1,h2⟩
 | _=>exact h.elim
theorem OwnL.same (g:Same G G'):∀{as:List Addr}{cs:List D},OwnL K mg G H as cs->(∀a∈as,∀o,H a=some o->H' a=some o)->OwnL K mg G' H' as cs
 | [],[],_,_=>trivial
 | a::as,c::cs,h,k=>⟨h.1.same g (k a ww),OwnL.same g h.2 λb hb=>k b (we _ hb)⟩
 | [],_::_,h,_=>h.elim
 | _::_,[],h,_=>h.elim
theorem OwnL.get:∀{as:List Addr}{cs:List D}{i:Nat}{c:D},OwnL K mg G H as cs->cs[i]? = some c->∃a,as[i]? = some a/\z2h K mg G H a c
 | _::_,_::_,0,_,h,e=>by cases e;exact⟨_,rfl,h.1⟩
 | _::_,_::_,i+1,_,h,e=>OwnL.get (i:=i) h.2 e
 | [],[],_,_,_,e=>by simp at e
 | [],_::_,_,_,h,_=>h.elim
 | _::_,[],_,_,h,_=>h.elim
theorem OwnL.exO:∀{as:List Addr}{cs:List D}{a:Addr},OwnL K mg G H as cs->a∈as->∃o,H a=some o/\Mu o
 | a::as,c::cs,b,h,hb=>by
  rcases wf.mp hb with z | z
  .subst z;have h1:=h.1
   cases c with
   | lst ds=>obtain⟨xs,h1,h2⟩:=h1;exact⟨_,h1,trivial⟩
   | dct ks vs=>
    obtain⟨xs,_,h2⟩:=h1
    rcases h2 with ⟨kvs,q,r⟩ | ⟨kvs,q,r⟩ <;> exact⟨_,q,trivial⟩
   | _=>exact h1.elim
  .exact OwnL.exO h.2 z
 | [],[],_,_,hb=>by cases hb
 | [],_::_,_,h,_=>h.elim
 | _::_,[],_,h,_=>h.elim
theorem OwnL.rds (g:Same G G'):∀{as:List Addr}{cs:List D},OwnL K mg G H as cs->(∀a∈as,G' a=H a)->RDs K mg G' cs (as.map V.ref)
 | [],[],_,_=>RDs.nil
 | a::as,c::cs,h,k=>RDs.cons (h.1.rd g (k a ww)) (OwnL.rds g h.2 λb hb=>k b (we _ hb))
 | [],_::_,h,_=>h.elim
 | _::_,[],h,_=>h.elim
theorem z8u.exO {p a:Addr}{as:List Addr}{c:D}(h:z8u K mg G H p as c)(ha:a∈p::as):∃o,H a=some o/\Mu o:=by
 cases c with
 | ins n fs cs=>
  obtain⟨h1,h3,h4⟩:=h
  rcases wf.mp ha with z | z
  .subst z
   rcases h1 with ⟨_,C,dx,h1,h2⟩ | ⟨_,_,_,h1⟩ <;> exact⟨_,h1,trivial⟩
  .exact h3.exO z
 | _=>exact h.elim
theorem z8u.same {p:Addr}{as:List Addr}{c:D}(h:z8u K mg G H p as c)(g:Same G G')(k:∀a∈p::as,∀o,H a=some o->H' a=some o):z8u K mg G' H' p as c:=by
 cases c with
 | ins n fs cs=>
  obtain⟨h1,h3,h4⟩:=h;obtain⟨o,e,_,h2⟩:=h1.ob;exact⟨h2 _ (k p ww _ e),h3.same g (λa ha=>k a (we _ ha)),h4⟩
 | _=>exact h.elim
def z8u.rd {p:Addr}{as:List Addr}{c:D}(h:z8u K mg G H p as c)(g:Same G G')(k:∀a∈p::as,G' a=H a):RD K mg G' (sho c) (.ref p):=by
 cases c with
 | ins n fs cs=>
  obtain⟨h1,h3,h4⟩:=h;have rds:=h3.rds g λa ha=>k a (we _ ha);show RD K mg G' (if n="" then .dct (fs.map .str) cs else .ins n fs cs) (.ref p)
  rcases h1 with ⟨h0,C,dx,h1,h2⟩ | ⟨h0,_,hl,h1⟩
  .rw[if_neg h0,RD];exact⟨p,C,dx,as.map V.ref,rfl,(k p ww).trans h1,h2,rds⟩
  .rw[if_pos h0,RD];refine⟨p,as.map V.ref,rfl,rds,.inl ⟨_,.inl ((k p ww).trans h1),?_,?_⟩⟩
   .have e:(λq:Key × V=>kD q.1)=kD ∘ Prod.fst:=rfl;rw[e, <- w5,List.map_fst_zip (by simp[hl]),w5]
    rfl
   .rw[List.map_snd_zip (by simp[hl])]
 | _=>exact h.elim
theorem StO.exO {a:Addr}(h:StO K mg G H W A)(ha:Foot W A a):∃o,H a=some o/\Mu o:=by
 obtain⟨p,c,e,ha⟩:=ha;exact(h.at_ p c e).exO ha
theorem StO.same (h:StO K mg G H W A)(g:Same G G')(k:∀a,Foot W A a->∀o,H a=some o->H' a=some o)(n:∀a,Foot W A a->G' a=none):StO K mg G' H' W A:=
 ⟨λp c e=>(h.at_ p c e).same g λa ha=>k a ⟨p,c,e,ha⟩,h.nd,h.dj,n⟩
def AbS.weak {H0':Hp}(h:AbS K mg H0 G0 G ρ σ H)(k:Same H0' H0):AbS K mg H0' G0 G ρ σ H where
 len:=h.len
 s0:=z03 k h.s0
 g0:=h.g0
 g:=h.g
 nw:=λa o e=>by
  rcases h.nw a o e with z | z
  .exact .inl z
  .exact .inr (z0p k z)
 sh:=h.sh
 ow:=λi d e=>by
  obtain⟨a,h1,h2,h3,h4⟩:=h.ow i d e;exact⟨a,h1,h2,z0p k h3,h4⟩
 ne:=h.ne
def AbS.backO {G1:Hp}(ab:AbS K mg H0 G0 G ρ σ H)(ho:∀a,O a->G a=none)(hO:∀a,z12 ρ σ a->O a)(g1:Gr (plus G H O) H G1)(g2:Same G1 H1)(g3:Same H H1):AbS K mg H0 G0 (minus G1 O) ρ σ H1/\Same G (minus G1 O):=by
 have lm:Same G (minus G1 O):=z1X (z03 (z1N ho) g1.1) ho;refine⟨⟨ab.len,z03 ab.s0 g3,z03 ab.g0 lm,z03 z0V g2,λa o e =>?_,λi d e =>?_,λi d e =>?_,ab.ne⟩,lm⟩
 .have na:¬ O a:=λz=>by rw[z1r z] at e;cases e
  rcases g1.2 a o (z0V a o e) with ⟨u,q⟩ | q
  .unfold plus at q;rw[if_neg na] at q;exact ab.nw a u q
  .exact .inr (z0p ab.s0 q)
 .obtain⟨v,h1,h2⟩:=ab.sh i d e;exact⟨v,h1,h2.same lm⟩
 .obtain⟨a,h1,h2,h3,h4⟩:=ab.ow i d e;exact⟨a,h1,z1r (hO a ⟨i,d,e,h1⟩),h3,h4.same lm (g3 a)⟩
def Hid (ρ:Pu.Env)(σ:L2.St)(W:Wd)(A:Addr->List Addr)(a:Addr):Prop:=z12 ρ σ a\/Foot W A a
def AbS.ownMu (h:AbS K mg H0 G0 G ρ σ H){a:Addr}(ha:z12 ρ σ a):∃o,H a=some o/\Mu o:=by
 obtain⟨i,d,e,s⟩:=ha;obtain⟨b,h1,h2,h3,h4⟩:=h.ow i d e;rw[s] at h1;cases h1
 cases d with
 | lst ds=>obtain⟨xs,h5,h6⟩:=h4;exact⟨_,h5,trivial⟩
 | dct ks vs=>
  obtain⟨xs,_,h6⟩:=h4
  rcases h6 with ⟨kvs,q,r⟩ | ⟨kvs,q,r⟩ <;> exact⟨_,q,trivial⟩
 | _=>exact h4.elim
def AbR.hid (h:AbR K mg H0 G0 G ρ σ H W A){a:Addr}(ha:Hid ρ σ W A a):G a=none/\∃o,H a=some o/\Mu o:=by
 rcases ha with z | z
 .exact⟨h.ab.free a z,h.ab.ownMu z⟩
 .exact⟨h.st.out a z,h.st.exO z⟩
def AbR.mu {G1:Hp}(h:AbR K mg H0 G0 G ρ σ H W A)(g2:Same G1 H1)(g3:Same H H1):∀a o,Hid ρ σ W A a->G1 a=some o->Mu o:=λa o ha e=>by
 obtain⟨_,u,hu,m⟩:=h.hid ha;have e1:=g2 a o e;rw[g3 a u hu] at e1
 cases e1;exact m
def AbR.back {G1:Hp}(h:AbR K mg H0 G0 G ρ σ H W A)(g1:Gr (plus G H (Hid ρ σ W A)) H G1)(g2:Same G1 H1)(g3:Same H H1):AbR K mg H0 G0 (minus G1 (Hid ρ σ W A)) ρ σ H1 W A/\Same G (minus G1 (Hid ρ σ W A)):=by
 obtain⟨ab',lm⟩:=h.ab.backO (λa z=>(h.hid z).1) (λa z =>.inl z) g1 g2 g3;exact⟨⟨ab',h.st.same lm (λa _=>g3 a) (λa ha=>z1r (.inr ha)),h.no⟩,lm⟩
def shB (W:Wd):B->B
 | .s (.ptr a)=>match W a with
  | some c =>.s (sho c)
  | none =>.s (.ptr a)
 | b=>b
def shw (W:Wd)(ρ:Pu.Env):Pu.Env:=ρ.map (shB W)
def AbR.abe (h:AbR K mg H0 G0 G ρ σ H W A):AbE K mg (plus G H (Hid ρ σ W A)) (shw W ρ) σ:=λi d e=>by
 have lp:Same G (plus G H (Hid ρ σ W A)):=z1N λa z=>(h.hid z).1;rw[Env.get_eq] at e;unfold shw at e;rw[wR] at e
 cases q:ρ[i]? with
 | none=>rw[q] at e;cases e
 | some b=>
  rw[q] at e;have old:∀d',b = .s d'->∃v,σ[i]? = some (some v)/\RD K mg (plus G H (Hid ρ σ W A)) d' v:=λd' z=>by
   subst z;obtain⟨v,h1,h2⟩:=h.ab.sh i d' q;exact⟨v,h1,h2.same lp⟩
  cases b with
  | n=>cases e
  | o d'=>
   cases e
   obtain⟨a,h1,h2,h3,h4⟩:=h.ab.ow i d q;exact⟨.ref a,h1,h4.rd lp (z5N (.inl ⟨i,d,q,h1⟩))⟩
  | s d'=>
   cases d' with
   | ptr a=>
    have e':(match W a with | some c=>B.s (sho c) | none =>.s (.ptr a)).get=some d:=e
    cases z:W a with
    | none=>rw[z] at e';cases e';exact old _ rfl
    | some c=>
     rw[z] at e'
     cases e'
     obtain⟨v,h1,h2⟩:=h.ab.sh i _ q;rw[RD] at h2;subst h2;exact⟨_,h1,(h.st.at_ a _ z).rd lp λb hb=>z5N (.inr ⟨a,_,z,hb⟩)⟩
   | _=>cases e;exact old _ rfl
end
abbrev DW:=D->Wd->Prop
abbrev XW:=Str->Wd->Prop
structure FnR where
 run:List D->Wd->DW->XW->Prop
 mono:∀ds W (Q Q':DW) (X X':XW),(∀d w,Q d w->Q' d w)->(∀x w,X x w->X' x w)->run ds W Q X->run ds W Q' X'
structure ExR where
 run:Env->Wd->DW->XW->Prop
 mono:∀ρ W (Q Q':DW) (X X':XW),(∀d w,Q d w->Q' d w)->(∀x w,X x w->X' x w)->run ρ W Q X->run ρ W Q' X'
def ExR.pl (x:Ex):ExR:=⟨λρ W Q X=>x.run (shw W ρ) (λd=>Pr d/\Q d W) (λs=>X s W),λρ W Q Q' X X' m mx q=>x.mono _ _ _ _ _ (λd q=>⟨q.1,m _ _ q.2⟩) (λs q=>mx _ _ q) q⟩
def ExR.raw (i:Nat):ExR:=⟨λρ W Q _=>∃a,ρ[i]? = some (.s (.ptr a))/\Q (.ptr a) W,λρ W Q Q' X X' m mx ⟨a,e,q⟩=>⟨a,e,m _ _ q⟩⟩
def z4J:List ExR->Env->Wd->(List D->Wd->Prop)->XW->Prop
 | [],_,W,Q,_=>Q [] W
 | e::es,ρ,W,Q,X=>e.run ρ W (λd W'=>z4J es ρ W' (λds w=>Q (d::ds) w) X) X
theorem z3A:∀(es:List ExR) (ρ:Env) (W:Wd) (Q Q':List D->Wd->Prop) (X X':XW),(∀d w,Q d w->Q' d w)->(∀x w,X x w->X' x w)->z4J es ρ W Q X->z4J es ρ W Q' X'
 | [],_,_,_,_,_,_,m,_,q=>m _ _ q
 | e::es,ρ,W,Q,Q',X,X',m,mx,q=>e.mono ρ W _ _ X X' (λd W' q1=>z3A es ρ W' _ _ X X' (λds w q2=>m _ _ q2) mx q1) mx q
def ExR.call (F:FnR)(es:List ExR):ExR:=⟨λρ W Q X=>z4J es ρ W (λds W'=>F.run ds W' Q X) X,λρ W Q Q' X X' m mx q=>z3A es ρ W _ _ X X' (λds W' q1=>F.mono ds W' Q Q' X X' m mx q1) mx q⟩
def ExR.meth (n:Str)(fs:List Str)(F:FnR)(i:Nat)(es:List ExR):ExR:=⟨λρ W Q X=>∃a cs,ρ[i]? = some (.s (.ptr a))/\W a=some (.ins n fs cs)/\z4J es ρ W (λds W'=>F.run (.ptr a::ds) W' Q X) X,λρ W Q Q' X X' m mx ⟨a,cs,e,e',q⟩=>⟨a,cs,e,e',z3A es ρ W _ _ X X' (λds W' q1=>F.mono _ W' Q Q' X X' m mx q1) mx q⟩⟩
section
variable (K:W.Frag)(mg:WmP)(H0 G0 G:Hp)(ρ:Pu.Env)(σ:L2.St)
def KtR (Q0:DW)(Q:VK):Prop:=∀d v W' A' G' H',Q0 d W'->AbR K mg H0 G0 G' ρ σ H' W' A'->Same G G'->RD K mg G' d v->Q v H'
def KtsR (Q0:List D->Wd->Prop)(Q:List V->Hp->Prop):Prop:=∀ds vs W' A' G' H',Q0 ds W'->AbR K mg H0 G0 G' ρ σ H' W' A'->Same G G'->RDs K mg G' ds vs->Q vs H'
def KxR (X0:XW)(E:XK):Prop:=∀x C H' W' A' G',X0 x W'->mg x=some (.ref C)->Gr G0 H0 G'->Same G' H'->Same H0 H'->StO K mg G' H' W' A'->(∀a,Foot W' A' a->H0 a=none)->E (.ref C) none H'
def KrR (R0:DW)(R:VK):Prop:=∀d v G' H' W' A',R0 d W'->Gr G0 H0 G'->Same G' H'->Same H0 H'->StO K mg G' H' W' A'->(∀a,Foot W' A' a->H0 a=none)->RD K mg G' d v->R v H'
end
def txr (K:W.Frag)(mg:WmP)(E:XK)(e:ExR):TE:=λσ H Q=>∃H0 G0 G ρ W A Q0 X0,AbR K mg H0 G0 G ρ σ H W A/\e.run ρ W Q0 X0/\KtR K mg H0 G0 G ρ σ Q0 Q/\KxR K mg H0 G0 X0 E
def txra (K:W.Frag)(mg:WmP)(E:XK)(es:List ExR):TA:=λσ H Q=>∃H0 G0 G ρ W A Q0 X0,AbR K mg H0 G0 G ρ σ H W A/\z4J es ρ W Q0 X0/\KtsR K mg H0 G0 G ρ σ Q0 Q/\KxR K mg H0 G0 X0 E
abbrev QXR (X:Cx)(E:XK)(e:Expr)(x:ExR):Prop:=QE X e (txr X.K X.mg E x)
abbrev QAR (X:Cx)(E:XK)(es:List Expr)(x:List ExR):Prop:=QA X es (txra X.K X.mg E x)
def spR (K:W.Frag)(mg:WmP)(F:FnR):Sp:=λvs H Q E=>∃G ds W A Q0 X0,Same G H/\RDs K mg G ds vs/\StO K mg G H W A/\F.run ds W Q0 X0/\KrR K mg (minus H (Foot W A)) G Q0 Q/\KxR K mg (minus H (Foot W A)) G X0 E
section
variable {K:W.Frag}{mg:WmP}{H0 G0 G G' H H':Hp}{ρ:Pu.Env}{σ:L2.St}{W W':Wd}{A A':Addr->List Addr}
def z9G {O:Addr->Prop}{a:Addr}(h:minus H O a=none):O a\/H a=none:=by
 by_cases z:O a
 .exact .inl z
 .rw[z1B z] at h;exact .inr h
def AbR.xs (h:AbR K mg H0 G0 G ρ σ H W A)(g:Gr G (minus H (Foot W A)) G'):Gr G0 H0 G':=⟨z03 h.ab.g0 g.1,λa o e=>by
 rcases g.2 a o e with ⟨u,q⟩ | q
 .exact h.ab.nw a u q
 .rcases z9G q with z | z
  .exact .inr (h.no a z).1
  .exact .inr (z0p h.ab.s0 z)⟩
def AbR.ys (h:AbR K mg H0 G0 G ρ σ H W A)(s:Same (minus H (Foot W A)) H'):Same H0 H':=λa o e=>by
 have na:¬ Foot W A a:=λz=>by rw[(h.no a z).1] at e;cases e
 exact s a o (by rw[z1B na];exact h.ab.s0 a o e)
def AbR.zs (h:AbR K mg H0 G0 G ρ σ H W A)(n:∀a,Foot W' A' a->minus H (Foot W A) a=none):∀a,Foot W' A' a->H0 a=none:=λa ha=>by
 rcases z9G (n a ha) with z | z
 .exact(h.no a z).1
 .exact z0p h.ab.s0 z
def AbR.after (h:AbR K mg H0 G0 G ρ σ H W A)(g:Gr G (minus H (Foot W A)) G')(g2:Same G' H')(s:Same (minus H (Foot W A)) H')(st:StO K mg G' H' W' A')(n:∀a,Foot W' A' a->minus H (Foot W A) a=none):AbR K mg H0 G0 G' ρ σ H' W' A':=by
 have own:∀a,z12 ρ σ a->∃o,minus H (Foot W A) a=some o/\H a=some o:=λa ha=>by
  obtain⟨o,ho,_⟩:=h.ab.ownMu ha;exact⟨o,by rw[z1B λz=>(h.no a z).2 ha];exact ho,ho⟩
 refine⟨⟨h.ab.len,h.ys s,z03 h.ab.g0 g.1,g2,(h.xs g).2,λi d e =>?_,λi d e =>?_,h.ab.ne⟩,st,λa ha=>⟨h.zs n a ha,λz =>?_⟩⟩
 .obtain⟨v,h1,h2⟩:=h.ab.sh i d e;exact⟨v,h1,h2.same g.1⟩
 .obtain⟨a,h1,h2,h3,h4⟩:=h.ab.ow i d e;obtain⟨o,e1,e2⟩:=own a ⟨i,d,e,h1⟩;refine⟨a,h1,?_,h3,h4.same g.1 λu hu =>?_⟩
  .cases z:G' a with
   | none=>rfl
   | some u=>
    rcases g.2 a u z with ⟨w,q⟩ | q
    .rw[h2] at q;cases q
    .rw[e1] at q;cases q
  .rw[e2] at hu;cases hu;exact s a _ e1
 .obtain⟨o,e1,_⟩:=own a z;rw[n a ha] at e1;cases e1
def AbR.grow (h:AbR K mg H0 G0 G ρ σ H W A)(g:Gr G H G')(g2:Same G' H')(s:Same H H'):AbR K mg H0 G0 G' ρ σ H' W A:=by
 have nf:∀a,Foot W A a->G' a=none:=λa ha=>by
  obtain⟨o,ho,_⟩:=h.st.exO ha
  cases z:G' a with
  | none=>rfl
  | some u=>
   rcases g.2 a u z with ⟨w,q⟩ | q
   .rw[h.st.out a ha] at q;cases q
   .rw[ho] at q;cases q
 refine h.after ⟨g.1,λa o e =>?_⟩ g2 (z03 z0V s) (h.st.same g.1 (λa _=>s a) nf) λa ha=>z1r ha
 rcases g.2 a o e with z | z
 .exact .inl z
 .exact .inr (z0p z0V z)
def KxR.at_ {X0:XW}{E:XK}(h:AbR K mg H0 G0 G ρ σ H W A)(hx:KxR K mg H0 G0 X0 E):Kx mg H (λs=>X0 s W) E:=λx C H' q mC s=>
 hx x C H' W A G q mC ⟨h.ab.g0,h.ab.nw⟩ (z03 h.ab.g s) (z03 h.ab.s0 s) (h.st.same Same.refl' (λa _=>s a) h.st.out) λa ha=>(h.no a ha).1
end
section
variable {X:Cx}{E:XK}{e a b c o:Expr}{x y z:ExR}{pos apos:Pos}{es:List Expr}{xs:List ExR}
def zbp {u:Ex}(h:QX X E e u):QXR X E e (.pl u):=QE.imp h λσ H Q ⟨H0,G0,G,ρ,W,A,Q0,X0,ab,hr,hk,hx⟩=>
 ⟨plus G H (Hid ρ σ W A),shw W ρ,_,_,z1h ab.ab.g,ab.abe,hr,λd v G1 H1 q g1 g2 g3 rd=>by
  k_asm;exact hk d v W A _ H1 q.2 ab' lm (RD.strip (ab.mu g2 g3) d q.1.1 q.1.2 rd),hx.at_ ab⟩
def z3P {i:Nat}(h:QE X e (tVar i)):QXR X E e (.raw i):=QE.imp h <| by
 rintro σ H Q ⟨H0,G0,G,ρ,W,A,Q0,X0,ab,⟨p,e,q⟩,hk,hx⟩;obtain⟨v,h1,h2⟩:=ab.ab.sh i _ e;exact⟨v,h1,hk _ v W A G H q ab Same.refl' h2⟩
def z1x:QAR X E [] []:=QA.imp z7U <| by rintro σ H Q ⟨H0,G0,G,ρ,W,A,Q0,X0,ab,hr,hk,hx⟩;exact hk [] [] W A G H hr ab Same.refl' RDs.nil
def z0l (ha:QXR X E e x)(hr:QAR X E es xs)(hs:starEach (e::es) X.env=(false,eval e X.env)::starEach es X.env:=by rfl):QAR X E (e::es) (x::xs):=QA.imp (z3X ha hr hs) λσ H Q ⟨H0,G0,G,ρ,W,A,Q0,X0,ab,hr,hk,hx⟩=>
 ⟨H0,G0,G,ρ,W,A,_,X0,ab,hr,λd v W1 A1 G1 H1 q ab1 g1 rd=>
  ⟨H0,G0,G1,ρ,W1,A1,_,X0,ab1,q,λds vs W2 A2 G2 H2 q2 ab2 g2 rds=>hk (d::ds) (v::vs) W2 A2 G2 H2 q2 ab2 (z03 g1 g2) (RDs.cons (rd.same g2) rds),hx⟩,hx⟩
def z6a {F:FnR}{K:W.Frag}{mg:WmP}{H0 G0 G H:Hp}{ρ:Pu.Env}{σ:L2.St}{W:Wd}{A:Addr->List Addr}{ds:List D}{vs:List V}{Q0:DW}{X0:XW}{Q:VK}(ab:AbR K mg H0 G0 G ρ σ H W A)(rds:RDs K mg G ds vs)(hr:F.run ds W Q0 X0)
  (hk:∀d v W' A' G' H',Q0 d W'->AbR K mg H0 G0 G' ρ σ H' W' A'->Same G G'->RD K mg G' d v->Q v H') (hx:KxR K mg H0 G0 X0 E):spR K mg F vs H Q E:=
 ⟨G,ds,W,A,Q0,X0,ab.ab.g,rds,ab.st,hr,λd v G' H' W' A' q g g2 s st n rd=>hk d v W' A' G' H' q (ab.after g g2 s st n) g.1 rd,λx C H' W' A' G' q mC g g2 s st n=>hx x C H' W' A' G' q mC (ab.xs g) g2 (ab.ys s) st (ab.zs n)⟩
def zbt {CX:CXT}{k:Nat}{ps:List Str}{F:FnR}{f:Str}{pp:Pos}(C:Cal X.prog X.w X.K X.mg X.base CX k f ps (spR X.K X.mg F))(hr:Room k X.A)(hx:z1j CX X E)(ha:QAR X E (e::es) xs)(hg:Gl X f:=by rfl)
  (hdb:(f == ("__debug__":Str))=false:=by decide) (he:starEach (e::es) X.env=(false,eval e X.env)::starEach es X.env:=by rfl) (hpl:(backTo pos (starEach es X.env)).any (·.1)=false:=by rfl):QXR X E (.Call (.Name f pp) (e::es) [] pos) (.call F xs):=
 QE.imp (zfC C hr hx ha hg hdb he hpl) λσ H Q ⟨H0,G0,G,ρ,W,A,Q0,X0,ab,hr,hk,hx⟩=>
  ⟨H0,G0,G,ρ,W,A,_,X0,ab,hr,λds vs W1 A1 G1 H1 q ab1 g1 rds=>by
   show spR X.K X.mg F (vs++[]) H1 Q E;rw[wQ];exact z6a ab1 rds q (λd v W' A' G' H' q' ab' g' rd=>hk d v W' A' G' H' q' ab' (z03 g1 g') rd) hx,hx⟩
theorem z46 {m:Str}:∀{fs:List Str}{vs:List V},m ∉ fs->(fs.zip vs).lookup m=none
 | [],_,_=>by simp
 | _::_,[],_=>by simp
 | f::fs,v::vs,h=>by
  rw[wS,vd];have hf:(m == f)=false:=by
   cases z:m == f with
   | false=>rfl
   | true=>exact(h (by rw[eq_of_beq z];exact ww)).elim
  rw[hf];exact z46 λz=>h (we _ z)
def zft {CX:CXT}{k i:Nat}{C f:Addr}{fd:FuncData}{ps fs:List Str}{F:FnR}{m n:Str}{pl:Sem Bool}(ho:QE X o (tVar i))(c:Cls X.K C)(hC:X.mg n=some (.ref C))(hm:Meth X.K C m f)(hn:m ∉ fs)(Fk:FnOk X.prog X.w X.K X.mg X.base CX k f fd ps (spR X.K X.mg F))(hr:Room k X.A)(hb:z34 X.K fd ps [])(hx:z1j CX X E)(ha:QAR X E (e::es) xs)
  (hst:starEach (e::es) X.env=(false,eval e X.env)::starEach es X.env:=by rfl) (hpl:(backTo pos (starEach es X.env)).any (·.1)=false:=by rfl)
  (ht:eval (.Call (.Attribute o m apos) (e::es) [] pos) X.env=(do
   let ov <- eval o X.env
   standAt apos.atName
   let (f,first) <- holding [ov] (getMethod ov m pl)
   callWith pos f first (backTo pos (starEach (e::es) X.env)) (backToKw pos (keywordEach [] X.env))):=by rfl):QXR X E (.Call (.Attribute o m apos) (e::es) [] pos) (.meth n fs F i xs):=
 QE.imp ⟨zfR (pl:=pl) ho.p c hm Fk hr hb .nil hx ha.p hst hpl ht⟩ <| by
  rintro σ H Q ⟨H0,G0,G,ρ,W,A,Q0,X0,ab,⟨p,cs,e1,e2,hr⟩,hk,hx⟩;obtain⟨v,h1,h2⟩:=ab.ab.sh i _ e1;rw[RD] at h2;subst h2;obtain⟨_,dx,h3⟩:=(ab.st.at_ p _ e2).1.ins hC;refine⟨_,h1,p,dx,_,rfl,h3,z46 hn,?_⟩;refine⟨H0,G0,G,ρ,W,A,_,X0,ab,hr,λds vs W1 A1 G1 H1 q ab1 g1 rds =>?_,hx⟩;show spR X.K X.mg F ((.ref p::vs)++[]) H1 Q E;rw[wQ];exact z6a ab1 (RDs.cons (by rw[RD]) rds) q (λd v W' A' G' H' q' ab' g' rd=>hk d v W' A' G' H' q' ab' (z03 g1 g') rd) hx
def zd6 {CX:CXT}{k i:Nat}{C f:Addr}{fd:FuncData}{ps fs:List Str}{F:FnR}{m n:Str}{pl:Sem Bool}(ho:QE X o (tVar i))(c:Cls X.K C)(hC:X.mg n=some (.ref C))(hm:Meth X.K C m f)(hn:m ∉ fs)(Fk:FnOk X.prog X.w X.K X.mg X.base CX k f fd ps (spR X.K X.mg F))(hr:Room k X.A)(hb:z34 X.K fd ps [])(hx:z1j CX X E)
  (ht:eval (.Call (.Attribute o m apos) [] [] pos) X.env=(do
   let ov <- eval o X.env
   standAt apos.atName
   let (f,first) <- holding [ov] (getMethod ov m pl)
   callWith pos f first (backTo pos (starEach [] X.env)) (backToKw pos (keywordEach [] X.env))):=by rfl):QXR X E (.Call (.Attribute o m apos) [] [] pos) (.meth n fs F i []):=
 QE.imp ⟨z9x (pl:=pl) ho.p c hm Fk hr hb .nil hx ht⟩ <| by
  rintro σ H Q ⟨H0,G0,G,ρ,W,A,Q0,X0,ab,⟨p,cs,e1,e2,hr⟩,hk,hx⟩;obtain⟨v,h1,h2⟩:=ab.ab.sh i _ e1;rw[RD] at h2;subst h2;obtain⟨_,dx,h3⟩:=(ab.st.at_ p _ e2).1.ins hC;refine⟨_,h1,p,dx,_,rfl,h3,z46 hn,?_⟩;exact z6a ab (RDs.cons (by rw[RD]) RDs.nil) hr hk hx
end
abbrev EW:=Env->Wd->Prop
structure SmR where
 run:Env->Wd->EW->DW->XW->Prop
 mono:∀ρ W (N N':EW) (Q Q':DW) (X X':XW),(∀r w,N r w->N' r w)->(∀d w,Q d w->Q' d w)->(∀x w,X x w->X' x w)->run ρ W N Q X->run ρ W N' Q' X'
def SmR.lift (t:Sm):SmR:=⟨λρ W N Q X=>t.run ρ (λρ'=>N ρ' W) (λd=>Q d W) (λx=>X x W),λρ W N N' Q Q' X X' mn m mx q=>t.mono ρ _ _ _ _ _ _ (λ_ q=>mn _ _ q) (λ_ q=>m _ _ q) (λ_ q=>mx _ _ q) q⟩
def SmR.seq (a b:SmR):SmR:=⟨λρ W N Q X=>a.run ρ W (λρ' W'=>b.run ρ' W' N Q X) Q X,λρ W N N' Q Q' X X' mn m mx q=>a.mono ρ W _ _ Q Q' X X' (λρ' W' q1=>b.mono ρ' W' N N' Q Q' X X' mn m mx q1) m mx q⟩
def SmR.skip:SmR:=⟨λρ W N _ _=>N ρ W,λ_ _ _ _ _ _ _ _ m _ _ q=>m _ _ q⟩
def SmR.ifp (z:Ex)(a b:SmR):SmR:=⟨λρ W N Q X=>z.run (shw W ρ) (λd=>tst d (a.run ρ W N Q X) (b.run ρ W N Q X)) (λx=>X x W),λρ W N N' Q Q' X X' mn m mx q=>z.mono _ _ _ _ _ (λd q1=>z2z (a.mono ρ W N N' Q Q' X X' mn m mx) (b.mono ρ W N N' Q Q' X X' mn m mx) q1) (λ_ q=>mx _ _ q) q⟩
def SmR.ex (e:ExR):SmR:=⟨λρ W N _ X=>e.run ρ W (λ_ W'=>N ρ W') X,λρ W N N' Q Q' X X' mn m mx q=>e.mono ρ W _ _ X X' (λ_ _ q1=>mn _ _ q1) mx q⟩
def SmR.set (i:Nat)(e:ExR):SmR:=⟨λρ W N _ X=>e.run ρ W (λd W'=>N (ρ.set i (.s d)) W') X,λρ W N N' Q Q' X X' mn m mx q=>e.mono ρ W _ _ X X' (λ_ _ q1=>mn _ _ q1) mx q⟩
def SmR.ret (e:ExR):SmR:=⟨λρ W _ Q X=>e.run ρ W Q X,λρ W N N' Q Q' X X' mn m mx q=>e.mono ρ W _ _ X X' m mx q⟩
def KnR (K:W.Frag)(mg:WmP)(H0 G0 G:Hp)(N0:EW)(N:L2.St->Hp->Prop):Prop:=∀ρ' W' A' σ' H' G',N0 ρ' W'->AbR K mg H0 G0 G' ρ' σ' H' W' A'->Same G G'->N σ' H'
def tsr (K:W.Frag)(mg:WmP)(E:XK)(t:SmR):TS:=λD σ H=>∃H0 G0 G ρ W A N0 R0 X0,AbR K mg H0 G0 G ρ σ H W A/\t.run ρ W N0 R0 X0/\KnR K mg H0 G0 G N0 D.nx/\KrR K mg H0 G0 R0 D.rt/\KxR K mg H0 G0 X0 E
def KnR.same {K:W.Frag}{mg:WmP}{H0 G0 G G1:Hp}{N0:EW}{N:L2.St->Hp->Prop}(h:KnR K mg H0 G0 G N0 N)(g:Same G G1):KnR K mg H0 G0 G1 N0 N:=λρ' W' A' σ' H' G' a b c=>h ρ' W' A' σ' H' G' a b (z03 g c)
abbrev QR (X:Cx)(E:XK)(st:Stmt)(t:SmR):Prop:=QS X st (tsr X.K X.mg E t)
abbrev QRs (X:Cx)(E:XK)(st:List Stmt)(t:SmR):Prop:=QSs X st (tsr X.K X.mg E t)
section
variable {X:Cx}{E:XK}{st:Stmt}{rest body la lb:List Stmt}{t u:SmR}{e a b c tg:Expr}{x y z:ExR}{pos:Pos}
def z3e:QRs X E [] .skip:=QSs.imp z8K <| by rintro D σ H ⟨H0,G0,G,ρ,W,A,N0,R0,X0,ab,hr,hn,hR,hx⟩;exact hn ρ W A σ H G hr ab Same.refl'
def z0q (h:QR X E st t):QRs X E [st] t:=z4M h
def z0e (h:QR X E st t)(h':QRs X E rest u):QRs X E (st::rest) (.seq t u):=QSs.imp (z9t h h') λD σ H ⟨H0,G0,G,ρ,W,A,N0,R0,X0,ab,hr,hn,hR,hx⟩=>
 ⟨H0,G0,G,ρ,W,A,λρ' W'=>u.run ρ' W' N0 R0 X0,R0,X0,ab,hr,λρ' W' A' σ' H' G' q ab' g=>⟨H0,G0,G',ρ',W',A',N0,R0,X0,ab',q,hn.same g,hR,hx⟩,hR,hx⟩
def AbS.anew {K:W.Frag}{mg:WmP}{H0 G0 G H:Hp}{ρ:Pu.Env}{σ:L2.St}(h:AbS K mg H0 G0 G ρ σ H):AbS K mg (minus H (z12 ρ σ)) G G ρ σ H:=
 ⟨h.len,z0V,Same.refl',h.g,λa o e =>.inl ⟨o,e⟩,h.sh,λi d e=>by
  obtain⟨a,h1,h2,h3,h4⟩:=h.ow i d e;exact⟨a,h1,h2,z1r ⟨i,d,e,h1⟩,h4⟩,h.ne⟩
def AbS.low {K:W.Frag}{mg:WmP}{H0 G0 G H:Hp}{ρ:Pu.Env}{σ:L2.St}(h:AbS K mg H0 G0 G ρ σ H):Same H0 (minus H (z12 ρ σ)):=z1X h.s0 h.owned0
def AbS.lowG {K:W.Frag}{mg:WmP}{H0 G0 G H:Hp}{ρ:Pu.Env}{σ:L2.St}(h:AbS K mg H0 G0 G ρ σ H):Same G (minus H (z12 ρ σ)):=z1X h.g h.free
def AbR.nf {K:W.Frag}{mg:WmP}{H0 G0 G H:Hp}{ρ:Pu.Env}{σ:L2.St}{W:Wd}{A:Addr->List Addr}(ab:AbR K mg H0 G0 G ρ σ H W A){a:Addr}(ha:Foot W A a):∃o,minus H (z12 ρ σ) a=some o/\H a=some o:=by
 obtain⟨o,ho,_⟩:=ab.st.exO ha;exact⟨o,by rw[z1B (ab.no a ha).2];exact ho,ho⟩
def AbR.free' {K:W.Frag}{mg:WmP}{H0 G0 G G' H:Hp}{ρ:Pu.Env}{σ:L2.St}{W:Wd}{A:Addr->List Addr}(ab:AbR K mg H0 G0 G ρ σ H W A)(nw:∀a o,G' a=some o->(∃u,G a=some u)\/minus H (z12 ρ σ) a=none):∀a,Foot W A a->G' a=none:=λa ha=>by
 cases z:G' a with
 | none=>rfl
 | some o=>
  rcases nw a o z with ⟨w,q⟩ | q
  .rw[ab.st.out a ha] at q;cases q
  .obtain⟨u,hu,_⟩:=ab.nf ha;rw[hu] at q;cases q
def AbR.kept {K:W.Frag}{mg:WmP}{H0 G0 G H H':Hp}{ρ:Pu.Env}{σ:L2.St}{W:Wd}{A:Addr->List Addr}(ab:AbR K mg H0 G0 G ρ σ H W A)(s:Same (minus H (z12 ρ σ)) H'):∀a,Foot W A a->∀o,H a=some o->H' a=some o:=λa ha o e=>by
 obtain⟨u,h1,h2⟩:=ab.nf ha;rw[h2] at e;cases e;exact s a _ h1
def AbR.gr {K:W.Frag}{mg:WmP}{H0 G0 G G' H:Hp}{ρ:Pu.Env}{σ:L2.St}{W:Wd}{A:Addr->List Addr}(ab:AbR K mg H0 G0 G ρ σ H W A)(g:Gr G (minus H (z12 ρ σ)) G'):Gr G0 H0 G':=⟨z03 ab.ab.g0 g.1,λa o e=>by
 rcases g.2 a o e with ⟨u,q⟩ | q
 .exact ab.ab.nw a u q
 .exact .inr (z0p ab.ab.low q)⟩
def AbR.then {K:W.Frag}{mg:WmP}{H0 G0 G G' H H':Hp}{ρ ρ':Pu.Env}{σ σ':L2.St}{W:Wd}{A:Addr->List Addr}(ab:AbR K mg H0 G0 G ρ σ H W A)(ab':AbS K mg (minus H (z12 ρ σ)) G G' ρ' σ' H'):AbR K mg H0 G0 G' ρ' σ' H' W A:=by
 have g:=ab.gr ⟨ab'.g0,ab'.nw⟩;have ab2:=ab'.weak ab.ab.low;refine⟨⟨ab2.len,ab2.s0,g.1,ab2.g,g.2,ab2.sh,ab2.ow,ab2.ne⟩,ab.st.same ab'.g0 (ab.kept ab'.s0) (ab.free' ab'.nw),λa ha=>⟨(ab.no a ha).1,λz =>?_⟩⟩;obtain⟨u,hu,_⟩:=ab.nf ha;rw[ab'.owned0 a z] at hu;cases hu
def z1M {s:Sm}(h:QZ X E st s):QR X E st (.lift s):=QS.imp h λD σ H ⟨H0,G0,G,ρ,W,A,N0,R0,X0,ab,hr,hn,hR,hx⟩=>
 ⟨_,G,G,ρ,_,_,_,ab.ab.anew,hr,λρ' σ' H' G' q ab' g=>hn ρ' W A σ' H' G' q (ab.then ab') g,λd v G' H' q g g2 s rd=>hR d v G' H' W A q (ab.gr g) g2 (z03 ab.ab.low s) (ab.st.same g.1 (ab.kept s) (ab.free' g.2)) (λa ha=>(ab.no a ha).1) rd,
  λx C H' q mC s=>hx x C H' W A G q mC ⟨ab.ab.g0,ab.ab.nw⟩ (z03 ab.ab.lowG s) (z03 ab.ab.low s) (ab.st.same Same.refl' (ab.kept s) ab.st.out) λa ha=>(ab.no a ha).1⟩
def z3g {w:Ex}(hc:QXT X E c w)(ha:QRs X E la t)(hb:QRs X E lb u):QR X E (.If c la lb pos) (.ifp w t u):=QS.imp (zfq hc ha hb) <| by
 k_get;refine⟨plus G H (Hid ρ σ W A),shw W ρ,_,_,z1h ab.ab.g,ab.abe,hr,λd G1 H1 q g1 g2 g3 =>?_,hx.at_ ab⟩;obtain⟨b,rfl,q1,q2⟩:=z51 q;k_asm;refine⟨b,rfl,?_⟩
 cases b with
 | true=>exact iteT ⟨H0,G0,_,ρ,W,A,N0,R0,X0,ab',q1 rfl,hn.same lm,hR,hx⟩
 | false=>exact iteF ⟨H0,G0,_,ρ,W,A,N0,R0,X0,ab',q2 rfl,hn.same lm,hR,hx⟩
def z5f (he:QXR X E e x)(hs:swapsWith e none pos.line X.env=pure false:=by rfl):QR X E (.Expr e pos) (.ex x):=QS.imp (z6V he hs) λD σ H ⟨H0,G0,G,ρ,W,A,N0,R0,X0,ab,hr,hn,hR,hx⟩=>
 ⟨H0,G0,G,ρ,W,A,_,X0,ab,hr,λd v W' A' G' H' q ab' g rd=>hn ρ W' A' σ H' G' q ab' g,hx⟩
def z4m (he:QXR X E e x):QR X E (.Return (some e) pos) (.ret x):=QS.imp (zbn he) λD σ H ⟨H0,G0,G,ρ,W,A,N0,R0,X0,ab,hr,hn,hR,hx⟩=>
 ⟨H0,G0,G,ρ,W,A,_,X0,ab,hr,λd v W' A' G' H' q ab' g rd=>hR d v G' H' W' A' q ⟨ab'.ab.g0,ab'.ab.nw⟩ ab'.ab.g ab'.ab.s0 ab'.st (λa ha=>(ab'.no a ha).1) rd,hx⟩
theorem AbR.put {K:W.Frag}{mg:WmP}{H0 G0 G H:Hp}{ρ:Pu.Env}{σ:L2.St}{W:Wd}{A:Addr->List Addr}{i:Nat}{d:Pu.D}{v:V}(h:AbR K mg H0 G0 G ρ σ H W A)(rd:RD K mg G d v):AbR K mg H0 G0 G (ρ.set i (.s d)) (σ.set i (some v)) H W A:=by
 refine⟨h.ab.put h.ab.nw Same.refl' h.ab.g Same.refl' (λj d' a _ e s=>h.ab.free a ⟨j,d',e,s⟩) rd,h.st,λa ha=>⟨(h.no a ha).1,λz9 =>?_⟩⟩;obtain⟨j,d',e,s⟩:=z9
 mg_lt
 .subst hj;have hl:j < ρ.length:=by
   have:=(wg.mp e).1;kw_lk
  rw[wD hl] at e
  cases e
 .rw[wj (vk hj)] at e s;exact(h.no a ha).2 ⟨j,d',e,s⟩
def z4n {i:Nat}(h:QS X (.Assign [tg] e pos) (tAsg (txr X.K X.mg E x) (z2y i))):QR X E (.Assign [tg] e pos) (.set i x):=QS.imp h λD σ H ⟨H0,G0,G,ρ,W,A,N0,R0,X0,ab,hr,hn,hR,hx⟩=>
 ⟨H0,G0,G,ρ,W,A,_,X0,ab,hr,λd v W' A' G' H' q ab' g rd=>hn _ W' A' _ H' G' q (ab'.put rd) g,hx⟩
end
end Pu
namespace L2
open PySem PySem.Spec PyProof.Rows
section
variable {κ:Type}[DecidableEq κ]
def valV (kvs:List (κ × V))(k:κ):Option V:=(kvs.find? λkv=>decide (kv.1=k)).map (·.2)
def putK (kvs:List (κ × V))(k:κ)(v:V):List (κ × V):=
 if (kvs.any λkv=>decide (kv.1=k))=true then kvs.map (λkv=>if kv.1=k then (kv.1,v) else kv) else kvs++[(k,v)]
def z96 (kvs:List (κ × V))(k:κ):List (κ × V):=kvs.filter λkv=>decide (kv.1≠k)
def z47 {p:κ × V}{r:List (κ × V)}{k:κ}(e:p.1=k):valV (p::r) k=some p.2:=by simp[valV,vp,e]
def z48 {p:κ × V}{r:List (κ × V)}{k:κ}(e:¬ p.1=k):valV (p::r) k=valV r k:=by simp[valV,vp,e]
theorem z6J (k:κ):∀kvs:List (κ × V),(kvs.any λkv=>decide (kv.1=k))=(valV kvs k).isSome
 | []=>rfl
 | p::r=>by
  rw[List.any_cons]
  by_cases e:p.1=k
  .simp only[z47 e,wu e,Bool.true_or,Option.isSome_some]
  .rw[z48 e,wF e,Bool.false_or];exact z6J k r
def z42 (kvs:List (κ × V))(k:κ)(v:V):(putK kvs k v).length<=kvs.length+1:=by
 unfold putK
 split
 .rw[wc];omega
 .rw[wz,wL,vw];omega
def RelO.isSome_eq {o:Option V}{u:Option Value}(r:RelO o u):o.isSome=u.isSome:=by
 cases o with
 | none=>cases u with
  | none=>rfl
  | some _=>exact(show False from r).elim
 | some _=>cases u with
  | none=>exact(show False from r).elim
  | some _=>rfl
theorem RelO.getD {o:Option V}{u:Option Value}{d:V}{d':Value}(r:RelO o u)(rd:RelV d d'):RelV (o.getD d) (u.getD d'):=by
 cases o with
 | none=>cases u with
  | none=>exact rd
  | some _=>exact(show False from r).elim
 | some _=>cases u with
  | none=>exact(show False from r).elim
  | some _=>exact r
def KV.val {kvs:List (κ × V)}{vs:List (κ × Value)}(r:KV kvs vs)(k:κ):RelO (valV kvs k) (valueAt vs k):=by
 unfold KV at r
 induction r with
 | nil=>exact True.intro
 | @cons p q ps qs h t ih=>
  obtain⟨h1,h2⟩:=h
  by_cases e:p.1=k
  .have e':q.1=k:=h1.symm.trans e;have b:valueAt (q::qs) k=some q.2:=by simp[valueAt,vp,e']
   rw[z47 e,b];exact h2
  .have e':¬ q.1=k:=λz=>e (h1.trans z);have b:valueAt (q::qs) k=valueAt qs k:=by simp[valueAt,vp,e']
   rw[z48 e,b];exact ih
theorem KV.any {kvs:List (κ × V)}{vs:List (κ × Value)}(r:KV kvs vs)(k:κ):(kvs.any λkv=>decide (kv.1=k))=vs.any λkv=>decide (kv.1=k):=by
 unfold KV at r
 induction r with
 | nil=>rfl
 | cons h t ih=>rw[List.any_cons,List.any_cons,ih,h.1]
def KV.repl {kvs:List (κ × V)}{vs:List (κ × Value)}(r:KV kvs vs)(k:κ){y:V}{u:Value}(ry:RelV y u):
  KV (kvs.map λkv=>if kv.1=k then (kv.1,y) else kv) (vs.map λkv=>if kv.1=k then (kv.1,u) else kv):=by
 unfold KV at r ⊢
 induction r with
 | nil=>exact .nil
 | @cons p q ps qs h t ih=>
  rw[wA,wA];refine .cons ?_ ih;obtain⟨h1,h2⟩:=h
  by_cases e:p.1=k
  .rw[if_pos e,if_pos (h1.symm.trans e)];exact⟨h1,ry⟩
  .rw[if_neg e,if_neg (λz=>e (h1.trans z))];exact⟨h1,h2⟩
def KV.put {kvs:List (κ × V)}{vs:List (κ × Value)}(r:KV kvs vs)(k:κ){y:V}{u:Value}(ry:RelV y u):KV (putK kvs k y) (stored vs k u):=by
 unfold putK stored;rw[r.any k]
 by_cases e:(vs.any λkv=>decide (kv.1=k))=true
 .rw[if_pos e,if_pos e];exact r.repl k ry
 .rw[if_neg e,if_neg e];exact Paired.snoc r ⟨rfl,ry⟩
def KV.drop {kvs:List (κ × V)}{vs:List (κ × Value)}(r:KV kvs vs)(k:κ):KV (z96 kvs k) (without vs k):=by
 unfold KV at r ⊢;unfold z96 without
 induction r with
 | nil=>exact .nil
 | @cons p q ps qs h t ih=>
  obtain⟨h1,h2⟩:=h;rw[uv,uv]
  by_cases e:p.1=k
  .have a:¬ decide (p.1≠k)=true:=by simp[e]
   have b:¬ decide (q.1≠k)=true:=by simp[h1.symm.trans e]
   rw[if_neg a,if_neg b];exact ih
  .have e':¬ q.1=k:=λz=>e (h1.trans z);have a:decide (p.1≠k)=true:=by simp[e]
   have b:decide (q.1≠k)=true:=by simp[e']
   rw[if_pos a,if_pos b];exact .cons ⟨h1,h2⟩ ih
theorem KV.length {kvs:List (κ × V)}{vs:List (κ × Value)}(r:KV kvs vs):kvs.length=vs.length:=Paired.length r
def zdQ (kvs:List (κ × V))(k:κ):(z96 kvs k).length<=kvs.length:=List.length_filter_le _ _
end
def z91 {P:Program}{w:World}{k:Key}{u:Value}(r:RelV (kV k) u):(z0X P w).is k u=true:=by
 cases k with
 | inl i=>obtain⟨t,e⟩:=(show ∃t,u=Value.int i t from r);subst e;exact z8Y P w i t
 | inr x=>obtain⟨t,e⟩:=(show ∃t,u=Value.str x t from r);subst e;exact z8X P w x t
theorem z8c {P:Program}{w:World}:∀{ks:List Key}{us:List Value},Vals (ks.map kV) us->ItemsAre (z0X P w) ks us
 | [],_,r=>by rw[vq] at r;cases r;exact .nil
 | k::ks,_,r=>by
  rw[wA] at r
  cases r with
  | cons h t=>exact .cons (z91 h) (z8c t)
abbrev KT (H:Hp):List (List Key × V)->List (List Key × Addr × Value)->Prop:=Paired λp q=>p.1=q.1/\H q.2.1=some (.tup (p.1.map kV))/\RelV p.2 q.2.2
def KT.val {H:Hp}{kvs:List (List Key × V)}{xs:List (List Key × Addr × Value)}(r:KT H kvs xs)(k:List Key):RelO (valV kvs k) ((atKey xs k).map (·.2)):=by
 induction r with
 | nil=>exact True.intro
 | @cons p q ps qs h t ih=>
  obtain⟨h1,_,h2⟩:=h
  by_cases e:p.1=k
  .have e':q.1=k:=h1.symm.trans e;have b:atKey (q::qs) k=some q.2:=by simp[atKey,vp,e']
   rw[z47 e,b];exact h2
  .have e':¬ q.1=k:=λz=>e (h1.trans z);have b:atKey (q::qs) k=atKey qs k:=by simp[atKey,vp,e']
   rw[z48 e,b];exact ih
def KT.repl {H:Hp}{kvs:List (List Key × V)}{xs:List (List Key × Addr × Value)}(r:KT H kvs xs)(k:List Key){y:V}{u:Value}(ry:RelV y u):
  KT H (kvs.map λkv=>if kv.1=k then (kv.1,y) else kv) (xs.map (putAt k u)):=by
 induction r with
 | nil=>exact .nil
 | @cons p q ps qs h t ih=>
  rw[wA,wA];refine .cons ?_ ih;obtain⟨h1,h2,h3⟩:=h;unfold putAt
  by_cases e:p.1=k
  .rw[if_pos e,if_pos (h1.symm.trans e)];exact⟨h1,h2,ry⟩
  .rw[if_neg e,if_neg (λz=>e (h1.trans z))];exact⟨h1,h2,h3⟩
def KT.put {H:Hp}{kvs:List (List Key × V)}{xs:List (List Key × Addr × Value)}(r:KT H kvs xs)(k:List Key){b:Addr}{y:V}{u:Value}(hb:H b=some (.tup (k.map kV)))(ry:RelV y u):
  KT H (putK kvs k y) (storedH xs k b u):=by
 have e:(kvs.any λkv=>decide (kv.1=k))=(atKey xs k).isSome:=by
  rw[z6J,(r.val k).isSome_eq,Option.isSome_map]
 unfold putK storedH;rw[e]
 by_cases q:(atKey xs k).isSome=true
 .rw[if_pos q,if_pos q];exact r.repl k ry
 .rw[if_neg q,if_neg q];exact Paired.snoc r ⟨rfl,hb,ry⟩
def KT.keeps {H H':Hp}{kvs:List (List Key × V)}{xs:List (List Key × Addr × Value)}(r:KT H kvs xs)(ht:∀b ys,H b=some (.tup ys)->H' b=some (.tup ys)):KT H' kvs xs:=
 Paired.mapP r λ_ _ z=>⟨z.1,ht _ _ z.2.1,z.2.2⟩
section
variable {P:Program}{w:World}{H:Hp}{h:Heap}{a:Addr}
def zhb {u:HO}(ok:HOk P w H h)(e:Rd H a u):z1u P w H h a u:=e.ok ok
def z97 {kvs:List (Key × V)}(ok:HOk P w H h)(e:Rd H a (.dK kvs)):kvs.length<=sizeLine/\(a == sysModules)=false/\∃vs,KV kvs vs/\h.DictOf (z0X P w) a vs:=
 show z1u P w H h a (.dK kvs) from zhb ok e
def zgj {kvs:List (Key × V)}(ok:HOk P w H h)(e:H a=some (.dK kvs)):kvs.length<=sizeLine/\(a == sysModules)=false/\∃vs,KV kvs vs/\h.DictOf (z0X P w) a vs:=z97 ok (.inl e)
def z8b {ks:List Key}(ok:HOk P w H h)(e:H a=some (.tup (ks.map kV))):(tupleKind (z0X P w)).is h ks a:=by
 obtain⟨_,its,r,⟨o,h1,h2,n,h3⟩,_⟩:=(show z1u P w H h a (.tup (ks.map kV)) from ok a _ e)
 exact⟨o,its.toArray,n,h1,h2,h3,by simpa using z8c r⟩
def zas {kvs:List (List Key × V)}(ok:HOk P w H h)(e:Rd H a (.dT kvs)):kvs.length<=sizeLine/\(a == sysModules)=false/\
  ∃xs,KT H kvs xs/\h.DictOfH (tupleKind (z0X P w)) a xs:=by
 obtain⟨z,y,xs,r,o,es,ep,h1,h2,h3,h4,h5⟩:=(show z1u P w H h a (.dT kvs) from zhb ok e)
 refine⟨z,y,xs,r,o,es,ep,h1,h2,h3,h4,λx hx =>?_,h5⟩;have all:∀{l:List (List Key × V)}{m:List (List Key × Addr × Value)},KT H l m->∀x∈m,(tupleKind (z0X P w)).is h x.1 x.2.1:=by
  intro l m q
  induction q with
  | nil=>intro x hx;exact nomatch hx
  | @cons p q ps qs hq t ih=>
   intro x hx
   rcases wf.mp hx with e | hx
   .subst e;exact z8b ok (by rw[<- hq.1];exact hq.2.1)
   .exact ih x hx
 exact all r x hx
def zkm {kvs:List (List Key × V)}(ok:HOk P w H h)(e:H a=some (.dT kvs)):kvs.length<=sizeLine/\(a == sysModules)=false/\
  ∃xs,KT H kvs xs/\h.DictOfH (tupleKind (z0X P w)) a xs:=zas ok (.inl e)
end
def DGet (H:Hp)(a:Addr)(y:V)(r:Option V):Prop:=
 (∃kvs k,Rd H a (.dK kvs)/\y=kV k/\r=valV kvs k)\/∃kvs k b,Rd H a (.dT kvs)/\y = .ref b/\H b=some (.tup (k.map kV))/\r=valV kvs k
def DPut (H:Hp)(a:Addr)(y v:V)(H':Hp):Prop:=
 (∃kvs k,H a=some (.dK kvs)/\y=kV k/\kvs.length<sizeLine/\H'=upd H a (.dK (putK kvs k v)))\/
 ∃kvs k b,H a=some (.dT kvs)/\y = .ref b/\H b=some (.tup (k.map kV))/\kvs.length<sizeLine/\H'=upd H a (.dT (putK kvs k v))
theorem DGet.k {H:Hp}{a:Addr}{kvs:List (Key × V)}{k:Key}(e:H a=some (.dK kvs)):DGet H a (kV k) (valV kvs k) :=.inl ⟨kvs,k,.inl e,rfl,rfl⟩
theorem DPut.k {H:Hp}{a:Addr}{kvs:List (Key × V)}{k:Key}{v:V}(e:H a=some (.dK kvs))(hl:kvs.length<sizeLine):DPut H a (kV k) v (upd H a (.dK (putK kvs k v))) :=.inl ⟨kvs,k,e,rfl,hl,rfl⟩
section
variable {X:Cx}{pins:List (Addr × Obj)}{σ:St}{H:Hp}{s:Shared}{a:Addr}{y v:V}{u r:Value}{o:Option V}{A:Around}{E:WvP}
def Inv.big (I:Inv X pins σ H s):sysModules<s.heap.objs.size:=by
 have h:mainGlobals<s.heap.objs.size:=(I.mod.glob.keeps I.bk).lt;exact Nat.lt_trans (by decide) h
def zcq {Q:WvP}(hu:A.units+1<cLine)(I:Inv X pins σ H s)(g:DGet H a y (some v))(ry:RelV y u)(h:∀w' s',Inv X pins σ H s'->RelV v w'->Q w' s'):
  wpAny (model X.prog X.w) A (getItem (.ref a) u) Q E s:=by
 rcases g with ⟨kvs,k,e,ey,l⟩ | ⟨kvs,k,b,e,ey,eb,l⟩
 .subst ey;obtain⟨z,hd,vs,rel,dd⟩:=z97 I.hok e;obtain⟨w',hw,rw'⟩:=RelO.some_of (v:=v) (o:=valueAt vs k) (by rw[l];exact rel.val k);exact wpAny_getItem_of (z91 ry) dd.mapOf hw (h w' _ (I.tok _) rw')
 .subst ey
  cases (show u=Value.ref b from ry)
  obtain⟨z,hd,xs,rel,dd⟩:=zas I.hok e;obtain⟨w',hw,rw'⟩:=RelO.some_of (v:=v) (o:=(atKey xs k).map (·.2)) (by rw[l];exact rel.val k);obtain⟨p,hp,hp2⟩:=Option.map_eq_some_iff.mp hw;refine wpAny_getItem_heap (uT hu) (z8b I.hok eb) dd hp ?_;rw[hp2];exact h w' _ (I.tok _) rw'
def zgk {Q:WvP}(hu:A.units+1<cLine)(I:Inv X pins σ H s)(g:DGet H a y o)(ry:RelV y u)(h:∀s',Inv X pins σ H s'->Q (.bool (!o.isSome)) s'):
  wpAny (model X.prog X.w) A (compareOp .NotIn u (.ref a)) Q E s:=by
 rcases g with ⟨kvs,k,e,ey,l⟩ | ⟨kvs,k,b,e,ey,eb,l⟩
 .subst ey;obtain⟨z,hd,vs,rel,dd⟩:=z97 I.hok e;refine wpAny_notIn_of (z91 ry) hd dd.mapOf ?_;rw[<- (rel.val k).isSome_eq, <- l];exact h _ (I.tok _)
 .subst ey
  cases (show u=Value.ref b from ry)
  obtain⟨z,hd,xs,rel,dd⟩:=zas I.hok e;refine wpAny_notIn_heap (uT hu) (z8b I.hok eb) hd dd ?_;have q:=(rel.val k).isSome_eq;rw[Option.isSome_map] at q;rw[<- q, <- l];exact h _ (I.tok _)
def z7u {h':Heap}{t':Nat}{ob:HO}(I:Inv X pins σ H s)(mu:Mut (H a))(hs:Heap.SameBut a s.heap h')(he:∃q,h'.get? a=some q)(new:z1u X.prog X.w (upd H a ob) h' a ob):
  Inv X pins σ (upd H a ob) { s with heap:=h',toks:=t' }:=
 I.write (x:=a) (e:=a) mu (.inl rfl) (λb q hb z=>(hs.2 b hb).trans z) he new
def zci {P:Program}{w:World}{H':Hp}{h':Heap}{kvs:List (Key × V)}{vs:List (Key × Value)}(z:kvs.length<=sizeLine)(hd:(a == sysModules)=false)(rel:KV kvs vs)(dd:h'.DictOf (z0X P w) a vs):
  z1u P w H' h' a (.dK kvs):=⟨z,hd,vs,rel,dd⟩
def zcp {H':Hp}{Q:Unit->Shared->Prop}(hu:A.units+1<cLine)(I:Inv X pins σ H s)(g:DPut H a y v H')(ry:RelV y u)(rv:RelV v r)(h:∀s',Inv X pins σ H' s'->Q () s'):
  wpAny (model X.prog X.w) A (setItem (.ref a) u r) Q E s:=by
 rcases g with ⟨kvs,k,e,ey,l,eH⟩ | ⟨kvs,k,b,e,ey,eb,l,eH⟩
 .subst ey eH;obtain⟨z,hd,vs,rel,dd⟩:=zgj I.hok e;have hz:vs.length<=sizeLine:=by rw[<- rel.length];exact z
  have hl:(putK kvs k v).length<=sizeLine:=by have:=z42 kvs k v;omega
  refine wpAny_setItem_pairs (hsz:=hz) (z91 ry) dd λh' dd' hs=>h _ ?_;have he:∃q,h'.get? a=some q:=let ⟨q,_,_,hq,_⟩:=dd';⟨q,hq⟩;exact z7u I (by rw[e];exact True.intro) hs he (zci hl hd (rel.put k rv) dd')
 .subst ey eH
  cases (show u=Value.ref b from ry)
  obtain⟨z,hd,xs,rel,dd⟩:=zkm I.hok e;have hz:xs.length<=sizeLine:=by rw[<- Paired.length rel];exact z
  have hl:(putK kvs k v).length<=sizeLine:=by have:=z42 kvs k v;omega
  refine wpAny_setItem_heap (hsz:=hz) (uT hu) (z8b I.hok eb) dd λh' dd' hs=>h _ ?_;obtain⟨q,es,ep,hq,h2,h3,h4,_,h5⟩:=dd';refine z7u I (by rw[e];exact True.intro) hs ⟨q,hq⟩ ⟨hl,hd,_,(rel.put k eb rv).keeps λc ys ec =>?_,q,es,ep,hq,h2,h3,h4,h5⟩;rw[z02 (zkc ec e (λz=>nomatch z))];exact ec
end
section
variable {X:Cx}{pins:List (Addr × Obj)}{σ:St}{H:Hp}{s:Shared}{a:Addr}{kvs:List (Key × V)}{k:Key}{u:Value}{A:Around}{E:WvP}
def zkp {v:V}{more:List Value}{Q:WvP}(I:Inv X pins σ H s)(e:H a=some (.dK kvs))(ry:RelV (kV k) u)(l:valV kvs k=some v)(hm:more=[]\/∃x,more=[x])
  (h:∀w' s',Inv X pins σ (upd H a (.dK (z96 kvs k))) s'->RelV v w'->Q w' s'):wpAny (model X.prog X.w) A (call (.builtin "dict.pop") (.ref a::u::more)) Q E s:=by
 obtain⟨z,hd,vs,rel,dd⟩:=zgj I.hok e;obtain⟨w',hw,rw'⟩:=RelO.some_of (v:=v) (o:=valueAt vs k) (by rw[<- l];exact rel.val k);have hp:(keyPart u).isSome=true:=by
  cases k with
  | inl i=>obtain⟨t,q⟩:=(show ∃t,u=Value.int i t from ry);subst q;rfl
  | inr x=>obtain⟨t,q⟩:=(show ∃t,u=Value.str x t from ry);subst q;rfl
 have ha:argsOk "dict.pop" ⟨.ref a::u::more,[]⟩:=by
  rcases hm with q | ⟨x,q⟩
  .subst q;exact PySem.F.args_dict_pop_2 _ _
  .subst q;exact PySem.F.args_dict_pop_3 _ _ _
 refine call_meetsIn PySem.F.slot_dict_pop dd.typeIs PySem.F.entry_dict_pop ha (meets_dict_pop_there (z0X X.prog X.w) a (z91 ry) more hm hp)
  ⟨vs,w',dd,by rw[<- rel.length];exact z,hw,λh' dd' hs=>h w' _ ?_ rw'⟩
 have he:∃q,h'.get? a=some q:=let ⟨q,_,_,hq,_⟩:=dd';⟨q,hq⟩;exact z7u I (by rw[e];exact True.intro) hs he (zci (wX (zdQ kvs k) z) hd (rel.drop k) dd')
end
def NoSl (i:Expr):Prop:=∀ov iv,subscripted i false ov iv=operate [ov,iv] (getItem ov iv)
def zf0 {prog:Program}{w:World}{A:Around}{E:WvP}{s:Shared}{env:Env}{value slice:Expr}{pos:Pos}{T id:String}{Q:WvP}
  (hl:typeLookup (.type T) "__getitem__"=pure (some (.builtin id))) (hs:NoSl slice)
  (h:wpAny (model prog w) A (eval value env) (λo s₁=>wpAny (model prog w) A (eval slice env) (λi s₂=>s₂.TypeIs o T/\wpAny (model prog w) A (getItem o i) Q E s₂) E s₁) E s):
  wpAny (model prog w) A (eval (.Subscript value slice pos) env) Q E s:=by
 refine Subscript_ (va h (λo s₁ h₁=>va h₁ (λi s₂ h₂ =>?_) λ_ _ x=>x) λ_ _ x=>x);obtain⟨hT,h₂⟩:=h₂;unfold subscriptTail;refine wa ?_;rw[getitemInPython_of_ne hT.not_modules];refine wa (wpAny_specialOf hT hl ?_);have fin:wpAny (model prog w) A (subscripted slice false o i) (λr s₃=>wpAny (model prog w) A (letTemporaryGo value o r >>= λ_=>pure r) Q E s₃) E s₂:=by
  rw[hs o i];exact wpAny_operating (va h₂ (λr s₃ h₃=>wa (wpAny_letTemporaryGo (wv h₃))) λ_ _ x=>x)
 first
  | exact wv (wa fin)
  | exact wa (wv (wa fin))
  | exact wa fin
def z98 {X:Cx}{pins:List (Addr × Obj)}{σ:St}{H:Hp}{s:Shared}{a:Addr}{y:V}{o:Option V}(I:Inv X pins σ H s)(g:DGet H a y o):s.TypeIs (.ref a) "dict":=by
 rcases g with ⟨kvs,k,e,_,_⟩ | ⟨kvs,k,b,e,_,_,_⟩
 .obtain⟨_,_,vs,_,dd⟩:=z97 I.hok e;exact dd.typeIs
 .obtain⟨_,_,xs,_,dd⟩:=zas I.hok e;exact dd.typeIs
def zgJ (td ty:TE):TE:=λσ H Q=>td σ H λx H1=>ty σ H1 λy H2=>∃a v,x = .ref a/\DGet H2 a y (some v)/\Q v H2
def zaN (ty td:TE):TE:=λσ H Q=>ty σ H λy H1=>td σ H1 λx H2=>∃a o,x = .ref a/\DGet H2 a y o/\Q (.bl (!o.isSome)) H2
def zha (td ty tv:TE):TS:=λD σ H=>tv σ H λv H1=>td σ H1 λx H2=>ty σ H2 λy H3=>∃a H4,x = .ref a/\DPut H3 a y v H4/\D.nx σ H4
section
variable {X:Cx}{o i e value:Expr}{pos pos' tpos:Pos}{td ty tv:TE}
def zbE (hu:X.A.units+1<cLine)(ho:PE X o td)(hi:PE X i ty)(hs:NoSl i):PE X (.Subscript o i pos) (zgJ td ty):=by
 z_go;refine zf0 PySem.F.slot_dict_getitem.lookup hs (thn (ho pins s σ H _ I h) λu s1 ⟨x,H1,I1,rx,q1⟩=>thn (hi pins s1 σ H1 _ I1 q1) λiv s2 z9 =>?_);obtain⟨y,H2,I2,ry,a,v,ex,g,q2⟩:=z9;subst ex;ks_is;exact⟨z98 I2 g,zcq hu I2 g ry λw' s3 I3 rw'=>⟨v,H2,I3,rw',q2⟩⟩
def zbG (hu:X.A.units+1<cLine)(hi:PE X i ty)(ho:PE X o td):PC X .NotIn i o (zaN ty td):=by
 z_go;refine thn (hi pins s σ H _ I h) λiv s1 ⟨y,H1,I1,ry,q1⟩=>thn (ho pins s1 σ H1 _ I1 q1) λu s2 z9 =>?_;obtain⟨x,H2,I2,rx,a,ov,ex,g,q2⟩:=z9;subst ex;ks_is;exact zgk hu I2 g ry λs3 I3=>⟨.bl (!ov.isSome),H2,I3,rfl,q2⟩
def z8L (hu:X.A.units+1<cLine)(ho:PE X o td)(hi:PE X i ty)(hv:PE X value tv)(hs:swapsWith value (some (.Subscript o i pos')) pos.line X.env=pure false):
  PS X (.Assign [.Subscript o i pos'] value pos) (zha td ty tv):=by
 k_not;refine wpAny_Assign_Subscript (thn (hv pins s σ H _ I h) λr s1 ⟨v,H1,I1,rv,q1⟩=>thn (ho pins s1 σ H1 _ I1 q1) λu s2 ⟨x,H2,I2,rx,q2⟩=>thn (hi pins s2 σ H2 _ I2 q2) λiv s3 z9 =>?_) hs;obtain⟨y,H3,I3,ry,a,H4,ex,g,q3⟩:=z9;subst ex;ks_is;exact zcp hu I3 g ry rv λs4 I4=>⟨σ,H4,I4,q3⟩
end
def z9R {P:Program}{w:World}{H:Hp}(h:Heap)(hb:sysModules<h.objs.size):z1u P w H (h.push { cls :=.type "dict",data :=.dict #[] }) h.objs.size (.dK []):=
 ⟨vh _,um.mpr (vk (wT hb)),[],.nil,Heap.DictOf.new h⟩
def ze0:TE:=λ_ H Q=>∀p,H p=none->Q (.ref p) (upd H p (.dK []))
section
variable {X:Cx}{pos:Pos}
def z9z:PE X (.Dict [] [] pos) ze0:=λpins s σ H Q I h=>
 wpAny_Dict_empty ⟨.ref s.heap.objs.size,_,I.laid (a:=s.heap.objs.size) (o :=.dK []) (t':=s.toks) (λ_ _ q=>wm _ q) (wG _) (z9R s.heap I.big),rfl,h _ (I.hok.fresh (wG _))⟩
end
def zaL:List (TE × TE)->St->Hp->(List (V × V)->Hp->Prop)->Prop
 | [],_,H,Q=>Q [] H
 | (tk,tv)::r,σ,H,Q=>tk σ H λx H1=>tv σ H1 λy H2=>zaL r σ H2 λps H3=>Q ((x,y)::ps) H3
abbrev VV:List (V × V)->List (Value × Value)->Prop:=Paired λp q=>RelV p.1 q.1/\RelV p.2 q.2
def PPs (X:Cx)(pos:Pos)(keys:List (Option Expr))(values:List Expr)(trs:List (TE × TE)):Prop:=
 ∀(pins:List (Addr × Obj)) (s:Shared) (σ:St) (H:Hp) (Q:List (V × V)->Hp->Prop),Inv X pins σ H s->zaL trs σ H Q->
  wpAny (model X.prog X.w) X.A (evalPairs (pairTrees keys values X.env pos)) (λvs s'=>∃ps H',Inv X pins σ H' s'/\VV ps vs/\Q ps H') X.xe s
def zfM {X:Cx}{pos:Pos}:PPs X pos [] [] []:=λpins s σ H Q I h=>pairTrees_nil_walk ⟨[],H,I,.nil,h⟩
def z4s {X:Cx}{pos:Pos}{k v:Expr}{ks:List (Option Expr)}{vs:List Expr}{tk tv:TE}{trs:List (TE × TE)}(hk:PE X k tk)(hv:PE X v tv)(hr:PPs X pos ks vs trs):
  PPs X pos (some k::ks) (v::vs) ((tk,tv)::trs):=λpins s σ H Q I h=>
 pairTrees_cons_walk (thn (hk pins s σ H _ I h) λu s1 ⟨x,H1,I1,rx,q1⟩=>thn (hv pins s1 σ H1 _ I1 q1) λw2 s2 ⟨y,H2,I2,ry,q2⟩=>
  thn (hr pins s2 σ H2 _ I2 q2) λws s3 ⟨ps,H3,I3,rel,q3⟩=>⟨(x,y)::ps,H3,I3,.cons ⟨rx,ry⟩ rel,q3⟩)
def z6B (kvs more:List (Key × V)):List (Key × V):=more.foldl (λacc kv=>putK acc kv.1 kv.2) kvs
def KV.merge:∀{more:List (Key × V)}{rs:List (Key × Value)}{kvs:List (Key × V)}{vs:List (Key × Value)},KV more rs->KV kvs vs->KV (z6B kvs more) (merged vs rs):=by
 intro more rs kvs vs r;unfold KV at r
 induction r generalizing kvs vs with
 | nil=>intro q;exact q
 | @cons p q ps qs h t ih=>
  intro r0;have e:KV (putK kvs p.1 p.2) (stored vs q.1 q.2):=by
   have:=r0.put p.1 h.2;rw[<- h.1];exact this
  exact ih e
theorem z4w:∀(more kvs:List (Key × V)),(z6B kvs more).length<=kvs.length+more.length
 | [],kvs=>by show kvs.length<=kvs.length+0;omega
 | p::r,kvs=>by
  have h1:=z4w r (putK kvs p.1 p.2);have h2:=z42 kvs p.1 p.2;show (z6B (putK kvs p.1 p.2) r).length<=_;rw[wL];omega
theorem z6H {P:Program}{w:World}:∀{kvs:List (Key × V)}{ws:List (Value × Value)},VV (kvs.map λkv=>(kV kv.1,kv.2)) ws->∃rs,Carries (z0X P w) ws rs/\KV kvs rs
 | [],_,r=>by rw[vq] at r;cases r;exact⟨[],True.intro,.nil⟩
 | p::kvs,_,r=>by
  rw[wA] at r
  cases r with
  | @cons a b as bs h t=>
   obtain⟨rs,c,q⟩:=z6H (P:=P) (w:=w) t;obtain⟨b1,b2⟩:=b;exact⟨(p.1,b2)::rs,⟨z91 h.1,rfl,c⟩,.cons ⟨rfl,h.2⟩ q⟩
def zgG (trs:List (TE × TE)):TE:=λσ H Q=>∀p,H p=none->zaL trs σ (upd H p (.dK [])) λps H2=>H2 p=some (.dK [])/\∃kvs:List (Key × V),ps=kvs.map (λkv=>(kV kv.1,kv.2))/\kvs.length<=15/\Q (.ref p) (upd H2 p (.dK (z6B [] kvs)))
def zfS {X:Cx}{pos:Pos}{keys:List (Option Expr)}{values:List Expr}{trs:List (TE × TE)}(h:PPs X pos keys values trs)(hall:keys.all (·.isSome)=true)(hl:keys.length=values.length)(h0:keys≠[])
  (h15:keys.length<=15):PE X (.Dict keys values pos) (zgG trs):=by
 intro pins s σ H Q I q;have hn:=I.hok.fresh (wG s.heap.objs.size);have I1:=I.laid (a:=s.heap.objs.size) (o :=.dK []) (h':=s.heap.push { cls :=.type "dict",data :=.dict #[] }) (t':=s.toks) (λ_ _ q=>wm _ q) (wG _) (z9R s.heap I.big);refine wpAny_Dict_walk (knd:=z0X X.prog X.w) hall hl h0 h15 (thn (h pins _ σ _ _ I1 (q _ hn)) λws s2 z9 =>?_);obtain⟨ps,H2,I2,rel,e,kvs,ep,lk,q2⟩:=z9;subst ep;obtain⟨rs,c,rk⟩:=z6H (P:=X.prog) (w:=X.w) rel;obtain⟨z,hd,vs0,r0,dd⟩:=zgj I2.hok e
 cases r0
 refine⟨rs,c,dd,λh' dd' hs=>⟨.ref s.heap.objs.size,_,?_,rfl,q2⟩⟩;have hz:(z6B [] kvs).length<=sizeLine:=by
  have h1:=z4w kvs [];rw[vw] at h1;rw[sizeLine_eq];omega
 have he:∃q,h'.get? s.heap.objs.size=some q:=let ⟨q,_,_,hq,_⟩:=dd';⟨q,hq⟩;exact z7u I2 (by rw[e];exact True.intro) hs he (zci hz hd (rk.merge .nil) dd')
structure M1 (X:Cx)(o:Expr)(m:Str)(apos:Pos)(e:Expr)(cpos:Pos):Prop where
 base:attributeBase o m X.env (eval o X.env)=eval o X.env
 few:((backTo cpos (starEach [e] X.env)).all (λx => !x.1) && (backToKw cpos (keywordEach [] X.env)).all (λx=>x.1.isSome)
  && decide (([e]:List Expr).length+([]:List Keyword).length+(if ([]:List Keyword).isEmpty then 0 else 1)<30))=true
 line:(apos.endLine == cpos.line)=true
 trees:backTo cpos (starEach [e] X.env)=[(false,eval e X.env)]
def IsD (H:Hp)(a:Addr):Prop:=(∃kvs,Rd H a (.dK kvs))\/∃kvs,Rd H a (.dT kvs)
def zeH {X:Cx}{pins:List (Addr × Obj)}{σ:St}{H:Hp}{s:Shared}{a:Addr}(I:Inv X pins σ H s)(d:IsD H a):
  s.TypeIs (.ref a) "dict"/\(∀b,Value.ref a = .ref b->∃ob,s.heap.get? b=some ob/\ob.dict=none)/\(a == sysModules)=false:=by
 rcases d with ⟨kvs,e⟩ | ⟨kvs,e⟩
 .obtain⟨_,hd,vs,_,dd⟩:=z97 I.hok e;refine⟨dd.typeIs,λb q =>?_,hd⟩
  cases q
  obtain⟨ob,_,_,h1,h2,_⟩:=dd;exact⟨ob,h1,h2.2.1⟩
 .obtain⟨_,hd,xs,_,dd⟩:=zas I.hok e;refine⟨dd.typeIs,λb q =>?_,hd⟩
  cases q
  obtain⟨ob,_,_,h1,h2,_⟩:=dd;exact⟨ob,h1,h2.2.1⟩
section
variable {X:Cx}{pins:List (Addr × Obj)}{σ:St}{H:Hp}{s:Shared}{a:Addr}{y d:V}{u r:Value}{o:Option V}{A:Around}{E:WvP}
def zj0 {Q:WvP}(hu:A.units+1<cLine)(I:Inv X pins σ H s)(g:DGet H a y o)(ry:RelV y u)(h:∀w' s',Inv X pins σ H s'->RelV (o.getD .non) w'->Q w' s'):
  wpAny (model X.prog X.w) A (call (.builtin "dict.get") [.ref a,u]) Q E s:=by
 rcases g with ⟨kvs,k,e,ey,l⟩ | ⟨kvs,k,b,e,ey,eb,l⟩
 .subst ey;obtain⟨z,hd,vs,rel,dd⟩:=z97 I.hok e;refine call_meetsIn PySem.F.slot_dict_get dd.typeIs PySem.F.entry_dict_get (PySem.F.args_dict_get_2 _ _) (meets_dict_get (z0X X.prog X.w) a (z91 ry) hd) ⟨_,dd.mapOf,h _ _ (I.tok _) ?_⟩;rw[l];exact(rel.val k).getD rfl
 .subst ey
  cases (show u=Value.ref b from ry)
  obtain⟨z,hd,xs,rel,dd⟩:=zas I.hok e;refine call_meetsIn PySem.F.slot_dict_get dd.typeIs PySem.F.entry_dict_get (PySem.F.args_dict_get_2 _ _) (meetsH_dict_get (tupleKind (z0X X.prog X.w)) a b hd) ⟨uT hu,k,xs,z8b I.hok eb,dd,h _ _ (I.tok _) ?_⟩;rw[l];exact(rel.val k).getD rfl
end
def zgI (td ty:TE):TE:=λσ H Q=>td σ H λx H1=>∃a,x = .ref a/\IsD H1 a/\ty σ H1 λy H2=>∃o,DGet H2 a y o/\Q (o.getD .non) H2
def zgH (td ty:TE):TE:=λσ H Q=>td σ H λx H1=>∃a,x = .ref a/\IsD H1 a/\ty σ H1 λy H2=>∃kvs k v,H2 a=some (.dK kvs)/\y=kV k/\valV kvs k=some v/\Q v (upd H2 a (.dK (z96 kvs k)))
section
variable {X:Cx}{o e f:Expr}{apos cpos:Pos}{td ty tx:TE}
def zdl (hu:X.A.units+1<cLine)(ho:PE X o td)(he:PE X e ty)(m:M1 X o "get" apos e cpos):PE X (.Call (.Attribute o "get" apos) [e] [] cpos) (zgI td ty):=by
 z_go;refine wpAny_Call_method m.base m.few m.line PySem.F.plainAttrs_dict PySem.F.slot_dict_get PySem.F.type_dict_get (thn (ho pins s σ H _ I h) λu s1 z9 =>?_);obtain⟨x,H1,I1,rx,a,ex,d,q1⟩:=z9;subst ex;ks_is;obtain⟨t1,t2,_⟩:=zeH I1 d;refine⟨t1,t2,?_⟩;rw[m.trees];refine uw rfl (uH (Calls.spliced_cons (thn (he pins s1 σ H1 _ I1 q1) λiv s2 ⟨y,H2,I2,ry,ov,g,q2⟩=>Calls.spliced_nil ?_)));exact zj0 hu I2 g ry λw' s3 I3 rw'=>⟨_,H2,I3,rw',q2⟩
def zdk (ho:PE X o td)(he:PE X e ty)(m:M1 X o "pop" apos e cpos):PE X (.Call (.Attribute o "pop" apos) [e] [] cpos) (zgH td ty):=by
 z_go;refine wpAny_Call_method m.base m.few m.line PySem.F.plainAttrs_dict PySem.F.slot_dict_pop PySem.F.type_dict_pop (thn (ho pins s σ H _ I h) λu s1 z9 =>?_);obtain⟨x,H1,I1,rx,a,ex,d,q1⟩:=z9;subst ex;ks_is;obtain⟨t1,t2,_⟩:=zeH I1 d;refine⟨t1,t2,?_⟩;rw[m.trees];refine uw rfl (uH (Calls.spliced_cons (thn (he pins s1 σ H1 _ I1 q1) λiv s2 ⟨y,H2,I2,ry,kvs,k,v,ea,ey,l,q2⟩=>Calls.spliced_nil ?_)));subst ey;exact zkp I2 ea ry l (.inl rfl) λw' s3 I3 rw'=>⟨v,_,I3,rw',q2⟩
end
end L2
namespace Pu
open PySem PySem.Spec PyProof.Rows L2
def dk (kvs:List (Key × D)):D :=.dct (kvs.map λp=>kD p.1) (kvs.map (·.2))
def fk (kvs:List (Key × D)):D :=.fz (kvs.map λp=>kD p.1) (kvs.map (·.2))
def IsDk (d:D)(kvs:List (Key × D)):Prop:=d=dk kvs\/d=fk kvs
def valD (kvs:List (Key × D))(k:Key):Option D:=(kvs.find? λp=>decide (p.1=k)).map (·.2)
def putD (kvs:List (Key × D))(k:Key)(d:D):List (Key × D):=if (kvs.any λp=>decide (p.1=k))=true then kvs.map (λp=>if p.1=k then (p.1,d) else p) else kvs++[(k,d)]
def PK (K:W.Frag)(mg:WmP)(G:Hp):List (Key × D)->List (Key × V)->Prop
 | [],[]=>True
 | (k,d)::r,(k',v)::r'=>k=k'/\RD K mg G d v/\PK K mg G r r'
 | _,_=>False
def ziH:∀{k k':Key},kD k=kD k'->k=k'
 | .inl _,.inl _,h=>by injection h with h;rw[h]
 | .inr _,.inr _,h=>by injection h with h;rw[h]
 | .inl _,.inr _,h=>by cases h
 | .inr _,.inl _,h=>by cases h
section
variable {K:W.Frag}{mg:WmP}{G G' H:Hp}
theorem PK.of:∀{kvs:List (Key × D)}{kw:List (Key × V)},kvs.map (λp=>kD p.1)=kw.map (λp=>kD p.1)->RDs K mg G (kvs.map (·.2)) (kw.map (·.2))->PK K mg G kvs kw
 | [],[],_,_=>trivial
 | [],_::_,h,_=>by cases h
 | _::_,[],h,_=>by cases h
 | (k,d)::r,(k',v)::r',h,q=>by
  simp only[wA,vS] at h q;rw[RDs] at q;obtain⟨x,y,e,h1,h2⟩:=q;simp only[vS] at e;obtain⟨rfl,rfl⟩:=e;exact⟨ziH h.1,h1,PK.of h.2 h2⟩
theorem PK.keys:∀{kvs:List (Key × D)}{kw:List (Key × V)},PK K mg G kvs kw->kvs.map (·.1)=kw.map (·.1)
 | [],[],_=>rfl
 | [],_::_,h=>h.elim
 | _::_,[],h=>h.elim
 | (k,d)::r,(k',v)::r',h=>by
  obtain⟨rfl,_,h⟩:=h;simp[PK.keys h]
theorem PK.rds:∀{kvs:List (Key × D)}{kw:List (Key × V)},PK K mg G kvs kw->RDs K mg G (kvs.map (·.2)) (kw.map (·.2))
 | [],[],_=>RDs.nil
 | [],_::_,h=>h.elim
 | _::_,[],h=>h.elim
 | (k,d)::r,(k',v)::r',h=>RDs.cons h.2.1 (PK.rds h.2.2)
theorem PK.same (g:Same G G'):∀{kvs:List (Key × D)}{kw:List (Key × V)},PK K mg G kvs kw->PK K mg G' kvs kw
 | [],[],_=>trivial
 | [],_::_,h=>h.elim
 | _::_,[],h=>h.elim
 | (k,d)::r,(k',v)::r',h=>⟨h.1,h.2.1.same g,PK.same g h.2.2⟩
theorem PK.val {j:Key}:∀{kvs:List (Key × D)}{kw:List (Key × V)},PK K mg G kvs kw->(valD kvs j=none/\valV kw j=none)\/∃d v,valD kvs j=some d/\valV kw j=some v/\RD K mg G d v
 | [],[],_ =>.inl ⟨rfl,rfl⟩
 | [],_::_,h=>h.elim
 | _::_,[],h=>h.elim
 | (k,d)::r,(k',v)::r',h=>by
  obtain⟨rfl,h1,h2⟩:=h
  by_cases e:k=j
  .refine .inr ⟨d,v,?_,z47 e,h1⟩;unfold valD;rw[vp,wu e]
   rfl
  .have e1:valD ((k,d)::r) j=valD r j:=by
    unfold valD;rw[vp,wF e]
   rw[e1,z48 e];exact PK.val h2
theorem PK.any {j:Key}{kvs:List (Key × D)}{kw:List (Key × V)}(h:PK K mg G kvs kw):(kvs.any λp=>decide (p.1=j))=(kw.any λp=>decide (p.1=j)):=by
 have e1:(kvs.any λp=>decide (p.1=j))=((kvs.map (·.1)).any λk=>decide (k=j)):=by rw[List.any_map];rfl
 have e2:(kw.any λp=>decide (p.1=j))=((kw.map (·.1)).any λk=>decide (k=j)):=by rw[List.any_map];rfl
 rw[e1,e2,h.keys]
theorem PK.repl {j:Key}{d0:D}{v0:V}(r0:RD K mg G d0 v0):∀{kvs:List (Key × D)}{kw:List (Key × V)},PK K mg G kvs kw->PK K mg G (kvs.map λp=>if p.1=j then (p.1,d0) else p) (kw.map λp=>if p.1=j then (p.1,v0) else p)
 | [],[],_=>trivial
 | [],_::_,h=>h.elim
 | _::_,[],h=>h.elim
 | (k,d)::r,(k',v)::r',h=>by
  obtain⟨rfl,h1,h2⟩:=h;simp only[wA]
  by_cases e:k=j
  .rw[if_pos e,if_pos e];exact⟨rfl,r0,PK.repl r0 h2⟩
  .rw[if_neg e,if_neg e];exact⟨rfl,h1,PK.repl r0 h2⟩
theorem PK.snoc {j:Key}{d0:D}{v0:V}(r0:RD K mg G d0 v0):∀{kvs:List (Key × D)}{kw:List (Key × V)},PK K mg G kvs kw->PK K mg G (kvs++[(j,d0)]) (kw++[(j,v0)])
 | [],[],_=>⟨rfl,r0,trivial⟩
 | [],_::_,h=>h.elim
 | _::_,[],h=>h.elim
 | (k,d)::r,(k',v)::r',h=>⟨h.1,h.2.1,PK.snoc r0 h.2.2⟩
def PK.put {j:Key}{d0:D}{v0:V}(r0:RD K mg G d0 v0){kvs:List (Key × D)}{kw:List (Key × V)}(h:PK K mg G kvs kw):PK K mg G (putD kvs j d0) (putK kw j v0):=by
 unfold putD putK;rw[h.any]
 split
 .exact h.repl r0
 .exact h.snoc r0
def PK.len {kvs:List (Key × D)}{kw:List (Key × V)}(h:PK K mg G kvs kw):kvs.length=kw.length:=by
 have:=congrArg List.length h.keys;kw_lk
def zex {a:Addr}{kvs:List (Key × D)}(h:z2h K mg G H a (dk kvs)):∃kw,H a=some (.dK kw)/\PK K mg G kvs kw:=by
 obtain⟨xs,h1,⟨kw,q,e1,rfl⟩ | ⟨kw,q,n,e1,rfl⟩⟩:=h
 .exact⟨kw,q,PK.of e1 h1⟩
 .exfalso
  cases kw with
  | nil=>exact n rfl
  | cons p r=>
   cases kvs with
   | nil=>cases e1
   | cons p' r'=>
    simp only[wA,vS] at e1;obtain⟨⟨i | x,d⟩,_⟩:=p',r'
    all_goals exact absurd e1.1 (by simp[kD])
def zeK {a:Addr}{kvs:List (Key × D)}{kw:List (Key × V)}(h:H a=some (.dK kw))(p:PK K mg G kvs kw):z2h K mg G H a (dk kvs):=by
 refine⟨_,p.rds,.inl ⟨kw,h,?_,rfl⟩⟩;have:kvs.map (λp=>kD p.1)=(kvs.map (·.1)).map kD:=by rw[w5];rfl
 rw[this,p.keys,w5]
 rfl
def zfd {v:V}{kvs:List (Key × D)}(h:RD K mg G (dk kvs) v):∃a kw,v = .ref a/\Rd G a (.dK kw)/\PK K mg G kvs kw:=by
 unfold dk at h;rw[RD] at h;obtain⟨a,xs,rfl,h1,⟨kw,q,e1,rfl⟩ | ⟨kw,q,n,e1,rfl⟩⟩:=h
 .exact⟨a,kw,rfl,q,PK.of e1 h1⟩
 .exfalso
  cases kw with
  | nil=>exact n rfl
  | cons p r=>
   cases kvs with
   | nil=>cases e1
   | cons p' r'=>
    simp only[wA,vS] at e1;obtain⟨⟨i | x,d⟩,_⟩:=p',r'
    all_goals exact absurd e1.1 (by simp[kD])
def zjv {v:V}{kvs:List (Key × D)}(h:RD K mg G (fk kvs) v):∃a kw o,v = .ref a/\G a=some (.frz o (.dK kw))/\PK K mg G kvs kw:=by
 unfold fk at h;rw[RD] at h;obtain⟨a,xs,rfl,h1,o,kw,q,e1,rfl⟩:=h;exact⟨a,kw,o,rfl,q,PK.of e1 h1⟩
def zbd {v:V}{d:D}{kvs:List (Key × D)}(i:IsDk d kvs)(h:RD K mg G d v):∃a kw,v = .ref a/\Rd G a (.dK kw)/\PK K mg G kvs kw:=by
 rcases i with rfl | rfl
 .exact zfd h
 .obtain⟨a,kw,o,e,q,p⟩:=zjv h;exact⟨a,kw,e,.inr ⟨o,q⟩,p⟩
def zbc {k:Key}{v:V}(h:RD K mg G (kD k) v):v=kV k:=by
 cases k with
 | inl i=>exact(by rw[kD,RD] at h;exact h)
 | inr x=>exact(by rw[kD,RD] at h;exact h)
end
end Pu
namespace Geo
abbrev P:=Int × Int
def cr (a b c:P):Int:=(b.1 - a.1)*(c.2 - a.2) - (b.2 - a.2)*(c.1 - a.1)
def Lx (a b:P):Prop:=a.1<b.1\/(a.1=b.1/\a.2<b.2)
instance (a b:P):Decidable (Lx a b):=inferInstanceAs (Decidable (_\/_))
def zjf (S:P->Prop):List P->Prop
 | b::a::r=>(∀p,S p->0<=cr a b p)/\Lx a b/\zjf S (a::r)
 | _=>True
def Conv:List P->Prop
 | c::b::a::r=>0<cr a b c/\Conv (b::a::r)
 | _=>True
structure Ok (S:P->Prop)(s:List P):Prop where
 sub:∀x∈s,S x
 desc:s.Pairwise λx y=>Lx y x
 top:∃b r,s=b::r/\∀p,S p->¬ Lx b p
 bot:∃z,s.getLast? = some z/\∀p,S p->¬ Lx p z
 edges:zjf S s
 conv:Conv s
def dot (a b p:P):Int:=(p.1 - a.1)*(b.1 - a.1)+(p.2 - a.2)*(b.2 - a.2)
end Geo
open Geo
namespace Pu
open PySem PySem.Spec PyProof.Rows L2
def z1u.there {P:Program}{w:World}{H:Hp}{h:Heap}{a:Addr}{o:HO}(x:z1u P w H h a o):∃u,h.get? a=some u:=by
 cases o with
 | lst xs=>obtain⟨_,_,_,_,e⟩:=x;exact⟨_,e⟩
 | tup xs=>obtain⟨_,_,_,⟨o,e,_⟩,_⟩:=x;exact⟨_,e⟩
 | dK kvs=>obtain⟨_,_,_,_,o,_,_,e,_⟩:=x;exact⟨_,e⟩
 | dT kvs=>obtain⟨_,_,_,_,o,_,_,e,_⟩:=x;exact⟨_,e⟩
 | set S n=>obtain⟨o,_,_,_,e,_⟩:=x;exact⟨_,e⟩
 | ins C dx fs=>obtain⟨_,_,_,e,_⟩:=x;exact⟨_,e⟩
 | own y=>exact x
 | xd fs=>obtain⟨_,⟨_,_,_,e,_⟩,_⟩:=x;exact⟨_,e⟩
 | rng lo hi=>obtain⟨_,_,_,e⟩:=x;exact⟨_,e⟩
 | frz ob u=>obtain⟨e,_⟩:=x;exact⟨_,e⟩
 | tbl ps=>rcases x with e | ⟨_,_,_,_,_,_,_,_,_,_,_,e,_⟩ <;> exact⟨_,e⟩
 | met f y=>exact⟨_,(show h.get? a=some _ from x)⟩
 | ext φ=>obtain⟨_,z,_⟩:=x;exact z
def _root_.L2.HOk.none_of {P:Program}{w:World}{H:Hp}{h:Heap}{a:Addr}(x:HOk P w H h)(e:h.get? a=none):H a=none:=by
 cases q:H a with
 | none=>rfl
 | some u=>
  obtain⟨v,z⟩:=z1u.there (x a u q);rw[e] at z;cases z
def _root_.L2.Inv.laid' {X:Cx}{H:Hp}{pins:List (Addr × Obj)}{σ:L2.St}{s:Shared}{h':Heap}{a:Addr}{o:HO}{t':Nat}(I:Inv X pins σ H s)(k:∀b u,s.heap.get? b=some u->h'.get? b=some u)(hp:s.heap.get? a=none)(new:z1u X.prog X.w (upd H a o) h' a o):
  Inv X pins σ (upd H a o) { s with heap:=h',toks:=t' }:=by
 have hn:=I.hok.none_of hp;have ne:∀b u,s.heap.get? b=some u->b≠a:=λb u e z=>by rw[z,hp] at e;cases e
 have neH:∀b u,H b=some u->b≠a:=λb u e z=>by rw[z,hn] at e;cases e
 refine I.un ⟨λb o e q _ _=>k b o e,λb o e q _ _=>⟨o.slots,k b o e⟩,λb o e q _=>by rw[z02 (ne b o e)];exact q,λb o e _=>⟨o,k b o e⟩,λb xs e=>by rw[z02 (neH b _ e)];exact e,λb o u e=>by rw[z02 (neH b _ e)];exact e,λb ps e=>⟨#[],by rw[z02 (neH b _ e),Array.append_empty];exact e⟩⟩ λb u e =>?_
 by_cases hb:b=a
 .subst hb;rw[z06] at e;cases e;exact new
 .rw[z02 hb] at e;exact(I.hok b u e).stay (λc v _ q=>k c v q) (λc q=>by rw[z02 (neH c _ q)];exact q) (λc xs q=>by rw[z02 (neH c _ q)];exact q) λc _ _ q=>by rw[z02 (neH c _ q)];exact q
end Pu
namespace Pu
open PySem L2
def Fn.bot:Fn:=⟨λ_ _ _=>False,λ_ _ _ _ _ _ _ h=>h⟩
def ziR {P:Program}{w:World}{K:W.Frag}{mg:WmP}{base:Heap}{CX:CXT}{k:Nat}{f:Addr}{fd:FuncData}{ps:List Str}:FnOk P w K mg base CX k f fd ps (spP K mg Fn.bot):=
 ⟨λ_ _ _ _ ⟨_,_,_,_,_,_,h,_⟩=>h.elim,λ_ _ _ _ _ _ _ _ _ _ _ _ _ ⟨_,_,_,_,_,_,h,_⟩=>h.elim⟩
open PySem.Spec PyProof.Rows
section
variable {X:Cx}{K:W.Frag}{mg:WmP}{E:XK}{G H:Hp}
def zaq (a b:D)(Q:DK):Prop:=match a,b with
 | .lst l,.lst m=>l.length+m.length<=sizeLine/\Q (.lst (l++m))
 | _,_=>False
def zap (a b:D)(Q Q':DK)(m:∀d,Q d->Q' d)(h:zaq a b Q):zaq a b Q':=by
 unfold zaq at h ⊢
 split at h
 .exact⟨h.1,m _ h.2⟩
 .exact h.elim
def zdp:Fn:=fn2 zaq zap
def zfA {a b:Expr}{x y:Ex}{pos:Pos}(ha:QX X E a x)(hb:QX X E b y):QF X E (.BinOp a .Add b pos) (.op zdp [x,y]):=QE.imp (zhz zbL ha hb) <| by
 k_in;refine⟨G,ρ,λd=>y.run ρ (λd'=>zdp.run [d,d'] Q0 X0) X0,X0,hs,ab,hr,?_,hx⟩;intro d v G1 H1 hb g1 g2 g3 rd;refine⟨G1,ρ,λd'=>zdp.run [d,d'] Q0 X0,X0,g2,ab.same g1.1,hb,?_,hx.same g3⟩;intro d' v' G2 H2 hF k1 k2 k3 rd';have hF':zaq d d' Q0:=hF;unfold zaq at hF'
 split at hF'
 .rename_i l m
  obtain⟨l1,xs,rfl,s1,r1⟩:=z1K (rd.same k1.1);obtain⟨l2,ys,rfl,s2,r2⟩:=z1K rd';refine⟨l1,l2,xs,ys,rfl,rfl,z1d k2 s1,z1d k2 s2,by rw[r1.len,r2.len];exact hF'.1,λp hp =>?_⟩;exact hk (.lst (l++m)) p G2 (upd H2 p (.lst (xs++ys))) hF'.2 (g1.trans g3 k1) (z03 k2 (z0P hp _)) (z03 (z03 g3 k3) (z0P hp _)) (z0p (z03 g3 k3) hp) (z0p k2 hp) ⟨xs++ys,z06,r1.app r2⟩
 .exact hF'.elim
end
def Sm.par2 (i j:Nat)(es:List Ex):Sm:=⟨λρ N _ Xp=>runs es (vis ρ) (λds=>[i,j].length=ds.length/\N (z0g [i,j] ds ρ)) Xp,λρ N N' Q Q' Xp X' mn m mx q=>z2m es _ _ _ Xp X' (λd q1=>⟨q1.1,mn _ q1.2⟩) mx q⟩
section
variable {X:Cx}{E:XK}{pos:Pos}
def zfi {i j:Nat}{x y:Str}{a b:Expr}{es:List Ex}{px py pt:Pos}{kt k2 pt2}(hc:X.calm=true)(hN:X.N.Nodup)(hi:X.N[i]? = some x)(hj:X.N[j]? = some y)(hij:i≠j)
  (hx:X.env.scope.names.lookup x=some .local) (hy:X.env.scope.names.lookup y=some .local) (ha:QXA X E [a,b] es)
  (hw:swappedStores [.Tuple [.Name x px,.Name y py] kt pt] (.Tuple [a,b] k2 pt2) X.env=pure (some [x,y]))
  (hs:swapsWithSole [.Tuple [.Name x px,.Name y py] kt pt] (.Tuple [a,b] k2 pt2) pos.line X.env=pure false:=by rfl):
  QZ X E (.Assign [.Tuple [.Name x px,.Name y py] kt pt] (.Tuple [a,b] k2 pt2) pos) (.par2 i j es):=QS.imp (zhp hc hN hi hj hij hx hy ha hw hs) <| by
 k_go0;refine⟨G,vis ρ,_,X0,ab.g,ab.vis,hr,λds vs G1 H1 q g1 g2 g3 rds =>?_,hx.same ab.s0⟩;have ab2:=ab.over g1 g2 g3
 match ds,q.1,vs,rds with
 | [d1,d2],_,vs,rds=>
  have hl:=rds.len
  match vs,hl with
  | [v,w],_=>exact⟨v,w,rfl,hn _ _ _ _ q.2 (ab2.putAll [i,j] [d1,d2] [v,w] rfl rds) g1.1⟩
end
def gAll (d:D)(Q:DK):Prop:=∃bs:List Bool,d = .lst (bs.map .bl)/\Q (.bl (bs.all id))
def pAll:Fn:=fn1 gAll λd Q Q' m h=>by
 obtain⟨bs,e,q⟩:=h;exact⟨bs,e,m _ q⟩
section
variable {X:Cx}
theorem zba {K:W.Frag}{mg:WmP}{G:Hp}:∀(bs:List Bool) {xs:List V},RDs K mg G (bs.map .bl) xs->xs=bs.map .bl
 | [],xs,h=>by
  rw[vq,RDs] at h;exact h
 | b::bs,xs,h=>by
  rw[wA,RDs] at h;obtain⟨v,r,rfl,h1,h2⟩:=h;rw[zba bs h2,z7O h1]
  rfl
def zeP (hc:X.calm=true):z1k X (.builtin "all") (rN X.K X.mg pAll):=(zcw hc).imp <| by
 f_int;k_few;tb_lt;obtain⟨bs,rfl,q⟩:=hr';kpf_c;rw[zba bs h2] at h1;exact⟨a,bs,rfl,z1d g h1,hk.now g q RD.bl'⟩
end
end Pu
namespace Tim
open PySem PyProof.Rows
def SrtS (ss out:List Str):Prop:=out.Perm ss/\out.Pairwise λa b=>a.cps.toList<=b.cps.toList
def SrtS.unique {ss a b:List Str}(ha:SrtS ss a)(hb:SrtS ss b):a=b:=List.Perm.eq_of_pairwise (λx y _ _ h k=>by
 have:=List.le_antisymm h k
 cases x;cases y
 simp only[Str.mk.injEq];exact Array.toList_inj.mp this) ha.2 hb.2 (ha.1.trans hb.1.symm)
def zgM:∀{l:List Str},sortedS l=true->l.Pairwise λa b=>a.cps.toList<=b.cps.toList:=by
 have main:∀(l:List Str) (p:Str),risingS p l=true->(p::l).Pairwise λa b=>a.cps.toList<=b.cps.toList:=by
  intro l
  induction l with
  | nil=>intro p _;exact List.pairwise_singleton _ _
  | cons x l ih=>
   intro p h;have h':=h;rw[risingS,wN,ltCps_eq,uG,decide_eq_false_iff_not] at h';have px:p.cps.toList<=x.cps.toList:=h'.1;have r:=ih x h'.2;refine vD.mpr ⟨λy hy =>?_,r⟩
   rcases wf.mp hy with z | z
   .rw[z];exact px
   .exact List.le_trans px ((vD.mp r).1 y z)
 intro l h
 cases l with
 | nil=>exact .nil
 | cons x l=>exact main l x h
section
variable {prog:Program}{w:World}{A:Around}{E:WvP}{s:Shared}
def zeR (Q:WvP)(vs:List Value)(s1:Shared):Prop:=
 ∃ss,StrsAre vs ss/\vs.length<64/\∀(out:List Value) (ss':List Str),StrsAre out ss'->SrtS ss ss'->
  ∀h',(∀b o,s1.heap.get? b=some o->h'.get? b=some o)->(∃e,h'.get? s1.heap.objs.size=some (seqObj "list" out.toArray e))->Q (.ref s1.heap.objs.size) { s1 with heap:=h' }
def zaU {v:Value}{Q:WvP}(hcol:∀E',wpAny (model prog w) A.in1 (collect v) (zeR Q) E' s):wpAny (model prog w) A (call (.builtin "sorted") [v]) Q E s:=by
 refine Calls.call_function_entry kind_sorted plain_sorted entry_sorted (args_sorted1 _) ?_;unfold Builtin.«sorted»;refine wa (m:=checkCount "sorted" 1 1 _) (wv ?_);refine wa (va (hcol _) (λvs s1 q =>?_) λ_ _ e=>e);obtain⟨ss,hS,hz,h⟩:=q;refine wa (wpAny_newList ?_ (wX (uW hz) (by rw[sizeLine_eq];omega)));have hoL:(s1.heap.push (seqObj "list" vs.toArray 0)).get? s1.heap.objs.size=some (seqObj "list" vs.toArray 0):=wB _ rfl;have keep:∀b o,s1.heap.get? b=some o->(s1.heap.push (seqObj "list" vs.toArray 0)).get? b=some o:=λb o q=>wm _ q;show wpAny _ _ _ _ _ { s1 with heap:=s1.heap.push (seqObj "list" vs.toArray 0) };refine wa (uo (v9 slot_list_sort ⟨_,hoL,rfl⟩ entry_list_sort (list_sort_treeK strKind_oneLt hoL hS.keysOf (λv1 v2 r e=>keyKind_strs (by rw[<- e];exact hS)) hz λst' o1 o2=>⟨_,rfl,?_⟩) (args_list_sort _)));obtain⟨ss',h1,h2,h3⟩:=sorted_out_str hS o1 o2;refine wv ⟨_,rfl,h _ ss' h1 ⟨h2,zgM h3⟩ _ (λb o g =>?_) ?_⟩
 .have hlt:b<s1.heap.objs.size:=wE g;rw[sortedHeap_old (wT hlt) (by rw[size_push'];exact Nat.lt_succ_of_lt hlt)];exact keep b o g
 .rw[Array.toArray_toList];exact sortedHeap_at hoL
end
end Tim
namespace Pu
open PySem PySem.Spec PyProof.Rows L2 Tim
def gDIn (neg:Bool)(a b:D)(Q:DK):Prop:=∃j kvs,a=kD j/\IsDk b kvs/\Q (.bl (if neg then !(valD kvs j).isSome else (valD kvs j).isSome))
def zcb {neg:Bool}(a b:D)(Q Q':DK)(m:∀d,Q d->Q' d)(h:gDIn neg a b Q):gDIn neg a b Q':=by
 obtain⟨j,kvs,e1,e2,q⟩:=h;exact⟨j,kvs,e1,e2,m _ q⟩
def z4P:Fn:=fn2 (gDIn true) zcb
def ziP (a b:D)(Q:DK):Prop:=∃j kvs d,b=kD j/\IsDk a kvs/\valD kvs j=some d/\Q d
def z1q:Fn:=fn2 ziP λa b Q Q' m h=>by
 obtain⟨j,kvs,d,e1,e2,e3,q⟩:=h;exact⟨j,kvs,d,e1,e2,e3,m _ q⟩
def ziO (d:D)(Q:DK):Prop:=∃kvs,d=dk kvs/\Q (.lst (kvs.map λp=>kD p.1))
def zi1:Fn:=fn1 ziO λd Q Q' m h=>by
 obtain⟨kvs,e,q⟩:=h;exact⟨kvs,e,m _ q⟩
def zeJ (d:D)(Q:DK):Prop:=∃kvs ss,d=dk kvs/\kvs.map (·.1)=ss.map Sum.inr/\ss.length<64/\∀out,SrtS ss out->Q (.lst (out.map .str))
def zev:Fn:=fn1 zeJ λd Q Q' m h=>by
 obtain⟨kvs,ss,e,e2,e3,q⟩:=h;exact⟨kvs,ss,e,e2,e3,λout h=>m _ (q out h)⟩
def zeI (d:D)(Q:DK):Prop:=∃ss:List Str,d = .lst (ss.map .str)/\ss.length<64/\∀out,SrtS ss out->Q (.lst (out.map .str))
def zeu:Fn:=fn1 zeI λd Q Q' m h=>by
 obtain⟨ss,e,e2,q⟩:=h;exact⟨ss,e,e2,λout h=>m _ (q out h)⟩
section
variable {K:W.Frag}{mg:WmP}{G G' H:Hp}
def z99 {a:Addr}{kw:List (Key × V)}{j:Key}(h:Rd H a (.dK kw)):DGet H a (kV j) (valV kw j) :=.inl ⟨kw,j,h,rfl,rfl⟩
def z4K {a:Addr}{o:HO}(g:Same G H)(h:Rd G a o):Rd H a o:=h.imp (g _ _) λ⟨u,e⟩=>⟨u,g _ _ e⟩
theorem z9p:∀{ss:List Str}{vs:List V},RDs K mg G (ss.map D.str) vs->vs=ss.map V.str
 | [],_,h=>by rw[vq,RDs] at h;exact h
 | x::ss,_,h=>by
  rw[wA,RDs] at h;obtain⟨v,r,rfl,h1,h2⟩:=h;rw[RD] at h1;rw[h1,z9p h2]
  rfl
theorem z6O:∀(ss:List Str),RDs K mg G (ss.map D.str) (ss.map V.str)
 | []=>RDs.nil
 | x::ss=>RDs.cons (by rw[RD]) (z6O ss)
theorem z9k:∀{ss:List Str}{us:List Value},Vals (ss.map V.str) us->PyProof.Rows.StrsAre us ss
 | [],_,h=>by cases h;exact .nil
 | x::ss,_,h=>by
  rw[wA] at h
  cases h with
  | cons h1 h2=>obtain⟨t,rfl⟩:=h1;exact .cons x t (z9k h2)
theorem z9X:∀{ss:List Str}{us:List Value},PyProof.Rows.StrsAre us ss->Vals (ss.map V.str) us
 | [],_,h=>by cases h;exact .nil
 | x::ss,_,h=>by
  cases h with
  | cons y t h2=>exact .cons ⟨t,rfl⟩ (z9X h2)
end
section
variable {X:Cx}{E:XK}{a b e o y tg:Expr}{x z:Ex}{pos p1 pp:Pos}{i:Nat}
def zaF {σ:L2.St}{H:Hp}{Q:VK}(h:tx X.K X.mg E (.op z4P [x,z]) σ H Q):zaN (tx X.K X.mg E x) (tx X.K X.mg E z) σ H Q:=by
 have h':tOp (λy x H Q=>∃a o,x = .ref a/\DGet H a y o/\Q (.bl (!o.isSome)) H) (tx X.K X.mg E x) (tx X.K X.mg E z) σ H Q:=tx2 (λG H d1 d2 v1 v2 Q0 X0 Q g r1 r2 hr hk=>by
  obtain⟨j,kvs,rfl,hi,q⟩:=(show gDIn true d1 d2 Q0 from hr)
  obtain⟨a,kw,rfl,h1,h2⟩:=zbd hi r2;rw[zbc r1];refine⟨a,_,rfl,z99 (z4K g h1),?_⟩;have e:(valV kw j).isSome=(valD kvs j).isSome:=by
   rcases h2.val (j:=j) with ⟨e1,e2⟩ | ⟨d,v,e1,e2,_⟩ <;> rw[e1,e2] <;> rfl
  rw[e];exact hk.now g q (by rw[RD];rfl)) h
 exact h'
def z5K (hu:X.A.units+1<cLine)(ha:QX X E a x)(hb:QX X E b z)(hm:behindInMarks .NotIn b=false:=by with_unfolding_all rfl):QXT X E (.Compare a [.NotIn] [b] pos) (.op z4P [x,z]):=QT.imp ⟨zhI (zbG hu ha.p hb.p) hm⟩ λσ H Q h=>z8y (λ_ h=>zaF h) h
def zfD (hu:X.A.units+1<cLine)(ha:QX X E a x)(hb:QX X E b z)(hs:NoSl b):QX X E (.Subscript a b pos) (.op z1q [x,z]):=QE.imp ⟨zbE hu ha.p hb.p hs⟩ λσ H Q h=>by
 have h':tOp (λx y H Q=>∃a v,x = .ref a/\DGet H a y (some v)/\Q v H) (tx X.K X.mg E x) (tx X.K X.mg E z) σ H Q:=tx2 (λG H d1 d2 v1 v2 Q0 X0 Q g r1 r2 hr hk=>by
  obtain⟨j,kvs,d,rfl,hi,e,q⟩:=(show ziP d1 d2 Q0 from hr)
  obtain⟨a,kw,rfl,h1,h2⟩:=zbd hi r1;rw[zbc r2]
  rcases h2.val (j:=j) with ⟨e1,e2⟩ | ⟨d',v,e1,e2,r⟩
  .rw[e] at e1;cases e1
  .rw[e] at e1;cases e1;refine⟨a,v,rfl,?_,hk.now g q r⟩;rw[<- e2];exact z99 (z4K g h1)) h
 exact h'
end
section
variable {X:Cx}{pins:List (Addr × Obj)}{σ:L2.St}{H:Hp}{s:Shared}{a:Addr}{kw:List (Key × V)}
def zcj (I:Inv X pins σ H s)(h:Rd H a (.dK kw)):∃ep vs,kw.length<=sizeLine/\(a == sysModules)=false/\KV kw vs/\Heap.DictAt (z0X X.prog X.w) s.heap a vs ep:=by
 obtain⟨h1,h2,vs,h3,o,es,ep,h4⟩:=z97 I.hok h;exact⟨ep,vs,h1,h2,h3,o,es,h4⟩
def zke {P:Program}{w:World}{k:Key}{v:Value}(h:(z0X P w).is k v=true):RelV (kV k) v:=by
 rw[zag] at h
 rcases z11 h with ⟨i,t,rfl,rfl⟩ | ⟨x,t,rfl,rfl⟩
 .exact⟨t,rfl⟩
 .exact⟨t,rfl⟩
theorem z5Y {P:Program}{w:World}:∀{kw:List (Key × V)}{vs:List (Key × Value)}{l:List Value},KV kw vs->l.length=vs.length->(∀(i:Nat) v,l[i]? = some v->∃k x,vs[i]? = some (k,x)/\(z0X P w).is k v=true)->Vals (kw.map λq=>kV q.1) l
 | [],_,l,r,hl,_=>by
  cases r
  cases l with
  | nil=>exact .nil
  | cons=>simp at hl
 | q::kw,_,l,r,hl,h=>by
  cases r with
  | cons r1 r2=>
   cases l with
   | nil=>simp at hl
   | cons v l=>
    obtain⟨k,x,e,hk⟩:=h 0 v rfl;simp at e;refine .cons ?_ (z5Y r2 (by simpa using hl) λi v hv=>h (i+1) v (by simpa using hv));show RelV (kV q.1) v;rw[r1.1,e];exact zke hk
def zhf:List V->Hp->VK->Prop:=λvs H Q=>∃a kw,vs=[.ref a]/\Rd H a (.dK kw)/\∀p,H p=none->Q (.ref p) (upd H p (.lst (kw.map λq=>kV q.1)))
def zav (hc:X.calm=true):z1k X (.type "list") zhf:=by
 rintro pins s σ H xs us Q I rv ⟨a,kw,e,hr,q⟩;subst e;obtain⟨u,rfl,rx⟩:=z6I rv
 cases rx
 have hh:X.A.handled=none:=I.ok.hd hc;obtain⟨ep,vs,hz,hy,r,da⟩:=zcj I hr;have hl:kw.length=vs.length:=KV.length r;refine W.kdl_call (W.kdl_dict hy) hh da (by rw[<- hl];exact hz) λh' tk acc c keep hS it =>?_;have v:=z5Y (l:=acc.toList) r (by rw[vZ];exact it.1) (λi v e=>it.2 i v (by simpa using e));refine⟨.ref s.heap.objs.size,_,I.laid (o :=.lst (kw.map λq=>kV q.1)) keep (wG _) ⟨by rw[wc];exact hz,acc.toList,c,v,?_⟩,rfl,q _ (I.hok.fresh (wG _))⟩;rw[hS]
def zfe (K:W.Frag):List V->Hp->VK->Prop:=λvs H Q=>∃a ss,vs=[.ref a]/\((∃kw,Rd H a (.dK kw)/\kw.map (·.1)=ss.map Sum.inr)\/SqL K H a (ss.map V.str))/\ss.length<64/\∀p out,H p=none->SrtS ss out->Q (.ref p) (upd H p (.lst (out.map V.str)))
def z9n {ss:List Str}{us:List Value}{Q:VK}{s1:Shared}(I:Inv X pins σ H s)(hv:Vals (ss.map V.str) us)(hz:ss.length<64)(keep:∀b o,s.heap.get? b=some o->s1.heap.get? b=some o)(he:s1.gens=s.gens/\s1.drawn=s.drawn/\s1.os=s.os)
  (q:∀p out,H p=none->SrtS ss out->Q (.ref p) (upd H p (.lst (out.map V.str)))):zeR (EP X pins σ Q) us s1:=by
 refine⟨ss,z9k hv,by rw[<- hv.length,wc];exact hz,λout ot v0 srt h' kp z9 =>?_⟩;obtain⟨e,hS⟩:=z9;have v1:=z9X v0;have hD:s.heap.get? s1.heap.objs.size=none:=by
  cases z:s.heap.get? s1.heap.objs.size with
  | none=>rfl
  | some o=>exact absurd (wE (keep _ _ z)) (vW _)
 have hzl:(ot.map V.str).length<=sizeLine:=by
  have:=srt.1.length_eq;rw[wc,sizeLine_eq];omega
 obtain⟨g1,g2,g3⟩:=he;have es:({ s1 with heap:=h' }:Shared)={ s with heap:=h',toks:=s1.toks }:=by
  cases s1;cases s
  simp only at g1 g2 g3;subst g1 g2 g3
  rfl
 rw[es];exact⟨.ref _,upd H _ (.lst (ot.map V.str)),I.laid' (o :=.lst (ot.map V.str)) (t':=s1.toks) (λb o z=>kp b o (keep b o z)) hD ⟨hzl,out,e,v1,hS⟩,rfl,q _ ot (I.hok.none_of hD) srt⟩
def z6b (hc:X.calm=true):z1k X (.builtin "sorted") (zfe X.K):=by
 rintro pins s σ H xs us Q I rv ⟨a,ss,e,h,h64,q⟩;subst e;obtain⟨u,rfl,rx⟩:=z6I rv
 cases rx
 have hh:X.A.handled=none:=I.ok.hd hc;refine zaU λE' =>?_
 rcases h with ⟨kw,hr,hk⟩ | hs
 .obtain⟨ep,vs,hz,hy,r,da⟩:=zcj I hr;have hl:kw.length=vs.length:=KV.length r;refine W.kdu_collect (A:=X.A.in1) (W.kdl_dict hy) hh da (by rw[<- hl];exact hz) λh' tk acc keep it =>?_;have v:=z5Y (l:=acc.toList) r (by rw[vZ];exact it.1) (λi v e=>it.2 i v (by simpa using e));have e:(kw.map λq=>kV q.1)=ss.map V.str:=by
   have:(kw.map λq=>kV q.1)=(kw.map (·.1)).map kV:=by rw[w5];rfl
   rw[this,hk,w5]
   rfl
  rw[e] at v;exact z9n (s1:={ s with heap:=h',toks:=tk }) I v h64 keep ⟨rfl,rfl,rfl⟩ q
 .obtain⟨its,r,pl,_⟩:=I.list hs;have hlen:=r.length;rw[wc] at hlen;refine collect_list (vs:=its) (by simpa using pl.isList) ?_ (by rw[sizeLine_eq];omega);have keep:∀b o,s.heap.get? b=some o->((s.heap.push (seqObj "list" #[] 0)).update s.heap.objs.size (Obj.mapSeq (· ++ its.toArray))).get? b=some o:=λb o z=>by
   rw[Heap.get?_update_ne _ _ _ _ (wT (wE z))];exact wm _ z
  exact z9n (s1:={ s with heap:=(s.heap.push (seqObj "list" #[] 0)).update s.heap.objs.size (Obj.mapSeq (· ++ its.toArray)) }) I r h64 keep ⟨rfl,rfl,rfl⟩ q
end
section
variable {X:Cx}
def zgm (hc:X.calm=true):z1k X (.type "list") (rNf X.K X.mg zi1):=(zav hc).imp <| by
 f_int;k_few;tb_lt;obtain⟨kvs,rfl,q⟩:=(show ziO d Q0 from hr')
 obtain⟨a,kw,rfl,h1,h2⟩:=zfd rd;refine⟨a,kw,rfl,z4K g h1,λp hp=>hk.newL g hp q ?_⟩;have e1:(kvs.map λp=>kD p.1)=(kvs.map (·.1)).map kD:=by rw[w5];rfl
 have e2:(kw.map λq=>kV q.1)=(kw.map (·.1)).map kV:=by rw[w5];rfl
 rw[e1,e2,h2.keys];have:∀l:List Key,RDs X.K X.mg G (l.map kD) (l.map kV):=by
  intro l
  induction l with
  | nil=>exact RDs.nil
  | cons k l ih=>
   refine RDs.cons ?_ ih
   cases k <;> (show RD _ _ _ _ _;simp only[kD,kV];rw[RD])
 exact this _
def zdT (hc:X.calm=true):z1k X (.builtin "sorted") (rNf X.K X.mg zev):=(z6b hc).imp <| by
 f_int;k_few;tb_lt;obtain⟨kvs,ss,rfl,e,h64,q⟩:=(show zeJ d Q0 from hr')
 obtain⟨a,kw,rfl,h1,h2⟩:=zfd rd;exact⟨a,ss,rfl,.inl ⟨kw,z4K g h1,by rw[<- h2.keys];exact e⟩,h64,λp out hp ho=>hk.newL g hp (q out ho) (z6O out)⟩
def zdS (hc:X.calm=true):z1k X (.builtin "sorted") (rNf X.K X.mg zeu):=(z6b hc).imp <| by
 f_int;k_few;tb_lt;obtain⟨ss,rfl,hz,q⟩:=(show zeI d Q0 from hr')
 kpf_c;rw[z9p h2] at h1;exact⟨a,ss,rfl,.inr (z1d g h1),hz,λp out hp ho=>hk.newL g hp (q out ho) (z6O out)⟩
end
end Pu
namespace Pu
open PySem PySem.Spec PyProof.Rows L2
def upW (W:Wd)(p:Addr)(c:D):Wd:=λb=>if b=p then some c else W b
def z28 {W:Wd}{p:Addr}{c:D}:upW W p c p=some c:=by unfold upW;rw[if_pos rfl]
def z27 {W:Wd}{p q:Addr}{c:D}(h:q≠p):upW W p c q=W q:=by unfold upW;rw[if_neg h]
theorem z8v {f:Str}{v:V}:∀{fs:List Str}{vs:List V}{k:Nat},fs.Nodup->fs[k]? = some f->vs[k]? = some v->(fs.zip vs).lookup f=some v
 | _::_,_::_,0,_,h1,h2=>by
  simp at h1 h2;subst h1 h2;simp
 | g::gs,w::ws,k+1,nd,h1,h2=>by
  simp at h1 h2;rw[wS,vd];have hf:(f == g)=false:=by
   cases z:f == g with
   | false=>rfl
   | true=>
    rw[eq_of_beq z] at h1;exact((wO.mp nd).1 (wH h1)).elim
  rw[hf];exact z8v (wO.mp nd).2 h1 h2
 | [],_,_,_,h,_=>by simp at h
 | _::_,[],_,_,_,h=>by simp at h
section
variable {K:W.Frag}{mg:WmP}{H0 G0 G G1 H H1:Hp}{ρ:Pu.Env}{σ:L2.St}{W:Wd}{A:Addr->List Addr}{n f:Str}{fs:List Str}{cs:List D}{p a C:Addr}{k i:Nat}{c c':D}{o:HO}
theorem OwnL.put:∀{as:List Addr}{cs:List D}{k:Nat},as.Nodup->as[k]? = some a->OwnL K mg G H as cs->z2h K mg G (upd H a o) a c'->OwnL K mg G (upd H a o) as (cs.set k c')
 | b::as,c::cs,0,nd,e,h,w=>by
  simp at e;subst e;refine⟨w,OwnL.same Same.refl' h.2 λx hx u hu =>?_⟩;rw[z02 (λz=>by subst z;exact(wO.mp nd).1 hx)];exact hu
 | b::as,c::cs,k+1,nd,e,h,w=>by
  simp at e;have hb:b≠a:=λz=>by subst z;exact(wO.mp nd).1 (wH e)
  exact⟨h.1.same Same.refl' λu hu=>by rw[z02 hb];exact hu,OwnL.put (wO.mp nd).2 e h.2 w⟩
 | [],_,_,_,e,_,_=>by simp at e
 | _::_,[],_,_,_,h,_=>h.elim
def AbS.wrF (ab:AbS K mg H0 G0 G ρ σ H)(h0:H0 a=none)(hg:G a=none)(ho:¬ z12 ρ σ a):AbS K mg H0 G0 G ρ σ (upd H a o) where
 len:=ab.len
 s0:=λb u e=>by rw[z02 (λz=>by rw[z,h0] at e;cases e)];exact ab.s0 b u e
 g0:=ab.g0
 g:=λb u e=>by rw[z02 (λz=>by rw[z,hg] at e;cases e)];exact ab.g b u e
 nw:=ab.nw
 sh:=ab.sh
 ow:=λj d e=>by
  obtain⟨b,h1,h2,h3,h4⟩:=ab.ow j d e;refine⟨b,h1,h2,h3,h4.same Same.refl' λu hu =>?_⟩;rw[z02 (λz=>by subst z;exact ho ⟨j,d,e,h1⟩)];exact hu
 ne:=ab.ne
def zcf (hp:W p=some c){b:Addr}(h:Foot (upW W p c') A b):Foot W A b:=by
 obtain⟨q,d,e,m⟩:=h
 o_src
 .subst hq;exact⟨q,c,hp,m⟩
 .rw[z27 hq] at e;exact⟨q,d,e,m⟩
def AbR.wr (h:AbR K mg H0 G0 G ρ σ H W A)(hp:W p=some (.ins n fs cs))(hk:(A p)[k]? = some a)(hw:z2h K mg G (upd H a o) a c')(pc:Pc c'):AbR K mg H0 G0 G ρ σ (upd H a o) (upW W p (.ins n fs (cs.set k c'))) A:=by
 have ha:a∈A p:=wH hk;have fa:Foot W A a:=⟨p,_,hp,we _ ha⟩
 obtain⟨r1,r3,r4⟩:=h.st.at_ p _ hp;obtain⟨oo,ro,_,rh⟩:=r1.ob;have nd:=wO.mp (h.st.nd p _ hp);refine⟨h.ab.wrF (h.no a fa).1 (h.st.out a fa) (h.no a fa).2,⟨λq d e =>?_,λq d e =>?_,λq q' d d' b e e' m m' =>?_,λb hb=>h.st.out b (zcf hp hb)⟩,λb hb=>h.no b (zcf hp hb)⟩
 .o_src
  .subst hq;rw[z28] at e
   cases e
   refine⟨rh _ (by rw[z02 (λz=>nd.1 (by rw[<- z] at ha;exact ha))];exact ro),r3.put nd.2 hk hw,λx hx =>?_⟩
   rcases vi hx with z | z
   .exact r4 x z
   .rw[z];exact pc
  .rw[z27 hq] at e;refine(h.st.at_ q d e).same Same.refl' λb hb u hu =>?_;rw[z02 (λz=>hq (h.st.dj q p d _ b e hp hb (by rw[z];exact we _ ha)))];exact hu
 .o_src
  .subst hq;exact h.st.nd q _ hp
  .rw[z27 hq] at e;exact h.st.nd q d e
 .have old:∀q d,upW W p (.ins n fs (cs.set k c')) q=some d->∃d',W q=some d':=λq d e=>by
   o_src
   .subst hq;exact⟨_,hp⟩
   .rw[z27 hq] at e;exact⟨d,e⟩
  obtain⟨x,e1⟩:=old q d e;obtain⟨y,e2⟩:=old q' d' e';exact h.st.dj q q' x y b e1 e2 m m'
def AbR.fld (h:AbR K mg H0 G0 G ρ σ H W A)(e1:ρ[i]? = some (.s (.ptr p)))(e2:W p=some (.ins n fs cs))(hC:mg n=some (.ref C))(nd:fs.Nodup)(hf:fs[k]? = some f)(hc:cs[k]? = some c):
  ∃dx a fl,σ[i]? = some (some (.ref p))/\H p=some (.ins C dx fl)/\fl.lookup f=some (.ref a)/\(A p)[k]? = some a/\z2h K mg G H a c/\Foot W A a:=by
 obtain⟨v,h1,h2⟩:=h.ab.sh i _ e1;rw[RD] at h2;subst h2;obtain⟨r1,r3,r4⟩:=h.st.at_ p _ e2;obtain⟨_,dx,r1⟩:=r1.ins hC;obtain⟨a,ha,hw⟩:=r3.get hc;exact⟨dx,a,_,h1,r1,z8v nd hf (by rw[wR,ha];rfl),ha,hw,p,_,e2,we _ (wH ha)⟩
end
structure Rc (K:W.Frag)(mg:WmP)(n:Str)(C:Addr):Prop where
 c:Cls K C
 m:mg n=some (.ref C)
def z7o (n:Str)(fs:List Str)(i k:Nat)(ρ:Env)(W:Wd)(P:Addr->List D->D->Prop):Prop:=∃p cs c,ρ[i]? = some (.s (.ptr p))/\W p=some (.ins n fs cs)/\cs[k]? = some c/\P p cs c
def z1R {n:Str}{fs:List Str}{i k:Nat}{ρ:Env}{W:Wd}{P P':Addr->List D->D->Prop}(m:∀p cs c,P p cs c->P' p cs c)(h:z7o n fs i k ρ W P):z7o n fs i k ρ W P':=by
 obtain⟨p,cs,c,h1,h2,h3,h4⟩:=h;exact⟨p,cs,c,h1,h2,h3,m _ _ _ h4⟩
def SmR.fapp (n:Str)(fs:List Str)(i k:Nat)(e:Ex):SmR:=⟨λρ W N _ X=>z7o n fs i k ρ W λp cs c=>∃l,c = .lst l/\e.run (shw W ρ) (λd=>l.length<sizeLine/\Pr d/\N ρ (upW W p (.ins n fs (cs.set k (.lst (l++[d])))))) (λx=>X x W),λρ W N N' Q Q' X X' mn m mx q=>z1R (λp cs c ⟨l,h,q⟩=>⟨l,h,e.mono _ _ _ _ _ (λd q=>⟨q.1,q.2.1,mn _ _ q.2.2⟩) (λ_ q=>mx _ _ q) q⟩) q⟩
def SmR.fclr (n:Str)(fs:List Str)(i k:Nat):SmR:=⟨λρ W N _ X=>z7o n fs i k ρ W λp cs c=>∃l,c = .lst l/\N ρ (upW W p (.ins n fs (cs.set k (.lst [])))),λρ W N N' Q Q' X X' mn m mx q=>z1R (λp cs c ⟨l,h,q⟩=>⟨l,h,mn _ _ q⟩) q⟩
def SmR.fput (n:Str)(fs:List Str)(i k:Nat)(y e:Ex):SmR:=⟨λρ W N _ X=>z7o n fs i k ρ W λp cs c=>∃kvs,c=dk kvs/\e.run (shw W ρ) (λd=>Pr d/\y.run (shw W ρ) (λb=>∃j,b=kD j/\kvs.length<sizeLine/\N ρ (upW W p (.ins n fs (cs.set k (dk (putD kvs j d)))))) (λx=>X x W)) (λx=>X x W),λρ W N N' Q Q' X X' mn m mx q=>z1R (λp cs c ⟨l,h,q⟩=>⟨l,h,e.mono _ _ _ _ _ (λd q=>⟨q.1,y.mono _ _ _ _ _ (λb ⟨j,h,h',q⟩=>⟨j,h,h',mn _ _ q⟩) (λ_ q=>mx _ _ q) q.2⟩) (λ_ q=>mx _ _ q) q⟩) q⟩
section
variable {X:Cx}{E:XK}{e o y tg:Expr}{x z:Ex}{pos cpos apos fpos spos:Pos}{i k:Nat}{n f:Str}{fs:List Str}{C:Addr}
def zbw {te:TE}(he:QE X e te)(hb:attributeBase e f X.env (eval e X.env)=eval e X.env:=by rfl):QE X (.Attribute e f pos) (tFld X.K te f):=⟨zhV he.p hb⟩
def zfw (R:Rc X.K X.mg n C)(na:z2H X.K C f)(nd:fs.Nodup)(hf:fs[k]? = some f)(ho:QE X o (tVar i))(hb:attributeBase o f X.env (eval o X.env)=eval o X.env:=by rfl)
  (hs:swapsWith (.Call (.Attribute (.Attribute o f fpos) "clear" apos) [] [] cpos) none pos.line X.env=pure false:=by rfl)
  (hbase:attributeBase (.Attribute o f fpos) "clear" X.env (eval (.Attribute o f fpos) X.env)=eval (.Attribute o f fpos) X.env:=by rfl)
  (hline:(apos.endLine == cpos.line)=true:=by rfl):
  QR X E (.Expr (.Call (.Attribute (.Attribute o f fpos) "clear" apos) [] [] cpos) pos) (.fclr n fs i k):=
 QS.imp (z6V (zeo vL PySem.F.slot_list_clear PySem.F.type_list_clear zdD (zbw ho hb) hbase hline) hs) <| by
  l_fit;obtain⟨p,cs,c,e1,e2,e3,l,rfl,hr⟩:=hr;obtain⟨dx,a,fl,s1,h1,h2,h3,hw,fa⟩:=ab.fld e1 e2 R.m nd hf e3;obtain⟨xs,w1,w2⟩:=hw;refine⟨.ref p,s1,p,C,dx,fl,.ref a,rfl,h1,R.c,na,h2,.inl ⟨rfl,xs,SqL.of w1⟩,?_⟩;refine⟨a,xs,rfl,rfl,w1,?_⟩;exact hn ρ _ A σ _ _ hr (ab.wr e2 h3 ⟨[],z06,RDs.nil⟩ λb hb=>by cases hb) Same.refl'
end
def forR (i:Nat)(b:SmR)(N:EW)(Q:DW)(X:XW):List D->Env->Wd->Prop
 | [],ρ,W=>N ρ W
 | x::xs,ρ,W=>b.run (ρ.set i (.s x)) W (forR i b N Q X xs) Q X
theorem z4z {i:Nat}{b:SmR}{N N':EW}{Q Q':DW}{X X':XW}(mn:∀r w,N r w->N' r w)(m:∀d w,Q d w->Q' d w)(mx:∀x w,X x w->X' x w):∀(l:List D) (ρ:Env) (W:Wd),forR i b N Q X l ρ W->forR i b N' Q' X' l ρ W
 | [],_,_,q=>mn _ _ q
 | x::xs,ρ,W,q=>b.mono _ W _ _ Q Q' X X' (λρ2 W2 q2=>z4z mn m mx xs ρ2 W2 q2) m mx q
def SmR.for_ (i:Nat)(src:Ex)(b:SmR):SmR:=⟨λρ W N Q X=>src.run (vis ρ) (λd=>onL (items d) λl=>forR i b N Q X l ρ W) (λx=>X x W),λρ W N N' Q Q' X X' mn m mx q=>src.mono _ _ _ _ _ (λd q1=>z6Z (λl q2=>z4z mn m mx l _ _ q2) q1) (λ_ q=>mx _ _ q) q⟩
def FnR.mk' (np nn:Nat)(b:SmR):FnR:=⟨λds W Q X=>ds.length=np/\b.run (ds.map B.s++List.replicate (nn - np) .n) W (λ_ w=>Q .non w) Q X,λds W Q Q' X X' m mx q=>⟨q.1,b.mono _ _ _ _ Q Q' X X' (λ_ _ q1=>m _ _ q1) m mx q.2⟩⟩
def Fn.ofR (np nn:Nat)(b:SmR):Fn:=⟨λds Q _=>ds.length=np/\b.run (ds.map B.s++List.replicate (nn - np) .n) (λ_=>none) (λ_ _=>Q .non) (λd _=>Q d) (λ_ _=>False),λds Q Q' X X' m mx q=>⟨q.1,b.mono _ _ _ _ _ _ _ _ (λ_ _ q1=>m _ q1) (λ_ _ q1=>m _ q1) (λ_ _ z=>z) q.2⟩⟩
section
variable {X:Cx}{E:XK}{tg iter:Expr}{body:List Stmt}{x:Ex}{t:SmR}{pos:Pos}{i:Nat}
def z6E {K:W.Frag}{mg:WmP}{H0 G0 G H:Hp}{ρ:Pu.Env}{σ:L2.St}{W:Wd}{A:Addr->List Addr}{l:List D}{J:It}{N0:EW}{R0:DW}{X0:XW}{De:Ends}(ab:AbR K mg H0 G0 G ρ σ H W A)(hw:Walk K mg G l J)(hr:forR i t N0 R0 X0 l ρ W)
  (hn:KnR K mg H0 G0 G N0 De.nx) (hR:KrR K mg H0 G0 R0 De.rt) (hx:KxR K mg H0 G0 X0 E):
  ∃Z:Nat->Nat->L2.St->Hp->Prop,(∃m,Z 0 m σ H)/\∀j m σ H,Z j m σ H->
   (J.stop j H/\De.nx σ H)\/(J.go j H/\∃N:L2.St->Hp->Prop,(∀σ' H',N σ' H'->∃m',m'<m/\Z (j+1) m' σ' H')/\∀x H',J.yld j H x H'->tgt K (.nm i) x σ H' λσ2 H2=>tsr K mg E t { De with nx:=N,ct:=N,bk:=De.nx } σ2 H2):=by
 refine⟨λj m σ H=>m=l.length - j/\j<=l.length/\∃G1 ρ1 W1 A1,AbR K mg H0 G0 G1 ρ1 σ H W1 A1/\Same G G1/\forR i t N0 R0 X0 (l.drop j) ρ1 W1,⟨l.length,by simp,vh _,G,ρ,W,A,ab,Same.refl',by simpa using hr⟩,?_⟩;rintro j m σ1 H1 ⟨rfl,hi,G1,ρ1,W1,A1,ab1,g1,h1⟩;obtain⟨w1,w2⟩:=hw j G1 H1 g1 ab1.ab.g
 by_cases hlt:j<l.length
 .have e:l[j]? = some l[j]:=by simp[hlt]
  obtain⟨go,yl⟩:=w1 _ e;rw[vR hlt] at h1;refine .inr ⟨go,λσ' H'=>∃G2 ρ2 W2 A2,AbR K mg H0 G0 G2 ρ2 σ' H' W2 A2/\Same G G2/\forR i t N0 R0 X0 (l.drop (j+1)) ρ2 W2,λσ' H' w=>⟨l.length - (j+1),by omega,rfl,hlt,w⟩,λv H2 y =>?_⟩;obtain⟨s2,G2,g2,k2,rd⟩:=yl v H2 y;have ab2:=(ab1.grow g2 k2 s2).put (i:=i) rd;exact⟨H0,G0,G2,_,W1,A1,_,R0,X0,ab2,h1,λρ' W' A' σ' H' G' w ab' g'=>⟨G',ρ',W',A',ab',z03 g1 (z03 g2.1 g'),w⟩,hR,hx⟩
 .have e:j=l.length:=by omega
  subst e;rw[List.drop_length] at h1;exact .inl ⟨w2 (wG _),hn ρ1 W1 A1 σ1 H1 G1 h1 ab1 g1⟩
def zhu (hp:PassesOwn (model X.prog X.w) X.A X.env X.xe)(hc:X.calm=true)(hi:QXI X E tg iter x)(hg:QG X tg (tgt X.K (.nm i)))(hb:QRs X E body t)(hs:∀x,foldedSetIterable iter X.env x=pure x:=by intro _;rfl):
  QR X E (.For tg iter body [] pos) (.for_ i x t):=QS.imp (z7Q hp hc hi hg hb hs) <| by
 k_get;refine⟨G,vis ρ,_,_,ab.ab.g,ab.ab.vis,hr,λd q=>(z6Y q).imp λ_ z=>z.1,λd G1 H1 q g1 g2 g3 l J el hw =>?_,hx.at_ ab⟩;have q':onL (items d) λl=>forR i t N0 R0 X0 l ρ W:=q;rw[el] at q';exact z6E (E:=E) (ab.grow g1 g2 g3) hw q' (hn.same g1.1) hR hx
end
section
variable {P:Program}{w:World}{K:W.Frag}{mg:WmP}{base:Heap}{N:List Str}{qual:Str}{f:Addr}
def z9l {ds:List D}{σ:L2.St}{m:Nat}{a:Addr}:¬ z12 (ds.map B.s++List.replicate m .n) σ a:=by
 rintro⟨j,d,e,_⟩;have:=wH e
 rcases ve.mp this with z | z
 .obtain⟨_,_,z⟩:=wP.mp z;cases z
 .have:=List.eq_of_mem_replicate z;cases this
def fnR {x:Str}{st:Stmt}{fd:FuncData}{ps:List Str}{k np nn:Nat}{b:SmR}(F:Fun K x qual st f fd)(S:z1U N ps (z01 st))(hp:ps.length=np)(hN:N.length=nn)
  (hb:∀(cdv:Value) (A:Around) (outer:List PySem.Env) (s:Shared) (H:Hp) (E:XK),Room k (A.deeper (envOfC qual (z01 st) s.heap.objs.size f cdv))->QRs ((cxOf (CXe P w) P w K mg base N qual (z01 st) f cdv A outer s H E).wish (cxOf (CXe P w) P w K mg base N qual (z01 st) f cdv A outer s H E).xe) E (z0v st) b):
  FnOk P w K mg base (CXe P w) (k+1) f fd ps (spR K mg (FnR.mk' np nn b)):=by
 refine F.okE S (λvs H Q E ⟨G,ds,W,A,Q0,X0,hs,rds,st,⟨hl,hr⟩,hk,hx⟩=>by rw[rds.len,hl,hp]) λcdv A' outer s H vs Q E hroom ⟨G,ds,W,A,Q0,X0,hs,rds,st,⟨hl,hr⟩,hk,hx⟩=>⟨_,hb cdv A' outer s H E hroom,?_⟩
 refine⟨minus H (Foot W A),G,G,_,W,A,_,Q0,X0,⟨(z3z hs rds hl hN).weak z0V,st,λa ha=>⟨z1r ha,z9l⟩⟩,hr,λρ' W' A' σ' H' G' q ab _ =>?_,hk,hx⟩;exact hk .non .non G' H' W' A' q ⟨ab.ab.g0,ab.ab.nw⟩ ab.ab.g ab.ab.s0 ab.st (λa ha=>(ab.no a ha).1) (by rw[RD])
def zcg {A:Addr->List Addr}{a:Addr}:¬ Foot (λ_=>none) A a:=λ⟨_,_,e,_⟩=>by cases e
def fnO {x:Str}{st:Stmt}{fd:FuncData}{ps:List Str}{k np nn:Nat}{b:SmR}(F:Fun K x qual st f fd)(S:z1U N ps (z01 st))(hp:ps.length=np)(hN:N.length=nn)
  (hb:∀(cdv:Value) (A:Around) (outer:List PySem.Env) (s:Shared) (H:Hp) (E:XK),Room k (A.deeper (envOfC qual (z01 st) s.heap.objs.size f cdv))->QRs ((cxOf (CXe P w) P w K mg base N qual (z01 st) f cdv A outer s H E).wish λ_ _=>False) E0 (z0v st) b):
  FnOk P w K mg base (CXe P w) (k+1) f fd ps (spP K mg (Fn.ofR np nn b)):=by
 kj_on
 refine⟨H,G,G,_,λ_=>none,λ_=>[],_,_,λ_ _=>False,⟨z3z hs rds hl hN,⟨λp c e=>(by cases e),λp c e=>(by cases e),λp q c c' a e=>(by cases e),λa ha=>(zcg ha).elim⟩,λa ha=>(zcg ha).elim⟩,hr,λρ' W' A' σ' H' G' q ab _ =>?_,λd v G' H' W' A' q g g2 s st n rd=>hk d v G' H' q g g2 s rd,λx C H' W' A' G' z=>z.elim⟩;exact hk .non .non G' H' q ⟨ab.ab.g0,ab.ab.nw⟩ ab.ab.g ab.ab.s0 (by rw[RD])
end
def zaT (K:W.Frag)(mg:WmP)(C:Addr)(fs:List Str)(cs:List D):Sp:=λvs H Q _=>∃p dx,vs=[.ref p]/\H p=some (.ins C dx [])/\∀Gn H' as,(∀a o,Gn a=some o->H a=none)->Same Gn H'->OwnL K mg Gn H' as cs->(∀a∈as,H a=none/\Gn a=none)->as.Nodup->H' p=some (.ins C dx (fs.zip (as.map V.ref)))->(∀b o,H b=some o->b≠p->H' b=some o)->Q .non H'
def upA (A:Addr->List Addr)(p:Addr)(as:List Addr):Addr->List Addr:=λb=>if b=p then as else A b
def z29 {A:Addr->List Addr}{p:Addr}{as:List Addr}:upA A p as p=as:=by unfold upA;rw[if_pos rfl]
def z3j {A:Addr->List Addr}{p q:Addr}{as:List Addr}(h:q≠p):upA A p as q=A q:=by unfold upA;rw[if_neg h]
def SmR.new (i:Nat)(c:D):SmR:=⟨λρ W N _ _=>∀p,W p=none->N (ρ.set i (.s (.ptr p))) (upW W p c),λρ W N N' Q Q' X X' mn m mx q p h=>mn _ _ (q p h)⟩
section
variable {X:Cx}{E:XK}{tg e:Expr}{pos:Pos}{i:Nat}{n:Str}{fs:List Str}{cs:List D}{C:Addr}
def AbR.new {K:W.Frag}{mg:WmP}{H0 G0 G Gn H H':Hp}{ρ:Pu.Env}{σ:L2.St}{W:Wd}{A:Addr->List Addr}{p:Addr}{as:List Addr}(ab:AbR K mg H0 G0 G ρ σ H W A)(pc:∀c∈cs,Pc c)(hp:H p=none)(gn:∀a o,Gn a=some o->H a=none/\a≠p)(gh:Same Gn H')(ow:OwnL K mg Gn H' as cs)(fr:∀a∈as,H a=none/\Gn a=none/\a≠p)(nd:as.Nodup)(hp':Hd mg H' p as n fs)(s:Same H H'):
  ∃G' A',AbR K mg H0 G0 G' (ρ.set i (.s (.ptr p))) (σ.set i (some (.ref p))) H' (upW W p (.ins n fs cs)) A'/\Same G G':=by
 have gr:Gr G H (λa=>match G a with | some o=>some o | none=>Gn a):=⟨λa o e=>by show (match G a with | some o=>some o | none=>Gn a)=some o;rw[e],λa o e=>by
  have e':(match G a with | some o=>some o | none=>Gn a)=some o:=e
  cases z:G a with
  | some u=>exact .inl ⟨u,rfl⟩
  | none=>rw[z] at e';exact .inr (gn a o e').1⟩
 have gs:Same (λa=>match G a with | some o=>some o | none=>Gn a) H':=λa o e=>by
  have e':(match G a with | some o=>some o | none=>Gn a)=some o:=e
  cases z:G a with
  | some u=>rw[z] at e';cases e';exact s a _ (ab.ab.g a _ z)
  | none=>rw[z] at e';exact gh a o e'
 have gg:Same Gn (λa=>match G a with | some o=>some o | none=>Gn a):=λa o e=>by
  show (match G a with | some o=>some o | none=>Gn a)=some o;rw[z0p ab.ab.g (gn a o e).1];exact e
 have ab1:=(ab.grow gr gs s).put (i:=i) (d :=.ptr p) (v :=.ref p) (by rw[RD]);have old:∀a,Foot W A a->∃o,H a=some o:=λa ha=>(ab.st.exO ha).imp λ_ z=>z.1;have wp:∀q c,W q=some c->q≠p:=λq c e z=>by
  subst z;obtain⟨o,ho⟩:=old q ⟨q,c,e,ww⟩;rw[hp] at ho;cases ho
 have newf:∀a,a∈p::as->H a=none:=λa ha=>by
  rcases wf.mp ha with z | z
  .rw[z];exact hp
  .exact(fr a z).1
 have ft:∀a,Foot (upW W p (.ins n fs cs)) (upA A p as) a->Foot W A a\/a∈p::as:=by
  rintro a ⟨q,c,e,m⟩
  o_src
  .subst hq;rw[z29] at m;exact .inr m
  .rw[z3j hq] at m;rw[z27 hq] at e;exact .inl ⟨q,c,e,m⟩
 refine⟨_,upA A p as,⟨ab1.ab,⟨λq c e =>?_,λq c e =>?_,λq q' c c' a e e' m m' =>?_,λa ha =>?_⟩,λa ha =>?_⟩,gr.1⟩
 .o_src
  .subst hq;rw[z28] at e
   cases e
   rw[z29];exact⟨hp',ow.same gg λ_ _ _ z=>z,pc⟩
  .rw[z27 hq] at e;rw[z3j hq];exact ab1.st.at_ q c e
 .o_src
  .subst hq;rw[z29];exact wO.mpr ⟨λz=>(fr q z).2.2 rfl,nd⟩
  .rw[z27 hq] at e;rw[z3j hq];exact ab.st.nd q c e
 .o_src
  .by_cases hq':q'=p
   .rw[hq,hq']
   .rw[z3j hq'] at m';rw[z27 hq'] at e';rw[hq,z29] at m;obtain⟨o,ho⟩:=old a ⟨q',c',e',m'⟩;rw[newf a m] at ho;cases ho
  .rw[z3j hq] at m;rw[z27 hq] at e
   by_cases hq':q'=p
   .rw[hq',z29] at m';obtain⟨o,ho⟩:=old a ⟨q,c,e,m⟩;rw[newf a m'] at ho;cases ho
   .rw[z3j hq'] at m';rw[z27 hq'] at e';exact ab.st.dj q q' c c' a e e' m m'
 .rcases ft a ha with z | z
  .exact ab1.st.out a z
  .show (match G a with | some o=>some o | none=>Gn a)=none;rw[z0p ab.ab.g (newf a z)]
   rcases wf.mp z with y | y
   .cases x:Gn a with
    | none=>rfl
    | some o=>exact((gn a o x).2 y).elim
   .exact(fr a y).2.1
 .rcases ft a ha with z | z
  .exact ab1.no a z
  .refine⟨z0p ab.ab.s0 (newf a z),λy =>?_⟩;obtain⟨j,d,e,q⟩:=y
   mg_lt
   .subst hj;have hl:j < ρ.length:=by
     have:=(wg.mp e).1;kw_lk
    rw[wD hl] at e;cases e
   .rw[wj (vk hj)] at e q;obtain⟨o,ho,_⟩:=ab.ab.ownMu ⟨j,d,e,q⟩;rw[newf a z] at ho;cases ho
def zht {sp:Sp}(hn0:n≠"")(hC:X.mg n=some (.ref C))(pc:∀c∈cs,Pc c)(h:QS X (.Assign [tg] e pos) (tAsg (zgE C (zaT X.K X.mg C fs cs) [] E tNil) (z2y i))):QR X E (.Assign [tg] e pos) (.new i (.ins n fs cs)):=QS.imp h <| by
 k_get;intro p dx hp hdx ne;refine⟨p,dx,rfl,z06,λGn H' as gn gh ow fr nd hp' kp=>⟨rfl,?_⟩⟩;have s0:∀b o,H b=some o->(upd (upd H dx (.own p)) p (.ins C dx [])) b=some o:=λb o e=>by
  rw[z02 (λz=>by rw[z,hp] at e;cases e),z02 (λz=>by rw[z,hdx] at e;cases e)];exact e
 have back:∀b,(upd (upd H dx (.own p)) p (.ins C dx [])) b=none->H b=none/\b≠p:=λb z=>by
  refine⟨?_,λy=>by rw[y,z06] at z;cases z⟩
  cases e:H b with
  | none=>rfl
  | some o=>rw[s0 b o e] at z;cases z
 have wn:W p=none:=by
  cases z:W p with
  | none=>rfl
  | some c=>
   obtain⟨o,ho,_⟩:=ab.st.exO ⟨p,c,z,ww⟩;rw[hp] at ho;cases ho
 obtain⟨G',A',ab',g'⟩:=ab.new (i:=i) (n:=n) (fs:=fs) pc hp (λa o e=>back a (gn a o e)) gh ow (λa ha=>⟨(back a (fr a ha).1).1,(fr a ha).2,(back a (fr a ha).1).2⟩) nd (.inl ⟨hn0,C,dx,hp',hC⟩) λb o e=>kp b o (s0 b o e) λz=>by rw[z,hp] at e;cases e
 exact hn _ _ A' _ H' G' (hr p wn) ab' g'
end
end Pu
namespace L2
open PySem PySem.Spec PyProof.Rows
def EH (X:Cx)(C2:Addr)(j:Nat)(ts:TS)(D:Ends)(σ:St):XK:=λCv _ H2=>W.exmOne X.K Cv (.ref C2)=some true/\∃C,Cv = .ref C/\∀ea H3,H2 ea=none->Same H2 H3->H3 ea=some (.ext (z3h ea C))->ts (D.less j) (σ.set j (some (.ref ea))) H3
def z2g (CX:CXT)(X:Cx)(σ:St)(E:XK):Prop:=∀(pins:List (Addr × Obj)) (H:Hp) (s:Shared) (e:Value) (s':Shared),Inv X pins σ H s->CX X.stack H s E e s'->X.xe e s'
section
variable {X:Cx}{k:Nat}{ps:List Str}{sp:Sp}{x g cx n:Str}{e o:Expr}{es:List Expr}{ta:TE}{t:TA}{C C2 f:Addr}{b0:Stmt}{body suite:List Stmt}{ts:TS}{p1 p2 p3 p4 p5 p6 pos apos:Pos}{j:Nat}{CX:CXT}{fd:FuncData}{ds:List Value}{dvs:List V}{E:XK}{σ0:St}{m:Str}
def zfo {tb:Ends->St->TS}(hst:X.stack=X.env::X.outer/\X.env.frame=some X.env.locals)(hN:X.N.Nodup)(hi:X.N[j]? = some n)(hk':X.env.scope.names.lookup n=some .local)(T:Exc X.K X.mg cx C2)(hgc:Gl X cx)(hdc:(cx == ("__debug__":Str))=false)(hs:∀ea,QSs (X.suite ea) (b0::suite) ts)
  (hb:∀pins xe D σ,z2g (CXe X.prog X.w) (X.within pins xe) σ (EH X C2 j ts D σ)->QSs (X.within pins xe) body (tb D σ)):
  QS X (.Try body [.ExceptHandler (some (.Name cx p5)) (some n) (b0::suite) p6] [] [] pos) (λD σ H=>tb D σ D σ H):=by
 constructor
 k_not;refine wpAny_Try_except ?_;generalize hxe:(λ(e:Value) (s1:Shared)=>wpAny (model X.prog X.w) X.A (noteFrame e X.env) (λ_ s2=>wpAny (model X.prog X.w) X.A (setFlight e none) (λ_ s3=>wpAny (model X.prog X.w) X.A (handleBy e X.env [.ExceptHandler (some (.Name cx p5)) (some n) (b0::suite) p6]) (SP X pins D) X.xe s3) X.xe s2) X.xe s1)=xe;have pa:z2g (CXe X.prog X.w) (X.within pins xe) σ (EH X C2 j ts D σ):=λpins' H1 s1 ev s2 I1 hq=>by
  show xe ev s2;rw[<- hxe];exact zeY (I1.out I.ok) hst hN hi hk' T hgc hs hq (λ_ _ z=>z) hdc
 have body:=(hb pins xe D σ pa).p;refine va (body [] s σ H { D with nx:=D.nx } I.within h) (λfl s2 z =>?_) λev s2 z =>?_
 .have z':=SP.out I.ok z
  cases fl with
  | next=>exact uA z'
  | brk=>exact z'
  | cont=>exact z'
  | ret u=>exact z'
 .exact z
def zb9 {pins:List (Addr × Obj)}{H:Hp}{s:Shared}{Q:VK}{us:List Value}{vs:List V}(F:FnOk X.prog X.w X.K X.mg X.base CX k f fd ps sp)(hr:Room k X.A)(hb:z34 X.K fd ps ds)(hd:Vals dvs ds)(hx:z2g CX X σ0 E)
  (I:Inv X pins σ0 H s) (r:Vals vs us) (h:sp (vs++dvs) H Q E):wpAny (model X.prog X.w) X.A (call (.ref f) us) (EP X pins σ0 Q) X.xe s:=by
 have r2:Vals (vs++dvs) (us++ds):=r.append hd;have hl:(us++ds).length=ps.length:=by rw[<- r2.length];exact F.len _ _ _ _ h
 f_tup
 cases r with
 | error e=>exact hx pins H s e s' I hq
 | ok fl=>
  cases fl with
  | ret u=>exact I.after hq
  | next=>exact False.elim hq
  | brk=>exact False.elim hq
  | cont=>exact False.elim hq
def zdi {pl:Sem Bool}(he:PE X o ta)(c:Cls X.K C)(hm:Meth X.K C m f)(F:FnOk X.prog X.w X.K X.mg X.base CX k f fd ps sp)(hr:Room k X.A)(hb:z34 X.K fd ps ds)(hd:Vals dvs ds)(hx:z2g CX X σ0 E)(ha:PA X (e::es) t)
  (hst:starEach (e::es) X.env=(false,eval e X.env)::starEach es X.env:=by rfl) (hpl:(backTo pos (starEach es X.env)).any (·.1)=false:=by rfl)
  (ht:eval (.Call (.Attribute o m apos) (e::es) [] pos) X.env=(do
   let ov <- eval o X.env
   standAt apos.atName
   let (f,first) <- holding [ov] (getMethod ov m pl)
   callWith pos f first (backTo pos (starEach (e::es) X.env)) (backToKw pos (keywordEach [] X.env))):=by rfl):
  PE X (.Call (.Attribute o m apos) (e::es) [] pos) (λσ H Q=>σ=σ0/\zcK C m sp dvs E ta t σ H Q):=by
 rintro pins s σ H Q I ⟨rfl,h⟩;k_mem;obtain⟨x,H1,I1,rx,a,dx,fs,ex,ea,l,q⟩:=z9;subst ex;ks_is;refine z4W I1 ea c hm l ?_;tm_up;exact zb9 (us :=.ref a::us) (vs :=.ref a::vs) F hr hb hd hx I2 (.cons rfl r) q2
end
end L2
namespace Pu
open PySem PySem.Spec PyProof.Rows L2
def SmR.tryr (t:SmR)(xs:List Str)(j:Nat)(s:SmR):SmR:=⟨λρ W N Q X=>(∀(i:Nat) (d:D),ρ[i]? ≠ some (B.o d))/\t.run ρ W N Q (λx W'=>x∈xs/\s.run (ρ.set j (.s (.exc x))) W' (λρ' W''=>N (ρ'.set j .n) W'') Q X),λρ W N N' Q Q' X X' mn m mx q=>⟨q.1,t.mono ρ W _ _ Q Q' _ _ mn m (λx W' q=>⟨q.1,s.mono _ _ _ _ Q Q' X X' (λ_ _ q=>mn _ _ q) m mx q.2⟩) q.2⟩⟩
abbrev QRA (X:Cx)(σ0:L2.St)(E:XK)(st:Stmt)(t:SmR):Prop:=QS X st (λD σ H=>σ=σ0/\tsr X.K X.mg E t D σ H)
abbrev QRsA (X:Cx)(σ0:L2.St)(E:XK)(st:List Stmt)(t:SmR):Prop:=QSs X st (λD σ H=>σ=σ0/\tsr X.K X.mg E t D σ H)
section
variable {X:Cx}{E:XK}{σ0:L2.St}{st:Stmt}{la lb body suite:List Stmt}{t u s:SmR}{c e o tg:Expr}{es:List Expr}{x:ExR}{xs:List ExR}{pos apos p5 p6:Pos}{i j:Nat}{cx n:Str}{C2:Addr}{b0:Stmt}
def zfr (h:QRA X σ0 E st t):QRsA X σ0 E [st] t:=z4M h
def zfs (h:QS X (.Assign [tg] e pos) (tAsg (λσ H Q=>σ=σ0/\txr X.K X.mg E x σ H Q) (z2y i))):QRA X σ0 E (.Assign [tg] e pos) (.set i x):=QS.imp h λD σ H ⟨hσ,H0,G0,G,ρ,W,A,N0,R0,X0,ab,hr,hn,hR,hx⟩=>
 ⟨hσ,H0,G0,G,ρ,W,A,_,X0,ab,hr,λd v W' A' G' H' q ab' g rd=>hn _ W' A' _ H' G' q (ab'.put rd) g,hx⟩
def AbR.anew {K:W.Frag}{mg:WmP}{H0 G0 G H:Hp}{ρ:Pu.Env}{σ:L2.St}{W:Wd}{A:Addr->List Addr}(ab:AbR K mg H0 G0 G ρ σ H W A)(no:∀(i:Nat) (d:D),ρ[i]? ≠ some (B.o d)):AbR K mg (minus H (Foot W A)) G G ρ σ H W A:=
 ⟨⟨ab.ab.len,z0V,Same.refl',ab.ab.g,λa o e =>.inl ⟨o,e⟩,ab.ab.sh,λi d e=>(no i d e).elim,ab.ab.ne⟩,ab.st,λa ha=>⟨z1r ha,(ab.no a ha).2⟩⟩
def AbR.then' {K:W.Frag}{mg:WmP}{H0 G0 G G' H H':Hp}{ρ ρ':Pu.Env}{σ σ':L2.St}{W W':Wd}{A A':Addr->List Addr}(ab:AbR K mg H0 G0 G ρ σ H W A)(ab':AbR K mg (minus H (Foot W A)) G G' ρ' σ' H' W' A'):AbR K mg H0 G0 G' ρ' σ' H' W' A':=by
 have g:=ab.xs ⟨ab'.ab.g0,ab'.ab.nw⟩;have low:Same H0 (minus H (Foot W A)):=λa o e=>by rw[z1B (λz=>by rw[(ab.no a z).1] at e;cases e)];exact ab.ab.s0 a o e
 have ab2:=ab'.ab.weak low;exact⟨⟨ab2.len,ab2.s0,g.1,ab2.g,g.2,ab2.sh,ab2.ow,ab2.ne⟩,ab'.st,λa ha=>⟨ab.zs (λb hb=>(ab'.no b hb).1) a ha,(ab'.no a ha).2⟩⟩
theorem AbR.del {K:W.Frag}{mg:WmP}{H0 G0 G H:Hp}{ρ:Pu.Env}{σ:L2.St}{W:Wd}{A:Addr->List Addr}(ab:AbR K mg H0 G0 G ρ σ H W A)(i:Nat):AbR K mg H0 G0 G (ρ.set i .n) (σ.set i none) H W A:=by
 refine⟨ab.ab.del i,ab.st,λa ha=>⟨(ab.no a ha).1,λz9 =>?_⟩⟩;obtain⟨j,d,e,s⟩:=z9
 mg_lt
 .subst hj;have hl:j < ρ.length:=by
   have:=(wg.mp e).1;kw_lk
  rw[wD hl] at e;cases e
 .rw[wj (vk hj)] at e s;exact(ab.no a ha).2 ⟨j,d,e,s⟩
def zhr {ys:List Str}(hst:X.stack=X.env::X.outer/\X.env.frame=some X.env.locals)(hN:X.N.Nodup)(hi:X.N[j]? = some n)(hk':X.env.scope.names.lookup n=some .local)(T:Exc X.K X.mg cx C2)(hgc:Gl X cx)(hdc:(cx == ("__debug__":Str))=false)(hm:XT X.mg ys λ_ C=>W.exmOne X.K (.ref C) (.ref C2)=some true)
  (hb:∀pins xe σ E',z2g (CXe X.prog X.w) (X.within pins xe) σ E'->QRsA (X.within pins xe) σ E' body t) (hs:∀ea,QRs (X.suite ea) E (b0::suite) s):QR X E (.Try body [.ExceptHandler (some (.Name cx p5)) (some n) (b0::suite) p6] [] [] pos) (.tryr t ys j s):=
 QS.imp (zfo (tb:=λD σ0 D' σ H=>σ=σ0/\tsr X.K X.mg (EH X C2 j (tsr X.K X.mg E s) D σ0) t D' σ H) hst hN hi hk' T hgc hdc hs λpins xe D σ pa=>hb pins xe σ _ pa) <| by
  rintro D σ H ⟨H0,G0,G,ρ,W,A,N0,R0,X0,ab,⟨no,hr⟩,hn,hR,hx⟩;refine⟨rfl,minus H (Foot W A),G,G,ρ,W,A,N0,R0,_,ab.anew no,hr,λρ' W' A' σ' H' G' q ab' g=>hn ρ' W' A' σ' H' G' q (ab.then' ab') g,λd v G' H' W' A' q g g2 s st n rd=>hR d v G' H' W' A' q (ab.xs g) g2 (ab.ys s) st (ab.zs n) rd,λx C H' W' A' G' q mC g g2 s1 st n =>?_⟩;refine⟨hm x C q.1 mC,C,rfl,λea H3 h0 h3 e3 =>?_⟩;have ab1:=ab.after g g2 s1 st n;have k1:Gr G' H' (upd G' ea (.ext (z3h ea C))):=Gr.new g2 h0;have k2:Same (upd G' ea (.ext (z3h ea C))) H3:=λa o z=>by
   by_cases ha:a=ea
   .subst ha;rw[z06] at z;rw[e3];exact z
   .rw[z02 ha] at z;exact h3 a o (g2 a o z)
  have ab2:=(ab1.grow k1 k2 h3).put (i:=j) (d :=.exc x) (v :=.ref ea) (by rw[RD];exact⟨ea,C,rfl,z06,mC⟩);exact⟨H0,G0,_,_,W',A',_,R0,X0,ab2,q.2,λρ' W2 A2 σ' H2 G2 y ab' l'=>hn _ W2 A2 _ H2 G2 y (ab'.del j) (z03 g.1 (z03 k1.1 l')),hR,hx⟩
end
def gFld (n f:Str)(d:D)(Q:DK):Prop:=∃(fs:List Str) (cs:List D) (k:Nat) (c:D),d = .ins n fs cs/\fs.Nodup/\fs[k]? = some f/\cs[k]? = some c/\Q c
def pFld (n f:Str):Fn:=fn1 (gFld n f) λd Q Q' m ⟨fs,cs,k,c,h1,h2,h3,h4,q⟩=>⟨fs,cs,k,c,h1,h2,h3,h4,m _ q⟩
def Ex.meth (n:Str)(fs:List Str)(F:Fn)(x:Ex)(es:List Ex):Ex:=⟨λρ Q X=>x.run ρ (λd=>∃cs,d = .ins n fs cs/\runs es ρ (λds=>F.run (d::ds) Q X) X) X,λρ Q Q' X X' m mx q=>x.mono ρ _ _ X X' (λd ⟨cs,h,q⟩=>⟨cs,h,z2m es ρ _ _ X X' (λds q=>F.mono _ Q Q' X X' m mx q) mx q⟩) mx q⟩
section
variable {X:Cx}{E:XK}{e o:Expr}{es:List Expr}{x:Ex}{xs:List Ex}{pos apos:Pos}{n f m:Str}{C fa:Addr}{fs ps:List Str}{CX:CXT}{k:Nat}{fd:FuncData}{F:Fn}{pl:Sem Bool}
def z2R (R:Rc X.K X.mg n C)(na:z2H X.K C f)(he:QX X E e x)(hb:attributeBase e f X.env (eval e X.env)=eval e X.env:=by rfl):QX X E (.Attribute e f pos) (.op (pFld n f) [x]):=QE.imp (zbw he hb) <| by
 k_in;refine⟨G,ρ,λd=>gFld n f d Q0,X0,hs,ab,hr,λd v G1 H1 q g1 g2 g3 rd =>?_,hx⟩;obtain⟨fs,cs,k,c,rfl,h2,h3,h4,q⟩:=q;rw[RD] at rd;obtain⟨p,C',dx,xs,rfl,r1,r2,r3⟩:=rd;rw[R.m] at r2
 cases r2
 obtain⟨w,e1,e2⟩:=r3.get h4;exact⟨p,C,dx,_,w,rfl,g2 _ _ r1,R.c,na,z8v h2 h3 e1,hk c w G1 H1 q g1 g2 g3 e2⟩
def zcZ (R:Rc X.K X.mg n C)(hm:Meth X.K C m fa)(hn:m ∉ fs)(ho:QX X E o x)(Fk:FnOk X.prog X.w X.K X.mg X.base CX k fa fd ps (spP X.K X.mg F))(hr:Room k X.A)(hb:z34 X.K fd ps [])(hx:z1j CX X E)
  (ht:eval (.Call (.Attribute o m apos) [] [] pos) X.env=(do
   let ov <- eval o X.env
   standAt apos.atName
   let (f,first) <- holding [ov] (getMethod ov m pl)
   callWith pos f first (backTo pos (starEach [] X.env)) (backToKw pos (keywordEach [] X.env))):=by rfl):QX X E (.Call (.Attribute o m apos) [] [] pos) (.meth n fs F x []):=
 QE.imp ⟨z9x (pl:=pl) ho.p R.c hm Fk hr hb .nil hx ht⟩ <| by
  k_in;w_up;obtain⟨cs,rfl,q⟩:=q;have rd0:=rd;rw[RD] at rd;obtain⟨p,C',dx,ys,rfl,r1,r2,r3⟩:=rd;rw[R.m] at r2
  cases r2
  refine⟨p,dx,_,rfl,g2 _ _ r1,z46 hn,?_⟩;exact⟨G1,_,Q0,X0,g2,RDs.cons rd0 RDs.nil,q,hk.same g1 g3,hx.same g3⟩
end
def isBv (m:Bool)(v:Value):Bool:=match v with
 | .bool k=>k == m
 | _=>false
theorem z8w:∀{bs:List Bool}{us:List Value},Vals (bs.map V.bl) us->us=bs.map Value.bool
 | [],_,h=>by cases h;rfl
 | b::bs,_,h=>by
  rw[wA] at h
  cases h with
  | cons h1 h2=>
   rw[z8w h2,wA,show _=Value.bool b from h1]
section
variable {X:Cx}
def zfg (K:W.Frag):V->List V->Hp->VK->Prop:=λx xs H Q=>∃(a:Addr) (bs:List Bool) (m:Bool),x = .ref a/\xs=[.bl m]/\SqL K H a (bs.map V.bl)/\Q (.int (bs.countP (· == m))) H
def zff (K:W.Frag):V->List V->Hp->VK->Prop:=λx xs H Q=>∃(a:Addr) (bs:List Bool) (m:Bool) (i:Nat),x = .ref a/\xs=[.bl m]/\SqL K H a (bs.map V.bl)/\bs[i]? = some m/\(∀j,j<i->bs[j]? ≠ some m)/\i<1000/\Q (.int (i:Int)) H
def eqb {A:Around}{s:Shared}{m:Bool}{bs:List Bool}:∀(y:Value),y∈(bs.map Value.bool).toArray->SeqAt.EqAt A s y (.bool m) (isBv m y):=λy hy=>by
 obtain⟨b,_,rfl⟩:∃b∈bs,Value.bool b=y:=by simpa using hy
 exact SeqAt.EqAt.bool_bool b m
def z6m:MtR X "list.count" (zfg X.K):=by
 rintro pins s σ H x xs v us Q I rx rs ⟨a,bs,m,e1,e2,hL,q⟩;subst e1;subst e2
 cases rx
 obtain⟨u,rfl,tu⟩:=rs.one
 cases (show u=Value.bool m from tu)
 obtain⟨its,rr,pl,_⟩:=I.list hL;obtain rfl:=z8w rr;obtain⟨⟨cls,dd,data,sl⟩,ho,hc,n,hda⟩:=id pl.isList;simp only at hc hda;subst hc hda;refine call_meets PySem.F.slot_list_count ⟨_,ho,rfl⟩ PySem.F.entry_list_count (PySem.F.args_list_count_2 _ _) (SeqAt.list_countAt a (bs.map Value.bool).toArray n dd sl (.bool m) (isBv m)) ⟨ho,eqb,?_⟩;refine⟨.int (bs.countP (· == m)),H,I.tok _,⟨s.toks,?_⟩,q⟩;have:List.countP (isBv m) (bs.map Value.bool).toArray.toList=bs.countP (· == m):=by
  show List.countP (isBv m) (bs.map Value.bool)=_;rw[List.countP_map]
  rfl
 rw[this]
def z6l:MtR X "list.index" (zff X.K):=by
 rintro pins s σ H x xs v us Q I rx rs ⟨a,bs,m,i,e1,e2,hL,hi,hno,hz,q⟩;subst e1;subst e2
 cases rx
 obtain⟨u,rfl,tu⟩:=rs.one
 cases (show u=Value.bool m from tu)
 obtain⟨its,rr,pl,_⟩:=I.list hL;obtain rfl:=z8w rr;obtain⟨⟨cls,dd,data,sl⟩,ho,hc,n,hda⟩:=id pl.isList;simp only at hc hda;subst hc hda;have il:i<bs.length:=(wg.mp hi).1;have val:∀(j:Nat) (hj:j<(bs.map Value.bool).toArray.size) (k:Bool),bs[j]? = some k->isBv m (bs.map Value.bool).toArray[j]=(k == m):=λj hj k hk=>by
  have hj':j<bs.length:=by simpa using hj
  rw[wJ hj'] at hk
  cases hk
  simp[isBv]
 have hj:i<(bs.map Value.bool).toArray.size:=by simpa using il
 refine call_meets PySem.F.slot_list_index ⟨_,ho,rfl⟩ PySem.F.entry_list_index (PySem.F.args_list_index_2 _ _) (SeqAt.list_indexAt a (bs.map Value.bool).toArray n dd sl (.bool m) (isBv m) i hj (by omega) ((val i hj m hi).trans (by simp)) λj hj' hji =>?_) ⟨ho,eqb,?_⟩
 .have jl:j<bs.length:=by omega
  rw[val j hj' _ (wJ jl)];have:=hno j hji;rw[wJ jl] at this
  cases z:bs[j] == m with
  | false=>rfl
  | true=>exact(this (by rw[eq_of_beq z])).elim
 .exact⟨.int i,H,I.tok _,⟨_,rfl⟩,q⟩
end
def Ex.lm (F:Fn)(x y:Ex):Ex:=⟨λρ Q X=>x.run ρ (λd=>isLs d λl=>y.run ρ (λe=>F.run [.lst l,e] Q X) X) X,λρ Q Q' X X' m mx q=>x.mono ρ _ _ X X' (λd q=>zc2 (λl q=>y.mono ρ _ _ X X' (λe q=>F.mono _ Q Q' X X' m mx q) mx q) q) mx q⟩
def zcc (a b:D)(Q:DK):Prop:=∃(bs:List Bool) (m:Bool),a = .lst (bs.map .bl)/\b = .bl m/\Q (.int (bs.countP (· == m)))
def zbI:Fn:=fn2 zcc λa b Q Q' m ⟨bs,k,h1,h2,q⟩=>⟨bs,k,h1,h2,m _ q⟩
def zca (a b:D)(Q:DK):Prop:=∃(bs:List Bool) (m:Bool) (i:Nat),a = .lst (bs.map .bl)/\b = .bl m/\bs[i]? = some m/\(∀j,j<i->bs[j]? ≠ some m)/\i<1000/\Q (.int (i:Int))
def zbH:Fn:=fn2 zca λa b Q Q' m ⟨bs,k,i,h1,h2,h3,h4,h5,q⟩=>⟨bs,k,i,h1,h2,h3,h4,h5,m _ q⟩
def Ex.chain (F F':Fn)(a b c:Ex):Ex:=⟨λρ Q X=>a.run ρ (λx=>b.run ρ (λy=>F.run [x,y] (λd=>tst d (c.run ρ (λz=>F'.run [y,z] Q X) X) (Q (.bl false))) X) X) X,λρ Q Q' X X' m mx q=>a.mono ρ _ _ X X' (λx q=>b.mono ρ _ _ X X' (λy q=>F.mono _ _ _ X X' (λd q=>z2z (λq=>c.mono ρ _ _ X X' (λz q=>F'.mono _ Q Q' X X' m mx q) mx q) (m _) q) mx q) mx q) mx q⟩
section
variable {X:Cx}{E:XK}{a b c o e:Expr}{x y z:Ex}{pos apos cpos:Pos}
theorem zbb {K:W.Frag}{mg:WmP}{G:Hp}:∀{bs:List Bool}{vs:List V},RDs K mg G (bs.map D.bl) vs->vs=bs.map V.bl
 | [],_,h=>by rw[vq,RDs] at h;exact h
 | _::bs,_,h=>by
  rw[wA,RDs] at h;obtain⟨v,r,rfl,h1,h2⟩:=h;rw[RD] at h1;rw[h1,zbb h2]
  rfl
def zbk (ho:QX X E o x)(ha:QXA X E [e] [y])(hbase:attributeBase o "count" X.env (eval o X.env)=eval o X.env:=by rfl)
  (hfew:((backTo cpos (starEach [e] X.env)).all (λx => !x.1) && (backToKw cpos (keywordEach [] X.env)).all (λx=>x.1.isSome)
   && decide ([e].length+([]:List Keyword).length+(if ([]:List Keyword).isEmpty then 0 else 1)<30))=true:=by rfl)
  (hline:(apos.endLine == cpos.line)=true:=by rfl) (hs:starEach [e] X.env=(false,eval e X.env)::starEach [] X.env:=by rfl) (hplain:(backTo cpos (starEach [] X.env)).any (·.1)=false:=by rfl):
  QX X E (.Call (.Attribute o "count" apos) [e] [] cpos) (.lm zbI x y):=
 QE.imp (zdb vL PySem.F.slot_list_count PySem.F.type_list_count z6m ho ha hbase hfew hline hs hplain) <| by
  k_in;w_up
  cases d with
  | lst l=>
   obtain⟨p,xs,rfl,h1,h2⟩:=z1K rd;refine⟨.inl ⟨rfl,xs,z1d g2 h1⟩,?_⟩;have q':runs [y] ρ (λds=>∃w,ds=[w]/\zcc (.lst l) w Q0) X0:=y.mono ρ _ _ X0 X0 (λw q=>⟨w,rfl,q⟩) (λ_ z=>z) q;refine⟨G1,ρ,_,X0,g2,ab.same g1.1,q',λds vs G2 H2 q2 k1 k2 k3 rds =>?_,hx.same g3⟩;obtain⟨w,rfl,bs,m,e1,rfl,q3⟩:=q2;obtain⟨u,rfl,ru⟩:=rds1 rds;rw[RD] at ru
   injection e1 with e1
   subst e1;rw[zbb h2] at h1;exact⟨p,bs,m,rfl,by rw[ru],z1d k3 (z1d g2 h1),hk (.int _) _ G2 H2 q3 (g1.trans g3 k1) k2 (z03 g3 k3) (by rw[RD])⟩
  | _=>exact q.elim
def zbj (ho:QX X E o x)(ha:QXA X E [e] [y])(hbase:attributeBase o "index" X.env (eval o X.env)=eval o X.env:=by rfl)
  (hfew:((backTo cpos (starEach [e] X.env)).all (λx => !x.1) && (backToKw cpos (keywordEach [] X.env)).all (λx=>x.1.isSome)
   && decide ([e].length+([]:List Keyword).length+(if ([]:List Keyword).isEmpty then 0 else 1)<30))=true:=by rfl)
  (hline:(apos.endLine == cpos.line)=true:=by rfl) (hs:starEach [e] X.env=(false,eval e X.env)::starEach [] X.env:=by rfl) (hplain:(backTo cpos (starEach [] X.env)).any (·.1)=false:=by rfl):
  QX X E (.Call (.Attribute o "index" apos) [e] [] cpos) (.lm zbH x y):=
 QE.imp (zdb vL PySem.F.slot_list_index PySem.F.type_list_index z6l ho ha hbase hfew hline hs hplain) <| by
  k_in;w_up
  cases d with
  | lst l=>
   obtain⟨p,xs,rfl,h1,h2⟩:=z1K rd;refine⟨.inl ⟨rfl,xs,z1d g2 h1⟩,?_⟩;have q':runs [y] ρ (λds=>∃w,ds=[w]/\zca (.lst l) w Q0) X0:=y.mono ρ _ _ X0 X0 (λw q=>⟨w,rfl,q⟩) (λ_ z=>z) q;refine⟨G1,ρ,_,X0,g2,ab.same g1.1,q',λds vs G2 H2 q2 k1 k2 k3 rds =>?_,hx.same g3⟩;obtain⟨w,rfl,bs,m,i,e1,rfl,e3,e4,e5,q3⟩:=q2;obtain⟨u,rfl,ru⟩:=rds1 rds;rw[RD] at ru
   injection e1 with e1
   subst e1;rw[zbb h2] at h1;exact⟨p,bs,m,i,rfl,by rw[ru],z1d k3 (z1d g2 h1),e3,e4,e5,hk (.int _) _ G2 H2 q3 (g1.trans g3 k1) k2 (z03 g3 k3) (by rw[RD])⟩
  | _=>exact q.elim
def z9i {F F':Fn}{r r':R2}(lk:Lk2 X.K X.mg F r)(lk':Lk2 X.K X.mg F' r'){σ:L2.St}{H:Hp}{Q:VK}(h:tx X.K X.mg E (.chain F F' x y z) σ H Q):z7G r r' (tx X.K X.mg E x) (tx X.K X.mg E y) (tx X.K X.mg E z) σ H Q:=by
 k_all;w_up;refine⟨G1,ρ,_,X0,g2,ab.same g1.1,q,λd' v' G2 H2 q2 k1 k2 k3 rd' =>?_,hx.same g3⟩;refine lk G2 H2 d d' v v' _ X0 _ k2 (rd.same k1.1) rd' q2 λb u G3 H3 q3 l1 l2 l3 rb =>?_;obtain⟨k,rfl,q4,q5⟩:=z51 q3;rw[RD] at rb;refine⟨k,rb,?_⟩
 cases k with
 | true=>
  refine iteT ⟨G3,ρ,_,X0,l2,(ab.same g1.1).same (z03 k1.1 l1.1),q4 rfl,λd3 v3 G4 H4 q6 m1 m2 m3 rd3 =>?_,hx.same (z03 g3 (z03 k3 l3))⟩;exact lk' G4 H4 d' d3 v' v3 Q0 X0 Q m2 (rd'.same (z03 l1.1 m1.1)) rd3 q6 (hk.same ((g1.trans g3 k1).trans (z03 g3 k3) (l1.trans l3 m1)) (z03 g3 (z03 k3 (z03 l3 m3))))
 | false=>exact iteF (hk (.bl false) (.bl false) G3 H3 (q5 rfl) ((g1.trans g3 k1).trans (z03 g3 k3) l1) l2 (z03 g3 (z03 k3 l3)) (by rw[RD]))
def z9s {op op':CmpOp}{F F':Fn}{r r':R2}(ho:OpR X (compareOp op) r)(ho':OpR X (compareOp op') r')(lk:Lk2 X.K X.mg F r)(lk':Lk2 X.K X.mg F' r')(ha:QX X E a x)(hb:QX X E b y)(hc:QX X E c z)(hm:lastMarks [op,op'] [b,c]=false:=by with_unfolding_all rfl):QX X E (.Compare a [op,op'] [b,c] pos) (.chain F F' x y z):=QE.imp (zda ho ho' ha hb hc hm) λ_ _ _ h=>z9i lk lk' h
def zbl {op op':CmpOp}{F F':Fn}{r r':R2}(ho:OpR X (compareOp op) r)(ho':OpR X (compareOp op') r')(lk:Lk2 X.K X.mg F r)(lk':Lk2 X.K X.mg F' r')(ha:QX X E a x)(hb:QX X E b y)(hc:QX X E c z)(hm:lastMarks [op,op'] [b,c]=false:=by with_unfolding_all rfl):QXT X E (.Compare a [op,op'] [b,c] pos) (.chain F F' x y z):=QT.imp (zd1 ho ho' ha hb hc hm) λ_ _ _ h=>z8y (λ_ h=>z9i lk lk' h) h
end
def Std (K:W.Frag)(n:Str)(st:Stmt)(f:Addr):Prop:=∃(oc:Value) (od:Option Addr) (sl:Array (Option Value)) (kV dc pm:Value) (an:Option Addr) (cd ct:Value),
 W.nsIn K mainGlobals n=some (some (.ref f))/\K.lookup f=some ⟨oc,od,.func (W.fnOf n n (z1G st) (z0v st) (z01 st) .none kV dc pm an cd ct),sl⟩/\W.codeIn K cd n=true/\W.keepIn K (.ref f)=true
def Std.mk {K:W.Frag}{n:Str}{st:Stmt}{f:Addr}{oc:Value}{od:Option Addr}{sl:Array (Option Value)}{kV dc pm:Value}{an:Option Addr}{cd ct:Value}(a:W.nsIn K mainGlobals n=some (some (.ref f)))(l:K.lookup f=some ⟨oc,od,.func (W.fnOf n n (z1G st) (z0v st) (z01 st) .none kV dc pm an cd ct),sl⟩)(c:W.codeIn K cd n=true)(k:W.keepIn K (.ref f)=true):Std K n st f:=⟨oc,od,sl,kV,dc,pm,an,cd,ct,a,l,c,k⟩
section
variable {P:Program}{w:World}{K:W.Frag}{mg:WmP}{h base:Heap}{CX:CXT}{k:Nat}{n:Str}{st:Stmt}{f fa:Addr}{ps:List Str}{sp:Sp}
def zj5 (X:K.In h)(G:h.Ns mainGlobals mg)(d:Std K n st f)
  (hb:∀(kV dc pm:Value) (an:Option Addr) (cd ct:Value) (us:List Value),us.length=ps.length->bindArgs (W.fnOf n n (z1G st) (z0v st) (z01 st) .none kV dc pm an cd ct) ⟨us,[]⟩=pure (ps.zip us))
  (ok:∀fd,Fun K n n st f fd->FnOk P w K mg base CX k f fd ps sp):Cal P w K mg base CX k n ps sp:=by
 obtain⟨oc,od,sl,kV,dc,pm,an,cd,ct,a,l,c,kk⟩:=d;have F:=z8e (st:=st) l c kk;exact⟨_,_,ok _ F,vv X G a,kk,F.binds (ps:=ps) hb⟩
def zgy {x:Str}(X:K.In h)(G:h.Ns mainGlobals mg)(d:Std K n st f)(hfa:mg n=some (.ref fa))
  (hb:∀(kV dc pm:Value) (an:Option Addr) (cd ct:Value) (s:Shared) (v:Value),BindsTo s (W.fnOf n n (z1G st) (z0v st) (z01 st) .none kV dc pm an cd ct) ⟨[v],[]⟩ [(x,v)])
  (ok:∀base:Heap,K.In base->base.Ns mainGlobals mg->∀fd,Fun K n n st fa fd->FnOk P w K mg base CX k fa fd [x] sp):
  ∃fd:FuncData,(∀(s:Shared) (v:Value),BindsTo s fd ⟨[v],[]⟩ [(x,v)])/\∀base:Heap,K.In base->base.Ns mainGlobals mg->FnOk P w K mg base CX k fa fd [x] sp:=by
 obtain⟨oc,od,sl,kV,dc,pm,an,cd,ct,a,l,c,kk⟩:=d
 cases hfa.symm.trans (vv X G a)
 exact⟨_,λs v=>hb kV dc pm an cd ct s v,λbase kb nb=>ok base kb nb _ (z8e (st:=st) l c kk)⟩
end
def Sm.never:Sm:=⟨λ_ _ _ _=>False,λ_ _ _ _ _ _ _ _ _ _ q=>q⟩
def z9r {X:Cx}{E:XK}{st:Stmt}:QZ X E st .never:=QS.imp zd5 <| by rintro _ _ _ ⟨_,_,_,_,_,_,_,_,hr,_⟩;exact hr
def hu1 {n:Nat}(h:n+64<cLine):n+1<cLine:=by omega
def gInS (a b:D)(Q:DK):Prop:=∃i j,a = .str i/\b = .str j/\Q (.bl (!(Builtin.Str.occurrences j i 0 j.length 1).isEmpty))
def pInS:Fn:=fn2 gInS λa b Q Q' m ⟨i,j,h1,h2,q⟩=>⟨i,j,h1,h2,m _ q⟩
def zie {X:Cx}:OpR X (compareOp .In) (r2 X.K X.mg pInS):=zbK.imp <| by
 w_left;obtain⟨i,j,rfl,rfl,q⟩:=(show gInS d1 d2 Q0 from hr)
 rw[RD] at r1 r2;exact⟨i,j,r1,r2,hk.now g q (by rw[RD])⟩
def ExR.vs (x:Ex):ExR:=⟨λρ W Q X=>x.run (vis ρ) (λd=>Q d W) (λs=>X s W),λρ W Q Q' X X' m mx q=>x.mono _ _ _ _ _ (λd q=>m _ _ q) (λs q=>mx _ _ q) q⟩
def StdM (K:W.Frag)(C:Addr)(n qn:Str)(st:Stmt)(f:Addr):Prop:=∃(oc:Value) (od:Option Addr) (sl:Array (Option Value)) (kV dc pm:Value) (an:Option Addr) (cd ct:Value),
 W.findIn K (.ref C) n=some (some (.ref f))/\W.isFn K (.ref f)=true/\K.lookup f=some ⟨oc,od,.func (W.fnOf n qn (z1G st) (z0v st) (z01 st) .none kV dc pm an cd ct),sl⟩/\W.codeIn K cd qn=true/\W.keepIn K (.ref f)=true
def StdM.mk {K:W.Frag}{C:Addr}{n qn:Str}{st:Stmt}{f:Addr}{oc:Value}{od:Option Addr}{sl:Array (Option Value)}{kV dc pm:Value}{an:Option Addr}{cd ct:Value}(a:W.findIn K (.ref C) n=some (some (.ref f)))(i:W.isFn K (.ref f)=true)(l:K.lookup f=some ⟨oc,od,.func (W.fnOf n qn (z1G st) (z0v st) (z01 st) .none kV dc pm an cd ct),sl⟩)(c:W.codeIn K cd qn=true)(k:W.keepIn K (.ref f)=true):StdM K C n qn st f:=⟨oc,od,sl,kV,dc,pm,an,cd,ct,a,i,l,c,k⟩
structure Cam (P:Program)(w:World)(K:W.Frag)(mg:WmP)(base:Heap)(CX:CXT)(k:Nat)(C:Addr)(m:Str)(ps:List Str)(sp:Sp):Prop where
 ex:∃f fd,Meth K C m f/\FnOk P w K mg base CX k f fd ps sp/\z34 K fd ps []
structure Cai (P:Program)(w:World)(K:W.Frag)(mg:WmP)(base:Heap)(CX:CXT)(k:Nat)(C:Addr)(ps:List Str)(sp:Sp):Prop where
 ex:∃f fd,Mk K C f/\FnOk P w K mg base CX k f fd ps sp/\z34 K fd ps []
section
variable {P:Program}{w:World}{K:W.Frag}{mg:WmP}{base:Heap}{CX:CXT}{k:Nat}{n qn:Str}{st:Stmt}{f C:Addr}{ps:List Str}{sp:Sp}
def zj4 (d:StdM K C n qn st f)
  (hb:∀(kV dc pm:Value) (an:Option Addr) (cd ct:Value) (us:List Value),us.length=ps.length->bindArgs (W.fnOf n qn (z1G st) (z0v st) (z01 st) .none kV dc pm an cd ct) ⟨us,[]⟩=pure (ps.zip us))
  (ok:∀fd,Fun K n qn st f fd->FnOk P w K mg base CX k f fd ps sp):Cam P w K mg base CX k C n ps sp:=by
 obtain⟨oc,od,sl,kV,dc,pm,an,cd,ct,a,i,l,c,kk⟩:=d;have F:=z8e (st:=st) l c kk;exact⟨_,_,⟨a,i,kk⟩,ok _ F,F.binds (ps:=ps) hb⟩
def zj6 (d:StdM K C "__init__" qn st f)(mk:W.makesIn K C=true)(kc:W.keepIn K (.ref C)=true)
  (hb:∀(kV dc pm:Value) (an:Option Addr) (cd ct:Value) (us:List Value),us.length=ps.length->bindArgs (W.fnOf "__init__" qn (z1G st) (z0v st) (z01 st) .none kV dc pm an cd ct) ⟨us,[]⟩=pure (ps.zip us))
  (ok:∀fd,Fun K "__init__" qn st f fd->FnOk P w K mg base CX k f fd ps sp):Cai P w K mg base CX k C ps sp:=by
 obtain⟨oc,od,sl,kV,dc,pm,an,cd,ct,a,i,l,c,kk⟩:=d;have F:=z8e (st:=st) l c kk;exact⟨_,_,⟨mk,a,i,kc⟩,ok _ F,F.binds (ps:=ps) hb⟩
end
section
variable {X:Cx}{E:XK}{e o tg:Expr}{es:List Expr}{x:Ex}{xs:List Ex}{ys:List ExR}{pos apos p:Pos}{n m c:Str}{C:Addr}{fs ps:List Str}{CX:CXT}{k i:Nat}{pl:Sem Bool}{σ0:L2.St}{st:Stmt}{t:Sm}{cs:List D}
def z3H (h:QX X E e x):QXR X E e (.vs x):=QE.imp h λσ H Q ⟨H0,G0,G,ρ,W,A,Q0,X0,ab,hr,hk,hx⟩=>
 ⟨G,vis ρ,_,_,ab.ab.g,ab.ab.vis,hr,λd v G1 H1 q g1 g2 g3 rd=>hk d v W A G1 H1 q (ab.grow g1 g2 g3) g1.1 rd,hx.at_ ab⟩
def zcY (h:QZ X E0 st t):QZ X E st (.calm t):=QS.imp h λDe σ H ⟨H0,G0,G,ρ,N0,R0,X0,ab,hr,hn,hR,hx⟩=>⟨H0,G0,G,ρ,N0,R0,λ_=>False,ab,hr,hn,hR,Kx.no⟩
def zfp {x:Str}{te:TE}{p1:Pos}(hN:X.N.Nodup)(hi:X.N[i]? = some x)(hx:Loc X.env.scope x)(he:QE X e te)(hs:swapsWith e (some (.Name x p1)) pos.line X.env=pure false:=by rfl)(hf:X.fn x=true\/X.env.scope.names.lookup x=some .local:=by first | exact .inl rfl | exact .inr rfl):QS X (.Assign [.Name x p1] e pos) (tAsg te (z2y i)):=zbm hN hi hx he hs hf
def z21 {F:Fn}(R:Rc X.K X.mg n C)(M:Cam X.prog X.w X.K X.mg X.base CX k C m ps (spP X.K X.mg F))(hn:m ∉ fs)(ho:QX X E o x)(hr:Room k X.A)(hx:z1j CX X E)
  (ht:eval (.Call (.Attribute o m apos) [] [] pos) X.env=(do
   let ov <- eval o X.env
   standAt apos.atName
   let (f,first) <- holding [ov] (getMethod ov m pl)
   callWith pos f first (backTo pos (starEach [] X.env)) (backToKw pos (keywordEach [] X.env))):=by rfl):QX X E (.Call (.Attribute o m apos) [] [] pos) (.meth n fs F x []):=by
 obtain⟨f,fd,h1,h2,h3⟩:=M.ex;exact zcZ (pl:=pl) R h1 hn ho h2 hr h3 hx ht
def z2c {F:FnR}(R:Rc X.K X.mg n C)(M:Cam X.prog X.w X.K X.mg X.base CX k C m ps (spR X.K X.mg F))(hn:m ∉ fs)(ho:QE X o (tVar i))(hr:Room k X.A)(hx:z1j CX X E)(ha:QAR X E (e::es) ys)
  (hst:starEach (e::es) X.env=(false,eval e X.env)::starEach es X.env:=by rfl) (hpl:(backTo pos (starEach es X.env)).any (·.1)=false:=by rfl)
  (ht:eval (.Call (.Attribute o m apos) (e::es) [] pos) X.env=(do
   let ov <- eval o X.env
   standAt apos.atName
   let (f,first) <- holding [ov] (getMethod ov m pl)
   callWith pos f first (backTo pos (starEach (e::es) X.env)) (backToKw pos (keywordEach [] X.env))):=by rfl):QXR X E (.Call (.Attribute o m apos) (e::es) [] pos) (.meth n fs F i ys):=by
 obtain⟨f,fd,h1,h2,h3⟩:=M.ex;exact zft (pl:=pl) ho R.c R.m h1 hn h2 hr h3 hx ha hst hpl ht
def zbq (hn0:n≠"")(R:Rc X.K X.mg n C)(M:Cai X.prog X.w X.K X.mg X.base CX k C ps (zaT X.K X.mg C fs cs))(hr:Room (k+1) X.A)(hg:Gl X n)(hdb:(n == ("__debug__":Str))=false)(hx:z1j CX X E)
  (hs:∀{te:TE},QE X (.Call (.Name n p) [] [] apos) te->QS X (.Assign [tg] (.Call (.Name n p) [] [] apos) pos) (tAsg te (z2y i))) (pc:∀c∈cs,Pc c):QR X E (.Assign [tg] (.Call (.Name n p) [] [] apos) pos) (.new i (.ins n fs cs)):=by
 obtain⟨f,fd,h1,h2,h3⟩:=M.ex;exact zht (sp:=zaT X.K X.mg C fs cs) hn0 R.m pc (hs ⟨zdj h1 h2 hr hg R.m h3 .nil hx hdb⟩)
end
def z08 {H:Hp}{a b:Addr}{o:HO}(h:upd H a o b=none):b≠a/\H b=none:=by
 by_cases e:b=a
 .subst e;rw[z06] at h;cases h
 .rw[z02 e] at h;exact⟨e,h⟩
end Pu
namespace L2
open PySem PySem.Spec PyProof.Rows
structure z5n (k:Nat)(A:Around):Prop where
 dp:A.depth+3*k+5<recursionLimit
 un:A.units+16*k+200<cLine
def Room.suite {j k:Nat}{A:Around}{v:Option Value}(r:Room k A)(h:j<=k):z5n j (A.mark v):=⟨(r.mono h).dp,(r.mono h).un⟩
theorem z5n.units {k:Nat}{A:Around}(r:z5n k A):A.units+64<cLine:=by have:=r.un;lia
theorem z5n.deeper {k:Nat}{A:Around}(r:z5n (k+1) A)(env:Env):z5n k (A.deeper env):=
 ⟨by have:=r.dp;show A.depth+1+3*k+5<_;lia,by have:=r.un;show A.units+3+16*k+200<_;lia⟩
structure zay (P:Program)(w:World)(K:W.Frag)(mg:WmP)(base:Heap)(CX:CXT)(k:Nat)(f:Addr)(fd:FuncData)(ps:List Str)(sp:Sp):Prop where
 len:∀vs H Q E,sp vs H Q E->vs.length=ps.length
 run:∀(A:Around) (outer:List Env) (s:Shared) (H:Hp) (args:Args) (us:List Value) (vs:List V) (Q:VK) (E:XK),z5n k A->Env0 P w K mg base A outer s H->BindsTo s fd args (ps.zip us)->Vals vs us->sp vs H Q E->
  codeAny (model P w) A (.call (.ref f) args) (CR CX outer P w H s Q E) s
structure CalS (P:Program)(w:World)(K:W.Frag)(mg:WmP)(base:Heap)(CX:CXT)(k:Nat)(x:Str)(ps:List Str)(sp:Sp):Prop where
 ex:∃f fd,zay P w K mg base CX k f fd ps sp/\mg x=some (.ref f)/\W.keepIn K (.ref f)=true/\z34 K fd ps []
@[reducible] def Cx.wild (X:Cx)(A:Around):Cx:={ X with A:=A,calm:=false,xe:=λ_ _=>False }
section
variable {X:Cx}{CX:CXT}{k:Nat}{ps:List Str}{sp:Sp}{E:XK}{x:Str}{p pos:Pos}{e:Expr}{es:List Expr}{t:TA}
def zhT (C:CalS X.prog X.w X.K X.mg X.base CX k x ps sp)(hr:z5n k X.A)(hx:z1j CX X E)(ha:PA X (e::es) t)(hg:Gl X x)
  (hdb:(x == ("__debug__":Str))=false) (he:starEach (e::es) X.env=(false,eval e X.env)::starEach es X.env:=by rfl) (hpl:(backTo pos (starEach es X.env)).any (·.1)=false:=by rfl):
  PE X (.Call (.Name x p) (e::es) [] pos) (za1 sp [] E t):=by
 obtain⟨f,fd,F,hm,hk,hb⟩:=C.ex;z_go;refine vT (z31 I hg hm ?_ hdb);l_bnd;have r2:Vals (vs++[]) (us++[]):=r.append .nil;have hl:(us++[]).length=ps.length:=by rw[<- r2.length];exact F.len _ _ _ _ q
 refine wpAny_call (uX (F.run X.A X.stack s1 H1 ⟨us,[]⟩ (us++[]) (vs++[]) Q E hr I1.env0 (hb s1 us I1.kIn hl) r2 q) λr s' hq =>?_)
 cases r with
 | error e=>exact hx pins σ H1 s1 e s' I1 hq
 | ok fl=>
  cases fl with
  | ret u=>exact I1.after hq
  | next=>exact False.elim hq
  | brk=>exact False.elim hq
  | cont=>exact False.elim hq
end
section
variable {P:Program}{w:World}{K:W.Frag}{mg:WmP}{base:Heap}{k:Nat}{f:Addr}{qual:Str}{N ps:List Str}{sp:Sp}
def Fun.okS {x:Str}{st:Stmt}{fd:FuncData}(F:Fun K x qual st f fd)(S:z1U N ps (z01 st))(len:∀vs H Q E,sp vs H Q E->vs.length=ps.length)
  (hbody:∀(cdv:Value) (A B:Around) (outer:List Env) (s:Shared) (H:Hp) (vs:List V) (Q:VK) (E:XK),z5n k (A.deeper (envOfC qual (z01 st) s.heap.objs.size f cdv))->sp vs H Q E->
   ∃t,QSs ((cxOf (CXe P w) P w K mg base N qual (z01 st) f cdv B outer s H E).wild (A.deeper (envOfC qual (z01 st) s.heap.objs.size f cdv))) (z0v st) t/\t { nx:=λ_ H'=>Q .non H',rt:=Q } (z3G N vs) H):zay P w K mg base (CXe P w) (k+1) f fd ps sp:=by
 kcf_m;refine⟨len,λA outer s H args us vs Q E hr e0 hb r hsp =>?_⟩;have hl:=len _ _ _ _ hsp;have KX:K.In s.heap:=e0.mod.kin.keeps λb o e=>(e0.bs b o e).1;have lim:s.heap.NoLimit:=e0.mod.nolimit.keeps λb o e=>(e0.bs b o e).1;have hkind:∀y∈ps.zip us,(z01 st).names.lookup y.1=some .local\/((z01 st).names.lookup y.1=some .cell/\((cellsFrom (s.heap.objs.size+1) (z01 st).names []).lookup y.1).isSome=true):=by
  rintro⟨n,v⟩ hy
  rcases S.par n (List.of_mem_zip hy).1 with q | q
  .exact .inl q
  .exact .inr ⟨q,W.cellsFrom_some _ _ _ (.inl q)⟩
 refine codeAny_call_function (by have:=hr.dp;lia) (KX _ _ lk) rfl S.co S.gen rfl (W.codeRec_of KX hcd) (hb _ _ _ _ ?_);refine wpAny_newFunctionEnv_cells S.kind hkind λenv he s1 x =>?_;subst he;refine⟨lim.keeps x.toInCall.keep,codeAny_func ?_⟩;obtain⟨t,ht,hq⟩:=hbody cdv A { A with handled:=none } outer s H vs Q E (hr.deeper _) hsp;have I:Inv (cxOf (CXe P w) P w K mg base N qual (z01 st) f cdv { A with handled:=none } outer s H E) [] (z3G N vs) H s1:=z8d (A:={ A with handled:=none }) S rfl ⟨e0.frames,e0.mod,e0.bs,e0.bsz,e0.funs,e0.frf,e0.tbs,e0.hok,e0.bare⟩ hl r x;have o:=I.ok;have I2:Inv ((cxOf (CXe P w) P w K mg base N qual (z01 st) f cdv { A with handled:=none } outer s H E).wild (A.deeper (envOfC qual (z01 st) s.heap.objs.size f cdv))) [] (z3G N vs) H s1:=
  ⟨⟨o.mod,o.kind,o.glob,o.blt,o.above,o.inj,o.has,o.cab,(λz=>by cases z),Around.frames_deeper e0.frames,o.stk,o.exf,o.bs,o.bsz,o.noex,o.exfs,o.funs,o.frf,o.tbs⟩,I.os,I.bare,I.base,I.loc,I.cell,I.free,I.freeC,I.pin,I.hok,I.len⟩
 refine va (ht.p [] s1 (z3G N vs) H _ I2 hq) (λfl s' hs =>?_) λe s' hs=>hs.elim;have fin:∀{σ':St}{H':Hp}{v:V}{u:Value},Inv ((cxOf (CXe P w) P w K mg base N qual (z01 st) f cdv { A with handled:=none } outer s H E).wild (A.deeper (envOfC qual (z01 st) s.heap.objs.size f cdv))) [] σ' H' s'->RelV v u->Q v H'->CE outer P w H s Q u s':=
  λ{σ' H' v u} J rv q=>⟨v,H',J.os,J.bare,J.base,J.hok,rv,q⟩
 cases fl with
 | ret u=>
  obtain⟨v,σ',H',J,rv,q⟩:=hs;exact fin J rv q
 | next=>
  obtain⟨σ',H',J,q⟩:=hs;exact fin (v:=V.non) (u:=Value.none) J rfl q
 | brk=>
  obtain⟨_,_,_,q⟩:=hs;exact False.elim q
 | cont=>
  obtain⟨_,_,_,q⟩:=hs;exact False.elim q
end
end L2
namespace Pu
open PySem PySem.Spec PyProof.Rows L2
theorem z4p {f:Str}{v:V}:∀{fs:List (Str × V)},f ∉ fs.map (·.1)->putF f v fs=fs++[(f,v)]
 | [],_=>rfl
 | (g,x)::r,h=>by
  rw[wA,wf,not_or] at h;show (if g=f then (g,v)::r else (g,x)::putF f v r)=_;rw[if_neg (λe=>h.1 e.symm),z4p h.2]
  rfl
section
variable {X:Cx}{E:XK}{e:Expr}{es:List Expr}{xs:List Ex}{pos:Pos}{k:Nat}
def zhh {CX:CXT}{ps:List Str}{F:Fn}{f:Str}{pp:Pos}(C:CalS X.prog X.w X.K X.mg X.base CX k f ps (spP X.K X.mg F))(hr:z5n k X.A)(hx:z1j CX X E)(ha:QXA X E (e::es) xs)(hg:Gl X f)
  (hdb:(f == ("__debug__":Str))=false) (he:starEach (e::es) X.env=(false,eval e X.env)::starEach es X.env:=by rfl) (hpl:(backTo pos (starEach es X.env)).any (·.1)=false:=by rfl):QX X E (.Call (.Name f pp) (e::es) [] pos) (.op F xs):=
 QE.imp ⟨zhT C hr hx ha.p hg hdb he hpl⟩ <| by
  k_in;refine⟨G,ρ,_,X0,hs,ab,hr,λds vs G' H' q g1 g2 g3 rds =>?_,hx⟩;show spP X.K X.mg F (vs++[]) H' Q E;rw[wQ];exact⟨G',ds,Q0,X0,g2,rds,q,hk.same g1 g3,hx.same g3⟩
end
section
variable {P:Program}{w:World}{K:W.Frag}{mg:WmP}{h base:Heap}{k:Nat}{n:Str}{st:Stmt}{f:Addr}{N ps:List Str}{sp:Sp}
def fnS {x qual:Str}{fd:FuncData}{np nn:Nat}{b:Sm}(F:Fun K x qual st f fd)(S:z1U N ps (z01 st))(hp:ps.length=np)(hN:N.length=nn)
  (hb:∀(cdv:Value) (A B:Around) (outer:List PySem.Env) (s:Shared) (H:Hp) (E:XK),z5n k (A.deeper (envOfC qual (z01 st) s.heap.objs.size f cdv))->QZs ((cxOf (CXe P w) P w K mg base N qual (z01 st) f cdv B outer s H E).wild (A.deeper (envOfC qual (z01 st) s.heap.objs.size f cdv))) E0 (z0v st) b):
  zay P w K mg base (CXe P w) (k+1) f fd ps (spP K mg (Fn.mkN np nn b)):=by
 refine F.okS S (λvs H Q E ⟨G,ds,Q0,X0,hs,rds,⟨hl,hr⟩,hk,hx⟩=>by rw[rds.len,hl,hp]) λcdv A B outer s H vs Q E hroom ⟨G,ds,Q0,X0,hs,rds,⟨hl,hr⟩,hk,hx⟩=>⟨_,hb cdv A B outer s H E hroom,?_⟩
 refine⟨H,G,G,_,λ_=>Q0 .non,Q0,λ_=>False,z3z hs rds hl hN,hr,λρ' σ' H' G' q ab _ =>?_,hk,Kx.no⟩;kst_p
def zgo {CX:CXT}(X:K.In h)(G:h.Ns mainGlobals mg)(d:Std K n st f)
  (hb:∀(kV dc pm:Value) (an:Option Addr) (cd ct:Value) (us:List Value),us.length=ps.length->bindArgs (W.fnOf n n (z1G st) (z0v st) (z01 st) .none kV dc pm an cd ct) ⟨us,[]⟩=pure (ps.zip us))
  (ok:∀fd,Fun K n n st f fd->zay P w K mg base CX k f fd ps sp):CalS P w K mg base CX k n ps sp:=by
 obtain⟨oc,od,sl,kV,dc,pm,an,cd,ct,a,l,c,kk⟩:=d;have F:=z8e (st:=st) l c kk;exact⟨_,_,ok _ F,vv X G a,kk,F.binds (ps:=ps) hb⟩
end
theorem z8x {f:Str}{v:V}:∀{fs:List Str}{vs:List V}{k:Nat},fs.Nodup->fs[k]? = some f->vs[k]? = some v->valV ((fs.map Sum.inr).zip vs) (Sum.inr f:Key)=some v
 | _::_,_::_,0,_,h1,h2=>by
  simp at h1 h2;subst h1 h2;exact z47 rfl
 | g::gs,w::ws,k+1,nd,h1,h2=>by
  simp at h1 h2;rw[wA,wS,z48]
  .exact z8x (wO.mp nd).2 h1 h2
  .intro z
   cases z
   exact(wO.mp nd).1 (wH h1)
 | [],_,_,_,h,_=>by simp at h
 | _::_,[],_,_,_,h=>by simp at h
structure Fl (X:Cx)(n:Str)(fs:List Str)(i k:Nat)(o:Expr)(te:TE):Prop where
 q:QE X o te
 h:∀{H0 G0 G H:Hp}{ρ:Pu.Env}{σ:L2.St}{W:Wd}{A:Addr->List Addr}{p:Addr}{cs:List D}{c:D}{Q:VK},AbR X.K X.mg H0 G0 G ρ σ H W A->ρ[i]? = some (.s (.ptr p))->W p=some (.ins n fs cs)->cs[k]? = some c->(∀a,(A p)[k]? = some a->z2h X.K X.mg G H a c->Q (.ref a) H)->te σ H Q
def ExR.fpop (n:Str)(fs:List Str)(i k:Nat):ExR:=⟨λρ W Q X=>z7o n fs i k ρ W λp cs c=>∃l d,c = .lst (l++[d])/\Q d (upW W p (.ins n fs (cs.set k (.lst l)))),λρ W Q Q' X X' m mx q=>z1R (λp cs c ⟨l,d,h,q⟩=>⟨l,d,h,m _ _ q⟩) q⟩
def z7t (kvs:List (Key × D))(j:Key):List (Key × D):=kvs.filter λp=>decide (p.1≠j)
def ExR.fdpop (n:Str)(fs:List Str)(i k:Nat)(y:Ex):ExR:=⟨λρ W Q X=>z7o n fs i k ρ W λp cs c=>∃kvs,c=dk kvs/\y.run (shw W ρ) (λb=>∃j d,b=kD j/\valD kvs j=some d/\Q d (upW W p (.ins n fs (cs.set k (dk (z7t kvs j)))))) (λx=>X x W),λρ W Q Q' X X' m mx q=>z1R (λp cs c ⟨l,h,q⟩=>⟨l,h,y.mono _ _ _ _ _ (λb ⟨j,d,h1,h2,q⟩=>⟨j,d,h1,h2,m _ _ q⟩) (λ_ q=>mx _ _ q) q⟩) q⟩
theorem PK.drop {K:W.Frag}{mg:WmP}{G:Hp}{j:Key}:∀{kvs:List (Key × D)}{kw:List (Key × V)},PK K mg G kvs kw->PK K mg G (z7t kvs j) (z96 kw j)
 | [],[],_=>trivial
 | [],_::_,h=>h.elim
 | _::_,[],h=>h.elim
 | (k,d)::r,(k',v)::r',h=>by
  obtain⟨rfl,h1,h2⟩:=h;unfold z7t z96
  by_cases e:k=j
  .rw[List.filter_cons_of_neg (by simpa using e),List.filter_cons_of_neg (by simpa using e)];exact PK.drop h2
  .rw[List.filter_cons_of_pos (by simpa using e),List.filter_cons_of_pos (by simpa using e)];exact⟨rfl,h1,PK.drop h2⟩
section
variable {X:Cx}{E:XK}{e o y oo tg:Expr}{x z:Ex}{pos cpos apos fpos spos:Pos}{i k:Nat}{n f:Str}{fs:List Str}{C:Addr}{te:TE}
def Fl.attr (R:Rc X.K X.mg n C)(na:z2H X.K C f)(nd:fs.Nodup)(hf:fs[k]? = some f)(ho:QE X o (tVar i))(hb:attributeBase o f X.env (eval o X.env)=eval o X.env:=by rfl):Fl X n fs i k (.Attribute o f fpos) (tFld X.K (tVar i) f):=
 ⟨zbw ho hb,λ{H0 G0 G H ρ σ W A p cs c Q} ab e1 e2 e3 h=>by
  obtain⟨dx,a,fl,s1,h1,h2,h3,hw,fa⟩:=ab.fld e1 e2 R.m nd hf e3;exact⟨.ref p,s1,p,C,dx,fl,.ref a,rfl,h1,R.c,na,h2,h a h3 hw⟩⟩
def AbR.kfld {K:W.Frag}{mg:WmP}{H0 G0 G H:Hp}{ρ:Pu.Env}{σ:L2.St}{W:Wd}{A:Addr->List Addr}{p:Addr}{cs:List D}{c:D}(ab:AbR K mg H0 G0 G ρ σ H W A)(e1:ρ[i]? = some (.s (.ptr p)))(e2:W p=some (.ins "" fs cs))(e3:cs[k]? = some c):
  ∃a,σ[i]? = some (some (.ref p))/\fs.length=(A p).length/\H p=some (.dK ((fs.map Sum.inr).zip ((A p).map V.ref)))/\(A p)[k]? = some a/\z2h K mg G H a c:=by
 obtain⟨v,h1,h2⟩:=ab.ab.sh i _ e1;rw[RD] at h2;subst h2;obtain⟨r1,r3,r4⟩:=ab.st.at_ p _ e2
 rcases r1 with ⟨r0,_⟩ | ⟨_,_,hl,r1⟩
 .exact(r0 rfl).elim
 obtain⟨a,ha,hw⟩:=r3.get e3;exact⟨a,h1,hl,r1,ha,hw⟩
def Fl.key (hu:X.A.units+1<cLine)(nd:fs.Nodup)(hf:fs[k]? = some f)(ho:QE X o (tVar i))(hy:QE X y (tC (.str f)))(hs:NoSl y):Fl X "" fs i k (.Subscript o y spos) (zgJ (tVar i) (tC (.str f))):=
 ⟨⟨zbE hu ho.p hy.p hs⟩,λ{H0 G0 G H ρ σ W A p cs c Q} ab e1 e2 e3 h=>by
  obtain⟨a,s1,hl,h1,h3,hw⟩:=ab.kfld e1 e2 e3;refine⟨.ref p,s1,p,.ref a,rfl,?_,h a h3 hw⟩;have:=DGet.k (k:=Sum.inr f) h1
  rwa [z8x nd hf (by rw[wR,h3];rfl)] at this⟩
def z2Z (F:Fl X n fs i k o te)(ha:QXA X E [e] [x])
  (hs:swapsWith (.Call (.Attribute o "append" apos) [e] [] cpos) none pos.line X.env=pure false:=by rfl)
  (hbase:attributeBase o "append" X.env (eval o X.env)=eval o X.env:=by rfl)
  (hfew:((backTo cpos (starEach [e] X.env)).all (λx => !x.1) && (backToKw cpos (keywordEach [] X.env)).all (λx=>x.1.isSome)
   && decide ([e].length+([]:List Keyword).length+(if ([]:List Keyword).isEmpty then 0 else 1)<30))=true:=by rfl)
  (hline:(apos.endLine == cpos.line)=true:=by rfl) (hst:starEach [e] X.env=(false,eval e X.env)::starEach [] X.env:=by rfl) (hplain:(backTo cpos (starEach [] X.env)).any (·.1)=false:=by rfl):
  QR X E (.Expr (.Call (.Attribute o "append" apos) [e] [] cpos) pos) (.fapp n fs i k x):=
 QS.imp (z6V (zdb vL PySem.F.slot_list_append PySem.F.type_list_append z3Q F.q ha hbase hfew hline hst hplain) hs) <| by
  l_fit;obtain⟨p,cs,c,e1,e2,e3,l,rfl,hr⟩:=hr;refine F.h ab e1 e2 e3 λa h3 hw =>?_;obtain⟨xs,w1,w2⟩:=hw;refine⟨.inl ⟨rfl,xs,SqL.of w1⟩,?_⟩;refine⟨plus G H (Hid ρ σ W A),shw W ρ,λds=>∃d,ds=[d]/\l.length<sizeLine/\Pr d/\N0 ρ (upW W p (.ins n fs (cs.set k (.lst (l++[d]))))),_,z1h ab.ab.g,ab.abe,x.mono _ _ _ _ _ (λd q=>⟨d,rfl,q⟩) (λ_ z=>z) hr,?_,hx.at_ ab⟩;rintro ds vs G1 H1 ⟨d,rfl,hsz,pr,hN⟩ g1 g2 g3 rds;tb_lt;refine⟨a,xs,v,rfl,rfl,g3 _ _ w1,by rw[w2.len];exact hsz,?_⟩;k_asm;have pc:=(ab.st.at_ p _ e2).2.2 _ (wH e3);refine hn ρ _ A σ _ _ hN (ab'.wr e2 h3 ⟨xs++[v],z06,(w2.same lm).app (RDs.cons (RD.strip (ab.mu g2 g3) d pr.1 pr.2 rd) RDs.nil)⟩ λb hb =>?_) lm
  rcases ve.mp hb with z | z
  .exact pc b z
  .rw[wZ.mp z];exact pr
def zhY {kvs:List (Key × D)}{j:Key}{d:D}(pc:∀c∈kvs.map (·.2),Pr c)(pr:Pr d):∀c∈(putD kvs j d).map (·.2),Pr c:=by
 intro c hc;unfold putD at hc
 split at hc
 .rw[w5] at hc;obtain⟨r,hr,rfl⟩:=wP.mp hc;show Pr (if r.1=j then (r.1,d) else r).2
  split
  .exact pr
  .exact pc _ (List.mem_map_of_mem hr)
 .rw[wU] at hc
  rcases ve.mp hc with z | z
  .exact pc _ z
  .simp at z;rw[z];exact pr
def z5L (F:Fl X n fs i k o te)(hbase:attributeBase o "pop" X.env (eval o X.env)=eval o X.env:=by rfl)(hline:(apos.endLine == cpos.line)=true:=by rfl):
  QXR X E (.Call (.Attribute o "pop" apos) [] [] cpos) (.fpop n fs i k):=
 QE.imp (zeo vL PySem.F.slot_list_pop PySem.F.type_list_pop ziw F.q hbase hline) <| by
  rintro σ H Q ⟨H0,G0,G,ρ,W,A,Q0,X0,ab,hr,hk,hx⟩;obtain⟨p,cs,c,e1,e2,e3,l,d,rfl,hr⟩:=hr;refine F.h ab e1 e2 e3 λa h3 hw =>?_;obtain⟨xs,w1,w2⟩:=hw;refine⟨.inl ⟨rfl,xs,SqL.of w1⟩,?_⟩;obtain⟨v,hv,rv⟩:=w2.get (i:=l.length) (d:=d) (by simp);have pc:=(ab.st.at_ p _ e2).2.2 _ (wH e3);have wl:=w2.last;rw[List.dropLast_concat] at wl;refine⟨a,xs,v,rfl,rfl,w1,?_,?_⟩
  .rw[w2.len.symm.symm,wz];exact hv
  .exact hk d v _ A G _ hr (ab.wr e2 h3 ⟨_,z06,wl⟩ λb hb=>pc b (ue _ hb)) Same.refl' rv
def zd7 (F:Fl X n fs i k o te)(he:QX X E e x)(m:M1 X o "pop" apos e cpos):QXR X E (.Call (.Attribute o "pop" apos) [e] [] cpos) (.fdpop n fs i k x):=
 QE.imp ⟨zdk F.q.p he.p m⟩ <| by
  rintro σ H Q ⟨H0,G0,G,ρ,W,A,Q0,X0,ab,hr,hk,hx⟩;obtain⟨p,cs,c,e1,e2,e3,kvs,rfl,hr⟩:=hr;refine F.h ab e1 e2 e3 λa h3 hw =>?_;obtain⟨kw,w1,w2⟩:=zex hw;refine⟨a,rfl,.inl ⟨kw,.inl w1⟩,?_⟩;refine⟨plus G H (Hid ρ σ W A),shw W ρ,_,_,z1h ab.ab.g,ab.abe,hr,λb u G1 H1 q g1 g2 g3 rb =>?_,hx.at_ ab⟩;k_asm;obtain⟨j,d,rfl,hv,hN⟩:=q;have pc:=(ab.st.at_ p _ e2).2.2 _ (wH e3)
  rcases w2.val (j:=j) with ⟨z,_⟩ | ⟨d',v,z1,z2,rv⟩
  .rw[z] at hv;cases hv
  .rw[z1] at hv;cases hv;refine⟨kw,j,v,g3 _ _ w1,zbc rb,z2,?_⟩;refine hk _ v _ A _ _ hN (ab'.wr e2 h3 (zeK z06 (w2.same lm).drop) ?_) lm (rv.same lm);have pc':∀c∈kvs.map (·.2),Pr c:=pc;show ∀c∈(z7t kvs j).map (·.2),Pr c;intro c hc;obtain⟨r,hr,rfl⟩:=wP.mp hc;exact pc' _ (List.mem_map_of_mem (vY.mp hr).1)
end
def SmR.retnew (c:D):SmR:=⟨λρ W _ Q _=>∀p,W p=none->Q (.ptr p) (upW W p c),λρ W N N' Q Q' X X' mn m mx q p h=>m _ _ (q p h)⟩
def SmR.fset (fs:List Str)(i k:Nat)(e:Ex):SmR:=⟨λρ W N _ X=>z7o "" fs i k ρ W λp cs c=>e.run (shw W ρ) (λd=>Pc d/\N ρ (upW W p (.ins "" fs (cs.set k d)))) (λx=>X x W),λρ W N N' Q Q' X X' mn m mx q=>z1R (λp cs c q=>e.mono _ _ _ _ _ (λd q=>⟨q.1,mn _ _ q.2⟩) (λ_ q=>mx _ _ q) q) q⟩
theorem z87 {a:Addr}:∀{l:List Addr}{k:Nat},l.Nodup->a ∉ l->(l.set k a).Nodup
 | [],_,_,_=>by simp
 | b::l,0,h,n=>by
  rw[List.set_cons_zero];exact wO.mpr ⟨λz=>n (we _ z),(wO.mp h).2⟩
 | b::l,k+1,h,n=>by
  rw[List.set_cons_succ];refine wO.mpr ⟨λz =>?_,z87 (wO.mp h).2 λz=>n (we _ z)⟩
  rcases vi z with y | y
  .exact(wO.mp h).1 y
  .exact n (by rw[<- y];exact ww)
def zfH {f:Str}{v:V}:∀{fs:List Str}{vs:List V}{k:Nat},fs.Nodup->fs.length=vs.length->fs[k]? = some f->putK ((fs.map Sum.inr).zip vs) (Sum.inr f:Key) v=(fs.map Sum.inr).zip (vs.set k v):=by
 intro fs vs k nd hl hf;have hk:k<fs.length:=(wg.mp hf).1;have hs:valV ((fs.map Sum.inr).zip vs) (Sum.inr f:Key)=some vs[k]:=z8x nd hf (by simp[hl ▸ hk]);have main:∀{fs:List Str}{vs:List V}{k:Nat},fs.Nodup->fs.length=vs.length->fs[k]? = some f->((fs.map Sum.inr).zip vs).map (λkv=>if kv.1=(Sum.inr f:Key) then (kv.1,v) else kv)=(fs.map Sum.inr).zip (vs.set k v):=by
  intro fs
  induction fs with
  | nil=>intro vs k _ _ h;simp at h
  | cons g gs ih=>
   intro vs k nd hl h
   cases vs with
   | nil=>simp at hl
   | cons w ws=>
    cases k with
    | zero=>
     simp at h;subst h;simp only[wA,wS,List.set_cons_zero,uZ,vS,true_and];have idm:∀{gs:List Str}{ws:List V},g ∉ gs->((gs.map Sum.inr).zip ws).map (λkv=>if kv.1=(Sum.inr g:Key) then (kv.1,v) else kv)=(gs.map Sum.inr).zip ws:=by
      intro gs
      induction gs with
      | nil=>intro ws _;rfl
      | cons h hs ih=>
       intro ws n
       cases ws with
       | nil=>rfl
       | cons x xs=>
        rw[wf,not_or] at n;simp only[wA,wS,vS];exact⟨if_neg λz=>n.1 (Sum.inr.inj z).symm,ih n.2⟩
     exact idm (wO.mp nd).1
    | succ k=>
     simp at h hl;simp only[wA,wS,List.set_cons_succ,vS];exact⟨if_neg λz=>(wO.mp nd).1 (by rw[Sum.inr.inj z];exact wH h),ih (wO.mp nd).2 hl h⟩
 unfold putK;rw[z6J,hs];exact(if_pos rfl).trans (main nd hl hf)
section
variable {K:W.Frag}{mg:WmP}{H0 G0 G G1 H H1:Hp}{ρ:Pu.Env}{σ:L2.St}{W:Wd}{A:Addr->List Addr}{n f:Str}{fs:List Str}{cs:List D}{p a C:Addr}{k i:Nat}{c c':D}{o:HO}
theorem OwnL.swap:∀{as:List Addr}{cs:List D}{k:Nat},OwnL K mg G H as cs->z2h K mg G H a c'->OwnL K mg G H (as.set k a) (cs.set k c')
 | [],[],_,_,_=>trivial
 | _::_,_::_,0,h,w=>⟨w,h.2⟩
 | _::_,_::_,k+1,h,w=>⟨h.1,OwnL.swap (k:=k) h.2 w⟩
 | [],_::_,_,h,_=>h.elim
 | _::_,[],_,h,_=>h.elim
def AbR.fset (h:AbR K mg H0 G0 G ρ σ H W A)(hp:W p=some (.ins "" fs cs))(nd:fs.Nodup)(hf:fs[k]? = some f)(fa:¬ Foot W A a)(oa:¬ z12 ρ σ a)(ga:G a=none)(h0:H0 a=none)(hw:z2h K mg G H a c')(pc:Pc c'):
  AbR K mg H0 G0 G ρ σ (upd H p (.dK (putK ((fs.map Sum.inr).zip ((A p).map V.ref)) (Sum.inr f) (.ref a)))) (upW W p (.ins "" fs (cs.set k c'))) (upA A p ((A p).set k a)):=by
 have fp:Foot W A p:=⟨p,_,hp,ww⟩
 obtain⟨r1,r3,r4⟩:=h.st.at_ p _ hp
 rcases r1 with ⟨r0,_⟩ | ⟨r0,rm,hl,r1⟩
 .exact(r0 rfl).elim
 have hap:a≠p:=λz=>fa (by rw[z];exact fp);have haA:a ∉ A p:=λz=>fa ⟨p,_,hp,we _ z⟩;have nd':=wO.mp (h.st.nd p _ hp);have ft:∀b,Foot (upW W p (.ins "" fs (cs.set k c'))) (upA A p ((A p).set k a)) b->Foot W A b\/b=a:=by
  rintro b ⟨q,d,e,m⟩
  o_src
  .subst hq;rw[z29] at m
   rcases wf.mp m with z | z
   .rw[z];exact .inl fp
   .rcases vi z with y | y
    .exact .inl ⟨q,_,hp,we _ y⟩
    .exact .inr y
  .rw[z3j hq] at m;rw[z27 hq] at e;exact .inl ⟨q,d,e,m⟩
 have old:∀q d,upW W p (.ins "" fs (cs.set k c')) q=some d->∃d',W q=some d':=λq d e=>by
  o_src
  .subst hq;exact⟨_,hp⟩
  .rw[z27 hq] at e;exact⟨d,e⟩
 have mem:∀q d b,W q=some d->b∈q::upA A p ((A p).set k a) q->b≠a->b∈q::A q:=λq d b e m hb=>by
  o_src
  .subst hq;rw[z29] at m
   rcases wf.mp m with z | z
   .rw[z];exact ww
   .rcases vi z with y | y
    .exact we _ y
    .exact(hb y).elim
  .rw[z3j hq] at m;exact m
 refine⟨h.ab.wrF (h.no p fp).1 (h.st.out p fp) (h.no p fp).2,⟨λq d e =>?_,λq d e =>?_,λq q' d d' b e e' m m' =>?_,λb hb =>?_⟩,λb hb =>?_⟩
 .o_src
  .subst hq;rw[z28] at e
   cases e
   rw[z29];refine⟨.inr ⟨rfl,rm,by rw[uD];exact hl,?_⟩,?_,λx hx =>?_⟩
   .rw[z06,zfH nd (by rw[wc];exact hl) hf,List.map_set]
   .refine OwnL.same Same.refl' (r3.swap hw) λb hb u hu =>?_;rw[z02 λz =>?_]
    .exact hu
    .rcases vi hb with y | y
     .exact nd'.1 (by rw[z] at y;exact y)
     .exact hap (y.symm.trans z)
   .rcases vi hx with z | z
    .exact r4 x z
    .rw[z];exact pc
  .rw[z27 hq] at e;rw[z3j hq];refine(h.st.at_ q d e).same Same.refl' λb hb u hu =>?_;rw[z02 (λz=>hq (h.st.dj q p d _ b e hp hb (by rw[z];exact ww)))];exact hu
 .o_src
  .subst hq;rw[z29];refine wO.mpr ⟨λz =>?_,z87 nd'.2 haA⟩
   rcases vi z with y | y
   .exact nd'.1 y
   .exact hap y.symm
  .rw[z27 hq] at e;rw[z3j hq];exact h.st.nd q d e
 .obtain⟨x,e1⟩:=old q d e;obtain⟨y,e2⟩:=old q' d' e'
  by_cases hb:b=a
  .have on:∀q d,W q=some d->b∈q::upA A p ((A p).set k a) q->q=p:=λq d e m=>by
    o_src
    .exact hq
    .rw[z3j hq] at m;exact(fa (by rw[<- hb];exact⟨q,d,e,m⟩)).elim
   rw[on q x e1 m,on q' y e2 m']
  .exact h.st.dj q q' x y b e1 e2 (mem q x b e1 m hb) (mem q' y b e2 m' hb)
 .rcases ft b hb with z | z
  .exact h.st.out b z
  .rw[z];exact ga
 .rcases ft b hb with z | z
  .exact h.no b z
  .rw[z];exact⟨h0,oa⟩
end
section
variable {X:Cx}{E:XK}{e o y tg k1 k2 k3 k4 k5 v1 v2 v3 v4 v5:Expr}{t1 t2 t3 t4 t5 s1 s2 s3 s4 s5:TE}{x z:Ex}{pos cpos apos spos pp:Pos}{i k:Nat}{n f f1 f2 f3 f4 f5:Str}{fs:List Str}{CX:CXT}{F:FnR}{ps:List Str}
def zbr (hu:X.A.units+1<cLine)(nd:fs.Nodup)(hf:fs[k]? = some f)(hz:fs.length<sizeLine)(ho:QE X o (tVar i))(hy:QE X y (tC (.str f)))(he:QF X E e x)
  (hs:swapsWith e (some (.Subscript o y spos)) pos.line X.env=pure false:=by rfl):QR X E (.Assign [.Subscript o y spos] e pos) (.fset fs i k x):=
 QS.imp ⟨z8L hu ho.p hy.p he.p hs⟩ <| by
  l_fit;obtain⟨p,cs,c,e1,e2,e3,hr⟩:=hr;refine⟨plus G H (Hid ρ σ W A),shw W ρ,_,_,z1h ab.ab.g,ab.abe,hr,λd a G1 H1 q g1 g2 g3 ha ga hw =>?_,hx.at_ ab⟩;k_asm;obtain⟨_,s1,hl,h1,_,_⟩:=ab'.kfld e1 e2 e3;have nh:¬ Hid ρ σ W A a:=λz=>by
   obtain⟨_,u,hu,_⟩:=ab.hid z;rw[ha] at hu;cases hu
  refine⟨.ref p,s1,p,_,rfl,DPut.k (k:=Sum.inr f) h1 ?_,?_⟩
  .rw[uj,wc];exact Nat.lt_of_le_of_lt (Nat.min_le_left _ _) hz
  .exact hn ρ _ _ σ _ _ q.2 (ab'.fset e2 nd hf (λz=>nh (.inr z)) (λz=>nh (.inl z)) (by rw[z1B nh];exact ga) (z0p ab.ab.s0 ha) (zbJ hw (ab.mu g2 g3) q.1) q.1) lm
def zbs (C:Cal X.prog X.w X.K X.mg X.base CX k f ps (spR X.K X.mg F))(hr:Room k X.A)(hx:z1j CX X E)(hg:Gl X f)(hdb:(f == ("__debug__":Str))=false):QXR X E (.Call (.Name f pp) [] [] pos) (.call F []):=by
 obtain⟨fa,fd,Fk,hm,hk,hb⟩:=C.ex;exact QE.imp ⟨zdo Fk hr hg hm hk hb .nil hx hdb⟩ λσ H Q ⟨H0,G0,G,ρ,W,A,Q0,X0,ab,hr,hk,hx⟩=>z6a ab RDs.nil hr hk hx
def zd9 (h1:QE X k1 s1)(h2:QE X k2 s2)(h3:QE X k3 s3)(h4:QE X k4 s4)(h5:QE X k5 s5)(g1:QE X v1 t1)(g2:QE X v2 t2)(g3:QE X v3 t3)(g4:QE X v4 t4)(g5:QE X v5 t5):
  QE X (.Dict [some k1,some k2,some k3,some k4,some k5] [v1,v2,v3,v4,v5] pos) (zgG [(s1,t1),(s2,t2),(s3,t3),(s4,t4),(s5,t5)]):=
 ⟨zfS (z4s h1.p g1.p (z4s h2.p g2.p (z4s h3.p g3.p (z4s h4.p g4.p (z4s h5.p g5.p zfM))))) rfl rfl (by intro h;cases h) (by show 5<=15;decide)⟩
def zbo (m0:X.mg ""=none)(nd:[f1,f2,f3,f4,f5].Nodup)(hm:∀a1 a2 a3 a4 a5:V,z6B [] [(Sum.inr f1,a1),(Sum.inr f2,a2),(Sum.inr f3,a3),(Sum.inr f4,a4),(Sum.inr f5,a5)]=[(Sum.inr f1,a1),(Sum.inr f2,a2),(Sum.inr f3,a3),(Sum.inr f4,a4),(Sum.inr f5,a5)])
  (h1:QE X k1 (tC (.str f1))) (h2:QE X k2 (tC (.str f2))) (h3:QE X k3 (tC (.str f3))) (h4:QE X k4 (tC (.str f4))) (h5:QE X k5 (tC (.str f5))) (g1:QE X v1 ze0) (g2:QE X v2 (tLst tNil)) (g3:QE X v3 (tLst tNil)) (g4:QE X v4 (tLst tNil)) (g5:QE X v5 (tLst tNil)):
  QR X E (.Return (some (.Dict [some k1,some k2,some k3,some k4,some k5] [v1,v2,v3,v4,v5] pos)) cpos) (.retnew (.ins "" [f1,f2,f3,f4,f5] [dk [],.lst [],.lst [],.lst [],.lst []])):=
 QS.imp (zbn (zd9 h1 h2 h3 h4 h5 g1 g2 g3 g4 g5)) <| by
  l_fit;intro p hp a1 n1;obtain⟨d1,n1⟩:=z08 n1;refine⟨vh _,λa2 n2 =>?_⟩;obtain⟨e21,n2⟩:=z08 n2;obtain⟨d2,n2⟩:=z08 n2;refine⟨vh _,λa3 n3 =>?_⟩;obtain⟨e32,n3⟩:=z08 n3;obtain⟨e31,n3⟩:=z08 n3;obtain⟨d3,n3⟩:=z08 n3;refine⟨vh _,λa4 n4 =>?_⟩;obtain⟨e43,n4⟩:=z08 n4;obtain⟨e42,n4⟩:=z08 n4;obtain⟨e41,n4⟩:=z08 n4;obtain⟨d4,n4⟩:=z08 n4;refine⟨vh _,λa5 n5 =>?_⟩;obtain⟨e54,n5⟩:=z08 n5;obtain⟨e53,n5⟩:=z08 n5;obtain⟨e52,n5⟩:=z08 n5;obtain⟨e51,n5⟩:=z08 n5;obtain⟨d5,n5⟩:=z08 n5;refine⟨by rw[z02 d5.symm,z02 d4.symm,z02 d3.symm,z02 d2.symm,z02 d1.symm,z06],[(Sum.inr f1,.ref a1),(Sum.inr f2,.ref a2),(Sum.inr f3,.ref a3),(Sum.inr f4,.ref a4),(Sum.inr f5,.ref a5)],rfl,(by show 5<=15;decide),?_⟩;rw[hm];have wn:W p=none:=by
   cases z:W p with
   | none=>rfl
   | some c=>
    obtain⟨o,ho,_⟩:=ab.st.exO ⟨p,c,z,ww⟩;rw[hp] at ho;cases ho
  obtain⟨G',A',ab',g'⟩:=ab.new (i:=ρ.length) (n:="") (fs:=[f1,f2,f3,f4,f5]) (cs:=[dk [],.lst [],.lst [],.lst [],.lst []]) (Gn:=λ_=>none) (as:=[a1,a2,a3,a4,a5]) (p:=p) (H':=upd (upd (upd (upd (upd (upd (upd H p (.dK [])) a1 (.dK [])) a2 (.lst [])) a3 (.lst [])) a4 (.lst [])) a5 (.lst [])) p (.dK [(Sum.inr f1,.ref a1),(Sum.inr f2,.ref a2),(Sum.inr f3,.ref a3),(Sum.inr f4,.ref a4),(Sum.inr f5,.ref a5)]))
   (λc hc=>by
    simp only[wf,wC,vj] at hc
    rcases hc with rfl | rfl | rfl | rfl | rfl <;> (intro d hd;cases hd)) hp (λa o e=>by cases e) (λa o e=>by cases e)
   ⟨⟨[],RDs.nil,.inl ⟨[],by rw[z02 d1,z02 e51.symm,z02 e41.symm,z02 e31.symm,z02 e21.symm,z06],rfl,rfl⟩⟩,⟨[],by rw[z02 d2,z02 e52.symm,z02 e42.symm,z02 e32.symm,z06],RDs.nil⟩,⟨[],by rw[z02 d3,z02 e53.symm,z02 e43.symm,z06],RDs.nil⟩,⟨[],by rw[z02 d4,z02 e54.symm,z06],RDs.nil⟩,⟨[],by rw[z02 d5,z06],RDs.nil⟩,trivial⟩
   (λa ha=>by
    simp only[wf,wC,vj] at ha
    rcases ha with rfl | rfl | rfl | rfl | rfl
    .exact⟨n1,rfl,d1⟩
    .exact⟨n2,rfl,d2⟩
    .exact⟨n3,rfl,d3⟩
    .exact⟨n4,rfl,d4⟩
    .exact⟨n5,rfl,d5⟩)
   (by
    simp only[wO,wf,wC,vj,not_or,not_false_eq_true,List.nodup_nil,and_true];exact⟨⟨e21.symm,e31.symm,e41.symm,e51.symm⟩,⟨e32.symm,e42.symm,e52.symm⟩,⟨e43.symm,e53.symm⟩,e54.symm⟩)
   (.inr ⟨rfl,m0,rfl,z06⟩)
   (λb u hb=>by
    have f:∀c,H c=none->b≠c:=λc hc z=>by rw[z,hc] at hb;cases hb
    rw[z02 (f p hp),z02 (f a5 n5),z02 (f a4 n4),z02 (f a3 n3),z02 (f a2 n2),z02 (f a1 n1),z02 (f p hp)];exact hb)
  exact hR _ _ G' _ _ A' (hr p wn) ⟨ab'.ab.g0,ab'.ab.nw⟩ ab'.ab.g ab'.ab.s0 ab'.st (λa ha=>(ab'.no a ha).1) (by rw[RD])
end
end Pu
namespace L2
open PySem PySem.Spec PyProof.Rows
def EN (X:Cx)(C2:Addr)(ts:TS)(D:Ends)(σ:St):XK:=λCv _ H2=>W.exmOne X.K Cv (.ref C2)=some true/\ts D σ H2
section
variable {X:Cx}{k:Nat}{ps:List Str}{sp:Sp}{x cx:Str}{e:Expr}{es:List Expr}{t:TA}{C2:Addr}{b0:Stmt}{body suite:List Stmt}{ts:TS}{p p5 p6 pos:Pos}{CX:CXT}{E:XK}{σ0:St}
def zd3 {tb:Ends->St->TS}(hst:X.stack=X.env::X.outer/\X.env.frame=some X.env.locals)(T:Exc X.K X.mg cx C2)(hgc:Gl X cx)(hdc:(cx == ("__debug__":Str))=false)(hs:∀ea,QSs (X.suite ea) (b0::suite) ts)
  (hb:∀pins xe D σ,z2g (CXe X.prog X.w) (X.within pins xe) σ (EN X C2 ts D σ)->QSs (X.within pins xe) body (tb D σ)):
  QS X (.Try body [.ExceptHandler (some (.Name cx p5)) none (b0::suite) p6] [] [] pos) (λD σ H=>tb D σ D σ H):=by
 constructor
 k_not;refine wpAny_Try_except ?_;generalize hxe:(λ(e:Value) (s1:Shared)=>wpAny (model X.prog X.w) X.A (noteFrame e X.env) (λ_ s2=>wpAny (model X.prog X.w) X.A (setFlight e none) (λ_ s3=>wpAny (model X.prog X.w) X.A (handleBy e X.env [.ExceptHandler (some (.Name cx p5)) none (b0::suite) p6]) (SP X pins D) X.xe s3) X.xe s2) X.xe s1)=xe;have pa:z2g (CXe X.prog X.w) (X.within pins xe) σ (EN X C2 ts D σ):=λpins' H1 s1 ev s2 I1 hq=>by
  show xe ev s2;rw[<- hxe];exact zjl (I1.out I.ok) hst T hgc hs hq (λ_ _ z=>z) hdc
 have body:=(hb pins xe D σ pa).p;refine va (body [] s σ H { D with nx:=D.nx } I.within h) (λfl s2 z =>?_) λev s2 z=>z;have z':=SP.out I.ok z
 cases fl with
 | next=>exact uA z'
 | brk=>exact z'
 | cont=>exact z'
 | ret u=>exact z'
def zhU (C:Cal X.prog X.w X.K X.mg X.base CX k x ps sp)(hr:Room k X.A)(hx:z2g CX X σ0 E)(ha:PA X (e::es) t)(hg:Gl X x)(hdb:(x == ("__debug__":Str))=false)
  (he:starEach (e::es) X.env=(false,eval e X.env)::starEach es X.env:=by rfl) (hpl:(backTo pos (starEach es X.env)).any (·.1)=false:=by rfl):
  PE X (.Call (.Name x p) (e::es) [] pos) (λσ H Q=>σ=σ0/\za1 sp [] E t σ H Q):=by
 obtain⟨f,fd,F,hm,hk,hb⟩:=C.ex;rintro pins s σ H Q I ⟨rfl,h⟩;refine vT (z31 I hg hm ?_ hdb);l_bnd;exact zb9 F hr hb .nil hx I1 r q
end
end L2
namespace Pu
open PySem PySem.Spec PyProof.Rows L2
def shPt (W:Wd):D->D
 | .ptr a=>match W a with
  | some c=>sho c
  | none =>.ptr a
 | d=>d
def ExR.shc (F:Fn)(es:List ExR):ExR:=⟨λρ W Q X=>z4J es ρ W (λds W'=>F.run (ds.map (shPt W')) (λd=>Pr d/\Q d W') (λs=>X s W')) X,λρ W Q Q' X X' m mx q=>z3A es ρ W _ _ X X' (λds W' q1=>F.mono _ _ _ _ _ (λd q=>⟨q.1,m _ _ q.2⟩) (λs q=>mx _ _ q) q1) mx q⟩
def ExR.and (x y:ExR):ExR:=⟨λρ W Q X=>x.run ρ W (λd W1=>∃c,d = .bl c/\if c=true then y.run ρ W1 Q X else Q (.bl false) W1) X,λρ W Q Q' X X' m mx q=>x.mono ρ W _ _ X X' (λd W1 ⟨c,h,q⟩=>⟨c,h,by
 split at q
 .rename_i h;rw[if_pos h];exact y.mono _ _ _ _ X X' m mx q
 .rename_i h;rw[if_neg h];exact m _ _ q⟩) mx q⟩
def SmR.forf (j:Nat)(src:Ex)(b:SmR):SmR:=⟨λρ W N Q X=>src.run (shw W ρ) (λd=>∃l,d = .lst l/\(∀x∈l,Pr x)/\forR j b N Q X l ρ W) (λx=>X x W),λρ W N N' Q Q' X X' mn m mx q=>src.mono _ _ _ _ _ (λd ⟨l,h,h',q⟩=>⟨l,h,h',z4z mn m mx l _ _ q⟩) (λ_ q=>mx _ _ q) q⟩
def SmR.forw (n:Str)(fs:List Str)(i ks kw j:Nat)(c y e:Ex):SmR:=⟨λρ W N Q X=>z7o n fs i ks ρ W λp cs d=>∃l,d = .lst l/\forR j (.ifp c (.fput n fs i kw y e) .skip) N Q X l ρ W,λρ W N N' Q Q' X X' mn m mx q=>z1R (λp cs d ⟨l,h,q⟩=>⟨l,h,z4z mn m mx l _ _ q⟩) q⟩
section
variable {K:W.Frag}{mg:WmP}{H0 G0 G G1 H H1:Hp}{ρ:Pu.Env}{σ:L2.St}{W:Wd}{A:Addr->List Addr}
theorem AbR.shs (ab:AbR K mg H0 G0 G ρ σ H W A):∀{ds:List D}{vs:List V},RDs K mg G ds vs->RDs K mg (plus G H (Hid ρ σ W A)) (ds.map (shPt W)) vs
 | [],_,h=>by rw[RDs] at h;subst h;exact RDs.nil
 | d::ds,_,h=>by
  rw[RDs] at h;obtain⟨v,r,rfl,h1,h2⟩:=h;have lp:Same G (plus G H (Hid ρ σ W A)):=z1N λa z=>(ab.hid z).1;refine RDs.cons ?_ (ab.shs h2)
  cases d with
  | ptr a=>
   show RD K mg _ (match W a with | some c=>sho c | none =>.ptr a) v
   cases z:W a with
   | none=>exact h1.same lp
   | some c=>
    rw[RD] at h1;subst h1;exact(ab.st.at_ a c z).rd lp λb hb=>z5N (.inr ⟨a,c,z,hb⟩)
  | _=>exact h1.same lp
end
section
variable {X:Cx}{E:XK}{σ0:L2.St}{e o o' y a b c tg iter:Expr}{es rest:List Expr}{x z w:Ex}{u v:ExR}{xs:List ExR}{body:List Stmt}{t:SmR}{pos cpos apos ipos spos pp:Pos}{i j k ks kw n':Nat}{n f:Str}{fs ps:List Str}{CX:CXT}{F:Fn}{FR:FnR}{te te':TE}
def zhs (C:Cal X.prog X.w X.K X.mg X.base CX k f ps (spP X.K X.mg F))(hr:Room k X.A)(hx:z1j CX X E)(ha:QAR X E (e::es) xs)(hg:Gl X f)(hdb:(f == ("__debug__":Str))=false)
  (he:starEach (e::es) X.env=(false,eval e X.env)::starEach es X.env:=by rfl) (hpl:(backTo pos (starEach es X.env)).any (·.1)=false:=by rfl):QXR X E (.Call (.Name f pp) (e::es) [] pos) (.shc F xs):=
 QE.imp (zfC C hr hx ha hg hdb he hpl) λσ H Q ⟨H0,G0,G,ρ,W,A,Q0,X0,ab,hr,hk,hx⟩=>
  ⟨H0,G0,G,ρ,W,A,_,X0,ab,hr,λds vs W1 A1 G1 H1 q ab1 g1 rds=>by
   show spP X.K X.mg F (vs++[]) H1 Q E;rw[wQ];refine⟨plus G1 H1 (Hid ρ σ W1 A1),ds.map (shPt W1),_,_,z1h ab1.ab.g,ab1.shs rds,q,λd v G2 H2 q2 k1 k2 k3 rd =>?_,hx.at_ ab1⟩;obtain⟨ab',lm⟩:=ab1.back k1 k2 k3;exact hk d v W1 A1 _ H2 q2.2 ab' (z03 g1 lm) (RD.strip (ab1.mu k2 k3) d q2.1.1 q2.1.2 rd),hx⟩
def zfx {op}(h:QXR X E a u):QXR X E (.BoolOp op [a] pos) u:=zen h
def zhv (ha:QXR X E a u)(hb:QXR X E (.BoolOp .And (b::rest) pos) v):QXR X E (.BoolOp .And (a::b::rest) pos) (.and u v):=QE.imp (zep ha hb) λσ H Q ⟨H0,G0,G,ρ,W,A,Q0,X0,ab,hr,hk,hx⟩=>
 ⟨H0,G0,G,ρ,W,A,_,X0,ab,hr,by
  rintro d v W1 A1 G1 H1 ⟨c,e,q⟩ ab1 g1 rd;subst e;rw[RD] at rd;refine⟨c,rd,?_⟩
  cases c with
  | true=>exact iteT ⟨H0,G0,G1,ρ,W1,A1,Q0,X0,ab1,by simpa using q,λd v W' A' G' H' q' ab' g' rd'=>hk d v W' A' G' H' q' ab' (z03 g1 g') rd',hx⟩
  | false=>exact iteF (hk _ _ W1 A1 G1 H1 (by simpa using q) ab1 g1 (by rw[RD])),hx⟩
def zhq (C:Cal X.prog X.w X.K X.mg X.base CX k f ps (spR X.K X.mg FR))(hr:Room k X.A)(hx:z2g CX X σ0 E)(ha:QAR X E (e::es) xs)(hg:Gl X f)(hdb:(f == ("__debug__":Str))=false)
  (he:starEach (e::es) X.env=(false,eval e X.env)::starEach es X.env:=by rfl) (hpl:(backTo pos (starEach es X.env)).any (·.1)=false:=by rfl):QE X (.Call (.Name f pp) (e::es) [] pos) (λσ H Q=>σ=σ0/\txr X.K X.mg E (.call FR xs) σ H Q):=
 QE.imp ⟨zhU C hr hx ha.p hg hdb he hpl⟩ λσ H Q ⟨hσ,H0,G0,G,ρ,W,A,Q0,X0,ab,hr,hk,hx⟩=>
  ⟨hσ,H0,G0,G,ρ,W,A,_,X0,ab,hr,λds vs W1 A1 G1 H1 q ab1 g1 rds=>by
   show spR X.K X.mg FR (vs++[]) H1 Q E;rw[wQ];exact z6a ab1 rds q (λd v W' A' G' H' q' ab' g' rd=>hk d v W' A' G' H' q' ab' (z03 g1 g') rd) hx,hx⟩
def zfv (hp:PassesOwn (model X.prog X.w) X.A X.env X.xe)(hc:X.calm=true)(hi:QF X E iter x)(hg:QG X tg (tgt X.K (.nm j)))(hb:QRs X E body t)(hs:∀x,foldedSetIterable iter X.env x=pure x:=by intro _;rfl):
  QR X E (.For tg iter body [] pos) (.forf j x t):=QS.imp (z7Q hp hc (zbu hi) hg hb hs) <| by
 k_get;refine⟨plus G H (Hid ρ σ W A),shw W ρ,_,_,z1h ab.ab.g,ab.abe,hr,λd a G1 H1 q g1 g2 g3 ha ga hw =>?_,hx.at_ ab⟩;obtain⟨l,rfl,pr,q⟩:=q;obtain⟨xs,w1,w2⟩:=hw;have nh:¬ Hid ρ σ W A a:=λz=>by
  obtain⟨_,u,hu,_⟩:=ab.hid z;rw[ha] at hu;cases hu
 have lp:Same G1 (upd G1 a (.lst xs)):=z0P ga _;have g1':Gr (plus G H (Hid ρ σ W A)) H (upd G1 a (.lst xs)):=⟨z03 g1.1 lp,λb u e=>by
  by_cases hb:b=a
  .subst hb;exact .inr ha
  .rw[z02 hb] at e;exact g1.2 b u e⟩
 have g2':Same (upd G1 a (.lst xs)) H1:=λb u e=>by
  by_cases hb:b=a
  .subst hb;rw[z06] at e;rw[w1];exact e
  .rw[z02 hb] at e;exact g2 b u e
 obtain⟨ab',lm⟩:=ab.back g1' g2' g3;refine .inl ⟨a,rfl,⟨xs,SqL.of w1⟩,?_⟩;exact z6E (E:=E) ab' (z7z (SqL.of (by rw[z1B nh];exact z06)) (RDs.stripA (ab.mu g2' g3) l pr (w2.same lp))) q (hn.same lm) hR hx
def zce {p:Addr}{cs:List D}{ρ:Pu.Env}{W:Wd}{N:EW}{Q:DW}{XX:XW}(e1:ρ[i]? = some (.s (.ptr p)))(e2:W p=some (.ins n fs cs))(hne:ks≠kw)(h:(SmR.fput n fs i kw z x).run ρ W N Q XX):
  (SmR.fput n fs i kw z x).run ρ W (λρ' W'=>N ρ' W'/\ρ'=ρ/\∃cs',W' p=some (.ins n fs cs')/\cs'[ks]? = cs[ks]?) Q XX:=by
 obtain⟨p',cs',c,h1,h2,h3,kvs,rfl,h4⟩:=h;rw[e1] at h1
 cases h1
 rw[e2] at h2
 cases h2
 refine⟨p,cs,_,e1,e2,h3,kvs,rfl,x.mono _ _ _ _ _ (λd q=>⟨q.1,z.mono _ _ _ _ _ (λb ⟨j,h,h',q⟩=>⟨j,h,h',q,rfl,_,z28,?_⟩) (λ_ q=>q) q.2⟩) (λ_ q=>q) h4⟩;rw[wj (vk hne)]
def z8f (F:Fl X n fs i k o te){De:Ends}{σ:L2.St}{H H0 G0 G:Hp}{ρ:Pu.Env}{W:Wd}{A:Addr->List Addr}{N0:EW}{R0:DW}{X0:XW}(ab:AbR X.K X.mg H0 G0 G ρ σ H W A)(hr:(SmR.fput n fs i k z x).run ρ W N0 R0 X0)
  (hn:∀ρ' W' H' G',N0 ρ' W'->AbR X.K X.mg H0 G0 G' ρ' σ H' W' A->Same G G'->De.nx σ H') (hx:KxR X.K X.mg H0 G0 X0 E):zha te (tx X.K X.mg E z) (tx X.K X.mg E x) De σ H:=by
 obtain⟨p,cs,c,e1,e2,e3,kvs,rfl,hr⟩:=hr;refine⟨plus G H (Hid ρ σ W A),shw W ρ,_,_,z1h ab.ab.g,ab.abe,hr,λd v G1 H1 q g1 g2 g3 rd =>?_,hx.at_ ab⟩;k_asm;have rd':=RD.strip (ab.mu g2 g3) d q.1.1 q.1.2 rd;refine F.h ab' e1 e2 e3 λa h3 hw =>?_;refine⟨plus _ H1 (Hid ρ σ W A),shw W ρ,_,_,z1h ab'.ab.g,ab'.abe,q.2,λb u G2 H2 q2 k1 k2 k3 rb =>?_,hx.at_ ab'⟩;obtain⟨ab2,lm2⟩:=ab'.back k1 k2 k3;obtain⟨j,rfl,hz,hN⟩:=q2;have eu:=zbc rb;subst eu;obtain⟨kw,w1,w2⟩:=zex hw;refine⟨a,_,rfl,DPut.k (k3 _ _ w1) (by rw[<- w2.len];exact hz),?_⟩;have pc:=(ab.st.at_ p _ e2).2.2 _ (wH e3);exact hn ρ _ _ _ hN (ab2.wr e2 h3 (zeK z06 ((w2.same lm2).put (rd'.same lm2))) (zhY pc q.1)) (z03 lm lm2)
def z9u (hu:X.A.units+1<cLine)(F:Fl X n fs i k o te)(hy:QX X E y z)(he:QX X E e x)
  (hs:swapsWith e (some (.Subscript o y spos)) pos.line X.env=pure false:=by rfl):QR X E (.Assign [.Subscript o y spos] e pos) (.fput n fs i k z x):=
 QS.imp ⟨z8L hu F.q.p hy.p he.p hs⟩ λDe σ H ⟨H0,G0,G,ρ,W,A,N0,R0,X0,ab,hr,hn,hR,hx⟩=>z8f F ab hr (λρ' W' H' G' q ab' g=>hn ρ' W' A σ H' G' q ab' g) hx
def zfu (hp:PassesOwn (model X.prog X.w) X.A X.env X.xe)(hc:X.calm=true)(hu:X.A.units+1<cLine)(Fs:Fl X n fs i ks o te)(Fw:Fl X n fs i kw o' te')(hne:ks≠kw)(hij:i≠j)(hg:QG X tg (tgt X.K (.nm j)))(hcd:QXT X E c w)(hy:QX X E y z)(he:QX X E e x)
  (hs:swapsWith e (some (.Subscript o' y spos)) apos.line X.env=pure false:=by rfl) (hfs:∀x,foldedSetIterable o X.env x=pure x:=by intro _;rfl):
  QR X E (.For tg o [.If c [.Assign [.Subscript o' y spos] e apos] [] ipos] [] pos) (.forw n fs i ks kw j w z x):=
 QS.imp (z7Q hp hc (zbu Fs.q) hg (z4M (zfq hcd (z4M ⟨z8L hu Fw.q.p hy.p he.p hs⟩) z8K)) hfs) <| by
  l_fit;obtain⟨p,cs,cc,e1,e2,e3,l,rfl,hr⟩:=hr;refine Fs.h ab e1 e2 e3 λa h3 hw =>.inl ⟨a,rfl,?_,?_⟩
  .obtain⟨xs,w1,w2⟩:=hw;exact⟨xs,SqL.of w1⟩
  refine⟨λjj m σ H=>m=l.length - jj/\jj<=l.length/\∃G1 ρ1 W1 cs1,AbR X.K X.mg H0 G0 G1 ρ1 σ H W1 A/\Same G G1/\ρ1[i]? = some (.s (.ptr p))/\W1 p=some (.ins n fs cs1)/\cs1[ks]? = some (.lst l)/\forR j (.ifp w (.fput n fs i kw z x) .skip) N0 R0 X0 (l.drop jj) ρ1 W1,⟨l.length,by simp,vh _,G,ρ,W,cs,ab,Same.refl',e1,e2,e3,by simpa using hr⟩,?_⟩;rintro jj m σ1 H1 ⟨rfl,hi,G1,ρ1,W1,cs1,ab1,g1,f1,f2,f3,h1⟩;obtain⟨_,r3,_⟩:=ab1.st.at_ p _ f2;obtain⟨a',ha',hw1⟩:=r3.get f3;rw[h3] at ha'
  cases ha'
  obtain⟨xs,w1,w2⟩:=hw1
  by_cases hlt:jj<l.length
  .have el:l[jj]? = some l[jj]:=by simp[hlt]
   obtain⟨v,ev,rv⟩:=w2.get el;rw[vR hlt] at h1;refine .inr ⟨⟨xs,v,SqL.of w1,ev⟩,λσ' H'=>∃G2 ρ2 W2 cs2,AbR X.K X.mg H0 G0 G2 ρ2 σ' H' W2 A/\Same G G2/\ρ2[i]? = some (.s (.ptr p))/\W2 p=some (.ins n fs cs2)/\cs2[ks]? = some (.lst l)/\forR j (.ifp w (.fput n fs i kw z x) .skip) N0 R0 X0 (l.drop (jj+1)) ρ2 W2,λσ' H' w=>⟨l.length - (jj+1),by omega,rfl,hlt,w⟩,λv' H2 yl =>?_⟩;obtain⟨rfl,yl⟩:=yl;have:=yl xs (SqL.of w1);rw[ev] at this
   cases this
   have ab2:=ab1.put (i:=j) rv;have f1':(ρ1.set j (.s l[jj]))[i]? = some (.s (.ptr p)):=by rw[wj (vk hij)];exact f1
   refine⟨plus G1 H2 (Hid _ _ W1 A),shw W1 _,_,_,z1h ab2.ab.g,ab2.abe,h1,λd G2 H3 q k1 k2 k3 =>?_,hx.at_ ab2⟩;obtain⟨b,rfl,q1,q2⟩:=z51 q;obtain⟨ab',lm⟩:=ab2.back k1 k2 k3;refine⟨b,rfl,?_⟩
   cases b with
   | true=>
    refine iteT (z8f Fw ab' (zce f1' f2 hne (q1 rfl)) (λρ' W' H' G' qq ab3 g3 =>?_) hx);obtain⟨qn,rfl,cs',c1,c2⟩:=qq;exact⟨G',_,W',cs',ab3,z03 g1 (z03 lm g3),f1',c1,c2.trans f3,qn⟩
   | false=>exact iteF ⟨_,_,W1,cs1,ab',z03 g1 lm,f1',f2,f3,q2 rfl⟩
  .have e:jj=l.length:=by omega
   subst e;rw[List.drop_length] at h1;exact .inl ⟨⟨xs,SqL.of w1,by rw[w2.len];exact wG _⟩,hn ρ1 W1 A σ1 H1 G1 h1 ab1 g1⟩
end
def Sm.tryM (i:Nat)(n:Str)(fs:List Str)(F:Fn)(x:Ex)(es:List Ex)(xs:List Str)(s:Sm):Sm:=
 ⟨λρ N Q X=>x.run ρ (λd=>∃cs,d = .ins n fs cs/\runs es ρ (λds=>F.run (d::ds) (λr=>Safe r (ρ.set i .n)/\N (ρ.set i (.s r))) (λe=>e∈xs/\s.run ρ N Q X)) (λ_=>False)) (λ_=>False),
  λρ N N' Q Q' X X' mn m mx q=>x.mono ρ _ _ _ _ (λd ⟨cs,h,q⟩=>⟨cs,h,z2m es ρ _ _ _ _ (λds q=>F.mono _ _ _ _ _ (λr q=>⟨q.1,mn _ q.2⟩) (λe q=>⟨q.1,s.mono ρ N N' Q Q' X X' mn m mx q.2⟩) q) (λ_ z=>z) q⟩) (λ_ z=>z) q⟩
def slcL (d:D)(lo hi:Option Int)(Q:DK):Prop:=∃l,d = .lst l/\Q (.lst (cutD l lo hi))
def Ex.slL (e:Ex)(lo hi:Option Ex):Ex:=⟨λρ Q X=>e.run ρ (λd=>part lo ρ (λl=>part hi ρ (λu=>slcL d l u Q) X) X) X,λρ Q Q' X X' m mx q=>e.mono ρ _ _ X X' (λd q=>z4u (λl q=>z4u (λu ⟨k,h,q⟩=>⟨k,h,m _ q⟩) mx q) mx q) mx q⟩
def zjI {X:Cx}{E:XK}{e:Expr}{x:Ex}{lo hi:Option Expr}{l u:Option Ex}{p2 pos:Pos}(he:QX X E e x)(hl:QO X lo (z7D X.K X.mg E l))(hu:QO X hi (z7D X.K X.mg E u)):QF X E (.Subscript e (.Slice lo hi none p2) pos) (.slL x l u):=QE.imp (z9v zaY he hl hu) <| by
 k_in;w_up;refine⟨G1,ρ,_,X0,g2,ab.same g1.1,q,λl G2 H2 q k1 k2 k3 =>?_,hx.same g3⟩;refine⟨G2,ρ,_,X0,k2,ab.same (z03 g1.1 k1.1),q,λu G3 H3 q n1 n2 n3 =>?_,hx.same (z03 g3 k3)⟩;obtain⟨ll,rfl,qq⟩:=q;obtain⟨a,xs,rfl,h1,h2⟩:=z1K (rd.same (z03 k1.1 n1.1));have s:=z03 g3 (z03 k3 n3);exact⟨a,xs,rfl,z1d n2 h1,λp hp=>hk _ p G3 _ qq (g1.trans g3 (k1.trans k3 n1)) (z03 n2 (z0P hp _)) (z03 s (z0P hp _)) (z0p s hp) (z0p n2 hp) ⟨_,z06,h2.cut _ _⟩⟩
def Ex.dget1 (x y:Ex):Ex:=⟨λρ Q X=>x.run ρ (λd=>∃kvs,IsDk d kvs/\y.run ρ (λb=>∃j,b=kD j/\Q ((valD kvs j).getD .non)) X) X,λρ Q Q' X X' m mx q=>x.mono ρ _ _ X X' (λd ⟨kvs,h,q⟩=>⟨kvs,h,y.mono ρ _ _ X X' (λb ⟨j,h,q⟩=>⟨j,h,m _ q⟩) mx q⟩) mx q⟩
section
variable {X:Cx}{E:XK}{e o:Expr}{es:List Expr}{x z:Ex}{ys:List Ex}{pos apos cpos p1 p3 p4 p5 p6:Pos}{n m cx xn:Str}{C C2:Addr}{fs ps xs:List Str}{k i:Nat}{F:Fn}{pl:Sem Bool}{b0:Stmt}{suite:List Stmt}{t:Sm}
def zd0 (hu:X.A.units+1<cLine)(ho:QX X E o x)(he:QX X E e z)(m:M1 X o "get" apos e cpos):QX X E (.Call (.Attribute o "get" apos) [e] [] cpos) (.dget1 x z):=QE.imp ⟨zdl hu ho.p he.p m⟩ <| by
 k_in;refine⟨G,ρ,_,X0,hs,ab,hr,λd v G1 H1 ⟨kvs,hd,q⟩ g1 g2 g3 rd =>?_,hx⟩;obtain⟨a,kw,rfl,h1,h2⟩:=zbd hd rd;refine⟨a,rfl,.inl ⟨kw,z4K g2 h1⟩,?_⟩;refine⟨G1,ρ,_,X0,g2,ab.same g1.1,q,λb u G2 H2 ⟨j,hb,q2⟩ k1 k2 k3 rb =>?_,hx.same g3⟩;subst hb;rw[zbc rb];refine⟨_,z99 (z4K (z03 k1.1 k2) h1),?_⟩;refine hk _ _ G2 H2 q2 (g1.trans g3 k1) k2 (z03 g3 k3) ?_
 rcases h2.val (j:=j) with ⟨e1,e2⟩ | ⟨d,v,e1,e2,rv⟩
 .rw[e1,e2];exact(by rw[Option.getD_none,RD];rfl)
 .rw[e1,e2];exact rv.same k1.1
def z7R {CX:CXT}{FR:FnR}(R:Rc X.K X.mg n C)(M:Cam X.prog X.w X.K X.mg X.base CX k C m ps (spR X.K X.mg FR))(hn:m ∉ fs)(ho:QE X o (tVar i))(hr:Room k X.A)(hx:z1j CX X E)
  (ht:eval (.Call (.Attribute o m apos) [] [] pos) X.env=(do
   let ov <- eval o X.env
   standAt apos.atName
   let (f,first) <- holding [ov] (getMethod ov m pl)
   callWith pos f first (backTo pos (starEach [] X.env)) (backToKw pos (keywordEach [] X.env))):=by rfl):QXR X E (.Call (.Attribute o m apos) [] [] pos) (.meth n fs FR i []):=by
 obtain⟨f,fd,h1,h2,h3⟩:=M.ex;exact zd6 (pl:=pl) ho R.c R.m h1 hn h2 hr h3 hx ht
def zfh (hst:X.stack=X.env::X.outer/\X.env.frame=some X.env.locals)(R:Rc X.K X.mg n C)(M:Cam X.prog X.w X.K X.mg X.base (CXe X.prog X.w) k C m ps (spP X.K X.mg F))(hn:m ∉ fs)(hr:Room k X.A)(ho:∀pins xe,QX (X.within pins xe) E0 o x)(ha:∀pins xe,QXA (X.within pins xe) E0 (e::es) ys)
  (hN:X.N.Nodup) (hi:X.N[i]? = some xn) (hl:Loc X.env.scope xn) (T:Exc X.K X.mg cx C2) (hgc:Gl X cx) (hdc:(cx == ("__debug__":Str))=false) (hm:XT X.mg xs λ_ C=>W.exmOne X.K (.ref C) (.ref C2)=some true) (hs:∀ea,QZs (X.suite ea) E (b0::suite) t)
  (hf:X.fn xn=true\/X.env.scope.names.lookup xn=some .local:=by first | exact .inl rfl | exact .inr rfl)
  (hsw:swapsWith (.Call (.Attribute o m apos) (e::es) [] p3) (some (.Name xn p1)) p4.line X.env=pure false:=by rfl)
  (hse:starEach (e::es) X.env=(false,eval e X.env)::starEach es X.env:=by rfl) (hpl:(backTo p3 (starEach es X.env)).any (·.1)=false:=by rfl)
  (ht:eval (.Call (.Attribute o m apos) (e::es) [] p3) X.env=(do
   let ov <- eval o X.env
   standAt apos.atName
   let (f,first) <- holding [ov] (getMethod ov m pl)
   callWith p3 f first (backTo p3 (starEach (e::es) X.env)) (backToKw p3 (keywordEach [] X.env))):=by rfl):
  QZ X E (.Try [.Assign [.Name xn p1] (.Call (.Attribute o m apos) (e::es) [] p3) p4] [.ExceptHandler (some (.Name cx p5)) none (b0::suite) p6] [] [] pos) (.tryM i n fs F x ys xs t):=by
 obtain⟨f,fd,h1,h2,h3⟩:=M.ex;refine QS.imp (zd3 (ts:=Pu.ts X.K X.mg E t) (tb:=λD σ0=>tAsg (λσ H Q=>σ=σ0/\zcK C m (spP X.K X.mg F) [] (EN X C2 (Pu.ts X.K X.mg E t) D σ0) (tx X.K X.mg E0 x) (txa X.K X.mg E0 ys) σ H Q) (z2y i)) hst T hgc hdc hs λpins xe D σ pa=>z4M (zbm (X:=X.within pins xe) hN hi hl ⟨zdi (X:=X.within pins xe) (pl:=pl) (ho pins xe).p R.c h1 h2 hr h3 .nil pa (ha pins xe).p hse hpl ht⟩ hsw hf)) λD σ H z9 =>?_;obtain⟨H0,G0,G,ρ,N0,R0,X0,ab,hr,hn',hR,hx⟩:=z9;kt_le;refine⟨plus G H (z12 ρ σ),ρ,_,_,z1h ab.g,ab.abe,hr,λd v G1 H1 q g1 g2 g3 rd =>?_,Kx.no⟩;obtain⟨cs,rfl,q⟩:=q;have rd0:=rd;rw[RD] at rd;obtain⟨p,C',dx,vs,rfl,r1,r2,r3⟩:=rd;rw[R.m] at r2
 cases r2
 refine⟨p,dx,_,rfl,g2 _ _ r1,z46 hn,?_⟩;refine⟨G1,ρ,_,_,g2,ab.abe.same g1.1,q,λds vs G2 H2 q2 k1 k2 k3 rds =>?_,Kx.no⟩;show spP X.K X.mg F ((.ref p::vs)++[]) H2 _ _;rw[wQ];have g12:=g1.trans g3 k1;refine⟨G2,_,_,_,k2,RDs.cons (rd0.same k1.1) rds,q2,λr u G3 H3 q3 l1 l2 l3 rr =>?_,λx C' H3 q3 mC l3 =>?_⟩
 .have g13:=g12.trans (z03 g3 k3) l1;have hf':∀a,z2G i ρ σ a->G a=none:=λa ⟨j,d,_,h1,h2⟩=>ab.free a ⟨j,d,h1,h2⟩;have lm:Same G (minus G3 (z2G i ρ σ)):=z1X (z03 (z1N ab.free) g13.1) hf';exact hn' (ρ.set i (.s r)) (σ.set i (some u)) H3 _ q3.2 (ab.put (λa o e=>ab.nw1 g13 a o (z0V a o e)) lm (z03 z0V l2) (z03 g3 (z03 k3 l3)) (λj d' a hj e s=>z1r ⟨j,d',hj,e,s⟩) (z4I ab l2 (z03 g3 (z03 k3 l3)) q3.1 rr)) lm
 .refine⟨hm x C' q3.1 mC,?_⟩;obtain⟨ab2,lm2⟩:=ab.back g12 (z03 k2 l3) (z03 g3 (z03 k3 l3));exact⟨H0,G0,_,ρ,N0,R0,X0,ab2,q3.2,λρ' σ' H' G' y ab' l'=>hn' ρ' σ' H' G' y ab' (z03 lm2 l'),hR,hx⟩
end
def FnR.mkN (np nn:Nat)(b:SmR):FnR:=⟨λds W Q _=>ds.length=np/\b.run (ds.map B.s++List.replicate (nn - np) .n) W (λ_ w=>Q .non w) Q (λ_ _=>False),λds W Q Q' X X' m mx q=>⟨q.1,b.mono _ _ _ _ Q Q' _ _ (λ_ _ q1=>m _ _ q1) m (λ_ _ z=>z) q.2⟩⟩
section
variable {P:Program}{w:World}{K:W.Frag}{mg:WmP}{base:Heap}{N:List Str}{qual:Str}{f:Addr}
def fnRN {x:Str}{st:Stmt}{fd:FuncData}{ps:List Str}{k np nn:Nat}{b:SmR}(F:Fun K x qual st f fd)(S:z1U N ps (z01 st))(hp:ps.length=np)(hN:N.length=nn)
  (hb:∀(cdv:Value) (A:Around) (outer:List PySem.Env) (s:Shared) (H:Hp) (E:XK),Room k (A.deeper (envOfC qual (z01 st) s.heap.objs.size f cdv))->QRs ((cxOf (CXe P w) P w K mg base N qual (z01 st) f cdv A outer s H E).wish λ_ _=>False) E0 (z0v st) b):
  FnOk P w K mg base (CXe P w) (k+1) f fd ps (spR K mg (FnR.mkN np nn b)):=by
 refine F.okN S (λvs H Q E ⟨G,ds,W,A,Q0,X0,hs,rds,st,⟨hl,hr⟩,hk,hx⟩=>by rw[rds.len,hl,hp]) λcdv A' outer s H vs Q E hroom ⟨G,ds,W,A,Q0,X0,hs,rds,st,⟨hl,hr⟩,hk,hx⟩=>⟨_,hb cdv A' outer s H E hroom,?_⟩
 refine⟨minus H (Foot W A),G,G,_,W,A,_,Q0,λ_ _=>False,⟨(z3z hs rds hl hN).weak z0V,st,λa ha=>⟨z1r ha,z9l⟩⟩,hr,λρ' W' A' σ' H' G' q ab _ =>?_,hk,λx C H' W' A' G' z=>z.elim⟩;exact hk .non .non G' H' W' A' q ⟨ab.ab.g0,ab.ab.nw⟩ ab.ab.g ab.ab.s0 ab.st (λa ha=>(ab.no a ha).1) (by rw[RD])
end
end Pu
namespace Pu
open PySem L2
def z0b:Fn:=Fn.mkN 2 5 (.seq (.set 2 (.op pAbs [.v 0]))
 (.seq (.set 3 (.op pAbs [.v 1]))
 (.seq (.wh (.op pNe [.v 3,.c (.int 0)]) (.seq (.set 4 (.op pMod [.v 2,.v 3]))
 (.seq (.set 2 (.v 3))
 (.set 3 (.v 4)))))
 (.ret (.v 2)))))
def z0N:Fn:=Fn.mkN 2 3 (.seq (.set 2 (.op pAdd [.op z17 [.c (.int 2),.v 1],.c (.int 1)]))
 (.ret (.op pTup [.op pSub [.op pMod [.v 0,.v 2],.v 1],.op pSub [.op pMod [.op z1A [.v 0,.v 2],.v 2],.v 1]])))
def z05:Fn:=Fn.mkN 2 4 (.seq (.set 2 (.c (.int 2305843009213693951)))
 (.seq (.set 3 (.op pMod [.op z17 [.op pAdd [.op pAdd [.op pMod [.v 0,.v 2],.op z17 [.c (.int 31),.v 1]],.c (.int 7)],.c (.int 48271)],.v 2]))
 (.ret (.op z1A [.op pMod [.op z17 [.op pMod [.op z17 [.v 3,.v 3],.v 2],.c (.int 69621)],.v 2],.c (.int 7)]))))
def z0L:Fn:=Fn.mkN 3 4 (.seq (.set 3 (.op pSub [.op pMod [.op z05 [.v 0,.v 1],.op pAdd [.op z17 [.c (.int 2),.v 2],.c (.int 1)]],.v 2]))
 (.ret (.op pTup [.v 3,.op pSub [.op pMod [.op z05 [.v 0,.op pAdd [.v 1,.c (.int 1)]],.op pAdd [.op z17 [.c (.int 2),.v 2],.c (.int 1)]],.v 2]])))
def z0f:Fn:=Fn.mkN 2 2 (.seq (.wh (.op pNe [.v 1,.c (.int 0)]) (.par2 0 1 [.v 1,.op pMod [.v 0,.v 1]]))
 (.ret (.v 0)))
def z0M:Fn:=Fn.mkN 2 3 (.seq (.set 2 (.op z0f [.op pAbs [.v 0],.v 1]))
 (.ret (.op pTup [.op z1A [.v 0,.v 2],.op z1A [.v 1,.v 2]])))
def z7p:Fn:=Fn.mkN 2 7 (.seq (.set 2 (.op z0b [.op pIx [.v 0,.c (.int 1)],.op pIx [.v 1,.c (.int 1)]]))
 (.seq (.set 3 (.op z1A [.op pIx [.v 1,.c (.int 1)],.v 2]))
 (.seq (.set 4 (.op z1A [.op pIx [.v 0,.c (.int 1)],.v 2]))
 (.seq (.set 5 (.op pAdd [.op z17 [.op pIx [.v 0,.c (.int 0)],.v 3],.op z17 [.op pIx [.v 1,.c (.int 0)],.v 4]]))
 (.seq (.set 6 (.op z0b [.v 2,.v 5]))
 (.ret (.op pTup [.op z1A [.v 5,.v 6],.op z17 [.v 4,.op z1A [.op pIx [.v 1,.c (.int 1)],.v 6]]])))))))
def z1a:Fn:=Fn.mkN 1 4 (.seq (.set 1 (.op pTup [.c (.int 0),.c (.int 1)]))
 (.seq (.for_ [] (.tp [2,3]) (.v 0) (.set 1 (.op z7p [.v 1,.v 3])))
 (.ret (.v 1))))
def z2U:Fn:=Fn.mkN 1 1 (.ret (.and (.op pGt [.op pIx [.v 0,.c (.int 0)],.c (.int 0)]) (.and (.op pGt [.op pIx [.v 0,.c (.int 1)],.c (.int 0)]) (.op pEq [.op z0b [.op pIx [.v 0,.c (.int 0)],.op pIx [.v 0,.c (.int 1)]],.c (.int 1)]))))
def z1b:Fn:=Fn.mkN 2 5 (.seq (.set 2 (.op pNeg [.c (.int 1)]))
 (.seq (.for_ [] (.tp [3,4]) (.v 1) (.seq (.ifs (.or (.op pLe [.v 3,.v 2]) (.or (.op pGeI [.v 3,.op pLen [.v 0]]) (.not (.op z2U [.v 4])))) (.ret (.c (.bl false))) .skip)
 (.set 2 (.v 3))))
 (.ret (.c (.bl true)))))
def z0Q:Fn:=Fn.mkN 2 8 (.seq (.set 2 (.op z0b [.op pIx [.v 0,.c (.int 2)],.op pIx [.v 1,.c (.int 2)]]))
 (.seq (.set 3 (.op z1A [.op pIx [.v 1,.c (.int 2)],.v 2]))
 (.seq (.set 4 (.op z1A [.op pIx [.v 0,.c (.int 2)],.v 2]))
 (.seq (.set 5 (.op pAdd [.op z17 [.op pIx [.v 0,.c (.int 0)],.v 3],.op z17 [.op pIx [.v 1,.c (.int 0)],.v 4]]))
 (.seq (.set 6 (.op pAdd [.op z17 [.op pIx [.v 0,.c (.int 1)],.v 3],.op z17 [.op pIx [.v 1,.c (.int 1)],.v 4]]))
 (.seq (.set 7 (.op z0b [.op z0b [.v 2,.v 5],.v 6]))
 (.ret (.op pTup [.op z1A [.v 5,.v 7],.op z1A [.v 6,.v 7],.op z17 [.v 4,.op z1A [.op pIx [.v 1,.c (.int 2)],.v 7]]]))))))))
def z1Y:Fn:=Fn.mkN 3 4 (.seq (.set 3 (.op z0b [.op z0b [.v 2,.v 0],.v 1]))
 (.ret (.op pTup [.op z1A [.v 0,.v 3],.op z1A [.v 1,.v 3],.op z1A [.v 2,.v 3]])))
def z2d:Fn:=Fn.mkN 2 2 (.ret (.op z1Y [.op z17 [.op pIx [.v 0,.c (.int 0)],.op pIx [.v 1,.c (.int 0)]],.op z17 [.op pIx [.v 0,.c (.int 1)],.op pIx [.v 1,.c (.int 0)]],.op z17 [.op pIx [.v 0,.c (.int 2)],.op pIx [.v 1,.c (.int 1)]]]))
def z2E:Fn:=Fn.mkN 2 6 (.seq (.ifs (.not (.op z1b [.v 0,.v 1])) .never .skip)
 (.seq (.set 2 (.op pTup [.c (.int 0),.c (.int 0),.c (.int 1)]))
 (.seq (.for_ [] (.tp [3,4]) (.v 1) (.seq (.set 5 (.op pIx [.v 0,.v 3]))
 (.set 2 (.op z0Q [.v 2,.op z2d [.op pTup [.op pIx [.v 5,.c (.int 0)],.op pIx [.v 5,.c (.int 1)],.c (.int 1)],.v 4]]))))
 (.ret (.v 2)))))
def z0G:Fn:=Fn.mkN 3 4 (.seq (.set 3 (.op z0f [.op z0f [.op pAbs [.v 0],.op pAbs [.v 1]],.v 2]))
 (.ret (.op pTup [.op z1A [.v 0,.v 3],.op z1A [.v 1,.v 3],.op z1A [.v 2,.v 3]])))
def z1O:Fn:=Fn.mkN 2 7 (.seq (.set 2 (.c (.int 1)))
 (.seq (.for_ [] (.tp [3,4]) (.v 1) (.set 2 (.op z17 [.v 2,.op pIx [.v 4,.c (.int 1)]])))
 (.seq (.set 5 (.op pSum [.comp 2 [2,0] (.tp [0,1]) (.v 1) none (.op z17 [.op z17 [.op pIx [.op pIx [.v 3,.v 0],.c (.int 0)],.op pIx [.v 1,.c (.int 0)]],.op z1A [.v 2,.op pIx [.v 1,.c (.int 1)]]])]))
 (.seq (.set 6 (.op pSum [.comp 2 [2,0] (.tp [0,1]) (.v 1) none (.op z17 [.op z17 [.op pIx [.op pIx [.v 3,.v 0],.c (.int 1)],.op pIx [.v 1,.c (.int 0)]],.op z1A [.v 2,.op pIx [.v 1,.c (.int 1)]]])]))
 (.ret (.op z0G [.v 5,.v 6,.v 2]))))))
def z13:Fn:=Fn.mkN 1 4 (.seq (.set 1 (.c (.int 1)))
 (.seq (.for_ [] (.tp [2,3]) (.v 0) (.set 1 (.op z17 [.v 1,.op pIx [.v 3,.c (.int 1)]])))
 (.ret (.op z0M [.op pSum [.comp 2 [1] (.tp [0,1]) (.v 0) none (.op z17 [.op pIx [.v 1,.c (.int 0)],.op z1A [.v 2,.op pIx [.v 1,.c (.int 1)]]])],.v 1]))))
end Pu
namespace Zp
open PySem PySem.Spec PyProof.Rows L2
section
variable {prog:Program}{w:World}{A:Around}{E:WvP}{s:Shared}
def nx {j t:Addr}{n:Nat}{xs:Array Value}{x:Value}{Q:WvP}(it:s.heap.IsTupleIter j t n)(tu:s.heap.IsTuple t xs)(e:xs[n]? = some x)
  (q:∀h',h'.IsTupleIter j t (n+1)->Heap.SameBut j s.heap h'->Q x { s with heap:=h' }):wpAny (model prog w) A (Builtin.SmallTypes.nextOf (.ref j)) Q E s:=by
 obtain⟨ob,g,gc,gd⟩:=id it;obtain⟨ot,gt,_,nt,gdt⟩:=tu
 delta Builtin.SmallTypes.nextOf
 refine wa (vK (name:=Str.ofString "__next__") it.typeIs v8 (v9 v8 it.typeIs F.entry_tuple_iterator_next ?_ (F.args_tuple_iterator_next_1 _)));show wpAny _ _ (PySem.field (.ref j) 0 >>= _) _ _ s;refine wa (vJ g gd (x :=.ref t) rfl ?_);show wpAny _ _ (if (Value.ref t == Value.none)=true then _ else (PySem.field (.ref j) 1 >>= _)) _ _ s;rw[if_neg (show ¬ (Value.ref t == Value.none)=true from wM)];refine wa (vJ g gd (x :=.int n 0) rfl ?_);show wpAny _ _ (seqItems? (.ref t) >>= λ_=>_) _ _ s;refine wa (ud gt gdt ?_);simp only[Int.toNat_natCast,e];refine wa (wpAny_setField g gd (by simp) (wv ⟨x,rfl,wv (q _ ⟨_,Heap.get?_update_self _ g (Obj.isFreed_of_fields (Obj.data_mapFields gd _)),(Obj.cls_mapFields ..).trans gc,by rw[Obj.data_mapFields gd];simp[rawInt]⟩ (Heap.SameBut.update ..))⟩))
def nxE {j t:Addr}{n:Nat}{xs:Array Value}{Q:WvP}(hh:A.handled=none)(it:s.heap.IsTupleIter j t n)(tu:s.heap.IsTuple t xs)(e:xs[n]? = none)
  (q:∀h' z,Heap.ExtBut j s.heap h'->(∃o,h'.get? z=some o/\o.cls = .type "StopIteration")->E (.ref z) { s with heap:=h' }):wpAny (model prog w) A (Builtin.SmallTypes.nextOf (.ref j)) Q E s:=by
 obtain⟨ob,g,gc,gd⟩:=id it;obtain⟨ot,gt,_,nt,gdt⟩:=tu
 delta Builtin.SmallTypes.nextOf
 refine wa (vK (name:=Str.ofString "__next__") it.typeIs v8 (v9 v8 it.typeIs F.entry_tuple_iterator_next ?_ (F.args_tuple_iterator_next_1 _)));show wpAny _ _ (PySem.field (.ref j) 0 >>= _) _ _ s;refine wa (vJ g gd (x :=.ref t) rfl ?_);show wpAny _ _ (if (Value.ref t == Value.none)=true then _ else (PySem.field (.ref j) 1 >>= _)) _ _ s;rw[if_neg (show ¬ (Value.ref t == Value.none)=true from wM)];refine wa (vJ g gd (x :=.int n 0) rfl ?_);show wpAny _ _ (seqItems? (.ref t) >>= λ_=>_) _ _ s;refine wa (ud gt gdt ?_);simp only[Int.toNat_natCast,e];refine wa (wpAny_rule (wa (wpAny_setField g gd (by simp) (show wpAny _ _ (newExc (.type "StopIteration") [] >>= λ_=>_) _ _ _ from wa ?_))));simp only[newExc,newTuple];refine wa (vn (wa (m:=firstArgMember _ _) (wpAny_of_eq (a:=Value.none) (by first | rfl | (simp only[firstArgMember];rfl)) (vn ?_ (by size_fits)))) (by size_fits));simp only[raiseNew];refine wa (wpAny_handled ?_)
 first | rw[show A.in1.handled=none from hh] | rw[hh]
 exact wa (wv (wpAny_throw (q _ _ (((Heap.SameBut.update ..).extBut.push _).push _) ⟨_,wB _ rfl,rfl⟩)))
structure St (h:Heap)(z TI TO i1 i2 t1 t2:Addr)(f:Value)(n:Nat):Prop where
 z:IsZip h z TI TO f
 ti:IsPair h TI (.ref i1) (.ref i2)
 to:∃a b,IsPair h TO a b
 a:h.IsTupleIter i1 t1 n
 b:h.IsTupleIter i2 t2 n
def tat {h h':Heap}{t:Addr}{xs:Array Value}(x:h.IsTuple t xs)(k:∀o,h.get? t=some o->h'.get? t=some o):h'.IsTuple t xs:=by
 obtain⟨o,e,r⟩:=x;exact⟨o,k o e,r⟩
variable {z TI TO i1 i2 t1 t2:Addr}{n:Nat}{xs ys:Array Value}{x y:Value}
def item {Q:Option Value->Shared->Prop}(D:ZipApart z TI TO i1 i2 t1 t2)(S:St s.heap z TI TO i1 i2 t1 t2 .none n)(hx:s.heap.IsTuple t1 xs)(hy:s.heap.IsTuple t2 ys)(ex:xs[n]? = some x)(ey:ys[n]? = some y)
  (q:∀h',St h' z TI TO i1 i2 t1 t2 (rawInt s.heap.objs.size) (n+1)->IsPair h' s.heap.objs.size x y->h'.objs.size=s.heap.objs.size+1->(∀c o,c≠z->c≠TO->c≠i1->c≠i2->s.heap.get? c=some o->h'.get? c=some o)->Q (some (.ref s.heap.objs.size)) { s with heap:=h' }):
  wpAny (model prog w) A (pyNext (.ref z)) Q E s:=by
 obtain⟨sz,sti,⟨pa,pb,sto⟩,sa,sb⟩:=S;have ty:s.TypeIs (.ref z) "zip":=⟨_,sz,rfl⟩
 delta pyNext
 refine wa (wpAny_attempt (vK (name:=Str.ofString "__next__") ty F.slot_zip_next (v9 F.slot_zip_next ty F.entry_zip_next ?_ (F.args_zip_next_1 _))));show wpAny _ _ (PySem.field (.ref z) 2 >>= λ_=>_) _ _ _;kln_w;show wpAny _ _ (Builtin.SmallTypes.ownedTupleIsFree (.ref z) >>= λ_=>_) _ _ _;refine wa ?_
 delta Builtin.SmallTypes.ownedTupleIsFree
 refine wa (vJ sz rfl (x:=Value.none) rfl (wv ?_));simp only[uZ];refine wa (wpAny_rule (wa (vJ sz rfl (x:=Value.ref TO) rfl (wa (ua sz (by simp) λg1 z1 k1 =>?_)))))
 replace z1:IsZip g1 z TI TO .ellipsis:=z1
 refine wa ?_;simp only[List.zipIdx_cons,List.zipIdx_nil,List.forIn_cons,List.forIn_nil];refine wa (wa (wpAny_onRaise (show wpAny _ _ (Builtin.SmallTypes.nextOf (.ref i1) >>= λ_=>_) _ _ _ from wa (nx (sa.extBut k1.extBut D.i1z) (tat hx λo e=>k1.extBut _ _ D.l1z e) ex λg2 a2 k2=>wv ?_))));have o2:IsPair g2 TO pa pb:=k2.extBut _ _ D.TOi1 (k1.extBut _ _ D.TOz sto);refine wa (ud o2 rfl (wa (wpAny_updateSeq_pair o2 λg3 o3 k3 =>?_)))
 replace o3:IsPair g3 TO x pb:=o3
 refine wa (wpAny_letGo (wv ?_));refine wa (wa (wpAny_onRaise (show wpAny _ _ (Builtin.SmallTypes.nextOf (.ref i2) >>= λ_=>_) _ _ _ from wa (nx (((sb.extBut k1.extBut D.i2z).extBut k2.extBut D.i12.symm).extBut k3.extBut D.TOi2.symm)
  (tat hy λo e=>k3.extBut _ _ D.l2TO (k2.extBut _ _ D.l2i1 (k1.extBut _ _ D.l2z e))) ey λg4 b4 k4=>wv ?_))))
 have o4:IsPair g4 TO x pb:=k4.extBut _ _ D.TOi2 o3;refine wa (ud o4 rfl (wa (wpAny_updateSeq_pair o4 λg5 o5 k5 =>?_)))
 replace o5:IsPair g5 TO x y:=o5
 refine wa (wpAny_letGo (wv (wv (wa (ud o5 rfl (wa (wpAny_newTuple ?_)))))));have sze:g5.objs.size=s.heap.objs.size:=by rw[k5.1,k4.1,k3.1,k2.1,k1.1]
 have z5:IsZip g5 z TI TO .ellipsis:=k5.extBut _ _ D.TOz.symm (k4.extBut _ _ D.i2z.symm (k3.extBut _ _ D.TOz.symm (k2.extBut _ _ D.i1z.symm z1)));have kk:∀c o,c≠z->c≠TO->c≠i1->c≠i2->s.heap.get? c=some o->g5.get? c=some o:=λc o c1 c2 c3 c4 e=>k5.extBut _ _ c2 (k4.extBut _ _ c4 (k3.extBut _ _ c2 (k2.extBut _ _ c3 (k1.extBut _ _ c1 e))));have a5:g5.IsTupleIter i1 t1 (n+1):=((a2.extBut k3.extBut D.TOi1.symm).extBut k4.extBut D.i12).extBut k5.extBut D.TOi1.symm;have b5:g5.IsTupleIter i2 t2 (n+1):=b4.extBut k5.extBut D.TOi2.symm;have zlt:z<g5.objs.size:=wE z5;show wpAny _ _ (Builtin.SmallTypes.ownedTupleHandOut (.ref z) (.ref g5.objs.size) >>= λ_=>_) _ _ _;refine wa ?_
 delta Builtin.SmallTypes.ownedTupleHandOut
 have z6:IsZip (g5.push { cls :=.type "tuple",data :=.seq #[x,y] }) z TI TO .ellipsis:=wm _ z5;refine wa (ua z6 (by simp) λg7 z7 k7 =>?_)
 replace z7:IsZip g7 z TI TO (rawInt g5.objs.size):=z7
 refine ua z7 (by simp) λg8 z8 k8 =>?_
 replace z8:IsZip g8 z TI TO (rawInt g5.objs.size):=z8
 have up:∀c o,c≠z->g5.get? c=some o->g8.get? c=some o:=λc o c1 e=>k8.extBut _ _ c1 (k7.extBut _ _ c1 (wm _ e));have tp:IsPair g8 g5.objs.size x y:=k8.extBut _ _ (Nat.ne_of_gt zlt) (k7.extBut _ _ (Nat.ne_of_gt zlt) (wB _ rfl));have s8:g8.objs.size=g5.objs.size+1:=by rw[k8.1,k7.1,ub]
 rw[sze] at z8 tp s8;refine wv ⟨_,rfl,wv ?_⟩;show Q (some (.ref g5.objs.size)) _;rw[sze];exact q g8 ⟨z8,up _ _ D.TIz (kk _ _ D.TIz D.TITO D.TIi1 D.TIi2 sti),⟨_,_,up _ _ D.TOz o5⟩,a5.at λo e=>up _ o D.i1z e,b5.at λo e=>up _ o D.i2z e⟩ tp s8 λc o c1 c2 c3 c4 e=>up c o c1 (kk c o c1 c2 c3 c4 e)
def fin {Q:Option Value->Shared->Prop}(hh:A.handled=none)(D:ZipApart z TI TO i1 i2 t1 t2)(S:St s.heap z TI TO i1 i2 t1 t2 .none n)(hx:s.heap.IsTuple t1 xs)(hy:s.heap.IsTuple t2 ys)(e:xs[n]? = none\/ys[n]? = none)
  (q:∀h',(∀c o,c≠z->c≠TO->c≠i1->c≠i2->s.heap.get? c=some o->h'.get? c=some o)->Q none { s with heap:=h' }):wpAny (model prog w) A (pyNext (.ref z)) Q E s:=by
 obtain⟨sz,sti,⟨pa,pb,sto⟩,sa,sb⟩:=S;have ty:s.TypeIs (.ref z) "zip":=⟨_,sz,rfl⟩
 have stop:∀h' v,(∀c o,c≠z->c≠TO->c≠i1->c≠i2->s.heap.get? c=some o->h'.get? c=some o)->(∃o,h'.get? v=some o/\o.cls = .type "StopIteration")->wpAny (model prog w) A (isInstance (.ref v) (.type "StopIteration") >>= λb=>if b=true then pure none else throw (Value.ref v)) Q E { s with heap:=h' }:=λh' v kk ⟨o,ho,hc⟩=>
  wa (wpAny_isInstance (T:="StopIteration") (b:=true) ⟨o,ho,hc⟩ isSubtype_stop (wv (q _ kk)))
 delta pyNext
 refine wa (wpAny_attempt (vK (name:=Str.ofString "__next__") ty F.slot_zip_next (v9 F.slot_zip_next ty F.entry_zip_next ?_ (F.args_zip_next_1 _))));show wpAny _ _ (PySem.field (.ref z) 2 >>= λ_=>_) _ _ _;kln_w;show wpAny _ _ (Builtin.SmallTypes.ownedTupleIsFree (.ref z) >>= λ_=>_) _ _ _;refine wa ?_
 delta Builtin.SmallTypes.ownedTupleIsFree
 refine wa (vJ sz rfl (x:=Value.none) rfl (wv ?_));simp only[uZ];refine wa (wpAny_rule (wa (vJ sz rfl (x:=Value.ref TO) rfl (wa (ua sz (by simp) λg1 z1 k1 =>?_)))))
 replace z1:IsZip g1 z TI TO .ellipsis:=z1
 refine wa ?_;simp only[List.zipIdx_cons,List.zipIdx_nil,List.forIn_cons,List.forIn_nil];refine wa (wa (wpAny_onRaise (show wpAny _ _ (Builtin.SmallTypes.nextOf (.ref i1) >>= λ_=>_) _ _ _ from wa ?_)))
 cases ex:xs[n]? with
 | none=>
  refine nxE hh (sa.extBut k1.extBut D.i1z) (tat hx λo e=>k1.extBut _ _ D.l1z e) ex λg2 v k2 hv =>?_;obtain⟨oe,hoe,hce⟩:=hv;have z2:IsZip g2 z TI TO .ellipsis:=k2 _ _ D.i1z.symm z1;have ne:v≠z:=λw=>by subst w;rw[z2] at hoe;cases hoe;simp at hce
  exact ua z2 (by simp) λg3 _ k3=>stop g3 v (λc o c1 _ c3 _ w=>k3.extBut _ _ c1 (k2 _ _ c3 (k1.extBut _ _ c1 w))) ⟨oe,k3.extBut _ _ ne hoe,hce⟩
 | some x=>
  have ey:ys[n]? = none:=e.resolve_left (by rw[ex];exact λw=>nomatch w);refine nx (sa.extBut k1.extBut D.i1z) (tat hx λo e=>k1.extBut _ _ D.l1z e) ex λg2 a2 k2=>wv ?_;have o2:IsPair g2 TO pa pb:=k2.extBut _ _ D.TOi1 (k1.extBut _ _ D.TOz sto);refine wa (ud o2 rfl (wa (wpAny_updateSeq_pair o2 λg3 o3 k3 =>?_)));refine wa (wpAny_letGo (wv ?_));refine wa (wa (wpAny_onRaise (show wpAny _ _ (Builtin.SmallTypes.nextOf (.ref i2) >>= λ_=>_) _ _ _ from wa (nxE hh (((sb.extBut k1.extBut D.i2z).extBut k2.extBut D.i12.symm).extBut k3.extBut D.TOi2.symm)
   (tat hy λo e=>k3.extBut _ _ D.l2TO (k2.extBut _ _ D.l2i1 (k1.extBut _ _ D.l2z e))) ey λg4 v k4 hv =>?_))))
  obtain⟨oe,hoe,hce⟩:=hv;have z4:IsZip g4 z TI TO .ellipsis:=k4 _ _ D.i2z.symm (k3.extBut _ _ D.TOz.symm (k2.extBut _ _ D.i1z.symm z1));have ne:v≠z:=λw=>by subst w;rw[z4] at hoe;cases hoe;simp at hce
  exact ua z4 (by simp) λg5 _ k5=>stop g5 v (λc o c1 c2 c3 c4 w=>k5.extBut _ _ c1 (k4 _ _ c4 (k3.extBut _ _ c2 (k2.extBut _ _ c3 (k1.extBut _ _ c1 w))))) ⟨oe,k5.extBut _ _ ne hoe,hce⟩
end
abbrev mk1 (h:Heap)(t:Addr):Heap:=h.push { cls :=.type "tuple_iterator",data :=.fields #[.ref t,.int 0 0] }
abbrev mk3 (h:Heap)(t1 t2:Addr):Heap:=((mk1 (mk1 h t1) t2).push { cls :=.type "tuple",data :=.seq #[.ref h.objs.size,.ref (mk1 h t1).objs.size] }).push { cls :=.type "tuple",data :=.seq #[.none,.none] }
abbrev mk5 (h:Heap)(t1 t2:Addr):Heap:=(mk3 h t1 t2).push { cls :=.type "zip",data :=.fields #[.none,.bool false,.bool false,.ref (mk1 (mk1 h t1) t2).objs.size,.ref ((mk1 (mk1 h t1) t2).push { cls :=.type "tuple",data :=.seq #[.ref h.objs.size,.ref (mk1 h t1).objs.size] }).objs.size] }
def newZ (t1 t2:Addr)(xs ys:Array Value):Meets (Builtin.«zip.__new__» ⟨[.type "zip",.ref t1,.ref t2],[]⟩) (λ_ R s=>s.heap.IsTuple t1 xs/\s.heap.IsTuple t2 ys/\R (.ok (.ret (.ref (mk3 s.heap t1 t2).objs.size))) { s with heap:=mk5 s.heap t1 t2 }):=
 .of_wp λprog w A R s h=>by
  obtain⟨hp,g,d,tk,os⟩:=s;obtain⟨a1,a2,h⟩:=h;have sub:=sub_zip;have b1:Heap.IsTuple (Shared.heap ⟨hp,g,d,tk,os⟩) t1 xs:=a1;have b2:Heap.IsTuple (Shared.heap ⟨mk1 hp t1,g,d,tk,os⟩) t2 ys:=Heap.IsTuple.push a2 _
  wp_walk using wpAny_pyIter_tuple b1,wpAny_pyIter_tuple b2
  exact⟨_,rfl,h⟩
section
variable {prog:Program}{w:World}{A:Around}{E:WvP}{s:Shared}{t1 t2:Addr}{xs ys:Array Value}
def zkr {Q:WvP}(h1:s.heap.IsTuple t1 xs)(h2:s.heap.IsTuple t2 ys)
  (q:∀h',St h' (s.heap.objs.size+4) (s.heap.objs.size+2) (s.heap.objs.size+3) s.heap.objs.size (s.heap.objs.size+1) t1 t2 .none 0->(∀c o,s.heap.get? c=some o->h'.get? c=some o)->Q (.ref (s.heap.objs.size+4)) { s with heap:=h' }):
  wpAny (model prog w) A (call (.type "zip") [.ref t1,.ref t2]) Q E s:=by
 refine callType_new F.called_zip (by decide) (F.typeCall_zip_2 _ _) (F.newCall_zip_2 _ _) (λobj=>F.args_object_init_3 obj _ _) F.entry_zip_new (newZ t1 t2 xs ys) ⟨h1,h2,?_⟩;have n1:(mk1 s.heap t1).objs.size=s.heap.objs.size+1:=ub ..;have n2:(mk1 (mk1 s.heap t1) t2).objs.size=s.heap.objs.size+2:=by rw[ub,n1]
 have n3:((mk1 (mk1 s.heap t1) t2).push { cls :=.type "tuple",data :=.seq #[.ref s.heap.objs.size,.ref (mk1 s.heap t1).objs.size] }).objs.size=s.heap.objs.size+3:=by rw[ub,n2]
 have n4:(mk3 s.heap t1 t2).objs.size=s.heap.objs.size+4:=by rw[ub,n3]
 have up1:∀{h:Heap}{c:Addr}{o o':Obj},h.get? c=some o->(h.push o').get? c=some o:=λe=>wm _ e;have e5:(mk5 s.heap t1 t2).get? (mk3 s.heap t1 t2).objs.size=some _:=wB _ rfl;have e4:(mk5 s.heap t1 t2).get? ((mk1 (mk1 s.heap t1) t2).push { cls :=.type "tuple",data :=.seq #[.ref s.heap.objs.size,.ref (mk1 s.heap t1).objs.size] }).objs.size=some _:=up1 (wB _ rfl);have e3:(mk5 s.heap t1 t2).get? (mk1 (mk1 s.heap t1) t2).objs.size=some _:=up1 (up1 (wB _ rfl));have e2:(mk5 s.heap t1 t2).get? (mk1 s.heap t1).objs.size=some _:=up1 (up1 (up1 (wB _ rfl)));have e1:(mk5 s.heap t1 t2).get? s.heap.objs.size=some _:=up1 (up1 (up1 (up1 (wB _ rfl))));show _/\_;rw[n4,n2,n3] at e5;rw[n3] at e4;rw[n1,n2] at e3;rw[n1] at e2;rw[n4];exact⟨⟨_,e5,rfl⟩,q _ ⟨e5,e3,⟨_,_,e4⟩,⟨_,e1,rfl,rfl⟩,⟨_,e2,rfl,rfl⟩⟩ λc o e=>up1 (up1 (up1 (up1 (up1 e))))⟩
end
end Zp
namespace L2
open PySem PySem.Spec PyProof.Rows
section
variable {X:Cx}{pins:List (Addr × Obj)}{σ:List (Option V)}{H H':Hp}{s:Shared}{h':Heap}
def Inv.turnedL {t':Nat}{fp:List Addr}(I:Inv X pins σ H s)(k:∀b o,b ∉ fp->s.heap.get? b=some o->h'.get? b=some o)(hf:∀b∈fp,FpOk X pins H b):Inv X pins σ H { s with heap:=h',toks:=t' }:=by
 have nit:∀b u,H b=some u->b ∉ fp:=λb u e z=>by rw[(hf b z).1] at e;cases e
 have hL:X.env.locals ∉ fp:=λz=>(hf _ z).2.1 rfl;refine I.step (g':=s.gens) (d':=s.drawn) (ch:=fp) (λb hb =>?_) (λb o _ _ hc e _=>k b o hc e) (λb o _ _ hc e _=>⟨o.slots,k b o hc e⟩) (λ_ _ _ _ n=>n)
  (λb o hc e=>⟨o,k b o hc e⟩) (λ_ _ e=>e) (λ_ _ _ e=>e) (λb ps e=>⟨#[],by rw[e];simp⟩) (λm hm =>?_) (λb u e =>?_) I.bare
 .obtain⟨f0,f1,f2,f3,f4,f5⟩:=hf b hb;exact⟨f3,f1,f4,f5⟩
 .obtain⟨o,es,ep,ho,r⟩:=hm;exact⟨o,es,ep,k _ o hL ho,r⟩
 .refine(I.hok b u e).stay (λc v hc q=>k c v ?_ q) (λ_ q=>q) λ_ _ q=>q
  rcases hc with z | z
  .rw[z];exact nit b u e
  .exact nit c _ z
end
end L2
namespace Zp
open PySem PySem.Spec PyProof.Rows L2
def Sk:Bool->W.Frag->Hp->Addr->List V->Prop
 | true=>SqT
 | false=>SqL
def Sh':Bool->Heap->Addr->Array Value->Prop
 | true=>Heap.IsTuple
 | false=>Heap.IsList
def Ik:Bool->Heap->Addr->Addr->Nat->Prop
 | true=>Heap.IsTupleIter
 | false=>Heap.IsListIter
def Ik.ob {k:Bool}{h:Heap}{j t:Addr}{n:Nat}(x:Ik k h j t n):∃o,h.get? j=some o/\(∀v,o.data ≠ .cell v)/\∀h':Heap,(∀o,h.get? j=some o->h'.get? j=some o)->Ik k h' j t n:=by
 cases k
 all_goals
  obtain⟨o,e,c,d⟩:=x;exact⟨o,e,(λv z=>by rw[d] at z;cases z),λh' q=>⟨o,q o e,c,d⟩⟩
structure Stk (k:Bool)(h:Heap)(z TI TO i1 i2 t1 t2:Addr)(f:Value)(n:Nat):Prop where
 z:IsZip h z TI TO f
 ti:IsPair h TI (.ref i1) (.ref i2)
 to:∃a b,IsPair h TO a b
 a:Ik k h i1 t1 n
 b:Ik k h i2 t2 n
def z6v {X:Cx}{pins:List (Addr × Obj)}{σ:List (Option V)}{H:Hp}{s:Shared}{a:Addr}{xs:List V}{k:Bool}(I:Inv X pins σ H s)(h:Sk k X.K H a xs):(∃its:List Value,Vals xs its/\Sh' k s.heap a its.toArray)/\∀ys,Sk k X.K H a ys->ys=xs:=by
 cases k with
 | true=>obtain⟨us,r,p,_⟩:=I.tuple h;exact⟨⟨us,r,p⟩,λys hy=>I.tuple_inj hy h⟩
 | false=>obtain⟨us,r,p,_⟩:=I.list h;exact⟨⟨us,r,p.isList⟩,λys hy=>I.list_inj hy h⟩
def zgR {k:Bool}{h:Heap}{a:Addr}{xs:Array Value}(x:Sh' k h a xs):a<h.objs.size:=by
 cases k <;> (obtain⟨o,e,_⟩:=x;exact wE e)
section
variable {prog:Program}{w:World}{A:Around}{E:WvP}{s:Shared}{k:Bool}{z TI TO i1 i2 t1 t2:Addr}{n:Nat}{xs ys:Array Value}{x y:Value}
def zkd {Q:Option Value->Shared->Prop}(D:ZipApart z TI TO i1 i2 t1 t2)(S:Stk k s.heap z TI TO i1 i2 t1 t2 .none n)(hx:Sh' k s.heap t1 xs)(hy:Sh' k s.heap t2 ys)(ex:xs[n]? = some x)(ey:ys[n]? = some y)
  (q:∀h',Stk k h' z TI TO i1 i2 t1 t2 (rawInt s.heap.objs.size) (n+1)->IsPair h' s.heap.objs.size x y->h'.objs.size=s.heap.objs.size+1->(∀c o,c≠z->c≠TO->c≠i1->c≠i2->s.heap.get? c=some o->h'.get? c=some o)->Q (some (.ref s.heap.objs.size)) { s with heap:=h' }):
  wpAny (model prog w) A (pyNext (.ref z)) Q E s:=by
 obtain⟨a1,a2,⟨pa,pb,a3⟩,a4,a5⟩:=S
 cases k with
 | true=>exact item D ⟨a1,a2,⟨pa,pb,a3⟩,a4,a5⟩ hx hy ex ey λh' S'=>q h' ⟨S'.z,S'.ti,S'.to,S'.a,S'.b⟩
 | false=>exact wpAny_pyNext_zip_item D a1 a2 a3 a4 a5 hx hy ex ey λh' b1 b2 b3 b4 b5 b6 b7=>q h' ⟨b1,b7 TI _ D.TIz D.TITO D.TIi1 D.TIi2 a2,⟨_,_,b2⟩,b3,b4⟩ b5 b6 b7
def finK {Q:Option Value->Shared->Prop}(hh:A.handled=none)(D:ZipApart z TI TO i1 i2 t1 t2)(S:Stk k s.heap z TI TO i1 i2 t1 t2 .none n)(hx:Sh' k s.heap t1 xs)(hy:Sh' k s.heap t2 ys)(e:xs[n]? = none\/ys[n]? = none)
  (q:∀h',(∀c o,c≠z->c≠TO->c≠i1->c≠i2->s.heap.get? c=some o->h'.get? c=some o)->Q none { s with heap:=h' }):wpAny (model prog w) A (pyNext (.ref z)) Q E s:=by
 obtain⟨a1,a2,⟨pa,pb,a3⟩,a4,a5⟩:=S
 cases k with
 | true=>exact fin hh D ⟨a1,a2,⟨pa,pb,a3⟩,a4,a5⟩ hx hy e q
 | false=>exact wpAny_pyNext_zip_end hh D a1 a2 a3 a4 a5 hx hy e q
def zks {Q:WvP}(h1:Sh' k s.heap t1 xs)(h2:Sh' k s.heap t2 ys)
  (q:∀h',Stk k h' (s.heap.objs.size+4) (s.heap.objs.size+2) (s.heap.objs.size+3) s.heap.objs.size (s.heap.objs.size+1) t1 t2 .none 0->(∀c o,s.heap.get? c=some o->h'.get? c=some o)->Q (.ref (s.heap.objs.size+4)) { s with heap:=h' }):
  wpAny (model prog w) A (call (.type "zip") [.ref t1,.ref t2]) Q E s:=by
 cases k with
 | true=>exact zkr h1 h2 λh' S=>q h' ⟨S.z,S.ti,S.to,S.a,S.b⟩
 | false=>exact call_zip_2 h1 h2 λh' b1 b2 b3 b4 b5 b6 b7=>q h' ⟨b1,b2,⟨_,_,b3⟩,b4,b5⟩ b7
end
def Itz (k:Bool)(K:W.Frag)(t1 t2:Addr):It:=
 ⟨λi H=>∃xs ys x y,Sk k K H t1 xs/\Sk k K H t2 ys/\xs[i]? = some x/\ys[i]? = some y,
  λi H v H'=>∃p x y,v = .ref p/\H p=none/\H'=upd H p (.tup [x,y])/\∀xs ys,Sk k K H t1 xs->Sk k K H t2 ys->xs[i]? = some x/\ys[i]? = some y,
  λi H=>∃xs ys,Sk k K H t1 xs/\Sk k K H t2 ys/\(xs.length<=i\/ys.length<=i)⟩
def zcF {k:Bool}{P:Program}{w:World}{K:W.Frag}{es:List Expr}{kk:Nat}{pos:Pos}{z TI TO i1 i2 t1 t2:Addr}(D:ZipApart z TI TO i1 i2 t1 t2):Turn P w K (.Tuple es kk pos) (Itz k K t1 t2) [z,TO,i1,i2,TI] z (λi h=>Stk k h z TI TO i1 i2 t1 t2 .none i) where
 mem:=by simp
 obj:=λi h st b hb=>by
  obtain⟨sz,sti,⟨pa,pb,sto⟩,sa,sb⟩:=st;obtain⟨oa,ea,da,_⟩:=sa.ob;obtain⟨ob,eb,db,_⟩:=sb.ob;simp only[wf,wC,vj] at hb
  rcases hb with rfl | rfl | rfl | rfl | rfl
  .exact⟨_,sz,λv q=>by cases (show Data.fields _=Data.cell v from q)⟩
  .exact⟨_,sto,λv q=>by cases (show Data.seq _ _=Data.cell v from q)⟩
  .exact⟨_,ea,da⟩
  .exact⟨_,eb,db⟩
  .exact⟨_,sti,λv q=>by cases (show Data.seq _ _=Data.cell v from q)⟩
 keep:=λi h h' st kp=>by
  obtain⟨sz,sti,⟨pa,pb,sto⟩,sa,sb⟩:=st;obtain⟨_,_,_,ka⟩:=sa.ob;obtain⟨_,_,_,kb⟩:=sb.ob;exact⟨kp z (by simp) _ sz,kp TI (by simp) _ sti,⟨pa,pb,kp TO (by simp) _ sto⟩,ka _ λo e=>kp i1 (by simp) o e,kb _ λo e=>kp i2 (by simp) o e⟩
 item:=by
  k_ne;subst hP hw hK;obtain⟨xs,ys,x,y,q1,q2,ex,ey⟩:=hg;obtain⟨⟨us,r1,p1⟩,j1⟩:=z6v I q1;obtain⟨⟨vs,r2,p2⟩,j2⟩:=z6v I q2;obtain⟨u,hu,ru⟩:=r1.get ex;obtain⟨v,hv,rv⟩:=r2.get ey;refine zkd D st p1 p2 (x:=u) (y:=v) (by simpa using hu) (by simpa using hv) λh' S' tp _ kp=>⟨_,rfl,?_⟩
  refine wpAny_letOwnedTupleGo_zip S'.z λh2 z2 k2 =>?_;have lt:∀{b o},s.heap.get? b=some o->b≠s.heap.objs.size:=λe=>wT (wE e);have ob:∀b∈[z,TO,i1,i2,TI],b≠s.heap.objs.size:=λb hb=>by
   obtain⟨sz,sti,⟨pa,pb,sto⟩,sa,sb⟩:=st;obtain⟨oa,ea,_⟩:=sa.ob;obtain⟨oo,eb,_⟩:=sb.ob;simp only[wf,wC,vj] at hb
   rcases hb with rfl | rfl | rfl | rfl | rfl
   .exact lt sz
   .exact lt sto
   .exact lt ea
   .exact lt eb
   .exact lt sti
  have hz:z≠s.heap.objs.size:=ob z (by simp);have new:(s.heap.push { cls :=.type "tuple",data :=.seq #[u,v] }).get? s.heap.objs.size=some { cls :=.type "tuple",data :=.seq #[u,v] }:=wB _ rfl;have I1:Inv X pins σ (upd H s.heap.objs.size (.tup [x,y])) { s with heap:=s.heap.push { cls :=.type "tuple",data :=.seq #[u,v] },toks:=s.toks }:=
   I.laid (λ_ _ q=>wm _ q) (wG _) ⟨wX (show 2<=64 by decide) (by decide),[u,v],.cons ru (.cons rv .nil),⟨_,wB _ rfl,rfl,_,rfl⟩,_,wB _ rfl,rfl⟩
  have hf1:∀b∈[z,TO,i1,i2,TI],FpOk X pins (upd H s.heap.objs.size (.tup [x,y])) b:=λb hb=>by
   obtain⟨f0,f⟩:=hf b hb;exact⟨by rw[z02 (ob b hb)];exact f0,f⟩
  have I2:Inv X pins σ (upd H s.heap.objs.size (.tup [x,y])) { s with heap:=h2,toks:=s.toks }:=I1.turnedL (t':=s.toks) (λb o hb e=>by
   simp only[wf,wC,vj,not_or] at hb;obtain⟨b1,b2,b3,b4,b5⟩:=hb;refine k2.extBut _ _ b1 ?_
   by_cases he:b=s.heap.objs.size
   .subst he;rw[new] at e
    cases e
    exact tp
   .rw[Heap.get?_push_ne _ _ _ he] at e;exact kp b o b1 b2 b3 b4 e) hf1
  refine⟨.ref s.heap.objs.size,_,I2,rfl,⟨_,x,y,rfl,I.fresh,rfl,λas bs ha hb=>⟨by rw[j1 as ha];exact ex,by rw[j2 bs hb];exact ey⟩⟩,⟨z2,k2.extBut _ _ D.TIz S'.ti,?_,(let ⟨_,_,_,q⟩:=S'.a.ob;q _ λo e=>k2.extBut _ o D.i1z e),(let ⟨_,_,_,q⟩:=S'.b.ob;q _ λo e=>k2.extBut _ o D.i2z e)⟩,λb hb=>(hf1 b hb).1⟩;obtain⟨pa,pb,e⟩:=S'.to;exact⟨pa,pb,k2.extBut _ _ D.TOz e⟩
 done:=by
  k_ne;subst hP hw hK;obtain⟨xs,ys,q1,q2,e⟩:=hg;obtain⟨⟨us,r1,p1⟩,_⟩:=z6v I q1;obtain⟨⟨vs,r2,p2⟩,_⟩:=z6v I q2;have l1:=r1.length;have l2:=r2.length;refine finK (I.ok.hd hc) D st p1 p2 (e.imp (λq=>by simp;lia) λq=>by simp;lia) λh' kp=>⟨rfl,I.turnedL (t':=s.toks) (λb o hb e =>?_) hf⟩
  simp only[wf,wC,vj,not_or] at hb;exact kp b o hb.1 hb.2.1 hb.2.2.1 hb.2.2.2.1 e
 self:=λ_ _ _ _ _ st h=>wpAny_pyIter_zip st.z h
def iZip (K:W.Frag)(ta:TA):TI:=λσ H R=>ta σ H λvs H1=>∃k a b,vs=[.ref a,.ref b]/\(∃xs,Sk k K H1 a xs)/\(∃ys,Sk k K H1 b ys)/\R (Itz k K a b) H1
section
variable {X:Cx}{es:List Expr}{kk:Nat}{tp:Pos}
def zhN {a b:Expr}{ta:TA}{p pos:Pos}(hg:Gl X "zip")(hm:X.mg "zip"=none)(ha:PA X [a,b] ta)(hs:starEach [a,b] X.env=[(false,eval a X.env),(false,eval b X.env)]:=by rfl)(hs2:starEach [b] X.env=[(false,eval b X.env)]:=by rfl):PI X (.Tuple es kk tp) (.Call (.Name "zip" p) [a,b] [] pos) (iZip X.K ta):=by
 intro pins s σ H R I h;refine Call_ (z8a I hg hm (show bootBuiltins "zip"=some (.type "zip") from rfl) (uB (thn (ha pos pins s σ H _ I h) λus s1 z9 =>?_) (by rw[hs,hs2]) (by rw[hs2];rfl)));obtain⟨vs,H1,I1,r1,q1⟩:=z9;obtain⟨k,t1,t2,e,⟨xs,q2⟩,⟨ys,q3⟩,q⟩:=q1;subst e
 cases r1 with
 | cons r rr=>
  cases rr with
  | cons r' rr=>
   cases rr
   cases (show _=Value.ref t1 from r)
   cases (show _=Value.ref t2 from r')
   obtain⟨⟨us,rv1,p1⟩,_⟩:=z6v I1 q2;obtain⟨⟨vs,rv2,p2⟩,_⟩:=z6v I1 q3;have l1:=zgR p1;have l2:=zgR p2;refine zks p1 p2 λh' S kp =>?_;refine wpAny_pyIter_zip S.z ?_;have I2:Inv X pins σ H1 { s1 with heap:=h',toks:=s1.toks }:=I1.kept (t':=s1.toks) kp;refine⟨_,_,_,_,H1,rfl,I2,zcF (zipApart_new l1 l2),S,λb hb =>?_,q⟩;have hb':s1.heap.objs.size<=b:=by
    simp only[wf,wC,vj] at hb
    rcases hb with rfl | rfl | rfl | rfl | rfl
    .exact Nat.le_add_right _ 4
    .exact Nat.le_add_right _ 3
    .exact wG _
    .exact Nat.le_add_right _ 1
    .exact Nat.le_add_right _ 2
   exact I1.fpOk hb' (I1.hok.fresh hb')
end
end Zp
namespace Pu
open PySem PySem.Spec PyProof.Rows L2 Zp
def gZip (a b:D)(Q:DK):Prop:=match a,b with
 | .tup l,.tup m=>Q (.lst ((l.zip m).map λp =>.tup [p.1,p.2]))
 | .lst l,.lst m=>Q (.lst ((l.zip m).map λp =>.tup [p.1,p.2]))
 | _,_=>False
def zc6 (a b:D)(Q Q':DK)(m:∀d,Q d->Q' d)(h:gZip a b Q):gZip a b Q':=by
 unfold gZip at h ⊢
 split at h
 .exact m _ h
 .exact m _ h
 .exact h.elim
def za9:Fn:=fn2 gZip zc6
def ze8 {k:Bool}{K:W.Frag}{G G':Hp}{a:Addr}{xs:List V}(e:Same G G')(h:Sk k K G a xs):Sk k K G' a xs:=by
 cases k with
 | true=>exact z1H e h
 | false=>exact z1d e h
def z9f {k:Bool}{K:W.Frag}{mg:WmP}{G:Hp}{a b:Addr}{xs ys:List V}{l m:List D}(h1:Sk k K G a xs)(h2:Sk k K G b ys)(r1:RDs K mg G l xs)(r2:RDs K mg G m ys):Walk K mg G ((l.zip m).map λp =>.tup [p.1,p.2]) (Itz k K a b):=λi G1 H g1 g2=>by
 have k1:=ze8 (z03 g1 g2) h1;have k2:=ze8 (z03 g1 g2) h2;refine⟨λd e =>?_,λhi=>⟨xs,ys,k1,k2,?_⟩⟩
 .rw[wR,Option.map_eq_some_iff] at e;obtain⟨⟨d1,d2⟩,e,rfl⟩:=e;rw[List.getElem?_zip_eq_some] at e;obtain⟨v1,e1,rd1⟩:=r1.get e.1;obtain⟨v2,e2,rd2⟩:=r2.get e.2;refine⟨⟨xs,ys,v1,v2,k1,k2,e1,e2⟩,λv H' y =>?_⟩;obtain⟨p,x,y,rfl,hp,rfl,q⟩:=y;obtain⟨w1,w2⟩:=q xs ys k1 k2;rw[e1] at w1;rw[e2] at w2
  cases w1
  cases w2
  have gp:=z0p g2 hp;refine⟨z0P hp _,upd G1 p (.tup [v1,v2]),?_,?_,?_⟩
  .exact Gr.new g2 hp
  .intro c u e
   by_cases z:c=p
   .subst z;rw[z06] at e ⊢;exact e
   .rw[z02 z] at e ⊢;exact g2 c u e
  .exact RD.newT (RDs.cons (rd1.same g1) (RDs.cons (rd2.same g1) RDs.nil)) g2 hp
 .simp only[wc,uj] at hi;rw[r1.len,r2.len];lia
section
variable {X:Cx}{E:XK}
def z6W {es:List Expr}{kk:Nat}{tp p pos:Pos}{a b:Expr}{x y:Ex}(hg:Gl X "zip")(hm:X.mg "zip"=none)(ha:QXA X E [a,b] [x,y])(hs:starEach [a,b] X.env=[(false,eval a X.env),(false,eval b X.env)]:=by rfl)(hs2:starEach [b] X.env=[(false,eval b X.env)]:=by rfl):
  QXI X E (.Tuple es kk tp) (.Call (.Name "zip" p) [a,b] [] pos) (.op za9 [x,y]):=QI.imp (⟨zhN hg hm ha.p hs hs2⟩:QI X (.Tuple es kk tp) (.Call (.Name "zip" p) [a,b] [] pos) _) <| by
 rintro σ H R ⟨G,ρ,Q0,X0,hs,ab,hr,hz,hk,hx⟩;refine⟨G,ρ,_,X0,hs,ab,(show runs [x,y] ρ (λds=>za9.run ds Q0 X0) X0 from hr),λds vs G1 H1 q g1 g2 g3 rds =>?_,hx⟩
 match ds,q,rds with
 | [d1,d2],q,rds=>
  have q':gZip d1 d2 Q0:=q;rw[RDs] at rds;obtain⟨v1,r1,rfl,h1,h2⟩:=rds;rw[RDs] at h2;obtain⟨v2,r2,rfl,h2,h3⟩:=h2;rw[RDs] at h3;subst h3;unfold gZip at q'
  split at q'
  .obtain⟨a1,xs,rfl,s1,w1⟩:=z2Q h1;obtain⟨a2,ys,rfl,s2,w2⟩:=z2Q h2;exact⟨true,a1,a2,rfl,⟨xs,z1H g2 s1⟩,⟨ys,z1H g2 s2⟩,hk _ G1 H1 q' g1 g2 g3 _ _ rfl (z9f (k:=true) s1 s2 w1 w2)⟩
  .obtain⟨a1,xs,rfl,s1,w1⟩:=z1K h1;obtain⟨a2,ys,rfl,s2,w2⟩:=z1K h2;exact⟨false,a1,a2,rfl,⟨xs,z1d g2 s1⟩,⟨ys,z1d g2 s2⟩,hk _ G1 H1 q' g1 g2 g3 _ _ rfl (z9f (k:=false) s1 s2 w1 w2)⟩
  .exact q'.elim
end
end Pu
namespace Pu
open PySem L2
abbrev zaw:D :=.ins "Log" ["winds","row","places","standing","undone"] [dk [],.lst [],.lst [.tup [.int 0,.int 0,.int 1]],.lst [],.lst []]
def z0Y:Fn:=Fn.mkN 1 4 (.seq (.set 1 (.c (.str "abcdefghijklmnopqrstuvwxyz")))
 (.seq (.set 2 (.op pIx [.v 1,.op pMod [.v 0,.c (.int 3)]]))
 (.seq (.forr [.op z17 [.op pMod [.op z1A [.v 0,.c (.int 3)],.c (.int 2)],.c (.int 11)]] (.nm 3) (.set 2 (.op pAdd [.v 2,.op pIx [.v 1,.op pMod [.op pAdd [.op z1A [.v 0,.c (.int 6)],.op z17 [.v 3,.v 3]],.c (.int 26)]]])))
 (.ret (.v 2)))))
def z14:Fn:=Fn.mkN 1 5 (.seq (.set 1 (.c (.str "abcdefghijklmnopqrstuvwxyz")))
 (.seq (.set 2 (.c (.str "")))
 (.seq (.set 3 (.op z1A [.v 0,.c (.int 12)]))
 (.seq (.forr [.op pAdd [.c (.int 1),.op pMod [.v 0,.c (.int 12)]]] (.nm 4) (.seq (.set 2 (.op pAdd [.v 2,.op pIx [.v 1,.op pMod [.v 3,.c (.int 26)]]]))
 (.set 3 (.op z1A [.v 3,.c (.int 26)]))))
 (.ret (.v 2))))))
def z0K:Fn:=Fn.mkN 2 5 (.seq (.own 2 (.comp 1 [1] (.nm 0) (.op z5O [.v 0]) none (.op pMod [.op z05 [.v 1,.op pAdd [.c (.int 90),.v 0]],.op pIx [.op pLst [.c (.int 2),.c (.int 3),.op pPow [.c (.int 10),.c (.int 6)]],.op pMod [.op z05 [.v 1,.c (.int 119)],.c (.int 3)]]])))
 (.seq (.ifs (.op pEq [.op pMod [.op z05 [.v 1,.c (.int 122)],.c (.int 3)],.c (.int 0)]) (.seq (.set 3 (.v 1))
 (.forr [.v 0] (.nm 4) (.seq (.put 2 (.v 4) (.op pMod [.v 3,.op pPow [.c (.int 10),.c (.int 6)]]))
 (.set 3 (.op z1A [.v 3,.op pPow [.c (.int 10),.c (.int 6)]]))))) .skip)
 (.seq (.ifs (.op pEq [.op pSum [.v 2],.c (.int 0)]) (.put 2 (.op pMod [.op z05 [.v 1,.c (.int 120)],.v 0]) (.c (.int 1))) .skip)
 (.ret (.op z2r [.comp 1 [2] (.nm 0) (.op z5O [.v 0]) (some (.op pGt [.op pIx [.v 1,.v 0],.c (.int 0)])) (.op pTup [.v 0,.op z0M [.op pIx [.v 1,.v 0],.op pSum [.v 1]]])])))))
def z0D:Fn:=Fn.mkN 2 5 (.seq (.set 2 (.op z1A [.v 0,.c (.int 12)]))
 (.seq (.own 3 (.op pLst []))
 (.seq (.forr [.op pAdd [.c (.int 1),.op pMod [.v 0,.c (.int 12)]]] (.nm 4) (.seq (.app 3 (.op z0N [.v 2,.v 1]))
 (.set 2 (.op z1A [.op z1A [.v 2,.op pAdd [.op z17 [.c (.int 2),.v 1],.c (.int 1)]],.op pAdd [.op z17 [.c (.int 2),.v 1],.c (.int 1)]]))))
 (.ret (.op z2r [.v 3])))))
def z0W:Fn:=Fn.mkN 1 3 (.seq (.ifs (.op pEq [.op pMod [.op z05 [.v 0,.c (.int 68)],.c (.int 3)],.c (.int 0)]) (.ret (.op z0D [.v 0,.op pIx [.op pLst [.c (.int 12),.op pPow [.c (.int 10),.c (.int 9)]],.op pMod [.op z05 [.v 0,.c (.int 69)],.c (.int 2)]]])) .skip)
 (.seq (.set 1 (.op pIx [.op pLst [.c (.int 3),.c (.int 12),.op pPow [.c (.int 10),.c (.int 9)]],.op pMod [.op z05 [.v 0,.c (.int 60)],.c (.int 3)]]))
 (.seq (.set 2 (.op pAdd [.c (.int 1),.op pMod [.op z05 [.v 0,.c (.int 61)],.op pIx [.op pLst [.c (.int 2),.c (.int 4),.c (.int 12)],.op pMod [.op z05 [.v 0,.c (.int 62)],.c (.int 3)]]]]))
 (.ret (.op z2r [.comp 1 [0,1] (.nm 0) (.op z5O [.v 2]) none (.op z0L [.v 1,.op pAdd [.c (.int 200),.op z17 [.c (.int 2),.v 0]],.v 2])])))))
def z1g:Fn:=Fn.mkN 2 8 (.seq (.set 2 (.op pMod [.op z05 [.v 1,.c (.int 1)],.c (.int 12)]))
 (.seq (.set 3 (.op z0Y [.op pMod [.op z05 [.v 1,.c (.int 2)],.c (.int 12)]]))
 (.seq (.ifs (.op pEq [.op pMod [.op z05 [.v 1,.c (.int 70)],.c (.int 6)],.c (.int 0)]) (.set 3 (.op z14 [.v 1])) .skip)
 (.seq (.ifs (.op pLt [.v 2,.c (.int 2)]) (.ret (.op pTup [.c (.str "wind"),.v 3,.op z0W [.v 1]])) .skip)
 (.seq (.ifs (.op pLt [.v 2,.c (.int 5)]) (.seq (.set 4 (.op z0L [.v 1,.c (.int 63),.op pIx [.op pLst [.c (.int 0),.c (.int 4),.op pPow [.c (.int 10),.c (.int 9)]],.op pMod [.op z05 [.v 1,.c (.int 65)],.c (.int 3)]]]))
 (.seq (.ifs (.op pEq [.op pMod [.op z05 [.v 1,.c (.int 71)],.c (.int 3)],.c (.int 0)]) (.set 4 (.op z0N [.v 1,.op pPow [.c (.int 10),.c (.int 9)]])) .skip)
 (.ret (.op pTup [.c (.str "watch"),.v 3,.v 4])))) .skip)
 (.seq (.ifs (.op pLt [.v 2,.c (.int 8)]) (.seq (.set 5 (.op pAdd [.c (.int 1),.op pMod [.op z05 [.v 1,.c (.int 66)],.c (.int 3)]]))
 (.seq (.ifs (.op pGt [.op pLen [.op z1q [.v 0,.c (.str "watches")]],.op pLen [.op z1q [.v 0,.c (.str "sailed")]]]) (.set 5 (.op pLen [.op pIx [.op pIx [.op z1q [.v 0,.c (.str "watches")],.op pLen [.op z1q [.v 0,.c (.str "sailed")]]],.c (.int 0)]])) .skip)
 (.seq (.set 6 (.op z0K [.v 5,.v 1]))
 (.seq (.ifs (.op pEq [.op pMod [.op z05 [.v 1,.c (.int 67)],.c (.int 7)],.c (.int 0)]) (.set 6 (.op pAdd [.v 6,.op pTup [.op pTup [.v 5,.op pTup [.c (.int 1),.c (.int 2)]]]])) .skip)
 (.seq (.ifs (.op pEq [.op pMod [.op z05 [.v 1,.c (.int 67)],.c (.int 7)],.c (.int 1)]) (.set 6 (.sl (.v 6) (some (.c (.int 1))) none)) .skip)
 (.seq (.ifs (.op pEq [.op pMod [.op z05 [.v 1,.c (.int 67)],.c (.int 7)],.c (.int 2)]) (.seq (.set 7 (.op pTup [.op z17 [.op pIx [.op pIx [.op pIx [.v 6,.c (.int 0)],.c (.int 1)],.c (.int 0)],.c (.int 2)],.op z17 [.op pIx [.op pIx [.op pIx [.v 6,.c (.int 0)],.c (.int 1)],.c (.int 1)],.c (.int 2)]]))
 (.set 6 (.op pAdd [.op pTup [.op pTup [.op pIx [.op pIx [.v 6,.c (.int 0)],.c (.int 0)],.v 7]],.sl (.v 6) (some (.c (.int 1))) none]))) .skip)
 (.ret (.op pTup [.c (.str "sail"),.v 6])))))))) .skip)
 (.ret (.op pIx [.op pLst [.op pTup [.c (.str "undo")],.op pTup [.c (.str "undo")],.op pTup [.c (.str "again")],.op pTup [.c (.str "again")]],.op pSub [.v 2,.c (.int 8)]]))))))))
def z0h:FnR:=FnR.mkN 0 0 (.retnew (.ins "" ["winds","watches","sailed","standing","undone"] [dk [],.lst [],.lst [],.lst [],.lst []]))
def z0i:Fn:=Fn.mkN 2 3 (.seq (.ifs (.or (.and (.op pEq [.op pIx [.v 1,.c (.int 0)],.c (.str "undo")]) (.op pEq [.op z1q [.v 0,.c (.str "standing")],.op pLst []])) (.and (.op pEq [.op pIx [.v 1,.c (.int 0)],.c (.str "again")]) (.op pEq [.op z1q [.v 0,.c (.str "undone")],.op pLst []]))) (.ret (.c (.str "deed"))) .skip)
 (.seq (.ifs (.and (.op pEq [.op pIx [.v 1,.c (.int 0)],.c (.str "watch")]) (.op z4P [.op pIx [.v 1,.c (.int 1)],.op z1q [.v 0,.c (.str "winds")]])) (.ret (.c (.str "wind"))) .skip)
 (.seq (.ifs (.and (.op pEq [.op pIx [.v 1,.c (.int 0)],.c (.str "watch")]) (.op pEq [.op pLen [.op z1q [.v 0,.c (.str "watches")]],.c (.int 12)])) (.ret (.c (.str "deed"))) .skip)
 (.seq (.ifs (.and (.op pEq [.op pIx [.v 1,.c (.int 0)],.c (.str "sail")]) (.op pEq [.op pLen [.op z1q [.v 0,.c (.str "watches")]],.op pLen [.op z1q [.v 0,.c (.str "sailed")]]])) (.ret (.c (.str "deed"))) .skip)
 (.seq (.ifs (.op pEq [.op pIx [.v 1,.c (.int 0)],.c (.str "sail")]) (.seq (.set 2 (.op pLen [.op pIx [.op pIx [.op z1q [.v 0,.c (.str "watches")],.op pLen [.op z1q [.v 0,.c (.str "sailed")]]],.c (.int 0)]]))
 (.seq (.ifs (.or (.op pNe [.comp 1 [2] (.nm 0) (.op pIx [.v 1,.c (.int 1)]) (some (.op pGeI [.op pIx [.v 0,.c (.int 0)],.v 1])) (.v 0),.op pLst []]) (.op pNe [.op z13 [.op pIx [.v 1,.c (.int 1)]],.op pTup [.c (.int 1),.c (.int 1)]])) (.ret (.c (.str "shares"))) .skip)
 (.ifs (.op pNe [.comp 1 [] (.nm 0) (.op pIx [.v 1,.c (.int 1)]) (some (.op pNe [.op z0f [.op pIx [.op pIx [.v 0,.c (.int 1)],.c (.int 0)],.op pIx [.op pIx [.v 0,.c (.int 1)],.c (.int 1)]],.c (.int 1)])) (.v 0),.op pLst []]) (.ret (.c (.str "shares"))) .skip))) .skip)
 (.ret (.c .non)))))))
def z0I:FnR:=FnR.mkN 2 2 (.seq (.ifp (.op pEq [(.op pIx [(.v 1),(.c (.int 0))]),(.c (.str "wind"))]) (.fput "" ["winds","watches","sailed","standing","undone"] 0 0 (.op pIx [(.v 1),(.c (.int 1))]) (.op pIx [(.v 1),(.c (.int 2))])) (.ifp (.op pEq [(.op pIx [(.v 1),(.c (.int 0))]),(.c (.str "watch"))]) (.fapp "" ["winds","watches","sailed","standing","undone"] 0 1 (.op pTup [(.op z1q [(.op z1q [(.v 0),(.c (.str "winds"))]),(.op pIx [(.v 1),(.c (.int 1))])]),(.op pIx [(.v 1),(.c (.int 2))])])) (.fapp "" ["winds","watches","sailed","standing","undone"] 0 2 (.op pIx [(.v 1),(.c (.int 1))]))))
 (.fapp "" ["winds","watches","sailed","standing","undone"] 0 3 (.v 1)))
def z0m:FnR:=FnR.mkN 2 4 (.seq (.ifp (.op pEq [(.op pIx [(.v 1),(.c (.int 0))]),(.c (.str "undo"))]) (.seq (.set 2 (.call z0h []))
 (.seq (.forf 3 (.slL (.op z1q [(.v 0),(.c (.str "standing"))]) none (some (.op pNeg [(.c (.int 1))]))) (.ex (.call z0I [(.raw 2),(.vs (.v 3))])))
 (.seq (.fset ["winds","watches","sailed","standing","undone"] 2 4 (.op zdp [(.op z1q [(.v 0),(.c (.str "undone"))]),(.sl (.op z1q [(.v 0),(.c (.str "standing"))]) (some (.op pNeg [(.c (.int 1))])) none)]))
 (.ret (.raw 2))))) .skip)
 (.seq (.ifp (.op pEq [(.op pIx [(.v 1),(.c (.int 0))]),(.c (.str "again"))]) (.seq (.ex (.call z0I [(.raw 0),(.fpop "" ["winds","watches","sailed","standing","undone"] 0 4)]))
 (.ret (.raw 0))) .skip)
 (.seq (.fset ["winds","watches","sailed","standing","undone"] 0 4 (.op pLst []))
 (.seq (.ex (.call z0I [(.raw 0),(.vs (.v 1))]))
 (.ret (.raw 0))))))
def z1E:Fn:=Fn.mkN 1 2 (.seq (.set 1 (.op pLst [.op (pIsx ["NoDeed","NoShares","NoWind"] (λx=>(x == "NoWind"))) [.v 0],.op (pIsx ["NoDeed","NoShares","NoWind"] (λx=>(x == "NoDeed"))) [.v 0],.op (pIsx ["NoDeed","NoShares","NoWind"] (λx=>(x == "NoShares"))) [.v 0]]))
 (.seq (.ifs (.or (.op (pIsx ["NoDeed","NoShares","NoWind"] (λ_=>false)) [.v 0]) (.or (.op pNe [.lm zbI (.v 1) (.c (.bl true)),.c (.int 1)]) (.not (.op (pIsx ["NoDeed","NoShares","NoWind"] (λ_=>true)) [.v 0])))) (.ret (.c (.str "other"))) .skip)
 (.ret (.op pIx [.op pLst [.c (.str "wind"),.c (.str "deed"),.c (.str "shares")],.lm zbH (.v 1) (.c (.bl true))]))))
def z4A:Fn:=Fn.mkN 1 1 (.ret (.and (.chain pLe pLe (.c (.int 1)) (.op pLen [.v 0]) (.c (.int 12))) (.op pAll [.comp 1 [] (.nm 0) (.v 0) none (.op pInS [.v 0,.c (.str "abcdefghijklmnopqrstuvwxyz")])])))
def z2T:Fn:=Fn.mkN 1 1 (.seq (.ifs (.or (.not (.op (pIsi "int") [.v 0])) (.op (pIsi "bool") [.v 0])) (.ret (.c (.bl false))) .skip)
 (.ret (.chain pLe pLe (.op pNeg [.c (.int 1000000000)]) (.v 0) (.c (.int 1000000000)))))
def z0S:Fn:=Fn.mkN 1 1 (.ret (.and (.op (pIsi "tuple") [.v 0]) (.and (.op pEq [.op pLen [.v 0],.c (.int 2)]) (.and (.op z2T [.op pIx [.v 0,.c (.int 0)]]) (.op z2T [.op pIx [.v 0,.c (.int 1)]])))))
def z4B:Fn:=Fn.mkN 1 1 (.seq (.ifs (.or (.not (.op (pIsi "tuple") [.v 0])) (.not (.chain pLe pLe (.c (.int 1)) (.op pLen [.v 0]) (.c (.int 12))))) (.ret (.c (.bl false))) .skip)
 (.ret (.op pAll [.comp 1 [] (.nm 0) (.v 0) none (.op z0S [.v 0])])))
def z1S:Fn:=Fn.mkN 2 4 (.seq (.ifs (.op pNe [.op pLen [.v 1],.op pLen [.v 0]]) (.ret (.c (.bl false))) .skip)
 (.seq (.for_ [] (.tp [2,3]) (.op za9 [.v 0,.v 1]) (.ifs (.or (.not (.op z1b [.op pIx [.v 2,.c (.int 0)],.v 3])) (.op pNe [.op z1a [.v 3],.op pTup [.c (.int 1),.c (.int 1)]])) (.ret (.c (.bl false))) .skip))
 (.ret (.c (.bl true)))))
def z2F:Fn:=Fn.mkN 2 7 (.seq (.ifs (.not (.op z1S [.v 0,.v 1])) .never .skip)
 (.seq (.set 2 (.op pTup [.c (.int 0),.c (.int 0),.c (.int 1)]))
 (.seq (.for_ [] (.tp [3,4]) (.op za9 [.v 0,.v 1]) (.seq (.set 5 (.op pIx [.v 3,.c (.int 1)]))
 (.seq (.set 6 (.op z0Q [.op z2E [.op pIx [.v 3,.c (.int 0)],.v 4],.op pTup [.op pIx [.v 5,.c (.int 0)],.op pIx [.v 5,.c (.int 1)],.c (.int 1)]]))
 (.set 2 (.op z0Q [.v 2,.v 6])))))
 (.ret (.v 2)))))
def z0n:Fn:=Fn.mkN 1 1 (.ret (.op z2r [.sl (.op (pFld "Log" "row") [.v 0]) (some (.op pSub [.op pLen [.op (pFld "Log" "places") [.v 0]],.c (.int 1)])) none]))
def z18:Fn:=Fn.mkN 1 1 (.ret (.op pIx [.op (pFld "Log" "places") [.v 0],.op pNeg [.c (.int 1)]]))
def z0A:FnR:=FnR.mkN 2 3 (.seq (.ifp (.op pEq [(.op pIx [(.v 1),(.c (.int 0))]),(.c (.str "wind"))]) (.fput "Log" ["winds","row","places","standing","undone"] 0 0 (.op pIx [(.v 1),(.c (.int 1))]) (.op pIx [(.v 1),(.c (.int 2))])) (.ifp (.op pEq [(.op pIx [(.v 1),(.c (.int 0))]),(.c (.str "watch"))]) (.fapp "Log" ["winds","row","places","standing","undone"] 0 1 (.op pTup [(.op z1q [(.op (pFld "Log" "winds") [(.v 0)]),(.op pIx [(.v 1),(.c (.int 1))])]),(.op pIx [(.v 1),(.c (.int 2))])])) (.seq (.set 2 (.pl (.op z2F [(.sl (.meth "Log" ["winds","row","places","standing","undone"] z0n (.v 0) []) none (some (.c (.int 1)))),(.op pTup [(.op pIx [(.v 1),(.c (.int 1))])])])))
 (.fapp "Log" ["winds","row","places","standing","undone"] 0 2 (.op z0Q [(.meth "Log" ["winds","row","places","standing","undone"] z18 (.v 0) []),(.v 2)])))))
 (.fapp "Log" ["winds","row","places","standing","undone"] 0 3 (.v 1)))
def z0R:FnR:=FnR.mkN 2 2 (.seq (.fclr "Log" ["winds","row","places","standing","undone"] 0 4)
 (.ex (.meth "Log" ["winds","row","places","standing","undone"] z0A 0 [(.vs (.v 1))])))
def z1C:FnR:=FnR.mk' 3 3 (.seq (.lift (.ifs (.not (.op z4A [(.v 1)])) (.raise "NoWind") .skip))
 (.seq (.lift (.ifs (.not (.op z4B [(.v 2)])) (.raise "NoWind") .skip))
 (.ex (.meth "Log" ["winds","row","places","standing","undone"] z0R 0 [(.vs (.op pTup [(.c (.str "wind")),(.v 1),(.op z2r [(.comp 1 [] (.nm 0) (.v 2) none (.op pTup [(.op pIx [(.v 0),(.c (.int 0))]),(.op pIx [(.v 0),(.c (.int 1))])]))])]))]))))
def z1n:FnR:=FnR.mk' 3 3 (.seq (.ifp (.op z4P [(.v 1),(.op (pFld "Log" "winds") [(.v 0)])]) (.lift (.raise "NoWind")) .skip)
 (.seq (.ifp (.op pEq [(.op pLen [(.op (pFld "Log" "row") [(.v 0)])]),(.c (.int 12))]) (.lift (.raise "NoDeed")) .skip)
 (.seq (.lift (.ifs (.not (.op z0S [(.v 2)])) (.raise "NoDeed") .skip))
 (.ex (.meth "Log" ["winds","row","places","standing","undone"] z0R 0 [(.vs (.op pTup [(.c (.str "watch")),(.v 1),(.op pTup [(.op pIx [(.v 2),(.c (.int 0))]),(.op pIx [(.v 2),(.c (.int 1))])])]))])))))
def z2W:FnR:=FnR.mk' 2 3 (.seq (.set 2 (.pl (.meth "Log" ["winds","row","places","standing","undone"] z0n (.v 0) [])))
 (.seq (.lift (.ifs (.op pEq [(.op pLen [(.v 2)]),(.c (.int 0))]) (.raise "NoDeed") .skip))
 (.seq (.lift (.ifs (.not (.op z1S [(.sl (.v 2) none (some (.c (.int 1)))),(.op pTup [(.v 1)])])) (.raise "NoShares") .skip))
 (.ex (.meth "Log" ["winds","row","places","standing","undone"] z0R 0 [(.vs (.op pTup [(.c (.str "sail")),(.op z2r [(.comp 2 [] (.tp [0,1]) (.v 1) none (.op pTup [(.v 0),(.op pTup [(.op pIx [(.v 1),(.c (.int 0))]),(.op pIx [(.v 1),(.c (.int 1))])])]))])]))])))))
def z0U:FnR:=FnR.mkN 2 3 (.ifp (.op pEq [(.op pIx [(.v 1),(.c (.int 0))]),(.c (.str "wind"))]) (.seq (.ex (.fdpop "Log" ["winds","row","places","standing","undone"] 0 0 (.op pIx [(.v 1),(.c (.int 1))])))
 (.forw "Log" ["winds","row","places","standing","undone"] 0 3 0 2 (.op pEq [(.sl (.v 2) none (some (.c (.int 2)))),(.sl (.v 1) none (some (.c (.int 2))))]) (.op pIx [(.v 1),(.c (.int 1))]) (.op pIx [(.v 2),(.c (.int 2))]))) (.ifp (.op pEq [(.op pIx [(.v 1),(.c (.int 0))]),(.c (.str "watch"))]) (.ex (.fpop "Log" ["winds","row","places","standing","undone"] 0 1)) (.ex (.fpop "Log" ["winds","row","places","standing","undone"] 0 2))))
def z2V:FnR:=FnR.mk' 1 2 (.seq (.ifp (.op pEq [(.op pLen [(.op (pFld "Log" "standing") [(.v 0)])]),(.c (.int 0))]) (.lift (.raise "NoDeed")) .skip)
 (.seq (.set 1 (.fpop "Log" ["winds","row","places","standing","undone"] 0 3))
 (.seq (.ex (.meth "Log" ["winds","row","places","standing","undone"] z0U 0 [(.vs (.v 1))]))
 (.fapp "Log" ["winds","row","places","standing","undone"] 0 4 (.v 1)))))
def z2u:FnR:=FnR.mk' 1 1 (.seq (.ifp (.op pEq [(.op pLen [(.op (pFld "Log" "undone") [(.v 0)])]),(.c (.int 0))]) (.lift (.raise "NoDeed")) .skip)
 (.ex (.meth "Log" ["winds","row","places","standing","undone"] z0A 0 [(.fpop "Log" ["winds","row","places","standing","undone"] 0 4)])))
def z0d:FnR:=FnR.mk' 2 2 (.seq (.ifp (.op pEq [(.op pIx [(.v 1),(.c (.int 0))]),(.c (.str "wind"))]) (.ret (.meth "Log" ["winds","row","places","standing","undone"] z1C 0 [(.vs (.op pIx [(.v 1),(.c (.int 1))])),(.vs (.op pIx [(.v 1),(.c (.int 2))]))])) .skip)
 (.seq (.ifp (.op pEq [(.op pIx [(.v 1),(.c (.int 0))]),(.c (.str "watch"))]) (.ret (.meth "Log" ["winds","row","places","standing","undone"] z1n 0 [(.vs (.op pIx [(.v 1),(.c (.int 1))])),(.vs (.op pIx [(.v 1),(.c (.int 2))]))])) .skip)
 (.seq (.ifp (.op pEq [(.op pIx [(.v 1),(.c (.int 0))]),(.c (.str "sail"))]) (.ret (.meth "Log" ["winds","row","places","standing","undone"] z2W 0 [(.vs (.op pIx [(.v 1),(.c (.int 1))]))])) .skip)
 (.seq (.ifp (.op pEq [(.op pIx [(.v 1),(.c (.int 0))]),(.c (.str "undo"))]) (.ret (.meth "Log" ["winds","row","places","standing","undone"] z2V 0 [])) .skip)
 (.ret (.meth "Log" ["winds","row","places","standing","undone"] z2u 0 []))))))
def z1f:FnR:=FnR.mkN 2 4 (.seq (.lift (.set 2 (.c (.str "nothing"))))
 (.seq (.tryr (.set 2 (.call z0d [(.raw 0),(.vs (.v 1))])) ["NoDeed","NoShares","NoWind"] 3 (.lift (.calm (.set 2 (.op z1E [(.v 3)])))))
 (.lift (.ret (.v 2)))))
def z0z:Nat->Fn
 | 0=>Fn.bot
 | n+1=>Fn.mkN 2 3 (.seq (.ifs (.op (pIsi "tuple") [(.v 1)]) (.seq (.ifs (.or (.not (.op (pIsi "tuple") [(.v 0)])) (.op pNe [(.op pLen [(.v 0)]),(.op pLen [(.v 1)])])) (.ret (.c (.bl false))) .skip)
 (.seq (.forr [(.op pLen [(.v 1)])] (.nm 2) (.ifs (.not (.op (z0z n) [(.op pIx [(.v 0),(.v 2)]),(.op pIx [(.v 1),(.v 2)])])) (.ret (.c (.bl false))) .skip))
 (.ret (.c (.bl true))))) .skip)
 (.seq (.ifs (.op pIs [(.v 1),(.c .non)]) (.ret (.op pIs [(.v 0),(.c .non)])) .skip)
 (.seq (.ifs (.op (pIsi "str") [(.v 1)]) (.ret (.and (.op (pIsi "str") [(.v 0)]) (.op pEq [(.v 0),(.v 1)]))) .skip)
 (.seq (.ifs (.or (.not (.op (pIsi "int") [(.v 0)])) (.op pNe [(.op (pIsi "bool") [(.v 0)]),(.op (pIsi "bool") [(.v 1)])])) (.ret (.c (.bl false))) .skip)
 (.ret (.op pEq [(.v 0),(.v 1)]))))))
def z1m:Fn:=z0z 5
def z1s:Fn:=Fn.mkN 1 9 (.seq (.own 1 (.op pLst [.op pTup [.c (.int 0),.c (.int 0),.c (.int 1)]]))
 (.seq (.for_ [] (.tp [2,3]) (.op za9 [.op z1q [.v 0,.c (.str "watches")],.op z1q [.v 0,.c (.str "sailed")]]) (.seq (.set 4 (.op z1O [.op pIx [.v 2,.c (.int 0)],.v 3]))
 (.seq (.set 5 (.op pIx [.v 1,.op pNeg [.c (.int 1)]]))
 (.seq (.set 6 (.op z17 [.op pIx [.v 5,.c (.int 2)],.op pIx [.v 4,.c (.int 2)]]))
 (.seq (.set 7 (.op pAdd [.op pAdd [.op z17 [.op pIx [.v 5,.c (.int 0)],.op pIx [.v 4,.c (.int 2)]],.op z17 [.op pIx [.v 4,.c (.int 0)],.op pIx [.v 5,.c (.int 2)]]],.op z17 [.op pIx [.op pIx [.v 2,.c (.int 1)],.c (.int 0)],.v 6]]))
 (.seq (.set 8 (.op pAdd [.op pAdd [.op z17 [.op pIx [.v 5,.c (.int 1)],.op pIx [.v 4,.c (.int 2)]],.op z17 [.op pIx [.v 4,.c (.int 1)],.op pIx [.v 5,.c (.int 2)]]],.op z17 [.op pIx [.op pIx [.v 2,.c (.int 1)],.c (.int 1)],.v 6]]))
 (.app 1 (.op z0G [.v 7,.v 8,.v 6]))))))))
 (.ret (.op z2r [.v 1]))))
def z26:Fn:=Fn.mk' 2 2 (.seq (.ifs (.op z4P [.v 1,.op (pFld "Log" "winds") [.v 0]]) (.raise "NoWind") .skip)
 (.ret (.op z1q [.op (pFld "Log" "winds") [.v 0],.v 1])))
def z10:Fn:=Fn.mkN 2 3 (.seq (.set 2 (.c .non))
 (.seq (.tryM 2 "Log" ["winds","row","places","standing","undone"] z26 (.v 0) [.v 1] ["NoWind"] (.set 2 (.c .non)))
 (.ret (.v 2))))
def z33:Fn:=Fn.mkN 1 1 (.ret (.op z2r [.op zev [.op (pFld "Log" "winds") [.v 0]]]))
def z2e:Fn:=Fn.mkN 1 1 (.ret (.op z2r [.op (pFld "Log" "row") [.v 0]]))
def z32:Fn:=Fn.mkN 1 1 (.ret (.op z2r [.op (pFld "Log" "places") [.v 0]]))
def z0s:Fn:=Fn.mkN 3 5 (.seq (.set 3 (.op z0Y [.op pMod [.op z05 [.v 2,.c (.int 3)],.c (.int 12)]]))
 (.seq (.ifs (.not (.op z1m [.meth "Log" ["winds","row","places","standing","undone"] z33 (.v 0) [],.op z2r [.op zeu [.op zi1 [.op z1q [.v 1,.c (.str "winds")]]]]])) (.ret (.c (.bl false))) .skip)
 (.seq (.ifs (.not (.op z1m [.op z10 [.v 0,.v 3],.dget1 (.op z1q [.v 1,.c (.str "winds")]) (.v 3)])) (.ret (.c (.bl false))) .skip)
 (.seq (.ifs (.not (.op z1m [.meth "Log" ["winds","row","places","standing","undone"] z2e (.v 0) [],.op z2r [.op z1q [.v 1,.c (.str "watches")]]])) (.ret (.c (.bl false))) .skip)
 (.seq (.ifs (.not (.op z1m [.meth "Log" ["winds","row","places","standing","undone"] z0n (.v 0) [],.op z2r [.sl (.op z1q [.v 1,.c (.str "watches")]) (some (.op pLen [.op z1q [.v 1,.c (.str "sailed")]])) none]])) (.ret (.c (.bl false))) .skip)
 (.seq (.set 4 (.op z1s [.v 1]))
 (.ret (.and (.op z1m [.meth "Log" ["winds","row","places","standing","undone"] z32 (.v 0) [],.v 4]) (.op z1m [.meth "Log" ["winds","row","places","standing","undone"] z18 (.v 0) [],.op pIx [.v 4,.op pNeg [.c (.int 1)]]])))))))))
def z67:Fn:=Fn.ofR 1 8 (.seq (.new 1 zaw)
 (.seq (.new 2 zaw)
 (.seq (.set 3 (.call z0h []))
 (.seq (.for_ 4 (.sl (.v 0) none (some (.c (.int 100)))) (.seq (.set 5 (.pl (.op z1g [.v 3,.v 4])))
 (.seq (.set 6 (.pl (.op z0i [.v 3,.v 5])))
 (.seq (.ifp (.op pIs [.v 6,.c .non]) (.set 3 (.call z0m [.raw 3,.vs (.v 5)])) .skip)
 (.seq (.set 7 (.call z1f [.raw 1,.vs (.v 5)]))
 (.seq (.lift (.ifs (.or (.op pNe [.v 7,.v 6]) (.and (.op pIs [.v 6,.c .non]) (.op z9A [.v 7,.c .non]))) (.ret (.c (.bl false))) .skip))
 (.ifp (.not (.op z0s [.v 1,.v 3,.v 4])) (.lift (.ret (.c (.bl false)))) .skip)))))))
 (.ret (.and (.pl (.op z0s [.v 1,.v 3,.c (.int 0)])) (.shc z0s [.raw 2,.call z0h [],.vs (.c (.int 0))])))))))
end Pu
local macro_rules | `(tactic| walk_at "bt") => `(tactic| first | assumption | (refine L2.Bt.add ?_ ?_ <;> walk_at "bt") | (refine L2.Bt.sub ?_ ?_ <;> walk_at "bt") | (refine L2.Bt.mul ?_ ?_ <;> walk_at "bt") | (apply L2.Bt.neg;walk_at "bt") | exact L2.bt_k (by decide +kernel) | exact L2.bt_n (by omega) (by omega))
local macro_rules | `(tactic| walk_at "mu") => `(tactic| exact⟨L2.Bt.le (by walk_at "bt") (by decide),L2.Bt.le (by walk_at "bt") (by decide)⟩)
local macro_rules | `(tactic| walk_at "ps") => `(tactic| first | assumption | decide | omega)
local macro_rules | `(tactic| walk_at "bb") => `(tactic| first | exact L2.z9U (by decide) (by decide) | exact L2.Bt.le (by walk_at "bt") (by decide) | exact L2.z9U (by omega) (by omega))
local macro_rules | `(tactic| walk_at "sf") => `(tactic| first | exact Pu.Safe.of_noL rfl rfl _ | exact Pu.Safe.of_noL (Pu.z7e _) (Pu.z7f _) _ | (repeat (first | exact trivial | refine⟨trivial,?_⟩)) | assumption)
local macro_rules | `(tactic| walk_at "en") => `(tactic| try simp only[List.set_cons_zero,List.set_cons_succ,wA,vq,List.replicate,List.cons_append,List.nil_append,Nat.reduceSub,Pu.dem,Pu.vis,Pu.visB,Pu.demB,List.getElem?_cons_zero,List.getElem?_cons_succ,Option.getD_some,Pu.z1z,List.replicate_succ,List.replicate_zero])
local macro_rules | `(tactic| walk_at "st") => `(tactic| first
 | with_reducible apply Pu.e_c
 | ((with_reducible apply Pu.e_v);(apply Pu.z2B))
 |(with_reducible first|apply Pu.z93|apply Pu.ziW|apply Pu.zkk|apply Pu.zkj|apply Pu.ziV|apply Pu.z8G|apply Pu.z3O|apply Pu.zka|apply Pu.zk1|apply Pu.zk3)| ((with_reducible apply Pu.zg6);(focus walk_at "mu"))
 | ((with_reducible apply Pu.zis);(focus walk_at "ps");(focus walk_at "bb"))
 | ((with_reducible apply Pu.zij);(focus walk_at "ps"))
 | ((with_reducible apply Pu.zk2);(focus exact⟨by decide,by decide,by decide⟩))
 | ((with_reducible apply Pu.zk7);(try apply Pu.z2B))
 | ((with_reducible apply Pu.zk8);(try apply Pu.z2B))
 |(with_reducible first|apply Pu.o_lt|apply Pu.o_le|apply Pu.o_gt|apply Pu.o_ge|apply Pu.o_eq|apply Pu.o_ne|apply Pu.o_is|apply Pu.zg7|apply Pu.zim|apply Pu.zik)| ((with_reducible apply Pu.zk0);(focus (simp only[wL,vw];decide)))
 | ((with_reducible apply Pu.zk6);(focus (simp only[wL,vw];decide)))
 |(with_reducible first|apply Pu.zih|apply Pu.zkb|apply Pu.zir|apply Pu.zin|apply Pu.zio|apply Pu.ziq|apply Pu.zkl|apply Pu.e_or|apply Pu.ziX|apply Pu.n_bl|apply Pu.ziY|apply Pu.zkg|apply Pu.zkf|apply Pu.e_sl|apply Pu.zi0|apply Pu.zhZ|apply Pu.ziM|apply Pu.zku|apply Pu.zkt|apply Pu.z1Z|apply Pu.z4E|apply Pu.zf6|apply Pu.zjp|apply Pu.zjr|apply Pu.s_if|apply Pu.zjq|apply Pu.zgY|apply Pu.zf7|apply Pu.zh5)| ((with_reducible apply Pu.zjt);(walk_at "en"))
 | with_reducible apply Pu.zfa
 | ((with_reducible apply Pu.z2P);(focus walk_at "sf");(walk_at "en"))
 | ((with_reducible apply Pu.zkq);(walk_at "en"))
 | ((with_reducible apply Pu.zj2);(walk_at "en")))
local macro_rules | `(tactic| walk_at "go") => `(tactic| repeat walk_at "st")
local macro_rules | `(tactic| walk_at "fn") => `(tactic| ((refine Pu.zjx rfl ?_);(walk_at "en")))
local macro_rules | `(tactic| walk_at "fe") => `(tactic| ((refine Pu.zjy rfl ?_);(walk_at "en")))
local macro_rules | `(tactic| ac_nf) => `(tactic| walk_at "go")
local macro_rules | `(tactic| ac_rfl) => `(tactic| walk_at "en")
namespace Pu
open PySem L2
def szl {n:Nat}(h:n<=1000000):n<=sizeLine:=wX h (by decide)
def szl' {n:Nat}(h:n<=1000000):n<sizeLine:=Nat.lt_of_le_of_lt h (by decide)
abbrev Vb (n:Nat)(p:Int × Int):Prop:=Bt n p.1/\Bt n p.2
abbrev Wb (n:Nat)(l:List (Int × Int)):Prop:=∀p∈l,Vb n p
def dot (p r:Int × Int):Int:=p.1*r.1+p.2*r.2
end Pu
namespace Geo
def In (h:List P)(p:P):Prop:=match h with
 | []=>False
 | [m]=>p=m
 | [a,b]=>cr a b p=0/\0<=dot a b p/\0<=dot b a p
 | h=>∀j a b,j<h.length->h[(j+h.length - 1) % h.length]? = some a->h[j]? = some b->0<=cr a b p
def cy (h:List P)(i:Nat):P:=h.getD (i % h.length) (0,0)
def z9S {h:List P}{i:Nat}(hl:0<h.length):h[i % h.length]? = some (cy h i):=by
 unfold cy;have:=Nat.mod_lt i hl;rw[vO,wJ this]
 rfl
end Geo
namespace Pu
open PySem L2
def zjc {α:Type}{l:List α}{k:Nat}(h:k<l.length):atI l (k:Int)=l[k]? := by
 unfold atI ixN;rw[if_pos (by lia),if_pos (by lia)];simp
abbrev P:=Geo.P
def zgl {h:List P}{k:Nat}(hk:k<h.length):atI h (k:Int)=some (Geo.cy h k):=by
 rw[zjc hk, <- z9S (i:=k) (by lia),Nat.mod_eq_of_lt hk]
end Pu
namespace Geo
def ze3 (l:List Int):l.sum=((List.range l.length).map λj=>l.getD j 0).sum:=by
 congr 1
 apply List.ext_getElem
 .simp
 .intro i h1 h2;rw[List.getElem_map,List.getElem_range,vO,wJ h1]
  rfl
end Geo
namespace Pu
open PySem L2
def Far (m:Int)(p:Int × Int):Prop:=(-m<=p.1/\p.1<=m) /\ -m<=p.2/\p.2<=m
def z7M {s t:Sm}{ρ:Pu.Env}{N:Pu.Env->Prop}{Q:DK}{X:XP}(W:Pu.Env->Prop)(h:s.run ρ W Q X)(k:∀ρ',W ρ'->t.run ρ' N Q X):(Sm.seq s t).run ρ N Q X:=s.mono ρ W _ Q Q X X k (λ_ z=>z) (λ_ z=>z) h
structure Fw (l:List P):Prop where
 far:∀p∈l,Far 1000000000 p
 ne:l≠[]
 len:l.length<=62
open Mth
structure Pl (x y b u v t:Int):Prop where
 pos:0<t
 cop:Int.gcd ((Int.gcd u v:Nat):Int) t=1
 cx:u*b=x*t
 cy:v*b=y*t
def Pl.of {x y b u v t:Int}(h:Plc x y b u v t):Pl x y b u v t:=⟨by have:=h.pos;lia,h.cop,h.cx,h.cy⟩
def z7s {u v t b:Int}(hc:Int.gcd ((Int.gcd u v:Nat):Int) t=1)(h1:t ∣ u*b)(h2:t ∣ v*b):t ∣ b:=by
 have a1:t.natAbs ∣ u.natAbs*b.natAbs:=by rw[<- vF];exact vB.mpr h1
 have a2:t.natAbs ∣ v.natAbs*b.natAbs:=by rw[<- vF];exact vB.mpr h2
 have a3:=uV a1 a2;rw[Nat.gcd_mul_right] at a3;have hc':Nat.Coprime t.natAbs (Nat.gcd u.natAbs v.natAbs):=by
  rw[z2C,uO] at hc;exact hc
 exact vB.mp (hc'.dvd_of_dvd_mul_left a3)
def Pl.dvd {x y b u v t:Int}(h:Pl x y b u v t):t ∣ b:=z7s h.cop ⟨x,by rw[h.cx,uE]⟩ ⟨y,by rw[h.cy,uE]⟩
def Pl.eq {x y b u v t u' v' t':Int}(hb:0<b)(h:Pl x y b u v t)(k:Pl x y b u' v' t'):u=u'/\v=v'/\t=t':=by
 have hb0:b≠0:=by lia
 have cr:∀{u u' x:Int},u*b=x*t->u'*b=x*t'->u*t'=u'*t:=λ{u u' x} e1 e2=>by
  apply w6 hb0
  calc u*t'*b=(u*b)*t':=by grind
   _=(u'*b)*t:=by rw[e1,e2];grind
   _=u'*t*b:=by grind
 have c1:=cr h.cx k.cx;have c2:=cr h.cy k.cy;have d1:t ∣ t':=z7s h.cop ⟨u',by rw[c1,uE]⟩ ⟨v',by rw[c2,uE]⟩;have d2:t' ∣ t:=z7s k.cop ⟨u,by rw[<- c1,uE]⟩ ⟨v,by rw[<- c2,uE]⟩;have e:t=t':=Int.dvd_antisymm (by have:=h.pos;lia) (by have:=k.pos;lia) d1 d2;subst e;have ht:t≠0:=by have:=h.pos;lia
 exact⟨w6 ht c1,w6 ht c2,rfl⟩
def Pl.bt {x y b u v t:Int}{n m:Nat}(hb:0<b)(h:Pl x y b u v t)(bb:Bt n b)(bx:Bt m x)(bY:Bt m y):Bt n t/\Bt m u/\Bt m v:=by
 obtain⟨k,hk⟩:=h.dvd;have ht:=h.pos;have hk1:0<k:=by
  rcases Int.lt_or_le 0 k with z | z
  .exact z
  .have:=wW (uY ht) z;lia
 have le:∀{u x:Int},u*b=x*t->u.natAbs<=x.natAbs:=λ{u x} e=>by
  have:u*k=x:=by
   apply w6 (show t≠0 by lia);rw[<- e,hk]
   grind
  rw[<- this,vF];exact Nat.le_mul_of_pos_right _ (by lia)
 refine⟨bb.of_abs ?_,bx.of_abs (le h.cx),bY.of_abs (le h.cy)⟩;rw[hk,vF];exact Nat.le_mul_of_pos_right _ (by lia)
def Pl.step {x y b u v t a c w p q vx vy u' v' t':Int}(hb:0<b)(hq:0<q)(h:Pl x y b u v t)(k:Pl (vx*p) (vy*p) q a c w)(s:Pl (u*w+a*t) (v*w+c*t) (t*w) u' v' t'):
  Pl (x*q+vx*p*b) (y*q+vy*p*b) (b*q) u' v' t':=by
 have htw:t*w≠0:=by have:=v7 h.pos k.pos;lia
 have go:∀{u' u a x vx:Int},u'*(t*w)=(u*w+a*t)*t'->u*b=x*t->a*q=vx*p*w->u'*(b*q)=(x*q+vx*p*b)*t':=λ{u' u a x vx} e1 e2 e3=>by
  apply w6 htw
  calc u'*(b*q)*(t*w)=(u'*(t*w))*(b*q):=by grind
   _=((u*b)*(w*q)+(a*q)*(t*b))*t':=by rw[e1];grind
   _=(x*q+vx*p*b)*t'*(t*w):=by rw[e2,e3];grind
 exact⟨s.pos,s.cop,go s.cx h.cx k.cx,go s.cy h.cy k.cy⟩
def z8t (a:Int):(if a<0 then -a else a)=(a.natAbs:Int):=by split <;> lia
def z2b {a b:Int}{Q:DK}{X:XP}(q:Q (.int ((Int.gcd a b:Nat):Int))):z0b.run [.int a,.int b] Q X:=by
 walk_at "fn";ac_nf;rw[z8t,z8t];refine zdW (λρ=>∃(g s:Nat) (x:B),Nat.gcd g s=Int.gcd a b/\ρ=[.s (.int a),.s (.int b),.s (.int (g:Int)),.s (.int (s:Int)),x]) (λρ=>(nI ρ 3).toNat) ⟨a.natAbs,b.natAbs,_,rfl,rfl⟩ ?_;rintro ρ ⟨g,s,x,e,rfl⟩;ac_nf;refine z2j (z1p (λz =>?_) (λz =>?_))
 .ac_nf;have:s=0:=by lia
  subst this;rw[Nat.gcd_zero_right] at e;rw[e];exact q
 .ac_nf;have hm:(g:Int) % (s:Int)=((g % s:Nat):Int):=by simp
  refine⟨⟨s,g % s,_,by rw[<- e,uO g s,Nat.gcd_rec s g,uO],by rw[hm]⟩,?_⟩;show ((g:Int) % (s:Int)).toNat<((s:Nat):Int).toNat
  rw[hm];have:=Nat.mod_lt g (show 0<s by lia);lia
def zh0 {i j:Nat}{es:List Ex}{ρ:Pu.Env}{N:Pu.Env->Prop}{Q:DK}{X:XP}(q:runs es (vis ρ) (λds=>[i,j].length=ds.length/\N (z0g [i,j] ds ρ)) X):(Sm.par2 i j es).run ρ N Q X:=q
def z4k {a b:Nat}{Q:DK}{X:XP}(q:Q (.int ((Nat.gcd a b:Nat):Int))):z0f.run [.int (a:Int),.int (b:Int)] Q X:=by
 walk_at "fn";refine zf6 (zdW (λρ=>∃g s:Nat,Nat.gcd g s=Nat.gcd a b/\ρ=[.s (.int (g:Int)),.s (.int (s:Int))]) (λρ=>(nI ρ 1).toNat) ⟨a,b,rfl,rfl⟩ ?_);rintro ρ ⟨g,s,e,rfl⟩;ac_nf;refine z2j (z1p (λz =>?_) (λz =>?_))
 .ac_nf;have:s=0:=by lia
  subst this;rw[Nat.gcd_zero_right] at e;rw[e];exact q
 .refine zh0 ?_;ac_rfl;ac_nf;kt_le;have hm:(g:Int) % (s:Int)=((g % s:Nat):Int):=by simp
  w_how;ac_rfl;refine⟨⟨s,g % s,by rw[<- e,uO g s,Nat.gcd_rec s g,uO],by rw[hm]⟩,?_⟩;show ((g:Int) % (s:Int)).toNat<((s:Nat):Int).toNat
  rw[hm];have:=Nat.mod_lt g (show 0<s by lia);lia
def zee {t b:Int}{Q:DK}{X:XP}(hb:0<b)(bb:Bt 8000 b)(q:Q (.tup [.int (t / (Int.gcd t b:Int)),.int (b / (Int.gcd t b:Int))])):z0M.run [.int t,.int b] Q X:=by
 obtain⟨g0,_,e,_,_⟩:=z4Y (t:=t) hb;have bg:Bt 9000 (Int.gcd t b:Int):=Bt.le (bb.of_abs (by
  have:=Nat.le_of_dvd (by lia) (Int.gcd_dvd_natAbs_right t b);lia))
 walk_at "fn";ac_nf;rw[z8t,show b=(b.natAbs:Int) by lia];refine z4k ?_;rw[show (b.natAbs:Int)=b by lia];show Safe _ _/\_;rw[show ((Nat.gcd t.natAbs b.natAbs:Nat):Int)=(Int.gcd t b:Int) from rfl];generalize (Int.gcd t b:Int)=g at*;ac_nf;exact q
def zec {x y b:Int}{Q:DK}{X:XP}(hb:0<b)(bb:Bt 8000 b)(q:∀u v t,Pl x y b u v t->Q (.tup [.int u,.int v,.int t])):z0G.run [.int x,.int y,.int b] Q X:=by
 have hg:((Nat.gcd (Nat.gcd x.natAbs y.natAbs) b.natAbs:Nat):Int)=g3 x y b:=by
  unfold g3;rw[z2C]
  congr 1
  rw[uO, <- Nat.gcd_assoc]
 have hp:=z9w (x:=x) (y:=y) hb;have g0:=z9O (x:=x) (y:=y) hb;have bg:Bt 9000 (g3 x y b):=Bt.le (bb.of_abs (by
  have:=vB.mpr (z5u x y b);exact Nat.le_of_dvd (by lia) this))
 walk_at "fn";ac_nf;rw[z8t,z8t];refine z4k ?_;ac_nf;rw[show b=(b.natAbs:Int) by lia];refine z4k ?_;rw[show (b.natAbs:Int)=b by lia,hg];generalize g3 x y b=g at*;ac_nf;exact q _ _ _ (Pl.of hp)
def z6d {x y b:Int}{Q:DK}{X:XP}(hb:0<b)(bb:Bt 8000 b)(q:∀u v t,Pl x y b u v t->Q (.tup [.int u,.int v,.int t])):z1Y.run [.int x,.int y,.int b] Q X:=by
 have hp:=z9w (x:=x) (y:=y) hb;have g0:=z9O (x:=x) (y:=y) hb;have bg:Bt 9000 (g3 x y b):=Bt.le (bb.of_abs (by
  have:=vB.mpr (z5u x y b);exact Nat.le_of_dvd (by lia) this))
 walk_at "fn";ac_nf;refine z2b ?_;ac_nf;refine z2b ?_;rw[show ((Int.gcd ((Int.gcd b x:Nat):Int) y:Nat):Int)=g3 x y b from rfl];generalize g3 x y b=g at*;ac_nf;exact q _ _ _ (Pl.of hp)
def z2a {x y z a b c:Int}{Q:DK}{X:XP}(hz:0<z)(hc:0<c)(h1:Int.gcd ((Int.gcd x y:Nat):Int) z=1)(h2:Int.gcd ((Int.gcd a b:Nat):Int) c=1)(bx:Bt 8000 x)(bY:Bt 8000 y)(bz:Bt 8000 z)(ba:Bt 8000 a)(bb:Bt 8000 b)(bc:Bt 8000 c)
  (q:∀u v t,Pl (x*c+a*z) (y*c+b*z) (z*c) u v t->Q (.tup [.int u,.int v,.int t])):z0Q.run [.tup [.int x,.int y,.int z],.tup [.int a,.int b,.int c]] Q X:=by
 obtain⟨g,eg⟩:∃g,g=((Int.gcd z c:Nat):Int):=⟨_,rfl⟩
 obtain⟨u,eu⟩:∃u,u=x*(c / g)+a*(z / g):=⟨_,rfl⟩
 obtain⟨v,ev⟩:∃v,v=y*(c / g)+b*(z / g):=⟨_,rfl⟩
 obtain⟨r,er⟩:∃r,r=((Int.gcd ((Int.gcd g u:Nat):Int) v:Nat):Int):=⟨_,rfl⟩
 obtain⟨g0,r0,gl,rl,pl⟩:=z7X hz hc h1 h2 eg eu ev er;have bg:Bt 9000 g:=Bt.le (bz.of_abs gl);have br:Bt 9000 r:=Bt.le (bz.of_abs rl);have b1:Bt 8000 (c / g):=bc.of_abs (z0c g0);have b2:Bt 8000 (z / g):=bz.of_abs (z0c g0);have b3:Bt 8000 (c / r):=bc.of_abs (z0c r0);walk_at "fn";ac_nf;refine z2b ?_;rw[<- eg];ac_nf;rw[<- eu, <- ev];refine z2b ?_;ac_nf;refine z2b ?_;rw[<- er];ac_nf;exact q _ _ _ (Pl.of pl)
def gcd0 (u t:Int):Int.gcd ((Int.gcd u 0:Nat):Int) t=Int.gcd u t:=by rw[z2C];simp[Int.gcd]
def Pl.low {t b:Int}(hb:0<b):Pl t 0 b (t / (Int.gcd t b:Int)) 0 (b / (Int.gcd t b:Int)):=by
 obtain⟨g0,e1,e2,e3,e4⟩:=z4Y (t:=t) hb;refine⟨by lia,by rw[gcd0];exact e4,?_,by simp⟩;generalize (Int.gcd t b:Int)=g at*;generalize t / g=u at*;generalize b / g=w at*;rw[e2,e1]
 grind
def zfc {a b c d:Int}{Q:DK}{X:XP}(hb:0<b)(hd:0<d)(h1:Int.gcd a b=1)(h2:Int.gcd c d=1)(ba:Bt 8000 a)(bb:Bt 8000 b)(bc:Bt 8000 c)(bd:Bt 8000 d)
  (q:∀u t,Pl (a*d+c*b) 0 (b*d) u 0 t->Q (.tup [.int u,.int t])):z7p.run [.tup [.int a,.int b],.tup [.int c,.int d]] Q X:=by
 obtain⟨g,eg⟩:∃g,g=((Int.gcd b d:Nat):Int):=⟨_,rfl⟩
 obtain⟨t,et⟩:∃t,t=a*(d / g)+c*(b / g):=⟨_,rfl⟩
 obtain⟨r,er⟩:∃r,r=((Int.gcd g t:Nat):Int):=⟨_,rfl⟩
 obtain⟨g0,r0,gl,rl,pl⟩:=z7X (x:=a) (y:=0) (z:=b) (a:=c) (b:=0) (c:=d) (v:=0) (r:=r) hb hd (by rw[gcd0];exact h1) (by rw[gcd0];exact h2) eg et (by simp) (by rw[er];simp);have bg:Bt 9000 g:=Bt.le (bb.of_abs gl);have br:Bt 9000 r:=Bt.le (bb.of_abs rl);have b1:Bt 8000 (d / g):=bd.of_abs (z0c g0);have b2:Bt 8000 (b / g):=bb.of_abs (z0c g0);have b3:Bt 8000 (d / r):=bd.of_abs (z0c r0);walk_at "fn";ac_nf;refine z2b ?_;rw[<- eg];ac_nf;rw[<- et];refine z2b ?_;rw[<- er];ac_nf;have:=Pl.of pl;simp only[Int.zero_ediv,Int.zero_mul,Int.add_zero] at this;exact q _ _ this
abbrev Sh:=Nat × Int × Int
abbrev shD (s:Sh):D :=.tup [.int (s.1:Int),.tup [.int s.2.1,.int s.2.2]]
structure Sz (s:Sh):Prop where
 top:0<s.2.1
 bot:0<s.2.2
 bt:Bt 67 s.2.1
 bb:Bt 67 s.2.2
structure Sg (s:Sh):Prop extends Sz s where
 cop:Int.gcd s.2.1 s.2.2=1
structure Shs (n:Nat)(l:List Sh):Prop where
 each:∀s∈l,Sg s/\s.1<n
 up:l.Pairwise (λa b=>a.1<b.1)
def z4H:∀{l:List Sh}{n:Nat},l.Pairwise (λa b=>a.1<b.1)->(∀s∈l,s.1<n)->l.length<=n:=by
 intro l;have main:∀(l:List Sh) (k n:Nat),l.Pairwise (λa b=>a.1<b.1)->(∀s∈l,k<=s.1/\s.1<n)->k+l.length<=max k n:=by
  intro l
  induction l with
  | nil=>intro k n _ _;simp;lia
  | cons s l ih=>
   intro k n h h2;rw[vD] at h;have:=ih (s.1+1) n h.2 λx hx=>⟨h.1 x hx,(h2 x (by simp[hx])).2⟩
   have:=h2 s (by simp);simp;lia
 intro n h h2;have:=main l 0 n h λs hs=>⟨by lia,h2 s hs⟩
 lia
def za4 {s:Sh}{Q:DK}{X:XP}(h:Sg s)(q:Q (.bl true)):z2U.run [.tup [.int s.2.1,.int s.2.2]] Q X:=by
 walk_at "fn";ac_nf;refine zcI h.top ?_;ac_nf;refine zcI h.bot ?_;ac_nf;refine z2b ?_;rw[h.cop];ac_nf;exact q
def z7N {l:List P}{sh:List Sh}{Q:DK}{X:XP}(h:Shs l.length sh)(q:Q (.bl true)):z1b.run [vecs l,.tup (sh.map shD)] Q X:=by
 walk_at "fn";ac_nf;refine z1D (f:=shD) (λdn ρ=>∃(a:Int) (x3 x4:B),(∀s∈sh,s ∉ dn->True)/\(dn=[]->a = -1)/\(∀s,dn.getLast? = some s->a=(s.1:Int))/\ρ=[.s (vecs l),.s (.tup (sh.map shD)),.s (.int a),x3,x4]) ⟨-1,_,_,λ_ _ _=>trivial,λ_=>rfl,λs z=>by simp at z,rfl⟩ ?_ ?_
 .rintro dn s r ρ e ⟨a,x3,x4,_,ha,hb,rfl⟩;obtain⟨hs,hn⟩:=h.each s (by rw[e];simp);have hlt:a<(s.1:Int):=by
   cases hd:dn.getLast? with
   | none=>rw[ha (List.getLast?_eq_none_iff.mp hd)];lia
   | some x=>
    rw[hb x hd];have hu:=h.up;rw[e,List.pairwise_append] at hu;have:=hu.2.2 x (List.mem_of_getLast? hd) s (by simp);lia
  kt_le;o_rec;w_how;ac_rfl;ac_nf;refine t_no (by lia) ?_;ac_nf;rw[wc];refine t_no (by lia) ?_;ac_nf;refine za4 hs ?_;ac_nf;l_out;ac_nf;exact⟨_,_,_,λ_ _ _=>trivial,λz=>by simp at z,λx z=>by simp at z;rw[z],rfl⟩
 rintro ρ ⟨a,x3,x4,_,ha,hb,rfl⟩;ac_nf;exact q
def Bq:List Sh->Int
 | []=>1
 | s::l=>Bq l*s.2.2
def Xq (w:Nat->Int):List Sh->Int
 | []=>0
 | s::l=>Xq w l*s.2.2+w s.1*s.2.1*Bq l
theorem Bq.pos:∀{l:List Sh},(∀s∈l,Sz s)->0<Bq l
 | [],_=>by decide
 | s::l,h=>v7 (Bq.pos λx hx=>h x (by simp[hx])) (h s (by simp)).bot
theorem Bq.bt:∀{l:List Sh},(∀s∈l,Sz s)->Bt (67*l.length+1) (Bq l)
 | [],_=>z0B (by decide)
 | s::l,h=>Bt.le (Bt.mul (Bq.bt λx hx=>h x (by simp[hx])) (h s (by simp)).bb) (by simp;lia)
theorem Xq.bt {w:Nat->Int}(hw:∀k,Bt 600 (w k)):∀{l:List Sh},(∀s∈l,Sz s)->Bt (700+68*l.length) (Xq w l)
 | [],_=>Bt.le (m:=1) (z0B (by show (0:Int).natAbs<2 ^ 1;decide))
 | s::l,h=>by
  have ih:=Xq.bt hw (l:=l) λx hx=>h x (by simp[hx]);have hs:=h s (by simp);have hB:=Bq.bt (l:=l) λx hx=>h x (by simp[hx]);exact Bt.le (Bt.add (Bt.mul ih hs.bb) (Bt.mul (Bt.mul (hw s.1) hs.bt) hB)) (by simp;lia)
theorem zaA {w:Nat->Int}:∀{l:List Sh}(M:Int),(∀s∈l,Sz s)->(l.map λs=>w s.1*s.2.1*(Bq l*M / s.2.2)).sum=Xq w l*M
 | [],M,_=>by simp[Xq]
 | s::l,M,h=>by
  have hs:=h s (by simp);have ih:=zaA (w:=w) (l:=l) (s.2.2*M) λx hx=>h x (by simp[hx]);have e1:Bq (s::l)*M=Bq l*(s.2.2*M):=by simp only[Bq];grind
  have e2:Bq (s::l)*M / s.2.2=Bq l*M:=by
   rw[show Bq (s::l)*M=s.2.2*(Bq l*M) by simp only[Bq];grind];exact vH _ (by have:=hs.bot;lia)
  rw[wA,uu,e2,e1,ih];simp only[Xq]
  grind
theorem zaO:∀l:List Int,l.reverse.sum=l.sum
 | []=>rfl
 | x::l=>by
  rw[List.reverse_cons,List.sum_append,zaO l];simp;lia
def z41 (f:Sh->Int)(l:List Sh):(l.reverse.map f).sum=(l.map f).sum:=by rw[List.map_reverse,zaO]
def wx (l:List P)(k:Nat):Int:=(Geo.cy l k).1
def wy (l:List P)(k:Nat):Int:=(Geo.cy l k).2
def z6R {a b p q:Int}{Q:DK}{X:XP}(hq:0<q)(bq:Bt 67 q)(ba:Bt 600 a)(bb:Bt 600 b)(bp:Bt 67 p)(h:∀u v t,Pl (a*p) (b*p) q u v t->Q (.tup [.int u,.int v,.int t])):z2d.run [.tup [.int a,.int b,.int 1],.tup [.int p,.int q]] Q X:=by
 walk_at "fn";ac_nf;rw[Int.one_mul];exact z6d hq bq.le h
def z7L {l:List P}{sh:List Sh}{Q:DK}{X:XP}(hl:l≠[])(hz:l.length<=62)(hb:Wb 600 l)(h:Shs l.length sh)(q:∀u v t,Pl (Xq (wx l) sh.reverse) (Xq (wy l) sh.reverse) (Bq sh.reverse) u v t->Q (.tup [.int u,.int v,.int t])):z2E.run [vecs l,.tup (sh.map shD)] Q X:=by
 have h0:=uL.mpr hl;have cb:∀k,Vb 600 (Geo.cy l k):=λk=>hb _ (wH (z9S h0));have sl:=z4H h.up λs hs=>(h.each s hs).2;walk_at "fn";ac_nf;refine z7N h ?_;ac_nf;l_out;ac_nf;refine z1D (f:=shD) (λdn ρ=>∃(u v t:Int) (x3 x4 x5:B),Pl (Xq (wx l) dn.reverse) (Xq (wy l) dn.reverse) (Bq dn.reverse) u v t/\ρ=[.s (vecs l),.s (.tup (sh.map shD)),.s (.tup [.int u,.int v,.int t]),x3,x4,x5]) ⟨0,0,1,_,_,_,⟨by decide,by decide,by simp[Bq,Xq],by simp[Bq,Xq]⟩,rfl⟩ ?_ ?_
 .rintro dn s r ρ e ⟨u,v,t,x3,x4,x5,hp,rfl⟩;obtain⟨hs,hn⟩:=h.each s (by rw[e];simp);o_new;have dl:dn.reverse.length<=62:=by
   k_dec;simp at this;rw[vQ];lia
  have B0:=Bq.pos hdn;obtain⟨bt1,bu,bv⟩:=hp.bt B0 (Bt.le (Bq.bt hdn) (show _<=8000 by lia)) (Bt.le (Xq.bt (λk=>(cb k).1) hdn) (show _<=8000 by lia)) (Bt.le (Xq.bt (λk=>(cb k).2) hdn) (show _<=8000 by lia));kt_le;o_rec;w_how;ac_rfl;ac_nf;refine z43 (z9W (zgl hn)) ?_;k_end;ac_rfl;ac_nf;refine z6R hs.bot hs.bb (cb s.1).1 (cb s.1).2 hs.bt λa c w hk =>?_;obtain⟨bw,ba,bc⟩:=hk.bt hs.bot hs.bb (Bt.mul (cb s.1).1 hs.bt) (Bt.mul (cb s.1).2 hs.bt);refine z2a hp.pos hk.pos hp.cop hk.cop bu bv bt1 ba.le bc.le bw.le λu' v' t' hs' =>?_;k_end;ac_rfl;refine⟨u',v',t',_,_,_,?_,rfl⟩;rw[uM];exact hp.step B0 hs.bot hk hs'
 rintro ρ ⟨u,v,t,x3,x4,x5,hp,rfl⟩;ac_nf;exact q u v t hp
def z7K {n:Nat}{sh:List Sh}{Q:DK}{X:XP}(hn:n<=62)(h:Shs n sh)(q:∀u t,Pl (Xq (λ_=>1) sh.reverse) 0 (Bq sh.reverse) u 0 t->Q (.tup [.int u,.int t])):z1a.run [.tup (sh.map shD)] Q X:=by
 have sl:=z4H h.up λs hs=>(h.each s hs).2;have w1:∀k:Nat,Bt 600 ((λ_=>(1:Int)) k):=λ_=>Bt.le (m:=1) (z0B (by show (1:Int).natAbs<2 ^ 1;decide));walk_at "fn";ac_nf;refine z1D (f:=shD) (λdn ρ=>∃(u t:Int) (x3 x4:B),Pl (Xq (λ_=>1) dn.reverse) 0 (Bq dn.reverse) u 0 t/\ρ=[.s (.tup (sh.map shD)),.s (.tup [.int u,.int t]),x3,x4]) ⟨0,1,_,_,⟨by decide,by decide,by simp[Bq,Xq],by simp⟩,rfl⟩ ?_ ?_
 .rintro dn s r ρ e ⟨u,t,x3,x4,hp,rfl⟩;obtain⟨hs,hn⟩:=h.each s (by rw[e];simp);o_new;have dl:dn.reverse.length<=62:=by
   k_dec;simp at this;rw[vQ];lia
  have B0:=Bq.pos hdn;obtain⟨bt1,bu,_⟩:=hp.bt B0 (Bt.le (Bq.bt hdn) (show _<=8000 by lia)) (Bt.le (Xq.bt w1 hdn) (show _<=8000 by lia)) (Bt.le (m:=0) (z0B (by decide)) (show _<=8000 by lia));have hc:=hp.cop;rw[gcd0] at hc;kt_le;o_rec;w_how;ac_rfl;ac_nf;refine zfc hp.pos hs.bot hc hs.cop bu bt1 hs.bt.le hs.bb.le λu' t' hs' =>?_;k_end;ac_rfl;refine⟨u',t',_,_,?_,rfl⟩;rw[uM];have hk:Pl (1*s.2.1) (0*s.2.1) s.2.2 s.2.1 0 s.2.2:=⟨hs.bot,by rw[gcd0];exact hs.cop,by rw[Int.one_mul],by simp⟩
  have st:=hp.step (vx:=1) (vy:=0) (u':=u') (v':=0) (t':=t') B0 hs.bot hk (by simpa using hs');simpa[Xq,Bq] using st
 rintro ρ ⟨u,t,x3,x4,hp,rfl⟩;ac_nf;exact q u t hp
def zb4 {l:List P}{sh:List Sh}{Q:DK}{X:XP}(hl:l≠[])(hz:l.length<=62)(hb:Wb 600 l)(h:Shs l.length sh)(q:∀u v t,Pl (Xq (wx l) sh.reverse) (Xq (wy l) sh.reverse) (Bq sh.reverse) u v t->Q (.tup [.int u,.int v,.int t])):z1O.run [vecs l,.tup (sh.map shD)] Q X:=by
 have h0:=uL.mpr hl;have cb:∀k,Vb 600 (Geo.cy l k):=λk=>hb _ (wH (z9S h0));have sl:=z4H h.up λs hs=>(h.each s hs).2;have hsh:∀x∈sh.reverse,Sz x:=λx hx=>(h.each x (by simpa using hx)).1.toSz;have bB:Bt 8000 (Bq sh.reverse):=Bt.le (Bq.bt hsh) (by rw[vQ];lia);have B0:=Bq.pos hsh;have bdv:∀s∈sh,Bt 8000 (Bq sh.reverse / s.2.2):=λs hs=>bB.of_abs (z0c (h.each s hs).1.bot);walk_at "fn";ac_nf;refine z1D (f:=shD) (λdn ρ=>∃x3 x4:B,ρ=[.s (vecs l),.s (.tup (sh.map shD)),.s (.int (Bq dn.reverse)),x3,x4,.n,.n]) ⟨_,_,rfl⟩ ?_ ?_
 .rintro dn s r ρ e ⟨x3,x4,rfl⟩;have hs:=(h.each s (by rw[e];simp)).1;o_new;have dl:dn.reverse.length<=62:=by
   k_dec;simp at this;rw[vQ];lia
  have bd:Bt 8000 (Bq dn.reverse):=Bt.le (Bq.bt hdn) (by lia);have bs:=hs.bb;kt_le;o_rec;w_how;ac_rfl;ac_nf;rw[uM];exact⟨_,_,rfl⟩
 rintro ρ ⟨x3,x4,rfl⟩;ac_nf;refine⟨by rw[wc];exact szl' (by lia),?_⟩;refine z2v (g:=λs =>.int (wx l s.1*s.2.1*(Bq sh.reverse / s.2.2))) (λs hs K hK =>?_) ?_
 .have hg:=(h.each s hs).1;have b1:=(cb s.1).1;have b2:=hg.bt;have b3:=bdv s hs;have b4:=hg.bb;have p4:=hg.bot;have b12:Bt 700 ((Geo.cy l s.1).1*s.2.1):=(Bt.mul b1 b2).le;kt_le;show Ex.run _ _ _ _;w_how;ac_rfl;ac_nf;refine z43 (z9W (zgl (h.each s hs).2)) ?_;ac_nf;exact hK
 rw[show (sh.map λs=>D.int (wx l s.1*s.2.1*(Bq sh.reverse / s.2.2)))=(sh.map λs=>wx l s.1*s.2.1*(Bq sh.reverse / s.2.2)).map .int by rw[w5];rfl];refine zbO ?_;ac_nf;refine⟨by rw[wc];exact szl' (by lia),?_⟩;refine z2v (g:=λs =>.int (wy l s.1*s.2.1*(Bq sh.reverse / s.2.2))) (λs hs K hK =>?_) ?_
 .have hg:=(h.each s hs).1;have b1:=(cb s.1).2;have b2:=hg.bt;have b3:=bdv s hs;have b4:=hg.bb;have p4:=hg.bot;have b12:Bt 700 ((Geo.cy l s.1).2*s.2.1):=(Bt.mul b1 b2).le;kt_le;show Ex.run _ _ _ _;w_how;ac_rfl;ac_nf;refine z43 (z9W (zgl (h.each s hs).2)) ?_;ac_nf;exact hK
 rw[show (sh.map λs=>D.int (wy l s.1*s.2.1*(Bq sh.reverse / s.2.2)))=(sh.map λs=>wy l s.1*s.2.1*(Bq sh.reverse / s.2.2)).map .int by rw[w5];rfl];refine zbO ?_;have sm:∀w:Nat->Int,(sh.map λs=>w s.1*s.2.1*(Bq sh.reverse / s.2.2)).sum=Xq w sh.reverse:=λw=>by
  rw[<- z41];have:=zaA (w:=w) 1 hsh;kw_lk
 rw[sm,sm];ac_nf;exact zec B0 bB q
def z6e {sh:List Sh}{Q:DK}{X:XP}(sl:sh.length<=62)(h:∀s∈sh,Sz s)(q:∀u t,Pl (Xq (λ_=>1) sh.reverse) 0 (Bq sh.reverse) u 0 t->Q (.tup [.int u,.int t])):z13.run [.tup (sh.map shD)] Q X:=by
 have hsh:∀x∈sh.reverse,Sz x:=λx hx=>h x (by simpa using hx);have bB:Bt 8000 (Bq sh.reverse):=Bt.le (Bq.bt hsh) (by rw[vQ];lia);have B0:=Bq.pos hsh;have bdv:∀s∈sh,Bt 8000 (Bq sh.reverse / s.2.2):=λs hs=>bB.of_abs (z0c (h s hs).bot);walk_at "fn";ac_nf;refine z1D (f:=shD) (λdn ρ=>∃x3 x4:B,ρ=[.s (.tup (sh.map shD)),.s (.int (Bq dn.reverse)),x3,x4]) ⟨_,_,rfl⟩ ?_ ?_
 .rintro dn s r ρ e ⟨x3,x4,rfl⟩;have hs:=h s (by rw[e];simp);have hdn:∀x∈dn.reverse,Sz x:=λx hx=>h x (by rw[e];simp at hx;simp[hx]);have dl:dn.reverse.length<=62:=by
   k_dec;simp at this;rw[vQ];lia
  have bd:Bt 8000 (Bq dn.reverse):=Bt.le (Bq.bt hdn) (by lia);have bs:=hs.bb;kt_le;o_rec;w_how;ac_rfl;ac_nf;rw[uM];exact⟨_,_,rfl⟩
 rintro ρ ⟨x3,x4,rfl⟩;ac_nf;refine⟨by rw[wc];exact szl' (by lia),?_⟩;refine z2v (g:=λs =>.int (s.2.1*(Bq sh.reverse / s.2.2))) (λs hs K hK =>?_) ?_
 .have hg:=(h s hs)
  have b2:=hg.bt;have b3:=bdv s hs;have b4:=hg.bb;have p4:=hg.bot;kt_le;show Ex.run _ _ _ _;w_how;ac_rfl;ac_nf;exact hK
 rw[show (sh.map λs=>D.int (s.2.1*(Bq sh.reverse / s.2.2)))=(sh.map λs=>s.2.1*(Bq sh.reverse / s.2.2)).map .int by rw[w5];rfl];refine zbO ?_;have sm:(sh.map λs=>s.2.1*(Bq sh.reverse / s.2.2)).sum=Xq (λ_=>1) sh.reverse:=by
  rw[<- z41];have:=zaA (w:=λ_=>1) 1 hsh;kw_lk
 rw[sm];ac_nf;exact zee B0 bB (q _ _ (Pl.low B0))
def z4G {n:Nat}(h:n<=1000):n<=sizeLine:=wX h (by decide)
def z1P {c k:Int}{Q:DK}{X:XP}(hk:0<=k)(hk':k<=1000)(q:∀m:Int,0<=m->m<2305843009213693951->Q (.int m)):z05.run [.int c,.int k] Q X:=by
 have bk:Bt 640 k:=z0B (by omega);have b1:Bt 700 (c % 2305843009213693951+31*k+7):=z0B (n:=700) (by omega);walk_at "fn";ac_nf;have h1:0<=(c % 2305843009213693951+31*k+7)*48271 % 2305843009213693951/\(c % 2305843009213693951+31*k+7)*48271 % 2305843009213693951<2305843009213693951:=by omega
 generalize (c % 2305843009213693951+31*k+7)*48271 % 2305843009213693951=z at*;have bz:Bt 70 z:=z0B (by omega);ac_nf;have h2:0<=z*z % 2305843009213693951/\z*z % 2305843009213693951<2305843009213693951:=by omega
 generalize z*z % 2305843009213693951=y at*;have by_:Bt 70 y:=z0B (by omega);ac_nf;exact q _ (by omega) (by omega)
def ze9 {c k m:Int}{Q:DK}{X:XP}(hk:0<=k)(hk':k<=900)(hm:0<=m)(hm':m<=100000000000000000000)(q:∀x y:Int,-m<=x->x<=m -> -m<=y->y<=m->Q (.tup [.int x,.int y])):z0L.run [.int c,.int k,.int m] Q X:=by
 have bm:Bt 640 m:=z0B (by omega);walk_at "fn";ac_nf;refine z1P hk (by omega) λr r0 r1 =>?_;ac_nf;kpc_g;ac_nf;have h1:=uk r (show 2*m+1≠0 by omega);have h2:=vU r (show 0<2*m+1 by omega);have h3:=uk u (show 2*m+1≠0 by omega);have h4:=vU u (show 0<2*m+1 by omega);exact q _ _ (by omega) (by omega) (by omega) (by omega)
def zeg {c m:Int}{Q:DK}{X:XP}(hm:0<=m)(hm':m<=1000000002)(q:∀x y:Int,-m<=x->x<=m -> -m<=y->y<=m->Q (.tup [.int x,.int y])):z0N.run [.int c,.int m] Q X:=by
 have bm:Bt 640 m:=z0B (by omega);have bw:Bt 640 (2*m+1):=z0B (by omega);walk_at "fn";ac_nf;have h1:=uk c (show 2*m+1≠0 by omega);have h2:=vU c (show 0<2*m+1 by omega);have h3:=uk (c / (2*m+1)) (show 2*m+1≠0 by omega);have h4:=vU (c / (2*m+1)) (show 0<2*m+1 by omega);exact q _ _ (by omega) (by omega) (by omega) (by omega)
abbrev abc:Str:="abcdefghijklmnopqrstuvwxyz"
def okc (c:Nat):Bool := !(Builtin.Str.occurrences "abcdefghijklmnopqrstuvwxyz" ⟨#[c]⟩ 0 ("abcdefghijklmnopqrstuvwxyz":Str).length 1).isEmpty
def zg0:∀c∈abc.cps.toList,okc c=true/\c<1114112:=by decide +kernel
def isW (x:Str):Bool:=decide (1<=(x.length:Int)) && (decide ((x.length:Int)<=12) && (x.cps.toList.map okc).all id)
def Ab (x:Str):Prop:=∀c∈x.cps.toList,okc c=true/\c<1114112
structure Wn (x:Str):Prop where
 w:isW x=true
 ok:PyData.strOk x=true
def zeG {x:Str}(h1:1<=x.length)(h2:x.length<=12)(h:Ab x):Wn x:=by
 refine⟨?_,by unfold PyData.strOk;rw[Array.all_eq_true'];exact λc hc=>wu (h c (by simpa using hc)).2⟩;unfold isW;rw[wu (by omega),wu (by omega),uU,uU,vM];intro b hb;obtain⟨c,hc,rfl⟩:=wP.mp hb;exact(h c hc).1
def Ab.snoc {x:Str}{c:Nat}(h:Ab x)(hc:okc c=true/\c<1114112):Ab (x++⟨#[c]⟩):=λd hd=>by
 have hd':d∈(x.cps ++ #[c]).toList:=hd;simp at hd'
 rcases hd' with z | z
 .exact h d (by simpa using z)
 .rw[z];exact hc
def zgf {x:Str}(h:isW x=true):x.length<=13:=by
 unfold isW at h;rw[wN,wN,vI,vI] at h;omega
def zg9 {i:Int}{Q:DK}{X:XP}(h:0<=i)(h':i<26)(q:∀c,okc c=true/\c<1114112->Q (.str ⟨#[c]⟩)):pIx.run [.str "abcdefghijklmnopqrstuvwxyz",.int i] Q X:=by
 refine⟨by decide,?_⟩;have hl:(("abcdefghijklmnopqrstuvwxyz":Str).cps.toList).length=26:=by decide +kernel
 obtain⟨n,rfl⟩:=Int.eq_ofNat_of_zero_le h;have hn:n<(("abcdefghijklmnopqrstuvwxyz":Str).cps.toList).length:=by omega
 exact⟨_,z3x (wJ hn),q _ (zg0 _ (vV hn))⟩
def zaR {x y:Str}:(x++y).length=x.length+y.length:=by
 show (x.cps++y.cps).size=x.cps.size+y.cps.size;simp
def zeB {x y:Str}{Q:DK}{X:XP}(h:x.length+y.length<=1000)(q:Q (.str (x++y))):pAdd.run [.str x,.str y] Q X:=⟨z4G h,q⟩
def zeb {n:Int}{Q:DK}{X:XP}(h:0<=n)(h':n<12)(q:∀x:Str,Wn x->Q (.str x)):z0Y.run [.int n] Q X:=by
 have bn:Bt 640 n:=z0B (by omega);walk_at "fn";ac_nf;refine zg9 (by omega) (by omega) λc hc =>?_;ac_nf;k_accD;refine z1D (f:=λ(k:Nat)=>D.int (k:Int)) (λdn ρ=>∃(x:Str) (b:B),x.length=1+dn.length/\Ab x/\ρ=[.s (.int n),.s (.str "abcdefghijklmnopqrstuvwxyz"),.s (.str x),b]) ⟨_,_,rfl,(λd hd=>by simp at hd;rw[hd];exact hc),rfl⟩ ?_ ?_
 .rintro dn k rest ρ e ⟨x,b,hx,ax,rfl⟩;have hk:k<(n / 3 % 2*11).toNat:=by
   have:=congrArg (λl=>k∈l) e;simp only[vz,ve,wf,true_or,or_true,eq_iff_iff,iff_true] at this;exact this
  have hl:dn.length<=11:=by
   k_dec;simp at this;omega
  have bk:Bt 640 (k:Int):=z0B (by omega);o_rec;ac_rfl;ac_nf;refine zg9 (by omega) (by omega) λc hc =>?_;ac_nf;refine zeB (by show x.length+1<=1000;omega) ?_;ac_nf;exact⟨_,_,by rw[zaR];show x.length+1=_;rw[wz];show _=1+(dn.length+1);omega,ax.snoc hc,rfl⟩
 .rintro ρ ⟨x,b,hx,ax,rfl⟩;ac_nf;rw[vC] at hx;exact q x (zeG (by omega) (by omega) ax)
def zb7 {c:Int}{Q:DK}{X:XP}(q:∀x:Str,Wn x->Q (.str x)):z14.run [.int c] Q X:=by
 walk_at "fn";ac_nf;have h1:0<=c % 12/\c % 12<12:=by omega
 k_accD;refine z1D (f:=λ(k:Nat)=>D.int (k:Int)) (λdn ρ=>∃(x:Str) (r:Int) (b:B),x.length=dn.length/\Ab x/\ρ=[.s (.int c),.s (.str "abcdefghijklmnopqrstuvwxyz"),.s (.str x),.s (.int r),b]) ⟨_,_,_,rfl,(λd hd=>by cases hd),rfl⟩ ?_ ?_
 .rintro dn k rest ρ e ⟨x,r,b,hx,ax,rfl⟩;have hl:dn.length<=12:=by
   k_dec;simp at this;omega
  o_rec;ac_rfl;ac_nf;refine zg9 (by omega) (by omega) λc hc =>?_;ac_nf;refine zeB (by show x.length+1<=1000;omega) ?_;ac_nf;exact⟨_,_,_,by rw[zaR];show x.length+1=_;rw[wz];show _=(dn.length+1);omega,ax.snoc hc,rfl⟩
 .rintro ρ ⟨x,r,b,hx,ax,rfl⟩;ac_nf;rw[vC] at hx;exact q x (zeG (by omega) (by omega) ax)
def ix8 {i:Int}{l:List D}{Q:DK}(h:0<=i)(h':i<l.length)(q:∀d∈l,Q d):onV (atI l i) Q:=by
 obtain⟨n,rfl⟩:=Int.eq_ofNat_of_zero_le h;have hn:n<l.length:=by omega
 rw[z3x (wJ hn)];exact q _ (vV hn)
def zil {x:Str}{Q:DK}{X:XP}(h:x.length<=1000)(q:Q (.int (x.length:Int))):pLen.run [.str x] Q X:=⟨z4G h,q⟩
def z94 {F F':Fn}{a b c:Ex}{ρ:Pu.Env}{Q:DK}{X:XP}(q:a.run ρ (λx=>b.run ρ (λy=>F.run [x,y] (λd=>tst d (c.run ρ (λz=>F'.run [y,z] Q X) X) (Q (.bl false))) X) X) X):(Ex.chain F F' a b c).run ρ Q X:=q
def zk9 {x y:Str}{Q:DK}{X:XP}(q:Q (.bl (!(Builtin.Str.occurrences y x 0 y.length 1).isEmpty))):pInS.run [.str x,.str y] Q X:=⟨x,y,rfl,rfl,q⟩
def zh6 {x:Str}{Q:DK}{X:XP}(h:x.length<=13)(q:Q (.bl (isW x))):(Sm.ret (.and (.chain pLe pLe (.c (.int 1)) (.op pLen [(.v 0)]) (.c (.int 12))) (.op pAll [(.comp 1 [] (.nm 0) (.v 0) none (.op pInS [(.v 0),(.c (.str "abcdefghijklmnopqrstuvwxyz"))]))]))).run [.s (.str x)] (λ_=>Q .non) Q X:=by
 unfold isW at q;ac_nf;refine z94 ?_;ac_nf;refine zil (by omega) ?_;ac_nf;sr_in
 .rw[wu h1] at q;ac_nf;refine z1p (λh2 =>?_) (λh2 =>?_)
  .rw[wu h2] at q;ac_nf;show _/\_;refine⟨?_,?_⟩
   .rw[wc];show x.cps.toList.length<sizeLine;rw[vZ];exact wK (show x.length<1000 by omega) (z4G (wG _))
   .refine z2v (g:=λc=>D.bl (!(Builtin.Str.occurrences "abcdefghijklmnopqrstuvwxyz" ⟨#[c]⟩ 0 ("abcdefghijklmnopqrstuvwxyz":Str).length 1).isEmpty)) (λc _ K hK =>?_) ?_
    .ac_nf;refine zk9 ?_;exact hK
    .refine⟨x.cps.toList.map λc => !(Builtin.Str.occurrences "abcdefghijklmnopqrstuvwxyz" ⟨#[c]⟩ 0 ("abcdefghijklmnopqrstuvwxyz":Str).length 1).isEmpty,by rw[w5];rfl,?_⟩;exact q
  .rw[wF h2] at q;ac_nf;exact q
 .rw[wF h1] at q;ac_nf;exact q
def zb5 {x:Str}{Q:DK}{X:XP}(h:x.length<=13)(q:Q (.bl (isW x))):z4A.run [.str x] Q X:=⟨rfl,zh6 h q⟩
def inB (i:Int):Bool:=decide (-1000000000<=i) && decide (i<=1000000000)
def Sp1 (d:D)(b:Bool):Prop:=∀(Q:DK) (X:XP),Q (.bl b)->z2T.run [d] Q X
def ze5 (i:Int):Sp1 (.int i) (inB i):=λQ X q=>by
 unfold inB at q;walk_at "fn";ac_nf;w_end;ac_nf;w_end;ac_nf;refine z94 ?_;ac_nf;sr_in
 .rw[wu h1] at q;ac_nf;exact q
 .rw[wF h1] at q;exact q
def Sv (d:D)(b:Bool):Prop:=∀(Q:DK) (X:XP),Q (.bl b)->z0S.run [d] Q X
def zeZ {a c:D}{x y:Bool}(ha:Sp1 a x)(hc:Sp1 c y):Sv (.tup [a,c]) (x && y):=λQ X q=>by
 walk_at "fn";ac_nf;refine z1J (by decide) ?_;ac_nf;refine zcI rfl ?_;ac_nf;refine ha _ _ ?_;refine t_bl (λh =>?_) (λh =>?_)
 .subst h;ac_nf;exact hc _ _ q
 .subst h;exact q
def Iw (d:D)(b:Bool):Prop:=∀(Q:DK) (X:XP),Q (.bl b)->z4B.run [d] Q X
theorem z8i {G:D->(Option D->Prop)->Prop}:∀(l:List D) (bs:List Bool) (M:List D->Prop),bs.length=l.length->(∀(i:Nat) (d:D) (b:Bool),l[i]? = some d->bs[i]? = some b->∀K:Option D->Prop,K (some (.bl b))->G d K)->M (bs.map .bl)->z44 G l M
 | [],[],_,_,_,q=>q
 | [],_::_,_,h,_,_=>by simp at h
 | _::_,[],_,h,_,_=>by simp at h
 | d::l,b::bs,M,h,hg,q=>hg 0 d b rfl rfl _ (z8i l bs _ (by simpa using h) (λi d b e1 e2=>hg (i+1) d b (by simpa using e1) (by simpa using e2)) q)
def ziL {l:List D}{bs:List Bool}(h:bs.length=l.length)(hz:l.length<=1000)(hs:∀(i:Nat) (d:D) (b:Bool),l[i]? = some d->bs[i]? = some b->Sv d b):Iw (.tup l) (decide (1<=(l.length:Int)) && (decide ((l.length:Int)<=12) && bs.all id)):=λQ X q=>by
 walk_at "fn";ac_nf;w_end;ac_nf;refine z94 ?_;ac_nf;sr_in
 .rw[wu h1] at q;ac_nf;refine zgz (λh2 =>?_) (λh2 =>?_)
  .rw[wF h2] at q;ac_nf;exact q
  .rw[wu h2] at q;ac_nf;refine⟨Nat.lt_of_le_of_lt hz (by decide),?_⟩;refine z8i l bs _ h (λi d b e1 e2 K hK =>?_) ?_
   .ac_nf;exact hs i d b e1 e2 _ _ hK
   .exact⟨bs,rfl,q⟩
 .rw[wF h1] at q;refine z1J rfl ?_;ac_nf;exact q
def inV (p:Int × Int):Bool:=inB p.1 && inB p.2
def ze1 (p:Int × Int):Sv (vec p) (inV p):=zeZ (ze5 p.1) (ze5 p.2)
def zge {vs:List (Int × Int)}(h1:vs≠[])(h2:vs.length<=12)(hb:∀p∈vs,inV p=true):Iw (vecs vs) true:=by
 have:=ziL (l:=vs.map vec) (bs:=vs.map inV) (by rw[wc,wc]) (by rw[wc];omega) λi d b e1 e2=>by
  rw[wR] at e1 e2
  cases z:vs[i]? with
  | none=>rw[z] at e1;cases e1
  | some p=>
   rw[z] at e1 e2
   cases e1;cases e2
   exact ze1 p
 have hl:1<=vs.length:=by
  cases vs with
  | nil=>exact(h1 rfl).elim
  | cons=>simp
 have e:(decide (1<=(((vs.map vec).length:Nat):Int)) && (decide ((((vs.map vec).length:Nat):Int)<=12) && (vs.map inV).all id))=true:=by
  rw[wc,wu (by omega),wu (by omega),uU,uU,List.all_map,vM];exact hb
 rw[e] at this;exact this
def pow9:(10:Int) ^ (9:Int).toNat=1000000000:=by decide
def z9L {x y:Int}(h1 : -1000000000<=x)(h2:x<=1000000000)(h3 : -1000000000<=y)(h4:y<=1000000000):inV (x,y)=true:=by
 unfold inV inB;rw[wu h1,wu h2,wu h3,wu h4]
 rfl
def zjm {c m:Int}{Q:DK}{X:XP}(hm:0<=m)(hm':m<=1000000000)(q:∀vs:List (Int × Int),vs≠[]->vs.length<=12->(∀p∈vs,inV p=true)->Q (vecs vs)):z0D.run [.int c,.int m] Q X:=by
 have bm:Bt 640 m:=z0B (by omega);walk_at "fn";ac_nf;refine⟨(λ_ z=>nomatch z),?_⟩;ac_rfl;ac_nf;have h1:0<=c % 12/\c % 12<12:=by omega
 k_accD;refine z1D (f:=λ(k:Nat)=>D.int (k:Int)) (λdn ρ=>∃(vs:List (Int × Int)) (r:Int) (b:B),vs.length=dn.length/\(∀p∈vs,inV p=true)/\ρ=[.s (.int c),.s (.int m),.s (.int r),.o (.lst (vs.map vec)),b]) ⟨[],_,_,rfl,(λp hp=>by cases hp),rfl⟩ ?_ ?_
 .rintro dn k rest ρ e ⟨vs,r,b,hl,hv,rfl⟩;have hl':dn.length<=12:=by
   k_dec;simp at this;omega
  o_rec;ac_rfl;refine zf6 ?_;refine zh8 (l:=[]) ?_;show Ex.run _ _ _ _;ac_nf;refine zeg (by omega) (by omega) λx y x1 x2 y1 y2 =>?_;refine⟨by rw[wc];exact wK (show vs.length<1000 by omega) (z4G (wG _)),Safe.of_noL rfl rfl _,?_⟩;ac_rfl;ac_nf;refine⟨vs++[(x,y)],_,_,by rw[wz,wz,hl];rfl,λp hp =>?_,by rw[wU];rfl⟩
  rcases ve.mp hp with z | z
  .exact hv p z
  .rw[wZ.mp z];exact z9L (by omega) (by omega) (by omega) (by omega)
 .rintro ρ ⟨vs,r,b,hl,hv,rfl⟩;rw[vC] at hl;ac_nf;refine q vs (λz =>?_) (by omega) hv;rw[z] at hl;simp at hl;omega
open Mth
def z7b {k:Int}{Q:DK}{X:XP}(h : -(2 ^ 62)<=k)(h':k<2 ^ 62)(q:Q (.lst ((List.range k.toNat).map λ(j:Nat)=>D.int (j:Int)))):z5O.run [.int k] Q X:=⟨⟨h,h'⟩,q⟩
theorem z69 {α:Type}{f:α->D}{G:D->(Option D->Prop)->Prop}{P:D->Prop}:∀{l:List α}{M:List D->Prop},(∀x∈l,∀K:Option D->Prop,(∀d,P d->K (some d))->G (f x) K)->(∀ds:List D,ds.length=l.length->(∀d∈ds,P d)->M ds)->z44 G (l.map f) M
 | [],M,_,k=>k [] rfl (λ_ h=>by cases h)
 | x::l,M,h,k=>h x ww _ λd hd=>z69 (λy hy=>h y (we _ hy)) λds hl hp=>k (d::ds) (by rw[wL,wL,hl]) λe he=>by
  rcases wf.mp he with z | z
  .rw[z];exact hd
  .exact hp e z
theorem zaC:∀(ds:List D),(∀d∈ds,∃p:P,d=vec p/\inV p=true)->∃v:List P,ds=v.map vec/\∀p∈v,inV p=true
 | [],_=>⟨[],rfl,λ_ h=>by cases h⟩
 | d::ds,h=>by
  obtain⟨p,rfl,hp⟩:=h d ww;obtain⟨v,rfl,hv⟩:=zaC ds λe he=>h e (we _ he);exact⟨p::v,rfl,λq hq=>by
   rcases wf.mp hq with z | z
   .rw[z];exact hp
   .exact hv q z⟩
structure GW (v:List P):Prop where
 ne:v≠[]
 le:v.length<=12
 ok:∀p∈v,inV p=true
def z7J {c:Int}{Q:DK}{X:XP}(q:∀v,GW v->Q (vecs v)):z0W.run [.int c] Q X:=by
 walk_at "fn";ac_nf;refine z1P (by omega) (by omega) λm m0 m1 =>?_;ac_nf;gn_on
 .ac_nf;kpc_g;ac_nf;refine menu (ns:=[12,10 ^ 9]) (by omega) (by show u % 2<2;omega) λm hm =>?_;have hm':0<=m/\m<=1000000000:=by
   simp only[wf,wC,vj] at hm;omega
  exact zjm hm'.1 hm'.2 λvs h1 h2 h3=>q vs ⟨h1,h2,h3⟩
 .ac_nf;kpc_g;ac_nf;refine menu (ns:=[3,12,10 ^ 9]) (by omega) (by show u % 3<3;omega) λm hm =>?_;have hm':0<=m/\m<=1000000000:=by
   simp only[wf,wC,vj] at hm;omega
  ac_nf;refine z1P (by omega) (by omega) λw w0 w1 =>?_;ac_nf;refine z1P (by omega) (by omega) λy y0 y1 =>?_;ac_nf;refine menu (ns:=[2,4,12]) (by omega) (by show y % 3<3;omega) λk hk =>?_;have hk':0<k/\k<=12:=by
   simp only[wf,wC,vj] at hk;omega
  have m1:=uk w (show k≠0 by omega);have m2:=vU w hk'.1;ac_nf;generalize w % k=z at*;refine z7b (by omega) (by omega) ?_;ac_nf;refine⟨by rw[wc,vC];exact szl (by omega),?_⟩;refine z69 (f:=λ(j:Nat)=>D.int (j:Int)) (P:=λd=>∃p:P,d=vec p/\inV p=true) (λj hj K hK =>?_) λds hl hd =>?_
  .have hj':=vz.mp hj;ac_nf;refine ze9 (by omega) (by omega) hm'.1 (by omega) λa b a1 a2 b1 b2 =>?_;exact hK _ ⟨(a,b),rfl,z9L (by omega) (by omega) (by omega) (by omega)⟩
  ac_nf;obtain⟨v,rfl,hv⟩:=zaC ds hd;rw[wc,vC] at hl;refine q v ⟨λe =>?_,by omega,hv⟩;rw[e] at hl;simp at hl;omega
def z6C {α:Type}{l:List α}{i:Nat}{a x:α}(h:x∈l.set i a):x∈l\/x=a:=by
 rcases vi h with z | z
 .exact .inl z
 .exact .inr z
def zc1 {n:Nat}{k:Int}(h0:0<=k)(h1:k<n):ixN n k=some k.toNat:=by
 unfold ixN;rw[if_pos h0,if_pos h1]
theorem ze2:∀{ws:List Int}{M:Int},(∀w∈ws,0<=w/\w<=M)->0<=ws.sum/\ws.sum<=M*(ws.length:Int)
 | [],M,_=>by simp
 | w::ws,M,h=>by
  have:=ze2 (ws:=ws) λx hx=>h x (by simp[hx]);have:=h w (by simp);rw[uu,wL];have e:M*((ws.length+1:Nat):Int)=M*(ws.length:Int)+M:=by
   rw[Int.natCast_add]
   grind
  omega
theorem zaP:∀{ws:List Int},(∀w∈ws,0<=w)->ws.sum≠0->∃w∈ws,0<w
 | [],_,h=>by simp at h
 | w::ws,h,hn=>by
  have:=h w (by simp)
  rcases Int.lt_or_eq_of_le this with z | z
  .exact⟨w,by simp,z⟩
  .rw[uu, <- z,Int.zero_add] at hn;obtain⟨x,hx,p⟩:=zaP (λx hx=>h x (by simp[hx])) hn;exact⟨x,by simp[hx],p⟩
theorem z6o:∀{ws:List Int},(∀w∈ws,0<=w)->(∃w∈ws,0<w)->0<ws.sum
 | [],_,⟨_,h,_⟩=>by simp at h
 | w::ws,h,⟨x,hx,p⟩=>by
  have h0:=h w (by simp);have h1:0<=ws.sum:=by
   have:∀(l:List Int),(∀w∈l,0<=w)->0<=l.sum:=λl=>by
    induction l with
    | nil=>intro _;simp
    | cons a l ih=>
     intro k;have:=ih λx hx=>k x (by simp[hx]);have:=k a (by simp);rw[uu];omega
   exact this ws λx hx=>h x (by simp[hx])
  rw[uu]
  rcases wf.mp hx with z | z
  .subst z;omega
  .have:=z6o (λx hx=>h x (by simp[hx])) ⟨x,z,p⟩;omega
theorem z9e {w:Nat->Int}{τ:Nat->Int}{S:Int}:∀{l:List Sh},(∀s∈l,s.2.1*S=τ s.1*s.2.2)->Xq w l*S=Bq l*(l.map λs=>w s.1*τ s.1).sum
 | [],_=>by simp[Xq,Bq]
 | s::l,h=>by
  have ih:=z9e (w:=w) (l:=l) λx hx=>h x (by simp[hx]);have e:=h s (by simp);rw[wA,uu];simp only[Xq,Bq]
  calc (Xq w l*s.2.2+w s.1*s.2.1*Bq l)*S=(Xq w l*S)*s.2.2+w s.1*(s.2.1*S)*Bq l:=by grind
   _=Bq l*s.2.2*(w s.1*τ s.1+(l.map λs=>w s.1*τ s.1).sum):=by rw[ih,e];grind
def wsh (ws:List Int):List Sh:=((List.range ws.length).filter λk=>decide (0<ws.getD k 0)).map λk=>(k,ws.getD k 0 / (Int.gcd (ws.getD k 0) ws.sum:Int),ws.sum / (Int.gcd (ws.getD k 0) ws.sum:Int))
theorem z4F {f:Nat->Int}{p:Nat->Bool}:∀{l:List Nat},(∀k∈l,p k=false->f k=0)->((l.filter p).map f).sum=(l.map f).sum
 | [],_=>rfl
 | k::l,h=>by
  have ih:=z4F (f:=f) (p:=p) (l:=l) λx hx=>h x (by simp[hx]);rw[uv]
  cases e:p k with
  | true=>simp[ih]
  | false=>simp[ih,h k (by simp) e]
def One (sh:List Sh):Prop:=Xq (λ_=>1) sh.reverse=Bq sh.reverse
def Sml (sh:List Sh):Prop:=∀s∈sh,Bt 25 s.2.1/\Bt 25 s.2.2
structure WOk (n:Nat)(sh:List Sh):Prop where
 shs:Shs n sh
 one:One sh
 sml:Sml sh
 ne:sh≠[]
def zgs {ws:List Int}(h0:∀w∈ws,0<=w)(hs:0<ws.sum)(hm:ws.sum<33000000)(hle:∀w∈ws,w<=ws.sum):WOk ws.length (wsh ws):=by
 have hwk:∀k,k<ws.length->0<=ws.getD k 0/\ws.getD k 0<=ws.sum:=λk hk'=>by
  rw[vO,wJ (by omega)];exact⟨h0 _ (vV _),hle _ (vV _)⟩
 have bits:∀k,k<ws.length->Bt 25 (ws.getD k 0 / (Int.gcd (ws.getD k 0) ws.sum:Int))/\Bt 25 (ws.sum / (Int.gcd (ws.getD k 0) ws.sum:Int)):=λk hk'=>by
  obtain⟨g0,_,_,_,_⟩:=z4Y (t:=ws.getD k 0) hs;have:=hwk k hk';exact⟨Bt.of_abs (z0B (n:=25) (by omega)) (z0c g0),Bt.of_abs (z0B (n:=25) (by omega)) (z0c g0)⟩
 refine⟨⟨λs hs' =>?_,?_⟩,?_,λs hs' =>?_,?_⟩
 .obtain⟨k,hk',rfl⟩:=wP.mp hs';obtain⟨hk1,hk2⟩:=vY.mp hk';have hk1:=vz.mp hk1;have hk2:=vP hk2;obtain⟨g0,e1,e2,e3,e4⟩:=z4Y (t:=ws.getD k 0) hs;obtain⟨b1,b2⟩:=bits k hk1;refine⟨⟨⟨?_,by show 0<ws.sum / _;omega,b1.le,b2.le⟩,e4⟩,hk1⟩;show 0<ws.getD k 0 / (Int.gcd (ws.getD k 0) ws.sum:Int)
  rcases Int.lt_or_le 0 (ws.getD k 0 / (Int.gcd (ws.getD k 0) ws.sum:Int)) with z | z
  .exact z
  .have:=wW (uY g0) z;omega
 .unfold wsh;rw[List.pairwise_map];exact(List.pairwise_lt_range).filter _
 .have c:=z9e (w:=λ_=>1) (τ:=λk=>ws.getD k 0) (S:=ws.sum) (l:=(wsh ws).reverse) λs hs'=>by
   obtain⟨k,hk',rfl⟩:=wP.mp (List.mem_reverse.mp hs');obtain⟨g0,e1,e2,e3,e4⟩:=z4Y (t:=ws.getD k 0) hs;show ws.getD k 0 / (Int.gcd (ws.getD k 0) ws.sum:Int)*ws.sum=ws.getD k 0*(ws.sum / (Int.gcd (ws.getD k 0) ws.sum:Int));generalize (Int.gcd (ws.getD k 0) ws.sum:Int)=g at*;generalize ws.getD k 0 / g=a at*;generalize ws.sum / g=b at*;rw[e1,e2]
   grind
  rw[z41] at c;have e:((wsh ws).map λs=>1*ws.getD s.1 0).sum=ws.sum:=by
   unfold wsh;rw[w5];show (((List.range ws.length).filter λk=>decide (0<ws.getD k 0)).map λk=>1*ws.getD k 0).sum=ws.sum;rw[z4F λk hk hp =>?_]
   .rw[show ((List.range ws.length).map λk=>1*ws.getD k 0)=(List.range ws.length).map λk=>ws.getD k 0 from uN λk _=>Int.one_mul _];exact(ze3 ws).symm
   .have:=hwk k (vz.mp hk);have:=uS hp;omega
  rw[e] at c;exact w6 (by omega) c
 .obtain⟨k,hk',rfl⟩:=wP.mp hs';exact bits k (vz.mp (vY.mp hk').1)
 .intro z;have:ws.sum=0:=by
   have e:=ze3 ws;rw[e, <- z4F (p:=λk=>decide (0<ws.getD k 0)) λk hk hp =>?_]
   .rw[show (List.range ws.length).filter (λk=>decide (0<ws.getD k 0))=[] from List.map_eq_nil_iff.mp z]
    rfl
   .have:=hwk k (vz.mp hk);have:=uS hp;omega
  omega
def zdM {l:List Int}{i:Nat}(h:i<l.length):l.getD i 0∈l:=by
 rw[vO,wJ h];exact vV _
def zeQ {ws:List Int}{k:Int}(h0:0<=k)(h1:k<ws.length):atI (ws.map D.int) k=some (.int (ws.getD k.toNat 0)):=by
 unfold atI;rw[wc,zc1 h0 h1];show (ws.map D.int)[k.toNat]? = _;rw[wR,vO,wJ (by omega)]
 rfl
theorem zeF:∀{ws:List Int},(∀w∈ws,0<=w)->∀w∈ws,w<=ws.sum
 | [],_,w,h=>by cases h
 | x::ws,h,w,hw=>by
  have ih:=zeF (ws:=ws) λy hy=>h y (by simp[hy]);have hx:=h x (by simp);have hs:0<=ws.sum:=by
   have:∀(l:List Int),(∀w∈l,0<=w)->0<=l.sum:=λl=>by
    induction l with
    | nil=>intro _;simp
    | cons a l ih=>
     intro k;have:=ih λx hx=>k x (by simp[hx]);have:=k a (by simp);rw[uu];omega
   exact this ws λy hy=>h y (by simp[hy])
  rw[uu]
  rcases wf.mp hw with z | z
  .omega
  .have:=ih w z;omega
abbrev shsD (sh:List Sh):D :=.tup (sh.map shD)
def z6c {n:Nat}{c:Int}{Q:DK}{X:XP}(h0:0<n)(hn:n<=12)(q:∀sh,WOk n sh->(∀s∈sh,Bt 24 s.2.1/\Bt 24 s.2.2)->Q (shsD sh)):z0K.run [.int (n:Int),.int c] Q X:=by
 have six:(10:Int) ^ (6:Int).toNat=1000000:=by decide
 have nl:∀ws:List Int,zcB (.lst (ws.map .int)) [.s (.int (n:Int)),.s (.int c),.n,.n,.n]:=λws x hx=>by
  obtain⟨w,_,rfl⟩:=wP.mp hx;exact Safe.of_noL rfl rfl _
 walk_at "fn";ac_nf;refine z7b (by omega) (by omega) ?_;ac_nf;refine⟨by rw[wc,vC];exact szl (by omega),?_⟩;refine z69 (f:=λ(j:Nat)=>D.int (j:Int)) (P:=λd=>∃w:Int,d = .int w/\0<=w/\w<=1000000) (λj hj K hK =>?_) λds hl hd =>?_
 .have hj':=vz.mp hj;ac_nf;kpc_g;ac_nf;refine z1P (by omega) (by omega) λv v0 v1 =>?_;ac_nf;refine menu (ns:=[2,3,10 ^ 6]) (by omega) (by show v % 3<3;omega) λm hm =>?_;have hm':0<m/\m<=1000000:=by
   simp only[wf,wC,vj] at hm;omega
  have m1:=uk u (show m≠0 by omega);have m2:=vU u hm'.1;ac_nf;exact hK _ ⟨_,rfl,m1,by omega⟩
 obtain⟨ws0,rfl,hb0⟩:∃ws:List Int,ds=ws.map .int/\∀w∈ws,0<=w/\w<=1000000:=by
  clear hl
  induction ds with
  | nil=>exact⟨[],rfl,λ_ h=>by cases h⟩
  | cons d ds ih=>
   obtain⟨w,rfl,hw⟩:=hd _ ww;obtain⟨ws,rfl,hs⟩:=ih λe he=>hd e (we _ he);exact⟨w::ws,rfl,λx hx=>by
    rcases wf.mp hx with z | z
    .rw[z];exact hw
    .exact hs x z⟩
 rw[wc,vC] at hl;rw[show ((n:Nat):Int).toNat=n by simp] at hl;refine zf2 (nl _) ?_;ac_rfl;refine z7M (λρ'=>∃(ws:List Int) (x3 x4:B),ws.length=n/\(∀w∈ws,0<=w/\w<=1000000)/\ρ'=[.s (.int (n:Int)),.s (.int c),.o (.lst (ws.map .int)),x3,x4]) ?_ ?_
 .ac_nf;kpc_g;ac_nf;gn_on
  .ac_nf;k_accD;refine z1D (f:=λ(j:Nat)=>D.int (j:Int)) (λdn ρ=>∃(ws:List Int) (rest:Int) (x4:B),ws.length=n/\(∀w∈ws,0<=w/\w<=1000000)/\ρ=[.s (.int (n:Int)),.s (.int c),.o (.lst (ws.map .int)),.s (.int rest),x4]) ⟨ws0,_,_,by simpa using hl,hb0,rfl⟩ ?_ ?_
   .rintro dn k r ρ e ⟨ws,rest,x4,hw,hb,rfl⟩;have hk:k<n:=by
     have:=congrArg (λl=>k∈l) e;simp only[vz,ve,wf,true_or,or_true,eq_iff_iff,iff_true] at this;kw_lk
    o_rec;ac_rfl;ac_nf;refine zgZ (z9B rfl ?_);ac_nf;rw[six];ac_nf;rw[wc,zc1 (by omega) (by omega)];o_rec;ac_rfl;rw[<- List.map_set];ac_nf;rw[six];ac_nf;refine⟨_,_,_,by rw[uD];exact hw,λx hx =>?_,rfl⟩
    rcases z6C hx with z | z
    .exact hb x z
    .omega
   .rintro ρ ⟨ws,rest,x4,hw,hb,rfl⟩;exact⟨ws,_,_,hw,hb,rfl⟩
  .ac_nf;exact⟨ws0,_,_,by simpa using hl,hb0,rfl⟩
 rintro ρ ⟨ws,x3,x4,hw,hb,rfl⟩;refine z7M (λρ'=>∃ws:List Int,ws.length=n/\(∀w∈ws,0<=w/\w<=1000000)/\(∃w∈ws,0<w)/\ρ'=[.s (.int (n:Int)),.s (.int c),.o (.lst (ws.map .int)),x3,x4]) ?_ ?_
 .ac_nf;refine zbO ?_;ac_nf;refine z1p (λ_ =>?_) (λhs =>?_)
  .ac_nf;refine zgZ (z9B rfl ?_);ac_nf;kpc_g;ac_nf;have m1:=uk u (show (n:Int)≠0 by omega);have m2:=vU u (show (0:Int)<n by omega);generalize u % (n:Int)=w at*;rw[wc,zc1 (by omega) (by omega)];show ∃_,_;ac_rfl;rw[<- List.map_set];refine⟨_,by rw[uD];exact hw,λx hx =>?_,⟨1,?_,by decide⟩,rfl⟩
   .rcases z6C hx with z | z
    .exact hb x z
    .omega
   .exact List.mem_set (by omega) _
  .ac_nf;exact⟨ws,hw,hb,zaP (λx hx=>(hb x hx).1) hs,rfl⟩
 rintro ρ ⟨ws,hw,hb,hx,rfl⟩;have s0:=z6o (λx hx=>(hb x hx).1) hx;obtain⟨_,s1⟩:=ze2 hb;rw[hw] at s1;have bS:Bt 50 ws.sum:=z0B (by omega);ac_nf;refine z7b (by omega) (by omega) ?_;rw[show ((n:Nat):Int).toNat=n by simp];ac_nf;refine⟨by rw[wc,vC];exact szl (by omega),?_⟩;refine z22 (f:=λ(j:Nat)=>D.int (j:Int)) (p:=λk=>decide (0<ws.getD k 0)) (g:=λk=>shD (k,ws.getD k 0 / (Int.gcd (ws.getD k 0) ws.sum:Int),ws.sum / (Int.gcd (ws.getD k 0) ws.sum:Int))) (λk hkr K k1 k2 =>?_) ?_
 .have hk':k<n:=vz.mp hkr;ac_nf;refine z43 (zeQ (by omega) (by omega)) ?_;rw[show ((k:Nat):Int).toNat=k by simp];ac_nf;sr_in
  .ac_nf;refine z43 (zeQ (by omega) (by omega)) ?_;rw[show ((k:Nat):Int).toNat=k by simp];ac_nf;refine zbO ?_;ac_nf;refine zee s0 bS.le ?_;ac_nf;exact k1 (wu h1)
  .exact k2 (wF h1)
 ac_nf;have ok:=zgs (λx hx=>(hb x hx).1) s0 (by omega) (zeF λx hx=>(hb x hx).1);rw[hw] at ok;have e:wsh ws=((List.range n).filter λk=>decide (0<ws.getD k 0)).map λk=>(k,ws.getD k 0 / (Int.gcd (ws.getD k 0) ws.sum:Int),ws.sum / (Int.gcd (ws.getD k 0) ws.sum:Int)):=by unfold wsh;rw[hw]
 have:=q _ ok λs hs=>by
  rw[e] at hs;obtain⟨k,hk',rfl⟩:=wP.mp hs;have hk1:=vz.mp (vY.mp hk').1;obtain⟨g0,_,_,_,_⟩:=z4Y (t:=ws.getD k 0) s0;have:=hb _ (zdM (i:=k) (by omega));exact⟨Bt.of_abs (z0B (n:=24) (by omega)) (z0c g0),Bt.of_abs (z0B (n:=24) (by omega)) (z0c g0)⟩
 rw[e,shsD,w5] at this;exact this
abbrev wtD (x:List P × P):D :=.tup [vecs x.1,vec x.2]
structure Wt (x:List P × P):Prop where
 wb:Wb 40 x.1
 ne:x.1≠[]
 len:x.1.length<=12
 vb:Vb 40 x.2
def ziu (x:List P × P):noL (wtD x)=true:=by
 have:=z7e x.1;show noLs [vecs x.1,vec x.2]=true;simpa[noLs,noL] using this
def ziv (x:List P × P):noD (wtD x)=true:=by
 have:=z7f x.1;show noDs [vecs x.1,vec x.2]=true;simpa[noDs,noD] using this
abbrev Rs:=Int × Int × Int
abbrev rsD (r:Rs):D :=.tup [.int r.1,.tup [.int r.2.1,.int r.2.2]]
def z3I (n:Int):Int->List Rs->Bool
 | _,[]=>true
 | a,r::l=>decide (a<r.1) && (decide (r.1<n) && (decide (0<r.2.1) && (decide (0<r.2.2) && (decide (Int.gcd r.2.1 r.2.2=1) && z3I n r.1 l))))
def zcR {t b:Int}{Q:DK}{X:XP}(q:Q (.bl (decide (0<t) && (decide (0<b) && decide (Int.gcd t b=1))))):z2U.run [.tup [.int t,.int b]] Q X:=by
 walk_at "fn";ac_nf;sr_in
 .rw[wu h1] at q;ac_nf;refine z1p (λh2 =>?_) (λh2 =>?_)
  .rw[wu h2] at q;ac_nf;refine z2b ?_;ac_nf;rw[show (decide ((Int.gcd t b:Int)=1))=decide (Int.gcd t b=1) from z4Z ⟨λh=>by omega,λh=>by omega⟩];exact q
  .rw[wF h2] at q;exact q
 .rw[wF h1] at q;exact q
def zbU {l:List P}{rs:List Rs}{b:Sm}{N:Pu.Env->Prop}{Q:DK}{X:XP}(f1:z3I (l.length:Int) (-1) rs=false->Q (.bl false))(f2:z3I (l.length:Int) (-1) rs=true->∀a x3 x4,N [.s (vecs l),.s (.tup (rs.map rsD)),.s (.int a),x3,x4])
  (hb:∀(a:Int) (r:Rs) (N':Pu.Env->Prop),(a<r.1/\r.1<l.length/\0<r.2.1/\0<r.2.2/\Int.gcd r.2.1 r.2.2=1->N' [.s (vecs l),.s (.tup (rs.map rsD)),.s (.int r.1),.s (.int r.1),.s (.tup [.int r.2.1,.int r.2.2])])->(¬ (a<r.1/\r.1<l.length/\0<r.2.1/\0<r.2.2/\Int.gcd r.2.1 r.2.2=1)->Q (.bl false))->
   b.run [.s (vecs l),.s (.tup (rs.map rsD)),.s (.int a),.s (.int r.1),.s (.tup [.int r.2.1,.int r.2.2])] N' Q X):
  forL (.tp [3,4]) b N Q X (rs.map rsD) [.s (vecs l),.s (.tup (rs.map rsD)),.s (.int (-1)),.n,.n]:=by
 refine z1D (f:=rsD) (λdn ρ=>∃(a:Int) (x3 x4:B),(∀rest,rs=dn++rest->z3I (l.length:Int) (-1) rs=z3I (l.length:Int) a rest)/\ρ=[.s (vecs l),.s (.tup (rs.map rsD)),.s (.int a),x3,x4]) ⟨-1,_,_,λrest e=>by rw[e];rfl,rfl⟩ ?_ ?_
 .rintro dn r rest ρ e ⟨a,x3,x4,ha,rfl⟩;have h:=ha _ e;kt_le;o_rec;w_how;ac_rfl;refine hb a r _ (λc =>?_) (λc =>?_)
  .refine⟨r.1,_,_,λrest' e' =>?_,rfl⟩;have:rest=rest':=by
    rw[e,List.append_assoc] at e';have:=List.append_cancel_left e';kw_lk
   rw[h, <- this];show (_ && _)=_;rw[wu c.1,wu c.2.1,wu c.2.2.1,wu c.2.2.2.1,wu c.2.2.2.2]
   rfl
  .refine f1 ?_;rw[h];show (_ && _)=_;rw[Bool.eq_false_iff];intro z;simp only[wN,vI] at z;exact c ⟨z.1,z.2.1,z.2.2.1,z.2.2.2.1,z.2.2.2.2.1⟩
 rintro ρ ⟨a,x3,x4,ha,rfl⟩;exact f2 (by rw[ha [] (by simp)];rfl) a x3 x4
def zb2 {l:List P}{rs:List Rs}{Q:DK}{X:XP}(q:Q (.bl (z3I (l.length:Int) (-1) rs))):z1b.run [vecs l,.tup (rs.map rsD)] Q X:=by
 walk_at "fn";ac_nf;refine zbU (λe=>by rw[e] at q;exact q) (λe a x3 x4 =>?_) (λa r N' k1 k2 =>?_)
 .ac_nf;rw[e] at q;exact q
 .ac_nf;sr_in
  .ac_nf;exact k2 λc=>by omega
  ac_nf;rw[wc];refine z1p (λh2 =>?_) (λh2 =>?_)
  .ac_nf;exact k2 λc=>by omega
  ac_nf;refine zcR ?_;ac_nf;refine z2j (t_bl (λe =>?_) (λe =>?_))
  .simp only[wN,vI] at e;ac_nf;exact k1 ⟨by omega,by omega,e.1,e.2.1,e.2.2⟩
  .ac_nf;refine k2 λc =>?_;rw[wu c.2.2.1,wu c.2.2.2.1,wu c.2.2.2.2] at e
   cases e
def toR (s:Sh):Rs:=((s.1:Int),s.2)
def z4D (sh:List Sh):sh.map shD=(sh.map toR).map rsD:=by rw[w5];rfl
theorem z7k {n:Nat}:∀{rs:List Rs}{a:Int},-1<=a->z3I (n:Int) a rs=true->(∀r∈rs,Bt 67 r.2.1/\Bt 67 r.2.2)->∃sh,rs=sh.map toR/\Shs n sh/\∀s∈sh,a<(s.1:Int)
 | [],a,_,_,_=>⟨[],rfl,⟨λ_ z=>by(cases z),.nil⟩,λ_ z=>by(cases z)⟩
 | r::l,a,ha,h,hb=>by
  simp only[z3I,wN,vI] at h;obtain⟨h1,h2,h3,h4,h5,h6⟩:=h;obtain⟨sh,e,hs,hx⟩:=z7k (by omega) h6 λx hx=>hb x (by simp[hx]);have b:=hb r (by simp);refine⟨(r.1.toNat,r.2)::sh,?_,⟨λs hs' =>?_,?_⟩,λs hs' =>?_⟩
  .rw[wA, <- e];show _=((r.1.toNat:Int),r.2)::l;rw[show (r.1.toNat:Int)=r.1 by omega]
  .rcases wf.mp hs' with z | z
   .rw[z];exact⟨⟨⟨h3,h4,b.1,b.2⟩,h5⟩,by show r.1.toNat<n;omega⟩
   .exact hs.each s z
  .rw[vD];refine⟨λs z =>?_,hs.up⟩;have:=hx s z;show r.1.toNat<s.1;omega
  .rcases wf.mp hs' with z | z
   .rw[z];show a<(r.1.toNat:Int);omega
   .have:=hx s z;omega
def z64 (r:Rs):Sh:=(r.1.toNat,r.2)
def z63 (sh:List Sh):(sh.map toR).map z64=sh:=by
 rw[w5];have:∀s∈sh,(z64 ∘ toR) s=s:=λs _=>by
  show (((s.1:Nat):Int).toNat,s.2)=s;simp
 rw[uN this];simp
def oneR (rs:List Rs):Bool:=decide (Xq (λ_=>(1:Int)) (rs.map z64).reverse=Bq (rs.map z64).reverse)
def okR (n:Nat)(rs:List Rs):Bool:=z3I (n:Int) (-1) rs && oneR rs
def Bits (rs:List Rs):Prop:=∀r∈rs,Bt 67 r.2.1/\Bt 67 r.2.2
def zcQ {n:Nat}{rs:List Rs}{Q:DK}{X:XP}(hn:n<=62)(hg:z3I (n:Int) (-1) rs=true)(hb:Bits rs)(q:Q (.bl (!oneR rs))):z1a.run [.tup (rs.map rsD)] (λx=>pTup.run [.int 1,.int 1] (λy=>pNe.run [x,y] Q X) X) X:=by
 obtain⟨sh,rfl,hs,_⟩:=z7k (by decide) hg hb;have B0:0<Bq sh.reverse:=Bq.pos λx hx=>(hs.each x (by simpa using hx)).1.toSz;rw[<- z4D];refine z7K hn hs λu t hp =>?_;ac_nf;refine zii (l:=[.int u,.int t]) (r:=[.int 1,.int 1]) (Da.vec (u,t)) (Da.vec (1,1)) ?_;have e:deq (.tup [.int u,.int t]) (.tup [.int 1,.int 1])=oneR (sh.map toR):=by
  rw[show deq (.tup [.int u,.int t]) (.tup [.int 1,.int 1])=decide ((u,t)=((1:Int),(1:Int))) from zck (u,t) (1,1)];unfold oneR;rw[z63];refine z4Z ⟨λh =>?_,λh =>?_⟩
  .obtain⟨rfl,rfl⟩:=Prod.mk.inj h;have:=hp.cx;omega
  .rw[h] at hp;obtain⟨rfl,_,rfl⟩:=hp.eq B0 (⟨by decide,by decide,by rw[uE],by simp⟩:Pl (Bq sh.reverse) 0 (Bq sh.reverse) 1 0 1)
   rfl
 rw[e];exact q
def zjs {x:List P × P}{rs:List Rs}{Q:DK}{X:XP}{ρ:Pu.Env}(h2:ρ.get 2=some (wtD x))(h3:ρ.get 3=some (.tup (rs.map rsD)))(hn:x.1.length<=62)(hb:Bits rs)(q:Q (.bl (!okR x.1.length rs))):
  Ex.run (.or (.not (.op z1b [(.op pIx [(.v 2),(.c (.int 0))]),(.v 3)])) (.op pNe [(.op z1a [(.v 3)]),(.op pTup [(.c (.int 1)),(.c (.int 1))])])) ρ Q X:=by
 refine e_or (ziX (z93 (z93 (e_v ?_))));rw[h2];refine z2B ?_;ac_nf;refine e_v ?_;rw[h3];refine z2B ?_;refine zb2 ?_;unfold okR at q
 cases e:z3I (x.1.length:Int) (-1) rs with
 | false=>
  rw[e] at q;ac_nf;refine z2j (z4E ?_);exact q
 | true=>
  rw[e] at q;ac_nf;l_out;refine z93 (ziW (e_v ?_));rw[h3];refine z2B ?_;have:z1a.run [.tup (rs.map rsD)] (λx=>pTup.run [.int 1,.int 1] (λy=>pNe.run [x,y] Q X) X) X:=zcQ hn e hb q;refine z1a.mono _ _ _ _ _ (λd hd =>?_) (λ_ z=>z) this;refine ziV (z8G (e_c (z8G (e_c (z3O ?_)))));exact hd
def rcD (rs:List Rs):D :=.tup (rs.map rsD)
def zh3 {x:List P × P}{rs:List Rs}{Q:DK}{X:XP}(hn:x.1.length<=62)(hb:Bits rs)(q:Q (.bl (okR x.1.length rs))):z1S.run [.tup [wtD x],.tup [rcD rs]] Q X:=by
 walk_at "fn";ac_nf;refine z2j (z1p (λh =>?_) (λh=>absurd rfl h));ac_nf;kt_le;o_rec;w_how;ac_rfl;refine s_if (zjs (x:=x) (rs:=rs) rfl rfl hn hb ?_)
 cases ek:okR x.1.length rs with
 | false=>
  rw[ek] at q;refine z2j (z4E ?_);ac_nf;exact q
 | true=>
  rw[ek] at q;l_out;ac_nf;o_rec;ac_nf;exact q
def Pl.add {x y b u v t x' y' b' a c w p q r:Int}(hb:0<b)(hb':0<b')(h:Pl x y b u v t)(k:Pl x' y' b' a c w)(s:Pl (u*w+a*t) (v*w+c*t) (t*w) p q r):Pl (x*b'+x'*b) (y*b'+y'*b) (b*b') p q r:=by
 have htw:t*w≠0:=by have:=v7 h.pos k.pos;omega
 have go:∀{p u a x x':Int},p*(t*w)=(u*w+a*t)*r->u*b=x*t->a*b'=x'*w->p*(b*b')=(x*b'+x'*b)*r:=λ{p u a x x'} e1 e2 e3=>by
  apply w6 htw
  calc p*(b*b')*(t*w)=(p*(t*w))*(b*b'):=by grind
   _=((u*b)*(w*b')+(a*b')*(t*b))*r:=by rw[e1];grind
   _=(x*b'+x'*b)*r*(t*w):=by rw[e2,e3];grind
 exact⟨s.pos,s.cop,go s.cx h.cx k.cx,go s.cy h.cy k.cy⟩
def Pl.eqv {x y b u v t x' y' b':Int}(hb:0<b)(h:Pl x y b u v t)(e1:x*b'=x'*b)(e2:y*b'=y'*b):Pl x' y' b' u v t:=by
 have go:∀{u x x':Int},u*b=x*t->x*b'=x'*b->u*b'=x'*t:=λ{u x x'} e1 e2=>by
  apply w6 (show b≠0 by omega)
  calc u*b'*b=(u*b)*b':=by grind
   _=(x*b')*t:=by rw[e1];grind
   _=x'*t*b:=by rw[e2];grind
 exact⟨h.pos,h.cop,go h.cx e1,go h.cy e2⟩
abbrev Tr:=Int × Int × Int
def wtp (E:Tr)(p:(List P × P) × List Sh):Tr:=(E.1*Bq p.2.reverse+Xq (wx p.1.1) p.2.reverse*E.2.2+p.1.2.1*(E.2.2*Bq p.2.reverse),E.2.1*Bq p.2.reverse+Xq (wy p.1.1) p.2.reverse*E.2.2+p.1.2.2*(E.2.2*Bq p.2.reverse),E.2.2*Bq p.2.reverse)
def Fm (zs:List ((List P × P) × List Sh)):Tr:=zs.foldl wtp (0,0,1)
def Fm.snoc (zs:List ((List P × P) × List Sh))(p:(List P × P) × List Sh):Fm (zs++[p])=wtp (Fm zs) p:=by
 unfold Fm;rw[List.foldl_append]
 rfl
theorem Bq.sml:∀{l:List Sh},(∀s∈l,Bt 25 s.2.1/\Bt 25 s.2.2)->Bt (25*l.length+1) (Bq l)
 | [],_=>z0B (by decide)
 | s::l,h=>Bt.le (Bt.mul (Bq.sml λx hx=>h x (by simp[hx])) (h s (by simp)).2) (by simp;omega)
theorem Xq.sml {w:Nat->Int}(hw:∀k,Bt 40 (w k)):∀{l:List Sh},(∀s∈l,Bt 25 s.2.1/\Bt 25 s.2.2)->Bt (100+27*l.length) (Xq w l)
 | [],_=>Bt.le (m:=1) (z0B (by show (0:Int).natAbs<2 ^ 1;decide))
 | s::l,h=>by
  have ih:=Xq.sml hw (l:=l) λx hx=>h x (by simp[hx]);have hs:=h s (by simp);have hB:=Bq.sml (l:=l) λx hx=>h x (by simp[hx]);exact Bt.le (Bt.add (Bt.mul ih hs.2) (Bt.mul (Bt.mul (hw s.1) hs.1) hB)) (by simp;omega)
structure FB (n:Nat)(E:Tr):Prop where
 pos:0<E.2.2
 b:Bt n E.2.2
 x:Bt (n+430) E.1
 y:Bt (n+430) E.2.1
def zj1 {n:Nat}{l:List P}(h:l≠[])(hb:Wb n l)(k:Nat):Vb n (Geo.cy l k):=hb _ (wH (z9S (uL.mpr h)))
def z6Q {x:List P × P}{sh:List Sh}(hx:Wt x)(hs:WOk x.1.length sh){dn r:List Sh}(e:sh=dn++r):0<Bq dn.reverse/\Bt 301 (Bq dn.reverse)/\Bt 424 (Xq (wx x.1) dn.reverse)/\Bt 424 (Xq (wy x.1) dn.reverse)/\Bt 424 (Xq (λ_=>1) dn.reverse):=by
 have sl:=z4H hs.shs.up λs h=>(hs.shs.each s h).2;have hl:=hx.len;have dl:dn.reverse.length<=12:=by
  k_dec;simp at this;rw[vQ];omega
 have hm:∀s∈dn.reverse,Bt 25 s.2.1/\Bt 25 s.2.2:=λs h=>hs.sml s (by rw[e];simp at h;simp[h]);have w1:∀k:Nat,Bt 40 ((λ_=>(1:Int)) k):=λ_=>Bt.le (m:=1) (z0B (by show (1:Int).natAbs<2 ^ 1;decide));refine⟨Bq.pos λs h=>(hs.shs.each s (by rw[e];simp at h;simp[h])).1.toSz,Bt.le (Bq.sml hm) (by omega),Bt.le (Xq.sml (λk=>(zj1 hx.ne hx.wb k).1) hm) (by omega),Bt.le (Xq.sml (λk=>(zj1 hx.ne hx.wb k).2) hm) (by omega),Bt.le (Xq.sml w1 hm) (by omega)⟩
theorem FB.wtp {n:Nat}{E:Tr}{p:(List P × P) × List Sh}(h:FB n E)(hx:Wt p.1)(hs:WOk p.1.1.length p.2):FB (n+305) (wtp E p):=by
 obtain⟨p0,b0,b1,b2,_⟩:=z6Q hx hs (dn:=p.2) (r:=[]) (by simp);have v:=hx.vb;refine⟨v7 h.pos p0,Bt.le (Bt.mul h.b b0) (by omega),?_,?_⟩
 .exact Bt.le (Bt.add (Bt.add (Bt.mul h.x b0) (Bt.mul b1 h.b)) (Bt.mul v.1 (Bt.mul h.b b0))) (by omega)
 .exact Bt.le (Bt.add (Bt.add (Bt.mul h.y b0) (Bt.mul b2 h.b)) (Bt.mul v.2 (Bt.mul h.b b0))) (by omega)
theorem FB.le {n m:Nat}{E:Tr}(h:FB n E)(k:n<=m):FB m E:=⟨h.pos,h.b.le k,h.x.le (by omega),h.y.le (by omega)⟩
def ziT {zs:List ((List P × P) × List Sh)}(h:∀p∈zs,Wt p.1/\WOk p.1.1.length p.2):FB (1+305*zs.length) (Fm zs):=by
 have main:∀(zs:List ((List P × P) × List Sh)) (n:Nat) (E:Tr),FB n E->(∀p∈zs,Wt p.1/\WOk p.1.1.length p.2)->FB (n+305*zs.length) (zs.foldl wtp E):=by
  intro zs
  induction zs with
  | nil=>intro n E h _;exact h
  | cons p zs ih=>
   intro n E h k;have hp:=k p (by simp);exact(ih (n+305) _ (h.wtp hp.1 hp.2) λq hq=>k q (by simp[hq])).le (by simp;omega)
 exact main zs 1 (0,0,1) ⟨by decide,z0B (by decide),Bt.le (m:=1) (z0B (by decide)) (by omega),Bt.le (m:=1) (z0B (by decide)) (by omega)⟩ h
theorem z5p {α β:Type}{x:α}{y:β}:∀{m:List β}{l:List α},l[m.length]? = some x->l.zip (m++[y])=l.zip m++[(x,y)]
 | [],l,h=>by
  cases l with
  | nil=>simp at h
  | cons a l=>simp at h;subst h;simp
 | b::m,l,h=>by
  cases l with
  | nil=>simp at h
  | cons a l=>
   have:=z5p (m:=m) (l:=l) (y:=y) (by simpa using h);rw[List.cons_append,wS,this]
   rfl
def zic {sh:List Sh}(h:One sh):oneR (sh.map toR)=true:=by
 unfold oneR;rw[z63];exact wu h
theorem zc5 {n:Nat}:∀{sh:List Sh}{a:Int},Shs n sh->(∀s∈sh,a<(s.1:Int))->z3I (n:Int) a (sh.map toR)=true
 | [],_,_,_=>rfl
 | s::sh,a,h,ha=>by
  obtain⟨h1,h2⟩:=h.each s (by simp);have hu:=h.up;rw[vD] at hu;have ih:=zc5 (n:=n) (sh:=sh) (a:=(s.1:Int)) ⟨λx hx=>h.each x (by simp[hx]),hu.2⟩ λx hx=>by have:=hu.1 x hx;omega
  have:=ha s (by simp);rw[wA];show (decide (a<(s.1:Int)) && (decide ((s.1:Int)<n) && (decide (0<s.2.1) && (decide (0<s.2.2) && (decide (Int.gcd s.2.1 s.2.2=1) && z3I (n:Int) (s.1:Int) (sh.map toR))))))=true;rw[wu this,wu (show (s.1:Int)<n by omega),wu h1.top,wu h1.bot,wu h1.cop,ih]
  rfl
def zgt {n:Nat}{sh:List Sh}(h:WOk n sh):okR n (sh.map toR)=true:=by
 unfold okR;rw[zc5 h.shs λs _=>by omega,zic h.one]
 rfl
def zcL {sh:List Sh}(h:Sml sh):Bits (sh.map toR):=λr hr=>by
 obtain⟨s,hs,rfl⟩:=wP.mp hr;exact⟨(h s hs).1.le,(h s hs).2.le⟩
def zfb {x:List P × P}{sh:List Sh}{Q:DK}{X:XP}(hx:Wt x)(hs:WOk x.1.length sh)(q:∀u v t,Pl (Xq (wx x.1) sh.reverse+x.2.1*Bq sh.reverse) (Xq (wy x.1) sh.reverse+x.2.2*Bq sh.reverse) (Bq sh.reverse) u v t->Q (.tup [.int u,.int v,.int t])):z2F.run [.tup [wtD x],.tup [shsD sh]] Q X:=by
 obtain⟨p0,q0,q1,q2,q3⟩:=z6Q hx hs (dn:=sh) (r:=[]) (by simp);obtain⟨wd,sx,sy⟩:=x;dsimp only at hx hs p0 q0 q1 q2 q3 q;have v1:=hx.vb;walk_at "fn";ac_nf;rw[show shsD sh=rcD (sh.map toR) by unfold rcD;rw[<- z4D]];refine zh3 (x:=(wd,sx,sy)) (by show wd.length<=62;have:wd.length<=12:=hx.len;omega) (zcL hs.sml) ?_;rw[zgt hs];ac_nf;l_out;ac_nf;kt_le;o_rec;w_how;ac_rfl;ac_nf;rw[show rcD (sh.map toR) = .tup (sh.map shD) by unfold rcD;rw[<- z4D]];refine z7L (l:=wd) hx.ne (by have:wd.length<=12:=hx.len;omega) (λp hp=>⟨(hx.wb p hp).1.le,(hx.wb p hp).2.le⟩) hs.shs λa c w hk =>?_;obtain⟨bw,ba,bc⟩:=hk.bt p0 q0 q1 q2;ac_nf;refine z2a hk.pos (by decide) hk.cop (Int.gcd_one) ba.le bc.le bw.le v1.1.le v1.2.le (Bt.le (m:=1) (z0B (by decide))) λa' c' w' hk' =>?_;have pk:Pl (Xq (wx wd) sh.reverse+sx*Bq sh.reverse) (Xq (wy wd) sh.reverse+sy*Bq sh.reverse) (Bq sh.reverse) a' c' w':=by
  have:=hk.add (x':=sx) (y':=sy) (b':=1) (a:=sx) (c:=sy) (w:=1) p0 (by decide) ⟨by decide,Int.gcd_one,by simp,by simp⟩ hk';kw_lk
 obtain⟨bw',ba',bc'⟩:=pk.bt (n:=301) (m:=430) p0 q0 (Bt.le (Bt.add q1 (Bt.mul v1.1 q0))) (Bt.le (Bt.add q2 (Bt.mul v1.2 q0)));k_end;ac_rfl;ac_nf;refine z2a (x:=0) (y:=0) (z:=1) (by decide) pk.pos (by decide) pk.cop (Bt.le (m:=1) (z0B (by decide))) (Bt.le (m:=1) (z0B (by decide))) (Bt.le (m:=1) (z0B (by decide))) ba'.le bc'.le bw'.le λu' v' t' h' =>?_;k_end;ac_rfl;o_rec;ac_nf;obtain⟨rfl,rfl,rfl⟩:=h'.eq (by have:=pk.pos;omega) (⟨pk.pos,pk.cop,by simp,by simp⟩:Pl _ _ _ a' c' w');exact q _ _ _ pk
open Tim Mth
inductive Dd where
 | w (n:Str) (v:List P)
 | t (n:Str) (v:List P) (s:P)
 | s (sh:List Sh)
def ddD:Dd->D
 | .w n v =>.tup [.str "wind",.str n,vecs v]
 | .t n _ s =>.tup [.str "watch",.str n,vec s]
 | .s sh =>.tup [.str "sail",shsD sh]
def putW (k:List (Key × D)):Dd->List (Key × D)
 | .w n v=>putD k (.inr n) (vecs v)
 | _=>k
def wOf (h:List Dd):List (Key × D):=h.foldl putW []
def rw1:Dd->Option (List P × P)
 | .t _ v s=>some (v,s)
 | _=>none
def rOf (h:List Dd):List (List P × P):=h.filterMap rw1
def sh1:Dd->Option (List Sh)
 | .s sh=>some sh
 | _=>none
def sOf (h:List Dd):List (List Sh):=h.filterMap sh1
def zOf (h:List Dd):List ((List P × P) × List Sh):=(rOf h).zip (sOf h)
def Okd (h:List Dd):Dd->Prop
 | .w n v=>Wn n/\GW v
 | .t n v s=>Wn n/\valD (wOf h) (.inr n)=some (vecs v)/\GW v/\inV s=true/\(rOf h).length<12
 | .s sh=>∃x,(rOf h)[(sOf h).length]? = some x/\WOk x.1.length sh
inductive Hs:List Dd->Prop where
 | nil:Hs []
 | snoc {h:List Dd}{d:Dd}:Hs h->Okd h d->Hs (h++[d])
def Hs.inv {h:List Dd}{d:Dd}(k:Hs (h++[d])):Hs h/\Okd h d:=by
 generalize e:h++[d]=l at k
 cases k with
 | nil=>simp at e
 | snoc a b=>
  obtain⟨rfl,e2⟩:=List.append_inj' e rfl
  cases e2
  exact⟨a,b⟩
theorem Hs.pre:∀{r h:List Dd},Hs (h++r.reverse)->Hs h
 | [],h,k=>by simpa using k
 | d::r,h,k=>by
  rw[List.reverse_cons, <- List.append_assoc] at k;exact Hs.pre k.inv.1
def Hs.next {u h:List Dd}{d:Dd}(k:Hs (h++(u++[d]).reverse)):Hs h/\Okd h d/\Hs ((h++[d])++u.reverse):=by
 have e:h++(u++[d]).reverse=(h++[d])++u.reverse:=by simp
 rw[e] at k;exact⟨k.pre.inv.1,k.pre.inv.2,k⟩
def z3R (h:List Dd)(d:Dd):wOf (h++[d])=putW (wOf h) d:=by unfold wOf;rw[List.foldl_append];rfl
def z5e (h:List Dd)(d:Dd):rOf (h++[d])=rOf h++(rw1 d).toList:=by
 unfold rOf;rw[List.filterMap_append]
 cases d <;> rfl
def z5d (h:List Dd)(d:Dd):sOf (h++[d])=sOf h++(sh1 d).toList:=by
 unfold sOf;rw[List.filterMap_append]
 cases d <;> rfl
def z2X {k:List (Key × D)}{j i:Key}{d:D}:valD (putD k j d) i=if i=j then some d else valD k i:=by
 have main:∀k:List (Key × D),valD (k.map λp=>if p.1=j then (p.1,d) else p) i=if i=j then (if (k.any λp=>decide (p.1=j))=true then some d else none) else valD k i:=by
  intro k
  induction k with
  | nil=>unfold valD;simp
  | cons p k ih=>
   unfold valD at ih ⊢;rw[wA,vp,vp,List.any_cons]
   by_cases hp:p.1=j
   .rw[if_pos hp]
    by_cases hi:i=j
    .subst hi;simp[hp]
    .have:¬ p.1=i:=λz=>hi (z.symm.trans hp);simp only[wF this,if_neg hi];rw[ih,if_neg hi]
   .rw[if_neg hp]
    by_cases hpi:p.1=i
    .have hi:¬ i=j:=λz=>hp (hpi.trans z);simp[hpi,hi]
    .simp only[wF hpi,wF hp,Bool.false_or];exact ih
 have any_val:∀k:List (Key × D),(k.any λp=>decide (p.1=j))=(valD k j).isSome:=by
  intro k
  induction k with
  | nil=>rfl
  | cons p k ih=>
   unfold valD at ih ⊢;rw[List.any_cons,vp]
   by_cases hp:p.1=j
   .simp[hp]
   .simp only[wF hp,Bool.false_or];exact ih
 unfold putD
 split
 .rename_i ha
  rw[main,if_pos ha]
 .rename_i ha
  unfold valD;rw[List.find?_append]
  by_cases hi:i=j
  .subst hi;rw[any_val] at ha;unfold valD at ha;have hn:k.find? (λp=>decide (p.1=i))=none:=by
    cases z:k.find? (λp=>decide (p.1=i)) with
    | none=>rfl
    | some q=>rw[z] at ha;exact(ha rfl).elim
   rw[hn,if_pos rfl];simp
  .rw[if_neg hi];have:¬ j=i:=λz=>hi z.symm
   cases z:k.find? (λp=>decide (p.1=i)) with
   | none=>simp[this]
   | some q=>rfl
def zcE {k:List (Key × D)}{j i:Key}:valD (z7t k j) i=if i=j then none else valD k i:=by
 induction k with
 | nil=>unfold valD z7t;simp
 | cons p k ih=>
  unfold valD z7t at ih ⊢;rw[uv,vp]
  by_cases hp:p.1=j
  .rw[if_neg (by simpa using hp),ih]
   by_cases hi:i=j
   .rw[if_pos hi,if_pos hi]
   .have:¬ p.1=i:=λz=>hi (z.symm.trans hp);rw[if_neg hi,if_neg hi,wF this]
  .rw[if_pos (by simpa using hp),vp]
   by_cases hpi:p.1=i
   .have hi:¬ i=j:=λz=>hp (hpi.trans z);simp[hpi,hi]
   .rw[wF hpi];exact ih
def z5w {k:List (Key × D)}{i:Key}:(valD k i).isSome=true↔i∈k.map (·.1):=by
 induction k with
 | nil=>simp[valD]
 | cons p k ih=>
  unfold valD at ih ⊢;rw[vp,wA,wf]
  by_cases hp:p.1=i
  .simp[hp]
  .simp only[wF hp];rw[ih];exact⟨.inr,λh=>h.elim (λz=>(hp z.symm).elim) id⟩
def Nk (k:List (Key × D)):Prop:=(k.map (·.1)).Nodup
def Nk.put {k:List (Key × D)}{j:Key}{d:D}(h:Nk k):Nk (putD k j d):=by
 unfold Nk putD at*
 split
 .rw[w5,show ((λx:Key × D=>x.1) ∘ λp=>if p.1=j then (p.1,d) else p)=(λx=>x.1) from funext λp=>by simp only[Function.comp];split <;> rfl];exact h
 .rename_i ha
  rw[wU];refine List.nodup_append.mpr ⟨h,by simp,λa h1 b h2 e=>ha ?_⟩;simp at h2;subst e h2;obtain⟨p,hp,e⟩:=wP.mp h1;exact List.any_eq_true.mpr ⟨p,hp,wu e⟩
def Nk.drop {k:List (Key × D)}{j:Key}(h:Nk k):Nk (z7t k j):=List.Nodup.sublist (List.Sublist.map _ List.filter_sublist) h
def zga {k:List (Key × D)}{j:Key}{d:D}:(putD k j d).length<=k.length+1:=by
 unfold putD
 split
 .rw[wc];omega
 .rw[wz];exact wG _
def z9Y (h:List Dd):Nk (wOf h)/\(wOf h).length<=h.length:=by
 have main:∀(h:List Dd) (k:List (Key × D)),Nk k->Nk (h.foldl putW k)/\(h.foldl putW k).length<=k.length+h.length:=by
  intro h
  induction h with
  | nil=>intro k hk;exact⟨hk,wG _⟩
  | cons d h ih=>
   intro k hk;have step:Nk (putW k d)/\(putW k d).length<=k.length+1:=by
    cases d with
    | w n v=>exact⟨hk.put,zga⟩
    | t n v s=>exact⟨hk,by show k.length<=_;omega⟩
    | s sh=>exact⟨hk,by show k.length<=_;omega⟩
   obtain⟨a,b⟩:=ih _ step.1;exact⟨a,by rw[List.foldl_cons,wL];omega⟩
 have:=main h [] (by simp[Nk]);simpa[wOf] using this
def Hs.val {h:List Dd}(k:Hs h):∀{i:Key}{d:D},valD (wOf h) i=some d->∃n v,i = .inr n/\d=vecs v/\GW v:=by
 induction k with
 | nil=>intro i d e;cases e
 | snoc hk ok ih=>
  intro i d e;rw[z3R] at e
  rename_i h x
  cases x with
  | w n v=>
   rw[show putW (wOf h) (.w n v)=putD (wOf h) (.inr n) (vecs v) from rfl,z2X] at e
   split at e
   .rename_i hi
    cases e
    exact⟨n,v,hi,rfl,ok.2⟩
   .exact ih e
  | t n v s=>exact ih e
  | s sh=>exact ih e
structure Eqd (L:List (Key × D))(h:List Dd):Prop where
 v:∀i,valD L i=valD (wOf h) i
 n:Nk L
def Eqd.perm {L:List (Key × D)}{h:List Dd}(k:Eqd L h):(L.map (·.1)).Perm ((wOf h).map (·.1)):=(List.perm_ext_iff_of_nodup k.n (z9Y h).1).mpr λi=>by rw[<- z5w, <- z5w,k.v]
def Eqd.len {L:List (Key × D)}{h:List Dd}(k:Eqd L h):L.length<=h.length:=by
 have:=k.perm.length_eq;rw[wc,wc] at this;rw[this];exact(z9Y h).2
def Hs.keys {h:List Dd}(k:Hs h){L:List (Key × D)}(e:∀i,valD L i=valD (wOf h) i):∃ss:List Str,L.map (·.1)=ss.map Sum.inr:=by
 have al:∀i∈L.map (·.1),∃n,i=Sum.inr n:=λi hi=>by
  have:=z5w.mpr hi;rw[e] at this
  cases z:valD (wOf h) i with
  | none=>rw[z] at this;cases this
  | some d=>
   obtain⟨n,v,hn,_⟩:=k.val z;exact⟨n,hn⟩
 clear e;generalize L.map (·.1)=l at al
 induction l with
 | nil=>exact⟨[],rfl⟩
 | cons i l ih=>
  obtain⟨n,rfl⟩:=al i ww;obtain⟨ss,e⟩:=ih λj hj=>al j (we _ hj);exact⟨n::ss,by rw[e];rfl⟩
theorem Eqd.put {L:List (Key × D)}{h:List Dd}{n:Str}{v:List P}(k:Eqd L h):Eqd (putD L (.inr n) (vecs v)) (h++[.w n v]):=⟨λi=>by rw[z3R];show _=valD (putD _ _ _) i;rw[z2X,z2X,k.v],k.n.put⟩
theorem Eqd.t {L:List (Key × D)}{h:List Dd}{n:Str}{v:List P}{s:P}(k:Eqd L h):Eqd L (h++[.t n v s]):=⟨λi=>by rw[z3R];exact k.v i,k.n⟩
theorem Eqd.s {L:List (Key × D)}{h:List Dd}{sh:List Sh}(k:Eqd L h):Eqd L (h++[.s sh]):=⟨λi=>by rw[z3R];exact k.v i,k.n⟩
def zkh {v:List P}{s:P}(h:GW v)(hs:inV s=true):Wt (v,s):=by
 have b:∀p:P,inV p=true->Vb 40 p:=λp hp=>by
  unfold inV inB at hp;simp only[wN,vI] at hp;exact⟨z0B (by omega),z0B (by omega)⟩
 exact⟨λp hp=>b p (h.ok p hp),h.ne,h.le,b s hs⟩
structure Rok (h:List Dd):Prop where
 wt:∀x∈rOf h,Wt x
 le:(rOf h).length<=12
 sl:(sOf h).length<=(rOf h).length
 z:∀p∈zOf h,Wt p.1/\WOk p.1.1.length p.2
theorem z5q {α β:Type}{y:α}:∀{m:List β}{l:List α},m.length<=l.length->(l++[y]).zip m=l.zip m
 | [],l,_=>by simp
 | b::m,[],h=>by simp at h
 | b::m,a::l,h=>by
  rw[List.cons_append,wS,wS,z5q (by simpa using h)]
def Hs.rok {h:List Dd}(k:Hs h):Rok h:=by
 induction k with
 | nil=>exact⟨λ_ z=>(by cases z),by decide,by decide,λ_ z=>(by cases z)⟩
 | snoc hk ok ih=>
  rename_i h d
  cases d with
  | w n v=>
   have e1:rOf (h++[.w n v])=rOf h:=by rw[z5e];exact wQ _
   have e2:sOf (h++[.w n v])=sOf h:=by rw[z5d];exact wQ _
   exact⟨by rw[e1];exact ih.wt,by rw[e1];exact ih.le,by rw[e1,e2];exact ih.sl,by unfold zOf;rw[e1,e2];exact ih.z⟩
  | t n v s=>
   have e1:rOf (h++[.t n v s])=rOf h++[(v,s)]:=z5e _ _;have e2:sOf (h++[.t n v s])=sOf h:=by rw[z5d];exact wQ _
   obtain⟨_,_,o2,o3,o4⟩:=ok;refine⟨λx hx =>?_,by rw[e1,wz];exact o4,by rw[e1,e2,wz];have:=ih.sl;omega,?_⟩
   .rw[e1] at hx
    rcases ve.mp hx with z | z
    .exact ih.wt x z
    .rw[wZ.mp z];exact zkh o2 o3
   .unfold zOf;rw[e1,e2,z5q ih.sl];exact ih.z
  | s sh=>
   have e1:rOf (h++[.s sh])=rOf h:=by rw[z5e];exact wQ _
   have e2:sOf (h++[.s sh])=sOf h++[sh]:=z5d _ _;obtain⟨x,o1,o2⟩:=ok;refine⟨by rw[e1];exact ih.wt,by rw[e1];exact ih.le,?_,?_⟩
   .rw[e1,e2,wz];have:=(wg.mp o1).1;exact this
   .unfold zOf;rw[e1,e2,z5p o1];intro p hp
    rcases ve.mp hp with z | z
    .exact ih.z p z
    .rw[wZ.mp z];exact⟨ih.wt x (wH o1),o2⟩
def lowD (E:Tr):D :=.tup [.int (E.1 / g3 E.1 E.2.1 E.2.2),.int (E.2.1 / g3 E.1 E.2.1 E.2.2),.int (E.2.2 / g3 E.1 E.2.1 E.2.2)]
def zbA {E:Tr}{u v t:Int}(hb:0<E.2.2)(h:Pl E.1 E.2.1 E.2.2 u v t):D.tup [.int u,.int v,.int t]=lowD E:=by
 obtain⟨rfl,rfl,rfl⟩:=h.eq hb (Pl.of (z9w hb))
 rfl
def zeD (E:Tr)(hb:0<E.2.2):∃u v t,lowD E = .tup [.int u,.int v,.int t]/\Pl E.1 E.2.1 E.2.2 u v t:=⟨_,_,_,rfl,Pl.of (z9w hb)⟩
def trk (zs:List ((List P × P) × List Sh)):List D:=(List.range (zs.length+1)).map λi=>lowD (Fm (zs.take i))
def zeV (zs:List ((List P × P) × List Sh))(z:(List P × P) × List Sh):trk (zs++[z])=trk zs++[lowD (Fm (zs++[z]))]:=by
 unfold trk;rw[wz,show zs.length+[z].length+1=(zs.length+1)+1 from rfl,List.range_succ,wU];have e:(List.range (zs.length+1)).map (λi=>lowD (Fm ((zs++[z]).take i)))=(List.range (zs.length+1)).map λi=>lowD (Fm (zs.take i)):=uN λi hi=>by
  have:=vz.mp hi;rw[List.take_append_of_le_length (by omega)]
 rw[e];simp only[wA,vq];rw[ux (by simp)]
def zaI:trk []=[.tup [.int 0,.int 0,.int 1]]:=by
 show [lowD (Fm [])]=_;rw[<- zbA (E:=Fm []) (u:=0) (v:=0) (t:=1) (by decide) ⟨by decide,by decide,rfl,rfl⟩]
def z3S (zs:List ((List P × P) × List Sh)):(trk zs).length=zs.length+1:=by unfold trk;rw[wc,vC]
def z6N (zs:List ((List P × P) × List Sh)):(trk zs)[zs.length]? = some (lowD (Fm zs)):=by
 unfold trk;rw[wR,List.getElem?_range (by omega)];show some (lowD (Fm (zs.take zs.length)))=_;rw[List.take_length]
section
variable {ρ:Pu.Env}{W:Wd}{N:EW}{Q:DW}{X:XW}{a b:SmR}{z x:Ex}{t:Sm}{u v:ExR}{i k:Nat}{n:Str}{fs:List Str}
def z0E (q:a.run ρ W (λρ' W'=>b.run ρ' W' N Q X) Q X):(SmR.seq a b).run ρ W N Q X:=q
def z2n (q:t.run ρ (λρ'=>N ρ' W) (λd=>Q d W) (λx=>X x W)):(SmR.lift t).run ρ W N Q X:=q
def z1L (q:N ρ W):SmR.skip.run ρ W N Q X:=q
def z1e (q:z.run (shw W ρ) (λd=>tst d (a.run ρ W N Q X) (b.run ρ W N Q X)) (λx=>X x W)):(SmR.ifp z a b).run ρ W N Q X:=q
def r_ex (q:u.run ρ W (λ_ W'=>N ρ W') X):(SmR.ex u).run ρ W N Q X:=q
def z5J (q:u.run ρ W (λd W'=>N (ρ.set i (.s d)) W') X):(SmR.set i u).run ρ W N Q X:=q
def z6T (q:u.run ρ W Q X):(SmR.ret u).run ρ W N Q X:=q
def x_pl (q:x.run (shw W ρ) (λd=>Pr d/\Q d W) (λs=>X s W)):(ExR.pl x).run ρ W Q X:=q
def x_vs (q:x.run (vis ρ) (λd=>Q d W) (λs=>X s W)):(ExR.vs x).run ρ W Q X:=q
def z3J {F:FnR}{es:List ExR}(q:z4J es ρ W (λds W'=>F.run ds W' Q X) X):(ExR.call F es).run ρ W Q X:=q
def z1v {Q:List D->Wd->Prop}(q:Q [] W):z4J [] ρ W Q X:=q
def z0C {es:List ExR}{Q:List D->Wd->Prop}(q:u.run ρ W (λd W'=>z4J es ρ W' (λds w=>Q (d::ds) w) X) X):z4J (u::es) ρ W Q X:=q
def z3i {F:FnR}{es:List ExR}{p:Addr}{cs:List D}(h:ρ[i]? = some (.s (.ptr p)))(hw:W p=some (.ins n fs cs))(q:z4J es ρ W (λds W'=>F.run (.ptr p::ds) W' Q X) X):(ExR.meth n fs F i es).run ρ W Q X:=⟨p,cs,h,hw,q⟩
def z5v {p:Addr}(h:ρ[i]? = some (.s (.ptr p)))(q:Q (.ptr p) W):(ExR.raw i).run ρ W Q X:=⟨p,h,q⟩
def z6U {np nn:Nat}{ds:List D}(h:ds.length=np)(q:a.run (ds.map B.s++List.replicate (nn - np) .n) W (λ_ w=>Q .non w) Q X):(FnR.mk' np nn a).run ds W Q X:=⟨h,q⟩
def z3V {np nn:Nat}{ds:List D}(h:ds.length=np)(q:a.run (ds.map B.s++List.replicate (nn - np) .n) W (λ_ w=>Q .non w) Q (λ_ _=>False)):(FnR.mkN np nn a).run ds W Q X:=⟨h,q⟩
end
def z04 {W:Wd}{b:B}{ρ:Pu.Env}:shw W (b::ρ)=shB W b::shw W ρ:=rfl
def z0x {W:Wd}:shw W []=[]:=rfl
def zcN {W:Wd}{p:Addr}{c:D}(h:W p=some c):shB W (.s (.ptr p)) = .s (sho c):=by show (match W p with | some c=>B.s (sho c) | none =>.s (.ptr p))=_;rw[h]
def z2w {W:Wd}:shB W .n = .n:=rfl
def z8A {W:Wd}{x:Str}:shB W (.s (.str x)) = .s (.str x):=rfl
def z09 {W:Wd}{l:List D}:shB W (.s (.tup l)) = .s (.tup l):=rfl
def zaZ {W:Wd}{l:Int}:shB W (.s (.int l)) = .s (.int l):=rfl
def zf1 {W:Wd}:shB W (.s .non) = .s .non:=rfl
def z0r {x y:Str}{Q:DK}{X:XP}(q:Q (.bl (decide (x=y)))):pEq.run [.str x,.str y] Q X:=q
abbrev FS:List Str:=["winds","row","places","standing","undone"]
abbrev SF:List Str:=["winds","watches","sailed","standing","undone"]
def gL (kvs:List (Key × D))(ws pl st un:List D):D :=.ins "Log" FS [dk kvs,.lst ws,.lst pl,.lst st,.lst un]
def gS (kvs:List (Key × D))(ws sl st un:List D):D :=.ins "" SF [dk kvs,.lst ws,.lst sl,.lst st,.lst un]
def dS (kvs:List (Key × D))(ws sl st un:List D):D:=dk [(.inr "winds",dk kvs),(.inr "watches",.lst ws),(.inr "sailed",.lst sl),(.inr "standing",.lst st),(.inr "undone",.lst un)]
abbrev cG (L:List (Key × D))(h u:List Dd):D:=gL L ((rOf h).map wtD) (trk (zOf h)) (h.map ddD) (u.map ddD)
abbrev cS (h u:List Dd):D:=gS (wOf h) ((rOf h).map wtD) ((sOf h).map shsD) (h.map ddD) (u.map ddD)
def z1l {W:Wd}{p:Addr}{kvs:List (Key × D)}{ws pl st un:List D}(h:W p=some (gL kvs ws pl st un)):shB W (.s (.ptr p)) = .s (gL kvs ws pl st un):=by
 rw[zcN h,show sho (gL kvs ws pl st un)=if ("Log":Str)="" then D.dct (FS.map .str) [dk kvs,.lst ws,.lst pl,.lst st,.lst un] else gL kvs ws pl st un from rfl,if_neg (by decide)]
def z2x {W:Wd}{p:Addr}{kvs:List (Key × D)}{ws sl st un:List D}(h:W p=some (gS kvs ws sl st un)):shB W (.s (.ptr p)) = .s (dS kvs ws sl st un):=by
 rw[zcN h,show sho (gS kvs ws sl st un)=if ("":Str)="" then D.dct (SF.map .str) [dk kvs,.lst ws,.lst sl,.lst st,.lst un] else gS kvs ws sl st un from rfl,if_pos rfl]
 rfl
section
variable {kvs:List (Key × D)}{ws pl sl st un:List D}{Q:DK}{X:XP}
def o_lw (q:Q (dk kvs)):(pFld "Log" "winds").run [gL kvs ws pl st un] Q X:=⟨FS,_,0,_,rfl,by decide,rfl,rfl,q⟩
def o_lr (q:Q (.lst ws)):(pFld "Log" "row").run [gL kvs ws pl st un] Q X:=⟨FS,_,1,_,rfl,by decide,rfl,rfl,q⟩
def o_lp (q:Q (.lst pl)):(pFld "Log" "places").run [gL kvs ws pl st un] Q X:=⟨FS,_,2,_,rfl,by decide,rfl,rfl,q⟩
def o_ls (q:Q (.lst st)):(pFld "Log" "standing").run [gL kvs ws pl st un] Q X:=⟨FS,_,3,_,rfl,by decide,rfl,rfl,q⟩
def o_lu (q:Q (.lst un)):(pFld "Log" "undone").run [gL kvs ws pl st un] Q X:=⟨FS,_,4,_,rfl,by decide,rfl,rfl,q⟩
def o_sw (q:Q (dk kvs)):z1q.run [dS kvs ws sl st un,.str "winds"] Q X:=⟨.inr "winds",_,_,rfl,.inl rfl,rfl,q⟩
def o_sr (q:Q (.lst ws)):z1q.run [dS kvs ws sl st un,.str "watches"] Q X:=⟨.inr "watches",_,_,rfl,.inl rfl,rfl,q⟩
def o_sl (q:Q (.lst sl)):z1q.run [dS kvs ws sl st un,.str "sailed"] Q X:=⟨.inr "sailed",_,_,rfl,.inl rfl,rfl,q⟩
def o_ss (q:Q (.lst st)):z1q.run [dS kvs ws sl st un,.str "standing"] Q X:=⟨.inr "standing",_,_,rfl,.inl rfl,rfl,q⟩
def o_su (q:Q (.lst un)):z1q.run [dS kvs ws sl st un,.str "undone"] Q X:=⟨.inr "undone",_,_,rfl,.inl rfl,rfl,q⟩
end
structure Up (W W':Wd)(p:Addr)(c:D):Prop where
 at_:W' p=some c
 ne:∀b,b≠p->W' b=W b
def Up.now {W:Wd}{p:Addr}{c:D}:Up W (upW W p c) p c:=⟨z28,λ_ h=>z27 h⟩
theorem Up.trans {W W1 W2:Wd}{p:Addr}{c c':D}(h:Up W W1 p c)(k:Up W1 W2 p c'):Up W W2 p c':=⟨k.at_,λb hb=>(k.ne b hb).trans (h.ne b hb)⟩
def z5M (vs:List (Int × Int)):Pr (vecs vs):=⟨z7e vs,z7f vs⟩
def zfL (x:List P × P):Pr (wtD x):=⟨ziu x,ziv x⟩
def zer (sh:List Sh):Pr (shsD sh):=⟨z3C λd hd=>by(obtain⟨x,_,rfl⟩:=wP.mp hd;rfl),z3D λd hd=>by(obtain⟨x,_,rfl⟩:=wP.mp hd;rfl)⟩
def z7W {l:List D}(h:∀d∈l,Pr d):Pr (.tup l):=⟨by rw[noL];exact z3C λd hd=>(h d hd).1,by rw[noD];exact z3D λd hd=>(h d hd).2⟩
def z4r (d:Dd):Pr (ddD d):=by
 refine(match d with
  | .w n v=>z7W λd hd =>?_
  | .t n v s=>⟨rfl,rfl⟩
  | .s sh=>z7W λd hd =>?_)
 .simp only[wf,wC,vj] at hd
  rcases hd with rfl | rfl | rfl
  .exact⟨rfl,rfl⟩
  .exact⟨rfl,rfl⟩
  .exact z5M v
 .simp only[wf,wC,vj] at hd
  rcases hd with rfl | rfl
  .exact⟨rfl,rfl⟩
  .exact zer sh
def z8g {α:Type}(f:α->D){l:List α}{n:Nat}(h:n<=l.length):cutD (l.map f) none (some (n:Int))=(l.take n).map f/\cutD (l.map f) (some (n:Int)) none=(l.drop n).map f:=by
 have e1:HT.sIx l.length 0 none=0:=rfl;have e2:∀k:Nat,HT.sIx l.length k (some (n:Int))=n:=λk=>by
  unfold HT.sIx;show (if (n:Int)<0 then ((n:Int)+l.length).toNat else min (n:Int).toNat l.length)=n;rw[if_neg (by omega)];omega
 have e3:HT.sIx l.length l.length none=l.length:=rfl;rw[z9a,z9a,e1,e2,e2,e3];exact⟨by simp,by rw[ux (by rw[uJ];omega)]⟩
def zb3 {L:List (Key × D)}{h u:List Dd}{Q:DK}{X:XP}(hk:Hs h)(q:Q (.tup (((rOf h).drop (sOf h).length).map wtD))):z0n.run [cG L h u] Q X:=by
 have r:=hk.rok;walk_at "fn";ac_nf;refine o_lr ?_;ac_nf;refine o_lp ?_;ac_nf;rw[z3S,show (zOf h).length=(sOf h).length by unfold zOf;rw[uj];exact Nat.min_eq_right r.sl,show (((sOf h).length+1:Nat):Int) - 1=((sOf h).length:Int) by omega];ac_nf;rw[(z8g wtD r.sl).2];exact q
section
variable {ρ:Pu.Env}{W:Wd}{N:EW}{Q:DW}{X:XW}{Q':DW}{e y:Ex}{i k:Nat}{n:Str}{fs:List Str}{cs l:List D}{kvs:List (Key × D)}{p:Addr}{d:D}
def z3s (hi:ρ[i]? = some (.s (.ptr p)))(hW:W p=some (.ins n fs cs))(hc:cs[k]? = some (.lst l))(q:e.run (shw W ρ) (λd=>l.length<sizeLine/\Pr d/\∀W',Up W W' p (.ins n fs (cs.set k (.lst (l++[d]))))->N ρ W') (λx=>X x W)):(SmR.fapp n fs i k e).run ρ W N Q X:=
 ⟨p,cs,_,hi,hW,hc,l,rfl,e.mono _ _ _ _ _ (λd q=>⟨q.1,q.2.1,q.2.2 _ Up.now⟩) (λ_ z=>z) q⟩
def zbe (hi:ρ[i]? = some (.s (.ptr p)))(hW:W p=some (.ins n fs cs))(hc:cs[k]? = some (dk kvs))(q:e.run (shw W ρ) (λd=>Pr d/\y.run (shw W ρ) (λb=>∃j,b=kD j/\kvs.length<sizeLine/\∀W',Up W W' p (.ins n fs (cs.set k (dk (putD kvs j d))))->N ρ W') (λx=>X x W)) (λx=>X x W)):(SmR.fput n fs i k y e).run ρ W N Q X:=
 ⟨p,cs,_,hi,hW,hc,kvs,rfl,e.mono _ _ _ _ _ (λd q=>⟨q.1,y.mono _ _ _ _ _ (λb ⟨j,h,h',q⟩=>⟨j,h,h',q _ Up.now⟩) (λ_ z=>z) q.2⟩) (λ_ z=>z) q⟩
def zhe (hi:ρ[i]? = some (.s (.ptr p)))(hW:W p=some (.ins n fs cs))(hc:cs[k]? = some (.lst l))(q:∀W',Up W W' p (.ins n fs (cs.set k (.lst [])))->N ρ W'):(SmR.fclr n fs i k).run ρ W N Q X:=⟨p,cs,_,hi,hW,hc,l,rfl,q _ Up.now⟩
def z7y (hi:ρ[i]? = some (.s (.ptr p)))(hW:W p=some (.ins n fs cs))(hc:cs[k]? = some (.lst (l++[d])))(q:∀W',Up W W' p (.ins n fs (cs.set k (.lst l)))->Q' d W'):(ExR.fpop n fs i k).run ρ W Q' X:=⟨p,cs,_,hi,hW,hc,l,d,rfl,q _ Up.now⟩
def zeS (hi:ρ[i]? = some (.s (.ptr p)))(hW:W p=some (.ins n fs cs))(hc:cs[k]? = some (dk kvs))(q:y.run (shw W ρ) (λb=>∃j d,b=kD j/\valD kvs j=some d/\∀W',Up W W' p (.ins n fs (cs.set k (dk (z7t kvs j))))->Q' d W') (λx=>X x W)):(ExR.fdpop n fs i k y).run ρ W Q' X:=
 ⟨p,cs,_,hi,hW,hc,kvs,rfl,y.mono _ _ _ _ _ (λb ⟨j,d,h1,h2,q⟩=>⟨j,d,h1,h2,q _ Up.now⟩) (λ_ z=>z) q⟩
def zei (hi:ρ[i]? = some (.s (.ptr p)))(hW:W p=some (.ins "" fs cs))(hc:cs[k]? = some d)(q:e.run (shw W ρ) (λd=>Pc d/\∀W',Up W W' p (.ins "" fs (cs.set k d))->N ρ W') (λx=>X x W)):(SmR.fset fs i k e).run ρ W N Q X:=
 ⟨p,cs,d,hi,hW,hc,e.mono _ _ _ _ _ (λd q=>⟨q.1,q.2 _ Up.now⟩) (λ_ z=>z) q⟩
end
def z5c {n:Str}{fs:List Str}{F:Fn}{x:Ex}{es:List Ex}{ρ:Pu.Env}{Q:DK}{X:XP}(q:x.run ρ (λd=>∃cs,d = .ins n fs cs/\runs es ρ (λds=>F.run (d::ds) Q X) X) X):(Ex.meth n fs F x es).run ρ Q X:=q
def zbR {d w:D}{kvs:List (Key × D)}{n:Str}{Q:DK}{X:XP}(i:IsDk d kvs)(h:valD kvs (.inr n)=some w)(q:Q w):z1q.run [d,.str n] Q X:=⟨.inr n,kvs,w,rfl,i,h,q⟩
def cG_w {L:List (Key × D)}{h u:List Dd}{n:Str}{v:List P}:cG L (h++[.w n v]) u=gL L ((rOf h).map wtD) (trk (zOf h)) (h.map ddD++[ddD (.w n v)]) (u.map ddD):=by
 unfold cG zOf;simp only[z5e,z5d,wU,rw1,sh1,Option.toList,wQ,wA,vq]
def cG_t {L:List (Key × D)}{h u:List Dd}{n:Str}{v:List P}{s:P}(r:Rok h):cG L (h++[.t n v s]) u=gL L ((rOf h).map wtD++[wtD (v,s)]) (trk (zOf h)) (h.map ddD++[ddD (.t n v s)]) (u.map ddD):=by
 unfold cG zOf;simp only[z5e,z5d,wU,rw1,sh1,Option.toList,wQ,wA,vq];rw[z5q r.sl]
def cG_s {L:List (Key × D)}{h u:List Dd}{sh:List Sh}{x:List P × P}(hx:(rOf h)[(sOf h).length]? = some x):cG L (h++[.s sh]) u=gL L ((rOf h).map wtD) (trk (zOf h)++[lowD (Fm (zOf h++[(x,sh)]))]) (h.map ddD++[ddD (.s sh)]) (u.map ddD):=by
 unfold cG zOf;simp only[z5e,z5d,wU,rw1,sh1,Option.toList,wQ,wA,vq];rw[z5p hx,zeV]
def cS_w {h u:List Dd}{n:Str}{v:List P}:cS (h++[.w n v]) u=gS (putD (wOf h) (.inr n) (vecs v)) ((rOf h).map wtD) ((sOf h).map shsD) (h.map ddD++[ddD (.w n v)]) (u.map ddD):=by
 unfold cS;simp only[z5e,z5d,z3R,wU,rw1,sh1,putW,Option.toList,wQ,wA,vq]
def cS_t {h u:List Dd}{n:Str}{v:List P}{s:P}:cS (h++[.t n v s]) u=gS (wOf h) ((rOf h).map wtD++[wtD (v,s)]) ((sOf h).map shsD) (h.map ddD++[ddD (.t n v s)]) (u.map ddD):=by
 unfold cS;simp only[z5e,z5d,z3R,wU,rw1,sh1,putW,Option.toList,wQ,wA,vq]
def cS_s {h u:List Dd}{sh:List Sh}:cS (h++[.s sh]) u=gS (wOf h) ((rOf h).map wtD) ((sOf h).map shsD++[shsD sh]) (h.map ddD++[ddD (.s sh)]) (u.map ddD):=by
 unfold cS;simp only[z5e,z5d,z3R,wU,rw1,sh1,putW,Option.toList,wQ,wA,vq]
def z9c {l:List D}{d:D}{n:Nat}(hl:l.length=n+1)(h:l[n]? = some d):atI l (-1)=some d:=by
 unfold atI;rw[show ixN l.length (-1)=some n by unfold ixN;rw[hl];simp;omega];exact h
def zh1 {L:List (Key × D)}{h u:List Dd}{Q:DK}{X:XP}(q:Q (lowD (Fm (zOf h)))):z18.run [cG L h u] Q X:=by
 walk_at "fn";ac_nf;refine o_lp ?_;ac_nf;exact z43 (z9c (z3S _) (z6N _)) q
def z4U {α:Type}{l:List α}{n:Nat}(h:l.length<=n)(hn:n<=900):l.length<sizeLine:=wK (show l.length<1000 by omega) (z4G (wG _))
def fb_z {h:List Dd}(r:Rok h):FB 3661 (Fm (zOf h)):=(ziT r.z).le (by
 have:=r.sl;have:=r.le;have:(zOf h).length<=12:=by unfold zOf;rw[uj];omega
 omega)
def z89 {h:List Dd}{x:List P × P}(hx:(rOf h)[(sOf h).length]? = some x):cutD (((rOf h).drop (sOf h).length).map wtD) none (some 1)=[wtD x]:=by
 obtain⟨hl,e⟩:=wg.mp hx;have e2:(rOf h).drop (sOf h).length=x::(rOf h).drop ((sOf h).length+1):=by rw[vR hl,e]
 rw[e2,show (1:Int)=((1:Nat):Int) from rfl,(z8g wtD (n:=1) (by simp)).1]
 rfl
def zb6 {p:Addr}{W:Wd}{L:List (Key × D)}{h u:List Dd}{d:Dd}{Q:DW}{X:XW}(hW:W p=some (cG L h u))(hk:Hs h)(eq:Eqd L h)(ok:Okd h d)(hl:h.length<=100)
  (q:∀W' L',Up W W' p (cG L' (h++[d]) u)->Eqd L' (h++[d])->Q .non W'):z0A.run [.ptr p,ddD d] W Q X:=by
 have r:=hk.rok;have ll:=eq.len;have sl:(h.map ddD).length<sizeLine:=z4U (n:=100) (by rw[wc];exact hl) (by decide)
 cases d with
 | w n v=>
  show z0A.run [.ptr p,.tup [.str "wind",.str n,vecs v]] W Q X;l_idx;ac_rfl;kl_no;kd_p;ac_nf;k_go;refine zbe rfl hW rfl ?_;kd_p;ac_nf;refine⟨z5M v,?_⟩;ac_nf;refine⟨.inr n,rfl,z4U (wX ll hl) (by decide),λW1 u1 =>?_⟩;refine z3s rfl u1.at_ rfl ?_;rw[z04,z04,z04,z0x,z09];ac_nf;refine⟨sl,z4r (.w n v),λW2 u2 =>?_⟩;exact q _ _ (by rw[cG_w];exact u1.trans u2) eq.put
 | t n v s=>
  obtain⟨_,o1,o2,o3,o4⟩:=ok;show z0A.run [.ptr p,.tup [.str "watch",.str n,vec s]] W Q X;l_idx;ac_rfl;kl_no;kd_p;ac_nf;kt_k;refine z1e ?_;kd_p;ac_nf;k_go;refine z3s rfl hW rfl ?_;kd_p;ac_nf;refine o_lw ?_;ac_nf;refine zbR (.inl rfl) ((eq.v _).trans o1) ?_;ac_nf;refine⟨z4U (n:=12) (by rw[wc];omega) (by decide),zfL (v,s),λW1 u1 =>?_⟩;refine z3s rfl u1.at_ rfl ?_;rw[z04,z04,z04,z0x,z09];ac_nf;refine⟨sl,z4r (.t n v s),λW2 u2 =>?_⟩;exact q _ _ (by rw[cG_t r];exact u1.trans u2) eq.t
 | s sh=>
  obtain⟨x,o1,o2⟩:=ok;have hx:=r.wt x (wH o1);have fb:=fb_z r;obtain⟨p0,q0,q1,q2,q3⟩:=z6Q hx o2 (dn:=sh) (r:=[]) (by simp);obtain⟨u0,v0,t0,e0,pl0⟩:=zeD (Fm (zOf h)) fb.pos;obtain⟨bt0,bu0,bv0⟩:=pl0.bt fb.pos fb.b fb.x fb.y;show z0A.run [.ptr p,.tup [.str "sail",shsD sh]] W Q X;l_idx;ac_rfl;kl_no;kd_p;ac_nf;kt_k;refine z1e ?_;kd_p;ac_nf;kt_k;refine z0E (z5J (x_pl ?_));kd_p;ac_nf;refine z5c ?_;ac_nf;refine⟨_,rfl,z3O (zb3 hk ?_)⟩;ac_nf;rw[z89 o1];ac_nf;refine zfb hx o2 λa c w pk =>?_;obtain⟨bw,ba,bc⟩:=pk.bt (n:=301) (m:=430) p0 q0 (Bt.le (Bt.add q1 (Bt.mul hx.vb.1 q0))) (Bt.le (Bt.add q2 (Bt.mul hx.vb.2 q0)));refine⟨⟨rfl,rfl⟩,?_⟩;ac_rfl;refine z3s rfl hW rfl ?_;rw[z04,z04,z04,z0x,z1l hW,z09,z09];ac_nf;refine z5c ?_;ac_nf;refine⟨_,rfl,z3O (zh1 ?_)⟩;rw[e0];ac_nf;refine z2a pl0.pos pk.pos pl0.cop pk.cop bu0.le bv0.le bt0.le ba.le bc.le bw.le λu' v' t' h' =>?_;have pl1:Pl (Fm (zOf h++[(x,sh)])).1 (Fm (zOf h++[(x,sh)])).2.1 (Fm (zOf h++[(x,sh)])).2.2 u' v' t':=by
   rw[Fm.snoc];refine(pl0.add fb.pos p0 pk h').eqv (v7 fb.pos p0) ?_ ?_
   .simp only[wtp];grind
   .simp only[wtp];grind
  have b1:0<(Fm (zOf h++[(x,sh)])).2.2:=by rw[Fm.snoc];exact v7 fb.pos p0
  rw[zbA b1 pl1];refine⟨z4U (n:=13) (by rw[z3S];have:=r.le;have:=r.sl;unfold zOf;rw[uj];omega) (by decide),⟨rfl,rfl⟩,λW1 u1 =>?_⟩;refine z3s rfl u1.at_ rfl ?_;rw[z04,z04,z04,z0x,z09,z09];ac_nf;refine⟨sl,z4r (.s sh),λW2 u2 =>?_⟩;exact q _ _ (by rw[cG_s o1];exact u1.trans u2) eq.s
def z8C {p:Addr}{W:Wd}{L:List (Key × D)}{h u:List Dd}{d:Dd}{Q:DW}{X:XW}(hW:W p=some (cG L h u))(hk:Hs h)(eq:Eqd L h)(ok:Okd h d)(hl:h.length<=100)
  (q:∀W' L',Up W W' p (cG L' (h++[d]) [])->Eqd L' (h++[d])->Q .non W'):z0R.run [.ptr p,ddD d] W Q X:=by
 l_idx;ac_rfl;refine z0E (zhe rfl hW rfl λW1 u1 =>?_);refine r_ex (z3i rfl u1.at_ (z0C (x_vs ?_)));ac_rfl;ac_nf;refine z1v ?_;exact zb6 (u:=[]) u1.at_ hk eq ok hl λW2 L' u2 e2=>q W2 L' (u1.trans u2) e2
def za3 {p:Addr}{W:Wd}{L:List (Key × D)}{h u:List Dd}{n:Str}{v:List P}{Q:DW}{X:XW}(hW:W p=some (cG L h u))(hk:Hs h)(eq:Eqd L h)(hn:Wn n)(hv:GW v)(hl:h.length<=100)
  (q:∀W' L',Up W W' p (cG L' (h++[.w n v]) [])->Eqd L' (h++[.w n v])->Q .non W'):z1C.run [.ptr p,.str n,vecs v] W Q X:=by
 refine z6U rfl ?_;ac_rfl;refine z0E (z2n ?_);ac_nf;refine zb5 (zgf hn.w) ?_;rw[hn.w];ac_nf;l_out;ac_nf;refine z0E (z2n ?_);ac_nf;refine zge hv.ne hv.le hv.ok _ _ ?_;ac_nf;l_out;ac_nf;refine r_ex (z3i rfl hW (z0C (x_vs ?_)));ac_rfl;ac_nf;refine⟨by rw[wc];exact z4U hv.le (by decide),?_⟩;refine z2v (g:=vec) (λv _ K hK =>?_) ?_
 .ac_nf;exact hK
 .ac_nf;refine z1v ?_;exact z8C (d :=.w n v) hW hk eq ⟨hn,hv⟩ hl q
def z7c {kvs:List (Key × D)}{n:Str}{Q:DK}{X:XP}(q:Q (.bl !(valD kvs (.inr n)).isSome)):z4P.run [.str n,dk kvs] Q X:=⟨.inr n,kvs,rfl,.inl rfl,q⟩
def z3U {p:Addr}{W:Wd}{L:List (Key × D)}{h u:List Dd}{n:Str}{s:P}{Q:DW}{X:XW}(hW:W p=some (cG L h u))(hk:Hs h)(eq:Eqd L h)(hn:Wn n)(hs:inV s=true)(hl:h.length<=100)
  (q1:valD (wOf h) (.inr n)=none->X "NoWind" W) (q2:(valD (wOf h) (.inr n)).isSome=true->(rOf h).length=12->X "NoDeed" W)
  (q3:∀v,Okd h (.t n v s)->∀W' L',Up W W' p (cG L' (h++[.t n v s]) [])->Eqd L' (h++[.t n v s])->Q .non W'):z1n.run [.ptr p,.str n,vec s] W Q X:=by
 refine z6U rfl ?_;ac_rfl;kl_no;rw[z04,z04,z04,z0x,z1l hW,z8A,z09];ac_nf;refine o_lw (z7c ?_);rw[eq.v]
 cases hv:valD (wOf h) (.inr n) with
 | none=>
  refine z1J rfl (z2n ?_);ac_nf;exact q1 hv
 | some w=>
  rw[hv] at q2;obtain⟨_,v,_,rfl,gv⟩:=hk.val hv;refine z0o rfl (z1L (z0E (z1e ?_)));rw[z04,z04,z04,z0x,z1l hW,z8A,z09];ac_nf;refine o_lr ?_;ac_nf;rw[wc];refine z1p (λh12 =>?_) (λh12 =>?_)
  .refine z2n ?_;ac_nf;exact q2 rfl (by omega)
  .have:=hk.rok.le;refine z1L (z0E (z2n ?_));ac_nf;refine ze1 s _ _ ?_;rw[hs];ac_nf;l_out;ac_nf;refine r_ex (z3i rfl hW (z0C (x_vs ?_)));ac_rfl;ac_nf;refine z1v ?_;exact z8C (d :=.t n v s) hW hk eq ⟨hn,hv,gv,hs,by omega⟩ hl (q3 v ⟨hn,hv,gv,hs,by omega⟩)
def Rb (rs:List Rs):Prop:=∀r∈rs,Bt 25 r.2.1/\Bt 25 r.2.2
def Rb.bits {rs:List Rs}(h:Rb rs):Bits rs:=λr hr=>⟨(h r hr).1.le,(h r hr).2.le⟩
def zey {n:Nat}{rs:List Rs}(hb:Rb rs)(h:okR n rs=true):∃sh,rs=sh.map toR/\WOk n sh:=by
 unfold okR at h;rw[wN] at h;obtain⟨sh,rfl,hs,_⟩:=z7k (by decide) h.1 hb.bits;have o:One sh:=by
  have:=h.2;unfold oneR at this;rw[z63,vI] at this;exact this
 refine⟨sh,rfl,hs,o,λs hs'=>hb (toR s) (List.mem_map_of_mem hs'),λz =>?_⟩;rw[z] at o;have:(0:Int)=1:=o;omega
def zb1 {p:Addr}{W:Wd}{L:List (Key × D)}{h u:List Dd}{rs:List Rs}{Q:DW}{X:XW}(hW:W p=some (cG L h u))(hk:Hs h)(eq:Eqd L h)(hb:Rb rs)(hz:rs.length<=900)(hl:h.length<=100)
  (q1:(rOf h).length=(sOf h).length->X "NoDeed" W) (q2:∀x,(rOf h)[(sOf h).length]? = some x->okR x.1.length rs=false->X "NoShares" W)
  (q3:∀x sh,(rOf h)[(sOf h).length]? = some x->okR x.1.length rs=true->rs=sh.map toR->Okd h (.s sh)->∀W' L',Up W W' p (cG L' (h++[.s sh]) [])->Eqd L' (h++[.s sh])->Q .non W'):z2W.run [.ptr p,rcD rs] W Q X:=by
 have r:=hk.rok;refine z6U rfl ?_;ac_rfl;refine z0E (z5J (x_pl ?_));rw[z04,z04,z04,z0x,z1l hW,show shB W (.s (rcD rs)) = .s (rcD rs) from rfl,z2w];refine z5c ?_;ac_nf;refine⟨_,rfl,z3O (zb3 hk ⟨z7W λd hd =>?_,?_⟩)⟩
 .obtain⟨x,_,rfl⟩:=wP.mp hd;exact zfL x
 ac_rfl;refine z0E (z2n ?_);ac_nf;rw[wc,uJ];refine z1p (λh0 =>?_) (λh0 =>?_)
 .ac_nf;exact q1 (by have:=r.sl;omega)
 ac_nf;have hlt:(sOf h).length<(rOf h).length:=by have:=r.sl;omega
 have hx:(rOf h)[(sOf h).length]? = some (rOf h)[(sOf h).length]:=by simp[hlt]
 generalize (rOf h)[(sOf h).length]=x at hx;have wx:=r.wt x (wH hx);refine z0E (z2n ?_);ac_nf;rw[z89 hx];ac_nf;refine zh3 (by have:=wx.len;omega) hb.bits ?_
 cases ek:okR x.1.length rs with
 | false=>
  ac_nf;refine z2j (z4E ?_);ac_nf;exact q2 x hx ek
 | true=>
  ac_nf;l_out;ac_nf;obtain⟨sh,rfl,wk⟩:=zey hb ek;refine r_ex (z3i rfl hW (z0C (x_vs ?_)));ac_rfl;unfold rcD;ac_nf;refine⟨by rw[wc];exact z4U hz (by decide),?_⟩;refine z2v (g:=rsD) (λr _ K hK =>?_) ?_
  .kt_le;show Ex.run _ _ _ _;w_how;ac_rfl;ac_nf;exact hK
  ac_nf;refine z1v ?_;rw[<- z4D];exact z8C (d :=.s sh) hW hk eq ⟨x,hx,wk⟩ hl (q3 x sh hx ek rfl ⟨x,hx,wk⟩)
def z7n {α:Type}{f:α->D}{l:List α}{i:Nat}{b:SmR}{N:EW}{Q:DW}{X:XW}{ρ:Pu.Env}{W:Wd}(I:List α->Pu.Env->Wd->Prop)(h0:I [] ρ W)(hs:∀(dn:List α) (x:α) (r:List α) (ρ:Pu.Env) (W:Wd),l=dn++x::r->I dn ρ W->b.run (ρ.set i (.s (f x))) W (λρ' W'=>I (dn++[x]) ρ' W') Q X)(hd:∀ρ W,I l ρ W->N ρ W):forR i b N Q X (l.map f) ρ W:=by
 have main:∀(r dn:List α) (ρ:Pu.Env) (W:Wd),l=dn++r->I dn ρ W->forR i b N Q X (r.map f) ρ W:=by
  intro r
  induction r with
  | nil=>
   intro dn ρ W e h;rw[wQ] at e;subst e;exact hd ρ W h
  | cons x r ih=>
   intro dn ρ W e h;rw[wA];exact b.mono _ W _ _ Q Q X X (λρ2 W2 q=>ih (dn++[x]) ρ2 W2 (by rw[e];simp) q) (λ_ _ z=>z) (λ_ _ z=>z) (hs dn x r ρ W e h)
 exact main l [] ρ W rfl h0
def zjw {i:Nat}{src:Ex}{b:SmR}{N:EW}{Q:DW}{X:XW}{ρ:Pu.Env}{W:Wd}(q:src.run (vis ρ) (λd=>onL (items d) λl=>forR i b N Q X l ρ W) (λx=>X x W)):(SmR.for_ i src b).run ρ W N Q X:=q
def zeL (a m b n:Str):deq (.tup [.str a,.str m]) (.tup [.str b,.str n])=(decide (a=b) && decide (m=n)):=by
 show PyData.eqv (.tuple [.str a,.str m]) (.tuple [.str b,.str n])=_;rw[uC];simp[PyData.eqv,PyData.eqvAll]
def ziZ (sh:List Sh)(n:Str):deq (.tup [.str "sail",shsD sh]) (.tup [.str "wind",.str n])=false:=by
 show PyData.eqv (.tuple [.str "sail",py (shsD sh)]) (.tuple [.str "wind",.str n])=_;simp[PyData.eqv,PyData.eqvAll];intro z;exact absurd z (by decide)
def zeN (sh:List Sh){n:Nat}:Da (n+3) (shsD sh):=Da.tup.mpr λd hd=>by
 obtain⟨s,_,rfl⟩:=wP.mp hd;refine Da.tup.mpr λe he =>?_;w_fin
 rcases he with rfl | rfl
 .exact Da.int
 .exact Da.vec (s.2.1,s.2.2)
def z6G {a:Str}{d:D}(ha:PyData.strOk a=true)(h:Da 59 d):Da 60 (.tup [.str a,d]):=Da.tup.mpr λe he=>by
 w_fin
 rcases he with rfl | rfl
 .exact Da.str.mpr ha
 .exact h
def isNm (n:Str):Dd->Bool
 | .w m _=>decide (m=n)
 | _=>false
def Hs.mem {h:List Dd}(k:Hs h):∀d∈h,∃dn,Hs dn/\Okd dn d:=by
 induction k with
 | nil=>intro d hd;cases hd
 | snoc hk ok ih=>
  intro d hd
  rcases ve.mp hd with z | z
  .exact ih d z
  .rw[wZ.mp z];exact⟨_,hk,ok⟩
def zg5 {a:Dd}{n:Str}{v:List P}{dn:List Dd}{Q:DK}{X:XP}(ok:Okd dn a)(hn:Wn n)(q:Q (.bl (isNm n a))){x y:Ex}{ρ:Pu.Env}(hx:∀(Q:DK) (X:XP),Q (ddD a)->x.run ρ Q X)(hy:∀(Q:DK) (X:XP),Q (ddD (.w n v))->y.run ρ Q X):
  Ex.run (.op pEq [(.sl x none (some (.c (.int 2)))),(.sl y none (some (.c (.int 2))))]) ρ Q X:=by
 refine z93 (hx _ _ ?_);have e1:∀l:List D,cutD l none (some 2)=l.take 2:=λl=>by
  unfold cutD;simp[HT.sIx]
 have s1:∀(l:List D) (Q:DK),Q (.tup (l.take 2))->part none ρ (λlo=>part (some (.c (.int 2))) ρ (λhi=>slcD (.tup l) lo hi Q) X) X:=λl Q q=>by
  show slcD (.tup l) none (some 2) Q;show Q (.tup (cutD l none (some 2)));rw[e1];exact q
 cases a with
 | w m v'=>
  refine s1 _ _ (hy _ _ (s1 _ _ ?_));show pEq.run [.tup [.str "wind",.str m],.tup [.str "wind",.str n]] Q X;refine zg8 (z6G (by decide +kernel) (Da.str.mpr ok.1.ok)) (z6G (by decide +kernel) (Da.str.mpr hn.ok)) ?_;rw[zeL,wu rfl,uU];exact q
 | t m v' s=>
  refine s1 _ _ (hy _ _ (s1 _ _ ?_));show pEq.run [.tup [.str "watch",.str m],.tup [.str "wind",.str n]] Q X;refine zg8 (z6G (by decide +kernel) (Da.str.mpr ok.1.ok)) (z6G (by decide +kernel) (Da.str.mpr hn.ok)) ?_;rw[zeL,show decide (("watch":Str)="wind")=false from by decide,Bool.false_and];exact q
 | s sh=>
  refine s1 _ _ (hy _ _ (s1 _ _ ?_));show pEq.run [.tup [.str "sail",shsD sh],.tup [.str "wind",.str n]] Q X;refine zg8 (z6G (by decide +kernel) (zeN sh)) (z6G (by decide +kernel) (Da.str.mpr hn.ok)) ?_;rw[ziZ];exact q
def zh7 {p:Addr}{W:Wd}{L:List (Key × D)}{h u:List Dd}{d:Dd}{Q:DW}{X:XW}(hW:W p=some (gL L ((rOf (h++[d])).map wtD) (trk (zOf (h++[d]))) (h.map ddD) (u.map ddD)))(hk:Hs (h++[d]))(eq:Eqd L (h++[d]))(hl:h.length<=100)
  (q:∀W' L',Up W W' p (cG L' h u)->Eqd L' h->Q .non W'):z0U.run [.ptr p,ddD d] W Q X:=by
 have ll:=eq.len;rw[wz,vA] at ll;obtain⟨hk0,ok⟩:=hk.inv;have r:=hk0.rok
 cases d with
 | w n v=>
  simp only[zOf,z5e,z5d,rw1,sh1,Option.toList,wQ] at hW
  change W p=some (gL L ((rOf h).map wtD) (trk (zOf h)) (h.map ddD) (u.map ddD)) at hW
  show z0U.run [.ptr p,.tup [.str "wind",.str n,vecs v]] W Q X;l_idx;ac_rfl;refine z1e ?_;kd_p;ac_nf;k_go;have vl:∀i,valD L i=if i = .inr n then some (vecs v) else valD (wOf h) i:=λi=>by
   rw[eq.v,z3R];exact z2X
  refine z0E (r_ex (zeS rfl hW rfl ?_));kd_p;ac_nf;refine⟨.inr n,vecs v,rfl,by rw[vl,if_pos rfl],λW1 u1 =>?_⟩;refine⟨p,_,_,rfl,u1.at_,rfl,h.map ddD,rfl,?_⟩;refine z7n (f:=ddD) (λdn ρ W'=>∃(L':List (Key × D)) (b:B),Up W W' p (gL L' ((rOf h).map wtD) (trk (zOf h)) (h.map ddD) (u.map ddD))/\Nk L'/\L'.length<=900/\(∀i,valD L' i=if i = .inr n then valD (wOf dn) i else valD (wOf h) i)/\ρ=[.s (.ptr p),.s (.tup [.str "wind",.str n,vecs v]),b]) ⟨_,_,u1,eq.n.drop,?_,?_,rfl⟩ ?_ ?_
  .exact wX (List.length_filter_le _ _) (by omega)
  .intro i;rw[zcE,vl]
   split
   .rename_i e;rw[e];rfl
   .rfl
  .rintro dn a rest ρ W' e ⟨L',b,up,nk,lz,hv,rfl⟩;obtain⟨_,_,oka⟩:=hk0.mem a (by rw[e];simp);ac_rfl;refine z1e ?_;rw[z04,z04,z04,z0x,z1l up.at_,z09,show shB W' (.s (ddD a)) = .s (ddD a) from by cases a <;> rfl];refine zg5 (v:=v) oka ok.1 ?_ (λQ X q=>e_v (z2B q)) (λQ X q=>e_v (z2B q))
   cases a with
   | w m v'=>
    refine t_bl (λhm =>?_) (λhm =>?_)
    .obtain rfl:m=n:=vP hm;refine zbe rfl up.at_ rfl ?_;rw[z04,z04,z04,z0x,z1l up.at_,z09,show shB W' (.s (ddD (.w m v'))) = .s (.tup [.str "wind",.str m,vecs v']) from rfl];ac_nf;refine⟨z5M v',?_⟩;ac_nf;refine⟨.inr m,rfl,z4U lz (by decide),λW2 u2 =>?_⟩;have hv':∀i,valD (putD L' (.inr m) (vecs v')) i=if i = .inr m then valD (wOf (dn++[.w m v'])) i else valD (wOf h) i:=λi=>by
      rw[z2X,z3R];show _=if _ then valD (putD (wOf dn) (.inr m) (vecs v')) i else _
      rw[z2X,hv]
      split <;> rfl
     refine⟨_,_,up.trans u2,nk.put,?_,hv',rfl⟩;have pm:((putD L' (.inr m) (vecs v')).map (·.1)).Perm ((wOf (h++[.w m v'])).map (·.1)):=(List.perm_ext_iff_of_nodup nk.put (z9Y _).1).mpr λi=>by
      rw[<- z5w, <- z5w,z2X,z3R,show putW (wOf h) (.w m v')=putD (wOf h) (.inr m) (vecs v') from rfl,z2X,hv]
      split <;> rfl
     have:=pm.length_eq;rw[wc,wc] at this;rw[this];have:=(z9Y (h++[.w m v'])).2;rw[wz] at this;exact wX this (by show h.length+1<=900;omega)
    .have hm':¬ m=n:=uS hm;refine z1L ⟨_,_,up,nk,lz,λi =>?_,rfl⟩;rw[hv,z3R,show putW (wOf dn) (.w m v')=putD (wOf dn) (.inr m) (vecs v') from rfl,z2X]
     split
     .rename_i z
      rw[if_neg (λy=>hm' (Sum.inr.inj (y.symm.trans z)))]
     .rfl
   | t m v' s=>
    refine z0o rfl (z1L ⟨_,_,up,nk,lz,λi =>?_,rfl⟩);rw[hv,z3R];rfl
   | s sh=>
    refine z0o rfl (z1L ⟨_,_,up,nk,lz,λi =>?_,rfl⟩);rw[hv,z3R];rfl
  .rintro ρ W' ⟨L',b,up,nk,lz,hv,rfl⟩;exact q W' L' up ⟨λi=>by rw[hv];split <;> rfl,nk⟩
 | t n v s=>
  obtain⟨_,o1,o2,o3,o4⟩:=ok;simp only[zOf,z5e,z5d,rw1,sh1,Option.toList,wQ,wU,wA,vq,z5q r.sl] at hW
  change W p=some (gL L ((rOf h).map wtD++[wtD (v,s)]) (trk (zOf h)) (h.map ddD) (u.map ddD)) at hW
  show z0U.run [.ptr p,.tup [.str "watch",.str n,vec s]] W Q X;l_idx;ac_rfl;refine z1e ?_;kd_p;ac_nf;kt_k;refine z1e ?_;kd_p;ac_nf;k_go;refine r_ex (z7y rfl hW rfl λW1 u1 =>?_);exact q W1 L u1 ⟨λi=>by rw[eq.v,z3R];rfl,eq.n⟩
 | s sh=>
  obtain⟨x,o1,o2⟩:=ok;simp only[zOf,z5e,z5d,rw1,sh1,Option.toList,wQ,z5p o1,zeV] at hW
  change W p=some (gL L ((rOf h).map wtD) (trk (zOf h)++[lowD (Fm (zOf h++[(x,sh)]))]) (h.map ddD) (u.map ddD)) at hW
  show z0U.run [.ptr p,.tup [.str "sail",shsD sh]] W Q X;l_idx;ac_rfl;refine z1e ?_;kd_p;ac_nf;kt_k;refine z1e ?_;kd_p;ac_nf;kt_k;refine r_ex (z7y rfl hW rfl λW1 u1 =>?_);exact q W1 L u1 ⟨λi=>by rw[eq.v,z3R];rfl,eq.n⟩
def zea {p:Addr}{W:Wd}{L:List (Key × D)}{h u:List Dd}{Q:DW}{X:XW}(hW:W p=some (cG L h u))(hk:Hs h)(eq:Eqd L h)(hl:h.length<=100)(ul:u.length<=100)
  (q1:h=[]->X "NoDeed" W) (q2:∀h0 d,h=h0++[d]->∀W' L',Up W W' p (cG L' h0 (u++[d]))->Eqd L' h0->Q .non W'):z2V.run [.ptr p] W Q X:=by
 refine z6U rfl ?_;ac_rfl;kl_no;rw[z04,z04,z0x,z1l hW,z2w];ac_nf;refine o_ls ?_;ac_nf;rw[wc];refine z1p (λz0 =>?_) (λz0 =>?_)
 .refine z2n ?_;ac_nf;exact q1 (List.eq_nil_of_length_eq_zero (by omega))
 refine z1L ?_;obtain⟨h0,d,rfl⟩:∃h0 d,h=h0++[d]:=by
  rcases uF h with z | ⟨h0,d,z⟩
  .rw[z] at z0;exact absurd rfl z0
  .exact⟨h0,d,by simpa using z⟩
 rw[wz,vA] at hl;have hW':W p=some (gL L ((rOf (h0++[d])).map wtD) (trk (zOf (h0++[d]))) (h0.map ddD++[ddD d]) (u.map ddD)):=by rw[hW,cG,wU];rfl
 refine z0E (z5J (z7y rfl hW' rfl λW1 u1 =>?_));ac_rfl;refine z0E (r_ex (z3i rfl u1.at_ (z0C (x_vs ?_))));ac_rfl;ac_nf;refine z1v ?_;refine zh7 u1.at_ hk eq (by omega) λW2 L' u2 e2 =>?_;refine z3s rfl u2.at_ rfl ?_;rw[z04,z04,z0x,show shB W2 (.s (ddD d)) = .s (ddD d) from by cases d <;> rfl];ac_nf;refine⟨z4U (n:=100) (by rw[wc];exact ul) (by decide),z4r d,λW3 u3 =>?_⟩;exact q2 h0 d rfl W3 L' (by rw[cG,wU];exact(u1.trans u2).trans u3) e2
def zb8 {p:Addr}{W:Wd}{L:List (Key × D)}{h u:List Dd}{Q:DW}{X:XW}(hW:W p=some (cG L h u))(hk:Hs (h++u.reverse))(eq:Eqd L h)(hl:h.length<=100)
  (q1:u=[]->X "NoDeed" W) (q2:∀u0 d,u=u0++[d]->∀W' L',Up W W' p (cG L' (h++[d]) u0)->Eqd L' (h++[d])->Q .non W'):z2u.run [.ptr p] W Q X:=by
 refine z6U rfl ?_;ac_rfl;kl_no;rw[z04,z0x,z1l hW];ac_nf;refine o_lu ?_;ac_nf;rw[wc];refine z1p (λz0 =>?_) (λz0 =>?_)
 .refine z2n ?_;ac_nf;exact q1 (List.eq_nil_of_length_eq_zero (by omega))
 refine z1L ?_;obtain⟨u0,d,rfl⟩:∃u0 d,u=u0++[d]:=by
  rcases uF u with z | ⟨h0,d,z⟩
  .rw[z] at z0;exact absurd rfl z0
  .exact⟨h0,d,by simpa using z⟩
 obtain⟨k1,k2,k3⟩:=hk.next;have hW':W p=some (gL L ((rOf h).map wtD) (trk (zOf h)) (h.map ddD) (u0.map ddD++[ddD d])):=by rw[hW,cG,wU];rfl
 refine r_ex (z3i rfl hW' (z0C (z7y rfl hW' rfl λW1 u1=>z1v ?_)));exact zb6 (u:=u0) u1.at_ k1 eq k2 hl λW2 L' u2 e2=>q2 u0 d rfl W2 L' (u1.trans u2) e2
def z86 {xs:List Str}{f:Str->Bool}{x:Str}{Q:DK}{X:XP}(h:x∈xs)(q:Q (.bl (f x))):(pIsx xs f).run [.exc x] Q X:=⟨h,q⟩
def e_lm {F:Fn}{x y:Ex}{ρ:Pu.Env}{Q:DK}{X:XP}(q:x.run ρ (λd=>isLs d λl=>y.run ρ (λe=>F.run [.lst l,e] Q X) X) X):(Ex.lm F x y).run ρ Q X:=q
def zh2 {x y:Str}{i:Nat}{Q:DK}{X:XP}(h:(x,y,i)∈([("NoWind","wind",0),("NoDeed","deed",1),("NoShares","shares",2)]:List (Str × Str × Nat)))(q:Q (.str y)):z1E.run [.exc x] Q X:=by
 have hm:x∈(["NoDeed","NoShares","NoWind"]:List Str):=by
  simp only[wf,uR,wC,vj] at h ⊢
  rcases h with ⟨a,_⟩ | ⟨a,_⟩ | ⟨a,_⟩ <;> simp[a]
 walk_at "fn";ac_nf;refine z86 hm ?_;ac_nf;refine z86 hm ?_;ac_nf;refine z86 hm ?_;ac_nf;refine z86 hm ?_;ac_nf;refine e_lm ?_;ac_nf;refine⟨[_,_,_],true,rfl,rfl,?_⟩;ac_nf;simp only[wf,uR,wC,vj] at h
 rcases h with ⟨rfl,rfl,rfl⟩ | ⟨rfl,rfl,rfl⟩ | ⟨rfl,rfl,rfl⟩
 all_goals
  refine z0o (by decide +kernel) ?_;ac_nf;refine z86 hm ?_;ac_nf;refine z0o rfl ?_;ac_nf;refine e_lm ?_;ac_nf
 .refine⟨[_,_,_],true,0,rfl,rfl,rfl,(λj h=>absurd h (Nat.not_lt_zero _)),by decide,?_⟩;ac_nf;exact q
 .refine⟨[_,_,_],true,1,rfl,rfl,rfl,(λj h=>by obtain rfl:j=0:=(by omega);decide +kernel),by decide,?_⟩;ac_nf;exact q
 .refine⟨[_,_,_],true,2,rfl,rfl,rfl,(λj h=>by(obtain rfl | rfl:j=0\/j=1:=(by omega)) <;> decide +kernel),by decide,?_⟩;ac_nf;exact q
def zit {a b c:D}:∀(i:Nat) (d:D),([.s a,.s b,.s c,.n]:Pu.Env)[i]? ≠ some (B.o d):=λi d e=>by
 rcases i with _ | _ | _ | _ | i <;> simp at e
def zef {p:Addr}{W:Wd}{d:D}{Q:DW}{X:XW}(hc:z0d.run [.ptr p,d] W Q (λx W'=>∃y i,(x,y,i)∈([("NoWind","wind",0),("NoDeed","deed",1),("NoShares","shares",2)]:List (Str × Str × Nat))/\Q (.str y) W')):z1f.run [.ptr p,d] W Q X:=by
 l_idx;ac_rfl;refine z0E (z2n ?_);ac_nf;refine z0E ⟨zit,?_⟩;refine z5J (z3J (z0C (z5v rfl (z0C (x_vs ?_)))));ac_rfl;ac_nf;refine z1v ?_;refine z0d.mono _ _ _ _ _ _ (λr W' hq =>?_) (λx W' hx =>?_) hc
 .refine z2n ?_;ac_rfl;ac_nf;exact hq
 .obtain⟨y,i,hm,hq⟩:=hx;refine⟨?_,z2n ?_⟩
  .simp only[wf,uR,wC,vj] at hm ⊢
   rcases hm with ⟨a,_⟩ | ⟨a,_⟩ | ⟨a,_⟩ <;> simp[a]
  ac_rfl;ac_nf;refine zh2 hm ?_;ac_nf;refine z2n ?_;ac_rfl;ac_nf;exact hq
def z8F {p:Addr}{W:Wd}{n:Str}{v:List P}{c:D}{Q:DW}{X:XW}(hW:W p=some c)(hc:∃kvs ws pl st un,c=gL kvs ws pl st un)(q:z1C.run [.ptr p,.str n,vecs v] W Q X):z0d.run [.ptr p,.tup [.str "wind",.str n,vecs v]] W Q X:=by
 obtain⟨kvs,ws,pl,st,un,rfl⟩:=hc;refine z6U rfl ?_;ac_rfl;kl_no;kcj_m;ac_nf;k_go;refine z6T (z3i rfl hW (z0C (x_vs ?_)));ac_rfl;ac_nf;refine z0C (x_vs ?_);ac_rfl;ac_nf;refine z1v ?_;exact q
def z3p {p:Addr}{W:Wd}{n:Str}{s:P}{c:D}{Q:DW}{X:XW}(hW:W p=some c)(hc:∃kvs ws pl st un,c=gL kvs ws pl st un)(q:z1n.run [.ptr p,.str n,vec s] W Q X):z0d.run [.ptr p,.tup [.str "watch",.str n,vec s]] W Q X:=by
 obtain⟨kvs,ws,pl,st,un,rfl⟩:=hc;refine z6U rfl ?_;ac_rfl;kl_no;kcj_m;ac_nf;kt_k;cb_eq;kcj_m;ac_nf;k_go;refine z6T (z3i rfl hW (z0C (x_vs ?_)));ac_rfl;ac_nf;refine z0C (x_vs ?_);ac_rfl;ac_nf;refine z1v ?_;exact q
def z3T {p:Addr}{W:Wd}{rs:List Rs}{c:D}{Q:DW}{X:XW}(hW:W p=some c)(hc:∃kvs ws pl st un,c=gL kvs ws pl st un)(q:z2W.run [.ptr p,rcD rs] W Q X):z0d.run [.ptr p,.tup [.str "sail",rcD rs]] W Q X:=by
 obtain⟨kvs,ws,pl,st,un,rfl⟩:=hc;refine z6U rfl ?_;ac_rfl;kl_no;kcj_m;ac_nf;kt_k;cb_eq;kcj_m;ac_nf;kt_k;cb_eq;kcj_m;ac_nf;k_go;refine z6T (z3i rfl hW (z0C (x_vs ?_)));ac_rfl;ac_nf;refine z1v ?_;exact q
def z5I {p:Addr}{W:Wd}{k:Bool}{c:D}{Q:DW}{X:XW}(hW:W p=some c)(hc:∃kvs ws pl st un,c=gL kvs ws pl st un)(q:(if k then z2V else z2u).run [.ptr p] W Q X):z0d.run [.ptr p,.tup [.str (if k then "undo" else "again")]] W Q X:=by
 obtain⟨kvs,ws,pl,st,un,rfl⟩:=hc
 cases k
 all_goals
  refine z6U rfl ?_;ac_rfl;kl_no;kcj_m;ac_nf;kt_k;cb_eq;kcj_m;ac_nf;kt_k;cb_eq;kcj_m;ac_nf;kt_k;cb_eq;kcj_m;ac_nf
 .kt_k;refine z1L (z6T (z3i rfl hW (z1v ?_)));exact q
 .k_go;refine z6T (z3i rfl hW (z1v ?_));exact q
def s_do {p:Addr}{W:Wd}{h u:List Dd}{d:Dd}{Q:DW}{X:XW}(hW:W p=some (cS h u))(ok:Okd h d)(r:Rok h)(hl:h.length<=100)
  (q:∀W',Up W W' p (cS (h++[d]) u)->Q .non W'):z0I.run [.ptr p,ddD d] W Q X:=by
 have sl:(h.map ddD).length<sizeLine:=z4U (n:=100) (by rw[wc];exact hl) (by decide);have ll:=(z9Y h).2
 cases d with
 | w n v=>
  show z0I.run [.ptr p,.tup [.str "wind",.str n,vecs v]] W Q X;l_idx;ac_rfl;kl_no;gp_on;ac_nf;k_go;refine zbe rfl hW rfl ?_;gp_on;ac_nf;refine⟨z5M v,?_⟩;ac_nf;refine⟨.inr n,rfl,z4U (wX ll hl) (by decide),λW1 u1 =>?_⟩;refine z3s rfl u1.at_ rfl ?_;rw[z04,z04,z0x,z09];ac_nf;refine⟨sl,z4r (.w n v),λW2 u2 =>?_⟩;exact q _ (by rw[cS_w];exact u1.trans u2)
 | t n v s=>
  obtain⟨_,o1,o2,o3,o4⟩:=ok;show z0I.run [.ptr p,.tup [.str "watch",.str n,vec s]] W Q X;l_idx;ac_rfl;kl_no;gp_on;ac_nf;kt_k;refine z1e ?_;gp_on;ac_nf;k_go;refine z3s rfl hW rfl ?_;gp_on;ac_nf;refine o_sw ?_;ac_nf;refine zbR (.inl rfl) o1 ?_;ac_nf;refine⟨z4U (n:=12) (by rw[wc];omega) (by decide),zfL (v,s),λW1 u1 =>?_⟩;refine z3s rfl u1.at_ rfl ?_;rw[z04,z04,z0x,z09];ac_nf;refine⟨sl,z4r (.t n v s),λW2 u2 =>?_⟩;exact q _ (by rw[cS_t];exact u1.trans u2)
 | s sh=>
  obtain⟨x,o1,o2⟩:=ok;show z0I.run [.ptr p,.tup [.str "sail",shsD sh]] W Q X;l_idx;ac_rfl;kl_no;gp_on;ac_nf;kt_k;refine z1e ?_;gp_on;ac_nf;kt_k;refine z3s rfl hW rfl ?_;gp_on;ac_nf;refine⟨z4U (n:=12) (by rw[wc];have:=r.sl;have:=r.le;omega) (by decide),zer sh,λW1 u1 =>?_⟩;refine z3s rfl u1.at_ rfl ?_;rw[z04,z04,z0x,z09];ac_nf;refine⟨sl,z4r (.s sh),λW2 u2 =>?_⟩;exact q _ (by rw[cS_s];exact u1.trans u2)
def zf8 {W:Wd}{Q:DW}{X:XW}(q:∀p,W p=none->∀W',Up W W' p (cS [] [])->Q (.ptr p) W'):z0h.run [] W Q X:=by
 l_idx;exact λp hp=>q p hp _ Up.now
def at_0 {d:D}{l:List D}:atI (d::l) 0=some d:=z3x (j:=0) (v:=d) (xs:=d::l) rfl
def z3q {p:Addr}{W:Wd}{h u:List Dd}{d:Dd}{Q:DW}{X:XW}(hW:W p=some (cS h u))(ok:Okd h d)(r:Rok h)(hl:h.length<=100)
  (q:∀W',Up W W' p (cS (h++[d]) [])->Q (.ptr p) W'):z0m.run [.ptr p,ddD d] W Q X:=by
 obtain⟨k,r',e,e1,e2⟩:∃(k:Str) (r':List D),ddD d = .tup (.str k::r')/\k≠"undo"/\k≠"again":=by
  cases d with
  | w n v=>exact⟨_,_,rfl,by decide,by decide⟩
  | t n v s=>exact⟨_,_,rfl,by decide,by decide⟩
  | s sh=>exact⟨_,_,rfl,by decide,by decide⟩
 l_idx;ac_rfl;rw[e];kl_no;kmk_kw;ac_nf;refine z43 at_0 ?_;ac_nf;refine z0r ?_;refine z0o (wF e1) ?_;cb_eq;kmk_kw;ac_nf;refine z43 at_0 ?_;ac_nf;refine z0r ?_;refine z0o (wF e2) ?_;refine z1L (z0E (zei rfl hW rfl ?_));ac_nf;refine⟨λ_ z=>(by cases z),λW1 u1 =>?_⟩;refine z0E (r_ex (z3J (z0C (z5v rfl (z0C (x_vs ?_))))));ac_rfl;ac_nf;refine z1v ?_;rw[<- e];refine s_do (u:=[]) u1.at_ ok r hl λW2 u2 =>?_;exact z6T (z5v rfl (q W2 (u1.trans u2)))
def z6f {p:Addr}{W:Wd}{h u:List Dd}{d:Dd}{Q:DW}{X:XW}(hW:W p=some (cS h (u++[d])))(ok:Okd h d)(r:Rok h)(hl:h.length<=100)
  (q:∀W',Up W W' p (cS (h++[d]) u)->Q (.ptr p) W'):z0m.run [.ptr p,.tup [.str "again"]] W Q X:=by
 l_idx;ac_rfl;kl_no;kmk_kw;ac_nf;kt_k;cb_eq;kmk_kw;ac_nf;k_go;have hW':W p=some (gS (wOf h) ((rOf h).map wtD) ((sOf h).map shsD) (h.map ddD) (u.map ddD++[ddD d])):=by rw[hW,cS,wU];rfl
 refine z0E (r_ex (z3J (z0C (z5v rfl (z0C (z7y rfl hW' rfl λW1 u1=>z1v ?_))))));refine s_do (u:=u) u1.at_ ok r hl λW2 u2 =>?_;exact z6T (z5v rfl (q W2 (u1.trans u2)))
def zki {e:Ex}{lo hi:Option Ex}{ρ:Pu.Env}{Q:DK}{X:XP}(q:e.run ρ (λd=>part lo ρ (λl=>part hi ρ (λu=>slcL d l u Q) X) X) X):(Ex.slL e lo hi).run ρ Q X:=q
def zhd {j:Nat}{src:Ex}{b:SmR}{ρ:Pu.Env}{W:Wd}{N:EW}{Q:DW}{X:XW}(q:src.run (shw W ρ) (λd=>∃l,d = .lst l/\(∀x∈l,Pr x)/\forR j b N Q X l ρ W) (λx=>X x W)):(SmR.forf j src b).run ρ W N Q X:=q
def zcr {l:List D}{d:D}:cutD (l++[d]) none (some (-1))=l/\cutD (l++[d]) (some (-1)) none=[d]:=by
 unfold cutD;have e:HT.sIx (l++[d]).length 0 (some (-1))=l.length/\HT.sIx (l++[d]).length (l++[d]).length (some (-1))=l.length:=by
  simp[HT.sIx];omega
 rw[e.1,e.2];refine⟨?_,?_⟩
 .show ((l++[d]).drop 0).take (l.length - 0)=l;simp
 .show ((l++[d]).drop l.length).take ((l++[d]).length - l.length)=[d]
  simp
def z6S {p:Addr}{W:Wd}{h u:List Dd}{d:Dd}{Q:DW}{X:XW}(hW:W p=some (cS (h++[d]) u))(hk:Hs h)(hl:h.length<=100)(ul:u.length<=100)
  (q:∀p',W p'=none->∀W',Up W W' p' (cS h (u++[d]))->Q (.ptr p') W'):z0m.run [.ptr p,.tup [.str "undo"]] W Q X:=by
 l_idx;ac_rfl;kl_no;kmk_kw;ac_nf;k_go;refine z0E (z5J (z3J (z1v (zf8 λp' np W1 u1 =>?_))));ac_rfl;have pne:p≠p':=λz=>by rw[z,np] at hW;cases hW
 have hW1:W1 p=some (gS (wOf (h++[d])) ((rOf (h++[d])).map wtD) ((sOf (h++[d])).map shsD) (h.map ddD++[ddD d]) (u.map ddD)):=by rw[u1.ne p pne,hW,cS,wU];rfl
 refine z0E (zhd ?_);rw[z04,z04,z04,z04,z0x,z2x hW1,z09,z2x u1.at_,z2w];refine zki ?_;ac_nf;refine o_ss ?_;ac_nf;refine⟨_,rfl,?_⟩;rw[zcr.1];refine⟨_,rfl,λx hx =>?_,?_⟩
 .obtain⟨a,_,rfl⟩:=wP.mp hx;exact z4r a
 refine z7n (f:=ddD) (λdn ρ W'=>∃b,Up W W' p' (cS dn [])/\ρ=[.s (.ptr p),.s (.tup [.str "undo"]),.s (.ptr p'),b]) ⟨_,u1,rfl⟩ ?_ ?_
 .rintro dn a rest ρ W' e ⟨b,up,rfl⟩;have k1:Hs (dn++[a]):=by
   rw[e] at hk;have:dn++a::rest=(dn++[a])++rest.reverse.reverse:=by simp
   rw[this] at hk;exact hk.pre
  ac_rfl;refine r_ex (z3J (z0C (z5v rfl (z0C (x_vs ?_)))));ac_rfl;ac_nf;refine z1v ?_;have dl:dn.length<=100:=by
   k_dec;rw[wz] at this;omega
  exact s_do up.at_ k1.inv.2 k1.inv.1.rok dl λW2 u2=>⟨_,up.trans u2,rfl⟩
 .rintro ρ W' ⟨b,up,rfl⟩;have hW2:W' p=some (gS (wOf (h++[d])) ((rOf (h++[d])).map wtD) ((sOf (h++[d])).map shsD) (h.map ddD++[ddD d]) (u.map ddD)):=by rw[up.ne p pne,hW,cS,wU];rfl
  refine z0E (zei rfl up.at_ rfl ?_);rw[z04,z04,z04,z04,z0x,z2x hW2,z09,z2x up.at_];ac_nf;refine o_su ?_;ac_nf;refine o_ss ?_;ac_nf;rw[zcr.2];refine⟨?_,λx hx =>?_,λW2 u2 =>?_⟩
  .rw[wc];exact z4G (by show u.length+1<=1000;omega)
  .rcases ve.mp hx with z | z
   .obtain⟨a,_,rfl⟩:=wP.mp z;exact z4r a
   .rw[wZ.mp z];exact z4r d
  .refine z6T (z5v rfl (q p' np W2 ?_));rw[cS,wU];exact up.trans u2
structure Rw (rs:List Rs):Prop where
 up:rs.Pairwise λa b=>a.1<b.1
 each:∀r∈rs,0<=r.1/\0<r.2.1/\0<r.2.2
 bt:Rb rs
 len:rs.length<=13
theorem z9M {n:Int}:∀{rs:List Rs}{a:Int},(∀r∈rs,a<r.1/\0<r.2.1/\0<r.2.2)->rs.Pairwise (λa b=>a.1<b.1)->z3I n a rs=(rs.all (λr=>decide (r.1<n)) && rs.all λr=>decide (Int.gcd r.2.1 r.2.2=1))
 | [],_,_,_=>rfl
 | r::rs,a,h,hp=>by
  have h0:=h r ww;rw[vD] at hp;have ih:=z9M (n:=n) (rs:=rs) (a:=r.1) (λx hx=>⟨hp.1 x hx,(h x (we _ hx)).2⟩) hp.2;rw[List.all_cons,List.all_cons];show (decide (a<r.1) && (decide (r.1<n) && (decide (0<r.2.1) && (decide (0<r.2.2) && (decide (Int.gcd r.2.1 r.2.2=1) && z3I n r.1 rs)))))=_;rw[ih,wu h0.1,wu h0.2.1,wu h0.2.2]
  cases decide (r.1<n) <;> cases decide (Int.gcd r.2.1 r.2.2=1) <;> simp
def Rw.good {n:Nat}{rs:List Rs}(h:Rw rs):z3I (n:Int) (-1) rs=(rs.all (λr=>decide (r.1<n)) && rs.all λr=>decide (Int.gcd r.2.1 r.2.2=1)):=z9M (λr hr=>⟨by have:=(h.each r hr).1;omega,(h.each r hr).2⟩) h.up
def zcl {l:List D}:deq (.lst l) (.lst [])=l.isEmpty:=by
 cases l with
 | nil=>rfl
 | cons d l=>rfl
def zbP {l:List D}{Q:DK}{X:XP}(a:Da 60 (.lst l))(q:Q (.bl (!l.isEmpty))):pNe.run [.lst l,.lst []] Q X:=⟨a,Da.lst.mpr λ_ h=>(by cases h),by rw[zcl];exact q⟩
def zbQ {l:List D}{Q:DK}{X:XP}(a:Da 60 (.lst l))(q:Q (.bl l.isEmpty)):pEq.run [.lst l,.lst []] Q X:=⟨a,Da.lst.mpr λ_ h=>(by cases h),by rw[zcl];exact q⟩
def zkn (r:Rs){n:Nat}:Da (n+2) (rsD r):=Da.tup.mpr λe he=>by
 w_fin
 rcases he with rfl | rfl
 .exact Da.int
 .exact Da.vec (r.2.1,r.2.2)
def zeO (rs:List Rs):Da 60 (.lst (rs.map rsD)):=Da.lst.mpr λd hd=>by
 obtain⟨r,_,rfl⟩:=wP.mp hd;exact zkn r
def zko {h:List Dd}{d:Dd}(ok:Okd h d):Da 59 (ddD d):=by
 have ss:∀{x:Str},PyData.strOk x=true->Da 58 (.str x):=λh=>Da.str.mpr h;refine(match d,ok with
  | .w n v,ok=>Da.tup.mpr λe he =>?_
  | .t n v s,ok=>Da.tup.mpr λe he =>?_
  | .s sh,ok=>Da.tup.mpr λe he =>?_)
 .w_fin
  rcases he with rfl | rfl | rfl
  .exact ss (by decide +kernel)
  .exact ss ok.1.ok
  .exact Da.vecs v
 .w_fin
  rcases he with rfl | rfl | rfl
  .exact ss (by decide +kernel)
  .exact ss ok.1.ok
  .exact Da.vec s
 .w_fin
  rcases he with rfl | rfl
  .exact ss (by decide +kernel)
  .exact zeN sh
def da_h {h:List Dd}(k:Hs h){l:List Dd}(hl:∀d∈l,d∈h):Da 60 (.lst (l.map ddD)):=Da.lst.mpr λe he=>by
 obtain⟨d,hd,rfl⟩:=wP.mp he;obtain⟨_,_,ok⟩:=k.mem d (hl d hd);exact zko ok
def emp {α β:Type}{f:α->β}{l:List α}:(l.map f).isEmpty=l.isEmpty:=by cases l <;> rfl
def za5 {h u:List Dd}{n:Str}{v:List P}{Q:DK}{X:XP}(q:Q .non):z0i.run [dS (wOf h) ((rOf h).map wtD) ((sOf h).map shsD) (h.map ddD) (u.map ddD),.tup [.str "wind",.str n,vecs v]] Q X:=by
 walk_at "fn";ac_nf;kt_k;ac_nf;kt_k;ac_nf;kt_k;ac_nf;kt_k;ac_nf;kt_k;ac_nf;kt_k;ac_nf;exact q
def zcS {h u:List Dd}{k:Bool}{Q:DK}{X:XP}(hk:Hs (h++u.reverse))(q1:(if k then h else u)=[]->Q (.str "deed"))(q2:(if k then h else u)≠[]->Q .non):z0i.run [dS (wOf h) ((rOf h).map wtD) ((sOf h).map shsD) (h.map ddD) (u.map ddD),.tup [.str (if k then "undo" else "again")]] Q X:=by
 have d1:Da 60 (.lst (h.map ddD)):=da_h hk λd hd=>ue _ hd;have d2:Da 60 (.lst (u.map ddD)):=da_h hk λd hd=>w9 _ (List.mem_reverse.mpr hd)
 cases k with
 | true=>
  walk_at "fn";ac_nf;k_go;ac_nf;refine o_ss ?_;ac_nf;refine zbQ d1 ?_;rw[emp];refine t_bl (λe =>?_) (λe =>?_)
  .ac_nf;exact q1 (List.isEmpty_iff.mp e)
  .have ne:h≠[]:=λz=>by rw[z] at e;cases e
   ac_nf;kt_k;ac_nf;kt_k;ac_nf;kt_k;ac_nf;kt_k;ac_nf;kt_k;ac_nf;exact q2 ne
 | false=>
  walk_at "fn";ac_nf;kt_k;ac_nf;k_go;ac_nf;refine o_su ?_;ac_nf;refine zbQ d2 ?_;rw[emp];refine t_bl (λe =>?_) (λe =>?_)
  .ac_nf;exact q1 (List.isEmpty_iff.mp e)
  .have ne:u≠[]:=λz=>by rw[z] at e;cases e
   ac_nf;kt_k;ac_nf;kt_k;ac_nf;kt_k;ac_nf;kt_k;ac_nf;exact q2 ne
def z8E {h u:List Dd}{n:Str}{s:P}{Q:DK}{X:XP}(q1:valD (wOf h) (.inr n)=none->Q (.str "wind"))(q2:(valD (wOf h) (.inr n)).isSome=true->(rOf h).length=12->Q (.str "deed"))(q3:(valD (wOf h) (.inr n)).isSome=true->(rOf h).length≠12->Q .non):z0i.run [dS (wOf h) ((rOf h).map wtD) ((sOf h).map shsD) (h.map ddD) (u.map ddD),.tup [.str "watch",.str n,vec s]] Q X:=by
 walk_at "fn";ac_nf;kt_k;ac_nf;kt_k;ac_nf;k_go;ac_nf;refine o_sw (z7c ?_)
 cases hv:valD (wOf h) (.inr n) with
 | none=>
  refine z1J rfl ?_;ac_nf;exact q1 hv
 | some w=>
  rw[hv] at q2 q3;refine z0o rfl ?_;ac_nf;k_go;ac_nf;refine o_sr ?_;ac_nf;rw[wc];refine z1p (λh12 =>?_) (λh12 =>?_)
  .ac_nf;exact q2 rfl (by omega)
  .ac_nf;kt_k;ac_nf;kt_k;ac_nf;exact q3 rfl (by omega)
def zhc {rs:List Rs}(h:∀r∈rs,0<=r.1):rs.map rsD=(rs.map z64).map shD:=by
 rw[w5];refine uN λr hr =>?_;have:=h r hr;show D.tup [.int r.1,_]=D.tup [.int ((r.1.toNat:Nat):Int),_];rw[show ((r.1.toNat:Nat):Int)=r.1 by omega]
 rfl
def za6 {h u:List Dd}{rs:List Rs}{Q:DK}{X:XP}(rk:Rok h)(hr:Rw rs)(q1:(rOf h).length=(sOf h).length->Q (.str "deed"))(q2:∀x,(rOf h)[(sOf h).length]? = some x->okR x.1.length rs=false->Q (.str "shares"))(q3:∀x,(rOf h)[(sOf h).length]? = some x->okR x.1.length rs=true->Q .non):z0i.run [dS (wOf h) ((rOf h).map wtD) ((sOf h).map shsD) (h.map ddD) (u.map ddD),.tup [.str "sail",rcD rs]] Q X:=by
 walk_at "fn";ac_nf;kt_k;ac_nf;kt_k;ac_nf;kt_k;ac_nf;kt_k;ac_nf;k_go;ac_nf;refine o_sr ?_;ac_nf;refine o_sl ?_;ac_nf;rw[wc,wc];refine z1p (λh0 =>?_) (λh0 =>?_)
 .ac_nf;exact q1 (by omega)
 have hlt:(sOf h).length<(rOf h).length:=by have:=rk.sl;omega
 have hx:(rOf h)[(sOf h).length]? = some (rOf h)[(sOf h).length]:=by simp[hlt]
 generalize (rOf h)[(sOf h).length]=x at hx;ac_nf;k_go;ac_nf;refine o_sr ?_;ac_nf;refine o_sl ?_;ac_nf;rw[wc];refine z43 (d:=wtD x) (z3x (by rw[wR,hx];rfl)) ?_;ac_nf;rw[wc];unfold rcD;ac_nf;refine⟨by rw[wc];exact szl (by have:=hr.len;omega),?_⟩;have good:=hr.good (n:=x.1.length);have ok:okR x.1.length rs=((rs.all (λr=>decide (r.1<x.1.length)) && rs.all λr=>decide (Int.gcd r.2.1 r.2.2=1)) && oneR rs):=by unfold okR;rw[good]
 refine z22 (f:=rsD) (g:=rsD) (p:=λr=>decide ((x.1.length:Int)<=r.1)) (λr _ K k1 k2 =>?_) ?_
 .ac_nf;sr_in
  .ac_nf;exact k1 (wu h1)
  .exact k2 (wF h1)
 ac_nf;refine zbP (zeO _) ?_;rw[emp];refine t_bl (λe =>?_) (λe =>?_)
 .ac_nf;refine q2 x hx ?_;have:rs.all (λr=>decide (r.1<x.1.length))=false:=by
   rw[Bool.eq_false_iff];intro z;rw[vM] at z;rw[uG,List.isEmpty_eq_false_iff] at e;obtain⟨r,hr'⟩:=List.exists_mem_of_ne_nil _ e;obtain⟨m1,m2⟩:=vY.mp hr';have:=vP (z r m1);have:=vP m2;omega
  rw[ok,this]
  rfl
 have a1:rs.all (λr=>decide (r.1<x.1.length))=true:=by
  rw[vM];intro r hr';refine wu ?_;rw[Bool.not_eq_false',List.isEmpty_iff,List.filter_eq_nil_iff] at e;have:=e r hr';rw[vI] at this;omega
 rw[a1,uU] at ok;ac_nf;rw[zhc λr hr'=>(hr.each r hr').1];have sz:∀s∈rs.map z64,Sz s:=λs hs=>by
  obtain⟨r,hr',rfl⟩:=wP.mp hs;exact⟨(hr.each r hr').2.1,(hr.each r hr').2.2,(hr.bt r hr').1.le,(hr.bt r hr').2.le⟩
 have B0:0<Bq (rs.map z64).reverse:=Bq.pos λs hs=>sz s (List.mem_reverse.mp hs);refine z6e (by rw[wc];have:=hr.len;omega) sz λw t hp =>?_;ac_nf;refine zii (l:=[.int w,.int t]) (r:=[.int 1,.int 1]) (Da.vec (w,t)) (Da.vec (1,1)) ?_;have e2:deq (.tup [.int w,.int t]) (.tup [.int 1,.int 1])=oneR rs:=by
  rw[show deq (.tup [.int w,.int t]) (.tup [.int 1,.int 1])=decide ((w,t)=((1:Int),(1:Int))) from zck (w,t) (1,1)];unfold oneR;refine z4Z ⟨λh =>?_,λh =>?_⟩
  .obtain⟨rfl,rfl⟩:=Prod.mk.inj h;have:=hp.cx;omega
  .rw[h] at hp;obtain⟨rfl,_,rfl⟩:=hp.eq B0 (⟨by decide,by decide,by rw[uE],by simp⟩:Pl (Bq (rs.map z64).reverse) 0 (Bq (rs.map z64).reverse) 1 0 1)
   rfl
 rw[e2];rw[<- zhc λr hr'=>(hr.each r hr').1];refine t_bl (λe =>?_) (λe =>?_)
 .ac_nf;refine q2 x hx ?_;rw[uG] at e;rw[ok,e,Bool.and_false]
 rw[Bool.not_eq_false'] at e;rw[e,Bool.and_true] at ok;ac_nf;refine⟨by rw[wc];exact szl (by have:=hr.len;omega),?_⟩;refine z22 (f:=rsD) (g:=rsD) (p:=λr=>decide (¬ Int.gcd r.2.1 r.2.2=1)) (λr hr' K k1 k2 =>?_) ?_
 .have h1:=hr.each r hr';ac_nf;rw[show (Int.gcd r.2.1 r.2.2:Nat)=Nat.gcd r.2.1.toNat r.2.2.toNat by simp[Int.gcd];congr 1 <;> omega] at k1 k2;rw[show r.2.1=((r.2.1.toNat:Nat):Int) by omega,show r.2.2=((r.2.2.toNat:Nat):Int) by omega];refine z4k ?_;ac_nf;refine z2j (z1p (λh2 =>?_) (λh2 =>?_))
  .exact k2 (wF (λz=>z (by omega)))
  .ac_nf;exact k1 (wu (by omega))
 ac_nf;refine zbP (zeO _) ?_;rw[emp];refine t_bl (λe =>?_) (λe =>?_)
 .ac_nf;refine q2 x hx ?_;rw[ok,Bool.eq_false_iff];intro z;rw[vM] at z;rw[uG,List.isEmpty_eq_false_iff] at e;obtain⟨r,hr'⟩:=List.exists_mem_of_ne_nil _ e;obtain⟨m1,m2⟩:=vY.mp hr';exact vP m2 (vP (z r m1))
 .ac_nf;refine q3 x hx ?_;rw[ok,vM];intro r hr';rw[Bool.not_eq_false',List.isEmpty_iff,List.filter_eq_nil_iff] at e;have:=e r hr';rw[vI,Classical.not_not] at this;exact wu this
def zix (c:Int):∃m:Int,0<=m/\∀(Q:DK) (X:XP),Q (.int m)->z05.run [.int c,.int 67] Q X:=by
 refine⟨((c % 2305843009213693951+31*67+7)*48271 % 2305843009213693951)*((c % 2305843009213693951+31*67+7)*48271 % 2305843009213693951) % 2305843009213693951*69621 % 2305843009213693951 / 7,by omega,λQ X q =>?_⟩;have b1:Bt 700 (c % 2305843009213693951+31*67+7):=z0B (n:=700) (by omega);walk_at "fn";ac_nf;have h1:0<=(c % 2305843009213693951+31*67+7)*48271 % 2305843009213693951/\(c % 2305843009213693951+31*67+7)*48271 % 2305843009213693951<2305843009213693951:=by omega
 generalize (c % 2305843009213693951+31*67+7)*48271 % 2305843009213693951=z at*;have bz:Bt 70 z:=z0B (by omega);ac_nf;have h2:0<=z*z % 2305843009213693951/\z*z % 2305843009213693951<2305843009213693951:=by omega
 generalize z*z % 2305843009213693951=y at*;have by_:Bt 70 y:=z0B (by omega);ac_nf;exact q
def Bt.mul2 {n:Nat}{x:Int}(h:Bt n x):Bt (n+1) (x*2):=by rw[show x*2=x+x by omega];exact Bt.le (Bt.add h h) (by omega)
def zju {n:Nat}{sh:List Sh}(h:WOk n sh)(hb:∀s∈sh,Bt 24 s.2.1/\Bt 24 s.2.2)(hn:n<=12):Rw (sh.map toR):=by
 refine⟨?_,λr hr =>?_,λr hr =>?_,?_⟩
 .rw[List.pairwise_map];exact h.shs.up.imp λ{a b} z=>by show ((a.1:Nat):Int)<(b.1:Nat);omega
 .obtain⟨s,hs,rfl⟩:=wP.mp hr;have:=(h.shs.each s hs).1;exact⟨by show (0:Int)<=(s.1:Nat);omega,this.top,this.bot⟩
 .obtain⟨s,hs,rfl⟩:=wP.mp hr;exact⟨(hb s hs).1.le,(hb s hs).2.le⟩
 .rw[wc];have:=z4H h.shs.up λs hs=>(h.shs.each s hs).2;omega
def Rw.tail {r:Rs}{rs:List Rs}(h:Rw (r::rs)):Rw rs:=⟨(vD.mp h.up).2,λx hx=>h.each x (we _ hx),λx hx=>h.bt x (we _ hx),by have:=h.len;rw[wL] at this;omega⟩
def zh4 {h u:List Dd}{c:Int}{Q:DK}{X:XP}(rk:Rok h)(q1:∀n v,Wn n->GW v->Q (.tup [.str "wind",.str n,vecs v]))(q2:∀n s,Wn n->inV s=true->Q (.tup [.str "watch",.str n,vec s]))(q3:∀rs,Rw rs->Q (.tup [.str "sail",rcD rs]))(q4:∀k:Bool,Q (.tup [.str (if k then "undo" else "again")])):z1g.run [dS (wOf h) ((rOf h).map wtD) ((sOf h).map shsD) (h.map ddD) (u.map ddD),.int c] Q X:=by
 walk_at "fn";ac_nf;refine z1P (by omega) (by omega) λm m0 m1 =>?_;ac_nf;have w0:0<=m % 12/\m % 12<12:=by omega
 generalize m % 12=way at w0;refine z1P (by omega) (by omega) λm2 m20 m21 =>?_;ac_nf;refine zeb (by omega) (by omega) λn hn =>?_;k_end;ac_rfl;refine z7M (λρ'=>∃n,Wn n/\ρ'=[.s (dS (wOf h) ((rOf h).map wtD) ((sOf h).map shsD) (h.map ddD) (u.map ddD)),.s (.int c),.s (.int way),.s (.str n),.n,.n,.n,.n]) ?_ ?_
 .ac_nf;refine z1P (by omega) (by omega) λm3 _ _ =>?_;ac_nf;gn_on
  .ac_nf;refine zb7 λx hx =>?_;ac_nf;exact⟨x,hx,rfl⟩
  .ac_nf;exact⟨n,hn,rfl⟩
 clear hn n;rintro ρ ⟨n,hn,rfl⟩;ac_nf;gn_on
 .ac_nf;refine z7J λv hv =>?_;ac_nf;exact q1 n v hn hv
 ac_nf;gn_on
 .ac_nf;refine z1P (by omega) (by omega) λm3 _ _ =>?_;ac_nf;refine menu (ns:=[0,4,10 ^ 9]) (by omega) (by show m3 % 3<3;omega) λk hk =>?_;have hk':0<=k/\k<=1000000000:=by
   simp only[wf,wC,vj] at hk;omega
  ac_nf;refine ze9 (by omega) (by omega) hk'.1 (by omega) λx y x1 x2 y1 y2 =>?_;ac_nf;refine z1P (by omega) (by omega) λm4 _ _ =>?_;ac_nf;gn_on
  .ac_nf;rw[pow9];refine zeg (by omega) (by omega) λx y x1 x2 y1 y2 =>?_;ac_nf;exact q2 n (x,y) hn (z9L x1 x2 y1 y2)
  .ac_nf;exact q2 n (x,y) hn (z9L (by omega) (by omega) (by omega) (by omega))
 ac_nf;gn_on
 .refine z7M (λρ'=>∃k:Int,0<=k/\k<3/\ρ'=[.s (dS (wOf h) ((rOf h).map wtD) ((sOf h).map shsD) (h.map ddD) (u.map ddD)),.s (.int c),.s (.int way),.s (.str n),.n,.s (.int (1+k)),.n,.n]) ?_ ?_
  .ac_nf;refine z1P (by omega) (by omega) λm3 _ _ =>?_;ac_nf;exact⟨m3 % 3,by omega,by omega,rfl⟩
  rintro ρ ⟨k,k0,k1,rfl⟩;refine z7M (λρ'=>∃many:Nat,0<many/\many<=12/\ρ'=[.s (dS (wOf h) ((rOf h).map wtD) ((sOf h).map shsD) (h.map ddD) (u.map ddD)),.s (.int c),.s (.int way),.s (.str n),.n,.s (.int (many:Int)),.n,.n]) ?_ ?_
  .ac_nf;refine o_sr ?_;ac_nf;refine o_sl ?_;ac_nf;rw[wc,wc];sr_in
   .have hlt:(sOf h).length<(rOf h).length:=by omega
    have hx:(rOf h)[(sOf h).length]? = some (rOf h)[(sOf h).length]:=by simp[hlt]
    generalize (rOf h)[(sOf h).length]=x at hx;have wx:=rk.wt x (wH hx);ac_nf;refine o_sr ?_;ac_nf;refine o_sl ?_;ac_nf;rw[wc];refine z43 (d:=wtD x) (z3x (by rw[wR,hx];rfl)) ?_;ac_nf;rw[wc];ac_nf;exact⟨x.1.length,uL.mpr wx.ne,wx.len,rfl⟩
   .ac_nf;exact⟨(1+k).toNat,by omega,by omega,by rw[show (((1+k).toNat:Nat):Int)=1+k by omega]⟩
  rintro ρ ⟨many,h0,h12,rfl⟩;ac_nf;refine z6c h0 h12 λsh wk hb =>?_;have rw0:=zju wk hb h12;obtain⟨mm,mm0,hmix⟩:=zix c;rw[show shsD sh = .tup ((sh.map toR).map rsD) by rw[<- z4D]];have rl:(sh.map toR).length<=12:=by
   rw[wc];have:=z4H wk.shs.up λs hs=>(wk.shs.each s hs).2;omega
  have ne:sh.map toR≠[]:=λz=>wk.ne (List.map_eq_nil_iff.mp z);have lt:∀r∈sh.map toR,r.1<many/\Bt 24 r.2.1/\Bt 24 r.2.2:=λr hr=>by
   obtain⟨s,hs,rfl⟩:=wP.mp hr;exact⟨by show ((s.1:Nat):Int)<many;have:=(wk.shs.each s hs).2;omega,hb s hs⟩
  generalize sh.map toR=rs at*;have pr:∀rs:List Rs,noL (.tup (rs.map rsD))=true/\noD (.tup (rs.map rsD))=true:=λrs=>⟨z3C λd hd=>by(obtain⟨r,_,rfl⟩:=wP.mp hd;rfl),z3D λd hd=>by(obtain⟨r,_,rfl⟩:=wP.mp hd;rfl)⟩
  refine z2P (Safe.of_noL (pr _).1 (pr _).2 _) ?_;ac_rfl;have m7:0<=mm % 7/\mm % 7<7:=by omega
  refine z7M (λρ'=>∃rs',Rw rs'/\(mm % 7=0\/rs'=rs)/\ρ'=[.s (dS (wOf h) ((rOf h).map wtD) ((sOf h).map shsD) (h.map ddD) (u.map ddD)),.s (.int c),.s (.int way),.s (.str n),.n,.s (.int (many:Int)),.s (.tup (rs'.map rsD)),.n]) ?_ ?_
  .ac_nf;refine hmix _ _ ?_;ac_nf;refine z1p (λz =>?_) (λz =>?_)
   .ac_nf;refine zeA (z4G (by rw[wc];show rs.length+1<=1000;omega)) ?_;rw[show (rs.map rsD++[D.tup [.int (many:Int),.tup [.int 1,.int 2]]])=(rs++[((many:Int),1,2)]).map rsD by rw[wU];rfl];refine z2P (Safe.of_noL (pr _).1 (pr _).2 _) ?_;ac_rfl;refine⟨_,⟨?_,λr hr =>?_,λr hr =>?_,?_⟩,.inl z,rfl⟩
    .rw[List.pairwise_append];exact⟨rw0.up,List.pairwise_singleton _ _,λa ha b hb'=>by rw[wZ.mp hb'];exact(lt a ha).1⟩
    .rcases ve.mp hr with y | y
     .exact rw0.each r y
     .rw[wZ.mp y];exact⟨by show (0:Int)<=many;omega,by show (0:Int)<1;decide,by show (0:Int)<2;decide⟩
    .rcases ve.mp hr with y | y
     .exact rw0.bt r y
     .rw[wZ.mp y];exact⟨z0B (by show (1:Int).natAbs<_;decide),z0B (by show (2:Int).natAbs<_;decide)⟩
    .rw[wz];show rs.length+1<=13;omega
   .ac_nf;exact⟨rs,rw0,.inr rfl,rfl⟩
  rintro ρ ⟨rs1,r1,c1,rfl⟩;refine z7M (λρ'=>∃rs',Rw rs'/\(mm % 7=0\/mm % 7=1\/rs'=rs)/\ρ'=[.s (dS (wOf h) ((rOf h).map wtD) ((sOf h).map shsD) (h.map ddD) (u.map ddD)),.s (.int c),.s (.int way),.s (.str n),.n,.s (.int (many:Int)),.s (.tup (rs'.map rsD)),.n]) ?_ ?_
  .ac_nf;refine hmix _ _ ?_;ac_nf;refine z1p (λz =>?_) (λz =>?_)
   .obtain rfl:rs1=rs:=c1.resolve_left (by omega);obtain⟨r,rs2,rfl⟩:∃r rs2,rs1=r::rs2:=by
     cases rs1 with
     | nil=>exact(ne rfl).elim
     | cons r rs2=>exact⟨r,rs2,rfl⟩
    ac_nf;rw[show cutD (rsD r::rs2.map rsD) (some 1) none=rs2.map rsD from (z8g rsD (n:=1) (l:=r::rs2) (by simp)).2];exact⟨rs2,r1.tail,.inr (.inl z),rfl⟩
   .ac_nf;exact⟨rs1,r1,c1.imp id .inr,rfl⟩
  rintro ρ ⟨rs1,r1,c1,rfl⟩;refine z7M (λρ'=>∃rs' x7,Rw rs'/\ρ'=[.s (dS (wOf h) ((rOf h).map wtD) ((sOf h).map shsD) (h.map ddD) (u.map ddD)),.s (.int c),.s (.int way),.s (.str n),.n,.s (.int (many:Int)),.s (.tup (rs'.map rsD)),x7]) ?_ ?_
  .ac_nf;refine hmix _ _ ?_;ac_nf;refine z1p (λz =>?_) (λz =>?_)
   .obtain rfl:rs1=rs:=(c1.resolve_left (by omega)).resolve_left (by omega);obtain⟨r,rs2,rfl⟩:∃r rs2,rs1=r::rs2:=by
     cases rs1 with
     | nil=>exact(ne rfl).elim
     | cons r rs2=>exact⟨r,rs2,rfl⟩
    have b0:=lt r ww;have e0:=r1.each r ww;have bb1:=b0.2.1;have bb2:=b0.2.2;rw[wA];ac_nf;refine z43 at_0 ?_;ac_nf;refine z43 at_0 ?_;ac_nf;refine z43 at_0 ?_;ac_nf;rw[show cutD (rsD r::rs2.map rsD) (some 1) none=rs2.map rsD from (z8g rsD (n:=1) (l:=r::rs2) (by simp)).2];refine zeA (z4G (by rw[wc];have:=r1.len;rw[wL] at this;show 1+rs2.length<=1000;omega)) ?_;rw[show ([D.tup [.int r.1,.tup [.int (r.2.1*2),.int (r.2.2*2)]]]++rs2.map rsD)=((r.1,r.2.1*2,r.2.2*2)::rs2).map rsD from rfl];refine z2P (Safe.of_noL (pr _).1 (pr _).2 _) ?_;ac_rfl;refine⟨(r.1,r.2.1*2,r.2.2*2)::rs2,_,⟨?_,λx hx =>?_,λx hx =>?_,?_⟩,rfl⟩
    .have:=vD.mp r1.up;exact vD.mpr this
    .rcases wf.mp hx with y | y
     .rw[y];exact⟨e0.1,by show 0<r.2.1*2;omega,by show 0<r.2.2*2;omega⟩
     .exact r1.each x (we _ y)
    .rcases wf.mp hx with y | y
     .rw[y];exact⟨Pu.Bt.mul2 b0.2.1,Pu.Bt.mul2 b0.2.2⟩
     .exact r1.bt x (we _ y)
    .exact r1.len
   .ac_nf;exact⟨rs1,_,r1,rfl⟩
  rintro ρ ⟨rs1,x7,r1,rfl⟩;ac_nf;exact q3 rs1 r1
 .ac_nf;refine ix8 (by omega) (by show _<(4:Int);omega) λd hd =>?_;simp only[wf,wC,vj] at hd
  rcases hd with rfl | rfl | rfl | rfl
  .exact q4 true
  .exact q4 true
  .exact q4 false
  .exact q4 false
abbrev smF:=z0z
def Sm1 (n:Nat)(d:D):Prop:=∀(Q:DK) (X:XP),Q (.bl true)->(smF n).run [d,d] Q X
def zaW {n:Nat}{i:Int}:Sm1 (n+1) (.int i):=λQ X q=>by
 walk_at "fn";ac_nf;w_end;ac_nf;refine z0o rfl ?_;ac_nf;w_end;ac_nf;w_end;ac_nf;show tst (.bl _) _ _;w_end;ac_nf;rw[wu rfl];exact q
def zgN {n:Nat}{x:Str}:Sm1 (n+1) (.str x):=λQ X q=>by
 walk_at "fn";ac_nf;w_end;ac_nf;refine z0o rfl ?_;ac_nf;refine z1J (by decide) ?_;ac_nf;refine z1J (by decide) ?_;ac_nf;refine z0r ?_;rw[wu rfl];exact q
def z58 {n:Nat}{l:List D}(hz:l.length<=1000)(hi:∀d∈l,Sm1 n d):Sm1 (n+1) (.tup l):=λQ X q=>by
 walk_at "fn";ac_nf;refine z1J (by decide) ?_;ac_nf;w_end;ac_nf;refine z2j (zcI rfl ?_);ac_nf;k_accD;refine z1D (f:=λ(k:Nat)=>D.int (k:Int)) (λdn ρ=>∃b:B,ρ=[.s (.tup l),.s (.tup l),b]) ⟨_,rfl⟩ ?_ ?_
 .rintro dn k rest ρ e ⟨b,rfl⟩;have hk:k<l.length:=by
   have:=congrArg (λl=>k∈l) e;simp only[vz,ve,wf,true_or,or_true,eq_iff_iff,iff_true] at this;kw_lk
  o_rec;ac_rfl;ac_nf;rw[z3x (wJ hk)];refine z2B ?_;ac_nf;rw[z3x (wJ hk)];refine z2B ?_;refine hi _ (vV hk) _ _ ?_;ac_nf;refine z0o rfl ?_;ac_nf;exact⟨_,rfl⟩
 .rintro ρ ⟨b,rfl⟩;ac_nf;exact q
def zaV {n:Nat}{vs:List (Int × Int)}(h:vs.length<=1000):Sm1 (n+3) (vecs vs):=z58 (by rw[wc];exact h) λd hd=>by
 obtain⟨p,_,rfl⟩:=wP.mp hd;exact z58 (by show 2<=1000;decide) λe he=>by
  w_fin
  rcases he with rfl | rfl <;> exact zaW
def zgO {n:Nat}:Sm1 (n+1) .non:=λQ X q=>by
 walk_at "fn";ac_nf;refine z1J (by decide) ?_;ac_nf;exact q
def z6x {d:D}{Q:DK}{X:XP}(h:Sm1 5 d)(q:Q (.bl true)):z1m.run [d,d] Q X:=h Q X q
def ze6 {l:List (List P × P)}(hl:l.length<=12)(h:∀x∈l,Wt x):Sm1 5 (.tup (l.map wtD)):=z58 (by rw[wc];omega) λd hd=>by
 obtain⟨x,hx,rfl⟩:=wP.mp hd;refine z58 (by show 2<=1000;decide) λe he =>?_;w_fin
 rcases he with rfl | rfl
 .exact zaV (by have:=(h x hx).len;omega)
 .refine z58 (by show 2<=1000;decide) λe he =>?_;w_fin
  rcases he with rfl | rfl <;> exact zaW
def ze7 {n:Nat}(E:Tr):Sm1 (n+2) (lowD E):=z58 (by show 3<=1000;decide) λe he=>by
 w_fin
 rcases he with rfl | rfl | rfl <;> exact zaW
def zdH {kvs:List (Key × D)}{ss:List Str}(h:kvs.map (·.1)=ss.map Sum.inr):(kvs.map λp=>kD p.1)=ss.map .str:=by
 have:(kvs.map λp=>kD p.1)=(kvs.map (·.1)).map kD:=by rw[w5];rfl
 rw[this,h,w5]
 rfl
theorem zaz {α β:Type}{f:α->D}{g:β->D}:∀{l:List α}{m:List β},((l.map f).zip (m.map g)).map (λp=>D.tup [p.1,p.2])=(l.zip m).map λp=>D.tup [f p.1,g p.2]
 | [],_=>by simp
 | _::_,[]=>by simp
 | a::l,b::m=>by
  have:=zaz (f:=f) (g:=g) (l:=l) (m:=m);simp only[wA,wS];rw[this]
def zig {α β:Type}{f:α->D}{g:β->D}{l:List α}{m:List β}{Q:DK}{X:XP}(q:Q (.lst ((l.zip m).map λp =>.tup [f p.1,g p.2]))):za9.run [.lst (l.map f),.lst (m.map g)] Q X:=by
 rw[<- zaz] at q;exact q
def zjk {E:Tr}{wd:List P}{sx sy u0 v0 t0 a c w u' v' t':Int}{sh:List Sh}(hE:0<E.2.2)(hB:0<Bq sh.reverse)(h:Pl E.1 E.2.1 E.2.2 u0 v0 t0)(k:Pl (Xq (wx wd) sh.reverse) (Xq (wy wd) sh.reverse) (Bq sh.reverse) a c w)(s:Pl (u0*w+a*t0+sx*(t0*w)) (v0*w+c*t0+sy*(t0*w)) (t0*w) u' v' t'):
  Pl (wtp E ((wd,sx,sy),sh)).1 (wtp E ((wd,sx,sy),sh)).2.1 (wtp E ((wd,sx,sy),sh)).2.2 u' v' t':=by
 have htw:t0*w≠0:=by have:=v7 h.pos k.pos;omega
 have go:∀{p u a x x' sx:Int},p*(t0*w)=(u*w+a*t0+sx*(t0*w))*t'->u*E.2.2=x*t0->a*Bq sh.reverse=x'*w->p*(E.2.2*Bq sh.reverse)=(x*Bq sh.reverse+x'*E.2.2+sx*(E.2.2*Bq sh.reverse))*t':=λ{p u a x x' sx} e1 e2 e3=>by
  apply w6 htw
  calc p*(E.2.2*Bq sh.reverse)*(t0*w)=(p*(t0*w))*(E.2.2*Bq sh.reverse):=by grind
   _=((u*E.2.2)*(w*Bq sh.reverse)+(a*Bq sh.reverse)*(t0*E.2.2)+sx*(t0*w)*(E.2.2*Bq sh.reverse))*t':=by rw[e1];grind
   _=(x*Bq sh.reverse+x'*E.2.2+sx*(E.2.2*Bq sh.reverse))*t'*(t0*w):=by rw[e2,e3];grind
 exact⟨s.pos,s.cop,go s.cx h.cx k.cx,go s.cy h.cy k.cy⟩
def zf5 {h u:List Dd}{Q:DK}{X:XP}(rk:Rok h)(q:Q (.tup (trk (zOf h)))):z1s.run [dS (wOf h) ((rOf h).map wtD) ((sOf h).map shsD) (h.map ddD) (u.map ddD)] Q X:=by
 have zl:(zOf h).length<=12:=by have:=rk.le;unfold zOf;rw[uj];omega
 walk_at "fn";ac_nf;refine⟨λd hd =>?_,?_⟩
 .rw[wZ.mp hd];exact Safe.of_noL rfl rfl _
 ac_rfl;ac_nf;refine o_sr ?_;ac_nf;refine o_sl ?_;ac_nf;refine zig ?_;ac_nf;refine z1D (f:=λp:(List P × P) × List Sh=>D.tup [wtD p.1,shsD p.2]) (λdn ρ=>∃x2 x3 x4 x5 x6 x7 x8:B,ρ=[.s (dS (wOf h) ((rOf h).map wtD) ((sOf h).map shsD) (h.map ddD) (u.map ddD)),.o (.lst (trk dn)),x2,x3,x4,x5,x6,x7,x8]) ⟨_,_,_,_,_,_,_,by rw[zaI]⟩ ?_ ?_
 .rintro dn p r ρ e ⟨x2,x3,x4,x5,x6,x7,x8,rfl⟩;have ez:zOf h=dn++p::r:=e;obtain⟨hx,hs⟩:=rk.z p (by rw[ez];simp);have fb:FB 3661 (Fm dn):=(ziT λp hp=>rk.z p (by rw[ez];simp[hp])).le (by
   have:=congrArg List.length ez;rw[wz] at this;omega)
  obtain⟨p0,q0,q1,q2,q3⟩:=z6Q hx hs (dn:=p.2) (r:=[]) (by simp);obtain⟨u0,v0,t0,e0,pl0⟩:=zeD (Fm dn) fb.pos;obtain⟨bt0,bu0,bv0⟩:=pl0.bt fb.pos fb.b fb.x fb.y;have at':=z9c (z3S dn) (z6N dn);rw[e0] at at';obtain⟨⟨wd,sx,sy⟩,sh⟩:=p;dsimp only at hx hs p0 q0 q1 q2 q3 ⊢;have v1:Bt 40 (wd,sx,sy).snd.fst:=hx.vb.1;have v2:Bt 40 (wd,sx,sy).snd.snd:=hx.vb.2;kt_le;o_rec;w_how;ac_rfl;ac_nf;refine zb4 (l:=wd) hx.ne (by have:wd.length<=12:=hx.len;omega) (λp hp=>⟨(hx.wb p hp).1.le,(hx.wb p hp).2.le⟩) hs.shs λa c w hk =>?_;obtain⟨bw,ba,bc⟩:=hk.bt p0 q0 q1 q2;k_end;ac_rfl;ac_nf;refine z43 at' ?_;ac_nf;refine zg6 ⟨Bt.le v1 (by decide),Bt.le (Bt.mul bt0 bw) (by decide)⟩ ?_;ac_nf;refine zg6 ⟨Bt.le v2 (by decide),Bt.le (Bt.mul bt0 bw) (by decide)⟩ ?_;ac_nf;have ps:0<t0*w:=v7 pl0.pos hk.pos;have b8:Bt 8000 (t0*w):=Bt.le (Bt.mul bt0 bw) (by omega);refine zh8 (l:=[]) ?_;show Ex.run _ _ _ _;ac_nf;refine zec ps b8 λu' v' t' hp =>?_;have pl1:Pl (Fm (dn++[((wd,sx,sy),sh)])).1 (Fm (dn++[((wd,sx,sy),sh)])).2.1 (Fm (dn++[((wd,sx,sy),sh)])).2.2 u' v' t':=by
   rw[Fm.snoc];exact zjk fb.pos p0 pl0 hk hp
  have b1:0<(Fm (dn++[((wd,sx,sy),sh)])).2.2:=by rw[Fm.snoc];exact v7 fb.pos p0
  rw[zbA b1 pl1];refine⟨z4U (l:=trk dn) (n:=900) (by rw[z3S];have:=congrArg List.length ez;rw[wz] at this;omega) (by decide),Safe.of_noL rfl rfl _,?_⟩;ac_rfl;exact⟨_,_,_,_,_,_,_,by rw[zeV]⟩
 rintro ρ ⟨x2,x3,x4,x5,x6,x7,x8,rfl⟩;ac_nf;exact q
def zf9 {L:List (Key × D)}{ws pl st un:List D}{ss:List Str}{Q:DK}{X:XP}(h:L.map (·.1)=ss.map Sum.inr)(h64:ss.length<64)(q:∀out,SrtS ss out->Q (.tup (out.map .str))):z33.run [gL L ws pl st un] Q X:=by
 walk_at "fn";ac_nf;refine o_lw ?_;refine⟨L,ss,rfl,h,h64,λout ho =>?_⟩;ac_nf;exact q out ho
def zgW {i:Nat}{n:Str}{fs:List Str}{F:Fn}{x:Ex}{es:List Ex}{xs:List Str}{s:Sm}{ρ:Pu.Env}{N:Pu.Env->Prop}{Q:DK}{X:XP}(q:x.run ρ (λd=>∃cs,d = .ins n fs cs/\runs es ρ (λds=>F.run (d::ds) (λr=>Safe r (ρ.set i .n)/\N (ρ.set i (.s r))) (λe=>e∈xs/\s.run ρ N Q X)) (λ_=>False)) (λ_=>False)):(Sm.tryM i n fs F x es xs s).run ρ N Q X:=q
def zgX {L:List (Key × D)}{ws pl st un:List D}{n:Str}{Q:DK}{X:XP}(hp:∀w,valD L (.inr n)=some w->Pr w)(q:Q ((valD L (.inr n)).getD .non)):z10.run [gL L ws pl st un,.str n] Q X:=by
 walk_at "fn";ac_nf;refine zgW ?_;ac_nf;refine⟨_,rfl,?_⟩;ac_nf;kt_le;ac_rfl;ac_nf;refine o_lw (z7c ?_)
 cases hv:valD L (.inr n) with
 | none=>
  rw[hv] at q;refine z1J rfl ?_;ac_nf;refine⟨by decide,?_⟩;ac_nf;exact q
 | some w=>
  rw[hv] at q;refine z0o rfl ?_;ac_nf;refine o_lw ?_;ac_nf;refine zbR (.inl rfl) hv ?_;have:=hp w hv;refine z2P (Safe.of_noL this.1 this.2 _) ?_;ac_rfl;ac_nf;exact q
def zjn {L:List (Key × D)}{ws pl st un:List D}{Q:DK}{X:XP}(q:Q (.tup ws)):z2e.run [gL L ws pl st un] Q X:=by
 walk_at "fn";ac_nf;refine o_lr ?_;ac_nf;exact q
def zjo {L:List (Key × D)}{ws pl st un:List D}{Q:DK}{X:XP}(q:Q (.tup pl)):z32.run [gL L ws pl st un] Q X:=by
 walk_at "fn";ac_nf;refine o_lp ?_;ac_nf;exact q
def zgi {x y:Ex}{ρ:Pu.Env}{Q:DK}{X:XP}(q:x.run ρ (λd=>∃kvs,IsDk d kvs/\y.run ρ (λb=>∃j,b=kD j/\Q ((valD kvs j).getD .non)) X) X):(Ex.dget1 x y).run ρ Q X:=q
def z8D {L:List (Key × D)}{h u:List Dd}{c:Int}{Q:DK}{X:XP}(hk:Hs h)(eq:Eqd L h)(hl:h.length<=63)(q:Q (.bl true)):z0s.run [cG L h u,dS (wOf h) ((rOf h).map wtD) ((sOf h).map shsD) (h.map ddD) (u.map ddD),.int c] Q X:=by
 have rk:=hk.rok;obtain⟨s1,e1⟩:=hk.keys eq.v;obtain⟨s2,e2⟩:=hk.keys (L:=wOf h) λ_=>rfl;have pm:s1.Perm s2:=by
  have:=eq.perm;rw[e1,e2] at this;have inj:=this.map (λk:Key=>match k with | .inl _=>("":Str) | .inr x=>x);rw[w5,w5] at inj;simpa[Function.comp_def] using inj
 have l2:s2.length<=63:=by
  have:=(z9Y h).2;have:=congrArg List.length e2;simp at this;omega
 walk_at "fn";ac_nf;refine z1P (by omega) (by omega) λm m0 m1 =>?_;ac_nf;refine zeb (by omega) (by omega) λn hn =>?_;ac_nf;refine z5c ?_;ac_nf;refine⟨_,rfl,z3O (zf9 e1 (by rw[pm.length_eq];omega) λout ho =>?_)⟩;ac_nf;refine o_sw ?_;ac_nf;refine⟨wOf h,rfl,?_⟩;rw[zdH e2];refine⟨s2,rfl,by omega,λout2 ho2 =>?_⟩;obtain rfl:out=out2:=SrtS.unique ho ⟨ho2.1.trans pm.symm,ho2.2⟩;ac_nf;refine z6x (z58 (by rw[wc,ho2.1.length_eq];omega) λd hd =>?_) ?_
 .obtain⟨z,_,rfl⟩:=wP.mp hd;exact zgN
 ac_nf;l_out;ac_nf;refine zgX (λw hw =>?_) ?_
 .rw[eq.v] at hw;obtain⟨_,v,_,rfl,_⟩:=hk.val hw;exact z5M v
 ac_nf;refine zgi ?_;ac_nf;refine o_sw ?_;refine⟨wOf h,.inl rfl,?_⟩;ac_nf;refine⟨.inr n,rfl,?_⟩;rw[eq.v];refine z6x ?_ ?_
 .cases hv:valD (wOf h) (.inr n) with
  | none=>exact zgO
  | some w=>
   obtain⟨_,v,_,rfl,gv⟩:=hk.val hv;exact zaV (by have:=gv.le;omega)
 ac_nf;l_out;ac_nf;refine z5c ?_;ac_nf;refine⟨_,rfl,z3O ?_⟩;refine zjn ?_;ac_nf;refine o_sr ?_;ac_nf;refine z6x (ze6 rk.le rk.wt) ?_;ac_nf;l_out;ac_nf;refine z5c ?_;ac_nf;refine⟨_,rfl,z3O (zb3 hk ?_)⟩;ac_nf;refine o_sr ?_;ac_nf;refine o_sl ?_;ac_nf;rw[wc];ac_nf;rw[(z8g wtD rk.sl).2];ac_nf;refine z6x (ze6 (by rw[uJ];have:=rk.le;omega) λx hx=>rk.wt x (List.mem_of_mem_drop hx)) ?_;ac_nf;l_out;ac_nf;refine zf5 rk ?_;have trs:∀d∈trk (zOf h),∃E,d=lowD E:=λd hd=>by
  unfold trk at hd;obtain⟨i,_,rfl⟩:=wP.mp hd;exact⟨_,rfl⟩
 refine z2P (Safe.of_noL ?_ ?_ _) ?_
 .exact z3C λd hd=>by(obtain⟨E,rfl⟩:=trs d hd;rfl)
 .exact z3D λd hd=>by(obtain⟨E,rfl⟩:=trs d hd;rfl)
 ac_rfl;ac_nf;refine z5c ?_;ac_nf;refine⟨_,rfl,z3O (zjo ?_)⟩;ac_nf;refine z6x (z58 (by rw[z3S];have:=rk.le;unfold zOf;rw[uj];omega) λd hd=>by(obtain⟨E,rfl⟩:=trs d hd;exact ze7 E)) ?_;ac_nf;refine z5c ?_;ac_nf;refine⟨_,rfl,z3O (zh1 ?_)⟩;ac_nf;refine z43 (z9c (z3S _) (z6N _)) ?_;exact z6x (ze7 _) q
structure Cf (W:Wd)(p o q:Addr)(h u:List Dd)(L:List (Key × D)):Prop where
 wp:W p=some (cG L h u)
 wq:W q=some (cS h u)
 wo:W o=some (cG [] [] [])
 pq:p≠q
 oq:o≠q
 po:p≠o
 hk:Hs (h++u.reverse)
 eq:Eqd L h
def I53 (S:D)(p o:Addr)(k:Nat)(ρ:Pu.Env)(W:Wd):Prop:=∃q h u L b4 b5 b6 b7,ρ=[.s S,.s (.ptr p),.s (.ptr o),.s (.ptr q),b4,b5,b6,b7]/\Cf W p o q h u L/\h.length+u.length<=k
abbrev z7E:SmR :=.seq (.ifp (.op pIs [(.v 6),(.c .non)]) (.set 3 (.call z0m [(.raw 3),(.vs (.v 5))])) .skip)
 (.seq (.set 7 (.call z1f [(.raw 1),(.vs (.v 5))]))
 (.seq (.lift (.ifs (.or (.op pNe [(.v 7),(.v 6)]) (.and (.op pIs [(.v 6),(.c .non)]) (.op z9A [(.v 7),(.c .non)]))) (.ret (.c (.bl false))) .skip))
 (.ifp (.not (.op z0s [(.v 1),(.v 3),(.v 4)])) (.lift (.ret (.c (.bl false)))) .skip)))
def zk5 {Q:DK}{X:XP}(q:Q (.bl false)):pNe.run [.non,.non] Q X:=⟨Da.non,Da.non,by rw[show deq .non .non=true by decide +kernel];exact q⟩
def zk4 {x:Str}{Q:DK}{X:XP}(q:Q (.bl false)):pNe.run [.str x,.str x] Q X:=by
 show Q (.bl (!decide (x=x)));rw[wu rfl];exact q
theorem z9g:∀{a b:List P},a.map vec=b.map vec->a=b
 | [],[],_=>rfl
 | [],_::_,h=>by cases h
 | _::_,[],h=>by cases h
 | x::a,y::b,h=>by
  rw[wA,wA,vS] at h;have e:=h.1;simp only[vec,D.tup.injEq,vS,D.int.injEq,and_true] at e;rw[Prod.ext e.1 e.2,z9g h.2]
def zji {x y:ExR}{ρ:Pu.Env}{W:Wd}{Q:DW}{X:XW}(q:x.run ρ W (λd W1=>∃c,d = .bl c/\if c=true then y.run ρ W1 Q X else Q (.bl false) W1) X):(ExR.and x y).run ρ W Q X:=q
def zjh {F:Fn}{es:List ExR}{ρ:Pu.Env}{W:Wd}{Q:DW}{X:XW}(q:z4J es ρ W (λds W'=>F.run (ds.map (shPt W')) (λd=>Pr d/\Q d W') (λs=>X s W')) X):(ExR.shc F es).run ρ W Q X:=q
def zby (rs:List Rs):Pr (.tup [.str "sail",rcD rs]):=z7W λd hd=>by
 simp only[wf,wC,vj] at hd
 rcases hd with rfl | rfl
 .exact⟨rfl,rfl⟩
 .exact z7W λe he=>by(obtain⟨r,_,rfl⟩:=wP.mp he;exact⟨rfl,rfl⟩)
section
variable {S:D}{p o q:Addr}{h u:List Dd}{L:List (Key × D)}{b4 b5 b6 b7:B}{W:Wd}{k:Nat}{c:Int}{d:D}{N:EW}{Q:DW}{X:XW}
def zed (cf:Cf W p o q h u L)(hl:h.length<=63)(n:N [.s S,.s (.ptr p),.s (.ptr o),.s (.ptr q),.s (.int c),b5,b6,b7] W):SmR.run (.ifp (.not (.op z0s [(.v 1),(.v 3),(.v 4)])) (.lift (.ret (.c (.bl false)))) .skip) [.s S,.s (.ptr p),.s (.ptr o),.s (.ptr q),.s (.int c),b5,b6,b7] W N Q X:=by
 refine z1e ?_;rw[z04,z04,z04,z04,z04,z04,z04,z04,z0x,z1l cf.wp,z2x cf.wq,zaZ];ac_nf;refine z8D cf.hk.pre cf.eq hl ?_;ac_nf;l_out;exact z1L n
def z5x {y:Str}(cf:Cf W p o q h u L)(hl:h.length+u.length<=k)(hk:k<=62)(hd:z0d.run [.ptr p,d] W (λ_ _=>False) (λx W'=>(∃i,(x,y,i)∈([("NoWind","wind",0),("NoDeed","deed",1),("NoShares","shares",2)]:List (Str × Str × Nat)))/\W'=W))
  (n:∀ρ W,I53 S p o (k+1) ρ W->N ρ W):z7E.run [.s S,.s (.ptr p),.s (.ptr o),.s (.ptr q),.s (.int c),.s d,.s (.str y),b7] W N Q X:=by
 kl_no;rw[z04,z04,z04,z04,z04,z04,z04,z04,z0x,z8A];ac_nf;refine z0o rfl (z1L ?_);refine z0E (z5J (z3J (z0C (z5v rfl (z0C (x_vs ?_))))));ac_rfl;ac_nf;refine z1v (zef ?_);refine z0d.mono _ _ _ _ _ _ (λ_ _ z=>z.elim) (λx W' z =>?_) hd;obtain⟨⟨i,hi⟩,rfl⟩:=z;refine⟨y,i,hi,?_⟩;ac_rfl;refine z0E (z2n ?_);ac_nf;refine zk4 ?_;ac_nf;refine z0o rfl ?_;ac_nf;refine zed cf (by omega) (n _ _ ⟨q,h,u,L,_,_,_,_,rfl,cf,by omega⟩)
def z49 {h' u':List Dd}(cf:Cf W p o q h u L)(hl:h'.length+u'.length<=k+1)(hk:k<=62)(hd:Hs (h'++u'.reverse))
  (hb:∀(Q:DW) (X:XW),(∀q',q'≠p->q'≠o->∀W',Up W W' q' (cS h' u')->Q (.ptr q') W')->z0m.run [.ptr q,d] W Q X)
  (hc:∀(W1:Wd) (Q:DW) (X:XW),W1 p=some (cG L h u)->(∀W' L',Up W1 W' p (cG L' h' u')->Eqd L' h'->Q .non W')->z0d.run [.ptr p,d] W1 Q X)
  (n:∀ρ W,I53 S p o (k+1) ρ W->N ρ W):z7E.run [.s S,.s (.ptr p),.s (.ptr o),.s (.ptr q),.s (.int c),.s d,.s .non,b7] W N Q X:=by
 kl_no;rw[z04,z04,z04,z04,z04,z04,z04,z04,z0x,zf1];ac_nf;refine z1J rfl ?_;refine z5J (z3J (z0C (z5v rfl (z0C (x_vs ?_)))));ac_rfl;ac_nf;refine z1v (hb _ _ λq' qp qo W1 u1 =>?_);ac_rfl;refine z0E (z5J (z3J (z0C (z5v rfl (z0C (x_vs ?_))))));ac_rfl;ac_nf;refine z1v (zef ?_);refine hc W1 _ _ (by rw[u1.ne p qp.symm];exact cf.wp) λW2 L' u2 e2 =>?_;have cf':Cf W2 p o q' h' u' L':=⟨u2.at_,by rw[u2.ne q' qp];exact u1.at_,by rw[u2.ne o cf.po.symm,u1.ne o qo.symm];exact cf.wo,qp.symm,qo.symm,cf.po,hd,e2⟩
 ac_rfl;refine z0E (z2n ?_);ac_nf;refine zk5 ?_;ac_nf;refine z1J rfl ?_;ac_nf;refine z0o rfl ?_;ac_nf;refine zed cf' (by omega) (n _ _ ⟨q',h',u',L',_,_,_,_,rfl,cf',hl⟩)
def zgV {ρ:Pu.Env}(iv:I53 S p o k ρ W)(hk:k<=62)(n:∀ρ W,I53 S p o (k+1) ρ W->N ρ W):SmR.run (.seq (.set 5 (.pl (.op z1g [(.v 3),(.v 4)]))) (.seq (.set 6 (.pl (.op z0i [(.v 3),(.v 5)]))) z7E)) (ρ.set 4 (.s (.int c))) W N Q X:=by
 obtain⟨q,h,u,L,b4,b5,b6,b7,rfl,cf,hl⟩:=iv;have hk0:=cf.hk.pre;have rk:=hk0.rok;have gl:∃kvs ws pl st un,cG L h u=gL kvs ws pl st un:=⟨_,_,_,_,_,rfl⟩
 ac_rfl;have due:∀{d:D}{x:D},Pr d->(∀a,d ≠ .ptr a)->(Pr x)->z0i.run [dS (wOf h) ((rOf h).map wtD) ((sOf h).map shsD) (h.map ddD) (u.map ddD),d] (λx=>Pr x/\z7E.run [.s S,.s (.ptr p),.s (.ptr o),.s (.ptr q),.s (.int c),.s d,.s x,b7] W N Q X) (λs=>X s W)->
   SmR.run (.seq (.set 6 (.pl (.op z0i [(.v 3),(.v 5)]))) z7E) [.s S,.s (.ptr p),.s (.ptr o),.s (.ptr q),.s (.int c),.s d,b6,b7] W N Q X:=λ{d x} _ hp _ hh=>by
  refine z0E (z5J (x_pl ?_));rw[z04,z04,z04,z04,z04,z04,z04,z04,z0x,z2x cf.wq,show shB W (.s d) = .s d from by cases d <;> first | rfl | exact(hp _ rfl).elim];refine z93 (e_v (z2B (e_v (z2B ?_))));refine z0i.mono _ _ _ _ _ (λx hx=>⟨hx.1,?_⟩) (λ_ z=>z) hh;ac_rfl;exact hx.2
 refine z0E (z5J (x_pl ?_));rw[z04,z04,z04,z04,z04,z04,z04,z04,z0x,z2x cf.wq,zaZ];refine z93 (e_v (z2B (e_v (z2B ?_))));refine zh4 rk (λnm v hn hv=>⟨z4r (.w nm v),?_⟩) (λnm s hn hs=>⟨z4r (.t nm [] s),?_⟩) (λrs hr=>⟨zby rs,?_⟩) (λb=>⟨by cases b <;> exact⟨rfl,rfl⟩,?_⟩)
 .ac_rfl;refine due (x :=.non) (z4r (.w nm v)) (λ_ z=>nomatch z) ⟨rfl,rfl⟩ (za5 ⟨⟨rfl,rfl⟩,?_⟩);have ok:Okd h (.w nm v):=⟨hn,hv⟩
  exact z49 (h':=h++[.w nm v]) (u':=[]) cf (by rw[wz];show h.length+1+0<=_;omega) (by omega) (by simpa using Hs.snoc hk0 ok)
   (λQ X k=>z3q (d :=.w nm v) cf.wq ok rk (by omega) λW' up=>k q cf.pq.symm cf.oq.symm W' up)
   (λW1 Q X hW k=>z8F hW gl (za3 hW hk0 cf.eq hn hv (by omega) k)) n
 .ac_rfl;refine due (x :=.non) (z4r (.t nm [] s)) (λ_ z=>nomatch z) ⟨rfl,rfl⟩ (z8E (λe=>⟨⟨rfl,rfl⟩,?_⟩) (λe1 e2=>⟨⟨rfl,rfl⟩,?_⟩) (λe1 e2=>⟨⟨rfl,rfl⟩,?_⟩))
  .refine z5x cf hl (by omega) (z3p cf.wp gl (z3U cf.wp hk0 cf.eq hn hs (by omega) (λ_=>⟨⟨0,by decide⟩,rfl⟩) (λz _ =>?_) λv ok =>?_)) n
   .rw[e] at z;cases z
   .have:=ok.2.1;rw[e] at this;cases this
  .refine z5x cf hl (by omega) (z3p cf.wp gl (z3U cf.wp hk0 cf.eq hn hs (by omega) (λz =>?_) (λ_ _=>⟨⟨1,by decide⟩,rfl⟩) λv ok =>?_)) n
   .rw[z] at e1;cases e1
   .have:=ok.2.2.2.2;omega
  .cases hv:valD (wOf h) (.inr nm) with
   | none=>rw[hv] at e1;cases e1
   | some w=>
    obtain⟨_,v,_,rfl,gv⟩:=hk0.val hv;have ok:Okd h (.t nm v s):=⟨hn,hv,gv,hs,by have:=rk.le;omega⟩
    refine z49 (h':=h++[.t nm v s]) (u':=[]) cf (by rw[wz];show h.length+1+0<=_;omega) (by omega) (by simpa using Hs.snoc hk0 ok)
     (λQ X k=>z3q (d :=.t nm v s) cf.wq ok rk (by omega) λW' up=>k q cf.pq.symm cf.oq.symm W' up)
     (λW1 Q X hW k=>z3p hW gl (z3U hW hk0 cf.eq hn hs (by omega) (λz =>?_) (λ_ z=>(e2 z).elim) λv' ok' =>?_)) n
    .rw[hv] at z;cases z
    .have:=ok'.2.1;rw[hv] at this;have ev:v=v':=z9g (D.tup.inj (vm this));subst ev;exact k
 .ac_rfl;have hz:rs.length<=900:=by have:=hr.len;omega
  refine due (x :=.non) (zby rs) (λ_ z=>nomatch z) ⟨rfl,rfl⟩ (za6 rk hr (λe=>⟨⟨rfl,rfl⟩,?_⟩) (λx hx e=>⟨⟨rfl,rfl⟩,?_⟩) (λx hx e=>⟨⟨rfl,rfl⟩,?_⟩))
  .refine z5x cf hl (by omega) (z3T cf.wp gl (zb1 cf.wp hk0 cf.eq hr.bt hz (by omega) (λ_=>⟨⟨1,by decide⟩,rfl⟩) (λx hx =>?_) λx sh hx =>?_)) n
   .have:=(wg.mp hx).1;omega
   .have:=(wg.mp hx).1;omega
  .refine z5x cf hl (by omega) (z3T cf.wp gl (zb1 cf.wp hk0 cf.eq hr.bt hz (by omega) (λz =>?_) (λ_ _ _=>⟨⟨2,by decide⟩,rfl⟩) λx' sh hx' e' =>?_)) n
   .have:=(wg.mp hx).1;omega
   .rw[hx] at hx';cases hx';rw[e] at e';cases e'
  .obtain⟨sh,rfl,wk⟩:=zey hr.bt e;have ok:Okd h (.s sh):=⟨x,hx,wk⟩
   refine z49 (h':=h++[.s sh]) (u':=[]) cf (by rw[wz];show h.length+1+0<=_;omega) (by omega) (by simpa using Hs.snoc hk0 ok)
    (λQ X k =>?_) (λW1 Q X hW k=>z3T hW gl (zb1 hW hk0 cf.eq hr.bt hz (by omega) (λz =>?_) (λx' hx' e' =>?_) λx' sh' hx' _ es _ =>?_)) n
   .rw[show rcD (sh.map toR)=shsD sh by unfold rcD;rw[<- z4D]];exact z3q (d :=.s sh) cf.wq ok rk (by omega) λW' up=>k q cf.pq.symm cf.oq.symm W' up
   .have:=(wg.mp hx).1;omega
   .rw[hx] at hx';cases hx';rw[e] at e';cases e'
   .have es':(sh.map toR).map z64=(sh'.map toR).map z64:=by rw[es]
    rw[z63,z63] at es';subst es';exact k
 .ac_rfl;refine due (x :=.non) (by cases b <;> exact⟨rfl,rfl⟩) (λ_ z=>nomatch z) ⟨rfl,rfl⟩ (zcS cf.hk (λe=>⟨⟨rfl,rfl⟩,?_⟩) (λe=>⟨⟨rfl,rfl⟩,?_⟩))
  .refine z5x cf hl (by omega) (z5I cf.wp gl ?_) n
   cases b with
   | true=>exact zea cf.wp hk0 cf.eq (by omega) (by omega) (λ_=>⟨⟨1,by decide⟩,rfl⟩) λh0 d z=>by rw[show h=[] from e] at z;simp at z
   | false=>exact zb8 cf.wp cf.hk cf.eq (by omega) (λ_=>⟨⟨1,by decide⟩,rfl⟩) λh0 d z=>by rw[show u=[] from e] at z;simp at z
  .cases b with
   | true=>
    have e:h≠[]:=e;obtain⟨h0,d,rfl⟩:∃h0 d,h=h0++[d]:=by
     rcases uF h with z | ⟨h0,d,z⟩
     .exact(e z).elim
     .exact⟨h0,d,by simpa using z⟩
    rw[wz,vA] at hl;refine z49 (h':=h0) (u':=u++[d]) cf (by rw[wz,vA];omega) (by omega) (by have:=cf.hk;simpa using this)
     (λQ X k=>z6S cf.wq hk0.inv.1 (by omega) (by omega) λq' nq W' up=>k q' (λz =>?_) (λz =>?_) W' up)
     (λW1 Q X hW k=>z5I (k:=true) hW ⟨_,_,_,_,_,rfl⟩ (zea hW hk0 cf.eq (by rw[wz,vA];omega) (by omega) (λz=>by simp at z) λh1 d1 z =>?_)) n
    .rw[z,cf.wp] at nq;cases nq
    .rw[z,cf.wo] at nq;cases nq
    .obtain⟨rfl,z2⟩:=List.append_inj' z rfl
     cases z2
     exact k
   | false=>
    have e:u≠[]:=e;obtain⟨u0,d,rfl⟩:∃h0 d,u=h0++[d]:=by
     rcases uF u with z | ⟨h0,d,z⟩
     .exact(e z).elim
     .exact⟨h0,d,by simpa using z⟩
    rw[wz,vA] at hl;obtain⟨k1,k2,k3⟩:=cf.hk.next;refine z49 (h':=h++[d]) (u':=u0) cf (by rw[wz,vA];omega) (by omega) k3
     (λQ X k=>z6f cf.wq k2 rk (by omega) λW' up=>k q cf.pq.symm cf.oq.symm W' up)
     (λW1 Q X hW k=>z5I (k:=false) hW ⟨_,_,_,_,_,rfl⟩ (zb8 hW cf.hk cf.eq (by omega) (λz=>by simp at z) λu1 d1 z =>?_)) n
    obtain⟨rfl,z2⟩:=List.append_inj' z rfl
    cases z2
    exact k
end
def zgT {W:Wd}{p:Addr}{kvs:List (Key × D)}{ws pl st un:List D}(h:W p=some (gL kvs ws pl st un)):shPt W (.ptr p)=gL kvs ws pl st un:=by
 have:=z1l h;rw[zcN h] at this;show (match W p with | some c=>sho c | none =>.ptr p)=_;rw[h];exact B.s.inj this
def zgS {W:Wd}{p:Addr}{kvs:List (Key × D)}{ws sl st un:List D}(h:W p=some (gS kvs ws sl st un)):shPt W (.ptr p)=dS kvs ws sl st un:=by
 have:=z2x h;rw[zcN h] at this;show (match W p with | some c=>sho c | none =>.ptr p)=_;rw[h];exact B.s.inj this
def zj7:zaw=cG [] [] []:=by
 unfold cG zOf;show _=gL [] [] (trk []) [] [];rw[zaI]
 rfl
def zgb (ns:List Int)(h:ns.length<=63):z67.run [.lst (ns.map .int)] (λd=>d = .bl true) (λ_=>False):=by
 kt_le;ac_rfl;refine z0E λp _ =>?_;refine z0E λo op =>?_;ac_rfl;have po:p≠o:=λz=>by rw[z,z28] at op;cases op
 refine z0E (z5J (z3J (z1v (zf8 λq nq W1 u1 =>?_))));ac_rfl;have hp:upW (upW (λ_=>none) p zaw) o zaw p=some zaw:=by rw[z27 po];exact z28
 have qp:q≠p:=λz=>by rw[z,hp] at nq;cases nq
 have qo:q≠o:=λz=>by rw[z,z28] at nq;cases nq
 have e0:Eqd [] []:=⟨λ_=>rfl,List.nodup_nil⟩
 have cf:Cf W1 p o q [] [] []:=⟨by rw[u1.ne p qp.symm,hp,zj7],u1.at_,by rw[u1.ne o qo.symm,z28,zj7],qp.symm,qo.symm,po,Hs.nil,e0⟩
 refine z0E (zjw ?_);ac_rfl;ac_nf;rw[show cutD (ns.map D.int) none (some 100)=ns.map D.int by
  rw[z9a];simp[HT.sIx];rw[Nat.min_eq_right (by omega)];exact ux (by rw[wc];exact wG _)]
 ac_nf;refine z7n (f:=D.int) (λdn ρ W=>I53 (.lst (ns.map .int)) p o dn.length ρ W) ⟨q,[],[],[],_,_,_,_,rfl,cf,vh _⟩ ?_ ?_
 .rintro dn c r ρ W e iv;have dl:dn.length<=62:=by
   k_dec;rw[wz,wL] at this;omega
  exact zgV iv dl λρ' W' iv'=>by rw[wz];exact iv'
 .rintro ρ W ⟨q,h',u,L,b4,b5,b6,b7,rfl,cf,hl⟩;have hl':h'.length<=63:=by omega
  refine z6T (zji (x_pl ?_));rw[z04,z04,z04,z04,z04,z04,z04,z04,z0x,z1l cf.wp,z2x cf.wq];ac_nf;refine z8D cf.hk.pre cf.eq hl' ⟨⟨rfl,rfl⟩,true,rfl,?_⟩;rw[if_pos rfl];refine zjh (z0C (z5v rfl (z0C (z3J (z1v (zf8 λq2 nq2 W2 u2 =>?_))))));refine z0C (x_vs ?_);ac_nf;refine z1v ?_;have o2:W2 o=some (cG [] [] []):=by rw[u2.ne o λz=>by rw[<- z,cf.wo] at nq2;cases nq2];exact cf.wo
  rw[wA,wA,wA,vq,zgT o2,zgS u2.at_];exact z8D (L:=[]) (h:=[]) (u:=[]) Hs.nil e0 (by decide) ⟨⟨rfl,rfl⟩,rfl⟩
open PySem.Spec PyProof.Rows
structure Sc (N ps:List Str)(sc:Scope):Prop where
 fs:z1U N ps sc
 nm:∀x∈N,Nm sc x
def Sc.of {N ps:List Str}{sc:Scope}(h:(sc.kind = .function/\sc.isCoroutine=false/\sc.isGenerator=false)/\N.Nodup/\N.take ps.length=ps/\(∀y∈sc.names,y.2 ≠ .free)/\∀x∈N,(sc.names.lookup x=some .local\/sc.names.lookup x=some .cell)/\(x == ("__debug__":Str))=false/\(x == ("__classdict__":Str))=false):Sc N ps sc:=
 ⟨⟨h.1.1,h.1.2.1,h.1.2.2,h.2.1,h.2.2.1,λx hx=>(h.2.2.2.2 x (List.mem_of_mem_take (by rw[h.2.2.1];exact hx))).1,h.2.2.2.1⟩,λx hx=>⟨(h.2.2.2.2 x hx).1,(h.2.2.2.2 x hx).2.1,(h.2.2.2.2 x hx).2.2⟩⟩
section
variable {CX:CXT}{P:Program}{w:World}{K:W.Frag}{mg:WmP}{base:Heap}{N ps:List Str}{qual:Str}{sc:Scope}{f:Addr}{cdv:Value}{A:Around}{outer:List PySem.Env}{s:Shared}{H:Hp}{E:XK}{xe:WvP}{x:Str}{pos pos2:Pos}{e:Expr}{te:TE}{i:Nat}
def vx (S:Sc N ps sc)(hN:N[i]? = some x):QE ((cxOf CX P w K mg base N qual sc f cdv A outer s H E).wish xe) (.Name x pos) (tVar i):=vg i (S.nm x (wH hN)) hN
def nx (S:Sc N ps sc)(hN:N[i]? = some x):QG ((cxOf CX P w K mg base N qual sc f cdv A outer s H E).wish xe) (.Name x pos) (z2y i):=ng i S.fs.nd (S.nm x (wH hN)) hN
def ax (S:Sc N ps sc)(hN:N[i]? = some x)(he:QE ((cxOf CX P w K mg base N qual sc f cdv A outer s H E).wish xe) e te)(hs:swapsWith e (some (.Name x pos2)) pos.line ((cxOf CX P w K mg base N qual sc f cdv A outer s H E).wish xe).env=pure false):QS ((cxOf CX P w K mg base N qual sc f cdv A outer s H E).wish xe) (.Assign [.Name x pos2] e pos) (tAsg te (z2y i)):=ag i S.fs.nd (S.nm x (wH hN)) he hN hs
end
section
variable {CX:CXT}{P:Program}{w:World}{K:W.Frag}{mg:WmP}{base:Heap}{N ps:List Str}{qual:Str}{sc:Scope}{f:Addr}{cdv:Value}{A:Around}{outer:List PySem.Env}{s:Shared}{H:Hp}{E E2:XK}{xe:WvP}{x:Str}{pos pos2:Pos}{e:Expr}{te:TE}{i:Nat}
def yv (S:Sc N ps sc)(hN:N[i]? = some x:=by rfl):QE ((cxOf CX P w K mg base N qual sc f cdv A outer s H E).wish xe) (.Name x pos) (tVar i):=vx S hN
def yV (S:Sc N ps sc)(hN:N[i]? = some x:=by rfl):QX ((cxOf CX P w K mg base N qual sc f cdv A outer s H E).wish xe) E2 (.Name x pos) (.v i):=qx_v (vx S hN)
def yn (S:Sc N ps sc)(hN:N[i]? = some x:=by rfl):QG ((cxOf CX P w K mg base N qual sc f cdv A outer s H E).wish xe) (.Name x pos) (z2y i):=nx S hN
def ya (S:Sc N ps sc)(he:QE ((cxOf CX P w K mg base N qual sc f cdv A outer s H E).wish xe) e te)(hN:N[i]? = some x:=by rfl)(hs:swapsWith e (some (.Name x pos2)) pos.line ((cxOf CX P w K mg base N qual sc f cdv A outer s H E).wish xe).env=pure false:=by rfl):QS ((cxOf CX P w K mg base N qual sc f cdv A outer s H E).wish xe) (.Assign [.Name x pos2] e pos) (tAsg te (z2y i)):=ax S hN he hs
def yZ {ex:Ex}{l:List Stmt}{t:Sm}(S:Sc N ps sc)(he:QX ((cxOf CX P w K mg base N qual sc f cdv A outer s H E).wish xe) E2 e ex)(h':QZs ((cxOf CX P w K mg base N qual sc f cdv A outer s H E).wish xe) E2 l t)(hN:N[i]? = some x:=by rfl)(hs:swapsWith e (some (.Name x pos2)) pos.line ((cxOf CX P w K mg base N qual sc f cdv A outer s H E).wish xe).env=pure false:=by rfl):QZs ((cxOf CX P w K mg base N qual sc f cdv A outer s H E).wish xe) E2 (.Assign [.Name x pos2] e pos::l) (.seq (.set i ex) t):=z07 (z1I (ax S hN he hs)) h'
def Sc.lc (S:Sc N ps sc)(i:Nat)(hN:N[i]? = some x:=by rfl):Loc sc x:=(S.nm x (wH hN)).loc
end
section
variable {P:Program}{w:World}{K:W.Frag}{mg:WmP}{base:Heap}{f:Addr}{fd:FuncData}{ps:List Str}{qual x:Str}{st:Stmt}{k np nn:Nat}{b:Sm}{c:SmR}
def yN (N:List Str)(F:Fun K x qual st f fd)(hb:∀(cdv:Value) (A:Around) (outer:List PySem.Env) (s:Shared) (H:Hp) (E:XK),Sc N ps (z01 st)->Room k (A.deeper (envOfC qual (z01 st) s.heap.objs.size f cdv))->(A.deeper (envOfC qual (z01 st) s.heap.objs.size f cdv)).units+64<cLine->QZs ((cxOf (CXe P w) P w K mg base N qual (z01 st) f cdv A outer s H E).wish λ_ _=>False) E0 (z0v st) b)
  (S:Sc N ps (z01 st):=by exact Sc.of (by decide +kernel)) (hp:ps.length=np:=by rfl) (hN:N.length=nn:=by rfl):FnOk P w K mg base (CXe P w) (k+1) f fd ps (spP K mg (Fn.mkN np nn b)):=fnN F S.fs hp hN λcdv A outer s H E hr=>hb cdv A outer s H E S hr hr.units
def yE (N:List Str)(F:Fun K x qual st f fd)(hb:∀(cdv:Value) (A:Around) (outer:List PySem.Env) (s:Shared) (H:Hp) (E:XK),Sc N ps (z01 st)->Room k (A.deeper (envOfC qual (z01 st) s.heap.objs.size f cdv))->(A.deeper (envOfC qual (z01 st) s.heap.objs.size f cdv)).units+64<cLine->QZs ((cxOf (CXe P w) P w K mg base N qual (z01 st) f cdv A outer s H E).wish (cxOf (CXe P w) P w K mg base N qual (z01 st) f cdv A outer s H E).xe) E (z0v st) b)
  (S:Sc N ps (z01 st):=by exact Sc.of (by decide +kernel)) (hp:ps.length=np:=by rfl) (hN:N.length=nn:=by rfl):FnOk P w K mg base (CXe P w) (k+1) f fd ps (spP K mg (Fn.mk' np nn b)):=fnE F S.fs hp hN λcdv A outer s H E hr=>hb cdv A outer s H E S hr hr.units
def yR (N:List Str)(F:Fun K x qual st f fd)(hb:∀(cdv:Value) (A:Around) (outer:List PySem.Env) (s:Shared) (H:Hp) (E:XK),Sc N ps (z01 st)->Room k (A.deeper (envOfC qual (z01 st) s.heap.objs.size f cdv))->(A.deeper (envOfC qual (z01 st) s.heap.objs.size f cdv)).units+64<cLine->QRs ((cxOf (CXe P w) P w K mg base N qual (z01 st) f cdv A outer s H E).wish (cxOf (CXe P w) P w K mg base N qual (z01 st) f cdv A outer s H E).xe) E (z0v st) c)
  (S:Sc N ps (z01 st):=by exact Sc.of (by decide +kernel)) (hp:ps.length=np:=by rfl) (hN:N.length=nn:=by rfl):FnOk P w K mg base (CXe P w) (k+1) f fd ps (spR K mg (FnR.mk' np nn c)):=fnR F S.fs hp hN λcdv A outer s H E hr=>hb cdv A outer s H E S hr hr.units
def yO (N:List Str)(F:Fun K x qual st f fd)(hb:∀(cdv:Value) (A:Around) (outer:List PySem.Env) (s:Shared) (H:Hp) (E:XK),Sc N ps (z01 st)->Room k (A.deeper (envOfC qual (z01 st) s.heap.objs.size f cdv))->(A.deeper (envOfC qual (z01 st) s.heap.objs.size f cdv)).units+64<cLine->QRs ((cxOf (CXe P w) P w K mg base N qual (z01 st) f cdv A outer s H E).wish λ_ _=>False) E0 (z0v st) c)
  (S:Sc N ps (z01 st):=by exact Sc.of (by decide +kernel)) (hp:ps.length=np:=by rfl) (hN:N.length=nn:=by rfl):FnOk P w K mg base (CXe P w) (k+1) f fd ps (spP K mg (Fn.ofR np nn c)):=fnO F S.fs hp hN λcdv A outer s H E hr=>hb cdv A outer s H E S hr hr.units
def yRN (N:List Str)(F:Fun K x qual st f fd)(hb:∀(cdv:Value) (A:Around) (outer:List PySem.Env) (s:Shared) (H:Hp) (E:XK),Sc N ps (z01 st)->Room k (A.deeper (envOfC qual (z01 st) s.heap.objs.size f cdv))->(A.deeper (envOfC qual (z01 st) s.heap.objs.size f cdv)).units+64<cLine->QRs ((cxOf (CXe P w) P w K mg base N qual (z01 st) f cdv A outer s H E).wish λ_ _=>False) E0 (z0v st) c)
  (S:Sc N ps (z01 st):=by exact Sc.of (by decide +kernel)) (hp:ps.length=np:=by rfl) (hN:N.length=nn:=by rfl):FnOk P w K mg base (CXe P w) (k+1) f fd ps (spR K mg (FnR.mkN np nn c)):=fnRN F S.fs hp hN λcdv A outer s H E hr=>hb cdv A outer s H E S hr hr.units
def yS (N:List Str)(F:Fun K x qual st f fd)(hb:∀(cdv:Value) (A B:Around) (outer:List PySem.Env) (s:Shared) (H:Hp) (E:XK),Sc N ps (z01 st)->z5n k (A.deeper (envOfC qual (z01 st) s.heap.objs.size f cdv))->(A.deeper (envOfC qual (z01 st) s.heap.objs.size f cdv)).units+64<cLine->QZs ((cxOf (CXe P w) P w K mg base N qual (z01 st) f cdv B outer s H E).wild (A.deeper (envOfC qual (z01 st) s.heap.objs.size f cdv))) E0 (z0v st) b)
  (S:Sc N ps (z01 st):=by exact Sc.of (by decide +kernel)) (hp:ps.length=np:=by rfl) (hN:N.length=nn:=by rfl):zay P w K mg base (CXe P w) (k+1) f fd ps (spP K mg (Fn.mkN np nn b)):=fnS F S.fs hp hN λcdv A B outer s H E hr=>hb cdv A B outer s H E S hr hr.units
end
section
variable {X:Cx}{E:XK}{a b c d e:Expr}{es:List Expr}{x y z:Ex}{xs:List Ex}{pos pp:Pos}{F:Fn}{k n:Nat}{ps:List Str}{f:Str}{P:Program}{w:World}
def yF (C:Cal X.prog X.w X.K X.mg X.base (CXe P w) k f ps (spP X.K X.mg F))(hr:Room n X.A)(ha:QXA X E0 (e::es) xs)(hk:k<=n:=by decide)(hg:Gl X f:=by rfl)
  (hdb:(f == ("__debug__":Str))=false:=by decide) (he:starEach (e::es) X.env=(false,eval e X.env)::starEach es X.env:=by rfl) (hpl:(backTo pos (starEach es X.env)).any (·.1)=false:=by rfl):QX X E0 (.Call (.Name f pp) (e::es) [] pos) (.op F xs):=za7 C (hr.mono hk) z1w ha hg hdb he hpl
def yI (ha:QX X E a x)(hb:QX X E b y)(hs:z7x b:=by exact λ_ _=>rfl):QX X E (.Subscript a b pos) (.op pIx [x,y]):=zjF ha hb hs
def yK {op:CmpOp}(ho:OpR X (compareOp op) (r2 X.K X.mg F))(ha:QX X E a x)(hb:QX X E b y)(h:op ≠ .In:=by decide)(h2:op ≠ .NotIn:=by decide):QXT X E (.Compare a [op] [b] pos) (.op F [x,y]):=zho ho lk2 ha hb (zeC _ h h2)
def yk {op:CmpOp}(ho:OpR X (compareOp op) (r2 X.K X.mg F))(ha:QX X E a x)(hb:QX X E b y)(h:op ≠ .In:=by decide)(h2:op ≠ .NotIn:=by decide):QX X E (.Compare a [op] [b] pos) (.op F [x,y]):=zel ho lk2 ha hb (zeC _ h h2)
def yB {op:Operator}(ho:OpR X (binaryOp op) (r2 X.K X.mg F))(ha:QX X E a x)(hb:QX X E b y):QX X E (.BinOp a op b pos) (.op F [x,y]):=zhj ho lk2 ha hb
def y1 (h:QX X E a x)(s1:starEach [a] X.env=(false,eval a X.env)::starEach [] X.env:=by rfl):QXA X E [a] [x]:=z5s h z3W s1
def y2 (h:QX X E a x)(h':QX X E b y)(s1:starEach [b] X.env=(false,eval b X.env)::starEach [] X.env:=by rfl)(s2:starEach [a,b] X.env=(false,eval a X.env)::starEach [b] X.env:=by rfl):QXA X E [a,b] [x,y]:=z5s h (y1 h' s1) s2
def y3 (h:QX X E a x)(h':QX X E b y)(h2:QX X E c z)(s1:starEach [c] X.env=(false,eval c X.env)::starEach [] X.env:=by rfl)(s2:starEach [b,c] X.env=(false,eval b X.env)::starEach [c] X.env:=by rfl)(s3:starEach [a,b,c] X.env=(false,eval a X.env)::starEach [b,c] X.env:=by rfl):QXA X E [a,b,c] [x,y,z]:=z5s h (y2 h' h2 s1 s2) s3
def yC {id:String}(hc:z1k X (.builtin id) (rN X.K X.mg F))(hm:X.mg f=none)(hv:bootBuiltins f=some (.builtin id))(ha:QXA X E (e::es) xs)(hg:Gl X f:=by rfl)(hn:f≠"__name__":=by decide)(hdb:(f == ("__debug__":Str))=false:=by decide)
  (he:starEach (e::es) X.env=(false,eval e X.env)::starEach es X.env:=by rfl) (hpl:(backTo pos (starEach es X.env)).any (·.1)=false:=by rfl):QX X E (.Call (.Name f pp) (e::es) [] pos) (.op F xs):=zjG hc lkN hg hm hv ha hn hdb he hpl
def yT {id:String}(hc:z1k X (.type id) (rN X.K X.mg F))(hm:X.mg f=none)(hv:bootBuiltins f=some (.type id))(ha:QXA X E (e::es) xs)(hg:Gl X f:=by rfl)(hn:f≠"__name__":=by decide)(hdb:(f == ("__debug__":Str))=false:=by decide)
  (he:starEach (e::es) X.env=(false,eval e X.env)::starEach es X.env:=by rfl) (hpl:(backTo pos (starEach es X.env)).any (·.1)=false:=by rfl):QX X E (.Call (.Name f pp) (e::es) [] pos) (.op F xs):=zhi hc lkN hg hm hv ha hn hdb he hpl
def yr (h:QX X E e x):QZs X E [.Return (some e) pos] (.ret x):=z0J (zbg h)
def yD (hu:X.A.units+64<cLine)(ha:QX X E a x)(hb:QX X E b y)(hs:NoSl b:=by exact λ_ _=>rfl):QX X E (.Subscript a b pos) (.op z1q [x,y]):=zfD (hu1 hu) ha hb hs
def _root_.L2.Room.m {A:Around}(r:Room n A)(h:k<=n:=by decide):Room k A:=r.mono h
def yc {N:List Str}{sc scope:Scope}{nt:Nat}{js:List Nat}(S:Sc N ps sc)(N':List Str)(h:zct N' N nt js scope.names sc.names=true:=by decide +kernel)(hxn:X.N=N:=by rfl)(hosc:X.env.scope=sc:=by rfl):z5o X N' nt js scope:=zct.ok hxn hosc h
def yg {N':List Str}{scope:Scope}{C:Addr}{s:Shared}{H:Hp}{fp:List Addr}{i:Nat}{z:Str}(hN:N'.Nodup:=by decide)(hi:N'[i]? = some z:=by rfl)(hx:(X.compG scope N' C s H fp).env.scope.names.lookup z=some .local:=by rfl):QG (X.compG scope N' C s H fp) (.Name z pos) (tgt X.K (.nm i)):=zhw hN hi hx
def yh {N':List Str}{scope:Scope}{C:Addr}{s:Shared}{H:Hp}{fp:List Addr}{i:Nat}{z:Str}(hN:N'.Nodup:=by decide)(hi:N'[i]? = some z:=by rfl)(hx:(X.compG scope N' C s H fp).env.scope.names.lookup z=some .local:=by rfl):QG (X.compG scope N' C s H fp) (.Name z pos) (z2y i):=zhw hN hi hx
end
def us0 {P:List Value->Prop}(h:P []):∀us,us.length=0->P us
 | [],_=>h
def us1 {P:List Value->Prop}(h:∀a0,P [a0]):∀us,us.length=1->P us
 | [_],_=>h _
def us2 {P:List Value->Prop}(h:∀a0 a1,P [a0,a1]):∀us,us.length=2->P us
 | [_,_],_=>h _ _
def us3 {P:List Value->Prop}(h:∀a0 a1 a2,P [a0,a1,a2]):∀us,us.length=3->P us
 | [_,_,_],_=>h _ _ _
section
variable {K:W.Frag}{mg:WmP}{h:Heap}{CX:CXT}{k:Nat}{n qn:Str}{st:Stmt}{f C:Addr}{ps:List Str}{sp:Sp}
def yL (P:Program)(w:World)(base:Heap)(X:K.In h)(G:h.Ns mainGlobals mg)(d:Std K n st f)(ok:∀fd,Fun K n n st f fd->FnOk P w K mg base CX k f fd ps sp)(hb:∀(kV dc pm:Value) (an:Option Addr) (cd ct:Value) (us:List Value),us.length=ps.length->bindArgs (W.fnOf n n (z1G st) (z0v st) (z01 st) .none kV dc pm an cd ct) ⟨us,[]⟩=pure (ps.zip us):=by first | exact λ_ _ _ _ _ _=>us1 λ_=>rfl | exact λ_ _ _ _ _ _=>us2 λ_ _=>rfl | exact λ_ _ _ _ _ _=>us3 λ_ _ _=>rfl | exact λ_ _ _ _ _ _=>us0 rfl):Cal P w K mg base CX k n ps sp:=zj5 X G d hb ok
def yM (P:Program)(w:World)(base:Heap)(mg:WmP)(d:StdM K C n qn st f)(ok:∀fd,Fun K n qn st f fd->FnOk P w K mg base CX k f fd ps sp)(hb:∀(kV dc pm:Value) (an:Option Addr) (cd ct:Value) (us:List Value),us.length=ps.length->bindArgs (W.fnOf n qn (z1G st) (z0v st) (z01 st) .none kV dc pm an cd ct) ⟨us,[]⟩=pure (ps.zip us):=by first | exact λ_ _ _ _ _ _=>us1 λ_=>rfl | exact λ_ _ _ _ _ _=>us2 λ_ _=>rfl | exact λ_ _ _ _ _ _=>us3 λ_ _ _=>rfl | exact λ_ _ _ _ _ _=>us0 rfl):Cam P w K mg base CX k C n ps sp:=zj4 d hb ok
end
end Pu
end
set_option Elab.async false
set_option linter.all false
set_option maxRecDepth 100000
set_option maxHeartbeats 4000000
namespace My
open PySem L2 Pu
def top (i:Nat):Stmt:=PySem.Challenge.pw_closehaul_k53_deeds_of_a_log.main.body.getD i (.Pass ⟨0,0,0,0⟩)
def z8s:bootBuiltins "ValueError"=some (.type "ValueError"):=by rfl
def z88:("ValueError":Str)≠"__name__":=by decide
def zcz:bootBuiltins "abs"=some (.builtin "abs"):=by rfl
def zjb:bootBuiltins "all"=some (.builtin "all"):=by rfl
def zcy:bootBuiltins "bool"=some (.type "bool"):=by rfl
def zbT:("bool":Str)≠"__name__":=by decide
def zja:bootBuiltins "int"=some (.type "int"):=by rfl
def ziA:("int":Str)≠"__name__":=by decide
def z2f:bootBuiltins "len"=some (.builtin "len"):=by rfl
def zj9:bootBuiltins "list"=some (.type "list"):=by rfl
def ziz:("list":Str)≠"__name__":=by decide
def z9V:bootBuiltins "sorted"=some (.builtin "sorted"):=by rfl
def z9H:("sorted":Str)≠"__name__":=by decide
def zj8:bootBuiltins "str"=some (.type "str"):=by rfl
def ziy:("str":Str)≠"__name__":=by decide
def zcx:bootBuiltins "sum"=some (.builtin "sum"):=by rfl
def z1o:bootBuiltins "tuple"=some (.type "tuple"):=by rfl
def z7g:("tuple":Str)≠"__name__":=by decide
structure Tf (K:W.Frag)(cSailError cNoFraction cNoText cNoShares cNoCourse cNoWind cNoDeed cLog:Addr):Prop where
 l_NoDeed:z1T K cNoDeed=true
 l_NoShares:z1T K cNoShares=true
 l_NoWind:z1T K cNoWind=true
 i_NoDeed_NoWind:W.kitOne K (.ref cNoDeed) (.ref cNoWind)=some false
 i_NoShares_NoWind:W.kitOne K (.ref cNoShares) (.ref cNoWind)=some false
 i_NoWind_NoWind:W.kitOne K (.ref cNoWind) (.ref cNoWind)=some true
 i_NoDeed_NoDeed:W.kitOne K (.ref cNoDeed) (.ref cNoDeed)=some true
 i_NoShares_NoDeed:W.kitOne K (.ref cNoShares) (.ref cNoDeed)=some false
 i_NoWind_NoDeed:W.kitOne K (.ref cNoWind) (.ref cNoDeed)=some false
 i_NoDeed_NoShares:W.kitOne K (.ref cNoDeed) (.ref cNoShares)=some false
 i_NoShares_NoShares:W.kitOne K (.ref cNoShares) (.ref cNoShares)=some true
 i_NoWind_NoShares:W.kitOne K (.ref cNoWind) (.ref cNoShares)=some false
 i_NoDeed_ValueError:W.kitOne K (.ref cNoDeed) (.type "ValueError")=some true
 i_NoShares_ValueError:W.kitOne K (.ref cNoShares) (.type "ValueError")=some true
 i_NoWind_ValueError:W.kitOne K (.ref cNoWind) (.type "ValueError")=some true
 i_NoDeed_t_NoCourse_NoFraction_NoText:W.kitAny K (.ref cNoDeed) [.ref cNoCourse,.ref cNoFraction,.ref cNoText]=some false
 i_NoShares_t_NoCourse_NoFraction_NoText:W.kitAny K (.ref cNoShares) [.ref cNoCourse,.ref cNoFraction,.ref cNoText]=some false
 i_NoWind_t_NoCourse_NoFraction_NoText:W.kitAny K (.ref cNoWind) [.ref cNoCourse,.ref cNoFraction,.ref cNoText]=some false
 m_NoDeed_SailError:W.exmOne K (.ref cNoDeed) (.ref cSailError)=some true
 m_NoShares_SailError:W.exmOne K (.ref cNoShares) (.ref cSailError)=some true
 m_NoWind_SailError:W.exmOne K (.ref cNoWind) (.ref cSailError)=some true
 m_NoWind_NoWind:W.exmOne K (.ref cNoWind) (.ref cNoWind)=some true
structure Txt (K:W.Frag)(mg:WmP)(cSailError cNoFraction cNoText cNoShares cNoCourse cNoWind cNoDeed cLog:Addr):Prop extends Tf K cSailError cNoFraction cNoText cNoShares cNoCourse cNoWind cNoDeed cLog where
 triv:True
 n_ValueError:mg "ValueError"=none
 n_abs:mg "abs"=none
 n_all:mg "all"=none
 n_bool:mg "bool"=none
 n_int:mg "int"=none
 n_isinstance:mg "isinstance"=none
 n_len:mg "len"=none
 n_list:mg "list"=none
 n_range:mg "range"=none
 n_sorted:mg "sorted"=none
 n_str:mg "str"=none
 n_sum:mg "sum"=none
 n_tuple:mg "tuple"=none
 n_zip:mg "zip"=none
 g_LETTERS:∃t,mg "LETTERS"=some (.str "abcdefghijklmnopqrstuvwxyz" t)
 g_MOST_HEADINGS:∃t,mg "MOST_HEADINGS"=some (.int 12 t)
 g_MOST_LETTERS:∃t,mg "MOST_LETTERS"=some (.int 12 t)
 g_MOST_SPEED:∃t,mg "MOST_SPEED"=some (.int 1000000000 t)
 g_MOST_WATCHES:∃t,mg "MOST_WATCHES"=some (.int 12 t)
 x_SailError:Exc K mg "SailError" cSailError
 x_NoFraction:Exc K mg "NoFraction" cNoFraction
 x_NoText:Exc K mg "NoText" cNoText
 x_NoShares:Exc K mg "NoShares" cNoShares
 x_NoCourse:Exc K mg "NoCourse" cNoCourse
 x_NoWind:Exc K mg "NoWind" cNoWind
 x_NoDeed:Exc K mg "NoDeed" cNoDeed
 n_0:mg ""=none
 rc:Rc K mg "Log" cLog
 na_winds:z2H K cLog "winds"
 na_row:z2H K cLog "row"
 na_places:z2H K cLog "places"
 na_standing:z2H K cLog "standing"
 na_undone:z2H K cLog "undone"
local macro_rules | `(tactic| rfl') => `(tactic| first | exact⟨.inl rfl,by decide,by decide⟩ | exact⟨.inr rfl,by decide,by decide⟩ | exact⟨rfl,rfl,rfl,by decide +kernel,rfl,by decide +kernel,by decide +kernel⟩)
abbrev Cl (P:Program)(w:World)(K:W.Frag)(mg:WmP)(base:Heap)(n:Nat)(x:Str)(ps:List Str)(F:Fn):Prop:=Cal P w K mg base (CXe P w) n x ps (spP K mg F)
abbrev Clr (P:Program)(w:World)(K:W.Frag)(mg:WmP)(base:Heap)(n:Nat)(x:Str)(ps:List Str)(F:FnR):Prop:=Cal P w K mg base (CXe P w) n x ps (spR K mg F)
abbrev Fk (P:Program)(w:World)(K:W.Frag)(mg:WmP)(base:Heap)(n:Nat)(f:Addr)(fd:FuncData)(ps:List Str)(F:Fn):Prop:=FnOk P w K mg base (CXe P w) n f fd ps (spP K mg F)
abbrev Fkr (P:Program)(w:World)(K:W.Frag)(mg:WmP)(base:Heap)(n:Nat)(f:Addr)(fd:FuncData)(ps:List Str)(F:FnR):Prop:=FnOk P w K mg base (CXe P w) n f fd ps (spR K mg F)
abbrev ClS (P:Program)(w:World)(K:W.Frag)(mg:WmP)(base:Heap)(n:Nat)(x:Str)(ps:List Str)(F:Fn):Prop:=CalS P w K mg base (CXe P w) n x ps (spP K mg F)
abbrev Fks (P:Program)(w:World)(K:W.Frag)(mg:WmP)(base:Heap)(n:Nat)(f:Addr)(fd:FuncData)(ps:List Str)(F:Fn):Prop:=zay P w K mg base (CXe P w) n f fd ps (spP K mg F)
abbrev z8z:Stmt:=z1F (top 34) 0
def zf4:z1U ["self"] ["self"] (z01 z8z):=by rfl'
abbrev z6p:Stmt:=top 37
abbrev z4d:Stmt:=top 39
abbrev z5z:Stmt:=top 45
abbrev z3m:Stmt:=top 46
abbrev z4g:Stmt:=top 40
abbrev z4e:Stmt:=top 41
abbrev z2k:Stmt:=top 47
abbrev z4f:Stmt:=top 48
abbrev z20:Stmt:=top 49
abbrev z2M:Stmt:=top 50
abbrev z5C:Stmt:=top 51
abbrev z37:Stmt:=top 52
abbrev z3l:Stmt:=top 44
abbrev z6r:Stmt:=top 54
abbrev z7H:Stmt:=top 53
abbrev z4h:Stmt:=top 55
abbrev z5A:Stmt:=top 57
abbrev z6s:Stmt:=top 30
abbrev z5E:Stmt:=top 31
abbrev z2A:Stmt:=top 32
abbrev z6t:Stmt:=top 33
abbrev z2N:Stmt:=top 10
abbrev z3L:Stmt:=top 14
abbrev z3k:Stmt:=top 13
abbrev z3K:Stmt:=top 15
abbrev z5F:Stmt:=top 17
abbrev z4j:Stmt:=top 18
abbrev z4c:Stmt:=top 20
abbrev z9m:Stmt:=top 11
abbrev z4b:Stmt:=top 19
abbrev z54:Stmt:=top 22
abbrev z4i:Stmt:=top 23
abbrev z2l:Stmt:=z1F (top 34) 12
abbrev z39:Stmt:=z1F (top 34) 13
abbrev z3a:Stmt:=z1F (top 34) 7
abbrev z3o:Stmt:=z1F (top 34) 6
abbrev z3n:Stmt:=z1F (top 34) 1
abbrev z3b:Stmt:=z1F (top 34) 2
abbrev z5H:Stmt:=z1F (top 34) 3
abbrev z38:Stmt:=z1F (top 34) 8
abbrev z5G:Stmt:=z1F (top 34) 4
abbrev z57:Stmt:=z1F (top 34) 5
abbrev z5D:Stmt:=top 58
abbrev z5B:Stmt:=top 59
abbrev z5y:Stmt:=top 38
abbrev z3M:Stmt:=top 42
abbrev z6q:Stmt:=top 43
abbrev z52:Stmt:=top 56
abbrev z2O:Stmt:=z1F (top 34) 10
abbrev z36:Stmt:=top 60
abbrev z56:Stmt:=z1F (top 34) 9
abbrev z3N:Stmt:=z1F (top 34) 11
abbrev z55:Stmt:=z1F (top 34) 14
abbrev z53:Stmt:=top 61
abbrev ze4:Stmt:=top 62
section
variable {P:Program}{w:World}{K:W.Frag}{mg:WmP}{base:Heap}{f:Addr}{fd:FuncData}{cSailError cNoFraction cNoText cNoShares cNoCourse cNoWind cNoDeed cLog:Addr}(T:Txt K mg cSailError cNoFraction cNoText cNoShares cNoCourse cNoWind cNoDeed cLog)
include T
omit T in theorem pc_Log:∀c∈[dk [],.lst [],.lst [.tup [.int 0,.int 0,.int 1]],.lst [],.lst []],Pc c:=by
 intro c hc;simp only[wf,wC,vj] at hc
 rcases hc with rfl | rfl | rfl | rfl | rfl
 .intro d hd;cases hd
 .intro d hd;cases hd
 .intro d hd;rw[wZ] at hd;subst hd;exact⟨rfl,rfl⟩
 .intro d hd;cases hd
 .intro d hd;cases hd
theorem zg1 (F:Fun K "__init__" "Log.__init__" z8z f fd):FnOk P w K mg base (CXe P w) 1 f fd ["self"] (zaT K mg cLog ["winds","row","places","standing","undone"] [dk [],.lst [],.lst [.tup [.int 0,.int 0,.int 1]],.lst [],.lst []]):=by
 refine F.okN zf4 (λvs H Q E ⟨p,dx,e,_⟩=>by rw[e];rfl) λcdv A outer s H vs Q E hr z9 =>?_;obtain⟨p,dx,e,hp,k⟩:=z9;subst e;refine⟨_,⟨z4q (z7V (pv 0) z9z rfl) (z4q (z7V (pv 0) (z4t z3u) rfl) (z4q (z7V (pv 0) (z4t (z4O (zes (z4O z9y (z4O z9y (z4O z9y z3u)))) z3u)) rfl) (z4q (z7V (pv 0) (z4t z3u) rfl) (zbx (z7V (pv 0) (z4t z3u) rfl)))))⟩,?_⟩;have hd:Cls K cLog:=T.rc.c;intro a1 n1;have p1:p≠a1:=z0F hp n1;refine⟨_,rfl,p,cLog,dx,[],rfl,(by rw[z02 p1];exact hp),hd,T.na_winds,by decide,vh _,λa2 n2 =>?_⟩;obtain⟨p2,n2⟩:=z08 n2;obtain⟨e21,n2⟩:=z08 n2;refine⟨_,rfl,p,cLog,dx,[("winds",.ref a1)],rfl,(by rw[z02 p2.symm,z06];rfl),hd,T.na_row,(by show 1<1000;decide),(by show 3<=sizeLine;decide),λt nt =>?_⟩;obtain⟨pt,nt⟩:=z08 nt;obtain⟨et2,nt⟩:=z08 nt;obtain⟨_,nt⟩:=z08 nt;obtain⟨et1,nt⟩:=z08 nt;refine⟨(by show 1<=sizeLine;decide),λa3 n3 =>?_⟩;obtain⟨e3t,n3⟩:=z08 n3;obtain⟨p3,n3⟩:=z08 n3;obtain⟨e32,n3⟩:=z08 n3;obtain⟨_,n3⟩:=z08 n3;obtain⟨e31,n3⟩:=z08 n3;have q2:putF "row" (.ref a2) [("winds",.ref a1)]=([("winds",.ref a1),("row",.ref a2)]:List (Str × V)):=z4p (show ("row":Str) ∉ [("winds":Str)] by decide);refine⟨_,rfl,p,cLog,dx,[("winds",.ref a1),("row",.ref a2)],rfl,(by rw[z02 p3.symm,z02 pt.symm,z06,q2]),hd,T.na_places,(by show 2<1000;decide),vh _,λa4 n4 =>?_⟩;obtain⟨p4,n4⟩:=z08 n4;obtain⟨e43,n4⟩:=z08 n4;obtain⟨e4t,n4⟩:=z08 n4;obtain⟨_,n4⟩:=z08 n4;obtain⟨e42,n4⟩:=z08 n4;obtain⟨_,n4⟩:=z08 n4;obtain⟨e41,n4⟩:=z08 n4;have q3:putF "places" (.ref a3) [("winds",.ref a1),("row",.ref a2)]=([("winds",.ref a1),("row",.ref a2),("places",.ref a3)]:List (Str × V)):=z4p (show ("places":Str) ∉ [("winds":Str),("row":Str)] by decide);refine⟨_,rfl,p,cLog,dx,[("winds",.ref a1),("row",.ref a2),("places",.ref a3)],rfl,(by rw[z02 p4.symm,z06,q3]),hd,T.na_standing,(by show 3<1000;decide),vh _,λa5 n5 =>?_⟩;obtain⟨p5,n5⟩:=z08 n5;obtain⟨e54,n5⟩:=z08 n5;obtain⟨_,n5⟩:=z08 n5;obtain⟨e53,n5⟩:=z08 n5;obtain⟨e5t,n5⟩:=z08 n5;obtain⟨_,n5⟩:=z08 n5;obtain⟨e52,n5⟩:=z08 n5;obtain⟨_,n5⟩:=z08 n5;obtain⟨e51,n5⟩:=z08 n5;have q4:putF "standing" (.ref a4) [("winds",.ref a1),("row",.ref a2),("places",.ref a3)]=([("winds",.ref a1),("row",.ref a2),("places",.ref a3),("standing",.ref a4)]:List (Str × V)):=z4p (show ("standing":Str) ∉ [("winds":Str),("row":Str),("places":Str)] by decide);refine⟨_,rfl,p,cLog,dx,[("winds",.ref a1),("row",.ref a2),("places",.ref a3),("standing",.ref a4)],rfl,(by rw[z02 p5.symm,z06,q4]),hd,T.na_undone,(by show 4<1000;decide),?_⟩;refine k (upd (λ_=>none) t (.tup [.int 0,.int 0,.int 1])) _ [a1,a2,a3,a4,a5] (λa o e =>?_) (λa o e =>?_) ⟨?_,?_,?_,?_,?_,trivial⟩ (λa ha =>?_) ?_ ?_ (λb o e hb =>?_)
 .by_cases h:a=t
  .subst h;exact nt
  .rw[z02 h] at e;cases e
 .by_cases h:a=t
  .subst h;rw[z06] at e;rw[z02 pt,z02 e5t.symm,z02 pt,z02 e4t.symm,z02 pt,z02 e3t.symm,z06];exact e
  .rw[z02 h] at e;cases e
 .exact⟨[],RDs.nil,.inl ⟨[],by rw[z02 p1.symm,z02 e51.symm,z02 p1.symm,z02 e41.symm,z02 p1.symm,z02 e31.symm,z02 et1.symm,z02 p1.symm,z02 e21.symm,z02 p1.symm,z06],rfl,rfl⟩⟩
 .exact⟨[],by rw[z02 p2,z02 e52.symm,z02 p2,z02 e42.symm,z02 p2,z02 e32.symm,z02 et2.symm,z02 p2,z06],RDs.nil⟩
 .exact⟨[.ref t],by rw[z02 p3,z02 e53.symm,z02 p3,z02 e43.symm,z02 p3,z06],RDs.cons (by rw[RD];exact⟨t,_,rfl,.inl (.inl z06),RDs.cons RD.int' (RDs.cons RD.int' (RDs.cons RD.int' RDs.nil))⟩) RDs.nil⟩
 .exact⟨[],by rw[z02 p4,z02 e54.symm,z02 p4,z06],RDs.nil⟩
 .exact⟨[],by rw[z02 p5,z06],RDs.nil⟩
 .have hh:H a=none/\a≠t:=by
   simp only[wf,wC,vj] at ha
   rcases ha with rfl | rfl | rfl | rfl | rfl
   .exact⟨n1,et1.symm⟩
   .exact⟨n2,et2.symm⟩
   .exact⟨n3,e3t⟩
   .exact⟨n4,e4t⟩
   .exact⟨n5,e5t⟩
  exact⟨hh.1,by rw[z02 hh.2]⟩
 .simp only[wO,wf,wC,vj,not_or,not_false_eq_true,List.nodup_nil,and_true];exact⟨⟨e21.symm,e31.symm,e41.symm,e51.symm⟩,⟨e32.symm,e42.symm,e52.symm⟩,⟨e43.symm,e53.symm⟩,e54.symm⟩
 .rw[z06,show putF "undone" (.ref a5) [("winds",.ref a1),("row",.ref a2),("places",.ref a3),("standing",.ref a4)]=([("winds",.ref a1),("row",.ref a2),("places",.ref a3),("standing",.ref a4),("undone",.ref a5)]:List (Str × V)) from z4p (show ("undone":Str) ∉ [("winds":Str),("row":Str),("places":Str),("standing":Str)] by decide)];rfl
 .have f1:b≠a1:=λz=>by rw[z,n1] at e;cases e
  have f2:b≠a2:=λz=>by rw[z,n2] at e;cases e
  have f3:b≠a3:=λz=>by rw[z,n3] at e;cases e
  have f4:b≠a4:=λz=>by rw[z,n4] at e;cases e
  have f5:b≠a5:=λz=>by rw[z,n5] at e;cases e
  have ft:b≠t:=λz=>by rw[z,nt] at e;cases e
  rw[z02 hb,z02 f5,z02 hb,z02 f4,z02 hb,z02 f3,z02 ft,z02 hb,z02 f2,z02 hb,z02 f1];exact e
theorem zab (F:Fun K "_law_mix" "_law_mix" z6p f fd):Fk P w K mg base 1 f fd ["cell","k"] z05:=
 yN ["cell","k","prime","number"] F λcdv A outer s H E S hr hu=>yZ S z00 (yZ S (yB z0H (yB z0y (yB z19 (yB z19 (yB z0H (yV S) (yV S)) (yB z0y z00 (yV S))) z00) z00) (yV S)) (yr (yB z0u (yB z0H (yB z0y (yB z0H (yB z0y (yV S) (yV S)) (yV S)) z00) (yV S)) z00)))
theorem z74 (F:Fun K "_law_vector" "_law_vector" z4d f fd)(q0:Cl P w K mg base 1 "_law_mix" ["cell","k"] z05):Fk P w K mg base 2 f fd ["cell","k","most"] z0L:=
 yN ["cell","k","most","east"] F λcdv A outer s H E S hr hu=>yZ S (yB z6A (yB z0H (yF q0 hr (y2 (yV S) (yV S))) (yB z19 (yB z0y z00 (yV S)) z00)) (yV S)) (yr (z0w (y2 (yV S) (yB z6A (yB z0H (yF q0 hr (y2 (yV S) (yB z19 (yV S) z00))) (yB z19 (yB z0y z00 (yV S)) z00)) (yV S)))))
theorem z8N (F:Fun K "_law_name" "_law_name" z5z f fd):Fk P w K mg base 1 f fd ["number"] z0Y:=
 yN ["number","letters","word","k"] F λcdv A outer s H E S hr hu=>yZ S z0a (yZ S (yI (yV S) (yB z0H (yV S) z00)) (z07 (z4l (g:=(.nm 3)) wY rfl (glg rfl) T.n_range (y1 (yB z0y (yB z0H (yB z0u (yV S) z00) z00) z00)) (yn S) (z0J (z1I (ya S (yB z19 (yV S) (yI (yV S) (yB z0H (yB z19 (yB z0u (yV S) z00) (yB z0y (yV S) (yV S))) z00))))))) (yr (yV S))))
theorem z5S (F:Fun K "_law_any_name" "_law_any_name" z3m f fd):Fk P w K mg base 1 f fd ["cell"] z14:=
 yN ["cell","letters","word","rest","k"] F λcdv A outer s H E S hr hu=>yZ S z0a (yZ S z0a (yZ S (yB z0u (yV S) z00) (z07 (z4l (g:=(.nm 4)) wY rfl (glg rfl) T.n_range (y1 (yB z19 z00 (yB z0H (yV S) z00))) (yn S) (yZ S (yB z19 (yV S) (yI (yV S) (yB z0H (yV S) z00))) (z0J (z1I (ya S (yB z0u (yV S) z00)))))) (yr (yV S)))))
theorem z77 (F:Fun K "_law_common" "_law_common" z4g f fd):Fk P w K mg base 1 f fd ["one","other"] z0f:=
 yN ["one","other"] F λcdv A outer s H E S hr hu=>z07 (z9q wY (yK (z5m hu) (yV S) z00) (z0J (zfi (i:=0) (j:=1) rfl S.fs.nd rfl rfl (by decide) rfl rfl (y2 (yV S) (yB z0H (yV S) (yV S))) rfl))) (yr (yV S))
theorem z75 (F:Fun K "_law_lowest" "_law_lowest" z4e f fd)(q1:Cl P w K mg base 1 "_law_common" ["one","other"] z0f):Fk P w K mg base 2 f fd ["top","bottom"] z0M:=
 yN ["top","bottom","part"] F λcdv A outer s H E S hr hu=>yZ S (yF q1 hr (y2 (yC z8l T.n_abs zcz (y1 (yV S))) (yV S))) (yr (z0w (y2 (yB z0u (yV S) (yV S)) (yB z0u (yV S) (yV S)))))
theorem z3Z (F:Fun K "_law_whole_shares" "_law_whole_shares" z2k f fd)(q0:Cl P w K mg base 1 "_law_mix" ["cell","k"] z05)(q5:Cl P w K mg base 2 "_law_lowest" ["top","bottom"] z0M):Fk P w K mg base 3 f fd ["many","cell"] z0K:=
 yN ["many","cell","weights","rest","k"] F λcdv A outer s H E S hr hu=>z07 (zbh (ya S (z24 (tg:=(.nm 0)) (ct:=none) rfl (z4N (glg rfl) T.n_range (y1 (yV S))) rfl (yc S ["k","cell"]) rfl (λC s2 H2 fp=>yg) trivial (λC s2 H2 fp=>yB z0H (yF q0 hr (y2 (qx_v (qv 1)) (yB z19 z00 (qx_v (qv 0))))) (yI (QF.qx (z2q (y3 z00 z00 (yB z5V z00 z00)))) (yB z0H (yF q0 hr (y2 (qx_v (qv 1)) z00)) z00)))))) (z07 (z0Z (yK (z1c hu) (yB z0H (yF q0 hr (y2 (yV S) z00)) z00) z00) (yZ S (yV S) (z0J (z4l (g:=(.nm 4)) wY rfl (glg rfl) T.n_range (y1 (yV S)) (yn S) (z07 (zej (yv S) (yV S) (yB z0H (yV S) (yB z5V z00 z00)) (λhe hg=>zem he hg)) (z0J (z1I (ya S (yB z0u (yV S) (yB z5V z00 z00))))))))) z0k) (z07 (z0Z (yK (z1c hu) (yC (z8k rfl) T.n_sum zcx (y1 (yV S))) z00) (z0J (zej (yv S) (yB z0H (yF q0 hr (y2 (yV S) z00)) (yV S)) z00 (λhe hg=>zem he hg))) z0k) (yr (yT z1t T.n_tuple z1o (y1 (QF.qx (z24 (tg:=(.nm 0)) (ct:=(some _)) rfl (z4N (glg rfl) T.n_range (y1 (yV S))) rfl (yc S ["k","weights"]) rfl (λC s2 H2 fp=>yg) (λC s2 H2 fp=>yK (zdB hu) (yI (qx_v (qv 1)) (qx_v (qv 0))) z00) (λC s2 H2 fp=>z0w (y2 (qx_v (qv 0)) (yF q5 hr (y2 (yI (qx_v (qv 1)) (qx_v (qv 0))) (yC (z8k rfl) T.n_sum zcx (y1 (qx_v (qv 1)))))))))))))))
theorem z76 (F:Fun K "_law_digits" "_law_digits" z4f f fd):Fk P w K mg base 1 f fd ["cell","far"] z0N:=
 yN ["cell","far","wide"] F λcdv A outer s H E S hr hu=>yZ S (yB z19 (yB z0y z00 (yV S)) z00) (yr (z0w (y2 (yB z6A (yB z0H (yV S) (yV S)) (yV S)) (yB z6A (yB z0H (yB z0u (yV S) (yV S)) (yV S)) (yV S)))))
theorem z3v (F:Fun K "_law_wind_by_digits" "_law_wind_by_digits" z20 f fd)(q6:Cl P w K mg base 1 "_law_digits" ["cell","far"] z0N):Fk P w K mg base 2 f fd ["cell","far"] z0D:=
 yN ["cell","far","rest","rows","k"] F λcdv A outer s H E S hr hu=>yZ S (yB z0u (yV S) z00) (z07 (zbh (ya S (z2q z3W))) (z07 (z4l (g:=(.nm 4)) wY rfl (glg rfl) T.n_range (y1 (yB z19 z00 (yB z0H (yV S) z00))) (yn S) (z07 (zek (yv S) (y1 (yF q6 hr (y2 (yV S) (yV S))))) (z0J (z1I (ya S (yB z0u (yB z0u (yV S) (yB z19 (yB z0y z00 (yV S)) z00)) (yB z19 (yB z0y z00 (yV S)) z00))))))) (yr (yT z1t T.n_tuple z1o (y1 (yV S))))))
theorem z4Q (F:Fun K "_law_small_wind" "_law_small_wind" z2M f fd)(q0:Cl P w K mg base 1 "_law_mix" ["cell","k"] z05)(q7:Cl P w K mg base 2 "_law_vector" ["cell","k","most"] z0L)(q8:Cl P w K mg base 2 "_law_wind_by_digits" ["cell","far"] z0D):Fk P w K mg base 3 f fd ["cell"] z0W:=
 yN ["cell","most","many"] F λcdv A outer s H E S hr hu=>z07 (z0Z (yK (z1c hu) (yB z0H (yF q0 hr (y2 (yV S) z00)) z00) z00) (yr (yF q8 hr (y2 (yV S) (yI (QF.qx (z2q (y2 z00 (yB z5V z00 z00)))) (yB z0H (yF q0 hr (y2 (yV S) z00)) z00))))) z0k) (yZ S (yI (QF.qx (z2q (y3 z00 z00 (yB z5V z00 z00)))) (yB z0H (yF q0 hr (y2 (yV S) z00)) z00)) (yZ S (yB z19 z00 (yB z0H (yF q0 hr (y2 (yV S) z00)) (yI (QF.qx (z2q (y3 z00 z00 z00))) (yB z0H (yF q0 hr (y2 (yV S) z00)) z00)))) (yr (yT z1t T.n_tuple z1o (y1 (QF.qx (z24 (tg:=(.nm 0)) (ct:=none) rfl (z4N (glg rfl) T.n_range (y1 (yV S))) rfl (yc S ["k","cell","most"]) rfl (λC s2 H2 fp=>yg) trivial (λC s2 H2 fp=>yF q7 hr (y3 (qx_v (qv 1)) (yB z19 z00 (yB z0y z00 (qx_v (qv 0)))) (qx_v (qv 2)))))))))))
theorem z8Q (F:Fun K "_law_deed" "_law_deed" z5C f fd)(q0:Cl P w K mg base 1 "_law_mix" ["cell","k"] z05)(q7:Cl P w K mg base 2 "_law_vector" ["cell","k","most"] z0L)(q9:Cl P w K mg base 1 "_law_name" ["number"] z0Y)(qa:Cl P w K mg base 1 "_law_any_name" ["cell"] z14)(qb:Cl P w K mg base 3 "_law_whole_shares" ["many","cell"] z0K)(q6:Cl P w K mg base 1 "_law_digits" ["cell","far"] z0N)(qc:Cl P w K mg base 3 "_law_small_wind" ["cell"] z0W):Fk P w K mg base 4 f fd ["state","cell"] z1g:=
 yN ["state","cell","way","name","stream","many","shares","twice"] F λcdv A outer s H E S hr hu=>yZ S (yB z0H (yF q0 hr (y2 (yV S) z00)) z00) (yZ S (yF q9 hr (y1 (yB z0H (yF q0 hr (y2 (yV S) z00)) z00))) (z07 (z0Z (yK (z1c hu) (yB z0H (yF q0 hr (y2 (yV S) z00)) z00) z00) (z0J (z1I (ya S (yF qa hr (y1 (yV S)))))) z0k) (z07 (z0Z (yK (zg4 hu) (yV S) z00) (yr (z0w (y3 z0a (yV S) (yF qc hr (y1 (yV S)))))) z0k) (z07 (z0Z (yK (zg4 hu) (yV S) z00) (yZ S (yF q7 hr (y3 (yV S) z00 (yI (QF.qx (z2q (y3 z00 z00 (yB z5V z00 z00)))) (yB z0H (yF q0 hr (y2 (yV S) z00)) z00)))) (z07 (z0Z (yK (z1c hu) (yB z0H (yF q0 hr (y2 (yV S) z00)) z00) z00) (z0J (z1I (ya S (yF q6 hr (y2 (yV S) (yB z5V z00 z00)))))) z0k) (yr (z0w (y3 z0a (yV S) (yV S)))))) z0k) (z07 (z0Z (yK (zg4 hu) (yV S) z00) (yZ S (yB z19 z00 (yB z0H (yF q0 hr (y2 (yV S) z00)) z00)) (z07 (z0Z (yK (zdB hu) (yC z1i T.n_len z2f (y1 (yD hu (yV S) z0a))) (yC z1i T.n_len z2f (y1 (yD hu (yV S) z0a)))) (z0J (z1I (ya S (yC z1i T.n_len z2f (y1 (yI (yI (yD hu (yV S) z0a) (yC z1i T.n_len z2f (y1 (yD hu (yV S) z0a)))) z00)))))) z0k) (yZ S (yF qb hr (y2 (yV S) (yV S))) (z07 (z0Z (yK (z1c hu) (yB z0H (yF q0 hr (y2 (yV S) z00)) z00) z00) (z0J (z1I (ya S (yB z19 (yV S) (z0w (y1 (z0w (y2 (yV S) (z0w (y2 z00 z00)))))))))) z0k) (z07 (z0Z (yK (z1c hu) (yB z0H (yF q0 hr (y2 (yV S) z00)) z00) z00) (z0J (z1I (ya S (z6g (yV S) (z2o z00) z2p)))) z0k) (z07 (z0Z (yK (z1c hu) (yB z0H (yF q0 hr (y2 (yV S) z00)) z00) z00) (yZ S (z0w (y2 (yB z0y (yI (yI (yI (yV S) z00) z00) z00) z00) (yB z0y (yI (yI (yI (yV S) z00) z00) z00) z00))) (z0J (z1I (ya S (yB z19 (z0w (y1 (z0w (y2 (yI (yI (yV S) z00) z00) (yV S))))) (z6g (yV S) (z2o z00) z2p)))))) z0k) (yr (z0w (y2 z0a (yV S)))))))))) z0k) (yr (yI (QF.qx (z2q (z5s (z0w (y1 z0a)) (y3 (z0w (y1 z0a)) (z0w (y1 z0a)) (z0w (y1 z0a)))))) (yB z6A (yV S) z00))))))))
theorem z5h (F:Fun K "_law_new_state" "_law_new_state" z37 f fd):Fkr P w K mg base 1 f fd [] z0h:=
 yRN [] F λcdv A outer s H E S hr hu=>z0q (zbo T.n_0 (by decide) (λ_ _ _ _ _=>rfl) z2S z2S z2S z2S z2S ⟨z9z⟩ ⟨z4t z3u⟩ ⟨z4t z3u⟩ ⟨z4t z3u⟩ ⟨z4t z3u⟩)
theorem z5R (F:Fun K "_law_together" "_law_together" z3l f fd)(q5:Cl P w K mg base 2 "_law_lowest" ["top","bottom"] z0M):Fk P w K mg base 3 f fd ["shares"] z13:=
 yN ["shares","bottom","heading","share"] F λcdv A outer s H E S hr hu=>yZ S z00 (z07 (z59 (js:=[]) (g:=(.tp [2,3])) wY rfl (qi_x (yV S)) (z3f rfl (z0t (yn S) (z0t (yn S) z23))) (z0J (z1I (ya S (yB z0y (yV S) (yI (yV S) z00)))))) (yr (yF q5 hr (y2 (yC (z8k rfl) T.n_sum zcx (y1 (QF.qx (z24 (tg:=(.tp [0,1])) (ct:=none) rfl (qi_x (yV S)) rfl (yc S ["heading","share","bottom"]) rfl (λC s2 H2 fp=>z3f rfl (z0t yh (z0t yh z23))) trivial (λC s2 H2 fp=>yB z0y (yI (qx_v (qv 1)) z00) (yB z0u (qx_v (qv 2)) (yI (qx_v (qv 1)) z00))))))) (yV S)))))
theorem zad (F:Fun K "_law_due" "_law_due" z6r f fd)(q1:Cl P w K mg base 1 "_law_common" ["one","other"] z0f)(qd:Cl P w K mg base 3 "_law_together" ["shares"] z13):Fk P w K mg base 4 f fd ["state","deed"] z0i:=
 yN ["state","deed","many"] F λcdv A outer s H E S hr hu=>z07 (z0Z (QW.pt (z3d (QW.pt (z4L (yK (z1c hu) (yI (yV S) z00) z0a) (z3B (yK (z1c hu) (yD hu (yV S) z0a) (QF.qx (z2q z3W)))))) (z2I (QW.pt (z4L (yK (z1c hu) (yI (yV S) z00) z0a) (z3B (yK (z1c hu) (yD hu (yV S) z0a) (QF.qx (z2q z3W))))))))) (yr z0a) z0k) (z07 (z0Z (QW.pt (z4L (yK (z1c hu) (yI (yV S) z00) z0a) (z3B (z5K (hu1 hu) (yI (yV S) z00) (yD hu (yV S) z0a))))) (yr z0a) z0k) (z07 (z0Z (QW.pt (z4L (yK (z1c hu) (yI (yV S) z00) z0a) (z3B (yK (z1c hu) (yC z1i T.n_len z2f (y1 (yD hu (yV S) z0a))) z00)))) (yr z0a) z0k) (z07 (z0Z (QW.pt (z4L (yK (z1c hu) (yI (yV S) z00) z0a) (z3B (yK (z1c hu) (yC z1i T.n_len z2f (y1 (yD hu (yV S) z0a))) (yC z1i T.n_len z2f (y1 (yD hu (yV S) z0a))))))) (yr z0a) z0k) (z07 (z0Z (yK (z1c hu) (yI (yV S) z00) z0a) (yZ S (yC z1i T.n_len z2f (y1 (yI (yI (yD hu (yV S) z0a) (yC z1i T.n_len z2f (y1 (yD hu (yV S) z0a)))) z00))) (z07 (z0Z (QW.pt (z3d (yK (z5m hu) (QF.qx (z24 (tg:=(.nm 0)) (ct:=(some _)) rfl (qi_x (yI (yV S) z00)) rfl (yc S ["row","many"]) rfl (λC s2 H2 fp=>yg) (λC s2 H2 fp=>yK zif (yI (qx_v (qv 0)) z00) (qx_v (qv 1))) (λC s2 H2 fp=>qx_v (qv 0)))) (QF.qx (z2q z3W))) (z2I (yK (z5m hu) (yF qd hr (y1 (yI (yV S) z00))) (z0w (y2 z00 z00)))))) (yr z0a) z0k) (z0J (z0Z (yK (z5m hu) (QF.qx (z24 (tg:=(.nm 0)) (ct:=(some _)) rfl (qi_x (yI (yV S) z00)) rfl (yc S ["row"]) rfl (λC s2 H2 fp=>yg) (λC s2 H2 fp=>yK (z5m hu) (yF q1 hr (y2 (yI (yI (qx_v (qv 0)) z00) z00) (yI (yI (qx_v (qv 0)) z00) z00))) z00) (λC s2 H2 fp=>qx_v (qv 0)))) (QF.qx (z2q z3W))) (yr z0a) z0k)))) z0k) (yr z5a)))))
theorem zbM (F:Fun K "_law_do" "_law_do" z7H f fd):Fkr P w K mg base 1 f fd ["state","deed"] z0I:=
 yRN ["state","deed"] F λcdv A outer s H E S hr hu=>z0e (z3g (yK (z1c hu) (yI (yV S) z00) z0a) (z0q (z9u (hu1 hu) (Fl.key (hu1 hu) (by decide) rfl (yv S) z2S (λ_ _=>rfl)) (yI (yV S) z00) (yI (yV S) z00))) (z0q (z3g (yK (z1c hu) (yI (yV S) z00) z0a) (z0q (z2Z (Fl.key (hu1 hu) (by decide) rfl (yv S) z2S (λ_ _=>rfl)) (y1 (z0w (y2 (yD hu (yD hu (yV S) z0a) (yI (yV S) z00)) (yI (yV S) z00)))))) (z0q (z2Z (Fl.key (hu1 hu) (by decide) rfl (yv S) z2S (λ_ _=>rfl)) (y1 (yI (yV S) z00))))))) (z0q (z2Z (Fl.key (hu1 hu) (by decide) rfl (yv S) z2S (λ_ _=>rfl)) (y1 (yV S))))
theorem z78 (F:Fun K "_law_behind" "_law_behind" z4h f fd)(qe:Clr P w K mg base 1 "_law_new_state" [] z0h)(qf:Clr P w K mg base 1 "_law_do" ["state","deed"] z0I):Fkr P w K mg base 2 f fd ["state","deed"] z0m:=
 yRN ["state","deed","fresh","one"] F λcdv A outer s H E S hr hu=>z0e (z3g (yK (z1c hu) (yI (yV S) z00) z0a) (z0e (z4n (ya S (zbs qe hr.m z1w (glg rfl) rfl))) (z0e (zfv wY rfl (zjI (yD hu (yV S) z0a) z2p (z2o (z8I z5P lk1 z00))) (yn S) (z0q (z5f (zbt qf hr.m z1w (z0l (z3P (yv S)) (z0l (z3H (yV S)) z1x)) (glg rfl) rfl)))) (z0e (zbr (hu1 hu) (by decide) rfl (by show 5<sizeLine;decide) (yv S) z2S (zfA (yD hu (yV S) z0a) (z6g (yD hu (yV S) z0a) (z2o (z8I z5P lk1 z00)) z2p))) (z0q (z4m (z3P (yv S))))))) z3e) (z0e (z3g (yK (z1c hu) (yI (yV S) z00) z0a) (z0e (z5f (zbt qf hr.m z1w (z0l (z3P (yv S)) (z0l (z5L (Fl.key (hu1 hu) (by decide) rfl (yv S) z2S (λ_ _=>rfl))) z1x)) (glg rfl) rfl)) (z0q (z4m (z3P (yv S))))) z3e) (z0e (zbr (hu1 hu) (by decide) rfl (by show 5<sizeLine;decide) (yv S) z2S (z2q z3W)) (z0e (z5f (zbt qf hr.m z1w (z0l (z3P (yv S)) (z0l (z3H (yV S)) z1x)) (glg rfl) rfl)) (z0q (z4m (z3P (yv S)))))))
theorem z8O (F:Fun K "_law_kind" "_law_kind" z5A f fd):Fks P w K mg base 1 f fd ["error"] z1E:=
 yS ["error","kinds"] F λcdv A B outer s H E S hr hu=>z07 (z8H (i:=1) S.fs.nd rfl (S.lc 1) (QF.qx (z2q (y3 (z8J (xs:=["NoDeed","NoShares","NoWind"]) (f:=(λx=>x == "NoWind")) (by rfl) T.n_isinstance (qx_v (qv 0)) (by rfl) T.x_NoWind rfl (z0j T.x_NoDeed.nm T.l_NoDeed (z0j T.x_NoShares.nm T.l_NoShares (z0j T.x_NoWind.nm T.l_NoWind z35))) (z0j T.x_NoDeed.nm T.i_NoDeed_NoWind (z0j T.x_NoShares.nm T.i_NoShares_NoWind (z0j T.x_NoWind.nm T.i_NoWind_NoWind z35)))) (z8J (xs:=["NoDeed","NoShares","NoWind"]) (f:=(λx=>x == "NoDeed")) (by rfl) T.n_isinstance (qx_v (qv 0)) (by rfl) T.x_NoDeed rfl (z0j T.x_NoDeed.nm T.l_NoDeed (z0j T.x_NoShares.nm T.l_NoShares (z0j T.x_NoWind.nm T.l_NoWind z35))) (z0j T.x_NoDeed.nm T.i_NoDeed_NoDeed (z0j T.x_NoShares.nm T.i_NoShares_NoDeed (z0j T.x_NoWind.nm T.i_NoWind_NoDeed z35)))) (z8J (xs:=["NoDeed","NoShares","NoWind"]) (f:=(λx=>x == "NoShares")) (by rfl) T.n_isinstance (qx_v (qv 0)) (by rfl) T.x_NoShares rfl (z0j T.x_NoDeed.nm T.l_NoDeed (z0j T.x_NoShares.nm T.l_NoShares (z0j T.x_NoWind.nm T.l_NoWind z35))) (z0j T.x_NoDeed.nm T.i_NoDeed_NoShares (z0j T.x_NoShares.nm T.i_NoShares_NoShares (z0j T.x_NoWind.nm T.i_NoWind_NoShares z35)))))))) (z07 (z0Z (QW.pt (z3d (z0T (zfl (cs:=[cNoCourse,cNoFraction,cNoText]) (xs:=["NoDeed","NoShares","NoWind"]) (f:=(λ_=>false)) (by rfl) T.n_isinstance (qx_v (qv 0)) (z6X (by rfl) T.x_NoCourse rfl (z6X (by rfl) T.x_NoFraction rfl (z6X (by rfl) T.x_NoText rfl zfF))) (by show 3<=sizeLine;decide) (z0j T.x_NoDeed.nm T.l_NoDeed (z0j T.x_NoShares.nm T.l_NoShares (z0j T.x_NoWind.nm T.l_NoWind z35))) (z0j T.x_NoDeed.nm T.i_NoDeed_t_NoCourse_NoFraction_NoText (z0j T.x_NoShares.nm T.i_NoShares_t_NoCourse_NoFraction_NoText (z0j T.x_NoWind.nm T.i_NoWind_t_NoCourse_NoFraction_NoText z35))))) (z3d (yK (z5m hu) (zbk (qx_v (qv 1)) (y1 z2Y)) z00) (z2I (z16 (z0T (zfk (T:="ValueError") (xs:=["NoDeed","NoShares","NoWind"]) (f:=(λ_=>true)) (by rfl) T.n_isinstance (qx_v (qv 0)) (z25 (v :=.ty "ValueError") (by rfl) T.n_ValueError z8s rfl z88 rfl) (z0j T.x_NoDeed.nm T.l_NoDeed (z0j T.x_NoShares.nm T.l_NoShares (z0j T.x_NoWind.nm T.l_NoWind z35))) (z0j T.x_NoDeed.nm T.i_NoDeed_ValueError (z0j T.x_NoShares.nm T.i_NoShares_ValueError (z0j T.x_NoWind.nm T.i_NoWind_ValueError z35)))))))))) (yr z0a) z0k) (yr (yI (QF.qx (z2q (y3 z0a z0a z0a))) (zbj (qx_v (qv 1)) (y1 z2Y)))))
theorem zae (F:Fun K "is_word" "is_word" z6s f fd):Fk P w K mg base 1 f fd ["name"] z4A:=
 yN ["name"] F λcdv A outer s H E S hr hu=>yr (z5b (z9s (z8W hu) (z8W hu) lk2 lk2 z00 (yC z1i T.n_len z2f (y1 (yV S))) (qx_c (z4o (glg rfl) T.g_MOST_LETTERS rfl) λ_=>RD.int')) (z7P (yC (zeP rfl) T.n_all zjb (y1 (QF.qx (z24 (tg:=(.nm 0)) (ct:=none) rfl (qi_x (yV S)) rfl (yc S ["sign"]) rfl (λC s2 H2 fp=>yg) trivial (λC s2 H2 fp=>zel zie lk2 (qx_v (qv 0)) (qx_c (zd8 (by rfl) T.g_LETTERS rfl) λ_=>RD.str') (by with_unfolding_all rfl))))))))
theorem z8S (F:Fun K "is_speed" "is_speed" z5E f fd):Fk P w K mg base 1 f fd ["number"] z2T:=
 yN ["number"] F λcdv A outer s H E S hr hu=>z07 (z0Z (QW.pt (z3d (z16 (z0T (z3t (T:="int") (by decide) (glg rfl) T.n_isinstance (yV S) (z25 (v :=.ty "int") (glg rfl) T.n_int zja rfl ziA rfl)))) (z2I (z0T (z3t (T:="bool") (by decide) (glg rfl) T.n_isinstance (yV S) (z25 (v :=.ty "bool") (glg rfl) T.n_bool zcy rfl zbT rfl)))))) (yr z2Y) z0k) (yr (z9s (z8W hu) (z8W hu) lk2 lk2 (z8I z5P lk1 (qx_c (z4o (glg rfl) T.g_MOST_SPEED rfl) λ_=>RD.int')) (yV S) (qx_c (z4o (glg rfl) T.g_MOST_SPEED rfl) λ_=>RD.int')))
theorem z4v (F:Fun K "is_speed_vector" "is_speed_vector" z2A f fd)(qg:Cl P w K mg base 1 "is_speed" ["number"] z2T):Fk P w K mg base 2 f fd ["vector"] z0S:=
 yN ["vector"] F λcdv A outer s H E S hr hu=>yr (z5b (z3t (T:="tuple") (by decide) (glg rfl) T.n_isinstance (yV S) (z25 (v :=.ty "tuple") (glg rfl) T.n_tuple z1o rfl z7g rfl)) (z5b (yk (z1c hu) (yC z1i T.n_len z2f (y1 (yV S))) z00) (z5b (yF qg hr (y1 (yI (yV S) z00))) (z7P (yF qg hr (y1 (yI (yV S) z00)))))))
theorem zaf (F:Fun K "is_wind" "is_wind" z6t f fd)(qh:Cl P w K mg base 2 "is_speed_vector" ["vector"] z0S):Fk P w K mg base 3 f fd ["wind"] z4B:=
 yN ["wind"] F λcdv A outer s H E S hr hu=>z07 (z0Z (QW.pt (z3d (z16 (z0T (z3t (T:="tuple") (by decide) (glg rfl) T.n_isinstance (yV S) (z25 (v :=.ty "tuple") (glg rfl) T.n_tuple z1o rfl z7g rfl)))) (z2I (z16 (zbl (z8W hu) (z8W hu) lk2 lk2 z00 (yC z1i T.n_len z2f (y1 (yV S))) (qx_c (z4o (glg rfl) T.g_MOST_HEADINGS rfl) λ_=>RD.int')))))) (yr z2Y) z0k) (yr (yC (zeP rfl) T.n_all zjb (y1 (QF.qx (z24 (tg:=(.nm 0)) (ct:=none) rfl (qi_x (yV S)) rfl (yc S ["heading"]) rfl (λC s2 H2 fp=>yg) trivial (λC s2 H2 fp=>yF qh hr (y1 (qx_v (qv 0)))))))))
theorem z4R (F:Fun K "common_divisor" "common_divisor" z2N f fd):Fk P w K mg base 1 f fd ["one","other"] z0b:=
 yN ["one","other","great","small","rest"] F λcdv A outer s H E S hr hu=>yZ S (yC z8l T.n_abs zcz (y1 (yV S))) (yZ S (yC z8l T.n_abs zcz (y1 (yV S))) (z07 (z9q wY (yK (z5m hu) (yV S) z00) (yZ S (yB z0H (yV S) (yV S)) (yZ S (yV S) (z0J (z1I (ya S (yV S))))))) (yr (yV S))))
theorem z6i (F:Fun K "place_added" "place_added" z3L f fd)(qi:Cl P w K mg base 1 "common_divisor" ["one","other"] z0b):Fk P w K mg base 2 f fd ["one","other"] z0Q:=
 yN ["one","other","shared","one_times","other_times","x","y","rest"] F λcdv A outer s H E S hr hu=>yZ S (yF qi hr (y2 (yI (yV S) z00) (yI (yV S) z00))) (yZ S (yB z0u (yI (yV S) z00) (yV S)) (yZ S (yB z0u (yI (yV S) z00) (yV S)) (yZ S (yB z19 (yB z0y (yI (yV S) z00) (yV S)) (yB z0y (yI (yV S) z00) (yV S))) (yZ S (yB z19 (yB z0y (yI (yV S) z00) (yV S)) (yB z0y (yI (yV S) z00) (yV S))) (yZ S (yF qi hr (y2 (yF qi hr (y2 (yV S) (yV S))) (yV S))) (yr (z0w (y3 (yB z0u (yV S) (yV S)) (yB z0u (yV S) (yV S)) (yB z0y (yV S) (yB z0u (yI (yV S) z00) (yV S)))))))))))
theorem z5Q (F:Fun K "lowest_place" "lowest_place" z3k f fd)(qi:Cl P w K mg base 1 "common_divisor" ["one","other"] z0b):Fk P w K mg base 2 f fd ["x","y","bottom"] z1Y:=
 yN ["x","y","bottom","divisor"] F λcdv A outer s H E S hr hu=>yZ S (yF qi hr (y2 (yF qi hr (y2 (yV S) (yV S))) (yV S))) (yr (z0w (y3 (yB z0u (yV S) (yV S)) (yB z0u (yV S) (yV S)) (yB z0u (yV S) (yV S)))))
theorem z6h (F:Fun K "place_times" "place_times" z3K f fd)(qj:Cl P w K mg base 2 "lowest_place" ["x","y","bottom"] z1Y):Fk P w K mg base 3 f fd ["place","fraction"] z2d:=
 yN ["place","fraction"] F λcdv A outer s H E S hr hu=>yr (yF qj hr (y3 (yB z0y (yI (yV S) z00) (yI (yV S) z00)) (yB z0y (yI (yV S) z00) (yI (yV S) z00)) (yB z0y (yI (yV S) z00) (yI (yV S) z00))))
theorem z8T (F:Fun K "is_share" "is_share" z5F f fd)(qi:Cl P w K mg base 1 "common_divisor" ["one","other"] z0b):Fk P w K mg base 2 f fd ["share"] z2U:=
 yN ["share"] F λcdv A outer s H E S hr hu=>yr (z5b (yk (zdB hu) (yI (yV S) z00) z00) (z5b (yk (zdB hu) (yI (yV S) z00) z00) (z7P (yk (z1c hu) (yF qi hr (y2 (yI (yV S) z00) (yI (yV S) z00))) z00))))
theorem z7a (F:Fun K "are_shares" "are_shares" z4j f fd)(qk:Cl P w K mg base 2 "is_share" ["share"] z2U):Fk P w K mg base 3 f fd ["wind","shares"] z1b:=
 yN ["wind","shares","ahead","heading","share"] F λcdv A outer s H E S hr hu=>yZ S (z8I z5P lk1 z00) (z07 (z59 (js:=[]) (g:=(.tp [3,4])) wY rfl (qi_x (yV S)) (z3f rfl (z0t (yn S) (z0t (yn S) z23))) (z07 (z0Z (QW.pt (z3d (yK (z8W hu) (yV S) (yV S)) (z3d (yK zif (yV S) (yC z1i T.n_len z2f (y1 (yV S)))) (z2I (z16 (z0T (yF qk hr (y1 (yV S))))))))) (yr z2Y) z0k) (z0J (z1I (ya S (yV S)))))) (yr z2Y))
theorem z73 (F:Fun K "shares_end" "shares_end" z4c f fd)(ql:Cl P w K mg base 2 "place_added" ["one","other"] z0Q)(qm:Cl P w K mg base 3 "place_times" ["place","fraction"] z2d)(qn:Cl P w K mg base 3 "are_shares" ["wind","shares"] z1b):Fk P w K mg base 4 f fd ["wind","shares"] z2E:=
 yN ["wind","shares","end","heading","share","vector"] F λcdv A outer s H E S hr hu=>z07 (z0Z (z16 (z0T (yF qn hr (y2 (yV S) (yV S))))) (z0J z9r) z0k) (yZ S (z0w (y3 z00 z00 z00)) (z07 (z59 (js:=[]) (g:=(.tp [3,4])) wY rfl (qi_x (yV S)) (z3f rfl (z0t (yn S) (z0t (yn S) z23))) (yZ S (yI (yV S) (yV S)) (z0J (z1I (ya S (yF ql hr (y2 (yV S) (yF qm hr (y2 (z0w (y3 (yI (yV S) z00) (yI (yV S) z00) z00)) (yV S)))))))))) (yr (yV S))))
theorem zdx (F:Fun K "added" "added" z9m f fd)(qi:Cl P w K mg base 1 "common_divisor" ["one","other"] z0b):Fk P w K mg base 2 f fd ["one","other"] z7p:=
 yN ["one","other","shared","one_times","other_times","top","rest"] F λcdv A outer s H E S hr hu=>yZ S (yF qi hr (y2 (yI (yV S) z00) (yI (yV S) z00))) (yZ S (yB z0u (yI (yV S) z00) (yV S)) (yZ S (yB z0u (yI (yV S) z00) (yV S)) (yZ S (yB z19 (yB z0y (yI (yV S) z00) (yV S)) (yB z0y (yI (yV S) z00) (yV S))) (yZ S (yF qi hr (y2 (yV S) (yV S))) (yr (z0w (y2 (yB z0u (yV S) (yV S)) (yB z0y (yV S) (yB z0u (yI (yV S) z00) (yV S))))))))))
theorem z72 (F:Fun K "shares_sum" "shares_sum" z4b f fd)(qo:Cl P w K mg base 2 "added" ["one","other"] z7p):Fk P w K mg base 3 f fd ["shares"] z1a:=
 yN ["shares","total","heading","share"] F λcdv A outer s H E S hr hu=>yZ S (z0w (y2 z00 z00)) (z07 (z59 (js:=[]) (g:=(.tp [2,3])) wY rfl (qi_x (yV S)) (z3f rfl (z0t (yn S) (z0t (yn S) z23))) (z0J (z1I (ya S (yF qo hr (y2 (yV S) (yV S))))))) (yr (yV S)))
theorem z82 (F:Fun K "is_course" "is_course" z54 f fd)(qn:Cl P w K mg base 3 "are_shares" ["wind","shares"] z1b)(qp:Cl P w K mg base 3 "shares_sum" ["shares"] z1a):Fk P w K mg base 4 f fd ["watches","course"] z1S:=
 yN ["watches","course","watch","shares"] F λcdv A outer s H E S hr hu=>z07 (z0Z (yK (z5m hu) (yC z1i T.n_len z2f (y1 (yV S))) (yC z1i T.n_len z2f (y1 (yV S)))) (yr z2Y) z0k) (z07 (z59 (js:=[]) (g:=(.tp [2,3])) wY rfl (z6W (glg rfl) T.n_zip (y2 (yV S) (yV S))) (z3f rfl (z0t (yn S) (z0t (yn S) z23))) (z0J (z0Z (QW.pt (z3d (z16 (z0T (yF qn hr (y2 (yI (yV S) z00) (yV S))))) (z2I (yK (z5m hu) (yF qp hr (y1 (yV S))) (z0w (y2 z00 z00)))))) (yr z2Y) z0k))) (yr z2Y))
theorem z79 (F:Fun K "course_end" "course_end" z4i f fd)(ql:Cl P w K mg base 2 "place_added" ["one","other"] z0Q)(qq:Cl P w K mg base 4 "shares_end" ["wind","shares"] z2E)(qr:Cl P w K mg base 4 "is_course" ["watches","course"] z1S):Fk P w K mg base 5 f fd ["watches","course"] z2F:=
 yN ["watches","course","end","watch","shares","stream","led"] F λcdv A outer s H E S hr hu=>z07 (z0Z (z16 (z0T (yF qr hr (y2 (yV S) (yV S))))) (z0J z9r) z0k) (yZ S (z0w (y3 z00 z00 z00)) (z07 (z59 (js:=[]) (g:=(.tp [3,4])) wY rfl (z6W (glg rfl) T.n_zip (y2 (yV S) (yV S))) (z3f rfl (z0t (yn S) (z0t (yn S) z23))) (yZ S (yI (yV S) z00) (yZ S (yF ql hr (y2 (yF qq hr (y2 (yI (yV S) z00) (yV S))) (z0w (y3 (yI (yV S) z00) (yI (yV S) z00) z00)))) (z0J (z1I (ya S (yF ql hr (y2 (yV S) (yV S))))))))) (yr (yV S))))
theorem z40 (F:Fun K "watches_left" "Log.watches_left" z2l f fd):Fk P w K mg base 1 f fd ["self"] z0n:=
 yN ["self"] F λcdv A outer s H E S hr hu=>yr (yT z1t T.n_tuple z1o (y1 (z6g (z2R T.rc T.na_row (yV S)) (z2o (yB z6A (yC z1i T.n_len z2f (y1 (z2R T.rc T.na_places (yV S)))) z00)) z2p)))
theorem z5j (F:Fun K "place_now" "Log.place_now" z39 f fd):Fk P w K mg base 1 f fd ["self"] z18:=
 yN ["self"] F λcdv A outer s H E S hr hu=>yr (yI (z2R T.rc T.na_places (yV S)) (z8I z5P lk1 z00))
theorem z5k (F:Fun K "carry_out" "Log.carry_out" z3a f fd)(ql:Cl P w K mg base 2 "place_added" ["one","other"] z0Q)(qs:Cl P w K mg base 5 "course_end" ["watches","course"] z2F)(m_watches_left:Cam P w K mg base (CXe P w) 1 cLog "watches_left" ["self"] (spP K mg z0n))(m_place_now:Cam P w K mg base (CXe P w) 1 cLog "place_now" ["self"] (spP K mg z18)):Fkr P w K mg base 6 f fd ["self","deed"] z0A:=
 yRN ["self","deed","led"] F λcdv A outer s H E S hr hu=>z0e (z3g (yK (z1c hu) (yI (yV S) z00) z0a) (z0q (z9u (hu1 hu) (Fl.attr T.rc T.na_winds (by decide) rfl (yv S)) (yI (yV S) z00) (yI (yV S) z00))) (z0q (z3g (yK (z1c hu) (yI (yV S) z00) z0a) (z0q (z2Z (Fl.attr T.rc T.na_row (by decide) rfl (yv S)) (y1 (z0w (y2 (yD hu (z2R T.rc T.na_winds (yV S)) (yI (yV S) z00)) (yI (yV S) z00)))))) (z0e (z4n (ya S (zbp (yF qs hr (y2 (z6g (z21 T.rc m_watches_left (by decide) (yV S) hr.m z1w) z2p (z2o z00)) (z0w (y1 (yI (yV S) z00)))))))) (z0q (z2Z (Fl.attr T.rc T.na_places (by decide) rfl (yv S)) (y1 (yF ql hr (y2 (z21 T.rc m_place_now (by decide) (yV S) hr.m z1w) (yV S)))))))))) (z0q (z2Z (Fl.attr T.rc T.na_standing (by decide) rfl (yv S)) (y1 (yV S))))
theorem z5U (F:Fun K "do_newly" "Log.do_newly" z3o f fd)(m_carry_out:Cam P w K mg base (CXe P w) 6 cLog "carry_out" ["self","deed"] (spR K mg z0A)):Fkr P w K mg base 7 f fd ["self","deed"] z0R:=
 yRN ["self","deed"] F λcdv A outer s H E S hr hu=>z0e (zfw T.rc T.na_undone (by decide) rfl (yv S)) (z0q (z5f (z2c T.rc m_carry_out (by decide) (yv S) hr.m z1w (z0l (z3H (yV S)) z1x))))
theorem z5T (F:Fun K "set_wind" "Log.set_wind" z3n f fd)(qt:Cl P w K mg base 1 "is_word" ["name"] z4A)(qu:Cl P w K mg base 3 "is_wind" ["wind"] z4B)(m_do_newly:Cam P w K mg base (CXe P w) 7 cLog "do_newly" ["self","deed"] (spR K mg z0R)):Fkr P w K mg base 8 f fd ["self","name","wind"] z1C:=
 yR ["self","name","wind"] F λcdv A outer s H E S hr hu=>z0e (z1M (z0Z (z16 (z0T (za7 (k:=1) qt hr.m z3Y (y1 (yV S)) (glg rfl) rfl))) (z0J (z1V T.x_NoWind (glg rfl) rfl)) z0k)) (z0e (z1M (z0Z (z16 (z0T (za7 (k:=3) qu hr.m z3Y (y1 (yV S)) (glg rfl) rfl))) (z0J (z1V T.x_NoWind (glg rfl) rfl)) z0k)) (z0q (z5f (z2c T.rc m_do_newly (by decide) (yv S) hr.m z3Y (z0l (z3H (z0w (y3 z0a (yV S) (yT z1t T.n_tuple z1o (y1 (QF.qx (z24 (tg:=(.nm 0)) (ct:=none) rfl (qi_x (yV S)) rfl (yc S ["heading"]) rfl (λC s2 H2 fp=>yg) trivial (λC s2 H2 fp=>z0w (y2 (yI (qx_v (qv 0)) z00) (yI (qx_v (qv 0)) z00)))))))))) z1x)))))
theorem z5l (F:Fun K "add_watch" "Log.add_watch" z3b f fd)(qh:Cl P w K mg base 2 "is_speed_vector" ["vector"] z0S)(m_do_newly:Cam P w K mg base (CXe P w) 7 cLog "do_newly" ["self","deed"] (spR K mg z0R)):Fkr P w K mg base 8 f fd ["self","name","stream"] z1n:=
 yR ["self","name","stream"] F λcdv A outer s H E S hr hu=>z0e (z3g (z5K (hu1 hu) (yV S) (z2R T.rc T.na_winds (yV S))) (z0q (z1M (z1V T.x_NoWind (glg rfl) rfl))) z3e) (z0e (z3g (yK (z1c hu) (yC z1i T.n_len z2f (y1 (z2R T.rc T.na_row (yV S)))) (qx_c (z4o (glg rfl) T.g_MOST_WATCHES rfl) λ_=>RD.int')) (z0q (z1M (z1V T.x_NoDeed (glg rfl) rfl))) z3e) (z0e (z1M (z0Z (z16 (z0T (za7 (k:=2) qh hr.m z3Y (y1 (yV S)) (glg rfl) rfl))) (z0J (z1V T.x_NoDeed (glg rfl) rfl)) z0k)) (z0q (z5f (z2c T.rc m_do_newly (by decide) (yv S) hr.m z3Y (z0l (z3H (z0w (y3 z0a (yV S) (z0w (y2 (yI (yV S) z00) (yI (yV S) z00)))))) z1x))))))
theorem z8V (F:Fun K "sail" "Log.sail" z5H f fd)(qr:Cl P w K mg base 4 "is_course" ["watches","course"] z1S)(m_watches_left:Cam P w K mg base (CXe P w) 1 cLog "watches_left" ["self"] (spP K mg z0n))(m_do_newly:Cam P w K mg base (CXe P w) 7 cLog "do_newly" ["self","deed"] (spR K mg z0R)):Fkr P w K mg base 8 f fd ["self","shares"] z2W:=
 yR ["self","shares","left"] F λcdv A outer s H E S hr hu=>z0e (z4n (ya S (zbp (z21 T.rc m_watches_left (by decide) (yV S) hr.m z3Y)))) (z0e (z1M (z0Z (yK (z1c hu) (yC z1i T.n_len z2f (y1 (yV S))) z00) (z0J (z1V T.x_NoDeed (glg rfl) rfl)) z0k)) (z0e (z1M (z0Z (z16 (z0T (za7 (k:=4) qr hr.m z3Y (y2 (z6g (yV S) z2p (z2o z00)) (z0w (y1 (yV S)))) (glg rfl) rfl))) (z0J (z1V T.x_NoShares (glg rfl) rfl)) z0k)) (z0q (z5f (z2c T.rc m_do_newly (by decide) (yv S) hr.m z3Y (z0l (z3H (z0w (y2 z0a (yT z1t T.n_tuple z1o (y1 (QF.qx (z24 (tg:=(.tp [0,1])) (ct:=none) rfl (qi_x (yV S)) rfl (yc S ["heading","share"]) rfl (λC s2 H2 fp=>z3f rfl (z0t yh (z0t yh z23))) trivial (λC s2 H2 fp=>z0w (y2 (qx_v (qv 0)) (z0w (y2 (yI (qx_v (qv 1)) z00) (yI (qx_v (qv 1)) z00)))))))))))) z1x))))))
theorem z5i (F:Fun K "take_back" "Log.take_back" z38 f fd):Fkr P w K mg base 1 f fd ["self","deed"] z0U:=
 yRN ["self","deed","ahead"] F λcdv A outer s H E S hr hu=>z0q (z3g (yK (z1c hu) (yI (yV S) z00) z0a) (z0e (z5f (zd7 (Fl.attr T.rc T.na_winds (by decide) rfl (yv S)) (yI (yV S) z00) ⟨rfl,rfl,rfl,rfl⟩)) (z0q (zfu wY rfl (hu1 hu) (Fl.attr T.rc T.na_standing (by decide) rfl (yv S)) (Fl.attr T.rc T.na_winds (by decide) rfl (yv S)) (by decide) (by decide) (yn S) (yK (z1c hu) (z6g (yV S) z2p (z2o z00)) (z6g (yV S) z2p (z2o z00))) (yI (yV S) z00) (yI (yV S) z00)))) (z0q (z3g (yK (z1c hu) (yI (yV S) z00) z0a) (z0q (z5f (z5L (Fl.attr T.rc T.na_row (by decide) rfl (yv S))))) (z0q (z5f (z5L (Fl.attr T.rc T.na_places (by decide) rfl (yv S))))))))
theorem z8U (F:Fun K "undo" "Log.undo" z5G f fd)(m_take_back:Cam P w K mg base (CXe P w) 1 cLog "take_back" ["self","deed"] (spR K mg z0U)):Fkr P w K mg base 2 f fd ["self"] z2V:=
 yR ["self","deed"] F λcdv A outer s H E S hr hu=>z0e (z3g (yK (z1c hu) (yC z1i T.n_len z2f (y1 (z2R T.rc T.na_standing (yV S)))) z00) (z0q (z1M (z1V T.x_NoDeed (glg rfl) rfl))) z3e) (z0e (z4n (ya S (z5L (Fl.attr T.rc T.na_standing (by decide) rfl (yv S))))) (z0e (z5f (z2c T.rc m_take_back (by decide) (yv S) hr.m z3Y (z0l (z3H (yV S)) z1x))) (z0q (z2Z (Fl.attr T.rc T.na_undone (by decide) rfl (yv S)) (y1 (yV S))))))
theorem z85 (F:Fun K "again" "Log.again" z57 f fd)(m_carry_out:Cam P w K mg base (CXe P w) 6 cLog "carry_out" ["self","deed"] (spR K mg z0A)):Fkr P w K mg base 7 f fd ["self"] z2u:=
 yR ["self"] F λcdv A outer s H E S hr hu=>z0e (z3g (yK (z1c hu) (yC z1i T.n_len z2f (y1 (z2R T.rc T.na_undone (yV S)))) z00) (z0q (z1M (z1V T.x_NoDeed (glg rfl) rfl))) z3e) (z0q (z5f (z2c T.rc m_carry_out (by decide) (yv S) hr.m z3Y (z0l (z5L (Fl.attr T.rc T.na_undone (by decide) rfl (yv S))) z1x))))
theorem z8R (F:Fun K "_law_call" "_law_call" z5D f fd)(m_set_wind:Cam P w K mg base (CXe P w) 8 cLog "set_wind" ["self","name","wind"] (spR K mg z1C))(m_add_watch:Cam P w K mg base (CXe P w) 8 cLog "add_watch" ["self","name","stream"] (spR K mg z1n))(m_sail:Cam P w K mg base (CXe P w) 8 cLog "sail" ["self","shares"] (spR K mg z2W))(m_undo:Cam P w K mg base (CXe P w) 2 cLog "undo" ["self"] (spR K mg z2V))(m_again:Cam P w K mg base (CXe P w) 7 cLog "again" ["self"] (spR K mg z2u)):Fkr P w K mg base 9 f fd ["log","deed"] z0d:=
 yR ["log","deed"] F λcdv A outer s H E S hr hu=>z0e (z3g (yK (z1c hu) (yI (yV S) z00) z0a) (z0q (z4m (z2c T.rc m_set_wind (by decide) (yv S) hr.m z3Y (z0l (z3H (yI (yV S) z00)) (z0l (z3H (yI (yV S) z00)) z1x))))) z3e) (z0e (z3g (yK (z1c hu) (yI (yV S) z00) z0a) (z0q (z4m (z2c T.rc m_add_watch (by decide) (yv S) hr.m z3Y (z0l (z3H (yI (yV S) z00)) (z0l (z3H (yI (yV S) z00)) z1x))))) z3e) (z0e (z3g (yK (z1c hu) (yI (yV S) z00) z0a) (z0q (z4m (z2c T.rc m_sail (by decide) (yv S) hr.m z3Y (z0l (z3H (yI (yV S) z00)) z1x)))) z3e) (z0e (z3g (yK (z1c hu) (yI (yV S) z00) z0a) (z0q (z4m (z7R T.rc m_undo (by decide) (yv S) hr.m z3Y))) z3e) (z0q (z4m (z7R T.rc m_again (by decide) (yv S) hr.m z3Y))))))
theorem z8P (F:Fun K "_law_done" "_law_done" z5B f fd)(qw:ClS P w K mg base 1 "_law_kind" ["error"] z1E)(qy:Clr P w K mg base 9 "_law_call" ["log","deed"] z0d):Fkr P w K mg base 10 f fd ["log","deed"] z1f:=
 yRN ["log","deed","found","e"] F λcdv A outer s H E S hr hu=>z0e (z1M (z1I (ya S z0a))) (z0e (zhr (ys:=["NoDeed","NoShares","NoWind"]) ⟨rfl,rfl⟩ S.fs.nd rfl rfl T.x_SailError (glg rfl) rfl (z0j T.x_NoDeed.nm T.m_NoDeed_SailError (z0j T.x_NoShares.nm T.m_NoShares_SailError (z0j T.x_NoWind.nm T.m_NoWind_SailError z35))) (λpins xe σ E1 pa=>zfr (zfs (zfp (i:=2) S.fs.nd rfl (S.lc 2) (zhq qy hr.m pa (z0l (z3P (qv 0)) (z0l (z3H (qx_v (qv 1))) z1x)) (by rfl) rfl)))) (λea=>z0q (z1M (zcY (z8H (i:=2) S.fs.nd rfl (S.lc 2) (zhh (k:=1) qw (hr.suite (by decide)) z1w (y1 (qx_v (qv 3))) (by rfl) rfl)))))) (z0q (z1M (zbg (yV S)))))
theorem z2s {n k:Nat}(F:Fun K "_law_same" "_law_same" z5y f fd)(qz:Cl P w K mg base k "_law_same" ["found","due"] (z0z n))(hk:0<=k):Fk P w K mg base (k+1) f fd ["found","due"] (z0z (n+1)):=
 yN ["found","due","k"] F λcdv A outer s H E S hr hu=>z07 (z0Z (z0T (z3t (T:="tuple") (by decide) (glg rfl) T.n_isinstance (yV S) (z25 (v :=.ty "tuple") (glg rfl) T.n_tuple z1o rfl z7g rfl))) (z07 (z0Z (QW.pt (z3d (z16 (z0T (z3t (T:="tuple") (by decide) (glg rfl) T.n_isinstance (yV S) (z25 (v :=.ty "tuple") (glg rfl) T.n_tuple z1o rfl z7g rfl)))) (z2I (yK (z5m hu) (yC z1i T.n_len z2f (y1 (yV S))) (yC z1i T.n_len z2f (y1 (yV S))))))) (yr z2Y) z0k) (z07 (z4l (g:=(.nm 2)) wY rfl (glg rfl) T.n_range (y1 (yC z1i T.n_len z2f (y1 (yV S)))) (yn S) (z0J (z0Z (z16 (z0T (za7 qz (hr.mono (by omega)) z1w (y2 (yI (yV S) (yV S)) (yI (yV S) (yV S))) (glg rfl) rfl))) (yr z2Y) z0k))) (yr z2Y))) z0k) (z07 (z0Z (yK zdA (yV S) z5a) (yr (yk zdA (yV S) z5a)) z0k) (z07 (z0Z (z0T (z3t (T:="str") (by decide) (glg rfl) T.n_isinstance (yV S) (z25 (v :=.ty "str") (glg rfl) T.n_str zj8 rfl ziy rfl))) (yr (z5b (z3t (T:="str") (by decide) (glg rfl) T.n_isinstance (yV S) (z25 (v :=.ty "str") (glg rfl) T.n_str zj8 rfl ziy rfl)) (z7P (yk (z1c hu) (yV S) (yV S))))) z0k) (z07 (z0Z (QW.pt (z3d (z16 (z0T (z3t (T:="int") (by decide) (glg rfl) T.n_isinstance (yV S) (z25 (v :=.ty "int") (glg rfl) T.n_int zja rfl ziA rfl)))) (z2I (yK (z5m hu) (z3t (T:="bool") (by decide) (glg rfl) T.n_isinstance (yV S) (z25 (v :=.ty "bool") (glg rfl) T.n_bool zcy rfl zbT rfl)) (z3t (T:="bool") (by decide) (glg rfl) T.n_isinstance (yV S) (z25 (v :=.ty "bool") (glg rfl) T.n_bool zcy rfl zbT rfl)))))) (yr z2Y) z0k) (yr (yk (z1c hu) (yV S) (yV S))))))
theorem z6j (F:Fun K "_law_reduced" "_law_reduced" z3M f fd)(q1:Cl P w K mg base 1 "_law_common" ["one","other"] z0f):Fk P w K mg base 2 f fd ["east","north","bottom"] z0G:=
 yN ["east","north","bottom","part"] F λcdv A outer s H E S hr hu=>yZ S (yF q1 hr (y2 (yF q1 hr (y2 (yC z8l T.n_abs zcz (y1 (yV S))) (yC z8l T.n_abs zcz (y1 (yV S))))) (yV S))) (yr (z0w (y3 (yB z0u (yV S) (yV S)) (yB z0u (yV S) (yV S)) (yB z0u (yV S) (yV S)))))
theorem zac (F:Fun K "_law_end" "_law_end" z6q f fd)(qA:Cl P w K mg base 2 "_law_reduced" ["east","north","bottom"] z0G):Fk P w K mg base 3 f fd ["wind","shares"] z1O:=
 yN ["wind","shares","bottom","heading","share","east","north"] F λcdv A outer s H E S hr hu=>yZ S z00 (z07 (z59 (js:=[]) (g:=(.tp [3,4])) wY rfl (qi_x (yV S)) (z3f rfl (z0t (yn S) (z0t (yn S) z23))) (z0J (z1I (ya S (yB z0y (yV S) (yI (yV S) z00)))))) (yZ S (yC (z8k rfl) T.n_sum zcx (y1 (QF.qx (z24 (tg:=(.tp [0,1])) (ct:=none) rfl (qi_x (yV S)) rfl (yc S ["heading","share","bottom","wind"]) rfl (λC s2 H2 fp=>z3f rfl (z0t yh (z0t yh z23))) trivial (λC s2 H2 fp=>yB z0y (yB z0y (yI (yI (qx_v (qv 3)) (qx_v (qv 0))) z00) (yI (qx_v (qv 1)) z00)) (yB z0u (qx_v (qv 2)) (yI (qx_v (qv 1)) z00))))))) (yZ S (yC (z8k rfl) T.n_sum zcx (y1 (QF.qx (z24 (tg:=(.tp [0,1])) (ct:=none) rfl (qi_x (yV S)) rfl (yc S ["heading","share","bottom","wind"]) rfl (λC s2 H2 fp=>z3f rfl (z0t yh (z0t yh z23))) trivial (λC s2 H2 fp=>yB z0y (yB z0y (yI (yI (qx_v (qv 3)) (qx_v (qv 0))) z00) (yI (qx_v (qv 1)) z00)) (yB z0u (qx_v (qv 2)) (yI (qx_v (qv 1)) z00))))))) (yr (yF qA hr (y3 (yV S) (yV S) (yV S)))))))
theorem z80 (F:Fun K "_law_track" "_law_track" z52 f fd)(qA:Cl P w K mg base 2 "_law_reduced" ["east","north","bottom"] z0G)(qB:Cl P w K mg base 3 "_law_end" ["wind","shares"] z1O):Fk P w K mg base 4 f fd ["state"] z1s:=
 yN ["state","found","watch","shares","end","last","bottom","east","north"] F λcdv A outer s H E S hr hu=>z07 (zbh (ya S (z2q (y1 (z0w (y3 z00 z00 z00)))))) (z07 (z59 (js:=[]) (g:=(.tp [2,3])) wY rfl (z6W (glg rfl) T.n_zip (y2 (yD hu (yV S) z0a) (yD hu (yV S) z0a))) (z3f rfl (z0t (yn S) (z0t (yn S) z23))) (yZ S (yF qB hr (y2 (yI (yV S) z00) (yV S))) (yZ S (yI (yV S) (z8I z5P lk1 z00)) (yZ S (yB z0y (yI (yV S) z00) (yI (yV S) z00)) (yZ S (yB z19 (yB z19 (yB z0y (yI (yV S) z00) (yI (yV S) z00)) (yB z0y (yI (yV S) z00) (yI (yV S) z00))) (yB z0y (yI (yI (yV S) z00) z00) (yV S))) (yZ S (yB z19 (yB z19 (yB z0y (yI (yV S) z00) (yI (yV S) z00)) (yB z0y (yI (yV S) z00) (yI (yV S) z00))) (yB z0y (yI (yI (yV S) z00) z00) (yV S))) (z0J (zek (yv S) (y1 (yF qA hr (y3 (yV S) (yV S) (yV S)))))))))))) (yr (yT z1t T.n_tuple z1o (y1 (yV S)))))
theorem z4S (F:Fun K "wind_named" "Log.wind_named" z2O f fd):Fk P w K mg base 1 f fd ["self","name"] z26:=
 yE ["self","name"] F λcdv A outer s H E S hr hu=>z07 (z0Z (z5K (hu1 hu) (yV S) (z2R T.rc T.na_winds (yV S))) (z0J (z1V T.x_NoWind (glg rfl) rfl)) z0k) (yr (yD hu (z2R T.rc T.na_winds (yV S)) (yV S)))
theorem z5g (F:Fun K "_law_wind_told" "_law_wind_told" z36 f fd)(m_wind_named:Cam P w K mg base (CXe P w) 1 cLog "wind_named" ["self","name"] (spP K mg z26)):Fk P w K mg base 2 f fd ["log","name"] z10:=
 yN ["log","name","found"] F λcdv A outer s H E S hr hu=>yZ S z5a (z07 (zfh (xs:=["NoWind"]) ⟨rfl,rfl⟩ T.rc m_wind_named (by decide) hr.m (λpins xe=>qx_v (qv 0)) (λpins xe=>y1 (qx_v (qv 1))) S.fs.nd rfl (S.lc 2) T.x_NoWind (glg rfl) rfl (z0j T.x_NoWind.nm T.m_NoWind_NoWind z35) (λea=>z0J (z8H (i:=2) S.fs.nd rfl (S.lc 2) z5a))) (yr (yV S)))
theorem z84 (F:Fun K "names" "Log.names" z56 f fd):Fk P w K mg base 1 f fd ["self"] z33:=
 yN ["self"] F λcdv A outer s H E S hr hu=>yr (yT z1t T.n_tuple z1o (y1 (QF.qx (zhy (zdT rfl) (glg rfl) T.n_sorted z9V (y1 (z2R T.rc T.na_winds (yV S))) z9H rfl))))
theorem z6k (F:Fun K "watches" "Log.watches" z3N f fd):Fk P w K mg base 1 f fd ["self"] z2e:=
 yN ["self"] F λcdv A outer s H E S hr hu=>yr (yT z1t T.n_tuple z1o (y1 (z2R T.rc T.na_row (yV S))))
theorem z83 (F:Fun K "track" "Log.track" z55 f fd):Fk P w K mg base 1 f fd ["self"] z32:=
 yN ["self"] F λcdv A outer s H E S hr hu=>yr (yT z1t T.n_tuple z1o (y1 (z2R T.rc T.na_places (yV S))))
theorem z81 (F:Fun K "_law_looks" "_law_looks" z53 f fd)(q0:Cl P w K mg base 1 "_law_mix" ["cell","k"] z05)(qz:Cl P w K mg base 5 "_law_same" ["found","due"] z1m)(q9:Cl P w K mg base 1 "_law_name" ["number"] z0Y)(qC:Cl P w K mg base 4 "_law_track" ["state"] z1s)(qD:Cl P w K mg base 2 "_law_wind_told" ["log","name"] z10)(m_names:Cam P w K mg base (CXe P w) 1 cLog "names" ["self"] (spP K mg z33))(m_watches:Cam P w K mg base (CXe P w) 1 cLog "watches" ["self"] (spP K mg z2e))(m_watches_left:Cam P w K mg base (CXe P w) 1 cLog "watches_left" ["self"] (spP K mg z0n))(m_track:Cam P w K mg base (CXe P w) 1 cLog "track" ["self"] (spP K mg z32))(m_place_now:Cam P w K mg base (CXe P w) 1 cLog "place_now" ["self"] (spP K mg z18)):Fk P w K mg base 6 f fd ["log","state","cell"] z0s:=
 yN ["log","state","cell","name","track"] F λcdv A outer s H E S hr hu=>yZ S (yF q9 hr (y1 (yB z0H (yF q0 hr (y2 (yV S) z00)) z00))) (z07 (z0Z (z16 (z0T (yF qz hr (y2 (z21 T.rc m_names (by decide) (yV S) hr.m z1w) (yT z1t T.n_tuple z1o (y1 (QF.qx (zhy (zdS rfl) (glg rfl) T.n_sorted z9V (y1 (QF.qx (zhx (zgm rfl) (glg rfl) T.n_list zj9 (y1 (yD hu (yV S) z0a)) ziz rfl))) z9H rfl)))))))) (yr z2Y) z0k) (z07 (z0Z (z16 (z0T (yF qz hr (y2 (yF qD hr (y2 (yV S) (yV S))) (zd0 (hu1 hu) (yD hu (yV S) z0a) (yV S) ⟨rfl,rfl,rfl,rfl⟩))))) (yr z2Y) z0k) (z07 (z0Z (z16 (z0T (yF qz hr (y2 (z21 T.rc m_watches (by decide) (yV S) hr.m z1w) (yT z1t T.n_tuple z1o (y1 (yD hu (yV S) z0a))))))) (yr z2Y) z0k) (z07 (z0Z (z16 (z0T (yF qz hr (y2 (z21 T.rc m_watches_left (by decide) (yV S) hr.m z1w) (yT z1t T.n_tuple z1o (y1 (z6g (yD hu (yV S) z0a) (z2o (yC z1i T.n_len z2f (y1 (yD hu (yV S) z0a)))) z2p))))))) (yr z2Y) z0k) (yZ S (yF qC hr (y1 (yV S))) (yr (z5b (yF qz hr (y2 (z21 T.rc m_track (by decide) (yV S) hr.m z1w) (yV S))) (z7P (yF qz hr (y2 (z21 T.rc m_place_now (by decide) (yV S) hr.m z1w) (yI (yV S) (z8I z5P lk1 z00))))))))))))
theorem zid (F:Fun K "law" "law" ze4 f fd)(qE:Cl P w K mg base 4 "_law_deed" ["state","cell"] z1g)(qe:Clr P w K mg base 1 "_law_new_state" [] z0h)(qF:Cl P w K mg base 4 "_law_due" ["state","deed"] z0i)(qG:Clr P w K mg base 2 "_law_behind" ["state","deed"] z0m)(qH:Clr P w K mg base 10 "_law_done" ["log","deed"] z1f)(qI:Cl P w K mg base 6 "_law_looks" ["log","state","cell"] z0s)(mk_Log:Cai P w K mg base (CXe P w) 1 cLog ["self"] (zaT K mg cLog ["winds","row","places","standing","undone"] [dk [],.lst [],.lst [.tup [.int 0,.int 0,.int 1]],.lst [],.lst []])):Fk P w K mg base 11 f fd ["script"] z67:=
 yO ["script","log","other","state","cell","deed","due","found"] F λcdv A outer s H E S hr hu=>z0e (zbq (by decide) T.rc mk_Log hr.m (glg rfl) rfl z1w (λhe=>ya S he) pc_Log) (z0e (zbq (by decide) T.rc mk_Log hr.m (glg rfl) rfl z1w (λhe=>ya S he) pc_Log) (z0e (z4n (ya S (zbs qe hr.m z1w (glg rfl) rfl))) (z0e (zhu wY rfl (qi_x (z6g (yV S) z2p (z2o z00))) (yn S) (z0e (z4n (ya S (zbp (yF qE hr (y2 (yV S) (yV S)))))) (z0e (z4n (ya S (zbp (yF qF hr (y2 (yV S) (yV S)))))) (z0e (z3g (yK zdA (yV S) z5a) (z0q (z4n (ya S (zbt qG hr.m z1w (z0l (z3P (yv S)) (z0l (z3H (yV S)) z1x)) (glg rfl) rfl)))) z3e) (z0e (z4n (ya S (zbt qH hr.m z1w (z0l (z3P (yv S)) (z0l (z3H (yV S)) z1x)) (glg rfl) rfl))) (z0e (z1M (z0Z (QW.pt (z3d (yK (z5m hu) (yV S) (yV S)) (z2I (QW.pt (z4L (yK zdA (yV S) z5a) (z3B (yK zdz (yV S) z5a))))))) (yr z2Y) z0k)) (z0q (z3g (z16 (z0T (yF qI hr (y3 (yV S) (yV S) (yV S))))) (z0q (z1M (zbg z2Y))) z3e)))))))) (z0q (z4m (zhv (zbp (yF qI hr (y3 (yV S) (yV S) z00))) (zfx (zhs qI hr.m z1w (z0l (z3P (yv S)) (z0l (zbs qe hr.m z1w (glg rfl) rfl) (z0l (z3H z00) z1x))) (glg rfl) rfl))))))))
end
def zje {l:W.OpenLaw}{w:World}{K:W.Frag}{h:Heap}{mg:WmP}{fa fi cLog f0 f1 f2 f3 f4 f5 f6 f7 f8 f9 f10 f11 f12 f13 f14 f15 f16 f17 f18 f19 f20 f21 f22 f23 f24 f25 f26 f27 f28 f29 f30 f31 f32 f33 f34 f35 f36 f37 f38 f39 f40 f41 f42 f43 f44 f45 f46 f47 f48 f49 f50 f51 f52 f53 f54:Addr}(X:K.In h)(G:h.Ns mainGlobals mg)(hfa:mg "law"=some (.ref fa))
  (aC:W.nsIn K mainGlobals "Log"=some (some (.ref cLog))) (pg:W.plainGet K cLog Str.empty=true) (hd:W.hasDictIn K cLog=true) (po:W.plainOver K cLog=true) (sa:W.findIn K (.ref cLog) "__setattr__"=some (some (.builtin "object.__setattr__"))) (mkc:W.makesIn K cLog=true) (kc:W.keepIn K (.ref cLog)=true)
  (nn_winds:W.findIn K (.ref cLog) "winds"=some none)
  (nn_row:W.findIn K (.ref cLog) "row"=some none)
  (nn_places:W.findIn K (.ref cLog) "places"=some none)
  (nn_standing:W.findIn K (.ref cLog) "standing"=some none)
  (nn_undone:W.findIn K (.ref cLog) "undone"=some none)
  (di:StdM K cLog "__init__" "Log.__init__" z8z fi)
  (d0:Std K "_law_mix" z6p f0)
  (d1:Std K "_law_vector" z4d f1)
  (d2:Std K "_law_name" z5z f2)
  (d3:Std K "_law_any_name" z3m f3)
  (d4:Std K "_law_common" z4g f4)
  (d5:Std K "_law_lowest" z4e f5)
  (d6:Std K "_law_whole_shares" z2k f6)
  (d7:Std K "_law_digits" z4f f7)
  (d8:Std K "_law_wind_by_digits" z20 f8)
  (d9:Std K "_law_small_wind" z2M f9)
  (d10:Std K "_law_deed" z5C f10)
  (d11:Std K "_law_new_state" z37 f11)
  (d12:Std K "_law_together" z3l f12)
  (d13:Std K "_law_due" z6r f13)
  (d14:Std K "_law_do" z7H f14)
  (d15:Std K "_law_behind" z4h f15)
  (d16:Std K "_law_kind" z5A f16)
  (d17:Std K "is_word" z6s f17)
  (d18:Std K "is_speed" z5E f18)
  (d19:Std K "is_speed_vector" z2A f19)
  (d20:Std K "is_wind" z6t f20)
  (d21:Std K "common_divisor" z2N f21)
  (d22:Std K "place_added" z3L f22)
  (d23:Std K "lowest_place" z3k f23)
  (d24:Std K "place_times" z3K f24)
  (d25:Std K "is_share" z5F f25)
  (d26:Std K "are_shares" z4j f26)
  (d27:Std K "shares_end" z4c f27)
  (d28:Std K "added" z9m f28)
  (d29:Std K "shares_sum" z4b f29)
  (d30:Std K "is_course" z54 f30)
  (d31:Std K "course_end" z4i f31)
  (d32:StdM K cLog "watches_left" "Log.watches_left" z2l f32)
  (d33:StdM K cLog "place_now" "Log.place_now" z39 f33)
  (d34:StdM K cLog "carry_out" "Log.carry_out" z3a f34)
  (d35:StdM K cLog "do_newly" "Log.do_newly" z3o f35)
  (d36:StdM K cLog "set_wind" "Log.set_wind" z3n f36)
  (d37:StdM K cLog "add_watch" "Log.add_watch" z3b f37)
  (d38:StdM K cLog "sail" "Log.sail" z5H f38)
  (d39:StdM K cLog "take_back" "Log.take_back" z38 f39)
  (d40:StdM K cLog "undo" "Log.undo" z5G f40)
  (d41:StdM K cLog "again" "Log.again" z57 f41)
  (d42:Std K "_law_call" z5D f42)
  (d43:Std K "_law_done" z5B f43)
  (d44:Std K "_law_same" z5y f44)
  (d45:Std K "_law_reduced" z3M f45)
  (d46:Std K "_law_end" z6q f46)
  (d47:Std K "_law_track" z52 f47)
  (d48:StdM K cLog "wind_named" "Log.wind_named" z2O f48)
  (d49:Std K "_law_wind_told" z36 f49)
  (d50:StdM K cLog "names" "Log.names" z56 f50)
  (d51:StdM K cLog "watches" "Log.watches" z3N f51)
  (d52:StdM K cLog "track" "Log.track" z55 f52)
  (d53:Std K "_law_looks" z53 f53)
  (d54:Std K "law" ze4 f54)
  (z_ValueError:W.nsIn K mainGlobals "ValueError"=some none)
  (z_abs:W.nsIn K mainGlobals "abs"=some none)
  (z_all:W.nsIn K mainGlobals "all"=some none)
  (z_bool:W.nsIn K mainGlobals "bool"=some none)
  (z_int:W.nsIn K mainGlobals "int"=some none)
  (z_isinstance:W.nsIn K mainGlobals "isinstance"=some none)
  (z_len:W.nsIn K mainGlobals "len"=some none)
  (z_list:W.nsIn K mainGlobals "list"=some none)
  (z_range:W.nsIn K mainGlobals "range"=some none)
  (z_sorted:W.nsIn K mainGlobals "sorted"=some none)
  (z_str:W.nsIn K mainGlobals "str"=some none)
  (z_sum:W.nsIn K mainGlobals "sum"=some none)
  (z_tuple:W.nsIn K mainGlobals "tuple"=some none)
  (z_zip:W.nsIn K mainGlobals "zip"=some none)
  {tk_LETTERS:Tok}(y_LETTERS:W.nsIn K mainGlobals "LETTERS"=some (some (.str "abcdefghijklmnopqrstuvwxyz" tk_LETTERS)))
  {tk_MOST_HEADINGS:Tok}(y_MOST_HEADINGS:W.nsIn K mainGlobals "MOST_HEADINGS"=some (some (.int 12 tk_MOST_HEADINGS)))
  {tk_MOST_LETTERS:Tok}(y_MOST_LETTERS:W.nsIn K mainGlobals "MOST_LETTERS"=some (some (.int 12 tk_MOST_LETTERS)))
  {tk_MOST_SPEED:Tok}(y_MOST_SPEED:W.nsIn K mainGlobals "MOST_SPEED"=some (some (.int 1000000000 tk_MOST_SPEED)))
  {tk_MOST_WATCHES:Tok}(y_MOST_WATCHES:W.nsIn K mainGlobals "MOST_WATCHES"=some (some (.int 12 tk_MOST_WATCHES)))
  {cSailError:Addr}(aa_SailError:W.nsIn K mainGlobals "SailError"=some (some (.ref cSailError))) (xx_SailError:W.excIn K cSailError [.type "ValueError",.type "Exception",.type "BaseException",.type "object"] "ValueError.__new__"=true)
  {cNoFraction:Addr}(aa_NoFraction:W.nsIn K mainGlobals "NoFraction"=some (some (.ref cNoFraction))) (xx_NoFraction:W.excIn K cNoFraction [.type "ValueError",.type "Exception",.type "BaseException",.type "object"] "ValueError.__new__"=true)
  {cNoText:Addr}(aa_NoText:W.nsIn K mainGlobals "NoText"=some (some (.ref cNoText))) (xx_NoText:W.excIn K cNoText [.type "ValueError",.type "Exception",.type "BaseException",.type "object"] "ValueError.__new__"=true)
  {cNoShares:Addr}(aa_NoShares:W.nsIn K mainGlobals "NoShares"=some (some (.ref cNoShares))) (xx_NoShares:W.excIn K cNoShares [.type "ValueError",.type "Exception",.type "BaseException",.type "object"] "ValueError.__new__"=true)
  {cNoCourse:Addr}(aa_NoCourse:W.nsIn K mainGlobals "NoCourse"=some (some (.ref cNoCourse))) (xx_NoCourse:W.excIn K cNoCourse [.type "ValueError",.type "Exception",.type "BaseException",.type "object"] "ValueError.__new__"=true)
  {cNoWind:Addr}(aa_NoWind:W.nsIn K mainGlobals "NoWind"=some (some (.ref cNoWind))) (xx_NoWind:W.excIn K cNoWind [.type "ValueError",.type "Exception",.type "BaseException",.type "object"] "ValueError.__new__"=true)
  {cNoDeed:Addr}(aa_NoDeed:W.nsIn K mainGlobals "NoDeed"=some (some (.ref cNoDeed))) (xx_NoDeed:W.excIn K cNoDeed [.type "ValueError",.type "Exception",.type "BaseException",.type "object"] "ValueError.__new__"=true)
  (tf:Tf K cSailError cNoFraction cNoText cNoShares cNoCourse cNoWind cNoDeed cLog)
  (z_0:W.nsIn K mainGlobals ""=some none)
  : ∃fd:FuncData,(∀(s:Shared) (v:Value),BindsTo s fd ⟨[v],[]⟩ [("script",v)])/\∀base:Heap,K.In base->base.Ns mainGlobals mg->FnOk l.prog w K mg base (CXe l.prog w) 11 fa fd ["script"] (spL K):=by
 have T:Txt K mg cSailError cNoFraction cNoText cNoShares cNoCourse cNoWind cNoDeed cLog:=⟨tf,trivial,wV X G z_ValueError,wV X G z_abs,wV X G z_all,wV X G z_bool,wV X G z_int,wV X G z_isinstance,wV X G z_len,wV X G z_list,wV X G z_range,wV X G z_sorted,wV X G z_str,wV X G z_sum,wV X G z_tuple,wV X G z_zip,⟨_,vv X G y_LETTERS⟩,⟨_,vv X G y_MOST_HEADINGS⟩,⟨_,vv X G y_MOST_LETTERS⟩,⟨_,vv X G y_MOST_SPEED⟩,⟨_,vv X G y_MOST_WATCHES⟩,⟨vv X G aa_SailError,_,_,_,vt,xx_SailError⟩,⟨vv X G aa_NoFraction,_,_,_,vt,xx_NoFraction⟩,⟨vv X G aa_NoText,_,_,_,vt,xx_NoText⟩,⟨vv X G aa_NoShares,_,_,_,vt,xx_NoShares⟩,⟨vv X G aa_NoCourse,_,_,_,vt,xx_NoCourse⟩,⟨vv X G aa_NoWind,_,_,_,vt,xx_NoWind⟩,⟨vv X G aa_NoDeed,_,_,_,vt,xx_NoDeed⟩,wV X G z_0,⟨⟨pg,hd,po,sa⟩,vv X G aC⟩,nn_winds,nn_row,nn_places,nn_standing,nn_undone⟩
 refine zgy X G d54 hfa (λ_ _ _ _ _ _ s v =>.of_eq rfl) λbase kb nb fd F =>?_;have MK:Cai l.prog w K mg base (CXe l.prog w) 1 cLog ["self"] _:=zj6 di mkc kc (by exact λ_ _ _ _ _ _=>us1 λ_=>rfl) λ_ F=>zg1 T F;have qJ:=yL l.prog w base X G d0 λ_ F=>zab T F;have qK:=yL l.prog w base X G d1 λ_ F=>z74 T F qJ;have qL:=yL l.prog w base X G d2 λ_ F=>z8N T F;have qM:=yL l.prog w base X G d3 λ_ F=>z5S T F;have qN:=yL l.prog w base X G d4 λ_ F=>z77 T F;have qO:=yL l.prog w base X G d5 λ_ F=>z75 T F qN;have qP:=yL l.prog w base X G d6 λ_ F=>z3Z T F qJ qO;have qQ:=yL l.prog w base X G d7 λ_ F=>z76 T F;have qR:=yL l.prog w base X G d8 λ_ F=>z3v T F qQ;have qS:=yL l.prog w base X G d9 λ_ F=>z4Q T F qJ qK qR;have qT:=yL l.prog w base X G d10 λ_ F=>z8Q T F qJ qK qL qM qP qQ qS;have qU:=yL l.prog w base X G d11 λ_ F=>z5h T F;have qV:=yL l.prog w base X G d12 λ_ F=>z5R T F qO;have qW:=yL l.prog w base X G d13 λ_ F=>zad T F qN qV;have qX:=yL l.prog w base X G d14 λ_ F=>zbM T F;have qY:=yL l.prog w base X G d15 λ_ F=>z78 T F qU qX;have qZ:ClS l.prog w K mg base _ _ _ _:=zgo X G d16 (by exact λ_ _ _ _ _ _=>us1 λ_=>rfl) λ_ F=>z8O T F;have y0:=yL l.prog w base X G d17 λ_ F=>zae T F;have y4:=yL l.prog w base X G d18 λ_ F=>z8S T F;have y5:=yL l.prog w base X G d19 λ_ F=>z4v T F y4;have y6:=yL l.prog w base X G d20 λ_ F=>zaf T F y5;have y7:=yL l.prog w base X G d21 λ_ F=>z4R T F;have y8:=yL l.prog w base X G d22 λ_ F=>z6i T F y7;have y9:=yL l.prog w base X G d23 λ_ F=>z5Q T F y7;have yb:=yL l.prog w base X G d24 λ_ F=>z6h T F y9;have yd:=yL l.prog w base X G d25 λ_ F=>z8T T F y7;have ye:=yL l.prog w base X G d26 λ_ F=>z7a T F yd;have yf:=yL l.prog w base X G d27 λ_ F=>z73 T F y8 yb ye;have yi:=yL l.prog w base X G d28 λ_ F=>zdx T F y7;have yj:=yL l.prog w base X G d29 λ_ F=>z72 T F yi;have yl:=yL l.prog w base X G d30 λ_ F=>z82 T F ye yj;have ym:=yL l.prog w base X G d31 λ_ F=>z79 T F y8 yf yl;have M_watches_left:=yM l.prog w base mg d32 λ_ F=>z40 T F;have M_place_now:=yM l.prog w base mg d33 λ_ F=>z5j T F;have M_carry_out:=yM l.prog w base mg d34 λ_ F=>z5k T F y8 ym M_watches_left M_place_now;have M_do_newly:=yM l.prog w base mg d35 λ_ F=>z5U T F M_carry_out;have M_set_wind:=yM l.prog w base mg d36 λ_ F=>z5T T F y0 y6 M_do_newly;have M_add_watch:=yM l.prog w base mg d37 λ_ F=>z5l T F y5 M_do_newly;have M_sail:=yM l.prog w base mg d38 λ_ F=>z8V T F yl M_watches_left M_do_newly;have M_take_back:=yM l.prog w base mg d39 λ_ F=>z5i T F;have M_undo:=yM l.prog w base mg d40 λ_ F=>z8U T F M_take_back;have M_again:=yM l.prog w base mg d41 λ_ F=>z85 T F M_carry_out;have yo:=yL l.prog w base X G d42 λ_ F=>z8R T F M_set_wind M_add_watch M_sail M_undo M_again;have yp:=yL l.prog w base X G d43 λ_ F=>z8P T F qZ yo;have yq:Cl l.prog w K mg base 0 "_law_same" ["found","due"] (z0z 0):=yL _ _ _ X G d44 λ_ _=>ziR;have yq:Cl l.prog w K mg base 1 "_law_same" ["found","due"] (z0z 1):=yL _ _ _ X G d44 λ_ F=>z2s T F  yq (by decide);have yq:Cl l.prog w K mg base 2 "_law_same" ["found","due"] (z0z 2):=yL _ _ _ X G d44 λ_ F=>z2s T F  yq (by decide);have yq:Cl l.prog w K mg base 3 "_law_same" ["found","due"] (z0z 3):=yL _ _ _ X G d44 λ_ F=>z2s T F  yq (by decide);have yq:Cl l.prog w K mg base 4 "_law_same" ["found","due"] (z0z 4):=yL _ _ _ X G d44 λ_ F=>z2s T F  yq (by decide);have yq:Cl l.prog w K mg base 5 "_law_same" ["found","due"] (z0z 5):=yL _ _ _ X G d44 λ_ F=>z2s T F  yq (by decide);have yt:=yL l.prog w base X G d45 λ_ F=>z6j T F qN;have yu:=yL l.prog w base X G d46 λ_ F=>zac T F yt;have yw:=yL l.prog w base X G d47 λ_ F=>z80 T F yt yu;have M_wind_named:=yM l.prog w base mg d48 λ_ F=>z4S T F;have yx:=yL l.prog w base X G d49 λ_ F=>z5g T F M_wind_named;have M_names:=yM l.prog w base mg d50 λ_ F=>z84 T F;have M_watches:=yM l.prog w base mg d51 λ_ F=>z6k T F;have M_track:=yM l.prog w base mg d52 λ_ F=>z83 T F;have yy:=yL l.prog w base X G d53 λ_ F=>z81 T F qJ yq qL yw yx M_names M_watches M_watches_left M_track M_place_now;exact ziB zgb (zid T F qT qU qW qY yp yy MK)
def walk {l:W.OpenLaw}{q:Program}{loose:List Str}{XP:(Str->Option Value)->Heap->Prop}{YP:World->Heap->Prop}{d:DefRec}{K:Params->W.Frag}(hn:l.most=some 63)(hdf:d.params.defaults=[])
  (hY:∀(w:World) (h:Heap),YP w h->(K w.params).In h) (hT:∀(w:World) (h:Heap),YP w h->∀P t,(tsOf (K w.params)).lookup P=some t->h.get? P=some { cls :=.none,data :=.fields #[] })
  (F:∀(w:World) (mg:WmP) (fa:Addr) (h:Heap),(K w.params).In h->h.Ns mainGlobals mg->mg d.name=some (.ref fa)->
   ∃fd:FuncData,(∀(s:Shared) (u:Value),BindsTo s fd ⟨[u],[]⟩ [("script",u)])/\∀base:Heap,(K w.params).In base->base.Ns mainGlobals mg->FnOk l.prog w (K w.params) mg base (CXe l.prog w) 11 fa fd ["script"] (spL (K w.params))):
  W.WalkO q loose XP YP l.row.toRowW d [] (λf vs=>PySem.call f vs):=
 L2.zeT (n:=63) (k:=11) (x:="script") (CX:=λw=>(CXe l.prog w)) (sp:=λw=>spL (K w.params)) hn (by decide) hdf ⟨rfl,by decide,by decide⟩ hY hT F (λ_ _ a ns hl hS=>⟨a,ns,rfl,hS,hl,λ_=>rfl⟩) λ_ _ _ _ _ ⟨_,_,_,_,_,_,_,_,_,z⟩=>z
end My
open PySem PySem.W PyProof.Rows
local macro_rules | `(tactic| walk_at "ks") => `(tactic| (refine' Pu.Std.mk ?a ?l ?c ?k;(case a=>k_is);(case l=>k_is);(case c=>k_is);(case k=>k_is)))
local macro_rules | `(tactic| walk_at "km") => `(tactic| (refine' Pu.StdM.mk ?a ?i ?l ?c ?k;(case a=>k_is);(case i=>k_is);(case l=>k_is);(case c=>k_is);(case k=>k_is)))
set_option maxRecDepth 100000 in
set_option maxHeartbeats 0 in
theorem PySem.Challenge.cw_closehaul_k53_deeds_of_a_log_holds : PySem.Challenge.rw_closehaul_k53_deeds_of_a_log.Holds := by
 w_on;o_law;k_head;(case hw=>w_witness2)
 k_fill
 refine My.walk (l:=PySem.Challenge.rw_closehaul_k53_deeds_of_a_log) rfl rfl (λw h Y=>W.kIn_of Y) (λw h Y=>λP t e=>by rw[show L2.tsOf _=[] from by kernel_rfl] at e;cases e) ?F
 case F=>
  intro w mg fa h KX G hmg;apply My.zje KX G hmg
  iterate 12 focus k_is
  focus walk_at "km"
  iterate 32 focus walk_at "ks"
  iterate 10 focus walk_at "km"
  iterate 6 focus walk_at "ks"
  focus walk_at "km"
  focus walk_at "ks"
  iterate 3 focus walk_at "km"
  iterate 2 focus walk_at "ks"
  iterate 20 focus k_is
  focus k_exc
  iterate 6 (focus k_is);focus k_exc
  focus constructor <;> kernel_rfl
  focus k_is
