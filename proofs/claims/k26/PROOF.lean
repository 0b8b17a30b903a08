import PyProof.Rows.All
import Wide.All
import OpenK.AllK
import Wide.FinOn
import Lean
import PyProof.EqAt
import PyProof.EqKinds
import PyProof.TupleCall
import PyProof.Rows.SortRuns
import KE.KRevIter
import PyProof.SetRoads
import PyProof.ListNew
import PyProof.Rows.ListMulPlace
import PyProof.ZipIter
import PyProof.Rows.ZipGen
import PyProof.Rows.SumGenD
import PySem.Challenge.RW_closehaul_k26_whole_course_or_bar
set_option compiler.extract_closed false
namespace PySem.W.Fast
def tw1311925878332113018:=0
def tw1339418321318494797:=0
def tw12298660771084948280:=0
def tw14391381391035154184:=0
def tw5741166156805286700:=0
def tw1967513762729998947:=0
def tw17726325155181358891:=0
def tw7095583006496694251:=0
def tw11161825420290360614:=0
def tw14285326040376311807:=0
def tw16260428170978719351:=0
def tw10399711641390157024:=0
def tw17350229559813330214:=0
def tw17260022891271814668:=0
def tw18250641558717213981:=0
def tw8326717254741001656:=0
def tw3818356163443479595:=0
def tw9325047367395968583:=0
def tw5140273534150158283:=0
def tw2510717298082951738:=0
def tw1241168993565454763:=0
def tw13912800557482634592:=0
def tw17316868835922521654:=0
def tw7904679398065503827:=0
def tw9039292716666010399:=0
def tw17541665638457071233:=0
def tw14500229265760230681:=0
def tw6687742835609260855:=0
def tw4692030304785622166:=0
def tw16980027795370819388:=0
def tw9908125396026900800:=0
def tw12320370544742834520:=0
def tw12503409489480101569:=0
def tw14210830416323651267:=0
def tw4038318610201256971:=0
def tw13655132030813898296:=0
def tw6372485256253753645:=0
def tw1907587029394551467:=0
def tw11298524841485195066:=0
def tw2796012246563885207:=0
def tw13762587750045627134:=0
def tw16454586355558158360:=0
def tw16475169964311819788:=0
def tw15379697096473447377:=0
def tw10355673433237296108:=0
def tw4016617283422477835:=0
def tw3764425816025969086:=0
def tw7267725771080346676:=0
def tw10987468429902827595:=0
def tw12513109084985519817:=0
def tw8763984901209856728:=0
def tw14886860332440791908:=0
def tw17969792420517717068:=0
def tw17901764523520073310:=0
def tw6337248387693579477:=0
def tw13285348380885175599:=0
def tw8591276757024756276:=0
def tw8939780000581477325:=0
def tw12912527999119696136:=0
def tw14468366245528613355:=0
def tw18087157297587970652:=0
def tw10616412784323821607:=0
def tw14866123452418473593:=0
def tw17449456005177753262:=0
def tw9445478004488705958:=0
def tw9787244159227088209:=0
def tw455645369246303666:=0
def tw5265835745134405300:=0
def tw8166599646190176636:=0
def tw16458687467152084441:=0
def tw566914397432237283:=0
def tw13004463620816196330:=0
def tw3702482971960873613:=0
def tw12629139468881311925:=0
def tw8490739324664223856:=0
def tw17407417727803249458:=0
def tw12909162100650446623:=0
def tw7254695396492983435:=0
def tw1702884436324440257:=0
def tw8012980422121732699:=0
def tw1924234566707223478:=0
def tw15878439246263080255:=0
def tw16017732122719150032:=0
def tw1501343779680896025:=0
def tw17727259741914240696:=0
def tw5457697324537807901:=0
def tw2755680645214145812:=0
def tw17589980592385671335:=0
def tw10970879629066079396:=0
def tw5619527367884714152:=0
def tw9112577841227308394:=0
def tw5241015749104634141:=0
def tw14514252603815663283:=0
def tw695172239310933943:=0
def tw15154090623523480546:=0
def tw7400603212823297014:=0
def tw11697162575715656149:=0
def tw18002923251235592662:=0
def tw13476860214344381528:=0
def tw9014337428652897152:=0
def tw6805191099118637462:=0
def tw17420231943423362986:=0
def tw18123548837843099153:=0
def tw8583608305119336601:=0
def tw18303951161783536552:=0
def tw18087836154886087782:=0
def tw15009178923707761561:=0
def tw15531740628660771978:=0
def tw2948129884983026021:=0
def tw10789964719603764775:=0
def tw13790195458288937615:=0
def tw14316003881444588313:=0
def tw1908787162122026180:=0
def tw3928551375469023469:=0
def tw9422099728129665254:=0
def tw4298807783932187634:=0
def tw1858856997291695640:=0
def tw6222704627688475622:=0
def tw11283655747727605194:=0
def tw14494477383047663943:=0
def tw12363755716599858351:=0
def tw2174779144774533810:=0
def tw5936747202667831996:=0
def tw5581688568841341649:=0
def tw61383357664581211:=0
def tw10681486744682717606:=0
def tw15496403313852881045:=0
def tw769325838257362835:=0
def tw880098395614252580:=0
def tw8581081263393887791:=0
def tw7423590802277117297:=0
def tw12851155728636573628:=0
def tw17910706692824241711:=0
def tw10514611295383739461:=0
def tw15563564999889450019:=0
def tw3862938055096102663:=0
def tw16827869725827117856:=0
def tw12355084914828981113:=0
def tw17015770576527668436:=0
def tw11831208741378698022:=0
def tw6694599673774299638:=0
def tw4373845695822014081:=0
def tw17961809850889178182:=0
def tw12898282753763058130:=0
def tw13651005235390536085:=0
def tw4035014463159772396:=0
def tw6469253773961958302:=0
def tw14744793896202576199:=0
def tw10849054628988608848:=0
def tw14285545421779373296:=0
def tw17163668525360875431:=0
def tw2503678494160006152:=0
def tw12637373235440860809:=0
def tw10175810814722994730:=0
def tw10271471081586674499:=0
def tw7204966749875143246:=0
def tw10391203609426939845:=0
def tw11057253816580448936:=0
def tw67197304663195739:=0
def tw4684395849838004273:=0
def tw3359192155827428224:=0
def tw13147001442142266488:=0
def tw10363942047123507057:=0
def tw227020719263078374:=0
def tw17543382334343836335:=0
def tw8977619302316284463:=0
def tw3976214988059886851:=0
def tw18386283623576177942:=0
def tw11341941591835728827:=0
def tw15396268625015573949:=0
def tw1519153738274784416:=0
def tw11981645342738189779:=0
def tw10013987171342517409:=0
def tw17855140790485113449:=0
def tw17317829338787452768:=0
def tw12544170566599746891:=0
def tw17777820811707685542:=0
def tw15413897427051642582:=0
def tw14587556944330186326:=0
def tw18174044759015613894:=0
def tw12283628631446375792:=0
def tw8389029814095657024:=0
def tw8490736654408430189:=0
def tw4491973575335087820:=0
def tw17114562531761606640:=0
def tw8727136219014244015:=0
def tw6770605745678481001:=0
def tw12929161689436899942:=0
def tw16563823390225265134:=0
def tw10703780556778698983:=0
def tw3834295341235833919:=0
def tw1156191990787118751:=0
def tw5777141745689531702:=0
def tw2462921017016955454:=0
def tw17089342522516641287:=0
def tw10909683106233670306:=0
def tw5660149513934519766:=0
def tw15453279637791151528:=0
def tw7173797697639569537:=0
def tw621723381988911741:=0
def tw13005090410193815363:=0
def tw11570344668623284290:=0
def tw8380621297336780301:=0
def tw11486091605339080248:=0
def tw9488076701390304720:=0
def tw4235342871764730778:=0
def tw3836189090342173945:=0
def tw2565811092160325795:=0
def tw10755440316881038367:=0
def tw5735804414257699213:=0
def tw13810552743501920457:=0
def tw12048621135371876269:=0
def tw5298177754586818041:=0
def tw10252053377419906559:=0
def tw221779734726341176:=0
def tw54670337922751460:=0
def tw13413288206448990753:=0
def tw3195867898174877897:=0
def tw12340026644639516089:=0
def tw9309895376357789469:=0
def tw1890799117938011009:=0
def tw2141725355386175230:=0
def tw1394685196274315447:=0
def tw13614402477307439765:=0
def tw4611470597889310654:=0
def tw4020255450568656789:=0
def tw15841342941844390410:=0
def tw16752806760208613144:=0
def tw10790266608304447212:=0
def tw13964703922869930687:=0
def tw16747569661979403221:=0
def tw3643532267790569654:=0
def tw3014583657316645245:=0
def tw2034096381461471566:=0
def tw16616964072559866881:=0
def tw12153766824049790699:=0
def tw2083429599933013441:=0
def tw15341865548983132437:=0
def tw16971764258447914610:=0
def tw6563097504740244107:=0
def tw9022257350188611608:=0
def tw3680915877479780979:=0
def tw3741377788940840850:=0
def tw13218641421209964966:=0
def tw4536070486791704671:=0
def tw14800651516550739607:=0
def tw746217934575392657:=0
def tw6450434795314962125:=0
def tw15465563692485700948:=0
def tw14984358548373118922:=0
def tw13094722679341675546:=0
def tw589862691834416205:=0
def tw11428636303005258839:=0
def tw7802684603585073344:=0
def tw8856307489297881082:=0
def tw6916323436768631480:=0
def tw3846039008991737036:=0
def tw17831025561712632545:=0
def tw1226359760311852017:=0
def tw12145652913047569091:=0
def tw6735517524322599421:=0
def tw17293308124245167389:=0
def tw8314505672693947762:=0
def tw7164788085826098251:=0
def tw2824501302770345370:=0
def tw1220133603275211553:=0
def tw11892508200908092966:=0
def tw5053702825680798565:=0
def tw13682929198239723077:=0
def tw11853882833992324328:=0
def tw4202709178592051530:=0
def tw15789113689379616421:=0
def tw10894326738059665551:=0
def tw9839988046647843067:=0
def tw975726648344715667:=0
def tw9734502662209354725:=0
def tw9582901929160718040:=0
def tw9259689160798227076:=0
def tw9218539795357982796:=0
def tw84785385912282682:=0
def tw8373091063483585261:=0
def tw836881778874085224:=0
def tw8225459736044802040:=0
def tw7741681355036914534:=0
def tw7695607657483420457:=0
def tw7670629757378077828:=0
def tw7631329451684784757:=0
def tw7475047993031606988:=0
def tw712847296362882619:=0
def tw6972466715470954640:=0
def tw6970060568480071145:=0
def tw6702928324186161003:=0
def tw662743474478639673:=0
def tw6558637108915700396:=0
def tw631316666597193249:=0
def tw6196975659023484002:=0
def tw6018566373171288523:=0
def tw6005914772310612353:=0
def tw583783745191273440:=0
def tw5695092251551100217:=0
def tw5626449031221297903:=0
def tw5557698092719293192:=0
def tw534118401024712112:=0
def tw4974610158346054491:=0
def tw4945392382685332144:=0
def tw4522051308602596306:=0
def tw4319888083956524427:=0
def tw4285639178243348111:=0
def tw4177346098376233296:=0
def tw4026100741545333646:=0
def tw3957994473367778013:=0
def tw3943101515482615884:=0
def tw3916497858338825459:=0
def tw3825603221516264440:=0
def tw3662509989934551102:=0
def tw3630096216291800748:=0
def tw2507667288056218690:=0
def tw2431550964602256660:=0
def tw223338782205811856:=0
def tw18421454691335046300:=0
def tw18311926656672311863:=0
def tw18226703934326818235:=0
def tw18093775587303641671:=0
def tw17830687946459115018:=0
def tw17676058470732871616:=0
def tw17499159809159188529:=0
def tw17456488399916431913:=0
def tw17337709643292941416:=0
def tw17271071474105492116:=0
def tw17120563324345617326:=0
def tw16908430011941897414:=0
def tw16644059415593530109:=0
def tw16591983544188094950:=0
def tw16532055281682402181:=0
def tw16511110091680916108:=0
def tw16384894129829146569:=0
def tw16220278604727027928:=0
def tw16062587929846927037:=0
def tw15971724343912089805:=0
def tw15874633603187924253:=0
def tw15862523895661094959:=0
def tw15576735570736684750:=0
def tw15268921484656660037:=0
def tw15113711112900206061:=0
def tw15042772317581805934:=0
def tw15006001353713434523:=0
def tw14902528418457018298:=0
def tw14851568846652373221:=0
def tw14762869433799495203:=0
def tw14345343879543212857:=0
def tw13868730920570122834:=0
def tw13512924976425549415:=0
def tw13470166487088200616:=0
def tw13330337820341453816:=0
def tw13201304197367925343:=0
def tw1296627858773149804:=0
def tw12922015380419564748:=0
def tw12861329459763618840:=0
def tw12749340570758828003:=0
def tw12444076342537785810:=0
def tw1242608510669818334:=0
def tw12366142586683988367:=0
def tw12314526837102978335:=0
def tw1225847432261696741:=0
def tw12185694450669460707:=0
def tw1211113315630290364:=0
def tw11951110594716433267:=0
def tw11862488746820306314:=0
def tw11697738621661231776:=0
def tw11431732768240975577:=0
def tw1136143675567772417:=0
def tw113511067903606956:=0
def tw1129709616702265041:=0
def tw11258935960422614571:=0
def tw11209378665153034154:=0
def tw11059873173682489602:=0
def tw11048091661901348410:=0
def tw11035942320317581511:=0
def tw10644066044685570351:=0
def tw10231281085522022559:=0
def tw10070709624172410560:=0
end PySem.W.Fast
theorem jT0(h:True:=by rfl):True:=h
def jT:=jT0._auto_1
theorem jU0(h:True:=by decide):True:=h
def jU:=jU0._auto_1
theorem jV0(h:True:=by intro _;rfl):True:=h
def jV:=jV0._auto_1
theorem jW0(h:True:=by first | exact .inl rfl | exact .inr rfl | assumption):True:=h
def jW:=jW0._auto_1
noncomputable section
section
set_option hygiene false
abbrev WvP:=PySem.Value->PySem.Shared->Prop
abbrev WmP:=PySem.Str->Option PySem.Value
set_option hygiene true
def wc:=@PySem.wpAny_bind
def wd:=@List.length_map
def we:=@PySem.Heap.get?_push_of_some
def wf:=@PySem.wpAny_pure
def wg:=@List.mem_cons
def wj:=@List.mem_map
def wm:=@List.mem_cons_of_mem
def wn:=@PySem.Heap.get?_push_size
def wo:=@PySem.Heap.lt_size
def wp:=@Nat.le_refl
def wq:=@List.getElem?_eq_getElem
def wt:=@List.mem_singleton
def wu:=@List.getElem?_eq_some_iff
def wv:=@List.mem_cons_self
def ww:=@List.getElem?_set_ne
def wz:=@Nat.ne_of_lt
def wA:=@List.not_mem_nil
def wB:=@Nat.lt_of_lt_of_le
def wC:=@List.getElem?_append_left
def wD:=@List.mem_of_getElem?
def wE:=@List.map_cons
def wF:=@List.getElem?_set_self
def wG:=@List.getElem?_map
def wH:=@List.map_append
def wI:=@Nat.le_trans
def wJ:=@Nat.lt_or_ge
def wK:=@List.map_map
def wL:=@List.length_append
def wM:=@List.getElem?_append_right
def wN:=@List.pairwise_map
def wO:=@List.length_cons
def wP:=@Bool.false_ne_true
def wQ:=@List.pairwise_cons
def wR:=@Int.mul_nonneg
def wS:=@List.mem_append_right
def wT:=@Int.mul_nonpos_of_nonneg_of_nonpos
def wU:=@Nat.mod_eq_of_lt
def wV:=@Int.mul_eq_zero
def wW:=@PySem.wpAny_newObj_type
def wX:=@List.mem_iff_getElem
def wY:=@List.size_toArray
def wZ:=@List.mem_append
def w5:=@Option.some.inj
def w6:=@PySem.wpAny_mono
def w9:=@Bool.false_eq_true
def vd:=@List.length_pos_iff
def ve:=@decide_eq_false
def vf:=@Nat.zero_le
def vh:=@List.sum_cons
def vi:=@Int.le_of_lt
def vj:=@Nat.lt_irrefl
def vk:=@PySem.Heap.get?_update_other
def vm:=@Int.mul_nonpos_of_nonpos_of_nonneg
def vn:=@List.append_assoc
def vp:=@PySem.Heap.get?_update_self
def vq:=@decide_eq_true
def vz:=@Int.mul_pos
def vA:=@List.pairwise_iff_getElem
def vB:=@List.nodup_cons
def vC:=@PyProof.Rows.slot_tuple_getitem
def vD:=@PySem.wpAny_setState_of
def vE:=@PySem.Heap.size_push
def vF:=@Ne.symm
def vG:=@Int.mul_comm
def vH:=@PySem.wpAny_callSpecial?_slot
def vI:=@PySem.W.kia_one
def vJ:=@List.append_nil
def vK:=@Bool.and_eq_true
def vL:=@List.lookup_cons
def vN:=@Nat.lt_succ_of_lt
def vO:=@Classical.byContradiction
def vP:=@PySem.wpAny_seqItems
def vQ:=@List.pairwise_append
def vR:=@PySem.wpAny_holding
def vS:=@or_false
def vT:=@Int.lt_or_le
def vU:=@List.mem_range
def vV:=@PySem.wpAny_call_entry
def vW:=@Int.eq_of_mul_eq_mul_right
def vX:=@PySem.Around.under_plainId
def vY:=@Int.mul_le_mul_of_nonneg_right
def vZ:=@Option.map_eq_some_iff
def v3:=@List.take_of_length_le
def v4:=@List.length_nil
def v5:=@Int.natAbs_mul
def v6:=@Array.length_toList
def v7:=@Int.natAbs_dvd_natAbs
def v8:=@of_decide_eq_true
def v9:=@List.length_range
def ua:=@Nat.add_mod_right
def ub:=@PySem.wpAny_field
def uc:=@List.length_eq_zero_iff
def ud:=@PySem.Obj.data_mapFields
def ue:=@Nat.lt_succ_self
def uf:=@Prod.ext
def ug:=@List.getD_eq_getElem?_getD
def uh:=@List.filterMap_cons
def ui:=@List.reverse_cons
def uj:=@Nat.lt_trichotomy
def uk:=@PySem.Heap.SameBut.update
def ul:=@List.map_congr_left
def um:=@Array.getElem?_eq_getElem
def uo:=@List.length_replicate
def uq:=@List.getElem?_eq_none
def ur:=@PySem.codeAny_builtin
def uv:=@Array.getElem?_toList
def uw:=@Int.add_zero
def ux:=@List.mem_filterMap
def uy:=@Int.mul_ediv_cancel_left
def uz:=@List.length_take
def uA:=@PySem.plainId_quiet
def uB:=@List.getElem?_cons_succ
def uC:=@Nat.le_of_lt
def uD:=@Array.getD_eq_getD_getElem?
def uE:=@PySem.Calls.callWith_builtin
def uF:=@Int.mul_nonneg_of_nonpos_of_nonpos
def uG:=@PySem.F.slot_tuple_iterator_next
def uH:=@List.getElem_mem
def uI:=@PySem.F.plain_max_loop
def uJ:=@List.zip_cons_cons
def uK:=@Int.mul_assoc
def uL:=@PySem.wpAny_pyIter_tuple
def uM:=@List.take_append_drop
def uN:=@List.map_nil
def uO:=@PySem.wpAny_setField_rec
def uP:=@Nat.eq_of_mul_eq_mul_left
def uQ:=@List.drop_eq_getElem_cons
def uR:=@List.pairwise_of_forall_mem_list
def uS:=@Int.mul_ediv_cancel'
def uT:=@PySem.wpAny_passesOwn
def uU:=@PySem.wpAny_loadPart'
def uV:=@Nat.not_lt_zero
def uW:=@List.takeWhile_append_dropWhile
def uX:=@List.find?_cons
def uY:=@PySem.mem_of_lookup
def uZ:=@List.getElem?_replicate
def u3:=@if_false
def u4:=@Nat.dvd_trans
def u5:=@PySem.F.plainAttrs_list
def u6:=@List.getLast?_cons_cons
def u7:=@PyProof.Rows.F.plain_set_update_loop
def u8:=@List.mem_map_of_mem
def u9:=@PySem.wpAny_forIn_list
def ja:=@List.length_drop
def jb:=@Nat.mod_lt
def jc:=@List.append_eq_nil_iff
def jd:=@Int.lt_or_eq_of_le
def je:=@Int.emod_lt_of_pos
def jf:=@PyProof.Rows.callWith_type1
def jg:=@Bool.eq_iff_iff
def jh:=@List.of_mem_zip
def ji:=@List.length_singleton
def jk:=@Int.le_refl
def jl:=@Int.zero_mul
def jm:=@PySem.F.called_set
def jn:=@List.Perm.append_left
def jo:=@PySem.wpAny_updateSeq
def jp:=@List.sum_append
def jq:=@List.sum_nil
def jr:=@PySem.wpAny_truthy_bool
def jt:=@Int.gcd_dvd_right
def ju:=@PySem.Heap.get?_push_ne
def jv:=@List.mem_append_left
def jw:=@if_true
def jx:=@Nat.pow_le_pow_right
def jy:=@List.mem_of_mem_take
def jz:=@List.append_eq_append_iff
def jA:=@Int.gcd_dvd_left
def jB:=@List.all_eq_true
def jC:=@List.perm_middle
def jD:=@PySem.wpAny_askSetting
def jE:=@PySem.wpAny_letGo
def jF:=@Nat.ne_of_gt
def jG:=@PySem.wpAny_typeOf
def jH:=@Nat.gcd_comm
def jI:=@getElem?_pos
def jJ:=@PySem.wpAny_Call_Name_kw
def jK:=@Int.natAbs_natCast
def jL:=@Int.dvd_trans
def jM:=@PySem.W.KasT.kasWp_bind
def jN:=@List.length_zip
def jO:=@Int.emod_nonneg
def jP:=@PySem.W.mg_none_of
def jQ:=@Nat.dvd_gcd
def jR:=@List.Perm.refl
def jS:=@PySem.wpAny_setField
set_option Elab.async false
set_option linter.all false
set_option maxRecDepth 100000
namespace L2
open PySem PySem.Spec PyProof.Rows
abbrev Key:=Sum Int Str
def z8c:Key->Value->Bool
 | .inl k,v=>Value.isInt k v
 | .inr x,v=>Value.isStrOf x v
def keyH (w:World):Key->Int
 | .inl k=>hashInt k
 | .inr x=>hashStr w x
def z0E:∀{k:Key}{v:Value},z8c k v=true->(∃i t,k=Sum.inl i/\v=Value.int i t)\/(∃x t,k=Sum.inr x/\v=Value.str x t)
 | .inl i,v,h=>by
  obtain⟨t,e⟩:=Value.isInt_shape h;exact .inl ⟨i,t,rfl,e⟩
 | .inr x,v,h=>by
  obtain⟨t,e⟩:=Value.isStrOf_shape h;exact .inr ⟨x,t,rfl,e⟩
def zbn (i:Int)(t:Tok):z8c (.inl i) (.int i t)=true:=by simp[z8c,Value.isInt]
def zbm (x:Str)(t:Tok):z8c (.inr x) (.str x t)=true:=by simp[z8c,Value.isStrOf]
def zjv (a b:Int):decide ((Sum.inl a:Key)=Sum.inl b)=(a == b):=by
 grind
def zjs (a b:Str):decide ((Sum.inr a:Key)=Sum.inr b)=decide (a=b):=by
 grind
def zju (a:Int)(b:Str):decide ((Sum.inl a:Key)=Sum.inr b)=false:=ve (λq=>nomatch q)
def zjt (a:Str)(b:Int):decide ((Sum.inr a:Key)=Sum.inl b)=false:=ve (λq=>nomatch q)
def z0X (prog:Program)(w:World):PySem.KeyKind prog w Key where
 is:=z8c
 hash:=keyH w
 inj:=λv a b ha hb=>by
  rcases z0E ha with ⟨i,t,rfl,rfl⟩ | ⟨x,t,rfl,rfl⟩
  .rcases z0E hb with ⟨j,u,rfl,e⟩ | ⟨y,u,rfl,e⟩
   .injection e with e1 _;rw[e1]
   .exact nomatch e
  .rcases z0E hb with ⟨j,u,rfl,e⟩ | ⟨y,u,rfl,e⟩
   .exact nomatch e
   .injection e with e1 _;rw[e1]
 byValue:=λk v h=>by
  rcases z0E h with ⟨i,t,rfl,rfl⟩ | ⟨x,t,rfl,rfl⟩ <;> rfl
 pyHash:=λhv h=>by
  rcases z0E hv with ⟨i,t,rfl,rfl⟩ | ⟨x,t,rfl,rfl⟩
  .exact wpAny_pyHash_int h
  .exact wpAny_pyHash_str h
 eqBool:=λhu hv h=>by
  rcases z0E hu with ⟨i,t,rfl,rfl⟩ | ⟨x,t,rfl,rfl⟩
  .rcases z0E hv with ⟨j,u,rfl,rfl⟩ | ⟨y,u,rfl,rfl⟩
   .rw[zjv] at h;exact wpAny_eqBool_int h
   .rw[zju] at h;exact SeqAt.EqAt.int_str i t y u _ _ _ _ h
  .rcases z0E hv with ⟨j,u,rfl,rfl⟩ | ⟨y,u,rfl,rfl⟩
   .rw[zjt] at h;exact SeqAt.EqAt.str_int x t j u _ _ _ _ h
   .rw[zjs] at h;exact wpAny_eqBool_str h
 «strs»:=λk x t v h=>by
  rcases z0E h with ⟨i,u,rfl,e⟩ | ⟨y,u,rfl,e⟩
  .exact nomatch e
  .injection e with e1 _
   subst e1
   cases v <;> rfl
def z9M (prog:Program)(w:World)(k:Key)(v:Value):(z0X prog w).is k v=z8c k v:=rfl
def z88 (prog:Program)(w:World)(i:Int)(t:Tok):(z0X prog w).is (.inl i) (.int i t)=true:=zbn i t
def z87 (prog:Program)(w:World)(x:Str)(t:Tok):(z0X prog w).is (.inr x) (.str x t)=true:=zbm x t
inductive V where
 | non | bl (b:Bool) | int (i:Int) | str (x:Str) | byt (b:Array UInt8) | flt (b:UInt64) | ref (a:Addr) | ty (n:String)
 deriving DecidableEq
def RelV:V->Value->Prop
 | .non,u=>u=Value.none
 | .bl b,u=>u=Value.bool b
 | .int i,u=>∃t,u=Value.int i t
 | .str x,u=>∃t,u=Value.str x t
 | .byt b,u=>∃t,u=Value.bytes b t
 | .flt b,u=>∃t,u=Value.float b t
 | .ref a,u=>u=Value.ref a
 | .ty n,u=>u=Value.type n
abbrev Vals:List V->List Value->Prop:=Paired RelV
theorem Vals.length {xs:List V}{us:List Value}(r:Vals xs us):xs.length=us.length:=Paired.length r
theorem Vals.get:∀{xs:List V}{us:List Value}{i:Nat}{x:V},Vals xs us->xs[i]? = some x->∃u,us[i]? = some u/\RelV x u
 | _,_,_,_,.nil,e=>by simp at e
 | _,_,0,_,.cons r _,e=>by simp at e;subst e;exact⟨_,rfl,r⟩
 | _,_,i+1,x,.cons _ t,e=>by
  obtain⟨u,h1,h2⟩:=Vals.get t (by simpa using e);exact⟨u,by simpa using h1,h2⟩
theorem Vals.set {x:V}{u:Value}(r:RelV x u):∀{xs:List V}{us:List Value}(i:Nat),Vals xs us->Vals (xs.set i x) (us.set i u)
 | _,_,_,.nil =>.nil
 | _,_,0,.cons _ t =>.cons r t
 | _,_,i+1,.cons q t =>.cons q (Vals.set r i t)
theorem Vals.append:∀{xs ys:List V}{us ws:List Value},Vals xs us->Vals ys ws->Vals (xs++ys) (us++ws)
 | _,_,_,_,.nil,s=>s
 | _,_,_,_,.cons r t,s =>.cons r (Vals.append t s)
theorem Vals.take:∀{xs:List V}{us:List Value}(n:Nat),Vals xs us->Vals (xs.take n) (us.take n)
 | _,_,0,_ =>.nil
 | _,_,_+1,.nil =>.nil
 | _,_,n+1,.cons r t =>.cons r (Vals.take n t)
theorem Vals.drop:∀{xs:List V}{us:List Value}(n:Nat),Vals xs us->Vals (xs.drop n) (us.drop n)
 | _,_,0,r=>r
 | _,_,_+1,.nil =>.nil
 | _,_,n+1,.cons _ t=>Vals.drop n t
def RelO:Option V->Option Value->Prop
 | some v,some u=>RelV v u
 | none,none=>True
 | _,_=>False
def KV {κ:Type}:List (κ × V)->List (κ × Value)->Prop:=Paired λ(p:κ × V) (q:κ × Value)=>p.1=q.1/\RelV p.2 q.2
def kV:Key->V
 | .inl i =>.int i
 | .inr x =>.str x
inductive HO where
 | lst (xs:List V)
 | tup (xs:List V)
 | dK (kvs:List (Key × V)) | dT (kvs:List (List Key × V))
 | set (S:Int->Bool) (n:Nat)
 | ins (C dx:Addr) (fs:List (Str × V))
 | own (x:Addr)
 | xd (fs:List (Str × V))
 | met (f x:Addr)
 | rng (lo hi:Int)
 | frz (o:Obj) (u:HO)
 | tbl (ps:Array Value)
 | ext (φ:Heap->Prop)
abbrev Hp:=Addr->Option HO
def upd (H:Hp)(a:Addr)(o:HO):Hp:=λb=>if b=a then some o else H b
def z06 {H:Hp}{a:Addr}{o:HO}:upd H a o a=some o:=by unfold upd;rw[if_pos rfl]
def z04 {H:Hp}{a b:Addr}{o:HO}(h:b≠a):upd H a o b=H b:=by unfold upd;rw[if_neg h]
def zl5 {H:Hp}{a b:Addr}{o u:HO}(h:H a=some o)(h':H b=some u)(d:o≠u):a≠b:=by
 intro e;simp_all
def z0j {H:Hp}{a b:Addr}{o:HO}(h:H a=some o)(h':H b=none):a≠b:=by
 grind
def NoD (h:Heap)(a:Addr):Prop:=∃o,h.get? a=some o/\o.dict=none
def zlC (H:Hp)(h:Heap)(a:Addr)(ps:Array Value):Prop:=h.get? a=some { cls :=.none,data :=.fields #[] }\/
 ∃(l c:Value) (q:Str) (t:Tok) (c':Addr) (o:Obj) (vs:Array Value) (u:Tok),ps[0]? = some l/\ps[1]? = some c/\ps[2]? = some (.str q t)/\h.get? a=some { cls :=.none,data :=.fields #[l,c,.ref c'] }/\H c'=some (.frz o (.own c'))/\o.data = .fields vs/\vs[1]? = some (.str q u)
section
variable (P:Program)(w:World)
def z1j (H:Hp)(h:Heap)(a:Addr):HO->Prop
 | .lst xs=>xs.length<=sizeLine/\∃(its:List Value) (n:Nat),Vals xs its/\h.get? a=some { cls :=.type "list",data :=.seq its.toArray n }
 | .tup xs=>xs.length<=sizeLine/\∃its:List Value,Vals xs its/\IsTup h a its.toArray/\NoD h a
 | .dK kvs=>kvs.length<=sizeLine/\(a == sysModules)=false/\∃vs,KV kvs vs/\h.DictOf (z0X P w) a vs
 | .dT kvs=>kvs.length<=sizeLine/\(a == sysModules)=false/\∃xs:List (List Key × Addr × Value),
   Paired (λ(p:List Key × V) (q:List Key × Addr × Value)=>p.1=q.1/\H q.2.1=some (.tup (p.1.map kV))/\RelV p.2 q.2.2) kvs xs/\
   ∃o es ep,h.get? a=some o/\o.ExactDict/\o.data = .dict es ep/\es.toList=xs.map (entryOfKey (tupleKind (z0X P w)))/\(xs.map (·.1)).Nodup
 | .set S n=>h.SetOf (intKind P w) a S n
 | .ins C dx fs=>H dx=some (.own a)/\fs.length<=1000/\dx≠a/\h.get? a=some (W.instObj C dx)/\
   ∃mA,h.Ns1 dx mA/\(∀f,RelO (fs.lookup f) (mA f))/\PySem.Within mA (fs.map (·.1))
 | .own _=>∃o,h.get? a=some o
 | .xd fs=>∃mA,h.Ns1 a mA/\∀f,RelO (fs.lookup f) (mA f)
 | .rng lo hi=>∃t u v,h.get? a=some { cls :=.type "range",data :=.fields #[.int lo t,.int hi u,.int 1 v] }
 | .frz o u=>h.get? a=some o/\z1j H h a u
 | .tbl ps=>zlC H h a ps
 | .met f x=>h.get? a=some (W.methodObj (.ref f) (.ref x))
 | .ext φ=>φ h/\(∃o,h.get? a=some o)/\∀h1 h2:Heap,φ h1->(∀o,h1.get? a=some o->h2.get? a=some o)->φ h2
def HOk (H:Hp)(h:Heap):Prop:=∀a o,H a=some o->z1j P w H h a o
end
section
variable {P:Program}{w:World}{H H':Hp}{h h':Heap}{a:Addr}{o:HO}
theorem z1j.lt (x:z1j P w H h a o):a<h.objs.size:=by
 cases o with
 | lst xs=>obtain⟨_,_,_,_,e⟩:=x;exact wo e
 | tup xs=>obtain⟨_,_,_,p,_⟩:=x;exact p.lt
 | dK kvs=>obtain⟨_,_,_,_,o,_,_,e,_⟩:=x;exact wo e
 | dT kvs=>obtain⟨_,_,_,_,o,_,_,e,_⟩:=x;exact wo e
 | set S n=>obtain⟨o,_,_,_,e,_⟩:=x;exact wo e
 | ins C dx fs=>obtain⟨_,_,_,e,_⟩:=x;exact wo e
 | own y=>obtain⟨_,e⟩:=x;exact wo e
 | xd fs=>obtain⟨_,⟨_,_,_,e,_⟩,_⟩:=x;exact wo e
 | rng lo hi=>obtain⟨_,_,_,e⟩:=x;exact wo e
 | frz ob u=>obtain⟨e,_⟩:=x;exact wo e
 | tbl ps=>rcases x with e | ⟨_,_,_,_,_,_,_,_,_,_,_,e,_⟩ <;> exact wo e
 | met f y=>exact wo (x)
 | ext φ=>obtain⟨_,⟨_,e⟩,_⟩:=x;exact wo e
theorem Paired.mapP {α β:Type}{F G:α->β->Prop}:∀{l₁:List α} {l₂:List β},Paired F l₁ l₂->(∀a b,F a b->G a b)->Paired G l₁ l₂
 | _,_,.nil,_ =>.nil
 | _,_,.cons r t,f =>.cons (f _ _ r) (Paired.mapP t f)
def z1j.stay (x:z1j P w H h a o)(k:∀b u,(b=a\/H b=some (.own a))->h.get? b=some u->h'.get? b=some u)
  (ho:∀b,H b=some (.own a)->H' b=some (.own a)) (ht:∀b xs,H b=some (.tup xs)->H' b=some (.tup xs)) (hf:∀b o c,H b=some (.frz o (.own c))->H' b=some (.frz o (.own c)):=by first | exact λ_ _ _ q=>q | exact λc _ _ q=>by rw[z04 (z0j q (by assumption))];exact q):z1j P w H' h' a o:=by
 induction o with
 | lst xs=>obtain⟨z,its,n,r,e⟩:=x;exact⟨z,its,n,r,k _ _ (.inl rfl) e⟩
 | tup xs=>obtain⟨z,its,r,⟨ob,e,c⟩,od,ed,cd⟩:=x;exact⟨z,its,r,⟨ob,k _ _ (.inl rfl) e,c⟩,od,k _ _ (.inl rfl) ed,cd⟩
 | dK kvs=>obtain⟨z,y,vs,r,ob,es,ep,e,c⟩:=x;exact⟨z,y,vs,r,ob,es,ep,k _ _ (.inl rfl) e,c⟩
 | dT kvs=>
  obtain⟨z,y,xs,r,ob,es,ep,e,c⟩:=x;exact⟨z,y,xs,Paired.mapP r λp q z=>⟨z.1,ht _ _ z.2.1,z.2.2⟩,ob,es,ep,k _ _ (.inl rfl) e,c⟩
 | set S n=>obtain⟨ob,es,ep,t,e,c⟩:=x;exact⟨ob,es,ep,t,k _ _ (.inl rfl) e,c⟩
 | ins C dx fs=>
  obtain⟨d,z,ne,e,mA,⟨od,es,ep,e2,c⟩,r⟩:=x;exact⟨ho _ d,z,ne,k _ _ (.inl rfl) e,mA,⟨od,es,ep,k _ _ (.inr d) e2,c⟩,r⟩
 | own y=>obtain⟨ob,e⟩:=x;exact⟨ob,k _ _ (.inl rfl) e⟩
 | xd fs=>obtain⟨mA,⟨od,es,ep,e,c⟩,r⟩:=x;exact⟨mA,⟨od,es,ep,k _ _ (.inl rfl) e,c⟩,r⟩
 | rng lo hi=>obtain⟨t,u,v,e⟩:=x;exact⟨t,u,v,k _ _ (.inl rfl) e⟩
 | frz ob u ih=>obtain⟨e,q⟩:=x;exact⟨k _ _ (.inl rfl) e,ih q⟩
 | tbl ps=>
  rcases x with e | ⟨l,c,q,t,c',ob,vs,u,e1,e2,e3,e,ec,r⟩
  .exact .inl (k a _ (.inl rfl) e)
  .exact .inr ⟨l,c,q,t,c',ob,vs,u,e1,e2,e3,k a _ (.inl rfl) e,hf _ _ _ ec,r⟩
 | met f y=>
  have e  := x;exact k a _ (.inl rfl) e
 | ext φ=>obtain⟨p,⟨o,e⟩,st⟩:=x;exact⟨st _ _ p λo q=>k _ _ (.inl rfl) q,⟨o,k _ _ (.inl rfl) e⟩,st⟩
theorem HOk.lt (x:HOk P w H h)(e:H a=some o):a<h.objs.size:=(x a o e).lt
def HOk.fresh (x:HOk P w H h)(e:h.objs.size<=a):H a=none:=by
 cases q:H a with
 | none=>rfl
 | some u=>exact absurd (wB (x.lt q) e) (vj _)
def HOk.kept (x:HOk P w H h)(k:∀b u,h.get? b=some u->h'.get? b=some u):HOk P w H h':=λa o e=>
 (x a o e).stay (λb u _ q=>k b u q) (λ_ q=>q) λ_ _ q=>q
def HOk.laid (x:HOk P w H h)(k:∀b u,h.get? b=some u->h'.get? b=some u)(hp:h.objs.size<=a)(new:z1j P w (upd H a o) h' a o):HOk P w (upd H a o) h':=λb u e=>by
 have hn:=x.fresh hp
 by_cases hb:b=a
 .subst hb;rw[z06] at e;grind
 .rw[z04 hb] at e;exact(x b u e).stay (λc v _ q=>k c v q) (λc q=>by rw[z04 (z0j q hn)];exact q) λc xs q=>by rw[z04 (z0j q hn)];exact q
end
def Rd (H:Hp)(a:Addr)(u:HO):Prop:=H a=some u\/∃o,H a=some (.frz o u)
def Rd.ok {P:Program}{w:World}{H:Hp}{h:Heap}{a:Addr}{u:HO}(r:Rd H a u)(x:HOk P w H h):z1j P w H h a u:=by
 rcases r with r | ⟨o,r⟩
 .exact x a u r
 .obtain⟨_,q⟩:=x a _ r;exact q
def Mut:Option HO->Prop
 | some (.lst _)=>True
 | some (.dK _)=>True
 | some (.dT _)=>True
 | some (.set _ _)=>True
 | some (.ins _ _ _)=>True
 | some (.ext _)=>True
 | _=>False
section
variable {P:Program}{w:World}{H:Hp}{h h':Heap}{x e:Addr}{o':HO}
def HOk.write (ok:HOk P w H h)(mu:Mut (H x))(he:e=x\/H e=some (.own x))(k:∀b u,b≠e->h.get? b=some u->h'.get? b=some u)(heo:∃u,h'.get? e=some u)
  (new:z1j P w (upd H x o') h' x o'):HOk P w (upd H x o') h':=λb u q=>by
 have nown:∀c y,H c=some (.own y)->c≠x:=λc y r z=>by subst z;rw[r] at mu;exact mu
 have ntup:∀c xs,H c=some (.tup xs)->c≠x:=λc xs r z=>by subst z;rw[r] at mu;exact mu
 by_cases hb:b=x
 .subst hb;rw[z06] at q;cases q;exact new
 .rw[z04 hb] at q
  by_cases hbe:b=e
  .have q':H b=some (.own x):=by
    simp_all
   rw[q] at q';cases q';obtain⟨v,hv⟩:=heo;exact⟨v,by rw[hbe];exact hv⟩
  .refine(ok b u q).stay (λc v hc r=>k c v ?_ r) (λc r=>by rw[z04 (nown c b r)];exact r) (λc xs r=>by rw[z04 (ntup c xs r)];exact r) λc o u r=>by rw[z04 (λz=>by subst z;rw[r] at mu;exact mu)];exact r
   grind
end
structure Un (fs ex:List Addr)(H H':Hp)(h h':Heap):Prop where
 keep:∀b o,h.get? b=some o->H b=none->b ∉ fs->b ∉ ex->h'.get? b=some o
 slot:∀b o,h.get? b=some o->H b=none->b∈fs->b ∉ ex->∃sl,h'.get? b=some { o with slots:=sl }
 free:∀b o,h.get? b=some o->H b=none->b ∉ ex->H' b=none
 there:∀b o,h.get? b=some o->b ∉ ex->∃o',h'.get? b=some o'
 tups:∀b xs,H b=some (.tup xs)->H' b=some (.tup xs)
 frzs:∀b o u,H b=some (.frz o u)->H' b=some (.frz o u)
 tbls:∀b ps,H b=some (.tbl ps)->∃more,H' b=some (.tbl (ps++more))
section
variable {fs fs' ex ex':List Addr}{H H1 H2:Hp}{h h1 h2 h':Heap}{a x e:Addr}{o:HO}
def Un.any (u:Un fs ex H H1 h h1){b:Addr}{ob:Obj}(q:h.get? b=some ob)(n:H b=none)(hx:b ∉ ex):∃sl,h1.get? b=some { ob with slots:=sl }:=by
 by_cases hb:b∈fs
 .exact u.slot b ob q n hb hx
 .exact⟨ob.slots,u.keep b ob q n hb hx⟩
def Un.kept (k:∀b u,h.get? b=some u->h'.get? b=some u):Un fs ex H H h h':=
 ⟨λb ob q _ _ _=>k b ob q,λb ob q _ _ _=>⟨ob.slots,k b ob q⟩,λ_ _ _ n _=>n,λb ob q _=>⟨ob,k b ob q⟩,λ_ _ q=>q,λ_ _ _ q=>q,λ_ ps q=>⟨#[],by rw[q];simp⟩⟩
def Un.refl:Un fs ex H H h h:=Un.kept λ_ _ q=>q
def Un.laid (k:∀b u,h.get? b=some u->h'.get? b=some u)(hp:h.objs.size<=a)(hn:H a=none):Un fs ex H (upd H a o) h h' where
 keep:=λb u q _ _ _=>k b u q
 slot:=λb u q _ _ _=>⟨u.slots,k b u q⟩
 free:=λb u q n _=>by rw[z04 (wz (wB (wo q) hp))];exact n
 there:=λb u q _=>⟨u,k b u q⟩
 tups:=λb xs q=>by rw[z04 (z0j q hn)];exact q
 frzs:=λb u xs q=>by rw[z04 (z0j q hn)];exact q
 tbls:=λb ps q=>⟨#[],by rw[z04 (z0j q hn),q];simp⟩
def Un.write (mu:Mut (H x))(he:e=x\/H e=some (.own x))(k:∀b u,b≠e->h.get? b=some u->h'.get? b=some u)(heo:∃u,h'.get? e=some u):Un fs ex H (upd H x o) h h':=by
 have hx:∀b,H b=none->b≠x:=λb n z=>by subst z;rw[n] at mu;exact mu
 have hb:∀b,H b=none->b≠e:=λb n z=>by
  grind
 have hm:∀b u,H b=some u->¬ Mut (some u)->b≠x:=λb u q nm z=>by simp_all
 refine⟨λb u q n _ _=>k b u (hb b n) q,λb u q n _ _=>⟨u.slots,k b u (hb b n) q⟩,λb u q n _=>by rw[z04 (hx b n)];exact n,λb u q _ =>?_,
  λb xs q=>by rw[z04 (hm b _ q λz=>z)];exact q,λb u xs q=>by rw[z04 (hm b _ q λz=>z)];exact q,λb ps q=>⟨#[],by rw[z04 (hm b _ q λz=>z),q];simp⟩⟩
 by_cases hbe:b=e
 .simp_all
 .exact⟨u,k b u hbe q⟩
end
def trk (h:Heap)(H:Hp):List Addr:=(List.range h.objs.size).filter λa=>(H a).isSome
def hidT (h:Heap)(H:Hp):Heap:=W.hideAll h (trk h H)
def zbs (h:Heap)(H:Hp):(hidT h H).objs.size=h.objs.size:=W.hideAll_size _ _
def z6r {h:Heap}{H:Hp}{b:Addr}{o:Obj}(e:h.get? b=some o)(n:H b=none):(hidT h H).get? b=some o:=
 W.hideAll_get _ e λhm=>by
  have q  := (List.mem_filter.mp hm).2
  simp_all
def zfY {h:Heap}{H:Hp}{b:Addr}{o:Obj}(e:(hidT h H).get? b=some o):h.get? b=some o/\H b=none:=by
 have e'  := W.of_hideAll _ e;refine⟨e',?_⟩
 cases q:H b with
 | none=>rfl
 | some x=>
  have hm:b∈trk h H:=List.mem_filter.mpr ⟨vU.mpr (wo e'),by simp[q]⟩;have z:(hidT h H).get? b=none:=W.hideAll_none _ hm
  grind
def BmAt (mg:WmP)(h:Heap):Prop:=∃bm ob,mg "__builtins__"=some (.ref bm)/\bm≠builtinsNs/\h.get? bm=some ob/\ob.cls = .type "module"/\ob.dict=some builtinsNs/\ob.data = .plain
def zjr (fd:FuncData):Option Pos:=match fd.body with
 | .stmts b=>(match b.getLast? with
  | some (.Return (some (.Call _ _ [⟨_,.Lambda _ _ _ pos,_⟩] _)) _)=>some pos
  | _=>none)
 | _=>none
def zaa (K:W.Frag)(c:Addr):Option Addr:=match K.lookup c with
 | some ⟨.type "code",_,.fields vs,_⟩=>(match (vs[11]? : Option Value) with | some (.ref P)=>if (K.lookup P).isNone then some P else none | _=>none)
 | _=>none
def tsOf (K:W.Frag):List (Addr × Nat × Nat × Str):=K.filterMap λp=>match p.2.data with
 | .func fd=>(match zjr fd,fd.code with
  | some pos,.ref c=>(zaa K c).map λP=>(P,pos.line,pos.col,fd.qualname++".<locals>."++"<lambda>")
  | _,_=>none)
 | _=>none
def encT (t:Nat × Nat × Str):Array Value := #[rawInt t.1,rawInt t.2.1,.str t.2.2 0]
def Tbs (K:W.Frag)(H:Hp):Prop:=∀P t,(tsOf K).lookup P=some t->∃more,H P=some (.tbl (encT t++more))
structure Mod (K:W.Frag)(mg:WmP)(base:Heap):Prop where
 kin:K.In base
 glob:base.Ns mainGlobals mg
 blt:∃mb,base.Ns builtinsNs mb/\∀x:Str,x≠"__name__"->mb x=bootBuiltins x
 nolimit:base.NoLimit
 bm:BmAt mg base
structure Cx where
 prog:Program
 w:World
 K:W.Frag
 mg:Str->Option Value
 base:Heap
 A:Around
 N:List Str
 s₀:Shared
 H₀:Hp
 env:Env
 outer:List Env
 stack:List Env
 ex:List Addr
 fn:Str->Bool
 calm:Bool
 pn:List (Addr × Obj)
 xe:Value->Shared->Prop
def frs (l:List Env):List Addr:=l.filterMap (·.frame)
abbrev Cx.fs (X:Cx):List Addr:=frs X.outer
def Vis (sc:Scope)(x:Str):Prop:=sc.names.lookup x=some .local\/sc.names.lookup x=some .cell\/sc.names.lookup x=some .free
def Loc (sc:Scope)(x:Str):Prop:=sc.names.lookup x=some .local\/sc.names.lookup x=some .cell
def Look (env:Env)(h:Heap)(m:WmP)(x:Str)(u:Value):Prop:=
 (env.kindOf x=some .local/\m x=some u)\/((env.kindOf x=some .cell\/env.kindOf x=some .free)/\∃c,env.cells.lookup x=some c/\h.IsCell c (some u))
structure Cx.Ok (X:Cx):Prop where
 mod:Mod X.K X.mg X.base
 kind:X.env.scope.kind = .function
 glob:X.env.globals=mainGlobals
 blt:X.env.builtins=builtinsNs
 above:X.s₀.heap.objs.size<=X.env.locals
 inj:∀x y c,X.env.cells.lookup x=some c->X.env.cells.lookup y=some c->x=y
 has:∀x,(X.env.kindOf x=some .cell\/X.env.kindOf x=some .free)->∃c,X.env.cells.lookup x=some c
 cab:∀x c,X.fn x=true->X.env.cells.lookup x=some c->X.s₀.heap.objs.size<=c
 hd:X.calm=true->X.A.handled=none
 frames:X.A.frames=some X.stack
 stk:X.stack=X.outer\/(X.stack=X.env::X.outer/\X.env.frame=some X.env.locals)
 exf:∀b∈X.ex,b≠X.env.locals/\∀x c,X.env.cells.lookup x=some c->c≠b
 bs:∀b o,X.base.get? b=some o->X.s₀.heap.get? b=some o/\X.H₀ b=none
 bsz:X.base.objs.size<=X.s₀.heap.objs.size
 noex:∀b o,X.base.get? b=some o->b ∉ X.ex
 exfs:∀b∈X.ex,b ∉ X.fs
 funs:X.s₀.heap.FunFrames X.base X.outer
 frf:∀b∈X.fs,X.H₀ b=none
 tbs:Tbs X.K X.H₀
structure Inv (X:Cx)(pins:List (Addr × Obj))(σ:List (Option V))(H:Hp)(s:Shared):Prop where
 ok:X.Ok
 os:s.os=X.s₀.os
 bare:AllBare s.gens
 base:Un X.fs X.ex X.H₀ H X.s₀.heap s.heap
 loc:∃m,s.heap.Ns X.env.locals m/\∀(i:Nat) (x:Str) (v:V),X.N[i]? = some x->σ[i]? = some (some v)->Vis X.env.scope x->∃u,RelV v u/\Look X.env s.heap m x u
 cell:∀x c,X.env.cells.lookup x=some c->∃v,s.heap.IsCell c v
 free:H X.env.locals=none
 freeC:∀x c,X.env.cells.lookup x=some c->H c=none
 pin:∀p∈X.pn++pins,s.heap.get? p.1=some p.2/\H p.1=none/\p.1≠X.env.locals/\p.1 ∉ X.fs/\∀v,p.2.data ≠ .cell v
 hok:HOk X.prog X.w H s.heap
 len:σ.length=X.N.length
section
variable {X:Cx}{pins:List (Addr × Obj)}{σ:List (Option V)}{H H':Hp}{s:Shared}{h':Heap}
def Cx.Ok.nofr (ok:X.Ok){b:Addr}{o:Obj}(e:X.base.get? b=some o):b ∉ X.fs:=λhb=>by
 have:=(ok.funs.mem hb).1
 grind
theorem Inv.bs (I:Inv X pins σ H s):∀b o,X.base.get? b=some o->s.heap.get? b=some o/\H b=none:=λb o e=>
 ⟨I.base.keep b o (I.ok.bs b o e).1 (I.ok.bs b o e).2 (I.ok.nofr e) (I.ok.noex b o e),I.base.free b o (I.ok.bs b o e).1 (I.ok.bs b o e).2 (I.ok.noex b o e)⟩
def Inv.bk (I:Inv X pins σ H s):∀b o,X.base.get? b=some o->s.heap.get? b=some o:=λb o e=>(I.bs b o e).1
theorem Inv.mod (I:Inv X pins σ H s):Mod X.K X.mg X.base:=I.ok.mod
def Inv.kIn (I:Inv X pins σ H s):X.K.In s.heap:=I.ok.mod.kin.keeps I.bk
theorem Inv.lt (I:Inv X pins σ H s):X.env.locals<s.heap.objs.size:=let ⟨_,hn,_⟩:=I.loc;hn.lt
def Inv.sz (I:Inv X pins σ H s):X.s₀.heap.objs.size<=s.heap.objs.size:=wI I.ok.above (uC I.lt)
def Inv.nofs (I:Inv X pins σ H s){a:Addr}(h:s.heap.objs.size<=a):a ∉ X.fs:=λhb=>by
 obtain⟨_,o,ho,_⟩:=I.ok.funs.mem hb;exact absurd (wB (wo ho) (wI I.sz h)) (vj _)
def Inv.cne (I:Inv X pins σ H s):∀x c,X.env.cells.lookup x=some c->c≠X.env.locals:=λx c e z=>by
 obtain⟨v,o,ho,hd⟩:=I.cell x c e;obtain⟨m,⟨o',es,ep,ho',hd',_⟩,_⟩:=I.loc
 grind
theorem Inv.funs (I:Inv X pins σ H s):s.heap.FunFrames X.base X.outer:=by
 have all:∀(l:List Env),(∀b∈frs l,b∈X.fs)->X.s₀.heap.FunFrames X.base l->s.heap.FunFrames X.base l:=by
  intro l
  induction l with
  | nil=>intro _ _;trivial
  | cons env r ih=>
   intro hs hl;obtain⟨hk,⟨L,o,hf,hn,ho,hd⟩,hr⟩:=hl;have hL  := hs L (by unfold frs;simp_all);obtain⟨sl,e⟩:=I.base.slot L o ho (I.ok.frf L hL) hL λz=>I.ok.exfs L z hL;exact⟨hk,⟨L,_,hf,hn,e,hd⟩,ih (λb hb=>hs b (by unfold frs;rw[uh,hf];exact wm _ hb)) hr⟩
 exact all _ (λ_ hb=>hb) I.ok.funs
theorem Inv.stack (I:Inv X pins σ H s):s.heap.FunFrames X.base X.stack:=by
 rcases I.ok.stk with e | ⟨e,hf⟩
 .rw[e];exact I.funs
 .rw[e];obtain⟨m,hn,_⟩:=I.loc;refine .cons (by rw[I.ok.kind];decide) hf hn ?_ I.funs;exact Heap.get?_none_of_le (wI I.ok.bsz I.ok.above)
def Inv.stkSub (I:Inv X pins σ H s):∀b∈frs X.stack,b∈X.env.locals::X.fs:=λb hb=>by
 rcases I.ok.stk with e | ⟨e,hf⟩
 .simp_all
 .rw[e] at hb;unfold frs at hb;rw[uh,hf] at hb;exact hb
def Inv.stkFree (I:Inv X pins σ H s):∀b∈frs X.stack,H b=none:=λb hb=>by
 rcases wg.mp (I.stkSub b hb) with e | hb
 .rw[e];exact I.free
 .obtain⟨_,o,ho,_⟩:=I.ok.funs.mem hb;exact I.base.free b o ho (I.ok.frf b hb) λz=>I.ok.exfs b z hb
theorem Inv.tbs (I:Inv X pins σ H s):Tbs X.K H:=λP t e=>by
 obtain⟨m1,e1⟩:=I.ok.tbs P t e;obtain⟨m2,e2⟩:=I.base.tbls P _ e1;exact⟨m1++m2,by simp_all⟩
def Inv.step {g':Array GenState}{t':Nat}{d':Drawn}{ch:List Addr}(I:Inv X pins σ H s)
  (hch:∀b∈ch,(b∈X.ex\/X.s₀.heap.objs.size<=b)/\b≠X.env.locals/\(∀x c,X.env.cells.lookup x=some c->c≠b)/\∀p∈X.pn++pins,p.1≠b)
  (keep:∀b o,b≠X.env.locals->b ∉ X.fs->b ∉ ch->s.heap.get? b=some o->H b=none->h'.get? b=some o)
  (slot:∀b o,b≠X.env.locals->b∈X.fs->b ∉ ch->s.heap.get? b=some o->H b=none->∃sl,h'.get? b=some { o with slots:=sl }) (free:∀b o,b ∉ ch->s.heap.get? b=some o->H b=none->H' b=none)
  (there:∀b o,b ∉ ch->s.heap.get? b=some o->∃o',h'.get? b=some o')
  (tups:∀b xs,H b=some (.tup xs)->H' b=some (.tup xs)) (frzs:∀b o u,H b=some (.frz o u)->H' b=some (.frz o u)) (tbls:∀b ps,H b=some (.tbl ps)->∃more,H' b=some (.tbl (ps++more)))
  (ns:∀m,s.heap.Ns X.env.locals m->h'.Ns X.env.locals m) (hok:HOk X.prog X.w H' h') (hg:AllBare g'):
  Inv X pins σ H' { s with heap:=h',gens:=g',drawn:=d',toks:=t' }:=by
 have neL:∀b o,X.s₀.heap.get? b=some o->b≠X.env.locals:=λb o e=>wz (wB (wo e) I.ok.above);have neC:∀b o,X.s₀.heap.get? b=some o->b ∉ X.ex->b ∉ ch:=λb o e hx hb=>by
  rcases(hch b hb).1 with z | z
  .exact hx z
  .exact absurd (wB (wo e) z) (vj _)
 have cellK:∀x c,X.env.cells.lookup x=some c->∀v,s.heap.IsCell c v->h'.IsCell c v:=by
  rintro x c e v ⟨o,ho,hd⟩;have nch:c ∉ ch:=λz=>(hch c z).2.2.1 x c e rfl
  by_cases hc:c∈X.fs
  .obtain⟨sl,q⟩:=slot c o (I.cne x c e) hc nch ho (I.freeC x c e);exact⟨_,q,hd⟩
  .exact⟨o,keep c o (I.cne x c e) hc nch ho (I.freeC x c e),hd⟩
 refine⟨I.ok,I.os,hg,⟨λb o e n hb hx =>?_,λb o e n hb hx =>?_,λb o e n hx =>?_,λb o e hx =>?_,λb xs e=>tups b xs (I.base.tups b xs e),λb o xs e=>frzs b o xs (I.base.frzs b o xs e),λb ps e =>?_⟩,?_,λx c e =>?_,?_,λx c e =>?_,λp hp =>?_,hok,I.len⟩
 .exact keep b o (neL b o e) hb (neC b o e hx) (I.base.keep b o e n hb hx) (I.base.free b o e n hx)
 .obtain⟨sl,e1⟩:=I.base.slot b o e n hb hx;obtain⟨sl',e2⟩:=slot b _ (neL b o e) hb (neC b o e hx) e1 (I.base.free b o e n hx);exact⟨sl',e2⟩
 .obtain⟨o',e1⟩:=I.base.there b o e hx;exact free b o' (neC b o e hx) e1 (I.base.free b o e n hx)
 .obtain⟨o',e1⟩:=I.base.there b o e hx;exact there b o' (neC b o e hx) e1
 .obtain⟨m1,e1⟩:=I.base.tbls b ps e;obtain⟨m2,e2⟩:=tbls b _ e1;exact⟨m1++m2,by rw[e2,Array.append_assoc]⟩
 .obtain⟨m,hn,hl⟩:=I.loc;refine⟨m,ns m hn,λi x v e1 e2 e3 =>?_⟩;obtain⟨u,r,l⟩:=hl i x v e1 e2 e3;refine⟨u,r,?_⟩
  rcases l with l | ⟨k,c,e,z⟩
  .exact .inl l
  .exact .inr ⟨k,c,e,cellK x c e _ z⟩
 .obtain⟨v,z⟩:=I.cell x c e;exact⟨v,cellK x c e v z⟩
 .obtain⟨m,⟨o,_,_,ho,_⟩,_⟩:=I.loc;exact free _ o (λz=>(hch _ z).2.1 rfl) ho I.free
 .obtain⟨v,o,ho,hd⟩:=I.cell x c e;exact free c o (λz=>(hch c z).2.2.1 x c e rfl) ho (I.freeC x c e)
 .obtain⟨e,n,ne,nf,d⟩:=I.pin p hp;have nch:p.1 ∉ ch:=λz=>(hch p.1 z).2.2.2 p hp rfl;exact⟨keep p.1 p.2 ne nf nch e n,free p.1 p.2 nch e n,ne,nf,d⟩
def Inv.un {t':Nat}(I:Inv X pins σ H s)(u:Un X.fs [] H H' s.heap h')(hok:HOk X.prog X.w H' h'):Inv X pins σ H' { s with heap:=h',toks:=t' }:=by
 obtain⟨m,⟨o,es,ep,ho,r⟩,_⟩:=id I.loc;obtain⟨sl,hL⟩:=u.any ho I.free (by simp);exact I.step (ch:=[]) (λ_ z=>nomatch z) (λb o _ hb _ e n=>u.keep b o e n hb (by simp)) (λb o _ hb _ e n=>u.slot b o e n hb (by simp)) (λb o _ e n=>u.free b o e n (by simp)) (λb o _ e=>u.there b o e (by simp)) u.tups u.frzs u.tbls (λm' hm=>by
  obtain⟨o',es',ep',ho',r'⟩:=hm;rw[ho] at ho';cases ho';exact⟨_,es',ep',hL,r'⟩) hok I.bare
def Inv.call {g':Array GenState}{t':Nat}{d':Drawn}{ch:List Addr}(I:Inv X pins σ H s)(u:Un (frs X.stack) ch H H' s.heap h')(hok:HOk X.prog X.w H' h')(hg:AllBare g')
  (hch:∀b∈ch,(b∈X.ex\/X.s₀.heap.objs.size<=b)/\b≠X.env.locals/\(∀x c,X.env.cells.lookup x=some c->c≠b)/\∀p∈X.pn++pins,p.1≠b):
  Inv X pins σ H' { s with heap:=h',gens:=g',drawn:=d',toks:=t' }:=by
 obtain⟨m,⟨o,es,ep,ho,r⟩,_⟩:=id I.loc;obtain⟨sl,hL⟩:=u.any ho I.free λz=>(hch _ z).2.1 rfl;exact I.step hch (λb o hL hb hc e n=>u.keep b o e n (λz=>(wg.mp (I.stkSub b z)).elim hL hb) hc) (λb o _ _ hc e n=>u.any e n hc) (λb o hc e n=>u.free b o e n hc) (λb o hc e=>u.there b o e hc) u.tups u.frzs u.tbls (λm' hm=>by
  obtain⟨o',es',ep',ho',r'⟩:=hm;rw[ho] at ho';cases ho';exact⟨_,es',ep',hL,r'⟩) hok hg
def Inv.turned {t':Nat}{it:Addr}(I:Inv X pins σ H s)(k:∀b o,b≠it->s.heap.get? b=some o->h'.get? b=some o)(hn:H it=none)(hL:it≠X.env.locals)
  (h1:it∈X.ex\/X.s₀.heap.objs.size<=it) (h2:∀x c,X.env.cells.lookup x=some c->c≠it) (h3:∀p∈X.pn++pins,p.1≠it):Inv X pins σ H { s with heap:=h',toks:=t' }:=by
 have nit:∀b u,H b=some u->b≠it:=λb u e z=>by grind
 refine I.step (ch:=[it]) (λb hb =>?_) (λb o _ _ hc e _=>k b o (λz=>hc (by simp[z])) e) (λb o _ _ hc e _=>⟨o.slots,k b o (λz=>hc (by simp[z])) e⟩) (λ_ _ _ _ n=>n)
  (λb o hc e=>⟨o,k b o (λz=>hc (by simp[z])) e⟩) (λ_ _ e=>e) (λ_ _ _ e=>e) (λb ps e=>⟨#[],by rw[e];simp⟩) (λm hm =>?_) (λb u e =>?_) I.bare
 .have e  := by simpa using hb
  subst e;exact⟨h1,hL,h2,h3⟩
 .obtain⟨o,es,ep,ho,r⟩:=hm;exact⟨o,es,ep,k _ o (vF hL) ho,r⟩
 .refine(I.hok b u e).stay (λc v hc q=>k c v ?_ q) (λ_ q=>q) λ_ _ q=>q
  rcases hc with z | z
  .rw[z];exact nit b u e
  .exact nit c _ z
def Inv.tok (I:Inv X pins σ H s)(t:Nat):Inv X pins σ H { s with toks:=t }:=I.un Un.refl I.hok
theorem Inv.kept {t':Nat}(I:Inv X pins σ H s)(k:∀b u,s.heap.get? b=some u->h'.get? b=some u):Inv X pins σ H { s with heap:=h',toks:=t' }:=I.un (Un.kept k) (I.hok.kept k)
theorem Inv.laid {a:Addr}{o:HO}{t':Nat}(I:Inv X pins σ H s)(k:∀b u,s.heap.get? b=some u->h'.get? b=some u)(hp:s.heap.objs.size<=a)(new:z1j X.prog X.w (upd H a o) h' a o):
  Inv X pins σ (upd H a o) { s with heap:=h',toks:=t' }:=I.un (Un.laid k hp (I.hok.fresh hp)) (I.hok.laid k hp new)
theorem Inv.write {x e:Addr}{o:HO}{t':Nat}(I:Inv X pins σ H s)(mu:Mut (H x))(he:e=x\/H e=some (.own x))(k:∀b u,b≠e->s.heap.get? b=some u->h'.get? b=some u)(heo:∃u,h'.get? e=some u)
  (new:z1j X.prog X.w (upd H x o) h' x o):Inv X pins σ (upd H x o) { s with heap:=h',toks:=t' }:=I.un (Un.write mu he k heo) (I.hok.write mu he k heo new)
def Inv.pins_of {pins':List (Addr × Obj)}(I:Inv X pins σ H s)(h:∀p∈pins',s.heap.get? p.1=some p.2/\H p.1=none/\p.1≠X.env.locals/\p.1 ∉ X.fs/\∀v,p.2.data ≠ .cell v):Inv X pins' σ H s:=
 ⟨I.ok,I.os,I.bare,I.base,I.loc,I.cell,I.free,I.freeC,λp hp=>(wZ.mp hp).elim (λz=>I.pin p (jv _ z)) (h p),I.hok,I.len⟩
def z8P {N:List Str}(hN:N.Nodup){i j:Nat}{x:Str}(a:N[i]? = some x)(b:N[j]? = some x):i=j:=by
 obtain⟨h1,e1⟩:=wu.mp a;obtain⟨h2,e2⟩:=wu.mp b;exact(List.getElem_inj hN).mp (e1.trans e2.symm)
def z6L {M:Model}{A:Around}{E:WvP}{i:Nat}{x:Str}{v:V}{u:Value}{Q:Unit->Shared->Prop}(I:Inv X pins σ H s)(hN:X.N.Nodup)(hi:X.N[i]? = some x)(hx:Loc X.env.scope x)(r:RelV v u)
  (h:∀s',Inv X pins (σ.set i (some v)) H s'->(∃a,Heap.SameBut a s.heap s'.heap/\(a=X.env.locals\/X.env.cells.lookup x=some a))->Q () s') (hf:autoParam (X.fn x=true\/X.env.scope.names.lookup x=some .local) jW):wpAny M A (storeName X.env x u) Q E s:=by
 obtain⟨m,hn,hl⟩:=id I.loc;have hcls:(X.env.scope.kind == .class || (X.env.scope.kind == .module && X.env.locals != X.env.globals))=false:=by rw[I.ok.kind];rfl
 have hiσ:i < σ.length:=by rw[I.len];exact(wu.mp hi).1
 have cne:=I.cne;have tracked:∀{a:Addr}{h':Heap},(∃o,s.heap.get? a=some o/\H a=none)->Heap.SameBut a s.heap h'->HOk X.prog X.w H h':=λ{a h'} ha hs b ob e=>by
  obtain⟨_,_,hfree⟩:=ha;refine(I.hok b ob e).stay (λc w' hc q=>(hs.2 c ?_).trans q) (λ_ q=>q) λ_ _ q=>q;rintro rfl
  rcases hc with rfl | hc
  .rw[hfree] at e;cases e
  .rw[hfree] at hc;cases hc
 rcases hx with hk | hk
 .refine wpAny_storeName_local hk hn (λh' hn' hs =>?_) hcls;obtain⟨oL,_,_,hoL,_⟩:=id hn;refine h _ ⟨I.ok,I.os,I.bare,⟨λb o e n hb hx =>?_,λb o e n hb hx =>?_,I.base.free,λb o e hx =>?_,I.base.tups,I.base.frzs,I.base.tbls⟩,⟨_,hn',λj y v' e1 e2 e3 =>?_⟩,λy c e =>?_,I.free,I.freeC,λp hp =>?_,tracked ⟨oL,hoL,I.free⟩ hs,by simpa using I.len⟩ ⟨_,hs,.inl rfl⟩
  .exact(hs.2 b (wz (wB (wo e) I.ok.above))).trans (I.base.keep b o e n hb hx)
  .obtain⟨sl,e1⟩:=I.base.slot b o e n hb hx;exact⟨sl,(hs.2 b (wz (wB (wo e) I.ok.above))).trans e1⟩
  .obtain⟨o',e1⟩:=I.base.there b o e hx;exact⟨o',(hs.2 b (wz (wB (wo e) I.ok.above))).trans e1⟩
  .by_cases hj:j=i
   .subst hj;rw[hi] at e1;cases e1;rw[wF hiσ] at e2
    cases e2
    exact⟨u,r,.inl ⟨hk,by simp⟩⟩
   .rw[ww (vF hj)] at e2;obtain⟨u',r',q⟩:=hl j y v' e1 e2 e3;refine⟨u',r',?_⟩
    rcases q with ⟨k,e⟩ | ⟨k,c,e,z⟩
    .refine .inl ⟨k,?_⟩;have:y≠x:=λe=>hj (z8P hN e1 (e ▸ hi));simp[this,e]
    .exact .inr ⟨k,c,e,z.sameBut hs (cne y c e)⟩
  .obtain⟨w',z⟩:=I.cell y c e;exact⟨w',z.sameBut hs (cne y c e)⟩
  .obtain⟨e,n,ne,nf,d⟩:=I.pin p hp;exact⟨(hs.2 p.1 ne).trans e,n,ne,nf,d⟩
 .have hfn:X.fn x=true:=by
   rcases hf with z | z
   .exact z
   .rw[z] at hk;cases hk
  obtain⟨c,hc⟩:=I.ok.has x (.inl hk);obtain⟨w',z⟩:=I.cell x c hc;refine wpAny_storeName_cell I.ok.kind hk hc z (λh' hc' hs =>?_);obtain⟨oc,hoc,hocd⟩:=id z;refine h { s with heap:=h' } ⟨I.ok,I.os,I.bare,⟨λb o e n hb hx =>?_,λb o e n hb hx =>?_,I.base.free,λb o e hx =>?_,I.base.tups,I.base.frzs,I.base.tbls⟩,⟨m,hn.sameBut hs (vF (cne x c hc)),λj y v' e1 e2 e3 =>?_⟩,λy c' e =>?_,I.free,I.freeC,λp hp =>?_,tracked ⟨oc,hoc,I.freeC x c hc⟩ hs,by simpa using I.len⟩ ⟨c,hs,.inr hc⟩
  .exact(hs.2 b (wz (wB (wo e) (I.ok.cab x c hfn hc)))).trans (I.base.keep b o e n hb hx)
  .obtain⟨sl,e1⟩:=I.base.slot b o e n hb hx;exact⟨sl,(hs.2 b (wz (wB (wo e) (I.ok.cab x c hfn hc)))).trans e1⟩
  .obtain⟨o',e1⟩:=I.base.there b o e hx;exact⟨o',(hs.2 b (wz (wB (wo e) (I.ok.cab x c hfn hc)))).trans e1⟩
  .by_cases hj:j=i
   .subst hj;rw[hi] at e1;cases e1;rw[wF hiσ] at e2
    cases e2
    exact⟨u,r,.inr ⟨.inl hk,c,hc,hc'⟩⟩
   .rw[ww (vF hj)] at e2;obtain⟨u',r',q⟩:=hl j y v' e1 e2 e3;refine⟨u',r',?_⟩
    rcases q with q | ⟨k,c',e,z'⟩
    .exact .inl q
    .refine .inr ⟨k,c',e,z'.sameBut hs ?_⟩;rintro rfl;exact hj (z8P hN e1 (I.ok.inj _ _ _ e hc ▸ hi))
  .by_cases hcc:c'=c
   .subst hcc;exact⟨_,hc'⟩
   .obtain⟨w2,z2⟩:=I.cell y c' e;exact⟨w2,z2.sameBut hs hcc⟩
  .obtain⟨e,n,ne,nf,d⟩:=I.pin p hp;refine⟨(hs.2 p.1 ?_).trans e,n,ne,nf,d⟩;intro q;rw[q,hoc] at e;have q':oc=p.2:=w5 e;exact d w' (by rw[<- q'];exact hocd)
def z8z {M:Model}{A:Around}{E:WvP}{i:Nat}{x:Str}{v:V}{u:Value}{Q:Unit->Shared->Prop}(I:Inv X pins σ H s)(hN:X.N.Nodup)(hi:X.N[i]? = some x)(hx:Loc X.env.scope x)(r:RelV v u)
  (h:∀s',Inv X pins (σ.set i (some v)) H s'->Q () s') (hf:autoParam (X.fn x=true\/X.env.scope.names.lookup x=some .local) jW):wpAny M A (storeName X.env x u) Q E s:=
 z6L I hN hi hx r (λs' I' _=>h s' I') hf
def Inv.call' {s':Shared}{ch:List Addr}(I:Inv X pins σ H s)(ho:s'.os=s.os)(u:Un (frs X.stack) ch H H' s.heap s'.heap)(hok:HOk X.prog X.w H' s'.heap)(hg:AllBare s'.gens)
  (hch:∀b∈ch,(b∈X.ex\/X.s₀.heap.objs.size<=b)/\b≠X.env.locals/\(∀x c,X.env.cells.lookup x=some c->c≠b)/\∀p∈X.pn++pins,p.1≠b):Inv X pins σ H' s':=by
 obtain⟨h',g',d',t',o'⟩:=s';have e  := ho;subst e;exact I.call u hok hg hch
end
abbrev XK:=Value->Option Addr->Hp->Prop
abbrev St:=List (Option V)
abbrev VK:=V->Hp->Prop
abbrev TE:=St->Hp->VK->Prop
abbrev TT:=St->Hp->(Bool->Hp->Prop)->Prop
abbrev TA:=St->Hp->(List V->Hp->Prop)->Prop
structure Ends where
 nx:St->Hp->Prop
 rt:VK
 bk:St->Hp->Prop:=λ_ _=>False
 ct:St->Hp->Prop:=λ_ _=>False
abbrev TS:=Ends->St->Hp->Prop
def EP (X:Cx)(pins:List (Addr × Obj))(σ:St)(Q:VK)(u:Value)(s':Shared):Prop:=∃v H',Inv X pins σ H' s'/\RelV v u/\Q v H'
def TP (X:Cx)(pins:List (Addr × Obj))(σ:St)(Q:Bool->Hp->Prop)(b:Bool)(s':Shared):Prop:=∃H',Inv X pins σ H' s'/\Q b H'
def AP (X:Cx)(pins:List (Addr × Obj))(σ:St)(Q:List V->Hp->Prop)(us:List Value)(s':Shared):Prop:=∃vs H',Inv X pins σ H' s'/\Vals vs us/\Q vs H'
def SP (X:Cx)(pins:List (Addr × Obj))(D:Ends)(f:Flow)(s':Shared):Prop:=
 match f with
 | .next=>∃σ' H',Inv X pins σ' H' s'/\D.nx σ' H'
 | .brk=>∃σ' H',Inv X pins σ' H' s'/\D.bk σ' H'
 | .cont=>∃σ' H',Inv X pins σ' H' s'/\D.ct σ' H'
 | .ret u=>∃v σ' H',Inv X pins σ' H' s'/\RelV v u/\D.rt v H'
def PE (X:Cx)(e:Expr)(t:TE):Prop:=
 ∀(pins:List (Addr × Obj)) (s:Shared) (σ:St) (H:Hp) (Q:VK),Inv X pins σ H s->t σ H Q->wpAny (model X.prog X.w) X.A (eval e X.env) (EP X pins σ Q) X.xe s
def PT (X:Cx)(e:Expr)(t:TT):Prop:=
 ∀(pins:List (Addr × Obj)) (s:Shared) (σ:St) (H:Hp) (Q:Bool->Hp->Prop),Inv X pins σ H s->t σ H Q->wpAny (model X.prog X.w) X.A (isTrue e X.env (eval e X.env)) (TP X pins σ Q) X.xe s
def PW (X:Cx)(e:Expr)(t:TT):Prop:=
 ∀(whole:Sem Value) (pins:List (Addr × Obj)) (s:Shared) (σ:St) (H:Hp) (Q:Bool->Hp->Prop),Inv X pins σ H s->t σ H Q->wpAny (model X.prog X.w) X.A (isTrue e X.env whole) (TP X pins σ Q) X.xe s
def PW.pt {X:Cx}{e:Expr}{t:TT}(h:PW X e t):PT X e t:=h _
def PA (X:Cx)(es:List Expr)(t:TA):Prop:=
 ∀(pos:Pos) (pins:List (Addr × Obj)) (s:Shared) (σ:St) (H:Hp) (Q:List V->Hp->Prop),Inv X pins σ H s->t σ H Q->wpAny (model X.prog X.w) X.A (spliced (backTo pos (starEach es X.env))) (AP X pins σ Q) X.xe s
def PS (X:Cx)(st:Stmt)(t:TS):Prop:=
 ∀(pins:List (Addr × Obj)) (s:Shared) (σ:St) (H:Hp) (D:Ends),Inv X pins σ H s->t D σ H->wpAny (model X.prog X.w) X.A (exec st X.env) (SP X pins D) X.xe s
def PSs (X:Cx)(st:List Stmt)(t:TS):Prop:=
 ∀(pins:List (Addr × Obj)) (s:Shared) (σ:St) (H:Hp) (D:Ends),Inv X pins σ H s->t D σ H->wpAny (model X.prog X.w) X.A (execs st X.env) (SP X pins D) X.xe s
def thn {α:Type}{t:Sem α}{Q Q':α->Shared->Prop}{M:Model}{A:Around}{E:WvP}{s:Shared}(h:wpAny M A t Q E s)(hQ:∀a s,Q a s->Q' a s):wpAny M A t Q' E s:=w6 h hQ λ_ _ x=>x
section
variable {X:Cx}
def tVar (i:Nat):TE:=λσ H Q=>∃v,σ[i]? = some (some v)/\Q v H
def tC (v:V):TE:=λ_ H Q=>Q v H
def zel {i:Nat}{x:Str}{pos:Pos}(hN:X.N[i]? = some x)(hv:Vis X.env.scope x)(hd:autoParam ((x == ("__debug__":Str))=false) jU)(hcd:autoParam ((x == ("__classdict__":Str))=false) jU):PE X (.Name x pos) (tVar i):=by
 intro pins s σ H Q I h;obtain⟨v,e,h⟩:=h;obtain⟨m,hn,hl⟩:=I.loc;obtain⟨u,r,l⟩:=hl i x v hN e hv;have fin:EP X _ σ Q u s:=⟨v,H,I,r,h⟩
 rcases l with ⟨hk,hm⟩ | ⟨hk,c,hc,hcell⟩
 .exact wpAny_Name (wpAny_loadName_local I.ok.kind hk hn hm fin) hd
 .rcases hk with hk | hk
  .exact wpAny_Name (wpAny_loadName_cell I.ok.kind hk hc hcell fin) hd
  .exact wpAny_Name (wpAny_loadName_free I.ok.kind hk hc hcell fin hcd) hd
def zix {i j pos}:PE X (.Constant (.int i) j pos) (tC (.int i)):=λ_ _ _ H _ I h=>wpAny_Constant_int ⟨.int i,H,I.tok _,⟨_,rfl⟩,h⟩
def zkD {b j pos}:PE X (.Constant (.bool b) j pos) (tC (.bl b)):=λ_ _ _ H _ I h=>Constant_bool ⟨.bl b,H,I,rfl,h⟩
def ziu {j pos}:PE X (.Constant .none j pos) (tC .non):=λ_ _ _ H _ I h=>Constant_none ⟨.non,H,I,rfl,h⟩
def zir {x j pos}:PE X (.Constant (.str x) j pos) (tC (.str x)):=λ_ _ _ H _ I h=>Calls.Constant_str ⟨.str x,H,I.tok _,⟨_,rfl⟩,h⟩
def Gl (X:Cx)(x:Str):Prop:=X.env.kindOf x=some .globalImplicit
def zbj {E:WvP}{pins:List (Addr × Obj)}{s:Shared}{σ:St}{H:Hp}{x:Str}{u:Value}{pos:Pos}{Q:WvP}(I:Inv X pins σ H s)(hg:Gl X x)(hm:X.mg x=some u)(h:Q u s)
  (hd:autoParam ((x == ("__debug__":Str))=false) jU):wpAny (model X.prog X.w) X.A (eval (.Name x pos) X.env) Q E s:=
 Calls.Name_function_global I.ok.kind hg (Calls.loadGlobal_global (by rw[I.ok.glob];exact I.mod.glob.keeps I.bk) hm h) hd
def z7f {E:WvP}{pins:List (Addr × Obj)}{s:Shared}{σ:St}{H:Hp}{x:Str}{u:Value}{pos:Pos}{Q:WvP}(I:Inv X pins σ H s)(hg:Gl X x)(hm:X.mg x=none)(hv:bootBuiltins x=some u)(h:Q u s)
  (hn:autoParam (x≠"__name__") jU) (hd:autoParam ((x == ("__debug__":Str))=false) jU):wpAny (model X.prog X.w) X.A (eval (.Name x pos) X.env) Q E s:=by
 obtain⟨mb,h1,h2⟩:=I.mod.blt;exact Calls.Name_function_global I.ok.kind hg (Calls.loadGlobal_builtin (by rw[I.ok.glob];exact I.mod.glob.keeps I.bk) hm (by rw[I.ok.blt];exact h1.keeps I.bk) ((h2 x hn).trans hv) h) hd
def zaQ {x:Str}{v:V}{u:Value}{pos:Pos}(hg:Gl X x)(hm:X.mg x=some u)(r:RelV v u)(hd:autoParam ((x == ("__debug__":Str))=false) jU):PE X (.Name x pos) (tC v):=
 λ_ _ _ H _ I h=>zbj I hg hm ⟨v,H,I,r,h⟩ hd
def zfP {x:Str}{v:V}{u:Value}{pos:Pos}(hg:Gl X x)(hm:X.mg x=none)(hv:bootBuiltins x=some u)(r:RelV v u)(hn:autoParam (x≠"__name__") jU)(hd:autoParam ((x == ("__debug__":Str))=false) jU):PE X (.Name x pos) (tC v):=
 λ_ _ _ H _ I h=>z7f I hg hm hv ⟨v,H,I,r,h⟩ hn hd
variable {a b:Expr}{ta tb:TE}{pos:Pos}
def tB (t:TE):TT:=λσ H Q=>t σ H λx H1=>∃c,x = .bl c/\Q c H1
def zid {e:Expr}{t:TE}(h:PE X e t)(he:autoParam (∀whole,isTrue e X.env whole=(do let v <- whole;standAt e.pos;holding [v] (truthy v))) jV):PT X e (tB t):=by
 intro pins s σ H Q I hw;refine isTrue_plain (thn (h _ s σ H _ I hw) λv s1 z9 =>?_) (he _);obtain⟨x,H1,I1,r1,q1⟩:=z9;obtain⟨d,rfl,q⟩:=q1
 cases r1
 exact jr ⟨H1,I1,q⟩
variable {tA tB':TT}{rest:List Expr}
def tAnd (t u:TT):TT:=λσ H Q=>t σ H λc H1=>if c=true then u σ H1 Q else Q false H1
def tOr (t u:TT):TT:=λσ H Q=>t σ H λc H1=>if c=true then Q true H1 else u σ H1 Q
def tNot (t:TT):TT:=λσ H Q=>t σ H λc H1=>Q (!c) H1
def zfA (ha:PT X a tA):PW X (.BoolOp .And [a] pos) tA:=by
 intro wh pins s σ H Q I h;refine isTrue_and (thn (ha _ s σ H Q I h) λc s1 e =>?_)
 cases c with
 | true=>exact isTrue_and_nil e
 | false=>exact e
def zib (ha:PT X a tA):PW X (.BoolOp .Or [a] pos) tA:=by
 intro wh pins s σ H Q I h;refine isTrue_or (thn (ha _ s σ H Q I h) λc s1 e =>?_)
 cases c with
 | false=>exact isTrue_or_nil e
 | true=>exact e
def zic (ha:PT X a tA)(hb:PW X (.BoolOp .And (b::rest) pos) tB'):PW X (.BoolOp .And (a::b::rest) pos) (tAnd tA tB'):=by
 intro wh pins s σ H Q I h;refine isTrue_and (thn (ha _ s σ H _ I h) λc s1 z9 =>?_);obtain⟨H1,I1,q1⟩:=z9
 cases c with
 | true=>exact hb wh _ s1 σ H1 Q I1 q1
 | false=>exact⟨H1,I1,q1⟩
def zkw (ha:PT X a tA)(hb:PW X (.BoolOp .Or (b::rest) pos) tB'):PW X (.BoolOp .Or (a::b::rest) pos) (tOr tA tB'):=by
 intro wh pins s σ H Q I h;refine isTrue_or (thn (ha _ s σ H _ I h) λc s1 z9 =>?_);obtain⟨H1,I1,q1⟩:=z9
 cases c with
 | true=>exact⟨H1,I1,q1⟩
 | false=>exact hb wh _ s1 σ H1 Q I1 q1
def zie (ha:PT X a tA):PT X (.UnaryOp .Not a pos) (tNot tA):=by
 intro pins s σ H Q I h;exact isTrue_not (ha _ s σ H _ I h)
def zh2 (ta tb:TE):TE:=λσ H Q=>ta σ H λx H1=>∃c,x = .bl c/\if c=true then tb σ H1 Q else Q (.bl false) H1
def zgV (ta:TE):TE:=λσ H Q=>ta σ H λx H1=>∃c,x = .bl c/\Q (.bl (!c)) H1
def zis {op}{t:TE}(h:PE X a t):PE X (.BoolOp op [a] pos) t:=λpins s σ H Q I hw=>BoolOp_one (h _ s σ H Q I hw)
def ziz (ha:PE X a ta)(hb:PE X (.BoolOp .And (b::rest) pos) tb):PE X (.BoolOp .And (a::b::rest) pos) (zh2 ta tb):=by
 intro pins s σ H Q I h;refine BoolOp_and (thn (ha _ s σ H _ I h) λv s1 z9 =>?_);obtain⟨x,H1,I1,r1,q1⟩:=z9;obtain⟨c,rfl,q1⟩:=q1
 cases r1
 refine jr ?_
 cases c with
 | true=>exact hb _ s1 σ H1 Q I1 q1
 | false=>exact⟨.bl _,H1,I1,rfl,q1⟩
def zit (ha:PE X a ta):PE X (.UnaryOp .Not a pos) (zgV ta):=by
 intro pins s σ H Q I h;refine UnaryOp_ (thn (ha _ s σ H _ I h) λv s1 z9 =>?_);obtain⟨x,H1,I1,r1,q1⟩:=z9;obtain⟨c,rfl,q1⟩:=q1
 cases r1
 exact not_of (jr ⟨.bl _,H1,I1,rfl,q1⟩)
end
def SqL (K:W.Frag)(H:Hp)(a:Addr)(xs:List V):Prop:=
 Rd H a (.lst xs)\/
  ∃(o:Obj) (its:Array Value) (n:Nat),K.lookup a=some o/\o.cls = .type "list"/\o.dict=none/\o.data = .seq its n/\its.size<=sizeLine/\Vals xs its.toList
def SqT (K:W.Frag)(H:Hp)(a:Addr)(xs:List V):Prop:=
 Rd H a (.tup xs)\/
  ∃(o:Obj) (its:Array Value) (n:Nat),K.lookup a=some o/\o.cls = .type "tuple"/\o.data = .seq its n/\its.size<=sizeLine/\Vals xs its.toList/\o.dict=none
def absV:Value->Option V
 | .none=>some .non
 | .bool b=>some (.bl b)
 | .int i _=>some (.int i)
 | .str x _=>some (.str x)
 | .bytes b _=>some (.byt b)
 | .float b _=>some (.flt b)
 | .ref a=>some (.ref a)
 | .type n=>some (.ty n)
 | _=>none
def RelV.abs {x:V}{u:Value}(r:RelV x u):absV u=some x:=by
 cases x with
 | non=>cases r;rfl
 | bl _=>cases r;rfl
 | int _=>obtain⟨t,rfl⟩:=r;rfl
 | str _=>obtain⟨t,rfl⟩:=r;rfl
 | byt _=>obtain⟨t,rfl⟩:=r;rfl
 | flt _=>obtain⟨t,rfl⟩:=r;rfl
 | ref _=>cases r;rfl
 | ty _=>cases r;rfl
def RelV.inj {x y:V}{u:Value}(r:RelV x u)(q:RelV y u):x=y:=w5 (r.abs.symm.trans q.abs)
theorem Vals.inj:∀{xs ys:List V}{us:List Value},Vals xs us->Vals ys us->xs=ys
 | _,_,_,.nil,.nil=>rfl
 | _,_,_,.cons r t,.cons r' t'=>by rw[r.inj r',Vals.inj t t']
section
variable {X:Cx}{pins:List (Addr × Obj)}{σ:St}{H:Hp}{s:Shared}{a:Addr}{xs ys:List V}
def SqL.of {K:W.Frag}(h:H a=some (.lst xs)):SqL K H a xs :=.inl (.inl h)
def SqT.of {K:W.Frag}(h:H a=some (.tup xs)):SqT K H a xs :=.inl (.inl h)
def Inv.list (I:Inv X pins σ H s)(h:SqL X.K H a xs):∃its:List Value,Vals xs its/\PlainL s.heap a its.toArray/\xs.length<=sizeLine:=by
 rcases h with h | ⟨o,its,n,hk,hc,hd,hs,hz,r⟩
 .obtain⟨z,its,n,r,e⟩:=h.ok I.hok;exact⟨its,r,⟨_,n,e,rfl,rfl,rfl⟩,z⟩
 .refine⟨its.toList,r,⟨o,n,I.kIn a o hk,hc,hd,by simpa using hs⟩,?_⟩;have e:=r.length
  simp_all
def Inv.tuple (I:Inv X pins σ H s)(h:SqT X.K H a xs):∃its:List Value,Vals xs its/\IsTup s.heap a its.toArray/\xs.length<=sizeLine:=by
 rcases h with h | ⟨o,its,n,hk,hc,hs,hz,r,_⟩
 .obtain⟨z,its,r,p,_⟩:=h.ok I.hok;exact⟨its,r,p,z⟩
 .refine⟨its.toList,r,⟨o,I.kIn a o hk,hc,n,by simpa using hs⟩,?_⟩;have e:=r.length
  simp_all
def Inv.tupNoD (I:Inv X pins σ H s)(h:SqT X.K H a xs):NoD s.heap a:=by
 rcases h with h | ⟨o,its,n,hk,hc,hs,hz,r,hd⟩
 .exact(h.ok I.hok).2.choose_spec.2.2
 .exact⟨o,I.kIn a o hk,hd⟩
def Inv.list_inj (I:Inv X pins σ H s)(h:SqL X.K H a xs)(h':SqL X.K H a ys):xs=ys:=by
 obtain⟨its,r,⟨o,n,e,_,_,d⟩,_⟩:=I.list h;obtain⟨its',r',⟨o',n',e',_,_,d'⟩,_⟩:=I.list h';rw[e] at e';have:its=its':=by simp_all
 subst this;exact r.inj r'
def Inv.tuple_inj (I:Inv X pins σ H s)(h:SqT X.K H a xs)(h':SqT X.K H a ys):xs=ys:=by
 obtain⟨its,r,⟨o,e,_,n,d⟩,_⟩:=I.tuple h;obtain⟨its',r',⟨o',e',_,n',d'⟩,_⟩:=I.tuple h';rw[e] at e';have:its=its':=by simp_all
 subst this;exact r.inj r'
end
abbrev Cx.wish (X:Cx)(E:WvP):Cx:={ X with xe:=E }
abbrev Cx.nox (X:Cx):Cx:=X.wish λ_ _=>False
theorem Cx.Ok.wish {X:Cx}(ok:X.Ok)(E:WvP):(X.wish E).Ok:=
 ⟨ok.mod,ok.kind,ok.glob,ok.blt,ok.above,ok.inj,ok.has,ok.cab,ok.hd,ok.frames,ok.stk,ok.exf,ok.bs,ok.bsz,ok.noex,ok.exfs,ok.funs,ok.frf,ok.tbs⟩
def Cx.Ok.unwish {X:Cx}{E:WvP}(ok:(X.wish E).Ok):X.Ok:=
 ⟨ok.mod,ok.kind,ok.glob,ok.blt,ok.above,ok.inj,ok.has,ok.cab,ok.hd,ok.frames,ok.stk,ok.exf,ok.bs,ok.bsz,ok.noex,ok.exfs,ok.funs,ok.frf,ok.tbs⟩
section
variable {X:Cx}{pins:List (Addr × Obj)}{σ:St}{H:Hp}{s:Shared}{E:WvP}
theorem Inv.wish (I:Inv X pins σ H s)(E:WvP):Inv (X.wish E) pins σ H s:=⟨I.ok.wish E,I.os,I.bare,I.base,I.loc,I.cell,I.free,I.freeC,I.pin,I.hok,I.len⟩
theorem Inv.unwish (I:Inv (X.wish E) pins σ H s):Inv X pins σ H s:=⟨I.ok.unwish,I.os,I.bare,I.base,I.loc,I.cell,I.free,I.freeC,I.pin,I.hok,I.len⟩
theorem SP.unwish {D:Ends}{f:Flow}{s':Shared}(h:SP (X.wish E) pins D f s'):SP X pins D f s':=by
 cases f with
 | next=>obtain⟨σ',H',I,q⟩:=h;exact⟨σ',H',I.unwish,q⟩
 | brk=>obtain⟨σ',H',I,q⟩:=h;exact⟨σ',H',I.unwish,q⟩
 | cont=>obtain⟨σ',H',I,q⟩:=h;exact⟨σ',H',I.unwish,q⟩
 | ret u=>obtain⟨v,σ',H',I,r,q⟩:=h;exact⟨v,σ',H',I.unwish,r,q⟩
theorem PSs.nox {st:List Stmt}{t:TS}(h:PSs X.nox st t):PSs X st t:=λpins s σ H D I hw=>
 w6 (h _ s σ H D (I.wish _) hw) (λ_ _ q=>q.unwish) λ_ _ z=>False.elim z
end
section
variable {X:Cx}{st:Stmt}{rest:List Stmt}{t u:TS}{e:Expr}{te:TE}{pos:Pos}
def zgW:TS:=λD σ H=>D.nx σ H
def tSeq (t u:TS):TS:=λD σ H=>t { D with nx:=u D } σ H
def zfF:PSs X [] zgW:=λ_ _ σ H _ I h=>wpAny_execs_nil ⟨σ,H,I,h⟩
def zcY (h1:PS X st t)(h2:PSs X rest u):PSs X (st::rest) (tSeq t u):=by
 intro pins s σ H D I h;refine wpAny_execs_cons (thn (h1 _ s σ H _ I h) λf s1 q =>?_)
 cases f with
 | next=>
  obtain⟨σ',H',I',q⟩:=q;exact h2 _ s1 σ' H' D I' q
 | ret v=>exact q
 | brk=>exact q
 | cont=>exact q
def zfE (h1:PS X st t):PSs X [st] t:=by
 intro pins s σ H D I h;refine wpAny_execs_cons (thn (h1 _ s σ H D I h) λf s1 q =>?_)
 cases f with
 | next=>exact wpAny_execs_nil q
 | ret v=>exact q
 | brk=>exact q
 | cont=>exact q
def Inv.quiet {pins:List (Addr × Obj)}{σ:St}{H:Hp}{s:Shared}(I:Inv X pins σ H s):interactive X.env=false:=by simp[interactive,I.ok.kind]
def zgX (te:TE):TS:=λD σ H=>te σ H λ_ H1=>D.nx σ H1
def zfG (he:PE X e te)(hs:autoParam (swapsWith e none pos.line X.env=pure false) jT):PS X (.Expr e pos) (zgX te):=by
 intro pins s σ H D I h;exact wpAny_Expr_any (thn (he _ s σ H _ I h) λv s1 ⟨x,H1,I1,r1,q1⟩=>⟨σ,H1,I1,q1⟩) I.quiet hs
def tRet (te:TE):TS:=λD σ H=>te σ H D.rt
def zig (he:PE X e te):PS X (.Return (some e) pos) (tRet te):=by
 intro pins s σ H D I h;exact wpAny_Return_some (thn (he _ s σ H _ I h) λv s1 ⟨x,H1,I1,r1,q1⟩=>⟨x,σ,H1,I1,r1,q1⟩)
def tIfS (c:TT)(t u:TS):TS:=λD σ H=>c σ H λb H1=>if b=true then t D σ H1 else u D σ H1
def zkx {c:Expr}{a b:List Stmt}{tc:TT}(hc:PT X c tc)(ha:PSs X a t)(hb:PSs X b u):PS X (.If c a b pos) (tIfS tc t u):=by
 intro pins s σ H D I h;refine wpAny_If (thn (hc _ s σ H _ I h) λd s1 z9 =>?_);obtain⟨H1,I1,q1⟩:=z9
 cases d with
 | true=>exact ha _ s1 σ H1 D I1 q1
 | false=>exact hb _ s1 σ H1 D I1 q1
def ze3:TS:=λ_ _ _=>False
def zd0:PS X st ze3:=λ_ _ _ _ _ _ h=>h.elim
end
abbrev TG:=V->St->Hp->(St->Hp->Prop)->Prop
abbrev TGs:=List V->St->Hp->(St->Hp->Prop)->Prop
def PG (X:Cx)(target:Expr)(t:TG):Prop:=
 ∀(pins:List (Addr × Obj)) (s:Shared) (σ:St) (H:Hp) (v:V) (u:Value) (Q:St->Hp->Prop),Inv X pins σ H s->RelV v u->t v σ H Q->
  wpAny (model X.prog X.w) X.A (assign target X.env u) (λ_ s'=>∃σ' H',Inv X pins σ' H' s'/\Q σ' H') X.xe s
def PGs (X:Cx)(ts:List Expr)(t:TGs):Prop:=
 ∀(pins:List (Addr × Obj)) (s:Shared) (σ:St) (H:Hp) (vs:List V) (us:List Value) (Q:St->Hp->Prop),Inv X pins σ H s->Vals vs us->t vs σ H Q->
  wpAny (model X.prog X.w) X.A (assignInOrder ((assignEach ts X.env).map (·.2)) us) (λ_ s'=>∃σ' H',Inv X pins σ' H' s'/\Q σ' H') X.xe s
abbrev TSet:=V->V->V->Hp->(Hp->Prop)->Prop
def PSet (X:Cx)(t:TSet):Prop:=
 ∀(pins:List (Addr × Obj)) (s:Shared) (σ:St) (H:Hp) (o i v:V) (ov iv u:Value) (Q:Hp->Prop),Inv X pins σ H s->RelV o ov->RelV i iv->RelV v u->t o i v H Q->
  wpAny (model X.prog X.w) X.A (setItem ov iv u) (λ_ s'=>∃H',Inv X pins σ H' s'/\Q H') X.xe s
section
variable {X:Cx}{pos:Pos}
def z2u (i:Nat):TG:=λv σ H Q=>Q (σ.set i (some v)) H
def zaP {i:Nat}{x:Str}(hN:X.N.Nodup)(hi:X.N[i]? = some x)(hx:Loc X.env.scope x)(hf:autoParam (X.fn x=true\/X.env.scope.names.lookup x=some .local) jW):PG X (.Name x pos) (z2u i):=by
 intro pins s σ H v u Q I r h;exact wpAny_assign_Name (z8z I hN hi hx r (λs' I'=>⟨_,H,I',h⟩) hf)
def gNil:TGs:=λvs σ H Q=>vs=[]/\Q σ H
def zdD (t:TG)(u:TGs):TGs:=λvs σ H Q=>∃v r,vs=v::r/\t v σ H λσ' H'=>u r σ' H' Q
def zfM:PGs X [] gNil:=by
 intro pins s σ H vs us Q I r h;obtain⟨e,h⟩:=h;subst e;exact assignInOrder_nil ⟨σ,H,I,h⟩
def zd2 {e:Expr}{es:List Expr}{t:TG}{u:TGs}(h1:PG X e t)(h2:PGs X es u)
  (hs:autoParam ((assignEach (e::es) X.env).map (·.2)=assign e X.env::(assignEach es X.env).map (·.2)) jT):PGs X (e::es) (zdD t u):=by
 intro pins s σ H vs us Q I r h;obtain⟨v,vr,e1,h⟩:=h;subst e1
 cases r with
 | cons r rr=>
  rw[hs];refine assignInOrder_cons (thn (h1 _ s σ H _ _ _ I r h) λ_ s1 z9 =>?_);obtain⟨σ1,H1,I1,q1⟩:=z9;exact h2 _ s1 σ1 H1 _ _ Q I1 rr q1
def gTup (K:W.Frag)(n:Nat)(t:TGs):TG:=λv σ H Q=>∃a xs,v = .ref a/\SqT K H a xs/\xs.length=n/\t xs σ H Q
def zin {es:List Expr}{k:Nat}{t:TGs}{n:Nat}(hc:X.calm=true)(h:PGs X es t)
  (hn:autoParam ((assignEach es X.env).length=n) jT) (hst:autoParam ((assignEach es X.env).findIdx? (·.1)=none) jT):PG X (.Tuple es k pos) (gTup X.K n t):=by
 intro pins s σ H v u Q I r hw;obtain⟨a,xs,e1,hq,hl,hw⟩:=hw;subst e1
 cases r
 obtain⟨its,rv,ht,hz⟩:=I.tuple hq;refine assign_Tuple_tuple (I.ok.hd hc) ht (by simp[hn, <- hl,rv.length]) hst λh' hx =>?_;have I1  := I.kept (t':=s.toks) λb o e=>hx b o (wz (wo e)) e;exact h _ _ σ H xs _ Q I1 (by simpa using rv) hw
def gSub (to ti:TE)(t:TSet):TG:=λv σ H Q=>to σ H λo H1=>ti σ H1 λi H2=>t o i v H2 λH3=>Q σ H3
def zio {o i:Expr}{to ti:TE}{t:TSet}(ho:PE X o to)(hi:PE X i ti)(hs:PSet X t)
  (ha:autoParam (∀v,assign (.Subscript o i pos) X.env v=(do
   let ov <- holding [v] (eval o X.env)
   let iv <- holding [v,ov] (eval i X.env)
   standAt pos
   holding [v,ov,iv] (setItem ov iv v)
   release [v,ov,iv] [])) jV):PG X (.Subscript o i pos) (gSub to ti t):=by
 intro pins s σ H v u Q I r h;rw[ha];refine wc (vR (thn (ho _ s σ H _ I h) λov s1 z9 =>?_));obtain⟨x,H1,I1,r1,q1⟩:=z9;refine wc (vR (thn (hi _ s1 σ H1 _ I1 q1) λiv s2 z9 =>?_));obtain⟨y,H2,I2,r2,q2⟩:=z9;refine wc (wpAny_standAt (wc (vR (thn (hs _ s2 σ H2 x y v ov iv u _ I2 r1 r2 r q2) λ_ s3 z9 =>?_))));obtain⟨H3,I3,q3⟩:=z9;exact wpAny_release ⟨σ,H3,I3,q3⟩
def tAsg (te:TE)(g:TG):TS:=λD σ H=>te σ H λx H1=>g x σ H1 D.nx
def zij {tg e:Expr}{te:TE}{g:TG}(he:PE X e te)(hg:PG X tg g)(hs:autoParam (swapsWithSole [tg] e pos.line X.env=pure false) jT)(hw:autoParam (swappedStores [tg] e X.env=pure none) jT)
  (h1:autoParam ((assignEach [tg] X.env).map (·.2)=[assign tg X.env]) jT):PS X (.Assign [tg] e pos) (tAsg te g):=by
 intro pins s σ H D I h;refine wpAny_Assign_stores (thn (he _ s σ H _ I h) λv s1 z9 =>?_) hs hw;obtain⟨x,H1,I1,r1,q1⟩:=z9;rw[h1];exact thn (hg _ s1 σ H1 x v _ I1 r1 q1) λ_ s2 q=>q
def zif {i:Nat}{x:Str}{e:Expr}{te:TE}{pos':Pos}(hN:X.N.Nodup)(hi:X.N[i]? = some x)(hx:Loc X.env.scope x)(he:PE X e te)(hs:autoParam (swapsWith e (some (.Name x pos')) pos.line X.env=pure false) jT)(hf:autoParam (X.fn x=true\/X.env.scope.names.lookup x=some .local) jW):
  PS X (.Assign [.Name x pos'] e pos) (tAsg te (z2u i)):=by
 intro pins s σ H D I h;refine wpAny_Assign_Name (thn (he _ s σ H _ I h) λv s1 z9 =>?_) hs;obtain⟨y,H1,I1,r1,q1⟩:=z9;exact z8z I1 hN hi hx r1 (λs2 I2=>⟨_,H1,I2,q1⟩) hf
def ze2 (c:TT)(tb:TS):TS:=λD σ H=>∃W:Nat->St->Hp->Prop,(∃m,W m σ H)/\∀m σ H,W m σ H->
 c σ H λb H1=>if b=true then ∃N:St->Hp->Prop,(∀σ' H',N σ' H'->∃m',m'<m/\W m' σ' H')/\tb { D with nx:=N,ct:=N,bk:=D.nx } σ H1 else D.nx σ H1
def zcZ {c:Expr}{body:List Stmt}{tc:TT}{tb:TS}(hp:PassesOwn (model X.prog X.w) X.A X.env X.xe)(hc:PT X c tc)(hb:PSs X body tb):PS X (.While c body [] pos) (ze2 tc tb):=by
 intro pins s σ H D I h;obtain⟨W,⟨m0,w0⟩,turn⟩:=h;refine wpAny_While (codeAny_whileLoop (λn s'=>∃σ' H',Inv X _ σ' H' s'/\W n σ' H') ?_ m0 ⟨σ,H,I,w0⟩);rintro n s1 ⟨σ1,H1,I1,w1⟩;refine uT hp (thn (hc _ s1 σ1 H1 _ I1 (turn n σ1 H1 w1)) λb s2 z9 =>?_);obtain⟨H2,I2,q2⟩:=z9
 cases b with
 | true=>
  obtain⟨N,hN,q2⟩:=q2;refine uT hp (thn (hb _ s2 σ1 H2 _ I2 q2) λf s3 q3 =>?_)
  cases f with
  | next=>
   obtain⟨σ3,H3,I3,n3⟩:=q3;obtain⟨m',hm,w3⟩:=hN σ3 H3 n3;exact⟨m',hm,σ3,H3,I3,w3⟩
  | cont=>
   obtain⟨σ3,H3,I3,n3⟩:=q3;obtain⟨m',hm,w3⟩:=hN σ3 H3 n3;exact⟨m',hm,σ3,H3,I3,w3⟩
  | brk=>exact q3
  | ret v=>exact q3
 | false=>
  exact wpAny_execs_nil ⟨σ1,H2,I2,q2⟩
end
structure It where
 go:Nat->Hp->Prop
 yld:Nat->Hp->V->Hp->Prop
 stop:Nat->Hp->Prop
def FpOk (X:Cx)(pins:List (Addr × Obj))(H:Hp)(b:Addr):Prop:=
 H b=none/\b≠X.env.locals/\b ∉ X.fs/\(b∈X.ex\/X.s₀.heap.objs.size<=b)/\(∀x c,X.env.cells.lookup x=some c->c≠b)/\∀p∈X.pn++pins,p.1≠b
def Inv.fpOk {X:Cx}{pins:List (Addr × Obj)}{σ:St}{H H':Hp}{s:Shared}{b:Addr}(I:Inv X pins σ H s)(hb:s.heap.objs.size<=b)(hn:H' b=none):FpOk X pins H' b:=by
 refine⟨hn,jF (wB I.lt hb),I.nofs hb,.inr (wI I.sz hb),λx c e z =>?_,λp hp z =>?_⟩
 .obtain⟨v,q⟩:=I.cell x c e;exact absurd (wB q.lt (by rw[z];exact hb)) (vj _)
 .exact absurd (wB (wo (I.pin p hp).1) (by rw[z];exact hb)) (vj _)
structure Turn (P:Program)(w:World)(K:W.Frag)(tg:Expr)(J:It)(fp:List Addr)(it:Addr)(tn:Nat->Heap->Prop):Prop where
 mem:it∈fp
 obj:∀i h,tn i h->∀b∈fp,∃o,h.get? b=some o/\∀v,o.data ≠ .cell v
 keep:∀i h h',tn i h->(∀b∈fp,∀o,h.get? b=some o->h'.get? b=some o)->tn i h'
 item:∀(X:Cx),X.prog=P->X.w=w->X.K=K->X.calm=true->∀(i:Nat) (pins:List (Addr × Obj)) (s:Shared) (σ:St) (H:Hp) (E:WvP),Inv X pins σ H s->(∀b∈fp,FpOk X pins H b)->tn i s.heap->J.go i H->
  wpAny (model P w) X.A (pyNext (.ref it)) (λr s1=>∃u,r=some u/\
   wpAny (model P w) X.A (letOwnedTupleGo tg (.ref it) u) (λ_ s2=>∃x H',Inv X pins σ H' s2/\RelV x u/\J.yld i H x H'/\tn (i+1) s2.heap/\∀b∈fp,H' b=none) E s1) E s
 done:∀(X:Cx),X.prog=P->X.w=w->X.K=K->X.calm=true->∀(i:Nat) (pins:List (Addr × Obj)) (s:Shared) (σ:St) (H:Hp) (E:WvP),Inv X pins σ H s->(∀b∈fp,FpOk X pins H b)->tn i s.heap->J.stop i H->
  wpAny (model P w) X.A (pyNext (.ref it)) (λr s1=>r=none/\Inv X pins σ H s1) E s
 self:∀(A:Around) (i:Nat) (s:Shared) (Q:WvP) (E:WvP),tn i s.heap->Q (.ref it) s->wpAny (model P w) A (pyIter (.ref it)) Q E s
abbrev TI:=St->Hp->(It->Hp->Prop)->Prop
def PIE (X:Cx)(pins:List (Addr × Obj))(σ:St)(tg:Expr)(R:It->Hp->Prop)(itv:Value)(s2:Shared):Prop:=
 ∃(it:Addr) (fp:List Addr) (tn:Nat->Heap->Prop) (J:It) (H':Hp),itv = .ref it/\Inv X pins σ H' s2/\Turn X.prog X.w X.K tg J fp it tn/\tn 0 s2.heap/\(∀b∈fp,FpOk X pins H' b)/\R J H'
def PI (X:Cx)(tg iter:Expr)(wi:TI):Prop:=
 ∀(pins:List (Addr × Obj)) (s:Shared) (σ:St) (H:Hp) (R:It->Hp->Prop),Inv X pins σ H s->wi σ H R->
  wpAny (model X.prog X.w) X.A (eval iter X.env) (λv s1=>wpAny (model X.prog X.w) X.A (pyIter v) (PIE X pins σ tg R) X.xe s1) X.xe s
def zdy {M:Model}{A:Around}{E:WvP}{s:Shared}{tg:Expr}{it:Addr}{u:Value}{o:Obj}{n:String}{vs:Array Value}{Q:Unit->Shared->Prop}(ho:s.heap.get? it=some o)(hc:o.cls = .type n)(hd:o.data = .fields vs)
  (hn:["enumerate","zip","dict_itemiterator","dict_reverseitemiterator","odict_iterator","itertools.zip_longest","itertools.pairwise"].contains n=false) (hQ:Q () s):wpAny M A (letOwnedTupleGo tg (.ref it) u) Q E s:=by
 cases tg <;> first
  | exact wf hQ
  | (cases u <;> first
    | exact wf hQ
    | (refine wc (wpAny_load ho ?_)
       rw[hc,hd];show wpAny M A (if (["enumerate","zip","dict_itemiterator","dict_reverseitemiterator","odict_iterator","itertools.zip_longest","itertools.pairwise"].contains n && vs[0]? == some (rawInt _))=true then _ else _) Q E s;rw[if_neg (by grind)];exact wf hQ))
def Itl (K:W.Frag)(a:Addr):It:=
 ⟨λi H=>∃xs x,SqL K H a xs/\xs[i]? = some x,λi H x H'=>H'=H/\∀xs,SqL K H a xs->xs[i]? = some x,λi H=>∃xs,SqL K H a xs/\xs.length<=i⟩
def Itt (K:W.Frag)(a:Addr):It:=
 ⟨λi H=>∃xs x,SqT K H a xs/\xs[i]? = some x,λi H x H'=>H'=H/\∀xs,SqT K H a xs->xs[i]? = some x,λi H=>∃xs,SqT K H a xs/\xs.length<=i⟩
def Itr (lo:Int)(n:Nat):It:=⟨λi _=>i<n,λi H x H'=>H'=H/\x = .int (lo+i),λi _=>n<=i⟩
def za7 {P:Program}{w:World}{K:W.Frag}{tg:Expr}(a it:Addr):Turn P w K tg (Itl K a) [it] it (λi h=>h.IsListIter it a i) where
 mem:=by simp
 obj:=λi h st b hb=>by
  have e:b=it:=by simpa using hb
  subst e;obtain⟨o,e,c,d⟩:=st;exact⟨o,e,λv z=>by rw[d] at z;cases z⟩
 keep:=λi h h' st k=>st.at λo e=>k it (by simp) o e
 item:=by
  intro X hP hw hK hc i pins s σ H E I hf st hg;subst hP hw hK;obtain⟨xs,x,hq,hx⟩:=hg;obtain⟨its,rv,p,hz⟩:=I.list hq;obtain⟨u,hu,ru⟩:=rv.get hx;obtain⟨f0,f1,f2,f3,f4,f5⟩:=hf it (by simp);refine wpAny_pyNext_list_item st p.isList (x:=u) (by simpa using hu) λh' st' sb =>?_;have I1:Inv X pins σ H { s with heap:=h' }:=I.turned (t':=s.toks) (λb o hb e=>(sb.2 b hb).trans e) f0 f1 f3 f4 f5;obtain⟨o,e,c,d⟩:=id st';exact⟨u,rfl,zdy (s:={ s with heap:=h' }) e c d (by decide) ⟨x,H,I1,ru,⟨rfl,λys hy=>by rw[I.list_inj hy hq];exact hx⟩,st',λb hb=>(hf b hb).1⟩⟩
 done:=by
  intro X hP hw hK hc i pins s σ H E I hf st hg;subst hP hw hK;obtain⟨xs,hq,hx⟩:=hg;obtain⟨its,rv,p,hz⟩:=I.list hq;obtain⟨f0,f1,f2,f3,f4,f5⟩:=hf it (by simp);have hl:=rv.length;exact wpAny_pyNext_list_end (I.ok.hd hc) st p.isList (by simp;lia) λh' eb=>⟨rfl,I.turned (t':=s.toks) (λb o hb e=>eb b o hb e) f0 f1 f3 f4 f5⟩
 self:=λ_ _ _ _ _ st h=>wpAny_pyIter_listiter st h
def z9g {P:Program}{w:World}{K:W.Frag}{tg:Expr}(a it:Addr):Turn P w K tg (Itt K a) [it] it (λi h=>h.IsTupleIter it a i) where
 mem:=by simp
 obj:=λi h st b hb=>by
  have e:b=it:=by simpa using hb
  subst e;obtain⟨o,e,c,d⟩:=st;exact⟨o,e,λv z=>by rw[d] at z;cases z⟩
 keep:=λi h h' st k=>st.at λo e=>k it (by simp) o e
 item:=by
  intro X hP hw hK hc i pins s σ H E I hf st hg;subst hP hw hK;obtain⟨xs,x,hq,hx⟩:=hg;obtain⟨its,rv,p,hz⟩:=I.tuple hq;obtain⟨u,hu,ru⟩:=rv.get hx;obtain⟨f0,f1,f2,f3,f4,f5⟩:=hf it (by simp);refine wpAny_pyNext_tuple_item st (show s.heap.IsTuple a its.toArray from p) (x:=u) (by simpa using hu) λh' st' sb =>?_;have I1:Inv X pins σ H { s with heap:=h' }:=I.turned (t':=s.toks) (λb o hb e=>(sb.2 b hb).trans e) f0 f1 f3 f4 f5;obtain⟨o,e,c,d⟩:=id st';exact⟨u,rfl,zdy (s:={ s with heap:=h' }) e c d (by decide) ⟨x,H,I1,ru,⟨rfl,λys hy=>by rw[I.tuple_inj hy hq];exact hx⟩,st',λb hb=>(hf b hb).1⟩⟩
 done:=by
  intro X hP hw hK hc i pins s σ H E I hf st hg;subst hP hw hK;obtain⟨xs,hq,hx⟩:=hg;obtain⟨its,rv,p,hz⟩:=I.tuple hq;obtain⟨f0,f1,f2,f3,f4,f5⟩:=hf it (by simp);have hl:=rv.length;exact wpAny_pyNext_tuple_end (I.ok.hd hc) st (show s.heap.IsTuple a its.toArray from p) (by simp;lia) λh' eb=>⟨rfl,I.turned (t':=s.toks) (λb o hb e=>eb b o hb e) f0 f1 f3 f4 f5⟩
 self:=λ_ _ _ _ _ st h=>wpAny_pyIter_tupleiter st h
def z9h {P:Program}{w:World}{K:W.Frag}{tg:Expr}(it:Addr)(lo:Int)(n:Nat):Turn P w K tg (Itr lo n) [it] it (λi h=>IsRangeIter h it (lo+(i:Nat)*1) ((n:Int) - (i:Nat)) 1) where
 mem:=by simp
 obj:=λi h st b hb=>by
  simp_all
 keep:=λi h h' st k=>k it (by simp) _ st
 item:=by
  intro X hP hw hK hc i pins s σ H E I hf st hg;subst hP hw hK;obtain⟨f0,f1,f2,f3,f4,f5⟩:=hf it (by simp);have W:=Walks.range (prog:=X.prog) (w:=X.w) (I.ok.hd hc) it lo 1 n;refine W.item i s _ _ hg st λv h' tk hv st' kk =>?_;obtain⟨t,rfl⟩:=hv;have I1:Inv X pins σ H { s with heap:=h',toks:=tk }:=I.turned (λb o hb e=>kk b o (by simpa using hb) e) f0 f1 f3 f4 f5;refine⟨_,rfl,zdy st' rfl rfl (by decide) ⟨.int (lo+i),H,I1,⟨t,?_⟩,⟨rfl,rfl⟩,st',λb hb=>(hf b hb).1⟩⟩;rw[Int.mul_one]
 done:=by
  intro X hP hw hK hc i pins s σ H E I hf st hg;subst hP hw hK;obtain⟨f0,f1,f2,f3,f4,f5⟩:=hf it (by simp);exact wpAny_pyNext_range_end (I.ok.hd hc) st (by have:n<=i:=hg;lia) λh' eb=>⟨rfl,I.turned (t':=s.toks) (λb o hb e=>eb b o hb e) f0 f1 f3 f4 f5⟩
 self:=λ_ _ _ _ _ st h=>wpAny_pyIter_rangeiter st h
section
variable {X:Cx}{tg:Expr}
def zcD {pins:List (Addr × Obj)}{σ:St}{H:Hp}{s:Shared}{R:It->Hp->Prop}{E:WvP}{lo hi:Int}{t u v:Tok}{tk:Nat}(I:Inv X pins σ H s)(h1 : -(2 ^ 62)<=lo)(h2:lo<2 ^ 62)(h3 : -(2 ^ 62)<=hi)(h4:hi<2 ^ 62)
  (q:R (Itr lo (hi - lo).toNat) H):wpAny (model X.prog X.w) X.A (pyIter (.ref s.heap.objs.size)) (PIE X pins σ tg R) E { s with heap:=s.heap.push { cls :=.type "range",data :=.fields #[.int lo t,.int hi u,.int 1 v] },toks:=tk }:=by
 refine wpAny_pyIter_range (IsRange.new ..) (small_one h1 h2 h3 h4) ?_;have I1:Inv X _ σ H { s with heap:=s.heap.push { cls :=.type "range",data :=.fields #[.int lo t,.int hi u,.int 1 v] },toks:=tk }:=I.kept λb o e=>we _ e;refine⟨(s.heap.push _).objs.size,[(s.heap.push _).objs.size],_,_,H,rfl,
  I1.kept λb o e=>we _ e,z9h _ lo _,?_,λb hb =>?_,q⟩
 .have e1:lo+((0:Nat))*1=lo:=by simp
  have e2:(((hi - lo).toNat:Nat)) - ((0:Nat))=Builtin.Range.rangeSize lo hi 1:=by rw[rangeSize_one];split <;> lia
  rw[e1,e2];exact wn _ rfl
 .have e:b=(s.heap.push { cls :=.type "range",data :=.fields #[.int lo t,.int hi u,.int 1 v] }).objs.size:=by simpa using hb
  subst e;exact I1.fpOk (wp _) (I1.hok.fresh (wp _))
def zjC (ta:TA):TI:=λσ H R=>ta σ H λvs H1=>∃j:Int,vs=[.int j] /\ -(2 ^ 62)<=j/\j<2 ^ 62/\R (Itr 0 j.toNat) H1
def zaO {a:Expr}{ta:TA}{p pos:Pos}(hg:Gl X "range")(hm:X.mg "range"=none)(ha:PA X [a] ta)(hs:autoParam (starEach [a] X.env=[(false,eval a X.env)]) jT):PI X tg (.Call (.Name "range" p) [a] [] pos) (zjC ta):=by
 intro pins s σ H R I h;refine Call_ (z7f I hg hm boot_range (jf (thn (ha pos _ s σ H _ I h) λus s1 z9 =>?_) hs rfl));obtain⟨vs,H1,I1,r1,q1⟩:=z9;obtain⟨j,e,q1,q2,q⟩:=q1;subst e
 cases r1 with
 | cons r rr=>
  cases rr
  obtain⟨t,rfl⟩:=r;exact call_range_1 (zcD I1 (by lia) (by lia) q1 q2 (by simpa using q))
def tFor (wi:TI)(g:TG)(tb:TS):TS:=λD σ H=>wi σ H λJ H1=>∃W:Nat->Nat->St->Hp->Prop,(∃m,W 0 m σ H1)/\∀i m σ H,W i m σ H->
 (J.stop i H/\D.nx σ H)\/(J.go i H/\∃N:St->Hp->Prop,(∀σ' H',N σ' H'->∃m',m'<m/\W (i+1) m' σ' H')/\∀x H',J.yld i H x H'->g x σ H' λσ2 H2=>tb { D with nx:=N,ct:=N,bk:=D.nx } σ2 H2)
def z4p (fp:List Addr)(h:Heap):List (Addr × Obj):=fp.filterMap λb=>(h.get? b).map λo=>(b,o)
def z1X {fp:List Addr}{h:Heap}{b:Addr}{o:Obj}(hb:b∈fp)(e:h.get? b=some o):(b,o)∈z4p fp h:=ux.mpr ⟨b,hb,by rw[e];rfl⟩
def zb1 {fp:List Addr}{h:Heap}{p:Addr × Obj}(hp:p∈z4p fp h):p.1∈fp/\h.get? p.1=some p.2:=by
 obtain⟨b,hb,e⟩:=ux.mp hp
 cases q:h.get? b with
 | none=>simp_all
 | some o=>
  rw[q] at e;have e'  := w5 e;subst e';exact⟨hb,q⟩
def Inv.pinned {pins:List (Addr × Obj)}{σ:St}{H:Hp}{s:Shared}{fp:List Addr}(I:Inv X pins σ H s)(hf:∀b∈fp,FpOk X pins H b)(ho:∀b∈fp,∃o,s.heap.get? b=some o/\∀v,o.data ≠ .cell v):Inv X (pins++z4p fp s.heap) σ H s:=
 I.pins_of λp hp=>(wZ.mp hp).elim (λz=>I.pin p (wS _ z)) λz=>by
  obtain⟨hb,e⟩:=zb1 z;obtain⟨f0,f1,f2,_⟩:=hf p.1 hb;obtain⟨o,e',d⟩:=ho p.1 hb
  simp_all
def Inv.unpinned {pins pl:List (Addr × Obj)}{σ:St}{H:Hp}{s:Shared}(I:Inv X (pins++pl) σ H s):Inv X pins σ H s:=I.pins_of λp hp=>I.pin p (wS _ (jv _ hp))
def zii {iter:Expr}{body:List Stmt}{wi:TI}{g:TG}{tb:TS}{pos:Pos}(hp:PassesOwn (model X.prog X.w) X.A X.env X.xe)(hc:X.calm=true)(hi:PI X tg iter wi)(hg:PG X tg g)(hb:PSs X body tb)
  (hs:autoParam (∀x,foldedSetIterable iter X.env x=pure x) jV):PS X (.For tg iter body [] pos) (tFor wi g tb):=by
 intro pins s σ H D I h;refine wpAny_For (thn (hi pins s σ H _ I h) λv s1 h1=>thn h1 λitv s2 h2 =>?_) hs;obtain⟨it,fp,tn,J,H2,e,I2,T,st2,f2,W,⟨m0,w0⟩,turn⟩:=h2;subst e;have stat:∀{H':Hp},(∀b∈fp,H' b=none)->∀b∈fp,FpOk X pins H' b:=λhn b hb=>⟨hn b hb,(f2 b hb).2⟩
 refine codeAny_forLoop_any (λn s'=>∃i σ' H',Inv X pins σ' H' s'/\tn i s'.heap/\(∀b∈fp,H' b=none)/\W i n σ' H') ?_ m0 ⟨0,σ,H2,I2,st2,λb hb=>(f2 b hb).1,w0⟩;rintro n s3 ⟨i,σ3,H3,I3,st3,fr3,w3⟩
 rcases turn i n σ3 H3 w3 with ⟨stop,qn⟩ | ⟨go,N,hN,step⟩
 .refine uT hp (thn (T.done X rfl rfl rfl hc i pins s3 σ3 H3 X.xe I3 (stat fr3) st3 stop) λr s4 ⟨hr,I4⟩ =>?_);subst hr;exact wpAny_execs_nil ⟨σ3,H3,I4,qn⟩
 .refine uT hp (thn (T.item X rfl rfl rfl hc i pins s3 σ3 H3 X.xe I3 (stat fr3) st3 go) λr s4 ⟨u,hr,h4⟩ =>?_);subst hr;refine uT hp (thn h4 λ_ s5 z9 =>?_);obtain⟨x,H5,I5,r5,y5,st5,fr5⟩:=z9;have I5':=I5.pinned (stat fr5) (T.obj _ _ st5);refine uT hp (thn (hg _ s5 σ3 H5 x u _ I5' r5 (step x H5 y5)) λ_ s6 z9 =>?_);obtain⟨σ6,H6,I6,q6⟩:=z9;refine uT hp (thn (hb _ s6 σ6 H6 _ I6 q6) λf s7 q7 =>?_);have again:∀{σ7:St}{H7:Hp},Inv X (pins++z4p fp s5.heap) σ7 H7 s7->N σ7 H7->∃m,m<n/\∃i σ' H',Inv X pins σ' H' s7/\tn i s7.heap/\(∀b∈fp,H' b=none)/\W i m σ' H':=λ{σ7 H7} I7 n7=>by
   obtain⟨m',hm,w7⟩:=hN σ7 H7 n7;refine⟨m',hm,i+1,σ7,H7,I7.unpinned,T.keep _ _ _ st5 λb hb o e=>(I7.pin (b,o) (wS _ (wS _ (z1X hb e)))).1,λb hb =>?_,w7⟩;obtain⟨o,e,d⟩:=T.obj _ _ st5 b hb;exact(I7.pin (b,o) (wS _ (wS _ (z1X hb e)))).2.1
  cases f with
  | next=>obtain⟨σ7,H7,I7,n7⟩:=q7;exact again I7 n7
  | cont=>obtain⟨σ7,H7,I7,n7⟩:=q7;exact again I7 n7
  | brk=>obtain⟨σ7,H7,I7,q7⟩:=q7;exact⟨σ7,H7,I7.unpinned,q7⟩
  | ret v=>obtain⟨x7,σ7,H7,I7,r7,q7⟩:=q7;exact⟨x7,σ7,H7,I7.unpinned,r7,q7⟩
end
abbrev R2:=V->V->Hp->VK->Prop
def OpR (X:Cx)(f:Value->Value->Sem Value)(r:R2):Prop:=
 ∀(pins:List (Addr × Obj)) (s:Shared) (σ:St) (H:Hp) (x y:V) (v u:Value) (Q:VK),Inv X pins σ H s->RelV x v->RelV y u->r x y H Q->
  wpAny (model X.prog X.w) X.A (f v u) (EP X pins σ Q) X.xe s
def UnR (X:Cx)(f:Value->Sem Value)(r:V->Hp->VK->Prop):Prop:=
 ∀(pins:List (Addr × Obj)) (s:Shared) (σ:St) (H:Hp) (x:V) (v:Value) (Q:VK),Inv X pins σ H s->RelV x v->r x H Q->
  wpAny (model X.prog X.w) X.A (f v) (EP X pins σ Q) X.xe s
def z0w (X:Cx)(f:Value)(r:List V->Hp->VK->Prop):Prop:=
 ∀(pins:List (Addr × Obj)) (s:Shared) (σ:St) (H:Hp) (xs:List V) (us:List Value) (Q:VK),Inv X pins σ H s->Vals xs us->r xs H Q->
  wpAny (model X.prog X.w) X.A (call f us) (EP X pins σ Q) X.xe s
def tOp (r:R2)(ta tb:TE):TE:=λσ H Q=>ta σ H λx H1=>tb σ H1 λy H2=>r x y H2 Q
def tUn (r:V->Hp->VK->Prop)(ta:TE):TE:=λσ H Q=>ta σ H λx H1=>r x H1 Q
def rI (C:Int->Int->Prop)(g:Int->Int->V):R2:=λx y H Q=>∃i j,x = .int i/\y = .int j/\C i j/\Q (g i j) H
def rI0 (g:Int->Int->V):R2:=λx y H Q=>∃i j,x = .int i/\y = .int j/\Q (g i j) H
def rU (g:Int->V):V->Hp->VK->Prop:=λx H Q=>∃i,x = .int i/\Q (g i) H
section
variable {X:Cx}{a b c:Expr}{ta tb tc:TE}{pos:Pos}
def binT (ha:PE X a ta)(hb:PE X b tb){pins:List (Addr × Obj)}{s:Shared}{σ:St}{H:Hp}{R:V->V->Hp->Prop}(I:Inv X pins σ H s)
  (h:ta σ H λx H1=>tb σ H1 λy H2=>R x y H2) {Q:WvP}{f:Value->Value->Sem Value}
  (hf:∀v u s2 x y H2,Inv X pins σ H2 s2->RelV x v->RelV y u->R x y H2->wpAny (model X.prog X.w) X.A (f v u) Q X.xe s2):
  wpAny (model X.prog X.w) X.A (eval a X.env) (λv s₁=>wpAny (model X.prog X.w) X.A (eval b X.env) (λu s₂=>wpAny (model X.prog X.w) X.A (f v u) Q X.xe s₂) X.xe s₁) X.xe s:=by
 refine thn (ha _ s σ H _ I h) λv s1 z9 =>?_;obtain⟨x,H1,I1,r1,q1⟩:=z9;refine thn (hb _ s1 σ H1 _ I1 q1) λu s2 z9 =>?_;obtain⟨y,H2,I2,r2,q2⟩:=z9;exact hf v u s2 x y H2 I2 r1 r2 q2
def zkz {op:Operator}{r:R2}(ho:OpR X (binaryOp op) r)(ha:PE X a ta)(hb:PE X b tb):PE X (.BinOp a op b pos) (tOp r ta tb):=by
 intro pins s σ H Q I h;exact wpAny_BinOp (binT ha hb I h λv u s2 x y H2 I2 rx ry q=>ho _ s2 σ H2 x y v u Q I2 rx ry q)
def zky {op:UnaryOp}{r:V->Hp->VK->Prop}(ho:UnR X (unaryOp op) r)(ha:PE X a ta):PE X (.UnaryOp op a pos) (tUn r ta):=by
 intro pins s σ H Q I h;exact UnaryOp_ (thn (ha _ s σ H _ I h) λv s1 ⟨x,H1,I1,r1,q1⟩=>ho _ s1 σ H1 x v Q I1 r1 q1)
def opI {f:Value->Value->Sem Value}{C:Int->Int->Prop}{g:Int->Int->Int}
  (rule:∀(i j:Int) (t u:Tok) (s:Shared) (Q:WvP) (E:WvP),C i j->Q (.int (g i j) s.toks) { s with toks:=s.toks+1 }->wpAny (model X.prog X.w) X.A (f (.int i t) (.int j u)) Q E s):
  OpR X f (rI C λi j =>.int (g i j)):=by
 intro pins s σ H x y v u Q I rx ry h;obtain⟨i,j,rfl,rfl,hc,q⟩:=h;obtain⟨t,rfl⟩:=rx;obtain⟨t',rfl⟩:=ry;exact rule i j t t' s _ _ hc ⟨.int _,H,I.tok _,⟨_,rfl⟩,q⟩
def opI0 {f:Value->Value->Sem Value}{g:Int->Int->Int}
  (rule:∀(i j:Int) (t u:Tok) (s:Shared) (Q:WvP) (E:WvP),Q (.int (g i j) s.toks) { s with toks:=s.toks+1 }->wpAny (model X.prog X.w) X.A (f (.int i t) (.int j u)) Q E s):
  OpR X f (rI0 λi j =>.int (g i j)):=by
 intro pins s σ H x y v u Q I rx ry h;obtain⟨i,j,rfl,rfl,q⟩:=h;obtain⟨t,rfl⟩:=rx;obtain⟨t',rfl⟩:=ry;exact rule i j t t' s _ _ ⟨.int _,H,I.tok _,⟨_,rfl⟩,q⟩
def opB0 {f:Value->Value->Sem Value}{g:Int->Int->Bool}
  (rule:∀(i j:Int) (t u:Tok) (s:Shared) (Q:WvP) (E:WvP),Q (.bool (g i j)) s->wpAny (model X.prog X.w) X.A (f (.int i t) (.int j u)) Q E s):
  OpR X f (rI0 λi j =>.bl (g i j)):=by
 intro pins s σ H x y v u Q I rx ry h;obtain⟨i,j,rfl,rfl,q⟩:=h;obtain⟨t,rfl⟩:=rx;obtain⟨t',rfl⟩:=ry;exact rule i j t t' s _ _ ⟨.bl _,H,I,rfl,q⟩
def CPow (i j:Int):Prop:=0<=j/\j<=1000000/\i.natAbs<2 ^ 64
def ziR:OpR X (binaryOp .Add) (rI0 λi j =>.int (i+j)):=opI0 λ_ _ _ _ _ _ _ q=>add_int q
def ziL:OpR X (binaryOp .Sub) (rI0 λi j =>.int (i - j)):=opI0 λ_ _ _ _ _ _ _ q=>sub_int q
def zfV:OpR X (binaryOp .Mod) (rI (λ_ j=>j≠0) λi j =>.int (i.fmod j)):=opI λ_ _ _ _ _ _ _ hc q=>mod_int' hc q
def ziM:OpR X (binaryOp .Pow) (rI CPow λi j =>.int (i ^ j.toNat)):=opI λ_ _ _ _ _ _ _ hc q=>pow_int_small hc.1 hc.2.1 hc.2.2 q
def unI {f:Value->Sem Value}{g:Int->Int}
  (rule:∀(i:Int) (t:Tok) (s:Shared) (Q:WvP) (E:WvP),Q (.int (g i) s.toks) { s with toks:=s.toks+1 }->wpAny (model X.prog X.w) X.A (f (.int i t)) Q E s):
  UnR X f (rU λi =>.int (g i)):=by
 intro pins s σ H x v Q I rx h;obtain⟨i,rfl,q⟩:=h;obtain⟨t,rfl⟩:=rx;exact rule i t s _ _ ⟨.int _,H,I.tok _,⟨_,rfl⟩,q⟩
def zgG:UnR X (unaryOp .USub) (rU λi =>.int (-i)):=unI λ_ _ _ _ _ q=>neg_int q
end
def scal:V->V->Bool
 | .non,.non=>true | .non,.int _=>true | .int _,.non=>true | .non,.bl _=>true | .bl _,.non=>true | .non,.str _=>true | .str _,.non=>true
 | .int _,.int _=>true | .bl _,.bl _=>true | .str _,.str _=>true | .byt _,.byt _=>true
 | .int _,.str _=>true | .str _,.int _=>true | .bl _,.str _=>true | .str _,.bl _=>true
 | _,_=>false
def rEq:R2:=λx y H Q=>scal x y=true/\Q (.bl (decide (x=y))) H
def rNe:R2:=λx y H Q=>scal x y=true/\Q (.bl (!decide (x=y))) H
def zbH {i j:Int}:decide (V.int i=V.int j)=(i == j):=by
 rw[jg];simp
def zeI {i j:Bool}:decide (V.bl i=V.bl j)=(i == j):=by
 rw[jg];simp
def zbG {i j:Str}:decide (V.str i=V.str j)=(i == j):=by
 rw[jg];simp
def zbI {i j:Array UInt8}:decide (V.byt i=V.byt j)=(i.toList == j.toList):=by
 rw[jg]
 simp_all
section
variable {X:Cx}{a b c:Expr}{ta tb tc:TE}{pos:Pos}
def z0u {pins:List (Addr × Obj)}{σ:St}{H:Hp}{s:Shared}{Q:VK}{k k':Bool}(I:Inv X pins σ H s)(q:Q (.bl k) H)(e:k=k'):EP X pins σ Q (.bool k') s:=by
 subst e;exact⟨.bl k,H,I,rfl,q⟩
def zkJ:OpR X (compareOp .Eq) rEq:=by
 intro pins s σ H x y v u Q I rx ry h;obtain⟨hs,q⟩:=h
 cases x with
 | non=>
  cases rx
  cases y with
  | non=>cases ry;exact PySem.EqNone.eq_none_none (z0u I q (by simp))
  | bl j=>cases ry;exact PySem.EqNone.eq_none_bool (z0u I q (by simp))
  | int j=>obtain⟨t',rfl⟩:=ry;exact PySem.EqNone.eq_none_int (z0u I q (by simp))
  | str j=>obtain⟨t',rfl⟩:=ry;exact PySem.EqNone.eq_none_str (z0u I q (by simp))
  | _=>exact absurd (show false=true from hs) wP
 | bl i=>
  cases rx
  cases y with
  | non=>cases ry;exact PySem.EqNone.eq_bool_none (z0u I q (by simp))
  | bl j=>cases ry;exact eq_bool (z0u I q zeI)
  | str j=>obtain⟨t',rfl⟩:=ry;exact PySem.EqMixed.eq_bool_str (z0u I q (by simp))
  | _=>exact absurd (show false=true from hs) wP
 | int i=>
  obtain⟨t,rfl⟩:=rx
  cases y with
  | non=>cases ry;exact PySem.EqNone.eq_int_none (z0u I q (by simp))
  | int j=>obtain⟨t',rfl⟩:=ry;exact eq_int (z0u I q zbH)
  | str j=>obtain⟨t',rfl⟩:=ry;exact PySem.EqMixed.eq_int_str (z0u I q (by simp))
  | _=>exact absurd (show false=true from hs) wP
 | str i=>
  obtain⟨t,rfl⟩:=rx
  cases y with
  | non=>cases ry;exact PySem.EqNone.eq_str_none (z0u I q (by simp))
  | bl j=>cases ry;exact PySem.EqMixed.eq_str_bool (z0u I q (by simp))
  | int j=>obtain⟨t',rfl⟩:=ry;exact PySem.EqMixed.eq_str_int (z0u I q (by simp))
  | str j=>obtain⟨t',rfl⟩:=ry;exact eq_str (z0u I q zbG)
  | _=>exact absurd (show false=true from hs) wP
 | byt i=>
  obtain⟨t,rfl⟩:=rx
  cases y with
  | byt j=>obtain⟨t',rfl⟩:=ry;exact W.eq_bytes (z0u I q zbI)
  | _=>exact absurd (show false=true from hs) wP
 | _=>cases y <;> exact absurd (show false=true from hs) wP
def zkE:OpR X (compareOp .NotEq) rNe:=by
 intro pins s σ H x y v u Q I rx ry h;obtain⟨hs,q⟩:=h
 cases x with
 | non=>
  cases rx
  cases y with
  | non=>cases ry;exact PySem.EqNone.ne_none_none (z0u I q (by simp))
  | bl j=>cases ry;exact PySem.EqNone.ne_none_bool (z0u I q (by simp))
  | int j=>obtain⟨t',rfl⟩:=ry;exact PySem.EqNone.ne_none_int (z0u I q (by simp))
  | str j=>obtain⟨t',rfl⟩:=ry;exact PySem.EqNone.ne_none_str (z0u I q (by simp))
  | _=>exact absurd (show false=true from hs) wP
 | bl i=>
  cases rx
  cases y with
  | non=>cases ry;exact PySem.EqNone.ne_bool_none (z0u I q (by simp))
  | bl j=>cases ry;exact ne_bool (z0u I q (congrArg not zeI))
  | str j=>obtain⟨t',rfl⟩:=ry;exact PySem.EqMixed.ne_bool_str (z0u I q (by simp))
  | _=>exact absurd (show false=true from hs) wP
 | int i=>
  obtain⟨t,rfl⟩:=rx
  cases y with
  | non=>cases ry;exact PySem.EqNone.ne_int_none (z0u I q (by simp))
  | int j=>obtain⟨t',rfl⟩:=ry;exact ne_int (z0u I q (congrArg not zbH))
  | str j=>obtain⟨t',rfl⟩:=ry;exact PySem.EqMixed.ne_int_str (z0u I q (by simp))
  | _=>exact absurd (show false=true from hs) wP
 | str i=>
  obtain⟨t,rfl⟩:=rx
  cases y with
  | non=>cases ry;exact PySem.EqNone.ne_str_none (z0u I q (by simp))
  | bl j=>cases ry;exact PySem.EqMixed.ne_str_bool (z0u I q (by simp))
  | int j=>obtain⟨t',rfl⟩:=ry;exact PySem.EqMixed.ne_str_int (z0u I q (by simp))
  | str j=>obtain⟨t',rfl⟩:=ry;exact ne_str (z0u I q (congrArg not zbG))
  | _=>exact absurd (show false=true from hs) wP
 | byt i=>
  obtain⟨t,rfl⟩:=rx
  cases y with
  | byt j=>obtain⟨t',rfl⟩:=ry;exact W.ne_bytes (z0u I q (congrArg not zbI))
  | _=>exact absurd (show false=true from hs) wP
 | _=>cases y <;> exact absurd (show false=true from hs) wP
def zkF:OpR X (compareOp .Lt) (rI0 λi j =>.bl (decide (i<j))):=opB0 λ_ _ _ _ _ _ _ q=>lt_int q
def zkG:OpR X (compareOp .LtE) (rI0 λi j =>.bl (decide (i<=j))):=opB0 λ_ _ _ _ _ _ _ q=>le_int q
def zkH:OpR X (compareOp .Gt) (rI0 λi j =>.bl (decide (j<i))):=opB0 λ_ _ _ _ _ _ _ q=>gt_int q
def zkI:OpR X (compareOp .GtE) (rI0 λi j =>.bl (decide (j<=i))):=opB0 λ_ _ _ _ _ _ _ q=>ge_int q
def zfT:OpR X (compareOp .IsNot) (λx y H Q=>y = .non/\Q (.bl (!decide (x = .non))) H):=by
 intro pins s σ H x y v u Q I rx ry h;obtain⟨rfl,q⟩:=h
 cases ry
 refine isnot_none_gen (z0u I q ?_)
 cases x <;> first
  | rfl
  | (obtain⟨t,rfl⟩:=rx;rfl)
def zjf (b:Expr){op:CmpOp}(h:autoParam (op ≠ .In) jU)(h2:autoParam (op ≠ .NotIn) jU):behindInMarks op b=false:=by
 have e1:(op == CmpOp.In)=false:=by grind
 have e2:(op == CmpOp.NotIn)=false:=by grind
 cases b <;> simp[behindInMarks,e1,e2]
def zfN {op:CmpOp}{r:R2}(ho:OpR X (compareOp op) r)(ha:PE X a ta)(hb:PE X b tb)(hm:behindInMarks op b=false):PE X (.Compare a [op] [b] pos) (tOp r ta tb):=by
 intro pins s σ H Q I h;exact wpAny_Compare1 (binT ha hb I h λv u s2 x y H2 I2 rx ry q=>ho _ s2 σ H2 x y v u Q I2 rx ry q) hm
def zeY (t:TE):TT:=λσ H Q=>t σ H λx H'=>∃k,x = .bl k/\Q k H'
def zfD {op:CmpOp}{r:R2}(ho:OpR X (compareOp op) r)(ha:PE X a ta)(hb:PE X b tb)(hm:behindInMarks op b=false):PT X (.Compare a [op] [b] pos) (zeY (tOp r ta tb)):=by
 intro pins s σ H Q I h;refine wpAny_isTrue_Compare1 (thn (ha _ s σ H _ I h) λv s1 ⟨x,H1,I1,r1,q1⟩=>thn (hb _ s1 σ H1 _ I1 q1) λu s2 ⟨y,H2,I2,r2,q2⟩=>
  thn (ho _ s2 σ H2 x y v u _ I2 r1 r2 q2) λc s3 ⟨z,H3,I3,r3,k,e,q3⟩ =>?_) hm
 subst e
 cases r3
 exact jr ⟨H3,I3,q3⟩
def z55:(sizeLine:Nat)<2 ^ 63:=by decide
def z9D:OpR X (binaryOp .Add) (λx y H Q=>∃i j,x = .str i/\y = .str j/\i.length+j.length<=sizeLine/\Q (.str (i++j)) H):=by
 intro pins s σ H x y v u Q I rx ry h;obtain⟨i,j,rfl,rfl,hz,q⟩:=h;obtain⟨t,rfl⟩:=rx;obtain⟨t',rfl⟩:=ry;exact add_str (λt' tk=>⟨.str _,H,I.tok _,⟨_,rfl⟩,q⟩) hz
def z2O {x:V}{us:List Value}(r:Vals [x] us):∃u,us=[u]/\RelV x u:=by
 cases r with
 | cons r1 r2=>cases r2;exact⟨_,rfl,r1⟩
def zgF {x y:V}{us:List Value}(r:Vals [x,y] us):∃u w',us=[u,w']/\RelV x u/\RelV y w':=by
 cases r with
 | cons r1 r2=>
  cases r2 with
  | cons r3 r4=>cases r4;exact⟨_,_,rfl,r1,r3⟩
def zdS:z0w X (.builtin "abs") (λxs H Q=>∃i,xs=[.int i]/\Q (.int (if i<0 then -i else i)) H):=by
 intro pins s σ H xs us Q I r h;obtain⟨i,rfl,q⟩:=h;obtain⟨u,rfl,t,rfl⟩:=z2O r;exact call_abs_int λu tk=>⟨.int _,H,I.tok _,⟨_,rfl⟩,q⟩
def zbX (hc:X.calm=true):z0w X (.builtin "min") (λxs H Q=>∃i j,xs=[.int i,.int j]/\Q (.int (if j<i then j else i)) H):=by
 intro pins s σ H xs us Q I r h;obtain⟨i,j,rfl,q⟩:=h;obtain⟨u,w',rfl,⟨t,rfl⟩,⟨t',rfl⟩⟩:=zgF r;refine min_two_ints (I.ok.hd hc) λh' tk k=>⟨_,H,I.kept k,?_,q⟩
 by_cases hj:j<i
 .rw[if_pos hj,if_pos hj];exact⟨_,rfl⟩
 .rw[if_neg hj,if_neg hj];exact⟨_,rfl⟩
end
structure ObjM (h:Heap)(x dx C:Addr)(mA:WmP):Prop where
 obj:h.get? x=some (W.instObj C dx)
 ns:h.Ns1 dx mA
 ne:dx≠x
def zbh {h:Heap}{dx:Addr}{mA:WmP}(n:h.Ns1 dx mA):∃od,h.get? dx=some od/\∀name,W.lookIn name od=some (mA name):=by
 obtain⟨o,es,ep,ho,hd,hk,_,hm⟩:=n;refine⟨o,ho,λname =>?_⟩;have e:=hm name;unfold nsFind findBy at e;rw[<- Array.find?_toList] at e;unfold W.lookIn;rw[hd];dsimp only
 split
 .simp_all
 .rename_i q
  rw[q] at e;have a:es.toList.any (·.refKey)=false:=by
   rw[List.any_eq_false];intro y hy;obtain⟨z,t,hkey⟩:=hk y (Array.mem_toList_iff.mp hy);simp[DictEntry.refKey,hkey]
  grind
def ObjM.look {h:Heap}{x dx C:Addr}{mA:WmP}(I:ObjM h x dx C mA):∃od,W.InstAt h x (W.instObj C dx) C (some od)/\∀name,W.lookIn name od=some (mA name):=
 let ⟨od,ho,hl⟩:=zbh I.ns
 ⟨od,⟨I.obj,rfl,rfl,ho⟩,hl⟩
section
variable {P:Program}{w:World}{H H':Hp}{h h':Heap}{a C dx:Addr}{fs fs':List (Str × V)}
def zgh (hok:HOk P w H h)(e:H a=some (.ins C dx fs)):∃mA,ObjM h a dx C mA/\(∀f,RelO (fs.lookup f) (mA f))/\PySem.Within mA (fs.map (·.1))/\fs.length<=1000/\H dx=some (.own a):=by
 obtain⟨d,z,ne,ob,mA,n,r,q⟩:=(hok a _ e)
 exact⟨mA,⟨ob,n,ne⟩,r,q,z,d⟩
end
structure Cls (K:W.Frag)(C:Addr):Prop where
 pg:W.plainGet K C Str.empty=true
 hd:W.hasDictIn K C=true
 po:W.plainOver K C=true
 sa:W.findIn K (.ref C) "__setattr__"=some (some (.builtin "object.__setattr__"))
def Cls.get {K:W.Frag}{C:Addr}(c:Cls K C)(f:Str):W.plainGet K C f=true:=c.pg
section
variable {X:Cx}{pins:List (Addr × Obj)}{σ:St}{H:Hp}{s:Shared}{A:Around}{E:WvP}{Q:WvP}{c:Value}{b:Bool}
inductive TyOf (K:W.Frag) (H:Hp):V->Value->Prop where
 | non:TyOf K H .non (.type "NoneType")
 | bl (x:Bool):TyOf K H (.bl x) (.type "bool")
 | int (i:Int):TyOf K H (.int i) (.type "int")
 | str (x:Str):TyOf K H (.str x) (.type "str")
 | flt (x:UInt64):TyOf K H (.flt x) (.type "float")
 | lst {a:Addr}{xs:List V}(e:H a=some (.lst xs)):TyOf K H (.ref a) (.type "list")
 | frz {a:Addr}{o:Obj}{xs:List V}(e:H a=some (.frz o (.lst xs))):TyOf K H (.ref a) (.type "list")
 | tup {a:Addr}{xs:List V}(e:H a=some (.tup xs)):TyOf K H (.ref a) (.type "tuple")
 | dK {a:Addr}{kvs:List (Key × V)}(e:H a=some (.dK kvs)):TyOf K H (.ref a) (.type "dict")
 | dT {a:Addr}{kvs:List (List Key × V)}(e:H a=some (.dT kvs)):TyOf K H (.ref a) (.type "dict")
 | ins {a C dx:Addr}{fs:List (Str × V)}(e:H a=some (.ins C dx fs)) (cl:Cls K C) (ha:W.findIn K (.ref C) "__class__"=some (some (.builtin "object.__class__")))
   (hn:W.specialIn K (.builtin "object.__class__") "__get__"=some (some (.builtin "getset_descriptor.__get__"))) (htk:W.takesIn K (.builtin "object.__class__")=some true)
   (hm:W.mroIn K C (.type "object")=some true):TyOf K H (.ref a) (.ref C)
def z3V {x:V}{u t:Value}(I:Inv X pins σ H s)(rx:RelV x u)(ty:TyOf X.K H x t)(e:W.kitOne X.K t c=some b)(h:∀tk,Q (.bool b) { s with toks:=tk }):
  wpAny (model X.prog X.w) A (call (.builtin "isinstance") [u,c]) Q E s:=by
 cases ty with
 | non=>cases (show u=Value.none from rx);exact vI W.kitx_none I.kIn True.intro e (λz=>nomatch z) h
 | bl y=>cases (show u=Value.bool y from rx);exact vI W.kitx_bool I.kIn True.intro e (λz=>nomatch z) h
 | int i=>obtain⟨t,q⟩:=(show ∃t,u=Value.int i t from rx);cases q;exact vI W.kitx_int I.kIn True.intro e (λz=>nomatch z) h
 | str y=>obtain⟨t,q⟩:=(show ∃t,u=Value.str y t from rx);cases q;exact vI W.kitx_str I.kIn True.intro e (λz=>nomatch z) h
 | flt y=>obtain⟨t,q⟩:=(show ∃t,u=Value.float y t from rx);cases q;exact vI W.kitx_float I.kIn True.intro e (λz=>nomatch z) h
 | @lst a xs ea=>
  cases (show u=Value.ref a from rx)
  obtain⟨_,_,n,_,h1⟩:=(show z1j X.prog X.w H s.heap a (.lst xs) from I.hok a _ ea)
  exact vI W.kitx_list I.kIn ⟨_,h1,rfl⟩ e (λz=>nomatch z) h
 | @frz a ob xs ea=>
  cases (show u=Value.ref a from rx)
  obtain⟨_,_,_,n,_,h1⟩:=(show z1j X.prog X.w H s.heap a (.frz ob (.lst xs)) from I.hok a _ ea)
  exact vI W.kitx_list I.kIn ⟨_,h1,rfl⟩ e (λz=>nomatch z) h
 | @tup a xs ea=>
  cases (show u=Value.ref a from rx)
  obtain⟨_,_,_,p,_⟩:=(show z1j X.prog X.w H s.heap a (.tup xs) from I.hok a _ ea)
  obtain⟨o,h1,h2,_⟩:=p;exact vI W.kitx_tuple I.kIn ⟨o,h1,h2⟩ e (λz=>nomatch z) h
 | @dK a kvs ea=>
  cases (show u=Value.ref a from rx)
  obtain⟨_,_,vs,_,p⟩:=(show z1j X.prog X.w H s.heap a (.dK kvs) from I.hok a _ ea)
  obtain⟨o,es,ep,h1,h2,_⟩:=p;exact vI W.kitx_dict I.kIn ⟨o,h1,h2.1⟩ e (λz=>nomatch z) h
 | @dT a kvs ea=>
  cases (show u=Value.ref a from rx)
  obtain⟨_,_,xs,_,o,es,ep,h1,h2,_⟩:=(show z1j X.prog X.w H s.heap a (.dT kvs) from I.hok a _ ea)
  exact vI W.kitx_dict I.kIn ⟨o,h1,h2.1⟩ e (λz=>nomatch z) h
 | @ins a C dx fs ea cl ha hn htk hm=>
  cases (show u=Value.ref a from rx)
  obtain⟨mA,O,_⟩:=zgh I.hok ea;obtain⟨od,J,_⟩:=O.look;exact vI (W.kitx_own (cl.get _) cl.hd ha hn htk hm) I.kIn J e (λz=>nomatch z) h
end
structure Room (k:Nat)(A:Around):Prop where
 hd:A.handled=none
 dp:A.depth+3*k+5<recursionLimit
 un:A.units+16*k+200<cLine
def Room.mono {j k:Nat}{A:Around}(r:Room k A)(h:j<=k):Room j A:=⟨r.hd,by have:=r.dp;lia,by have:=r.un;lia⟩
theorem Room.deeper {k:Nat}{A:Around}(r:Room (k+1) A)(env:Env):Room k (A.deeper env):=
 ⟨r.hd,by have:=r.dp;show A.depth+1+3*k+5<_;lia,by have:=r.un;show A.units+3+16*k+200<_;lia⟩
theorem Room.depth {k:Nat}{A:Around}(r:Room k A):A.depth<recursionLimit:=by have:=r.dp;lia
theorem Room.units {k:Nat}{A:Around}(r:Room k A):A.units+64<cLine:=by have:=r.un;lia
def tNil:TA:=λ_ H Q=>Q [] H
def zh0 (ta:TE)(tr:TA):TA:=λσ H Q=>ta σ H λx H1=>tr σ H1 λxs H2=>Q (x::xs) H2
section
variable {X:Cx}{e:Expr}{es:List Expr}{te:TE}{t:TA}{pos:Pos}
def ziC:PA X [] tNil:=λ_ _ _ _ H Q I h=>Calls.spliced_nil ⟨[],H,I,.nil,h⟩
def zfR (ha:PE X e te)(hr:PA X es t)(hs:autoParam (starEach (e::es) X.env=(false,eval e X.env)::starEach es X.env) jT):PA X (e::es) (zh0 te t):=by
 intro pos pins s σ H Q I h;rw[hs];refine Calls.spliced_cons (thn (ha _ s σ H _ I h) λu s1 z9 =>?_);obtain⟨x,H1,I1,r1,q1⟩:=z9;exact thn (hr pos _ s1 σ H1 _ I1 q1) λus s2 ⟨xs,H2,I2,r2,q2⟩=>⟨x::xs,H2,I2,.cons r1 r2,q2⟩
def tTup (t:TA):TE:=λσ H Q=>t σ H λxs H1=>xs.length<=sizeLine/\∀p,H1 p=none->Q (.ref p) (upd H1 p (.tup xs))
def tLst (t:TA):TE:=λσ H Q=>t σ H λxs H1=>xs.length<=sizeLine/\∀p,H1 p=none->Q (.ref p) (upd H1 p (.lst xs))
def ziq {x1}(h:PA X es t):PE X (.Tuple es x1 pos) (tTup t):=by
 intro pins s σ H Q I hq;refine wpAny_Tuple_spliced (thn (h pos _ s σ H _ I hq) λus s1 ⟨xs,H1,I1,r,z,q⟩=>⟨by rw[<- r.length];exact z,?_⟩);have hf  := I1.hok.fresh (wp _);refine⟨.ref _,upd H1 _ _,I1.laid (λb u e=>we _ e) (wp _) ?_,rfl,q _ hf⟩;exact⟨z,us,r,⟨_,wn _ rfl,rfl,_,rfl⟩,_,wn _ rfl,rfl⟩
def ziv (h:PA X es t):PE X (.List es pos) (tLst t):=by
 intro pins s σ H Q I hq;refine wpAny_List_spliced (thn (h pos _ s σ H _ I hq) λus s1 ⟨xs,H1,I1,r,z,q⟩=>⟨by rw[<- r.length];exact z,?_⟩);have hf  := I1.hok.fresh (wp _);refine⟨.ref _,upd H1 _ _,I1.laid (λb u e=>we _ e) (wp _) ?_,rfl,q _ hf⟩;exact⟨z,us,0,r,wn _ rfl⟩
end
abbrev Sp:=List V->Hp->VK->XK->Prop
abbrev CXT:=List Env->Hp->Shared->XK->Value->Shared->Prop
structure Env0 (P:Program)(w:World)(K:W.Frag)(mg:WmP)(base:Heap)(A:Around)(outer:List Env)(s:Shared)(H:Hp):Prop where
 frames:A.frames=some outer
 mod:Mod K mg base
 bs:∀b o,base.get? b=some o->s.heap.get? b=some o/\H b=none
 bsz:base.objs.size<=s.heap.objs.size
 funs:s.heap.FunFrames base outer
 frf:∀b∈frs outer,H b=none
 tbs:Tbs K H
 hok:HOk P w H s.heap
 bare:AllBare s.gens
def CE (outer:List Env)(P:Program)(w:World)(H:Hp)(s:Shared)(Q:VK)(u:Value)(s':Shared):Prop:=
 ∃v H',s'.os=s.os/\AllBare s'.gens/\Un (frs outer) [] H H' s.heap s'.heap/\HOk P w H' s'.heap/\RelV v u/\Q v H'
def CR (CX:CXT)(outer:List Env)(P:Program)(w:World)(H:Hp)(s:Shared)(Q:VK)(E:XK)(r:Result)(s':Shared):Prop:=
 match r with
 | .ok (.ret u)=>CE outer P w H s Q u s'
 | .ok _=>False
 | .error e=>CX outer H s E e s'
structure FnOk (P:Program)(w:World)(K:W.Frag)(mg:WmP)(base:Heap)(CX:CXT)(k:Nat)(f:Addr)(fd:FuncData)(ps:List Str)(sp:Sp):Prop where
 len:∀vs H Q E,sp vs H Q E->vs.length=ps.length
 run:∀(A:Around) (outer:List Env) (s:Shared) (H:Hp) (args:Args) (us:List Value) (vs:List V) (Q:VK) (E:XK),Room k A->Env0 P w K mg base A outer s H->BindsTo s fd args (ps.zip us)->Vals vs us->sp vs H Q E->
  codeAny (model P w) A (.call (.ref f) args) (CR CX outer P w H s Q E) s
def FnOk.imp {P:Program}{w:World}{K:W.Frag}{mg:WmP}{base:Heap}{CX:CXT}{k:Nat}{f:Addr}{fd:FuncData}{ps:List Str}{sp sp':Sp}(F:FnOk P w K mg base CX k f fd ps sp)
  (h:∀vs H Q E,sp' vs H Q E->sp vs H Q E):FnOk P w K mg base CX k f fd ps sp':=
 ⟨λvs H Q E q=>F.len vs H Q E (h _ _ _ _ q),λA outer s H args us vs Q E hr he hb hv hs=>F.run A _ s H _ us vs Q E hr he hb hv (h _ _ _ _ hs)⟩
section
variable {X:Cx}{pins:List (Addr × Obj)}{σ:St}{H:Hp}{s s':Shared}
def Inv.env0 (I:Inv X pins σ H s):Env0 X.prog X.w X.K X.mg X.base X.A X.stack s H:=
 ⟨I.ok.frames,I.ok.mod,I.bs,wI I.ok.bsz I.sz,I.stack,I.stkFree,I.tbs,I.hok,I.bare⟩
def Inv.after {Q:VK}{u:Value}(I:Inv X pins σ H s)(h:CE X.stack X.prog X.w H s Q u s'):EP X pins σ Q u s':=by
 obtain⟨v,H',os,bare,un,hok,r,q⟩:=h;obtain⟨hh,g,d,t,os'⟩:=s';obtain rfl:os'=s.os:=os;exact⟨v,H',I.call un hok bare (λb z=>absurd z (by simp)),r,q⟩
end
def zeZ (sp:Sp)(dvs:List V)(E:XK)(t:TA):TE:=λσ H Q=>t σ H λvs H1=>sp (vs++dvs) H1 Q E
def z5E (K:W.Frag)(fd:FuncData)(ps:List Str)(ds:List Value):Prop:=
 ∀(s:Shared) (us:List Value),K.In s.heap->(us++ds).length=ps.length->BindsTo s fd ⟨us,[]⟩ (ps.zip (us++ds))
def z5E.all {K:W.Frag}{fd:FuncData}{ps:List Str}(h:∀us:List Value,us.length=ps.length->bindArgs fd ⟨us,[]⟩=pure (ps.zip us)):z5E K fd ps []:=λs us _ hl=>by
 rw[vJ] at hl ⊢;exact .of_eq (h us hl)
def z42 (CX:CXT)(X:Cx)(E:XK):Prop:=∀(pins:List (Addr × Obj)) (σ:St) (H:Hp) (s:Shared) (e:Value) (s':Shared),Inv X pins σ H s->CX X.stack H s E e s'->X.xe e s'
section
variable {X:Cx}{CX:CXT}{k:Nat}{f C:Addr}{fd:FuncData}{ps:List Str}{sp:Sp}{dvs:List V}{ds:List Value}{E:XK}{x m:Str}{p pos apos:Pos}{e o:Expr}{es:List Expr}{ta:TE}{t:TA}
def zec {pins:List (Addr × Obj)}{σ:St}{H:Hp}{s:Shared}{Q:VK}{us:List Value}{vs:List V}(F:FnOk X.prog X.w X.K X.mg X.base CX k f fd ps sp)(hr:Room k X.A)(hb:z5E X.K fd ps ds)(hd:Vals dvs ds)(hx:z42 CX X E)
  (I:Inv X pins σ H s) (r:Vals vs us) (h:sp (vs++dvs) H Q E):wpAny (model X.prog X.w) X.A (call (.ref f) us) (EP X pins σ Q) X.xe s:=by
 have r2  := r.append hd;have hl:(us++ds).length=ps.length:=by rw[<- r2.length];exact F.len _ _ _ _ h
 refine wpAny_call (codeAny_mono (F.run X.A _ s H _ _ _ Q E hr I.env0 (hb s us I.kIn hl) r2 h) λr s' hq =>?_)
 cases r with
 | error e=>exact hx _ σ H s e s' I hq
 | ok fl=>
  cases fl with
  | ret u=>exact I.after hq
  | next=>exact False.elim hq
  | brk=>exact False.elim hq
  | cont=>exact False.elim hq
def zfO (F:FnOk X.prog X.w X.K X.mg X.base CX k f fd ps sp)(hr:Room k X.A)(hg:Gl X x)(hm:X.mg x=some (.ref f))(hk:W.keepIn X.K (.ref f)=true)(hb:z5E X.K fd ps ds)(hd:Vals dvs ds)(hx:z42 CX X E)
  (ha:PA X (e::es) t) (hdb:autoParam ((x == ("__debug__":Str))=false) jU) (he:autoParam (starEach (e::es) X.env=(false,eval e X.env)::starEach es X.env) jT) (hpl:autoParam ((backTo pos (starEach es X.env)).any (·.1)=false) jT):
  PE X (.Call (.Name x p) (e::es) [] pos) (zeZ sp dvs E t):=by
 intro pins s σ H Q I h;refine jJ (zbj I hg hm ?_ hdb);refine W.callWith_K I.ok.mod.kin hk (thn (ha pos _ s σ H _ I h) λus s1 ⟨vs,H1,I1,r,q⟩=>⟨I1.kIn,?_⟩) he hpl;exact zec F hr hb hd hx I1 r q
end
def PK (X:Cx)(kws:List Keyword)(t:TA):Prop:=
 ∀(pos:Pos) (pins:List (Addr × Obj)) (s:Shared) (σ:St) (H:Hp) (Q:List V->Hp->Prop),Inv X pins σ H s->t σ H Q->wpAny (model X.prog X.w) X.A (evalAll ((backToKw pos (keywordEach kws X.env)).map (·.2))) (AP X pins σ Q) X.xe s
structure z4m (N P:List Str)(sc:Scope):Prop where
 kind:sc.kind = .function
 co:sc.isCoroutine=false
 gen:sc.isGenerator=false
 nd:N.Nodup
 pre:N.take P.length=P
 par:∀x∈P,sc.names.lookup x=some .local\/sc.names.lookup x=some .cell
 nofree:∀y∈sc.names,y.2 ≠ .free
theorem z7A {kindOf:Str->Option NameKind}{x:Str}:∀{binds:List (Str × Value)}{m:WmP},(∀v,(x,v) ∉ binds)->bindL kindOf binds m x=m x
 | [],_,_=>rfl
 | (n,v)::r,m,h=>by
  unfold bindL;rw[z7A λw hw=>h w (wm _ hw)]
  split
  .have:x≠n:=by rintro rfl;exact h v wv
   simp[this]
  .rfl
theorem z7C {kindOf:Str->Option NameKind}{x:Str}:∀{binds:List (Str × Value)}{m:WmP},(∀v,(x,v) ∉ binds)->bindC kindOf binds m x=m x
 | [],_,_=>rfl
 | (n,v)::r,m,h=>by
  unfold bindC;rw[z7C λw hw=>h w (wm _ hw)]
  split
  .rfl
  grind
theorem z7B {kindOf:Str->Option NameKind}{x:Str}{v:Value}:∀{P:List Str}{vs:List Value}{i:Nat}{m:WmP},P.Nodup->P[i]? = some x->vs[i]? = some v->kindOf x=some .local->
  bindL kindOf (P.zip vs) m x=some v
 | [],_,_,_,_,h,_,_=>by simp at h
 | _::_,[],_,_,_,_,h,_=>by simp at h
 | p::P,w::vs,0,m,nd,h1,h2,hk=>by
  simp at h1 h2;subst h1;subst h2;show bindL _ ((p,w)::P.zip vs) m p=_;unfold bindL;rw[z7A λv hv=>(vB.mp nd).1 (jh hv).1,if_pos hk];simp
 | p::P,w::vs,i+1,m,nd,h1,h2,hk=>by
  unfold bindL;exact z7B (vB.mp nd).2 (by simpa using h1) (by simpa using h2) hk
theorem z7D {kindOf:Str->Option NameKind}{x:Str}{v:Value}:∀{P:List Str}{vs:List Value}{i:Nat}{m:WmP},P.Nodup->P[i]? = some x->vs[i]? = some v->kindOf x≠some .local->
  bindC kindOf (P.zip vs) m x=some v
 | [],_,_,_,_,h,_,_=>by simp at h
 | _::_,[],_,_,_,_,h,_=>by simp at h
 | p::P,w::vs,0,m,nd,h1,h2,hk=>by
  simp at h1 h2;subst h1;subst h2;show bindC _ ((p,w)::P.zip vs) m p=_;unfold bindC;rw[z7C λv hv=>(vB.mp nd).1 (jh hv).1,if_neg hk];simp
 | p::P,w::vs,i+1,m,nd,h1,h2,hk=>by
  unfold bindC;exact z7D (vB.mp nd).2 (by simpa using h1) (by simpa using h2) hk
def z44 (N:List Str)(vs:List V):St:=vs.map some++List.replicate (N.length - vs.length) none
def cxOf (CX:CXT)(P:Program)(w:World)(K:W.Frag)(mg:WmP)(base:Heap)(N:List Str)(qual:Str)(scope:Scope)(f:Addr)(cd:Value)(A:Around)(outer:List Env)(s:Shared)(H:Hp)(E:XK):Cx where
 prog:=P
 w:=w
 K:=K
 mg:=mg
 base:=base
 A:=A.deeper (envOfC qual scope s.heap.objs.size f cd)
 N:=N
 s₀:=s
 H₀:=H
 env:=envOfC qual scope s.heap.objs.size f cd
 outer:=outer
 stack:=envOfC qual scope s.heap.objs.size f cd::outer
 ex:=[]
 calm:=true
 fn:=λ_=>true
 pn:=[]
 xe:=λe s'=>wpAny (model P w) (A.deeper (envOfC qual scope s.heap.objs.size f cd)) (leaving (envOfC qual scope s.heap.objs.size f cd) e) (λ_ s''=>CX outer H s E e s'') (λe' s''=>CX outer H s E e' s'') s'
def z9b {sc:Scope}{n:Nat}{x:Str}(h:sc.names.lookup x=some .cell):∃c,(cellsFrom n sc.names []).lookup x=some c:=by
 have q:=W.cellsFrom_some _ n [] (.inl h);exact Option.isSome_iff_exists.mp q
def zbq {CX:CXT}{P:Program}{w:World}{K:W.Frag}{mg:WmP}{base:Heap}{N ps:List Str}{qual:Str}{scope:Scope}{f:Addr}{cd:Value}{A:Around}{outer:List Env}{s s1:Shared}{H:Hp}{E:XK}{us:List Value}{vs:List V}
  (S:z4m N ps scope) (hd:A.handled=none) (e0:Env0 P w K mg base A outer s H) (hl:vs.length=ps.length) (r:Vals vs us)
  (x:InCallC s s.heap.objs.size (bindL (envOfC qual scope s.heap.objs.size f cd).kindOf (ps.zip us) λ_=>none) (cellsFrom (s.heap.objs.size+1) scope.names []) (bindC (envOfC qual scope s.heap.objs.size f cd).kindOf (ps.zip us) λ_=>none) s1):
  Inv (cxOf CX P w K mg base N qual scope f cd A outer s H E) [] (z44 N vs) H s1:=by
 have hpl:ps.length<=N.length:=by have:=congrArg List.length S.pre;rw[uz] at this;lia
 obtain⟨h1,tk,rfl,hk⟩:=x.done;have noA:∀b:Addr,b ∉ (cxOf CX P w K mg base N qual scope f cd A outer s H E).ex:=λb z=>absurd (show b∈([]:List Addr) from z) (by simp);refine⟨⟨e0.mod,S.kind,rfl,rfl,wp _,λy z c h1 h2 =>?_,λy hy =>?_,λy c _ h =>?_,λ_=>hd,Around.frames_deeper e0.frames,.inr ⟨rfl,rfl⟩,λb z=>absurd z (noA b),e0.bs,e0.bsz,λb _ _=>noA b,λb z=>absurd z (noA b),e0.funs,e0.frf,e0.tbs⟩,
  rfl,e0.bare,Un.kept hk,⟨_,x.toInCall.ns,λi y v h1 h2 h3 =>?_⟩,λy c h=>⟨_,x.cell y c h⟩,e0.hok.fresh (wp _),λy c h =>?_,λp hp=>absurd (show p∈([]:List (Addr × Obj)) from hp) (by simp),e0.hok.kept hk,?_⟩
 .exact name_of_addr x.apart (uY h1) (uY h2)
 .have hy:scope.names.lookup y=some .cell\/scope.names.lookup y=some .free:=hy
  rcases hy with hy | hy
  .exact z9b hy
  .exact absurd rfl (S.nofree _ (uY hy))
 .exact uC (x.above y c (uY h))
 .have hi:i<vs.length:=by
   unfold z44 at h2
   by_cases hi:i<vs.length
   .exact hi
   .rw[wM (by simpa using hi)] at h2;rw[uZ] at h2
    split at h2 <;> cases h2
  have ha:vs[i]? = some v:=by
   unfold z44 at h2;rw[wC (by simpa using hi),wG] at h2
   cases e:vs[i]? with
   | none=>rw[e] at h2;cases h2
   | some a=>rw[e] at h2;cases h2;rfl
  obtain⟨u,hu,rv⟩:=r.get ha;have hp:ps[i]? = some y:=by
   rw[<- S.pre,List.getElem?_take_of_lt (by lia)];exact h1
  have ndP:ps.Nodup:=by rw[<- S.pre];exact S.nd.sublist (List.take_sublist _ _)
  refine⟨u,rv,?_⟩
  rcases S.par y (wD hp) with k | k
  .exact .inl ⟨k,z7B ndP hp hu k⟩
  .obtain⟨c,e⟩:=z9b (n:=s.heap.objs.size+1) k;refine .inr ⟨.inl k,c,e,?_⟩;have q:=x.cell y c e;rw[z7D ndP hp hu (by show scope.names.lookup y≠_;rw[k];decide)] at q;exact q
 .exact e0.hok.fresh (uC (x.above y c (uY h)))
 .unfold z44;show _=N.length;rw[wL,wd,uo];lia
def zld {CX:CXT}{P:Program}{w:World}{K:W.Frag}{mg:WmP}{base:Heap}{k:Nat}{f:Addr}{name qual:Str}{params:Arguments}{body:List Stmt}{scope:Scope}{dV kV doc pm cdv ct oc:Value}{an od:Option Addr}
  {osl:Array (Option Value)}{N ps:List Str}{sp:Sp}(lk:K.lookup f=some ⟨oc,od,.func (W.fnOf name qual params body scope dV kV doc pm an cdv ct),osl⟩) (hcd:W.codeIn K cdv qual=true) (S:z4m N ps scope)
  (len:∀vs H Q E,sp vs H Q E->vs.length=ps.length)
  (hbody:∀(A:Around) (outer:List Env) (s:Shared) (H:Hp) (vs:List V) (Q:VK) (E:XK),Room k (A.deeper (envOfC qual scope s.heap.objs.size f cdv))->sp vs H Q E->
   ∃t,PSs (cxOf CX P w K mg base N qual scope f cdv A outer s H E) body t/\t { nx:=λ_ H'=>Q .non H',rt:=Q } (z44 N vs) H):
  FnOk P w K mg base CX (k+1) f (W.fnOf name qual params body scope dV kV doc pm an cdv ct) ps sp:=by
 refine⟨len,λA outer s H args us vs Q E hr e0 hb r hsp =>?_⟩;have hl:=len _ _ _ _ hsp;have KX:K.In s.heap:=e0.mod.kin.keeps λb o e=>(e0.bs b o e).1;have lim  := e0.mod.nolimit.keeps λb o e=>(e0.bs b o e).1;have hkind:∀y∈ps.zip us,scope.names.lookup y.1=some .local\/(scope.names.lookup y.1=some .cell/\((cellsFrom (s.heap.objs.size+1) scope.names []).lookup y.1).isSome=true):=by
  rintro⟨n,v⟩ hy
  rcases S.par n (jh hy).1 with q | q
  .exact .inl q
  .exact .inr ⟨q,W.cellsFrom_some _ _ _ (.inl q)⟩
 refine codeAny_call_function hr.depth (KX _ _ lk) rfl S.co S.gen rfl (W.codeRec_of KX hcd) (hb _ _ _ _ ?_);refine wpAny_newFunctionEnv_cells S.kind hkind λenv he s1 x =>?_;subst he;refine⟨lim.keeps x.toInCall.keep,codeAny_func ?_⟩;obtain⟨t,ht,hq⟩:=hbody A outer s H vs Q E (hr.deeper _) hsp;have I:Inv (cxOf CX P w K mg base N qual scope f cdv A outer s H E) [] (z44 N vs) H s1:=zbq S hr.hd e0 hl r x;refine w6 (ht [] s1 (z44 N vs) H _ I hq) (λfl s' hs =>?_) λe s' hs=>hs;have fin:∀{σ':St}{H':Hp}{v:V}{u:Value},Inv (cxOf CX P w K mg base N qual scope f cdv A outer s H E) [] σ' H' s'->RelV v u->Q v H'->CE outer P w H s Q u s':=
  λ{σ' H' v u} J rv q=>⟨v,H',J.os,J.bare,J.base,J.hok,rv,q⟩
 cases fl with
 | ret u=>
  obtain⟨v,σ',H',J,rv,q⟩:=hs;exact fin J rv q
 | next=>
  obtain⟨σ',H',J,q⟩:=hs;exact fin (v:=V.non) J rfl q
 | brk=>
  obtain⟨_,_,_,q⟩:=hs;exact False.elim q
 | cont=>
  obtain⟨_,_,_,q⟩:=hs;exact False.elim q
section
variable {X:Cx}{x:Str}{p pos:Pos}{e:Expr}{es:List Expr}{t:TA}{id T:String}{r:List V->Hp->VK->Prop}
def tCB (r:List V->Hp->VK->Prop)(t:TA):TE:=λσ H Q=>t σ H λvs H1=>r vs H1 Q
def zd8 (hc:z0w X (.builtin id) r)(hg:Gl X x)(hm:X.mg x=none)(hv:bootBuiltins x=some (.builtin id))(ha:PA X (e::es) t)(hn:autoParam (x≠"__name__") jU)(hdb:autoParam ((x == ("__debug__":Str))=false) jU)
  (he:autoParam (starEach (e::es) X.env=(false,eval e X.env)::starEach es X.env) jT) (hpl:autoParam ((backTo pos (starEach es X.env)).any (·.1)=false) jT):PE X (.Call (.Name x p) (e::es) [] pos) (tCB r t):=by
 intro pins s σ H Q I h;refine jJ (z7f I hg hm hv ?_ hn hdb);exact PyProof.Rows.callWith_builtin1 (thn (ha pos _ s σ H _ I h) λus s1 ⟨vs,H1,I1,r1,q1⟩=>hc _ s1 σ H1 vs us Q I1 r1 q1) he hpl
def zaR (hc:z0w X (.type T) r)(hg:Gl X x)(hm:X.mg x=none)(hv:bootBuiltins x=some (.type T))(ha:PA X (e::es) t)(hn:autoParam (x≠"__name__") jU)(hdb:autoParam ((x == ("__debug__":Str))=false) jU)
  (he:autoParam (starEach (e::es) X.env=(false,eval e X.env)::starEach es X.env) jT) (hpl:autoParam ((backTo pos (starEach es X.env)).any (·.1)=false) jT):PE X (.Call (.Name x p) (e::es) [] pos) (tCB r t):=by
 intro pins s σ H Q I h;refine jJ (z7f I hg hm hv ?_ hn hdb);exact jf (thn (ha pos _ s σ H _ I h) λus s1 ⟨vs,H1,I1,r1,q1⟩=>hc _ s1 σ H1 vs us Q I1 r1 q1) he hpl
end
end L2
namespace HT
open PySem PyProof.Rows
def z0r:List Int->List Int->Bool
 | [],[]=>false
 | [],_::_=>true
 | _::_,[]=>false
 | x::xs,y::ys=>if x=y then z0r xs ys else decide (x<y)
def z0M (x y:Int)(xs ys:List Int):z0r (x::xs) (y::ys)=if x=y then z0r xs ys else decide (x<y):=rfl
def z2C:z0r [] []=false:=rfl
def z3s (y:Int)(ys:List Int):z0r [] (y::ys)=true:=rfl
def z3t (x:Int)(xs:List Int):z0r (x::xs) []=false:=rfl
def z92 (A:Around)(s:Shared)(a:Int)(t:Tok)(c:Int)(u:Tok):∃e,SeqAt.EqAt A s (.int a t) (.int c u) e/\(e=true↔a=c):=
 ⟨(a == c),SeqAt.EqAt.int_int a t c u,by simp⟩
def zcB (A:Around)(s:Shared)(a:Int)(t:Tok)(c:Int)(u:Tok)(prog:Program)(w:World)(E:WvP)(Q:WvP)(h:Q (.bool (decide (a<c))) s):
  wpAny (model prog w) A (richCompare .Lt (.int a t) (.int c u)) Q E s:=
 (PyProof.Rows.lt_int h)
section
open PySem.SeqAt
open PySem.AutoSeq1 (wpAny_loadPart')
open PySem.MeetsSeq PySem.MeetsSeq2 PySem.MeetsSeq3
def z5W (l b:Addr)(z03 items2:Array Value)(n n2:Nat)(dd dd2:Option Addr)(sl sl2:Array (Option Value))(ns ms:List Int)(hi:IntsAre z03.toList ns)(hj:IntsAre items2.toList ms):
  Meets (Builtin.«tuple.__lt__» ⟨[.ref l,.ref b],[]⟩)
   (λ_ R s=>s.heap.get? l=some { cls :=.type "tuple",dict:=dd,data :=.seq z03 n,slots:=sl }/\s.heap.get? b=some { cls :=.type "tuple",dict:=dd2,data :=.seq items2 n2,slots:=sl2 }/\
    R (.ok (.ret (.bool (z0r ns ms)))) s):=
 .of_wp λprog w A R s h=>by
  obtain⟨hp,g,d,tk,os⟩:=s;obtain⟨hl,hb,h⟩:=h;have f2:=AutoSeq1.sub_tuple_tuple;have z1:z03.size=ns.length:=by rw[<- hi.length];simp
  have z2:items2.size=ms.length:=by rw[<- hj.length];simp
  wp_walk using uU hl,uU hb,u9 _ (λrest b s'=>b.1=none/\s'=⟨hp,g,d,tk,os⟩/\∃(vs ws:List Value) (ns' ms':List Int),rest=vs.zip ws/\
   IntsAre vs ns'/\IntsAre ws ms'/\ns'.length+items2.size=ms'.length+z03.size/\R (.ok (.ret (.bool (z0r ns' ms')))) ⟨hp,g,d,tk,os⟩) _
  case turn=>
   rintro⟨y,x⟩ rest b s' ⟨hb',rfl,vs,ws,ns',ms',hz,hvi,hwi,hlen,hR⟩
   cases hvi with
   | nil=>rw[List.zip_nil_left] at hz;cases hz
   | cons a t hvi'=>
    cases hwi with
    | nil=>rw[List.zip_nil_right] at hz;cases hz
    | cons c u hwi'=>
     rw[uJ] at hz
     injection hz with hyx hrest
     injection hyx with hy hx
     subst hy hx;rw[z0M] at hR;simp only[wO] at hlen;obtain⟨e,he,hiff⟩:=z92 A.in1 ⟨hp,g,d,tk,os⟩ a t c u;refine wc (he prog w _ _ ?_)
     cases e with
     | true=>
      rw[if_pos (hiff.mp rfl)] at hR
      wp_walk
      exact⟨rfl,rfl,_,_,_,_,hrest,hvi',hwi',by lia,hR⟩
     | false=>
      rw[if_neg (λq=>absurd (hiff.mpr q) wP)] at hR;have hri:=zcB A.in1 ⟨hp,g,d,tk,os⟩ a t c u prog w
      wp_walk using hri
      exact⟨_,rfl,by simpa using hR⟩
  case fin=>
   rintro⟨b1,b2⟩ s' ⟨hb',rfl,vs,ws,ns',ms',hz,hvi,hwi,hlen,hR⟩;simp only at hb';subst hb';have hv:z0r ns' ms'=decide (z03.size<items2.size):=by
    cases hvi with
    | nil=>
     cases hwi with
     | nil=>
      simp only[v4] at hlen;rw[z2C];exact(ve (by lia)).symm
     | cons c u hw=>
      simp only[v4,wO] at hlen;rw[z3s];exact(vq (by lia)).symm
    | cons a t hv=>
     cases hwi with
     | nil=>
      simp only[v4,wO] at hlen;rw[z3t];exact(ve (by lia)).symm
     | cons c u hw=>
      rw[uJ] at hz
      cases hz
   rw[hv] at hR
   wp_walk
   exact⟨_,rfl,by simpa[Builtin.Tuple.tupleCompareSizes] using hR⟩
  case h=>
   exact⟨rfl,rfl,z03.toList,items2.toList,ns,ms,rfl,hi,hj,by lia,h⟩
end
section
variable {prog:Program}{w:World}{A:Around}{E:WvP}{s:Shared}
def z9P {l b:Addr}{z03 items2:Array Value}{ns ms:List Int}{Q:WvP}(hl:IsTup s.heap l z03)(hb:IsTup s.heap b items2)(hi:IntsAre z03.toList ns)(hj:IntsAre items2.toList ms)
  (hu:A.units<cLine) (h:Q (.bool (z0r ns ms)) s):wpAny (model prog w) A (compareOp .Lt (.ref l) (.ref b)) Q E s:=by
 obtain⟨⟨cls,dd,data,sl⟩,ho,hc,n,hd⟩:=id hl;obtain⟨⟨cls2,dd2,data2,sl2⟩,ho2,hc2,n2,hd2⟩:=id hb;subst hc hd hc2 hd2;exact richCompare_meets_room (op :=.Lt) ⟨_,ho,rfl⟩ ⟨_,ho2,rfl⟩ PySem.F.slot_tuple_lt PySem.F.entry_tuple_lt (PySem.F.args_tuple_lt_2 _ _) (z5W l b _ _ n n2 dd dd2 sl sl2 ns ms hi hj)
  ⟨ho,ho2,⟨(λx=>nomatch x),h⟩⟩ hu
def zgt {t b:Addr}{vs ws:List Value}{Q:WvP}(ht:IsTup s.heap t vs.toArray)(hb:IsTup s.heap b ws.toArray)(hv:vs≠[])
  (h1:ws=[]->Q (.ref t) s) (h2:ws≠[]->Q (.ref s.heap.objs.size) { s with heap:=s.heap.push { cls :=.type "tuple",data :=.seq (vs++ws).toArray } })
  (hsz:vs.length+ws.length<=sizeLine):wpAny (model prog w) A (binaryOp .Add (.ref t) (.ref b)) Q E s:=by
 obtain⟨⟨cls,dd,data,sl⟩,ho,hc,n,hd⟩:=id ht;obtain⟨⟨cls2,dd2,data2,sl2⟩,ho2,hc2,n2,hd2⟩:=id hb;subst hc hd hc2 hd2;have e:vs.toArray++ws.toArray=(vs++ws).toArray:=by simp
 by_cases hw:ws=[]
 .exact concat_meets ⟨_,ho,rfl⟩ ⟨_,ho2,rfl⟩ noFill_tuple_add seq_tuple_add PySem.F.slot_tuple_add PySem.F.entry_tuple_add (PySem.F.args_tuple_add_2 _ _)
   (tuple_addW1 t b _ _ n n2 dd dd2 sl sl2 (by simpa using hv) (by simp[hw])) ⟨ho,ho2,h1 hw⟩
 .refine concat_meets ⟨_,ho,rfl⟩ ⟨_,ho2,rfl⟩ noFill_tuple_add seq_tuple_add PySem.F.slot_tuple_add PySem.F.entry_tuple_add (PySem.F.args_tuple_add_2 _ _)
   (tuple_addW2 t b _ _ n n2 dd dd2 sl sl2 (by simpa using hv) (by simpa using hw) (by omega)) ⟨ho,ho2,?_⟩
  rw[e];exact h2 hw
def sIx (n d:Nat):Option Int->Nat
 | none=>d
 | some v=>if v<0 then (v+(n:Int)).toNat else min v.toNat n
def zhf (n d:Nat)(hd:d<=n)(o:Option Int):sIx n d o<=n:=by
 cases o with
 | none=>exact hd
 | some v=>
  show (if v<0 then (v+n).toNat else min _ n)<=n
  by_cases hv:v<0
  .rw[if_pos hv];lia
  .rw[if_neg hv];exact Nat.min_le_right _ _
def zbN (v:Int)(n d:Nat):(if v<0 then max (v+(n:Int)) 0 else min v (n:Int))=((sIx n d (some v):Nat):Int):=by
 show (if v<0 then max _ 0 else min v _)=(((if v<0 then (v+n).toNat else min _ n):Nat):Int)
 grind
def za0 (lo hi:Option Int)(n:Nat):Builtin.Slice.sliceAdjust lo hi 1 (n:Int)=(((sIx n 0 lo:Nat):Int),((sIx n n hi:Nat):Int)):=by
 have h1:¬ ((1:Int)<0):=by lia
 unfold Builtin.Slice.sliceAdjust;refine uf ?_ ?_
 .cases lo with
  | none=>rfl
  | some v=>exact zbN v n 0
 .cases hi with
  | none=>rfl
  | some v=>exact zbN v n n
def z9A (i j:Nat):Builtin.Slice.slicePlaces (i:Int) (j:Int) 1=j - i:=by
 unfold Builtin.Slice.slicePlaces;have h1:(1:Int) > 0:=by lia
 simp[h1,jw,Int.ediv_one]
 split <;> lia
def z5H {v:Value}{o:Option Int}{Q:Option Int->Shared->Prop}(p:IsPart v o)(h:Q o s):wpAny (model prog w) A (Builtin.Slice.slicePartIndex v) Q E s:=by
 cases p with
 | none=>exact slicePart_none h
 | int i t=>exact slicePart_int h
def z2K {sl:Addr}{vl vu:Value}{lo hi:Option Int}{n:Nat}{Q:Int × Int × Nat->Shared->Prop}(hs:s.heap.IsSliceOf sl vl vu .none)(pl:IsPart vl lo)(pu:IsPart vu hi)
  (h:Q (((sIx n 0 lo:Nat):Int),1,sIx n n hi - sIx n 0 lo) s):wpAny (model prog w) A (Builtin.Slice.sliceApplied (.ref sl) (pure (n:Int))) Q E s:=by
 obtain⟨os,hos,hcs,hds⟩:=id hs;refine wc (wc (ub hos hds (x:=vl) rfl (wc (ub hos hds (x:=vu) rfl (wc (ub hos hds rfl (wf ?_)))))));refine wc (slicePart_none ?_);refine wc (z5H pl (wc (z5H pu (wc (wf ?_)))));show wpAny _ _ (match Builtin.Slice.sliceAdjust lo hi 1 n with | (lo,hi)=>pure (lo,(1:Int),Builtin.Slice.slicePlaces lo hi 1)) _ _ s;rw[za0 lo hi n];show wpAny _ _ (pure _) _ _ s;rw[z9A];exact wf h
def zd1 (xs:Array Value)(i k:Nat):((List.range k).filterMap λ(m:Nat)=>xs[((i:Int)+(m:Int)*1).toNat]?).toArray=((xs.toList.drop i).take k).toArray:=by
 have e:(λ(m:Nat)=>xs[((i:Int)+m*1).toNat]?)=λm=>xs[i+m]? := by
  funext m
  have:(i+(m:Int)*1).toNat=i+m:=by lia
  rw[this]
 rw[e];have:=pick_run xs i k;rw[List.filterMap_map] at this;have e2:((λx=>xs[x]?) ∘ λx=>i+x)=λm=>xs[i+m]? := rfl
 simp_all
def z4g {t sl:Addr}{z03:Array Value}{vl vu:Value}{lo hi:Option Int}{Q:WvP}(ht:IsTup s.heap t z03)(hs:s.heap.IsSliceOf sl vl vu .none)(pl:IsPart vl lo)(pu:IsPart vu hi)
  (hw:¬ (sIx z03.size 0 lo=0/\sIx z03.size z03.size hi=z03.size))
  (h:Q (.ref s.heap.objs.size) { s with heap:=s.heap.push { cls :=.type "tuple",data :=.seq ((z03.toList.drop (sIx z03.size 0 lo)).take (sIx z03.size z03.size hi - sIx z03.size 0 lo)).toArray } })
  (hsz:z03.size<=sizeLine):wpAny (model prog w) A (getItem (.ref t) (.ref sl)) Q E s:=by
 have htake:sizeOk (.seq ((z03.toList.drop (sIx z03.size 0 lo)).take (sIx z03.size z03.size hi - sIx z03.size 0 lo)).toArray):=by
  show ((z03.toList.drop (sIx z03.size 0 lo)).take (sIx z03.size z03.size hi - sIx z03.size 0 lo)).toArray.size<=sizeLine;rw[wY,uz,ja,v6];lia
 have hj:sIx z03.size z03.size hi<=z03.size:=zhf _ _ (wp _) hi;obtain⟨os,hos,hcs,hds⟩:=id hs;have hTs:s.TypeIs (.ref sl) "slice":=⟨os,hos,hcs⟩
 unfold getItem
 try with_reducible refine vR ?_
 first | refine wc (wf ?_) | skip
 refine wc (wpAny_sequenceKey ht.typeIs (by decide) ?_);refine wc (vH (name:=Str.ofString "__getitem__") ht.typeIs vC
  (vV vC ht.typeIs entry_tuple_getitem ?_ (args_tuple_getitem _ _)))
 show wpAny _ _ (Builtin.Tuple.tupleItemsOf (.ref t) >>= _) _ _ s;refine wc (tupleItemsOf_ ht ?_);refine wc (jG hTs ?_);rw[if_pos (by decide)];refine wc (z2K hs pl pu ?_);have hno:¬ ((((sIx z03.size 0 lo:Nat):Int) == 0 && (1:Int) == 1 && (sIx z03.size z03.size hi - sIx z03.size 0 lo) == z03.size)=true):=by
  intro q;rw[vK,vK] at q;have q1:((sIx z03.size 0 lo:Nat):Int)=0:=eq_of_beq q.1.1;have q2:sIx z03.size z03.size hi - sIx z03.size 0 lo=z03.size:=eq_of_beq q.2;exact hw ⟨by lia,by lia⟩
 show wpAny _ _ (if (((sIx z03.size 0 lo:Nat):Int) == 0 && (1:Int) == 1 && (sIx z03.size z03.size hi - sIx z03.size 0 lo) == z03.size)=true then _ else _) _ _ s;rw[if_neg hno,zd1]
 first
  | exact wc (m:=Builtin.Tuple.tupleExact _) (wW (wf ⟨_,rfl,wf h⟩) htake)
  | exact wc (m:=Builtin.Tuple.tupleExact _) (wW (wc (wf (wf ⟨_,rfl,wf h⟩))) htake)
  | exact wc (wc (m:=Builtin.Tuple.tupleExact _) (wW (wf (wf ⟨_,rfl,wf h⟩)) htake))
  | exact wc (wc (m:=Builtin.Tuple.tupleExact _) (wW (wf ⟨_,rfl,wf h⟩) htake))
end
end HT
namespace L2
open PySem PySem.Spec PyProof.Rows
abbrev TO:=St->Hp->(Option Int->Hp->Prop)->Prop
def PO (X:Cx)(e:Option Expr)(t:TO):Prop:=
 ∀(pins:List (Addr × Obj)) (s:Shared) (σ:St) (H:Hp) (Q:Option Int->Hp->Prop),Inv X pins σ H s->t σ H Q->
  wpAny (model X.prog X.w) X.A (evalPart e X.env) (λu s'=>∃o H',Inv X pins σ H' s'/\IsPart u o/\Q o H') X.xe s
def zab:TO:=λ_ H Q=>Q none H
def zgU (t:TE):TO:=λσ H Q=>t σ H λx H1=>∃i,x = .int i/\Q (some i) H1
def z3j {ns:List Int}:∀{us:List Value},Vals (ns.map V.int) us->IntsAre us ns:=by
 induction ns with
 | nil=>intro us r;cases r;exact .nil
 | cons n ns ih=>
  intro us r
  cases r with
  | cons r1 r2=>
   obtain⟨t,e⟩:=r1;subst e;exact .cons n t (ih r2)
section
variable {X:Cx}{e:Expr}{te:TE}{lo hi:Option Expr}{tl th:TO}{pos p2:Pos}
def zfL:PO X none zab:=by
 intro pins s σ H Q I h;exact wf ⟨none,H,I,.none,h⟩
def zfK (h:PE X e te):PO X (some e) (zgU te):=by
 intro pins s σ H Q I hw;refine thn (h _ s σ H _ I hw) λu s1 z9 =>?_;obtain⟨x,H1,I1,r1,q1⟩:=z9;obtain⟨i,rfl,q⟩:=q1;obtain⟨t,rfl⟩:=r1;exact⟨some i,H1,I1,.int i t,q⟩
def SlR (X:Cx)(r:V->Option Int->Option Int->Hp->VK->Prop):Prop:=
 ∀(pins:List (Addr × Obj)) (s:Shared) (σ:St) (H:Hp) (x:V) (v vl vu:Value) (lo hi:Option Int) (sl:Addr) (Q:VK),Inv X pins σ H s->RelV x v->s.heap.IsSliceOf sl vl vu .none->IsPart vl lo->IsPart vu hi->r x lo hi H Q->
  ∃T id,typeLookup (.type T) "__getitem__"=pure (some (.builtin id))/\s.TypeIs v T/\wpAny (model X.prog X.w) X.A (getItem v (.ref sl)) (EP X pins σ Q) X.xe s
def SlR.or {r r':V->Option Int->Option Int->Hp->VK->Prop}(h:SlR X r)(h':SlR X r'):SlR X (λx lo hi H Q=>r x lo hi H Q\/r' x lo hi H Q):=by
 intro pins s σ H x v vl vu lo hi sl Q I rx hs pl pu q
 rcases q with q | q
 .exact h _ s σ H x v vl vu lo hi sl Q I rx hs pl pu q
 .exact h' _ s σ H x v vl vu lo hi sl Q I rx hs pl pu q
def tSl (r:V->Option Int->Option Int->Hp->VK->Prop)(te:TE)(tl th:TO):TE:=λσ H Q=>te σ H λx H1=>tl σ H1 λl H2=>th σ H2 λu H3=>r x l u H3 Q
def zd3 {r:V->Option Int->Option Int->Hp->VK->Prop}(hr:SlR X r)(he:PE X e te)(hl:PO X lo tl)(hu:PO X hi th):PE X (.Subscript e (.Slice lo hi none p2) pos) (tSl r te tl th):=by
 intro pins s σ H Q I h;refine Subscript_ (thn (he _ s σ H _ I h) λv s1 z9 =>?_);obtain⟨x,H1,I1,r1,q1⟩:=z9;refine wpAny_Slice (thn (hl _ s1 σ H1 _ I1 q1) λvl s2 ⟨l,H2,I2,pl,q2⟩=>thn (hu _ s2 σ H2 _ I2 q2) λvu s3 z9 =>?_);obtain⟨u,H3,I3,pu,q3⟩:=z9;refine wf ?_;have I4:Inv X _ σ H3 { s3 with heap:=s3.heap.push { cls :=.type "slice",data :=.fields #[vl,vu,.none] } }:=I3.kept λb ob q=>we _ q;obtain⟨T,id,hT,ht,hg⟩:=hr _ _ σ H3 x v vl vu l u _ Q I4 r1 (Heap.IsSliceOf.new ..) pl pu q3;exact tail_any ht hT hg (by rfl)
def cutV (xs:List V)(lo hi:Option Int):List V:=(xs.drop (HT.sIx xs.length 0 lo)).take (HT.sIx xs.length xs.length hi - HT.sIx xs.length 0 lo)
def z5m (xs:List V)(lo hi:Option Int):(cutV xs lo hi).length<=xs.length:=by
 unfold cutV;rw[uz,ja];lia
def rSlT (K:W.Frag):V->Option Int->Option Int->Hp->VK->Prop:=λx lo hi H Q=>∃a xs,x = .ref a/\SqT K H a xs/\
 ¬ (HT.sIx xs.length 0 lo=0/\HT.sIx xs.length xs.length hi=xs.length)/\∀p,H p=none->Q (.ref p) (upd H p (.tup (cutV xs lo hi)))
def zh4:SlR X (rSlT X.K):=by
 intro pins s σ H x v vl vu lo hi sl Q I rx hs pl pu h;obtain⟨a,xs,rfl,hx,hw,q⟩:=h
 cases rx
 obtain⟨its,r,ht,hz⟩:=I.tuple hx;have hlen:its.toArray.size=xs.length:=by exact r.length.symm
 refine⟨"tuple",_,vC.lookup,ht.typeIs,?_⟩;refine HT.z4g ht hs pl pu (by rw[hlen];exact hw) ?_ (by rw[hlen];exact hz);rw[hlen];refine⟨.ref _,_,I.laid (λb ob q=>we _ q) (wp _) ?_,rfl,q _ (I.hok.fresh (wp _))⟩;exact⟨wI (z5m xs lo hi) hz,_,(r.drop _).take _,IsTup.new _ _,_,wn _ rfl,rfl⟩
def rLtT (K:W.Frag):R2:=λx y H Q=>∃a b ns ms,x = .ref a/\y = .ref b/\SqT K H a (ns.map V.int)/\SqT K H b (ms.map V.int)/\Q (.bl (HT.z0r ns ms)) H
def ziO (hu:X.A.units<cLine):OpR X (compareOp .Lt) (rLtT X.K):=by
 intro pins s σ H x y v u Q I rx ry h;obtain⟨a,b,ns,ms,rfl,rfl,ha,hb,q⟩:=h
 cases rx
 cases ry
 obtain⟨its,r1,p1,_⟩:=I.tuple ha;obtain⟨its2,r2,p2,_⟩:=I.tuple hb;have i1  := z3j r1;have i2  := z3j r2;exact HT.z9P p1 p2 i1 i2 hu ⟨.bl _,H,I,rfl,q⟩
def zkd (K:W.Frag):R2:=λx y H Q=>∃a b xs ys,x = .ref a/\y = .ref b/\SqT K H a xs/\SqT K H b ys/\xs≠[]/\xs.length+ys.length<=sizeLine/\
 (ys=[]->Q (.ref a) H)/\(ys≠[]->∀p,H p=none->Q (.ref p) (upd H p (.tup (xs++ys))))
def Vals.nil_iff {xs:List V}{us:List Value}(r:Vals xs us):us=[]↔xs=[]:=by
 cases r with
 | nil=>simp
 | cons _ _=>simp
def zfW:OpR X (binaryOp .Add) (zkd X.K):=by
 intro pins s σ H x y v u Q I rx ry h;obtain⟨a,b,xs,ys,rfl,rfl,ha,hb,hx,hz,q1,q2⟩:=h
 cases rx
 cases ry
 obtain⟨its,r1,p1,_⟩:=I.tuple ha;obtain⟨its2,r2,p2,_⟩:=I.tuple hb;refine HT.zgt p1 p2 (λz=>hx (r1.nil_iff.mp z)) (λz=>⟨.ref a,H,I,rfl,q1 (r2.nil_iff.mp z)⟩) (λz =>?_) (by rw[<- r1.length, <- r2.length];exact hz);refine⟨.ref _,_,I.laid (λb ob q=>we _ q) (wp _) ?_,rfl,q2 (λw=>z (r2.nil_iff.mpr w)) _ (I.hok.fresh (wp _))⟩;exact⟨by simp_all,_,r1.append r2,IsTup.new _ _,_,wn _ rfl,rfl⟩
end
def ixN (n:Nat)(i:Int):Option Nat:=if 0<=i then (if i<n then some i.toNat else none) else if -(n:Int)<=i then some (i+n).toNat else none
def atI {α:Type}(xs:List α)(i:Int):Option α:=(ixN xs.length i).bind λj=>xs[j]?
def zbo {n:Nat}{i:Int}{j:Nat}(h:ixN n i=some j):seqIndex? i n=some j/\j<n /\ -(n:Int)<=i/\i<n:=by
 unfold ixN at h
 by_cases h0:0<=i
 .rw[if_pos h0] at h
  by_cases h1:i<n
  .rw[if_pos h1] at h;have e  := w5 h;exact⟨by rw[seqIndex_of h0 h1,e],by lia,by lia,h1⟩
  simp_all
 .rw[if_neg h0] at h
  by_cases h1 : -n<=i
  .rw[if_pos h1] at h;have e  := w5 h;exact⟨by rw[seqIndex_neg (by lia) h1,e],by lia,h1,by lia⟩
  simp_all
def z8o {α:Type}{xs:List α}{i:Int}{v:α}(h:atI xs i=some v):∃j,seqIndex? i xs.length=some j/\xs[j]? = some v/\j<xs.length /\ -(xs.length:Int)<=i/\i<xs.length:=by
 unfold atI at h
 cases e:ixN xs.length i with
 | none=>simp_all
 | some j=>
  rw[e] at h;obtain⟨h1,h2,h3,h4⟩:=zbo e;exact⟨j,h1,h,h2,h3,h4⟩
def zgw {α:Type}{xs:List α}{j:Nat}{v:α}(h:xs[j]? = some v):atI xs (j:Int)=some v:=by
 have hj  := (wu.mp h).1;have e:ixN xs.length j=some j:=by
  unfold ixN
  simp_all
 unfold atI;rw[e];exact h
def z8q (b:Expr):Prop:=∀o i,subscripted b false o i=operate [o,i] (getItem o i)
def IxR (X:Cx)(r:R2):Prop:=
 ∀(value slice:Expr) (pins:List (Addr × Obj)) (s:Shared) (σ:St) (H:Hp) (x y:V) (v u:Value) (Q:VK),Inv X pins σ H s->RelV x v->RelV y u->r x y H Q->
  subscripted slice false v u=operate [v,u] (getItem v u)->wpAny (model X.prog X.w) X.A (subscriptTail value slice v u) (EP X pins σ Q) X.xe s
def MtR (X:Cx)(id:String)(r:V->List V->Hp->VK->Prop):Prop:=
 ∀(pins:List (Addr × Obj)) (s:Shared) (σ:St) (H:Hp) (x:V) (xs:List V) (v:Value) (us:List Value) (Q:VK),Inv X pins σ H s->RelV x v->Vals xs us->r x xs H Q->
  wpAny (model X.prog X.w) X.A (call (.builtin id) (v::us)) (EP X pins σ Q) X.xe s
section
variable {X:Cx}{a b:Expr}{ta tb:TE}{pos:Pos}
def IxR.or {r r':R2}(h:IxR X r)(h':IxR X r'):IxR X (λx y H Q=>r x y H Q\/r' x y H Q):=by
 intro value slice pins s σ H x y v u Q I rx ry q hs
 rcases q with q | q
 .exact h _ _ _ s σ H x y v u Q I rx ry q hs
 .exact h' _ _ _ s σ H x y v u Q I rx ry q hs
def zkA {r:R2}(hr:IxR X r)(ha:PE X a ta)(hb:PE X b tb)(hs:z8q b):PE X (.Subscript a b pos) (tOp r ta tb):=by
 intro pins s σ H Q I h;exact Subscript_ (binT ha hb I h λv u s2 x y H2 I2 rx ry q=>hr a b _ s2 σ H2 x y v u Q I2 rx ry q (hs _ _))
def rIxL (K:W.Frag):R2:=λx y H Q=>∃p xs i v,x = .ref p/\y = .int i/\SqL K H p xs/\atI xs i=some v/\Q v H
def rIxT (K:W.Frag):R2:=λx y H Q=>∃p xs i v,x = .ref p/\y = .int i/\SqT K H p xs/\atI xs i=some v/\Q v H
def rIxS:R2:=λx y H Q=>∃z i c,x = .str z/\y = .int i/\z.length<=sizeLine/\atI z.cps.toList i=some c/\Q (.str ⟨#[c]⟩) H
def zgg:IxR X (rIxL X.K):=by
 intro value slice pins s σ H x y v u Q I rx ry h hs;obtain⟨p,xs,i,z,rfl,rfl,hq,he,q⟩:=h
 cases rx
 obtain⟨t,rfl⟩:=ry;obtain⟨its,r,pl,hz⟩:=I.list hq;obtain⟨j,h1,h2,h3,h4,h5⟩:=z8o he;obtain⟨w,ew,rw'⟩:=r.get h2;have hl:=r.length;have hn:=z55;have fin:EP X pins σ Q w s:=⟨z,H,I,rw',q⟩
 by_cases h0:0<=i
 .have hj:i.toNat=j:=by
   rw[seqIndex_of h0 h5] at h1;exact w5 h1
  exact item_listR pl.isList h0 (by lia) (by rw[hj];simpa using ew) fin hs
 .have hj:(i+(its.toArray.size:Int)).toNat=j:=by
   rw[seqIndex_neg (by lia) h4] at h1
   simp_all
  exact subscriptTail_builtinR (x:=w) pl.isList.typeIs slot_list_getitem.lookup
   (wpAny_getItem_list_neg pl.isList (by lia) (by simp_all) (by lia) (by rw[hj];simpa using ew) ⟨rfl,fin⟩) hs
def zjx:IxR X (rIxT X.K):=by
 intro value slice pins s σ H x y v u Q I rx ry h hs;obtain⟨p,xs,i,z,rfl,rfl,hq,he,q⟩:=h
 cases rx
 obtain⟨t,rfl⟩:=ry;obtain⟨its,r,pl,hz⟩:=I.tuple hq;obtain⟨j,h1,h2,h3,h4,h5⟩:=z8o he;obtain⟨w,ew,rw'⟩:=r.get h2;have hl:=r.length;have hn:=z55;have fin:EP X _ σ Q w s:=⟨z,H,I,rw',q⟩
 exact subscriptTail_builtinR pl.typeIs slot_tuple_getitem.lookup
  (getItem_tuple (j:=j) pl (by lia) (by lia) (by simp_all) (by simpa using ew) ⟨rfl,fin⟩) hs
def zjy:IxR X rIxS:=by
 intro value slice pins s σ H x y v u Q I rx ry h hs;obtain⟨z,i,c,rfl,rfl,hz,he,q⟩:=h;obtain⟨t,rfl⟩:=rx;obtain⟨t',rfl⟩:=ry;obtain⟨j,h1,h2,h3,h4,h5⟩:=z8o he;have hl:z.cps.toList.length=z.length:=by rfl
 rw[hl] at h1 h4 h5;have hn:=z55;exact tail_any (typeIs_str s z t) slot_str_getitem.lookup (getItem_str (by
  grind) (by rw[h1];simpa using h2) ⟨.str ⟨#[c]⟩,H,I.tok _,⟨_,rfl⟩,q⟩) hs
def rIx (K:W.Frag):R2:=λx y H Q=>rIxL K x y H Q\/rIxT K x y H Q\/rIxS x y H Q
def zjz:IxR X (rIx X.K):=zgg.or (zjx.or zjy)
def z9N (its:List Value)(n j:Nat)(u:Value):Obj.mapSeq (·.setIfInBounds j u) { cls :=.type "list",data :=.seq its.toArray n }={ cls :=.type "list",data :=.seq (its.set j u).toArray n }:=by
 simp[Obj.mapSeq]
theorem Inv.lst {pins:List (Addr × Obj)}{σ:St}{H:Hp}{s:Shared}{p:Addr}{xs:List V}(I:Inv X pins σ H s)(h:H p=some (.lst xs)):
  ∃(its:List Value) (n:Nat),Vals xs its/\s.heap.get? p=some { cls :=.type "list",data :=.seq its.toArray n }/\xs.length<=sizeLine:=by
 obtain⟨z,its,n,r,e⟩:=I.hok p _ h;exact⟨its,n,r,e,z⟩
def Inv.lstUpd {pins:List (Addr × Obj)}{σ:St}{H:Hp}{s:Shared}{p:Addr}{xs ys:List V}{its its':List Value}{n n':Nat}{f:Obj->Obj}(I:Inv X pins σ H s)(h:H p=some (.lst xs))
  (ho:s.heap.get? p=some { cls :=.type "list",data :=.seq its.toArray n }) (hf:f { cls :=.type "list",data :=.seq its.toArray n }={ cls :=.type "list",data :=.seq its'.toArray n' }) (r:Vals ys its') (hz:ys.length<=sizeLine) (t:Nat):
  Inv X pins σ (upd H p (.lst ys)) { s with heap:=s.heap.update p f,toks:=t }:=by
 have e:(s.heap.update p f).get? p=some { cls :=.type "list",data :=.seq its'.toArray n' }:=by
  rw[vp f ho (by rw[hf] <;> rfl),hf]
 refine I.write (by rw[h];trivial) (.inl rfl) (λb u hb q=>(vk _ _ (vF hb)).trans q) ⟨_,e⟩ ?_;exact⟨hz,its',n',r,e⟩
def zka:V->V->V->Hp->(Hp->Prop)->Prop:=λo i v H Q=>∃p xs k j,o = .ref p/\i = .int k/\H p=some (.lst xs)/\ixN xs.length k=some j/\Q (upd H p (.lst (xs.set j v)))
def zcp:PSet X zka:=by
 intro pins s σ H o i v ov iv u Q I ro ri rv h;obtain⟨p,xs,k,j,rfl,rfl,hp,hj,q⟩:=h
 cases ro
 obtain⟨t,rfl⟩:=ri;obtain⟨its,n,r,ho,hz⟩:=I.lst hp;obtain⟨h1,h2,h3,h4⟩:=zbo hj;have hl:=r.length;have hn:=z55;have I'  :=
  I.lstUpd hp ho (z9N its n j u) (r.set rv j) (by simp_all) s.toks
 by_cases h0:0<=k
 .have hk:k.toNat=j:=by
   rw[seqIndex_of h0 h4] at h1;exact w5 h1
  exact W.ki_setAt ho h0 (by lia) (by simp_all) (by rw[hk];exact⟨_,I',q⟩)
 .have hk:(k+(its.toArray.size:Int)).toNat=j:=by
   rw[seqIndex_neg (by lia) h3] at h1
   simp_all
  exact W.ki_setBack ho (by lia) (by simp_all) (by lia) (by rw[hk];exact⟨_,I',q⟩)
def z6N (lo hi:Option Int)(n:Nat):(sliceBounds lo hi none n).1=((HT.sIx n 0 lo:Nat):Int)/\(sliceBounds lo hi none n).2.1=((HT.sIx n n hi:Nat):Int)/\(sliceBounds lo hi none n).2.2=1:=by
 refine⟨?_,?_,rfl⟩
 .cases lo with
  | none=>rfl
  | some i=>
   simp[sliceBounds,HT.sIx,Option.getD_none,show (1:Int) > 0 by decide,jw]
   by_cases h:i<0
   .simp only[h,jw] <;> lia
   .simp only[h,u3] <;> lia
 .cases hi with
  | none=>rfl
  | some i=>
   simp[sliceBounds,HT.sIx,Option.getD_none,show (1:Int) > 0 by decide,jw]
   by_cases h:i<0
   .simp only[h,jw] <;> lia
   .simp only[h,u3] <;> lia
def z60 (its:List Value)(lo hi:Option Int):slicePick its.toArray lo hi none=((its.drop (HT.sIx its.length 0 lo)).take (HT.sIx its.length its.length hi - HT.sIx its.length 0 lo)).toArray:=by
 obtain⟨h1,h2,h3⟩:=z6N lo hi _;unfold slicePick;rw[h1,h2,h3];simp only[sliceRange_one,pick_run,wY] <;> rfl
def rSlL (K:W.Frag):V->Option Int->Option Int->Hp->VK->Prop:=λx lo hi H Q=>∃a xs,x = .ref a/\SqL K H a xs/\∀p,H p=none->Q (.ref p) (upd H p (.lst (cutV xs lo hi)))
def zf0:SlR X (rSlL X.K):=by
 intro pins s σ H x v vl vu lo hi sl Q I rx hs pl pu h;obtain⟨a,xs,rfl,hx,q⟩:=h
 cases rx
 obtain⟨its,r,ht,hz⟩:=I.list hx;have hlen:=r.length;refine⟨"list",_,slot_list_getitem.lookup,ht.isList.typeIs,?_⟩;refine wpAny_getItem_list_slice ht.isList hs pl pu .none (by simp) ?_ (by simp_all);rw[z60, <- hlen];refine⟨.ref _,_,I.laid (λb ob q=>we _ q) (wp _) ?_,rfl,q _ (I.hok.fresh (wp _))⟩;exact⟨wI (z5m xs lo hi) hz,_,0,(r.drop _).take _,wn _ rfl⟩
def z7z:z0w X (.builtin "len") (λxs H Q=>∃p ys,xs=[.ref p]/\(SqL X.K H p ys\/SqT X.K H p ys)/\Q (.int ys.length) H):=by
 intro pins s σ H xs us Q I r h;obtain⟨p,ys,rfl,hq,q⟩:=h;obtain⟨u,rfl,rx⟩:=z2O r
 cases rx
 have hn:=z55
 rcases hq with hq | hq
 .obtain⟨its,r',pl,hz⟩:=I.list hq;have hlen:=r'.length;exact Calls.call_len_list pl.isList (by simp only[wY] <;> lia) ⟨.int _,H,I.tok _,⟨s.toks+1,by rw[wY,hlen]⟩,q⟩
 .obtain⟨its,r',pl,hz⟩:=I.tuple hq;have hlen:=r'.length;exact len_tuple pl (by simp only[wY] <;> lia) ⟨.int _,H,I.tok _,⟨s.toks+1,by rw[wY,hlen]⟩,q⟩
def z7y:z0w X (.builtin "len") (λxs H Q=>∃z,xs=[.str z]/\z.length<=sizeLine/\Q (.int z.length) H):=by
 intro pins s σ H xs us Q I r h;obtain⟨z,rfl,hz,q⟩:=h;obtain⟨u,rfl,t,rfl⟩:=z2O r;have hn:=z55;exact len_str (by lia) ⟨.int _,H,I.tok _,⟨_,rfl⟩,q⟩
def z0w.or {f:Value}{r r':List V->Hp->VK->Prop}(h:z0w X f r)(h':z0w X f r'):z0w X f (λxs H Q=>r xs H Q\/r' xs H Q):=by
 intro pins s σ H xs us Q I rs q
 rcases q with q | q
 .exact h _ s σ H xs us Q I rs q
 .exact h' _ s σ H xs us Q I rs q
def z7x:z0w X (.type "list") (λxs H Q=>∃p ys,xs=[.ref p]/\(SqL X.K H p ys\/SqT X.K H p ys)/\∀l,H l=none->Q (.ref l) (upd H l (.lst ys))):=by
 intro pins s σ H xs us Q I r h;obtain⟨p,ys,rfl,hq,q⟩:=h;obtain⟨u,rfl,rx⟩:=z2O r
 cases rx
 have fin:∀(its:List _),Vals ys its->ys.length<=sizeLine->∀(h':Heap) (c':Nat),(∀b o',s.heap.get? b=some o'->h'.get? b=some o')->
   h'.get? _=some _->EP X _ σ Q _ _:=λits r' hz h' c' kp e=>
  ⟨.ref _,_,I.laid (t':=s.toks) kp (wp _) (show z1j _ X.w _ h' _ (.lst ys) from ⟨hz,its,c',r',e⟩),rfl,q _ (I.hok.fresh (wp _))⟩
 rcases hq with hq | hq
 .obtain⟨its,r',pl,hz⟩:=I.list hq;have hlen:=r'.length;obtain⟨o,ho,hc,n,hd⟩:=pl.isList;exact call_list_seq p (.inl rfl) ho hc hd (λh' c' kp e=>fin its r' hz h' c' kp e) (by simp_all)
 .obtain⟨its,r',pl,hz⟩:=I.tuple hq;have hlen:=r'.length;obtain⟨o,ho,hc,n,hd⟩:=pl;exact call_list_seq p (.inr rfl) ho hc hd (λh' c' kp e=>fin its r' hz h' c' kp e) (by simp_all)
def z6A:z0w X (.type "tuple") (λxs H Q=>∃p ys,xs=[.ref p]/\((SqL X.K H p ys/\∀l,H l=none->Q (.ref l) (upd H l (.tup ys)))\/(SqT X.K H p ys/\Q (.ref p) H))):=by
 intro pins s σ H xs us Q I r h;obtain⟨p,ys,rfl,h⟩:=h;obtain⟨u,rfl,rx⟩:=z2O r
 cases rx
 rcases h with ⟨hq,q⟩ | ⟨hq,q⟩
 .obtain⟨its,r',pl,hz⟩:=I.list hq;have hlen:=r'.length;refine call_tuple_list pl.isList (λh' kp =>?_) (by grind);have I1  := I.kept (t':=s.toks) kp;have I2  :=
   I1.laid (t':=s.toks) (λb o e=>we _ e) (wp _) (show z1j _ X.w _ _ _ (.tup ys) from ⟨hz,its,r',IsTup.new _ _,_,wn _ rfl,rfl⟩)
  exact⟨.ref _,_,I2,rfl,q _ (I1.hok.fresh (wp _))⟩
 .obtain⟨its,r',pl,hz⟩:=I.tuple hq;exact call_tuple_same pl ⟨.ref p,H,I,rfl,q⟩
def tyV (K:W.Frag)(T:String)(x:V)(H:Hp):Prop:=match x with
 | .str _=>T="str"
 | .int _=>T="int"
 | .ref p=>(T="list"/\∃xs,SqL K H p xs)\/(T="tuple"/\∃o,K.lookup p=some o/\o.cls = .type "tuple"/\o.dict=none)\/
   (T="dict"/\((∃kvs,H p=some (.dK kvs))\/∃kvs,H p=some (.dT kvs)))\/(T="set"/\∃S n,H p=some (.set S n))
 | _=>False
def ze1 {pins:List (Addr × Obj)}{σ:St}{H:Hp}{s:Shared}{T:String}{x:V}{v:Value}(I:Inv X pins σ H s)(r:RelV x v)(ty:tyV X.K T x H):
  s.TypeIs v T/\∀a,v = .ref a->∃ob,s.heap.get? a=some ob/\ob.dict=none:=by
 cases x with
 | str z=>
  obtain⟨t,rfl⟩:=r
  cases (ty)
  exact⟨typeIs_str s z t,λ_ e=>nomatch e⟩
 | int i=>
  obtain⟨t,rfl⟩:=r
  cases (ty)
  exact⟨typeIs_int s i t,λ_ e=>nomatch e⟩
 | ref p=>
  cases r
  rcases ty with ⟨rfl,xs,hq⟩ | ⟨rfl,o,hk,hc,hd⟩ | ⟨rfl,hk⟩ | ⟨rfl,S,n,hk⟩
  .obtain⟨its,_,pl,_⟩:=I.list hq;refine⟨pl.isList.typeIs,λa e =>?_⟩
   cases e
   obtain⟨o,n,e,c,hd,_⟩:=pl;exact⟨o,e,hd⟩
  .refine⟨⟨o,I.kIn p o hk,hc⟩,λa e =>?_⟩
   cases e
   exact⟨o,I.kIn _ o hk,hd⟩
  .have z:∃o,s.heap.get? p=some o/\o.ExactDict:=by
    rcases hk with ⟨kvs,hk⟩ | ⟨kvs,hk⟩
    .obtain⟨_,_,_,_,o,_,_,e,ex,_⟩:=I.hok p _ hk;exact⟨o,e,ex⟩
    .obtain⟨_,_,_,_,o,_,_,e,ex,_⟩:=I.hok p _ hk;exact⟨o,e,ex⟩
   obtain⟨o,e,ex⟩:=z;refine⟨⟨o,e,ex.1⟩,λa e2 =>?_⟩
   cases e2
   exact⟨o,e,ex.2.1⟩
  .obtain⟨o,_,_,_,e,ex,_⟩:=I.hok p _ hk;refine⟨⟨o,e,ex.1⟩,λa e2 =>?_⟩
   cases e2
   exact⟨o,e,ex.2.1⟩
 | _=>exact False.elim ty
def tBM0 (K:W.Frag)(T:String)(r:V->List V->Hp->VK->Prop)(to:TE):TE:=λσ H Q=>to σ H λx H1=>tyV K T x H1/\r x [] H1 Q
def tBM (K:W.Frag)(T:String)(r:V->List V->Hp->VK->Prop)(to:TE)(t:TA):TE:=λσ H Q=>to σ H λx H1=>tyV K T x H1/\t σ H1 λxs H2=>r x xs H2 Q
variable {o e:Expr}{es:List Expr}{to:TE}{t:TA}{name:Str}{apos cpos:Pos}{T id:String}{r:V->List V->Hp->VK->Prop}
def ziy (pa:PlainAttrs T)(slot:Slot T name id)(hty:typeOf (.builtin id)=pure (.type "method_descriptor"))(hm:MtR X id r)(ho:PE X o to)
  (hbase:autoParam (attributeBase o name X.env (eval o X.env)=eval o X.env) jT) (hline:autoParam ((apos.endLine == cpos.line)=true) jT):PE X (.Call (.Attribute o name apos) [] [] cpos) (tBM0 X.K T r to):=by
 intro pins s σ H Q I h;refine wpAny_Call_method0_late hbase hline (thn (ho _ s σ H _ I h) λv s1 z9 =>?_);obtain⟨x,H1,I1,r1,ty,q1⟩:=z9;obtain⟨h1,h2⟩:=ze1 I1 r1 ty;exact⟨T,id,pa,slot,hty,h1,h2,uE rfl (PySem.evalArgs_none (hm _ s1 σ H1 x [] v [] Q I1 r1 .nil q1))⟩
def zkC (pa:PlainAttrs T)(slot:Slot T name id)(hty:typeOf (.builtin id)=pure (.type "method_descriptor"))(hm:MtR X id r)(ho:PE X o to)(ha:PA X (e::es) t)
  (hbase:autoParam (attributeBase o name X.env (eval o X.env)=eval o X.env) jT)
  (hfew:autoParam (((backTo cpos (starEach (e::es) X.env)).all (λx => !x.1) && (backToKw cpos (keywordEach [] X.env)).all (λx=>x.1.isSome)
   && decide ((e::es).length+([]:List Keyword).length+(if ([]:List Keyword).isEmpty then 0 else 1)<30))=true) jT)
  (hline:autoParam ((apos.endLine == cpos.line)=true) jT) (hs:autoParam (starEach (e::es) X.env=(false,eval e X.env)::starEach es X.env) jT) (hplain:autoParam ((backTo cpos (starEach es X.env)).any (·.1)=false) jT):
  PE X (.Call (.Attribute o name apos) (e::es) [] cpos) (tBM X.K T r to t):=by
 intro pins s σ H Q I h;refine wpAny_Call_method_late hbase hfew hline rfl (thn (ho _ s σ H _ I h) λv s1 z9 =>?_);obtain⟨x,H1,I1,r1,ty,q1⟩:=z9;obtain⟨h1,h2⟩:=ze1 I1 r1 ty;refine⟨T,id,pa,slot,hty,h1,h2,?_⟩;have hA:=ha cpos _ s1 σ H1 _ I1 q1;rw[hs] at hA ⊢;refine uE (by show (false || (backTo _ _).any _)=false;rw[hplain] <;> rfl) (Calls.evalArgs_plain ?_);exact thn hA λus s2 ⟨vs,H2,I2,r2,q2⟩=>hm _ s2 σ H2 x vs v us Q I2 r1 r2 q2
end
def MtM (X:Cx)(id:String)(r:V->List V->Hp->VK->Prop):Prop:=
 ∀(pins:List (Addr × Obj)) (s:Shared) (σ:St) (H:Hp) (x:V) (xs:List V) (v:Value) (us:List Value) (Q:VK),Inv X pins σ H s->RelV x v->Vals xs us->r x xs H Q->
  wpAny (model X.prog X.w) X.A (call (.builtin id) (v::us)) (EP X pins σ Q) X.xe s
def Vals.one:∀{x:V}{us:List Value},Vals [x] us->∃u,us=[u]/\RelV x u
 | _,_,.cons r .nil=>⟨_,rfl,r⟩
def Vals.zero:∀{us:List Value},Vals [] us->us=[]
 | _,.nil=>rfl
theorem Vals.dropLast {xs:List V}{us:List Value}(h:Vals xs us):Vals xs.dropLast us.dropLast:=by
 induction h with
 | nil=>exact .nil
 | cons r t ih=>
  cases t with
  | nil=>exact .nil
  | cons q t'=>exact .cons r ih
theorem Vals.reverse {xs:List V}{us:List Value}(h:Vals xs us):Vals xs.reverse us.reverse:=by
 induction h with
 | nil=>exact .nil
 | cons r t ih=>rw[ui,ui];exact Vals.append ih (.cons r .nil)
def zgA {α:Type}(l:List α):l.eraseIdx (l.length - 1)=l.dropLast:=by
 grind
section
variable {X:Cx}{pins:List (Addr × Obj)}{σ:St}{H:Hp}{s:Shared}{l b:Addr}{xs ys zs:List V}
def Inv.lset {its its':List Value}{n:Nat}{f:Array Value->Array Value}{t':Nat}(I:Inv X pins σ H s)(hH:H l=some (.lst xs))
  (e:s.heap.get? l=some { cls :=.type "list",data :=.seq its.toArray n }) (hf:f its.toArray=its'.toArray) (hv:Vals ys its') (hz:ys.length<=sizeLine):
  Inv X pins σ (upd H l (.lst ys)) { s with heap:=s.heap.update l (Obj.mapSeq f),toks:=t' }:=by
 have q:=PySem.IsL.update e f;rw[hf] at q;refine I.write (by rw[hH];exact trivial) (.inl rfl) (λb' u hb hu=>(vk _ _ (vF hb)).trans hu) ⟨_,q⟩ ?_;exact⟨hz,its',_,hv,q⟩
def Inv.lnew {its:List Value}{t':Nat}(I:Inv X pins σ H s)(hv:Vals ys its)(hz:ys.length<=sizeLine):
  Inv X pins σ (upd H s.heap.objs.size (.lst ys)) { s with heap:=s.heap.push { cls :=.type "list",data :=.seq its.toArray },toks:=t' }:=
 I.laid (λ_ _ q=>we _ q) (wp _) ⟨hz,its,0,hv,wn _ rfl⟩
theorem Inv.fresh (I:Inv X pins σ H s):H s.heap.objs.size=none:=I.hok.fresh (wp _)
def Inv.lstM (I:Inv X pins σ H s)(hH:H l=some (.lst xs)):xs.length<=sizeLine/\∃(its:List Value) (n:Nat),Vals xs its/\xs.length=its.length/\s.heap.get? l=some { cls :=.type "list",data :=.seq its.toArray n }:=by
 obtain⟨z,its,n,r,e⟩:=I.hok l _ hH;exact⟨z,its,n,r,r.length,e⟩
def zdl {n:Nat}(h:n<=sizeLine):Builtin.List.listTooLong n=false:=by
 exact ve (by lia)
end
section
variable {X:Cx}
def zax:V->List V->Hp->VK->Prop:=λx vs H Q=>∃l xs y,x = .ref l/\vs=[y]/\H l=some (.lst xs)/\xs.length<sizeLine/\Q .non (upd H l (.lst (xs++[y])))
def zb9:MtM X "list.append" zax:=by
 intro pins s σ H x vs v us Q I rx rv h;obtain⟨l,xs,y,rfl,rfl,hH,hz,q⟩:=h
 cases rx
 obtain⟨u,rfl,ru⟩:=rv.one;obtain⟨z,its,n,r,hl,e⟩:=I.lstM hH;refine call_meets F.slot_list_append ⟨_,e,rfl⟩ F.entry_list_append (F.args_list_append_2 _ _) (PySem.list_append l _ n u (by simp_all)) ⟨e,?_⟩;refine⟨.non,_,I.lset hH e (by simp) (r.append (.cons ru .nil)) ?_,rfl,q⟩;rw[wL,ji];lia
def zfe:V->List V->Hp->VK->Prop:=λx vs H Q=>∃l b xs zs,x = .ref l/\vs=[.ref b]/\H l=some (.lst xs)/\H b=some (.lst zs)/\xs.length+zs.length<=sizeLine/\Q .non (upd H l (.lst (xs++zs)))
def zb8:MtM X "list.extend" zfe:=by
 intro pins s σ H x vs v us Q I rx rv h;obtain⟨l,b,xs,zs,rfl,rfl,hH,hB,hz,q⟩:=h
 cases rx
 obtain⟨u,rfl,ru⟩:=rv.one
 cases ru
 obtain⟨z,its,n,r,hl,e⟩:=I.lstM hH;obtain⟨z2,its2,n2,r2,hl2,e2⟩:=I.lstM hB;have hsz:its.toArray.size+its2.toArray.size<=sizeLine:=by grind
 have hlong:¬ (!its.toArray.isEmpty && Builtin.List.listTooLong (its.toArray.size+its2.toArray.size))=true:=by
  rw[zdl hsz]
  simp_all
 refine call_meets F.slot_list_extend ⟨_,e,rfl⟩ F.entry_list_extend (F.args_list_extend_2 _ _)
  (AutoSeq1.list_extend_list_list_0 l _ n b _ n2 hlong (by lia) (by lia)) ⟨e,e2,?_⟩
 refine⟨.non,_,I.lset hH e (by simp) (r.append r2) ?_,rfl,q⟩
 simp_all
def rPop:V->List V->Hp->VK->Prop:=λx vs H Q=>∃l xs y,x = .ref l/\vs=[]/\H l=some (.lst xs)/\xs[xs.length - 1]? = some y/\Q y (upd H l (.lst xs.dropLast))
def zjj:MtM X "list.pop" rPop:=by
 intro pins s σ H x vs v us Q I rx rv h;obtain⟨l,xs,y,rfl,rfl,hH,hy,q⟩:=h
 cases rx
 have hus:=rv.zero;subst hus;obtain⟨z,its,n,r,hl,e⟩:=I.lstM hH;obtain⟨u,hu,ru⟩:=r.get hy;have hy':its.toArray[its.toArray.size - 1]? = some u:=by
  simp_all
 refine call_meets F.slot_list_pop ⟨_,e,rfl⟩ F.entry_list_pop (F.args_list_pop_1 _) (MeetsSeq.list_pop_last l _ n u hy' (by simp_all)) ⟨e,?_⟩;refine⟨y,_,I.lset hH e ?_ r.dropLast ?_,ru,q⟩
 .simp_all
 .rw[List.length_dropLast];lia
end
end L2
namespace Att
open PySem PySem.W PySem.Calls PyProof.Rows
def z5c {P:Params}{h:Heap}:∀(ns:List Int) (vs:List Value),WellAll P h vs (ns.map WData.int)->IntsAre vs ns:=by
 intro ns
 induction ns with
 | nil=>
  intro vs w
  cases w
  exact .nil
 | cons n ns ih=>
  intro vs w
  cases w with
  | cons a b=>
   cases a
   exact .cons _ _ (ih _ b)
def zaj {l:OpenLaw}{n:Nat}(hn:l.most=some n){P:Params}{h:Heap}{args:List WData}{vals:List Value}
  (hpre:l.row.toRowW.claim.pre args=true) (hwl:WellAll P h vals args):
  ∃a vs ns,vals=[Value.ref a]/\args=[WData.list (ns.map WData.int)]/\h.get? a=some { cls :=.type "list",data :=.seq vs.toArray }/\IntsAre vs ns/\ns.length<=n:=by
 have hsh:WShape.hasAll [] _ _=true:=(pre_splitW hpre).1;have hc:l.pre.holds [] _=true:=(pre_splitW hpre).2;obtain⟨d,r,rfl,h1,h2⟩:=hasAllW_cons hsh;obtain rfl:=hasAllW_nil h2;obtain⟨xs,rfl,h3⟩:=hasW_list h1;obtain⟨ns,rfl⟩:=items_int h3;have hlen:ns.length<=n:=by
  unfold OpenLaw.pre at hc;have h4  := by
   have h4:=(holds_andW hc).1;rw[hn] at h4;exact h4
  have h5:=condW_of h4 (w_not (w_lt w_lit (w_len_list (w_arg rfl))))
  grind
 cases hwl with
 | cons w1 w2=>
  cases w2
  cases w1 with
  | list ho hall=>exact⟨_,_,ns,rfl,rfl,ho,z5c ns _ hall,hlen⟩
def zaD (l:OpenLaw)(args:List WData):l.row.toRowW.claim.post args (.bool true) args=true:=
 postW_of
  (rfl)
  (w_eq_bool (w_res rfl) w_lit) rfl
def z8n {l:OpenLaw}{n:Nat}{q:Program}{loose:List Str}{XP:(Str->Option Value)->Heap->Prop}{YP:World->Heap->Prop}{d:DefRec}
  (hn:l.most=some n) (hdf:d.params.defaults=[])
  (call:∀(w:World) (s₀ s₁:Shared) (mg mb:WmP) (fa:Addr) (o:Obj) (pm cd doc:Value) (a:Addr) (vs:List Value) (ns:List Int),
   Ground q loose [] XP w s₀ mg mb s₁.heap->YP w s₁.heap->
   s₁.heap.get? fa=some o->o.data = .func (docDef d.name d.params d.body d.scope pm cd doc)->s₁.heap.CodeRec cd d.name->mg d.name=some (.ref fa)->
   s₁.heap.get? a=some { cls :=.type "list",data :=.seq vs.toArray }->IntsAre vs ns->ns.length<=n->s₁.gens = #[]->
   codeAny (model l.prog w) callerA (.call (.ref fa) ⟨[.ref a],[]⟩) (λr s'=>r = .ok (.ret (.bool true))/\OldK s₁.heap s'.heap/\s'.os=s₁.os/\AllBare s'.gens) s₁):
  WalkO q loose XP YP l.row.toRowW d [] (λf vs=>PySem.call f vs):=by
 intro w s₀ s₁ mg mb G Y fa o pm cd doc dV kV ho hd hcd hD hmg hg args vals as hpre hlay hrd hwl hlo;obtain rfl:dV = .none:=Dflts.none hD hdf;obtain rfl:kV = .none:=Dflts.noKw hD;obtain⟨a,vs,ns,rfl,rfl,hobj,hints,hlen⟩:=zaj hn hpre hwl;refine enter_call (codeAny_mono (call w _ _ mg mb fa o pm cd doc a vs ns G Y ho (fd_plain hd) hcd hmg hobj hints hlen hg) λr s' hq =>?_);obtain⟨rfl,h2,h3,h4⟩:=hq;exact⟨.inl ⟨.bool _,.bool _,[],rfl,λ_=>rfl,.bool _,zaD l _,λ_=>⟨List.Pairwise.nil,λ_ hm=>(nomatch hm)⟩⟩,h2,h3,h4⟩
end Att
namespace L2
open PySem PySem.Spec PyProof.Rows
theorem z6G:∀{vs:List Value}{ns:List Int},IntsAre vs ns->Vals (ns.map V.int) vs
 | _,_,.nil =>.nil
 | _,_,.cons n t h =>.cons ⟨t,rfl⟩ (z6G h)
theorem zex {α β:Type}[BEq α][LawfulBEq α]{a:α}{b:β}:∀{l:List (α × β)},l.lookup a=some b->(a,b)∈l
 | [],h=>by cases h
 | (c,d)::r,h=>by
  rw[vL] at h
  cases e:a == c with
  | true=>simp_all
  | false=>rw[e] at h;exact .tail _ (zex h)
def z5F {K:W.Frag}{c P:Addr}(h:zaa K c=some P):K.lookup P=none/\∃o vs,K.lookup c=some o/\o.cls = .type "code"/\o.data = .fields vs/\vs[11]? = some (.ref P):=by
 unfold zaa at h
 split at h
 .rename_i vs _ hk
  split at h
  .rename_i P' h11
   split at h
   .rename_i hn
    cases h
    exact⟨by simpa using hn,_,vs,hk,rfl,rfl,h11⟩
   .cases h
  .cases h
 .cases h
def z6I {K:W.Frag}{P:Addr}{t:Nat × Nat × Str}(h:(tsOf K).lookup P=some t):∃c,zaa K c=some P:=by
 obtain⟨p,_,e⟩:=ux.mp (zex h)
 split at e
 .split at e
  .rename_i c _ _
   cases q:zaa K c with
   | none=>simp_all
   | some P'=>grind
  .cases e
 .cases e
def zdr {P:Program}{w:World}{K:W.Frag}{mg mb:WmP}{CX:CXT}{k:Nat}{fa a:Addr}{fd:FuncData}{x:Str}{sp:Sp}{s₁:Shared}{vs:List Value}{ns:List Int}
  (KX:K.In s₁.heap) (hns:s₁.heap.Ns mainGlobals mg) (hb:s₁.heap.Ns builtinsNs mb) (hbb:∀x:Str,x≠"__name__"->mb x=bootBuiltins x) (hlim:s₁.heap.NoLimit) (hbm:BmAt mg s₁.heap) (hg:s₁.gens = #[])
  (ha:s₁.heap.get? a=some { cls :=.type "list",data :=.seq vs.toArray }) (hi:IntsAre vs ns) (hl:ns.length<=sizeLine) (hr:Room k callerA)
  (hT:∀P t,(tsOf K).lookup P=some t->s₁.heap.get? P=some { cls :=.none,data :=.fields #[] })
  (F:∀base:Heap,K.In base->base.Ns mainGlobals mg->FnOk P w K mg base CX k fa fd [x] sp) (hbind:∀(s:Shared) (u:Value),BindsTo s fd ⟨[u],[]⟩ [(x,u)])
  (hsp:∀H:Hp,SqL K H a (ns.map V.int)->sp [.ref a] H (λv _=>v = .bl true) λ_ _ _=>False)
  (hCX:∀H e s',CX [] H s₁ (λ_ _ _=>False) e s'->False):
  codeAny (model P w) callerA (.call (.ref fa) ⟨[.ref a],[]⟩) (λr s'=>r = .ok (.ret (.bool true))/\OldK s₁.heap s'.heap/\s'.os=s₁.os/\AllBare s'.gens) s₁:=by
 have rv:=z6G hi;have lenV:=hi.length;have aT:(tsOf K).lookup a=none:=by
  cases q:(tsOf K).lookup a with
  | none=>rfl
  | some t=>
   have e:=hT a t q;rw[ha] at e;cases e
 have core:∀u:Option HO,SqL K (λb=>if b=a then u else ((tsOf K).lookup b).map λt =>.tbl (encT t)) a (ns.map V.int)->((u=none)\/(K.lookup a=none/\u=some (.frz { cls :=.type "list",data :=.seq vs.toArray } (.lst (ns.map V.int)))))->
   codeAny (model P w) callerA (.call (.ref fa) ⟨[.ref a],[]⟩) (λr s'=>r = .ok (.ret (.bool true))/\OldK s₁.heap s'.heap/\s'.os=s₁.os/\AllBare s'.gens) s₁:=by
  intro u hS hu;generalize hH:(λb=>if b=a then u else ((tsOf K).lookup b).map λt=>HO.tbl (encT t):Hp)=H at hS;have at_:∀{b v},H b=some v->(b=a/\u=some v)\/(b≠a/\∃t,(tsOf K).lookup b=some t/\v = .tbl (encT t)):=λ{b v} e=>by
   rw[<- hH] at e
   by_cases hb:b=a
   .exact .inl ⟨hb,by rw[<- e];exact(if_pos hb).symm⟩
   .have e':=(if_neg hb).symm.trans e
    cases q:(tsOf K).lookup b with
    | none=>rw[q] at e';cases e'
    | some t=>rw[q] at e';cases e';exact .inr ⟨hb,t,rfl,rfl⟩
  have hok:HOk P w H s₁.heap:=λb v e=>by
   rcases at_ e with ⟨rfl,z⟩ | ⟨_,t,q,rfl⟩
   .rcases hu with hu | ⟨_,hu⟩
    .rw[hu] at z;cases z
    .rw[hu] at z
     cases z
     exact⟨ha,by rw[wd];exact hl,vs,_,rv,ha⟩
   .exact .inl (hT b t q)
  have noA:∀{b:Addr}{o:Obj}{es:Array DictEntry}{ep:Nat},s₁.heap.get? b=some o->o.data = .dict es ep->H b=none:=λ{b o es ep} e d=>by
   cases q:H b with
   | none=>rfl
   | some v=>
    rcases at_ q with ⟨rfl,_⟩ | ⟨_,t,q,_⟩
    .rw[ha] at e;cases e;have d':Data.seq vs.toArray _=Data.dict es ep:=d
     cases d'
    .have:=hT b t q;rw[e] at this;cases this;have d':Data.fields _=Data.dict es ep:=d
     cases d'
  have noP:∀{b:Addr}{o:Obj},s₁.heap.get? b=some o->o.data = .plain->H b=none:=λ{b o} e d=>by
   cases q:H b with
   | none=>rfl
   | some v=>
    rcases at_ q with ⟨rfl,_⟩ | ⟨_,t,q,_⟩
    .rw[ha] at e;cases e;have d':Data.seq vs.toArray _=Data.plain:=d
     cases d'
    .have:=hT b t q;rw[e] at this;cases this;have d':Data.fields _=Data.plain:=d
     cases d'
  have nsK:∀{b:Addr}{m:WmP},s₁.heap.Ns b m->(hidT s₁.heap H).Ns b m:=λ{b m} ⟨o,es,ep,e,d,r⟩=>⟨o,es,ep,z6r e (noA e d),d,r⟩
  have hKb:K.In (hidT s₁.heap H):=λb o e=>z6r (KX b o e) (by
   cases q:H b with
   | none=>rfl
   | some v=>
    rcases at_ q with ⟨rfl,z⟩ | ⟨_,t,q,_⟩
    .rcases hu with hu | ⟨hu,_⟩
     .rw[hu] at z;cases z
     .rw[hu] at e;cases e
    .obtain⟨c,hc⟩:=z6I q;rw[(z5F hc).1] at e;cases e)
  have hM:Mod K mg (hidT s₁.heap H):=⟨hKb,nsK hns,⟨mb,nsK hb,hbb⟩,let ⟨mc,h1,h2⟩:=hlim;⟨mc,nsK h1,h2⟩,let ⟨bm,ob,b1,b2,b3,b4,b5,b6⟩:=hbm;⟨bm,ob,b1,b2,z6r b3 (noP b3 b6),b4,b5,b6⟩⟩
  have e0:Env0 P w K mg (hidT s₁.heap H) callerA [] s₁ H:=⟨rfl,hM,λb o e=>zfY e,Nat.le_of_eq (zbs _ _),trivial,λb hb=>absurd (show b∈([]:List Addr) from hb) (by simp),λPt t e=>⟨#[],by
   rw[<- hH];show (if Pt=a then u else ((tsOf K).lookup Pt).map λt=>HO.tbl (encT t))=_;rw[if_neg (λz=>by rw[z,aT] at e;cases e),e];simp⟩,hok,.of_eq hg⟩
  refine codeAny_mono ((F _ hKb (nsK hns)).run callerA [] s₁ H ⟨[.ref a],[]⟩ [.ref a] [.ref a] _ _ hr e0 (hbind s₁ (.ref a)) (.cons rfl .nil) (hsp H hS)) λr s' h =>?_
  cases r with
  | error e=>exact(hCX H e s' h).elim
  | ok fl=>
   cases fl with
   | next=>exact False.elim h
   | brk=>exact False.elim h
   | cont=>exact False.elim h
   | ret v0=>
    obtain⟨v,H',os,bare,un,hok',r',q⟩:=h;have q':v = .bl true:=q;subst q';obtain rfl:v0=Value.bool true:=r';refine⟨rfl,⟨λb o e =>?_,λb o e=>un.there b o e (by simp)⟩,os,bare⟩
    cases q:H b with
    | none=>exact .inl (un.keep b o e q (by intro z;exact absurd (show b∈([]:List Addr) from z) (by simp)) (by simp))
    | some v=>
     rcases at_ q with ⟨rfl,z⟩ | ⟨_,t,q2,rfl⟩
     .rcases hu with hu | ⟨_,hu⟩
      .rw[hu] at z;cases z
      .rw[hu] at z
       cases z
       obtain⟨e2,_⟩:=hok' _ _ (un.frzs _ _ _ q);rw[ha] at e
       cases e
       exact .inl e2
     .have e1:=hT b t q2;rw[e] at e1
      cases e1
      obtain⟨more,q3⟩:=un.tbls b _ q;obtain⟨c,hc⟩:=z6I q2;obtain⟨_,oc,vc,c1,c2,c3,c4⟩:=z5F hc
      rcases hok' b _ q3 with z | ⟨l,c,_,_,c',_,_,_,_,_,_,z,_⟩
      .exact .inl z
      .exact .inr (.inl ⟨⟨_,oc,vc,KX _ _ c1,c2,c3,c4⟩,rfl, #[], #[l,c,.ref c'],rfl,by rw[z];simp⟩)
 cases hk:K.lookup a with
 | some o=>
  have e:=KX a o hk;rw[ha] at e
  cases e
  exact core none (.inr ⟨_,vs.toArray,_,hk,rfl,rfl,rfl,by rw[wY,lenV];exact hl,by simpa using rv⟩) (.inl rfl)
 | none=>exact core _ (.inl (.inr ⟨_,if_pos rfl⟩)) (.inr ⟨hk,rfl⟩)
def zeQ {l:W.OpenLaw}{n k:Nat}{q:Program}{loose:List Str}{XP:(Str->Option Value)->Heap->Prop}{YP:World->Heap->Prop}{d:DefRec}{K:Params->W.Frag}{CX:World->CXT}{sp:World->Sp}{x:Str}
  (hn:l.most=some n) (hn2:n<=sizeLine) (hdf:d.params.defaults=[]) (hr:Room k callerA)
  (hY:∀(w:World) (h:Heap),YP w h->(K w.params).In h) (hT:∀(w:World) (h:Heap),YP w h->∀P t,(tsOf (K w.params)).lookup P=some t->h.get? P=some { cls :=.none,data :=.fields #[] })
  (F:∀(w:World) (mg:WmP) (fa:Addr) (h:Heap),(K w.params).In h->h.Ns mainGlobals mg->mg d.name=some (.ref fa)->
   ∃fd:FuncData,(∀(s:Shared) (u:Value),BindsTo s fd ⟨[u],[]⟩ [(x,u)])/\
    ∀base:Heap,(K w.params).In base->base.Ns mainGlobals mg->FnOk l.prog w (K w.params) mg base (CX w) k fa fd [x] (sp w))
  (hsp:∀(w:World) (H:Hp) (a:Addr) (ns:List Int),ns.length<=n->SqL (K w.params) H a (ns.map V.int)->sp w [.ref a] H (λv _=>v = .bl true) λ_ _ _=>False)
  (hCX:∀(w:World) (H:Hp) (s:Shared) (e:Value) (s':Shared),CX w [] H s (λ_ _ _=>False) e s'->False):
  W.WalkO q loose XP YP l.row.toRowW d [] (λf vs=>PySem.call f vs):=by
 refine Att.z8n hn hdf λw s₀ s₁ mg mb fa o pm cd doc a vs ns G Y ho hd hcd hmg hobj hints hlen hg =>?_;have KX:=hY w _ Y;obtain⟨fd,hb,hF⟩:=F w mg fa _ KX G.T.g hmg;exact zdr KX G.T.g G.T.b G.T.builtins G.T.nolimit G.T.bmain hg hobj hints (wI hlen hn2) hr (hT w _ Y) hF hb (λH hS=>hsp w H a ns hlen hS) λH e s'=>hCX w H _ e s'
def z2I (s:Stmt):Arguments:=match s with
 | .FunctionDef _ a _ _ _ _ _ _ _ _=>a
 | _=>{ posonlyargs:=[],args:=[],vararg:=none,kwonlyargs:=[],kw_defaults:=[],kwarg:=none,defaults:=[] }
def z1A (s:Stmt):List Stmt:=match s with
 | .FunctionDef _ _ b _ _ _ _ _ _ _=>b
 | _=>[]
def z07 (s:Stmt):Scope:=match s with
 | .FunctionDef _ _ _ _ _ _ sc _ _ _=>sc
 | _=>{ kind :=.function,names:=[],isGenerator:=false,isCoroutine:=false }
abbrev E0:XK:=λ_ _ _=>False
structure Fun (K:W.Frag)(x qual:Str)(st:Stmt)(f:Addr)(fd:FuncData):Prop where
 ex:∃(oc:Value) (od:Option Addr) (kV doc pm:Value) (an:Option Addr) (cdv ct:Value) (osl:Array (Option Value)),
  fd=W.fnOf x qual (z2I st) (z1A st) (z07 st) .none kV doc pm an cdv ct/\K.lookup f=some ⟨oc,od,.func fd,osl⟩/\W.codeIn K cdv qual=true
 kp:W.keepIn K (.ref f)=true
section
variable {P:Program}{w:World}{K:W.Frag}{mg:WmP}{base:Heap}
def Fun.binds {x qual:Str}{st:Stmt}{f:Addr}{fd:FuncData}{ps:List Str}(F:Fun K x qual st f fd)
  (h:∀(kV doc pm:Value) (an:Option Addr) (cdv ct:Value) (us:List Value),us.length=ps.length->bindArgs (W.fnOf x qual (z2I st) (z1A st) (z07 st) .none kV doc pm an cdv ct) ⟨us,[]⟩=pure (ps.zip us)):z5E K fd ps []:=by
 obtain⟨oc,od,kV,doc,pm,an,cdv,ct,osl,rfl,lk,hcd⟩:=F.ex;exact .all (h kV doc pm an cdv ct)
def zeD {x qual:Str}{st:Stmt}{f:Addr}{oc:Value}{od an:Option Addr}{osl:Array (Option Value)}{kV doc pm cdv ct:Value}(l:K.lookup f=some ⟨oc,od,.func (W.fnOf x qual (z2I st) (z1A st) (z07 st) .none kV doc pm an cdv ct),osl⟩)
  (c:W.codeIn K cdv qual=true) (k:W.keepIn K (.ref f)=true):Fun K x qual st f (W.fnOf x qual (z2I st) (z1A st) (z07 st) .none kV doc pm an cdv ct):=⟨⟨oc,od,kV,doc,pm,an,cdv,ct,osl,rfl,l,c⟩,k⟩
end
def iteF {A B:Prop}(h:B):if false=true then A else B:=by
 grind
def iteT {A B:Prop}(h:A):if true=true then A else B:=by
 exact h
def Same (H H':Hp):Prop:=∀b o,H b=some o->H' b=some o
def Same.seq {K:W.Frag}{H H':Hp}{a:Addr}{xs:List V}(e:Same H H')(h:SqL K H a xs):SqL K H' a xs:=by
 rcases h with (h | ⟨o,h⟩) | h
 .exact .inl (.inl (e _ _ h))
 .exact .inl (.inr ⟨o,e _ _ h⟩)
 .exact .inr h
end L2
set_option maxHeartbeats 4000000
namespace L2
open PySem PySem.Spec PyProof.Rows
open Builtin.Int (intBits)
abbrev Bt (n:Nat)(i:Int):Prop:=intBits i<=n
def Bt.le {m n:Nat}{i:Int}(h:Bt m i)(q:autoParam (m<=n) jU):Bt n i:=wI h q
def z0d {n:Nat}{i:Int}(h:i.natAbs<2 ^ n):Bt n i:=PySem.intBits_le_iff.mpr h
def Bt.of_abs {n:Nat}{i j:Int}(h:Bt n j)(q:i.natAbs<=j.natAbs):Bt n i:=PySem.intBits_le_of_natAbs q h
def Bt.add {m n:Nat}{i j:Int}(h:Bt m i)(q:Bt n j):Bt (max m n+1) (i+j):=PySem.intBits_add_le h q
def Bt.sub {m n:Nat}{i j:Int}(h:Bt m i)(q:Bt n j):Bt (max m n+1) (i - j):=PySem.intBits_sub_le h q
def Bt.mul {m n:Nat}{i j:Int}(h:Bt m i)(q:Bt n j):Bt (m+n) (i*j):=PySem.intBits_mul_le h q
def Bt.neg {m:Nat}{i:Int}(h:Bt m i):Bt m (-i):=PySem.intBits_neg_le h
def zgz (i j:Int):Prop:=Bt 60000000 i/\Bt 60000000 j
def zjW (_ j:Int):Prop:=j≠0/\Bt 9000 j
def zbi {j:Int}(h0:j≠0)(h:Bt 9000 j):j.natAbs.log2<9000:=by
 have e:intBits j=j.natAbs.log2+1:=by
  unfold Builtin.Int.intBits
  simp_all
 omega
section
variable {X:Cx}{a b c:Expr}{ta tb tc:TE}{pos:Pos}
def zfU:OpR X (binaryOp .Mult) (rI zgz λi j =>.int (i*j)):=opI λ_ _ _ _ _ _ _ hc q=>mul_int q (IntMulOk.of_le hc.1 hc.2 (by decide))
def zda:OpR X (binaryOp .FloorDiv) (rI zjW λi j =>.int (i.fdiv j)):=opI λ_ _ _ _ _ _ _ hc q=>floordiv_int hc.1 q (.inl (PyProof.noPylong_of_log2 (zbi hc.1 hc.2)))
end
mutual
def Rp (K:W.Frag)(H:Hp):PyData->V->Prop
 | .none,v=>v = .non
 | .bool b,v=>v = .bl b
 | .int i,v=>v = .int i
 | .str x,v=>v = .str x
 | .list ds,v=>∃a xs,v = .ref a/\SqL K H a xs/\RpL K H ds xs
 | .tuple ds,v=>∃a xs,v = .ref a/\SqT K H a xs/\RpL K H ds xs
 | .dict _,_=>False
def RpL (K:W.Frag)(H:Hp):List PyData->List V->Prop
 | [],xs=>xs=[]
 | d::ds,xs=>∃x r,xs=x::r/\Rp K H d x/\RpL K H ds r
end
def Same.seqT {K:W.Frag}{H H':Hp}{a:Addr}{xs:List V}(e:Same H H')(h:SqT K H a xs):SqT K H' a xs:=by
 rcases h with (h | ⟨o,h⟩) | h
 .exact .inl (.inl (e _ _ h))
 .exact .inl (.inr ⟨o,e _ _ h⟩)
 .exact .inr h
mutual
theorem Rp.same {K:W.Frag}{H H':Hp}(e:Same H H'):∀(d:PyData) {v:V},Rp K H d v->Rp K H' d v
 | .none,_,h=>by simpa[Rp] using h
 | .bool _,_,h=>by simpa[Rp] using h
 | .int _,_,h=>by simpa[Rp] using h
 | .str _,_,h=>by simpa[Rp] using h
 | .list ds,_,h=>by
  rw[Rp] at h ⊢;obtain⟨a,xs,h1,h2,h3⟩:=h;exact⟨a,xs,h1,e.seq h2,RpL.same e ds h3⟩
 | .tuple ds,_,h=>by
  rw[Rp] at h ⊢;obtain⟨a,xs,h1,h2,h3⟩:=h;exact⟨a,xs,h1,e.seqT h2,RpL.same e ds h3⟩
 | .dict _,_,h=>by simp[Rp] at h
theorem RpL.same {K:W.Frag}{H H':Hp}(e:Same H H'):∀(ds:List PyData) {xs:List V},RpL K H ds xs->RpL K H' ds xs
 | [],_,h=>by simpa[RpL] using h
 | d::ds,_,h=>by
  rw[RpL] at h ⊢;obtain⟨x,r,h1,h2,h3⟩:=h;exact⟨x,r,h1,Rp.same e d h2,RpL.same e ds h3⟩
end
section
variable {X:Cx}{pins:List (Addr × Obj)}{σ:St}{H:Hp}{s:Shared}
mutual
theorem Rp.reads (I:Inv X pins σ H s):∀(d:PyData) {v:V}{u:Value},Rp X.K H d v->RelV v u->∃as,Reads s.heap u d as
 | .none,v,u,h,r=>by
  rw[Rp] at h;subst h
  cases (show u=Value.none from r);exact⟨_,.none⟩
 | .bool b,v,u,h,r=>by
  rw[Rp] at h;subst h
  cases (show u=Value.bool b from r);exact⟨_,.bool b⟩
 | .int i,v,u,h,r=>by
  rw[Rp] at h;subst h;obtain⟨t,rfl⟩:=(show ∃t,u=Value.int i t from r);exact⟨_,.int i t⟩
 | .str x,v,u,h,r=>by
  rw[Rp] at h;subst h;obtain⟨t,rfl⟩:=(show ∃t,u=Value.str x t from r);exact⟨_,.str x t⟩
 | .list ds,v,u,h,r=>by
  rw[Rp] at h;obtain⟨a,xs,rfl,h2,h3⟩:=h
  cases (show u=Value.ref a from r)
  obtain⟨its,hv,⟨o,n,e,hc,_,hd⟩,_⟩:=I.list h2;obtain⟨as,q⟩:=RpL.reads I ds h3 hv;exact⟨_,.list e hc hd (by simpa using q)⟩
 | .tuple ds,v,u,h,r=>by
  rw[Rp] at h;obtain⟨a,xs,rfl,h2,h3⟩:=h
  cases (show u=Value.ref a from r)
  obtain⟨its,hv,⟨o,e,hc,n,hd⟩,_⟩:=I.tuple h2;obtain⟨as,q⟩:=RpL.reads I ds h3 hv;exact⟨_,.tuple e hc hd (by simpa using q)⟩
 | .dict _,v,u,h,r=>by simp[Rp] at h
theorem RpL.reads (I:Inv X pins σ H s):∀(ds:List PyData) {xs:List V}{us:List Value},RpL X.K H ds xs->Vals xs us->∃as,ReadsAll s.heap us ds as
 | [],xs,us,h,r=>by
  rw[RpL] at h;subst h
  cases r;exact⟨_,.nil⟩
 | d::ds,xs,us,h,r=>by
  rw[RpL] at h;obtain⟨x,t,rfl,h2,h3⟩:=h
  cases r with
  | cons r1 r2=>
   obtain⟨as,q⟩:=Rp.reads I d h2 r1;obtain⟨bs,q'⟩:=RpL.reads I ds h3 r2;exact⟨_,.cons q q'⟩
end
end
section
variable {X:Cx}
def rEqD (K:W.Frag)(neg:Bool):R2:=λx y H Q=>∃d e,Rp K H d x/\Rp K H e y/\PySem.SeqAt.shaped d=true/\PySem.SeqAt.shaped e=true/\Q (.bl (if neg then !PyData.eqv d e else PyData.eqv d e)) H
def ziQ (hu:X.A.units+64<cLine):OpR X (compareOp .Eq) (rEqD X.K false):=by
 intro pins s σ H x y v u Q I rx ry h;obtain⟨d,e,h1,h2,h3,h4,q⟩:=h;obtain⟨as,r1⟩:=Rp.reads I d h1 rx;obtain⟨bs,r2⟩:=Rp.reads I e h2 ry;exact eq_dataH r1 r2 h3 h4 hu ⟨.bl _,H,I,rfl,q⟩
def ziN (hu:X.A.units+64<cLine):OpR X (compareOp .NotEq) (rEqD X.K true):=by
 intro pins s σ H x y v u Q I rx ry h;obtain⟨d,e,h1,h2,h3,h4,q⟩:=h;obtain⟨as,r1⟩:=Rp.reads I d h1 rx;obtain⟨bs,r2⟩:=Rp.reads I e h2 ry;exact ne_dataH r1 r2 h3 h4 hu ⟨.bl _,H,I,rfl,q⟩
end
structure Cal (P:Program)(w:World)(K:W.Frag)(mg:WmP)(base:Heap)(CX:CXT)(k:Nat)(x:Str)(ps:List Str)(sp:Sp):Prop where
 ex:∃f fd,FnOk P w K mg base CX k f fd ps sp/\mg x=some (.ref f)/\W.keepIn K (.ref f)=true/\z5E K fd ps []
section
variable {X:Cx}{CX:CXT}{k:Nat}{ps:List Str}{sp:Sp}{E:XK}{x:Str}{p pos:Pos}{e:Expr}{es:List Expr}{t:TA}
def zkB (C:Cal X.prog X.w X.K X.mg X.base CX k x ps sp)(hr:Room k X.A)(hx:z42 CX X E)(ha:PA X (e::es) t)(hg:autoParam (Gl X x) jT)
  (hdb:autoParam ((x == ("__debug__":Str))=false) jU) (he:autoParam (starEach (e::es) X.env=(false,eval e X.env)::starEach es X.env) jT) (hpl:autoParam ((backTo pos (starEach es X.env)).any (·.1)=false) jT):
  PE X (.Call (.Name x p) (e::es) [] pos) (zeZ sp [] E t):=by
 obtain⟨f,fd,F,hm,hk,hb⟩:=C.ex;exact zfO F hr hg hm hk hb .nil hx ha hdb he hpl
end
end L2
namespace L2
open PySem PySem.Spec PyProof.Rows
section
variable {P:Program}{w:World}{H:Hp}{h h':Heap}{a:Addr}{o:HO}
def HOk.track (x:HOk P w H h)(hn:H a=none)(new:z1j P w (upd H a o) h a o):HOk P w (upd H a o) h:=λb u e=>by
 by_cases hb:b=a
 .subst hb;rw[z06] at e;cases e;exact new
 .rw[z04 hb] at e;exact(x b u e).stay (λc v _ q=>q) (λc q=>by rw[z04 (z0j q hn)];exact q) λc xs q=>by rw[z04 (z0j q hn)];exact q
def HOk.other (x:HOk P w H h)(hn:H a=none)(k:∀b u,b≠a->h.get? b=some u->h'.get? b=some u):HOk P w H h':=λb u e=>by
 have nit:∀c v,H c=some v->c≠a:=λc v q z=>by rw[z,hn] at q;cases q
 refine(x b u e).stay (λc v hc q=>k c v ?_ q) (λ_ q=>q) λ_ _ q=>q
 rcases hc with z | z
 .rw[z];exact nit b u e
 .exact nit c _ z
end
end L2
namespace Mth
def z4h {t b:Int}(h:0<b):(0:Int)<(Int.gcd t b:Int)/\t=(Int.gcd t b:Int)*(t / (Int.gcd t b:Int))/\b=(Int.gcd t b:Int)*(b / (Int.gcd t b:Int))/\1<=b / (Int.gcd t b:Int)/\Int.gcd (t / (Int.gcd t b:Int)) (b / (Int.gcd t b:Int))=1:=by
 have p:=(Int.gcd_pos_iff (a:=t) (b:=b)).mpr (.inr (by lia));have e1:t=(Int.gcd t b:Int)*(t / (Int.gcd t b:Int)):=(uS (jA t b)).symm;have e2:b=(Int.gcd t b:Int)*(b / (Int.gcd t b:Int)):=(uS (jt t b)).symm;refine⟨by lia,e1,e2,?_,?_⟩
 .rcases(show b / (Int.gcd t b:Int)<1\/1<=b / (Int.gcd t b:Int) by lia) with q | q
  .have:(Int.gcd t b:Int)*(b / (Int.gcd t b:Int))<=0:=wT (by lia) (by lia);lia
  .exact q
 .have q:=Int.gcd_mul_left (Int.gcd t b:Int) (t / (Int.gcd t b:Int)) (b / (Int.gcd t b:Int));rw[<- e1, <- e2,jK] at q;have q':Int.gcd t b*1=Int.gcd t b*Int.gcd (t / (Int.gcd t b:Int)) (b / (Int.gcd t b:Int)):=by rw[Nat.mul_one];exact q
  exact(uP p q').symm
def z0W {a b:Int}(hb:0<b):(a / b).natAbs<=a.natAbs:=by
 rw[<- Int.fdiv_eq_ediv_of_nonneg a (vi hb)];exact PySem.natAbs_fdiv_le a b
end Mth
namespace L2
open PySem PySem.Spec PyProof.Rows
def z9d {i:Int}(h1 : -(2 ^ 64)<i)(h2:i<2 ^ 64):Bt 9000 i:=wI (PySem.intBits_le_64 h1 h2) (by decide)
def bt_k {i:Int}(h:i.natAbs<2 ^ 640):Bt 640 i:=z0d h
def bt_n {i:Int}(h0:0<=i)(h:i<2 ^ 640):Bt 640 i:=z0d (by lia)
def z0f {H:Hp}{p:Addr}(h:H p=none)(o:HO):Same H (upd H p o):=λb u q=>by rw[z04 (z0j q h)];exact q
def PE.imp {X:Cx}{e:Expr}{t t':TE}(h:PE X e t)(i:∀σ H Q,t' σ H Q->t σ H Q):PE X e t':=λpins s σ H Q I q=>h pins s σ H Q I (i σ H Q q)
def OpR.imp {X:Cx}{f:Value->Value->Sem Value}{r r':R2}(h:OpR X f r)(i:∀x y H Q,r' x y H Q->r x y H Q):OpR X f r':=λpins s σ H x y v u Q I rx ry q=>h pins s σ H x y v u Q I rx ry (i x y H Q q)
section
variable {X:Cx}{es:List Expr}{t:TA}{pos:Pos}
def SlR.imp {r r':V->Option Int->Option Int->Hp->VK->Prop}(h:SlR X r)(i:∀x lo hi H Q,r' x lo hi H Q->r x lo hi H Q):SlR X r':=by
 unfold SlR at h ⊢
 intros
 apply h
 all_goals first | assumption | (apply i;assumption)
end
structure QE (X:Cx)(e:Expr)(t:TE):Prop where
 p:PE X e t
structure QT (X:Cx)(e:Expr)(t:TT):Prop where
 p:PT X e t
structure QW (X:Cx)(e:Expr)(t:TT):Prop where
 p:PW X e t
structure QA (X:Cx)(es:List Expr)(t:TA):Prop where
 p:PA X es t
structure QS (X:Cx)(st:Stmt)(t:TS):Prop where
 p:PS X st t
structure QSs (X:Cx)(st:List Stmt)(t:TS):Prop where
 p:PSs X st t
structure QG (X:Cx)(e:Expr)(t:TG):Prop where
 p:PG X e t
structure QGs (X:Cx)(es:List Expr)(t:TGs):Prop where
 p:PGs X es t
structure QI (X:Cx)(tg e:Expr)(t:TI):Prop where
 p:PI X tg e t
structure QO (X:Cx)(e:Option Expr)(t:TO):Prop where
 p:PO X e t
section
variable {X:Cx}{a b c e f o:Expr}{ta tb tc te:TE}{pos pos2 p2:Pos}{tA tB':TT}{rest:List Expr}{es:List Expr}{aa:TA}
def zi7 {i j pos}:QE X (.Constant (.int i) j pos) (tC (.int i)):=⟨zix⟩
def zkv {i j pos}:QE X (.Constant (.bool i) j pos) (tC (.bl i)):=⟨zkD⟩
def zi4 {j pos}:QE X (.Constant .none j pos) (tC .non):=⟨ziu⟩
def zi1 {x j pos}:QE X (.Constant (.str x) j pos) (tC (.str x)):=⟨zir⟩
def qv (i:Nat){x:Str}{pos:Pos}(hN:autoParam (X.N[i]? = some x) jT)(hv:Vis X.env.scope x:=by first | exact Or.inl rfl | exact Or.inr (Or.inl rfl) | exact Or.inr (Or.inr rfl))(hd:autoParam ((x == ("__debug__":Str))=false) jU)
  (hcd:autoParam ((x == ("__classdict__":Str))=false) jU):QE X (.Name x pos) (tVar i):=⟨zel hN hv hd hcd⟩
def zks {op:Operator}{r:R2}(ho:OpR X (binaryOp op) r)(ha:QE X a ta)(hb:QE X b tb):QE X (.BinOp a op b pos) (tOp r ta tb):=⟨zkz ho ha.p hb.p⟩
def zkr {op:UnaryOp}{r:V->Hp->VK->Prop}(ho:UnR X (unaryOp op) r)(ha:QE X a ta):QE X (.UnaryOp op a pos) (tUn r ta):=⟨zky ho ha.p⟩
def zi3 (ha:QE X a ta):QE X (.UnaryOp .Not a pos) (zgV ta):=⟨zit ha.p⟩
def zi2 {op}{t:TE}(h:QE X a t):QE X (.BoolOp op [a] pos) t:=⟨zis h.p⟩
def zia (ha:QE X a ta)(hb:QE X (.BoolOp .And (b::rest) pos) tb):QE X (.BoolOp .And (a::b::rest) pos) (zh2 ta tb):=⟨ziz ha.p hb.p⟩
def zfx {op:CmpOp}{r:R2}(ho:OpR X (compareOp op) r)(ha:QE X a ta)(hb:QE X b tb)(hm:behindInMarks op b=false):QE X (.Compare a [op] [b] pos) (tOp r ta tb):=⟨zfN ho ha.p hb.p hm⟩
def zfo {op:CmpOp}{r:R2}(ho:OpR X (compareOp op) r)(ha:QE X a ta)(hb:QE X b tb)(hm:behindInMarks op b=false):QT X (.Compare a [op] [b] pos) (zeY (tOp r ta tb)):=⟨zfD ho ha.p hb.p hm⟩
def zhP {t:TE}(h:QE X e t)(he:autoParam (∀whole,isTrue e X.env whole=(do let v <- whole;standAt e.pos;holding [v] (truthy v))) jV):QT X e (tB t):=⟨zid h.p he⟩
def zhQ (ha:QT X a tA):QT X (.UnaryOp .Not a pos) (tNot tA):=⟨zie ha.p⟩
def zfl (ha:QT X a tA):QW X (.BoolOp .And [a] pos) tA:=⟨zfA ha.p⟩
def zhN (ha:QT X a tA):QW X (.BoolOp .Or [a] pos) tA:=⟨zib ha.p⟩
def zhO (ha:QT X a tA)(hb:QW X (.BoolOp .And (b::rest) pos) tB'):QW X (.BoolOp .And (a::b::rest) pos) (tAnd tA tB'):=⟨zic ha.p hb.p⟩
def zko (ha:QT X a tA)(hb:QW X (.BoolOp .Or (b::rest) pos) tB'):QW X (.BoolOp .Or (a::b::rest) pos) (tOr tA tB'):=⟨zkw ha.p hb.p⟩
theorem QW.pt {t:TT}(h:QW X e t):QT X e t:=⟨h.p.pt⟩
def zfz {x:Str}{v:V}{u:Value}(hg:Gl X x)(hm:X.mg x=none)(hv:bootBuiltins x=some u)(r:RelV v u)(hn:autoParam (x≠"__name__") jU)(hd:autoParam ((x == ("__debug__":Str))=false) jU):QE X (.Name x pos) (tC v):=⟨zfP hg hm hv r hn hd⟩
def z5L:QA X [] tNil:=⟨ziC⟩
def z3x (ha:QE X e te)(hr:QA X es aa)(hs:autoParam (starEach (e::es) X.env=(false,eval e X.env)::starEach es X.env) jT):QA X (e::es) (zh0 te aa):=⟨zfR ha.p hr.p hs⟩
def zku {CX:CXT}{k:Nat}{ps:List Str}{sp:Sp}{E:XK}{x:Str}{pp:Pos}(C:Cal X.prog X.w X.K X.mg X.base CX k x ps sp)(hr:Room k X.A)(hx:z42 CX X E)(ha:QA X (e::es) aa)(hg:autoParam (Gl X x) jT)
  (hdb:autoParam ((x == ("__debug__":Str))=false) jU) (he:autoParam (starEach (e::es) X.env=(false,eval e X.env)::starEach es X.env) jT) (hpl:autoParam ((backTo pos (starEach es X.env)).any (·.1)=false) jT):QE X (.Call (.Name x pp) (e::es) [] pos) (zeZ sp [] E aa):=⟨zkB C hr hx ha.p hg hdb he hpl⟩
def z3K {x:Str}{pp:Pos}{id:String}{r:List V->Hp->VK->Prop}(hc:z0w X (.builtin id) r)(hg:Gl X x)(hm:X.mg x=none)(hv:bootBuiltins x=some (.builtin id))(ha:QA X (e::es) aa)(hn:autoParam (x≠"__name__") jU)(hdb:autoParam ((x == ("__debug__":Str))=false) jU)
  (he:autoParam (starEach (e::es) X.env=(false,eval e X.env)::starEach es X.env) jT) (hpl:autoParam ((backTo pos (starEach es X.env)).any (·.1)=false) jT):QE X (.Call (.Name x pp) (e::es) [] pos) (tCB r aa):=⟨zd8 hc hg hm hv ha.p hn hdb he hpl⟩
def z2W {x:Str}{pp:Pos}{id:String}{r:List V->Hp->VK->Prop}(hc:z0w X (.type id) r)(hg:Gl X x)(hm:X.mg x=none)(hv:bootBuiltins x=some (.type id))(ha:QA X (e::es) aa)(hn:autoParam (x≠"__name__") jU)(hdb:autoParam ((x == ("__debug__":Str))=false) jU)
  (he:autoParam (starEach (e::es) X.env=(false,eval e X.env)::starEach es X.env) jT) (hpl:autoParam ((backTo pos (starEach es X.env)).any (·.1)=false) jT):QE X (.Call (.Name x pp) (e::es) [] pos) (tCB r aa):=⟨zaR hc hg hm hv ha.p hn hdb he hpl⟩
def zkt {r:R2}(hr:IxR X r)(ha:QE X a ta)(hb:QE X b tb)(hs:z8q b):QE X (.Subscript a b pos) (tOp r ta tb):=⟨zkA hr ha.p hb.p hs⟩
def zfu:QO X none zab:=⟨zfL⟩
def zft (h:QE X e te):QO X (some e) (zgU te):=⟨zfK h.p⟩
def zcW {r:V->Option Int->Option Int->Hp->VK->Prop}{lo hi:Option Expr}{tl th:TO}(hr:SlR X r)(he:QE X e te)(hl:QO X lo tl)(hu:QO X hi th):QE X (.Subscript e (.Slice lo hi none p2) pos) (tSl r te tl th):=⟨zd3 hr he.p hl.p hu.p⟩
def zi9 {T id:String}{name:Str}{apos cpos:Pos}{r:V->List V->Hp->VK->Prop}(pa:PlainAttrs T)(slot:Slot T name id)(hty:typeOf (.builtin id)=pure (.type "method_descriptor"))(hm:MtR X id r)(ho:QE X o te)
  (hbase:autoParam (attributeBase o name X.env (eval o X.env)=eval o X.env) jT) (hline:autoParam ((apos.endLine == cpos.line)=true) jT):QE X (.Call (.Attribute o name apos) [] [] cpos) (tBM0 X.K T r te):=⟨ziy pa slot hty hm ho.p hbase hline⟩
def zfy {T id:String}{name:Str}{apos cpos:Pos}{r:V->List V->Hp->VK->Prop}(pa:PlainAttrs T)(slot:Slot T name id)(hty:typeOf (.builtin id)=pure (.type "method_descriptor"))(hm:MtR X id r)(ho:QE X o te)(ha:QA X (e::es) aa)
  (hbase:autoParam (attributeBase o name X.env (eval o X.env)=eval o X.env) jT)
  (hfew:autoParam (((backTo cpos (starEach (e::es) X.env)).all (λx => !x.1) && (backToKw cpos (keywordEach [] X.env)).all (λx=>x.1.isSome)
   && decide ((e::es).length+([]:List Keyword).length+(if ([]:List Keyword).isEmpty then 0 else 1)<30))=true) jT)
  (hline:autoParam ((apos.endLine == cpos.line)=true) jT) (hs:autoParam (starEach (e::es) X.env=(false,eval e X.env)::starEach es X.env) jT) (hplain:autoParam ((backTo cpos (starEach es X.env)).any (·.1)=false) jT):
  QE X (.Call (.Attribute o name apos) (e::es) [] cpos) (tBM X.K T r te aa):=⟨zkC pa slot hty hm ho.p ha.p hbase hfew hline hs hplain⟩
end
section
variable {X:Cx}{st:Stmt}{rest body a b:List Stmt}{t u tb:TS}{e tg c iter:Expr}{te:TE}{tc:TT}{pos:Pos}{g:TG}{wi:TI}{aa:TA}
def zfq:QSs X [] zgW:=⟨zfF⟩
def zcN (h1:QS X st t)(h2:QSs X rest u):QSs X (st::rest) (tSeq t u):=⟨zcY h1.p h2.p⟩
def zfp (h1:QS X st t):QSs X [st] t:=⟨zfE h1.p⟩
def zcP:QS X st ze3:=⟨zd0⟩
def zhS (he:QE X e te):QS X (.Return (some e) pos) (tRet te):=⟨zig he.p⟩
def z7V (he:QE X e te)(hs:autoParam (swapsWith e none pos.line X.env=pure false) jT):QS X (.Expr e pos) (zgX te):=⟨zfG he.p hs⟩
def zkp (hc:QT X c tc)(ha:QSs X a t)(hb:QSs X b u):QS X (.If c a b pos) (tIfS tc t u):=⟨zkx hc.p ha.p hb.p⟩
def zcO (hp:PassesOwn (model X.prog X.w) X.A X.env X.xe)(hc:QT X c tc)(hb:QSs X body tb):QS X (.While c body [] pos) (ze2 tc tb):=⟨zcZ hp hc.p hb.p⟩
def zej (hp:PassesOwn (model X.prog X.w) X.A X.env X.xe)(hc:X.calm=true)(hi:QI X tg iter wi)(hg:QG X tg g)(hb:QSs X body tb)
  (hs:autoParam (∀x,foldedSetIterable iter X.env x=pure x) jV):QS X (.For tg iter body [] pos) (tFor wi g tb):=⟨zii hp hc hi.p hg.p hb.p hs⟩
def zhU (he:QE X e te)(hg:QG X tg g)(hs:autoParam (swapsWithSole [tg] e pos.line X.env=pure false) jT)(hw:autoParam (swappedStores [tg] e X.env=pure none) jT)
  (h1:autoParam ((assignEach [tg] X.env).map (·.2)=[assign tg X.env]) jT):QS X (.Assign [tg] e pos) (tAsg te g):=⟨zij he.p hg.p hs hw h1⟩
def zfv:QGs X [] gNil:=⟨zfM⟩
def zcT {es:List Expr}{t:TG}{u:TGs}(h1:QG X e t)(h2:QGs X es u)
  (hs:autoParam ((assignEach (e::es) X.env).map (·.2)=assign e X.env::(assignEach es X.env).map (·.2)) jT):QGs X (e::es) (zdD t u):=⟨zd2 h1.p h2.p hs⟩
def zhW {es:List Expr}{k:Nat}{t:TGs}{n:Nat}(hc:X.calm=true)(h:QGs X es t)
  (hn:autoParam ((assignEach es X.env).length=n) jT) (hst:autoParam ((assignEach es X.env).findIdx? (·.1)=none) jT):QG X (.Tuple es k pos) (gTup X.K n t):=⟨zin hc h.p hn hst⟩
def z6Z {a:Expr}{p:Pos}(hg:Gl X "range")(hm:X.mg "range"=none)(ha:QA X [a] aa)(hs:autoParam (starEach [a] X.env=[(false,eval a X.env)]) jT):QI X tg (.Call (.Name "range" p) [a] [] pos) (zjC aa):=⟨zaO hg hm ha.p hs⟩
end
def eqv2 {a b c d:Int}:PyData.eqv (.tuple [.int a,.int b]) (.tuple [.int c,.int d])=decide (a=c/\b=d):=by
 simp[PyData.eqv,PyData.eqvAll]
 by_cases h1:a=c <;> by_cases h2:b=d <;> simp[h1,h2]
end L2
namespace Mth
def g3 (x y b:Int):Int:=((Int.gcd ((Int.gcd b x:Nat):Int) y:Nat):Int)
def z6u (x y b:Int):g3 x y b ∣ b:=jL (jA _ _) (jA b x)
def z90 (x y b:Int):g3 x y b ∣ x:=jL (jA _ _) (jt b x)
def z8Z (x y b:Int):g3 x y b ∣ y:=jt _ _
def zbB {x y b:Int}(h:0<b):0<g3 x y b:=by
 have p:=(Int.gcd_pos_iff (a:=b) (b:=x)).mpr (.inl (by lia));have p2:=(Int.gcd_pos_iff (a:=((Int.gcd b x:Nat):Int)) (b:=y)).mpr (.inl (by lia));unfold g3;lia
structure Plc (x y b u v t:Int):Prop where
 pos:1<=t
 cop:Int.gcd ((Int.gcd u v:Nat):Int) t=1
 cx:u*b=x*t
 cy:v*b=y*t
 lu:u.natAbs<=x.natAbs
 lv:v.natAbs<=y.natAbs
 lt:t.natAbs<=b.natAbs
def z2g (a b c:Int):Int.gcd ((Int.gcd a b:Nat):Int) c=Nat.gcd (Nat.gcd a.natAbs b.natAbs) c.natAbs:=rfl
def zil {x y b:Int}(h:0<b):Plc x y b (x / g3 x y b) (y / g3 x y b) (b / g3 x y b):=by
 have hg:=zbB (x:=x) (y:=y) h;have ex:x=g3 x y b*(x / g3 x y b):=(uS (z90 x y b)).symm;have ey:y=g3 x y b*(y / g3 x y b):=(uS (z8Z x y b)).symm;have eb:b=g3 x y b*(b / g3 x y b):=(uS (z6u x y b)).symm;have ee:g3 x y b=((Nat.gcd (Nat.gcd b.natAbs x.natAbs) y.natAbs:Nat):Int):=rfl;refine⟨?_,?_,?_,?_,z0W hg,z0W hg,z0W hg⟩
 .generalize b / g3 x y b=t at eb
  rcases(show t<1\/1<=t by lia) with q | q
  .have:g3 x y b*t<=0:=wT (by lia) (by lia);lia
  .exact q
 .rw[z2g];generalize hu:x / g3 x y b=u at ex;generalize hv:y / g3 x y b=v at ey;generalize ht:b / g3 x y b=t at eb;have nx:=congrArg Int.natAbs ex;have ny:=congrArg Int.natAbs ey;have nb:=congrArg Int.natAbs eb;rw[v5] at nx ny nb;have ng:(g3 x y b).natAbs=Nat.gcd (Nat.gcd b.natAbs x.natAbs) y.natAbs:=by rw[ee,jK]
  generalize hG:(g3 x y b).natAbs=G at nx ny nb ng;have hGp:0<G:=by lia
  rw[nx,ny,nb,Nat.gcd_mul_left,Nat.gcd_mul_left] at ng;have e1:G*1=G*Nat.gcd (Nat.gcd t.natAbs u.natAbs) v.natAbs:=by rw[Nat.mul_one];exact ng
  have e2:=uP hGp e1;rw[jH (Nat.gcd u.natAbs v.natAbs), <- Nat.gcd_assoc];exact e2.symm
 .have:x / g3 x y b*b=x / g3 x y b*(g3 x y b*(b / g3 x y b)):=congrArg _ eb;rw[this,Int.mul_left_comm, <- uK, <- ex]
 .have:y / g3 x y b*b=y / g3 x y b*(g3 x y b*(b / g3 x y b)):=congrArg _ eb;rw[this,Int.mul_left_comm, <- uK, <- ey]
end Mth
namespace L2
open PySem PySem.Spec PyProof.Rows
structure Fly (P:Program)(w:World)(outer:List Env)(H:Hp)(h0:Heap)(Cv:Value)(H':Hp)(ea t:Addr)(B h:Heap):Prop where
 fl:Heap.FlyingW B outer ea Cv (.ref t) h
 un:Un (frs outer) [] H H' h0 h
 hok:HOk P w H' h
 trk:∀b o,H' b=some o->∃ob,B.get? b=some ob
 kep:∀b o,h0.get? b=some o->b ∉ frs outer->∃ob,B.get? b=some ob
def CXe (P:Program)(w:World):CXT:=λouter H s E e s'=>∃(ea t:Addr) (Cv:Value) (H':Hp) (B:Heap),e = .ref ea/\Fly P w outer H s.heap Cv H' ea t B s'.heap/\AllBare s'.gens/\s'.os=s.os/\E Cv none H'
section
variable {P:Program}{w:World}{outer:List Env}{H H':Hp}{h0 h h2:Heap}{Cv:Value}{ea t:Addr}{B:Heap}
def z1j.there {a:Addr}{o:HO}(x:z1j P w H h a o):∃ob,h.get? a=some ob:=by
 cases o with
 | lst xs=>obtain⟨_,_,_,_,e⟩:=x;exact⟨_,e⟩
 | tup xs=>obtain⟨_,_,_,⟨ob,e,_⟩,_⟩:=x;exact⟨_,e⟩
 | dK kvs=>obtain⟨_,_,_,_,o,_,_,e,_⟩:=x;exact⟨_,e⟩
 | dT kvs=>obtain⟨_,_,_,_,o,_,_,e,_⟩:=x;exact⟨_,e⟩
 | set S n=>obtain⟨o,_,_,_,e,_⟩:=x;exact⟨_,e⟩
 | ins C dx fs=>obtain⟨_,_,_,e,_⟩:=x;exact⟨_,e⟩
 | own y=>obtain⟨_,e⟩:=x;exact⟨_,e⟩
 | xd fs=>obtain⟨_,⟨_,_,_,e,_⟩,_⟩:=x;exact⟨_,e⟩
 | rng lo hi=>obtain⟨_,_,_,e⟩:=x;exact⟨_,e⟩
 | frz ob u=>obtain⟨e,_⟩:=x;exact⟨_,e⟩
 | tbl ps=>rcases x with e | ⟨_,_,_,_,_,_,_,_,_,_,_,e,_⟩ <;> exact⟨_,e⟩
 | met f y=>exact⟨_,(show h.get? a=some _ from x)⟩
 | ext φ=>obtain⟨_,⟨_,e⟩,_⟩:=x;exact⟨_,e⟩
end
section
variable {P:Program}{w:World}{K:W.Frag}{mg:WmP}{base:Heap}{N:List Str}{qual:Str}{sc:Scope}{f:Addr}{cdv:Value}{A:Around}{outer:List Env}{s:Shared}{H:Hp}{E:XK}
def Fun.okN {x:Str}{st:Stmt}{fd:FuncData}{ps:List Str}{k:Nat}{sp:Sp}(F:Fun K x qual st f fd)(S:z4m N ps (z07 st))(len:∀vs H Q E,sp vs H Q E->vs.length=ps.length)
  (hbody:∀(cdv:Value) (A:Around) (outer:List Env) (s:Shared) (H:Hp) (vs:List V) (Q:VK) (E:XK),Room k (A.deeper (envOfC qual (z07 st) s.heap.objs.size f cdv))->sp vs H Q E->
   ∃t,QSs ((cxOf (CXe P w) P w K mg base N qual (z07 st) f cdv A outer s H E).wish λ_ _=>False) (z1A st) t/\t { nx:=λ_ H'=>Q .non H',rt:=Q } (z44 N vs) H):FnOk P w K mg base (CXe P w) (k+1) f fd ps sp:=by
 obtain⟨oc,od,kV,doc,pm,an,cdv,ct,osl,rfl,lk,hcd⟩:=F.ex;refine zld lk hcd S len λA outer s H vs Q E hr hsp =>?_;obtain⟨t,h,q⟩:=hbody cdv A outer s H vs Q E hr hsp;exact⟨t,h.p.nox,q⟩
def ziA {X:Cx}:z42 (CXe P w) X E0:=λ_ _ _ _ _ _ _ ⟨_,_,_,_,_,_,_,_,_,q⟩=>q.elim
end
def zlD (a C:Addr)(h:Heap):Prop:=∃o,h.get? a=some o/\o.cls = .ref C/\∃vs,o.data = .fields vs
section
variable {X:Cx}
theorem vals_refs:∀(cs:List Addr) {us:List Value},Vals (cs.map V.ref) us->us=cs.map Value.ref
 | [],_,r=>by cases r;rfl
 | c::cs,_,r=>by
  cases r with
  | cons r1 r2=>
   rw[vals_refs cs r2]
   cases (show _=Value.ref c from r1)
   rfl
end
open Builtin.Str
section
variable {X:Cx}
def rAll (K:W.Frag):List V->Hp->VK->Prop:=λxs H Q=>∃(a:Addr) (bs:List Bool),xs=[.ref a]/\SqL K H a (bs.map V.bl)/\Q (.bl (bs.all id)) H
theorem z8t:∀(bs:List Bool) {us:List Value},Vals (bs.map V.bl) us->us=bs.map Value.bool
 | [],_,r=>by cases r;rfl
 | b::bs,_,r=>by
  cases r with
  | cons r1 r2=>
   rw[z8t bs r2]
   cases (r1)
   rfl
def zc5 (bs:List Bool):(List.range bs.length).all (λi=>bs[i]?.getD true)=bs.all id:=by
 apply jg.mpr;simp only[jB,vU,id]
 constructor
 .intro h b hb;obtain⟨i,hi,e⟩:=wX.mp hb
  simp_all
 .intro h i hi;rw[wq hi];exact h _ (uH hi)
def zc0 (hc:X.calm=true):z0w X (.builtin "all") (rAll X.K):=by
 intro pins s σ H xs us Q I r h;obtain⟨a,bs,rfl,hs,q⟩:=h;obtain⟨u,rfl,ru⟩:=z2O r
 cases (ru)
 obtain⟨its,hv,pl,_⟩:=I.list hs
 cases z8t bs hv
 have hl:=pl.isList;refine call_all_walk (wpAny_pyIter_list hl ?_);have hne:a≠s.heap.objs.size:=by
  obtain⟨o,n,e,_⟩:=pl;exact wz (wo e)
 refine⟨s.heap.objs.size,_,_,_,_,_,λi=>bs[i]?.getD true,rfl,Walks.list (A:=X.A.in1) (I.ok.hd hc) s.heap.objs.size a hne _,⟨⟨_,wn _ rfl,rfl,rfl⟩,(pl.keeps λb o e=>we _ e).isList⟩,?_,λh' tk hk =>?_⟩
 .intro i v s' Q' E' hP hQ;have hP':(bs.map Value.bool)[i]? = some v:=by simpa using hP
  rw[wG] at hP';obtain⟨b,hb,rfl⟩:=vZ.mp hP';have hQ':Q' (bs[i]?.getD true) s':=hQ;rw[hb] at hQ';exact wf hQ'
 .have e:(List.range (bs.map Value.bool).toArray.size).all (λi=>bs[i]?.getD true)=bs.all id:=by
   rw[wY,wd];exact zc5 bs
  rw[e];refine⟨.bl _,H,I.kept (t':=tk) λb o eb=>hk b o ?_ (we _ eb),rfl,q⟩;intro z;rw[wt.mp z] at eb;exact absurd (wo eb) (vj _)
def rSlS:V->Option Int->Option Int->Hp->VK->Prop:=λx lo hi H Q=>∃y,x = .str y/\y.length<=sizeLine/\Q (.str (Txt.slice y lo hi)) H
def zh5:SlR X rSlS:=by
 intro pins s σ H x v vl vu lo hi sl Q I rx hs pl pu h;obtain⟨y,rfl,hz,q⟩:=h;obtain⟨t,rfl⟩:=rx;refine⟨"str",_,F.slot_str_getitem.lookup,typeIs_str _ _ _,?_⟩;obtain⟨o,ho,hc,hd⟩:=hs;have fin:∀(l u:Option (Int × Tok)),l.map (·.1)=lo->u.map (·.1)=hi->vl=partValue l->vu=partValue u->wpAny (model X.prog X.w) X.A (getItem (.str y t) (.ref sl)) (EP X pins σ Q) X.xe s:=λl u e1 e2 e3 e4=>by
  subst e1 e2 e3 e4;exact wpAny_getItem_str_slice (l:=l) (u:=u) (st:=none) ⟨o,ho,hc,hd⟩ rfl (post_val_or_str ⟨wI (Txt.slice_le y _ _) hz,λt' k=>⟨.str _,H,I.tok k,⟨t',rfl⟩,q⟩⟩)
 cases pl with
 | none=>
  cases pu with
  | none=>exact fin none none rfl rfl rfl rfl
  | int j u=>exact fin none (some (j,u)) rfl rfl rfl rfl
 | int i w=>
  cases pu with
  | none=>exact fin (some (i,w)) none rfl rfl rfl rfl
  | int j u=>exact fin (some (i,w)) (some (j,u)) rfl rfl rfl rfl
def Its (x:Str):It:=⟨λi _=>i<x.cps.size,λi H v H'=>H'=H/\∃c,x.cps[i]? = some c/\v = .str ⟨#[c]⟩,λi _=>x.cps.size<=i⟩
def z8v {P:Program}{w:World}{K:W.Frag}{tg:Expr}(x:Str)(t:Tok)(it:Addr){ty:String}(hty:["enumerate","zip","dict_itemiterator","dict_reverseitemiterator","odict_iterator","itertools.zip_longest","itertools.pairwise"].contains ty=false)
  (W:∀A':Around,A'.handled=none->Walks P w A' it [it] [it] x.cps.size (SignAt x) (λi h=>h.IsStrIter it ty x t i)) (hs:∀(A:Around) (i:Nat) (s:Shared) (Q:WvP) (E:WvP),s.heap.IsStrIter it ty x t i->Q (.ref it) s->wpAny (model P w) A (pyIter (.ref it)) Q E s):
  Turn P w K tg (Its x) [it] it (λi h=>i<=x.cps.size/\h.IsStrIter it ty x t i) where
 mem:=by simp
 obj:=λi h st b hb=>by
  have e:b=it:=by simpa using hb
  subst e;obtain⟨_,o,e,c,d⟩:=st;exact⟨o,e,λv z=>by rw[d] at z;cases z⟩
 keep:=λi h h' st k=>⟨st.1,(W { } rfl).frame i h h' st.2 k⟩
 item:=by
  intro X hP hw hK hc i pins s σ H E I hf st hg;subst hP hw hK;obtain⟨f0,f1,f2,f3,f4,f5⟩:=hf it (by simp);refine(W X.A (I.ok.hd hc)).item i s _ _ hg st.2 λv h' tk hv st' kk =>?_;obtain⟨c,u,hc',rfl⟩:=hv;have I1:Inv X pins σ H { s with heap:=h',toks:=tk }:=I.turned (λb o hb e=>kk b o (by simpa using hb) e) f0 f1 f3 f4 f5;obtain⟨o,e1,e2,e3⟩:=id st';exact⟨_,rfl,zdy (s:={ s with heap:=h',toks:=tk }) e1 e2 e3 hty ⟨.str ⟨#[c]⟩,H,I1,⟨u,rfl⟩,⟨rfl,c,hc',rfl⟩,⟨hg,st'⟩,λb hb=>(hf b hb).1⟩⟩
 done:=by
  intro X hP hw hK hc i pins s σ H E I hf st hg;subst hP hw hK;obtain⟨f0,f1,f2,f3,f4,f5⟩:=hf it (by simp);have e:i=x.cps.size:=Nat.le_antisymm st.1 hg;subst e;exact(W X.A (I.ok.hd hc)).done s _ _ st.2 λh' tk kk=>⟨rfl,I.turned (λb o hb e=>kk b o (by simpa using hb) e) f0 f1 f3 f4 f5⟩
 self:=λA i s Q E st h=>hs A i s Q E st.2 h
variable {tg:Expr}
def zi5 {es:List Expr}{aa:TA}{pos:Pos}(h:QA X es aa):QE X (.List es pos) (tLst aa):=⟨ziv h.p⟩
def z5A:MtR X "list.append" zax:=zb9
end
end L2
namespace Mth
def z4c {a b:Nat}(h:∀p,p ∣ a->p ∣ b->p ∣ 1):Nat.Coprime a b:=
 Nat.dvd_one.mp (h _ (Nat.gcd_dvd_left a b) (Nat.gcd_dvd_right a b))
def z8g {p:Nat}{x:Int}:p ∣ x.natAbs↔(p:Int) ∣ x:=by rw[<- v7,jK]
def z6x {p z c:Nat}{x a:Int}(hzc:Nat.Coprime z c)(pz:p ∣ z)(h:(p:Int) ∣ x*(c:Int)+a*(z:Int)):p ∣ x.natAbs:=by
 have h1:(p:Int) ∣ a*z:=jL (Int.natCast_dvd_natCast.mpr pz) (Int.dvd_mul_left _ _);have h2  := (Int.dvd_add_left h1).mp h;have h3  := by
  have:=z8g.mpr h2;rw[v5] at this;exact this
 exact(Nat.Coprime.coprime_dvd_left pz hzc).dvd_of_dvd_mul_right h3
def zaJ {x y z a b c:Int}(hz:0<z)(hc:0<c)(h1:Int.gcd ((Int.gcd x y:Nat):Int) z=1)(h2:Int.gcd ((Int.gcd a b:Nat):Int) c=1)
  {g u v r:Int}(eg:g=((Int.gcd z c:Nat):Int)) (eu:u=x*(c / g)+a*(z / g)) (ev:v=y*(c / g)+b*(z / g)) (er:r=((Int.gcd ((Int.gcd g u:Nat):Int) v:Nat):Int)):
  0<g/\0<r/\g.natAbs<=z.natAbs/\r.natAbs<=z.natAbs/\Plc (x*c+a*z) (y*c+b*z) (z*c) (u / r) (v / r) (z / g*(c / r)):=by
 have gp:=(Int.gcd_pos_iff (a:=z) (b:=c)).mpr (.inl (by omega));have hg:0<g:=by omega
 have gz:g ∣ z:=eg ▸ jA z c;have gc:g ∣ c:=eg ▸ jt z c;have e3:r=g3 u v g:=er;have hr:0<r:=e3 ▸ zbB hg;have rg:r ∣ g:=e3 ▸ z6u u v g;have ru:r ∣ u:=e3 ▸ z90 u v g;have rv:r ∣ v:=e3 ▸ z8Z u v g;obtain⟨z',ez⟩:=gz;obtain⟨c',ec⟩:=gc;obtain⟨g',eg'⟩:=rg;obtain⟨u',eu'⟩:=ru;obtain⟨v',ev'⟩:=rv;have q1:z / g=z':=by rw[ez];exact uy z' (by omega)
 have q2:c / g=c':=by rw[ec];exact uy c' (by omega)
 have q3:u / r=u':=by rw[eu'];exact uy u' (by omega)
 have q4:v / r=v':=by rw[ev'];exact uy v' (by omega)
 have q5:c / r=g'*c':=by rw[ec,eg',uK];exact uy _ (by omega)
 rw[q1,q2] at eu ev;rw[q1,q3,q4,q5];have hz':0<z':=by
  rcases(show z'<=0\/0<z' by omega) with h | h
  .have:=wT (vi hg) h;omega
  .exact h
 have hc':0<c':=by
  rcases(show c'<=0\/0<c' by omega) with h | h
  .have:=wT (vi hg) h;omega
  .exact h
 have hg':0<g':=by
  rcases(show g'<=0\/0<g' by omega) with h | h
  .have:=wT (vi hr) h;omega
  .exact h
 have czc:Nat.Coprime z'.natAbs c'.natAbs:=by
  have q:=Int.gcd_mul_left g z' c';rw[<- ez, <- ec] at q;have q':g.natAbs*1=g.natAbs*Int.gcd z' c':=by omega
  exact(uP (by omega) q').symm
 have cg:Nat.gcd (Nat.gcd g'.natAbs u'.natAbs) v'.natAbs=1:=by
  have n1:=congrArg Int.natAbs eg';have n2:=congrArg Int.natAbs eu';have n3:=congrArg Int.natAbs ev';rw[v5] at n1 n2 n3;have er':r.natAbs=Nat.gcd (Nat.gcd g.natAbs u.natAbs) v.natAbs:=by rw[er,jK,z2g]
  rw[n1,n2,n3,Nat.gcd_mul_left,Nat.gcd_mul_left] at er';have:r.natAbs*1=r.natAbs*Nat.gcd (Nat.gcd g'.natAbs u'.natAbs) v'.natAbs:=by omega
  exact(uP (by omega) this).symm
 have hzn:((z'.natAbs:Nat):Int)=z':=Int.natAbs_of_nonneg (by omega);have hcn:((c'.natAbs:Nat):Int)=c':=Int.natAbs_of_nonneg (by omega);have big:∀{p:Nat},p ∣ u'.natAbs->(p:Int) ∣ u:=λh=>eu' ▸ jL (z8g.mp h) (Int.dvd_mul_left _ _);have big2:∀{p:Nat},p ∣ v'.natAbs->(p:Int) ∣ v:=λh=>ev' ▸ jL (z8g.mp h) (Int.dvd_mul_left _ _);have k1:Nat.Coprime (Nat.gcd u'.natAbs v'.natAbs) z'.natAbs:=by
  refine z4c λp p1 p2 =>?_;have pu:=big (u4 p1 (Nat.gcd_dvd_left _ _));have pv:=big2 (u4 p1 (Nat.gcd_dvd_right _ _));rw[eu, <- hzn, <- hcn] at pu;rw[ev, <- hzn, <- hcn] at pv;have pz:p ∣ z.natAbs:=by rw[ez,v5];exact u4 p2 (Nat.dvd_mul_left _ _)
  have:=jQ (jQ (z6x czc p2 pu) (z6x czc p2 pv)) pz;rw[z2g] at h1;rw[h1] at this;exact this
 have k2:Nat.Coprime (Nat.gcd u'.natAbs v'.natAbs) c'.natAbs:=by
  refine z4c λp p1 p2 =>?_;have pu:=big (u4 p1 (Nat.gcd_dvd_left _ _));have pv:=big2 (u4 p1 (Nat.gcd_dvd_right _ _));rw[eu, <- hzn, <- hcn,Int.add_comm] at pu;rw[ev, <- hzn, <- hcn,Int.add_comm] at pv;have pz:p ∣ c.natAbs:=by rw[ec,v5];exact u4 p2 (Nat.dvd_mul_left _ _)
  have:=jQ (jQ (z6x czc.symm p2 pu) (z6x czc.symm p2 pv)) pz;rw[z2g] at h2;rw[h2] at this;exact this
 have k3:Nat.Coprime (Nat.gcd u'.natAbs v'.natAbs) g'.natAbs:=by
  refine z4c λp p1 p2 =>?_;have:=jQ (jQ p2 (u4 p1 (Nat.gcd_dvd_left _ _))) (u4 p1 (Nat.gcd_dvd_right _ _));rw[cg] at this;exact this
 have eX:x*c+a*z=g*r*u':=by rw[uK, <- eu',eu,ec,ez];grind
 have eY:y*c+b*z=g*r*v':=by rw[uK, <- ev',ev,ec,ez];grind
 have eZ:z*c=g*r*(z'*(g'*c')):=by rw[ez,ec];generalize g=G at eg' ⊢;subst eg';grind
 have hgr:0<g*r:=vz hg hr;have small:∀k:Int,k.natAbs<=(g*r*k).natAbs:=λk=>by
  rw[v5];exact Nat.le_mul_of_pos_left _ (by omega)
 refine⟨hg,hr,Nat.le_of_dvd (by omega) (v7.mpr ⟨z',ez⟩),Nat.le_of_dvd (by omega) (v7.mpr ⟨g'*z',by rw[ez,eg',uK]⟩),?_,?_,?_,?_,?_,?_,?_⟩
 .have:=vz hz' (vz hg' hc');omega
 .rw[z2g,v5,v5];exact Nat.Coprime.mul_right k1 (Nat.Coprime.mul_right k3 k2)
 .rw[eX,eZ];grind
 .rw[eY,eZ];grind
 .rw[eX];exact small _
 .rw[eY];exact small _
 .rw[eZ];exact small _
end Mth
namespace L2
open PySem PySem.Spec PyProof.Rows
section
variable {prog:Program}{w:World}{A:Around}{R:Result->Shared->Prop}{s:Shared}
def zdW (M:Model)(A:Around)(ct:Option Expr)(env:Env)(Q:Bool->Shared->Prop)(E:WvP)(s:Shared):Prop:=
 match ct with
 | none=>Q true s
 | some c=>wpAny M A (isTrue c env (eval c env)) Q E s
def z4s {elt target iter:Expr}{ct:Option Expr}{scope:Scope}{pos:Pos}{it acc:Value}{env:Env}(I:Nat->Shared->Prop)
  (turn:∀n s,I n s->wpAny (model prog w) A (pyNext it) (λr s1=>match r with
   | none=>R (.ok .next) s1
   | some v=>wpAny (model prog w) A (letOwnedTupleGo target it v) (λ_ s5=>wpAny (model prog w) A (assign target env v) (λ_ s2=>zdW (model prog w) A ct env (λok s3=>if ok=true then wpAny (model prog w) A (eval elt env) (λx s4=>
     wpAny (model prog w) A (call (.builtin "list.append") [acc,x]) (λ_ s6=>∃m,m<n/\I m s6) (notedBy (model prog w) A env λe s'=>R (.error e) s') s4)
     (notedBy (model prog w) A env λe s'=>R (.error e) s') s3 else ∃m,m<n/\I m s3) (notedBy (model prog w) A env λe s'=>R (.error e) s') s2) (notedBy (model prog w) A env λe s'=>R (.error e) s') s5) (notedBy (model prog w) A env λe s'=>R (.error e) s') s1) (notedBy (model prog w) A env λe s'=>R (.error e) s') s)
  (n:Nat) (h:I n s):
  codeAny (model prog w) A (.compLoop (.ListComp elt [⟨target,iter,ct.toList,0⟩] scope pos) 0 it acc env) R s:=by
 refine codeAny_loop rfl I (λn s hI =>?_) n h;show wpAny _ _ ((compTurn (.ListComp elt [⟨target,iter,ct.toList,0⟩] scope pos) 0 it acc env).onRaise (λx=>do noteFrame x env;theTreesLotGoes x)) _ _ s;refine wpAny_noted ?_;rw[compTurn_list];refine wc (wpAny_standAt (wc (w6 (turn n s hI) (λr s1 h1 =>?_) λ_ _ h'=>h')))
 cases r with
 | none=>exact wf h1
 | some v=>
  refine wc (w6 h1 (λ_ s5 h5 =>?_) λ_ _ h'=>h');refine wc (w6 h5 (λ_ s2 h2 =>?_) λ_ _ h'=>h')
  cases ct with
  | none=>
   refine wc (w6 (wpAny_tests_nil (Q:=λok s3=>ok=true/\s3=s2) ⟨rfl,rfl⟩) (λok s3 h3 =>?_) λ_ _ h'=>h');obtain⟨rfl,rfl⟩:=h3;have h2':=h2;simp only[zdW,jw] at h2';exact wc (wc (w6 h2' (λx s4 h4=>wc (w6 h4 (λ_ s6 h6=>wf (wf ⟨rfl,h6⟩)) λ_ _ h'=>h')) λ_ _ h'=>h'))
  | some c=>
   refine wc (wpAny_tests_one (w6 (show wpAny (model prog w) A (isTrue c env (eval c env)) _ _ _ from h2) (λokb s3 h3 =>?_) λ_ _ h'=>h'))
   cases okb with
   | false=>exact wf ⟨rfl,by simpa using h3⟩
   | true=>
    have h3':=h3;simp only[jw] at h3';exact wc (wc (w6 h3' (λx s4 h4=>wc (w6 h4 (λ_ s6 h6=>wf (wf ⟨rfl,h6⟩)) λ_ _ h'=>h')) λ_ _ h'=>h'))
end
def z2M (env:Env)(names:List (Str × NameKind))(acc:List (Str × Addr)):List (Str × Addr):=names.foldl (λc x=>if x.2 == .free then (x.1,(env.cells.lookup x.1).getD 0)::c else c) acc
theorem z5R {α β:Type}{f:α->β->Sem (ForInStep β)}{g:α->β->β}:∀(l:List α) (b:β),(∀x∈l,∀c,f x c=pure (.yield (g x c)))->forIn l b f=(pure (l.foldl (λc x=>g x c) b):Sem β)
 | [],b,_=>rfl
 | x::l,b,h=>by
  rw[List.forIn_cons,h x wv];exact z5R l _ λy hy=>h y (wm _ hy)
def z40 {scope:Scope}{env:Env}(h:∀x∈scope.names,x.2 = .free->∃c,env.cells.lookup x.1=some c):closureFor scope env=pure (z2M env scope.names []):=by
 simp[closureFor];rw[z5R (g:=λx c=>if x.2 == .free then (x.1,(env.cells.lookup x.1).getD 0)::c else c) _ [] (λx hx c=>by
  obtain⟨n,kind⟩:=x
  by_cases hk:kind = .free
  .subst hk;obtain⟨a,ha⟩:=h _ hx rfl;have e:cellOf env n=pure a:=by unfold cellOf;rw[ha]
   simp[e,ha]
  simp_all)]
 rfl
theorem z89 {env:Env}{y:Str}{c:Addr}:∀{names:List (Str × NameKind)}{acc:List (Str × Addr)},(y,c)∈z2M env names acc↔(y,c)∈acc\/((y,NameKind.free)∈names/\c=(env.cells.lookup y).getD 0)
 | [],acc=>by simp[z2M]
 | (n,k)::r,acc=>by
  show (y,c)∈z2M env r _↔_;rw[z89]
  grind
theorem z1E {β:Type}{y:Str}{c:β}:∀{l:List (Str × β)},l.lookup y=some c->(y,c)∈l
 | [],h=>by simp at h
 | (n,j)::r,h=>by
  rw[vL] at h
  by_cases e:y=n
  .simp_all
  .have:(y == n)=false:=by simpa using e
   rw[this] at h;exact wm _ (z1E h)
theorem z30 {β:Type}{y:Str}{c:β}:∀{l:List (Str × β)},(y,c)∈l->∃d,l.lookup y=some d
 | (n,j)::r,h=>by
  rw[vL]
  by_cases e:y=n
  .simp_all
  .have:(y == n)=false:=by simpa using e
   rw[this]
   rcases wg.mp h with h | h
   .simp_all
   .exact z30 h
theorem z2p {env:Env}:∀{names:List (Str × NameKind)}{x:Str}{k:NameKind},(names.map λ(n,k)=>if (k == NameKind.free && env.scope.kind == .function && env.kindOf n == some .cell) then (n,NameKind.cell) else (n,k)).lookup x=some k->
  names.lookup x=some k\/(k = .cell/\names.lookup x=some .free)
 | [],_,_,h=>by simp at h
 | (n,j)::r,x,k,h=>by
  have ih := @z2p env r x k;have h':List.lookup x ((if (j == NameKind.free && env.scope.kind == .function && env.kindOf n == some _)=true then (n,NameKind.cell) else (n,j))::(r.map _))=some k:=h
  by_cases hc:(j == NameKind.free && env.scope.kind == .function && env.kindOf n == some .cell)=true
  .rw[if_pos hc] at h';have hj:j = .free:=by
    simp_all
   cases hx:x == n with
   | true=>
    simp only[vL,hx] at h' ⊢
    simp_all
   | false=>
    simp only[vL,hx] at h' ⊢;exact ih h'
  .rw[if_neg hc] at h'
   cases hx:x == n with
   | true=>
    simp only[vL,hx] at h' ⊢;exact .inl h'
   | false=>
    simp only[vL,hx] at h' ⊢;exact ih h'
theorem z22 {env:Env}:∀{names:List (Str × NameKind)}{x:Str},names.lookup x=some .free->
  (names.map λ(n,k)=>if (k == NameKind.free && env.scope.kind == .function && env.kindOf n == some .cell) then (n,NameKind.cell) else (n,k)).lookup x=some .cell\/
  (names.map λ(n,k)=>if (k == NameKind.free && env.scope.kind == .function && env.kindOf n == some .cell) then (n,NameKind.cell) else (n,k)).lookup x=some .free
 | [],_,h=>by simp at h
 | (n,j)::r,x,h=>by
  have ih := @z22 env r x;show List.lookup x ((if (j == NameKind.free && env.scope.kind == .function && env.kindOf n == some _)=true then (n,NameKind.cell) else (n,j))::_)=_\/List.lookup x ((if (j == NameKind.free && env.scope.kind == .function && env.kindOf n == some _)=true then (n,NameKind.cell) else (n,j))::_)=_
  cases hx:x == n with
  | true=>
   simp[vL,hx] at h
   cases h
   by_cases hc:(NameKind.free == NameKind.free && env.scope.kind == .function && env.kindOf n == some .cell)=true
   .rw[if_pos hc];simp[vL,hx]
   .rw[if_neg hc];simp_all
  | false=>
   simp[vL,hx] at h
   by_cases hc:(j == NameKind.free && env.scope.kind == .function && env.kindOf n == some .cell)=true
   .rw[if_pos hc];simp only[vL,hx];exact ih h
   .rw[if_neg hc];simp only[vL,hx];exact ih h
@[reducible] def Cx.compG (X:Cx)(scope:Scope)(N':List Str)(C:Addr)(s:Shared)(H:Hp)(fp:List Addr):Cx:=
 { X with N:=N',s₀:=s,H₀:=H,env:=compEnvC scope (z2M X.env scope.names []) C X.env,outer:=X.stack,stack:=X.stack,ex:=fp,pn:=[],fn:=λy=>((z2M X.env scope.names []).lookup y).isNone,xe:=λ_ _=>False }
def z4R:TT:=λ_ H Q=>Q true H
def LcG (J:It)(g:TG)(tc:TT)(te:TE)(Q:VK)(σ0:St)(H1:Hp):Prop:=∃W:Nat->Nat->List V->St->Hp->Prop,(∃m,W 0 m [] σ0 H1)/\∀i m ys σ H,W i m ys σ H->
 ys.length<sizeLine/\((J.stop i H/\∀p,H p=none->Q (.ref p) (upd H p (.lst ys)))\/(J.go i H/\∀x H',J.yld i H x H'->g x σ H' λσ1 H1=>tc σ1 H1 λb H2=>if b=true then te σ1 H2 λy H3=>∃m',m'<m/\W (i+1) m' (ys++[y]) σ1 H3 else ∃m',m'<m/\W (i+1) m' ys σ1 H2))
def tLcG (wi:TI)(g:TG)(tc:TT)(te:TE)(nt:Nat)(js:List Nat):TE:=λσ H Q=>wi σ H λJ H1=>LcG J g tc te Q (List.replicate nt none++js.map λj=>(σ[j]?).getD none) H1
def z5o (N' xn:List Str)(nt:Nat)(js:List Nat)(names onames:List (Str × NameKind)):Bool:=
 N'.length == nt+js.length && (js.zipIdx.all λp=>match N'[nt+p.2]? with
  | some y=>xn[p.1]? == some y && names.lookup y == some .free
  | none=>false) && names.all (λx=>x.2 != .cell && (x.2 != .local || names.lookup x.1 == some .local) && (x.2 != .free || ((onames.lookup x.1 == some .cell || onames.lookup x.1 == some .free))))
section
variable {X:Cx}{pins:List (Addr × Obj)}{σ:St}{H:Hp}{s:Shared}
structure z43 (X:Cx)(N':List Str)(nt:Nat)(js:List Nat)(scope:Scope):Prop where
 len:N'.length=nt+js.length
 cap:∀k j,js[k]? = some j->∃y,N'[nt+k]? = some y/\X.N[j]? = some y/\scope.names.lookup y=some .free
 nocell:∀y∈scope.names,y.2 ≠ .cell
 loc:∀y∈scope.names,y.2 = .local->scope.names.lookup y.1=some .local
 free:∀y∈scope.names,y.2 = .free->X.env.kindOf y.1=some .cell\/X.env.kindOf y.1=some .free
def z5o.ok {N' xn:List Str}{nt:Nat}{js:List Nat}{scope osc:Scope}(hxn:X.N=xn)(hosc:X.env.scope=osc)(h:z5o N' xn nt js scope.names osc.names=true):z43 X N' nt js scope:=by
 unfold z5o at h;simp only[vK,beq_iff_eq] at h;obtain⟨⟨h1,h2⟩,h3⟩:=h;rw[jB] at h2 h3;have h3':∀y∈scope.names,y.2 ≠ .cell/\(y.2 = .local->scope.names.lookup y.1=some .local)/\(y.2 = .free->osc.names.lookup y.1=some .cell\/osc.names.lookup y.1=some .free):=λy hy=>by
  have:=h3 y hy;simp only[vK,Bool.or_eq_true,bne_iff_ne,beq_iff_eq] at this;refine⟨this.1.1,λz =>?_,λz =>?_⟩
  .rcases this.1.2 with q | q
   .exact absurd z q
   .exact q
  .rcases this.2 with q | q
   .exact absurd z q
   .exact q
 refine⟨h1,λk j hk =>?_,λy hy=>(h3' y hy).1,λy hy=>(h3' y hy).2.1,λy hy z =>?_⟩
 .have hm:(j,k)∈js.zipIdx:=by
   rw[List.mem_zipIdx_iff_getElem?];exact hk
  have:=h2 (j,k) hm
  cases e:N'[nt+k]? with
  | none=>simp only[e] at this;cases this
  | some y=>
   simp_all
 .show X.env.scope.names.lookup y.1=some .cell\/X.env.scope.names.lookup y.1=some .free;rw[hosc];exact(h3' y hy).2.2 z
theorem z43.cells {N':List Str}{nt:Nat}{js:List Nat}{scope:Scope}(c:z43 X N' nt js scope)(I:Inv X pins σ H s):∀x∈scope.names,x.2 = .free->∃a,X.env.cells.lookup x.1=some a:=λx hx hf=>I.ok.has x.1 (c.free x hx hf)
def z43.clo {N':List Str}{nt:Nat}{js:List Nat}{scope:Scope}(c:z43 X N' nt js scope)(I:Inv X pins σ H s){y:Str}{a:Addr}(h:(z2M X.env scope.names []).lookup y=some a):X.env.cells.lookup y=some a/\(y,NameKind.free)∈scope.names:=by
 rcases z89.mp (z1E h) with z | ⟨z1,z2⟩
 .simp at z
 .obtain⟨b,hb⟩:=c.cells I _ z1 rfl
  simp_all
def z43.has {N':List Str}{nt:Nat}{js:List Nat}{scope:Scope}(c:z43 X N' nt js scope)(I:Inv X pins σ H s){y:Str}(h:(y,NameKind.free)∈scope.names):∃a,(z2M X.env scope.names []).lookup y=some a:=
 z30 (z89.mpr (.inr ⟨h,rfl⟩))
theorem Inv.compG {scope:Scope}{N':List Str}{nt:Nat}{js:List Nat}{C:Addr}{fp:List Addr}{h1:Heap}{t1:Nat}(I:Inv X pins σ H s)(hk:scope.kind = .function)(c:z43 X N' nt js scope)
  (hC:s.heap.objs.size<=C) (hfp:∀b∈fp,FpOk X pins H b) (hfo:∀b∈fp,b<s.heap.objs.size) (keep:∀b o,s.heap.get? b=some o->h1.get? b=some o) (hns:∃m,h1.Ns C m) (hc:X.calm=true):
  Inv (X.compG scope N' C s H fp) [] (List.replicate nt none++js.map λj=>(σ[j]?).getD none) H { s with heap:=h1,toks:=t1 }:=by
 have nofs:∀b∈fp,b ∉ frs X.stack:=λb hb z=>by
  rcases wg.mp (I.stkSub b z) with q | q
  .exact(hfp b hb).2.1 q
  .exact(hfp b hb).2.2.1 q
 have nobase:∀b o,X.base.get? b=some o->b ∉ fp:=λb o e hb=>by
  have e2:=(I.ok.bs b o e).1
  rcases(hfp b hb).2.2.2.1 with z | z
  .exact I.ok.noex b o e z
  .exact absurd (wB (wo e2) z) (vj _)
 have kd:∀{y:Str},((compEnvC scope (z2M X.env scope.names []) C X.env).kindOf y=some .cell\/(compEnvC scope (z2M X.env scope.names []) C X.env).kindOf y=some .free)->(y,NameKind.free)∈scope.names:=λ{y} q=>by
  rcases q with q | q
  .rcases z2p (env:=X.env) q with z | ⟨_,z⟩
   .exact absurd rfl (c.nocell _ (z1E z))
   .exact z1E z
  .rcases z2p (env:=X.env) q with z | ⟨z,_⟩
   .exact z1E z
   .cases z
 have cell:∀{a:Addr}{v:Option Value},s.heap.IsCell a v->h1.IsCell a v:=λ⟨o,ho,hd⟩=>⟨o,keep _ _ ho,hd⟩
 obtain⟨m1,hm1⟩:=hns;refine⟨⟨I.ok.mod,hk,I.ok.glob,I.ok.blt,hC,(λy z a e1 e2=>I.ok.inj y z a (c.clo I e1).1 (c.clo I e2).1),(λy q=>c.has I (kd q)),(λy a hf e =>?_),(λ_=>I.ok.hd hc),I.ok.frames,.inl rfl,(λb hb=>⟨wz (wB (hfo b hb) hC),(λy a e=>(hfp b hb).2.2.2.2.1 y a (c.clo I e).1)⟩),(λb o e=>⟨I.bk b o e,(I.bs b o e).2⟩),wI I.ok.bsz I.sz,nobase,nofs,I.stack,I.stkFree,I.tbs⟩,
  rfl,I.bare,Un.kept keep,⟨m1,hm1,(λi y v e1 e2 hv =>?_)⟩,(λy a e =>?_),I.hok.fresh hC,(λy a e=>I.freeC y a (c.clo I e).1),(λp hp=>by simp at hp),I.hok.kept keep,?_⟩
 .have hf':((z2M X.env scope.names []).lookup y).isNone=true:=hf;have e':(z2M X.env scope.names []).lookup y=some a:=e;rw[e'] at hf'
  cases hf'
 .rcases wJ i nt with hi | hi
  .rw[wC (by simpa using hi),uZ] at e2;rw[if_pos hi] at e2
   cases e2
  .rw[wM (by simpa using hi),uo,wG] at e2
   cases ej:js[i - nt]? with
   | none=>rw[ej] at e2;cases e2
   | some j=>
    rw[ej] at e2;obtain⟨y',q1,q2,q3⟩:=c.cap _ _ ej;have hi':nt+(i - nt)=i:=by lia
    rw[hi'] at q1;have e1':N'[i]? = some y:=e1;rw[q1] at e1'
    cases e1'
    have e2:some ((σ[j]?).getD none)=some (some v):=e2;have hσ:σ[j]? = some (some v):=by
     cases ez:σ[j]? with
     | none=>rw[ez] at e2;cases e2
     | some z=>rw[ez] at e2;exact congrArg some (w5 e2)
    have hkX:=c.free _ (z1E q3) rfl;obtain⟨m,hn,hl⟩:=I.loc;obtain⟨u,r,l⟩:=hl j y v q2 hσ (.inr hkX);refine⟨u,r,.inr ⟨z22 (env:=X.env) q3,?_⟩⟩
    rcases l with ⟨l,_⟩ | ⟨_,a,ha,hcell⟩
    .have l':X.env.kindOf y=some .local:=l
     rcases hkX with z | z
     .rw[l'] at z;cases z
     .rw[l'] at z;cases z
    .obtain⟨b,hb⟩:=c.has I (z1E q3);have:=(c.clo I hb).1;rw[ha] at this
     cases this
     exact⟨a,hb,cell hcell⟩
 .obtain⟨v,z⟩:=I.cell y a (c.clo I e).1;exact⟨v,cell z⟩
 .show (List.replicate nt none++js.map λj=>(σ[j]?).getD none).length=N'.length;rw[wL,uo,wd,c.len]
def ziw {elt iter target:Expr}{ct:Option Expr}{pos:Pos}{scope:Scope}{wi:TI}{g:TG}{tc:TT}{te:TE}{N':List Str}{nt:Nat}{js:List Nat}(hc:X.calm=true)(hi:PI X target iter wi)(hk:scope.kind = .function)(cp:z43 X N' nt js scope)
  (hg:∀(C:Addr) (s:Shared) (H:Hp) (fp:List Addr),PG (X.compG scope N' C s H fp) target g)
  (ht:match ct with
   | none=>tc=z4R
   | some c=>∀(C:Addr) (s:Shared) (H:Hp) (fp:List Addr),PT (X.compG scope N' C s H fp) c tc)
  (he:∀(C:Addr) (s:Shared) (H:Hp) (fp:List Addr),PE (X.compG scope N' C s H fp) elt te) (hs:autoParam (∀x,foldedSetIterable iter X.env x=pure x) jV):PE X (.ListComp elt [⟨target,iter,ct.toList,0⟩] scope pos) (tLcG wi g tc te nt js):=by
 intro pins s σ H Q I h;rw[eval_ListComp];refine wpAny_comprehension_free (use:=none) rfl hs (z40 (cp.cells I)) hk cp.loc (thn (hi pins s σ H _ I h) λv s1 h1=>thn h1 λitv s2 h2 =>?_);obtain⟨it,fp,tn,J,H2,e,I2,T,st2,f2,W,⟨m0,w0⟩,turn⟩:=h2;subst e;have hfo:∀b∈fp,b<s2.heap.objs.size:=λb hb=>by
  obtain⟨o,e,_⟩:=T.obj _ _ st2 b hb;exact wo e
 refine wW (wpAny_newFunctionEnv cp.nocell (by intro y hy;simp at hy) (λg1 hns1 hsb1 =>?_) hk);dsimp only at hns1 hsb1 ⊢;generalize hG2:s2.heap.push { cls :=.type "list",dict:=none,data :=.seq ([]:List Value).toArray }=G2 at hns1 hsb1 ⊢;have hC:G2.objs.size=s2.heap.objs.size+1:=by rw[<- hG2,vE]
 have hDC:s2.heap.objs.size≠G2.objs.size:=by rw[hC];exact wz (ue _)
 have below:∀b,b<s2.heap.objs.size->b≠G2.objs.size/\b≠s2.heap.objs.size:=λb hb=>⟨by rw[hC];exact wz (vN hb),wz hb⟩
 have old:∀b o,s2.heap.get? b=some o->g1.get? b=some o:=λb o e=>hsb1.extBut b o (below b (wo e)).1 (we _ (hG2 ▸ we _ e));have hacc:g1.get? s2.heap.objs.size=some { cls :=.type "list",data :=.seq ([]:List Value).toArray 0 }:=hsb1.extBut _ _ hDC (we _ (hG2 ▸ wn _ rfl));have hCge:s2.heap.objs.size<=G2.objs.size:=by rw[hC];exact Nat.le_succ _
 have cellD:∀y a,X.env.cells.lookup y=some a->a<s2.heap.objs.size:=λy a e=>by
  obtain⟨v,o,ho,_⟩:=I2.cell y a e;exact wo ho
 generalize hCC:G2.objs.size=C at*;generalize hDD:s2.heap.objs.size=D at*
 let Y:Cx:=X.compG scope N' C s2 H2 fp
 have IY:Inv Y [] (List.replicate nt none++js.map λj=>(σ[j]?).getD none) H2 { s2 with heap:=g1,toks:=s2.toks+([]:List (Str × Value)).length }:=I2.compG hk cp (by rw[hDD];exact hCge) f2 (by rw[hDD];exact hfo) old ⟨_,hns1⟩ hc;have fpD:∀b∈fp,b≠D:=λb hb=>(below b (hfo b hb)).2;have fpC:∀b∈fp,b≠C:=λb hb=>(below b (hfo b hb)).1;have H2D:H2 D=none:=I2.hok.fresh (by rw[hDD];exact wp _);have Dnf:D ∉ frs X.stack:=λz=>by
  obtain⟨_,o,e,_⟩:=I2.stack.mem z;exact absurd (wo e) (by rw[hDD];exact vj _)
 have stat:∀{H':Hp}{pl:List (Addr × Obj)},(∀b∈fp,H' b=none)->(∀p∈pl,p.1=D)->∀b∈fp,FpOk Y pl H' b:=λhn hp b hb=>⟨hn b hb,fpC b hb,(λz=>IY.ok.exfs b hb z),.inl hb,(λy a e=>(f2 b hb).2.2.2.2.1 y a (cp.clo I2 e).1),λp hp' z=>fpD b hb (z.symm.trans (hp p (by simpa[Y] using hp')))⟩
 have loop:∀s3:Shared,s3={ s2 with heap:=g1,toks:=s2.toks+([]:List (Str × Value)).length }->
   codeAny (model X.prog X.w) X.A (.compLoop (.ListComp elt [⟨target,iter,ct.toList,0⟩] scope pos) 0 (.ref it) (.ref D) (compEnvC scope (z2M X.env scope.names []) C X.env)) (compPost (model X.prog X.w) X.A X.xe none (EP X pins σ Q) (.ref D) C) s3:=by
  intro s3 e3;refine z4s (λn s'=>∃i ys its σ' H',Inv Y [] σ' H' s'/\s'.heap.get? D=some { cls :=.type "list",data :=.seq (its:List Value).toArray its.length }/\Vals ys its/\H' D=none/\tn i s'.heap/\(∀b∈fp,H' b=none)/\W i n ys σ' H') ?_ m0 ⟨0,[],[],_,H2,e3 ▸ IY,?_,.nil,H2D,?_,λb hb=>(f2 b hb).1,w0⟩
  .rintro n s4 ⟨i,ys,its,σ4,H4,I4,hD4,hv4,hn4,st4,fr4,w4⟩;obtain⟨hsz,step⟩:=turn i n ys σ4 H4 w4;have hl4:ys.length=its.length:=hv4.length;have I4p:Inv Y [(D,{ cls :=.type "list",data :=.seq its.toArray its.length })] σ4 H4 s4:=I4.pins_of λp hp=>by
    rw[wt.mp hp];exact⟨hD4,hn4,hDC,Dnf,λv z=>by cases z⟩
   have one:∀p∈[((D:Addr),({ cls :=.type "list",data :=.seq its.toArray its.length }:Obj))],p.1=D:=λp hp=>by rw[wt.mp hp]
   rcases step with ⟨stop,qn⟩ | ⟨go,step⟩
   .refine w6 (T.done Y rfl rfl rfl hc i _ s4 σ4 H4 (λ_ _=>False) I4p (stat fr4 one) st4 stop) (λr s5 hr =>?_) λ_ _ z=>z.elim;obtain⟨rfl,I5⟩:=hr;have hD5:s5.heap.get? D=some { cls :=.type "list",data :=.seq its.toArray its.length }:=(I5.pin (D,_) (by simp)).1;obtain⟨m5,hm5,_⟩:=I5.loc;refine⟨m5,hm5,λh' sb =>?_⟩;have U:Un (frs X.stack) fp H2 H4 s2.heap s5.heap:=I5.base;have nC:∀b o,s2.heap.get? b=some o->b≠C:=λb o e=>(below b (hDD ▸ wo e)).1;have nD:∀b o,s2.heap.get? b=some o->b≠D:=λb o e=>(below b (hDD ▸ wo e)).2;have ex:∀b o,b≠C->s5.heap.get? b=some o->h'.get? b=some o:=λb o n e=>sb.extBut b o n e;have U':Un (frs X.stack) fp H2 (upd H4 D (.lst ys)) s2.heap h':=⟨λb o e n hb hx'=>ex b o (nC b o e) (U.keep b o e n hb hx'),λb o e n hb hx'=>by
      obtain⟨sl,q⟩:=U.slot b o e n hb hx';exact⟨sl,ex b _ (nC b o e) q⟩,λb o e n hx'=>by rw[z04 (nD b o e)];exact U.free b o e n hx',λb o e hx'=>by
      obtain⟨o',q⟩:=U.there b o e hx';exact⟨o',ex b _ (nC b o e) q⟩,λb xs e=>by rw[z04 (z0j (U.tups b xs e) hn4)];exact U.tups b xs e,λb o xs e=>by rw[z04 (z0j (U.frzs b o xs e) hn4)];exact U.frzs b o xs e,λb ps e=>by
      obtain⟨more,q⟩:=U.tbls b ps e;exact⟨more,by rw[z04 (z0j q hn4)];exact q⟩⟩
    have ok1:HOk X.prog X.w H4 h':=HOk.other I5.hok I5.free λb u n e=>ex b u n e;have ok2:HOk X.prog X.w (upd H4 D (.lst ys)) h':=ok1.track hn4 ⟨uC hsz,its,_,hv4,ex D _ hDC hD5⟩;exact⟨.ref D,upd H4 D (.lst ys),I2.call' (s':={ s5 with heap:=h' }) I5.os U' ok2 I5.bare (λb hb=>⟨(f2 b hb).2.2.2.1,(f2 b hb).2.1,(f2 b hb).2.2.2.2.1,(f2 b hb).2.2.2.2.2⟩),rfl,qn D hn4⟩
   .refine w6 (T.item Y rfl rfl rfl hc i _ s4 σ4 H4 (λ_ _=>False) I4p (stat fr4 one) st4 go) (λr s5 hr =>?_) λ_ _ z=>z.elim;obtain⟨u,rfl,h5⟩:=hr;refine w6 h5 (λ_ s6 h6 =>?_) λ_ _ z=>z.elim;obtain⟨xv,H6,I6,r6,y6,st6,fr6⟩:=h6;have I6p:=I6.pinned (stat fr6 one) (T.obj _ _ st6);have after:∀{σ8:St}{H8:Hp}{s8:Shared},Inv Y _ σ8 H8 s8->_:=λ{σ8 H8 s8} (I8:Inv Y ([(D,{ cls :=.type "list",data :=.seq its.toArray its.length })]++z4p fp s6.heap) σ8 H8 s8)=>
     (show (s8.heap.get? D=some { cls :=.type "list",data :=.seq its.toArray its.length }/\H8 D=none)/\tn (i+1) s8.heap/\(∀b∈fp,H8 b=none)/\Inv Y [] σ8 H8 s8 from by
      have pD:=I8.pin (D,{ cls :=.type "list",data :=.seq its.toArray its.length }) (by simp);refine⟨⟨pD.1,pD.2.1⟩,T.keep _ _ _ st6 λb hb o e=>(I8.pin (b,o) (wS _ (wS _ (z1X hb e)))).1,λb hb =>?_,I8.pins_of (pins':=[]) λp hp=>by simp at hp⟩;obtain⟨o,e,d⟩:=T.obj _ _ st6 b hb;exact(I8.pin (b,o) (wS _ (wS _ (z1X hb e)))).2.1)
    refine w6 (hg C s2 H2 fp _ s6 σ4 H6 xv u _ I6p r6 (step xv H6 y6)) (λ_ s7 h7 =>?_) λ_ _ z=>z.elim;obtain⟨σ7,H7,I7,q7⟩:=h7;have yes:∀s7' H7',Inv Y _ σ7 H7' s7'->(te σ7 H7' λy H3=>∃m',m'<n/\W (i+1) m' (ys++[y]) σ7 H3)->_:=λs7' H7' (I7':Inv Y ([(D,{ cls :=.type "list",data :=.seq its.toArray its.length })]++z4p fp s6.heap) σ7 H7' s7') qe=>
     w6 (Q':=λyv s8=>wpAny (model X.prog X.w) X.A (call (.builtin "list.append") [.ref D,yv]) (λ_ s6=>∃m,m<n/\∃i ys its σ' H',Inv Y [] σ' H' s6/\s6.heap.get? D=some { cls :=.type "list",data :=.seq (its:List Value).toArray its.length }/\Vals ys its/\H' D=none/\tn i s6.heap/\(∀b∈fp,H' b=none)/\W i m ys σ' H') (notedBy (model X.prog X.w) X.A (compEnvC scope (z2M X.env scope.names []) C X.env) λe s'=>compPost (model X.prog X.w) X.A X.xe none (EP X pins σ Q) (.ref D) C (.error e) s') s8) (he C s2 H2 fp _ s7' σ7 H7' _ I7' qe) (λyv s8 h8=>by
      obtain⟨y,H8,I8,r8,m',hm',w8⟩:=h8;obtain⟨⟨pD1,pD2⟩,st8,fr8,I8u⟩:=after I8;refine append_at (hsz:=by rw[wY, <- hl4];exact uC hsz) pD1 λh9 sb9 hD9 =>?_;refine⟨m',hm',i+1,ys++[y],its++[yv],σ7,H8,I8u.turned (it:=D) (t':=s8.toks) (λb o n e=>sb9.extBut b o n e) pD2 hDC (.inr (by rw[hDD];exact wp _)) (λy a e z=>by
        have:=cellD y a (cp.clo I2 e).1;rw[z] at this;exact vj _ this) (λp hp=>by simp[Y] at hp),?_,Vals.append hv4 (.cons r8 .nil),pD2,T.keep _ _ _ st8 λb hb o e=>sb9.extBut b o (fpD b hb) e,fr8,w8⟩
      show h9.get? D=_;rw[hD9];simp) (E':=notedBy (model X.prog X.w) X.A (compEnvC scope (z2M X.env scope.names []) C X.env) λe s'=>compPost (model X.prog X.w) X.A X.xe none (EP X pins σ Q) (.ref D) C (.error e) s') (λ_ _ z=>z.elim)
    cases ct with
    | none=>
     have ht':tc=z4R:=ht;subst ht';simp only[zdW,jw];have q7':if true=true then te σ7 H7 λy H3=>∃m',m'<n/\W (i+1) m' (ys++[y]) σ7 H3 else ∃m',m'<n/\W (i+1) m' ys σ7 H7:=q7
     rw[if_pos rfl] at q7';exact yes s7 H7 I7 q7'
    | some c=>
     refine w6 (ht C s2 H2 fp _ s7 σ7 H7 _ I7 q7) (λb s8 h8 =>?_) λ_ _ z=>z.elim;obtain⟨H8,I8,q8⟩:=h8
     cases b with
     | true=>
      rw[if_pos rfl] at q8 ⊢;exact yes s8 H8 I8 q8
     | false=>
      rw[if_neg wP] at q8 ⊢;obtain⟨m',hm',w8⟩:=q8;obtain⟨⟨pD1,pD2⟩,st8,fr8,I8u⟩:=after I8;exact⟨m',hm',i+1,ys,its,σ7,H8,I8u,pD1,hv4,pD2,st8,fr8,w8⟩
  .rw[e3];exact hacc
  .rw[e3];exact T.keep _ _ _ st2 λb _ o e=>old b o e
 exact codeAny_compStart_list (loop _ rfl) (T.self _ 0 _ _ _ (T.keep _ _ _ st2 λb _ o e=>old b o e) (loop _ rfl))
def zi6 {elt iter target:Expr}{ct:Option Expr}{pos:Pos}{scope:Scope}{wi:TI}{g:TG}{tc:TT}{te:TE}{N':List Str}{nt:Nat}{js:List Nat}(hc:X.calm=true)(hi:QI X target iter wi)(hk:scope.kind = .function)(cp:z43 X N' nt js scope)
  (hg:∀(C:Addr) (s:Shared) (H:Hp) (fp:List Addr),QG (X.compG scope N' C s H fp) target g)
  (ht:match ct with
   | none=>tc=z4R
   | some c=>∀(C:Addr) (s:Shared) (H:Hp) (fp:List Addr),QT (X.compG scope N' C s H fp) c tc)
  (he:∀(C:Addr) (s:Shared) (H:Hp) (fp:List Addr),QE (X.compG scope N' C s H fp) elt te) (hs:autoParam (∀x,foldedSetIterable iter X.env x=pure x) jV):QE X (.ListComp elt [⟨target,iter,ct.toList,0⟩] scope pos) (tLcG wi g tc te nt js):=by
 refine⟨ziw hc hi.p hk cp (λC s H fp=>(hg C s H fp).p) ?_ (λC s H fp=>(he C s H fp).p) hs⟩
 cases ct with
 | none=>exact ht
 | some c=>exact λC s H fp=>(ht C s H fp).p
def zhY {i:Nat}{x:Str}{pos:Pos}(hN:X.N.Nodup)(hi:X.N[i]? = some x)(hx:X.env.scope.names.lookup x=some .local):QG X (.Name x pos) (z2u i):=⟨zaP hN hi (.inl hx) (.inr hx)⟩
end
theorem z4M:∀(ns:List Int) {us:List Value},Vals (ns.map V.int) us->∃l:List (Int × Tok),us=l.map (λp=>Value.int p.1 p.2)/\l.map (·.1)=ns
 | [],_,r=>by cases r;exact⟨[],rfl,rfl⟩
 | n::ns,_,r=>by
  cases r with
  | cons r1 r2=>
   obtain⟨t,rfl⟩:=(r1)
   obtain⟨l,rfl,hl⟩:=z4M ns r2;exact⟨(n,t)::l,rfl,by simp_all⟩
theorem z5U (bt:Nat->Nat->Bool):∀k,argBest bt k<=k
 | 0=>wp _
 | k+1=>by
  rw[argBest]
  split
  .simp_all
  .exact Nat.le_succ_of_le (z5U bt k)
theorem z5p (f:Nat->Int):∀k j,j<=k->f j<=f (argBest (λi j=>decide (f i > f j)) k)
 | 0,j,h=>by
  have:j=0:=by lia
  subst this;exact jk _
 | k+1,j,h=>by
  have ih:=z5p f k;rw[argBest]
  grind
section
variable {X:Cx}
def zkb (K:W.Frag):List V->Hp->VK->Prop:=λxs H Q=>∃(a:Addr) (ns:List Int),xs=[.ref a]/\SqL K H a (ns.map V.int)/\ns≠[]/\∀m,m∈ns->(∀x∈ns,x<=m)->Q (.int m) H
def zbZ (hc:X.calm=true):z0w X (.builtin "max") (zkb X.K):=by
 intro pins s σ H xs us Q I r h;obtain⟨a,ns,rfl,hs,hne,q⟩:=h;obtain⟨u,rfl,ru⟩:=z2O r
 cases (show u=Value.ref a from ru)
 obtain⟨its,hv,pl,_⟩:=I.list hs;obtain⟨l,rfl,hl⟩:=z4M ns hv;have hll:l.length=ns.length:=by rw[<- hl,wd]
 have hpos:0<l.length:=by
  grind
 have num:∀i,numAt l.toArray i=(ns[i]?).getD 0:=λi=>by
  unfold numAt;rw[<- hl,wG];simp
 refine max_intList (xs:=l.toArray) (I.ok.hd hc) (by have:=pl.isList;simpa[intItems] using this) (by simpa using hpos) λv h' tk e hk =>?_;obtain⟨t,rfl⟩:=intItems_at e;generalize hk0:argBest _ (l.toArray.size - 1)=k at*;have hkle:k<=l.length - 1:=by
  have:=z5U (λi j=>decide (numAt l.toArray i > numAt l.toArray j)) (l.toArray.size - 1);rw[hk0] at this;simpa using this
 have hkn:k<ns.length:=by lia
 refine⟨.int _,H,I.kept (t':=tk) hk,⟨t,rfl⟩,q _ ?_ λx hx =>?_⟩
 .simp_all
 .obtain⟨j,hj,rfl⟩:=wX.mp hx;have hsz:l.toArray.size=l.length:=by simp
  have:=z5p (numAt l.toArray) (l.toArray.size - 1) j (by lia);rw[hk0] at this
  simp_all
def zk9 (K:W.Frag):List V->Hp->VK->Prop:=λxs H Q=>∃(a:Addr) (ns:List Int),xs=[.ref a]/\SqL K H a (ns.map V.int)/\Q (.int ns.sum) H
def zbV (hc:X.calm=true):z0w X (.builtin "sum") (zk9 X.K):=by
 intro pins s σ H xs us Q I r h;obtain⟨a,ns,rfl,hs,q⟩:=h;obtain⟨u,rfl,ru⟩:=z2O r
 cases (ru)
 obtain⟨its,hv,pl,_⟩:=I.list hs;obtain⟨l,rfl,hl⟩:=z4M ns hv;refine sum_intListG (xs:=l.toArray) (I.ok.hd hc) (by have:=pl.isList;simpa[intItems] using this) λh' tk t' hk =>?_;refine⟨.int _,H,I.kept hk,⟨t',rfl⟩,?_⟩;rw[preSum_eq,v3 (by simp)]
 simp_all
def z0w.imp {f:Value}{r r':List V->Hp->VK->Prop}(h:z0w X f r)(i:∀xs H Q,r' xs H Q->r xs H Q):z0w X f r':=λpins s σ H xs us Q I rv q=>h _ s σ H xs us Q I rv (i xs H Q q)
end
def z4t {α:Type}{xs:List α}{i:Int}(h0:0<=i)(h1:i<xs.length):∃v∈xs,atI xs i=some v:=by
 have hk:i.toNat<xs.length:=by lia
 have ek:i=(i.toNat:Int):=by lia
 refine⟨xs[i.toNat],uH hk,?_⟩;have q  := zgw (wq hk);rw[<- ek] at q;exact q
section
variable {X:Cx}{pins:List (Addr × Obj)}{σ:St}{H:Hp}{s:Shared}
def zih {elt iter target:Expr}{ct:Option Expr}{pos spos py:Pos}{y:Str}{iy:Nat}(hN:X.N.Nodup)(hiy:X.N[iy]? = some y)(hly:X.env.scope.names.lookup y=some .local){scope:Scope}{wi:TI}{g:TG}{tc:TT}{te:TE}{N':List Str}{nt:Nat}{js:List Nat}(hc:X.calm=true)(hi:PI X target iter wi)(hk:scope.kind = .function)(cp:z43 X N' nt js scope)
  (hg:∀(C:Addr) (s:Shared) (H:Hp) (fp:List Addr),PG (X.compG scope N' C s H fp) target g)
  (ht:match ct with
   | none=>tc=z4R
   | some c=>∀(C:Addr) (s:Shared) (H:Hp) (fp:List Addr),PT (X.compG scope N' C s H fp) c tc)
  (he:∀(C:Addr) (s:Shared) (H:Hp) (fp:List Addr),PE (X.compG scope N' C s H fp) elt te) (hsw:autoParam (swapsWith (.ListComp elt [⟨target,iter,ct.toList,0⟩] scope pos) (some (.Name y py)) spos.line X.env=pure true) jT) (hs:autoParam (∀x,foldedSetIterable iter X.env x=pure x) jV):PS X (.Assign [.Name y py] (.ListComp elt [⟨target,iter,ct.toList,0⟩] scope pos) spos) (tAsg (tLcG wi g tc te nt js) (z2u iy)):=by
 intro pins s σ H Dn I h;rw[exec_Assign_Name_used _ _ _ _ hsw];refine wc (wpAny_standAt (wc ?_));show wpAny _ X.A (do let _ <- comprehension (.ListComp elt [⟨target,iter,ct.toList,0⟩] scope pos) scope X.env _ (newList []) false (eval iter X.env) (some (assign (.Name y py) X.env))) _ _ s;refine wc (w6 (wpAny_comprehension_free (use:=some (assign (.Name y py) X.env)) (Q:=λ_ s'=>SP X pins Dn .next s') rfl hs (z40 (cp.cells I)) hk cp.loc (thn (hi pins s σ H _ I h) λv s1 h1=>thn h1 λitv s2 h2 =>?_)) (λ_ s' hq=>wf (wf hq)) λ_ _ e=>e);obtain⟨it,fp,tn,J,H2,e,I2,T,st2,f2,W,⟨m0,w0⟩,turn⟩:=h2;subst e;have hfo:∀b∈fp,b<s2.heap.objs.size:=λb hb=>by
  obtain⟨o,e,_⟩:=T.obj _ _ st2 b hb;exact wo e
 refine wW (wpAny_newFunctionEnv cp.nocell (by intro y hy;simp at hy) (λg1 hns1 hsb1 =>?_) hk);dsimp only at hns1 hsb1 ⊢;generalize hG2:s2.heap.push { cls :=.type "list",dict:=none,data :=.seq ([]:List Value).toArray }=G2 at hns1 hsb1 ⊢;have hC:G2.objs.size=s2.heap.objs.size+1:=by rw[<- hG2,vE]
 have hDC:s2.heap.objs.size≠G2.objs.size:=by rw[hC];exact wz (ue _)
 have below:∀b,b<s2.heap.objs.size->b≠G2.objs.size/\b≠s2.heap.objs.size:=λb hb=>⟨by rw[hC];exact wz (vN hb),wz hb⟩
 have old:∀b o,s2.heap.get? b=some o->g1.get? b=some o:=λb o e=>hsb1.extBut b o (below b (wo e)).1 (we _ (hG2 ▸ we _ e));have hacc:g1.get? s2.heap.objs.size=some { cls :=.type "list",data :=.seq ([]:List Value).toArray 0 }:=hsb1.extBut _ _ hDC (we _ (hG2 ▸ wn _ rfl));have hCge:s2.heap.objs.size<=G2.objs.size:=by rw[hC];exact Nat.le_succ _
 have cellD:∀y a,X.env.cells.lookup y=some a->a<s2.heap.objs.size:=λy a e=>by
  obtain⟨v,o,ho,_⟩:=I2.cell y a e;exact wo ho
 generalize hCC:G2.objs.size=C at*;generalize hDD:s2.heap.objs.size=D at*
 let Y:Cx:=X.compG scope N' C s2 H2 fp
 have IY:Inv Y [] (List.replicate nt none++js.map λj=>(σ[j]?).getD none) H2 { s2 with heap:=g1,toks:=s2.toks+([]:List (Str × Value)).length }:=I2.compG hk cp (by rw[hDD];exact hCge) f2 (by rw[hDD];exact hfo) old ⟨_,hns1⟩ hc;have fpD:∀b∈fp,b≠D:=λb hb=>(below b (hfo b hb)).2;have fpC:∀b∈fp,b≠C:=λb hb=>(below b (hfo b hb)).1;have H2D:H2 D=none:=I2.hok.fresh (by rw[hDD];exact wp _);have Dnf:D ∉ frs X.stack:=λz=>by
  obtain⟨_,o,e,_⟩:=I2.stack.mem z;exact absurd (wo e) (by rw[hDD];exact vj _)
 have stat:∀{H':Hp}{pl:List (Addr × Obj)},(∀b∈fp,H' b=none)->(∀p∈pl,p.1=D)->∀b∈fp,FpOk Y pl H' b:=λhn hp b hb=>⟨hn b hb,fpC b hb,(λz=>IY.ok.exfs b hb z),.inl hb,(λy a e=>(f2 b hb).2.2.2.2.1 y a (cp.clo I2 e).1),λp hp' z=>fpD b hb (z.symm.trans (hp p (by simpa[Y] using hp')))⟩
 have loop:∀s3:Shared,s3={ s2 with heap:=g1,toks:=s2.toks+([]:List (Str × Value)).length }->
   codeAny (model X.prog X.w) X.A (.compLoop (.ListComp elt [⟨target,iter,ct.toList,0⟩] scope pos) 0 (.ref it) (.ref D) (compEnvC scope (z2M X.env scope.names []) C X.env)) (compPost (model X.prog X.w) X.A X.xe (some (assign (.Name y py) X.env)) (λ_ s'=>SP X pins Dn .next s') (.ref D) C) s3:=by
  intro s3 e3;refine z4s (λn s'=>∃i ys its σ' H',Inv Y [] σ' H' s'/\s'.heap.get? D=some { cls :=.type "list",data :=.seq (its:List Value).toArray its.length }/\Vals ys its/\H' D=none/\tn i s'.heap/\(∀b∈fp,H' b=none)/\W i n ys σ' H') ?_ m0 ⟨0,[],[],_,H2,e3 ▸ IY,?_,.nil,H2D,?_,λb hb=>(f2 b hb).1,w0⟩
  .rintro n s4 ⟨i,ys,its,σ4,H4,I4,hD4,hv4,hn4,st4,fr4,w4⟩;obtain⟨hsz,step⟩:=turn i n ys σ4 H4 w4;have hl4:ys.length=its.length:=hv4.length;have I4p:Inv Y [(D,{ cls :=.type "list",data :=.seq its.toArray its.length })] σ4 H4 s4:=I4.pins_of λp hp=>by
    rw[wt.mp hp];exact⟨hD4,hn4,hDC,Dnf,λv z=>by cases z⟩
   have one:∀p∈[((D:Addr),({ cls :=.type "list",data :=.seq its.toArray its.length }:Obj))],p.1=D:=λp hp=>by rw[wt.mp hp]
   rcases step with ⟨stop,qn⟩ | ⟨go,step⟩
   .refine w6 (T.done Y rfl rfl rfl hc i _ s4 σ4 H4 (λ_ _=>False) I4p (stat fr4 one) st4 stop) (λr s5 hr =>?_) λ_ _ z=>z.elim;obtain⟨rfl,I5⟩:=hr;have hD5:s5.heap.get? D=some { cls :=.type "list",data :=.seq its.toArray its.length }:=(I5.pin (D,_) (by simp)).1;obtain⟨m5,hm5,_⟩:=I5.loc;have U:Un (frs X.stack) fp H2 H4 s2.heap s5.heap:=I5.base;have nC:∀b o,s2.heap.get? b=some o->b≠C:=λb o e=>(below b (hDD ▸ wo e)).1;have nD:∀b o,s2.heap.get? b=some o->b≠D:=λb o e=>(below b (hDD ▸ wo e)).2;have U':Un (frs X.stack) fp H2 (upd H4 D (.lst ys)) s2.heap s5.heap:=⟨U.keep,U.slot,λb o e n hx'=>by rw[z04 (nD b o e)];exact U.free b o e n hx',U.there,λb xs e=>by rw[z04 (z0j (U.tups b xs e) hn4)];exact U.tups b xs e,λb o xs e=>by rw[z04 (z0j (U.frzs b o xs e) hn4)];exact U.frzs b o xs e,λb ps e=>by
      obtain⟨more,q⟩:=U.tbls b ps e;exact⟨more,by rw[z04 (z0j q hn4)];exact q⟩⟩
    have ok2:HOk X.prog X.w (upd H4 D (.lst ys)) s5.heap:=HOk.track I5.hok hn4 ⟨uC hsz,its,_,hv4,hD5⟩;have I6:Inv X pins σ (upd H4 D (.lst ys)) s5:=I2.call' (s':=s5) I5.os U' ok2 I5.bare (λb hb=>⟨(f2 b hb).2.2.2.1,(f2 b hb).2.1,(f2 b hb).2.2.2.2.1,(f2 b hb).2.2.2.2.2⟩);show wpAny _ X.A (assign (.Name y py) X.env (.ref D)) _ _ _;refine wpAny_assign_Name (z6L I6 hN hiy (.inl hly) (show RelV (.ref D) (.ref D) from rfl) (λs7 I7 hs7 =>?_) (.inr hly));obtain⟨c7,sb7,hc7⟩:=hs7;have lt2:X.env.locals<D:=by rw[<- hDD];exact I2.lt
    have c7C:c7≠C:=by
     rcases hc7 with z | z
     .rw[z];exact wz (wB lt2 hCge)
     .exact wz (wB (cellD _ _ z) hCge)
    refine⟨m5,hm5.sameBut sb7 (vF c7C),λh' sb =>?_⟩;refine⟨_,_,I7.turned (it:=C) (t':=s7.toks) (λb o n e=>sb.extBut b o n e) (by rw[z04 (vF hDC)];exact I5.free) (jF (wB lt2 hCge)) (.inr (wI I2.sz (by rw[hDD];exact hCge))) (λx a e z =>?_) (λp hp z =>?_),qn D hn4⟩
    .have:=cellD x a e;rw[z] at this;exact absurd (wB this hCge) (vj _)
    .have:=wo (I2.pin p hp).1;rw[z,hDD] at this;exact absurd (wB this hCge) (vj _)
   .refine w6 (T.item Y rfl rfl rfl hc i _ s4 σ4 H4 (λ_ _=>False) I4p (stat fr4 one) st4 go) (λr s5 hr =>?_) λ_ _ z=>z.elim;obtain⟨u,rfl,h5⟩:=hr;refine w6 h5 (λ_ s6 h6 =>?_) λ_ _ z=>z.elim;obtain⟨xv,H6,I6,r6,y6,st6,fr6⟩:=h6;have I6p:=I6.pinned (stat fr6 one) (T.obj _ _ st6);have after:∀{σ8:St}{H8:Hp}{s8:Shared},Inv Y _ σ8 H8 s8->_:=λ{σ8 H8 s8} (I8:Inv Y ([(D,{ cls :=.type "list",data :=.seq its.toArray its.length })]++z4p fp s6.heap) σ8 H8 s8)=>
     (show (s8.heap.get? D=some { cls :=.type "list",data :=.seq its.toArray its.length }/\H8 D=none)/\tn (i+1) s8.heap/\(∀b∈fp,H8 b=none)/\Inv Y [] σ8 H8 s8 from by
      have pD:=I8.pin (D,{ cls :=.type "list",data :=.seq its.toArray its.length }) (by simp);refine⟨⟨pD.1,pD.2.1⟩,T.keep _ _ _ st6 λb hb o e=>(I8.pin (b,o) (wS _ (wS _ (z1X hb e)))).1,λb hb =>?_,I8.pins_of (pins':=[]) λp hp=>by simp at hp⟩;obtain⟨o,e,d⟩:=T.obj _ _ st6 b hb;exact(I8.pin (b,o) (wS _ (wS _ (z1X hb e)))).2.1)
    refine w6 (hg C s2 H2 fp _ s6 σ4 H6 xv u _ I6p r6 (step xv H6 y6)) (λ_ s7 h7 =>?_) λ_ _ z=>z.elim;obtain⟨σ7,H7,I7,q7⟩:=h7;have yes:∀s7' H7',Inv Y _ σ7 H7' s7'->(te σ7 H7' λy H3=>∃m',m'<n/\W (i+1) m' (ys++[y]) σ7 H3)->_:=λs7' H7' (I7':Inv Y ([(D,{ cls :=.type "list",data :=.seq its.toArray its.length })]++z4p fp s6.heap) σ7 H7' s7') qe=>
     w6 (Q':=λyv s8=>wpAny (model X.prog X.w) X.A (call (.builtin "list.append") [.ref D,yv]) (λ_ s6=>∃m,m<n/\∃i ys its σ' H',Inv Y [] σ' H' s6/\s6.heap.get? D=some { cls :=.type "list",data :=.seq (its:List Value).toArray its.length }/\Vals ys its/\H' D=none/\tn i s6.heap/\(∀b∈fp,H' b=none)/\W i m ys σ' H') (notedBy (model X.prog X.w) X.A (compEnvC scope (z2M X.env scope.names []) C X.env) λe s'=>compPost (model X.prog X.w) X.A X.xe (some (assign (.Name y py) X.env)) (λ_ s'=>SP X pins Dn .next s') (.ref D) C (.error e) s') s8) (he C s2 H2 fp _ s7' σ7 H7' _ I7' qe) (λyv s8 h8=>by
      obtain⟨y,H8,I8,r8,m',hm',w8⟩:=h8;obtain⟨⟨pD1,pD2⟩,st8,fr8,I8u⟩:=after I8;refine append_at (hsz:=by rw[wY, <- hl4];exact uC hsz) pD1 λh9 sb9 hD9 =>?_;refine⟨m',hm',i+1,ys++[y],its++[yv],σ7,H8,I8u.turned (it:=D) (t':=s8.toks) (λb o n e=>sb9.extBut b o n e) pD2 hDC (.inr (by rw[hDD];exact wp _)) (λy a e z=>by
        have:=cellD y a (cp.clo I2 e).1;rw[z] at this;exact vj _ this) (λp hp=>by simp[Y] at hp),?_,Vals.append hv4 (.cons r8 .nil),pD2,T.keep _ _ _ st8 λb hb o e=>sb9.extBut b o (fpD b hb) e,fr8,w8⟩
      show h9.get? D=_;rw[hD9];simp) (E':=notedBy (model X.prog X.w) X.A (compEnvC scope (z2M X.env scope.names []) C X.env) λe s'=>compPost (model X.prog X.w) X.A X.xe (some (assign (.Name y py) X.env)) (λ_ s'=>SP X pins Dn .next s') (.ref D) C (.error e) s') (λ_ _ z=>z.elim)
    cases ct with
    | none=>
     have ht':tc=z4R:=ht;subst ht';simp only[zdW,jw];have q7':if true=true then te σ7 H7 λy H3=>∃m',m'<n/\W (i+1) m' (ys++[y]) σ7 H3 else ∃m',m'<n/\W (i+1) m' ys σ7 H7:=q7
     rw[if_pos rfl] at q7';exact yes s7 H7 I7 q7'
    | some c=>
     refine w6 (ht C s2 H2 fp _ s7 σ7 H7 _ I7 q7) (λb s8 h8 =>?_) λ_ _ z=>z.elim;obtain⟨H8,I8,q8⟩:=h8
     cases b with
     | true=>
      rw[if_pos rfl] at q8 ⊢;exact yes s8 H8 I8 q8
     | false=>
      rw[if_neg wP] at q8 ⊢;obtain⟨m',hm',w8⟩:=q8;obtain⟨⟨pD1,pD2⟩,st8,fr8,I8u⟩:=after I8;exact⟨m',hm',i+1,ys,its,σ7,H8,I8u,pD1,hv4,pD2,st8,fr8,w8⟩
  .rw[e3];exact hacc
  .rw[e3];exact T.keep _ _ _ st2 λb _ o e=>old b o e
 exact codeAny_compStart_list (loop _ rfl) (T.self _ 0 _ _ _ (T.keep _ _ _ st2 λb _ o e=>old b o e) (loop _ rfl))
def zhT {elt iter target:Expr}{ct:Option Expr}{pos spos py:Pos}{y:Str}{iy:Nat}(hN:X.N.Nodup)(hiy:X.N[iy]? = some y)(hly:X.env.scope.names.lookup y=some .local){scope:Scope}{wi:TI}{g:TG}{tc:TT}{te:TE}{N':List Str}{nt:Nat}{js:List Nat}(hc:X.calm=true)(hi:QI X target iter wi)(hk:scope.kind = .function)(cp:z43 X N' nt js scope)
  (hg:∀(C:Addr) (s:Shared) (H:Hp) (fp:List Addr),QG (X.compG scope N' C s H fp) target g)
  (ht:match ct with
   | none=>tc=z4R
   | some c=>∀(C:Addr) (s:Shared) (H:Hp) (fp:List Addr),QT (X.compG scope N' C s H fp) c tc)
  (he:∀(C:Addr) (s:Shared) (H:Hp) (fp:List Addr),QE (X.compG scope N' C s H fp) elt te) (hsw:autoParam (swapsWith (.ListComp elt [⟨target,iter,ct.toList,0⟩] scope pos) (some (.Name y py)) spos.line X.env=pure true) jT) (hs:autoParam (∀x,foldedSetIterable iter X.env x=pure x) jV):QS X (.Assign [.Name y py] (.ListComp elt [⟨target,iter,ct.toList,0⟩] scope pos) spos) (tAsg (tLcG wi g tc te nt js) (z2u iy)):=by
 refine⟨zih hN hiy hly hc hi.p hk cp (λC s H fp=>(hg C s H fp).p) ?_ (λC s H fp=>(he C s H fp).p) hsw hs⟩
 cases ct with
 | none=>exact ht
 | some c=>exact λC s H fp=>(ht C s H fp).p
end
end L2
namespace Pu
open PySem PySem.Spec PyProof.Rows L2
inductive D where
 | non | bl (b:Bool) | int (i:Int) | str (x:Str) | tup (l:List D) | lst (l:List D) | dct (ks vs:List D) | fn (n:Nat) | exc (x:Str) | ptr (a:Addr) | ins (n:Str) (fs:List Str) (cs:List D) | fz (ks vs:List D)
instance:Inhabited D:=⟨.non⟩
def z5h:Nat->Str
 | 0=>"turn_by" | 1=>"turn_among" | 2=>"step_of" | 3=>"step_among" | _=>""
def kD:Key->D
 | .inl i =>.int i
 | .inr x =>.str x
section
variable (K:W.Frag)(mg:WmP)
mutual
/-- the value v stands for d,in the heap G -/
def RD (G:Hp):D->V->Prop
 | .non,v=>v = .non
 | .bl b,v=>v = .bl b
 | .int i,v=>v = .int i
 | .str x,v=>v = .str x
 | .tup ds,v=>∃a xs,v = .ref a/\SqT K G a xs/\RDs G ds xs
 | .lst ds,v=>∃a xs,v = .ref a/\SqL K G a xs/\RDs G ds xs
 | .dct ks vs,v=>∃a xs,v = .ref a/\RDs G vs xs/\((∃kvs:List (Key × V),Rd G a (.dK kvs)/\ks=kvs.map (λp=>kD p.1)/\xs=kvs.map (·.2))\/∃kvs:List (List Key × V),G a=some (.dT kvs)/\kvs≠[]/\ks=kvs.map (λp =>.tup (p.1.map kD))/\xs=kvs.map (·.2))
 | .fn n,v=>∃f,v = .ref f/\mg (z5h n)=some (.ref f)
 | .exc x,v=>∃ea C,v = .ref ea/\G ea=some (.ext (zlD ea C))/\mg x=some (.ref C)
 | .ptr a,v=>v = .ref a
 | .fz ks vs,v=>∃a xs,v = .ref a/\RDs G vs xs/\∃(o:Obj) (kvs:List (Key × V)),G a=some (.frz o (.dK kvs))/\ks=kvs.map (λp=>kD p.1)/\xs=kvs.map (·.2)
 | .ins n fs cs,v=>∃p C dx xs,v = .ref p/\G p=some (.ins C dx (fs.zip xs))/\mg n=some (.ref C)/\RDs G cs xs
def RDs (G:Hp):List D->List V->Prop
 | [],xs=>xs=[]
 | d::ds,xs=>∃x r,xs=x::r/\RD G d x/\RDs G ds r
end
end
section
variable {K:W.Frag}{mg:WmP}{G G' H H':Hp}
def Same.refl':Same H H:=λ_ _ h=>h
def z02 {A B C:Hp}(h:Same A B)(h':Same B C):Same A C:=λa o e=>h' a o (h a o e)
def z14 {a:Addr}{xs:List V}(e:Same G G')(h:SqL K G a xs):SqL K G' a xs:=by
 rcases h with (h | ⟨o,h⟩) | h
 .exact .inl (.inl (e _ _ h))
 .exact .inl (.inr ⟨o,e _ _ h⟩)
 .exact .inr h
def z0y {a:Addr}{xs:List V}(e:Same G G')(h:SqT K G a xs):SqT K G' a xs:=by
 rcases h with (h | ⟨o,h⟩) | h
 .exact .inl (.inl (e _ _ h))
 .exact .inl (.inr ⟨o,e _ _ h⟩)
 .exact .inr h
mutual
theorem RD.same (e:Same G G'):∀(d:D) {v:V},RD K mg G d v->RD K mg G' d v
 | .non,_,h=>by simpa[RD] using h
 | .bl _,_,h=>by simpa[RD] using h
 | .int _,_,h=>by simpa[RD] using h
 | .str _,_,h=>by simpa[RD] using h
 | .fn _,_,h=>by rw[RD] at h ⊢;exact h
 | .exc _,_,h=>by
  rw[RD] at h ⊢;obtain⟨ea,C,h1,h2,h3⟩:=h;exact⟨ea,C,h1,e _ _ h2,h3⟩
 | .ptr _,_,h=>by rw[RD] at h ⊢;exact h
 | .fz _ vs,_,h=>by
  rw[RD] at h ⊢;obtain⟨a,xs,h1,h2,o,kvs,q,r⟩:=h;exact⟨a,xs,h1,RDs.same e vs h2,o,kvs,e _ _ q,r⟩
 | .ins _ _ cs,_,h=>by
  rw[RD] at h ⊢;obtain⟨p,C,dx,xs,h1,h2,h3,h4⟩:=h;exact⟨p,C,dx,xs,h1,e _ _ h2,h3,RDs.same e cs h4⟩
 | .tup ds,_,h=>by
  rw[RD] at h ⊢;obtain⟨a,xs,h1,h2,h3⟩:=h;exact⟨a,xs,h1,z0y e h2,RDs.same e ds h3⟩
 | .lst ds,_,h=>by
  rw[RD] at h ⊢;obtain⟨a,xs,h1,h2,h3⟩:=h;exact⟨a,xs,h1,z14 e h2,RDs.same e ds h3⟩
 | .dct ks vs,_,h=>by
  rw[RD] at h ⊢;obtain⟨a,xs,h1,h3,h4⟩:=h;refine⟨a,xs,h1,RDs.same e vs h3,?_⟩
  rcases h4 with ⟨kvs,q,r⟩ | ⟨kvs,q,r⟩
  .exact .inl ⟨kvs,q.imp (e _ _) λ⟨o,q⟩=>⟨o,e _ _ q⟩,r⟩
  .exact .inr ⟨kvs,e _ _ q,r⟩
theorem RDs.same (e:Same G G'):∀(ds:List D) {xs:List V},RDs K mg G ds xs->RDs K mg G' ds xs
 | [],_,h=>by simpa[RDs] using h
 | d::ds,_,h=>by
  rw[RDs] at h ⊢;obtain⟨x,r,h1,h2,h3⟩:=h;exact⟨x,r,h1,RD.same e d h2,RDs.same e ds h3⟩
end
def RDs.nil:RDs K mg G [] []:=by rw[RDs]
def RDs.cons {d:D}{v:V}{ds:List D}{vs:List V}(h:RD K mg G d v)(t:RDs K mg G ds vs):RDs K mg G (d::ds) (v::vs):=by exact⟨v,vs,rfl,h,t⟩
theorem RDs.len:∀{ds:List D}{vs:List V},RDs K mg G ds vs->vs.length=ds.length
 | [],_,h=>by subst h;rfl
 | _::_,_,h=>by
  obtain⟨x,r,rfl,_,h3⟩:=h;simp[RDs.len h3]
theorem RDs.app:∀{ds es:List D}{vs us:List V},RDs K mg G ds vs->RDs K mg G es us->RDs K mg G (ds++es) (vs++us)
 | [],_,_,_,h,k=>by subst h;exact k
 | _::_,_,_,_,h,k=>by
  obtain⟨x,r,rfl,h2,h3⟩:=h;exact RDs.cons h2 (RDs.app h3 k)
theorem RDs.get:∀{ds:List D}{vs:List V}{i:Nat}{d:D},RDs K mg G ds vs->ds[i]? = some d->∃v,vs[i]? = some v/\RD K mg G d v
 | [],_,_,_,_,e=>by simp at e
 | _::_,_,0,_,h,e=>by
  obtain⟨x,r,rfl,h2,h3⟩:=h;simp at e;subst e;exact⟨x,rfl,h2⟩
 | _::_,_,i+1,_,h,e=>by
  obtain⟨x,r,rfl,h2,h3⟩:=h;obtain⟨v,e1,e2⟩:=RDs.get h3 (by simpa using e);exact⟨v,by simpa using e1,e2⟩
theorem RDs.take:∀{ds:List D}{vs:List V}(n:Nat),RDs K mg G ds vs->RDs K mg G (ds.take n) (vs.take n)
 | _,_,0,_=>by rfl
 | [],_,_+1,h=>by subst h;rfl
 | _::_,_,n+1,h=>by
  obtain⟨x,r,rfl,h2,h3⟩:=h;exact RDs.cons h2 (RDs.take n h3)
theorem RDs.drop:∀{ds:List D}{vs:List V}(n:Nat),RDs K mg G ds vs->RDs K mg G (ds.drop n) (vs.drop n)
 | _,_,0,h=>by simpa using h
 | [],_,_+1,h=>by subst h;rfl
 | _::_,_,n+1,h=>by
  obtain⟨x,r,rfl,h2,h3⟩:=h;exact RDs.drop n h3
def RDs.rev {ds:List D}{vs:List V}(h:RDs K mg G ds vs):RDs K mg G ds.reverse vs.reverse:=by
 induction ds generalizing vs with
 | nil=>subst h;rfl
 | cons d ds ih=>
  obtain⟨x,r,rfl,h2,h3⟩:=h;rw[ui,ui];exact RDs.app (ih h3) (RDs.cons h2 RDs.nil)
theorem RDs.set {d:D}{v:V}(q:RD K mg G d v):∀{ds:List D}{vs:List V}(i:Nat),RDs K mg G ds vs->RDs K mg G (ds.set i d) (vs.set i v)
 | [],_,_,h=>by subst h;rfl
 | _::_,_,0,h=>by
  obtain⟨x,r,rfl,h2,h3⟩:=h;exact RDs.cons q h3
 | _::_,_,i+1,h=>by
  obtain⟨x,r,rfl,h2,h3⟩:=h;exact RDs.cons h2 (RDs.set q i h3)
theorem RDs.at {ds:List D}{vs:List V}{i:Int}{d:D}(h:RDs K mg G ds vs)(e:atI ds i=some d):∃v,atI vs i=some v/\RD K mg G d v:=by
 unfold atI at e ⊢;rw[h.len]
 cases q:ixN _ i with
 | none=>simp_all
 | some j=>
  rw[q] at e;exact h.get e
def RDs.cut {ds:List D}{vs:List V}(lo hi:Option Int)(h:RDs K mg G ds vs):RDs K mg G ((ds.drop (HT.sIx ds.length 0 lo)).take (HT.sIx ds.length ds.length hi - HT.sIx ds.length 0 lo)) (cutV vs lo hi):=by
 unfold cutV;rw[h.len];exact(h.drop _).take _
end
inductive B where
 | n | s (d:D) | o (d:D)
abbrev Env:=List B
def B.get:B->Option D
 | .n=>none
 | .s d=>some d
 | .o d=>some d
def Env.get (ρ:Env)(i:Nat):Option D:=match ρ,i with
 | [],_=>none
 | b::_,0=>b.get
 | _::r,i+1=>Env.get r i
theorem Env.get_eq:∀(ρ:Env) (i:Nat),Env.get ρ i=(ρ[i]?).bind B.get
 | [],i=>by rfl
 | b::r,0=>by rfl
 | b::r,i+1=>by simp[Env.get,Env.get_eq r i]
abbrev DK:=D->Prop
abbrev XP:=Str->Prop
structure Fn where
 run:List D->DK->XP->Prop
 mono:∀ds (Q Q':DK) (X X':XP),(∀d,Q d->Q' d)->(∀x,X x->X' x)->run ds Q X->run ds Q' X'
structure Ex where
 run:Env->DK->XP->Prop
 mono:∀ρ (Q Q':DK) (X X':XP),(∀d,Q d->Q' d)->(∀x,X x->X' x)->run ρ Q X->run ρ Q' X'
structure Sm where
 run:Env->(Env->Prop)->DK->XP->Prop
 mono:∀ρ (N N':Env->Prop) (Q Q':DK) (X X':XP),(∀ρ,N ρ->N' ρ)->(∀d,Q d->Q' d)->(∀x,X x->X' x)->run ρ N Q X->run ρ N' Q' X'
def onV (o:Option D)(Q:DK):Prop:=match o with
 | some d=>Q d
 | none=>False
def Ex.c (d:D):Ex:=⟨λ_ Q _=>Q d,λ_ _ _ _ _ m _ q=>m _ q⟩
def Ex.v (i:Nat):Ex:=⟨λρ Q _=>onV (ρ.get i) Q,λρ Q Q' _ _ m _ q=>by
 show onV (ρ.get i) Q';have q':onV (ρ.get i) Q:=q
 cases e:ρ.get i with
 | none=>rw[e] at q';exact q'
 | some d=>rw[e] at q';exact m _ q'⟩
def runs:List Ex->Env->(List D->Prop)->XP->Prop
 | [],_,Q,_=>Q []
 | e::es,ρ,Q,X=>e.run ρ (λd=>runs es ρ (λds=>Q (d::ds)) X) X
theorem z2U:∀(es:List Ex) (ρ:Env) (Q Q':List D->Prop) (X X':XP),(∀d,Q d->Q' d)->(∀x,X x->X' x)->runs es ρ Q X->runs es ρ Q' X'
 | [],_,_,_,_,_,m,_,q=>m _ q
 | e::es,ρ,Q,Q',X,X',m,mx,q=>e.mono ρ _ _ X X' (λd q1=>z2U es ρ _ _ X X' (λds q2=>m _ q2) mx q1) mx q
def Ex.op (f:Fn)(es:List Ex):Ex:=⟨λρ Q X=>runs es ρ (λds=>f.run ds Q X) X,λρ Q Q' X X' m mx q=>z2U es ρ _ _ X X' (λds q1=>f.mono ds Q Q' X X' m mx q1) mx q⟩
def tst (d:D)(A B:Prop):Prop:=match d with
 | .bl b=>(b=true->A)/\(b=false->B)
 | _=>False
def z2w {d:D}{A A' B B':Prop}(ha:A->A')(hb:B->B')(h:tst d A B):tst d A' B':=by
 cases d with
 | bl b=>exact⟨λe=>ha (h.1 e),λe=>hb (h.2 e)⟩
 | _=>exact h.elim
def z6H {d:D}{A B:Prop}(h:tst d A B):∃b,d = .bl b/\(b=true->A)/\(b=false->B):=by
 cases d with
 | bl b=>exact⟨b,rfl,h⟩
 | _=>exact h.elim
def Ex.and (a b:Ex):Ex:=⟨λρ Q X=>a.run ρ (λd=>tst d (b.run ρ Q X) (Q (.bl false))) X,λρ Q Q' X X' m mx q=>a.mono ρ _ _ X X' (λd q1=>z2w (b.mono ρ Q Q' X X' m mx) (m _) q1) mx q⟩
def Ex.or (a b:Ex):Ex:=⟨λρ Q X=>a.run ρ (λd=>tst d (Q (.bl true)) (b.run ρ Q X)) X,λρ Q Q' X X' m mx q=>a.mono ρ _ _ X X' (λd q1=>z2w (m _) (b.mono ρ Q Q' X X' m mx) q1) mx q⟩
def Ex.not (a:Ex):Ex:=⟨λρ Q X=>a.run ρ (λd=>match d with | .bl b=>Q (.bl (!b)) | _=>False) X,λρ Q Q' X X' m mx q=>a.mono ρ _ _ X X' (λd q1=>by
 cases d with
 | bl b=>exact m _ q1
 | _=>exact q1.elim) mx q⟩
inductive Tg where
 | nm (i:Nat) | tp (is:List Nat)
def z0G:List Nat->List D->Env->Env
 | i::is,d::ds,ρ=>z0G is ds (ρ.set i (.s d))
 | _,_,ρ=>ρ
def Tg.put (t:Tg)(d:D)(ρ:Env)(K:Env->Prop):Prop:=match t,d with
 | .nm i,d=>K (ρ.set i (.s d))
 | .tp is,.tup ds=>is.length=ds.length/\K (z0G is ds ρ)
 | _,_=>False
def Tg.put_mono {t:Tg}{d:D}{ρ:Env}{K K':Env->Prop}(m:∀ρ,K ρ->K' ρ)(h:t.put d ρ K):t.put d ρ K':=by
 cases t with
 | nm i=>exact m _ h
 | tp is=>
  cases d with
  | tup ds=>exact⟨h.1,m _ h.2⟩
  | _=>exact h.elim
def z03:D->Option (List D)
 | .lst l=>some l
 | .tup l=>some l
 | .str x=>some (x.cps.toList.map λc =>.str ⟨#[c]⟩)
 | _=>none
def onL (o:Option (List D))(Q:List D->Prop):Prop:=match o with
 | some l=>Q l
 | none=>False
def z8N {o:Option (List D)}{Q Q':List D->Prop}(m:∀l,Q l->Q' l)(h:onL o Q):onL o Q':=by
 cases o with
 | none=>exact h
 | some l=>exact m _ h
def z3Z (f:D->(Option D->Prop)->Prop):List D->(List D->Prop)->Prop
 | [],N=>N []
 | x::xs,N=>f x λo=>z3Z f xs λr=>N (o.toList++r)
theorem z3o {f f':D->(Option D->Prop)->Prop}(hf:∀x K K',(∀o,K o->K' o)->f x K->f' x K'):∀(xs:List D) (N N':List D->Prop),(∀l,N l->N' l)->z3Z f xs N->z3Z f' xs N'
 | [],_,_,m,q=>m _ q
 | x::xs,N,N',m,q=>hf x _ _ (λo q1=>z3o hf xs _ _ (λr q2=>m _ q2) q1) q
def z15 (nt:Nat)(js:List Nat)(ρ:Env):Env:=List.replicate nt .n++js.map λj=>(ρ[j]?).getD .n
def z4j (t:Tg)(c:Option Ex)(elt:Ex)(ρ:Env)(x:D)(K:Option D->Prop):Prop:=
 t.put x ρ λρ'=>match c with
  | none=>elt.run ρ' (λd=>K (some d)) (λ_=>False)
  | some c=>c.run ρ' (λb=>tst b (elt.run ρ' (λd=>K (some d)) (λ_=>False)) (K none)) (λ_=>False)
def z4i {t:Tg}{c:Option Ex}{elt:Ex}{ρ:Env}(x:D)(K K':Option D->Prop)(m:∀o,K o->K' o)(h:z4j t c elt ρ x K):z4j t c elt ρ x K':=by
 refine Tg.put_mono (λρ' q =>?_) h
 cases c with
 | none=>exact elt.mono ρ' _ _ _ _ (λd q1=>m _ q1) (λ_ z=>z) q
 | some c=>exact c.mono ρ' _ _ _ _ (λb q1=>z2w (elt.mono ρ' _ _ _ _ (λd q2=>m _ q2) (λ_ z=>z)) (m _) q1) (λ_ z=>z) q
def Ex.comp (nt:Nat)(js:List Nat)(t:Tg)(src:Ex)(c:Option Ex)(elt:Ex):Ex:=
 ⟨λρ Q X=>src.run ρ (λd=>onL (z03 d) λl=>l.length<sizeLine/\z3Z (z4j t c elt (z15 nt js ρ)) l λr=>Q (.lst r)) X,λρ Q Q' X X' m mx q=>
  src.mono ρ _ _ X X' (λd q1=>z8N (λl q2=>⟨q2.1,z3o z4i l _ _ (λr q3=>m _ q3) q2.2⟩) q1) mx q⟩
def Sm.skip:Sm:=⟨λρ N _ _=>N ρ,λ_ _ _ _ _ _ _ m _ _ q=>m _ q⟩
def Sm.seq (a b:Sm):Sm:=⟨λρ N Q X=>a.run ρ (λρ'=>b.run ρ' N Q X) Q X,λρ N N' Q Q' X X' mn m mx q=>a.mono ρ _ _ Q Q' X X' (λρ' q1=>b.mono ρ' N N' Q Q' X X' mn m mx q1) m mx q⟩
mutual
def noL:D->Bool
 | .lst _=>false
 | .tup l=>noLs l
 | .dct ks vs=>noLs vs
 | .ins _ _ _=>false
 | .fz _ _=>false
 | _=>true
def noLs:List D->Bool
 | []=>true
 | d::ds=>noL d && noLs ds
end
mutual
def noD:D->Bool
 | .dct _ _=>false
 | .tup l=>noDs l
 | .lst l=>noDs l
 | .ins _ _ _=>false
 | .fz _ _=>false
 | _=>true
def noDs:List D->Bool
 | []=>true
 | d::ds=>noD d && noDs ds
end
def zh8 (d:D):B->Prop
 | .o (.lst _)=>noL d=true
 | .o (.dct _ _)=>noD d=true
 | _=>True
def Safe (d:D):Env->Prop
 | []=>True
 | b::r=>zh8 d b/\Safe d r
def zdX (d:D)(ρ:Env):Prop:=match d with
 | .lst l=>∀x∈l,Safe x ρ
 | .dct _ vs=>∀x∈vs,Safe x ρ
 | _=>False
def Sm.set (i:Nat)(e:Ex):Sm:=⟨λρ N _ X=>e.run ρ (λd=>Safe d (ρ.set i .n)/\N (ρ.set i (.s d))) X,λρ N N' Q Q' X X' mn m mx q=>e.mono ρ _ _ X X' (λd q1=>⟨q1.1,mn _ q1.2⟩) mx q⟩
def Sm.own (i:Nat)(e:Ex):Sm:=⟨λρ N _ X=>e.run ρ (λd=>zdX d (ρ.set i .n)/\N (ρ.set i (.o d))) X,λρ N N' Q Q' X X' mn m mx q=>e.mono ρ _ _ X X' (λd q1=>⟨q1.1,mn _ q1.2⟩) mx q⟩
def demB:B->B
 | .o d =>.s d
 | b=>b
def dem:List Nat->Env->Env
 | [],ρ=>ρ
 | j::js,ρ=>dem js (ρ.set j (demB ((ρ[j]?).getD .n)))
def visB:B->B
 | .o _ =>.n
 | b=>b
def vis (ρ:Env):Env:=ρ.map visB
def Sm.setx (js:List Nat)(i:Nat)(e:Ex):Sm:=⟨λρ N _ X=>e.run (vis (dem js ρ)) (λd=>N ((dem js ρ).set i (.s d))) X,λρ N N' Q Q' X X' mn m mx q=>e.mono _ _ _ X X' (λd q1=>mn _ q1) mx q⟩
def Sm.ifs (c:Ex)(a b:Sm):Sm:=⟨λρ N Q X=>c.run ρ (λd=>tst d (a.run ρ N Q X) (b.run ρ N Q X)) X,λρ N N' Q Q' X X' mn m mx q=>c.mono ρ _ _ X X' (λd q1=>z2w (a.mono ρ N N' Q Q' X X' mn m mx) (b.mono ρ N N' Q Q' X X' mn m mx) q1) mx q⟩
def Sm.ret (e:Ex):Sm:=⟨λρ _ Q X=>e.run ρ Q X,λρ N N' Q Q' X X' mn m mx q=>e.mono ρ _ _ X X' m mx q⟩
def Sm.ex (e:Ex):Sm:=⟨λρ N _ X=>e.run ρ (λ_=>N ρ) X,λρ N N' Q Q' X X' mn m mx q=>e.mono ρ _ _ X X' (λ_ q1=>mn _ q1) mx q⟩
def wh (c:Ex)(b:Sm)(N:Env->Prop)(Q:DK)(X:XP):Nat->Env->Prop
 | 0,_=>False
 | n+1,ρ=>c.run ρ (λd=>tst d (b.run ρ (wh c b N Q X n) Q X) (N ρ)) X
theorem za2 {c:Ex}{b:Sm}{N N':Env->Prop}{Q Q':DK}{X X':XP}(mn:∀ρ,N ρ->N' ρ)(m:∀d,Q d->Q' d)(mx:∀x,X x->X' x):∀(n:Nat) (ρ:Env),wh c b N Q X n ρ->wh c b N' Q' X' n ρ
 | 0,_,q=>q
 | n+1,ρ,q=>c.mono ρ _ _ X X' (λd q1=>z2w (b.mono ρ _ _ Q Q' X X' (λρ' q2=>za2 mn m mx n ρ' q2) m mx) (mn ρ) q1) mx q
def Sm.wh (c:Ex)(b:Sm):Sm:=⟨λρ N Q X=>∃n,Pu.wh c b N Q X n ρ,λρ N N' Q Q' X X' mn m mx ⟨n,q⟩=>⟨n,za2 mn m mx n ρ q⟩⟩
def forL (t:Tg)(b:Sm)(N:Env->Prop)(Q:DK)(X:XP):List D->Env->Prop
 | [],ρ=>N ρ
 | x::xs,ρ=>t.put x ρ λρ'=>b.run ρ' (forL t b N Q X xs) Q X
theorem z5g {t:Tg}{b:Sm}{N N':Env->Prop}{Q Q':DK}{X X':XP}(mn:∀ρ,N ρ->N' ρ)(m:∀d,Q d->Q' d)(mx:∀x,X x->X' x):∀(l:List D) (ρ:Env),forL t b N Q X l ρ->forL t b N' Q' X' l ρ
 | [],_,q=>mn _ q
 | x::xs,ρ,q=>Tg.put_mono (λρ' q1=>b.mono ρ' _ _ Q Q' X X' (λρ2 q2=>z5g mn m mx xs ρ2 q2) m mx q1) q
def Sm.for_ (js:List Nat)(t:Tg)(src:Ex)(b:Sm):Sm:=⟨λρ N Q X=>src.run (vis (dem js ρ)) (λd=>onL (z03 d) λl=>forL t b N Q X l (dem js ρ)) X,λρ N N' Q Q' X X' mn m mx q=>src.mono _ _ _ X X' (λd q1=>z8N (λl q2=>z5g mn m mx l _ q2) q1) mx q⟩
def onR (ds:List D)(K:List D->Prop):Prop:=match ds with
 | [.int j]=>(-(2 ^ 62)<=j/\j<2 ^ 62)/\K ((List.range j.toNat).map λ(k:Nat) =>.int (k:Int))
 | [.int i,.int j]=>((-(2 ^ 62)<=i/\i<2 ^ 62) /\ -(2 ^ 62)<=j/\j<2 ^ 62)/\K ((List.range (j - i).toNat).map λ(k:Nat) =>.int (i+(k:Int)))
 | _=>False
def z8L {ds:List D}{K K':List D->Prop}(m:∀l,K l->K' l)(h:onR ds K):onR ds K':=by
 unfold onR at h ⊢
 split at h
 .exact⟨h.1,m _ h.2⟩
 .exact⟨h.1,m _ h.2⟩
 omega
def Sm.forr (es:List Ex)(t:Tg)(b:Sm):Sm:=⟨λρ N Q X=>runs es ρ (λds=>onR ds λl=>forL t b N Q X l ρ) X,λρ N N' Q Q' X X' mn m mx q=>z2U es ρ _ _ X X' (λd q1=>z8L (λl q2=>z5g mn m mx l _ q2) q1) mx q⟩
def ownL (ρ:Env)(i:Nat)(K:List D->Prop):Prop:=match ρ[i]? with
 | some (.o (.lst l))=>K l
 | _=>False
def z3O {ρ:Env}{i:Nat}{K K':List D->Prop}(m:∀l,K l->K' l)(h:ownL ρ i K):ownL ρ i K':=by
 unfold ownL at h ⊢
 split <;> rename_i e
 .simp_all
 simp_all
def Sm.app (i:Nat)(e:Ex):Sm:=⟨λρ N _ X=>ownL ρ i λl=>e.run ρ (λd=>l.length<sizeLine/\Safe d ρ/\N (ρ.set i (.o (.lst (l++[d]))))) X,λρ N N' Q Q' X X' mn m mx q=>z3O (λl q1=>e.mono ρ _ _ X X' (λd q2=>⟨q2.1,q2.2.1,mn _ q2.2.2⟩) mx q1) q⟩
def popL (l:List D)(K:List D->D->Prop):Prop:=match l[l.length - 1]? with
 | some d=>K l.dropLast d
 | none=>False
def zaH {l:List D}{K K':List D->D->Prop}(m:∀l d,K l d->K' l d)(h:popL l K):popL l K':=by
 unfold popL at h ⊢
 split <;> rename_i e
 .simp_all
 simp_all
def Sm.pop (i:Nat):Sm:=⟨λρ N _ _=>ownL ρ i λl=>popL l λl' _=>N (ρ.set i (.o (.lst l'))),λρ N N' Q Q' X X' mn m mx q=>z3O (λl q1=>zaH (λ_ _ q2=>mn _ q2) q1) q⟩
def isLs (d:D)(K:List D->Prop):Prop:=match d with
 | .lst l=>K l
 | _=>False
def z7m {d:D}{K K':List D->Prop}(m:∀j,K j->K' j)(h:isLs d K):isLs d K':=by
 cases d with
 | lst l=>exact m _ h
 | _=>exact h.elim
def Sm.ext (i:Nat)(e:Ex):Sm:=⟨λρ N _ X=>ownL ρ i λl=>e.run ρ (λd=>isLs d λm=>l.length+m.length<=sizeLine/\(∀x∈m,Safe x ρ)/\N (ρ.set i (.o (.lst (l++m))))) X,λρ N N' Q Q' X X' mn m mx q=>z3O (λl q1=>e.mono ρ _ _ X X' (λd q2=>z7m (λm q3=>⟨q3.1,q3.2.1,mn _ q3.2.2⟩) q2) mx q1) q⟩
def onN (o:Option Nat)(K:Nat->Prop):Prop:=match o with
 | some j=>K j
 | none=>False
def zdd {o:Option Nat}{K K':Nat->Prop}(m:∀j,K j->K' j)(h:onN o K):onN o K':=by
 cases o with
 | none=>exact h
 | some l=>exact m _ h
def isI (d:D)(K:Int->Prop):Prop:=match d with
 | .int i=>K i
 | _=>False
def z8V {d:D}{K K':Int->Prop}(m:∀j,K j->K' j)(h:isI d K):isI d K':=by
 cases d with
 | int i=>exact m _ h
 | _=>exact h.elim
def Sm.put (i:Nat)(k e:Ex):Sm:=⟨λρ N _ X=>ownL ρ i λl=>e.run ρ (λd=>Safe d ρ/\k.run ρ (λkd=>isI kd λz=>onN (ixN l.length z) λj=>N (ρ.set i (.o (.lst (l.set j d))))) X) X,λρ N N' Q Q' X X' mn m mx q=>
 z3O (λl q1=>e.mono ρ _ _ X X' (λd q2=>⟨q2.1,k.mono ρ _ _ X X' (λkd q3=>z8V (λz q4=>zdd (λj q5=>mn _ q5) q4) q3) mx q2.2⟩) mx q1) q⟩
def Fn.mk' (np nn:Nat)(b:Sm):Fn:=⟨λds Q X=>ds.length=np/\b.run (ds.map B.s++List.replicate (nn - np) .n) (λ_=>Q .non) Q X,λds Q Q' X X' m mx q=>⟨q.1,b.mono _ _ _ Q Q' X X' (λ_ q1=>m _ q1) m mx q.2⟩⟩
def Fn.mkN (np nn:Nat)(b:Sm):Fn:=⟨λds Q _=>ds.length=np/\b.run (ds.map B.s++List.replicate (nn - np) .n) (λ_=>Q .non) Q (λ_=>False),λds Q Q' X X' m mx q=>⟨q.1,b.mono _ _ _ Q Q' _ _ (λ_ q1=>m _ q1) m (λ_ z=>z) q.2⟩⟩
def Sm.calm (b:Sm):Sm:=⟨λρ N Q _=>b.run ρ N Q (λ_=>False),λρ N N' Q Q' X X' mn m mx q=>b.mono ρ N N' Q Q' _ _ mn m (λ_ z=>z) q⟩
def AbE (K:W.Frag)(mg:WmP)(G:Hp)(ρ:Pu.Env)(σ:L2.St):Prop:=∀i d,ρ.get i=some d->∃v,σ[i]? = some (some v)/\RD K mg G d v
def Gr (G H G':Hp):Prop:=Same G G'/\∀a o,G' a=some o->(∃u,G a=some u)\/H a=none
def Gr.refl {G H:Hp}:Gr G H G:=⟨Same.refl',λa o e =>.inl ⟨o,e⟩⟩
def Gr.trans {G H G1 H1 G2:Hp}(h:Gr G H G1)(k:Same H H1)(h':Gr G1 H1 G2):Gr G H G2:=⟨z02 h.1 h'.1,λa o e=>by
 rcases h'.2 a o e with ⟨u,q⟩ | q
 .exact h.2 a u q
 .refine .inr ?_
  cases z:H a with
  | none=>rfl
  | some w=>rw[k a w z] at q;cases q⟩
def Gr.new {G H:Hp}{p:Addr}{o:HO}(g:Same G H)(hp:H p=none):Gr G H (upd G p o):=by
 have gp:G p=none:=by
  cases e:G p with
  | none=>rfl
  | some u=>rw[g p u e] at hp;cases hp
 refine⟨z0f gp o,λa u e =>?_⟩
 by_cases ha:a=p
 .subst ha;exact .inr hp
 .rw[z04 ha] at e;exact .inl ⟨u,e⟩
def Kt (K:W.Frag)(mg:WmP)(G H:Hp)(Q0:DK)(Q:VK):Prop:=∀d v G' H',Q0 d->Gr G H G'->Same G' H'->Same H H'->RD K mg G' d v->Q v H'
def Kts (K:W.Frag)(mg:WmP)(G H:Hp)(Q0:List D->Prop)(Q:List V->Hp->Prop):Prop:=∀ds vs G' H',Q0 ds->Gr G H G'->Same G' H'->Same H H'->RDs K mg G' ds vs->Q vs H'
def Kx (mg:WmP)(H:Hp)(X0:XP)(E:XK):Prop:=∀x C H',X0 x->mg x=some (.ref C)->Same H H'->E (.ref C) none H'
def tx (K:W.Frag)(mg:WmP)(E:XK)(e:Ex):TE:=λσ H Q=>∃G ρ Q0 X0,Same G H/\AbE K mg G ρ σ/\e.run ρ Q0 X0/\Kt K mg G H Q0 Q/\Kx mg H X0 E
def txa (K:W.Frag)(mg:WmP)(E:XK)(es:List Ex):TA:=λσ H Q=>∃G ρ Q0 X0,Same G H/\AbE K mg G ρ σ/\runs es ρ Q0 X0/\Kts K mg G H Q0 Q/\Kx mg H X0 E
def tt (K:W.Frag)(mg:WmP)(E:XK)(e:Ex):TT:=λσ H Q=>∃G ρ Q0 X0,Same G H/\AbE K mg G ρ σ/\e.run ρ Q0 X0/\(∀d G' H',Q0 d->Gr G H G'->Same G' H'->Same H H'->∃b,d = .bl b/\Q b H')/\Kx mg H X0 E
section
variable {K:W.Frag}{mg:WmP}{G G' H H':Hp}{ρ:Pu.Env}{σ:L2.St}{Q0:DK}{Q:VK}{X0:XP}{E:XK}
theorem AbE.same (h:AbE K mg G ρ σ)(g:Same G G'):AbE K mg G' ρ σ:=λi d e=>by
 obtain⟨v,h1,h2⟩:=h i d e;exact⟨v,h1,h2.same g⟩
def Kt.same (h:Kt K mg G H Q0 Q)(g:Gr G H G')(k:Same H H'):Kt K mg G' H' Q0 Q:=λd v G1 H1 q a b c r=>h d v G1 H1 q (g.trans k a) b (z02 k c) r
def Kx.same (h:Kx mg H X0 E)(k:Same H H'):Kx mg H' X0 E:=λx C H1 q m c=>h x C H1 q m (z02 k c)
def Kx.no {E:XK}:Kx mg H (λ_=>False) E:=λ_ _ _ z=>z.elim
def Kt.now {d:D}{v:V}(h:Kt K mg G H Q0 Q)(g:Same G H)(q:Q0 d)(r:RD K mg G d v):Q v H:=h d v G H q Gr.refl g Same.refl' r
theorem Kt.new {d:D}{p:Addr}{o:HO}{v:V}(h:Kt K mg G H Q0 Q)(g:Same G H)(hp:H p=none)(q:Q0 d)(r:RD K mg (upd G p o) d v):Q v (upd H p o):=by
 refine h d v _ _ q (Gr.new g hp) (λb u e =>?_) (z0f hp o) r
 by_cases hb:b=p
 .subst hb;rw[z06] at e ⊢;exact e
 .rw[z04 hb] at e ⊢;exact g b u e
def z0S (g:Same G H){p:Addr}(hp:H p=none):G p=none:=by
 cases e:G p with
 | none=>rfl
 | some u=>rw[g p u e] at hp;cases hp
end
def Lk2 (K:W.Frag)(mg:WmP)(F:Fn)(r:R2):Prop:=∀(G H:Hp) (d1 d2:D) (v1 v2:V) (Q0:DK) (X0:XP) (Q:VK),Same G H->RD K mg G d1 v1->RD K mg G d2 v2->F.run [d1,d2] Q0 X0->Kt K mg G H Q0 Q->r v1 v2 H Q
def Lk1 (K:W.Frag)(mg:WmP)(F:Fn)(r:V->Hp->VK->Prop):Prop:=∀(G H:Hp) (d:D) (v:V) (Q0:DK) (X0:XP) (Q:VK),Same G H->RD K mg G d v->F.run [d] Q0 X0->Kt K mg G H Q0 Q->r v H Q
def LkN (K:W.Frag)(mg:WmP)(F:Fn)(r:List V->Hp->VK->Prop):Prop:=∀(G H:Hp) (ds:List D) (vs:List V) (Q0:DK) (X0:XP) (Q:VK),Same G H->RDs K mg G ds vs->F.run ds Q0 X0->Kt K mg G H Q0 Q->r vs H Q
section
variable {K:W.Frag}{mg:WmP}{E:XK}{σ:L2.St}{H:Hp}{Q:VK}{a b c:Ex}{F:Fn}{es:List Ex}
def tx2 {r:R2}(lk:Lk2 K mg F r)(h:tx K mg E (.op F [a,b]) σ H Q):tOp r (tx K mg E a) (tx K mg E b) σ H Q:=by
 obtain⟨G,ρ,Q0,X0,hs,ab,hr,hk,hx⟩:=h;refine⟨G,ρ,λd=>b.run ρ _ X0,X0,hs,ab,hr,?_,hx⟩;intro d v G1 H1 hb g1 g2 g3 rd;refine⟨G1,ρ,λd'=>F.run _ Q0 X0,X0,g2,ab.same g1.1,hb,?_,hx.same g3⟩;intro d' v' G2 H2 hF k1 k2 k3 rd';exact lk G2 H2 d d' v v' Q0 X0 Q k2 (rd.same k1.1) rd' hF (hk.same (g1.trans g3 k1) (z02 g3 k3))
def tx1 {r:V->Hp->VK->Prop}(lk:Lk1 K mg F r)(h:tx K mg E (.op F [a]) σ H Q):tUn r (tx K mg E a) σ H Q:=by
 obtain⟨G,ρ,Q0,X0,hs,ab,hr,hk,hx⟩:=h;refine⟨G,ρ,λd=>F.run [d] Q0 X0,X0,hs,ab,hr,?_,hx⟩;intro d v G1 H1 hF g1 g2 g3 rd;exact lk G1 H1 d v Q0 X0 Q g2 rd hF (hk.same g1 g3)
def txN {r:List V->Hp->VK->Prop}(lk:LkN K mg F r)(h:tx K mg E (.op F es) σ H Q):tCB r (txa K mg E es) σ H Q:=by
 obtain⟨G,ρ,Q0,X0,hs,ab,hr,hk,hx⟩:=h;refine⟨G,ρ,λds=>F.run ds Q0 X0,X0,hs,ab,hr,?_,hx⟩;intro ds vs G1 H1 hF g1 g2 g3 rd;exact lk G1 H1 ds vs Q0 X0 Q g2 rd hF (hk.same g1 g3)
end
theorem QE.imp {X:Cx}{e:Expr}{t t':TE}(h:QE X e t)(i:∀σ H Q,t' σ H Q->t σ H Q):QE X e t':=⟨h.p.imp i⟩
def QT.imp {X:Cx}{e:Expr}{t t':TT}(h:QT X e t)(i:∀σ H Q,t' σ H Q->t σ H Q):QT X e t':=⟨λpins s σ H Q I q=>h.p _ s σ H Q I (i σ H Q q)⟩
def QA.imp {X:Cx}{e:List Expr}{t t':TA}(h:QA X e t)(i:∀σ H Q,t' σ H Q->t σ H Q):QA X e t':=⟨λpos pins s σ H Q I q=>h.p pos _ s σ H Q I (i σ H Q q)⟩
def QW.imp {X:Cx}{e:Expr}{t t':TT}(h:QW X e t)(i:∀σ H Q,t' σ H Q->t σ H Q):QW X e t':=⟨λw pins s σ H Q I q=>h.p w _ s σ H Q I (i σ H Q q)⟩
def QS.imp {X:Cx}{e:Stmt}{t t':TS}(h:QS X e t)(i:∀D σ H,t' D σ H->t D σ H):QS X e t':=⟨λpins s σ H D I q=>h.p _ s σ H D I (i D σ H q)⟩
def QSs.imp {X:Cx}{e:List Stmt}{t t':TS}(h:QSs X e t)(i:∀D σ H,t' D σ H->t D σ H):QSs X e t':=⟨λpins s σ H D I q=>h.p _ s σ H D I (i D σ H q)⟩
def QI.imp {X:Cx}{tg e:Expr}{t t':TI}(h:QI X tg e t)(i:∀σ H R,t' σ H R->t σ H R):QI X tg e t':=⟨λpins s σ H R I q=>h.p _ s σ H R I (i σ H R q)⟩
abbrev QX (X:Cx)(E:XK)(e:Expr)(x:Ex):Prop:=QE X e (tx X.K X.mg E x)
abbrev QXT (X:Cx)(E:XK)(e:Expr)(x:Ex):Prop:=QT X e (tt X.K X.mg E x)
abbrev QXW (X:Cx)(E:XK)(e:Expr)(x:Ex):Prop:=QW X e (tt X.K X.mg E x)
abbrev QXA (X:Cx)(E:XK)(es:List Expr)(x:List Ex):Prop:=QA X es (txa X.K X.mg E x)
section
variable {X:Cx}{E:XK}{e a b c:Expr}{x y z:Ex}{pos:Pos}{es:List Expr}{xs:List Ex}{rest:List Expr}
def qx_c {d:D}{v:V}(h:QE X e (tC v))(r:∀G,RD X.K X.mg G d v):QX X E e (.c d):=QE.imp h <| by rintro σ H Q ⟨G,ρ,Q0,X0,hs,ab,hr,hk,hx⟩;exact hk.now hs hr (r G)
def qx_v {i:Nat}(h:QE X e (tVar i)):QX X E e (.v i):=QE.imp h <| by
 rintro σ H Q ⟨G,ρ,Q0,X0,hs,ab,hr,hk,hx⟩;have hr':onV _ Q0:=hr
 cases q:ρ.get i with
 | none=>rw[q] at hr';exact hr'.elim
 | some d=>
  rw[q] at hr';obtain⟨v,h1,h2⟩:=ab i d q;exact⟨v,h1,hk.now hs hr' h2⟩
def zhG {i:Int}{j:Nat}:QX X E (.Constant (.int i) j pos) (.c (.int i)):=qx_c zi7 λ_=>by rw[RD]
def zkm {i:Bool}{j:Nat}:QX X E (.Constant (.bool i) j pos) (.c (.bl i)):=qx_c zkv λ_=>by rw[RD]
def zhE {j:Nat}:QX X E (.Constant .none j pos) (.c .non):=qx_c zi4 λ_=>by rw[RD]
def zhB {i:Str}{j:Nat}:QX X E (.Constant (.str i) j pos) (.c (.str i)):=qx_c zi1 λ_=>by rw[RD]
def zhK {op:Operator}{F:Fn}{r:R2}(ho:OpR X (binaryOp op) r)(lk:Lk2 X.K X.mg F r)(ha:QX X E a x)(hb:QX X E b y):QX X E (.BinOp a op b pos) (.op F [x,y]):=QE.imp (zks ho ha hb) λ_ _ _ h=>tx2 lk h
def zkg {op:UnaryOp}{F:Fn}{r:V->Hp->VK->Prop}(ho:UnR X (unaryOp op) r)(lk:Lk1 X.K X.mg F r)(ha:QX X E a x):QX X E (.UnaryOp op a pos) (.op F [x]):=QE.imp (zkr ho ha) λ_ _ _ h=>tx1 lk h
def zhJ {op:CmpOp}{F:Fn}{r:R2}(ho:OpR X (compareOp op) r)(lk:Lk2 X.K X.mg F r)(ha:QX X E a x)(hb:QX X E b y)(hm:behindInMarks op b=false):QX X E (.Compare a [op] [b] pos) (.op F [x,y]):=QE.imp (zfx ho ha hb hm) λ_ _ _ h=>tx2 lk h
def zeT {t:TE}{σ:L2.St}{H:Hp}{Q:Bool->Hp->Prop}(m:∀Q,tx X.K X.mg E x σ H Q->t σ H Q)(h:tt X.K X.mg E x σ H Q):zeY t σ H Q:=by
 obtain⟨G,ρ,Q0,X0,hs,ab,hr,hk,hx⟩:=h;refine m _ ⟨G,ρ,Q0,X0,hs,ab,hr,λd v G' H' q g1 g2 g3 rd =>?_,hx⟩;obtain⟨b,rfl,q'⟩:=hk d G' H' q g1 g2 g3;exact⟨b,rd,q'⟩
def zhR {op:CmpOp}{F:Fn}{r:R2}(ho:OpR X (compareOp op) r)(lk:Lk2 X.K X.mg F r)(ha:QX X E a x)(hb:QX X E b y)(hm:behindInMarks op b=false):QXT X E (.Compare a [op] [b] pos) (.op F [x,y]):=QT.imp (zfo ho ha hb hm) λσ H Q h=>zeT (λ_ h=>tx2 lk h) h
def zfn (h:QX X E e x)(he:autoParam (∀whole,isTrue e X.env whole=(do let v <- whole;standAt e.pos;holding [v] (truthy v))) jV):QXT X E e x:=QT.imp (zhP h he) λσ H Q h=>by
 obtain⟨G,ρ,Q0,X0,hs,ab,hr,hk,hx⟩:=h;refine⟨G,ρ,Q0,X0,hs,ab,hr,λd v G' H' q g1 g2 g3 rd =>?_,hx⟩;obtain⟨b,rfl,q'⟩:=hk d G' H' q g1 g2 g3;exact⟨b,rd,q'⟩
def zhD (ha:QX X E a x):QX X E (.UnaryOp .Not a pos) (.not x):=QE.imp (zi3 ha) <| by
 rintro σ H Q ⟨G,ρ,Q0,X0,hs,ab,hr,hk,hx⟩;refine⟨G,ρ,_,X0,hs,ab,hr,λd v G' H' q g1 g2 g3 rd =>?_,hx⟩
 cases d with
 | bl b=>
  exact⟨b,rd,hk _ _ G' H' q g1 g2 g3 (by rw[RD])⟩
 | _=>exact q.elim
def zfm (ha:QXT X E a x):QXT X E (.UnaryOp .Not a pos) (.not x):=QT.imp (zhQ ha) <| by
 rintro σ H Q ⟨G,ρ,Q0,X0,hs,ab,hr,hk,hx⟩;refine⟨G,ρ,_,X0,hs,ab,hr,λd G' H' q g1 g2 g3 =>?_,hx⟩
 cases d with
 | bl b=>
  obtain⟨b',e,q'⟩:=hk _ G' H' q g1 g2 g3
  cases e
  exact⟨b,rfl,q'⟩
 | _=>exact q.elim
def zhC {op}(h:QX X E a x):QX X E (.BoolOp op [a] pos) x:=zi2 h
def zhL (ha:QX X E a x)(hb:QX X E (.BoolOp .And (b::rest) pos) y):QX X E (.BoolOp .And (a::b::rest) pos) (.and x y):=QE.imp (zia ha hb) <| by
 rintro σ H Q ⟨G,ρ,Q0,X0,hs,ab,hr,hk,hx⟩;refine⟨G,ρ,_,X0,hs,ab,hr,λd v G' H' q g1 g2 g3 rd =>?_,hx⟩;obtain⟨k,rfl,q1,q2⟩:=z6H q;refine⟨k,rd,?_⟩
 cases k with
 | true=>exact iteT ⟨G',ρ,Q0,X0,g2,ab.same g1.1,q1 rfl,hk.same g1 g3,hx.same g3⟩
 | false=>exact iteF (hk _ _ G' H' (q2 rfl) g1 g2 g3 (by rw[RD]))
def zcM (ha:QXT X E a x):QXW X E (.BoolOp .And [a] pos) x:=zfl ha
def zfj (ha:QXT X E a x):QXW X E (.BoolOp .Or [a] pos) x:=zhN ha
def zfk (ha:QXT X E a x)(hb:QXW X E (.BoolOp .And (b::rest) pos) y):QXW X E (.BoolOp .And (a::b::rest) pos) (.and x y):=QW.imp (zhO ha hb) <| by
 rintro σ H Q ⟨G,ρ,Q0,X0,hs,ab,hr,hk,hx⟩;refine⟨G,ρ,_,X0,hs,ab,hr,λd G' H' q g1 g2 g3 =>?_,hx⟩;obtain⟨k,rfl,q1,q2⟩:=z6H q;refine⟨k,rfl,?_⟩
 cases k with
 | true=>exact iteT ⟨G',ρ,Q0,X0,g2,ab.same g1.1,q1 rfl,λd G2 H2 q k1 k2 k3=>hk d G2 H2 q (g1.trans g3 k1) k2 (z02 g3 k3),hx.same g3⟩
 | false=>
  obtain⟨b',e,q'⟩:=hk _ G' H' (q2 rfl) g1 g2 g3
  simp_all
def zhM (ha:QXT X E a x)(hb:QXW X E (.BoolOp .Or (b::rest) pos) y):QXW X E (.BoolOp .Or (a::b::rest) pos) (.or x y):=QW.imp (zko ha hb) <| by
 rintro σ H Q ⟨G,ρ,Q0,X0,hs,ab,hr,hk,hx⟩;refine⟨G,ρ,_,X0,hs,ab,hr,λd G' H' q g1 g2 g3 =>?_,hx⟩;obtain⟨k,rfl,q1,q2⟩:=z6H q;refine⟨k,rfl,?_⟩
 cases k with
 | false=>exact iteF ⟨G',ρ,Q0,X0,g2,ab.same g1.1,q2 rfl,λd G2 H2 q k1 k2 k3=>hk d G2 H2 q (g1.trans g3 k1) k2 (z02 g3 k3),hx.same g3⟩
 | true=>
  obtain⟨b',e,q'⟩:=hk _ G' H' (q1 rfl) g1 g2 g3
  simp_all
def zfi:QXA X E [] []:=QA.imp z5L <| by rintro σ H Q ⟨G,ρ,Q0,X0,hs,ab,hr,hk,hx⟩;exact hk [] [] G H hr Gr.refl hs Same.refl' RDs.nil
def zcJ (ha:QX X E e x)(hr:QXA X E es xs)(hs:autoParam (starEach (e::es) X.env=(false,eval e X.env)::starEach es X.env) jT):QXA X E (e::es) (x::xs):=QA.imp (z3x ha hr hs) <| by
 rintro σ H Q ⟨G,ρ,Q0,X0,hs,ab,hr,hk,hx⟩;refine⟨G,ρ,_,X0,hs,ab,hr,λd v G' H' q g1 g2 g3 rd =>?_,hx⟩;refine⟨G',ρ,_,X0,g2,ab.same g1.1,q,λds vs G2 H2 q' k1 k2 k3 rds =>?_,hx.same g3⟩;exact hk _ _ G2 H2 q' (g1.trans g3 k1) k2 (z02 g3 k3) (RDs.cons (rd.same k1.1) rds)
def spP (K:W.Frag)(mg:WmP)(F:Fn):Sp:=λvs H Q E=>∃G ds Q0 X0,Same G H/\RDs K mg G ds vs/\F.run ds Q0 X0/\Kt K mg G H Q0 Q/\Kx mg H X0 E
def zkj {CX:CXT}{k:Nat}{ps:List Str}{F:Fn}{f:Str}{pp:Pos}(C:Cal X.prog X.w X.K X.mg X.base CX k f ps (spP X.K X.mg F))(hr:Room k X.A)(hx:z42 CX X E)(ha:QXA X E (e::es) xs)(hg:autoParam (Gl X f) jT)
  (hdb:autoParam ((f == ("__debug__":Str))=false) jU) (he:autoParam (starEach (e::es) X.env=(false,eval e X.env)::starEach es X.env) jT) (hpl:autoParam ((backTo pos (starEach es X.env)).any (·.1)=false) jT):QX X E (.Call (.Name f pp) (e::es) [] pos) (.op F xs):=
 QE.imp (zku C hr hx ha hg hdb he hpl) <| by
  rintro σ H Q ⟨G,ρ,Q0,X0,hs,ab,hr,hk,hx⟩;refine⟨G,ρ,_,X0,hs,ab,hr,λds vs G' H' q g1 g2 g3 rds =>?_,hx⟩;show spP X.K _ F _ H' Q E;rw[vJ];exact⟨G',ds,Q0,X0,g2,rds,q,hk.same g1 g3,hx.same g3⟩
def zkk {f:Str}{pp:Pos}{id:String}{F:Fn}{r:List V->Hp->VK->Prop}(hc:z0w X (.builtin id) r)(lk:LkN X.K X.mg F r)(hg:Gl X f)(hm:X.mg f=none)(hv:bootBuiltins f=some (.builtin id))(ha:QXA X E (e::es) xs)(hn:autoParam (f≠"__name__") jU)(hdb:autoParam ((f == ("__debug__":Str))=false) jU)
  (he:autoParam (starEach (e::es) X.env=(false,eval e X.env)::starEach es X.env) jT) (hpl:autoParam ((backTo pos (starEach es X.env)).any (·.1)=false) jT):QX X E (.Call (.Name f pp) (e::es) [] pos) (.op F xs):=
 QE.imp (z3K hc hg hm hv ha hn hdb he hpl) λ_ _ _ h=>txN lk h
def zhI {f:Str}{pp:Pos}{id:String}{F:Fn}{r:List V->Hp->VK->Prop}(hc:z0w X (.type id) r)(lk:LkN X.K X.mg F r)(hg:Gl X f)(hm:X.mg f=none)(hv:bootBuiltins f=some (.type id))(ha:QXA X E (e::es) xs)(hn:autoParam (f≠"__name__") jU)(hdb:autoParam ((f == ("__debug__":Str))=false) jU)
  (he:autoParam (starEach (e::es) X.env=(false,eval e X.env)::starEach es X.env) jT) (hpl:autoParam ((backTo pos (starEach es X.env)).any (·.1)=false) jT):QX X E (.Call (.Name f pp) (e::es) [] pos) (.op F xs):=
 QE.imp (z2W hc hg hm hv ha hn hdb he hpl) λ_ _ _ h=>txN lk h
end
def z4l (K:W.Frag)(mg:WmP)(G H:Hp)(a:Addr):D->Prop
 | .lst ds=>∃xs,H a=some (.lst xs)/\RDs K mg G ds xs
 | .dct ks vs=>∃xs,RDs K mg G vs xs/\((∃kvs:List (Key × V),H a=some (.dK kvs)/\ks=kvs.map (λp=>kD p.1)/\xs=kvs.map (·.2))\/∃kvs:List (List Key × V),H a=some (.dT kvs)/\kvs≠[]/\ks=kvs.map (λp =>.tup (p.1.map kD))/\xs=kvs.map (·.2))
 | _=>False
structure AbS (K:W.Frag)(mg:WmP)(H0 G0 G:Hp)(ρ:Pu.Env)(σ:L2.St)(H:Hp):Prop where
 len:σ.length=ρ.length
 s0:Same H0 H
 g0:Same G0 G
 g:Same G H
 nw:∀a o,G a=some o->(∃u,G0 a=some u)\/H0 a=none
 sh:∀(i:Nat) (d:D),ρ[i]? = some (B.s d)->∃v,σ[i]? = some (some v)/\RD K mg G d v
 ow:∀(i:Nat) (d:D),ρ[i]? = some (B.o d)->∃a,σ[i]? = some (some (V.ref a))/\G a=none/\H0 a=none/\z4l K mg G H a d
 ne:∀(i j:Nat) (d d':D) (a:Addr),i≠j->ρ[i]? = some (B.o d)->ρ[j]? = some (B.o d')->σ[i]? = some (some (V.ref a))->σ[j]? = some (some (V.ref a))->False
open Classical in
def plus (G H:Hp)(O:Addr->Prop):Hp:=λa=>if O a then H a else G a
open Classical in
def minus (G:Hp)(O:Addr->Prop):Hp:=λa=>if O a then none else G a
section
variable {K:W.Frag}{mg:WmP}{H0 G0 G G' H H' H1:Hp}{ρ:Pu.Env}{σ:L2.St}{O:Addr->Prop}
def z2X (g:Same G H):Same (plus G H O) H:=λa o e=>by
 unfold plus at e
 split at e
 .exact e
 .exact g a o e
def z23 (h:∀a,O a->G a=none):Same G (plus G H O):=λa o e=>by
 unfold plus
 grind
def zaI {a:Addr}(h:O a):plus G H O a=H a:=by unfold plus;rw[if_pos h]
def z2f:Same (minus G O) G:=λa o e=>by
 unfold minus at e
 grind
def z4F {a:Addr}(h:O a):minus G O a=none:=by unfold minus;rw[if_pos h]
def z7d {a:Addr}(h:¬ O a):minus G O a=G a:=by unfold minus;rw[if_neg h]
def z2D (g:Same G G')(h:∀a,O a->G a=none):Same G (minus G' O):=λa o e=>by
 by_cases z:O a
 .grind
 .rw[z7d z];exact g a o e
theorem z4l.same {a:Addr}{d:D}(h:z4l K mg G H a d)(g:Same G G')(k:∀o,H a=some o->H1 a=some o):z4l K mg G' H1 a d:=by
 cases d with
 | lst ds=>
  obtain⟨xs,h1,h2⟩:=h;exact⟨xs,k _ h1,h2.same g⟩
 | dct ks vs=>
  obtain⟨xs,h1,h2⟩:=h;refine⟨xs,h1.same g,?_⟩
  rcases h2 with ⟨kvs,q,r⟩ | ⟨kvs,q,r⟩
  .exact .inl ⟨kvs,k _ q,r⟩
  .exact .inr ⟨kvs,k _ q,r⟩
 | _=>exact h.elim
theorem z4l.some {a:Addr}{d:D}(h:z4l K mg G H a d):∃o,H a=some o:=by
 cases d with
 | lst ds=>obtain⟨xs,h1,h2⟩:=h;exact⟨_,h1⟩
 | dct ks vs=>
  obtain⟨xs,h1,h2⟩:=h
  rcases h2 with ⟨kvs,q,r⟩ | ⟨kvs,q,r⟩ <;> exact⟨_,q⟩
 | _=>exact h.elim
def z4l.rd {a:Addr}{d:D}(h:z4l K mg G H a d)(g:Same G G')(e:G' a=H a):RD K mg G' d (.ref a):=by
 cases d with
 | lst ds=>
  obtain⟨xs,h1,h2⟩:=h;exact⟨a,xs,rfl,SqL.of (e.trans h1),h2.same g⟩
 | dct ks vs=>
  obtain⟨xs,h1,h2⟩:=h;refine⟨a,xs,rfl,h1.same g,?_⟩
  rcases h2 with ⟨kvs,q,r⟩ | ⟨kvs,q,r⟩
  .exact .inl ⟨kvs,.inl (e.trans q),r⟩
  .exact .inr ⟨kvs,e.trans q,r⟩
 | _=>exact h.elim
def OK1 (G:Hp)(O:Addr->Prop)(bL bD:Prop):Prop:=∀a,O a->G a=none\/((∃xs,G a=some (.lst xs))/\bL)\/(((∃kvs,G a=some (.dK kvs))\/∃kvs,G a=some (.dT kvs))/\bD)
def z1I {a:Addr}{o u:HO}{bL bD:Prop}(hO:OK1 G O bL bD)(h:G a=some o)(h1:∀xs,o = .lst xs->¬ bL)(h2:∀k,o = .dK k->¬ bD)(h3:∀k,o = .dT k->¬ bD):minus G O a=some o:=by
 by_cases z:O a
 .rcases hO a z with q | ⟨⟨xs,q⟩,b⟩ | ⟨⟨k,q⟩ | ⟨k,q⟩,b⟩
  .grind
  .grind
  .grind
  grind
 .rw[z7d z];exact h
mutual
theorem RD.minus {bL bD:Prop}(hO:OK1 G O bL bD):∀(d:D) {v:V},(bL->noL d=true)->(bD->noD d=true)->RD K mg G d v->RD K mg (Pu.minus G O) d v
 | .non,_,_,_,h=>by simpa[RD] using h
 | .bl _,_,_,_,h=>by simpa[RD] using h
 | .int _,_,_,_,h=>by simpa[RD] using h
 | .str _,_,_,_,h=>by simpa[RD] using h
 | .fn _,_,_,_,h=>by rw[RD] at h ⊢;exact h
 | .exc _,_,_,_,h=>by
  rw[RD] at h ⊢;obtain⟨ea,C,h1,h2,h3⟩:=h;exact⟨ea,C,h1,z1I (u :=.lst []) hO h2 (λ_ z=>by cases z) (λ_ z=>by cases z) (λ_ z=>by cases z),h3⟩
 | .ptr _,_,_,_,h=>by rw[RD] at h ⊢;exact h
 | .fz _ vs,_,nl,nd,h=>by
  rw[RD] at h ⊢;obtain⟨a,xs,h1,h2,o,kvs,q,r⟩:=h;exact⟨a,xs,h1,RDs.minus hO vs (λb=>by have:=nl b;rw[noL] at this;cases this) (λb=>by have:=nd b;rw[noD] at this;cases this) h2,o,kvs,z1I (u :=.lst []) hO q (λ_ z=>by cases z) (λ_ z=>by cases z) (λ_ z=>by cases z),r⟩
 | .ins _ _ cs,_,nl,nd,h=>by
  rw[RD] at h ⊢;obtain⟨p,C,dx,xs,h1,h2,h3,h4⟩:=h;exact⟨p,C,dx,xs,h1,z1I (u :=.lst []) hO h2 (λ_ z=>by cases z) (λ_ z=>by cases z) (λ_ z=>by cases z),h3,RDs.minus hO cs (λb=>by have:=nl b;rw[noL] at this;cases this) (λb=>by have:=nd b;rw[noD] at this;cases this) h4⟩
 | .tup ds,_,nl,nd,h=>by
  rw[RD] at h ⊢;obtain⟨a,xs,h1,h2,h3⟩:=h;refine⟨a,xs,h1,?_,RDs.minus hO ds (λb=>by have:=nl b;rwa [noL] at this) (λb=>by have:=nd b;rwa [noD] at this) h3⟩
  rcases h2 with (h2 | ⟨o,h2⟩) | h2
  .exact .inl (.inl (z1I (u :=.lst []) hO h2 (λ_ z=>by cases z) (λ_ z=>by cases z) (λ_ z=>by cases z)))
  .exact .inl (.inr ⟨o,z1I (u :=.lst []) hO h2 (λ_ z=>by cases z) (λ_ z=>by cases z) (λ_ z=>by cases z)⟩)
  .exact .inr h2
 | .lst ds,_,nl,nd,h=>by
  rw[RD] at h ⊢;obtain⟨a,xs,h1,h2,h3⟩:=h;have nb:¬ bL:=λb=>by have:=nl b;rw[noL] at this;cases this
  refine⟨a,xs,h1,?_,RDs.minus hO ds (λb=>(nb b).elim) (λb=>by have:=nd b;rwa [noD] at this) h3⟩
  rcases h2 with (h2 | ⟨o,h2⟩) | h2
  .exact .inl (.inl (z1I (u :=.lst []) hO h2 (λ_ _=>nb) (λ_ z=>by cases z) (λ_ z=>by cases z)))
  .exact .inl (.inr ⟨o,z1I (u :=.lst []) hO h2 (λ_ z=>by cases z) (λ_ z=>by cases z) (λ_ z=>by cases z)⟩)
  .exact .inr h2
 | .dct ks vs,_,nl,nd,h=>by
  rw[RD] at h ⊢;obtain⟨a,xs,h1,h3,h4⟩:=h;have nb:¬ bD:=λb=>by have:=nd b;rw[noD] at this;cases this
  refine⟨a,xs,h1,RDs.minus hO vs (λb=>by have:=nl b;rwa [noL] at this) (λb=>(nb b).elim) h3,?_⟩
  rcases h4 with ⟨kvs,q,r⟩ | ⟨kvs,q,r⟩
  .exact .inl ⟨kvs,q.imp (λq=>z1I (u :=.lst []) hO q (λ_ z=>by cases z) (λ_ _=>nb) (λ_ _=>nb)) λ⟨o,q⟩=>⟨o,z1I (u :=.lst []) hO q (λ_ z=>by cases z) (λ_ z=>by cases z) (λ_ z=>by cases z)⟩,r⟩
  .exact .inr ⟨kvs,z1I (u :=.lst []) hO q (λ_ z=>by cases z) (λ_ _=>nb) (λ_ _=>nb),r⟩
theorem RDs.minus {bL bD:Prop}(hO:OK1 G O bL bD):∀(ds:List D) {xs:List V},(bL->noLs ds=true)->(bD->noDs ds=true)->RDs K mg G ds xs->RDs K mg (Pu.minus G O) ds xs
 | [],_,_,_,h=>by simpa[RDs] using h
 | d::ds,_,nl,nd,h=>by
  rw[RDs] at h ⊢;obtain⟨x,r,h1,h2,h3⟩:=h;exact⟨x,r,h1,RD.minus hO d (λb=>by have:=nl b;rw[noLs,vK] at this;exact this.1) (λb=>by have:=nd b;rw[noDs,vK] at this;exact this.1) h2,
   RDs.minus hO ds (λb=>by have:=nl b;rw[noLs,vK] at this;exact this.2) (λb=>by have:=nd b;rw[noDs,vK] at this;exact this.2) h3⟩
end
def z37 (ρ:Pu.Env)(σ:L2.St)(a:Addr):Prop:=∃(j:Nat) (d:D),ρ[j]? = some (B.o d)/\σ[j]? = some (some (V.ref a))
def AbS.free (h:AbS K mg H0 G0 G ρ σ H):∀a,z37 ρ σ a->G a=none:=by
 rintro a ⟨j,d,e,q⟩;obtain⟨b,q',hb,_⟩:=h.ow j d e
 grind
def AbS.owned0 (h:AbS K mg H0 G0 G ρ σ H):∀a,z37 ρ σ a->H0 a=none:=by
 rintro a ⟨j,d,e,q⟩;obtain⟨b,q',hb,h0,_⟩:=h.ow j d e
 grind
def AbS.nw1 {G1:Hp}(h:AbS K mg H0 G0 G ρ σ H)(g:Gr (plus G H (z37 ρ σ)) H G1):∀a o,G1 a=some o->(∃u,G0 a=some u)\/H0 a=none:=λa o e=>by
 rcases g.2 a o e with ⟨u,q⟩ | q
 .by_cases z:z37 ρ σ a
  .exact .inr (h.owned0 a z)
  .unfold plus at q;rw[if_neg z] at q;exact h.nw a u q
 .refine .inr ?_
  cases z:H0 a with
  | none=>rfl
  | some w=>rw[h.s0 a w z] at q;cases q
def AbS.nw2 {G1:Hp}(h:AbS K mg H0 G0 G ρ σ H)(g:Gr G H G1):∀a o,G1 a=some o->(∃u,G0 a=some u)\/H0 a=none:=λa o e=>by
 rcases g.2 a o e with ⟨u,q⟩ | q
 .exact h.nw a u q
 .refine .inr ?_
  cases z:H0 a with
  | none=>rfl
  | some w=>rw[h.s0 a w z] at q;cases q
def AbS.abe (h:AbS K mg H0 G0 G ρ σ H):AbE K mg (plus G H (z37 ρ σ)) ρ σ:=λi d e=>by
 rw[Env.get_eq] at e
 cases q:ρ[i]? with
 | none=>simp_all
 | some b=>
  rw[q] at e
  cases b with
  | n=>cases e
  | s d'=>
   cases e
   obtain⟨v,h1,h2⟩:=h.sh i d q;exact⟨v,h1,h2.same (z23 h.free)⟩
  | o d'=>
   cases e
   obtain⟨a,h1,h2,h3,h4⟩:=h.ow i d q;exact⟨.ref a,h1,h4.rd (z23 h.free) (zaI ⟨i,d,q,h1⟩)⟩
theorem AbS.vis (h:AbS K mg H0 G0 G ρ σ H):AbE K mg G (vis ρ) σ:=λi d e=>by
 rw[Env.get_eq] at e;unfold Pu.vis at e;rw[wG] at e
 cases q:ρ[i]? with
 | none=>simp_all
 | some b=>
  rw[q] at e
  cases b with
  | n=>cases e
  | s d'=>
   cases e
   exact h.sh i d q
  | o d'=>cases e
theorem Safe.get {d:D}:∀{ρ:Pu.Env}{j:Nat}{b:B},Safe d ρ->ρ[j]? = some b->zh8 d b
 | [],_,_,_,e=>by simp at e
 | c::r,0,b,h,e=>by simp at e;subst e;exact h.1
 | c::r,j+1,b,h,e=>Safe.get h.2 (by simpa using e)
def zen {G1:Hp}{d:D}{I:Nat->Prop}(h:AbS K mg H0 G0 G ρ σ H)(g2:Same G1 H1)(g3:Same H H1):
  OK1 G1 (λa=>∃(j:Nat) (d:D),I j/\ρ[j]? = some (B.o d)/\σ[j]? = some (some (V.ref a))) (∃(j:Nat) (l:List D),I j/\ρ[j]? = some (B.o (.lst l))) (∃(j:Nat) (k v:List D),I j/\ρ[j]? = some (B.o (.dct k v))):=by
 rintro a ⟨j,d',hI,e,q⟩;obtain⟨b,q',hb,h0,hw⟩:=h.ow j d' e;rw[q] at q';cases q'
 cases e1:G1 a with
 | none=>exact .inl rfl
 | some o=>
  have e2:=g2 a o e1
  cases d' with
  | lst ds=>
   obtain⟨xs,h1,h2⟩:=hw;rw[g3 a _ h1] at e2
   cases e2
   exact .inr (.inl ⟨⟨xs,rfl⟩,j,ds,hI,e⟩)
  | dct ks vs=>
   obtain⟨xs,h1,h2⟩:=hw
   rcases h2 with ⟨kvs,z,r⟩ | ⟨kvs,z,r⟩
   .rw[g3 a _ z] at e2
    cases e2
    exact .inr (.inr ⟨.inl ⟨kvs,rfl⟩,j,ks,vs,hI,e⟩)
   .rw[g3 a _ z] at e2
    cases e2
    exact .inr (.inr ⟨.inr ⟨kvs,rfl⟩,j,ks,vs,hI,e⟩)
  | _=>exact hw.elim
def z5I {G1:Hp}{d:D}{v:V}{i:Nat}(h:AbS K mg H0 G0 G ρ σ H)(g2:Same G1 H1)(g3:Same H H1)(sf:Safe d (ρ.set i .n))(rd:RD K mg G1 d v):
  RD K mg (Pu.minus G1 (λa=>∃(j:Nat) (d:D),j≠i/\ρ[j]? = some (B.o d)/\σ[j]? = some (some (V.ref a)))) d v:=by
 refine RD.minus (zen (d:=d) h g2 g3) d (λ⟨j,l,hj,e⟩ =>?_) (λ⟨j,k,v,hj,e⟩ =>?_) rd
 .exact Safe.get sf (by rw[ww (vF hj)];exact e)
 .exact Safe.get sf (by rw[ww (vF hj)];exact e)
def z7Q {G1:Hp}{d:D}{v:V}(h:AbS K mg H0 G0 G ρ σ H)(g2:Same G1 H1)(g3:Same H H1)(sf:Safe d ρ)(rd:RD K mg G1 d v):
  RD K mg (Pu.minus G1 (λa=>∃(j:Nat) (d:D),True/\ρ[j]? = some (B.o d)/\σ[j]? = some (some (V.ref a)))) d v:=by
 refine RD.minus (zen (d:=d) h g2 g3) d (λ⟨j,l,hj,e⟩ =>?_) (λ⟨j,k,v,hj,e⟩ =>?_) rd
 .exact Safe.get sf e
 .exact Safe.get sf e
def AbS.put {G1:Hp}{i:Nat}{d:D}{v:V}(h:AbS K mg H0 G0 G ρ σ H)(nw:∀a o,G1 a=some o->(∃u,G0 a=some u)\/H0 a=none)(g1:Same G G1)(g2:Same G1 H1)(g3:Same H H1)(hO:∀(j:Nat) (d':D) (a:Addr),j≠i->ρ[j]? = some (B.o d')->σ[j]? = some (some (V.ref a))->G1 a=none)(rd:RD K mg G1 d v):
  AbS K mg H0 G0 G1 (ρ.set i (.s d)) (σ.set i (some v)) H1 where
 len:=by simp[h.len]
 s0:=z02 h.s0 g3
 g0:=z02 h.g0 g1
 g:=g2
 nw:=nw
 sh:=λj e q=>by
  by_cases hj:j=i
  .subst hj;have hl:j < ρ.length:=by
    have:=(wu.mp q).1;simpa using this
   rw[wF hl] at q
   cases q
   exact⟨v,by rw[wF (by rw[h.len];exact hl)],rd⟩
  .rw[ww (vF hj)] at q;obtain⟨w,h1,h2⟩:=h.sh j e q;exact⟨w,by rw[ww (vF hj)];exact h1,h2.same g1⟩
 ow:=λj e q=>by
  by_cases hj:j=i
  .subst hj;have hl:j < ρ.length:=by
    have:=(wu.mp q).1;simpa using this
   rw[wF hl] at q
   cases q
  .rw[ww (vF hj)] at q;obtain⟨a,h1,h2,h3,h4⟩:=h.ow j e q;exact⟨a,by rw[ww (vF hj)];exact h1,hO j e a hj q h1,h3,h4.same g1 (g3 a)⟩
 ne:=λj k e e' a hjk q q' s s'=>by
  have hl:∀{j:Nat}{e:D},(ρ.set i (.s d))[j]? = some (B.o e)->j≠i:=λ{j e} q hj=>by
   subst hj;have hl:j < ρ.length:=by
    have:=(wu.mp q).1;simpa using this
   rw[wF hl] at q
   cases q
  have hj:=hl q;have hk:=hl q';rw[ww (vF hj)] at q s;rw[ww (vF hk)] at q' s';exact h.ne j k e e' a hjk q q' s s'
def AbS.own {G1:Hp}{i:Nat}{d:D}{a:Addr}(h:AbS K mg H0 G0 G ρ σ H)(nw:∀a o,G1 a=some o->(∃u,G0 a=some u)\/H0 a=none)(g1:Same G G1)(g2:Same G1 H1)(g3:Same H H1)(hO:∀(j:Nat) (d':D) (a:Addr),j≠i->ρ[j]? = some (B.o d')->σ[j]? = some (some (V.ref a))->G1 a=none)(hn:H a=none)(ga:G1 a=none)(hw:z4l K mg G1 H1 a d):
  AbS K mg H0 G0 G1 (ρ.set i (.o d)) (σ.set i (some (.ref a))) H1 where
 len:=by simp[h.len]
 s0:=z02 h.s0 g3
 g0:=z02 h.g0 g1
 g:=g2
 nw:=nw
 sh:=λj e q=>by
  by_cases hj:j=i
  .subst hj;have hl:j < ρ.length:=by
    have:=(wu.mp q).1;simpa using this
   rw[wF hl] at q
   cases q
  .rw[ww (vF hj)] at q;obtain⟨w,h1,h2⟩:=h.sh j e q;exact⟨w,by rw[ww (vF hj)];exact h1,h2.same g1⟩
 ow:=λj e q=>by
  by_cases hj:j=i
  .subst hj;have hl:j < ρ.length:=by
    have:=(wu.mp q).1;simpa using this
   rw[wF hl] at q
   cases q
   refine⟨a,by rw[wF (by rw[h.len];exact hl)],ga,?_,hw⟩;exact z0S h.s0 hn
  .rw[ww (vF hj)] at q;obtain⟨b,h1,h2,h3,h4⟩:=h.ow j e q;exact⟨b,by rw[ww (vF hj)];exact h1,hO j e b hj q h1,h3,h4.same g1 (g3 b)⟩
 ne:=λj k e e' b hjk q q' s s'=>by
  have old:∀{j:Nat}{e:D},j≠i->(ρ.set i (.o d))[j]? = some (B.o e)->(σ.set i (some (.ref a)))[j]? = some (some (V.ref b))->ρ[j]? = some (B.o e)/\σ[j]? = some (some (V.ref b)):=λ{j e} hj q s=>by
   rw[ww (vF hj)] at q s;exact⟨q,s⟩
  have new:∀{j:Nat}{e:D},j=i->(ρ.set i (.o d))[j]? = some (B.o e)->(σ.set i (some (.ref a)))[j]? = some (some (V.ref b))->b=a:=λ{j e} hj q s=>by
   subst hj;have hl:j < σ.length:=by
    have:=(wu.mp s).1;simpa using this
   rw[wF hl] at s
   cases s;rfl
  have none:∀{j:Nat}{e:D},ρ[j]? = some (B.o e)->σ[j]? = some (some (V.ref b))->b≠a:=λ{j e} q s z=>by
   obtain⟨b',h1,h2,h3,h4⟩:=h.ow j e q;rw[s] at h1;cases h1;obtain⟨o,ho⟩:=h4.some;rw[z,hn] at ho;cases ho
  by_cases hj:j=i
  .have hb:=new hj q s;have hk:k≠i:=λz=>hjk (hj.trans z.symm);obtain⟨q1,s1⟩:=old hk q' s';exact none q1 s1 hb
  .obtain⟨q1,s1⟩:=old hj q s
   by_cases hk:k=i
   .exact none q1 s1 (new hk q' s')
   .obtain⟨q2,s2⟩:=old hk q' s';exact h.ne j k e e' b hjk q1 q2 s1 s2
def AbS.wr {G1:Hp}{i:Nat}{d d':D}{a:Addr}{o:HO}(h:AbS K mg H0 G0 G ρ σ H)(nw:∀a o,G1 a=some o->(∃u,G0 a=some u)\/H0 a=none)(g1:Same G G1)(g2:Same G1 H1)(g3:Same H H1)(hO:∀(j:Nat) (d':D) (a:Addr),ρ[j]? = some (B.o d')->σ[j]? = some (some (V.ref a))->G1 a=none)(hi:ρ[i]? = some (B.o d))(hs:σ[i]? = some (some (V.ref a)))
  (hw:z4l K mg G1 (upd H1 a o) a d'):AbS K mg H0 G0 G1 (ρ.set i (.o d')) σ (upd H1 a o):=by
 obtain⟨a',e1,ga,h0a,hw0⟩:=h.ow i d hi;rw[hs] at e1;cases e1;have hl:i < ρ.length:=(wu.mp hi).1;refine⟨by simp[h.len],λb u e =>?_,z02 h.g0 g1,λb u e =>?_,nw,λj e q =>?_,λj e q =>?_,λj k e e' b hjk q q' s s' =>?_⟩
 .have hb:b≠a:=λz=>by rw[z,h0a] at e;cases e
  rw[z04 hb];exact g3 b u (h.s0 b u e)
 .have hb:b≠a:=λz=>by rw[z,hO i d a hi hs] at e;cases e
  rw[z04 hb];exact g2 b u e
 .by_cases hj:j=i
  .subst hj;rw[wF hl] at q;cases q
  .rw[ww (vF hj)] at q;obtain⟨w,h1,h2⟩:=h.sh j e q;exact⟨w,h1,h2.same g1⟩
 .by_cases hj:j=i
  .subst hj;rw[wF hl] at q;cases q;exact⟨a,hs,hO j d a hi hs,h0a,hw⟩
  .rw[ww (vF hj)] at q;obtain⟨b,h1,h2,h3,h4⟩:=h.ow j e q;have hb:b≠a:=λz=>by subst z;exact h.ne j i e d b hj q hi h1 hs
   exact⟨b,h1,hO j e b q h1,h3,h4.same g1 (λu e=>by rw[z04 hb];exact g3 b u e)⟩
 .have old:∀{j:Nat}{e:D},(ρ.set i (.o d'))[j]? = some (B.o e)->∃e',ρ[j]? = some (B.o e'):=λ{j e} q=>by
   by_cases hj:j=i
   .subst hj;exact⟨d,hi⟩
   .rw[ww (vF hj)] at q;exact⟨e,q⟩
  obtain⟨x,q1⟩:=old q;obtain⟨y,q2⟩:=old q';exact h.ne j k x y b hjk q1 q2 s s'
def AbS.dem1 (h:AbS K mg H0 G0 G ρ σ H)(j:Nat):∃G',AbS K mg H0 G0 G' (ρ.set j (demB ((ρ[j]?).getD .n))) σ H/\Same G G':=by
 cases q:ρ[j]? with
 | none=>
  have:ρ.set j (demB ((none:Option B).getD .n))=ρ:=by
   apply List.set_eq_of_length_le;exact List.getElem?_eq_none_iff.mp q
  rw[this];exact⟨G,h,Same.refl'⟩
 | some b=>
  have hl:j < ρ.length:=(wu.mp q).1;have same:∀b',b=b'->demB b'=b'->∃G',AbS K mg H0 G0 G' (ρ.set j (demB ((some b).getD .n))) σ H/\Same G G':=λb' e e'=>by
   subst e;have:ρ.set j (demB ((some b).getD .n))=ρ:=by
    show ρ.set j (demB b)=ρ;rw[e'];apply List.ext_getElem?;intro k
    by_cases hk:k=j
    .subst hk;rw[wF hl,q]
    .rw[ww (vF hk)]
   rw[this];exact⟨G,h,Same.refl'⟩
  cases b with
  | n=>exact same .n rfl rfl
  | s d=>exact same (.s d) rfl rfl
  | o d=>
   obtain⟨a,s1,ga,h0a,hw⟩:=h.ow j d q;show ∃G',AbS K mg H0 G0 G' (ρ.set j (.s d)) σ H/\Same G G';have lp:Same G (plus G H (· = a)):=z23 (λb z=>by rw[z];exact ga);refine⟨plus G H (· = a),⟨by simp[h.len],h.s0,z02 h.g0 lp,z2X h.g,λb o e=>(by
     by_cases hb:b=a
     .exact .inr (by rw[hb];exact h0a)
     .unfold plus at e;rw[if_neg hb] at e;exact h.nw b o e),λk e z =>?_,λk e z =>?_,λk l e e' b hkl z z' s s' =>?_⟩,lp⟩
   .by_cases hk:k=j
    .subst hk;rw[wF hl] at z;cases z;exact⟨.ref a,s1,hw.rd lp (zaI rfl)⟩
    .rw[ww (vF hk)] at z;obtain⟨w,h1,h2⟩:=h.sh k e z;exact⟨w,h1,h2.same lp⟩
   .by_cases hk:k=j
    .subst hk;rw[wF hl] at z;cases z
    .rw[ww (vF hk)] at z;obtain⟨b,h1,h2,h3,h4⟩:=h.ow k e z;have hb:b≠a:=λy=>by subst y;exact h.ne k j e d b hk z q h1 s1
     refine⟨b,h1,?_,h3,h4.same lp (λ_ e=>e)⟩;unfold plus;rw[if_neg hb];exact h2
   .have old:∀{k:Nat}{e:D},(ρ.set j (.s d))[k]? = some (B.o e)->ρ[k]? = some (B.o e):=λ{k e} z=>by
     by_cases hk:k=j
     .subst hk;rw[wF hl] at z;cases z
     .rw[ww (vF hk)] at z;exact z
    exact h.ne k l e e' b hkl (old z) (old z') s s'
theorem AbS.dem (js:List Nat):∀{G:Hp}{ρ:Pu.Env},AbS K mg H0 G0 G ρ σ H->∃G',AbS K mg H0 G0 G' (dem js ρ) σ H/\Same G G':=by
 induction js with
 | nil=>intro G ρ h;exact⟨G,h,Same.refl'⟩
 | cons j js ih=>
  intro G ρ h;obtain⟨G1,h1,g1⟩:=h.dem1 j;obtain⟨G2,h2,g2⟩:=ih h1;exact⟨G2,h2,z02 g1 g2⟩
end
def Kn (K:W.Frag)(mg:WmP)(H0 G0 G:Hp)(N0:Pu.Env->Prop)(N:L2.St->Hp->Prop):Prop:=∀ρ' σ' H' G',N0 ρ'->AbS K mg H0 G0 G' ρ' σ' H'->Same G G'->N σ' H'
def Kr (K:W.Frag)(mg:WmP)(H0 G0:Hp)(R0:DK)(R:VK):Prop:=∀d v G' H',R0 d->Gr G0 H0 G'->Same G' H'->Same H0 H'->RD K mg G' d v->R v H'
def ts (K:W.Frag)(mg:WmP)(E:XK)(t:Sm):TS:=λD σ H=>∃H0 G0 G ρ N0 R0 X0,AbS K mg H0 G0 G ρ σ H/\t.run ρ N0 R0 X0/\Kn K mg H0 G0 G N0 D.nx/\Kr K mg H0 G0 R0 D.rt/\Kx mg H0 X0 E
def Kn.same {K:W.Frag}{mg:WmP}{H0 G0 G G1:Hp}{N0:Pu.Env->Prop}{N:L2.St->Hp->Prop}(h:Kn K mg H0 G0 G N0 N)(g:Same G G1):Kn K mg H0 G0 G1 N0 N:=λρ' σ' H' G' a b c=>h ρ' σ' H' G' a b (z02 g c)
abbrev QZ (X:Cx)(E:XK)(st:Stmt)(t:Sm):Prop:=QS X st (ts X.K X.mg E t)
abbrev QZs (X:Cx)(E:XK)(st:List Stmt)(t:Sm):Prop:=QSs X st (ts X.K X.mg E t)
section
variable {X:Cx}{E:XK}{st:Stmt}{rest body la lb:List Stmt}{t u:Sm}{e a b c:Expr}{x y z:Ex}{pos:Pos}
def zhv:QZs X E [] .skip:=QSs.imp zfq <| by rintro D σ H ⟨H0,G0,G,ρ,N0,R0,X0,ab,hr,hn,hR,hx⟩;exact hn ρ σ H G hr ab Same.refl'
def zeh (h:QZ X E st t):QZs X E [st] t:=zfp h
def zay (h:QZ X E st t)(h':QZs X E rest u):QZs X E (st::rest) (.seq t u):=QSs.imp (zcN h h') λD σ H ⟨H0,G0,G,ρ,N0,R0,X0,ab,hr,hn,hR,hx⟩=>
 ⟨H0,G0,G,ρ,λρ'=>u.run ρ' N0 R0 X0,R0,X0,ab,hr,λρ' σ' H' G' q ab' g=>⟨H0,G0,G',ρ',N0,R0,X0,ab',q,hn.same g,hR,hx⟩,hR,hx⟩
def zcf {K:W.Frag}{mg:WmP}{H0 G0 G H:Hp}{ρ:Pu.Env}{σ:L2.St}{Q0:DK}{X0:XP}{Q:VK}(ab:AbS K mg H0 G0 G ρ σ H)(hr:x.run ρ Q0 X0)(hx:Kx mg H0 X0 E)(hk:Kt K mg (plus G H (z37 ρ σ)) H Q0 Q):tx K mg E x σ H Q:=
 ⟨plus G H _,ρ,Q0,X0,z2X ab.g,ab.abe,hr,hk,hx.same ab.s0⟩
def AbS.back {K:W.Frag}{mg:WmP}{H0 G0 G G1 H H1:Hp}{ρ:Pu.Env}{σ:L2.St}(ab:AbS K mg H0 G0 G ρ σ H)(g1:Gr (plus G H (z37 ρ σ)) H G1)(g2:Same G1 H1)(g3:Same H H1):AbS K mg H0 G0 (minus G1 (z37 ρ σ)) ρ σ H1/\Same G (minus G1 (z37 ρ σ)):=by
 have hf:=ab.free;have lm  := z2D (z02 (z23 hf) g1.1) hf;exact⟨⟨ab.len,z02 ab.s0 g3,z02 ab.g0 lm,z02 z2f g2,λa o e=>ab.nw1 g1 a o (z2f a o e),λi d e=>by
   obtain⟨v,h1,h2⟩:=ab.sh i d e;exact⟨v,h1,h2.same lm⟩,λi d e=>by
   obtain⟨a,h1,h2,h3,h4⟩:=ab.ow i d e;exact⟨a,h1,z4F ⟨i,d,e,h1⟩,h3,h4.same lm (g3 a)⟩,ab.ne⟩,lm⟩
def zgJ {K:W.Frag}{mg:WmP}{H0 G0 G H:Hp}{ρ:Pu.Env}{σ:L2.St}{A B:Prop}{X0:XP}{Q:Bool->Hp->Prop}(ab:AbS K mg H0 G0 G ρ σ H)(hr:x.run ρ (λd=>tst d A B) X0)(hx:Kx mg H0 X0 E)
  (ha:A->∀H' G',AbS K mg H0 G0 G' ρ σ H'->Same G G'->Q true H') (hb:B->∀H' G',AbS K mg H0 G0 G' ρ σ H'->Same G G'->Q false H'):tt K mg E x σ H Q:=by
 refine⟨plus G H _,ρ,_,X0,z2X ab.g,ab.abe,hr,λd G1 H1 q g1 g2 g3 =>?_,hx.same ab.s0⟩;obtain⟨b,rfl,q1,q2⟩:=z6H q;refine⟨b,rfl,?_⟩;obtain⟨ab',lm⟩:=ab.back g1 g2 g3
 cases b with
 | true=>exact ha (q1 rfl) H1 _ ab' lm
 | false=>exact hb (q2 rfl) H1 _ ab' lm
def zkf (hc:QXT X E c z)(ha:QZs X E la t)(hb:QZs X E lb u):QZ X E (.If c la lb pos) (.ifs z t u):=QS.imp (zkp hc ha hb) <| by
 rintro D σ H ⟨H0,G0,G,ρ,N0,R0,X0,ab,hr,hn,hR,hx⟩;refine zgJ ab hr hx (λq H' G' ab' g =>?_) (λq H' G' ab' g =>?_)
 .exact iteT ⟨H0,G0,G',ρ,N0,R0,X0,ab',q,hn.same g,hR,hx⟩
 .exact iteF ⟨H0,G0,G',ρ,N0,R0,X0,ab',q,hn.same g,hR,hx⟩
def zhr (he:QX X E e x):QZ X E (.Return (some e) pos) (.ret x):=QS.imp (zhS he) λD σ H ⟨H0,G0,G,ρ,N0,R0,X0,ab,hr,hn,hR,hx⟩=>
 zcf ab hr hx λd v G1 H1 q g1 g2 g3 rd=>hR d v G1 H1 q ⟨z02 ab.g0 (z02 (z23 ab.free) g1.1),ab.nw1 g1⟩ g2 (z02 ab.s0 g3) rd
def z4J (i:Nat)(ρ:Pu.Env)(σ:L2.St)(a:Addr):Prop:=∃(j:Nat) (d:D),j≠i/\ρ[j]? = some (B.o d)/\σ[j]? = some (some (V.ref a))
def zhy {i:Nat}{tg:Expr}(h:QS X (.Assign [tg] e pos) (tAsg (tx X.K X.mg E x) (z2u i))):QZ X E (.Assign [tg] e pos) (.set i x):=QS.imp h λD σ H ⟨H0,G0,G,ρ,N0,R0,X0,ab,hr,hn,hR,hx⟩=>
 zcf ab hr hx λd v G1 H1 q g1 g2 g3 rd=>by
  have hf:∀a,z4J i ρ σ a->G a=none:=λa ⟨j,d,_,h1,h2⟩=>ab.free a ⟨j,d,h1,h2⟩;have lm  := z2D (z02 (z23 ab.free) g1.1) hf;exact hn _ _ H1 _ q.2 (ab.put (λa o e=>ab.nw1 g1 a o (z2f a o e)) lm (z02 z2f g2) g3 (λj d' a hj e s=>z4F ⟨j,d',hj,e,s⟩) (z5I ab g2 g3 q.1 rd)) lm
def zfh {i:Nat}{tg:Expr}{js:List Nat}(h:QS X (.Assign [tg] e pos) (tAsg (tx X.K X.mg E x) (z2u i))):QZ X E (.Assign [tg] e pos) (.setx js i x):=QS.imp h <| by
 rintro D σ H ⟨H0,G0,G,ρ,N0,R0,X0,ab,hr,hn,hR,hx⟩;obtain⟨G',ab',g'⟩:=ab.dem js;refine⟨G',vis _,_,X0,ab'.g,ab'.vis,hr,λd v G1 H1 q g1 g2 g3 rd =>?_,hx.same ab.s0⟩;exact hn _ _ H1 _ q (ab'.put (ab'.nw2 g1) g1.1 g2 g3 (λj d' a hj e s=>by
  obtain⟨b,e1,gb,h0,hw⟩:=ab'.ow j d' e;rw[s] at e1;cases z:G1 a with
  | none=>rfl
  | some o=>
   obtain⟨u,hu⟩:=hw.some
   rcases g1.2 a o z with ⟨w,q⟩ | q
   .grind
   grind) rd) (z02 g' g1.1)
def Kf (K:W.Frag)(mg:WmP)(G H:Hp)(Q0:DK)(Q:VK):Prop:=∀d a G' H',Q0 d->Gr G H G'->Same G' H'->Same H H'->H a=none->G' a=none->z4l K mg G' H' a d->Q (.ref a) H'
def tf (K:W.Frag)(mg:WmP)(E:XK)(e:Ex):TE:=λσ H Q=>∃G ρ Q0 X0,Same G H/\AbE K mg G ρ σ/\e.run ρ Q0 X0/\Kf K mg G H Q0 Q/\Kx mg H X0 E
abbrev QF (X:Cx)(E:XK)(e:Expr)(x:Ex):Prop:=QE X e (tf X.K X.mg E x)
def Kt.kf {K:W.Frag}{mg:WmP}{G H:Hp}{Q0:DK}{Q:VK}(h:Kt K mg G H Q0 Q):Kf K mg G H Q0 Q:=λd a G' H' q g1 g2 g3 hn gn hw=>by
 obtain⟨o,ho⟩:=hw.some;have lp  := z0f gn o;refine h d _ _ H' q ⟨z02 g1.1 lp,λb u e =>?_⟩ (λb u e =>?_) g3 (hw.rd lp (by rw[z06];exact ho.symm))
 .by_cases hb:b=a
  .subst hb;exact .inr hn
  .rw[z04 hb] at e;exact g1.2 b u e
 .by_cases hb:b=a
  .subst hb;rw[z06] at e;rw[ho];exact e
  .rw[z04 hb] at e;exact g2 b u e
def QF.qx (h:QF X E e x):QX X E e x:=QE.imp h λσ H Q ⟨G,ρ,Q0,X0,hs,ab,hr,hk,hx⟩=>⟨G,ρ,Q0,X0,hs,ab,hr,hk.kf,hx⟩
def zhu {i:Nat}{tg:Expr}(h:QS X (.Assign [tg] e pos) (tAsg (tf X.K X.mg E x) (z2u i))):QZ X E (.Assign [tg] e pos) (.own i x):=QS.imp h <| by
 rintro D σ H ⟨H0,G0,G,ρ,N0,R0,X0,ab,hr,hn,hR,hx⟩;refine⟨plus G H (z37 ρ σ),ρ,_,X0,z2X ab.g,ab.abe,hr,λd a G1 H1 q g1 g2 g3 ha ga hw =>?_,hx.same ab.s0⟩;have hf:∀a,z4J i ρ σ a->G a=none:=λa ⟨j,d,_,h1,h2⟩=>ab.free a ⟨j,d,h1,h2⟩;have lm  := z2D (z02 (z23 ab.free) g1.1) hf;have z03:∀(l:List Pu.D) (xs:List V),(∀x∈l,Safe x (ρ.set i .n))->RDs X.K X.mg G1 l xs->RDs X.K X.mg (minus G1 (z4J i ρ σ)) l xs:=by
  intro l
  induction l with
  | nil=>intro xs _ h;exact h
  | cons y l ih=>
   intro xs hs h;obtain⟨v,r,h1,h2,h3⟩:=h;exact⟨v,r,h1,z5I ab g2 g3 (hs y wv) h2,ih r (λz hz=>hs z (wm _ hz)) h3⟩
 have na:minus G1 (z4J i ρ σ) a=none:=by
  unfold minus
  simp_all
 refine hn _ _ H1 _ q.2 (ab.own (λa o e=>ab.nw1 g1 a o (z2f a o e)) lm (z02 z2f g2) g3 (λj d' a hj e s=>z4F ⟨j,d',hj,e,s⟩) ha na ?_) lm;have q1:=q.1
 cases d with
 | lst l=>
  obtain⟨xs,h1,h2⟩:=hw;exact⟨xs,h1,z03 l xs q1 h2⟩
 | dct ks vs=>
  obtain⟨xs,h1,h2⟩:=hw;exact⟨xs,z03 vs xs q1 h1,h2⟩
 | _=>exact q1.elim
end
section
variable {X:Cx}{E:XK}{st:Stmt}{rest body la lb:List Stmt}{t u:Sm}{e a b c tg iter:Expr}{x y z:Ex}{pos:Pos}
def z8M {o:Option (List D)}{Q:List D->Prop}(h:onL o Q):∃l,o=some l/\Q l:=by
 cases o with
 | none=>exact h.elim
 | some l=>exact⟨l,rfl,h⟩
def zcG (hp:PassesOwn (model X.prog X.w) X.A X.env X.xe)(hc:QXT X E c z)(hb:QZs X E body t):QZ X E (.While c body [] pos) (.wh z t):=QS.imp (zcO hp hc hb) <| by
 rintro D σ H ⟨H0,G0,G,ρ,N0,R0,X0,ab,⟨n,hr⟩,hn,hR,hx⟩;refine⟨λm σ' H'=>∃G' ρ',AbS X.K _ H0 G0 G' ρ' σ' H'/\Same G G'/\wh z t N0 R0 X0 m ρ',⟨n,G,ρ,ab,Same.refl',hr⟩,?_⟩;rintro m σ1 H1 ⟨G1,ρ1,ab1,g1,h1⟩
 cases m with
 | zero=>exact h1.elim
 | succ m=>
  refine zgJ ab1 h1 hx (λq H2 G2 ab2 g2 =>?_) (λq H2 G2 ab2 g2 =>?_)
  .refine iteT ⟨λσ' H'=>∃G' ρ',AbS X.K _ H0 G0 G' ρ' σ' H'/\Same G G'/\wh z t N0 R0 X0 m ρ',λσ' H' w=>⟨m,ue _,w⟩,?_⟩;exact⟨H0,G0,G2,ρ1,wh z t N0 R0 X0 m,R0,X0,ab2,q,λρ' σ' H' G' w ab' g'=>⟨G',ρ',ab',z02 g1 (z02 g2 g'),w⟩,hR,hx⟩
  .exact iteF (hn ρ1 σ1 H2 G2 q ab2 (z02 g1 g2))
def Walk (K:W.Frag)(mg:WmP)(G:Hp)(l:List D)(J:It):Prop:=∀(i:Nat) (G1 H:Hp),Same G G1->Same G1 H->
 (∀d,l[i]? = some d->J.go i H/\∀v H',J.yld i H v H'->Same H H'/\∃G2,Gr G1 H G2/\Same G2 H'/\RD K mg G2 d v)/\(l.length<=i->J.stop i H)
def ti (K:W.Frag)(mg:WmP)(E:XK)(e:Ex):TI:=λσ H R=>∃G ρ Q0 X0,Same G H/\AbE K mg G ρ σ/\e.run ρ Q0 X0/\(∀d,Q0 d->∃l,z03 d=some l)/\(∀d G' H',Q0 d->Gr G H G'->Same G' H'->Same H H'->∀l J,z03 d=some l->Walk K mg G' l J->R J H')/\Kx mg H X0 E
abbrev QXI (X:Cx)(E:XK)(tg e:Expr)(x:Ex):Prop:=QI X tg e (ti X.K X.mg E x)
def tgt (K:W.Frag):Tg->TG
 | .nm i=>z2u i
 | .tp is=>gTup K is.length (is.foldr (λi r=>zdD (z2u i) r) gNil)
theorem z5d {K:W.Frag}:∀(is:List Nat) (vs:List V) (σ:L2.St) (H:Hp) (Q:L2.St->Hp->Prop),is.length=vs.length->Q ((is.zip vs).foldl (λσ p=>σ.set p.1 (some p.2)) σ) H->(is.foldr (λi r=>zdD (z2u i) r) gNil) vs σ H Q
 | [],[],_,_,_,_,q=>⟨rfl,q⟩
 | [],_::_,_,_,_,h,_=>by simp at h
 | _::_,[],_,_,_,h,_=>by simp at h
 | i::is,v::vs,σ,H,Q,h,q=>⟨v,vs,rfl,z5d (K:=K) is vs _ H Q (by simpa using h) q⟩
theorem AbS.putAll {K:W.Frag}{mg:WmP}{H0 G0 H:Hp}:∀(is:List Nat) (ds:List D) (vs:List V) {G:Hp}{ρ:Pu.Env}{σ:L2.St},is.length=ds.length->RDs K mg G ds vs->AbS K mg H0 G0 G ρ σ H->
  AbS K mg H0 G0 G (z0G is ds ρ) ((is.zip vs).foldl (λσ p=>σ.set p.1 (some p.2)) σ) H
 | [],[],vs,G,ρ,σ,_,h,ab=>by exact ab
 | [],_::_,_,_,_,_,h,_,_=>by simp at h
 | _::_,[],_,_,_,_,h,_,_=>by simp at h
 | i::is,d::ds,vs,G,ρ,σ,h,r,ab=>by
  obtain⟨v,vs',rfl,h1,h2⟩:=r;exact AbS.putAll is ds vs' (by simpa using h) h2 (ab.put ab.nw Same.refl' ab.g Same.refl' (λj d' a hj e s=>ab.free a ⟨j,d',e,s⟩) h1)
def zeX {K:W.Frag}{mg:WmP}{H0 G0 G H:Hp}{ρ:Pu.Env}{σ:L2.St}{tg:Tg}{d:D}{v:V}{N0:Pu.Env->Prop}{N:L2.St->Hp->Prop}(ab:AbS K mg H0 G0 G ρ σ H)(rd:RD K mg G d v)(hp:tg.put d ρ N0)(hn:∀ρ' σ',N0 ρ'->AbS K mg H0 G0 G ρ' σ' H->N σ' H):tgt K tg v σ H N:=by
 cases tg with
 | nm i=>exact hn _ _ hp (ab.put ab.nw Same.refl' ab.g Same.refl' (λj d' a hj e s=>ab.free a ⟨j,d',e,s⟩) rd)
 | tp is=>
  cases d with
  | tup ds=>
   obtain⟨hl,hp⟩:=hp;obtain⟨a,xs,rfl,h1,h2⟩:=rd;exact⟨a,xs,rfl,z0y ab.g h1,by rw[h2.len,hl],z5d (K:=K) is xs σ H N (by rw[h2.len,hl]) (hn _ _ hp (ab.putAll is ds xs hl h2))⟩
  | _=>exact hp.elim
def AbS.over {K:W.Frag}{mg:WmP}{H0 G0 G G2 H H2:Hp}{ρ:Pu.Env}{σ:L2.St}(ab:AbS K mg H0 G0 G ρ σ H)(g2:Gr G H G2)(k2:Same G2 H2)(s2:Same H H2):AbS K mg H0 G0 G2 ρ σ H2 where
 len:=ab.len
 s0:=z02 ab.s0 s2
 g0:=z02 ab.g0 g2.1
 g:=k2
 nw:=ab.nw2 g2
 sh:=λi d e=>by
  obtain⟨v,h1,h2⟩:=ab.sh i d e;exact⟨v,h1,h2.same g2.1⟩
 ow:=λi d e=>by
  obtain⟨a,h1,h2,h3,h4⟩:=ab.ow i d e;refine⟨a,h1,?_,h3,h4.same g2.1 (s2 a)⟩
  cases z:G2 a with
  | none=>rfl
  | some o=>
   obtain⟨u,hu⟩:=h4.some
   rcases g2.2 a o z with ⟨w,q⟩ | q
   .grind
   grind
 ne:=ab.ne
def z5f {K:W.Frag}{mg:WmP}{H0 G0 G H:Hp}{ρ:Pu.Env}{σ:L2.St}{l:List D}{J:It}{tg:Tg}{N0:Pu.Env->Prop}{R0:DK}{X0:XP}{De:Ends}(ab:AbS K mg H0 G0 G ρ σ H)(hw:Walk K mg G l J)(hr:forL tg t N0 R0 X0 l ρ)
  (hn:Kn K mg H0 G0 G N0 De.nx) (hR:Kr K mg H0 G0 R0 De.rt) (hx:Kx mg H0 X0 E):
  ∃W:Nat->Nat->L2.St->Hp->Prop,(∃m,W 0 m σ H)/\∀i m σ H,W i m σ H->
   (J.stop i H/\De.nx σ H)\/(J.go i H/\∃N:L2.St->Hp->Prop,(∀σ' H',N σ' H'->∃m',m'<m/\W (i+1) m' σ' H')/\∀x H',J.yld i H x H'->tgt K tg x σ H' λσ2 H2=>ts K mg E t { De with nx:=N,ct:=N,bk:=De.nx } σ2 H2):=by
 refine⟨λi m σ H=>m=l.length - i/\i<=l.length/\∃G1 ρ1,AbS K mg H0 G0 G1 ρ1 σ H/\Same G G1/\forL tg t N0 R0 X0 (l.drop i) ρ1,⟨l.length,by simp,vf _,G,ρ,ab,Same.refl',by simpa using hr⟩,?_⟩;rintro i m σ1 H1 ⟨rfl,hi,G1,ρ1,ab1,g1,h1⟩;obtain⟨w1,w2⟩:=hw i G1 H1 g1 ab1.g
 by_cases hlt:i<l.length
 .have e:l[i]? = some l[i]:=by simp[hlt]
  obtain⟨go,yl⟩:=w1 _ e;rw[uQ hlt] at h1;refine .inr ⟨go,λσ' H'=>∃G2 ρ2,AbS K mg H0 G0 G2 ρ2 σ' H'/\Same G G2/\forL tg t N0 R0 X0 _ ρ2,λσ' H' w=>⟨l.length - (i+1),by omega,rfl,hlt,w⟩,λv H2 y =>?_⟩;obtain⟨s2,G2,g2,k2,rd⟩:=yl v H2 y;have ab2:=ab1.over g2 k2 s2;refine zeX ab2 rd h1 λρ3 σ3 hb ab3 =>?_;exact⟨H0,G0,G2,ρ3,_,R0,X0,ab3,hb,λρ' σ' H' G' w ab' g'=>⟨G',ρ',ab',z02 g1 (z02 g2.1 g'),w⟩,hR,hx⟩
 .have e:i=l.length:=by omega
  subst e;rw[List.drop_length] at h1;exact .inl ⟨w2 (wp _),hn ρ1 σ1 H1 G1 h1 ab1 g1⟩
def zhw {js:List Nat}{g:Tg}(hp:PassesOwn (model X.prog X.w) X.A X.env X.xe)(hc:X.calm=true)(hi:QXI X E tg iter x)(hg:QG X tg (tgt X.K g))(hb:QZs X E body t)(hs:autoParam (∀x,foldedSetIterable iter X.env x=pure x) jV):
  QZ X E (.For tg iter body [] pos) (.for_ js g x t):=QS.imp (zej hp hc hi hg hb hs) <| by
 rintro D σ H ⟨H0,G0,G,ρ,N0,R0,X0,ab,hr,hn,hR,hx⟩;obtain⟨G',ab',g'⟩:=ab.dem js;refine⟨G',vis _,_,X0,ab'.g,ab'.vis,hr,λd q=>(z8M q).imp λ_ z=>z.1,λd G1 H1 q g1 g2 g3 l J el hw =>?_,hx.same ab.s0⟩;have q'  := q;rw[el] at q';exact z5f (ab'.over g1 g2 g3) hw q' (hn.same (z02 g' g1.1)) hR hx
def z38 {K:W.Frag}{mg:WmP}{G:Hp}{lo:Int}{n:Nat}:Walk K mg G ((List.range n).map λ(k:Nat)=>D.int (lo+(k:Int))) (Itr lo n):=λi G1 H g1 g2=>by
 refine⟨λd e =>?_,λhi=>(show n<=i by simpa using hi)⟩;obtain⟨h,e'⟩:=wu.mp e;have hi  := by simpa using h
 refine⟨hi,λv H' y =>?_⟩;obtain⟨rfl,rfl⟩:=y;refine⟨Same.refl',G1,Gr.refl,g2,?_⟩;rw[<- e'];simp[List.getElem_map,List.getElem_range];rw[RD]
def z4q:Fn:=⟨λds Q _=>onR ds λl=>Q (.lst l),λds Q Q' X X' m _ q=>z8L (λ_ q=>m _ q) q⟩
def z0t {K:W.Frag}{mg:WmP}{G:Hp}{i:Int}{v:V}(h:RD K mg G (.int i) v):v = .int i:=by exact h
def rds1 {K:W.Frag}{mg:WmP}{G:Hp}{d:D}{vs:List V}(h:RDs K mg G [d] vs):∃v,vs=[v]/\RD K mg G d v:=by
 obtain⟨x,r,rfl,h1,h2⟩:=h;subst h2;exact⟨x,rfl,h1⟩
def rds2 {K:W.Frag}{mg:WmP}{G:Hp}{d e:D}{vs:List V}(h:RDs K mg G [d,e] vs):∃v w,vs=[v,w]/\RD K mg G d v/\RD K mg G e w:=by
 obtain⟨x,r,rfl,h1,h2⟩:=h;obtain⟨y,rfl,h3⟩:=rds1 h2;exact⟨x,y,rfl,h1,h3⟩
def z8K {K:W.Frag}{mg:WmP}{G:Hp}{ds:List D}{vs:List V}{Kk:List D->Prop}(rds:RDs K mg G ds vs)(h:onR ds Kk):
  (∃j:Int,vs=[.int j] /\ -(2 ^ 62)<=j/\j<2 ^ 62/\Kk ((List.range j.toNat).map λ(k:Nat)=>D.int (0+(k:Int))))\/∃i j:Int,vs=[.int i,.int j]/\(-(2 ^ 62)<=i/\i<2 ^ 62 /\ -(2 ^ 62)<=j/\j<2 ^ 62)/\Kk ((List.range (j - i).toNat).map λ(k:Nat)=>D.int (i+(k:Int))):=by
 unfold onR at h
 split at h
 .obtain⟨v,rfl,r1⟩:=rds1 rds;refine .inl ⟨_,by rw[z0t r1],h.1.1,h.1.2,?_⟩;simpa using h.2
 .obtain⟨v,w,rfl,r1,r2⟩:=rds2 rds;exact .inr ⟨_,_,by rw[z0t r1,z0t r2],⟨h.1.1.1,h.1.1.2,h.1.2.1,h.1.2.2⟩,h.2⟩
 .exact h.elim
def zci {K:W.Frag}{mg:WmP}{es:List Ex}{σ:L2.St}{H:Hp}{R:It->Hp->Prop}(h:ti K mg E (.op z4q es) σ H R):txa K mg E es σ H λvs H1=>(∃j:Int,vs=[.int j] /\ -(2 ^ 62)<=j/\j<2 ^ 62/\R (Itr 0 j.toNat) H1)\/∃i j:Int,vs=[.int i,.int j]/\(-(2 ^ 62)<=i/\i<2 ^ 62 /\ -(2 ^ 62)<=j/\j<2 ^ 62)/\R (Itr i (j - i).toNat) H1:=by
 obtain⟨G,ρ,Q0,X0,hs,ab,hr,_,hk,hx⟩:=h;refine⟨G,ρ,λds=>z4q.run ds Q0 X0,X0,hs,ab,hr,λds vs G1 H1 q g1 g2 g3 rds =>?_,hx⟩
 rcases z8K rds (show onR ds (λl=>Q0 _) from q) with ⟨j,e,h1,h2,q'⟩ | ⟨i,j,e,h1,q'⟩
 .exact .inl ⟨j,e,h1,h2,hk _ G1 H1 q' g1 g2 g3 _ _ rfl z38⟩
 .exact .inr ⟨i,j,e,h1,hk _ G1 H1 q' g1 g2 g3 _ _ rfl z38⟩
def za5 {K:W.Frag}{mg:WmP}{es:List Ex}{n:Nat}{σ:L2.St}{H:Hp}{Q Q':List V->Hp->Prop}(hl:es.length=n)(m:∀vs H1,vs.length=n->Q vs H1->Q' vs H1)(h:txa K mg E es σ H Q):txa K mg E es σ H Q':=by
 obtain⟨G,ρ,Q0,X0,hs,ab,hr,hk,hx⟩:=h;have len:∀(es:List Ex) (Q:List D->Prop),runs es ρ Q X0->runs es ρ (λds=>ds.length=es.length/\Q ds) X0:=by
  intro es
  induction es with
  | nil=>intro Q h;exact⟨rfl,h⟩
  | cons e es ih=>
   intro Q h;exact e.mono ρ _ _ X0 X0 (λd q=>z2U es ρ _ _ X0 X0 (λds q=>⟨by simp[q.1],q.2⟩) (λ_ z=>z) (ih _ q)) (λ_ z=>z) h
 exact⟨G,ρ,_,X0,hs,ab,len es Q0 hr,λds vs G1 H1 q g1 g2 g3 rds=>m vs H1 (by rw[rds.len,q.1,hl]) (hk ds vs G1 H1 q.2 g1 g2 g3 rds),hx⟩
def z9x {p:Pos}(hg:Gl X "range")(hm:X.mg "range"=none)(ha:QXA X E [a] [x])(hs:autoParam (starEach [a] X.env=[(false,eval a X.env)]) jT):QXI X E tg (.Call (.Name "range" p) [a] [] pos) (.op z4q [x]):=QI.imp (z6Z hg hm ha hs) λσ H R h=>
 za5 rfl (λvs H1 hl q=>by
  rcases q with q | ⟨i,j,e,_⟩
  .exact q
  simp_all) (zci h)
def zff {g:Tg}{es:List Ex}{wi:TI}(hp:PassesOwn (model X.prog X.w) X.A X.env X.xe)(hc:X.calm=true)(hg:QG X tg (tgt X.K g))(hb:QZs X E body t)
  (hri:∀σ H R,(txa X.K X.mg E es σ H λvs H1=>(∃j:Int,vs=[.int j] /\ -(2 ^ 62)<=j/\j<2 ^ 62/\R (Itr 0 j.toNat) H1)\/∃i j:Int,vs=[.int i,.int j]/\(-(2 ^ 62)<=i/\i<2 ^ 62 /\ -(2 ^ 62)<=j/\j<2 ^ 62)/\R (Itr i (j - i).toNat) H1)->wi σ H R) (hi':QI X tg iter wi)
  (hs:autoParam (∀x,foldedSetIterable iter X.env x=pure x) jV):
  QZ X E (.For tg iter body [] pos) (.forr es g t):=QS.imp (zej hp hc hi' hg hb hs) <| by
 rintro De σ H ⟨H0,G0,G,ρ,N0,R0,X0,ab,hr,hn,hR,hx⟩;refine hri σ H _ ⟨plus G H _,ρ,λds=>onR ds _,X0,z2X ab.g,ab.abe,hr,λds vs G1 H1 q g1 g2 g3 rds =>?_,hx.same ab.s0⟩;obtain⟨ab',lm⟩:=ab.back g1 g2 g3
 rcases z8K rds q with ⟨j,e,h1,h2,q'⟩ | ⟨i,j,e,h1,q'⟩
 .exact .inl ⟨j,e,h1,h2,z5f ab' z38 q' (hn.same lm) hR hx⟩
 .exact .inr ⟨i,j,e,h1,z5f ab' z38 q' (hn.same lm) hR hx⟩
def zcI {g:Tg}{p pos2:Pos}(hp:PassesOwn (model X.prog X.w) X.A X.env X.xe)(hc:X.calm=true)(hgr:Gl X "range")(hm:X.mg "range"=none)(ha:QXA X E [a] [x])(hg:QG X tg (tgt X.K g))(hb:QZs X E body t)(hst:autoParam (starEach [a] X.env=[(false,eval a X.env)]) jT)
  (hs:autoParam (∀x,foldedSetIterable (.Call (.Name "range" p) [a] [] pos2) X.env x=pure x) jV):QZ X E (.For tg (.Call (.Name "range" p) [a] [] pos2) body [] pos) (.forr [x] g t):=
 zff hp hc hg hb (λσ H R h=>za5 rfl (λvs H1 hl q=>by
  rcases q with q | ⟨i,j,e,_⟩
  .exact q
  simp_all) h) (z6Z hgr hm ha hst) hs
def iAny (K:W.Frag)(tl:TE):TI:=λσ H R=>tl σ H λx H1=>(∃a,x = .ref a/\(∃xs,SqL K H1 a xs)/\R (Itl K a) H1)\/(∃a,x = .ref a/\(∃xs,SqT K H1 a xs)/\R (Itt K a) H1)\/∃y,x = .str y/\R (Its y) H1
def zhV {l:Expr}{tl:TE}(hl:QE X l tl):QI X tg l (iAny X.K tl):=by
 constructor
 intro pins s σ H R I h;refine thn (hl.p pins s σ H _ I h) λv s1 z9 =>?_;obtain⟨x,H1,I1,r1,q1⟩:=z9;have fp:∀b∈[s1.heap.objs.size],FpOk X pins H1 b:=λb hb=>by
  have e:b=s1.heap.objs.size:=by simpa using hb
  subst e;exact I1.fpOk (wp _) (I1.hok.fresh (wp _))
 rcases q1 with ⟨a,e,⟨xs,hq⟩,q⟩ | ⟨a,e,⟨xs,hq⟩,q⟩ | ⟨y,rfl,q⟩
 .subst e
  cases r1
  obtain⟨its,rv,p,hz⟩:=I1.list hq;refine wpAny_pyIter_list p.isList ?_;exact⟨s1.heap.objs.size,[s1.heap.objs.size],_,_,H1,rfl,I1.kept (t':=s1.toks) λb o e=>we _ e,za7 a _,⟨_,wn _ rfl,rfl,rfl⟩,fp,q⟩
 .subst e
  cases r1
  obtain⟨its,rv,p,hz⟩:=I1.tuple hq;refine uL (show s1.heap.IsTuple a its.toArray from p) ?_;exact⟨s1.heap.objs.size,[s1.heap.objs.size],_,_,H1,rfl,I1.kept (t':=s1.toks) λb o e=>we _ e,z9g a _,⟨_,wn _ rfl,rfl,rfl⟩,fp,q⟩
 .obtain⟨t,rfl⟩:=r1
  cases ha:y.cps.all (· < 128)
  .exact wpAny_pyIter_wide ha ⟨s1.heap.objs.size,[s1.heap.objs.size],_,_,H1,rfl,I1.kept (t':=s1.toks) λb o e=>we _ e,z8v y t _ (by decide) (λA' hA=>Walks.strWide hA _ y t) (λA i s Q E st h=>wpAny_pyIter_striter_wide st h),⟨vf _,_,wn _ rfl,rfl,rfl⟩,fp,q⟩
  .exact wpAny_pyIter_ascii ha ⟨s1.heap.objs.size,[s1.heap.objs.size],_,_,H1,rfl,I1.kept (t':=s1.toks) λb o e=>we _ e,z8v y t _ (by decide) (λA' hA=>Walks.strAscii hA _ y t) (λA i s Q E st h=>wpAny_pyIter_striter_ascii st h),⟨vf _,_,wn _ rfl,rfl,rfl⟩,fp,q⟩
def za3 {K:W.Frag}{mg:WmP}{G:Hp}{a:Addr}{xs:List V}{l:List D}(h:SqL K G a xs)(r:RDs K mg G l xs):Walk K mg G l (Itl K a):=λi G1 H g1 g2=>by
 have hH:=z14 (z02 g1 g2) h;refine⟨λd e =>?_,λhi=>⟨xs,hH,by rw[r.len];exact hi⟩⟩;obtain⟨v,ev,rv⟩:=r.get e;refine⟨⟨xs,v,hH,ev⟩,λv' H' y =>?_⟩;obtain⟨rfl,y⟩:=y;have:=y xs hH;rw[ev] at this
 cases this
 exact⟨Same.refl',G1,Gr.refl,g2,rv.same g1⟩
def zc9 {K:W.Frag}{mg:WmP}{G:Hp}{a:Addr}{xs:List V}{l:List D}(h:SqT K G a xs)(r:RDs K mg G l xs):Walk K mg G l (Itt K a):=λi G1 H g1 g2=>by
 have hH:=z0y (z02 g1 g2) h;refine⟨λd e =>?_,λhi=>⟨xs,hH,by rw[r.len];exact hi⟩⟩;obtain⟨v,ev,rv⟩:=r.get e;refine⟨⟨xs,v,hH,ev⟩,λv' H' y =>?_⟩;obtain⟨rfl,y⟩:=y;have:=y xs hH;rw[ev] at this
 cases this
 exact⟨Same.refl',G1,Gr.refl,g2,rv.same g1⟩
def zca {K:W.Frag}{mg:WmP}{G:Hp}{y:Str}:Walk K mg G (y.cps.toList.map λc =>.str ⟨#[c]⟩) (Its y):=λi G1 H g1 g2=>by
 refine⟨λd e =>?_,λhi=>(show y.cps.size<=i by simpa using hi)⟩;rw[wG] at e
 cases q:y.cps.toList[i]? with
 | none=>simp_all
 | some c=>
  rw[q] at e
  cases e
  have hi  := by
   have:=(wu.mp q).1;omega
  refine⟨hi,λv H' yl =>?_⟩;obtain⟨rfl,c',ec,rfl⟩:=yl;have:c'=c:=by
   simp_all
  subst this;exact⟨Same.refl',G1,Gr.refl,g2,by rw[RD]⟩
def qi_x (h:QX X E iter x):QXI X E tg iter x:=QI.imp (zhV h) <| by
 rintro σ H R ⟨G,ρ,Q0,X0,hs,ab,hr,hz,hk,hx⟩;refine⟨G,ρ,Q0,X0,hs,ab,hr,λd v G1 H1 q g1 g2 g3 rd =>?_,hx⟩
 cases d with
 | lst l=>
  obtain⟨a,xs,rfl,h1,h2⟩:=rd;exact .inl ⟨a,rfl,⟨xs,z14 g2 h1⟩,hk _ G1 H1 q g1 g2 g3 l _ rfl (za3 h1 h2)⟩
 | tup l=>
  obtain⟨a,xs,rfl,h1,h2⟩:=rd;exact .inr (.inl ⟨a,rfl,⟨xs,z0y g2 h1⟩,hk _ G1 H1 q g1 g2 g3 l _ rfl (zc9 h1 h2)⟩)
 | str y=>
  subst rd;exact .inr (.inr ⟨y,rfl,hk _ G1 H1 q g1 g2 g3 _ _ rfl zca⟩)
 | _=>
  obtain⟨l,e⟩:=hz _ q
  cases e
end
section
variable {K:W.Frag}{mg:WmP}{H0 G0 G G1 H H1:Hp}{ρ:Pu.Env}{σ:L2.St}{i:Nat}
def z3N {Kk:List D->Prop}(h:ownL ρ i Kk):∃l,ρ[i]? = some (B.o (.lst l))/\Kk l:=by
 unfold ownL at h
 split at h
 .rename_i l e;exact⟨l,e,h⟩
 .exact h.elim
def zd9:(λa=>∃(j:Nat) (d:D),True/\ρ[j]? = some (B.o d)/\σ[j]? = some (some (V.ref a)))=z37 ρ σ:=by
 funext a
 exact propext ⟨λ⟨j,d,_,h⟩=>⟨j,d,h⟩,λ⟨j,d,h⟩=>⟨j,d,trivial,h⟩⟩
def z3g {d:D}{v:V}(h:AbS K mg H0 G0 G ρ σ H)(g2:Same G1 H1)(g3:Same H H1)(sf:Safe d ρ)(rd:RD K mg G1 d v):RD K mg (minus G1 (z37 ρ σ)) d v:=by
 have:=z7Q h g2 g3 sf rd;rw[zd9] at this;exact this
def zcr {l:List D}(h:AbS K mg H0 G0 G ρ σ H)(g2:Same G1 H1)(g3:Same H H1):∀{xs:List V},(∀x∈l,Safe x ρ)->RDs K mg G1 l xs->RDs K mg (minus G1 (z37 ρ σ)) l xs:=by
 induction l with
 | nil=>intro xs _ h;exact h
 | cons y l ih=>
  intro xs hs hr;obtain⟨v,r,h1,h2,h3⟩:=hr;exact⟨v,r,h1,z3g h g2 g3 (hs y wv) h2,ih (λz hz=>hs z (wm _ hz)) h3⟩
def AbS.wrB {l l':List D}{a:Addr}{ys:List V}(ab:AbS K mg H0 G0 G ρ σ H)(g1:Gr (plus G H (z37 ρ σ)) H G1)(g2:Same G1 H1)(g3:Same H H1)(hi:ρ[i]? = some (B.o (.lst l)))(hs:σ[i]? = some (some (V.ref a)))(hr:RDs K mg (minus G1 (z37 ρ σ)) l' ys):
  AbS K mg H0 G0 (minus G1 (z37 ρ σ)) (ρ.set i (.o (.lst l'))) σ (upd H1 a (.lst ys))/\Same G (minus G1 (z37 ρ σ)):=by
 have lm  := z2D (z02 (z23 ab.free) g1.1) ab.free;exact⟨ab.wr (λa o e=>ab.nw1 g1 a o (z2f a o e)) lm (z02 z2f g2) g3 (λj d' a e s=>z4F ⟨j,d',e,s⟩) hi hs ⟨ys,z06,hr⟩,lm⟩
end
section
variable {X:Cx}{E:XK}{st:Stmt}{t:Sm}{e o tg:Expr}{x y z:Ex}{pos cpos apos:Pos}{i j:Nat}
def zhz (ho:QE X o (tVar i))(ha:QXA X E [e] [x])
  (hs:autoParam (swapsWith (.Call (.Attribute o "append" apos) [e] [] cpos) none pos.line X.env=pure false) jT)
  (hbase:autoParam (attributeBase o "append" X.env (eval o X.env)=eval o X.env) jT)
  (hfew:autoParam (((backTo cpos (starEach [e] X.env)).all (λx => !x.1) && (backToKw cpos (keywordEach [] X.env)).all (λx=>x.1.isSome)
   && decide ([e].length+([]:List Keyword).length+(if ([]:List Keyword).isEmpty then 0 else 1)<30))=true) jT)
  (hline:autoParam ((apos.endLine == cpos.line)=true) jT) (hst:autoParam (starEach [e] X.env=(false,eval e X.env)::starEach [] X.env) jT) (hplain:autoParam ((backTo cpos (starEach [] X.env)).any (·.1)=false) jT):
  QZ X E (.Expr (.Call (.Attribute o "append" apos) [e] [] cpos) pos) (.app i x):=
 QS.imp (z7V (zfy u5 PySem.F.slot_list_append PySem.F.type_list_append z5A ho ha hbase hfew hline hst hplain) hs) <| by
  rintro De σ H ⟨H0,G0,G,ρ,N0,R0,X0,ab,hr,hn,hR,hx⟩;obtain⟨l,hl,hr⟩:=z3N hr;obtain⟨a,s1,ga,h0,xs,hw,hrd⟩:=ab.ow i _ hl;refine⟨.ref a,s1,.inl ⟨rfl,xs,SqL.of hw⟩,?_⟩;refine⟨plus G H _,ρ,λds=>∃d,ds=[d]/\l.length<sizeLine/\Safe d ρ/\N0 (ρ.set i (.o (.lst (l++[d])))),X0,z2X ab.g,ab.abe,x.mono ρ _ _ X0 X0 (λd q=>⟨d,rfl,q⟩) (λ_ z=>z) hr,?_,hx.same ab.s0⟩;rintro ds vs G1 H1 ⟨d,rfl,hsz,sf,hN⟩ g1 g2 g3 rds;obtain⟨v,rfl,rd⟩:=rds1 rds;refine⟨a,xs,v,rfl,rfl,g3 _ _ hw,by rw[hrd.len];exact hsz,?_⟩;have lm  := z2D (z02 (z23 ab.free) g1.1) ab.free;obtain⟨ab',g'⟩:=ab.wrB g1 g2 g3 hl s1 ((hrd.same lm).app (RDs.cons (z3g ab g2 g3 sf rd) RDs.nil));exact hn _ σ _ _ hN ab' g'
def zhx (ho:QE X o (tVar i))(hf:QF X E e x)
  (hs:autoParam (swapsWith (.Call (.Attribute o "extend" apos) [e] [] cpos) none pos.line X.env=pure false) jT)
  (hbase:autoParam (attributeBase o "extend" X.env (eval o X.env)=eval o X.env) jT)
  (hfew:autoParam (((backTo cpos (starEach [e] X.env)).all (λx => !x.1) && (backToKw cpos (keywordEach [] X.env)).all (λx=>x.1.isSome)
   && decide ([e].length+([]:List Keyword).length+(if ([]:List Keyword).isEmpty then 0 else 1)<30))=true) jT)
  (hline:autoParam ((apos.endLine == cpos.line)=true) jT) (hst:autoParam (starEach [e] X.env=(false,eval e X.env)::starEach [] X.env) jT) (hplain:autoParam ((backTo cpos (starEach [] X.env)).any (·.1)=false) jT):
  QZ X E (.Expr (.Call (.Attribute o "extend" apos) [e] [] cpos) pos) (.ext i x):=by
 refine QS.imp (z7V (zfy u5 PySem.F.slot_list_extend PySem.F.type_list_extend zb8 ho (z3x hf z5L hst) hbase hfew hline hst hplain) hs) λDe σ H z9 =>?_;obtain⟨H0,G0,G,ρ,N0,R0,X0,ab,hr,hn,hR,hx⟩:=z9;obtain⟨l,hl,hr⟩:=z3N hr;obtain⟨a,s1,ga,h0,xs,hw,hrd⟩:=ab.ow i _ hl;refine⟨.ref a,s1,.inl ⟨rfl,xs,SqL.of hw⟩,?_⟩;refine⟨plus G H _,ρ,_,X0,z2X ab.g,ab.abe,hr,λd b G1 H1 q g1 g2 g3 hb gb how =>?_,hx.same ab.s0⟩
 cases d with
 | lst m=>
  obtain⟨zs,hz,hzr⟩:=how;obtain⟨q1,q2,q3⟩:=q;refine⟨a,b,xs,zs,rfl,rfl,g3 _ _ hw,hz,by rw[hrd.len,hzr.len];exact q1,?_⟩;have lm  := z2D (z02 (z23 ab.free) g1.1) ab.free;obtain⟨ab',g'⟩:=ab.wrB g1 g2 g3 hl s1 ((hrd.same lm).app (zcr ab g2 g3 q2 hzr));exact hn _ σ _ _ q3 ab' g'
 | _=>exact q.elim
def RDs.last {K:W.Frag}{mg:WmP}{G:Hp}{l:List D}{xs:List V}(h:RDs K mg G l xs):RDs K mg G l.dropLast xs.dropLast:=by
 rw[List.dropLast_eq_take,List.dropLast_eq_take,h.len];exact h.take _
def zaG {l:List D}{Kk:List D->D->Prop}(h:popL l Kk):∃d,l[l.length - 1]? = some d/\Kk l.dropLast d:=by
 unfold popL at h
 split at h
 .rename_i d e;exact⟨d,e,h⟩
 .exact h.elim
def zgC {K:W.Frag}{mg:WmP}{H0 G0 G H:Hp}{ρ:Pu.Env}{σ:L2.St}{l l':List D}{a:Addr}{ys:List V}(ab:AbS K mg H0 G0 G ρ σ H)(hi:ρ[i]? = some (B.o (.lst l)))(hs:σ[i]? = some (some (V.ref a)))(hr:RDs K mg G l' ys):AbS K mg H0 G0 G (ρ.set i (.o (.lst l'))) σ (upd H a (.lst ys)):=
 ab.wr ab.nw Same.refl' ab.g Same.refl' (λj d' a e s=>ab.free a ⟨j,d',e,s⟩) hi hs ⟨ys,z06,hr⟩
def zht (ho:QE X o (tVar i))(hs:autoParam (swapsWith (.Call (.Attribute o "pop" apos) [] [] cpos) none pos.line X.env=pure false) jT)(hbase:autoParam (attributeBase o "pop" X.env (eval o X.env)=eval o X.env) jT)(hline:autoParam ((apos.endLine == cpos.line)=true) jT):
  QZ X E (.Expr (.Call (.Attribute o "pop" apos) [] [] cpos) pos) (.pop i):=
 QS.imp (z7V (zi9 u5 PySem.F.slot_list_pop PySem.F.type_list_pop zjj ho hbase hline) hs) <| by
  rintro De σ H ⟨H0,G0,G,ρ,N0,R0,X0,ab,hr,hn,hR,hx⟩;obtain⟨l,hl,hr⟩:=z3N hr;obtain⟨d,hd,hN⟩:=zaG hr;obtain⟨a,s1,ga,h0,xs,hw,hrd⟩:=ab.ow i _ hl;refine⟨.ref a,s1,.inl ⟨rfl,xs,SqL.of hw⟩,?_⟩;obtain⟨v,hv,rv⟩:=hrd.get hd;exact⟨a,xs,v,rfl,rfl,hw,by rw[hrd.len];exact hv,hn _ σ _ G hN (zgC ab hl s1 hrd.last) Same.refl'⟩
def z8U {d:D}{Kk:Int->Prop}(h:isI d Kk):∃k,d = .int k/\Kk k:=by
 cases d with
 | int k=>exact⟨k,rfl,h⟩
 | _=>exact h.elim
def zdc {o:Option Nat}{Kk:Nat->Prop}(h:onN o Kk):∃k,o=some k/\Kk k:=by
 cases o with
 | none=>exact h.elim
 | some k=>exact⟨k,rfl,h⟩
def zhs {k:Expr}{p2:Pos}(ho:QE X o (tVar i))(hk:QX X E k y)(he:QX X E e x)(h:∀{te:TE}{g:TG},QE X e te->QG X (.Subscript o k p2) g->QS X (.Assign [.Subscript o k p2] e pos) (tAsg te g))
  (ha:autoParam (∀v,assign (.Subscript o k p2) X.env v=(do
   let ov <- holding [v] (eval o X.env)
   let iv <- holding [v,ov] (eval k X.env)
   standAt p2
   holding [v,ov,iv] (setItem ov iv v)
   release [v,ov,iv] [])) jV):QZ X E (.Assign [.Subscript o k p2] e pos) (.put i y x):=
 QS.imp (h he ⟨zio ho.p hk.p zcp ha⟩) <| by
  rintro De σ H ⟨H0,G0,G,ρ,N0,R0,X0,ab,hr,hn,hR,hx⟩;obtain⟨l,hl,hr⟩:=z3N hr;obtain⟨a,s1,ga,h0,xs,hw,hrd⟩:=ab.ow i _ hl;refine⟨plus G H _,ρ,_,X0,z2X ab.g,ab.abe,hr,λd v G1 H1 q g1 g2 g3 rd =>?_,hx.same ab.s0⟩;obtain⟨sf,q⟩:=q;refine⟨.ref a,s1,?_⟩;refine⟨G1,ρ,_,X0,g2,ab.abe.same g1.1,q,λkd kv G2 H2 q' k1 k2 k3 rk =>?_,hx.same (z02 ab.s0 g3)⟩;obtain⟨kk,rfl,q'⟩:=z8U q';obtain⟨jj,ej,hN⟩:=zdc q';have g12  := g1.trans g3 k1;have g33  := z02 g3 k3;have lm  := z2D (z02 (z23 ab.free) g12.1) ab.free;refine⟨a,xs,kk,jj,rfl,z0t rk,g33 _ _ hw,by rw[hrd.len];exact ej,?_⟩;obtain⟨ab',g'⟩:=ab.wrB g12 k2 g33 hl s1 (RDs.set (z3g ab k2 g33 sf (rd.same k1.1)) jj (hrd.same lm));exact hn _ σ _ _ hN ab' g'
end
section
variable {P:Program}{w:World}{K:W.Frag}{mg:WmP}{base:Heap}{N:List Str}{qual:Str}{f:Addr}
def zcm {G H:Hp}{ds:List D}{vs:List V}{np nn:Nat}(hs:Same G H)(r:RDs K mg G ds vs)(hl:ds.length=np)(hN:N.length=nn):AbS K mg H G G (ds.map B.s++List.replicate (nn - np) .n) (L2.z44 N vs) H:=by
 have hn:∀(i:Nat) (b:B),(ds.map B.s++List.replicate (nn - np) .n)[i]? = some b->(∃d,b = .s d/\ds[i]? = some d)\/b = .n:=λi b e=>by
  by_cases hi:i<ds.length
  .rw[wC (by simpa using hi),wG] at e;rw[wq hi] at e ⊢
   cases e
   exact .inl ⟨_,rfl,rfl⟩
  .rw[wM (by simpa using hi)] at e;have:=wu.mp e;obtain⟨h1,h2⟩:=this;simp at h2;exact .inr h2.symm
 refine⟨?_,Same.refl',Same.refl',hs,λa o e =>.inl ⟨o,e⟩,λi d e =>?_,λi d e =>?_,λi j d d' a _ e =>?_⟩
 .unfold L2.z44;rw[wL,wL,wd,wd,uo,uo,r.len,hl,hN]
 .rcases hn i _ e with ⟨d',e1,e2⟩ | e1
  .cases e1
   obtain⟨v,h1,h2⟩:=r.get e2;refine⟨v,?_,h2⟩;unfold L2.z44;have hi:i<vs.length:=(wu.mp h1).1;rw[wC (by simpa using hi),wG,h1]
   rfl
  .cases e1
 .rcases hn i _ e with ⟨d',e1,e2⟩ | e1 <;> cases e1
 .rcases hn i _ e with ⟨d',e1,e2⟩ | e1 <;> cases e1
def fnN {x:Str}{st:Stmt}{fd:FuncData}{ps:List Str}{k np nn:Nat}{b:Sm}(F:Fun K x qual st f fd)(S:z4m N ps (z07 st))(hp:ps.length=np)(hN:N.length=nn)
  (hb:∀(cdv:Value) (A:Around) (outer:List PySem.Env) (s:Shared) (H:Hp) (E:XK),Room k (A.deeper (envOfC qual (z07 st) s.heap.objs.size f cdv))->QZs ((cxOf (CXe P w) P w K mg base N qual (z07 st) f cdv A outer s H E).wish λ_ _=>False) E0 (z1A st) b):
  FnOk P w K mg base (CXe P w) (k+1) f fd ps (spP K mg (Fn.mkN np nn b)):=by
 refine F.okN S (λvs H Q E ⟨G,ds,Q0,X0,hs,rds,⟨hl,hr⟩,hk,hx⟩=>by rw[rds.len,hl,hp]) λcdv A outer s H vs Q E hroom ⟨G,ds,Q0,X0,hs,rds,⟨hl,hr⟩,hk,hx⟩=>⟨_,hb cdv A _ s H E hroom,?_⟩
 refine⟨H,G,G,_,λ_=>Q0 _,Q0,λ_=>False,zcm hs rds hl hN,hr,λρ' σ' H' G' q ab _ =>?_,hk,Kx.no⟩;exact hk _ _ G' H' q ⟨ab.g0,ab.nw⟩ ab.g ab.s0 (by rw[RD])
end
def Tg.slots:Tg->List Nat
 | .nm i=>[i]
 | .tp is=>is
section
variable {K:W.Frag}{mg:WmP}{G G1 H H1:Hp}{ρ:Pu.Env}{σ:L2.St}
def AbE.put {i:Nat}{d:D}{v:V}(h:AbE K mg G ρ σ)(hi:i < σ.length)(r:RD K mg G d v):AbE K mg G (ρ.set i (.s d)) (σ.set i (some v)):=λj e q=>by
 rw[Env.get_eq] at q
 by_cases hj:j=i
 .subst hj
  cases z:(ρ.set j (.s d))[j]? with
  | none=>simp_all
  | some b=>
   have hl  := by
    have:=(wu.mp z).1;simpa using this
   rw[wF hl] at q
   cases q
   exact⟨v,by rw[wF hi],r⟩
 .rw[ww (vF hj), <- Env.get_eq] at q;obtain⟨w,h1,h2⟩:=h j e q;exact⟨w,by rw[ww (vF hj)];exact h1,h2⟩
def AbE.keep {i:Nat}{v:V}(h:AbE K mg G ρ σ)(hn:ρ.get i=none):AbE K mg G ρ (σ.set i (some v)):=λj e q=>by
 have hj:j≠i:=λz=>by grind
 obtain⟨w,h1,h2⟩:=h j e q;exact⟨w,by rw[ww (vF hj)];exact h1,h2⟩
theorem AbE.putAll {base:Pu.Env}:∀(is:List Nat) (ds:List D) (vs:List V) {ρ:Pu.Env}{σ:L2.St},is.length=ds.length->RDs K mg G ds vs->(∀i∈is,i < σ.length)->(∀i∈is,base.get i=none)->AbE K mg G ρ σ->AbE K mg G base σ->
  AbE K mg G (z0G is ds ρ) ((is.zip vs).foldl (λσ p=>σ.set p.1 (some p.2)) σ)/\AbE K mg G base ((is.zip vs).foldl (λσ p=>σ.set p.1 (some p.2)) σ)/\((is.zip vs).foldl (λσ p=>σ.set p.1 (some p.2)) σ).length=σ.length
 | [],[],vs,ρ,σ,_,h,_,_,ab,bb=>by exact⟨ab,bb,rfl⟩
 | [],_::_,_,_,_,h,_,_,_,_,_=>by simp at h
 | _::_,[],_,_,_,h,_,_,_,_,_=>by simp at h
 | i::is,d::ds,vs,ρ,σ,h,r,hl,hn,ab,bb=>by
  obtain⟨v,vs',rfl,h1,h2⟩:=r;obtain⟨a1,a2,a3⟩:=AbE.putAll is ds vs' (by simpa using h) h2 (λj hj=>by simp_all) (λj hj=>hn j (wm _ hj)) (ab.put (hl i wv) h1) (bb.keep (hn i wv));exact⟨a1,a2,by simp_all⟩
def zcj {tg:Tg}{d:D}{v:V}{N0:Pu.Env->Prop}{N:L2.St->Hp->Prop}(ab:AbE K mg G ρ σ)(g:Same G H)(rd:RD K mg G d v)(hl:∀i∈tg.slots,i < σ.length)(hf:∀i∈tg.slots,ρ.get i=none)(hp:tg.put d ρ N0)
  (hn:∀ρ' σ',N0 ρ'->AbE K mg G ρ' σ'->AbE K mg G ρ σ'->σ'.length=σ.length->N σ' H):tgt K tg v σ H N:=by
 cases tg with
 | nm i=>
  have h1:=hl i (by simp[Tg.slots]);have h2:=hf i (by simp[Tg.slots]);exact hn _ _ hp (ab.put h1 rd) (ab.keep h2) (by simp)
 | tp is=>
  cases d with
  | tup ds=>
   obtain⟨hle,hp⟩:=hp;obtain⟨a,xs,rfl,h1,h2⟩:=rd;obtain⟨a1,a2,a3⟩:=AbE.putAll is ds xs hle h2 hl hf ab ab;exact⟨a,xs,rfl,z0y g h1,by rw[h2.len,hle],z5d (K:=K) is xs σ H N (by rw[h2.len,hle]) (hn _ _ hp a1 a2 a3)⟩
  | _=>exact hp.elim
def z9X {nt:Nat}{js:List Nat}(h:AbE K mg G ρ σ):AbE K mg G (z15 nt js ρ) (List.replicate nt none++js.map λj=>(σ[j]?).getD none):=λi d e=>by
 rw[Env.get_eq] at e;unfold z15 at e
 by_cases hi:i<nt
 .rw[wC (by simpa using hi),uZ,if_pos hi] at e
  cases e
 .rw[wM (by simpa using hi),uo,wG] at e;rw[wM (by simpa using hi),wG]
  cases q:js[i - nt]? with
  | none=>simp_all
  | some j=>
   rw[q] at e;have e':((ρ[j]?).getD .n).get=some d:=e;have e2:ρ.get j=some d:=by
    rw[Env.get_eq]
    cases z:ρ[j]? with
    | none=>rw[z] at e';cases e'
    | some b=>rw[z] at e';exact e'
   obtain⟨v,h1,h2⟩:=h j d e2
   simp_all
def z7u {nt:Nat}{js:List Nat}{i:Nat}(hi:i<nt):(z15 nt js ρ).get i=none:=by
 rw[Env.get_eq];unfold z15;rw[wC (by simpa using hi),uZ,if_pos hi]
 rfl
def TcOk (K:W.Frag)(mg:WmP)(c:Option Ex)(tc:TT):Prop:=match c with
 | none=>tc=z4R
 | some c=>tc=tt K mg E0 c
def zdq {nt:Nat}{js:List Nat}{tg:Tg}{c:Option Ex}{elt:Ex}{l:List D}{J:It}{tc:TT}{Q0:List D->Prop}{Q:VK}(hts:∀i∈tg.slots,i<nt)(ab:AbE K mg G ρ σ)(g:Same G H)(hw:Walk K mg G l J)(hsz:l.length<sizeLine)
  (hr:z3Z (z4j tg c elt (z15 nt js ρ)) l Q0)
  (htc:TcOk K mg c tc)
  (hk:∀rs ys p G2 H2,Q0 rs->Gr G H G2->Same G2 H2->Same H H2->RDs K mg G2 rs ys->H2 p=none->Q (.ref p) (upd H2 p (.lst ys))):
  LcG J (tgt K tg) tc (tx K mg E0 elt) Q (List.replicate nt none++js.map λj=>(σ[j]?).getD none) H:=by
 refine⟨λi m ys σ' H'=>m=l.length - i/\i<=l.length/\ys.length<=i/\σ'.length=nt+js.length/\∃G' rs,Gr G H G'/\Same G' H'/\Same H H'/\RDs K mg G' rs ys/\AbE K mg G' (z15 nt js ρ) σ'/\z3Z (z4j tg c elt (z15 nt js ρ)) (l.drop i) λr=>Q0 (rs++r),
  ⟨l.length,by simp,vf _,by simp,by simp,G,[],Gr.refl,g,Same.refl',RDs.nil,z9X ab,by simpa using hr⟩,?_⟩
 rintro i m ys σ1 H1 ⟨rfl,hi,hyl,hsl,G1,rs,g1,g2,g3,rds,ab1,h1⟩;refine⟨by lia,?_⟩;obtain⟨w1,w2⟩:=hw i G1 H1 g1.1 g2
 by_cases hlt:i<l.length
 .have e:l[i]? = some l[i]:=by simp[hlt]
  obtain⟨go,yl⟩:=w1 _ e;rw[uQ hlt] at h1;have h1':z4j tg c elt (z15 nt js ρ) l[i] (λo=>z3Z (z4j tg c elt (z15 nt js ρ)) (l.drop (i+1)) λr=>Q0 (rs++(o.toList++r))):=h1;unfold z4j at h1';refine .inr ⟨go,λv H2 y =>?_⟩;obtain⟨s2,G2,k1,k2,rd⟩:=yl v H2 y;refine zcj (ab1.same k1.1) k2 rd (λj hj=>by rw[hsl];have:=hts j hj;lia) (λj hj=>z7u (hts j hj)) h1' λρ3 σ3 hb ab3 bb3 hl3 =>?_;have el:∀{G3 H3:Hp},Gr G2 H2 G3->Same G3 H3->Same H2 H3->(elt.run ρ3 (λd=>z3Z (z4j tg c elt (z15 nt js ρ)) (l.drop (i+1)) λr=>Q0 (rs++((some d:Option D).toList++r))) λ_=>False)->
    tx K mg E0 elt σ3 H3 λy H4=>∃m',m'<l.length - i/\m'=l.length - (i+1)/\i+1<=l.length/\(ys++[y]).length<=i+1/\σ3.length=nt+js.length/\∃G' rs',Gr G H G'/\Same G' H4/\Same H H4/\RDs K mg G' rs' (ys++[y])/\AbE K mg G' (z15 nt js ρ) σ3/\z3Z (z4j tg c elt (z15 nt js ρ)) (l.drop (i+1)) λr=>Q0 (rs'++r):=λ{G3 H3} k3 k4 k5 he=>by
   refine⟨G3,ρ3,_,λ_=>False,k4,ab3.same k3.1,he,λd v' G4 H4 q n1 n2 n3 rd' =>?_,Kx.no⟩;refine⟨l.length - (i+1),by lia,rfl,hlt,by simp;lia,by rw[hl3,hsl],G4,rs++[d],g1.trans g3 (k1.trans s2 (k3.trans k5 n1)),n2,z02 g3 (z02 s2 (z02 k5 n3)),((rds.same (z02 k1.1 (z02 k3.1 n1.1))).app (RDs.cons rd' RDs.nil)),bb3.same (z02 k3.1 n1.1),?_⟩;refine z3o z4i _ _ _ (λr q =>?_) q;simpa using q
  cases c with
  | none=>
   have:tc=z4R:=htc;subst this;unfold z4R;dsimp only;rw[if_pos rfl];exact el Gr.refl k2 Same.refl' hb
  | some c=>
   have:tc=tt K mg E0 c:=htc;subst this;refine⟨G2,ρ3,_,λ_=>False,k2,ab3,hb,λd G3 H3 q k3 k4 k5 =>?_,Kx.no⟩;obtain⟨b,rfl,q1,q2⟩:=z6H q;refine⟨b,rfl,?_⟩
   cases b with
   | true=>exact iteT (el k3 k4 k5 (q1 rfl))
   | false=>
    refine iteF ⟨l.length - (i+1),by lia,rfl,hlt,by lia,by rw[hl3,hsl],G3,rs,g1.trans g3 (k1.trans s2 k3),k4,z02 g3 (z02 s2 k5),rds.same (z02 k1.1 k3.1),bb3.same k3.1,?_⟩;refine z3o z4i _ _ _ (λr q =>?_) (q2 rfl);simpa using q
 .have e:i=l.length:=by lia
  subst e;rw[List.drop_length] at h1;refine .inl ⟨w2 (wp _),λp hp=>hk rs ys p G1 H1 ?_ g1 g2 g3 rds hp⟩;have h1':Q0 (rs++[]):=h1;simpa using h1'
def za9 {E:XK}{nt:Nat}{js:List Nat}{tg:Tg}{src:Ex}{c:Option Ex}{elt:Ex}{tc:TT}{Q:VK}(hts:∀i∈tg.slots,i<nt)(htc:TcOk K mg c tc)(h:tf K mg E (.comp nt js tg src c elt) σ H Q):tLcG (ti K mg E src) (tgt K tg) tc (tx K mg E0 elt) nt js σ H Q:=by
 obtain⟨G,ρ,Q0,X0,hs,ab,hr,hk,hx⟩:=h;refine⟨G,ρ,_,X0,hs,ab,hr,λd q=>(z8M q).imp λ_ z=>z.1,λd G1 H1 q g1 g2 g3 l J el hw =>?_,hx⟩;have q'  := q;rw[el] at q';refine zdq hts (ab.same g1.1) g2 hw q'.1 q'.2 htc λrs ys p G2 H2 hq k1 k2 k3 rds hp =>?_;have hn:∀{A:Hp},Same A H2->A p=none:=λs=>z0S s hp;refine hk _ p G2 _ hq (g1.trans g3 k1) (z02 k2 (z0f hp _)) (z02 g3 (z02 k3 (z0f hp _))) (hn (z02 g3 k3)) (hn k2) ⟨ys,z06,rds⟩
end
section
variable {X:Cx}{E:XK}{elt iter target:Expr}{ct:Option Expr}{pos spos py:Pos}{scope:Scope}{N':List Str}{nt:Nat}{js:List Nat}{tg:Tg}{src x:Ex}{c:Option Ex}{y:Str}{iy:Nat}
def CtOk (X:Cx)(scope:Scope)(N':List Str)(ct:Option Expr)(c:Option Ex):Prop:=match ct,c with
 | none,none=>True
 | some e,some x=>∀(C:Addr) (s:Shared) (H:Hp) (fp:List Addr),QXT (X.compG scope N' C s H fp) E0 e x
 | _,_=>False
def CtQ (X:Cx)(scope:Scope)(N':List Str)(ct:Option Expr)(tc:TT):Prop:=match ct with
      | none=>tc=z4R
      | some c=>∀(C:Addr) (s:Shared) (H:Hp) (fp:List Addr),QT (X.compG scope N' C s H fp) c tc
def z99 (h:CtOk X scope N' ct c):∃tc:TT,CtQ X scope N' ct tc/\TcOk X.K X.mg c tc:=by
 cases ct with
 | none=>
  cases c with
  | none=>exact⟨z4R,rfl,rfl⟩
  | some c=>exact h.elim
 | some e=>
  cases c with
  | none=>exact h.elim
  | some c=>exact⟨tt X.K _ E0 c,h,rfl⟩
def zaA (hc:X.calm=true)(hi:QXI X E target iter src)(hk:scope.kind = .function)(cp:z43 X N' nt js scope)(hts:tg.slots.all (· < nt)=true)
  (hg:∀(C:Addr) (s:Shared) (H:Hp) (fp:List Addr),QG (X.compG scope N' C s H fp) target (tgt X.K tg)) (ht:CtOk X scope N' ct c)
  (he:∀(C:Addr) (s:Shared) (H:Hp) (fp:List Addr),QX (X.compG scope N' C s H fp) E0 elt x) (hs:autoParam (∀x,foldedSetIterable iter X.env x=pure x) jV):QF X E (.ListComp elt [⟨target,iter,ct.toList,0⟩] scope pos) (.comp nt js tg src c x):=by
 obtain⟨tc,h1,h2⟩:=z99 ht;exact QE.imp (zi6 hc hi hk cp hg h1 he hs) λσ H Q h=>za9 (λi hi=>v8 (jB.mp hts i hi)) h2 h
def zaz (hN:X.N.Nodup)(hiy:X.N[iy]? = some y)(hly:X.env.scope.names.lookup y=some .local)(hc:X.calm=true)(hi:QXI X E target iter src)(hk:scope.kind = .function)(cp:z43 X N' nt js scope)(hts:tg.slots.all (· < nt)=true)
  (hg:∀(C:Addr) (s:Shared) (H:Hp) (fp:List Addr),QG (X.compG scope N' C s H fp) target (tgt X.K tg)) (ht:CtOk X scope N' ct c)
  (he:∀(C:Addr) (s:Shared) (H:Hp) (fp:List Addr),QX (X.compG scope N' C s H fp) E0 elt x) (hsw:autoParam (swapsWith (.ListComp elt [⟨target,iter,ct.toList,0⟩] scope pos) (some (.Name y py)) spos.line X.env=pure true) jT) (hs:autoParam (∀x,foldedSetIterable iter X.env x=pure x) jV):
  QS X (.Assign [.Name y py] (.ListComp elt [⟨target,iter,ct.toList,0⟩] scope pos) spos) (tAsg (tf X.K X.mg E (.comp nt js tg src c x)) (z2u iy)):=by
 obtain⟨tc,h1,h2⟩:=z99 ht;exact QS.imp (zhT hN hiy hly hc hi hk cp hg h1 he hsw hs) λD σ H h=>za9 (λi hi=>v8 (jB.mp hts i hi)) h2 h
def zck {K:W.Frag}{mg:WmP}{σ:L2.St}{H:Hp}{Q:VK}(h:tx K mg E x σ H Q):tf K mg E x σ H Q:=by
 obtain⟨G,ρ,Q0,X0,hs,ab,hr,hk,hx⟩:=h;exact⟨G,ρ,Q0,X0,hs,ab,hr,hk.kf,hx⟩
def QS.sh {st:Stmt}(h:QS X st (tAsg (tf X.K X.mg E x) (z2u iy))):QS X st (tAsg (tx X.K X.mg E x) (z2u iy)):=QS.imp h λD σ H h=>zck h
def zhX {i:Nat}{z:Str}{pos:Pos}(hN:X.N.Nodup)(hi:X.N[i]? = some z)(hx:X.env.scope.names.lookup z=some .local):QG X (.Name z pos) (tgt X.K (.nm i)):=zhY hN hi hx
def pTup:Fn:=⟨λds Q _=>ds.length<=sizeLine/\Q (.tup ds),λds Q Q' X X' m _ q=>⟨q.1,m _ q.2⟩⟩
def pLst:Fn:=⟨λds Q _=>ds.length<=sizeLine/\Q (.lst ds),λds Q Q' X X' m _ q=>⟨q.1,m _ q.2⟩⟩
def zhA {es:List Expr}{xs:List Ex}{x1}(h:QXA X E es xs):QX X E (.Tuple es x1 pos) (.op pTup xs):=QE.imp (⟨ziq h.p⟩) <| by
 rintro σ H Q ⟨G,ρ,Q0,X0,hs,ab,hr,hk,hx⟩;refine⟨G,ρ,_,X0,hs,ab,hr,λds vs G1 H1 q g1 g2 g3 rds=>⟨by rw[rds.len];exact q.1,λp hp =>?_⟩,hx⟩;refine(hk.same g1 g3).new g2 hp q.2 ?_;exact⟨p,vs,rfl,SqT.of z06,rds.same (z0f (z0S g2 hp) _)⟩
def zhZ {es:List Expr}{xs:List Ex}(h:QXA X E es xs):QF X E (.List es pos) (.op pLst xs):=QE.imp (zi5 h) <| by
 rintro σ H Q ⟨G,ρ,Q0,X0,hs,ab,hr,hk,hx⟩;refine⟨G,ρ,_,X0,hs,ab,hr,λds vs G1 H1 q g1 g2 g3 rds=>⟨by rw[rds.len];exact q.1,λp hp =>?_⟩,hx⟩;exact hk _ p G1 _ q.2 g1 (z02 g2 (z0f hp _)) (z02 g3 (z0f hp _)) (z0S g3 hp) (z0S g2 hp) ⟨vs,z06,rds⟩
end
def fn2 (g:D->D->DK->Prop)(m:∀a b (Q Q':DK),(∀d,Q d->Q' d)->g a b Q->g a b Q'):Fn:=⟨λds Q _=>match ds with
 | [a,b]=>g a b Q
 | _=>False,λds Q Q' X X' mm _ q=>by
 match ds,q with
 | [a,b],q=>exact m a b Q Q' mm q
 | [],q=>exact q.elim
 | [_],q=>exact q.elim
 | _::_::_::_,q=>exact q.elim⟩
def fn1 (g:D->DK->Prop)(m:∀a (Q Q':DK),(∀d,Q d->Q' d)->g a Q->g a Q'):Fn:=⟨λds Q _=>match ds with
 | [a]=>g a Q
 | _=>False,λds Q Q' X X' mm _ q=>by
 match ds,q with
 | [a],q=>exact m a Q Q' mm q
 | [],q=>exact q.elim
 | _::_::_,q=>exact q.elim⟩
def z8J {o:Option D}{Q Q':DK}(m:∀d,Q d->Q' d)(h:onV o Q):onV o Q':=by
 cases o with
 | none=>exact h
 | some d=>exact m _ h
def z8I {o:Option D}{Q:DK}(h:onV o Q):∃d,o=some d/\Q d:=by
 cases o with
 | none=>exact h.elim
 | some d=>exact⟨d,rfl,h⟩
def gAdd (a b:D)(Q:DK):Prop:=match a,b with
 | .int i,.int j=>Q (.int (i+j))
 | .str x,.str y=>x.length+y.length<=sizeLine/\Q (.str (x++y))
 | .lst l,.lst m=>l.length+m.length<=sizeLine/\Q (.lst (l++m))
 | .tup l,.tup m=>l.length+m.length<=sizeLine/\Q (.tup (l++m))
 | _,_=>False
def zbA (a b:D)(Q Q':DK)(m:∀d,Q d->Q' d)(h:gAdd a b Q):gAdd a b Q':=by
 unfold gAdd at h ⊢
 split at h
 .exact m _ h
 .simp_all
 .simp_all
 .simp_all
 omega
def pAdd:Fn:=fn2 gAdd zbA
def gI (g:Int->Int->DK->Prop)(a b:D)(Q:DK):Prop:=match a,b with
 | .int i,.int j=>g i j Q
 | _,_=>False
def zgn {g:Int->Int->DK->Prop}(hg:∀i j (Q Q':DK),(∀d,Q d->Q' d)->g i j Q->g i j Q')(a b:D)(Q Q':DK)(m:∀d,Q d->Q' d)(h:gI g a b Q):gI g a b Q':=by
 unfold gI at h ⊢
 split at h
 .exact hg _ _ _ _ m h
 omega
def fnI (g:Int->Int->DK->Prop)(hg:∀i j (Q Q':DK),(∀d,Q d->Q' d)->g i j Q->g i j Q'):Fn:=fn2 (gI g) (zgn hg)
def pSub:Fn:=fnI (λi j Q=>Q (.int (i - j))) λ_ _ _ _ m h=>m _ h
def z21:Fn:=fnI (λi j Q=>zjW i j/\Q (.int (i.fdiv j))) λ_ _ _ _ m h=>⟨h.1,m _ h.2⟩
def pMod:Fn:=fnI (λi j Q=>j≠0/\Q (.int (i.fmod j))) λ_ _ _ _ m h=>⟨h.1,m _ h.2⟩
def pPow:Fn:=fnI (λi j Q=>CPow i j/\Q (.int (i ^ j.toNat))) λ_ _ _ _ m h=>⟨h.1,m _ h.2⟩
def gNeg (a:D)(Q:DK):Prop:=match a with
 | .int i=>Q (.int (-i))
 | _=>False
def pNeg:Fn:=fn1 gNeg λa Q Q' m h=>by
 unfold gNeg at h ⊢
 split at h
 .exact m _ h
 .exact h.elim
section
variable {X:Cx}{K:W.Frag}{mg:WmP}
def r2 (K:W.Frag)(mg:WmP)(F:Fn):R2:=λv1 v2 H Q=>∃G d1 d2 Q0 X0,Same G H/\RD K mg G d1 v1/\RD K mg G d2 v2/\F.run [d1,d2] Q0 X0/\Kt K mg G H Q0 Q
def r1 (K:W.Frag)(mg:WmP)(F:Fn):V->Hp->VK->Prop:=λv H Q=>∃G d Q0 X0,Same G H/\RD K mg G d v/\F.run [d] Q0 X0/\Kt K mg G H Q0 Q
def rN (K:W.Frag)(mg:WmP)(F:Fn):List V->Hp->VK->Prop:=λvs H Q=>∃G ds Q0 X0,Same G H/\RDs K mg G ds vs/\F.run ds Q0 X0/\Kt K mg G H Q0 Q
def lk2 {F:Fn}:Lk2 K mg F (r2 K mg F):=λG H d1 d2 v1 v2 Q0 X0 Q a b c d e=>⟨G,d1,d2,Q0,X0,a,b,c,d,e⟩
def lk1 {F:Fn}:Lk1 K mg F (r1 K mg F):=λG H d v Q0 X0 Q a b c d=>⟨G,_,Q0,X0,a,b,c,d⟩
def lkN {F:Fn}:LkN K mg F (rN K mg F):=λG H d v Q0 X0 Q a b c d=>⟨G,_,Q0,X0,a,b,c,d⟩
def zdP {prog:Program}{w:World}{A:Around}{E:WvP}{s:Shared}{t b:Addr}{ws:List Value}{Q:WvP}(ht:IsTup s.heap t ([]:List Value).toArray)(hb:IsTup s.heap b ws.toArray)(h:Q (.ref b) s):wpAny (model prog w) A (binaryOp .Add (.ref t) (.ref b)) Q E s:=by
 obtain⟨⟨cls,dd,data,sl⟩,ho,hc,n,hd⟩:=id ht;obtain⟨⟨cls2,dd2,data2,sl2⟩,ho2,hc2,n2,hd2⟩:=id hb;subst hc hd hc2 hd2;exact concat_meets ⟨_,ho,rfl⟩ ⟨_,ho2,rfl⟩ noFill_tuple_add seq_tuple_add PySem.F.slot_tuple_add PySem.F.entry_tuple_add (PySem.F.args_tuple_add_2 _ _)
   (tuple_addW0 t b _ _ n n2 dd dd2 sl sl2 (by simp)) ⟨ho,ho2,h⟩
def zdb:OpR X (binaryOp .Add) (λx y H Q=>∃a b ys,x = .ref a/\y = .ref b/\SqT X.K H a []/\SqT X.K H b ys/\Q (.ref b) H):=by
 intro pins s σ H x y v u Q I rx ry h;obtain⟨a,b,ys,rfl,rfl,ha,hb,q⟩:=h
 cases rx
 cases ry
 obtain⟨its,r1,p1,_⟩:=I.tuple ha;obtain⟨its2,r2,p2,_⟩:=I.tuple hb
 cases r1
 exact zdP p1 p2 ⟨.ref b,H,I,rfl,q⟩
def zke (K:W.Frag):R2:=λx y H Q=>∃l b xs zs,x = .ref l/\y = .ref b/\SqL K H l xs/\SqL K H b zs/\xs.length+zs.length<=sizeLine/\∀p,H p=none->Q (.ref p) (upd H p (.lst (xs++zs)))
def zfX:OpR X (binaryOp .Add) (zke X.K):=by
 intro pins s σ H x y v u Q I rx ry h;obtain⟨l,b,xs,zs,rfl,rfl,hH,hB,hz,q⟩:=h
 cases rx
 cases ry
 obtain⟨its,r,⟨⟨cls,dd,data,sl⟩,n,e,hc,_,hd⟩,z1⟩:=I.list hH;obtain⟨its2,r2,⟨⟨cls2,dd2,data2,sl2⟩,n2,e2,hc2,_,hd2⟩,z2⟩:=I.list hB;subst hc hd hc2 hd2;have l1:=r.length;have l2:=r2.length;have ea:its.toArray++its2.toArray=(its++its2).toArray:=by simp
 refine concat_meets ⟨_,e,rfl⟩ ⟨_,e2,rfl⟩ noFill_list_add seq_list_add PySem.F.slot_list_add PySem.F.entry_list_add (PySem.F.args_list_add_2 _ _) (list_addW l b _ _ n n2 dd dd2 sl sl2 (by grind)) ⟨e,e2,?_⟩;rw[ea];exact⟨.ref _,_,I.lnew (r.append r2) (by simp_all),rfl,q _ I.fresh⟩
def z1u {G:Hp}{l:List D}{v:V}(h:RD K mg G (.tup l) v):∃a xs,v = .ref a/\SqT K G a xs/\RDs K mg G l xs:=by exact h
def z1C {G:Hp}{l:List D}{v:V}(h:RD K mg G (.lst l) v):∃a xs,v = .ref a/\SqL K G a xs/\RDs K mg G l xs:=by exact h
def z2V {G:Hp}{x:Str}{v:V}(h:RD K mg G (.str x) v):v = .str x:=by exact h
def z6Y {G:Hp}{x:Bool}{v:V}(h:RD K mg G (.bl x) v):v = .bl x:=by exact h
def z6X {G:Hp}{v:V}(h:RD K mg G .non v):v = .non:=by exact h
def RD.newT {G H:Hp}{p:Addr}{l:List D}{xs:List V}(r:RDs K mg G l xs)(g:Same G H)(hp:H p=none):RD K mg (upd G p (.tup xs)) (.tup l) (.ref p):=by
 exact⟨p,xs,rfl,SqT.of z06,r.same (z0f (z0S g hp) _)⟩
def RD.newL {G H:Hp}{p:Addr}{l:List D}{xs:List V}(r:RDs K mg G l xs)(g:Same G H)(hp:H p=none):RD K mg (upd G p (.lst xs)) (.lst l) (.ref p):=by
 exact⟨p,xs,rfl,SqL.of z06,r.same (z0f (z0S g hp) _)⟩
def RD.ofT {G:Hp}{a:Addr}{l:List D}{xs:List V}(h:SqT K G a xs)(r:RDs K mg G l xs):RD K mg G (.tup l) (.ref a):=by exact⟨a,xs,rfl,h,r⟩
def RD.ofL {G:Hp}{a:Addr}{l:List D}{xs:List V}(h:SqL K G a xs)(r:RDs K mg G l xs):RD K mg G (.lst l) (.ref a):=by exact⟨a,xs,rfl,h,r⟩
def RD.int' {G:Hp}{i:Int}:RD K mg G (.int i) (.int i):=by rw[RD]
def RD.bl' {G:Hp}{i:Bool}:RD K mg G (.bl i) (.bl i):=by rw[RD]
def RD.str' {G:Hp}{i:Str}:RD K mg G (.str i) (.str i):=by rw[RD]
def RDs.ne_nil {G:Hp}{l:List D}{xs:List V}(r:RDs K mg G l xs):xs=[]↔l=[]:=by
 have:=r.len
 constructor
 .rintro rfl;exact uc.mp this.symm
 .rintro rfl;simp_all
def ziZ:OpR X (binaryOp .Add) (r2 X.K X.mg pAdd):=by
 rintro pins s σ H x y v u Q I rx ry ⟨G,d1,d2,Q0,X0,g,h1,h2,hr,hk⟩;have hr':gAdd d1 d2 Q0:=hr;unfold gAdd at hr'
 split at hr'
 .exact ziR pins s σ H x y v u Q I rx ry ⟨_,_,z0t h1,z0t h2,hk.now g hr' RD.int'⟩
 .exact z9D pins s σ H x y v u Q I rx ry ⟨_,_,z2V h1,z2V h2,hr'.1,hk.now g hr'.2 RD.str'⟩
 .obtain⟨a,xs,rfl,s1,r1⟩:=z1C h1;obtain⟨b,zs,rfl,s2,r2⟩:=z1C h2;exact zfX pins s σ H _ _ v u Q I rx ry ⟨a,b,xs,zs,rfl,rfl,z14 g s1,z14 g s2,by rw[r1.len,r2.len];exact hr'.1,λp hp=>hk.new g hp hr'.2 (RD.newL (r1.app r2) g hp)⟩
 .obtain⟨a,xs,rfl,s1,r1⟩:=z1u h1;obtain⟨b,zs,rfl,s2,r2⟩:=z1u h2
  by_cases hx:xs=[]
  .subst hx;have e:=r1.ne_nil.mp rfl;subst e;exact zdb pins s σ H _ _ v u Q I rx ry ⟨a,b,zs,rfl,rfl,z0y g s1,z0y g s2,hk.now g hr'.2 (RD.ofT s2 r2)⟩
  .refine zfW pins s σ H _ _ v u Q I rx ry ⟨a,b,xs,zs,rfl,rfl,z0y g s1,z0y g s2,hx,by rw[r1.len,r2.len];exact hr'.1,λe =>?_,λe p hp=>hk.new g hp hr'.2 (RD.newT (r1.app r2) g hp)⟩;have e:=r2.ne_nil.mp e;refine hk.now g hr'.2 ?_
   simp_all
 .exact hr'.elim
def z5e {g:Int->Int->DK->Prop}{a b:D}{Q:DK}(h:gI g a b Q):∃i j,a = .int i/\b = .int j/\g i j Q:=by
 unfold gI at h
 split at h
 .exact⟨_,_,rfl,rfl,h⟩
 .exact h.elim
def zdh {f:Value->Value->Sem Value}{C:Int->Int->Prop}{gv:Int->Int->Int}{hg}(h:OpR X f (rI C λi j =>.int (gv i j))):OpR X f (r2 X.K X.mg (fnI (λi j Q=>C i j/\Q (.int (gv i j))) hg)):=h.imp <| by
 rintro x y H Q ⟨G,d1,d2,Q0,X0,g,h1,h2,hr,hk⟩;obtain⟨i,j,rfl,rfl,c,q⟩:=z5e (show gI (λi j Q=>C i j/\Q _) d1 d2 Q0 from hr);exact⟨i,j,z0t h1,z0t h2,c,hk.now g q RD.int'⟩
def ziV:OpR X (binaryOp .Sub) (r2 X.K X.mg pSub):=ziL.imp <| by
 rintro x y H Q ⟨G,d1,d2,Q0,X0,g,h1,h2,hr,hk⟩;obtain⟨i,j,rfl,rfl,q⟩:=z5e (show gI (λi j Q=>Q _) d1 d2 Q0 from hr);exact⟨i,j,z0t h1,z0t h2,hk.now g q RD.int'⟩
def zfZ:OpR X (binaryOp .FloorDiv) (r2 X.K X.mg z21):=zdh zda
def ziY:OpR X (binaryOp .Mod) (r2 X.K X.mg pMod):=zdh zfV
def ziW:OpR X (binaryOp .Pow) (r2 X.K X.mg pPow):=zdh ziM
def ziK:UnR X (unaryOp .USub) (r1 X.K X.mg pNeg):=by
 rintro pins s σ H x v Q I rx ⟨G,d,Q0,X0,g,h1,hr,hk⟩;have hr':gNeg d Q0:=hr;unfold gNeg at hr'
 split at hr'
 .exact zgG _ s σ H x v Q I rx ⟨_,z0t h1,hk.now g hr' RD.int'⟩
 .exact hr'.elim
def z0h:Fn:=fnI (λi j Q=>zgz i j/\Q (.int (i*j))) λ_ _ _ _ m h=>⟨h.1,m _ h.2⟩
def ziX:OpR X (binaryOp .Mult) (r2 X.K X.mg z0h):=zdh zfU
end
end Pu
namespace HT
open PySem PyProof.Rows
section
open PySem.SeqAt
open PySem.AutoSeq1 (wpAny_loadPart')
open PySem.MeetsSeq PySem.MeetsSeq2 PySem.MeetsSeq3
def zcC (A:Around)(s:Shared)(a:Int)(t:Tok)(c:Int)(u:Tok)(prog:Program)(w:World)(E:WvP)(Q:WvP)(h:Q (.bool (decide (c<a))) s):
  wpAny (model prog w) A (richCompare .Gt (.int a t) (.int c u)) Q E s:=
 (PyProof.Rows.gt_int h)
def z5X (l b:Addr)(z03 items2:Array Value)(n n2:Nat)(dd dd2:Option Addr)(sl sl2:Array (Option Value))(ns ms:List Int)(hi:IntsAre z03.toList ns)(hj:IntsAre items2.toList ms):
  Meets (Builtin.«tuple.__gt__» ⟨[.ref l,.ref b],[]⟩)
   (λ_ R s=>s.heap.get? l=some { cls :=.type "tuple",dict:=dd,data :=.seq z03 n,slots:=sl }/\s.heap.get? b=some { cls :=.type "tuple",dict:=dd2,data :=.seq items2 n2,slots:=sl2 }/\
    R (.ok (.ret (.bool (z0r ms ns)))) s):=
 .of_wp λprog w A R s h=>by
  obtain⟨hp,g,d,tk,os⟩:=s;obtain⟨hl,hb,h⟩:=h;have f2:=AutoSeq1.sub_tuple_tuple;have z1:z03.size=ns.length:=by rw[<- hi.length];simp
  have z2:items2.size=ms.length:=by rw[<- hj.length];simp
  wp_walk using uU hl,uU hb,u9 _ (λrest b s'=>b.1=none/\s'=⟨hp,g,d,tk,os⟩/\∃(vs ws:List Value) (ns' ms':List Int),rest=vs.zip ws/\
   IntsAre vs ns'/\IntsAre ws ms'/\ns'.length+items2.size=ms'.length+z03.size/\R (.ok (.ret (.bool (z0r ms' ns')))) ⟨hp,g,d,tk,os⟩) _
  case turn=>
   rintro⟨y,x⟩ rest b s' ⟨hb',rfl,vs,ws,ns',ms',hz,hvi,hwi,hlen,hR⟩
   cases hvi with
   | nil=>rw[List.zip_nil_left] at hz;cases hz
   | cons a t hvi'=>
    cases hwi with
    | nil=>rw[List.zip_nil_right] at hz;cases hz
    | cons c u hwi'=>
     rw[uJ] at hz
     injection hz with hyx hrest
     injection hyx with hy hx
     subst hy hx;rw[z0M] at hR;simp only[wO] at hlen;obtain⟨e,he,hiff⟩:=z92 A.in1 ⟨hp,g,d,tk,os⟩ a t c u;refine wc (he prog w _ _ ?_)
     cases e with
     | true=>
      rw[if_pos (hiff.mp rfl).symm] at hR
      wp_walk
      exact⟨rfl,rfl,_,_,_,_,hrest,hvi',hwi',by omega,hR⟩
     | false=>
      rw[if_neg (λq=>absurd (hiff.mpr (Eq.symm q)) wP)] at hR;have hri:=zcC A.in1 ⟨hp,g,d,tk,os⟩ a t c u prog w
      wp_walk using hri
      exact⟨_,rfl,by simpa using hR⟩
  case fin=>
   rintro⟨b1,b2⟩ s' ⟨hb',rfl,vs,ws,ns',ms',hz,hvi,hwi,hlen,hR⟩;simp only at hb';subst hb';have hv:z0r ms' ns'=decide (items2.size<z03.size):=by
    cases hvi with
    | nil=>
     cases hwi with
     | nil=>
      simp only[v4] at hlen;rw[z2C];exact(ve (by omega)).symm
     | cons c u hw=>
      simp only[v4,wO] at hlen;rw[z3t];exact(ve (by omega)).symm
    | cons a t hv=>
     cases hwi with
     | nil=>
      simp only[v4,wO] at hlen;rw[z3s];exact(vq (by omega)).symm
     | cons c u hw=>
      rw[uJ] at hz
      cases hz
   rw[hv] at hR
   wp_walk
   exact⟨_,rfl,by simpa[Builtin.Tuple.tupleCompareSizes] using hR⟩
  case h=>
   exact⟨rfl,rfl,z03.toList,items2.toList,ns,ms,rfl,hi,hj,by omega,h⟩
end
section
variable {prog:Program}{w:World}{A:Around}{E:WvP}{s:Shared}
def z5Q {l b:Addr}{z03 items2:Array Value}{ns ms:List Int}{Q:WvP}(hl:IsTup s.heap l z03)(hb:IsTup s.heap b items2)(hi:IntsAre z03.toList ns)(hj:IntsAre items2.toList ms)
  (hu:A.units<cLine) (h:Q (.bool (z0r ms ns)) s):wpAny (model prog w) A (compareOp .Gt (.ref l) (.ref b)) Q E s:=by
 obtain⟨⟨cls,dd,data,sl⟩,ho,hc,n,hd⟩:=id hl;obtain⟨⟨cls2,dd2,data2,sl2⟩,ho2,hc2,n2,hd2⟩:=id hb;subst hc hd hc2 hd2;exact richCompare_meets_room (op :=.Gt) ⟨_,ho,rfl⟩ ⟨_,ho2,rfl⟩ PySem.F.slot_tuple_gt PySem.F.entry_tuple_gt (PySem.F.args_tuple_gt_2 _ _) (z5X l b _ _ n n2 dd dd2 sl sl2 ns ms hi hj)
  ⟨ho,ho2,⟨(λx=>nomatch x),h⟩⟩ hu
end
end HT
namespace Pu
open PySem PySem.Spec PyProof.Rows L2
def ints? : List D->Option (List Int)
 | []=>some []
 | .int i::r=>match ints? r with
  | some l=>some (i::l)
  | none=>none
 | _::_=>none
theorem z31:∀{l:List D}{ns:List Int},ints? l=some ns->l=ns.map D.int
 | [],ns,h=>by
  have  := by simpa[ints?] using h.symm
  subst this;rfl
 | .int i::r,ns,h=>by
  unfold ints? at h
  cases q:ints? r with
  | none=>simp_all
  | some l=>
   rw[q] at h
   cases h
   rw[z31 q];rfl
 | .non::_,_,h=>by simp[ints?] at h
 | .bl _::_,_,h=>by simp[ints?] at h
 | .str _::_,_,h=>by simp[ints?] at h
 | .tup _::_,_,h=>by simp[ints?] at h
 | .lst _::_,_,h=>by simp[ints?] at h
 | .dct _ _::_,_,h=>by simp[ints?] at h
 | .fn _::_,_,h=>by simp[ints?] at h
 | .exc _::_,_,h=>by simp[ints?] at h
 | .ptr _::_,_,h=>by simp[ints?] at h
 | .fz _ _::_,_,h=>by simp[ints?] at h
 | .ins _ _ _::_,_,h=>by simp[ints?] at h
def z8W (ns:List Int):ints? (ns.map D.int)=some ns:=by
 induction ns with
 | nil=>rfl
 | cons n ns ih=>rw[wE,ints?, ih]
def onI (o:Option (List Int))(Q:List Int->Prop):Prop:=match o with
 | some l=>Q l
 | none=>False
def z4E {o:Option (List Int)}{Q Q':List Int->Prop}(m:∀d,Q d->Q' d)(h:onI o Q):onI o Q':=by
 cases o with
 | none=>exact h
 | some d=>exact m _ h
def z4D {o:Option (List Int)}{Q:List Int->Prop}(h:onI o Q):∃d,o=some d/\Q d:=by
 cases o with
 | none=>exact h.elim
 | some d=>exact⟨d,rfl,h⟩
def gCmp (f:Int->Int->Bool)(t:List Int->List Int->Bool)(a b:D)(Q:DK):Prop:=match a,b with
 | .int i,.int j=>Q (.bl (f i j))
 | .tup l,.tup m=>onI (ints? l) λns=>onI (ints? m) λms=>Q (.bl (t ns ms))
 | _,_=>False
def z7n {f:Int->Int->Bool}{t:List Int->List Int->Bool}(a b:D)(Q Q':DK)(m:∀d,Q d->Q' d)(h:gCmp f t a b Q):gCmp f t a b Q':=by
 unfold gCmp at h ⊢
 split at h
 .exact m _ h
 .exact z4E (λ_ h=>z4E (λ_ h=>m _ h) h) h
 grind
def pLt:Fn:=fn2 (gCmp (λi j=>decide (i<j)) λns ms=>HT.z0r ns ms) z7n
def pGt:Fn:=fn2 (gCmp (λi j=>decide (j<i)) λns ms=>HT.z0r ms ns) z7n
def pLe:Fn:=fnI (λi j Q=>Q (.bl (decide (i<=j)))) λ_ _ _ _ m h=>m _ h
section
variable {X:Cx}{K:W.Frag}{mg:WmP}
theorem z3h {G:Hp}:∀(ns:List Int) {xs:List V},RDs K mg G (ns.map D.int) xs->xs=ns.map V.int
 | [],xs,h=>by subst h;rfl
 | n::ns,xs,h=>by
  obtain⟨x,r,rfl,h1,h2⟩:=h;rw[z0t h1,z3h ns h2];rfl
theorem z4G {G:Hp}:∀(ns:List Int),RDs K mg G (ns.map D.int) (ns.map V.int)
 | []=>RDs.nil
 | n::ns=>RDs.cons RD.int' (z4G ns)
def ziU {op:CmpOp}{f:Int->Int->Bool}{t:List Int->List Int->Bool}{hm}(hi:OpR X (compareOp op) (rI0 λi j =>.bl (f i j)))(ht:OpR X (compareOp op) (λx y H Q=>∃a b ns ms,x = .ref a/\y = .ref b/\SqT X.K H a (ns.map V.int)/\SqT X.K H b (ms.map V.int)/\Q (.bl (t ns ms)) H)):
  OpR X (compareOp op) (r2 X.K X.mg (fn2 (gCmp f t) hm)):=by
 rintro pins s σ H x y v u Q I rx ry ⟨G,d1,d2,Q0,X0,g,h1,h2,hr,hk⟩;have hr':gCmp f t d1 d2 Q0:=hr;unfold gCmp at hr'
 split at hr'
 .exact hi _ s σ H x y v u Q I rx ry ⟨_,_,z0t h1,z0t h2,hk.now g hr' RD.bl'⟩
 .obtain⟨ns,e1,hr'⟩:=z4D hr';obtain⟨ms,e2,hr'⟩:=z4D hr';obtain⟨a,xs,rfl,s1,r1⟩:=z1u h1;obtain⟨b,ys,rfl,s2,r2⟩:=z1u h2;rw[z31 e1] at r1;rw[z31 e2] at r2;rw[z3h ns r1] at s1;rw[z3h ms r2] at s2;exact ht _ s σ H _ _ v u Q I rx ry ⟨a,b,ns,ms,rfl,rfl,z0y g s1,z0y g s2,hk.now g hr' RD.bl'⟩
 .exact hr'.elim
def zkL (hu:X.A.units+64<cLine):OpR X (compareOp .Lt) (r2 X.K X.mg pLt):=ziU zkF (ziO (by omega))
def ziP (hu:X.A.units<cLine):OpR X (compareOp .Gt) (λx y H Q=>∃a b ns ms,x = .ref a/\y = .ref b/\SqT X.K H a (ns.map V.int)/\SqT X.K H b (ms.map V.int)/\Q (.bl (HT.z0r ms ns)) H):=by
 intro pins s σ H x y v u Q I rx ry h;obtain⟨a,b,ns,ms,rfl,rfl,ha,hb,q⟩:=h
 cases rx
 cases ry
 obtain⟨its,r1,p1,_⟩:=I.tuple ha;obtain⟨its2,r2,p2,_⟩:=I.tuple hb;exact HT.z5Q p1 p2 (z3j r1) (z3j r2) hu ⟨.bl _,H,I,rfl,q⟩
def zkN (hu:X.A.units+64<cLine):OpR X (compareOp .Gt) (r2 X.K X.mg pGt):=ziU zkH (ziP (by omega))
def zkM (_:X.A.units+64<cLine):OpR X (compareOp .LtE) (r2 X.K X.mg pLe):=zkG.imp <| by
 rintro x y H Q ⟨G,d1,d2,Q0,X0,g,h1,h2,hr,hk⟩;obtain⟨i,j,rfl,rfl,q⟩:=z5e (show gI (λi j Q=>Q _) d1 d2 Q0 from hr);exact⟨i,j,z0t h1,z0t h2,hk.now g q RD.bl'⟩
def pGeI:Fn:=fnI (λi j Q=>Q (.bl (decide (j<=i)))) λ_ _ _ _ m h=>m _ h
def zkO:OpR X (compareOp .GtE) (r2 X.K X.mg pGeI):=zkI.imp <| by
 rintro x y H Q ⟨G,d1,d2,Q0,X0,g,h1,h2,hr,hk⟩;obtain⟨i,j,rfl,rfl,q⟩:=z5e (show gI (λi j Q=>Q _) d1 d2 Q0 from hr);exact⟨i,j,z0t h1,z0t h2,hk.now g q RD.bl'⟩
end
mutual
def py:D->PyData
 | .non =>.none
 | .bl b =>.bool b
 | .int i =>.int i
 | .str x =>.str x
 | .tup l =>.tuple (pys l)
 | .lst l =>.list (pys l)
 | _ =>.none
def pys:List D->List PyData
 | []=>[]
 | d::ds=>py d::pys ds
end
def Da:Nat->D->Prop
 | _,.non=>True
 | _,.bl _=>True
 | _,.int _=>True
 | _,.str x=>PyData.strOk x=true
 | 0,.tup _=>False
 | n+1,.tup l=>∀d∈l,Da n d
 | 0,.lst _=>False
 | n+1,.lst l=>∀d∈l,Da n d
 | _,.dct _ _=>False
 | _,.fn _=>False
 | _,.exc _=>False
 | _,.ptr _=>False
 | _,.fz _ _=>False
 | _,.ins _ _ _=>False
section
variable {X:Cx}{K:W.Frag}{mg:WmP}
theorem Da.tup {n:Nat}{l:List D}:Da (n+1) (.tup l)↔∀d∈l,Da n d:=by rw[Da]
theorem Da.lst {n:Nat}{l:List D}:Da (n+1) (.lst l)↔∀d∈l,Da n d:=by rw[Da]
theorem Da.int {n:Nat}{i:Int}:Da n (.int i):=by cases n <;> (trivial)
theorem Da.str {n:Nat}{x:Str}:Da n (.str x)↔PyData.strOk x=true:=by cases n <;> rw[Da]
def Da.canLay:∀(n:Nat) (d:D),Da n d->(py d).canLay0=true/\(py d).depth<=n:=by
 intro n
 induction n with
 | zero=>
  intro d h
  cases d with
  | non=>exact⟨rfl,wp _⟩
  | bl _=>exact⟨rfl,wp _⟩
  | int _=>exact⟨rfl,wp _⟩
  | str x=>exact⟨by exact Da.str.mp h,by rw[py,PyData.depth];exact wp _⟩
  | _=>rw[Da] at h;exact h.elim
 | succ n ih=>
  have all:∀l:List D,(∀d∈l,Da n d)->PyData.canLayAll0 (pys l)=true/\PyData.depthAll (pys l)<=n:=by
   intro l
   induction l with
   | nil=>intro _;exact⟨rfl,vf _⟩
   | cons d l ihl=>
    intro h;obtain⟨a1,a2⟩:=ih d (h d wv);obtain⟨b1,b2⟩:=ihl λx hx=>h x (wm _ hx);rw[pys,PyData.canLayAll0,PyData.depthAll,a1,b1];exact⟨rfl,Nat.max_le.mpr ⟨a2,b2⟩⟩
  intro d h
  cases d with
  | non=>exact⟨rfl,vf _⟩
  | bl _=>exact⟨rfl,vf _⟩
  | int _=>exact⟨rfl,vf _⟩
  | str x=>exact⟨by exact Da.str.mp h,by rw[py,PyData.depth];exact vf _⟩
  | tup l=>
   obtain⟨a,b⟩:=all l (Da.tup.mp h);exact⟨by rw[py,PyData.canLay0];exact a,by rw[py,PyData.depth];omega⟩
  | lst l=>
   obtain⟨a,b⟩:=all l (Da.lst.mp h);exact⟨by rw[py,PyData.canLay0];exact a,by rw[py,PyData.depth];omega⟩
  | _=>rw[Da] at h;exact h.elim
theorem Da.shaped {n:Nat}{d:D}(h:Da n d)(hn:n<=64):PySem.SeqAt.shaped (py d)=true:=by
 obtain⟨a,b⟩:=Da.canLay n d h;unfold PySem.SeqAt.shaped;rw[a,vq (wI b hn)]
 rfl
def Da.rp {G:Hp}:∀(n:Nat) (d:D) {v:V},Da n d->RD K mg G d v->Rp K G (py d) v:=by
 intro n
 induction n with
 | zero=>
  intro d v h r
  cases d with
  | non=>rw[py,Rp];exact z6X r
  | bl _=>rw[py,Rp];exact z6Y r
  | int _=>rw[py,Rp];exact z0t r
  | str x=>rw[py,Rp];exact z2V r
  | _=>rw[Da] at h;exact h.elim
 | succ n ih=>
  have all:∀(l:List D) {xs:List V},(∀d∈l,Da n d)->RDs K mg G l xs->RpL K G (pys l) xs:=by
   intro l
   induction l with
   | nil=>intro xs _ r;rw[RDs] at r;subst r;rw[pys,RpL]
   | cons d l ihl=>
    intro xs h r;obtain⟨x,r',rfl,r1,r2⟩:=r;exact⟨x,r',rfl,ih d (h d wv) r1,ihl (λx hx=>h x (wm _ hx)) r2⟩
  intro d v h r
  cases d with
  | non=>rw[py,Rp];exact z6X r
  | bl _=>rw[py,Rp];exact z6Y r
  | int _=>rw[py,Rp];exact z0t r
  | str x=>rw[py,Rp];exact z2V r
  | tup l=>
   obtain⟨a,xs,rfl,h1,h2⟩:=z1u r;rw[py,Rp];exact⟨a,xs,rfl,h1,all l (Da.tup.mp h) h2⟩
  | lst l=>
   obtain⟨a,xs,rfl,h1,h2⟩:=z1C r;rw[py,Rp];exact⟨a,xs,rfl,h1,all l (Da.lst.mp h) h2⟩
  | _=>rw[Da] at h;exact h.elim
end
def deq (a b:D):Bool:=PyData.eqv (py a) (py b)
def gEq (neg:Bool)(a b:D)(Q:DK):Prop:=match a,b with
 | .int i,.int j=>Q (.bl (if neg then !decide (i=j) else decide (i=j)))
 | .str x,.str y=>Q (.bl (if neg then !decide (x=y) else decide (x=y)))
 | .bl x,.bl y=>Q (.bl (if neg then !decide (x=y) else decide (x=y)))
 | a,b=>Da 60 a/\Da 60 b/\Q (.bl (if neg then !deq a b else deq a b))
def z6s {neg:Bool}(a b:D)(Q Q':DK)(m:∀d,Q d->Q' d)(h:gEq neg a b Q):gEq neg a b Q':=by
 unfold gEq at h ⊢
 split at h
 .exact m _ h
 .exact m _ h
 .exact m _ h
 simp_all
def pEq:Fn:=fn2 (gEq false) z6s
def pNe:Fn:=fn2 (gEq true) z6s
section
variable {X:Cx}{K:W.Frag}{mg:WmP}
def z8i {p q:Prop}[Decidable p][Decidable q](h:p↔q):decide p=decide q:=by simp_all
def zeo {op:CmpOp}{neg:Bool}(h1:OpR X (compareOp op) (λx y H Q=>scal x y=true/\Q (.bl (if neg then !decide (x=y) else decide (x=y))) H))(h2:OpR X (compareOp op) (rEqD X.K neg)):OpR X (compareOp op) (r2 X.K X.mg (fn2 (gEq neg) z6s)):=by
 rintro pins s σ H x y v u Q I rx ry ⟨G,d1,d2,Q0,X0,g,r1,r2,hr,hk⟩;have hr':gEq neg d1 d2 Q0:=hr;unfold gEq at hr'
 split at hr'
 .have e1:=z0t r1;have e2:=z0t r2;subst e1;subst e2;refine h1 _ s σ H _ _ v u Q I rx ry ⟨rfl,?_⟩;rw[z8i (⟨λh=>V.int.inj h,λh=>congrArg V.int h⟩)];exact hk.now g hr' RD.bl'
 .have e1:=z2V r1;have e2:=z2V r2;subst e1;subst e2;refine h1 _ s σ H _ _ v u Q I rx ry ⟨rfl,?_⟩;rw[z8i (⟨λh=>V.str.inj h,λh=>congrArg V.str h⟩)];exact hk.now g hr' RD.bl'
 .have e1:=z6Y r1;have e2:=z6Y r2;subst e1;subst e2;refine h1 _ s σ H _ _ v u Q I rx ry ⟨rfl,?_⟩;rw[z8i (⟨λh=>V.bl.inj h,λh=>congrArg V.bl h⟩)];exact hk.now g hr' RD.bl'
 .obtain⟨a1,a2,q⟩:=hr';exact h2 _ s σ H x y v u Q I rx ry ⟨_,_,(Da.rp 60 _ a1 r1).same g,(Da.rp 60 _ a2 r2).same g,a1.shaped (by decide),a2.shaped (by decide),hk.now g q RD.bl'⟩
def zkP (hu:X.A.units+64<cLine):OpR X (compareOp .Eq) (r2 X.K X.mg pEq):=zeo (zkJ.imp λ_ _ _ _ h=>h) (ziQ hu)
def zkK (hu:X.A.units+64<cLine):OpR X (compareOp .NotEq) (r2 X.K X.mg pNe):=zeo (zkE.imp λ_ _ _ _ h=>h) (ziN hu)
def isN:D->Bool
 | .non=>true
 | _=>false
def gIs (neg:Bool)(a b:D)(Q:DK):Prop:=match b with
 | .non=>Q (.bl (if neg then !isN a else isN a))
 | _=>False
def zdC {neg:Bool}(a b:D)(Q Q':DK)(m:∀d,Q d->Q' d)(h:gIs neg a b Q):gIs neg a b Q':=by
 unfold gIs at h ⊢
 split at h
 .exact m _ h
 omega
def z8G:Fn:=fn2 (gIs true) zdC
def zhm {G:Hp}{d:D}{v:V}(r:RD K mg G d v):decide (v = .non)=isN d:=by
 cases d with
 | non=>rw[z6X r];rfl
 | bl b=>rw[z6Y r];rfl
 | int b=>rw[z0t r];rfl
 | str b=>rw[z2V r];rfl
 | tup l=>obtain⟨a,xs,rfl,_⟩:=z1u r;rfl
 | lst l=>obtain⟨a,xs,rfl,_⟩:=z1C r;rfl
 | dct k v=>obtain⟨a,xs,rfl,_⟩:=r;rfl
 | fn n=>obtain⟨a,rfl,_⟩:=r;rfl
 | exc n=>obtain⟨a,xs,rfl,_⟩:=r;rfl
 | ptr a=>subst r;rfl
 | fz k v=>obtain⟨a,xs,rfl,_⟩:=r;rfl
 | ins n fs cs=>obtain⟨p,C,dx,xs,rfl,_⟩:=r;rfl
def zdi:OpR X (compareOp .IsNot) (r2 X.K X.mg z8G):=zfT.imp <| by
 rintro x y H Q ⟨G,d1,d2,Q0,X0,g,r1,r2,hr,hk⟩;have hr':gIs _ d1 d2 Q0:=hr;unfold gIs at hr'
 split at hr'
 .exact⟨z6X r2,by rw[zhm r1];exact hk.now g hr' RD.bl'⟩
 .exact hr'.elim
def z1d {g:D->DK->Prop}{m}{ds:List D}{Q:DK}{Xp:XP}(h:(fn1 g m).run ds Q Xp):∃d,ds=[d]/\g d Q:=by
 match ds,h with
 | [a],h=>exact⟨a,rfl,h⟩
 | [],h=>exact h.elim
 | _::_::_,h=>exact h.elim
def zdF {g:D->D->DK->Prop}{m}{ds:List D}{Q:DK}{Xp:XP}(h:(fn2 g m).run ds Q Xp):∃d e,ds=[d,e]/\g d e Q:=by
 match ds,h with
 | [a,b],h=>exact⟨a,b,rfl,h⟩
 | [],h=>exact h.elim
 | [_],h=>exact h.elim
 | _::_::_::_,h=>exact h.elim
def gLen (d:D)(Q:DK):Prop:=match d with
 | .lst l=>Q (.int (l.length:Int))
 | .tup l=>Q (.int (l.length:Int))
 | .str x=>x.length<=sizeLine/\Q (.int (x.length:Int))
 | _=>False
def pLen:Fn:=fn1 gLen λd Q Q' m h=>by
 unfold gLen at h ⊢
 split at h
 .exact m _ h
 .exact m _ h
 .exact⟨h.1,m _ h.2⟩
 .exact h.elim
def zeN:z0w X (.builtin "len") (rN X.K X.mg pLen):=(z0w.or z7z z7y).imp <| by
 rintro vs H Q ⟨G,ds,Q0,X0,g,rds,hr,hk⟩;obtain⟨d,rfl,hr'⟩:=z1d hr;obtain⟨v,rfl,rd⟩:=rds1 rds;unfold gLen at hr'
 split at hr'
 .obtain⟨a,xs,rfl,h1,h2⟩:=z1C rd;exact .inl ⟨a,xs,rfl,.inl (z14 g h1),by rw[h2.len];exact hk.now g hr' RD.int'⟩
 .obtain⟨a,xs,rfl,h1,h2⟩:=z1u rd;exact .inl ⟨a,xs,rfl,.inr (z0y g h1),by rw[h2.len];exact hk.now g hr' RD.int'⟩
 .have e:=z2V rd;subst e;exact .inr ⟨_,rfl,hr'.1,hk.now g hr'.2 RD.int'⟩
 .exact hr'.elim
def gAbs (d:D)(Q:DK):Prop:=match d with
 | .int i=>Q (.int (if i<0 then -i else i))
 | _=>False
def pAbs:Fn:=fn1 gAbs λd Q Q' m h=>by
 unfold gAbs at h ⊢
 split at h
 .exact m _ h
 .exact h.elim
def zeP:z0w X (.builtin "abs") (rN X.K X.mg pAbs):=zdS.imp <| by
 rintro vs H Q ⟨G,ds,Q0,X0,g,rds,hr,hk⟩;obtain⟨d,rfl,hr'⟩:=z1d hr;obtain⟨v,rfl,rd⟩:=rds1 rds;unfold gAbs at hr'
 split at hr'
 .have e:=z0t rd;subst e;exact⟨_,rfl,hk.now g hr' RD.int'⟩
 .exact hr'.elim
def zbw (d:D)(Q:DK):Prop:=match d with
 | .lst l=>Q (.tup l)
 | .tup l=>Q (.tup l)
 | _=>False
def z1N:Fn:=fn1 zbw λd Q Q' m h=>by
 unfold zbw at h ⊢
 split at h
 .exact m _ h
 .exact m _ h
 .exact h.elim
def z98:z0w X (.type "tuple") (rN X.K X.mg z1N):=z6A.imp <| by
 rintro vs H Q ⟨G,ds,Q0,X0,g,rds,hr,hk⟩;obtain⟨d,rfl,hr'⟩:=z1d hr;obtain⟨v,rfl,rd⟩:=rds1 rds;unfold zbw at hr'
 split at hr'
 .obtain⟨a,xs,rfl,h1,h2⟩:=z1C rd;exact⟨a,xs,rfl,.inl ⟨z14 g h1,λp hp=>hk.new g hp hr' (RD.newT h2 g hp)⟩⟩
 .obtain⟨a,xs,rfl,h1,h2⟩:=z1u rd;exact⟨a,xs,rfl,.inr ⟨z0y g h1,hk.now g hr' (RD.ofT h1 h2)⟩⟩
 .exact hr'.elim
def zbz (d:D)(Q:DK):Prop:=match d with
 | .lst l=>Q (.lst l)
 | .tup l=>Q (.lst l)
 | _=>False
def zaT:Fn:=fn1 zbz λd Q Q' m h=>by
 unfold zbz at h ⊢
 split at h
 .exact m _ h
 .exact m _ h
 .exact h.elim
def rNf (K:W.Frag)(mg:WmP)(F:Fn):List V->Hp->VK->Prop:=λvs H Q=>∃G ds Q0 X0,Same G H/\RDs K mg G ds vs/\F.run ds Q0 X0/\Kf K mg G H Q0 Q
def Kf.same {G G' H H':Hp}{Q0:DK}{Q:VK}(h:Kf K mg G H Q0 Q)(g:Gr G H G')(k:Same H H'):Kf K mg G' H' Q0 Q:=λd a G1 H1 q g1 g2 g3 hn gn hw=>h d a G1 H1 q (g.trans k g1) g2 (z02 k g3) (z0S k hn) gn hw
def Kf.newL {G H:Hp}{Q0:DK}{Q:VK}{p:Addr}{l:List D}{xs:List V}(h:Kf K mg G H Q0 Q)(g:Same G H)(hp:H p=none)(q:Q0 (.lst l))(r:RDs K mg G l xs):Q (.ref p) (upd H p (.lst xs)):=
 h _ p G _ q Gr.refl (z02 g (z0f hp _)) (z0f hp _) hp (z0S g hp) ⟨xs,z06,r⟩
def tfN {E:XK}{σ:L2.St}{H:Hp}{Q:VK}{F:Fn}{es:List Ex}(h:tf K mg E (.op F es) σ H Q):tCB (rNf K mg F) (txa K mg E es) σ H Q:=by
 obtain⟨G,ρ,Q0,X0,hs,ab,hr,hk,hx⟩:=h;exact⟨G,ρ,λds=>F.run ds Q0 X0,X0,hs,ab,hr,λds vs G1 H1 hF g1 g2 g3 rd=>⟨G1,ds,Q0,X0,g2,rd,hF,hk.same g1 g3⟩,hx⟩
def zi0 {E:XK}{e:Expr}{es:List Expr}{xs:List Ex}{pos:Pos}{f:Str}{pp:Pos}{id:String}{F:Fn}(hc:z0w X (.type id) (rNf X.K X.mg F))(hg:Gl X f)(hm:X.mg f=none)(hv:bootBuiltins f=some (.type id))(ha:QXA X E (e::es) xs)(hn:autoParam (f≠"__name__") jU)(hdb:autoParam ((f == ("__debug__":Str))=false) jU)
  (he:autoParam (starEach (e::es) X.env=(false,eval e X.env)::starEach es X.env) jT) (hpl:autoParam ((backTo pos (starEach es X.env)).any (·.1)=false) jT):QF X E (.Call (.Name f pp) (e::es) [] pos) (.op F xs):=
 QE.imp (z2W hc hg hm hv ha hn hdb he hpl) λ_ _ _ h=>tfN h
def zkq {E:XK}{e:Expr}{es:List Expr}{xs:List Ex}{pos:Pos}{f:Str}{pp:Pos}{id:String}{F:Fn}(hc:z0w X (.builtin id) (rNf X.K X.mg F))(hg:Gl X f)(hm:X.mg f=none)(hv:bootBuiltins f=some (.builtin id))(ha:QXA X E (e::es) xs)(hn:autoParam (f≠"__name__") jU)(hdb:autoParam ((f == ("__debug__":Str))=false) jU)
  (he:autoParam (starEach (e::es) X.env=(false,eval e X.env)::starEach es X.env) jT) (hpl:autoParam ((backTo pos (starEach es X.env)).any (·.1)=false) jT):QF X E (.Call (.Name f pp) (e::es) [] pos) (.op F xs):=
 QE.imp (z3K hc hg hm hv ha hn hdb he hpl) λ_ _ _ h=>tfN h
def zbM:z0w X (.type "list") (rNf X.K X.mg zaT):=z7x.imp <| by
 rintro vs H Q ⟨G,ds,Q0,X0,g,rds,hr,hk⟩;obtain⟨d,rfl,hr'⟩:=z1d hr;obtain⟨v,rfl,rd⟩:=rds1 rds;unfold zbz at hr'
 split at hr'
 .obtain⟨a,xs,rfl,h1,h2⟩:=z1C rd;exact⟨a,xs,rfl,.inl (z14 g h1),λp hp=>hk.newL g hp hr' h2⟩
 .obtain⟨a,xs,rfl,h1,h2⟩:=z1u rd;exact⟨a,xs,rfl,.inr (z0y g h1),λp hp=>hk.newL g hp hr' h2⟩
 .exact hr'.elim
def zby (d:D)(Q:DK):Prop:=match d with
 | .lst l=>onI (ints? l) λns=>ns≠[]/\∀m,m∈ns->(∀x∈ns,x<=m)->Q (.int m)
 | _=>False
def z9S (d:D)(Q Q':DK)(m:∀d,Q d->Q' d)(h:zby d Q):zby d Q':=by
 unfold zby at h ⊢
 split at h
 .exact z4E (λ_ q=>⟨q.1,λx hx hy=>m _ (q.2 x hx hy)⟩) h
 grind
def gSum (d:D)(Q:DK):Prop:=match d with
 | .lst l=>onI (ints? l) λns=>Q (.int ns.sum)
 | _=>False
def pSum:Fn:=fn1 gSum λd Q Q' m h=>by
 unfold gSum at h ⊢
 split at h
 .exact z4E (λ_ q=>m _ q) h
 .exact h.elim
def zeM (hc:X.calm=true):z0w X (.builtin "sum") (rN X.K X.mg pSum):=(zbV hc).imp <| by
 rintro vs H Q ⟨G,ds,Q0,X0,g,rds,hr,hk⟩;obtain⟨d,rfl,hr'⟩:=z1d hr;obtain⟨v,rfl,rd⟩:=rds1 rds;unfold gSum at hr'
 split at hr'
 .obtain⟨ns,e,q⟩:=z4D hr';obtain⟨a,xs,rfl,h1,h2⟩:=z1C rd;rw[z31 e] at h2;rw[z3h ns h2] at h1;exact⟨a,ns,rfl,z14 g h1,hk.now g q RD.int'⟩
 .exact hr'.elim
def gIx (a b:D)(Q:DK):Prop:=match a,b with
 | .lst l,.int i=>onV (atI l i) Q
 | .tup l,.int i=>onV (atI l i) Q
 | .str x,.int i=>x.length<=sizeLine/\∃c,atI x.cps.toList i=some c/\Q (.str ⟨#[c]⟩)
 | _,_=>False
def zdB (a b:D)(Q Q':DK)(m:∀d,Q d->Q' d)(h:gIx a b Q):gIx a b Q':=by
 unfold gIx at h ⊢
 split at h
 .exact z8J m h
 .exact z8J m h
 .obtain⟨h1,c,h2,h3⟩:=h;exact⟨h1,c,h2,m _ h3⟩
 grind
def pIx:Fn:=fn2 gIx zdB
def IxR.imp {r r':R2}(h:IxR X r)(i:∀x y H Q,r' x y H Q->r x y H Q):IxR X r':=λvalue slice pins s σ H x y v u Q I rx ry q hs=>h _ _ _ s σ H x y v u Q I rx ry (i x y H Q q) hs
def ix_p:IxR X (r2 X.K X.mg pIx):=IxR.imp zjz <| by
 rintro x y H Q ⟨G,d1,d2,Q0,X0,g,r1,r2,hr,hk⟩;have hr':gIx d1 d2 Q0:=hr;unfold gIx at hr'
 split at hr'
 .obtain⟨d,e,q⟩:=z8I hr';obtain⟨a,xs,rfl,h1,h2⟩:=z1C r1;obtain⟨v,e1,rv⟩:=h2.at e;exact .inl ⟨a,xs,_,v,rfl,z0t r2,z14 g h1,e1,hk.now g q rv⟩
 .obtain⟨d,e,q⟩:=z8I hr';obtain⟨a,xs,rfl,h1,h2⟩:=z1u r1;obtain⟨v,e1,rv⟩:=h2.at e;exact .inr (.inl ⟨a,xs,_,v,rfl,z0t r2,z0y g h1,e1,hk.now g q rv⟩)
 .obtain⟨h1,c,h2,h3⟩:=hr';exact .inr (.inr ⟨_,_,c,z2V r1,z0t r2,h1,h2,hk.now g h3 RD.str'⟩)
 .exact hr'.elim
def zki {E:XK}{a b:Expr}{x y:Ex}{pos:Pos}(ha:QX X E a x)(hb:QX X E b y)(hs:z8q b):QX X E (.Subscript a b pos) (.op pIx [x,y]):=QE.imp (zkt ix_p ha hb hs) λ_ _ _ h=>tx2 lk2 h
end
end Pu
namespace HT
open PySem PyProof.Rows
section
variable {prog:Program}{w:World}{A:Around}{E:WvP}{s:Shared}
def za8 {t sl:Addr}{z03:Array Value}{vl vu vs:Value}{R:Int × Int × Nat}{Q:WvP}(ht:IsTup s.heap t z03)(hs:s.heap.IsSliceOf sl vl vu vs)
  (ha:∀{A:Around}{E:WvP}{Q:Int × Int × Nat->Shared->Prop},Q R s->wpAny (model prog w) A (Builtin.Slice.sliceApplied (.ref sl) (pure (z03.size:Int))) Q E s) (hsz:R.2.2<=sizeLine)
  (h1:(R.1 == 0 && R.2.1 == 1 && R.2.2 == z03.size)=true->Q (.ref t) s)
  (h2:¬ (R.1 == 0 && R.2.1 == 1 && R.2.2 == z03.size)=true->Q (.ref s.heap.objs.size) { s with heap:=s.heap.push { cls :=.type "tuple",data :=.seq ((List.range R.2.2).filterMap λ(k:Nat)=>z03[(R.1+(k:Int)*R.2.1).toNat]?).toArray } }):
  wpAny (model prog w) A (getItem (.ref t) (.ref sl)) Q E s:=by
 obtain⟨os,hos,hcs,hds⟩:=id hs;have hTs:s.TypeIs (.ref sl) "slice":=⟨os,hos,hcs⟩
 have htake:sizeOk (.seq ((List.range R.2.2).filterMap λ(k:Nat)=>z03[(R.1+(k:Int)*R.2.1).toNat]?).toArray):=by
  show ((List.range R.2.2).filterMap λ(k:Nat)=>z03[(R.1+(k:Int)*R.2.1).toNat]?).toArray.size<=sizeLine;rw[wY];refine wI (List.length_filterMap_le _ _) ?_;rw[v9];exact hsz
 unfold getItem
 try with_reducible refine vR ?_
 first | refine wc (wf ?_) | skip
 refine wc (wpAny_sequenceKey ht.typeIs (by decide) ?_);refine wc (vH (name:=Str.ofString "__getitem__") ht.typeIs vC
  (vV vC ht.typeIs entry_tuple_getitem ?_ (args_tuple_getitem _ _)))
 show wpAny _ _ (Builtin.Tuple.tupleItemsOf (.ref t) >>= _) _ _ s;refine wc (tupleItemsOf_ ht ?_);refine wc (jG hTs ?_);rw[if_pos (by decide)];refine wc (ha ?_);obtain⟨r1,r2,r3⟩:=R;show wpAny _ _ (if (r1 == 0 && r2 == 1 && r3 == z03.size)=true then _ else _) _ _ s
 by_cases hb:(r1 == 0 && r2 == 1 && r3 == z03.size)=true
 .rw[if_pos hb];refine wc (m:=Builtin.Tuple.tupleIsExact (.ref t)) ?_;refine wc (jG ht.typeIs (wf ?_));rw[if_pos (by decide)]
  first
   | exact wc (wf (wf ⟨_,rfl,wf (h1 hb)⟩))
   | exact wc (wpAny_rule (wf ⟨_,rfl,wf (h1 hb)⟩))
   | exact wc (wpAny_rule (wc (wf (wf ⟨_,rfl,wf (h1 hb)⟩))))
   | exact wf ⟨_,rfl,wf (h1 hb)⟩
 .rw[if_neg hb];have h:=h2 hb
  first
   | exact wc (m:=Builtin.Tuple.tupleExact _) (wW (wf ⟨_,rfl,wf h⟩) htake)
   | exact wc (m:=Builtin.Tuple.tupleExact _) (wW (wc (wf (wf ⟨_,rfl,wf h⟩))) htake)
   | exact wc (wc (m:=Builtin.Tuple.tupleExact _) (wW (wf (wf ⟨_,rfl,wf h⟩)) htake))
   | exact wc (wc (m:=Builtin.Tuple.tupleExact _) (wW (wf ⟨_,rfl,wf h⟩) htake))
end
end HT
namespace Pu
open PySem PySem.Spec PyProof.Rows L2
def part (o:Option Ex)(ρ:Pu.Env)(K:Option Int->Prop)(X:XP):Prop:=match o with
 | none=>K none
 | some e=>e.run ρ (λd=>isI d λi=>K (some i)) X
def z74 {o:Option Ex}{ρ:Pu.Env}{K K':Option Int->Prop}{X X':XP}(m:∀i,K i->K' i)(mx:∀x,X x->X' x)(h:part o ρ K X):part o ρ K' X':=by
 cases o with
 | none=>exact m _ h
 | some e=>exact e.mono ρ _ _ X X' (λd q=>z8V (λi q=>m _ q) q) mx h
def cutD (l:List D)(lo hi:Option Int):List D:=(l.drop (HT.sIx l.length 0 lo)).take (HT.sIx l.length l.length hi - HT.sIx l.length 0 lo)
def slcD (d:D)(lo hi:Option Int)(Q:DK):Prop:=match d with
 | .lst l=>Q (.lst (cutD l lo hi))
 | .tup l=>Q (.tup (cutD l lo hi))
 | .str x=>x.length<=sizeLine/\Q (.str (Txt.slice x lo hi))
 | _=>False
def zaf {d:D}{lo hi:Option Int}{Q Q':DK}(m:∀d,Q d->Q' d)(h:slcD d lo hi Q):slcD d lo hi Q':=by
 unfold slcD at h ⊢
 split at h
 .exact m _ h
 .exact m _ h
 .exact⟨h.1,m _ h.2⟩
 .exact h.elim
def Ex.sl (e:Ex)(lo hi:Option Ex):Ex:=⟨λρ Q X=>e.run ρ (λd=>part lo ρ (λl=>part hi ρ (λu=>slcD d l u Q) X) X) X,λρ Q Q' X X' m mx q=>e.mono ρ _ _ X X' (λd q=>z74 (λl q=>z74 (λu q=>zaf m q) mx q) mx q) mx q⟩
def rSlP (K:W.Frag)(mg:WmP):V->Option Int->Option Int->Hp->VK->Prop:=λx lo hi H Q=>∃G d Q0,Same G H/\RD K mg G d x/\slcD d lo hi Q0/\Kt K mg G H Q0 Q
section
variable {X:Cx}{K:W.Frag}{mg:WmP}{E:XK}
def zcn:SlR X (λx lo hi H Q=>∃a xs,x = .ref a/\SqT X.K H a xs/\(HT.sIx xs.length 0 lo=0/\HT.sIx xs.length xs.length hi=xs.length)/\Q (.ref a) H):=by
 intro pins s σ H x v vl vu lo hi sl Q I rx hs pl pu h;obtain⟨a,xs,rfl,hx,hw,q⟩:=h
 cases rx
 obtain⟨its,r,ht,hz⟩:=I.tuple hx;have hlen:its.toArray.size=xs.length:=by rw[wY];exact r.length.symm
 refine⟨"tuple",_,vC.lookup,ht.typeIs,?_⟩;refine HT.za8 (R:=(((HT.sIx its.toArray.size 0 lo:Nat):Int),1,HT.sIx its.toArray.size its.toArray.size hi - HT.sIx its.toArray.size 0 lo)) ht hs (λh=>HT.z2K hs pl pu h) ?_ (λ_=>⟨.ref a,H,I,rfl,q⟩) (λz =>?_)
 .rw[hlen];dsimp only;rw[hw.1,hw.2];omega
 .rw[hlen] at z;exact absurd (by dsimp only;rw[hw.1,hw.2];simp) z
def z9W {xs:List D}{lo hi:Option Int}(h:HT.sIx xs.length 0 lo=0/\HT.sIx xs.length xs.length hi=xs.length):cutD xs lo hi=xs:=by
 unfold cutD;rw[h.1,h.2];simp
def sl_p:SlR X (rSlP X.K X.mg):=((zf0.or (zh4.or zcn)).or zh5).imp <| by
 rintro x lo hi H Q ⟨G,d,Q0,g,rd,hr,hk⟩;unfold slcD at hr
 split at hr
 .obtain⟨a,xs,rfl,h1,h2⟩:=z1C rd;exact .inl (.inl ⟨a,xs,rfl,z14 g h1,λp hp=>hk.new g hp hr (RD.newL (h2.cut lo hi) g hp)⟩)
 .obtain⟨a,xs,rfl,h1,h2⟩:=z1u rd
  by_cases hw:HT.sIx xs.length 0 lo=0/\HT.sIx xs.length xs.length hi=xs.length
  .refine .inl (.inr (.inr ⟨a,xs,rfl,z0y g h1,hw,hk.now g hr ?_⟩));rw[h2.len] at hw;rw[z9W hw];exact RD.ofT h1 h2
  .exact .inl (.inr (.inl ⟨a,xs,rfl,z0y g h1,hw,λp hp=>hk.new g hp hr (RD.newT (h2.cut lo hi) g hp)⟩))
 .exact .inr ⟨_,z2V rd,hr.1,hk.now g hr.2 RD.str'⟩
 .exact hr.elim
def z9i (K:W.Frag)(mg:WmP)(E:XK)(o:Option Ex):TO:=λσ H Q=>∃G ρ Q0 X0,Same G H/\AbE K mg G ρ σ/\part o ρ Q0 X0/\(∀i G' H',Q0 i->Gr G H G'->Same G' H'->Same H H'->Q i H')/\Kx mg H X0 E
def QO.imp {e:Option Expr}{t t':TO}(h:QO X e t)(i:∀σ H Q,t' σ H Q->t σ H Q):QO X e t':=⟨λpins s σ H Q I q=>h.p pins s σ H Q I (i σ H Q q)⟩
def zfs:QO X none (z9i X.K X.mg E none):=QO.imp zfu <| by rintro σ H Q ⟨G,ρ,Q0,X0,hs,ab,hr,hk,hx⟩;exact hk none G H hr Gr.refl hs Same.refl'
def zfr {e:Expr}{x:Ex}(h:QX X E e x):QO X (some e) (z9i X.K X.mg E (some x)):=QO.imp (zft h) <| by
 rintro σ H Q ⟨G,ρ,Q0,X0,hs,ab,hr,hk,hx⟩;refine⟨G,ρ,_,X0,hs,ab,hr,λd v G1 H1 q g1 g2 g3 rd =>?_,hx⟩;obtain⟨i,rfl,q⟩:=z8U q;exact⟨i,z0t rd,hk (some i) G1 H1 q g1 g2 g3⟩
def zjX {σ:L2.St}{H:Hp}{Q:VK}{e:Ex}{lo hi:Option Ex}(h:tx K mg E (.sl e lo hi) σ H Q):tSl (rSlP K mg) (tx K mg E e) (z9i K mg E lo) (z9i K mg E hi) σ H Q:=by
 obtain⟨G,ρ,Q0,X0,hs,ab,hr,hk,hx⟩:=h;refine⟨G,ρ,_,X0,hs,ab,hr,λd v G1 H1 q g1 g2 g3 rd =>?_,hx⟩;refine⟨G1,ρ,_,X0,g2,ab.same g1.1,q,λl G2 H2 q k1 k2 k3 =>?_,hx.same g3⟩;refine⟨G2,ρ,_,X0,k2,ab.same (z02 g1.1 k1.1),q,λu G3 H3 q n1 n2 n3 =>?_,hx.same (z02 g3 k3)⟩;exact⟨G3,d,Q0,n2,rd.same (z02 k1.1 n1.1),q,hk.same (g1.trans g3 (k1.trans k3 n1)) (z02 g3 (z02 k3 n3))⟩
def zkh {e:Expr}{x:Ex}{lo hi:Option Expr}{l u:Option Ex}{p2 pos:Pos}(he:QX X E e x)(hl:QO X lo (z9i X.K X.mg E l))(hu:QO X hi (z9i X.K X.mg E u)):QX X E (.Subscript e (.Slice lo hi none p2) pos) (.sl x l u):=QE.imp (zcW sl_p he hl hu) λ_ _ _ h=>zjX h
def isiD (T:String):D->Option Bool
 | .int _=>some (T == "int")
 | .bl _=>some (T == "int" || T == "bool")
 | .str _=>some (T == "str")
 | .tup _=>some (T == "tuple")
 | .lst _=>some (T == "list")
 | .non=>some false
 | _=>none
def onB (o:Option Bool)(Q:Bool->Prop):Prop:=match o with
 | some b=>Q b
 | none=>False
def zdf {o:Option Bool}{Q Q':Bool->Prop}(m:∀b,Q b->Q' b)(h:onB o Q):onB o Q':=by
 cases o with
 | none=>exact h
 | some b=>exact m _ h
def zde {o:Option Bool}{Q:Bool->Prop}(h:onB o Q):∃b,o=some b/\Q b:=by
 cases o with
 | none=>exact h.elim
 | some b=>exact⟨b,rfl,h⟩
def pIsi (T:String):Fn:=fn1 (λd Q=>onB (isiD T d) λb=>Q (.bl b)) λd Q Q' m h=>zdf (λb q=>m _ q) h
def zdt:List String:=["int","bool","str","tuple","list"]
def zgd {T:String}(hT:T∈zdt):W.kitOne K (.type "int") (.type T)=some (T == "int")/\W.kitOne K (.type "bool") (.type T)=some (T == "int" || T == "bool")/\W.kitOne K (.type "str") (.type T)=some (T == "str")/\
  W.kitOne K (.type "tuple") (.type T)=some (T == "tuple")/\W.kitOne K (.type "list") (.type T)=some (T == "list")/\W.kitOne K (.type "NoneType") (.type T)=some false:=by
 unfold zdt at hT;simp[wg,wA,vS] at hT
 rcases hT with rfl | rfl | rfl | rfl | rfl <;> exact⟨rfl,rfl,rfl,rfl,rfl,rfl⟩
def zkc (K:W.Frag)(mg:WmP)(T:String):List V->Hp->VK->Prop:=λvs H Q=>∃v G d Q0,vs=[v,.ty T]/\Same G H/\RD K mg G d v/\(onB (isiD T d) λb=>Q0 (.bl b))/\Kt K mg G H Q0 Q
def zjM {T:String}(hT:T∈zdt):z0w X (.builtin "isinstance") (zkc X.K X.mg T):=by
 rintro pins s σ H vs us Q I rv ⟨v,G,d,Q0,e,g,rd,hr,hk⟩;subst e;obtain⟨b,eb,q⟩:=zde hr;obtain⟨u,w,rfl,ru,rw'⟩:=zgF rv
 cases (show w=Value.type T from rw')
 obtain⟨t1,t2,t3,t4,t5,t6⟩:=zgd (K:=X.K) hT;have fin:∀tk,EP X pins σ Q (.bool b) { s with toks:=tk }:=λtk=>⟨.bl b,H,I.tok tk,rfl,hk.now g q RD.bl'⟩
 cases d with
 | int i=>
  have e:=z0t rd;subst e;rw[show isiD T (.int i)=some (T == "int") from rfl] at eb;exact z3V I ru (.int i) (t1.trans eb) fin
 | bl i=>
  have e:=z6Y rd;subst e;exact z3V I ru (.bl i) (t2.trans eb) fin
 | str i=>
  have e:=z2V rd;subst e;rw[show isiD T (.str i)=some (T == "str") from rfl] at eb;exact z3V I ru (.str i) (t3.trans eb) fin
 | non=>
  have e:=z6X rd;subst e;rw[show isiD T .non=some false from rfl] at eb;exact z3V I ru .non (t6.trans eb) fin
 | tup l=>
  obtain⟨a,xs,rfl,h1,h2⟩:=z1u rd
  cases ru
  rw[show isiD T (.tup l)=some (T == "tuple") from rfl] at eb;obtain⟨its,r,⟨o,ho,hc,_⟩,_⟩:=I.tuple (z0y g h1);exact vI W.kitx_tuple I.kIn ⟨o,ho,hc⟩ (t4.trans eb) (λz=>nomatch z) fin
 | lst l=>
  obtain⟨a,xs,rfl,h1,h2⟩:=z1C rd
  cases ru
  rw[show isiD T (.lst l)=some (T == "list") from rfl] at eb;obtain⟨its,r,⟨o,n,ho,hc,_⟩,_⟩:=I.list (z14 g h1);exact vI W.kitx_list I.kIn ⟨o,ho,hc⟩ (t5.trans eb) (λz=>nomatch z) fin
 | _=>cases eb
def zhF {e t:Expr}{x:Ex}{pp pos:Pos}{T:String}(hT:T∈zdt)(hg:Gl X "isinstance")(hm:X.mg "isinstance"=none)(he:QX X E e x)(ht:QE X t (tC (.ty T)))
  (hs1:autoParam (starEach [e,t] X.env=(false,eval e X.env)::starEach [t] X.env) jT) (hs2:autoParam (starEach [t] X.env=(false,eval t X.env)::starEach [] X.env) jT) (hpl:autoParam ((backTo pos (starEach [t] X.env)).any (·.1)=false) jT)
  (hv:autoParam (bootBuiltins "isinstance"=some (.builtin "isinstance")) jT) (hn:autoParam (("isinstance":Str)≠"__name__") jU) (hdb:autoParam ((("isinstance":Str) == ("__debug__":Str))=false) jU):QX X E (.Call (.Name "isinstance" pp) [e,t] [] pos) (.op (pIsi T) [x]):=
 QE.imp (z3K (zjM hT) hg hm hv (z3x he (z3x ht z5L hs2) hs1) hn hdb hs1 hpl) <| by
  rintro σ H Q ⟨G,ρ,Q0,X0,hs,ab,hr,hk,hx⟩;refine⟨G,ρ,_,X0,hs,ab,hr,λd v G1 H1 q g1 g2 g3 rd =>?_,hx⟩;exact⟨v,G1,d,Q0,rfl,g2,rd,q,hk.same g1 g3⟩
def zfS:Fn:=fn1 zby z9S
def zbT (hc:X.calm=true):z0w X (.builtin "max") (rN X.K X.mg zfS):=(zbZ hc).imp <| by
 rintro vs H Q ⟨G,ds,Q0,X0,g,rds,hr,hk⟩;obtain⟨d,rfl,hr'⟩:=z1d hr;obtain⟨v,rfl,rd⟩:=rds1 rds;unfold zby at hr'
 split at hr'
 .obtain⟨ns,e,hne,q⟩:=z4D hr';obtain⟨a,xs,rfl,h1,h2⟩:=z1C rd;rw[z31 e] at h2;rw[z3h ns h2] at h1;exact⟨a,ns,rfl,z14 g h1,hne,λm hm hx=>hk.now g (q m hm hx) RD.int'⟩
 .exact hr'.elim
def zdE {g:Int->Int->DK->Prop}{hg}{ds:List D}{Q:DK}{Xp:XP}(h:(fnI g hg).run ds Q Xp):∃i j,ds=[.int i,.int j]/\g i j Q:=by
 obtain⟨d,e,rfl,h'⟩:=zdF h;obtain⟨i,j,rfl,rfl,q⟩:=z5e h';exact⟨i,j,rfl,q⟩
def z9C:Fn:=fnI (λi j Q=>Q (.int (if j<i then j else i))) λ_ _ _ _ m h=>m _ h
def zbR (hc:X.calm=true):z0w X (.builtin "min") (rN X.K X.mg z9C):=(zbX hc).imp <| by
 rintro vs H Q ⟨G,ds,Q0,X0,g,rds,hr,hk⟩;obtain⟨i,j,rfl,q⟩:=zdE hr;obtain⟨v,w,rfl,r1,r2⟩:=rds2 rds;exact⟨i,j,by rw[z0t r1,z0t r2],hk.now g q RD.int'⟩
end
structure Nm (sc:Scope)(x:Str):Prop where
 loc:Loc sc x
 hd:(x == ("__debug__":Str))=false
 hcd:(x == ("__classdict__":Str))=false
def Nm.vis {sc:Scope}{x:Str}(h:Nm sc x):Vis sc x:=h.loc.elim .inl λz =>.inr (.inl z)
section
variable {CX:CXT}{P:Program}{w:World}{K:W.Frag}{mg:WmP}{base:Heap}{N:List Str}{qual:Str}{sc:Scope}{f:Addr}{cdv:Value}{A:Around}{outer:List PySem.Env}{s:Shared}{H:Hp}{E:XK}{xe:WvP}{x:Str}{pos pos2:Pos}{e:Expr}{te:TE}
def vg (i:Nat)(h:Nm sc x)(hN:autoParam (N[i]? = some x) jT):QE ((cxOf CX P w K mg base N qual sc f cdv A outer s H E).wish xe) (.Name x pos) (tVar i):=⟨zel hN h.vis h.hd h.hcd⟩
def ng (i:Nat)(nd:N.Nodup)(h:Nm sc x)(hN:autoParam (N[i]? = some x) jT):QG ((cxOf CX P w K mg base N qual sc f cdv A outer s H E).wish xe) (.Name x pos) (z2u i):=⟨zaP nd hN h.loc (.inl rfl)⟩
def ag (i:Nat)(nd:N.Nodup)(h:Nm sc x)(he:QE ((cxOf CX P w K mg base N qual sc f cdv A outer s H E).wish xe) e te)(hN:autoParam (N[i]? = some x) jT)(hs:autoParam (swapsWith e (some (.Name x pos2)) pos.line ((cxOf CX P w K mg base N qual sc f cdv A outer s H E).wish xe).env=pure false) jT):QS ((cxOf CX P w K mg base N qual sc f cdv A outer s H E).wish xe) (.Assign [.Name x pos2] e pos) (tAsg te (z2u i)):=⟨zif nd hN h.loc he.p hs (.inl rfl)⟩
end
def spL (K:W.Frag):Sp:=λvs H Q _=>∃(a:Addr) (ns:List Int),vs=[.ref a]/\SqL K H a (ns.map V.int)/\ns.length<=63/\∀H',Q (.bl true) H'
def zjq {P:Program}{w:World}{K:W.Frag}{mg:WmP}{base:Heap}{CX:CXT}{k:Nat}{f:Addr}{fd:FuncData}{ps:List Str}{F:Fn}(h:∀ns:List Int,ns.length<=63->F.run [.lst (ns.map .int)] (λd=>d = .bl true) (λ_=>False))(ok:FnOk P w K mg base CX k f fd ps (spP K mg F)):FnOk P w K mg base CX k f fd ps (spL K):=
 ok.imp λvs H Q E ⟨a,ns,e,hS,hl,q⟩=>⟨H,[.lst _],_,_,Same.refl',by rw[e];exact RDs.cons (RD.ofL hS (z4G ns)) RDs.nil,h ns hl,λd v G' H' e g1 g2 g3 rd=>by
  subst e;rw[z6Y rd];exact q H',Kx.no⟩
end Pu
namespace Pu
open PySem L2
open Builtin.Int (intBits)
section
variable {ρ:Pu.Env}{Q:DK}{X:XP}{N:Pu.Env->Prop}{a b c e:Ex}{s t:Sm}{F:Fn}{d:D}{i j:Nat}
def z8O {d:D}(q:Q d):onV (some d) Q:=q
def e_c (q:Q d):(Ex.c d).run ρ Q X:=q
def e_v (q:onV (ρ.get i) Q):(Ex.v i).run ρ Q X:=q
def zdI (q:a.run ρ (λx=>F.run [x] Q X) X):(Ex.op F [a]).run ρ Q X:=q
def zjE (q:a.run ρ (λx=>b.run ρ (λy=>F.run [x,y] Q X) X) X):(Ex.op F [a,b]).run ρ Q X:=q
def zlg (q:a.run ρ (λx=>b.run ρ (λy=>c.run ρ (λz=>F.run [x,y,z] Q X) X) X) X):(Ex.op F [a,b,c]).run ρ Q X:=q
def zlf (q:a.run ρ (λx=>b.run ρ (λy=>c.run ρ (λz=>e.run ρ (λu=>F.run [x,y,z,u] Q X) X) X) X) X):(Ex.op F [a,b,c,e]).run ρ Q X:=q
def zle {es:List Ex}(q:runs es ρ (λds=>F.run ds Q X) X):(Ex.op F es).run ρ Q X:=q
def zhh {Q:List D->Prop}(q:Q []):runs [] ρ Q X:=q
def zfc {es:List Ex}{Q:List D->Prop}(q:a.run ρ (λd=>runs es ρ (λds=>Q (d::ds)) X) X):runs (a::es) ρ Q X:=q
def zli (q:a.run ρ (λd=>tst d (b.run ρ Q X) (Q (.bl false))) X):(Ex.and a b).run ρ Q X:=q
def e_or (q:a.run ρ (λd=>tst d (Q (.bl true)) (b.run ρ Q X)) X):(Ex.or a b).run ρ Q X:=q
def notD (d:D)(Q:DK):Prop:=match d with
 | .bl b=>Q (.bl (!b))
 | _=>False
def zlh (q:a.run ρ (λd=>notD d Q) X):(Ex.not a).run ρ Q X:=q
def n_bl {k:Bool}(q:Q (.bl (!k))):notD (.bl k) Q:=q
def zeE {nt:Nat}{js:List Nat}{tg:Tg}{src:Ex}{ct:Option Ex}{elt:Ex}(q:src.run ρ (λd=>onL (z03 d) λl=>l.length<sizeLine/\z3Z (z4j tg ct elt (z15 nt js ρ)) l λr=>Q (.lst r)) X):(Ex.comp nt js tg src ct elt).run ρ Q X:=q
def zl9 {l:List D}{K:List D->Prop}(q:K l):onL (z03 (.lst l)) K:=q
def zl8 {l:List D}{K:List D->Prop}(q:K l):onL (z03 (.tup l)) K:=q
def e_sl {lo hi:Option Ex}(q:a.run ρ (λd=>part lo ρ (λl=>part hi ρ (λu=>slcD d l u Q) X) X) X):(Ex.sl a lo hi).run ρ Q X:=q
def ziE {K:Option Int->Prop}(q:K none):part none ρ K X:=q
def ziD {K:Option Int->Prop}(q:a.run ρ (λd=>isI d λi=>K (some i)) X):part (some a) ρ K X:=q
def zjA {k:Int}{K:Int->Prop}(q:K k):isI (.int k) K:=q
def zlq {l:List D}{lo hi:Option Int}(q:Q (.lst (cutD l lo hi))):slcD (.lst l) lo hi Q:=q
def zlp {l:List D}{lo hi:Option Int}(q:Q (.tup (cutD l lo hi))):slcD (.tup l) lo hi Q:=q
def z2J {A B:Prop}(h:A):tst (.bl true) A B:=⟨λ_=>h,(λz=>by cases z)⟩
def z4Q {A B:Prop}(h:B):tst (.bl false) A B:=⟨(λz=>by cases z),λ_=>h⟩
def z0L {d:D}{ρ:Pu.Env}{B:Prop}(h:Safe d ρ)(q:B):Safe d ρ/\B:=⟨h,q⟩
def z2n {d:D}{ρ:Pu.Env}{B:Prop}(h:zdX d ρ)(q:B):zdX d ρ/\B:=⟨h,q⟩
def z1v {p:Prop}[Decidable p]{A B:Prop}(h:p->A)(h':¬ p->B):tst (.bl (decide p)) A B:=⟨λe=>h (v8 e),λe=>h' (of_decide_eq_false e)⟩
def z7N {p:Prop}[Decidable p]{A B:Prop}(hp:p)(h:A):tst (.bl (decide p)) A B:=z1v (λ_=>h) λn=>(n hp).elim
def t_no {p:Prop}[Decidable p]{A B:Prop}(hp:¬ p)(h:B):tst (.bl (decide p)) A B:=z1v (λy=>(hp y).elim) λ_=>h
def z2s {k:Bool}{A B:Prop}(h:tst (.bl k) B A):tst (.bl (!k)) A B:=by
 cases k
 .exact z2J (h.2 rfl)
 .exact z4Q (h.1 rfl)
def z6J {k:Bool}{A B:Prop}(e:k=true)(h:A):tst (.bl k) A B:=by rw[e];exact z2J h
def zgS {k:Bool}{A B:Prop}(e:k=false)(h:B):tst (.bl k) A B:=by rw[e];exact z4Q h
def ze6 (q:N ρ):Sm.skip.run ρ N Q X:=q
def z45 (q:s.run ρ (λρ'=>t.run ρ' N Q X) Q X):(Sm.seq s t).run ρ N Q X:=q
def zk1 (q:a.run ρ (λd=>Safe d (ρ.set i .n)/\N (ρ.set i (.s d))) X):(Sm.set i a).run ρ N Q X:=q
def zct (q:a.run ρ (λd=>zdX d (ρ.set i .n)/\N (ρ.set i (.o d))) X):(Sm.own i a).run ρ N Q X:=q
def zha {js:List Nat}(q:a.run (vis (dem js ρ)) (λd=>N ((dem js ρ).set i (.s d))) X):(Sm.setx js i a).run ρ N Q X:=q
def s_if (q:c.run ρ (λd=>tst d (s.run ρ N Q X) (t.run ρ N Q X)) X):(Sm.ifs c s t).run ρ N Q X:=q
def zk2 (q:a.run ρ Q X):(Sm.ret a).run ρ N Q X:=q
def zk4 {js:List Nat}{tg:Tg}(q:a.run (vis (dem js ρ)) (λd=>onL (z03 d) λl=>forL tg s N Q X l (dem js ρ)) X):(Sm.for_ js tg a s).run ρ N Q X:=q
def zf9 {tg:Tg}(q:a.run ρ (λd=>onR [d] λl=>forL tg s N Q X l ρ) X):(Sm.forr [a] tg s).run ρ N Q X:=q
def z63 {l:List D}(h:ownL ρ i λl=>a.run ρ (λd=>l.length<sizeLine/\Safe d ρ/\N (ρ.set i (.o (.lst (l++[d]))))) X):(Sm.app i a).run ρ N Q X:=h
def zk3 (h:ownL ρ i λl=>popL l λl' _=>N (ρ.set i (.o (.lst l')))):(Sm.pop i).run ρ N Q X:=h
def zk5 (h:ownL ρ i λl=>a.run ρ (λd=>isLs d λm=>l.length+m.length<=sizeLine/\(∀x∈m,Safe x ρ)/\N (ρ.set i (.o (.lst (l++m))))) X):(Sm.ext i a).run ρ N Q X:=h
def zf6 (h:ownL ρ i λl=>a.run ρ (λd=>Safe d ρ/\b.run ρ (λkd=>isI kd λz=>onN (ixN l.length z) λj=>N (ρ.set i (.o (.lst (l.set j d))))) X) X):(Sm.put i b a).run ρ N Q X:=h
def zk7 {np nn:Nat}{ds:List D}(h:ds.length=np)(q:s.run (ds.map B.s++List.replicate (nn - np) .n) (λ_=>Q .non) Q (λ_=>False)):(Fn.mkN np nn s).run ds Q X:=⟨h,q⟩
def zk8 {np nn:Nat}{ds:List D}(h:ds.length=np)(q:s.run (ds.map B.s++List.replicate (nn - np) .n) (λ_=>Q .non) Q X):(Fn.mk' np nn s).run ds Q X:=⟨h,q⟩
def Sm.cut (W:Pu.Env->Prop)(h:s.run ρ W Q X)(k:∀ρ',W ρ'->t.run ρ' N Q X):(Sm.seq s t).run ρ N Q X:=s.mono ρ W (λρ'=>t.run ρ' N Q X) Q Q X X k (λ_ z=>z) (λ_ z=>z) h
def zgT (W:Pu.Env->Prop)(h:tst d (s.run ρ W Q X) (t.run ρ W Q X))(k:∀ρ',W ρ'->N ρ'):tst d (s.run ρ N Q X) (t.run ρ N Q X):=z2w (s.mono ρ W N Q Q X X k (λ_ z=>z) (λ_ z=>z)) (t.mono ρ W N Q Q X X k (λ_ z=>z) (λ_ z=>z)) h
def nI (ρ:Pu.Env)(i:Nat):Int:=match ρ.get i with
 | some (.int s)=>s
 | _=>0
def nL (ρ:Pu.Env)(i:Nat):Nat:=match ρ.get i with
 | some (.lst k)=>k.length
 | _=>0
def z0I {α:Type}{f:α->D}{tg:Tg}{l:List α}(I:List α->Pu.Env->Prop)(h0:I [] ρ)(hs:∀(dn:List α) (x:α) (r:List α) (ρ:Pu.Env),l=dn++x::r->I dn ρ->tg.put (f x) ρ λρ'=>s.run ρ' (λρ''=>I (dn++[x]) ρ'') Q X)(hd:∀ρ,I l ρ->N ρ):forL tg s N Q X (l.map f) ρ:=by
 have main:∀(r dn:List α) (ρ:Pu.Env),l=dn++r->I dn ρ->forL tg s N Q X (r.map f) ρ:=by
  intro r
  induction r with
  | nil=>
   intro dn ρ e h;rw[vJ] at e;subst e;exact hd ρ h
  | cons x r ih=>
   intro dn ρ e h;rw[wE];exact Tg.put_mono (λρ' q=>s.mono ρ' _ _ Q Q X X (λρ'' q=>ih (dn++[x]) ρ'' (by rw[e];simp) q) (λ_ z=>z) (λ_ z=>z) q) (hs dn x r ρ e h)
 exact main l [] ρ rfl h0
def z4L (I:Pu.Env->Prop)(μ:Pu.Env->Nat)(h0:I ρ)(hs:∀ρ,I ρ->c.run ρ (λd=>tst d (s.run ρ (λρ'=>I ρ'/\μ ρ' < μ ρ) Q X) (N ρ)) X):(Sm.wh c s).run ρ N Q X:=by
 have main:∀(n:Nat) (ρ:Pu.Env),I ρ->μ ρ < n->wh c s N Q X n ρ:=by
  intro n
  induction n with
  | zero=>intro ρ _ h;exact absurd h (uV _)
  | succ n ih=>
   intro ρ hI hm;exact c.mono ρ _ _ X X (λd q=>z2w (s.mono ρ _ _ Q Q X X (λρ' q=>ih ρ' q.1 (by lia)) (λ_ z=>z) (λ_ z=>z)) (λz=>z) q) (λ_ z=>z) (hs ρ hI)
 exact⟨μ ρ+1,main _ ρ h0 (ue _)⟩
theorem z1n {α:Type}{f g:α->D}{G:D->(Option D->Prop)->Prop}{M:List D->Prop}:∀{l:List α},(∀x∈l,∀K:Option D->Prop,K (some (g x))->G (f x) K)->M (l.map g)->z3Z G (l.map f) M
 | [],_,q=>q
 | x::r,h,q=>h x wv _ (z1n (l:=r) (λy hy=>h y (wm _ hy)) q)
theorem z2l {α:Type}{f g:α->D}{p:α->Bool}{G:D->(Option D->Prop)->Prop}{M:List D->Prop}:∀{l:List α},(∀x∈l,∀K:Option D->Prop,(p x=true->K (some (g x)))->(p x=false->K none)->G (f x) K)->M ((l.filter p).map g)->z3Z G (l.map f) M
 | [],_,q=>q
 | x::r,h,q=>by
  refine h x wv _ (λe =>?_) (λe =>?_)
  .refine z2l (l:=r) (λy hy=>h y (wm _ hy)) ?_;rw[List.filter_cons,e] at q;exact q
  .refine z2l (l:=r) (λy hy=>h y (wm _ hy)) ?_;rw[List.filter_cons,e] at q;exact q
theorem z3Y {α β:Type}{f:α->D}{g:β->D}{P:α->β->Prop}{G:D->(Option D->Prop)->Prop}:∀{l:List α}{M:List D->Prop},(∀x∈l,∀K:Option D->Prop,(∀y,P x y->K (some (g y)))->G (f x) K)->(∀ys:List β,ys.length=l.length->(∀y∈ys,∃x∈l,P x y)->M (ys.map g))->z3Z G (l.map f) M
 | [],_,_,q=>q [] rfl (λ_ z=>by simp at z)
 | x::r,M,h,q=>h x wv _ λy hy=>z3Y (l:=r) (M:=λt=>M ((some (g y)).toList++t)) (λz hz=>h z (wm _ hz)) λys hl ha=>q (y::ys) (by simp[hl]) λz hz=>by
  rcases wg.mp hz with rfl | hz
  .exact⟨x,wv,hy⟩
  .obtain⟨w,hw,hp⟩:=ha z hz;exact⟨w,wm _ hw,hp⟩
def zln {k:Nat}{elt:Ex}{x:D}{K:Option D->Prop}(q:elt.run (ρ.set k (.s x)) (λd=>K (some d)) (λ_=>False)):z4j (.nm k) none elt ρ x K:=q
def zjL {k:Nat}{elt:Ex}{x:D}{K:Option D->Prop}(q:c.run (ρ.set k (.s x)) (λb=>tst b (elt.run (ρ.set k (.s x)) (λd=>K (some d)) (λ_=>False)) (K none)) (λ_=>False)):z4j (.nm k) (some c) elt ρ x K:=q
variable {m n:Int}
def zl2 (q:Q (.int (m+n))):pAdd.run [.int m,.int n] Q X:=q
def zkS (q:Q (.int (m - n))):pSub.run [.int m,.int n] Q X:=q
def zkW (h:zgz m n)(q:Q (.int (m*n))):z0h.run [.int m,.int n] Q X:=⟨h,q⟩
def zkT (q:Q (.int (-m))):pNeg.run [.int m] Q X:=q
def zep (h:0<n)(hb:Bt 9000 n)(q:Q (.int (m / n))):z21.run [.int m,.int n] Q X:=⟨⟨by lia,hb⟩,by rw[Int.fdiv_eq_ediv_of_nonneg m (by lia)];exact q⟩
def zj4 (h:0<n)(q:Q (.int (m % n))):pMod.run [.int m,.int n] Q X:=⟨by lia,by rw[Int.fmod_eq_emod_of_nonneg m (by lia)];exact q⟩
def zj3 (h:CPow m n)(q:Q (.int (m ^ n.toNat))):pPow.run [.int m,.int n] Q X:=⟨h,q⟩
def o_lt (q:Q (.bl (decide (m<n)))):pLt.run [.int m,.int n] Q X:=q
def o_le (q:Q (.bl (decide (m<=n)))):pLe.run [.int m,.int n] Q X:=q
def o_gt (q:Q (.bl (decide (n<m)))):pGt.run [.int m,.int n] Q X:=q
def o_ge (q:Q (.bl (decide (n<=m)))):pGeI.run [.int m,.int n] Q X:=q
def o_eq (q:Q (.bl (decide (m=n)))):pEq.run [.int m,.int n] Q X:=q
def o_ne (q:Q (.bl (!decide (m=n)))):pNe.run [.int m,.int n] Q X:=q
def zl0 {l r:List D}(a:Da 60 (.tup l))(b:Da 60 (.tup r))(q:Q (.bl (deq (.tup l) (.tup r)))):pEq.run [.tup l,.tup r] Q X:=⟨a,b,q⟩
def zg0 {l r:List D}(a:Da 60 (.tup l))(b:Da 60 (.tup r))(q:Q (.bl (!deq (.tup l) (.tup r)))):pNe.run [.tup l,.tup r] Q X:=⟨a,b,q⟩
def zg1 (q:Q (.bl (!isN d))):z8G.run [d,.non] Q X:=q
def zj9 {l:List D}(q:Q (.int (l.length:Int))):pLen.run [.lst l] Q X:=q
def zj8 {l:List D}(q:Q (.int (l.length:Int))):pLen.run [.tup l] Q X:=q
def zkZ {l:List D}(q:onV (atI l m) Q):pIx.run [.lst l,.int m] Q X:=q
def zkY {l:List D}(q:onV (atI l m) Q):pIx.run [.tup l,.int m] Q X:=q
def zkQ {ds:List D}(h:ds.length<=sizeLine)(q:Q (.tup ds)):pTup.run ds Q X:=⟨h,q⟩
def zkX {ds:List D}(h:ds.length<=sizeLine)(q:Q (.lst ds)):pLst.run ds Q X:=⟨h,q⟩
def zj2 {l:List D}(q:Q (.tup l)):z1N.run [.lst l] Q X:=q
def zj7 {l:List D}(q:Q (.lst l)):zaT.run [.tup l] Q X:=q
def zl3 (q:Q (.int (if m<0 then -m else m))):pAbs.run [.int m] Q X:=q
def zjc {T:String}(q:Q (.bl (T == "int"))):(pIsi T).run [.int m] Q X:=q
def zja {T:String}{l:List D}(q:Q (.bl (T == "tuple"))):(pIsi T).run [.tup l] Q X:=q
def zjb {T:String}{x:Str}(q:Q (.bl (T == "str"))):(pIsi T).run [.str x] Q X:=q
def zj6 {ns:List Int}(hne:ns≠[])(q:∀k,k∈ns->(∀x∈ns,x<=k)->Q (.int k)):zfS.run [.lst (ns.map D.int)] Q X:=by
 show onI (ints? (ns.map D.int)) λns=>ns≠[]/\∀m,m∈ns->(∀x∈ns,x<=m)->Q (.int m);rw[z8W];exact⟨hne,q⟩
def zj5 (q:Q (.int (if n<m then n else m))):z9C.run [.int m,.int n] Q X:=q
def zkR {ns:List Int}(q:Q (.int ns.sum)):pSum.run [.lst (ns.map D.int)] Q X:=by
 show onI (ints? (ns.map D.int)) λns=>Q (.int ns.sum);rw[z8W];exact q
def zb3 {l r:List D}(h:l.length+r.length<=sizeLine)(q:Q (.lst (l++r))):pAdd.run [.lst l,.lst r] Q X:=⟨h,q⟩
def zje {l r:List D}(h:l.length+r.length<=sizeLine)(q:Q (.tup (l++r))):pAdd.run [.tup l,.tup r] Q X:=⟨h,q⟩
end
theorem Safe.of_noL {d:D}(h1:noL d=true)(h2:noD d=true):∀ρ:Pu.Env,Safe d ρ
 | []=>trivial
 | .n::r=>⟨trivial,Safe.of_noL h1 h2 r⟩
 | .s _::r=>⟨trivial,Safe.of_noL h1 h2 r⟩
 | .o x::r=>⟨by cases x <;> first | exact h1 | exact h2 | trivial,Safe.of_noL h1 h2 r⟩
def z11 {ρ:Pu.Env}{i:Nat}{l:List D}{K:List D->Prop}(h:ρ[i]? = some (B.o (.lst l)))(q:K l):ownL ρ i K:=by unfold ownL;rw[h];exact q
def z8E {k:Int}{K:List D->Prop}(h : -(2 ^ 62)<=k)(h':k<2 ^ 62)(q:K ((List.range k.toNat).map λ(j:Nat)=>D.int (j:Int))):onR [.int k] K:=⟨⟨h,h'⟩,q⟩
def z1c {l:List D}{k:Int}{d:D}{Q:DK}(e:atI l k=some d)(q:Q d):onV (atI l k) Q:=by rw[e];exact q
abbrev vec (p:Int × Int):D :=.tup [.int p.1,.int p.2]
theorem z2d:∀{l:List D},(∀d∈l,noL d=true)->noLs l=true
 | [],_=>rfl
 | d::r,h=>by rw[noLs,h d wv,z2d λx hx=>h x (wm _ hx)];rfl
theorem z2e:∀{l:List D},(∀d∈l,noD d=true)->noDs l=true
 | [],_=>rfl
 | d::r,h=>by rw[noDs,h d wv,z2e λx hx=>h x (wm _ hx)];rfl
abbrev vecs (l:List (Int × Int)):D :=.tup (l.map vec)
def z1S (l:List (Int × Int)):noL (vecs l)=true:=by
 show noLs (l.map vec)=true;refine z2d λd hd =>?_;obtain⟨p,_,rfl⟩:=wj.mp hd
 rfl
def z1T (l:List (Int × Int)):noD (vecs l)=true:=by
 show noDs (l.map vec)=true;refine z2e λd hd =>?_;obtain⟨p,_,rfl⟩:=wj.mp hd
 rfl
def z0D {α:Type}{f:α->D}{l:List α}{k:Int}{x:α}(h:atI l k=some x):atI (l.map f) k=some (f x):=by
 unfold atI at h ⊢;rw[wd]
 cases q:ixN l.length k with
 | none=>rw[q] at h;cases h
 | some j=>
  rw[q] at h;have h':l[j]? = some x:=h;show (l.map f)[j]? = some (f x);rw[wG,h']
  rfl
def menu {ns:List Int}{k:Int}{Q:DK}(h0:0<=k)(h1:k<ns.length)(q:∀v∈ns,Q (.int v)):onV (atI (ns.map D.int) k) Q:=by
 obtain⟨v,hv,e⟩:=z4t (xs:=ns) h0 h1;rw[z0D e];exact q v hv
def z36 {α:Type}(f:α->D)(l:List α)(lo hi:Option Int):cutD (l.map f) lo hi=((l.drop (HT.sIx l.length 0 lo)).take (HT.sIx l.length l.length hi - HT.sIx l.length 0 lo)).map f:=by
 unfold cutD;rw[wd,List.map_take,List.map_drop]
def z33 (p r:Int × Int):deq (vec p) (vec r)=decide (p=r):=by
 obtain⟨a,b⟩:=p;obtain⟨c,d⟩:=r;show PyData.eqv (.tuple [.int a,.int b]) (.tuple [.int c,.int d])=decide ((a,b)=(c,d));rw[eqv2,decide_eq_decide,Prod.mk.injEq]
theorem Da.vec (p:Int × Int){n:Nat}:Da (n+1) (vec p):=Da.tup.mpr λd hd=>by
 simp only[wg,wA,vS] at hd
 rcases hd with rfl | rfl <;> exact Da.int
end Pu
namespace Geo
abbrev P:=Int × Int
def cr (a b c:P):Int:=(b.1 - a.1)*(c.2 - a.2) - (b.2 - a.2)*(c.1 - a.1)
def Lx (a b:P):Prop:=a.1<b.1\/(a.1=b.1/\a.2<b.2)
instance (a b:P):Decidable (Lx a b):=inferInstanceAs (Decidable (_\/_))
def Lx.irr {a:P}:¬ Lx a a:=by unfold Lx;lia
def Lx.tr {a b c:P}(h:Lx a b)(q:Lx b c):Lx a c:=by unfold Lx at *;lia
def Lx.asym {a b:P}(h:Lx a b):¬ Lx b a:=by unfold Lx at *;lia
def Lx.tri (a b:P):Lx a b\/a=b\/Lx b a:=by
 obtain⟨a1,a2⟩:=a;obtain⟨b1,b2⟩:=b;unfold Lx
 grind
def Lx.ne {a b:P}(h:Lx a b):a≠b:=λz=>by subst z;exact Lx.irr h
def z7c {a b:P}(h1:¬ Lx a b)(h2:¬ Lx b a):a=b:=by
 rcases Lx.tri a b with h | h | h
 .exact absurd h h1
 .exact h
 simp_all
def z3H {k m:Int}(h:0<k)(q:0<=m*k):0<=m:=by
 rcases(show m<0\/0<=m by lia) with z | z
 .have:=Int.mul_neg_of_neg_of_pos z h;lia
 .exact z
def zh6 {k m:Int}(h:0<k)(q:0<m*k):0<m:=by
 rcases(show m<=0\/0<m by lia) with z | z
 .have:=vm z (vi h);lia
 .exact z
def zeU {u1 u2 w1 w2 z1 z2:Int}(hw:0<w1\/w1=0/\0<w2)(hu:0<u1\/u1=0/\0<=u2)(hz:0<z1\/z1=0/\0<=z2)(h1:0<=u1*w2 - u2*w1)(h2:0<=w1*z2 - w2*z1):0<=u1*z2 - u2*z1:=by
 rcases hw with hw | ⟨hw,hw2⟩
 .refine z3H hw ?_;have e:(u1*z2 - u2*z1)*w1=(u1*w2 - u2*w1)*z1+(w1*z2 - w2*z1)*u1:=by grind
  have a1:=wR h1 (show 0<=z1 by lia);have a2:=wR h2 (show 0<=u1 by lia);lia
 .subst hw;have z0:z1=0:=by
   rcases hz with hz | hz
   .have:=vz hw2 hz;lia
   .exact hz.1
  have z2':0<=z2:=by lia
  subst z0;have:=wR (show 0<=u1 by lia) z2';lia
def zjY {u1 u2 w1 w2 z1 z2:Int}(hw:0<w1\/w1=0/\0<w2)(hu:0<u1\/u1=0/\0<u2)(hz:0<z1\/z1=0/\0<z2)(h1:0<u1*w2 - u2*w1)(h2:0<w1*z2 - w2*z1):0<u1*z2 - u2*z1:=by
 rcases hw with hw | ⟨hw,hw2⟩
 .refine zh6 hw ?_;have e:(u1*z2 - u2*z1)*w1=(u1*w2 - u2*w1)*z1+(w1*z2 - w2*z1)*u1:=by grind
  rcases hu with hu | ⟨hu,hu2⟩
  .have a1:=wR (vi h1) (show 0<=z1 by lia);have a2:=vz h2 hu;lia
  .have:=vz hu2 hw;lia
 .subst hw
  rcases hz with hz | ⟨hz,_⟩
  .have:=vz hw2 hz;lia
  .subst hz;lia
def pops (v:P):List P->List P
 | b::a::r=>if cr a b v<=0 then pops v (a::r) else b::a::r
 | s=>s
def z5D (S:P->Prop):List P->Prop
 | b::a::r=>(∀p,S p->0<=cr a b p)/\Lx a b/\z5D S (a::r)
 | _=>True
def Conv:List P->Prop
 | c::b::a::r=>0<cr a b c/\Conv (b::a::r)
 | _=>True
def z5D.tail {S:P->Prop}{b:P}{r:List P}(h:z5D S (b::r)):z5D S r:=by
 cases r with
 | nil=>trivial
 | cons a r=>exact h.2.2
def Conv.tail {b:P}{r:List P}(h:Conv (b::r)):Conv r:=by
 match r,h with
 | [],_=>trivial
 | [_],_=>trivial
 | _::_::_,h=>exact h.2
theorem z7r {S:P->Prop}{v:P}:∀{r:List P}{b a:P},z5D S (b::a::r)->Conv (b::a::r)->Lx b v->0<cr a b v->z5D (λp=>p=v\/S p) (b::a::r)
 | [],b,a,he,hc,hv,h=>⟨λp hp=>by
   rcases hp with rfl | hp
   .exact vi h
   .exact he.1 p hp,he.2.1,trivial⟩
 | c::r,b,a,he,hc,hv,h=>by
  have hca:=he.2.2.2.1;have hab:=he.2.1;have h2:0<cr c a v:=by
   have q1:0<cr c a b:=hc.1;have:=zjY (u1:=a.1 - c.1) (u2:=a.2 - c.2) (w1:=b.1 - a.1) (w2:=b.2 - a.2) (z1:=v.1 - b.1) (z2:=v.2 - b.2) (by unfold Lx at hab;lia) (by unfold Lx at hca;lia) (by unfold Lx at hv;lia)
    (by unfold cr at q1;grind) (by unfold cr at h;grind)
   unfold cr at q1 ⊢
   grind
  exact⟨λp hp=>by
   rcases hp with rfl | hp
   .exact vi h
   .exact he.1 p hp,hab,z7r he.2.2 hc.2 (hab.tr hv) h2⟩
theorem zaE {S:P->Prop}{v:P}(hv:∀p,S p->Lx p v):∀{r:List P}{b:P},(∀x∈b::r,S x)->z5D S (b::r)->Conv (b::r)->(∀p,S p->¬ Lx p b->0<=cr b v p)->(∀z,(b::r).getLast? = some z->∀p,S p->¬ Lx p z)->
  ∃b' r',pops v (b::r)=b'::r'/\(b'::r') <:+ (b::r)/\(∀p,S p->0<=cr b' v p)/\z5D (λp=>p=v\/S p) (b'::r')/\Conv (v::b'::r')
 | [],b,hs,he,hc,ht,hl=>⟨b,[],rfl,List.suffix_refl _,λp hp=>ht p hp (hl b rfl p hp),trivial,trivial⟩
 | a::r,b,hs,he,hc,ht,hl=>by
  have hab:=he.2.1;have hbv:=hv b (hs b (by simp))
  by_cases h:cr a b v<=0
  .have e:pops v (b::a::r)=pops v (a::r):=by rw[pops,if_pos h]
   obtain⟨b',r',h1,h2,h3,h4,h5⟩:=zaE hv (r:=r) (b:=a) (λx hx=>hs x (wm _ hx)) he.tail hc.tail (λp hp hn=>by
    have q1:=he.1 p hp;have:=zeU (u1:=v.1 - a.1) (u2:=v.2 - a.2) (w1:=b.1 - a.1) (w2:=b.2 - a.2) (z1:=p.1 - a.1) (z2:=p.2 - a.2) (by unfold Lx at hab;lia) (by have:=hab.tr hbv;unfold Lx at this;lia) (by unfold Lx at hn;lia)
     (by unfold cr at h;grind) (by unfold cr at q1;grind)
    unfold cr
    grind) (λz hz=>hl z (by rw[u6];exact hz))
   exact⟨b',r',e.trans h1,h2.trans (List.suffix_cons _ _),h3,h4,h5⟩
  .have h':0<cr a b v:=by lia
   have e:pops v (b::a::r)=b::a::r:=by rw[pops,if_neg h]
   refine⟨b,a::r,e,List.suffix_refl _,λp hp =>?_,z7r he hc hbv h',⟨h',hc⟩⟩
   by_cases hn:Lx p b
   .have q1:=he.1 p hp;have:=zeU (u1:=b.1 - p.1) (u2:=b.2 - p.2) (w1:=b.1 - a.1) (w2:=b.2 - a.2) (z1:=v.1 - b.1) (z2:=v.2 - b.2) (by unfold Lx at hab;lia) (by unfold Lx at hn;lia) (by unfold Lx at hbv;lia)
     (by unfold cr at q1;grind) (by unfold cr at h';grind)
    unfold cr
    grind
   .exact ht p hp hn
structure Ok (S:P->Prop)(s:List P):Prop where
 sub:∀x∈s,S x
 desc:s.Pairwise λx y=>Lx y x
 top:∃b r,s=b::r/\∀p,S p->¬ Lx b p
 bot:∃z,s.getLast? = some z/\∀p,S p->¬ Lx p z
 edges:z5D S s
 conv:Conv s
def z4V {s t:List P}{b:P}(h:(b::t) <:+ s):s.getLast? = (b::t).getLast? := by
 obtain⟨u,rfl⟩:=h;rw[List.getLast?_append]
 rfl
def Ok.push {S:P->Prop}{s:List P}{v:P}(o:Ok S s)(hv:∀p,S p->Lx p v):Ok (λp=>p=v\/S p) (v::pops v s):=by
 obtain⟨b,r,rfl,htop⟩:=o.top;obtain⟨z,hz,hbot⟩:=o.bot;obtain⟨b',r',h1,h2,h3,h4,h5⟩:=zaE hv o.sub o.edges o.conv (λp hp hn=>by
  have:p=b:=z7c hn (htop p hp);subst this;unfold cr
  grind) (λz' hz'=>by rw[hz] at hz';injection hz' with e;subst e;exact hbot)
 have hin:∀x∈b'::r',S x:=λx hx=>o.sub x (h2.subset hx);rw[h1];refine⟨λx hx =>?_,?_,⟨v,_,rfl,λp hp =>?_⟩,⟨z,?_,λp hp =>?_⟩,⟨λp hp =>?_,hv b' (hin b' (by simp)),h4⟩,h5⟩
 .rcases wg.mp hx with rfl | hx
  .exact .inl rfl
  .exact .inr (hin x hx)
 .exact wQ.mpr ⟨λx hx=>hv x (hin x hx),o.desc.sublist h2.sublist⟩
 .rcases hp with rfl | hp
  .exact Lx.irr
  .exact(hv p hp).asym
 .rw[u6, <- z4V h2];exact hz
 .rcases hp with rfl | hp
  .exact(hv z (by rw[z4V h2] at hz;exact hin z (List.mem_of_getLast? hz))).asym
  .exact hbot p hp
 .rcases hp with rfl | hp
  .unfold cr;grind
  .exact h3 p hp
def z24 (l:List P):List P:=l.foldl (λs v=>v::pops v s) []
def Ok.one (v:P):Ok (λp=>p=v) [v]:=⟨by simp,by simp,⟨v,[],rfl,λp hp=>by subst hp;exact Lx.irr⟩,⟨v,rfl,λp hp=>by subst hp;exact Lx.irr⟩,trivial,trivial⟩
def Ok.congr {S S':P->Prop}{s:List P}(o:Ok S s)(h:∀p,S p↔S' p):Ok S' s:=by
 have e  := funext λp=>propext (h p);subst e;exact o
theorem z9a:∀(l:List P) (S:P->Prop) (s:List P),Ok S s->(∀x∈l,∀p,S p->Lx p x)->l.Pairwise Lx->Ok (λp=>S p\/p∈l) (l.foldl (λs v=>v::pops v s) s)
 | [],S,s,o,_,_=>o.congr (by simp)
 | v::l,S,s,o,h,hp=>by
  obtain⟨h1,h2⟩:=wQ.mp hp;have:=z9a l _ _ (o.push (h v (by simp))) (λx hx p hp=>by
   rcases hp with rfl | hp
   .exact h1 x hx
   .exact h x (by simp[hx]) p hp) h2
  refine this.congr λp =>?_;simp[wg]
  constructor
  .rintro((h | h) | h)
   .exact .inr (.inl h)
   .exact .inl h
   simp_all
  .rintro(h | h | h)
   .simp_all
   .exact .inl (.inl h)
   .exact .inr h
def z7v {l:List P}(hn:l≠[])(hp:l.Pairwise Lx):Ok (· ∈ l) (z24 l):=by
 match l,hn with
 | v::l,_=>
  obtain⟨h1,h2⟩:=wQ.mp hp;have:=z9a l _ [v] (Ok.one v) (λx hx p hp=>by subst hp;exact h1 x hx) h2;exact this.congr λp=>by simp
def ng (p:P):P:=(-p.1,-p.2)
def z3U (p:P):ng (ng p)=p:=by unfold ng;simp
def zdN (a b c:P):cr (ng a) (ng b) (ng c)=cr a b c:=by unfold cr ng;grind
def z9O {a b:P}:Lx (ng a) (ng b)↔Lx b a:=by unfold Lx ng;simp;lia
theorem zaF (v:P):∀s:List P,pops (ng v) (s.map ng)=(pops v s).map ng
 | []=>rfl
 | [_]=>rfl
 | b::a::r=>by
  show (if cr _ _ _<=0 then pops _ ((a::r).map ng) else _)=_;rw[zdN,zaF v _,pops]
  by_cases h:cr a b v<=0
  .simp_all
  .rw[if_neg h,if_neg h];rfl
theorem zbC:∀(l s:List P),(l.map ng).foldl (λs v=>v::pops v s) (s.map ng)=(l.foldl (λs v=>v::pops v s) s).map ng
 | [],_=>rfl
 | v::l,s=>by
  show (l.map ng).foldl _ (ng v::pops _ _)=_;rw[zaF];exact zbC l (v::pops v s)
def zbO (l:List P):z24 (l.map ng)=(z24 l).map ng:=zbC l []
def dot (a b p:P):Int:=(p.1 - a.1)*(b.1 - a.1)+(p.2 - a.2)*(b.2 - a.2)
structure Edge (S:P->Prop)(a b:P):Prop where
 sa:S a
 sb:S b
 ne:a≠b
 left:∀p,S p->0<=cr a b p
 btw:∀p,S p->cr a b p=0->0<=dot a b p/\0<=dot b a p
theorem Edge.ng {S:P->Prop}{a b:P}(e:Edge (λp=>S (Geo.ng p)) a b):Edge S (Geo.ng a) (Geo.ng b):=by
 refine⟨e.sa,e.sb,λz=>e.ne (by have:=congrArg Geo.ng z;rwa [z3U,z3U] at this),λp hp =>?_,λp hp h =>?_⟩
 .have:=e.left _ (by rw[z3U];exact hp);rw[<- zdN,z3U] at this;exact this
 .have:=e.btw _ (by rw[z3U];exact hp) (by rw[<- zdN,z3U];exact h);unfold dot Geo.ng at*
  grind
def zgs (a b c:P):cr a c b = -cr a b c:=by unfold cr;grind
def z0b (x:Int):0<=x*x:=by
 rcases(show x<=0\/0<=x by lia) with h | h
 .exact uF h h
 .exact wR h h
def z3w {x y:Int}(h:x*x+y*y=0):x=0/\y=0:=by
 have h1:=z0b x;have h2:=z0b y;have t1:x*x=0:=by omega
 have t2:y*y=0:=by omega
 constructor
 .rcases wV.mp t1 with z | z <;> exact z
 .rcases wV.mp t2 with z | z <;> exact z
def Edge.det {S:P->Prop}{a b c:P}(e:Edge S a b)(f:Edge S a c):b=c:=by
 have h1:=e.left c f.sb;have h2:=f.left b e.sb;have hsw:=zgs a b c;have h0:cr a b c=0:=by lia
 have h0':cr a c b=0:=by lia
 have q1:=e.btw c f.sb h0;have q2:=f.btw b e.sb h0';have ne1:=e.ne;have ne2:=f.ne;obtain⟨a1,a2⟩:=a;obtain⟨b1,b2⟩:=b;obtain⟨c1,c2⟩:=c;unfold cr at h0;unfold dot at q1 q2;simp only[ne_eq,Prod.mk.injEq] at*;obtain⟨q11,q12⟩:=q1;obtain⟨q21,q22⟩:=q2;have k1:(b1 - c1)*(b1 - c1)+(b2 - c2)*(b2 - c2)=0:=by
  generalize hu1:b1 - a1=u1 at*;generalize hu2:b2 - a2=u2 at*;generalize hw1:c1 - a1=w1 at*;generalize hw2:c2 - a2=w2 at*;have e1:b1 - c1=u1 - w1:=by lia
  have e2:b2 - c2=u2 - w2:=by lia
  have e3:c1 - b1=w1 - u1:=by lia
  have e4:c2 - b2=w2 - u2:=by lia
  have e5:a1 - b1 = -u1:=by lia
  have e6:a2 - b2 = -u2:=by lia
  have e7:a1 - c1 = -w1:=by lia
  have e8:a2 - c2 = -w2:=by lia
  rw[e1,e2] at q22 ⊢;rw[e3,e4,e5,e6] at q12;rw[e7,e8] at q22;have A:0<=(u1*u1+u2*u2) - (u1*w1+u2*w2):=by grind
  have B:0<=(w1*w1+w2*w2) - (u1*w1+u2*w2):=by grind
  have C:(u1*u1+u2*u2)*(w1*w1+w2*w2)=(u1*w1+u2*w2)*(u1*w1+u2*w2):=by
   have:(u1*u1+u2*u2)*(w1*w1+w2*w2)=(u1*w1+u2*w2)*(u1*w1+u2*w2)+(u1*w2 - u2*w1)*(u1*w2 - u2*w1):=by grind
   rw[this,h0];lia
  have D:0<=u1*w1+u2*w2:=by grind
  have PX:0<u1*u1+u2*u2:=by
   have n1:=z0b u1;have n2:=z0b u2
   rcases(show u1*u1+u2*u2=0\/0<u1*u1+u2*u2 by lia) with z | z
   .have:=z3w z;lia
   .exact z
  have PY:0<w1*w1+w2*w2:=by
   have n1:=z0b w1;have n2:=z0b w2
   rcases(show w1*w1+w2*w2=0\/0<w1*w1+w2*w2 by lia) with z | z
   .have:=z3w z;lia
   .exact z
  have E:(u1 - w1)*(u1 - w1)+(u2 - w2)*(u2 - w2)=((u1*u1+u2*u2) - (u1*w1+u2*w2))+((w1*w1+w2*w2) - (u1*w1+u2*w2)):=by grind
  rw[E];generalize u1*u1+u2*u2=X at*;generalize w1*w1+w2*w2=Y at*;generalize u1*w1+u2*w2=Z at*;have F:(X - Z)*Y+Z*(Y - Z)=0:=by grind
  have G1:=wR A (show 0<=Y by lia);have G2:=wR D B;have G3:(X - Z)*Y=0:=by omega
  have G4:Z*(Y - Z)=0:=by omega
  rcases wV.mp G3 with h | h
  .rcases wV.mp G4 with h' | h'
   .have:X*Y=0:=by rw[C,h'];rfl
    rcases wV.mp this with h'' | h'' <;> lia
   .lia
  .rcases wV.mp G4 with h' | h' <;> lia
 have:=z3w k1;lia
def Path (R:P->P->Prop):List P->Prop
 | a::b::r=>R a b/\Path R (b::r)
 | _=>True
theorem Path.join {R:P->P->Prop}{M:P}{t:List P}:∀{A:List P},Path R (A++[M])->Path R (M::t)->Path R (A++M::t)
 | [],_,h=>h
 | [a],h,q=>⟨h.1,q⟩
 | a::b::A,h,q=>⟨h.1,Path.join (A:=b::A) h.2 q⟩
def Path.snoc {R:P->P->Prop}{a b:P}{A:List P}(h:Path R (A++[a]))(q:R a b):Path R (A++[a,b]):=Path.join h ⟨q,trivial⟩
theorem Path.rev {R:P->P->Prop}:∀{l:List P},Path (λx y=>R y x) l->Path R l.reverse
 | [],_=>trivial
 | [_],_=>trivial
 | a::b::r,h=>by
  have:=Path.rev h.2;rw[ui] at this ⊢;rw[ui];rw[vn];exact Path.snoc this h.1
theorem Path.imp {R R':P->P->Prop}(i:∀a b,R a b->R' a b):∀{l:List P},Path R l->Path R' l
 | [],_=>trivial
 | [_],_=>trivial
 | _::_::_,h=>⟨i _ _ h.1,Path.imp i h.2⟩
theorem Path.map {R:P->P->Prop}{f:P->P}:∀{l:List P},Path (λa b=>R (f a) (f b)) l->Path R (l.map f)
 | [],_=>trivial
 | [_],_=>trivial
 | _::b::r,h=>⟨h.1,Path.map h.2⟩
def zes {a b p:P}(h:Lx a b)(q:¬ Lx b p)(z:cr a b p=0):0<=dot b a p:=by
 unfold Lx at h q;unfold cr at z;unfold dot;have e:(p.1 - b.1)*(a.1 - b.1)+(p.2 - b.2)*(a.2 - b.2)=(b.1 - a.1)*(b.1 - p.1)+(b.2 - a.2)*(b.2 - p.2):=by grind
 rw[e];have z':(b.1 - a.1)*(b.2 - p.2)=(b.2 - a.2)*(b.1 - p.1):=by grind
 generalize hu1:b.1 - a.1=u1 at*;generalize hu2:b.2 - a.2=u2 at*;generalize hw1:b.1 - p.1=w1 at*;generalize hw2:b.2 - p.2=w2 at*
 rcases(show 0<u1\/u1=0/\0<u2 by lia) with h1 | ⟨h1,h2⟩
 .refine z3H h1 ?_;have:(u1*w1+u2*w2)*u1=w1*(u1*u1+u2*u2):=by grind
  rw[this];have n1:=z0b u1;have n2:=z0b u2;exact wR (by lia) (by lia)
 .subst h1;have:u2*w1=0:=by lia
  rcases wV.mp this with z | z
  .lia
  .subst z;have:=wR (vi h2) (show 0<=w2 by lia);lia
def zg8 {a b p:P}(h:Lx a b)(q:¬ Lx p a)(z:cr a b p=0):0<=dot a b p:=by
 have:=zes (z9O.mpr h) (λy=>q (z9O.mp y)) (by rw[zdN];unfold cr at *;grind);unfold dot ng at*;dsimp only at this
 grind
def zb6 {a b c p:P}(h:0<cr a b c)(q:0<=cr b c p)(z:cr a b p=0):0<=dot b a p:=by
 unfold cr at h q z;unfold dot;have e1:(p.1 - b.1)*(a.1 - b.1)+(p.2 - b.2)*(a.2 - b.2) = -((p.1 - b.1)*(b.1 - a.1)+(p.2 - b.2)*(b.2 - a.2)):=by grind
 rw[e1];have h':0<(b.1 - a.1)*(c.2 - b.2) - (b.2 - a.2)*(c.1 - b.1):=by grind
 have z':(b.1 - a.1)*(p.2 - b.2) - (b.2 - a.2)*(p.1 - b.1)=0:=by grind
 generalize b.1 - a.1=u1 at*;generalize b.2 - a.2=u2 at*;generalize c.1 - b.1=c1 at*;generalize c.2 - b.2=c2 at*;generalize p.1 - b.1=w1 at*;generalize p.2 - b.2=w2 at*;refine z3H h' ?_;have : -(w1*u1+w2*u2)*(u1*c2 - u2*c1)=(c1*w2 - c2*w1)*(u1*u1+u2*u2) - (u1*w2 - u2*w1)*(c1*u1+c2*u2):=by grind
 rw[this,z',jl,Int.sub_zero];have n1:=z0b u1;have n2:=z0b u2;exact wR q (by lia)
def z8Q {y a b p:P}(h:0<cr y a b)(q:0<=cr y a p)(z:cr a b p=0):0<=dot a b p:=by
 unfold cr at h q z;unfold dot;have h':0<(a.1 - y.1)*(b.2 - a.2) - (a.2 - y.2)*(b.1 - a.1):=by grind
 have q':0<=(a.1 - y.1)*(p.2 - a.2) - (a.2 - y.2)*(p.1 - a.1):=by grind
 generalize b.1 - a.1=u1 at*;generalize b.2 - a.2=u2 at*;generalize a.1 - y.1=c1 at*;generalize a.2 - y.2=c2 at*;generalize p.1 - a.1=w1 at*;generalize p.2 - a.2=w2 at*;refine z3H h' ?_;have:(w1*u1+w2*u2)*(c1*u2 - c2*u1)=(c1*w2 - c2*w1)*(u1*u1+u2*u2) - (u1*w2 - u2*w1)*(c1*u1+c2*u2):=by grind
 rw[this,z,jl,Int.sub_zero];have n1:=z0b u1;have n2:=z0b u2;exact wR q' (by lia)
theorem z5S {S:P->Prop}:∀{r:List P}{b a:P},(∀x∈b::a::r,S x)->z5D S (b::a::r)->Conv (b::a::r)->(∀z,(b::a::r).getLast? = some z->∀p,S p->¬ Lx p z)->(∀p,S p->cr a b p=0->0<=dot b a p)->Path (λx y=>Edge S y x) (b::a::r)
 | [],b,a,hs,he,hc,hl,ht=>⟨⟨hs a (by simp),hs b (by simp),he.2.1.ne,he.1,λp hp z=>⟨zg8 he.2.1 (hl a rfl p hp) z,ht p hp z⟩⟩,trivial⟩
 | y::r,b,a,hs,he,hc,hl,ht=>by
  refine⟨⟨hs a (by simp),hs b (by simp),he.2.1.ne,he.1,λp hp z=>⟨z8Q hc.1 (he.2.2.1 p hp) z,ht p hp z⟩⟩,?_⟩;exact z5S (λx hx=>hs x (wm _ hx)) he.2.2 hc.2 (λz hz=>hl z (by simp_all)) λp hp z=>zb6 hc.1 (he.1 p hp) z
def Ok.path {S:P->Prop}{s:List P}(o:Ok S s):Path (Edge S) s.reverse:=by
 refine Path.rev ?_;obtain⟨b,r,rfl,ht⟩:=o.top;obtain⟨z,hz,hl⟩:=o.bot
 cases r with
 | nil=>trivial
 | cons a r=>exact z5S o.sub o.edges o.conv (λz' hz'=>by rw[hz] at hz';injection hz' with e;subst e;exact hl) λp hp z=>zes o.edges.2.1 (ht p hp) z
def hull (l:List P):List P:=if l.length<=1 then l else (z24 l).reverse.dropLast++(z24 l.reverse).reverse.dropLast
structure z08 (S:P->Prop)(h:List P):Prop where
 ex:∃m t,h=m::t/\S m/\(∀p,S p->¬ Lx p m)/\m ∉ t/\((t=[]/\∀p,S p->p=m)\/(t≠[]/\Path (Edge S) (m::t++[m])))
theorem z3u {R:P->P->Prop}(det:∀a b c,R a b->R a c->b=c){m:P}:∀{t t':List P}{a:P},m ∉ t->m ∉ t'->Path R (a::t++[m])->Path R (a::t'++[m])->t=t'
 | [],[],_,_,_,_,_=>rfl
 | [],b::t',a,_,h,p,q=>by
  have  := det a b m q.1 p.1
  simp_all
 | b::t,[],a,h,_,p,q=>by
  have  := det a b m p.1 q.1
  simp_all
 | b::t,c::t',a,h,h',p,q=>by
  have e  := det a b c p.1 q.1;subst e;rw[z3u det (λz=>h (by simp[z])) (λz=>h' (by simp[z])) p.2 q.2]
def z08.unique {S:P->Prop}{h h':List P}(x:z08 S h)(y:z08 S h'):h=h':=by
 obtain⟨m,t,rfl,sm,lm,nm,e⟩:=x.ex;obtain⟨m',t',rfl,sm',lm',nm',e'⟩:=y.ex;have em  := z7c (lm' m sm) (lm m' sm');subst em;have one:∀{u:List P},u≠[]->Path (Edge S) (m::u++[m])->(∀p,S p->p=m)->False:=λ{u} hu hp ha=>by
  match u,hu with
  | b::u,_=>
   have e  := hp.1;exact e.ne (ha b e.sb).symm
 rcases e with ⟨rfl,ha⟩ | ⟨hn,hp⟩
 .rcases e' with ⟨rfl,_⟩ | ⟨hn',hp'⟩
  .rfl
  .exact(one hn' hp' ha).elim
 .rcases e' with ⟨rfl,ha⟩ | ⟨hn',hp'⟩
  .exact(one hn hp ha).elim
  .rw[z3u (R:=Edge S) (λa b c p q=>Edge.det p q) nm nm' hp hp']
def z2L {s:List P}{z:P}(h:s.getLast? = some z):s.dropLast++[z]=s:=by
 have hn:s≠[]:=λe=>by simp_all
 have e  := by
  rw[List.getLast?_eq_some_getLast hn] at h;exact w5 h
 rw[<- e];exact List.dropLast_concat_getLast hn
def zgH {l:List P}(hl:2<=l.length)(hp:l.Pairwise Lx):∃x y,x∈l/\y∈l/\Lx x y:=by
 match l,hl,hp with
 | x::y::r,_,hp=>exact⟨x,y,by simp,by simp,(wQ.mp hp).1 y (by simp)⟩
def z5P {l:List P}(hl:2<=l.length)(hp:l.Pairwise Lx):∃m M A B,hull l=m::A++M::B/\m∈l/\M∈l/\Lx m M/\(∀p∈l,¬ Lx p m)/\(∀p∈l,¬ Lx M p)/\
  (m::A++[M]).Pairwise Lx/\(M::B++[m]).Pairwise (λx y=>Lx y x)/\Path (Edge (· ∈ l)) (m::A++[M])/\Path (Edge (· ∈ l)) (M::B++[m]):=by
 have hne:l≠[]:=λz=>by rw[z] at hl;simp at hl
 have o1:=z7v hne hp;have hp2:(l.reverse.map ng).Pairwise Lx:=by
  rw[wN,List.pairwise_reverse];exact hp.imp λh=>z9O.mpr h
 have o2:=z7v (l:=l.reverse.map ng) (by simpa using hne) hp2;rw[zbO] at o2;have mem:∀p,p∈l.reverse.map ng↔ng p∈l:=λp=>by
  simp only[wj,List.mem_reverse]
  constructor
  .rintro⟨q,hq,rfl⟩;rw[z3U];exact hq
  .intro h;exact⟨ng p,h,z3U p⟩
 obtain⟨M,r1,e1,t1⟩:=o1.top;obtain⟨m,b1,b1'⟩:=o1.bot;obtain⟨M',r2,e2,t2⟩:=o2.top;obtain⟨m',b2,b2'⟩:=o2.bot;have Ml:M∈l:=o1.sub M (by rw[e1];simp);have ml:m∈l:=o1.sub m (List.mem_of_getLast? b1);have M'l:ng M'∈l:=(mem M').mp (o2.sub M' (by rw[e2];simp));have m'l:ng m'∈l:=(mem m').mp (o2.sub m' (List.mem_of_getLast? b2));have hMm:ng M'=m:=by
  refine z7c (b1' _ M'l) λz =>?_;have:=t2 (ng m) ((mem _).mpr (by rw[z3U];exact ml));exact this (by rw[<- z3U M'];exact z9O.mpr z)
 have hmM:ng m'=M:=by
  refine z7c (λz =>?_) (t1 _ m'l);have:=b2' (ng M) ((mem _).mpr (by rw[z3U];exact Ml));exact this (by rw[<- z3U m'];exact z9O.mpr z)
 have hlt:Lx m M:=by
  rcases Lx.tri m M with h | h | h
  .exact h
  .exfalso
   subst h;have all:∀p∈l,p=m:=λp hp=>z7c (b1' p hp) (t1 p hp);obtain⟨x,y,hx,hy,this⟩:=zgH hl hp;rw[all x hx,all y hy] at this;exact Lx.irr this
  .exact absurd h (t1 m ml)
 have there:∃A,(z24 l).reverse=m::A++[M]:=by
  rw[e1] at b1 ⊢
  cases r1 with
  | nil=>simp at b1;exact absurd (b1 ▸ hlt) Lx.irr
  | cons c r=>
   rw[u6] at b1;refine⟨(c::r).dropLast.reverse,?_⟩;rw[ui, <- z2L b1];simp
 obtain⟨A,eA⟩:=there;have ec2:z24 l.reverse=(M'::r2).map ng:=by
  have:((z24 l.reverse).map ng).map ng=(M'::r2).map ng:=by rw[e2]
  rw[wK] at this;simpa[Function.comp_def,z3U] using this
 have back:∃B,(z24 l.reverse).reverse=M::B++[m]:=by
  rw[e2] at b2;rw[ec2]
  cases r2 with
  | nil=>
   simp at b2;rw[b2] at hMm;rw[hMm] at hmM;exact absurd (hmM ▸ hlt) Lx.irr
  | cons c r=>
   rw[u6] at b2;refine⟨((c::r).dropLast.map ng).reverse,?_⟩;have:(c::r)=(c::r).dropLast++[m']:=(z2L b2).symm;rw[wE,ui,hMm,this,wH];simp[hmM]
 obtain⟨B,eB⟩:=back;refine⟨m,M,A,B,?_,ml,Ml,hlt,b1',t1,?_,?_,?_,?_⟩
 .unfold hull;rw[if_neg (by lia),eA,eB,List.dropLast_concat,List.dropLast_concat]
 .rw[<- eA,List.pairwise_reverse];exact o1.desc
 .rw[<- eB,List.pairwise_reverse];have q:=o2.desc;rw[wN] at q;exact q.imp λh=>z9O.mp h
 .rw[<- eA];exact o1.path
 .rw[<- eB];have q:=o2.path;rw[<- List.map_reverse] at q;have h2:Path (λa b=>Edge (· ∈ l) (ng a) (ng b)) ((z24 l.reverse).map ng).reverse:=by
   rw[<- List.map_reverse];refine Path.imp (λa b e =>?_) q;refine Edge.ng ?_;have es:(λp=>ng p∈l)=(λp=>p∈l.reverse.map ng):=funext λp=>propext (mem p).symm;rw[es];exact e
  have h3:=Path.map (f:=ng) h2;rw[List.map_reverse,wK] at h3;simpa[Function.comp_def,z3U] using h3
def zgj {l:List P}(hn:l≠[])(hp:l.Pairwise Lx):z08 (· ∈ l) (hull l):=by
 by_cases h1:l.length<=1
 .match l,hn,h1 with
  | [x],_,_=>exact⟨x,[],rfl,by simp,λp hp=>by rw[wt.mp hp];exact Lx.irr,by simp,.inl ⟨rfl,λp hp=>wt.mp hp⟩⟩
 .obtain⟨m,M,A,B,e,ml,Ml,hlt,hmin,hmax,pa,pb,wa,wb⟩:=z5P (by lia) hp;refine⟨m,A++M::B,e,ml,hmin,λz =>?_,.inr ⟨by simp,?_⟩⟩
  .rcases wZ.mp z with z | z
   .exact Lx.irr ((wQ.mp pa).1 m (by simp[z]))
   grind
  .have:m::(A++M::B)++[m]=(m::A)++M::(B++[m]):=by simp
   rw[this];exact Path.join wa wb
end Geo
open Geo
namespace Lcg
def orb (x:Nat):Nat->Nat
 | 0=>x
 | n+1=>orb x n*5+1
theorem z7W (x m:Nat):∀n,orb x (m+n)=orb (orb x m) n
 | 0=>rfl
 | n+1=>congrArg (· * 5+1) (z7W x m n)
theorem zaV:∀k:Nat,∃c d,∀y,orb y (2 ^ k)=y+2 ^ k*(2*d+1+4*c*y)
 | 0=>⟨1,0,λy=>by show y*5+1=_;lia⟩
 | k+1=>by
  obtain⟨c,d,h⟩:=zaV k;exact⟨c+2*c*c*2 ^ k,d+(2*d+1)*c*2 ^ k,λy=>by
   rw[Nat.pow_succ,Nat.mul_two,z7W,h,h]
   grind⟩
theorem zaW (x e:Nat):∀k,∃n,n<2 ^ k/\orb x n % 2 ^ k=e % 2 ^ k
 | 0=>⟨0,by decide,by lia⟩
 | k+1=>by
  obtain⟨n,h,g⟩:=zaW x e k;obtain⟨c,d,t⟩:=zaV k;simp[Nat.pow_succ,Nat.mod_mul]
  by_cases q:orb x n / 2 ^ k % 2=e / 2 ^ k % 2
  .exact⟨n,by lia,by rw[g,q]⟩
  .refine⟨n+2 ^ k,by lia,?_⟩;rw[z7W,t,Nat.add_mul_mod_self_left,Nat.add_mul_div_left _ _ (Nat.two_pow_pos k)]
   congr 2
   lia
end Lcg
namespace Tab
open PySem PySem.SetTable
theorem z6C (xs:Array Nat)(j:Nat)(hr:∀a b,a<b->b<xs.size->xs.getD a 0<xs.getD b 0):∀(fuel lo hi:Nat),hi<=xs.size->hi - lo<=fuel->lo<=hi->(∀i,i<lo->xs.getD i 0<j)->(∀i,hi<=i->i<xs.size->j<=xs.getD i 0)->
  below.go xs j fuel lo hi<=xs.size/\(∀i,i<below.go xs j fuel lo hi->xs.getD i 0<j)/\(∀i,below.go xs j fuel lo hi<=i->i<xs.size->j<=xs.getD i 0)
 | 0,lo,hi,h1,h2,h3,h4,h5=>by
  have:lo=hi:=by lia
  subst this;exact⟨h1,h4,h5⟩
 | fuel+1,lo,hi,h1,h2,h3,h4,h5=>by
  rw[below.go]
  by_cases hlt:lo<hi
  .rw[if_pos hlt];have hm:(lo+hi) / 2<xs.size:=by lia
   have e:xs.getD ((lo+hi) / 2) j=xs.getD ((lo+hi) / 2) 0:=by simp[Array.getD,hm]
   dsimp only;rw[e]
   by_cases hj:xs.getD ((lo+hi) / 2) 0<j
   .rw[if_pos hj];refine z6C xs j hr fuel _ hi h1 (by lia) (by lia) (λi hi' =>?_) h5
    rcases wJ i ((lo+hi) / 2) with z | z
    .have:=hr i _ z hm;lia
    .have:i=(lo+hi) / 2:=by lia
     subst this;exact hj
   .rw[if_neg hj];refine z6C xs j hr fuel lo _ (by lia) (by lia) (by lia) h4 (λi hi' hi2 =>?_)
    rcases wJ ((lo+hi) / 2) i with z | z
    .have:=hr _ i z hi2;lia
    .have:i=(lo+hi) / 2:=by lia
     subst this;lia
  .rw[if_neg hlt];have:lo=hi:=by lia
   subst this;exact⟨h1,h4,h5⟩
abbrev Rise (xs:Array Nat):Prop:=∀a b,a<b->b<xs.size->xs.getD a 0<xs.getD b 0
def z4k {xs:Array Nat}(hr:Rise xs)(j:Nat):below xs j<=xs.size/\(∀i,i<below xs j->xs.getD i 0<j)/\(∀i,below xs j<=i->i<xs.size->j<=xs.getD i 0):=
 z6C xs j hr _ 0 _ (wp _) (by lia) (vf _) (λ_ h=>absurd h (uV _)) (λi h1 h2=>absurd h1 (by lia))
def zgm {xs:Array Nat}{i j:Nat}(h:xs[i]? = some j):i<xs.size/\xs.getD i 0=j:=by
 obtain⟨hi,e⟩:=Array.getElem?_eq_some_iff.mp h
 simp_all
def zlA {xs:Array Nat}{i:Nat}(h:i<xs.size):xs[i]? = some (xs.getD i 0):=by simp_all
def zdT {xs:Array Nat}(hr:Rise xs){i j:Nat}(h:xs[i]? = some j):below xs j=i:=by
 obtain⟨h1,h2,h3⟩:=z4k hr j;obtain⟨hi,e⟩:=zgm h
 rcases uj (below xs j) i with z | z | z
 .have:=h3 _ (wp _) (by lia);have:=hr _ _ z hi;lia
 .exact z
 .have:=h2 i z;lia
def z6M {t:SetTable}(hr:Rise t.place){i j:Nat}(h:t.place[i]? = some j):t.slot j = .live i:=by
 unfold SetTable.slot;rw[zdT hr h]
 simp_all
def z9k {t:SetTable}(hd:t.dummies = #[]){j:Nat}(h:∀i:Nat,t.place[i]? ≠ some j):t.slot j = .empty:=by
 unfold SetTable.slot;have h1:(t.place[below t.place j]? == some j)=false:=by
  simp_all
 have h2:has t.dummies j=false:=by rw[hd];rfl
 simp_all
def adv (mask:Nat)(p:Probe):Probe:=
 if p.more > 0 then { p with j:=p.j+1,more:=p.more - 1 } else
 { p with j:=(leap mask p.i p.perturb).1,more:=runEnd mask (leap mask p.i p.perturb).1 - (leap mask p.i p.perturb).1,i:=(leap mask p.i p.perturb).1,perturb:=(leap mask p.i p.perturb).2 }
def advs (mask:Nat)(p:Probe):Nat->Probe
 | 0=>p
 | n+1=>adv mask (advs mask p n)
theorem z2m (mask:Nat)(p:Probe)(m:Nat):∀n,advs mask p (m+n)=advs mask (advs mask p m) n
 | 0=>rfl
 | n+1=>congrArg _ (z2m _ p m n)
def z41 (mask:Nat)(p:Probe)(n:Nat):advs mask p (n+1)=advs mask (adv mask p) n:=by
 rw[Nat.add_comm,z2m]
 rfl
def z7H (mask:Nat)(p:Probe):(adv mask p).dummy=p.dummy:=by
 unfold adv;split <;> rfl
theorem z5V (mask:Nat)(p:Probe):∀n,(advs mask p n).dummy=p.dummy
 | 0=>rfl
 | n+1=>by rw[advs,z7H,z5V _ p n]
theorem z6E (mask:Nat):∀(p:Probe) (n:Nat),n<=p.more->advs mask p n={ p with j:=p.j+n,more:=p.more - n }
 | p,0,_=>rfl
 | p,n+1,h=>by
  rw[advs,z6E _ p n (by lia)];unfold adv
  grind
def z64 (mask i:Nat):runEnd mask i - i<=9:=by unfold runEnd;split <;> lia
def lp (mask:Nat)(i q:Nat):Nat->Nat × Nat
 | 0=>(i,q)
 | c+1=>leap mask (lp mask i q c).1 (lp mask i q c).2
theorem zbg (mask:Nat)(i q:Nat):∀c,lp mask i q (c+1)=lp mask (leap mask i q).1 (leap mask i q).2 c
 | 0=>rfl
 | c+1=>by
  show leap _ _ _=_;rw[zbg _ i q c]
  rfl
def z3i (mask:Nat)(p:Probe):advs mask p (p.more+1)={ p with j:=(leap mask p.i p.perturb).1,more:=runEnd mask (leap mask p.i p.perturb).1 - (leap mask p.i p.perturb).1,i:=(leap mask p.i p.perturb).1,perturb:=(leap mask p.i p.perturb).2 }:=by
 rw[advs,z6E _ p _ (wp _)];unfold adv
 grind
theorem runs (mask:Nat):∀(c:Nat) (p:Probe),p.more<=9->∃s,s<=10*(c+1)/\(advs mask p s).j=(lp mask p.i p.perturb (c+1)).1/\(advs mask p s).i=(lp mask p.i p.perturb (c+1)).1/\(advs mask p s).perturb=(lp mask p.i p.perturb (c+1)).2/\(advs mask p s).more<=9
 | 0,p,h=>⟨p.more+1,by lia,by rw[z3i];rfl,by rw[z3i];rfl,by rw[z3i];rfl,by rw[z3i];exact z64 _ _⟩
 | c+1,p,h=>by
  obtain⟨s,h1,h2,h3,h4,h5⟩:=runs mask c p h;refine⟨s+((advs mask p s).more+1),by lia,?_⟩;rw[z2m,z3i];refine⟨?_,?_,?_,z64 _ _⟩
  .rw[h3,h4];rfl
  .rw[h3,h4];rfl
  .rw[h3,h4];rfl
theorem z4f (mask i q:Nat):∀c,(lp mask i q c).2=q / 32 ^ c
 | 0=>by simp[lp]
 | c+1=>by
  show (lp _ i q c).2 / 32=_;rw[z4f _ i q c,Nat.div_div_eq_div_mul,Nat.pow_succ]
theorem zeu {mask i q:Nat}(hq:q=0):∀c:Nat,(lp mask i q c).1 % (mask+1)=Lcg.orb i c % (mask+1)
 | 0=>rfl
 | c+1=>by
  show ((lp _ i q c).1*5+1+(lp _ i q c).2 / 32) % (mask+1) % _=(_*5+1) % _;rw[z4f,hq,Nat.zero_div,Nat.add_zero,Nat.mod_mod,Nat.add_mod,Nat.mul_mod, <- hq,zeu hq c, <- Nat.mul_mod, <- Nat.add_mod]
theorem zev (mask i q m:Nat):∀n,lp mask i q (m+n)=lp mask (lp mask i q m).1 (lp mask i q m).2 n
 | 0=>rfl
 | n+1=>by
  show leap _ (lp _ i q (m+n)).1 (lp _ i q (m+n)).2=_;rw[zev _ i q m n]
  rfl
def zed {k mask i q e:Nat}(hm:mask+1=2 ^ k)(hq:q<2 ^ 64)(he:e<=mask):∃c,c<=13+mask/\13<=c/\(lp mask i q c).1=e:=by
 have hq13:(lp mask i q 13).2=0:=by
  rw[z4f];exact Nat.div_eq_of_lt (wB hq (by decide))
 obtain⟨d,hd,e1⟩:=Lcg.zaW _ e k;refine⟨13+d,by lia,by lia,?_⟩;have g := @zeu mask (lp mask i q 13).1 _ hq13 d;rw[hm,e1, <- hm, <- zev,Nat.add_comm,wU (a:=e) (by lia)] at g;rw[Nat.add_comm, <- g];exact(wU (jb _ (by lia))).symm
def zae {k mask e:Nat}{p:Probe}(hm:mask+1=2 ^ k)(hq:p.perturb<2 ^ 64)(hp:p.more<=9)(he:e<=mask):∃s,s<10*turns mask/\(advs mask p s).j=e:=by
 obtain⟨c,h1,h2,h3⟩:=zed hm hq he;obtain⟨c',rfl⟩:∃c',c=c'+1:=⟨c - 1,by lia⟩
 obtain⟨s,g1,g2,_⟩:=runs _ c' p hp;exact⟨s,by unfold turns;lia,g2.trans h3⟩
def zjS {mask:Nat}{p:Probe}(hq:p.perturb<2 ^ 64)(hp:p.more<=9):(adv mask p).perturb<2 ^ 64/\(adv mask p).more<=9:=by
 unfold adv
 split
 .exact⟨hq,by lia⟩
 .exact⟨Nat.lt_of_le_of_lt (Nat.div_le_self _ _) hq,z64 _ _⟩
theorem z8p {mask:Nat}{p:Probe}(hq:p.perturb<2 ^ 64)(hp:p.more<=9):∀n,(advs mask p n).perturb<2 ^ 64/\(advs mask p n).more<=9
 | 0=>⟨hq,hp⟩
 | n+1=>zjS (z8p hq hp n).1 (z8p hq hp n).2
def z3F (t:SetTable)(h:Int):(t.probeStart h).perturb<2 ^ 64/\(t.probeStart h).more<=9:=by
 refine⟨?_,z64 _ _⟩;show (h % (2 ^ 64)).toNat<2 ^ 64
 grind
theorem z8F {t:SetTable}(hd:t.dummies = #[])(hr:Rise t.place)(hashAt:Nat->Int)(h:Int):∀(fuel:Nat) (p:Probe),(∃s,s<fuel/\∀i:Nat,t.place[i]? ≠ some (advs t.mask p s).j)->
  ∃s,(∀m,m<s->∃i:Nat,t.place[i]? = some (advs t.mask p m).j/\hashAt i≠h)/\
   (((∀i:Nat,t.place[i]? ≠ some (advs t.mask p s).j)/\probe.go t hashAt h fuel p=some (.empty (advs t.mask p s).j p.dummy))\/
    ∃i:Nat,t.place[i]? = some (advs t.mask p s).j/\hashAt i=h/\probe.go t hashAt h fuel p=some (.candidate (advs t.mask p s).j i (advs t.mask p (s+1))))
 | 0,p,⟨s,hs,_⟩=>absurd hs (uV _)
 | fuel+1,p,⟨s,hs,he⟩=>by
  by_cases hl:∃i:Nat,t.place[i]? = some p.j
  .obtain⟨i,hi⟩:=hl;have e1:probe.go t hashAt h (fuel+1) p=if hashAt i == h then some (.candidate p.j i (t.advance p)) else probe.go t hashAt h fuel (t.advance p):=by
    rw[probe.go,z6M hr hi]
   by_cases hh:hashAt i=h
   .refine⟨0,λm hm=>absurd hm (uV _),.inr ⟨i,hi,hh,?_⟩⟩;rw[e1,if_pos (by simpa using hh)]
    rfl
   .have hs0:s≠0:=λz=>by subst z;exact he i hi
    obtain⟨s',rfl⟩:∃s',s=s'+1:=⟨s - 1,by lia⟩
    rw[z41] at he;obtain⟨r,h1,h2⟩:=z8F hd hr hashAt h fuel (adv t.mask p) ⟨s',by lia,he⟩;refine⟨r+1,λm hm =>?_,?_⟩
    .cases m with
     | zero=>exact⟨i,hi,hh⟩
     | succ m=>rw[z41];exact h1 m (by lia)
    .rw[e1,if_neg (by simpa using hh),z41,z41, <- z7H t.mask p];exact h2
  .have hn:∀i:Nat,t.place[i]? ≠ some p.j:=λi z=>hl ⟨i,z⟩;refine⟨0,λm hm=>absurd hm (uV _),.inl ⟨hn,?_⟩⟩;rw[probe.go,z9k hd hn]
   rfl
theorem z2B:∀{l l':List Nat},l.Nodup->(∀x∈l,x∈l')->l.length<=l'.length
 | [],_,_,_=>vf _
 | a::l,l',h,hs=>by
  obtain⟨h1,h2⟩:=vB.mp h;have:=z2B h2 λx hx=>(List.mem_erase_of_ne (λ(z:x=a)=>h1 (z ▸ hx))).mpr (hs x (by simp[hx]))
  grind
theorem z3L:∀{l l':List Nat},l.Nodup->l'.Nodup->(∀x,x∈l↔x∈l')->l.Perm l'
 | [],l',_,_,h=>by
  cases l' with
  | nil=>rfl
  | cons b l'=>exact absurd ((h b).mpr (by simp)) (by simp)
 | a::l,l',h1,h2,h=>by
  obtain⟨n1,n2⟩:=vB.mp h1;have ha  := (h a).mp (by simp);have p:=z3L n2 (h2.erase a) λx=>by
   grind
  exact(List.Perm.cons a p).trans (List.perm_cons_erase ha).symm
variable {α:Type}
abbrev Rw (α:Type):=Nat × Int × α
def za1 (mask:Nat)(occ:Nat->Prop)(h:Int)(j:Nat):Prop:=∃n,(advs mask (probeStart { mask:=mask,place := #[],dummies := #[],finger:=0,led:=true,moves:=0,plain:=true } h) n).j=j/\∀m,m<n->occ (advs mask (probeStart { mask:=mask,place := #[],dummies := #[],finger:=0,led:=true,moves:=0,plain:=true } h) m).j
abbrev st0 (mask:Nat)(h:Int):Probe:=probeStart { mask:=mask,place := #[],dummies := #[],finger:=0,led:=true,moves:=0,plain:=true } h
def za1.mono {mask:Nat}{occ occ':Nat->Prop}{h:Int}{j:Nat}(x:za1 mask occ h j)(i:∀a,occ a->occ' a):za1 mask occ' h j:=by
 obtain⟨n,h1,h2⟩:=x;exact⟨n,h1,λm hm=>i _ (h2 m hm)⟩
structure TabW (t:SetTable)(es:Array (Int × α))(L:List (Rw α)):Prop where
 place:t.place=(L.map (·.1)).toArray
 es:es=(L.map (·.2)).toArray
 rise:L.Pairwise λa b=>a.1<b.1
 le:∀r∈L,r.1<=t.mask
 dum:t.dummies = #[]
 pow:∃k,3<=k/\t.mask+1=2 ^ k
 reach:∀r∈L,za1 t.mask (λj=>∃r'∈L,r'.1=j) r.2.1 r.1
def TabW.occ {t:SetTable}{es:Array (Int × α)}{L:List (Rw α)}(w:TabW t es L){j:Nat}:(∃i:Nat,t.place[i]? = some j)↔∃r∈L,r.1=j:=by
 rw[w.place]
 constructor
 .rintro⟨i,h⟩;have h':(L.map (·.1))[i]? = some j:=by simpa using h
  obtain⟨r,hr,e⟩:=wj.mp (wD h');exact⟨r,hr,e⟩
 .rintro⟨r,hr,rfl⟩;obtain⟨i,hi,e⟩:=wX.mp hr;exact⟨i,by simp[hi,e]⟩
def TabW.riseP {t:SetTable}{es:Array (Int × α)}{L:List (Rw α)}(w:TabW t es L):Rise t.place:=by
 rw[w.place];intro a b hab hb;have hb'  := by simpa using hb
 have:=vA.mp w.rise a b (by lia) hb' hab;simpa[show a<L.length by lia,hb'] using this
theorem TabW.size {t:SetTable}{es:Array (Int × α)}{L:List (Rw α)}(w:TabW t es L):t.place.size=L.length/\es.size=L.length/\t.fill=L.length:=by
 refine⟨by rw[w.place];simp,by rw[w.es];simp,?_⟩;unfold fill;rw[w.place,w.dum];simp
def TabW.nodup {t:SetTable}{es:Array (Int × α)}{L:List (Rw α)}(w:TabW t es L):(L.map (·.1)).Nodup:=by
 rw[List.nodup_iff_pairwise_ne,wN];exact w.rise.imp λh=>wz h
def TabW.room {t:SetTable}{es:Array (Int × α)}{L:List (Rw α)}(w:TabW t es L)(h:L.length<=t.mask):∃e,e<=t.mask/\¬ ∃r∈L,r.1=e:=by
 refine vO λhno =>?_;have all  := λe he=>vO λz=>hno ⟨e,he,z⟩;have:=z2B (l:=List.range (t.mask+1)) (l':=L.map (·.1)) List.nodup_range λx hx=>by
  grind
 simp at this;lia
theorem TabW.probe {t:SetTable}{es:Array (Int × α)}{L:List (Rw α)}(w:TabW t es L)(hroom:L.length<=t.mask)(hashAt:Nat->Int)(h:Int)(n:Nat):
  ∃s,(∀m,n<=m->m<n+s->∃i:Nat,t.place[i]? = some (advs t.mask (st0 t.mask h) m).j/\hashAt i≠h)/\
   (((∀i:Nat,t.place[i]? ≠ some (advs t.mask (st0 t.mask h) (n+s)).j)/\t.probe hashAt h (advs t.mask (st0 t.mask h) n)=some (.empty (advs t.mask (st0 t.mask h) (n+s)).j none))\/
    ∃i:Nat,t.place[i]? = some (advs t.mask (st0 t.mask h) (n+s)).j/\hashAt i=h/\t.probe hashAt h (advs t.mask (st0 t.mask h) n)=some (.candidate (advs t.mask (st0 t.mask h) (n+s)).j i (advs t.mask (st0 t.mask h) (n+s+1)))):=by
 obtain⟨e,he,hne⟩:=w.room hroom;obtain⟨k,_,hk⟩:=w.pow;have ok:=z8p (mask:=t.mask) (z3F t h).1 (z3F t h).2 n;obtain⟨s0,hs0,e0⟩:=zae (p:=advs _ (st0 t.mask h) n) hk ok.1 ok.2 he;obtain⟨s,h1,h2⟩:=z8F w.dum w.riseP hashAt h _ _ ⟨s0,hs0,λi z=>by
  rw[e0] at z;exact hne (w.occ.mp ⟨i,z⟩)⟩
 refine⟨s,λm hm1 hm2 =>?_,?_⟩
 .obtain⟨d,rfl⟩:∃d,m=n+d:=⟨m - n,by lia⟩
  rw[z2m]
  simp_all
 .rw[Nat.add_assoc,z2m,z2m];rw[z5V] at h2;exact h2
def TabW.soon {t:SetTable}{es:Array (Int × α)}{L:List (Rw α)}(w:TabW t es L)(hroom:L.length<=t.mask)(h:Int):∃N,N<10*turns t.mask/\¬ ∃r∈L,r.1=(advs t.mask (st0 t.mask h) N).j:=by
 obtain⟨e,he,hne⟩:=w.room hroom;obtain⟨k,_,hk⟩:=w.pow;obtain⟨s0,hs0,e0⟩:=zae (p:=st0 _ h) hk (z3F t h).1 (z3F t h).2 he;exact⟨s0,hs0,by rw[e0];exact hne⟩
def ins (L:List (Rw α))(p:Nat)(r:Rw α):List (Rw α):=L.take p++r::L.drop p
def z6l {L:List (Rw α)}{p:Nat}{r x:Rw α}:x∈ins L p r↔x=r\/x∈L:=by
 unfold ins;rw[wZ,wg]
 constructor
 .grind
 .rintro(h | h)
  .exact .inr (.inl h)
  .rw[<- uM p L,wZ] at h
   rcases h with h | h
   .exact .inl h
   simp_all
def z3W {β:Type}(l:List β){p:Nat}(x:β):insertAt l.toArray p x=(l.take p++x::l.drop p).toArray:=by
 unfold insertAt;simp;exact v3 (by simp)
theorem TabW.put {t:SetTable}{es:Array (Int × α)}{L:List (Rw α)}(w:TabW t es L){h:Int}{x:α}{n:Nat}(hocc:∀m,m<n->∃r∈L,r.1=(advs t.mask (st0 t.mask h) m).j)(hemp:¬ ∃r∈L,r.1=(advs t.mask (st0 t.mask h) n).j)(hle:(advs t.mask (st0 t.mask h) n).j<=t.mask):
  TabW (t.put (advs t.mask (st0 t.mask h) n).j).1 (insertAt es (t.put (advs t.mask (st0 t.mask h) n).j).2 (h,x)) (ins L (t.put (advs t.mask (st0 t.mask h) n).j).2 ((advs t.mask (st0 t.mask h) n).j,h,x)):=by
 generalize hj:(advs t.mask (st0 t.mask h) n).j=j at*;obtain⟨b1,b2,b3⟩:=z4k w.riseP j;have hp:(t.put j).2=below t.place j:=rfl;rw[hp];generalize hq:below t.place j=p at*;have hpl:p<=L.length:=by rw[<- w.size.1];exact b1
 have at':∀i (hi:i<L.length),t.place.getD i 0=(L[i]).1:=λi hi=>by rw[w.place];simp[Array.getD,hi]
 have lo:∀r∈L.take p,r.1<j:=λr hr=>by
  obtain⟨i,hi,rfl⟩:=wX.mp hr;have hi':i<p/\i<L.length:=by simp at hi;lia
  have:=b2 i hi'.1;rw[at' i hi'.2] at this;simpa using this
 have hi:∀r∈L.drop p,j<r.1:=λr hr=>by
  obtain⟨i,hi,rfl⟩:=wX.mp hr;have hi':p+i<L.length:=by simp at hi;lia
  have h1:=b3 (p+i) (by lia) (by rw[w.size.1];exact hi');rw[at' _ hi'] at h1;have h2:(L[p+i]).1≠j:=λz=>hemp ⟨L[p+i],uH hi',z⟩;simp only[List.getElem_drop];lia
 have hdum:(t.put j).1.dummies = #[]:=by
  show (if has t.dummies j then eraseAt t.dummies (below t.dummies j) else t.dummies) = #[];rw[w.dum];simp[has]
 refine⟨?_,?_,?_,λr hr =>?_,hdum,w.pow,λr hr =>?_⟩
 .show insertAt t.place (below t.place j) j=_;rw[hq,w.place,z3W];unfold ins;rw[wH,wE,List.map_take,List.map_drop]
 .rw[w.es,z3W];unfold ins;rw[wH,wE,List.map_take,List.map_drop]
 .unfold ins;rw[vQ];have pw:=w.rise;rw[<- uM p L,vQ] at pw;refine⟨pw.1,wQ.mpr ⟨λr hr=>hi r hr,pw.2.1⟩,λa ha b hb =>?_⟩
  rcases wg.mp hb with rfl | hb
  .exact lo a ha
  .exact pw.2.2 a ha b hb
 .show r.1<=t.mask
  rcases z6l.mp hr with rfl | hr
  .exact hle
  .exact w.le r hr
 .show za1 t.mask _ r.2.1 r.1
  rcases z6l.mp hr with rfl | hr
  .exact⟨n,hj,λm hm=>by
    obtain⟨r',hr',e⟩:=hocc m hm;exact⟨r',z6l.mpr (.inr hr'),e⟩⟩
  .exact(w.reach r hr).mono λa ⟨r',hr',e⟩=>⟨r',z6l.mpr (.inr hr'),e⟩
theorem j_le {mask:Nat}:∀(n:Nat) {p:Probe},p.j+p.more<=mask->(advs mask p n).j+(advs mask p n).more<=mask
 | 0,_,h=>h
 | n+1,p,h=>by
  have ih:=j_le n h;show (adv _ _).j+(adv _ _).more<=mask;unfold adv
  split
  .lia
  .have hl:(leap _ (advs mask p n).i (advs mask p n).perturb).1<=mask:=Nat.le_of_lt_succ (jb _ (Nat.succ_pos _));unfold runEnd
   split <;> lia
def zad (mask:Nat)(h:Int)(n:Nat):(advs mask (st0 mask h) n).j<=mask:=by
 have:(st0 mask h).j+(st0 mask h).more<=mask:=by
  show bits h % (mask+1)+(runEnd mask _ - bits h % (mask+1))<=mask;have hl:bits h % (mask+1)<=mask:=Nat.le_of_lt_succ (jb _ (Nat.succ_pos _));generalize bits h % (mask+1)=x at hl;unfold runEnd
  split <;> lia
 have:=j_le n this;lia
variable {α:Type}
def rp (mask i q:Nat):Probe:={ j:=i,more:=runEnd mask i - i,i:=i,perturb:=q,dummy:=none }
def zh3 (mask:Nat)(h:Int):st0 mask h=rp mask (bits h % (mask+1)) (bits h):=rfl
def zav (mask i q:Nat):advs mask (rp mask i q) (runEnd mask i - i+1)=rp mask (leap mask i q).1 (leap mask i q).2:=z3i _ _
def zcz (mask i q:Nat){m:Nat}(h:m<=runEnd mask i - i):(advs mask (rp mask i q) m).j=i+m:=by rw[z6E _ _ m h];rfl
def zhg (mask i:Nat):i<=runEnd mask i:=by unfold runEnd;split <;> lia
theorem z7o {mask:Nat}{owner:Array (Option Nat)}:∀(fuel i q:Nat),(∃c,c<fuel/\(owner.getD (lp mask i q c).1 (some 0)).isNone=true)->
  ∃s,layClean.free mask owner fuel i q=some (advs mask (rp mask i q) s).j/\(owner.getD (advs mask (rp mask i q) s).j (some 0)).isNone=true/\∀m,m<s->(owner.getD (advs mask (rp mask i q) m).j (some 0)).isNone=false
 | 0,i,q,⟨c,hc,_⟩=>absurd hc (uV _)
 | fuel+1,i,q,⟨c,hc,he⟩=>by
  rw[layClean.free];have hge:=zhg mask i
  cases hf:(List.range (runEnd mask i+1 - i)).find? λk=>(owner.getD (i+k) (some 0)).isNone with
  | some k=>
   obtain⟨h1,h2,h3⟩:=List.find?_range_eq_some.mp hf;have hk:k<runEnd mask i+1 - i:=by simpa using h2
   dsimp only;refine⟨k,by rw[zcz mask i q (by lia)],by rw[zcz mask i q (by lia)];exact h1,λm hm =>?_⟩;rw[zcz mask i q (by lia)];have:=h3 m hm;simpa using this
  | none=>
   have hn:=List.find?_range_eq_none.mp hf;have all:∀k,k<=runEnd mask i - i->(owner.getD (i+k) (some 0)).isNone=false:=λk hk=>by
    have:=hn k (by lia);simpa using this
   have hc0:c≠0:=λz=>by
    subst z;have:=all 0 (vf _);rw[Nat.add_zero] at this;have he':(owner.getD i (some 0)).isNone=true:=he;rw[this] at he'
    cases he'
   obtain⟨c',rfl⟩:∃c',c=c'+1:=⟨c - 1,by lia⟩
   rw[zbg] at he;obtain⟨s,h1,h2,h3⟩:=z7o fuel _ _ ⟨c',by lia,he⟩;rw[<- zav, <- z2m] at h1 h2;dsimp only;refine⟨runEnd mask i - i+1+s,h1,h2,λm hm =>?_⟩
   rcases wJ m (runEnd mask i - i+1) with z | z
   .rw[zcz mask i q (by lia)];exact all m (by lia)
   .obtain⟨d,rfl⟩:∃d,m=runEnd mask i - i+1+d:=⟨m - (runEnd mask i - i+1),by lia⟩
    rw[z2m,zav];exact h3 d (by lia)
structure Own (mask:Nat)(hs:List Int)(owner:Array (Option Nat))(pos:List Nat):Prop where
 size:owner.size=mask+1
 len:pos.length=hs.length
 le:∀j∈pos,j<=mask
 nd:pos.Nodup
 own:∀j,j<=mask->∀k,owner.getD j (some 0)=some k↔pos[k]? = some j
 reach:∀(k:Nat) (h:Int) (j:Nat),hs[k]? = some h->pos[k]? = some j->za1 mask (· ∈ pos) h j
def Own.free {mask:Nat}{hs:List Int}{owner:Array (Option Nat)}{pos:List Nat}(o:Own mask hs owner pos){j:Nat}(hj:j<=mask):(owner.getD j (some 0)).isNone=true↔j ∉ pos:=by
 constructor
 .intro h z;obtain⟨k,hk,e⟩:=wX.mp z;have:=(o.own j hj k).mpr (by simp_all)
  simp_all
 .intro h
  cases e:owner.getD j _ with
  | none=>rfl
  | some k=>exact absurd (wD ((o.own j hj k).mp e)) h
def Own.add {mask k:Nat}{hs:List Int}{owner:Array (Option Nat)}{pos:List Nat}(o:Own mask hs owner pos)(hm:mask+1=2 ^ k)(hroom:hs.length<=mask)(h:Int):
  ∃j,layClean.free mask owner (turns mask) (bits h % (mask+1)) (bits h)=some j/\Own mask (hs++[h]) (owner.setIfInBounds j (some hs.length)) (pos++[j]):=by
 have hex:∃e,e<=mask/\e ∉ pos:=by
  refine vO λhno =>?_;have:=z2B (l:=List.range (mask+1)) (l':=pos) List.nodup_range λx hx=>vO λz=>hno ⟨x,by have:=vU.mp hx;lia,z⟩;rw[v9,o.len] at this;lia
 obtain⟨e,he,hne⟩:=hex;have hq:bits h<2 ^ 64:=(z3F { mask:=mask,place := #[],dummies := #[],finger:=0,led:=true,moves:=0,plain:=true } h).1;obtain⟨c,c1,c2,c3⟩:=zed (i:=bits h % (mask+1)) (q:=bits h) hm hq he;obtain⟨s,h1,h2,h3⟩:=z7o (mask:=mask) (owner:=owner) (turns mask) (bits h % (mask+1)) (bits h) ⟨c,by unfold turns;lia,by rw[c3];exact(o.free he).mpr hne⟩;rw[<- zh3] at h1 h2 h3;have hjl:=zad mask h s;refine⟨_,h1,?_⟩;generalize hj:(advs mask (st0 mask h) s).j=j at*;have hjn:j ∉ pos:=(o.free hjl).mp h2;refine⟨by rw[Array.size_setIfInBounds];exact o.size,by rw[wL,wL,o.len];rfl,λx hx =>?_,?_,λx hx n =>?_,λn h' j' e1 e2 =>?_⟩
 .rcases wZ.mp hx with z | z
  .exact o.le x z
  .rw[wt.mp z];exact hjl
 .rw[List.nodup_append];exact⟨o.nd,by simp,λa ha b hb z=>hjn (by rw[wt.mp hb] at z;exact z ▸ ha)⟩
 .have hxs:x<owner.size:=by rw[o.size];lia
  have e0:(owner.setIfInBounds j (some hs.length)).getD x (some 0)=if j=x then some hs.length else owner.getD x (some 0):=by
   have hjs:j<owner.size:=by rw[o.size];lia
   rw[uD,uD,Array.getElem?_setIfInBounds]
   by_cases hxj:j=x
   .subst hxj;rw[if_pos rfl,if_pos hjs,if_pos rfl];rfl
   .rw[if_neg hxj,if_neg hxj]
  rw[e0]
  by_cases hxj:j=x
  .subst hxj;rw[if_pos rfl]
   constructor
   .intro z;have:hs.length=n:=w5 z;rw[<- this, <- o.len,wM (wp _)];simp
   .intro z
    rcases wJ n pos.length with hl | hl
    .rw[wC hl] at z;exact absurd (wD z) hjn
    .rw[wM hl] at z;have hn0:n - pos.length=0:=by
      rcases Nat.eq_zero_or_pos (n - pos.length) with w | w
      .exact w
      .rw[uq (by show 1<=_;lia)] at z;cases z
     rw[<- o.len]
     congr 1
     lia
  .rw[if_neg hxj,o.own x hx n]
   constructor
   .intro z;obtain⟨hn,_⟩:=wu.mp z;rw[wC hn];exact z
   .intro z
    rcases wJ n pos.length with hl | hl
    .rw[wC hl] at z;exact z
    .rw[wM hl] at z;exact absurd (wt.mp (wD z)).symm hxj
 .rcases wJ n pos.length with hl | hl
  .rw[wC hl] at e2;rw[wC (by rw[<- o.len];exact hl)] at e1;exact(o.reach n h' j' e1 e2).mono λa ha=>jv _ ha
  .rw[wM hl] at e2;rw[wM (by rw[<- o.len];exact hl)] at e1;have z1:=wt.mp (wD e1);have z2:=wt.mp (wD e2);subst z1 z2;refine⟨s,hj,λm hm=>jv _ ?_⟩;have:=h3 m hm;refine vO λz =>?_;rw[(o.free (zad mask h' m)).mpr z] at this
   cases this
theorem z58 {mask k:Nat}(hm:mask+1=2 ^ k):∀(hs done:List Int) (owner:Array (Option Nat)) (pos:List Nat),Own mask done owner pos->done.length+hs.length<=mask+1->
  ∃owner' pos',(hs.foldl (init:=some (owner,done.length)) λacc h=>do
   let (owner,k) <- acc
   let j <- layClean.free mask owner (turns mask) (bits h % (mask+1)) (bits h)
   pure (owner.setIfInBounds j (some k),k+1))=some (owner',done.length+hs.length)/\Own mask (done++hs) owner' pos'
 | [],done,owner,pos,o,_=>⟨owner,pos,rfl,by simp_all⟩
 | h::hs,done,owner,pos,o,hl=>by
  simp[wO] at hl;obtain⟨j,e,o'⟩:=o.add hm (by lia) h;obtain⟨ow,ps,e2,o2⟩:=z58 hm hs _ _ _ o' (by simp;lia);refine⟨ow,ps,?_,by simpa using o2⟩;rw[List.foldl_cons];have:(do
   let (owner,k) <- some (owner,done.length)
   let j <- layClean.free mask owner (turns mask) (bits h % (mask+1)) (bits h)
   pure (owner.setIfInBounds j (some k),k+1))=some (owner.setIfInBounds j (some done.length),(done++[h]).length):=by
   simp[e]
  rw[this,e2];simp;lia
def own0 (mask:Nat):Own mask [] (Array.replicate (mask+1) none) []:=by
 refine⟨by simp,rfl,by simp,by simp,λj hj k =>?_,λk h j e _=>by simp at e⟩;have:(Array.replicate (mask+1) none).getD j (some 0)=none:=by simp[Array.getD,show j<mask+1 by lia]
 rw[this];simp
def zgc {mask k finger moves:Nat}{led plain:Bool}(hm:mask+1=2 ^ k)(hk:3<=k){es:Array (Int × α)}(hl:es.size<=mask+1):
  ∃t' order L',laid mask finger moves led plain (es.map (·.1))=some (t',order)/\t'.mask=mask/\t'.finger=finger/\t'.moves=moves/\t'.led=led/\t'.plain=plain/\(order.filterMap (es[·]?)).size=es.size/\TabW t' (order.filterMap (es[·]?)) L'/\(order.filterMap (es[·]?)).toList.Perm es.toList:=by
 obtain⟨owner,pos,e,o⟩:=z58 hm (es.map (·.1)).toList [] _ _ (own0 mask) (by simpa using hl);simp only[List.nil_append,v4,Nat.zero_add] at e o;have hlay:layClean mask (es.map (·.1))=some owner:=by
  unfold layClean;rw[<- Array.foldl_toList,e]
  rfl
 have hn:(es.map (·.1)).toList.length=es.size:=by simp
 have hpl:pos.length=es.size:=by rw[o.len,hn]
 generalize hlive:((List.range (mask+1)).filterMap λj=>(owner.getD j none).map (j, ·))=live;have gd:∀j,j<=mask->owner.getD j none=owner.getD j (some 0):=λj hj=>by
  have:j<owner.size:=by rw[o.size];lia
  simp[Array.getD,this]
 have mem:∀j n,(j,n)∈live↔pos[n]? = some j:=λj n=>by
  rw[<- hlive,ux]
  constructor
  .rintro⟨x,hx,e⟩;have hx':x<=mask:=by have:=vU.mp hx;lia
   rw[gd x hx'] at e;obtain⟨y,hy,e2⟩:=vZ.mp e
   cases e2
   exact(o.own j hx' n).mp hy
  .intro h;have hj:j<=mask:=o.le j (wD h);refine⟨j,vU.mpr (by lia),?_⟩;rw[gd j hj,(o.own j hj n).mpr h]
   rfl
 have sorted:live.Pairwise λa b=>a.1<b.1:=by
  rw[<- hlive];have h1:(List.range (mask+1)).Pairwise (· < ·):=List.pairwise_lt_range;generalize List.range (mask+1)=rg at h1
  induction rg with
  | nil=>simp
  | cons x rg ih=>
   obtain⟨p1,p2⟩:=wQ.mp h1;rw[uh]
   cases hx:(owner.getD x none).map (x, ·) with
   | none=>exact ih p2
   | some y=>
    obtain⟨z,_,rfl⟩:=vZ.mp hx;refine wQ.mpr ⟨λb hb =>?_,ih p2⟩;obtain⟨x',hx',e'⟩:=ux.mp hb;obtain⟨z',_,rfl⟩:=vZ.mp e';exact p1 x' hx'
 have nd2:(live.map (·.2)).Nodup:=by
  rw[List.nodup_iff_pairwise_ne,wN];refine List.Pairwise.imp_of_mem ?_ sorted;intro a b ha hb hab z;have h1:=(mem a.1 a.2).mp ha;have h2:=(mem b.1 b.2).mp hb;rw[<- z,h1] at h2;have:a.1=b.1:=w5 h2;lia
 have perm:(live.map (·.2)).Perm (List.range es.size):=by
  refine z3L nd2 List.nodup_range λn =>?_;rw[vU]
  constructor
  .intro h;obtain⟨a,ha,rfl⟩:=wj.mp h;obtain⟨hlt,_⟩:=wu.mp ((mem a.1 a.2).mp ha);lia
  .intro h;refine wj.mpr ⟨(pos[n]'(by lia),n),(mem _ _).mpr (wq (by lia)),rfl⟩
 have self:(List.range es.size).filterMap (es[·]?)=es.toList:=by
  have:∀(l:List (Int × α)),(List.range l.length).filterMap (l[·]?)=l:=λl=>by
   have e1:(List.range l.length).map (l[·]?)=l.map some:=by
    apply List.ext_getElem
    .simp
    .intro i h1 h2;simp at h1;simp[h1]
   have e2:(List.range l.length).filterMap (l[·]?)=((List.range l.length).map (l[·]?)).filterMap id:=by rw[List.filterMap_map];rfl
   rw[e2,e1,List.filterMap_map];simp
  have h:=this es.toList;simpa using h
 have pe:(((live.map (·.2)).toArray).filterMap (es[·]?)).toList.Perm es.toList:=by
  have:=perm.filterMap (es[·]?);rw[self] at this;simpa using this
 refine⟨{ mask,place:=(live.map (·.1)).toArray,dummies := #[],finger,led,moves,plain },(live.map (·.2)).toArray,live.filterMap λa=>(es[a.2]?).map λx=>(a.1,x),?_,rfl,rfl,rfl,rfl,rfl,?_,?_,pe⟩
 .unfold laid;rw[hlay];simp only[Option.bind_eq_bind,Option.bind_some];rw[hlive]
  rfl
 .have:=pe.length_eq;simpa using this
 ·-- each live row has an element
  have has:∀a∈live,∃x,es[a.2]? = some x:=λa ha=>by
   obtain⟨hlt,_⟩:=wu.mp ((mem a.1 a.2).mp ha);exact⟨es[a.2]'(by lia),um (by lia)⟩
  have e1:∀(l:List (Nat × Nat)),(∀a∈l,∃x,es[a.2]? = some x)->(l.filterMap λa=>(es[a.2]?).map λx=>(a.1,x)).map (·.1)=l.map (·.1)/\(l.filterMap λa=>(es[a.2]?).map λx=>(a.1,x)).map (·.2)=(l.map (·.2)).filterMap (es[·]?):=λl=>by
   induction l with
   | nil=>intro _;exact⟨rfl,rfl⟩
   | cons a l ih=>
    intro h;obtain⟨x,hx⟩:=h a (by simp);obtain⟨i1,i2⟩:=ih λb hb=>h b (by simp[hb]);refine⟨?_,?_⟩
    .rw[uh,hx];simp only[Option.map_some,wE];rw[i1]
    .rw[uh,hx];simp only[Option.map_some,wE,uh,hx];rw[i2]
  have memL:∀r:Rw α,r∈(live.filterMap λa=>(es[a.2]?).map λx=>(a.1,x))->∃n,pos[n]? = some r.1/\es[n]? = some r.2:=λr hr=>by
   obtain⟨a,ha,e⟩:=ux.mp hr;obtain⟨x,hx,rfl⟩:=vZ.mp e;exact⟨a.2,(mem a.1 a.2).mp ha,hx⟩
  have occ:∀j,j∈pos->∃r'∈(live.filterMap λa=>(es[a.2]?).map λx=>(a.1,x)),r'.1=j:=λj hj=>by
   obtain⟨n,hn',e⟩:=wX.mp hj;have hlv:(j,n)∈live:=(mem j n).mpr (by rw[wq hn',e]);obtain⟨x,hx⟩:=has _ hlv;exact⟨(j,x),ux.mpr ⟨(j,n),hlv,by rw[show es[(j,n).2]? = some x from hx];rfl⟩,rfl⟩
  refine⟨by rw[(e1 live has).1],?_,?_,λr hr =>?_,rfl,⟨k,hk,hm⟩,λr hr =>?_⟩
  .rw[(e1 live has).2];apply Array.ext';simp
  .have:((live.filterMap λa=>(es[a.2]?).map λx=>(a.1,x)).map (·.1)).Pairwise (· < ·):=by
    rw[(e1 live has).1,wN];exact sorted
   rw[wN] at this;exact this
  .obtain⟨n,h1,_⟩:=memL r hr;exact o.le r.1 (wD h1)
  .obtain⟨n,h1,h2⟩:=memL r hr;exact(o.reach n r.2.1 r.1 (by simp[h2]) h1).mono λa ha=>occ a ha
open PyProof.Rows
section
variable {prog:Program}{w:World}{A:Around}{E:WvP}{s:Shared}
abbrev TK (prog:Program)(w:World)(h:Heap)(k:List Int)(a:Addr):Prop:=IsTupleKey (intKind prog w) h k a
def z86 {n:Nat}{v:Value}(h:carriedByValue v=true):ofAClassStatement n v=pure false:=by
 cases v with
 | ref a=>simp[carriedByValue] at h
 | _=>first | rfl | (unfold ofAClassStatement;rfl) | rfl
def z1Z {ks:List Int}{a:Addr}{Q:Bool->Shared->Prop}(hk:TK prog w s.heap ks a)(h:Q false s):wpAny (model prog w) A (ofAClassStatement 8 (.ref a)) Q E s:=by
 have hT:=hk.typeIs;obtain⟨o,z03,n,ho,_,hd,hi⟩:=hk;unfold ofAClassStatement;refine wc (jG hT ?_);refine wc (wf ?_);refine wc (vP ho hd ?_);refine wc ?_;rw[<- Array.forIn_toList];refine u9 _ (λrest r s'=>r.1=none/\s'=s/\∀v∈rest,carriedByValue v=true) _ ?_ ?_ _ _ ⟨rfl,rfl,hi.byValue⟩
 .rintro v rest r s' ⟨hr,rfl,hall⟩;rw[z86 (hall v wv)];exact wf ⟨rfl,rfl,λu hu'=>hall u (wm _ hu')⟩
 .rintro⟨r1,r2⟩ s' ⟨hr,rfl,_⟩;subst hr;exact wf h
def z9R {n:Nat}{k:Int}{v:Value}(h:(intKind prog w).is k v=true):hashByValue n v=pure true:=by
 obtain⟨t,rfl⟩:=Value.isInt_shape h
 cases n <;> rfl
def z3B {ks:List Int}{a:Addr}{Q:Bool->Shared->Prop}(hk:TK prog w s.heap ks a)(h:Q true s):wpAny (model prog w) A (hashByValue 8 (.ref a)) Q E s:=by
 have hT:=hk.typeIs;obtain⟨o,z03,n,ho,_,hd,hi⟩:=hk;refine wc (wpAny_specialOf hT F.slot_tuple_hash.lookup ?_);refine wc (vP ho hd ?_);refine wc ?_;rw[<- Array.forIn_toList];refine u9 _ (λrest r s'=>r.1=none/\s'=s/\∃l,ItemsAre (intKind _ w) l rest) _ ?_ ?_ _ _ ⟨rfl,rfl,ks,hi⟩
 .rintro v rest r s' ⟨hr,rfl,l,hl⟩
  cases hl with
  | cons h1 h2=>
   rw[z9R h1];exact wf ⟨rfl,rfl,_,h2⟩
 .rintro⟨r1,r2⟩ s' ⟨hr,rfl,_⟩;subst hr;exact wf h
def z9f {ks:List Int}{a:Addr}{stored:List Value}{Q:Bool->Shared->Prop}(hk:TK prog w s.heap ks a)(hst:∀y∈stored,∃b k,y = .ref b/\TK prog w s.heap k b)(h:Q false s):wpAny (model prog w) A (searchCouldBeSeen (.ref a) stored) Q E s:=by
 unfold searchCouldBeSeen;refine wc ?_;refine u9 _ (λrest r s'=>r.1=none/\s'=s/\∀y∈rest,∃b k,y = .ref b/\TK prog w s.heap k b) _ ?_ ?_ _ _ ⟨rfl,rfl,hst⟩
 .rintro y rest r s' ⟨hr,rfl,hall⟩;obtain⟨b,k,rfl,hb⟩:=hall y wv;dsimp only
  split
  .exact wf ⟨rfl,rfl,λu hu=>hall u (wm _ hu)⟩
  .refine wc (wpAny_eqIsQuiet_tuple hk ?_);simp only[Bool.not_true,w9,u3];refine wc (wpAny_eqIsQuiet_tuple hb ?_);simp only[Bool.not_true,w9,u3];refine wc (z1Z hk ?_);simp only[w9,u3];refine wc (z1Z hb ?_);simp only[w9,u3];exact wf ⟨rfl,rfl,λu hu=>hall u (wm _ hu)⟩
 .rintro⟨r1,r2⟩ s' ⟨hr,rfl,_⟩;simp only at hr;subst hr;exact wf h
structure z7I (prog:Program)(w:World)(h:Heap)(a:Addr)(L:List (Rw Value))(o:Obj)(es:Array (Int × Value))(ep:Nat)(t:SetTable):Prop where
 get:h.get? a=some o
 ex:o.ExactSet
 data:o.data = .set es ep t
 tab:TabW t es L
 room:L.length<=t.mask
 small:t.mask<=8191
 plain:t.plain=true
 led:t.led = !w.params.followText "set-order"
 key:∀r∈L,∃b k,r.2.2 = .ref b/\TK prog w h k b/\r.2.1=tupleKeyHash (intKind prog w) k
theorem z7I.fits {h:Heap}{a:Addr}{L:List (Rw Value)}{o:Obj}{es:Array (Int × Value)}{ep:Nat}{t:SetTable}(x:z7I prog w h a L o es ep t):t.fits es.size=true:=by
 unfold SetTable.fits;rw[x.tab.size.1,x.tab.size.2.1,x.tab.size.2.2];simp[x.room]
def z7I.odd {h:Heap}{a:Addr}{L:List (Rw Value)}{o:Obj}{es:Array (Int × Value)}{ep:Nat}{t:SetTable}(x:z7I prog w h a L o es ep t):t.gaveWay=false:=by
 unfold SetTable.gaveWay;obtain⟨k,hk,e⟩:=x.tab.pow
 grind
def zee {t:SetTable}{es:Array (Int × Value)}{L:List (Rw Value)}(w:TabW t es L){i j:Nat}(h:t.place[i]? = some j):∃r,L[i]? = some r/\r.1=j/\es[i]? = some r.2:=by
 have h':(L.map (·.1))[i]? = some j:=by rw[w.place] at h;simpa using h
 rw[wG] at h';obtain⟨r,hr,e⟩:=vZ.mp h';refine⟨r,hr,e,?_⟩;rw[w.es];simp[hr]
def z6F {a b:Addr}{kx:List Int}{L:List (Rw Value)}{o:Obj}{es:Array (Int × Value)}{ep:Nat}{t:SetTable}(x:z7I prog w s.heap a L o es ep t)(hu:A.units<cLine)(hk:TK prog w s.heap kx b){N:Nat}
  (hN:¬ ∃r∈L,r.1=(advs t.mask (st0 t.mask (tupleKeyHash (intKind prog w) kx)) N).j) {Q:SetFound->Shared->Prop}
  (hthere:(∃r∈L,∃c,r.2.2 = .ref c/\TK prog w s.heap kx c)->Q (.there none) s)
  (hfree:∀n,(∀m,m<n->∃r∈L,r.1=(advs t.mask (st0 t.mask (tupleKeyHash (intKind prog w) kx)) m).j/\∀c,r.2.2 = .ref c->¬ TK prog w s.heap kx c)->(¬ ∃r∈L,r.1=(advs t.mask (st0 t.mask (tupleKeyHash (intKind prog w) kx)) n).j)->Q (.free (advs t.mask (st0 t.mask (tupleKeyHash (intKind prog w) kx)) n).j false) s):
  ∀(fuel n:Nat) (stand:Option Probe),stand.getD (t.probeStart (tupleKeyHash (intKind prog w) kx))=advs t.mask (st0 t.mask (tupleKeyHash (intKind prog w) kx)) n->N<fuel+n->
   (∀m,m<n->∃r∈L,r.1=(advs t.mask (st0 t.mask (tupleKeyHash (intKind prog w) kx)) m).j/\∀c,r.2.2 = .ref c->¬ TK prog w s.heap kx c)->
   wpAny (model prog w) A (setSearchFrom a (.ref b) (tupleKeyHash (intKind prog w) kx) true fuel stand) Q E s:=by
 intro fuel
 induction fuel with
 | zero=>
  intro n stand hs hl hocc;obtain⟨r,hr,e,_⟩:=hocc N (by lia);exact absurd ⟨r,hr,e⟩ hN
 | succ fuel ih=>
  intro n stand hs hl hocc;generalize hh:tupleKeyHash (intKind prog w) kx=hx at*;unfold setSearchFrom;refine wc (vD x.get x.data x.fits ?_);dsimp only;rw[x.odd];simp only[w9,u3]
  try refine wc (wf ?_)
  rw[hs];obtain⟨f,hf⟩:∃f:Nat->Int,f=λi=>(es[i]?.map (·.1)).getD 0:=⟨_,rfl⟩
  show wpAny (model prog w) A (match t.probe (λi=>(es[i]?.map (·.1)).getD 0) hx (advs t.mask (st0 t.mask hx) n) with
   | some met=>_
   | _=>_) Q E s
  rw[<- hf];have other:∀r∈L,r.2.1≠hx->∀c,r.2.2 = .ref c->¬ TK prog w s.heap kx c:=λr hr hne c e z=>by
   obtain⟨b',k,e',hk',eh⟩:=x.key r hr;rw[e'] at e
   cases e
   rw[hk'.inj z] at eh;exact hne (eh.trans hh)
  obtain⟨d,h1,h2⟩:=x.tab.probe x.room f hx n;have grown:∀m,m<n+d->∃r∈L,r.1=(advs t.mask (st0 t.mask hx) m).j/\∀c,r.2.2 = .ref c->¬ TK prog w s.heap kx c:=λm hm=>by
   rcases wJ m n with z | z
   .exact hocc m z
   .obtain⟨i,hi,hne⟩:=h1 m z hm;obtain⟨r,hr,e1,e2⟩:=zee x.tab hi;have hrL:r∈L:=wD hr;refine⟨r,hrL,e1,other r hrL ?_⟩;rw[hf] at hne;simpa[e2] using hne
  rcases h2 with ⟨hemp,e⟩ | ⟨i,hi,hhash,e⟩
  .rw[e];dsimp only;exact wf (hfree (n+d) grown <| by
    rintro⟨r,hr,e'⟩;obtain⟨i,hi⟩:=x.tab.occ.mpr ⟨r,hr,e'⟩;exact hemp i hi)
  .rw[e];dsimp only;obtain⟨r,hr,e1,e2⟩:=zee x.tab hi;have hrL:r∈L:=wD hr;obtain⟨c,k,ec,hc,ehash⟩:=x.key r hrL;have rest:wpAny (model prog w) A (match es[i]? with
             | some (_,y)=>do
              let equal <- holding [y] (eqBool y (Value.ref b))
              let __x <- setState a
              if (true && equal)=true then pure (SetFound.there none)
               else
                match __x.2.snd.sameMemory t.moves t.mask with
                | some same=>
                 match if same=true then __x.2.snd.slot (advs t.mask (st0 t.mask hx) (n+d)).j else Slot.empty with
                 | Slot.live i'=>
                  match __x.fst[i']? with
                  | some (_,y')=>do
                   let __do_lift <- isSame y' y
                   let still <- pure (if __do_lift=true then some i' else none)
                   match still with
                    | none=>do
                     rule "set.search.anew"
                     setSearchFrom a (Value.ref b) hx true fuel none
                    | some i'=>if equal=true then pure (SetFound.there (some i')) else setSearchFrom a (Value.ref b) hx true fuel (some (advs t.mask (st0 t.mask hx) (n+d+1)))
                  | none=>do
                   let still <- pure none
                   match still with
                    | none=>do
                     rule "set.search.anew"
                     setSearchFrom a (Value.ref b) hx true fuel none
                    | some i'=>if equal=true then pure (SetFound.there (some i')) else setSearchFrom a (Value.ref b) hx true fuel (some (advs t.mask (st0 t.mask hx) (n+d+1)))
                 | _=>do
                  let still <- pure none
                  match still with
                   | none=>do
                    rule "set.search.anew"
                    setSearchFrom a (Value.ref b) hx true fuel none
                   | some i'=>if equal=true then pure (SetFound.there (some i')) else setSearchFrom a (Value.ref b) hx true fuel (some (advs t.mask (st0 t.mask hx) (n+d+1)))
                | _=>unsupported "set.changed-during-lookup:is-the-new-block-at-the-old-address"
             | _=>unsupported "internal:set-entry") Q E s:=by
    rw[e2, <- Prod.eta r.2];dsimp only;rw[ec];refine wc (vR (wpAny_eqBool_tuple hu hc hk ?_));refine wc (vD x.get x.data x.fits ?_);dsimp only
    by_cases hkk:k=kx
    .rw[vq hkk];simp only[Bool.and_self,jw];exact wf (hthere ⟨r,hrL,c,ec,hkk ▸ hc⟩)
    .rw[ve hkk];simp only[Bool.and_false,w9,u3];have hsm:t.sameMemory t.moves t.mask=some true:=by unfold SetTable.sameMemory;simp
     rw[hsm];dsimp only;rw[if_pos rfl,z6M x.tab.riseP hi];dsimp only;rw[e2, <- Prod.eta r.2];dsimp only;rw[ec];refine wc (wpAny_isSame_ref_self ?_);refine wc (wf ?_);simp only[jw];refine ih (n+d+1) _ rfl (by lia) λm hm =>?_
     rcases wJ m (n+d) with z | z
     .exact grown m z
     .have:m=n+d:=by lia
      subst this;exact⟨r,hrL,e1,λc' e' z=>by
       rw[ec] at e'
       cases e'
       exact hkk (hc.inj z)⟩
   by_cases hled:t.led=true
   .rw[hled];simp only[Bool.not_true,w9,u3];exact rest
   .have hled':t.led=false:=by simpa using hled
    rw[hled'];simp only[Bool.not_false,jw];refine wc (z9f hk (λy hy =>?_) ?_)
    .obtain⟨p,hp,rfl⟩:=wj.mp hy;have hp':p∈es:=by
      have:=Array.mem_toList_iff.mp hp;exact(Array.mem_filter.mp this).1
     have hp2:p∈L.map (·.2):=by rw[x.tab.es] at hp';simpa using hp'
     obtain⟨r',hr',rfl⟩:=wj.mp hp2;obtain⟨b',k',e',hk',_⟩:=x.key r' hr';exact⟨b',k',e',hk'⟩
    .simp only[w9,u3];exact rest
end
theorem z4o (n:Nat):∀(fuel j:Nat),n<2 ^ (j+fuel)->∃k,sizeAbove.go n fuel (2 ^ j)=2 ^ k/\j<=k/\n<2 ^ k/\(k=j\/2 ^ k<=2*n)
 | 0,j,h=>⟨j,rfl,wp _,h,.inl rfl⟩
 | fuel+1,j,h=>by
  rw[sizeAbove.go]
  by_cases hl:2 ^ j<=n
  .rw[if_pos hl];obtain⟨k,h1,h2,h3,h4⟩:=z4o n _ _ (by rw[show j+1+fuel=j+(fuel+1) by lia];exact h);refine⟨k,h1,by lia,h3,.inr ?_⟩
   rcases h4 with h4 | h4
   .grind
   .exact h4
  .rw[if_neg hl];exact⟨j,rfl,wp _,by lia,.inl rfl⟩
def z5q {n:Nat}(h:n<2 ^ 60):∃k,sizeAbove n=2 ^ k/\3<=k/\n<2 ^ k/\(k=3\/2 ^ k<=2*n):=z4o n 64 3 (wB h (by decide))
section
variable {prog:Program}{w:World}{A:Around}{E:WvP}{s:Shared}
def TK.stay {h h':Heap}{k:List Int}{a b:Addr}{o:Obj}{es ep t}(x:TK prog w h k b)(ho:h.get? a=some o)(hd:o.data = .set es ep t)(hs:Heap.SameBut a h h'):TK prog w h' k b:=by
 obtain⟨o',z03,n,ho',hc,hd',hi⟩:=x;have hne:b≠a:=by
  grind
 exact⟨o',z03,n,(hs.2 b hne).trans ho',hc,hd',hi⟩
structure zc7 (prog:Program)(w:World)(h:Heap)(a:Addr)(L:List (Rw Value)):Prop where
 ex:∃o es ep t,z7I prog w h a L o es ep t/\L.length*5<t.mask*3
def z6K {h:Heap}{a:Addr}{o:Obj}{es:Array (Int × Value)}{ep:Nat}{t:SetTable}(ho:h.get? a=some o)(hd:o.data = .set es ep t)(es':Array (Int × Value))(t':SetTable):
  (h.update a (Obj.putSet es' t')).get? a=some { o with data :=.set es' (ep+1) t' }:=by
 have:=vp (Obj.putSet es' t') ho (by rw[putSet_of es' t' hd];rfl);rw[putSet_of es' t' hd] at this;exact this
def z4v {a b:Addr}{kx:List Int}{L:List (Rw Value)}(x:zc7 prog w s.heap a L)(hu:A.units<cLine)(hk:TK prog w s.heap kx b)(hlen:L.length<2047){Q:Bool->Shared->Prop}
  (hthere:(∃r∈L,∃c,r.2.2 = .ref c/\TK prog w s.heap kx c)->∀tk,Q false { s with toks:=tk })
  (hnew:(¬ ∃r∈L,∃c,r.2.2 = .ref c/\TK prog w s.heap kx c)->∀h' tk L',Heap.SameBut a s.heap h'->zc7 prog w h' a L'->(L'.map (·.2)).Perm ((tupleKeyHash (intKind prog w) kx,.ref b)::L.map (·.2))->Q true { s with heap:=h',toks:=tk }):
  wpAny (model prog w) A (setAdd a (.ref b)) Q E s:=by
 obtain⟨o,es,ep,t,y,hfull⟩:=x.ex;unfold setAdd;refine vR (wc (wpAny_pyHash_tuple hu hk ?_));generalize hs1:({ s with toks:=s.toks+(kx.length+1) }:Shared)=s1;have y1:z7I prog w s1.heap a L o es ep t:=by rw[<- hs1];exact y
 have hk1:TK prog w s1.heap kx b:=by rw[<- hs1];exact hk
 unfold setAddHashed;refine vR ?_;show wpAny _ _ (setAddHashedIn a (.ref b) _ (99999+1)) _ _ _;unfold setAddHashedIn;refine wc (vD y1.get y1.data y1.fits ?_);dsimp only;have hbs:byScan (Value.ref b) es=false:=by unfold byScan;simp[Value.scannable]
 rw[hbs];simp only[w9,u3];obtain⟨N,hN,hNe⟩:=y1.tab.soon y1.room (tupleKeyHash (intKind prog w) kx);have hmask:t.mask<=8191:=y1.small;refine wc ?_;unfold setSearch;refine z6F (s:=s1) y1 hu hk1 hNe ?_ ?_ 100000 0 none rfl (by unfold turns at hN;lia) (λm hm=>absurd hm (uV _))
 .intro hex;dsimp only;refine wf ?_;rw[<- hs1] at hex ⊢;exact hthere hex _
 .intro n hocc hemp;dsimp only;refine wc (vD y1.get y1.data y1.fits ?_);dsimp only;have habs:¬ ∃r∈L,∃c,r.2.2 = .ref c/\TK prog w s1.heap kx c:=by
   rintro⟨r,hr,c,ec,hc⟩;obtain⟨b',k',e',hk',eh⟩:=y1.key r hr;rw[ec] at e'
   cases e'
   have ek:=hk'.inj hc;subst ek;obtain⟨m,e1,e2⟩:=y1.tab.reach r hr;rw[eh] at e1 e2
   rcases uj m n with z | z | z
   .obtain⟨r',hr',e3,e4⟩:=hocc m z;have:r'=r:=by
     have nd:=y1.tab.nodup;have e5:r'.1=r.1:=e3.trans e1;obtain⟨i,hi,ei⟩:=wX.mp hr';obtain⟨j,hj,ej⟩:=wX.mp hr;have hij:i=j:=by
      rcases uj i j with q | q | q
      .have:=vA.mp y1.tab.rise i j hi hj q;rw[ei,ej] at this;lia
      .exact q
      .have:=vA.mp y1.tab.rise j i hj hi q;rw[ei,ej] at this;lia
     subst hij;exact ei.symm.trans ej
    subst this;exact e4 c ec hc
   .subst z;exact hemp ⟨r,hr,e1.symm⟩
   .obtain⟨r',hr',e3⟩:=e2 n z;exact hemp ⟨r',hr',e3⟩
  generalize hh:tupleKeyHash (intKind prog w) kx=hx at*;generalize hj:(advs t.mask (st0 t.mask hx) n).j=j at*;have hjl:j<=t.mask:=by rw[<- hj];exact zad t.mask hx n
  have tab2:TabW (t.put j).1 (insertAt es (t.put j).2 (hx,Value.ref b)) (ins L (t.put j).2 (j,hx,Value.ref b)):=by
   have:=y1.tab.put (x:=Value.ref b) (h:=hx) (n:=n) (λm hm=>by
    obtain⟨r,hr,e,_⟩:=hocc m hm;exact⟨r,hr,e⟩) (by rw[hj];exact hemp) (by rw[hj];exact hjl)
   rw[hj] at this;exact this
  have hlp:(ins L (t.put j).2 (j,hx,Value.ref b)).length=L.length+1:=by
   unfold ins;rw[wL,wO,uz,ja];lia
  have hmk:(t.put j).1.mask=t.mask:=rfl;have hpl:(t.put j).1.plain=true:=y1.plain;have hperm:((ins L (t.put j).2 (j,hx,Value.ref b)).map (·.2)).Perm ((hx,Value.ref b)::L.map (·.2)):=by
   unfold ins;rw[wH,wE];refine jC.trans ?_;refine List.Perm.cons _ ?_;rw[<- wH,uM]
  generalize hT2:(t.put j).1=t2 at*;generalize hL2:ins L (t.put j).2 (j,hx,Value.ref b)=L2 at*;generalize hE2:insertAt es (t.put j).2 (hx,Value.ref b)=es2 at*;have hput:t.put j=(t2,(t.put j).2):=by rw[<- hT2]
  rw[hpl];simp only[jw];refine wc (z3B hk1 ?_);simp only[jw];have hsz2:es2.size=L.length+1:=by rw[tab2.size.2.1,hlp]
  refine wc (wpAny_storeSet_of y1.get y1.data ?_ (by rw[hsz2];exact fits_of_scanBound (by unfold scanBound;lia)));have g2:=z6K y1.get y1.data es2 t2;have sb2:=uk s1.heap a (Obj.putSet es2 t2);have hled2:t2.led=t.led:=by rw[<- hT2];rfl
  have key2:∀h',Heap.SameBut a s1.heap h'->∀r:Int × Value,r∈(hx,Value.ref b)::L.map (·.2)->∃b' k,r.2 = .ref b'/\TK prog w h' k b'/\r.1=tupleKeyHash (intKind prog w) k:=λh' sb r hr=>by
   rcases wg.mp hr with rfl | hr
   .exact⟨b,kx,rfl,hk1.stay y1.get y1.data sb,hh.symm⟩
   .obtain⟨r',hr',rfl⟩:=wj.mp hr;obtain⟨b',k',e',hk',eh⟩:=y1.key r' hr';exact⟨b',k',e',hk'.stay y1.get y1.data sb,eh⟩
  have fin:∀h' L',Heap.SameBut a s1.heap h'->zc7 prog w h' a L'->(L'.map (·.2)).Perm ((hx,.ref b)::L.map (·.2))->Q true { s1 with heap:=h' }:=λh' L' sb ok pm=>by
   rw[<- hs1] at sb habs ⊢;exact hnew habs h' _ L' sb ok pm
  have h7:7<=t.mask:=by
   obtain⟨k,hk3,e⟩:=y1.tab.pow;have:2 ^ 3<=2 ^ k:=jx (by decide) hk3;lia
  have at2:z7I prog w (s1.heap.update a (Obj.putSet es2 t2)) a L2 { o with data :=.set es2 (ep+1) t2 } es2 (ep+1) t2:=by
   refine⟨g2,y1.ex,rfl,tab2,?_,?_,hpl,?_,λr hr =>?_⟩
   .rw[hlp,hmk];lia
   .rw[hmk];exact hmask
   .rw[hled2];exact y1.led
   .obtain⟨b',k',e',hk',eh⟩:=key2 _ sb2 r.2 (hperm.mem_iff.mp (wj.mpr ⟨r,hr,rfl⟩));exact⟨b',k',e',hk',eh⟩
  have hfill:t2.fill=L.length+1:=by rw[tab2.size.2.2,hlp]
  by_cases htf:t2.tooFull=true
  .rw[htf];simp only[Bool.not_false,Bool.and_self,jw];obtain⟨k,hk1',hk3,hk4,hk5⟩:=z5q (n:=SetTable.grown (es.size+1)) (by
    have:es.size=L.length:=y1.tab.size.2.1;unfold SetTable.grown;rw[this,if_neg (by lia)];exact wB (show (L.length+1)*4<8192 by lia) (by decide))
   have hgr:SetTable.grown (es.size+1)=(L.length+1)*4:=by
    have:es.size=L.length:=y1.tab.size.2.1;unfold SetTable.grown;rw[this,if_neg (by lia)]
   have hk6:2 ^ k<=8192:=by
    rcases hk5 with z | z
    .subst z;decide
    .rw[hgr] at z
     rcases wJ k 14 with y | y
     .exact jx (by decide) (show k<=13 by lia)
     .have:=jx (show 0<2 by decide) y;have:(2:Nat) ^ 14=16384:=by decide
      lia
   have hmk1:2 ^ k - 1+1=2 ^ k:=Nat.sub_add_cancel (Nat.one_le_two_pow);obtain⟨t3,order,L3,hl,m1,m2,m3,m4,m5,m6,tab3,pm3⟩:=zgc (es:=es2) (mask:=2 ^ k - 1) (finger:=t2.finger) (moves:=t2.movedTo (2 ^ k - 1)) (led:=t2.led) (plain:=t2.plain) hmk1 hk3 (by rw[hsz2,hmk1];lia);unfold setRelay;refine wc (wc (vD at2.get at2.data at2.fits ?_));dsimp only;rw[hk1'];rw[if_neg (show ¬ 2 ^ k > sizeLine by rw[sizeLine_eq];lia)]
   try refine wc (wf ?_)
   have hrl:t2.relaid (es2.map (·.1)) (SetTable.grown (es.size+1))=some (t3,order):=by
    unfold SetTable.relaid;rw[hk1'];exact hl
   rw[hrl];refine wc ?_;show wpAny _ _ (if (((order.filterMap (es2[·]?)).size != es2.size)=true) then _ else _) _ _ _;rw[if_neg (by rw[m6];simp)];refine wf ?_;dsimp only;generalize hE3:order.filterMap (es2[·]?)=es3 at*;have hsz3:es3.size=L.length+1:=by rw[m6,hsz2]
   have hl3:L3.length=L.length+1:=by rw[<- tab3.size.2.1,hsz3]
   refine wpAny_storeSet_of at2.get at2.data ?_ (by rw[hsz3];exact fits_of_scanBound (by unfold scanBound;lia));have g3:=z6K at2.get at2.data es3 t3;have sb3:=sb2.trans (uk (s1.heap.update a (Obj.putSet es2 t2)) a (Obj.putSet es3 t3));have e3:es3.toList=L3.map (·.2):=by rw[tab3.es]
   have e2':es2.toList=L2.map (·.2):=by rw[tab2.es]
   have pm:(L3.map (·.2)).Perm ((hx,Value.ref b)::L.map (·.2)):=by
    rw[e3,e2'] at pm3;exact pm3.trans hperm
   refine wf (fin _ L3 sb3 ⟨_,_,_,_,⟨g3,y1.ex,rfl,tab3,?_,?_,m5.trans hpl,?_,λr hr =>?_⟩,?_⟩ pm)
   .rw[hl3,m1];lia
   .rw[m1];lia
   .rw[m4,hled2];exact y1.led
   .obtain⟨b',k',e',hk',eh⟩:=key2 _ sb3 r.2 (pm.mem_iff.mp (wj.mpr ⟨r,hr,rfl⟩));exact⟨b',k',e',hk',eh⟩
   .rw[hl3,m1];lia
  .have htf':t2.tooFull=false:=by simpa using htf
   rw[htf'];simp only[Bool.and_false,w9,u3];refine wf (fin _ L2 sb2 ⟨_,_,_,_,at2,?_⟩ hperm);unfold SetTable.tooFull at htf';rw[hfill] at htf';rw[hlp];have:=of_decide_eq_false htf';lia
end
inductive Two {α β:Type}(R:α->β->Prop):List α->List β->Prop
 | nil:Two R [] []
 | cons {a b l m}:R a b->Two R l m->Two R (a::l) (b::m)
def Two.imp {α β:Type}{R R':α->β->Prop}(i:∀a b,R a b->R' a b){l:List α}{m:List β}(h:Two R l m):Two R' l m:=by
 induction h with
 | nil=>exact .nil
 | cons h _ ih=>exact .cons (i _ _ h) ih
def Two.perm {α β:Type}{R:α->β->Prop}{l l':List α}(p:l.Perm l'):∀{m:List β},Two R l m->∃m',m.Perm m'/\Two R l' m':=by
 induction p with
 | nil=>intro m h;exact⟨m,jR _,h⟩
 | cons x _ ih=>
  intro m h
  cases h with
  | cons h1 h2=>
   obtain⟨m',p',h'⟩:=ih h2;exact⟨_::m',p'.cons _,.cons h1 h'⟩
 | swap x y l=>
  intro m h
  cases h with
  | cons h1 h2=>
   cases h2 with
   | cons h3 h4=>exact⟨_,List.Perm.swap _ _ _,.cons h3 (.cons h1 h4)⟩
 | trans _ _ ih1 ih2=>
  intro m h;obtain⟨m',p',h'⟩:=ih1 h;obtain⟨m'',p'',h''⟩:=ih2 h';exact⟨m'',p'.trans p'',h''⟩
def Two.mem_left {α β:Type}{R:α->β->Prop}{l:List α}{m:List β}(h:Two R l m){a:α}(ha:a∈l):∃b∈m,R a b:=by
 induction h with
 | nil=>simp at ha
 | cons h _ ih=>
  rcases wg.mp ha with rfl | ha
  .simp_all
  simp_all
def Two.mem_right {α β:Type}{R:α->β->Prop}{l:List α}{m:List β}(h:Two R l m){b:β}(hb:b∈m):∃a∈l,R a b:=by
 induction h with
 | nil=>simp at hb
 | cons h _ ih=>
  rcases wg.mp hb with rfl | hb
  .simp_all
  simp_all
section
variable {prog:Program}{w:World}
def IsK (prog:Program)(w:World)(M:Value->Prop)(h:Heap)(v:Value)(k:List Int):Prop:=M v/\∃b,v = .ref b/\TK prog w h k b
structure SetK (prog:Program)(w:World)(M:Value->Prop)(h:Heap)(a:Addr)(kl:List (List Int)):Prop where
 ex:∃L,zc7 prog w h a L/\Two (IsK prog w M h) (L.map (·.2.2)) kl
 nd:kl.Nodup
def SetK.len {M:Value->Prop}{h:Heap}{a:Addr}{kl:List (List Int)}(x:SetK prog w M h a kl):∃L,zc7 prog w h a L/\Two (IsK prog w M h) (L.map (·.2.2)) kl/\L.length=kl.length:=by
 obtain⟨L,h1,h2⟩:=x.ex;refine⟨L,h1,h2,?_⟩;have:∀{l:List _}{m:List _},Two (IsK prog w M h) l m->l.length=m.length:=by
  intro l m t
  induction t with
  | nil=>rfl
  | cons _ _ ih=>simp[ih]
 have:=this h2;simpa using this
def SetK.stay {M:Value->Prop}{h h':Heap}{a:Addr}{kl:List (List Int)}{wr:List Addr}(x:SetK prog w M h a kl)(k:∀b o,b ∉ wr->h.get? b=some o->h'.get? b=some o)(ha:a ∉ wr)(hw:∀b∈wr,∀ks,¬ TK prog w h ks b):SetK prog w M h' a kl:=by
 obtain⟨L,⟨o,es,ep,t,y,hf⟩,h2⟩:=x.ex;have tk:∀{ks:List Int}{b:Addr},TK _ w h ks b->TK _ w h' ks b:=λ{ks b} z=>by
  have hb  := λq=>hw b q ks z;obtain⟨o,it,n,e,r⟩:=z;exact⟨o,it,n,k _ _ hb e,r⟩
 refine⟨⟨L,⟨o,es,ep,t,⟨k _ _ ha y.get,y.ex,y.data,y.tab,y.room,y.small,y.plain,y.led,λr hr =>?_⟩,hf⟩,h2.imp λa b ⟨m,c,e,z⟩=>⟨m,c,e,tk z⟩⟩,x.nd⟩;obtain⟨b,ks,e,z,q⟩:=y.key r hr;exact⟨b,ks,e,tk z,q⟩
variable {A:Around}{R:Result->Shared->Prop}{I:Addr}{fp wr:List Addr}{G:Array GenState->Array GenState->Prop}{n:Nat}{P:Nat->Value->Prop}{St:Nat->Shared->Prop}
def z4N {M:Value->Prop}(W:WalksS prog w A.in1 I fp wr G n P St)(S:Addr)(hSf:S ∉ fp)(hu:A.in1.units<cLine)(ks:Nat->List Int)(hn:n<=2040)(hw:∀i s,St i s->∀b∈wr,∀k,¬ TK prog w s.heap k b)(hM:∀j v,P j v->M v):
  ∀(k i:Nat) (s:Shared) (kl:List (List Int)),n - i=k->i<=n->St i s->(∀j v,P j v->∃b,v = .ref b/\TK prog w s.heap (ks j) b)->
   SetK prog w M s.heap S kl->kl.length<=i->(∀x,x∈kl↔∃j,j<i/\ks j=x)->
   (∀s' kl',Moved (S::wr) G s s'->SetK prog w M s'.heap S kl'->kl'.length<=n->(∀x,x∈kl'↔∃j,j<n/\ks j=x)->R (.ok (.ret .none)) s')->
   codeAny (model prog w) A (.builtin "set.update.loop" ⟨[.ref S,.ref I],[]⟩) R s:=by
 have hSw:S ∉ wr:=λh=>hSf (W.sub _ h);have hsub:∀b∈wr,b∈S::wr:=λb hb=>wm _ hb;intro k
 induction k with
 | zero=>
  intro i s kl hk hi hst hP hS hl hm hR;have hin:i=n:=by lia
  subst hin;refine ur F.entry_set_update_loop ?_;rw[vX u7 _];show wpAny _ A.in1 (pyNext (.ref I) >>= _) _ _ s;refine wc (W.done s _ _ hst λs' hmv =>?_);show wpAny _ A.in1 (ret Value.none) _ _ s';exact wf (hR s' kl (hmv.mono hsub) (hS.stay hmv.heap hSw (hw _ _ hst)) hl hm)
 | succ k ih=>
  intro i s kl hk hi hst hP hS hl hm hR;have hlt:i<n:=by lia
  refine ur F.entry_set_update_loop ?_;rw[vX u7 _];show wpAny _ A.in1 (pyNext (.ref I) >>= _) _ _ s;refine wc (W.item i s _ _ hlt hst λv s' hPv hst' hmv =>?_);have hS':=hS.stay hmv.heap hSw (hw _ _ hst);have hP':∀j v,P j v->∃b,v = .ref b/\TK prog w s'.heap (ks j) b:=λj u hu'=>by
   obtain⟨b,e,z⟩:=hP j u hu';have hb:b ∉ wr:=λq=>hw _ _ hst b q _ z;obtain⟨o,it,m,e',r⟩:=z;exact⟨b,e,o,it,m,hmv.heap _ _ hb e',r⟩
  obtain⟨b,rfl,hkb⟩:=hP' i v hPv;show wpAny _ A.in1 (holding [Value.ref b] (setAdd S (.ref b)) >>= _) _ _ s';refine wc (vR ?_);obtain⟨L,hL,h2,hlen⟩:=hS'.len;have grow:∀(h':Heap) (tk:Nat),s'.toks<=tk->Heap.SameBut S s'.heap h'->St (i+1) { s' with heap:=h',toks:=tk }/\(∀j v,P j v->∃b,v = .ref b/\TK prog w h' (ks j) b)/\∀s'',Moved (S::wr) G { s' with heap:=h',toks:=tk } s''->Moved (S::wr) G s s'':=λh' tk htk hsb=>by
   obtain⟨o,es,ep,t,y,_⟩:=hL.ex;refine⟨W.frame _ s' _ _ hst' htk λc hc o' e =>?_,λj u hu' =>?_,λs'' hm'' =>?_⟩
   .rw[hsb.2 c (λz:c=S=>hSf (by rw[<- z];exact hc))];exact e
   .obtain⟨c,e,z⟩:=hP' j u hu';exact⟨c,e,z.stay y.get y.data hsb⟩
   .refine Moved.trans W.gtrans ((hmv.mono hsub).then_heap htk λc o' hc e =>?_) hm'';rw[hsb.2 c (λz:c=S=>hc (by rw[z];exact wv))];exact e
  refine wpAny_with_toks (wp s'.toks) ?_;refine z4v hL hu hkb (by lia) ?_ ?_
  .intro hex tk htk;obtain⟨g1,g2,g3⟩:=grow s'.heap tk htk (Heap.SameBut.refl _ _);refine wf ⟨uA u7 _,ih (i+1) _ kl (by lia) hlt g1 g2 hS' (by lia) (λx =>?_) λs'' kl' hm''=>hR s'' kl' (g3 s'' hm'')⟩;rw[hm x]
   constructor
   .rintro⟨j,hj,e⟩;exact⟨j,by lia,e⟩
   .rintro⟨j,hj,e⟩
    rcases wJ j i with z | z
    .exact⟨j,z,e⟩
    .have:j=i:=by lia
     subst this;obtain⟨r,hr,c,ec,hc⟩:=hex;obtain⟨y,hy,_,c',ec',hc'⟩:=h2.mem_left (wj.mpr ⟨r,hr,rfl⟩);rw[ec] at ec'
     cases ec'
     have:=hc.inj hc';rw[<- e,this];exact(hm y).mp hy
  .intro habs h' tk L' hsb hok pm htk;obtain⟨g1,g2,g3⟩:=grow h' tk htk hsb;obtain⟨o,es,ep,t,y,_⟩:=hL.ex;have t1:Two (IsK prog w M h') (Value.ref b::L.map (·.2.2)) (ks i::kl) :=.cons ⟨hM i _ hPv,b,rfl,hkb.stay y.get y.data hsb⟩ (h2.imp λa k ⟨m,c,e,z⟩=>⟨m,c,e,z.stay y.get y.data hsb⟩);have pm2:(Value.ref b::L.map (·.2.2)).Perm (L'.map (·.2.2)):=by
    have:=pm.symm.map (·.2);simpa[Function.comp_def] using this
   obtain⟨kl',p',t'⟩:=t1.perm pm2;have hnk:ks i ∉ kl:=λz=>by
    obtain⟨a',ha',_,c,e,z'⟩:=h2.mem_right z;obtain⟨r,hr,rfl⟩:=wj.mp ha';exact habs ⟨r,hr,c,e,z'⟩
   have nd':kl'.Nodup:=p'.nodup_iff.mp (vB.mpr ⟨hnk,hS.nd⟩);have hl':kl'.length=kl.length+1:=by rw[<- p'.length_eq];rfl
   refine wf ⟨uA u7 _,ih (i+1) _ kl' (by lia) hlt g1 g2 ⟨⟨L',hok,t'⟩,nd'⟩ (by lia) (λx =>?_) λs'' kl'' hm''=>hR s'' kl'' (g3 s'' hm'')⟩;rw[<- p'.mem_iff,wg,hm x]
   constructor
   .rintro(e | ⟨j,hj,e⟩)
    .exact⟨i,by lia,e.symm⟩
    .exact⟨j,by lia,e⟩
   .rintro⟨j,hj,e⟩
    rcases wJ j i with z | z
    .exact .inr ⟨j,z,e⟩
    .have:j=i:=by lia
     subst this;exact .inl e.symm
end
section
variable {prog:Program}{w:World}{A:Around}{E:WvP}{s:Shared}
def z5Z:isSubtype (.type "tuple") (.type "set")=pure false:=by kernel_rfl
def z3v:isSubtype (.type "tuple") (.type "frozenset")=pure false:=by rfl
abbrev led0 (w:World):Bool := !w.params.followText "set-order"
def z6z (a:Value){Q₁:WvP}
  (h:Q₁ (.ref s.heap.objs.size) { s with heap:=s.heap.push { cls :=.type "set",dict:=none,data :=.set #[] 0 (.fresh 0 0 (led0 w)) } }):
  codeAny (model prog w) A (.call (.builtin "set.__new__") ⟨[.type "set",a],[]⟩) (wants Q₁ E) s:=by
 refine codeAny_of_tree ?_;refine wc (wpAny_of_eq (F.newCall_set_1 a) (wf ⟨uA F.plain_set_new _,ur F.entry_set_new ?_⟩));rw[vX F.plain_set_new _];unfold Builtin.«set.__new__» Builtin.Frozenset.newClass;have hsub:=sub_set_self;obtain⟨hp,g,d,tk,os⟩:=s;dsimp only
 wp_walk
 refine jD (wf ?_);dsimp only;simp only[newObj];refine wc (wpAny_alloc (wf ?_));exact wf h
def z9m {M:Value->Prop}{h:Heap}{a:Addr}(e:h.get? a=some { cls :=.type "set",dict:=none,data :=.set #[] 0 (.fresh 0 0 (led0 w)) }):SetK prog w M h a []:=by
 refine⟨⟨[],⟨_, #[],0,_,⟨e,⟨rfl,rfl,rfl⟩,rfl,⟨rfl,rfl,.nil,(λr hr=>by simp at hr),rfl,⟨3,wp _,rfl⟩,(λr hr=>by simp at hr)⟩,(by simp_all),(by show 7<=8191;decide),rfl,rfl,(λr hr=>by simp at hr)⟩,(by show 0*5<7*3;decide)⟩,.nil⟩,.nil⟩
set_option hygiene false in
local macro_rules | `(tactic| walk_at "cs") => `(tactic| (
  obtain⟨c,tl,hmro⟩:=jm.mro;have hmade:=jm.made;have hsub:=jm.sub;refine wpAny_call (codeAny_of_tree ?_);show wpAny _ _ (callAny (.type "set") _) _ _ _;refine wf ⟨Code.quiet_builtin _ (by decide +kernel),ur F.entry_type_call ?_⟩;rw[Around.under_plain (weight_type_call_type "set" [.ref l] []) rfl];have h1:=jm.notType;have h2:=jm.canCreate;have hct:=F.typeCall_set_1 (.ref l)
  repeat (any_goals (first | assumption | wp_step))
  refine codeAny_mono (z6z (.ref l) (E:=E) (Q₁:=λobj s₁=>obj = .ref s.heap.objs.size/\s₁={ s with heap:=s.heap.push { cls :=.type "set",dict:=none,data :=.set #[] 0 (.fresh 0 0 (led0 w)) } }) ⟨rfl,rfl⟩) λr s₁ hr =>?_
  cases r with
  | error e=>exact hr
  | ok fl=>
   cases fl with
   | ret obj=>
    obtain⟨rfl,rfl⟩:=hr;generalize hled:led0 w=led at*;have hS:(s.heap.push { cls :=.type "set",dict:=none,data :=.set #[] 0 (.fresh 0 0 led) }).get? s.heap.objs.size=some { cls :=.type "set",dict:=none,data :=.set #[] 0 (.fresh 0 0 led) }:=wn _ rfl;have hT:Shared.TypeIs { s with heap:=s.heap.push { cls :=.type "set",dict:=none,data :=.set #[] 0 (.fresh 0 0 led) } } (.ref s.heap.objs.size) "set":=⟨_,hS,rfl⟩
    have hli:=jm.init.lookup;have hbi:=jm.init.bind (.ref s.heap.objs.size)
    repeat (any_goals (first | assumption | wp_step))
    refine codeAny_mono (codeAny_call_builtin (R:=wants (λr s₂=>r = .none/\∃h' tk kl,s₂={ s with heap:=h',toks:=tk }/\SetK prog w M h' s.heap.objs.size kl/\kl.length<=z03.size/\(∀x,x∈kl↔x∈ks)/\
      (∀b o,b<s.heap.objs.size->s.heap.get? b=some o->h'.get? b=some o)) E) jm.init.plain F.entry_set_init (check_set_init_1 hT ?_)) λr₂ s₂ hr₂ =>?_
    ·obtain⟨ol,hol,hcl,nl,hdl⟩:=hl;obtain⟨ocls,odict,odata,oslots⟩:=ol;simp only at hcl hdl;subst hcl;subst hdl;have hol':=we (show Obj from { cls :=.type "set",dict:=none,data :=.set #[] 0 (.fresh 0 0 led) }) hol;unfold Builtin.«set.__init__» noKeywords Builtin.Frozenset.updateFrom;generalize hPI:pyIter=PI
     wp_walk
     subst hPI
     first | refine wpAny_pyIter_list ⟨_,hol',rfl,nl,rfl⟩ ?_ | refine uL ⟨_,hol',rfl,nl,rfl⟩ ?_
     refine wc (wpAny_runValue ?_);have hlS:l<s.heap.objs.size:=wo hol;have hh3:A.in1.in1.in1.handled=none:=by simp[hh]
     have hneI:l≠(s.heap.push { cls :=.type "set",dict:=none,data :=.set #[] 0 (.fresh 0 0 led) }).objs.size:=by
      rw[vE];exact wz (vN hlS)
     have hSf:s.heap.objs.size ∉ [(s.heap.push { cls :=.type "set",dict:=none,data :=.set #[] 0 (.fresh 0 0 led) }).objs.size,l]:=by
      rw[vE];simp only[wg,wt,wA,vS,not_or];exact⟨wz (ue _),jF hlS⟩
     have hkat:∀(i:Nat) (v:Value),z03[i]? = some v->M v/\∃b,v = .ref b/\TK prog w s.heap (ks.getD i []) b:=λi v hv=>by
      have hv':z03.toList[i]? = some v:=by simpa using hv
      generalize z03.toList=il at hi hv';clear hv h
      induction hi generalizing i with
      | nil=>simp at hv'
      | cons h0 _ ih=>
       cases i with
       | zero=>
        simp at hv';subst hv';exact h0
       | succ i=>exact ih i (by simpa using hv')
     have hks:ks.length=z03.size:=by
      have:∀{l:List Value}{m:List (List Int)},Two (IsK prog w M s.heap) l m->l.length=m.length:=by
       intro l m t
       induction t with
       | nil=>rfl
       | cons _ _ ih=>simp[ih]
      have:=this hi;simpa using this.symm
     first | refine z4N ((Walks.list hh3 _ l hneI z03).toS) s.heap.objs.size hSf (by simp;lia) (λi=>ks.getD i []) hb ?hw (λj v hv=>(hkat j v hv).1) (z03.size - 0) 0 _ [] (by lia) (vf _) ⟨⟨_,wn _ rfl,rfl,rfl⟩,?hl2⟩ (λj v hv => ?hP) ?hS0 (vf _) (λx=>by simp) ?hR | refine z4N ((Walks.tuple hh3 _ l hneI z03).toS) s.heap.objs.size hSf (by simp;lia) (λi=>ks.getD i []) hb ?hw (λj v hv=>(hkat j v hv).1) (z03.size - 0) 0 _ [] (by lia) (vf _) ⟨⟨_,wn _ rfl,rfl,rfl⟩,?hl2⟩ (λj v hv => ?hP) ?hS0 (vf _) (λx=>by simp) ?hR
     case hl2=>exact⟨_,we _ hol',rfl,nl,rfl⟩
     case hw=>
      intro i s0 hst b hb' k z;rw[wt.mp hb'] at z;obtain⟨⟨o1,e1,c1,_⟩,_⟩:=hst;obtain⟨o2,_,_,e2,c2,_⟩:=z;rw[e1] at e2
      cases e2
      rw[c1] at c2
      injection c2 with c3
      exact absurd c3 (by decide)
     case hP=>
      obtain⟨_,b,e,o2,it,m,e2,r⟩:=hkat j v hv;exact⟨b,e,o2,it,m,we _ (we _ e2),r⟩
     case hS0=>
      refine z9m (h:=(s.heap.push { cls :=.type "set",dict:=none,data :=.set #[] 0 (.fresh 0 0 led) }).push _) ?_;rw[hled];exact we _ hS
     case hR=>
      intro s' kl hm hS' hkl hmem;obtain⟨h',g',d',tk',os'⟩:=s';have eg:g'=s.gens:=hm.gens;have ed:d'=s.drawn:=hm.drawn;have eo:os'=s.os:=hm.os;subst eg;subst ed;subst eo;show wpAny _ _ _ _ _ _;apply wf;show wpAny _ _ (ret Value.none) _ _ _;refine wf ⟨rfl,h',tk',kl,rfl,hS',hkl,λx =>?_,λb o hb e =>?_⟩
      ·rw[hmem x]
       constructor
       ·rintro⟨j,hj,e⟩;have hj':j<ks.length:=by rw[hks];exact hj
        rw[<- e];show ks.getD j []∈ks;rw[ug,wq hj'];exact uH hj'
       ·intro hx;obtain⟨j,hj,e⟩:=wX.mp hx;refine⟨j,by rw[<- hks];exact hj,?_⟩;show ks.getD j []=x;rw[ug,wq hj];exact e
      ·have hb1:b≠s.heap.objs.size:=wz hb;have hb2:b≠(s.heap.push { cls :=.type "set",dict:=none,data :=.set #[] 0 (.fresh 0 0 led) }).objs.size:=by
        rw[vE];exact wz (vN hb)
       exact hm.heap b o (by simp only[wg,wt,wA,vS,not_or];exact⟨hb1,hb2⟩) (we _ (we _ e))
    ·cases r₂ with
     | error e=>exact hr₂
     | ok fl₂=>
      cases fl₂ with
      | ret r=>
       obtain⟨rfl,h',tk,kl,rfl,hS',hk1,hk2,hk'⟩:=hr₂
       repeat (any_goals (first | assumption | wp_step))
       exact h _ _ _ hS' hk1 hk2 hk'
      | _=>exact hr₂.elim
   | _=>exact hr.elim))
def z6B {M:Value->Prop}{l:Addr}{z03:Array Value}{ks:List (List Int)}{Q:WvP}
  (hh:A.handled=none) (hu:A.units+8<cLine) (hl:s.heap.IsList l z03) (hi:Two (IsK prog w M s.heap) z03.toList ks) (hb:z03.size<=2040)
  (h:∀(h':Heap) (tk:Nat) (kl:List (List Int)),SetK prog w M h' s.heap.objs.size kl->kl.length<=z03.size->(∀x,x∈kl↔x∈ks)->
   (∀b o,b<s.heap.objs.size->s.heap.get? b=some o->h'.get? b=some o)->Q (.ref s.heap.objs.size) { s with heap:=h',toks:=tk }):
  wpAny (model prog w) A (call (.type "set") [.ref l]) Q E s:=by
 have hsls:=F.sub_list_set;have hslf:=F.sub_list_frozenset;walk_at "cs"
def z5C {M:Value->Prop}{l:Addr}{z03:Array Value}{ks:List (List Int)}{Q:WvP}
  (hh:A.handled=none) (hu:A.units+8<cLine) (hl:s.heap.IsTuple l z03) (hi:Two (IsK prog w M s.heap) z03.toList ks) (hb:z03.size<=2040)
  (h:∀(h':Heap) (tk:Nat) (kl:List (List Int)),SetK prog w M h' s.heap.objs.size kl->kl.length<=z03.size->(∀x,x∈kl↔x∈ks)->
   (∀b o,b<s.heap.objs.size->s.heap.get? b=some o->h'.get? b=some o)->Q (.ref s.heap.objs.size) { s with heap:=h',toks:=tk }):
  wpAny (model prog w) A (call (.type "set") [.ref l]) Q E s:=by
 have hsls:=z5Z;have hslf:=z3v;walk_at "cs"
end
end Tab
namespace Tim
open PySem PyProof.Rows PySem.W
def Rn (rk:Nat->Nat)(p:Array Nat)(i:Nat):Nat:=rk (p[i]?.getD 0)
def Up (rk:Nat->Nat)(p:Array Nat)(j:Nat):Prop:=∀a b,a<=b->b<j->Rn rk p a<=Rn rk p b
def Dn (rk:Nat->Nat)(p:Array Nat)(j:Nat):Prop:=∀a b,a<=b->b<j->Rn rk p b<=Rn rk p a
abbrev Ok (n:Nat)(p:Array Nat):Prop:=p.Perm (List.range n).toArray
section
variable {cmp:Nat->Nat->(Bool->Shared->Prop)->Shared->Prop}{s:Shared}{rk:Nat->Nat}{n:Nat}{p:Array Nat}{α:Type}
def z2Y (h:Ok n p):p.size=n:=by rw[h.size_eq];simp
def ziS (hn:0<n)(h:Ok n p)(i:Nat):p[i]?.getD 0<n:=by
 rcases wJ i _ with z | z
 .rw[um z];have:=(Array.perm_iff_toList_perm.mp h).mem_iff.mp (Array.getElem_mem_toList z);simpa using this
 simp_all
def As (cmp:Nat->Nat->(Bool->Shared->Prop)->Shared->Prop)(rk:Nat->Nat)(n:Nat)(s:Shared):Prop:=∀(i j:Nat) (C:Bool->Shared->Prop),i<n->j<n->C (decide (rk i<rk j)) s->cmp i j C s
def ask_ {k:Bool->KasT α}{Q:α->Shared->Prop}{i j:Nat}(A:As cmp rk n s)(hn:0<n)(hp:Ok n p)(h:Rn rk p i<Rn rk p j->(k true).kasWp cmp Q s)(h':Rn rk p j<=Rn rk p i->(k false).kasWp cmp Q s):(KasT.ask (p.getD i 0) (p.getD j 0) k).kasWp cmp Q s:=by
 rw[uD,uD];refine A _ _ _ (ziS hn hp i) (ziS hn hp j) ?_
 rcases wJ _ _ with z | z
 .rw[show decide (rk _<rk _)=true from vq z];exact h z
 .rw[show decide (rk _<rk _)=false from ve (Nat.not_lt.mpr z)];exact h' z
theorem asc_ {Q:Nat->Shared->Prop}(A:As cmp rk n s)(hn:0<n)(hp:Ok n p):∀(f m:Nat),1<=m->Up rk p m->(∀k,m<=k->k<=m+f->Up rk p k->k=m+f\/Rn rk p k<Rn rk p (k - 1)->Q k s)->(kas_asc p f m).kasWp cmp Q s
 | 0,m,h1,hu,q=>q m (by lia) (by lia) hu (.inl rfl)
 | f+1,m,h1,hu,q=>by
  refine ask_ A hn hp (λh =>?_) λh =>?_
  .exact q m (by lia) (by lia) hu (.inr h)
  .refine asc_ A hn hp f (m+1) (by lia) (λa b h1 h2 =>?_) λk h1 h2 h3 h4=>q k (by lia) (by lia) h3 (h4.imp (by lia) id)
   rcases wJ b m with z | z
   .exact hu a b h1 z
   .obtain rfl:b=m:=by lia
    rcases wJ a b with w | w
    .exact wI (hu a (b - 1) (by lia) (by lia)) h
    grind
def zef {i j:Nat}(hj:j<=p.size)(k:Nat):Rn rk (kas_rev p i j) k=if i<=k/\k<j then Rn rk p (i+j - 1 - k) else Rn rk p k:=by
 unfold Rn kas_rev;rw[getElem?_mirror_all hj k]
 split <;> rfl
def z77 (h:Ok n p){i j:Nat}:Ok n (kas_rev p i j):=(mirror_perm _ _ _ _).trans h
def zfb {i j:Nat}(hj:j<=p.size)(he:∀k,i<=k->k<j->Rn rk p k=Rn rk p (j - 1))(k:Nat):Rn rk (kas_rev p i j) k=Rn rk p k:=by
 rw[zef hj]
 grind
def z5l {m:Nat}(h1:1<=m)(h:Dn rk p m)(k:Rn rk p m<=Rn rk p (m - 1)):Dn rk p (m+1):=λa b x y=>by
 rcases wJ b m with z | z
 .exact h a b x z
 .obtain rfl:b=m:=by lia
  rcases wJ a b with w | w
  .exact wI k (h a _ (by lia) (by lia))
  .obtain rfl:a=b:=by lia
   simp_all
theorem zdM {Q:Array Nat × Nat × Nat->Shared->Prop}(A:As cmp rk n s)(hn:0<n):∀(f:Nat) (p:Array Nat) (m q:Nat),Ok n p->Dn rk p m->q<m->(∀i,m - (q+1)<=i->i<m->Rn rk p i=Rn rk p (m - 1))->m+f<=n->
  (∀p' m' q',Ok n p'->Dn rk p' m'->q'<m'->m<=m'->m'<=m+f->(∀i,m' - (q'+1)<=i->i<m'->Rn rk p' i=Rn rk p' (m' - 1))->Q (p',m',q') s)->(kas_desc f p m q).kasWp cmp Q s
 | 0,p,m,q,hp,hd,hq,he,hm,h=>h p m q hp hd hq (by lia) (by lia) he
 | f+1,p,m,q,hp,hd,hq,he,hm,h=>by
  refine ask_ A hn hp (λh1 =>?_) λh1 =>?_
  .rw[if_pos rfl];have eq:=zfb (rk:=rk) (p:=p) (i:=m - (q+1)) (j:=m) (by rw[z2Y hp];lia) he
   by_cases hq0:q > 0
   .rw[if_pos hq0];refine zdM A hn f _ (m+1) 0 (z77 hp) (z5l (by lia) (λa b x y=>by rw[eq,eq];exact hd a b x y) (by rw[eq,eq];lia)) (by lia) (λi x y=>by rw[show i=m+1 - 1 by lia]) (by lia) λp' m' q' a b c d e g=>h p' m' q' a b c (by lia) (by lia) g
   .rw[if_neg hq0];exact zdM A hn f p (m+1) 0 hp (z5l (by lia) hd (by lia)) (by lia) (λi x y=>by rw[show i=m+1 - 1 by lia]) (by lia) λp' m' q' a b c d e g=>h p' m' q' a b c (by lia) (by lia) g
  .rw[if_neg (by decide)];refine ask_ A hn hp (λh2 =>?_) λh2 =>?_
   .rw[if_pos rfl];exact h p m q hp hd hq (by lia) (by lia) he
   .rw[if_neg (by decide)];refine zdM A hn f p (m+1) (q+1) hp (z5l (by lia) hd (by lia)) (by lia) (λi x y =>?_) (by lia) λp' m' q' a b c d e g=>h p' m' q' a b c (by lia) (by lia) g
    rcases wJ i m with z | z
    .rw[he i (by lia) z,show m+1 - 1=m by lia];lia
    .rw[show i=m+1 - 1 by lia]
def zgQ {Q:Nat × Array Nat->Shared->Prop}(A:As cmp rk n s)(hn:0<n)(hp:Ok n p){m:Nat}(h1:1<=m)(hm:m<=n)(hd:Dn rk p m)(q:∀m' p',Ok n p'->1<=m'->m'<=n->Up rk p' m'->Q (m',p') s):(kas_tail3 m n p).kasWp cmp Q s:=by
 unfold kas_tail3;rw[jM];refine asc_ A hn (z77 hp) _ _ h1 (λa b x y =>?_) λk x y u _=>q k _ (z77 hp) (by lia) (by lia) u;have e:=zef (rk:=rk) (i:=0) (by rw[z2Y hp];exact hm);rw[e,e,if_pos (by lia),if_pos (by lia)];exact hd _ _ (by lia) (by lia)
def ziB {Q:Nat × Array Nat->Shared->Prop}(A:As cmp rk n s)(hn:0<n)(hp:Ok n p){m:Nat}(hm:m<n)(hd:Dn rk p (m+1))(q:∀m' p',Ok n p'->1<=m'->m'<=n->Up rk p' m'->Q (m',p') s):(kas_descPart m n p).kasWp cmp Q s:=by
 unfold kas_descPart;rw[jM];refine zdM A hn _ p _ 0 hp hd (by lia) (λi x y=>by rw[show i=m+1 - 1 by lia]) (by lia) λp' m' q' a b c d e g =>?_;dsimp only;have eq:=zfb (by rw[z2Y a];lia) g
 split
 .exact zgQ A hn (z77 a) (by lia) (by lia) (λx y h1 h2=>by rw[eq,eq];exact b x y h1 h2) q
 .exact zgQ A hn a (by lia) (by lia) b q
def zjK {Q:Nat × Array Nat->Shared->Prop}(A:As cmp rk n s)(hn:0<n)(hp:Ok n p)(q:∀m' p',Ok n p'->1<=m'->m'<=n->Up rk p' m'->Q (m',p') s):(kas_count n p).kasWp cmp Q s:=by
 unfold kas_count;rw[jM];refine asc_ A hn hp _ 1 (wp 1) (λa b x y=>by rw[show a=b by lia];exact wp _) λm h1 h2 hu ho =>?_
 by_cases e:m=n
 .rw[if_pos (by simpa using e)];exact q m p hp h1 (by lia) hu
 rw[if_neg (by simpa using e)];have lt:=ho.resolve_left (by lia)
 by_cases g:m > 1
 .rw[if_pos g];refine ask_ A hn hp (λh =>?_) λh =>?_
  .rw[if_pos rfl];exact q m p hp h1 (by lia) hu
  .rw[if_neg (by decide)];have eq:=zfb (rk:=rk) (p:=p) (i:=0) (j:=m) (by rw[z2Y hp];lia) λk _ y=>Nat.le_antisymm (hu k (m - 1) (by lia) (by lia)) (wI h (hu 0 k (by lia) y));refine ziB A hn (z77 hp) (by lia) (z5l h1 (λa b x y =>?_) ?_) q
   .rw[eq,eq];exact wI (hu b (m - 1) (by lia) (by lia)) (wI h (hu 0 a (by lia) (by lia)))
   .rw[eq,eq];lia
 .rw[if_neg g];refine ziB A hn hp (by lia) (z5l h1 (λa b x y=>by rw[show a=b by lia];exact wp _) (by lia)) q
theorem zaK {Q:Nat->Shared->Prop}(A:As cmp rk n s)(hn:0<n)(hp:Ok n p){k:Nat}(q:∀l,l<=k->(∀i,i<l->Rn rk p i<=Rn rk p k)->(∀i,l<=i->i<k->Rn rk p k<=Rn rk p i)->Q l s):∀(f l r:Nat),r - l<=f->l<=r->r<=k->Up rk p k->(∀i,i<l->Rn rk p i<=Rn rk p k)->(∀i,r<=i->i<k->Rn rk p k<=Rn rk p i)->(kas_place p k f l r).kasWp cmp Q s
 | 0,l,r,hf,hl,hr,hu,h1,h2=>q l (by lia) h1 λi x y=>h2 i (by lia) y
 | f+1,l,r,hf,hl,hr,hu,h1,h2=>by
  unfold kas_place
  by_cases g:l>=r
  .rw[if_pos g];exact q l (by lia) h1 λi x y=>h2 i (by lia) y
  .rw[if_neg g];refine ask_ A hn hp (λh =>?_) λh =>?_
   .rw[if_pos rfl];exact zaK A hn hp q f l _ (by lia) (by lia) (by lia) hu h1 λi x y=>wI (uC h) (hu _ i (by lia) y)
   .exact zaK A hn hp q f _ r (by lia) (by lia) hr hu (λi x=>wI (hu i _ (by lia) (by lia)) h) h2
theorem bin_ {Q:Array Nat->Shared->Prop}(A:As cmp rk n s)(hn:0<n)(q:∀p,Ok n p->Up rk p n->Q p s):∀(f:Nat) (p:Array Nat) (k:Nat),Ok n p->Up rk p k->k+f=n->(kas_bin f p k).kasWp cmp Q s
 | 0,p,k,hp,hu,e=>q p hp (by rw[<- e];exact hu)
 | f+1,p,k,hp,hu,e=>by
  unfold kas_bin;rw[jM];refine zaK A hn hp (λl hl h1 h2 =>?_) k 0 k (by lia) (by lia) (wp _) hu (λi x=>by lia) λi x y=>by lia
  refine bin_ A hn q f _ (k+1) ((bubble_perm _ _ _).trans hp) (λa b x y =>?_) (by lia);have eb:=λi=>getElem?_bubble (xs:=p) (src:=k) (by rw[z2Y hp];lia) (k - l) (by lia) i;rw[show k - (k - l)=l by lia] at eb;have e1:∀i,i<l->Rn rk (bubble p k (k - l)) i=Rn rk p i:=λi z=>by unfold Rn;rw[eb,if_neg (by lia),if_neg (by lia)]
  have e2:Rn rk (bubble p k (k - l)) l=Rn rk p k:=by unfold Rn;rw[eb,if_pos rfl]
  have e3:∀i,l<i->i<=k->Rn rk (bubble p k (k - l)) i=Rn rk p (i - 1):=λi z w=>by unfold Rn;rw[eb,if_neg (by lia),if_pos (by lia)]
  rcases uj a l with z | rfl | z
  .rw[e1 a z]
   rcases uj b l with w | rfl | w
   .rw[e1 b w];exact hu a b x (by lia)
   .rw[e2];exact h1 a z
   .rw[e3 b w (by lia)];exact hu _ _ (by lia) (by lia)
  .rw[e2]
   rcases wJ a b with w | w
   .rw[e3 b w (by lia)];exact h2 _ (by lia) (by lia)
   .rw[show b=a by lia,e2];exact wp _
  .rw[e3 a z (by lia),e3 b (by lia) (by lia)];exact hu _ _ (by lia) (by lia)
def zk0 {Q:Array Nat->Shared->Prop}(A:As cmp rk n s)(hn:0<n)(q:∀p,Ok n p->Up rk p n->Q p s):(kas_sort n).kasWp cmp Q s:=by
 unfold kas_sort;rw[jM];refine zjK A hn (Array.Perm.refl _) λm p hp h1 h2 hu =>?_;dsimp only
 split
 .exact bin_ A hn q _ p _ hp (by simp_all) (by lia)
 .obtain rfl:m=n:=by lia
  exact q p hp hu
end
open HT
theorem z56:∀k:List Int,z0r k k=false
 | []=>rfl
 | x::xs=>by rw[z0M,if_pos rfl];exact z56 xs
theorem z8R:∀{a b c:List Int},z0r a b=true->z0r b c=true->z0r a c=true
 | [],[],_,h,_=>by cases h
 | [],_::_,[],_,k=>by cases k
 | [],_::_,_::_,_,_=>rfl
 | _::_,[],_,h,_=>by cases h
 | _::_,_::_,[],_,k=>by cases k
 | x::xs,y::ys,z::zs,h,k=>by
  rw[z0M] at h k ⊢
  by_cases e1:x=y
  .subst e1
   by_cases e2:x=z
   .subst e2;rw[if_pos rfl] at h k ⊢;exact z8R h k
   .rw[if_neg e2] at k ⊢;exact k
  grind
theorem z8a:∀(a b:List Int),z0r a b=false->z0r b a=false->a=b
 | [],[],_,_=>rfl
 | [],_::_,h,_=>by cases h
 | _::_,[],_,k=>by cases k
 | x::xs,y::ys,h,k=>by
  rw[z0M] at h k
  by_cases e:x=y
  .subst e;rw[if_pos rfl] at h k;rw[z8a xs ys h k]
  grind
def rkL (l:List (List Int))(k:List Int):Nat:=l.countP λq=>z0r q k
def z7t {α:Type}{p q:α->Bool}{l:List α}(h:∀x,p x=true->q x=true){a:α}(ha:a∈l)(hp:p a=false)(hq:q a=true):l.countP p<l.countP q:=by
 induction l with
 | nil=>cases ha
 | cons y l ih=>
  rw[List.countP_cons,List.countP_cons];have hle:l.countP p<=l.countP q:=List.countP_mono_left λx _ hx=>h x hx
  rcases wg.mp ha with rfl | ha
  .rw[hp,hq];simp;omega
  .have:=ih ha
   by_cases py:p y=true
   .simp_all
   .rw[if_neg py];split <;> omega
def z8C {l:List (List Int)}{a b:List Int}(ha:a∈l)(hb:b∈l):z0r a b=decide (rkL l a<rkL l b):=by
 cases q:z0r a b with
 | true=>
  symm
  apply vq;exact z7t (λx hx=>z8R hx q) ha (z56 a) q
 | false=>
  symm
  apply ve;intro hlt
  cases q2:z0r b a with
  | true=>
   have:=z7t (p:=λx=>z0r x b) (λx hx=>z8R hx q2) hb (z56 b) q2;unfold rkL at hlt;omega
  | false=>
   rw[z8a a b q q2] at hlt;omega
section
variable {prog:Program}{w:World}{A:Around}{E:WvP}{s:Shared}
theorem z59 {b fin:Bool}{Q:Bool->Shared->Prop}:∀{vs ws:List Value}{ns ms:List Int}(i:Nat),IntsAre vs ns->IntsAre ws ms->fin=decide (ns.length<ms.length)->Q (z0r ns ms) s->KatLex prog w A b fin Q (vs.zip ws) i s
 | _,_,_,_,i,.nil,.nil,hf,h=>by
  refine kat_nil ?_;rw[hf];exact h
 | _,_,_,_,i,.nil,.cons m u r,hf,h=>by
  refine kat_nil ?_;rw[hf];rw[show decide (([]:List Int).length<(m::_).length)=true by simp];exact h
 | _,_,_,_,i,.cons n t r,.nil,hf,h=>by
  refine kat_nil ?_;rw[hf];rw[show decide ((n::_).length<([]:List Int).length)=false by simp];exact h
 | _,_,_,_,i,.cons n t r,.cons m u r2,hf,h=>by
  refine kat_cons (wpAny_eqBool_int ?_);rw[z0M] at h
  by_cases e:n=m
  .subst e;rw[if_pos rfl] at h;rw[show (n == n)=true by simp];exact kat_yes (z59 (i+1) r r2 (by rw[hf];simp) h)
  .rw[if_neg e] at h;rw[show (n == m)=false by simpa using e];refine kat_no ?_
   cases hb:(b && i == 0) with
   | true=>exact oneLt_int h
   | false=>exact kat_one _ _ (lt_int h)
def TI (h:Heap)(v:Value)(k:List Int):Prop:=∃a o z03 n,v = .ref a/\h.get? a=some o/\o.cls = .type "tuple"/\o.data = .seq z03 n/\IntsAre z03.toList k
def TI.keep {h h':Heap}{v:Value}{k:List Int}(x:TI h v k)(g:∀b o,h.get? b=some o->o.cls = .type "tuple"->h'.get? b=some o):TI h' v k:=by
 obtain⟨a,o,z03,n,e,h1,h2,h3,h4⟩:=x;exact⟨a,o,z03,n,e,g _ _ h1 h2,h2,h3,h4⟩
def AsV (prog:Program)(w:World)(A:Around)(s:Shared)(κ:SortKind)(vs:List Value)(rk:Value->Nat):Prop:=∀x∈vs,∀y∈vs,∀(Q:Bool->Shared->Prop) (E:WvP),Q (decide (rk x<rk y)) s->wpAny (model prog w) A (keyLt' κ x y) Q E s
def zdV {vs:List Value}{key:Value->List Int}(hk:∀v∈vs,TI s.heap v (key v))(b:Bool):AsV prog w A s (tuples' b) vs (λv=>rkL (vs.map key) (key v)):=by
 intro x mx y my Q E h;rw[<- z8C (wj.mpr ⟨_,mx,rfl⟩) (wj.mpr ⟨_,my,rfl⟩)] at h;obtain⟨a1,o1,i1,n1,e1,g1,c1,d1,k1⟩:=hk _ mx;obtain⟨a2,o2,i2,n2,e2,g2,c2,d2,k2⟩:=hk _ my;rw[e1,e2];exact kat_lt g1 d1 g2 d2 (z59 0 k1 k2 (by rw[<- IntsAre.length k1, <- IntsAre.length k2,v6,v6]) h)
theorem z5a {h:Heap}{key:Value->List Int}:∀{vs:List Value},(∀v∈vs,TI h v (key v)/\key v≠[])->∃fs:List Value,KatTups h vs fs/\fs.length=vs.length/\∀f∈fs,∃n t,f = .int n t
 | [],_=>⟨[],.nil,rfl,λ_ h=>by cases h⟩
 | v::vs,hk=>by
  obtain⟨fs,q1,q2,q3⟩:=z5a (λv hv=>hk v (wm _ hv));obtain⟨⟨a,o,z03,n,e,h1,h2,h3,h4⟩,hne⟩:=hk v (wv ..);subst e;obtain⟨x,xs,ex⟩:∃x xs,key (.ref a)=x::xs:=by
   cases hq:key _ with
   | nil=>exact(hne hq).elim
   | cons x xs=>exact⟨x,xs,rfl⟩
  rw[ex] at h4;generalize hi:z03.toList=il at h4
  cases h4 with
  | cons _ t r=>
   refine⟨.int x t::fs,.cons h1 h2 h3 ?_ q1,by simp[q2],λf hf =>?_⟩
   .rw[<- uv,hi];rfl
   .rcases wg.mp hf with rfl | hf
    .exact⟨_,_,rfl⟩
    .exact q3 f hf
def zdu {vs:List Value}{key:Value->List Int}{Q:SortKind->Shared->Prop}(hk:∀v∈vs,TI s.heap v (key v)/\key v≠[])(hne:0<vs.length)(h:Q (tuples' true) s):wpAny (model prog w) A (keyKind' vs.toArray) Q E s:=by
 obtain⟨fs,q1,q2,q3⟩:=z5a hk;refine kat_kind (T :=.type "int") q1 (by omega) (λv hv =>?_) rfl h;obtain⟨n,t,rfl⟩:=q3 v hv;exact Looks.now
def zcX {α:Type}{R:α->α->Prop}{l:List α}(h:l.length<2):l.Pairwise R:=by
 match l,h with
 | [],_=>simp_all
 | [x],_=>exact List.pairwise_singleton _ _
def z4y (prog:Program)(w:World)(h:Heap)(vs:List Value)(rk:Value->Nat):Prop:=∀(A:Around) (s:Shared),(∀b o,h.get? b=some o->o.cls = .type "tuple"->s.heap.get? b=some o)->
 ∃κ,AsV prog w A s κ vs rk/\(1<vs.length->∀(Q:SortKind->Shared->Prop) (E:WvP),Q κ s->wpAny (model prog w) A (keyKind' vs.toArray) Q E s)
def z4y.keep {h h':Heap}{vs:List Value}{rk:Value->Nat}(x:z4y prog w h vs rk)(k:∀b o,h.get? b=some o->h'.get? b=some o):z4y prog w h' vs rk:=λA s k'=>x A s λb o e c=>k' b o (k b o e) c
def z4y.tups {h:Heap}{vs:List Value}{key:Value->List Int}(hk:∀v∈vs,TI h v (key v)/\key v≠[]):z4y prog w h vs (λv=>rkL (vs.map key) (key v)):=λA s k=>
 ⟨_,zdV (λv hv=>(hk v hv).1.keep k) _,λhl Q E q=>zdu (λv hv=>⟨(hk v hv).1.keep k,(hk v hv).2⟩) (by omega) q⟩
def z7e {a:Addr}{vs:List Value}{rk:Value->Nat}{n:Nat}{P:PySem.Fin->Shared->Prop}(ho:s.heap.get? a=some (seqObj "list" vs.toArray n))(hz:vs.length<=sizeLine)(h64:vs.length<64)
  (hk:z4y prog w s.heap vs rk)
  (h:∀out:List Value,out.Perm vs->out.Pairwise (λx y=>rk x<=rk y)->P (.done (.ret .none)) { s with heap:=sortedHeap s.heap a vs out.toArray }):
  wpAny (model prog w) A (Builtin.«list.sort» ⟨[.ref a],[]⟩) P E s:=by
 rw[list_sort_plain];have ha:a<s.heap.objs.size:=wo ho;refine wc (listItems_at ho rfl ?_);refine wc (listUpdate_at ho rfl ?_ (by rw[wY];omega) (vf _));obtain⟨e1,ho1⟩:∃e1,(s.heap.update a (Obj.mapSeq λ_ => #[])).get? a=some (seqObj "list" #[] e1):=⟨_,get?_update_seq ho (λ_ => #[])⟩
 refine wc (seqEpoch_at ho1 rfl ?_);refine wc (wpAny_newTuple ?_ (by show vs.length<=_;omega));refine wc (wpAny_newList ?_ (vf _));refine vR ?_;have ho6:(((s.heap.update a (Obj.mapSeq λ_ => #[])).push (seqObj "tuple" vs.toArray 0)).push (seqObj "list" #[] 0)).get? a=some (seqObj "list" #[] e1):=by
  rw[ju _ _ _ (by rw[size_push',Heap.size_update];exact wz (vN ha)),ju _ _ _ (by rw[Heap.size_update];exact wz ha)];exact ho1
 have keep:∀b o,s.heap.get? b=some o->o.cls = .type "tuple"->(((s.heap.update a (Obj.mapSeq λ_ => #[])).push (seqObj "tuple" vs.toArray 0)).push (seqObj "list" #[] 0)).get? b=some o:=λb o hb hc=>by
  have hlt:b<s.heap.objs.size:=wo hb;have hne:b≠a:=by
   rintro rfl;rw[ho] at hb
   cases hb
   exact absurd (show Value.type "list"=Value.type "tuple" from hc) (by decide)
  rw[ju _ _ _ (by rw[size_push',Heap.size_update];exact wz (vN hlt)),ju _ _ _ (by rw[Heap.size_update];exact wz hlt),Heap.get?_update_ne _ _ _ _ hne];exact hb
 show wpAny (model prog w) A _ P E { s with heap:=((s.heap.update a (Obj.mapSeq λ_ => #[])).push (seqObj "tuple" vs.toArray 0)).push (seqObj "list" #[] 0) };dsimp only;have hsz:vs.toArray.size=vs.length:=by simp
 by_cases h2:vs.toArray.size<2
 .rw[if_pos h2,if_pos h2];refine wc (wf ?_);rw[StateT.run_pure];refine wc (wf ?_);dsimp only;refine wc (seqEpoch_at ho6 rfl ?_);have e0:(arrOf (SortSt.mk' general' (vs.toArray.zip vs.toArray) #[] 7 none)).map (·.2)=vs.toArray:=by
   show (vs.toArray.zip vs.toArray).map (·.2)=_;apply Array.toList_inj.mp;simpa using List.map_snd_zip (l₁:=vs) (l₂:=vs) (wp _)
  rw[e0];refine wc (listUpdate_at ho6 rfl ?_ (vf _) (Nat.le_succ_of_le (by rw[hsz];exact hz)));simp only[bne_self_eq_false,w9,u3];exact wf (h vs (jR _) (zcX (by omega)))
 .rw[if_neg h2,if_neg h2];obtain⟨κ,ka,kk⟩:=hk A { s with heap:=((s.heap.update a (Obj.mapSeq λ_ => #[])).push (seqObj "tuple" vs.toArray 0)).push (seqObj "list" #[] 0) } keep;refine wc (kk (by omega) _ _ ?_);have mem:∀i,i<vs.length->vs.getD i Value.none∈vs:=λi hi=>by rw[ug,wq hi];exact uH hi
  refine wc (w6 (kat_run (ks:=vs) (vs:=vs) (κ:=κ) (Q:=λst' s'=>s'=_/\∃p,Ok vs.length p/\Up (λi=>rk (vs.getD i Value.none)) p vs.length/\arrOf st'=p.map (kas_item (vs.toArray.zip vs.toArray))/\failedOf st'=none) (G:=λp s'=>s'=_/\Ok vs.length p/\Up (λi=>rk (vs.getD i Value.none)) p vs.length) rfl (by omega) h64 (λp st' s' _ ha hf ⟨e,o,u⟩=>⟨e,p,o,u,ha,hf⟩) (zk0 (rk:=λi=>rk (vs.getD i Value.none)) (λi j C hi hj q=>ka _ (mem i hi) _ (mem j hj) C _ q) (by omega) λp o u=>⟨rfl,o,u⟩)) ?_ λ_ _ e=>e);rintro⟨⟨⟩,st'⟩ s' ⟨rfl,p,o,u,ha,hf⟩;dsimp only at ha hf ⊢;have e2:=kat_snds (ks:=vs) (vs:=vs) rfl ha;refine wc (seqEpoch_at ho6 rfl ?_);rw[e2];have hzp:p.toList.length=vs.length:=by rw[v6,z2Y o]
  refine wc (listUpdate_at ho6 rfl ?_ (vf _) (Nat.le_succ_of_le (by rw[wY,wd,hzp];exact hz)));rw[hf];simp only[bne_self_eq_false,w9,u3];refine wf (h _ ?_ ?_)
  .have:=(Array.perm_iff_toList_perm.mp o).map λi=>vs.getD i Value.none;refine this.trans ?_;rw[show (List.range vs.length).toArray.toList.map (λi=>vs.getD i Value.none)=vs from List.ext_getElem (by simp) λi h1 h2=>by simp[h2]]
  .rw[wN,vA];intro i j hi hj hij;have:=u i j (uC hij) (by omega);unfold Rn at this;rw[um (by rw[z2Y o];omega),um (by rw[z2Y o];omega)] at this;simpa using this
def zjU (prog:Program)(w:World)(rk:Value->Nat)(Q:WvP)(vs:List Value)(s1:Shared):Prop:=
 vs.length<64/\z4y prog w s1.heap vs rk/\∀out:List Value,out.Perm vs->out.Pairwise (λx y=>rk x<=rk y)->
  ∀h',(∀b o,s1.heap.get? b=some o->h'.get? b=some o)->(∃e,h'.get? s1.heap.objs.size=some (seqObj "list" out.toArray e))->Q (.ref s1.heap.objs.size) { s1 with heap:=h' }
def z4W {v:Value}{Q:WvP}(hcol:∀E',wpAny (model prog w) A.in1 (collect v) (λvs s1=>∃rk,zjU prog w rk Q vs s1) E' s):wpAny (model prog w) A (call (.builtin "sorted") [v]) Q E s:=by
 refine Calls.call_function_entry kind_sorted plain_sorted entry_sorted (args_sorted1 _) ?_;unfold Builtin.«sorted»;refine wc (m:=checkCount "sorted" 1 1 _) (wf ?_);refine wc (w6 (hcol _) (λvs s1 q =>?_) λ_ _ e=>e);obtain⟨rk,h64,hk,h⟩:=q;have hz:vs.length<=sizeLine:=wI (uC h64) (by decide);refine wc (wpAny_newList ?_ hz);have hoL:(s1.heap.push (seqObj "list" vs.toArray 0)).get? s1.heap.objs.size=some (seqObj "list" vs.toArray 0):=wn _ rfl;have keep:∀b o,s1.heap.get? b=some o->(s1.heap.push (seqObj "list" vs.toArray 0)).get? b=some o:=λb o q=>we _ q;show wpAny _ _ _ _ _ { s1 with heap:=s1.heap.push (seqObj "list" vs.toArray 0) };refine wc (vR (vV slot_list_sort ⟨_,hoL,rfl⟩ entry_list_sort (z7e hoL hz h64 (hk.keep keep) λout o1 o2=>⟨_,rfl,?_⟩) (args_list_sort _)));refine wf ⟨_,rfl,h out o1 o2 _ (λb o g =>?_) ?_⟩
 .have hlt:b<s1.heap.objs.size:=wo g;rw[sortedHeap_old (wz hlt) (by rw[size_push'];exact vN hlt)];exact keep b o g
 .exact sortedHeap_at hoL
def zjT (key:Value->List Int)(Q:WvP)(vs:List Value)(s1:Shared):Prop:=
 vs.length<64/\(∀x∈vs,TI s1.heap x (key x)/\key x≠[])/\∀out:List Value,out.Perm vs->out.Pairwise (λx y=>z0r (key y) (key x)=false)->
  ∀h',(∀b o,s1.heap.get? b=some o->h'.get? b=some o)->(∃e,h'.get? s1.heap.objs.size=some (seqObj "list" out.toArray e))->Q (.ref s1.heap.objs.size) { s1 with heap:=h' }
def z7P {v:Value}{key:Value->List Int}{Q:WvP}(hcol:∀E',wpAny (model prog w) A.in1 (collect v) (zjT key Q) E' s):wpAny (model prog w) A (call (.builtin "sorted") [v]) Q E s:=
 z4W λE'=>w6 (hcol E') (λvs s1 ⟨hz,hk,h⟩=>⟨_,hz,z4y.tups hk,λout o2 pw=>h out o2 (pw.imp_of_mem λ{x y} hx hy hxy=>by
  rw[z8C (wj.mpr ⟨_,o2.mem_iff.mp hy,rfl⟩) (wj.mpr ⟨_,o2.mem_iff.mp hx,rfl⟩)];exact ve (Nat.not_lt.mpr hxy))⟩) λ_ _ e=>e
end
end Tim
namespace Tab
open PySem PySem.SetTable PyProof.Rows
def z5B:entryFor table "set.__iter__"=some Builtin.«frozenset.__iter__»:=
 entryFor_alias (id':="frozenset.__iter__") (by kernel_rfl) rfl (by decide +kernel) (by kernel_rfl)
def z1t:Slot "set_iterator" "__next__" "set_iterator.__next__":=
 .of (owner:="set_iterator") (n:="__next__") (by rw[typeLookup_type,builtinLookup_eq_fast];kernel_rfl) (by decide +kernel) (by decide +kernel) (by decide +kernel)
  (by first | exact .inl (by decide +kernel) | exact .inr (by decide +kernel)) (by rw[isSubtype_type];kernel_rfl)
def z4n:Slot "set_iterator" "__iter__" "set_iterator.__iter__":=
 .of (owner:="set_iterator") (n:="__iter__") (by rw[typeLookup_type,builtinLookup_eq_fast];kernel_rfl) (by decide +kernel) (by decide +kernel) (by decide +kernel)
  (by first | exact .inl (by decide +kernel) | exact .inr (by decide +kernel)) (by rw[isSubtype_type];kernel_rfl)
def z3X:entryFor table "set_iterator.__next__"=some Builtin.«set_iterator.__next__»:=entryFor_of_fast (by kernel_rfl)
def z4u (a:Value):argsOk "set_iterator.__next__" ⟨[a],[]⟩:=by unfold argsOk;kernel_rfl
section
variable {prog:Program}{w:World}{A:Around}{E:WvP}{s:Shared}
def z25 (h:Heap)(it S:Addr)(slot i n ep:Nat):Prop:=∃o,h.get? it=some o/\o.cls = .type "set_iterator"/\o.data = .fields #[.int slot 0,.int i 0,.ref S,.int n 0,.int ep 0]
def z25.typeIs {it S:Addr}{slot i n ep:Nat}(x:z25 s.heap it S slot i n ep):s.TypeIs (.ref it) "set_iterator":=let ⟨o,ho,hc,_⟩:=x;⟨o,ho,hc⟩
def z4w {S:Addr}{o:Obj}{es:Array (Int × Value)}{ep:Nat}{t:SetTable}{Q:WvP}(ho:s.heap.get? S=some o)(hc:o.cls = .type "set")(hd:o.data = .set es ep t)(hf:t.fits es.size=true)(hp:t.plain=true)
  (h:Q (.ref s.heap.objs.size) { s with heap:=s.heap.push { cls :=.type "set_iterator",data :=.fields #[.int 0 0,.int 0 0,.ref S,.int es.size 0,.int ep 0] } }):wpAny (model prog w) A (pyIter (.ref S)) Q E s:=by
 have hT:s.TypeIs (.ref S) "set":=⟨o,ho,hc⟩
 refine wpAny_pyIter_slot hT F.slot_set_iter (vV F.slot_set_iter hT z5B ?_ (F.args_set_iter_1 _));show wpAny _ _ (Builtin.Frozenset.sizeOf S >>= _) _ _ s;unfold Builtin.Frozenset.sizeOf setEntries setDrawn setEpoch;refine wc (wc (wc (vD ho hd hf (wf (wf ?_)))));refine wc (wc (vD ho hd hf ?_));show wpAny _ _ (setsByText >>= λbyText=>pure (!byText && (!t.plain && decide (es.size > 1)))) _ _ s;unfold setsByText;refine wc (wc (jD (wf (wf ?_))));rw[hp];simp only[Bool.not_true,Bool.false_and,Bool.and_false,w9,u3];refine wc (wf (wc (wc (vD ho hd hf (wf ?_)))));exact wc (wW (wf ⟨_,rfl,"set_iterator",_,⟨_,wn _ rfl,rfl⟩,z1t.lookup,h⟩))
def nxt (w:World)(S:Addr)(es:Array (Int × Value))(ep:Nat)(t:SetTable)(slot i:Nat):Option (Value × Nat):=
 if w.params.followText "set-order"=true then ((pickOrder (w.params.setOrder S ep) es)[i]?).map λe=>(e.2,slot) else
  match es[below t.place slot]?, t.place[below t.place slot]? with
  | some (_,x),some j=>some (x,j+1)
  | _,_=>none
def z3A {S:Addr}{o:Obj}{es:Array (Int × Value)}{ep:Nat}{t:SetTable}{slot i:Nat}{Q:Option (Value × Nat)->Shared->Prop}(ho:s.heap.get? S=some o)(hd:o.data = .set es ep t)(hf:t.fits es.size=true)(hp:t.plain=true)(hl:t.led = !w.params.followText "set-order")
  (h:Q (nxt w S es ep t slot i) s):wpAny (model prog w) A (setNext S slot i ep) Q E s:=by
 unfold setNext;refine wc (vD ho hd hf ?_);show wpAny _ _ (setsByText >>= _) _ _ s;unfold setsByText;refine wc (wc (jD (wf ?_)));unfold nxt at h
 by_cases c:w.params.followText "set-order"=true
 .have c':(model prog w).w.params.followText "set-order"=true:=c;rw[if_pos c] at h;rw[if_pos c'];rw[if_neg (by simp)];unfold setWalk;refine wc (wc (vD ho hd hf ?_));show wpAny _ _ (setsByText >>= _) _ _ s;unfold setsByText;refine wc (wc (jD (wf ?_)));rw[if_pos c'];exact wc (jD (wf (wf h)))
 .have c':¬ (model prog w).w.params.followText "set-order"=true:=c;rw[if_neg c] at h;rw[if_neg c'];have hled:t.led=true:=by rw[hl];simpa using c
  show wpAny _ _ (if (!t.plain && decide (es.size > 1))=true then _ else _) _ _ s;rw[hp,if_neg (by simp)];show wpAny _ _ ((if (!t.led && !es.isEmpty)=true then unsupported "set:maker-not-led" else pure PUnit.unit) >>= _) _ _ s;rw[hled,if_neg (by simp)];exact wc (wf (wf h))
def z2N {it S:Addr}{o:Obj}{es:Array (Int × Value)}{ep:Nat}{t:SetTable}{slot i slot':Nat}{x:Value}{Q:Option Value->Shared->Prop}(hit:z25 s.heap it S slot i es.size ep)
  (ho:s.heap.get? S=some o) (hd:o.data = .set es ep t) (hf:t.fits es.size=true) (hp:t.plain=true) (hl:t.led = !w.params.followText "set-order") (hx:nxt w S es ep t slot i=some (x,slot'))
  (hQ:∀h',z25 h' it S slot' (i+1) es.size ep->Heap.SameBut it s.heap h'->Q (some x) { s with heap:=h' }):wpAny (model prog w) A (pyNext (.ref it)) Q E s:=by
 obtain⟨oi,hoi,hci,hdi⟩:=id hit;unfold pyNext;refine wc (wpAny_attempt (vH hit.typeIs z1t
  (vV z1t hit.typeIs z3X ?_ (z4u _))))
 show wpAny _ _ (fieldsOf (.ref it) >>= _) _ _ s;refine wc (wpAny_fieldsOf hoi hdi ?_);unfold setEntries;refine wc (wc (vD ho hd hf (wf ?_)));rw[if_neg (by simp)];simp only[Int.toNat_natCast];refine wc (z3A ho hd hf hp hl ?_);rw[hx];dsimp only;refine wc (jS hoi hdi (by simp) ?_);have g1:=vp (Obj.mapFields (·.setIfInBounds 0 (rawInt (slot':Int)))) hoi (Obj.isFreed_of_fields (ud hdi _));refine wc (jS g1 (ud hdi _) (by simp) ?_);refine wf ⟨x,rfl,wf (hQ _ ?_ ((uk ..).trans (uk ..)))⟩;refine⟨_,vp _ g1 (Obj.isFreed_of_fields (ud (ud hdi _) _)),((Obj.cls_mapFields ..).trans (Obj.cls_mapFields ..)).trans hci,?_⟩;rw[ud (ud hdi _)];simp[rawInt]
def z3p {it S:Addr}{o:Obj}{es:Array (Int × Value)}{ep:Nat}{t:SetTable}{slot i:Nat}{Q:Option Value->Shared->Prop}(hh:A.handled=none)(hit:z25 s.heap it S slot i es.size ep)
  (ho:s.heap.get? S=some o) (hd:o.data = .set es ep t) (hf:t.fits es.size=true) (hp:t.plain=true) (hl:t.led = !w.params.followText "set-order") (hx:nxt w S es ep t slot i=none)
  (hQ:∀h',Heap.ExtBut it s.heap h'->Q none { s with heap:=h' }):wpAny (model prog w) A (pyNext (.ref it)) Q E s:=by
 obtain⟨oi,hoi,hci,hdi⟩:=id hit;unfold pyNext;refine wc (wpAny_attempt (vH (name:=Str.ofString "__next__") hit.typeIs z1t
  (vV z1t hit.typeIs z3X ?_ (z4u _))))
 show wpAny _ _ (fieldsOf (.ref it) >>= _) _ _ s;refine wc (wpAny_fieldsOf hoi hdi ?_);show wpAny _ _ (setEntries S >>= _) _ _ s;unfold setEntries;refine wc (wc (vD ho hd hf (wf ?_)));rw[if_neg (by simp)];show wpAny _ _ (setNext S (slot:Int).toNat (i:Int).toNat (ep:Int).toNat >>= _) _ _ s;simp only[Int.toNat_natCast];refine wc (z3A ho hd hf hp hl ?_);rw[hx];dsimp only;refine wc (jS hoi hdi (by simp) ?_);show wpAny _ _ (newExc (.type "StopIteration") [] >>= _) _ _ _;refine wc ?_;simp only[newExc,newTuple];refine wc (wW ?_ (by size_fits));refine wc (m:=firstArgMember _ _) (wpAny_of_eq (a:=Value.none) (by first | rfl | (simp only[firstArgMember];rfl)) ?_);refine wW ?_ (by size_fits);simp only[raiseNew];refine wc (wpAny_handled ?_)
 first | rw[show A.in1.handled=none from hh] | rw[hh]
 refine wc (wf (wpAny_throw ?_));refine wc (wpAny_isInstance (T:="StopIteration") (b:=true) ⟨_,wn _ rfl,rfl⟩ isSubtype_stop ?_);exact wf (hQ _ (((uk ..).extBut.push _).push _))
end
theorem z71 {α:Type}(next:Nat->Nat):∀(n k:Nat) (left:List α) (out:Array α),left.length=n->(pickOrder.go next n k left out).toList.Perm (out.toList++left)
 | 0,k,left,out,h=>by
  rw[List.eq_nil_of_length_eq_zero h,vJ];exact jR _
 | n+1,k,left,out,h=>by
  have hlt:next k % left.length<left.length:=jb _ (by lia);rw[pickOrder.go,wq hlt];refine(z71 next n (k+1) _ _ (by rw[List.length_eraseIdx_of_lt hlt];lia)).trans ?_;rw[Array.toList_push,vn];refine jn _ ?_;show (left[next k % left.length]::left.eraseIdx (next k % left.length)).Perm left;rw[List.eraseIdx_eq_take_drop_succ];refine(jC.symm).trans ?_;rw[<- uQ hlt,uM]
def z5s {α:Type}(next:Nat->Nat)(xs:Array α):(pickOrder next xs).toList.Perm xs.toList:=by
 have:=z71 next xs.size 0 xs.toList #[] (by simp);simpa[pickOrder] using this
def ordE (w:World)(S:Addr)(es:Array (Int × Value))(ep:Nat):Array (Int × Value):=if w.params.followText "set-order"=true then pickOrder (w.params.setOrder S ep) es else es
def z75 (w:World)(S:Addr)(es:Array (Int × Value))(ep:Nat):(ordE w S es ep).toList.Perm es.toList:=by
 unfold ordE
 split
 .exact z5s _ _
 .exact jR _
def z51 (w:World)(S:Addr)(es:Array (Int × Value))(ep:Nat):(ordE w S es ep).size=es.size:=by
 rw[<- v6,(z75 w S es ep).length_eq,v6]
def z4X (w:World)(t:SetTable)(i:Nat):Nat:=if w.params.followText "set-order"=true then 0 else if i=0 then 0 else t.place.getD (i - 1) 0+1
def z5T {t:SetTable}(hr:Rise t.place){i:Nat}(hi:i<=t.place.size):below t.place (if i=0 then 0 else t.place.getD (i - 1) 0+1)=i:=by
 obtain⟨h1,h2,h3⟩:=z4k hr (if i=0 then 0 else t.place.getD (i - 1) 0+1);generalize below t.place (if i=0 then 0 else t.place.getD (i - 1) 0+1)=k at*
 by_cases e:i=0
 .subst e;rw[if_pos rfl] at h2
  by_cases z:k=0
  .exact z
  .have:=h2 0 (by lia);lia
 .rw[if_neg e] at h2 h3
  by_cases c:k<i
  .have:=h3 (i - 1) (by lia) (by lia);lia
  .by_cases c2:i<k
   .have a1:=h2 i c2;have a2:=hr (i - 1) i (by lia) (by lia);lia
   .lia
def zdk {w:World}{S:Addr}{es:Array (Int × Value)}{ep:Nat}{t:SetTable}(hr:Rise t.place)(hsz:t.place.size=es.size){i:Nat}(hi:i<es.size):
  ∃e,(ordE w S es ep)[i]? = some e/\nxt w S es ep t (z4X w t i) i=some (e.2,z4X w t (i+1)):=by
 have hlt:i<(ordE w S es ep).size:=by rw[z51];exact hi
 refine⟨(ordE w S es ep)[i],jI _ i hlt,?_⟩;unfold nxt z4X
 by_cases c:w.params.followText "set-order"=true
 .simp only[if_pos c];have e1:ordE w S es ep=pickOrder (w.params.setOrder S ep) es:=by unfold ordE;rw[if_pos c]
  rw[<- e1,jI _ i hlt]
  rfl
 .simp only[if_neg c];have e1:ordE w S es ep=es:=by unfold ordE;rw[if_neg c]
  rw[z5T hr (by lia),jI es i hi,zlA (xs:=t.place) (by lia)];simp only[Nat.add_sub_cancel,if_neg (Nat.succ_ne_zero i)]
  congr 1
  simp only[e1]
def zg3 {w:World}{S:Addr}{es:Array (Int × Value)}{ep:Nat}{t:SetTable}(hr:Rise t.place)(hsz:t.place.size=es.size):nxt w S es ep t (z4X w t es.size) es.size=none:=by
 unfold nxt z4X
 by_cases c:w.params.followText "set-order"=true
 .simp only[if_pos c];have e1:ordE w S es ep=pickOrder (w.params.setOrder S ep) es:=by unfold ordE;rw[if_pos c]
  rw[<- e1,getElem?_neg _ _ (by rw[z51];lia)]
  rfl
 .simp only[if_neg c];rw[z5T hr (by lia),getElem?_neg es es.size (by lia)]
def z6w:entryFor table "set_iterator.__iter__"=some Builtin.«dict_keyiterator.__iter__»:=
 entryFor_alias (id':="dict_keyiterator.__iter__") (by kernel_rfl) rfl (by decide +kernel) (by kernel_rfl)
def z7F (a:Value):argsOk "set_iterator.__iter__" ⟨[a],[]⟩:=by unfold argsOk;kernel_rfl
section
variable {prog:Program}{w:World}{A:Around}{E:WvP}{s:Shared}
def z4K {it S:Addr}{slot i n ep:Nat}{Q:WvP}(hit:z25 s.heap it S slot i n ep)(h:Q (.ref it) s):wpAny (model prog w) A (pyIter (.ref it)) Q E s:=by
 refine wpAny_pyIter_slot hit.typeIs z4n (vV z4n hit.typeIs z6w ?_ (z7F _));show wpAny _ _ (ret (.ref it)) _ _ s;exact wf ⟨_,rfl,"set_iterator",_,hit.typeIs,z1t.lookup,h⟩
theorem Walks.set (hh:A.handled=none)(I S:Addr)(hne:S≠I){o:Obj}{es:Array (Int × Value)}{ep:Nat}{t:SetTable}(hd:o.data = .set es ep t)(hf:t.fits es.size=true)(hp:t.plain=true)(hl:t.led = !w.params.followText "set-order")(hr:Rise t.place)(hsz:t.place.size=es.size):
  Walks prog w A I [I,S] [I] es.size (λi v=>∃e,(ordE w S es ep)[i]? = some e/\v=e.2) (λi h=>z25 h I S (z4X w t i) i es.size ep/\h.get? S=some o) where
 sub:=λb hb=>by simp at hb;simp[hb]
 frame:=λi h h' st hk=>⟨let ⟨o',g1,g2⟩:=st.1;⟨o',hk I (by simp) _ g1,g2⟩,hk S (by simp) _ st.2⟩
 item:=λi s Q E hi st hQ=>by
  obtain⟨e,e1,e2⟩:=zdk (w:=w) (S:=S) (ep:=ep) hr hsz hi;refine z2N st.1 st.2 hd hf hp hl e2 λh' hit' hs' =>?_;exact hQ _ h' s.toks ⟨e,e1,rfl⟩ ⟨hit',hs'.extBut S _ hne st.2⟩ λb o hb e=>hs'.extBut b o (λh=>hb (by simp[h])) e
 done:=λs Q E st hQ=>z3p hh st.1 st.2 hd hf hp hl (zg3 hr hsz) λh' he'=>hQ h' s.toks λb o hb e=>he' b o (λh=>hb (by simp[h])) e
 self:=λ_ _ _ _ st hQ=>z4K st.1 hQ
def z8k {S:Addr}{o:Obj}{es:Array (Int × Value)}{ep:Nat}{t:SetTable}{Q:List Value->Shared->Prop}(hh:A.handled=none)(ho:s.heap.get? S=some o)(hc:o.cls = .type "set")(hd:o.data = .set es ep t)(hf:t.fits es.size=true)(hp:t.plain=true)(hl:t.led = !w.params.followText "set-order")(hr:Rise t.place)(hsz:t.place.size=es.size)(hz:es.size<=sizeLine)
  (h:∀s',(∀b o,s.heap.get? b=some o->s'.heap.get? b=some o)->s'.gens=s.gens->s'.drawn=s.drawn->s'.os=s.os->s.toks<=s'.toks->Q ((ordE w S es ep).toList.map (·.2)) s'):wpAny (model prog w) A (collect (.ref S)) Q E s:=by
 have hlt:S<s.heap.objs.size:=wo ho;unfold collect;refine wc (wpAny_runValue (ur F.entry_proto_collect ?_));rw[vX F.plain_proto_collect _];show wpAny _ A.in1 (newList [] >>= λl=>again (.builtin "list.__iadd__" ⟨[l,.ref S],[]⟩)) _ _ s;refine wc (wW ?_);refine wf ⟨uA F.plain_list_iadd _,ur F.entry_list_iadd ?_⟩;rw[vX F.plain_list_iadd _];show wpAny _ A.in1 (Builtin.List.listExtendWith (.ref s.heap.objs.size) (.ref S) (.ref s.heap.objs.size)) _ _ _;unfold Builtin.List.listExtendWith;have ho1:(s.heap.push { cls :=.type "list",data :=.seq ([]:List Value).toArray }).get? S=some o:=we _ ho;have hT1:Shared.TypeIs { s with heap:=s.heap.push { cls :=.type "list",data :=.seq ([]:List Value).toArray } } (.ref S) "set":=⟨o,ho1,hc⟩
 refine wc (jG hT1 ?_);have h1:Builtin.List.listSameRef (.ref s.heap.objs.size) (.ref S)=false:=by simp[Builtin.List.listSameRef];exact jF hlt
 have h2:(Value.type "set" == Value.type "list")=false:=by decide
 have h3:(Value.type "set" == Value.type "tuple")=false:=by decide
 simp only[h1,h2,h3,Bool.or_false,w9,u3];refine wc (z4w ho1 hc hd hf hp ?_);refine wc (vR ?_);generalize hH:s.heap.push { cls :=.type "list",data :=.seq ([]:List Value).toArray }=H at*;have hHs:H.objs.size=s.heap.objs.size+1:=by rw[<- hH,vE]
 dsimp only;have hT2:Shared.TypeIs { s with heap:=H.push { cls :=.type "set_iterator",data :=.fields #[.int 0 0,.int 0 0,.ref S,.int es.size 0,.int ep 0] } } (.ref S) "set":=⟨o,we _ ho1,hc⟩
 unfold Builtin.List.listLengthHint;refine wc (wpAny_specialOf hT2 F.slot_set_len.lookup ?_)
 wp_delta
 refine wc (wpAny_isInstance (b:=true) hT2 (by rw[isSubtype_type];kernel_rfl) ?_);show wpAny _ A.in1 (typeOf (Value.ref S) >>= _) _ _ _;refine wc (jG hT2 ?_);refine wf ?_;rw[if_pos (by decide)];refine wc (wpAny_rule ?_);refine wc ?_;show wpAny _ A.in1 (updateSeq s.heap.objs.size (·.push .none) >>= λ_=>updateSeq s.heap.objs.size (·.pop)) _ _ _;generalize hO:({ cls :=.type "set_iterator",data :=.fields #[.int 0 0,.int 0 0,.ref S,.int es.size 0,.int ep 0] }:Obj)=io at*;have hS₁:(H.push io).get? s.heap.objs.size=some { cls :=.type "list",data :=.seq ([]:List Value).toArray }:=we _ (hH ▸ wn _ rfl);refine wc (jo hS₁ rfl ?_);have hS₂:=vp (Obj.mapSeq (·.push Value.none)) hS₁ rfl;refine jo hS₂ rfl ?_;have hS₃:=vp (Obj.mapSeq (·.pop)) hS₂ rfl;have oth:∀b o,b≠s.heap.objs.size->(H.push io).get? b=some o->(((H.push io).update s.heap.objs.size (Obj.mapSeq (·.push Value.none))).update s.heap.objs.size (Obj.mapSeq (·.pop))).get? b=some o:=
  λb o hb e=>(vk _ _ (vF hb)).trans ((vk _ _ (vF hb)).trans e)
 have hneS:S≠s.heap.objs.size:=wz hlt;have hneI:H.objs.size≠s.heap.objs.size:=by rw[hHs];exact jF (ue _)
 have hSI:S≠H.objs.size:=by rw[hHs];exact wz (vN hlt)
 have hSf:s.heap.objs.size ∉ [H.objs.size,S]:=by
  simp only[wg,wA,vS,not_or];exact⟨vF hneI,vF hneS⟩
 have hio:(H.push io).get? H.objs.size=some io:=wn _ (by rw[<- hO];rfl);refine wf ⟨uA F.plain_extend_loop _,codeAny_extend_loopS (Walks.set (A:=A.in1) (w:=w) (prog:=prog) hh H.objs.size S hSI hd hf hp hl hr hsz).toS hz _ hSf _ es.size 0 _ _ _ rfl (vf _)
  ⟨⟨io,oth _ _ hneI hio,by rw[<- hO],by rw[<- hO];simp[z4X]⟩,oth _ _ hneS (we _ ho1)⟩ hS₃ (ItemsOf.nil _) λs' acc' c' hm hS' hacc =>?_⟩
 show wpAny _ A (load s.heap.objs.size >>= _) _ _ s';refine wc (wpAny_load hS' ?_);have hq:acc'.toList=(ordE w S es ep).toList.map (·.2):=by
  apply List.ext_getElem?;intro k;rw[uv,wG,uv]
  by_cases hk:k<es.size
  .have hk':k<acc'.size:=by rw[hacc.1];exact hk
   obtain⟨e,e1,e2⟩:=hacc.2 k acc'[k] (jI acc' k hk');rw[jI acc' k hk',e1,e2];rfl
  .rw[getElem?_neg acc' k (by rw[hacc.1];exact hk),getElem?_neg (ordE w S es ep) k (by rw[z51];exact hk)];rfl
 have hfin:=h s' (λb ob e=>hm.heap b ob (λhb =>?_) (oth b ob (wz (wo e)) (we _ (hH ▸ we _ e)))) hm.gens hm.drawn hm.os hm.toks
 .rw[<- hq] at hfin;exact wf hfin
 .have hlt:=wo e
  rcases wg.mp hb with h | h
  .exact absurd hlt (h ▸ vj _)
  .rw[wt.mp h,hHs] at hlt;exact absurd hlt (Nat.not_lt.mpr (Nat.le_succ _))
def z9Q {k:List Int}{vs:List Value}(h:ItemsAre (intKind prog w) k vs):IntsAre vs k:=by
 induction h with
 | nil=>exact .nil
 | cons h1 _ ih=>
  obtain⟨t,rfl⟩:=Value.isInt_shape h1;exact .cons _ _ ih
def TK.ti {h:Heap}{k:List Int}{b:Addr}(x:TK prog w h k b):Tim.TI h (.ref b) k:=by
 obtain⟨o,z03,n,h1,h2,h3,h4⟩:=x;exact⟨b,o,z03,n,rfl,h1,h2,h3,z9Q h4⟩
def zgP {h:Heap}{v:Value}{k k':List Int}(x:Tim.TI h v k)(y:Tim.TI h v k'):k=k':=by
 obtain⟨a,o,z03,n,e,h1,h2,h3,h4⟩:=x;obtain⟨a',o',items',n',e',g1,g2,g3,g4⟩:=y;rw[e] at e';cases e';rw[h1] at g1;cases g1;rw[h3] at g3;cases g3;exact(IntsAre.nums h4).symm.trans (IntsAre.nums g4)
def z6o (h:Heap)(v:Value):List Int:=by
 classical exact if c:∃k,Tim.TI h v k then c.choose else []
def z6n {h:Heap}{v:Value}{k:List Int}(x:Tim.TI h v k):z6o h v=k:=by
 unfold z6o;have c:∃k,Tim.TI h v k:=⟨k,x⟩
 rw[dif_pos c];exact zgP c.choose_spec x
def zcd {M:Value->Prop}{h:Heap}{l:List Value}{m:List (List Int)}(t:Two (IsK prog w M h) l m):l.map (z6o h)=m:=by
 induction t with
 | nil=>rfl
 | cons h1 _ ih=>
  obtain⟨_,b,rfl,z⟩:=h1;rw[wE,ih,z6n (TK.ti z)]
def z9j {M:Value->Prop}{S:Addr}{kl:List (List Int)}{Q:WvP}(hh:A.handled=none)(x:SetK prog w M s.heap S kl)(hne:∀k∈kl,k≠[])(hz:kl.length<64)
  (h:∀s' (out:List Value),(∀b o,s.heap.get? b=some o->s'.heap.get? b=some o)->s'.gens=s.gens->s'.drawn=s.drawn->s'.os=s.os->s.toks<=s'.toks->
   (out.map (z6o s.heap)).Perm kl->(∀v∈out,M v/\Tim.TI s.heap v (z6o s.heap v))->(out.map (z6o s.heap)).Pairwise (λa b=>HT.z0r b a=false)->
   ∀D,s.heap.get? D=none->(∃e,s'.heap.get? D=some (seqObj "list" out.toArray e))->Q (.ref D) s'):wpAny (model prog w) A (call (.builtin "sorted") [.ref S]) Q E s:=by
 obtain⟨L,hL,h2,hlen⟩:=x.len;obtain⟨o,es,ep,t,y,_⟩:=hL.ex;have esz:es.size=L.length:=by rw[y.tab.es];simp
 have hkeys:=zcd h2;have hti:∀v∈L.map (·.2.2),Tim.TI s.heap v (z6o s.heap v):=λv hv=>by
  obtain⟨k,_,_,b,rfl,z⟩:=h2.mem_left hv;rw[z6n (TK.ti z)];exact TK.ti z
 have hvs:((ordE w S es ep).toList.map (·.2)).Perm (L.map (·.2.2)):=by
  refine((z75 w S es ep).map (·.2)).trans ?_;rw[y.tab.es];simp only[wK];exact jR _
 refine Tim.z7P (key:=z6o s.heap) λE' =>?_;refine z8k (A:=A.in1) hh y.get y.ex.1 y.data y.fits y.plain y.led y.tab.riseP (by rw[y.tab.place,esz];simp) (wI (show es.size<=64 by omega) (by decide)) λs1 k1 g1 g2 g3 g4 =>?_;refine⟨by rw[hvs.length_eq,wd];lia,λv hv =>?_,λout p1 p2 h' keep hD =>?_⟩
 .have hv':=hvs.mem_iff.mp hv;refine⟨(hti v hv').keep λb o g _=>k1 b o g,hne _ ?_⟩;rw[<- hkeys];exact wj.mpr ⟨v,hv',rfl⟩
 .refine h { s1 with heap:=h' } out (λb o g=>keep b o (k1 b o g)) g1 g2 g3 g4 ?_ (λv hv=>⟨(h2.mem_left (hvs.mem_iff.mp (p1.mem_iff.mp hv))).choose_spec.2.1,hti v (hvs.mem_iff.mp (p1.mem_iff.mp hv))⟩) (wN.mpr p2) s1.heap.objs.size ?_ hD
  .rw[<- hkeys];exact(p1.trans hvs).map _
  .cases hq:s.heap.get? s1.heap.objs.size with
   | none=>rfl
   | some o=>exact absurd (wo (k1 _ _ hq)) (vj _)
end
end Tab
namespace Pu
open PySem PySem.Spec PyProof.Rows L2 Tab
def SetO (P:Program)(w:World)(a:Addr)(L:List (Rw Value))(h:Heap):Prop:=∃o es ep t,h.get? a=some o/\o.ExactSet/\o.data = .set es ep t/\TabW t es L/\L.length<=t.mask/\t.mask<=8191/\t.plain=true/\t.led=(!w.params.followText "set-order")/\L.length*5<t.mask*3
def Mem (K:W.Frag)(P:Program)(w:World)(G:Hp)(L:List (Rw Value))(kl:List (List Int)):Prop:=Two (λ(r:Rw Value) (k:List Int)=>∃b,r.2.2 = .ref b/\SqT K G b (k.map V.int)/\r.2.1=tupleKeyHash (intKind P w) k) L kl
def Tis (K:W.Frag)(G:Hp)(xs:List V)(ks:List (List Int)):Prop:=Two (λ(x:V) (k:List Int)=>∃b,x = .ref b/\SqT K G b (k.map V.int)) xs ks
def MemV (K:W.Frag)(G:Hp)(v:Value):Prop:=∃b k,v = .ref b/\SqT K G b ((k:List Int).map V.int)
def za6 {α β:Type}{R:α->β->Prop}{l:List α}{m:List β}(h:Two R l m):l.length=m.length:=by
 induction h with
 | nil=>rfl
 | cons _ _ ih=>simp[ih]
theorem z7L {α β γ:Type}{R:α->β->Prop}{f:γ->α}:∀{l:List γ}{m:List β},Two R (l.map f) m->Two (λc b=>R (f c) b) l m
 | [],_,h=>by cases h;exact .nil
 | c::l,_,h=>by
  cases h with
  | cons h1 h2=>exact .cons h1 (z7L h2)
theorem zbd {α β γ:Type}{R:α->β->Prop}{f:γ->α}:∀{l:List γ}{m:List β},Two (λc b=>R (f c) b) l m->Two R (l.map f) m
 | [],_,h=>by cases h;exact .nil
 | c::l,_,h=>by
  cases h with
  | cons h1 h2=>exact .cons h1 (zbd h2)
def zeS {α β:Type}{R:α->β->Prop}{S:α->Prop}{l:List α}{m:List β}(h:Two R l m)(a:∀x∈l,S x):Two (λx y=>R x y/\S x) l m:=by
 induction h with
 | nil=>exact .nil
 | cons h1 _ ih=>exact .cons ⟨h1,a _ wv⟩ (ih λx hx=>a x (wm _ hx))
def zch {K:W.Frag}{G:Hp}{R:Value->List Int->Prop}(hR:∀b k,SqT K G b (k.map V.int)->R (.ref b) k){xs:List V}{ks:List (List Int)}(t:Tis K G xs ks):∀{its:List Value},Vals xs its->Two R its ks:=by
 induction t with
 | nil=>intro its r;cases r;exact .nil
 | cons h1 _ ih=>
  intro its r;obtain⟨b,rfl,hb⟩:=h1
  cases r with
  | cons r1 r2=>
   cases r1
   exact .cons (hR b _ hb) (ih r2)
def z1j.there {P:Program}{w:World}{H:Hp}{h:Heap}{a:Addr}{o:HO}(x:z1j P w H h a o):∃u,h.get? a=some u:=by
 cases o with
 | lst xs=>obtain⟨_,_,_,_,e⟩:=x;exact⟨_,e⟩
 | tup xs=>obtain⟨_,_,_,⟨o,e,_⟩,_⟩:=x;exact⟨_,e⟩
 | dK kvs=>obtain⟨_,_,_,_,o,_,_,e,_⟩:=x;exact⟨_,e⟩
 | dT kvs=>obtain⟨_,_,_,_,o,_,_,e,_⟩:=x;exact⟨_,e⟩
 | set S n=>obtain⟨o,_,_,_,e,_⟩:=x;exact⟨_,e⟩
 | ins C dx fs=>obtain⟨_,_,_,e,_⟩:=x;exact⟨_,e⟩
 | own y=>exact x
 | xd fs=>obtain⟨_,⟨_,_,_,e,_⟩,_⟩:=x;exact⟨_,e⟩
 | rng lo hi=>obtain⟨_,_,_,e⟩:=x;exact⟨_,e⟩
 | frz ob u=>obtain⟨e,_⟩:=x;exact⟨_,e⟩
 | tbl ps=>rcases x with e | ⟨_,_,_,_,_,_,_,_,_,_,_,e,_⟩ <;> exact⟨_,e⟩
 | met f y=>exact⟨_,(x)⟩
 | ext φ=>obtain⟨_,z,_⟩:=x;exact z
def _root_.L2.HOk.none_of {P:Program}{w:World}{H:Hp}{h:Heap}{a:Addr}(x:HOk P w H h)(e:h.get? a=none):H a=none:=by
 cases q:H a with
 | none=>rfl
 | some u=>
  obtain⟨v,z⟩:=z1j.there (x a u q)
  grind
def _root_.L2.Inv.laid' {X:Cx}{H:Hp}{pins:List (Addr × Obj)}{σ:L2.St}{s:Shared}{h':Heap}{a:Addr}{o:HO}{t':Nat}(I:Inv X pins σ H s)(k:∀b u,s.heap.get? b=some u->h'.get? b=some u)(hp:s.heap.get? a=none)(new:z1j X.prog X.w (upd H a o) h' a o):
  Inv X pins σ (upd H a o) { s with heap:=h',toks:=t' }:=by
 have hn:=I.hok.none_of hp;have ne:∀b u,s.heap.get? b=some u->b≠a:=λb u e z=>by grind
 have neH:∀b u,H b=some u->b≠a:=λb u e z=>by grind
 refine I.un ⟨λb o e q _ _=>k b o e,λb o e q _ _=>⟨o.slots,k b o e⟩,λb o e q _=>by rw[z04 (ne b o e)];exact q,λb o e _=>⟨o,k b o e⟩,λb xs e=>by rw[z04 (neH b _ e)];exact e,λb o u e=>by rw[z04 (neH b _ e)];exact e,λb ps e=>⟨#[],by rw[z04 (neH b _ e)];exact e⟩⟩ λb u e =>?_
 by_cases hb:b=a
 .subst hb;rw[z06] at e;grind
 .rw[z04 hb] at e;exact(I.hok b u e).stay (λc v _ q=>k c v q) (λc q=>by rw[z04 (neH c _ q)];exact q) (λc xs q=>by rw[z04 (neH c _ q)];exact q) λc _ _ q=>by rw[z04 (neH c _ q)];exact q
section
variable {X:Cx}{G H:Hp}{pins:List (Addr × Obj)}{σ:L2.St}{s:Shared}
theorem z5O {P:Program}{w:World}:∀{ns:List Int}{us:List Value},Vals (ns.map V.int) us->ItemsAre (intKind P w) ns us
 | [],_,r=>by cases r;exact .nil
 | n::ns,_,r=>by
  cases r with
  | cons r1 r2=>
   obtain⟨t,rfl⟩:=r1;exact .cons (by simp[intKind,Value.isInt]) (z5O r2)
def z7M {b:Addr}{k:List Int}(I:Inv X pins σ H s)(g:Same G H)(h:SqT X.K G b (k.map V.int)):TK X.prog X.w s.heap k b:=by
 obtain⟨its,r,⟨o,ho,hc,n,hd⟩,_⟩:=I.tuple (z0y g h);exact⟨o,its.toArray,n,ho,hc,hd,by simpa using z5O r⟩
def zf4 {p:Addr}{L:List (Rw Value)}{kl:List (List Int)}(I:Inv X pins σ H s)(g:Same G H)(hp:H p=some (.ext (SetO X.prog X.w p L)))(hm:Mem X.K X.prog X.w G L kl)(nd:kl.Nodup):SetK X.prog X.w (MemV X.K G) s.heap p kl:=by
 obtain⟨o,es,ep,t,h1,h2,h3,h4,h5,h6,h7,h8,h9⟩:SetO _ X.w p L _:=(I.hok p _ hp).1;refine⟨⟨L,⟨o,es,ep,t,⟨h1,h2,h3,h4,h5,h6,h7,h8,λr hr =>?_⟩,h9⟩,zbd (hm.imp λr k ⟨b,e,hb,_⟩=>⟨⟨b,k,e,hb⟩,b,e,z7M I g hb⟩)⟩,nd⟩;obtain⟨k,_,b,e,hb,hh⟩:=Two.mem_left hm hr;exact⟨b,k,e,z7M I g hb,hh⟩
def rSet (K:W.Frag)(P:Program)(w:World):List V->Hp->VK->Prop:=λvs H Q=>∃G a xs ks,vs=[.ref a]/\Same G H/\(SqL K G a xs\/SqT K G a xs)/\Tis K G xs ks/\xs.length<=63/\
 ∀p L kl,H p=none->Mem K P w G L kl->kl.Nodup->(∀x,x∈kl↔x∈ks)->Q (.ref p) (upd H p (.ext (SetO P w p L)))
def zdQ (hc:X.calm=true)(hu:X.A.units+64<cLine):z0w X (.type "set") (rSet X.K X.prog X.w):=by
 rintro pins s σ H xs us Q I rv ⟨G,a,ys,ks,e,g,hS,ht,hl,q⟩;subst e;obtain⟨u,rfl,rx⟩:=z2O rv
 cases rx
 have hh:X.A.handled=none:=I.ok.hd hc;have isk:∀{its:List Value},Vals ys its->Two (IsK X.prog X.w (MemV X.K G) s.heap) its ks:=λr=>zch (λb k hb=>⟨⟨b,k,rfl,hb⟩,b,rfl,z7M I g hb⟩) ht r;have fin:∀(h':Heap) (tk:Nat) (kl:List (List Int)),SetK X.prog X.w (MemV X.K G) h' s.heap.objs.size kl->(∀x,x∈kl↔x∈ks)->(∀b o,b<s.heap.objs.size->s.heap.get? b=some o->h'.get? b=some o)->EP X pins σ Q (.ref s.heap.objs.size) { s with heap:=h',toks:=tk }:=by
  intro h' tk kl hK hm keep;have keep':∀b o,s.heap.get? b=some o->h'.get? b=some o:=λb o e=>keep b o (wo e) e;obtain⟨L,⟨o,es,ep,t,y,hf⟩,h2⟩:=hK.ex;have so:SetO X.prog X.w s.heap.objs.size L h':=⟨o,es,ep,t,y.get,y.ex,y.data,y.tab,y.room,y.small,y.plain,y.led,hf⟩
  refine⟨.ref s.heap.objs.size,_,I.laid (o :=.ext (SetO X.prog X.w s.heap.objs.size L)) (t':=tk) keep' (wp _) ⟨so,⟨o,y.get⟩,λh1 h2 ⟨o,es,ep,t,z,r⟩ st=>⟨o,es,ep,t,st _ z,r⟩⟩,rfl,q _ L kl (I.hok.fresh (wp _)) ?_ hK.nd hm⟩;refine(zeS (z7L h2) (S:=λr=>∃b k,r.2.2 = .ref b/\TK X.prog X.w h' k b/\r.2.1=tupleKeyHash (intKind X.prog X.w) k) y.key).imp λr k z9 =>?_;obtain⟨⟨⟨b,k1,e1,hb⟩,b2,e2,z2⟩,b3,k3,e3,z3,hk⟩:=z9;rw[e1] at e2 e3
  cases e2;cases e3
  have z1:TK X.prog X.w h' k1 b:=by
   obtain⟨o,it,n,w1,w2⟩:=z7M I g hb;exact⟨o,it,n,keep' _ _ w1,w2⟩
  have:=z1.inj z2;subst this;have:=z1.inj z3;subst this;exact⟨b,e1,hb,hk⟩
 rcases hS with hS | hS
 .obtain⟨its,r,pl,hz⟩:=I.list (z14 g hS);have hlen:=r.length;exact z6B (M:=MemV X.K G) (ks:=ks) hh (by lia) pl.isList (by simpa using isk r) (by simp only[wY] <;> lia) λh' tk kl hK _ hm keep=>fin h' tk kl hK hm keep
 .obtain⟨its,r,pl,hz⟩:=I.tuple (z0y g hS);have hlen:=r.length;exact z5C (M:=MemV X.K G) (ks:=ks) hh (by lia) pl (by simpa using isk r) (by simp only[wY] <;> lia) λh' tk kl hK _ hm keep=>fin h' tk kl hK hm keep
def zhq (K:W.Frag)(P:Program)(w:World):List V->Hp->VK->Prop:=λvs H Q=>∃G p L kl,vs=[.ref p]/\Same G H/\H p=some (.ext (SetO P w p L))/\Mem K P w G L kl/\kl.Nodup/\(∀k∈kl,k≠[])/\kl.length<=63/\
 ∀D out kl',H D=none->Tis K G out kl'->kl'.Perm kl->kl'.Pairwise (λa b=>HT.z0r b a=false)->Q (.ref D) (upd H D (.lst out))
def z9Y (hc:X.calm=true):z0w X (.builtin "sorted") (zhq X.K X.prog X.w):=by
 rintro pins s σ H xs us Q I rv ⟨G,p,L,kl,e,g,hp,hm,nd,hne,hz,q⟩;subst e;obtain⟨u,rfl,rx⟩:=z2O rv
 cases rx
 have hn:=z55;have hle:(63:Nat)<=sizeLine:=by decide
 refine z9j (M:=MemV X.K G) (I.ok.hd hc) (zf4 I g hp hm nd) hne (by lia) λs' out keep g1 g2 g3 g4 perm hti pw D hD he =>?_;obtain⟨e,he⟩:=he;obtain⟨h',g',d',tk',os'⟩:=s';dsimp only at g1 g2 g3 keep he;subst g1;subst g2;subst g3;have hti'  := λv hv=>(hti v hv).1;have hx:∃ys:List V,Vals ys out/\Tis X.K G ys (out.map (z6o s.heap)):=by
  clear perm pw he hti
  induction out with
  | nil=>exact⟨[],.nil,.nil⟩
  | cons v out ih=>
   obtain⟨ys,y1,y2⟩:=ih λv hv=>hti' v (wm _ hv);obtain⟨b,k,rfl,hb⟩:=hti' v wv;refine⟨.ref b::ys,.cons rfl y1,.cons ⟨b,rfl,?_⟩ y2⟩;rw[z6n (TK.ti (z7M I g hb))];exact hb
 obtain⟨ys,y1,y2⟩:=hx;have hl:ys.length=kl.length:=by rw[<- perm.length_eq,wd,y1.length]
 exact⟨.ref D,upd H D (.lst ys),I.laid' (o :=.lst ys) (t':=tk') keep hD ⟨by lia,out,e,y1,he⟩,rfl,q D ys _ (I.hok.none_of hD) y2 perm pw⟩
end
abbrev tupD (k:List Int):D :=.tup (k.map .int)
structure Rows (ks kl:List (List Int)):Prop where
 up:kl.Pairwise (λa b=>HT.z0r a b=true)
 mem:∀x,x∈kl↔x∈ks
def zai (d:D)(P:List (List Int)->Prop):Prop:=match d with
 | .lst l=>∃ks,l=ks.map tupD/\l.length<=63/\P ks
 | .tup l=>∃ks,l=ks.map tupD/\l.length<=63/\P ks
 | _=>False
def z9l {d:D}{P P':List (List Int)->Prop}(m:∀k,P k->P' k)(h:zai d P):zai d P':=by
 cases d with
 | lst l=>obtain⟨ks,a,b,c⟩:=h;exact⟨ks,a,b,m _ c⟩
 | tup l=>obtain⟨ks,a,b,c⟩:=h;exact⟨ks,a,b,m _ c⟩
 | _=>exact h.elim
def zdz (d:D)(Q:DK):Prop:=zai d λks=>(∀k∈ks,k≠[])/\∀kl,Rows ks kl->Q (.lst (kl.map tupD))
def z6b:Fn:=fn1 zdz λd Q Q' m h=>z9l (λks q=>⟨q.1,λkl z=>m _ (q.2 kl z)⟩) h
section
variable {X:Cx}{K:W.Frag}{mg:WmP}{E:XK}{G H:Hp}
theorem z65:∀{ks:List (List Int)}{xs:List V},RDs K mg G (ks.map tupD) xs->Tis K G xs ks
 | [],_,h=>by subst h;exact .nil
 | k::ks,_,h=>by
  obtain⟨x,r,rfl,h1,h2⟩:=h;obtain⟨a,ys,rfl,h3,h4⟩:=z1u h1;rw[z3h k h4] at h3;exact .cons ⟨a,rfl,h3⟩ (z65 h2)
def zeW:∀{ks:List (List Int)}{xs:List V},Tis K G xs ks->RDs K mg G (ks.map tupD) xs:=by
 intro ks xs h
 induction h with
 | nil=>rfl
 | cons h1 _ ih=>
  obtain⟨b,rfl,hb⟩:=h1;exact RDs.cons (RD.ofT hb (z4G _)) ih
def zcq {d:D}{v:V}{P:List (List Int)->Prop}(r:RD K mg G d v)(h:zai d P):∃a xs ks,v = .ref a/\(SqL K G a xs\/SqT K G a xs)/\Tis K G xs ks/\xs.length<=63/\P ks:=by
 cases d with
 | lst l=>
  obtain⟨ks,rfl,hl,q⟩:=h;obtain⟨a,xs,rfl,h1,h2⟩:=z1C r;exact⟨a,xs,ks,rfl,.inl h1,z65 h2,by rw[h2.len];exact hl,q⟩
 | tup l=>
  obtain⟨ks,rfl,hl,q⟩:=h;obtain⟨a,xs,rfl,h1,h2⟩:=z1u r;exact⟨a,xs,ks,rfl,.inr h1,z65 h2,by rw[h2.len];exact hl,q⟩
 | _=>exact h.elim
def zeg {kl:List (List Int)}(nd:kl.Nodup)(h:kl.Pairwise (λa b=>HT.z0r b a=false)):kl.Pairwise (λa b=>HT.z0r a b=true):=by
 induction kl with
 | nil=>exact .nil
 | cons a l ih=>
  rw[wQ] at h ⊢;rw[vB] at nd;refine⟨λb hb =>?_,ih nd.2 h.2⟩
  cases z:HT.z0r a b with
  | true=>rfl
  | false=>
   have e  := Tim.z8a a b z (h.1 b hb)
   simp_all
theorem z1M {α:Type}[DecidableEq α]:∀{l m:List α},l.Nodup->(∀x∈l,x∈m)->l.length<=m.length
 | [],_,_,_=>vf _
 | a::l,m,nd,h=>by
  rw[vB] at nd;have ha:=h a wv;have:=z1M nd.2 λx hx=>(List.mem_erase_of_ne (λ(e:x=a)=>nd.1 (by simp_all))).mpr (h x (wm _ hx))
  grind
def zdv {ks kl:List (List Int)}(nd:kl.Nodup)(h:∀x,x∈kl↔x∈ks):kl.length<=ks.length:=z1M nd λx hx=>(h x).mp hx
def z9y {e:Expr}{x:Ex}{p1 p2 p3 p4:Pos}(hu:X.A.units+64<cLine)(hc:X.calm=true)(hg:Gl X "sorted")(hm:X.mg "sorted"=none)(hg2:Gl X "set")(hm2:X.mg "set"=none)(ha:QXA X E [e] [x])
  (hs1:autoParam (starEach [e] X.env=(false,eval e X.env)::starEach [] X.env) jT) (hs2:autoParam (starEach [.Call (.Name "set" p2) [e] [] p3] X.env=(false,eval (.Call (.Name "set" p2) [e] [] p3) X.env)::starEach [] X.env) jT):QF X E (.Call (.Name "sorted" p1) [.Call (.Name "set" p2) [e] [] p3] [] p4) (.op z6b [x]):=
 QE.imp (z3K (z9Y hc) hg hm (by rfl) (z3x (z2W (zdQ hc hu) hg2 hm2 (by rfl) ha (by decide) (by decide) hs1 (by rfl)) z5L hs2) (by decide) (by decide) hs2 (by rfl)) <| by
  rintro σ H Q ⟨G,ρ,Q0,X0,hs,ab,hr,hk,hx⟩;refine⟨G,ρ,λds=>z6b.run ds Q0 X0,X0,hs,ab,hr,λds vs G1 H1 q g1 g2 g3 rds =>?_,hx⟩;obtain⟨d,rfl,q'⟩:=z1d q;obtain⟨v,rfl,rd⟩:=rds1 rds;obtain⟨a,xs,ks,rfl,h1,h2,h3,hne,h4⟩:=zcq rd q';refine⟨G1,a,xs,ks,rfl,g2,h1,h2,h3,λp L kl hp hM nd hmem =>?_⟩;have s1:Same H1 (upd H1 p (.ext (SetO X.prog X.w p L))):=z0f hp _;have hlen:ks.length=xs.length:=(za6 h2).symm;refine⟨G1,p,L,kl,rfl,z02 g2 s1,z06,hM,nd,λk hk=>hne k ((hmem k).mp hk),by have:=zdv nd hmem;lia,λD out kl' hD ht pm pw =>?_⟩;have hD1:H1 D=none:=by
   cases z:H1 D with
   | none=>rfl
   | some o=>rw[s1 D o z] at hD;cases hD
  have hD0:H D=none:=by
   cases z:H D with
   | none=>rfl
   | some o=>rw[g3 D o z] at hD1;cases hD1
  have s2:=z0f (H:=upd H1 p (.ext (SetO X.prog X.w p L))) hD (.lst out);refine hk (.lst (kl'.map tupD)) D G1 _ (h4 kl' ⟨zeg (pm.nodup_iff.mpr nd) pw,λz=>by rw[pm.mem_iff];exact hmem z⟩) g1 (z02 g2 (z02 s1 s2)) (z02 g3 (z02 s1 s2)) hD0 (z0S g2 hD1) ⟨out,z06,zeW ht⟩
end
end Pu
namespace Rev
open PySem PyProof.Rows
def zjg:typeLookup (.type "list_reverseiterator") "__len__"=pure none:=by
 rfl
def zdw:typeLookup (.type "list_reverseiterator") "__length_hint__"=pure (some (.builtin "list_reverseiterator.__length_hint__")):=by
 rfl
section
variable {prog:Program}{w:World}{A:Around}{E:WvP}{s:Shared}{R:Result->Shared->Prop}{r:Addr}
def zgl {Q:Bool->Shared->Prop}(ty:s.TypeIs (.ref r) "list_reverseiterator")(q:Q false s):wpAny (model prog w) A (Builtin.List.listLengthHint (.ref r)) Q E s:=by
 unfold Builtin.List.listLengthHint;refine wc (wpAny_specialOf ty zjg ?_);show wpAny _ A (specialOf (.ref r) (Str.ofString "__length_hint__") >>= _) Q E s;refine wc (wpAny_specialOf ty zdw ?_);generalize hn:("list_reverseiterator.__length_hint__":String)=n0
 wp_delta
 rw[show splitId n0=some ("list_reverseiterator","__length_hint__") from by rw[<- hn];decide +kernel];refine wc (wpAny_isInstance (b:=true) ty (by rw[isSubtype_type];kernel_rfl) ?_);subst hn;exact wf q
def z9T {fp wr:List Addr}{G:Array GenState->Array GenState->Prop}{n:Nat}{P:Nat->Value->Prop}{St:Nat->Shared->Prop}(W:WalksS prog w A.in1 r fp wr G n P St)(ty:∀i s,St i s->s.TypeIs (.ref r) "list_reverseiterator")(S:Addr)(res:Value)(c0:Nat)(st:St 0 s)(out:S ∉ fp)(mine:r∈fp)(hz:n<=sizeLine)
  (at_:s.heap.get? S=some { cls :=.type "list",data :=.seq #[] c0 }) (q:∀s' acc c,Moved (S::wr) G s s'->s'.heap.get? S=some { cls :=.type "list",dict:=none,data :=.seq acc c,slots := #[] }->ItemsOf P acc n->R (.ok (.ret res)) s'):
  wpAny (model prog w) A.in1 (Builtin.List.listExtendWith (.ref S) (.ref r) res) (λfin s'=>match fin with | .done f=>R (.ok f) s' | .again c'=>c'.quiet=true/\codeAny (model prog w) A c' R s') (λe s'=>R (.error e) s') s:=by
 have ne:S≠r:=λe=>out (by simp_all);refine wc (jG (ty 0 s st) ?_);have k1:Builtin.List.listSameRef (.ref S) (.ref r)=false:=by simp[Builtin.List.listSameRef,ne]
 have k2:(Value.type "list_reverseiterator" == .type "list")=false:=by decide
 have k3:(Value.type "list_reverseiterator" == .type "tuple")=false:=by decide
 rw[k1,k3];refine wc (W.self 0 s _ _ st (wc (vR (zgl (ty 0 s st) ?_))));exact wf ⟨uA F.plain_extend_loop _,codeAny_extend_loopS W hz S out res n 0 s #[] c0 rfl (vf _) st at_ (ItemsOf.nil P) q⟩
def zdx {fp wr:List Addr}{G:Array GenState->Array GenState->Prop}{n:Nat}{P:Nat->Value->Prop}{St:Nat->Shared->Prop}(W:WalksS prog w A.in1 r fp wr G n P St)(ty:∀i s,St i s->s.TypeIs (.ref r) "list_reverseiterator")(S:Addr)(st:St 0 s)(out:S ∉ fp)(mine:r∈fp)(hz:n<=sizeLine)
  (at_:s.heap.get? S=some { cls :=.type "list",data :=.seq #[] }) (q:∀s' acc c,Moved (S::wr) G s s'->s'.heap.get? S=some { cls :=.type "list",dict:=none,data :=.seq acc c,slots := #[] }->ItemsOf P acc n->R (.ok (.ret .none)) s'):
  wpAny (model prog w) A.in1 (Builtin.«list.__init__» ⟨[.ref S,.ref r],[]⟩) (λfin s'=>match fin with | .done f=>R (.ok f) s' | .again c'=>c'.quiet=true/\codeAny (model prog w) A c' R s') (λe s'=>R (.error e) s') s:=by
 show wpAny _ A.in1 (Builtin.List.listItems (.ref S) >>= λold=>Builtin.List.listUpdate (.ref S) _ >>= λ_=>letGo _ >>= λ_=>Builtin.List.listExtendWith (.ref S) (.ref r) .none) _ _ s;refine wc (wc (vP at_ rfl (wf ?_)));refine wc (jo at_ rfl (wc (jE ?_)));have keep:∀b o,b≠S->s.heap.get? b=some o->(s.heap.update S (Obj.mapSeq λ_=>(#[]))).get? b=some o:=λb o z e=>by rw[vk _ _ (vF z)];exact e
 refine z9T W ty S .none _ (W.frame 0 s _ s.toks st (wp _) λb hb o e=>keep b o (λz=>out (z ▸ hb)) e) out mine hz (vp _ at_ rfl) λs' acc c mv e it=>q s' acc c ?_ e it;exact Moved.trans W.gtrans ((Moved.refl W.grefl).then_heap (wp _) λb o hb e=>keep b o (λz=>hb (by simp_all)) e) mv
end
end Rev
namespace Pu
open PySem PySem.Spec PyProof.Rows L2 Tab
def Ex.callv (T:Nat->Fn)(i:Nat)(es:List Ex):Ex:=⟨λρ Q Xp=>∃n,ρ.get i=some (.fn n)/\runs es ρ (λds=>(T n).run ds Q Xp) Xp,λρ Q Q' Xp X' m mx ⟨n,e,q⟩=>⟨n,e,z2U es ρ _ _ Xp X' (λds q1=>(T n).mono ds Q Q' Xp X' m mx q1) mx q⟩⟩
def FTab (P:Program)(w:World)(K:W.Frag)(mg:WmP)(base:Heap)(CX:CXT)(k:Nat)(T:Nat->Fn):Prop:=∀n f,mg (z5h n)=some (.ref f)->∃j fd ps,j<=k/\FnOk P w K mg base CX j f fd ps (spP K mg (T n))/\W.keepIn K (.ref f)=true/\z5E K fd ps []
def FTab.mk {P:Program}{w:World}{K:W.Frag}{mg:WmP}{base:Heap}{CX:CXT}{k:Nat}{T:Nat->Fn}(hz:mg ""=none)
  (h:∀n<4,∀f,mg (z5h n)=some (.ref f)->∃j fd ps,j<=k/\FnOk P w K mg base CX j f fd ps (spP K mg (T n))/\W.keepIn K (.ref f)=true/\z5E K fd ps []):FTab P w K mg base CX k T:=λn f e=>by
 by_cases hn:n<4
 .exact h n hn f e
 .rw[show z5h n="" from by
   match n,hn with
   | 0,h=>simp_all
   | 1,h=>simp_all
   | 2,h=>simp_all
   | 3,h=>simp_all
   | n+4,_=>rfl,hz] at e
  cases e
def _root_.L2.Cal.tab {P:Program}{w:World}{K:W.Frag}{mg:WmP}{base:Heap}{CX:CXT}{j k:Nat}{x:Str}{ps:List Str}{F:Fn}(C:Cal P w K mg base CX j x ps (spP K mg F))(h:j<=k)(f:Addr)(e:mg x=some (.ref f)):∃j fd ps,j<=k/\FnOk P w K mg base CX j f fd ps (spP K mg F)/\W.keepIn K (.ref f)=true/\z5E K fd ps []:=by
 obtain⟨f',fd,F',hm,hk,hb⟩:=C.ex;rw[hm] at e;cases e;exact⟨j,fd,ps,h,F',hk,hb⟩
section
variable {X:Cx}{E:XK}{CX:CXT}{e:Expr}{es:List Expr}{xs:List Ex}{pos:Pos}
def zh1 (X:Cx)(CX:CXT)(E:XK)(i:Nat)(t:TA):TE:=λσ H Q=>∃f fd ps sp k,σ[i]? = some (some (.ref f))/\FnOk X.prog X.w X.K X.mg X.base CX k f fd ps sp/\Room k X.A/\W.keepIn X.K (.ref f)=true/\z5E X.K fd ps []/\t σ H λvs H1=>sp (vs++[]) H1 Q E
def zd7 {x:Str}{i:Nat}{p:Pos}{t:TA}(hx:z42 CX X E)(hv:PE X (.Name x p) (tVar i))(ha:PA X (e::es) t)(he:autoParam (starEach (e::es) X.env=(false,eval e X.env)::starEach es X.env) jT)(hpl:autoParam ((backTo pos (starEach es X.env)).any (·.1)=false) jT):
  PE X (.Call (.Name x p) (e::es) [] pos) (zh1 X CX E i t):=by
 rintro pins s σ H Q I ⟨f,fd,ps,sp,k,hσ,F,hr,hk,hb,h⟩;refine jJ (thn (hv _ s σ H (λv H1=>v = .ref f/\t σ H1 _) I ⟨_,hσ,rfl,h⟩) λu s1 z9 =>?_);obtain⟨v,H1,I1,rv,ev,q⟩:=z9;subst ev
 cases rv
 exact W.callWith_K I1.ok.mod.kin hk (thn (ha pos _ s1 σ H1 _ I1 q) λus s2 ⟨vs,H2,I2,r,q2⟩=>⟨I2.kIn,zec F hr hb .nil hx I2 r q2⟩) he hpl
def zcL {T:Nat->Fn}{k:Nat}{x:Str}{i:Nat}{p:Pos}(tb:FTab X.prog X.w X.K X.mg X.base CX k T)(hr:Room k X.A)(hx:z42 CX X E)(hv:QE X (.Name x p) (tVar i))(ha:QXA X E (e::es) xs)
  (he:autoParam (starEach (e::es) X.env=(false,eval e X.env)::starEach es X.env) jT) (hpl:autoParam ((backTo pos (starEach es X.env)).any (·.1)=false) jT):QX X E (.Call (.Name x p) (e::es) [] pos) (.callv T i xs):=
 ⟨PE.imp (zd7 hx hv.p ha.p he hpl) <| by
  rintro σ H Q ⟨G,ρ,Q0,X0,hs,ab,⟨n,hn,hr'⟩,hk,hx'⟩;obtain⟨v,h1,h2⟩:=ab i _ hn;obtain⟨f,rfl,hm⟩:=h2;obtain⟨j,fd,ps,hj,F,hkp,hb⟩:=tb n f hm;refine⟨f,fd,ps,_,j,h1,F,hr.mono hj,hkp,hb,G,ρ,_,X0,hs,ab,hr',λds vs G' H' q g1 g2 g3 rds =>?_,hx'⟩;show spP X.K _ _ _ H' Q E;rw[vJ];exact⟨G',ds,Q0,X0,g2,rds,q,hk.same g1 g3,hx'.same g3⟩⟩
def zei {x:Str}{n k:Nat}{ps:List Str}{sp:Sp}{p:Pos}(hn:z5h n=x)(hg:Gl X x)(C:Cal X.prog X.w X.K X.mg X.base CX k x ps sp)(hd:(x == ("__debug__":Str))=false):QX X E (.Name x p) (.c (.fn n)):=by
 obtain⟨f,fd,F',hm,hk,hb⟩:=C.ex;exact qx_c (v :=.ref f) ⟨zaQ hg hm rfl hd⟩ λ_=>by rw[RD];simp_all
end
def _root_.L2.Inv.spent {X:Cx}{H:Hp}{pins:List (Addr × Obj)}{σ:L2.St}{s:Shared}{h':Heap}{r a:Addr}{φ:Heap->Prop}{o:HO}{t':Nat}(I:Inv X pins σ (upd H r (.ext φ)) s)(hr:H r=none)(h0:X.s₀.heap.objs.size<=r)(k:∀b u,b≠r->s.heap.get? b=some u->h'.get? b=some u)(hp:s.heap.get? a=none)
  (new:z1j X.prog X.w (upd H a o) h' a o):Inv X pins σ (upd H a o) { s with heap:=h',toks:=t' }:=by
 have Hr:upd H r (.ext φ) r=some (.ext φ):=z06;have back:∀b (u:HO),upd H r (.ext φ) b=some u->(∀ψ,u ≠ .ext ψ)->H b=some u/\b≠r:=λb u e z=>by
  have hb:b≠r:=λy=>by rw[y,Hr] at e;cases e;exact z φ rfl
  rw[z04 hb] at e;exact⟨e,hb⟩
 have hn0:=I.hok.none_of hp;have har:a≠r:=λy=>by rw[y,Hr] at hn0;cases hn0
 have hn:H a=none:=by rw[z04 har] at hn0;exact hn0
 have ne:∀b u,s.heap.get? b=some u->b≠a:=λb u e z=>by rw[z,hp] at e;cases e
 have neH:∀b u,H b=some u->b≠a:=λb u e z=>by rw[z,hn] at e;cases e
 have out:∀b,upd H r (.ext φ) b=none->b≠r/\H b=none:=λb e=>by
  have hb:b≠r:=λy=>by rw[y,Hr] at e;cases e
  rw[z04 hb] at e;exact⟨hb,e⟩
 have same:∀b (u:HO),upd H r (.ext φ) b=some u->(∀ψ,u ≠ .ext ψ)->upd H a o b=some u:=λb u e z=>by
  obtain⟨e',_⟩:=back b u e z;rw[z04 (neH b u e')];exact e'
 refine I.step (g':=s.gens) (d':=s.drawn) (ch:=[r]) (λb hb =>?_) (λb u _ _ hc e _=>k b u (λz=>hc (by simp[z])) e) (λb u _ _ hc e _=>⟨u.slots,k b u (λz=>hc (by simp[z])) e⟩) (λb u _ e q=>by rw[z04 (ne b u e)];exact(out b q).2)
  (λb u hc e=>⟨u,k b u (λz=>hc (by simp[z])) e⟩) (λb xs e=>same b _ e λ_=>nofun) (λb u v e=>same b _ e λ_=>nofun) (λb ps e=>⟨#[],by rw[same b _ e λ_=>nofun,Array.append_empty]⟩) (λm hm =>?_) (λb u e =>?_) I.bare
 .have e:b=r:=by simpa using hb
  subst e;exact⟨.inr h0,(λz=>(out _ I.free).1 z.symm),λx c e=>(out c (I.freeC x c e)).1,λp hp=>(out _ (I.pin p hp).2.1).1⟩
 .obtain⟨u,es,ep,ho,q⟩:=hm;exact⟨u,es,ep,k _ u (out _ I.free).1 ho,q⟩
 by_cases hb:b=a
 .subst hb;rw[z06] at e;cases e;exact new
 rw[z04 hb] at e;have hbr:b≠r:=λz=>by rw[z,hr] at e;cases e
 have e':upd H r (.ext φ) b=some u:=by rw[z04 hbr];exact e
 refine(I.hok b u e').stay (λc v hc q=>k c v ?_ q) (λc q=>same c _ q λ_=>nofun) (λc xs q=>same c _ q λ_=>nofun) λc _ _ q=>same c _ q λ_=>nofun
 grind
def RevO (r a:Addr)(n:Nat)(h:Heap):Prop:=h.IsRevIter r a ((n:Int) - 1)
section
variable {X:Cx}{E:XK}
def rRev (X:Cx):List V->Hp->VK->Prop:=λvs H Q=>∃a ys,vs=[.ref a]/\SqL X.K H a ys/\∀r,H r=none->X.s₀.heap.objs.size<=r->Q (.ref r) (upd H r (.ext (RevO r a ys.length)))
def zdR:z0w X (.type "reversed") (rRev X):=by
 rintro pins s σ H xs us Q I rv ⟨a,ys,e,hS,q⟩;subst e;obtain⟨u,rfl,rx⟩:=z2O rv
 cases rx
 obtain⟨its,r,pl,hz⟩:=I.list hS;have hlen:=r.length;refine call_reversed_list pl.isList ⟨.ref _,_,I.laid (o :=.ext _) (λb o e=>we _ e) (wp _) ⟨⟨_,wn _ rfl,rfl,by simp[revObj,hlen]⟩,⟨_,wn _ rfl⟩,λh1 h2 x st=>x.at st⟩,rfl,q _ (I.hok.fresh (wp _)) I.sz⟩
def zcE (X:Cx):List V->Hp->VK->Prop:=λvs H Q=>∃r a ys H1,vs=[.ref r]/\H=upd H1 r (.ext (RevO r a ys.length))/\H1 r=none/\X.s₀.heap.objs.size<=r/\SqL X.K H1 a ys/\∀d,H1 d=none->Q (.ref d) (upd H1 d (.lst ys.reverse))
def z7w (hc:X.calm=true):z0w X (.type "list") (zcE X):=by
 rintro pins s σ H xs us Q I rv ⟨r,a,ys,H1,e,eH,hr,h0,hS1,q⟩;subst e;subst eH;have hS:=z14 (z0f hr (.ext (RevO r a ys.length))) hS1;obtain⟨u,rfl,rx⟩:=z2O rv
 cases rx
 have hh:X.A.handled=none:=I.ok.hd hc;obtain⟨its,rv',pl,hz⟩:=I.list hS;have hlen:=rv'.length;have hR:s.heap.IsRevIter r a ((ys.length:Int) - 1):=(show z1j X.prog X.w _ s.heap r (.ext (RevO r a ys.length)) from I.hok r _ z06).1;have hra:a≠r:=by
  obtain⟨o,ho,hc',_⟩:=hR;obtain⟨o',ho',hc'',_⟩:=pl.isList;intro z;rw[z,ho] at ho';cases ho';rw[hc'] at hc''
  injection hc'' with h
  exact absurd h (by decide)
 have W:=(Walks.listRev (prog:=X.prog) (w:=X.w) (A:=X.A.in1.in1) (by simp[hh]) r a hra its.toArray).toS;have sz:its.toArray.size=ys.length:=by simp[hlen]
 refine callType_codes (Q₁:=λv s1=>v = .ref s.heap.objs.size/\s1={ s with heap:=s.heap.push { cls :=.type "list",data :=.seq #[] } }) F.called_list (F.typeCall_list_1 _) F.entry_list_init (code_list_new _ ⟨rfl,rfl⟩) λv s1 hv =>?_;obtain⟨rfl,rfl⟩:=hv;have hD:(s.heap.push { cls :=.type "list",data :=.seq #[] }).get? s.heap.objs.size=some { cls :=.type "list",data :=.seq #[] }:=wn _ rfl;have hlt:∀{b:Addr}{o:Obj},s.heap.get? b=some o->b≠s.heap.objs.size:=λe=>wz (wo e);obtain⟨o1,ho1,hc1,hd1⟩:=hR;obtain⟨o2,ho2,n2⟩:=pl.isList;refine⟨⟨_,hD,rfl⟩,F.args_list_init_2 _ _,Rev.zdx (A:=X.A.in1) W (λi s st=>st.2.1.typeIs) s.heap.objs.size ⟨vf _,⟨o1,we _ ho1,hc1,by rw[hd1,sz];simp⟩,⟨o2,we _ ho2,n2⟩⟩ (by
  simp only[wg,wA,vS,not_or];exact⟨vF (hlt ho1),vF (hlt ho2)⟩) (by simp) (by rw[sz];exact hz) hD λs' acc c mv hS' it=>⟨rfl,?_⟩⟩
 have keep:∀b o,b≠r->s.heap.get? b=some o->s'.heap.get? b=some o:=λb o hb e=>mv.heap b o (by
  simp only[wg,wA,vS,not_or];exact⟨hlt e,hb⟩) (we _ e)
 obtain⟨h',g',d',tk',os'⟩:=s';have eg:g'=s.gens:=mv.gens;have ed:d'=s.drawn:=mv.drawn;have eo:os'=s.os:=mv.os;subst eg;subst ed;subst eo;have acc':acc.toList=its.reverse:=by
  apply List.ext_getElem?;intro k
  by_cases hk:k<its.length
  .have hk':k<acc.size:=by rw[it.1,sz,hlen];exact hk
   have:=it.2 k acc[k] (jI acc k hk');rw[uv,jI acc k hk',List.getElem?_reverse hk, <- this];simp
  .have hk':¬ k<acc.size:=by rw[it.1,sz,hlen];exact hk
   rw[uv,getElem?_neg acc k hk',uq (by simp;lia)]
 have hsz:s.heap.get? s.heap.objs.size=none:=by
  cases z:s.heap.get? s.heap.objs.size with
  | none=>rfl
  | some o=>exact absurd (wo z) (vj _)
 have hn1:H1 s.heap.objs.size=none:=by
  have:=I.hok.none_of hsz
  cases z:H1 s.heap.objs.size with
  | none=>rfl
  | some o=>rw[z0f hr _ _ _ z] at this;cases this
 refine⟨.ref s.heap.objs.size,_,I.spent (o :=.lst ys.reverse) (t':=tk') hr h0 keep hsz ⟨by simpa using hz,its.reverse,c,rv'.reverse,?_⟩,rfl,q _ hn1⟩;rw[<- acc'];exact hS'
end
section
variable {X:Cx}{K:W.Frag}{mg:WmP}{E:XK}{G H:Hp}
def zdA (d:D)(Q:DK):Prop:=isLs d λl=>Q (.lst l.reverse)
def z1H:Fn:=fn1 zdA λd Q Q' m h=>z7m (λl q=>m _ q) h
def zbp {d:D}{P:List D->Prop}(h:isLs d P):∃l,d = .lst l/\P l:=by
 cases d with
 | lst l=>exact⟨l,rfl,h⟩
 | _=>exact h.elim
def z46 {e:Expr}{x:Ex}{p1 p2 p3 p4:Pos}(hc:X.calm=true)(hg:Gl X "list")(hm:X.mg "list"=none)(hg2:Gl X "reversed")(hm2:X.mg "reversed"=none)(ha:QXA X E [e] [x])
  (hs1:autoParam (starEach [e] X.env=(false,eval e X.env)::starEach [] X.env) jT) (hs2:autoParam (starEach [.Call (.Name "reversed" p2) [e] [] p3] X.env=(false,eval (.Call (.Name "reversed" p2) [e] [] p3) X.env)::starEach [] X.env) jT):QF X E (.Call (.Name "list" p1) [.Call (.Name "reversed" p2) [e] [] p3] [] p4) (.op z1H [x]):=
 QE.imp (z2W (z7w hc) hg hm (by rfl) (z3x (z2W zdR hg2 hm2 (by rfl) ha (by decide) (by decide) hs1 (by rfl)) z5L hs2) (by decide) (by decide) hs2 (by rfl)) <| by
  rintro σ H Q ⟨G,ρ,Q0,X0,hs,ab,hr,hk,hx⟩;refine⟨G,ρ,λds=>z1H.run ds Q0 X0,X0,hs,ab,hr,λds vs G1 H1 q g1 g2 g3 rds =>?_,hx⟩;obtain⟨d,rfl,q'⟩:=z1d q;obtain⟨v,rfl,rd⟩:=rds1 rds;obtain⟨l,rfl,q2⟩:=zbp q';obtain⟨a,xs,rfl,h1,h2⟩:=z1C rd;refine⟨a,xs,rfl,z14 g2 h1,λr hr0 hr1=>⟨r,a,xs,H1,rfl,rfl,hr0,hr1,z14 g2 h1,λd hd =>?_⟩⟩;have hd0:H d=none:=by
   cases z:H d with
   | none=>rfl
   | some o=>rw[g3 d o z] at hd;cases hd
  exact hk (.lst l.reverse) d G1 _ q2 g1 (z02 g2 (z0f hd _)) (z02 g3 (z0f hd _)) hd0 (z0S g2 hd) ⟨xs.reverse,z06,h2.rev⟩
open Classical in
def z7G {s:Shared}{a:D}{l:List D}{xs:List V}{its:List Value}{pins:List (Addr × Obj)}{σ:L2.St}(I:Inv X pins σ H s)(g:Same G H)(hu:X.A.units+64<cLine){v:V}{u:Value}(ra:RD X.K X.mg G a v)(rv:RelV v u)(hd:Da 60 a)(hl:∀d∈l,Da 60 d)(rds:RDs X.K X.mg G l xs)(rr:Vals xs its):
  ∃e:Value->Bool,(∀y∈its,SeqAt.EqAt X.A.in1 s y u (e y))/\its.any e=l.any (λd=>deq d a)/\∀(i:Nat) (y:Value) (d:D),its[i]? = some y->l[i]? = some d->e y=deq d a:=by
 obtain⟨as,r1⟩:=Rp.reads I (py a) ((Da.rp 60 _ hd ra).same g) rv;have key:∀(d:D) (x:V) (y:Value),Da 60 d->RD X.K X.mg G d x->RelV x y->SeqAt.EqAt X.A.in1 s y u (deq d a):=λd x y h1 h2 h3=>by
  obtain⟨bs,r2⟩:=Rp.reads I (py d) ((Da.rp 60 _ h1 h2).same g) h3;obtain⟨c1,c2⟩:=Da.canLay 60 d h1;obtain⟨c3,c4⟩:=Da.canLay 60 a hd;exact SeqAt.eqAt_reads (py d) (py a) X.A.in1 s y u bs as r2 r1 c1 c3 (by
   have:min (py d).depth (py a).depth<=60:=wI (Nat.min_le_left _ _) c2;have:X.A.in1.units<=X.A.units+1:=by simp
   lia)
 let e:Value->Bool:=λy=>if h:∃dt bs,Reads s.heap y dt bs/\dt.canLay0=true then PyData.eqv h.choose (py a) else false
 have he:∀(d:D) (x:V) (y:Value),Da 60 d->RD X.K X.mg G d x->RelV x y->e y=deq d a:=λd x y h1 h2 h3=>by
  obtain⟨bs,r2⟩:=Rp.reads I (py d) ((Da.rp 60 _ h1 h2).same g) h3;have c1:=(Da.canLay 60 d h1).1;have h:∃dt bs,Reads s.heap y dt bs/\dt.canLay0=true:=⟨_,bs,r2,c1⟩
  show (if h:∃dt bs,Reads s.heap y dt bs/\dt.canLay0=true then PyData.eqv h.choose (py a) else false)=deq d a;rw[dif_pos h];obtain⟨cs,z1,z2⟩:=h.choose_spec;rw[(Reads.unique z1 _ _ r2).1]
  rfl
 refine⟨e,?_⟩
 clear_value e
 induction l generalizing xs its with
 | nil=>
  rw[RDs] at rds;subst rds
  cases rr
  exact⟨λy hy=>(by cases hy),rfl,λi y d h=>(by simp at h)⟩
 | cons d l ih=>
  rw[RDs] at rds;obtain⟨x,xs',rfl,h1,h2⟩:=rds
  cases rr with
  | cons rx rr=>
   obtain⟨i1,i2,i3⟩:=ih (λd hd=>hl d (wm _ hd)) h2 rr;have hd0:=hl d wv;refine⟨λy hy =>?_,by rw[List.any_cons,List.any_cons,he d x _ hd0 h1 rx,i2],λi y d' e1 e2 =>?_⟩
   rotate_left
   .cases i with
    | zero=>
     rw[List.getElem?_cons_zero] at e1 e2
     cases e1
     cases e2
     exact he d x _ hd0 h1 rx
    | succ i=>exact i3 i y d' (by rwa [uB] at e1) (by rwa [uB] at e2)
   rcases wg.mp hy with rfl | hy
   .rw[he d x _ hd0 h1 rx];exact key d x _ hd0 h1 rx
   .exact i1 y hy
def z8w:∀{xs:List V}{ks:List (List Int)}{its:List Value}{i:Nat}{y:Value},Tis K G xs ks->Vals xs its->its[i]? = some y->∃b k,xs[i]? = some (.ref b)/\ks[i]? = some k/\y = .ref b/\SqT K G b (k.map V.int):=by
 intro xs ks its i y h;unfold Tis at h
 induction h generalizing its i with
 | nil=>intro r e;cases r;simp at e
 | cons h1 _ ih=>
  intro r e
  cases r with
  | cons r1 r2=>
   obtain⟨b,rfl,hb⟩:=h1
   cases i with
   | zero=>simp at e;subst e;cases r1;exact⟨b,_,rfl,rfl,rfl,hb⟩
   | succ i=>simpa using ih r2 (by simpa using e)
end
end Pu
namespace Pu
open PySem L2
def z0g:Fn:=Fn.mkN 2 5 (.seq (.set 2 (.op pAbs [.v 0]))
 (.seq (.set 3 (.op pAbs [.v 1]))
 (.seq (.wh (.op pNe [.v 3,.c (.int 0)]) (.seq (.set 4 (.op pMod [.v 2,.v 3]))
 (.seq (.set 2 (.v 3))
 (.set 3 (.v 4)))))
 (.ret (.v 2)))))
def z1m:Fn:=Fn.mkN 2 2 (.ret (.op pSub [.op z0h [.op pIx [.v 0,.c (.int 0)],.op pIx [.v 1,.c (.int 1)]],.op z0h [.op pIx [.v 0,.c (.int 1)],.op pIx [.v 1,.c (.int 0)]]]))
def z0q:Fn:=Fn.mkN 2 2 (.ret (.op pTup [.op pSub [.op pIx [.v 1,.c (.int 0)],.op pIx [.v 0,.c (.int 0)]],.op pSub [.op pIx [.v 1,.c (.int 1)],.op pIx [.v 0,.c (.int 1)]]]))
def z32:Fn:=Fn.mkN 3 3 (.ret (.op z1m [.op z0q [.v 0,.v 1],.op z0q [.v 1,.v 2]]))
def z7p:Fn:=Fn.mkN 3 5 (.seq (.set 3 (.op pSub [.op z0h [.op pIx [.v 1,.c (.int 0)],.op pIx [.v 2,.c (.int 2)]],.op z0h [.op pIx [.v 2,.c (.int 0)],.op pIx [.v 1,.c (.int 2)]]]))
 (.seq (.set 4 (.op pSub [.op z0h [.op pIx [.v 1,.c (.int 1)],.op pIx [.v 2,.c (.int 2)]],.op z0h [.op pIx [.v 2,.c (.int 1)],.op pIx [.v 1,.c (.int 2)]]]))
 (.ret (.op pAdd [.op pSub [.op z0h [.op pIx [.v 0,.c (.int 0)],.v 4],.op z0h [.op pIx [.v 0,.c (.int 1)],.v 3]],.op z0h [.op pIx [.v 0,.c (.int 2)],.op pSub [.op z0h [.op pIx [.v 1,.c (.int 0)],.op pIx [.v 2,.c (.int 1)]],.op z0h [.op pIx [.v 1,.c (.int 1)],.op pIx [.v 2,.c (.int 0)]]]]]))))
def z7q:Fn:=Fn.mkN 2 5 (.seq (.set 2 (.op pSub [.op z0h [.op pIx [.v 1,.c (.int 0)],.op pIx [.v 0,.c (.int 2)]],.op z0h [.op pIx [.v 0,.c (.int 0)],.op pIx [.v 1,.c (.int 2)]]]))
 (.seq (.set 3 (.op pSub [.op z0h [.op pIx [.v 1,.c (.int 1)],.op pIx [.v 0,.c (.int 2)]],.op z0h [.op pIx [.v 0,.c (.int 1)],.op pIx [.v 1,.c (.int 2)]]]))
 (.seq (.set 4 (.op z0g [.v 2,.v 3]))
 (.ret (.op pTup [.op z21 [.v 2,.v 4],.op z21 [.v 3,.v 4]])))))
def z8e:Nat->Fn
 | 0=>z32
 | 1=>z7p
 | 2=>z0q
 | 3=>z7q
 | _=>⟨λ_ _ _=>False,λ_ _ _ _ _ _ _ z=>z⟩
def z2v:Fn:=Fn.mkN 2 4 (.seq (.own 2 (.op pLst []))
 (.seq (.for_ [] (.nm 3) (.v 0) (.seq (.wh (.and (.op pGt [.op pLen [.v 2],.c (.int 1)]) (.op pLe [.callv z8e 1 [.op pIx [.v 2,.op pNeg [.c (.int 2)]],.op pIx [.v 2,.op pNeg [.c (.int 1)]],.v 3],.c (.int 0)])) (.pop 2))
 (.app 2 (.v 3))))
 (.ret (.v 2))))
def z1V:Fn:=Fn.mkN 2 4 (.seq (.ifs (.op pLt [.op pLen [.v 0],.c (.int 2)]) (.ret (.op z1N [.v 0])) .skip)
 (.seq (.set 2 (.op z2v [.v 0,.v 1]))
 (.seq (.set 3 (.op z2v [.op z1H [.v 0],.v 1]))
 (.ret (.op z1N [.op pAdd [.sl (.v 2) none (some (.op pNeg [.c (.int 1)])),.sl (.v 3) none (some (.op pNeg [.c (.int 1)]))]])))))
def z05:Fn:=Fn.mkN 1 1 (.ret (.op z1V [.op z6b [.v 0],.c (.fn 0)]))
def z1K:Fn:=Fn.mkN 2 2 (.ret (.op pAdd [.op z0h [.op pIx [.v 0,.c (.int 0)],.op pIx [.v 1,.c (.int 0)]],.op z0h [.op pIx [.v 0,.c (.int 1)],.op pIx [.v 1,.c (.int 1)]]]))
open PySem.Spec PyProof.Rows
def gAll (d:D)(Q:DK):Prop:=∃bs:List Bool,d = .lst (bs.map .bl)/\Q (.bl (bs.all id))
def pAll:Fn:=fn1 gAll λd Q Q' m h=>by
 obtain⟨bs,e,q⟩:=h;exact⟨bs,e,m _ q⟩
def zl1 {bs:List Bool}{Q:DK}{X:XP}(q:Q (.bl (bs.all id))):pAll.run [.lst (bs.map .bl)] Q X:=⟨bs,rfl,q⟩
section
variable {X:Cx}
theorem zaw {K:W.Frag}{mg:WmP}{G:Hp}:∀(bs:List Bool) {xs:List V},RDs K mg G (bs.map .bl) xs->xs=bs.map .bl
 | [],xs,h=>by
  rw[uN,RDs] at h;exact h
 | b::bs,xs,h=>by
  rw[wE,RDs] at h;obtain⟨v,r,rfl,h1,h2⟩:=h;rw[zaw bs h2,z6Y h1]
  rfl
def zeO (hc:X.calm=true):z0w X (.builtin "all") (rN X.K X.mg pAll):=(zc0 hc).imp <| by
 rintro vs H Q ⟨G,ds,Q0,X0,g,rds,hr,hk⟩;obtain⟨d,rfl,hr'⟩:=z1d hr;obtain⟨v,rfl,rd⟩:=rds1 rds;obtain⟨bs,rfl,q⟩:=hr';obtain⟨a,xs,rfl,h1,h2⟩:=z1C rd;rw[zaw bs h2] at h1;exact⟨a,bs,rfl,z14 g h1,hk.now g q RD.bl'⟩
end
def z0e:Fn:=Fn.mkN 2 2 (.seq (.ifs (.op pLt [.v 1,.op pLen [.v 0]]) (.ret (.op pIx [.v 0,.v 1])) .skip)
 (.ret (.c (.int 0))))
def z0F:Fn:=Fn.mkN 2 2 (.ret (.op pTup [.op pAdd [.op pIx [.v 0,.c (.int 0)],.op pIx [.v 1,.c (.int 0)]],.op pAdd [.op pIx [.v 0,.c (.int 1)],.op pIx [.v 1,.c (.int 1)]]]))
def z3n:Fn:=Fn.mkN 1 1 (.ret (.op z05 [.comp 1 [0] (.nm 0) (.op pIx [.v 0,.c (.int 0)]) none (.op z0F [.v 0,.op pIx [.v 1,.c (.int 1)]])]))
open PySem.Spec PyProof.Rows
def Sm.never:Sm:=⟨λ_ _ _ _=>False,λ_ _ _ _ _ _ _ _ _ _ q=>q⟩
def zcH {X:Cx}{E:XK}{st:Stmt}:QZ X E st .never:=QS.imp zcP <| by rintro _ _ _ ⟨_,_,_,_,_,_,_,_,hr,_⟩;exact hr
section
variable {P:Program}{w:World}{K:W.Frag}{mg:WmP}{base:Heap}{f:Addr}{qual:Str}{N:List Str}
def fnM {x:Str}{st:Stmt}{fd:FuncData}{ps:List Str}{k np nn:Nat}{b:Sm}(F:Fun K x qual st f fd)(S:z4m N ps (z07 st))
  (hb:∀(cdv:Value) (A:Around) (outer:List PySem.Env) (s:Shared) (H:Hp) (E:XK),Room k (A.deeper (envOfC qual (z07 st) s.heap.objs.size f cdv))->(A.deeper (envOfC qual (z07 st) s.heap.objs.size f cdv)).units+64<cLine->QZs ((cxOf (CXe P w) P w K mg base N qual (z07 st) f cdv A outer s H E).wish λ_ _=>False) E0 (z1A st) b) (hp:autoParam (ps.length=np) jT) (hN:autoParam (N.length=nn) jT):
  FnOk P w K mg base (CXe P w) (k+1) f fd ps (spP K mg (Fn.mkN np nn b)):=fnN F S hp hN λcdv A outer s H E hr=>hb cdv A outer s H E hr hr.units
end
def z6v:Fn:=Fn.mkN 2 7 (.seq (.set 2 (.op z0g [.op pIx [.v 0,.c (.int 1)],.op pIx [.v 1,.c (.int 1)]]))
 (.seq (.set 3 (.op z21 [.op pIx [.v 1,.c (.int 1)],.v 2]))
 (.seq (.set 4 (.op z21 [.op pIx [.v 0,.c (.int 1)],.v 2]))
 (.seq (.set 5 (.op pAdd [.op z0h [.op pIx [.v 0,.c (.int 0)],.v 3],.op z0h [.op pIx [.v 1,.c (.int 0)],.v 4]]))
 (.seq (.set 6 (.op z0g [.v 2,.v 5]))
 (.ret (.op pTup [.op z21 [.v 5,.v 6],.op z0h [.v 4,.op z21 [.op pIx [.v 1,.c (.int 1)],.v 6]]])))))))
def z0a:Fn:=Fn.mkN 2 3 (.seq (.set 2 (.op pAdd [.op z0h [.c (.int 2),.v 1],.c (.int 1)]))
 (.ret (.op pTup [.op pSub [.op pMod [.v 0,.v 2],.v 1],.op pSub [.op pMod [.op z21 [.v 0,.v 2],.v 2],.v 1]])))
def z0n:Fn:=Fn.mkN 1 7 (.seq (.set 1 (.op pIx [.op pLst [.c (.int 3),.c (.int 12),.op pPow [.c (.int 10),.c (.int 9)]],.op pMod [.op z21 [.op pIx [.v 0,.c (.int 0)],.c (.int 2)],.c (.int 3)]]))
 (.seq (.own 2 (.op pLst []))
 (.seq (.set 3 (.c (.int 1)))
 (.seq (.wh (.and (.op pLt [.v 3,.op z9C [.op pLen [.v 0],.c (.int 61)]]) (.op pLt [.op pLen [.v 2],.c (.int 12)])) (.seq (.set 4 (.op pAdd [.c (.int 1),.op pMod [.op pIx [.v 0,.v 3],.c (.int 12)]]))
 (.seq (.set 5 (.op z21 [.op pIx [.v 0,.v 3],.c (.int 12)]))
 (.seq (.own 6 (.op pLst [.op z0a [.v 5,.v 1]]))
 (.seq (.ext 6 (.comp 1 [1] (.nm 0) (.sl (.v 0) (some (.op pAdd [.v 3,.c (.int 1)])) (some (.op z9C [.op pAdd [.v 3,.v 4],.c (.int 61)]))) none (.op z0a [.v 0,.v 1])))
 (.seq (.app 2 (.op pTup [.op z1N [.v 6],.op z0a [.op z21 [.v 5,.op pPow [.op pAdd [.op z0h [.c (.int 2),.v 1],.c (.int 1)],.c (.int 2)]],.v 1]]))
 (.set 3 (.op pAdd [.v 3,.v 4]))))))))
 (.ret (.op z1N [.v 2]))))))
def z00:Fn:=Fn.mkN 3 5 (.seq (.set 3 (.c (.int 170141183460469231731687303715884105727)))
 (.seq (.set 4 (.op pMod [.op z0h [.op pAdd [.op pMod [.v 0,.v 3],.op z0h [.op pAdd [.v 1,.c (.int 3)],.c (.int 1000000007)]],.c (.int 105172331949523456789012345678901234567)],.v 3]))
 (.seq (.set 4 (.op pMod [.op z0h [.v 4,.v 4],.v 3]))
 (.ret (.op pMod [.op z21 [.op pMod [.op z0h [.op pAdd [.v 4,.v 1],.c (.int 83492791123456789012345678901234567891)],.v 3],.c (.int 7)],.v 2])))))
def z0C:Fn:=Fn.mkN 3 4 (.seq (.ifs (.op z8G [.v 2,.c .non]) (.seq (.set 3 (.op pSub [.op z00 [.v 0,.c (.int 2),.c (.int 7)],.c (.int 3)]))
 (.ret (.op pTup [.op z0h [.op pIx [.v 2,.c (.int 0)],.v 3],.op z0h [.op pIx [.v 2,.c (.int 1)],.v 3]]))) .skip)
 (.ret (.op pTup [.op pSub [.op z00 [.v 0,.c (.int 2),.op pAdd [.op z0h [.c (.int 2),.v 1],.c (.int 1)]],.v 1],.op pSub [.op z00 [.v 0,.c (.int 3),.op pAdd [.op z0h [.c (.int 2),.v 1],.c (.int 1)]],.v 1]])))
def z0m:Fn:=Fn.mkN 2 2 (.ret (.op pAdd [.op z0h [.op pIx [.v 0,.c (.int 0)],.op pIx [.v 1,.c (.int 0)]],.op z0h [.op pIx [.v 0,.c (.int 1)],.op pIx [.v 1,.c (.int 1)]]]))
def z1z:Fn:=Fn.mkN 2 5 (.seq (.set 2 (.c (.int 0)))
 (.seq (.for_ [] (.tp [3,4]) (.v 0) (.set 2 (.op pAdd [.op pAdd [.v 2,.op zfS [.comp 1 [1] (.nm 0) (.v 3) none (.op z0m [.v 1,.v 0])]],.op z0m [.v 1,.v 4]])))
 (.ret (.v 2))))
end Pu
namespace Zp
open PySem PySem.Spec PyProof.Rows L2
section
variable {prog:Program}{w:World}{A:Around}{E:WvP}{s:Shared}
def nx {j t:Addr}{n:Nat}{xs:Array Value}{x:Value}{Q:WvP}(it:s.heap.IsTupleIter j t n)(tu:s.heap.IsTuple t xs)(e:xs[n]? = some x)
  (q:∀h',h'.IsTupleIter j t (n+1)->Heap.SameBut j s.heap h'->Q x { s with heap:=h' }):wpAny (model prog w) A (Builtin.SmallTypes.nextOf (.ref j)) Q E s:=by
 obtain⟨ob,g,gc,gd⟩:=id it;obtain⟨ot,gt,_,nt,gdt⟩:=tu;refine wc (vH it.typeIs uG (vV uG it.typeIs F.entry_tuple_iterator_next ?_ (F.args_tuple_iterator_next_1 _)));show wpAny _ _ (PySem.field _ 0 >>= _) _ _ s;refine wc (ub g gd rfl ?_);refine wc (ub g gd rfl ?_);refine wc (vP gt gdt ?_);simp[Int.toNat_natCast,e];refine wc (jS g gd (by simp) (wf ⟨x,rfl,wf (q _ ⟨_,vp _ g (Obj.isFreed_of_fields (ud gd _)),(Obj.cls_mapFields ..).trans gc,by rw[ud gd];rfl⟩ (uk ..))⟩))
def nxE {j t:Addr}{n:Nat}{xs:Array Value}{Q:WvP}(hh:A.handled=none)(it:s.heap.IsTupleIter j t n)(tu:s.heap.IsTuple t xs)(e:xs[n]? = none)
  (q:∀h' z,Heap.ExtBut j s.heap h'->(∃o,h'.get? z=some o/\o.cls = .type "StopIteration")->E (.ref z) { s with heap:=h' }):wpAny (model prog w) A (Builtin.SmallTypes.nextOf (.ref j)) Q E s:=by
 obtain⟨ob,g,gc,gd⟩:=id it;obtain⟨ot,gt,_,nt,gdt⟩:=tu
 delta Builtin.SmallTypes.nextOf
 refine wc (vH (name:=Str.ofString "__next__") it.typeIs uG (vV uG it.typeIs F.entry_tuple_iterator_next ?_ (F.args_tuple_iterator_next_1 _)));show wpAny _ _ (PySem.field (.ref j) 0 >>= _) _ _ s;refine wc (ub g gd (x :=.ref t) rfl ?_);rw[if_neg (show ¬ (Value.ref t == Value.none)=true from wP)];refine wc (ub g gd (x :=.int n 0) rfl ?_);show wpAny _ _ (seqItems? (.ref t) >>= λ_=>_) _ _ s;refine wc (vP gt gdt ?_);simp only[Int.toNat_natCast,e];refine wc (wpAny_rule (wc (jS g gd (by simp) (show wpAny _ _ (newExc (.type "StopIteration") [] >>= λ_=>_) _ _ _ from wc ?_))));simp only[newExc,newTuple];refine wc (wW (wc (m:=firstArgMember _ _) (wpAny_of_eq (a:=Value.none) (by first | rfl | (simp only[firstArgMember];rfl)) (wW ?_ (by size_fits)))) (by size_fits));simp only[raiseNew];refine wc (wpAny_handled ?_)
 first | rw[show A.in1.handled=none from hh] | rw[hh]
 exact wc (wf (wpAny_throw (q _ _ (((uk ..).extBut.push _).push _) ⟨_,wn _ rfl,rfl⟩)))
structure St (h:Heap)(z TI TO i1 i2 t1 t2:Addr)(f:Value)(n:Nat):Prop where
 z:IsZip h z TI TO f
 ti:IsPair h TI (.ref i1) (.ref i2)
 to:∃a b,IsPair h TO a b
 a:h.IsTupleIter i1 t1 n
 b:h.IsTupleIter i2 t2 n
def tat {h h':Heap}{t:Addr}{xs:Array Value}(x:h.IsTuple t xs)(k:∀o,h.get? t=some o->h'.get? t=some o):h'.IsTuple t xs:=by
 obtain⟨o,e,r⟩:=x;exact⟨o,k o e,r⟩
variable {z TI TO i1 i2 t1 t2:Addr}{n:Nat}{xs ys:Array Value}{x y:Value}
def item {Q:Option Value->Shared->Prop}(D:ZipApart z TI TO i1 i2 t1 t2)(S:St s.heap z TI TO i1 i2 t1 t2 .none n)(hx:s.heap.IsTuple t1 xs)(hy:s.heap.IsTuple t2 ys)(ex:xs[n]? = some x)(ey:ys[n]? = some y)
  (q:∀h',St h' z TI TO i1 i2 t1 t2 (rawInt s.heap.objs.size) (n+1)->IsPair h' s.heap.objs.size x y->h'.objs.size=s.heap.objs.size+1->(∀c o,c≠z->c≠TO->c≠i1->c≠i2->s.heap.get? c=some o->h'.get? c=some o)->Q (some (.ref s.heap.objs.size)) { s with heap:=h' }):
  wpAny (model prog w) A (pyNext (.ref z)) Q E s:=by
 obtain⟨sz,sti,⟨pa,pb,sto⟩,sa,sb⟩:=S;have ty:s.TypeIs (.ref z) "zip":=⟨_,sz,rfl⟩
 delta pyNext
 refine wc (wpAny_attempt (vH (name:=Str.ofString "__next__") ty F.slot_zip_next (vV F.slot_zip_next ty F.entry_zip_next ?_ (F.args_zip_next_1 _))));show wpAny _ _ (PySem.field (.ref z) 2 >>= λ_=>_) _ _ _;refine wc (ub sz rfl (x :=.bool false) rfl (show wpAny _ _ (PySem.field (.ref z) 3 >>= λ_=>_) _ _ _ from wc (ub sz rfl (x :=.ref TI) rfl (wc (vP sti rfl ?_)))));show wpAny _ _ (Builtin.SmallTypes.ownedTupleIsFree (.ref z) >>= λ_=>_) _ _ _;refine wc ?_
 delta Builtin.SmallTypes.ownedTupleIsFree
 refine wc (ub sz rfl (x:=Value.none) rfl (wf ?_));simp only[jw];refine wc (wpAny_rule (wc (ub sz rfl (x:=Value.ref TO) rfl (wc (uO sz (by simp) λg1 z1 k1 =>?_)))))
 replace z1:IsZip g1 z TI TO .ellipsis:=z1
 refine wc ?_;simp only[List.zipIdx_cons,List.zipIdx_nil,List.forIn_cons,List.forIn_nil];refine wc (wc (wpAny_onRaise (show wpAny _ _ (Builtin.SmallTypes.nextOf (.ref i1) >>= λ_=>_) _ _ _ from wc (nx (sa.extBut k1.extBut D.i1z) (tat hx λo e=>k1.extBut _ _ D.l1z e) ex λg2 a2 k2=>wf ?_))));have o2:IsPair g2 TO pa pb:=k2.extBut _ _ D.TOi1 (k1.extBut _ _ D.TOz sto);refine wc (vP o2 rfl (wc (wpAny_updateSeq_pair o2 λg3 o3 k3 =>?_)))
 replace o3:IsPair g3 TO x pb:=o3
 refine wc (jE (wf ?_));refine wc (wc (wpAny_onRaise (show wpAny _ _ (Builtin.SmallTypes.nextOf (.ref i2) >>= λ_=>_) _ _ _ from wc (nx (((sb.extBut k1.extBut D.i2z).extBut k2.extBut D.i12.symm).extBut k3.extBut D.TOi2.symm)
  (tat hy λo e=>k3.extBut _ _ D.l2TO (k2.extBut _ _ D.l2i1 (k1.extBut _ _ D.l2z e))) ey λg4 b4 k4=>wf ?_))))
 have o4:IsPair g4 TO x pb:=k4.extBut _ _ D.TOi2 o3;refine wc (vP o4 rfl (wc (wpAny_updateSeq_pair o4 λg5 o5 k5 =>?_)))
 replace o5:IsPair g5 TO x y:=o5
 refine wc (jE (wf (wf (wc (vP o5 rfl (wc (wpAny_newTuple ?_)))))));have sze:g5.objs.size=s.heap.objs.size:=by rw[k5.1,k4.1,k3.1,k2.1,k1.1]
 have z5:IsZip g5 z TI TO .ellipsis:=k5.extBut _ _ D.TOz.symm (k4.extBut _ _ D.i2z.symm (k3.extBut _ _ D.TOz.symm (k2.extBut _ _ D.i1z.symm z1)));have kk:∀c o,c≠z->c≠TO->c≠i1->c≠i2->s.heap.get? c=some o->g5.get? c=some o:=λc o c1 c2 c3 c4 e=>k5.extBut _ _ c2 (k4.extBut _ _ c4 (k3.extBut _ _ c2 (k2.extBut _ _ c3 (k1.extBut _ _ c1 e))));have a5:g5.IsTupleIter i1 t1 (n+1):=((a2.extBut k3.extBut D.TOi1.symm).extBut k4.extBut D.i12).extBut k5.extBut D.TOi1.symm;have b5:g5.IsTupleIter i2 t2 (n+1):=b4.extBut k5.extBut D.TOi2.symm;have zlt:z<g5.objs.size:=wo z5;show wpAny _ _ (Builtin.SmallTypes.ownedTupleHandOut (.ref z) (.ref g5.objs.size) >>= λ_=>_) _ _ _;refine wc ?_
 delta Builtin.SmallTypes.ownedTupleHandOut
 have z6:IsZip (g5.push { cls :=.type "tuple",data :=.seq #[x,y] }) z TI TO .ellipsis:=we _ z5;refine wc (uO z6 (by simp) λg7 z7 k7 =>?_)
 replace z7:IsZip g7 z TI TO (rawInt g5.objs.size):=z7
 refine uO z7 (by simp) λg8 z8 k8 =>?_
 replace z8:IsZip g8 z TI TO (rawInt g5.objs.size):=z8
 have up:∀c o,c≠z->g5.get? c=some o->g8.get? c=some o:=λc o c1 e=>k8.extBut _ _ c1 (k7.extBut _ _ c1 (we _ e));have tp:IsPair g8 g5.objs.size x y:=k8.extBut _ _ (jF zlt) (k7.extBut _ _ (jF zlt) (wn _ rfl));have s8:g8.objs.size=g5.objs.size+1:=by rw[k8.1,k7.1,vE]
 rw[sze] at z8 tp s8;refine wf ⟨_,rfl,wf ?_⟩;show Q (some (.ref g5.objs.size)) _;rw[sze];exact q g8 ⟨z8,up _ _ D.TIz (kk _ _ D.TIz D.TITO D.TIi1 D.TIi2 sti),⟨_,_,up _ _ D.TOz o5⟩,a5.at λo e=>up _ o D.i1z e,b5.at λo e=>up _ o D.i2z e⟩ tp s8 λc o c1 c2 c3 c4 e=>up c o c1 (kk c o c1 c2 c3 c4 e)
def fin {Q:Option Value->Shared->Prop}(hh:A.handled=none)(D:ZipApart z TI TO i1 i2 t1 t2)(S:St s.heap z TI TO i1 i2 t1 t2 .none n)(hx:s.heap.IsTuple t1 xs)(hy:s.heap.IsTuple t2 ys)(e:xs[n]? = none\/ys[n]? = none)
  (q:∀h',(∀c o,c≠z->c≠TO->c≠i1->c≠i2->s.heap.get? c=some o->h'.get? c=some o)->Q none { s with heap:=h' }):wpAny (model prog w) A (pyNext (.ref z)) Q E s:=by
 obtain⟨sz,sti,⟨pa,pb,sto⟩,sa,sb⟩:=S;have ty:s.TypeIs (.ref z) "zip":=⟨_,sz,rfl⟩
 have stop:∀h' v,(∀c o,c≠z->c≠TO->c≠i1->c≠i2->s.heap.get? c=some o->h'.get? c=some o)->(∃o,h'.get? v=some o/\o.cls = .type "StopIteration")->wpAny (model prog w) A (isInstance (.ref v) (.type "StopIteration") >>= λb=>if b=true then pure none else throw (Value.ref v)) Q E { s with heap:=h' }:=λh' v kk ⟨o,ho,hc⟩=>
  wc (wpAny_isInstance (T:="StopIteration") (b:=true) ⟨o,ho,hc⟩ isSubtype_stop (wf (q _ kk)))
 delta pyNext
 refine wc (wpAny_attempt (vH (name:=Str.ofString "__next__") ty F.slot_zip_next (vV F.slot_zip_next ty F.entry_zip_next ?_ (F.args_zip_next_1 _))));show wpAny _ _ (PySem.field (.ref z) 2 >>= λ_=>_) _ _ _;refine wc (ub sz rfl (x :=.bool false) rfl (show wpAny _ _ (PySem.field (.ref z) 3 >>= λ_=>_) _ _ _ from wc (ub sz rfl (x :=.ref TI) rfl (wc (vP sti rfl ?_)))));show wpAny _ _ (Builtin.SmallTypes.ownedTupleIsFree (.ref z) >>= λ_=>_) _ _ _;refine wc ?_
 delta Builtin.SmallTypes.ownedTupleIsFree
 refine wc (ub sz rfl (x:=Value.none) rfl (wf ?_));simp only[jw];refine wc (wpAny_rule (wc (ub sz rfl (x:=Value.ref TO) rfl (wc (uO sz (by simp) λg1 z1 k1 =>?_)))))
 replace z1:IsZip g1 z TI TO .ellipsis:=z1
 refine wc ?_;simp only[List.zipIdx_cons,List.zipIdx_nil,List.forIn_cons,List.forIn_nil];refine wc (wc (wpAny_onRaise (show wpAny _ _ (Builtin.SmallTypes.nextOf (.ref i1) >>= λ_=>_) _ _ _ from wc ?_)))
 cases ex:xs[n]? with
 | none=>
  refine nxE hh (sa.extBut k1.extBut D.i1z) (tat hx λo e=>k1.extBut _ _ D.l1z e) ex λg2 v k2 hv =>?_;obtain⟨oe,hoe,hce⟩:=hv;have z2:IsZip g2 z TI TO .ellipsis:=k2 _ _ D.i1z.symm z1;have ne:v≠z:=λw=>by subst w;rw[z2] at hoe;cases hoe;simp at hce
  exact uO z2 (by simp) λg3 _ k3=>stop g3 v (λc o c1 _ c3 _ w=>k3.extBut _ _ c1 (k2 _ _ c3 (k1.extBut _ _ c1 w))) ⟨oe,k3.extBut _ _ ne hoe,hce⟩
 | some x=>
  have ey:ys[n]? = none:=e.resolve_left (by rw[ex];exact λw=>nomatch w);refine nx (sa.extBut k1.extBut D.i1z) (tat hx λo e=>k1.extBut _ _ D.l1z e) ex λg2 a2 k2=>wf ?_;have o2:IsPair g2 TO pa pb:=k2.extBut _ _ D.TOi1 (k1.extBut _ _ D.TOz sto);refine wc (vP o2 rfl (wc (wpAny_updateSeq_pair o2 λg3 o3 k3 =>?_)));refine wc (jE (wf ?_));refine wc (wc (wpAny_onRaise (show wpAny _ _ (Builtin.SmallTypes.nextOf (.ref i2) >>= λ_=>_) _ _ _ from wc (nxE hh (((sb.extBut k1.extBut D.i2z).extBut k2.extBut D.i12.symm).extBut k3.extBut D.TOi2.symm)
   (tat hy λo e=>k3.extBut _ _ D.l2TO (k2.extBut _ _ D.l2i1 (k1.extBut _ _ D.l2z e))) ey λg4 v k4 hv =>?_))))
  obtain⟨oe,hoe,hce⟩:=hv;have z4:IsZip g4 z TI TO .ellipsis:=k4 _ _ D.i2z.symm (k3.extBut _ _ D.TOz.symm (k2.extBut _ _ D.i1z.symm z1));have ne:v≠z:=λw=>by subst w;rw[z4] at hoe;cases hoe;simp at hce
  exact uO z4 (by simp) λg5 _ k5=>stop g5 v (λc o c1 c2 c3 c4 w=>k5.extBut _ _ c1 (k4 _ _ c4 (k3.extBut _ _ c2 (k2.extBut _ _ c3 (k1.extBut _ _ c1 w))))) ⟨oe,k5.extBut _ _ ne hoe,hce⟩
end
abbrev mk1 (h:Heap)(t:Addr):Heap:=h.push { cls :=.type "tuple_iterator",data :=.fields #[.ref t,.int 0 0] }
abbrev mk3 (h:Heap)(t1 t2:Addr):Heap:=((mk1 (mk1 h t1) t2).push { cls :=.type "tuple",data :=.seq #[.ref h.objs.size,.ref (mk1 h t1).objs.size] }).push { cls :=.type "tuple",data :=.seq #[.none,.none] }
abbrev mk5 (h:Heap)(t1 t2:Addr):Heap:=(mk3 h t1 t2).push { cls :=.type "zip",data :=.fields #[.none,.bool false,.bool false,.ref (mk1 (mk1 h t1) t2).objs.size,.ref ((mk1 (mk1 h t1) t2).push { cls :=.type "tuple",data :=.seq #[.ref h.objs.size,.ref (mk1 h t1).objs.size] }).objs.size] }
def newZ (t1 t2:Addr)(xs ys:Array Value):Meets (Builtin.«zip.__new__» ⟨[.type "zip",.ref t1,.ref t2],[]⟩) (λ_ R s=>s.heap.IsTuple t1 xs/\s.heap.IsTuple t2 ys/\R (.ok (.ret (.ref (mk3 s.heap t1 t2).objs.size))) { s with heap:=mk5 s.heap t1 t2 }):=
 .of_wp λprog w A R s h=>by
  obtain⟨hp,g,d,tk,os⟩:=s;obtain⟨a1,a2,h⟩:=h;have sub:=sub_zip;have b1:Heap.IsTuple (Shared.heap ⟨hp,g,d,tk,os⟩) t1 xs:=a1;have b2:Heap.IsTuple (Shared.heap ⟨mk1 hp t1,g,d,tk,os⟩) t2 ys:=Heap.IsTuple.push a2 _
  wp_walk using uL b1,uL b2
  exact⟨_,rfl,h⟩
section
variable {prog:Program}{w:World}{A:Around}{E:WvP}{s:Shared}{t1 t2:Addr}{xs ys:Array Value}
def zlo {Q:WvP}(h1:s.heap.IsTuple t1 xs)(h2:s.heap.IsTuple t2 ys)
  (q:∀h',St h' (s.heap.objs.size+4) (s.heap.objs.size+2) (s.heap.objs.size+3) s.heap.objs.size (s.heap.objs.size+1) t1 t2 .none 0->(∀c o,s.heap.get? c=some o->h'.get? c=some o)->Q (.ref (s.heap.objs.size+4)) { s with heap:=h' }):
  wpAny (model prog w) A (call (.type "zip") [.ref t1,.ref t2]) Q E s:=by
 refine callType_new F.called_zip (by decide) (F.typeCall_zip_2 _ _) (F.newCall_zip_2 _ _) (λobj=>F.args_object_init_3 obj _ _) F.entry_zip_new (newZ t1 t2 xs ys) ⟨h1,h2,?_⟩;have n1:(mk1 s.heap t1).objs.size=s.heap.objs.size+1:=vE ..;have n2:(mk1 (mk1 s.heap t1) t2).objs.size=s.heap.objs.size+2:=by rw[vE,n1]
 have n3:((mk1 (mk1 s.heap t1) t2).push { cls :=.type "tuple",data :=.seq #[.ref s.heap.objs.size,.ref (mk1 s.heap t1).objs.size] }).objs.size=s.heap.objs.size+3:=by rw[vE,n2]
 have n4:(mk3 s.heap t1 t2).objs.size=s.heap.objs.size+4:=by rw[vE,n3]
 have up1:∀{h:Heap}{c:Addr}{o o':Obj},h.get? c=some o->(h.push o').get? c=some o:=λe=>we _ e;have e5:(mk5 s.heap t1 t2).get? (mk3 s.heap t1 t2).objs.size=some _:=wn _ rfl;have e4:(mk5 s.heap t1 t2).get? ((mk1 (mk1 s.heap t1) t2).push { cls :=.type "tuple",data :=.seq #[.ref s.heap.objs.size,.ref (mk1 s.heap t1).objs.size] }).objs.size=some _:=up1 (wn _ rfl);have e3:(mk5 s.heap t1 t2).get? (mk1 (mk1 s.heap t1) t2).objs.size=some _:=up1 (up1 (wn _ rfl));have e2:(mk5 s.heap t1 t2).get? (mk1 s.heap t1).objs.size=some _:=up1 (up1 (up1 (wn _ rfl)));have e1:(mk5 s.heap t1 t2).get? s.heap.objs.size=some _:=up1 (up1 (up1 (up1 (wn _ rfl))));show _/\_;rw[n4,n2,n3] at e5;rw[n3] at e4;rw[n1,n2] at e3;rw[n1] at e2;rw[n4];exact⟨⟨_,e5,rfl⟩,q _ ⟨e5,e3,⟨_,_,e4⟩,⟨_,e1,rfl,rfl⟩,⟨_,e2,rfl,rfl⟩⟩ λc o e=>up1 (up1 (up1 (up1 (up1 e))))⟩
end
end Zp
namespace L2
open PySem PySem.Spec PyProof.Rows
section
variable {X:Cx}{pins:List (Addr × Obj)}{σ:List (Option V)}{H H':Hp}{s:Shared}{h':Heap}
def Inv.turnedL {t':Nat}{fp:List Addr}(I:Inv X pins σ H s)(k:∀b o,b ∉ fp->s.heap.get? b=some o->h'.get? b=some o)(hf:∀b∈fp,FpOk X pins H b):Inv X pins σ H { s with heap:=h',toks:=t' }:=by
 have nit:∀b u,H b=some u->b ∉ fp:=λb u e z=>by rw[(hf b z).1] at e;cases e
 have hL  := λz=>(hf _ z).2.1 rfl;refine I.step (λb hb =>?_) (λb o _ _ hc e _=>k b o hc e) (λb o _ _ hc e _=>⟨o.slots,k b o hc e⟩) (λ_ _ _ _ n=>n)
  (λb o hc e=>⟨o,k b o hc e⟩) (λ_ _ e=>e) (λ_ _ _ e=>e) (λb ps e=>⟨#[],by rw[e];simp⟩) (λm hm =>?_) (λb u e =>?_) I.bare
 .obtain⟨f0,f1,f2,f3,f4,f5⟩:=hf b hb;exact⟨f3,f1,f4,f5⟩
 .obtain⟨o,es,ep,ho,r⟩:=hm;exact⟨o,es,ep,k _ o hL ho,r⟩
 .refine(I.hok b u e).stay (λc v hc q=>k c v ?_ q) (λ_ q=>q) λ_ _ q=>q
  rcases hc with z | z
  .rw[z];exact nit b u e
  .exact nit c _ z
end
end L2
namespace Zp
open PySem PySem.Spec PyProof.Rows L2
def Itz (K:W.Frag)(t1 t2:Addr):It:=
 ⟨λi H=>∃xs ys x y,SqT K H t1 xs/\SqT K H t2 ys/\xs[i]? = some x/\ys[i]? = some y,
  λi H v H'=>∃p x y,v = .ref p/\H p=none/\H'=upd H p (.tup [x,y])/\∀xs ys,SqT K H t1 xs->SqT K H t2 ys->xs[i]? = some x/\ys[i]? = some y,
  λi H=>∃xs ys,SqT K H t1 xs/\SqT K H t2 ys/\(xs.length<=i\/ys.length<=i)⟩
def zce {P:Program}{w:World}{K:W.Frag}{es:List Expr}{kk:Nat}{pos:Pos}{z TI TO i1 i2 t1 t2:Addr}(D:ZipApart z TI TO i1 i2 t1 t2):Turn P w K (.Tuple es kk pos) (Itz K t1 t2) [z,TO,i1,i2,TI] z (λi h=>St h z TI TO i1 i2 t1 t2 .none i) where
 mem:=by simp
 obj:=λi h st b hb=>by
  obtain⟨sz,sti,⟨pa,pb,sto⟩,⟨oa,ea,ca,da⟩,⟨ob,eb,cb,db⟩⟩:=st;simp only[wg,wA,vS] at hb
  rcases hb with rfl | rfl | rfl | rfl | rfl
  .exact⟨_,sz,λv q=>by cases (show Data.fields _=Data.cell v from q)⟩
  .exact⟨_,sto,λv q=>by cases (show Data.seq _ _=Data.cell v from q)⟩
  .exact⟨_,ea,λv q=>by rw[da] at q;cases q⟩
  .exact⟨_,eb,λv q=>by rw[db] at q;cases q⟩
  .exact⟨_,sti,λv q=>by cases (show Data.seq _ _=Data.cell v from q)⟩
 keep:=λi h h' st k=>by
  obtain⟨sz,sti,⟨pa,pb,sto⟩,sa,sb⟩:=st;exact⟨k z (by simp) _ sz,k TI (by simp) _ sti,⟨pa,pb,k TO (by simp) _ sto⟩,sa.at λo e=>k i1 (by simp) o e,sb.at λo e=>k i2 (by simp) o e⟩
 item:=by
  intro X hP hw hK hc i pins s σ H E I hf st hg;subst hP hw hK;obtain⟨xs,ys,x,y,q1,q2,ex,ey⟩:=hg;obtain⟨us,r1,p1,_⟩:=I.tuple q1;obtain⟨vs,r2,p2,_⟩:=I.tuple q2;obtain⟨u,hu,ru⟩:=r1.get ex;obtain⟨v,hv,rv⟩:=r2.get ey;refine item D st (show s.heap.IsTuple t1 us.toArray from p1) (show s.heap.IsTuple t2 vs.toArray from p2) (x:=u) (y:=v) (by simpa using hu) (by simpa using hv) λh' S' tp _ kp=>⟨_,rfl,?_⟩
  refine wpAny_letOwnedTupleGo_zip S'.z λh2 z2 k2 =>?_;have lt:∀{b o},s.heap.get? b=some o->b≠s.heap.objs.size:=λe=>wz (wo e);have ob:∀b∈[z,TO,i1,i2,TI],b≠s.heap.objs.size:=λb hb=>by
   obtain⟨sz,sti,⟨pa,pb,sto⟩,⟨oa,ea,_⟩,⟨oo,eb,_⟩⟩:=st;simp only[wg,wA,vS] at hb
   rcases hb with rfl | rfl | rfl | rfl | rfl
   .exact lt sz
   .exact lt sto
   .exact lt ea
   .exact lt eb
   .exact lt sti
  have hz:z≠s.heap.objs.size:=ob z (by simp);have new:(s.heap.push { cls :=.type "tuple",data :=.seq #[u,v] }).get? s.heap.objs.size=some { cls :=.type "tuple",data :=.seq #[u,v] }:=wn _ rfl;have I1:Inv X pins σ (upd H s.heap.objs.size (.tup [x,y])) { s with heap:=s.heap.push { cls :=.type "tuple",data :=.seq #[u,v] },toks:=s.toks }:=
   I.laid (λ_ _ q=>we _ q) (wp _) ⟨wI (show 2<=64 by decide) (by decide),[u,v],.cons ru (.cons rv .nil),⟨_,wn _ rfl,rfl,_,rfl⟩,_,wn _ rfl,rfl⟩
  have hf1:∀b∈[z,TO,i1,i2,TI],FpOk X pins (upd H s.heap.objs.size (.tup [x,y])) b:=λb hb=>by
   obtain⟨f0,f⟩:=hf b hb;exact⟨by rw[z04 (ob b hb)];exact f0,f⟩
  have I2:Inv X pins σ (upd H s.heap.objs.size (.tup [x,y])) { s with heap:=h2,toks:=s.toks }:=I1.turnedL (t':=s.toks) (λb o hb e=>by
   simp only[wg,wA,vS,not_or] at hb;obtain⟨b1,b2,b3,b4,b5⟩:=hb;refine k2.extBut _ _ b1 ?_
   by_cases he:b=s.heap.objs.size
   .subst he;rw[new] at e
    cases e
    exact tp
   .rw[ju _ _ _ he] at e;exact kp b o b1 b2 b3 b4 e) hf1
  refine⟨.ref s.heap.objs.size,_,I2,rfl,⟨_,x,y,rfl,I.fresh,rfl,λas bs ha hb=>⟨by rw[I.tuple_inj ha q1];exact ex,by rw[I.tuple_inj hb q2];exact ey⟩⟩,⟨z2,k2.extBut _ _ D.TIz S'.ti,?_,S'.a.extBut k2.extBut D.i1z,S'.b.extBut k2.extBut D.i2z⟩,λb hb=>(hf1 b hb).1⟩;obtain⟨pa,pb,e⟩:=S'.to;exact⟨pa,pb,k2.extBut _ _ D.TOz e⟩
 done:=by
  intro X hP hw hK hc i pins s σ H E I hf st hg;subst hP hw hK;obtain⟨xs,ys,q1,q2,e⟩:=hg;obtain⟨us,r1,p1,_⟩:=I.tuple q1;obtain⟨vs,r2,p2,_⟩:=I.tuple q2;have l1:=r1.length;have l2:=r2.length;refine fin (I.ok.hd hc) D st (show s.heap.IsTuple t1 us.toArray from p1) (show s.heap.IsTuple t2 vs.toArray from p2) (e.imp (λq=>by simp;lia) λq=>by simp;lia) λh' kp=>⟨rfl,I.turnedL (t':=s.toks) (λb o hb e =>?_) hf⟩
  simp only[wg,wA,vS,not_or] at hb;exact kp b o hb.1 hb.2.1 hb.2.2.1 hb.2.2.2.1 e
 self:=λ_ _ _ _ _ st h=>wpAny_pyIter_zip st.z h
def iZip (K:W.Frag)(ta:TA):TI:=λσ H R=>ta σ H λvs H1=>∃a b,vs=[.ref a,.ref b]/\(∃xs,SqT K H1 a xs)/\(∃ys,SqT K H1 b ys)/\R (Itz K a b) H1
section
variable {X:Cx}{es:List Expr}{kk:Nat}{tp:Pos}
def zim {a b:Expr}{ta:TA}{p pos:Pos}(hg:Gl X "zip")(hm:X.mg "zip"=none)(ha:PA X [a,b] ta)(hs:autoParam (starEach [a,b] X.env=[(false,eval a X.env),(false,eval b X.env)]) jT)(hs2:autoParam (starEach [b] X.env=[(false,eval b X.env)]) jT):PI X (.Tuple es kk tp) (.Call (.Name "zip" p) [a,b] [] pos) (iZip X.K ta):=by
 intro pins s σ H R I h;refine Call_ (z7f I hg hm (show bootBuiltins "zip"=some (.type "zip") from rfl) (jf (thn (ha pos pins s σ H _ I h) λus s1 z9 =>?_) (by rw[hs,hs2]) (by rw[hs2];rfl)));obtain⟨vs,H1,I1,r1,q1⟩:=z9;obtain⟨t1,t2,e,⟨xs,q2⟩,⟨ys,q3⟩,q⟩:=q1;subst e
 cases r1 with
 | cons r rr=>
  cases rr with
  | cons r' rr=>
   cases rr
   cases (show _=Value.ref t1 from r)
   cases (show _=Value.ref t2 from r')
   obtain⟨us,rv1,p1,_⟩:=I1.tuple q2;obtain⟨vs,rv2,p2,_⟩:=I1.tuple q3;have l1:t1<s1.heap.objs.size:=by obtain⟨o,e,_⟩:=p1;exact wo e
   have l2:t2<s1.heap.objs.size:=by obtain⟨o,e,_⟩:=p2;exact wo e
   refine zlo (show s1.heap.IsTuple t1 us.toArray from p1) (show s1.heap.IsTuple t2 vs.toArray from p2) λh' S kp =>?_;refine wpAny_pyIter_zip S.z ?_;have I2:Inv X pins σ H1 { s1 with heap:=h',toks:=s1.toks }:=I1.kept (t':=s1.toks) kp;refine⟨_,_,_,_,H1,rfl,I2,zce (zipApart_new l1 l2),S,λb hb =>?_,q⟩;have hb':s1.heap.objs.size<=b:=by
    simp only[wg,wA,vS] at hb
    rcases hb with rfl | rfl | rfl | rfl | rfl
    .exact Nat.le_add_right _ 4
    .exact Nat.le_add_right _ 3
    .exact wp _
    .exact Nat.le_add_right _ 1
    .exact Nat.le_add_right _ 2
   exact I1.fpOk hb' (I1.hok.fresh hb')
end
end Zp
namespace Pu
open PySem PySem.Spec PyProof.Rows L2 Zp
def gZip (a b:D)(Q:DK):Prop:=match a,b with
 | .tup l,.tup m=>Q (.lst ((l.zip m).map λp =>.tup [p.1,p.2]))
 | _,_=>False
def zbv (a b:D)(Q Q':DK)(m:∀d,Q d->Q' d)(h:gZip a b Q):gZip a b Q':=by
 unfold gZip at h ⊢
 split at h
 .exact m _ h
 omega
def z9B:Fn:=fn2 gZip zbv
def zc8 {K:W.Frag}{mg:WmP}{G:Hp}{a b:Addr}{xs ys:List V}{l m:List D}(h1:SqT K G a xs)(h2:SqT K G b ys)(r1:RDs K mg G l xs)(r2:RDs K mg G m ys):Walk K mg G ((l.zip m).map λp =>.tup [p.1,p.2]) (Itz K a b):=λi G1 H g1 g2=>by
 have k1:=z0y (z02 g1 g2) h1;have k2:=z0y (z02 g1 g2) h2;refine⟨λd e =>?_,λhi=>⟨xs,ys,k1,k2,?_⟩⟩
 .rw[wG,vZ] at e;obtain⟨⟨d1,d2⟩,e,rfl⟩:=e;rw[List.getElem?_zip_eq_some] at e;obtain⟨v1,e1,rd1⟩:=r1.get e.1;obtain⟨v2,e2,rd2⟩:=r2.get e.2;refine⟨⟨xs,ys,v1,v2,k1,k2,e1,e2⟩,λv H' y =>?_⟩;obtain⟨p,x,y,rfl,hp,rfl,q⟩:=y;obtain⟨w1,w2⟩:=q xs ys k1 k2;rw[e1] at w1;rw[e2] at w2
  cases w1
  cases w2
  refine⟨z0f hp _,upd G1 p (.tup [v1,v2]),?_,?_,?_⟩
  .exact Gr.new g2 hp
  .intro c u e
   by_cases z:c=p
   .subst z;rw[z06] at e ⊢;exact e
   .rw[z04 z] at e ⊢;exact g2 c u e
  .exact RD.newT (RDs.cons (rd1.same g1) (RDs.cons (rd2.same g1) RDs.nil)) g2 hp
 .simp only[wd,jN] at hi;rw[r1.len,r2.len];lia
section
variable {X:Cx}{E:XK}
def zcS {es:List Expr}{kk:Nat}{tp p pos:Pos}{a b:Expr}{x y:Ex}(hg:Gl X "zip")(hm:X.mg "zip"=none)(ha:QXA X E [a,b] [x,y])(hs:autoParam (starEach [a,b] X.env=[(false,eval a X.env),(false,eval b X.env)]) jT)(hs2:autoParam (starEach [b] X.env=[(false,eval b X.env)]) jT):
  QXI X E (.Tuple es kk tp) (.Call (.Name "zip" p) [a,b] [] pos) (.op z9B [x,y]):=QI.imp (⟨zim hg hm ha.p hs hs2⟩) <| by
 rintro σ H R ⟨G,ρ,Q0,X0,hs,ab,hr,hz,hk,hx⟩;refine⟨G,ρ,_,X0,hs,ab,(show runs _ ρ (λds=>z9B.run ds Q0 X0) X0 from hr),λds vs G1 H1 q g1 g2 g3 rds =>?_,hx⟩
 match ds,q,rds with
 | [d1,d2],q,rds=>
  have q':gZip d1 d2 Q0:=q;unfold gZip at q'
  split at q'
  .obtain⟨v1,r1,rfl,h1,h2⟩:=rds;obtain⟨v2,r2,rfl,h2,h3⟩:=h2;subst h3;obtain⟨a1,xs,rfl,s1,w1⟩:=z1u h1;obtain⟨a2,ys,rfl,s2,w2⟩:=z1u h2;exact⟨a1,a2,rfl,⟨xs,z0y g2 s1⟩,⟨ys,z0y g2 s2⟩,hk _ G1 H1 q' g1 g2 g3 _ _ rfl (zc8 s1 s2 w1 w2)⟩
  .exact q'.elim
end
end Pu
namespace Pu
open PySem L2
def z2k:Fn:=Fn.mkN 2 4 (.seq (.set 2 (.op pGt [.v 0,.op pTup [.c (.int 0),.c (.int 0)]]))
 (.seq (.set 3 (.op pGt [.v 1,.op pTup [.c (.int 0),.c (.int 0)]]))
 (.seq (.ifs (.op pNe [.v 2,.v 3]) (.ret (.v 2)) .skip)
 (.ret (.op pGt [.op z1m [.v 0,.v 1],.c (.int 0)])))))
def z1J:Fn:=Fn.mkN 2 5 (.seq (.own 2 (.op pLst []))
 (.seq (.set 3 (.c (.int 0)))
 (.seq (.for_ [] (.nm 4) (.v 1) (.seq (.wh (.and (.op pLt [.v 3,.op pLen [.v 0]]) (.op z2k [.op pIx [.v 0,.v 3],.v 4])) (.seq (.app 2 (.op pIx [.v 0,.v 3]))
 (.set 3 (.op pAdd [.v 3,.c (.int 1)]))))
 (.app 2 (.v 4))))
 (.ret (.op pAdd [.v 2,.sl (.v 0) (some (.v 3)) none])))))
def z1y:Fn:=Fn.mkN 2 3 (.seq (.ifs (.op pEq [.op pLen [.v 0],.c (.int 1)]) (.ret (.op pLst [])) .skip)
 (.seq (.set 2 (.op pAdd [.sl (.v 0) (some (.c (.int 1))) none,.sl (.v 0) none (some (.c (.int 1)))]))
 (.ret (.comp 2 [1] (.tp [0,1]) (.op z9B [.v 0,.v 2]) none (.callv z8e 2 [.v 0,.v 1])))))
def z4I:Fn:=Fn.mkN 2 7 (.seq (.set 2 (.op z05 [.v 0]))
 (.seq (.set 3 (.op z05 [.v 1]))
 (.seq (.set 4 (.op z0F [.op pIx [.v 2,.c (.int 0)],.op pIx [.v 3,.c (.int 0)]]))
 (.seq (.own 5 (.op pLst [.v 4]))
 (.seq (.for_ [] (.nm 6) (.op z1J [.op z1y [.v 2,.c (.fn 2)],.op z1y [.v 3,.c (.fn 2)]]) (.seq (.set 4 (.op z0F [.v 4,.v 6]))
 (.app 5 (.v 4))))
 (.ret (.op z05 [.v 5])))))))
def z0T:Fn:=Fn.mkN 1 10 (.seq (.set 1 (.op z0e [.v 0,.c (.int 0)]))
 (.seq (.ifs (.op pEq [.op pMod [.v 1,.c (.int 2)],.c (.int 1)]) (.ret (.op z0n [.v 0])) .skip)
 (.seq (.set 2 (.op pIx [.op pLst [.c (.int 3),.c (.int 3),.c (.int 12),.op pPow [.c (.int 10),.c (.int 9)],.op pPow [.c (.int 10),.c (.int 40)]],.op z00 [.v 1,.c (.int 1),.c (.int 5)]]))
 (.seq (.set 3 (.c .non))
 (.seq (.ifs (.op pEq [.op z00 [.v 1,.c (.int 4),.c (.int 5)],.c (.int 0)]) (.set 3 (.op pTup [.op pSub [.op z00 [.v 1,.c (.int 5),.c (.int 7)],.c (.int 3)],.op pSub [.op z00 [.v 1,.c (.int 6),.c (.int 7)],.c (.int 3)]])) .skip)
 (.seq (.set 4 (.op pIx [.op pLst [.c (.int 3),.c (.int 3),.c (.int 5),.c (.int 12)],.op z00 [.v 1,.c (.int 8),.c (.int 4)]]))
 (.seq (.own 5 (.op pLst []))
 (.seq (.set 6 (.c (.int 1)))
 (.seq (.wh (.and (.op pLt [.v 6,.op z9C [.op pLen [.v 0],.c (.int 61)]]) (.op pLt [.op pLen [.v 5],.c (.int 12)])) (.seq (.set 7 (.op pAdd [.c (.int 1),.op z00 [.op pIx [.v 0,.v 6],.c (.int 7),.v 4]]))
 (.seq (.own 8 (.comp 1 [2,3] (.nm 0) (.sl (.v 0) (some (.v 6)) (some (.op z9C [.op pAdd [.v 6,.v 7],.c (.int 61)]))) none (.op z0C [.v 0,.v 1,.v 2])))
 (.seq (.set 9 (.op pTup [.c (.int 0),.c (.int 0)]))
 (.seq (.ifs (.op pEq [.op z00 [.op pIx [.v 0,.v 6],.c (.int 9),.c (.int 2)],.c (.int 1)]) (.set 9 (.op z0C [.op pAdd [.op pIx [.v 0,.v 6],.c (.int 1)],.v 2,.v 3])) .skip)
 (.seq (.app 5 (.op pTup [.op z1N [.v 8],.v 9]))
 (.set 6 (.op pAdd [.v 6,.v 7]))))))))
 (.ret (.op z1N [.v 5])))))))))))
def z2i:Fn:=Fn.mkN 1 3 (.seq (.set 1 (.op pTup [.op pTup [.c (.int 0),.c (.int 0)]]))
 (.seq (.for_ [] (.nm 2) (.v 0) (.set 1 (.op z4I [.v 1,.v 2])))
 (.ret (.v 1))))
def z3m:Fn:=Fn.mkN 1 1 (.ret (.op z2i [.comp 1 [] (.nm 0) (.v 0) none (.op z3n [.v 0])]))
open PySem.Spec PyProof.Rows Tab
mutual
def z7j (K:W.Frag):D->Value->Bool
 | .int i,.int j _=>i == j
 | .str x,.str y _=>x == y
 | .non,.none=>true
 | .bl b,.bool c=>b == c
 | .tup ds,.ref a=>match K.lookup a with
  | some o=>(match o.cls with | .type t=>t == "tuple" | _=>false) && (match o.data with
   | .seq its _=>(decide (its.size<=sizeLine) && o.dict.isNone) && z8S K ds its.toList
   | _=>false)
  | none=>false
 | _,_=>false
def z8S (K:W.Frag):List D->List Value->Bool
 | [],[]=>true
 | d::ds,v::vs=>z7j K d v && z8S K ds vs
 | _,_=>false
end
def zjV (K:W.Frag)(mg:WmP)(x:Str)(d:D):Prop:=∃v,mg x=some v/\z7j K d v=true
section
variable {K:W.Frag}{mg:WmP}
mutual
theorem z8T:∀(d:D) {u:Value},z7j K d u=true->∃v,RelV v u/\∀G,RD K mg G d v
 | .non,u,h=>by
  cases u with
  | none=>exact⟨.non,rfl,λ_=>by rw[RD]⟩
  | _=>cases h
 | .bl b,u,h=>by
  cases u with
  | bool c=>rw[z7j] at h;cases (eq_of_beq h);exact⟨.bl b,rfl,λ_=>RD.bl'⟩
  | _=>cases h
 | .int i,u,h=>by
  cases u with
  | int j t=>rw[z7j] at h;cases (eq_of_beq h);exact⟨.int i,⟨t,rfl⟩,λ_=>RD.int'⟩
  | _=>cases h
 | .str x,u,h=>by
  cases u with
  | str y t=>rw[z7j] at h;cases (eq_of_beq h);exact⟨.str x,⟨t,rfl⟩,λ_=>RD.str'⟩
  | _=>cases h
 | .tup ds,u,h=>by
  cases u with
  | ref a=>
   rw[z7j] at h
   split at h
   .rename_i o ho
    rw[vK] at h;obtain⟨h1,h2⟩:=h
    split at h2
    .rename_i its n hd
     rw[vK,vK] at h2;obtain⟨vs,r,q⟩:=z7i ds h2.2;refine⟨.ref a,rfl,λG=>by
      rw[RD];refine⟨a,vs,rfl,.inr ⟨o,its,n,ho,?_,hd,v8 h2.1.1,r,Option.isNone_iff_eq_none.mp h2.1.2⟩,q G⟩
      split at h1
      .rename_i t ht;rw[ht,eq_of_beq h1]
      .cases h1⟩
    .cases h2
   .cases h
  | _=>cases h
 | .lst _,_,h=>by cases h
 | .dct _ _,_,h=>by cases h
 | .fn _,_,h=>by cases h
 | .exc _,_,h=>by cases h
 | .ptr _,_,h=>by cases h
 | .fz _ _,_,h=>by cases h
 | .ins _ _ _,_,h=>by cases h
theorem z7i:∀(ds:List D) {us:List Value},z8S K ds us=true->∃vs,Vals vs us/\∀G,RDs K mg G ds vs
 | [],[],_=>⟨[],.nil,λ_=>RDs.nil⟩
 | [],_::_,h=>by cases h
 | _::_,[],h=>by cases h
 | d::ds,u::us,h=>by
  rw[z8S,vK] at h;obtain⟨v,r,q⟩:=z8T d h.1;obtain⟨vs,rs,qs⟩:=z7i ds h.2;exact⟨v::vs,.cons r rs,λG=>RDs.cons (q G) (qs G)⟩
end
end
def zkl {X:Cx}{E:XK}{x:Str}{d:D}{pos:Pos}(hg:Gl X x)(hk:zjV X.K X.mg x d)(hd:autoParam ((x == ("__debug__":Str))=false) jU):QX X E (.Name x pos) (.c d):=by
 obtain⟨u,hm,h⟩:=hk;obtain⟨v,r,q⟩:=z8T (mg:=X.mg) d h;exact qx_c ⟨zaQ hg hm r hd⟩ q
def z2F:D :=.tup [.tup [.int (1),.int (0)],.tup [.int (0),.int (1)],.tup [.int (-1),.int (0)],.tup [.int (0),.int (-1)]]
def z1Y:Fn:=Fn.mkN 1 1 (.ret (.op pTup [.op pIx [.v 0,.c (.int 1)],.op pNeg [.op pIx [.v 0,.c (.int 0)]]]))
def z1s:Fn:=Fn.mkN 2 6 (.seq (.ifs (.op pEq [.op pLen [.v 0],.c (.int 1)]) (.ret (.comp 1 [0] (.nm 0) (.c z2F) none (.op pTup [.v 0,.op pIx [.v 1,.c (.int 0)]]))) .skip)
 (.seq (.own 2 (.op pLst []))
 (.seq (.forr [.op pLen [.v 0]] (.nm 3) (.seq (.set 4 (.op pIx [.v 0,.v 3]))
 (.seq (.set 5 (.callv z8e 1 [.op pIx [.v 0,.op pSub [.v 3,.c (.int 1)]],.v 4]))
 (.seq (.app 2 (.op pTup [.op z1Y [.v 5],.v 4]))
 (.ifs (.op pEq [.op pLen [.v 0],.c (.int 2)]) (.app 2 (.op pTup [.v 5,.v 4])) .skip)))))
 (.ret (.v 2)))))
def z3l:Fn:=Fn.mkN 1 2 (.seq (.set 1 (.op z1s [.op z05 [.v 0],.c (.fn 2)]))
 (.ret (.op z1N [.comp 2 [] (.tp [0,1]) (.v 1) none (.op pTup [.v 0,.op z1K [.v 0,.v 1]])])))
end Pu
namespace Geo
def Hd (l h:List P):Prop:=∃rl:List P,rl.Pairwise Lx/\(∀p,p∈rl↔p∈l)/\h=hull rl
def Hd.is {l h:List P}(x:Hd l h)(hn:l≠[]):z08 (· ∈ l) h:=by
 obtain⟨rl,h1,h2,rfl⟩:=x;have hne:rl≠[]:=λz=>by
  cases l with
  | nil=>exact hn rfl
  | cons p l=>have:=(h2 p).mpr (by simp);grind
 have:=zgj hne h1
 simp_all
theorem z69 {R:P->P->Prop}:∀{l:List P}{i:Nat}{a b:P},Path R l->l[i]? = some a->l[i+1]? = some b->R a b
 | [],_,_,_,_,e,_=>by simp at e
 | [_],i,_,_,_,e,f=>by simp at f
 | x::y::r,0,a,b,h,e,f=>by
  simp at e f;subst e;subst f;exact h.1
 | x::y::r,i+1,a,b,h,e,f=>z69 h.2 (by simpa using e) (by simpa using f)
theorem z3M {R:P->P->Prop}:∀{u v:List P},Path R (u++v)->Path R v
 | [],_,h=>h
 | [x],[],_=>trivial
 | [x],y::v,h=>h.2
 | x::y::u,v,h=>z3M (u:=y::u) h.2
theorem z5M {R:P->P->Prop}(det:∀a b c,R a b->R a c->b=c){m:P}:∀{t:List P},m ∉ t->Path R (t++[m])->t.Nodup
 | [],_,_ =>.nil
 | a::t,hm,h=>by
  rw[vB];have hm'  := λz=>hm (wm _ z);refine⟨λha =>?_,z5M det hm' (z3M (u:=[a]) h)⟩;obtain⟨u,v,e⟩:=List.append_of_mem ha;have h2  := by
   have:Path R ((a::u)++(a::v++[m])):=by simp_all
   exact z3M this
  have hv:m ∉ v:=λz=>hm' (by rw[e];simp[z]);have:=z3u det hm' hv h h2;have:=congrArg List.length this;rw[e] at this;simp at this;lia
def z08.nodup {S:P->Prop}{h:List P}(x:z08 S h):h.Nodup:=by
 obtain⟨m,t,rfl,h1,h2,h3,h4⟩:=x.ex
 rcases h4 with ⟨rfl,_⟩ | ⟨_,h4⟩
 .simp
 .rw[vB];exact⟨h3,z5M (λa b c e f=>e.det f) h3 (z3M (u:=[m]) h4)⟩
def z08.sub {S:P->Prop}{h:List P}(x:z08 S h):∀p∈h,S p:=by
 obtain⟨m,t,rfl,h1,h2,h3,h4⟩:=x.ex
 rcases h4 with ⟨rfl,_⟩ | ⟨ht,h4⟩
 .simp_all
 .intro p hp;obtain⟨i,hi,e⟩:=wX.mp hp;have h5:(m::t++[m])[i]? = some p:=by rw[wC hi,wq hi,e]
  have hi2:i+1<(m::t++[m]).length:=by simp at hi ⊢;lia
  exact(z69 h4 h5 (wq hi2)).sa
def Edge.less {S T:P->Prop}{a b:P}(e:Edge S a b)(h:∀p,T p->S p)(ha:T a)(hb:T b):Edge T a b:=⟨ha,hb,e.ne,λp hp=>e.left p (h p hp),λp hp=>e.btw p (h p hp)⟩
theorem z73 {S T:P->Prop}(h:∀p,T p->S p):∀{l:List P},(∀p∈l,T p)->Path (Edge S) l->Path (Edge T) l
 | [],_,_=>trivial
 | [_],_,_=>trivial
 | a::b::r,hl,hp=>⟨hp.1.less h (hl a (by simp)) (hl b (by simp)),z73 h (λp hp=>hl p (wm _ hp)) hp.2⟩
def z08.of {S T:P->Prop}{h:List P}(x:z08 S h)(ht:∀p,T p->S p)(hh:∀p∈h,T p):z08 T h:=by
 obtain⟨m,t,rfl,h1,h2,h3,h4⟩:=x.ex;refine⟨m,t,rfl,hh m (by simp),λp hp=>h2 p (ht p hp),h3,?_⟩
 rcases h4 with ⟨rfl,h4⟩ | ⟨hne,h4⟩
 .exact .inl ⟨rfl,λp hp=>h4 p (ht p hp)⟩
 .exact .inr ⟨hne,z73 ht (λp hp=>by
   grind) h4⟩
def z5k {S:P->Prop}{a b c:P}(e:Edge S a b)(f:Edge S b c)(h:a≠c):0<cr a b c:=by
 have h0:=e.left c f.sb
 rcases jd h0 with z | z
 .exact z
 exfalso
 have z1:cr a b c=0:=z.symm;have z2:cr b c a=0:=by rw[<- z1];unfold cr;grind
 obtain⟨p1,p2⟩:=e.btw c f.sb z1;obtain⟨q1,q2⟩:=f.btw a e.sa z2;have hab:=e.ne;have hbc:=f.ne;obtain⟨a1,a2⟩:=a;obtain⟨b1,b2⟩:=b;obtain⟨c1,c2⟩:=c;simp only[cr,dot] at*;generalize hu1:b1 - a1=u1 at*;generalize hu2:b2 - a2=u2 at*;generalize hv1:c1 - a1=v1 at*;generalize hv2:c2 - a2=v2 at*;have e1:(c1 - b1)*(a1 - b1)+(c2 - b2)*(a2 - b2)=(u1*u1+u2*u2) - (u1*v1+u2*v2):=by
  have:c1 - b1=v1 - u1:=by lia
  have:c2 - b2=v2 - u2:=by lia
  have:a1 - b1 = -u1:=by lia
  have:a2 - b2 = -u2:=by lia
  grind
 have e2:(a1 - c1)*(b1 - c1)+(a2 - c2)*(b2 - c2)=(v1*v1+v2*v2) - (u1*v1+u2*v2):=by
  have:a1 - c1 = -v1:=by lia
  have:a2 - c2 = -v2:=by lia
  have:b1 - c1=u1 - v1:=by lia
  have:b2 - c2=u2 - v2:=by lia
  grind
 rw[e1] at p2;rw[e2] at q2;have lag:(u1*v1+u2*v2)*(u1*v1+u2*v2)=(u1*u1+u2*u2)*(v1*v1+v2*v2):=by
  have:(u1*u1+u2*u2)*(v1*v1+v2*v2) - (u1*v1+u2*v2)*(u1*v1+u2*v2)=(u1*v2 - u2*v1)*(u1*v2 - u2*v1):=by grind
  rw[z1] at this;lia
 have hd:0<=u1*v1+u2*v2:=by
  have:(v1*u1+v2*u2)=u1*v1+u2*v2:=by grind
  lia
 generalize hD:u1*v1+u2*v2=d at*;generalize hU:u1*u1+u2*u2=uu at*;generalize hV:v1*v1+v2*v2=vv at*;have uun:0<=uu:=by have:=z0b u1;have:=z0b u2;lia
 have vvn:0<=vv:=by have:=z0b v1;have:=z0b v2;lia
 have duu:d*d<=uu*d:=vY (by lia) hd;have dvv:uu*d<=uu*vv:=Int.mul_le_mul_of_nonneg_left (by lia) uun;have hz1:uu*(vv - d)=0:=by
  have:uu*(vv - d)=uu*vv - uu*d:=by grind
  omega
 rcases wV.mp hz1 with z | z
 .obtain⟨k1,k2⟩:=z3w (hU.trans z);exact hab (uf (by show a1=b1;lia) (by show a2=b2;lia))
 .have hvd:vv=d:=by lia
  have hz2:d*(uu - d)=0:=by
   have:d*(uu - d)=uu*d - d*d:=by grind
   rw[hvd] at lag;omega
  rcases wV.mp hz2 with z | z
  .have hv0:v1*v1+v2*v2=0:=by lia
   obtain⟨k1,k2⟩:=z3w hv0;exact h (uf (by show a1=c1;lia) (by show a2=c2;lia))
  .have hw:(u1 - v1)*(u1 - v1)+(u2 - v2)*(u2 - v2)=0:=by
    have:(u1 - v1)*(u1 - v1)+(u2 - v2)*(u2 - v2)=(u1*u1+u2*u2) - 2*(u1*v1+u2*v2)+(v1*v1+v2*v2):=by grind
    lia
   obtain⟨k1,k2⟩:=z3w hw;exact hbc (uf (by show b1=c1;lia) (by show b2=c2;lia))
end Geo
local macro_rules | `(tactic| walk_at "bt") => `(tactic| first | assumption | (refine L2.Bt.add ?_ ?_ <;> walk_at "bt") | (refine L2.Bt.sub ?_ ?_ <;> walk_at "bt") | (refine L2.Bt.mul ?_ ?_ <;> walk_at "bt") | (apply L2.Bt.neg;walk_at "bt") | exact L2.bt_k (by decide +kernel) | exact L2.bt_n (by omega) (by omega))
local macro_rules | `(tactic| walk_at "mu") => `(tactic| exact⟨L2.Bt.le (by walk_at "bt") (by decide),L2.Bt.le (by walk_at "bt") (by decide)⟩)
local macro_rules | `(tactic| walk_at "ps") => `(tactic| first | assumption | decide | omega)
local macro_rules | `(tactic| walk_at "bb") => `(tactic| first | exact L2.z9d (by decide) (by decide) | exact L2.Bt.le (by walk_at "bt") (by decide) | exact L2.z9d (by omega) (by omega))
local macro_rules | `(tactic| walk_at "sf") => `(tactic| first | exact Pu.Safe.of_noL rfl rfl _ | exact Pu.Safe.of_noL (Pu.z1S _) (Pu.z1T _) _ | (repeat (first | exact trivial | refine⟨trivial,?_⟩)) | assumption)
local macro_rules | `(tactic| walk_at "en") => `(tactic| try simp only[List.set_cons_zero,List.set_cons_succ,wE,uN,List.replicate,List.cons_append,List.nil_append,Nat.reduceSub,Pu.dem,Pu.vis,Pu.visB,Pu.demB,List.getElem?_cons_zero,uB,Option.getD_some,Pu.z15,List.replicate_succ,List.replicate_zero])
local macro_rules | `(tactic| walk_at "st") => `(tactic| first
 | with_reducible apply Pu.e_c
 | ((with_reducible apply Pu.e_v);(apply Pu.z8O))
 |(with_reducible first|apply Pu.zjE|apply Pu.zdI|apply Pu.zlg|apply Pu.zlf|apply Pu.zle|apply Pu.zfc|apply Pu.zhh|apply Pu.zl2|apply Pu.zkS|apply Pu.zkT)| ((with_reducible apply Pu.zkW);(focus walk_at "mu"))
 | ((with_reducible apply Pu.zep);(focus walk_at "ps");(focus walk_at "bb"))
 | ((with_reducible apply Pu.zj4);(focus walk_at "ps"))
 | ((with_reducible apply Pu.zj3);(focus exact⟨by decide,by decide,by decide⟩))
 | ((with_reducible apply Pu.zkY);(try apply Pu.z8O))
 | ((with_reducible apply Pu.zkZ);(try apply Pu.z8O))
 |(with_reducible first|apply Pu.o_lt|apply Pu.o_le|apply Pu.o_gt|apply Pu.o_ge|apply Pu.o_eq|apply Pu.o_ne|apply Pu.zg1|apply Pu.zj9|apply Pu.zj8)| ((with_reducible apply Pu.zkQ);(focus (simp only[wO,v4];decide)))
 | ((with_reducible apply Pu.zkX);(focus (simp only[wO,v4];decide)))
 |(with_reducible first|apply Pu.zj2|apply Pu.zj7|apply Pu.zl3|apply Pu.zjc|apply Pu.zja|apply Pu.zjb|apply Pu.zj5|apply Pu.zli|apply Pu.e_or|apply Pu.zlh|apply Pu.n_bl|apply Pu.zeE|apply Pu.zl9|apply Pu.zl8|apply Pu.e_sl|apply Pu.ziE|apply Pu.ziD|apply Pu.zjA|apply Pu.zlq|apply Pu.zlp|apply Pu.z2J|apply Pu.z4Q|apply Pu.z45|apply Pu.zk1|apply Pu.zct|apply Pu.zha|apply Pu.s_if|apply Pu.zk2|apply Pu.ze6)| ((with_reducible apply Pu.zk4);(walk_at "en"))
 | with_reducible apply Pu.zf9
 | ((with_reducible apply Pu.z0L);(focus walk_at "sf");(walk_at "en"))
 | ((with_reducible apply Pu.zln);(walk_at "en"))
 | ((with_reducible apply Pu.zjL);(walk_at "en")))
local macro_rules | `(tactic| walk_at "go") => `(tactic| repeat walk_at "st")
local macro_rules | `(tactic| walk_at "fn") => `(tactic| ((refine Pu.zk7 rfl ?_);(walk_at "en")))
local macro_rules | `(tactic| walk_at "fe") => `(tactic| ((refine Pu.zk8 rfl ?_);(walk_at "en")))
local macro_rules | `(tactic| ac_nf) => `(tactic| walk_at "go")
local macro_rules | `(tactic| ac_rfl) => `(tactic| walk_at "en")
namespace Pu
open PySem L2
def szl {n:Nat}(h:n<=1000000):n<=sizeLine:=wI h (by decide)
def szl' {n:Nat}(h:n<=1000000):n<sizeLine:=Nat.lt_of_le_of_lt h (by decide)
abbrev Vb (n:Nat)(p:Int × Int):Prop:=Bt n p.1/\Bt n p.2
abbrev Wb (n:Nat)(l:List (Int × Int)):Prop:=∀p∈l,Vb n p
theorem Vb.le {m n:Nat}{p:Int × Int}(h:Vb m p)(q:autoParam (m<=n) jU):Vb n p:=⟨h.1.le q,h.2.le q⟩
theorem Wb.le {m n:Nat}{l:List (Int × Int)}(h:Wb m l)(q:autoParam (m<=n) jU):Wb n l:=λp hp=>(h p hp).le q
def z2T {p r:Int × Int}{Q:DK}{X:XP}(h1:Vb 30000000 p)(h2:Vb 30000000 r)(q:Q (.int (p.1*r.2 - p.2*r.1))):z1m.run [vec p,vec r] Q X:=by
 obtain⟨a1,a2⟩:=h1;obtain⟨b1,b2⟩:=h2;walk_at "fn";ac_nf;exact q
def z3J {p r:Int × Int}{Q:DK}{X:XP}(h1:Vb 30000000 p)(h2:Vb 30000000 r)(q:Q (.int (p.1*r.1+p.2*r.2))):z1K.run [vec p,vec r] Q X:=by
 obtain⟨a1,a2⟩:=h1;obtain⟨b1,b2⟩:=h2;walk_at "fn";ac_nf;exact q
def z1L {p r:Int × Int}{Q:DK}{X:XP}(q:Q (vec (r.1 - p.1,r.2 - p.2))):z0q.run [vec p,vec r] Q X:=by
 walk_at "fn";ac_nf;exact q
def Vb.step {p r:Int × Int}(h:Vb 20000000 p)(k:Vb 20000000 r):Vb 30000000 (r.1 - p.1,r.2 - p.2):=⟨(Bt.sub k.1 h.1).le,(Bt.sub k.2 h.2).le⟩
def zak {a b c:Int × Int}{Q:DK}{X:XP}(h1:Vb 20000000 a)(h2:Vb 20000000 b)(h3:Vb 20000000 c)(q:Q (.int (Geo.cr a b c))):z32.run [vec a,vec b,vec c] Q X:=by
 walk_at "fn";ac_nf;refine z1L ?_;ac_nf;refine z1L ?_;refine z2T (h1.step h2) (h2.step h3) ?_;have e:(b.1 - a.1)*(c.2 - b.2) - (b.2 - a.2)*(c.1 - b.1)=Geo.cr a b c:=by unfold Geo.cr;grind
 simp_all
def z8f {T:Nat->Fn}{i n:Nat}{es:List Ex}{ρ:Pu.Env}{Q:DK}{X:XP}(h:ρ.get i=some (.fn n))(q:runs es ρ (λds=>(T n).run ds Q X) X):(Ex.callv T i es).run ρ Q X:=⟨n,h,q⟩
def zb2 {l:List D}{Q:DK}{X:XP}(q:Q (.lst l.reverse)):z1H.run [.lst l] Q X:=q
def zjQ {α:Type}{b:α}{r:List α}:atI (b::r).reverse (-1)=some b:=by
 unfold atI ixN;rw[if_neg (by decide),List.length_reverse,wO,if_pos (by lia)];rw[show ((-1)+((r.length+1:Nat):Int)).toNat=r.length by lia];simp
def zgv {α:Type}{a b:α}{r:List α}:atI (b::a::r).reverse (-2)=some a:=by
 unfold atI ixN;rw[if_neg (by decide),List.length_reverse,wO,wO,if_pos (by lia)];rw[show ((-2)+((r.length+1+1:Nat):Int)).toNat=r.length by lia];simp
def z5K {l:List (Int × Int)}{Q:DK}{X:XP}(hb:Wb 20000000 l)(hz:l.length<=100000)(q:Q (.lst ((z24 l).reverse.map vec))):z2v.run [.lst (l.map vec),.fn 0] Q X:=by
 walk_at "fn";refine z45 (zct ?_);ac_nf;refine z2n (λx hx=>by cases hx) ?_;ac_rfl;ac_nf;refine z0I (f:=vec) (λdn ρ=>∃(st:List (Int × Int)) (x:B),st=z24 dn/\(∀p∈st,p∈l)/\st.length<=dn.length/\ρ=[.s (.lst (l.map vec)),.s (.fn 0),.o (.lst (st.reverse.map vec)),x]) ⟨[],_,rfl,(λp hp=>by cases hp),wp _,rfl⟩ ?_ ?_
 .rintro dn v r ρ e ⟨st,x,hst,hsub,hlen,rfl⟩;have hv:v∈l:=by rw[e];simp
  show Sm.run _ _ _ _ _;ac_rfl;refine Sm.cut (λρ=>∃st':List (Int × Int),st'=pops v st/\(∀p∈st',p∈l)/\st'.length<=dn.length/\ρ=[.s (.lst (l.map vec)),.s (.fn 0),.o (.lst (st'.reverse.map vec)),.s (vec v)]) ?_ ?_
  .refine z4L (λρ=>∃st':List (Int × Int),pops v st'=pops v st/\(∀p∈st',p∈l)/\st'.length<=dn.length/\ρ=[.s (.lst (l.map vec)),.s (.fn 0),.o (.lst (st'.reverse.map vec)),.s (vec v)]) (λρ=>nL ρ 2) ⟨st,rfl,hsub,hlen,rfl⟩ ?_;rintro ρ ⟨st',h1,h2,h3,rfl⟩;ac_nf
   match st',h1,h2,h3 with
   | [],h1,h2,h3=>
    refine t_no (by simp) ?_;refine z4Q ?_;exact⟨[],by rw[<- h1];rfl,h2,h3,rfl⟩
   | [b],h1,h2,h3=>
    refine t_no (by simp) ?_;refine z4Q ?_;exact⟨[b],by rw[<- h1];rfl,h2,h3,rfl⟩
   | b::a::r,h1,h2,h3=>
    refine z7N (by simp;lia) ?_;ac_nf;refine z8f rfl ?_;ac_nf;refine z1c (z0D zgv) ?_;ac_nf;refine z1c (z0D zjQ) ?_;ac_nf;have hB:∀p,p∈l->Vb 20000000 p:=hb;refine zak (hB a (h2 a (by simp))) (hB b (h2 b (by simp))) (hB v hv) ?_;ac_nf;refine z1v (λhc =>?_) (λhc =>?_)
    .refine zk3 (z11 rfl ?_);unfold popL;rw[wd,List.length_reverse,wG,show (b::a::r).reverse[(b::a::r).length - 1]? = some b by simp];refine⟨⟨a::r,?_,λp hp=>h2 p (wm _ hp),by simp at h3 ⊢;lia,?_⟩,?_⟩
     .rw[<- h1];show _=pops v (b::a::r);rw[pops,if_pos hc]
     .simp
     .show List.length _<List.length _;simp
    .exact⟨b::a::r,by rw[<- h1,pops,if_neg hc],h2,h3,rfl⟩
  .rintro ρ ⟨st',h1,h2,h3,rfl⟩;refine z63 (l:=[]) (z11 rfl ?_);ac_nf;have hdl:dn.length<l.length:=by rw[e];simp
   refine⟨by simp;exact szl' (by lia),Safe.of_noL rfl rfl _,?_⟩;ac_rfl;refine⟨v::st',.s (vec v),?_,λp hp =>?_,by simp;lia,by simp⟩
   .unfold z24 at hst ⊢;rw[List.foldl_append, <- hst,h1]
    rfl
   .rcases wg.mp hp with rfl | hp
    .exact hv
    .exact h2 p hp
 rintro ρ ⟨st,x,hst,hsub,hlen,rfl⟩;ac_nf;rw[hst];exact q
def z97 {α:Type}(l:List α):(l.drop (HT.sIx l.length 0 none)).take (HT.sIx l.length l.length (some (-1)) - HT.sIx l.length 0 none)=l.dropLast:=by
 rw[List.dropLast_eq_take];show (l.drop 0).take ((if (-1)<0 then ((-1:Int)+l.length).toNat else min (-1).toNat l.length) - 0)=_
 grind
def z61 {l:List (Int × Int)}{Q:DK}{X:XP}(hb:Wb 20000000 l)(hz:l.length<=100000)(q:Q (vecs (hull l))):z1V.run [.lst (l.map vec),.fn 0] Q X:=by
 walk_at "fn";ac_nf;rw[wd];refine z1v (λh =>?_) (λh =>?_)
 .ac_nf;rw[hull,if_pos (by lia)] at q;exact q
 ac_nf;refine z5K hb hz ?_;have c1:∀(l:List (Int × Int)) (s:List (Int × Int)),(l.foldl (λs v=>v::pops v s) s).length<=l.length+s.length:=by
  have c0:∀(v:Int × Int) (s:List (Int × Int)),(pops v s).length<=s.length:=by
   intro v s
   induction s with
   | nil=>exact wp _
   | cons b s ih=>
    cases s with
    | nil=>exact wp _
    | cons a s=>
     rw[pops]
     split
     .exact Nat.le_succ_of_le ih
     .exact wp _
  intro l
  induction l with
  | nil=>intro s;simp
  | cons v l ih=>
   intro s;rw[List.foldl_cons];have:=ih (v::pops v s);have:=c0 v s;simp only[wO] at*;lia
 have c2:(z24 l).length<=l.length:=wI (c1 l []) (wp _);have c3:(z24 l.reverse).length<=l.length:=wI (c1 l.reverse []) (by simp);refine z0L ?_ ?_
 .exact⟨trivial,trivial,trivial,trivial,trivial⟩
 ac_rfl;ac_nf;refine zb2 ?_;ac_nf;rw[<- List.map_reverse];refine z5K (λp hp=>hb p (by simpa using hp)) (by simpa using hz) ?_;refine z0L ⟨trivial,trivial,trivial,trivial,trivial⟩ ?_;ac_rfl;ac_nf;rw[z36,z36,z97,z97];refine zb3 (by simp;exact szl (by lia)) ?_;ac_nf;rw[<- wH];rw[hull,if_neg (by lia)] at q;exact q
def zez {a b:Int × Int}:HT.z0r [a.1,a.2] [b.1,b.2]=true↔Lx a b:=by
 rw[HT.z0M,HT.z0M];unfold Lx
 split
 .split
  .rw[HT.z2C]
   simp_all
  .simp;lia
 .simp;lia
def pk (p:Int × Int):List Int:=[p.1,p.2]
def zek {p r:Int × Int}(h:pk p=pk r):p=r:=by
 unfold pk at h
 grind
def zcA:∀{ks kl:List (List Int)}{l:List (Int × Int)},ks=l.map pk->Rows ks kl->∃rl:List (Int × Int),kl=rl.map pk/\rl.Pairwise Lx/\∀p,p∈rl↔p∈l:=by
 intro ks kl l e h;have h1:∀k∈kl,∃p,k=pk p:=λk hk=>by
  have:=(h.mem k).mp hk;rw[e] at this;obtain⟨p,_,rfl⟩:=wj.mp this;exact⟨p,rfl⟩
 have h2:∃rl:List _,kl=rl.map pk:=by
  clear h e
  induction kl with
  | nil=>exact⟨[],rfl⟩
  | cons k kl ih=>
   obtain⟨p,hp⟩:=h1 k wv;obtain⟨rl,hr⟩:=ih λk hk=>h1 k (wm _ hk);exact⟨p::rl,by rw[hp,hr];rfl⟩
 obtain⟨rl,rfl⟩:=h2;refine⟨rl,rfl,?_,λp =>?_⟩
 .have:=h.up;rw[wN] at this;exact this.imp λz=>zez.mp z
 .have:=h.mem (pk p);rw[e] at this
  constructor
  .intro hp;obtain⟨r,hr,er⟩:=wj.mp (this.mp (wj.mpr ⟨p,hp,rfl⟩));rw[<- zek er];exact hr
  .intro hp;obtain⟨r,hr,er⟩:=wj.mp (this.mpr (wj.mpr ⟨p,hp,rfl⟩));rw[<- zek er];exact hr
def Vs (d:D)(l:List (Int × Int)):Prop:=d = .tup (l.map vec)\/d = .lst (l.map vec)
def za4 (l:List (Int × Int)):l.map vec=(l.map pk).map tupD:=by rw[wK];rfl
def Vs.set {d:D}{l:List (Int × Int)}{P:List (List Int)->Prop}(h:Vs d l)(hz:l.length<=63)(q:P (l.map pk)):zai d P:=by
 rcases h with rfl | rfl
 .exact⟨l.map pk,za4 l,by simpa using hz,q⟩
 .exact⟨l.map pk,za4 l,by simpa using hz,q⟩
def z0z {d:D}{l:List (Int × Int)}{Q:DK}{X:XP}(hd:Vs d l)(hb:Wb 20000000 l)(hz:l.length<=63)(q:∀h,Hd l h->Q (vecs h)):z05.run [d] Q X:=by
 walk_at "fn";refine hd.set hz ⟨λk hk =>?_,λkl h =>?_⟩
 .obtain⟨p,_,rfl⟩:=wj.mp hk;unfold pk;simp
 obtain⟨rl,rfl,h1,h2⟩:=zcA rfl h;ac_nf;rw[<- za4];have nd  := h1.imp λz=>z.ne;have hl  := z1M nd λx hx=>(h2 x).mp hx;exact z61 (λp hp=>hb p ((h2 p).mp hp)) (by lia) (q _ ⟨rl,h1,h2,rfl⟩)
def dot (p r:Int × Int):Int:=p.1*r.1+p.2*r.2
end Pu
namespace Geo
def z08.cyc {S:P->Prop}{h:List P}(x:z08 S h)(hl:2<=h.length){j:Nat}(hj:j<h.length){a b:P}(ea:h[(j+h.length - 1) % h.length]? = some a)(eb:h[j]? = some b):Edge S a b:=by
 obtain⟨m,t,rfl,h1,h2,h3,h4⟩:=x.ex
 rcases h4 with ⟨rfl,_⟩ | ⟨_,h4⟩
 .simp at hl
 cases j with
 | zero=>
  rw[show (0+(m::t).length - 1) % (m::t).length=(m::t).length - 1 by rw[Nat.zero_add];exact wU (by lia)] at ea;simp at eb;subst eb;refine z69 (i:=(m::t).length - 1) h4 ?_ ?_
  .rw[wC (by lia)];exact ea
  .rw[show (m::t).length - 1+1=(m::t).length by lia,wM (wp _)];simp
 | succ j=>
  rw[show (j+1+(m::t).length - 1) % (m::t).length=j by rw[show j+1+(m::t).length - 1=j+(m::t).length by lia,ua];exact wU (by lia)] at ea;refine z69 (i:=j) h4 ?_ ?_
  .rw[wC (by lia)];exact ea
  .rw[wC hj];exact eb
def In (h:List P)(p:P):Prop:=match h with
 | []=>False
 | [m]=>p=m
 | [a,b]=>cr a b p=0/\0<=dot a b p/\0<=dot b a p
 | h=>∀j a b,j<h.length->h[(j+h.length - 1) % h.length]? = some a->h[j]? = some b->0<=cr a b p
def In.three {h:List P}{p:P}(hl:3<=h.length):In h p↔∀j a b,j<h.length->h[(j+h.length - 1) % h.length]? = some a->h[j]? = some b->0<=cr a b p:=by
 match h,hl with
 | a::b::c::r,_=>rfl
def z08.in {S:P->Prop}{h:List P}(x:z08 S h){p:P}(hp:S p):In h p:=by
 match h,x with
 | [],x=>obtain⟨m,t,e,_⟩:=x.ex;cases e
 | [m],x=>
  obtain⟨m',t,e,h1,h2,h3,h4⟩:=x.ex
  cases e
  rcases h4 with ⟨_,h4⟩ | ⟨h4,_⟩
  .exact h4 p hp
  simp_all
 | [a,b],x=>
  have e1:Edge S a b:=x.cyc (j:=1) (by simp) (by simp) (by simp) rfl;have e2:Edge S b a:=x.cyc (j:=0) (by simp) (by simp) (by simp) rfl;have z0:cr b a p = -cr a b p:=by unfold cr;grind
  have z:cr a b p=0:=by have:=e1.left p hp;have:=e2.left p hp;lia
  exact⟨z,e1.btw p hp z⟩
 | a::b::c::r,x=>exact λj y z hj ey ez=>(x.cyc (by simp) hj ey ez).left p hp
def cy (h:List P)(i:Nat):P:=h.getD (i % h.length) (0,0)
def z1k {h:List P}{i:Nat}(hl:0<h.length):h[i % h.length]? = some (cy h i):=by
 unfold cy;have:=jb i hl
 simp_all
def z34 {h:List P}{i:Nat}(hl:0<h.length):cy h i∈h:=wD (z1k hl)
def z67 {i n:Nat}(hn:0<n):((i+1) % n+n - 1) % n=i % n:=by
 have hr:=jb i hn;have e:(i+1) % n=(i % n+1) % n:=by simp
 rw[e]
 rcases wJ (i % n+1) n with z | z
 .rw[wU z,show i % n+1+n - 1=i % n+n by lia,ua,wU hr]
 .have:i % n+1=n:=by lia
  rw[this,Nat.mod_self,Nat.zero_add,wU (by lia)];lia
def z35 {S:P->Prop}{h:List P}(x:z08 S h)(hl:2<=h.length)(i:Nat):Edge S (cy h i) (cy h (i+1)):=
 x.cyc hl (jb _ (by lia)) (by rw[z67 (by lia)];exact z1k (by lia)) (z1k (by lia))
def zeJ {S:P->Prop}{h:List P}(x:z08 S h)(hl:3<=h.length)(i:Nat):cy h i≠cy h (i+2):=λz=>by
 have nd:=x.nodup;have h1:=z1k (h:=h) (i:=i) (by lia);have h2:=z1k (h:=h) (i:=i+2) (by lia);rw[<- z] at h2;obtain⟨g1,q1⟩:=wu.mp h1;obtain⟨g2,q2⟩:=wu.mp h2;have e:i % h.length=(i+2) % h.length:=by
  rcases uj _ _ with y | y | y
  .exact(vA.mp nd _ _ g1 g2 y (q1.trans q2.symm)).elim
  .exact y
  .exact(vA.mp nd _ _ g2 g1 y (q2.trans q1.symm)).elim
 have e2:(i+2) % h.length=(i % h.length+2) % h.length:=by simp
 rw[e2] at e;generalize i % h.length=r at*
 rcases wJ (r+2) h.length with y | y
 .rw[wU y] at e;lia
 .have e3:(r+2) % h.length=r+2 - h.length:=by
   rw[Nat.mod_eq_sub_mod y];exact wU (by lia)
  lia
theorem zaS {R:P->P->Prop}:∀{l:List P},(∀i a b,l[i]? = some a->l[i+1]? = some b->R a b)->Path R l
 | [],_=>trivial
 | [_],_=>trivial
 | x::y::r,h=>⟨h 0 x y rfl rfl,zaS λi a b ea eb=>h (i+1) a b (by simpa using ea) (by simpa using eb)⟩
def zdp {y m z p:P}(h1:0<=cr y m p)(h2:0<=cr m z p)(h3:0<cr y m z)(l1:Lx m y)(l2:Lx m z)(l3:Lx p m):False:=by
 unfold Lx at l1 l2 l3;have q:=zeU (u1:=y.1 - m.1) (u2:=y.2 - m.2) (w1:=m.1 - p.1) (w2:=m.2 - p.2) (z1:=z.1 - m.1) (z2:=z.2 - m.2) (by lia) (by lia) (by lia) (by unfold cr at h1;grind) (by unfold cr at h2;grind);unfold cr at h3
 grind
def z08.fill {S T:P->Prop}{h:List P}(x:z08 S h)(hT:∀p∈h,T p)(hi:∀p,T p->In h p):z08 T h:=by
 have sub:=x.sub
 match h,x,hT,hi,sub with
 | [],x,_,_,_=>obtain⟨m,t,e,_⟩:=x.ex;cases e
 | [m],x,hT,hi,_=>exact⟨m,[],rfl,hT m (by simp),λp hp=>by rw[hi p hp];exact Lx.irr,by simp,.inl ⟨rfl,hi⟩⟩
 | [a,b],x,hT,hi,sub=>
  obtain⟨m,t,e,h1,h2,h3,h4⟩:=x.ex
  cases e
  have e1:Edge S a b:=x.cyc (j:=1) (by simp) (by simp) (by simp) rfl;have hlt:Lx a b:=by
   rcases Lx.tri a b with z | z | z
   .exact z
   .exact absurd z e1.ne
   .exact absurd z (h2 b e1.sb)
  refine⟨a,[b],rfl,hT a (by simp),λp hp z =>?_,h3,.inr ⟨by simp,⟨⟨hT a (by simp),hT b (by simp),e1.ne,λp hp =>?_,λp hp _=>(hi p hp).2⟩,⟨hT b (by simp),hT a (by simp),vF e1.ne,λp hp =>?_,λp hp _=>⟨(hi p hp).2.2,(hi p hp).2.1⟩⟩,trivial⟩⟩⟩
  .obtain⟨y1,y2,y3⟩:=hi p hp;obtain⟨a1,a2⟩:=a;obtain⟨b1,b2⟩:=b;obtain⟨p1,p2⟩:=p;simp only[cr,dot,Lx] at*;generalize hu1:b1 - a1=u1 at*;generalize hu2:b2 - a2=u2 at*;generalize hq1:p1 - a1=q1 at*;generalize hq2:p2 - a2=q2 at*;have hz:q1<0\/q1=0/\q2<0:=by lia
   rcases(show 0<u1\/u1=0/\0<u2 by lia) with k1 | ⟨k1,k2⟩
   .have e1:(q1*u1+q2*u2)*u1=q1*(u1*u1+u2*u2):=by grind
    have n1:=z0b u1;have n2:=z0b u2;have n3:0<u1*u1:=vz k1 k1;have e2:0<=q1*(u1*u1+u2*u2):=by rw[<- e1];exact wR y2 (vi k1)
    have e3:0<=q1:=z3H (show 0<u1*u1+u2*u2 by lia) e2;have e4:q1=0:=by lia
    subst e4;have e5:u1*q2=0:=by lia
    rcases wV.mp e5 with z | z <;> lia
   .subst k1;have e5:u2*q1=0:=by lia
    rcases wV.mp e5 with z | z
    .lia
    .subst z;have:0<=q2*u2:=by lia
     have:=z3H k2 this;lia
  .rw[(hi p hp).1];exact jk _
  .have z0:cr b a p = -cr a b p:=by unfold cr;grind
   rw[z0,(hi p hp).1];exact jk _
 | a0::b0::c0::r0,x,hT,hi,sub=>
  generalize hh:a0::b0::c0::r0=h at*;have hl:3<=h.length:=by rw[<- hh];simp
  have hi':∀p,T p->∀i,0<=cr (cy h i) (cy h (i+1)) p:=λp hp i=>by
   have q:=(In.three hl).mp (hi p hp) ((i+1) % h.length) (cy h i) (cy h (i+1)) (jb _ (by lia));exact q (by rw[z67 (by lia)];exact z1k (by lia)) (z1k (by lia))
  have Qa:=z35 x (by lia);have ne2:=zeJ x hl;have tn:∀i,0<cr (cy h i) (cy h (i+1)) (cy h (i+2)):=λi=>z5k (Qa i) (Qa (i+1)) (ne2 i);have ct:∀i,T (cy h i):=λi=>hT _ (z34 (by lia));have ed':∀i,Edge T (cy h (i+1)) (cy h (i+2)):=λi=>⟨ct _,ct _,(Qa (i+1)).ne,λp hp=>hi' p hp (i+1),λp hp z=>⟨z8Q (tn i) (hi' p hp i) z,zb6 (tn (i+1)) (hi' p hp (i+2)) z⟩⟩
  have per:∀i,cy h (i+h.length)=cy h i:=λi=>by unfold cy;rw[ua]
  obtain⟨m,t,e,h1,h2,h3,h4⟩:=x.ex;have em:cy h 0=m:=by unfold cy;rw[e];simp
  refine⟨m,t,e,hT m (by rw[e];simp),λp hp z =>?_,h3,.inr ⟨λy=>by rw[e,y] at hl;simp at hl,zaS λi a b ea eb =>?_⟩⟩
  .have l1:Lx m (cy h 1):=by
    rcases Lx.tri m (cy h 1) with y | y | y
    .exact y
    .exact absurd (em.trans y) (Qa 0).ne
    .exact absurd y (h2 _ (Qa 0).sb)
   have el:Edge S (cy h (h.length - 1)) m:=by
    have:=Qa (h.length - 1);rw[show h.length - 1+1=0+h.length by lia,per,em] at this;exact this
   have l2:Lx m (cy h (h.length - 1)):=by
    rcases Lx.tri m (cy h (h.length - 1)) with y | y | y
    .exact y
    .exact absurd y.symm el.ne
    .exact absurd y (h2 _ el.sa)
   have p1:=hi' p hp (h.length - 1);rw[show h.length - 1+1=0+h.length by lia,per,em] at p1;have p2:=hi' p hp 0;rw[em] at p2;have p3:=tn (h.length - 1);rw[show h.length - 1+1=0+h.length by lia,show h.length - 1+2=1+h.length by lia,per,per,em] at p3;exact zdp p1 p2 p3 l2 l1 z
  .have hn:h.length=t.length+1:=by rw[e];simp
   have get:∀i z,(m::t++[m])[i]? = some z->i<=h.length/\z=cy h i:=λi z ez=>by
    rcases uj i h.length with y | y | y
    .rw[<- e,wC y] at ez;refine⟨by lia,?_⟩;have:=z1k (h:=h) (i:=i) (by lia);rw[wU y,ez] at this;exact(w5 this)
    .rw[<- e,wM (by lia),y] at ez;simp at ez;refine⟨by lia,?_⟩;rw[show i=0+h.length by lia,per,em];exact ez.symm
    .rw[<- e,uq (by simp;lia)] at ez
     cases ez
   obtain⟨i1,rfl⟩:=get i a ea;obtain⟨i2,rfl⟩:=get (i+1) b eb;have:=ed' (i+h.length - 1);rw[show i+h.length - 1+1=i+h.length by lia,show i+h.length - 1+2=i+1+h.length by lia,per,per] at this;exact this
end Geo
namespace Pu
open PySem L2
def zc4 {α:Type}{l:List α}{k:Nat}(h:k<l.length):atI l (k:Int)=l[k]? := by
 unfold atI ixN
 simp_all
def zc3 {α:Type}{x:α}{r:List α}:atI (x::r) 0=some x:=zc4 (by simp)
def zlB {α:Type}{l:List α}{k:Nat}(h:k<l.length):atI l ((k:Int) - 1)=l[(k+l.length - 1) % l.length]? := by
 unfold atI ixN
 by_cases h0:0<=(k:Int) - 1
 .rw[if_pos h0,if_pos (by lia)];show l[((k:Int) - 1).toNat]? = _;rw[show (k+l.length - 1) % l.length=k - 1 by rw[show k+l.length - 1=(k - 1)+l.length by lia,ua];exact wU (by lia)]
  congr 1
  lia
 .rw[if_neg h0,if_pos (by lia)];have hk:k=0:=by lia
  subst hk;show l[(((0:Nat):Int) - 1+(l.length:Int)).toNat]? = _;rw[show (0+l.length - 1) % l.length=l.length - 1 by rw[Nat.zero_add];exact wU (by lia)]
  congr 1
  lia
abbrev P:=Geo.P
def stp (a b:P):P:=(b.1 - a.1,b.2 - a.2)
def rt (s:P):P:=(s.2,-s.1)
def z0s (h:List P)(j:Nat):List (P × P):=(rt (stp (Geo.cy h (j+h.length - 1)) (Geo.cy h j)),Geo.cy h j)::if h.length=2 then [(stp (Geo.cy h (j+h.length - 1)) (Geo.cy h j),Geo.cy h j)] else []
def ways:List P:=[(1,0),(0,1),(-1,0),(0,-1)]
def z0K (h:List P):List (P × P):=if h.length=1 then ways.map λb=>(b,Geo.cy h 0) else (List.range h.length).flatMap (z0s h)
abbrev zfQ (x:P × P):D :=.tup [vec x.1,vec x.2]
def z5J {s:P}{Q:DK}{X:XP}(q:Q (vec (rt s))):z1Y.run [vec s] Q X:=by
 walk_at "fn";ac_nf;exact q
def z8j {h:List P}{k:Nat}(hk:k<h.length):atI h (k:Int)=some (Geo.cy h k):=by
 rw[zc4 hk, <- z1k (by lia),wU hk]
def zjI {h:List P}{k:Nat}(hk:k<h.length):atI h ((k:Int) - 1)=some (Geo.cy h (k+h.length - 1)):=by rw[zlB hk,z1k (by lia)]
def z4x {h:List P}{Q:DK}{X:XP}(hz:h.length<=100000)(hn:h≠[])(q:Q (.lst ((z0K h).map zfQ))):z1s.run [vecs h,.fn 2] Q X:=by
 have h0:0<h.length:=vd.mpr hn;walk_at "fn";ac_nf;rw[wd];refine z1v (λhl =>?_) (λhl =>?_)
 .ac_nf;show onL (z03 (vecs ways)) _;ac_nf;refine⟨by rw[wd];exact szl' (by decide),?_⟩;refine z1n (g:=λb=>zfQ (b,Geo.cy h 0)) (λb hb K hK =>?_) ?_
  .ac_nf;refine z1c (z0D (z8j (k:=0) h0)) ?_;ac_nf;exact hK
  .rw[z0K,if_pos (by lia),wK] at q;exact q
 refine ze6 ?_;refine z45 (zct ?_);ac_nf;refine z2n (λx hx=>by cases hx) ?_;ac_rfl;ac_nf;rw[wd];refine z8E (by lia) (by lia) ?_;have er:((h.length:Nat):Int).toNat=h.length:=by simp
 rw[er];have hlen:∀dn:List Nat,(dn.flatMap (z0s h)).length<=2*dn.length:=by
  intro dn
  induction dn with
  | nil=>simp
  | cons k dn ih=>
   rw[List.flatMap_cons,wL];have:(z0s h k).length<=2:=by unfold z0s;split <;> simp
   simp only[wO];lia
 refine z0I (f:=λ(j:Nat)=>D.int (j:Int)) (λdn ρ=>∃x y z:B,(∀d,noL d=true->noD d=true->True)/\ρ=[.s (vecs h),.s (.fn 2),.o (.lst ((dn.flatMap (z0s h)).map zfQ)),x,y,z]) ⟨_,_,_,λ_ _ _=>trivial,rfl⟩ ?_ ?_
 .rintro dn k r ρ e ⟨x,y,z,_,rfl⟩;have hk:k<h.length:=by
   have:k∈List.range h.length:=by rw[e];simp
   simpa using this
  have hd:dn.length<h.length:=by
   have:=congrArg List.length e;simp at this;lia
  have hl2:=hlen dn;show Sm.run _ _ _ _ _;ac_rfl;ac_nf;refine z1c (z0D (z8j hk)) ?_;refine z0L (Safe.of_noL rfl rfl _) ?_;ac_rfl;ac_nf;refine z8f rfl ?_;ac_nf;refine z1c (z0D (zjI hk)) ?_;ac_nf;refine z1L ?_;refine z0L (Safe.of_noL rfl rfl _) ?_;ac_rfl;refine z45 (z63 (l:=[]) (z11 rfl ?_));ac_nf;refine z5J ?_;ac_nf;refine⟨by rw[wd];exact szl' (by lia),Safe.of_noL rfl rfl _,?_⟩;ac_rfl;ac_nf;rw[wd];refine z1v (λh2 =>?_) (λh2 =>?_)
  .refine z63 (l:=[]) (z11 rfl ?_);ac_nf;refine⟨by rw[wL,wd];exact szl' (by simp only[wO,v4];lia),Safe.of_noL rfl rfl _,?_⟩;ac_rfl;refine⟨.s (.int (k:Int)),.s (vec (Geo.cy h k)),.s (vec (stp (Geo.cy h (k+h.length - 1)) (Geo.cy h k))),λ_ _ _=>trivial,?_⟩;rw[List.flatMap_append,wH,List.flatMap_cons,List.flatMap_nil,vJ,z0s,if_pos (by lia)];simp[stp]
  .ac_nf;refine⟨.s (.int (k:Int)),.s (vec (Geo.cy h k)),.s (vec (stp (Geo.cy h (k+h.length - 1)) (Geo.cy h k))),λ_ _ _=>trivial,?_⟩;rw[List.flatMap_append,wH,List.flatMap_cons,List.flatMap_nil,vJ,z0s,if_neg (by lia)];simp[stp]
 rintro ρ ⟨x,y,z,_,rfl⟩;ac_nf;rw[z0K,if_neg (by lia)] at q;exact q
def z3G {a b p:P}:dot p (rt (stp a b))<=dot b (rt (stp a b))↔0<=Geo.cr a b p:=by
 have e:dot b (rt (stp a b)) - dot p (rt (stp a b))=Geo.cr a b p:=by
  unfold dot rt stp Geo.cr
  grind
 lia
def z4Z {a b p:P}:dot p (stp a b)<=dot b (stp a b)↔0<=Geo.dot b a p:=by
 have e:dot b (stp a b) - dot p (stp a b)=Geo.dot b a p:=by
  unfold dot stp Geo.dot
  grind
 lia
def z4Y {h:List P}{s:P × P}(hl:h.length≠1)(hs:s∈z0K h):∃j,j<h.length/\s∈z0s h j:=by
 rw[z0K,if_neg hl] at hs
 simp_all
def z2t {h:List P}{s:P × P}{j:Nat}(hl:h.length≠1)(hj:j<h.length)(hs:s∈z0s h j):s∈z0K h:=by
 rw[z0K,if_neg hl,List.mem_flatMap];exact⟨j,vU.mpr hj,hs⟩
def zco {h:List P}{p:P}(hn:h≠[])(hs:∀s∈z0K h,dot p s.1<=dot s.2 s.1):In h p:=by
 match h,hn,hs with
 | [m],_,hs=>
  have h1:=hs ((1,0),m) (by simp[z0K,ways,Geo.cy]);have h2:=hs ((0,1),m) (by simp[z0K,ways,Geo.cy]);have h3:=hs ((-1,0),m) (by simp[z0K,ways,Geo.cy]);have h4:=hs ((0,-1),m) (by simp[z0K,ways,Geo.cy]);unfold dot at h1 h2 h3 h4;dsimp only at h1 h2 h3 h4;show p=m;exact uf (by lia) (by lia)
 | [a,b],_,hs=>
  have m0:∀s,s∈z0s [a,b] 0->s∈z0K [a,b]:=λs z=>z2t (by simp) (by simp) z;have m1:∀s,s∈z0s [a,b] 1->s∈z0K [a,b]:=λs z=>z2t (by simp) (by simp) z;have h1:=z3G.mp (hs _ (m0 (rt (stp b a),a) (by simp[z0s,Geo.cy])));have h2:=z3G.mp (hs _ (m1 (rt (stp a b),b) (by simp[z0s,Geo.cy])));have h3:=z4Z.mp (hs _ (m0 (stp b a,a) (by simp[z0s,Geo.cy])));have h4:=z4Z.mp (hs _ (m1 (stp a b,b) (by simp[z0s,Geo.cy])));have z0:Geo.cr b a p = -Geo.cr a b p:=by unfold Geo.cr;grind
  exact⟨by lia,h3,h4⟩
 | a::b::c::r,_,hs=>
  refine(In.three (by simp)).mpr λj x y hj ex ey =>?_;have hcj:Geo.cy (a::b::c::r) j=y:=by
   have:=z1k (h:=a::b::c::r) (i:=j) (by simp);rw[wU hj,ey] at this;exact(w5 this).symm
  have hcx:Geo.cy (a::b::c::r) (j+(a::b::c::r).length - 1)=x:=by
   have:=z1k (h:=a::b::c::r) (i:=j+(a::b::c::r).length - 1) (by simp);rw[ex] at this;exact(w5 this).symm
  have:=hs (rt (stp x y),y) (z2t (j:=j) (by simp) hj (by rw[z0s,hcj,hcx];exact wv));exact z3G.mp this
def z8A {S:P->Prop}{h:List P}(x:z08 S h){s:P × P}(hs:s∈z0K h):s.2∈h/\∀p,S p->dot p s.1<=dot s.2 s.1:=by
 by_cases hl:h.length=1
 .obtain⟨m,rfl⟩:∃m,h=[m]:=by
   match h,hl with
   | [m],_=>exact⟨m,rfl⟩
  rw[z0K,if_pos hl] at hs;obtain⟨b,hb,rfl⟩:=wj.mp hs;refine⟨by simp[Geo.cy],λp hp =>?_⟩;have:p=m:=x.in hp;subst this;exact jk _
 .obtain⟨j,hj,hs⟩:=z4Y hl hs;have h2:2<=h.length:=by lia
  have e:=z35 x h2 (j+h.length - 1);rw[show j+h.length - 1+1=j+h.length by lia,show Geo.cy h (j+h.length)=Geo.cy h j by unfold Geo.cy;rw[ua]] at e;unfold z0s at hs
  rcases wg.mp hs with rfl | hs
  .exact⟨z34 (by lia),λp hp=>z3G.mpr (e.left p hp)⟩
  .split at hs
   .rename_i h22
    rw[wt.mp hs];refine⟨z34 (by lia),λp hp=>z4Z.mpr ?_⟩;have f:=z35 x h2 j;have e0:Geo.cy h (j+h.length - 1)=Geo.cy h (j+1):=by unfold Geo.cy;rw[h22];congr 1
    rw[e0] at e ⊢;have z0:Geo.cr (Geo.cy h j) (Geo.cy h (j+1)) p = -Geo.cr (Geo.cy h (j+1)) (Geo.cy h j) p:=by unfold Geo.cr;grind
    have l1:=e.left p hp;have l2:=f.left p hp;exact(f.btw p hp (by lia)).1
   .cases hs
end Pu
namespace Geo
def sc (p b:P):Int:=p.1*b.1+p.2*b.2
def z9U (b:P):∀{h:List P},h≠[]->∃i,i<h.length/\∀p∈h,sc p b<=sc (cy h i) b:=by
 have main:∀{h:List P},h≠[]->∃c∈h,∀p∈h,sc p b<=sc c b:=by
  intro h
  induction h with
  | nil=>intro z;exact absurd rfl z
  | cons x r ih=>
   intro _
   cases r with
   | nil=>simp_all
   | cons y r=>
    obtain⟨c,hc,hm⟩:=ih (by simp)
    by_cases z:sc x b<=sc c b
    .refine⟨c,wm _ hc,λp hp =>?_⟩
     rcases wg.mp hp with rfl | hp
     .exact z
     .exact hm p hp
    .refine⟨x,by simp,λp hp =>?_⟩
     rcases wg.mp hp with rfl | hp
     .exact jk _
     .have:=hm p hp;lia
 intro h hn;obtain⟨c,hc,hm⟩:=main hn;obtain⟨i,hi,e⟩:=wX.mp hc;refine⟨i,hi,λp hp =>?_⟩;have:cy h i=c:=by
  have:=z1k (h:=h) (i:=i) (by lia);rw[wU hi,wq hi,e] at this
  simp_all
 rw[this];exact hm p hp
def z08.far {S:P->Prop}{h:List P}(x:z08 S h){p:P}(hp:In h p)(b:P):∃c∈h,sc p b<=sc c b:=by
 match h,x,hp with
 | [],x,_=>obtain⟨m,t,e,_⟩:=x.ex;cases e
 | [m],x,hp=>exact⟨m,by simp,by rw[show p=m from hp];exact jk _⟩
 | [y,z],x,hp=>
  obtain⟨h1,h2,h3⟩:=hp;have e1:Edge S y z:=x.cyc (j:=1) (by simp) (by simp) (by simp) rfl;have hne:=e1.ne;obtain⟨y1,y2⟩:=y;obtain⟨z1,z2⟩:=z;obtain⟨p1,p2⟩:=p;obtain⟨b1,b2⟩:=b;simp only[cr,dot] at h1 h2 h3;generalize hu1:z1 - y1=u1 at*;generalize hu2:z2 - y2=u2 at*;generalize hq1:p1 - y1=q1 at*;generalize hq2:p2 - y2=q2 at*;have hpos:0<u1*u1+u2*u2:=by
   have:=z0b u1;have:=z0b u2
   rcases jd (show 0<=u1*u1+u2*u2 by lia) with k | k
   .exact k
   .obtain⟨k1,k2⟩:=z3w k.symm;exact(hne (uf (by show y1=z1;lia) (by show y2=z2;lia))).elim
  by_cases hb:0<=u1*b1+u2*b2
  .refine⟨(z1,z2),by simp,?_⟩;simp only[sc];have k1:y1 - z1 = -u1:=by lia
   have k2:y2 - z2 = -u2:=by lia
   have k3:p1 - z1=q1 - u1:=by lia
   have k4:p2 - z2=q2 - u2:=by lia
   rw[k1,k2,k3,k4] at h3;have id1:(z1*b1+z2*b2 - (p1*b1+p2*b2))*(u1*u1+u2*u2)=((q1 - u1) * -u1+(q2 - u2) * -u2)*(u1*b1+u2*b2)+(u1*q2 - u2*q1)*(u2*b1 - u1*b2):=by
    have e1:z1=u1+y1:=by lia
    have e2:z2=u2+y2:=by lia
    have e3:p1=q1+y1:=by lia
    have e4:p2=q2+y2:=by lia
    subst e1 e2 e3 e4
    grind
   rw[h1,jl,uw] at id1;have:=z3H hpos (by rw[id1];exact wR h3 hb);lia
  .refine⟨(y1,y2),by simp,?_⟩;simp only[sc];have id1:(y1*b1+y2*b2 - (p1*b1+p2*b2))*(u1*u1+u2*u2)=(q1*u1+q2*u2) * -(u1*b1+u2*b2) - (u1*q2 - u2*q1)*(u1*b2 - u2*b1):=by
    have e3:p1=q1+y1:=by lia
    have e4:p2=q2+y2:=by lia
    subst e3 e4
    grind
   rw[h1,jl,Int.sub_zero] at id1;have:=z3H hpos (by rw[id1];exact wR h2 (by lia));lia
 | a0::b0::c0::r0,x,hp=>
  generalize hh:a0::b0::c0::r0=h at*;have hl:3<=h.length:=by rw[<- hh];simp
  have hi':∀i,0<=cr (cy h i) (cy h (i+1)) p:=λi=>by
   have q:=(In.three hl).mp hp ((i+1) % h.length) (cy h i) (cy h (i+1)) (jb _ (by lia));exact q (by rw[z67 (by lia)];exact z1k (by lia)) (z1k (by lia))
  have Qa:=z35 x (by lia);have ne2:=zeJ x hl;have tn:∀i,0<cr (cy h i) (cy h (i+1)) (cy h (i+2)):=λi=>z5k (Qa i) (Qa (i+1)) (ne2 i);have per:∀i,cy h (i+h.length)=cy h i:=λi=>by unfold cy;rw[ua]
  obtain⟨i,hi,hm⟩:=z9U b (h:=h) (by rw[<- hh];simp);refine⟨cy h i,z34 (by lia),?_⟩;have m1:=hm (cy h (i+h.length - 1)) (z34 (by lia));have m2:=hm (cy h (i+1)) (z34 (by lia));have t0:=tn (i+h.length - 1);have l0:=hi' (i+h.length - 1);have l1:=hi' i;rw[show i+h.length - 1+1=i+h.length by lia,per] at t0 l0;rw[show i+h.length - 1+2=(i+1)+h.length by lia,per] at t0;generalize cy h (i+h.length - 1)=y at*;generalize cy h i=c at*;generalize cy h (i+1)=z at*;unfold cr at t0 l0 l1;unfold sc at m1 m2 ⊢;have t0':0<(z.1 - c.1)*(y.2 - c.2) - (z.2 - c.2)*(y.1 - c.1):=by grind
  have l0':0<=(p.1 - c.1)*(y.2 - c.2) - (p.2 - c.2)*(y.1 - c.1):=by grind
  have id1:(c.1*b.1+c.2*b.2 - (p.1*b.1+p.2*b.2))*((z.1 - c.1)*(y.2 - c.2) - (z.2 - c.2)*(y.1 - c.1))=((p.1 - c.1)*(y.2 - c.2) - (p.2 - c.2)*(y.1 - c.1))*(c.1*b.1+c.2*b.2 - (z.1*b.1+z.2*b.2))+((z.1 - c.1)*(p.2 - c.2) - (z.2 - c.2)*(p.1 - c.1))*(c.1*b.1+c.2*b.2 - (y.1*b.1+y.2*b.2)):=by grind
  have n1:=wR l0' (show 0<=c.1*b.1+c.2*b.2 - (z.1*b.1+z.2*b.2) by lia);have n2:=wR l1 (show 0<=c.1*b.1+c.2*b.2 - (y.1*b.1+y.2*b.2) by lia);have:=z3H t0' (by rw[id1];lia);lia
theorem z4e:∀{l:List Int},(∀x∈l,0<=x)->0<=l.sum/\∀x∈l,x<=l.sum
 | [],_=>⟨by simp,λx hx=>by cases hx⟩
 | y::l,h=>by
  have ih:=z4e (l:=l) λx hx=>h x (by simp[hx]);have hy:=h y (by simp);rw[vh];refine⟨by lia,λx hx =>?_⟩
  rcases wg.mp hx with rfl | hx
  .lia
  .have:=ih.2 x hx;lia
end Geo
namespace Pu
open PySem L2
def Far (m:Int)(p:Int × Int):Prop:=(-m<=p.1/\p.1<=m) /\ -m<=p.2/\p.2<=m
def Far.vb {m:Int}{n:Nat}{p:Int × Int}(h:Far m p)(hm:m<2 ^ n):Vb n p:=by
 obtain⟨⟨h1,h2⟩,h3,h4⟩:=h;have e:((2 ^ n:Nat):Int)=2 ^ n:=by simp
 refine⟨z0d ?_,z0d ?_⟩ <;> lia
def zhe {s t:Sm}{ρ:Pu.Env}{N:Pu.Env->Prop}{Q:DK}{X:XP}(W:Pu.Env->Prop)(h:s.run ρ W Q X)(k:∀ρ',W ρ'->t.run ρ' N Q X):(Sm.seq s t).run ρ N Q X:=s.mono ρ W _ Q Q X X k (λ_ z=>z) (λ_ z=>z) h
def zeL {α:Type}{f:α->D}{l:List α}{k:Int}(h:0<=k):cutD (l.map f) (some k) none=(l.drop k.toNat).map f:=by
 have hs:HT.sIx l.length 0 (some k)=min k.toNat l.length:=by
  show (if k<0 then (k+(l.length:Int)).toNat else min k.toNat l.length)=_;rw[if_neg (by lia)]
 rw[z36,hs];show ((l.drop (min k.toNat l.length)).take (l.length - min k.toNat l.length)).map f=_;rw[v3 (by simp)]
 rcases Nat.le_total k.toNat l.length with z | z
 .rw[Nat.min_eq_left z]
 .rw[Nat.min_eq_right z,List.drop_eq_nil_of_le z,List.drop_length]
open Mth
structure Pl (x y b u v t:Int):Prop where
 pos:0<t
 cop:Int.gcd ((Int.gcd u v:Nat):Int) t=1
 cx:u*b=x*t
 cy:v*b=y*t
def Pl.of {x y b u v t:Int}(h:Plc x y b u v t):Pl x y b u v t:=⟨by have:=h.pos;lia,h.cop,h.cx,h.cy⟩
def z6y {u v t b:Int}(hc:Int.gcd ((Int.gcd u v:Nat):Int) t=1)(h1:t ∣ u*b)(h2:t ∣ v*b):t ∣ b:=by
 have a1:t.natAbs ∣ u.natAbs*b.natAbs:=by rw[<- v5];exact v7.mpr h1
 have a2:t.natAbs ∣ v.natAbs*b.natAbs:=by rw[<- v5];exact v7.mpr h2
 have a3:=jQ a1 a2;rw[Nat.gcd_mul_right] at a3;have hc':Nat.Coprime t.natAbs (Nat.gcd u.natAbs v.natAbs):=by
  rw[z2g,jH] at hc;exact hc
 exact v7.mp (hc'.dvd_of_dvd_mul_left a3)
def Pl.dvd {x y b u v t:Int}(h:Pl x y b u v t):t ∣ b:=z6y h.cop ⟨x,by rw[h.cx,vG]⟩ ⟨y,by rw[h.cy,vG]⟩
def Pl.eq {x y b u v t u' v' t':Int}(hb:0<b)(h:Pl x y b u v t)(k:Pl x y b u' v' t'):u=u'/\v=v'/\t=t':=by
 have hb0:b≠0:=by lia
 have cr:∀{u u' x:Int},u*b=x*t->u'*b=x*t'->u*t'=u'*t:=λ{u u' x} e1 e2=>by
  apply vW hb0
  calc u*t'*b=(u*b)*t':=by grind
   _=(u'*b)*t:=by rw[e1,e2];grind
   _=u'*t*b:=by grind
 have c1:=cr h.cx k.cx;have c2:=cr h.cy k.cy;have d1:t ∣ t':=z6y h.cop ⟨u',by rw[c1,vG]⟩ ⟨v',by rw[c2,vG]⟩;have d2:t' ∣ t:=z6y k.cop ⟨u,by rw[<- c1,vG]⟩ ⟨v,by rw[<- c2,vG]⟩;have e:t=t':=Int.dvd_antisymm (by have:=h.pos;lia) (by have:=k.pos;lia) d1 d2;subst e;have ht:t≠0:=by have:=h.pos;lia
 exact⟨vW ht c1,vW ht c2,rfl⟩
def Pl.bt {x y b u v t:Int}{n m:Nat}(hb:0<b)(h:Pl x y b u v t)(bb:Bt n b)(bx:Bt m x)(bY:Bt m y):Bt n t/\Bt m u/\Bt m v:=by
 obtain⟨k,hk⟩:=h.dvd;have ht:=h.pos;have hk1:0<k:=by
  rcases vT 0 k with z | z
  .exact z
  .have:=wT (vi ht) z;lia
 have le:∀{u x:Int},u*b=x*t->u.natAbs<=x.natAbs:=λ{u x} e=>by
  have:u*k=x:=by
   apply vW (show t≠0 by lia);rw[<- e,hk]
   grind
  rw[<- this,v5];exact Nat.le_mul_of_pos_right _ (by lia)
 refine⟨bb.of_abs ?_,bx.of_abs (le h.cx),bY.of_abs (le h.cy)⟩;rw[hk,v5];exact Nat.le_mul_of_pos_right _ (by lia)
def zc6 (a:Int):(if a<0 then -a else a)=(a.natAbs:Int):=by split <;> lia
def z62 {a b:Int}{Q:DK}{X:XP}(q:Q (.int ((Int.gcd a b:Nat):Int))):z0g.run [.int a,.int b] Q X:=by
 walk_at "fn";ac_nf;rw[zc6,zc6];refine z4L (λρ=>∃(g s:Nat) (x:B),Nat.gcd g s=Int.gcd a b/\ρ=[.s (.int a),.s (.int b),.s (.int (g:Int)),.s (.int (s:Int)),x]) (λρ=>(nI ρ 3).toNat) ⟨a.natAbs,b.natAbs,_,rfl,rfl⟩ ?_;rintro ρ ⟨g,s,x,e,rfl⟩;ac_nf;refine z2s (z1v (λz =>?_) (λz =>?_))
 .ac_nf;have:s=0:=by lia
  subst this;rw[Nat.gcd_zero_right] at e;rw[e];exact q
 .ac_nf;have hm:(g:Int) % (s:Int)=((g % s:Nat):Int):=by simp
  refine⟨⟨s,g % s,_,by rw[<- e,jH g s,Nat.gcd_rec s g,jH],by rw[hm]⟩,?_⟩;show ((g:Int) % (s:Int)).toNat<((s:Nat):Int).toNat
  rw[hm];have:=jb g (show 0<s by lia);lia
def gcd0 (u t:Int):Int.gcd ((Int.gcd u 0:Nat):Int) t=Int.gcd u t:=by rw[z2g];simp[Int.gcd]
def Pl.low {t b:Int}(hb:0<b):Pl t 0 b (t / (Int.gcd t b:Int)) 0 (b / (Int.gcd t b:Int)):=by
 obtain⟨g0,e1,e2,e3,e4⟩:=z4h (t:=t) hb;refine⟨by lia,by rw[gcd0];exact e4,?_,by simp⟩;generalize (Int.gcd t b:Int)=g at*;generalize t / g=u at*;generalize b / g=w at*;rw[e2,e1]
 grind
def zau {a b c d:Int}{Q:DK}{X:XP}(hb:0<b)(hd:0<d)(h1:Int.gcd a b=1)(h2:Int.gcd c d=1)(ba:Bt 8000 a)(bb:Bt 8000 b)(bc:Bt 8000 c)(bd:Bt 8000 d)
  (q:∀u t,Pl (a*d+c*b) 0 (b*d) u 0 t->Q (.tup [.int u,.int t])):z6v.run [.tup [.int a,.int b],.tup [.int c,.int d]] Q X:=by
 obtain⟨g,eg⟩:∃g,g=((Int.gcd b d:Nat):Int):=⟨_,rfl⟩
 obtain⟨t,et⟩:∃t,t=a*(d / g)+c*(b / g):=⟨_,rfl⟩
 obtain⟨r,er⟩:∃r,r=((Int.gcd g t:Nat):Int):=⟨_,rfl⟩
 obtain⟨g0,r0,gl,rl,pl⟩:=zaJ (x:=a) (y:=0) (z:=b) (a:=c) (b:=0) (c:=d) (v:=0) (r:=r) hb hd (by rw[gcd0];exact h1) (by rw[gcd0];exact h2) eg et (by simp) (by rw[er];simp);have bg:Bt 9000 g:=Bt.le (bb.of_abs gl);have br:Bt 9000 r:=Bt.le (bb.of_abs rl);have b1:Bt 8000 (d / g):=bd.of_abs (z0W g0);have b2:Bt 8000 (b / g):=bb.of_abs (z0W g0);have b3:Bt 8000 (d / r):=bd.of_abs (z0W r0);walk_at "fn";ac_nf;refine z62 ?_;rw[<- eg];ac_nf;rw[<- et];refine z62 ?_;rw[<- er];ac_nf;have:=Pl.of pl;simp only[Int.zero_ediv,jl,uw] at this;exact q _ _ this
abbrev Sh:=Nat × Int × Int
abbrev shD (s:Sh):D :=.tup [.int (s.1:Int),.tup [.int s.2.1,.int s.2.2]]
def wx (l:List P)(k:Nat):Int:=(Geo.cy l k).1
def wy (l:List P)(k:Nat):Int:=(Geo.cy l k).2
def z10 {c k m:Int}{Q:DK}{X:XP}(hk:0<=k)(hk':k<=1000)(hm:0<m)(q:∀r:Int,0<=r->r<m->Q (.int r)):z00.run [.int c,.int k,.int m] Q X:=by
 have b1:Bt 700 (c % 170141183460469231731687303715884105727+(k+3)*1000000007):=(Bt.add (z0d (n:=130) (by lia)) (z0d (n:=130) (by lia))).le;walk_at "fn";ac_nf;exact q _ (jO _ (by lia)) (je _ hm)
def Ln (d:D):Prop:=d = .non\/∃p:P,d=vec p/\Far 3 p
def zao {c m:Int}{Q:DK}{X:XP}(hm:0<=m)(hb:m<=1000000000)(q:∀p,Far 1000000000 p->Q (vec p)):z0a.run [.int c,.int m] Q X:=by
 have b2:0<2*m+1:=by lia
 have bm:Bt 640 m:=z0d (by lia);have bw:Bt 9000 (2*m+1):=Bt.le (m:=40) (z0d (by lia));walk_at "fn";ac_nf;have h1:=jO c (show 2*m+1≠0 by lia);have h2:=je c b2;have h3:=jO (c / (2*m+1)) (show 2*m+1≠0 by lia);have h4:=je (c / (2*m+1)) b2;exact q (c % (2*m+1) - m,c / (2*m+1) % (2*m+1) - m) ⟨⟨by lia,by lia⟩,by lia,by lia⟩
abbrev wtD (x:List P × P):D :=.tup [vecs x.1,vec x.2]
def zb4 (x:List P × P):noL (wtD x)=true:=by
 have:=z1S x.1;simpa[noLs,noL] using this
def zb5 (x:List P × P):noD (wtD x)=true:=by
 have:=z1T x.1;simpa[noDs,noD] using this
def min2 (a b:Int):(if b<a then b else a)=min a b:=by split <;> lia
def zeb {n d:Nat}{k:Int}(h:0<=k):HT.sIx n d (some k)=min k.toNat n:=by
 show (if k<0 then (k+n).toNat else min _ n)=_;rw[if_neg (by lia)]
def zas {ns:List Int}{Q:DK}{X:XP}(q:∀c,(c % 2=1->ns≠[])->Q (.int c)):z0e.run [.lst (ns.map .int),.int 0] Q X:=by
 walk_at "fn";refine z1v (λh =>?_) (λh =>?_)
 .ac_nf;rw[wd] at h;obtain⟨v,_,e⟩:=z4t (by decide) h;rw[z0D e];exact q v λ_ z=>by simp_all
 .exact q 0 λz=>by lia
theorem z5n {α β:Type}{f:α->D}{g:β->D}{P:α->β->Prop}{G:D->(Option D->Prop)->Prop}:∀{l:List α}{M:List D->Prop},(∀x∈l,∀K:Option D->Prop,(∀y,P x y->K (some (g y)))->G (f x) K)->(∀ys:List β,ys.length=l.length->(∀(i:Nat) (h:i<l.length),∃y,ys[i]? = some y/\P l[i] y)->M (ys.map g))->z3Z G (l.map f) M
 | [],_,_,q=>q [] rfl (λi h=>absurd h (by simp))
 | x::r,M,h,q=>h x wv _ λy hy=>z5n (λz hz=>h z (wm _ hz)) λys hl ha=>q (y::ys) (by simp[hl]) λi hi=>by
  cases i with
  | zero=>exact⟨y,rfl,hy⟩
  | succ i=>exact ha i _
def most (l:List P)(b:P):Int->Prop:=λm=>m∈l.map (dot · b)/\∀p∈l,dot p b<=m
def Sums (ws:List (List P × P))(b:P)(t:Int):Prop:=∃ms:List Int,ms.length=ws.length/\(∀(i:Nat) (h:i<ws.length),∃m,most ws[i].1 b m/\ms[i]? = some (m+dot ws[i].2 b))/\t=ms.sum
def Sums.nil {b:P}:Sums [] b 0:=⟨[],rfl,λi h=>absurd h (by simp),rfl⟩
def Sums.snoc {ws:List (List P × P)}{x:List P × P}{b:P}{s m:Int}(h:Sums ws b s)(k:most x.1 b m):Sums (ws++[x]) b (s+m+dot x.2 b):=by
 obtain⟨ms,h1,h2,rfl⟩:=h;refine⟨ms++[m+dot x.2 b],by simp[h1],λi hi =>?_,by simp[jp];lia⟩
 rcases wJ i _ with z | z
 .obtain⟨n,q1,e1⟩:=h2 i z;refine⟨n,?_,?_⟩
  .simp_all
  .rw[wC (by lia),List.getElem_append_left z];exact e1
 .obtain rfl:i=ws.length:=by simp at hi;lia
  simp_all
def z6R {p r:P}{Q:DK}{X:XP}(h1:Vb 30000000 p)(h2:Vb 30000000 r)(q:Q (.int (dot p r))):z0m.run [vec p,vec r] Q X:=by
 obtain⟨a1,a2⟩:=h1;obtain⟨b1,b2⟩:=h2;walk_at "fn";ac_nf;exact q
def z93 (p r:P):dot p r=dot r p:=by
 simp[dot];rw[vG p.1,vG p.2]
def zg4 (l:List (List P × P)):noL (.tup (l.map wtD))=true:=by
 refine z2d λd hd =>?_;obtain⟨x,_,rfl⟩:=wj.mp hd;exact zb4 x
def zg6 (l:List (List P × P)):noD (.tup (l.map wtD))=true:=by
 refine z2e λd hd =>?_;obtain⟨x,_,rfl⟩:=wj.mp hd;exact zb5 x
abbrev zf3 (s:P × P):D :=.tup [vec s.1,.int (dot s.2 s.1)]
def zf1 {h:List P}(hn:h≠[])(hb:Wb 10000000 h){s:P × P}(hs:s∈z0K h):Vb 20000000 s.1/\s.2∈h:=by
 have h0  := vd.mpr hn
 by_cases hl:h.length=1
 .rw[z0K,if_pos hl] at hs;obtain⟨b,hb',rfl⟩:=wj.mp hs;refine⟨?_,z34 h0⟩;show Vb _ b;unfold ways at hb';simp[wg,wA,vS] at hb'
  rcases hb' with rfl | rfl | rfl | rfl <;> exact⟨(bt_k (by decide +kernel)).le,(bt_k (by decide +kernel)).le⟩
 .obtain⟨j,hj,hs⟩:=z4Y hl hs;have c1:=hb _ (z34 (i:=j+h.length - 1) h0);have c2:=hb _ (z34 (i:=j) h0);have st:Vb 20000000 (stp _ _):=⟨(Bt.sub c2.1 c1.1).le,(Bt.sub c2.2 c1.2).le⟩
  rcases wg.mp hs with rfl | hs
  .exact⟨⟨st.2,st.1.neg⟩,z34 h0⟩
  .split at hs
   .rw[wt.mp hs];exact⟨st,z34 h0⟩
   .cases hs
def zf2 {S:P->Prop}{h:List P}(x:z08 S h){s:P × P}(hs:s∈z0K h):s.1≠(0,0):=by
 by_cases hl:h.length=1
 .rw[z0K,if_pos hl] at hs;obtain⟨b,hb',rfl⟩:=wj.mp hs;show b≠(0,0);unfold ways at hb';simp only[wg,wA,vS] at hb'
  rcases hb' with rfl | rfl | rfl | rfl <;> decide
 .obtain⟨j,hj,hs⟩:=z4Y hl hs;have e:=z35 x (by lia) (j+h.length - 1);rw[show j+h.length - 1+1=j+h.length by lia,show Geo.cy h (j+h.length)=Geo.cy h j by unfold Geo.cy;rw[ua]] at e;have st:stp (Geo.cy h (j+h.length - 1)) (Geo.cy h j)≠(0,0):=λz=>by
   unfold stp at z
   injection z with z1 z2
   exact e.ne (uf (by lia) (by lia))
  unfold z0s at hs
  rcases wg.mp hs with rfl | hs
  .intro z;unfold rt at z
   injection z with z1 z2
   exact st (uf (by dsimp only;lia) z1)
  simp_all
def zag (h:List P):(z0K h).length<=2*h.length+4:=by
 unfold z0K
 split
 .simp[ways]
 .have:∀dn:List Nat,(dn.flatMap (z0s h)).length<=2*dn.length:=by
   intro dn
   induction dn with
   | nil=>simp
   | cons k dn ih=>
    rw[List.flatMap_cons,wL];have:(z0s h k).length<=2:=by unfold z0s;split <;> simp
    grind
  grind
def z9o {d:D}{l:List P}{Q:DK}{X:XP}(hd:Vs d l)(hb:Wb 10000000 l)(hn:l≠[])(hz:l.length<=63)(q:∀h,Hd l h->Q (.tup ((z0K h).map zf3))):z3l.run [d] Q X:=by
 walk_at "fn";ac_nf;refine z0z hd hb.le hz λh hh =>?_;have x:=hh.is hn;have hs:=x.sub;have hl:h.length<=l.length:=z1M x.nodup hs;have hne:h≠[]:=by
  obtain⟨m,t,et,_⟩:=x.ex;rw[et];simp
 ac_nf;refine z4x (by lia) hne ?_;have hsl:=zag h;refine z0L ⟨trivial,trivial,trivial⟩ ?_;ac_rfl;ac_nf;refine⟨by rw[wd];exact szl' (by lia),?_⟩;refine z1n (g:=zf3) (λs hs' K hK =>?_) ?_
 .obtain⟨b1,b2⟩:=zf1 hne (λp hp=>hb p (hs p hp)) hs';refine⟨rfl,?_⟩;show Ex.run _ _ _ _;unfold z0G z0G z0G;ac_rfl;ac_nf;refine z3J b1.le ((hb _ (hs _ b2)).le) ?_;ac_nf;have e:s.1.1*s.2.1+s.1.2*s.2.2=dot s.2 s.1:=by unfold dot;grind
  rw[e];exact hK
 ac_nf;exact q h hh
def zkV {x y:Bool}{Q:DK}{X:XP}(q:Q (.bl (!decide (x=y)))):pNe.run [.bl x,.bl y] Q X:=q
theorem filterMap_map {α β:Type}{f:α->Option β}{g:α->β}:∀{ks:List α},(∀k∈ks,f k=some (g k))->ks.filterMap f=ks.map g
 | [],_=>rfl
 | k::ks,h=>by rw[uh,h k (by simp),wE,filterMap_map λx hx=>h x (by simp[hx])]
def zgk {S T:P->Prop}{h:List P}(x:z08 T h)(hs:∀p∈h,S p)(hf:∀p,S p->∀b:P,∃c,T c/\dot p b<=dot c b):z08 S h:=by
 refine x.fill hs λp hp=>zco (by obtain⟨m,t,et,_⟩:=x.ex;rw[et];simp) λs hs =>?_;obtain⟨c,hc,hle⟩:=hf p hp s.1;exact Int.le_trans hle ((z8A x hs).2 c hc)
def z2o {p r:P}{Q:DK}{X:XP}(q:Q (vec (p.1+r.1,p.2+r.2))):z0F.run [vec p,vec r] Q X:=by
 walk_at "fn";ac_nf;exact q
def mv (s p:P):P:=(p.1+s.1,p.2+s.2)
def z9s {l:List P}{s:P}{Q:DK}{X:XP}(hb:Wb 600 l)(hs:Vb 600 s)(hz:l.length<=62)(q:∀h,Hd (l.map (mv s)) h->Q (vecs h)):z3n.run [.tup [vecs l,vec s]] Q X:=by
 walk_at "fn";ac_nf;refine⟨by rw[wd];exact szl' (by lia),?_⟩;refine z1n (g:=λp=>vec (mv s p)) (λp hp K hK =>?_) ?_
 .ac_nf;exact z2o hK
 refine z0z (l:=l.map (mv s)) (.inr (by rw[wK];rfl)) (λp hp =>?_) (by simp;lia) q;obtain⟨v,hv,rfl⟩:=wj.mp hp;exact⟨(Bt.add (hb v hv).1 hs.1).le,(Bt.add (hb v hv).2 hs.2).le⟩
end Pu
namespace Geo
def cx (u v:P):Int:=u.1*v.2 - u.2*v.1
def Rs (u:P):Prop:=0<u.1\/(u.1=0/\0<u.2)
instance (u:P):Decidable (Rs u):=inferInstanceAs (Decidable (_\/_))
def Be (u v:P):Prop:=(Rs u/\¬ Rs v)\/((Rs u↔Rs v)/\0<cx u v)
instance (u v:P):Decidable (Be u v):=inferInstanceAs (Decidable (_\/_))
def z6W {u:P}(h:u≠(0,0)):Rs (ng u)↔¬ Rs u:=by
 obtain⟨a,b⟩:=u;have:¬ (a=0/\b=0):=λ⟨h1,h2⟩=>h (by rw[h1,h2]);simp[Rs,ng];lia
def z9V (u v:P):cx (ng u) (ng v)=cx u v:=by simp[cx,ng];grind
def zeK (u v:P):cx (ng u) v=cx v u:=by simp[cx,ng];grind
def zbL (u v:P):cx u (ng v) = -cx u v:=by simp[cx,ng];grind
def zl4 {u:P}(h:u≠(0,0)):ng u≠(0,0):=λz=>h (by
 have h1:=congrArg Prod.fst z;have h2:=congrArg Prod.snd z;simp[ng] at h1 h2;exact uf (by lia) (by lia))
def zbu {u v w:P}(hu:Rs u)(hv:Rs v)(hw:Rs w)(h1:0<cx u v)(h2:0<cx v w):0<cx u w:=by
 obtain⟨u1,u2⟩:=u;obtain⟨v1,v2⟩:=v;obtain⟨w1,w2⟩:=w;simp only[Rs,cx] at*;have id1:(u1*w2 - u2*w1)*v1=(u1*v2 - u2*v1)*w1+(v1*w2 - v2*w1)*u1:=by grind
 rcases hv with hv | ⟨hv,hv2⟩
 .rcases vT 0 (u1*w2 - u2*w1) with z | z
  .exact z
  .exfalso
   have n1:(u1*w2 - u2*w1)*v1<=0:=vm z (by lia);have n2:0<=(u1*v2 - u2*v1)*w1:=wR (by lia) (by lia);have n3:0<=(v1*w2 - v2*w1)*u1:=wR (by lia) (by lia);have z3:(v1*w2 - v2*w1)*u1=0:=by omega
   have u0:u1=0:=(wV.mp z3).resolve_left (by lia);subst u0;have:=vz (show 0<u2 by lia) hv;simp at h1;lia
 .subst hv;have:0<=v2*w1:=wR (by lia) (by lia);simp at h2;lia
def zbt {u v w:P}(hu:Rs u)(hv:Rs v)(hw:Rs w)(h:0<cx u w):0<cx u v\/0<cx v w:=by
 obtain⟨u1,u2⟩:=u;obtain⟨v1,v2⟩:=v;obtain⟨w1,w2⟩:=w;simp only[Rs,cx] at*
 rcases vT 0 _ with z1 | z1
 .exact .inl z1
 rcases vT 0 _ with z2 | z2
 .exact .inr z2
 exfalso
 have n2:(u1*v2 - u2*v1)*w1<=0:=vm z1 (by lia);have n3:(v1*w2 - v2*w1)*u1<=0:=vm z2 (by lia)
 rcases hv with hv | ⟨hv,hv2⟩
 .have:=vz h hv;lia
 .subst hv;simp at z1;have u0:u1=0:=by
   rcases vT 0 u1 with q | q
   .have:=vz q hv2;lia
   .lia
  subst u0;have:0<=u2*w1:=wR (by lia) (by lia);simp at h;lia
def Be.tr {u v w:P}(hu:u≠(0,0))(hv:v≠(0,0))(hw:w≠(0,0))(h1:Be u v)(h2:Be v w):Be u w:=by
 rcases h1 with ⟨a,b⟩ | ⟨a,b⟩
 .rcases h2 with ⟨c,d⟩ | ⟨c,d⟩
  .exact absurd c b
  .exact .inl ⟨a,λz=>b (c.mpr z)⟩
 .rcases h2 with ⟨c,d⟩ | ⟨c,d⟩
  .exact .inl ⟨a.mpr c,d⟩
  .refine .inr ⟨a.trans c,?_⟩
   by_cases r:Rs u
   .exact zbu r (a.mp r) (c.mp (a.mp r)) b d
   .have:=zbu ((z6W hu).mpr r) ((z6W hv).mpr λz=>r (a.mpr z)) ((z6W hw).mpr λz=>r (a.mpr (c.mpr z))) (by rw[z9V];exact b) (by rw[z9V];exact d)
    rwa [z9V] at this
def Be.wk {u v w:P}(hu:u≠(0,0))(hv:v≠(0,0))(hw:w≠(0,0))(h:Be u w):Be u v\/Be v w:=by
 rcases h with ⟨a,b⟩ | ⟨a,b⟩
 .by_cases r:Rs v
  .exact .inr (.inl ⟨r,b⟩)
  .exact .inl (.inl ⟨a,r⟩)
 .by_cases r:Rs u
  .by_cases s:Rs v
   .rcases zbt r s (a.mp r) b with z | z
    .exact .inl (.inr ⟨⟨λ_=>s,λ_=>r⟩,z⟩)
    .exact .inr (.inr ⟨⟨λ_=>a.mp r,λ_=>s⟩,z⟩)
   .exact .inl (.inl ⟨r,s⟩)
  .by_cases s:Rs v
   .exact .inr (.inl ⟨s,λz=>r (a.mpr z)⟩)
   .rcases zbt ((z6W hu).mpr r) ((z6W hv).mpr s) ((z6W hw).mpr λz=>r (a.mpr z)) (by rw[z9V];exact b) with z | z
    .rw[z9V] at z;exact .inl (.inr ⟨⟨λq=>absurd q r,λq=>absurd q s⟩,z⟩)
    .rw[z9V] at z;exact .inr (.inr ⟨⟨λq=>absurd q s,λq=>absurd (a.mpr q) r⟩,z⟩)
def Be.irr {u:P}:¬ Be u u:=by
 rintro(⟨a,b⟩ | ⟨_,b⟩)
 .exact b a
 .have:cx u u=0:=by simp[cx];grind
  lia
def Dt (t:P)(l:List P):Int:=(l.map (cx · t)).sum
def Dt.app (t:P)(l m:List P):Dt t (l++m)=Dt t l+Dt t m:=by unfold Dt;simp_all
theorem Dt.nonneg {t:P}:∀{l:List P},(∀u∈l,0<=cx u t)->0<=Dt t l
 | [],_=>by simp[Dt]
 | u::l,h=>by
  have:=Dt.nonneg (l:=l) λx hx=>h x (by simp[hx]);have:=h u (by simp);simp[Dt] at*;lia
theorem Dt.nonpos {t:P}:∀{l:List P},(∀u∈l,cx u t<=0)->Dt t l<=0
 | [],_=>by simp[Dt]
 | u::l,h=>by
  have:=Dt.nonpos (l:=l) λx hx=>h x (by simp[hx]);have:=h u (by simp);simp[Dt] at*;lia
theorem z6a {t:P}{R:P->P->Prop}(ht:∀u v:P,R u v->Be v t->Be u t):∀{E:List P},E.Pairwise R->∃F G,E=F++G/\(∀u∈F,Be u t)/\(∀u∈G,¬ Be u t)
 | [],_=>⟨[],[],rfl,λ_ h=>by(cases h),λ_ h=>by(cases h)⟩
 | u::E,h=>by
  rw[wQ] at h
  by_cases b:Be u t
  .obtain⟨F,G,e,h1,h2⟩:=z6a ht h.2;exact⟨u::F,G,by rw[e];rfl,λx hx=>(wg.mp hx).elim (λz=>z ▸ b) (h1 x),h2⟩
  .exact⟨[],u::E,rfl,λ_ h=>by(cases h),λx hx=>(wg.mp hx).elim (λz=>z ▸ b) λz q=>b (ht u x (h.1 x z) q)⟩
def lead {t:P}(ht:t≠(0,0)){E F G K L:List P}(hn:∀u∈E,u≠(0,0))(hs:E.Pairwise Be)(h0:Dt t E=0)(e:E=F++G)(hF:∀u∈F,Be u t)(hG:∀u∈G,¬ Be u t)(k:E=K++L):Dt t K<=Dt t F:=by
 have e0:Dt t F+Dt t G=0:=by rw[<- Dt.app, <- e];exact h0
 have nF:∀u∈F,u≠(0,0):=λu hu=>hn u (by rw[e];simp[hu]);have nG:∀u∈G,u≠(0,0):=λu hu=>hn u (by rw[e];simp[hu]);have tn:=zl4 ht
 by_cases r:Rs t
 .have pF:∀u∈F,0<cx u t:=λu hu=>by
   rcases hF u hu with ⟨_,z⟩ | ⟨_,z⟩
   .exact absurd r z
   .exact z
  have dF:0<=Dt t F:=Dt.nonneg λu hu=>vi (pF u hu)
  rcases jz.mp (k.symm.trans e) with ⟨a,e1,e2⟩ | ⟨c,e1,e2⟩
  .have:0<=Dt t a:=Dt.nonneg λu hu=>vi (pF u (by rw[e1];simp[hu]));rw[e1,Dt.app];lia
  .rw[e1,Dt.app]
   rcases vT 0 (Dt t c) with z | z
   .exfalso
    obtain⟨u,hu,hp⟩:∃u∈c,0<cx u t:=by
     apply vO;intro q;have:=Dt.nonpos (t:=t) (l:=c) λu hu=>by
      rcases vT 0 (cx u t) with w | w
      .exact absurd ⟨u,hu,w⟩ q
      .exact w
     lia
    have ru:¬ Rs u:=λw=>hG u (by rw[e2];simp[hu]) (.inr ⟨⟨λ_=>r,λ_=>w⟩,hp⟩);have rt:¬ Rs (ng t):=λw=>(z6W ht).mp w r;have b1:Be (ng t) u :=.inr ⟨⟨λw=>absurd w rt,λw=>absurd w ru⟩,by rw[zeK];exact hp⟩;have dL:0<=Dt t L:=Dt.nonneg λv hv=>by
     have huv:Be u v:=by
      rw[k,e1,vQ] at hs;exact hs.2.2 u (by simp[hu]) v hv
     have nv:=hn v (by rw[k];simp[hv]);have b2:=b1.tr tn (nG u (by rw[e2];simp[hu])) nv huv
     rcases b2 with ⟨w,_⟩ | ⟨_,w⟩
     .exact absurd w rt
     .rw[zeK] at w;lia
    rw[e2,Dt.app] at e0;lia
   .lia
 .have pG:∀u∈G,cx u t<=0:=λu hu=>by
   have ru:¬ Rs u:=λw=>hG u hu (.inl ⟨w,r⟩)
   rcases vT 0 (cx u t) with w | w
   .exact absurd (.inr ⟨⟨λq=>absurd q ru,λq=>absurd q r⟩,w⟩) (hG u hu)
   .exact w
  have dG:Dt t G<=0:=Dt.nonpos pG
  rcases jz.mp (k.symm.trans e) with ⟨a,e1,e2⟩ | ⟨c,e1,e2⟩
  .rw[e1,Dt.app]
   rcases vT (Dt t a) 0 with z | z
   .exfalso
    obtain⟨v,hv,hp⟩:∃v∈a,cx v t<0:=by
     apply vO;intro q;have:=Dt.nonneg (t:=t) (l:=a) λu hu=>by
      rcases vT (cx u t) 0 with w | w
      .exact absurd ⟨u,hu,w⟩ q
      .exact w
     lia
    have rv:Rs v:=by
     rcases hF v (by rw[e1];simp[hv]) with ⟨w,_⟩ | ⟨_,w⟩
     .exact w
     .lia
    have rt:Rs (ng t):=(z6W ht).mpr r;have b1:Be v (ng t) :=.inr ⟨⟨λ_=>rt,λ_=>rv⟩,by rw[zbL];lia⟩;have dK:Dt t K<=0:=Dt.nonpos λu hu=>by
     have huv:Be u v:=by
      rw[k,e2,vQ] at hs;exact hs.2.2 u hu v (by simp[hv])
     have nu:=hn u (by rw[k];simp[hu])
     rcases huv.tr nu (nF v (by rw[e1];simp[hv])) tn b1 with ⟨_,w⟩ | ⟨_,w⟩
     .exact absurd rt w
     .rw[zbL] at w;lia
    rw[e1,Dt.app] at e0;lia
   .lia
  .have:Dt t c<=0:=Dt.nonpos λu hu=>pG u (by rw[e2];simp[hu]);rw[e1,Dt.app];lia
def sb (a b:P):P:=(b.1 - a.1,b.2 - a.2)
def pl (a b:P):P:=(a.1+b.1,a.2+b.2)
def vs (l:List P):P:=((l.map (·.1)).sum,(l.map (·.2)).sum)
def z1D (u:P)(l:List P):vs (u::l)=pl u (vs l):=rfl
def z8s (l m:List P):vs (l++m)=pl (vs l) (vs m):=by
 simp[vs,pl,wH,jp]
def vs_perm {l m:List P}(h:l.Perm m):vs l=vs m:=by
 induction h with
 | nil=>rfl
 | cons x _ ih=>rw[z1D,z1D,ih]
 | swap x y l=>simp only[z1D,pl];exact uf (by simp;lia) (by simp;lia)
 | trans _ _ h1 h2=>exact h1.trans h2
theorem z8h (t:P):∀l:List P,Dt t l=cx (vs l) t
 | []=>by simp[Dt,vs,cx]
 | u::l=>by
  have ih:=z8h t l;rw[z1D,show Dt t _=cx u t+Dt t l by simp[Dt],ih];simp[cx,pl]
  grind
def df:List P->List P
 | a::b::r=>sb a b::df (b::r)
 | _=>[]
theorem z94:∀{r:List P}{a q:P},q∈a::r->∃K L,df (a::r)=K++L/\vs K=sb a q
 | [],a,q,h=>by
  rw[wt.mp h];exact⟨[],[],rfl,by simp[vs,sb]⟩
 | b::r,a,q,h=>by
  rcases wg.mp h with rfl | h
  .exact⟨[],_,rfl,by simp[vs,sb]⟩
  .obtain⟨K,L,e,v⟩:=z94 h;refine⟨sb a b::K,L,by rw[df,e];rfl,?_⟩;rw[z1D,v];simp only[pl,sb];exact uf (by simp;lia) (by simp;lia)
theorem zjG:∀{r:List P}{a:P}{K L:List P},df (a::r)=K++L->∃q∈a::r,vs K=sb a q
 | [],a,K,L,h=>by
  have  := (jc.mp h.symm).1;subst this;exact⟨a,by simp,by simp[vs,sb]⟩
 | b::r,a,[],L,h=>⟨a,by simp,by simp[vs,sb]⟩
 | b::r,a,u::K,L,h=>by
  obtain⟨rfl,h'⟩:=List.cons.inj h;obtain⟨q,hq,v⟩:=zjG h';refine⟨q,wm _ hq,?_⟩;rw[z1D,v];simp only[pl,sb];exact uf (by simp;lia) (by simp;lia)
theorem z96:∀{r:List P}{a z:P},vs (df (a::r++[z]))=sb a z
 | [],a,z=>by simp[df,vs,sb]
 | b::r,a,z=>by
  show vs (sb a b::df (b::r++[z]))=_;rw[z1D,z96];simp only[pl,sb];exact uf (by simp;lia) (by simp;lia)
theorem zeH:∀{r s:List P}{a m:P},df (a::r++m::s)=df (a::r++[m])++df (m::s)
 | [],s,a,m=>by
  rfl
 | b::r,s,a,m=>by
  show sb a b::df (b::r++m::s)=sb a b::df _++df _;rw[zeH]
  rfl
def mg:List P->List P->List P
 | E,[]=>E
 | E,f::F=>E.takeWhile (λu=>decide (Be u f))++f::mg (E.dropWhile (λu=>decide (Be u f))) F
theorem z4d:∀(E F:List P),(mg E F).Perm (E++F)
 | E,[]=>by simp[mg]
 | E,f::F=>by
  have ih:=z4d (E.dropWhile (λu=>decide (Be u f))) F;refine(jn _ (ih.cons f)).trans ?_
  conv=>rhs;rw[<- uW (p:=λu=>decide (Be u f)) (l:=E),vn]
  exact jn _ jC.symm
theorem zet:∀{E F K L:List P},mg E F=K++L->∃E1 E2 F1 F2,E=E1++E2/\F=F1++F2/\K.Perm (E1++F1)
 | E,[],K,L,h=>⟨K,L,[],[],h,rfl,by simp⟩
 | E,f::F,K,L,h=>by
  rw[mg] at h;have sp:=uW (p:=λu=>decide (Be u f)) (l:=E);generalize E.takeWhile (λu=>decide (Be u f))=T at*;generalize E.dropWhile (λu=>decide (Be u f))=R at*
  rcases jz.mp h with ⟨a,e1,e2⟩ | ⟨c,e1,e2⟩
  .cases a with
   | nil=>exact⟨T,R,[],f::F,sp.symm,rfl,by rw[e1]⟩
   | cons x a=>
    rw[List.cons_append] at e2;obtain⟨rfl,e3⟩:=List.cons.inj e2;obtain⟨E1,E2,F1,F2,q1,q2,q3⟩:=zet e3;refine⟨T++E1,E2,f::F1,F2,by rw[<- sp,q1,vn],by rw[q2,List.cons_append],?_⟩;rw[e1,vn];exact jn _ ((q3.cons f).trans jC.symm)
  .exact⟨K,c++R,[],f::F,by rw[<- sp,e1,vn],rfl,by simp⟩
def Nz (l:List P):Prop:=∀u∈l,u≠(0,0)
def Be.asym {u v:P}(hu:u≠(0,0))(hv:v≠(0,0))(h:Be u v):¬ Be v u:=λz=>Be.irr (h.tr hu hv hu z)
theorem zjm:∀{E F:List P},Nz E->Nz F->E.Pairwise (λx y=>¬ Be y x)->F.Pairwise (λx y=>¬ Be y x)->(mg E F).Pairwise (λx y=>¬ Be y x)
 | E,[],_,_,h,_=>by rw[mg];exact h
 | E,f::F,nE,nF,hE,hF=>by
  have sp:=uW (p:=λu=>decide (Be u f)) (l:=E);have ht:∀u∈E.takeWhile (λu=>decide (Be u f)),Be u f:=λu hu=>by
   have:=jB.mp (List.all_takeWhile (p:=λu=>decide (Be u f)) (l:=E)) u hu;simpa using this
  have hdr:∀d r,E.dropWhile (λu=>decide (Be u f))=d::r->¬ Be d f:=λd r e z=>by
   have:=List.head?_dropWhile_not (λu=>decide (Be u f)) E;rw[e] at this;simp at this;exact this z
  rw[mg];have hp:=z4d (E.dropWhile (λu=>decide (Be u f))) F;generalize E.takeWhile (λu=>decide (Be u f))=T at*;generalize E.dropWhile (λu=>decide (Be u f))=R at*;have nT:Nz T:=λu hu=>nE u (by rw[<- sp];simp[hu]);have nR:Nz R:=λu hu=>nE u (by rw[<- sp];simp[hu]);have nf:=nF f (by simp);have nF':Nz F:=λu hu=>nF u (by simp[hu]);rw[<- sp,vQ] at hE;rw[wQ] at hF;have ih:=zjm nR nF' hE.2.1 hF.2;have mem:∀y∈mg R F,y∈R\/y∈F:=λy hy=>wZ.mp (hp.mem_iff.mp hy);rw[vQ,wQ];refine⟨hE.1,⟨λy hy =>?_,ih⟩,λx hx y hy =>?_⟩
  .rcases mem y hy with z | z
   .cases R with
    | nil=>cases z
    | cons d r=>
     have hd:=hdr d r rfl
     rcases wg.mp z with rfl | z
     .exact hd
     .intro w
      rcases w.wk (v:=d) (nR y (by simp[z])) (nR d (by simp)) nf with q | q
      .exact(wQ.mp hE.2.1).1 y z q
      .exact hd q
   .exact hF.1 y z
  .rcases wg.mp hy with rfl | hy
   .exact(ht x hx).asym (nT x hx) nf
   .rcases mem y hy with z | z
    .exact hE.2.2 x hx y z
    .intro w;exact hF.1 y z (w.tr (nF' y z) (nT x hx) nf (ht x hx))
def zg9 {t:P}(ht:t≠(0,0)){E F:List P}(nE:Nz E)(nF:Nz F)(sE:E.Pairwise Be)(sF:F.Pairwise Be)(zE:vs E=(0,0))(zF:vs F=(0,0)):
  ∃K L,mg E F=K++L/\∀K1 L1 K2 L2,E=K1++L1->F=K2++L2->Dt t K1+Dt t K2<=Dt t K:=by
 have d0:∀{l:List P},vs l=(0,0)->Dt t l=0:=λ{l} h=>by rw[z8h,h];simp[cx]
 have wk:∀{l:List P},Nz l->l.Pairwise Be->l.Pairwise (λx y=>¬ Be y x):=λ{l} n h=>by
  have:l.Pairwise λx y=>(x∈l/\y∈l):=uR λx hx y hy=>⟨hx,hy⟩
  exact(h.and this).imp λ{x y} ⟨q,hx,hy⟩=>q.asym (n x hx) (n y hy)
 have nz:∀{l:List P}{R:P->P->Prop},Nz l->l.Pairwise R->l.Pairwise λx y=>(x≠(0,0)/\y≠(0,0))/\R x y:=λ{l R} n h=>by
  have:l.Pairwise λx y=>(x≠(0,0)/\y≠(0,0)):=uR λx hx y hy=>⟨n x hx,n y hy⟩
  exact this.and h
 have strong:∀u v:P,((u≠(0,0)/\v≠(0,0))/\Be u v)->Be v t->Be u t:=λu v ⟨⟨a,b⟩,c⟩ d=>c.tr a b ht d;have weak:∀u v:P,((u≠(0,0)/\v≠(0,0))/\¬ Be v u)->Be v t->Be u t:=λu v ⟨⟨a,b⟩,c⟩ d=>(d.wk b a ht).resolve_left c;have nM:Nz (mg E F):=λu hu=>(wZ.mp ((z4d E F).mem_iff.mp hu)).elim (nE u) (nF u);obtain⟨E1,E2,e1,pE,qE⟩:=z6a strong (nz nE sE);obtain⟨F1,F2,f1,pF,qF⟩:=z6a strong (nz nF sF);obtain⟨K,L,k1,pK,qK⟩:=z6a weak (nz nM (zjm nE nF (wk nE sE) (wk nF sF)));refine⟨K,L,k1,λK1 L1 K2 L2 h1 h2 =>?_⟩;have a1:=lead ht nE sE (d0 zE) e1 pE qE h1;have a2:=lead ht nF sF (d0 zF) f1 pF qF h2;have fl:∀{A B:List P},(∀u∈A,Be u t)->(∀u∈B,¬ Be u t)->(A++B).filter (λu=>decide (Be u t))=A:=λ{A B} ha hb=>by
  rw[List.filter_append,List.filter_eq_self.mpr λu hu=>vq (ha u hu),List.filter_eq_nil_iff.mpr λu hu=>by simpa using hb u hu,vJ]
 have hp:=(z4d E F).filter (λu=>decide (Be u t));rw[k1,fl pK qK,List.filter_append,e1,fl pE qE,f1,fl pF qF] at hp;have:Dt t K=Dt t E1+Dt t F1:=by rw[z8h,vs_perm hp, <- z8h,Dt.app]
 lia
def rd (h:List P):List P:=if h.length=1 then [] else df (h++h.take 1)
def zjo {a b c:P}(h:Lx a b)(k:Lx b c):Lx a c:=by
 simp[Lx] at*;lia
def zga {a b:P}(h:Lx a b):Rs (sb a b):=by
 simp[Lx,Rs,sb] at*;lia
def zbf {a b:P}(h:Lx b a):¬ Rs (sb a b):=by
 simp only[Lx,Rs,sb] at*;lia
def zh7 {a b:P}(h:a≠b):sb a b≠(0,0):=λz=>h (by
 have h1:=congrArg Prod.fst z;have h2:=congrArg Prod.snd z;simp[sb] at h1 h2
 grind)
theorem zdL {R:P->P->Prop}(hR:∀a b,R a b->a≠b):∀{p:List P},Path R p->Nz (df p)
 | [],_=>λu hu=>by(cases hu)
 | [_],_=>λu hu=>by(cases hu)
 | a::b::r,h=>λu hu=>by
  rcases wg.mp hu with rfl | hu
  .exact zh7 (hR a b h.1)
  .exact zdL hR h.2 u hu
theorem z95 {p:List P}{u:P}:u∈df p->∃a b,(∀R:P->P->Prop,Path R p->R a b)/\u=sb a b:=by
 match p with
 | []=>intro h;cases h
 | [_]=>intro h;cases h
 | a::b::r=>
  intro h
  rcases wg.mp h with rfl | h
  .exact⟨a,b,λR q=>q.1,rfl⟩
  .obtain⟨x,y,q,e⟩:=z95 h;exact⟨x,y,λR w=>q R w.2,e⟩
theorem z68 {R:P->P->Prop}:∀{p:List P},p.Pairwise R->Path R p
 | [],_=>trivial
 | [_],_=>trivial
 | a::b::r,h=>by
  rw[wQ] at h;exact⟨h.1 b (by simp),z68 h.2⟩
theorem zgr {S:P->Prop}{O:P->P->Prop}(hO:∀a b c d:P,O a b->O c d->(Rs (sb a b)↔Rs (sb c d)))(tr:∀a b c:P,O a b->O b c->a≠c):∀{p:List P},Path (Edge S) p->Path O p->(df p).Pairwise Be
 | [],_,_ =>.nil
 | [_],_,_ =>.nil
 | [a,b],_,_=>List.pairwise_singleton _ _
 | a::b::c::r,h,o=>by
  have ih:=zgr hO tr h.2 o.2;have nz:=zdL (λ_ _ e=>e.ne) h.2;rw[df,wQ];refine⟨λu hu =>?_,ih⟩;have first:Be _ _ :=.inr ⟨hO a b b c o.1 o.2.1,by
   have:=z5k h.1 h.2.1 (tr a b c o.1 o.2.1);have e:cr a b c=cx (sb a b) (sb b c):=by simp[cr,cx,sb];grind
   rwa [e] at this⟩
  rw[df] at hu ih nz
  rcases wg.mp hu with rfl | hu
  .exact first
  .exact first.tr (zh7 h.1.ne) (nz _ (by simp)) (nz u (by simp[hu])) ((wQ.mp ih).1 u hu)
structure Rnd (h:List P):Prop where
 nz:Nz (rd h)
 up:(rd h).Pairwise Be
 zero:vs (rd h)=(0,0)
def Hd.rnd {l h:List P}(x:Hd l h)(hn:l≠[]):Rnd h:=by
 obtain⟨rl,h1,h2,rfl⟩:=x;have hr:rl≠[]:=λz=>by
  obtain⟨p,r,rfl⟩:=List.exists_cons_of_ne_nil hn;have:=(h2 p).mpr (by simp);rw[z] at this
  cases this
 have hp:=vd.mpr hr
 rcases wJ rl.length 2 with z | z
 .have e:hull rl=rl:=if_pos (by lia);have:rd (hull rl)=[]:=by rw[e];exact if_pos (by lia)
  refine⟨?_,?_,?_⟩ <;> rw[this]
  .exact λu hu=>by(cases hu)
  .exact .nil
  .rfl
 .obtain⟨m,M,A,B,e,ml,Ml,hlt,hmin,hmax,pa,pb,wa,wb⟩:=z5P z h1;have er:rd (hull rl)=df (m::A++[M])++df (M::B++[m]):=by
   unfold rd;rw[if_neg (by rw[e];simp),e];show df (m::A++M::B++[m])=_;rw[vn,List.cons_append];exact zeH
  have up:=z68 pa;have dn:=z68 pb;have edge:∀a b,Edge (· ∈ rl) a b->a≠b:=λa b e=>e.ne;refine⟨?_,?_,?_⟩
  .rw[er];intro u hu
   rcases wZ.mp hu with hu | hu
   .exact zdL edge wa u hu
   .exact zdL edge wb u hu
  .rw[er,vQ];refine⟨zgr (O:=Lx) (λa b c d q w=>⟨λ_=>zga w,λ_=>zga q⟩) (λa b c q w z=>by subst z;exact Lx.irr (zjo q w)) wa up,zgr (O:=λx y=>Lx y x) (λa b c d q w=>⟨λz=>absurd z (zbf q),λz=>absurd z (zbf w)⟩) (λa b c q w z=>by subst z;exact Lx.irr (zjo q w)) wb dn,λu hu v hv =>?_⟩;obtain⟨a,b,q,rfl⟩:=z95 hu;obtain⟨c,d,w,rfl⟩:=z95 hv;exact .inl ⟨zga (q _ up),zbf (w _ dn)⟩
  .rw[er,z8s,z96,z96];simp only[pl,sb];exact uf (by simp;lia) (by simp;lia)
def zhp {h:List P}{a:P}{r K L:List P}(e:h=a::r)(k:rd h=K++L):∃q∈h,vs K=sb a q:=by
 subst e;unfold rd at k
 split at k
 .have  := (jc.mp k.symm).1;subst this;exact⟨a,by simp,by simp[vs,sb]⟩
 .obtain⟨q,hq,v⟩:=zjG k;refine⟨q,?_,v⟩;simp at hq ⊢
  grind
def z8D {h:List P}{a q:P}{r:List P}(e:h=a::r)(hq:q∈h):∃K L,rd h=K++L/\vs K=sb a q:=by
 subst e;unfold rd
 split
 .rename_i z
  have  := uc.mp (by simpa using z);subst this;rw[wt.mp hq];exact⟨[],[],rfl,by simp[vs,sb]⟩
 .exact z94 (by simp at hq ⊢;rcases hq with z | z;exact .inl z;simp_all)
def join {l1 l2 h1 h2 r1 r2:List P}{a b:P}(x1:Hd l1 h1)(x2:Hd l2 h2)(n1:l1≠[])(n2:l2≠[])(e1:h1=a::r1)(e2:h2=b::r2):
  (∀K L,mg (rd h1) (rd h2)=K++L->∃p∈h1,∃q∈h2,pl (pl a b) (vs K)=pl p q)/\
  ∀p∈h1,∀q∈h2,∀d:P,∃K L,mg (rd h1) (rd h2)=K++L/\sc (pl p q) d<=sc (pl (pl a b) (vs K)) d:=by
 have R1:=x1.rnd n1;have R2:=x2.rnd n2;refine⟨λK L k =>?_,λp hp q hq d =>?_⟩
 .obtain⟨E1,E2,F1,F2,q1,q2,q3⟩:=zet k;obtain⟨p,hp,v1⟩:=zhp e1 q1;obtain⟨q,hq,v2⟩:=zhp e2 q2;refine⟨p,hp,q,hq,?_⟩;rw[vs_perm q3,z8s,v1,v2];simp only[pl,sb]
  grind
 .by_cases hd:d=(0,0)
  .subst hd;exact⟨[],_,rfl,by simp[sc]⟩
  .have ht:((-d.2,d.1):P)≠(0,0):=λz=>hd (by
    have z1:=congrArg Prod.fst z;have z2:=congrArg Prod.snd z;simp at z1 z2;exact uf z2 z1)
   obtain⟨K,L,k,far⟩:=zg9 ht R1.nz R2.nz R1.up R2.up R1.zero R2.zero;obtain⟨K1,L1,k1,v1⟩:=z8D e1 hp;obtain⟨K2,L2,k2,v2⟩:=z8D e2 hq;refine⟨K,L,k,?_⟩;have:=far K1 L1 K2 L2 k1 k2;rw[z8h,z8h,z8h,v1,v2] at this;simp only[cx,sb,sc,pl] at*
   grind
end Geo
namespace Pu
open PySem L2
def zjd {p r:Int × Int}{Q:DK}{X:XP}(q:Q (.bl (HT.z0r [r.1,r.2] [p.1,p.2]))):pGt.run [vec p,vec r] Q X:=q
def zey (u:P):HT.z0r [(0:Int),0] [u.1,u.2]=decide (Geo.Rs u):=by
 rw[jg];exact(zez (a:=(0,0))).trans ⟨λh=>by simp[Lx,Geo.Rs] at *;lia,λh=>by simp[Lx,Geo.Rs] at *;lia⟩
def z6U {u v:P}{Q:DK}{X:XP}(hu:Vb 30000000 u)(hv:Vb 30000000 v)(q:Q (.bl (decide (Be u v)))):z2k.run [vec u,vec v] Q X:=by
 walk_at "fn";ac_nf;refine zjd (p:=u) (r:=(0,0)) ?_;rw[show HT.z0r [((0,0):P).1,((0,0):P).2] [u.1,u.2]=decide (Geo.Rs u) from zey u];ac_nf;refine zjd (p:=v) (r:=(0,0)) ?_;rw[show HT.z0r [((0,0):P).1,((0,0):P).2] [v.1,v.2]=decide (Geo.Rs v) from zey v];ac_nf;refine zkV ?_;refine z2s (z1v (λe =>?_) (λe =>?_))
 .ac_nf;refine z2T hu hv ?_;ac_nf;have e':Geo.Rs u↔Geo.Rs v:=by rw[<- decide_eq_true_iff (p:=Geo.Rs u),e,decide_eq_true_iff]
  have:decide (0<u.1*v.2 - u.2*v.1)=decide (Be u v):=decide_eq_decide.mpr ⟨λz =>.inr ⟨e',z⟩,λz=>by
   rcases z with ⟨a,b⟩ | ⟨_,b⟩
   .exact absurd (e'.mp a) b
   .exact b⟩
  rw[this];exact q
 .ac_nf;have:decide (Geo.Rs u)=decide (Be u v):=decide_eq_decide.mpr ⟨λz =>.inl ⟨z,λw=>e (by rw[vq z,vq w])⟩,λz=>by
   rcases z with ⟨a,_⟩ | ⟨a,_⟩
   .exact a
   .exact absurd (decide_eq_decide.mpr a) e⟩
  rw[this];exact q
def z5r {E F:List P}{Q:DK}{X:XP}(hE:Wb 30000000 E)(hF:Wb 30000000 F)(zE:E.length<=1000)(zF:F.length<=1000)(q:Q (.lst ((Geo.mg E F).map vec))):z1J.run [.lst (E.map vec),.lst (F.map vec)] Q X:=by
 walk_at "fn";ac_nf;refine z2n (λx hx=>by cases hx) ?_;ac_rfl;ac_nf;refine z0I (f:=vec) (λdn ρ=>∃(st:List P) (n:Nat) (x4:B),(∀G,Geo.mg E (dn++G)=st++Geo.mg (E.drop n) G)/\n<=E.length/\st.length=n+dn.length/\ρ=[.s (.lst (E.map vec)),.s (.lst (F.map vec)),.o (.lst (st.map vec)),.s (.int (n:Int)),x4]) ⟨[],0,_,λG=>by simp,by simp,by simp,rfl⟩ ?_ ?_
 .rintro dn f r ρ e ⟨st,n,x4,hm,hn,hl,rfl⟩;have hf:=hF f (by rw[e];simp);have hd:dn.length<=1000:=by
   have:=congrArg List.length e;simp at this;lia
  show Sm.run _ _ _ _ _;ac_rfl;refine zhe (λρ'=>∃(st':List P) (n':Nat),st'=st++(E.drop n).takeWhile (λu=>decide (Be u f))/\E.drop n'=(E.drop n).dropWhile (λu=>decide (Be u f))/\n'<=E.length/\st'.length=n'+dn.length/\ρ'=[.s (.lst (E.map vec)),.s (.lst (F.map vec)),.o (.lst (st'.map vec)),.s (.int (n':Int)),.s (vec f)]) ?_ ?_
  .refine z4L (λρ=>∃(st':List P) (n':Nat),st'++(E.drop n').takeWhile (λu=>decide (Be u f))=st++(E.drop n).takeWhile (λu=>decide (Be u f))/\(E.drop n').dropWhile (λu=>decide (Be u f))=(E.drop n).dropWhile (λu=>decide (Be u f))/\n'<=E.length/\st'.length=n'+dn.length/\ρ=[.s (.lst (E.map vec)),.s (.lst (F.map vec)),.o (.lst (st'.map vec)),.s (.int (n':Int)),.s (vec f)]) (λρ=>((E.length:Int) - nI ρ 3).toNat) ⟨st,n,rfl,rfl,hn,hl,rfl⟩ ?_;rintro ρ ⟨st',n',h1,h2,h3,h4,rfl⟩;ac_nf;rw[wd];refine z1v (λz =>?_) (λz =>?_)
   .have hn':n'<E.length:=by lia
    obtain⟨u,hu,eu⟩:=z4t (xs:=E) (i:=(n':Int)) (by lia) (by lia);have ed:E.drop n'=u::E.drop (n'+1):=by
     rw[uQ hn']
     congr 1
     rw[zc4 hn',wq hn'] at eu;exact w5 eu
    ac_nf;refine z1c (z0D eu) ?_;ac_nf;refine z6U (hE u hu) hf ?_;refine z1v (λb =>?_) (λb =>?_)
    .refine z45 (z63 (l:=[]) (z11 rfl ?_));ac_nf;refine z1c (z0D eu) ?_;refine⟨by rw[wd];exact szl' (by lia),Safe.of_noL rfl rfl _,?_⟩;ac_rfl;ac_nf;refine⟨⟨st'++[u],n'+1,?_,?_,by lia,by simp;lia,by rw[wH];simp⟩,?_⟩
     .rw[<- h1,ed,List.takeWhile_cons,if_pos (by simpa using b),vn]
      rfl
     .rw[<- h2,ed,List.dropWhile_cons,if_pos (by simpa using b)]
     .show ((E.length:Int) - ((n':Int)+1)).toNat<((E.length:Int) - (n':Int)).toNat
      lia
    .rw[ed,List.takeWhile_cons,if_neg (by simpa using b),vJ] at h1;rw[ed,List.dropWhile_cons,if_neg (by simpa using b), <- ed] at h2;exact⟨st',n',h1,h2,h3,h4,rfl⟩
   .ac_nf;have ed:E.drop n'=[]:=List.drop_eq_nil_of_le (by lia);rw[ed] at h1 h2;simp only[List.takeWhile_nil,vJ,List.dropWhile_nil] at h1 h2;exact⟨st',n',h1,by rw[ed];exact h2,h3,h4,rfl⟩
  rintro ρ' ⟨st',n',rfl,h2,h3,h4,rfl⟩;refine z63 (l:=[]) (z11 rfl ?_);ac_nf;refine⟨by rw[wd,h4];exact szl' (by lia),Safe.of_noL rfl rfl _,?_⟩;ac_rfl;refine⟨st++(E.drop n).takeWhile (λu=>decide (Be u f))++[f],n',_,λG =>?_,h3,by rw[wL,h4];simp;lia,by rw[wH (l₂:=[f])];rfl⟩;rw[vn,List.singleton_append,hm (f::G),Geo.mg,h2];simp
 rintro ρ ⟨st,n,x4,hm,hn,hl,rfl⟩;have em:=hm [];rw[vJ,Geo.mg] at em;ac_nf;rw[zeL (by lia)];refine zb3 (by simp;exact szl (by lia)) ?_;rw[<- wH,show ((n:Int)).toNat=n by lia, <- em];exact q
def zj0 {l m:List D}{Q:DK}{X:XP}(q:Q (.lst ((l.zip m).map λp =>.tup [p.1,p.2]))):z9B.run [.tup l,.tup m] Q X:=q
def zjJ {α:Type}{f:α->D}{l:List α}{k:Int}(h:0<=k):cutD (l.map f) none (some k)=(l.take k.toNat).map f:=by
 have hs:HT.sIx l.length l.length (some k)=min k.toNat l.length:=by
  show (if k<0 then (k+(l.length:Int)).toNat else min k.toNat l.length)=_;rw[if_neg (by lia)]
 rw[z36,hs];show ((l.drop 0).take (min k.toNat l.length - 0)).map f=_;rw[List.drop_zero,Nat.sub_zero, <- List.take_eq_take_min]
theorem zdY:∀(r:List P) (a z:P),((a::r).zip (r++[z])).map (λp=>Geo.sb p.1 p.2)=df (a::r++[z])
 | [],a,z=>rfl
 | b::r,a,z=>by
  show Geo.sb a b::((b::r).zip (r++[z])).map (λp=>Geo.sb p.1 p.2)=Geo.sb a b::df (b::r++[z]);rw[zdY r b z]
def z3I {h:List P}{Q:DK}{X:XP}(hz:h.length<=1000)(hn:h≠[])(q:Q (.lst ((Geo.rd h).map vec))):z1y.run [vecs h,.fn 2] Q X:=by
 walk_at "fn";ac_nf;rw[wd];refine z1v (λz =>?_) (λz =>?_)
 .ac_nf;have:Geo.rd h=[]:=if_pos (by lia);rw[this] at q;exact q
 ac_nf;obtain⟨a,r,rfl⟩:=List.exists_cons_of_ne_nil hn;rw[zeL (by decide),zjJ (by decide)];refine zje (by simp;exact szl (by simp at hz;lia)) ?_;rw[<- wH,show (a::r).drop (1:Int).toNat++(a::r).take (1:Int).toNat=r++[a] from rfl];refine z0L (Safe.of_noL (z1S _) (z1T _) _) ?_;ac_rfl;ac_nf;refine zj0 ?_;rw[List.zip_map,wK];ac_nf;refine⟨by rw[wd];exact szl' (by simp at hz ⊢;lia),?_⟩;refine z1n (g:=λp:P × P=>vec (Geo.sb p.1 p.2)) (λp hp K hK =>?_) ?_
 .refine⟨rfl,?_⟩;show Ex.run _ _ _ _;unfold z0G z0G z0G;ac_rfl;refine z8f rfl ?_;ac_nf;exact z1L hK
 have e:Geo.rd (a::r)=df (a::r++[a]):=if_neg (by lia);rw[show (((a::r).zip (r++[a])).map λp=>vec (Geo.sb p.1 p.2))=(((a::r).zip (r++[a])).map λp=>Geo.sb p.1 p.2).map vec by rw[wK];rfl,zdY, <- e];exact q
theorem zeG:∀(l:List P),(df l).length<=l.length - 1
 | []=>by simp[df]
 | [_]=>by simp[df]
 | a::b::r=>by
  have:=zeG (b::r);rw[df];simp at this ⊢;lia
def zhi {h:List P}(hb:Wb 20000000 h):Wb 30000000 (Geo.rd h):=λu hu=>by
 unfold Geo.rd at hu
 split at hu
 .cases hu
 .obtain⟨a,b,R,rfl⟩:=z95 hu;have:∀p∈h++h.take 1,p∈h:=λp hp=>(wZ.mp hp).elim id jy;have pw:=R (λa b=>a∈h/\b∈h) (z68 (uR λx hx y hy=>⟨this x hx,this y hy⟩));exact(hb a pw.1).step (hb b pw.2)
def Sm2 (l1 l2:List P)(p:P):Prop:=∃a∈l1,∃b∈l2,p=Geo.pl a b
end Pu
namespace Geo
def In.of_far {S:P->Prop}{h:List P}{p:P}(x:z08 S h)(hf:∀b,∃c∈h,sc p b<=sc c b):In h p:=by
 match h,x,hf with
 | [],x,_=>obtain⟨m,t,e,_⟩:=x.ex;cases e
 | [m],x,hf=>
  have g:∀b,sc p b<=sc m b:=λb=>by
   obtain⟨c,hc,le⟩:=hf b;rw[wt.mp hc] at le;exact le
  have h1:=g (1,0);have h2:=g (-1,0);have h3:=g (0,1);have h4:=g (0,-1);simp only[sc] at h1 h2 h3 h4;show p=m;exact uf (by omega) (by omega)
 | [a,b],x,hf=>
  have g:∀u,sc p u<=sc a u\/sc p u<=sc b u:=λu=>by
   obtain⟨c,hc,le⟩:=hf u;simp only[wg,wA,vS] at hc
   rcases hc with rfl | rfl
   .exact .inl le
   .exact .inr le
  have q1:=z0b (b.1 - a.1);have q2:=z0b (b.2 - a.2);have h1:=g (-(b.2 - a.2),b.1 - a.1);have h2:=g (b.2 - a.2,-(b.1 - a.1));have h3:=g (a.1 - b.1,a.2 - b.2);have h4:=g (b.1 - a.1,b.2 - a.2);clear g hf x;have e1:sc p (-(b.2 - a.2),b.1 - a.1)=sc a (-(b.2 - a.2),b.1 - a.1)+cr a b p:=by simp only[sc,cr];grind
  have e2:sc b (-(b.2 - a.2),b.1 - a.1)=sc a (-(b.2 - a.2),b.1 - a.1):=by simp only[sc];grind
  have e3:sc p (b.2 - a.2,-(b.1 - a.1))=sc a (b.2 - a.2,-(b.1 - a.1)) - cr a b p:=by simp only[sc,cr];grind
  have e4:sc b (b.2 - a.2,-(b.1 - a.1))=sc a (b.2 - a.2,-(b.1 - a.1)):=by simp only[sc];grind
  have e5:sc p (a.1 - b.1,a.2 - b.2)=sc a (a.1 - b.1,a.2 - b.2) - dot a b p:=by simp only[sc,dot];grind
  have e6:sc b (a.1 - b.1,a.2 - b.2)=sc a (a.1 - b.1,a.2 - b.2) - ((b.1 - a.1)*(b.1 - a.1)+(b.2 - a.2)*(b.2 - a.2)):=by simp only[sc];grind
  have e7:sc p (b.1 - a.1,b.2 - a.2)=sc b (b.1 - a.1,b.2 - a.2) - dot b a p:=by simp only[sc,dot];grind
  have e8:sc a (b.1 - a.1,b.2 - a.2)=sc b (b.1 - a.1,b.2 - a.2) - ((b.1 - a.1)*(b.1 - a.1)+(b.2 - a.2)*(b.2 - a.2)):=by simp only[sc];grind
  show cr a b p=0/\0<=dot a b p/\0<=dot b a p;generalize cr a b p=z1 at*;generalize dot a b p=z2 at*;generalize dot b a p=z3 at*;generalize (b.1 - a.1)*(b.1 - a.1)=z4 at*;generalize (b.2 - a.2)*(b.2 - a.2)=z5 at*;rw[e1,e2] at h1;rw[e3,e4] at h2;rw[e5,e6] at h3;rw[e7,e8] at h4;refine⟨?_,?_,?_⟩ <;> omega
 | a0::b0::c0::t,x,hf=>
  refine(In.three (by simp)).mpr λj a b hj ea eb =>?_;have e:=x.cyc (by simp) hj ea eb;obtain⟨c,hc,le⟩:=hf (b.2 - a.2,-(b.1 - a.1));have l:=e.left c (x.sub c hc);simp only[sc] at le;simp only[cr] at l ⊢
  grind
def Ms:List (List P)->P->Prop
 | [],p=>p=(0,0)
 | d::ds,p=>∃q∈d,∃r,Ms ds r/\p=pl q r
def zaM (a b:P):pl a b=pl b a:=by simp only[pl];grind
def zaL (a b c:P):pl a (pl b c)=pl b (pl a c):=by simp[pl];grind
def zbb {l m:List (List P)}(h:l.Perm m):∀p,Ms l p->Ms m p:=by
 induction h with
 | nil=>exact λ_ h=>h
 | cons x _ ih=>rintro p ⟨q,hq,r,hr,e⟩;exact⟨q,hq,r,ih r hr,e⟩
 | swap x y l=>rintro p ⟨q,hq,r,⟨q',hq',r',hr',rfl⟩,rfl⟩;exact⟨q',hq',_,⟨q,hq,r',hr',rfl⟩,zaL _ _ _⟩
 | trans _ _ ih1 ih2=>exact λp h=>ih2 p (ih1 p h)
def zba {ds:List (List P)}{d:List P}{p:P}:Ms (ds++[d]) p↔∃r,Ms ds r/\∃q∈d,p=pl r q:=by
 constructor
 .intro h;obtain⟨q,hq,r,hr,e⟩:=zbb (List.perm_append_singleton d ds) p h;exact⟨r,hr,q,hq,by rw[e,zaM]⟩
 .rintro⟨r,hr,q,hq,e⟩;exact zbb (List.perm_append_singleton d ds).symm p ⟨q,hq,r,hr,by rw[e,zaM]⟩
def zf5 (a b u:P):sc (pl a b) u=sc a u+sc b u:=by simp[sc,pl];grind
def zdm {ds:List (List P)}{d0 d h h':List P}(x:z08 (Ms ds) h)(y0:z08 (· ∈ d0) d)(y:z08 (λp=>∃a∈h,∃b∈d,p=pl a b) h'):z08 (Ms (ds++[d0])) h':=by
 refine y.fill (λp hp =>?_) (λp hp =>?_)
 .obtain⟨a,ha,b,hb,e⟩:=y.sub p hp;exact zba.mpr ⟨a,x.sub a ha,b,y0.sub b hb,e⟩
 .obtain⟨r,hr,q,hq,rfl⟩:=zba.mp hp;refine In.of_far y λu =>?_;obtain⟨c,hc,le⟩:=x.far (x.in hr) u;obtain⟨c2,hc2,le2⟩:=y0.far (y0.in hq) u;obtain⟨c',hc',le'⟩:=y.far (y.in ⟨c,hc,c2,hc2,rfl⟩) u;refine⟨c',hc',?_⟩;rw[zf5] at le' ⊢;omega
def zjl:z08 (Ms []) [(0,0)]:=⟨(0,0),[],rfl,rfl,λp hp=>by(have  := hp;rw[this];exact Lx.irr),by simp,.inl ⟨rfl,λ_ h=>h⟩⟩
def Far (S:P->Prop)(b:P)(F:Int):Prop:=(∀p,S p->sc p b<=F)/\∃p,S p/\sc p b=F
def zgo {b:P}:Far (Ms []) b 0:=⟨λp hp=>by(have  := hp;rw[this];simp[sc]),(0,0),rfl,by simp[sc]⟩
end Geo
namespace Pu
open PySem L2
structure Wt4 (x:List P × P):Prop where
 wb:Wb 140 x.1
 ne:x.1≠[]
 len:x.1.length<=12
 vb:Vb 140 x.2
def ze5 {c m:Int}{d:D}{Q:DK}{X:XP}(hm:0<=m)(hm':m<=10000000000000000000000000000000000000000)(hd:Ln d)(q:∀p,Far 10000000000000000000000000000000000000000 p->Q (vec p)):z0C.run [.int c,.int m,d] Q X:=by
 have bm:Bt 640 m:=z0d (by lia)
 rcases hd with rfl | ⟨⟨a,b⟩,rfl,⟨⟨a1,a2⟩,b1,b2⟩⟩
 .walk_at "fn";ac_nf;refine z2s (z6J rfl ?_);ac_nf;refine z10 (by decide) (by decide) (by lia) λr r0 r1 =>?_;ac_nf;refine z10 (by decide) (by decide) (by lia) λu u0 u1 =>?_;ac_nf;exact q (r - m,u - m) ⟨⟨by show _<=r - m;lia,by show r - m<=_;lia⟩,by show _<=u - m;lia,by show u - m<=_;lia⟩
 .dsimp only at a1 a2 b1 b2;have ba:Bt 640 a:=z0d (by lia);have bb:Bt 640 b:=z0d (by lia);walk_at "fn";ac_nf;refine z2s (zgS rfl ?_);ac_nf;refine z10 (by decide) (by decide) (by decide) λr r0 r1 =>?_;ac_nf;have br:Bt 640 (r - 3):=z0d (by lia);ac_nf;have bd:∀x:Int,-3<=x->x<=3 -> -9<=x*(r - 3)/\x*(r - 3)<=9:=λx h1 h2=>by
   rcases(by lia:x = -3\/x = -2\/x = -1\/x=0\/x=1\/x=2\/x=3) with rfl | rfl | rfl | rfl | rfl | rfl | rfl <;> lia
  have:=bd a a1 a2;have:=bd b b1 b2;exact q (a*(r - 3),b*(r - 3)) ⟨⟨by show _<=a*(r - 3);lia,by show a*(r - 3)<=_;lia⟩,by show _<=b*(r - 3);lia,by show b*(r - 3)<=_;lia⟩
def z9q {ws:List (List P × P)}{b:P}{Q:DK}{X:XP}(hw:∀x∈ws,Wt4 x)(hb:Vb 1000 b)(q:∀t,Sums ws b t->Q (.int t)):z1z.run [.tup (ws.map wtD),vec b] Q X:=by
 walk_at "fn";ac_nf;refine z0I (f:=wtD) (λdn ρ=>∃(t:Int) (x3 x4:B),Sums dn b t/\ρ=[.s (.tup (ws.map wtD)),.s (vec b),.s (.int t),x3,x4]) ⟨0,_,_,Sums.nil,rfl⟩ ?_ ?_
 .rintro dn x r ρ e ⟨t,x3,x4,ht,rfl⟩;obtain⟨wb,ne,len,vb⟩:=hw x (by rw[e];simp);refine⟨rfl,?_⟩;show Sm.run _ _ _ _ _;unfold z0G z0G z0G;ac_rfl;ac_nf;refine⟨by rw[wd];exact szl' (by lia),?_⟩;refine z1n (g:=λp =>.int (dot p b)) (λp hp K hK =>?_) ?_
  .ac_nf;refine z6R hb.le (wb p hp).le ?_;rw[z93];exact hK
  rw[show (x.1.map λp=>D.int (dot p b))=(x.1.map (dot · b)).map D.int by rw[wK];rfl];refine zj6 (by simpa using ne) λm hm hm' =>?_;ac_nf;refine z6R hb.le vb.le ?_;rw[z93];ac_nf;exact⟨_,_,_,ht.snoc ⟨hm,λp hp=>hm' _ (wj.mpr ⟨p,hp,rfl⟩)⟩,rfl⟩
 rintro ρ ⟨t,x3,x4,ht,rfl⟩;ac_nf;exact q t ht
def z6q {S:P->Prop}{h:List P}(x:z08 S h):h≠[]:=by obtain⟨m,t,e,_⟩:=x.ex;rw[e];simp
def vs_perm {l m:List P}(h:l.Perm m):Geo.vs l=Geo.vs m:=by
 induction h with
 | nil=>rfl
 | cons x _ ih=>rw[z1D,z1D,ih]
 | swap x y l=>rw[z1D,z1D,z1D,z1D,zaL]
 | trans _ _ i j=>rw[i,j]
def zgE (h:List P):Geo.vs (Geo.rd h)=(0,0):=by
 unfold Geo.rd
 split
 .rfl
 .cases h with
  | nil=>rfl
  | cons a r=>rw[show (a::r)++(a::r).take 1=a::r++[a] from rfl,z96];simp[Geo.sb]
def zhk {h:List P}{n:Nat}(k:h.length≠1->h.length<=n):(Geo.rd h).length<=n:=by
 unfold Geo.rd
 split
 .simp
 .have:=zeG (h++h.take 1);simp at*;lia
def zan {l1 l2:List P}{Q:DK}{X:XP}(b1:Wb 300 l1)(b2:Wb 300 l2)(y1:z08 (· ∈ l1) l1)(y2:z08 (· ∈ l2) l2)(z1:l1.length<=62)(z2:l2.length<=62)(z:(Geo.rd l1).length+(Geo.rd l2).length<=62)
  (q:∀h,z08 (Sm2 l1 l2) h->(Geo.rd h).length<=(Geo.rd l1).length+(Geo.rd l2).length->Q (vecs h)):z4I.run [vecs l1,vecs l2] Q X:=by
 walk_at "fn";ac_nf;have n1:l1≠[]:=z6q y1;have n2:l2≠[]:=z6q y2;refine z0z (.inl rfl) b1.le (by lia) λh1 x1 =>?_;obtain rfl:h1=l1:=(x1.is n1).unique y1;refine z0L (Safe.of_noL (z1S _) (z1T _) _) ?_;ac_rfl;ac_nf;refine z0z (.inl rfl) b2.le (by lia) λh2 x2 =>?_;obtain rfl:h2=l2:=(x2.is n2).unique y2;refine z0L (Safe.of_noL (z1S _) (z1T _) _) ?_;ac_rfl;obtain⟨a,r1,e1,_⟩:=y1.ex;obtain⟨b,r2,e2,_⟩:=y2.ex;have J:=Geo.join x1 x2 n1 n2 e1 e2;have c1:Wb 20000000 h1:=b1.le;have c2:Wb 20000000 h2:=b2.le;ac_nf;refine z1c (d:=vec a) (by rw[e1];exact zc3) ?_;ac_nf;refine z1c (d:=vec b) (by rw[e2];exact zc3) ?_;refine z2o ?_;refine z0L (Safe.of_noL rfl rfl _) ?_;ac_rfl;ac_nf;refine z2n (λx hx=>by rw[wt.mp hx];exact Safe.of_noL rfl rfl _) ?_;ac_rfl;ac_nf;refine z3I (by lia) (by rw[e1];simp) ?_;ac_nf;refine z3I (by lia) (by rw[e2];simp) ?_;refine z5r (zhi c1) (zhi c2) (by lia) (by lia) ?_;have km:=(z4d (Geo.rd h1) (Geo.rd h2)).length_eq;rw[wL] at km;have vM:Geo.vs (Geo.mg (Geo.rd h1) (Geo.rd h2))=(0,0):=by
  rw[vs_perm (z4d _ _),z8s,zgE,zgE]
  rfl
 generalize Geo.mg (Geo.rd h1) (Geo.rd h2)=M at*;ac_nf;refine z0I (f:=vec) (λdn ρ=>∃(H:List P) (x6:B),H.length=dn.length+1/\(∀p,p∈H↔∃K L,dn=K++L/\p=Geo.pl (Geo.pl a b) (Geo.vs K))/\ρ=[.s (vecs h1),.s (vecs h2),.s (vecs h1),.s (vecs h2),.s (vec (Geo.pl (Geo.pl a b) (Geo.vs dn))),.o (.lst (H.map vec)),x6]) ⟨[Geo.pl a b],_,rfl,λp =>?_,by simp[Geo.vs,Geo.pl];rfl⟩ ?_ ?_
 .constructor
  .intro h;exact⟨[],[],rfl,by rw[wt.mp h];simp[Geo.vs,Geo.pl]⟩
  .rintro⟨K,L,e,rfl⟩;rw[(jc.mp e.symm).1];simp[Geo.vs,Geo.pl]
 .rintro dn u r ρ e ⟨H,x6,hl,hH,rfl⟩;have hd:dn.length<M.length:=by rw[e];simp
  show Sm.run _ _ _ _ _;ac_rfl;ac_nf;refine z2o ?_;refine z0L (Safe.of_noL rfl rfl _) ?_;ac_rfl;refine z63 (l:=[]) (z11 rfl ?_);ac_nf;refine⟨by rw[wd];exact szl' (by lia),Safe.of_noL rfl rfl _,?_⟩;ac_rfl;have ev:(((Geo.pl (Geo.pl a b) (Geo.vs dn)).1+u.1,(Geo.pl (Geo.pl a b) (Geo.vs dn)).2+u.2):P)=Geo.pl (Geo.pl a b) (Geo.vs (dn++[u])):=by
   rw[z8s];simp[Geo.pl,Geo.vs,Int.add_assoc]
  rw[ev];refine⟨H++[Geo.pl (Geo.pl a b) (Geo.vs (dn++[u]))],_,by simp[hl],λp =>?_,by rw[wH];rfl⟩;rw[wZ,hH,wt]
  constructor
  .rintro(⟨K,L,e,rfl⟩ | rfl)
   .exact⟨K,L++[u],by rw[e,vn],rfl⟩
   .exact⟨dn++[u],[],by simp,rfl⟩
  .rintro⟨K,L,e,rfl⟩
   rcases List.eq_nil_or_concat L with rfl | ⟨L',w,rfl⟩
   .rw[vJ] at e;exact .inr (by rw[e])
   .rw[List.concat_eq_append, <- vn] at e;exact .inl ⟨K,L',(List.append_inj' e rfl).1,rfl⟩
 rintro ρ ⟨H,x6,hl,hH,rfl⟩;have hsum:∀p∈H,Sm2 h1 h2 p:=λp hp=>by
  obtain⟨K,L,e,rfl⟩:=(hH p).mp hp;obtain⟨p,hp,q,hq,e⟩:=J.1 K L e;exact⟨p,hp,q,hq,e⟩
 ac_nf;refine z0z (l:=H) (.inr rfl) (λp hp =>?_) (by lia) λh x =>?_
 .obtain⟨u,hu,v,hv,rfl⟩:=hsum p hp;exact⟨(Bt.add (b1 u hu).1 (b2 v hv).1).le,(Bt.add (b1 u hu).2 (b2 v hv).2).le⟩
 have hn:H≠[]:=λz=>by rw[z] at hl;simp at hl
 have y:=x.is hn;refine q h (zgk y (λp hp=>hsum p (y.sub p hp)) λp hp w =>?_) (zhk λn1 =>?_)
 .obtain⟨u,hu,v,hv,rfl⟩:=hp;obtain⟨cu,hcu,lu⟩:=y1.far (y1.in hu) w;obtain⟨cv,hcv,lv⟩:=y2.far (y2.in hv) w;obtain⟨K,L,e,le⟩:=J.2 cu hcu cv hcv w;refine⟨_,(hH _).mpr ⟨K,L,e,rfl⟩,?_⟩;have s1:dot (Geo.pl u v) w=Geo.sc u w+Geo.sc v w:=by simp only[dot,Geo.pl,Geo.sc];grind
  have s2:Geo.sc (Geo.pl cu cv) w=Geo.sc cu w+Geo.sc cv w:=by simp only[Geo.pl,Geo.sc];grind
  have s3:dot (Geo.pl (Geo.pl a b) (Geo.vs K)) w=Geo.sc (Geo.pl (Geo.pl a b) (Geo.vs K)) w:=rfl;rw[s1,s3];lia
 .have e0:M≠[]:=λe=>by
   have:=z1M (m:=[Geo.pl a b]) y.nodup λp hp=>by
    obtain⟨K,L,e',rfl⟩:=(hH p).mp (y.sub p hp);rw[e] at e';rw[(jc.mp e'.symm).1];simp[Geo.vs,Geo.pl]
   have h0:0<h.length:=vd.mpr (z6q y);simp at this;lia
  have:=z1M (m:=(List.range M.length).map λk=>Geo.pl (Geo.pl a b) (Geo.vs (M.take k))) y.nodup λp hp=>by
   obtain⟨K,L,e,rfl⟩:=(hH p).mp (y.sub p hp);have e1:=congrArg List.length e;rw[wL] at e1;have hM:=vd.mpr e0
   rcases wJ K.length M.length with z | z
   .exact wj.mpr ⟨K.length,vU.mpr z,by rw[e,List.take_left]⟩
   .have:L=[]:=uc.mp (by lia);rw[this,vJ] at e;exact wj.mpr ⟨0,vU.mpr hM,by rw[<- e,vM];rfl⟩
  rw[wd,v9] at this;lia
def tl (ws:List (List P × P)):Nat:=(ws.map λx=>x.1.length).sum
def z4P (ws:List (List P × P))(x:List P × P):tl (ws++[x])=tl ws+x.1.length:=by simp[tl]
def zf8 {ns:List Int}{Q:DK}{X:XP}(h0:ns≠[])(hz:ns.length<=63)(q:∀ws:List (List P × P),(∀x∈ws,Wt4 x)->ws.length<=12->tl ws<=60->Q (.tup (ws.map wtD))):z0n.run [.lst (ns.map .int)] Q X:=by
 have hp:=vd.mpr h0;obtain⟨c0,_,e0⟩:=z4t (xs:=ns) (i:=0) (by decide) (by lia);walk_at "fn";ac_nf;refine z1c (z0D e0) ?_;ac_nf;refine menu (ns:=[3,12,10 ^ 9]) (by lia) (by show c0 / 2 % 3<3;lia) λm hm =>?_;have hm':0<=m/\m<=1000000000:=by
  simp only[wg,wA,vS] at hm;lia
 clear hm;have bm:Bt 640 m:=z0d (by lia);ac_nf;refine z2n (λx hx=>by cases hx) ?_;ac_rfl;ac_nf;refine z4L (λρ=>∃(ws:List (List P × P)) (a:Nat) (x4 x5 x6:B),(∀x∈ws,Wt4 x)/\ws.length<=12/\1<=a/\a<=100/\tl ws<a/\tl ws<=60/\ρ=[.s (.lst (ns.map .int)),.s (.int m),.o (.lst (ws.map wtD)),.s (.int (a:Int)),x4,x5,x6]) (λρ=>(100 - nI ρ 3).toNat) ⟨[],1,_,_,_,λ_ z=>by(cases z),by simp,by simp,by simp,by simp[tl],by simp[tl],rfl⟩ ?_;rintro ρ ⟨ws,a,x4,x5,x6,hws,hlen,ha1,ha,ht1,ht2,rfl⟩;ac_nf;rw[wd,min2];refine z1v (λh =>?_) (λh =>?_)
 .ac_nf;rw[wd];refine z1v (λh12 =>?_) (λh12 =>?_)
  .obtain⟨c,_,eat⟩:=z4t (xs:=ns) (i:=(a:Int)) (by lia) (by lia);ac_nf;refine z1c (z0D eat) ?_;ac_nf;have hs:0<=c % 12/\c % 12<12:=by lia
   generalize c % 12=sz at*;refine z1c (z0D eat) ?_;ac_nf;generalize c / 12=f at*;refine zao hm'.1 hm'.2 λp0 hp0 =>?_;ac_nf;refine z2n (λx hx=>by rw[wt.mp hx];exact Safe.of_noL rfl rfl _) ?_;ac_rfl;refine z45 (zk5 (z11 rfl ?_));ac_nf;rw[z36];have rl':((ns.drop (HT.sIx ns.length 0 (some ((a:Int)+1)))).take (HT.sIx ns.length ns.length (some (if 61<(a:Int)+(1+sz) then 61 else (a:Int)+(1+sz))) - HT.sIx ns.length 0 (some ((a:Int)+1)))).length<=min 11 (min sz.toNat (60 - a)):=by
    have e2:0<=(if 61<(a:Int)+(1+sz) then 61 else (a:Int)+(1+sz)):=by split <;> lia
    rw[uz,ja,zeb (k:=(a:Int)+1) (by lia),zeb e2]
    split <;> lia
   generalize (ns.drop (HT.sIx ns.length 0 (some ((a:Int)+1)))).take (HT.sIx ns.length ns.length (some (if 61<(a:Int)+(1+sz) then 61 else (a:Int)+(1+sz))) - HT.sIx ns.length 0 (some ((a:Int)+1)))=rows at*;refine⟨by rw[wd];exact szl' (by lia),?_⟩;refine z3Y (g:=vec) (P:=λ_ p=>Far 1000000000 p) (λc _ K hK =>?_) λys hyl hy =>?_
   .ac_nf;exact zao hm'.1 hm'.2 hK
   refine⟨by simp;exact szl (by lia),λd hd =>?_,?_⟩
   .obtain⟨y,_,rfl⟩:=wj.mp hd;exact Safe.of_noL rfl rfl _
   ac_rfl;rw[show vec p0::ys.map vec=(p0::ys).map vec from rfl];refine z45 (z63 (l:=[]) (z11 rfl ?_));ac_nf;refine zj3 ⟨by decide,by decide,by lia⟩ ?_;have hw:0<(2*m+1) ^ (2:Int).toNat:=by
    show 0<(2*m+1) ^ 2;exact Int.pow_pos (by lia)
   have bw:Bt 9000 ((2*m+1) ^ (2:Int).toNat):=by
    have b1:Bt 40 (2*m+1):=z0d (by lia);show Bt 9000 ((2*m+1) ^ 2);rw[show (2*m+1) ^ 2=(2*m+1)*(2*m+1) by grind];exact(Bt.mul b1 b1).le
   refine zep hw bw ?_;ac_nf;refine zao hm'.1 hm'.2 λs hs =>?_;ac_nf;refine⟨by rw[wd];exact szl' (by lia),Safe.of_noL (zb4 (p0::ys,s)) (zb5 (p0::ys,s)) _,?_⟩;ac_rfl;ac_nf;refine⟨⟨ws++[(p0::ys,s)],a+(1+sz.toNat),.s (.int (1+sz)),.s (.int f),.o (.lst ((p0::ys).map vec)),λx hx =>?_,by simp;lia,by lia,by lia,by rw[z4P];simp;lia,by rw[z4P];simp;lia,?_⟩,?_⟩
   .rcases wZ.mp hx with hx | hx
    .exact hws x hx
    .rw[wt.mp hx];refine⟨λp hp =>?_,by simp,by show (p0::ys).length<=12;simp;lia,(hs.vb (n:=30) (by decide)).le⟩
     rcases wg.mp hp with rfl | hp
     .exact(hp0.vb (n:=30) (by decide)).le
     .obtain⟨_,_,hf⟩:=hy p hp;exact(hf.vb (n:=30) (by decide)).le
   .rw[wH,show ((a+(1+sz.toNat):Nat):Int)=(a:Int)+(1+sz) by lia]
    rfl
   .show (100 - ((a:Int)+(1+sz))).toNat<(100 - (a:Int)).toNat
    lia
  .ac_nf;exact q ws hws hlen ht2
 .ac_nf;exact q ws hws hlen ht2
def z9n {ns:List Int}{Q:DK}{X:XP}(hz:ns.length<=63)(q:∀ws:List (List P × P),(∀x∈ws,Wt4 x)->ws.length<=12->tl ws<=60->Q (.tup (ws.map wtD))):z0T.run [.lst (ns.map .int)] Q X:=by
 walk_at "fn";ac_nf;refine zas (λb hb =>?_);ac_nf;refine z1v (λh =>?_) (λ_ =>?_)
 .ac_nf;exact zf8 (hb h) hz q
 clear hb;ac_nf;refine z10 (by decide) (by decide) (by decide) λr r0 r1 =>?_;ac_nf;refine menu (ns:=[3,3,12,10 ^ 9,10 ^ 40]) r0 r1 λm hm =>?_;have hm':0<=m/\m<=10000000000000000000000000000000000000000:=by
  simp only[wg,wA,vS] at hm;lia
 clear hm;ac_nf;refine z10 (by decide) (by decide) (by decide) λr2 r20 r21 =>?_;ac_nf;refine zgT (λρ'=>∃d,Ln d/\ρ'=[.s (.lst (ns.map .int)),.s (.int b),.s (.int m),.s d,.n,.n,.n,.n,.n,.n]) ?_ ?_
 .refine z1v (λ_ =>?_) (λ_ =>?_)
  .ac_nf;refine z10 (by decide) (by decide) (by decide) λu u0 u1 =>?_;ac_nf;refine z10 (by decide) (by decide) (by decide) λv v0 v1 =>?_;ac_nf;exact⟨_,.inr ⟨(u - 3,v - 3),rfl,⟨by show -3<=u - 3;lia,by show u - 3<=3;lia⟩,by show -3<=v - 3;lia,by show v - 3<=3;lia⟩,rfl⟩
  .ac_nf;exact⟨_,.inl rfl,rfl⟩
 rintro ρ' ⟨d,hd,rfl⟩;ac_nf;refine z10 (by decide) (by decide) (by decide) λr3 r30 r31 =>?_;ac_nf;refine menu (ns:=[3,3,5,12]) r30 r31 λmo hmo =>?_;have hmo':0<mo/\mo<=12:=by
  simp only[wg,wA,vS] at hmo;lia
 clear hmo;ac_nf;refine z2n (λx hx=>by cases hx) ?_;ac_rfl;ac_nf;refine z4L (λρ=>∃(ws:List (List P × P)) (a:Nat) (x7 x8 x9:B),(∀x∈ws,Wt4 x)/\ws.length<=12/\1<=a/\a<=100/\tl ws<a/\tl ws<=60/\ρ=[.s (.lst (ns.map .int)),.s (.int b),.s (.int m),.s d,.s (.int mo),.o (.lst (ws.map wtD)),.s (.int (a:Int)),x7,x8,x9]) (λρ=>(100 - nI ρ 6).toNat) ⟨[],1,_,_,_,λ_ z=>by(cases z),by simp,by simp,by simp,by simp[tl],by simp[tl],rfl⟩ ?_;rintro ρ ⟨ws,a,x7,x8,x9,hws,hlen,ha1,ha,ht1,ht2,rfl⟩;ac_nf;rw[wd,min2];refine z1v (λh =>?_) (λh =>?_)
 .ac_nf;rw[wd];refine z1v (λh12 =>?_) (λh12 =>?_)
  .obtain⟨c,_,eat⟩:=z4t (xs:=ns) (i:=(a:Int)) (by lia) (by lia);ac_nf;refine z1c (z0D eat) ?_;ac_nf;refine z10 (by decide) (by decide) hmo'.1 λsz sz0 sz1 =>?_;ac_nf;obtain⟨k2,hk2,hk2'⟩:∃k2:Int,k2=(if 61<(a:Int)+(1+sz) then 61 else (a:Int)+(1+sz))/\(a:Int)<k2:=⟨_,rfl,by split <;> lia⟩
   rw[<- hk2,z36];have e1:HT.sIx ns.length 0 (some (a:Int))=a:=by
    show (if (a:Int)<0 then ((a:Int)+(ns.length:Int)).toNat else min (a:Int).toNat ns.length)=_;rw[if_neg (by lia)];lia
   have e2:HT.sIx ns.length ns.length (some k2)=min k2.toNat ns.length:=by
    show (if k2<0 then (k2+(ns.length:Int)).toNat else min k2.toNat ns.length)=_;rw[if_neg (by lia)]
   rw[e1,e2];have hrow:(ns.drop a).take (min k2.toNat ns.length - a)≠[]/\((ns.drop a).take (min k2.toNat ns.length - a)).length<=min 12 (min (1+sz.toNat) (61 - a)):=by
    refine⟨λw =>?_,by rw[uz,ja];split at hk2 <;> lia⟩;have:=congrArg List.length w;rw[uz,ja,v4] at this;lia
   generalize (ns.drop a).take (min k2.toNat ns.length - a)=rows at*;refine⟨by rw[wd];exact szl' (by lia),?_⟩;refine z3Y (g:=vec) (P:=λ_ p=>Far 10000000000000000000000000000000000000000 p) (λc _ K hK =>?_) λys hyl hy =>?_
   .ac_nf;exact ze5 hm'.1 hm'.2 hd hK
   refine z2n (λx hx =>?_) ?_
   .obtain⟨y,_,rfl⟩:=wj.mp hx;exact Safe.of_noL rfl rfl _
   ac_rfl;ac_nf;refine z1c (z0D eat) ?_;ac_nf;refine z10 (by decide) (by decide) (by decide) λr4 r40 r41 =>?_;ac_nf;refine zgT (λρ'=>∃s,Far 10000000000000000000000000000000000000000 s/\ρ'=[.s (.lst (ns.map .int)),.s (.int b),.s (.int m),.s d,.s (.int mo),.o (.lst (ws.map wtD)),.s (.int (a:Int)),.s (.int (1+sz)),.o (.lst (ys.map vec)),.s (vec s)]) ?_ ?_
   .refine z1v (λ_ =>?_) (λ_ =>?_)
    .ac_nf;refine z1c (z0D eat) ?_;ac_nf;refine ze5 hm'.1 hm'.2 hd λs hs =>?_;refine z0L (Safe.of_noL rfl rfl _) ?_;exact⟨s,hs,rfl⟩
    .ac_nf;exact⟨(0,0),by unfold Far;decide,rfl⟩
   rintro ρ' ⟨s,hs,rfl⟩;refine z45 (z63 (l:=[]) (z11 rfl ?_));ac_nf;refine⟨by rw[wd];exact szl' (by lia),Safe.of_noL (zb4 (ys,s)) (zb5 (ys,s)) _,?_⟩;ac_rfl;ac_nf;refine⟨⟨ws++[(ys,s)],a+(1+sz.toNat),.s (.int (1+sz)),.o (.lst (ys.map vec)),.s (vec s),λx hx =>?_,by simp;lia,by lia,by lia,by rw[z4P];show _+ys.length<_;lia,by rw[z4P];show _+ys.length<=_;lia,?_⟩,?_⟩
   .rcases wZ.mp hx with hx | hx
    .exact hws x hx
    .rw[wt.mp hx];refine⟨λp hp =>?_,λz=>hrow.1 (uc.mp (by rw[<- hyl];exact congrArg List.length z)),by show ys.length<=12;lia,(hs.vb (n:=134) (by decide)).le⟩;obtain⟨_,_,hf⟩:=hy p hp;exact(hf.vb (n:=134) (by decide)).le
   .rw[wH,show ((a+(1+sz.toNat):Nat):Int)=(a:Int)+(1+sz) by lia]
    rfl
   .show (100 - ((a:Int)+(1+sz))).toNat<(100 - (a:Int)).toNat
    lia
  .ac_nf;exact q ws hws hlen ht2
 .ac_nf;exact q ws hws hlen ht2
def tr (x:List P × P):List P:=x.1.map (mv x.2)
abbrev MS (ws:List (List P × P)):P->Prop:=Ms (ws.map tr)
def zgL {x:List P × P}{b:P}{m:Int}(h:most x.1 b m):Geo.Far (· ∈ tr x) b (m+dot x.2 b):=by
 have e:∀v,Geo.sc (mv x.2 v) b=dot v b+dot x.2 b:=λv=>by
  simp[Geo.sc,mv,dot]
  grind
 refine⟨λp hp =>?_,?_⟩
 .obtain⟨v,hv,rfl⟩:=wj.mp hp;have:=h.2 v hv;rw[e];lia
 .obtain⟨v,hv,ev⟩:=wj.mp h.1;refine⟨mv x.2 v,u8 hv,?_⟩;rw[e, <- ev]
def zdG {ds:List (List P)}{d:List P}{b:P}{F M:Int}(h:Geo.Far (Ms ds) b F)(k:Geo.Far (· ∈ d) b M):Geo.Far (Ms (d::ds)) b (M+F):=by
 refine⟨λp hp =>?_,?_⟩
 .obtain⟨q,hq,r,hr,rfl⟩:=hp;have:=h.1 r hr;have:=k.1 q hq;rw[zf5];lia
 .obtain⟨r,hr,e1⟩:=h.2;obtain⟨q,hq,e2⟩:=k.2;exact⟨Geo.pl q r,⟨q,hq,r,hr,rfl⟩,by rw[zf5,e1,e2]⟩
theorem z8y {b:P}:∀{ws:List (List P × P)}{t:Int},Sums ws b t->Geo.Far (MS ws) b t
 | [],t,⟨ms,h1,_,e⟩=>by
  have  := uc.mp h1;rw[e,this];exact zgo
 | x::ws,t,⟨ms,h1,h2,e⟩=>by
  obtain⟨m,q1,e1⟩:=h2 0 (by simp)
  cases ms with
  | nil=>simp at h1
  | cons m0 ms=>
   have e1  := by simpa using e1
   have ih:=z8y ⟨ms,by simpa using h1,λi hi=>by
    obtain⟨n,r1,r2⟩:=h2 (i+1) (by simpa using hi);exact⟨n,by simpa using r1,by simpa using r2⟩,rfl⟩
   rw[e,e1];exact zdG ih (zgL q1)
theorem zjk:∀{ds:List (List P)}{p:P},(∀d∈ds,Wb 150 d)->Ms ds p->Vb (150+ds.length) p
 | [],p,_,h=>by
  have  := h;rw[this];exact⟨Bt.le (m:=1) (z0d (by decide)),Bt.le (m:=1) (z0d (by decide))⟩
 | d::ds,p,hd,⟨q,hq,r,hr,e⟩=>by
  have h1:=hd d (by simp) q hq;have h2:=zjk (λd hd'=>hd d (by simp[hd'])) hr;rw[e];exact⟨Bt.le (Bt.add h1.1 h2.1) (by simp;lia),Bt.le (Bt.add h1.2 h2.2) (by simp;lia)⟩
def zgK {x:List P × P}(h:Wt4 x):Wb 150 (tr x):=λp hp=>by
 obtain⟨v,hv,rfl⟩:=wj.mp hp;exact⟨Bt.le (Bt.add (h.wb v hv).1 h.vb.1),Bt.le (Bt.add (h.wb v hv).2 h.vb.2)⟩
def zgx {ws:List (List P × P)}{p:P}(hw:∀x∈ws,Wt4 x)(hz:ws.length<=20)(h:MS ws p):Vb 200 p:=by
 have:=zjk (λd hd=>by obtain⟨x,hx,rfl⟩:=wj.mp hd;exact zgK (hw x hx)) h;rw[wd] at this;exact⟨this.1.le (by lia),this.2.le (by lia)⟩
def zeV (ws:List (List P × P))(n:Nat):tl (ws.take n)<=tl ws:=by
 have:=congrArg tl (uM n ws);simp only[tl,wH,jp] at this ⊢;lia
def zhn (h:List P):h.length<=(Geo.rd h).length+1:=by
 unfold Geo.rd
 split
 .simp;lia
 .have:∀l,l.length<=(df l).length+1:=λl=>by
   induction l with
   | nil=>simp
   | cons a r ih=>cases r with
    | nil=>simp
    | cons b r=>rw[df];simp_all
  grind
def z6O {S:P->Prop}{h:List P}(x:z08 S h):z08 (· ∈ h) h:=x.of x.sub λ_ hp=>hp
def z6S {ws:List (List P × P)}{ys:List (List P)}{Q:DK}{X:XP}(hw:∀x∈ws,Wt4 x)(hz:ws.length<=12)(ht:tl ws<=60)(hl:ys.length=ws.length)(hd:∀(i:Nat) (h:i<ws.length),∃y,ys[i]? = some y/\Hd (tr ws[i]) y)(q:∀h,z08 (MS ws) h->h.length<=61->Q (vecs h)):z2i.run [.lst (ys.map vecs)] Q X:=by
 walk_at "fn";ac_nf;refine z0I (f:=vecs) (λdn ρ=>∃(h:List P) (x2:B),z08 (MS (ws.take dn.length)) h/\(Geo.rd h).length<=tl (ws.take dn.length)/\ρ=[.s (.lst (ys.map vecs)),.s (vecs h),x2]) ⟨[(0,0)],_,zjl,by simp[Geo.rd],rfl⟩ ?_ ?_
 .rintro dn y r ρ e ⟨h,x2,hh,hlen,rfl⟩;have le:=congrArg List.length e;rw[wL,wO] at le;have hi:dn.length<ws.length:=by lia
  obtain⟨y',ey,hy⟩:=hd dn.length hi;have:y'=y:=by
   rw[e] at ey;simpa using ey.symm
  subst this;have wx:=hw _ (uH hi);have tn:tr ws[dn.length]≠[]:=λz=>wx.ne (List.map_eq_nil_iff.mp z);have y0:=hy.is tn;have yl:=z1M y0.nodup y0.sub;have tl':(tr ws[dn.length]).length=ws[dn.length].1.length:=by unfold tr;rw[wd]
  have t1:tl (ws.take (dn.length+1))=tl (ws.take dn.length)+ws[dn.length].1.length:=by
   rw[List.take_succ,wq hi];exact z4P _ _
  have t2:=zeV ws (dn.length+1);have h1:=zhn h;have h2:(Geo.rd y').length<=ws[dn.length].1.length:=zhk λ_=>by lia
  have wl:=wx.len;have hb:Wb 200 h:=λp hp=>zgx (λx hx=>hw x (jy hx)) (by rw[uz];lia) (hh.sub p hp);have yb:Wb 150 y':=λp hp=>zgK wx p (y0.sub p hp);show Sm.run _ _ _ _ _;ac_rfl;ac_nf;refine zan hb.le yb.le (z6O hh) (z6O y0) (by lia) (by lia) (by lia) λh' hh' hl' =>?_;refine z0L (Safe.of_noL (z1S _) (z1T _) _) ?_;ac_rfl;refine⟨h',_,?_,by rw[wL,ji,t1];lia,rfl⟩;rw[wL,ji,List.take_succ,wq hi];show z08 (Ms ((ws.take dn.length++[ws[dn.length]]).map tr)) h';rw[wH];exact zdm hh y0 hh'
 rintro ρ ⟨h,x2,hh,hlen,rfl⟩;ac_nf;rw[v3 (by lia)] at hh hlen;have h1:=zhn h;exact q h hh (by lia)
def z9p {ws:List (List P × P)}{Q:DK}{X:XP}(hw:∀x∈ws,Wt4 x)(hz:ws.length<=12)(ht:tl ws<=60)(q:∀h,z08 (MS ws) h->h.length<=61->Q (vecs h)):z3m.run [.tup (ws.map wtD)] Q X:=by
 walk_at "fn";refine⟨by rw[wd];exact szl' (by lia),?_⟩;refine z5n (g:=vecs) (P:=λx y=>Hd (tr x) y) (λx hx K hK =>?_) λys hl hd =>?_
 .have wx:=hw x hx;ac_nf;exact z9s wx.wb.le ⟨wx.vb.1.le,wx.vb.2.le⟩ (by have:=wx.len;lia) λh hh=>hK h hh
 exact z6S hw hz ht hl hd q
def z1U:Fn:=Fn.mkN 3 3 (.ret (.op pGt [.op pAdd [.op z0h [.op pIx [.v 1,.c (.int 0)],.op pIx [.v 0,.c (.int 0)]],.op z0h [.op pIx [.v 1,.c (.int 1)],.op pIx [.v 0,.c (.int 1)]]],.op z0h [.v 2,.op pIx [.v 0,.c (.int 2)]]]))
end Pu
namespace Geo
def zeR {a b p:P}(ne:a≠b):(cr a b p=0/\0<=dot a b p/\0<=dot b a p)↔(0<=cr a b p/\0<=cr b a p/\(a.1 - p.1)*(b.1 - p.1)+(a.2 - p.2)*(b.2 - p.2)<=0):=by
 obtain⟨a1,a2⟩:=a;obtain⟨b1,b2⟩:=b;obtain⟨p1,p2⟩:=p;simp only[cr,dot];have e1:(b1 - a1)*(p2 - a2) - (b2 - a2)*(p1 - a1)=(a1 - p1)*(b2 - p2) - (a2 - p2)*(b1 - p1):=by grind
 have e2:(a1 - b1)*(p2 - b2) - (a2 - b2)*(p1 - b1) = -((a1 - p1)*(b2 - p2) - (a2 - p2)*(b1 - p1)):=by grind
 have e3:(p1 - a1)*(b1 - a1)+(p2 - a2)*(b2 - a2)=((a1 - p1)*(a1 - p1)+(a2 - p2)*(a2 - p2)) - ((a1 - p1)*(b1 - p1)+(a2 - p2)*(b2 - p2)):=by grind
 have e4:(p1 - b1)*(a1 - b1)+(p2 - b2)*(a2 - b2)=((b1 - p1)*(b1 - p1)+(b2 - p2)*(b2 - p2)) - ((a1 - p1)*(b1 - p1)+(a2 - p2)*(b2 - p2)):=by grind
 have ne':¬ (a1 - p1=b1 - p1/\a2 - p2=b2 - p2):=λz=>ne (uf (by simp;lia) (by simp;lia));rw[e1,e2,e3,e4];generalize a1 - p1=A at*;generalize a2 - p2=B at*;generalize b1 - p1=C at*;generalize b2 - p2=E at*;clear e1 e2 e3 e4 ne;have sq:∀x:Int,0<=x*x:=λx=>by
  rcases Int.le_total 0 x with z | z
  .exact wR z z
  .exact uF z z
 constructor
 .rintro⟨h1,h2,h3⟩;refine⟨by lia,by lia,?_⟩
  rcases vT 0 (A*C+B*E) with z | z
  .exfalso
   have lag:(A*C+B*E)*(A*C+B*E)+(A*E - B*C)*(A*E - B*C)=(A*A+B*B)*(C*C+E*E):=by grind
   rw[h1,jl,uw] at lag;have df:(A - C)*(A - C)+(B - E)*(B - E)=(A*A+B*B)+(C*C+E*E) - 2*(A*C+B*E):=by grind
   have q1:=sq (A - C);have q2:=sq (B - E);generalize A*C+B*E=s at*;generalize A*A+B*B=m at*;generalize C*C+E*E=n at*;have hm:m=s:=by
    rcases vT s m with w | w
    .have:=Int.mul_lt_mul_of_pos_right w (show 0<n by lia);have:=Int.mul_le_mul_of_nonneg_left (show s<=n by lia) (show 0<=s by lia);lia
    .lia
   have hn:n=s:=by
    rw[hm] at lag;exact(Int.eq_of_mul_eq_mul_left (by lia) lag).symm
   have z1:(A - C)*(A - C)=0:=by omega
   have z2:(B - E)*(B - E)=0:=by omega
   have y1:=wV.mp z1;have y2:=wV.mp z2;exact ne' ⟨by lia,by lia⟩
  .exact z
 .rintro⟨h1,h2,h3⟩;have:=sq A;have:=sq B;have:=sq C;have:=sq E;exact⟨by lia,by lia,by lia⟩
end Geo
namespace Pu
open PySem L2 Mth
def zg5 (l:List Sh):noL (.tup (l.map shD))=true:=by
 show noLs (l.map shD)=true;refine z2d λd hd =>?_;obtain⟨x,_,rfl⟩:=wj.mp hd
 rfl
def zg7 (l:List Sh):noD (.tup (l.map shD))=true:=by
 show noDs (l.map shD)=true;refine z2e λd hd =>?_;obtain⟨x,_,rfl⟩:=wj.mp hd
 rfl
abbrev Rs:=Int × Int × Int
abbrev pcD (x y t:Int):D :=.tup [.int x,.int y,.int t]
structure Pc (x y t:Int):Prop where
 pos:0<t
 bx:Bt 800 x
 bY:Bt 800 y
 bt:Bt 110 t
 cop:Int.gcd ((Int.gcd x y:Nat):Int) t=1
def Pl.pc {x y b u v t:Int}(h:Pl x y b u v t)(hb:0<b)(bb:Bt 110 b)(bx:Bt 800 x)(bY:Bt 800 y):Pc u v t:=by
 obtain⟨z1,z2,z3⟩:=h.bt hb bb bx bY;exact⟨h.pos,z2,z3,z1,h.cop⟩
def deq3 (a b c x y z:Int):deq (pcD a b c) (pcD x y z)=decide (a=x/\b=y/\c=z):=by
 show PyData.eqv (.tuple [.int a,.int b,.int c]) (.tuple [.int x,.int y,.int z])=_;simp[PyData.eqv,PyData.eqvAll]
 by_cases h1:a=x <;> by_cases h2:b=y <;> by_cases h3:c=z <;> simp[h1,h2,h3]
def Da3 (a b c:Int){n:Nat}:Da (n+1) (pcD a b c):=Da.tup.mpr λd hd=>by
 simp only[wg,wA,vS] at hd
 rcases hd with rfl | rfl | rfl <;> exact Da.int
def zdJ {l:List P}{b:P}{m:Int}(hb:Wb 600 l)(hv:Vb 700 b)(h:m∈l.map (dot · b)):Bt 1400 m:=by
 obtain⟨p,hp,rfl⟩:=wj.mp h;obtain⟨b1,b2⟩:=hb p hp;exact Bt.le (Bt.add (Bt.mul b1 hv.1) (Bt.mul b2 hv.2))
def zcx {x y t m:Int}{b:P}{Q:DK}{X:XP}(pc:Pc x y t)(hv:Vb 700 b)(bm:Bt 1400 m)(q:Q (.bl (decide (m*t<dot (x,y) b)))):z1U.run [pcD x y t,vec b,.int m] Q X:=by
 obtain⟨pos,bx,bY,bt',_⟩:=pc;obtain⟨v1,v2⟩:=hv;walk_at "fn";ac_nf;rw[show b.1*x+b.2*y=dot (x,y) b by simp only[dot];rw[vG b.1,vG b.2]];exact q
def zdj {x y:Str}{Q:DK}{X:XP}(q:Q (.bl (decide (x=y)))):pEq.run [.str x,.str y] Q X:=q
end Pu
namespace Tim
open PySem PyProof.Rows PySem.W HT
def TP (h:Heap)(v:Value)(n:Int):Prop:=∃a o its m t r,v = .ref a/\h.get? a=some o/\o.cls = .type "tuple"/\o.data = .seq its m/\its.toList=[.int n t,r]
def TP.keep {h h':Heap}{v:Value}{n:Int}(x:TP h v n)(g:∀b o,h.get? b=some o->o.cls = .type "tuple"->h'.get? b=some o):TP h' v n:=by
 obtain⟨a,o,its,m,t,r,e,h1,h2,h3,h4⟩:=x;exact⟨a,o,its,m,t,r,e,g _ _ h1 h2,h2,h3,h4⟩
def keyP (h:Heap)(v:Value):Int:=match v with
 | .ref a=>match h.get? a with
  | some o=>match o.data with
   | .seq its _=>match its.toList with
    | .int n _::_=>n
    | _=>0
   | _=>0
  | none=>0
 | _=>0
def TP.key {h:Heap}{v:Value}{n:Int}(x:TP h v n):keyP h v=n:=by
 obtain⟨a,o,its,m,t,r,rfl,h1,_,h3,h4⟩:=x;simp[keyP,h1,h3,h4]
section
variable {prog:Program}{w:World}{A:Around}{s:Shared}
def lex1 (a b:Int):z0r [a] [b]=decide (a<b):=by
 rw[z0M]
 by_cases e:a=b
 .rw[if_pos e]
  symm
  exact ve (by omega)
 .rw[if_neg e]
def zge {b:Bool}{Q:Bool->Shared->Prop}{n m:Int}{t u:Tok}{r r':Value}(hr:n=m->r=r')(h:Q (decide (n<m)) s):KatLex prog w A b false Q ([Value.int n t,r].zip [Value.int m u,r']) 0 s:=by
 refine kat_cons (wpAny_eqBool_int ?_)
 by_cases e:n=m
 .subst e;rw[show (n == n)=true by simp];obtain rfl:=hr rfl;refine kat_yes (kat_cons (SeqAt.EqAt.same r _ w _ _ (kat_yes (kat_nil ?_))))
  grind
 .rw[show (n == m)=false by simpa using e];refine kat_no ?_
  cases hb:(b && 0 == 0) with
  | true=>exact oneLt_int h
  | false=>exact kat_one _ _ (lt_int h)
theorem z7k {h:Heap}{key:Value->Int}:∀{vs:List Value},(∀v∈vs,TP h v (key v))->∃fs:List Value,KatTups h vs fs/\fs.length=vs.length/\∀f∈fs,∃n t,f = .int n t
 | [],_=>⟨[],.nil,rfl,λ_ h=>by cases h⟩
 | v::vs,hk=>by
  obtain⟨fs,q1,q2,q3⟩:=z7k (λv hv=>hk v (wm _ hv));obtain⟨a,o,its,n,t,r,e,h1,h2,h3,h4⟩:=hk v (wv ..);subst e;refine⟨.int _ t::fs,.cons h1 h2 h3 (by rw[<- uv,h4];rfl) q1,by simp[q2],λf hf =>?_⟩
  rcases wg.mp hf with rfl | hf
  .exact⟨_,_,rfl⟩
  .exact q3 f hf
def z4y.prs {h:Heap}{vs:List Value}{key:Value->Int}(hk:∀v∈vs,TP h v (key v))(inj:∀u∈vs,∀v∈vs,key u=key v->u=v):z4y prog w h vs (λv=>rkL (vs.map λv=>[key v]) [key v]):=λA s k=>by
 refine⟨tuples' true,?_,λhl Q E q =>?_⟩
 .intro x mx y my Q E hq;rw[<- z8C (wj.mpr ⟨_,mx,rfl⟩) (wj.mpr ⟨_,my,rfl⟩),lex1] at hq;have ij:=inj _ mx _ my;obtain⟨a1,o1,i1,n1,t1,r1,e1,g1,c1,d1,k1⟩:=(hk _ mx).keep k;obtain⟨a2,o2,i2,n2,t2,r2,e2,g2,c2,d2,k2⟩:=(hk _ my).keep k;rw[e1,e2];have l1:i1.size=2:=by rw[<- v6,k1];rfl
  have l2:i2.size=2:=by rw[<- v6,k2];rfl
  refine kat_lt g1 d1 g2 d2 ?_;rw[k1,k2,show decide _=false by rw[l1,l2];rfl];refine zge (λe =>?_) hq
  grind
 .obtain⟨fs,q1,q2,q3⟩:=z7k λv hv=>(hk v hv).keep k;refine kat_kind (T :=.type "int") q1 (by omega) (λv hv =>?_) rfl q;obtain⟨n,t,rfl⟩:=q3 v hv;exact Looks.now
end
end Tim
namespace Pu
open PySem PySem.Spec PyProof.Rows L2 Tab
abbrev pdD (x:Int × D):D :=.tup [.int x.1,x.2]
def zjD (d:D)(Q:DK):Prop:=∃rs:List (Int × D),d = .lst (rs.map pdD)/\(rs.map (·.1)).Nodup/\rs.length<=63/\∀rl:List (Int × D),rl.Perm rs->rl.Pairwise (λa b=>a.1<b.1)->Q (.lst (rl.map pdD))
def zem:Fn:=fn1 zjD λd Q Q' m h=>by
 obtain⟨ks,e,h1,h2,q⟩:=h;exact⟨ks,e,h1,h2,λkl a b=>m _ (q kl a b)⟩
section
variable {X:Cx}
theorem zaC {G:Hp}{P:Value->Int->Prop}(hP:∀(b:Addr) (n:Int) (u:V),SqT X.K G b [.int n,u]->P (.ref b) n):∀{rs:List (Int × D)}{xs:List V}{its:List Value},RDs X.K X.mg G (rs.map pdD) xs->Vals xs its->Two (λv (p:V × Int × D)=>P v p.2.1/\RelV p.1 v/\RD X.K X.mg G (pdD p.2) p.1) its (xs.zip rs)
 | [],xs,its,h,r=>by
  subst h
  cases r
  exact .nil
 | x::rs,xs,its,h,r=>by
  obtain⟨v,vs,rfl,h1,h2⟩:=h
  cases r with
  | cons r1 r2=>
   refine .cons ⟨?_,r1,h1⟩ (zaC hP h2 r2);obtain⟨a,ys,rfl,h3,h4⟩:=z1u h1
   cases r1
   obtain⟨y,z,rfl,h5,h6⟩:=rds2 h4;subst h5;exact hP a x.1 z h3
theorem z7K {G:Hp}{P:Value->Int->Prop}:∀{out:List Value}{m:List (V × Int × D)},Two (λv (p:V × Int × D)=>P v p.2.1/\RelV p.1 v/\RD X.K X.mg G (pdD p.2) p.1) out m->Vals (m.map (·.1)) out/\RDs X.K X.mg G ((m.map (·.2)).map pdD) (m.map (·.1))
 | _,_,.nil=>⟨.nil,RDs.nil⟩
 | _,_,.cons ⟨_,h1,h2⟩ t=>⟨.cons h1 (z7K t).1,RDs.cons h2 (z7K t).2⟩
theorem z4O {α β γ:Type}{R:α->β->Prop}{f:α->γ}{g:β->γ}(hf:∀a b,R a b->f a=g b):∀{l:List α}{m:List β},Two R l m->l.map f=m.map g
 | _,_,.nil=>rfl
 | _,_,.cons h t=>by rw[wE,wE,hf _ _ h,z4O hf t]
theorem zbr {α β:Type}{f:α->β}:∀{l:List α},(l.map f).Nodup->∀u∈l,∀v∈l,f u=f v->u=v
 | a::l,h,u,hu,v,hv,e=>by
  rw[wE,vB] at h
  rcases wg.mp hu with rfl | hu'
  .rcases wg.mp hv with rfl | hv'
   .rfl
   .exact(h.1 (wj.mpr ⟨v,hv',e.symm⟩)).elim
  .rcases wg.mp hv with rfl | hv'
   .simp_all
   .exact zbr h.2 u hu' v hv' e
def ze4 {h:Heap}{β:Type}{its out:List Value}{m:List β}{g:β->Int}(p1:out.Perm its)(p2:out.Pairwise λx y=>Tim.rkL (its.map λv=>[Tim.keyP h v]) [Tim.keyP h x]<=Tim.rkL (its.map λv=>[Tim.keyP h v]) [Tim.keyP h y])(k2:out.map (Tim.keyP h)=m.map g)(p4:(m.map g).Nodup):m.Pairwise λa b=>g a<g b:=by
 have p3:(out.map (Tim.keyP h)).Pairwise (· <= ·):=by
  rw[wN];refine p2.imp_of_mem λ{x y} hx hy hxy =>?_;have a1:=Tim.z8C (l:=its.map λv=>[Tim.keyP h v]) (wj.mpr ⟨y,p1.mem_iff.mp hy,rfl⟩) (wj.mpr ⟨x,p1.mem_iff.mp hx,rfl⟩);rw[Tim.lex1,ve (Nat.not_lt.mpr hxy)] at a1;lia
 rw[k2,wN] at p3;unfold List.Nodup at p4;rw[wN] at p4;exact(p3.and p4).imp λ{x y} h=>by
  lia
def z9Z:z0w X (.builtin "sorted") (λvs H Q=>∃(G:Hp) (a:Addr) (xs:List V) (rs:List (Int × D)),vs=[.ref a]/\Same G H/\SqL X.K G a xs/\RDs X.K X.mg G (rs.map pdD) xs/\(rs.map (·.1)).Nodup/\rs.length<=63/\
  ∀(D':Addr) (out:List V) (rl:List (Int × D)),H D'=none->RDs X.K X.mg G (rl.map pdD) out->rl.Perm rs->rl.Pairwise (λa b=>a.1<b.1)->Q (.ref D') (upd H D' (.lst out))):=by
 rintro pins s σ H xs us Q I rv ⟨G,a,ys,rs,e,g,hs,hr,nd,hz,q⟩;subst e;obtain⟨u,rfl,rx⟩:=z2O rv
 cases rx
 obtain⟨its,r,pl,_⟩:=I.list (z14 g hs);have two:=zaC (P:=λv n=>Tim.TP s.heap v n) (λb n u h=>by
  obtain⟨jts,r',⟨o,ho,hc,m,hd⟩,_⟩:=I.tuple (z0y g h)
  cases r' with
  | cons r1 r2=>
   obtain⟨t,rfl⟩:=r1
   cases r2 with
   | cons r3 r4=>
    cases r4
    exact⟨b,o,_,m,t,_,rfl,ho,hc,hd,rfl⟩) hr r
 have hkey:its.map (Tim.keyP s.heap)=(ys.zip rs).map (·.2.1):=z4O (λv p h=>h.1.key) two;have hlen:ys.length=rs.length:=by rw[hr.len,wd]
 have e2:(ys.zip rs).map (·.2.1)=rs.map (·.1):=by
  rw[show ((ys.zip rs).map (·.2.1))=((ys.zip rs).map (·.2)).map (·.1) by rw[wK];rfl,List.map_snd_zip (by lia)]
 have hTP:∀v∈its,Tim.TP s.heap v (Tim.keyP s.heap v):=λv hv=>by
  obtain⟨p,_,h1,_⟩:=two.mem_left hv;rw[h1.key];exact h1
 have inj:∀u∈its,∀v∈its,Tim.keyP s.heap u=Tim.keyP s.heap v->u=v:=λu hu v hv e=>by
  rw[e2] at hkey;rw[<- hkey] at nd;exact zbr nd u hu v hv e
 have hil:its.length=rs.length:=by rw[<- r.length,hlen]
 refine Tim.z4W λE' =>?_;refine collect_list (vs:=its) (by simpa using pl.isList) ?_ (by lia);have keep:∀b o,s.heap.get? b=some o->((s.heap.push (seqObj "list" #[] 0)).update s.heap.objs.size (Obj.mapSeq (· ++ its.toArray))).get? b=some o:=λb o z=>by
  rw[Heap.get?_update_ne _ _ _ _ (wz (wo z))];exact we _ z
 refine⟨_,by lia,(Tim.z4y.prs hTP inj).keep keep,λout p1 p2 h' kp he =>?_⟩;obtain⟨e,he⟩:=he;obtain⟨m,pm,tm⟩:=two.perm p1.symm;obtain⟨v1,v2⟩:=z7K tm;have hD:s.heap.get? ((s.heap.push (seqObj "list" #[] 0)).update s.heap.objs.size (Obj.mapSeq (· ++ its.toArray))).objs.size=none:=by
  cases z:s.heap.get? ((s.heap.push (seqObj "list" #[] 0)).update s.heap.objs.size (Obj.mapSeq (· ++ its.toArray))).objs.size with
  | none=>rfl
  | some o=>exact absurd (wo (keep _ _ z)) (vj _)
 have perm:(m.map (·.2)).Perm rs:=by
  have:=(pm.map (·.2)).symm
  rwa [List.map_snd_zip (by lia)] at this
 have hzl:(m.map (·.1)).length<=sizeLine:=by
  have h1:=pm.length_eq;have h2:=perm.length_eq;rw[wd] at h2 ⊢;exact wI (show m.length<=64 by lia) (by decide)
 refine⟨.ref _,upd H _ (.lst (m.map (·.1))),I.laid' (o :=.lst (m.map (·.1))) (t':=s.toks) (λb o z=>kp b o (keep b o z)) hD ⟨hzl,out,e,v1,he⟩,rfl,q _ _ _ (I.hok.none_of hD) v2 perm ?_⟩;refine wN.mpr (ze4 (h:=s.heap) (g:=λp:V × Int × D=>p.2.1) p1 p2 (z4O (λv p h=>h.1.key) tm) ?_);have:=perm.map (·.1);rw[wK] at this;exact this.nodup_iff.mpr nd
def z9c:z0w X (.builtin "sorted") (rNf X.K X.mg zem):=z9Z.imp <| by
 rintro vs H Q ⟨G,ds,Q0,X0,g,rds,hr,hk⟩;obtain⟨d,rfl,hr'⟩:=z1d hr;obtain⟨v,rfl,rd⟩:=rds1 rds;obtain⟨rs,rfl,nd,hz,q⟩:=hr';obtain⟨a,xs,rfl,h1,h2⟩:=z1C rd;exact⟨G,a,xs,rs,rfl,g,h1,h2,nd,hz,λD out rl hD ht pm pw=>hk.newL g hD (q rl pm pw) ht⟩
end
end Pu
namespace Idx
open PySem PySem.Spec PyProof.Rows SeqAt
def zgD {M:Model}{A:Around}{E:WvP}{s:Shared}{β:Type}{hi:Nat}(f:Nat->β->Sem (ForInStep β))(J:Nat->β->Shared->Prop)(Q:β->Shared->Prop){b:β}
  (step:∀i b s,i<hi->J i b s->wpAny M A (f i b) (λr s'=>match r with | .yield b'=>J (i+1) b' s' | .done b'=>Q b' s') E s)
  (last:∀b s,J hi b s->Q b s) (h:J 0 b s):wpAny M A (forIn [:hi] b f) Q E s:=by
 rw[Std.Legacy.Range.forIn_eq_forIn_range'];have sz:([:hi]).size=hi:=by simp_all
 rw[sz];refine u9 f (λrest b s=>∃i,i<=hi/\rest=List.range' i (hi - i)/\J i b s) Q ?_ ?_ _ b ⟨0,by omega,rfl,h⟩
 .rintro x rest b s ⟨i,hle,e,hJ⟩
  rcases wJ i hi with z | z
  .rw[show hi - i=hi - (i+1)+1 by omega] at e;obtain⟨rfl,rfl⟩:=List.cons.inj e;refine w6 (step x b s z hJ) (λr s' hr =>?_) λ_ _ h'=>h'
   cases r with
   | yield b'=>grind
   | done b'=>exact hr
  simp_all
 grind
def zgI (l:Addr)(its:Array Value)(n:Nat)(dd:Option Addr)(sl:Array (Option Value))(x:Value)(e:Value->Bool)(j:Nat)(hj:j<its.size)(hit:e its[j]=true)(hno:∀m (hm:m<its.size),m<j->e its[m]=false):
  Meets (Builtin.«tuple.index» ⟨[.ref l,x],[]⟩) (λA R s=>s.heap.get? l=some { cls :=.type "tuple",dict:=dd,data :=.seq its n,slots:=sl }/\(∀y,y∈its->EqAt A.in1 s y x (e y))/\R (.ok (.ret (.int j s.toks))) { s with toks:=s.toks+1 }):=
 .of_wp λprog w A R s h=>by
  obtain⟨hp,g,d,tk,os⟩:=s;obtain⟨hl,he,h⟩:=h
  wp_walk using uU hl,zgD _ (λi b s'=>b.1=none/\s'=⟨hp,g,d,tk,os⟩/\i<=j) _
  case step=>
   rintro i b s' hi ⟨hb,rfl,hij⟩;have hi':i<its.size:=by omega
   rw[um hi'];refine wc (he its[i] (Array.getElem_mem hi') prog w _ _ ?_)
   rcases wJ i j with z | z
   .rw[hno i hi' z]
    wp_walk
    exact⟨rfl,rfl,z⟩
   .obtain rfl:i=j:=by omega
    rw[hit]
    wp_walk
    exact⟨_,rfl,h⟩
  case last=>
   rintro b s' ⟨hb,rfl,hij⟩;omega
  case h=>exact⟨rfl,rfl,by omega⟩
end Idx
namespace Pu
open PySem PySem.Spec PyProof.Rows L2 Tab
section
variable {X:Cx}{G H:Hp}
def z4r (b a:D)(Q:DK):Prop:=match b with
 | .tup l=>Da 60 a/\(∀d∈l,Da 60 d)/\(∃d∈l,deq d a=true)/\∀(i:Nat) (d:D),l[i]? = some d->deq d a=true->(∀j d',j<i->l[j]? = some d'->deq d' a=false)->Q (.int (i:Int))
 | _=>False
def z8d (a b:D)(Q Q':DK)(m:∀d,Q d->Q' d)(h:z4r a b Q):z4r a b Q':=by
 unfold z4r at h ⊢
 split at h
 .exact⟨h.1,h.2.1,h.2.2.1,λi d e1 e2 e3=>m _ (h.2.2.2 i d e1 e2 e3)⟩
 omega
def zaU:Fn:=fn2 z4r z8d
open Classical in
theorem z5i {α:Type}(f:α->Bool):∀(l:List α),(∃x∈l,f x=true)->∃(i:Nat) (x:α),l[i]? = some x/\f x=true/\∀(j:Nat) (y:α),j<i->l[j]? = some y->f y=false
 | [],⟨x,hx,_⟩=>by cases hx
 | a::l,⟨x,hx,h⟩=>by
  cases ha:f a with
  | true=>exact⟨0,a,rfl,ha,λj y hj=>by omega⟩
  | false=>
   rcases wg.mp hx with rfl | hx
   .rw[ha] at h;cases h
   .obtain⟨i,y,h1,h2,h3⟩:=z5i f l ⟨x,hx,h⟩;refine⟨i+1,y,by rw[uB];exact h1,h2,λj z hj e =>?_⟩
    cases j with
    | zero=>rw[List.getElem?_cons_zero] at e;cases e;exact ha
    | succ j=>exact h3 j z (by omega) (by rwa [uB] at e)
def zfd (X:Cx):V->List V->Hp->VK->Prop:=λx xs H Q=>∃(G:Hp) (a:Addr) (ys:List V) (l:List D) (d:D) (v:V),x = .ref a/\xs=[v]/\Same G H/\SqT X.K G a ys/\RDs X.K X.mg G l ys/\RD X.K X.mg G d v/\Da 60 d/\(∀e∈l,Da 60 e)/\(∃e∈l,deq e d=true)/\
 ∀(i:Nat) (e:D),l[i]? = some e->deq e d=true->(∀(j:Nat) (e':D),j<i->l[j]? = some e'->deq e' d=false)->Q (.int (i:Int)) H
def z5y (hu:X.A.units+64<cLine):MtR X "tuple.index" (zfd X):=by
 rintro pins s σ H x xs v us Q I rx rs ⟨G,a,ys,l,d,w,e1,e2,g,hT,hl,hd,h1,h2,h3,q⟩;subst e1;subst e2
 cases rx
 obtain⟨u,rfl,ru⟩:=rs.one;obtain⟨its,rr,pl,_⟩:=I.tuple (z0y g hT);obtain⟨e,q1,_,q2⟩:=z7G I g hu hd ru h1 h2 hl rr;obtain⟨⟨cls,dd,data,sl⟩,ho,hc,n,hda⟩:=id pl;simp only at hc hda;subst hc hda;obtain⟨i,x,hi,hx,hno⟩:=z5i (λe=>deq e d) l h3;have il:i<l.length:=by
  rcases wJ i l.length with z | z
  .exact z
  .rw[uq z] at hi;cases hi
 have len:its.length=l.length:=by rw[<- rr.length,hl.len]
 have hj:i<its.toArray.size:=by simpa[len] using il
 have val:∀(m:Nat) (hm:m<its.toArray.size) (y:D),l[m]? = some y->e its.toArray[m]=deq y d:=λm hm y hy=>q2 m _ y (by rw[wq (by simpa using hm)];simp) hy;refine call_meets PySem.F.slot_tuple_index ⟨_,ho,rfl⟩ PySem.F.entry_tuple_index (PySem.F.args_tuple_index_2 _ _) (Idx.zgI a its.toArray n dd sl u e i hj ((val i hj x hi).trans hx) λm hm hmi =>?_) ⟨ho,λy hy=>q1 y (by simpa using hy),?_⟩
 .have ml:m<l.length:=by omega
  rw[val m hm _ (wq ml)];exact hno m _ hmi (wq ml)
 .exact⟨.int i,H,I.tok _,⟨_,rfl⟩,q i x hi hx hno⟩
end
section
variable {X:Cx}{E:XK}{o e:Expr}{apos cpos:Pos}{i j:Nat}
def tBMT (K:W.Frag)(r:V->List V->Hp->VK->Prop)(to:TE)(t:TA):TE:=λσ H Q=>to σ H λx H1=>(∃p xs,x = .ref p/\SqT K H1 p xs)/\t σ H1 λxs H2=>r x xs H2 Q
def zi8 {id:String}{name:Str}{r:V->List V->Hp->VK->Prop}{te:TE}{aa:TA}(slot:Slot "tuple" name id)(hty:typeOf (.builtin id)=pure (.type "method_descriptor"))(hm:MtR X id r)(ho:QE X o te)(ha:QA X [e] aa)
  (hbase:autoParam (attributeBase o name X.env (eval o X.env)=eval o X.env) jT)
  (hfew:autoParam (((backTo cpos (starEach [e] X.env)).all (λx => !x.1) && (backToKw cpos (keywordEach [] X.env)).all (λx=>x.1.isSome)
   && decide ([e].length+([]:List Keyword).length+(if ([]:List Keyword).isEmpty then 0 else 1)<30))=true) jT)
  (hline:autoParam ((apos.endLine == cpos.line)=true) jT) (hs:autoParam (starEach [e] X.env=(false,eval e X.env)::starEach [] X.env) jT) (hplain:autoParam ((backTo cpos (starEach [] X.env)).any (·.1)=false) jT):
  QE X (.Call (.Attribute o name apos) [e] [] cpos) (tBMT X.K r te aa):=⟨by
 intro pins s σ H Q I h;refine wpAny_Call_method_late hbase hfew hline rfl (thn (ho.p _ s σ H _ I h) λv s1 z9 =>?_);obtain⟨x,H1,I1,r1,⟨p,xs,ex,hT⟩,q1⟩:=z9;subst ex
 cases r1
 obtain⟨its,_,⟨ob,g1,g2,_⟩,_⟩:=I1.tuple hT;refine⟨"tuple",id,PySem.F.plainAttrs_tuple,slot,hty,⟨ob,g1,g2⟩,λa ea =>?_,?_⟩
 .cases ea
  exact I1.tupNoD hT
 have hA:=ha.p cpos _ s1 σ H1 _ I1 q1;rw[hs] at hA ⊢;refine uE (by rfl) (Calls.evalArgs_plain ?_);exact thn hA λus s2 ⟨vs,H2,I2,r2,q2⟩=>hm _ s2 σ H2 (.ref p) vs _ us Q I2 rfl r2 q2⟩
def z9v (hu:X.A.units+64<cLine)(ho:QX X E o (.v i))(ha:QXA X E [e] [.v j])
  (hbase:autoParam (attributeBase o "index" X.env (eval o X.env)=eval o X.env) jT)
  (hfew:autoParam (((backTo cpos (starEach [e] X.env)).all (λx => !x.1) && (backToKw cpos (keywordEach [] X.env)).all (λx=>x.1.isSome)
   && decide ([e].length+([]:List Keyword).length+(if ([]:List Keyword).isEmpty then 0 else 1)<30))=true) jT)
  (hline:autoParam ((apos.endLine == cpos.line)=true) jT) (hs:autoParam (starEach [e] X.env=(false,eval e X.env)::starEach [] X.env) jT) (hplain:autoParam ((backTo cpos (starEach [] X.env)).any (·.1)=false) jT):
  QX X E (.Call (.Attribute o "index" apos) [e] [] cpos) (.op zaU [.v i,.v j]):=
 QE.imp (zi8 PySem.F.slot_tuple_index PySem.F.type_tuple_index (z5y hu) ho ha hbase hfew hline hs hplain) <| by
  rintro σ H Q ⟨G,ρ,Q0,X0,g,ab,hr,hk,hx⟩;have hr':onV (ρ.get i) _:=hr
  cases z1:ρ.get i with
  | none=>rw[z1] at hr';exact hr'.elim
  | some d=>
   rw[z1] at hr'
   cases z2:ρ.get j with
   | none=>
    have hr2:onV (ρ.get j) (λd'=>z4r d d' Q0):=hr';rw[z2] at hr2;exact hr2.elim
   | some d'=>
    have hr2:onV (ρ.get j) (λd'=>z4r d d' Q0):=hr';rw[z2] at hr2;have hr3:z4r d d' Q0:=hr2;refine⟨G,ρ,λc=>c=d,X0,g,ab,(by show onV (ρ.get i) _;rw[z1];exact rfl),?_,hx⟩;rintro c v G1 H1 rfl g1 g2 g3 rd;unfold z4r at hr3
    split at hr3
    .rename_i l
     obtain⟨h1,h2,h3,q⟩:=hr3;obtain⟨a,ys,rfl,hT,hl⟩:=z1u rd;refine⟨⟨a,ys,rfl,z0y g2 hT⟩,G1,ρ,λcs=>cs=[d'],X0,g2,ab.same g1.1,(by show onV (ρ.get j) _;rw[z2];exact rfl),?_,hx.same g3⟩;rintro cs vs G2 H2 rfl k1 k2 k3 rds;obtain⟨w,rfl,rw'⟩:=rds1 rds;exact⟨G2,a,ys,l,d',w,rfl,rfl,k2,z0y k1.1 hT,hl.same k1.1,rw',h1,h2,h3,λn c e1 e2 e3=>hk _ _ G2 H2 (q n c e1 e2 e3) (g1.trans g3 k1) k2 (z02 g3 k3) RD.int'⟩
    .exact hr3.elim
end
section
variable {X:Cx}
theorem z9e (f:Nat->Int):∀k,argBest (λi j=>decide (f i<f j)) k<=k/\∀j,j<=k->f (argBest (λi j=>decide (f i<f j)) k)<=f j
 | 0=>⟨wp _,λj h=>by rw[show j=0 by lia];exact jk _⟩
 | k+1=>by
  obtain⟨i1,i2⟩:=z9e f k;rw[argBest]
  grind
def zbW (hc:X.calm=true):z0w X (.builtin "min") (λvs H Q=>∃G a ns,vs=[.ref a]/\Same G H/\SqT X.K G a (ns.map V.int)/\ns≠[]/\∀m,m∈ns->(∀x∈ns,m<=x)->Q (.int m) H):=by
 rintro pins s σ H xs us Q I rv ⟨G,a,ns,e,g,hS,hne,q⟩;subst e;obtain⟨u,rfl,rx⟩:=z2O rv
 cases rx
 have hh:X.A.handled=none:=I.ok.hd hc;obtain⟨its,rr,pl,_⟩:=I.tuple (z0y g hS);obtain⟨l,rfl,hl⟩:=z4M ns rr;have hll:l.length=ns.length:=by rw[<- hl,wd]
 have hpos:0<ns.length:=vd.mpr hne;obtain⟨o,ho,hc',n,hd⟩:=id pl;have ha:a<s.heap.objs.size:=wo ho;have val:∀(i:Nat) (v:Value),(l.map λp=>Value.int p.1 p.2).toArray[i]? = some v->∃t,v = .int ((ns[i]?).getD 0) t/\i<ns.length:=λi v e=>by
  have e':(l.map λp=>Value.int p.1 p.2)[i]? = some v:=by simpa using e
  rw[wG] at e'
  cases z:l[i]? with
  | none=>rw[z] at e';cases e'
  | some p=>
   rw[z] at e'
   cases e'
   have hi:i<l.length:=by
    rcases wJ i l.length with w | w
    .exact w
    .rw[uq w] at z;cases z
   exact⟨p.2,by rw[<- hl,wG,z];rfl,by lia⟩
 have W:=(Walks.tuple (prog:=X.prog) (w:=X.w) (A:=X.A.in1) (show X.A.in1.handled=none from by simp[hh]) s.heap.objs.size a (wz ha) (l.map λp=>Value.int p.1 p.2).toArray).toS;refine call_min_walkS (uL pl ⟨_,_,_,_,_,_,_,λi j=>decide ((ns[i]?).getD 0<(ns[j]?).getD 0),rfl,W,⟨⟨_,wn _ rfl,rfl,rfl⟩,⟨o,we _ ho,hc',n,hd⟩⟩,λb hb =>?_,by simp;lia,?_,λv s' pv mv =>?_⟩)
 .rw[vE];simp only[wg,wA,vS] at hb
  rcases hb with e | e
  .rw[e];exact ue _
  .rw[e];exact vN ha
 .intro i j x y s1 Q1 E1 px py q1;obtain⟨t,rfl,_⟩:=val i x px;obtain⟨t',rfl,_⟩:=val j y py;exact lt_int q1
 .obtain⟨t,rfl,hi⟩:=val _ v pv;obtain⟨h',g',d',tk',os'⟩:=s';have eg:g'=s.gens:=mv.gens;have ed:d'=s.drawn:=mv.drawn;have eo:os'=s.os:=mv.os;subst eg;subst ed;subst eo;refine⟨.int _,H,I.kept (t':=tk') λb o e=>mv.heap b o ?_ (we _ e),⟨t,rfl⟩,q _ ?_ λx hx =>?_⟩
  .simp only[wt];exact wz (wo e)
  .rw[wq hi];exact uH hi
  .obtain⟨j,hj,rfl⟩:=wX.mp hx;have:=(z9e (λi=>(ns[i]?).getD 0) ((l.map λp=>Value.int p.1 p.2).toArray.size - 1)).2 j (by simp;lia);simpa[wq hj] using this
def zlb (d:D)(Q:DK):Prop:=∃ns:List Int,d = .tup (ns.map .int)/\ns≠[]/\∀m,m∈ns->(∀x∈ns,m<=x)->Q (.int m)
def ziG:Fn:=fn1 zlb λd Q Q' m ⟨ns,e,h1,h2⟩=>⟨ns,e,h1,λk a b=>m _ (h2 k a b)⟩
theorem z7U:∀{ns:List Int}{vs:List V}{K:W.Frag}{mg:WmP}{G:Hp},RDs K mg G (ns.map D.int) vs->vs=ns.map V.int
 | [],vs,K,mg,G,h=>by
  exact h
 | n::ns,vs,K,mg,G,h=>by
  obtain⟨x,r,rfl,h1,h2⟩:=h;rw[h1,z7U h2]
  rfl
def zbQ (hc:X.calm=true):z0w X (.builtin "min") (rN X.K X.mg ziG):=(zbW hc).imp <| by
 rintro vs H Q ⟨G,ds,Q0,X0,g,rds,hr,hk⟩;obtain⟨d,rfl,hr'⟩:=z1d hr;obtain⟨v,rfl,rd⟩:=rds1 rds;obtain⟨ns,rfl,hne,q⟩:=hr';obtain⟨a,xs,rfl,h1,h2⟩:=z1u rd;rw[z7U h2] at h1;exact⟨G,a,ns,rfl,g,h1,hne,λm h3 h4=>hk.now g (q m h3 h4) RD.int'⟩
def zbU (hc:X.calm=true):z0w X (.builtin "sum") (λvs H Q=>∃(G:Hp) (a:Addr) (ns:List Int),vs=[.ref a]/\Same G H/\SqT X.K G a (ns.map V.int)/\Q (.int ns.sum) H):=by
 rintro pins s σ H xs us Q I rv ⟨G,a,ns,e,g,hS,q⟩;subst e;obtain⟨u,rfl,rx⟩:=z2O rv
 cases rx
 have hh:X.A.handled=none:=I.ok.hd hc;obtain⟨its,rr,pl,_⟩:=I.tuple (z0y g hS);obtain⟨l,rfl,hl⟩:=z4M ns rr;have hll:l.length=ns.length:=by rw[<- hl,wd]
 obtain⟨o,ho,hc',n,hd⟩:=id pl;have ha:a<s.heap.objs.size:=wo ho;refine call_sum_walkG (uL pl ⟨_,_,_,_,_,_,λi=>ns.getD i 0,rfl,Walks.tuple (prog:=X.prog) (w:=X.w) (A:=X.A.in1) (show X.A.in1.handled=none from by simp[hh]) s.heap.objs.size a (wz ha) (l.map λp=>Value.int p.1 p.2).toArray,⟨⟨_,wn _ rfl,rfl,rfl⟩,⟨o,we _ ho,hc',n,hd⟩⟩,λb hb =>?_,λi v e =>?_,λh' tk t' hk =>?_⟩)
 .rw[vE];simp only[wg,wA,vS] at hb
  rcases hb with e | e
  .rw[e];exact ue _
  .rw[e];exact vN ha
 .have e':(l.map λp=>Value.int p.1 p.2)[i]? = some v:=by simpa using e
  rw[wG] at e'
  cases z:l[i]? with
  | none=>rw[z] at e';cases e'
  | some p=>
   rw[z] at e'
   cases e'
   exact⟨p.2,by dsimp only;rw[ug, <- hl,wG,z];rfl⟩
 .refine⟨.int _,H,I.kept (t':=tk) λb o e=>hk b o ?_ (we _ e),⟨t',rfl⟩,?_⟩
  .simp only[wt];exact wz (wo e)
  .rw[preSum_getD,v3 (by simp;lia)];exact q
def zla (d:D)(Q:DK):Prop:=∃ns:List Int,d = .tup (ns.map .int)/\Q (.int ns.sum)
def ziF:Fn:=fn1 zla λd Q Q' m ⟨ns,e,h⟩=>⟨ns,e,m _ h⟩
def zbP (hc:X.calm=true):z0w X (.builtin "sum") (rN X.K X.mg ziF):=(zbU hc).imp <| by
 rintro vs H Q ⟨G,ds,Q0,X0,g,rds,hr,hk⟩;obtain⟨d,rfl,hr'⟩:=z1d hr;obtain⟨v,rfl,rd⟩:=rds1 rds;obtain⟨ns,rfl,q⟩:=hr';obtain⟨a,xs,rfl,h1,h2⟩:=z1u rd;rw[z7U h2] at h1;exact⟨G,a,ns,rfl,g,h1,hk.now g q RD.int'⟩
end
end Pu
namespace Pu
open PySem L2
def z0c:Fn:=Fn.mkN 1 1 (.ret (.and (.op (pIsi "tuple") [.v 0]) (.op pEq [.op pLen [.v 0],.c (.int 2)])))
def z09:Fn:=Fn.mkN 1 1 (.ret (.and (.op (pIsi "int") [.v 0]) (.not (.op (pIsi "bool") [.v 0]))))
def z1i:Fn:=Fn.mkN 2 4 (.seq (.for_ [] (.tp [2,3]) (.op z3l [.v 0]) (.ifs (.op z1U [.v 1,.v 2,.v 3]) (.ret (.v 2)) .skip))
 (.ret (.c .non)))
def z3k:Fn:=Fn.mkN 2 2 (.ret (.op pTup [.op pSub [.op pIx [.v 1,.c (.int 0)],.op z0h [.op pIx [.v 0,.c (.int 0)],.op pIx [.v 1,.c (.int 2)]]],.op pSub [.op pIx [.v 1,.c (.int 1)],.op z0h [.op pIx [.v 0,.c (.int 1)],.op pIx [.v 1,.c (.int 2)]]]]))
def z2h:Fn:=Fn.mkN 2 5 (.seq (.set 2 (.op z0q [.op pIx [.v 0,.c (.int 0)],.op pIx [.v 0,.c (.int 1)]]))
 (.seq (.set 3 (.op z0h [.op z1K [.v 2,.v 2],.op pIx [.v 1,.c (.int 2)]]))
 (.seq (.set 4 (.op z1K [.op z3k [.op pIx [.v 0,.c (.int 0)],.v 1],.v 2]))
 (.ret (.op pTup [.op pSub [.v 3,.v 4],.v 4])))))
def z0A:Fn:=Fn.mkN 2 8 (.seq (.set 2 (.op z0q [.op pIx [.v 0,.c (.int 0)],.op pIx [.v 0,.c (.int 1)]]))
 (.seq (.set 3 (.op z0q [.op pIx [.v 0,.c (.int 0)],.op pIx [.v 0,.c (.int 2)]]))
 (.seq (.set 4 (.op z3k [.op pIx [.v 0,.c (.int 0)],.v 1]))
 (.seq (.set 5 (.op z0h [.op z1m [.v 2,.v 3],.op pIx [.v 1,.c (.int 2)]]))
 (.seq (.set 6 (.op z1m [.v 4,.v 3]))
 (.seq (.set 7 (.op z1m [.v 2,.v 4]))
 (.ret (.op pTup [.op pSub [.op pSub [.v 5,.v 6],.v 7],.v 6,.v 7]))))))))
def z1e:Fn:=Fn.mkN 2 4 (.seq (.set 2 (.c (.int 2)))
 (.seq (.set 3 (.sl (.v 0) none (some (.c (.int 3)))))
 (.seq (.wh (.op pLt [.op ziG [.op z0A [.v 3,.v 1]],.c (.int 0)]) (.seq (.set 2 (.op pAdd [.v 2,.c (.int 1)]))
 (.set 3 (.op pTup [.op pIx [.v 0,.c (.int 0)],.op pIx [.v 0,.op pSub [.v 2,.c (.int 1)]],.op pIx [.v 0,.v 2]]))))
 (.ret (.v 3)))))
def z4H:Fn:=Fn.mkN 2 3 (.seq (.ifs (.op pEq [.v 1,.c (.int 0)]) .never .skip)
 (.seq (.set 2 (.op z0g [.v 1,.v 0]))
 (.seq (.ifs (.op pLt [.v 1,.c (.int 0)]) (.set 2 (.op pNeg [.v 2])) .skip)
 (.ret (.op pTup [.op z21 [.v 0,.v 2],.op z21 [.v 1,.v 2]])))))
def z0N:Fn:=Fn.mkN 3 5 (.seq (.set 3 (.op ziF [.v 2]))
 (.seq (.set 4 (.comp 2 [3,0] (.tp [0,1]) (.op z9B [.v 1,.v 2]) (some (.op pGt [.v 1,.c (.int 0)])) (.op pTup [.op zaU [.v 3,.v 0],.op z4H [.v 1,.v 2]])))
 (.ret (.op z1N [.op zem [.v 4]]))))
def z2G:Fn:=Fn.mkN 2 6 (.seq (.set 2 (.op z05 [.v 0]))
 (.seq (.set 3 (.op z1i [.v 2,.v 1]))
 (.seq (.ifs (.op z8G [.v 3,.c .non]) (.ret (.op pTup [.c (.str "barred"),.v 3])) .skip)
 (.seq (.set 4 (.v 2))
 (.seq (.set 5 (.op pTup [.c (.int 1)]))
 (.seq (.ifs (.op pEq [.op pLen [.v 2],.c (.int 2)]) (.set 5 (.op z2h [.v 4,.v 1])) .skip)
 (.seq (.ifs (.op pGt [.op pLen [.v 2],.c (.int 2)]) (.seq (.set 4 (.op z1e [.v 2,.v 1]))
 (.set 5 (.op z0A [.v 4,.v 1]))) .skip)
 (.ret (.op pTup [.c (.str "sailed"),.op z0N [.v 0,.v 4,.v 5]])))))))))
end Pu
namespace Geo
def zb7 {a b c d:Int}(ha:0<a)(hb:0<=b)(hc:c<0)(hd:0<=d)(e:a*b=c*d):d=0:=by
 have h1:=wR (vi ha) hb;have h2:=vm (vi hc) hd;have h3:c*d=0:=by lia
 rcases wV.mp h3 with z | z
 .lia
 .exact z
def sqp {a b:Int}(h:¬ (a=0/\b=0)):0<a*a+b*b:=by
 have sq:∀x:Int,0<=x*x:=λx=>by
  rcases Int.le_total 0 x with z | z
  .exact wR z z
  .exact uF z z
 have h1:=sq a;have h2:=sq b
 rcases jd (Int.add_nonneg h1 h2) with z | z
 .exact z
 .exfalso
  have z1:a*a=0:=by omega
  have z2:b*b=0:=by omega
  have y1:=wV.mp z1;have y2:=wV.mp z2;exact h ⟨by lia,by lia⟩
def zjh {S:P->Prop}{a b o c:P}(e1:Edge S a b)(e2:Edge S o c)(ha:a≠o)(hb:b≠o):0<cr a b o:=by
 rcases jd (e1.left o e2.sa) with z | z
 .exact z
 exfalso
 have z:=z.symm;have bt:=e1.btw o e2.sa z;have np:=((zeR e1.ne).mp ⟨z,bt.1,bt.2⟩).2.2;have la:=e2.left a e1.sa;have lb:=e2.left b e1.sb;have ba:=e2.btw a e1.sa;have bb:=e2.btw b e1.sb;have nc:=e2.ne;obtain⟨a1,a2⟩:=a;obtain⟨b1,b2⟩:=b;obtain⟨o1,o2⟩:=o;obtain⟨c1,c2⟩:=c;simp only[cr,dot] at z np la lb ba bb;have ha':¬ (a1 - o1=0/\a2 - o2=0):=λw=>ha (uf (by simp;lia) (by simp;lia));have hb':¬ (b1 - o1=0/\b2 - o2=0):=λw=>hb (uf (by simp;lia) (by simp;lia));have hc':¬ (c1 - o1=0/\c2 - o2=0):=λw=>nc (uf (by simp;lia) (by simp;lia));have z':(a1 - o1)*(b2 - o2) - (a2 - o2)*(b1 - o1)=0:=by rw[<- z];grind
 clear z ha hb nc bt e1 e2;generalize a1 - o1=u1 at*;generalize a2 - o2=u2 at*;generalize b1 - o1=v1 at*;generalize b2 - o2=v2 at*;generalize c1 - o1=s1 at*;generalize c2 - o2=s2 at*;have U:=sqp ha';have V:=sqp hb';have C:=sqp hc';have lag:(u1*v1+u2*v2)*(u1*v1+u2*v2)+(u1*v2 - u2*v1)*(u1*v2 - u2*v1)=(u1*u1+u2*u2)*(v1*v1+v2*v2):=by grind
 have i1:(u1*u1+u2*u2)*(s1*v2 - s2*v1)=(u1*v1+u2*v2)*(s1*u2 - s2*u1)+(u1*v2 - u2*v1)*(s1*u1+s2*u2):=by grind
 have i2:(u1*u1+u2*u2)*(v1*s1+v2*s2)=(u1*v1+u2*v2)*(u1*s1+u2*s2) - (u1*v2 - u2*v1)*(s1*u2 - s2*u1):=by grind
 have i3:(u1*s1+u2*s2)*(u1*s1+u2*s2)+(s1*u2 - s2*u1)*(s1*u2 - s2*u1)=(u1*u1+u2*u2)*(s1*s1+s2*s2):=by grind
 rw[z',jl,uw] at lag i1;rw[z',jl,Int.sub_zero] at i2;have UV:=vz U V;have neg:u1*v1+u2*v2<0:=by
  rcases jd np with w | w
  .exact w
  .rw[w] at lag;lia
 have k1:s1*u2 - s2*u1=0:=zb7 U lb neg la i1;have k1':s1*v2 - s2*v1=0:=by
  rw[k1,Int.mul_zero] at i1
  rcases wV.mp i1 with w | w
  .lia
  .exact w
 have k2:=(ba k1).1;have k3:=(bb k1').1;have k4:u1*s1+u2*s2=0:=zb7 U k3 neg k2 i2;rw[k1,k4] at i3;have:=vz U C;lia
def Qa (a b:P)(x y t:Int):Int:=(b.1 - a.1)*(y - a.2*t) - (b.2 - a.2)*(x - a.1*t)
def zbE (a b:P)(x y t:Int):Qa b a x y t = -Qa a b x y t:=by simp[Qa];grind
def z7s {h:List P}(nd:h.Nodup){i j:Nat}(hi:i<h.length)(hj:j<h.length)(ne:i≠j):cy h i≠cy h j:=λe=>by
 have g1:=z1k (h:=h) (i:=i) (by lia);have g2:=z1k (h:=h) (i:=j) (by lia);rw[wU hi] at g1;rw[wU hj] at g2;have e1:h[i]=h[j]:=by
  simp_all
 rcases Nat.lt_or_gt_of_ne ne with z | z
 .exact(vA.mp nd i j hi hj z) e1
 .exact(vA.mp nd j i hj hi z) e1.symm
def zdH {S:P->Prop}{h:List P}(x:z08 S h){k:Nat}(h1:1<=k)(h2:k+1<h.length):0<cr (cy h k) (cy h (k+1)) (cy h 0):=
 zjh (z35 x (by lia) k) (z35 x (by lia) 0) (z7s x.nodup (by lia) (by lia) (by lia)) (z7s x.nodup (by lia) (by lia) (by lia))
end Geo
namespace Pu
open PySem L2 Mth
def cyw {h:List P}{n:Nat}(hn:h≠[])(hb:Wb n h)(k:Nat):Vb n (Geo.cy h k):=hb _ (wD (z1k (vd.mpr hn)))
def zah {h:List P}(hn:h≠[])(hb:Wb 600 h){s:P × P}(hs:s∈z0K h):Vb 700 s.1:=by
 unfold z0K at hs
 split at hs
 .obtain⟨b,hb',rfl⟩:=wj.mp hs;unfold ways at hb';simp[wg,wA,vS] at hb'
  rcases hb' with rfl | rfl | rfl | rfl <;> exact⟨Bt.le (m:=1) (z0d (by dsimp only;decide)),Bt.le (m:=1) (z0d (by dsimp only;decide))⟩
 .obtain⟨j,_,hs⟩:=List.mem_flatMap.mp hs;obtain⟨a1,a2⟩:=cyw hn hb (j+h.length - 1);obtain⟨c1,c2⟩:=cyw hn hb j;have d1:Bt 601 _:=Bt.le (Bt.sub c1 a1);have d2:Bt 601 _:=Bt.le (Bt.sub c2 a2)
  rcases wg.mp hs with rfl | hs
  .exact⟨d2.le,Bt.le (Bt.neg d1)⟩
  .split at hs
   .rw[wt.mp hs];exact⟨d1.le,d2.le⟩
   .cases hs
def Wthn (h:List P)(x y t:Int):Prop:=∀s∈z0K h,dot (x,y) s.1<=dot s.2 s.1*t
def zat {l h:List P}{x y t:Int}{Q:DK}{X:XP}(hh:z08 (· ∈ l) h)(hb:Wb 600 h)(hz:h.length<=62)(pc:Pc x y t)
  (q1:∀b,b≠(0,0)->Vb 700 b->(∀p∈l,dot p b*t<dot (x,y) b)->Q (vec b)) (q2:Wthn h x y t->Q .non):z1i.run [vecs h,pcD x y t] Q X:=by
 obtain⟨m,tl,em,_⟩:=hh.ex;have hn:h≠[]:=by rw[em];simp
 walk_at "fn";ac_nf;refine z9o (.inl rfl) hb.le hn (by lia) λh' hh' =>?_;have self:z08 (· ∈ h) h:=hh.of (λp hp=>hh.sub p hp) λp hp=>hp;obtain rfl:h'=h:=(hh'.is hn).unique self;ac_nf;refine z0I (f:=zf3) (λdn ρ=>∃x2 x3:B,(∀s∈dn,dot (x,y) s.1<=dot s.2 s.1*t)/\ρ=[.s (vecs h'),.s (pcD x y t),x2,x3]) ⟨_,_,by simp,rfl⟩ ?_ ?_
 .rintro dn s r ρ e ⟨x2,x3,hd,rfl⟩;have hs:s∈z0K h':=by rw[e];simp
  have sb:=zah hn hb hs;obtain⟨s2,sf⟩:=z8A hh hs;refine⟨rfl,?_⟩;show Sm.run _ _ _ _ _;unfold z0G z0G z0G;ac_rfl;ac_nf;refine zcx pc sb (zdJ hb sb (wj.mpr ⟨s.2,s2,rfl⟩)) ?_;refine z1v (λz =>?_) (λz =>?_)
  .ac_nf;refine q1 s.1 (zf2 hh hs) sb λp hp =>?_;have:=vY (sf p hp) (vi pc.pos);lia
  .ac_nf;refine⟨_,_,λs' hs' =>?_,rfl⟩
   rcases wZ.mp hs' with hs' | hs'
   .exact hd s' hs'
   .rw[wt.mp hs'];lia
 rintro ρ ⟨x2,x3,hd,rfl⟩;ac_nf;exact q2 hd
def z7J {h:List P}{x y t:Int}(hl:2<=h.length)(w:Wthn h x y t){k:Nat}(hk:k<h.length):0<=Qa (Geo.cy h k) (Geo.cy h (k+1)) x y t:=by
 have key:∀j,j<h.length->0<=Qa (Geo.cy h (j+h.length - 1)) (Geo.cy h j) x y t:=λj hj=>by
  have:=w _ (z2t (by lia) hj (wv ..));simp only[dot,rt,stp] at this;simp only[Qa]
  grind
 rcases wJ (k+1) h.length with z | z
 .have:=key (k+1) z;rw[show k+1+h.length - 1=k+h.length by lia] at this
  rwa [show Geo.cy h (k+h.length)=Geo.cy h k by unfold Geo.cy;rw[ua]] at this
 .have:=key 0 (by lia);rw[show 0+h.length - 1=k by lia] at this
  rwa [show Geo.cy h 0=Geo.cy h (k+1) by unfold Geo.cy;rw[show k+1=h.length by lia,Nat.mod_self,Nat.zero_mod]] at this
def z8B {a:P}{x y t:Int}{Q:DK}{X:XP}(ha:Vb 600 a)(pc:Pc x y t)(q:Q (vec (x - a.1*t,y - a.2*t))):z3k.run [vec a,pcD x y t] Q X:=by
 obtain⟨pos,bx,bY,bt',_⟩:=pc;obtain⟨a1,a2⟩:=ha;walk_at "fn";ac_nf;exact q
def ze0 {a:P}{x y t:Int}(ha:Vb 600 a)(pc:Pc x y t):Vb 900 (x - a.1*t,y - a.2*t):=⟨Bt.le (Bt.sub pc.bx (Bt.mul ha.1 pc.bt)),Bt.le (Bt.sub pc.bY (Bt.mul ha.2 pc.bt))⟩
def z5G {a b:P}(ha:Vb 600 a)(hb:Vb 600 b):Vb 601 (b.1 - a.1,b.2 - a.2):=⟨Bt.le (Bt.sub hb.1 ha.1),Bt.le (Bt.sub hb.2 ha.2)⟩
def zh9 {a b c:P}{x y t:Int}{Q:DK}{X:XP}(ha:Vb 600 a)(hb:Vb 600 b)(hc:Vb 600 c)(pc:Pc x y t)(q:Q (.tup ([Qa b c x y t,Qa c a x y t,Qa a b x y t].map .int))):z0A.run [vecs [a,b,c],pcD x y t] Q X:=by
 have vo:=z5G ha hb;have vt:=z5G ha hc;have vw:=ze0 ha pc;have bt':=pc.bt;walk_at "fn";ac_nf;refine z1L ?_;ac_nf;refine z1L ?_;ac_nf;refine z8B ha pc ?_;ac_nf;refine z2T ⟨vo.1.le,vo.2.le⟩ ⟨vt.1.le,vt.2.le⟩ ?_;have bw:Bt 1203 ((b.1 - a.1)*(c.2 - a.2) - (b.2 - a.2)*(c.1 - a.1)):=Bt.le (Bt.sub (Bt.mul vo.1 vt.2) (Bt.mul vo.2 vt.1));ac_nf;refine z2T ⟨vw.1.le,vw.2.le⟩ ⟨vt.1.le,vt.2.le⟩ ?_;ac_nf;refine z2T ⟨vo.1.le,vo.2.le⟩ ⟨vw.1.le,vw.2.le⟩ ?_;ac_nf;have e1:((b.1 - a.1)*(c.2 - a.2) - (b.2 - a.2)*(c.1 - a.1))*t - ((x - a.1*t)*(c.2 - a.2) - (y - a.2*t)*(c.1 - a.1)) - ((b.1 - a.1)*(y - a.2*t) - (b.2 - a.2)*(x - a.1*t))=Qa b c x y t:=by simp only[Qa];grind
 have e2:(x - a.1*t)*(c.2 - a.2) - (y - a.2*t)*(c.1 - a.1)=Qa c a x y t:=by simp only[Qa];grind
 have e3:(b.1 - a.1)*(y - a.2*t) - (b.2 - a.2)*(x - a.1*t)=Qa a b x y t:=rfl;rw[e1,e2,e3];exact q
structure Fan (h:List P)(x y t:Int)(k:Nat):Prop where
 lo:1<=k
 hi:k+1<h.length
 a:0<=Qa (Geo.cy h k) (Geo.cy h (k+1)) x y t
 b:0<=Qa (Geo.cy h (k+1)) (Geo.cy h 0) x y t
 c:0<=Qa (Geo.cy h 0) (Geo.cy h k) x y t
def zjZ {h:List P}(h3:3<=h.length):h.take 3=[Geo.cy h 0,Geo.cy h 1,Geo.cy h 2]:=by
 match h,h3 with
 | a::b::c::r,_=>
  rfl
def zcy {h:List P}{x y t:Int}{Q:DK}{X:XP}(hb:Wb 600 h)(h3:3<=h.length)(hz:h.length<=62)(pc:Pc x y t)(w:Wthn h x y t)
  (q:∀k,Fan h x y t k->Q (vecs [Geo.cy h 0,Geo.cy h k,Geo.cy h (k+1)])):z1e.run [vecs h,pcD x y t] Q X:=by
 have hn:h≠[]:=List.ne_nil_of_length_pos (by lia);have ew:=λ{k:Nat}(hk:k<h.length)=>z7J (by lia) w hk;have elast:0<=Qa (Geo.cy h (h.length - 1)) (Geo.cy h 0) x y t:=by
  have:=ew (k:=h.length - 1) (by lia)
  rwa [show Geo.cy h (h.length - 1+1)=Geo.cy h 0 by unfold Geo.cy;rw[show h.length - 1+1=h.length by lia,Nat.mod_self,Nat.zero_mod]] at this
 have c3:cutD (h.map vec) none (some 3)=(h.take 3).map vec:=by
  rw[z36,show HT.sIx h.length h.length (some (3:Int))=min 3 h.length by
   show (if (3:Int)<0 then ((3:Int)+(h.length:Int)).toNat else min (3:Int).toNat h.length)=_;rw[if_neg (by decide)]
   rfl]
  show (h.take (min 3 h.length)).map vec=_;rw[show min 3 h.length=3 by lia]
 walk_at "fn";ac_nf;rw[c3,zjZ h3];ac_nf;refine z45 (z4L (λρ=>∃k:Nat,1<=k/\k+1<h.length/\0<=Qa (Geo.cy h 0) (Geo.cy h k) x y t/\ρ=[.s (vecs h),.s (pcD x y t),.s (.int ((k:Int)+1)),.s (vecs [Geo.cy h 0,Geo.cy h k,Geo.cy h (k+1)])]) (λρ=>(100 - nI ρ 2).toNat) ⟨1,by lia,by lia,ew (k:=0) (by lia),rfl⟩ ?_);rintro ρ ⟨k,k1,k2,hc,rfl⟩;have ha:=ew (k:=k) (by lia);ac_nf;refine zh9 (cyw hn hb _) (cyw hn hb _) (cyw hn hb _) pc ?_;refine⟨_,rfl,by simp,λm hm hle =>?_⟩;ac_nf;have l2:=hle _ (wm _ (wv ..));refine z1v (λz =>?_) (λz =>?_)
 .have hb':Qa (Geo.cy h (k+1)) (Geo.cy h 0) x y t<0:=by
   simp only[wg,wA,vS] at hm;lia
  have ne:k+1≠h.length - 1:=λe=>by rw[e] at hb';lia
  have hc':0<=Qa (Geo.cy h 0) (Geo.cy h (k+1)) x y t:=by rw[zbE];lia
  ac_nf;refine z1c (z0D (z8j (k:=0) (by lia))) ?_;ac_nf;rw[show (k:Int)+1+1 - 1=((k+1:Nat):Int) by lia];refine z1c (z0D (z8j (k:=k+1) (by lia))) ?_;ac_nf;rw[show (k:Int)+1+1=((k+2:Nat):Int) by lia];refine z1c (z0D (z8j (k:=k+2) (by lia))) ?_;ac_nf;refine⟨⟨k+1,by lia,by lia,hc',rfl⟩,?_⟩;show (100 - ((k+2:Nat):Int)).toNat<(100 - ((k:Int)+1)).toNat
  lia
 .ac_nf;refine q k ⟨k1,k2,ha,by lia,hc⟩
def zcu {p W:Int}{Q:DK}{X:XP}(hW:0<W)(bW:Bt 1400 W)(q:Q (vec (p / (Int.gcd p W:Int),W / (Int.gcd p W:Int)))):z4H.run [.int p,.int W] Q X:=by
 obtain⟨g0,_,_,_,_⟩:=z4h hW;have gW:(Int.gcd p W)<=W:=Int.le_of_dvd hW (jt ..);have bg:Bt 9000 (Int.gcd p W:Int):=Bt.le (bW.of_abs (by lia));walk_at "fn";refine t_no (by lia) ?_;ac_nf;refine z62 ?_;rw[Int.gcd_comm];ac_nf;refine t_no (by lia) ?_;ac_nf;exact q
def idx (l:List P)(c:P):Nat:=l.findIdx λp=>decide (p=c)
def z6p {l:List P}{c:P}(h:c∈l):l[idx l c]? = some c:=by
 have h1:idx l c<l.length:=List.findIdx_lt_length_of_exists ⟨c,h,by simp⟩;rw[wq h1];have:=List.findIdx_getElem (w:=h1);exact congrArg _ (v8 this)
def z8X {l:List P}{c:P}(h:c∈l):idx l c<l.length:=List.findIdx_lt_length_of_exists ⟨c,h,by simp⟩
def zgi {l:List P}{c d:P}(hc:c∈l)(hd:d∈l)(e:idx l c=idx l d):c=d:=by
 have h1:=z6p hc;rw[e,z6p hd] at h1
 simp_all
def zjB {l:List P}{c:P}(h:c∈l):Geo.cy l (idx l c)=c:=by
 have h1:=z6p h;have h2:=z1k (h:=l) (i:=idx l c) (by have:=z8X h;lia);rw[wU (z8X h),h1] at h2;exact(w5 h2).symm
def zg2 {l:List P}{c:P}{Q:DK}{X:XP}(h:c∈l)(q:Q (.int (idx l c:Int))):zaU.run [vecs l,vec c] Q X:=by
 refine⟨Da.vec c,λd hd =>?_,⟨vec c,u8 h,by rw[z33];simp⟩,λi d e1 e2 e3 =>?_⟩
 .obtain⟨p,_,rfl⟩:=wj.mp hd;exact Da.vec p
 .rw[wG] at e1
  cases z:l[i]? with
  | none=>simp_all
  | some p=>
   rw[z] at e1
   cases e1
   rw[z33] at e2;have ep:=v8 e2;subst ep;have:i=idx l p:=by
    rcases uj i (idx l p) with w | w | w
    .have hi  := Nat.lt_trans w (z8X h);have:=List.not_of_lt_findIdx (w)
     simp_all
    .exact w
    .have:=e3 (idx l p) (vec p) w (by rw[wG,z6p h];rfl);rw[z33] at this;simp at this
   simp_all
def shOf (l:List P)(W:Int)(x:P × Int):Sh:=(idx l x.1,x.2 / (Int.gcd x.2 W:Int),W / (Int.gcd x.2 W:Int))
def rwOf (l:List P)(W:Int)(x:P × Int):Int × D:=((idx l x.1:Int),vec (x.2 / (Int.gcd x.2 W:Int),W / (Int.gcd x.2 W:Int)))
def back:Int × D->Sh
 | (n,.tup [.int a,.int b])=>(n.toNat,a,b)
 | (n,_)=>(n.toNat,0,1)
def z6D (l:List P)(W:Int)(x:P × Int):back (rwOf l W x)=shOf l W x:=by
 rfl
def z72 {f:Sh->Int}{a b:List Sh}(h:a.Perm b):(a.map f).sum=(b.map f).sum:=by
 induction h with
 | nil=>rfl
 | cons x _ ih=>simp[ih]
 | swap x y l=>simp;lia
 | trans _ _ i1 i2=>rw[i1,i2]
theorem z91 {f:P × Int->Int}:∀{l:List (P × Int)},(∀x∈l,0<=x.2)->(∀x,x.2=0->f x=0)->((l.filter λx=>decide (0<x.2)).map f).sum=(l.map f).sum
 | [],_,_=>rfl
 | x::l,h,hf=>by
  have ih:=z91 (l:=l) (λy hy=>h y (by simp[hy])) hf;rw[List.filter_cons]
  split
  .simp_all
  .rename_i z
   have h0:=h x (by simp);have:x.2=0:=by simp at z;lia
   rw[wE,vh,hf x this,Int.zero_add,ih]
def zj1 {l m:List D}{Q:DK}{X:XP}(q:Q (.lst ((l.zip m).map λp =>.tup [p.1,p.2]))):z9B.run [.tup l,.tup m] Q X:=q
def zhb {a b:P}{x y t:Int}{Q:DK}{X:XP}(ha:Vb 600 a)(hb:Vb 600 b)(pc:Pc x y t)
  (q:Q (.tup ([((b.1 - a.1)*(b.1 - a.1)+(b.2 - a.2)*(b.2 - a.2))*t - ((x - a.1*t)*(b.1 - a.1)+(y - a.2*t)*(b.2 - a.2)),(x - a.1*t)*(b.1 - a.1)+(y - a.2*t)*(b.2 - a.2)].map .int))):z2h.run [vecs [a,b],pcD x y t] Q X:=by
 have vo:=z5G ha hb;have vw:=ze0 ha pc;have bt':=pc.bt;walk_at "fn";ac_nf;refine z1L ?_;ac_nf;refine z3J ⟨vo.1.le,vo.2.le⟩ ⟨vo.1.le,vo.2.le⟩ ?_;have bw:Bt 1203 _:=Bt.le (Bt.add (Bt.mul vo.1 vo.1) (Bt.mul vo.2 vo.2));ac_nf;refine z8B ha pc ?_;ac_nf;refine z3J ⟨vw.1.le,vw.2.le⟩ ⟨vo.1.le,vo.2.le⟩ ?_;ac_nf;exact q
abbrev swD (sh:List Sh):D :=.tup [.str (Str.ofString "sailed"),.tup (sh.map shD)]
abbrev brD (b:P):D :=.tup [.str (Str.ofString "barred"),vec b]
structure Prt (l:List P)(x y t:Int)(xs:List (P × Int)):Prop where
 mem:∀z∈xs,z.1∈l
 nd:(xs.map (·.1)).Nodup
 few:xs.length<=3
 nn:∀z∈xs,0<=z.2
 pos:0<(xs.map (·.2)).sum
 bt:Bt 1400 (xs.map (·.2)).sum
 ex:(xs.map λz=>z.1.1*z.2).sum*t=(xs.map (·.2)).sum*x
 ey:(xs.map λz=>z.1.2*z.2).sum*t=(xs.map (·.2)).sum*y
def zfJ {l:List P}{m:P}{x y t:Int}(hm:m∈l)(w:Wthn [m] x y t):Prt l x y t [(m,1)]:=by
 have f  := λb hb=>w (b,m) (by
  exact wj.mpr ⟨b,hb,rfl⟩)
 have f1:=f (1,0) (by decide);have f2:=f (0,1) (by decide);have f3:=f (-1,0) (by decide);have f4:=f (0,-1) (by decide);simp[dot,Int.neg_mul] at f1 f2 f3 f4;have g1:m.1*t=x:=by lia
 have g2:m.2*t=y:=by omega
 exact⟨by simpa using hm,by simp,by simp,by simp,by simp,by simpa using z0d (wB (by decide:(1:Int).natAbs<2 ^ 1) (jx (by decide) (by decide))),by simpa using g1,by simpa using g2⟩
def zfI {S:P->Prop}{l:List P}{a b:P}{x y t:Int}(pc:Pc x y t)(hh:z08 S [a,b])(ha:a∈l)(hb:b∈l)(va:Vb 600 a)(vb:Vb 600 b)(w:Wthn [a,b] x y t):
  Prt l x y t [(a,((b.1 - a.1)*(b.1 - a.1)+(b.2 - a.2)*(b.2 - a.2))*t - ((x - a.1*t)*(b.1 - a.1)+(y - a.2*t)*(b.2 - a.2))),(b,(x - a.1*t)*(b.1 - a.1)+(y - a.2*t)*(b.2 - a.2))]:=by
 have nd:=hh.nodup;have ne:a≠b:=λe=>by rw[e] at nd;simp at nd
 have e1:=z7J (h:=[a,b]) (by simp) w (k:=0) (by simp);have e2:=z7J (h:=[a,b]) (by simp) w (k:=1) (by simp);have e1:0<=Qa a b x y t:=e1;have c2:Geo.cy [a,b] 2=a:=by simp[Geo.cy]
 have e2:0<=Qa b a x y t:=by rw[show (1+1:Nat)=2 from rfl,c2] at e2;exact e2
 rw[zbE] at e2;have e0:Qa a b x y t=0:=by lia
 have k1:=w (stp a b,b) (z2t (by simp) (j:=1) (by simp) (by unfold z0s;rw[if_pos (show [a,b].length=2 from rfl),show 1+[a,b].length - 1=2 from rfl,c2];exact wm _ (wt.mpr rfl)));have k2:=w (stp b a,a) (z2t (by simp) (j:=0) (by simp) (by unfold z0s;rw[if_pos (show [a,b].length=2 from rfl)];exact wm _ (wt.mpr rfl)));have vo:=z5G va vb;have pos:=pc.pos;have sq:0<(b.1 - a.1)*(b.1 - a.1)+(b.2 - a.2)*(b.2 - a.2):=sqp λz=>ne (uf (by lia) (by lia));have sm:((b.1 - a.1)*(b.1 - a.1)+(b.2 - a.2)*(b.2 - a.2))*t - ((x - a.1*t)*(b.1 - a.1)+(y - a.2*t)*(b.2 - a.2))+((x - a.1*t)*(b.1 - a.1)+(y - a.2*t)*(b.2 - a.2))=((b.1 - a.1)*(b.1 - a.1)+(b.2 - a.2)*(b.2 - a.2))*t:=by lia
 simp only[dot,stp] at k1 k2;simp only[Qa] at e0;refine⟨by simp[ha,hb],nd,by simp,?_,?_,?_,?_,?_⟩
 .intro z hz;simp only[wg,wA,vS] at hz
  rcases hz with rfl | rfl
  .show 0<=_ - _
   grind
  .show 0<=_+_
   grind
 .simp only[wE,uN,vh,jq,uw];rw[sm];exact vz sq pos
 .simp only[wE,uN,vh,jq,uw];rw[sm];exact Bt.le (Bt.mul (Bt.add (Bt.mul vo.1 vo.1) (Bt.mul vo.2 vo.2)) pc.bt)
 .simp only[wE,uN,vh,jq,uw];rw[sm]
  grind
 .simp only[wE,uN,vh,jq,uw];rw[sm]
  grind
def zaB {S:P->Prop}{l h:List P}{x y t:Int}{k:Nat}(pc:Pc x y t)(hh:z08 S h)(hm:∀p∈h,p∈l)(hb:Wb 600 h)(F:Fan h x y t k):
  Prt l x y t [(Geo.cy h 0,Qa (Geo.cy h k) (Geo.cy h (k+1)) x y t),(Geo.cy h k,Qa (Geo.cy h (k+1)) (Geo.cy h 0) x y t),(Geo.cy h (k+1),Qa (Geo.cy h 0) (Geo.cy h k) x y t)]:=by
 obtain⟨k1,k2,fa,fb,fc⟩:=F;have hn:h≠[]:=List.ne_nil_of_length_pos (by lia);have tn:=zdH hh k1 k2;have n1:=z7s hh.nodup (i:=0) (j:=k) (by lia) (by lia) (by lia);have n2:=z7s hh.nodup (i:=0) (j:=k+1) (by lia) (by lia) (by lia);have n3:=z7s hh.nodup (i:=k) (j:=k+1) (by lia) (by lia) (by lia);have mm:∀j,Geo.cy h j∈l:=λj=>hm _ (wD (z1k (vd.mpr hn)));have m0:=mm 0;have m1:=mm k;have m2:=mm (k+1);have v0:=cyw hn hb 0;have v1:=cyw hn hb k;have v2:=cyw hn hb (k+1);generalize Geo.cy h 0=a at*;generalize Geo.cy h k=b at*;generalize Geo.cy h (k+1)=c at*;have pos:=pc.pos;have sm:Qa b c x y t+(Qa c a x y t+Qa a b x y t)=Geo.cr b c a*t:=by simp only[Qa,Geo.cr];grind
 refine⟨by simp[m0,m1,m2],by simp[n1,n2,n3],by simp,?_,?_,?_,?_,?_⟩
 .intro z hz;simp only[wg,wA,vS] at hz
  rcases hz with rfl | rfl | rfl
  .exact fa
  .exact fb
  .exact fc
 .simp only[wE,uN,vh,jq,uw];rw[sm];exact vz tn pos
 .simp only[wE,uN,vh,jq,uw];rw[sm];have d1:=z5G v1 v2;have d2:=z5G v1 v0;exact Bt.le (Bt.mul (Bt.sub (Bt.mul d1.1 d2.2) (Bt.mul d1.2 d2.1)) pc.bt)
 .simp only[wE,uN,vh,jq,uw];rw[sm];simp only[Qa,Geo.cr]
  grind
 .simp only[wE,uN,vh,jq,uw];rw[sm];simp only[Qa,Geo.cr]
  grind
end Pu
namespace Rev
open PySem PyProof.Rows
section
variable {prog:Program}{w:World}{A:Around}{E:WvP}{R:Result->Shared->Prop}{r:Addr}{fp wr:List Addr}{G:Array GenState->Array GenState->Prop}{n:Nat}{P:Nat->Value->Prop}{St:Nat->Shared->Prop}{bt:Nat->Nat->Bool}{Ok:Shared->Prop}
def zgy (prog:Program)(w:World)(A:Around)(Ok:Shared->Prop)(P:Nat->Value->Prop)(bt:Nat->Nat->Bool):Prop:=∀(i j:Nat) (x y:Value) (s:Shared) (Q:WvP) (E:WvP),Ok s->P i x->P j y->Q (.bool (bt i j)) s->wpAny (model prog w) A (richCompare .Gt x y) Q E s
def zjn (W:WalksS prog w A.in1 r fp wr G n P St)(cmp:zgy prog w A.in1 Ok P bt)(S:Addr)(out:S ∉ fp)(stay:∀s s',Ok s->Moved (S::wr) G s s'->Ok s'):
  ∀(left at_:Nat) (s:Shared) (best:Value) (c:Nat),n=at_+1+left->St (at_+1) s->Ok s->P (argBest bt at_) best->s.heap.get? S=some { cls :=.type "list",dict:=none,data :=.seq #[best,best] c,slots := #[] }->
   (∀v s',P (argBest bt (n - 1)) v->Moved (S::wr) G s s'->R (.ok (.ret v)) s')->codeAny (model prog w) A (.builtin "max.loop" ⟨[.ref r,.none,.ref S],[]⟩) R s:=by
 have outW:S ∉ wr:=λz=>out (W.sub S z);have more:∀b∈wr,b∈S::wr:=λb z=>wm S z;have apart:∀{b:Addr},b ∉ S::wr->S≠b:=λz e=>z (by subst e;exact wv);have nm:(toString "max"++toString ".loop":String)="max.loop":=by decide
 intro left
 induction left with
 | zero=>
  intro at_ s best c hn st ok hb hS fin;refine ur F.entry_max_loop ?_;rw[vX uI _];refine wc (m:=seqItems? (.ref S)) (vP hS rfl ?_);refine wc (m:=tryCatch (pyNext (.ref r)) _) (wpAny_tryCatch (W.done s _ _ (by rw[hn];exact st) λs1 mv =>?_));have hS1:=mv.heap S _ outW hS;refine wc (m:=updateSeq S λ_ => #[]) (jo hS1 rfl (wc (jE (wf ?_))));refine fin best _ (by rw[hn];exact hb) ((mv.mono more).then_heap (tk:=s1.toks) (wp _) λb o z e =>?_);rw[vk _ _ (apart z)];exact e
 | succ left ih=>
  intro at_ s best c hn st ok hb hS fin;refine ur F.entry_max_loop ?_;rw[vX uI _];refine wc (m:=seqItems? (.ref S)) (vP hS rfl ?_);refine wc (m:=tryCatch (pyNext (.ref r)) _) (wpAny_tryCatch (W.item (at_+1) s _ _ (by lia) st λv s1 pv st1 mv =>?_));have hS1:=mv.heap S _ outW hS;have mv1:=mv.mono more;have ok1:Ok s1:=stay s s1 ok mv1;show wpAny _ A.in1 (tryCatch (holding [v,v] (richCompare .Gt v best >>= _)) _ >>= _) _ _ s1;refine wc (wpAny_tryCatch (vR (wc (cmp (at_+1) (argBest bt at_) v best s1 _ _ ok1 pv hb ?_))));refine wc (vR (jr (wc (jE (wf ?_)))));have step:∀(s2:Shared) (u:Value) (c2:Nat),Moved (S::wr) G s s2->St (at_+2) s2->P (argBest bt (at_+1)) u->s2.heap.get? S=some { cls :=.type "list",dict:=none,data :=.seq #[u,u] c2,slots := #[] }->codeAny (model prog w) A (.builtin "max.loop" ⟨[.ref r,.none,.ref S],[]⟩) R s2:=λs2 u c2 mv2 st2 pu hS2=>
   ih (at_+1) s2 u c2 (by lia) st2 (stay s s2 ok mv2) pu hS2 λx s3 px mv3=>fin x s3 px (Moved.trans W.gtrans mv2 mv3)
  cases hq:bt (at_+1) (argBest bt at_) with
  | true=>
   rw[if_pos rfl];refine wc (jo hS1 rfl (wc (jE ?_)));rw[nm];refine wf ⟨uA uI _,step _ v _ (mv1.then_heap (wp _) λb o z e =>?_) (W.frame _ s1 _ s1.toks st1 (wp _) λb z o e =>?_) (by rw[argBest,hq];exact pv) (vp _ hS1 rfl)⟩
   .rw[vk _ _ (apart z)];exact e
   .rw[vk _ _ λy:S=b=>out (by rw[y];exact z)];exact e
  | false=>
   rw[if_neg (by decide)];refine wc (jE ?_);rw[nm];exact wf ⟨uA uI _,step s1 best c mv1 st1 (by rw[argBest,hq];exact hb) hS1⟩
def zbc (W:WalksS prog w A.in1 r fp wr G n P St)(cmp:zgy prog w A.in1 Ok P bt)(S:Addr)(out:S ∉ fp)(stay:∀s s',Ok s->Moved (S::wr) G s s'->Ok s')(hn:0<n){s:Shared}{c:Nat}(st:St 0 s)(ok:Ok s)
  (hS:s.heap.get? S=some { cls :=.type "list",dict:=none,data :=.seq #[] c,slots := #[] }) (fin:∀v s',P (argBest bt (n - 1)) v->Moved (S::wr) G s s'->R (.ok (.ret v)) s'):codeAny (model prog w) A (.builtin "max.loop" ⟨[.ref r,.none,.ref S],[]⟩) R s:=by
 have outW:S ∉ wr:=λz=>out (W.sub S z);have apart:∀{b:Addr},b ∉ S::wr->S≠b:=λz e=>z (by subst e;exact wv);have nm:(toString "max"++toString ".loop":String)="max.loop":=by decide
 refine ur F.entry_max_loop ?_;rw[vX uI _];refine wc (m:=seqItems? (.ref S)) (vP hS rfl ?_);refine wc (m:=tryCatch (pyNext (.ref r)) _) (wpAny_tryCatch (W.item 0 s _ _ hn st λv s1 pv st1 mv =>?_));have hS1:=mv.heap S _ outW hS;have mv1:=mv.mono λb z=>wm S z;refine wc (m:=updateSeq S λ_ => #[v,v]) (jo hS1 rfl ?_);rw[nm];have mv2:Moved (S::wr) G s { s1 with heap:=s1.heap.update S (Obj.mapSeq λ_ => #[v,v]) }:=mv1.then_heap (wp _) λb o z e=>by rw[vk _ _ (apart z)];exact e
 refine wf ⟨uA uI _,zjn W cmp S out stay (n - 1) 0 _ v _ (by lia) (W.frame _ s1 _ s1.toks st1 (wp _) λb z o e =>?_) (stay _ _ ok mv2) pv (vp _ hS1 rfl) λx s3 px mv3=>fin x s3 px (Moved.trans W.gtrans mv2 mv3)⟩;rw[vk _ _ λy:S=b=>out (by rw[y];exact z)];exact e
def zdo {x:Value}{s:Shared}{Q:WvP}
  (h:wpAny (model prog w) A.in1 (pyIter x) (λit s2=>∃r fp wr G n P St bt Ok,it = .ref r/\WalksS prog w A.in1 r fp wr G n P St/\St 0 s2/\Ok s2/\(∀s s',Ok s->(∀b o,b ∉ wr->b<s2.heap.objs.size->s.heap.get? b=some o->s'.heap.get? b=some o)->Ok s')/\(∀b∈fp,b<s2.heap.objs.size)/\0<n/\zgy prog w A.in1 Ok P bt/\
   ∀v s',P (argBest bt (n - 1)) v->Moved wr G s2 s'->Q v s') E s):wpAny (model prog w) A (call (.builtin "max") [x]) Q E s:=by
 have nm:(toString "max"++toString ".loop":String)="max.loop":=by decide
 refine call_function_tree F.kind_max F.plain_max F.entry_max (F.args_max1 _) ?_;refine wc (m:=Builtin.Builtins.bindParams "max" ["key","default"] 0 ⟨[],[]⟩) (wpAny_of_eq (a:=[none,none]) rfl (wc (wf ?_)));refine wc (w6 h (λit s2 h2 =>?_) λ_ _ e=>e);obtain⟨r,fp,wr,G,n,P,St,bt,Ok,rfl,W,st,ok,stay,low,hn,cmp,fin⟩:=h2;have out:s2.heap.objs.size ∉ fp:=λz=>vj _ (low _ z);refine wc (wW ?_);rw[nm];refine wf ⟨uA uI _,zbc (Ok:=Ok) W cmp s2.heap.objs.size out (λs s' o mv=>stay s s' o λb u hb hl e=>mv.heap b u (λz =>?_) e) hn (W.frame 0 s2 _ s2.toks st (wp _) λb _ o e=>we _ e) (stay s2 _ ok λb o _ _ e=>we _ e) (wn _ rfl) λv s' pv mv=>fin v s' pv (Moved.drop_new (tk:=s2.toks) mv (wp _))⟩
 simp_all
end
end Rev
namespace Pu
open PySem PySem.Spec PyProof.Rows L2 Tab
def LxG (p q:Int × Int):Prop:=q.1<p.1\/p.1=q.1/\q.2<=p.2
def zlc (d:D)(Q:DK):Prop:=∃ps:List (Int × Int),d = .lst (ps.map vec)/\ps≠[]/\ps.length<=1000/\∀m∈ps,(∀x∈ps,LxG m x)->Q (vec m)
def ziH:Fn:=fn1 zlc λd Q Q' m ⟨ps,e,h1,h2,h3⟩=>⟨ps,e,h1,h2,λk a b=>m _ (h3 k a b)⟩
def z6t (d:D)(Q:DK):Prop:=∃ps:List (Int × Int),d = .lst (ps.map vec)/\ps≠[]/\ps.length<=1000/\∀(i:Nat) (m:Int × Int),ps[i]? = some m->(∀x∈ps,LxG m x)->Q (.int (i:Int))
def z8H:Fn:=fn1 z6t λd Q Q' m ⟨ps,e,h1,h2,h3⟩=>⟨ps,e,h1,h2,λi k a b=>m _ (h3 i k a b)⟩
def zjp (a b:Int × Int)(h:HT.z0r [a.1,a.2] [b.1,b.2]=false):LxG a b:=by
 rw[HT.z0M] at h;unfold LxG
 by_cases e:a.1=b.1
 .rw[if_pos e,HT.z0M] at h
  grind
 grind
theorem zc2 (f:Nat->List Int):∀k j,j<=k->HT.z0r (f (argBest (λi j=>HT.z0r (f j) (f i)) k)) (f j)=false
 | 0,j,h=>by
  obtain rfl:j=0:=by lia
  exact Tim.z56 _
 | k+1,j,h=>by
  have ih:=zc2 f k;rw[argBest]
  split
  .rename_i hb
   rcases wJ j (k+1) with z | z
   .cases q:HT.z0r _ _ with
    | false=>rfl
    | true=>have:=ih j (by lia);rw[Tim.z8R hb q] at this;cases this
   .obtain rfl:j=k+1:=by lia
    exact Tim.z56 _
  .rcases wJ j (k+1) with z | z
   .exact ih j (by lia)
   .obtain rfl:j=k+1:=by lia
    simp_all
section
variable {X:Cx}
def zbY (hc:X.calm=true)(hu:X.A.units+64<cLine):z0w X (.builtin "max") (λvs H Q=>∃G a xs ks,vs=[.ref a]/\Same G H/\SqL X.K G a xs/\Tis X.K G xs ks/\ks≠[]/\∀(i:Nat) (b:Addr) (k:List Int),xs[i]? = some (.ref b)->ks[i]? = some k->SqT X.K G b (k.map V.int)->(∀x∈ks,HT.z0r k x=false)->Q (.ref b) H):=by
 rintro pins s σ H xs us Q I rv ⟨G,a,ys,ks,e,g,hS,ht,hne,q⟩;subst e;obtain⟨u,rfl,rx⟩:=z2O rv
 cases rx
 have hh:X.A.handled=none:=I.ok.hd hc;have hu1:X.A.in1.units<cLine:=by
  have:X.A.in1.units<=X.A.units+1:=by simp
  lia
 have hlk:ys.length=ks.length:=za6 ht;have hpos:0<ks.length:=vd.mpr hne;obtain⟨its,rr,pl,_⟩:=I.list (z14 g hS);obtain⟨o,ho,hc',n,hd⟩:=pl.isList;have ha:a<s.heap.objs.size:=wo ho;have hl2:its.length=ks.length:=by rw[<- rr.length,hlk]
 have tuples:∀(i:Nat) (b:Addr) (k:List Int),ys[i]? = some (.ref b)->ks[i]? = some k->SqT X.K G b (k.map V.int):=λi b k e1 e2=>by
  obtain⟨u,e3,ru⟩:=rr.get e1;obtain⟨b',k',e4,e5,e6,h⟩:=z8w ht rr e3;rw[e1] at e4;cases e4;rw[e2] at e5;cases e5;exact h
 let Ok:Shared->Prop:=λs'=>∀(i:Nat) (b:Addr) (k:List Int),ys[i]? = some (.ref b)->ks[i]? = some k->Tim.TI s'.heap (.ref b) k
 have low:∀(i:Nat) (b:Addr) (k:List Int),ys[i]? = some (.ref b)->ks[i]? = some k->b<s.heap.objs.size:=λi b k e1 e2=>by
  obtain⟨o,its,n,h1,_⟩:=z7M I g (tuples i b k e1 e2);exact wo h1
 have keepOk:∀s1 s2:Shared,Ok s1->(∀b o,b≠s.heap.objs.size->b<s.heap.objs.size->s1.heap.get? b=some o->s2.heap.get? b=some o)->Ok s2:=λs1 s2 h k i b key e1 e2=>by
  obtain⟨b',o,its,n,e,h1,h2,h3,h4⟩:=h i b key e1 e2
  cases e
  have hb:=low i b key e1 e2;exact⟨b,o,its,n,rfl,k b o (wz hb) hb h1,h2,h3,h4⟩
 have ok0:Ok s:=λi b k e1 e2=>TK.ti (z7M I g (tuples i b k e1 e2));refine Rev.zdo (wpAny_pyIter_list pl.isList ⟨_,_,_,_,_,_,_,λi j=>HT.z0r ((ks[j]?).getD []) ((ks[i]?).getD []),Ok,rfl,(Walks.list (show X.A.in1.handled=none from by simp[hh]) _ a (wz ha) its.toArray).toS,⟨⟨_,wn _ rfl,rfl,rfl⟩,⟨o,we _ ho,hc',n,hd⟩⟩,keepOk s _ ok0 (λb o _ _ e=>we _ e),λs1 s2 o k=>keepOk s1 s2 o λb u hb hl e=>k b u (by simpa using hb) (by rw[vE];lia) e,λb hb =>?_,by simp;lia,?_,λv s' pv mv =>?_⟩)
 .rw[vE];simp only[wg,wA,vS] at hb
  rcases hb with e | e
  .rw[e];exact ue _
  .rw[e];exact vN ha
 .intro i j x y s1 Q1 E1 ok px py q1;obtain⟨b1,k1,a1,a2,rfl,a4⟩:=z8w ht rr (by simpa using px);obtain⟨b2,k2,c1,c2,rfl,c4⟩:=z8w ht rr (by simpa using py);obtain⟨_,o,it1,n,e,h1,h2,h3,h4⟩:=ok i b1 k1 a1 a2
  cases e
  obtain⟨_,o',it2,n',e',h1',h2',h3',h4'⟩:=ok j b2 k2 c1 c2
  cases e'
  dsimp only at q1;rw[a2,c2] at q1;exact HT.z5Q ⟨o,h1,h2,n,h3⟩ ⟨o',h1',h2',n',h3'⟩ h4 h4' hu1 q1
 .obtain⟨b,k,a1,a2,rfl,a4⟩:=z8w ht rr (by simpa using pv);obtain⟨h',g',d',tk',os'⟩:=s';have eg:g'=s.gens:=mv.gens;have ed:d'=s.drawn:=mv.drawn;have eo:os'=s.os:=mv.os;subst eg;subst ed;subst eo;refine⟨.ref b,H,I.kept (t':=tk') λb o e=>mv.heap b o ?_ (we _ e),rfl,q _ b k a1 a2 a4 λx hx =>?_⟩
  .simp only[wt];exact wz (wo e)
  .obtain⟨j,hj,rfl⟩:=wX.mp hx;have:=zc2 (λi=>(ks[i]?).getD []) (its.length - 1) j (by lia);rw[a2,wq hj] at this;exact this
def zik:∀ps:List (Int × Int),ps.map vec=(ps.map λp=>[p.1,p.2]).map tupD:=λps=>by rw[wK];rfl
def zbS (hc:X.calm=true)(hu:X.A.units+64<cLine):z0w X (.builtin "max") (rN X.K X.mg ziH):=(zbY hc hu).imp <| by
 rintro vs H Q ⟨G,ds,Q0,X0,g,rds,hr,hk⟩;obtain⟨d,rfl,hr'⟩:=z1d hr;obtain⟨v,rfl,rd⟩:=rds1 rds;obtain⟨ps,rfl,hne,hz,q⟩:=hr';obtain⟨a,xs,rfl,h1,h2⟩:=z1C rd;rw[zik] at h2;refine⟨G,a,xs,_,rfl,g,h1,z65 h2,by simpa using hne,λi b k e1 e2 hb hl =>?_⟩;rw[wG] at e2
 cases z:ps[i]? with
 | none=>simp_all
 | some p=>
  rw[z] at e2
  cases e2
  exact hk.now g (q p (wD z) λx hx=>zjp _ _ (hl _ (wj.mpr ⟨x,hx,rfl⟩))) (RD.ofT hb (z4G [p.1,p.2]))
def zcF (X:Cx):V->List V->Hp->VK->Prop:=λx xs H Q=>∃(G:Hp) (a:Addr) (ys:List V) (l:List D) (d:D) (v:V),x = .ref a/\xs=[v]/\Same G H/\SqL X.K G a ys/\RDs X.K X.mg G l ys/\RD X.K X.mg G d v/\Da 60 d/\(∀e∈l,Da 60 e)/\(∃e∈l,deq e d=true)/\l.length<=1000000/\
 ∀(i:Nat) (e:D),l[i]? = some e->deq e d=true->Q (.int (i:Int)) H
def z5z (hu:X.A.units+64<cLine):MtR X "list.index" (zcF X):=by
 rintro pins s σ H x xs v us Q I rx rs ⟨G,a,ys,l,d,w,e1,e2,g,hT,hl,hd,h1,h2,h3,hz,q⟩;subst e1;subst e2
 cases rx
 obtain⟨u,rfl,ru⟩:=rs.one;obtain⟨its,rr,pl,_⟩:=I.list (z14 g hT);obtain⟨e,q1,_,q2⟩:=z7G I g hu hd ru h1 h2 hl rr;obtain⟨⟨cls,dd,data,sl⟩,ho,hc,n,hda⟩:=id pl.isList;simp only at hc hda;subst hc hda;obtain⟨i,x,hi,hx,hno⟩:=z5i (λe=>deq e d) l h3;have il:i<l.length:=by
  rcases wJ i l.length with z | z
  .exact z
  .rw[uq z] at hi;cases hi
 have len:its.length=l.length:=by rw[<- rr.length,hl.len]
 have hj:i<its.toArray.size:=by simpa[len] using il
 have val:∀(m:Nat) (hm:m<its.toArray.size) (y:D),l[m]? = some y->e its.toArray[m]=deq y d:=λm hm y hy=>q2 m _ y (by rw[wq (by simpa using hm)];simp) hy;refine call_meets PySem.F.slot_list_index ⟨_,ho,rfl⟩ PySem.F.entry_list_index (PySem.F.args_list_index_2 _ _) (SeqAt.list_indexAt a its.toArray n dd sl u e i hj (by omega) ((val i hj x hi).trans hx) λm hm hmi =>?_) ⟨ho,λy hy=>q1 y (by simpa using hy),?_⟩
 .have ml:m<l.length:=by omega
  rw[val m hm _ (wq ml)];exact hno m _ hmi (wq ml)
 .exact⟨.int i,H,I.tok _,⟨_,rfl⟩,q i x hi hx⟩
end
section
variable {X:Cx}{E:XK}{o e:Expr}{apos cpos:Pos}{i:Nat}
def z9w (hu:X.A.units+64<cLine)(ho:QE X o (tVar i))(ha:QXA X E [e] [.op ziH [.v i]])
  (hbase:autoParam (attributeBase o "index" X.env (eval o X.env)=eval o X.env) jT)
  (hfew:autoParam (((backTo cpos (starEach [e] X.env)).all (λx => !x.1) && (backToKw cpos (keywordEach [] X.env)).all (λx=>x.1.isSome)
   && decide ([e].length+([]:List Keyword).length+(if ([]:List Keyword).isEmpty then 0 else 1)<30))=true) jT)
  (hline:autoParam ((apos.endLine == cpos.line)=true) jT) (hs:autoParam (starEach [e] X.env=(false,eval e X.env)::starEach [] X.env) jT) (hplain:autoParam ((backTo cpos (starEach [] X.env)).any (·.1)=false) jT):
  QX X E (.Call (.Attribute o "index" apos) [e] [] cpos) (.op z8H [.v i]):=
 QE.imp (zfy u5 PySem.F.slot_list_index PySem.F.type_list_index (z5z hu) ho ha hbase hfew hline hs hplain) <| by
  rintro σ H Q ⟨G,ρ,Q0,X0,g,ab,hr,hk,hx⟩;have hr':onV (ρ.get i) (λd=>z6t d Q0):=hr
  cases z1:ρ.get i with
  | none=>rw[z1] at hr';exact hr'.elim
  | some d=>
   rw[z1] at hr';obtain⟨ps,rfl,hne,hz,q⟩:=(hr':z6t d Q0)
   obtain⟨v,s1,rd⟩:=ab i _ z1;obtain⟨a,xs,rfl,h1,h2⟩:=z1C rd;have da:∀p:Int × Int,Da 60 (vec p):=λp=>Da.vec p;refine⟨.ref a,s1,.inl ⟨rfl,_,z14 g h1⟩,G,ρ,λds=>∃m,m∈ps/\(∀x∈ps,LxG m x)/\ds=[vec m],X0,g,ab,?_,?_,hx⟩
   .show onV (ρ.get i) _;rw[z1];exact⟨ps,rfl,hne,hz,λm hm hle=>⟨m,hm,hle,rfl⟩⟩
   .rintro ds vs G1 H1 ⟨m,hm,hle,rfl⟩ g1 g2 g3 rds;obtain⟨w,rfl,rw'⟩:=rds1 rds;refine⟨G1,a,xs,ps.map vec,vec m,w,rfl,rfl,g2,z14 g1.1 h1,h2.same g1.1,rw',da m,λe he =>?_,⟨_,wj.mpr ⟨m,hm,rfl⟩,?_⟩,by rw[wd];omega,λn e hn he =>?_⟩
    .obtain⟨p,_,rfl⟩:=wj.mp he;exact da p
    .rw[show deq (vec m) (vec m)=decide (m=m) from z33 m m];exact vq rfl
    .rw[wG] at hn
     cases z:ps[n]? with
     | none=>rw[z] at hn;cases hn
     | some p=>
      rw[z] at hn
      cases hn
      rw[show deq (vec p) (vec m)=decide (p=m) from z33 p m] at he;rw[v8 he] at z;exact hk _ _ G1 H1 (q n m z hle) g1 g2 g3 RD.int'
end
end Pu
namespace L2
open PySem PySem.Spec PyProof.Rows
section
variable {κ:Type}[DecidableEq κ]
def valV (kvs:List (κ × V))(k:κ):Option V:=(kvs.find? λkv=>decide (kv.1=k)).map (·.2)
def putK (kvs:List (κ × V))(k:κ)(v:V):List (κ × V):=
 if (kvs.any λkv=>decide (kv.1=k))=true then kvs.map (λkv=>if kv.1=k then (kv.1,v) else kv) else kvs++[(k,v)]
def z4z {p:κ × V}{r:List (κ × V)}{k:κ}(e:p.1=k):valV (p::r) k=some p.2:=by simp[valV,uX,e]
def z4A {p:κ × V}{r:List (κ × V)}{k:κ}(e:¬ p.1=k):valV (p::r) k=valV r k:=by simp[valV,uX,e]
theorem z8u (k:κ):∀kvs:List (κ × V),(kvs.any λkv=>decide (kv.1=k))=(valV kvs k).isSome
 | []=>rfl
 | p::r=>by
  rw[List.any_cons]
  by_cases e:p.1=k
  .simp[z4z e,vq e,Bool.true_or,Option.isSome_some]
  .rw[z4A e,ve e];exact z8u k r
def z57 (kvs:List (κ × V))(k:κ)(v:V):(putK kvs k v).length<=kvs.length+1:=by
 unfold putK
 grind
def RelO.isSome_eq {o:Option V}{u:Option Value}(r:RelO o u):o.isSome=u.isSome:=by
 cases o with
 | none=>cases u with
  | none=>rfl
  | some _=>exact(r).elim
 | some _=>cases u with
  | none=>exact(r).elim
  | some _=>rfl
theorem RelO.getD {o:Option V}{u:Option Value}{d:V}{d':Value}(r:RelO o u)(rd:RelV d d'):RelV (o.getD d) (u.getD d'):=by
 cases o with
 | none=>cases u with
  | none=>exact rd
  | some _=>exact(r).elim
 | some _=>cases u with
  | none=>exact(r).elim
  | some _=>exact r
def KV.val {kvs:List (κ × V)}{vs:List (κ × Value)}(r:KV kvs vs)(k:κ):RelO (valV kvs k) (valueAt vs k):=by
 induction r with
 | nil=>exact True.intro
 | @cons p q ps qs h t ih=>
  obtain⟨h1,h2⟩:=h
  by_cases e:p.1=k
  .have e'  := h1.symm.trans e;have b:valueAt (q::qs) k=some q.2:=by simp[valueAt,uX,e']
   rw[z4z e,b];exact h2
  .have e':¬ q.1=k:=λz=>e (h1.trans z);have b:valueAt (q::qs) k=valueAt qs k:=by simp[valueAt,uX,e']
   rw[z4A e,b];exact ih
theorem KV.any {kvs:List (κ × V)}{vs:List (κ × Value)}(r:KV kvs vs)(k:κ):(kvs.any λkv=>decide (kv.1=k))=vs.any λkv=>decide (kv.1=k):=by
 induction r with
 | nil=>rfl
 | cons h t ih=>simp_all
def KV.repl {kvs:List (κ × V)}{vs:List (κ × Value)}(r:KV kvs vs)(k:κ){y:V}{u:Value}(ry:RelV y u):
  KV (kvs.map λkv=>if kv.1=k then (kv.1,y) else kv) (vs.map λkv=>if kv.1=k then (kv.1,u) else kv):=by
 induction r with
 | nil=>exact .nil
 | @cons p q ps qs h t ih=>
  refine .cons ?_ ih
  by_cases e:p.1=k
  .simp_all
  simp_all
def KV.put {kvs:List (κ × V)}{vs:List (κ × Value)}(r:KV kvs vs)(k:κ){y:V}{u:Value}(ry:RelV y u):KV (putK kvs k y) (stored vs k u):=by
 unfold putK stored;rw[r.any k]
 by_cases e:(vs.any λkv=>decide (kv.1=k))=true
 .rw[if_pos e,if_pos e];exact r.repl k ry
 .rw[if_neg e,if_neg e];exact Paired.snoc r ⟨rfl,ry⟩
theorem KV.length {kvs:List (κ × V)}{vs:List (κ × Value)}(r:KV kvs vs):kvs.length=vs.length:=Paired.length r
end
def zgf {P:Program}{w:World}{k:Key}{u:Value}(r:RelV (kV k) u):(z0X P w).is k u=true:=by
 cases k with
 | inl i=>obtain⟨t,e⟩:=(r);subst e;exact z88 P w i t
 | inr x=>obtain⟨t,e⟩:=(r);subst e;exact z87 P w x t
theorem z7l {P:Program}{w:World}:∀{ks:List Key}{us:List Value},Vals (ks.map kV) us->ItemsAre (z0X P w) ks us
 | [],_,r=>by cases r;exact .nil
 | k::ks,_,r=>by
  cases r with
  | cons h t=>exact .cons (zgf h) (z7l t)
abbrev KT (H:Hp):List (List Key × V)->List (List Key × Addr × Value)->Prop:=Paired λp q=>p.1=q.1/\H q.2.1=some (.tup (p.1.map kV))/\RelV p.2 q.2.2
def KT.val {H:Hp}{kvs:List (List Key × V)}{xs:List (List Key × Addr × Value)}(r:KT H kvs xs)(k:List Key):RelO (valV kvs k) ((atKey xs k).map (·.2)):=by
 induction r with
 | nil=>exact True.intro
 | @cons p q ps qs h t ih=>
  obtain⟨h1,_,h2⟩:=h
  by_cases e:p.1=k
  .have e'  := h1.symm.trans e;have b:atKey (q::qs) k=some q.2:=by simp[atKey,uX,e']
   rw[z4z e,b];exact h2
  .have e':¬ q.1=k:=λz=>e (h1.trans z);have b:atKey (q::qs) k=atKey qs k:=by simp[atKey,uX,e']
   rw[z4A e,b];exact ih
def KT.repl {H:Hp}{kvs:List (List Key × V)}{xs:List (List Key × Addr × Value)}(r:KT H kvs xs)(k:List Key){y:V}{u:Value}(ry:RelV y u):
  KT H (kvs.map λkv=>if kv.1=k then (kv.1,y) else kv) (xs.map (putAt k u)):=by
 induction r with
 | nil=>exact .nil
 | @cons p q ps qs h t ih=>
  rw[wE];refine .cons ?_ ih;obtain⟨h1,h2,h3⟩:=h;unfold putAt
  by_cases e:p.1=k
  .rw[if_pos e,if_pos (h1.symm.trans e)];exact⟨h1,h2,ry⟩
  .rw[if_neg e,if_neg (λz=>e (h1.trans z))];exact⟨h1,h2,h3⟩
def KT.put {H:Hp}{kvs:List (List Key × V)}{xs:List (List Key × Addr × Value)}(r:KT H kvs xs)(k:List Key){b:Addr}{y:V}{u:Value}(hb:H b=some (.tup (k.map kV)))(ry:RelV y u):
  KT H (putK kvs k y) (storedH xs k b u):=by
 have e:(kvs.any λkv=>decide (kv.1=k))=(atKey xs k).isSome:=by
  rw[z8u,(r.val k).isSome_eq,Option.isSome_map]
 unfold putK storedH;rw[e]
 by_cases q:(atKey xs k).isSome=true
 .rw[if_pos q,if_pos q];exact r.repl k ry
 .rw[if_neg q,if_neg q];exact Paired.snoc r ⟨rfl,hb,ry⟩
def KT.keeps {H H':Hp}{kvs:List (List Key × V)}{xs:List (List Key × Addr × Value)}(r:KT H kvs xs)(ht:∀b ys,H b=some (.tup ys)->H' b=some (.tup ys)):KT H' kvs xs:=
 Paired.mapP r λ_ _ z=>⟨z.1,ht _ _ z.2.1,z.2.2⟩
section
variable {P:Program}{w:World}{H:Hp}{h:Heap}{a:Addr}
def zhj {u:HO}(ok:HOk P w H h)(e:Rd H a u):z1j P w H h a u:=e.ok ok
def zbF {kvs:List (Key × V)}(ok:HOk P w H h)(e:Rd H a (.dK kvs)):kvs.length<=sizeLine/\(a == sysModules)=false/\∃vs,KV kvs vs/\h.DictOf (z0X P w) a vs:=
 zhj ok e
def zlk {kvs:List (Key × V)}(ok:HOk P w H h)(e:H a=some (.dK kvs)):kvs.length<=sizeLine/\(a == sysModules)=false/\∃vs,KV kvs vs/\h.DictOf (z0X P w) a vs:=zbF ok (.inl e)
def zbl {ks:List Key}(ok:HOk P w H h)(e:H a=some (.tup (ks.map kV))):(tupleKind (z0X P w)).is h ks a:=by
 obtain⟨_,its,r,⟨o,h1,h2,n,h3⟩,_⟩:=(ok a _ e)
 exact⟨o,its.toArray,n,h1,h2,h3,by simpa using z7l r⟩
def zgq {kvs:List (List Key × V)}(ok:HOk P w H h)(e:Rd H a (.dT kvs)):kvs.length<=sizeLine/\(a == sysModules)=false/\
  ∃xs,KT H kvs xs/\h.DictOfH (tupleKind (z0X P w)) a xs:=by
 obtain⟨z,y,xs,r,o,es,ep,h1,h2,h3,h4,h5⟩:=(zhj ok e)
 refine⟨z,y,xs,r,o,es,ep,h1,h2,h3,h4,λx hx =>?_,h5⟩;have all:∀{l:List _}{m:List _},KT H l m->∀x∈m,(tupleKind (z0X P w)).is h x.1 x.2.1:=by
  intro l m q
  induction q with
  | nil=>simp_all
  | @cons p q ps qs hq t ih=>
   intro x hx
   rcases wg.mp hx with e | hx
   .exact zbl ok (by simp_all)
   .exact ih x hx
 exact all r x hx
def zlj {kvs:List (List Key × V)}(ok:HOk P w H h)(e:H a=some (.dT kvs)):kvs.length<=sizeLine/\(a == sysModules)=false/\
  ∃xs,KT H kvs xs/\h.DictOfH (tupleKind (z0X P w)) a xs:=zgq ok (.inl e)
end
def DGet (H:Hp)(a:Addr)(y:V)(r:Option V):Prop:=
 (∃kvs k,Rd H a (.dK kvs)/\y=kV k/\r=valV kvs k)\/∃kvs k b,Rd H a (.dT kvs)/\y = .ref b/\H b=some (.tup (k.map kV))/\r=valV kvs k
def DPut (H:Hp)(a:Addr)(y v:V)(H':Hp):Prop:=
 (∃kvs k,H a=some (.dK kvs)/\y=kV k/\kvs.length<sizeLine/\H'=upd H a (.dK (putK kvs k v)))\/
 ∃kvs k b,H a=some (.dT kvs)/\y = .ref b/\H b=some (.tup (k.map kV))/\kvs.length<sizeLine/\H'=upd H a (.dT (putK kvs k v))
theorem DPut.k {H:Hp}{a:Addr}{kvs:List (Key × V)}{k:Key}{v:V}(e:H a=some (.dK kvs))(hl:kvs.length<sizeLine):DPut H a (kV k) v (upd H a (.dK (putK kvs k v))) :=.inl ⟨kvs,k,e,rfl,hl,rfl⟩
section
variable {X:Cx}{pins:List (Addr × Obj)}{σ:St}{H:Hp}{s:Shared}{a:Addr}{y v:V}{u r:Value}{o:Option V}{A:Around}{E:WvP}
def Inv.big (I:Inv X pins σ H s):sysModules<s.heap.objs.size:=by
 have h  := (I.mod.glob.keeps I.bk).lt;exact Nat.lt_trans (by decide) h
def zbJ {h':Heap}{t':Nat}{ob:HO}(I:Inv X pins σ H s)(mu:Mut (H a))(hs:Heap.SameBut a s.heap h')(he:∃q,h'.get? a=some q)(new:z1j X.prog X.w (upd H a ob) h' a ob):
  Inv X pins σ (upd H a ob) { s with heap:=h',toks:=t' }:=
 I.write mu (.inl rfl) (λb q hb z=>(hs.2 b hb).trans z) he new
def zjF {P:Program}{w:World}{H':Hp}{h':Heap}{kvs:List (Key × V)}{vs:List (Key × Value)}(z:kvs.length<=sizeLine)(hd:(a == sysModules)=false)(rel:KV kvs vs)(dd:h'.DictOf (z0X P w) a vs):
  z1j P w H' h' a (.dK kvs):=⟨z,hd,vs,rel,dd⟩
def zbK {H':Hp}{Q:Unit->Shared->Prop}(hu:A.units+1<cLine)(I:Inv X pins σ H s)(g:DPut H a y v H')(ry:RelV y u)(rv:RelV v r)(h:∀s',Inv X pins σ H' s'->Q () s'):
  wpAny (model X.prog X.w) A (setItem (.ref a) u r) Q E s:=by
 rcases g with ⟨kvs,k,e,ey,l,eH⟩ | ⟨kvs,k,b,e,ey,eb,l,eH⟩
 .subst ey eH;obtain⟨z,hd,vs,rel,dd⟩:=zlk I.hok e;have hz:vs.length<=sizeLine:=by rw[<- rel.length];exact z
  have hl:(putK kvs k v).length<=sizeLine:=by have:=z57 kvs k v;omega
  refine wpAny_setItem_pairs (hsz:=hz) (zgf ry) dd λh' dd' hs=>h _ ?_;have he:∃q,h'.get? a=some q:=let ⟨q,_,_,hq,_⟩:=dd';⟨q,hq⟩;exact zbJ I (by rw[e];exact True.intro) hs he (zjF hl hd (rel.put k rv) dd')
 .subst ey eH
  cases (ry)
  obtain⟨z,hd,xs,rel,dd⟩:=zlj I.hok e;have hz:xs.length<=sizeLine:=by rw[<- Paired.length rel];exact z
  have hl:(putK kvs k v).length<=sizeLine:=by have:=z57 kvs k v;omega
  refine wpAny_setItem_heap (hsz:=hz) (tupleKind_room_in1 hu) (zbl I.hok eb) dd λh' dd' hs=>h _ ?_;obtain⟨q,es,ep,hq,h2,h3,h4,_,h5⟩:=dd';refine zbJ I (by rw[e];exact True.intro) hs ⟨q,hq⟩ ⟨hl,hd,_,(rel.put k eb rv).keeps λc ys ec =>?_,q,es,ep,hq,h2,h3,h4,h5⟩;rw[z04 (zl5 ec e (λz=>nomatch z))];exact ec
end
def zk6 (td ty tv:TE):TS:=λD σ H=>tv σ H λv H1=>td σ H1 λx H2=>ty σ H2 λy H3=>∃a H4,x = .ref a/\DPut H3 a y v H4/\D.nx σ H4
section
variable {X:Cx}{o i e value:Expr}{pos pos' tpos:Pos}{td ty tv:TE}
def zfH (hu:X.A.units+1<cLine)(ho:PE X o td)(hi:PE X i ty)(hv:PE X value tv)(hs:swapsWith value (some (.Subscript o i pos')) pos.line X.env=pure false):
  PS X (.Assign [.Subscript o i pos'] value pos) (zk6 td ty tv):=by
 intro pins s σ H D I h;refine wpAny_Assign_Subscript (thn (hv _ s σ H _ I h) λr s1 ⟨v,H1,I1,rv,q1⟩=>thn (ho _ s1 σ H1 _ I1 q1) λu s2 ⟨x,H2,I2,rx,q2⟩=>thn (hi _ s2 σ H2 _ I2 q2) λiv s3 z9 =>?_) hs;obtain⟨y,H3,I3,ry,a,H4,ex,g,q3⟩:=z9;subst ex;obtain rfl:u=Value.ref a:=rx;exact zbK hu I3 g ry rv λs4 I4=>⟨σ,H4,I4,q3⟩
end
def zdK {P:Program}{w:World}{H:Hp}(h:Heap)(hb:sysModules<h.objs.size):z1j P w H (h.push { cls :=.type "dict",data :=.dict #[] }) h.objs.size (.dK []):=
 ⟨vf _,beq_eq_false_iff_ne.mpr (vF (wz hb)),[],.nil,Heap.DictOf.new h⟩
def zgY:TE:=λ_ H Q=>∀p,H p=none->Q (.ref p) (upd H p (.dK []))
section
variable {X:Cx}{pos:Pos}
def zd5:PE X (.Dict [] [] pos) zgY:=λpins s σ H Q I h=>
 wpAny_Dict_empty ⟨.ref _,_,I.laid (λ_ _ q=>we _ q) (wp _) (zdK _ I.big),rfl,h _ (I.hok.fresh (wp _))⟩
end
structure M2 (X:Cx)(o:Expr)(m:Str)(apos:Pos)(e f:Expr)(cpos:Pos):Prop where
 base:attributeBase o m X.env (eval o X.env)=eval o X.env
 few:((backTo cpos (starEach [e,f] X.env)).all (λx => !x.1) && (backToKw cpos (keywordEach [] X.env)).all (λx=>x.1.isSome)
  && decide (([e,f]:List Expr).length+([]:List Keyword).length+(if ([]:List Keyword).isEmpty then 0 else 1)<30))=true
 line:(apos.endLine == cpos.line)=true
 trees:backTo cpos (starEach [e,f] X.env)=[(false,eval e X.env),(false,eval f X.env)]
def IsD (H:Hp)(a:Addr):Prop:=(∃kvs,Rd H a (.dK kvs))\/∃kvs,Rd H a (.dT kvs)
def zeC {X:Cx}{pins:List (Addr × Obj)}{σ:St}{H:Hp}{s:Shared}{a:Addr}(I:Inv X pins σ H s)(d:IsD H a):
  s.TypeIs (.ref a) "dict"/\(∀b,Value.ref a = .ref b->∃ob,s.heap.get? b=some ob/\ob.dict=none)/\(a == sysModules)=false:=by
 rcases d with ⟨kvs,e⟩ | ⟨kvs,e⟩
 .obtain⟨_,hd,vs,_,dd⟩:=zbF I.hok e;refine⟨dd.typeIs,λb q =>?_,hd⟩
  cases q
  obtain⟨ob,_,_,h1,h2,_⟩:=dd;exact⟨ob,h1,h2.2.1⟩
 .obtain⟨_,hd,xs,_,dd⟩:=zgq I.hok e;refine⟨dd.typeIs,λb q =>?_,hd⟩
  cases q
  obtain⟨ob,_,_,h1,h2,_⟩:=dd;exact⟨ob,h1,h2.2.1⟩
section
variable {X:Cx}{pins:List (Addr × Obj)}{σ:St}{H:Hp}{s:Shared}{a:Addr}{y d:V}{u r:Value}{o:Option V}{A:Around}{E:WvP}
def zjH {Q:WvP}(hu:A.units+1<cLine)(I:Inv X pins σ H s)(g:DGet H a y o)(ry:RelV y u)(rd:RelV d r)(h:∀w' s',Inv X pins σ H s'->RelV (o.getD d) w'->Q w' s'):
  wpAny (model X.prog X.w) A (call (.builtin "dict.get") [.ref a,u,r]) Q E s:=by
 rcases g with ⟨kvs,k,e,ey,l⟩ | ⟨kvs,k,b,e,ey,eb,l⟩
 .subst ey;obtain⟨z,hd,vs,rel,dd⟩:=zbF I.hok e;refine call_meetsIn PySem.F.slot_dict_get dd.typeIs PySem.F.entry_dict_get (PySem.F.args_dict_get_3 _ _ _) (meets_dict_get_default _ a (zgf ry) hd r) ⟨_,dd.mapOf,h _ _ (I.tok _) ?_⟩;rw[l];exact(rel.val k).getD rd
 .subst ey
  cases (ry)
  obtain⟨z,hd,xs,rel,dd⟩:=zgq I.hok e;refine call_meetsIn PySem.F.slot_dict_get dd.typeIs PySem.F.entry_dict_get (PySem.F.args_dict_get_3 _ _ _) (meetsH_dict_get_default _ a b hd r) ⟨tupleKind_room_in1 hu,k,xs,zbl I.hok eb,dd,h _ _ (I.tok _) ?_⟩;rw[l];exact(rel.val k).getD rd
end
def zgZ (td ty tx:TE):TE:=λσ H Q=>td σ H λx H1=>∃a,x = .ref a/\IsD H1 a/\ty σ H1 λy H2=>tx σ H2 λz H3=>∃o,DGet H3 a y o/\Q (o.getD z) H3
section
variable {X:Cx}{o e f:Expr}{apos cpos:Pos}{td ty tx:TE}
def zd6 (hu:X.A.units+1<cLine)(ho:PE X o td)(he:PE X e ty)(hf:PE X f tx)(m:M2 X o "get" apos e f cpos):PE X (.Call (.Attribute o "get" apos) [e,f] [] cpos) (zgZ td ty tx):=by
 intro pins s σ H Q I h;refine wpAny_Call_method m.base m.few m.line PySem.F.plainAttrs_dict PySem.F.slot_dict_get PySem.F.type_dict_get (thn (ho _ s σ H _ I h) λu s1 z9 =>?_);obtain⟨x,H1,I1,rx,a,ex,d,q1⟩:=z9;subst ex;obtain rfl:u=Value.ref a:=rx;obtain⟨t1,t2,_⟩:=zeC I1 d;refine⟨t1,t2,?_⟩;rw[m.trees];refine uE rfl (Calls.evalArgs_plain (Calls.spliced_cons (thn (he _ s1 σ H1 _ I1 q1) λiv s2 ⟨y,H2,I2,ry,q2⟩=>
  Calls.spliced_cons (thn (hf _ s2 σ H2 _ I2 q2) λfv s3 ⟨z,H3,I3,rz,ov,g,q3⟩=>Calls.spliced_nil ?_))))
 exact zjH hu I3 g ry rz λw' s4 I4 rw'=>⟨_,H3,I4,rw',q3⟩
end
end L2
namespace Pu
open PySem PySem.Spec PyProof.Rows L2
def dk (kvs:List (Key × D)):D :=.dct (kvs.map λp=>kD p.1) (kvs.map (·.2))
def valD (kvs:List (Key × D))(k:Key):Option D:=(kvs.find? λp=>decide (p.1=k)).map (·.2)
def putD (kvs:List (Key × D))(k:Key)(d:D):List (Key × D):=if (kvs.any λp=>decide (p.1=k))=true then kvs.map (λp=>if p.1=k then (p.1,d) else p) else kvs++[(k,d)]
def PK (K:W.Frag)(mg:WmP)(G:Hp):List (Key × D)->List (Key × V)->Prop
 | [],[]=>True
 | (k,d)::r,(k',v)::r'=>k=k'/\RD K mg G d v/\PK K mg G r r'
 | _,_=>False
def zjw:∀{k k':Key},kD k=kD k'->k=k'
 | .inl _,.inl _,h=>by injection h with h;rw[h]
 | .inr _,.inr _,h=>by injection h with h;rw[h]
 | .inl _,.inr _,h=>by cases h
 | .inr _,.inl _,h=>by cases h
section
variable {K:W.Frag}{mg:WmP}{G G' H:Hp}
theorem PK.of:∀{kvs:List (Key × D)}{kw:List (Key × V)},kvs.map (λp=>kD p.1)=kw.map (λp=>kD p.1)->RDs K mg G (kvs.map (·.2)) (kw.map (·.2))->PK K mg G kvs kw
 | [],[],_,_=>trivial
 | [],_::_,h,_=>by cases h
 | _::_,[],h,_=>by cases h
 | (k,d)::r,(k',v)::r',h,q=>by
  simp[wE,List.cons.injEq] at h q;obtain⟨x,y,e,h1,h2⟩:=q;simp[List.cons.injEq] at e;obtain⟨rfl,rfl⟩:=e;exact⟨zjw h.1,h1,PK.of h.2 h2⟩
theorem PK.keys:∀{kvs:List (Key × D)}{kw:List (Key × V)},PK K mg G kvs kw->kvs.map (·.1)=kw.map (·.1)
 | [],[],_=>rfl
 | [],_::_,h=>h.elim
 | _::_,[],h=>h.elim
 | (k,d)::r,(k',v)::r',h=>by
  obtain⟨rfl,_,h⟩:=h;simp[PK.keys h]
theorem PK.rds:∀{kvs:List (Key × D)}{kw:List (Key × V)},PK K mg G kvs kw->RDs K mg G (kvs.map (·.2)) (kw.map (·.2))
 | [],[],_=>RDs.nil
 | [],_::_,h=>h.elim
 | _::_,[],h=>h.elim
 | (k,d)::r,(k',v)::r',h=>RDs.cons h.2.1 (PK.rds h.2.2)
theorem PK.same (g:Same G G'):∀{kvs:List (Key × D)}{kw:List (Key × V)},PK K mg G kvs kw->PK K mg G' kvs kw
 | [],[],_=>trivial
 | [],_::_,h=>h.elim
 | _::_,[],h=>h.elim
 | (k,d)::r,(k',v)::r',h=>⟨h.1,h.2.1.same g,PK.same g h.2.2⟩
theorem PK.val {j:Key}:∀{kvs:List (Key × D)}{kw:List (Key × V)},PK K mg G kvs kw->(valD kvs j=none/\valV kw j=none)\/∃d v,valD kvs j=some d/\valV kw j=some v/\RD K mg G d v
 | [],[],_ =>.inl ⟨rfl,rfl⟩
 | [],_::_,h=>h.elim
 | _::_,[],h=>h.elim
 | (k,d)::r,(k',v)::r',h=>by
  obtain⟨rfl,h1,h2⟩:=h
  by_cases e:k=j
  .refine .inr ⟨d,v,?_,z4z e,h1⟩;unfold valD;rw[uX,vq e]
   rfl
  .have e1:valD ((k,d)::r) j=valD r j:=by
    unfold valD
    simp_all
   rw[e1,z4A e];exact PK.val h2
theorem PK.any {j:Key}{kvs:List (Key × D)}{kw:List (Key × V)}(h:PK K mg G kvs kw):(kvs.any λp=>decide (p.1=j))=(kw.any λp=>decide (p.1=j)):=by
 have e1:(kvs.any λp=>decide (p.1=j))=((kvs.map (·.1)).any λk=>decide (k=j)):=by rw[List.any_map];rfl
 have e2:(kw.any λp=>decide (p.1=j))=((kw.map (·.1)).any λk=>decide (k=j)):=by rw[List.any_map];rfl
 rw[e1,e2,h.keys]
theorem PK.repl {j:Key}{d0:D}{v0:V}(r0:RD K mg G d0 v0):∀{kvs:List (Key × D)}{kw:List (Key × V)},PK K mg G kvs kw->PK K mg G (kvs.map λp=>if p.1=j then (p.1,d0) else p) (kw.map λp=>if p.1=j then (p.1,v0) else p)
 | [],[],_=>trivial
 | [],_::_,h=>h.elim
 | _::_,[],h=>h.elim
 | (k,d)::r,(k',v)::r',h=>by
  obtain⟨rfl,h1,h2⟩:=h;simp[wE]
  by_cases e:k=j
  .rw[if_pos e,if_pos e];exact⟨rfl,r0,PK.repl r0 h2⟩
  .rw[if_neg e,if_neg e];exact⟨rfl,h1,PK.repl r0 h2⟩
theorem PK.snoc {j:Key}{d0:D}{v0:V}(r0:RD K mg G d0 v0):∀{kvs:List (Key × D)}{kw:List (Key × V)},PK K mg G kvs kw->PK K mg G (kvs++[(j,d0)]) (kw++[(j,v0)])
 | [],[],_=>⟨rfl,r0,trivial⟩
 | [],_::_,h=>h.elim
 | _::_,[],h=>h.elim
 | (k,d)::r,(k',v)::r',h=>⟨h.1,h.2.1,PK.snoc r0 h.2.2⟩
def PK.put {j:Key}{d0:D}{v0:V}(r0:RD K mg G d0 v0){kvs:List (Key × D)}{kw:List (Key × V)}(h:PK K mg G kvs kw):PK K mg G (putD kvs j d0) (putK kw j v0):=by
 unfold putD putK;rw[h.any]
 split
 .exact h.repl r0
 .exact h.snoc r0
def PK.len {kvs:List (Key × D)}{kw:List (Key × V)}(h:PK K mg G kvs kw):kvs.length=kw.length:=by
 have:=congrArg List.length h.keys;simpa using this
def ziJ {a:Addr}{kvs:List (Key × D)}(h:z4l K mg G H a (dk kvs)):∃kw,H a=some (.dK kw)/\PK K mg G kvs kw:=by
 obtain⟨xs,h1,⟨kw,q,e1,rfl⟩ | ⟨kw,q,n,e1,rfl⟩⟩:=h
 .exact⟨kw,q,PK.of e1 h1⟩
 .exfalso
  cases kw with
  | nil=>exact n rfl
  | cons p r=>
   cases kvs with
   | nil=>cases e1
   | cons p' r'=>
    simp[wE,List.cons.injEq] at e1;obtain⟨⟨i | x,d⟩,_⟩:=p',r'
    all_goals exact absurd e1.1 (by simp[kD])
def zeF {a:Addr}{kvs:List (Key × D)}{kw:List (Key × V)}(h:H a=some (.dK kw))(p:PK K mg G kvs kw):z4l K mg G H a (dk kvs):=by
 refine⟨_,p.rds,.inl ⟨kw,h,?_,rfl⟩⟩;have:kvs.map (λp=>kD p.1)=(kvs.map (·.1)).map kD:=by rw[wK];rfl
 rw[this,p.keys,wK]
 rfl
def zho {v:V}{kvs:List (Key × D)}(h:RD K mg G (dk kvs) v):∃a kw,v = .ref a/\Rd G a (.dK kw)/\PK K mg G kvs kw:=by
 unfold dk at h;obtain⟨a,xs,rfl,h1,⟨kw,q,e1,rfl⟩ | ⟨kw,q,n,e1,rfl⟩⟩:=h
 .exact⟨a,kw,rfl,q,PK.of e1 h1⟩
 .exfalso
  cases kw with
  | nil=>exact n rfl
  | cons p r=>
   cases kvs with
   | nil=>cases e1
   | cons p' r'=>
    simp[wE,List.cons.injEq] at e1;obtain⟨⟨i | x,d⟩,_⟩:=p',r'
    all_goals exact absurd e1.1 (by simp[kD])
def zhl {k:Key}{v:V}(h:RD K mg G (kD k) v):v=kV k:=by
 cases k with
 | inl i=>exact(by exact h)
 | inr x=>exact(by exact h)
end
open Tab
def ownD (ρ:Env)(i:Nat)(P:List (Key × D)->Prop):Prop:=∃kvs,ρ[i]? = some (.o (dk kvs))/\P kvs
def Sm.dput (i:Nat)(k e:Ex):Sm:=⟨λρ N _ X=>ownD ρ i λkvs=>e.run ρ (λd=>Safe d ρ/\k.run ρ (λb=>∃j,b=kD j/\kvs.length<sizeLine/\N (ρ.set i (.o (dk (putD kvs j d))))) X) X,λρ N N' Q Q' X X' mn m mx ⟨kvs,h,q⟩=>⟨kvs,h,e.mono ρ _ _ X X' (λd q=>⟨q.1,k.mono ρ _ _ X X' (λb ⟨j,h1,h2,q⟩=>⟨j,h1,h2,mn _ q⟩) mx q.2⟩) mx q⟩⟩
def ziI:Fn:=⟨λ_ Q _=>Q (dk []),λ_ Q Q' X X' m _ q=>m _ q⟩
def Ex.dget2 (x k e:Ex):Ex:=⟨λρ Q X=>x.run ρ (λa=>∃kvs,a=dk kvs/\k.run ρ (λb=>∃j,b=kD j/\e.run ρ (λc=>Q ((valD kvs j).getD c)) X) X) X,λρ Q Q' X X' m mx q=>x.mono ρ _ _ X X' (λa ⟨kvs,h,q⟩=>⟨kvs,h,k.mono ρ _ _ X X' (λb ⟨j,h,q⟩=>⟨j,h,e.mono ρ _ _ X X' (λc q=>m _ q) mx q⟩) mx q⟩) mx q⟩
abbrev dkI (rs:List (Int × D)):D:=dk (rs.map λr=>(Sum.inl r.1,r.2))
def zbx (d:D)(Q:DK):Prop:=∃rs:List (Int × D),d=dkI rs/\(rs.map (·.1)).Nodup/\rs.length<=63/\∀rl:List (Int × D),rl.Perm rs->rl.Pairwise (λa b=>a.1<b.1)->Q (.lst (rl.map pdD))
def z5N:Fn:=fn1 zbx λd Q Q' m ⟨rs,e,h1,h2,q⟩=>⟨rs,e,h1,h2,λrl a b=>m _ (q rl a b)⟩
section
variable {X:Cx}{E:XK}{e f o y:Expr}{x z u:Ex}{pos spos apos cpos p1:Pos}{i:Nat}
def zfg (hu:X.A.units+64<cLine)(ho:QE X o (tVar i))(hy:QX X E y z)(he:QX X E e x)(hs:autoParam (swapsWith e (some (.Subscript o y spos)) pos.line X.env=pure false) jT):QZ X E (.Assign [.Subscript o y spos] e pos) (.dput i z x):=
 QS.imp ⟨zfH (by omega) ho.p hy.p he.p hs⟩ <| by
  rintro De σ H ⟨H0,G0,G,ρ,N0,R0,X0,ab,⟨kvs,hi,hr⟩,hn,hR,hx⟩;refine zcf ab hr hx λd w G1 H1 q g1 g2 g3 rd =>?_;obtain⟨ab1,lm1⟩:=ab.back g1 g2 g3;have rd1:=z3g ab g2 g3 q.1 rd;obtain⟨a,s1,ga,h0,hw⟩:=ab1.ow i _ hi;refine⟨.ref a,s1,?_⟩;refine zcf ab1 q.2 hx λb u G2 H2 q2 k1 k2 k3 rb =>?_;obtain⟨ab2,lm2⟩:=ab1.back k1 k2 k3;obtain⟨j,rfl,hz,hN⟩:=q2;rw[zhl rb];obtain⟨kw,w1,w2⟩:=ziJ hw;refine⟨a,_,rfl,DPut.k (k3 _ _ w1) (by rw[<- w2.len];exact hz),?_⟩;refine hn _ σ _ _ hN (ab2.wr ab2.nw Same.refl' ab2.g Same.refl' (λj' d' a' e' s'=>ab2.free a' ⟨j',d',e',s'⟩) hi s1 (zeF z06 ((w2.same lm2).put (rd1.same lm2)))) (z02 lm1 lm2)
def zfw:QF X E (.Dict [] [] pos) (.op ziI []):=QE.imp ⟨zd5⟩ λσ H Q ⟨G,ρ,Q0,X0,hs,ab,hr,hk,hx⟩ p hp=>
 hk _ p G _ hr Gr.refl (z02 hs (z0f hp _)) (z0f hp _) hp (z0S hs hp) (zeF z06 trivial)
def z66 {G H:Hp}{a:Addr}{o:HO}(g:Same G H)(h:Rd G a o):Rd H a o:=h.imp (g _ _) λ⟨u,e⟩=>⟨u,g _ _ e⟩
def zcK (hu:X.A.units+64<cLine)(ho:QX X E o x)(he:QX X E e z)(hf:QX X E f u)(hb:autoParam (attributeBase o "get" X.env (eval o X.env)=eval o X.env) jT)
  (hw:autoParam (((backTo cpos (starEach [e,f] X.env)).all (λx => !x.1) && (backToKw cpos (keywordEach [] X.env)).all (λx=>x.1.isSome) && decide (([e,f]:List Expr).length+([]:List Keyword).length+(if ([]:List Keyword).isEmpty then 0 else 1)<30))=true) jT)
  (hl:autoParam ((apos.endLine == cpos.line)=true) jT) (ht:autoParam (backTo cpos (starEach [e,f] X.env)=[(false,eval e X.env),(false,eval f X.env)]) jT):QX X E (.Call (.Attribute o "get" apos) [e,f] [] cpos) (.dget2 x z u):=
 QE.imp ⟨zd6 (by omega) ho.p he.p hf.p ⟨hb,hw,hl,ht⟩⟩ <| by
 rintro σ H Q ⟨G,ρ,Q0,X0,hs,ab,hr,hk,hx⟩;refine⟨G,ρ,_,X0,hs,ab,hr,λd v G1 H1 ⟨kvs,hd,q⟩ g1 g2 g3 rd =>?_,hx⟩;subst hd;obtain⟨a,kw,rfl,h1,h2⟩:=zho rd;refine⟨a,rfl,.inl ⟨kw,z66 g2 h1⟩,?_⟩;refine⟨G1,ρ,_,X0,g2,ab.same g1.1,q,λb w G2 H2 ⟨j,hb,q2⟩ k1 k2 k3 rb =>?_,hx.same g3⟩;subst hb;rw[zhl rb];refine⟨G2,ρ,_,X0,k2,ab.same (z02 g1.1 k1.1),q2,λc v G3 H3 q3 m1 m2 m3 rc =>?_,hx.same (z02 g3 k3)⟩;refine⟨_,.inl ⟨kw,j,z66 (z02 k1.1 (z02 m1.1 m2)) h1,rfl,rfl⟩,?_⟩;refine hk _ _ G3 H3 q3 (g1.trans g3 (k1.trans k3 m1)) m2 (z02 g3 (z02 k3 m3)) ?_
 rcases h2.val (j:=j) with ⟨e1,e2⟩ | ⟨d,v,e1,e2,rv⟩
 .simp_all
 .rw[e1,e2];exact rv.same (z02 k1.1 m1.1)
def zl6 {H H':Hp}{pins:List (Addr × Obj)}{σ:L2.St}{s:Shared}{h':Heap}{t':Nat}(I:Inv X pins σ H s)(k:∀b u,s.heap.get? b=some u->h'.get? b=some u)(sm:Same H H')(nw:∀b o,H' b=some o->H b=some o\/(s.heap.get? b=none/\z1j X.prog X.w H' h' b o)):
  Inv X pins σ H' { s with heap:=h',toks:=t' }:=
 have fr  := λb o e q=>by
  cases z:H' b with
  | none=>rfl
  | some v=>
   grind
 I.un ⟨λb o e q _ _=>k b o e,λb o e q _ _=>⟨o.slots,k b o e⟩,λb o e q _=>fr b o e q,λb o e _=>⟨o,k b o e⟩,λb xs e=>sm _ _ e,λb o u e=>sm _ _ e,λb ps e=>⟨#[],by exact sm _ _ e⟩⟩ λb v e=>by
  rcases nw b v e with w | w
  .exact(I.hok b v w).stay (λc v _ q=>k c v q) (λc q=>sm _ _ q) (λc xs q=>sm _ _ q) λc _ _ q=>sm _ _ q
  .exact w.2
def layP (H:Hp):List (Addr × Int × V)->Hp
 | []=>H
 | r::l=>upd (layP H l) r.1 (.tup [.int r.2.1,r.2.2])
theorem z2E {H:Hp}{b:Addr}:∀{l:List (Addr × Int × V)},(∀r∈l,r.1≠b)->layP H l b=H b
 | [],_=>rfl
 | r::l,h=>by rw[layP,z04 (vF (h r (by simp)))];exact z2E λx hx=>h x (by simp[hx])
theorem z8b {H:Hp}:∀{l:List (Addr × Int × V)},(l.map (·.1)).Nodup->∀r∈l,layP H l r.1=some (.tup [.int r.2.1,r.2.2])
 | r::l,nd,x,hx=>by
  rw[wE,vB] at nd
  rcases wg.mp hx with rfl | hx
  .exact z06
  .rw[layP,z04 (λz=>nd.1 (wj.mpr ⟨x,hx,z⟩))];exact z8b nd.2 x hx
def z7g {H:Hp}{l:List (Addr × Int × V)}(h:∀r∈l,H r.1=none):Same H (layP H l):=λb o e=>by
 rw[z2E λr hr z=>by rw[<- z,h r hr] at e;cases e];exact e
theorem z7h {G H:Hp}(g:Same G H):∀{l:List (Addr × Int × V)},Same (layP G l) (layP H l)
 | []=>g
 | r::l=>λb o e=>by
  rw[layP] at e ⊢
  by_cases hb:b=r.1
  .subst hb;rw[z06] at e ⊢;exact e
  .rw[z04 hb] at e ⊢;exact z7h g b o e
theorem zbk {K:W.Frag}{mg:WmP}{G:Hp}:∀{rl:List (Addr × Int × V)}{m:List (Int × D)},Two (λr p=>r.2.1=p.1/\RD K mg G p.2 r.2.2) rl m->(∀r∈rl,G r.1=some (.tup [.int r.2.1,r.2.2]))->RDs K mg G (m.map pdD) (rl.map λr =>.ref r.1)
 | _,_,.nil,_=>RDs.nil
 | r::_,p::_,.cons h t,k=>RDs.cons (RD.ofT (SqT.of (k r (by simp))) (RDs.cons (by rw[h.1];rfl) (RDs.cons h.2 RDs.nil))) (zbk t λx hx=>k x (by simp[hx]))
def zl7 {P:Program}{w:World}{k:Int}{v:Value}(h:(z0X P w).is (.inl k) v=true):∃t,v = .int k t:=by
 rw[z9M] at h
 rcases z0E h with ⟨i,t,e,rfl⟩ | ⟨x,t,e,_⟩
 .grind
 .cases e
theorem zeB {P:Program}{w:World}{h:Heap}:∀{kw:List (Int × V)}{vs:List (Key × Value)}{as:List Addr},KV (kw.map λp=>(Sum.inl p.1,p.2)) vs->as.length=vs.length->(∀(j:Nat) (b:Addr),as[j]? = some b->∃key k x,vs[j]? = some (k,x)/\(z0X P w).is k key=true/\h.get? b=some { cls :=.type "tuple",data :=.seq #[key,x] })->
  Two (λ(v:Value) (z:Addr × Int × V)=>v = .ref z.1/\∃t w,RelV z.2.2 w/\h.get? z.1=some { cls :=.type "tuple",data :=.seq #[.int z.2.1 t,w] }) (as.map Value.ref) (as.zip kw)
 | [],_,as,r,hl,_=>by
  cases r
  rw[uc.mp hl];exact .nil
 | q::kw,_,as,r,hl,hp=>by
  cases r with
  | cons r1 r2=>
   cases as with
   | nil=>simp at hl
   | cons b as=>
    refine .cons ?_ (zeB r2 (by simpa using hl) λj b hb=>hp (j+1) b (by simpa using hb));obtain⟨key,k,x,e,hk,hg⟩:=hp 0 b rfl;simp at e;rw[e] at r1;have e1  := r1.1;subst e1;obtain⟨t,rfl⟩:=zl7 hk;exact⟨rfl,t,x,r1.2,hg⟩
theorem vals_refs:∀l:List (Addr × Int × V),Vals (l.map λr =>.ref r.1) (l.map λr =>.ref r.1)
 | [] =>.nil
 | _::l =>.cons rfl (vals_refs l)
def ItV (v a:Addr):HO :=.ext λh=>h.IsItemsView v a
def z8l (hc:X.calm=true):z0w X (.builtin "sorted") (λvs H Q=>∃(v a:Addr) (kw:List (Int × V)),vs=[.ref v]/\H v=some (ItV v a)/\Rd H a (.dK (kw.map λp=>(Sum.inl p.1,p.2)))/\(kw.map (·.1)).Nodup/\kw.length<=63/\
  ∀(D:Addr) (rl:List (Addr × Int × V)),H D=none->(rl.map (·.2)).Perm kw->rl.Pairwise (λa b=>a.2.1<b.2.1)->(rl.map (·.1)).Nodup->(∀r∈rl,H r.1=none/\r.1≠D)->Q (.ref D) (upd (layP H rl) D (.lst (rl.map λr =>.ref r.1)))):=by
 rintro pins s σ H xs us Q I rv ⟨v,a,kw,e,hv,hd,nd,hz,q⟩;subst e;obtain⟨u,rfl,rx⟩:=z2O rv
 cases rx
 obtain⟨hvw,_⟩:=I.hok v _ hv;obtain⟨_,_,vs,r,od,es,ep,da⟩:=zbF I.hok hd;have hlen:kw.length=vs.length:=by rw[<- KV.length r,wd]
 refine Tim.z4W λE' =>?_;refine W.kdx_collect (knd:=z0X X.prog X.w) (kvs:=vs) (ep:=ep) (by simp[I.ok.hd hc]) hvw ⟨od,es,da⟩ (wI (show vs.length<=64 by omega) (by decide)) λh1 tk as keep hl hG =>?_;have two:=zeB r hl hG.pairs;have tp:∀z∈as.zip kw,Tim.TP h1 (.ref z.1) z.2.1:=λz hz=>by
  obtain⟨v,_,_,t,w,_,g⟩:=two.mem_right hz;exact⟨_,_,_,_,t,w,rfl,g,rfl,rfl,rfl⟩
 have zl:(as.zip kw).map (·.1)=as:=List.map_fst_zip (by omega);have zr:(as.zip kw).map (·.2)=kw:=List.map_snd_zip (by omega);have nds:as.Nodup:=hG.rise.imp λh=>wz h;have kyI:∀(v:Value) (z:Addr × Int × V),(v = .ref z.1/\∃t w,RelV z.2.2 w/\h1.get? z.1=some { cls :=.type "tuple",data :=.seq #[.int z.2.1 t,w] })->Tim.keyP h1 v=z.2.1:=by
  rintro v z ⟨e,t,w,_,g⟩;rw[e];exact Tim.TP.key ⟨_,_,_,_,t,w,rfl,g,rfl,rfl,rfl⟩
 have hkey:(as.map Value.ref).map (Tim.keyP h1)=kw.map (·.1):=by
  rw[z4O kyI two, <- zr,wK,zr]
  rfl
 have hTP:∀v∈as.map Value.ref,Tim.TP h1 v (Tim.keyP h1 v):=λv hv=>by
  obtain⟨z,hz,e,_⟩:=two.mem_left hv;rw[e,(tp z hz).key];exact tp z hz
 have inj:∀u∈as.map Value.ref,∀v∈as.map Value.ref,Tim.keyP h1 u=Tim.keyP h1 v->u=v:=zbr (by rw[hkey];exact nd);refine⟨_,by rw[wd];omega,Tim.z4y.prs hTP inj,λout p1 p2 h' kp z9 =>?_⟩;obtain⟨e,he⟩:=z9;dsimp only at kp he ⊢;obtain⟨m,pm,tm⟩:=two.perm p1.symm;have mout:out=m.map λz =>.ref z.1:=by
  have:=z4O (f:=λv=>v) (g:=λz:Addr × Int × V=>Value.ref z.1) (λ_ _ h=>h.1) tm;simpa using this
 have perm:(m.map (·.2)).Perm kw:=by rw[<- zr];exact(pm.map (·.2)).symm
 have ndm:(m.map (·.1)).Nodup:=(pm.map (·.1)).nodup_iff.mp (by rw[zl];exact nds);have new:∀z∈m,s.heap.get? z.1=none/\z.1≠h1.objs.size:=λz hz=>by
  have hza:z.1∈as:=by rw[<- zl];exact wj.mpr ⟨z,pm.mem_iff.mpr hz,rfl⟩
  refine⟨?_,wz (hG.there hza)⟩
  cases y:s.heap.get? z.1 with
  | none=>rfl
  | some o=>exact absurd (wo y) (Nat.not_lt.mpr (uC (hG.above _ hza)))
 have hD:s.heap.get? h1.objs.size=none:=by
  cases y:s.heap.get? h1.objs.size with
  | none=>rfl
  | some o=>exact absurd (wo (keep _ _ y)) (vj _)
 have mk:(as.zip kw).Perm m:=pm;have hT:∀z∈m,∃t w,RelV z.2.2 w/\h'.get? z.1=some { cls :=.type "tuple",data :=.seq #[.int z.2.1 t,w] }:=λz hz=>by
  obtain⟨v,_,_,t,w,g1,g2⟩:=two.mem_right (pm.mem_iff.mpr hz);exact⟨t,w,g1,kp _ _ g2⟩
 have hnD:∀z∈m,z.1≠h1.objs.size:=λz hz=>(new z hz).2;refine⟨.ref h1.objs.size,upd (layP H m) h1.objs.size (.lst (m.map λr =>.ref r.1)),zl6 (t':=tk) I (λb o y=>kp b o (keep b o y)) (λb o y =>?_) (λb o y =>?_),rfl,q _ m (I.hok.none_of hD) perm ?_ ndm λz hz=>⟨I.hok.none_of (new z hz).1,hnD z hz⟩⟩
 .have hb:∃u,s.heap.get? b=some u:=z1j.there (I.hok b o y);obtain⟨u,hu⟩:=hb;rw[z04 (λz=>by rw[z,hD] at hu;cases hu),z2E λz hz e=>by rw[<- e,(new z hz).1] at hu;cases hu];exact y
 .by_cases hb:b=h1.objs.size
  .subst hb;rw[z06] at y
   cases y
   refine .inr ⟨hD,by rw[wd, <- pm.length_eq,jN];exact wI (show _<=64 by omega) (by decide),out,e,?_,he⟩;rw[mout];exact vals_refs m
  .rw[z04 hb] at y
   by_cases hm:∃z∈m,z.1=b
   .obtain⟨z,hz,rfl⟩:=hm;rw[z8b ndm z hz] at y
    cases y
    obtain⟨t,w,g1,g2⟩:=hT z hz;exact .inr ⟨(new z hz).1,by show 2<=sizeLine;decide,[.int z.2.1 t,w],.cons ⟨t,rfl⟩ (.cons g1 .nil),⟨_,g2,rfl,_,rfl⟩,⟨_,g2,rfl⟩⟩
   .rw[z2E λz hz e=>hm ⟨z,hz,e⟩] at y;exact .inl y
 .refine ze4 (h:=h1) p1 p2 (g:=λz:Addr × Int × V=>z.2.1) (z4O kyI tm) ?_;have:=perm.map (·.1);rw[wK] at this;exact this.nodup_iff.mpr nd
theorem zaN {K:W.Frag}{mg:WmP}{G:Hp}:∀{rs:List (Int × D)}{kw:List (Key × V)},PK K mg G (rs.map λr=>(Sum.inl r.1,r.2)) kw->∃kv:List (Int × V),kw=kv.map (λp=>(Sum.inl p.1,p.2))/\kv.map (·.1)=rs.map (·.1)/\Two (λ(p:Int × V) (r:Int × D)=>p.1=r.1/\RD K mg G r.2 p.2) kv rs
 | [],[],_=>⟨[],rfl,rfl,.nil⟩
 | r::rs,(k,v)::kw,⟨h1,h2,h3⟩=>by
  obtain⟨kv,rfl,e,t⟩:=zaN h3;subst h1;exact⟨(r.1,v)::kv,rfl,by simp[e],.cons ⟨rfl,h2⟩ t⟩
def zd4 {td:TE}(ho:PE X o td)(hb:attributeBase o "items" X.env (eval o X.env)=eval o X.env)(hw:((backTo cpos (starEach [] X.env)).all (λx => !x.1) && (backToKw cpos (keywordEach [] X.env)).all (λx=>x.1.isSome) && decide (([]:List Expr).length+([]:List Keyword).length+(if ([]:List Keyword).isEmpty then 0 else 1)<30))=true)(hl:(apos.endLine == cpos.line)=true)(ht:backTo cpos (starEach [] X.env)=[]):
  PE X (.Call (.Attribute o "items" apos) [] [] cpos) (λσ H Q=>td σ H λx H1=>∃a kw,x = .ref a/\Rd H1 a (.dK kw)/\∀v,H1 v=none->Q (.ref v) (upd H1 v (ItV v a))):=by
 intro pins s σ H Q I h;refine wpAny_Call_method hb hw hl PySem.F.plainAttrs_dict PySem.F.slot_dict_items PySem.F.type_dict_items (thn (ho pins s σ H _ I h) λu s1 z9 =>?_);obtain⟨x,H1,I1,rx,a,kw,ex,d,q1⟩:=z9;subst ex;obtain rfl:u=Value.ref a:=rx;obtain⟨t1,t2,t3⟩:=zeC I1 (.inl ⟨kw,d⟩);refine⟨t1,t2,?_⟩;rw[ht];refine uE rfl (PySem.evalArgs_none ?_);obtain⟨_,_,vs,_,dd⟩:=zbF I1.hok d;refine call_meetsIn PySem.F.slot_dict_items dd.typeIs PySem.F.entry_dict_items (PySem.F.args_dict_items_1 _) (meets_dict_items (z0X X.prog X.w) a t3) ⟨⟨vs,dd⟩,?_⟩;have gv:(s1.heap.push { cls :=.type "dict_items",data :=.fields #[.ref a] }).get? s1.heap.objs.size=some { cls :=.type "dict_items",data :=.fields #[.ref a] }:=wn _ rfl;exact⟨.ref s1.heap.objs.size,_,I1.laid (o:=ItV s1.heap.objs.size a) (t':=s1.toks) (λb o e=>we _ e) (wp _) ⟨⟨_,gv,rfl,rfl⟩,⟨_,gv⟩,λh1 h2 ⟨o,e,r⟩ st=>⟨o,st _ e,r⟩⟩,rfl,q1 _ (I1.hok.fresh (wp _))⟩
def z70 {p4:Pos}(hc:X.calm=true)(hg:Gl X "sorted")(hm:X.mg "sorted"=none)(ho:QX X E o x)(hb:autoParam (attributeBase o "items" X.env (eval o X.env)=eval o X.env) jT)
  (hw:autoParam (((backTo cpos (starEach [] X.env)).all (λx => !x.1) && (backToKw cpos (keywordEach [] X.env)).all (λx=>x.1.isSome) && decide (([]:List Expr).length+([]:List Keyword).length+(if ([]:List Keyword).isEmpty then 0 else 1)<30))=true) jT) (hl:autoParam ((apos.endLine == cpos.line)=true) jT) (ht:autoParam (backTo cpos (starEach [] X.env)=[]) jT)
  (hs:autoParam (starEach [.Call (.Attribute o "items" apos) [] [] cpos] X.env=(false,eval (.Call (.Attribute o "items" apos) [] [] cpos) X.env)::starEach [] X.env) jT):QF X E (.Call (.Name "sorted" p1) [.Call (.Attribute o "items" apos) [] [] cpos] [] p4) (.op z5N [x]):=
 QE.imp (z3K (z8l hc) hg hm (by rfl) (z3x ⟨zd4 ho.p hb hw hl ht⟩ z5L hs) (by decide) (by decide) hs (by rfl)) <| by
  rintro σ H Q ⟨G,ρ,Q0,X0,hs,ab,hr,hk,hx⟩;have hr':x.run ρ (λd=>zbx d Q0) X0:=hr;refine⟨G,ρ,_,X0,hs,ab,hr',λd v G1 H1 q g1 g2 g3 rd =>?_,hx⟩;obtain⟨rs,rfl,nd,hz,q⟩:=q;obtain⟨a,kw,rfl,h1,h2⟩:=zho rd;obtain⟨kv,rfl,h3,h4⟩:=zaN h2;refine⟨a,_,rfl,z66 g2 h1,λv hv =>?_⟩;have s1:Same H1 (upd H1 v (ItV v a)):=z0f hv _;refine⟨v,a,kv,rfl,z06,z66 (z02 g2 s1) h1,by rw[h3];exact nd,by rw[<- wd (f:=(·.1)),h3,wd];exact hz,λD' rl hD pm pw ndr new =>?_⟩;have dn:D'≠v:=λz=>by rw[z,z06] at hD;cases hD
  have new':∀r∈rl,H1 r.1=none:=λr hr=>by
   have:=(new r hr).1
   rwa [z04 (λz=>by rw[z,z06] at this;cases this)] at this
  have hD1:H1 D'=none:=by rwa [z04 dn] at hD
  have nG:∀r∈rl,G1 r.1=none:=λr hr=>z0S g2 (new' r hr);obtain⟨m,pm',tm⟩:=Two.perm pm.symm h4;have tm:=z7L tm;have s2:=z7h (l:=rl) (z02 g2 s1);have k1:Gr G1 H1 (layP G1 rl):=⟨z7g nG,λb o y=>by
   by_cases hb:∃r∈rl,r.1=b
   .obtain⟨r,hr,rfl⟩:=hb;exact .inr (new' r hr)
   .rw[z2E λr hr z=>hb ⟨r,hr,z⟩] at y;exact .inl ⟨o,y⟩⟩
  have lD:layP (upd H1 v (ItV v a)) rl D'=none:=by rw[z2E λr hr=>(new r hr).2];exact hD
  have s3:=z0f lD (.lst (rl.map λr=>V.ref r.1));refine hk (.lst (m.map pdD)) D' (layP G1 rl) _ (q m pm'.symm ?_) (g1.trans g3 k1) (z02 s2 s3) (z02 g3 (z02 s1 (z02 (z7g λr hr=>(new r hr).1) s3))) (z0S g3 hD1) (by rw[z2E λr hr=>(new r hr).2];exact z0S g2 hD1) ⟨_,z06,zbk (tm.imp λr p h=>⟨h.1,h.2.same k1.1⟩) (z8b ndr)⟩;have e:=z4O (f:=λr:Addr × Int × V=>r.2.1) (g:=λp:Int × D=>p.1) (λr p h=>h.1) tm;have pw:(rl.map λr=>r.2.1).Pairwise (· < ·):=wN.mpr pw;rw[e] at pw;exact wN.mp pw
end
end Pu
namespace Pu
open PySem L2
def z2j:Fn:=Fn.mkN 2 4 (.seq (.set 2 (.op z1Y [.v 1]))
 (.seq (.set 3 (.comp 1 [2,1] (.nm 0) (.v 0) none (.op pTup [.op z1K [.v 0,.v 1],.op z1K [.v 0,.v 2]])))
 (.ret (.op z8H [.v 3]))))
def z1f:Fn:=Fn.mkN 3 7 (.seq (.own 3 (.op ziI []))
 (.seq (.for_ [] (.tp [4,5]) (.v 2) (.seq (.set 6 (.op z2j [.v 0,.op z0q [.op pIx [.v 1,.op pSub [.v 4,.c (.int 1)]],.op pIx [.v 1,.v 4]]]))
 (.dput 3 (.v 6) (.op z6v [.dget2 (.v 3) (.v 6) (.op pTup [.c (.int 0),.c (.int 1)]),.v 5]))))
 (.ret (.op z1N [.op z5N [.v 3]]))))
def z2H:Fn:=Fn.mkN 2 4 (.seq (.set 2 (.op z3m [.v 0]))
 (.seq (.set 3 (.op z2G [.v 2,.v 1]))
 (.seq (.ifs (.op pEq [.op pIx [.v 3,.c (.int 0)],.c (.str "barred")]) (.ret (.v 3)) .skip)
 (.ret (.op pTup [.c (.str "course"),.op z1N [.comp 1 [2,3] (.nm 0) (.v 0) none (.op z1f [.op pIx [.v 0,.c (.int 0)],.v 1,.op pIx [.v 2,.c (.int 1)]])]])))))
def z13:Fn:=Fn.mkN 3 3 (.ret (.op pGt [.op z0m [.v 1,.v 2],.op z0h [.op z1z [.v 0,.v 1],.op pIx [.v 2,.c (.int 2)]]]))
def z0k:Fn:=Fn.mkN 1 2 (.seq (.ifs (.not (.op (pIsi "tuple") [.v 0])) (.ret (.c (.bl false))) .skip)
 (.seq (.for_ [] (.nm 1) (.v 0) (.seq (.ifs (.or (.not (.op z0c [.v 1])) (.or (.not (.op z09 [.op pIx [.v 1,.c (.int 0)]])) (.not (.op z0c [.op pIx [.v 1,.c (.int 1)]])))) (.ret (.c (.bl false))) .skip)
 (.ifs (.or (.not (.op z09 [.op pIx [.op pIx [.v 1,.c (.int 1)],.c (.int 0)]])) (.not (.op z09 [.op pIx [.op pIx [.v 1,.c (.int 1)],.c (.int 1)]]))) (.ret (.c (.bl false))) .skip)))
 (.ret (.c (.bl true)))))
def z0l:Fn:=Fn.mkN 1 1 (.ret (.and (.op (pIsi "tuple") [.v 0]) (.op pAll [.comp 1 [] (.nm 0) (.v 0) none (.op z0k [.v 0])])))
def z01:Fn:=Fn.mkN 1 5 (.seq (.set 1 (.c (.int 0)))
 (.seq (.for_ [] (.nm 2) (.v 0) (.seq (.set 3 (.op pAbs [.v 2]))
 (.wh (.op pGt [.v 3,.c (.int 0)]) (.seq (.set 4 (.op pMod [.v 1,.v 3]))
 (.seq (.set 1 (.v 3))
 (.set 3 (.v 4)))))))
 (.ret (.op z1N [.comp 1 [1] (.nm 0) (.v 0) none (.op z21 [.v 0,.v 1])]))))
def z0v:Fn:=Fn.mkN 3 6 (.seq (.set 3 (.op pIx [.v 2,.c (.int 0)]))
 (.seq (.set 4 (.op pAdd [.op z0h [.op pIx [.v 0,.c (.int 0)],.op pIx [.v 2,.c (.int 1)]],.op z0h [.op z0h [.op pIx [.v 1,.c (.int 0)],.v 3],.op pIx [.v 0,.c (.int 2)]]]))
 (.seq (.set 5 (.op pAdd [.op z0h [.op pIx [.v 0,.c (.int 1)],.op pIx [.v 2,.c (.int 1)]],.op z0h [.op z0h [.op pIx [.v 1,.c (.int 1)],.v 3],.op pIx [.v 0,.c (.int 2)]]]))
 (.ret (.op z01 [.op pLst [.v 4,.v 5,.op z0h [.op pIx [.v 0,.c (.int 2)],.op pIx [.v 2,.c (.int 1)]]]])))))
def z0O:Fn:=Fn.mkN 2 2 (.ret (.op z01 [.op pLst [.op pAdd [.op z0h [.op pIx [.v 0,.c (.int 0)],.op pIx [.v 1,.c (.int 1)]],.op z0h [.op pIx [.v 1,.c (.int 0)],.op pIx [.v 0,.c (.int 1)]]],.op z0h [.op pIx [.v 0,.c (.int 1)],.op pIx [.v 1,.c (.int 1)]]]]))
def z0P:Fn:=Fn.mkN 2 7 (.seq (.set 2 (.op pTup [.c (.int 0),.c (.int 0),.c (.int 1)]))
 (.seq (.forr [.op pLen [.v 1]] (.nm 3) (.seq (.set 4 (.op pTup [.c (.int 0),.c (.int 1)]))
 (.seq (.for_ [] (.tp [5,6]) (.op pIx [.v 1,.v 3]) (.seq (.set 2 (.op z0v [.v 2,.op pIx [.op pIx [.op pIx [.v 0,.v 3],.c (.int 0)],.v 5],.v 6]))
 (.set 4 (.op z0O [.v 4,.v 6]))))
 (.set 2 (.op z0v [.v 2,.op pIx [.op pIx [.v 0,.v 3],.c (.int 1)],.v 4])))))
 (.ret (.v 2))))
def z1h:Fn:=Fn.mkN 2 6 (.seq (.set 2 (.op pNeg [.c (.int 1)]))
 (.seq (.set 3 (.op pTup [.c (.int 0),.c (.int 1)]))
 (.seq (.for_ [] (.tp [4,5]) (.v 1) (.seq (.ifs (.or (.op pLe [.v 4,.v 2]) (.or (.op pGeI [.v 4,.v 0]) (.or (.op pLt [.op pIx [.v 5,.c (.int 0)],.c (.int 1)]) (.or (.op pLt [.op pIx [.v 5,.c (.int 1)],.c (.int 1)]) (.op pNe [.op z01 [.op zaT [.v 5]],.v 5]))))) (.ret (.c .non)) .skip)
 (.seq (.set 2 (.v 4))
 (.set 3 (.op z0O [.v 3,.v 5])))))
 (.ret (.v 3)))))
def z0o:Fn:=Fn.mkN 3 4 (.seq (.ifs (.op pNe [.op pLen [.v 1],.op pLen [.v 0]]) (.ret (.c (.bl false))) .skip)
 (.seq (.forr [.op pLen [.v 1]] (.nm 3) (.ifs (.op pNe [.op z1h [.op pLen [.op pIx [.op pIx [.v 0,.v 3],.c (.int 0)]],.op pIx [.v 1,.v 3]],.op pTup [.c (.int 1),.c (.int 1)]]) (.ret (.c (.bl false))) .skip))
 (.ret (.op pEq [.op z0P [.v 0,.v 1],.v 2]))))
def z0i:Fn:=Fn.mkN 1 1 (.ret (.and (.op z0c [.v 0]) (.and (.op z09 [.op pIx [.v 0,.c (.int 0)]]) (.and (.op z09 [.op pIx [.v 0,.c (.int 1)]]) (.op pNe [.v 0,.op pTup [.c (.int 0),.c (.int 0)]])))))
def z0J:Fn:=Fn.mkN 2 3 (.seq (.set 2 (.op z2H [.v 0,.v 1]))
 (.seq (.ifs (.or (.not (.op z0c [.v 2])) (.not (.op (pIsi "str") [.op pIx [.v 2,.c (.int 0)]]))) (.ret (.c (.bl false))) .skip)
 (.seq (.ifs (.op pEq [.op pIx [.v 2,.c (.int 0)],.c (.str "course")]) (.ret (.and (.op z0l [.op pIx [.v 2,.c (.int 1)]]) (.op z0o [.v 0,.op pIx [.v 2,.c (.int 1)],.v 1]))) .skip)
 (.seq (.ifs (.or (.op pNe [.op pIx [.v 2,.c (.int 0)],.c (.str "barred")]) (.not (.op z0i [.op pIx [.v 2,.c (.int 1)]]))) (.ret (.c (.bl false))) .skip)
 (.ret (.op z13 [.v 0,.op pIx [.v 2,.c (.int 1)],.v 1]))))))
def z0x:Fn:=Fn.mkN 2 5 (.seq (.set 2 (.op pAdd [.op z0h [.c (.int 80),.op pAdd [.v 1,.c (.int 1)]],.c (.int 1)]))
 (.seq (.set 3 (.op pSub [.op pMod [.v 0,.v 2],.op z21 [.v 2,.c (.int 2)]]))
 (.seq (.set 4 (.op pSub [.op pMod [.op z21 [.v 0,.v 2],.v 2],.op z21 [.v 2,.c (.int 2)]]))
 (.ret (.op z01 [.op pLst [.v 3,.v 4,.op pAdd [.c (.int 1),.op pMod [.op z21 [.op z21 [.v 0,.v 2],.v 2],.c (.int 60)]]]])))))
def z1g:Fn:=Fn.mkN 3 9 (.seq (.set 3 (.op z00 [.v 0,.c (.int 31),.op pAdd [.v 2,.c (.int 1)]]))
 (.seq (.set 4 (.op z00 [.v 0,.c (.int 32),.v 1]))
 (.seq (.set 5 (.op z00 [.v 0,.c (.int 33),.v 1]))
 (.seq (.set 6 (.op z00 [.v 0,.c (.int 34),.v 1]))
 (.seq (.set 7 (.op z00 [.v 0,.c (.int 35),.op pAdd [.op pSub [.v 2,.v 3],.c (.int 1)]]))
 (.seq (.own 8 (.comp 1 [] (.nm 0) (.op z4q [.v 1]) none (.c (.int 0))))
 (.seq (.put 8 (.v 4) (.op pAdd [.op pIx [.v 8,.v 4],.v 3]))
 (.seq (.put 8 (.v 5) (.op pAdd [.op pIx [.v 8,.v 5],.v 7]))
 (.seq (.put 8 (.v 6) (.op pSub [.op pSub [.op pAdd [.op pIx [.v 8,.v 6],.v 2],.v 3],.v 7]))
 (.ret (.v 8)))))))))))
def z12:Fn:=Fn.mkN 2 6 (.seq (.own 2 (.op pLst []))
 (.seq (.forr [.op pLen [.v 0]] (.nm 3) (.seq (.set 4 (.op pAdd [.c (.int 1),.op z00 [.v 1,.op pAdd [.c (.int 40),.v 3],.op pIx [.op pLst [.c (.int 1),.c (.int 6),.c (.int 60)],.op z00 [.v 1,.c (.int 39),.c (.int 3)]]]]))
 (.seq (.setx [] 5 (.op z1g [.op pAdd [.v 1,.op z0h [.c (.int 7),.v 3]],.op pLen [.op pIx [.op pIx [.v 0,.v 3],.c (.int 0)]],.v 4]))
 (.seq (.ifs (.op pEq [.op z00 [.op pAdd [.v 1,.v 3],.c (.int 38),.c (.int 4)],.c (.int 0)]) (.seq (.setx [] 5 (.comp 1 [1,3] (.nm 0) (.op z4q [.op pLen [.op pIx [.op pIx [.v 0,.v 3],.c (.int 0)]]]) none (.op pAdd [.c (.int 1),.op z00 [.op pAdd [.v 1,.v 2],.op pAdd [.c (.int 120),.v 0],.c (.int 5)]])))
 (.set 4 (.op pSum [.v 5]))) .skip)
 (.app 2 (.op z1N [.comp 1 [4,5] (.nm 0) (.op z4q [.op pLen [.v 5]]) (some (.op pGt [.op pIx [.v 2,.v 0],.c (.int 0)])) (.op pTup [.v 0,.op z01 [.op pLst [.op pIx [.v 2,.v 0],.v 1]]])]))))))
 (.ret (.op z1N [.v 2]))))
def z1r:Fn:=Fn.mkN 3 7 (.seq (.ifs (.op pEq [.op pMod [.v 1,.c (.int 2)],.c (.int 1)]) (.ret (.op z0x [.op z21 [.v 1,.c (.int 2)],.v 2])) .skip)
 (.seq (.set 3 (.op z0P [.v 0,.op z12 [.v 0,.v 1]]))
 (.seq (.set 4 (.op z00 [.v 1,.c (.int 61),.c (.int 6)]))
 (.seq (.ifs (.op pLt [.v 4,.c (.int 3)]) (.ret (.v 3)) .skip)
 (.seq (.set 5 (.op pIx [.op pLst [.c (.int 1),.op pAdd [.c (.int 1),.v 2],.op z0h [.c (.int 40),.op pAdd [.c (.int 1),.v 2]]],.op pSub [.v 4,.c (.int 3)]]))
 (.seq (.set 6 (.op pTup [.op pSub [.op z00 [.v 1,.c (.int 62),.op pAdd [.op z0h [.c (.int 2),.v 5],.c (.int 1)]],.v 5],.op pSub [.op z00 [.v 1,.c (.int 63),.op pAdd [.op z0h [.c (.int 2),.v 5],.c (.int 1)]],.v 5]]))
 (.ret (.op z0v [.v 3,.v 6,.op z01 [.op pLst [.c (.int 1),.op pAdd [.c (.int 1),.op z00 [.v 1,.c (.int 64),.c (.int 3)]]]]]))))))))
def z1q:Fn:=Fn.mkN 1 1 (.seq (.ifs (.op pEq [.op pMod [.op z0e [.v 0,.c (.int 0)],.c (.int 2)],.c (.int 1)]) (.ret (.op pIx [.op pLst [.c (.int 3),.c (.int 12),.op pPow [.c (.int 10),.c (.int 9)]],.op pMod [.op z21 [.op pIx [.v 0,.c (.int 0)],.c (.int 2)],.c (.int 3)]])) .skip)
 (.ret (.op pIx [.op pLst [.c (.int 3),.c (.int 3),.c (.int 12),.op pPow [.c (.int 10),.c (.int 9)],.op pPow [.c (.int 10),.c (.int 40)]],.op z00 [.op z0e [.v 0,.c (.int 0)],.c (.int 1),.c (.int 5)]])))
def z5j:Fn:=Fn.mkN 1 3 (.seq (.set 1 (.op z0T [.v 0]))
 (.seq (.for_ [] (.nm 2) (.sl (.op pAdd [.op pLst [.c (.int 0)],.v 0]) (some (.op pNeg [.c (.int 4)])) none) (.ifs (.not (.op z0J [.v 1,.op z1r [.v 1,.v 2,.op z1q [.v 0]]])) (.ret (.c (.bl false))) .skip))
 (.ret (.c (.bl true)))))
open Mth
def gl:Nat->List Int->Nat
 | g,[]=>g
 | g,x::l=>gl (Nat.gcd g x.natAbs) l
def ze8 {row:List Int}{Q:DK}{X:XP}(hz:row.length<=1000)(h0:gl 0 row≠0)(hb:Bt 9000 (gl 0 row:Int))(q:Q (.tup (row.map λx =>.int (x / (gl 0 row:Int))))):z01.run [.lst (row.map .int)] Q X:=by
 walk_at "fn";ac_nf;refine z0I (f :=.int) (λdn ρ=>∃(g:Nat) (x2 x3 x4:B),(∀rest,row=dn++rest->gl 0 row=gl g rest)/\ρ=[.s (.lst (row.map .int)),.s (.int (g:Int)),x2,x3,x4]) ⟨0,_,_,_,λrest e=>by rw[e];rfl,rfl⟩ ?_ ?_
 .rintro dn x r ρ e ⟨g,x2,x3,x4,hg,rfl⟩;show Sm.run _ _ _ _ _;ac_rfl;ac_nf;rw[zc6];refine z4L (λρ=>∃(a s:Nat) (y:B),Nat.gcd a s=Nat.gcd g x.natAbs/\ρ=[.s (.lst (row.map .int)),.s (.int (a:Int)),.s (.int x),.s (.int (s:Int)),y]) (λρ=>(nI ρ 3).toNat) ⟨g,x.natAbs,_,rfl,rfl⟩ ?_;rintro ρ ⟨a,s,y,es,rfl⟩;ac_nf;refine z1v (λz =>?_) (λz =>?_)
  .ac_nf;have hm:(a:Int) % (s:Int)=((a % s:Nat):Int):=by simp
   refine⟨⟨s,a % s,_,by rw[<- es,jH a s,Nat.gcd_rec s a,jH],by rw[hm]⟩,?_⟩;show ((a:Int) % (s:Int)).toNat<((s:Nat):Int).toNat
   rw[hm];have:=jb a (show 0<s by lia);lia
  .have:s=0:=by lia
   subst this;rw[Nat.gcd_zero_right] at es;refine⟨a,_,_,_,λrest' e' =>?_,rfl⟩;have:r=rest':=by
    rw[e,vn] at e';have:=List.append_cancel_left e';simpa using this
   rw[hg _ e, <- this,es]
   rfl
 rintro ρ ⟨g,x2,x3,x4,hg,rfl⟩;have eg:gl 0 row=g:=hg [] (by simp);rw[eg] at h0 hb q;ac_nf;refine⟨by rw[wd];exact szl (by lia),?_⟩;refine z1n (g:=λx =>.int (x / (g:Int))) (λx _ K k =>?_) ?_
 .have:(0:Int)<(g:Int):=by lia
  ac_nf;exact k
 ac_nf;exact q
def gl2 (t b:Int):gl 0 [t,b]=Int.gcd t b:=by
 show Nat.gcd _ _=_;rw[Nat.gcd_zero_left]
 rfl
def z7S {t b:Int}{Q:DK}{X:XP}(hb:0<b)(bb:Bt 8000 b)(q:Q (.tup [.int (t / (Int.gcd t b:Int)),.int (b / (Int.gcd t b:Int))])):z01.run [.lst [.int t,.int b]] Q X:=by
 obtain⟨g0,_,_,_,_⟩:=z4h (t:=t) hb;refine ze8 (row:=[t,b]) (by show 2<=1000;decide) (by rw[gl2];lia) (by
  rw[gl2];exact Bt.le (bb.of_abs (by
   have:=Nat.le_of_dvd (by lia) (Int.gcd_dvd_natAbs_right t b);lia))) ?_
 rw[gl2];exact q
def zea {t b:Int}{Q:DK}{X:XP}(hb:0<b)(bb:Bt 8000 b)(q:∀u w,Pl t 0 b u 0 w->Q (.tup [.int u,.int w])):z01.run [.lst [.int t,.int b]] Q X:=z7S hb bb (q _ _ (Pl.low hb))
def ze9 {x y b:Int}{Q:DK}{X:XP}(hb:0<b)(bb:Bt 8000 b)(q:∀u v t,Pl x y b u v t->Q (.tup [.int u,.int v,.int t])):z01.run [.lst [.int x,.int y,.int b]] Q X:=by
 have hg:((gl 0 [x,y,b]):Int)=g3 x y b:=by
  show ((Nat.gcd _ _:Nat):Int)=_;unfold g3;rw[z2g,Nat.gcd_zero_left];rw[jH, <- Nat.gcd_assoc]
 have hp:=zil (x:=x) (y:=y) hb;have g0:=zbB (x:=x) (y:=y) hb;have bg:Bt 9000 _:=Bt.le (bb.of_abs (by
  have:=v7.mpr (z6u x y b);exact Nat.le_of_dvd (by lia) this))
 refine ze8 (row:=[x,y,b]) (by show 3<=1000;decide) (by lia) (by rw[hg];exact bg) ?_;rw[hg];exact q _ _ _ (Pl.of hp)
def zam {u v t a c:Int}{p:P}{Q:DK}{X:XP}(ht:0<t)(hc:0<c)(bu:Bt 3000 u)(bv:Bt 3000 v)(bt':Bt 3000 t)(ba:Bt 3000 a)(bc:Bt 3000 c)(bp:Vb 150 p)(q:∀u' v' t',Pl (u*c+p.1*a*t) (v*c+p.2*a*t) (t*c) u' v' t'->Q (.tup [.int u',.int v',.int t'])):z0v.run [.tup [.int u,.int v,.int t],vec p,.tup [.int a,.int c]] Q X:=by
 obtain⟨px,py⟩:=p;obtain⟨bp1,bp2⟩:=bp;have m1  := Bt.mul bp1 ba;have m2  := Bt.mul bp2 ba;walk_at "fn";ac_nf;refine ze9 (vz ht hc) (Bt.le (Bt.mul bt' bc)) q
def ze7 {a b c d:Int}{Q:DK}{X:XP}(hb:0<b)(hd:0<d)(ba:Bt 3000 a)(bb:Bt 3000 b)(bc:Bt 3000 c)(bd:Bt 3000 d)(q:∀u t,Pl (a*d+c*b) 0 (b*d) u 0 t->Q (.tup [.int u,.int t])):z0O.run [.tup [.int a,.int b],.tup [.int c,.int d]] Q X:=by
 walk_at "fn";ac_nf;refine zea (vz hb hd) (Bt.le (Bt.mul bb bd)) q
def wsh (ws:List Int):List Sh:=((List.range ws.length).filter λk=>decide (0<ws.getD k 0)).map λk=>(k,ws.getD k 0 / (Int.gcd (ws.getD k 0) ws.sum:Int),ws.sum / (Int.gcd (ws.getD k 0) ws.sum:Int))
theorem z4U:∀{l:List Int}{i:Nat}{d:Int},i<l.length->(l.set i (l.getD i 0+d)).sum=l.sum+d
 | [],i,d,h=>by simp at h
 | x::l,0,d,_=>by simp;lia
 | x::l,i+1,d,h=>by
  have:=z4U (d:=d) (by simpa using h);simp only[List.getD_cons_succ,List.set_cons_succ,vh];lia
def zdn {α:Type}{l:List α}{i:Nat}{a x:α}(h:x∈l.set i a):x∈l\/x=a:=by
 rcases List.mem_or_eq_of_mem_set h with z | z
 .exact .inl z
 .exact .inr z
def z8Y {l:List Int}{i:Nat}(h:i<l.length):l.getD i 0∈l:=by
 simp_all
def z5b {n:Nat}{k:Int}(h0:0<=k)(h1:k<n):ixN n k=some k.toNat:=by
 unfold ixN
 simp_all
def z7E {ws:List Int}{k:Int}(h0:0<=k)(h1:k<ws.length):atI (ws.map D.int) k=some (.int (ws.getD k.toNat 0)):=by
 unfold atI;rw[wd,z5b h0 h1]
 simp_all
def z6k {k:Int}{Q:DK}{X:XP}(h : -(2 ^ 62)<=k)(h':k<2 ^ 62)(q:Q (.lst ((List.range k.toNat).map λ(j:Nat)=>D.int (j:Int)))):z4q.run [.int k] Q X:=⟨⟨h,h'⟩,q⟩
def zf7 {c:Int}{n:Nat}{m:Int}{Q:DK}{X:XP}(hn:0<n)(hn':n<=100)(hm:0<m)(hm':m<=100)(q:∀ts:List Int,ts.length=n->(∀t∈ts,0<=t)->ts.sum=m->Q (.lst (ts.map .int))):z1g.run [.int c,.int (n:Int),.int m] Q X:=by
 walk_at "fn";ac_nf;refine z10 (by decide) (by decide) (by lia) λcut c0 c1 =>?_;ac_nf;refine z10 (by decide) (by decide) (by lia) λa a0 a1 =>?_;ac_nf;refine z10 (by decide) (by decide) (by lia) λb b0 b1 =>?_;ac_nf;refine z10 (by decide) (by decide) (by lia) λe e0 e1 =>?_;ac_nf;refine z10 (by decide) (by decide) (by lia) λr r0 r1 =>?_;ac_nf;refine z6k (by lia) (by lia) ?_;ac_nf;rw[show ((n:Nat):Int).toNat=n by simp];refine⟨by rw[wd,v9];exact szl (by lia),?_⟩;refine z1n (g:=λ_ =>.int 0) (λx _ K k =>?_) ?_
 .ac_nf;exact k
 rw[show (List.range n).map (λ_=>D.int 0)=((List.range n).map λ_=>(0:Int)).map .int by rw[wK];rfl];obtain⟨ts,ets,h1,h2,h3⟩:∃ts:List Int,ts=(List.range n).map (λ_=>(0:Int))/\ts.length=n/\(∀t∈ts,0<=t)/\ts.sum=0:=⟨_,rfl,by simp,λt ht=>by(obtain⟨_,_,rfl⟩:=wj.mp ht;decide),by
  have:∀l:List Nat,(l.map λ_=>(0:Int)).sum=0:=λl=>by
   induction l with
   | nil=>rfl
   | cons a l ih=>simp[ih]
  exact this _⟩
 rw[<- ets];clear ets;refine z2n (λx hx =>?_) ?_
 .obtain⟨w,_,rfl⟩:=wj.mp hx;exact Safe.of_noL rfl rfl _
 ac_rfl;have one:∀{ts:List Int}{k:Int}{d:Int},ts.length=n->(∀t∈ts,0<=t)->0<=k->k<n->0<=d->(ts.set k.toNat (ts.getD k.toNat 0+d)).length=n/\(∀t∈ts.set k.toNat (ts.getD k.toNat 0+d),0<=t)/\(ts.set k.toNat (ts.getD k.toNat 0+d)).sum=ts.sum+d:=λ{ts k d} h1 h2 k0 k1 hd=>by
  refine⟨by rw[List.length_set];exact h1,λt ht =>?_,z4U (by lia)⟩
  rcases zdn ht with z | z
  .exact h2 t z
  .have:=h2 _ (z8Y (l:=ts) (i:=k.toNat) (by lia));lia
 have s1:=one h1 h2 a0 a1 c0;refine z45 (zf6 (z11 rfl ?_));ac_nf;refine z1c (z7E (by lia) (by lia)) ?_;ac_nf;rw[wd,z5b (by lia) (by lia)];show Sm.run _ _ _ _ _;ac_rfl;rw[<- List.map_set];generalize ts.set a.toNat (ts.getD a.toNat 0+cut)=t1 at*;obtain⟨p1,p2,p3⟩:=s1;have s2:=one p1 p2 b0 b1 r0;refine z45 (zf6 (z11 rfl ?_));ac_nf;refine z1c (z7E (by lia) (by lia)) ?_;ac_nf;rw[wd,z5b (by lia) (by lia)];show Sm.run _ _ _ _ _;ac_rfl;rw[<- List.map_set];generalize t1.set b.toNat (t1.getD b.toNat 0+r)=t2 at*;obtain⟨q1,q2,q3⟩:=s2;have s3:=one q1 q2 e0 e1 (show 0<=m - cut - r by lia);refine z45 (zf6 (z11 rfl ?_));ac_nf;refine z1c (z7E (by lia) (by lia)) ?_;ac_nf;rw[wd,z5b (by lia) (by lia)];show Sm.run _ _ _ _ _;ac_rfl;rw[<- List.map_set,show t2.getD e.toNat 0+m - cut - r=t2.getD e.toNat 0+(m - cut - r) by lia];generalize t2.set e.toNat (t2.getD e.toNat 0+(m - cut - r))=t3 at*;obtain⟨r1',r2',r3'⟩:=s3;ac_nf;exact q t3 r1' r2' (by lia)
abbrev shsD (sh:List Sh):D :=.tup (sh.map shD)
theorem zeA:∀{ws:List Int},(∀w∈ws,0<=w)->∀w∈ws,w<=ws.sum
 | [],_,w,h=>by cases h
 | x::ws,h,w,hw=>by
  have ih:=zeA (ws:=ws) λy hy=>h y (by simp[hy]);have hx:=h x (by simp);have hs  := by
   have:∀(l:List Int),(∀w∈l,0<=w)->0<=l.sum:=λl=>by
    induction l with
    | nil=>intro _;simp
    | cons a l ih=>
     intro k;have:=ih λx hx=>k x (by simp[hx]);have:=k a (by simp);rw[vh];lia
   exact this ws λy hy=>h y (by simp[hy])
  rw[vh]
  grind
def zeq (l:List Sh):noL (shsD l)=true:=z2d λd hd=>by(obtain⟨x,_,rfl⟩:=wj.mp hd;rfl)
def zer (l:List Sh):noD (shsD l)=true:=z2e λd hd=>by(obtain⟨x,_,rfl⟩:=wj.mp hd;rfl)
def zdO {ts:List Int}{Q:DK}{X:XP}{ρ:Pu.Env}{m:Int}(h4:ρ.get 4=some (.int m))(h5:ρ.get 5=some (.lst (ts.map .int)))(g4:ρ[4]? = some (.s (.int m)))(g5:ρ[5]? = some (.s (.lst (ts.map .int))))(hn:ts.length<=100)(hs:ts.sum=m)(hm:0<m)(hm':m<1000)(q:Q (shsD (wsh ts))):
  Ex.run (.op z1N [(.comp 1 [4,5] (.nm 0) (.op z4q [(.op pLen [(.v 5)])]) (some (.op pGt [(.op pIx [(.v 2),(.v 0)]),(.c (.int 0))])) (.op pTup [(.v 0),(.op z01 [(.op pLst [(.op pIx [(.v 2),(.v 0)]),(.v 1)])])]))]) ρ Q X:=by
 refine zdI (zeE (zdI (zdI (e_v ?_))));rw[h5];refine z8O ?_;ac_nf;rw[wd];refine z6k (by lia) (by lia) ?_;rw[show ((ts.length:Nat):Int).toNat=ts.length by simp];ac_nf;refine⟨by rw[wd,v9];exact szl (by lia),?_⟩;rw[show z15 1 [4,5] ρ=[.n,.s (.int m),.s (.lst (ts.map .int))] by unfold z15;simp[g4,g5]];refine z2l (f:=λ(j:Nat)=>D.int (j:Int)) (p:=λk=>decide (0<ts.getD k 0)) (g:=λk=>shD (k,ts.getD k 0 / (Int.gcd (ts.getD k 0) ts.sum:Int),ts.sum / (Int.gcd (ts.getD k 0) ts.sum:Int))) (λk hkr K k1 k2 =>?_) ?_
 .have hkl':k<ts.length:=vU.mp hkr;ac_nf;refine z1c (z7E (by lia) (by lia)) ?_;rw[show ((k:Nat):Int).toNat=k by simp];ac_nf;refine z1v (λh1 =>?_) (λh1 =>?_)
  .ac_nf;refine z1c (z7E (by lia) (by lia)) ?_;rw[show ((k:Nat):Int).toNat=k by simp];ac_nf;refine z7S hm (Bt.le (m:=10) (z0d (by lia))) ?_;ac_nf;rw[<- hs];exact k1 (vq h1)
  .exact k2 (ve h1)
 ac_nf;rw[show ∀rs:List Nat,rs.map (λk=>shD (k,ts.getD k 0 / (Int.gcd (ts.getD k 0) ts.sum:Int),ts.sum / (Int.gcd (ts.getD k 0) ts.sum:Int)))=(rs.map λk=>((k,ts.getD k 0 / (Int.gcd (ts.getD k 0) ts.sum:Int),ts.sum / (Int.gcd (ts.getD k 0) ts.sum:Int)):Sh)).map shD from λrs=>by rw[wK];rfl];exact q
theorem z8r {α β:Type}{x:α}{y:β}:∀{m:List β}{l:List α},l[m.length]? = some x->l.zip (m++[y])=l.zip m++[(x,y)]
 | [],l,h=>by
  cases l with
  | nil=>simp at h
  | cons a l=>simp_all
 | b::m,l,h=>by
  cases l with
  | nil=>simp at h
  | cons a l=>
   have:=z8r (y:=y) (by simpa using h)
   simp_all
def Pl.more {x y W u v t a c p vx vy u' v' t':Int}(hc:0<c)(h:Pl x y W u v t)(e:a*W=p*c)(s:Pl (u*c+vx*a*t) (v*c+vy*a*t) (t*c) u' v' t'):Pl (x+vx*p) (y+vy*p) W u' v' t':=by
 have hn:t*c≠0:=by have:=vz h.pos hc;lia
 have go:∀{u' u x vx:Int},u'*(t*c)=(u*c+vx*a*t)*t'->u*W=x*t->u'*W=(x+vx*p)*t':=λ{u' u x vx} e1 e2=>by
  apply vW hn
  calc u'*W*(t*c)=(u'*(t*c))*W:=by grind
   _=((u*W)*c+vx*(a*W)*t)*t':=by rw[e1];grind
   _=(x+vx*p)*t'*(t*c):=by rw[e2,e];grind
 exact⟨s.pos,s.cop,go s.cx h.cx,go s.cy h.cy⟩
structure Sw (W:Int)(n:Nat)(s:Sh):Prop where
 top:0<s.2.1
 bot:0<s.2.2
 le:s.2.1<=2*s.2.2
 dv:s.2.2 ∣ W
 ix:s.1<n
def pt (W:Int)(s:Sh):Int:=s.2.1*(W / s.2.2)
def z9z {W:Int}{s:Sh}(h:s.2.2 ∣ W):s.2.1*W=pt W s*s.2.2:=by unfold pt;rw[uK,Int.ediv_mul_cancel h]
def Sw.pt_le {W:Int}{n:Nat}{s:Sh}(h:Sw W n s)(hW:0<W):0<pt W s/\pt W s<=2*W:=by
 have e:=Int.ediv_mul_cancel h.dv;have k0  := Int.ediv_pos_of_pos_of_dvd hW (vi h.bot) h.dv;unfold pt;generalize W / s.2.2=k at*;refine⟨vz h.top k0,?_⟩;rw[<- e,vG k, <- uK];exact vY h.le (by lia)
def Sw.mul {W m:Int}{n:Nat}{s:Sh}(h:Sw W n s):Sw (W*m) n s:=⟨h.top,h.bot,h.le,jL h.dv (Int.dvd_mul_right _ _),h.ix⟩
def bt2 {k:Nat}{W:Int}(b:Bt k W):Bt (k+1) (W+W):=Bt.le (Bt.add b b) (by lia)
def Sw.bits {W:Int}{n k:Nat}{s:Sh}(h:Sw W n s)(hW:0<W)(b:Bt k W):Bt (k+1) s.2.1/\Bt k s.2.2:=by
 have:=h.top;have:=h.bot;have:=h.le;have:=Int.le_of_dvd hW h.dv;exact⟨(bt2 b).of_abs (by lia),b.of_abs (by lia)⟩
def sw (w:Nat->Int)(W:Int)(l:List Sh):Int:=(l.map λs=>w s.1*pt W s).sum
def z4S {w:Nat->Int}{W:Int}(l:List Sh)(s:Sh):sw w W (l++[s])=sw w W l+w s.1*pt W s:=by simp[sw]
theorem z6m {m:Nat}:∀{l:List Int},(∀x∈l,Bt m x)->Bt (m+l.length) l.sum
 | [],_=>Bt.le (m:=0) (z0d (by decide)) (by lia)
 | x::l,h=>by
  exact Bt.le (Bt.add (h x (by simp)) (z6m λy hy=>h y (by simp[hy]))) (by simp;lia)
def z7O {w:Nat->Int}{W:Int}{n k m:Nat}{l:List Sh}(hl:l.length<=14)(hW:0<W)(b:Bt k W)(h:∀s∈l,Sw W n s)(hw:∀i,Bt m (w i)):Bt (m+k+15) (sw w W l):=by
 refine Bt.le (z6m (m:=m+k+1) λx hx =>?_) (by rw[wd];lia);obtain⟨s,hs,rfl⟩:=wj.mp hx;have:=(h s hs).pt_le hW;exact Bt.le (Bt.mul (hw _) ((bt2 b).of_abs (by lia))) (by lia)
def cX (W:Int)(p:(List P × P) × List Sh):Int:=sw (wx p.1.1) W p.2+p.1.2.1*sw (λ_=>1) W p.2
def cY (W:Int)(p:(List P × P) × List Sh):Int:=sw (wy p.1.1) W p.2+p.1.2.2*sw (λ_=>1) W p.2
structure Crs (W:Int)(ws:List (List P × P))(co:List (List Sh)):Prop where
 len:co.length=ws.length
 ok:∀p∈ws.zip co,p.2.length<=14/\∀s∈p.2,Sw W p.1.1.length s
def zc1 {n:Nat}:Bt (n+1) 1:=Bt.le (m:=1) (z0d (by decide)) (by lia)
def cyb {n:Nat}{l:List P}(h:l≠[])(hb:Wb n l)(k:Nat):Vb n (Geo.cy l k):=hb _ (wD (z1k (vd.mpr h)))
def zll {W:Int}{k:Nat}{p:(List P × P) × List Sh}(hW:0<W)(b:Bt k W)(hx:Wt4 p.1)(hl:p.2.length<=14)(h:∀s∈p.2,Sw W p.1.1.length s):Bt (k+160) (cX W p)/\Bt (k+160) (cY W p):=by
 have s1:=z7O (m:=1) hl hW b h λ_=>zc1;exact⟨Bt.le (Bt.add (z7O hl hW b h λi=>(cyb hx.ne hx.wb i).1) (Bt.mul hx.vb.1 s1)) (by lia),Bt.le (Bt.add (z7O hl hW b h λi=>(cyb hx.ne hx.wb i).2) (Bt.mul hx.vb.2 s1)) (by lia)⟩
def zac {W:Int}{k n:Nat}{ws:List (List P × P)}{co:List (List Sh)}(hw:∀x∈ws,Wt4 x)(hz:ws.length<=12)(hW:0<W)(b:Bt k W)(hc:Crs W ws co):Bt (k+180) (((ws.zip co).take n).map (cX W)).sum/\Bt (k+180) (((ws.zip co).take n).map (cY W)).sum:=by
 have hl:((ws.zip co).take n).length<=12:=by grind
 have go:∀p∈(ws.zip co).take n,Bt _ _/\Bt _ _:=λp hp=>by
  have hp:=jy hp;exact zll hW b (hw _ (jh hp).1) (hc.ok p hp).1 (hc.ok p hp).2
 constructor
 .refine Bt.le (z6m (m:=k+160) λx hx =>?_) (by rw[wd];lia);obtain⟨p,hp,rfl⟩:=wj.mp hx;exact(go p hp).1
 .refine Bt.le (z6m (m:=k+160) λx hx =>?_) (by rw[wd];lia);obtain⟨p,hp,rfl⟩:=wj.mp hx;exact(go p hp).2
def zgB {ts:List Int}(h0:∀t∈ts,0<=t)(hs:0<ts.sum):(wsh ts≠[]/\(wsh ts).length<=ts.length)/\∀s∈wsh ts,Sw ts.sum ts.length s/\s.2.1<=s.2.2:=by
 refine⟨⟨λz =>?_,by unfold wsh;rw[wd];exact wI (List.length_filter_le _ _) (by simp)⟩,λs hs' =>?_⟩
 .have no:=List.map_eq_nil_iff.mp z;rw[List.filter_eq_nil_iff] at no;have:ts.sum=0:=by
   have e:∀l:List Int,(∀t∈l,0<=t)->(∀t∈l,¬ 0<t)->l.sum=0:=λl=>by
    induction l with
    | nil=>intros;rfl
    | cons a l ih=>
     intro p q;have:=p a (by simp);have:=q a (by simp);rw[vh,ih (λt ht=>p t (by simp[ht])) (λt ht=>q t (by simp[ht]))];lia
   refine e ts h0 λt ht =>?_;obtain⟨k,hk,rfl⟩:=List.getElem_of_mem ht;have:=no k (vU.mpr hk);rw[ug,wq hk] at this;simpa using this
  lia
 obtain⟨k,hk,rfl⟩:=wj.mp hs';obtain⟨hk1,hk2⟩:=List.mem_filter.mp hk;have hk1:=vU.mp hk1;have hk2:=v8 hk2;have hle:=zeA h0 _ (z8Y hk1);obtain⟨g0,e1,e2,e3,e4⟩:=z4h (t:=ts.getD k 0) hs;generalize (Int.gcd (ts.getD k 0) ts.sum:Int)=g at*;have hle:=Int.ediv_le_ediv g0 hle;have c0:0<ts.sum / g:=by lia
 refine⟨⟨?_,c0,by show ts.getD k 0 / g<=2*(ts.sum / g);lia,⟨g,?_⟩,hk1⟩,hle⟩
 .show 0<ts.getD k 0 / g
  rcases vT 0 (ts.getD k 0 / g) with z | z
  .exact z
  .have:=wT (vi g0) z;lia
 .show ts.sum=ts.sum / g*g;rw[vG];exact e2
def Pl.eq0 {x p W u t:Int}(h:Pl (x+1*p) (0+0*p) W u 0 t):Pl (x+1*p) 0 W u 0 t:=by simpa using h
def zcw {ws:List (List P × P)}{c:Int}{Q:DK}{X:XP}(hw:∀x∈ws,Wt4 x)(hz:ws.length<=12)(q:∀co W,0<W->Bt 85 W->Crs W ws co->(∀p∈ws.zip co,p.2≠[]/\p.2.length<=12/\∀s∈p.2,s.2.1<=s.2.2)->Q (.tup (co.map shsD))):z12.run [.tup (ws.map wtD),.int c] Q X:=by
 walk_at "fn";ac_nf;refine z2n (λx hx=>by cases hx) ?_;ac_rfl;ac_nf;rw[wd];refine z8E (by lia) (by lia) ?_;rw[show ((ws.length:Nat):Int).toNat=ws.length by simp];refine z0I (f:=λ(j:Nat)=>D.int (j:Int)) (λdn ρ=>∃(co:List (List Sh)) (x3 x4 x5:B),co.length=dn.length/\(∃W,0<W/\Bt (1+7*dn.length) W/\∀p∈ws.zip co,(p.2≠[]/\p.2.length<=12)/\∀s∈p.2,Sw W p.1.1.length s/\s.2.1<=s.2.2)/\ρ=[.s (.tup (ws.map wtD)),.s (.int c),.o (.lst (co.map shsD)),x3,x4,x5]) ⟨[],_,_,_,rfl,⟨1,by decide,z0d (by decide),λp hp=>by(simp at hp)⟩,rfl⟩ ?_ ?_
 .rintro dn k r ρ e ⟨co,x3,x4,x5,hl,⟨W,W0,bW,hco⟩,rfl⟩;have hk:k=dn.length/\k<ws.length:=by
   have h4:=congrArg List.length e;have h5:(List.range ws.length)[dn.length]? = some k:=by rw[e];simp
   rw[List.getElem?_range (by simp at h4;lia)] at h5;simp at h4 h5;lia
  obtain⟨x,hx,ex⟩:=z4t (xs:=ws) (i:=(k:Int)) (by lia) (by lia);obtain⟨wb,ne,len,vb⟩:=hw x hx;have hp:=vd.mpr ne;show Sm.run _ _ _ _ _;ac_rfl;ac_nf;refine z10 (by decide) (by decide) (by decide) λr0 r00 r01 =>?_;ac_nf;refine menu (ns:=[1,6,60]) r00 (by show r0<3;exact r01) λm hm =>?_;have hm':0<m/\m<=60:=by
   simp only[wg,wA,vS] at hm;lia
  clear hm;refine z10 (by lia) (by lia) hm'.1 λb b0 b1 =>?_;ac_nf;ac_rfl;ac_nf;refine z1c (z0D ex) ?_;ac_nf;rw[wd];refine zf7 hp (by lia) (by lia) (by lia) λts h1 h2 h3 =>?_;ac_rfl;refine zhe (λρ'=>∃(ts:List Int) (m:Int),ts.length=x.1.length/\(∀t∈ts,0<=t)/\ts.sum=m/\0<m/\m<=60/\ρ'=[.s (.tup (ws.map wtD)),.s (.int c),.o (.lst (co.map shsD)),.s (.int (k:Int)),.s (.int m),.s (.lst (ts.map .int))]) ?_ ?_
  .ac_nf;refine z10 (by decide) (by decide) (by decide) λr1 r10 r11 =>?_;ac_nf;refine z1v (λ_ =>?_) (λ_ =>?_)
   .ac_nf;ac_rfl;ac_nf;refine z1c (z0D ex) ?_;ac_nf;rw[wd];refine z6k (by lia) (by lia) ?_;rw[show ((x.1.length:Nat):Int).toNat=x.1.length by simp];ac_nf;refine⟨by rw[wd,v9];exact szl (by lia),?_⟩;refine z3Y (f:=λ(j:Nat)=>D.int (j:Int)) (g:=D.int) (P:=λ_ y=>1<=y/\y<=5) (λj hj K hK =>?_) λys hyl hy =>?_
    .have:=vU.mp hj;ac_nf;refine z10 (by lia) (by lia) (by decide) λv v0 v1 =>?_;ac_nf;exact hK _ ⟨by lia,by lia⟩
    ac_rfl;ac_nf;refine zkR ?_;have hy':∀y∈ys,1<=y/\y<=5:=λy hy1=>(hy y hy1).choose_spec.2;have hyl:ys.length=x.1.length:=by rw[hyl,v9]
    have bd:∀l:List Int,(∀y∈l,1<=y/\y<=5)->(l.length:Int)<=l.sum/\l.sum<=5*(l.length:Int):=λl=>by
     induction l with
     | nil=>intro _;simp
     | cons a l ih=>
      intro h;have:=ih λy hy=>h y (by simp[hy]);have:=h a (by simp);rw[vh,wO];lia
    have:=bd ys hy';ac_nf;exact⟨ys,_,hyl,λy hy=>by have:=hy' y hy;lia,rfl,by lia,by lia,rfl⟩
   .ac_nf;exact⟨ts,_,h1,h2,h3,by lia,by lia,rfl⟩
  rintro ρ ⟨ts,m,h1,h2,h3,m0,m1,rfl⟩;refine z63 (l:=[]) (z11 rfl ?_);refine zdO rfl rfl rfl rfl (by lia) h3 m0 (by lia) ?_;refine⟨by rw[wd];exact szl' (by lia),Safe.of_noL (zeq _) (zer _) _,?_⟩;ac_rfl;refine⟨co++[wsh ts],_,_,_,by simp[hl],⟨W*m,vz W0 m0,Bt.le (Bt.mul bW (z0d (n:=6) (by lia))) (by simp;lia),λp hp' =>?_⟩,by rw[wH];rfl⟩;have ok:=zgB h2 (by lia);rw[h1,h3] at ok;have ex':ws[co.length]? = some x:=by
   unfold atI at ex;rw[z5b (by lia) (by lia)] at ex;have ex:ws[((k:Nat):Int).toNat]? = some x:=ex;rw[show ((k:Nat):Int).toNat=co.length by lia] at ex;exact ex
  rw[z8r ex'] at hp'
  rcases wZ.mp hp' with z | z
  .exact⟨(hco p z).1,λs hs=>⟨((hco p z).2 s hs).1.mul,((hco p z).2 s hs).2⟩⟩
  .rw[wt.mp z];refine⟨⟨ok.1.1,by have:=ok.1.2;show (wsh ts).length<=12;lia⟩,λs hs=>⟨?_,(ok.2 s hs).2⟩⟩;rw[vG];exact(ok.2 s hs).1.mul
 rintro ρ ⟨co,x3,x4,x5,hl,⟨W,W0,bW,hco⟩,rfl⟩;ac_nf;rw[v9] at hl bW;exact q co W W0 (bW.le (by lia)) ⟨hl,λp hp=>⟨by have:=(hco p hp).1.2;lia,λs hs=>((hco p hp).2 s hs).1⟩⟩ λp hp=>⟨(hco p hp).1.1,(hco p hp).1.2,λs hs=>((hco p hp).2 s hs).2⟩
def zdZ {α β:Type}{l:List α}{m:List β}(h:m.length=l.length){dn:List Nat}{k:Nat}{r:List Nat}(e:List.range m.length=dn++k::r):∃x y,k=dn.length/\atI l (k:Int)=some x/\atI m (k:Int)=some y/\(l.zip m)[k]? = some (x,y):=by
 have h4:=congrArg List.length e;have h5:(List.range m.length)[dn.length]? = some k:=by rw[e];simp
 rw[List.getElem?_range (by simp at h4;lia)] at h5;simp at h4 h5;have hk:k<m.length:=by lia
 refine⟨l[k],m[k],by lia,?_,?_,?_⟩
 .unfold atI;rw[z5b (by lia) (by lia)]
  simp_all
 .unfold atI;rw[z5b (by lia) (by lia)]
  simp_all
 .rw[wq (by grind),List.getElem_zip]
def zhd {ws:List (List P × P)}{co:List (List Sh)}{W:Int}{Q:DK}{X:XP}(hw:∀x∈ws,Wt4 x)(hz:ws.length<=12)(hW:0<W)(bW:Bt 1500 W)(hc:Crs W ws co)(q:∀u v t,Pl ((ws.zip co).map (cX W)).sum ((ws.zip co).map (cY W)).sum W u v t->Q (.tup [.int u,.int v,.int t])):z0P.run [.tup (ws.map wtD),.tup (co.map shsD)] Q X:=by
 have hl:=hc.len;have hzl:(ws.zip co).length=ws.length:=by rw[jN];lia
 have zero:Pl 0 0 W 0 0 1:=⟨by decide,by decide,by simp,by simp⟩
 walk_at "fn";ac_nf;rw[wd];refine z8E (by lia) (by lia) ?_;rw[show ((co.length:Nat):Int).toNat=co.length by simp];refine z0I (f:=λ(j:Nat)=>D.int (j:Int)) (λdn ρ=>∃(u v t:Int) (x3 x4 x5 x6:B),Pl (((ws.zip co).take dn.length).map (cX W)).sum (((ws.zip co).take dn.length).map (cY W)).sum W u v t/\ρ=[.s (.tup (ws.map wtD)),.s (.tup (co.map shsD)),.s (.tup [.int u,.int v,.int t]),x3,x4,x5,x6]) ⟨0,0,1,_,_,_,_,zero,rfl⟩ ?_ ?_
 .rintro dn k r ρ e ⟨u,v,t,x3,x4,x5,x6,hp,rfl⟩;obtain⟨x,sh,ek,e1,e2,e3⟩:=zdZ hl e;have hm:=wD e3;have hx:Wt4 x:=hw x (jh hm).1;obtain⟨hs12,hs⟩:=hc.ok _ hm;dsimp only at hs12 hs;obtain⟨bA,bB⟩:=zac (n:=dn.length) hw hz hW bW hc;have nx:(ws.zip co).take (dn++[k]).length=(ws.zip co).take dn.length++[(x,sh)]:=by rw[wL,ji,List.take_succ, <- ek,e3];rfl
  rw[nx,wH,jp,wH,jp];generalize (((ws.zip co).take dn.length).map (cX W)).sum=A at hp bA ⊢;generalize (((ws.zip co).take dn.length).map (cY W)).sum=C at hp bB ⊢;have bits:∀l:List Sh,(∀s∈l,s∈sh)->l.length<=14->∀{u v t a b:Int},Pl (A+sw (wx x.1) W l) (C+sw (wy x.1) W l) W u v t->Pl (sw (λ_=>1) W l) 0 W a 0 b->Bt 1500 t/\Bt 1700 u/\Bt 1700 v/\Bt 1500 b/\Bt 1520 a:=λl hl h12 {u v t a b} h1 h2=>by
   have hs':∀s∈l,Sw W x.1.length s:=λs h=>hs s (hl s h);obtain⟨c1,c2,c3⟩:=h1.bt (n:=1500) (m:=1700) hW bW (Bt.le (Bt.add bA (z7O h12 hW bW hs' λi=>(cyb hx.ne hx.wb i).1))) (Bt.le (Bt.add bB (z7O h12 hW bW hs' λi=>(cyb hx.ne hx.wb i).2)));obtain⟨c4,c5,_⟩:=h2.bt (n:=1500) (m:=1520) hW bW (Bt.le (z7O (w:=λ_=>1) (m:=1) h12 hW bW hs' λ_=>zc1)) (Bt.le (m:=0) (z0d (by decide)));exact⟨c1,c2,c3,c4,c5⟩
  show Sm.run _ _ _ _ _;ac_rfl;ac_nf;refine z1c (z0D e2) ?_;ac_nf;refine z0I (f:=shD) (λdn' ρ=>∃(u v t a b:Int) (x5 x6:B),Pl (A+sw (wx x.1) W dn') (C+sw (wy x.1) W dn') W u v t/\Pl (sw (λ_=>1) W dn') 0 W a 0 b/\ρ=[.s (.tup (ws.map wtD)),.s (.tup (co.map shsD)),.s (.tup [.int u,.int v,.int t]),.s (.int (k:Int)),.s (.tup [.int a,.int b]),x5,x6]) ⟨u,v,t,0,1,_,_,by simpa[sw] using hp,zero,rfl⟩ ?_ ?_
  .rintro dn' s r' ρ e' ⟨u,v,t,a,b,x5,x6,hp,ht,rfl⟩;have hs1:=hs s (by rw[e'];simp);have hsc:=hs1.bot;obtain⟨b10,b11⟩:=hs1.bits hW bW;have l12:dn'.length<=14:=by have:=congrArg List.length e';simp at this;lia
   obtain⟨bt1,bu,bv,bb1,ba1⟩:=bits dn' (λs h=>by rw[e'];simp[h]) l12 hp ht;refine⟨rfl,?_⟩;show Sm.run _ _ _ _ _;unfold z0G z0G z0G;ac_rfl;ac_nf;refine z1c (z0D e1) ?_;ac_nf;refine z1c (z0D (z8j hs1.ix)) ?_;ac_nf;refine zam hp.pos hsc bu.le bv.le bt1.le b10.le b11.le ⟨(cyb hx.ne hx.wb s.1).1.le,(cyb hx.ne hx.wb s.1).2.le⟩ λu' v' t' h' =>?_;refine z0L (Safe.of_noL rfl rfl _) ?_;ac_rfl;ac_nf;refine ze7 ht.pos hsc ba1.le bb1.le b10.le b11.le λa' b' h2 =>?_;refine z0L (Safe.of_noL rfl rfl _) ?_;ac_rfl;refine⟨u',v',t',a',b',_,_,?_,?_,rfl⟩
   .rw[z4S,z4S, <- Int.add_assoc, <- Int.add_assoc];exact hp.more hsc (z9z hs1.dv) h'
   .rw[z4S];exact(ht.more (vx:=1) (vy:=0) hsc (z9z hs1.dv) (by simpa using h2)).eq0
  rintro ρ ⟨u,v,t,a,b,x5,x6,hp,ht,rfl⟩;obtain⟨bt1,bu,bv,bb1,ba1⟩:=bits sh (λs h=>h) hs12 hp ht;ac_nf;refine z1c (z0D e1) ?_;ac_nf;refine zam hp.pos ht.pos bu.le bv.le bt1.le ba1.le bb1.le ⟨hx.vb.1.le,hx.vb.2.le⟩ λu' v' t' h' =>?_;refine z0L (Safe.of_noL rfl rfl _) ?_;ac_rfl;refine⟨u',v',t',_,_,_,_,?_,rfl⟩;have:=hp.more ht.pos ht.cx h';simpa[cX,cY,Int.add_assoc] using this
 rintro ρ ⟨u,v,t,x3,x4,x5,x6,hp,rfl⟩;rw[v9,v3 (by lia)] at hp;ac_nf;exact q u v t hp
def z6V {c m:Int}{Q:DK}{X:XP}(h0:0<m)(h1:m<=10000000000000000000000000000000000000000)(q:∀u v t,Pc u v t->Q (.tup [.int u,.int v,.int t])):z0x.run [.int c,.int m] Q X:=by
 have bm:Bt 135 (m+1):=z0d (by lia);walk_at "fn";ac_nf;obtain⟨w,hw,w0,w1⟩:∃w,w=80*(m+1)+1/\0<w/\w<100000000000000000000000000000000000000000000:=⟨_,rfl,by lia,by lia⟩
 rw[<- hw];clear hw;have bw:Bt 9000 w:=Bt.le (m:=150) (z0d (by lia));ac_nf;have a1:=jO c (show w≠0 by lia);have a2:=je c w0;have a3:=jO (c / w) (show w≠0 by lia);have a4:=je (c / w) w0;have a5:0<=c / w / w % 60/\c / w / w % 60<60:=by lia
 generalize c % w=x at*;generalize c / w % w=y at*;generalize c / w / w % 60=z at*;refine ze9 (by lia) (Bt.le (m:=10) (z0d (by lia))) λu v t h =>?_;exact q u v t (h.pc (by lia) (Bt.le (m:=10) (z0d (by lia))) (Bt.le (m:=150) (z0d (by lia))) (Bt.le (m:=150) (z0d (by lia))))
def zhc {ws:List (List P × P)}{c m:Int}{Q:DK}{X:XP}(hw:∀x∈ws,Wt4 x)(hz:ws.length<=12)(h0:0<m)(h1:m<=10000000000000000000000000000000000000000)(q:∀u v t,Pc u v t->Q (.tup [.int u,.int v,.int t])):z1r.run [.tup (ws.map wtD),.int c,.int m] Q X:=by
 have bm:Bt 135 (1+m):=z0d (by lia);walk_at "fn";ac_nf;refine z1v (λ_ =>?_) (λ_ =>?_)
 .ac_nf;exact z6V h0 h1 q
 ac_nf;refine zcw hw hz λco W W0 bW hc _ =>?_;obtain⟨bA,bB⟩:=zac (n:=100) hw hz W0 bW hc;rw[v3 (by rw[jN];lia)] at bA bB;refine zhd hw hz W0 bW.le hc λu v t hp =>?_;refine z0L (Safe.of_noL rfl rfl _) ?_;ac_rfl;have pb:Pc u v t:=hp.pc W0 bW.le bA.le bB.le;obtain⟨bt1,bu,bv⟩:=hp.bt W0 bW bA bB;ac_nf;refine z10 (by decide) (by decide) (by decide) λr r0 r1 =>?_;ac_nf;refine z1v (λ_ =>?_) (λhr =>?_)
 .ac_nf;exact q u v t pb
 ac_nf;refine menu (ns:=[1,1+m,40*(1+m)]) (by lia) (by show r - 3<3;lia) λs hs =>?_;have hs':0<s/\s<=10000000000000000000000000000000000000000000:=by
  simp only[wg,wA,vS] at hs;lia
 clear hs;have bs:Bt 145 s:=z0d (by lia);ac_nf;refine z10 (by decide) (by decide) (by lia) λx x0 x1 =>?_;ac_nf;refine z10 (by decide) (by decide) (by lia) λy y0 y1 =>?_;ac_nf;refine z10 (by decide) (by decide) (by decide) λz z0 z1 =>?_;ac_nf;refine zea (by lia) (Bt.le (m:=10) (z0d (by lia))) λa b hab =>?_;obtain⟨b1,b2,_⟩:=hab.bt (n:=10) (m:=10) (by lia) (z0d (by lia)) (z0d (by decide)) (z0d (by decide));have vs:Vb 149 (x - s,y - s):=⟨z0d (by show (x - s).natAbs<2 ^ 149;lia),z0d (by show (y - s).natAbs<2 ^ 149;lia)⟩
 refine zam (p:=(x - s,y - s)) pb.pos hab.pos bu.le bv.le bt1.le b2.le b1.le ⟨vs.1.le,vs.2.le⟩ λu' v' t' h' =>?_;refine q u' v' t' (h'.pc (vz pb.pos hab.pos) (Bt.le (Bt.mul bt1 b1)) (Bt.le (Bt.add (Bt.mul bu b1) (Bt.mul (Bt.mul vs.1 b2) bt1))) (Bt.le (Bt.add (Bt.mul bv b1) (Bt.mul (Bt.mul vs.2 b2) bt1))))
structure Gd (W:Int)(n:Nat)(sh:List Sh):Prop where
 each:∀s∈sh,Sw W n s/\Int.gcd s.2.1 s.2.2=1
 up:sh.Pairwise (λa b=>a.1<b.1)
 few:sh.length<=3
def z7R {l:List P}{xs:List (P × Int)}{Q:DK}{X:XP}(hl:∀x∈xs,x.1∈l)(hz:l.length<=62)(nd:(xs.map (·.1)).Nodup)(h3:xs.length<=3)(h0:∀x∈xs,0<=x.2)(hW:0<(xs.map (·.2)).sum)(bW:Bt 1400 (xs.map (·.2)).sum)
  (q:∀sh,Gd (xs.map (·.2)).sum l.length sh->(∀(w:Nat->Int) (f:P->Int),(∀k,w k=f (Geo.cy l k))->sw w (xs.map (·.2)).sum sh=(xs.map λx=>f x.1*x.2).sum)->Q (.tup (sh.map shD))):z0N.run [vecs l,vecs (xs.map (·.1)),.tup ((xs.map (·.2)).map .int)] Q X:=by
 walk_at "fe";ac_nf;refine⟨_,rfl,?_⟩;generalize eW:(xs.map (·.2)).sum=W at*;ac_nf;refine zj1 ?_;rw[wK,wK,List.zip_map',wK];ac_nf;refine⟨by rw[wd];exact szl' (by lia),?_⟩;refine z2l (f:=λx:P × Int=>D.tup [vec x.1,.int x.2]) (p:=λx=>decide (0<x.2)) (g:=λx=>pdD (rwOf l W x)) (λx hx K k1 k2 =>?_) ?_
 .refine⟨rfl,?_⟩;show Ex.run _ _ _ _;unfold z0G z0G z0G;ac_rfl;ac_nf;refine z1v (λz =>?_) (λz =>?_)
  .ac_nf;refine zg2 (hl x hx) ?_;ac_nf;refine zcu hW bW ?_;ac_nf;exact k1 (vq z)
  .exact k2 (ve z)
 generalize eF:(xs.filter λx=>decide (0<x.2))=F;have hF:∀x∈F,x∈xs/\0<x.2:=λx hx=>by
  rw[<- eF] at hx;obtain⟨h1,h2⟩:=List.mem_filter.mp hx;exact⟨h1,v8 h2⟩
 have lF:F.length<=3:=by
  rw[<- eF];exact wI (List.length_filter_le _ _) h3
 rw[show (F.map λx=>pdD (rwOf l W x))=(F.map (rwOf l W)).map pdD by rw[wK];rfl];refine⟨⟨trivial,trivial,trivial,trivial,trivial,trivial⟩,?_⟩;ac_rfl;ac_nf;refine⟨F.map (rwOf l W),rfl,?_,by rw[wd];lia,λrl pm pw =>?_⟩
 .rw[wK];have n1:(F.map (·.1)).Nodup:=by
   rw[<- eF];exact(List.filter_sublist.map _).nodup nd
  unfold List.Nodup at n1 ⊢;rw[wN] at n1 ⊢;refine n1.imp_of_mem λ{a b} ha hb hab e =>?_;have e:((idx l a.1:Nat):Int)=(idx l b.1:Nat):=e;exact hab (zgi (hl a (hF a ha).1) (hl b (hF b hb).1) (by lia))
 ac_nf;have hrl:∀y∈rl,∃x∈F,y=rwOf l W x:=λy hy=>by
  obtain⟨x,hx,e⟩:=wj.mp (pm.mem_iff.mp hy);exact⟨x,hx,e.symm⟩
 have e1:rl.map pdD=(rl.map back).map shD:=by
  rw[wK];apply ul;intro y hy;obtain⟨x,hx,rfl⟩:=hrl y hy;show pdD (rwOf l W x)=shD (back (rwOf l W x));rw[z6D]
  rfl
 have pm2:(rl.map back).Perm (F.map (shOf l W)):=by
  have:=pm.map back
  rwa [wK,show back ∘ rwOf l W=shOf l W from funext λx=>z6D l W x] at this
 rw[e1];have hs:∀s∈rl.map back,∃x∈F,s=shOf l W x:=λs hs=>by
  obtain⟨x,hx,e⟩:=wj.mp (pm2.mem_iff.mp hs);exact⟨x,hx,e.symm⟩
 have sg:∀s∈rl.map back,Sw W l.length s/\Int.gcd s.2.1 s.2.2=1:=λs hs'=>by
  obtain⟨x,hx,rfl⟩:=hs s hs';obtain⟨x1,x2⟩:=hF x hx;obtain⟨g0,f1,f2,f3,f4⟩:=z4h (t:=x.2) hW;have xW:x.2<=W:=by
   rw[<- eW];exact(z4e λy hy=>by obtain⟨z,hz,rfl⟩:=wj.mp hy;exact h0 z hz).2 _ (u8 x1)
  have le:=Int.ediv_le_ediv g0 xW;refine⟨⟨?_,by show 0<W / (Int.gcd x.2 W:Int);lia,by show x.2 / (Int.gcd x.2 W:Int)<=2*(W / (Int.gcd x.2 W:Int));lia,⟨_,f2.trans (vG _ _)⟩,z8X (hl x x1)⟩,f4⟩;show 0<x.2 / (Int.gcd x.2 W:Int)
  rcases vT 0 (x.2 / (Int.gcd x.2 W:Int)) with z | z
  .exact z
  .have:=wT (vi g0) z;lia
 refine q _ ⟨sg,?_,by rw[pm2.length_eq,wd];exact lF⟩ λw f hw =>?_
 .rw[wN];refine pw.imp_of_mem λ{a b} ha hb hab =>?_;obtain⟨x,_,rfl⟩:=hrl a ha;obtain⟨y,_,rfl⟩:=hrl b hb;rw[z6D,z6D];have hab:((idx l x.1:Nat):Int)<(idx l y.1:Nat):=hab;show idx l x.1<idx l y.1;lia
 .unfold sw;rw[z72 pm2,wK, <- z91 (l:=xs) h0 (λx hx=>by rw[hx,Int.mul_zero]),eF]
  congr 1
  apply ul;intro x hx;obtain⟨x1,x2⟩:=hF x hx;obtain⟨g0,f1,f2,f3,f4⟩:=z4h (t:=x.2) hW;show w (idx l x.1)*(x.2 / (Int.gcd x.2 W:Int)*(W / (W / (Int.gcd x.2 W:Int))))=f x.1*x.2;rw[hw,zjB (hl x x1)];have e2:W / (W / (Int.gcd x.2 W:Int))=(Int.gcd x.2 W:Int):=Int.ediv_eq_of_eq_mul_left (by lia) f2;rw[e2,vG (x.2 / _), <- f1]
structure LedW (l:List P)(x y t W:Int)(sh:List Sh):Prop where
 pos:0<W
 bt:Bt 1400 W
 gd:Gd W l.length sh
 one:sw (λ_=>1) W sh=W
 ex:sw (wx l) W sh*t=W*x
 ey:sw (wy l) W sh*t=W*y
def zap {l:List P}{x y t:Int}{xs:List (P × Int)}{Q:DK}{X:XP}(hz:l.length<=62)(g:Prt l x y t xs)(q2:∀sh W,LedW l x y t W sh->Q (.tup (sh.map shD))):
  z0N.run [vecs l,vecs (xs.map (·.1)),.tup ((xs.map (·.2)).map .int)] Q X:=by
 refine z7R g.mem hz g.nd g.few g.nn g.pos g.bt λsh G k=>q2 sh _ ⟨g.pos,g.bt,G,?_,?_,?_⟩
 .rw[k _ (λ_=>1) λ_=>rfl]
  simp_all
 .rw[k (wx l) _ λ_=>rfl];exact g.ex
 .rw[k (wy l) _ λ_=>rfl];exact g.ey
def z6P {l:List P}{x y t:Int}{Q:DK}{X:XP}(hn:l≠[])(hz:l.length<=62)(hb:Wb 600 l)(pc:Pc x y t)
  (q1:∀b,b≠(0,0)->Vb 700 b->(∀p∈l,dot p b*t<dot (x,y) b)->Q (brD b)) (q2:∀sh W,LedW l x y t W sh->Q (swD sh)):z2G.run [vecs l,pcD x y t] Q X:=by
 walk_at "fn";ac_nf;refine z0z (.inl rfl) hb.le (by lia) λh hhd =>?_;have hh:=hhd.is hn;have hl:=z1M hh.nodup hh.sub;have hbh:Wb 600 h:=λp hp=>hb p (hh.sub p hp);have hne:h≠[]:=by obtain⟨m,tl,em,_⟩:=hh.ex;rw[em];simp
 have pos:=pc.pos;refine z0L (Safe.of_noL (z1S _) (z1T _) _) ?_;ac_rfl;ac_nf;refine zat hh hbh (by lia) pc (λb b0 bb hbar =>?_) λw =>?_
 .ac_nf;refine z6J rfl ?_;ac_nf;exact q1 b b0 bb hbar
 ac_nf;refine zgS rfl ?_;ac_nf;rw[wd];refine z1v (λz =>?_) (λz =>?_)
 .obtain⟨a,b,rfl⟩:∃a b,h=[a,b]:=by
   match h,z with
   | [a,b],_=>exact⟨a,b,rfl⟩
  have va:=hbh a (by simp);have vb:=hbh b (by simp);ac_nf;refine zhb va vb pc ?_;ac_nf;refine t_no (by simp) ?_;ac_nf;refine zap hz (zfI pc hh (hh.sub a (by simp)) (hh.sub b (by simp)) va vb w) λsh W L =>?_;ac_nf;exact q2 sh W L
 ac_nf;rw[wd];refine z1v (λz3 =>?_) (λz3 =>?_)
 .ac_nf;refine zcy hbh (by lia) (by lia) pc w λk F =>?_;refine z0L (Safe.of_noL (z1S _) (z1T _) _) ?_;ac_rfl;ac_nf;refine zh9 (cyw hne hbh _) (cyw hne hbh _) (cyw hne hbh _) pc ?_;ac_nf;refine zap hz (zaB pc hh hh.sub hbh F) λsh W L =>?_;ac_nf;exact q2 sh W L
 .obtain⟨m,rfl⟩:∃m,h=[m]:=by
   match h,hne,z,z3 with
   | [m],_,_,_=>exact⟨m,rfl⟩
   | _::_::r,_,z,z3=>simp at z z3;lia
  ac_nf;refine zap hz (zfJ (hh.sub m (by simp)) w) λsh W L =>?_;ac_nf;exact q2 sh W L
def ky (st v:P):P:=(dot v (rt st),dot v st)
def zbe {a b c d:P}(h:LxG a b)(k:LxG c d):LxG (Geo.pl a c) (Geo.pl b d):=by
 simp[LxG,Geo.pl] at*;lia
def zds (st u v:P):ky st (Geo.pl u v)=Geo.pl (ky st u) (ky st v):=by
 simp[ky,Geo.pl,dot,rt,Prod.mk.injEq]
 grind
def Top (S:P->Prop)(st q:P):Prop:=S q/\∀r,S r->LxG (ky st q) (ky st r)
def zgN {l:List P}{st v s:P}(h:Top (· ∈ l) st v):Top (· ∈ l.map (mv s)) st (mv s v):=by
 refine⟨u8 h.1,λr hr =>?_⟩;obtain⟨u,hu,rfl⟩:=wj.mp hr;have e:∀v,mv s v=Geo.pl v s:=λv=>rfl;rw[e,e,zds,zds];exact zbe (h.2 u hu) (.inr ⟨rfl,jk _⟩)
def zcg {ds:List (List P)}{d:List P}{st p q:P}(h:Top (· ∈ d) st p)(k:Top (Ms ds) st q):Top (Ms (d::ds)) st (Geo.pl p q):=by
 refine⟨⟨p,h.1,q,k.1,rfl⟩,λr hr =>?_⟩;obtain⟨u,hu,v,hv,rfl⟩:=hr;rw[zds,zds];exact zbe (h.2 u hu) (k.2 v hv)
def zgO {S:P->Prop}{h:List P}{k:Nat}{q:P}(x:z08 S h)(hk:k<h.length)(t:Top S (stp (Geo.cy h (k+h.length - 1)) (Geo.cy h k)) q):q=Geo.cy h k:=by
 rcases wJ 1 h.length with z | z
 .have e:=z35 x (by lia) (k+h.length - 1);rw[show k+h.length - 1+1=k+h.length by lia,show Geo.cy h (k+h.length)=Geo.cy h k by unfold Geo.cy;rw[ua]] at e;generalize Geo.cy h (k+h.length - 1)=a at*;generalize Geo.cy h k=b at*;have t1:=t.2 b e.sb;have e1:=e.left q t.1;have e2:=e.btw q t.1;have sq:0<(b.1 - a.1)*(b.1 - a.1)+(b.2 - a.2)*(b.2 - a.2):=sqp λw=>e.ne (uf (by lia) (by lia));simp only[LxG,ky,stp,rt,dot,Geo.cr,Geo.dot] at t1 e1 e2;have k1:(b.1 - a.1)*(q.2 - a.2) - (b.2 - a.2)*(q.1 - a.1)=0:=by
   rcases t1 with w | w
   .grind
   .grind
  obtain⟨e3,e4⟩:=e2 k1;have k2:(b.1 - a.1)*(q.1 - b.1)+(b.2 - a.2)*(q.2 - b.2)=0:=by
   rcases t1 with w | w
   .grind
   .grind
  have k3:(b.1 - a.1)*(q.2 - b.2) - (b.2 - a.2)*(q.1 - b.1)=0:=by grind
  generalize b.1 - a.1=c at*;generalize b.2 - a.2=d at*;have m1:(c*c+d*d)*(q.1 - b.1)=0:=by
   have:(c*c+d*d)*(q.1 - b.1)=c*(c*(q.1 - b.1)+d*(q.2 - b.2)) - d*(c*(q.2 - b.2) - d*(q.1 - b.1)):=by grind
   rw[this,k2,k3];simp
  have m2:(c*c+d*d)*(q.2 - b.2)=0:=by
   have:(c*c+d*d)*(q.2 - b.2)=d*(c*(q.1 - b.1)+d*(q.2 - b.2))+c*(c*(q.2 - b.2) - d*(q.1 - b.1)):=by grind
   rw[this,k2,k3];simp
  have n1:=(wV.mp m1).resolve_left (by lia);have n2:=(wV.mp m2).resolve_left (by lia);exact uf (by lia) (by lia)
 .obtain⟨m,r,rfl,_,_,_,⟨rfl,c⟩ | ⟨c,_⟩⟩:=x.ex
  .have:k=0:=by simpa using hk
   subst this;exact c q t.1
  .cases r with
   | nil=>exact absurd rfl c
   | cons=>simp at z
def z6T {l:List P}{st:P}{Q:DK}{X:XP}(hn:l≠[])(hz:l.length<=12)(hb:Wb 140 l)(hs:Vb 300 st)(q:∀i,i<l.length->Top (· ∈ l) st (Geo.cy l i)->Q (.int (i:Int))):z2j.run [vecs l,vec st] Q X:=by
 have hr:Vb 300 (rt st):=⟨hs.2,hs.1.neg⟩
 walk_at "fn";ac_nf;refine z5J ?_;refine z0L (Safe.of_noL rfl rfl _) ?_;ac_rfl;ac_nf;refine⟨by rw[wd];exact szl' (by lia),?_⟩;refine z1n (g:=λp=>vec (ky st p)) (λp hp K hK =>?_) ?_
 .ac_nf;refine z3J (hb p hp).le hr.le ?_;ac_nf;refine z3J (hb p hp).le hs.le ?_;ac_nf;exact hK
 ac_rfl;ac_nf;refine⟨l.map (ky st),by rw[wK];rfl,by simpa using hn,by rw[wd];lia,λi m e hm =>?_⟩;rw[wG] at e
 cases z:l[i]? with
 | none=>rw[z] at e;cases e
 | some v=>
  rw[z] at e
  cases e
  have hi:i<l.length:=(wu.mp z).1;have ev:Geo.cy l i=v:=by
   have:=z1k (h:=l) (i:=i) (by lia);rw[wU hi,z] at this;exact(w5 this).symm
  refine q i hi ?_;rw[ev];exact⟨wD z,λu hu=>hm _ (u8 hu)⟩
def stq (h:List P)(s:Sh):P:=stp (Geo.cy h (s.1+h.length - 1)) (Geo.cy h s.1)
abbrev enD (s:Sh):Int × D:=((s.1:Int),vec s.2)
abbrev foD (fs:List Sh):D:=dkI (fs.map enD)
def zfC {fs:List Sh}{s:Sh}(h:∀x∈fs,x.1≠s.1):putD ((fs.map enD).map λr=>(Sum.inl r.1,r.2)) (.inl (s.1:Int)) (vec s.2)=((fs++[s]).map enD).map λr=>(Sum.inl r.1,r.2):=by
 unfold putD;rw[if_neg]
 .simp
 .simp only[List.any_eq_true,not_exists,not_and];intro p hp;obtain⟨r,hr,rfl⟩:=wj.mp hp;obtain⟨x,hx,rfl⟩:=wj.mp hr;have:=h x hx;simp;lia
def zcc {fs:List Sh}{i:Nat}(h:∀x∈fs,x.1≠i):valD ((fs.map enD).map λr=>(Sum.inl r.1,r.2)) (.inl (i:Int))=none:=by
 unfold valD;rw[List.find?_eq_none.mpr]
 .rfl
 .intro p hp;obtain⟨r,hr,rfl⟩:=wj.mp hp;obtain⟨x,hx,rfl⟩:=wj.mp hr;have:=h x hx;simp;lia
def zcb {A C:List Sh}{s:Sh}(h:∀x∈A,x.1≠s.1):valD (((A++s::C).map enD).map λr=>(Sum.inl r.1,r.2)) (.inl (s.1:Int))=some (vec s.2):=by
 unfold valD;rw[wH,wH,List.find?_append,List.find?_eq_none.mpr]
 .simp
 .intro p hp;obtain⟨r,hr,rfl⟩:=wj.mp hp;obtain⟨x,hx,rfl⟩:=wj.mp hr;have:=h x hx;simp;lia
def zfB {A C:List Sh}{s s':Sh}(e:s'.1=s.1)(h:∀x∈A++C,x.1≠s.1):putD (((A++s::C).map enD).map λr=>(Sum.inl r.1,r.2)) (.inl (s.1:Int)) (vec s'.2)=((A++s'::C).map enD).map λr=>(Sum.inl r.1,r.2):=by
 unfold putD;have go:∀l:List Sh,(∀x∈l,x.1≠s.1)->(((l.map enD).map λr=>((Sum.inl r.1,r.2):Key × D)).map λp=>if p.1=(.inl (s.1)) then (p.1,vec s'.2) else p)=(l.map enD).map λr=>(Sum.inl r.1,r.2):=λl hl=>by
  rw[wK,wK,wK];apply ul;intro x hx;have:=hl x hx;show (if (Sum.inl (x.1):Key)=Sum.inl _ then _ else _)=_;rw[if_neg (by grind)]
  rfl
 simp only[wH,wE];rw[go A λx hx=>h x (by simp[hx]),go C λx hx=>h x (by simp[hx])];simp[e]
def Sw.pl {W:Int}{n:Nat}{s:Sh}(h:Sw W n s)(g:Int.gcd s.2.1 s.2.2=1):Pl (pt W s) 0 W s.2.1 0 s.2.2:=⟨h.bot,by rw[gcd0];exact g,z9z h.dv,by simp⟩
def zew {W p u t:Int}{n i:Nat}(hW:0<W)(h:Pl p 0 W u 0 t)(p0:0<p)(pW:p<=W)(hi:i<n):(Sw W n (i,u,t)/\Int.gcd u t=1)/\pt W (i,u,t)=p:=by
 have ht:=h.pos;have e:=h.cx;have cp:=h.cop;rw[gcd0] at cp;have u0:0<u:=by
  rcases vT 0 u with z | z
  .exact z
  .have:=vm z (vi hW);have:=vz p0 ht;lia
 have ut:u<=t:=by
  rcases vT t u with z | z
  .have h1:=Int.mul_lt_mul_of_pos_right z hW;have h2:=vY pW (vi ht);lia
  .exact z
 refine⟨⟨⟨u0,ht,by lia,h.dvd,hi⟩,cp⟩,?_⟩;show u*(W / t)=p;apply vW (show t≠0 by lia);rw[uK,Int.ediv_mul_cancel h.dvd,e]
def zgp {x k e:Ex}{ρ:Pu.Env}{Q:DK}{X:XP}(q:x.run ρ (λa=>∃kvs,a=dk kvs/\k.run ρ (λb=>∃j,b=kD j/\e.run ρ (λc=>Q ((valD kvs j).getD c)) X) X) X):(Ex.dget2 x k e).run ρ Q X:=q
def zji {A C:List Sh}{y:Sh}(h:((A++y::C).map (·.1)).Nodup):∀z∈A++C,z.1≠y.1:=λz hz e=>by
 rw[wH] at h;have:=(jC.nodup_iff.mp h)
 rw[vB, <- wH] at this;exact this.1 (wj.mpr ⟨z,hz,e⟩)
def z8x {w:Nat->Int}{W:Int}(A C:List Sh)(y:Sh):sw w W (A++y::C)=sw w W A+w y.1*pt W y+sw w W C:=by
 simp[sw];lia
def zcl {W:Int}{n:Nat}{l:List Sh}(hW:0<W)(h:∀s∈l,Sw W n s):0<=sw (λ_=>1) W l:=by
 refine(z4e λy hy =>?_).1;obtain⟨s,hs,rfl⟩:=wj.mp hy;have:=(h s hs).pt_le hW;lia
def z8m (s:Sh):back (enD s)=s:=by
 rfl
def z9r {x:List P × P}{h:List P}{sh:List Sh}{W:Int}{Q:DK}{X:XP}(hx:Wt4 x)(hb:Wb 200 h)(hn:h≠[])(hW:0<W)(bW:Bt 1400 W)(G:Gd W h.length sh)(one:sw (λ_=>1) W sh=W)
  (q:∀(gs:List Sh) (φ:Sh->P),(∀s∈sh,Top (· ∈ x.1) (stq h s) (φ s))->Gd W x.1.length gs->sw (wx x.1) W gs=(sh.map λs=>(φ s).1*pt W s).sum->sw (wy x.1) W gs=(sh.map λs=>(φ s).2*pt W s).sum->sw (λ_=>1) W gs=W->Q (shsD gs)):z1f.run [vecs x.1,vecs h,shsD sh] Q X:=by
 have zero:Pl 0 0 W 0 0 1:=⟨by decide,by decide,by simp,by simp⟩
 walk_at "fn";refine z45 (zct ?_);refine⟨λ_ h=>by(cases h),?_⟩;ac_rfl;ac_nf;refine z0I (f:=shD) (λdn ρ=>∃(fs:List Sh) (ι:Sh->Nat) (x4 x5 x6:B),(∀s∈dn,Top (· ∈ x.1) (stq h s) (Geo.cy x.1 (ι s)))/\(∀w:Nat->Int,sw w W fs=(dn.map λs=>w (ι s)*pt W s).sum)/\(∀s∈fs,Sw W x.1.length s/\Int.gcd s.2.1 s.2.2=1)/\(fs.map (·.1)).Nodup/\fs.length<=dn.length/\ρ=[.s (vecs x.1),.s (vecs h),.s (shsD sh),.o (foD fs),x4,x5,x6]) ⟨[],λ_=>0,_,_,_,λ_ h=>by(cases h),λ_=>rfl,λ_ h=>by(cases h),.nil,wp _,rfl⟩ ?_ ?_
 .rintro dn s r ρ e ⟨fs,ι,x4,x5,x6,h1,h2,h3,h4,h5,rfl⟩;obtain⟨ss,sg⟩:=G.each s (by rw[e];simp);have sc:=ss.bot;obtain⟨b1,b2⟩:=ss.bits hW bW;have few:=G.few;have le:=congrArg List.length e;rw[wL,wO] at le;have nin:∀s'∈dn,s'≠s:=λs' hs' z=>by
   have up:=G.up;rw[e,vQ] at up;have:=up.2.2 s' hs' s (by simp);rw[z] at this;lia
  have v1:=cyb hn hb (s.1+h.length - 1);have v2:=cyb hn hb s.1;refine⟨rfl,?_⟩;show Sm.run _ _ _ _ _;unfold z0G z0G z0G;ac_rfl;ac_nf;refine z1c (z0D (zjI ss.ix)) ?_;ac_nf;refine z1c (z0D (z8j ss.ix)) ?_;ac_nf;refine z1L ?_;ac_nf;refine z6T (st:=stq h s) hx.ne hx.len hx.wb ⟨Bt.le (Bt.sub v2.1 v1.1),Bt.le (Bt.sub v2.2 v1.2)⟩ λi hi top =>?_;ac_nf;refine⟨_,rfl,zjE (zgp ?_)⟩;ac_nf;refine⟨_,rfl,?_⟩;ac_nf;refine⟨.inl (i:Int),rfl,?_⟩;ac_nf;have p0:=(ss.pt_le hW).1;have tot:sw (λ_=>1) W fs+pt W s<=W:=by
   have e1:=h2 λ_=>1;have e2:=z8x (w:=λ_=>1) (W:=W) dn r s;rw[<- e,one] at e2;have e3:(dn.map λs=>(1:Int)*pt W s).sum=sw (λ_=>1) W dn:=rfl;have e4:=zcl (l:=r) hW λs' hs'=>(G.each s' (by rw[e];simp[hs'])).1;lia
  have fin:∀fs':List Sh,(∀w:Nat->Int,sw w W fs'=sw w W fs+w i*pt W s)->(∀s∈fs',Sw W x.1.length s/\Int.gcd s.2.1 s.2.2=1)->(fs'.map (·.1)).Nodup->fs'.length<=fs.length+1->
    ∃(fs:List Sh) (ι:Sh->Nat) (x4 x5 x6:B),(∀s_1∈dn++[s],Top (· ∈ x.1) (stq h s_1) (Geo.cy x.1 (ι s_1)))/\(∀w:Nat->Int,sw w W fs=((dn++[s]).map λs=>w (ι s)*pt W s).sum)/\(∀s∈fs,Sw W x.1.length s/\Int.gcd s.2.1 s.2.2=1)/\(fs.map (·.1)).Nodup/\fs.length<=(dn++[s]).length/\[.s (vecs x.1),.s (vecs h),.s (shsD sh),.o (foD fs'),.s (.int (s.1:Int)),.s (.tup [.int s.2.1,.int s.2.2]),.s (.int (i:Int))]=[.s (vecs x.1),.s (vecs h),.s (shsD sh),.o (foD fs),x4,x5,x6]:=λfs' k1 k2 k3 k4=>by
   refine⟨fs',λs'=>if s'=s then i else ι s',_,_,_,λs' hs' =>?_,λw =>?_,k2,k3,by simp;lia,rfl⟩
   .rcases wZ.mp hs' with z | z
    .dsimp only;rw[if_neg (nin s' z)];exact h1 s' z
    .rw[wt.mp z];dsimp only;rw[if_pos rfl];exact top
   .rw[k1,h2,wH,jp]
    congr 1
    .congr 1
     refine ul λs' hs' =>?_;dsimp only;rw[if_neg (nin s' hs')]
    .simp
  by_cases hy:∃y∈fs,y.1=i
  .obtain⟨y,hy,rfl⟩:=hy;obtain⟨A,C,eA⟩:=List.append_of_mem hy;subst eA;obtain⟨ys,yg⟩:=h3 y (by simp);have yc:=ys.bot;obtain⟨c1,c2⟩:=ys.bits hW bW;have nd:=zji h4;rw[zcb λz hz=>nd z (by simp[hz])];refine zau yc sc yg sg c1.le c2.le b1.le b2.le λu t hp =>?_;have hp:=((ys.pl yg).more (vx:=1) (vy:=0) sc (z9z ss.dv) (by simpa using hp)).eq0;have a1:=zcl (l:=A) hW λs' hs'=>(h3 s' (by simp[hs'])).1;have a2:=zcl (l:=C) hW λs' hs'=>(h3 s' (by simp[hs'])).1;rw[z8x] at tot;have y0:=(ys.pt_le hW).1;obtain⟨n1,n2⟩:=zew (i:=y.1) hW hp (by lia) (by lia) ys.ix;refine⟨Safe.of_noL rfl rfl _,?_⟩;ac_nf;refine⟨.inl (y.1:Int),rfl,?_,?_⟩
   .rw[wd,wd];exact szl' (by lia)
   have pe:putD (((A++y::C).map enD).map λr=>(Sum.inl r.1,r.2)) (.inl (y.1:Int)) (.tup [.int u,.int t])=_:=zfB (s':=(y.1,u,t)) rfl nd;rw[pe];refine fin (A++(y.1,u,t)::C) (λw =>?_) (λs' hs' =>?_) ?_ (by simp)
   .rw[z8x,z8x,n2];show _+w y.1*(_+1*_)+_=_
    grind
   .rcases wZ.mp hs' with z | z
    .exact h3 s' (by simp[z])
    .rcases wg.mp z with z | z
     .rw[z];exact n1
     .exact h3 s' (by simp[z])
   .simpa using h4
  .have nd:∀z∈fs,z.1≠i:=λz hz e=>hy ⟨z,hz,e⟩;rw[zcc nd];refine zau (by decide) sc (by decide) sg (Bt.le (m:=1) (z0d (by decide))) (Bt.le (m:=1) (z0d (by decide))) b1.le b2.le λu t hp =>?_;have hp:=(zero.more (vx:=1) (vy:=0) sc (z9z ss.dv) (by simpa using hp)).eq0;have a1:=zcl (l:=fs) hW λs' hs'=>(h3 s' hs').1;obtain⟨n1,n2⟩:=zew (i:=i) hW hp (by lia) (by lia) hi;refine⟨Safe.of_noL rfl rfl _,?_⟩;ac_nf;refine⟨.inl (i:Int),rfl,?_,?_⟩
   .rw[wd,wd];exact szl' (by lia)
   have pe:putD ((fs.map enD).map λr=>(Sum.inl r.1,r.2)) (.inl (i:Int)) (.tup [.int u,.int t])=_:=zfC (s:=(i,u,t)) nd;rw[pe];refine fin (fs++[(i,u,t)]) (λw =>?_) (λs' hs' =>?_) ?_ (by simp)
   .rw[z4S,n2];show _+w i*(0+1*_)=_
    grind
   .rcases wZ.mp hs' with z | z
    .exact h3 s' z
    .rw[wt.mp z];exact n1
   .rw[wH];refine List.nodup_append.mpr ⟨h4,by simp,λa ha b hb =>?_⟩;obtain⟨z,hz,rfl⟩:=wj.mp ha;rw[wt.mp hb];exact nd z hz
 rintro ρ ⟨fs,ι,x4,x5,x6,h1,h2,h3,h4,h5,rfl⟩;have few:=G.few;ac_nf;have nd:((fs.map enD).map (·.1)).Nodup:=by
  rw[show (fs.map enD).map (·.1)=(fs.map (·.1)).map λk:Nat=>(k:Int) by rw[wK,wK];rfl];unfold List.Nodup at h4 ⊢;rw[wN];exact h4.imp λ{a b} h=>by lia
 refine⟨fs.map enD,rfl,nd,by rw[wd];lia,λrl pm pw =>?_⟩;ac_nf;have pm2:(rl.map back).Perm fs:=by
  have:=pm.map back
  rwa [wK,show (back ∘ enD)=id from funext λs=>z8m s,List.map_id] at this
 have hrl:∀y∈rl,y=enD (back y):=λy hy=>by
  obtain⟨s,_,rfl⟩:=wj.mp (pm.mem_iff.mp hy);rw[z8m]
 rw[show rl.map pdD=(rl.map back).map shD by
  rw[wK];refine ul λy hy =>?_;rw[hrl y hy];show _=shD (back (enD (back y)));rw[z8m]]
 have sp:∀w:Nat->Int,sw w W (rl.map back)=(sh.map λs=>w (ι s)*pt W s).sum:=λw=>by rw[<- h2];exact z72 pm2
 refine q _ (λs=>Geo.cy x.1 (ι s)) h1 ⟨λs hs=>h3 s (pm2.mem_iff.mp hs),?_,by rw[pm2.length_eq];lia⟩ (sp _) (sp _) ?_
 .rw[wN];refine pw.imp_of_mem λ{a b} ha hb hab =>?_;rw[hrl a ha,hrl b hb] at hab;have hab:((back a).1:Int)<(back b).1:=hab;lia
 .rw[sp];exact one
theorem z4T {W c:Int}{a b:Sh->Int}:∀l:List Sh,(l.map λs=>(a s+c+b s)*pt W s).sum=(l.map λs=>a s*pt W s).sum+c*sw (λ_=>1) W l+(l.map λs=>b s*pt W s).sum
 | []=>by simp[sw]
 | s::l=>by
  have ih:=z4T (W:=W) (c:=c) (a:=a) (b:=b) l;have e:sw (λ_=>1) W (s::l)=pt W s+sw (λ_=>1) W l:=by simp[sw]
  rw[wE,vh,ih,e,wE,vh,wE,vh]
  grind
def Flw (W:Int)(h:List P)(sh:List Sh)(x:List P × P)(gs:List Sh):Prop:=∃φ:Sh->P,(∀s∈sh,Top (· ∈ x.1) (stq h s) (φ s))/\sw (wx x.1) W gs=(sh.map λs=>(φ s).1*pt W s).sum/\sw (wy x.1) W gs=(sh.map λs=>(φ s).2*pt W s).sum/\sw (λ_=>1) W gs=W
theorem zbD {W:Int}{h:List P}{sh:List Sh}(one:sw (λ_=>1) W sh=W):∀{ws:List (List P × P)}{co:List (List Sh)},co.length=ws.length->(∀p∈ws.zip co,Flw W h sh p.1 p.2)->
  ∃ Φ:Sh->P,(∀s∈sh,Top (MS ws) (stq h s) (Φ s))/\((ws.zip co).map (cX W)).sum=(sh.map λs=>(Φ s).1*pt W s).sum/\((ws.zip co).map (cY W)).sum=(sh.map λs=>(Φ s).2*pt W s).sum
 | [],[],_,_=>by
  have z:∀l:List Sh,(l.map λs=>(0:Int)*pt W s).sum=0:=λl=>by
   induction l with
   | nil=>rfl
   | cons a l ih=>simp_all
  refine⟨λ_=>(0,0),λs _=>⟨rfl,λr hr =>?_⟩,(z sh).symm,(z sh).symm⟩;rw[hr];exact .inr ⟨rfl,jk _⟩
 | x::ws,g::co,hl,hf=>by
  obtain⟨φ,f1,f2,f3,f4⟩:=hf (x,g) (by simp);obtain⟨Φ,k1,k2,k3⟩:=zbD one (by simpa using hl) λp hp=>hf p (by simp[hp]);refine⟨λs=>Geo.pl _ (Φ s),λs hs=>zcg (zgN (f1 s hs)) (k1 s hs),?_,?_⟩
  .rw[uJ,wE,vh,k2];show sw (wx x.1) W g+x.2.1*sw _ W g+_=(sh.map λs=>((φ s).1+x.2.1+(Φ s).1)*pt W s).sum;rw[f2,f4,z4T,one]
  .rw[uJ,wE,vh,k3];show sw (wy x.1) W g+x.2.2*sw _ W g+_=(sh.map λs=>((φ s).2+x.2.2+(Φ s).2)*pt W s).sum;rw[f3,f4,z4T,one]
abbrev coD (co:List (List Sh)):D :=.tup [.str (Str.ofString "course"),.tup (co.map shsD)]
def z7T {ws:List (List P × P)}{x y t:Int}{Q:DK}{X:XP}(hw:∀x∈ws,Wt4 x)(hz:ws.length<=12)(ht:tl ws<=60)(pc:Pc x y t)(q1:∀b,b≠(0,0)->Vb 700 b->(∀p,MS ws p->dot p b*t<dot (x,y) b)->Q (brD b))
  (q2:∀co W,0<W->Bt 1400 W->co.length=ws.length->(∀p∈ws.zip co,Gd W p.1.1.length p.2/\sw (λ_=>1) W p.2=W)->Pl ((ws.zip co).map (cX W)).sum ((ws.zip co).map (cY W)).sum W x y t->Q (coD co)):z2H.run [.tup (ws.map wtD),pcD x y t] Q X:=by
 walk_at "fn";ac_nf;refine z9p hw hz ht λh hh hl =>?_;have hne:=z6q hh;have hb:Wb 200 h:=λp hp=>zgx hw (by lia) (hh.sub p hp);refine z0L (Safe.of_noL (z1S _) (z1T _) _) ?_;ac_rfl;ac_nf;refine z6P hne (by lia) hb.le pc (λb b0 vb hbar =>?_) λsh W L =>?_
 .refine z0L (Safe.of_noL rfl rfl _) ?_;ac_rfl;ac_nf;refine zdj ?_;refine z7N rfl ?_;ac_nf;refine q1 b b0 vb λp hp =>?_;obtain⟨c,hc,le⟩:=hh.far (hh.in hp) b;have:=hbar c hc;have:=vY (show dot p b<=dot c b from le) (vi pc.pos);lia
 .refine z0L (Safe.of_noL (by show noLs _=true;exact z2d λd hd=>by(simp at hd;rcases hd with rfl | rfl;rfl;exact zg5 sh)) (by show noDs _=true;exact z2e λd hd=>by(simp at hd;rcases hd with rfl | rfl;rfl;exact zg7 sh)) _) ?_;ac_rfl;ac_nf;refine zdj ?_;refine t_no (by decide) ?_;ac_nf;refine⟨by rw[wd];exact szl' (by lia),?_⟩;refine z5n (f:=wtD) (g:=shsD) (P:=λx gs=>Flw W h sh x gs/\Gd W x.1.length gs) (λx hx K hK =>?_) λys hyl hy =>?_
  .ac_nf;refine z9r (hw x hx) hb hne L.pos L.bt L.gd L.one λgs φ k1 k2 k3 k4 k5 =>?_;exact hK gs ⟨⟨φ,k1,k3,k4,k5⟩,k2⟩
  have hz':∀p∈ws.zip ys,Flw W h sh p.1 p.2/\Gd W p.1.1.length p.2:=λp hp=>by
   obtain⟨i,hi,e⟩:=List.getElem_of_mem hp;rw[jN] at hi;obtain⟨y,ey,k⟩:=hy i (by lia);rw[List.getElem_zip] at e;rw[wq (by lia)] at ey;rw[<- e,w5 ey];exact k
  ac_nf;obtain⟨Φ,k1,k2,k3⟩:=zbD L.one hyl λp hp=>(hz' p hp).1;have eq:∀s∈sh,Φ s=Geo.cy h s.1:=λs hs=>zgO hh (L.gd.each s hs).1.ix (k1 s hs);refine q2 ys W L.pos L.bt hyl (λp hp=>⟨(hz' p hp).2,by obtain⟨_,_,_,_,k⟩:=(hz' p hp).1;exact k⟩) ⟨pc.pos,pc.cop,?_,?_⟩
  .rw[k2,show (sh.map λs=>(Φ s).1*pt W s)=sh.map λs=>wx h s.1*pt W s from ul λs hs=>by rw[eq s hs];rfl,vG x];exact L.ex.symm
  .rw[k3,show (sh.map λs=>(Φ s).2*pt W s)=sh.map λs=>wy h s.1*pt W s from ul λs hs=>by rw[eq s hs];rfl,vG y];exact L.ey.symm
def z6Q {a b:D}{Q:DK}{X:XP}(q:Q (.bl true)):z0c.run [.tup [a,b]] Q X:=by
 walk_at "fn";refine z6J rfl ?_;exact q
def z50 {i:Int}{Q:DK}{X:XP}(q:Q (.bl true)):z09.run [.int i] Q X:=by
 walk_at "fn";refine z6J rfl ?_;exact q
def zkU {x y:Str}{Q:DK}{X:XP}(q:Q (.bl (!decide (x=y)))):pNe.run [.str x,.str y] Q X:=q
def zal {sh:List Sh}{Q:DK}{X:XP}(q:Q (.bl true)):z0k.run [shsD sh] Q X:=by
 walk_at "fn";ac_nf;refine z2s (z6J rfl ?_);ac_nf;refine z0I (f:=shD) (λdn ρ=>∃x1:B,ρ=[.s (shsD sh),x1]) ⟨_,rfl⟩ ?_ ?_
 .rintro dn s r ρ e ⟨x1,rfl⟩;show Sm.run _ _ _ _ _;ac_rfl;ac_nf;refine z6Q ?_;ac_nf;refine z2s (z2J ?_);ac_nf;refine z50 ?_;ac_nf;refine z2s (z2J ?_);ac_nf;refine z6Q ?_;ac_nf;refine z2s (z2J ?_);ac_nf;refine z50 ?_;ac_nf;refine z2s (z2J ?_);ac_nf;refine z50 ?_;ac_nf;refine z2s (z2J ?_);ac_nf;exact⟨_,rfl⟩
 rintro ρ ⟨x1,rfl⟩;ac_nf;exact q
def zaq {co:List (List Sh)}{Q:DK}{X:XP}(hz:co.length<=12)(q:Q (.bl true)):z0l.run [.tup (co.map shsD)] Q X:=by
 walk_at "fn";refine z6J rfl ?_;ac_nf;refine⟨by rw[wd];exact szl' (by lia),?_⟩;refine z1n (g:=λ_ =>.bl true) (λc _ K k =>?_) ?_
 .ac_nf;exact zal k
 rw[show co.map _=(co.map λ_=>true).map .bl by simp_all];refine zl1 ?_;rw[show (co.map _).all id=true by simp];exact q
def zfa {W:Int}{n:Nat}{sh:List Sh}{Q:DK}{X:XP}(hn:n<=12)(hW:0<W)(bW:Bt 1400 W)(G:Gd W n sh)(one:sw (λ_=>1) W sh=W)(q:Q (.tup [.int 1,.int 1])):z1h.run [.int (n:Int),shsD sh] Q X:=by
 walk_at "fn";ac_nf;refine z0I (f:=shD) (λdn ρ=>∃(l a b:Int) (x4 x5:B),(∀s r,sh=dn++s::r->l<(s.1:Int))/\Pl (sw (λ_=>1) W dn) 0 W a 0 b/\ρ=[.s (.int (n:Int)),.s (shsD sh),.s (.int l),.s (.tup [.int a,.int b]),x4,x5]) ⟨-1,0,1,_,_,λs r _=>by(have:(0:Int)<=s.1:=Int.natCast_nonneg _;lia),⟨by decide,by decide,by simp[sw],by simp⟩,rfl⟩ ?_ ?_
 .rintro dn s r ρ e ⟨l,a,b,x4,x5,hl,hp,rfl⟩;obtain⟨ss,sg⟩:=G.each s (by rw[e];simp);have s0:=ss.top;have s1:=ss.bot;have s2:=ss.ix;have s3:=hl s r e;obtain⟨b1,b2⟩:=ss.bits hW bW;have few:=G.few;have le:=congrArg List.length e;rw[wL,wO] at le;obtain⟨c1,c2,_⟩:=hp.bt (n:=1400) (m:=1420) hW bW (Bt.le (z7O (w:=λ_=>1) (m:=1) (l:=dn) (by lia) hW bW (λs' hs'=>(G.each s' (by rw[e];simp[hs'])).1) λ_=>zc1)) (Bt.le (m:=0) (z0d (by decide)));refine⟨rfl,?_⟩;show Sm.run _ _ _ _ _;unfold z0G z0G z0G;ac_rfl;ac_nf;refine t_no (by lia) ?_;ac_nf;refine t_no (by lia) ?_;ac_nf;refine t_no (by lia) ?_;ac_nf;refine t_no (by lia) ?_;ac_nf;refine z7S (by lia) (Bt.le b2) ?_;rw[sg,show ((1:Nat):Int)=1 from rfl,Int.ediv_one,Int.ediv_one];ac_nf;refine zg0 (l:=[.int s.2.1,.int s.2.2]) (r:=[.int s.2.1,.int s.2.2]) (Da.vec s.2) (Da.vec s.2) ?_;rw[show deq (.tup [.int s.2.1,.int s.2.2]) (.tup [.int s.2.1,.int s.2.2])=decide (s.2=s.2) from z33 s.2 s.2];refine z2s (z7N rfl ?_);ac_nf;refine ze7 hp.pos (by lia) c2.le c1.le b1.le b2.le λa' b' h2 =>?_;refine z0L (Safe.of_noL rfl rfl _) ?_;ac_rfl;refine⟨_,a',b',_,_,λs' r' e' =>?_,?_,rfl⟩
  .have up:=G.up;rw[e',vn,vQ] at up;have:=up.2.1;rw[List.singleton_append,wQ] at this;have:=this.1 s' (by simp);lia
  .rw[z4S];exact(hp.more (vx:=1) (vy:=0) (by lia) (z9z ss.dv) (by simpa using h2)).eq0
 rintro ρ ⟨l,a,b,x4,x5,hl,hp,rfl⟩;rw[one] at hp;obtain⟨rfl,_,rfl⟩:=hp.eq hW (⟨by decide,by decide,by rw[vG],by simp⟩:Pl W 0 W 1 0 1);ac_nf;exact q
def zcv {ws:List (List P × P)}{co:List (List Sh)}{W x y t:Int}{Q:DK}{X:XP}(hw:∀x∈ws,Wt4 x)(hz:ws.length<=12)(hW:0<W)(bW:Bt 1400 W)(hl:co.length=ws.length)(hg:∀p∈ws.zip co,Gd W p.1.1.length p.2/\sw (λ_=>1) W p.2=W)(pl:Pl ((ws.zip co).map (cX W)).sum ((ws.zip co).map (cY W)).sum W x y t)(q:Q (.bl true)):z0o.run [.tup (ws.map wtD),.tup (co.map shsD),pcD x y t] Q X:=by
 walk_at "fn";ac_nf;rw[wd,wd];refine z2s (z7N (by lia) ?_);ac_nf;rw[wd];refine z8E (by lia) (by lia) ?_;rw[show ((co.length:Nat):Int).toNat=co.length by simp];refine z0I (f:=λ(j:Nat)=>D.int (j:Int)) (λdn ρ=>∃x3:B,ρ=[.s (.tup (ws.map wtD)),.s (.tup (co.map shsD)),.s (pcD x y t),x3]) ⟨_,rfl⟩ ?_ ?_
 .rintro dn k r ρ e ⟨x3,rfl⟩;obtain⟨z,sh,ek,e1,e2,e3⟩:=zdZ hl e;have hm:=wD e3;have hx:Wt4 z:=hw z (jh hm).1;obtain⟨G,one⟩:=hg _ hm;show Sm.run _ _ _ _ _;ac_rfl;ac_nf;refine z1c (z0D e1) ?_;ac_nf;rw[wd];refine z1c (z0D e2) ?_;ac_nf;refine zfa hx.len hW bW G one ?_;ac_nf;refine zg0 (l:=[.int 1,.int 1]) (r:=[.int 1,.int 1]) (Da.vec (1,1)) (Da.vec (1,1)) ?_;rw[show deq (.tup [.int 1,.int 1]) (.tup [.int 1,.int 1])=decide (((1:Int),(1:Int))=((1:Int),(1:Int))) from z33 (1,1) (1,1)];refine z2s (z7N rfl ?_);ac_nf;exact⟨_,rfl⟩
 rintro ρ ⟨x3,rfl⟩;ac_nf;refine zhd hw hz hW bW.le ⟨hl,λp hp=>⟨by have:=(hg p hp).1.few;lia,λs hs=>((hg p hp).1.each s hs).1⟩⟩ λu v t' h =>?_;obtain⟨rfl,rfl,rfl⟩:=h.eq hW pl;ac_nf;refine zl0 (l:=[.int u,.int v,.int t']) (r:=[.int u,.int v,.int t']) (Da3 u v t') (Da3 u v t') ?_;rw[show deq (.tup [.int u,.int v,.int t']) (.tup [.int u,.int v,.int t'])=decide (u=u/\v=v/\t'=t') from deq3 u v t' u v t',vq ⟨rfl,rfl,rfl⟩];exact q
def z9t {ws:List (List P × P)}{b:P}{x y t:Int}{Q:DK}{X:XP}(hw:∀x∈ws,Wt4 x)(hz:ws.length<=20)(vb:Vb 700 b)(pc:Pc x y t)(hbar:∀p,MS ws p->dot p b*t<dot (x,y) b)(q:Q (.bl true)):z13.run [.tup (ws.map wtD),vec b,pcD x y t] Q X:=by
 have dt:∀{Q:DK}{X:XP},Q (.int (b.1*x+b.2*y))->z0m.run [vec b,pcD x y t] Q X:=λ{Q X} k=>by
  obtain⟨c1,c2⟩:=vb;have c3:=pc.bx;have c4:=pc.bY;walk_at "fn";ac_nf;exact k
 walk_at "fn";ac_nf;refine dt ?_;ac_nf;refine z9q hw vb.le λm hm =>?_;obtain⟨_,p,hp,e⟩:=z8y hm;have h1:=hbar p hp;have e:dot p b=m:=e;rw[e] at h1;have h2:dot (x,y) b=b.1*x+b.2*y:=by simp only[dot];grind
 have bm:Bt 2000 m:=by
  have v:=zgx hw hz hp;rw[<- e];exact Bt.le (Bt.add (Bt.mul v.1 vb.1) (Bt.mul v.2 vb.2))
 have bt':=pc.bt;ac_nf;rw[show decide (m*t<b.1*x+b.2*y)=true from vq (by lia)];exact q
def zar {b:P}{Q:DK}{X:XP}(b0:b≠(0,0))(q:Q (.bl true)):z0i.run [vec b] Q X:=by
 walk_at "fn";ac_nf;refine z6Q ?_;ac_nf;refine z50 ?_;ac_nf;refine z50 ?_;ac_nf;refine zg0 (Da.vec b) (Da.vec (0,0)) ?_;rw[z33 b (0,0),ve b0];exact q
def z9u {ws:List (List P × P)}{x y t:Int}{Q:DK}{X:XP}(hw:∀x∈ws,Wt4 x)(hz:ws.length<=12)(ht:tl ws<=60)(pc:Pc x y t)(q:Q (.bl true)):z0J.run [.tup (ws.map wtD),pcD x y t] Q X:=by
 walk_at "fn";ac_nf;refine z7T hw hz ht pc (λb b0 vb hbar =>?_) λco W hW bW hl hg pl =>?_
 .refine z0L (Safe.of_noL rfl rfl _) ?_;ac_rfl;ac_nf;refine z6Q ?_;ac_nf;refine z2s (z2J ?_);ac_nf;refine z2s (z6J rfl ?_);ac_nf;refine zdj ?_;refine t_no (by decide) ?_;ac_nf;refine zkU ?_;refine z2s (z7N rfl ?_);ac_nf;refine zar b0 ?_;ac_nf;refine z2s (z2J ?_);ac_nf;exact z9t hw (by lia) vb pc hbar q
 .have nc:noL (coD co)=true/\noD (coD co)=true:=⟨z2d λd hd=>by
   simp at hd
   rcases hd with rfl | rfl
   .rfl
   .exact z2d λd hd=>by(obtain⟨x,_,rfl⟩:=wj.mp hd;exact zeq x),z2e λd hd=>by
   simp at hd
   rcases hd with rfl | rfl
   .rfl
   .exact z2e λd hd=>by(obtain⟨x,_,rfl⟩:=wj.mp hd;exact zer x)⟩
  refine z0L (Safe.of_noL nc.1 nc.2 _) ?_;ac_rfl;ac_nf;refine z6Q ?_;ac_nf;refine z2s (z2J ?_);ac_nf;refine z2s (z6J rfl ?_);ac_nf;refine zdj ?_;refine z7N rfl ?_;ac_nf;refine zaq (by lia) ?_;ac_nf;exact zcv hw hz hW bW hl hg pl q
def zcs {ns:List Int}{Q:DK}{X:XP}(q:∀m,0<m->m<=10000000000000000000000000000000000000000->Q (.int m)):z1q.run [.lst (ns.map .int)] Q X:=by
 walk_at "fn";ac_nf;refine zas λc hc =>?_;ac_nf;refine z1v (λh =>?_) (λh =>?_)
 .have hp:=vd.mpr (hc h);obtain⟨v,_,e⟩:=z4t (xs:=ns) (i:=0) (by decide) (by lia);ac_nf;refine z1c (z0D e) ?_;ac_nf;refine menu (ns:=[3,12,10 ^ 9]) (by lia) (by show v / 2 % 3<3;lia) λm hm =>?_;simp only[wg,wA,vS] at hm;exact q m (by lia) (by lia)
 .ac_nf;refine zas λc hc =>?_;ac_nf;refine z10 (by decide) (by decide) (by decide) λr r0 r1 =>?_;ac_nf;refine menu (ns:=[3,3,12,10 ^ 9,10 ^ 40]) r0 (by show r<5;exact r1) λm hm =>?_;simp only[wg,wA,vS] at hm;exact q m (by lia) (by lia)
def zgb (ns:List Int)(h:ns.length<=63):z5j.run [.lst (ns.map .int)] (λd=>d = .bl true) (λ_=>False):=by
 walk_at "fn";ac_nf;refine z9n h λws hw hz ht =>?_;refine z0L (Safe.of_noL (zg4 _) (zg6 _) _) ?_;ac_rfl;ac_nf;refine zb3 (by simp;exact szl (by lia)) ?_;rw[show D.int 0::([]:List D)++ns.map D.int=(0::ns).map .int by simp];ac_nf;rw[z36];generalize ((0::ns).drop (HT.sIx (0::ns).length 0 (some (-4)))).take (HT.sIx (0::ns).length (0::ns).length none - HT.sIx (0::ns).length 0 (some (-4)))=cs;refine z0I (f :=.int) (λdn ρ=>∃x2:B,ρ=[.s (.lst (ns.map .int)),.s (.tup (ws.map wtD)),x2]) ⟨_,rfl⟩ ?_ ?_
 .rintro dn c r ρ e ⟨x2,rfl⟩;show Sm.run _ _ _ _ _;ac_rfl;ac_nf;refine zcs λm m0 m1 =>?_;ac_nf;refine zhc hw hz m0 m1 λu v t pc =>?_;ac_nf;refine z9u hw hz ht pc ?_;ac_nf;refine z2s (z2J ?_);ac_nf;exact⟨_,rfl⟩
 rintro ρ ⟨x2,rfl⟩;ac_nf
 rfl
open PySem.Spec PyProof.Rows
def Std (K:W.Frag)(n:Str)(st:Stmt)(f:Addr):Prop:=∃(oc:Value) (od:Option Addr) (sl:Array (Option Value)) (kV dc pm:Value) (an:Option Addr) (cd ct:Value),
 W.nsIn K mainGlobals n=some (some (.ref f))/\K.lookup f=some ⟨oc,od,.func (W.fnOf n n (z2I st) (z1A st) (z07 st) .none kV dc pm an cd ct),sl⟩/\W.codeIn K cd n=true/\W.keepIn K (.ref f)=true
def Std.mk {K:W.Frag}{n:Str}{st:Stmt}{f:Addr}{oc:Value}{od:Option Addr}{sl:Array (Option Value)}{kV dc pm:Value}{an:Option Addr}{cd ct:Value}(a:W.nsIn K mainGlobals n=some (some (.ref f)))(l:K.lookup f=some ⟨oc,od,.func (W.fnOf n n (z2I st) (z1A st) (z07 st) .none kV dc pm an cd ct),sl⟩)(c:W.codeIn K cd n=true)(k:W.keepIn K (.ref f)=true):Std K n st f:=⟨oc,od,sl,kV,dc,pm,an,cd,ct,a,l,c,k⟩
section
variable {P:Program}{w:World}{K:W.Frag}{mg:WmP}{h base:Heap}{CX:CXT}{k:Nat}{n:Str}{st:Stmt}{f fa:Addr}{ps:List Str}{sp:Sp}
def zjN (X:K.In h)(G:h.Ns mainGlobals mg)(d:Std K n st f)
  (hb:∀(kV dc pm:Value) (an:Option Addr) (cd ct:Value) (us:List Value),us.length=ps.length->bindArgs (W.fnOf n n (z2I st) (z1A st) (z07 st) .none kV dc pm an cd ct) ⟨us,[]⟩=pure (ps.zip us))
  (ok:∀fd,Fun K n n st f fd->FnOk P w K mg base CX k f fd ps sp):Cal P w K mg base CX k n ps sp:=by
 obtain⟨oc,od,sl,kV,dc,pm,an,cd,ct,a,l,c,kk⟩:=d;have F:=zeD (st:=st) l c kk;exact⟨_,_,ok _ F,W.mg_of X G a,kk,F.binds (ps:=ps) hb⟩
def zgM {x:Str}(X:K.In h)(G:h.Ns mainGlobals mg)(d:Std K n st f)(hfa:mg n=some (.ref fa))
  (hb:∀(kV dc pm:Value) (an:Option Addr) (cd ct:Value) (s:Shared) (v:Value),BindsTo s (W.fnOf n n (z2I st) (z1A st) (z07 st) .none kV dc pm an cd ct) ⟨[v],[]⟩ [(x,v)])
  (ok:∀base:Heap,K.In base->base.Ns mainGlobals mg->∀fd,Fun K n n st fa fd->FnOk P w K mg base CX k fa fd [x] sp):
  ∃fd:FuncData,(∀(s:Shared) (v:Value),BindsTo s fd ⟨[v],[]⟩ [(x,v)])/\∀base:Heap,K.In base->base.Ns mainGlobals mg->FnOk P w K mg base CX k fa fd [x] sp:=by
 obtain⟨oc,od,sl,kV,dc,pm,an,cd,ct,a,l,c,kk⟩:=d
 cases hfa.symm.trans (W.mg_of X G a)
 exact⟨_,λs v=>hb kV dc pm an cd ct s v,λbase kb nb=>ok base kb nb _ (zeD (st:=st) l c kk)⟩
end
structure Sc (N ps:List Str)(sc:Scope):Prop where
 fs:z4m N ps sc
 nm:∀x∈N,Nm sc x
def Sc.of {N ps:List Str}{sc:Scope}(h:(sc.kind = .function/\sc.isCoroutine=false/\sc.isGenerator=false)/\N.Nodup/\N.take ps.length=ps/\(∀y∈sc.names,y.2 ≠ .free)/\∀x∈N,(sc.names.lookup x=some .local\/sc.names.lookup x=some .cell)/\(x == ("__debug__":Str))=false/\(x == ("__classdict__":Str))=false):Sc N ps sc:=
 ⟨⟨h.1.1,h.1.2.1,h.1.2.2,h.2.1,h.2.2.1,λx hx=>(h.2.2.2.2 x (jy (by rw[h.2.2.1];exact hx))).1,h.2.2.2.1⟩,λx hx=>⟨(h.2.2.2.2 x hx).1,(h.2.2.2.2 x hx).2.1,(h.2.2.2.2 x hx).2.2⟩⟩
section
variable {CX:CXT}{P:Program}{w:World}{K:W.Frag}{mg:WmP}{base:Heap}{N ps:List Str}{qual:Str}{sc:Scope}{f:Addr}{cdv:Value}{A:Around}{outer:List PySem.Env}{s:Shared}{H:Hp}{E:XK}{xe:WvP}{x:Str}{pos pos2:Pos}{e:Expr}{te:TE}{i:Nat}
def vx (S:Sc N ps sc)(hN:N[i]? = some x):QE ((cxOf CX P w K mg base N qual sc f cdv A outer s H E).wish xe) (.Name x pos) (tVar i):=vg i (S.nm x (wD hN)) hN
def nx (S:Sc N ps sc)(hN:N[i]? = some x):QG ((cxOf CX P w K mg base N qual sc f cdv A outer s H E).wish xe) (.Name x pos) (z2u i):=ng i S.fs.nd (S.nm x (wD hN)) hN
def ax (S:Sc N ps sc)(hN:N[i]? = some x)(he:QE ((cxOf CX P w K mg base N qual sc f cdv A outer s H E).wish xe) e te)(hs:swapsWith e (some (.Name x pos2)) pos.line ((cxOf CX P w K mg base N qual sc f cdv A outer s H E).wish xe).env=pure false):QS ((cxOf CX P w K mg base N qual sc f cdv A outer s H E).wish xe) (.Assign [.Name x pos2] e pos) (tAsg te (z2u i)):=ag i S.fs.nd (S.nm x (wD hN)) he hN hs
end
def zkn {X:Cx}{E:XK}{op:BoolOp}{es:List Expr}{pos:Pos}{x:Ex}(h:QXW X E (.BoolOp op es pos) x):QXT X E (.BoolOp op es pos) x:=QW.pt h
def tgN:Expr->List Str
 | .Name x _=>[x]
 | .Tuple es _ _=>es.filterMap fun | .Name x _=>some x | _=>none
 | _=>[]
def z1B (tg:Expr)(js:List Nat)(N:List Str):List Str:=tgN tg++js.map λj=>N.getD j ""
section
variable {X:Cx}{E:XK}{N ps:List Str}{sc scope:Scope}{target iter elt c:Expr}{src x y:Ex}{nt iy:Nat}{js:List Nat}{tg:Tg}{pos py spos:Pos}{z:Str}
def zcV (S:Sc N ps sc)(hxn:X.N=N)(hosc:X.env.scope=sc)(hc:X.calm=true)(hi:QXI X E target iter src)(hk:scope.kind = .function)(cp:z5o (z1B target js N) N nt js scope.names sc.names=true/\(z1B target js N).Nodup)(hts:tg.slots.all (· < nt)=true)
  (hg:∀(C:Addr) (s:Shared) (H:Hp) (fp:List Addr),(z1B target js N).Nodup->QG (X.compG scope (z1B target js N) C s H fp) target (tgt X.K tg))
  (he:∀(C:Addr) (s:Shared) (H:Hp) (fp:List Addr),(z1B target js N).Nodup->QX (X.compG scope (z1B target js N) C s H fp) E0 elt x) (hs:∀x,foldedSetIterable iter X.env x=pure x):QF X E (.ListComp elt [⟨target,iter,[],0⟩] scope pos) (.comp nt js tg src none x):=
 zaA (ct:=none) hc hi hk (z5o.ok hxn hosc cp.1) hts (λC s H fp=>hg C s H fp cp.2) trivial (λC s H fp=>he C s H fp cp.2) hs
def zcU (S:Sc N ps sc)(hxn:X.N=N)(hosc:X.env.scope=sc)(hc:X.calm=true)(hi:QXI X E target iter src)(hk:scope.kind = .function)(cp:z5o (z1B target js N) N nt js scope.names sc.names=true/\(z1B target js N).Nodup)(hts:tg.slots.all (· < nt)=true)
  (hg:∀(C:Addr) (s:Shared) (H:Hp) (fp:List Addr),(z1B target js N).Nodup->QG (X.compG scope (z1B target js N) C s H fp) target (tgt X.K tg))
  (ht:∀(C:Addr) (s:Shared) (H:Hp) (fp:List Addr),(z1B target js N).Nodup->QXT (X.compG scope (z1B target js N) C s H fp) E0 c y)
  (he:∀(C:Addr) (s:Shared) (H:Hp) (fp:List Addr),(z1B target js N).Nodup->QX (X.compG scope (z1B target js N) C s H fp) E0 elt x) (hs:∀x,foldedSetIterable iter X.env x=pure x):QF X E (.ListComp elt [⟨target,iter,[c],0⟩] scope pos) (.comp nt js tg src (some y) x):=
 zaA (ct:=some c) hc hi hk (z5o.ok hxn hosc cp.1) hts (λC s H fp=>hg C s H fp cp.2) (λC s H fp=>ht C s H fp cp.2) (λC s H fp=>he C s H fp cp.2) hs
def zcR (S:Sc N ps sc)(hxn:X.N=N)(hosc:X.env.scope=sc)(hiy:N[iy]? = some z)(hly:sc.names.lookup z=some .local)(hc:X.calm=true)(hi:QXI X E target iter src)(hk:scope.kind = .function)(cp:z5o (z1B target js N) N nt js scope.names sc.names=true/\(z1B target js N).Nodup)(hts:tg.slots.all (· < nt)=true)
  (hg:∀(C:Addr) (s:Shared) (H:Hp) (fp:List Addr),(z1B target js N).Nodup->QG (X.compG scope (z1B target js N) C s H fp) target (tgt X.K tg))
  (he:∀(C:Addr) (s:Shared) (H:Hp) (fp:List Addr),(z1B target js N).Nodup->QX (X.compG scope (z1B target js N) C s H fp) E0 elt x) (hsw:swapsWith (.ListComp elt [⟨target,iter,[],0⟩] scope pos) (some (.Name z py)) spos.line X.env=pure true) (hs:∀x,foldedSetIterable iter X.env x=pure x):
  QS X (.Assign [.Name z py] (.ListComp elt [⟨target,iter,[],0⟩] scope pos) spos) (tAsg (tf X.K X.mg E (.comp nt js tg src none x)) (z2u iy)):=
 zaz (ct:=none) (by rw[hxn];exact S.fs.nd) (by simp_all) (by simp_all) hc hi hk (z5o.ok hxn hosc cp.1) hts (λC s H fp=>hg C s H fp cp.2) trivial (λC s H fp=>he C s H fp cp.2) hsw hs
def zcQ (S:Sc N ps sc)(hxn:X.N=N)(hosc:X.env.scope=sc)(hiy:N[iy]? = some z)(hly:sc.names.lookup z=some .local)(hc:X.calm=true)(hi:QXI X E target iter src)(hk:scope.kind = .function)(cp:z5o (z1B target js N) N nt js scope.names sc.names=true/\(z1B target js N).Nodup)(hts:tg.slots.all (· < nt)=true)
  (hg:∀(C:Addr) (s:Shared) (H:Hp) (fp:List Addr),(z1B target js N).Nodup->QG (X.compG scope (z1B target js N) C s H fp) target (tgt X.K tg))
  (ht:∀(C:Addr) (s:Shared) (H:Hp) (fp:List Addr),(z1B target js N).Nodup->QXT (X.compG scope (z1B target js N) C s H fp) E0 c y)
  (he:∀(C:Addr) (s:Shared) (H:Hp) (fp:List Addr),(z1B target js N).Nodup->QX (X.compG scope (z1B target js N) C s H fp) E0 elt x) (hsw:swapsWith (.ListComp elt [⟨target,iter,[c],0⟩] scope pos) (some (.Name z py)) spos.line X.env=pure true) (hs:∀x,foldedSetIterable iter X.env x=pure x):
  QS X (.Assign [.Name z py] (.ListComp elt [⟨target,iter,[c],0⟩] scope pos) spos) (tAsg (tf X.K X.mg E (.comp nt js tg src (some y) x)) (z2u iy)):=
 zaz (ct:=some c) (by rw[hxn];exact S.fs.nd) (by simp_all) (by simp_all) hc hi hk (z5o.ok hxn hosc cp.1) hts (λC s H fp=>hg C s H fp cp.2) (λC s H fp=>ht C s H fp cp.2) (λC s H fp=>he C s H fp cp.2) hsw hs
end
structure Te where
 k:Nat
 x:Str
 i:Nat
 np:Nat
 N:List Str
 F:Fn
abbrev Te.ps (t:Te):List Str:=t.N.take t.np
structure Gx where
 P:Program
 w:World
 K:W.Frag
 mg:Str->Option Value
 base:Heap
abbrev Ct (G:Gx)(t:Te):Prop:=Cal G.P G.w G.K G.mg G.base (CXe G.P G.w) t.k t.x t.ps (spP G.K G.mg t.F)
abbrev Ft (G:Gx)(t:Te)(f:Addr)(fd:FuncData):Prop:=FnOk G.P G.w G.K G.mg G.base (CXe G.P G.w) t.k f fd t.ps (spP G.K G.mg t.F)
section
variable {P:Program}{w:World}{K:W.Frag}{mg:WmP}{base:Heap}{f:Addr}{fd:FuncData}{N ps:List Str}{qual x:Str}{st:Stmt}{k np nn:Nat}{b:Sm}
def fnQ (F:Fun K x qual st f fd)(S:Sc N ps (z07 st))
  (hb:∀(cdv:Value) (A:Around) (outer:List PySem.Env) (s:Shared) (H:Hp) (E:XK),Sc N ps (z07 st)->Room k (A.deeper (envOfC qual (z07 st) s.heap.objs.size f cdv))->(A.deeper (envOfC qual (z07 st) s.heap.objs.size f cdv)).units+64<cLine->QZs ((cxOf (CXe P w) P w K mg base N qual (z07 st) f cdv A outer s H E).wish λ_ _=>False) E0 (z1A st) b) (hp:autoParam (ps.length=np) jT) (hN:autoParam (N.length=nn) jT):
  FnOk P w K mg base (CXe P w) (k+1) f fd ps (spP K mg (Fn.mkN np nn b)):=fnM F S.fs (λcdv A outer s H E hr hu=>hb cdv A _ s H E S hr hu) hp hN
end
section
variable {G:Gx}{t:Te}{f:Addr}{fd:FuncData}{st:Stmt}{k np nn:Nat}{b:Sm}
def fnT (F:Fun G.K t.x t.x st f fd)(S:Sc t.N t.ps (z07 st))(hF:t.F=Fn.mkN np nn b)(hk:t.k=k+1)
  (hb:∀(cdv:Value) (A:Around) (outer:List PySem.Env) (s:Shared) (H:Hp) (E:XK),Sc t.N t.ps (z07 st)->Room k (A.deeper (envOfC t.x (z07 st) s.heap.objs.size f cdv))->(A.deeper (envOfC t.x (z07 st) s.heap.objs.size f cdv)).units+64<cLine->QZs ((cxOf (CXe G.P G.w) G.P G.w G.K G.mg G.base t.N t.x (z07 st) f cdv A outer s H E).wish λ_ _=>False) E0 (z1A st) b) (hp:autoParam (t.ps.length=np) jT) (hN:autoParam (t.N.length=nn) jT):Ft G t f fd:=by
 show FnOk _ _ _ _ _ _ t.k _ _ _ _;rw[hF,hk];exact fnQ F S hb hp hN
end
structure Cf (G:Gx)(F:Fn)(t:Te):Prop where
 c:Ct G t
 e:t.F=F
def zhH {X:Cx}{E:XK}{e:Expr}{es:List Expr}{xs:List Ex}{pos pp:Pos}{f:Str}{F:Fn}{G:Gx}{t:Te}(C:Cf G F t)(h:Ct G t->Cal X.prog X.w X.K X.mg X.base (CXe G.P G.w) t.k f t.ps (spP X.K X.mg t.F))(hr:Room t.k X.A)(hx:z42 (CXe G.P G.w) X E)(ha:QXA X E (e::es) xs)(hg:Gl X f)
  (hdb:(f == ("__debug__":Str))=false) (he:starEach (e::es) X.env=(false,eval e X.env)::starEach es X.env) (hpl:(backTo pos (starEach es X.env)).any (·.1)=false):QX X E (.Call (.Name f pp) (e::es) [] pos) (.op F xs):=by
 have q:=h C.c;rw[C.e] at q;exact zkj q hr hx ha hg hdb he hpl
def us1 {P:List Value->Prop}(h:∀a0,P [a0]):∀us,us.length=1->P us
 | [_],_=>h _
def us2 {P:List Value->Prop}(h:∀a0 a1,P [a0,a1]):∀us,us.length=2->P us
 | [_,_],_=>h _ _
def us3 {P:List Value->Prop}(h:∀a0 a1 a2,P [a0,a1,a2]):∀us,us.length=3->P us
 | [_,_,_],_=>h _ _ _
section
variable {K:W.Frag}{h:Heap}{mg:WmP}{base:Heap}{P:Program}{w:World}
def zlm (X:K.In h)(G:h.Ns mainGlobals mg)(t:Te){st:Stmt}{f:Addr}(d:Std K t.x st f)(ok:∀fd,Fun K t.x t.x st f fd->Ft ⟨P,w,K,mg,base⟩ t f fd)
  (hb:∀(kV dc pm:Value) (an:Option Addr) (cd ct:Value) (us:List Value),us.length=t.ps.length->bindArgs (W.fnOf t.x t.x (z2I st) (z1A st) (z07 st) .none kV dc pm an cd ct) ⟨us,[]⟩=pure (t.ps.zip us):=by walk_at "c"):Cf ⟨P,w,K,mg,base⟩ t.F t:=⟨zjN X G d hb ok,rfl⟩
end
end Pu
end
set_option Elab.async false
set_option linter.all false
set_option maxRecDepth 100000
set_option maxHeartbeats 4000000
namespace My
open PySem L2 Pu
def top (i:Nat):Stmt:=PySem.Challenge.pw_closehaul_k26_whole_course_or_bar.main.body.getD i (.Pass ⟨0,0,0,0⟩)
abbrev Fu (G:Gx)(t:Te)(f:Addr)(fd:FuncData):Prop:=Fun G.K t.x t.x (top t.i) f fd
local macro_rules | `(tactic| walk_at "c") => `(tactic| first | exact λ_ _ _ _ _ _=>us1 λ_=>rfl | exact λ_ _ _ _ _ _=>us2 λ_ _=>rfl | exact λ_ _ _ _ _ _=>us3 λ_ _ _=>rfl)
abbrev BL:List Str:=["abs","all","bool","int","isinstance","len","list","max","min","range","reversed","set","sorted","str","sum","tuple","zip"]
structure Txt (K:W.Frag)(mg:WmP):Prop where
 nb:∀b∈BL,mg b=none
 g_EVERY_WAY:zjV K mg "EVERY_WAY" z2F
def zlz:bootBuiltins "abs"=some (.builtin "abs"):=by rfl
def zly:bootBuiltins "all"=some (.builtin "all"):=by rfl
def zjP:bootBuiltins "bool"=some (.type "bool"):=by rfl
def zlx:bootBuiltins "int"=some (.type "int"):=by rfl
def zlw:bootBuiltins "len"=some (.builtin "len"):=by rfl
def zjO:bootBuiltins "list"=some (.type "list"):=by rfl
def zlv:bootBuiltins "max"=some (.builtin "max"):=by rfl
def zlu:bootBuiltins "min"=some (.builtin "min"):=by rfl
def zdU:bootBuiltins "sorted"=some (.builtin "sorted"):=by rfl
def zls:bootBuiltins "str"=some (.type "str"):=by rfl
def zlr:bootBuiltins "sum"=some (.builtin "sum"):=by rfl
def zgu:bootBuiltins "tuple"=some (.type "tuple"):=by rfl
set_option hygiene false in
local macro_rules | `(tactic| walk_at "q2") => `(tactic| first
 | ((with_reducible show QE _ _ _);first | (with_reducible first | refine qx_v ?_ | exact zhG | refine zhK ?_ lk2 ?_ ?_ | refine zki ?_ ?_ ?_ | refine zhA ?_ | refine zhJ ?_ lk2 ?_ ?_ ?_ | exact zkm | exact zhB | exact zhE | refine zkg ?_ lk1 ?_ | refine zhD ?_ | refine zhC ?_ | refine zhL ?_ ?_ | refine zkh ?_ ?_ ?_ | refine zcV S ?_ ?_ ?_ ?_ ?_ ?_ ?_ ?_ ?_ ?_ | refine zcU S ?_ ?_ ?_ ?_ ?_ ?_ ?_ ?_ ?_ ?_ ?_ | refine zhZ ?_ | refine z9y ?_ ?_ ?_ ?_ ?_ ?_ ?_ ?_ ?_ | refine z46 ?_ ?_ ?_ ?_ ?_ ?_ ?_ ?_ | refine zhF ?_ ?_ ?_ ?_ ?_ ?_ ?_ ?_ ?_ ?_ ?_ | exact zfw | refine zcK ?_ ?_ ?_ ?_ ?_ ?_ ?_ ?_ | refine z70 ?_ ?_ ?_ ?_ ?_ ?_ ?_ ?_ ?_ | refine z9w ?_ ?_ ?_ ?_ ?_ ?_ ?_ ?_ | refine z9v ?_ ?_ ?_ ?_ ?_ ?_ ?_ ?_) | (with_reducible refine zhH (G:=?_) (t:=?_) ?_ ?_ ?_ ?_ ?_ ?_ ?_ ?_ ?_;rotate_left 2;assumption;with_unfolding_all exact λh=>h) | (with_reducible refine zcL (CX:=?_) (k:=?_) ?_ ?_ ?_ ?_ ?_ ?_ ?_;rotate_left 2;with_unfolding_all exact tb) | (with_reducible refine zei (n:=0) (CX:=?_) (k:=?_) (ps:=?_) (sp:=?_) ?_ ?_ ?_ ?_;rotate_left 6;with_unfolding_all exact(‹Cf G z32 _›).c) | (with_reducible refine zei (n:=2) (CX:=?_) (k:=?_) (ps:=?_) (sp:=?_) ?_ ?_ ?_ ?_;rotate_left 6;with_unfolding_all exact(‹Cf G z0q _›).c) | with_reducible refine zkl (d:=z2F) ?_ ?_ ?_ | (with_reducible refine zkk (id:=?_) ?_ lkN ?_ ?_ ?_ ?_ ?_ ?_ ?_ ?_;rotate_left;first | exact zeN | exact zeP | (refine zeM ?_;with_unfolding_all rfl) | (refine zbT ?_;with_unfolding_all rfl) | (refine zbS ?_ ?_;with_unfolding_all rfl;with_unfolding_all exact hu) | (refine zbR ?_;with_unfolding_all rfl) | (refine zeO ?_;with_unfolding_all rfl) | (refine zbQ ?_;with_unfolding_all rfl) | (refine zbP ?_;with_unfolding_all rfl) | exact z9c) | (with_reducible refine zhI (id:=?_) ?_ lkN ?_ ?_ ?_ ?_ ?_ ?_ ?_ ?_;rotate_left;first | exact z98 | exact zbM) | (with_reducible refine zkq (id:=?_) ?_ ?_ ?_ ?_ ?_ ?_ ?_ ?_ ?_;rotate_left;first | exact zeN | exact zeP | (refine zeM ?_;with_unfolding_all rfl) | (refine zbT ?_;with_unfolding_all rfl) | (refine zbS ?_ ?_;with_unfolding_all rfl;with_unfolding_all exact hu) | (refine zbR ?_;with_unfolding_all rfl) | (refine zeO ?_;with_unfolding_all rfl) | (refine zbQ ?_;with_unfolding_all rfl) | (refine zbP ?_;with_unfolding_all rfl) | exact z9c) | (with_reducible refine zi0 (id:=?_) ?_ ?_ ?_ ?_ ?_ ?_ ?_ ?_ ?_;rotate_left;first | exact z98 | exact zbM) | with_reducible refine QF.qx ?_ | exact vx S rfl | exact qv _ | refine zfz rfl (T.nb _ (by decide)) ?_ rfl (by decide) (by decide))
 | ((with_reducible show QS _ _ _);first | (with_reducible first | refine zhy ?_ | refine zhr ?_ | refine zkf ?_ ?_ ?_ | refine zhu ?_ | refine zfh ?_ | refine zhz ?_ ?_ ?_ ?_ ?_ ?_ ?_ ?_ | refine zhx ?_ ?_ ?_ ?_ ?_ ?_ ?_ ?_ | refine zht ?_ ?_ ?_ ?_ | refine zcG ?_ ?_ ?_ | refine zhw ?_ ?_ ?_ ?_ ?_ ?_ | refine zcI ?_ ?_ ?_ ?_ ?_ ?_ ?_ ?_ ?_ | exact zcH | refine zhs ?_ ?_ ?_ ?_ ?_ | refine zcR S ?_ ?_ ?_ ?_ ?_ ?_ ?_ ?_ ?_ ?_ ?_ ?_ ?_ | refine zcQ S ?_ ?_ ?_ ?_ ?_ ?_ ?_ ?_ ?_ ?_ ?_ ?_ ?_ ?_ | refine zfg ?_ ?_ ?_ ?_ ?_) | refine ax S rfl ?_ rfl | refine QS.sh ?_)
 | ((with_reducible show QSs _ _ _);first | (with_reducible first | refine zeh ?_ | refine zay ?_ ?_ | exact zhv))
 | ((with_reducible show QT _ _ _);first | (with_reducible first | refine zhR ?_ lk2 ?_ ?_ ?_ | refine zfm ?_) | with_reducible refine zkn ?_ | with_reducible refine zfn ?_ ?_)
 | ((with_reducible show QW _ _ _);first | (with_reducible first | refine zcM ?_ | refine zfj ?_ | refine zfk ?_ ?_ | refine zhM ?_ ?_))
 | ((with_reducible show QA _ _ _);first | (with_reducible first | refine zcJ ?_ ?_ ?_ | exact zfi))
 | ((with_reducible show QI _ _ _ _);first | (with_reducible first | refine z9x ?_ ?_ ?_ ?_ | refine zcS ?_ ?_ ?_ ?_ ?_ | refine qi_x ?_))
 | (with_reducible first | exact ziX | exact ziZ | exact ziV | exact ziY | exact zfZ | exact ziW | refine zkP ?_ | refine zkK ?_ | refine zkL ?_ | refine zkN ?_ | refine zkM ?_ | exact zkO | exact zdi | exact ziK | exact zfs | refine zfr ?_ | exact zlz | exact zly | exact zjP | exact zlx | exact zlw | exact zjO | exact zlv | exact zlu | exact zdU | exact zls | exact zlr | exact zgu)
 | exact nx S rfl
 | exact zhX n1 rfl rfl
 | exact zhY n1 rfl rfl
 | refine zcT ?_ ?_ rfl
 | exact zfv
 | refine zhW rfl ?_
 | exact hr.mono (by decide)
 | exact ziA
 | exact hu
 | exact PassesOwn.never
 | exact zjf _
 | exact rfl
 | exact T.nb _ (by decide)
 | assumption
 | (intro _;rfl)
 | (intro _ _;rfl)
 | (intro _ _ _ _ n1)
 | decide
 | exact S.fs.nd
 | decide +kernel
 | (intro _ _ he hg;exact zhU he hg)
 | exact T.g_EVERY_WAY)
local macro_rules | `(tactic| walk_at "q") => `(tactic| walk_at "q2" <;> walk_at "q")
set_option hygiene false in
local macro_rules | `(tactic| walk_at "f") => `(tactic| (refine fnT F (Sc.of (by decide +kernel)) rfl rfl (λcdv A outer s H E S hr hu =>?_);first | refine zeh ?_ | refine zay ?_ ?_) <;> walk_at "q")
def z1x:Te:=⟨1,"_law_cell_at",42,2,["script","k"],z0e⟩
def z19:Te:=⟨1,"_law_free_vector",45,2,["cell","far","wide"],z0a⟩
def z0Y:Te:=⟨2,"_law_free_watches",46,1,["script","far","watches","at","size","first","wind"],z0n⟩
def z1a:Te:=⟨1,"_law_draw",43,3,["cell","k","many","prime","mixed"],z00⟩
def z27:Te:=⟨2,"_law_vector",44,3,["cell","far","line","times"],z0C⟩
def z1R:Te:=⟨3,"_law_watches",47,1,["script","base","far","line","most","watches","at","size","wind","stream"],z0T⟩
def z2q:Te:=⟨1,"turn_of",2,2,["one","other"],z1m⟩
def z1w:Te:=⟨1,"step_of",5,2,["start","end"],z0q⟩
def z3D:Te:=⟨2,"turn_by",7,3,["start","middle","end"],z32⟩
def z3f:Te:=⟨3,"chain_of",8,2,["spots","turn","kept","spot"],z2v⟩
def z1Q:Te:=⟨4,"least_round",9,2,["rising","turn","there","back"],z1V⟩
def z0p:Te:=⟨5,"least_headings",10,1,["wind"],z05⟩
def z1l:Te:=⟨1,"vector_added",4,2,["one","other"],z0F⟩
def z2c:Te:=⟨2,"goes_first",22,2,["one","other","one_rises","other_rises"],z2k⟩
def z1F:Te:=⟨3,"steps_merged",23,2,["ones","others","steps","taken","other"],z1J⟩
def z1O:Te:=⟨3,"steps_round",21,2,["corners","step_between","behind"],z1y⟩
def z4C:Te:=⟨6,"joined",24,2,["one","other","ones","others","heading","headings","step"],z4I⟩
def z2a:Te:=⟨7,"joined_all",25,1,["winds","total","wind"],z2i⟩
def z3d:Te:=⟨6,"drift_of",26,1,["watch"],z3n⟩
def z3a:Te:=⟨8,"reach_of",37,1,["watches"],z3m⟩
def z2r:Te:=⟨1,"right_of",6,1,["step"],z1Y⟩
def z1p:Te:=⟨3,"bearings_round",11,2,["corners","step_between","found","number","corner","step"],z1s⟩
def z3e:Te:=⟨1,"dot_of",3,2,["one","other"],z1K⟩
def z39:Te:=⟨6,"sides_of",12,1,["wind","sides"],z3l⟩
def z1P:Te:=⟨1,"lies_beyond",28,3,["place","bearing","most"],z1U⟩
def z1b:Te:=⟨7,"barring_bearing",29,2,["headings","place","bearing","most"],z1i⟩
def z3C:Te:=⟨1,"way_to",30,2,["vector","place"],z3k⟩
def z26:Te:=⟨2,"line_parts",31,2,["corners","place","step","whole","second"],z2h⟩
def z0U:Te:=⟨2,"triangle_parts",32,2,["corners","place","one","other","way","whole","second","third"],z0A⟩
def z16:Te:=⟨3,"triangle_around",33,2,["headings","place","number","corners"],z1e⟩
def z0V:Te:=⟨1,"common_divisor",17,2,["one","other","great","small","rest"],z0g⟩
def z4B:Te:=⟨2,"lowest",18,2,["top","bottom","divisor"],z4H⟩
def z17:Te:=⟨3,"shares_of_parts",34,3,["wind","corners","parts","whole","shares"],z0N⟩
def z2x:Te:=⟨8,"shares_to",35,2,["wind","place","headings","bearing","corners","parts"],z2G⟩
def z2b:Te:=⟨2,"heading_at",38,2,["wind","step","side","ways"],z2j⟩
def z5Y:Te:=⟨2,"added",19,2,["one","other","shared","one_times","other_times","top","rest"],z6v⟩
def z18:Te:=⟨3,"shares_in_watch",39,3,["wind","reach","shares","found","number","share","heading"],z1f⟩
def z2A:Te:=⟨9,"course_to",40,2,["watches","place","reach","answer"],z2H⟩
def z2R:Te:=⟨1,"_law_dot",50,2,["one","other"],z0m⟩
def z3E:Te:=⟨2,"_law_far",51,2,["watches","bearing","total","wind","stream"],z1z⟩
def z29:Te:=⟨3,"_law_beyond",58,3,["watches","bearing","place"],z13⟩
def z1W:Te:=⟨1,"_law_pair",63,1,["found"],z0c⟩
def z20:Te:=⟨1,"_law_whole",62,1,["found"],z09⟩
def z0Q:Te:=⟨2,"_law_shares_formed",64,1,["shares","part"],z0k⟩
def z0R:Te:=⟨3,"_law_course_formed",65,1,["course"],z0l⟩
def z0B:Te:=⟨1,"_law_lowest",48,1,["row","least","number","one","rest"],z01⟩
def z2S:Te:=⟨2,"_law_add",54,3,["place","vector","share","top","x","y"],z0v⟩
def z2P:Te:=⟨2,"_law_sum",49,2,["one","other"],z0O⟩
def z2Q:Te:=⟨3,"_law_end",55,2,["watches","course","place","k","total","j","share"],z0P⟩
def z2z:Te:=⟨3,"_law_fills",56,2,["many","shares","last","total","j","share"],z1h⟩
def z0Z:Te:=⟨4,"_law_course_right",57,3,["watches","course","place","k"],z0o⟩
def z0H:Te:=⟨2,"_law_bearing_formed",66,1,["found"],z0i⟩
def z1G:Te:=⟨10,"_law_answered",67,2,["watches","place","found"],z0J⟩
def z1o:Te:=⟨2,"_law_free_place",59,2,["cell","far","wide","x","y"],z0x⟩
def z2y:Te:=⟨2,"_law_parts",52,3,["cell","many","bottom","cut","one","two","three","rest","tops"],z1g⟩
def z28:Te:=⟨3,"_law_course",53,2,["watches","cell","course","k","bottom","tops"],z12⟩
def z3c:Te:=⟨4,"_law_goal",60,3,["watches","cell","far","place","way","size","step"],z1r⟩
def z3b:Te:=⟨2,"_law_size",61,1,["script"],z1q⟩
def zgR:Te:=⟨11,"law",68,1,["script","watches","cell"],z5j⟩
section
variable {G:Gx}{f:Addr}{fd:FuncData}(T:Txt G.K G.mg)
include T
theorem z5x (F:Fu G z1x f fd):Ft G z1x f fd:=by walk_at "f"
theorem z3S (F:Fu G z19 f fd):Ft G z19 f fd:=by walk_at "f"
theorem z3y (F:Fu G z0Y f fd)(_:Cf G z0a z19):Ft G z0Y f fd:=by walk_at "f"
theorem z83 (F:Fu G z1a f fd):Ft G z1a f fd:=by walk_at "f"
theorem z6d (F:Fu G z27 f fd)(_:Cf G z00 z1a):Ft G z27 f fd:=by walk_at "f"
theorem z5w (F:Fu G z1R f fd)(_:Cf G z0e z1x)(_:Cf G z00 z1a)(_:Cf G z0C z27)(_:Cf G z0n z0Y):Ft G z1R f fd:=by walk_at "f"
theorem z9E (F:Fu G z2q f fd):Ft G z2q f fd:=by walk_at "f"
theorem z9G (F:Fu G z1w f fd):Ft G z1w f fd:=by walk_at "f"
theorem z9F (F:Fu G z3D f fd)(_:Cf G z1m z2q)(_:Cf G z0q z1w):Ft G z3D f fd:=by walk_at "f"
theorem z85 (F:Fu G z3f f fd)(tb:FTab G.P G.w G.K G.mg G.base (CXe G.P G.w) 2 z8e):Ft G z3f f fd:=by walk_at "f"
theorem z5v (F:Fu G z1Q f fd)(_:Cf G z2v z3f):Ft G z1Q f fd:=by walk_at "f"
theorem z48 (F:Fu G z0p f fd)(_:Cf G z32 z3D)(_:Cf G z1V z1Q):Ft G z0p f fd:=by walk_at "f"
theorem z52 (F:Fu G z1l f fd):Ft G z1l f fd:=by walk_at "f"
theorem z6j (F:Fu G z2c f fd)(_:Cf G z1m z2q):Ft G z2c f fd:=by walk_at "f"
theorem z53 (F:Fu G z1F f fd)(_:Cf G z2k z2c):Ft G z1F f fd:=by walk_at "f"
theorem z5t (F:Fu G z1O f fd)(tb:FTab G.P G.w G.K G.mg G.base (CXe G.P G.w) 2 z8e):Ft G z1O f fd:=by walk_at "f"
theorem zaZ (F:Fu G z4C f fd)(_:Cf G z0F z1l)(_:Cf G z0q z1w)(_:Cf G z05 z0p)(_:Cf G z1y z1O)(_:Cf G z1J z1F):Ft G z4C f fd:=by walk_at "f"
theorem z6h (F:Fu G z2a f fd)(_:Cf G z4I z4C):Ft G z2a f fd:=by walk_at "f"
theorem z84 (F:Fu G z3d f fd)(_:Cf G z0F z1l)(_:Cf G z05 z0p):Ft G z3d f fd:=by walk_at "f"
theorem z7Z (F:Fu G z3a f fd)(_:Cf G z2i z2a)(_:Cf G z3n z3d):Ft G z3a f fd:=by walk_at "f"
theorem z7Y (F:Fu G z2r f fd):Ft G z2r f fd:=by walk_at "f"
theorem z4b (F:Fu G z1p f fd)(_:Cf G z1Y z2r)(tb:FTab G.P G.w G.K G.mg G.base (CXe G.P G.w) 2 z8e):Ft G z1p f fd:=by walk_at "f"
theorem zb0 (F:Fu G z3e f fd):Ft G z3e f fd:=by walk_at "f"
theorem z7X (F:Fu G z39 f fd)(_:Cf G z1K z3e)(_:Cf G z0q z1w)(_:Cf G z05 z0p)(_:Cf G z1s z1p):Ft G z39 f fd:=by walk_at "f"
theorem z5u (F:Fu G z1P f fd):Ft G z1P f fd:=by walk_at "f"
theorem z3T (F:Fu G z1b f fd)(_:Cf G z3l z39)(_:Cf G z1U z1P):Ft G z1b f fd:=by walk_at "f"
theorem zaX (F:Fu G z3C f fd):Ft G z3C f fd:=by walk_at "f"
theorem z6c (F:Fu G z26 f fd)(_:Cf G z1K z3e)(_:Cf G z0q z1w)(_:Cf G z3k z3C):Ft G z26 f fd:=by walk_at "f"
theorem z47 (F:Fu G z0U f fd)(_:Cf G z1m z2q)(_:Cf G z0q z1w)(_:Cf G z3k z3C):Ft G z0U f fd:=by walk_at "f"
theorem z3P (F:Fu G z16 f fd)(_:Cf G z0A z0U):Ft G z16 f fd:=by walk_at "f"
theorem z4a (F:Fu G z0V f fd):Ft G z0V f fd:=by walk_at "f"
theorem zaY (F:Fu G z4B f fd)(_:Cf G z0g z0V):Ft G z4B f fd:=by walk_at "f"
theorem z3Q (F:Fu G z17 f fd)(_:Cf G z4H z4B):Ft G z17 f fd:=by walk_at "f"
theorem z76 (F:Fu G z2x f fd)(_:Cf G z05 z0p)(_:Cf G z1i z1b)(_:Cf G z2h z26)(_:Cf G z0A z0U)(_:Cf G z1e z16)(_:Cf G z0N z17):Ft G z2x f fd:=by walk_at "f"
theorem z6i (F:Fu G z2b f fd)(_:Cf G z1K z3e)(_:Cf G z1Y z2r):Ft G z2b f fd:=by walk_at "f"
theorem zdg (F:Fu G z5Y f fd)(_:Cf G z0g z0V):Ft G z5Y f fd:=by walk_at "f"
theorem z3R (F:Fu G z18 f fd)(_:Cf G z0q z1w)(_:Cf G z6v z5Y)(_:Cf G z2j z2b):Ft G z18 f fd:=by walk_at "f"
theorem z7b (F:Fu G z2A f fd)(_:Cf G z2G z2x)(_:Cf G z3m z3a)(_:Cf G z1f z18):Ft G z2A f fd:=by walk_at "f"
theorem z9K (F:Fu G z2R f fd):Ft G z2R f fd:=by walk_at "f"
theorem z9I (F:Fu G z3E f fd)(_:Cf G z0m z2R):Ft G z3E f fd:=by walk_at "f"
theorem z6g (F:Fu G z29 f fd)(_:Cf G z0m z2R)(_:Cf G z1z z3E):Ft G z29 f fd:=by walk_at "f"
theorem z81 (F:Fu G z1W f fd):Ft G z1W f fd:=by walk_at "f"
theorem z78 (F:Fu G z20 f fd):Ft G z20 f fd:=by walk_at "f"
theorem z3q (F:Fu G z0Q f fd)(_:Cf G z09 z20)(_:Cf G z0c z1W):Ft G z0Q f fd:=by walk_at "f"
theorem z3r (F:Fu G z0R f fd)(_:Cf G z0k z0Q):Ft G z0R f fd:=by walk_at "f"
theorem z6e (F:Fu G z0B f fd):Ft G z0B f fd:=by walk_at "f"
theorem z9L (F:Fu G z2S f fd)(_:Cf G z01 z0B):Ft G z2S f fd:=by walk_at "f"
theorem z9H (F:Fu G z2P f fd)(_:Cf G z01 z0B):Ft G z2P f fd:=by walk_at "f"
theorem z9J (F:Fu G z2Q f fd)(_:Cf G z0O z2P)(_:Cf G z0v z2S):Ft G z2Q f fd:=by walk_at "f"
theorem z7a (F:Fu G z2z f fd)(_:Cf G z01 z0B)(_:Cf G z0O z2P):Ft G z2z f fd:=by walk_at "f"
theorem z3z (F:Fu G z0Z f fd)(_:Cf G z0P z2Q)(_:Cf G z1h z2z):Ft G z0Z f fd:=by walk_at "f"
theorem z2Z (F:Fu G z0H f fd)(_:Cf G z09 z20)(_:Cf G z0c z1W):Ft G z0H f fd:=by walk_at "f"
theorem z54 (F:Fu G z1G f fd)(_:Cf G z2H z2A)(_:Cf G z0o z0Z)(_:Cf G z13 z29)(_:Cf G z0c z1W)(_:Cf G z0l z0R)(_:Cf G z0i z0H):Ft G z1G f fd:=by walk_at "f"
theorem z49 (F:Fu G z1o f fd)(_:Cf G z01 z0B):Ft G z1o f fd:=by walk_at "f"
theorem z79 (F:Fu G z2y f fd)(_:Cf G z00 z1a):Ft G z2y f fd:=by walk_at "f"
theorem z6f (F:Fu G z28 f fd)(_:Cf G z00 z1a)(_:Cf G z01 z0B)(_:Cf G z1g z2y):Ft G z28 f fd:=by walk_at "f"
theorem z82 (F:Fu G z3c f fd)(_:Cf G z00 z1a)(_:Cf G z01 z0B)(_:Cf G z12 z28)(_:Cf G z0v z2S)(_:Cf G z0P z2Q)(_:Cf G z0x z1o):Ft G z3c f fd:=by walk_at "f"
theorem z80 (F:Fu G z3b f fd)(_:Cf G z0e z1x)(_:Cf G z00 z1a):Ft G z3b f fd:=by walk_at "f"
theorem ziT (F:Fu G zgR f fd)(_:Cf G z0T z1R)(_:Cf G z1r z3c)(_:Cf G z1q z3b)(_:Cf G z0J z1G):Ft G zgR f fd:=by walk_at "f"
end
def zjR {l:W.OpenLaw}{w:World}{K:W.Frag}{h:Heap}{mg:WmP}{fa f0 f1 f2 f3 f4 f5 f6 f7 f8 f9 f10 f11 f12 f13 f14 f15 f16 f17 f18 f19 f20 f21 f22 f23 f24 f25 f26 f27 f28 f29 f30 f31 f32 f33 f34 f35 f36 f37 f38 f39 f40 f41 f42 f43 f44 f45 f46 f47 f48 f49 f50 f51 f52 f53 f54 f55 f56 f57 f58:Addr}(X:K.In h)(G:h.Ns mainGlobals mg)(hfa:mg "law"=some (.ref fa))
  (d0:Std K "_law_cell_at" (top 42) f0)
  (d1:Std K "_law_free_vector" (top 45) f1)
  (d2:Std K "_law_free_watches" (top 46) f2)
  (d3:Std K "_law_draw" (top 43) f3)
  (d4:Std K "_law_vector" (top 44) f4)
  (d5:Std K "_law_watches" (top 47) f5)
  (d6:Std K "turn_of" (top 2) f6)
  (d7:Std K "step_of" (top 5) f7)
  (d8:Std K "turn_by" (top 7) f8)
  (d9:Std K "chain_of" (top 8) f9)
  (d10:Std K "least_round" (top 9) f10)
  (d11:Std K "least_headings" (top 10) f11)
  (d12:Std K "vector_added" (top 4) f12)
  (d13:Std K "goes_first" (top 22) f13)
  (d14:Std K "steps_merged" (top 23) f14)
  (d15:Std K "steps_round" (top 21) f15)
  (d16:Std K "joined" (top 24) f16)
  (d17:Std K "joined_all" (top 25) f17)
  (d18:Std K "drift_of" (top 26) f18)
  (d19:Std K "reach_of" (top 37) f19)
  (d20:Std K "right_of" (top 6) f20)
  (d21:Std K "bearings_round" (top 11) f21)
  (d22:Std K "dot_of" (top 3) f22)
  (d23:Std K "sides_of" (top 12) f23)
  (d24:Std K "lies_beyond" (top 28) f24)
  (d25:Std K "barring_bearing" (top 29) f25)
  (d26:Std K "way_to" (top 30) f26)
  (d27:Std K "line_parts" (top 31) f27)
  (d28:Std K "triangle_parts" (top 32) f28)
  (d29:Std K "triangle_around" (top 33) f29)
  (d30:Std K "common_divisor" (top 17) f30)
  (d31:Std K "lowest" (top 18) f31)
  (d32:Std K "shares_of_parts" (top 34) f32)
  (d33:Std K "shares_to" (top 35) f33)
  (d34:Std K "heading_at" (top 38) f34)
  (d35:Std K "added" (top 19) f35)
  (d36:Std K "shares_in_watch" (top 39) f36)
  (d37:Std K "course_to" (top 40) f37)
  (d38:Std K "_law_dot" (top 50) f38)
  (d39:Std K "_law_far" (top 51) f39)
  (d40:Std K "_law_beyond" (top 58) f40)
  (d41:Std K "_law_pair" (top 63) f41)
  (d42:Std K "_law_whole" (top 62) f42)
  (d43:Std K "_law_shares_formed" (top 64) f43)
  (d44:Std K "_law_course_formed" (top 65) f44)
  (d45:Std K "_law_lowest" (top 48) f45)
  (d46:Std K "_law_add" (top 54) f46)
  (d47:Std K "_law_sum" (top 49) f47)
  (d48:Std K "_law_end" (top 55) f48)
  (d49:Std K "_law_fills" (top 56) f49)
  (d50:Std K "_law_course_right" (top 57) f50)
  (d51:Std K "_law_bearing_formed" (top 66) f51)
  (d52:Std K "_law_answered" (top 67) f52)
  (d53:Std K "_law_free_place" (top 59) f53)
  (d54:Std K "_law_parts" (top 52) f54)
  (d55:Std K "_law_course" (top 53) f55)
  (d56:Std K "_law_goal" (top 60) f56)
  (d57:Std K "_law_size" (top 61) f57)
  (d58:Std K "law" (top 68) f58)
  (zb:∀b∈BL,W.nsIn K mainGlobals b=some none)
  (z_fnturn_among:W.nsIn K mainGlobals "turn_among"=some none)
  (z_fnstep_among:W.nsIn K mainGlobals "step_among"=some none)
  (z_fn:W.nsIn K mainGlobals ""=some none)
  {ya_EVERY_WAY:Addr}(y_EVERY_WAY:W.nsIn K mainGlobals "EVERY_WAY"=some (some (.ref ya_EVERY_WAY))) (yy_EVERY_WAY:z7j K z2F (.ref ya_EVERY_WAY)=true)
  : ∃fd:FuncData,(∀(s:Shared) (v:Value),BindsTo s fd ⟨[v],[]⟩ [("script",v)])/\∀base:Heap,K.In base->base.Ns mainGlobals mg->FnOk l.prog w K mg base (CXe l.prog w) 11 fa fd ["script"] (spL K):=by
 have T:Txt K mg:=⟨λb hb=>jP X G (zb b hb),⟨_,W.mg_of X G y_EVERY_WAY,yy_EVERY_WAY⟩⟩
 refine zgM X G d58 hfa (λ_ _ _ _ _ _ s v =>.of_eq rfl) λbase kb nb fd F =>?_;have ct := @zlm K h mg base l.prog w X G;have q0:=ct z1x d0 λ_ F=>z5x T F;have q1:=ct z19 d1 λ_ F=>z3S T F;have q3:=ct z0Y d2 λ_ F=>z3y T F q1;have q4:=ct z1a d3 λ_ F=>z83 T F;have q5:=ct z27 d4 λ_ F=>z6d T F q4;have q6:=ct z1R d5 λ_ F=>z5w T F q0 q4 q5 q3;have q7:=ct z2q d6 λ_ F=>z9E T F;have q8:=ct z1w d7 λ_ F=>z9G T F;have q9:=ct z3D d8 λ_ F=>z9F T F q7 q8;have FT:FTab l.prog w K mg base (CXe l.prog w) 2 z8e:=FTab.mk (jP X G z_fn) λn hn f e=>by
  match n,hn with
  | 0,_=>exact q9.c.tab (by decide) f e
  | 1,_=>rw[show z5h 1="turn_among" from rfl,jP X G z_fnturn_among] at e;cases e
  | 2,_=>exact q8.c.tab (by decide) f e
  | 3,_=>rw[show z5h 3="step_among" from rfl,jP X G z_fnstep_among] at e;cases e
 have qa:=ct z3f d9 λ_ F=>z85 T F FT;have qb:=ct z1Q d10 λ_ F=>z5v T F qa;have qc:=ct z0p d11 λ_ F=>z48 T F q9 qb;have qd:=ct z1l d12 λ_ F=>z52 T F;have qe:=ct z2c d13 λ_ F=>z6j T F q7;have qf:=ct z1F d14 λ_ F=>z53 T F qe;have qg:=ct z1O d15 λ_ F=>z5t T F FT;have qh:=ct z4C d16 λ_ F=>zaZ T F qd q8 qc qg qf;have qi:=ct z2a d17 λ_ F=>z6h T F qh;have qj:=ct z3d d18 λ_ F=>z84 T F qd qc;have qk:=ct z3a d19 λ_ F=>z7Z T F qi qj;have ql:=ct z2r d20 λ_ F=>z7Y T F;have qm:=ct z1p d21 λ_ F=>z4b T F ql FT;have qn:=ct z3e d22 λ_ F=>zb0 T F;have qo:=ct z39 d23 λ_ F=>z7X T F qn q8 qc qm;have qp:=ct z1P d24 λ_ F=>z5u T F;have qq:=ct z1b d25 λ_ F=>z3T T F qo qp;have qr:=ct z3C d26 λ_ F=>zaX T F;have qs:=ct z26 d27 λ_ F=>z6c T F qn q8 qr;have qt:=ct z0U d28 λ_ F=>z47 T F q7 q8 qr;have qu:=ct z16 d29 λ_ F=>z3P T F qt;have qw:=ct z0V d30 λ_ F=>z4a T F;have qy:=ct z4B d31 λ_ F=>zaY T F qw;have qz:=ct z17 d32 λ_ F=>z3Q T F qy;have qA:=ct z2x d33 λ_ F=>z76 T F qc qq qs qt qu qz;have qB:=ct z2b d34 λ_ F=>z6i T F qn ql;have qC:=ct z5Y d35 λ_ F=>zdg T F qw;have qD:=ct z18 d36 λ_ F=>z3R T F q8 qC qB
 have qE:=ct z2A d37 λ_ F=>z7b T F qA qk qD;have qF:=ct z2R d38 λ_ F=>z9K T F;have qG:=ct z3E d39 λ_ F=>z9I T F qF;have qH:=ct z29 d40 λ_ F=>z6g T F qF qG;have qI:=ct z1W d41 λ_ F=>z81 T F;have qJ:=ct z20 d42 λ_ F=>z78 T F;have qK:=ct z0Q d43 λ_ F=>z3q T F qJ qI;have qL:=ct z0R d44 λ_ F=>z3r T F qK;have qM:=ct z0B d45 λ_ F=>z6e T F;have qN:=ct z2S d46 λ_ F=>z9L T F qM;have qO:=ct z2P d47 λ_ F=>z9H T F qM;have qP:=ct z2Q d48 λ_ F=>z9J T F qO qN;have qQ:=ct z2z d49 λ_ F=>z7a T F qM qO;have qR:=ct z0Z d50 λ_ F=>z3z T F qP qQ;have qS:=ct z0H d51 λ_ F=>z2Z T F qJ qI;have qT:=ct z1G d52 λ_ F=>z54 T F qE qR qH qI qL qS;have qU:=ct z1o d53 λ_ F=>z49 T F qM;have qV:=ct z2y d54 λ_ F=>z79 T F q4;have qW:=ct z28 d55 λ_ F=>z6f T F q4 qM qV;have qX:=ct z3c d56 λ_ F=>z82 T F q4 qM qW qN qP qU;have qY:=ct z3b d57 λ_ F=>z80 T F q0 q4;exact zjq zgb (ziT (G:=⟨l.prog,w,K,mg,base⟩) T F q6 qX qY qT)
def walk {l:W.OpenLaw}{q:Program}{loose:List Str}{XP:(Str->Option Value)->Heap->Prop}{YP:World->Heap->Prop}{d:DefRec}{K:Params->W.Frag}(hn:l.most=some 63)(hdf:d.params.defaults=[])
  (hY:∀(w:World) (h:Heap),YP w h->(K w.params).In h) (hT:∀(w:World) (h:Heap),YP w h->∀P t,(tsOf (K w.params)).lookup P=some t->h.get? P=some { cls :=.none,data :=.fields #[] })
  (F:∀(w:World) (mg:WmP) (fa:Addr) (h:Heap),(K w.params).In h->h.Ns mainGlobals mg->mg d.name=some (.ref fa)->
   ∃fd:FuncData,(∀(s:Shared) (u:Value),BindsTo s fd ⟨[u],[]⟩ [("script",u)])/\∀base:Heap,(K w.params).In base->base.Ns mainGlobals mg->FnOk l.prog w (K w.params) mg base (CXe l.prog w) 11 fa fd ["script"] (spL (K w.params))):
  W.WalkO q loose XP YP l.row.toRowW d [] (λf vs=>PySem.call f vs):=
 L2.zeQ (n:=63) (k:=11) (x:="script") (CX:=λw=>(CXe l.prog w)) (sp:=λw=>spL (K w.params)) hn (by decide) hdf ⟨rfl,by decide,by decide⟩ hY hT F (λ_ _ a ns hl hS=>⟨a,ns,rfl,hS,hl,λ_=>rfl⟩) λ_ _ _ _ _ ⟨_,_,_,_,_,_,_,_,_,z⟩=>z
end My
open PySem PySem.W PyProof.Rows
local macro_rules | `(tactic| walk_at "ks") => `(tactic| (refine' Pu.Std.mk ?a ?l ?c ?k;(case a=>k_is);(case l=>k_is);(case c=>k_is);(case k=>k_is)))
set_option maxRecDepth 100000 in
set_option maxHeartbeats 0 in
theorem PySem.Challenge.cw_closehaul_k26_whole_course_or_bar_holds : PySem.Challenge.rw_closehaul_k26_whole_course_or_bar.Holds := by
 w_on;o_law;k_head;(case hw=>w_witness2)
 k_fill
 refine My.walk (l:=PySem.Challenge.rw_closehaul_k26_whole_course_or_bar) rfl rfl (λw h Y=>W.kIn_of Y) (λw h Y=>λP t e=>by rw[show L2.tsOf _=[] from by kernel_rfl] at e;cases e) ?F
 case F=>
  intro w mg fa h KX G hmg;refine' My.zjR KX G hmg ?_ ?_ ?_ ?_ ?_ ?_ ?_ ?_ ?_ ?_ ?_ ?_ ?_ ?_ ?_ ?_ ?_ ?_ ?_ ?_ ?_ ?_ ?_ ?_ ?_ ?_ ?_ ?_ ?_ ?_ ?_ ?_ ?_ ?_ ?_ ?_ ?_ ?_ ?_ ?_ ?_ ?_ ?_ ?_ ?_ ?_ ?_ ?_ ?_ ?_ ?_ ?_ ?_ ?_ ?_ ?_ ?_ ?_ ?_ ?_ ?_ ?_ ?_ ?_ ?_
  all_goals first | walk_at "ks" | k_is | kernel_rfl | ((repeat refine List.forall_mem_cons.2 ⟨by k_is,?_⟩);intro _ h;cases h) | skip
